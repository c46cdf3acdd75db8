import PyProof.Rows.All
import Wide.All
import OpenK.AllK
import Wide.FinOn
import Lean
import PyProof.EqAt
import PyProof.EqKinds
import PyProof.TupleCall
import KE.KRevIter
import KE.KDictList
import PyProof.ZipIter
import PyProof.Draws
import PyProof.DictWalks
import PyProof.AttrMiss
import PyProof.FactsAll.zip_1
import KE.KDictOf
import PyProof.Rows.FStr
import PyProof.AutoSeq1
import PyProof.EnumMake
import PyProof.CallType
import PyProof.Rows.CallKwBuiltin
import PyProof.DictUpdate
import PyProof.NoPylong
import KE.KDictMeth
import PyProof.DictItemsLoops
import PyProof.SumWalk
import PyProof.SumWalkG
import PyProof.Rows.SumGenD
import PyProof.StrBlockH
import KE.KIntText
import KE.IntTextLaws
import OpenK.KTop
import PyProof.ExcBaseAll.ValueError
import KE.KTryMore
import PyProof.ReprStr
import OpenK.KDescr
import KE.KIsAll
import PyProof.ExcArgs
import PyProof.RulesAs
import KE.IntTextText
import PyProof.StrReplace2
import PyProof.StrCalls6
import PyProof.StrBlockL
import PyProof.Rows.StrIntSpec
import PyProof.StrLawsRepr
import PyProof.StrLawsIn
import KE.RegKTryMore
import KE.RegKIsAll
import PySem.Challenge.RW_idlegraph_k18_bad_words
set_option Elab.async false
set_option linter.all false
set_option maxRecDepth 100000
set_option maxHeartbeats 4000000
set_option genSizeOf false
set_option compiler.extract_closed false
def XA:=@PySem.wpAny_bind
def XB:=@PySem.wpAny_pure
def XC:=@PySem.Heap.get?_push_of_some
def XD:=@PySem.Heap.lt_size
def XE:=@Nat.le_refl
def XF:=@PySem.Heap.get?_push_size
def XG:=@Nat.lt_of_lt_of_le
def XH:=@Nat.ne_of_lt
def XI:=@List.length_map
def XJ:=@List.size_toArray
def XL:=@List.map_append
def XM:=@List.getElem?_map
def XO:=@Nat.zero_le
def XQ:=@List.mem_singleton
def XR:=@List.mem_map
def XS:=@List.mem_append
def XT:=@List.mem_append_right
def XU:=@beq_self_eq_true
def XV:=@List.mem_cons_of_mem
def XW:=@Int.le_refl
def XX:=@if_neg
def XY:=@if_pos
def XZ:=@PySem.F.plainAttrs_list
def YA:=@PySem.F.type_list_append
def YB:=@PySem.F.slot_list_append
def YC:=@PySem.Str.length_append
def YD:=@List.take_add_one
def YE:=@List.map_map
def YF:=@List.length_cons
def YG:=@decide_eq_false
def YH:=@Option.some.inj
def YI:=@List.map_cons
def YJ:=@Bool.false_ne_true
def YK:=@List.append_nil
def YL:=@List.append_assoc
def YM:=@List.length_take
def YN:=@List.getElem_mem
def YO:=@Int.emod_nonneg
def ZNB {a b:Nat} (h:Nat.ble a b=true):a<=b:=Nat.le_of_ble_eq_true h
def ZM {α:Type}{x a:α}{l:List α}:x∈a::l↔x=a\/x∈l:=List.mem_cons
def ZN {α:Type}{x:α}:x∈([]:List α)↔False:=⟨List.not_mem_nil,False.elim⟩
namespace L2
open PySem PySem.Spec PyProof.Rows
abbrev X2:=Sum Int Str
def xR:X2->Value->Bool
 | .inl k,v=>Value.isInt k v
 | .inr x,v=>Value.isStrOf x v
def pW (w:World):X2->Int
 | .inl k=>hashInt k
 | .inr x=>hashStr w x
def Y9:∀{k:X2} {v:Value},xR k v=true->(∃i t,k=Sum.inl i/\v=Value.int i t)\/(∃x t,k=Sum.inr x/\v=Value.str x t)
 | .inl i,v,h=>by
  obtain⟨t,e⟩:=Value.isInt_shape (k:=i) (v:=v) h
  exact .inl ⟨i,t,rfl,e⟩
 | .inr x,v,h=>by
  obtain⟨t,e⟩:=Value.isStrOf_shape (x:=x) (v:=v) h
  exact .inr ⟨x,t,rfl,e⟩
def ue (a b:Int):decide ((Sum.inl a:X2)=Sum.inl b)=(a==b):=by
 by_cases e:a=b
 ·subst e;simp
 ·have h:¬(Sum.inl a:X2)=Sum.inl b:=λq=>e (Sum.inl.inj q)
  rw[YG h]
  exact(beq_eq_false_iff_ne.mpr e).symm
def ub (a b:Str):decide ((Sum.inr a:X2)=Sum.inr b)=decide (a=b):=by
 by_cases e:a=b
 ·subst e;simp
 ·have h:¬(Sum.inr a:X2)=Sum.inr b:=λq=>e (Sum.inr.inj q)
  rw[YG h,YG e]
def ud (a:Int)(b:Str):decide ((Sum.inl a:X2)=Sum.inr b)=false:=YG (λq=>nomatch q)
def uc (a:Str)(b:Int):decide ((Sum.inr a:X2)=Sum.inl b)=false:=YG (λq=>nomatch q)
def Kt (prog:Program)(w:World):PySem.KeyKind prog w X2 where
 is:=xR
 hash:=pW w
 inj:=λv a b ha hb=>by
  rcases Y9 ha with⟨i,t,rfl,rfl⟩ | ⟨x,t,rfl,rfl⟩
  ·rcases Y9 hb with⟨j,u,rfl,e⟩ | ⟨y,u,rfl,e⟩
   ·injection e with e1 _;rw[e1]
   ·exact nomatch e
  ·rcases Y9 hb with⟨j,u,rfl,e⟩ | ⟨y,u,rfl,e⟩
   ·exact nomatch e
   ·injection e with e1 _;rw[e1]
 byValue:=λk v h=>by
  rcases Y9 h with⟨i,t,rfl,rfl⟩ | ⟨x,t,rfl,rfl⟩<;>rfl
 pyHash:=λhv h=>by
  rcases Y9 hv with⟨i,t,rfl,rfl⟩ | ⟨x,t,rfl,rfl⟩
  ·exact wpAny_pyHash_int h
  ·exact wpAny_pyHash_str h
 eqBool:=λhu hv h=>by
  rcases Y9 hu with⟨i,t,rfl,rfl⟩ | ⟨x,t,rfl,rfl⟩
  ·rcases Y9 hv with⟨j,u,rfl,rfl⟩ | ⟨y,u,rfl,rfl⟩
   ·rw[ue] at h;exact wpAny_eqBool_int h
   ·rw[ud] at h;exact SeqAt.EqAt.int_str i t y u _ _ _ _ h
  ·rcases Y9 hv with⟨j,u,rfl,rfl⟩ | ⟨y,u,rfl,rfl⟩
   ·rw[uc] at h;exact SeqAt.EqAt.str_int x t j u _ _ _ _ h
   ·rw[ub] at h;exact wpAny_eqBool_str h
 «strs»:=λk x t v h=>by
  rcases Y9 h with⟨i,u,rfl,e⟩ | ⟨y,u,rfl,e⟩
  ·exact nomatch e
  ·injection e with e1 _
   subst e1
   cases v<;>rfl
inductive V where
 | non | bl (b:Bool) | int (i:Int) | str (x:Str) | byt (b:Array UInt8) | flt (b:UInt64) | ref (a:Addr) | ty (n:String)
 deriving DecidableEq
def Z3:V->Value->Prop
 | .non,u=>u=Value.none
 | .bl b,u=>u=Value.bool b
 | .int i,u=>∃t,u=Value.int i t
 | .str x,u=>∃t,u=Value.str x t
 | .byt b,u=>∃t,u=Value.bytes b t
 | .flt b,u=>∃t,u=Value.float b t
 | .ref a,u=>u=Value.ref a
 | .ty n,u=>u=Value.type n
abbrev Zx:List V->List Value->Prop:=Paired Z3
def Zx.length {xs:List V}{us:List Value}(r:Zx xs us):xs.length=us.length:=Paired.length r
def Zx.get:∀{xs:List V} {us:List Value} {i:Nat} {x:V},Zx xs us->xs[i]?=some x->∃u,us[i]?=some u/\Z3 x u
 | _,_,_,_,.nil,e=>by simp at e
 | _,_,0,_,.cons r _,e=>by simp at e;subst e;exact⟨_,rfl,r⟩
 | _,_,i+1,x,.cons _ t,e=>by
  obtain⟨u,h1,h2⟩:=Zx.get (i:=i) (x:=x) t (by simpa using e)
  exact⟨u,by simpa using h1,h2⟩
def Zx.append:∀{xs ys:List V} {us ws:List Value},Zx xs us->Zx ys ws->Zx (xs++ys) (us++ws)
 | _,_,_,_,.nil,s=>s
 | _,_,_,_,.cons r t,s=>.cons r (Zx.append t s)
def Zx.take:∀{xs:List V} {us:List Value} (n:Nat),Zx xs us->Zx (xs.take n) (us.take n)
 | _,_,0,_=>.nil
 | _,_,_+1,.nil=>.nil
 | _,_,n+1,.cons r t=>.cons r (Zx.take n t)
def Zx.drop:∀{xs:List V} {us:List Value} (n:Nat),Zx xs us->Zx (xs.drop n) (us.drop n)
 | _,_,0,r=>r
 | _,_,_+1,.nil=>.nil
 | _,_,n+1,.cons _ t=>Zx.drop n t
def tf:Option V->Option Value->Prop
 | some v,some u=>Z3 v u
 | none,none=>True
 | _,_=>False
def KV {κ:Type}:List (κ×V)->List (κ×Value)->Prop:=Paired λ(p:κ×V) (q:κ×Value)=>p.1=q.1/\Z3 p.2 q.2
def kV:X2->V
 | .inl i=>.int i
 | .inr x=>.str x
inductive HO where
  | lst (xs:List V)
  | tup (xs:List V)
  | dK (kvs:List (X2×V)) | dT (kvs:List (List X2×V))
  | set (S:Int->Bool) (n:Nat)
  | ins (C dx:Addr) (fs:List (Str×V))
  | own (x:Addr)
  | xd (fs:List (Str×V))
  | met (f x:Addr)
  | rng (lo hi:Int)
  | frz (o:Obj) (u:HO)
  | tbl (ps:Array Value)
  | ext (φ:Heap->Prop)
abbrev Hp:=Addr->Option HO
def Je (H:Hp)(a:Addr)(o:HO):Hp:=λb=>if b=a then some o else H b
def Yy {H:Hp}{a:Addr}{o:HO}:Je H a o a=some o:=by unfold Je;rw[XY rfl]
def Z6 {H:Hp}{a b:Addr}{o:HO}(h:b≠a):Je H a o b=H b:=by unfold Je;rw[XX h]
def Jc {H:Hp}{a b:Addr}{o:HO}(h:H a=some o)(h':H b=none):a≠b:=by
 intro e;subst e;rw[h] at h';cases h'
section
variable (P:Program)(w:World)
def Yt (H:Hp)(h:Heap)(a:Addr):HO->Prop
 | .lst xs=>xs.length<=sizeLine/\∃(its:List Value) (n:Nat),Zx xs its/\h.get? a=some {cls:=.type "list",data:=.seq its.toArray n}
 | .tup xs=>xs.length<=sizeLine/\∃its:List Value,Zx xs its/\IsTup h a its.toArray
 | .dK kvs=>kvs.length<=sizeLine/\(a==sysModules)=false/\∃vs,KV kvs vs/\h.DictOf (Kt P w) a vs
 | .dT kvs=>kvs.length<=sizeLine/\(a==sysModules)=false/\∃xs:List (List X2×Addr×Value),
   Paired (λ(p:List X2×V) (q:List X2×Addr×Value)=>p.1=q.1/\H q.2.1=some (.tup (p.1.map kV))/\Z3 p.2 q.2.2) kvs xs/\
   ∃o es ep,h.get? a=some o/\o.ExactDict/\o.data=.dict es ep/\es.toList=xs.map (entryOfKey (tupleKind (Kt P w)))/\(xs.map (·.1)).Nodup
 | .set S n=>h.SetOf (intKind P w) a S n
 | .ins C dx fs=>H dx=some (.own a)/\fs.length<=1000/\dx≠a/\h.get? a=some (W.instObj C dx)/\
   ∃mA,h.Ns1 dx mA/\(∀f,tf (fs.lookup f) (mA f))/\PySem.Within mA (fs.map (·.1))
 | .own _=>∃o,h.get? a=some o
 | .xd fs=>∃mA,h.Ns1 a mA/\∀f,tf (fs.lookup f) (mA f)
 | .rng lo hi=>∃t u v,h.get? a=some {cls:=.type "range",data:=.fields #[.int lo t,.int hi u,.int 1 v]}
 | .frz o u=>h.get? a=some o/\Yt H h a u
 | .tbl ps=>h.get? a=some {cls:=.none,data:=.fields ps}
 | .met f x=>h.get? a=some (W.methodObj (.ref f) (.ref x))
 | .ext φ=>φ h/\(∃o,h.get? a=some o)/\∀h1 h2:Heap,φ h1->(∀o,h1.get? a=some o->h2.get? a=some o)->φ h2
def Vl (H:Hp)(h:Heap):Prop:=∀a o,H a=some o->Yt P w H h a o
end
section
variable {P:Program}{w:World}{H H':Hp}{h h':Heap}{a:Addr}{o:HO}
def Yt.lt (x:Yt P w H h a o):a<h.objs.size:=by
 cases o with
 | lst xs=>obtain⟨_,_,_,_,e⟩:=x;exact XD e
 | tup xs=>obtain⟨_,_,_,p⟩:=x;exact p.lt
 | dK kvs=>obtain⟨_,_,_,_,o,_,_,e,_⟩:=x;exact XD e
 | dT kvs=>obtain⟨_,_,_,_,o,_,_,e,_⟩:=x;exact XD e
 | set S n=>obtain⟨o,_,_,_,e,_⟩:=x;exact XD e
 | ins C dx fs=>obtain⟨_,_,_,e,_⟩:=x;exact XD e
 | own y=>obtain⟨_,e⟩:=x;exact XD e
 | xd fs=>obtain⟨_,⟨_,_,_,e,_⟩,_⟩:=x;exact XD e
 | rng lo hi=>obtain⟨_,_,_,e⟩:=x;exact XD e
 | frz ob u=>obtain⟨e,_⟩:=x;exact XD e
 | tbl ps=>exact XD (show h.get? a=some _ from x)
 | met f y=>exact XD (show h.get? a=some _ from x)
 | ext φ=>obtain⟨_,⟨_,e⟩,_⟩:=x;exact XD e
def Paired.mapP {α β:Type}{F G:α->β->Prop}:∀{l₁:List α} {l₂:List β},Paired F l₁ l₂->(∀a b,F a b->G a b)->Paired G l₁ l₂
 | _,_,.nil,_=>.nil
 | _,_,.cons r t,f=>.cons (f _ _ r) (Paired.mapP t f)
def Yt.stay (x:Yt P w H h a o)(k:∀b u,(b=a\/H b=some (.own a))->h.get? b=some u->h'.get? b=some u)
  (ho:∀b,H b=some (.own a)->H' b=some (.own a)) (ht:∀b xs,H b=some (.tup xs)->H' b=some (.tup xs)):Yt P w H' h' a o:=by
 induction o with
 | lst xs=>obtain⟨z,its,n,r,e⟩:=x;exact⟨z,its,n,r,k _ _ (.inl rfl) e⟩
 | tup xs=>obtain⟨z,its,r,ob,e,c⟩:=x;exact⟨z,its,r,ob,k _ _ (.inl rfl) e,c⟩
 | dK kvs=>obtain⟨z,y,vs,r,ob,es,ep,e,c⟩:=x;exact⟨z,y,vs,r,ob,es,ep,k _ _ (.inl rfl) e,c⟩
 | dT kvs=>
  obtain⟨z,y,xs,r,ob,es,ep,e,c⟩:=x
  exact⟨z,y,xs,Paired.mapP r λp q z=>⟨z.1,ht _ _ z.2.1,z.2.2⟩,ob,es,ep,k _ _ (.inl rfl) e,c⟩
 | set S n=>obtain⟨ob,es,ep,t,e,c⟩:=x;exact⟨ob,es,ep,t,k _ _ (.inl rfl) e,c⟩
 | ins C dx fs=>
  obtain⟨d,z,ne,e,mA,⟨od,es,ep,e2,c⟩,r⟩:=x
  exact⟨ho _ d,z,ne,k _ _ (.inl rfl) e,mA,⟨od,es,ep,k _ _ (.inr d) e2,c⟩,r⟩
 | own y=>obtain⟨ob,e⟩:=x;exact⟨ob,k _ _ (.inl rfl) e⟩
 | xd fs=>obtain⟨mA,⟨od,es,ep,e,c⟩,r⟩:=x;exact⟨mA,⟨od,es,ep,k _ _ (.inl rfl) e,c⟩,r⟩
 | rng lo hi=>obtain⟨t,u,v,e⟩:=x;exact⟨t,u,v,k _ _ (.inl rfl) e⟩
 | frz ob u ih=>obtain⟨e,q⟩:=x;exact⟨k _ _ (.inl rfl) e,ih q⟩
 | tbl ps=>
  have e:h.get? a=some {cls:=.none,data:=.fields ps}:=x
  show h'.get? a=some {cls:=.none,data:=.fields ps}
  exact k a _ (.inl rfl) e
 | met f y=>
  have e:h.get? a=some (W.methodObj (.ref f) (.ref y)):=x
  show h'.get? a=some (W.methodObj (.ref f) (.ref y))
  exact k a _ (.inl rfl) e
 | ext φ=>obtain⟨p,⟨o,e⟩,st⟩:=x;exact⟨st _ _ p λo q=>k _ _ (.inl rfl) q,⟨o,k _ _ (.inl rfl) e⟩,st⟩
def Vl.lt (x:Vl P w H h)(e:H a=some o):a<h.objs.size:=(x a o e).lt
def Vl.fresh (x:Vl P w H h)(e:h.objs.size<=a):H a=none:=by
 cases q:H a with
 | none=>rfl
 | some u=>exact absurd (XG (x.lt q) e) (Nat.lt_irrefl _)
def Vl.kept (x:Vl P w H h)(k:∀b u,h.get? b=some u->h'.get? b=some u):Vl P w H h':=λa o e=>
 (x a o e).stay (λb u _ q=>k b u q) (λ_ q=>q) λ_ _ q=>q
def Vl.laid (x:Vl P w H h)(k:∀b u,h.get? b=some u->h'.get? b=some u)(hp:h.objs.size<=a)(new:Yt P w (Je H a o) h' a o):Vl P w (Je H a o) h':=λb u e=>by
 have hn:=x.fresh hp
 by_cases hb:b=a
 ·subst hb;rw[Yy] at e;cases e;exact new
 ·rw[Z6 hb] at e
  exact(x b u e).stay (λc v _ q=>k c v q) (λc q=>by rw[Z6 (Jc q hn)];exact q) λc xs q=>by rw[Z6 (Jc q hn)];exact q
end
def Rd (H:Hp)(a:Addr)(u:HO):Prop:=H a=some u\/∃o,H a=some (.frz o u)
def Rd.ok {P:Program}{w:World}{H:Hp}{h:Heap}{a:Addr}{u:HO}(r:Rd H a u)(x:Vl P w H h):Yt P w H h a u:=by
 rcases r with r | ⟨o,r⟩
 ·exact x a u r
 ·obtain⟨_,q⟩:=x a _ r
  exact q
def qR:Option HO->Prop
 | some (.lst _)=>True
 | some (.dK _)=>True
 | some (.dT _)=>True
 | some (.set _ _)=>True
 | some (.ins _ _ _)=>True
 | some (.ext _)=>True
 | _=>False
section
variable {P:Program}{w:World}{H:Hp}{h h':Heap}{x e:Addr}{o':HO}
def Vl.write (ok:Vl P w H h)(mu:qR (H x))(he:e=x\/H e=some (.own x))(k:∀b u,b≠e->h.get? b=some u->h'.get? b=some u)(heo:∃u,h'.get? e=some u)
  (new:Yt P w (Je H x o') h' x o'):Vl P w (Je H x o') h':=λb u q=>by
 have nown:∀c y,H c=some (.own y)->c≠x:=λc y r z=>by subst z;rw[r] at mu;exact mu
 have ntup:∀c xs,H c=some (.tup xs)->c≠x:=λc xs r z=>by subst z;rw[r] at mu;exact mu
 by_cases hb:b=x
 ·subst hb;rw[Yy] at q;cases q;exact new
 ·rw[Z6 hb] at q
  by_cases hbe:b=e
  ·have q':H b=some (.own x):=by
    rcases he with z | z
    ·exact absurd (hbe.trans z) hb
    ·rw[hbe];exact z
   rw[q] at q';cases q'
   obtain⟨v,hv⟩:=heo
   exact⟨v,by rw[hbe];exact hv⟩
  ·refine(ok b u q).stay (λc v hc r=>k c v ?_ r) (λc r=>by rw[Z6 (nown c b r)];exact r) λc xs r=>by rw[Z6 (ntup c xs r)];exact r
   rcases hc with rfl | hc
   ·exact hbe
   ·rintro rfl
    rcases he with z | z
    ·exact nown c b hc z
    ·rw[hc] at z;cases z;exact hb rfl
end
structure Un (fs ex:List Addr)(H H':Hp)(h h':Heap):Prop where
 keep:∀b o,h.get? b=some o->H b=none->b∉fs->b∉ex->h'.get? b=some o
 slot:∀b o,h.get? b=some o->H b=none->b∈fs->b∉ex->∃sl,h'.get? b=some {o with slots:=sl}
 free:∀b o,h.get? b=some o->H b=none->b∉ex->H' b=none
 there:∀b o,h.get? b=some o->b∉ex->∃o',h'.get? b=some o'
 tups:∀b xs,H b=some (.tup xs)->H' b=some (.tup xs)
 frzs:∀b o u,H b=some (.frz o u)->H' b=some (.frz o u)
 tbls:∀b ps,H b=some (.tbl ps)->∃more,H' b=some (.tbl (ps++more))
section
variable {fs fs' ex ex':List Addr}{H H1 H2:Hp}{h h1 h2 h':Heap}{a x e:Addr}{o:HO}
def Un.any (u:Un fs ex H H1 h h1){b:Addr}{ob:Obj}(q:h.get? b=some ob)(n:H b=none)(hx:b∉ex):∃sl,h1.get? b=some {ob with slots:=sl}:=by
 by_cases hb:b∈fs
 ·exact u.slot b ob q n hb hx
 ·exact⟨ob.slots,u.keep b ob q n hb hx⟩
def Un.kept (k:∀b u,h.get? b=some u->h'.get? b=some u):Un fs ex H H h h':=
 ⟨λb ob q _ _ _=>k b ob q,λb ob q _ _ _=>⟨ob.slots,k b ob q⟩,λ_ _ _ n _=>n,λb ob q _=>⟨ob,k b ob q⟩,λ_ _ q=>q,λ_ _ _ q=>q,λ_ ps q=>⟨#[],by rw[q];simp⟩⟩
def Un.refl:Un fs ex H H h h:=Un.kept λ_ _ q=>q
def Un.laid (k:∀b u,h.get? b=some u->h'.get? b=some u)(hp:h.objs.size<=a)(hn:H a=none):Un fs ex H (Je H a o) h h' where
 keep:=λb u q _ _ _=>k b u q
 slot:=λb u q _ _ _=>⟨u.slots,k b u q⟩
 free:=λb u q n _=>by rw[Z6 (XH (XG (XD q) hp))];exact n
 there:=λb u q _=>⟨u,k b u q⟩
 tups:=λb xs q=>by rw[Z6 (Jc q hn)];exact q
 frzs:=λb u xs q=>by rw[Z6 (Jc q hn)];exact q
 tbls:=λb ps q=>⟨#[],by rw[Z6 (Jc q hn),q];simp⟩
def Un.write (mu:qR (H x))(he:e=x\/H e=some (.own x))(k:∀b u,b≠e->h.get? b=some u->h'.get? b=some u)(heo:∃u,h'.get? e=some u):Un fs ex H (Je H x o) h h':=by
 have hx:∀b,H b=none->b≠x:=λb n z=>by subst z;rw[n] at mu;exact mu
 have hb:∀b,H b=none->b≠e:=λb n z=>by
  subst z
  rcases he with r | r
  ·exact hx b n r
  ·rw[n] at r;cases r
 have hm:∀b u,H b=some u->¬qR (some u)->b≠x:=λb u q nm z=>by subst z;rw[q] at mu;exact nm mu
 refine⟨λb u q n _ _=>k b u (hb b n) q,λb u q n _ _=>⟨u.slots,k b u (hb b n) q⟩,λb u q n _=>by rw[Z6 (hx b n)];exact n,λb u q _=>?_,
  λb xs q=>by rw[Z6 (hm b _ q λz=>z)];exact q,λb u xs q=>by rw[Z6 (hm b _ q λz=>z)];exact q,λb ps q=>⟨#[],by rw[Z6 (hm b _ q λz=>z),q];simp⟩⟩
 by_cases hbe:b=e
 ·subst hbe;exact heo
 ·exact⟨u,k b u hbe q⟩
end
def qE (h:Heap)(H:Hp):List Addr:=(List.range h.objs.size).filter λa=>(H a).isSome
def K1 (h:Heap)(H:Hp):Heap:=W.hideAll h (qE h H)
def B3 (h:Heap)(H:Hp):(K1 h H).objs.size=h.objs.size:=W.hideAll_size _ _
def zS {h:Heap}{H:Hp}{b:Addr}{o:Obj}(e:h.get? b=some o)(n:H b=none):(K1 h H).get? b=some o:=
 W.hideAll_get _ e λhm=>by
  have q:(H b).isSome=true:=(List.mem_filter.mp hm).2
  rw[n] at q;simp at q
def jH {h:Heap}{H:Hp}{b:Addr}{o:Obj}(e:(K1 h H).get? b=some o):h.get? b=some o/\H b=none:=by
 have e':h.get? b=some o:=W.of_hideAll (qE h H) e
 refine⟨e',?_⟩
 cases q:H b with
 | none=>rfl
 | some x=>
  have hm:b∈qE h H:=List.mem_filter.mpr ⟨List.mem_range.mpr (Heap.lt_size e'),by simp[q]⟩
  have z:(K1 h H).get? b=none:=W.hideAll_none (qE h H) hm
  rw[z] at e;cases e
def xx (g h:Heap)(L:Addr):List (Addr×Obj):=(List.range h.objs.size).filterMap λa=>if a=L\/(g.get? a).isSome=true then none else(h.get? a).map λo=>(a,o)
def Z9 (g h:Heap)(L d:Addr):List (Addr×Obj):=(xx g h L).filter λp=>decide (p.1≠d)
structure Mod (K:W.Frag)(mg:Str->Option Value)(base:Heap):Prop where
 kin:K.In base
 glob:base.Ns mainGlobals mg
 blt:∃mb,base.Ns builtinsNs mb/\∀x:Str,x≠"__name__"->mb x=bootBuiltins x
 nolimit:base.NoLimit
structure Cx where
 prog:Program
 w:World
 K:W.Frag
 mg:Str->Option Value
 base:Heap
 A:Around
 N:List Str
 s₀:Shared
 H₀:Hp
 env:Env
 outer:List Env
 stack:List Env
 ex:List Addr
 fn:Str->Bool
 calm:Bool
 pn:List (Addr×Obj)
 xe:Value->Shared->Prop
def Rv (l:List Env):List Addr:=l.filterMap (·.frame)
abbrev Cx.fs (X:Cx):List Addr:=Rv X.outer
def qL (sc:Scope)(x:Str):Prop:=sc.names.lookup x=some .local\/sc.names.lookup x=some .cell\/sc.names.lookup x=some .free
def yS (sc:Scope)(x:Str):Prop:=sc.names.lookup x=some .local\/sc.names.lookup x=some .cell
def oE (env:Env)(h:Heap)(m:Str->Option Value)(x:Str)(u:Value):Prop:=
 (env.kindOf x=some .local/\m x=some u)\/((env.kindOf x=some .cell\/env.kindOf x=some .free)/\∃c,env.cells.lookup x=some c/\h.IsCell c (some u))
structure Cx.Ok (X:Cx):Prop where
 mod:Mod X.K X.mg X.base
 kind:X.env.scope.kind=.function
 glob:X.env.globals=mainGlobals
 blt:X.env.builtins=builtinsNs
 above:X.s₀.heap.objs.size<=X.env.locals
 inj:∀x y c,X.env.cells.lookup x=some c->X.env.cells.lookup y=some c->x=y
 has:∀x,(X.env.kindOf x=some .cell\/X.env.kindOf x=some .free)->∃c,X.env.cells.lookup x=some c
 cab:∀x c,X.fn x=true->X.env.cells.lookup x=some c->X.s₀.heap.objs.size<=c
 hd:X.calm=true->X.A.handled=none
 frames:X.A.frames=some X.stack
 stk:X.stack=X.outer\/(X.stack=X.env::X.outer/\X.env.frame=some X.env.locals)
 exf:∀b∈X.ex,b≠X.env.locals/\∀x c,X.env.cells.lookup x=some c->c≠b
 bs:∀b o,X.base.get? b=some o->X.s₀.heap.get? b=some o/\X.H₀ b=none
 bsz:X.base.objs.size<=X.s₀.heap.objs.size
 noex:∀b o,X.base.get? b=some o->b∉X.ex
 exfs:∀b∈X.ex,b∉X.fs
 funs:X.s₀.heap.FunFrames X.base X.outer
 frf:∀b∈X.fs,X.H₀ b=none
structure Zm (X:Cx)(pins:List (Addr×Obj))(σ:List (Option V))(H:Hp)(s:Shared):Prop where
 ok:X.Ok
 os:s.os=X.s₀.os
 bare:AllBare s.gens
 base:Un X.fs X.ex X.H₀ H X.s₀.heap s.heap
 loc:∃m,s.heap.Ns X.env.locals m/\∀(i:Nat) (x:Str) (v:V),X.N[i]?=some x->σ[i]?=some (some v)->qL X.env.scope x->∃u,Z3 v u/\oE X.env s.heap m x u
 cell:∀x c,X.env.cells.lookup x=some c->∃v,s.heap.IsCell c v
 free:H X.env.locals=none
 freeC:∀x c,X.env.cells.lookup x=some c->H c=none
 pin:∀p∈X.pn++pins,s.heap.get? p.1=some p.2/\H p.1=none/\p.1≠X.env.locals/\p.1∉X.fs/\∀v,p.2.data≠.cell v
 hok:Vl X.prog X.w H s.heap
 len:σ.length=X.N.length
section
variable {X:Cx}{pins:List (Addr×Obj)}{σ:List (Option V)}{H H':Hp}{s:Shared}{h':Heap}
def Cx.Ok.nofr (ok:X.Ok){b:Addr}{o:Obj}(e:X.base.get? b=some o):b∉X.fs:=λhb=>by
 have:=(ok.funs.mem hb).1
 rw[e] at this;cases this
def Zm.bs (I:Zm X pins σ H s):∀b o,X.base.get? b=some o->s.heap.get? b=some o/\H b=none:=λb o e=>
 ⟨I.base.keep b o (I.ok.bs b o e).1 (I.ok.bs b o e).2 (I.ok.nofr e) (I.ok.noex b o e),I.base.free b o (I.ok.bs b o e).1 (I.ok.bs b o e).2 (I.ok.noex b o e)⟩
def Zm.bk (I:Zm X pins σ H s):∀b o,X.base.get? b=some o->s.heap.get? b=some o:=λb o e=>(I.bs b o e).1
def Zm.mod (I:Zm X pins σ H s):Mod X.K X.mg X.base:=I.ok.mod
def Zm.kIn (I:Zm X pins σ H s):X.K.In s.heap:=I.ok.mod.kin.keeps I.bk
def Zm.lt (I:Zm X pins σ H s):X.env.locals<s.heap.objs.size:=let ⟨_,hn,_⟩:=I.loc;hn.lt
def Zm.sz (I:Zm X pins σ H s):X.s₀.heap.objs.size<=s.heap.objs.size:=Nat.le_trans I.ok.above (Nat.le_of_lt I.lt)
def Zm.nofs (I:Zm X pins σ H s){a:Addr}(h:s.heap.objs.size<=a):a∉X.fs:=λhb=>by
 obtain⟨_,o,ho,_⟩:=I.ok.funs.mem hb
 exact absurd (XG (XD ho) (Nat.le_trans I.sz h)) (Nat.lt_irrefl _)
def Zm.cne (I:Zm X pins σ H s):∀x c,X.env.cells.lookup x=some c->c≠X.env.locals:=λx c e z=>by
 obtain⟨v,o,ho,hd⟩:=I.cell x c e
 obtain⟨m,⟨o',es,ep,ho',hd',_⟩,_⟩:=I.loc
 rw[z,ho'] at ho;cases ho;rw[hd'] at hd;cases hd
def Zm.funs (I:Zm X pins σ H s):s.heap.FunFrames X.base X.outer:=by
 have all:∀(l:List Env),(∀b∈Rv l,b∈X.fs)->X.s₀.heap.FunFrames X.base l->s.heap.FunFrames X.base l:=by
  intro l
  induction l with
  | nil=>intro _ _;trivial
  | cons env r ih=>
   intro hs hl
   obtain⟨hk,⟨L,o,hf,hn,ho,hd⟩,hr⟩:=hl
   have hL:L∈X.fs:=hs L (by unfold Rv;rw[List.filterMap_cons,hf];exact List.mem_cons_self)
   obtain⟨sl,e⟩:=I.base.slot L o ho (I.ok.frf L hL) hL λz=>I.ok.exfs L z hL
   exact⟨hk,⟨L,_,hf,hn,e,hd⟩,ih (λb hb=>hs b (by unfold Rv;rw[List.filterMap_cons,hf];exact XV _ hb)) hr⟩
 exact all X.outer (λ_ hb=>hb) I.ok.funs
def Zm.stack (I:Zm X pins σ H s):s.heap.FunFrames X.base X.stack:=by
 rcases I.ok.stk with e | ⟨e,hf⟩
 ·rw[e];exact I.funs
 ·rw[e]
  obtain⟨m,hn,_⟩:=I.loc
  refine .cons (by rw[I.ok.kind];decide) hf hn ?_ I.funs
  exact Heap.get?_none_of_le (Nat.le_trans I.ok.bsz I.ok.above)
def Zm.stkSub (I:Zm X pins σ H s):∀b∈Rv X.stack,b∈X.env.locals::X.fs:=λb hb=>by
 rcases I.ok.stk with e | ⟨e,hf⟩
 ·rw[e] at hb;exact XV _ hb
 ·rw[e] at hb
  unfold Rv at hb
  rw[List.filterMap_cons,hf] at hb
  exact hb
def Zm.stkFree (I:Zm X pins σ H s):∀b∈Rv X.stack,H b=none:=λb hb=>by
 rcases List.mem_cons.mp (I.stkSub b hb) with e | hb
 ·rw[e];exact I.free
 ·obtain⟨_,o,ho,_⟩:=I.ok.funs.mem hb
  exact I.base.free b o ho (I.ok.frf b hb) λz=>I.ok.exfs b z hb
def Zm.step {g':Array GenState}{t':Nat}{d':Drawn}{ch:List Addr}(I:Zm X pins σ H s)
  (hch:∀b∈ch,(b∈X.ex\/X.s₀.heap.objs.size<=b)/\b≠X.env.locals/\(∀x c,X.env.cells.lookup x=some c->c≠b)/\∀p∈X.pn++pins,p.1≠b)
  (keep:∀b o,b≠X.env.locals->b∉X.fs->b∉ch->s.heap.get? b=some o->H b=none->h'.get? b=some o)
  (slot:∀b o,b≠X.env.locals->b∈X.fs->b∉ch->s.heap.get? b=some o->H b=none->∃sl,h'.get? b=some {o with slots:=sl}) (free:∀b o,b∉ch->s.heap.get? b=some o->H b=none->H' b=none)
  (there:∀b o,b∉ch->s.heap.get? b=some o->∃o',h'.get? b=some o')
  (tups:∀b xs,H b=some (.tup xs)->H' b=some (.tup xs)) (frzs:∀b o u,H b=some (.frz o u)->H' b=some (.frz o u)) (tbls:∀b ps,H b=some (.tbl ps)->∃more,H' b=some (.tbl (ps++more)))
  (ns:∀m,s.heap.Ns X.env.locals m->h'.Ns X.env.locals m) (hok:Vl X.prog X.w H' h') (hg:AllBare g'):
  Zm X pins σ H' {s with heap:=h',gens:=g',drawn:=d',toks:=t'}:=by
 have neL:∀b o,X.s₀.heap.get? b=some o->b≠X.env.locals:=λb o e=>XH (XG (XD e) I.ok.above)
 have neC:∀b o,X.s₀.heap.get? b=some o->b∉X.ex->b∉ch:=λb o e hx hb=>by
  rcases (hch b hb).1 with z | z
  ·exact hx z
  ·exact absurd (XG (XD e) z) (Nat.lt_irrefl _)
 have cellK:∀x c,X.env.cells.lookup x=some c->∀v,s.heap.IsCell c v->h'.IsCell c v:=λx c e v ⟨o,ho,hd⟩=>by
  have nch:c∉ch:=λz=>(hch c z).2.2.1 x c e rfl
  by_cases hc:c∈X.fs
  ·obtain⟨sl,q⟩:=slot c o (I.cne x c e) hc nch ho (I.freeC x c e)
   exact⟨_,q,hd⟩
  ·exact⟨o,keep c o (I.cne x c e) hc nch ho (I.freeC x c e),hd⟩
 refine⟨I.ok,I.os,hg,⟨λb o e n hb hx=>?_,λb o e n hb hx=>?_,λb o e n hx=>?_,λb o e hx=>?_,λb xs e=>tups b xs (I.base.tups b xs e),λb o xs e=>frzs b o xs (I.base.frzs b o xs e),λb ps e=>?_⟩,?_,λx c e=>?_,?_,λx c e=>?_,λp hp=>?_,hok,I.len⟩
 ·exact keep b o (neL b o e) hb (neC b o e hx) (I.base.keep b o e n hb hx) (I.base.free b o e n hx)
 ·obtain⟨sl,e1⟩:=I.base.slot b o e n hb hx
  obtain⟨sl',e2⟩:=slot b _ (neL b o e) hb (neC b o e hx) e1 (I.base.free b o e n hx)
  exact⟨sl',e2⟩
 ·obtain⟨o',e1⟩:=I.base.there b o e hx
  exact free b o' (neC b o e hx) e1 (I.base.free b o e n hx)
 ·obtain⟨o',e1⟩:=I.base.there b o e hx
  exact there b o' (neC b o e hx) e1
 ·obtain⟨m1,e1⟩:=I.base.tbls b ps e
  obtain⟨m2,e2⟩:=tbls b _ e1
  exact⟨m1++m2,by rw[e2,Array.append_assoc]⟩
 ·obtain⟨m,hn,hl⟩:=I.loc
  refine⟨m,ns m hn,λi x v e1 e2 e3=>?_⟩
  obtain⟨u,r,l⟩:=hl i x v e1 e2 e3
  refine⟨u,r,?_⟩
  rcases l with l | ⟨k,c,e,z⟩
  ·exact .inl l
  ·exact .inr ⟨k,c,e,cellK x c e _ z⟩
 ·obtain⟨v,z⟩:=I.cell x c e
  exact⟨v,cellK x c e v z⟩
 ·obtain⟨m,⟨o,_,_,ho,_⟩,_⟩:=I.loc
  exact free _ o (λz=>(hch _ z).2.1 rfl) ho I.free
 ·obtain⟨v,o,ho,hd⟩:=I.cell x c e
  exact free c o (λz=>(hch c z).2.2.1 x c e rfl) ho (I.freeC x c e)
 ·obtain⟨e,n,ne,nf,d⟩:=I.pin p hp
  have nch:p.1∉ch:=λz=>(hch p.1 z).2.2.2 p hp rfl
  exact⟨keep p.1 p.2 ne nf nch e n,free p.1 p.2 nch e n,ne,nf,d⟩
def Zm.un {t':Nat}(I:Zm X pins σ H s)(u:Un X.fs [] H H' s.heap h')(hok:Vl X.prog X.w H' h'):Zm X pins σ H' {s with heap:=h',toks:=t'}:=by
 obtain⟨m,⟨o,es,ep,ho,r⟩,_⟩:=id I.loc
 obtain⟨sl,hL⟩:=u.any ho I.free (by simp)
 exact I.step (g':=s.gens) (d':=s.drawn) (ch:=[]) (λ_ z=>nomatch z) (λb o _ hb _ e n=>u.keep b o e n hb (by simp)) (λb o _ hb _ e n=>u.slot b o e n hb (by simp)) (λb o _ e n=>u.free b o e n (by simp)) (λb o _ e=>u.there b o e (by simp)) u.tups u.frzs u.tbls (λm' hm=>by
  obtain⟨o',es',ep',ho',r'⟩:=hm
  rw[ho] at ho';cases ho'
  exact⟨_,es',ep',hL,r'⟩) hok I.bare
def Zm.call {g':Array GenState}{t':Nat}{d':Drawn}{ch:List Addr}(I:Zm X pins σ H s)(u:Un (Rv X.stack) ch H H' s.heap h')(hok:Vl X.prog X.w H' h')(hg:AllBare g')
  (hch:∀b∈ch,(b∈X.ex\/X.s₀.heap.objs.size<=b)/\b≠X.env.locals/\(∀x c,X.env.cells.lookup x=some c->c≠b)/\∀p∈X.pn++pins,p.1≠b):
  Zm X pins σ H' {s with heap:=h',gens:=g',drawn:=d',toks:=t'}:=by
 obtain⟨m,⟨o,es,ep,ho,r⟩,_⟩:=id I.loc
 obtain⟨sl,hL⟩:=u.any ho I.free λz=>(hch _ z).2.1 rfl
 exact I.step (ch:=ch) hch (λb o hL hb hc e n=>u.keep b o e n (λz=>(List.mem_cons.mp (I.stkSub b z)).elim hL hb) hc) (λb o _ _ hc e n=>u.any e n hc) (λb o hc e n=>u.free b o e n hc) (λb o hc e=>u.there b o e hc) u.tups u.frzs u.tbls (λm' hm=>by
  obtain⟨o',es',ep',ho',r'⟩:=hm
  rw[ho] at ho';cases ho'
  exact⟨_,es',ep',hL,r'⟩) hok hg
def Zm.turned {t':Nat}{it:Addr}(I:Zm X pins σ H s)(k:∀b o,b≠it->s.heap.get? b=some o->h'.get? b=some o)(hn:H it=none)(hL:it≠X.env.locals)
  (h1:it∈X.ex\/X.s₀.heap.objs.size<=it) (h2:∀x c,X.env.cells.lookup x=some c->c≠it) (h3:∀p∈X.pn++pins,p.1≠it):Zm X pins σ H {s with heap:=h',toks:=t'}:=by
 have nit:∀b u,H b=some u->b≠it:=λb u e z=>by rw[z,hn] at e;cases e
 refine I.step (g':=s.gens) (d':=s.drawn) (ch:=[it]) (λb hb=>?_) (λb o _ _ hc e _=>k b o (λz=>hc (by simp[z])) e) (λb o _ _ hc e _=>⟨o.slots,k b o (λz=>hc (by simp[z])) e⟩) (λ_ _ _ _ n=>n)
  (λb o hc e=>⟨o,k b o (λz=>hc (by simp[z])) e⟩) (λ_ _ e=>e) (λ_ _ _ e=>e) (λb ps e=>⟨#[],by rw[e];simp⟩) (λm hm=>?_) (λb u e=>?_) I.bare
 ·have e:b=it:=by simpa using hb
  subst e
  exact⟨h1,hL,h2,h3⟩
 ·obtain⟨o,es,ep,ho,r⟩:=hm
  exact⟨o,es,ep,k _ o (Ne.symm hL) ho,r⟩
 ·refine(I.hok b u e).stay (λc v hc q=>k c v ?_ q) (λ_ q=>q) λ_ _ q=>q
  rcases hc with z | z
  ·rw[z];exact nit b u e
  ·exact nit c _ z
def Zm.tok (I:Zm X pins σ H s)(t:Nat):Zm X pins σ H {s with toks:=t}:=I.un (h':=s.heap) (t':=t) Un.refl I.hok
def Zm.kept {t':Nat}(I:Zm X pins σ H s)(k:∀b u,s.heap.get? b=some u->h'.get? b=some u):Zm X pins σ H {s with heap:=h',toks:=t'}:=I.un (Un.kept k) (I.hok.kept k)
def Zm.laid {a:Addr}{o:HO}{t':Nat}(I:Zm X pins σ H s)(k:∀b u,s.heap.get? b=some u->h'.get? b=some u)(hp:s.heap.objs.size<=a)(new:Yt X.prog X.w (Je H a o) h' a o):
  Zm X pins σ (Je H a o) {s with heap:=h',toks:=t'}:=I.un (Un.laid k hp (I.hok.fresh hp)) (I.hok.laid k hp new)
def Zm.write {x e:Addr}{o:HO}{t':Nat}(I:Zm X pins σ H s)(mu:qR (H x))(he:e=x\/H e=some (.own x))(k:∀b u,b≠e->s.heap.get? b=some u->h'.get? b=some u)(heo:∃u,h'.get? e=some u)
  (new:Yt X.prog X.w (Je H x o) h' x o):Zm X pins σ (Je H x o) {s with heap:=h',toks:=t'}:=I.un (Un.write mu he k heo) (I.hok.write mu he k heo new)
def Zm.weak {σ':List (Option V)}(I:Zm X pins σ H s)(hl:σ'.length=σ.length)(w:∀(i:Nat) v,σ'[i]?=some (some v)->σ[i]?=some (some v)):Zm X pins σ' H s:=
 ⟨I.ok,I.os,I.bare,I.base,let ⟨m,hn,hl'⟩:=I.loc;⟨m,hn,λi x v e1 e2 e3=>hl' i x v e1 (w i v e2) e3⟩,I.cell,I.free,I.freeC,I.pin,I.hok,hl.trans I.len⟩
def Zm.pins_of {pins':List (Addr×Obj)}(I:Zm X pins σ H s)(h:∀p∈pins',s.heap.get? p.1=some p.2/\H p.1=none/\p.1≠X.env.locals/\p.1∉X.fs/\∀v,p.2.data≠.cell v):Zm X pins' σ H s:=
 ⟨I.ok,I.os,I.bare,I.base,I.loc,I.cell,I.free,I.freeC,λp hp=>(XS.mp hp).elim (λz=>I.pin p (List.mem_append_left _ z)) (h p),I.hok,I.len⟩
def Hi {N:List Str}(hN:N.Nodup){i j:Nat}{x:Str}(a:N[i]?=some x)(b:N[j]?=some x):i=j:=by
 obtain⟨h1,e1⟩:=List.getElem?_eq_some_iff.mp a
 obtain⟨h2,e2⟩:=List.getElem?_eq_some_iff.mp b
 exact(List.getElem_inj hN).mp (e1.trans e2.symm)
def M5 {M:Model}{A:Around}{E:Value->Shared->Prop}{i:Nat}{x:Str}{v:V}{u:Value}{Q:Unit->Shared->Prop}(I:Zm X pins σ H s)(hN:X.N.Nodup)(hi:X.N[i]?=some x)(hx:yS X.env.scope x)(r:Z3 v u)
  (h:∀s',Zm X pins (σ.set i (some v)) H s'->(∃a,Heap.SameBut a s.heap s'.heap/\(a=X.env.locals\/X.env.cells.lookup x=some a))->Q () s') (hf:X.fn x=true\/X.env.scope.names.lookup x=some .local:=by first | exact .inl rfl | exact .inr rfl | assumption):wpAny M A (storeName X.env x u) Q E s:=by
 obtain⟨m,hn,hl⟩:=id I.loc
 have hcls:(X.env.scope.kind==.class||(X.env.scope.kind==.module&&X.env.locals !=X.env.globals))=false:=by rw[I.ok.kind];rfl
 have hiσ:i<σ.length:=by rw[I.len];exact(List.getElem?_eq_some_iff.mp hi).1
 have cne:=I.cne
 have tracked:∀{a:Addr} {h':Heap},(∃o,s.heap.get? a=some o/\H a=none)->Heap.SameBut a s.heap h'->Vl X.prog X.w H h':=λ{a h'} ha hs b ob e=>by
  obtain⟨_,_,hfree⟩:=ha
  refine(I.hok b ob e).stay (λc w' hc q=>(hs.2 c ?_).trans q) (λ_ q=>q) λ_ _ q=>q
  rintro rfl
  rcases hc with rfl | hc
  ·rw[hfree] at e;cases e
  ·rw[hfree] at hc;cases hc
 rcases hx with hk | hk
 ·refine wpAny_storeName_local hk hn (λh' hn' hs=>?_) hcls
  obtain⟨oL,_,_,hoL,_⟩:=id hn
  refine h _ ⟨I.ok,I.os,I.bare,⟨λb o e n hb hx=>?_,λb o e n hb hx=>?_,I.base.free,λb o e hx=>?_,I.base.tups,I.base.frzs,I.base.tbls⟩,⟨_,hn',λj y v' e1 e2 e3=>?_⟩,λy c e=>?_,I.free,I.freeC,λp hp=>?_,tracked ⟨oL,hoL,I.free⟩ hs,by simpa using I.len⟩ ⟨_,hs,.inl rfl⟩
  ·exact(hs.2 b (XH (XG (XD e) I.ok.above))).trans (I.base.keep b o e n hb hx)
  ·obtain⟨sl,e1⟩:=I.base.slot b o e n hb hx
   exact⟨sl,(hs.2 b (XH (XG (XD e) I.ok.above))).trans e1⟩
  ·obtain⟨o',e1⟩:=I.base.there b o e hx
   exact⟨o',(hs.2 b (XH (XG (XD e) I.ok.above))).trans e1⟩
  ·by_cases hj:j=i
   ·subst hj
    rw[hi] at e1;cases e1
    rw[List.getElem?_set_self hiσ] at e2
    cases e2
    exact⟨u,r,.inl ⟨hk,by simp⟩⟩
   ·rw[List.getElem?_set_ne (Ne.symm hj)] at e2
    obtain⟨u',r',q⟩:=hl j y v' e1 e2 e3
    refine⟨u',r',?_⟩
    rcases q with⟨k,e⟩ | ⟨k,c,e,z⟩
    ·refine .inl ⟨k,?_⟩
     have:y≠x:=λe=>hj (Hi hN e1 (e▸hi))
     simp[this,e]
    ·exact .inr ⟨k,c,e,z.sameBut hs (cne y c e)⟩
  ·obtain⟨w',z⟩:=I.cell y c e
   exact⟨w',z.sameBut hs (cne y c e)⟩
  ·obtain⟨e,n,ne,nf,d⟩:=I.pin p hp
   exact⟨(hs.2 p.1 ne).trans e,n,ne,nf,d⟩
 ·have hfn:X.fn x=true:=by
   rcases hf with z | z
   ·exact z
   ·rw[z] at hk;cases hk
  obtain⟨c,hc⟩:=I.ok.has x (.inl hk)
  obtain⟨w',z⟩:=I.cell x c hc
  refine wpAny_storeName_cell I.ok.kind hk hc z (λh' hc' hs=>?_)
  obtain⟨oc,hoc,hocd⟩:=id z
  refine h {s with heap:=h'} ⟨I.ok,I.os,I.bare,⟨λb o e n hb hx=>?_,λb o e n hb hx=>?_,I.base.free,λb o e hx=>?_,I.base.tups,I.base.frzs,I.base.tbls⟩,⟨m,hn.sameBut hs (Ne.symm (cne x c hc)),λj y v' e1 e2 e3=>?_⟩,λy c' e=>?_,I.free,I.freeC,λp hp=>?_,tracked ⟨oc,hoc,I.freeC x c hc⟩ hs,by simpa using I.len⟩ ⟨c,hs,.inr hc⟩
  ·exact(hs.2 b (XH (XG (XD e) (I.ok.cab x c hfn hc)))).trans (I.base.keep b o e n hb hx)
  ·obtain⟨sl,e1⟩:=I.base.slot b o e n hb hx
   exact⟨sl,(hs.2 b (XH (XG (XD e) (I.ok.cab x c hfn hc)))).trans e1⟩
  ·obtain⟨o',e1⟩:=I.base.there b o e hx
   exact⟨o',(hs.2 b (XH (XG (XD e) (I.ok.cab x c hfn hc)))).trans e1⟩
  ·by_cases hj:j=i
   ·subst hj
    rw[hi] at e1;cases e1
    rw[List.getElem?_set_self hiσ] at e2
    cases e2
    exact⟨u,r,.inr ⟨.inl hk,c,hc,hc'⟩⟩
   ·rw[List.getElem?_set_ne (Ne.symm hj)] at e2
    obtain⟨u',r',q⟩:=hl j y v' e1 e2 e3
    refine⟨u',r',?_⟩
    rcases q with q | ⟨k,c',e,z'⟩
    ·exact .inl q
    ·refine .inr ⟨k,c',e,z'.sameBut hs ?_⟩
     rintro rfl
     exact hj (Hi hN e1 (I.ok.inj _ _ _ e hc▸hi))
  ·by_cases hcc:c'=c
   ·subst hcc;exact⟨_,hc'⟩
   ·obtain⟨w2,z2⟩:=I.cell y c' e
    exact⟨w2,z2.sameBut hs hcc⟩
  ·obtain⟨e,n,ne,nf,d⟩:=I.pin p hp
   refine⟨(hs.2 p.1 ?_).trans e,n,ne,nf,d⟩
   intro q
   rw[q,hoc] at e
   have q':oc=p.2:=YH e
   exact d w' (by rw[<-q'];exact hocd)
def U2 {M:Model}{A:Around}{E:Value->Shared->Prop}{i:Nat}{x:Str}{v:V}{u:Value}{Q:Unit->Shared->Prop}(I:Zm X pins σ H s)(hN:X.N.Nodup)(hi:X.N[i]?=some x)(hx:yS X.env.scope x)(r:Z3 v u)
  (h:∀s',Zm X pins (σ.set i (some v)) H s'->Q () s') (hf:X.fn x=true\/X.env.scope.names.lookup x=some .local:=by first | exact .inl rfl | exact .inr rfl | assumption):wpAny M A (storeName X.env x u) Q E s:=
 M5 I hN hi hx r (λs' I' _=>h s' I') hf
def Zm.call' {s':Shared}{ch:List Addr}(I:Zm X pins σ H s)(ho:s'.os=s.os)(u:Un (Rv X.stack) ch H H' s.heap s'.heap)(hok:Vl X.prog X.w H' s'.heap)(hg:AllBare s'.gens)
  (hch:∀b∈ch,(b∈X.ex\/X.s₀.heap.objs.size<=b)/\b≠X.env.locals/\(∀x c,X.env.cells.lookup x=some c->c≠b)/\∀p∈X.pn++pins,p.1≠b):Zm X pins σ H' s':=by
 obtain⟨h',g',d',t',o'⟩:=s'
 have e:o'=s.os:=ho
 subst e
 exact I.call (g':=g') (t':=t') (d':=d') u hok hg hch
end
abbrev XK:=Value->Option Addr->Hp->Prop
abbrev St:=List (Option V)
abbrev VK:=V->Hp->Prop
abbrev TE:=St->Hp->VK->Prop
abbrev TT:=St->Hp->(Bool->Hp->Prop)->Prop
abbrev TA:=St->Hp->(List V->Hp->Prop)->Prop
structure Ro where
 nx:St->Hp->Prop
 rt:VK
 bk:St->Hp->Prop:=λ_ _=>False
 ct:St->Hp->Prop:=λ_ _=>False
abbrev TS:=Ro->St->Hp->Prop
def EP (X:Cx)(pins:List (Addr×Obj))(σ:St)(Q:VK)(u:Value)(s':Shared):Prop:=∃v H',Zm X pins σ H' s'/\Z3 v u/\Q v H'
def TP (X:Cx)(pins:List (Addr×Obj))(σ:St)(Q:Bool->Hp->Prop)(b:Bool)(s':Shared):Prop:=∃H',Zm X pins σ H' s'/\Q b H'
def AP (X:Cx)(pins:List (Addr×Obj))(σ:St)(Q:List V->Hp->Prop)(us:List Value)(s':Shared):Prop:=∃vs H',Zm X pins σ H' s'/\Zx vs us/\Q vs H'
def SP (X:Cx)(pins:List (Addr×Obj))(D:Ro)(f:Flow)(s':Shared):Prop:=
 match f with
 | .next=>∃σ' H',Zm X pins σ' H' s'/\D.nx σ' H'
 | .brk=>∃σ' H',Zm X pins σ' H' s'/\D.bk σ' H'
 | .cont=>∃σ' H',Zm X pins σ' H' s'/\D.ct σ' H'
 | .ret u=>∃v σ' H',Zm X pins σ' H' s'/\Z3 v u/\D.rt v H'
def PE (X:Cx)(e:Expr)(t:TE):Prop:=
 ∀(pins:List (Addr×Obj)) (s:Shared) (σ:St) (H:Hp) (Q:VK),Zm X pins σ H s->t σ H Q->wpAny (model X.prog X.w) X.A (eval e X.env) (EP X pins σ Q) X.xe s
def PT (X:Cx)(e:Expr)(t:TT):Prop:=
 ∀(pins:List (Addr×Obj)) (s:Shared) (σ:St) (H:Hp) (Q:Bool->Hp->Prop),Zm X pins σ H s->t σ H Q->wpAny (model X.prog X.w) X.A (isTrue e X.env (eval e X.env)) (TP X pins σ Q) X.xe s
def PW (X:Cx)(e:Expr)(t:TT):Prop:=
 ∀(whole:Sem Value) (pins:List (Addr×Obj)) (s:Shared) (σ:St) (H:Hp) (Q:Bool->Hp->Prop),Zm X pins σ H s->t σ H Q->wpAny (model X.prog X.w) X.A (isTrue e X.env whole) (TP X pins σ Q) X.xe s
def PW.pt {X:Cx}{e:Expr}{t:TT}(h:PW X e t):PT X e t:=h _
def PA (X:Cx)(es:List Expr)(t:TA):Prop:=
 ∀(pos:Pos) (pins:List (Addr×Obj)) (s:Shared) (σ:St) (H:Hp) (Q:List V->Hp->Prop),Zm X pins σ H s->t σ H Q->wpAny (model X.prog X.w) X.A (spliced (backTo pos (starEach es X.env))) (AP X pins σ Q) X.xe s
def PS (X:Cx)(st:Stmt)(t:TS):Prop:=
 ∀(pins:List (Addr×Obj)) (s:Shared) (σ:St) (H:Hp) (D:Ro),Zm X pins σ H s->t D σ H->wpAny (model X.prog X.w) X.A (exec st X.env) (SP X pins D) X.xe s
def Lq (X:Cx)(st:List Stmt)(t:TS):Prop:=
 ∀(pins:List (Addr×Obj)) (s:Shared) (σ:St) (H:Hp) (D:Ro),Zm X pins σ H s->t D σ H->wpAny (model X.prog X.w) X.A (execs st X.env) (SP X pins D) X.xe s
def Ji {α:Type}{t:Sem α}{Q Q':α->Shared->Prop}{M:Model}{A:Around}{E:Value->Shared->Prop}{s:Shared}(h:wpAny M A t Q E s)(hQ:∀a s,Q a s->Q' a s):wpAny M A t Q' E s:=wpAny_mono h hQ λ_ _ x=>x
section
variable {X:Cx}
def tX (i:Nat):TE:=λσ H Q=>∃v,σ[i]?=some (some v)/\Q v H
def tC (v:V):TE:=λ_ H Q=>Q v H
def vB {i:Nat}{x:Str}{pos:Pos}(hN:X.N[i]?=some x)(hv:qL X.env.scope x)(hd:(x==("__debug__":Str))=false:=by decide)(hcd:(x==("__classdict__":Str))=false:=by decide):PE X (.Name x pos) (tX i):=by
 intro pins s σ H Q I h
 obtain⟨v,e,h⟩:=h
 obtain⟨m,hn,hl⟩:=I.loc
 obtain⟨u,r,l⟩:=hl i x v hN e hv
 have fin:EP X pins σ Q u s:=⟨v,H,I,r,h⟩
 rcases l with⟨hk,hm⟩ | ⟨hk,c,hc,hcell⟩
 ·exact wpAny_Name (wpAny_loadName_local I.ok.kind hk hn hm fin) hd
 ·rcases hk with hk | hk
  ·exact wpAny_Name (wpAny_loadName_cell I.ok.kind hk hc hcell fin) hd
  ·exact wpAny_Name (wpAny_loadName_free I.ok.kind hk hc hcell fin hcd) hd
def vH {i j pos}:PE X (.Constant (.int i) j pos) (tC (.int i)):=λ_ _ _ H _ I h=>wpAny_Constant_int ⟨.int i,H,I.tok _,⟨_,rfl⟩,h⟩
def rj {b j pos}:PE X (.Constant (.bool b) j pos) (tC (.bl b)):=λ_ _ _ H _ I h=>Constant_bool ⟨.bl b,H,I,rfl,h⟩
def vF {j pos}:PE X (.Constant .none j pos) (tC .non):=λ_ _ _ H _ I h=>Constant_none ⟨.non,H,I,rfl,h⟩
def vD {x j pos}:PE X (.Constant (.str x) j pos) (tC (.str x)):=λ_ _ _ H _ I h=>Calls.Constant_str ⟨.str x,H,I.tok _,⟨_,rfl⟩,h⟩
def Gl (X:Cx)(x:Str):Prop:=X.env.kindOf x=some .globalImplicit
def Xx {E:Value->Shared->Prop}{pins:List (Addr×Obj)}{s:Shared}{σ:St}{H:Hp}{x:Str}{u:Value}{pos:Pos}{Q:Value->Shared->Prop}(I:Zm X pins σ H s)(hg:Gl X x)(hm:X.mg x=some u)(h:Q u s)
  (hd:(x==("__debug__":Str))=false:=by decide):wpAny (model X.prog X.w) X.A (eval (.Name x pos) X.env) Q E s:=
 Calls.Name_function_global I.ok.kind hg (Calls.loadGlobal_global (by rw[I.ok.glob];exact I.mod.glob.keeps I.bk) hm h) hd
def Nu {E:Value->Shared->Prop}{pins:List (Addr×Obj)}{s:Shared}{σ:St}{H:Hp}{x:Str}{u:Value}{pos:Pos}{Q:Value->Shared->Prop}(I:Zm X pins σ H s)(hg:Gl X x)(hm:X.mg x=none)(hv:bootBuiltins x=some u)(h:Q u s)
  (hn:x≠"__name__":=by decide) (hd:(x==("__debug__":Str))=false:=by decide):wpAny (model X.prog X.w) X.A (eval (.Name x pos) X.env) Q E s:=by
 obtain⟨mb,h1,h2⟩:=I.mod.blt
 exact Calls.Name_function_global I.ok.kind hg (Calls.loadGlobal_builtin (by rw[I.ok.glob];exact I.mod.glob.keeps I.bk) hm (by rw[I.ok.blt];exact h1.keeps I.bk) ((h2 x hn).trans hv) h) hd
def Dm {x:Str}{v:V}{u:Value}{pos:Pos}(hg:Gl X x)(hm:X.mg x=some u)(r:Z3 v u)(hd:(x==("__debug__":Str))=false:=by decide):PE X (.Name x pos) (tC v):=
 λ_ _ _ H _ I h=>Xx I hg hm ⟨v,H,I,r,h⟩ hd
def Kp {x:Str}{v:V}{u:Value}{pos:Pos}(hg:Gl X x)(hm:X.mg x=none)(hv:bootBuiltins x=some u)(r:Z3 v u)(hn:x≠"__name__":=by decide)(hd:(x==("__debug__":Str))=false:=by decide):PE X (.Name x pos) (tC v):=
 λ_ _ _ H _ I h=>Nu I hg hm hv ⟨v,H,I,r,h⟩ hn hd
def nT (ta tb:TE)(k:Int->Int->Hp->Prop):St->Hp->Prop:=λσ H=>ta σ H λx H1=>tb σ H1 λy H2=>∃i j,x=.int i/\y=.int j/\k i j H2
def nJ (ta tb:TE):TE:=λσ H Q=>nT ta tb (λi j H2=>(-(2^64)<i/\i<2^64)/\Q (.int (i*j)) H2) σ H
variable {a b:Expr}{ta tb:TE}{pos:Pos}
def nK (ta:TE):TE:=λσ H Q=>ta σ H λx H1=>Q (.bl (decide (x=.non))) H1
def tB (t:TE):TT:=λσ H Q=>t σ H λx H1=>∃c,x=.bl c/\Q c H1
variable {tA tB':TT}{Z9:List Expr}
def sy (t u:TT):TT:=λσ H Q=>t σ H λc H1=>if c=true then u σ H1 Q else Q false H1
def oR (t u:TT):TT:=λσ H Q=>t σ H λc H1=>if c=true then Q true H1 else u σ H1 Q
def sj (t:TT):TT:=λσ H Q=>t σ H λc H1=>Q (!c) H1
def jw (ha:PT X a tA):PW X (.BoolOp .And [a] pos) tA:=by
 intro wh pins s σ H Q I h
 refine isTrue_and (Ji (ha pins s σ H Q I h) λc s1 e=>?_)
 cases c with
 | true=>exact isTrue_and_nil e
 | false=>exact e
def vo (ha:PT X a tA):PW X (.BoolOp .Or [a] pos) tA:=by
 intro wh pins s σ H Q I h
 refine isTrue_or (Ji (ha pins s σ H Q I h) λc s1 e=>?_)
 cases c with
 | false=>exact isTrue_or_nil e
 | true=>exact e
def vp (ha:PT X a tA)(hb:PW X (.BoolOp .And (b::Z9) pos) tB'):PW X (.BoolOp .And (a::b::Z9) pos) (sy tA tB'):=by
 intro wh pins s σ H Q I h
 refine isTrue_and (Ji (ha pins s σ H _ I h) λc s1 ⟨H1,I1,q1⟩=>?_)
 cases c with
 | true=>exact hb wh pins s1 σ H1 Q I1 q1
 | false=>exact⟨H1,I1,q1⟩
def sY (ha:PT X a tA)(hb:PW X (.BoolOp .Or (b::Z9) pos) tB'):PW X (.BoolOp .Or (a::b::Z9) pos) (oR tA tB'):=by
 intro wh pins s σ H Q I h
 refine isTrue_or (Ji (ha pins s σ H _ I h) λc s1 ⟨H1,I1,q1⟩=>?_)
 cases c with
 | true=>exact⟨H1,I1,q1⟩
 | false=>exact hb wh pins s1 σ H1 Q I1 q1
def vv (ha:PT X a tA):PT X (.UnaryOp .Not a pos) (sj tA):=by
 intro pins s σ H Q I h
 exact isTrue_not (ha pins s σ H (λc H1=>Q (!c) H1) I h)
def xJ (ta tb:TE):TE:=λσ H Q=>ta σ H λx H1=>∃c,x=.bl c/\if c=true then tb σ H1 Q else Q (.bl false) H1
def se (ta tb:TE):TE:=λσ H Q=>ta σ H λx H1=>∃c,x=.bl c/\if c=true then Q (.bl true) H1 else tb σ H1 Q
def vE {op}{t:TE}(h:PE X a t):PE X (.BoolOp op [a] pos) t:=λpins s σ H Q I hw=>BoolOp_one (h pins s σ H Q I hw)
def vJ (ha:PE X a ta)(hb:PE X (.BoolOp .And (b::Z9) pos) tb):PE X (.BoolOp .And (a::b::Z9) pos) (xJ ta tb):=by
 intro pins s σ H Q I h
 refine BoolOp_and (Ji (ha pins s σ H _ I h) λv s1 ⟨x,H1,I1,r1,q1⟩=>?_)
 obtain⟨c,rfl,q1⟩:=q1
 cases r1
 refine wpAny_truthy_bool ?_
 cases c with
 | true=>exact hb pins s1 σ H1 Q I1 q1
 | false=>exact⟨.bl false,H1,I1,rfl,q1⟩
def rc (ha:PE X a ta)(hb:PE X (.BoolOp .Or (b::Z9) pos) tb):PE X (.BoolOp .Or (a::b::Z9) pos) (se ta tb):=by
 intro pins s σ H Q I h
 refine BoolOp_or (Ji (ha pins s σ H _ I h) λv s1 ⟨x,H1,I1,r1,q1⟩=>?_)
 obtain⟨c,rfl,q1⟩:=q1
 cases r1
 refine wpAny_truthy_bool ?_
 cases c with
 | false=>exact hb pins s1 σ H1 Q I1 q1
 | true=>exact⟨.bl true,H1,I1,rfl,q1⟩
def mQ (t:TT)(ta tb:TE):TE:=λσ H Q=>t σ H λc H1=>if c=true then ta σ H1 Q else tb σ H1 Q
end
def Xz (K:W.Frag)(H:Hp)(a:Addr)(xs:List V):Prop:=
 Rd H a (.lst xs)\/
  ∃(o:Obj) (its:Array Value) (n:Nat),K.lookup a=some o/\o.cls=.type "list"/\o.dict=none/\o.data=.seq its n/\its.size<=sizeLine/\Zx xs its.toList
def Uc (K:W.Frag)(H:Hp)(a:Addr)(xs:List V):Prop:=
 Rd H a (.tup xs)\/
  ∃(o:Obj) (its:Array Value) (n:Nat),K.lookup a=some o/\o.cls=.type "tuple"/\o.data=.seq its n/\its.size<=sizeLine/\Zx xs its.toList
def o0:Value->Option V
 | .none=>some .non
 | .bool b=>some (.bl b)
 | .int i _=>some (.int i)
 | .str x _=>some (.str x)
 | .bytes b _=>some (.byt b)
 | .float b _=>some (.flt b)
 | .ref a=>some (.ref a)
 | .type n=>some (.ty n)
 | _=>none
def Z3.abs {x:V}{u:Value}(r:Z3 x u):o0 u=some x:=by
 cases x with
 | non=>cases r;rfl
 | bl _=>cases r;rfl
 | int _=>obtain⟨t,rfl⟩:=r;rfl
 | str _=>obtain⟨t,rfl⟩:=r;rfl
 | byt _=>obtain⟨t,rfl⟩:=r;rfl
 | flt _=>obtain⟨t,rfl⟩:=r;rfl
 | ref _=>cases r;rfl
 | ty _=>cases r;rfl
def Z3.inj {x y:V}{u:Value}(r:Z3 x u)(q:Z3 y u):x=y:=YH (r.abs.symm.trans q.abs)
def Zx.inj:∀{xs ys:List V} {us:List Value},Zx xs us->Zx ys us->xs=ys
 | _,_,_,.nil,.nil=>rfl
 | _,_,_,.cons r t,.cons r' t'=>by rw[r.inj r',Zx.inj t t']
section
variable {X:Cx}{pins:List (Addr×Obj)}{σ:St}{H:Hp}{s:Shared}{a:Addr}{xs ys:List V}
def Xz.of {K:W.Frag}(h:H a=some (.lst xs)):Xz K H a xs:=.inl (.inl h)
def Uc.of {K:W.Frag}(h:H a=some (.tup xs)):Uc K H a xs:=.inl (.inl h)
def Zm.list (I:Zm X pins σ H s)(h:Xz X.K H a xs):∃its:List Value,Zx xs its/\PlainL s.heap a its.toArray/\xs.length<=sizeLine:=by
 rcases h with h | ⟨o,its,n,hk,hc,hd,hs,hz,r⟩
 ·obtain⟨z,its,n,r,e⟩:=h.ok I.hok
  exact⟨its,r,⟨_,n,e,rfl,rfl,rfl⟩,z⟩
 ·refine⟨its.toList,r,⟨o,n,I.kIn a o hk,hc,hd,by simpa using hs⟩,?_⟩
  have e:=r.length
  simp only[Array.length_toList] at e
  omega
def Zm.tuple (I:Zm X pins σ H s)(h:Uc X.K H a xs):∃its:List Value,Zx xs its/\IsTup s.heap a its.toArray/\xs.length<=sizeLine:=by
 rcases h with h | ⟨o,its,n,hk,hc,hs,hz,r⟩
 ·obtain⟨z,its,r,p⟩:=h.ok I.hok
  exact⟨its,r,p,z⟩
 ·refine⟨its.toList,r,⟨o,I.kIn a o hk,hc,n,by simpa using hs⟩,?_⟩
  have e:=r.length
  simp only[Array.length_toList] at e
  omega
def Zm.list_inj (I:Zm X pins σ H s)(h:Xz X.K H a xs)(h':Xz X.K H a ys):xs=ys:=by
 obtain⟨its,r,⟨o,n,e,_,_,d⟩,_⟩:=I.list h
 obtain⟨its',r',⟨o',n',e',_,_,d'⟩,_⟩:=I.list h'
 rw[e] at e';cases e'
 rw[d] at d'
 injection d' with d1 _
 have:its=its':=by simpa using congrArg Array.toList d1
 subst this
 exact r.inj r'
def Zm.tuple_inj (I:Zm X pins σ H s)(h:Uc X.K H a xs)(h':Uc X.K H a ys):xs=ys:=by
 obtain⟨its,r,⟨o,e,_,n,d⟩,_⟩:=I.tuple h
 obtain⟨its',r',⟨o',e',_,n',d'⟩,_⟩:=I.tuple h'
 rw[e] at e';cases e'
 rw[d] at d'
 injection d' with d1 _
 have:its=its':=by simpa using congrArg Array.toList d1
 subst this
 exact r.inj r'
end
abbrev Cx.wish (X:Cx)(E:Value->Shared->Prop):Cx:={X with xe:=E}
abbrev Cx.nox (X:Cx):Cx:=X.wish λ_ _=>False
def Cx.Ok.wish {X:Cx}(ok:X.Ok)(E:Value->Shared->Prop):(X.wish E).Ok:=
 ⟨ok.mod,ok.kind,ok.glob,ok.blt,ok.above,ok.inj,ok.has,ok.cab,ok.hd,ok.frames,ok.stk,ok.exf,ok.bs,ok.bsz,ok.noex,ok.exfs,ok.funs,ok.frf⟩
def Cx.Ok.unwish {X:Cx}{E:Value->Shared->Prop}(ok:(X.wish E).Ok):X.Ok:=
 ⟨ok.mod,ok.kind,ok.glob,ok.blt,ok.above,ok.inj,ok.has,ok.cab,ok.hd,ok.frames,ok.stk,ok.exf,ok.bs,ok.bsz,ok.noex,ok.exfs,ok.funs,ok.frf⟩
section
variable {X:Cx}{pins:List (Addr×Obj)}{σ:St}{H:Hp}{s:Shared}{E:Value->Shared->Prop}
def Zm.wish (I:Zm X pins σ H s)(E:Value->Shared->Prop):Zm (X.wish E) pins σ H s:=⟨I.ok.wish E,I.os,I.bare,I.base,I.loc,I.cell,I.free,I.freeC,I.pin,I.hok,I.len⟩
def Zm.unwish (I:Zm (X.wish E) pins σ H s):Zm X pins σ H s:=⟨I.ok.unwish,I.os,I.bare,I.base,I.loc,I.cell,I.free,I.freeC,I.pin,I.hok,I.len⟩
def SP.unwish {D:Ro}{f:Flow}{s':Shared}(h:SP (X.wish E) pins D f s'):SP X pins D f s':=by
 cases f with
 | next=>obtain⟨σ',H',I,q⟩:=h;exact⟨σ',H',I.unwish,q⟩
 | brk=>obtain⟨σ',H',I,q⟩:=h;exact⟨σ',H',I.unwish,q⟩
 | cont=>obtain⟨σ',H',I,q⟩:=h;exact⟨σ',H',I.unwish,q⟩
 | ret u=>obtain⟨v,σ',H',I,r,q⟩:=h;exact⟨v,σ',H',I.unwish,r,q⟩
def Lq.nox {st:List Stmt}{t:TS}(h:Lq X.nox st t):Lq X st t:=λpins s σ H D I hw=>
 wpAny_mono (h pins s σ H D (I.wish _) hw) (λ_ _ q=>q.unwish) λ_ _ z=>False.elim z
end
section
variable {X:Cx}{st:Stmt}{Z9:List Stmt}{t u:TS}{e:Expr}{te:TE}{pos:Pos}
def sr:TS:=λD σ H=>D.nx σ H
def wL (t u:TS):TS:=λD σ H=>t {D with nx:=u D} σ H
def jz:Lq X [] sr:=λ_ _ σ H _ I h=>wpAny_execs_nil ⟨σ,H,I,h⟩
def zr (h1:PS X st t)(h2:Lq X Z9 u):Lq X (st::Z9) (wL t u):=by
 intro pins s σ H D I h
 refine wpAny_execs_cons (Ji (h1 pins s σ H {D with nx:=u D} I h) λf s1 q=>?_)
 cases f with
 | next=>
  obtain⟨σ',H',I',q⟩:=q
  exact h2 pins s1 σ' H' D I' q
 | ret v=>exact q
 | brk=>exact q
 | cont=>exact q
def jy (h1:PS X st t):Lq X [st] t:=by
 intro pins s σ H D I h
 refine wpAny_execs_cons (Ji (h1 pins s σ H D I h) λf s1 q=>?_)
 cases f with
 | next=>exact wpAny_execs_nil q
 | ret v=>exact q
 | brk=>exact q
 | cont=>exact q
def Zm.quiet {pins:List (Addr×Obj)}{σ:St}{H:Hp}{s:Shared}(I:Zm X pins σ H s):interactive X.env=false:=by simp[interactive,I.ok.kind]
def sx (te:TE):TS:=λD σ H=>te σ H λ_ H1=>D.nx σ H1
def j0 (he:PE X e te)(hs:swapsWith e none pos.line X.env=pure false:=by rfl):PS X (.Expr e pos) (sx te):=by
 intro pins s σ H D I h
 exact wpAny_Expr_any (Ji (he pins s σ H _ I h) λv s1 ⟨x,H1,I1,r1,q1⟩=>⟨σ,H1,I1,q1⟩) I.quiet hs
def tZ (te:TE):TS:=λD σ H=>te σ H D.rt
def vx (he:PE X e te):PS X (.Return (some e) pos) (tZ te):=by
 intro pins s σ H D I h
 exact wpAny_Return_some (Ji (he pins s σ H _ I h) λv s1 ⟨x,H1,I1,r1,q1⟩=>⟨x,σ,H1,I1,r1,q1⟩)
def sv (c:TT)(t u:TS):TS:=λD σ H=>c σ H λb H1=>if b=true then t D σ H1 else u D σ H1
def sZ {c:Expr}{a b:List Stmt}{tc:TT}(hc:PT X c tc)(ha:Lq X a t)(hb:Lq X b u):PS X (.If c a b pos) (sv tc t u):=by
 intro pins s σ H D I h
 refine wpAny_If (Ji (hc pins s σ H _ I h) λd s1 ⟨H1,I1,q1⟩=>?_)
 cases d with
 | true=>exact ha pins s1 σ H1 D I1 q1
 | false=>exact hb pins s1 σ H1 D I1 q1
def pw:TS:=λ_ _ _=>False
end
abbrev TG:=V->St->Hp->(St->Hp->Prop)->Prop
abbrev Fc:=List V->St->Hp->(St->Hp->Prop)->Prop
def PG (X:Cx)(target:Expr)(t:TG):Prop:=
 ∀(pins:List (Addr×Obj)) (s:Shared) (σ:St) (H:Hp) (v:V) (u:Value) (Q:St->Hp->Prop),Zm X pins σ H s->Z3 v u->t v σ H Q->
  wpAny (model X.prog X.w) X.A (assign target X.env u) (λ_ s'=>∃σ' H',Zm X pins σ' H' s'/\Q σ' H') X.xe s
def qQ (X:Cx)(ts:List Expr)(t:Fc):Prop:=
 ∀(pins:List (Addr×Obj)) (s:Shared) (σ:St) (H:Hp) (vs:List V) (us:List Value) (Q:St->Hp->Prop),Zm X pins σ H s->Zx vs us->t vs σ H Q->
  wpAny (model X.prog X.w) X.A (assignInOrder ((assignEach ts X.env).map (·.2)) us) (λ_ s'=>∃σ' H',Zm X pins σ' H' s'/\Q σ' H') X.xe s
abbrev qt:=V->V->V->Hp->(Hp->Prop)->Prop
abbrev o5:=V->V->Hp->VK->Prop
section
variable {X:Cx}{pos:Pos}
def J8 (i:Nat):TG:=λv σ H Q=>Q (σ.set i (some v)) H
def Jn {i:Nat}{x:Str}(hN:X.N.Nodup)(hi:X.N[i]?=some x)(hx:yS X.env.scope x)(hf:X.fn x=true\/X.env.scope.names.lookup x=some .local:=by first | exact .inl rfl | exact .inr rfl | assumption):PG X (.Name x pos) (J8 i):=by
 intro pins s σ H v u Q I r h
 exact wpAny_assign_Name (U2 I hN hi hx r (λs' I'=>⟨_,H,I',h⟩) hf)
def B6:Fc:=λvs σ H Q=>vs=[]/\Q σ H
def Qm (t:TG)(u:Fc):Fc:=λvs σ H Q=>∃v r,vs=v::r/\t v σ H λσ' H'=>u r σ' H' Q
def Dl:qQ X [] B6:=by
 intro pins s σ H vs us Q I r h
 obtain⟨e,h⟩:=h
 subst e
 cases r
 exact assignInOrder_nil ⟨σ,H,I,h⟩
def Tc {e:Expr}{es:List Expr}{t:TG}{u:Fc}(h1:PG X e t)(h2:qQ X es u)
  (hs:(assignEach (e::es) X.env).map (·.2)=assign e X.env::(assignEach es X.env).map (·.2):=by rfl):qQ X (e::es) (Qm t u):=by
 intro pins s σ H vs us Q I r h
 obtain⟨v,vr,e1,h⟩:=h
 subst e1
 cases r with
 | cons r rr=>
  rw[hs]
  refine assignInOrder_cons (Ji (h1 pins s σ H _ _ _ I r h) λ_ s1 ⟨σ1,H1,I1,q1⟩=>?_)
  exact h2 pins s1 σ1 H1 _ _ Q I1 rr q1
def B5 (K:W.Frag)(n:Nat)(t:Fc):TG:=λv σ H Q=>∃a xs,v=.ref a/\Uc K H a xs/\xs.length=n/\t xs σ H Q
def zy {es:List Expr}{k:Nat}{t:Fc}{n:Nat}(hc:X.calm=true)(h:qQ X es t)
  (hn:(assignEach es X.env).length=n:=by rfl) (hst:(assignEach es X.env).findIdx? (·.1)=none:=by rfl):PG X (.Tuple es k pos) (B5 X.K n t):=by
 intro pins s σ H v u Q I r hw
 obtain⟨a,xs,e1,hq,hl,hw⟩:=hw
 subst e1
 cases r
 obtain⟨its,rv,ht,hz⟩:=I.tuple hq
 refine assign_Tuple_tuple (I.ok.hd hc) ht (by simp[hn,<-hl,rv.length]) hst λh' hx=>?_
 have I1:Zm X pins σ H {s with heap:=h'}:=I.kept (t':=s.toks) λb o e=>hx b o (XH (XD e)) e
 exact h pins _ σ H xs _ Q I1 (by simpa using rv) hw
def mn (to ti:TE)(t:qt):TG:=λv σ H Q=>to σ H λo H1=>ti σ H1 λi H2=>t o i v H2 λH3=>Q σ H3
def wP (te:TE)(g:TG):TS:=λD σ H=>te σ H λx H1=>g x σ H1 D.nx
def vw {i:Nat}{x:Str}{e:Expr}{te:TE}{pos':Pos}(hN:X.N.Nodup)(hi:X.N[i]?=some x)(hx:yS X.env.scope x)(he:PE X e te)(hs:swapsWith e (some (.Name x pos')) pos.line X.env=pure false:=by rfl)(hf:X.fn x=true\/X.env.scope.names.lookup x=some .local:=by first | exact .inl rfl | exact .inr rfl | assumption):
  PS X (.Assign [.Name x pos'] e pos) (wP te (J8 i)):=by
 intro pins s σ H D I h
 refine wpAny_Assign_Name (Ji (he pins s σ H _ I h) λv s1 ⟨y,H1,I1,r1,q1⟩=>?_) hs
 exact U2 I1 hN hi hx r1 (λs2 I2=>⟨_,H1,I2,q1⟩) hf
def nI (i j:Nat)(ta:TA):TS:=λD σ H=>ta σ H λvs H1=>∃v w,vs=[v,w]/\D.nx ((σ.set i (some v)).set j (some w)) H1
def nR (i:Nat)(te:TE)(ti:o5):TS:=λD σ H=>∃x,σ[i]?=some (some x)/\te σ H λy H1=>ti x y H1 λz H2=>D.nx (σ.set i (some z)) H2
def oX (to ti te:TE)(tget:V->V->Hp->VK->Prop)(tip:o5)(tset:qt):TS:=λD σ H=>to σ H λo H1=>ti σ H1 λi H2=>tget o i H2 λx H3=>te σ H3 λy H4=>tip x y H4 λz H5=>tset o i z H5 λH6=>D.nx σ H6
def mE (X:Cx)(t:V->V->Hp->VK->Prop):Prop:=
 ∀(pins:List (Addr×Obj)) (s:Shared) (σ:St) (H:Hp) (o i:V) (ov iv:Value) (Q:VK),Zm X pins σ H s->Z3 o ov->Z3 i iv->t o i H Q->
  wpAny (model X.prog X.w) X.A (getItem ov iv) (EP X pins σ Q) X.xe s
def mT (f:Int->Int->Int):o5:=λx y H Q=>∃i j,x=.int i/\y=.int j/\Q (.int (f i j)) H
def pk (c:TT)(tb:TS):TS:=λD σ H=>∃W:Nat->St->Hp->Prop,(∃m,W m σ H)/\∀m σ H,W m σ H->
 c σ H λb H1=>if b=true then ∃N:St->Hp->Prop,(∀σ' H',N σ' H'->∃m',m'<m/\W m' σ' H')/\tb {D with nx:=N,ct:=N,bk:=D.nx} σ H1 else D.nx σ H1
end
structure It where
 go:Nat->Hp->Prop
 yld:Nat->Hp->V->Hp->Prop
 stop:Nat->Hp->Prop
def Vj (X:Cx)(pins:List (Addr×Obj))(H:Hp)(b:Addr):Prop:=
 H b=none/\b≠X.env.locals/\b∉X.fs/\(b∈X.ex\/X.s₀.heap.objs.size<=b)/\(∀x c,X.env.cells.lookup x=some c->c≠b)/\∀p∈X.pn++pins,p.1≠b
def Zm.fpOk {X:Cx}{pins:List (Addr×Obj)}{σ:St}{H H':Hp}{s:Shared}{b:Addr}(I:Zm X pins σ H s)(hb:s.heap.objs.size<=b)(hn:H' b=none):Vj X pins H' b:=by
 refine⟨hn,Nat.ne_of_gt (XG I.lt hb),I.nofs hb,.inr (Nat.le_trans I.sz hb),λx c e z=>?_,λp hp z=>?_⟩
 ·obtain⟨v,q⟩:=I.cell x c e
  exact absurd (XG q.lt (by rw[z];exact hb)) (Nat.lt_irrefl _)
 ·exact absurd (XG (XD (I.pin p hp).1) (by rw[z];exact hb)) (Nat.lt_irrefl _)
structure Gz (P:Program)(w:World)(K:W.Frag)(tg:Expr)(J:It)(fp:List Addr)(it:Addr)(tn:Nat->Heap->Prop):Prop where
 mem:it∈fp
 obj:∀i h,tn i h->∀b∈fp,∃o,h.get? b=some o/\∀v,o.data≠.cell v
 keep:∀i h h',tn i h->(∀b∈fp,∀o,h.get? b=some o->h'.get? b=some o)->tn i h'
 item:∀(X:Cx),X.prog=P->X.w=w->X.K=K->X.calm=true->∀(i:Nat) (pins:List (Addr×Obj)) (s:Shared) (σ:St) (H:Hp) (E:Value->Shared->Prop),Zm X pins σ H s->(∀b∈fp,Vj X pins H b)->tn i s.heap->J.go i H->
  wpAny (model P w) X.A (pyNext (.ref it)) (λr s1=>∃u,r=some u/\
   wpAny (model P w) X.A (letOwnedTupleGo tg (.ref it) u) (λ_ s2=>∃x H',Zm X pins σ H' s2/\Z3 x u/\J.yld i H x H'/\tn (i+1) s2.heap/\∀b∈fp,H' b=none) E s1) E s
 done:∀(X:Cx),X.prog=P->X.w=w->X.K=K->X.calm=true->∀(i:Nat) (pins:List (Addr×Obj)) (s:Shared) (σ:St) (H:Hp) (E:Value->Shared->Prop),Zm X pins σ H s->(∀b∈fp,Vj X pins H b)->tn i s.heap->J.stop i H->
  wpAny (model P w) X.A (pyNext (.ref it)) (λr s1=>r=none/\Zm X pins σ H s1) E s
 self:∀(A:Around) (i:Nat) (s:Shared) (Q:Value->Shared->Prop) (E:Value->Shared->Prop),tn i s.heap->Q (.ref it) s->wpAny (model P w) A (pyIter (.ref it)) Q E s
abbrev TI:=St->Hp->(It->Hp->Prop)->Prop
def oB (X:Cx)(pins:List (Addr×Obj))(σ:St)(tg:Expr)(R:It->Hp->Prop)(itv:Value)(s2:Shared):Prop:=
 ∃(it:Addr) (fp:List Addr) (tn:Nat->Heap->Prop) (J:It) (H':Hp),itv=.ref it/\Zm X pins σ H' s2/\Gz X.prog X.w X.K tg J fp it tn/\tn 0 s2.heap/\(∀b∈fp,Vj X pins H' b)/\R J H'
def PI (X:Cx)(tg iter:Expr)(wi:TI):Prop:=
 ∀(pins:List (Addr×Obj)) (s:Shared) (σ:St) (H:Hp) (R:It->Hp->Prop),Zm X pins σ H s->wi σ H R->
  wpAny (model X.prog X.w) X.A (eval iter X.env) (λv s1=>wpAny (model X.prog X.w) X.A (pyIter v) (oB X pins σ tg R) X.xe s1) X.xe s
def Hu {M:Model}{A:Around}{E:Value->Shared->Prop}{s:Shared}{tg:Expr}{it:Addr}{u:Value}{o:Obj}{n:String}{vs:Array Value}{Q:Unit->Shared->Prop}(ho:s.heap.get? it=some o)(hc:o.cls=.type n)(hd:o.data=.fields vs)
  (hn:["enumerate","zip","dict_itemiterator","dict_reverseitemiterator","odict_iterator","itertools.zip_longest","itertools.pairwise"].contains n=false) (hQ:Q () s):wpAny M A (letOwnedTupleGo tg (.ref it) u) Q E s:=by
 unfold letOwnedTupleGo
 cases tg<;>first
  | exact XB hQ
  | (cases u<;>first
    | exact XB hQ
    | (refine XA (wpAny_load ho ?_)
       rw[hc,hd]
       show wpAny M A (if (["enumerate","zip","dict_itemiterator","dict_reverseitemiterator","odict_iterator","itertools.zip_longest","itertools.pairwise"].contains n&&vs[0]?==some (rawInt _))=true then _ else _) Q E s
       rw[XX (by intro h;rw[hn,Bool.false_and] at h;cases h)]
       exact XB hQ))
def qU (K:W.Frag)(a:Addr):It:=
 ⟨λi H=>∃xs x,Xz K H a xs/\xs[i]?=some x,λi H x H'=>H'=H/\∀xs,Xz K H a xs->xs[i]?=some x,λi H=>∃xs,Xz K H a xs/\xs.length<=i⟩
def oI (K:W.Frag)(a:Addr):It:=
 ⟨λi H=>∃xs x,Uc K H a xs/\xs[i]?=some x,λi H x H'=>H'=H/\∀xs,Uc K H a xs->xs[i]?=some x,λi H=>∃xs,Uc K H a xs/\xs.length<=i⟩
def qT (lo:Int)(n:Nat):It:=⟨λi _=>i<n,λi H x H'=>H'=H/\x=.int (lo+i),λi _=>n<=i⟩
def Cy {P:Program}{w:World}{K:W.Frag}{tg:Expr}(a it:Addr):Gz P w K tg (qU K a) [it] it (λi h=>h.IsListIter it a i) where
 mem:=by simp
 obj:=λi h st b hb=>by
  have e:b=it:=by simpa using hb
  subst e
  obtain⟨o,e,c,d⟩:=st
  exact⟨o,e,λv z=>by rw[d] at z;cases z⟩
 keep:=λi h h' st k=>st.at λo e=>k it (by simp) o e
 item:=by
  intro X hP hw hK hc i pins s σ H E I hf st hg
  subst hP hw hK
  obtain⟨xs,x,hq,hx⟩:=hg
  obtain⟨its,rv,p,hz⟩:=I.list hq
  obtain⟨u,hu,ru⟩:=rv.get hx
  obtain⟨f0,f1,f2,f3,f4,f5⟩:=hf it (by simp)
  refine wpAny_pyNext_list_item st p.isList (x:=u) (by simpa using hu) λh' st' sb=>?_
  have I1:Zm X pins σ H {s with heap:=h'}:=I.turned (t':=s.toks) (λb o hb e=>(sb.2 b hb).trans e) f0 f1 f3 f4 f5
  obtain⟨o,e,c,d⟩:=id st'
  exact⟨u,rfl,Hu (s:={s with heap:=h'}) e c d (by decide) ⟨x,H,I1,ru,⟨rfl,λys hy=>by rw[I.list_inj hy hq];exact hx⟩,st',λb hb=>(hf b hb).1⟩⟩
 done:=by
  intro X hP hw hK hc i pins s σ H E I hf st hg
  subst hP hw hK
  obtain⟨xs,hq,hx⟩:=hg
  obtain⟨its,rv,p,hz⟩:=I.list hq
  obtain⟨f0,f1,f2,f3,f4,f5⟩:=hf it (by simp)
  have hl:=rv.length
  exact wpAny_pyNext_list_end (I.ok.hd hc) st p.isList (by simp;omega) λh' eb=>⟨rfl,I.turned (t':=s.toks) (λb o hb e=>eb b o hb e) f0 f1 f3 f4 f5⟩
 self:=λ_ _ _ _ _ st h=>wpAny_pyIter_listiter st h
def Fh {P:Program}{w:World}{K:W.Frag}{tg:Expr}(a it:Addr):Gz P w K tg (oI K a) [it] it (λi h=>h.IsTupleIter it a i) where
 mem:=by simp
 obj:=λi h st b hb=>by
  have e:b=it:=by simpa using hb
  subst e
  obtain⟨o,e,c,d⟩:=st
  exact⟨o,e,λv z=>by rw[d] at z;cases z⟩
 keep:=λi h h' st k=>st.at λo e=>k it (by simp) o e
 item:=by
  intro X hP hw hK hc i pins s σ H E I hf st hg
  subst hP hw hK
  obtain⟨xs,x,hq,hx⟩:=hg
  obtain⟨its,rv,p,hz⟩:=I.tuple hq
  obtain⟨u,hu,ru⟩:=rv.get hx
  obtain⟨f0,f1,f2,f3,f4,f5⟩:=hf it (by simp)
  refine wpAny_pyNext_tuple_item st (show s.heap.IsTuple a its.toArray from p) (x:=u) (by simpa using hu) λh' st' sb=>?_
  have I1:Zm X pins σ H {s with heap:=h'}:=I.turned (t':=s.toks) (λb o hb e=>(sb.2 b hb).trans e) f0 f1 f3 f4 f5
  obtain⟨o,e,c,d⟩:=id st'
  exact⟨u,rfl,Hu (s:={s with heap:=h'}) e c d (by decide) ⟨x,H,I1,ru,⟨rfl,λys hy=>by rw[I.tuple_inj hy hq];exact hx⟩,st',λb hb=>(hf b hb).1⟩⟩
 done:=by
  intro X hP hw hK hc i pins s σ H E I hf st hg
  subst hP hw hK
  obtain⟨xs,hq,hx⟩:=hg
  obtain⟨its,rv,p,hz⟩:=I.tuple hq
  obtain⟨f0,f1,f2,f3,f4,f5⟩:=hf it (by simp)
  have hl:=rv.length
  exact wpAny_pyNext_tuple_end (I.ok.hd hc) st (show s.heap.IsTuple a its.toArray from p) (by simp;omega) λh' eb=>⟨rfl,I.turned (t':=s.toks) (λb o hb e=>eb b o hb e) f0 f1 f3 f4 f5⟩
 self:=λ_ _ _ _ _ st h=>wpAny_pyIter_tupleiter st h
def Fi {P:Program}{w:World}{K:W.Frag}{tg:Expr}(it:Addr)(lo:Int)(n:Nat):Gz P w K tg (qT lo n) [it] it (λi h=>IsRangeIter h it (lo+(i:Nat)*1) ((n:Int)-(i:Nat)) 1) where
 mem:=by simp
 obj:=λi h st b hb=>by
  have e:b=it:=by simpa using hb
  subst e
  exact⟨_,st,λv z=>by
   have z':Data.fields _=Data.cell v:=z
   cases z'⟩
 keep:=λi h h' st k=>k it (by simp) _ st
 item:=by
  intro X hP hw hK hc i pins s σ H E I hf st hg
  subst hP hw hK
  obtain⟨f0,f1,f2,f3,f4,f5⟩:=hf it (by simp)
  have W:=Walks.range (prog:=X.prog) (w:=X.w) (I.ok.hd hc) it lo 1 n
  refine W.item i s _ _ hg st λv h' tk hv st' kk=>?_
  obtain⟨t,rfl⟩:=hv
  have I1:Zm X pins σ H {s with heap:=h',toks:=tk}:=I.turned (λb o hb e=>kk b o (by simpa using hb) e) f0 f1 f3 f4 f5
  refine⟨_,rfl,Hu (s:={s with heap:=h',toks:=tk}) (n:="range_iterator") st' rfl rfl (by decide) ⟨.int (lo+i),H,I1,⟨t,?_⟩,⟨rfl,rfl⟩,st',λb hb=>(hf b hb).1⟩⟩
  rw[Int.mul_one]
 done:=by
  intro X hP hw hK hc i pins s σ H E I hf st hg
  subst hP hw hK
  obtain⟨f0,f1,f2,f3,f4,f5⟩:=hf it (by simp)
  exact wpAny_pyNext_range_end (I.ok.hd hc) st (by have:n<=i:=hg;omega) λh' eb=>⟨rfl,I.turned (t':=s.toks) (λb o hb e=>eb b o hb e) f0 f1 f3 f4 f5⟩
 self:=λ_ _ _ _ _ st h=>wpAny_pyIter_rangeiter st h
section
variable {X:Cx}{tg:Expr}
def zp {pins:List (Addr×Obj)}{σ:St}{H:Hp}{s:Shared}{R:It->Hp->Prop}{E:Value->Shared->Prop}{lo hi:Int}{t u v:Tok}{tk:Nat}(I:Zm X pins σ H s)(h1: -(2^62)<=lo)(h2:lo<2^62)(h3: -(2^62)<=hi)(h4:hi<2^62)
  (q:R (qT lo (hi-lo).toNat) H):wpAny (model X.prog X.w) X.A (pyIter (.ref s.heap.objs.size)) (oB X pins σ tg R) E {s with heap:=s.heap.push {cls:=.type "range",data:=.fields #[.int lo t,.int hi u,.int 1 v]},toks:=tk}:=by
 refine wpAny_pyIter_range (IsRange.new ..) (small_one h1 h2 h3 h4) ?_
 have I1:Zm X pins σ H {s with heap:=s.heap.push {cls:=.type "range",data:=.fields #[.int lo t,.int hi u,.int 1 v]},toks:=tk}:=I.kept λb o e=>XC _ e
 refine⟨(s.heap.push {cls:=.type "range",data:=.fields #[.int lo t,.int hi u,.int 1 v]}).objs.size,[(s.heap.push {cls:=.type "range",data:=.fields #[.int lo t,.int hi u,.int 1 v]}).objs.size],_,_,H,rfl,
  I1.kept (t':=tk) λb o e=>XC _ e,Fi _ lo (hi-lo).toNat,?_,λb hb=>?_,q⟩
 ·have e1:lo+((0:Nat):Int)*1=lo:=by simp
  have e2:(((hi-lo).toNat:Nat):Int)-((0:Nat):Int)=Builtin.Range.rangeSize lo hi 1:=by rw[rangeSize_one];split<;>omega
  show IsRangeIter _ _ (lo+((0:Nat):Int)*1) ((((hi-lo).toNat:Nat):Int)-((0:Nat):Int)) 1
  rw[e1,e2]
  exact XF _ rfl
 ·have e:b=(s.heap.push {cls:=.type "range",data:=.fields #[.int lo t,.int hi u,.int 1 v]}).objs.size:=by simpa using hb
  subst e
  exact I1.fpOk (XE _) (I1.hok.fresh (XE _))
def rQ (ta:TA):TI:=λσ H R=>ta σ H λvs H1=>∃j:Int,vs=[.int j]/\ -(2^62)<=j/\j<2^62/\R (qT 0 j.toNat) H1
def Bi {a:Expr}{ta:TA}{p pos:Pos}(hg:Gl X "range")(hm:X.mg "range"=none)(ha:PA X [a] ta)(hs:starEach [a] X.env=[(false,eval a X.env)]:=by rfl):PI X tg (.Call (.Name "range" p) [a] [] pos) (rQ ta):=by
 intro pins s σ H R I h
 refine Call_ (Nu I hg hm boot_range (PyProof.Rows.callWith_type1 (Ji (ha pos pins s σ H _ I h) λus s1 ⟨vs,H1,I1,r1,q1⟩=>?_) hs rfl))
 obtain⟨j,e,q1,q2,q⟩:=q1
 subst e
 cases r1 with
 | cons r rr=>
  cases rr
  obtain⟨t,rfl⟩:=r
  exact call_range_1 (zp I1 (by omega) (by omega) q1 q2 (by simpa using q))
def sw (wi:TI)(g:TG)(tb:TS):TS:=λD σ H=>wi σ H λJ H1=>∃W:Nat->Nat->St->Hp->Prop,(∃m,W 0 m σ H1)/\∀i m σ H,W i m σ H->
 (J.stop i H/\D.nx σ H)\/(J.go i H/\∃N:St->Hp->Prop,(∀σ' H',N σ' H'->∃m',m'<m/\W (i+1) m' σ' H')/\∀x H',J.yld i H x H'->g x σ H' λσ2 H2=>tb {D with nx:=N,ct:=N,bk:=D.nx} σ2 H2)
def Pm (fp:List Addr)(h:Heap):List (Addr×Obj):=fp.filterMap λb=>(h.get? b).map λo=>(b,o)
def Xt {fp:List Addr}{h:Heap}{b:Addr}{o:Obj}(hb:b∈fp)(e:h.get? b=some o):(b,o)∈Pm fp h:=List.mem_filterMap.mpr ⟨b,hb,by rw[e];rfl⟩
def Bp {fp:List Addr}{h:Heap}{p:Addr×Obj}(hp:p∈Pm fp h):p.1∈fp/\h.get? p.1=some p.2:=by
 obtain⟨b,hb,e⟩:=List.mem_filterMap.mp hp
 cases q:h.get? b with
 | none=>rw[q] at e;cases e
 | some o=>
  rw[q] at e
  have e':(b,o)=p:=YH e
  subst e'
  exact⟨hb,q⟩
def Zm.pinned {pins:List (Addr×Obj)}{σ:St}{H:Hp}{s:Shared}{fp:List Addr}(I:Zm X pins σ H s)(hf:∀b∈fp,Vj X pins H b)(ho:∀b∈fp,∃o,s.heap.get? b=some o/\∀v,o.data≠.cell v):Zm X (pins++Pm fp s.heap) σ H s:=
 I.pins_of λp hp=>(XS.mp hp).elim (λz=>I.pin p (XT _ z)) λz=>by
  obtain⟨hb,e⟩:=Bp z
  obtain⟨f0,f1,f2,_⟩:=hf p.1 hb
  obtain⟨o,e',d⟩:=ho p.1 hb
  rw[e] at e';cases e'
  exact⟨e,f0,f1,f2,d⟩
def Zm.unpinned {pins pl:List (Addr×Obj)}{σ:St}{H:Hp}{s:Shared}(I:Zm X (pins++pl) σ H s):Zm X pins σ H s:=I.pins_of λp hp=>I.pin p (XT _ (List.mem_append_left _ hp))
def vz {iter:Expr}{body:List Stmt}{wi:TI}{g:TG}{tb:TS}{pos:Pos}(hp:PassesOwn (model X.prog X.w) X.A X.env X.xe)(hc:X.calm=true)(hi:PI X tg iter wi)(hg:PG X tg g)(hb:Lq X body tb)
  (hs:∀x,foldedSetIterable iter X.env x=pure x:=by intro _;rfl):PS X (.For tg iter body [] pos) (sw wi g tb):=by
 intro pins s σ H D I h
 refine wpAny_For (Ji (hi pins s σ H _ I h) λv s1 h1=>Ji h1 λitv s2 h2=>?_) hs
 obtain⟨it,fp,tn,J,H2,e,I2,T,st2,f2,W,⟨m0,w0⟩,turn⟩:=h2
 subst e
 have stat:∀{H':Hp},(∀b∈fp,H' b=none)->∀b∈fp,Vj X pins H' b:=λhn b hb=>⟨hn b hb,(f2 b hb).2⟩
 refine codeAny_forLoop_any (λn s'=>∃i σ' H',Zm X pins σ' H' s'/\tn i s'.heap/\(∀b∈fp,H' b=none)/\W i n σ' H') ?_ m0 ⟨0,σ,H2,I2,st2,λb hb=>(f2 b hb).1,w0⟩
 rintro n s3 ⟨i,σ3,H3,I3,st3,fr3,w3⟩
 rcases turn i n σ3 H3 w3 with⟨stop,qn⟩ | ⟨go,N,hN,step⟩
 ·refine wpAny_passesOwn hp (Ji (T.done X rfl rfl rfl hc i pins s3 σ3 H3 X.xe I3 (stat fr3) st3 stop) λr s4 ⟨hr,I4⟩=>?_)
  subst hr
  exact wpAny_execs_nil ⟨σ3,H3,I4,qn⟩
 ·refine wpAny_passesOwn hp (Ji (T.item X rfl rfl rfl hc i pins s3 σ3 H3 X.xe I3 (stat fr3) st3 go) λr s4 ⟨u,hr,h4⟩=>?_)
  subst hr
  refine wpAny_passesOwn hp (Ji h4 λ_ s5 ⟨x,H5,I5,r5,y5,st5,fr5⟩=>?_)
  have I5':=I5.pinned (stat fr5) (T.obj _ _ st5)
  refine wpAny_passesOwn hp (Ji (hg _ s5 σ3 H5 x u _ I5' r5 (step x H5 y5)) λ_ s6 ⟨σ6,H6,I6,q6⟩=>?_)
  refine wpAny_passesOwn hp (Ji (hb _ s6 σ6 H6 _ I6 q6) λf s7 q7=>?_)
  have again:∀{σ7:St} {H7:Hp},Zm X (pins++Pm fp s5.heap) σ7 H7 s7->N σ7 H7->∃m,m<n/\∃i σ' H',Zm X pins σ' H' s7/\tn i s7.heap/\(∀b∈fp,H' b=none)/\W i m σ' H':=λ{σ7 H7} I7 n7=>by
   obtain⟨m',hm,w7⟩:=hN σ7 H7 n7
   refine⟨m',hm,i+1,σ7,H7,I7.unpinned,T.keep _ _ _ st5 λb hb o e=>(I7.pin (b,o) (XT _ (XT _ (Xt hb e)))).1,λb hb=>?_,w7⟩
   obtain⟨o,e,d⟩:=T.obj _ _ st5 b hb
   exact(I7.pin (b,o) (XT _ (XT _ (Xt hb e)))).2.1
  cases f with
  | next=>obtain⟨σ7,H7,I7,n7⟩:=q7;exact again I7 n7
  | cont=>obtain⟨σ7,H7,I7,n7⟩:=q7;exact again I7 n7
  | brk=>obtain⟨σ7,H7,I7,q7⟩:=q7;exact⟨σ7,H7,I7.unpinned,q7⟩
  | ret v=>obtain⟨x7,σ7,H7,I7,r7,q7⟩:=q7;exact⟨x7,σ7,H7,I7.unpinned,r7,q7⟩
end
abbrev R2:=V->V->Hp->VK->Prop
def O8 (X:Cx)(f:Value->Value->Sem Value)(r:R2):Prop:=
 ∀(pins:List (Addr×Obj)) (s:Shared) (σ:St) (H:Hp) (x y:V) (v u:Value) (Q:VK),Zm X pins σ H s->Z3 x v->Z3 y u->r x y H Q->
  wpAny (model X.prog X.w) X.A (f v u) (EP X pins σ Q) X.xe s
def o3 (X:Cx)(f:Value->Sem Value)(r:V->Hp->VK->Prop):Prop:=
 ∀(pins:List (Addr×Obj)) (s:Shared) (σ:St) (H:Hp) (x:V) (v:Value) (Q:VK),Zm X pins σ H s->Z3 x v->r x H Q->
  wpAny (model X.prog X.w) X.A (f v) (EP X pins σ Q) X.xe s
def Xb (X:Cx)(f:Value)(r:List V->Hp->VK->Prop):Prop:=
 ∀(pins:List (Addr×Obj)) (s:Shared) (σ:St) (H:Hp) (xs:List V) (us:List Value) (Q:VK),Zm X pins σ H s->Zx xs us->r xs H Q->
  wpAny (model X.prog X.w) X.A (call f us) (EP X pins σ Q) X.xe s
def o4 (X:Cx)(r:V->Hp->(Bool->Hp->Prop)->Prop):Prop:=
 ∀(pins:List (Addr×Obj)) (s:Shared) (σ:St) (H:Hp) (x:V) (v:Value) (Q:Bool->Hp->Prop),Zm X pins σ H s->Z3 x v->r x H Q->
  wpAny (model X.prog X.w) X.A (truthy v) (TP X pins σ Q) X.xe s
def sf (r:R2)(ta tb:TE):TE:=λσ H Q=>ta σ H λx H1=>tb σ H1 λy H2=>r x y H2 Q
def oQ (r:V->Hp->VK->Prop)(ta:TE):TE:=λσ H Q=>ta σ H λx H1=>r x H1 Q
def rI (C:Int->Int->Prop)(g:Int->Int->V):R2:=λx y H Q=>∃i j,x=.int i/\y=.int j/\C i j/\Q (g i j) H
def sW (g:Int->Int->V):R2:=λx y H Q=>∃i j,x=.int i/\y=.int j/\Q (g i j) H
def rU (g:Int->V):V->Hp->VK->Prop:=λx H Q=>∃i,x=.int i/\Q (g i) H
section
variable {X:Cx}{a b c:Expr}{ta tb tc:TE}{pos:Pos}
def uP (ha:PE X a ta)(hb:PE X b tb){pins:List (Addr×Obj)}{s:Shared}{σ:St}{H:Hp}{R:V->V->Hp->Prop}(I:Zm X pins σ H s)
  (h:ta σ H λx H1=>tb σ H1 λy H2=>R x y H2) {Q:Value->Shared->Prop} {f:Value->Value->Sem Value}
  (hf:∀v u s2 x y H2,Zm X pins σ H2 s2->Z3 x v->Z3 y u->R x y H2->wpAny (model X.prog X.w) X.A (f v u) Q X.xe s2):
  wpAny (model X.prog X.w) X.A (eval a X.env) (λv s₁=>wpAny (model X.prog X.w) X.A (eval b X.env) (λu s₂=>wpAny (model X.prog X.w) X.A (f v u) Q X.xe s₂) X.xe s₁) X.xe s:=by
 refine Ji (ha pins s σ H _ I h) λv s1 ⟨x,H1,I1,r1,q1⟩=>?_
 refine Ji (hb pins s1 σ H1 _ I1 q1) λu s2 ⟨y,H2,I2,r2,q2⟩=>?_
 exact hf v u s2 x y H2 I2 r1 r2 q2
def re {op:Operator}{r:R2}(ho:O8 X (binaryOp op) r)(ha:PE X a ta)(hb:PE X b tb):PE X (.BinOp a op b pos) (sf r ta tb):=by
 intro pins s σ H Q I h
 exact wpAny_BinOp (uP ha hb I h λv u s2 x y H2 I2 rx ry q=>ho pins s2 σ H2 x y v u Q I2 rx ry q)
def rb {op:UnaryOp}{r:V->Hp->VK->Prop}(ho:o3 X (unaryOp op) r)(ha:PE X a ta):PE X (.UnaryOp op a pos) (oQ r ta):=by
 intro pins s σ H Q I h
 exact UnaryOp_ (Ji (ha pins s σ H _ I h) λv s1 ⟨x,H1,I1,r1,q1⟩=>ho pins s1 σ H1 x v Q I1 r1 q1)
def qH {f:Value->Value->Sem Value}{C:Int->Int->Prop}{g:Int->Int->Int}
  (rule:∀(i j:Int) (t u:Tok) (s:Shared) (Q:Value->Shared->Prop) (E:Value->Shared->Prop),C i j->Q (.int (g i j) s.toks) {s with toks:=s.toks+1}->wpAny (model X.prog X.w) X.A (f (.int i t) (.int j u)) Q E s):
  O8 X f (rI C λi j=>.int (g i j)):=by
 intro pins s σ H x y v u Q I rx ry h
 obtain⟨i,j,rfl,rfl,hc,q⟩:=h
 obtain⟨t,rfl⟩:=rx
 obtain⟨t',rfl⟩:=ry
 exact rule i j t t' s _ _ hc ⟨.int (g i j),H,I.tok _,⟨_,rfl⟩,q⟩
def pQ {f:Value->Value->Sem Value}{g:Int->Int->Int}
  (rule:∀(i j:Int) (t u:Tok) (s:Shared) (Q:Value->Shared->Prop) (E:Value->Shared->Prop),Q (.int (g i j) s.toks) {s with toks:=s.toks+1}->wpAny (model X.prog X.w) X.A (f (.int i t) (.int j u)) Q E s):
  O8 X f (sW λi j=>.int (g i j)):=by
 intro pins s σ H x y v u Q I rx ry h
 obtain⟨i,j,rfl,rfl,q⟩:=h
 obtain⟨t,rfl⟩:=rx
 obtain⟨t',rfl⟩:=ry
 exact rule i j t t' s _ _ ⟨.int (g i j),H,I.tok _,⟨_,rfl⟩,q⟩
def rn {f:Value->Value->Sem Value}{g:Int->Int->Bool}
  (rule:∀(i j:Int) (t u:Tok) (s:Shared) (Q:Value->Shared->Prop) (E:Value->Shared->Prop),Q (.bool (g i j)) s->wpAny (model X.prog X.w) X.A (f (.int i t) (.int j u)) Q E s):
  O8 X f (sW λi j=>.bl (g i j)):=by
 intro pins s σ H x y v u Q I rx ry h
 obtain⟨i,j,rfl,rfl,q⟩:=h
 obtain⟨t,rfl⟩:=rx
 obtain⟨t',rfl⟩:=ry
 exact rule i j t t' s _ _ ⟨.bl (g i j),H,I,rfl,q⟩
def qC (i j:Int):Prop:=0<j/\j<1073741824
def qB (i j:Int):Prop:=0<=j/\j<=1000000/\i.natAbs<2^64
def xD (i j:Int):Prop:=(-(2^64)<i/\i<2^64)\/(-(2^64)<j/\j<2^64)
def xD.ok {i j:Int}(h:xD i j):IntMulOk i j:=by
 rcases h with⟨h1,h2⟩ | ⟨h1,h2⟩
 ·exact .of_left (intBits_le_64 h1 h2)
 ·exact .of_right (intBits_le_64 h1 h2)
def vP:O8 X (binaryOp .Add) (sW λi j=>.int (i+j)):=pQ λ_ _ _ _ _ _ _ q=>add_int q
def vM:O8 X (binaryOp .Mult) (rI xD λi j=>.int (i*j)):=qH λ_ _ _ _ _ _ _ hc q=>mul_int q hc.ok
def jF:O8 X (binaryOp .FloorDiv) (rI qC λi j=>.int (i/j)):=qH λi j _ _ _ _ _ hc q=>by
 have h1:(0:Int)<j:=hc.1
 have h2:j<1073741824:=hc.2
 exact floordiv_int (by omega) (by rw[Int.fdiv_eq_ediv_of_nonneg i (by omega)];exact q) (.inl (PyProof.noPylong_small (by omega)))
def vN:O8 X (binaryOp .Mod) (rI (λ_ j=>0<j) λi j=>.int (i%j)):=qH λi j _ _ _ _ _ hc q=>by
 have h1:(0:Int)<j:=hc
 exact mod_int' (by omega) (by rw[Int.fmod_eq_emod_of_nonneg i (by omega)];exact q)
def vL:O8 X (binaryOp .Pow) (rI qB λi j=>.int (i^j.toNat)):=qH λ_ _ _ _ _ _ _ hc q=>pow_int_small hc.1 hc.2.1 hc.2.2 q
def nG {f:Value->Sem Value}{g:Int->Int}
  (rule:∀(i:Int) (t:Tok) (s:Shared) (Q:Value->Shared->Prop) (E:Value->Shared->Prop),Q (.int (g i) s.toks) {s with toks:=s.toks+1}->wpAny (model X.prog X.w) X.A (f (.int i t)) Q E s):
  o3 X f (rU λi=>.int (g i)):=by
 intro pins s σ H x v Q I rx h
 obtain⟨i,rfl,q⟩:=h
 obtain⟨t,rfl⟩:=rx
 exact rule i t s _ _ ⟨.int (g i),H,I.tok _,⟨_,rfl⟩,q⟩
def wF:o3 X (unaryOp .USub) (rU λi=>.int (-i)):=nG λ_ _ _ _ _ q=>neg_int q
end
def nU:V->V->Bool
 | .non,.non=>true | .non,.int _=>true | .int _,.non=>true | .non,.bl _=>true | .bl _,.non=>true | .non,.str _=>true | .str _,.non=>true
 | .int _,.int _=>true | .bl _,.bl _=>true | .str _,.str _=>true | .byt _,.byt _=>true
 | .int _,.str _=>true | .str _,.int _=>true | .bl _,.str _=>true | .str _,.bl _=>true
 | _,_=>false
section
variable {X:Cx}{a b c:Expr}{ta tb tc:TE}{pos:Pos}
def u7 {pins:List (Addr×Obj)}{σ:St}{H:Hp}{s:Shared}{Q:VK}{k k':Bool}(I:Zm X pins σ H s)(q:Q (.bl k) H)(e:k=k'):EP X pins σ Q (.bool k') s:=by
 subst e
 exact⟨.bl k,H,I,rfl,q⟩
def rk:O8 X (compareOp .Lt) (sW λi j=>.bl (decide (i<j))):=rn λ_ _ _ _ _ _ _ q=>lt_int q
def rl:O8 X (compareOp .Gt) (sW λi j=>.bl (decide (j<i))):=rn λ_ _ _ _ _ _ _ q=>gt_int q
def Bo:O8 X (compareOp .Lt) (λx y H Q=>∃i j,x=.str i/\y=.str j/\Q (.bl (decide (i.cps.toList<j.cps.toList))) H):=by
 intro pins s σ H x y v u Q I rx ry h
 obtain⟨i,j,rfl,rfl,q⟩:=h
 obtain⟨t,rfl⟩:=rx
 obtain⟨t',rfl⟩:=ry
 exact lt_str (u7 I q rfl)
def nk:HO->Bool
 | .lst _=>true
 | .ins _ _ _=>true
 | _=>false
def O8.or {f:Value->Value->Sem Value}{r r':R2}(h:O8 X f r)(h':O8 X f r'):O8 X f (λx y H Q=>r x y H Q\/r' x y H Q):=by
 intro pins s σ H x y v u Q I rx ry q
 rcases q with q | q
 ·exact h pins s σ H x y v u Q I rx ry q
 ·exact h' pins s σ H x y v u Q I rx ry q
def vS (b:Expr){op:CmpOp}(h:op≠.In:=by decide)(h2:op≠.NotIn:=by decide):behindInMarks op b=false:=by
 have e1:(op==CmpOp.In)=false:=by cases op<;>first | rfl | exact absurd rfl h
 have e2:(op==CmpOp.NotIn)=false:=by cases op<;>first | rfl | exact absurd rfl h2
 cases b<;>simp[behindInMarks,e1,e2]
def jB {op:CmpOp}{r:R2}(ho:O8 X (compareOp op) r)(ha:PE X a ta)(hb:PE X b tb)(hm:behindInMarks op b=false):PE X (.Compare a [op] [b] pos) (sf r ta tb):=by
 intro pins s σ H Q I h
 exact wpAny_Compare1 (uP ha hb I h λv u s2 x y H2 I2 rx ry q=>ho pins s2 σ H2 x y v u Q I2 rx ry q) hm
def xH (t:TE):TT:=λσ H Q=>t σ H λx H'=>∃k,x=.bl k/\Q k H'
def jx {op:CmpOp}{r:R2}(ho:O8 X (compareOp op) r)(ha:PE X a ta)(hb:PE X b tb)(hm:behindInMarks op b=false):PT X (.Compare a [op] [b] pos) (xH (sf r ta tb)):=by
 intro pins s σ H Q I h
 refine wpAny_isTrue_Compare1 (Ji (ha pins s σ H _ I h) λv s1 ⟨x,H1,I1,r1,q1⟩=>Ji (hb pins s1 σ H1 _ I1 q1) λu s2 ⟨y,H2,I2,r2,q2⟩=>
  Ji (ho pins s2 σ H2 x y v u _ I2 r1 r2 q2) λc s3 ⟨z,H3,I3,r3,k,e,q3⟩=>?_) hm
 subst e
 cases r3
 exact wpAny_truthy_bool ⟨H3,I3,q3⟩
def p7 (r r':R2)(ta tb tc:TE):TE:=λσ H Q=>ta σ H λx H1=>tb σ H1 λy H2=>r x y H2 λz H3=>∃k,z=.bl k/\
 (if k=true then tc σ H3 λw' H4=>r' y w' H4 Q else Q (.bl false) H3)
def uW (K:W.Frag)(x:V)(H:Hp)(k:Bool):Prop:=
 match x with
 | .non=>k=false
 | .bl b=>k=b
 | .int i=>k=(i !=0)
 | .str y=>y.length<=sizeLine/\k=((y.length:Int) !=0)
 | .byt y=>y.size<=sizeLine/\k=((y.size:Int) !=0)
 | .ref p=>(∃xs,Xz K H p xs/\k=!xs.isEmpty)\/(∃xs,Uc K H p xs/\k=!xs.isEmpty)\/∃kvs,H p=some (.dK kvs)/\k=!kvs.isEmpty
 | _=>False
def F4 {κ:Type}{kvs:List (κ×V)}{vs:List (κ×Value)}(r:KV kvs vs):(!vs.isEmpty)=!kvs.isEmpty:=by
 cases r<;>rfl
def Ny {xs:List V}{its:List Value}(r:Zx xs its):(!its.toArray.isEmpty)=!xs.isEmpty:=by
 cases r<;>simp
def Pq:(sizeLine:Nat)<2^63:=by rw[sizeLine_eq];decide
def wJ:o4 X (λx H Q=>∃k,uW X.K x H k/\Q k H):=by
 intro pins s σ H x v Q I rx h
 obtain⟨k,e,q⟩:=h
 have hl:=Pq
 have hs:sizeLine=16777216:=sizeLine_eq
 cases x with
 | non=>
  cases rx
  have e':k=false:=e
  subst e'
  exact truthy_none ⟨H,I,q⟩
 | bl b=>
  cases rx
  have e':k=b:=e
  subst e'
  exact wpAny_truthy_bool ⟨H,I,q⟩
 | int i=>
  obtain⟨t,rfl⟩:=rx
  have e':k=(i !=0):=e
  subst e'
  exact PySem.P.truthy_int ⟨H,I,q⟩
 | str y=>
  obtain⟨t,rfl⟩:=rx
  obtain⟨hy,e'⟩:y.length<=sizeLine/\k=((y.length:Int) !=0):=e
  subst e'
  exact PySem.P.truthy_str (by omega) ⟨H,I.tok _,q⟩
 | byt y=>
  obtain⟨t,rfl⟩:=rx
  obtain⟨hy,e'⟩:y.size<=sizeLine/\k=((y.size:Int) !=0):=e
  subst e'
  exact W.truthy_bytes (by omega) ⟨H,I.tok _,q⟩
 | ref p=>
  cases rx
  have e':(∃xs,Xz X.K H p xs/\k=!xs.isEmpty)\/(∃xs,Uc X.K H p xs/\k=!xs.isEmpty)\/∃kvs,H p=some (.dK kvs)/\k=!kvs.isEmpty:=e
  rcases e' with⟨xs,hx,e'⟩ | ⟨xs,hx,e'⟩ | ⟨kvs,hx,e'⟩
  ·subst e'
   obtain⟨its,r,pl,hz⟩:=I.list hx
   have hlen:=r.length
   exact wpAny_truthy_list pl.isList (by simp only[List.size_toArray];omega) ⟨H,I.tok _,by rw[Ny r];exact q⟩
  ·subst e'
   obtain⟨its,r,pl,hz⟩:=I.tuple hx
   have hlen:=r.length
   exact truthy_tuple pl (by simp only[List.size_toArray];omega) ⟨H,I.tok _,by rw[Ny r];exact q⟩
  ·subst e'
   obtain⟨hz,hS,vs,r,m⟩:kvs.length<=sizeLine/\(p==sysModules)=false/\∃vs,KV kvs vs/\s.heap.DictOf (Kt X.prog X.w) p vs:=I.hok p _ hx
   have hlen:kvs.length=vs.length:=Paired.length r
   exact wpAny_truthy_dict hS m (by omega) ⟨H,I.tok _,by rw[F4 r];exact q⟩
 | _=>exact(show False from e).elim
def zq (ha:PE X a ta)(he:∀whole,isTrue a X.env whole=(do let v <-whole;standAt a.pos;holding [v] (truthy v))):
  PT X a (λσ H Q=>ta σ H λx H'=>∃k,uW X.K x H' k/\Q k H'):=by
 intro pins s σ H Q I h
 exact isTrue_plain (Ji (ha pins s σ H _ I h) λv s1 ⟨x,H1,I1,r1,q1⟩=>wJ pins s1 σ H1 x v Q I1 r1 q1) (he _)
def Fy:O8 X (binaryOp .Add) (λx y H Q=>∃i j,x=.str i/\y=.str j/\i.length+j.length<=sizeLine/\Q (.str (i++j)) H):=by
 intro pins s σ H x y v u Q I rx ry h
 obtain⟨i,j,rfl,rfl,hz,q⟩:=h
 obtain⟨t,rfl⟩:=rx
 obtain⟨t',rfl⟩:=ry
 exact add_str (λt' tk=>⟨.str (i++j),H,I.tok _,⟨_,rfl⟩,q⟩) hz
def Uf {x:V}{us:List Value}(r:Zx [x] us):∃u,us=[u]/\Z3 x u:=by
 cases r with
 | cons r1 r2=>cases r2;exact⟨_,rfl,r1⟩
def tT {x y:V}{us:List Value}(r:Zx [x,y] us):∃u w',us=[u,w']/\Z3 x u/\Z3 y w':=by
 cases r with
 | cons r1 r2=>
  cases r2 with
  | cons r3 r4=>cases r4;exact⟨_,_,rfl,r1,r3⟩
def Ae (hc:X.calm=true):Xb X (.builtin "max") (λxs H Q=>∃i j,xs=[.int i,.int j]/\Q (.int (if j>i then j else i)) H):=by
 intro pins s σ H xs us Q I r h
 obtain⟨i,j,rfl,q⟩:=h
 obtain⟨u,w',rfl,⟨t,rfl⟩,⟨t',rfl⟩⟩:=tT r
 refine max_two_ints (I.ok.hd hc) λh' tk k=>⟨_,H,I.kept k,?_,q⟩
 by_cases hj:j>i
 ·rw[XY hj,XY hj];exact⟨_,rfl⟩
 ·rw[XX hj,XX hj];exact⟨_,rfl⟩
def Ig:Xb X (.type "str") (λxs H Q=>∃i,xs=[.int i]/\i.natAbs.log2<1920/\Q (.str (toString i)) H):=by
 intro pins s σ H xs us Q I r h
 obtain⟨i,rfl,hz,q⟩:=h
 obtain⟨u,rfl,t,rfl⟩:=Uf r
 exact PySem.P.str_of_int hz ⟨.str _,H,I.tok _,⟨_,rfl⟩,q⟩
def mH (K:W.Frag)(x:V)(H:Hp)(n:Nat):Prop:=
 match x with
 | .str y=>y.length<=sizeLine/\n=y.length
 | .byt y=>y.size<=sizeLine/\n=y.size
 | .ref p=>(∃xs,Xz K H p xs/\n=xs.length)\/∃xs,Uc K H p xs/\n=xs.length
 | _=>False
end
structure tj (h:Heap)(x dx C:Addr)(mA:Str->Option Value):Prop where
 obj:h.get? x=some (W.instObj C dx)
 ns:h.Ns1 dx mA
 ne:dx≠x
def Bv {h:Heap}{dx:Addr}{mA:Str->Option Value}(n:h.Ns1 dx mA):∃od,h.get? dx=some od/\∀name,W.lookIn name od=some (mA name):=by
 obtain⟨o,es,ep,ho,hd,hk,_,hm⟩:=n
 refine⟨o,ho,λname=>?_⟩
 have e:=hm name
 unfold nsFind findBy at e
 rw[<-Array.find?_toList] at e
 unfold W.lookIn
 rw[hd]
 dsimp only
 split
 ·rename_i y q
  rw[q] at e
  exact congrArg some e
 ·rename_i q
  rw[q] at e
  have a:es.toList.any (·.refKey)=false:=by
   rw[List.any_eq_false]
   intro y hy
   obtain⟨z,t,hkey⟩:=hk y (Array.mem_toList_iff.mp hy)
   simp[DictEntry.refKey,hkey]
  have a':¬es.toList.any (·.refKey)=true:=by rw[a];exact YJ
  rw[XX a']
  exact congrArg some e
def tj.look {h:Heap}{x dx C:Addr}{mA:Str->Option Value}(I:tj h x dx C mA):∃od,W.InstAt h x (W.instObj C dx) C (some od)/\∀name,W.lookIn name od=some (mA name):=
 let ⟨od,ho,hl⟩:=Bv I.ns
 ⟨od,⟨I.obj,rfl,rfl,ho⟩,hl⟩
section
variable {prog:Program}{w:World}{A:Around}{E:Value->Shared->Prop}{s:Shared}{K:W.Frag}{x dx C f:Addr}{mA:Str->Option Value}{name:Str}{v:Value}
end
def vt (f:Str)(v:V):List (Str×V)->List (Str×V)
 | []=>[(f,v)]
 | (g,x)::r=>if g=f then(g,v)::r else(g,x)::vt f v r
section
variable {P:Program}{w:World}{H H':Hp}{h h':Heap}{a C dx:Addr}{fs fs':List (Str×V)}
def jR (hok:Vl P w H h)(e:H a=some (.ins C dx fs)):∃mA,tj h a dx C mA/\(∀f,tf (fs.lookup f) (mA f))/\PySem.Within mA (fs.map (·.1))/\fs.length<=1000/\H dx=some (.own a):=by
 obtain⟨d,z,ne,ob,mA,n,r,q⟩:=(show Yt P w H h a (.ins C dx fs) from hok a _ e)
 exact⟨mA,⟨ob,n,ne⟩,r,q,z,d⟩
end
structure yV (K:W.Frag)(C:Addr):Prop where
 pg:W.plainGet K C Str.empty=true
 hd:W.hasDictIn K C=true
 po:W.plainOver K C=true
 sa:W.findIn K (.ref C) "__setattr__"=some (some (.builtin "object.__setattr__"))
def yV.get {K:W.Frag}{C:Addr}(c:yV K C)(f:Str):W.plainGet K C f=true:=c.pg
def Im (K:W.Frag)(C:Addr)(f:Str):Prop:=W.findIn K (.ref C) f=some none
structure mP (K:W.Frag)(C:Addr)(f:Str)(v:V)(u:Value):Prop where
 at_:W.findIn K (.ref C) f=some (some u)
 rel:Z3 v u
 get:W.specialIn K u "__get__"=some none
 cp:W.copiedNames.contains f=false
structure oD (K:W.Frag)(C:Addr)(m:Str)(f:Addr):Prop where
 at_:W.findIn K (.ref C) m=some (some (.ref f))
 fn:W.isFn K (.ref f)=true
 kp:W.keepIn K (.ref f)=true
section
variable {X:Cx}{pins:List (Addr×Obj)}{σ:St}{H:Hp}{s:Shared}{a C dx:Addr}{fs:List (Str×V)}{f:Str}{v:V}{A:Around}{E:Value->Shared->Prop}
end
def nN (K:W.Frag)(ta:TE)(f:Str):TE:=λσ H Q=>ta σ H λx H1=>∃a C dx fs v,x=.ref a/\H1 a=some (.ins C dx fs)/\yV K C/\Im K C f/\fs.lookup f=some v/\Q v H1
def nP (K:W.Frag)(ta:TE)(f:Str):TE:=λσ H Q=>ta σ H λx H1=>∃a C dx fs v u,x=.ref a/\H1 a=some (.ins C dx fs)/\yV K C/\mP K C f v u/\fs.lookup f=none/\Q v H1
def nV (K:W.Frag)(ta tv:TE)(f:Str):TS:=λD σ H=>tv σ H λy H1=>ta σ H1 λx H2=>∃a C dx fs,x=.ref a/\H2 a=some (.ins C dx fs)/\yV K C/\Im K C f/\fs.length<1000/\
 D.nx σ (Je H2 a (.ins C dx (vt f y fs)))
def mM (X:Cx)(op:Operator)(rd:V->V->Hp->VK->Prop):Prop:=
 ∀(pins:List (Addr×Obj)) (s:Shared) (σ:St) (H:Hp) (x y:V) (u v:Value) (Q:VK),Zm X pins σ H s->Z3 x u->Z3 y v->rd x y H Q->wpAny (model X.prog X.w) X.A (inplaceOp op u v) (EP X pins σ Q) X.xe s
def qG (K:W.Frag)(ta tv:TE)(rd:V->V->Hp->VK->Prop)(f:Str):TS:=λD σ H=>ta σ H λx H1=>∃a C dx fs v,x=.ref a/\H1 a=some (.ins C dx fs)/\yV K C/\Im K C f/\fs.lookup f=some v/\
 tv σ H1 λy H2=>rd v y H2 λz H3=>∃dx' fs',H3 a=some (.ins C dx' fs')/\fs'.length<1000/\D.nx σ (Je H3 a (.ins C dx' (vt f z fs')))
section
variable {X:Cx}{o e value:Expr}{f:Str}{pos pos' tpos:Pos}{ta tv:TE}
end
section
variable {X:Cx}{pins:List (Addr×Obj)}{σ:St}{H:Hp}{s:Shared}{A:Around}{E:Value->Shared->Prop}{Q:Value->Shared->Prop}{c:Value}{b:Bool}
inductive Ow (K:W.Frag)(H:Hp):V->Value->Prop where
 | non:Ow K H .non (.type "NoneType")
 | bl (x:Bool):Ow K H (.bl x) (.type "bool")
 | int (i:Int):Ow K H (.int i) (.type "int")
 | str (x:Str):Ow K H (.str x) (.type "str")
 | flt (x:UInt64):Ow K H (.flt x) (.type "float")
 | lst {a:Addr} {xs:List V} (e:H a=some (.lst xs)):Ow K H (.ref a) (.type "list")
 | frz {a:Addr} {o:Obj} {xs:List V} (e:H a=some (.frz o (.lst xs))):Ow K H (.ref a) (.type "list")
 | tup {a:Addr} {xs:List V} (e:H a=some (.tup xs)):Ow K H (.ref a) (.type "tuple")
 | dK {a:Addr} {kvs:List (X2×V)} (e:H a=some (.dK kvs)):Ow K H (.ref a) (.type "dict")
 | dT {a:Addr} {kvs:List (List X2×V)} (e:H a=some (.dT kvs)):Ow K H (.ref a) (.type "dict")
 | ins {a C dx:Addr} {fs:List (Str×V)} (e:H a=some (.ins C dx fs)) (cl:yV K C) (ha:W.findIn K (.ref C) "__class__"=some (some (.builtin "object.__class__")))
   (hn:W.specialIn K (.builtin "object.__class__") "__get__"=some (some (.builtin "getset_descriptor.__get__"))) (htk:W.takesIn K (.builtin "object.__class__")=some true)
   (hm:W.mroIn K C (.type "object")=some true):Ow K H (.ref a) (.ref C)
def Wn {x:V}{u t:Value}(I:Zm X pins σ H s)(rx:Z3 x u)(ty:Ow X.K H x t)(e:W.kitOne X.K t c=some b)(h:∀tk,Q (.bool b) {s with toks:=tk}):
  wpAny (model X.prog X.w) A (call (.builtin "isinstance") [u,c]) Q E s:=by
 cases ty with
 | non=>cases (show u=Value.none from rx);exact W.kia_one W.kitx_none I.kIn True.intro e (λz=>nomatch z) h
 | bl y=>cases (show u=Value.bool y from rx);exact W.kia_one W.kitx_bool I.kIn True.intro e (λz=>nomatch z) h
 | int i=>obtain⟨t,q⟩:=(show ∃t,u=Value.int i t from rx);cases q;exact W.kia_one W.kitx_int I.kIn True.intro e (λz=>nomatch z) h
 | str y=>obtain⟨t,q⟩:=(show ∃t,u=Value.str y t from rx);cases q;exact W.kia_one W.kitx_str I.kIn True.intro e (λz=>nomatch z) h
 | flt y=>obtain⟨t,q⟩:=(show ∃t,u=Value.float y t from rx);cases q;exact W.kia_one W.kitx_float I.kIn True.intro e (λz=>nomatch z) h
 | @lst a xs ea=>
  cases (show u=Value.ref a from rx)
  obtain⟨_,_,n,_,h1⟩:=(show Yt X.prog X.w H s.heap a (.lst xs) from I.hok a _ ea)
  exact W.kia_one W.kitx_list I.kIn ⟨_,h1,rfl⟩ e (λz=>nomatch z) h
 | @frz a ob xs ea=>
  cases (show u=Value.ref a from rx)
  obtain⟨_,_,_,n,_,h1⟩:=(show Yt X.prog X.w H s.heap a (.frz ob (.lst xs)) from I.hok a _ ea)
  exact W.kia_one W.kitx_list I.kIn ⟨_,h1,rfl⟩ e (λz=>nomatch z) h
 | @tup a xs ea=>
  cases (show u=Value.ref a from rx)
  obtain⟨_,_,_,p⟩:=(show Yt X.prog X.w H s.heap a (.tup xs) from I.hok a _ ea)
  obtain⟨o,h1,h2,_⟩:=p
  exact W.kia_one W.kitx_tuple I.kIn ⟨o,h1,h2⟩ e (λz=>nomatch z) h
 | @dK a kvs ea=>
  cases (show u=Value.ref a from rx)
  obtain⟨_,_,vs,_,p⟩:=(show Yt X.prog X.w H s.heap a (.dK kvs) from I.hok a _ ea)
  obtain⟨o,es,ep,h1,h2,_⟩:=p
  exact W.kia_one W.kitx_dict I.kIn ⟨o,h1,h2.1⟩ e (λz=>nomatch z) h
 | @dT a kvs ea=>
  cases (show u=Value.ref a from rx)
  obtain⟨_,_,xs,_,o,es,ep,h1,h2,_⟩:=(show Yt X.prog X.w H s.heap a (.dT kvs) from I.hok a _ ea)
  exact W.kia_one W.kitx_dict I.kIn ⟨o,h1,h2.1⟩ e (λz=>nomatch z) h
 | @ins a C dx fs ea cl ha hn htk hm=>
  cases (show u=Value.ref a from rx)
  obtain⟨mA,O,_⟩:=jR I.hok ea
  obtain⟨od,J,_⟩:=O.look
  exact W.kia_one (W.kitx_own (cl.get _) cl.hd ha hn htk hm) I.kIn J e (λz=>nomatch z) h
end
structure Y2 (k:Nat)(A:Around):Prop where
 hd:A.handled=none
 dp:A.depth+3*k+5<recursionLimit
 un:A.units+16*k+200<cLine
def Y2.deeper {k:Nat}{A:Around}(r:Y2 (k+1) A)(env:Env):Y2 k (A.deeper env):=
 ⟨r.hd,by have:=r.dp;show A.depth+1+3*k+5<_;omega,by have:=r.un;show A.units+3+16*k+200<_;omega⟩
def Y2.depth {k:Nat}{A:Around}(r:Y2 k A):A.depth<recursionLimit:=by have:=r.dp;omega
def wN:TA:=λ_ H Q=>Q [] H
def M3 (ta:TE)(tr:TA):TA:=λσ H Q=>ta σ H λx H1=>tr σ H1 λxs H2=>Q (x::xs) H2
section
variable {X:Cx}{e:Expr}{es:List Expr}{te:TE}{t:TA}{pos:Pos}
def Pn:PA X [] wN:=λ_ _ _ _ H Q I h=>Calls.spliced_nil ⟨[],H,I,.nil,h⟩
def Wf (ha:PE X e te)(hr:PA X es t)(hs:starEach (e::es) X.env=(false,eval e X.env)::starEach es X.env:=by rfl):PA X (e::es) (M3 te t):=by
 intro pos pins s σ H Q I h
 rw[hs]
 show wpAny _ _ (spliced ((false,eval e X.env)::backTo pos (starEach es X.env))) _ _ s
 refine Calls.spliced_cons (Ji (ha pins s σ H _ I h) λu s1 ⟨x,H1,I1,r1,q1⟩=>?_)
 exact Ji (hr pos pins s1 σ H1 _ I1 q1) λus s2 ⟨xs,H2,I2,r2,q2⟩=>⟨x::xs,H2,I2,.cons r1 r2,q2⟩
def tY (t:TA):TE:=λσ H Q=>t σ H λxs H1=>xs.length<=sizeLine/\∀p,H1 p=none->Q (.ref p) (Je H1 p (.tup xs))
def su (t:TA):TE:=λσ H Q=>t σ H λxs H1=>xs.length<=sizeLine/\∀p,H1 p=none->Q (.ref p) (Je H1 p (.lst xs))
def vC {x1}(h:PA X es t):PE X (.Tuple es x1 pos) (tY t):=by
 intro pins s σ H Q I hq
 refine wpAny_Tuple_spliced (Ji (h pos pins s σ H _ I hq) λus s1 ⟨xs,H1,I1,r,z,q⟩=>⟨by rw[<-r.length];exact z,?_⟩)
 have hf:H1 s1.heap.objs.size=none:=I1.hok.fresh (XE _)
 refine⟨.ref s1.heap.objs.size,Je H1 s1.heap.objs.size (.tup xs),I1.laid (t':=s1.toks) (λb u e=>XC _ e) (XE _) ?_,rfl,q _ hf⟩
 exact⟨z,us,r,⟨_,XF _ rfl,rfl,_,rfl⟩⟩
def vG (h:PA X es t):PE X (.List es pos) (su t):=by
 intro pins s σ H Q I hq
 refine wpAny_List_spliced (Ji (h pos pins s σ H _ I hq) λus s1 ⟨xs,H1,I1,r,z,q⟩=>⟨by rw[<-r.length];exact z,?_⟩)
 have hf:H1 s1.heap.objs.size=none:=I1.hok.fresh (XE _)
 refine⟨.ref s1.heap.objs.size,Je H1 s1.heap.objs.size (.lst xs),I1.laid (t':=s1.toks) (λb u e=>XC _ e) (XE _) ?_,rfl,q _ hf⟩
 exact⟨z,us,0,r,XF _ rfl⟩
end
abbrev Sp:=List V->Hp->VK->XK->Prop
abbrev Iq:=List Env->Hp->Shared->XK->Value->Shared->Prop
structure Em (P:Program)(w:World)(K:W.Frag)(mg:Str->Option Value)(base:Heap)(A:Around)(outer:List Env)(s:Shared)(H:Hp):Prop where
 frames:A.frames=some outer
 mod:Mod K mg base
 bs:∀b o,base.get? b=some o->s.heap.get? b=some o/\H b=none
 bsz:base.objs.size<=s.heap.objs.size
 funs:s.heap.FunFrames base outer
 frf:∀b∈Rv outer,H b=none
 hok:Vl P w H s.heap
 bare:AllBare s.gens
def CE (outer:List Env)(P:Program)(w:World)(H:Hp)(s:Shared)(Q:VK)(u:Value)(s':Shared):Prop:=
 ∃v H',s'.os=s.os/\AllBare s'.gens/\Un (Rv outer) [] H H' s.heap s'.heap/\Vl P w H' s'.heap/\Z3 v u/\Q v H'
def CR (CX:Iq)(outer:List Env)(P:Program)(w:World)(H:Hp)(s:Shared)(Q:VK)(E:XK)(r:Result)(s':Shared):Prop:=
 match r with
 | .ok (.ret u)=>CE outer P w H s Q u s'
 | .ok _=>False
 | .error e=>CX outer H s E e s'
structure Wi (P:Program)(w:World)(K:W.Frag)(mg:Str->Option Value)(base:Heap)(CX:Iq)(k:Nat)(f:Addr)(fd:FuncData)(ps:List Str)(sp:Sp):Prop where
 len:∀vs H Q E,sp vs H Q E->vs.length=ps.length
 run:∀(A:Around) (outer:List Env) (s:Shared) (H:Hp) (args:Args) (us:List Value) (vs:List V) (Q:VK) (E:XK),Y2 k A->Em P w K mg base A outer s H->BindsTo s fd args (ps.zip us)->Zx vs us->sp vs H Q E->
  codeAny (model P w) A (.call (.ref f) args) (CR CX outer P w H s Q E) s
section
variable {X:Cx}{pins:List (Addr×Obj)}{σ:St}{H:Hp}{s s':Shared}
def Zm.env0 (I:Zm X pins σ H s):Em X.prog X.w X.K X.mg X.base X.A X.stack s H:=
 ⟨I.ok.frames,I.ok.mod,I.bs,Nat.le_trans I.ok.bsz I.sz,I.stack,I.stkFree,I.hok,I.bare⟩
def Zm.after {Q:VK}{u:Value}(I:Zm X pins σ H s)(h:CE X.stack X.prog X.w H s Q u s'):EP X pins σ Q u s':=by
 obtain⟨v,H',os,bare,un,hok,r,q⟩:=h
 obtain⟨hh,g,d,t,os'⟩:=s'
 obtain rfl:os'=s.os:=os
 exact⟨v,H',I.call (h':=hh) (g':=g) (d':=d) (t':=t) (ch:=[]) un hok bare (λb z=>absurd z (by simp)),r,q⟩
end
def Iy (sp:Sp)(dvs:List V)(E:XK)(t:TA):TE:=λσ H Q=>t σ H λvs H1=>sp (vs++dvs) H1 Q E
def oS (C:Addr)(m:Str)(sp:Sp)(dvs:List V)(E:XK)(ta:TE)(t:TA):TE:=λσ H Q=>ta σ H λx H1=>∃a dx fs,x=.ref a/\H1 a=some (.ins C dx fs)/\fs.lookup m=none/\
 t σ H1 λvs H2=>sp (x::(vs++dvs)) H2 Q E
def oU (C:Addr)(sp:Sp)(dvs:List V)(E:XK)(t:TA):TE:=λσ H Q=>t σ H λvs H1=>∀x dx,H1 x=none->H1 dx=none->dx≠x->
 sp (.ref x::(vs++dvs)) (Je (Je H1 dx (.own x)) x (.ins C dx [])) (λv H2=>v=.non/\Q (.ref x) H2) E
def Xm (K:W.Frag)(fd:FuncData)(ps:List Str)(ds:List Value):Prop:=
 ∀(s:Shared) (us:List Value),K.In s.heap->(us++ds).length=ps.length->BindsTo s fd ⟨us,[]⟩ (ps.zip (us++ds))
def Xm.all {K:W.Frag}{fd:FuncData}{ps:List Str}(h:∀us:List Value,us.length=ps.length->bindArgs fd ⟨us,[]⟩=pure (ps.zip us)):Xm K fd ps []:=λs us _ hl=>by
 rw[YK] at hl |-
 exact .of_eq (h us hl)
def Vi (CX:Iq)(X:Cx)(E:XK):Prop:=∀(pins:List (Addr×Obj)) (σ:St) (H:Hp) (s:Shared) (e:Value) (s':Shared),Zm X pins σ H s->CX X.stack H s E e s'->X.xe e s'
section
variable {X:Cx}{CX:Iq}{k:Nat}{f C:Addr}{fd:FuncData}{ps:List Str}{sp:Sp}{dvs:List V}{ds:List Value}{E:XK}{x m:Str}{p pos apos:Pos}{e o:Expr}{es:List Expr}{ta:TE}{t:TA}
def vk {pins:List (Addr×Obj)}{σ:St}{H:Hp}{s:Shared}{Q:VK}{us:List Value}{vs:List V}(F:Wi X.prog X.w X.K X.mg X.base CX k f fd ps sp)(hr:Y2 k X.A)(hb:Xm X.K fd ps ds)(hd:Zx dvs ds)(hx:Vi CX X E)
  (I:Zm X pins σ H s) (r:Zx vs us) (h:sp (vs++dvs) H Q E):wpAny (model X.prog X.w) X.A (call (.ref f) us) (EP X pins σ Q) X.xe s:=by
 have r2:Zx (vs++dvs) (us++ds):=r.append hd
 have hl:(us++ds).length=ps.length:=by rw[<-r2.length];exact F.len _ _ _ _ h
 refine wpAny_call (codeAny_mono (F.run X.A X.stack s H ⟨us,[]⟩ (us++ds) (vs++dvs) Q E hr I.env0 (hb s us I.kIn hl) r2 h) λr s' hq=>?_)
 cases r with
 | error e=>exact hx pins σ H s e s' I hq
 | ok fl=>
  cases fl with
  | ret u=>exact I.after hq
  | next=>exact False.elim hq
  | brk=>exact False.elim hq
  | cont=>exact False.elim hq
def Dn (F:Wi X.prog X.w X.K X.mg X.base CX k f fd ps sp)(hr:Y2 k X.A)(hg:Gl X x)(hm:X.mg x=some (.ref f))(hk:W.keepIn X.K (.ref f)=true)(hb:Xm X.K fd ps ds)(hd:Zx dvs ds)(hx:Vi CX X E)
  (ha:PA X (e::es) t) (hdb:(x==("__debug__":Str))=false:=by decide) (he:starEach (e::es) X.env=(false,eval e X.env)::starEach es X.env:=by rfl) (hpl:(backTo pos (starEach es X.env)).any (·.1)=false:=by rfl):
  PE X (.Call (.Name x p) (e::es) [] pos) (Iy sp dvs E t):=by
 intro pins s σ H Q I h
 refine wpAny_Call_Name_kw (Xx I hg hm ?_ hdb)
 refine W.callWith_K (h₀:=X.base) I.ok.mod.kin hk (Ji (ha pos pins s σ H _ I h) λus s1 ⟨vs,H1,I1,r,q⟩=>⟨I1.kIn,?_⟩) he hpl
 exact vk F hr hb hd hx I1 r q
structure Mk (K:W.Frag)(C f:Addr):Prop where
 makes:W.makesIn K C=true
 init:W.findIn K (.ref C) "__init__"=some (some (.ref f))
 fn:W.isFn K (.ref f)=true
 kp:W.keepIn K (.ref C)=true
end
def PK (X:Cx)(kws:List Keyword)(t:TA):Prop:=
 ∀(pos:Pos) (pins:List (Addr×Obj)) (s:Shared) (σ:St) (H:Hp) (Q:List V->Hp->Prop),Zm X pins σ H s->t σ H Q->wpAny (model X.prog X.w) X.A (evalAll ((backToKw pos (keywordEach kws X.env)).map (·.2))) (AP X pins σ Q) X.xe s
section
variable {X:Cx}{CX:Iq}{k:Nat}{f C:Addr}{fd:FuncData}{ps ks:List Str}{sp:Sp}{E:XK}{x m:Str}{p pos apos kpos:Pos}{e o:Expr}{es:List Expr}{kws:List Keyword}{te ta:TE}{t tk:TA}{nm:Option Str}
structure oG (K:W.Frag)(fd:FuncData)(ps ks:List Str)(g:List Value->List Value->List Value)(gV:List V->List V->List V):Prop where
 to:∀(s:Shared) (us ws:List Value),K.In s.heap->(g us ws).length=ps.length->BindsTo s fd ⟨us,ks.zip ws⟩ (ps.zip (g us ws))
 rel:∀{vs:List V} {us:List Value} {zs:List V} {ws:List Value},Zx vs us->Zx zs ws->Zx (gV vs zs) (g us ws)
variable {g:List Value->List Value->List Value}{gV:List V->List V->List V}
end
structure Zp (N P:List Str)(sc:Scope):Prop where
 kind:sc.kind=.function
 co:sc.isCoroutine=false
 gen:sc.isGenerator=false
 nd:N.Nodup
 pre:N.take P.length=P
 par:∀x∈P,sc.names.lookup x=some .local\/sc.names.lookup x=some .cell
 nofree:∀y∈sc.names,y.2≠.free
def Lk {kindOf:Str->Option NameKind}{x:Str}:∀{binds:List (Str×Value)} {m:Str->Option Value},(∀v,(x,v)∉binds)->bindL kindOf binds m x=m x
 | [],_,_=>rfl
 | (n,v)::r,m,h=>by
  unfold bindL
  rw[Lk λw hw=>h w (XV _ hw)]
  split
  ·have:x≠n:=by rintro rfl;exact h v List.mem_cons_self
   simp[this]
  ·rfl
def Lm {kindOf:Str->Option NameKind}{x:Str}:∀{binds:List (Str×Value)} {m:Str->Option Value},(∀v,(x,v)∉binds)->bindC kindOf binds m x=m x
 | [],_,_=>rfl
 | (n,v)::r,m,h=>by
  unfold bindC
  rw[Lm λw hw=>h w (XV _ hw)]
  split
  ·rfl
  ·have:x≠n:=by rintro rfl;exact h v List.mem_cons_self
   simp[this]
def Ll {kindOf:Str->Option NameKind}{x:Str}{v:Value}:∀{P:List Str} {vs:List Value} {i:Nat} {m:Str->Option Value},P.Nodup->P[i]?=some x->vs[i]?=some v->kindOf x=some .local->
  bindL kindOf (P.zip vs) m x=some v
 | [],_,_,_,_,h,_,_=>by simp at h
 | _::_,[],_,_,_,_,h,_=>by simp at h
 | p::P,w::vs,0,m,nd,h1,h2,hk=>by
  simp at h1 h2;subst h1;subst h2
  show bindL kindOf ((p,w)::P.zip vs) m p=_
  unfold bindL
  rw[Lk λv hv=>(List.nodup_cons.mp nd).1 (List.of_mem_zip hv).1,XY hk]
  simp
 | p::P,w::vs,i+1,m,nd,h1,h2,hk=>by
  show bindL kindOf ((p,w)::P.zip vs) m x=_
  unfold bindL
  exact Ll (i:=i) (List.nodup_cons.mp nd).2 (by simpa using h1) (by simpa using h2) hk
def Ln {kindOf:Str->Option NameKind}{x:Str}{v:Value}:∀{P:List Str} {vs:List Value} {i:Nat} {m:Str->Option Value},P.Nodup->P[i]?=some x->vs[i]?=some v->kindOf x≠some .local->
  bindC kindOf (P.zip vs) m x=some v
 | [],_,_,_,_,h,_,_=>by simp at h
 | _::_,[],_,_,_,_,h,_=>by simp at h
 | p::P,w::vs,0,m,nd,h1,h2,hk=>by
  simp at h1 h2;subst h1;subst h2
  show bindC kindOf ((p,w)::P.zip vs) m p=_
  unfold bindC
  rw[Lm λv hv=>(List.nodup_cons.mp nd).1 (List.of_mem_zip hv).1,XX hk]
  simp
 | p::P,w::vs,i+1,m,nd,h1,h2,hk=>by
  show bindC kindOf ((p,w)::P.zip vs) m x=_
  unfold bindC
  exact Ln (i:=i) (List.nodup_cons.mp nd).2 (by simpa using h1) (by simpa using h2) hk
def start (N:List Str)(vs:List V):St:=vs.map some++List.replicate (N.length-vs.length) none
def Yx (CX:Iq)(P:Program)(w:World)(K:W.Frag)(mg:Str->Option Value)(base:Heap)(N:List Str)(qual:Str)(scope:Scope)(f:Addr)(cd:Value)(A:Around)(outer:List Env)(s:Shared)(H:Hp)(E:XK):Cx where
 prog:=P
 w:=w
 K:=K
 mg:=mg
 base:=base
 A:=A.deeper (envOfC qual scope s.heap.objs.size f cd)
 N:=N
 s₀:=s
 H₀:=H
 env:=envOfC qual scope s.heap.objs.size f cd
 outer:=outer
 stack:=envOfC qual scope s.heap.objs.size f cd::outer
 ex:=[]
 calm:=true
 fn:=λ_=>true
 pn:=[]
 xe:=λe s'=>wpAny (model P w) (A.deeper (envOfC qual scope s.heap.objs.size f cd)) (leaving (envOfC qual scope s.heap.objs.size f cd) e) (λ_ s''=>CX outer H s E e s'') (λe' s''=>CX outer H s E e' s'') s'
def Gv {sc:Scope}{n:Nat}{x:Str}(h:sc.names.lookup x=some .cell):∃c,(cellsFrom n sc.names []).lookup x=some c:=by
 have q:=W.cellsFrom_some sc.names n [] (.inl h)
 exact Option.isSome_iff_exists.mp q
def Ps {CX:Iq}{P:Program}{w:World}{K:W.Frag}{mg:Str->Option Value}{base:Heap}{N ps:List Str}{qual:Str}{scope:Scope}{f:Addr}{cd:Value}{A:Around}{outer:List Env}{s s1:Shared}{H:Hp}{E:XK}{us:List Value}{vs:List V}
  (S:Zp N ps scope) (hd:A.handled=none) (e0:Em P w K mg base A outer s H) (hl:vs.length=ps.length) (r:Zx vs us)
  (x:InCallC s s.heap.objs.size (bindL (envOfC qual scope s.heap.objs.size f cd).kindOf (ps.zip us) λ_=>none) (cellsFrom (s.heap.objs.size+1) scope.names []) (bindC (envOfC qual scope s.heap.objs.size f cd).kindOf (ps.zip us) λ_=>none) s1):
  Zm (Yx CX P w K mg base N qual scope f cd A outer s H E) [] (start N vs) H s1:=by
 have hpl:ps.length<=N.length:=by have:=congrArg List.length S.pre;rw[YM] at this;omega
 obtain⟨h1,tk,rfl,hk⟩:=x.done
 have noA:∀b:Addr,b∉(Yx CX P w K mg base N qual scope f cd A outer s H E).ex:=λb z=>absurd (show b∈([]:List Addr) from z) (by simp)
 refine⟨⟨e0.mod,S.kind,rfl,rfl,XE _,λy z c h1 h2=>?_,λy hy=>?_,λy c _ h=>?_,λ_=>hd,Around.frames_deeper e0.frames,.inr ⟨rfl,rfl⟩,λb z=>absurd z (noA b),e0.bs,e0.bsz,λb _ _=>noA b,λb z=>absurd z (noA b),e0.funs,e0.frf⟩,
  rfl,e0.bare,Un.kept hk,⟨_,x.toInCall.ns,λi y v h1 h2 h3=>?_⟩,λy c h=>⟨_,x.cell y c h⟩,e0.hok.fresh (Nat.le_refl _),λy c h=>?_,λp hp=>absurd (show p∈([]:List (Addr×Obj)) from hp) (by simp),e0.hok.kept hk,?_⟩
 ·exact name_of_addr x.apart (PySem.mem_of_lookup h1) (PySem.mem_of_lookup h2)
 ·have hy:scope.names.lookup y=some .cell\/scope.names.lookup y=some .free:=hy
  rcases hy with hy | hy
  ·exact Gv hy
  ·exact absurd rfl (S.nofree _ (PySem.mem_of_lookup hy))
 ·exact Nat.le_of_lt (x.above y c (PySem.mem_of_lookup h))
 ·have hi:i<vs.length:=by
   unfold start at h2
   by_cases hi:i<vs.length
   ·exact hi
   ·rw[List.getElem?_append_right (by simpa using hi)] at h2
    rw[List.getElem?_replicate] at h2
    split at h2<;>cases h2
  have ha:vs[i]?=some v:=by
   unfold start at h2
   rw[List.getElem?_append_left (by simpa using hi),List.getElem?_map] at h2
   cases e:vs[i]? with
   | none=>rw[e] at h2;cases h2
   | some a=>rw[e] at h2;cases h2;rfl
  obtain⟨u,hu,rv⟩:=r.get ha
  have hp:ps[i]?=some y:=by
   rw[<-S.pre,List.getElem?_take_of_lt (by omega)];exact h1
  have ndP:ps.Nodup:=by rw[<-S.pre];exact S.nd.sublist (List.take_sublist _ _)
  refine⟨u,rv,?_⟩
  rcases S.par y (List.mem_of_getElem? hp) with k | k
  ·exact .inl ⟨k,Ll ndP hp hu k⟩
  ·obtain⟨c,e⟩:=Gv (n:=s.heap.objs.size+1) k
   refine .inr ⟨.inl k,c,e,?_⟩
   have q:=x.cell y c e
   rw[Ln ndP hp hu (by show scope.names.lookup y≠_;rw[k];decide)] at q
   exact q
 ·exact e0.hok.fresh (Nat.le_of_lt (x.above y c (PySem.mem_of_lookup h)))
 ·unfold start
  show _=N.length
  rw[List.length_append,XI,List.length_replicate]
  omega
def xT {CX:Iq}{P:Program}{w:World}{K:W.Frag}{mg:Str->Option Value}{base:Heap}{k:Nat}{f:Addr}{name qual:Str}{params:Arguments}{body:List Stmt}{scope:Scope}{dV kV doc pm cdv ct oc:Value}{an od:Option Addr}
  {osl:Array (Option Value)} {N ps:List Str} {sp:Sp} (lk:K.lookup f=some ⟨oc,od,.func (W.fnOf name qual params body scope dV kV doc pm an cdv ct),osl⟩) (hcd:W.codeIn K cdv qual=true) (S:Zp N ps scope)
  (len:∀vs H Q E,sp vs H Q E->vs.length=ps.length)
  (hbody:∀(A:Around) (outer:List Env) (s:Shared) (H:Hp) (vs:List V) (Q:VK) (E:XK),Y2 k (A.deeper (envOfC qual scope s.heap.objs.size f cdv))->sp vs H Q E->
   ∃t,Lq (Yx CX P w K mg base N qual scope f cdv A outer s H E) body t/\t {nx:=λ_ H'=>Q .non H',rt:=Q} (start N vs) H):
  Wi P w K mg base CX (k+1) f (W.fnOf name qual params body scope dV kV doc pm an cdv ct) ps sp:=by
 refine⟨len,λA outer s H args us vs Q E hr e0 hb r hsp=>?_⟩
 have hl:=len _ _ _ _ hsp
 have KX:K.In s.heap:=e0.mod.kin.keeps λb o e=>(e0.bs b o e).1
 have lim:s.heap.NoLimit:=e0.mod.nolimit.keeps λb o e=>(e0.bs b o e).1
 have hkind:∀y∈ps.zip us,scope.names.lookup y.1=some .local\/(scope.names.lookup y.1=some .cell/\((cellsFrom (s.heap.objs.size+1) scope.names []).lookup y.1).isSome=true):=λ⟨n,v⟩ hy=>by
  rcases S.par n (List.of_mem_zip hy).1 with q | q
  ·exact .inl q
  ·exact .inr ⟨q,W.cellsFrom_some _ _ _ (.inl q)⟩
 refine codeAny_call_function hr.depth (KX _ _ lk) rfl S.co S.gen rfl (W.codeRec_of KX hcd) (hb _ _ _ _ ?_)
 refine wpAny_newFunctionEnv_cells S.kind hkind λenv he s1 x=>?_
 subst he
 refine⟨lim.keeps x.toInCall.keep,codeAny_func ?_⟩
 obtain⟨t,ht,hq⟩:=hbody A outer s H vs Q E (hr.deeper _) hsp
 have I:Zm (Yx CX P w K mg base N qual scope f cdv A outer s H E) [] (start N vs) H s1:=Ps S hr.hd e0 hl r x
 refine wpAny_mono (ht [] s1 (start N vs) H _ I hq) (λfl s' hs=>?_) λe s' hs=>hs
 have fin:∀{σ':St} {H':Hp} {v:V} {u:Value},Zm (Yx CX P w K mg base N qual scope f cdv A outer s H E) [] σ' H' s'->Z3 v u->Q v H'->CE outer P w H s Q u s':=
  λ{σ' H' v u} J rv q=>⟨v,H',J.os,J.bare,J.base,J.hok,rv,q⟩
 cases fl with
 | ret u=>
  obtain⟨v,σ',H',J,rv,q⟩:=hs
  exact fin J rv q
 | next=>
  obtain⟨σ',H',J,q⟩:=hs
  exact fin (v:=V.non) (u:=Value.none) J rfl q
 | brk=>
  obtain⟨_,_,_,q⟩:=hs
  exact False.elim q
 | cont=>
  obtain⟨_,_,_,q⟩:=hs
  exact False.elim q
section
variable {X:Cx}{x:Str}{p pos:Pos}{e:Expr}{es:List Expr}{t:TA}{id T:String}{r:List V->Hp->VK->Prop}
def p8 (r:List V->Hp->VK->Prop)(t:TA):TE:=λσ H Q=>t σ H λvs H1=>r vs H1 Q
def Td (hc:Xb X (.builtin id) r)(hg:Gl X x)(hm:X.mg x=none)(hv:bootBuiltins x=some (.builtin id))(ha:PA X (e::es) t)(hn:x≠"__name__":=by decide)(hdb:(x==("__debug__":Str))=false:=by decide)
  (he:starEach (e::es) X.env=(false,eval e X.env)::starEach es X.env:=by rfl) (hpl:(backTo pos (starEach es X.env)).any (·.1)=false:=by rfl):PE X (.Call (.Name x p) (e::es) [] pos) (p8 r t):=by
 intro pins s σ H Q I h
 refine wpAny_Call_Name_kw (Nu I hg hm hv ?_ hn hdb)
 exact PyProof.Rows.callWith_builtin1 (Ji (ha pos pins s σ H _ I h) λus s1 ⟨vs,H1,I1,r1,q1⟩=>hc pins s1 σ H1 vs us Q I1 r1 q1) he hpl
def Lb (hc:Xb X (.type T) r)(hg:Gl X x)(hm:X.mg x=none)(hv:bootBuiltins x=some (.type T))(ha:PA X (e::es) t)(hn:x≠"__name__":=by decide)(hdb:(x==("__debug__":Str))=false:=by decide)
  (he:starEach (e::es) X.env=(false,eval e X.env)::starEach es X.env:=by rfl) (hpl:(backTo pos (starEach es X.env)).any (·.1)=false:=by rfl):PE X (.Call (.Name x p) (e::es) [] pos) (p8 r t):=by
 intro pins s σ H Q I h
 refine wpAny_Call_Name_kw (Nu I hg hm hv ?_ hn hdb)
 exact PyProof.Rows.callWith_type1 (Ji (ha pos pins s σ H _ I h) λus s1 ⟨vs,H1,I1,r1,q1⟩=>hc pins s1 σ H1 vs us Q I1 r1 q1) he hpl
end
end L2
namespace HT
open PySem PyProof.Rows
def rE:List Int->List Int->Bool
 | [],[]=>false
 | [],_::_=>true
 | _::_,[]=>false
 | x::xs,y::ys=>if x=y then rE xs ys else decide (x<y)
section
open PySem.SeqAt
open PySem.AutoSeq1 (wpAny_loadPart')
open PySem.MeetsSeq PySem.MeetsSeq2 PySem.MeetsSeq3
end
section
variable {prog:Program}{w:World}{A:Around}{E:Value->Shared->Prop}{s:Shared}
def cat_tup {t b:Addr}{vs ws:List Value}{Q:Value->Shared->Prop}(ht:IsTup s.heap t vs.toArray)(hb:IsTup s.heap b ws.toArray)(hv:vs≠[])
  (h1:ws=[]->Q (.ref t) s) (h2:ws≠[]->Q (.ref s.heap.objs.size) {s with heap:=s.heap.push {cls:=.type "tuple",data:=.seq (vs++ws).toArray}})
  (hsz:vs.length+ws.length<=sizeLine):wpAny (model prog w) A (binaryOp .Add (.ref t) (.ref b)) Q E s:=by
 obtain⟨⟨cls,dd,data,sl⟩,ho,hc,n,hd⟩:=id ht
 obtain⟨⟨cls2,dd2,data2,sl2⟩,ho2,hc2,n2,hd2⟩:=id hb
 simp only at hc hd hc2 hd2
 subst hc hd hc2 hd2
 have e:vs.toArray++ws.toArray=(vs++ws).toArray:=by simp
 by_cases hw:ws=[]
 ·exact concat_meets ⟨_,ho,rfl⟩ ⟨_,ho2,rfl⟩ noFill_tuple_add seq_tuple_add PySem.F.slot_tuple_add PySem.F.entry_tuple_add (PySem.F.args_tuple_add_2 _ _)
   (tuple_addW1 t b vs.toArray ws.toArray n n2 dd dd2 sl sl2 (by simpa using hv) (by simp[hw])) ⟨ho,ho2,h1 hw⟩
 ·refine concat_meets ⟨_,ho,rfl⟩ ⟨_,ho2,rfl⟩ noFill_tuple_add seq_tuple_add PySem.F.slot_tuple_add PySem.F.entry_tuple_add (PySem.F.args_tuple_add_2 _ _)
   (tuple_addW2 t b vs.toArray ws.toArray n n2 dd dd2 sl sl2 (by simpa using hv) (by simpa using hw) (by rw[List.size_toArray,List.size_toArray];exact hsz)) ⟨ho,ho2,?_⟩
  rw[e]
  exact h2 hw
def sIx (n d:Nat):Option Int->Nat
 | none=>d
 | some v=>if v<0 then(v+(n:Int)).toNat else min v.toNat n
def sIx_none (n d:Nat):sIx n d none=d:=rfl
def sIx_nat (n d k:Nat):sIx n d (some (k:Int))=min k n:=by
 show(if (k:Int)<0 then((k:Int)+(n:Int)).toNat else min (k:Int).toNat n)=min k n
 rw[XX (by omega),Int.toNat_natCast]
def vj (n d:Nat)(hd:d<=n)(o:Option Int):sIx n d o<=n:=by
 cases o with
 | none=>exact hd
 | some v=>
  show(if v<0 then(v+(n:Int)).toNat else min v.toNat n)<=n
  by_cases hv:v<0
  ·rw[XY hv];omega
  ·rw[XX hv];exact Nat.min_le_right _ _
def Cb (v:Int)(n d:Nat):(if v<0 then max (v+(n:Int)) 0 else min v (n:Int))=((sIx n d (some v):Nat):Int):=by
 show(if v<0 then max (v+(n:Int)) 0 else min v (n:Int))=(((if v<0 then(v+(n:Int)).toNat else min v.toNat n):Nat):Int)
 by_cases hv:v<0
 ·simp only[if_pos hv];omega
 ·simp only[if_neg hv];omega
def Ej (lo hi:Option Int)(n:Nat):Builtin.Slice.sliceAdjust lo hi 1 (n:Int)=(((sIx n 0 lo:Nat):Int),((sIx n n hi:Nat):Int)):=by
 have h1:¬((1:Int)<0):=by omega
 unfold Builtin.Slice.sliceAdjust
 simp only[h1,if_false]
 refine Prod.ext ?_ ?_
 ·cases lo with
  | none=>rfl
  | some v=>exact Cb v n 0
 ·cases hi with
  | none=>rfl
  | some v=>exact Cb v n n
def Fv (i j:Nat):Builtin.Slice.slicePlaces (i:Int) (j:Int) 1=j-i:=by
 unfold Builtin.Slice.slicePlaces
 have h1:(1:Int)>0:=by omega
 simp only[h1,if_true,Int.ediv_one]
 split<;>omega
def Nk {v:Value}{o:Option Int}{Q:Option Int->Shared->Prop}(p:IsPart v o)(h:Q o s):wpAny (model prog w) A (Builtin.Slice.slicePartIndex v) Q E s:=by
 cases p with
 | none=>exact slicePart_none h
 | int i t=>exact slicePart_int h
def Pi {sl:Addr}{vl vu:Value}{lo hi:Option Int}{n:Nat}{Q:Int×Int×Nat->Shared->Prop}(hs:s.heap.IsSliceOf sl vl vu .none)(pl:IsPart vl lo)(pu:IsPart vu hi)
  (h:Q (((sIx n 0 lo:Nat):Int),1,sIx n n hi-sIx n 0 lo) s):wpAny (model prog w) A (Builtin.Slice.sliceApplied (.ref sl) (pure (n:Int))) Q E s:=by
 obtain⟨os,hos,hcs,hds⟩:=id hs
 unfold Builtin.Slice.sliceApplied Builtin.Slice.sliceFields
 refine XA (XA (wpAny_field hos hds (x:=vl) rfl (XA (wpAny_field hos hds (x:=vu) rfl (XA (wpAny_field hos hds (x:=.none) rfl (XB ?_)))))))
 refine XA (slicePart_none ?_)
 show wpAny _ _ (if ((1:Int)==0)=true then _ else _) _ _ s
 rw[XX (by decide)]
 refine XA (Nk pl (XA (Nk pu (XA (XB ?_)))))
 show wpAny _ _ (match Builtin.Slice.sliceAdjust lo hi 1 (n:Int) with | (lo,hi)=>pure (lo,(1:Int),Builtin.Slice.slicePlaces lo hi 1)) _ _ s
 rw[Ej lo hi n]
 show wpAny _ _ (pure (((sIx n 0 lo:Nat):Int),(1:Int),Builtin.Slice.slicePlaces ((sIx n 0 lo:Nat):Int) ((sIx n n hi:Nat):Int) 1)) _ _ s
 rw[Fv]
 exact XB h
def zx (xs:Array Value)(i k:Nat):((List.range k).filterMap λ(m:Nat)=>xs[((i:Int)+(m:Int)*1).toNat]?).toArray=((xs.toList.drop i).take k).toArray:=by
 have e:(λ(m:Nat)=>xs[((i:Int)+(m:Int)*1).toNat]?)=λm=>xs[i+m]?:=by
  funext m
  have:((i:Int)+(m:Int)*1).toNat=i+m:=by omega
  rw[this]
 rw[e]
 have:=pick_run xs i k
 rw[List.filterMap_map] at this
 have e2:((λx=>xs[x]?)∘λx=>i+x)=λm=>xs[i+m]?:=rfl
 rw[e2] at this
 rw[this]
def getItem_tuple_cut {t sl:Addr}{items:Array Value}{vl vu:Value}{lo hi:Option Int}{Q:Value->Shared->Prop}(ht:IsTup s.heap t items)(hs:s.heap.IsSliceOf sl vl vu .none)(pl:IsPart vl lo)(pu:IsPart vu hi)
  (hw:¬(sIx items.size 0 lo=0/\sIx items.size items.size hi=items.size))
  (h:Q (.ref s.heap.objs.size) {s with heap:=s.heap.push {cls:=.type "tuple",data:=.seq ((items.toList.drop (sIx items.size 0 lo)).take (sIx items.size items.size hi-sIx items.size 0 lo)).toArray}})
  (hsz:items.size<=sizeLine):wpAny (model prog w) A (getItem (.ref t) (.ref sl)) Q E s:=by
 have htake:sizeOk (.seq ((items.toList.drop (sIx items.size 0 lo)).take (sIx items.size items.size hi-sIx items.size 0 lo)).toArray):=by
  show((items.toList.drop (sIx items.size 0 lo)).take (sIx items.size items.size hi-sIx items.size 0 lo)).toArray.size<=sizeLine
  rw[XJ,YM,List.length_drop,Array.length_toList]
  omega
 have hj:sIx items.size items.size hi<=items.size:=vj _ _ (XE _) hi
 obtain⟨os,hos,hcs,hds⟩:=id hs
 have hTs:s.TypeIs (.ref sl) "slice":=⟨os,hos,hcs⟩
 unfold getItem
 try with_reducible refine wpAny_holding ?_
 first | refine XA (XB ?_) | skip
 refine XA (wpAny_sequenceKey ht.typeIs (by decide) ?_)
 refine XA (wpAny_callSpecial?_slot (name:=Str.ofString "__getitem__") ht.typeIs PyProof.Rows.slot_tuple_getitem
  (wpAny_call_entry PyProof.Rows.slot_tuple_getitem ht.typeIs entry_tuple_getitem ?_ (args_tuple_getitem _ _)))
 show wpAny _ _ (Builtin.Tuple.tupleItemsOf (.ref t)>>=_) _ _ s
 refine XA (tupleItemsOf_ ht ?_)
 refine XA (wpAny_typeOf hTs ?_)
 rw[XY (by decide)]
 refine XA (Pi hs pl pu ?_)
 have hno:¬((((sIx items.size 0 lo:Nat):Int)==0&&(1:Int)==1&&(sIx items.size items.size hi-sIx items.size 0 lo)==items.size)=true):=by
  intro q
  rw[Bool.and_eq_true,Bool.and_eq_true] at q
  have q1:((sIx items.size 0 lo:Nat):Int)=0:=eq_of_beq q.1.1
  have q2:sIx items.size items.size hi-sIx items.size 0 lo=items.size:=eq_of_beq q.2
  exact hw ⟨by omega,by omega⟩
 show wpAny _ _ (if (((sIx items.size 0 lo:Nat):Int)==0&&(1:Int)==1&&(sIx items.size items.size hi-sIx items.size 0 lo)==items.size)=true then _ else _) _ _ s
 rw[XX hno,zx]
 first
  | exact XA (m:=Builtin.Tuple.tupleExact _) (wpAny_newObj_type (XB ⟨_,rfl,XB h⟩) htake)
  | exact XA (m:=Builtin.Tuple.tupleExact _) (wpAny_newObj_type (XA (XB (XB ⟨_,rfl,XB h⟩))) htake)
  | exact XA (XA (m:=Builtin.Tuple.tupleExact _) (wpAny_newObj_type (XB (XB ⟨_,rfl,XB h⟩)) htake))
  | exact XA (XA (m:=Builtin.Tuple.tupleExact _) (wpAny_newObj_type (XB ⟨_,rfl,XB h⟩) htake))
end
end HT
namespace L2
open PySem PySem.Spec PyProof.Rows
abbrev TO:=St->Hp->(Option Int->Hp->Prop)->Prop
def PO (X:Cx)(e:Option Expr)(t:TO):Prop:=
 ∀(pins:List (Addr×Obj)) (s:Shared) (σ:St) (H:Hp) (Q:Option Int->Hp->Prop),Zm X pins σ H s->t σ H Q->
  wpAny (model X.prog X.w) X.A (evalPart e X.env) (λu s'=>∃o H',Zm X pins σ H' s'/\IsPart u o/\Q o H') X.xe s
def jk:TO:=λ_ H Q=>Q none H
def sd (t:TE):TO:=λσ H Q=>t σ H λx H1=>∃i,x=.int i/\Q (some i) H1
section
variable {X:Cx}{e:Expr}{te:TE}{lo hi:Option Expr}{tl th:TO}{pos p2:Pos}
def j5:PO X none jk:=by
 intro pins s σ H Q I h
 rw[evalPart_none]
 exact XB ⟨none,H,I,.none,h⟩
def j4 (h:PE X e te):PO X (some e) (sd te):=by
 intro pins s σ H Q I hw
 rw[evalPart_some]
 refine Ji (h pins s σ H _ I hw) λu s1 ⟨x,H1,I1,r1,q1⟩=>?_
 obtain⟨i,rfl,q⟩:=q1
 obtain⟨t,rfl⟩:=r1
 exact⟨some i,H1,I1,.int i t,q⟩
def xy (X:Cx)(r:V->Option Int->Option Int->Hp->VK->Prop):Prop:=
 ∀(pins:List (Addr×Obj)) (s:Shared) (σ:St) (H:Hp) (x:V) (v vl vu:Value) (lo hi:Option Int) (sl:Addr) (Q:VK),Zm X pins σ H s->Z3 x v->s.heap.IsSliceOf sl vl vu .none->IsPart vl lo->IsPart vu hi->r x lo hi H Q->
  ∃T id,typeLookup (.type T) "__getitem__"=pure (some (.builtin id))/\s.TypeIs v T/\wpAny (model X.prog X.w) X.A (getItem v (.ref sl)) (EP X pins σ Q) X.xe s
def xy.or {r r':V->Option Int->Option Int->Hp->VK->Prop}(h:xy X r)(h':xy X r'):xy X (λx lo hi H Q=>r x lo hi H Q\/r' x lo hi H Q):=by
 intro pins s σ H x v vl vu lo hi sl Q I rx hs pl pu q
 rcases q with q | q
 ·exact h pins s σ H x v vl vu lo hi sl Q I rx hs pl pu q
 ·exact h' pins s σ H x v vl vu lo hi sl Q I rx hs pl pu q
def nH (r:V->Option Int->Option Int->Hp->VK->Prop)(te:TE)(tl th:TO):TE:=λσ H Q=>te σ H λx H1=>tl σ H1 λl H2=>th σ H2 λu H3=>r x l u H3 Q
def zz {r:V->Option Int->Option Int->Hp->VK->Prop}(hr:xy X r)(he:PE X e te)(hl:PO X lo tl)(hu:PO X hi th):PE X (.Subscript e (.Slice lo hi none p2) pos) (nH r te tl th):=by
 intro pins s σ H Q I h
 refine Subscript_ (Ji (he pins s σ H _ I h) λv s1 ⟨x,H1,I1,r1,q1⟩=>?_)
 refine wpAny_Slice (Ji (hl pins s1 σ H1 _ I1 q1) λvl s2 ⟨l,H2,I2,pl,q2⟩=>Ji (hu pins s2 σ H2 _ I2 q2) λvu s3 ⟨u,H3,I3,pu,q3⟩=>?_)
 rw[evalPart_none]
 refine XB ?_
 have I4:Zm X pins σ H3 {s3 with heap:=s3.heap.push {cls:=.type "slice",data:=.fields #[vl,vu,.none]}}:=I3.kept (t':=s3.toks) λb ob q=>XC _ q
 obtain⟨T,id,hT,ht,hg⟩:=hr pins {s3 with heap:=s3.heap.push {cls:=.type "slice",data:=.fields #[vl,vu,.none]}} σ H3 x v vl vu l u s3.heap.objs.size Q I4 r1 (Heap.IsSliceOf.new ..) pl pu q3
 show wpAny (model X.prog X.w) X.A (subscriptTail e (.Slice lo hi none p2) v (.ref s3.heap.objs.size)) (EP X pins σ Q) X.xe {s3 with heap:=s3.heap.push {cls:=.type "slice",data:=.fields #[vl,vu,.none]}}
 exact tail_any (ops:=[.ref s3.heap.objs.size,v]) ht hT hg (by with_unfolding_all rfl)
def Gr (xs:List V)(lo hi:Option Int):List V:=(xs.drop (HT.sIx xs.length 0 lo)).take (HT.sIx xs.length xs.length hi-HT.sIx xs.length 0 lo)
def Oo (xs:List V)(lo hi:Option Int):(Gr xs lo hi).length<=xs.length:=by
 unfold Gr
 rw[YM,List.length_drop]
 omega
def pI (K:W.Frag):V->Option Int->Option Int->Hp->VK->Prop:=λx lo hi H Q=>∃a xs,x=.ref a/\Uc K H a xs/\
 ¬(HT.sIx xs.length 0 lo=0/\HT.sIx xs.length xs.length hi=xs.length)/\∀p,H p=none->Q (.ref p) (Je H p (.tup (Gr xs lo hi)))
def wX:xy X (pI X.K):=by
 intro pins s σ H x v vl vu lo hi sl Q I rx hs pl pu h
 obtain⟨a,xs,rfl,hx,hw,q⟩:=h
 cases rx
 obtain⟨its,r,ht,hz⟩:=I.tuple hx
 have hlen:its.toArray.size=xs.length:=by rw[XJ];exact r.length.symm
 refine⟨"tuple",_,PyProof.Rows.slot_tuple_getitem.lookup,ht.typeIs,?_⟩
 refine HT.getItem_tuple_cut ht hs pl pu (by rw[hlen];exact hw) ?_ (by rw[hlen];exact hz)
 rw[hlen]
 refine⟨.ref s.heap.objs.size,_,I.laid (t':=s.toks) (o:=.tup (Gr xs lo hi)) (λb ob q=>XC _ q) (XE _) ?_,rfl,q _ (I.hok.fresh (XE _))⟩
 exact⟨Nat.le_trans (Oo xs lo hi) hz,_,(r.drop (HT.sIx xs.length 0 lo)).take (HT.sIx xs.length xs.length hi-HT.sIx xs.length 0 lo),IsTup.new _ _⟩
def sX (K:W.Frag):R2:=λx y H Q=>∃a b xs ys,x=.ref a/\y=.ref b/\Uc K H a xs/\Uc K H b ys/\xs≠[]/\xs.length+ys.length<=sizeLine/\
 (ys=[]->Q (.ref a) H)/\(ys≠[]->∀p,H p=none->Q (.ref p) (Je H p (.tup (xs++ys))))
def Zx.nil_iff {xs:List V}{us:List Value}(r:Zx xs us):us=[]↔xs=[]:=by
 cases r with
 | nil=>simp
 | cons _ _=>simp
def jG:O8 X (binaryOp .Add) (sX X.K):=by
 intro pins s σ H x y v u Q I rx ry h
 obtain⟨a,b,xs,ys,rfl,rfl,ha,hb,hx,hz,q1,q2⟩:=h
 cases rx
 cases ry
 obtain⟨its,r1,p1,_⟩:=I.tuple ha
 obtain⟨its2,r2,p2,_⟩:=I.tuple hb
 refine HT.cat_tup p1 p2 (λz=>hx (r1.nil_iff.mp z)) (λz=>⟨.ref a,H,I,rfl,q1 (r2.nil_iff.mp z)⟩) (λz=>?_) (by rw[<-r1.length,<-r2.length];exact hz)
 refine⟨.ref s.heap.objs.size,_,I.laid (t':=s.toks) (o:=.tup (xs++ys)) (λb ob q=>XC _ q) (XE _) ?_,rfl,q2 (λw=>z (r2.nil_iff.mpr w)) _ (I.hok.fresh (XE _))⟩
 exact⟨by rw[List.length_append];exact hz,_,r1.append r2,IsTup.new _ _⟩
end
def zO (n:Nat)(i:Int):Option Nat:=if 0<=i then(if i<n then some i.toNat else none) else if-(n:Int)<=i then some (i+n).toNat else none
def Ub {α:Type}(xs:List α)(i:Int):Option α:=(zO xs.length i).bind λj=>xs[j]?
def jO {n:Nat}{i:Int}{j:Nat}(h:zO n i=some j):seqIndex? i n=some j/\j<n/\ -(n:Int)<=i/\i<n:=by
 unfold zO at h
 by_cases h0:0<=i
 ·rw[XY h0] at h
  by_cases h1:i<n
  ·rw[XY h1] at h
   have e:i.toNat=j:=YH h
   exact⟨by rw[seqIndex_of h0 h1,e],by omega,by omega,h1⟩
  ·rw[XX h1] at h;cases h
 ·rw[XX h0] at h
  by_cases h1: -(n:Int)<=i
  ·rw[XY h1] at h
   have e:(i+n).toNat=j:=YH h
   exact⟨by rw[seqIndex_neg (by omega) h1,e],by omega,h1,by omega⟩
  ·rw[XX h1] at h;cases h
def Ij {α:Type}{xs:List α}{i:Int}{v:α}(h:Ub xs i=some v):∃j,seqIndex? i xs.length=some j/\xs[j]?=some v/\j<xs.length/\ -(xs.length:Int)<=i/\i<xs.length:=by
 unfold Ub at h
 cases e:zO xs.length i with
 | none=>rw[e] at h;cases h
 | some j=>
  rw[e] at h
  obtain⟨h1,h2,h3,h4⟩:=jO e
  exact⟨j,h1,h,h2,h3,h4⟩
def Sa {α:Type}{xs:List α}{j:Nat}{v:α}(h:xs[j]?=some v):Ub xs (j:Int)=some v:=by
 have hj:j<xs.length:=(List.getElem?_eq_some_iff.mp h).1
 have e:zO xs.length (j:Int)=some j:=by
  unfold zO
  rw[if_pos (by omega),if_pos (by omega)];simp
 unfold Ub;rw[e];exact h
def Vs {α:Type}(xs:List α)(v:α):Ub (xs++[v]) (-1)=some v:=by
 have hl:(xs++[v]).length=xs.length+1:=by simp
 have e:zO (xs++[v]).length (-1)=some xs.length:=by
  unfold zO
  rw[hl,XX (by decide),XY (by omega)]
  congr 1
  omega
 unfold Ub
 rw[e]
 show(xs++[v])[xs.length]?=some v
 simp
def Ck (b:Expr):Prop:=∀o i,subscripted b false o i=operate [o,i] (getItem o i)
def yT (X:Cx)(r:R2):Prop:=
 ∀(value slice:Expr) (pins:List (Addr×Obj)) (s:Shared) (σ:St) (H:Hp) (x y:V) (v u:Value) (Q:VK),Zm X pins σ H s->Z3 x v->Z3 y u->r x y H Q->
  subscripted slice false v u=operate [v,u] (getItem v u)->wpAny (model X.prog X.w) X.A (subscriptTail value slice v u) (EP X pins σ Q) X.xe s
def qx (X:Cx)(id:String)(r:V->List V->Hp->VK->Prop):Prop:=
 ∀(pins:List (Addr×Obj)) (s:Shared) (σ:St) (H:Hp) (x:V) (xs:List V) (v:Value) (us:List Value) (Q:VK),Zm X pins σ H s->Z3 x v->Zx xs us->r x xs H Q->
  wpAny (model X.prog X.w) X.A (call (.builtin id) (v::us)) (EP X pins σ Q) X.xe s
section
variable {X:Cx}{a b:Expr}{ta tb:TE}{pos:Pos}
def yT.or {r r':R2}(h:yT X r)(h':yT X r'):yT X (λx y H Q=>r x y H Q\/r' x y H Q):=by
 intro value slice pins s σ H x y v u Q I rx ry q hs
 rcases q with q | q
 ·exact h value slice pins s σ H x y v u Q I rx ry q hs
 ·exact h' value slice pins s σ H x y v u Q I rx ry q hs
def rg {r:R2}(hr:yT X r)(ha:PE X a ta)(hb:PE X b tb)(hs:Ck b):PE X (.Subscript a b pos) (sf r ta tb):=by
 intro pins s σ H Q I h
 exact Subscript_ (uP ha hb I h λv u s2 x y H2 I2 rx ry q=>hr a b pins s2 σ H2 x y v u Q I2 rx ry q (hs _ _))
def sV (K:W.Frag):R2:=λx y H Q=>∃p xs i v,x=.ref p/\y=.int i/\Xz K H p xs/\Ub xs i=some v/\Q v H
def sT (K:W.Frag):R2:=λx y H Q=>∃p xs i v,x=.ref p/\y=.int i/\Uc K H p xs/\Ub xs i=some v/\Q v H
def sU:R2:=λx y H Q=>∃z i c,x=.str z/\y=.int i/\z.length<=sizeLine/\Ub z.cps.toList i=some c/\Q (.str ⟨#[c]⟩) H
def jN:yT X (sV X.K):=by
 intro value slice pins s σ H x y v u Q I rx ry h hs
 obtain⟨p,xs,i,z,rfl,rfl,hq,he,q⟩:=h
 cases rx
 obtain⟨t,rfl⟩:=ry
 obtain⟨its,r,pl,hz⟩:=I.list hq
 obtain⟨j,h1,h2,h3,h4,h5⟩:=Ij he
 obtain⟨w,ew,rw'⟩:=r.get h2
 have hl:=r.length
 have hn:=Pq
 have fin:EP X pins σ Q w s:=⟨z,H,I,rw',q⟩
 by_cases h0:0<=i
 ·have hj:i.toNat=j:=by
   rw[seqIndex_of h0 h5] at h1
   exact YH h1
  exact item_listR pl.isList h0 (by omega) (by rw[hj];simpa using ew) fin hs
 ·have hj:(i+(its.toArray.size:Int)).toNat=j:=by
   rw[seqIndex_neg (by omega) h4] at h1
   rw[XJ,<-hl]
   exact YH h1
  exact subscriptTail_builtinR (x:=w) pl.isList.typeIs slot_list_getitem.lookup
   (wpAny_getItem_list_neg (Q:=λr s'=>r=w/\EP X pins σ Q r s') pl.isList (by omega) (by rw[List.size_toArray]<;>omega) (by omega) (by rw[hj];simpa using ew) ⟨rfl,fin⟩) hs
def uf:yT X (sT X.K):=by
 intro value slice pins s σ H x y v u Q I rx ry h hs
 obtain⟨p,xs,i,z,rfl,rfl,hq,he,q⟩:=h
 cases rx
 obtain⟨t,rfl⟩:=ry
 obtain⟨its,r,pl,hz⟩:=I.tuple hq
 obtain⟨j,h1,h2,h3,h4,h5⟩:=Ij he
 obtain⟨w,ew,rw'⟩:=r.get h2
 have hl:=r.length
 have hn:=Pq
 have fin:EP X pins σ Q w s:=⟨z,H,I,rw',q⟩
 exact subscriptTail_builtinR (x:=w) pl.typeIs slot_tuple_getitem.lookup
  (getItem_tuple (j:=j) (Q:=λr s'=>r=w/\EP X pins σ Q r s') pl (by omega) (by omega) (by rw[List.size_toArray,<-hl];exact h1) (by simpa using ew) ⟨rfl,fin⟩) hs
def ug:yT X sU:=by
 intro value slice pins s σ H x y v u Q I rx ry h hs
 obtain⟨z,i,c,rfl,rfl,hz,he,q⟩:=h
 obtain⟨t,rfl⟩:=rx
 obtain⟨t',rfl⟩:=ry
 obtain⟨j,h1,h2,h3,h4,h5⟩:=Ij he
 have hl:z.cps.toList.length=z.length:=by simp[Str.length]
 rw[hl] at h1 h4 h5
 have hn:=Pq
 exact tail_any (typeIs_str s z t) slot_str_getitem.lookup (getItem_str (c:=c) (by
  have e1:decide (i< -(2^63:Int))=false:=YG (by omega)
  have e2:decide (i>=2^63)=false:=YG (by omega)
  rw[e1,e2,Bool.or_false]) (by rw[h1];simpa using h2) ⟨.str ⟨#[c]⟩,H,I.tok _,⟨_,rfl⟩,q⟩) hs
def ma (K:W.Frag):R2:=λx y H Q=>sV K x y H Q\/sT K x y H Q\/sU x y H Q
def uh:yT X (ma X.K):=jN.or (uf.or ug)
def Zm.lst {pins:List (Addr×Obj)}{σ:St}{H:Hp}{s:Shared}{p:Addr}{xs:List V}(I:Zm X pins σ H s)(h:H p=some (.lst xs)):
  ∃(its:List Value) (n:Nat),Zx xs its/\s.heap.get? p=some {cls:=.type "list",data:=.seq its.toArray n}/\xs.length<=sizeLine:=by
 obtain⟨z,its,n,r,e⟩:=I.hok p _ h
 exact⟨its,n,r,e,z⟩
def Ki (lo hi:Option Int)(n:Nat):(sliceBounds lo hi none n).1=((HT.sIx n 0 lo:Nat):Int)/\(sliceBounds lo hi none n).2.1=((HT.sIx n n hi:Nat):Int)/\(sliceBounds lo hi none n).2.2=1:=by
 refine⟨?_,?_,rfl⟩
 ·cases lo with
  | none=>simp[sliceBounds,HT.sIx]
  | some i=>
   simp only[sliceBounds,HT.sIx,Option.getD_none,show(1:Int)>0 by decide,if_true]
   by_cases h:i<0
   ·simp only[h,if_true]<;>omega
   ·simp only[h,if_false]<;>omega
 ·cases hi with
  | none=>simp[sliceBounds,HT.sIx]
  | some i=>
   simp only[sliceBounds,HT.sIx,Option.getD_none,show(1:Int)>0 by decide,if_true]
   by_cases h:i<0
   ·simp only[h,if_true]<;>omega
   ·simp only[h,if_false]<;>omega
def Mq (its:List Value)(lo hi:Option Int):slicePick its.toArray lo hi none=((its.drop (HT.sIx its.length 0 lo)).take (HT.sIx its.length its.length hi-HT.sIx its.length 0 lo)).toArray:=by
 obtain⟨h1,h2,h3⟩:=Ki lo hi its.toArray.size
 unfold slicePick
 rw[h1,h2,h3]
 simp only[sliceRange_one,pick_run,List.size_toArray]<;>rfl
def pK (K:W.Frag):V->Option Int->Option Int->Hp->VK->Prop:=λx lo hi H Q=>∃a xs,x=.ref a/\Xz K H a xs/\∀p,H p=none->Q (.ref p) (Je H p (.lst (Gr xs lo hi)))
def jm:xy X (pK X.K):=by
 intro pins s σ H x v vl vu lo hi sl Q I rx hs pl pu h
 obtain⟨a,xs,rfl,hx,q⟩:=h
 cases rx
 obtain⟨its,r,ht,hz⟩:=I.list hx
 have hlen:=r.length
 refine⟨"list",_,slot_list_getitem.lookup,ht.isList.typeIs,?_⟩
 refine wpAny_getItem_list_slice ht.isList hs pl pu .none (by simp) ?_ (by rw[List.size_toArray]<;>omega)
 rw[Mq,<-hlen]
 refine⟨.ref s.heap.objs.size,_,I.laid (t':=s.toks) (o:=.lst (Gr xs lo hi)) (λb ob q=>XC _ q) (XE _) ?_,rfl,q _ (I.hok.fresh (XE _))⟩
 exact⟨Nat.le_trans (Oo xs lo hi) hz,_,0,(r.drop (HT.sIx xs.length 0 lo)).take (HT.sIx xs.length xs.length hi-HT.sIx xs.length 0 lo),XF _ rfl⟩
def Hy:V->Bool
 | .non=>true
 | .bl _=>true
 | .int _=>true
 | .str _=>true
 | _=>false
def u9:V->V->Bool
 | .non,.non=>true
 | .bl a,.bl b=>a==b
 | .bl a,.int b=>(if a then 1 else 0)==b
 | .int a,.bl b=>a==(if b then 1 else 0)
 | .int a,.int b=>a==b
 | .str a,.str b=>a==b
 | _,_=>false
def yl {A:Around}{s:Shared}{y x:V}{u v:Value}(ry:Z3 y u)(rx:Z3 x v)(fy:Hy y=true)(fx:Hy x=true):SeqAt.EqAt A s u v (u9 y x):=by
 cases y with
 | non=>
  cases ry
  cases x with
  | non=>cases rx;exact SeqAt.EqAt.same _
  | bl b=>cases rx;exact SeqAt.EqAt.none_bool b
  | int b=>obtain⟨t,rfl⟩:=rx;exact SeqAt.EqAt.none_int b t
  | str b=>obtain⟨t,rfl⟩:=rx;exact SeqAt.EqAt.none_str b t
  | _=>exact absurd (show false=true from fx) YJ
 | bl a=>
  cases ry
  cases x with
  | non=>cases rx;exact SeqAt.EqAt.bool_none a
  | bl b=>cases rx;exact SeqAt.EqAt.bool_bool a b
  | int b=>obtain⟨t,rfl⟩:=rx;exact SeqAt.EqAt.bool_int a b t
  | str b=>obtain⟨t,rfl⟩:=rx;exact SeqAt.EqAt.bool_str a b t
  | _=>exact absurd (show false=true from fx) YJ
 | int a=>
  obtain⟨t',rfl⟩:=ry
  cases x with
  | non=>cases rx;exact SeqAt.EqAt.int_none a t'
  | bl b=>cases rx;exact SeqAt.EqAt.int_bool a t' b
  | int b=>obtain⟨t,rfl⟩:=rx;exact SeqAt.EqAt.int_int a t' b t
  | str b=>obtain⟨t,rfl⟩:=rx;exact SeqAt.EqAt.int_str a t' b t
  | _=>exact absurd (show false=true from fx) YJ
 | str a=>
  obtain⟨t',rfl⟩:=ry
  cases x with
  | non=>cases rx;exact SeqAt.EqAt.str_none a t'
  | bl b=>cases rx;exact SeqAt.EqAt.str_bool a t' b
  | int b=>obtain⟨t,rfl⟩:=rx;exact SeqAt.EqAt.str_int a t' b t
  | str b=>obtain⟨t,rfl⟩:=rx;exact SeqAt.EqAt.str_str a t' b t
  | _=>exact absurd (show false=true from fx) YJ
 | _=>exact absurd (show false=true from fy) YJ
def mV (x:V)(u:Value):Bool:=match u with
 | .none=>u9 .non x
 | .bool b=>u9 (.bl b) x
 | .int i _=>u9 (.int i) x
 | .str z _=>u9 (.str z) x
 | _=>false
def nq (x:V)(xs:List V):Bool:=xs.any λy=>u9 y x
def mS (K:W.Frag)(neg:Bool):R2:=λx y H Q=>∃p xs,y=.ref p/\(Xz K H p xs\/Uc K H p xs)/\Hy x=true/\xs.all Hy=true/\Q (.bl (if neg then !nq x xs else nq x xs)) H
def Ii:Xb X (.builtin "len") (λxs H Q=>∃p ys,xs=[.ref p]/\(Xz X.K H p ys\/Uc X.K H p ys)/\Q (.int ys.length) H):=by
 intro pins s σ H xs us Q I r h
 obtain⟨p,ys,rfl,hq,q⟩:=h
 obtain⟨u,rfl,rx⟩:=Uf r
 cases rx
 have hn:=Pq
 rcases hq with hq | hq
 ·obtain⟨its,r',pl,hz⟩:=I.list hq
  have hlen:=r'.length
  exact Calls.call_len_list pl.isList (by simp only[List.size_toArray]<;>omega) ⟨.int ys.length,H,I.tok _,⟨s.toks+1,by rw[List.size_toArray,hlen]⟩,q⟩
 ·obtain⟨its,r',pl,hz⟩:=I.tuple hq
  have hlen:=r'.length
  exact len_tuple pl (by simp only[List.size_toArray]<;>omega) ⟨.int ys.length,H,I.tok _,⟨s.toks+1,by rw[List.size_toArray,hlen]⟩,q⟩
def Ih:Xb X (.builtin "len") (λxs H Q=>∃z,xs=[.str z]/\z.length<=sizeLine/\Q (.int z.length) H):=by
 intro pins s σ H xs us Q I r h
 obtain⟨z,rfl,hz,q⟩:=h
 obtain⟨u,rfl,t,rfl⟩:=Uf r
 have hn:=Pq
 exact len_str (by omega) ⟨.int z.length,H,I.tok _,⟨_,rfl⟩,q⟩
def Xb.or {f:Value}{r r':List V->Hp->VK->Prop}(h:Xb X f r)(h':Xb X f r'):Xb X f (λxs H Q=>r xs H Q\/r' xs H Q):=by
 intro pins s σ H xs us Q I rs q
 rcases q with q | q
 ·exact h pins s σ H xs us Q I rs q
 ·exact h' pins s σ H xs us Q I rs q
def Mw:Xb X (.type "tuple") (λxs H Q=>∃p ys,xs=[.ref p]/\((Xz X.K H p ys/\∀l,H l=none->Q (.ref l) (Je H l (.tup ys)))\/(Uc X.K H p ys/\Q (.ref p) H))):=by
 intro pins s σ H xs us Q I r h
 obtain⟨p,ys,rfl,h⟩:=h
 obtain⟨u,rfl,rx⟩:=Uf r
 cases rx
 rcases h with⟨hq,q⟩ | ⟨hq,q⟩
 ·obtain⟨its,r',pl,hz⟩:=I.list hq
  have hlen:=r'.length
  refine call_tuple_list pl.isList (λh' kp=>?_) (by simp only[List.size_toArray]<;>omega)
  have I1:Zm X pins σ H {s with heap:=h'}:=I.kept (t':=s.toks) kp
  have I2:Zm X pins σ (Je H h'.objs.size (.tup ys)) {s with heap:=h'.push {cls:=.type "tuple",data:=.seq its.toArray}}:=
   I1.laid (t':=s.toks) (λb o e=>XC _ e) (XE _) (show Yt X.prog X.w _ _ _ (.tup ys) from⟨hz,its,r',IsTup.new _ _⟩)
  exact⟨.ref h'.objs.size,_,I2,rfl,q _ (I1.hok.fresh (XE _))⟩
 ·obtain⟨its,r',pl,hz⟩:=I.tuple hq
  exact call_tuple_same pl ⟨.ref p,H,I,rfl,q⟩
def wI (K:W.Frag)(T:String)(x:V)(H:Hp):Prop:=match x with
 | .str _=>T="str"
 | .int _=>T="int"
 | .ref p=>(T="list"/\∃xs,Xz K H p xs)\/(T="tuple"/\∃o,K.lookup p=some o/\o.cls=.type "tuple"/\o.dict=none)\/
   (T="dict"/\((∃kvs,H p=some (.dK kvs))\/∃kvs,H p=some (.dT kvs)))\/(T="set"/\∃S n,H p=some (.set S n))
 | _=>False
def A3 {pins:List (Addr×Obj)}{σ:St}{H:Hp}{s:Shared}{T:String}{x:V}{v:Value}(I:Zm X pins σ H s)(r:Z3 x v)(ty:wI X.K T x H):
  s.TypeIs v T/\∀a,v=.ref a->∃ob,s.heap.get? a=some ob/\ob.dict=none:=by
 cases x with
 | str z=>
  obtain⟨t,rfl⟩:=r
  cases (show T="str" from ty)
  exact⟨typeIs_str s z t,λ_ e=>nomatch e⟩
 | int i=>
  obtain⟨t,rfl⟩:=r
  cases (show T="int" from ty)
  exact⟨typeIs_int s i t,λ_ e=>nomatch e⟩
 | ref p=>
  cases r
  rcases ty with⟨rfl,xs,hq⟩ | ⟨rfl,o,hk,hc,hd⟩ | ⟨rfl,hk⟩ | ⟨rfl,S,n,hk⟩
  ·obtain⟨its,_,pl,_⟩:=I.list hq
   refine⟨pl.isList.typeIs,λa e=>?_⟩
   cases e
   obtain⟨o,n,e,c,hd,_⟩:=pl
   exact⟨o,e,hd⟩
  ·refine⟨⟨o,I.kIn p o hk,hc⟩,λa e=>?_⟩
   cases e
   exact⟨o,I.kIn _ o hk,hd⟩
  ·have z:∃o,s.heap.get? p=some o/\o.ExactDict:=by
    rcases hk with⟨kvs,hk⟩ | ⟨kvs,hk⟩
    ·obtain⟨_,_,_,_,o,_,_,e,ex,_⟩:=I.hok p _ hk
     exact⟨o,e,ex⟩
    ·obtain⟨_,_,_,_,o,_,_,e,ex,_⟩:=I.hok p _ hk
     exact⟨o,e,ex⟩
   obtain⟨o,e,ex⟩:=z
   refine⟨⟨o,e,ex.1⟩,λa e2=>?_⟩
   cases e2
   exact⟨o,e,ex.2.1⟩
  ·obtain⟨o,_,_,_,e,ex,_⟩:=I.hok p _ hk
   refine⟨⟨o,e,ex.1⟩,λa e2=>?_⟩
   cases e2
   exact⟨o,e,ex.2.1⟩
 | _=>exact False.elim ty
def p9 (K:W.Frag)(T:String)(r:V->List V->Hp->VK->Prop)(to:TE):TE:=λσ H Q=>to σ H λx H1=>wI K T x H1/\r x [] H1 Q
def nQ (K:W.Frag)(T:String)(r:V->List V->Hp->VK->Prop)(to:TE)(t:TA):TE:=λσ H Q=>to σ H λx H1=>wI K T x H1/\t σ H1 λxs H2=>r x xs H2 Q
variable {o e:Expr}{es:List Expr}{to:TE}{t:TA}{name:Str}{apos cpos:Pos}{T id:String}{r:V->List V->Hp->VK->Prop}
def vI (pa:PlainAttrs T)(slot:Slot T name id)(hty:typeOf (.builtin id)=pure (.type "method_descriptor"))(hm:qx X id r)(ho:PE X o to)
  (hbase:attributeBase o name X.env (eval o X.env)=eval o X.env:=by rfl) (hline:(apos.endLine==cpos.line)=true:=by rfl):PE X (.Call (.Attribute o name apos) [] [] cpos) (p9 X.K T r to):=by
 intro pins s σ H Q I h
 refine wpAny_Call_method0_late hbase hline (Ji (ho pins s σ H _ I h) λv s1 ⟨x,H1,I1,r1,ty,q1⟩=>?_)
 obtain⟨h1,h2⟩:=A3 I1 r1 ty
 exact⟨T,id,pa,slot,hty,h1,h2,Calls.callWith_builtin rfl (PySem.evalArgs_none (hm pins s1 σ H1 x [] v [] Q I1 r1 .nil q1))⟩
def ri (pa:PlainAttrs T)(slot:Slot T name id)(hty:typeOf (.builtin id)=pure (.type "method_descriptor"))(hm:qx X id r)(ho:PE X o to)(ha:PA X (e::es) t)
  (hbase:attributeBase o name X.env (eval o X.env)=eval o X.env:=by rfl)
  (hfew:((backTo cpos (starEach (e::es) X.env)).all (λx=>!x.1)&&(backToKw cpos (keywordEach [] X.env)).all (λx=>x.1.isSome)
   &&decide ((e::es).length+([]:List Keyword).length+(if ([]:List Keyword).isEmpty then 0 else 1)<30))=true:=by rfl)
  (hline:(apos.endLine==cpos.line)=true:=by rfl) (hs:starEach (e::es) X.env=(false,eval e X.env)::starEach es X.env:=by rfl) (hplain:(backTo cpos (starEach es X.env)).any (·.1)=false:=by rfl):
  PE X (.Call (.Attribute o name apos) (e::es) [] cpos) (nQ X.K T r to t):=by
 intro pins s σ H Q I h
 refine wpAny_Call_method_late hbase hfew hline rfl (Ji (ho pins s σ H _ I h) λv s1 ⟨x,H1,I1,r1,ty,q1⟩=>?_)
 obtain⟨h1,h2⟩:=A3 I1 r1 ty
 refine⟨T,id,pa,slot,hty,h1,h2,?_⟩
 have hA:=ha cpos pins s1 σ H1 _ I1 q1
 rw[hs] at hA |-
 refine Calls.callWith_builtin (by show(false||(backTo cpos (starEach es X.env)).any (·.1))=false;rw[hplain]<;>rfl) (Calls.evalArgs_plain ?_)
 exact Ji hA λus s2 ⟨vs,H2,I2,r2,q2⟩=>hm pins s2 σ H2 x vs v us Q I2 r1 r2 q2
/-xs.append(e),list.index on a module's tuple .. are qx facts of 06m-/
end
def nA (X:Cx)(id:String)(r:V->List V->Hp->VK->Prop):Prop:=
 ∀(pins:List (Addr×Obj)) (s:Shared) (σ:St) (H:Hp) (x:V) (xs:List V) (v:Value) (us:List Value) (Q:VK),Zm X pins σ H s->Z3 x v->Zx xs us->r x xs H Q->
  wpAny (model X.prog X.w) X.A (call (.builtin id) (v::us)) (EP X pins σ Q) X.xe s
def Zx.one:∀{x:V} {us:List Value},Zx [x] us->∃u,us=[u]/\Z3 x u
 | _,_,.cons r .nil=>⟨_,rfl,r⟩
def Zx.two:∀{x y:V} {us:List Value},Zx [x,y] us->∃u v,us=[u,v]/\Z3 x u/\Z3 y v
 | _,_,_,.cons r (.cons q .nil)=>⟨_,_,rfl,r,q⟩
def Zx.zero:∀{us:List Value},Zx [] us->us=[]
 | _,.nil=>rfl
def Zx.dropLast {xs:List V}{us:List Value}(h:Zx xs us):Zx xs.dropLast us.dropLast:=by
 induction h with
 | nil=>exact .nil
 | cons r t ih=>
  cases t with
  | nil=>exact .nil
  | cons q t'=>exact .cons r ih
def Ed {α:Type}(l:List α):l.eraseIdx (l.length-1)=l.dropLast:=by
 induction l with
 | nil=>rfl
 | cons a r ih=>
  cases r with
  | nil=>rfl
  | cons b r=>
   have e:(a::b::r).length-1=((b::r).length-1)+1:=by
    have h1:(a::b::r).length=r.length+2:=rfl
    have h2:(b::r).length=r.length+1:=rfl
    omega
   rw[e,List.eraseIdx_cons_succ,ih]
   all_goals rfl
section
variable {X:Cx}{pins:List (Addr×Obj)}{σ:St}{H:Hp}{s:Shared}{l b:Addr}{xs ys zs:List V}
def Zm.lset {its its':List Value}{n:Nat}{f:Array Value->Array Value}{t':Nat}(I:Zm X pins σ H s)(hH:H l=some (.lst xs))
  (e:s.heap.get? l=some {cls:=.type "list",data:=.seq its.toArray n}) (hf:f its.toArray=its'.toArray) (hv:Zx ys its') (hz:ys.length<=sizeLine):
  Zm X pins σ (Je H l (.lst ys)) {s with heap:=s.heap.update l (Obj.mapSeq f),toks:=t'}:=by
 have q:=PySem.IsL.update e f
 rw[hf] at q
 refine I.write (x:=l) (e:=l) (by rw[hH];exact trivial) (.inl rfl) (λb' u hb hu=>(Heap.get?_update_other s.heap (Obj.mapSeq f) (Ne.symm hb)).trans hu) ⟨_,q⟩ ?_
 exact⟨hz,its',_,hv,q⟩
def Zm.lnew {its:List Value}{t':Nat}(I:Zm X pins σ H s)(hv:Zx ys its)(hz:ys.length<=sizeLine):
  Zm X pins σ (Je H s.heap.objs.size (.lst ys)) {s with heap:=s.heap.push {cls:=.type "list",data:=.seq its.toArray},toks:=t'}:=
 I.laid (λ_ _ q=>XC _ q) (XE _) ⟨hz,its,0,hv,XF _ rfl⟩
def Zm.fresh (I:Zm X pins σ H s):H s.heap.objs.size=none:=I.hok.fresh (XE _)
def Zm.lstM (I:Zm X pins σ H s)(hH:H l=some (.lst xs)):xs.length<=sizeLine/\∃(its:List Value) (n:Nat),Zx xs its/\xs.length=its.length/\s.heap.get? l=some {cls:=.type "list",data:=.seq its.toArray n}:=by
 obtain⟨z,its,n,r,e⟩:=I.hok l _ hH
 exact⟨z,its,n,r,r.length,e⟩
end
section
variable {X:Cx}
def jv:V->List V->Hp->VK->Prop:=λx vs H Q=>∃l xs y,x=.ref l/\vs=[y]/\H l=some (.lst xs)/\xs.length<sizeLine/\Q .non (Je H l (.lst (xs++[y])))
def Pp:nA X "list.append" jv:=by
 intro pins s σ H x vs v us Q I rx rv h
 obtain⟨l,xs,y,rfl,rfl,hH,hz,q⟩:=h
 cases rx
 obtain⟨u,rfl,ru⟩:=rv.one
 obtain⟨z,its,n,r,hl,e⟩:=I.lstM hH
 refine call_meets F.slot_list_append ⟨_,e,rfl⟩ F.entry_list_append (F.args_list_append_2 _ _) (PySem.list_append l its.toArray n u (by rw[XJ];omega)) ⟨e,?_⟩
 refine⟨.non,_,I.lset (its':=its++[u]) hH e (by simp) (r.append (.cons ru .nil)) ?_,rfl,q⟩
 rw[List.length_append,List.length_singleton]
 omega
def pM:V->List V->Hp->VK->Prop:=λx vs H Q=>∃l xs y,x=.ref l/\vs=[]/\H l=some (.lst xs)/\xs[xs.length-1]?=some y/\Q y (Je H l (.lst xs.dropLast))
def vU:nA X "list.pop" pM:=by
 intro pins s σ H x vs v us Q I rx rv h
 obtain⟨l,xs,y,rfl,rfl,hH,hy,q⟩:=h
 cases rx
 have hus:=rv.zero
 subst hus
 obtain⟨z,its,n,r,hl,e⟩:=I.lstM hH
 obtain⟨u,hu,ru⟩:=r.get hy
 have hy':its.toArray[its.toArray.size-1]?=some u:=by
  show its.toArray[its.length-1]?=some u
  rw[<-Array.getElem?_toList,<-hl]
  exact hu
 refine call_meets F.slot_list_pop ⟨_,e,rfl⟩ F.entry_list_pop (F.args_list_pop_1 _) (MeetsSeq.list_pop_last l its.toArray n u hy' (by rw[XJ];omega)) ⟨e,?_⟩
 refine⟨y,_,I.lset (its':=its.dropLast) hH e ?_ r.dropLast ?_,ru,q⟩
 ·show its.toArray.eraseIdxIfInBounds (its.toArray.size-1)=its.dropLast.toArray
  rw[XJ,List.eraseIdxIfInBounds_toArray,Ed]
 ·rw[List.length_dropLast]
  omega
def pO:R2:=λx y H Q=>∃l b xs zs,x=.ref l/\y=.ref b/\H l=some (.lst xs)/\H b=some (.lst zs)/\xs.length+zs.length<=sizeLine/\∀p,H p=none->Q (.ref p) (Je H p (.lst (xs++zs)))
def vO:O8 X (binaryOp .Add) pO:=by
 intro pins s σ H x y v u Q I rx ry h
 obtain⟨l,b,xs,zs,rfl,rfl,hH,hB,hz,q⟩:=h
 cases rx
 cases ry
 obtain⟨z,its,n,r,hl,e⟩:=I.lstM hH
 obtain⟨z2,its2,n2,r2,hl2,e2⟩:=I.lstM hB
 refine PySem.P.add_list e e2 ?_ (by rw[XJ,XJ];omega)
 have ea:its.toArray++its2.toArray=(its++its2).toArray:=by simp
 rw[ea]
 exact⟨.ref _,_,I.lnew (t':=s.toks) (r.append r2) (by rw[List.length_append];omega),rfl,q _ I.fresh⟩
def nZ:R2:=λx y H Q=>∃l k xs,x=.ref l/\y=.int k/\H l=some (.lst xs)/\ -(2^63)<=k/\k<2^63/\xs.length*k.toNat<=sizeLine/\
 ∀p,H p=none->Q (.ref p) (Je H p (.lst (List.replicate k.toNat xs).flatten))
end
section
variable {prog:Program}{w:World}{A:Around}{E:Value->Shared->Prop}{s:Shared}
end
section
variable {X:Cx}
end
end L2
namespace Att
open PySem PySem.W PySem.Calls PyProof.Rows
def Ou {P:Params}{h:Heap}:∀(ns:List Int) (vs:List Value),WellAll P h vs (ns.map WData.int)->IntsAre vs ns:=by
 intro ns
 induction ns with
 | nil=>
  intro vs w
  rw[List.map_nil] at w
  cases w
  exact .nil
 | cons n ns ih=>
  intro vs w
  rw[YI] at w
  cases w with
  | cons a b=>
   cases a
   exact .cons _ _ (ih _ b)
def Bb {l:OpenLaw}{n:Nat}(hn:l.most=some n){P:Params}{h:Heap}{args:List WData}{vals:List Value}
  (hpre:l.row.toRowW.claim.pre args=true) (hwl:WellAll P h vals args):
  ∃a vs ns,vals=[Value.ref a]/\args=[WData.list (ns.map WData.int)]/\h.get? a=some {cls:=.type "list",data:=.seq vs.toArray}/\IntsAre vs ns/\ns.length<=n:=by
 have hsh:WShape.hasAll [] args [.list .int]=true:=(pre_splitW hpre).1
 have hc:l.pre.holds [] {args:=args}=true:=(pre_splitW hpre).2
 obtain⟨d,r,rfl,h1,h2⟩:=hasAllW_cons hsh
 obtain rfl:=hasAllW_nil h2
 obtain⟨xs,rfl,h3⟩:=hasW_list h1
 obtain⟨ns,rfl⟩:=items_int h3
 have hlen:ns.length<=n:=by
  unfold OpenLaw.pre at hc
  have h4:(WTm.not (.lt (.lit (.int (n:Int))) (.len (.arg 0)))).holds [] {args:=[.list (ns.map .int)]}=true:=by
   have h4:=(holds_andW hc).1
   rw[hn] at h4
   exact h4
  have h5:=condW_of h4 (w_not (w_lt w_lit (w_len_list (w_arg rfl))))
  rw[XI] at h5
  refine Nat.le_of_not_lt λq=>?_
  have q':(n:Int)<((ns.length:Nat):Int):=by omega
  first
   | (rw[decide_eq_true q'] at h5;exact absurd h5 (by decide))
   | (simp at h5;omega)
 cases hwl with
 | cons w1 w2=>
  cases w2
  cases w1 with
  | list ho hall=>exact⟨_,_,ns,rfl,rfl,ho,Ou ns _ hall,hlen⟩
def Bh (l:OpenLaw)(args:List WData):l.row.toRowW.claim.post args (.bool true) args=true:=
 postW_of (r:=l.row.toRowW) (X:=(true==true))
  (show WShape.has [] (.bool true) .bool=true by first | rfl | decide | simp[WShape.has,WShape.arms,WShape.armsAll])
  (show(WTm.eq .res (.lit (.bool true))).value [] {args:=args,res:=some (.bool true),after:=args}=some (.bool (true==true)) from w_eq_bool (w_res rfl) w_lit) rfl
def attach_call {l:OpenLaw}{n:Nat}{q:Program}{loose:List Str}{XP:(Str->Option Value)->Heap->Prop}{YP:World->Heap->Prop}{d:DefRec}
  (hn:l.most=some n) (hdf:d.params.defaults=[])
  (call:∀(w:World) (s₀ s₁:Shared) (mg mb:Str->Option Value) (fa:Addr) (o:Obj) (pm cd doc:Value) (a:Addr) (vs:List Value) (ns:List Int),
   Ground q loose [] XP w s₀ mg mb s₁.heap->YP w s₁.heap->
   s₁.heap.get? fa=some o->o.data=.func (docDef d.name d.params d.body d.scope pm cd doc)->s₁.heap.CodeRec cd d.name->mg d.name=some (.ref fa)->
   s₁.heap.get? a=some {cls:=.type "list",data:=.seq vs.toArray}->IntsAre vs ns->ns.length<=n->s₁.gens=#[]->
   codeAny (model l.prog w) callerA (.call (.ref fa) ⟨[.ref a],[]⟩) (λr s'=>r=.ok (.ret (.bool true))/\OldK s₁.heap s'.heap/\s'.os=s₁.os/\AllBare s'.gens) s₁):
  WalkO q loose XP YP l.row.toRowW d [] (λf vs=>PySem.call f vs):=by
 intro w s₀ s₁ mg mb G Y fa o pm cd doc dV kV ho hd hcd hD hmg hg args vals as hpre hlay hrd hwl hlo
 obtain rfl:dV=.none:=Dflts.none hD hdf
 obtain rfl:kV=.none:=Dflts.noKw hD
 obtain⟨a,vs,ns,rfl,rfl,hobj,hints,hlen⟩:=Bb hn hpre hwl
 refine enter_call (codeAny_mono (call w s₀ s₁ mg mb fa o pm cd doc a vs ns G Y ho (fd_plain hd) hcd hmg hobj hints hlen hg) λr s' hq=>?_)
 obtain⟨rfl,h2,h3,h4⟩:=hq
 exact⟨.inl ⟨.bool true,.bool true,[],rfl,λ_=>rfl,.bool true,Bh l _,λ_=>⟨List.Pairwise.nil,λ_ hm=>(nomatch hm)⟩⟩,h2,h3,h4⟩
section
variable {prog:Program}{w:World}{A:Around}{E:Value->Shared->Prop}{s:Shared}{K:Frag}
def pV (h:Heap)(L d:Addr):List (Addr×Obj):=(List.range h.objs.size).filterMap λa=>if a=L\/a=d then none else(h.get? a).map λo=>(a,o)
end
end Att
namespace L2
open PySem PySem.Spec PyProof.Rows
def Mx:∀{vs:List Value} {ns:List Int},IntsAre vs ns->Zx (ns.map V.int) vs
 | _,_,.nil=>.nil
 | _,_,.cons n t h=>.cons ⟨t,rfl⟩ (Mx h)
def yH (H:Hp):Prop:=∀b,H b=none\/∃o xs,H b=some (.frz o (.lst xs))
def zM {P:Program}{w:World}{K:W.Frag}{mg mb:Str->Option Value}{CX:Iq}{k:Nat}{fa a:Addr}{fd:FuncData}{x:Str}{sp:Sp}{s₁:Shared}{vs:List Value}{ns:List Int}
  (KX:K.In s₁.heap) (hns:s₁.heap.Ns mainGlobals mg) (hb:s₁.heap.Ns builtinsNs mb) (hbb:∀x:Str,x≠"__name__"->mb x=bootBuiltins x) (hlim:s₁.heap.NoLimit) (hg:s₁.gens=#[])
  (ha:s₁.heap.get? a=some {cls:=.type "list",data:=.seq vs.toArray}) (hi:IntsAre vs ns) (hl:ns.length<=sizeLine) (hr:Y2 k callerA)
  (F:∀base:Heap,K.In base->base.Ns mainGlobals mg->Wi P w K mg base CX k fa fd [x] sp) (hbind:∀(s:Shared) (u:Value),BindsTo s fd ⟨[u],[]⟩ [(x,u)])
  (hsp:∀H:Hp,yH H->Xz K H a (ns.map V.int)->sp [.ref a] H (λv _=>v=.bl true) λ_ _ _=>False)
  (hCX:∀H e s',CX [] H s₁ (λ_ _ _=>False) e s'->False):
  codeAny (model P w) callerA (.call (.ref fa) ⟨[.ref a],[]⟩) (λr s'=>r=.ok (.ret (.bool true))/\OldK s₁.heap s'.heap/\s'.os=s₁.os/\AllBare s'.gens) s₁:=by
 have rv:=Mx hi
 have lenV:=hi.length
 have core:∀H:Hp,yH H->Xz K H a (ns.map V.int)->Vl P w H s₁.heap->(∀b,H b≠none->b=a)->(H a≠none->K.lookup a=none)->
   codeAny (model P w) callerA (.call (.ref fa) ⟨[.ref a],[]⟩) (λr s'=>r=.ok (.ret (.bool true))/\OldK s₁.heap s'.heap/\s'.os=s₁.os/\AllBare s'.gens) s₁:=by
  intro H hO hS hok hA hK
  have base_of:∀{b:Addr} {o:Obj},s₁.heap.get? b=some o->H b=none->(K1 s₁.heap H).get? b=some o:=λe n=>zS e n
  have noA:∀{b:Addr} {o:Obj} {es:Array DictEntry} {ep:Nat},s₁.heap.get? b=some o->o.data=.dict es ep->H b=none:=λ{b o es ep} e d=>by
   cases q:H b with
   | none=>rfl
   | some u=>
    have e':b=a:=hA b (by rw[q];simp)
    subst e'
    rw[ha] at e;cases e
    have d':Data.seq vs.toArray _=Data.dict es ep:=d
    cases d'
  have nsK:∀{b:Addr} {m:Str->Option Value},s₁.heap.Ns b m->(K1 s₁.heap H).Ns b m:=λ{b m} ⟨o,es,ep,e,d,r⟩=>⟨o,es,ep,base_of e (noA e d),d,r⟩
  have hKb:K.In (K1 s₁.heap H):=λb o e=>base_of (KX b o e) (by
   cases q:H b with
   | none=>rfl
   | some u=>
    have e':b=a:=hA b (by rw[q];simp)
    subst e'
    rw[hK (by rw[q];simp)] at e;cases e)
  have hM:Mod K mg (K1 s₁.heap H):=⟨hKb,nsK hns,⟨mb,nsK hb,hbb⟩,let ⟨mc,h1,h2⟩:=hlim;⟨mc,nsK h1,h2⟩⟩
  have e0:Em P w K mg (K1 s₁.heap H) callerA [] s₁ H:=⟨rfl,hM,λb o e=>jH e,Nat.le_of_eq (B3 _ _),trivial,λb hb=>absurd (show b∈([]:List Addr) from hb) (by simp),hok,.of_eq hg⟩
  refine codeAny_mono ((F _ hKb (nsK hns)).run callerA [] s₁ H ⟨[.ref a],[]⟩ [.ref a] [.ref a] _ _ hr e0 (hbind s₁ (.ref a)) (.cons rfl .nil) (hsp H hO hS)) λr s' h=>?_
  cases r with
  | error e=>exact(hCX H e s' h).elim
  | ok fl=>
   cases fl with
   | next=>exact False.elim h
   | brk=>exact False.elim h
   | cont=>exact False.elim h
   | ret u=>
    obtain⟨v,H',os,bare,un,hok',r',q⟩:=h
    have q':v=.bl true:=q
    subst q'
    obtain rfl:u=Value.bool true:=r'
    refine⟨rfl,OldK.of_keep λb o e=>?_,os,bare⟩
    cases q:H b with
    | none=>exact un.keep b o e q (by intro z;exact absurd (show b∈([]:List Addr) from z) (by simp)) (by simp)
    | some u=>
     rcases hO b with z | ⟨ob,xs,z⟩
     ·rw[q] at z;cases z
     ·have z2:=un.frzs b ob _ z
      obtain⟨e1,_⟩:=hok b _ z
      obtain⟨e2,_⟩:=hok' b _ z2
      rw[e] at e1;cases e1
      exact e2
 cases hk:K.lookup a with
 | some o=>
  have e:=KX a o hk
  rw[ha] at e
  cases e
  refine core (λ_=>none) (λ_=>.inl rfl) (.inr ⟨_,vs.toArray,_,hk,rfl,rfl,rfl,by rw[List.size_toArray,lenV];exact hl,by simpa using rv⟩) (λb u z=>by have z':(none:Option HO)=some u:=z;cases z') (λb z=>absurd rfl z) λz=>absurd rfl z
 | none=>
  refine core (λb=>if b=a then some (.frz {cls:=.type "list",data:=.seq vs.toArray} (.lst (ns.map V.int))) else none) (λb=>?_) (.inl (.inr ⟨{cls:=.type "list",data:=.seq vs.toArray},XY rfl⟩)) (λb u z=>?_) (λb z=>?_) λ_=>hk
  ·by_cases hb:b=a
   ·exact .inr ⟨_,_,XY hb⟩
   ·exact .inl (XX hb)
  ·by_cases hb:b=a
   ·have z':=(XY hb).symm.trans z
    cases z'
    subst hb
    exact⟨ha,by rw[XI];exact hl,vs,_,rv,ha⟩
   ·have z':=(XX hb).symm.trans z
    cases z'
  ·by_cases hb:b=a
   ·exact hb
   ·exact absurd (XX hb) z
abbrev KOf {K:W.Frag}{h:Heap}(_:K.In h):W.Frag:=K
def walk_of {l:W.OpenLaw}{n k:Nat}{q:Program}{loose:List Str}{XP:(Str->Option Value)->Heap->Prop}{YP:World->Heap->Prop}{d:DefRec}{K:Params->W.Frag}{CX:World->Iq}{sp:World->Sp}{x:Str}
  (hn:l.most=some n) (hn2:n<=sizeLine) (hdf:d.params.defaults=[]) (hr:Y2 k callerA)
  (hY:∀(w:World) (h:Heap),YP w h->(K w.params).In h)
  (F:∀(w:World) (mg:Str->Option Value) (fa:Addr) (h:Heap),(K w.params).In h->h.Ns mainGlobals mg->mg d.name=some (.ref fa)->
   ∃fd:FuncData,(∀(s:Shared) (u:Value),BindsTo s fd ⟨[u],[]⟩ [(x,u)])/\
    ∀base:Heap,(K w.params).In base->base.Ns mainGlobals mg->Wi l.prog w (K w.params) mg base (CX w) k fa fd [x] (sp w))
  (hsp:∀(w:World) (H:Hp) (a:Addr) (ns:List Int),ns.length<=n->yH H->Xz (K w.params) H a (ns.map V.int)->sp w [.ref a] H (λv _=>v=.bl true) λ_ _ _=>False)
  (hCX:∀(w:World) (H:Hp) (s:Shared) (e:Value) (s':Shared),CX w [] H s (λ_ _ _=>False) e s'->False):
  W.WalkO q loose XP YP l.row.toRowW d [] (λf vs=>PySem.call f vs):=by
 refine Att.attach_call hn hdf λw s₀ s₁ mg mb fa o pm cd doc a vs ns G Y ho hd hcd hmg hobj hints hlen hg=>?_
 have KX:=hY w _ Y
 obtain⟨fd,hb,hF⟩:=F w mg fa _ KX G.T.g hmg
 exact zM KX G.T.g G.T.b G.T.builtins G.T.nolimit hg hobj hints (Nat.le_trans hlen hn2) hr hF hb (λH hO hS=>hsp w H a ns hlen hO hS) λH e s'=>hCX w H s₁ e s'
def walk_ofK {l:W.OpenLaw}{n k:Nat}{q:Program}{loose:List Str}{XP:(Str->Option Value)->Heap->Prop}{YP:World->Heap->Prop}{d:DefRec}{K:Params->W.Frag}{CX:Iq}{sp:W.Frag->Sp}{x:Str}
  (hn:l.most=some n) (hn2:n<=sizeLine) (hdf:d.params.defaults=[]) (hr:Y2 k callerA)
  (hY:∀(w:World) (h:Heap),YP w h->(K w.params).In h)
  (F:∀(w:World) (mg:Str->Option Value) (fa:Addr) (h:Heap),(K w.params).In h->h.Ns mainGlobals mg->mg d.name=some (.ref fa)->
   ∃fd:FuncData,(∀(s:Shared) (u:Value),BindsTo s fd ⟨[u],[]⟩ [(x,u)])/\
    ∀base:Heap,(K w.params).In base->base.Ns mainGlobals mg->Wi l.prog w (K w.params) mg base CX k fa fd [x] (sp (K w.params)))
  (hsp:∀(K:W.Frag) (H:Hp) (a:Addr) (ns:List Int),ns.length<=n->yH H->Xz K H a (ns.map V.int)->sp K [.ref a] H (λv _=>v=.bl true) λ_ _ _=>False)
  (hCX:∀(H:Hp) (s:Shared) (e:Value) (s':Shared),CX [] H s (λ_ _ _=>False) e s'->False):
  W.WalkO q loose XP YP l.row.toRowW d [] (λf vs=>PySem.call f vs):=
 walk_of (K:=K) (CX:=λ_=>CX) (sp:=λw=>sp (K w.params)) hn hn2 hdf hr hY F (λw H a ns h1 h2 h3=>hsp (K w.params) H a ns h1 h2 h3) λ_ H s e s'=>hCX H s e s'
end L2
/-THE LAST THEOREM (shape;LID,My.*are yours):
  My.Adr:a structure of the addresses that your layer names (classes,functions);My.Txt K t:a structure (Prop) of the equations over K;
  My.txt_mk:{K} {implicit addresses ..} (e1:nsIn K mainGlobals "law"=some (some (.ref f))) (e2:K.lookup f=some ⟨oc,od,.func (fnOf "law" "law" params body scope dV kV doc pm an cdv ct),sl⟩) (e3:codeIn K cdv "law"=true) ..:∃t,My.Txt K t
set_option maxRecDepth 100000 in
set_option maxHeartbeats 0 in
def PySem.Challenge.cw_LID_holds:PySem.Challenge.rw_LID.Holds:=by
 w_on;o_law;k_head;(case hw=>w_witness2)
 k_fill
 refine L2.walk_of (l:=PySem.Challenge.rw_LID) (n:=63) (k:=40) (x:="script") (CX:=λw=>..) (sp:=λ_=>My.sp_law) rfl (by decide) rfl ⟨rfl,by decide,by decide⟩ (λw h Y=>W.kIn_of Y) ?F ?S ?C
 case F=>
  intro w mg fa h KX G hmg
  have T:∃t,My.Txt (L2.KOf KX) t:=by
   dsimp only[L2.KOf]--K must stand as «<heap const>w.params» for k_is
   refine' My.txt_mk ?e1 ?e2 ?e3 ..
   (case e1=>W.k_is)--in the order:a name->its address->its object->its parts
   (case e2=>W.k_is)
   ..
  obtain⟨t,T⟩:=T
  have e0:=hmg.symm.trans (W.mg_of KX G T.law)
  cases e0--fa is the law's own address
  exact⟨_,λs u=>.of_eq rfl,λbase kb nb=>My.law_fn T kb nb⟩--if «.of_eq rfl» comes too early:refine' ⟨_,?b,λbase kb nb=>My.law_fn T kb nb⟩;exact λs u=>.of_eq rfl
 case S=>exact λw H a ns hl hO hS=>..
 case C=>exact ..
(the tactic k_is has no namespace:write k_is)-/
namespace L2
open PySem PySem.Spec PyProof.Rows
def qI (s:Stmt)(j:Nat):Stmt:=match s with
 | .ClassDef _ _ _ body _ _ _ _ _ _ _=>body.getD j (.Pass ⟨0,0,0,0⟩)
 | _=>.Pass ⟨0,0,0,0⟩
def V8 (s:Stmt):Arguments:=match s with
 | .FunctionDef _ a _ _ _ _ _ _ _ _=>a
 | _=>{posonlyargs:=[],args:=[],vararg:=none,kwonlyargs:=[],kw_defaults:=[],kwarg:=none,defaults:=[]}
def Yn (s:Stmt):List Stmt:=match s with
 | .FunctionDef _ _ b _ _ _ _ _ _ _=>b
 | _=>[]
def Zf (s:Stmt):Scope:=match s with
 | .FunctionDef _ _ _ _ _ _ sc _ _ _=>sc
 | _=>{kind:=.function,names:=[],isGenerator:=false,isCoroutine:=false}
abbrev CX0:Iq:=λ_ _ _ _ _ _=>False
abbrev E0:XK:=λ_ _ _=>False
def xN {X:Cx}:Vi CX0 X E0:=λ_ _ _ _ _ _ _ h=>h.elim
structure P9 (K:W.Frag)(x qual:Str)(st:Stmt)(f:Addr)(fd:FuncData):Prop where
 ex:∃(oc:Value) (od:Option Addr) (kV doc pm:Value) (an:Option Addr) (cdv ct:Value) (osl:Array (Option Value)),
  fd=W.fnOf x qual (V8 st) (Yn st) (Zf st) .none kV doc pm an cdv ct/\K.lookup f=some ⟨oc,od,.func fd,osl⟩/\W.codeIn K cdv qual=true
 kp:W.keepIn K (.ref f)=true
section
variable {P:Program}{w:World}{K:W.Frag}{mg:Str->Option Value}{base:Heap}
def P9.ok {x qual:Str}{st:Stmt}{f:Addr}{fd:FuncData}{N ps:List Str}{k:Nat}{sp:Sp}(F:P9 K x qual st f fd)(S:Zp N ps (Zf st))(len:∀vs H Q E,sp vs H Q E->vs.length=ps.length)
  (hbody:∀(cdv:Value) (A:Around) (outer:List Env) (s:Shared) (H:Hp) (vs:List V) (Q:VK) (E:XK),Y2 k (A.deeper (envOfC qual (Zf st) s.heap.objs.size f cdv))->sp vs H Q E->
   ∃t,Lq (Yx CX0 P w K mg base N qual (Zf st) f cdv A outer s H E).nox (Yn st) t/\t {nx:=λ_ H'=>Q .non H',rt:=Q} (start N vs) H):Wi P w K mg base CX0 (k+1) f fd ps sp:=by
 obtain⟨oc,od,kV,doc,pm,an,cdv,ct,osl,rfl,lk,hcd⟩:=F.ex
 refine xT lk hcd S len λA outer s H vs Q E hr hsp=>?_
 obtain⟨t,h,q⟩:=hbody cdv A outer s H vs Q E hr hsp
 exact⟨t,h.nox,q⟩
def P9.binds {x qual:Str}{st:Stmt}{f:Addr}{fd:FuncData}{ps:List Str}(F:P9 K x qual st f fd)
  (h:∀(kV doc pm:Value) (an:Option Addr) (cdv ct:Value) (us:List Value),us.length=ps.length->bindArgs (W.fnOf x qual (V8 st) (Yn st) (Zf st) .none kV doc pm an cdv ct) ⟨us,[]⟩=pure (ps.zip us)):Xm K fd ps []:=by
 obtain⟨oc,od,kV,doc,pm,an,cdv,ct,osl,rfl,lk,hcd⟩:=F.ex
 exact .all (h kV doc pm an cdv ct)
def uv {x qual:Str}{st:Stmt}{f:Addr}{oc:Value}{od an:Option Addr}{osl:Array (Option Value)}{kV doc pm cdv ct:Value}(l:K.lookup f=some ⟨oc,od,.func (W.fnOf x qual (V8 st) (Yn st) (Zf st) .none kV doc pm an cdv ct),osl⟩)
  (c:W.codeIn K cdv qual=true) (k:W.keepIn K (.ref f)=true):P9 K x qual st f (W.fnOf x qual (V8 st) (Yn st) (Zf st) .none kV doc pm an cdv ct):=⟨⟨oc,od,kV,doc,pm,an,cdv,ct,osl,rfl,l,c⟩,k⟩
end
def Jj {n:Nat}(h:n<=1000):n<sizeLine:=Nat.lt_of_le_of_lt h (by decide)
section
variable {X:Cx}
end
def pX {c A B:Prop}[Decidable c](h1:c->A)(h2:¬c->B):if c then A else B:=by
 by_cases h:c
 ·rw[XY h]
  exact h1 h
 ·rw[XX h]
  exact h2 h
def mD (H H':Hp):Prop:=∀b o,H b=some o->H' b=some o
section
variable {X:Cx}
def V9 (cap:List (Option Nat))(σ:St):St:=cap.map λo=>o.bind λi=>(σ[i]?).join
def Zo (X:Cx)(cN:List Str)(scope:Scope)(cl:List (Str×Addr))(fp:List Addr)(s:Shared)(H:Hp):Cx:=
 {X with N:=cN,s₀:=s,H₀:=H,env:=compEnvC scope cl s.heap.objs.size X.env,outer:=X.stack,ex:=fp,fn:=λ_=>false,pn:=[],xe:=λ_ _=>False}
def G3 (X:Cx)(ifs:List Expr)(c:TT):Prop:=
 ∀(pins:List (Addr×Obj)) (s:Shared) (σ:St) (H:Hp) (Q:Bool->Hp->Prop),Zm X pins σ H s->c σ H Q->
  wpAny (model X.prog X.w) X.A (forIn ifs true λc r=>if r=true then do let ok <-isTrue c X.env (eval c X.env);pure (ForInStep.yield ok) else pure (ForInStep.yield r)) (TP X pins σ Q) X.xe s
def so:TT:=λ_ H Q=>Q true H
def j8:G3 X [] so:=λ_ _ _ H _ I h=>wpAny_tests_nil ⟨H,I,h⟩
def j7 {e:Expr}{t:TT}(h:PT X e t):G3 X [e] t:=λpins s σ H Q I q=>wpAny_tests_one (h pins s σ H Q I q)
def Qx (js:List Nat)(g:TG):Prop:=∀x σ H Q,g x σ H Q->g x σ H λσ' H'=>Q σ' H'/\σ'.length=σ.length/\∀i,i∉js->σ'[i]?=σ[i]?
def Ip (js:List Nat)(g:Fc):Prop:=∀x σ H Q,g x σ H Q->g x σ H λσ' H'=>Q σ' H'/\σ'.length=σ.length/\∀i,i∉js->σ'[i]?=σ[i]?
def Ju {i:Nat}:Qx [i] (J8 i):=λx σ H Q h=>⟨h,by simp,λj hj=>by
 rw[List.getElem?_set_ne]
 intro e;exact hj (by simp[e])⟩
def zY:Ip [] B6:=λx σ H Q h=>⟨h.1,h.2,rfl,λ_ _=>rfl⟩
def Vh (g:TG):Prop:=∀x σ H (Q Q':St->Hp->Prop),(∀σ' H',Q σ' H'->Q' σ' H')->g x σ H Q->g x σ H Q'
def Qv (g:Fc):Prop:=∀x σ H (Q Q':St->Hp->Prop),(∀σ' H',Q σ' H'->Q' σ' H')->g x σ H Q->g x σ H Q'
def Yd {i:Nat}:Vh (J8 i):=λx σ H Q Q' h q=>h _ _ q
def Ri:Qv B6:=λx σ H Q Q' h q=>⟨q.1,h _ _ q.2⟩
def Wg {g:TG}{u:Fc}(a:Vh g)(b:Qv u):Qv (Qm g u):=λx σ H Q Q' h q=>by
 obtain⟨v,r,e,q⟩:=q
 exact⟨v,r,e,a _ _ _ _ _ (λσ' H' z=>b _ _ _ _ _ h z) q⟩
def Ql {g:TG}{u:Fc}{js ks:List Nat}(a:Qx js g)(am:Vh g)(b:Ip ks u)(bm:Qv u):Ip (js++ks) (Qm g u):=λx σ H Q q=>by
 obtain⟨v,r,e,q⟩:=q
 refine⟨v,r,e,am _ _ _ _ _ (λσ' H' z=>?_) (a _ _ _ _ q)⟩
 obtain⟨z,l1,k1⟩:=z
 refine bm _ _ _ _ _ (λσ2 H2 z2=>?_) (b _ _ _ _ z)
 obtain⟨z2,l2,k2⟩:=z2
 exact⟨z2,l2.trans l1,λi hi=>(k2 i λz=>hi (XT _ z)).trans (k1 i λz=>hi (List.mem_append_left _ z))⟩
def zX {K:W.Frag}{n:Nat}{u:Fc}{js:List Nat}(b:Ip js u):Qx js (B5 K n u):=λx σ H Q q=>by
 obtain⟨a,xs,e,hq,hl,q⟩:=q
 exact⟨a,xs,e,hq,hl,b _ _ _ _ q⟩
def nL (cap:List (Option Nat))(g:TG)(c:TT)(te:TE)(σ:St)(Q:Addr->Hp->Prop)(J:It)(H1:Hp):Prop:=∀p,H1 p=none->∃W:Nat->Nat->Hp->Prop,(∃m,W 0 m (Je H1 p (.lst [])))/\∀i m H,W i m H->
 (J.stop i H/\Q p H)\/(J.go i H/\∃N:Hp->Prop,(∀H',N H'->∃m',m'<m/\W (i+1) m' H')/\∀x H',J.yld i H x H'->g x (V9 cap σ) H' λσ2 H2=>c σ2 H2 λb H3=>
  if b=true then te σ2 H3 λv H4=>∃xs,H4 p=some (.lst xs)/\xs.length<sizeLine/\N (Je H4 p (.lst (xs++[v]))) else N H3)
def Nj (cap:List (Option Nat))(wi:TI)(g:TG)(c:TT)(te:TE):St->Hp->(Addr->Hp->Prop)->Prop:=λσ H Q=>wi σ H λJ H1=>nL cap g c te σ Q J H1
structure Ru (X:Cx)(cN:List Str)(cap:List (Option Nat))(scope:Scope)(cl:List (Str×Addr)):Prop where
 clos:closureFor scope X.env=pure cl
 sub:∀n a,cl.lookup n=some a->X.env.cells.lookup n=some a
 cell:∀y∈scope.names,y.2≠.cell
 kind:scope.kind=.function
 names:∀x∈scope.names,x.2=.local->scope.names.lookup x.1=some .local
 len:cap.length=cN.length
 has:∀x,((relabel scope X.env).names.lookup x=some .cell\/(relabel scope X.env).names.lookup x=some .free)->∃a,cl.lookup x=some a
 capd:∀(i j:Nat) (x:Str),cap[i]?=some (some j)->cN[i]?=some x->X.N[j]?=some x/\qL X.env.scope x/\X.env.scope.names.lookup x≠some .local/\((relabel scope X.env).names.lookup x=some .cell\/(relabel scope X.env).names.lookup x=some .free)
def y9 {cap:List (Option Nat)}{σ:St}:(V9 cap σ).length=cap.length:=XI _
def Md {cap:List (Option Nat)}{σ:St}{i:Nat}{v:V}(h:(V9 cap σ)[i]?=some (some v)):∃j,cap[i]?=some (some j)/\σ[j]?=some (some v):=by
 unfold V9 at h
 rw[XM] at h
 cases e:cap[i]? with
 | none=>rw[e] at h;cases h
 | some o=>
  rw[e] at h
  cases o with
  | none=>cases h
  | some j=>
   refine⟨j,rfl,?_⟩
   simp only[Option.map_some,Option.bind_some,Option.some.injEq] at h
   cases q:σ[j]? with
   | none=>rw[q] at h;cases h
   | some u=>rw[q] at h;simp only[Option.join_some] at h;rw[h]
def Ma {cN:List Str}{cap:List (Option Nat)}{scope:Scope}{cl:List (Str×Addr)}{fp:List Addr}{pins:List (Addr×Obj)}{σ:St}{H:Hp}{s:Shared}{h':Heap}{m:Str->Option Value}{tk:Nat}
  (C:Ru X cN cap scope cl) (I:Zm X pins σ H s) (f:∀b∈fp,Vj X pins H b) (fl:∀b∈fp,b<s.heap.objs.size) (hn:h'.Ns s.heap.objs.size m) (k:∀b o,s.heap.get? b=some o->h'.get? b=some o):
  Zm (Zo X cN scope cl fp s H) [] (V9 cap σ) H {s with heap:=h',toks:=tk}:=by
 have hfs:∀b∈fp,b∉Rv X.stack:=λb hb z=>by
  rcases List.mem_cons.mp (I.stkSub b z) with e | z
  ·exact(f b hb).2.1 e
  ·exact(f b hb).2.2.1 z
 have hcl:∀x c,cl.lookup x=some c->∃v,s.heap.IsCell c v:=λx c e=>I.cell x c (C.sub x c e)
 refine⟨⟨I.ok.mod,?_,I.ok.glob,I.ok.blt,XE _,λx y c e1 e2=>I.ok.inj x y c (C.sub x c e1) (C.sub y c e2),C.has,λ_ _ z=>(nomatch z),I.ok.hd,I.ok.frames,.inl rfl,λb hb=>⟨XH (fl b hb),λx c e=>(f b hb).2.2.2.2.1 x c (C.sub x c e)⟩,
   I.bs,Nat.le_trans I.ok.bsz I.sz,λb o e z=>?_,hfs,I.stack,I.stkFree⟩,rfl,I.bare,Un.kept k,⟨m,hn,λi x v h1 h2 h3=>?_⟩,λx c e=>?_,I.fresh,λx c e=>I.freeC x c (C.sub x c e),λp hp=>absurd hp (by simp[Zo]),I.hok.kept k,?_⟩
 ·exact C.kind
 ·rcases (f b z).2.2.2.1 with q | q
  ·exact I.ok.noex b o e q
  ·exact absurd (XG (XD (I.ok.bs b o e).1) q) (Nat.lt_irrefl _)
 ·obtain⟨j,hj,hσ⟩:=Md h2
  obtain⟨n1,n2,n3,n4⟩:=C.capd i j x hj h1
  obtain⟨mo,hno,hlo⟩:=I.loc
  obtain⟨u,ru,lk⟩:=hlo j x v n1 hσ n2
  refine⟨u,ru,?_⟩
  rcases lk with⟨k1,_⟩ | ⟨_,c,e,z⟩
  ·exact absurd k1 n3
  ·obtain⟨a,ha⟩:=C.has x n4
   have ea:=C.sub x a ha
   rw[e] at ea;cases ea
   obtain⟨o,ho,hd⟩:=z
   exact .inr ⟨n4,c,ha,⟨o,k _ _ ho,hd⟩⟩
 ·obtain⟨v,o,ho,hd⟩:=hcl x c e
  exact⟨v,o,k _ _ ho,hd⟩
 ·show(V9 cap σ).length=cN.length
  rw[y9,C.len]
def Mb {cN:List Str}{scope:Scope}{cl:List (Str×Addr)}{fp:List Addr}{pins pins':List (Addr×Obj)}{σ σ':St}{H H':Hp}{s s':Shared}{h':Heap}
  (I:Zm X pins σ H s) (f:∀b∈fp,Vj X pins H b) (J:Zm (Zo X cN scope cl fp s H) pins' σ' H' s') (sb:Heap.SameBut s.heap.objs.size s'.heap h'):Zm X pins σ H' {s' with heap:=h'}:=by
 have ne:∀b o,s.heap.get? b=some o->b≠s.heap.objs.size:=λb o e=>XH (XD e)
 have B:Un (Rv X.stack) fp H H' s.heap s'.heap:=J.base
 refine I.call' (s':={s' with heap:=h'}) (ch:=fp) J.os ⟨λb o e n hb hx=>?_,λb o e n hb hx=>?_,B.free,λb o e hx=>?_,B.tups,B.frzs,B.tbls⟩ (λb o e=>?_) J.bare λb hb=>?_
 ·exact(sb.2 b (ne b o e)).trans (B.keep b o e n hb hx)
 ·obtain⟨sl,q⟩:=B.slot b o e n hb hx
  exact⟨sl,(sb.2 b (ne b o e)).trans q⟩
 ·obtain⟨o',q⟩:=B.there b o e hx
  exact⟨o',(sb.2 b (ne b o e)).trans q⟩
 ·have hf:H' s.heap.objs.size=none:=J.free
  refine(J.hok b o e).stay (λc w' hc q=>(sb.2 c ?_).trans q) (λ_ q=>q) λ_ _ q=>q
  rintro rfl
  rcases hc with rfl | hc
  ·rw[hf] at e;cases e
  ·rw[hf] at hc;cases hc
 ·obtain⟨f0,f1,f2,f3,f4,f5⟩:=f b hb
  exact⟨f3,f1,f4,f5⟩
def Rw {α:Type}{t:Sem α}{Q:α->Shared->Prop}{M:Model}{A:Around}{E:Value->Shared->Prop}{s:Shared}(h:wpAny M A t Q (λ_ _=>False) s):wpAny M A t Q E s:=wpAny_mono h (λ_ _ q=>q) λ_ _ f=>f.elim
def Ac {tg iter elt:Expr}{ifs:List Expr}{scope:Scope}{pos:Pos}{cN:List Str}{cap:List (Option Nat)}{cl:List (Str×Addr)}{js:List Nat}{g:TG}{c:TT}{te:TE}{fp:List Addr}{it D:Addr}{tn:Nat->Heap->Prop}{J:It}
  {σ:St} {H:Hp} {s s':Shared} {Q:Addr->Hp->Prop} {R:Result->Shared->Prop} {H₀:Hp} (X:Cx)
  (hc:X.calm=true) (hg:PG (Zo X cN scope cl fp s H₀) tg g) (gm:Vh g) (gk:Qx js g) (hjs:∀j∈js,(cap[j]?).join=none) (ht:G3 (Zo X cN scope cl fp s H₀) ifs c) (tm:∀σ H (Q Q':Bool->Hp->Prop),(∀b H',Q b H'->Q' b H')->c σ H Q->c σ H Q') (he:PE (Zo X cN scope cl fp s H₀) elt te)
  (T:Gz X.prog X.w X.K tg J fp it tn) (W:Nat->Nat->Hp->Prop)
  (turn:∀i m H,W i m H->(J.stop i H/\Q D H)\/(J.go i H/\∃N:Hp->Prop,(∀H',N H'->∃m',m'<m/\W (i+1) m' H')/\∀x H',J.yld i H x H'->g x (V9 cap σ) H' λσ2 H2=>c σ2 H2 λb H3=>
   if b=true then te σ2 H3 λv H4=>∃xs,H4 D=some (.lst xs)/\xs.length<sizeLine/\N (Je H4 D (.lst (xs++[v]))) else N H3))
  (m:Nat) (w0:W 0 m H) (I:Zm (Zo X cN scope cl fp s H₀) [] (V9 cap σ) H s') (st:tn 0 s'.heap) (f:∀b∈fp,Vj (Zo X cN scope cl fp s H₀) [] H b)
  (hR:∀σ' H' s',Zm (Zo X cN scope cl fp s H₀) [] σ' H' s'->Q D H'->R (.ok .next) s'):
  codeAny (model X.prog X.w) X.A (.compLoop (.ListComp elt [⟨tg,iter,ifs,0⟩] scope pos) 0 (.ref it) (.ref D) (Zo X cN scope cl fp s H₀).env) R s':=by
 have stat:∀{H':Hp},(∀b∈fp,H' b=none)->∀b∈fp,Vj (Zo X cN scope cl fp s H₀) [] H' b:=λhn b hb=>⟨hn b hb,(f b hb).2⟩
 refine codeAny_loop rfl (λn s'=>∃i H',Zm (Zo X cN scope cl fp s H₀) [] (V9 cap σ) H' s'/\tn i s'.heap/\(∀b∈fp,H' b=none)/\W i n H') ?_ m ⟨0,H,I,st,λb hb=>(f b hb).1,w0⟩
 rintro n s3 ⟨i,H3,I3,st3,fr3,w3⟩
 show wpAny _ X.A ((compTurn (.ListComp elt [⟨tg,iter,ifs,0⟩] scope pos) 0 (.ref it) (.ref D) (Zo X cN scope cl fp s H₀).env).onRaise (λx=>do noteFrame x (Zo X cN scope cl fp s H₀).env;theTreesLotGoes x)) _ _ s3
 refine wpAny_noted (Rw ?_)
 rw[compTurn_list]
 refine XA (wpAny_standAt (XA ?_))
 rcases turn i n H3 w3 with⟨stop,qn⟩ | ⟨go,N,hN,step⟩
 ·refine Ji (T.done (Zo X cN scope cl fp s H₀) rfl rfl rfl hc i [] s3 _ H3 _ I3 (stat fr3) st3 stop) λr s4 ⟨hr,I4⟩=>?_
  subst hr
  exact XB (hR _ _ _ I4 qn)
 ·refine Ji (T.item (Zo X cN scope cl fp s H₀) rfl rfl rfl hc i [] s3 _ H3 _ I3 (stat fr3) st3 go) λr s4 ⟨u,hr,h4⟩=>?_
  subst hr
  refine XA (Ji h4 λ_ s5 ⟨x,H5,I5,r5,y5,st5,fr5⟩=>?_)
  have I5':=I5.pinned (stat fr5) (T.obj _ _ st5)
  refine XA (Ji (hg _ s5 _ H5 x u _ I5' r5 (gk _ _ _ _ (step x H5 y5))) λ_ s6 ⟨σ6,H6,I6,q6,l6,k6⟩=>?_)
  have back:∀{H7:Hp} {s7:Shared},Zm (Zo X cN scope cl fp s H₀) ([]++Pm fp s5.heap) σ6 H7 s7->N H7->∃m,m<n/\∃i H',Zm (Zo X cN scope cl fp s H₀) [] (V9 cap σ) H' s7/\tn i s7.heap/\(∀b∈fp,H' b=none)/\W i m H':=λ{H7 s7} I7 n7=>by
   obtain⟨m',hm,w7⟩:=hN H7 n7
   refine⟨m',hm,i+1,H7,I7.unpinned.weak l6.symm λj v hj=>?_,T.keep _ _ _ st5 λb hb o e=>(I7.pin (b,o) (XT _ (XT _ (Xt hb e)))).1,λb hb=>?_,w7⟩
   ·by_cases hjj:j∈js
    ·obtain⟨z,hz,_⟩:=Md hj
     have:=hjs j hjj
     rw[hz] at this;cases this
    ·rw[k6 j hjj];exact hj
   ·obtain⟨o,e,d⟩:=T.obj _ _ st5 b hb
    exact(I7.pin (b,o) (XT _ (XT _ (Xt hb e)))).2.1
  refine XA (Ji (ht _ s6 σ6 H6 _ I6 q6) λb s7 ⟨H7,I7,q7⟩=>?_)
  cases b with
  | false=>
   rw[XX YJ] at q7
   exact XB ⟨rfl,back I7 q7⟩
  | true=>
   rw[XY rfl] at q7
   refine XA (XA (Ji (he _ s7 σ6 H7 _ I7 q7) λy s8 ⟨v,H8,I8,r8,xs,e8,z8,n8⟩=>?_))
   refine XA (Ji (Pp _ s8 σ6 H8 (.ref D) [v] (.ref D) [y] (λ_ H9=>N H9) I8 rfl (.cons r8 .nil) ⟨D,xs,v,rfl,rfl,e8,z8,n8⟩) λ_ s9 ⟨_,H9,I9,_,q9⟩=>?_)
   exact XB (XB ⟨rfl,back I9 q9⟩)
section
variable {X:Cx}{tg iter elt:Expr}{ifs:List Expr}{scope:Scope}{pos:Pos}{cN:List Str}{cap:List (Option Nat)}{cl:List (Str×Addr)}{js:List Nat}{wi:TI}{g:TG}{c:TT}{te:TE}
structure G7 (X:Cx)(tg iter elt:Expr)(ifs:List Expr)(scope:Scope)(cN:List Str)(cap:List (Option Nat))(cl:List (Str×Addr))(js:List Nat)(wi:TI)(g:TG)(c:TT)(te:TE):Prop where
 calm:X.calm=true
 ok:X.Ok->Ru X cN cap scope cl
 it:PI X tg iter wi
 tgt:∀fp s H,PG (Zo X cN scope cl fp s H) tg g
 gm:Vh g
 gk:Qx js g
 js0:∀j∈js,(cap[j]?).join=none
 ts:∀fp s H,G3 (Zo X cN scope cl fp s H) ifs c
 tm:∀σ H (Q Q':Bool->Hp->Prop),(∀b H',Q b H'->Q' b H')->c σ H Q->c σ H Q'
 el:∀fp s H,PE (Zo X cN scope cl fp s H) elt te
 fold:∀x,foldedSetIterable iter X.env x=pure x
def Mc {pins:List (Addr×Obj)}{σ:St}{H:Hp}{s:Shared}{Q:Addr->Hp->Prop}{RR:Value->Addr->Result->Shared->Prop}(C:G7 X tg iter elt ifs scope cN cap cl js wi g c te)(I:Zm X pins σ H s)(h:Nj cap wi g c te σ H Q)
  (hRR:∀(D:Addr) (fp:List Addr) (s3:Shared) (H3:Hp) (σ':St) (H':Hp) (s':Shared),Zm X pins σ H3 s3->(∀b∈fp,Vj X pins H3 b)->Zm (Zo X cN scope cl fp s3 H3) [] σ' H' s'->Q D H'->RR (.ref D) s3.heap.objs.size (.ok .next) s'):
  wpAny (model X.prog X.w) X.A (eval iter X.env) (λx s₁=>wpAny (model X.prog X.w) X.A (pyIter x) (λit s₂=>wpAny (model X.prog X.w) X.A (newList []) (λacc s₃=>
   wpAny (model X.prog X.w) X.A (newFunctionEnv scope X.env.globals cl [] X.env.qual none .none (some X.env)) (λcenv s₄=>
    codeAny (model X.prog X.w) X.A (.compStart (.ListComp elt [⟨tg,iter,ifs,0⟩] scope pos) 0 it acc {cenv with scope:=relabel scope X.env}) (RR acc cenv.locals) s₄) X.xe s₃) X.xe s₂) X.xe s₁) X.xe s:=by
 refine Ji (C.it pins s σ H _ I h) λv s1 h1=>Ji h1 λitv s2 h2=>?_
 obtain⟨it,fp,tn,J,H2,e,I2,T,st2,f2,R2⟩:=h2
 subst e
 obtain⟨W,⟨m,w0⟩,turn⟩:=R2 s2.heap.objs.size I2.fresh
 have I3:Zm X pins σ (Je H2 s2.heap.objs.size (.lst [])) {s2 with heap:=s2.heap.push {cls:=.type "list",data:=.seq ([]:List Value).toArray},toks:=s2.toks}:=I2.lnew (ys:=[]) (its:=[]) .nil (XO _)
 have fl:∀b∈fp,b<s2.heap.objs.size:=λb hb=>by
  obtain⟨o,e,_⟩:=T.obj _ _ st2 b hb
  exact XD e
 have f3:∀b∈fp,Vj X pins (Je H2 s2.heap.objs.size (.lst [])) b:=λb hb=>⟨by rw[Z6 (XH (fl b hb))];exact(f2 b hb).1,(f2 b hb).2⟩
 refine wpAny_newObj_type (wpAny_newFunctionEnv (C.ok I.ok).cell (by intro y hy;simp at hy) (λh₁ hns₁ hsb₁=>?_) (C.ok I.ok).kind)
 dsimp only at hns₁ hsb₁ |-
 generalize hs3:({s2 with heap:=s2.heap.push {cls:=.type "list",data:=.seq ([]:List Value).toArray},toks:=s2.toks}:Shared)=s3 at I3
 have hh3:s3.heap=s2.heap.push {cls:=.type "list",data:=.seq ([]:List Value).toArray}:=by rw[<-hs3]
 rw[<-hh3] at hns₁ hsb₁ |-
 have fl3:∀b∈fp,b<s3.heap.objs.size:=λb hb=>by rw[hh3,Heap.size_push];exact Nat.lt_succ_of_lt (fl b hb)
 have k1:∀b o,s3.heap.get? b=some o->h₁.get? b=some o:=λb o e=>(hsb₁.2 b (XH (XD e))).trans (XC _ e)
 have I4:=Ma (tk:=s2.toks+([]:List (Str×Value)).length) (C.ok I.ok) I3 f3 fl3 hns₁ k1
 have e4:({s3 with heap:=h₁,toks:=s2.toks+([]:List (Str×Value)).length}:Shared)={s2 with heap:=h₁,toks:=s2.toks+([]:List (Str×Value)).length}:=by rw[<-hs3]
 rw[e4] at I4
 have st4:tn 0 h₁:=T.keep _ _ _ st2 λb hb o e=>k1 b o (by rw[hh3];exact XC _ e)
 have f4:∀b∈fp,Vj (Zo X cN scope cl fp s3 (Je H2 s2.heap.objs.size (.lst []))) [] (Je H2 s2.heap.objs.size (.lst [])) b:=λb hb=>by
  obtain⟨g0,g1,g2,g3,g4,g5⟩:=f3 b hb
  refine⟨g0,Nat.ne_of_lt (fl3 b hb),λz=>?_,.inl hb,λx c e=>g4 x c ((C.ok I.ok).sub x c e),λp hp=>absurd hp (by simp[Zo])⟩
  rcases List.mem_cons.mp (I3.stkSub b z) with e | z
  ·exact g1 e
  ·exact g2 z
 have loop:codeAny (model X.prog X.w) X.A (.compLoop (.ListComp elt [⟨tg,iter,ifs,0⟩] scope pos) 0 (.ref it) (.ref s2.heap.objs.size) (Zo X cN scope cl fp s3 (Je H2 s2.heap.objs.size (.lst []))).env) (RR (.ref s2.heap.objs.size) s3.heap.objs.size)
   {s2 with heap:=h₁,toks:=s2.toks+([]:List (Str×Value)).length}:=
  Ac X C.calm (C.tgt _ _ _) C.gm C.gk C.js0 (C.ts _ _ _) C.tm (C.el _ _ _) T W turn m w0 I4 st4 f4 λσ' H' s' I' q=>hRR _ fp s3 _ σ' H' s' I3 f3 I' q
 exact codeAny_compStart_list loop (T.self _ 0 _ _ _ st4 loop)
def xI (cap:List (Option Nat))(wi:TI)(g:TG)(c:TT)(te:TE):TE:=λσ H Q=>Nj cap wi g c te σ H λp H'=>Q (.ref p) H'
def jA (C:G7 X tg iter elt ifs scope cN cap cl js wi g c te):PE X (.ListComp elt [⟨tg,iter,ifs,0⟩] scope pos) (xI cap wi g c te):=by
 intro pins s σ H Q I h
 rw[eval_ListComp]
 refine wpAny_comprehension_free (use:=none) rfl C.fold (C.ok I.ok).clos (C.ok I.ok).kind (C.ok I.ok).names (Mc (RR:=λacc C'=>compPost (model X.prog X.w) X.A X.xe none (EP X pins σ Q) acc C') C I h ?_)
 intro D fp s3 H3 σ' H' s' I3 f3 J q
 obtain⟨m,hn,_⟩:=J.loc
 exact⟨m,hn,λh' sb=>⟨.ref D,H',Mb I3 f3 J sb,rfl,q⟩⟩
def A8 (i:Nat)(cap:List (Option Nat))(wi:TI)(g:TG)(c:TT)(te:TE):TS:=λD σ H=>Nj cap wi g c te σ H λp H'=>D.nx (σ.set i (some (.ref p))) H'
def Fu {i:Nat}{y:Str}{py spos:Pos}(hN:X.N.Nodup)(hi:X.N[i]?=some y)(hy:X.env.scope.names.lookup y=some .local)
  (hsw:swapsWith (.ListComp elt [⟨tg,iter,ifs,0⟩] scope pos) (some (.Name y py)) spos.line X.env=pure true)
  (C:G7 X tg iter elt ifs scope cN cap cl js wi g c te):PS X (.Assign [.Name y py] (.ListComp elt [⟨tg,iter,ifs,0⟩] scope pos) spos) (A8 i cap wi g c te):=by
 intro pins s σ H D I h
 rw[exec_Assign_Name_used _ _ _ _ hsw]
 refine XA (wpAny_standAt (XA ?_))
 show wpAny _ X.A (do let _ <-comprehension (.ListComp elt [⟨tg,iter,ifs,0⟩] scope pos) scope X.env _ (newList []) false (eval iter X.env) (some (assign (.Name y py) X.env))) _ _ s
 refine XA (wpAny_mono (wpAny_comprehension_free (use:=some (assign (.Name y py) X.env)) (Q:=λ_ s'=>SP X pins D .next s') rfl C.fold (C.ok I.ok).clos (C.ok I.ok).kind (C.ok I.ok).names
  (Mc (RR:=λacc C'=>compPost (model X.prog X.w) X.A X.xe (some (assign (.Name y py) X.env)) (λ_ s'=>SP X pins D .next s') acc C') C I h ?_)) (λ_ s' hq=>XB (XB hq)) λ_ _ e=>e)
 intro D' fp s3 H3 σ' H' s' I3 f3 J q
 obtain⟨m,hn,_⟩:=id J.loc
 have I4:Zm X pins σ H' s':=Mb I3 f3 J (Heap.SameBut.refl ..)
 show wpAny _ X.A (assign (.Name y py) X.env (.ref D')) _ _ _
 refine wpAny_assign_Name (M5 (v:=.ref D') I4 hN hi (.inl hy) rfl (λs5 I5 hch=>?_) (.inr hy))
 obtain⟨a,sb,ha⟩:=hch
 have hf:H' s3.heap.objs.size=none:=J.free
 have hCL:s3.heap.objs.size≠X.env.locals:=Nat.ne_of_gt I3.lt
 have hcells:∀x c,X.env.cells.lookup x=some c->c≠s3.heap.objs.size:=λx c e=>by
  obtain⟨v,o,ho,_⟩:=I3.cell x c e
  exact XH (XD ho)
 have haC:s3.heap.objs.size≠a:=by
  rcases ha with z | z
  ·rw[z];exact hCL
  ·exact Ne.symm (hcells _ _ z)
 refine⟨m,hn.sameBut sb haC,λh6 sb6=>⟨_,H',?_,q⟩⟩
 exact I5.turned (h':=h6) (t':=s5.toks) (λb o hb e=>(sb6.2 b hb).trans e) hf hCL (.inr I3.sz) (λx c e=>hcells x c e) λp hp z=>by
  have:=XD (I3.pin p hp).1
  rw[z] at this;exact Nat.lt_irrefl _ this
end
end
def qS (z:Str):It:=⟨λi _=>i<z.cps.size,λi H x H'=>H'=H/\∃c,z.cps[i]?=some c/\x=.str ⟨#[c]⟩,λi _=>i=z.cps.size⟩
def Nh {P:Program}{w:World}{K:W.Frag}{tg:Expr}{ty:String}{it:Addr}{z:Str}{t:Tok}(hty:["enumerate","zip","dict_itemiterator","dict_reverseitemiterator","odict_iterator","itertools.zip_longest","itertools.pairwise"].contains ty=false)
  (W:∀A:Around,A.handled=none->Walks P w A it [it] [it] z.cps.size (SignAt z) (λi h=>h.IsStrIter it ty z t i))
  (self:∀(A:Around) (i:Nat) (s:Shared) (Q:Value->Shared->Prop) (E:Value->Shared->Prop),s.heap.IsStrIter it ty z t i->Q (.ref it) s->wpAny (model P w) A (pyIter (.ref it)) Q E s):
  Gz P w K tg (qS z) [it] it (λi h=>h.IsStrIter it ty z t i) where
 mem:=by simp
 obj:=λi h st b hb=>by
  have e:b=it:=by simpa using hb
  subst e
  obtain⟨o,e,c,d⟩:=st
  exact⟨o,e,λv z=>by rw[d] at z;cases z⟩
 keep:=λi h h' st k=>let ⟨o,e,r⟩:=st;⟨o,k it (by simp) o e,r⟩
 item:=by
  intro X hP hw hK hc i pins s σ H E I hf st hg
  subst hP hw hK
  obtain⟨f0,f1,f2,f3,f4,f5⟩:=hf it (by simp)
  refine(W X.A (I.ok.hd hc)).item i s _ _ hg st λv h' tk hv st' kk=>?_
  obtain⟨c,u,hcp,rfl⟩:=hv
  have I1:Zm X pins σ H {s with heap:=h',toks:=tk}:=I.turned (λb o hb e=>kk b o (by simpa using hb) e) f0 f1 f3 f4 f5
  obtain⟨o,e,c',d⟩:=id st'
  exact⟨_,rfl,Hu (s:={s with heap:=h',toks:=tk}) e c' d hty ⟨.str ⟨#[c]⟩,H,I1,⟨u,rfl⟩,⟨rfl,c,hcp,rfl⟩,st',λb hb=>(hf b hb).1⟩⟩
 done:=by
  intro X hP hw hK hc i pins s σ H E I hf st hg
  subst hP hw hK
  obtain⟨f0,f1,f2,f3,f4,f5⟩:=hf it (by simp)
  have e:i=z.cps.size:=hg
  subst e
  exact(W X.A (I.ok.hd hc)).done s _ _ st λh' tk kk=>⟨rfl,I.turned (λb o hb e=>kk b o (by simpa using hb) e) f0 f1 f3 f4 f5⟩
 self:=self
section
variable {X:Cx}{tg:Expr}
end
section
variable {X:Cx}{elts:List Expr}{ek:Nat}{epos:Pos}
end
section
variable {X:Cx}
def Ft (bs:List Bool):((List.range bs.length).all λi=>(bs[i]?).getD true)=bs.all id:=by
 rw[Bool.eq_iff_iff,List.all_eq_true,List.all_eq_true]
 constructor
 ·intro h x hx
  obtain⟨i,hi,rfl⟩:=List.mem_iff_getElem.mp hx
  have:=h i (List.mem_range.mpr hi)
  simpa[hi] using this
 ·intro h i hi
  have hi':=List.mem_range.mp hi
  simpa[hi'] using h bs[i] (List.getElem_mem hi')
def Ah (hc:X.calm=true):Xb X (.builtin "all") (λxs H Q=>∃(p:Addr) (bs:List Bool),xs=[.ref p]/\Xz X.K H p (bs.map V.bl)/\Q (.bl (bs.all id)) H):=by
 intro pins s σ H xs us Q I r h
 obtain⟨p,bs,rfl,hq,q⟩:=h
 obtain⟨u,rfl,ru⟩:=Uf r
 cases ru
 obtain⟨its,rv,pl,hz⟩:=I.list hq
 have hl:=pl.isList
 have hlt:p<s.heap.objs.size:=by obtain⟨_,e,_⟩:=hl;exact XD e
 have hlen:its.length=bs.length:=by have:=rv.length;simp at this;omega
 refine call_all_walk (wpAny_pyIter_list hl ?_)
 refine⟨s.heap.objs.size,[s.heap.objs.size,p],[s.heap.objs.size],its.toArray.size,_,_,λi=>(bs[i]?).getD true,rfl,Walks.list (A:=X.A.in1) (I.ok.hd hc) _ p (XH hlt) its.toArray,
  ⟨⟨_,XF _ rfl,rfl,rfl⟩,hl.push _⟩,λi v s' Q' E' hP hQ=>?_,λh' tk hk=>?_⟩
 ·have hv:its[i]?=some v:=by simpa using hP
  have hi:i<its.length:=(List.getElem?_eq_some_iff.mp hv).1
  have hb:(bs.map V.bl)[i]?=some (.bl bs[i]):=by simp[show i<bs.length by omega]
  obtain⟨u,hu,ru⟩:=rv.get hb
  rw[hv] at hu;cases hu
  cases ru
  have e:(bs[i]?).getD true=bs[i]:=by simp[show i<bs.length by omega]
  have hQ2:Q' ((bs[i]?).getD true) s':=hQ
  rw[e] at hQ2
  exact wpAny_truthy_bool hQ2
 ·have e:((List.range its.toArray.size).all λi=>(bs[i]?).getD true)=bs.all id:=by
   rw[XJ,hlen];exact Ft bs
  rw[e]
  refine⟨.bl (bs.all id),H,I.kept λb o x=>hk b o (λhm=>?_) (XC _ x),rfl,q⟩
  rw[XQ.mp hm] at x;exact Nat.lt_irrefl _ (XD x)
def ro:V->Bool
 | .flt _=>false
 | .byt _=>false
 | _=>true
def vn (K:W.Frag):R2:=λx y H Q=>∃a b ys,x=.ref a/\y=.ref b/\Uc K H a []/\Uc K H b ys/\Q (.ref b) H
def zC:O8 X (binaryOp .Add) (vn X.K):=by
 intro pins s σ H x y v u Q I rx ry h
 obtain⟨a,b,ys,rfl,rfl,ha,hb,q⟩:=h
 cases rx
 cases ry
 obtain⟨its,r1,p1,_⟩:=I.tuple ha
 obtain⟨its2,r2,p2,_⟩:=I.tuple hb
 cases r1
 obtain⟨⟨cls,dd,data,sl⟩,ho,hc,n,hd⟩:=id p1
 obtain⟨⟨cls2,dd2,data2,sl2⟩,ho2,hc2,n2,hd2⟩:=id p2
 simp only at hc hd hc2 hd2
 subst hc hd hc2 hd2
 exact concat_meets ⟨_,ho,rfl⟩ ⟨_,ho2,rfl⟩ noFill_tuple_add seq_tuple_add PySem.F.slot_tuple_add PySem.F.entry_tuple_add (PySem.F.args_tuple_add_2 _ _)
  (tuple_addW0 a b _ _ n n2 dd dd2 sl sl2 (by simp)) ⟨ho,ho2,⟨.ref b,H,I,rfl,q⟩⟩
def Do {v:Value}{o:Option Int}(h:IsPart v o):∃l:Option (Int×Tok),v=partValue l/\l.map (·.1)=o:=by
 cases h with
 | none=>exact⟨none,rfl,rfl⟩
 | int i t=>exact⟨some (i,t),rfl,rfl⟩
def pJ:V->Option Int->Option Int->Hp->VK->Prop:=λx lo hi H Q=>∃z,x=.str z/\z.length<=sizeLine/\Q (.str (Txt.slice z lo hi)) H
def wY:xy X pJ:=by
 intro pins s σ H x v vl vu lo hi sl Q I rx hs pl pu h
 obtain⟨z,rfl,hz,q⟩:=h
 obtain⟨t,rfl⟩:=rx
 obtain⟨l,rfl,rfl⟩:=Do pl
 obtain⟨u,rfl,rfl⟩:=Do pu
 refine⟨"str",_,PySem.F.slot_str_getitem.lookup,typeIs_str _ _ _,?_⟩
 obtain⟨o,ho,hc,hd⟩:=hs
 refine wpAny_getItem_str_slice (l:=l) (u:=u) (st:=none) ⟨o,ho,hc,hd⟩ rfl ?_
 have hle:=Txt.slice_le z (l.map (·.1)) (u.map (·.1))
 unfold sliceMade
 unfold Txt.slice at q hle
 show Made.post (if ((1:Int)==1&&(PySem.Builtin.Str.strSliceIndices (l.map (·.1)) (u.map (·.1)) 1 z.length).length==z.length)=true then _ else Made.str ⟨((PySem.Builtin.Str.strSliceIndices (l.map (·.1)) (u.map (·.1)) 1 z.length).filterMap (z.cps[·]?)).toArray⟩) _ s
 split
 ·rename_i hif
  rw[XY hif] at q
  exact⟨.str z,H,I,⟨t,rfl⟩,q⟩
 ·rename_i hif
  rw[XX hif] at q
  rw[XX hif] at hle
  exact⟨Nat.le_trans hle hz,.str _,H,I.tok _,⟨_,rfl⟩,q⟩
end
def uN:bootBuiltins "max"=some (.builtin "max"):=by decide+kernel
def yB:bootBuiltins "all"=some (.builtin "all"):=by decide+kernel
def Vg:bootBuiltins "isinstance"=some (.builtin "isinstance"):=by decide+kernel
def uO:bootBuiltins "int"=some (.type "int"):=by decide+kernel
def Tl:bootBuiltins "str"=some (.type "str"):=by decide+kernel
def Tk:bootBuiltins "tuple"=some (.type "tuple"):=by decide+kernel
section
variable {X:Cx}
structure Ca (P:Program)(w:World)(K:W.Frag)(mg:Str->Option Value)(base:Heap)(k:Nat)(x:Str)(ps:List Str)(sp:Sp):Prop where
 ex:∃(f:Addr) (fd:FuncData),Wi P w K mg base CX0 k f fd ps sp/\Xm K fd ps []/\W.keepIn K (.ref f)=true/\mg x=some (.ref f)
def xM {k:Nat}{x:Str}{ps:List Str}{sp:Sp}{p pos:Pos}{e:Expr}{es:List Expr}{t:TA}(C:Ca X.prog X.w X.K X.mg X.base k x ps sp)(hr:Y2 k X.A)(hg:Gl X x)(ha:PA X (e::es) t)
  (hdb:(x==("__debug__":Str))=false:=by decide) (he:starEach (e::es) X.env=(false,eval e X.env)::starEach es X.env:=by rfl) (hpl:(backTo pos (starEach es X.env)).any (·.1)=false:=by rfl):
  PE X (.Call (.Name x p) (e::es) [] pos) (Iy sp [] E0 t):=by
 obtain⟨f,fd,F,B,kp,m⟩:=C.ex
 exact Dn F hr hg m kp B .nil xN ha hdb he hpl
def zV {K:W.Frag}{n:Nat}{u:Fc}(b:Qv u):Vh (B5 K n u):=λx σ H Q Q' h q=>by
 obtain⟨a,xs,e,hq,hl,q⟩:=q
 exact⟨a,xs,e,hq,hl,b _ _ _ _ _ h q⟩
def W5 {scope:Scope}{env:Env}{x:Str}{k:NameKind}(h:(relabel scope env).names.lookup x=some k):∃k',(x,k')∈scope.names/\(k'=k\/k'=.free):=by
 have m:=PySem.mem_of_lookup h
 unfold relabel at m
 obtain⟨⟨n,k'⟩,hm,e⟩:=XR.mp m
 dsimp only at e
 split at e
 ·rename_i hc
  cases e
  refine⟨k',hm,.inr ?_⟩
  simp only[Bool.and_eq_true,beq_iff_eq] at hc
  exact hc.1.1
 ·cases e
  exact⟨_,hm,.inl rfl⟩
def Wh {cN:List Str}{cap:List (Option Nat)}{scope:Scope}(hk:scope.kind=.function)(h1:scope.names.all (λy=>y.2 !=.free&&y.2 !=.cell)=true)(h2:scope.names.all (λy=>y.2 !=.local||scope.names.lookup y.1==some .local)=true)
  (hl:cap.length=cN.length) (hc:cap.all (λo=>o.isNone)=true):Ru X cN cap scope [] where
 clos:=closureFor_none λy hy=>by
  have:=List.all_eq_true.mp h1 y hy
  simp only[Bool.and_eq_true,bne_iff_ne,ne_eq] at this
  exact this.1
 sub:=λn a h=>by cases h
 cell:=λy hy=>by
  have:=List.all_eq_true.mp h1 y hy
  simp only[Bool.and_eq_true,bne_iff_ne,ne_eq] at this
  exact this.2
 kind:=hk
 names:=λy hy e=>by
  have:=List.all_eq_true.mp h2 y hy
  simp only[Bool.or_eq_true,bne_iff_ne,ne_eq,beq_iff_eq] at this
  rcases this with q | q
  ·exact absurd e q
  ·exact q
 len:=hl
 has:=λx h=>by
  exfalso
  have no:∀k',(x,k')∈scope.names->k'≠.free/\k'≠.cell:=λk' hy=>by
   have:=List.all_eq_true.mp h1 _ hy
   simpa only[Bool.and_eq_true,bne_iff_ne,ne_eq] using this
  rcases h with h | h
  ·obtain⟨k',hm,e⟩:=W5 h
   rcases e with e | e
   ·exact(no k' hm).2 e
   ·exact(no k' hm).1 e
  ·obtain⟨k',hm,e⟩:=W5 h
   rcases e with e | e
   ·exact(no k' hm).1 e
   ·exact(no k' hm).1 e
 capd:=λi j x h _=>by
  have:=List.all_eq_true.mp hc _ (List.mem_of_getElem? h)
  cases this
def Vf (cells:List (Str×Addr)):List (Str×NameKind)->List (Str×Addr)->List (Str×Addr)
 | [],cs=>cs
 | (n,k)::r,cs=>Vf cells r (if k==.free then(n,(cells.lookup n).getD 0)::cs else cs)
def Rn {cells:List (Str×Addr)}:∀{names:List (Str×NameKind)} {cs:List (Str×Addr)} {p:Str×Addr},p∈Vf cells names cs↔p∈cs\/((p.1,NameKind.free)∈names/\p.2=(cells.lookup p.1).getD 0)
 | [],cs,p=>by simp[Vf]
 | (n,k)::r,cs,p=>by
  unfold Vf
  rw[Rn]
  by_cases hk:k=.free
  ·subst hk
   simp only[beq_self_eq_true,if_true,List.mem_cons,Prod.mk.injEq,and_true]
   constructor
   ·rintro((h | h) | h)
    ·subst h;exact .inr ⟨.inl rfl,rfl⟩
    ·exact .inl h
    ·exact .inr ⟨.inr h.1,h.2⟩
   ·rintro(h | ⟨h | h,e⟩)
    ·exact .inl (.inr h)
    ·refine .inl (.inl ?_)
     obtain⟨a,b⟩:=p
     simp only at h e
     subst h;subst e;rfl
    ·exact .inr ⟨h,e⟩
  ·have hb:(k==NameKind.free)=false:=by simpa using hk
   simp only[hb,Bool.false_eq_true,if_false,List.mem_cons,Prod.mk.injEq]
   constructor
   ·rintro(h | h)
    ·exact .inl h
    ·exact .inr ⟨.inr h.1,h.2⟩
   ·rintro(h | ⟨h | h,e⟩)
    ·exact .inl h
    ·exact absurd h.2.symm hk
    ·exact .inr ⟨h,e⟩
def Mv {scope:Scope}{env:Env}(h:∀n,(n,NameKind.free)∈scope.names->∃c,env.cells.lookup n=some c):closureFor scope env=pure (Vf env.cells scope.names []):=by
 have key:∀(names:List (Str×NameKind)) (cs:List (Str×Addr)),(∀n,(n,NameKind.free)∈names->∃c,env.cells.lookup n=some c)->
   (forIn names cs λx r=>(match x with | (name,kind)=>if (kind==NameKind.free)=true then(do let y <-cellOf env name;pure (ForInStep.yield ((name,y)::r))) else pure (ForInStep.yield r):Sem (ForInStep (List (Str×Addr)))))=pure (Vf env.cells names cs):=by
  intro names
  induction names with
  | nil=>intro cs _;rfl
  | cons y r ih=>
   obtain⟨n,k⟩:=y
   intro cs hn
   rw[List.forIn_cons]
   unfold Vf
   by_cases hk:k=.free
   ·subst hk
    obtain⟨c,hc⟩:=hn n (List.mem_cons_self)
    simp only[beq_self_eq_true,if_true,cellOf,hc,Option.getD_some]
    exact ih _ λm hm=>hn m (XV _ hm)
   ·have hb:(k==NameKind.free)=false:=by simpa using hk
    simp only[hb,Bool.false_eq_true,if_false]
    exact ih _ λm hm=>hn m (XV _ hm)
 unfold closureFor
 have:=key scope.names [] h
 first
  | exact this
  | (simp only[bind_pure];exact this)
  | (show(forIn scope.names [] _>>=λr=>pure r)=_;rw[bind_pure];exact this)
def Nr {f:Str->NameKind->NameKind}:∀{names:List (Str×NameKind)} {x:Str},(names.map λy=>(y.1,f y.1 y.2)).lookup x=(names.lookup x).map (f x)
 | [],x=>rfl
 | (n,k)::r,x=>by
  have ih:=@Nr f r x
  rw[YI,List.lookup_cons,List.lookup_cons]
  by_cases hx:x=n
  ·subst hx;simp
  ·have hb:(x==n)=false:=beq_eq_false_iff_ne.mpr hx
   simp only[hb];exact ih
def Nt {scope:Scope}{env:Env}{x:Str}:(relabel scope env).names.lookup x=
   (scope.names.lookup x).map λk=>if (k==NameKind.free&&env.scope.kind==.function&&env.kindOf x==some .cell) then NameKind.cell else k:=by
 rw[<-Nr (f:=λn k=>if (k==NameKind.free&&env.scope.kind==.function&&env.kindOf n==some .cell) then NameKind.cell else k)]
 unfold relabel
 congr 1
 refine List.map_congr_left λy _=>?_
 obtain⟨n,k⟩:=y
 dsimp only
 split<;>rfl
def Me (N:List Str)(outer inner:List (Str×NameKind)):List (Option Nat)->List Str->Bool
 | [],_=>true
 | _,[]=>true
 | none::r,_::xs=>Me N outer inner r xs
 | some j::r,x::xs=>N[j]?==some x&&outer.lookup x==some .cell&&inner.lookup x==some .free&&Me N outer inner r xs
def P6 {N:List Str}{outer inner:List (Str×NameKind)}:∀{cap:List (Option Nat)} {cN:List Str},Me N outer inner cap cN=true->∀(i j:Nat) (x:Str),cap[i]?=some (some j)->cN[i]?=some x->N[j]?=some x/\outer.lookup x=some .cell/\inner.lookup x=some .free
 | [],_,_,i,j,x,h1,_=>by simp at h1
 | _::_,[],_,i,j,x,_,h2=>by simp at h2
 | none::r,y::xs,h,0,j,x,h1,_=>by simp at h1
 | none::r,y::xs,h,i+1,j,x,h1,h2=>P6 (cap:=r) (cN:=xs) (by simpa[Me] using h) i j x (by simpa using h1) (by simpa using h2)
 | some k::r,y::xs,h,0,j,x,h1,h2=>by
  simp only[Me,Bool.and_eq_true,beq_iff_eq] at h
  simp at h1 h2
  subst h1 h2
  exact⟨h.1.1.1,h.1.1.2,h.1.2⟩
 | some k::r,y::xs,h,i+1,j,x,h1,h2=>by
  simp only[Me,Bool.and_eq_true,beq_iff_eq] at h
  exact P6 (cap:=r) (cN:=xs) h.2 i j x (by simpa using h1) (by simpa using h2)
def Sm {α β:Type}[BEq α][LawfulBEq α]{x:α}:∀{l:List (α×β)} {b:β},(x,b)∈l->∃c,l.lookup x=some c
 | [],_,h=>by cases h
 | (y,c)::r,b,h=>by
  rw[List.lookup_cons]
  by_cases hx:x=y
  ·subst hx;simp
  ·have hb:(x==y)=false:=beq_eq_false_iff_ne.mpr hx
   rw[hb]
   rcases List.mem_cons.mp h with e | h
   ·cases e;exact absurd rfl hx
   ·exact Sm h
def D9 {cN:List Str}{cap:List (Option Nat)}{scope:Scope}(ok:X.Ok)(hk:scope.kind=.function)(h1:scope.names.all (λy=>y.2 !=.cell)=true)(h2:scope.names.all (λy=>y.2 !=.local||scope.names.lookup y.1==some .local)=true)
  (hl:cap.length=cN.length) (hf:(scope.names.all λy=>y.2 !=.free||X.env.scope.names.lookup y.1==some .cell)=true) (hc:Me X.N X.env.scope.names scope.names cap cN=true):Ru X cN cap scope (Vf X.env.cells scope.names []):=by
 have hfr:∀n,(n,NameKind.free)∈scope.names->∃c,X.env.cells.lookup n=some c:=λn hn=>by
  have:=List.all_eq_true.mp hf _ hn
  simp only[bne_self_eq_false,Bool.false_or,beq_iff_eq] at this
  exact ok.has n (.inl this)
 refine⟨Mv hfr,λn a h=>?_,λy hy=>?_,hk,λy hy e=>?_,hl,λx h=>?_,λi j x h1' h2'=>?_⟩
 ·have m:=PySem.mem_of_lookup h
  rw[Rn] at m
  rcases m with m | ⟨m,e⟩
  ·cases m
  ·obtain⟨c,hc⟩:=hfr n m
   simp only[hc,Option.getD_some] at e
   rw[hc,e]
 ·have:=List.all_eq_true.mp h1 y hy
  simpa using this
 ·have:=List.all_eq_true.mp h2 y hy
  simp only[Bool.or_eq_true,bne_iff_ne,ne_eq,beq_iff_eq] at this
  rcases this with q | q
  ·exact absurd e q
  ·exact q
 ·have nc:∀k',(x,k')∈scope.names->k'≠.cell:=λk' hy=>by
   have:=List.all_eq_true.mp h1 _ hy
   simpa using this
  have m:(x,NameKind.free)∈scope.names:=by
   rcases h with h | h
   ·obtain⟨k',hm,e⟩:=W5 h
    rcases e with e | e
    ·exact absurd e (nc k' hm)
    ·subst e;exact hm
   ·obtain⟨k',hm,e⟩:=W5 h
    rcases e with e | e<;>(subst e;exact hm)
  exact Sm (b:=(X.env.cells.lookup x).getD 0) (Rn.mpr (.inr ⟨m,rfl⟩))
 ·obtain⟨q1,q2,q3⟩:=P6 hc i j x h1' h2'
  refine⟨q1,.inr (.inl q2),(by rw[q2];simp),?_⟩
  rw[Nt,q3]
  simp only[Option.map_some,beq_self_eq_true,Bool.true_and]
  split
  ·exact .inl rfl
  ·exact .inr rfl
end
def CN (p:Addr)(Pv:Nat->List V->Hp->Prop)(i:Nat)(H:Hp):Prop:=∃ys,H p=some (.lst ys)/\ys.length<=i/\Pv i ys H
section
variable {K:W.Frag}{cap:List (Option Nat)}{g:TG}{c:TT}{te:TE}{σ:St}{Q:Addr->Hp->Prop}{H:Hp}
end
def pz (g:TG)(tb:TS)(D:Ro)(σ:St)(J:It)(H1:Hp):Prop:=∃W:Nat->Nat->St->Hp->Prop,(∃m,W 0 m σ H1)/\∀i m σ H,W i m σ H->
 (J.stop i H/\D.nx σ H)\/(J.go i H/\∃N:St->Hp->Prop,(∀σ' H',N σ' H'->∃m',m'<m/\W (i+1) m' σ' H')/\∀x H',J.yld i H x H'->g x σ H' λσ2 H2=>tb {D with nx:=N,ct:=N,bk:=D.nx} σ2 H2)
section
variable {K:W.Frag}{a:Addr}{xs:List V}{g:TG}{tb:TS}{D:Ro}{σ:St}{H:Hp}{z:Str}
end
def tyL {K:W.Frag}{H:Hp}{r:Addr}{xs:List V}(h:H r=some (.lst xs)):wI K "list" (.ref r) H:=by
 unfold wI
 exact .inl ⟨rfl,xs,Xz.of h⟩
def Ua {α:Type}{xs:List α}{i:Int}(h0:0<=i)(h1:i<(xs.length:Int)):∃v,Ub xs i=some v/\v∈xs:=by
 have hk:i.toNat<xs.length:=by omega
 have ek:((i.toNat:Nat):Int)=i:=by omega
 have q:Ub xs ((i.toNat:Nat):Int)=some xs[i.toNat]:=Sa (by simp[hk])
 rw[ek] at q
 exact⟨xs[i.toNat],q,YN hk⟩
end L2
namespace WL
open PySem PySem.Spec PyProof.Rows L2
inductive T where
 | non | bl (b:Bool) | int (i:Int) | str (x:Str) | tup (xs:List T)
  | ref (a:Addr)
  | cl (xs:List T)
inductive O where
 | lst (xs:List T)
 | dic (kvs:List (X2×T))
 | ins (cn:Str) (fs:List (Str×T))
  | fdic (kvs:List (X2×T))
  | exc (cn:Str)
abbrev Hw:=Addr->Option O
def up (C:Hw)(a:Addr)(o:O):Hw:=λb=>if b=a then some o else C b
def Zj {C:Hw}{a:Addr}{o:O}:up C a o a=some o:=by unfold up;rw[XY rfl]
def Jq {C:Hw}{a b:Addr}{o:O}(h:b≠a):up C a o b=C b:=by unfold up;rw[XX h]
def tU {C:Hw}{a:Addr}{o u:O}:up (up C a o) a u=up C a u:=by
 funext b;unfold up;split<;>rfl
def yG (K:W.Frag)(H:Hp)(a:Addr)(xs:List V):Prop:=
 (∃o,H a=some (.frz o (.lst xs)))\/
  ∃(o:Obj) (its:Array Value) (n:Nat),K.lookup a=some o/\o.cls=.type "list"/\o.dict=none/\o.data=.seq its n/\its.size<=sizeLine/\Zx xs its.toList
def yG.sq {K:W.Frag}{H:Hp}{a:Addr}{xs:List V}(h:yG K H a xs):Xz K H a xs:=by
 rcases h with⟨o,h⟩ | h
 ·exact .inl (.inr ⟨o,h⟩)
 ·exact .inr h
mutual
def Jg (K:W.Frag)(H:Hp)(x:V):T->Prop
 | .non=>x=.non
 | .bl b=>x=.bl b
 | .int i=>x=.int i
 | .str z=>x=.str z
 | .ref a=>x=.ref a
 | .tup ts=>∃a ys,x=.ref a/\Uc K H a ys/\Reps K H ys ts
 | .cl ts=>∃a ys,x=.ref a/\yG K H a ys/\Reps K H ys ts
def Reps (K:W.Frag)(H:Hp)(ys:List V):List T->Prop
 | []=>ys=[]
 | t::ts=>∃y r,ys=y::r/\Jg K H y t/\Reps K H r ts
end
def o6:HO->Prop
 | .tup _=>True
 | .frz _ _=>True
 | _=>False
def Tx (H H':Hp):Prop:=∀b o,H b=some o->o6 o->H' b=some o
def Tx.refl (H:Hp):Tx H H:=λ_ _ h _=>h
def Tx.trans {H H1 H2:Hp}(a:Tx H H1)(b:Tx H1 H2):Tx H H2:=λc o h n=>b c o (a c o h n) n
def Tx.new {H:Hp}{p:Addr}{o:HO}(h:H p=none):Tx H (Je H p o):=λb u q _=>by rw[Z6 (Jc q h)];exact q
def Tx.put {H:Hp}{p:Addr}{o u:HO}(h:H p=some o)(n:¬o6 o):Tx H (Je H p u):=λb v q s=>by
 by_cases e:b=p
 ·subst e;rw[h] at q;cases q;exact absurd s n
 ·rw[Z6 e];exact q
def Tx.sqt {K:W.Frag}{H H':Hp}(t:Tx H H'){a:Addr}{xs:List V}(h:Uc K H a xs):Uc K H' a xs:=by
 rcases h with(h | ⟨o,h⟩) | h
 ·exact .inl (.inl (t _ _ h trivial))
 ·exact .inl (.inr ⟨o,t _ _ h trivial⟩)
 ·exact .inr h
def Tx.sqc {K:W.Frag}{H H':Hp}(t:Tx H H'){a:Addr}{xs:List V}(h:yG K H a xs):yG K H' a xs:=by
 rcases h with⟨o,h⟩ | h
 ·exact .inl ⟨o,t _ _ h trivial⟩
 ·exact .inr h
mutual
def Jg.tx {K:W.Frag}{H H':Hp}(t:Tx H H'){x:V}:∀{v:T},Jg K H x v->Jg K H' x v
 | .non,h=>by simpa[Jg] using h
 | .bl b,h=>by simpa[Jg] using h
 | .int i,h=>by simpa[Jg] using h
 | .str z,h=>by simpa[Jg] using h
 | .ref a,h=>by simpa[Jg] using h
 | .tup ts,h=>by
  unfold Jg at h |-
  obtain⟨a,ys,e,q,r⟩:=h
  exact⟨a,ys,e,t.sqt q,Reps.tx t r⟩
 | .cl ts,h=>by
  unfold Jg at h |-
  obtain⟨a,ys,e,q,r⟩:=h
  exact⟨a,ys,e,t.sqc q,Reps.tx t r⟩
def Reps.tx {K:W.Frag}{H H':Hp}(t:Tx H H'){ys:List V}:∀{vs:List T},Reps K H ys vs->Reps K H' ys vs
 | [],h=>by simpa[Reps] using h
 | v::vs,h=>by
  unfold Reps at h |-
  obtain⟨y,r,e,q,s⟩:=h
  exact⟨y,r,e,Jg.tx t q,Reps.tx t s⟩
end
section
variable {K:W.Frag}{H:Hp}
def Yq {i:Int}:Jg K H (.int i) (.int i):=by unfold Jg;rfl
def Zt {i:Str}:Jg K H (.str i) (.str i):=by unfold Jg;rfl
def Jb {i:Bool}:Jg K H (.bl i) (.bl i):=by unfold Jg;rfl
def Wc:Jg K H .non .non:=by unfold Jg;rfl
def Xw {a:Addr}:Jg K H (.ref a) (.ref a):=by unfold Jg;rfl
def Xj {a:Addr}{ys:List V}{ts:List T}(h:Uc K H a ys)(r:Reps K H ys ts):Jg K H (.ref a) (.tup ts):=by unfold Jg;exact⟨a,ys,rfl,h,r⟩
def Yh {x:V}{i:Int}(h:Jg K H x (.int i)):x=.int i:=by unfold Jg at h;exact h
def Yu {x:V}{i:Str}(h:Jg K H x (.str i)):x=.str i:=by unfold Jg at h;exact h
def Qh {x:V}{i:Bool}(h:Jg K H x (.bl i)):x=.bl i:=by unfold Jg at h;exact h
def Kq {x:V}(h:Jg K H x .non):x=.non:=by unfold Jg at h;exact h
def Yl {x:V}{a:Addr}(h:Jg K H x (.ref a)):x=.ref a:=by unfold Jg at h;exact h
def Y0 {x:V}{ts:List T}(h:Jg K H x (.tup ts)):∃a ys,x=.ref a/\Uc K H a ys/\Reps K H ys ts:=by unfold Jg at h;exact h
def Ol {x:V}{ts:List T}(h:Jg K H x (.cl ts)):∃a ys,x=.ref a/\yG K H a ys/\Reps K H ys ts:=by unfold Jg at h;exact h
def Ys:Reps K H [] []:=by unfold Reps;rfl
def Zq {y:V}{ys:List V}{t:T}{ts:List T}(a:Jg K H y t)(b:Reps K H ys ts):Reps K H (y::ys) (t::ts):=by unfold Reps;exact⟨y,ys,rfl,a,b⟩
def Wv {ys:List V}(h:Reps K H ys []):ys=[]:=by unfold Reps at h;exact h
def Jt {ys:List V}{t:T}{ts:List T}(h:Reps K H ys (t::ts)):∃y r,ys=y::r/\Jg K H y t/\Reps K H r ts:=by unfold Reps at h;exact h
def Reps.length:∀{vs:List T} {ys:List V},Reps K H ys vs->ys.length=vs.length
 | [],_,h=>by rw[Wv h];rfl
 | _::_,_,h=>by obtain⟨y,r,rfl,_,q⟩:=Jt h;rw[YF,YF,q.length]
def Reps.get:∀{vs:List T} {ys:List V} {i:Nat} {v:T},Reps K H ys vs->vs[i]?=some v->∃y,ys[i]?=some y/\Jg K H y v
 | [],_,_,_,_,e=>by simp at e
 | _::_,_,0,_,h,e=>by obtain⟨y,r,rfl,a,_⟩:=Jt h;simp at e;subst e;exact⟨y,rfl,a⟩
 | _::_,_,i+1,v,h,e=>by
  obtain⟨y,r,rfl,_,q⟩:=Jt h
  obtain⟨z,h1,h2⟩:=Reps.get (i:=i) (v:=v) q (by simpa using e)
  exact⟨z,by simpa using h1,h2⟩
def Reps.app:∀{vs ws:List T} {ys zs:List V},Reps K H ys vs->Reps K H zs ws->Reps K H (ys++zs) (vs++ws)
 | [],_,_,_,h,q=>by rw[Wv h];exact q
 | _::_,_,_,_,h,q=>by obtain⟨y,r,rfl,a,b⟩:=Jt h;exact Zq a (b.app q)
def Reps.take:∀(n:Nat) {vs:List T} {ys:List V},Reps K H ys vs->Reps K H (ys.take n) (vs.take n)
 | 0,_,_,_=>by simpa using Ys
 | _+1,[],_,h=>by rw[Wv h];exact Ys
 | n+1,_::_,_,h=>by obtain⟨y,r,rfl,a,b⟩:=Jt h;exact Zq a (b.take n)
def Reps.drop:∀(n:Nat) {vs:List T} {ys:List V},Reps K H ys vs->Reps K H (ys.drop n) (vs.drop n)
 | 0,_,_,h=>h
 | _+1,[],_,h=>by rw[Wv h];exact Ys
 | n+1,_::_,_,h=>by obtain⟨y,r,rfl,a,b⟩:=Jt h;exact b.drop n
def Reps.dropLast {vs:List T}{ys:List V}(h:Reps K H ys vs):Reps K H ys.dropLast vs.dropLast:=by
 rw[List.dropLast_eq_take,List.dropLast_eq_take,h.length];exact h.take _
def Reps.snoc {vs:List T}{ys:List V}{y:V}{v:T}(h:Reps K H ys vs)(q:Jg K H y v):Reps K H (ys++[y]) (vs++[v]):=h.app (Zq q Ys)
def Reps.at {vs:List T}{ys:List V}{i:Int}{v:T}(h:Reps K H ys vs)(e:Ub vs i=some v):∃y,Ub ys i=some y/\Jg K H y v:=by
 unfold Ub at e |-
 rw[h.length]
 cases q:zO vs.length i with
 | none=>rw[q] at e;cases e
 | some j=>
  rw[q] at e
  exact h.get e
def La:∀ns:List Int,Reps K H (ns.map V.int) (ns.map T.int)
 | []=>Ys
 | n::r=>Zq Yq (La r)
def M9:∀ns:List Str,Reps K H (ns.map V.str) (ns.map T.str)
 | []=>Ys
 | n::r=>Zq Zt (M9 r)
end
abbrev PR (K:W.Frag)(H:Hp){κ:Type}(kvs:List (κ×V))(kws:List (κ×T)):Prop:=PySem.Paired (λp q=>p.1=q.1/\Jg K H p.2 q.2) kvs kws
def Ox (K:W.Frag)(H:Hp)(a:Addr):O->Prop
 | .lst xs=>∃ys,H a=some (.lst ys)/\Reps K H ys xs
 | .dic kvs=>∃ks,H a=some (.dK ks)/\PR K H ks kvs
 | .ins cn fs=>∃Cl dx ks,W.nsIn K mainGlobals cn=some (some (.ref Cl))/\H a=some (.ins Cl dx ks)/\PR K H ks fs
 | .fdic kvs=>∃ks,Rd H a (.dK ks)/\PR K H ks kvs
 | .exc cn=>∃Cl ob u,W.nsIn K mainGlobals cn=some (some (.ref Cl))/\ob.cls=.ref Cl/\H a=some (.frz ob u)
def O.wr:O->Prop
 | .fdic _=>False
 | .exc _=>False
 | _=>True
structure Rl (K:W.Frag)(F H:Hp)(C:Hw):Prop where
 obj:∀a o,C a=some o->Ox K H a o
 frm:∀a o,F a=some o->H a=some o/\C a=none
def Dk {K:W.Frag}{H H':Hp}(t:Tx H H'){κ:Type}{ks:List (κ×V)}{kvs:List (κ×T)}(h:PR K H ks kvs):PR K H' ks kvs:=L2.Paired.mapP h λ_ _ z=>⟨z.1,z.2.tx t⟩
def Ox.stay {K:W.Frag}{H H':Hp}{a:Addr}{o:O}(h:Ox K H a o)(t:Tx H H')(e:H' a=H a):Ox K H' a o:=by
 cases o with
 | lst xs=>obtain⟨ys,q,r⟩:=h;exact⟨ys,e.trans q,r.tx t⟩
 | dic kvs=>obtain⟨ys,q,r⟩:=h;exact⟨ys,e.trans q,Dk t r⟩
 | ins C fs=>obtain⟨Cl,dx,ys,n,q,r⟩:=h;exact⟨Cl,dx,ys,n,e.trans q,Dk t r⟩
 | fdic kvs=>
  obtain⟨ys,q,r⟩:=h
  refine⟨ys,?_,Dk t r⟩
  rcases q with q | ⟨o,q⟩
  ·exact .inl (e.trans q)
  ·exact .inr ⟨o,e.trans q⟩
 | exc cn=>obtain⟨Cl,ob,u,n,c,q⟩:=h;exact⟨Cl,ob,u,n,c,e.trans q⟩
def Ox.some {K:W.Frag}{H:Hp}{a:Addr}{o:O}(h:Ox K H a o)(wr:o.wr):∃u,H a=some u/\¬o6 u:=by
 cases o with
 | fdic kvs=>exact wr.elim
 | exc cn=>exact wr.elim
 | lst xs=>obtain⟨ys,q,r⟩:=h;exact⟨_,q,λz=>z⟩
 | dic kvs=>obtain⟨ys,q,r⟩:=h;exact⟨_,q,λz=>z⟩
 | ins C fs=>obtain⟨Cl,dx,ys,n,q,r⟩:=h;exact⟨_,q,λz=>z⟩
def Ox.here {K:W.Frag}{H:Hp}{a:Addr}{o:O}(h:Ox K H a o):∃u,H a=Option.some u:=by
 cases o with
 | fdic kvs=>
  obtain⟨ys,q,r⟩:=h
  rcases q with q | ⟨o,q⟩
  ·exact⟨_,q⟩
  ·exact⟨_,q⟩
 | exc cn=>obtain⟨Cl,ob,u,n,c,q⟩:=h;exact⟨_,q⟩
 | lst xs=>obtain⟨ys,q,r⟩:=h;exact⟨_,q⟩
 | dic kvs=>obtain⟨ys,q,r⟩:=h;exact⟨_,q⟩
 | ins C fs=>obtain⟨Cl,dx,ys,n,q,r⟩:=h;exact⟨_,q⟩
section
variable {K:W.Frag}{F H:Hp}{C:Hw}
def Rl.free (R:Rl K F H C){p:Addr}(h:H p=none):C p=none:=by
 cases e:C p with
 | none=>rfl
 | some o=>obtain⟨u,q⟩:=(R.obj p o e).here;rw[h] at q;cases q
def Rl.lst (R:Rl K F H C){a:Addr}{xs:List T}(h:C a=some (.lst xs)):∃ys,H a=some (.lst ys)/\Reps K H ys xs:=R.obj a _ h
def Rl.new (R:Rl K F H C){p:Addr}{u:HO}{o:O}(h:H p=none)(r:Ox K (Je H p u) p o):Rl K F (Je H p u) (up C p o) where
 obj:=λa v e=>by
  by_cases q:a=p
  ·subst q;rw[Zj] at e;cases e;exact r
  ·rw[Jq q] at e
   exact(R.obj a v e).stay (Tx.new h) (Z6 q)
 frm:=λa v e=>by
  have z:=R.frm a v e
  have q:a≠p:=Jc z.1 h
  rw[Z6 q,Jq q];exact z
def Rl.hid (R:Rl K F H C){p:Addr}{u:HO}(h:H p=none):Rl K F (Je H p u) C where
 obj:=λa v e=>by
  obtain⟨w,q⟩:=(R.obj a v e).here
  exact(R.obj a v e).stay (Tx.new h) (Z6 (Jc q h))
 frm:=λa v e=>by
  have z:=R.frm a v e
  rw[Z6 (Jc z.1 h)];exact z
def Rl.put (R:Rl K F H C){p:Addr}{u:HO}{o o':O}(h:C p=some o)(r:Ox K (Je H p u) p o')(wr:o.wr:=by trivial):Rl K F (Je H p u) (up C p o')/\Tx H (Je H p u):=by
 obtain⟨w,hw,ns⟩:=(R.obj p o h).some wr
 have t:Tx H (Je H p u):=Tx.put hw ns
 refine⟨⟨λa v e=>?_,λa v e=>?_⟩,t⟩
 ·by_cases q:a=p
  ·subst q;rw[Zj] at e;cases e;exact r
  ·rw[Jq q] at e
   exact(R.obj a v e).stay t (Z6 q)
 ·have z:=R.frm a v e
  have q:a≠p:=λy=>by subst y;rw[h] at z;cases z.2
  rw[Z6 q,Jq q];exact z
def Rl.putL (R:Rl K F H C){p:Addr}{xs xs':List T}{ys':List V}(h:C p=some (.lst xs))(r:Reps K H ys' xs'):Rl K F (Je H p (.lst ys')) (up C p (.lst xs'))/\Tx H (Je H p (.lst ys')):=by
 obtain⟨w,hw,ns⟩:=(R.obj p _ h).some trivial
 exact R.put h ⟨ys',Yy,r.tx (Tx.put hw ns)⟩
def Rl.newL (R:Rl K F H C){p:Addr}{xs:List T}{ys:List V}(h:H p=none)(r:Reps K H ys xs):Rl K F (Je H p (.lst ys)) (up C p (.lst xs)):=R.new h ⟨ys,Yy,r.tx (Tx.new h)⟩
end
abbrev Sw:=List (Option T)
abbrev WK:=T->Hw->Prop
structure Xn where
 cls:Str
 fs:List (Str×T)
abbrev WX:=Xn->Hw->Prop
abbrev WE:=Sw->Hw->WK->WX->Prop
abbrev WT:=Sw->Hw->(Bool->Hw->Prop)->WX->Prop
abbrev WA:=Sw->Hw->(List T->Hw->Prop)->WX->Prop
structure We where
 nx:Sw->Hw->Prop
 rt:WK
 bk:Sw->Hw->Prop:=λ_ _=>False
 ct:Sw->Hw->Prop:=λ_ _=>False
 xc:WX:=λ_ _=>False
abbrev ZUD (Q:WK)(χ:WX):We:={nx:=λ_ C'=>Q .non C',rt:=Q,xc:=χ}
abbrev WS:=We->Sw->Hw->Prop
abbrev WG:=T->Sw->Hw->(Sw->Hw->Prop)->WX->Prop
abbrev yR:=List T->Sw->Hw->(Sw->Hw->Prop)->WX->Prop
abbrev WI:=Sw->Hw->(List T->(Hw->Prop)->Hw->Prop)->WX->Prop
abbrev W2:=T->T->Hw->WK->Prop
abbrev Calls:=Nat->List T->Hw->WK->WX->Prop
def Zu (i:Nat):WE:=λτ C Q _=>∃v,τ[i]?=some (some v)/\Q v C
def eC (v:T):WE:=λ_ C Q _=>Q v C
def Yo (r:W2)(a b:WE):WE:=λτ C Q χ=>a τ C (λx C1=>b τ C1 (λy C2=>r x y C2 Q) χ) χ
def uB (r:T->Hw->WK->Prop)(a:WE):WE:=λτ C Q χ=>a τ C (λx C1=>r x C1 Q) χ
def Jl:WA:=λ_ C Q _=>Q [] C
def Z2 (a:WE)(r:WA):WA:=λτ C Q χ=>a τ C (λx C1=>r τ C1 (λxs C2=>Q (x::xs) C2) χ) χ
def Gg (a:WA):WE:=λτ C Q χ=>a τ C (λxs C1=>xs.length<=sizeLine/\Q (.tup xs) C1) χ
def ym (a:WA):WE:=λτ C Q χ=>a τ C (λxs C1=>xs.length<=sizeLine/\∀p,C1 p=none->Q (.ref p) (up C1 p (.lst xs))) χ
def Jp (P:Calls)(i:Nat)(a:WA):WE:=λτ C Q χ=>a τ C (λxs C1=>P i xs C1 Q χ) χ
def uE (r:List T->Hw->WK->Prop)(a:WA):WE:=λτ C Q χ=>a τ C (λxs C1=>r xs C1 Q) χ
def om (ty:T->Hw->Prop)(r:T->List T->Hw->WK->Prop)(o:WE)(a:WA):WE:=λτ C Q χ=>o τ C (λx C1=>ty x C1/\a τ C1 (λxs C2=>r x xs C2 Q) χ) χ
def my (c:WT)(a b:WE):WE:=λτ C Q χ=>c τ C (λk C1=>if k=true then a τ C1 Q χ else b τ C1 Q χ) χ
def uF (a b:WE):WE:=λτ C Q χ=>a τ C (λx C1=>∃k,x=.bl k/\if k=true then b τ C1 Q χ else Q (.bl false) C1) χ
def oi (a b:WE):WE:=λτ C Q χ=>a τ C (λx C1=>∃k,x=.bl k/\if k=true then Q (.bl true) C1 else b τ C1 Q χ) χ
def oj (a:WE):WE:=λτ C Q χ=>a τ C (λx C1=>∃k,x=.bl k/\Q (.bl (!k)) C1) χ
def oP:T->Hw->Bool->Prop
 | .non,_,k=>k=false
 | .bl b,_,k=>k=b
 | .int i,_,k=>k=(i !=0)
 | .str y,_,k=>y.length<=sizeLine/\k=((y.length:Int) !=0)
 | .tup xs,_,k=>k=!xs.isEmpty
 | .cl xs,_,k=>k=!xs.isEmpty
 | .ref a,C,k=>(∃xs,C a=some (.lst xs)/\k=!xs.isEmpty)\/∃kvs,C a=some (.dic kvs)/\k=!kvs.isEmpty
def Mp (a:WE):WT:=λτ C Q χ=>a τ C (λx C1=>∃k,oP x C1 k/\Q k C1) χ
def Fb (a:WE):WT:=λτ C Q χ=>a τ C (λx C1=>∃k,x=.bl k/\Q k C1) χ
def wQ (a b:WT):WT:=λτ C Q χ=>a τ C (λk C1=>if k=true then b τ C1 Q χ else Q false C1) χ
def Ix (a b:WT):WT:=λτ C Q χ=>a τ C (λk C1=>if k=true then Q true C1 else b τ C1 Q χ) χ
def pv (a:WT):WT:=λτ C Q χ=>a τ C (λk C1=>Q (!k) C1) χ
def uD (r r':W2)(a b c:WE):WE:=λτ C Q χ=>a τ C (λx C1=>b τ C1 (λy C2=>r x y C2 λz C3=>∃k,z=.bl k/\(if k=true then c τ C3 (λw C4=>r' y w C4 Q) χ else Q (.bl false) C3)) χ) χ
def Sf:W2
 | .int i,.int j,C,Q=>Q (.int (i+j)) C
 | .str i,.str j,C,Q=>i.length+j.length<=sizeLine/\Q (.str (i++j)) C
 | .tup xs,.tup ys,C,Q=>xs.length+ys.length<=sizeLine/\Q (.tup (xs++ys)) C
 | .ref a,.ref b,C,Q=>∃xs ys,C a=some (.lst xs)/\C b=some (.lst ys)/\xs.length+ys.length<=sizeLine/\∀p,C p=none->Q (.ref p) (up C p (.lst (xs++ys)))
 | _,_,_,_=>False
def qX:W2
 | .int i,.int j,C,Q=>Q (.int (i-j)) C
 | _,_,_,_=>False
def tS:W2
 | .int i,.int j,C,Q=>xD i j/\Q (.int (i*j)) C
 | _,_,_,_=>False
def A2:W2
 | .int i,.int j,C,Q=>qC i j/\Q (.int (i/j)) C
 | _,_,_,_=>False
def Cu:W2
 | .int i,.int j,C,Q=>0<j/\Q (.int (i%j)) C
 | _,_,_,_=>False
def tQ:W2
 | .int i,.int j,C,Q=>qB i j/\Q (.int (i^j.toNat)) C
 | _,_,_,_=>False
def Ct:T->Hw->WK->Prop
 | .int i,C,Q=>Q (.int (-i)) C
 | _,_,_=>False
def oM:W2
 | .int i,.int j,C,Q=>Q (.bl (decide (i<j))) C
 | .str i,.str j,C,Q=>Q (.bl (decide (i.cps.toList<j.cps.toList))) C
 | _,_,_,_=>False
def nE:W2
 | .int i,.int j,C,Q=>Q (.bl (decide (i<=j))) C
 | _,_,_,_=>False
def pd:W2
 | .int i,.int j,C,Q=>Q (.bl (decide (j<i))) C
 | _,_,_,_=>False
def nF:W2
 | .int i,.int j,C,Q=>Q (.bl (decide (j<=i))) C
 | _,_,_,_=>False
mutual
def eqT:T->T->Bool
 | .non,.non=>true
 | .bl a,.bl b=>a==b
 | .bl a,.int b=>(if a then 1 else 0)==b
 | .int a,.bl b=>a==(if b then 1 else 0)
 | .int a,.int b=>a==b
 | .str a,.str b=>a==b
 | .tup xs,.tup ys=>Vd xs ys
 | _,_=>false
def Vd:List T->List T->Bool
 | [],[]=>true
 | x::xs,y::ys=>eqT x y&&Vd xs ys
 | _,_=>false
end
mutual
def Jy:T->Nat->Bool
 | .tup xs,n+1=>Y4 xs n
 | .tup _,0=>false
 | .ref _,_=>false
 | .cl _,_=>false
 | _,_=>true
def Y4:List T->Nat->Bool
 | [],_=>true
 | x::xs,n=>Jy x n&&Y4 xs n
end
def Ve:Nat:=100
def Yv (x:T):Prop:=Jy x Ve=true
def Nf (neg:Bool):W2
 | .ref a,.ref b,C,Q=>∃xs ys,C a=some (.lst xs)/\C b=some (.lst ys)/\(xs.length=ys.length->Y4 xs Ve=true/\Y4 ys Ve=true)/\Q (.bl (if neg then !Vd xs ys else Vd xs ys)) C
 | .ref a,y,C,Q=>(∃xs,C a=some (.lst xs))/\Yv y/\Q (.bl neg) C
 | x,.ref b,C,Q=>(∃ys,C b=some (.lst ys))/\Yv x/\Q (.bl neg) C
 | x,y,C,Q=>Yv x/\Yv y/\Q (.bl (if neg then !eqT x y else eqT x y)) C
abbrev xG:W2:=Nf false
abbrev xF:W2:=Nf true
def pc:W2:=λx y C Q=>y=.non/\Q (.bl (match x with | .non=>true | _=>false)) C
def tR:W2:=λx y C Q=>y=.non/\Q (.bl (match x with | .non=>false | _=>true)) C
def Pt (x:T)(xs:List T):Bool:=xs.any λy=>eqT y x
def Lx (neg:Bool):W2
 | .str i,.str j,C,Q=>Q (.bl (if neg then(!(!(Builtin.Str.occurrences j i 0 j.length 1).isEmpty)) else(!(Builtin.Str.occurrences j i 0 j.length 1).isEmpty))) C
 | x,.tup ys,C,Q=>Yv x/\Y4 ys Ve=true/\Q (.bl (if neg then !Pt x ys else Pt x ys)) C
 | x,.cl ys,C,Q=>Yv x/\Y4 ys Ve=true/\Q (.bl (if neg then !Pt x ys else Pt x ys)) C
 | x,.ref a,C,Q=>∃ys,C a=some (.lst ys)/\Yv x/\Y4 ys Ve=true/\Q (.bl (if neg then !Pt x ys else Pt x ys)) C
 | _,_,_,_=>False
abbrev wD:W2:=Lx false
abbrev U1:W2:=Lx true
def Ef {α:Type}(xs:List α)(lo hi:Option Int):List α:=(xs.drop (HT.sIx xs.length 0 lo)).take (HT.sIx xs.length xs.length hi-HT.sIx xs.length 0 lo)
def S6:W2
 | .tup xs,.int i,C,Q=>∃v,Ub xs i=some v/\Q v C
 | .cl xs,.int i,C,Q=>∃v,Ub xs i=some v/\Q v C
 | .str z,.int i,C,Q=>z.length<=sizeLine/\∃c,Ub z.cps.toList i=some c/\Q (.str ⟨#[c]⟩) C
 | .ref a,.int i,C,Q=>∃xs v,C a=some (.lst xs)/\Ub xs i=some v/\Q v C
 | _,_,_,_=>False
def rq:Sw->Hw->(Option Int->Hw->Prop)->WX->Prop:=λ_ C Q _=>Q none C
def Hh (a:WE):Sw->Hw->(Option Int->Hw->Prop)->WX->Prop:=λτ C Q χ=>a τ C (λx C1=>∃i,x=.int i/\Q (some i) C1) χ
def qY:T->Option Int->Option Int->Hw->WK->Prop
 | .tup xs,lo,hi,C,Q=>¬(HT.sIx xs.length 0 lo=0/\HT.sIx xs.length xs.length hi=xs.length)/\Q (.tup (Ef xs lo hi)) C
 | .cl xs,lo,hi,C,Q=>∀p,C p=none->Q (.ref p) (up C p (.lst (Ef xs lo hi)))
 | .str z,lo,hi,C,Q=>z.length<=sizeLine/\Q (.str (Txt.slice z lo hi)) C
 | .ref a,lo,hi,C,Q=>∃xs,C a=some (.lst xs)/\∀p,C p=none->Q (.ref p) (up C p (.lst (Ef xs lo hi)))
 | _,_,_,_,_=>False
def rW (a:WE)(lo hi:Sw->Hw->(Option Int->Hw->Prop)->WX->Prop):WE:=λτ C Q χ=>a τ C (λx C1=>lo τ C1 (λl C2=>hi τ C2 (λh C3=>qY x l h C3 Q) χ) χ) χ
def yD:List T->Hw->WK->Prop:=λvs C Q=>∃x,vs=[x]/\match x with
 | .str z=>z.length<=sizeLine/\Q (.int z.length) C
 | .tup xs=>Q (.int xs.length) C
 | .cl xs=>Q (.int xs.length) C
 | .ref a=>∃xs,C a=some (.lst xs)/\Q (.int xs.length) C
 | _=>False
def qj:List T->Hw->WK->Prop:=λvs C Q=>∃i j,vs=[.int i,.int j]/\Q (.int (if j>i then j else i)) C
def oy:List T->Hw->WK->Prop:=λvs C Q=>∃i j,vs=[.int i,.int j]/\Q (.int (if j<i then j else i)) C
def qm:List T->Hw->WK->Prop:=λvs C Q=>∃(a:Addr) (bs:List Bool),vs=[.ref a]/\C a=some (.lst (bs.map T.bl))/\Q (.bl (bs.all id)) C
def yC:List T->Hw->WK->Prop:=λvs C Q=>∃x,vs=[x]/\match x with
 | .tup xs=>Q (.tup xs) C
 | .cl xs=>Q (.tup xs) C
 | .ref a=>∃xs,C a=some (.lst xs)/\Q (.tup xs) C
 | _=>False
def qk:List T->Hw->WK->Prop:=λvs C Q=>∃x,vs=[x]/\match x with
 | .tup xs=>∀p,C p=none->Q (.ref p) (up C p (.lst xs))
 | .cl xs=>∀p,C p=none->Q (.ref p) (up C p (.lst xs))
 | .ref a=>∃xs,C a=some (.lst xs)/\∀p,C p=none->Q (.ref p) (up C p (.lst xs))
 | _=>False
def tE:T->Hw->String->Prop
 | .non,_,n=>n="NoneType"
 | .bl _,_,n=>n="bool"
 | .int _,_,n=>n="int"
 | .str _,_,n=>n="str"
 | .tup _,_,n=>n="tuple"
 | .cl _,_,n=>n="list"
 | .ref a,C,n=>(n="list"/\∃xs,C a=some (.lst xs))\/(n="dict"/\∃kvs,C a=some (.dic kvs))
def Qk (n c:String):Bool:=n==c||(n=="bool"&&c=="int")
def rY (a:WE)(c:String):WE:=λτ C Q χ=>a τ C (λx C1=>∃n,tE x C1 n/\Q (.bl (Qk n c)) C1) χ
def tW:T->Hw->Prop:=λx C=>∃a xs,x=.ref a/\C a=some (.lst xs)
def oO:T->Hw->Prop:=λx _=>∃z,x=.str z
def Dt:T->List T->Hw->WK->Prop:=λx vs C Q=>∃a xs y,x=.ref a/\vs=[y]/\C a=some (.lst xs)/\xs.length<sizeLine/\Q .non (up C a (.lst (xs++[y])))
def rD:T->List T->Hw->WK->Prop:=λx vs C Q=>∃a xs y,x=.ref a/\vs=[]/\C a=some (.lst xs)/\xs[xs.length-1]?=some y/\Q y (up C a (.lst xs.dropLast))
def vW:T->List T->Hw->WK->Prop:=λx vs C Q=>∃a xs i k y,x=.ref a/\vs=[.int i]/\C a=some (.lst xs)/\ -(2^63)<=i/\i<2^63/\seqIndex? i xs.length=some k/\xs[k]?=some y/\Q y (up C a (.lst (xs.eraseIdx k)))
def T5 (i:Nat):WG:=λv τ C Q _=>Q (τ.set i (some v)) C
def zU:yR:=λvs τ C Q _=>vs=[]/\Q τ C
def Ea (g:WG)(gs:yR):yR:=λvs τ C Q χ=>∃v r,vs=v::r/\g v τ C (λτ' C'=>gs r τ' C' Q χ) χ
def nr (gs:yR):WG:=λv τ C Q χ=>∃xs,v=.tup xs/\gs xs τ C Q χ
def mq (o i:WE):WG:=λv τ C Q χ=>o τ C (λx C1=>i τ C1 (λy C2=>∃a xs k j,x=.ref a/\y=.int k/\C2 a=some (.lst xs)/\zO xs.length k=some j/\Q τ (up C2 a (.lst (xs.set j v)))) χ) χ
def Qf:WS:=λD τ C=>D.nx τ C
def Sg (a b:WS):WS:=λD τ C=>a {D with nx:=b D} τ C
def xK (e:WE):WS:=λD τ C=>e τ C (λ_ C1=>D.nx τ C1) D.xc
def Pj (e:WE):WS:=λD τ C=>e τ C D.rt D.xc
def sR:WS:=λD _ C=>D.rt .non C
def jr (c:WT)(a b:WS):WS:=λD τ C=>c τ C (λk C1=>if k=true then a D τ C1 else b D τ C1) D.xc
def W1 (e:WE)(g:WG):WS:=λD τ C=>e τ C (λx C1=>g x τ C1 D.nx D.xc) D.xc
def pG:WS:=λD τ C=>D.bk τ C
def sS:WS:=λD τ C=>D.ct τ C
def vi:WS:=λ_ _ _=>False
def Mu (g:WG)(b:WS)(ok:Hw->Prop)(D:We):List T->Sw->Hw->Prop
 | [],τ,C=>ok C/\D.nx τ C
 | x::xs,τ,C=>ok C/\g x τ C (λτ2 C2=>b {D with nx:=Mu g b ok D xs,ct:=Mu g b ok D xs,bk:=D.nx} τ2 C2) D.xc
def jt (i:WI)(g:WG)(b:WS):WS:=λD τ C=>i τ C (λxs ok C1=>Mu g b ok D xs τ C1) D.xc
def jT (e:WE):WI:=λτ C R χ=>e τ C (λv C1=>match v with
 | .tup xs=>R xs (λ_=>True) C1
 | .cl xs=>R xs (λ_=>True) C1
 | .str z=>R (z.cps.toList.map λc=>T.str ⟨#[c]⟩) (λ_=>True) C1
 | .ref a=>∃xs,C1 a=some (.lst xs)/\R xs (λC2=>C2 a=some (.lst xs)) C1
 | _=>False) χ
def rng (lo:Int)(n:Nat):List T:=(List.range n).map λk:Nat=>T.int (lo+k)
def qJ (a:WA):WI:=λτ C R χ=>a τ C (λvs C1=>∃j:Int,vs=[.int j]/\ -(2^62)<=j/\j<2^62/\R (rng 0 j.toNat) (λ_=>True) C1) χ
def mi (a:WA):WI:=λτ C R χ=>a τ C (λvs C1=>∃i j:Int,vs=[.int i,.int j]/\(-(2^62)<=i/\i<2^62/\ -(2^62)<=j/\j<2^62)/\R (rng i (j-i).toNat) (λ_=>True) C1) χ
def mj (a:WA):WI:=λτ C R χ=>a τ C (λvs C1=>∃z,vs=[.str z]/\R (z.cps.toList.zipIdx.map λc=>T.tup [.int c.2,.str ⟨#[c.1]⟩]) (λ_=>True) C1) χ
def Ic (cap:List (Option Nat))(τ:Sw):Sw:=cap.map λo=>o.bind λi=>(τ[i]?).join
def Cz:WT:=λ_ C Q _=>Q true C
def Tj (g:WG)(c:WT)(e:WE)(ok:Hw->Prop)(τ:Sw)(Q:List T->Hw->Prop)(χ:WX):List T->List T->Hw->Prop
 | [],acc,C=>ok C/\Q acc C
 | x::xs,acc,C=>ok C/\g x τ C (λτ2 C2=>c τ2 C2 (λb C3=>if b=true then e τ2 C3 (λv C4=>acc.length<sizeLine/\Tj g c e ok τ Q χ xs (acc++[v]) C4) χ else Tj g c e ok τ Q χ xs acc C3) χ) χ
def Qp (cap:List (Option Nat))(i:WI)(g:WG)(c:WT)(e:WE):WE:=λτ C Q χ=>i τ C (λxs ok C1=>Tj g c e ok (Ic cap τ) (λvs C2=>∀p,C2 p=none->Q (.ref p) (up C2 p (.lst vs))) χ xs [] C1) χ
structure Df where
 n:Nat
 ar:Nat
 body:Calls->WS
def Xo (pr:List Df):Nat->Calls
 | 0=>λ_ _ _ _ _=>False
 | n+1=>λi vs C Q χ=>∃d,pr[i]?=some d/\vs.length=d.ar/\d.body (Xo pr n) (ZUD Q χ) (vs.map some++List.replicate (d.n-d.ar) none) C
section
variable {X:Cx}{pins:List (Addr×Obj)}{σ:L2.St}{H:Hp}{s:Shared}
def sc:T->Option V
 | .non=>some .non
 | .bl b=>some (.bl b)
 | .int i=>some (.int i)
 | .str z=>some (.str z)
 | _=>none
def Xs {K:W.Frag}{H:Hp}{x z:V}{v:T}(h:sc v=some z)(r:Jg K H x v):x=z/\Hy z=true:=by
 cases v with
 | non=>cases h;exact⟨Kq r,rfl⟩
 | bl b=>cases h;exact⟨Qh r,rfl⟩
 | int i=>cases h;exact⟨Yh r,rfl⟩
 | str z=>cases h;exact⟨Yu r,rfl⟩
 | _=>cases h
def yk {v w:T}{a b:V}(h:sc v=some a)(h':sc w=some b):eqT v w=u9 a b:=by
 cases v<;>cases w<;>cases h<;>cases h'<;>unfold eqT<;>rfl
mutual
def Gc:∀(v:T) {n:Nat},Jy v n=true->eqT v v=true
 | .non,_,_=>by unfold eqT;rfl
 | .bl b,_,_=>by unfold eqT;simp
 | .int b,_,_=>by unfold eqT;simp
 | .str b,_,_=>by unfold eqT;simp
 | .tup xs,0,h=>by unfold Jy at h;cases h
 | .tup xs,n+1,h=>by unfold Jy at h;unfold eqT;exact Lj xs h
 | .ref a,_,h=>by unfold Jy at h;cases h
 | .cl a,_,h=>by unfold Jy at h;cases h
def Lj:∀(v:List T) {n:Nat},Y4 v n=true->Vd v v=true
 | [],_,_=>by unfold Vd;rfl
 | x::xs,n,h=>by
  unfold Y4 at h
  rw[Bool.and_eq_true] at h
  unfold Vd
  rw[Gc x h.1,Lj xs h.2];rfl
end
def J2 {v:T}{n:Nat}(h:Jy v n=true)(e:sc v=none):∃ts m,v=.tup ts/\n=m+1/\Y4 ts m=true:=by
 cases v with
 | tup ts=>
  cases n with
  | zero=>unfold Jy at h;cases h
  | succ m=>unfold Jy at h;exact⟨ts,m,rfl,rfl,h⟩
 | ref a=>unfold Jy at h;cases h
 | cl a=>unfold Jy at h;cases h
 | non=>cases e
 | bl b=>cases e
 | int b=>cases e
 | str b=>cases e
def Xg:∀{vs:List T} {n i:Nat} {v:T},Y4 vs n=true->vs[i]?=some v->Jy v n=true
 | [],_,_,_,_,e=>by simp at e
 | x::xs,n,0,v,h,e=>by
  unfold Y4 at h
  rw[Bool.and_eq_true] at h
  simp at e;subst e;exact h.1
 | x::xs,n,i+1,v,h,e=>by
  unfold Y4 at h
  rw[Bool.and_eq_true] at h
  exact Xg h.2 (by simpa using e)
def Dh (I:Zm X pins σ H s):∀(n:Nat) {v w:T} {x:V},Jy v n=true->Jy w n=true->Jg X.K H x v->Jg X.K H x w->v=w:=by
 intro n
 induction n with
 | zero=>
  intro v w x fv fw rv rw'
  cases ev:sc v with
  | none=>obtain⟨_,_,_,h,_⟩:=J2 fv ev;cases h
  | some a=>
   cases ew:sc w with
   | none=>obtain⟨_,_,_,h,_⟩:=J2 fw ew;cases h
   | some b=>
    obtain⟨e1,_⟩:=Xs ev rv
    obtain⟨e2,_⟩:=Xs ew rw'
    have e:a=b:=e1.symm.trans e2
    subst e
    cases v<;>cases ev<;>cases w<;>cases ew<;>rfl
 | succ n ih=>
  intro v w x fv fw rv rw'
  have lists:∀{ys:List V} {vs ws:List T},Y4 vs n=true->Y4 ws n=true->Reps X.K H ys vs->Reps X.K H ys ws->vs=ws:=by
   intro ys vs
   induction vs generalizing ys with
   | nil=>
    intro ws _ _ a b
    have:=Wv a
    subst this
    cases ws with
    | nil=>rfl
    | cons w ws=>obtain⟨_,_,e,_⟩:=Jt b;cases e
   | cons v vs ihv=>
    intro ws fa fb a b
    obtain⟨y,r,rfl,a1,a2⟩:=Jt a
    cases ws with
    | nil=>have:=Wv b;cases this
    | cons w ws=>
     obtain⟨y',r',e,b1,b2⟩:=Jt b
     cases e
     unfold Y4 at fa fb
     rw[Bool.and_eq_true] at fa fb
     rw[ih fa.1 fb.1 a1 b1,ihv fa.2 fb.2 a2 b2]
  cases ev:sc v with
  | none=>
   obtain⟨ts,m,rfl,em,ft⟩:=J2 fv ev
   cases em
   obtain⟨a,ys,rfl,hq,r⟩:=Y0 rv
   cases ew:sc w with
   | none=>
    obtain⟨us,m',rfl,em,fu⟩:=J2 fw ew
    cases em
    obtain⟨b,zs,e,hq',r'⟩:=Y0 rw'
    cases e
    have e:=I.tuple_inj hq hq'
    subst e
    rw[lists ft fu r r']
   | some b=>
    obtain⟨e2,f⟩:=Xs ew rw'
    subst e2
    cases f
  | some a=>
   obtain⟨e1,f⟩:=Xs ev rv
   cases ew:sc w with
   | none=>
    obtain⟨us,m',rfl,em,fu⟩:=J2 fw ew
    obtain⟨b,zs,e,hq',r'⟩:=Y0 rw'
    subst e1
    subst e
    cases f
   | some b=>
    obtain⟨e2,_⟩:=Xs ew rw'
    have e:a=b:=e1.symm.trans e2
    subst e
    cases v<;>cases ev<;>cases w<;>cases ew<;>rfl
def yQ (ts us:List T)(j:Nat):Bool:=match ts[j]?,us[j]? with
 | some a,some b=>eqT a b
 | _,_=>true
def Ww:∀(vs ws:List T),((List.range (min vs.length ws.length)).all (yQ vs ws)&&vs.length==ws.length)=Vd vs ws
 | [],[]=>by unfold Vd;rfl
 | [],_::_=>by unfold Vd;simp
 | _::_,[]=>by unfold Vd;simp
 | v::vs,w::ws=>by
  unfold Vd
  rw[<-Ww vs ws]
  rw[YF,YF,show min (vs.length+1) (ws.length+1)=min vs.length ws.length+1 by omega,List.range_succ_eq_map,List.all_cons,List.all_map]
  have e1:yQ (v::vs) (w::ws) 0=eqT v w:=rfl
  have e2:(yQ (v::vs) (w::ws)∘Nat.succ)=yQ vs ws:=by funext j;simp[Function.comp_def,yQ]
  rw[e1,e2]
  simp[Bool.and_assoc]
def xX (I:Zm X pins σ H s):∀(n:Nat) {v w:T} {x y:V} {u u':Value} {A:Around},Jy v n=true->Jy w n=true->Jg X.K H x v->Jg X.K H y w->Z3 x u->Z3 y u'->A.units+n<cLine->
  SeqAt.EqAt A s u u' (eqT v w):=by
 intro n
 induction n with
 | zero=>
  intro v w x y u u' A fv fw rv rw' ru ru' hu
  cases ev:sc v with
  | none=>obtain⟨_,_,_,h,_⟩:=J2 fv ev;cases h
  | some a=>
   cases ew:sc w with
   | none=>obtain⟨_,_,_,h,_⟩:=J2 fw ew;cases h
   | some b=>
    obtain⟨rfl,f1⟩:=Xs ev rv
    obtain⟨rfl,f2⟩:=Xs ew rw'
    rw[yk ev ew]
    exact yl ru ru' f1 f2
 | succ n ih=>
  intro v w x y u u' A fv fw rv rw' ru ru' hu
  have hu0:A.units<cLine:=by omega
  cases ev:sc v with
  | some a=>
   obtain⟨rfl,f1⟩:=Xs ev rv
   cases ew:sc w with
   | some b=>
    obtain⟨rfl,f2⟩:=Xs ew rw'
    rw[yk ev ew]
    exact yl ru ru' f1 f2
   | none=>
    obtain⟨ts,m,rfl,em,ft⟩:=J2 fw ew
    obtain⟨b,zs,rfl,hq,r⟩:=Y0 rw'
    cases ru'
    obtain⟨its,_,p,_⟩:=I.tuple hq
    cases v with
    | non=>cases ev;cases ru;unfold eqT;exact SeqAt.EqAt.none_tuple p hu0
    | bl c=>cases ev;cases ru;unfold eqT;exact SeqAt.EqAt.bool_tuple c p hu0
    | int i=>cases ev;obtain⟨t,rfl⟩:=ru;unfold eqT;exact SeqAt.EqAt.int_tuple i t p hu0
    | str i=>cases ev;obtain⟨t,rfl⟩:=ru;unfold eqT;exact SeqAt.EqAt.str_tuple i t p hu0
    | _=>cases ev
  | none=>
   obtain⟨ts,m,rfl,em,ft⟩:=J2 fv ev
   cases em
   obtain⟨a,ys,rfl,hq,r⟩:=Y0 rv
   cases ru
   obtain⟨its,rI,p,_⟩:=I.tuple hq
   cases ew:sc w with
   | some b=>
    obtain⟨rfl,f2⟩:=Xs ew rw'
    cases w with
    | non=>cases ew;cases ru';unfold eqT;exact SeqAt.EqAt.tuple_none p hu0
    | bl c=>cases ew;cases ru';unfold eqT;exact SeqAt.EqAt.tuple_bool c p hu0
    | int i=>cases ew;obtain⟨t,rfl⟩:=ru';unfold eqT;exact SeqAt.EqAt.tuple_int i t p hu0
    | str i=>cases ew;obtain⟨t,rfl⟩:=ru';unfold eqT;exact SeqAt.EqAt.tuple_str i t p hu0
    | _=>cases ew
   | none=>
    obtain⟨us,m',rfl,em,fu⟩:=J2 fw ew
    cases em
    obtain⟨b,zs,rfl,hq',r'⟩:=Y0 rw'
    cases ru'
    obtain⟨its',rI',p',_⟩:=I.tuple hq'
    by_cases hne:a=b
    ·subst hne
     have e:=Dh I (n+1) fv fw (Xj hq r) (Xj hq' r')
     rw[e,Gc _ fw]
     exact SeqAt.EqAt.same _
    ·have l1:its.toArray.size=ts.length:=by rw[XJ,<-rI.length,r.length]
     have l2:its'.toArray.size=us.length:=by rw[XJ,<-rI'.length,r'.length]
     have key:=SeqAt.EqAt.of_refs hne (SeqAt.RcAt.tuples (A:=A) (e:=yQ ts us) p p' hu0 (λj h1 h2=>by
      have i1:ts[j]?=some (ts[j]'(by omega)):=by simp[l1▸h1]
      have i2:us[j]?=some (us[j]'(by omega)):=by simp[l2▸h2]
      obtain⟨x1,g1,q1⟩:=r.get i1
      obtain⟨x2,g2,q2⟩:=r'.get i2
      obtain⟨u1,k1,z1⟩:=rI.get g1
      obtain⟨u2,k2,z2⟩:=rI'.get g2
      have e1:its.toArray[j]=u1:=by
       have:its[j]?=some its.toArray[j]:=by simp
       rw[k1] at this;exact(YH this).symm
      have e2:its'.toArray[j]=u2:=by
       have:its'[j]?=some its'.toArray[j]:=by simp
       rw[k2] at this;exact(YH this).symm
      rw[e1,e2]
      unfold yQ
      simp only[i1,i2]
      exact ih (Xg ft i1) (Xg fu i2) q1 q2 z1 z2 (by show A.units+1+n<cLine;omega)))
     rw[l1,l2,Ww] at key
     unfold eqT
     exact key
end
def Jz (K:W.Frag)(H:Hp)(σ:L2.St)(τ:Sw):Prop:=σ.length=τ.length/\∀(i:Nat) (v:T),τ[i]?=some (some v)->∃x,σ[i]?=some (some x)/\Jg K H x v
def Jz.tx {K:W.Frag}{H H':Hp}{σ:L2.St}{τ:Sw}(h:Jz K H σ τ)(t:Tx H H'):Jz K H' σ τ:=⟨h.1,λi v e=>let ⟨x,a,b⟩:=h.2 i v e;⟨x,a,b.tx t⟩⟩
def Jz.set {K:W.Frag}{H:Hp}{σ:L2.St}{τ:Sw}(h:Jz K H σ τ){i:Nat}{x:V}{v:T}(r:Jg K H x v):Jz K H (σ.set i (some x)) (τ.set i (some v)):=by
 refine⟨by rw[List.length_set,List.length_set];exact h.1,λj w e=>?_⟩
 by_cases hj:i=j
 ·subst hj
  by_cases hi:i<τ.length
  ·rw[List.getElem?_set_self hi] at e
   cases e
   exact⟨x,List.getElem?_set_self (by rw[h.1];exact hi),r⟩
  ·rw[List.getElem?_eq_none (by rw[List.length_set];omega)] at e
   cases e
 ·rw[List.getElem?_set_ne hj] at e |-
  exact h.2 j w e
abbrev QE (K:W.Frag)(F H:Hp)(Q:VK)(Q':WK):Prop:=∀x v H' C',Rl K F H' C'->Tx H H'->Jg K H' x v->Q' v C'->Q x H'
abbrev QT (K:W.Frag)(F H:Hp)(Q:Bool->Hp->Prop)(Q':Bool->Hw->Prop):Prop:=∀b H' C',Rl K F H' C'->Tx H H'->Q' b C'->Q b H'
abbrev QA (K:W.Frag)(F H:Hp)(Q:List V->Hp->Prop)(Q':List T->Hw->Prop):Prop:=∀xs vs H' C',Rl K F H' C'->Tx H H'->Reps K H' xs vs->Q' vs C'->Q xs H'
def QE.at {K:W.Frag}{F H H1:Hp}{Q:VK}{Q':WK}(q:QE K F H Q Q')(t:Tx H H1):QE K F H1 Q Q':=λx v H' C' R t'=>q x v H' C' R (t.trans t')
def Wz (K:W.Frag)(te:TE)(we:WE):Prop:=∀(F H:Hp) (C:Hw) (σ:L2.St) (τ:Sw) (Q:VK) (Q':WK) (χ:WX),Rl K F H C->Jz K H σ τ->we τ C Q' χ->QE K F H Q Q'->te σ H Q
def P7 (K:W.Frag)(te:TT)(we:WT):Prop:=∀(F H:Hp) (C:Hw) (σ:L2.St) (τ:Sw) (Q:Bool->Hp->Prop) (Q':Bool->Hw->Prop) (χ:WX),Rl K F H C->Jz K H σ τ->we τ C Q' χ->QT K F H Q Q'->te σ H Q
def Il (K:W.Frag)(te:TA)(we:WA):Prop:=∀(F H:Hp) (C:Hw) (σ:L2.St) (τ:Sw) (Q:List V->Hp->Prop) (Q':List T->Hw->Prop) (χ:WX),Rl K F H C->Jz K H σ τ->we τ C Q' χ->QA K F H Q Q'->te σ H Q
def uX (K:W.Frag)(r:R2)(w:W2):Prop:=∀(F H:Hp) (C:Hw) (x y:V) (v u:T) (Q:VK) (Q':WK),Rl K F H C->Jg K H x v->Jg K H y u->w v u C Q'->QE K F H Q Q'->r x y H Q
def qu (K:W.Frag)(r:List V->Hp->VK->Prop)(w:List T->Hw->WK->Prop):Prop:=∀(F H:Hp) (C:Hw) (xs:List V) (vs:List T) (Q:VK) (Q':WK),Rl K F H C->Reps K H xs vs->w vs C Q'->QE K F H Q Q'->r xs H Q
def o8 (K:W.Frag)(r:V->List V->Hp->VK->Prop)(w:T->List T->Hw->WK->Prop):Prop:=∀(F H:Hp) (C:Hw) (x:V) (v:T) (xs:List V) (vs:List T) (Q:VK) (Q':WK),Rl K F H C->Jg K H x v->Reps K H xs vs->w v vs C Q'->QE K F H Q Q'->r x xs H Q
def o7 (K:W.Frag)(r:V->Hp->VK->Prop)(w:T->Hw->WK->Prop):Prop:=∀(F H:Hp) (C:Hw) (x:V) (v:T) (Q:VK) (Q':WK),Rl K F H C->Jg K H x v->w v C Q'->QE K F H Q Q'->r x H Q
def Jw (X:Cx)(e:Expr)(w:WE):Prop:=∃t,PE X e t/\Wz X.K t w
def Ar (X:Cx)(e:Expr)(w:WT):Prop:=∃t,PT X e t/\P7 X.K t w
def uZ (X:Cx)(e:Expr)(w:WT):Prop:=∃t,PW X e t/\P7 X.K t w
def Mj (X:Cx)(es:List Expr)(w:WA):Prop:=∃t,PA X es t/\Il X.K t w
def G4 (X:Cx)(f:Value->Value->Sem Value)(w:W2):Prop:=∃r,O8 X f r/\uX X.K r w
def mI (X:Cx)(w:W2):Prop:=∃r,yT X r/\uX X.K r w
def Os (X:Cx)(f:Value)(w:List T->Hw->WK->Prop):Prop:=∃r,Xb X f r/\qu X.K r w
def qw (X:Cx)(id:String)(w:T->List T->Hw->WK->Prop):Prop:=∃r,qx X id r/\o8 X.K r w
section
variable {K:W.Frag}{ta tb tc:TE}{wa wb wc:WE}{r r':R2}{w w':W2}
def sD {i:Nat}:Wz K (tX i) (Zu i):=λF H C σ τ Q Q' χ R S h q=>by
 obtain⟨v,e,h⟩:=h
 obtain⟨x,ex,rx⟩:=S.2 i v e
 exact⟨x,ex,q x v H C R (Tx.refl H) rx h⟩
def tF {x:V}{v:T}(h:∀H,Jg K H x v):Wz K (tC x) (eC v):=λF H C σ τ Q Q' χ R S w q=>q x v H C R (Tx.refl H) (h H) w
def jp (ha:Wz K ta wa)(hb:Wz K tb wb)(hr:uX K r w):Wz K (sf r ta tb) (Yo w wa wb):=λF H C σ τ Q Q' χ R S h q=>by
 refine ha F H C σ τ _ _ χ R S h λx v H1 C1 R1 t1 rx h1=>?_
 refine hb F H1 C1 σ τ _ _ χ R1 (S.tx t1) h1 λy u H2 C2 R2 t2 ry h2=>?_
 exact hr F H2 C2 x y v u Q Q' R2 (rx.tx t2) ry h2 (QE.at q (t1.trans t2))
def pB {r:V->Hp->VK->Prop}{w:T->Hw->WK->Prop}(ha:Wz K ta wa)(hr:o7 K r w):Wz K (oQ r ta) (uB w wa):=λF H C σ τ Q Q' χ R S h q=>by
 refine ha F H C σ τ _ _ χ R S h λx v H1 C1 R1 t1 rx h1=>?_
 exact hr F H1 C1 x v Q Q' R1 rx h1 (QE.at q t1)
def sH:Il K wN Jl:=λF H C σ τ Q Q' χ R S h q=>q [] [] H C R (Tx.refl H) Ys h
def Kk {t:TA}{wt:WA}(ha:Wz K ta wa)(hb:Il K t wt):Il K (M3 ta t) (Z2 wa wt):=λF H C σ τ Q Q' χ R S h q=>by
 refine ha F H C σ τ _ _ χ R S h λx v H1 C1 R1 t1 rx h1=>?_
 exact hb F H1 C1 σ τ _ _ χ R1 (S.tx t1) h1 λxs vs H2 C2 R2 t2 rs h2=>q (x::xs) (v::vs) H2 C2 R2 (t1.trans t2) (Zq (rx.tx t2) rs) h2
def sE {t:TA}{wt:WA}(ha:Il K t wt):Wz K (tY t) (Gg wt):=λF H C σ τ Q Q' χ R S h q=>by
 refine ha F H C σ τ _ _ χ R S h λxs vs H1 C1 R1 t1 rs h1=>⟨by rw[rs.length];exact h1.1,λp hp=>?_⟩
 exact q _ _ _ C1 (R1.hid hp) (t1.trans (Tx.new hp)) (Xj (Uc.of Yy) (rs.tx (Tx.new hp))) h1.2
def sI {t:TA}{wt:WA}(ha:Il K t wt):Wz K (su t) (ym wt):=λF H C σ τ Q Q' χ R S h q=>by
 refine ha F H C σ τ _ _ χ R S h λxs vs H1 C1 R1 t1 rs h1=>⟨by rw[rs.length];exact h1.1,λp hp=>?_⟩
 exact q _ _ _ _ (R1.newL hp rs) (t1.trans (Tx.new hp)) Xw (h1.2 p (R1.free hp))
def sM {r:List V->Hp->VK->Prop}{w:List T->Hw->WK->Prop}{t:TA}{wt:WA}(hr:qu K r w)(ha:Il K t wt):Wz K (p8 r t) (uE w wt):=λF H C σ τ Q Q' χ R S h q=>by
 refine ha F H C σ τ _ _ χ R S h λxs vs H1 C1 R1 t1 rs h1=>?_
 exact hr F H1 C1 xs vs Q Q' R1 rs h1 (QE.at q t1)
def sO (ha:Wz K ta wa)(hb:Wz K tb wb):Wz K (xJ ta tb) (uF wa wb):=λF H C σ τ Q Q' χ R S h q=>by
 refine ha F H C σ τ _ _ χ R S h λx v H1 C1 R1 t1 rx h1=>?_
 obtain⟨k,rfl,h1⟩:=h1
 refine⟨k,Qh rx,?_⟩
 cases k with
 | true=>exact hb F H1 C1 σ τ Q Q' χ R1 (S.tx t1) h1 (QE.at q t1)
 | false=>exact q _ _ H1 C1 R1 t1 Jb h1
def pC (ha:Wz K ta wa)(hb:Wz K tb wb):Wz K (se ta tb) (oi wa wb):=λF H C σ τ Q Q' χ R S h q=>by
 refine ha F H C σ τ _ _ χ R S h λx v H1 C1 R1 t1 rx h1=>?_
 obtain⟨k,rfl,h1⟩:=h1
 refine⟨k,Qh rx,?_⟩
 cases k with
 | true=>exact q _ _ H1 C1 R1 t1 Jb h1
 | false=>exact hb F H1 C1 σ τ Q Q' χ R1 (S.tx t1) h1 (QE.at q t1)
def pE (ha:Wz K ta wa):P7 K (xH ta) (Fb wa):=λF H C σ τ Q Q' χ R S h q=>by
 refine ha F H C σ τ _ _ χ R S h λx v H1 C1 R1 t1 rx h1=>?_
 obtain⟨k,rfl,h1⟩:=h1
 exact⟨k,Qh rx,q k H1 C1 R1 t1 h1⟩
def sF (ha:Wz K ta wa):P7 K (λσ H Q=>ta σ H λx H'=>∃k,uW K x H' k/\Q k H') (Mp wa):=λF H C σ τ Q Q' χ R S h q=>by
 refine ha F H C σ τ _ _ χ R S h λx v H1 C1 R1 t1 rx h1=>?_
 obtain⟨k,hk,h1⟩:=h1
 refine⟨k,?_,q k H1 C1 R1 t1 h1⟩
 have emp:∀{ys:List V} {xs:List T},Reps K H1 ys xs->ys.isEmpty=xs.isEmpty:=λ{ys xs} r=>by
  have:=r.length
  cases ys<;>cases xs<;>simp_all
 cases v with
 | non=>cases Kq rx;exact hk
 | bl b=>cases Qh rx;exact hk
 | int i=>cases Yh rx;exact hk
 | str z=>cases Yu rx;exact hk
 | tup xs=>
  obtain⟨a,ys,rfl,hq,r⟩:=Y0 rx
  refine .inr (.inl ⟨ys,hq,?_⟩)
  rw[emp r];exact hk
 | cl xs=>
  obtain⟨a,ys,rfl,hq,r⟩:=Ol rx
  refine .inl ⟨ys,hq.sq,?_⟩
  rw[emp r];exact hk
 | ref a=>
  cases Yl rx
  rcases hk with⟨xs,hx,e⟩ | ⟨kvs,hx,e⟩
  ·obtain⟨ys,hy,r⟩:=R1.lst hx
   refine .inl ⟨ys,Xz.of hy,?_⟩
   rw[emp r];exact e
  ·obtain⟨ks,hy,r⟩:=R1.obj a _ hx
   refine .inr (.inr ⟨ks,hy,?_⟩)
   have:=Paired.length r
   rw[e]
   cases ks<;>cases kvs<;>simp_all
def pF {t u:TT}{w w':WT}(ha:P7 K t w)(hb:P7 K u w'):P7 K (sy t u) (wQ w w'):=λF H C σ τ Q Q' χ R S h q=>by
 refine ha F H C σ τ _ _ χ R S h λk H1 C1 R1 t1 h1=>?_
 cases k with
 | true=>exact hb F H1 C1 σ τ Q Q' χ R1 (S.tx t1) h1 λb H' C' R' t'=>q b H' C' R' (t1.trans t')
 | false=>exact q _ H1 C1 R1 t1 h1
def sG {t u:TT}{w w':WT}(ha:P7 K t w)(hb:P7 K u w'):P7 K (oR t u) (Ix w w'):=λF H C σ τ Q Q' χ R S h q=>by
 refine ha F H C σ τ _ _ χ R S h λk H1 C1 R1 t1 h1=>?_
 cases k with
 | true=>exact q _ H1 C1 R1 t1 h1
 | false=>exact hb F H1 C1 σ τ Q Q' χ R1 (S.tx t1) h1 λb H' C' R' t'=>q b H' C' R' (t1.trans t')
def pD {t:TT}{w:WT}(ha:P7 K t w):P7 K (sj t) (pv w):=λF H C σ τ Q Q' χ R S h q=>by
 refine ha F H C σ τ _ _ χ R S h λk H1 C1 R1 t1 h1=>?_
 exact q _ H1 C1 R1 t1 h1
end
section
variable {X:Cx}
def Yc:G4 X (binaryOp .Add) Sf:=⟨_,vP.or (Fy.or (vO.or (zC.or jG))),λF H C x y v u Q Q' R rx ry h q=>by
 cases v<;>cases u<;>first | exact False.elim h | skip
 case int.int i j=>cases Yh rx;cases Yh ry;exact .inl ⟨i,j,rfl,rfl,q _ _ H C R (Tx.refl H) Yq h⟩
 case str.str i j=>cases Yu rx;cases Yu ry;exact .inr (.inl ⟨i,j,rfl,rfl,h.1,q _ _ H C R (Tx.refl H) Zt h.2⟩)
 case ref.ref a b=>
  cases Yl rx;cases Yl ry
  obtain⟨xs,ys,ha,hb,hl,h⟩:=h
  obtain⟨zs,hz,rz⟩:=R.lst ha
  obtain⟨ws,hw,rw'⟩:=R.lst hb
  exact .inr (.inr (.inl ⟨a,b,zs,ws,rfl,rfl,hz,hw,by rw[rz.length,rw'.length];exact hl,λp hp=>q _ _ _ _ (R.newL hp (rz.app rw')) (Tx.new hp) Xw (h p (R.free hp))⟩))
 case tup.tup xs ys=>
  obtain⟨a,zs,rfl,hz,rz⟩:=Y0 rx
  obtain⟨b,ws,rfl,hw,rw'⟩:=Y0 ry
  by_cases e:zs=[]
  ·subst e
   have e2:xs=[]:=by
    have:=rz.length
    cases xs with
    | nil=>rfl
    | cons _ _=>cases this
   subst e2
   exact .inr (.inr (.inr (.inl ⟨a,b,ws,rfl,rfl,hz,hw,q _ _ H C R (Tx.refl H) (Xj hw rw') h.2⟩)))
  ·refine .inr (.inr (.inr (.inr ⟨a,b,zs,ws,rfl,rfl,hz,hw,e,by rw[rz.length,rw'.length];exact h.1,λe2=>?_,λe2 p hp=>?_⟩)))
   ·subst e2
    have e3:ys=[]:=by
     have:=rw'.length
     cases ys with
     | nil=>rfl
     | cons _ _=>cases this
    subst e3
    refine q _ _ H C R (Tx.refl H) (Xj hz rz) ?_
    have:=h.2
    rw[YK] at this
    exact this
   ·exact q _ _ _ C (R.hid hp) (Tx.new hp) (Xj (Uc.of Yy) ((rz.app rw').tx (Tx.new hp))) h.2⟩
def Dq:G4 X (binaryOp .Mult) tS:=⟨_,vM,λF H C x y v u Q Q' R rx ry h q=>by
 cases v<;>cases u<;>first | exact False.elim h | skip
 case int.int i j=>cases Yh rx;cases Yh ry;exact⟨i,j,rfl,rfl,h.1,q _ _ H C R (Tx.refl H) Yq h.2⟩⟩
def Sl:G4 X (binaryOp .FloorDiv) A2:=⟨_,jF,λF H C x y v u Q Q' R rx ry h q=>by
 cases v<;>cases u<;>first | exact False.elim h | skip
 case int.int i j=>cases Yh rx;cases Yh ry;exact⟨i,j,rfl,rfl,h.1,q _ _ H C R (Tx.refl H) Yq h.2⟩⟩
def J3:G4 X (binaryOp .Mod) Cu:=⟨_,vN,λF H C x y v u Q Q' R rx ry h q=>by
 cases v<;>cases u<;>first | exact False.elim h | skip
 case int.int i j=>cases Yh rx;cases Yh ry;exact⟨i,j,rfl,rfl,h.1,q _ _ H C R (Tx.refl H) Yq h.2⟩⟩
def Hg:G4 X (binaryOp .Pow) tQ:=⟨_,vL,λF H C x y v u Q Q' R rx ry h q=>by
 cases v<;>cases u<;>first | exact False.elim h | skip
 case int.int i j=>cases Yh rx;cases Yh ry;exact⟨i,j,rfl,rfl,h.1,q _ _ H C R (Tx.refl H) Yq h.2⟩⟩
def Br:G4 X (compareOp .Lt) oM:=⟨_,rk.or Bo,λF H C x y v u Q Q' R rx ry h q=>by
 cases v<;>cases u<;>first | exact False.elim h | skip
 case int.int i j=>cases Yh rx;cases Yh ry;exact .inl ⟨i,j,rfl,rfl,q _ _ H C R (Tx.refl H) Jb h⟩
 case str.str i j=>cases Yu rx;cases Yu ry;exact .inr ⟨i,j,rfl,rfl,q _ _ H C R (Tx.refl H) Jb h⟩⟩
def Ks:G4 X (compareOp .Gt) pd:=⟨_,rl,λF H C x y v u Q Q' R rx ry h q=>by
 cases v<;>cases u<;>first | exact False.elim h | skip
 case int.int i j=>cases Yh rx;cases Yh ry;exact⟨i,j,rfl,rfl,q _ _ H C R (Tx.refl H) Jb h⟩⟩
def pN (X:Cx)(f:Value->Value->Sem Value):R2:=λx y H Q=>∀(pins:List (Addr×Obj)) (s:Shared) (σ:L2.St) (v u:Value),Zm X pins σ H s->Z3 x v->Z3 y u->wpAny (model X.prog X.w) X.A (f v u) (EP X pins σ Q) X.xe s
def Fx {f:Value->Value->Sem Value}:O8 X f (pN X f):=λpins s σ H x y v u Q I rx ry h=>h pins s σ v u I rx ry
def Hm {pins:List (Addr×Obj)}{σ:L2.St}{H:Hp}{s:Shared}{A:Around}{n:Nat}{ts us:List T}{ys zs:List V}{its its':List Value}(I:Zm X pins σ H s)(r:Reps X.K H ys ts)(r':Reps X.K H zs us)(rI:Zx ys its)(rI':Zx zs its')
  (f:Y4 ts n=true) (f':Y4 us n=true) (hu:A.units+n<cLine):
  ∀j (h1:j<its.toArray.size) (h2:j<its'.toArray.size),SeqAt.EqAt A s its.toArray[j] its'.toArray[j] (yQ ts us j):=λj h1 h2=>by
 have l1:its.toArray.size=ts.length:=by rw[XJ,<-rI.length,r.length]
 have l2:its'.toArray.size=us.length:=by rw[XJ,<-rI'.length,r'.length]
 have i1:ts[j]?=some (ts[j]'(by omega)):=by simp[l1▸h1]
 have i2:us[j]?=some (us[j]'(by omega)):=by simp[l2▸h2]
 obtain⟨x1,g1,q1⟩:=r.get i1
 obtain⟨x2,g2,q2⟩:=r'.get i2
 obtain⟨u1,k1,z1⟩:=rI.get g1
 obtain⟨u2,k2,z2⟩:=rI'.get g2
 have e1:its.toArray[j]=u1:=by
  have:its[j]?=some its.toArray[j]:=by simp
  rw[k1] at this;exact(YH this).symm
 have e2:its'.toArray[j]=u2:=by
  have:its'[j]?=some its'.toArray[j]:=by simp
  rw[k2] at this;exact(YH this).symm
 rw[e1,e2]
 unfold yQ
 simp only[i1,i2]
 exact xX I n (Xg f i1) (Xg f' i2) q1 q2 z1 z2 hu
def yj {vs ws:List T}(h:vs.length≠ws.length):Vd vs ws=false:=by
 rw[<-Ww,show(vs.length==ws.length)=false from beq_eq_false_iff_ne.mpr h,Bool.and_false]
def B7 {vs ws:List T}(h:vs.length=ws.length):(List.range vs.length).all (yQ vs ws)=Vd vs ws:=by
 rw[<-Ww,h,Nat.min_self,XU,Bool.and_true]
def nY {pins:List (Addr×Obj)}{σ:L2.St}{H:Hp}{s:Shared}{v w:T}{x y:V}{u u':Value}{A:Around}{n:Nat}(I:Zm X pins σ H s)(fv:Jy v n=true)(fw:Jy w n=true)(rv:Jg X.K H x v)(rw':Jg X.K H y w)
  (ru:Z3 x u) (ru':Z3 y u') (hu:A.units+n+1<cLine):SeqAt.RcAt A s u u' (eqT v w)/\SeqAt.RcNeAt A s u u' (!eqT v w):=by
 have hu0:A.units<cLine:=by omega
 cases ev:sc v with
 | some a=>
  obtain⟨rfl,f1⟩:=Xs ev rv
  cases ew:sc w with
  | some b=>
   obtain⟨rfl,f2⟩:=Xs ew rw'
   cases v with
   | non=>
    cases ev;cases ru
    cases w with
    | non=>cases ew;cases ru';unfold eqT;exact⟨.none_none,.none_none⟩
    | bl c=>cases ew;cases ru';unfold eqT;exact⟨.none_bool c,.none_bool c⟩
    | int c=>cases ew;obtain⟨t,rfl⟩:=ru';unfold eqT;exact⟨.none_int c t,.none_int c t⟩
    | str c=>cases ew;obtain⟨t,rfl⟩:=ru';unfold eqT;exact⟨.none_str c t,.none_str c t⟩
    | _=>cases ew
   | bl d=>
    cases ev;cases ru
    cases w with
    | non=>cases ew;cases ru';unfold eqT;exact⟨.bool_none d,.bool_none d⟩
    | bl c=>cases ew;cases ru';unfold eqT;exact⟨.bool_bool d c,.bool_bool d c⟩
    | int c=>cases ew;obtain⟨t,rfl⟩:=ru';unfold eqT;exact⟨.bool_int d c t,.bool_int d c t⟩
    | str c=>cases ew;obtain⟨t,rfl⟩:=ru';unfold eqT;exact⟨.bool_str d c t,.bool_str d c t⟩
    | _=>cases ew
   | int d=>
    cases ev;obtain⟨t',rfl⟩:=ru
    cases w with
    | non=>cases ew;cases ru';unfold eqT;exact⟨.int_none d t',.int_none d t'⟩
    | bl c=>cases ew;cases ru';unfold eqT;exact⟨.int_bool d t' c,.int_bool d t' c⟩
    | int c=>cases ew;obtain⟨t,rfl⟩:=ru';unfold eqT;exact⟨.int_int d t' c t,.int_int d t' c t⟩
    | str c=>cases ew;obtain⟨t,rfl⟩:=ru';unfold eqT;exact⟨.int_str d t' c t,.int_str d t' c t⟩
    | _=>cases ew
   | str d=>
    cases ev;obtain⟨t',rfl⟩:=ru
    cases w with
    | non=>cases ew;cases ru';unfold eqT;exact⟨.str_none d t',.str_none d t'⟩
    | bl c=>cases ew;cases ru';unfold eqT;exact⟨.str_bool d t' c,.str_bool d t' c⟩
    | int c=>cases ew;obtain⟨t,rfl⟩:=ru';unfold eqT;exact⟨.str_int d t' c t,.str_int d t' c t⟩
    | str c=>cases ew;obtain⟨t,rfl⟩:=ru';unfold eqT;exact⟨.str_str d t' c t,.str_str d t' c t⟩
    | _=>cases ew
   | _=>cases ev
  | none=>
   obtain⟨ts,m,rfl,em,ft⟩:=J2 fw ew
   obtain⟨b,zs,rfl,hq,r⟩:=Y0 rw'
   cases ru'
   obtain⟨its,_,p,_⟩:=I.tuple hq
   cases v with
   | non=>cases ev;cases ru;unfold eqT;exact⟨.none_tuple p hu0,.none_tuple p hu0⟩
   | bl c=>cases ev;cases ru;unfold eqT;exact⟨.bool_tuple c p hu0,.bool_tuple c p hu0⟩
   | int i=>cases ev;obtain⟨t,rfl⟩:=ru;unfold eqT;exact⟨.int_tuple i t p hu0,.int_tuple i t p hu0⟩
   | str i=>cases ev;obtain⟨t,rfl⟩:=ru;unfold eqT;exact⟨.str_tuple i t p hu0,.str_tuple i t p hu0⟩
   | _=>cases ev
 | none=>
  obtain⟨ts,m,rfl,em,ft⟩:=J2 fv ev
  subst em
  obtain⟨a,ys,rfl,hq,r⟩:=Y0 rv
  cases ru
  obtain⟨its,rI,p,_⟩:=I.tuple hq
  cases ew:sc w with
  | some b=>
   obtain⟨rfl,f2⟩:=Xs ew rw'
   cases w with
   | non=>cases ew;cases ru';unfold eqT;exact⟨.tuple_none p hu0,.tuple_none p hu0⟩
   | bl c=>cases ew;cases ru';unfold eqT;exact⟨.tuple_bool c p hu0,.tuple_bool c p hu0⟩
   | int i=>cases ew;obtain⟨t,rfl⟩:=ru';unfold eqT;exact⟨.tuple_int i t p hu0,.tuple_int i t p hu0⟩
   | str i=>cases ew;obtain⟨t,rfl⟩:=ru';unfold eqT;exact⟨.tuple_str i t p hu0,.tuple_str i t p hu0⟩
   | _=>cases ew
  | none=>
   obtain⟨us,m',rfl,em,fu⟩:=J2 fw ew
   cases em
   obtain⟨b,zs,rfl,hq',r'⟩:=Y0 rw'
   cases ru'
   obtain⟨its',rI',p',_⟩:=I.tuple hq'
   have l1:its.toArray.size=ts.length:=by rw[XJ,<-rI.length,r.length]
   have l2:its'.toArray.size=us.length:=by rw[XJ,<-rI'.length,r'.length]
   have hi:=Hm (A:=A.in1) I r r' rI rI' ft fu (by show A.units+1+m<cLine;omega)
   have k1:=SeqAt.RcAt.tuples (A:=A) p p' hu0 hi
   have k2:=SeqAt.RcNeAt.tuples (A:=A) p p' hu0 hi
   rw[l1,l2,Ww] at k1 k2
   unfold eqT
   exact⟨k1,k2⟩
def Du {pins:List (Addr×Obj)}{σ:L2.St}{H:Hp}{s:Shared}{w:T}{y:V}{u':Value}{A:Around}{n:Nat}{a:Addr}{its:List Value}(I:Zm X pins σ H s)(fw:Jy w n=true)(rw':Jg X.K H y w)(ru':Z3 y u')(hu0:A.units<cLine)
  (p:s.heap.IsList a its.toArray):(SeqAt.RcAt A s (.ref a) u' false/\SeqAt.RcNeAt A s (.ref a) u' true)/\(SeqAt.RcAt A s u' (.ref a) false/\SeqAt.RcNeAt A s u' (.ref a) true):=by
 cases w with
 | non=>cases Kq rw';cases ru';exact⟨⟨.list_none p hu0,.list_none p hu0⟩,.none_list p hu0,.none_list p hu0⟩
 | bl c=>cases Qh rw';cases ru';exact⟨⟨.list_bool c p hu0,.list_bool c p hu0⟩,.bool_list c p hu0,.bool_list c p hu0⟩
 | int c=>cases Yh rw';obtain⟨t,rfl⟩:=ru';exact⟨⟨.list_int c t p hu0,.list_int c t p hu0⟩,.int_list c t p hu0,.int_list c t p hu0⟩
 | str c=>cases Yu rw';obtain⟨t,rfl⟩:=ru';exact⟨⟨.list_str c t p hu0,.list_str c t p hu0⟩,.str_list c t p hu0,.str_list c t p hu0⟩
 | tup ts=>
  obtain⟨b,zs,rfl,hq,r⟩:=Y0 rw'
  cases ru'
  obtain⟨its',_,p',_⟩:=I.tuple hq
  exact⟨⟨.list_tuple p p' hu0,.list_tuple p p' hu0⟩,.tuple_list p' p hu0,.tuple_list p' p hu0⟩
 | ref b=>unfold Jy at fw;cases fw
 | cl b=>unfold Jy at fw;cases fw
def xP (neg:Bool)(hu:X.A.units+150<cLine):G4 X (compareOp (if neg then .NotEq else .Eq)) (Nf neg):=⟨_,Fx,λF H C x y v u Q Q' R rx ry h q pins s σ v' u' I r1 r2=>by
 have fin:∀{k:Bool},SeqAt.RcAt X.A s v' u' k/\SeqAt.RcNeAt X.A s v' u' (!k)->Q (.bl (if neg then !k else k)) H->wpAny (model X.prog X.w) X.A (compareOp (if neg then .NotEq else .Eq) v' u') (EP X pins σ Q) X.xe s:=λ{k} e hq=>by
  cases neg with
  | true=>exact EqBoolInt.of_rcne e.2 ⟨.bl (!k),H,I,rfl,hq⟩
  | false=>exact EqBoolInt.of_rc e.1 ⟨.bl k,H,I,rfl,hq⟩
 have two:∀{v u:T},Jg X.K H x v->Jg X.K H y u->Yv v/\Yv u/\Q' (.bl (if neg then !eqT v u else eqT v u)) C->wpAny (model X.prog X.w) X.A (compareOp (if neg then .NotEq else .Eq) v' u') (EP X pins σ Q) X.xe s:=λ{v u} rx ry h=>
  fin (nY I h.1 h.2.1 rx ry r1 r2 (show X.A.units+100+1<cLine by omega)) (q _ _ H C R (Tx.refl H) Jb h.2.2)
 have hn:(if neg then !false else false)=neg:=by cases neg<;>rfl
 have lft:∀{a:Addr} {u:T},v'=.ref a->Jg X.K H y u->(∃xs,C a=some (.lst xs))/\Yv u/\Q' (.bl neg) C->wpAny (model X.prog X.w) X.A (compareOp (if neg then .NotEq else .Eq) v' u') (EP X pins σ Q) X.xe s:=λ{a u} ev ry h=>by
  obtain⟨⟨xs,hx⟩,f,hq⟩:=h
  obtain⟨ys,hy,r⟩:=R.lst hx
  obtain⟨its,_,p,_⟩:=I.list (Xz.of hy)
  have z:=(Du (A:=X.A) I f ry r2 (by omega) p.isList).1
  subst ev
  refine fin (k:=false) z ?_
  rw[hn]
  exact q _ _ H C R (Tx.refl H) Jb hq
 have rgt:∀{b:Addr} {v:T},u'=.ref b->Jg X.K H x v->(∃xs,C b=some (.lst xs))/\Yv v/\Q' (.bl neg) C->wpAny (model X.prog X.w) X.A (compareOp (if neg then .NotEq else .Eq) v' u') (EP X pins σ Q) X.xe s:=λ{b v} eu rx h=>by
  obtain⟨⟨xs,hx⟩,f,hq⟩:=h
  obtain⟨ys,hy,r⟩:=R.lst hx
  obtain⟨its,_,p,_⟩:=I.list (Xz.of hy)
  have z:=(Du (A:=X.A) I f rx r1 (by omega) p.isList).2
  subst eu
  refine fin (k:=false) z ?_
  rw[hn]
  exact q _ _ H C R (Tx.refl H) Jb hq
 cases v with
 | ref a=>
  have ev:v'=.ref a:=by cases Yl rx;exact r1
  cases u with
  | ref b=>
   have eu:u'=.ref b:=by cases Yl ry;exact r2
   obtain⟨xs,ys,ha,hb,hf,hq⟩:=h
   obtain⟨zs,hz,rz⟩:=R.lst ha
   obtain⟨ws,hw,rw'⟩:=R.lst hb
   obtain⟨its,rI,p,_⟩:=I.list (Xz.of hz)
   obtain⟨its',rI',p',_⟩:=I.list (Xz.of hw)
   have l1:its.toArray.size=xs.length:=by rw[XJ,<-rI.length,rz.length]
   have l2:its'.toArray.size=ys.length:=by rw[XJ,<-rI'.length,rw'.length]
   subst ev
   subst eu
   refine fin ?_ (q _ _ H C R (Tx.refl H) Jb hq)
   by_cases hl:xs.length=ys.length
   ·obtain⟨f1,f2⟩:=hf hl
    have hi:=Hm (A:=X.A.in1) I rz rw' rI rI' f1 f2 (by show X.A.units+1+100<cLine;omega)
    have k1:=SeqAt.RcAt.lists (A:=X.A) p.isList p'.isList (by rw[l1,l2,hl]) (by omega) hi
    have k2:=SeqAt.RcNeAt.lists (A:=X.A) p.isList p'.isList (by rw[l1,l2,hl]) (by omega) hi
    rw[l1,B7 hl] at k1 k2
    exact⟨k1,k2⟩
   ·rw[yj hl]
    have hne:(its.toArray.size !=its'.toArray.size)=true:=by rw[l1,l2];exact bne_iff_ne.mpr hl
    exact⟨SeqAt.RcAt.lists_lengths p.isList p'.isList hne (by omega),SeqAt.RcNeAt.lists_lengths p.isList p'.isList hne (by omega)⟩
  | non=>exact lft ev ry h
  | bl b=>exact lft ev ry h
  | int b=>exact lft ev ry h
  | str b=>exact lft ev ry h
  | tup b=>exact lft ev ry h
  | cl b=>exact lft ev ry h
 | non=>
  cases u with
  | ref b=>exact rgt (by cases Yl ry;exact r2) rx h
  | _=>exact two rx ry h
 | bl _=>
  cases u with
  | ref b=>exact rgt (by cases Yl ry;exact r2) rx h
  | _=>exact two rx ry h
 | int _=>
  cases u with
  | ref b=>exact rgt (by cases Yl ry;exact r2) rx h
  | _=>exact two rx ry h
 | str _=>
  cases u with
  | ref b=>exact rgt (by cases Yl ry;exact r2) rx h
  | _=>exact two rx ry h
 | tup _=>
  cases u with
  | ref b=>exact rgt (by cases Yl ry;exact r2) rx h
  | _=>exact two rx ry h
 | cl _=>
  cases u with
  | ref b=>exact rgt (by cases Yl ry;exact r2) rx h
  | _=>exact two rx ry h⟩
def Jx (hu:X.A.units+150<cLine):G4 X (compareOp .Eq) xG:=xP false hu
def Mr (hu:X.A.units+150<cLine):G4 X (compareOp .NotEq) xF:=xP true hu
open Classical in
noncomputable def eqAns (v:T) (us:List Value) (ts:List T) (u:Value):Bool:=match (us.zip ts).find? λp=>decide (p.1=u) with
 | some p=>eqT p.2 v
 | none=>false
open Classical in
def Ge {pins:List (Addr×Obj)}{σ:L2.St}{H:Hp}{s:Shared}{n:Nat}{v:T}{ts:List T}{ys:List V}{us:List Value}(I:Zm X pins σ H s)(r:Reps X.K H ys ts)(rI:Zx ys us)(f:Y4 ts n=true){j:Nat}{u:Value}{t:T}(hu:us[j]?=some u)(ht:ts[j]?=some t):
  eqAns v us ts u=eqT t v:=by
 unfold eqAns
 have hm:(u,t)∈us.zip ts:=by
  refine List.mem_iff_getElem?.mpr ⟨j,?_⟩
  rw[List.getElem?_zip_eq_some]
  exact⟨hu,ht⟩
 cases e:(us.zip ts).find? λp=>decide (p.1=u) with
 | none=>
  have:=List.find?_eq_none.mp e (u,t) hm
  simp at this
 | some p=>
  have h1:=List.find?_some e
  have h2:=List.mem_of_find?_eq_some e
  simp only[decide_eq_true_eq] at h1
  obtain⟨i,hi⟩:=List.mem_iff_getElem?.mp h2
  obtain⟨g1,g2⟩:=List.getElem?_zip_eq_some.mp hi
  obtain⟨x1,k1,q1⟩:=r.get g2
  obtain⟨x2,k2,q2⟩:=r.get ht
  obtain⟨u1,m1,z1⟩:=rI.get k1
  obtain⟨u2,m2,z2⟩:=rI.get k2
  rw[g1] at m1;cases m1
  rw[hu] at m2;cases m2
  rw[h1] at z1
  have e2:=z1.inj z2
  subst e2
  show eqT p.2 v=eqT t v
  rw[Dh I n (Xg f g2) (Xg f ht) q1 q2]
def Cf {pins:List (Addr×Obj)}{σ:L2.St}{H:Hp}{s:Shared}{n:Nat}{v:T}{ts:List T}{ys:List V}{us:List Value}(I:Zm X pins σ H s)(r:Reps X.K H ys ts)(rI:Zx ys us)(f:Y4 ts n=true):us.any (eqAns v us ts)=Pt v ts:=by
 have hl:us.length=ts.length:=by rw[<-rI.length,r.length]
 have hat:∀j,us[j]?.map (eqAns v us ts)=ts[j]?.map λt=>eqT t v:=λj=>by
  by_cases hj:j<us.length
  ·have e1:us[j]?=some us[j]:=by simp[hj]
   have e2:ts[j]?=some (ts[j]'(by omega)):=by simp[hl▸hj]
   rw[e1,e2,Option.map_some,Option.map_some,Ge I r rI f e1 e2]
  ·rw[List.getElem?_eq_none (by omega),List.getElem?_eq_none (by omega)];rfl
 have hm:us.map (eqAns v us ts)=ts.map λt=>eqT t v:=by
  refine List.ext_getElem? λj=>?_
  rw[XM,XM]
  exact hat j
 unfold Pt
 have a1:us.any (eqAns v us ts)=(us.map (eqAns v us ts)).any id:=by rw[List.any_map];rfl
 have a2:(ts.any λy=>eqT y v)=(ts.map λt=>eqT t v).any id:=by rw[List.any_map];rfl
 rw[a1,a2,hm]
def xO (neg:Bool)(hu:X.A.units+150<cLine):G4 X (compareOp (if neg then .NotIn else .In)) (Lx neg):=⟨_,Fx,λF H C x y v u Q Q' R rx ry h q pins s σ v' u' I r1 r2=>by
 have sq:∀{p:Addr} {ys:List V} {ts:List T},u'=.ref p->(Xz X.K H p ys\/Uc X.K H p ys)->Reps X.K H ys ts->Yv v->Y4 ts Ve=true->Q' (.bl (if neg then !Pt v ts else Pt v ts)) C->
   wpAny (model X.prog X.w) X.A (compareOp (if neg then .NotIn else .In) v' u') (EP X pins σ Q) X.xe s:=λ{p ys ts} eu hq r fv ft hq'=>by
  subst eu
  have at1:∀{its:List Value},Zx ys its->∀w,w∈its.toArray->SeqAt.EqAt X.A.in1 s w v' (eqAns v its ts w):=λ{its} rI w hw=>by
   have hw':w∈its:=by simpa using hw
   obtain⟨j,hj⟩:=List.mem_iff_getElem?.mp hw'
   have hlt:j<its.length:=(List.getElem?_eq_some_iff.mp hj).1
   have hl:its.length=ts.length:=by rw[<-rI.length,r.length]
   have e2:ts[j]?=some (ts[j]'(by omega)):=by simp[hl▸hlt]
   rw[Ge I r rI ft hj e2]
   obtain⟨x2,k2,q2⟩:=r.get e2
   obtain⟨u2,m2,z2⟩:=rI.get k2
   rw[hj] at m2;cases m2
   exact xX I 100 (Xg ft e2) fv q2 rx z2 r1 (by show X.A.units+1+100<cLine;omega)
  rcases hq with hq | hq
  ·obtain⟨its,rI,p,_⟩:=I.list hq
   have e:its.toArray.any (eqAns v its ts)=Pt v ts:=by rw[<-Cf I r rI ft];simp
   cases neg with
   | true=>refine SeqAt.notIn_listAt (eqAns v its ts) p.isList (at1 rI) ⟨.bl _,H,I,rfl,?_⟩;rw[e];exact q _ _ H C R (Tx.refl H) Jb hq'
   | false=>refine SeqAt.in_listAt (eqAns v its ts) p.isList (at1 rI) ⟨.bl _,H,I,rfl,?_⟩;rw[e];exact q _ _ H C R (Tx.refl H) Jb hq'
  ·obtain⟨its,rI,p,_⟩:=I.tuple hq
   have e:its.toArray.any (eqAns v its ts)=Pt v ts:=by rw[<-Cf I r rI ft];simp
   cases neg with
   | true=>refine SeqAt.notIn_tupleAt (eqAns v its ts) p (at1 rI) ⟨.bl _,H,I,rfl,?_⟩;rw[e];exact q _ _ H C R (Tx.refl H) Jb hq'
   | false=>refine SeqAt.in_tupleAt (eqAns v its ts) p (at1 rI) ⟨.bl _,H,I,rfl,?_⟩;rw[e];exact q _ _ H C R (Tx.refl H) Jb hq'
 have tpl:∀{ts:List T},Jg X.K H y (.tup ts)->Yv v/\Y4 ts Ve=true/\Q' (.bl (if neg then !Pt v ts else Pt v ts)) C->wpAny (model X.prog X.w) X.A (compareOp (if neg then .NotIn else .In) v' u') (EP X pins σ Q) X.xe s:=λ{ts} ry h=>by
  obtain⟨a,ys,rfl,hq,r⟩:=Y0 ry
  exact sq r2 (.inr hq) r h.1 h.2.1 h.2.2
 have cls:∀{ts:List T},Jg X.K H y (.cl ts)->Yv v/\Y4 ts Ve=true/\Q' (.bl (if neg then !Pt v ts else Pt v ts)) C->wpAny (model X.prog X.w) X.A (compareOp (if neg then .NotIn else .In) v' u') (EP X pins σ Q) X.xe s:=λ{ts} ry h=>by
  obtain⟨a,ys,rfl,hq,r⟩:=Ol ry
  exact sq r2 (.inl hq.sq) r h.1 h.2.1 h.2.2
 have rf:∀{a:Addr},Jg X.K H y (.ref a)->(∃ys,C a=some (.lst ys)/\Yv v/\Y4 ys Ve=true/\Q' (.bl (if neg then !Pt v ys else Pt v ys)) C)->wpAny (model X.prog X.w) X.A (compareOp (if neg then .NotIn else .In) v' u') (EP X pins σ Q) X.xe s:=λ{a} ry h=>by
  obtain⟨ts,ht,h1,h2,h3⟩:=h
  obtain⟨zs,hz,rz⟩:=R.lst ht
  cases Yl ry
  exact sq r2 (.inl (Xz.of hz)) rz h1 h2 h3
 cases u with
 | tup ts=>cases v<;>exact tpl ry h
 | cl ts=>cases v<;>exact cls ry h
 | ref a=>cases v<;>exact rf ry h
 | str j=>
  cases v with
  | str i=>
   cases Yu rx;cases Yu ry
   obtain⟨t,rfl⟩:=r1
   obtain⟨t',rfl⟩:=r2
   cases neg with
   | true=>exact notIn_str ⟨.bl _,H,I,rfl,q _ _ H C R (Tx.refl H) Jb h⟩
   | false=>exact in_str ⟨.bl _,H,I,rfl,q _ _ H C R (Tx.refl H) Jb h⟩
  | _=>exact False.elim h
 | non=>cases v<;>exact False.elim h
 | bl _=>cases v<;>exact False.elim h
 | int _=>cases v<;>exact False.elim h⟩
def Bs (hu:X.A.units+150<cLine):G4 X (compareOp .In) wD:=xO false hu
def Qi (hu:X.A.units+150<cLine):G4 X (compareOp .NotIn) U1:=xO true hu
def pU:mI X S6:=⟨_,uh,λF H C x y v u Q Q' R rx ry h q=>by
 cases v<;>cases u<;>first | exact False.elim h | skip
 case tup.int xs i=>
  obtain⟨a,ys,rfl,hq,r⟩:=Y0 rx
  cases Yh ry
  obtain⟨v,hv,h⟩:=h
  obtain⟨z,hz,rz⟩:=r.at hv
  exact .inr (.inl ⟨a,ys,i,z,rfl,rfl,hq,hz,q _ _ H C R (Tx.refl H) rz h⟩)
 case cl.int xs i=>
  obtain⟨a,ys,rfl,hq,r⟩:=Ol rx
  cases Yh ry
  obtain⟨v,hv,h⟩:=h
  obtain⟨z,hz,rz⟩:=r.at hv
  exact .inl ⟨a,ys,i,z,rfl,rfl,hq.sq,hz,q _ _ H C R (Tx.refl H) rz h⟩
 case ref.int a i=>
  cases Yl rx
  cases Yh ry
  obtain⟨xs,v,hx,hv,h⟩:=h
  obtain⟨ys,hy,r⟩:=R.lst hx
  obtain⟨z,hz,rz⟩:=r.at hv
  exact .inl ⟨a,ys,i,z,rfl,rfl,Xz.of hy,hz,q _ _ H C R (Tx.refl H) rz h⟩
 case str.int z i=>
  cases Yu rx
  cases Yh ry
  obtain⟨hl,c,hc,h⟩:=h
  exact .inr (.inr ⟨z,i,c,rfl,rfl,hl,hc,q _ _ H C R (Tx.refl H) Zt h⟩)⟩
def mC (X:Cx)(w:T->Option Int->Option Int->Hw->WK->Prop):Prop:=∃r,xy X r/\∀(F H:Hp) (C:Hw) (x:V) (v:T) (lo hi:Option Int) (Q:VK) (Q':WK),Rl X.K F H C->Jg X.K H x v->w v lo hi C Q'->QE X.K F H Q Q'->r x lo hi H Q
def N9 {K:W.Frag}{H:Hp}{ys:List V}{xs:List T}(r:Reps K H ys xs)(lo hi:Option Int):Reps K H (Gr ys lo hi) (Ef xs lo hi):=by
 unfold Gr Ef
 rw[r.length]
 exact(r.drop _).take _
def pT:mC X qY:=⟨_,wX.or (jm.or wY),λF H C x v lo hi Q Q' R rx h q=>by
 cases v with
 | tup xs=>
  obtain⟨a,ys,rfl,hq,r⟩:=Y0 rx
  exact .inl ⟨a,ys,rfl,hq,by rw[r.length];exact h.1,λp hp=>q _ _ _ C (R.hid hp) (Tx.new hp) (Xj (Uc.of Yy) ((N9 r lo hi).tx (Tx.new hp))) h.2⟩
 | cl xs=>
  obtain⟨a,ys,rfl,hq,r⟩:=Ol rx
  exact .inr (.inl ⟨a,ys,rfl,hq.sq,λp hp=>q _ _ _ _ (R.newL hp (N9 r lo hi)) (Tx.new hp) Xw (h p (R.free hp))⟩)
 | ref a=>
  cases Yl rx
  obtain⟨xs,hx,h⟩:=h
  obtain⟨ys,hy,r⟩:=R.lst hx
  exact .inr (.inl ⟨a,ys,rfl,Xz.of hy,λp hp=>q _ _ _ _ (R.newL hp (N9 r lo hi)) (Tx.new hp) Xw (h p (R.free hp))⟩)
 | str z=>cases Yu rx;exact .inr (.inr ⟨z,rfl,h.1,q _ _ H C R (Tx.refl H) Zt h.2⟩)
 | _=>exact False.elim h⟩
def Wu {K:W.Frag}{H:Hp}{xs:List V}{v:T}(h:Reps K H xs [v]):∃x,xs=[x]/\Jg K H x v:=by
 obtain⟨y,r,rfl,a,b⟩:=Jt h
 cases Wv b
 exact⟨y,rfl,a⟩
def vQ {K:W.Frag}{H:Hp}{xs:List V}{v w:T}(h:Reps K H xs [v,w]):∃x y,xs=[x,y]/\Jg K H x v/\Jg K H y w:=by
 obtain⟨y,r,rfl,a,b⟩:=Jt h
 obtain⟨z,rfl,c⟩:=Wu b
 exact⟨y,z,rfl,a,c⟩
def Jf:Os X (.builtin "len") yD:=⟨_,Ii.or Ih,λF H C xs vs Q Q' R rs h q=>by
 obtain⟨v,rfl,h⟩:=h
 obtain⟨x,rfl,rx⟩:=Wu rs
 cases v with
 | str z=>cases Yu rx;exact .inr ⟨z,rfl,h.1,q _ _ H C R (Tx.refl H) Yq h.2⟩
 | tup xs=>
  obtain⟨a,ys,rfl,hq,r⟩:=Y0 rx
  exact .inl ⟨a,ys,rfl,.inr hq,by rw[r.length];exact q _ _ H C R (Tx.refl H) Yq h⟩
 | cl xs=>
  obtain⟨a,ys,rfl,hq,r⟩:=Ol rx
  exact .inl ⟨a,ys,rfl,.inl hq.sq,by rw[r.length];exact q _ _ H C R (Tx.refl H) Yq h⟩
 | ref a=>
  cases Yl rx
  obtain⟨xs,hx,h⟩:=h
  obtain⟨ys,hy,r⟩:=R.lst hx
  exact .inl ⟨a,ys,rfl,.inl (Xz.of hy),by rw[r.length];exact q _ _ H C R (Tx.refl H) Yq h⟩
 | _=>exact False.elim h⟩
def qh (hc:X.calm=true):Os X (.builtin "max") qj:=⟨_,Ae hc,λF H C xs vs Q Q' R rs h q=>by
 obtain⟨i,j,rfl,h⟩:=h
 obtain⟨x,y,rfl,rx,ry⟩:=vQ rs
 cases Yh rx;cases Yh ry
 exact⟨i,j,rfl,q _ _ H C R (Tx.refl H) Yq h⟩⟩
def Hb {K:W.Frag}{H:Hp}:∀{bs:List Bool} {ys:List V},Reps K H ys (bs.map T.bl)->ys=bs.map V.bl
 | [],_,h=>Wv h
 | b::bs,_,h=>by obtain⟨y,r,rfl,a,c⟩:=Jt h;cases Qh a;rw[Hb c];rfl
def wn (hc:X.calm=true):Os X (.builtin "all") qm:=⟨_,Ah hc,λF H C xs vs Q Q' R rs h q=>by
 obtain⟨a,bs,rfl,hx,h⟩:=h
 obtain⟨x,rfl,rx⟩:=Wu rs
 cases Yl rx
 obtain⟨ys,hy,r⟩:=R.lst hx
 cases Hb r
 exact⟨a,bs,rfl,Xz.of hy,q _ _ H C R (Tx.refl H) Jb h⟩⟩
def Qt:Os X (.type "tuple") yC:=⟨_,Mw,λF H C xs vs Q Q' R rs h q=>by
 obtain⟨v,rfl,h⟩:=h
 obtain⟨x,rfl,rx⟩:=Wu rs
 cases v with
 | tup xs=>
  obtain⟨a,ys,rfl,hq,r⟩:=Y0 rx
  exact⟨a,ys,rfl,.inr ⟨hq,q _ _ H C R (Tx.refl H) (Xj hq r) h⟩⟩
 | cl xs=>
  obtain⟨a,ys,rfl,hq,r⟩:=Ol rx
  exact⟨a,ys,rfl,.inl ⟨hq.sq,λp hp=>q _ _ _ C (R.hid hp) (Tx.new hp) (Xj (Uc.of Yy) (r.tx (Tx.new hp))) h⟩⟩
 | ref a=>
  cases Yl rx
  obtain⟨xs,hx,h⟩:=h
  obtain⟨ys,hy,r⟩:=R.lst hx
  exact⟨a,ys,rfl,.inl ⟨Xz.of hy,λp hp=>q _ _ _ C (R.hid hp) (Tx.new hp) (Xj (Uc.of Yy) (r.tx (Tx.new hp))) h⟩⟩
 | _=>exact False.elim h⟩
def Qj:qw X "list.append" Dt:=⟨_,Pp,λF H C x v xs vs Q Q' R rx rs h q=>by
 obtain⟨a,ts,y,rfl,rfl,hx,hl,h⟩:=h
 cases Yl rx
 obtain⟨z,rfl,rz⟩:=Wu rs
 obtain⟨ys,hy,r⟩:=R.lst hx
 obtain⟨R',t⟩:=R.putL hx (r.snoc rz)
 exact⟨a,ys,z,rfl,rfl,hy,by rw[r.length];exact hl,q _ _ _ _ R' t Wc h⟩⟩
def rB:qw X "list.pop" rD:=⟨_,vU,λF H C x v xs vs Q Q' R rx rs h q=>by
 obtain⟨a,ts,y,rfl,rfl,hx,hy,h⟩:=h
 cases Yl rx
 cases Wv rs
 obtain⟨ys,hys,r⟩:=R.lst hx
 obtain⟨z,hz,rz⟩:=r.get hy
 obtain⟨R',t⟩:=R.putL hx r.dropLast
 exact⟨a,ys,z,rfl,rfl,hys,by rw[r.length];exact hz,q _ _ _ _ R' t (rz.tx t) h⟩⟩
end
section
variable {X:Cx}{a b c e:Expr}{es:List Expr}{wa wb wc:WE}{wt wt':WT}{wA:WA}{w w':W2}{pos p apos cpos:Pos}{Z9:List Expr}
def Zb (i:Nat){x:Str}(hN:X.N[i]?=some x:=by rfl)(hv:qL X.env.scope x:=by first | exact Or.inl rfl | exact Or.inr (Or.inl rfl) | exact Or.inr (Or.inr rfl))(hd:(x==("__debug__":Str))=false:=by decide)
  (hcd:(x==("__classdict__":Str))=false:=by decide):Jw X (.Name x pos) (Zu i):=⟨_,vB hN hv hd hcd,sD⟩
def Zh {i j}:Jw X (.Constant (.int i) j pos) (eC (.int i)):=⟨_,vH,tF λ_=>Yq⟩
def Ze {i j}:Jw X (.Constant (.str i) j pos) (eC (.str i)):=⟨_,vD,tF λ_=>Zt⟩
def N8 {i j}:Jw X (.Constant (.bool i) j pos) (eC (.bl i)):=⟨_,rj,tF λ_=>Jb⟩
def qb {j}:Jw X (.Constant .none j pos) (eC .non):=⟨_,vF,tF λ_=>Wc⟩
def ww (K:W.Frag)(mg:Str->Option Value)(x:Str)(v:T):Prop:=∃z u,mg x=some u/\Z3 z u/\∀H,Jg K H z v
def K9 {x:Str}{v:T}(hg:Gl X x)(h:ww X.K X.mg x v)(hd:(x==("__debug__":Str))=false:=by decide):Jw X (.Name x pos) (eC v):=by
 obtain⟨z,u,h1,h2,h3⟩:=h
 exact⟨_,Dm hg h1 h2 hd,tF h3⟩
def Zv {op:Operator}(ho:G4 X (binaryOp op) w)(ha:Jw X a wa)(hb:Jw X b wb):Jw X (.BinOp a op b pos) (Yo w wa wb):=by
 obtain⟨r,h1,h2⟩:=ho
 obtain⟨ta,p1,s1⟩:=ha
 obtain⟨tb,p2,s2⟩:=hb
 exact⟨_,re h1 p1 p2,jp s1 s2 h2⟩
def Qs (ha:Jw X a wa):Jw X (.UnaryOp .USub a pos) (uB Ct wa):=by
 obtain⟨ta,p1,s1⟩:=ha
 exact⟨_,rb wF p1,pB s1 λF H C x v Q Q' R rx h q=>by
  cases v with
  | int i=>cases Yh rx;exact⟨i,rfl,q _ _ H C R (Tx.refl H) Yq h⟩
  | _=>exact False.elim h⟩
def y6 {op:CmpOp}(ho:G4 X (compareOp op) w)(ha:Jw X a wa)(hb:Jw X b wb)(hm:behindInMarks op b=false):Jw X (.Compare a [op] [b] pos) (Yo w wa wb):=by
 obtain⟨r,h1,h2⟩:=ho
 obtain⟨ta,p1,s1⟩:=ha
 obtain⟨tb,p2,s2⟩:=hb
 exact⟨_,jB h1 p1 p2 hm,jp s1 s2 h2⟩
def qe (ha:Jw X a wa)(hb:Jw X (.BoolOp .And (b::Z9) pos) wb):Jw X (.BoolOp .And (a::b::Z9) pos) (uF wa wb):=by
 obtain⟨ta,p1,s1⟩:=ha
 obtain⟨tb,p2,s2⟩:=hb
 exact⟨_,vJ p1 p2,sO s1 s2⟩
def ou (ha:Jw X a wa)(hb:Jw X (.BoolOp .Or (b::Z9) pos) wb):Jw X (.BoolOp .Or (a::b::Z9) pos) (oi wa wb):=by
 obtain⟨ta,p1,s1⟩:=ha
 obtain⟨tb,p2,s2⟩:=hb
 exact⟨_,rc p1 p2,pC s1 s2⟩
def wf {op}(ha:Jw X a wa):Jw X (.BoolOp op [a] pos) wa:=by
 obtain⟨ta,p1,s1⟩:=ha
 exact⟨_,vE p1,s1⟩
def Zc:Mj X [] Jl:=⟨_,Pn,sH⟩
def Za (ha:Jw X a wa)(hb:Mj X es wA)(hs:starEach (a::es) X.env=(false,eval a X.env)::starEach es X.env:=by rfl):Mj X (a::es) (Z2 wa wA):=by
 obtain⟨ta,p1,s1⟩:=ha
 obtain⟨tb,p2,s2⟩:=hb
 exact⟨_,Wf p1 p2 hs,Kk s1 s2⟩
def Xl {x1}(h:Mj X es wA):Jw X (.Tuple es x1 pos) (Gg wA):=by
 obtain⟨t,p,s⟩:=h
 exact⟨_,vC p,sE s⟩
def Yg (h:Mj X es wA):Jw X (.List es pos) (ym wA):=by
 obtain⟨t,p,s⟩:=h
 exact⟨_,vG p,sI s⟩
def Yw (ha:Jw X a wa)(hb:Jw X b wb)(hs:Ck b:=by exact λ_ _=>rfl):Jw X (.Subscript a b pos) (Yo S6 wa wb):=by
 obtain⟨r,h1,h2⟩:=pU (X:=X)
 obtain⟨ta,p1,s1⟩:=ha
 obtain⟨tb,p2,s2⟩:=hb
 exact⟨_,rg h1 p1 p2 hs,jp s1 s2 h2⟩
def qN (X:Cx)(e:Option Expr)(w:Sw->Hw->(Option Int->Hw->Prop)->WX->Prop):Prop:=∃t,PO X e t/\∀(F H:Hp) (C:Hw) (σ:L2.St) (τ:Sw) (Q:Option Int->Hp->Prop) (Q':Option Int->Hw->Prop) (χ:WX),Rl X.K F H C->Jz X.K H σ τ->w τ C Q' χ->
 (∀o H' C',Rl X.K F H' C'->Tx H H'->Q' o C'->Q o H')->t σ H Q
def Jv:qN X none rq:=⟨_,j5,λF H C σ τ Q Q' χ R S h q=>q none H C R (Tx.refl H) h⟩
def Jh (ha:Jw X a wa):qN X (some a) (Hh wa):=by
 obtain⟨ta,p1,s1⟩:=ha
 refine⟨_,j4 p1,λF H C σ τ Q Q' χ R S h q=>?_⟩
 refine s1 F H C σ τ _ _ χ R S h λx v H1 C1 R1 t1 rx h1=>?_
 obtain⟨i,rfl,h1⟩:=h1
 exact⟨i,Yh rx,q (some i) H1 C1 R1 t1 h1⟩
def Rk {lo hi:Option Expr}{wl wh:Sw->Hw->(Option Int->Hw->Prop)->WX->Prop}{p2:Pos}(ha:Jw X a wa)(hl:qN X lo wl)(hh:qN X hi wh):Jw X (.Subscript a (.Slice lo hi none p2) pos) (rW wa wl wh):=by
 obtain⟨r,h1,h2⟩:=pT (X:=X)
 obtain⟨ta,p1,s1⟩:=ha
 obtain⟨tl,p3,s3⟩:=hl
 obtain⟨th,p4,s4⟩:=hh
 refine⟨_,zz h1 p1 p3 p4,λF H C σ τ Q Q' χ R S h q=>?_⟩
 refine s1 F H C σ τ _ _ χ R S h λx v H1 C1 R1 t1 rx h1=>?_
 refine s3 F H1 C1 σ τ _ _ χ R1 (S.tx t1) h1 λl H2 C2 R2 t2 h2'=>?_
 refine s4 F H2 C2 σ τ _ _ χ R2 (S.tx (t1.trans t2)) h2' λu H3 C3 R3 t3 h3=>?_
 exact h2 F H3 C3 x v l u Q Q' R3 ((rx.tx t2).tx t3) h3 (QE.at q ((t1.trans t2).trans t3))
def Xe {x:Str}{id:String}{r:List T->Hw->WK->Prop}(hc:Os X (.builtin id) r)(hg:Gl X x)(hm:X.mg x=none)(hv:bootBuiltins x=some (.builtin id))(ha:Mj X (e::es) wA)(hn:x≠"__name__":=by decide)(hdb:(x==("__debug__":Str))=false:=by decide)
  (he:starEach (e::es) X.env=(false,eval e X.env)::starEach es X.env:=by rfl) (hpl:(backTo pos (starEach es X.env)).any (·.1)=false:=by rfl):Jw X (.Call (.Name x p) (e::es) [] pos) (uE r wA):=by
 obtain⟨r,h1,h2⟩:=hc
 obtain⟨t,p1,s1⟩:=ha
 exact⟨_,Td h1 hg hm hv p1 hn hdb he hpl,sM h2 s1⟩
def K8 {x:Str}{id:String}{r:List T->Hw->WK->Prop}(hc:Os X (.type id) r)(hg:Gl X x)(hm:X.mg x=none)(hv:bootBuiltins x=some (.type id))(ha:Mj X (e::es) wA)(hn:x≠"__name__":=by decide)(hdb:(x==("__debug__":Str))=false:=by decide)
  (he:starEach (e::es) X.env=(false,eval e X.env)::starEach es X.env:=by rfl) (hpl:(backTo pos (starEach es X.env)).any (·.1)=false:=by rfl):Jw X (.Call (.Name x p) (e::es) [] pos) (uE r wA):=by
 obtain⟨r,h1,h2⟩:=hc
 obtain⟨t,p1,s1⟩:=ha
 exact⟨_,Lb h1 hg hm hv p1 hn hdb he hpl,sM h2 s1⟩
def qM (X:Cx)(Tn:String)(ty:T->Hw->Prop):Prop:=∀(F H:Hp) (C:Hw) (x:V) (v:T),Rl X.K F H C->Jg X.K H x v->ty v C->wI X.K Tn x H
def Rz:qM X "list" tW:=λF H C x v R rx h=>by
 obtain⟨a,xs,rfl,hx⟩:=h
 cases Yl rx
 obtain⟨ys,hy,r⟩:=R.lst hx
 exact L2.tyL hy
def wG:qM X "str" oO:=λF H C x v R rx h=>by
 obtain⟨z,rfl⟩:=h
 cases Yu rx
 unfold wI
 rfl
def yz {o:Expr}{wo:WE}{name:Str}{Tn id:String}{ty:T->Hw->Prop}{r:T->List T->Hw->WK->Prop}(pa:PlainAttrs Tn)(slot:Slot Tn name id)(hty:typeOf (.builtin id)=pure (.type "method_descriptor"))(hT:qM X Tn ty)(hm:qw X id r)(ho:Jw X o wo)(ha:Mj X (e::es) wA)
  (hbase:attributeBase o name X.env (eval o X.env)=eval o X.env:=by rfl)
  (hfew:((backTo cpos (starEach (e::es) X.env)).all (λx=>!x.1)&&(backToKw cpos (keywordEach [] X.env)).all (λx=>x.1.isSome)
   &&decide ((e::es).length+([]:List Keyword).length+(if ([]:List Keyword).isEmpty then 0 else 1)<30))=true:=by rfl)
  (hline:(apos.endLine==cpos.line)=true:=by rfl) (hs:starEach (e::es) X.env=(false,eval e X.env)::starEach es X.env:=by rfl) (hplain:(backTo cpos (starEach es X.env)).any (·.1)=false:=by rfl):
  Jw X (.Call (.Attribute o name apos) (e::es) [] cpos) (om ty r wo wA):=by
 obtain⟨rr,h1,h2⟩:=hm
 obtain⟨to,p1,s1⟩:=ho
 obtain⟨ta,p2,s2⟩:=ha
 refine⟨_,ri pa slot hty h1 p1 p2 hbase hfew hline hs hplain,λF H C σ τ Q Q' χ R S h q=>?_⟩
 refine s1 F H C σ τ _ _ χ R S h λx v H1 C1 R1 t1 rx h1'=>⟨hT F H1 C1 x v R1 rx h1'.1,?_⟩
 refine s2 F H1 C1 σ τ _ _ χ R1 (S.tx t1) h1'.2 λxs vs H2 C2 R2 t2 rs h2'=>?_
 exact h2 F H2 C2 x v xs vs Q Q' R2 (rx.tx t2) rs h2' (QE.at q (t1.trans t2))
def qc {o:Expr}{wo:WE}{name:Str}{Tn id:String}{ty:T->Hw->Prop}{r:T->List T->Hw->WK->Prop}(pa:PlainAttrs Tn)(slot:Slot Tn name id)(hty:typeOf (.builtin id)=pure (.type "method_descriptor"))(hT:qM X Tn ty)(hm:qw X id r)(ho:Jw X o wo)
  (hbase:attributeBase o name X.env (eval o X.env)=eval o X.env:=by rfl) (hline:(apos.endLine==cpos.line)=true:=by rfl):
  Jw X (.Call (.Attribute o name apos) [] [] cpos) (om ty r wo Jl):=by
 obtain⟨rr,h1,h2⟩:=hm
 obtain⟨to,p1,s1⟩:=ho
 refine⟨_,vI pa slot hty h1 p1 hbase hline,λF H C σ τ Q Q' χ R S h q=>?_⟩
 refine s1 F H C σ τ _ _ χ R S h λx v H1 C1 R1 t1 rx h1'=>⟨hT F H1 C1 x v R1 rx h1'.1,?_⟩
 exact h2 F H1 C1 x v [] [] Q Q' R1 rx Ys h1'.2 (QE.at q t1)
def Dv {K:W.Frag}{n c:String}(hn:n∈["NoneType","bool","int","str","tuple","list","dict"])(hc:c∈["bool","int","str","tuple","list","dict"]):W.kitOne K (.type n) (.type c)=some (Qk n c):=by
 simp only[ZM,ZN,or_false] at hn hc
 rcases hn with rfl | rfl | rfl | rfl | rfl | rfl | rfl<;>rcases hc with rfl | rfl | rfl | rfl | rfl | rfl<;>rfl
def jg {v:T}{C:Hw}{n:String}(h:tE v C n):n∈["NoneType","bool","int","str","tuple","list","dict"]:=by
 cases v with
 | non=>cases h;decide
 | bl _=>cases h;decide
 | int _=>cases h;decide
 | str _=>cases h;decide
 | tup _=>cases h;decide
 | cl _=>cases h;decide
 | ref _=>rcases h with⟨rfl,_⟩ | ⟨rfl,_⟩<;>decide
def zP {pins:List (Addr×Obj)}{σ:L2.St}{F H:Hp}{C:Hw}{s:Shared}{x:V}{v:T}{u:Value}{n c:String}{Q:Value->Shared->Prop}(I:Zm X pins σ H s)(R:Rl X.K F H C)(rx:Jg X.K H x v)(ru:Z3 x u)(hn:tE v C n)(hc:c∈["bool","int","str","tuple","list","dict"])
  (h:∀tk,Q (.bool (Qk n c)) {s with toks:=tk}):wpAny (model X.prog X.w) X.A (call (.builtin "isinstance") [u,.type c]) Q X.xe s:=by
 have e:=Dv (K:=X.K) (jg hn) hc
 cases v with
 | non=>cases hn;cases Kq rx;exact Wn I ru .non e h
 | bl b=>cases hn;cases Qh rx;exact Wn I ru (.bl b) e h
 | int b=>cases hn;cases Yh rx;exact Wn I ru (.int b) e h
 | str b=>cases hn;cases Yu rx;exact Wn I ru (.str b) e h
 | tup xs=>
  cases hn
  obtain⟨a,ys,rfl,hq,r⟩:=Y0 rx
  cases ru
  obtain⟨its,_,⟨o,h1,h2,_⟩,_⟩:=I.tuple hq
  exact W.kia_one W.kitx_tuple I.kIn ⟨o,h1,h2⟩ e (λz=>nomatch z) h
 | cl xs=>
  cases hn
  obtain⟨a,ys,rfl,hq,r⟩:=Ol rx
  cases ru
  obtain⟨its,_,p,_⟩:=I.list hq.sq
  obtain⟨o,h1,h2,_⟩:=p.isList
  exact W.kia_one W.kitx_list I.kIn ⟨o,h1,h2⟩ e (λz=>nomatch z) h
 | ref a=>
  cases Yl rx
  rcases hn with⟨rfl,xs,hx⟩ | ⟨rfl,kvs,hx⟩
  ·obtain⟨ys,hy,r⟩:=R.lst hx
   exact Wn I ru (.lst hy) e h
  ·obtain⟨ks,hy,r⟩:=R.obj a _ hx
   exact Wn I ru (.dK hy) e h
def D4 {x:Str}{q2:Pos}{c:String}(hg:Gl X "isinstance")(hm:X.mg "isinstance"=none)(hgx:Gl X x)(hmx:X.mg x=none)(hvx:bootBuiltins x=some (.type c))(hc:c∈["bool","int","str","tuple","list","dict"])(ha:Jw X a wa)
  (hnx:x≠"__name__":=by decide) (hdx:(x==("__debug__":Str))=false:=by decide) (he:starEach [a,.Name x q2] X.env=[(false,eval a X.env),(false,eval (.Name x q2) X.env)]:=by rfl):Jw X (.Call (.Name "isinstance" p) [a,.Name x q2] [] pos) (rY wa c):=by
 obtain⟨ta,p1,s1⟩:=ha
 let r:List V->Hp->VK->Prop:=λxs H Q=>∃y F C v n,xs=[y,.ty c]/\Rl X.K F H C/\Jg X.K H y v/\tE v C n/\Q (.bl (Qk n c)) H
 have hr:Xb X (.builtin "isinstance") r:=by
  intro pins s σ H xs us Q I rs h
  obtain⟨y,F,C,v,n,rfl,R,ry,hn,q⟩:=h
  obtain⟨u,u2,rfl,ru,ru2⟩:=rs.two
  cases ru2
  exact zP I R ry ru hn hc λtk=>⟨.bl _,H,I.tok tk,rfl,q⟩
 refine⟨_,Td hr hg hm Vg (Wf p1 (Wf (Kp (v:=.ty c) hgx hmx hvx rfl hnx hdx) Pn (by rw[show starEach [Expr.Name x q2] X.env=[(false,eval (.Name x q2) X.env)] from rfl];rfl)) ?_) (by decide) (by decide) ?_ ?_,?_⟩
 ·rw[he];rfl
 ·rw[he];rfl
 ·rfl
 ·intro F H C σ τ Q Q' χ R S h q
  refine s1 F H C σ τ _ _ χ R S h λy v H1 C1 R1 t1 ry h1=>?_
  obtain⟨n,hn,h1⟩:=h1
  exact⟨y,F,C1,v,n,rfl,R1,ry,hn,q _ _ H1 C1 R1 t1 Jb h1⟩
def Zk {op:CmpOp}(ho:G4 X (compareOp op) w)(ha:Jw X a wa)(hb:Jw X b wb)(hm:behindInMarks op b=false:=by exact vS _):Ar X (.Compare a [op] [b] pos) (Fb (Yo w wa wb)):=by
 obtain⟨r,h1,h2⟩:=ho
 obtain⟨ta,p1,s1⟩:=ha
 obtain⟨tb,p2,s2⟩:=hb
 exact⟨_,jx h1 p1 p2 hm,pE (jp s1 s2 h2)⟩
def J6 (ha:Jw X a wa)(he:∀whole,isTrue a X.env whole=(do let v <-whole;standAt a.pos;holding [v] (truthy v)):=by intro _;rfl):Ar X a (Mp wa):=by
 obtain⟨ta,p1,s1⟩:=ha
 exact⟨_,zq p1 he,sF s1⟩
def Qq (ha:Ar X a wt):uZ X (.BoolOp .And [a] pos) wt:=by
 obtain⟨t,p,s⟩:=ha
 exact⟨_,jw p,s⟩
def X6 (ha:Ar X a wt):uZ X (.BoolOp .Or [a] pos) wt:=by
 obtain⟨t,p,s⟩:=ha
 exact⟨_,vo p,s⟩
def P3 (ha:Ar X a wt)(hb:uZ X (.BoolOp .And (b::Z9) pos) wt'):uZ X (.BoolOp .And (a::b::Z9) pos) (wQ wt wt'):=by
 obtain⟨t,p,s⟩:=ha
 obtain⟨t',p',s'⟩:=hb
 exact⟨_,vp p p',pF s s'⟩
def W6 (ha:Ar X a wt)(hb:uZ X (.BoolOp .Or (b::Z9) pos) wt'):uZ X (.BoolOp .Or (a::b::Z9) pos) (Ix wt wt'):=by
 obtain⟨t,p,s⟩:=ha
 obtain⟨t',p',s'⟩:=hb
 exact⟨_,sY p p',sG s s'⟩
def Th (h:uZ X a wt):Ar X a wt:=by
 obtain⟨t,p,s⟩:=h
 exact⟨_,p.pt,s⟩
def K4 (ha:Ar X a wt):Ar X (.UnaryOp .Not a pos) (pv wt):=by
 obtain⟨t,p,s⟩:=ha
 exact⟨_,vv p,pD s⟩
end
structure xC (K:W.Frag)(F H:Hp)(D:Ro)(D':We):Prop where
 nx:∀σ τ H' C',Rl K F H' C'->Tx H H'->Jz K H' σ τ->D'.nx τ C'->D.nx σ H'
 rt:∀x v H' C',Rl K F H' C'->Tx H H'->Jg K H' x v->D'.rt v C'->D.rt x H'
 bk:∀σ τ H' C',Rl K F H' C'->Tx H H'->Jz K H' σ τ->D'.bk τ C'->D.bk σ H'
 ct:∀σ τ H' C',Rl K F H' C'->Tx H H'->Jz K H' σ τ->D'.ct τ C'->D.ct σ H'
def xC.at {K:W.Frag}{F H H1:Hp}{D:Ro}{D':We}(h:xC K F H D D')(t:Tx H H1):xC K F H1 D D':=
 ⟨λσ τ H' C' R t'=>h.nx σ τ H' C' R (t.trans t'),λx v H' C' R t'=>h.rt x v H' C' R (t.trans t'),λσ τ H' C' R t'=>h.bk σ τ H' C' R (t.trans t'),λσ τ H' C' R t'=>h.ct σ τ H' C' R (t.trans t')⟩
def G0 (K:W.Frag)(t:TS)(w:WS):Prop:=∀(F H:Hp) (C:Hw) (σ:L2.St) (τ:Sw) (D:Ro) (D':We),Rl K F H C->Jz K H σ τ->w D' τ C->xC K F H D D'->t D σ H
def G1 (K:W.Frag)(t:TG)(w:WG):Prop:=∀(F H:Hp) (C:Hw) (σ:L2.St) (τ:Sw) (x:V) (v:T) (Q:L2.St->Hp->Prop) (Q':Sw->Hw->Prop) (χ:WX),Rl K F H C->Jz K H σ τ->Jg K H x v->w v τ C Q' χ->
 (∀σ' τ' H' C',Rl K F H' C'->Tx H H'->Jz K H' σ' τ'->Q' τ' C'->Q σ' H')->t x σ H Q
def Cj (K:W.Frag)(t:Fc)(w:yR):Prop:=∀(F H:Hp) (C:Hw) (σ:L2.St) (τ:Sw) (x:List V) (v:List T) (Q:L2.St->Hp->Prop) (Q':Sw->Hw->Prop) (χ:WX),Rl K F H C->Jz K H σ τ->Reps K H x v->w v τ C Q' χ->
 (∀σ' τ' H' C',Rl K F H' C'->Tx H H'->Jz K H' σ' τ'->Q' τ' C'->Q σ' H')->t x σ H Q
def Mh (X:Cx)(st:Stmt)(w:WS):Prop:=∃t,PS X st t/\G0 X.K t w
def Lp (X:Cx)(st:List Stmt)(w:WS):Prop:=∃t,Lq X st t/\G0 X.K t w
def ny (X:Cx)(e:Expr)(w:WG):Prop:=∃t,PG X e t/\G1 X.K t w
section
variable {X:Cx}{st:Stmt}{Z9:List Stmt}{w u:WS}{e tg:Expr}{we:WE}{wt:WT}{g:WG}{gs:yR}{pos:Pos}
def Y3 {K:W.Frag}{i:Nat}:G1 K (J8 i) (T5 i):=λF H C σ τ x v Q Q' χ R S r h q=>q _ _ H C R (Tx.refl H) (S.set r) h
def zf {K:W.Frag}:Cj K B6 zU:=λF H C σ τ x v Q Q' χ R S r h q=>by
 obtain⟨rfl,h⟩:=h
 exact⟨Wv r,q _ _ H C R (Tx.refl H) S h⟩
def R9 {K:W.Frag}{t:TG}{u:Fc}{g:WG}{gs:yR}(a:G1 K t g)(b:Cj K u gs):Cj K (Qm t u) (Ea g gs):=λF H C σ τ x v Q Q' χ R S r h q=>by
 obtain⟨v1,vs,rfl,h⟩:=h
 obtain⟨y,ys,rfl,r1,r2⟩:=Jt r
 refine⟨y,ys,rfl,a F H C σ τ y v1 _ _ χ R S r1 h λσ' τ' H' C' R' t' S' h'=>?_⟩
 exact b F H' C' σ' τ' ys vs Q Q' χ R' S' (r2.tx t') h' λσ2 τ2 H2 C2 R2 t2=>q σ2 τ2 H2 C2 R2 (t'.trans t2)
def ze {K:W.Frag}{u:Fc}{gs:yR}{n:Nat}(b:Cj K u gs)(hn:∀vs τ C Q χ,gs vs τ C Q χ->vs.length=n):G1 K (B5 K n u) (nr gs):=λF H C σ τ x v Q Q' χ R S r h q=>by
 obtain⟨vs,rfl,h⟩:=h
 obtain⟨a,ys,rfl,hq,rs⟩:=Y0 r
 exact⟨a,ys,rfl,hq,by rw[rs.length];exact hn _ _ _ _ _ h,b F H C σ τ ys vs Q Q' χ R S rs h q⟩
def yJ (n:Nat)(gs:yR):Prop:=∀vs τ C Q χ,gs vs τ C Q χ->vs.length=n
def zW:yJ 0 zU:=λvs τ C Q χ h=>by rw[h.1];rfl
def Te {n i:Nat}{gs:yR}(b:yJ n gs):yJ (n+1) (Ea (T5 i) gs):=λvs τ C Q χ h=>by
 obtain⟨v,r,rfl,h⟩:=h
 rw[YF,b r _ _ _ _ h]
def T7 {i:Nat}{x:Str}(hN:X.N.Nodup)(hi:X.N[i]?=some x:=by rfl)(hx:yS X.env.scope x:=by first | exact Or.inl rfl | exact Or.inr rfl)(hf:X.fn x=true\/X.env.scope.names.lookup x=some .local:=by first | exact .inl rfl | exact .inr rfl | assumption):ny X (.Name x pos) (T5 i):=⟨_,Jn hN hi hx hf,Y3⟩
def Zn:Lp X [] Qf:=⟨_,jz,λF H C σ τ D D' R S h d=>d.nx σ τ H C R (Tx.refl H) S h⟩
def Zi (a:Mh X st w):Lp X [st] w:=by
 obtain⟨t,p,s⟩:=a
 exact⟨_,jy p,s⟩
def Zg (a:Mh X st w)(b:Lp X Z9 u):Lp X (st::Z9) (Sg w u):=by
 obtain⟨t,p,s⟩:=a
 obtain⟨t',p',s'⟩:=b
 refine⟨_,zr p p',λF H C σ τ D D' R S h d=>?_⟩
 exact s F H C σ τ _ _ R S h ⟨λσ' τ' H' C' R' t' S' h'=>s' F H' C' σ' τ' D D' R' S' h' (d.at t'),d.rt,d.bk,d.ct⟩
def T6 (a:Jw X e we)(hs:swapsWith e none pos.line X.env=pure false:=by rfl):Mh X (.Expr e pos) (xK we):=by
 obtain⟨t,p,s⟩:=a
 refine⟨_,j0 p hs,λF H C σ τ D D' R S h d=>?_⟩
 exact s F H C σ τ _ _ D'.xc R S h λx v H1 C1 R1 t1 rx h1=>d.nx σ τ H1 C1 R1 t1 (S.tx t1) h1
def Zl (a:Jw X e we):Mh X (.Return (some e) pos) (Pj we):=by
 obtain⟨t,p,s⟩:=a
 refine⟨_,vx p,λF H C σ τ D D' R S h d=>?_⟩
 exact s F H C σ τ _ _ D'.xc R S h d.rt
def Zr {c:Expr}{a b:List Stmt}{wa wb:WS}(hc:Ar X c wt)(ha:Lp X a wa)(hb:Lp X b wb):Mh X (.If c a b pos) (jr wt wa wb):=by
 obtain⟨t,p,s⟩:=hc
 obtain⟨t1,p1,s1⟩:=ha
 obtain⟨t2,p2,s2⟩:=hb
 refine⟨_,sZ p p1 p2,λF H C σ τ D D' R S h d=>?_⟩
 refine s F H C σ τ _ _ D'.xc R S h λk H1 C1 R1 t1 h1=>?_
 cases k with
 | true=>exact s1 F H1 C1 σ τ D D' R1 (S.tx t1) h1 (d.at t1)
 | false=>exact s2 F H1 C1 σ τ D D' R1 (S.tx t1) h1 (d.at t1)
def Z0 {i:Nat}{x:Str}{pos':Pos}(hN:X.N.Nodup)(he:Jw X e we)(hi:X.N[i]?=some x:=by rfl)(hx:yS X.env.scope x:=by first | exact Or.inl rfl | exact Or.inr rfl)(hs:swapsWith e (some (.Name x pos')) pos.line X.env=pure false:=by rfl)
  (hf:X.fn x=true\/X.env.scope.names.lookup x=some .local:=by first | exact .inl rfl | exact .inr rfl | assumption):Mh X (.Assign [.Name x pos'] e pos) (W1 we (T5 i)):=by
 obtain⟨t,p,s⟩:=he
 refine⟨_,vw hN hi hx p hs hf,λF H C σ τ D D' R S h d=>?_⟩
 refine s F H C σ τ _ _ D'.xc R S h λx v H1 C1 R1 t1 rx h1=>?_
 exact Y3 F H1 C1 σ τ x v _ _ D'.xc R1 (S.tx t1) rx h1 λσ' τ' H' C' R' t'=>d.nx σ' τ' H' C' R' (t1.trans t')
end
def Ml (K:W.Frag)(F H0:Hp)(J:It)(xs:List T)(ok:Hw->Prop):Prop:=∀(i:Nat) (H:Hp) (C:Hw),Rl K F H C->Tx H0 H->ok C->
 (i<xs.length->J.go i H/\∀x H',J.yld i H x H'->∃v,xs[i]?=some v/\Rl K F H' C/\Tx H H'/\Jg K H' x v)/\(i=xs.length->J.stop i H)
def uY (K:W.Frag)(wi:TI)(w:WI):Prop:=∀(F H:Hp) (C:Hw) (σ:L2.St) (τ:Sw) (R:It->Hp->Prop) (R':List T->(Hw->Prop)->Hw->Prop) (χ:WX),Rl K F H C->Jz K H σ τ->w τ C R' χ->
 (∀J H' xs ok C',Rl K F H' C'->Tx H H'->(∀F',Ml K F' H' J xs ok)->R' xs ok C'->R J H')->wi σ H R
def tI (X:Cx)(tg e:Expr)(w:WI):Prop:=∃t,PI X tg e t/\uY X.K t w
section
variable {X:Cx}{tg e a b:Expr}{we:WE}{wA:WA}{pos p:Pos}
def jP {K:W.Frag}{F H0:Hp}{l:Addr}{xs:List T}:Ml K F H0 (qU K l) xs (λC=>C l=some (.lst xs)):=λi H C R t ok=>by
 obtain⟨ys,hy,r⟩:=R.lst ok
 refine⟨λhi=>?_,λhi=>⟨ys,Xz.of hy,by rw[r.length];omega⟩⟩
 have ev:xs[i]?=some xs[i]:=by simp[hi]
 obtain⟨y,ey,ry⟩:=r.get ev
 refine⟨⟨ys,y,Xz.of hy,ey⟩,λx H' h=>?_⟩
 obtain⟨rfl,h⟩:=h
 have e2:=h ys (Xz.of hy)
 rw[ey] at e2;cases e2
 exact⟨_,ev,R,Tx.refl _,ry⟩
def rH {K:W.Frag}{F H0:Hp}{l:Addr}{ys:List V}{xs:List T}(h0:yG K H0 l ys)(r0:Reps K H0 ys xs):Ml K F H0 (qU K l) xs (λ_=>True):=λi H C R t ok=>by
 have hy:=(t.sqc h0).sq
 have r:=r0.tx t
 refine⟨λhi=>?_,λhi=>⟨ys,hy,by rw[r.length];omega⟩⟩
 have ev:xs[i]?=some xs[i]:=by simp[hi]
 obtain⟨y,ey,ry⟩:=r.get ev
 refine⟨⟨ys,y,hy,ey⟩,λx H' h=>?_⟩
 obtain⟨rfl,h⟩:=h
 have e2:=h ys hy
 rw[ey] at e2;cases e2
 exact⟨_,ev,R,Tx.refl _,ry⟩
def ui {K:W.Frag}{F H0:Hp}{l:Addr}{ys:List V}{xs:List T}(h0:Uc K H0 l ys)(r0:Reps K H0 ys xs):Ml K F H0 (oI K l) xs (λ_=>True):=λi H C R t ok=>by
 have hy:=t.sqt h0
 have r:=r0.tx t
 refine⟨λhi=>?_,λhi=>⟨ys,hy,by rw[r.length];omega⟩⟩
 have ev:xs[i]?=some xs[i]:=by simp[hi]
 obtain⟨y,ey,ry⟩:=r.get ev
 refine⟨⟨ys,y,hy,ey⟩,λx H' h=>?_⟩
 obtain⟨rfl,h⟩:=h
 have e2:=h ys hy
 rw[ey] at e2;cases e2
 exact⟨_,ev,R,Tx.refl _,ry⟩
def uj {K:W.Frag}{F H0:Hp}{z:Str}:Ml K F H0 (qS z) (z.cps.toList.map λc=>T.str ⟨#[c]⟩) (λ_=>True):=λi H C R t ok=>by
 refine⟨λhi=>⟨by show i<z.cps.size;simpa using hi,λx H' h=>?_⟩,λhi=>by show i=z.cps.size;simpa using hi⟩
 obtain⟨rfl,c,hc,rfl⟩:=h
 refine⟨.str ⟨#[c]⟩,?_,R,Tx.refl _,Zt⟩
 rw[XM,Array.getElem?_toList,hc];rfl
def uk {K:W.Frag}{F H0:Hp}{lo:Int}{n:Nat}:Ml K F H0 (qT lo n) (rng lo n) (λ_=>True):=λi H C R t ok=>by
 have hl:(rng lo n).length=n:=by unfold rng;simp
 refine⟨λhi=>⟨by rw[hl] at hi;exact hi,λx H' h=>?_⟩,λhi=>by show n<=i;omega⟩
 obtain⟨rfl,rfl⟩:=h
 refine⟨.int (lo+i),?_,R,Tx.refl _,Yq⟩
 unfold rng
 rw[hl] at hi
 rw[XM,List.getElem?_range hi];rfl
def za {pins:List (Addr×Obj)}{σ:L2.St}{H1:Hp}{s1:Shared}{R:It->Hp->Prop}{z:Str}{v:Value}(I1:Zm X pins σ H1 s1)(r1:Z3 (.str z) v)(q:R (qS z) H1):wpAny (model X.prog X.w) X.A (pyIter v) (oB X pins σ tg R) X.xe s1:=by
 obtain⟨t,rfl⟩:=r1
 have fin:∀b∈[s1.heap.objs.size],Vj X pins H1 b:=λb hb=>by
  have e:b=s1.heap.objs.size:=by simpa using hb
  subst e
  exact I1.fpOk (XE _) I1.fresh
 cases ha:z.cps.all (·<128)
 ·refine wpAny_pyIter_wide ha ⟨s1.heap.objs.size,[s1.heap.objs.size],_,_,H1,rfl,I1.kept (t':=s1.toks) λb o e=>XC _ e,Nh (ty:="str_iterator") (by decide) (λA hA=>Walks.strWide hA _ z t) λ_ _ _ _ _ st h=>wpAny_pyIter_striter_wide st h,⟨_,XF _ rfl,rfl,rfl⟩,fin,q⟩
 ·refine wpAny_pyIter_ascii ha ⟨s1.heap.objs.size,[s1.heap.objs.size],_,_,H1,rfl,I1.kept (t':=s1.toks) λb o e=>XC _ e,Nh (ty:="str_ascii_iterator") (by decide) (λA hA=>Walks.strAscii hA _ z t) λ_ _ _ _ _ st h=>wpAny_pyIter_striter_ascii st h,⟨_,XF _ rfl,rfl,rfl⟩,fin,q⟩
def pZ (K:W.Frag)(tl:TE):TI:=λσ H R=>tl σ H λx H1=>(∃a,x=.ref a/\(∃xs,Xz K H1 a xs)/\R (qU K a) H1)\/(∃a,x=.ref a/\(∃xs,Uc K H1 a xs)/\R (oI K a) H1)\/∃z,x=.str z/\R (qS z) H1
def vA {tl:TE}(hl:PE X e tl):PI X tg e (pZ X.K tl):=by
 intro pins s σ H R I h
 refine Ji (hl pins s σ H _ I h) λv s1 ⟨x,H1,I1,r1,q1⟩=>?_
 rcases q1 with⟨a,rfl,⟨xs,hq⟩,q⟩ | ⟨a,rfl,⟨xs,hq⟩,q⟩ | ⟨z,rfl,q⟩
 ·cases r1
  obtain⟨its,rv,p,hz⟩:=I1.list hq
  refine wpAny_pyIter_list p.isList ?_
  refine⟨s1.heap.objs.size,[s1.heap.objs.size],_,_,H1,rfl,I1.kept (t':=s1.toks) λb o e=>XC _ e,Cy a _,⟨_,XF _ rfl,rfl,rfl⟩,λb hb=>?_,q⟩
  have e:b=s1.heap.objs.size:=by simpa using hb
  subst e
  exact I1.fpOk (XE _) (I1.hok.fresh (XE _))
 ·cases r1
  obtain⟨its,rv,p,hz⟩:=I1.tuple hq
  refine wpAny_pyIter_tuple (show s1.heap.IsTuple a its.toArray from p) ?_
  refine⟨s1.heap.objs.size,[s1.heap.objs.size],_,_,H1,rfl,I1.kept (t':=s1.toks) λb o e=>XC _ e,Fh a _,⟨_,XF _ rfl,rfl,rfl⟩,λb hb=>?_,q⟩
  have e:b=s1.heap.objs.size:=by simpa using hb
  subst e
  exact I1.fpOk (XE _) (I1.hok.fresh (XE _))
 ·exact za I1 r1 q
def X7 (h:Jw X e we):tI X tg e (jT we):=by
 obtain⟨t,p,s⟩:=h
 refine⟨_,vA p,λF H C σ τ R R' χ Rr S h q=>?_⟩
 refine s F H C σ τ _ _ χ Rr S h λx v H1 C1 R1 t1 rx h1=>?_
 cases v with
 | tup xs=>
  obtain⟨a,ys,rfl,hq,r⟩:=Y0 rx
  exact .inr (.inl ⟨a,rfl,⟨ys,hq⟩,q _ H1 xs _ C1 R1 t1 (λ_=>ui hq r) h1⟩)
 | cl xs=>
  obtain⟨a,ys,rfl,hq,r⟩:=Ol rx
  exact .inl ⟨a,rfl,⟨ys,hq.sq⟩,q _ H1 xs _ C1 R1 t1 (λ_=>rH hq r) h1⟩
 | str z=>cases Yu rx;exact .inr (.inr ⟨z,rfl,q _ H1 _ _ C1 R1 t1 (λ_=>uj) h1⟩)
 | ref a=>
  cases Yl rx
  obtain⟨xs,hx,h1⟩:=h1
  obtain⟨ys,hy,r⟩:=R1.lst hx
  exact .inl ⟨a,rfl,⟨ys,Xz.of hy⟩,q _ H1 xs _ C1 R1 t1 (λ_=>jP) h1⟩
 | _=>exact False.elim h1
def D3 (hg:Gl X "range")(hm:X.mg "range"=none)(ha:Mj X [a] wA)(hs:starEach [a] X.env=[(false,eval a X.env)]:=by rfl):tI X tg (.Call (.Name "range" p) [a] [] pos) (qJ wA):=by
 obtain⟨t,p1,s⟩:=ha
 refine⟨_,Bi hg hm p1 hs,λF H C σ τ R R' χ Rr S h q=>?_⟩
 refine s F H C σ τ _ _ χ Rr S h λxs vs H1 C1 R1 t1 rs h1=>?_
 obtain⟨j,rfl,h2,h3,h1⟩:=h1
 obtain⟨x,rfl,rx⟩:=Wu rs
 cases Yh rx
 exact⟨j,rfl,h2,h3,q _ H1 _ _ C1 R1 t1 (λ_=>uk) h1⟩
end
def jn {K:W.Frag}{wi:TI}{g:TG}{tb:TS}{i:WI}{g':WG}{b:WS}(hi:uY K wi i)(hg:G1 K g g')(hb:G0 K tb b):G0 K (sw wi g tb) (jt i g' b):=λF H C σ τ D D' R S h d=>by
 refine hi F H C σ τ _ _ D'.xc R S h λJ H1 xs ok C1 R1 t1 it h1=>?_
 have it1:=it F
 refine⟨λi m σ H=>m=xs.length-i/\i<=xs.length/\∃τ C,Rl K F H C/\Tx H1 H/\Jz K H σ τ/\Mu g' b ok D' (xs.drop i) τ C,⟨xs.length,by simp,Nat.zero_le _,τ,C1,R1,Tx.refl _,S.tx t1,h1⟩,?_⟩
 rintro i m σ2 H2 ⟨rfl,hle,τ2,C2,R2,t2,S2,h2⟩
 by_cases hlt:i<xs.length
 ·right
  have ed:xs.drop i=xs[i]::xs.drop (i+1):=List.drop_eq_getElem_cons hlt
  rw[ed] at h2
  obtain⟨hok,h2⟩:=h2
  obtain⟨hgo,hy⟩:=(it1 i H2 C2 R2 t2 hok).1 hlt
  refine⟨hgo,λσ' H'=>∃τ' C',Rl K F H' C'/\Tx H1 H'/\Jz K H' σ' τ'/\Mu g' b ok D' (xs.drop (i+1)) τ' C',λσ' H' q=>⟨xs.length-(i+1),by omega,rfl,hlt,q⟩,λx H' hx=>?_⟩
  obtain⟨v,ev,R3,t3,rv⟩:=hy x H' hx
  have:v=xs[i]:=by
   have e:xs[i]?=some xs[i]:=by simp[hlt]
   rw[e] at ev;exact(YH ev).symm
  subst this
  refine hg F H' C2 σ2 τ2 x _ _ _ D'.xc R3 (S2.tx t3) rv h2 λσ4 τ4 H4 C4 R4 t4 S4 h4=>?_
  have tt:Tx H1 H4:=(t2.trans t3).trans t4
  exact hb F H4 C4 σ4 τ4 _ _ R4 S4 h4 ⟨λσ5 τ5 H5 C5 R5 t5 S5 h5=>⟨τ5,C5,R5,tt.trans t5,S5,h5⟩,λx v H5 C5 R5 t5=>d.rt x v H5 C5 R5 ((t1.trans tt).trans t5),λσ5 τ5 H5 C5 R5 t5 S5 h5=>d.nx σ5 τ5 H5 C5 R5 ((t1.trans tt).trans t5) S5 h5,
   λσ5 τ5 H5 C5 R5 t5 S5 h5=>⟨τ5,C5,R5,tt.trans t5,S5,h5⟩⟩
 ·left
  have e:i=xs.length:=by omega
  subst e
  rw[List.drop_length] at h2
  obtain⟨hok,h2⟩:=h2
  exact⟨(it1 _ H2 C2 R2 t2 hok).2 rfl,d.nx σ2 τ2 H2 C2 R2 (t1.trans t2) S2 h2⟩
def P4 {X:Cx}{tg iter:Expr}{body:List Stmt}{i:WI}{g:WG}{b:WS}{pos:Pos}(hp:PassesOwn (model X.prog X.w) X.A X.env X.xe)(hc:X.calm=true)(hi:tI X tg iter i)(hg:ny X tg g)(hb:Lp X body b)
  (hs:∀x,foldedSetIterable iter X.env x=pure x:=by intro _;rfl):Mh X (.For tg iter body [] pos) (jt i g b):=by
 obtain⟨t,p,s⟩:=hi
 obtain⟨t',p',s'⟩:=hg
 obtain⟨t2,p2,s2⟩:=hb
 exact⟨_,vz hp hc p p' p2 hs,jn s s' s2⟩
def si (K:W.Frag)(we:WE):TE:=λσ H Q=>∃(F:Hp) (C:Hw) (τ:Sw) (Q':WK) (χ:WX),Rl K F H C/\Jz K H σ τ/\we τ C Q' χ/\QE K F H Q Q'
def Fj (K:W.Frag)(wt:WT):TT:=λσ H Q=>∃(F:Hp) (C:Hw) (τ:Sw) (Q':Bool->Hw->Prop) (χ:WX),Rl K F H C/\Jz K H σ τ/\wt τ C Q' χ/\QT K F H Q Q'
def Jw.pe {X:Cx}{e:Expr}{we:WE}(h:Jw X e we):PE X e (si X.K we):=by
 obtain⟨t,p,s⟩:=h
 intro pins st σ H Q I hq
 obtain⟨F,C,τ,Q',χ,R,S,hw,q⟩:=hq
 exact p pins st σ H Q I (s F H C σ τ Q Q' χ R S hw q)
def Ai (X:Cx)(ifs:List Expr)(w:WT):Prop:=∃t,G3 X ifs t/\P7 X.K t w
def W7 {X:Cx}:Ai X [] Cz:=⟨_,j8,λF H C σ τ Q Q' χ R S h q=>q true H C R (Tx.refl H) h⟩
def K6 {X:Cx}{e:Expr}{wt:WT}(h:Ar X e wt):Ai X [e] wt:=by
 obtain⟨t,p,s⟩:=h
 exact⟨t,j7 p,s⟩
def Ai.pif {X:Cx}{ifs:List Expr}{w:WT}(h:Ai X ifs w):G3 X ifs (Fj X.K w):=by
 obtain⟨t,p,s⟩:=h
 intro pins st σ H Q I hq
 obtain⟨F,C,τ,Q',χ,R,S,hw,q⟩:=hq
 exact p pins st σ H Q I (s F H C σ τ Q Q' χ R S hw q)
def Jz.cap {K:W.Frag}{H:Hp}{σ:L2.St}{τ:Sw}(h:Jz K H σ τ)(cap:List (Option Nat)):Jz K H (V9 cap σ) (Ic cap τ):=by
 refine⟨by unfold V9 Ic;rw[XI,XI],λi v e=>?_⟩
 unfold Ic at e
 unfold V9
 rw[XM] at e |-
 cases ho:cap[i]? with
 | none=>rw[ho] at e;cases e
 | some o=>
  rw[ho] at e
  cases o with
  | none=>simp at e
  | some j=>
   have e':(τ[j]?).join=some v:=by simpa using e
   have e2:τ[j]?=some (some v):=by
    cases hj:τ[j]? with
    | none=>rw[hj] at e';cases e'
    | some z=>rw[hj] at e';rw[show z=some v from e']
   obtain⟨x,hx,r⟩:=h.2 j v e2
   exact⟨x,by simp[hx],r⟩
def yb (F:Hp)(p:Addr)(ys:List V):Hp:=λb=>if b=p then some (.lst ys) else F b
def Qo {F:Hp}{p:Addr}{ys:List V}:yb F p ys p=some (.lst ys):=by unfold yb;rw[XY rfl]
def K2 {F:Hp}{p b:Addr}{ys:List V}(h:b≠p):yb F p ys b=F b:=by unfold yb;rw[XX h]
def Nl {K:W.Frag}{cap:List (Option Nat)}{wi:TI}{g:TG}{i:WI}{wg:WG}{wc:WT}{we:WE}(hi:uY K wi i)(hg:G1 K g wg){F H:Hp}{C:Hw}{σ:L2.St}{τ:Sw}{Q:Addr->Hp->Prop}{Q':WK}{χ:WX}
  (R:Rl K F H C) (S:Jz K H σ τ) (h:Qp cap i wg wc we τ C Q' χ) (q:∀p H' C',Rl K F H' C'->Tx H H'->Q' (.ref p) C'->Q p H'):Nj cap wi g (Fj K wc) (si K we) σ H Q:=by
 refine hi F H C σ τ _ _ χ R S h λJ H1 xs ok C1 R1 t1 it h1=>?_
 intro p hp
 have hn:∀a o,F a=some o->a≠p:=λa o e=>Jc (R1.frm a o e).1 hp
 refine⟨λi m H2=>m=xs.length-i/\i<=xs.length/\∃C2 ys acc,Rl K (yb F p ys) H2 C2/\Tx H1 H2/\Reps K H2 ys acc/\Tj wg wc we ok (Ic cap τ) (λvs C2=>∀p,C2 p=none->Q' (.ref p) (up C2 p (.lst vs))) χ (xs.drop i) acc C2,
  ⟨xs.length,by simp,Nat.zero_le _,C1,[],[],?_,Tx.new hp,Ys,h1⟩,?_⟩
 ·refine⟨(R1.hid hp).obj,λa o e=>?_⟩
  by_cases ea:a=p
  ·subst ea
   rw[Qo] at e;cases e
   exact⟨Yy,R1.free hp⟩
  ·rw[K2 ea] at e
   exact(R1.hid hp).frm a o e
 rintro i m H2 ⟨rfl,hle,C2,ys,acc,R2,t2,ra,h2⟩
 by_cases hlt:i<xs.length
 ·right
  have ed:xs.drop i=xs[i]::xs.drop (i+1):=List.drop_eq_getElem_cons hlt
  rw[ed] at h2
  obtain⟨hok,h2⟩:=h2
  obtain⟨hgo,hy⟩:=(it (yb F p ys) i H2 C2 R2 t2 hok).1 hlt
  refine⟨hgo,λH'=>∃C2 ys acc,Rl K (yb F p ys) H' C2/\Tx H1 H'/\Reps K H' ys acc/\Tj wg wc we ok (Ic cap τ) (λvs C2=>∀p,C2 p=none->Q' (.ref p) (up C2 p (.lst vs))) χ (xs.drop (i+1)) acc C2,
   λH' z=>⟨xs.length-(i+1),by omega,rfl,hlt,z⟩,λx H' hx=>?_⟩
  obtain⟨v,ev,R3,t3,rv⟩:=hy x H' hx
  have:v=xs[i]:=by
   have e:xs[i]?=some xs[i]:=by simp[hlt]
   rw[e] at ev;exact(YH ev).symm
  subst this
  have S3:Jz K H' (V9 cap σ) (Ic cap τ):=(S.tx ((t1.trans t2).trans t3)).cap cap
  refine hg (yb F p ys) H' C2 (V9 cap σ) (Ic cap τ) x _ _ _ χ R3 S3 rv h2 λσ4 τ4 H4 C4 R4 t4 S4 h4=>?_
  refine⟨yb F p ys,C4,τ4,_,χ,R4,S4,h4,λb H5 C5 R5 t5 h5=>?_⟩
  have t15:Tx H2 H5:=(t3.trans t4).trans t5
  cases b with
  | true=>
   refine⟨yb F p ys,C5,τ4,_,χ,R5,S4.tx t5,h5,λy vy H6 C6 R6 t6 ry h6=>?_⟩
   obtain⟨e6,n6⟩:=R6.frm p _ Qo
   have tp:Tx H6 (Je H6 p (.lst (ys++[y]))):=Tx.put e6 (λz=>z)
   refine⟨ys,e6,by rw[ra.length];exact h6.1,C6,ys++[y],acc++[vy],⟨λa o e=>?_,λa o e=>?_⟩,(t2.trans (t15.trans t6)).trans tp,((ra.tx (t15.trans t6)).snoc ry).tx tp,h6.2⟩
   ·have ea:a≠p:=λz=>by subst z;rw[n6] at e;cases e
    exact(R6.obj a o e).stay tp (Z6 ea)
   ·by_cases ea:a=p
    ·subst ea
     rw[Qo] at e;cases e
     exact⟨Yy,n6⟩
    ·rw[K2 ea] at e
     rw[Z6 ea]
     exact R6.frm a o (by rw[K2 ea];exact e)
  | false=>exact⟨C5,ys,acc,R5,t2.trans t15,ra.tx t15,h5⟩
 ·left
  have e:i=xs.length:=by omega
  subst e
  rw[List.drop_length] at h2
  obtain⟨hok,h2⟩:=h2
  refine⟨(it (yb F p ys) _ H2 C2 R2 t2 hok).2 rfl,?_⟩
  obtain⟨e6,n6⟩:=R2.frm p _ Qo
  refine q p H2 (up C2 p (.lst acc)) ⟨λa o e=>?_,λa o e=>?_⟩ (t1.trans t2) (h2 p n6)
  ·by_cases ea:a=p
   ·subst ea
    rw[Zj] at e;cases e
    exact⟨ys,e6,ra⟩
   ·rw[Jq ea] at e
    exact R2.obj a o e
  ·have ea:=hn a o e
   rw[Jq ea]
   exact R2.frm a o (by rw[K2 ea];exact e)
section
variable {X:Cx}{tg iter elt:Expr}{ifs:List Expr}{scope:Scope}{pos:Pos}{cN:List Str}{cap:List (Option Nat)}{cl:List (Str×Addr)}{js:List Nat}{i:WI}{g:TG}{wg:WG}{wc:WT}{we:WE}
def Ph {K:W.Frag}{w:WT}:∀(σ:L2.St) (H:Hp) (Q Q':Bool->Hp->Prop),(∀b H',Q b H'->Q' b H')->Fj K w σ H Q->Fj K w σ H Q':=λσ H Q Q' m h=>by
 obtain⟨F,C,τ,R',χ,R,S,hw,q⟩:=h
 exact⟨F,C,τ,R',χ,R,S,hw,λb H' C' r t h=>m _ _ (q b H' C' r t h)⟩
structure wy (X:Cx)(tg iter elt:Expr)(ifs:List Expr)(scope:Scope)(cN:List Str)(cap:List (Option Nat))(cl:List (Str×Addr))(js:List Nat)(i:WI)(g:TG)(wg:WG)(wc:WT)(we:WE):Prop where
 calm:X.calm=true
 ok:X.Ok->Ru X cN cap scope cl
 it:tI X tg iter i
 tgt:∀fp s H,PG (Zo X cN scope cl fp s H) tg g
 gm:Vh g
 gk:Qx js g
 sg:G1 X.K g wg
 js0:∀j∈js,(cap[j]?).join=none
 ts:∀fp s H,Ai (Zo X cN scope cl fp s H) ifs wc
 el:∀fp s H,Jw (Zo X cN scope cl fp s H) elt we
 fold:∀x,foldedSetIterable iter X.env x=pure x
def N7 (D:wy X tg iter elt ifs scope cN cap cl js i g wg wc we):Jw X (.ListComp elt [⟨tg,iter,ifs,0⟩] scope pos) (Qp cap i wg wc we):=by
 obtain⟨wi,p,s⟩:=D.it
 have P:G7 X tg iter elt ifs scope cN cap cl js wi g (Fj X.K wc) (si X.K we):=⟨D.calm,D.ok,p,D.tgt,D.gm,D.gk,D.js0,λfp s H=>(D.ts fp s H).pif,Ph,λfp s H=>(D.el fp s H).pe,D.fold⟩
 exact⟨_,jA P,λF H C σ τ Q Q' χ R S h q=>Nl s D.sg R S h λp H' C' R' t' h'=>q _ _ H' C' R' t' Xw h'⟩
def N6 {k:Nat}{y:Str}{py spos:Pos}(hN:X.N.Nodup)(hi:X.N[k]?=some y)(hy:X.env.scope.names.lookup y=some .local)
  (hsw:swapsWith (.ListComp elt [⟨tg,iter,ifs,0⟩] scope pos) (some (.Name y py)) spos.line X.env=pure true)
  (D:wy X tg iter elt ifs scope cN cap cl js i g wg wc we):Mh X (.Assign [.Name y py] (.ListComp elt [⟨tg,iter,ifs,0⟩] scope pos) spos) (W1 (Qp cap i wg wc we) (T5 k)):=by
 obtain⟨wi,p,s⟩:=D.it
 have P:G7 X tg iter elt ifs scope cN cap cl js wi g (Fj X.K wc) (si X.K we):=⟨D.calm,D.ok,p,D.tgt,D.gm,D.gk,D.js0,λfp s H=>(D.ts fp s H).pif,Ph,λfp s H=>(D.el fp s H).pe,D.fold⟩
 exact⟨_,Fu hN hi hy hsw P,λF H C σ τ E E' R S h d=>Nl s D.sg R S h λp H' C' R' t' h'=>d.nx _ _ H' C' R' t' ((S.tx t').set Xw) h'⟩
end
def Yf {A:Around}{k:Nat}(hr:Y2 k A):A.units+150<cLine:=by have:=hr.un;omega
def spW (K:W.Frag)(pr:List Df)(n i:Nat):Sp:=λvs H Q _=>∃(F:Hp) (C:Hw) (vs':List T) (Q':WK) (χ:WX),Rl K F H C/\Reps K H vs vs'/\Xo pr n i vs' C Q' χ/\QE K F H Q Q'
def Ib {X:Cx}{k i:Nat}{x:Str}{ps:List Str}{pr:List Df}{p pos:Pos}{e:Expr}{es:List Expr}{wA:WA}(Cc:Ca X.prog X.w X.K X.mg X.base k x ps (spW X.K pr k i))(hr:Y2 k X.A)(hg:Gl X x)(ha:Mj X (e::es) wA)
  (hdb:(x==("__debug__":Str))=false:=by decide) (he:starEach (e::es) X.env=(false,eval e X.env)::starEach es X.env:=by rfl) (hpl:(backTo pos (starEach es X.env)).any (·.1)=false:=by rfl):
  Jw X (.Call (.Name x p) (e::es) [] pos) (Jp (Xo pr k) i wA):=by
 obtain⟨t,p1,s⟩:=ha
 refine⟨_,xM Cc hr hg p1 hdb he hpl,λF H C σ τ Q Q' χ R S h q=>?_⟩
 refine s F H C σ τ _ _ χ R S h λxs vs H1 C1 R1 t1 rs h1=>?_
 refine⟨F,C1,vs,Q',χ,R1,?_,h1,QE.at q t1⟩
 rw[YK];exact rs
def Jz.start {K:W.Frag}{H:Hp}{vs:List V}{vs':List T}(h:Reps K H vs vs')(N:List Str)(m:Nat)(e:m=N.length-vs.length):Jz K H (start N vs) (vs'.map some++List.replicate m none):=by
 refine⟨?_,λi v hv=>?_⟩
 ·unfold L2.start
  rw[List.length_append,List.length_append,XI,XI,List.length_replicate,List.length_replicate,h.length,e,h.length]
 ·unfold L2.start
  by_cases hi:i<vs'.length
  ·rw[List.getElem?_append_left (by rw[XI];exact hi),XM] at hv
   cases hg:vs'[i]? with
   | none=>rw[hg] at hv;cases hv
   | some z=>
    rw[hg] at hv
    cases hv
    obtain⟨x,hx,r⟩:=h.get hg
    refine⟨x,?_,r⟩
    rw[List.getElem?_append_left (by rw[XI,h.length];exact hi),XM,hx]
    rfl
  ·rw[List.getElem?_append_right (by rw[XI];omega),List.getElem?_replicate] at hv
   split at hv
   ·cases hv
   ·cases hv
def xu {P:Program}{w:World}{K:W.Frag}{mg:Str->Option Value}{base:Heap}{x:Str}{st:Stmt}{f:Addr}{fd:FuncData}{ps:List Str}{pr:List Df}{i:Nat}(F:P9 K x x st f fd)(hb:Xm K fd ps [])(hm:mg x=some (.ref f)):Ca P w K mg base 0 x ps (spW K pr 0 i):=
 ⟨f,fd,⟨λvs H Q E h=>by obtain⟨_,_,_,_,_,_,_,z,_⟩:=h;exact z.elim,λA outer s H args us vs Q E _ _ _ _ h=>by obtain⟨_,_,_,_,_,_,_,z,_⟩:=h;exact z.elim⟩,hb,F.kp,hm⟩
def xv {P:Program}{w:World}{K:W.Frag}{mg:Str->Option Value}{base:Heap}{x:Str}{st:Stmt}{f:Addr}{fd:FuncData}{ps:List Str}{sp:Sp}{n:Nat}(F:P9 K x x st f fd)(hb:Xm K fd ps [])(hm:mg x=some (.ref f))(G:Wi P w K mg base CX0 n f fd ps sp):Ca P w K mg base n x ps sp:=
 ⟨f,fd,G,hb,F.kp,hm⟩
def law_sp {K:W.Frag}{pr:List Df}{n i:Nat}{H:Hp}{a:Addr}{ns:List Int}(hO:yH H)(hS:Xz K H a (ns.map V.int))(h:Xo pr n i [.cl (ns.map T.int)] (λ_=>none) (λv _=>v=.bl true) (λ_ _=>False)):
  spW K pr n i [.ref a] H (λv _=>v=.bl true) (λ_ _ _=>False):=by
 have hq:yG K H a (ns.map V.int):=by
  rcases hS with(h | ⟨o,h⟩) | h
  ·rcases hO a with e | ⟨o,xs,e⟩
   ·rw[e] at h;cases h
   ·rw[e] at h;cases h
  ·exact .inl ⟨o,h⟩
  ·exact .inr h
 refine⟨λ_=>none,λ_=>none,[.cl (ns.map T.int)],_,_,⟨(λ_ _ e=>by cases e),(λ_ _ e=>by cases e)⟩,Zq ?_ Ys,h,λx v H' C' R t r e=>?_⟩
 ·unfold Jg
  exact⟨a,_,rfl,hq,La ns⟩
 ·subst e;exact Qh r
end WL
namespace L2
open PySem PySem.Spec PyProof.Rows
section
variable {κ:Type}[DecidableEq κ]
def jf (kvs:List (κ×V))(k:κ):Option V:=(kvs.find? λkv=>decide (kv.1=k)).map (·.2)
def vq (kvs:List (κ×V))(k:κ)(v:V):List (κ×V):=
 if (kvs.any λkv=>decide (kv.1=k))=true then kvs.map (λkv=>if kv.1=k then(kv.1,v) else kv) else kvs++[(k,v)]
def xZ (kvs:List (κ×V))(k:κ):List (κ×V):=kvs.filter λkv=>decide (kv.1≠k)
end
abbrev KT (H:Hp):List (List X2×V)->List (List X2×Addr×Value)->Prop:=Paired λp q=>p.1=q.1/\H q.2.1=some (.tup (p.1.map kV))/\Z3 p.2 q.2.2
section
variable {P:Program}{w:World}{H:Hp}{h:Heap}{a:Addr}
end
def t9 (H:Hp)(a:Addr)(y:V)(r:Option V):Prop:=
 (∃kvs k,Rd H a (.dK kvs)/\y=kV k/\r=jf kvs k)\/∃kvs k b,Rd H a (.dT kvs)/\y=.ref b/\H b=some (.tup (k.map kV))/\r=jf kvs k
def qA (H:Hp)(a:Addr)(y v:V)(H':Hp):Prop:=
 (∃kvs k,H a=some (.dK kvs)/\y=kV k/\kvs.length<sizeLine/\H'=Je H a (.dK (vq kvs k v)))\/
 ∃kvs k b,H a=some (.dT kvs)/\y=.ref b/\H b=some (.tup (k.map kV))/\kvs.length<sizeLine/\H'=Je H a (.dT (vq kvs k v))
section
variable {X:Cx}{pins:List (Addr×Obj)}{σ:St}{H:Hp}{s:Shared}{a:Addr}{y v:V}{u r:Value}{o:Option V}{A:Around}{E:Value->Shared->Prop}
def Zm.big (I:Zm X pins σ H s):sysModules<s.heap.objs.size:=by
 have h:mainGlobals<s.heap.objs.size:=(I.mod.glob.keeps I.bk).lt
 exact Nat.lt_trans (by decide) h
end
section
variable {X:Cx}{pins:List (Addr×Obj)}{σ:St}{H:Hp}{s:Shared}{a:Addr}{kvs:List (X2×V)}{k:X2}{u:Value}{A:Around}{E:Value->Shared->Prop}
end
def mG (i:Expr):Prop:=∀ov iv,subscripted i false ov iv=operate [ov,iv] (getItem ov iv)
def oW (td ty:TE):TE:=λσ H Q=>td σ H λx H1=>ty σ H1 λy H2=>∃a v,x=.ref a/\t9 H2 a y (some v)/\Q v H2
def nO (ty td:TE):TE:=λσ H Q=>ty σ H λy H1=>td σ H1 λx H2=>∃a o,x=.ref a/\t9 H2 a y o/\Q (.bl o.isSome) H2
def oY (td ty tv:TE):TS:=λD σ H=>tv σ H λv H1=>td σ H1 λx H2=>ty σ H2 λy H3=>∃a H4,x=.ref a/\qA H3 a y v H4/\D.nx σ H4
def ng (td ty tv:TE)(rd:V->V->Hp->VK->Prop):TS:=λD σ H=>td σ H λx H1=>ty σ H1 λy H2=>∃a v,x=.ref a/\t9 H2 a y (some v)/\
 tv σ H2 λy2 H3=>rd v y2 H3 λz H4=>∃H5,qA H4 a y z H5/\D.nx σ H5
def oZ (td ty:TE):TS:=λD σ H=>td σ H λx H1=>ty σ H1 λy H2=>∃a kvs k,x=.ref a/\H2 a=some (.dK kvs)/\y=kV k/\(jf kvs k).isSome=true/\D.nx σ (Je H2 a (.dK (xZ kvs k)))
section
variable {X:Cx}{o i e value:Expr}{pos pos' tpos:Pos}{td ty tv:TE}
end
def yp {P:Program}{w:World}{H:Hp}(h:Heap)(hb:sysModules<h.objs.size):Yt P w H (h.push {cls:=.type "dict",data:=.dict #[]}) h.objs.size (.dK []):=
 ⟨XO _,beq_eq_false_iff_ne.mpr (Ne.symm (XH hb)),[],.nil,Heap.DictOf.new h⟩
def wO:TE:=λ_ H Q=>∀p,H p=none->Q (.ref p) (Je H p (.dK []))
section
variable {X:Cx}{pos:Pos}
def z5:PE X (.Dict [] [] pos) wO:=λpins s σ H Q I h=>
 wpAny_Dict_empty ⟨.ref s.heap.objs.size,_,I.laid (a:=s.heap.objs.size) (o:=.dK []) (t':=s.toks) (λ_ _ q=>XC _ q) (XE _) (yp s.heap I.big),rfl,h _ (I.hok.fresh (XE _))⟩
end
def A9:List (TE×TE)->St->Hp->(List (V×V)->Hp->Prop)->Prop
 | [],_,H,Q=>Q [] H
 | (tk,tv)::r,σ,H,Q=>tk σ H λx H1=>tv σ H1 λy H2=>A9 r σ H2 λps H3=>Q ((x,y)::ps) H3
def vV (kvs more:List (X2×V)):List (X2×V):=more.foldl (λacc kv=>vq acc kv.1 kv.2) kvs
def oV (trs:List (TE×TE)):TE:=λσ H Q=>∀p,H p=none->A9 trs σ (Je H p (.dK [])) λps H2=>H2 p=some (.dK [])/\∃kvs:List (X2×V),ps=kvs.map (λkv=>(kV kv.1,kv.2))/\kvs.length<=15/\Q (.ref p) (Je H2 p (.dK (vV [] kvs)))
structure M1 (X:Cx)(o:Expr)(m:Str)(apos:Pos)(e:Expr)(cpos:Pos):Prop where
 base:attributeBase o m X.env (eval o X.env)=eval o X.env
 few:((backTo cpos (starEach [e] X.env)).all (λx=>!x.1)&&(backToKw cpos (keywordEach [] X.env)).all (λx=>x.1.isSome)
  &&decide (([e]:List Expr).length+([]:List Keyword).length+(if ([]:List Keyword).isEmpty then 0 else 1)<30))=true
 line:(apos.endLine==cpos.line)=true
 trees:backTo cpos (starEach [e] X.env)=[(false,eval e X.env)]
structure M2 (X:Cx)(o:Expr)(m:Str)(apos:Pos)(e f:Expr)(cpos:Pos):Prop where
 base:attributeBase o m X.env (eval o X.env)=eval o X.env
 few:((backTo cpos (starEach [e,f] X.env)).all (λx=>!x.1)&&(backToKw cpos (keywordEach [] X.env)).all (λx=>x.1.isSome)
  &&decide (([e,f]:List Expr).length+([]:List Keyword).length+(if ([]:List Keyword).isEmpty then 0 else 1)<30))=true
 line:(apos.endLine==cpos.line)=true
 trees:backTo cpos (starEach [e,f] X.env)=[(false,eval e X.env),(false,eval f X.env)]
def mL (H:Hp)(a:Addr):Prop:=(∃kvs,Rd H a (.dK kvs))\/∃kvs,Rd H a (.dT kvs)
section
variable {X:Cx}{pins:List (Addr×Obj)}{σ:St}{H:Hp}{s:Shared}{a:Addr}{y d:V}{u r:Value}{o:Option V}{A:Around}{E:Value->Shared->Prop}
end
def p6 (td ty:TE):TE:=λσ H Q=>td σ H λx H1=>∃a,x=.ref a/\mL H1 a/\ty σ H1 λy H2=>∃kvs k v,H2 a=some (.dK kvs)/\y=kV k/\jf kvs k=some v/\Q v (Je H2 a (.dK (xZ kvs k)))
section
variable {X:Cx}{o e f:Expr}{apos cpos:Pos}{td ty tx:TE}
end
section
variable {X:Cx}{pins:List (Addr×Obj)}{σ:St}{H:Hp}{s:Shared}{a:Addr}{kvs:List (X2×V)}{A:Around}{E:Value->Shared->Prop}
end
section
variable {X:Cx}{pins:List (Addr×Obj)}{σ:St}{H:Hp}{s:Shared}{a:Addr}{y:V}{u:Value}{A:Around}{E:Value->Shared->Prop}
end
end L2
namespace WL
open PySem PySem.Spec PyProof.Rows L2
section
variable {X:Cx}{a b c e o i:Expr}{es:List Expr}{wa wb wc wo wi:WE}{wA:WA}{pos p p2 apos cpos:Pos}
end
def kT:T->Option X2
 | .int i=>some (.inl i)
 | .str x=>some (.inr x)
 | _=>none
def tK:X2->T
 | .inl i=>.int i
 | .inr x=>.str x
def jU (kvs:List (X2×T))(k:X2):Option T:=(kvs.find? λkv=>decide (kv.1=k)).map (·.2)
def pP (kvs:List (X2×T))(k:X2)(v:T):List (X2×T):=
 if (kvs.any λkv=>decide (kv.1=k))=true then kvs.map (λkv=>if kv.1=k then(kv.1,v) else kv) else kvs++[(k,v)]
section
variable {K:W.Frag}{F H:Hp}{C:Hw}
def Rl.newD (R:Rl K F H C){p:Addr}{kvs:List (X2×T)}{ks:List (X2×V)}(h:H p=none)(r:PR K H ks kvs):Rl K F (Je H p (.dK ks)) (up C p (.dic kvs)):=R.new h ⟨ks,Yy,Dk (Tx.new h) r⟩
end
def uC:WE:=λ_ C Q _=>∀p,C p=none->Q (.ref p) (up C p (.dic []))
section
variable {X:Cx}{a b c e o i f:Expr}{es:List Expr}{wa wb wc wo wi wd:WE}{wA:WA}{pos p p2 apos cpos:Pos}
def xl:Jw X (.Dict [] [] pos) uC:=⟨_,z5,λF H C σ τ Q Q' χ R S h q p hp=>q _ _ _ _ (R.newD hp .nil) (Tx.new hp) Xw (h p (R.free hp))⟩
end
end WL
namespace L2
open PySem PySem.Spec PyProof.Rows
def yA (w:World):Bool:=w.params.followText "set-order"
def jE (t:SetTable)(n:Nat):(t.orStandIn n).led=t.led:=by
 unfold SetTable.orStandIn
 split<;>rfl
def Bm (t:SetTable)(n:Nat)(p:t.plain=false):(t.orStandIn n).plain=false:=by
 unfold SetTable.orStandIn
 split
 ·exact p
 ·rfl
def jM (t:SetTable)(es:Array (Int×Value))(h:Int)(x:Value):(layNew t es h x).2.1.led=t.led:=by
 unfold layNew
 split
 ·exact jE _ _
 ·rfl
def Bx (t:SetTable)(es:Array (Int×Value))(h:Int)(x:Value)(p:t.plain=false):(layNew t es h x).2.1.plain=false:=by
 unfold layNew
 split
 ·exact Bm _ _ p
 ·rfl
def Be (t:SetTable)(es:Array (Int×Value))(n:Nat):(relayAll t es n).2.1.led=t.led:=by
 unfold relayAll
 split
 ·rename_i t' order e
  unfold SetTable.relaid SetTable.laid at e
  cases hq:SetTable.layClean (SetTable.sizeAbove n-1) (es.map (·.1)) with
  | none=>rw[hq] at e;cases e
  | some ow=>
   rw[hq] at e
   simp only[Option.bind_eq_bind,Option.bind_some,Option.pure_def,Option.some.injEq,Prod.mk.injEq] at e
   obtain⟨rfl,rfl⟩:=e
   dsimp only
   split<;>rfl
 ·rfl
def Hc (t:SetTable)(es:Array (Int×Value))(n:Nat)(p:t.plain=false):(relayAll t es n).2.1.plain=false:=by
 unfold relayAll
 split
 ·rename_i t' order e
  unfold SetTable.relaid SetTable.laid at e
  cases hq:SetTable.layClean (SetTable.sizeAbove n-1) (es.map (·.1)) with
  | none=>rw[hq] at e;cases e
  | some ow=>
   rw[hq] at e
   simp only[Option.bind_eq_bind,Option.bind_some,Option.pure_def,Option.some.injEq,Prod.mk.injEq] at e
   obtain⟨rfl,rfl⟩:=e
   dsimp only
   split
   ·exact p
   ·rfl
 ·rfl
def X3 (e:Int×Value):Str:=strOf e.2
structure Vt (P:Program)(w:World)(h:Heap)(a:Addr)(es:Array (Int×Value))(ep:Nat)(t:SetTable):Prop where
 get:h.get? a=some {cls:=.type "set",dict:=none,data:=.set es ep t,slots:=#[]}
 els:ElemsOf (PySem.strKind P w) es.toList
 fit:t.fits es.size=true
 bnd:es.size<scanBound
 pln:es.size≠0->t.plain=false
 led:t.led=!yA w
 nod:(es.toList.map X3).Nodup
def xf {P:Program}{w:World}{l:List (Int×Value)}(h:ElemsOf (PySem.strKind P w) l){e:Int×Value}(m:e∈l):∃tk,e=(hashStr w (X3 e),Value.str (X3 e) tk):=by
 obtain⟨⟨k,hk,hh⟩,_⟩:=h e m
 obtain⟨tk,hv⟩:=Value.isStrOf_shape hk
 obtain⟨i,v⟩:=e
 simp only at hv hh
 subst hv
 exact⟨tk,by rw[hh];rfl⟩
def xS {P:Program}{w:World}{l:List (Int×Value)}(h:ElemsOf (PySem.strKind P w) l){e:Int×Value}(m:e∈l)(k:Str):(PySem.strKind P w).is k e.2=true↔X3 e=k:=by
 obtain⟨tk,he⟩:=xf h m
 constructor
 ·intro hk
  obtain⟨t',hv⟩:=Value.isStrOf_shape hk
  unfold X3;rw[hv];rfl
 ·intro hk
  rw[he,hk]
  show Value.isStrOf k (Value.str k tk)=true
  simp[Value.isStrOf]
section
variable {prog:Program}{w:World}{A:Around}{E:Value->Shared->Prop}{s:Shared}
def Dj {h:Heap}{a:Addr}{es:Array (Int×Value)}{ep:Nat}{t:SetTable}(g:h.get? a=some {cls:=.type "set",dict:=none,data:=.set es ep t,slots:=#[]})(es':Array (Int×Value))(t':SetTable):
  (h.update a (Obj.putSet es' t')).get? a=some {cls:=.type "set",dict:=none,data:=.set es' (ep+1) t',slots:=#[]}:=by
 have q:=Heap.get?_update_self (Obj.putSet es' t') g (by rw[putSet_of es' t' rfl];rfl)
 rw[putSet_of es' t' rfl] at q
 exact q
def Gy {g:Bool->Sem Unit}(hg:∀(b:Bool) (s₁:Shared) (Q':Unit->Shared->Prop),Q' () s₁->wpAny (model prog w) A (g b) Q' E s₁)
  {a:Addr} {es:Array (Int×Value)} {ep:Nat} {t:SetTable} (ho:s.heap.get? a=some {cls:=.type "set",dict:=none,data:=.set es ep t,slots:=#[]})
  {e1:Array (Int×Value)} {t2:SetTable} (h1:ElemsOf (PySem.strKind prog w) e1.toList) (h2:t2.fits e1.size=true) (h3:e1.size<scanBound) (h4:t2.plain=false) (h5:t2.led=!yA w) (h6:(e1.toList.map X3).Nodup)
  {wd:Bool} {R:Option Bool->Shared->Prop}
  (h:∀h' e2 ep' t',Heap.SameBut a s.heap h'->Vt prog w h' a e2 ep' t'->List.Perm e2.toList e1.toList->R (some true) {s with heap:=h'}):
  wpAny (model prog w) A (do
    storeSet a e1 t2
    if (!wd&&t2.tooFull)=true then do
      g (relayAll t2 e1 (SetTable.grown e1.size)).2.2
      storeSet a (relayAll t2 e1 (SetTable.grown e1.size)).1 (relayAll t2 e1 (SetTable.grown e1.size)).2.1
      pure (some true)
     else pure (some true)) R E s:=by
 refine XA (wpAny_storeSet_of ho rfl ?_ (fits_of_scanBound h3))
 have g1:=Dj ho e1 t2
 have b1:=Heap.SameBut.update s.heap a (Obj.putSet e1 t2)
 split
 ·have hp:=relayAll_perm t2 e1 (SetTable.grown e1.size)
  have hf:=relayAll_fits t2 e1 (SetTable.grown e1.size)
  have hl:=Be t2 e1 (SetTable.grown e1.size)
  have hq:=Hc t2 e1 (SetTable.grown e1.size) h4
  generalize relayAll t2 e1 (SetTable.grown e1.size)=Z at hp hf hl hq |-
  obtain⟨e2,t3,gv⟩:=Z
  dsimp only at hp hf hl hq |-
  have hz:e2.size=e1.size:=by rw[<-Array.length_toList,hp.length_eq,Array.length_toList]
  have hb:e2.size<scanBound:=by rw[hz];exact h3
  refine XA (hg _ _ _ ?_)
  refine XA (wpAny_storeSet_of g1 rfl ?_ (fits_of_scanBound hb))
  exact XB (h _ e2 _ t3 (b1.trans (Heap.SameBut.update _ a _)) ⟨Dj g1 e2 t3,h1.perm hp,hf,hb,λ_=>hq,hl.trans h5,(hp.map X3).nodup_iff.mpr h6⟩ hp)
 ·exact XB (h _ e1 _ t2 b1 ⟨g1,h1,h2,h3,λ_=>h4,h5,h6⟩ (List.Perm.refl _))
def yF {a:Addr}{es:Array (Int×Value)}{ep:Nat}{t:SetTable}{x:Str}{tk:Tok}{Q:Bool->Shared->Prop}(S:Vt prog w s.heap a es ep t)(hr:es.size+1<scanBound)
  (h:∀(b:Bool) h' es' ep' t',Heap.SameBut a s.heap h'->Vt prog w h' a es' ep' t'->(∀y,y∈es'.toList.map X3↔y∈es.toList.map X3\/y=x)->es'.size<=es.size+1->Q b {s with heap:=h'}):
  wpAny (model prog w) A (setAddHashed a (.str x tk) (hashStr w x)) Q E s:=by
 have hk:(PySem.strKind prog w).is x (Value.str x tk)=true:=by show Value.isStrOf x (Value.str x tk)=true;simp[Value.isStrOf]
 have hsc:(Value.str x tk).scannable=true:=rfl
 have e0:hashStr w x=(PySem.strKind prog w).hash x:=rfl
 rw[e0]
 unfold setAddHashed setAddHashedIn
 refine wpAny_holding (XA (wpAny_setState_of S.get rfl S.fit ?_))
 dsimp only
 rw[byScan_of hsc S.bnd S.els]
 simp only[↓reduceIte]
 unfold setAddByScan
 refine XA ?_
 refine XA (wpAny_rule ?_)
 refine XA (wpAny_setScan_of hk S.get rfl S.fit S.els ?_)
 cases hf:List.findIdx? (λe=>(PySem.strKind prog w).is x e.2) es.toList with
 | some j=>
  dsimp only
  obtain⟨hj,hp,_⟩:=List.findIdx?_eq_some_iff_getElem.mp hf
  have hm:x∈es.toList.map X3:=XR.mpr ⟨_,YN hj,(xS S.els (YN hj) x).mp hp⟩
  refine XB (XB ?_)
  have q:=h false s.heap es ep t (Heap.SameBut.refl a s.heap) S (λy=>⟨.inl,λz=>z.elim id λz=>z▸hm⟩) (Nat.le_succ _)
  exact q
 | none=>
  dsimp only
  have hn:x∉es.toList.map X3:=λhm=>by
   obtain⟨e,he,hx⟩:=XR.mp hm
   have z:=List.findIdx?_eq_none_iff.mp hf e he
   rw[(xS S.els he x).mpr hx] at z
   cases z
  have hp:=layNew_perm t es ((PySem.strKind prog w).hash x) (Value.str x tk)
  have hfi:=layNew_fits t es ((PySem.strKind prog w).hash x) (Value.str x tk)
  have hl:=jM t es ((PySem.strKind prog w).hash x) (Value.str x tk)
  have hpl:=Bx t es ((PySem.strKind prog w).hash x) (Value.str x tk)
  generalize layNew t es ((PySem.strKind prog w).hash x) (Value.str x tk)=L at hp hfi hl hpl |-
  obtain⟨e1,t1,wd,gv⟩:=L
  dsimp only at hp hfi hl hpl |-
  rw[Array.toList_push] at hp
  have h1:ElemsOf (PySem.strKind prog w) e1.toList:=(S.els.push hk hsc).perm hp
  have hz:e1.size=es.size+1:=by rw[<-Array.length_toList,hp.length_eq,List.length_append,Array.length_toList];rfl
  have hm:List.Perm (e1.toList.map X3) (es.toList.map X3++[x]):=by
   have q:=hp.map X3
   rw[XL] at q
   exact q
  have h6:(e1.toList.map X3).Nodup:=hm.nodup_iff.mpr (by
   rw[List.nodup_append]
   refine⟨S.nod,by simp,λy hy z hz=>?_⟩
   rw[XQ] at hz
   subst hz
   exact λe=>hn (e▸hy))
  have hg:∀(b:Bool) (s₁:Shared) (Q':Unit->Shared->Prop),Q' () s₁->wpAny (model prog w) A (match b with | true=>rule "set.scan.the-table-gave-way" | false=>pure ()) Q' E s₁:=
   λb s₁ Q' hq=>by cases b<;>first | exact XB hq | exact wpAny_rule hq
  have hend:∀h' e2 ep' t',Heap.SameBut a s.heap h'->Vt prog w h' a e2 ep' t'->List.Perm e2.toList e1.toList->Q true {s with heap:=h'}:=λh' e2 ep' t' b S' p=>
   h true h' e2 ep' t' b S' (λy=>by rw[((p.map X3).trans hm).mem_iff,XS,XQ]) (by rw[<-Array.length_toList,p.length_eq,Array.length_toList,hz];exact XE _)
  refine XA (hg gv _ _ ?_)
  split
  ·refine XA ?_
   rw[hashByValue_scannable 8 hsc]
   refine XB ?_
   simp only[plainKind,Bool.false_eq_true,↓reduceIte]
   refine Gy ?_ S.get h1 (SetTable.fits_plain_off hfi) (by rw[hz];exact hr) rfl (hl.trans S.led) h6 ?_
   ·intro b s₁ Q' hq;cases b<;>first | exact XB hq | exact wpAny_rule hq
   ·intro h' e2 ep' t' b S' p;exact XB (hend h' e2 ep' t' b S' p)
  ·rename_i hpn
   refine XA (XB ?_)
   simp only[↓reduceIte]
   refine Gy ?_ S.get h1 hfi (by rw[hz];exact hr) (by simpa using hpn) (hl.trans S.led) h6 ?_
   ·intro b s₁ Q' hq;cases b<;>first | exact XB hq | exact wpAny_rule hq
   ·intro h' e2 ep' t' b S' p;exact XB (hend h' e2 ep' t' b S' p)
end
section
variable {prog:Program}{w:World}{A:Around}{R:Result->Shared->Prop}{I:Addr}{fp wr:List Addr}{G:Array GenState->Array GenState->Prop}{n:Nat}{P:Nat->Value->Prop}{St:Nat->Shared->Prop}
def Iu (W:WalksS prog w A.in1 I fp wr G n P St)(a:Addr)(haf:a∉fp)(xs:List Str)(hxs:xs.length=n)(hv:∀i v,P i v->∃x t,xs[i]?=some x/\v=.str x t)(hb:n+1<scanBound):
  ∀(k i:Nat) (s:Shared) (es:Array (Int×Value)) (ep:Nat) (t:SetTable),n-i=k->i<=n->St i s->Vt prog w s.heap a es ep t->(∀y,y∈es.toList.map X3↔y∈xs.take i)->es.size<=i->
   (∀s' es' ep' t',Moved (a::wr) G s s'->Vt prog w s'.heap a es' ep' t'->(∀y,y∈es'.toList.map X3↔y∈xs)->R (.ok (.ret .none)) s')->
   codeAny (model prog w) A (.builtin "set.update.loop" ⟨[.ref a,.ref I],[]⟩) R s:=by
 have haw:a∉wr:=λh=>haf (W.sub _ h)
 have sub1:∀b∈wr,b∈a::wr:=λb hb=>XV _ hb
 intro k
 induction k with
 | zero=>
  intro i s es ep t hk hi hst S hm hz hR
  have e:i=n:=by omega
  subst e
  refine codeAny_builtin PyProof.Rows.F.entry_set_update_loop ?_
  rw[Around.under_plainId PyProof.Rows.F.plain_set_update_loop _]
  show wpAny _ A.in1 (pyNext (.ref I)>>=_) _ _ s
  refine XA (W.done s _ _ hst λs' mv=>?_)
  refine XB (hR s' es ep t (mv.mono sub1) {S with get:=mv.heap a _ haw S.get} λy=>?_)
  rw[hm y,List.take_of_length_le (by rw[hxs];exact XE _)]
 | succ k ih=>
  intro i s es ep t hk hi hst S hm hz hR
  have hlt:i<n:=by omega
  refine codeAny_builtin PyProof.Rows.F.entry_set_update_loop ?_
  rw[Around.under_plainId PyProof.Rows.F.plain_set_update_loop _]
  show wpAny _ A.in1 (pyNext (.ref I)>>=_) _ _ s
  refine XA (W.item i s _ _ hlt hst λv s' hP hst' mv=>?_)
  obtain⟨x,tk,hx,rfl⟩:=hv i v hP
  have S':Vt prog w s'.heap a es ep t:={S with get:=mv.heap a _ haw S.get}
  show wpAny _ A.in1 (holding [Value.str x tk] (setAdd a (.str x tk))>>=_) _ _ s'
  refine XA (wpAny_holding ?_)
  unfold setAdd
  refine wpAny_holding ?_
  refine wpAny_bind ((PySem.strKind prog w).pyHash (k:=x) (by show Value.isStrOf x (Value.str x tk)=true;simp[Value.isStrOf]) ?_)
  refine yF (s:={s' with toks:=s'.toks+1}) S' (by omega) λb h' es' ep' t' sb S2 hm2 hz2=>?_
  refine XB ⟨plainId_quiet PyProof.Rows.F.plain_set_update_loop _,ih (i+1) _ es' ep' t' (by omega) hlt (W.frame _ s' _ _ hst' (Nat.le_succ _) λb hb o e=>?_) S2 (λy=>?_) (by omega) λs'' e3 ep3 t3 mv3 S3 hm3=>?_⟩
  ·rw[sb.2 b (λh:b=a=>haf (by rw[<-h];exact hb))];exact e
  ·rw[hm2 y,hm y,YD,hx,XS]
   simp
  ·refine hR s'' e3 ep3 t3 (Moved.trans W.gtrans ((mv.mono sub1).then_heap (Nat.le_succ _) λb o hb e=>?_) mv3) S3 hm3
   rw[sb.2 b (λh:b=a=>hb (by rw[h];exact List.mem_cons_self))];exact e
end
section
variable {prog:Program}{w:World}{A:Around}{E:Value->Shared->Prop}{s:Shared}
abbrev Z1 (w:World):Obj:={cls:=.type "set",dict:=none,data:=.set #[] 0 (.fresh 0 0 (!yA w))}
def Dr (a:Value){Q₁:Value->Shared->Prop}(h:Q₁ (.ref s.heap.objs.size) {s with heap:=s.heap.push (Z1 w)}):
  codeAny (model prog w) A (.call (.builtin "set.__new__") ⟨[.type "set",a],[]⟩) (wants Q₁ E) s:=by
 refine codeAny_of_tree ?_
 show wpAny _ A.in1 (do checkBuiltinCall "set.__new__" ⟨[.type "set",a],[]⟩;again (.builtin "set.__new__" ⟨[.type "set",a],[]⟩)) _ _ s
 refine XA (wpAny_of_eq (F.newCall_set_1 a) (XB ⟨plainId_quiet F.plain_set_new _,codeAny_builtin F.entry_set_new ?_⟩))
 rw[Around.under_plainId F.plain_set_new _]
 unfold Builtin.«set.__new__» Builtin.Frozenset.newClass
 have hsub:=sub_set_self
 obtain⟨hp,g,d,tk,os⟩:=s
 dsimp only
 wp_walk
 refine wpAny_askSetting (XB ?_)
 dsimp only
 simp only[newObj]
 refine XA (wpAny_alloc (XB ?_))
 exact XB h
def A4 {vs:List Value}{xs:List Str}(h:StrsAre vs xs):∀(i:Nat) (v:Value),vs[i]?=some v->∃x t,xs[i]?=some x/\v=.str x t:=by
 induction h with
 | nil=>intro i v e;simp at e
 | cons x t h ih=>
  intro i v e
  cases i with
  | zero=>simp at e;exact⟨x,t,rfl,e.symm⟩
  | succ i=>simp only[List.getElem?_cons_succ] at e |-;exact ih i v e
def Oz {vs:List Value}{xs:List Str}(h:StrsAre vs xs):xs.length=vs.length:=by
 induction h with
 | nil=>rfl
 | cons x t h ih=>simp[ih]
def Mf {l:Addr}{items:Array Value}{xs:List Str}{Q:Value->Shared->Prop}(hh:A.handled=none)(hl:s.heap.IsList l items)(hi:StrsAre items.toList xs)(hb:items.size+1<scanBound)
  (h:∀(h':Heap) (tk:Nat) es ep t,Vt prog w h' s.heap.objs.size es ep t->(∀y,y∈es.toList.map X3↔y∈xs)->
   (∀b o,s.heap.get? b=some o->h'.get? b=some o)->Q (.ref s.heap.objs.size) {s with heap:=h',toks:=tk}):
  wpAny (model prog w) A (call (.type "set") [.ref l]) Q E s:=by
 obtain⟨c,tl,hmro⟩:=F.called_set.mro
 have hmade:=F.called_set.made
 have hsub:=F.called_set.sub
 refine wpAny_call (codeAny_of_tree ?_)
 show wpAny _ _ (callAny (.type "set") _) _ _ _
 refine XB ⟨Code.quiet_builtin _ (by decide+kernel),codeAny_builtin F.entry_type_call ?_⟩
 rw[Around.under_plain (weight_type_call_type "set" [.ref l] []) rfl]
 have h1:=F.called_set.notType
 have h2:=F.called_set.canCreate
 have hct:=F.typeCall_set_1 (.ref l)
 repeat (any_goals (first | assumption | wp_step))
 refine codeAny_mono (Dr (.ref l) (E:=E) (Q₁:=λobj s₁=>obj=.ref s.heap.objs.size/\s₁={s with heap:=s.heap.push (Z1 w)}) ⟨rfl,rfl⟩) λr s₁ hr=>?_
 cases r with
 | error e=>exact hr
 | ok fl=>
  cases fl with
  | ret obj=>
   obtain⟨rfl,rfl⟩:=hr
   have hS:(s.heap.push (Z1 w)).get? s.heap.objs.size=some (Z1 w):=XF _ rfl
   have hT:Shared.TypeIs {s with heap:=s.heap.push (Z1 w)} (.ref s.heap.objs.size) "set":=⟨_,hS,rfl⟩
   have hli:=F.called_set.init.lookup
   have hbi:=F.called_set.init.bind (.ref s.heap.objs.size)
   repeat (any_goals (first | assumption | wp_step))
   refine codeAny_mono (codeAny_call_builtin (R:=wants (λr s₂=>r=.none/\∃h' tk,s₂={s with heap:=h',toks:=tk}/\∃es ep t,Vt prog w h' s.heap.objs.size es ep t/\(∀y,y∈es.toList.map X3↔y∈xs)/\
     (∀b o,s.heap.get? b=some o->h'.get? b=some o)) E) F.called_set.init.plain F.entry_set_init (check_set_init_1 hT ?_)) λr₂ s₂ hr₂=>?_
   ·obtain⟨ol,hol,hcl,nl,hdl⟩:=hl
    obtain⟨ocls,odict,odata,oslots⟩:=ol
    simp only at hcl hdl
    subst hcl;subst hdl
    have hol':(s.heap.push (Z1 w)).get? l=some {cls:=.type "list",dict:=odict,data:=.seq items nl,slots:=oslots}:=XC _ hol
    have hsls:=F.sub_list_set
    have hslf:=F.sub_list_frozenset
    have hne:(Value.type "list"==Value.type "dict")=false:=by decide
    have hl1:(s.heap.push (Z1 w)).IsList l items:=⟨_,hol',rfl,nl,rfl⟩
    unfold Builtin.«set.__init__» noKeywords Builtin.Frozenset.updateFrom
    generalize hPI:pyIter=PI
    wp_walk
    subst hPI
    refine wpAny_pyIter_list hl1 ?_
    refine XA (wpAny_runValue ?_)
    have hlS:l<s.heap.objs.size:=XD hol
    have hh3:A.in1.in1.in1.handled=none:=by simp[hh]
    have hz:(s.heap.push (Z1 w)).objs.size=s.heap.objs.size+1:=size_push' _ _
    have hneI:l≠(s.heap.push (Z1 w)).objs.size:=by rw[hz];exact XH (Nat.lt_succ_of_lt hlS)
    have hSf:s.heap.objs.size∉[(s.heap.push (Z1 w)).objs.size,l]:=by
     rw[hz];simp only[List.mem_cons,List.mem_singleton,List.not_mem_nil,or_false,not_or]
     exact⟨XH (Nat.lt_succ_self _),Nat.ne_of_gt hlS⟩
    have hget:((s.heap.push (Z1 w)).push {cls:=.type "list_iterator",data:=.fields #[.ref l,.int 0 0]}).get? s.heap.objs.size=some (Z1 w):=XC _ hS
    refine Iu ((Walks.list hh3 _ l hneI items).toS) s.heap.objs.size hSf xs (by rw[Oz hi];simp) (λi v hv=>A4 hi i v (by rw[Array.getElem?_toList];exact hv)) hb (items.size-0) 0 _ #[] 0 (.fresh 0 0 (!yA w)) (by omega) (Nat.zero_le _)
     ⟨⟨_,Heap.get?_push_size _ rfl,rfl,rfl⟩,(hl1.push _)⟩ ⟨hget,λe he=>by simp at he,by rfl,by decide,λz=>absurd rfl z,rfl,by simp⟩ (λy=>by simp) (by simp) ?hR
    intro s' es' ep' t' hm S' hm'
    obtain⟨h',g',d',tk',os'⟩:=s'
    have eg:g'=s.gens:=hm.gens
    have ed:d'=s.drawn:=hm.drawn
    have eo:os'=s.os:=hm.os
    subst eg;subst ed;subst eo
    show wpAny _ _ _ _ _ _
    refine XB ?_
    show wpAny _ _ (ret Value.none) _ _ _
    refine XB ⟨rfl,h',tk',rfl,es',ep',t',S',hm',λb o e=>?_⟩
    have hb0:=XD e
    exact hm.heap b o (by simp only[List.mem_cons,List.mem_singleton,List.not_mem_nil,or_false,not_or];exact⟨Nat.ne_of_lt hb0,by rw[hz];exact Nat.ne_of_lt (Nat.lt_succ_of_lt hb0)⟩) (Heap.get?_push_of_some _ (Heap.get?_push_of_some _ e))
   ·cases r₂ with
    | error e=>exact hr₂
    | ok fl₂=>
     cases fl₂ with
     | ret r=>
      obtain⟨rfl,h',tk,rfl,es',ep',t',S',hm',hk'⟩:=hr₂
      repeat (any_goals (first | assumption | wp_step))
      exact h _ _ _ _ _ S' hm' hk'
     | _=>exact hr₂.elim
  | _=>exact hr.elim
end
section
variable {X:Cx}{pins:List (Addr×Obj)}{s:Shared}{σ:St}{H:Hp}
def M4 {vs:List Value}:∀{xs:List Str},Zx (xs.map V.str) vs->StrsAre vs xs:=by
 intro xs h
 induction xs generalizing vs with
 | nil=>cases h;exact .nil
 | cons x r ih=>
  cases h with
  | cons a b=>
   obtain⟨t,rfl⟩:=a
   exact .cons x t (ih b)
def zg (P:Program)(w:World)(a:Addr)(xs:List Str):HO:=.ext λh=>∃es ep t,Vt P w h a es ep t/\∀y,y∈es.toList.map X3↔y∈xs
def E8 {P:Program}{w:World}{H:Hp}{h:Heap}{a:Addr}{xs:List Str}{es:Array (Int×Value)}{ep:Nat}{t:SetTable}(S:Vt P w h a es ep t)(m:∀y,y∈es.toList.map X3↔y∈xs):Yt P w H h a (zg P w a xs):=
 ⟨⟨es,ep,t,S,m⟩,⟨_,S.get⟩,λh1 h2 ⟨es,ep,t,S,m⟩ k=>⟨es,ep,t,{S with get:=k _ S.get},m⟩⟩
def Ad (hc:X.calm=true):Xb X (.type "set") (λxs H Q=>∃(p:Addr) (ts:List Str),xs=[.ref p]/\Xz X.K H p (ts.map V.str)/\ts.length+1<scanBound/\∀q,H q=none->Q (.ref q) (Je H q (zg X.prog X.w q ts))):=by
 intro pins s σ H xs us Q I r h
 obtain⟨p,ts,rfl,hq,hb,q⟩:=h
 obtain⟨u,rfl,ru⟩:=Uf r
 cases ru
 obtain⟨its,rv,pl,hz⟩:=I.list hq
 have hS:=M4 rv
 have hl:=Oz hS
 refine Mf (I.ok.hd hc) pl.isList (xs:=ts) (by simpa using hS) (by rw[List.size_toArray,<-hl];exact hb) λh' tk es ep t S m k=>?_
 have hf:=I.hok.fresh (XE s.heap.objs.size)
 exact⟨.ref s.heap.objs.size,_,I.laid k (XE _) (E8 S m),rfl,q _ hf⟩
end
end L2
namespace WL
open PySem PySem.Spec PyProof.Rows L2
def uM:bootBuiltins "set"=some (.type "set"):=by decide+kernel
def O3 {K:W.Frag}{H:Hp}:∀{ts:List Str} {ys:List V},Reps K H ys (ts.map T.str)->ys=ts.map V.str
 | [],_,h=>Wv h
 | t::ts,_,h=>by
  obtain⟨y,r,rfl,a,b⟩:=Jt h
  rw[Yu a,O3 b];rfl
section
variable {X:Cx}{e:Expr}{we:WE}{pos p p2 pos2:Pos}
end
end WL
namespace L2
open PySem PySem.Spec PyProof.Rows
def oH (K:W.Frag)(a:Addr)(n:Nat):It:=
 ⟨λi H=>i<n/\∃xs x,Xz K H a xs/\xs[n-1-i]?=some x,λi H x H'=>H'=H/\∀xs,Xz K H a xs->xs[n-1-i]?=some x,λi H=>i=n⟩
def A5 {P:Program}{w:World}{K:W.Frag}{tg:Expr}(a it:Addr)(n:Nat):Gz P w K tg (oH K a n) [it] it (λi h=>i<=n/\h.IsRevIter it a ((n:Int)-1-(i:Int))) where
 mem:=by simp
 obj:=λi h st b hb=>by
  have e:b=it:=by simpa using hb
  subst e
  obtain⟨_,o,e,c,d⟩:=st
  exact⟨o,e,λv z=>by rw[d] at z;cases z⟩
 keep:=λi h h' st k=>⟨st.1,st.2.at λo e=>k it (by simp) o e⟩
 item:=by
  intro X hP hw hK hc i pins s σ H E I hf st hg
  subst hP hw hK
  obtain⟨hi,xs,x,hq,hx⟩:=hg
  obtain⟨its,rv,p,hz⟩:=I.list hq
  obtain⟨u,hu,ru⟩:=rv.get hx
  obtain⟨f0,f1,f2,f3,f4,f5⟩:=hf it (by simp)
  have e1:(n:Int)-1-(i:Int)=((n-1-i:Nat):Int):=by omega
  have hit:=st.2
  rw[e1] at hit
  refine wpAny_pyNext_rev_item hit p.isList (x:=u) (by simpa using hu) λh' st' sb=>?_
  have I1:Zm X pins σ H {s with heap:=h'}:=I.turned (t':=s.toks) (λb o hb e=>(sb.2 b hb).trans e) f0 f1 f3 f4 f5
  have e2:((n-1-i:Nat):Int)-1=(n:Int)-1-((i+1:Nat):Int):=by omega
  rw[e2] at st'
  obtain⟨o,e,c,d⟩:=id st'
  exact⟨u,rfl,Hu (s:={s with heap:=h'}) e c d (by decide) ⟨x,H,I1,ru,⟨rfl,λys hy=>by rw[I.list_inj hy hq];exact hx⟩,⟨hi,st'⟩,λb hb=>(hf b hb).1⟩⟩
 done:=by
  intro X hP hw hK hc i pins s σ H E I hf st hg
  subst hP hw hK
  have e:i=n:=hg
  subst e
  obtain⟨f0,f1,f2,f3,f4,f5⟩:=hf it (by simp)
  have hit:=st.2
  rw[show(i:Int)-1-(i:Int)= -1 by omega] at hit
  exact wpAny_pyNext_rev_end (I.ok.hd hc) hit λh' eb=>⟨rfl,I.turned (t':=s.toks) (λb o hb e=>eb b o hb e) f0 f1 f3 f4 f5⟩
 self:=λ_ _ _ _ _ st h=>wpAny_pyIter_revIter st.2 h
section
variable {X:Cx}{tg:Expr}
def pY (K:W.Frag)(ta:TA):TI:=λσ H R=>ta σ H λvs H1=>∃a xs,vs=[.ref a]/\Xz K H1 a xs/\R (oH K a xs.length) H1
def v9 {a:Expr}{ta:TA}{p pos:Pos}(hg:Gl X "reversed")(hm:X.mg "reversed"=none)(ha:PA X [a] ta)(hs:starEach [a] X.env=[(false,eval a X.env)]:=by rfl)(hb:bootBuiltins "reversed"=some (.type "reversed"):=by decide+kernel):
  PI X tg (.Call (.Name "reversed" p) [a] [] pos) (pY X.K ta):=by
 intro pins s σ H R I h
 refine Call_ (Nu I hg hm hb (PyProof.Rows.callWith_type1 (Ji (ha pos pins s σ H _ I h) λus s1 ⟨vs,H1,I1,r1,q1⟩=>?_) hs rfl))
 obtain⟨l,xs,e,hq,q⟩:=q1
 subst e
 obtain⟨u,rfl,ru⟩:=Uf r1
 cases ru
 obtain⟨its,rv,pl,hz⟩:=I1.list hq
 have hl:its.length=xs.length:=by have:=rv.length;omega
 refine call_reversed_list pl.isList ?_
 have hit:(s1.heap.push (revObj l ((its.toArray.size:Int)-1))).IsRevIter s1.heap.objs.size l ((xs.length:Int)-1-((0:Nat):Int)):=by
  refine⟨_,XF _ rfl,rfl,?_⟩
  rw[List.size_toArray,hl];simp[revObj]
 refine wpAny_pyIter_revIter (s:={s1 with heap:=s1.heap.push (revObj l ((its.toArray.size:Int)-1))}) hit ?_
 refine⟨s1.heap.objs.size,[s1.heap.objs.size],_,_,H1,rfl,I1.kept (t':=s1.toks) λb o e=>XC _ e,A5 l _ xs.length,⟨XO _,hit⟩,λb hb=>?_,q⟩
 have e:b=s1.heap.objs.size:=by simpa using hb
 subst e
 exact I1.fpOk (XE _) (I1.hok.fresh (XE _))
end
end L2
namespace WL
open PySem PySem.Spec PyProof.Rows L2
def mh (a:WA):WI:=λτ C R χ=>a τ C (λvs C1=>∃l xs,vs=[.ref l]/\C1 l=some (.lst xs)/\R xs.reverse (λC2=>C2 l=some (.lst xs)) C1) χ
def ul {K:W.Frag}{F H0:Hp}{l:Addr}{xs:List T}:Ml K F H0 (oH K l xs.length) xs.reverse (λC=>C l=some (.lst xs)):=λi H C R t ok=>by
 obtain⟨ys,hy,r⟩:=R.lst ok
 refine⟨λhi=>?_,λhi=>by show i=xs.length;rw[hi,List.length_reverse]⟩
 rw[List.length_reverse] at hi
 have ev:xs[xs.length-1-i]?=some (xs[xs.length-1-i]'(by omega)):=List.getElem?_eq_getElem (by omega)
 obtain⟨y,ey,ry⟩:=r.get ev
 refine⟨⟨hi,ys,y,Xz.of hy,ey⟩,λx H' h=>?_⟩
 obtain⟨rfl,h⟩:=h
 have e2:=h ys (Xz.of hy)
 rw[ey] at e2;cases e2
 exact⟨_,by rw[List.getElem?_reverse hi];exact ev,R,Tx.refl _,ry⟩
section
variable {X:Cx}{tg a:Expr}{wA:WA}{pos p:Pos}
def uG (hg:Gl X "reversed")(hm:X.mg "reversed"=none)(ha:Mj X [a] wA)(hs:starEach [a] X.env=[(false,eval a X.env)]:=by rfl):tI X tg (.Call (.Name "reversed" p) [a] [] pos) (mh wA):=by
 obtain⟨t,p1,s1⟩:=ha
 refine⟨_,v9 hg hm p1 hs,λF H C σ τ R R' χ Rr S h q=>?_⟩
 refine s1 F H C σ τ _ _ χ Rr S h λxs vs H1 C1 R1 t1 rs h1=>?_
 obtain⟨l,us,rfl,hC,h1⟩:=h1
 obtain⟨x,rfl,rx⟩:=Wu rs
 cases Yl rx
 obtain⟨ys,hy,r⟩:=R1.lst hC
 refine⟨l,ys,rfl,Xz.of hy,?_⟩
 rw[r.length]
 exact q _ H1 us.reverse _ C1 R1 t1 (λ_=>ul) h1
end
end WL
namespace L2
open PySem PySem.Spec PyProof.Rows
section
variable {X:Cx}
end
end L2
namespace WL
open PySem PySem.Spec PyProof.Rows L2
section
variable {X:Cx}
end
end WL
namespace L2
open PySem PySem.Spec PyProof.Rows
section
variable {prog:Program}{w:World}{A:Around}{E:Value->Shared->Prop}{s:Shared}{it l:Addr}{i:Int}
end
section
variable {X:Cx}
def mF (X:Cx)(e:Expr)(t:TE):Prop:=
 ∀(pins:List (Addr×Obj)) (s:Shared) (σ:St) (H:Hp) (Q:VK),Zm X pins σ H s->t σ H Q->wpAny (model X.prog X.w) X.A (eval e X.env) (λv s'=>1<=s'.toks/\EP X pins σ Q v s') X.xe s
def Kf {α:Type}{t:Sem α}{Q:α->Shared->Prop}{M:Model}{A:Around}{E:Value->Shared->Prop}{s:Shared}(h1:1<=s.toks)(h:wpAny M A t Q E s):wpAny M A t (λa s'=>1<=s'.toks/\Q a s') E s:=
 wpAny_mono (wpAny_toks_of h1 h) (λ_ _ z=>z) λ_ _ z=>z.2
variable {o e:Expr}{es:List Expr}{to:TE}{t:TA}{apos cpos:Pos}{z y:Str}{k k1 k2:Nat}{lp lp1 lp2:Pos}
end
end L2
namespace WL
open PySem PySem.Spec PyProof.Rows L2
section
variable {X:Cx}{e o:Expr}{we wo:WE}{p p2 pos pos2 apos cpos:Pos}
def nu (e:WE):WE:=λτ C Q χ=>e τ C (λx C1=>∃a xs,x=.ref a/\C1 a=some (.lst xs)/\∀p,C1 p=none->Q (.ref p) (up C1 p (.lst xs.reverse))) χ
def Ie:Xb X (.type "str") (λxs H Q=>∃z,xs=[.str z]/\Q (.str z) H):=by
 intro pins s σ H xs us Q I r h
 obtain⟨z,rfl,q⟩:=h
 obtain⟨u,rfl,t,rfl⟩:=Uf r
 exact PySem.P.str_of_str ⟨.str z,H,I,⟨_,rfl⟩,q⟩
def qi:List T->Hw->WK->Prop:=λvs C Q=>(∃i:Int,vs=[.int i]/\i.natAbs.log2<1920/\Q (.str (toString i)) C)\/∃z,vs=[.str z]/\Q (.str z) C
def Ei:Os X (.type "str") qi:=⟨_,Ig.or Ie,λF H C xs vs Q Q' R rs h q=>by
 rcases h with⟨j,rfl,hl,h⟩ | ⟨z,rfl,h⟩
 ·obtain⟨x,rfl,rx⟩:=Wu rs
  cases Yh rx
  exact .inl ⟨j,rfl,hl,q _ _ H C R (Tx.refl H) Zt h⟩
 ·obtain⟨x,rfl,rx⟩:=Wu rs
  cases Yu rx
  exact .inr ⟨z,rfl,q _ _ H C R (Tx.refl H) Zt h⟩⟩
def lf (X:Cx)(e:Expr)(w:WE):Prop:=∃t,mF X e t/\Wz X.K t w
def xY (y z:Str)(o:WE):WE:=λτ C Q χ=>o τ C (λx C1=>∃u,x=.str u/\u.length<=1048576/\Q (.str (Txt.replace u y z)) C1) χ
end
end WL
namespace L2
open PySem PySem.Spec PyProof.Rows
section
variable {prog:Program}{w:World}{A:Around}{E:Value->Shared->Prop}{s:Shared}{a b:Addr}{oa ob:Obj}{ea eb:Array DictEntry}{pa pb:Nat}
end
section
variable {prog:Program}{w:World}{A:Around}{E:Value->Shared->Prop}{s:Shared}
end
structure lb (z TI TO i1 i2:Addr)(f1 f2:List Addr):Prop where
 m1:i1∈f1
 m2:i2∈f2
 z1:z∉f1
 z2:z∉f2
 o1:TO∉f1
 o2:TO∉f2
 a12:i1∉f2
 a21:i2∉f1
 tz:TI≠z
 oz:TO≠z
 io:TI≠TO
 t1:TI≠i1
 t2:TI≠i2
section
variable {prog:Program}{w:World}{A:Around}{E:Value->Shared->Prop}{s:Shared}{z TI TO i1 i2:Addr}{f1 f2:List Addr}{n:Nat}{P1 P2:Nat->Value->Prop}{S1 S2:Nat->Heap->Prop}
end
abbrev rJ (c:String)(l:Addr):Obj:={cls:=.type c,data:=.fields #[.ref l,.int 0 0]}
structure m8 (h h2:Heap)(c1:String)(l1:Addr)(c2:String)(l2:Addr):Prop where
 zip:IsZip h2 (h.objs.size+4) (h.objs.size+2) (h.objs.size+3) .none
 its:IsPair h2 (h.objs.size+2) (.ref h.objs.size) (.ref (h.objs.size+1))
 own:IsPair h2 (h.objs.size+3) .none .none
 i1:h2.get? h.objs.size=some (rJ c1 l1)
 i2:h2.get? (h.objs.size+1)=some (rJ c2 l2)
 keep:∀c o,h.get? c=some o->h2.get? c=some o
section
variable {prog:Program}{w:World}{A:Around}{E:Value->Shared->Prop}{s:Shared}
end
def le (b:Bool)(K:W.Frag)(H:Hp)(a:Addr)(xs:List V):Prop:=if b then Xz K H a xs else Uc K H a xs
section
variable {X:Cx}{pins:List (Addr×Obj)}{σ:St}{H:Hp}{s:Shared}
end
section
variable {X:Cx}{elts:List Expr}{ek:Nat}{epos:Pos}
end
section
variable {X:Cx}
end
section
variable {prog:Program}{w:World}{K:Type}[DecidableEq K]{knd:KeyKind prog w K}
end
end L2
namespace WL
open PySem PySem.Spec PyProof.Rows L2
section
variable {X:Cx}{e o a b f:Expr}{we wo wa wb wi wd:WE}{wA:WA}{p p2 pos pos2 apos cpos:Pos}
def rZ (kvs:List (X2×T))(k:X2):List (X2×T):=kvs.filter λkv=>decide (kv.1≠k)
def oq (o i d:WE):WE:=λτ C Q χ=>o τ C (λx C1=>(∃a kvs,x=.ref a/\C1 a=some (.dic kvs))/\i τ C1 (λy C2=>d τ C2 (λz C3=>∃a kvs k,x=.ref a/\kT y=some k/\C3 a=some (.dic kvs)/\
 (∀v,jU kvs k=some v->Q v (up C3 a (.dic (rZ kvs k))))/\(jU kvs k=none->Q z C3)) χ) χ) χ
end
end WL
namespace L2
open PySem PySem.Spec PyProof.Rows
section
variable {X:Cx}{pins:List (Addr×Obj)}{σ:St}{H:Hp}{s:Shared}
end
def mK (o:Obj)(d:Addr)(ks:List (X2×V)):It:=
 ⟨λi H=>H d=some (.frz o (.dK ks))/\i<ks.length,λi H x H'=>H'=H/\∃kv,ks[i]?=some kv/\x=kV kv.1,λi H=>H d=some (.frz o (.dK ks))/\i=ks.length⟩
section
variable {X:Cx}{tg e:Expr}
def mm (td:TE):TI:=λσ H R=>td σ H λx H1=>∃d ks,x=.ref d/\Rd H1 d (.dK ks)/\∀o,(∀o',H1 d=some (.frz o' (.dK ks))->o'=o)->R (mK o d ks) (Je H1 d (.frz o (.dK ks)))
end
end L2
namespace WL
open PySem PySem.Spec PyProof.Rows L2
def li (C:Hw)(a:Addr)(kvs:List (X2×T)):Prop:=C a=some (.dic kvs)\/C a=some (.fdic kvs)
section
variable {X:Cx}{e o a b c f i:Expr}{we wo wa wb wi wd:WE}{wA:WA}{p p2 pos pos2 apos cpos:Pos}{tg:Expr}
end
section
variable {X:Cx}{e o:Expr}{we wo wi:WE}{apos cpos:Pos}
end
def xL (f:Str)(v:T):List (Str×T)->List (Str×T)
 | []=>[(f,v)]
 | (g,x)::r=>if g=f then(g,v)::r else(g,x)::xL f v r
section
variable {K:W.Frag}{H:Hp}
end
abbrev G8 (K:W.Frag)(cn:Str)(Cl:Addr):Prop:=W.nsIn K mainGlobals cn=some (some (.ref Cl))
structure KF (K:W.Frag)(f cn:Str):Prop where
 ex:∃Cl,G8 K cn Cl/\yV K Cl/\Im K Cl f
def m4 (cs:List Str)(f:Str)(o:WE):WE:=λτ C Q χ=>o τ C (λx C1=>∃a cn fs v,x=.ref a/\C1 a=some (.ins cn fs)/\cn∈cs/\fs.lookup f=some v/\Q v C1) χ
def mU (cs:List Str)(f:Str)(o:WE):WG:=λv τ C Q χ=>o τ C (λx C1=>∃a cn fs,x=.ref a/\C1 a=some (.ins cn fs)/\cn∈cs/\fs.length<1000/\Q τ (up C1 a (.ins cn (xL f v fs)))) χ
def Rl.ins {K:W.Frag}{F H:Hp}{C:Hw}(R:Rl K F H C){a:Addr}{cn:Str}{fs:List (Str×T)}(h:C a=some (.ins cn fs)):∃Cl dx ks,G8 K cn Cl/\H a=some (.ins Cl dx ks)/\PR K H ks fs:=R.obj a _ h
section
variable {X:Cx}{e o value:Expr}{we wo wv:WE}{f:Str}{cs:List Str}{pos pos' apos cpos:Pos}
end
def px (MT:Addr->L2.Sp->Prop)(m:Str)(E:XK)(ta:TE)(t:TA):TE:=λσ H Q=>ta σ H λx H1=>∃a C dx fs sp,x=.ref a/\H1 a=some (.ins C dx fs)/\MT C sp/\fs.lookup m=none/\t σ H1 λvs H2=>sp (x::vs) H2 Q E
section
variable {X:Cx}{k:Nat}{E:XK}{m:Str}{p pos apos:Pos}{e o:Expr}{es:List Expr}{ta:TE}{t:TA}{MT:Addr->L2.Sp->Prop}
end
def Cm (P:Program)(w:World)(K:W.Frag)(mg:Str->Option Value)(base:Heap)(n:Nat)(cn m:Str)(ps:List Str)(sp:L2.Sp):Prop:=
 ∃Cl f fd,G8 K cn Cl/\yV K Cl/\oD K Cl m f/\Wi P w K mg base CX0 n f fd ps sp/\Xm K fd ps []
def lm (P:Program)(w:World)(K:W.Frag)(mg:Str->Option Value)(base:Heap)(n:Nat)(pr:List Df)(m:Str)(tb:List (Str×Nat)):Prop:=∀cn i,tb.lookup cn=some i->∃ps,Cm P w K mg base n cn m ps (spW K pr n i)
section
variable {P:Program}{w:World}{K:W.Frag}{mg:Str->Option Value}{base:Heap}{n:Nat}{pr:List Df}{m:Str}{tb:List (Str×Nat)}
end
def mx (P:Calls)(tb:List (Str×Nat))(m:Str)(o:WE)(a:WA):WE:=λτ C Q χ=>o τ C (λx C1=>∃ad cn fs i,x=.ref ad/\C1 ad=some (.ins cn fs)/\tb.lookup cn=some i/\fs.lookup m=none/\a τ C1 (λvs C2=>P i (x::vs) C2 Q χ) χ) χ
section
variable {X:Cx}{k:Nat}{m:Str}{p pos apos:Pos}{e o:Expr}{es:List Expr}{wo:WE}{wA:WA}{tb:List (Str×Nat)}{pr:List Df}
end
def qZ (cn:Str)(i:Nat)(P:Calls):WS:=λD τ C=>∃vs,τ=vs.map some/\∀p,C p=none->P i (.ref p::vs) (up C p (.ins cn [])) (λv C2=>v=.non/\D.rt (.ref p) C2) D.xc
def Cn (P:Program)(w:World)(K:W.Frag)(mg:Str->Option Value)(base:Heap)(n:Nat)(pr:List Df)(cn:Str)(i j:Nat):Prop:=
 (∃ar,pr[j]?=some ⟨ar,ar,qZ cn i⟩)/\∃Cl f,G8 K cn Cl/\mg cn=some (.ref Cl)/\L2.Mk K Cl f/\(n=0\/∃k fd ps,n=k+1/\Wi P w K mg base CX0 k f fd ps (spW K pr k i)/\Xm K fd ps [])
section
variable {X:Cx}{k i j:Nat}{cn:Str}{p pos:Pos}{e:Expr}{es:List Expr}{wA:WA}{pr:List Df}
end
def uz {P:Program}{w:World}{K:W.Frag}{mg:Str->Option Value}{base:Heap}{x qual:Str}{st:Stmt}{f:Addr}{fd:FuncData}{N ps:List Str}{pr:List Df}{n i:Nat}{d:Df}(F:P9 K x qual st f fd)(S:Zp N ps (Zf st))(hd:pr[i]?=some d)(hn:d.n=N.length)(har:d.ar=ps.length)
  (hb:∀(cdv:Value) (A:Around) (outer:List Env) (s:Shared) (H:Hp) (E:XK),Y2 n (A.deeper (envOfC qual (Zf st) s.heap.objs.size f cdv))->Lp (Yx CX0 P w K mg base N qual (Zf st) f cdv A outer s H E).nox (Yn st) (d.body (Xo pr n))):
  Wi P w K mg base CX0 (n+1) f fd ps (spW K pr (n+1) i):=by
 refine F.ok S (λvs H Q E h=>?_) (λcdv A outer s H vs Q E hr h=>?_)
 ·obtain⟨F',C,vs',Q',χ,R,rs,⟨d',e1,e2,_⟩,_⟩:=h
  rw[hd] at e1;cases e1
  rw[rs.length,e2,har]
 ·obtain⟨F',C,vs',Q',χ,R,rs,⟨d',e1,e2,h⟩,q⟩:=h
  rw[hd] at e1;cases e1
  obtain⟨t,p,sm⟩:=hb cdv A outer s H E hr
  refine⟨t,p,sm F' H C _ _ _ _ R (Jz.start rs N _ (by rw[rs.length,e2,hn])) h ⟨λσ τ H' C' R' t' _ h'=>q .non .non H' C' R' t' Wc h',q,λ_ _ _ _ _ _ _ z=>z.elim,λ_ _ _ _ _ _ _ z=>z.elim⟩⟩
structure Kl (K:W.Frag)(mg:Str->Option Value)(cn:Str)(Cl:Addr):Prop where
 at_:G8 K cn Cl
 mg:mg cn=some (.ref Cl)
 cls:yV K Cl
def Vn {K:W.Frag}{H:Hp}{a:Addr}{its:Array Value}{n:Nat}{sl:Array (Option Value)}{od:Option Addr}{xs:List V}{ts:List T}(l:K.lookup a=some ⟨.type "tuple",od,.seq its n,sl⟩)(hz:its.size<=sizeLine)(v:Zx xs its.toList)(r:Reps K H xs ts):Jg K H (.ref a) (.tup ts):=
 Xj (.inr ⟨_,its,n,l,rfl,rfl,hz,v⟩) r
def nB (C:Hw):Nat->T->T->Bool->Prop
 | 0,v,w,b=>Jy v 0=true/\Jy w 0=true/\b=eqT v w
 | n+1,v,w,b=>(Jy v n=true/\Jy w n=true/\b=eqT v w)\/
   (∃(xs ys:List T) (e:Nat->Bool),v=.tup xs/\w=.tup ys/\(∀j x y,xs[j]?=some x->ys[j]?=some y->nB C n x y (e j))/\b=((List.range (min xs.length ys.length)).all e&&xs.length==ys.length))\/
   (∃(a a':Addr) (xs ys:List T) (e:Nat->Bool),v=.ref a/\w=.ref a'/\C a=some (.lst xs)/\C a'=some (.lst ys)/\(xs.length=ys.length->∀j x y,xs[j]?=some x->ys[j]?=some y->nB C n x y (e j))/\
    b=(if xs.length=ys.length then(List.range xs.length).all e else false))
section
variable {X:Cx}{pins:List (Addr×Obj)}{σ:L2.St}{F H:Hp}{s:Shared}{C:Hw}
end
section
variable {X:Cx}
end
structure mO (K:W.Frag)(x qual:Str)(st:Stmt)(f:Addr)(fd:FuncData):Prop where
 ex:∃(oc:Value) (od:Option Addr) (dV kV doc pm:Value) (an:Option Addr) (cdv ct:Value) (osl:Array (Option Value)),
  fd=W.fnOf x qual (V8 st) (Yn st) (Zf st) dV kV doc pm an cdv ct/\K.lookup f=some ⟨oc,od,.func fd,osl⟩/\W.codeIn K cdv qual=true
 kp:W.keepIn K (.ref f)=true
def lq (P:Program)(w:World)(K:W.Frag)(mg:Str->Option Value)(base:Heap)(n:Nat)(x:Str)(ps:List Str)(ds:List Int)(sp:L2.Sp):Prop:=
 ∃f fd,Wi P w K mg base CX0 n f fd ps sp/\(∃us:List Value,Zx (ds.map V.int) us/\∀j,j<=ds.length->Xm K fd ps (us.drop j))/\W.keepIn K (.ref f)=true/\mg x=some (.ref f)
def m7 (ws:List T)(a:WA):WA:=λτ C Q χ=>a τ C (λvs C1=>Q (vs++ws) C1) χ
end WL
namespace PySem
open Sem (wp)
namespace F
end F
section
variable {z:Addr}
end
end PySem
namespace L2
open PySem PySem.Spec PyProof.Rows
abbrev t8 (h:Heap)(z TI TO T:Addr)(b:Bool):Prop:=
 h.get? z=some {cls:=.type "zip",dict:=none,data:=.fields #[rawInt T,.bool b,.bool false,.ref TI,.ref TO],slots:=#[]}
section
variable {prog:Program}{w:World}{A:Around}{E:Value->Shared->Prop}{s:Shared}{z TI TO i1 i2:Addr}{f1 f2:List Addr}{n:Nat}{P1 P2:Nat->Value->Prop}{S1 S2:Nat->Heap->Prop}
end
end L2
namespace PySem.F
end PySem.F
namespace L2
open PySem PySem.Spec PyProof.Rows
structure ZS (z TI TO i1 i2 l1 l2:Addr)(xs ys:Array Value)(i:Nat)(h:Heap):Prop where
 zip:IsZip h z TI TO .none\/∃T b,t8 h z TI TO T b/\(∃o,h.get? T=some o)/\T≠z/\T≠TO/\T≠i1/\T≠i2
 its:IsPair h TI (.ref i1) (.ref i2)
 own:∃a b,IsPair h TO a b
 s1:h.IsTupleIter i1 l1 i/\h.IsTuple l1 xs
 s2:h.IsTupleIter i2 l2 i/\h.IsTuple l2 ys
section
variable {prog:Program}{w:World}{A:Around}{E:Value->Shared->Prop}{s:Shared}{z TI TO i1 i2 l1 l2:Addr}{xs ys:Array Value}
end
def mW {α:Type}(put:List (X2×α)->X2->α->List (X2×α))(ks:List X2)(ys:List α):List (X2×α):=(ks.zip ys).foldl (λa kv=>put a kv.1 kv.2) []
section
variable {X:Cx}
end
end L2
namespace WL
open PySem PySem.Spec PyProof.Rows L2
section
variable {X:Cx}{a c:Expr}{wA:WA}{p pos p2 pos2:Pos}
end
end WL
namespace L2
open PySem PySem.Spec PyProof.Rows
section
variable {X:Cx}
def mR (te:TE):TE:=λσ H Q=>te σ H λx H1=>(∃z:Str,x=.str z/\z.length<=sizeLine/\Q (.str z) H1)\/∃i:Int,x=.int i/\i.natAbs.log2<1920/\Q (.str (toString i)) H1
def tJ:List TE->Str->TE
 | [],out=>λ_ H Q=>Q (.str out) H
 | t::ts,out=>λσ H Q=>t σ H λx H1=>∃z:Str,x=.str z/\(out++z).length<=sizeLine/\tJ ts (out++z) σ H1 Q
inductive tL (X:Cx):List Expr->List TE->Prop
 | nil:tL X [] []
 | cons {e:Expr} {es:List Expr} {t:TE} {ts:List TE} (h:PE X e t) (r:tL X es ts):tL X (e::es) (t::ts)
def pj {es:List Expr}{ts:List TE}(h:tL X es ts):∀{pins:List (Addr×Obj)} {s:Shared} {σ:St} {H:Hp} {Q:VK} {out:Str},out.length<=sizeLine->Zm X pins σ H s->tJ ts out σ H Q->wpAny (model X.prog X.w) X.A (joinParts out (evalEach es X.env)) (EP X pins σ Q) X.xe s:=by
 induction h with
 | nil=>
  intro pins s σ H Q out ho I q
  exact joinParts_nil ⟨.str out,H,I.tok _,⟨_,rfl⟩,q⟩ ho
 | @cons e es t ts h r ih=>
  intro pins s σ H Q out ho I q
  show wpAny _ _ (joinParts out (eval e X.env::evalEach es X.env)) _ _ s
  refine joinParts_cons (Ji (h pins s σ H _ I q) λu s1 ⟨x,H1,I1,rx,z,ex,hz,q1⟩=>?_)
  subst ex
  obtain⟨t',rfl⟩:=rx
  exact⟨hz,ih hz I1 q1⟩
def Bj {v1 v2:Expr}{Z9:List Expr}{ts:List TE}{pos:Pos}(h:tL X (v1::v2::Z9) ts):PE X (.JoinedStr (v1::v2::Z9) pos) (tJ ts Str.empty):=by
 intro pins s σ H Q I q
 exact JoinedStr_many (pj h (XO _) I q)
end
end L2
namespace WL
open PySem PySem.Spec PyProof.Rows L2
def eJ:List WE->Str->WE
 | [],out=>λ_ C Q _=>Q (.str out) C
 | w::ws,out=>λτ C Q χ=>w τ C (λv C1=>∃z:Str,v=.str z/\(out++z).length<=sizeLine/\eJ ws (out++z) τ C1 Q χ) χ
section
variable {X:Cx}{e k v:Expr}{we wk wv:WE}{pos:Pos}
def qO (X:Cx)(es:List Expr)(ws:List WE):Prop:=∃ts,tL X es ts/\∀(out:Str),Wz X.K (tJ ts out) (eJ ws out)
def yq:qO X [] []:=⟨[],.nil,λout F H C σ τ Q Q' χ R S h q=>q _ _ H C R (Tx.refl H) Zt h⟩
def O5 {es:List Expr}{ws:List WE}(he:Jw X e we)(hr:qO X es ws):qO X (e::es) (we::ws):=by
 obtain⟨t,p,s⟩:=he
 obtain⟨ts,ps,ss⟩:=hr
 refine⟨t::ts,.cons p ps,λout F H C σ τ Q Q' χ R S h q=>?_⟩
 refine s F H C σ τ _ _ χ R S h λx u H1 C1 R1 t1 rx h1=>?_
 obtain⟨z,rfl,hz,h1⟩:=h1
 cases Yu rx
 exact⟨z,rfl,hz,ss (out++z) F H1 C1 σ τ _ _ χ R1 (S.tx t1) h1 (QE.at q t1)⟩
def Gm {v1 v2:Expr}{Z9:List Expr}{ws:List WE}(h:qO X (v1::v2::Z9) ws):Jw X (.JoinedStr (v1::v2::Z9) pos) (eJ ws Str.empty):=by
 obtain⟨ts,ps,ss⟩:=h
 exact⟨_,Bj ps,ss _⟩
def ot (k v:WE):WE:=λτ C Q χ=>∀p,C p=none->k τ (up C p (.dic [])) (λx C1=>v τ C1 (λy C2=>∃kk,kT x=some kk/\C2 p=some (.dic [])/\Q (.ref p) (up C2 p (.dic [(kk,y)]))) χ) χ
end
end WL
namespace L2
open PySem PySem.Spec PyProof.Rows
section
variable {X:Cx}
end
end L2
namespace WL
open PySem PySem.Spec PyProof.Rows L2
section
variable {X:Cx}
end
end WL
namespace L2
open PySem PySem.Spec PyProof.Rows
open AutoSeq1 (wpAny_loadPart')
section
variable {prog:Program}{w:World}{A:Around}{E:Value->Shared->Prop}{s:Shared}
end
section
variable {X:Cx}{elts:List Expr}{ek:Nat}{epos:Pos}
end
end L2
namespace WL
open PySem PySem.Spec PyProof.Rows L2
def me (z:Nat)(xs:List T):List T:=xs.zipIdx.map λc=>T.tup [.int ((c.2+z:Nat):Int),c.1]
section
variable {X:Cx}{a:Expr}{wA:WA}{p pos kp kc:Pos}{j:Nat}
end
section
variable {X:Cx}
end
end WL
namespace L2
open PySem PySem.Spec PyProof.Rows
section
variable {X:Cx}{pins:List (Addr×Obj)}{σ:St}{H:Hp}{s:Shared}{a b:Addr}{kvs more:List (X2×V)}{A:Around}{E:Value->Shared->Prop}
end
section
variable {X:Cx}{o e:Expr}{apos cpos:Pos}{td ty:TE}
end
end L2
namespace WL
open PySem PySem.Spec PyProof.Rows L2
abbrev mB:=Sw->Hw->(List (X2×T)->Hw->Prop)->WX->Prop
section
variable {X:Cx}{pos apos cpos:Pos}{k v o e:Expr}{ks:List (Option Expr)}{vs:List Expr}{wk wv wo we:WE}{w:mB}
end
end WL
namespace L2
open PySem PySem.Spec PyProof.Rows
section
variable {X:Cx}
end
end L2
namespace WL
open PySem PySem.Spec PyProof.Rows L2
section
variable {X:Cx}
end
section
variable {P:Program}{w:World}{K:W.Frag}{mg:Str->Option Value}{base h:Heap}{x q cn:Str}{st:Stmt}{ps:List Str}{pr:List Df}{n i j ar:Nat}{sp:Sp}{Cl:Addr}
def Fg (K:W.Frag)(x:Str)(st:Stmt):Prop:=∃f fd,W.nsIn K mainGlobals x=some (some (.ref f))/\P9 K x x st f fd
def Ld (K:W.Frag)(mg:Str->Option Value)(x:Str)(st:Stmt)(ps:List Str):Prop:=∃f fd,P9 K x x st f fd/\Xm K fd ps []/\mg x=some (.ref f)
def Bq (x q:Str)(st:Stmt)(ps:List Str):Prop:=∀(kV doc pm:Value) (an:Option Addr) (cdv ct:Value) (us:List Value),us.length=ps.length->bindArgs (W.fnOf x q (V8 st) (Yn st) (Zf st) .none kV doc pm an cdv ct) ⟨us,[]⟩=pure (ps.zip us)
def Jm (X:K.In h)(G:h.Ns mainGlobals mg)(l:Fg K x st)(hb:Bq x x st ps):Ld K mg x st ps:=by
 obtain⟨f,fd,a,F⟩:=l
 exact⟨f,fd,F,F.binds hb,W.mg_of X G a⟩
def tH (L:Ld K mg x st ps):Ca P w K mg base 0 x ps (spW K pr 0 i):=by
 obtain⟨f,fd,F,B,M⟩:=L
 exact xu F B M
def jL (L:Ld K mg x st ps)(G:∀{f fd},P9 K x x st f fd->Wi P w K mg base CX0 n f fd ps sp):Ca P w K mg base n x ps sp:=by
 obtain⟨f,fd,F,B,M⟩:=L
 exact xv F B M (G F)
def cP {X:Cx}{e:Expr}{wA:WA}{k:Nat}{Q:Calls}(hP:Xo pr k=Q)(h:Jw X e (Jp (Xo pr k) i wA)):Jw X e (Jp Q i wA):=hP▸h
end
end WL
namespace L2
open PySem PySem.Spec PyProof.Rows
section
variable {prog:Program}{w:World}{A:Around}{E:Value->Shared->Prop}{s:Shared}{z TI TO i1 i2 l1 l2:Addr}{xs ys:Array Value}
abbrev lj (h:Heap)(as:List Addr)(ps:List (Value×Value)):Prop:=Paired (λa p=>IsPair h a p.1 p.2) as ps
end
section
variable {X:Cx}{pins:List (Addr×Obj)}{σ:St}{H:Hp}{s:Shared}
def ph (H:Hp):List Addr->List (V×V)->Hp
 | a::as,p::ps=>ph (Je H a (.tup [p.1,p.2])) as ps
 | _,_=>H
end
end L2
namespace WL
open PySem PySem.Spec PyProof.Rows L2
section
variable {X:Cx}{a c:Expr}{wA:WA}{p pos p2 pos2:Pos}
end
end WL
namespace L2
open PySem PySem.Spec PyProof.Rows
section
variable {X:Cx}{pins:List (Addr×Obj)}{σ:St}{H:Hp}{s:Shared}{a:Addr}{kvs:List (X2×V)}{A:Around}{E:Value->Shared->Prop}{k:X2}{u r:Value}{y:V}
end
section
variable {X:Cx}{o e f:Expr}{apos cpos:Pos}{td ty tx:TE}
end
end L2
namespace WL
open PySem PySem.Spec PyProof.Rows L2
section
variable {X:Cx}{o e f:Expr}{wo wi wd:WE}{apos cpos:Pos}
def m5 (o i d:WE):WE:=λτ C Q χ=>o τ C (λx C1=>(∃a kvs,x=.ref a/\C1 a=some (.dic kvs))/\i τ C1 (λy C2=>d τ C2 (λz C3=>∃a kvs k,x=.ref a/\kT y=some k/\C3 a=some (.dic kvs)/\kvs.length<sizeLine/\
 (∀v,jU kvs k=some v->Q v C3)/\(jU kvs k=none->Q z (up C3 a (.dic (pP kvs k z))))) χ) χ) χ
end
section
variable {X:Cx}{k i j:Nat}{pr:List Df}{cn:Str}{p pos:Pos}
end
end WL
namespace HT
open PySem PySem.Spec PyProof.Rows
section
variable {prog:Program}{w:World}{A:Around}{E:Value->Shared->Prop}{s:Shared}
end
end HT
namespace L2
open PySem PySem.Spec PyProof.Rows
section
variable {X:Cx}
end
end L2
namespace WL
open PySem PySem.Spec PyProof.Rows L2
section
variable {X:Cx}{a:Expr}{wa:WE}{pos:Pos}
end
end WL
namespace L2
open PySem PySem.Spec PyProof.Rows
def mJ (o:Obj)(d:Addr)(ks:List (X2×V)):It:=
 ⟨λi H=>H d=some (.frz o (.dK ks))/\i<ks.length,λi H x H'=>∃kv T,ks[i]?=some kv/\x=.ref T/\H T=none/\H'=Je H T (.tup [kV kv.1,kv.2]),λi H=>H d=some (.frz o (.dK ks))/\i=ks.length⟩
section
variable {X:Cx}{e:Expr}{elts:List Expr}{ek:Nat}{epos apos cpos:Pos}
def ml (td:TE):TI:=λσ H R=>td σ H λx H1=>∃d ks,x=.ref d/\Rd H1 d (.dK ks)/\∀o,(∀o',H1 d=some (.frz o' (.dK ks))->o'=o)->R (mJ o d ks) (Je H1 d (.frz o (.dK ks)))
end
end L2
namespace WL
open PySem PySem.Spec PyProof.Rows L2
section
variable {X:Cx}{e:Expr}{we:WE}
def rI (kvs:List (X2×T)):List T:=kvs.map λkv=>.tup [tK kv.1,kv.2]
end
end WL
namespace L2
open PySem PySem.Spec PyProof.Rows
end L2
namespace WL
open PySem PySem.Spec PyProof.Rows L2
section
variable {X:Cx}
end
end WL
namespace L2
open PySem PySem.Spec PyProof.Rows
open AutoSeq1 (wpAny_loadPart')
section
variable {prog:Program}{w:World}{A:Around}{E:Value->Shared->Prop}{s:Shared}
end
section
variable {X:Cx}{elts:List Expr}{ek:Nat}{epos:Pos}
end
end L2
namespace WL
open PySem PySem.Spec PyProof.Rows L2
section
variable {X:Cx}{a:Expr}{wA:WA}{p pos:Pos}
end
end WL
namespace L2
open PySem PySem.Spec PyProof.Rows Builtin
section
variable {prog:Program}{w:World}{A:Around}{E:Value->Shared->Prop}{s:Shared}{z TI TO i1 i2:Addr}{f1 f2:List Addr}{n n2:Nat}{P1 P2:Nat->Value->Prop}{S1 S2:Nat->Heap->Prop}
end
section
variable {X:Cx}{elts:List Expr}{ek:Nat}{epos:Pos}
end
end L2
namespace WL
open PySem PySem.Spec PyProof.Rows L2
section
variable {X:Cx}{a b:Expr}{wA:WA}{p pos:Pos}
end
end WL
namespace L2
open PySem PySem.Spec PyProof.Rows
section
variable {X:Cx}
def Mz:∀(k:Nat) (zs:List Str),Zx (zs.map V.str) (strsFrom k zs)
 | _,[]=>.nil
 | k,z::zs=>.cons ⟨_,rfl⟩ (Mz (k+1) zs)
def vm:V->List V->Hp->VK->Prop:=λx vs H Q=>∃z y,x=.str z/\vs=[.str y]/\(y.length==0)=false/\z.length<=sizeLine/\(Txt.split z y).length<=sizeLine/\∀p,H p=none->Q (.ref p) (Je H p (.lst ((Txt.split z y).map V.str)))
def Nv {pins:List (Addr×Obj)}{σ:St}{H:Hp}{s:Shared}{zs:List Str}{us:List Value}{k:Nat}{Q:VK}(I:Zm X pins σ H s)(hv:Zx (zs.map V.str) us)(hl:zs.length<=sizeLine)(q:∀p,H p=none->Q (.ref p) (Je H p (.lst (zs.map V.str)))):
  EP X pins σ Q (.ref s.heap.objs.size) {s with heap:=s.heap.push {cls:=.type "list",data:=.seq us.toArray},toks:=k}:=by
 have hok:Yt X.prog X.w (Je H s.heap.objs.size (.lst (zs.map V.str))) (s.heap.push {cls:=.type "list",data:=.seq us.toArray}) s.heap.objs.size (.lst (zs.map V.str)):=
  ⟨by rw[XI];exact hl,us,_,hv,XF _ rfl⟩
 exact⟨.ref s.heap.objs.size,_,I.laid (t':=k) (λb u q=>XC _ q) (XE _) hok,rfl,q _ (I.hok.fresh (XE _))⟩
def zH:qx X "str.split" vm:=by
 intro pins s σ H x vs v us Q I rx rv h
 obtain⟨z,y,rfl,rfl,hy,hz,hl,q⟩:=h
 obtain⟨t,rfl⟩:=rx
 obtain⟨u,rfl,ru⟩:=Uf rv
 obtain⟨t2,rfl⟩:=ru
 have slot:=PySem.F.slot_str_split
 have go:∀{S:PySem.Spec},Meets (Builtin.«str.split» {pos:=[Value.str z t,Value.str y t2]}) S->S X.A (wants (EP X pins σ Q) X.xe) s->wpAny (model X.prog X.w) X.A (call (Value.builtin "str.split") [Value.str z t,Value.str y t2]) (EP X pins σ Q) X.xe s:=
  λm hS=>call_meets slot (typeIs_str _ _ _) PySem.F.entry_str_split (PySem.F.args_str_split_2 _ _) m hS
 have one:∀{us:List Value},us=[Value.str z t]->Zx ([z].map V.str) us:=λe=>by subst e;exact .cons ⟨_,rfl⟩ .nil
 by_cases c1:(decide (z.length<y.length)||decide (Builtin.Str.strKind z<Builtin.Str.strKind y))=true
 ·have e:Txt.split z y=[z]:=by unfold Txt.split;rw[XY c1]
  rw[e] at q
  exact go (meets_str_split_cannot_occur z y t t2 c1) (Nv (us:=[Value.str z t]) I (one rfl) (show 1<=sizeLine by decide) q)
 ·by_cases c2:(Builtin.Str.occurrences z y 0 z.length (z.length+1)).isEmpty=true
  ·have e:Txt.split z y=[z]:=by unfold Txt.split;rw[XX c1,XY c2]
   rw[e] at q
   exact go (meets_str_split_not_found z y t t2 (Bool.eq_false_iff.mpr c1) hy c2) (Nv (us:=[Value.str z t]) I (one rfl) (show 1<=sizeLine by decide) q)
  ·have e:Txt.split z y=Builtin.Str.partsBetween z (Builtin.Str.occurrences z y 0 z.length (z.length+1)) y.length:=by unfold Txt.split;rw[XX c1,XX c2]
   rw[e] at q hl
   exact go (meets_str_split_sep z y t t2 (Bool.eq_false_iff.mpr c1) hy (Bool.eq_false_iff.mpr c2) hz hl) (Nv I (Mz _ _) hl q)
def Ag:Xb X (.type "int") (λxs H Q=>∃(x:Str) (n:Int),xs=[.str x]/\intText? x=some n/\x.length<=640/\Q (.int n) H):=by
 intro pins s σ H xs us Q I r h
 obtain⟨x,n,rfl,hx,hl,q⟩:=h
 obtain⟨u,rfl,ru⟩:=Uf r
 obtain⟨t,rfl⟩:=ru
 exact W.KIN.call_text hx hl ⟨.int n,H,I.tok _,⟨_,rfl⟩,q⟩
end
end L2
namespace WL
open PySem PySem.Spec PyProof.Rows L2
section
variable {X:Cx}
def zI:T->List T->Hw->WK->Prop:=λx vs C Q=>∃z y,x=.str z/\vs=[.str y]/\(y.length==0)=false/\z.length<=sizeLine/\(Txt.split z y).length<=sizeLine/\∀p,C p=none->Q (.ref p) (up C p (.lst ((Txt.split z y).map T.str)))
def jK:qw X "str.split" zI:=⟨_,zH,λF H C x v xs vs Q Q' R rx rs h q=>by
 obtain⟨z,y,rfl,rfl,h1,h2,h3,h⟩:=h
 cases Yu rx
 obtain⟨u,rfl,ry⟩:=Wu rs
 cases Yu ry
 exact⟨z,y,rfl,rfl,h1,h2,h3,λp hp=>q _ _ _ _ (R.newL hp (M9 _)) (Tx.new hp) Xw (h p (R.free hp))⟩⟩
def ql:List T->Hw->WK->Prop:=λvs C Q=>∃(x:Str) (n:Int),vs=[.str x]/\intText? x=some n/\x.length<=640/\Q (.int n) C
def uQ:Os X (.type "int") ql:=⟨_,Ag,λF H C xs vs Q Q' R rs h q=>by
 obtain⟨x,n,rfl,h1,h2,h⟩:=h
 obtain⟨u,rfl,ru⟩:=Wu rs
 cases Yu ru
 exact⟨x,n,rfl,h1,h2,q _ _ H C R (Tx.refl H) Yq h⟩⟩
end
end WL
namespace L2
open PySem PySem.Spec PyProof.Rows
section
variable {prog:Program}{w:World}{A:Around}{E:Value->Shared->Prop}{s:Shared}
def Ov {l:Addr}{items:Array Value}{xs:List Str}{Q:Value->Shared->Prop}(hh:A.handled=none)(hl:s.heap.IsTuple l items)(hi:StrsAre items.toList xs)(hb:items.size+1<scanBound)
  (h:∀(h':Heap) (tk:Nat) es ep t,Vt prog w h' s.heap.objs.size es ep t->(∀y,y∈es.toList.map X3↔y∈xs)->
   (∀b o,s.heap.get? b=some o->h'.get? b=some o)->Q (.ref s.heap.objs.size) {s with heap:=h',toks:=tk}):
  wpAny (model prog w) A (call (.type "set") [.ref l]) Q E s:=by
 obtain⟨c,tl,hmro⟩:=F.called_set.mro
 have hmade:=F.called_set.made
 have hsub:=F.called_set.sub
 refine wpAny_call (codeAny_of_tree ?_)
 show wpAny _ _ (callAny (.type "set") _) _ _ _
 refine XB ⟨Code.quiet_builtin _ (by decide+kernel),codeAny_builtin F.entry_type_call ?_⟩
 rw[Around.under_plain (weight_type_call_type "set" [.ref l] []) rfl]
 have h1:=F.called_set.notType
 have h2:=F.called_set.canCreate
 have hct:=F.typeCall_set_1 (.ref l)
 repeat (any_goals (first | assumption | wp_step))
 refine codeAny_mono (Dr (.ref l) (E:=E) (Q₁:=λobj s₁=>obj=.ref s.heap.objs.size/\s₁={s with heap:=s.heap.push (Z1 w)}) ⟨rfl,rfl⟩) λr s₁ hr=>?_
 cases r with
 | error e=>exact hr
 | ok fl=>
  cases fl with
  | ret obj=>
   obtain⟨rfl,rfl⟩:=hr
   have hS:(s.heap.push (Z1 w)).get? s.heap.objs.size=some (Z1 w):=XF _ rfl
   have hT:Shared.TypeIs {s with heap:=s.heap.push (Z1 w)} (.ref s.heap.objs.size) "set":=⟨_,hS,rfl⟩
   have hli:=F.called_set.init.lookup
   have hbi:=F.called_set.init.bind (.ref s.heap.objs.size)
   repeat (any_goals (first | assumption | wp_step))
   refine codeAny_mono (codeAny_call_builtin (R:=wants (λr s₂=>r=.none/\∃h' tk,s₂={s with heap:=h',toks:=tk}/\∃es ep t,Vt prog w h' s.heap.objs.size es ep t/\(∀y,y∈es.toList.map X3↔y∈xs)/\
     (∀b o,s.heap.get? b=some o->h'.get? b=some o)) E) F.called_set.init.plain F.entry_set_init (check_set_init_1 hT ?_)) λr₂ s₂ hr₂=>?_
   ·obtain⟨ol,hol,hcl,nl,hdl⟩:=hl
    obtain⟨ocls,odict,odata,oslots⟩:=ol
    simp only at hcl hdl
    subst hcl;subst hdl
    have hol':(s.heap.push (Z1 w)).get? l=some {cls:=.type "tuple",dict:=odict,data:=.seq items nl,slots:=oslots}:=XC _ hol
    have hsls:=F.sub_tuple_set
    have hslf:=F.sub_tuple_frozenset
    have hne:(Value.type "tuple"==Value.type "dict")=false:=by decide
    have hl1:(s.heap.push (Z1 w)).IsTuple l items:=⟨_,hol',rfl,nl,rfl⟩
    unfold Builtin.«set.__init__» noKeywords Builtin.Frozenset.updateFrom
    generalize hPI:pyIter=PI
    wp_walk
    subst hPI
    refine wpAny_pyIter_tuple hl1 ?_
    refine XA (wpAny_runValue ?_)
    have hlS:l<s.heap.objs.size:=XD hol
    have hh3:A.in1.in1.in1.handled=none:=by simp[hh]
    have hz:(s.heap.push (Z1 w)).objs.size=s.heap.objs.size+1:=size_push' _ _
    have hneI:l≠(s.heap.push (Z1 w)).objs.size:=by rw[hz];exact XH (Nat.lt_succ_of_lt hlS)
    have hSf:s.heap.objs.size∉[(s.heap.push (Z1 w)).objs.size,l]:=by
     rw[hz];simp only[List.mem_cons,List.mem_singleton,List.not_mem_nil,or_false,not_or]
     exact⟨XH (Nat.lt_succ_self _),Nat.ne_of_gt hlS⟩
    have hget:((s.heap.push (Z1 w)).push {cls:=.type "tuple_iterator",data:=.fields #[.ref l,.int 0 0]}).get? s.heap.objs.size=some (Z1 w):=XC _ hS
    refine Iu ((Walks.tuple hh3 _ l hneI items).toS) s.heap.objs.size hSf xs (by rw[Oz hi];simp) (λi v hv=>A4 hi i v (by rw[Array.getElem?_toList];exact hv)) hb (items.size-0) 0 _ #[] 0 (.fresh 0 0 (!yA w)) (by omega) (Nat.zero_le _)
     ⟨⟨_,Heap.get?_push_size _ rfl,rfl,rfl⟩,(hl1.push _)⟩ ⟨hget,λe he=>by simp at he,by rfl,by decide,λz=>absurd rfl z,rfl,by simp⟩ (λy=>by simp) (by simp) ?hR
    intro s' es' ep' t' hm S' hm'
    obtain⟨h',g',d',tk',os'⟩:=s'
    have eg:g'=s.gens:=hm.gens
    have ed:d'=s.drawn:=hm.drawn
    have eo:os'=s.os:=hm.os
    subst eg;subst ed;subst eo
    show wpAny _ _ _ _ _ _
    refine XB ?_
    show wpAny _ _ (ret Value.none) _ _ _
    refine XB ⟨rfl,h',tk',rfl,es',ep',t',S',hm',λb o e=>?_⟩
    have hb0:=XD e
    exact hm.heap b o (by simp only[List.mem_cons,List.mem_singleton,List.not_mem_nil,or_false,not_or];exact⟨Nat.ne_of_lt hb0,by rw[hz];exact Nat.ne_of_lt (Nat.lt_succ_of_lt hb0)⟩) (Heap.get?_push_of_some _ (Heap.get?_push_of_some _ e))
   ·cases r₂ with
    | error e=>exact hr₂
    | ok fl₂=>
     cases fl₂ with
     | ret r=>
      obtain⟨rfl,h',tk,rfl,es',ep',t',S',hm',hk'⟩:=hr₂
      repeat (any_goals (first | assumption | wp_step))
      exact h _ _ _ _ _ S' hm' hk'
     | _=>exact hr₂.elim
  | _=>exact hr.elim
end
section
variable {X:Cx}
def Eh (hc:X.calm=true):Xb X (.type "set") (λxs H Q=>∃(p:Addr) (ts:List Str),xs=[.ref p]/\(Xz X.K H p (ts.map V.str)\/Uc X.K H p (ts.map V.str))/\ts.length+1<scanBound/\∀q,H q=none->Q (.ref q) (Je H q (zg X.prog X.w q ts))):=by
 intro pins s σ H xs us Q I r h
 obtain⟨p,ts,rfl,hq | hq,hb,q⟩:=h
 ·exact Ad hc pins s σ H _ us Q I r ⟨p,ts,rfl,hq,hb,q⟩
 ·obtain⟨u,rfl,ru⟩:=Uf r
  cases ru
  obtain⟨its,rv,pl,hz⟩:=I.tuple hq
  have hS:=M4 rv
  have hl:=Oz hS
  refine Ov (I.ok.hd hc) (show s.heap.IsTuple p its.toArray from pl) (xs:=ts) (by simpa using hS) (by rw[List.size_toArray,<-hl];exact hb) λh' tk es ep t S m k=>?_
  have hf:=I.hok.fresh (XE s.heap.objs.size)
  exact⟨.ref s.heap.objs.size,_,I.laid k (XE _) (E8 S m),rfl,q _ hf⟩
def Af:Xb X (.builtin "len") (λxs H Q=>∃(p:Addr) (ts:List Str),xs=[.ref p]/\H p=some (zg X.prog X.w p ts)/\∀ys:List Str,ys.Nodup->(∀y,y∈ys↔y∈ts)->Q (.int (ys.length:Int)) H):=by
 intro pins s σ H xs us Q I r h
 obtain⟨p,ts,rfl,hp,q⟩:=h
 obtain⟨u,rfl,ru⟩:=Uf r
 cases ru
 obtain⟨⟨es,ep,t,S,m⟩,_,_⟩:=I.hok p _ hp
 have hb:=S.bnd
 have hs:scanBound=4096:=rfl
 refine call_len_set S.get ?_ rfl S.fit (by omega) ⟨.int (es.size:Int),H,I.tok _,⟨_,rfl⟩,?_⟩
 ·exact⟨rfl,rfl,rfl⟩
 ·have:=q (es.toList.map X3) S.nod m
  rw[XI,Array.length_toList] at this
  exact this
end
end L2
namespace WL
open PySem PySem.Spec PyProof.Rows L2
section
variable {X:Cx}{e:Expr}{we:WE}{pos p p2 pos2:Pos}
def xw:bootBuiltins "len"=some (.builtin "len"):=by decide+kernel
def xg (we:WE):WE:=λτ C Q χ=>we τ C (λv C1=>∃ts:List Str,((v=.tup (ts.map T.str))\/∃a,v=.ref a/\C1 a=some (.lst (ts.map T.str)))/\ts.length+1<scanBound/\∀ys:List Str,ys.Nodup->(∀y,y∈ys↔y∈ts)->Q (.int (ys.length:Int)) C1) χ
def y4 (hc:X.calm=true)(hg:Gl X "len")(hm:X.mg "len"=none)(hg2:Gl X "set")(hm2:X.mg "set"=none)(he:Jw X e we)
  (s1:starEach [.Call (.Name "set" p2) [e] [] pos2] X.env=(false,eval (.Call (.Name "set" p2) [e] [] pos2) X.env)::starEach [] X.env:=by rfl) (s2:(backTo pos (starEach [] X.env)).any (·.1)=false:=by rfl)
  (s3:starEach [e] X.env=(false,eval e X.env)::starEach [] X.env:=by rfl) (s4:(backTo pos2 (starEach [] X.env)).any (·.1)=false:=by rfl):
  Jw X (.Call (.Name "len" p) [.Call (.Name "set" p2) [e] [] pos2] [] pos) (xg we):=by
 obtain⟨t,p1,sm⟩:=he
 have pa:PA X [e] (M3 t wN):=Wf p1 Pn s3
 have pS:=Lb (pos:=pos2) (p:=p2) (Eh hc) hg2 hm2 uM pa (by decide) (by decide) s3 s4
 refine⟨_,Td Af hg hm xw (Wf pS Pn) (by decide) (by decide) s1 s2,λF H C σ τ Q Q' χ R S h q=>?_⟩
 refine sm F H C σ τ _ _ χ R S h λx v H1 C1 R1 t1 rx h1=>?_
 obtain⟨ts,hv,hl,h1⟩:=h1
 have key:∃l,x=.ref l/\(Xz X.K H1 l (ts.map V.str)\/Uc X.K H1 l (ts.map V.str)):=by
  rcases hv with rfl | ⟨a,rfl,hC⟩
  ·obtain⟨l,ys,rfl,q1,r1⟩:=Y0 rx
   cases O3 r1
   exact⟨l,rfl,.inr q1⟩
  ·cases Yl rx
   obtain⟨ys,hH,rs⟩:=R1.lst hC
   cases O3 rs
   exact⟨a,rfl,.inl (Xz.of hH)⟩
 obtain⟨l,rfl,hs⟩:=key
 refine⟨l,ts,rfl,hs,hl,λq1 hq1=>?_⟩
 have R2:Rl X.K F (Je H1 q1 (zg X.prog X.w q1 ts)) C1:=R1.hid hq1
 exact⟨q1,ts,rfl,Yy,λys hn hm=>q _ _ _ _ R2 (t1.trans (Tx.new hq1)) Yq (h1 ys hn hm)⟩
end
end WL
namespace L2
open PySem PySem.Spec PyProof.Rows
section
variable {X:Cx}{st:Stmt}{Z9:List Stmt}{t u:TS}{pos:Pos}
def wK {α:Type}{t:Sem α}{Q:α->Shared->Prop}{M:Model}{A:Around}{E:Value->Shared->Prop}{s:Shared}(h1:1<=s.toks)(h:wpAny M A t (λa s'=>1<=s'.toks->Q a s') E s):wpAny M A t Q E s:=
 Ji (Kf h1 h) λ_ _ z=>z.2 z.1
def x9 (X:Cx)(e:Expr)(t:TE):Prop:=
 ∀(pins:List (Addr×Obj)) (s:Shared) (σ:St) (H:Hp) (Q:VK),1<=s.toks->Zm X pins σ H s->t σ H Q->wpAny (model X.prog X.w) X.A (eval e X.env) (EP X pins σ Q) X.xe s
def tM (X:Cx)(es:List Expr)(t:TA):Prop:=
 ∀(pos:Pos) (pins:List (Addr×Obj)) (s:Shared) (σ:St) (H:Hp) (Q:List V->Hp->Prop),1<=s.toks->Zm X pins σ H s->t σ H Q->wpAny (model X.prog X.w) X.A (spliced (backTo pos (starEach es X.env))) (AP X pins σ Q) X.xe s
def wu (X:Cx)(st:Stmt)(t:TS):Prop:=
 ∀(pins:List (Addr×Obj)) (s:Shared) (σ:St) (H:Hp) (D:Ro),1<=s.toks->Zm X pins σ H s->t D σ H->wpAny (model X.prog X.w) X.A (exec st X.env) (SP X pins D) X.xe s
def Qw (X:Cx)(st:List Stmt)(t:TS):Prop:=
 ∀(pins:List (Addr×Obj)) (s:Shared) (σ:St) (H:Hp) (D:Ro),1<=s.toks->Zm X pins σ H s->t D σ H->wpAny (model X.prog X.w) X.A (execs st X.env) (SP X pins D) X.xe s
def oA (X:Cx)(st:Stmt)(t:TS):Prop:=
 ∀(pins:List (Addr×Obj)) (s:Shared) (σ:St) (H:Hp) (D:Ro),Zm X pins σ H s->t D σ H->wpAny (model X.prog X.w) X.A (exec st X.env) (λf s'=>1<=s'.toks/\SP X pins D f s') X.xe s
def PE.one {e:Expr}{t:TE}(h:PE X e t):x9 X e t:=λpins s σ H Q _ I q=>h pins s σ H Q I q
def PA.one {es:List Expr}{t:TA}(h:PA X es t):tM X es t:=λpos pins s σ H Q _ I q=>h pos pins s σ H Q I q
def PS.one (h:PS X st t):wu X st t:=λpins s σ H D _ I q=>h pins s σ H D I q
def Lq.one (h:Lq X Z9 t):Qw X Z9 t:=λpins s σ H D _ I q=>h pins s σ H D I q
def Bg (h1:wu X st t)(h2:Qw X Z9 u):Qw X (st::Z9) (wL t u):=by
 intro pins s σ H D k I h
 refine wpAny_execs_cons (Ji (Kf k (h1 pins s σ H {D with nx:=u D} k I h)) λf s1 q=>?_)
 obtain⟨k1,q⟩:=q
 cases f with
 | next=>
  obtain⟨σ',H',I',q⟩:=q
  exact h2 pins s1 σ' H' D k1 I' q
 | ret v=>exact q
 | brk=>exact q
 | cont=>exact q
def Bf (h1:oA X st t)(h2:Qw X Z9 u):Lq X (st::Z9) (wL t u):=by
 intro pins s σ H D I h
 refine wpAny_execs_cons (Ji (h1 pins s σ H {D with nx:=u D} I h) λf s1 q=>?_)
 obtain⟨k1,q⟩:=q
 cases f with
 | next=>
  obtain⟨σ',H',I',q⟩:=q
  exact h2 pins s1 σ' H' D k1 I' q
 | ret v=>exact q
 | brk=>exact q
 | cont=>exact q
def zt (h1:wu X st t):Qw X [st] t:=by
 intro pins s σ H D k I h
 refine wpAny_execs_cons (Ji (h1 pins s σ H D k I h) λf s1 q=>?_)
 cases f with
 | next=>exact wpAny_execs_nil q
 | ret v=>exact q
 | brk=>exact q
 | cont=>exact q
def j3 {e:Expr}{te:TE}(he:x9 X e te):wu X (.Return (some e) pos) (tZ te):=by
 intro pins s σ H D k I h
 exact wpAny_Return_some (Ji (he pins s σ H _ k I h) λv s1 ⟨x,H1,I1,r1,q1⟩=>⟨x,σ,H1,I1,r1,q1⟩)
def j2 {i:Nat}{x:Str}{e:Expr}{te:TE}{pos':Pos}(hN:X.N.Nodup)(hi:X.N[i]?=some x)(hx:yS X.env.scope x)(he:x9 X e te)(hs:swapsWith e (some (.Name x pos')) pos.line X.env=pure false:=by rfl)(hf:X.fn x=true\/X.env.scope.names.lookup x=some .local:=by first | exact .inl rfl | exact .inr rfl | assumption):
  wu X (.Assign [.Name x pos'] e pos) (wP te (J8 i)):=by
 intro pins s σ H D k I h
 refine wpAny_Assign_Name (Ji (he pins s σ H _ k I h) λv s1 ⟨y,H1,I1,r1,q1⟩=>?_) hs
 exact U2 I1 hN hi hx r1 (λs2 I2=>⟨_,H1,I2,q1⟩) hf
def zA {e:Expr}{es:List Expr}{te:TE}{t:TA}(ha:x9 X e te)(hr:PA X es t)(hs:starEach (e::es) X.env=(false,eval e X.env)::starEach es X.env:=by rfl):tM X (e::es) (M3 te t):=by
 intro pos pins s σ H Q k I h
 rw[hs]
 show wpAny _ _ (spliced ((false,eval e X.env)::backTo pos (starEach es X.env))) _ _ s
 refine Calls.spliced_cons (Ji (ha pins s σ H _ k I h) λu s1 ⟨x,H1,I1,r1,q1⟩=>?_)
 exact Ji (hr pos pins s1 σ H1 _ I1 q1) λus s2 ⟨xs,H2,I2,r2,q2⟩=>⟨x::xs,H2,I2,.cons r1 r2,q2⟩
def Hd {o:Expr}{to:TE}{apos cpos:Pos}{z y:Str}{k1 k2:Nat}{lp1 lp2:Pos}(ho:x9 X o to)(hyz:(y==z)=false)(hz:z.length<=14)
  (hbase:attributeBase o "replace" X.env (eval o X.env)=eval o X.env:=by rfl)
  (hfew:((backTo cpos (starEach [.Constant (.str y) k1 lp1,.Constant (.str z) k2 lp2] X.env)).all (λx=>!x.1)&&(backToKw cpos (keywordEach [] X.env)).all (λx=>x.1.isSome)
   &&decide ([Expr.Constant (.str y) k1 lp1,.Constant (.str z) k2 lp2].length+([]:List Keyword).length+(if ([]:List Keyword).isEmpty then 0 else 1)<30))=true:=by rfl)
  (hline:(apos.endLine==cpos.line)=true:=by rfl)
  (hs:starEach [.Constant (.str y) k1 lp1,.Constant (.str z) k2 lp2] X.env=[(false,eval (.Constant (.str y) k1 lp1) X.env),(false,eval (.Constant (.str z) k2 lp2) X.env)]:=by rfl):
  x9 X (.Call (.Attribute o "replace" apos) [.Constant (.str y) k1 lp1,.Constant (.str z) k2 lp2] [] cpos) (λσ H Q=>to σ H λx H1=>∃u,x=.str u/\u.length<=1048576/\Q (.str (Txt.replace u y z)) H1):=by
 intro pins s σ H Q k I h
 refine wpAny_Call_method_late hbase hfew hline rfl (Ji (Kf k (ho pins s σ H _ k I h)) λv s1 ⟨h1,x,H1,I1,r1,q1⟩=>?_)
 obtain⟨u,rfl,hu,q⟩:=q1
 obtain⟨t0,rfl⟩:=r1
 refine⟨"str","str.replace",PySem.F.plainAttrs_str,PySem.F.slot_str_replace,PySem.F.type_str_replace,typeIs_str _ _ _,(λ_ q=>nomatch q),?_⟩
 rw[hs]
 refine Calls.callWith_builtin (by rfl) (Calls.evalArgs_plain ?_)
 show wpAny _ _ (spliced ((false,eval (.Constant (.str y) k1 lp1) X.env)::[(false,_)])) _ _ s1
 refine Calls.spliced_cons (Calls.Constant_str ?_)
 refine Calls.spliced_cons (Calls.Constant_str (k:=k2) (pos:=lp2) ?_)
 refine Calls.spliced_nil ?_
 refine SC.replaceW (by show s1.toks≠0;omega) (by show s1.toks+1≠0;omega) (by show s1.toks≠s1.toks+1;omega) hyz hu hz λt' k'=>?_
 exact⟨.str _,H1,I1.tok k',⟨_,rfl⟩,q⟩
end
structure Sr (P:Program)(w:World)(K:W.Frag)(mg:Str->Option Value)(base:Heap)(k:Nat)(f:Addr)(fd:FuncData)(ps:List Str)(sp:Sp):Prop where
 len:∀vs H Q E,sp vs H Q E->vs.length=ps.length
 run:∀(A:Around) (outer:List Env) (s:Shared) (H:Hp) (args:Args) (us:List Value) (vs:List V) (Q:VK) (E:XK),1<=s.toks->Y2 k A->Em P w K mg base A outer s H->BindsTo s fd args (ps.zip us)->Zx vs us->sp vs H Q E->
  codeAny (model P w) A (.call (.ref f) args) (CR CX0 outer P w H s Q E) s
def Wi.one {P:Program}{w:World}{K:W.Frag}{mg:Str->Option Value}{base:Heap}{k:Nat}{f:Addr}{fd:FuncData}{ps:List Str}{sp:Sp}(F:Wi P w K mg base CX0 k f fd ps sp):Sr P w K mg base k f fd ps sp:=
 ⟨F.len,λA outer s H args us vs Q E _=>F.run A outer s H args us vs Q E⟩
section
variable {X:Cx}{k:Nat}{f:Addr}{fd:FuncData}{ps:List Str}{sp:Sp}{x:Str}{p pos:Pos}{e:Expr}{es:List Expr}{t:TA}
def Dd {pins:List (Addr×Obj)}{σ:St}{H:Hp}{s:Shared}{Q:VK}{us:List Value}{vs:List V}(F:Sr X.prog X.w X.K X.mg X.base k f fd ps sp)(hr:Y2 k X.A)(hb:Xm X.K fd ps [])(h1:1<=s.toks)
  (I:Zm X pins σ H s) (r:Zx vs us) (h:sp (vs++[]) H Q E0):wpAny (model X.prog X.w) X.A (call (.ref f) us) (EP X pins σ Q) X.xe s:=by
 have r2:Zx (vs++[]) (us++[]):=r.append .nil
 have hl:(us++[]).length=ps.length:=by rw[<-r2.length];exact F.len _ _ _ _ h
 refine wpAny_call (codeAny_mono (F.run X.A X.stack s H ⟨us,[]⟩ (us++[]) (vs++[]) Q E0 h1 hr I.env0 (hb s us I.kIn hl) r2 h) λr s' hq=>?_)
 cases r with
 | error e=>exact(xN:Vi CX0 X E0) pins σ H s e s' I hq
 | ok fl=>
  cases fl with
  | ret u=>exact I.after hq
  | next=>exact False.elim hq
  | brk=>exact False.elim hq
  | cont=>exact False.elim hq
structure wz (P:Program)(w:World)(K:W.Frag)(mg:Str->Option Value)(base:Heap)(k:Nat)(x:Str)(ps:List Str)(sp:Sp):Prop where
 ex:∃(f:Addr) (fd:FuncData),Sr P w K mg base k f fd ps sp/\Xm K fd ps []/\W.keepIn K (.ref f)=true/\mg x=some (.ref f)
def Ca.one {P:Program}{w:World}{K:W.Frag}{mg:Str->Option Value}{base:Heap}(C:Ca P w K mg base k x ps sp):wz P w K mg base k x ps sp:=by
 obtain⟨f,fd,F,r⟩:=C.ex
 exact⟨f,fd,F.one,r⟩
def z7 (C:wz X.prog X.w X.K X.mg X.base k x ps sp)(hr:Y2 k X.A)(hg:Gl X x)(ha:tM X (e::es) t)
  (hdb:(x==("__debug__":Str))=false:=by decide) (he:starEach (e::es) X.env=(false,eval e X.env)::starEach es X.env:=by rfl) (hpl:(backTo pos (starEach es X.env)).any (·.1)=false:=by rfl):
  x9 X (.Call (.Name x p) (e::es) [] pos) (Iy sp [] E0 t):=by
 obtain⟨f,fd,F,B,kp,m⟩:=C.ex
 intro pins s σ H Q h1 I h
 refine wpAny_Call_Name_kw (Xx I hg m ?_ hdb)
 refine W.callWith_K (h₀:=X.base) I.ok.mod.kin kp (Ji (Kf h1 (ha pos pins s σ H _ h1 I h)) λus s1 ⟨k1,vs,H1,I1,r,q⟩=>⟨I1.kIn,?_⟩) he hpl
 exact Dd F hr B k1 I1 r q
end
def u5 {P:Program}{w:World}{K:W.Frag}{mg:Str->Option Value}{base:Heap}{k:Nat}{f:Addr}{name qual:Str}{params:Arguments}{body:List Stmt}{scope:Scope}{dV kV doc pm cdv ct oc:Value}{an od:Option Addr}
  {osl:Array (Option Value)} {N ps:List Str} {sp:Sp} (lk:K.lookup f=some ⟨oc,od,.func (W.fnOf name qual params body scope dV kV doc pm an cdv ct),osl⟩) (hcd:W.codeIn K cdv qual=true) (S:Zp N ps scope)
  (len:∀vs H Q E,sp vs H Q E->vs.length=ps.length)
  (hbody:∀(A:Around) (outer:List Env) (s:Shared) (H:Hp) (vs:List V) (Q:VK) (E:XK),Y2 k (A.deeper (envOfC qual scope s.heap.objs.size f cdv))->sp vs H Q E->
   ∃t,Qw (Yx CX0 P w K mg base N qual scope f cdv A outer s H E) body t/\t {nx:=λ_ H'=>Q .non H',rt:=Q} (start N vs) H):
  Sr P w K mg base (k+1) f (W.fnOf name qual params body scope dV kV doc pm an cdv ct) ps sp:=by
 refine⟨len,λA outer s H args us vs Q E h1 hr e0 hb r hsp=>?_⟩
 have hl:=len _ _ _ _ hsp
 have KX:K.In s.heap:=e0.mod.kin.keeps λb o e=>(e0.bs b o e).1
 have lim:s.heap.NoLimit:=e0.mod.nolimit.keeps λb o e=>(e0.bs b o e).1
 have hkind:∀y∈ps.zip us,scope.names.lookup y.1=some .local\/(scope.names.lookup y.1=some .cell/\((cellsFrom (s.heap.objs.size+1) scope.names []).lookup y.1).isSome=true):=λ⟨n,v⟩ hy=>by
  rcases S.par n (List.of_mem_zip hy).1 with q | q
  ·exact .inl q
  ·exact .inr ⟨q,W.cellsFrom_some _ _ _ (.inl q)⟩
 refine codeAny_call_function hr.depth (KX _ _ lk) rfl S.co S.gen rfl (W.codeRec_of KX hcd) (hb _ _ _ _ ?_)
 refine wK h1 (wpAny_newFunctionEnv_cells S.kind hkind λenv he s1 x k1=>?_)
 subst he
 refine⟨lim.keeps x.toInCall.keep,codeAny_func ?_⟩
 obtain⟨t,ht,hq⟩:=hbody A outer s H vs Q E (hr.deeper _) hsp
 have I:Zm (Yx CX0 P w K mg base N qual scope f cdv A outer s H E) [] (start N vs) H s1:=Ps S hr.hd e0 hl r x
 refine wpAny_mono (ht [] s1 (start N vs) H _ k1 I hq) (λfl s' hs=>?_) λe s' hs=>hs
 have fin:∀{σ':St} {H':Hp} {v:V} {u:Value},Zm (Yx CX0 P w K mg base N qual scope f cdv A outer s H E) [] σ' H' s'->Z3 v u->Q v H'->CE outer P w H s Q u s':=
  λ{σ' H' v u} J rv q=>⟨v,H',J.os,J.bare,J.base,J.hok,rv,q⟩
 cases fl with
 | ret u=>
  obtain⟨v,σ',H',J,rv,q⟩:=hs
  exact fin J rv q
 | next=>
  obtain⟨σ',H',J,q⟩:=hs
  exact fin (v:=V.non) (u:=Value.none) J rfl q
 | brk=>
  obtain⟨_,_,_,q⟩:=hs
  exact False.elim q
 | cont=>
  obtain⟨_,_,_,q⟩:=hs
  exact False.elim q
def Qw.nox {X:Cx}{st:List Stmt}{t:TS}(h:Qw X.nox st t):Qw X st t:=λpins s σ H D k I hw=>
 wpAny_mono (h pins s σ H D k (I.wish _) hw) (λf s' q=>q.unwish) λ_ _ z=>z.elim
section
variable {P:Program}{w:World}{K:W.Frag}{mg:Str->Option Value}{base:Heap}
def P9.ok1 {x qual:Str}{st:Stmt}{f:Addr}{fd:FuncData}{N ps:List Str}{k:Nat}{sp:Sp}(F:P9 K x qual st f fd)(S:Zp N ps (Zf st))(len:∀vs H Q E,sp vs H Q E->vs.length=ps.length)
  (hbody:∀(cdv:Value) (A:Around) (outer:List Env) (s:Shared) (H:Hp) (vs:List V) (Q:VK) (E:XK),Y2 k (A.deeper (envOfC qual (Zf st) s.heap.objs.size f cdv))->sp vs H Q E->
   ∃t,Qw (Yx CX0 P w K mg base N qual (Zf st) f cdv A outer s H E).nox (Yn st) t/\t {nx:=λ_ H'=>Q .non H',rt:=Q} (start N vs) H):Sr P w K mg base (k+1) f fd ps sp:=by
 obtain⟨oc,od,kV,doc,pm,an,cdv,ct,osl,rfl,lk,hcd⟩:=F.ex
 refine u5 lk hcd S len λA outer s H vs Q E hr hsp=>?_
 obtain⟨t,h,q⟩:=hbody cdv A outer s H vs Q E hr hsp
 exact⟨t,h.nox,q⟩
end
end L2
namespace WL
open PySem PySem.Spec PyProof.Rows L2
def Mi (X:Cx)(e:Expr)(w:WE):Prop:=∃t,x9 X e t/\Wz X.K t w
def El (X:Cx)(es:List Expr)(w:WA):Prop:=∃t,tM X es t/\Il X.K t w
def G2 (X:Cx)(st:Stmt)(w:WS):Prop:=∃t,wu X st t/\G0 X.K t w
def xz (X:Cx)(st:Stmt)(w:WS):Prop:=∃t,oA X st t/\G0 X.K t w
def P8 (X:Cx)(st:List Stmt)(w:WS):Prop:=∃t,Qw X st t/\G0 X.K t w
section
variable {X:Cx}{e a b o:Expr}{es:List Expr}{st:Stmt}{Z9:List Stmt}{we wa wb wo:WE}{wA:WA}{w u:WS}{pos p cpos apos:Pos}
def Jw.one (h:Jw X e we):Mi X e we:=by obtain⟨t,p,s⟩:=h;exact⟨t,p.one,s⟩
def Mj.one (h:Mj X es wA):El X es wA:=by obtain⟨t,p,s⟩:=h;exact⟨t,p.one,s⟩
def Mh.one (h:Mh X st w):G2 X st w:=by obtain⟨t,p,s⟩:=h;exact⟨t,p.one,s⟩
def Lp.one (h:Lp X Z9 w):P8 X Z9 w:=by obtain⟨t,p,s⟩:=h;exact⟨t,p.one,s⟩
def Gk (ha:Mi X a wa)(hb:Mj X es wA)(hs:starEach (a::es) X.env=(false,eval a X.env)::starEach es X.env:=by rfl):El X (a::es) (Z2 wa wA):=by
 obtain⟨ta,p1,s1⟩:=ha
 obtain⟨tb,p2,s2⟩:=hb
 exact⟨_,zA p1 p2 hs,Kk s1 s2⟩
def Rm {y z:Str}{k1 k2:Nat}{lp1 lp2:Pos}(ho:Mi X o wo)(hyz:(y==z)=false)(hz:z.length<=14)
  (hbase:attributeBase o "replace" X.env (eval o X.env)=eval o X.env:=by rfl)
  (hfew:((backTo cpos (starEach [.Constant (.str y) k1 lp1,.Constant (.str z) k2 lp2] X.env)).all (λx=>!x.1)&&(backToKw cpos (keywordEach [] X.env)).all (λx=>x.1.isSome)
   &&decide ([Expr.Constant (.str y) k1 lp1,.Constant (.str z) k2 lp2].length+([]:List Keyword).length+(if ([]:List Keyword).isEmpty then 0 else 1)<30))=true:=by rfl)
  (hline:(apos.endLine==cpos.line)=true:=by rfl)
  (hs:starEach [.Constant (.str y) k1 lp1,.Constant (.str z) k2 lp2] X.env=[(false,eval (.Constant (.str y) k1 lp1) X.env),(false,eval (.Constant (.str z) k2 lp2) X.env)]:=by rfl):
  Mi X (.Call (.Attribute o "replace" apos) [.Constant (.str y) k1 lp1,.Constant (.str z) k2 lp2] [] cpos) (xY y z wo):=by
 obtain⟨t,p1,sm⟩:=ho
 refine⟨_,Hd p1 hyz hz hbase hfew hline hs,λF H C σ τ Q Q' χ R S h q=>?_⟩
 refine sm F H C σ τ _ _ χ R S h λx v H1 C1 R1 t1 rx h1=>?_
 obtain⟨u,rfl,hu,h1⟩:=h1
 cases Yu rx
 exact⟨u,rfl,hu,q _ _ H1 C1 R1 t1 Zt h1⟩
def K5 (a:Mi X e we):G2 X (.Return (some e) pos) (Pj we):=by
 obtain⟨t,p,s⟩:=a
 refine⟨_,j3 p,λF H C σ τ D D' R S h d=>?_⟩
 exact s F H C σ τ _ _ D'.xc R S h d.rt
def xi {i:Nat}{x:Str}{pos':Pos}(hN:X.N.Nodup)(he:Mi X e we)(hi:X.N[i]?=some x:=by rfl)(hx:yS X.env.scope x:=by first | exact Or.inl rfl | exact Or.inr rfl)(hs:swapsWith e (some (.Name x pos')) pos.line X.env=pure false:=by rfl)
  (hf:X.fn x=true\/X.env.scope.names.lookup x=some .local:=by first | exact .inl rfl | exact .inr rfl | assumption):G2 X (.Assign [.Name x pos'] e pos) (W1 we (T5 i)):=by
 obtain⟨t,p,s⟩:=he
 refine⟨_,j2 hN hi hx p hs hf,λF H C σ τ D D' R S h d=>?_⟩
 refine s F H C σ τ _ _ D'.xc R S h λx v H1 C1 R1 t1 rx h1=>?_
 exact Y3 F H1 C1 σ τ x v _ _ D'.xc R1 (S.tx t1) rx h1 λσ' τ' H' C' R' t'=>d.nx σ' τ' H' C' R' (t1.trans t')
def T8 (a:G2 X st w):P8 X [st] w:=by
 obtain⟨t,p,s⟩:=a
 exact⟨_,zt p,s⟩
def Ja (a:G2 X st w)(b:P8 X Z9 u):P8 X (st::Z9) (Sg w u):=by
 obtain⟨t,p,s⟩:=a
 obtain⟨t',p',s'⟩:=b
 refine⟨_,Bg p p',λF H C σ τ D D' R S h d=>?_⟩
 exact s F H C σ τ _ _ R S h ⟨λσ' τ' H' C' R' t' S' h'=>s' F H' C' σ' τ' D D' R' S' h' (d.at t'),d.rt,d.bk,d.ct⟩
def yx (a:xz X st w)(b:P8 X Z9 u):Lp X (st::Z9) (Sg w u):=by
 obtain⟨t,p,s⟩:=a
 obtain⟨t',p',s'⟩:=b
 refine⟨_,Bf p p',λF H C σ τ D D' R S h d=>?_⟩
 exact s F H C σ τ _ _ R S h ⟨λσ' τ' H' C' R' t' S' h'=>s' F H' C' σ' τ' D D' R' S' h' (d.at t'),d.rt,d.bk,d.ct⟩
def D6 {k i:Nat}{x:Str}{ps:List Str}{pr:List Df}(Cc:wz X.prog X.w X.K X.mg X.base k x ps (spW X.K pr k i))(hr:Y2 k X.A)(hg:Gl X x)(ha:El X (e::es) wA)
  (hdb:(x==("__debug__":Str))=false:=by decide) (he:starEach (e::es) X.env=(false,eval e X.env)::starEach es X.env:=by rfl) (hpl:(backTo pos (starEach es X.env)).any (·.1)=false:=by rfl):
  Mi X (.Call (.Name x p) (e::es) [] pos) (Jp (Xo pr k) i wA):=by
 obtain⟨t,p1,s⟩:=ha
 refine⟨_,z7 Cc hr hg p1 hdb he hpl,λF H C σ τ Q Q' χ R S h q=>?_⟩
 refine s F H C σ τ _ _ χ R S h λxs vs H1 C1 R1 t1 rs h1=>?_
 refine⟨F,C1,vs,Q',χ,R1,?_,h1,QE.at q t1⟩
 rw[YK];exact rs
end
def u3 {P:Program}{w:World}{K:W.Frag}{mg:Str->Option Value}{base:Heap}{x qual:Str}{st:Stmt}{f:Addr}{fd:FuncData}{N ps:List Str}{pr:List Df}{n i:Nat}{d:Df}(F:P9 K x qual st f fd)(S:Zp N ps (Zf st))(hd:pr[i]?=some d)(hn:d.n=N.length)(har:d.ar=ps.length)
  (hb:∀(cdv:Value) (A:Around) (outer:List Env) (s:Shared) (H:Hp) (E:XK),Y2 n (A.deeper (envOfC qual (Zf st) s.heap.objs.size f cdv))->P8 (Yx CX0 P w K mg base N qual (Zf st) f cdv A outer s H E).nox (Yn st) (d.body (Xo pr n))):
  Sr P w K mg base (n+1) f fd ps (spW K pr (n+1) i):=by
 refine F.ok1 S (λvs H Q E h=>?_) (λcdv A outer s H vs Q E hr h=>?_)
 ·obtain⟨F',C,vs',Q',χ,R,rs,⟨d',e1,e2,_⟩,_⟩:=h
  rw[hd] at e1;cases e1
  rw[rs.length,e2,har]
 ·obtain⟨F',C,vs',Q',χ,R,rs,⟨d',e1,e2,h⟩,q⟩:=h
  rw[hd] at e1;cases e1
  obtain⟨t,p,sm⟩:=hb cdv A outer s H E hr
  refine⟨t,p,sm F' H C _ _ _ _ R (Jz.start rs N _ (by rw[rs.length,e2,hn])) h ⟨λσ τ H' C' R' t' _ h'=>q .non .non H' C' R' t' Wc h',q,λ_ _ _ _ _ _ _ z=>z.elim,λ_ _ _ _ _ _ _ z=>z.elim⟩⟩
end WL
namespace L2
open PySem PySem.Spec PyProof.Rows
def G6 (P:Params):List DictEntry->List (Str×Int)->Prop
 | [],[]=>True
 | e::l,(x,i)::r=>((∃t,e.key=.str x t)/\e.hash=PyData.keyHash P x/\∃t,e.val=.int i t)/\G6 P l r
 | _,_=>False
def G6.lit {P:Params}:∀{l:List DictEntry} {r:List (Str×Int)},G6 P l r->W.KeysLit P l
 | [],[],_=>trivial
 | e::l,(x,i)::r,h=>⟨let ⟨t,e1⟩:=h.1.1;⟨x,t,e1,h.1.2.1⟩,G6.lit h.2⟩
 | [],_::_,h=>h.elim
 | _::_,[],h=>h.elim
def G6.look {P:Params}{z:Str}:∀{l:List DictEntry} {r:List (Str×Int)},G6 P l r->
  (∀i,r.lookup z=some i->∃t,(l.find? λd=>Value.isStrOf z d.key).map (·.val)=some (.int i t))/\(r.lookup z=none->(l.find? λd=>Value.isStrOf z d.key).map (·.val)=none)
 | [],[],_=>⟨λi h=>by simp at h,λ_=>rfl⟩
 | e::l,(x,i)::r,h=>by
  obtain⟨⟨⟨t,e1⟩,_,⟨u,e2⟩⟩,h2⟩:=h
  by_cases c:z=x
  ·subst c
   have hk:Value.isStrOf z e.key=true:=by rw[e1];simp[Value.isStrOf]
   rw[List.find?_cons_of_pos (p:=λd:DictEntry=>Value.isStrOf z d.key) (a:=e) hk]
   have hb:(z==z)=true:=XU z
   simp only[List.lookup,hb]
   refine⟨λj hj=>?_,λhj=>by cases hj⟩
   cases hj
   exact⟨u,by rw[<-e2];rfl⟩
  ·have hk:¬Value.isStrOf z e.key=true:=by
    rw[e1]
    intro hh
    obtain⟨t',hv⟩:=Value.isStrOf_shape hh
    cases hv
    exact c rfl
   rw[List.find?_cons_of_neg (p:=λd:DictEntry=>Value.isStrOf z d.key) (a:=e) hk]
   have hb:(z==x)=false:=beq_eq_false_iff_ne.mpr c
   simp only[List.lookup,hb]
   exact G6.look h2
 | [],_::_,h=>h.elim
 | _::_,[],h=>h.elim
structure oJ (w:World)(K:W.Frag)(mg:Str->Option Value)(x:Str)(kvs:List (Str×Int)):Prop where
 ex:∃(a:Addr) (es:Array DictEntry) (n:Nat),mg x=some (.ref a)/\(a==sysModules)=false/\K.lookup a=some ⟨.type "dict",none,.dict es n,#[]⟩/\G6 w.params es.toList kvs
def rS (kvs:List (Str×Int))(z:Str):V:=match kvs.lookup z with | some i=>.int i | none=>.non
def z0 {X:Cx}{x:Str}{e:Expr}{ty:TE}{p apos cpos:Pos}{kvs:List (Str×Int)}(hg:Gl X x)(G:oJ X.w X.K X.mg x kvs)(he:PE X e ty)(m:M1 X (.Name x p) "get" apos e cpos)(hdb:(x==("__debug__":Str))=false:=by decide):
  PE X (.Call (.Attribute (.Name x p) "get" apos) [e] [] cpos) (λσ H Q=>ty σ H λy H1=>∃z,y=.str z/\Q (rS kvs z) H1):=by
 obtain⟨a,es,n,hm,lo,hl,hE⟩:=G.ex
 intro pins s σ H Q I h
 refine wpAny_Call_method m.base m.few m.line PySem.F.plainAttrs_dict PySem.F.slot_dict_get PySem.F.type_dict_get (Xx I hg hm ?_ hdb)
 have hmap:∀{s2:Shared} {H2:Hp},Zm X pins σ H2 s2->s2.heap.MapOf (PySem.strKind X.prog X.w) a (λk=>PySem.findBy Value.isStrOf es k):=λ{s2 H2} I2=>W.mapOf_K I2.kIn hl hE.lit
 refine⟨(hmap I).typeIs,λb q=>?_,?_⟩
 ·cases q
  exact⟨_,I.kIn _ _ hl,rfl⟩
 rw[m.trees]
 refine Calls.callWith_builtin rfl (Calls.evalArgs_plain (Calls.spliced_cons (Ji (he pins s σ H _ I h) λiv s2 ⟨y,H2,I2,ry,z,ey,q2⟩=>Calls.spliced_nil ?_)))
 subst ey
 obtain⟨tk,rfl⟩:=ry
 refine call_meetsIn PySem.F.slot_dict_get (hmap I2).typeIs PySem.F.entry_dict_get (PySem.F.args_dict_get_2 _ _) (meets_dict_get (PySem.strKind X.prog X.w) a (k:=z) (by show Value.isStrOf z (Value.str z tk)=true;simp[Value.isStrOf]) lo) ⟨_,hmap I2,?_⟩
 refine⟨rS kvs z,H2,I2.tok _,?_,q2⟩
 have hf:PySem.findBy Value.isStrOf es z=(es.toList.find? λd=>Value.isStrOf z d.key).map (·.val):=by
  obtain⟨l⟩:=es
  unfold PySem.findBy
  rw[List.find?_toArray]
 show Z3 (rS kvs z) ((PySem.findBy Value.isStrOf es z).getD .none)
 rw[hf]
 unfold rS
 cases hk:kvs.lookup z with
 | some i=>
  obtain⟨t,e1⟩:=hE.look.1 i hk
  rw[e1]
  exact⟨t,rfl⟩
 | none=>
  rw[hE.look.2 hk]
  rfl
end L2
namespace WL
open PySem PySem.Spec PyProof.Rows L2
def qK (kvs:List (Str×Int))(z:Str):T:=match kvs.lookup z with | some i=>.int i | none=>.non
def mz (kvs:List (Str×Int))(we:WE):WE:=λτ C Q χ=>we τ C (λv C1=>∃z,v=.str z/\Q (qK kvs z) C1) χ
def D5 {X:Cx}{x:Str}{e:Expr}{we:WE}{p apos cpos:Pos}{kvs:List (Str×Int)}(hg:Gl X x)(G:oJ X.w X.K X.mg x kvs)(he:Jw X e we)(m:M1 X (.Name x p) "get" apos e cpos)(hdb:(x==("__debug__":Str))=false:=by decide):
  Jw X (.Call (.Attribute (.Name x p) "get" apos) [e] [] cpos) (mz kvs we):=by
 obtain⟨t,p1,s1⟩:=he
 refine⟨_,z0 hg G p1 m hdb,λF H C σ τ Q Q' χ R S h q=>?_⟩
 refine s1 F H C σ τ _ _ χ R S h λy u H1 C1 R1 t1 ry h1=>?_
 obtain⟨z,rfl,h1⟩:=h1
 cases Yu ry
 refine⟨z,rfl,q _ _ H1 C1 R1 t1 ?_ h1⟩
 unfold rS qK
 cases kvs.lookup z with
 | some i=>exact Yq
 | none=>exact Wc
def wC:W2:=λv u C Q=>match v,u with
 | .ref a,.tup ts=>(∃xs,C a=some (.lst xs))/\(∃zs:List Str,ts=zs.map T.str)/\Q (.bl false) C
 | v,u=>wD v u C Q
def rp {X:Cx}(hu:X.A.units+150<cLine):G4 X (compareOp .In) wC:=⟨_,Fx,λF H C x y v u Q Q' R rx ry h q pins s σ v' u' I r1 r2=>by
 have old:wD v u C Q'->wpAny (model X.prog X.w) X.A (compareOp .In v' u') (EP X pins σ Q) X.xe s:=λh=>by
  obtain⟨r,ho,hs⟩:=Bs (X:=X) hu
  exact ho pins s σ H x y v' u' Q I r1 r2 (hs F H C x y v u Q Q' R rx ry h q)
 cases v with
 | ref a=>
  cases u with
  | tup ts=>
   obtain⟨⟨xs,hC⟩,⟨ws,rfl⟩,hq⟩:=h
   cases Yl rx
   cases (show v'=Value.ref a from r1)
   obtain⟨ys,hy,_⟩:=R.lst hC
   obtain⟨itsL,_,pL,_⟩:=I.list (Xz.of hy)
   obtain⟨b,zs,rfl,hz,rz⟩:=Y0 ry
   cases (show u'=Value.ref b from r2)
   obtain⟨its,rI,p,_⟩:=I.tuple hz
   cases O3 rz
   have at1:∀w,w∈its.toArray->SeqAt.EqAt X.A.in1 s w (.ref a) false:=λw hw=>by
    have hw':w∈its:=by simpa using hw
    obtain⟨j,hj⟩:=List.mem_iff_getElem?.mp hw'
    have hlt:j<its.length:=(List.getElem?_eq_some_iff.mp hj).1
    have hl:its.length=ws.length:=by rw[<-rI.length,XI]
    have e2:(ws.map V.str)[j]?=some (.str (ws[j]'(by omega))):=by simp[hl▸hlt]
    obtain⟨u2,m2,z2⟩:=rI.get e2
    rw[hj] at m2;cases m2
    obtain⟨t,rfl⟩:=z2
    exact SeqAt.EqAt.str_list _ t pL.isList (by show X.A.units+1<cLine;omega)
   refine SeqAt.in_tupleAt (λ_=>false) p at1 ⟨.bl _,H,I,rfl,?_⟩
   have e:its.toArray.any (λ_=>false)=false:=by simp
   rw[e]
   exact q _ _ H C R (Tx.refl H) Jb hq
  | _=>exact old h
 | non=>exact old h
 | bl _=>exact old h
 | int _=>exact old h
 | str _=>exact old h
 | tup _=>exact old h
 | cl _=>exact old h⟩
end WL
namespace L2
open PySem PySem.Spec PyProof.Rows
section
variable {X:Cx}{pos p:Pos}{e:Expr}{es:List Expr}{te:TE}{t:TA}
def qv (X:Cx)(es:List Expr)(t:TA):Prop:=
 ∀(pos:Pos) (pins:List (Addr×Obj)) (s:Shared) (σ:St) (H:Hp) (Q:List V->Hp->Prop),Zm X pins σ H s->t σ H Q->wpAny (model X.prog X.w) X.A (spliced (backTo pos (starEach es X.env))) (λus s'=>1<=s'.toks/\AP X pins σ Q us s') X.xe s
def jD {i:Int}{j:Nat}{lp:Pos}(hr:PA X es t)(hs:starEach (.Constant (.int i) j lp::es) X.env=(false,eval (.Constant (.int i) j lp) X.env)::starEach es X.env:=by rfl):qv X (.Constant (.int i) j lp::es) (M3 (tC (.int i)) t):=by
 intro pos pins s σ H Q I h
 rw[hs]
 show wpAny _ _ (spliced ((false,eval (.Constant (.int i) j lp) X.env)::backTo pos (starEach es X.env))) _ _ s
 refine Calls.spliced_cons (wpAny_Constant_int ?_)
 refine wK (s:={s with toks:=s.toks+1}) (Nat.le_add_left _ _) ?_
 exact Ji (hr pos pins _ σ H _ (I.tok _) h) λus s2 ⟨xs,H2,I2,r2,q2⟩ k=>⟨k,.int i::xs,H2,I2,.cons ⟨_,rfl⟩ r2,q2⟩
def z9 (ha:PE X e te)(hr:qv X es t)(hs:starEach (e::es) X.env=(false,eval e X.env)::starEach es X.env:=by rfl):qv X (e::es) (M3 te t):=by
 intro pos pins s σ H Q I h
 rw[hs]
 show wpAny _ _ (spliced ((false,eval e X.env)::backTo pos (starEach es X.env))) _ _ s
 refine Calls.spliced_cons (Ji (ha pins s σ H _ I h) λu s1 ⟨x,H1,I1,r1,q1⟩=>?_)
 exact Ji (hr pos pins s1 σ H1 _ I1 q1) λus s2 ⟨k,xs,H2,I2,r2,q2⟩=>⟨k,x::xs,H2,I2,.cons r1 r2,q2⟩
def zu {k i:Nat}{x y:Str}{ps:List Str}{sp:Sp}{pos' apos:Pos}(C:Ca X.prog X.w X.K X.mg X.base k x ps sp)(hr:Y2 k X.A)(hg:Gl X x)(ha:qv X (e::es) t)(hN:X.N.Nodup)(hi:X.N[i]?=some y)(hx:yS X.env.scope y)
  (hdb:(x==("__debug__":Str))=false:=by decide) (he:starEach (e::es) X.env=(false,eval e X.env)::starEach es X.env:=by rfl) (hpl:(backTo pos (starEach es X.env)).any (·.1)=false:=by rfl)
  (hs:swapsWith (.Call (.Name x p) (e::es) [] pos) (some (.Name y pos')) apos.line X.env=pure false:=by rfl) (hf:X.fn y=true\/X.env.scope.names.lookup y=some .local:=by first | exact .inl rfl | exact .inr rfl | assumption):
  oA X (.Assign [.Name y pos'] (.Call (.Name x p) (e::es) [] pos) apos) (wP (Iy sp [] E0 t) (J8 i)):=by
 obtain⟨f,fd,F,B,kp,m⟩:=C.one.ex
 intro pins s σ H D I h
 refine wpAny_Assign_Name (wpAny_Call_Name_kw (Xx I hg m ?_ hdb)) hs
 refine W.callWith_K (h₀:=X.base) I.ok.mod.kin kp (Ji (ha pos pins s σ H _ I h) λus s1 ⟨k1,vs,H1,I1,r,q⟩=>⟨I1.kIn,?_⟩) he hpl
 refine Ji (Kf k1 (Dd F hr B k1 I1 r q)) λv s2 ⟨k2,y',H2,I2,r2,q2⟩=>?_
 exact Kf k2 (U2 I2 hN hi hx r2 (λs3 I3=>⟨_,H2,I3,q2⟩) hf)
end
end L2
namespace WL
open PySem PySem.Spec PyProof.Rows L2
section
variable {X:Cx}{pos p:Pos}{a b e:Expr}{es Z9:List Expr}{wa wb:WE}{wA:WA}
def x6 (X:Cx)(es:List Expr)(w:WA):Prop:=∃t,qv X es t/\Il X.K t w
def xj {i:Int}{j:Nat}{lp:Pos}(hb:Mj X es wA)(hs:starEach (.Constant (.int i) j lp::es) X.env=(false,eval (.Constant (.int i) j lp) X.env)::starEach es X.env:=by rfl):x6 X (.Constant (.int i) j lp::es) (Z2 (eC (.int i)) wA):=by
 obtain⟨t,p,s⟩:=hb
 exact⟨_,jD p hs,Kk (tF λ_=>Yq) s⟩
def yy (ha:Jw X a wa)(hb:x6 X es wA)(hs:starEach (a::es) X.env=(false,eval a X.env)::starEach es X.env:=by rfl):x6 X (a::es) (Z2 wa wA):=by
 obtain⟨ta,p1,s1⟩:=ha
 obtain⟨tb,p2,s2⟩:=hb
 exact⟨_,z9 p1 p2 hs,Kk s1 s2⟩
def yn {k i j:Nat}{x y:Str}{ps:List Str}{pr:List Df}{pos' apos:Pos}(Cc:Ca X.prog X.w X.K X.mg X.base k x ps (spW X.K pr k i))(hr:Y2 k X.A)(hg:Gl X x)(ha:x6 X (e::es) wA)(hN:X.N.Nodup)(hi:X.N[j]?=some y:=by rfl)(hx:yS X.env.scope y:=by first | exact Or.inl rfl | exact Or.inr rfl)
  (hdb:(x==("__debug__":Str))=false:=by decide) (he:starEach (e::es) X.env=(false,eval e X.env)::starEach es X.env:=by rfl) (hpl:(backTo pos (starEach es X.env)).any (·.1)=false:=by rfl)
  (hs:swapsWith (.Call (.Name x p) (e::es) [] pos) (some (.Name y pos')) apos.line X.env=pure false:=by rfl) (hf:X.fn y=true\/X.env.scope.names.lookup y=some .local:=by first | exact .inl rfl | exact .inr rfl | assumption):
  xz X (.Assign [.Name y pos'] (.Call (.Name x p) (e::es) [] pos) apos) (W1 (Jp (Xo pr k) i wA) (T5 j)):=by
 obtain⟨t,p1,s⟩:=ha
 refine⟨_,zu Cc hr hg p1 hN hi hx hdb he hpl hs hf,λF H C σ τ D D' R S h d=>?_⟩
 refine s F H C σ τ _ _ D'.xc R S h λxs vs H1 C1 R1 t1 rs h1=>?_
 refine⟨F,C1,vs,_,D'.xc,R1,?_,h1,QE.at (Q':=λx C1=>T5 j x τ C1 D'.nx D'.xc) (λx v H2 C2 R2 t2 rx h2=>?_) t1⟩
 ·rw[YK];exact rs
 ·exact Y3 F H2 C2 σ τ x v _ _ D'.xc R2 (S.tx t2) rx h2 λσ' τ' H' C' R' t'=>d.nx σ' τ' H' C' R' (t2.trans t')
end
end WL
namespace L2
open PySem PySem.Spec PyProof.Rows
structure Ci (fs ex:List Addr)(H H':Hp)(h B:Heap):Prop where
 keep:∀b o,h.get? b=some o->H b=none->b∉fs->b∉ex->B.get? b=some o
 free:∀b o,h.get? b=some o->H b=none->b∉ex->H' b=none
 there:∀b o,h.get? b=some o->b∉fs->b∉ex->∃o',B.get? b=some o'
 tups:∀b xs,H b=some (.tup xs)->H' b=some (.tup xs)
 frzs:∀b o u,H b=some (.frz o u)->H' b=some (.frz o u)
 tbls:∀b ps,H b=some (.tbl ps)->∃more,H' b=some (.tbl (ps++more))
def nD (P:Program)(w:World)(ex:List Addr)(Z:Hp->Heap->Prop)(Fl:Heap->List Env->Addr->Value->Value->Heap->Prop):Iq:=λouter H s E e s'=>∃ea cls a0 H' B,e=.ref ea/\E cls none H'/\s'.os=s.os/\AllBare s'.gens/\Ci (Rv outer) ex H H' s.heap B/\
 (∀b∈Rv outer,∀o,s.heap.get? b=some o->b∉ex->∃sl,s'.heap.get? b=some {o with slots:=sl})/\Vl P w H' B/\Z H' B/\Fl B outer ea cls a0 s'.heap
def X8 (P:Program)(w:World):Iq:=nD P w [] (λ_ _=>True) Heap.FlyingW
def Ci.hide {fs ex as:List Addr}{H H':Hp}{h h':Heap}(u:Un fs ex H H' h h')(k:∀b o,h.get? b=some o->b∉fs->b∉as):Ci fs ex H H' h (W.hideAll h' as) where
 keep:=λb o e n hb hx=>W.hideAll_get _ (u.keep b o e n hb hx) (k b o e hb)
 free:=λb o e n hx=>u.free b o e n hx
 there:=λb o e hb hx=>let ⟨o',q⟩:=u.there b o e hx;⟨o',W.hideAll_get _ q (k b o e hb)⟩
 tups:=u.tups
 frzs:=u.frzs
 tbls:=u.tbls
def Ci.pre {fs fs' ex ex':List Addr}{H H1 H2:Hp}{h h1 B:Heap}(a:Un fs ex H H1 h h1)(b:Ci fs' ex' H1 H2 h1 B)(k:∀b o,h.get? b=some o->b∉fs->b∉fs')(kx:∀b o,h.get? b=some o->b∉ex->b∉ex'):Ci fs ex H H2 h B where
 keep:=λc o e n hc hx=>b.keep c o (a.keep c o e n hc hx) (a.free c o e n hx) (k c o e hc) (kx c o e hx)
 free:=λc o e n hx=>let ⟨o',q⟩:=a.there c o e hx;b.free c o' q (a.free c o e n hx) (kx c o e hx)
 there:=λc o e hc hx=>let ⟨o',q⟩:=a.there c o e hx;b.there c o' q (k c o e hc) (kx c o e hx)
 tups:=λc xs q=>b.tups c xs (a.tups c xs q)
 frzs:=λc o u q=>b.frzs c o u (a.frzs c o u q)
 tbls:=λc ps q=>by
  obtain⟨m1,e1⟩:=a.tbls c ps q
  obtain⟨m2,e2⟩:=b.tbls c _ e1
  exact⟨m1++m2,by rw[e2,Array.append_assoc]⟩
def Ci.hid {fs ex:List Addr}{H H':Hp}{h B:Heap}{C:Addr}(b:Ci fs ex H H' h B)(n:h.objs.size<=C):Ci fs ex H H' h (W.hideAll B [C]) where
 keep:=λc o e q hc hx=>W.hideAll_get _ (b.keep c o e q hc hx) λm=>by rw[XQ.mp m] at e;exact absurd (XD e) (Nat.not_lt.mpr n)
 free:=b.free
 there:=λc o e hc hx=>let ⟨o',q⟩:=b.there c o e hc hx;⟨o',W.hideAll_get _ q λm=>by rw[XQ.mp m] at e;exact absurd (XD e) (Nat.not_lt.mpr n)⟩
 tups:=b.tups
 frzs:=b.frzs
 tbls:=b.tbls
def Vl.hide {P:Program}{w:World}{H:Hp}{h:Heap}{as:List Addr}(x:Vl P w H h)(n:∀b∈as,H b=none):Vl P w H (W.hideAll h as):=λa o e=>
 (x a o e).stay (λb u hb q=>W.hideAll_get _ q λm=>by
  have:=n b m
  rcases hb with rfl | hb
  ·rw[e] at this;cases this
  ·rw[hb] at this;cases this) (λ_ q=>q) λ_ _ q=>q
section
variable {P:Program}{w:World}{K:W.Frag}{mg:Str->Option Value}{base:Heap}{N:List Str}{qual:Str}{scope:Scope}{f:Addr}{cdv:Value}{A:Around}{outer:List Env}{s0:Shared}{H0:Hp}{E:XK}
def uw {l:List Env}{env:Env}{a:Addr}(h:env∈l)(e:env.frame=some a):a∈Rv l:=List.mem_filterMap.mpr ⟨env,h,e⟩
def Po {pins:List (Addr×Obj)}{σ:St}{H:Hp}{s:Shared}(I:Zm (Yx (X8 P w) P w K mg base N qual scope f cdv A outer s0 H0 E) pins σ H s):∀b o,s0.heap.get? b=some o->b∉Rv outer->b∉Rv (Yx (X8 P w) P w K mg base N qual scope f cdv A outer s0 H0 E).stack:=λb o e hb m=>by
 rcases List.mem_cons.mp (I.stkSub b m) with z | z
 ·exact absurd (XD e) (by rw[z];exact Nat.not_lt.mpr I.ok.above)
 ·exact hb z
def Yi:Vi (X8 P w) (Yx (X8 P w) P w K mg base N qual scope f cdv A outer s0 H0 E) E:=by
 rintro pins σ H s e s' I ⟨ea,cls,a0,H',B,rfl,hE,hos,hb,u,hf,hok,-,fl⟩
 refine wpAny_leaves_onW (M:=model P w) (e:=ea) (cls:=cls) (a0:=a0) (base:=B) (L:=s0.heap.objs.size) I.ok.frames rfl fl λh' fl' up=>?_
 refine⟨ea,cls,a0,H',B,rfl,hE,hos.trans I.os,hb,Ci.pre I.base u (Po I) (λ_ _ _ z=>z),λb hb' o e _=>?_,hok,trivial,fl'⟩
 obtain⟨sl,q⟩:=I.base.slot b o e (I.ok.frf b hb') hb' (by intro z;cases z)
 obtain⟨sl',q'⟩:=hf b (by unfold Rv;exact List.mem_filterMap.mpr (let ⟨x,hx,hy⟩:=List.mem_filterMap.mp hb';⟨x,XV _ hx,hy⟩)) _ q (by intro z;cases z)
 obtain⟨_,o2,ho2,nf⟩:=I.ok.funs.mem hb'
 have:o2=o:=by
  have e2:s0.heap.get? b=some o2:=ho2
  rw[e] at e2;exact(YH e2).symm
 subst this
 obtain⟨sl2,q2⟩:=up b _ q' nf
 exact⟨sl2,q2⟩
def vZ {pins:List (Addr×Obj)}{σ:St}{H:Hp}{s:Shared}{h':Heap}{e C:Addr}{vs:List Value}(I:Zm (Yx (X8 P w) P w K mg base N qual scope f cdv A outer s0 H0 E) pins σ H s)(hx:Heap.MadeExcOf s.heap h' e (.ref C) vs)(hE:E (.ref C) none H):
  (Yx (X8 P w) P w K mg base N qual scope f cdv A outer s0 H0 E).xe (.ref e) {s with heap:=h'}:=by
 refine wpAny_leaves_madeW (M:=model P w) (s:={s with heap:=h'}) (base:=W.hideAll s.heap (Rv (envOfC qual scope s0.heap.objs.size f cdv::outer))) (h:=s.heap) (e:=e) (cls:=.ref C) (args:=vs) (L:=s0.heap.objs.size) I.ok.frames rfl
  (λb o q=>W.of_hideAll _ q) (W.funFrames_hide I.stack λenv he a ha=>uw he ha) hx λh2 t fl _ _ up=>?_
 refine⟨e,.ref C,.ref t,H,_,rfl,hE,I.os,I.bare,Ci.hide I.base (Po I),λb hb' o q0 _=>?_,I.hok.hide I.stkFree,trivial,fl⟩
 obtain⟨sl,q⟩:=I.base.slot b o q0 (I.ok.frf b hb') hb' (by intro z;cases z)
 obtain⟨_,o2,ho2,nf⟩:=I.ok.funs.mem hb'
 have:o2=o:=by
  have e2:s0.heap.get? b=some o2:=ho2
  rw[q0] at e2;exact(YH e2).symm
 subst this
 obtain⟨sl2,q2⟩:=up b _ (hx.keeps _ _ q) nf
 exact⟨sl2,q2⟩
end
structure qs (K:W.Frag)(mg:Str->Option Value)(x:Str)(C:Addr):Prop where
 at_:mg x=some (.ref C)
 exc:∃Bn newId inN bmN,ExcBaseFacts Bn newId inN bmN/\[Value.type "ValueError",.type "Exception",.type "BaseException",.type "object"].contains (.type Bn)=true/\W.excIn K C [.type "ValueError",.type "Exception",.type "BaseException",.type "object"] newId=true
def vK {K:W.Frag}{h:Heap}{mg:Str->Option Value}{x:Str}{C:Addr}{bmB:List Value}{newId:String}(X:K.In h)(e:mg x=some (.ref C))(q:W.excIn K C bmB newId=true):OwnCls x C bmB newId mg h:=by
 refine⟨e,?_⟩
 unfold W.excIn at q
 split at q
 ·rename_i dd cd sl ho
  split at q
  ·rename_i C' bm k0 k1 k2 k3 n k5 hm hs
   simp only[Bool.and_eq_true,beq_iff_eq,Bool.not_eq_true'] at q
   obtain⟨⟨⟨⟨⟨rfl,rfl⟩,hdel⟩,ht⟩,hok⟩,hni⟩:=q
   obtain⟨nm,bs,mro,ns,qn,hd,sn,sub,ab,col,del⟩:=cd
   dsimp only at hm hdel hok hni
   subst hm hdel
   have hsl:sl=#[k0,k1,k2,k3,some (.builtin n),k5]:=by
    obtain⟨l⟩:=sl
    simp only at hs
    rw[hs]
   subst hsl
   exact⟨bm,ns,nm,qn,bs,hd,sn,sub,ab,col,dd,k0,k1,k2,k3,k5,_,X _ _ ho,.of_isNs (W.isNs_of_in X hok),W.nsMap_none_of_in X hok hni,W.tail_of_in X ht⟩
  ·cases q
 ·cases q
def wM (C:Addr)(E:XK)(ta:TA):TS:=λ_ σ H=>ta σ H λvs H1=>vs.length<=sizeLine/\E (.ref C) none H1
def yK (X:Cx)(E:XK):Prop:=∀(pins:List (Addr×Obj)) (σ:St) (H:Hp) (s:Shared) (h':Heap) (e C:Addr) (vs:List Value),Zm X pins σ H s->Heap.MadeExcOf s.heap h' e (.ref C) vs->E (.ref C) none H->X.xe (.ref e) {s with heap:=h'}
def zv {X:Cx}{E:XK}{x:Str}{C:Addr}{np cpos pos:Pos}{e:Expr}{es:List Expr}{ta:TA}(hf:yK X E)(hc:X.calm=true)(O:qs X.K X.mg x C)(hg:Gl X x)(ha:PA X (e::es) ta)(hdb:(x==("__debug__":Str))=false:=by decide)
  (he:starEach (e::es) X.env=(false,eval e X.env)::starEach es X.env:=by rfl) (hpl:(backTo cpos (starEach es X.env)).any (·.1)=false:=by rfl):PS X (.Raise (some (.Call (.Name x np) (e::es) [] cpos)) none pos) (wM C E ta):=by
 intro pins s σ H D I h
 obtain⟨Bn,newId,inN,bmN,Fn,hBn,q⟩:=O.exc
 obtain⟨tl,N,nm,qn,bs,hdct,sn,sub,ab,col,dd,k0,k1,k2,k3,k5,mN,hC,hN,hni,T⟩:=(vK I.ok.mod.kin O.at_ q).obj
 refine wpAny_Raise_call_subU (C:=C) (nm:=nm) (q:=qn) (N:=N) (bs:=bs) (bm:=tl) (hdct:=hdct) (sn:=sn) (sub:=sub) (ab:=ab) (col:=col) (dd:=dd) (k0:=k0) (k1:=k1) (k2:=k2) (k3:=k3) (k5:=k5) (bmB:=[Value.type "ValueError",.type "Exception",.type "BaseException",.type "object"])
  Fn hBn PySem.F.excBase_ValueError (mN:=mN) (T.hasType PySem.F.excBase_ValueError.hasBase) (I.ok.hd hc) (by rw[he];show(false||(backTo cpos (starEach es X.env)).any (·.1))=false;rw[hpl];rfl) hni (Xx I hg O.at_ ⟨rfl,?_⟩ hdb)
 have h2:=ha cpos pins s σ H _ I h
 rw[he] at h2 |-
 refine Calls.evalArgs_plain (wpAny_mono h2 (λus s2 z=>?_) λ_ _ y=>y)
 obtain⟨vs,H2,I2,r,hl,hE⟩:=z
 refine⟨rfl,by rw[<-r.length];exact hl,I2.bk _ _ hC,hN.keeps I2.bk,T.keeps I2.bk,λh' e hm=>hf pins σ H2 s2 h' e C us I2 hm hE⟩
def Jd {P:Program}{w:World}{K:W.Frag}{mg:Str->Option Value}{base:Heap}{N:List Str}{qual:Str}{scope:Scope}{f:Addr}{cdv:Value}{A:Around}{outer:List Env}{s0:Shared}{H0:Hp}{E:XK}:yK (Yx (X8 P w) P w K mg base N qual scope f cdv A outer s0 H0 E) E:=
 λ_ _ _ _ _ _ _ _ I hx hE=>vZ I hx hE
section
variable {M:Model}{A:Around}{E:Value->Shared->Prop}{s:Shared}
def F0 {base:Heap}{env:Env}{outer:List Env}{L e:Addr}{cls a0 fl:Value}{Q:Unit->Shared->Prop}(hfr:A.frames=some (env::outer))(hf:env.frame=some L)
  (f1:base.StaysIn s.heap) (f2:base.get? e=none) (f3:s.heap.FunFrames base (env::outer)) (f4:s.heap.TracedAtW base e cls a0 fl)
  (hQ:∀h',Heap.FlyingW base outer e cls a0 h'->s.heap.UpToSlots h'->Q () {s with heap:=h'}):wpAny M A (leaving env (.ref e)) Q E s:=by
 by_cases hfl:fl=rawInt L
 ·subst hfl
  unfold leaving
  refine XA (wpAny_noteFrame_againW hf f4 ?_)
  refine wpAny_landsW ⟨f1,f2,f3,f4⟩ λh' hfl up=>?_
  obtain⟨k1,k2,⟨_,_,k3⟩,k4⟩:=hfl
  exact hQ h' ⟨k1,k2,k3,k4⟩ up
 ·obtain⟨oe,vs,T,oT,ts,he,⟨hcls,h0⟩,hd,h1,hnT,hTe,hT,hdT,h3⟩:=f4
  subst hcls
  unfold leaving noteFrame
  simp only[hf]
  refine XA (XA (wpAny_field he hd h1 ?_))
  rw[if_pos (show(Value.ref T !=Value.none)=true from by simp)]
  refine XA (wpAny_field hT hdT h3 ?_)
  rw[if_neg (show ¬((fl==rawInt L)=true) from λz=>hfl (by simpa using z))]
  refine XA (wpAny_setField hT hdT (Array.getElem?_eq_some_iff.mp h3).1 ?_)
  have other:∀b,b≠T->(s.heap.update T (Obj.mapFields (·.setIfInBounds 3 Value.none))).get? b=s.heap.get? b:=λb hb=>Heap.get?_update_other _ _ (Ne.symm hb)
  have noRecord:∀b o,s.heap.get? b=some o->(∀vs,o.data≠.fields vs)->b≠T:=λb o hb hnf q=>by
   rw[q,hT] at hb;injection hb with hb;subst hb;exact hnf ts hdT
  refine wpAny_newEntryW hfr (f3.of_keeps λb o hb hnf=>⟨o,(other b (noRecord b o hb hnf)).trans hb,rfl⟩) hf ((other e (Ne.symm hTe)).trans he)
   (λb o hbo=>(other b λq=>by rw[q,hnT] at hbo;cases hbo).trans (f1 b o hbo)) f2 hd (Array.getElem?_eq_some_iff.mp h1).1 h0
   λh' ⟨x1,⟨_,_,x2⟩,x3,x4⟩=>hQ h' ⟨x1,f2,x2,x3⟩ λb o hb hnf=>x4 b o ((other b (noRecord b o hb hnf)).trans hb) hnf
def Fw {α:Type}{base:Heap}{l:List Env}{what:String}{env:Env}{e:Addr}{cls a0 fl:Value}{Q:α->Shared->Prop}
  (f1:base.StaysIn s.heap) (f3:s.heap.FunFrames base l) (f4:s.heap.TracedAtW base e cls a0 fl)
  (h:∀h' fl',base.StaysIn h'->h'.FunFrames base l->h'.TracedAtW base e cls a0 fl'->s.heap.UpToSlots h'->E (.ref e) {s with heap:=h'}):wpAny M A (PySem.passOn what (.ref e) env:Sem α) Q E s:=by
 obtain⟨oe,vs,T,oT,ts,he,hcls,hd,h1,hnT,hTe,hT,hdT,h3⟩:=f4
 have hsz3:3<ts.size:=(Array.getElem?_eq_some_iff.mp h3).1
 unfold PySem.passOn
 refine XA (wpAny_field he hd h1 ?_)
 rw[if_neg (show ¬((Value.ref T==Value.none)=true) from by simp)]
 have key:∀v:Value,wpAny M A (setField (.ref T) 3 v) (λ_ s''=>E (.ref e) s'') E s:=λv=>by
  have other:∀b,b≠T->(s.heap.update T (Obj.mapFields (·.setIfInBounds 3 v))).get? b=s.heap.get? b:=λb hb=>Heap.get?_update_other _ _ (Ne.symm hb)
  have noRecord:∀b o,s.heap.get? b=some o->(∀vs,o.data≠.fields vs)->b≠T:=λb o hb hnf q=>by
   rw[q,hT] at hb;injection hb with hb;subst hb;exact hnf ts hdT
  refine wpAny_setField hT hdT hsz3 (h _ v (λb o hbo=>(other b λq=>by rw[q,hnT] at hbo;cases hbo).trans (f1 b o hbo))
   (f3.of_keeps λb o hb hnf=>⟨o,(other b (noRecord b o hb hnf)).trans hb,rfl⟩) ?_ λb o hb hnf=>⟨o.slots,(other b (noRecord b o hb hnf)).trans hb⟩)
  exact⟨oe,vs,T,_,_,(other e (Ne.symm hTe)).trans he,hcls,hd,h1,hnT,hTe,Heap.get?_update_self _ hT (Obj.isFreed_of_fields (Obj.data_mapFields hdT _)),Obj.data_mapFields hdT _,by simp[hsz3]⟩
 have st:wpAny M A (do setFlight (.ref e) env.frame;throw (.ref e):Sem α) Q E s:=by
  unfold setFlight
  refine XA (XA (wpAny_field he hd h1 ?_))
  rw[if_pos (show(Value.ref T !=Value.none)=true from by simp)]
  refine wpAny_mono (key _) (λ_ s' z=>?_) λ_ _ z=>z
  exact wpAny_throw z
 first
  | exact XA (XB st)
  | exact st
end
def Eg {tg iter elt:Expr}{ifs:List Expr}{scope:Scope}{pos:Pos}{cN:List Str}{cap:List (Option Nat)}{cl:List (Str×Addr)}{js:List Nat}{g:TG}{c:TT}{te:TE}{fp:List Addr}{it D:Addr}{tn:Nat->Heap->Prop}{J:It}
  {σ:St} {H:Hp} {s s':Shared} {Q:Addr->Hp->Prop} {R:Result->Shared->Prop} {H₀:Hp} (X:Cx) (EE:Value->Shared->Prop)
  (hc:X.calm=true) (hg:PG ((Zo X cN scope cl fp s H₀).wish EE) tg g) (gm:Vh g) (gk:Qx js g) (hjs:∀j∈js,(cap[j]?).join=none) (ht:G3 ((Zo X cN scope cl fp s H₀).wish EE) ifs c) (tm:∀σ H (Q Q':Bool->Hp->Prop),(∀b H',Q b H'->Q' b H')->c σ H Q->c σ H Q') (he:PE ((Zo X cN scope cl fp s H₀).wish EE) elt te)
  (T:Gz X.prog X.w X.K tg J fp it tn) (W:Nat->Nat->Hp->Prop)
  (turn:∀i m H,W i m H->(J.stop i H/\Q D H)\/(J.go i H/\∃N:Hp->Prop,(∀H',N H'->∃m',m'<m/\W (i+1) m' H')/\∀x H',J.yld i H x H'->g x (V9 cap σ) H' λσ2 H2=>c σ2 H2 λb H3=>
   if b=true then te σ2 H3 λv H4=>∃xs,H4 D=some (.lst xs)/\xs.length<sizeLine/\N (Je H4 D (.lst (xs++[v]))) else N H3))
  (m:Nat) (w0:W 0 m H) (I:Zm ((Zo X cN scope cl fp s H₀).wish EE) [] (V9 cap σ) H s') (st:tn 0 s'.heap) (f:∀b∈fp,Vj ((Zo X cN scope cl fp s H₀).wish EE) [] H b)
  (hR:∀σ' H' s',Zm ((Zo X cN scope cl fp s H₀).wish EE) [] σ' H' s'->Q D H'->R (.ok .next) s')
  (hRE:∀e s',EE e s'->notedBy (model X.prog X.w) X.A (Zo X cN scope cl fp s H₀).env (λx s''=>R (.error x) s'') e s'):
  codeAny (model X.prog X.w) X.A (.compLoop (.ListComp elt [⟨tg,iter,ifs,0⟩] scope pos) 0 (.ref it) (.ref D) ((Zo X cN scope cl fp s H₀).wish EE).env) R s':=by
 have stat:∀{H':Hp},(∀b∈fp,H' b=none)->∀b∈fp,Vj ((Zo X cN scope cl fp s H₀).wish EE) [] H' b:=λhn b hb=>⟨hn b hb,(f b hb).2⟩
 refine codeAny_loop rfl (λn s'=>∃i H',Zm ((Zo X cN scope cl fp s H₀).wish EE) [] (V9 cap σ) H' s'/\tn i s'.heap/\(∀b∈fp,H' b=none)/\W i n H') ?_ m ⟨0,H,I,st,λb hb=>(f b hb).1,w0⟩
 rintro n s3 ⟨i,H3,I3,st3,fr3,w3⟩
 show wpAny _ X.A ((compTurn (.ListComp elt [⟨tg,iter,ifs,0⟩] scope pos) 0 (.ref it) (.ref D) ((Zo X cN scope cl fp s H₀).wish EE).env).onRaise (λx=>do noteFrame x ((Zo X cN scope cl fp s H₀).wish EE).env;theTreesLotGoes x)) _ _ s3
 refine wpAny_noted (wpAny_mono ?_ (λ_ _ q=>q) hRE)
 rw[compTurn_list]
 refine XA (wpAny_standAt (XA ?_))
 rcases turn i n H3 w3 with⟨stop,qn⟩ | ⟨go,N,hN,step⟩
 ·refine Ji (T.done ((Zo X cN scope cl fp s H₀).wish EE) rfl rfl rfl hc i [] s3 _ H3 _ I3 (stat fr3) st3 stop) λr s4 ⟨hr,I4⟩=>?_
  subst hr
  exact XB (hR _ _ _ I4 qn)
 ·refine Ji (T.item ((Zo X cN scope cl fp s H₀).wish EE) rfl rfl rfl hc i [] s3 _ H3 _ I3 (stat fr3) st3 go) λr s4 ⟨u,hr,h4⟩=>?_
  subst hr
  refine XA (Ji h4 λ_ s5 ⟨x,H5,I5,r5,y5,st5,fr5⟩=>?_)
  have I5':=I5.pinned (stat fr5) (T.obj _ _ st5)
  refine XA (Ji (hg _ s5 _ H5 x u _ I5' r5 (gk _ _ _ _ (step x H5 y5))) λ_ s6 ⟨σ6,H6,I6,q6,l6,k6⟩=>?_)
  have back:∀{H7:Hp} {s7:Shared},Zm ((Zo X cN scope cl fp s H₀).wish EE) ([]++Pm fp s5.heap) σ6 H7 s7->N H7->∃m,m<n/\∃i H',Zm ((Zo X cN scope cl fp s H₀).wish EE) [] (V9 cap σ) H' s7/\tn i s7.heap/\(∀b∈fp,H' b=none)/\W i m H':=λ{H7 s7} I7 n7=>by
   obtain⟨m',hm,w7⟩:=hN H7 n7
   refine⟨m',hm,i+1,H7,I7.unpinned.weak l6.symm λj v hj=>?_,T.keep _ _ _ st5 λb hb o e=>(I7.pin (b,o) (XT _ (XT _ (Xt hb e)))).1,λb hb=>?_,w7⟩
   ·by_cases hjj:j∈js
    ·obtain⟨z,hz,_⟩:=Md hj
     have:=hjs j hjj
     rw[hz] at this;cases this
    ·rw[k6 j hjj];exact hj
   ·obtain⟨o,e,d⟩:=T.obj _ _ st5 b hb
    exact(I7.pin (b,o) (XT _ (XT _ (Xt hb e)))).2.1
  refine XA (Ji (ht _ s6 σ6 H6 _ I6 q6) λb s7 ⟨H7,I7,q7⟩=>?_)
  cases b with
  | false=>
   rw[XX YJ] at q7
   exact XB ⟨rfl,back I7 q7⟩
  | true=>
   rw[XY rfl] at q7
   refine XA (XA (Ji (he _ s7 σ6 H7 _ I7 q7) λy s8 ⟨v,H8,I8,r8,xs,e8,z8,n8⟩=>?_))
   refine XA (Ji (Pp _ s8 σ6 H8 (.ref D) [v] (.ref D) [y] (λ_ H9=>N H9) I8 rfl (.cons r8 .nil) ⟨D,xs,v,rfl,rfl,e8,z8,n8⟩) λ_ s9 ⟨_,H9,I9,_,q9⟩=>?_)
   exact XB (XB ⟨rfl,back I9 q9⟩)
section
variable {X:Cx}{EE:List Addr->Shared->Hp->Value->Shared->Prop}{tg iter elt:Expr}{ifs:List Expr}{scope:Scope}{pos:Pos}{cN:List Str}{cap:List (Option Nat)}{cl:List (Str×Addr)}{js:List Nat}{wi:TI}{g:TG}{c:TT}{te:TE}
structure yM (X:Cx)(EE:List Addr->Shared->Hp->Value->Shared->Prop)(tg iter elt:Expr)(ifs:List Expr)(scope:Scope)(cN:List Str)(cap:List (Option Nat))(cl:List (Str×Addr))(js:List Nat)(wi:TI)(g:TG)(c:TT)(te:TE):Prop where
 calm:X.calm=true
 ok:X.Ok->Ru X cN cap scope cl
 it:PI X tg iter wi
 tgt:∀fp s H,PG ((Zo X cN scope cl fp s H).wish (EE fp s H)) tg g
 gm:Vh g
 gk:Qx js g
 js0:∀j∈js,(cap[j]?).join=none
 ts:∀fp s H,G3 ((Zo X cN scope cl fp s H).wish (EE fp s H)) ifs c
 tm:∀σ H (Q Q':Bool->Hp->Prop),(∀b H',Q b H'->Q' b H')->c σ H Q->c σ H Q'
 el:∀fp s H,PE ((Zo X cN scope cl fp s H).wish (EE fp s H)) elt te
 fold:∀x,foldedSetIterable iter X.env x=pure x
def Gu {pins:List (Addr×Obj)}{σ:St}{H:Hp}{s:Shared}{Q:Addr->Hp->Prop}{RR:Value->Addr->Result->Shared->Prop}(C:yM X EE tg iter elt ifs scope cN cap cl js wi g c te)(I:Zm X pins σ H s)(h:Nj cap wi g c te σ H Q)
  (hRR:∀(D:Addr) (fp:List Addr) (s3:Shared) (H3:Hp) (σ':St) (H':Hp) (s':Shared),Zm X pins σ H3 s3->(∀b∈fp,Vj X pins H3 b)->Zm (Zo X cN scope cl fp s3 H3) [] σ' H' s'->Q D H'->RR (.ref D) s3.heap.objs.size (.ok .next) s')
  (hRE:∀(D:Addr) (fp:List Addr) (s3:Shared) (H3:Hp) (e:Value) (s':Shared),Zm X pins σ H3 s3->(∀b∈fp,Vj X pins H3 b)->EE fp s3 H3 e s'->notedBy (model X.prog X.w) X.A (Zo X cN scope cl fp s3 H3).env (λx s''=>RR (.ref D) s3.heap.objs.size (.error x) s'') e s'):
  wpAny (model X.prog X.w) X.A (eval iter X.env) (λx s₁=>wpAny (model X.prog X.w) X.A (pyIter x) (λit s₂=>wpAny (model X.prog X.w) X.A (newList []) (λacc s₃=>
   wpAny (model X.prog X.w) X.A (newFunctionEnv scope X.env.globals cl [] X.env.qual none .none (some X.env)) (λcenv s₄=>
    codeAny (model X.prog X.w) X.A (.compStart (.ListComp elt [⟨tg,iter,ifs,0⟩] scope pos) 0 it acc {cenv with scope:=relabel scope X.env}) (RR acc cenv.locals) s₄) X.xe s₃) X.xe s₂) X.xe s₁) X.xe s:=by
 refine Ji (C.it pins s σ H _ I h) λv s1 h1=>Ji h1 λitv s2 h2=>?_
 obtain⟨it,fp,tn,J,H2,e,I2,T,st2,f2,R2⟩:=h2
 subst e
 obtain⟨W,⟨m,w0⟩,turn⟩:=R2 s2.heap.objs.size I2.fresh
 have I3:Zm X pins σ (Je H2 s2.heap.objs.size (.lst [])) {s2 with heap:=s2.heap.push {cls:=.type "list",data:=.seq ([]:List Value).toArray},toks:=s2.toks}:=I2.lnew (ys:=[]) (its:=[]) .nil (XO _)
 have fl:∀b∈fp,b<s2.heap.objs.size:=λb hb=>by
  obtain⟨o,e,_⟩:=T.obj _ _ st2 b hb
  exact XD e
 have f3:∀b∈fp,Vj X pins (Je H2 s2.heap.objs.size (.lst [])) b:=λb hb=>⟨by rw[Z6 (XH (fl b hb))];exact(f2 b hb).1,(f2 b hb).2⟩
 refine wpAny_newObj_type (wpAny_newFunctionEnv (C.ok I.ok).cell (by intro y hy;simp at hy) (λh₁ hns₁ hsb₁=>?_) (C.ok I.ok).kind)
 dsimp only at hns₁ hsb₁ |-
 generalize hs3:({s2 with heap:=s2.heap.push {cls:=.type "list",data:=.seq ([]:List Value).toArray},toks:=s2.toks}:Shared)=s3 at I3
 have hh3:s3.heap=s2.heap.push {cls:=.type "list",data:=.seq ([]:List Value).toArray}:=by rw[<-hs3]
 rw[<-hh3] at hns₁ hsb₁ |-
 have fl3:∀b∈fp,b<s3.heap.objs.size:=λb hb=>by rw[hh3,Heap.size_push];exact Nat.lt_succ_of_lt (fl b hb)
 have k1:∀b o,s3.heap.get? b=some o->h₁.get? b=some o:=λb o e=>(hsb₁.2 b (XH (XD e))).trans (XC _ e)
 have I4':=Ma (tk:=s2.toks+([]:List (Str×Value)).length) (C.ok I.ok) I3 f3 fl3 hns₁ k1
 have I4:=I4'.wish (EE fp s3 (Je H2 s2.heap.objs.size (.lst [])))
 have e4:({s3 with heap:=h₁,toks:=s2.toks+([]:List (Str×Value)).length}:Shared)={s2 with heap:=h₁,toks:=s2.toks+([]:List (Str×Value)).length}:=by rw[<-hs3]
 rw[e4] at I4
 have st4:tn 0 h₁:=T.keep _ _ _ st2 λb hb o e=>k1 b o (by rw[hh3];exact XC _ e)
 have f4:∀b∈fp,Vj ((Zo X cN scope cl fp s3 (Je H2 s2.heap.objs.size (.lst []))).wish (EE fp s3 (Je H2 s2.heap.objs.size (.lst [])))) [] (Je H2 s2.heap.objs.size (.lst [])) b:=λb hb=>by
  obtain⟨g0,g1,g2,g3,g4,g5⟩:=f3 b hb
  refine⟨g0,Nat.ne_of_lt (fl3 b hb),λz=>?_,.inl hb,λx c e=>g4 x c ((C.ok I.ok).sub x c e),λp hp=>absurd hp (by simp[Zo])⟩
  rcases List.mem_cons.mp (I3.stkSub b z) with e | z
  ·exact g1 e
  ·exact g2 z
 have loop:codeAny (model X.prog X.w) X.A (.compLoop (.ListComp elt [⟨tg,iter,ifs,0⟩] scope pos) 0 (.ref it) (.ref s2.heap.objs.size) (Zo X cN scope cl fp s3 (Je H2 s2.heap.objs.size (.lst []))).env) (RR (.ref s2.heap.objs.size) s3.heap.objs.size)
   {s2 with heap:=h₁,toks:=s2.toks+([]:List (Str×Value)).length}:=
  Eg X (EE fp s3 (Je H2 s2.heap.objs.size (.lst []))) (H₀:=Je H2 s2.heap.objs.size (.lst [])) C.calm (C.tgt _ _ _) C.gm C.gk C.js0 (C.ts _ _ _) C.tm (C.el _ _ _) T W turn m w0 I4 st4 f4 (λσ' H' s' I' q=>hRR _ fp s3 _ σ' H' s' I3 f3 I'.unwish q) λe s' z=>hRE _ fp s3 _ e s' I3 f3 z
 exact codeAny_compStart_list loop (T.self _ 0 _ _ _ st4 loop)
end
def Sn {B h h':Heap}{C:Addr}{oC:Obj}(hC:B.get? C=some oC)(sb:∀b,b≠C->h'.get? b=h.get? b):∀{l:List Env},h.FunFrames B l->h'.FunFrames (W.hideAll B [C]) l
 | [],_=>trivial
 | _::_,⟨hk,⟨L,o,hf,hn,ho,hd⟩,hr⟩=>by
  have ne:L≠C:=λz=>by rw[z,hC] at hn;cases hn
  refine⟨hk,⟨L,o,hf,?_,(sb L ne).trans ho,hd⟩,Sn hC sb hr⟩
  cases q:(W.hideAll B [C]).get? L with
  | none=>rfl
  | some o'=>have:=W.of_hideAll _ q;rw[hn] at this;cases this
def Fk {B h h':Heap}{C e:Addr}{oC:Obj}{cls a0 fl:Value}(hC:B.get? C=some oC)(hst:B.StaysIn h)(he:B.get? e=none)(sb:∀b,b≠C->h'.get? b=h.get? b)(t:h.TracedAtW B e cls a0 fl):h'.TracedAtW (W.hideAll B [C]) e cls a0 fl:=by
 obtain⟨oe,vs,T,oT,ts,a1,a2,a3,a4,a5,a6,a7,a8,a9⟩:=t
 have n1:e≠C:=λz=>by rw[z,hC] at he;cases he
 have n2:T≠C:=λz=>by rw[z,hC] at a5;cases a5
 refine⟨oe,vs,T,oT,ts,(sb e n1).trans a1,a2,a3,a4,?_,a6,(sb T n2).trans a7,a8,a9⟩
 cases q:(W.hideAll B [C]).get? T with
 | none=>rfl
 | some o'=>have:=W.of_hideAll _ q;rw[a5] at this;cases this
def uA (P:Program)(w:World)(stack:List Env)(E:XK)(fp:List Addr)(s:Shared)(H:Hp):Value->Shared->Prop:=
 nD P w fp (λH' B=>(∃m,B.Ns s.heap.objs.size m)/\H' s.heap.objs.size=none) Heap.FlyingW stack H s E
def Ku {l:List Env}{env:Env}{b:Addr}(h:b∈Rv l):b∈Rv (env::l):=by
 obtain⟨x,hx,hy⟩:=List.mem_filterMap.mp h
 exact List.mem_filterMap.mpr ⟨x,XV _ hx,hy⟩
section
variable {P:Program}{w:World}{K:W.Frag}{mg:Str->Option Value}{base:Heap}{N:List Str}{qual:Str}{scope:Scope}{f:Addr}{cdv:Value}{A:Around}{outer:List Env}{s0:Shared}{H0:Hp}{E:XK}
variable {X:Cx}{cN:List Str}{csc:Scope}{cl:List (Str×Addr)}{fp:List Addr}{s:Shared}{H:Hp}
def Yj (hP:X.prog=P)(hw:X.w=w):Vi (X8 P w) ((Zo X cN csc cl fp s H).wish (uA P w X.stack E fp s H)) E:=by
 subst hP hw
 rintro pins σ H1 s1 e s' I ⟨ea,cls,a0,H',B,rfl,hE,hos,hb,u,hf,hok,-,fl⟩
 obtain⟨m,hn,_⟩:=I.loc
 have hn1:s1.heap.Ns s.heap.objs.size m:=hn
 obtain⟨oC,es,ep,hC,r⟩:=hn1
 have nC:s.heap.objs.size∉Rv X.stack:=λz=>by
  obtain⟨_,o,ho,_⟩:=I.ok.funs.mem z
  exact absurd (XD ho) (Nat.lt_irrefl _)
 have hCB:=u.keep _ _ hC I.free nC (by intro z;cases z)
 refine⟨ea,cls,a0,H',B,rfl,hE,hos.trans I.os,hb,Ci.pre I.base u (λ_ _ _ z=>z) (λ_ _ _ _ z=>by cases z),λb hb' o e hx=>?_,hok,⟨⟨m,oC,es,ep,hCB,r⟩,u.free _ _ hC I.free (by intro z;cases z)⟩,fl⟩
 obtain⟨sl,q⟩:=I.base.slot b o e (I.ok.frf b hb') hb' hx
 obtain⟨sl',q'⟩:=hf b hb' _ q (by intro z;cases z)
 exact⟨sl',q'⟩
variable {tg iter elt:Expr}{ifs:List Expr}{pos:Pos}{cap:List (Option Nat)}{js:List Nat}{wi:TI}{g:TG}{c:TT}{te:TE}
def xr {pins:List (Addr×Obj)}{σ:St}{H3:Hp}{s3:Shared}{e:Value}{s':Shared}{Q:Value->Shared->Prop}{D:Addr}{use:Option (Value->Sem Unit)}(I:Zm (Yx (X8 P w) P w K mg base N qual scope f cdv A outer s0 H0 E) pins σ H3 s3)
  (hf:∀b∈fp,Vj (Yx (X8 P w) P w K mg base N qual scope f cdv A outer s0 H0 E) pins H3 b) (h:uA P w (Yx (X8 P w) P w K mg base N qual scope f cdv A outer s0 H0 E).stack E fp s3 H3 e s'):
  notedBy (model P w) (Yx (X8 P w) P w K mg base N qual scope f cdv A outer s0 H0 E).A (Zo (Yx (X8 P w) P w K mg base N qual scope f cdv A outer s0 H0 E) cN csc cl fp s3 H3).env
   (λx s''=>compPost (model P w) (Yx (X8 P w) P w K mg base N qual scope f cdv A outer s0 H0 E).A (Yx (X8 P w) P w K mg base N qual scope f cdv A outer s0 H0 E).xe use Q (.ref D) s3.heap.objs.size (.error x) s'') e s':=by
 obtain⟨ea,cls,a0,H',B,rfl,hE,hos,hb,u,hfr,hok,⟨⟨m,hns⟩,hfree⟩,fl⟩:=h
 obtain⟨oC,es,ep,hC,rC⟩:=id hns
 show wpAny (model P w) _ (noteFrame (.ref ea) (envOfC qual scope s0.heap.objs.size f cdv)) _ _ s'
 refine wpAny_looks_onW (M:=model P w) (base:=B) (e:=ea) (cls:=cls) (a0:=a0) (L:=s0.heap.objs.size) I.ok.frames rfl fl λh4 held up4=>?_
 obtain⟨k1,k2,k3,k4⟩:=held
 refine⟨m,⟨oC,es,ep,k1 _ _ hC,rC⟩,λh5 sb cenv _=>?_⟩
 have sb2:∀b,b≠s3.heap.objs.size->h5.get? b=h4.get? b:=sb.2
 have st5:(W.hideAll B [s3.heap.objs.size]).StaysIn h5:=λb o q=>by
  have q':=W.of_hideAll _ q
  have ne:b≠s3.heap.objs.size:=λz=>by
   rw[z] at q
   rw[W.hideAll_none [s3.heap.objs.size] (XQ.mpr rfl)] at q
   cases q
  exact(sb2 b ne).trans (k1 b o q')
 have en:(W.hideAll B [s3.heap.objs.size]).get? ea=none:=by
  cases q:(W.hideAll B [s3.heap.objs.size]).get? ea with
  | none=>rfl
  | some o'=>have:=W.of_hideAll _ q;rw[k2] at this;cases this
 refine Fw (s:={s' with heap:=h5}) (base:=W.hideAll B [s3.heap.objs.size]) st5 (Sn hC sb2 k3) (Fk hC k1 k2 sb2 k4) λh6 fl' st6 ff6 tr6 up6=>?_
 refine F0 (M:=model P w) (s:={s' with heap:=h6}) (L:=s0.heap.objs.size) I.ok.frames rfl st6 en ff6 tr6 λh7 fly7 up7=>?_
 refine⟨ea,cls,a0,H',_,rfl,hE,hos.trans I.os,hb,Ci.pre I.base (u.hid (XE _)) (Po I) (λb o q _ z=>?_),λb hb' o q0 _=>?_,hok.hide λb hb'=>by rw[XQ.mp hb'];exact hfree,trivial,fly7⟩
 ·rcases (hf b z).2.2.2.1 with z' | z'
  ·cases z'
  ·exact absurd (XD q) (Nat.not_lt.mpr z')
 ·obtain⟨sl,q⟩:=I.base.slot b o q0 (I.ok.frf b hb') hb' (by intro z;cases z)
  obtain⟨sl',q'⟩:=hfr b (Ku hb') _ q λz=>by
   rcases (hf b z).2.2.2.1 with z' | z'
   ·cases z'
   ·exact absurd (XD q0) (Nat.not_lt.mpr z')
  obtain⟨_,o2,ho2,nf⟩:=I.ok.funs.mem hb'
  have:o2=o:=by
   have e2:s0.heap.get? b=some o2:=ho2
   rw[q0] at e2;exact(YH e2).symm
  subst this
  obtain⟨sl4,q4⟩:=up4 b _ q' nf
  have q5:h5.get? b=_:=(sb2 b (XH (XG (XD q0) I.sz))).trans q4
  obtain⟨sl6,q6⟩:=up6 b _ q5 nf
  obtain⟨sl7,q7⟩:=up7 b _ q6 nf
  exact⟨sl7,q7⟩
def z6 (C:yM (Yx (X8 P w) P w K mg base N qual scope f cdv A outer s0 H0 E) (uA P w (Yx (X8 P w) P w K mg base N qual scope f cdv A outer s0 H0 E).stack E) tg iter elt ifs csc cN cap cl js wi g c te):
  PE (Yx (X8 P w) P w K mg base N qual scope f cdv A outer s0 H0 E) (.ListComp elt [⟨tg,iter,ifs,0⟩] csc pos) (xI cap wi g c te):=by
 intro pins s σ H Q I h
 rw[eval_ListComp]
 refine wpAny_comprehension_free (use:=none) rfl C.fold (C.ok I.ok).clos (C.ok I.ok).kind (C.ok I.ok).names (Gu (RR:=λacc C'=>compPost (model P w) (Yx (X8 P w) P w K mg base N qual scope f cdv A outer s0 H0 E).A (Yx (X8 P w) P w K mg base N qual scope f cdv A outer s0 H0 E).xe none (EP (Yx (X8 P w) P w K mg base N qual scope f cdv A outer s0 H0 E) pins σ Q) acc C') C I h ?_ ?_)
 ·intro D fp s3 H3 σ' H' s' I3 f3 J q
  obtain⟨m,hn,_⟩:=J.loc
  exact⟨m,hn,λh' sb=>⟨.ref D,H',Mb I3 f3 J sb,rfl,q⟩⟩
 ·intro D fp s3 H3 e s' I3 f3 z
  exact xr I3 f3 z
end
structure Oq (P:Program)(w:World)(K:W.Frag)(mg:Str->Option Value)(base:Heap)(CX:Iq)(k:Nat)(f:Addr)(fd:FuncData)(ps:List Str)(sp:Sp):Prop where
 len:∀vs H Q E,sp vs H Q E->vs.length=ps.length
 run:∀(A:Around) (outer:List Env) (s:Shared) (H:Hp) (args:Args) (us:List Value) (vs:List V) (Q:VK) (E:XK),1<=s.toks->Y2 k A->Em P w K mg base A outer s H->BindsTo s fd args (ps.zip us)->Zx vs us->sp vs H Q E->
  codeAny (model P w) A (.call (.ref f) args) (CR CX outer P w H s Q E) s
section
variable {X:Cx}{CX:Iq}{E:XK}{k:Nat}{f:Addr}{fd:FuncData}{ps:List Str}{sp:Sp}{x:Str}{p pos:Pos}{e:Expr}{es:List Expr}{t:TA}
def ju {pins:List (Addr×Obj)}{σ:St}{H:Hp}{s:Shared}{Q:VK}{us:List Value}{vs:List V}(F:Oq X.prog X.w X.K X.mg X.base CX k f fd ps sp)(hr:Y2 k X.A)(hb:Xm X.K fd ps [])(h1:1<=s.toks)(hx:Vi CX X E)
  (I:Zm X pins σ H s) (r:Zx vs us) (h:sp (vs++[]) H Q E):wpAny (model X.prog X.w) X.A (call (.ref f) us) (EP X pins σ Q) X.xe s:=by
 have r2:Zx (vs++[]) (us++[]):=r.append .nil
 have hl:(us++[]).length=ps.length:=by rw[<-r2.length];exact F.len _ _ _ _ h
 refine wpAny_call (codeAny_mono (F.run X.A X.stack s H ⟨us,[]⟩ (us++[]) (vs++[]) Q E h1 hr I.env0 (hb s us I.kIn hl) r2 h) λr s' hq=>?_)
 cases r with
 | error e=>exact hx pins σ H s e s' I hq
 | ok fl=>
  cases fl with
  | ret u=>exact I.after hq
  | next=>exact False.elim hq
  | brk=>exact False.elim hq
  | cont=>exact False.elim hq
structure At (P:Program)(w:World)(K:W.Frag)(mg:Str->Option Value)(base:Heap)(CX:Iq)(k:Nat)(x:Str)(ps:List Str)(sp:Sp):Prop where
 ex:∃(f:Addr) (fd:FuncData),Oq P w K mg base CX k f fd ps sp/\Xm K fd ps []/\W.keepIn K (.ref f)=true/\mg x=some (.ref f)
def jC (C:At X.prog X.w X.K X.mg X.base CX k x ps sp)(hr:Y2 k X.A)(hx:Vi CX X E)(hg:Gl X x)(ha:tM X (e::es) t)
  (hdb:(x==("__debug__":Str))=false:=by decide) (he:starEach (e::es) X.env=(false,eval e X.env)::starEach es X.env:=by rfl) (hpl:(backTo pos (starEach es X.env)).any (·.1)=false:=by rfl):
  x9 X (.Call (.Name x p) (e::es) [] pos) (Iy sp [] E t):=by
 obtain⟨f,fd,F,B,kp,m⟩:=C.ex
 intro pins s σ H Q h1 I h
 refine wpAny_Call_Name_kw (Xx I hg m ?_ hdb)
 refine W.callWith_K (h₀:=X.base) I.ok.mod.kin kp (Ji (Kf h1 (ha pos pins s σ H _ h1 I h)) λus s1 ⟨k1,vs,H1,I1,r,q⟩=>⟨I1.kIn,?_⟩) he hpl
 exact ju F hr B k1 hx I1 r q
end
def u4 {P:Program}{w:World}{K:W.Frag}{mg:Str->Option Value}{base:Heap}{CX:Iq}{k:Nat}{f:Addr}{name qual:Str}{params:Arguments}{body:List Stmt}{scope:Scope}{dV kV doc pm cdv ct oc:Value}{an od:Option Addr}
  {osl:Array (Option Value)} {N ps:List Str} {sp:Sp} (lk:K.lookup f=some ⟨oc,od,.func (W.fnOf name qual params body scope dV kV doc pm an cdv ct),osl⟩) (hcd:W.codeIn K cdv qual=true) (S:Zp N ps scope)
  (len:∀vs H Q E,sp vs H Q E->vs.length=ps.length)
  (hbody:∀(A:Around) (outer:List Env) (s:Shared) (H:Hp) (vs:List V) (Q:VK) (E:XK),Y2 k (A.deeper (envOfC qual scope s.heap.objs.size f cdv))->sp vs H Q E->
   ∃t,Qw (Yx CX P w K mg base N qual scope f cdv A outer s H E) body t/\t {nx:=λ_ H'=>Q .non H',rt:=Q} (start N vs) H):
  Oq P w K mg base CX (k+1) f (W.fnOf name qual params body scope dV kV doc pm an cdv ct) ps sp:=by
 refine⟨len,λA outer s H args us vs Q E h1 hr e0 hb r hsp=>?_⟩
 have hl:=len _ _ _ _ hsp
 have KX:K.In s.heap:=e0.mod.kin.keeps λb o e=>(e0.bs b o e).1
 have lim:s.heap.NoLimit:=e0.mod.nolimit.keeps λb o e=>(e0.bs b o e).1
 have hkind:∀y∈ps.zip us,scope.names.lookup y.1=some .local\/(scope.names.lookup y.1=some .cell/\((cellsFrom (s.heap.objs.size+1) scope.names []).lookup y.1).isSome=true):=λ⟨n,v⟩ hy=>by
  rcases S.par n (List.of_mem_zip hy).1 with q | q
  ·exact .inl q
  ·exact .inr ⟨q,W.cellsFrom_some _ _ _ (.inl q)⟩
 refine codeAny_call_function hr.depth (KX _ _ lk) rfl S.co S.gen rfl (W.codeRec_of KX hcd) (hb _ _ _ _ ?_)
 refine wK h1 (wpAny_newFunctionEnv_cells S.kind hkind λenv he s1 x k1=>?_)
 subst he
 refine⟨lim.keeps x.toInCall.keep,codeAny_func ?_⟩
 obtain⟨t,ht,hq⟩:=hbody A outer s H vs Q E (hr.deeper _) hsp
 have I:Zm (Yx CX P w K mg base N qual scope f cdv A outer s H E) [] (start N vs) H s1:=Ps S hr.hd e0 hl r x
 refine wpAny_mono (ht [] s1 (start N vs) H _ k1 I hq) (λfl s' hs=>?_) λe s' hs=>hs
 have fin:∀{σ':St} {H':Hp} {v:V} {u:Value},Zm (Yx CX P w K mg base N qual scope f cdv A outer s H E) [] σ' H' s'->Z3 v u->Q v H'->CE outer P w H s Q u s':=
  λ{σ' H' v u} J rv q=>⟨v,H',J.os,J.bare,J.base,J.hok,rv,q⟩
 cases fl with
 | ret u=>
  obtain⟨v,σ',H',J,rv,q⟩:=hs
  exact fin J rv q
 | next=>
  obtain⟨σ',H',J,q⟩:=hs
  exact fin (v:=V.non) (u:=Value.none) J rfl q
 | brk=>
  obtain⟨_,_,_,q⟩:=hs
  exact False.elim q
 | cont=>
  obtain⟨_,_,_,q⟩:=hs
  exact False.elim q
end L2
namespace WL
open PySem PySem.Spec PyProof.Rows L2
def Er (rs:List (Addr×Prop)):XK:=λcls _ _=>∃p∈rs,cls=.ref p.1/\p.2
def sB (K:W.Frag)(pr:List Df)(E1:XK)(n i:Nat):Sp:=λvs H Q E=>E=E1/\spW K pr n i vs H Q E
structure Mn (P:Program)(w:World)(K:W.Frag)(mg:Str->Option Value)(base:Heap)(k:Nat)(x:Str)(ps:List Str)(sp:Sp):Prop where
 ex:∃(f:Addr) (fd:FuncData),Wi P w K mg base (X8 P w) k f fd ps sp/\Xm K fd ps []/\W.keepIn K (.ref f)=true/\mg x=some (.ref f)
section
variable {X:Cx}{k i:Nat}{x:Str}{ps:List Str}{pr:List Df}{p pos:Pos}{e:Expr}{es:List Expr}{wA:WA}{E1:XK}
def Pk (P:Calls)(iR:Nat)(wa:WA):WS:=λD τ C=>wa τ C (λvs C'=>vs.length<=1000/\P iR [] C' D.rt D.xc) D.xc
def Ay {r:Prop}{C:Hw}{Q:WK}{χ:WX}(hR:pr[i]?=some ⟨0,0,λ_ _ _ _=>r⟩):∀{k:Nat},Xo pr k i [] C Q χ->r
 | 0,h=>h.elim
 | k+1,h=>by
  obtain⟨d,e,_,h⟩:=h
  rw[hR] at e;cases e
  exact h
end
section
variable {P:Program}{w:World}{K:W.Frag}{mg:Str->Option Value}{base:Heap}{x qual:Str}{st:Stmt}{f:Addr}{fd:FuncData}{N ps:List Str}{pr:List Df}{n i:Nat}{d:Df}{E1:XK}
def J7 {sp:Sp}(L:Ld K mg x st ps)(G:∀{f fd},P9 K x x st f fd->Wi P w K mg base (X8 P w) n f fd ps sp):Mn P w K mg base n x ps sp:=by
 obtain⟨f,fd,F,B,M⟩:=L
 exact⟨f,fd,G F,B,F.kp,M⟩
def rG {sp:Sp}(L:Ld K mg x st ps)(G:∀{f fd},P9 K x x st f fd->Oq P w K mg base (X8 P w) n f fd ps sp):At P w K mg base (X8 P w) n x ps sp:=by
 obtain⟨f,fd,F,B,M⟩:=L
 exact⟨f,fd,G F,B,F.kp,M⟩
end
structure tD (X:Cx)(E1:XK)(tg iter elt:Expr)(ifs:List Expr)(scope:Scope)(cN:List Str)(cap:List (Option Nat))(cl:List (Str×Addr))(js:List Nat)(i:WI)(g:TG)(wg:WG)(wc:WT)(we:WE):Prop where
 calm:X.calm=true
 ok:X.Ok->Ru X cN cap scope cl
 it:tI X tg iter i
 tgt:∀fp s H,PG ((Zo X cN scope cl fp s H).wish (uA X.prog X.w X.stack E1 fp s H)) tg g
 gm:Vh g
 gk:Qx js g
 sg:G1 X.K g wg
 js0:∀j∈js,(cap[j]?).join=none
 ts:∀fp s H,Ai ((Zo X cN scope cl fp s H).wish (uA X.prog X.w X.stack E1 fp s H)) ifs wc
 el:∀fp s H,Jw ((Zo X cN scope cl fp s H).wish (uA X.prog X.w X.stack E1 fp s H)) elt we
 fold:∀x,foldedSetIterable iter X.env x=pure x
section
variable {P:Program}{w:World}{K:W.Frag}{mg:Str->Option Value}{base:Heap}{N:List Str}{qual:Str}{scope:Scope}{f:Addr}{cdv:Value}{A:Around}{outer:List Env}{s0:Shared}{H0:Hp}{E1:XK}
variable {tg iter elt:Expr}{ifs:List Expr}{csc:Scope}{pos:Pos}{cN:List Str}{cap:List (Option Nat)}{cl:List (Str×Addr)}{js:List Nat}{i:WI}{g:TG}{wg:WG}{wc:WT}{we:WE}
def O6 (D:tD (Yx (X8 P w) P w K mg base N qual scope f cdv A outer s0 H0 E1) E1 tg iter elt ifs csc cN cap cl js i g wg wc we):
  Jw (Yx (X8 P w) P w K mg base N qual scope f cdv A outer s0 H0 E1) (.ListComp elt [⟨tg,iter,ifs,0⟩] csc pos) (Qp cap i wg wc we):=by
 obtain⟨wi,p,s⟩:=D.it
 have P':yM (Yx (X8 P w) P w K mg base N qual scope f cdv A outer s0 H0 E1) (uA P w (Yx (X8 P w) P w K mg base N qual scope f cdv A outer s0 H0 E1).stack E1) tg iter elt ifs csc cN cap cl js wi g (Fj K wc) (si K we):=
  ⟨D.calm,D.ok,p,D.tgt,D.gm,D.gk,D.js0,λfp s H=>(D.ts fp s H).pif,Ph,λfp s H=>(D.el fp s H).pe,D.fold⟩
 exact⟨_,z6 P',λF H C σ τ Q Q' χ R S h q=>Nl s D.sg R S h λp H' C' R' t' h'=>q _ _ H' C' R' t' Xw h'⟩
end
end WL
namespace L2
open PySem PySem.Spec PyProof.Rows
def wx:HO->Prop
 | .lst _=>True
 | .tup _=>True
 | .dK _=>True
 | _=>False
open Classical in
noncomputable def frzO (h:Heap) (b:Addr) (u:HO):Option HO:=
 match u with
 | .frz o v=>if wx v then some (.frz o v) else none
 | u=>if wx u then(h.get? b).map λo=>.frz o u else none
noncomputable def freeze (H:Hp) (h:Heap):Hp:=λb=>(H b).bind (frzO h b)
def Px {H:Hp}{h:Heap}{b:Addr}{z:HO}(e:freeze H h b=some z):∃o v,z=.frz o v/\wx v/\((H b=some v/\h.get? b=some o)\/H b=some (.frz o v)):=by
 unfold freeze at e
 cases q:H b with
 | none=>rw[q] at e;cases e
 | some u=>
  rw[q] at e
  simp only[Option.bind_some] at e
  unfold frzO at e
  split at e
  ·rename_i o v
   split at e
   ·rename_i hv
    cases e
    exact⟨o,v,rfl,hv,.inr rfl⟩
   ·cases e
  ·rename_i hne
   split at e
   ·rename_i hu
    cases ho:h.get? b with
    | none=>rw[ho] at e;cases e
    | some o=>rw[ho] at e;cases e;exact⟨o,u,rfl,hu,.inl ⟨rfl,rfl⟩⟩
   ·cases e
def Pw {H:Hp}{h:Heap}{b:Addr}{u:HO}{o:Obj}(e:H b=some u)(hu:wx u)(ho:h.get? b=some o):freeze H h b=some (.frz o u):=by
 unfold freeze
 rw[e]
 simp only[Option.bind_some]
 unfold frzO
 split
 ·rename_i o' v;exact hu.elim
 ·rw[XY hu,ho];rfl
open Classical in
def Ec {H:Hp}{h:Heap}{b:Addr}{u:HO}{o:Obj}(e:H b=some (.frz o u))(hu:wx u):freeze H h b=some (.frz o u):=by
 unfold freeze
 rw[e]
 simp only[Option.bind_some]
 unfold frzO
 show(if wx u then some (HO.frz o u) else none)=_
 rw[XY hu]
def Dw {P:Program}{w:World}{H H':Hp}{h h':Heap}{b:Addr}{u:HO}(hu:wx u)(x:Yt P w H h b u)(e:∀o,h.get? b=some o->h'.get? b=some o):Yt P w H' h' b u:=by
 cases u with
 | lst xs=>obtain⟨z,its,n,r,q⟩:=x;exact⟨z,its,n,r,e _ q⟩
 | tup xs=>obtain⟨z,its,r,ob,q,c⟩:=x;exact⟨z,its,r,ob,e _ q,c⟩
 | dK kvs=>exact(Yt.stay (H:=λ_=>none) (H':=H') (h':=h') (show Yt P w (λ_=>none) h b (.dK kvs) from x) (λc u hc q=>by
   rcases hc with rfl | hc
   ·exact e _ q
   ·cases hc) (λc q=>by cases q) λc xs q=>by cases q)
 | _=>exact hu.elim
def Vl.freeze {P:Program}{w:World}{H:Hp}{h:Heap}(x:Vl P w H h):Vl P w (freeze H h) h:=λa z e=>by
 obtain⟨o,v,rfl,hv,q⟩:=Px e
 rcases q with⟨q,ho⟩ | q
 ·exact⟨ho,Dw hv (x a v q) λ_ z=>z⟩
 ·obtain⟨h1,h2⟩:=x a _ q
  exact⟨h1,Dw hv h2 λ_ z=>z⟩
def Fe {P:Program}{w:World}{fs:List Addr}{H H':Hp}{h B:Heap}(x:Vl P w H h)(u:Ci fs [] (freeze H h) H' h B)(ok:Vl P w H' B)(fr:∀b∈fs,H b=none):∀b o,h.get? b=some o->b∉fs->B.get? b=some o:=λb o e hb=>by
 cases q:freeze H h b with
 | none=>exact u.keep b o e q hb (by simp)
 | some z=>
  obtain⟨o',v,rfl,hv,hq⟩:=Px q
  have h1:=(ok b _ (u.frzs b o' v q)).1
  rcases hq with⟨_,ho⟩ | hq
  ·rw[e] at ho;cases ho;exact h1
  ·have:=(x b _ hq).1
   rw[e] at this;cases this;exact h1
def Cv {P:Program}{w:World}{fs:List Addr}{H H':Hp}{h h':Heap}(x:Vl P w H h)(u:Un fs [] (freeze H h) H' h h')(ok:Vl P w H' h')(fr:∀b∈fs,H b=none):∀b o,h.get? b=some o->b∉fs->h'.get? b=some o:=λb o e hb=>by
 cases q:freeze H h b with
 | none=>exact u.keep b o e q hb (by simp)
 | some z=>
  obtain⟨o',v,rfl,hv,hq⟩:=Px q
  have h1:=(ok b _ (u.frzs b o' v q)).1
  rcases hq with⟨_,ho⟩ | hq
  ·rw[e] at ho;cases ho;exact h1
  ·have:=(x b _ hq).1
   rw[e] at this;cases this;exact h1
def Tf {H:Hp}{h:Heap}{b:Addr}(e:H b=none):freeze H h b=none:=by
 unfold freeze;rw[e];rfl
def Kb {fs:List Addr}{H:Hp}{h h':Heap}(k:∀b o,h.get? b=some o->b∉fs->h'.get? b=some o)(sl:∀b∈fs,∀o,h.get? b=some o->∃sl,h'.get? b=some {o with slots:=sl}):Un fs [] H H h h' where
 keep:=λb o e _ hb _=>k b o e hb
 slot:=λb o e _ hb _=>sl b hb o e
 free:=λ_ _ _ n _=>n
 there:=λb o e _=>by
  by_cases hb:b∈fs
  ·obtain⟨sl,q⟩:=sl b hb o e;exact⟨_,q⟩
  ·exact⟨o,k b o e hb⟩
 tups:=λ_ _ q=>q
 frzs:=λ_ _ _ q=>q
 tbls:=λ_ ps q=>⟨#[],by simpa using q⟩
def N0 {P:Program}{w:World}{fs:List Addr}{H:Hp}{h h':Heap}(x:Vl P w H h)(fr:∀b∈fs,H b=none)(k:∀b o,h.get? b=some o->b∉fs->h'.get? b=some o):Vl P w H h':=λa o e=>
 (x a o e).stay (λb u hb q=>k b u q λm=>by
  have:=fr b m
  rcases hb with rfl | hb
  ·rw[e] at this;cases this
  ·rw[hb] at this;cases this) (λ_ q=>q) λ_ _ q=>q
section
variable {X:Cx}{pins:List (Addr×Obj)}{σ:St}{H:Hp}{s s':Shared}
def Zm.env0F (I:Zm X pins σ H s):Em X.prog X.w X.K X.mg X.base X.A X.stack s (freeze H s.heap):=
 ⟨I.ok.frames,I.ok.mod,λb o e=>⟨(I.bs b o e).1,Tf (I.bs b o e).2⟩,Nat.le_trans I.ok.bsz I.sz,I.stack,λb hb=>Tf (I.stkFree b hb),I.hok.freeze,I.bare⟩
def Zm.backF {Q:VK}{u:Value}(I:Zm X pins σ H s)(h:CE X.stack X.prog X.w (freeze H s.heap) s Q u s'):Zm X pins σ H s'/\∃v H',Z3 v u/\Q v H':=by
 obtain⟨v,H',os,bare,un,hok,r,q⟩:=h
 have k:=Cv I.hok un hok I.stkFree
 refine⟨I.call' (ch:=[]) os (Kb k λb hb o e=>un.slot b o e (Tf (I.stkFree b hb)) hb (by simp)) (N0 I.hok I.stkFree k) bare (λb z=>absurd z (by simp)),v,H',r,q⟩
end
def Cx.mk1 (X:Cx)(e:Value):Cx:={X with A:=X.A.mark (some e),calm:=false,xe:=λ_ _=>False}
section
variable {X:Cx}{pins:List (Addr×Obj)}{σ:St}{H:Hp}{s s':Shared}{e:Value}
def Cx.Ok.mk1 (ok:X.Ok):(X.mk1 e).Ok:=
 ⟨ok.mod,ok.kind,ok.glob,ok.blt,ok.above,ok.inj,ok.has,ok.cab,(λz=>by cases z),ok.frames,ok.stk,ok.exf,ok.bs,ok.bsz,ok.noex,ok.exfs,ok.funs,ok.frf⟩
def Zm.mk1 (I:Zm X pins σ H s):Zm (X.mk1 e) pins σ H s:=⟨I.ok.mk1,I.os,I.bare,I.base,I.loc,I.cell,I.free,I.freeC,I.pin,I.hok,I.len⟩
def Zm.unmk1 (ok:X.Ok)(I:Zm (X.mk1 e) pins σ H s):Zm X pins σ H s:=⟨ok,I.os,I.bare,I.base,I.loc,I.cell,I.free,I.freeC,I.pin,I.hok,I.len⟩
def SP.unmk1 {D:Ro}{f:Flow}(ok:X.Ok)(h:SP (X.mk1 e) pins D f s'):SP X pins D f s':=by
 cases f with
 | next=>obtain⟨σ',H',I,q⟩:=h;exact⟨σ',H',I.unmk1 ok,q⟩
 | brk=>obtain⟨σ',H',I,q⟩:=h;exact⟨σ',H',I.unmk1 ok,q⟩
 | cont=>obtain⟨σ',H',I,q⟩:=h;exact⟨σ',H',I.unmk1 ok,q⟩
 | ret u=>obtain⟨v,σ',H',I,r,q⟩:=h;exact⟨v,σ',H',I.unmk1 ok,r,q⟩
def Lr (X:Cx)(pins:List (Addr×Obj))(σ:St)(H:Hp)(ea:Addr)(cls:Value)(s:Shared):Prop:=
 ∃s1 B a0,Zm X pins σ H s1/\s.os=s1.os/\AllBare s.gens/\(∀b o,s1.heap.get? b=some o->b∉Rv X.stack->B.get? b=some o)/\
  (∀b∈Rv X.stack,∀o,s1.heap.get? b=some o->∃sl,s.heap.get? b=some {o with slots:=sl})/\Heap.FlyingW B X.stack ea cls a0 s.heap
variable {ea:Addr}{cls:Value}
def Lr.inv (F:Lr X pins σ H ea cls s):Zm X pins σ H s:=by
 obtain⟨s1,B,a0,I,os,bare,k,sl,fl⟩:=F
 have k':∀b o,s1.heap.get? b=some o->b∉Rv X.stack->s.heap.get? b=some o:=λb o e hb=>fl.1 b o (k b o e hb)
 exact I.call' (ch:=[]) os (Kb k' sl) (N0 I.hok I.stkFree k') bare (λb z=>absurd z (by simp))
def Lr.step {B:Heap}{a0:Value}{h':Heap}{s1:Shared}(I:Zm X pins σ H s1)(os:s.os=s1.os)(bare:AllBare s.gens)(k:∀b o,s1.heap.get? b=some o->b∉Rv X.stack->B.get? b=some o)
  (sl:∀b∈Rv X.stack,∀o,s1.heap.get? b=some o->∃sl,s.heap.get? b=some {o with slots:=sl}) (fl:Heap.FlyingW B X.stack ea cls a0 h') (up:s.heap.UpToSlots h'):Lr X pins σ H ea cls {s with heap:=h'}:=by
 refine⟨s1,B,a0,I,os,bare,k,λb hb o e=>?_,fl⟩
 obtain⟨sl,q⟩:=sl b hb o e
 obtain⟨_,o2,ho2,nf⟩:=I.stack.mem hb
 rw[e] at ho2;cases ho2
 obtain⟨sl2,q2⟩:=up b _ q nf
 exact⟨sl2,q2⟩
def Lr.of {E:XK}{e:Value}(I:Zm X pins σ H s)(h:X8 X.prog X.w X.stack (freeze H s.heap) s E e s'):∃ea cls H',e=.ref ea/\E cls none H'/\Lr X pins σ H ea cls s':=by
 obtain⟨ea,cls,a0,H',B,rfl,hE,os,bare,u,sl,ok,-,fl⟩:=h
 exact⟨ea,cls,H',rfl,hE,s,B,a0,I,os,bare,Fe I.hok u ok I.stkFree,λb hb o e=>sl b hb o e (by simp),fl⟩
def Lr.ty {M:Model}(F:Lr X pins σ H ea cls s):W.Looks M s.heap (typeOf (.ref ea)) cls:=by
 obtain⟨s1,B,a0,I,os,bare,k,sl,fl⟩:=F
 obtain⟨ob,hob,hc⟩:=fl.there
 subst hc
 exact(W.Looks.ld hob).andThen .now
section
variable {M:Model}{A:Around}{E:Value->Shared->Prop}{Q:Unit->Shared->Prop}
def Lr.land (F:Lr X pins σ H ea cls s)(h:∀s',Lr X pins σ H ea cls s'->Q () s'):wpAny M A (setFlight (.ref ea) none) Q E s:=by
 obtain⟨s1,B,a0,I,os,bare,k,sl,fl⟩:=F
 exact lands_againW fl λh' fl' up=>h _ (Lr.step (s:=s) I os bare k sl fl' up)
def Lr.look {L:Addr}{outer:List Env}(F:Lr X pins σ H ea cls s)(hs:X.stack=X.env::outer)(hf:X.env.frame=some L)(hA:A.frames=some X.stack)(h:∀s',Lr X pins σ H ea cls s'->Q () s'):
  wpAny M A (noteFrame (.ref ea) X.env) (λ_ s2=>wpAny M A (setFlight (.ref ea) none) Q E s2) E s:=by
 obtain⟨s1,B,a0,I,os,bare,k,sl,fl⟩:=F
 rw[hs] at fl
 refine wpAny_looks_onW (outer:=outer) (L:=L) (hA.trans (by rw[hs])) hf fl λh' hh up=>?_
 refine wpAny_landsW hh λh2 fl2 up2=>?_
 exact h _ (Lr.step (s:=s) (h':=h2) I os bare k sl (by rw[hs];exact fl2) (up.trans up2))
end
def HB (X:Cx)(hs:List ExceptHandler)(cls:Value)(th:TS):Prop:=∀(ea:Addr) (pins:List (Addr×Obj)) (s:Shared) (σ:St) (H:Hp) (D:Ro),Lr X pins σ H ea cls s->th D σ H->wpAny (model X.prog X.w) X.A (handleBy (.ref ea) X.env hs) (SP X pins D) X.xe s
variable {x:Str}{c:Value}{np pos:Pos}{nm:Option Str}{body suite:List Stmt}{b₀:Stmt}{Z9:List ExceptHandler}{th:TS}
def uo (hg:Gl X x)(hm:X.mg x=some c)(he:W.exmOne X.K cls c=some true)(hs:∀ea,Lq (X.mk1 (.ref ea)) (b₀::suite) th)(hdb:(x==("__debug__":Str))=false:=by decide):HB X (.ExceptHandler (some (.Name x np)) none (b₀::suite) pos::Z9) cls th:=by
 intro ea pins s σ H D F h
 refine wpAny_handleBy_cons (codeAny_handlers_test (Xx (X:=X.mk1 (.ref ea)) F.inv.mk1 hg hm ?_ hdb)) (by intro q;cases q)
 refine W.exm_one F.inv.kIn F.ty he _ _ _ _ (λ_ _ z=>z) ?_
 refine codeAny_handlers_suite (F.land λs2 F2=>?_)
 exact wpAny_mono (hs ea pins s2 σ H D F2.inv.mk1 h) (λf s3 q=>SP.unmk1 F2.inv.ok q) λ_ _ z=>z.elim
def pq (P:Program)(w:World)(sp:Sp)(ta:TA)(th:Value->TS):TS:=λD σ H=>ta σ H λvs H1=>∃E:XK,(∀h,Vl P w H1 h->sp vs (freeze H1 h) (λ_ _=>D.nx σ H1) E)/\∀cls,(∃H',E cls none H')->th cls D σ H1
def j1 {k L:Nat}{f:Addr}{sp:Sp}{fn:Str}{p cpos epos:Pos}{e:Expr}{es:List Expr}{ta:TA}{th:Value->TS}{h₀:ExceptHandler}{hs:List ExceptHandler}{outer:List Env}
  (hF:∀vs H Q E,sp vs H Q E->∃fd ps sp',Oq X.prog X.w X.K X.mg X.base (X8 X.prog X.w) k f fd ps sp'/\Xm X.K fd ps []/\sp' vs H Q E) (hr:Y2 k X.A) (hg:Gl X fn) (hm:X.mg fn=some (.ref f)) (hk:W.keepIn X.K (.ref f)=true) (ha:tM X.nox (e::es) ta)
  (hst:X.stack=X.env::outer) (hf:X.env.frame=some L) (hh:∀cls,HB X (h₀::hs) cls (th cls))
  (hsw:swapsWith (.Call (.Name fn p) (e::es) [] cpos) none epos.line X.env=pure false:=by rfl) (hdb:(fn==("__debug__":Str))=false:=by decide)
  (he:starEach (e::es) X.env=(false,eval e X.env)::starEach es X.env:=by rfl) (hpl:(backTo cpos (starEach es X.env)).any (·.1)=false:=by rfl):
  wu X (.Try [.Expr (.Call (.Name fn p) (e::es) [] cpos) epos] (h₀::hs) [] [] pos) (pq X.prog X.w sp ta th):=by
 intro pins s σ H D h1 I h
 refine wpAny_Try_except ?_
 refine wpAny_execs_cons (wpAny_Expr_any ?_ I.quiet hsw)
 refine wpAny_Call_Name_kw (Xx I hg hm ?_ hdb)
 refine W.callWith_K (h₀:=X.base) I.ok.mod.kin hk (Rw (Ji (Kf h1 (ha cpos pins s σ H _ h1 (I.wish _) h)) λus s1 ⟨k1,vs,H1,I1',r,q⟩=>?_)) he hpl
 have I1:=I1'.unwish
 refine⟨I1.kIn,?_⟩
 obtain⟨E1,q1,q2⟩:=q
 obtain⟨fd,ps,sp',F,hb,hsp⟩:=hF _ _ _ _ (q1 s1.heap I1.hok)
 have hl:us.length=ps.length:=by rw[<-r.length];exact F.len _ _ _ _ hsp
 refine wpAny_call (codeAny_mono (F.run X.A X.stack s1 (freeze H1 s1.heap) ⟨us,[]⟩ us vs _ E1 k1 hr I1.env0F (by simpa using hb s1 us I1.kIn (by simpa using hl)) r hsp) λrr s' hq=>?_)
 cases rr with
 | error ev=>
  obtain⟨ea,cls,H',rfl,hE,Fl⟩:=Lr.of I1 hq
  refine Fl.look hst hf I1.ok.frames λs3 F3=>?_
  exact hh cls ea pins s3 σ H1 D F3 (q2 cls ⟨_,hE⟩)
 | ok fl=>
  cases fl with
  | ret u=>
   obtain⟨I2,v,H',_,q⟩:=I1.backF hq
   exact wpAny_execs_nil (wpAny_execs_nil ⟨σ,H1,I2,q⟩)
  | next=>exact False.elim hq
  | brk=>exact False.elim hq
  | cont=>exact False.elim hq
end
end L2
namespace WL
open PySem PySem.Spec PyProof.Rows L2
mutual
inductive Fz (C:Hw):T->T->Prop
 | non:Fz C .non .non
 | bl (b:Bool):Fz C (.bl b) (.bl b)
 | int (i:Int):Fz C (.int i) (.int i)
 | str (z:Str):Fz C (.str z) (.str z)
 | tup {ts ts':List T} (h:Fzs C ts ts'):Fz C (.tup ts) (.tup ts')
 | cl {ts ts':List T} (h:Fzs C ts ts'):Fz C (.cl ts) (.cl ts')
 | lst {a:Addr} {ts ts':List T} (e:C a=some (.lst ts)) (h:Fzs C ts ts'):Fz C (.ref a) (.cl ts')
 | ref (a:Addr):Fz C (.ref a) (.ref a)
inductive Fzs (C:Hw):List T->List T->Prop
 | nil:Fzs C [] []
 | cons {t t':T} {ts ts':List T} (h:Fz C t t') (r:Fzs C ts ts'):Fzs C (t::ts) (t'::ts')
end
def q8 (C C':Hw):Prop:=∀a o,C' a=some o->o=.fdic []/\C a=some (.dic [])
section
variable {K:W.Frag}{P:Program}{w:World}{F H:Hp}{C:Hw}{h:Heap}
def Ko {a:Addr}{u:HO}(ok:Vl P w H h)(hu:wx u)(r:Rd H a u):∃o,freeze H h a=some (.frz o u):=by
 rcases r with r | ⟨o,r⟩
 ·have:=ok.lt r
  cases u with
  | lst xs=>obtain⟨_,its,n,_,q⟩:=(show Yt P w H h a (.lst xs) from ok a _ r);exact⟨_,Pw r hu q⟩
  | tup xs=>obtain⟨_,its,_,ob,q,_⟩:=(show Yt P w H h a (.tup xs) from ok a _ r);exact⟨_,Pw r hu q⟩
  | dK kvs=>
   cases q:h.get? a with
   | some o=>exact⟨_,Pw r hu q⟩
   | none=>
    exfalso
    obtain⟨_,_,vs,_,z⟩:=(show Yt P w H h a (.dK kvs) from ok a _ r)
    obtain⟨o,es,ep,e,_⟩:=z
    rw[q] at e;cases e
  | _=>exact hu.elim
 ·exact⟨o,Ec r hu⟩
mutual
def uu (R:Rl K F H C)(ok:Vl P w H h):∀{v v':T},Fz C v v'->∀{x:V},Jg K H x v->Jg K (freeze H h) x v'
 | _,_,.non,_,r=>r
 | _,_,.bl _,_,r=>r
 | _,_,.int _,_,r=>r
 | _,_,.str _,_,r=>r
 | _,_,.ref _,_,r=>r
 | _,_,.tup f,x,r=>by
  obtain⟨a,ys,e,sq,rs⟩:=(show ∃a ys,x=.ref a/\Uc K H a ys/\Reps K H ys _ from r)
  refine(show ∃a ys,x=.ref a/\Uc K (freeze H h) a ys/\Reps K (freeze H h) ys _ from⟨a,ys,e,?_,Qn R ok f rs⟩)
  rcases sq with sq | sq
  ·exact .inl (.inr (Ko ok trivial sq))
  ·exact .inr sq
 | _,_,.cl f,x,r=>by
  obtain⟨a,ys,e,sq,rs⟩:=(show ∃a ys,x=.ref a/\yG K H a ys/\Reps K H ys _ from r)
  refine(show ∃a ys,x=.ref a/\yG K (freeze H h) a ys/\Reps K (freeze H h) ys _ from⟨a,ys,e,?_,Qn R ok f rs⟩)
  rcases sq with sq | sq
  ·exact .inl (Ko ok trivial (.inr sq))
  ·exact .inr sq
 | _,_,.lst (a:=a) ec f,x,r=>by
  obtain⟨ys,e,rs⟩:=(show ∃ys,H a=some (.lst ys)/\Reps K H ys _ from R.obj a _ ec)
  exact(show ∃a ys,x=.ref a/\yG K (freeze H h) a ys/\Reps K (freeze H h) ys _ from⟨a,ys,r,.inl (Ko ok trivial (.inl e)),Qn R ok f rs⟩)
def Qn (R:Rl K F H C)(ok:Vl P w H h):∀{vs vs':List T},Fzs C vs vs'->∀{xs:List V},Reps K H xs vs->Reps K (freeze H h) xs vs'
 | _,_,.nil,_,r=>r
 | _,_,.cons f g,xs,r=>by
  obtain⟨y,z,e,r1,r2⟩:=(show ∃y z,xs=y::z/\Jg K H y _/\Reps K H z _ from r)
  exact(show ∃y z,xs=y::z/\Jg K (freeze H h) y _/\Reps K (freeze H h) z _ from⟨y,z,e,uu R ok f r1,Qn R ok g r2⟩)
end
def rT {C':Hw}(R:Rl K F H C)(ok:Vl P w H h)(f:q8 C C'):Rl K (λ_=>none) (freeze H h) C':=by
 refine⟨λa o e=>?_,λa o e=>by cases e⟩
 obtain⟨rfl,ec⟩:=f a o e
 obtain⟨ks,q,p⟩:=(show ∃ks,H a=some (.dK ks)/\PR K H ks [] from R.obj a _ ec)
 cases p
 exact⟨[],.inr (Ko ok trivial (.inl q)),.nil⟩
end
def vh (P:Calls)(wA:WA)(as:List (Nat×WS)):WS:=λD τ C=>wA τ C (λvs C1=>∃vs' C',Fzs C1 vs vs'/\q8 C1 C'/\∃q∈as,P q.1 vs' C' (λ_ _=>D.nx τ C1) (λ_ _=>False)/\q.2 D τ C1) D.xc
def qP (X:Cx)(hs:List ExceptHandler)(cls:Value)(wh:WS):Prop:=∃th,HB X hs cls th/\G0 X.K th wh
section
variable {X:Cx}{x:Str}{c cls:Value}{np pos:Pos}{nm:Option Str}{body suite:List Stmt}{b₀:Stmt}{Z9:List ExceptHandler}{wh:WS}
def uH (hg:Gl X x)(hm:X.mg x=some c)(he:W.exmOne X.K cls c=some true)(hs:∀e,Lp (X.mk1 e) (b₀::suite) wh)(hdb:(x==("__debug__":Str))=false:=by decide):qP X (.ExceptHandler (some (.Name x np)) none (b₀::suite) pos::Z9) cls wh:=by
 refine⟨λD σ H=>∀e,∃t,Lq (X.mk1 e) (b₀::suite) t/\t D σ H,uo hg hm he (λea pins s σ H D I h=>?_) hdb,λF H C σ τ D D' R S h d e=>?_⟩
 ·obtain⟨t,p,q⟩:=h (.ref ea)
  exact p pins s σ H D I q
 ·obtain⟨t,p,sm⟩:=hs e
  exact⟨t,p,sm F H C σ τ D D' R S h d⟩
def w5 (X:Cx)(pr:List Df)(k:Nat)(fn:Str)(ps:List Str)(hs:List ExceptHandler)(q:Nat×WS):Prop:=∃E1:XK,At X.prog X.w X.K X.mg X.base (X8 X.prog X.w) k fn ps (sB X.K pr E1 k q.1)/\∀cls H,E1 cls none H->qP X hs cls q.2
def Lo {k i:Nat}{pr:List Df}{fn:Str}{ps:List Str}{hs:List ExceptHandler}{wh:WS}(Cc:At X.prog X.w X.K X.mg X.base (X8 X.prog X.w) k fn ps (sB X.K pr (λ_ _ _=>False) k i)):w5 X pr k fn ps hs (i,wh):=⟨_,Cc,λ_ _ z=>z.elim⟩
def Cg {k i:Nat}{pr:List Df}{fn:Str}{ps:List Str}{hs:List ExceptHandler}{wh:WS}{C:Addr}{r:Prop}(Cc:At X.prog X.w X.K X.mg X.base (X8 X.prog X.w) k fn ps (sB X.K pr (Er [(C,r)]) k i))(h:qP X hs (.ref C) wh):w5 X pr k fn ps hs (i,wh):=⟨_,Cc,λcls _ z=>by
 obtain⟨p,hp,rfl,_⟩:=z
 rw[XQ.mp hp]
 exact h⟩
def xh {k L:Nat}{ps:List Str}{pr:List Df}{fn:Str}{p cpos epos:Pos}{e:Expr}{es:List Expr}{wA:WA}{h₀:ExceptHandler}{hs:List ExceptHandler}{outer:List Env}{f:Addr}{as:List (Nat×WS)}
  (hr:Y2 k X.A) (hg:Gl X fn) (hm:X.mg fn=some (.ref f)) (hk:W.keepIn X.K (.ref f)=true) (ha:El X.nox (e::es) wA) (hA:∀q∈as,w5 X pr k fn ps (h₀::hs) q)
  (hst:X.stack=X.env::outer) (hf:X.env.frame=some L)
  (hsw:swapsWith (.Call (.Name fn p) (e::es) [] cpos) none epos.line X.env=pure false:=by rfl) (hdb:(fn==("__debug__":Str))=false:=by decide)
  (he:starEach (e::es) X.env=(false,eval e X.env)::starEach es X.env:=by rfl) (hpl:(backTo cpos (starEach es X.env)).any (·.1)=false:=by rfl):
  G2 X (.Try [.Expr (.Call (.Name fn p) (e::es) [] cpos) epos] (h₀::hs) [] [] pos) (vh (Xo pr k) wA as):=by
 obtain⟨ta,p1,s⟩:=ha
 refine⟨_,j1 (f:=f) (sp:=λvs H Q E=>∃fd ps sp',Oq X.prog X.w X.K X.mg X.base (X8 X.prog X.w) k f fd ps sp'/\Xm X.K fd ps []/\sp' vs H Q E) (th:=λcls D σ H=>∃t,HB X (h₀::hs) cls t/\t D σ H) (λ_ _ _ _ z=>z) hr hg hm hk p1 hst hf (λcls ea pins s' σ H D F z=>?_) hsw hdb he hpl,λF H C σ τ D D' R S h d=>?_⟩
 ·obtain⟨t,hb,q⟩:=z
  exact hb ea pins s' σ H D F q
 ·refine s F H C σ τ _ _ D'.xc R S h λxs vs H1 C1 R1 t1 rs h1=>?_
  obtain⟨vs',C',f1,f2,q,hq,h2,h3⟩:=h1
  obtain⟨E1,Cc,hE⟩:=hA q hq
  obtain⟨f',fd,G,B,kp,m⟩:=Cc.ex
  rw[hm] at m;cases m
  refine⟨E1,λhp ok=>⟨fd,ps,_,G,B,rfl,λ_=>none,C',vs',_,_,rT R1 ok f2,Qn R1 ok f1 rs,h2,λy v H' C'' R' t' ry z=>d.nx σ τ H1 C1 R1 t1 (S.tx t1) z⟩,λcls hE'=>?_⟩
  obtain⟨H',hE'⟩:=hE'
  obtain⟨th,hb,sm⟩:=hE cls H' hE'
  exact⟨th,hb,sm F H1 C1 σ τ D D' R1 (S.tx t1) h3 (d.at t1)⟩
end
end WL
namespace L2
open PySem PySem.Spec PyProof.Rows
def nM (te:TE):TE:=λσ H Q=>te σ H λx H1=>∃z:Str,x=.str z/\(reprText z).length<=sizeLine/\Q (.str (reprText z)) H1
def rh {X:Cx}{e:Expr}{te:TE}{pos:Pos}(h:PE X e te):PE X (.FormattedValue e 114 none pos) (nM te):=by
 intro pins s σ H Q I q
 refine wpAny_FormattedValue_repr (Ji (h pins s σ H _ I q) λu s1 ⟨x,H1,I1,rx,z,ex,hz,q1⟩=>?_)
 subst ex
 obtain⟨t,rfl⟩:=rx
 exact wpAny_pyReprObj_str (formatField_str (λt' tk=>⟨.str (reprText z),H1,I1.tok _,⟨t',rfl⟩,q1⟩) hz) hz
end L2
namespace WL
open PySem PySem.Spec PyProof.Rows L2
def oo (e:WE):WE:=λτ C Q χ=>e τ C (λx C1=>∃z:Str,x=.str z/\(reprText z).length<=1000/\Q (.str (reprText z)) C1) χ
def qd {X:Cx}{e:Expr}{we:WE}{pos:Pos}(he:Jw X e we):Jw X (.FormattedValue e 114 none pos) (oo we):=by
 obtain⟨t,p,s⟩:=he
 refine⟨_,rh p,λF H C σ τ Q Q' χ R S h q=>?_⟩
 refine s F H C σ τ _ _ χ R S h λx u H1 C1 R1 t1 rx h1=>?_
 obtain⟨z,rfl,hz,h1⟩:=h1
 cases Yu rx
 exact⟨z,rfl,Nat.le_of_lt (Jj hz),q _ _ H1 C1 R1 t1 Zt h1⟩
def Ba (K:W.Frag)(P:Calls)(i:Nat):Sp:=λvs H Q _=>∃(F:Hp) (C:Hw) (vs':List T) (Q':WK) (χ:WX),Rl K F H C/\Reps K H vs vs'/\P i vs' C Q' χ/\QE K F H Q Q'
def Ot (K:W.Frag)(P:Calls)(E1:XK)(i:Nat):Sp:=λvs H Q E=>E=E1/\Ba K P i vs H Q E
section
variable {X:Cx}{k i:Nat}{x:Str}{ps:List Str}{P:Calls}{p pos:Pos}{e:Expr}{es:List Expr}{wA:WA}{E1:XK}
def Ia (Cc:Ca X.prog X.w X.K X.mg X.base k x ps (Ba X.K P i))(hr:Y2 k X.A)(hg:Gl X x)(ha:Mj X (e::es) wA)
  (hdb:(x==("__debug__":Str))=false:=by decide) (he:starEach (e::es) X.env=(false,eval e X.env)::starEach es X.env:=by rfl) (hpl:(backTo pos (starEach es X.env)).any (·.1)=false:=by rfl):
  Jw X (.Call (.Name x p) (e::es) [] pos) (Jp P i wA):=by
 obtain⟨t,p1,s⟩:=ha
 refine⟨_,xM Cc hr hg p1 hdb he hpl,λF H C σ τ Q Q' χ R S h q=>?_⟩
 refine s F H C σ τ _ _ χ R S h λxs vs H1 C1 R1 t1 rs h1=>?_
 refine⟨F,C1,vs,Q',χ,R1,?_,h1,QE.at q t1⟩
 rw[YK];exact rs
def y7 (Cc:wz X.prog X.w X.K X.mg X.base k x ps (Ba X.K P i))(hr:Y2 k X.A)(hg:Gl X x)(ha:El X (e::es) wA)
  (hdb:(x==("__debug__":Str))=false:=by decide) (he:starEach (e::es) X.env=(false,eval e X.env)::starEach es X.env:=by rfl) (hpl:(backTo pos (starEach es X.env)).any (·.1)=false:=by rfl):
  Mi X (.Call (.Name x p) (e::es) [] pos) (Jp P i wA):=by
 obtain⟨t,p1,s⟩:=ha
 refine⟨_,z7 Cc hr hg p1 hdb he hpl,λF H C σ τ Q Q' χ R S h q=>?_⟩
 refine s F H C σ τ _ _ χ R S h λxs vs H1 C1 R1 t1 rs h1=>?_
 refine⟨F,C1,vs,Q',χ,R1,?_,h1,QE.at q t1⟩
 rw[YK];exact rs
def Zs (hx:Vi (X8 X.prog X.w) X E1)(Cc:Mn X.prog X.w X.K X.mg X.base k x ps (Ot X.K P E1 i))(hr:Y2 k X.A)(hg:Gl X x)(ha:Mj X (e::es) wA)
  (hdb:(x==("__debug__":Str))=false:=by decide) (he:starEach (e::es) X.env=(false,eval e X.env)::starEach es X.env:=by rfl) (hpl:(backTo pos (starEach es X.env)).any (·.1)=false:=by rfl):
  Jw X (.Call (.Name x p) (e::es) [] pos) (Jp P i wA):=by
 obtain⟨t,p1,s⟩:=ha
 obtain⟨f,fd,G,B,kp,m⟩:=Cc.ex
 refine⟨_,Dn G hr hg m kp B .nil hx p1 hdb he hpl,λF H C σ τ Q Q' χ R S h q=>?_⟩
 refine s F H C σ τ _ _ χ R S h λxs vs H1 C1 R1 t1 rs h1=>?_
 refine⟨rfl,F,C1,vs,Q',χ,R1,?_,h1,QE.at q t1⟩
 rw[YK];exact rs
def Mn.tk {P:Program}{w:World}{K:W.Frag}{mg:Str->Option Value}{base:Heap}{sp:Sp}(C:Mn P w K mg base k x ps sp):At P w K mg base (X8 P w) k x ps sp:=by
 obtain⟨f,fd,F,r⟩:=C.ex
 exact⟨f,fd,⟨F.len,λA outer s H args us vs Q E _=>F.run A outer s H args us vs Q E⟩,r⟩
def Gn (hx:Vi (X8 X.prog X.w) X E1)(Cc:At X.prog X.w X.K X.mg X.base (X8 X.prog X.w) k x ps (Ot X.K P E1 i))(hr:Y2 k X.A)(hg:Gl X x)(ha:El X (e::es) wA)
  (hdb:(x==("__debug__":Str))=false:=by decide) (he:starEach (e::es) X.env=(false,eval e X.env)::starEach es X.env:=by rfl) (hpl:(backTo pos (starEach es X.env)).any (·.1)=false:=by rfl):
  Mi X (.Call (.Name x p) (e::es) [] pos) (Jp P i wA):=by
 obtain⟨t,p1,s⟩:=ha
 refine⟨_,jC Cc hr hx hg p1 hdb he hpl,λF H C σ τ Q Q' χ R S h q=>?_⟩
 refine s F H C σ τ _ _ χ R S h λxs vs H1 C1 R1 t1 rs h1=>?_
 refine⟨rfl,F,C1,vs,Q',χ,R1,?_,h1,QE.at q t1⟩
 rw[YK];exact rs
def Zz {C:Addr}{np cpos:Pos}(hf:yK X E1)(hc:X.calm=true)(O:qs X.K X.mg x C)(hE:∀C' Q χ H,P i [] C' Q χ->E1 (.ref C) none H)(hg:Gl X x)(ha:Mj X (e::es) wA)(hdb:(x==("__debug__":Str))=false:=by decide)
  (he:starEach (e::es) X.env=(false,eval e X.env)::starEach es X.env:=by rfl) (hpl:(backTo cpos (starEach es X.env)).any (·.1)=false:=by rfl):Mh X (.Raise (some (.Call (.Name x np) (e::es) [] cpos)) none pos) (Pk P i wA):=by
 obtain⟨t,p1,s⟩:=ha
 refine⟨_,zv hf hc O hg p1 hdb he hpl,λF H Cw σ τ D D' R S h d=>?_⟩
 refine s F H Cw σ τ _ _ D'.xc R S h λxs vs H1 C1 R1 t1 rs h1=>?_
 exact⟨by rw[rs.length];exact Nat.le_of_lt (Jj h1.1),hE _ _ _ _ h1.2⟩
end
def Sq (P' P:Calls)(i:Nat)(N ps:List Str)(W:Calls->WS):Prop:=∀vs C Q χ,P' i vs C Q χ->vs.length=ps.length/\W P (ZUD Q χ) (vs.map some++List.replicate (N.length-ps.length) none) C
def Yb {pr:List Df}{n i:Nat}{N ps:List Str}{W:Calls->WS}(h:pr[i]?=some ⟨N.length,ps.length,W⟩):Sq (Xo pr (n+1)) (Xo pr n) i N ps W:=λvs C Q χ z=>by
 obtain⟨d,e,hl,z⟩:=z
 rw[h] at e;cases e
 exact⟨hl,z⟩
def Ya {pr:List Df}{n i M:Nat}{N ps:List Str}{W:Calls->WS}(h:pr[i+M]?=some ⟨N.length,ps.length,λP=>W λj=>P (j+M)⟩):Sq (λj=>Xo pr (n+1) (j+M)) (λj=>Xo pr n (j+M)) i N ps W:=λvs C Q χ z=>by
 obtain⟨d,e,hl,z⟩:=z
 rw[h] at e;cases e
 exact⟨hl,z⟩
section
variable {Pg:Program}{w:World}{K:W.Frag}{mg:Str->Option Value}{base:Heap}{x qual:Str}{st:Stmt}{f:Addr}{fd:FuncData}{N ps:List Str}{n i:Nat}{P P':Calls}{E1:XK}{W:Calls->WS}
def uy (hO:Sq P' P i N ps W)(F:P9 K x qual st f fd)(S:Zp N ps (Zf st))
  (hb:∀(cdv:Value) (A:Around) (outer:List Env) (s:Shared) (H:Hp) (E:XK),Y2 n (A.deeper (envOfC qual (Zf st) s.heap.objs.size f cdv))->Lp (Yx CX0 Pg w K mg base N qual (Zf st) f cdv A outer s H E).nox (Yn st) (W P)):
  Wi Pg w K mg base CX0 (n+1) f fd ps (Ba K P' i):=by
 refine F.ok S (λvs H Q E h=>?_) (λcdv A outer s H vs Q E hr h=>?_)
 ·obtain⟨F',C,vs',Q',χ,R,rs,h,_⟩:=h
  rw[rs.length,(hO _ _ _ _ h).1]
 ·obtain⟨F',C,vs',Q',χ,R,rs,h,q⟩:=h
  obtain⟨hl,h⟩:=hO _ _ _ _ h
  obtain⟨t,p,sm⟩:=hb cdv A outer s H E hr
  refine⟨t,p,sm F' H C _ _ _ _ R (Jz.start rs N _ (by rw[rs.length,hl])) h ⟨λσ τ H' C' R' t' _ h'=>q .non .non H' C' R' t' Wc h',q,λ_ _ _ _ _ _ _ z=>z.elim,λ_ _ _ _ _ _ _ z=>z.elim⟩⟩
def jY (hO:Sq P' P i N ps W)(F:P9 K x qual st f fd)(S:Zp N ps (Zf st))
  (hb:∀(cdv:Value) (A:Around) (outer:List Env) (s:Shared) (H:Hp) (E:XK),Y2 n (A.deeper (envOfC qual (Zf st) s.heap.objs.size f cdv))->P8 (Yx CX0 Pg w K mg base N qual (Zf st) f cdv A outer s H E).nox (Yn st) (W P)):
  Sr Pg w K mg base (n+1) f fd ps (Ba K P' i):=by
 refine F.ok1 S (λvs H Q E h=>?_) (λcdv A outer s H vs Q E hr h=>?_)
 ·obtain⟨F',C,vs',Q',χ,R,rs,h,_⟩:=h
  rw[rs.length,(hO _ _ _ _ h).1]
 ·obtain⟨F',C,vs',Q',χ,R,rs,h,q⟩:=h
  obtain⟨hl,h⟩:=hO _ _ _ _ h
  obtain⟨t,p,sm⟩:=hb cdv A outer s H E hr
  refine⟨t,p,sm F' H C _ _ _ _ R (Jz.start rs N _ (by rw[rs.length,hl])) h ⟨λσ τ H' C' R' t' _ h'=>q .non .non H' C' R' t' Wc h',q,λ_ _ _ _ _ _ _ z=>z.elim,λ_ _ _ _ _ _ _ z=>z.elim⟩⟩
def ux (hO:Sq P' P i N ps W)(F:P9 K x qual st f fd)(S:Zp N ps (Zf st))
  (hb:∀(cdv:Value) (A:Around) (outer:List Env) (s:Shared) (H:Hp),Y2 n (A.deeper (envOfC qual (Zf st) s.heap.objs.size f cdv))->Lp (Yx (X8 Pg w) Pg w K mg base N qual (Zf st) f cdv A outer s H E1) (Yn st) (W P)):
  Wi Pg w K mg base (X8 Pg w) (n+1) f fd ps (Ot K P' E1 i):=by
 obtain⟨oc,od,kV,doc,pm,an,cdv,ct,osl,rfl,lk,hcd⟩:=F.ex
 refine xT lk hcd S (λvs H Q E h=>?_) (λA outer s H vs Q E hr h=>?_)
 ·obtain⟨_,F',C,vs',Q',χ,R,rs,h,_⟩:=h
  rw[rs.length,(hO _ _ _ _ h).1]
 ·obtain⟨rfl,F',C,vs',Q',χ,R,rs,h,q⟩:=h
  obtain⟨hl,h⟩:=hO _ _ _ _ h
  obtain⟨t,p,sm⟩:=hb cdv A outer s H hr
  refine⟨t,p,sm F' H C _ _ _ _ R (Jz.start rs N _ (by rw[rs.length,hl])) h ⟨λσ τ H' C' R' t' _ h'=>q .non .non H' C' R' t' Wc h',q,λ_ _ _ _ _ _ _ z=>z.elim,λ_ _ _ _ _ _ _ z=>z.elim⟩⟩
def jX (hO:Sq P' P i N ps W)(F:P9 K x qual st f fd)(S:Zp N ps (Zf st))
  (hb:∀(cdv:Value) (A:Around) (outer:List Env) (s:Shared) (H:Hp),Y2 n (A.deeper (envOfC qual (Zf st) s.heap.objs.size f cdv))->P8 (Yx (X8 Pg w) Pg w K mg base N qual (Zf st) f cdv A outer s H E1) (Yn st) (W P)):
  Oq Pg w K mg base (X8 Pg w) (n+1) f fd ps (Ot K P' E1 i):=by
 obtain⟨oc,od,kV,doc,pm,an,cdv,ct,osl,rfl,lk,hcd⟩:=F.ex
 refine u4 lk hcd S (λvs H Q E h=>?_) (λA outer s H vs Q E hr h=>?_)
 ·obtain⟨_,F',C,vs',Q',χ,R,rs,h,_⟩:=h
  rw[rs.length,(hO _ _ _ _ h).1]
 ·obtain⟨rfl,F',C,vs',Q',χ,R,rs,h,q⟩:=h
  obtain⟨hl,h⟩:=hO _ _ _ _ h
  obtain⟨t,p,sm⟩:=hb cdv A outer s H hr
  refine⟨t,p,sm F' H C _ _ _ _ R (Jz.start rs N _ (by rw[rs.length,hl])) h ⟨λσ τ H' C' R' t' _ h'=>q .non .non H' C' R' t' Wc h',q,λ_ _ _ _ _ _ _ z=>z.elim,λ_ _ _ _ _ _ _ z=>z.elim⟩⟩
def Ek (P:Calls):Prop:=∀i vs C Q χ,¬P i vs C Q χ
def Jk {pr:List Df}:Ek (Xo pr 0):=λ_ _ _ _ _ z=>z
def Yp {pr:List Df}{M:Nat}:Ek (λj=>Xo pr 0 (j+M)):=λ_ _ _ _ _ z=>z
def Kh {vs:List V}{H:Hp}{Q:VK}{E:XK}(z:Ek P)(h:Ba K P i vs H Q E):False:=by
 obtain⟨_,_,_,_,_,_,_,h,_⟩:=h;exact z _ _ _ _ _ h
def v0 (z:Ek P)(L:Ld K mg x st ps):Ca Pg w K mg base n x ps (Ba K P i):=by
 obtain⟨f,fd,F,B,M⟩:=L
 exact⟨f,fd,⟨λvs H Q E h=>(Kh z h).elim,λA outer s H args us vs Q E _ _ _ _ h=>(Kh z h).elim⟩,B,F.kp,M⟩
def oN (z:Ek P)(L:Ld K mg x st ps):wz Pg w K mg base n x ps (Ba K P i):=(v0 z L).one
def x0 (z:Ek P)(L:Ld K mg x st ps):Mn Pg w K mg base n x ps (Ot K P E1 i):=by
 obtain⟨f,fd,F,B,M⟩:=L
 exact⟨f,fd,⟨λvs H Q E h=>(Kh z h.2).elim,λA outer s H args us vs Q E _ _ _ _ h=>(Kh z h.2).elim⟩,B,F.kp,M⟩
def oK (z:Ek P)(L:Ld K mg x st ps):At Pg w K mg base (X8 Pg w) n x ps (Ot K P E1 i):=(x0 z L).tk
def pf {sp:Sp}(L:Ld K mg x st ps)(G:∀{f fd},P9 K x x st f fd->Sr Pg w K mg base n f fd ps sp):wz Pg w K mg base n x ps sp:=by
 obtain⟨f,fd,F,B,M⟩:=L
 exact⟨f,fd,G F,B,F.kp,M⟩
end
def wq {P:Program}{w:World}{K:W.Frag}{mg:Str->Option Value}{base:Heap}{CX:Iq}{k:Nat}{x:Str}{ps:List Str}{sp:Sp}(C:At P w K mg base CX k x ps sp):∃f,mg x=some (.ref f)/\W.keepIn K (.ref f)=true:=by
 obtain⟨f,_,_,_,kp,m⟩:=C.ex
 exact⟨f,m,kp⟩
def Gx {X:Cx}{pr:List Df}{k:Nat}{fn:Str}{ps:List Str}{hs:List ExceptHandler}:∀q∈([]:List (Nat×WS)),w5 X pr k fn ps hs q:=λ_ h=>nomatch h
def Sd {X:Cx}{pr:List Df}{k:Nat}{fn:Str}{ps:List Str}{hs:List ExceptHandler}{q:Nat×WS}{as:List (Nat×WS)}(h:w5 X pr k fn ps hs q)(r:∀q∈as,w5 X pr k fn ps hs q):∀q'∈q::as,w5 X pr k fn ps hs q':=λq' m=>by
 rcases List.mem_cons.mp m with rfl | m
 ·exact h
 ·exact r q' m
def Gi {X:Cx}{k L:Nat}{ps:List Str}{pr:List Df}{fn:Str}{p cpos epos pos:Pos}{e:Expr}{es:List Expr}{wA:WA}{h₀:ExceptHandler}{hs:List ExceptHandler}{outer:List Env}{as:List (Nat×WS)}{P:Calls}(hP:Xo pr k=P)
  (hr:Y2 k X.A) (hg:Gl X fn) (hm:∃f,X.mg fn=some (.ref f)/\W.keepIn X.K (.ref f)=true) (ha:El X.nox (e::es) wA) (hA:∀q∈as,w5 X pr k fn ps (h₀::hs) q)
  (hst:X.stack=X.env::outer) (hf:X.env.frame=some L)
  (hsw:swapsWith (.Call (.Name fn p) (e::es) [] cpos) none epos.line X.env=pure false:=by rfl) (hdb:(fn==("__debug__":Str))=false:=by decide)
  (he:starEach (e::es) X.env=(false,eval e X.env)::starEach es X.env:=by rfl) (hpl:(backTo cpos (starEach es X.env)).any (·.1)=false:=by rfl):
  G2 X (.Try [.Expr (.Call (.Name fn p) (e::es) [] cpos) epos] (h₀::hs) [] [] pos) (vh P wA as):=by
 subst hP
 obtain⟨f,m,kp⟩:=hm
 exact xh hr hg m kp ha hA hst hf hsw hdb he hpl
end WL
namespace L2
open PySem PySem.Spec PyProof.Rows PySem.W Builtin Builtin.ObjectAttr Builtin.Getset_descriptor
structure As (K:Frag)(C:Addr):Prop where
 ga:findIn K (.ref C) "__getattribute__"=some (some (.builtin "BaseException.__getattribute__"))
 hk:findIn K (.ref C) "__getattr__"=some none
 at_:findIn K (.ref C) "__class__"=some (some (.builtin "object.__class__"))
 gt:specialIn K (.builtin "object.__class__") "__get__"=some (some (.builtin "getset_descriptor.__get__"))
 tk:takesIn K (.builtin "object.__class__")=some true
 ob:mroIn K C (.type "object")=some true
 be:mroIn K C (.type "BaseException")=some true
def As.cl {K:Frag}{C:Addr}(F:As K C):(clsIn K C).isSome=true:=by
 obtain⟨cd,a,_⟩:=Option.bind_eq_some_iff.mp F.ob
 rw[a];rfl
section
variable {prog:Program}{w:World}{A:Around}{E:Value->Shared->Prop}{K:Frag}{h:Heap}{g:Array GenState}{d:Drawn}{t:Nat}{os:OsState}{x C:Addr}{o:Obj}
def w6 {tp:Value}{R:Result->Shared->Prop}(X:K.In h)(F:As K C)(hx:h.get? x=some o)(hc:o.cls=.ref C)(q:R (.ok (.ret (.ref C))) ⟨h,g,d,t,os⟩):
  codeAny (model prog w) A (.call (.builtin "getset_descriptor.__get__") ⟨[.builtin "object.__class__",.ref x,tp],[]⟩) R ⟨h,g,d,t,os⟩:=by
 have y0:Looks (model prog w) h (typeOf (.ref x)) (.ref C):=hc▸(Looks.ld hx).andThen .now
 have y1:=looks_mroIn (M:=model prog w) X F.ob
 refine codeAny_call_builtin KF.slot_gs.plain KF.entry_gs ((KF.slot_gs).check _ _ _ _ _ _ _ _ KF.type_class (KF.args_gs _ _ _) ?_)
 unfold Builtin.«getset_descriptor.__get__» descrGet;rw[dga_obj]
 refine XA (XB ?_)
 unfold descrGetter descrCheckInstance descrNameAndClass isInstance;simp only[KF.owner_class]
 repeat lk
 refine⟨Code.quiet_builtin _ (by decide+kernel),(codeAny_builtin KF.entry_class) ?_⟩
 unfold Builtin.«object.__class__» shownTypeOf;repeat lk
 first | exact q | trace_state
def Au {tk:Tok}{Q:Fin->Shared->Prop}(X:K.In h)(F:As K C)(hx:h.get? x=some o)(hc:o.cls=.ref C)(q:Q (.done (.ret (.ref C))) ⟨h,g,d,t,os⟩):
  wpAny (model prog w) A (Builtin.«object.__getattribute__» ⟨[.ref x,.str "__class__" tk],[]⟩) Q E ⟨h,g,d,t,os⟩:=by
 have y0:Looks (model prog w) h (typeOf (.ref x)) (.ref C):=hc▸(Looks.ld hx).andThen .now
 have y1:=looks_findIn (M:=model prog w) X F.at_
 have y2:=looks_specialIn (M:=model prog w) X F.gt
 have y3:=looks_takesIn (M:=model prog w) X F.tk
 unfold Builtin.«object.__getattribute__»
 repeat (first | (with_reducible refine wpAny_call ?_) | lk)
 exact w6 X F hx hc (XB q)
def Aw {M:Model}{v:Value}{Q:Unit->Shared->Prop}(X:K.In h)(F:As K C)(hx:h.get? x=some o)(hc:o.cls=.ref C)(q:Q () ⟨h,g,d,t,os⟩):wpAny M A (checkBuiltinCall "BaseException.__getattribute__" ⟨[.ref x,v],[]⟩) Q E ⟨h,g,d,t,os⟩:=by
 have k1:builtinKind "BaseException.__getattribute__"=some .slot:=by decide+kernel
 have k2:splitId "BaseException.__getattribute__"=some ("BaseException","__getattribute__"):=by decide+kernel
 have k3:=PySem.F.args_bexc_ga (.ref x) v
 have y0:Looks M h (typeOf (.ref x)) (.ref C):=hc▸(Looks.ld hx).andThen .now
 have y1:=looks_mroIn (M:=M) X F.be
 simp only[checkBuiltinCall,k1,k2]
 refine XA ?_
 unfold isInstance
 repeat lk
 exact q
def tO {tk:Tok}{Q:Value->Shared->Prop}(X:K.In h)(F:As K C)(hx:h.get? x=some o)(hc:o.cls=.ref C)(q:Q (.ref C) ⟨h,g,d,t,os⟩):
  wpAny (model prog w) A (getAttrBy (.ref x) (.str "__class__" tk) false false) Q E ⟨h,g,d,t,os⟩:=by
 have y0:Looks (model prog w) h (typeOf (.ref x)) (.ref C):=hc▸(Looks.ld hx).andThen .now
 have y1:=looks_findIn (M:=model prog w) X F.ga
 have y2:=looks_findIn (M:=model prog w) X F.hk
 have n1:(Value.builtin "BaseException.__getattribute__"==Value.builtin "object.__getattribute__")=false:=by decide+kernel
 unfold getAttrBy
 refine wpAny_holding (XA (y0.at (XA (y1.at ?_))))
 show wpAny _ _ (if (onTheHeap (Value.ref C)&&Value.builtin "BaseException.__getattribute__"==Value.builtin "object.__getattribute__")=true then _ else _) _ _ _
 rw[n1,Bool.and_false,XX (by decide)]
 unfold getAttrByItsOwn hookBefore
 rw[XY (show onTheHeap (Value.ref C)=true from rfl)]
 refine XA (y2.at (XA (wpAny_attempt (wpAny_holding ?_))))
 unfold callGetattribute
 rw[Bool.false_and,XX (by decide)]
 unfold boundAndCalled
 repeat (first | (with_reducible refine wpAny_call ?_) | lk)
 exact codeAny_call_builtin PySem.F.excAttr_ValueError.ga.plain PySem.F.entry_bexc_ga (Aw X F hx hc (Au X F hx hc (handed_on rfl q)))
def Av {s:Shared}{Q:Option Value->Shared->Prop}(X:K.In s.heap)(F:As K C)(hx:s.heap.get? x=some o)(hc:o.cls=.ref C)(q:Q (some (.ref C)) {s with toks:=s.toks+1}):wpAny (model prog w) A (getAttr? (.ref x) "__class__") Q E s:=by
 obtain⟨h,g,d,t,os⟩:=s
 unfold getAttr? getAttrBy?
 exact XA (wpAny_mkText (XA (wpAny_attempt (tO X F hx hc (XB q)))))
def m9 (x C:Addr)(h:Heap):Prop:=∃o,h.get? x=some o/\o.cls=.ref C
def zN (F:As K C):KitX K (.ref x) (.ref C) (m9 x C) where
 ty:=λM h _ p=>by obtain⟨o,hx,hc⟩:=p;exact hc▸(Looks.ld hx).andThen .now
 it:=λM h X _=>by
  obtain⟨cd,e⟩:=Option.isSome_iff_exists.mp F.cl
  unfold clsIn at e
  split at e
  ·rename_i ho
   intro A' Q' E' s' k q
   unfold isType loadHead
   exact XA (wpAny_loadPart (k _ _ (X _ _ ho)) (XB q))
  ·cases e
 ne:=λh tp dd its n sl X htp=>by
  obtain⟨cd,e⟩:=Option.isSome_iff_exists.mp F.cl
  refine Bool.eq_false_iff.mpr λq=>?_
  obtain rfl:C=tp:=Value.ref.inj (beq_iff_eq.mp q)
  unfold clsIn at e
  split at e
  ·rename_i ho;cases (X _ _ ho).symm.trans htp
  ·cases e
 ca:=λX p q=>by obtain⟨o,hx,hc⟩:=p;exact Av X F hx hc q
end
section
variable {X:Cx}{pins:List (Addr×Obj)}{σ:St}{H:Hp}{s s':Shared}{ea:Addr}{cls:Value}
def Yt.there {P:Program}{w:World}{h:Heap}{a:Addr}{o:HO}(x:Yt P w H h a o):∃u,h.get? a=some u:=by
 cases o with
 | lst xs=>obtain⟨_,_,_,_,e⟩:=x;exact⟨_,e⟩
 | tup xs=>obtain⟨_,_,_,ob,e,_⟩:=x;exact⟨_,e⟩
 | dK kvs=>obtain⟨_,_,_,_,o,_,_,e,_⟩:=x;exact⟨_,e⟩
 | dT kvs=>obtain⟨_,_,_,_,o,_,_,e,_⟩:=x;exact⟨_,e⟩
 | set S n=>obtain⟨o,_,_,_,e,_⟩:=x;exact⟨_,e⟩
 | ins C dx fs=>obtain⟨_,_,_,e,_⟩:=x;exact⟨_,e⟩
 | own y=>exact x
 | xd fs=>obtain⟨_,⟨_,_,_,e,_⟩,_⟩:=x;exact⟨_,e⟩
 | rng lo hi=>obtain⟨_,_,_,e⟩:=x;exact⟨_,e⟩
 | frz ob u=>exact⟨_,x.1⟩
 | tbl ps=>exact⟨_,(show h.get? a=some _ from x)⟩
 | met f y=>exact⟨_,(show h.get? a=some _ from x)⟩
 | ext φ=>exact x.2.1
def Lr.take (F:Lr X pins σ H ea cls s):∃ob,ob.cls=cls/\H ea=none/\Zm X pins σ (Je H ea (.frz ob (.own ea))) s:=by
 obtain⟨s1,B,a0,I,os,bare,k,sl,fl⟩:=F
 obtain⟨f1,f2,f3,f4⟩:=id fl
 obtain⟨oe,vs,T,oT,ts,he,⟨hcls,h0⟩,hd,-⟩:=id f4
 have hfr:ea∉Rv X.stack:=λhm=>by
  obtain⟨_,o,ho,hnf⟩:=f3.mem hm
  rw[he] at ho;cases ho;exact hnf vs hd
 have hn1:s1.heap.get? ea=none:=by
  cases q:s1.heap.get? ea with
  | none=>rfl
  | some o=>have:=k ea o q hfr;rw[f2] at this;cases this
 have hH:H ea=none:=by
  cases q:H ea with
  | none=>rfl
  | some o=>obtain⟨u,e⟩:=(I.hok ea o q).there;rw[hn1] at e;cases e
 have k':∀b o,s1.heap.get? b=some o->b∉Rv X.stack->s.heap.get? b=some o:=λb o e hb=>f1 b o (k b o e hb)
 have ne:∀{b:Addr} {o:HO},H b=some o->b≠ea:=λe z=>by rw[z,hH] at e;cases e
 have u0:=Kb (H:=H) k' sl
 have ok0:=N0 I.hok I.stkFree k'
 refine⟨oe,hcls,hH,I.call' (ch:=[]) os ⟨u0.keep,u0.slot,λb o e n hb=>?_,u0.there,λb xs e=>?_,λb o u e=>?_,λb ps e=>?_⟩ (λb o e=>?_) bare (λb z=>absurd z (by simp))⟩
 ·rw[Z6 (λz=>by rw[z,hn1] at e;cases e)];exact n
 ·rw[Z6 (ne e)];exact e
 ·rw[Z6 (ne e)];exact e
 ·refine⟨#[],?_⟩
  rw[Z6 (ne e),Array.append_empty];exact e
 ·by_cases hb:b=ea
  ·subst hb
   rw[Yy] at e;cases e
   exact⟨he,_,he⟩
  ·rw[Z6 hb] at e
   refine(ok0 b o e).stay (λc u _ q=>q) (λc q=>?_) λc xs q=>?_
   ·rw[Z6 (ne q)];exact q
   ·rw[Z6 (ne q)];exact q
def Zm.gone {M:Model}{A:Around}{E:Value->Shared->Prop}{nm:Str}{pos:Pos}{Q:Unit->Shared->Prop}(I:Zm X pins σ H s)(hk:X.env.kindOf nm=some .local)
  (h:∀s',Zm X pins (List.replicate σ.length none) H s'->Q () s'):wpAny M A (do bindName X.env nm .none;unbindBehindTheSuite X.env nm pos) Q E s:=by
 obtain⟨m,hn,hl⟩:=id I.loc
 have hcls:(X.env.scope.kind==.class||(X.env.scope.kind==.module&&X.env.locals !=X.env.globals))=false:=by rw[I.ok.kind];rfl
 have cne:=I.cne
 refine wpAny_nameGoes hk hn hcls λh' m' hn' hs=>?_
 have far:∀{b:Addr} {o:Obj},X.s₀.heap.get? b=some o->h'.get? b=s.heap.get? b:=λe=>hs.2 _ (XH (XG (XD e) I.ok.above))
 refine h _ ⟨I.ok,I.os,I.bare,⟨λb o e n hb hx=>(far e).trans (I.base.keep b o e n hb hx),λb o e n hb hx=>?_,I.base.free,λb o e hx=>?_,I.base.tups,I.base.frzs,I.base.tbls⟩,⟨_,hn',λj y v' e1 e2 e3=>?_⟩,λy c e=>?_,I.free,I.freeC,λp hp=>?_,λb ob e=>?_,by rw[List.length_replicate];exact I.len⟩
 ·obtain⟨sl,e1⟩:=I.base.slot b o e n hb hx
  exact⟨sl,(far e).trans e1⟩
 ·obtain⟨o',e1⟩:=I.base.there b o e hx
  exact⟨o',(far e).trans e1⟩
 ·rw[List.getElem?_replicate] at e2
  split at e2<;>cases e2
 ·obtain⟨w',z⟩:=I.cell y c e
  exact⟨w',z.sameBut hs (cne y c e)⟩
 ·obtain⟨e,n,ne,nf,d⟩:=I.pin p hp
  exact⟨(hs.2 p.1 ne).trans e,n,ne,nf,d⟩
 ·refine(I.hok b ob e).stay (λc w' hc q=>(hs.2 c ?_).trans q) (λ_ q=>q) λ_ _ q=>q
  rintro rfl
  have hfree:=I.free
  rcases hc with rfl | hc
  ·rw[hfree] at e;cases e
  ·rw[hfree] at hc;cases hc
def nS (i:Nat)(Cl:Addr)(t:TS):TS:=λD σ H=>∀ea ob,H ea=none->ob.cls=.ref Cl->t {nx:=λ_ _=>False,rt:=D.rt,bk:=λ_ _=>False,ct:=λ_ _=>False} (σ.set i (some (.ref ea))) (Je H ea (.frz ob (.own ea)))
def rR {x nm:Str}{c:Value}{np pos:Pos}{suite:List Stmt}{b₀:Stmt}{Z9:List ExceptHandler}{t:TS}{i:Nat}{Cl:Addr}(hg:Gl X x)(hm:X.mg x=some c)(he:W.exmOne X.K (.ref Cl) c=some true)
  (hN:X.N.Nodup) (hi:X.N[i]?=some nm) (hl:X.env.scope.names.lookup nm=some .local) (hk:X.env.kindOf nm=some .local) (hs:∀ea,Lq (X.mk1 (.ref ea)) (b₀::suite) t) (hdb:(x==("__debug__":Str))=false:=by decide):HB X (.ExceptHandler (some (.Name x np)) (some nm) (b₀::suite) pos::Z9) (.ref Cl) (nS i Cl t):=by
 intro ea pins s σ H D F h
 refine wpAny_handleBy_cons (codeAny_handlers_test (Xx (X:=X.mk1 (.ref ea)) F.inv.mk1 hg hm ?_ hdb)) (by intro q;cases q)
 refine W.exm_one F.inv.kIn F.ty he _ _ _ _ (λ_ _ z=>z) ?_
 refine codeAny_handlers_suite_as (F.land λs2 F2=>?_)
 obtain⟨ob,hc,hH,I2⟩:=F2.take
 refine U2 (X:=X) I2 hN hi (.inl hk) (v:=.ref ea) rfl (λs3 I3=>?_) (.inr hl)
 refine wpAny_mono (hs ea pins s3 _ _ _ I3.mk1 (h ea ob hH hc)) (λf s4 q=>?_) λ_ _ z=>z.elim
 cases f with
 | next=>obtain⟨_,_,_,z⟩:=q;exact z.elim
 | brk=>obtain⟨_,_,_,z⟩:=q;exact z.elim
 | cont=>obtain⟨_,_,_,z⟩:=q;exact z.elim
 | ret u=>
  obtain⟨v,σ',H',I4,r,q⟩:=q
  exact(I4.unmk1 F2.inv.ok).gone hk λs5 I5=>⟨v,_,H',I5,r,q⟩
end
def v7 {X:Cx}{c:Expr}{a b:List Stmt}{tc:TT}{t u:TS}{pos:Pos}(hc:PT X c tc)(ha:Qw X a t)(hb:Qw X b u):wu X (.If c a b pos) (sv tc t u):=by
 intro pins s σ H D k I h
 refine wpAny_If (Ji (Kf k (hc pins s σ H _ I h)) λd s1 ⟨k1,H1,I1,q1⟩=>?_)
 cases d with
 | true=>exact ha pins s1 σ H1 D k1 I1 q1
 | false=>exact hb pins s1 σ H1 D k1 I1 q1
end L2
namespace WL
open PySem PySem.Spec PyProof.Rows L2
section
variable {X:Cx}{c:Expr}{a b:List Stmt}{wt:WT}{wa wb:WS}{pos:Pos}
def yo (hc:Ar X c wt)(ha:P8 X a wa)(hb:P8 X b wb):G2 X (.If c a b pos) (jr wt wa wb):=by
 obtain⟨t,p,s⟩:=hc
 obtain⟨t1,p1,s1⟩:=ha
 obtain⟨t2,p2,s2⟩:=hb
 refine⟨_,v7 p p1 p2,λF H C σ τ D D' R S h d=>?_⟩
 refine s F H C σ τ _ _ D'.xc R S h λk H1 C1 R1 t1 h1=>?_
 cases k with
 | true=>exact s1 F H1 C1 σ τ D D' R1 (S.tx t1) h1 (d.at t1)
 | false=>exact s2 F H1 C1 σ τ D D' R1 (S.tx t1) h1 (d.at t1)
end
def Gh (tab:List (Str×Bool))(a:WE):WE:=λτ C Q χ=>a τ C (λy C1=>∃p cn b,y=.ref p/\C1 p=some (.exc cn)/\tab.lookup cn=some b/\Q (.bl b) C1) χ
def qV (K:W.Frag)(c:Value)(tab:List (Str×Bool)):Prop:=∀cn b,tab.lookup cn=some b->∀Cl,W.nsIn K mainGlobals cn=some (some (.ref Cl))->As K Cl/\W.kitOne K (.ref Cl) c=some b
def yN (K:W.Frag)(mg:Str->Option Value)(x:Str)(tab:List (Str×Bool)):Prop:=(∃D,mg x=some (.ref D)/\qV K (.ref D) tab)\/∃n,mg x=none/\bootBuiltins x=some (.type n)/\qV K (.type n) tab
section
variable {X:Cx}{a:Expr}{wa:WE}{p pos:Pos}{tab:List (Str×Bool)}
def So {x:Str}{q2:Pos}(hg:Gl X "isinstance")(hm:X.mg "isinstance"=none)(hgx:Gl X x)(hx:yN X.K X.mg x tab)(ha:Jw X a wa)
  (hnx:x≠"__name__":=by decide) (hdx:(x==("__debug__":Str))=false:=by decide) (he:starEach [a,.Name x q2] X.env=[(false,eval a X.env),(false,eval (.Name x q2) X.env)]:=by rfl):Jw X (.Call (.Name "isinstance" p) [a,.Name x q2] [] pos) (Gh tab wa):=by
 obtain⟨ta,p1,s1⟩:=ha
 obtain⟨v,c,hn,rv,un,ht⟩:∃v c,PE X (.Name x q2) (tC v)/\Z3 v c/\(∀u,Z3 v u->u=c)/\qV X.K c tab:=by
  rcases hx with⟨D,h1,h2⟩ | ⟨n,h1,h2,h3⟩
  ·exact⟨.ref D,.ref D,Dm hgx h1 rfl hdx,rfl,λ_ z=>z,h2⟩
  ·exact⟨.ty n,.type n,Kp hgx h1 h2 rfl hnx hdx,rfl,λ_ z=>z,h3⟩
 let r:List V->Hp->VK->Prop:=λxs H Q=>∃y Cl ob u b,xs=[.ref y,v]/\H y=some (.frz ob u)/\ob.cls=.ref Cl/\As X.K Cl/\W.kitOne X.K (.ref Cl) c=some b/\Q (.bl b) H
 have hr:Xb X (.builtin "isinstance") r:=by
  intro pins s σ H xs us Q I rs h
  obtain⟨y,Cl,ob,u0,b,rfl,hy,hc,F,hk,q⟩:=h
  obtain⟨u,u2,rfl,ru,ru2⟩:=rs.two
  cases ru
  rw[un _ ru2]
  exact W.kia_one (zN F) I.kIn ⟨ob,(I.hok y _ hy).1,hc⟩ hk (λz=>nomatch z) λtk=>⟨.bl b,H,I.tok tk,rfl,q⟩
 refine⟨_,Td hr hg hm Vg (Wf p1 (Wf hn Pn (by rw[show starEach [Expr.Name x q2] X.env=[(false,eval (.Name x q2) X.env)] from rfl];rfl)) ?_) (by decide) (by decide) ?_ ?_,?_⟩
 ·rw[he];rfl
 ·rw[he];rfl
 ·rfl
 ·intro F H C σ τ Q Q' χ R S h q
  refine s1 F H C σ τ _ _ χ R S h λy v H1 C1 R1 t1 ry h1=>?_
  obtain⟨p,cn,b,rfl,hp,hb,h1⟩:=h1
  cases Yl ry
  obtain⟨Cl,ob,u,hn,hc,hH⟩:=(show Ox X.K H1 p (.exc cn) from R1.obj p _ hp)
  obtain⟨F1,k1⟩:=ht cn b hb Cl hn
  exact⟨p,Cl,ob,u,b,rfl,hH,hc,F1,k1,q _ _ H1 C1 R1 t1 Jb h1⟩
end
def nW (i:Nat)(cn:Str)(w:WS):WS:=λD τ C=>∀ea,C ea=none->w {nx:=λ_ _=>False,rt:=D.rt,bk:=λ_ _=>False,ct:=λ_ _=>False,xc:=D.xc} (τ.set i (some (.ref ea))) (up C ea (.exc cn))
section
variable {X:Cx}{x nm cn:Str}{c:Value}{Cl:Addr}{np pos:Pos}{suite:List Stmt}{b₀:Stmt}{Z9:List ExceptHandler}{wh:WS}{i:Nat}
def qa (hg:Gl X x)(hm:X.mg x=some c)(he:W.exmOne X.K (.ref Cl) c=some true)(hcn:W.nsIn X.K mainGlobals cn=some (some (.ref Cl)))(hN:X.N.Nodup)(hs:∀e,Lp (X.mk1 e) (b₀::suite) wh)
  (hi:X.N[i]?=some nm:=by rfl) (hl:X.env.scope.names.lookup nm=some .local:=by rfl) (hk:X.env.kindOf nm=some .local:=by rfl) (hdb:(x==("__debug__":Str))=false:=by decide):qP X (.ExceptHandler (some (.Name x np)) (some nm) (b₀::suite) pos::Z9) (.ref Cl) (nW i cn wh):=by
 refine⟨_,rR (t:=λD σ H=>∀e,∃t,Lq (X.mk1 e) (b₀::suite) t/\t D σ H) hg hm he hN hi hl hk (λea pins s σ H D I h=>?_) hdb,λF H C σ τ D D' R S h d ea ob hH hc e=>?_⟩
 ·obtain⟨t,p,q⟩:=h (.ref ea)
  exact p pins s σ H D I q
 ·obtain⟨t,p,sm⟩:=hs e
  have tx:Tx H (Je H ea (.frz ob (.own ea))):=Tx.new hH
  refine⟨t,p,sm F _ _ _ _ _ _ (R.new hH (show Ox X.K (Je H ea (.frz ob (.own ea))) ea (.exc cn) from⟨Cl,ob,_,hcn,hc,Yy⟩)) ((S.tx tx).set Xw) (h ea (R.free hH)) ⟨λ_ _ _ _ _ _ _ z=>z.elim,(d.at tx).rt,λ_ _ _ _ _ _ _ z=>z.elim,λ_ _ _ _ _ _ _ z=>z.elim⟩⟩
end
def Yr {K:W.Frag}{c:Value}{cn:Str}{b:Bool}{Cl:Addr}(a:W.nsIn K mainGlobals cn=some (some (.ref Cl)))(F:As K Cl)(k:W.kitOne K (.ref Cl) c=some b):qV K c [(cn,b)]:=λn b' e D hD=>by
 rw[List.lookup_cons] at e
 cases q:(n==cn) with
 | false=>rw[q] at e;cases e
 | true=>
  rw[q] at e;cases e
  rw[eq_of_beq q,a] at hD
  cases hD
  exact⟨F,k⟩
def qD (x:T)(C:Hw)(n:String):Prop:=tE x C n\/∃a kvs,x=.ref a/\C a=some (.fdic kvs)/\n="dict"
def rX (a:WE)(c:String):WE:=λτ C Q χ=>a τ C (λx C1=>∃n,qD x C1 n/\Q (.bl (Qk n c)) C1) χ
section
variable {X:Cx}{a:Expr}{wa:WE}{p pos:Pos}
def jQ {pins:List (Addr×Obj)}{σ:L2.St}{F H:Hp}{C:Hw}{s:Shared}{x:V}{v:T}{u:Value}{n c:String}{Q:Value->Shared->Prop}(I:Zm X pins σ H s)(R:Rl X.K F H C)(rx:Jg X.K H x v)(ru:Z3 x u)(hn:qD v C n)(hc:c∈["bool","int","str","tuple","list","dict"])
  (h:∀tk,Q (.bool (Qk n c)) {s with toks:=tk}):wpAny (model X.prog X.w) X.A (call (.builtin "isinstance") [u,.type c]) Q X.xe s:=by
 rcases hn with hn | ⟨d,kvs,rfl,hd,rfl⟩
 ·exact zP I R rx ru hn hc h
 ·cases Yl rx
  cases (show u=Value.ref d from ru)
  have e:=Dv (K:=X.K) (n:="dict") (by decide) hc
  obtain⟨ks,hr,_⟩:=(show ∃ks,Rd H d (.dK ks)/\PR X.K H ks kvs from R.obj d _ hd)
  have:∃o,s.heap.get? d=some o/\o.cls=.type "dict":=by
   rcases hr with hr | ⟨o,hr⟩
   ·obtain⟨_,_,vs,_,o,es,ep,h1,h2,_⟩:=(show Yt X.prog X.w H s.heap d (.dK ks) from I.hok d _ hr)
    exact⟨o,h1,h2.1⟩
   ·obtain⟨_,_,_,vs,_,o',es,ep,h1,h2,_⟩:=(show Yt X.prog X.w H s.heap d (.frz o (.dK ks)) from I.hok d _ hr)
    exact⟨o',h1,h2.1⟩
  exact W.kia_one W.kitx_dict I.kIn this e (λz=>nomatch z) h
def uJ {x:Str}{q2:Pos}{c:String}(hg:Gl X "isinstance")(hm:X.mg "isinstance"=none)(hgx:Gl X x)(hmx:X.mg x=none)(hvx:bootBuiltins x=some (.type c))(hc:c∈["bool","int","str","tuple","list","dict"])(ha:Jw X a wa)
  (hnx:x≠"__name__":=by decide) (hdx:(x==("__debug__":Str))=false:=by decide) (he:starEach [a,.Name x q2] X.env=[(false,eval a X.env),(false,eval (.Name x q2) X.env)]:=by rfl):Jw X (.Call (.Name "isinstance" p) [a,.Name x q2] [] pos) (rX wa c):=by
 obtain⟨ta,p1,s1⟩:=ha
 let r:List V->Hp->VK->Prop:=λxs H Q=>∃y F C v n,xs=[y,.ty c]/\Rl X.K F H C/\Jg X.K H y v/\qD v C n/\Q (.bl (Qk n c)) H
 have hr:Xb X (.builtin "isinstance") r:=by
  intro pins s σ H xs us Q I rs h
  obtain⟨y,F,C,v,n,rfl,R,ry,hn,q⟩:=h
  obtain⟨u,u2,rfl,ru,ru2⟩:=rs.two
  cases ru2
  exact jQ I R ry ru hn hc λtk=>⟨.bl _,H,I.tok tk,rfl,q⟩
 refine⟨_,Td hr hg hm Vg (Wf p1 (Wf (Kp (v:=.ty c) hgx hmx hvx rfl hnx hdx) Pn (by rw[show starEach [Expr.Name x q2] X.env=[(false,eval (.Name x q2) X.env)] from rfl];rfl)) ?_) (by decide) (by decide) ?_ ?_,?_⟩
 ·rw[he];rfl
 ·rw[he];rfl
 ·rfl
 ·intro F H C σ τ Q Q' χ R S h q
  refine s1 F H C σ τ _ _ χ R S h λy v H1 C1 R1 t1 ry h1=>?_
  obtain⟨n,hn,h1⟩:=h1
  exact⟨y,F,C1,v,n,rfl,R1,ry,hn,q _ _ H1 C1 R1 t1 Jb h1⟩
end
section
variable {X:Cx}{st:Stmt}{e:Expr}{wA:WA}{k i j:Nat}{pr:List Df}{P:Calls}
def nv (hP:Xo pr k=P)(h:Mi X e (Jp (Xo pr k) i wA)):Mi X e (Jp P i wA):=hP▸h
def sP (hP:Xo pr k=P)(h:xz X st (W1 (Jp (Xo pr k) i wA) (T5 j))):xz X st (W1 (Jp P i wA) (T5 j)):=hP▸h
end
end WL
namespace K18
open PySem PySem.Spec PyProof.Rows L2 WL
def g_FIGURES:T:=.str "0123456789"
def g_LETTERS:T:=.str "abcdefghijklmnopqrstuvwxyz"
def g_WORDS:T:=.tup [.str "fun",.str "let",.str "choose",.str "first",.str "stop",.str "rows",.str "in",.str "when",.str "be"]
def g_OPS:T:=.tup [.str "+",.str "-",.str "*",.str "<",.str "="]
def g_SHAPES:List (Str×Int):=[("Nil",0),("Cons",2),("No",0),("Yes",0),("Pair",2)]
def g_MOST_FIGURES:T:=.int 18
def g_MOST_PAIRS:T:=.int 5
def g_FAMILIES:T:=.tup [.tup [.str "Nil",.str "Cons"],.tup [.str "No",.str "Yes"],.tup [.str "Pair"]]
def top (i:Nat):Stmt:=PySem.Challenge.pw_idlegraph_k18_bad_words.main.body.getD i (.Pass ⟨0,0,0,0⟩)
structure Txt (w:World)(K:W.Frag)(mg:Str->Option Value):Prop where
 zal:mg "all"=none
 zap:mg "int"=none
 zaa:mg "isinstance"=none
 zab:mg "len"=none
 zan:mg "max"=none
 zae:mg "range"=none
 zam:mg "reversed"=none
 zao:mg "set"=none
 zac:mg "str"=none
 zad:mg "tuple"=none
 g_FIGURES:ww K mg "FIGURES" g_FIGURES
 g_LETTERS:ww K mg "LETTERS" g_LETTERS
 g_WORDS:ww K mg "WORDS" g_WORDS
 g_OPS:ww K mg "OPS" g_OPS
 g_SHAPES:oJ w K mg "SHAPES" g_SHAPES
 g_MOST_FIGURES:ww K mg "MOST_FIGURES" g_MOST_FIGURES
 g_MOST_PAIRS:ww K mg "MOST_PAIRS" g_MOST_PAIRS
 g_FAMILIES:ww K mg "FAMILIES" g_FAMILIES
structure yU (Pg:Program)(w:World)(K:W.Frag)(mg:Str->Option Value)(base:Heap)(n:Nat)(P:Calls)(E1:XK)(CN:Addr):Prop where
 x_NoText:qs K mg "NoText" CN
 e_NoText:∀C' Q χ H,P 26 [] C' Q χ->E1 (.ref CN) none H
 zag:Ca Pg w K mg base n "is_name" ["text"] (Ba K P 0)
 k_read:At Pg w K mg base (X8 Pg w) n "read" ["text"] (Ot K P E1 1)
 k_words_of:wz Pg w K mg base n "words_of" ["text"] (Ba K P 2)
 k_tree_of:Mn Pg w K mg base n "tree_of" ["words"] (Ot K P E1 3)
 k_term_of:Mn Pg w K mg base n "term_of" ["tree"] (Ot K P E1 4)
 k_word_term:Mn Pg w K mg base n "word_term" ["word"] (Ot K P E1 5)
 zak:Ca Pg w K mg base n "is_number" ["word"] (Ba K P 6)
 k_two_terms:Mn Pg w K mg base n "two_terms" ["trees"] (Ot K P E1 7)
 k_fun_term:Mn Pg w K mg base n "fun_term" ["trees"] (Ot K P E1 8)
 k_call_term:Mn Pg w K mg base n "call_term" ["trees"] (Ot K P E1 9)
 k_let_term:Mn Pg w K mg base n "let_term" ["trees"] (Ot K P E1 10)
 k_pair_of:Mn Pg w K mg base n "pair_of" ["tree"] (Ot K P E1 11)
 k_choose_term:Mn Pg w K mg base n "choose_term" ["trees"] (Ot K P E1 12)
 k_alternative_of:Mn Pg w K mg base n "alternative_of" ["tree"] (Ot K P E1 13)
 k_stop_term:Mn Pg w K mg base n "stop_term" ["trees"] (Ot K P E1 14)
 k_rows_term:Mn Pg w K mg base n "rows_term" ["trees"] (Ot K P E1 15)
 k_step_of:Mn Pg w K mg base n "step_of" ["tree"] (Ot K P E1 16)
 k_items_of:Mn Pg w K mg base n "items_of" ["tree"] (Ot K P E1 17)
 k_name_of:Mn Pg w K mg base n "name_of" ["tree"] (Ot K P E1 18)
 k_refuse_alike:Mn Pg w K mg base n "refuse_alike" ["names"] (Ot K P E1 19)
structure Cs (Pg:Program)(w:World)(K:W.Frag)(mg:Str->Option Value)(base:Heap)(n:Nat)(pr:List Df)(CN:Addr):Prop where
 x_NoText:qs K mg "NoText" CN
 q_NoText:W.exmOne K (.ref CN) (.ref CN)=some true
 n_NoText:W.nsIn K mainGlobals "NoText"=some (some (.ref CN))
 h_IdleError:∃c,mg "IdleError"=some c/\W.exmOne K (.ref CN) c=some true
 i_NoKind:yN K mg "NoKind" [("NoText",false)]
 i_NoName:yN K mg "NoName" [("NoText",false)]
 i_NoRow:yN K mg "NoRow" [("NoText",false)]
 i_NoText:yN K mg "NoText" [("NoText",true)]
 i_NoThing:yN K mg "NoThing" [("NoText",false)]
 i_Ring:yN K mg "Ring" [("NoText",false)]
 i_Spent:yN K mg "Spent" [("NoText",false)]
 i_Stopped:yN K mg "Stopped" [("NoText",false)]
 i_Unbound:yN K mg "Unbound" [("NoText",false)]
 i_ValueError:yN K mg "ValueError" [("NoText",true)]
 zas:Ca Pg w K mg base n "is_name" ["text"] (spW K pr n 0)
 t0_read:At Pg w K mg base (X8 Pg w) n "read" ["text"] (sB K pr (λ_ _ _=>False) n 1)
 t1_read:At Pg w K mg base (X8 Pg w) n "read" ["text"] (sB K pr (Er [(CN,True)]) n 28)
 zaq:Ca Pg w K mg base n "is_number" ["word"] (spW K pr n 6)
 zai:Ca Pg w K mg base n "_law_draws" ["_law_script","_law_many"] (spW K pr n 20)
 zaj:Ca Pg w K mg base n "_law_round" ["_law_words","_law_cell"] (spW K pr n 21)
 zaf:Ca Pg w K mg base n "_law_bad" ["_law_cell"] (spW K pr n 22)
 zah:Ca Pg w K mg base n "_law_spoilt" ["_law_words","_law_way","_law_place","_law_cell"] (spW K pr n 23)
 c__law_refused:wz Pg w K mg base n "_law_refused" ["_law_text"] (spW K pr n 24)
 zar:Ca Pg w K mg base n "law" ["_law_script"] (spW K pr n 25)
def Ui (j:Nat)(st:Stmt)(N:List Str)(q:Str)(Wx:Calls->WS):Prop:=∀{Pg:Program} {w:World} {K:W.Frag} {mg:Str->Option Value} {base:Heap} {n:Nat} {P:Calls} {f:Addr} {cdv:Value} {A:Around} {outer:List Env} {s:Shared} {H:Hp} {CN:Addr} {E1:XK},Txt w K mg->yU Pg w K mg base n P E1 CN->
 Y2 n (A.deeper (envOfC q (Zf st) s.heap.objs.size f cdv))->Lp (Yx (X8 Pg w) Pg w K mg base N q (Zf st) f cdv A outer s H E1) ((Yn st).drop j) (Wx P)
def n5 (j:Nat)(st:Stmt)(N:List Str)(q:Str)(Wx:Calls->WS):Prop:=∀{Pg:Program} {w:World} {K:W.Frag} {mg:Str->Option Value} {base:Heap} {n:Nat} {P:Calls} {f:Addr} {cdv:Value} {A:Around} {outer:List Env} {s:Shared} {H:Hp} {CN:Addr} {E1:XK},Txt w K mg->yU Pg w K mg base n P E1 CN->
 Y2 n (A.deeper (envOfC q (Zf st) s.heap.objs.size f cdv))->P8 (Yx (X8 Pg w) Pg w K mg base N q (Zf st) f cdv A outer s H E1) ((Yn st).drop j) (Wx P)
def o9 (j:Nat)(st:Stmt)(N:List Str)(q:Str)(Wx:Calls->WS):Prop:=∀{Pg:Program} {w:World} {K:W.Frag} {mg:Str->Option Value} {base:Heap} {n:Nat} {P:Calls} {f:Addr} {cdv:Value} {A:Around} {outer:List Env} {s:Shared} {H:Hp} {CN:Addr} {E1 E:XK},Txt w K mg->yU Pg w K mg base n P E1 CN->
 Y2 n (A.deeper (envOfC q (Zf st) s.heap.objs.size f cdv))->Lp (Yx CX0 Pg w K mg base N q (Zf st) f cdv A outer s H E).nox ((Yn st).drop j) (Wx P)
def n0 (j:Nat)(st:Stmt)(N:List Str)(q:Str)(Wx:Calls->WS):Prop:=∀{Pg:Program} {w:World} {K:W.Frag} {mg:Str->Option Value} {base:Heap} {n:Nat} {P:Calls} {f:Addr} {cdv:Value} {A:Around} {outer:List Env} {s:Shared} {H:Hp} {CN:Addr} {E1 E:XK},Txt w K mg->yU Pg w K mg base n P E1 CN->
 Y2 n (A.deeper (envOfC q (Zf st) s.heap.objs.size f cdv))->P8 (Yx CX0 Pg w K mg base N q (Zf st) f cdv A outer s H E).nox ((Yn st).drop j) (Wx P)
def SX (j:Nat)(st:Stmt)(N:List Str)(q:Str)(Wx:Calls->WS):Prop:=∀{Pg:Program} {w:World} {K:W.Frag} {mg:Str->Option Value} {base:Heap} {n:Nat} {P:Calls} {f:Addr} {cdv:Value} {A:Around} {outer:List Env} {s:Shared} {H:Hp} {CN:Addr} {pr:List Df} {E:XK},Xo pr n=P->Txt w K mg->Cs Pg w K mg base n pr CN->
 Y2 n (A.deeper (envOfC q (Zf st) s.heap.objs.size f cdv))->Lp (Yx CX0 Pg w K mg base N q (Zf st) f cdv A outer s H E).nox ((Yn st).drop j) (Wx P)
def n9 (j:Nat)(st:Stmt)(N:List Str)(q:Str)(Wx:Calls->WS):Prop:=∀{Pg:Program} {w:World} {K:W.Frag} {mg:Str->Option Value} {base:Heap} {n:Nat} {P:Calls} {f:Addr} {cdv:Value} {A:Around} {outer:List Env} {s:Shared} {H:Hp} {CN:Addr} {pr:List Df} {E:XK},Xo pr n=P->Txt w K mg->Cs Pg w K mg base n pr CN->
 Y2 n (A.deeper (envOfC q (Zf st) s.heap.objs.size f cdv))->P8 (Yx CX0 Pg w K mg base N q (Zf st) f cdv A outer s H E).nox ((Yn st).drop j) (Wx P)
local macro_rules | `(tactic| walk_at "sc") => `(tactic| exact ⟨rfl, rfl, rfl, by decide +kernel, rfl, by decide +kernel, by decide +kernel⟩)
abbrev Rb:Stmt:=top 18
def Nn:Zp ["text"] ["text"] (Zf Rb):=by walk_at "sc"
def Oe:{W//o9 0 Rb ["text"] "is_name" W}:=⟨_,λT S hr=>by
  have hu:=Yf hr
  exact(Zg (Zr (Th (W6 (Zk Br (Xe Jf (by rfl) T.zab PySem.boot_len (Za (Zb 0) Zc)) Zh) (X6 (Zk Ks (Xe Jf (by rfl) T.zab PySem.boot_len (Za (Zb 0) Zc)) Zh)))) (Zi (Zl N8)) Zn)
   (Zg (Zr (Th (W6 (Zk (Qi hu) (Yw (Zb 0) Zh) (K9 (by rfl) T.g_LETTERS) (by rfl)) (X6 (Zk (Bs hu) (Zb 0) (K9 (by rfl) T.g_WORDS) (by rfl))))) (Zi (Zl N8)) Zn)
   (Zi (Zl (Xe (wn rfl) (by rfl) T.zal yB (Za (N7 (cN:=["sign"]) (cap:=[none]) (cl:=[]) (js:=[0]) (g:=(J8 0)) ⟨rfl,(λ_=>Wh rfl (by decide+kernel) (by decide+kernel) rfl (by decide)),(X7 (Zb 0)),(λ_ _ _=>Jn (i:=0) (show(["sign"]:List Str).Nodup by decide+kernel) rfl (Or.inl rfl)),Yd,Ju,Y3,by decide+kernel,λ_ _ _=>W7,λ_ _ _=>(ou (y6 (Bs hu) (Zb 0) (K9 (by rfl) T.g_LETTERS) (by rfl)) (wf (y6 (Bs hu) (Zb 0) (K9 (by rfl) T.g_FIGURES) (by rfl)))),λ_=>rfl⟩) Zc))))))⟩
abbrev Kg:Stmt:=top 22
def E9:Zp ["text"] ["text"] (Zf Kg):=by walk_at "sc"
def En:{W//n5 0 Kg ["text"] "read" W}:=⟨_,λT S hr=>by
  exact(Ja (Mh.one (Zr (K4 (J6 (uJ (by rfl) T.zaa (by rfl) T.zac Tl (by decide) (Zb 0)))) (Zi (Zz (i:=26) Jd rfl S.x_NoText S.e_NoText (by rfl) (Za Ze Zc))) Zn))
   (T8 (K5 (Gn (by first | exact Yi | exact Yj rfl rfl) (Mn.tk S.k_term_of) hr (by rfl) (Gk (Gn (by first | exact Yi | exact Yj rfl rfl) (Mn.tk S.k_tree_of) hr (by rfl) (Gk (y7 S.k_words_of hr (by rfl) (Mj.one (Za (Zb 0) Zc))) Zc)) Zc)))))⟩
abbrev U3:Stmt:=top 23
def U8:Zp ["text","apart"] ["text"] (Zf U3):=by walk_at "sc"
def Ud:{W//n0 0 U3 ["text","apart"] "words_of" W}:=⟨_,λT S hr=>by
  have nd:=U8.nd
  have hu:=Yf hr
  exact(Ja (xi (i:=1) nd (Rm (Rm (Rm (Jw.one (Zb 0)) (by decide+kernel) (by decide+kernel)) (by decide+kernel) (by decide+kernel)) (by decide+kernel) (by decide+kernel)))
   (T8 (Mh.one (Zl (N7 (cN:=["word"]) (cap:=[none]) (cl:=[]) (js:=[0]) (g:=(J8 0)) ⟨rfl,(λ_=>Wh rfl (by decide+kernel) (by decide+kernel) rfl (by decide)),(X7 (yz PySem.F.plainAttrs_str PySem.F.slot_str_split PySem.F.type_str_split wG jK (Zb 1) (Za Ze Zc))),(λ_ _ _=>Jn (i:=0) (show(["word"]:List Str).Nodup by decide+kernel) rfl (Or.inl rfl)),Yd,Ju,Y3,by decide+kernel,λ_ _ _=>(K6 (Zk (Mr hu) (Zb 0) Ze)),λ_ _ _=>(Zb 0),λ_=>rfl⟩)))))⟩
abbrev Xr:Stmt:=top 24
def Re:Zp ["words","pile","word","inner"] ["words"] (Zf Xr):=by walk_at "sc"
def Wm:{W//Ui 4 Xr ["words","pile","word","inner"] "tree_of" W}:=⟨_,λT S hr=>by
  exact(Zi (Zl (Yw (Yw (Zb 1) Zh) Zh)))⟩
def Wl:{W//Ui 3 Xr ["words","pile","word","inner"] "tree_of" W}:=⟨_,λT S hr=>by
  have hu:=Yf hr
  exact(Zg (Zr (Zk (Mr hu) (Xe Jf (by rfl) T.zab PySem.boot_len (Za (Yw (Zb 1) Zh) Zc)) Zh) (Zi (Zz (i:=26) Jd rfl S.x_NoText S.e_NoText (by rfl) (Za Ze Zc))) Zn)
   (Wm.2 T S hr))⟩
def Wj:{W//Ui 2 Xr ["words","pile","word","inner"] "tree_of" W}:=⟨_,λT S hr=>by
  exact(Zg (Zr (Zk Ks (Xe Jf (by rfl) T.zab PySem.boot_len (Za (Zb 1) Zc)) Zh) (Zi (Zz (i:=26) Jd rfl S.x_NoText S.e_NoText (by rfl) (Za Ze Zc))) Zn)
   (Wl.2 T S hr))⟩
def Se:{W//Ui 0 Xr ["words","pile","word","inner"] "tree_of" W}:=⟨_,λT S hr=>by
  have nd:=Re.nd
  have hu:=Yf hr
  exact(Zg (Z0 (i:=1) nd (Yg (Za (Yg Zc) Zc)))
   (Zg (P4 PassesOwn.leaving rfl (X7 (Zb 0)) (T7 (i:=2) nd)
   (Zi (Zr (Zk (Jx hu) (Zb 2) Ze) (Zi (T6 (yz XZ YB YA Rz Qj (Zb 1) (Za (Yg Zc) Zc)))) (Zi (Zr (Zk (Mr hu) (Zb 2) Ze) (Zi (T6 (yz XZ YB YA Rz Qj (Yw (Zb 1) (Qs Zh)) (Za (Zb 2) Zc)))) (Zi (Zr (Zk Ks (Xe Jf (by rfl) T.zab PySem.boot_len (Za (Zb 1) Zc)) Zh) (Zg (Z0 (i:=3) nd (qc XZ PySem.F.slot_list_pop PySem.F.type_list_pop Rz rB (Zb 1)))
   (Zi (T6 (yz XZ YB YA Rz Qj (Yw (Zb 1) (Qs Zh)) (Za (Zb 3) Zc))))) (Zi (Zz (i:=26) Jd rfl S.x_NoText S.e_NoText (by rfl) (Za Ze Zc))))))))))
   (Wj.2 T S hr)))⟩
abbrev Yk:Stmt:=top 25
def Rf:Zp ["tree","head","rest"] ["tree"] (Zf Yk):=by walk_at "sc"
def Q6:{W//Ui 12 Yk ["tree","head","rest"] "term_of" W}:=⟨_,λT S hr=>by
  exact(Zi (Zl (Zs (by first | exact Yi | exact Yj rfl rfl) S.k_call_term hr (by rfl) (Za (Zb 0) Zc))))⟩
def Q5:{W//Ui 11 Yk ["tree","head","rest"] "term_of" W}:=⟨_,λT S hr=>by
  have hu:=Yf hr
  exact(Zg (Zr (Th (W6 (Zk (Jx hu) (Zb 1) Ze) (X6 (Zk (Jx hu) (Zb 1) Ze)))) (Zi (Zl (Xl (Za Ze (Za (Zb 1) (Za (Zs (by first | exact Yi | exact Yj rfl rfl) S.k_two_terms hr (by rfl) (Za (Zb 2) Zc)) Zc)))))) Zn)
   (Q6.2 T S hr))⟩
def Q4:{W//Ui 10 Yk ["tree","head","rest"] "term_of" W}:=⟨_,λT S hr=>by
  have hu:=Yf hr
  exact(Zg (Zr (Zk (Jx hu) (Zb 1) Ze) (Zi (Zl (Zs (by first | exact Yi | exact Yj rfl rfl) S.k_rows_term hr (by rfl) (Za (Zb 2) Zc)))) Zn)
   (Q5.2 T S hr))⟩
def Q3:{W//Ui 9 Yk ["tree","head","rest"] "term_of" W}:=⟨_,λT S hr=>by
  have hu:=Yf hr
  exact(Zg (Zr (Zk (Jx hu) (Zb 1) Ze) (Zi (Zl (Zs (by first | exact Yi | exact Yj rfl rfl) S.k_stop_term hr (by rfl) (Za (Zb 2) Zc)))) Zn)
   (Q4.2 T S hr))⟩
def Q2:{W//Ui 8 Yk ["tree","head","rest"] "term_of" W}:=⟨_,λT S hr=>by
  have hu:=Yf hr
  exact(Zg (Zr (Zk (Jx hu) (Zb 1) Ze) (Zi (Zl (Zv Yc (Xl (Za Ze Zc)) (Zs (by first | exact Yi | exact Yj rfl rfl) S.k_two_terms hr (by rfl) (Za (Zb 2) Zc))))) Zn)
   (Q3.2 T S hr))⟩
def Q1:{W//Ui 7 Yk ["tree","head","rest"] "term_of" W}:=⟨_,λT S hr=>by
  have hu:=Yf hr
  exact(Zg (Zr (Zk (Jx hu) (Zb 1) Ze) (Zi (Zl (Zs (by first | exact Yi | exact Yj rfl rfl) S.k_choose_term hr (by rfl) (Za (Zb 2) Zc)))) Zn)
   (Q2.2 T S hr))⟩
def Q0:{W//Ui 6 Yk ["tree","head","rest"] "term_of" W}:=⟨_,λT S hr=>by
  have hu:=Yf hr
  exact(Zg (Zr (Zk (Jx hu) (Zb 1) Ze) (Zi (Zl (Zs (by first | exact Yi | exact Yj rfl rfl) S.k_let_term hr (by rfl) (Za (Zb 2) Zc)))) Zn)
   (Q1.2 T S hr))⟩
def Qz:{W//Ui 5 Yk ["tree","head","rest"] "term_of" W}:=⟨_,λT S hr=>by
  have hu:=Yf hr
  exact(Zg (Zr (Zk (Jx hu) (Zb 1) Ze) (Zi (Zl (Zs (by first | exact Yi | exact Yj rfl rfl) S.k_fun_term hr (by rfl) (Za (Zb 2) Zc)))) Zn)
   (Q0.2 T S hr))⟩
def Qy:{W//Ui 2 Yk ["tree","head","rest"] "term_of" W}:=⟨_,λT S hr=>by
  have nd:=Rf.nd
  have hu:=Yf hr
  exact(Zg (Z0 (i:=1) nd (Yw (Zb 0) Zh))
   (Zg (Z0 (i:=2) nd (Rk (Zb 0) (Jh Zh) Jv))
   (Zg (Zr (Zk (rp hu) (Zb 1) (K9 (by rfl) T.g_OPS) (by rfl)) (Zi (Zl (Zv Yc (Xl (Za Ze (Za (Zb 1) Zc))) (Zs (by first | exact Yi | exact Yj rfl rfl) S.k_two_terms hr (by rfl) (Za (Zb 2) Zc))))) Zn)
   (Qz.2 T S hr))))⟩
def Ss:{W//Ui 1 Yk ["tree","head","rest"] "term_of" W}:=⟨_,λT S hr=>by
  have hu:=Yf hr
  exact(Zg (Zr (Zk (Jx hu) (Zb 0) (Yg Zc)) (Zi (Zz (i:=26) Jd rfl S.x_NoText S.e_NoText (by rfl) (Za Ze Zc))) Zn)
   (Qy.2 T S hr))⟩
def Oa:{W//Ui 0 Yk ["tree","head","rest"] "term_of" W}:=⟨_,λT S hr=>by
  exact(Zg (Zr (J6 (D4 (by rfl) T.zaa (by rfl) T.zac Tl (by decide) (Zb 0))) (Zi (Zl (Zs (by first | exact Yi | exact Yj rfl rfl) S.k_word_term hr (by rfl) (Za (Zb 0) Zc)))) Zn)
   (Ss.2 T S hr))⟩
abbrev J1:Stmt:=top 26
def Qa:Zp ["word"] ["word"] (Zf J1):=by walk_at "sc"
def Tq:{W//Ui 3 J1 ["word"] "word_term" W}:=⟨_,λT S hr=>by
  exact(Zi (Zz (i:=26) Jd rfl S.x_NoText S.e_NoText (by rfl) (Za (Gm (O5 (qd (Zb 0)) (O5 Ze yq))) Zc)))⟩
def Tp:{W//Ui 2 J1 ["word"] "word_term" W}:=⟨_,λT S hr=>by
  have hu:=Yf hr
  exact(Zg (Zr (Zk (Jx hu) (D5 (by rfl) T.g_SHAPES (Zb 0) ⟨rfl,rfl,rfl,rfl⟩) Zh) (Zi (Zl (Xl (Za Ze (Za (Zb 0) (Za (Xl Zc) Zc)))))) Zn)
   (Tq.2 T S hr))⟩
def To:{W//Ui 1 J1 ["word"] "word_term" W}:=⟨_,λT S hr=>by
  exact(Zg (Zr (J6 (Ia S.zak hr (by rfl) (Za (Zb 0) Zc))) (Zi (Zl (Xl (Za Ze (Za (K8 uQ (by rfl) T.zap uO (Za (Zb 0) Zc)) Zc))))) Zn)
   (Tp.2 T S hr))⟩
def Ts:{W//Ui 0 J1 ["word"] "word_term" W}:=⟨_,λT S hr=>by
  exact(Zg (Zr (J6 (Ia S.zag hr (by rfl) (Za (Zb 0) Zc))) (Zi (Zl (Xl (Za Ze (Za (Zb 0) Zc))))) Zn)
   (To.2 T S hr))⟩
abbrev V5:Stmt:=top 27
def Qe:Zp ["word"] ["word"] (Zf V5):=by walk_at "sc"
def Tw:{W//o9 0 V5 ["word"] "is_number" W}:=⟨_,λT S hr=>by
  have hu:=Yf hr
  exact(Zg (Zr (Th (W6 (Zk Br (Xe Jf (by rfl) T.zab PySem.boot_len (Za (Zb 0) Zc)) Zh) (X6 (Zk Ks (Xe Jf (by rfl) T.zab PySem.boot_len (Za (Zb 0) Zc)) (K9 (by rfl) T.g_MOST_FIGURES))))) (Zi (Zl N8)) Zn)
   (Zg (Zr (Th (P3 (Zk (Jx hu) (Yw (Zb 0) Zh) Ze) (Qq (Zk (Mr hu) (Zb 0) Ze)))) (Zi (Zl N8)) Zn)
   (Zi (Zl (Xe (wn rfl) (by rfl) T.zal yB (Za (N7 (cN:=["sign"]) (cap:=[none]) (cl:=[]) (js:=[0]) (g:=(J8 0)) ⟨rfl,(λ_=>Wh rfl (by decide+kernel) (by decide+kernel) rfl (by decide)),(X7 (Zb 0)),(λ_ _ _=>Jn (i:=0) (show(["sign"]:List Str).Nodup by decide+kernel) rfl (Or.inl rfl)),Yd,Ju,Y3,by decide+kernel,λ_ _ _=>W7,λ_ _ _=>(y6 (Bs hu) (Zb 0) (K9 (by rfl) T.g_FIGURES) (by rfl)),λ_=>rfl⟩) Zc))))))⟩
abbrev V2:Stmt:=top 28
def Qb:Zp ["trees"] ["trees"] (Zf V2):=by walk_at "sc"
def Tt:{W//Ui 0 V2 ["trees"] "two_terms" W}:=⟨_,λT S hr=>by
  have hu:=Yf hr
  exact(Zg (Zr (Zk (Mr hu) (Xe Jf (by rfl) T.zab PySem.boot_len (Za (Zb 0) Zc)) Zh) (Zi (Zz (i:=26) Jd rfl S.x_NoText S.e_NoText (by rfl) (Za Ze Zc))) Zn)
   (Zi (Zl (Xl (Za (Zs (by first | exact Yi | exact Yj rfl rfl) S.k_term_of hr (by rfl) (Za (Yw (Zb 0) Zh) Zc)) (Za (Zs (by first | exact Yi | exact Yj rfl rfl) S.k_term_of hr (by rfl) (Za (Yw (Zb 0) Zh) Zc)) Zc))))))⟩
abbrev U5:Stmt:=top 29
def Ta:Zp ["trees","term","tree"] ["trees"] (Zf U5):=by walk_at "sc"
def Rt:{W//Ui 0 U5 ["trees","term","tree"] "fun_term" W}:=⟨_,λT S hr=>by
  have nd:=Ta.nd
  exact(Zg (Zr (Zk Br (Xe Jf (by rfl) T.zab PySem.boot_len (Za (Zb 0) Zc)) Zh) (Zi (Zz (i:=26) Jd rfl S.x_NoText S.e_NoText (by rfl) (Za Ze Zc))) Zn)
   (Zg (Z0 (i:=1) nd (Zs (by first | exact Yi | exact Yj rfl rfl) S.k_term_of hr (by rfl) (Za (Yw (Zb 0) (Qs Zh)) Zc)))
   (Zg (P4 PassesOwn.leaving rfl (uG (by rfl) T.zam (Za (Rk (Zb 0) Jv (Jh (Qs Zh))) Zc)) (T7 (i:=2) nd)
   (Zi (Z0 (i:=1) nd (Xl (Za Ze (Za (Zs (by first | exact Yi | exact Yj rfl rfl) S.k_name_of hr (by rfl) (Za (Zb 2) Zc)) (Za (Zb 1) Zc)))))))
   (Zi (Zl (Zb 1))))))⟩
abbrev V6:Stmt:=top 30
def V7:Zp ["trees","term","tree"] ["trees"] (Zf V6):=by walk_at "sc"
def Tz:{W//Ui 0 V6 ["trees","term","tree"] "call_term" W}:=⟨_,λT S hr=>by
  have nd:=V7.nd
  exact(Zg (Zr (Zk Br (Xe Jf (by rfl) T.zab PySem.boot_len (Za (Zb 0) Zc)) Zh) (Zi (Zz (i:=26) Jd rfl S.x_NoText S.e_NoText (by rfl) (Za Ze Zc))) Zn)
   (Zg (Z0 (i:=1) nd (Zs (by first | exact Yi | exact Yj rfl rfl) S.k_term_of hr (by rfl) (Za (Yw (Zb 0) Zh) Zc)))
   (Zg (P4 PassesOwn.leaving rfl (X7 (Rk (Zb 0) (Jh Zh) Jv)) (T7 (i:=2) nd)
   (Zi (Z0 (i:=1) nd (Xl (Za Ze (Za (Zb 1) (Za (Zs (by first | exact Yi | exact Yj rfl rfl) S.k_term_of hr (by rfl) (Za (Zb 2) Zc)) Zc)))))))
   (Zi (Zl (Zb 1))))))⟩
abbrev W4:Stmt:=top 31
def U9:Zp ["trees","pairs"] ["trees"] (Zf W4):=by walk_at "sc"
def Su:{W//Ui 1 W4 ["trees","pairs"] "let_term" W}:=⟨_,λT S hr=>by
  have nd:=U9.nd
  exact(Zg (Z0 (i:=1) nd (K8 Qt (by rfl) T.zad Tk (Za (O6 (cN:=["tree"]) (cap:=[none]) (cl:=[]) (js:=[0]) (g:=(J8 0)) ⟨rfl,(λ_=>Wh rfl (by decide+kernel) (by decide+kernel) rfl (by decide)),(X7 (Rk (Zb 0) Jv (Jh (Qs Zh)))),(λ_ _ _=>Jn (i:=0) (show(["tree"]:List Str).Nodup by decide+kernel) rfl (Or.inl rfl)),Yd,Ju,Y3,by decide+kernel,λ_ _ _=>W7,λ_ _ _=>(Zs (by first | exact Yi | exact Yj rfl rfl) S.k_pair_of hr (by rfl) (Za (Zb 0) Zc)),λ_=>rfl⟩) Zc)))
   (Zg (T6 (Zs (by first | exact Yi | exact Yj rfl rfl) S.k_refuse_alike hr (by rfl) (Za (N7 (cN:=["name","part"]) (cap:=[none,none]) (cl:=[]) (js:=([0]++([1]++[]))) (g:=(B5 _ 2 (Qm (J8 0) (Qm (J8 1) B6)))) ⟨rfl,(λ_=>Wh rfl (by decide+kernel) (by decide+kernel) rfl (by decide)),(X7 (Zb 1)),(λ_ _ _=>zy (n:=2) rfl (Tc (Jn (i:=0) (show(["name","part"]:List Str).Nodup by decide+kernel) rfl (Or.inl rfl)) (Tc (Jn (i:=1) (show(["name","part"]:List Str).Nodup by decide+kernel) rfl (Or.inl rfl)) Dl))),(zV (Wg Yd (Wg Yd Ri))),(zX (Ql Ju Yd (Ql Ju Yd zY Ri) (Wg Yd Ri))),(ze (R9 Y3 (R9 Y3 zf)) (Te (Te zW))),by decide+kernel,λ_ _ _=>W7,λ_ _ _=>(Zb 0),λ_=>rfl⟩) Zc)))
   (Zi (Zl (Xl (Za Ze (Za (Zb 1) (Za (Zs (by first | exact Yi | exact Yj rfl rfl) S.k_term_of hr (by rfl) (Za (Yw (Zb 0) (Qs Zh)) Zc)) Zc))))))))⟩
def Rq:{W//Ui 0 W4 ["trees","pairs"] "let_term" W}:=⟨_,λT S hr=>by
  exact(Zg (Zr (Th (W6 (Zk Br (Xe Jf (by rfl) T.zab PySem.boot_len (Za (Zb 0) Zc)) Zh) (X6 (Zk Ks (Xe Jf (by rfl) T.zab PySem.boot_len (Za (Zb 0) Zc)) (Zv Yc (K9 (by rfl) T.g_MOST_PAIRS) Zh))))) (Zi (Zz (i:=26) Jd rfl S.x_NoText S.e_NoText (by rfl) (Za Ze Zc))) Zn)
   (Su.2 T S hr))⟩
abbrev S8:Stmt:=top 32
def Rh:Zp ["tree","items"] ["tree"] (Zf S8):=by walk_at "sc"
def Oc:{W//Ui 0 S8 ["tree","items"] "pair_of" W}:=⟨_,λT S hr=>by
  have nd:=Rh.nd
  have hu:=Yf hr
  exact(Zg (Z0 (i:=1) nd (Zs (by first | exact Yi | exact Yj rfl rfl) S.k_items_of hr (by rfl) (Za (Zb 0) Zc)))
   (Zg (Zr (Zk (Mr hu) (Xe Jf (by rfl) T.zab PySem.boot_len (Za (Zb 1) Zc)) Zh) (Zi (Zz (i:=26) Jd rfl S.x_NoText S.e_NoText (by rfl) (Za Ze Zc))) Zn)
   (Zi (Zl (Xl (Za (Zs (by first | exact Yi | exact Yj rfl rfl) S.k_name_of hr (by rfl) (Za (Yw (Zb 1) Zh) Zc)) (Za (Zs (by first | exact Yi | exact Yj rfl rfl) S.k_term_of hr (by rfl) (Za (Yw (Zb 1) Zh) Zc)) Zc)))))))⟩
abbrev J0:Stmt:=top 33
def Wr:Zp ["trees","alternatives"] ["trees"] (Zf J0):=by walk_at "sc"
def Vv:{W//Ui 3 J0 ["trees","alternatives"] "choose_term" W}:=⟨_,λT S hr=>by
  exact(Zi (Zl (Xl (Za Ze (Za (Zs (by first | exact Yi | exact Yj rfl rfl) S.k_term_of hr (by rfl) (Za (Yw (Zb 0) Zh) Zc)) (Za (Zb 1) Zc))))))⟩
def Vu:{W//Ui 1 J0 ["trees","alternatives"] "choose_term" W}:=⟨_,λT S hr=>by
  have nd:=Wr.nd
  have hu:=Yf hr
  exact(Zg (Z0 (i:=1) nd (K8 Qt (by rfl) T.zad Tk (Za (O6 (cN:=["tree"]) (cap:=[none]) (cl:=[]) (js:=[0]) (g:=(J8 0)) ⟨rfl,(λ_=>Wh rfl (by decide+kernel) (by decide+kernel) rfl (by decide)),(X7 (Rk (Zb 0) (Jh Zh) Jv)),(λ_ _ _=>Jn (i:=0) (show(["tree"]:List Str).Nodup by decide+kernel) rfl (Or.inl rfl)),Yd,Ju,Y3,by decide+kernel,λ_ _ _=>W7,λ_ _ _=>(Zs (by first | exact Yi | exact Yj rfl rfl) S.k_alternative_of hr (by rfl) (Za (Zb 0) Zc)),λ_=>rfl⟩) Zc)))
   (Zg (Zr (Zk (Qi hu) (K8 Qt (by rfl) T.zad Tk (Za (N7 (cN:=["shape","names","body"]) (cap:=[none,none,none]) (cl:=[]) (js:=([0]++([1]++([2]++[])))) (g:=(B5 _ 3 (Qm (J8 0) (Qm (J8 1) (Qm (J8 2) B6))))) ⟨rfl,(λ_=>Wh rfl (by decide+kernel) (by decide+kernel) rfl (by decide)),(X7 (Zb 1)),(λ_ _ _=>zy (n:=3) rfl (Tc (Jn (i:=0) (show(["shape","names","body"]:List Str).Nodup by decide+kernel) rfl (Or.inl rfl)) (Tc (Jn (i:=1) (show(["shape","names","body"]:List Str).Nodup by decide+kernel) rfl (Or.inl rfl)) (Tc (Jn (i:=2) (show(["shape","names","body"]:List Str).Nodup by decide+kernel) rfl (Or.inl rfl)) Dl)))),(zV (Wg Yd (Wg Yd (Wg Yd Ri)))),(zX (Ql Ju Yd (Ql Ju Yd (Ql Ju Yd zY Ri) (Wg Yd Ri)) (Wg Yd (Wg Yd Ri)))),(ze (R9 Y3 (R9 Y3 (R9 Y3 zf))) (Te (Te (Te zW)))),by decide+kernel,λ_ _ _=>W7,λ_ _ _=>(Zb 0),λ_=>rfl⟩) Zc)) (K9 (by rfl) T.g_FAMILIES) (by rfl)) (Zi (Zz (i:=26) Jd rfl S.x_NoText S.e_NoText (by rfl) (Za Ze Zc))) Zn)
   (Vv.2 T S hr)))⟩
def Vk:{W//Ui 0 J0 ["trees","alternatives"] "choose_term" W}:=⟨_,λT S hr=>by
  have hu:=Yf hr
  exact(Zg (Zr (Zk (Jx hu) (Zb 0) (Yg Zc)) (Zi (Zz (i:=26) Jd rfl S.x_NoText S.e_NoText (by rfl) (Za Ze Zc))) Zn)
   (Vu.2 T S hr))⟩
abbrev Y7:Stmt:=top 34
def Js:Zp ["tree","items","names"] ["tree"] (Zf Y7):=by walk_at "sc"
def Wa:{W//Ui 5 Y7 ["tree","items","names"] "alternative_of" W}:=⟨_,λT S hr=>by
  exact(Zi (Zl (Xl (Za (Yw (Zb 1) Zh) (Za (Zb 2) (Za (Zs (by first | exact Yi | exact Yj rfl rfl) S.k_term_of hr (by rfl) (Za (Yw (Zb 1) (Qs Zh)) Zc)) Zc))))))⟩
def X9:{W//Ui 2 Y7 ["tree","items","names"] "alternative_of" W}:=⟨_,λT S hr=>by
  have nd:=Js.nd
  have hu:=Yf hr
  exact(Zg (Z0 (i:=2) nd (K8 Qt (by rfl) T.zad Tk (Za (O6 (cN:=["item"]) (cap:=[none]) (cl:=[]) (js:=[0]) (g:=(J8 0)) ⟨rfl,(λ_=>Wh rfl (by decide+kernel) (by decide+kernel) rfl (by decide)),(X7 (Rk (Zb 1) (Jh Zh) (Jh (Qs Zh)))),(λ_ _ _=>Jn (i:=0) (show(["item"]:List Str).Nodup by decide+kernel) rfl (Or.inl rfl)),Yd,Ju,Y3,by decide+kernel,λ_ _ _=>W7,λ_ _ _=>(Zs (by first | exact Yi | exact Yj rfl rfl) S.k_name_of hr (by rfl) (Za (Zb 0) Zc)),λ_=>rfl⟩) Zc)))
   (Zg (T6 (Zs (by first | exact Yi | exact Yj rfl rfl) S.k_refuse_alike hr (by rfl) (Za (Zb 2) Zc)))
   (Zg (Zr (Zk (Mr hu) (D5 (by rfl) T.g_SHAPES (Yw (Zb 1) Zh) ⟨rfl,rfl,rfl,rfl⟩) (Xe Jf (by rfl) T.zab PySem.boot_len (Za (Zb 2) Zc))) (Zi (Zz (i:=26) Jd rfl S.x_NoText S.e_NoText (by rfl) (Za Ze Zc))) Zn)
   (Wa.2 T S hr))))⟩
def Xv:{W//Ui 0 Y7 ["tree","items","names"] "alternative_of" W}:=⟨_,λT S hr=>by
  have nd:=Js.nd
  exact(Zg (Z0 (i:=1) nd (Zs (by first | exact Yi | exact Yj rfl rfl) S.k_items_of hr (by rfl) (Za (Zb 0) Zc)))
   (Zg (Zr (Th (W6 (Zk Br (Xe Jf (by rfl) T.zab PySem.boot_len (Za (Zb 1) Zc)) Zh) (X6 (K4 (J6 (D4 (by rfl) T.zaa (by rfl) T.zac Tl (by decide) (Yw (Zb 1) Zh))))))) (Zi (Zz (i:=26) Jd rfl S.x_NoText S.e_NoText (by rfl) (Za Ze Zc))) Zn)
   (X9.2 T S hr)))⟩
abbrev V3:Stmt:=top 35
def Qc:Zp ["trees"] ["trees"] (Zf V3):=by walk_at "sc"
def Tu:{W//Ui 0 V3 ["trees"] "stop_term" W}:=⟨_,λT S hr=>by
  have hu:=Yf hr
  exact(Zg (Zr (Zk (Mr hu) (Xe Jf (by rfl) T.zab PySem.boot_len (Za (Zb 0) Zc)) Zh) (Zi (Zz (i:=26) Jd rfl S.x_NoText S.e_NoText (by rfl) (Za Ze Zc))) Zn)
   (Zi (Zl (Xl (Za Ze (Za (Zs (by first | exact Yi | exact Yj rfl rfl) S.k_name_of hr (by rfl) (Za (Yw (Zb 0) Zh) Zc)) Zc))))))⟩
abbrev V4:Stmt:=top 36
def Qd:Zp ["trees"] ["trees"] (Zf V4):=by walk_at "sc"
def Tv:{W//Ui 0 V4 ["trees"] "rows_term" W}:=⟨_,λT S hr=>by
  have hu:=Yf hr
  exact(Zg (Zr (Zk (Jx hu) (Zb 0) (Yg Zc)) (Zi (Zz (i:=26) Jd rfl S.x_NoText S.e_NoText (by rfl) (Za Ze Zc))) Zn)
   (Zi (Zl (Xl (Za Ze (Za (Zs (by first | exact Yi | exact Yj rfl rfl) S.k_term_of hr (by rfl) (Za (Yw (Zb 0) Zh) Zc)) (Za (K8 Qt (by rfl) T.zad Tk (Za (O6 (cN:=["tree"]) (cap:=[none]) (cl:=[]) (js:=[0]) (g:=(J8 0)) ⟨rfl,(λ_=>Wh rfl (by decide+kernel) (by decide+kernel) rfl (by decide)),(X7 (Rk (Zb 0) (Jh Zh) Jv)),(λ_ _ _=>Jn (i:=0) (show(["tree"]:List Str).Nodup by decide+kernel) rfl (Or.inl rfl)),Yd,Ju,Y3,by decide+kernel,λ_ _ _=>W7,λ_ _ _=>(Zs (by first | exact Yi | exact Yj rfl rfl) S.k_step_of hr (by rfl) (Za (Zb 0) Zc)),λ_=>rfl⟩) Zc)) Zc)))))))⟩
abbrev S7:Stmt:=top 37
def Rg:Zp ["tree","items"] ["tree"] (Zf S7):=by walk_at "sc"
def Ob:{W//Ui 0 S7 ["tree","items"] "step_of" W}:=⟨_,λT S hr=>by
  have nd:=Rg.nd
  have hu:=Yf hr
  exact(Zg (Z0 (i:=1) nd (Zs (by first | exact Yi | exact Yj rfl rfl) S.k_items_of hr (by rfl) (Za (Zb 0) Zc)))
   (Zg (Zr (Th (P3 (Zk (Jx hu) (Xe Jf (by rfl) T.zab PySem.boot_len (Za (Zb 1) Zc)) Zh) (Qq (Zk (Jx hu) (Yw (Zb 1) Zh) Ze)))) (Zi (Zl (Xl (Za Ze (Za (Zs (by first | exact Yi | exact Yj rfl rfl) S.k_term_of hr (by rfl) (Za (Yw (Zb 1) Zh) Zc)) Zc))))) Zn)
   (Zg (Zr (Th (P3 (Zk (Jx hu) (Xe Jf (by rfl) T.zab PySem.boot_len (Za (Zb 1) Zc)) Zh) (Qq (Th (W6 (Zk (Jx hu) (Yw (Zb 1) Zh) Ze) (X6 (Zk (Jx hu) (Yw (Zb 1) Zh) Ze))))))) (Zi (Zl (Xl (Za (Yw (Zb 1) Zh) (Za (Zs (by first | exact Yi | exact Yj rfl rfl) S.k_name_of hr (by rfl) (Za (Yw (Zb 1) Zh) Zc)) (Za (Zs (by first | exact Yi | exact Yj rfl rfl) S.k_term_of hr (by rfl) (Za (Yw (Zb 1) Zh) Zc)) Zc)))))) Zn)
   (Zi (Zz (i:=26) Jd rfl S.x_NoText S.e_NoText (by rfl) (Za Ze Zc))))))⟩
abbrev U4:Stmt:=top 38
def Og:Zp ["tree"] ["tree"] (Zf U4):=by walk_at "sc"
def Rs:{W//Ui 0 U4 ["tree"] "items_of" W}:=⟨_,λT S hr=>by
  exact(Zg (Zr (J6 (D4 (by rfl) T.zaa (by rfl) T.zac Tl (by decide) (Zb 0))) (Zi (Zz (i:=26) Jd rfl S.x_NoText S.e_NoText (by rfl) (Za (Gm (O5 Ze (O5 (qd (Zb 0)) yq))) Zc))) Zn)
   (Zi (Zl (Zb 0))))⟩
abbrev S9:Stmt:=top 39
def Nm:Zp ["tree"] ["tree"] (Zf S9):=by walk_at "sc"
def Od:{W//Ui 0 S9 ["tree"] "name_of" W}:=⟨_,λT S hr=>by
  exact(Zg (Zr (Th (W6 (K4 (J6 (D4 (by rfl) T.zaa (by rfl) T.zac Tl (by decide) (Zb 0)))) (X6 (K4 (J6 (Ia S.zag hr (by rfl) (Za (Zb 0) Zc))))))) (Zi (Zz (i:=26) Jd rfl S.x_NoText S.e_NoText (by rfl) (Za Ze Zc))) Zn)
   (Zi (Zl (Zb 0))))⟩
abbrev X4:Stmt:=top 40
def Ug:Zp ["names"] ["names"] (Zf X4):=by walk_at "sc"
def W0:{W//Ui 0 X4 ["names"] "refuse_alike" W}:=⟨_,λT S hr=>by
  have hu:=Yf hr
  exact(Zi (Zr (Zk (Mr hu) (y4 rfl (by rfl) T.zab (by rfl) T.zao (Zb 0)) (Xe Jf (by rfl) T.zab PySem.boot_len (Za (Zb 0) Zc))) (Zi (Zz (i:=26) Jd rfl S.x_NoText S.e_NoText (by rfl) (Za Ze Zc))) Zn))⟩
abbrev W9:Stmt:=top 42
def Sj:Zp ["_law_script","_law_many","_law_found","_law_k","_law_cell"] ["_law_script","_law_many"] (Zf W9):=by walk_at "sc"
def Ue:{W//SX 0 W9 ["_law_script","_law_many","_law_found","_law_k","_law_cell"] "_law_draws" W}:=⟨_,λhP T S hr=>by
  have nd:=Sj.nd
  exact(Zg (Z0 (i:=2) nd (Yg Zc))
   (Zg (P4 PassesOwn.never rfl (D3 (by rfl) T.zae (Za (Zb 1) Zc)) (T7 (i:=3) nd)
   (Zg (Z0 (i:=4) nd Zh)
   (Zg (Zr (Zk Ks (Xe Jf (by rfl) T.zab PySem.boot_len (Za (Zb 0) Zc)) Zh) (Zi (Z0 (i:=4) nd (Zv J3 (Yw (Zb 0) (Zv J3 (Zb 3) (Xe Jf (by rfl) T.zab PySem.boot_len (Za (Zb 0) Zc)))) (Zv Hg Zh Zh)))) Zn)
   (Zi (T6 (yz XZ YB YA Rz Qj (Zb 2) (Za (Zv Yc (Zb 4) (Zv Dq Zh (Zv Sl (Zb 3) (Xe (qh rfl) (by rfl) T.zan uN (Za Zh (Za (Xe Jf (by rfl) T.zab PySem.boot_len (Za (Zb 0) Zc)) Zc)))))) Zc)))))))
   (Zi (Zl (Zb 2)))))⟩
abbrev Z7:Stmt:=top 43
def Si:Zp ["_law_words","_law_cell","_law_way","_law_x","_law_n"] ["_law_words","_law_cell"] (Zf Z7):=by walk_at "sc"
def Ur:{W//SX 11 Z7 ["_law_words","_law_cell","_law_way","_law_x","_law_n"] "_law_round" W}:=⟨_,λhP T S hr=>by
  exact(Zi (Zl (Zv Yc (Zv Yc (Yg (Za Ze (Za Ze Zc))) (Zb 0)) (Yg (Za Ze (Za Ze (Za (Zb 3) (Za Ze (Za Ze (Za Ze (Za (Zb 4) (Za Ze (Za Ze Zc)))))))))))))⟩
def Uq:{W//SX 10 Z7 ["_law_words","_law_cell","_law_way","_law_x","_law_n"] "_law_round" W}:=⟨_,λhP T S hr=>by
  have hu:=Yf hr
  exact(Zg (Zr (Zk (Jx hu) (Zb 2) Zh) (Zi (Zl (Zv Yc (Zv Yc (Yg (Za Ze (Za Ze (Za (Zb 3) (Za Ze (Za Ze (Za (Zb 3) Zc))))))) (Zb 0)) (Yg (Za Ze (Za Ze (Za Ze (Za Ze (Za Ze (Za Ze Zc)))))))))) Zn)
   (Ur.2 hP T S hr))⟩
def Up:{W//SX 9 Z7 ["_law_words","_law_cell","_law_way","_law_x","_law_n"] "_law_round" W}:=⟨_,λhP T S hr=>by
  have hu:=Yf hr
  exact(Zg (Zr (Zk (Jx hu) (Zb 2) Zh) (Zi (Zl (Zv Yc (Zv Yc (Yg (Za Ze (Za Ze Zc))) (Zb 0)) (Yg (Za Ze (Za Ze (Za (Zb 3) (Za Ze (Za Ze Zc))))))))) Zn)
   (Uq.2 hP T S hr))⟩
def Uo:{W//SX 8 Z7 ["_law_words","_law_cell","_law_way","_law_x","_law_n"] "_law_round" W}:=⟨_,λhP T S hr=>by
  have hu:=Yf hr
  exact(Zg (Zr (Zk (Jx hu) (Zb 2) Zh) (Zi (Zl (Zv Yc (Zv Yc (Yg (Za Ze (Za Ze (Za (Zb 3) Zc)))) (Zb 0)) (Yg (Za Ze Zc))))) Zn)
   (Up.2 hP T S hr))⟩
def Um:{W//SX 7 Z7 ["_law_words","_law_cell","_law_way","_law_x","_law_n"] "_law_round" W}:=⟨_,λhP T S hr=>by
  have hu:=Yf hr
  exact(Zg (Zr (Zk (Jx hu) (Zb 2) Zh) (Zi (Zl (Zv Yc (Zv Yc (Yg (Za Ze (Za Ze (Za (Zb 3) (Za Ze (Za Ze (Za (Zb 4) (Za Ze (Za Ze (Za Ze (Za (Zb 3) (Za Ze Zc)))))))))))) (Zb 0)) (Yg (Za Ze (Za Ze Zc)))))) Zn)
   (Uo.2 hP T S hr))⟩
def Ul:{W//SX 6 Z7 ["_law_words","_law_cell","_law_way","_law_x","_law_n"] "_law_round" W}:=⟨_,λhP T S hr=>by
  have hu:=Yf hr
  exact(Zg (Zr (Zk (Jx hu) (Zb 2) Zh) (Zi (Zl (Zv Yc (Zv Yc (Yg (Za Ze (Za Ze (Za Ze (Za (Zb 3) (Za (Zb 4) (Za Ze (Za Ze (Za Ze Zc))))))))) (Zb 0)) (Yg (Za Ze (Za (Zb 3) (Za Ze Zc))))))) Zn)
   (Um.2 hP T S hr))⟩
def Uk:{W//SX 5 Z7 ["_law_words","_law_cell","_law_way","_law_x","_law_n"] "_law_round" W}:=⟨_,λhP T S hr=>by
  have hu:=Yf hr
  exact(Zg (Zr (Zk (Jx hu) (Zb 2) Zh) (Zi (Zl (Zv Yc (Zv Yc (Yg (Za Ze Zc)) (Zb 0)) (Yg (Za (Zb 3) (Za (Zb 4) (Za Ze Zc))))))) Zn)
   (Ul.2 hP T S hr))⟩
def Uj:{W//SX 4 Z7 ["_law_words","_law_cell","_law_way","_law_x","_law_n"] "_law_round" W}:=⟨_,λhP T S hr=>by
  have hu:=Yf hr
  exact(Zg (Zr (Zk (Jx hu) (Zb 2) Zh) (Zi (Zl (Zv Yc (Zv Yc (Yg (Za Ze (Za Ze (Za (Zb 3) Zc)))) (Zb 0)) (Yg (Za Ze Zc))))) Zn)
   (Uk.2 hP T S hr))⟩
def Q7:{W//SX 0 Z7 ["_law_words","_law_cell","_law_way","_law_x","_law_n"] "_law_round" W}:=⟨_,λhP T S hr=>by
  have nd:=Si.nd
  have hu:=Yf hr
  exact(Zg (Z0 (i:=2) nd (Zv J3 (Zb 1) Zh))
   (Zg (Z0 (i:=3) nd (Yw Ze (Zv J3 (Zv Sl (Zb 1) Zh) Zh)))
   (Zg (Z0 (i:=4) nd (K8 Ei (by rfl) T.zac Tl (Za (Zv J3 (Zv Dq (Zv Sl (Zb 1) Zh) Zh) (Zv Hg Zh Zh)) Zc)))
   (Zg (Zr (Zk (Jx hu) (Zb 2) Zh) (Zi (Zl (Zv Yc (Zv Yc (Yg (Za Ze (Za (Yw Ze (Zv J3 (Zv Sl (Zb 1) Zh) Zh)) Zc))) (Zb 0)) (Yg (Za (Zb 4) (Za Ze Zc)))))) Zn)
   (Uj.2 hP T S hr)))))⟩
abbrev U6:Stmt:=top 44
def Oh:Zp ["_law_cell","_law_some","_law_word"] ["_law_cell"] (Zf U6):=by walk_at "sc"
def Mm:{W//SX 0 U6 ["_law_cell","_law_some","_law_word"] "_law_bad" W}:=⟨_,λhP T S hr=>by
  have nd:=Oh.nd
  have hu:=Yf hr
  exact(Zg (Zr (Zk (Jx hu) (Zv J3 (Zb 0) Zh) Zh) (Zi (Zl (K8 Ei (by rfl) T.zac Tl (Za (Zv Yc (Zv Hg Zh Zh) (Zv J3 (Zv Dq (Zv Sl (Zb 0) Zh) Zh) (Zv Dq Zh (Zv Hg Zh Zh)))) Zc)))) Zn)
   (Zg (Zr (Zk (Jx hu) (Zv J3 (Zb 0) Zh) Zh) (Zi (Zl (Zv Yc Ze (K8 Ei (by rfl) T.zac Tl (Za (Zv J3 (Zv Sl (Zb 0) Zh) (Yw (Yg (Za Zh (Za (Zv Hg Zh Zh) Zc))) (Zv J3 (Zv Sl (Zb 0) Zh) Zh))) Zc))))) Zn)
   (Zg (Z0 (i:=0) nd (Zv Sl (Zb 0) Zh))
   (Zg (Z0 (i:=1) nd (Yg (Za Ze (Za Ze (Za Ze (Za Ze (Za Ze (Za Ze (Za Ze (Za Ze (Za Ze (Za Ze Zc))))))))))))
   (Zg (Z0 (i:=1) nd (Zv Yc (Zb 1) (Yg (Za Ze (Za Ze Zc)))))
   (Zg (Z0 (i:=1) nd (Zv Yc (Zb 1) (Yg (Za Ze (Za Ze (Za Ze (Za Ze (Za Ze (Za Ze (Za Ze (Za Ze (Za Ze (Za Ze (Za Ze (Za Ze (Za Ze (Za Ze (Za Ze Zc))))))))))))))))))
   (Zg (Z0 (i:=2) nd (Yw (Zb 1) (Zv J3 (Zb 0) Zh)))
   (Zg (Zr (Zk (Jx hu) (Zb 2) Ze) (Zi (Zl Ze)) Zn)
   (Zi (Zl (Zb 2)))))))))))⟩
abbrev Yz:Stmt:=top 45
def Xh:Zp ["_law_words","_law_way","_law_place","_law_cell","_law_at","_law_brackets","_law_others"] ["_law_words","_law_way","_law_place","_law_cell"] (Zf Yz):=by walk_at "sc"
def Vz:{W//SX 7 Yz ["_law_words","_law_way","_law_place","_law_cell","_law_at","_law_brackets","_law_others"] "_law_spoilt" W}:=⟨_,λhP T S hr=>by
  exact(Zi (Zl (Yw (Yg (Za (Yg Zc) (Za (Zv Yc (Zb 0) (Zb 0)) Zc))) (Zv J3 (Zb 3) Zh))))⟩
def Vy:{W//SX 6 Yz ["_law_words","_law_way","_law_place","_law_cell","_law_at","_law_brackets","_law_others"] "_law_spoilt" W}:=⟨_,λhP T S hr=>by
  have nd:=Xh.nd
  have hu:=Yf hr
  exact(Zg (Zr (Zk (Jx hu) (Zb 1) Zh) (Zg (Z0 (i:=4) nd (Yw (Zb 6) (Zv J3 (Zb 2) (Xe Jf (by rfl) T.zab PySem.boot_len (Za (Zb 6) Zc)))))
   (Zi (Zl (Zv Yc (Zv Yc (Rk (Zb 0) Jv (Jh (Zb 4))) (Yg (Za (cP hP (Ib S.zaf hr (by rfl) (Za (Zb 3) Zc))) Zc))) (Rk (Zb 0) (Jh (Zv Yc (Zb 4) Zh)) Jv))))) Zn)
   (Vz.2 hP T S hr))⟩
def Vx:{W//SX 5 Yz ["_law_words","_law_way","_law_place","_law_cell","_law_at","_law_brackets","_law_others"] "_law_spoilt" W}:=⟨_,λhP T S hr=>by
  have hu:=Yf hr
  exact(Zg (Zr (Zk (Jx hu) (Zb 1) Zh) (Zi (Zl (Zv Yc (Zv Yc (Rk (Zb 0) Jv (Jh (Zb 4))) (Yg (Za (cP hP (Ib S.zaf hr (by rfl) (Za (Zb 3) Zc))) Zc))) (Rk (Zb 0) (Jh (Zb 4)) Jv)))) Zn)
   (Vy.2 hP T S hr))⟩
def Vw:{W//SX 4 Yz ["_law_words","_law_way","_law_place","_law_cell","_law_at","_law_brackets","_law_others"] "_law_spoilt" W}:=⟨_,λhP T S hr=>by
  have nd:=Xh.nd
  have hu:=Yf hr
  exact(Zg (Zr (Th (P3 (Zk (Jx hu) (Zb 1) Zh) (Qq (Zk Ks (Xe Jf (by rfl) T.zab PySem.boot_len (Za (Zb 5) Zc)) Zh)))) (Zg (Z0 (i:=4) nd (Yw (Zb 5) (Zv J3 (Zb 2) (Xe Jf (by rfl) T.zab PySem.boot_len (Za (Zb 5) Zc)))))
   (Zi (Zl (Zv Yc (Rk (Zb 0) Jv (Jh (Zb 4))) (Rk (Zb 0) (Jh (Zv Yc (Zb 4) Zh)) Jv))))) Zn)
   (Vx.2 hP T S hr))⟩
def Sv:{W//SX 0 Yz ["_law_words","_law_way","_law_place","_law_cell","_law_at","_law_brackets","_law_others"] "_law_spoilt" W}:=⟨_,λhP T S hr=>by
  have nd:=Xh.nd
  have hu:=Yf hr
  exact(Zg (Z0 (i:=4) nd (Zv J3 (Zb 2) (Zv Yc (Xe Jf (by rfl) T.zab PySem.boot_len (Za (Zb 0) Zc)) Zh)))
   (Zg (N6 (k:=5) (cN:=["_law_k","_law_words"]) (cap:=[none,some 0]) (cl:=(Vf _ _ [])) (js:=[0]) (g:=(J8 0)) nd rfl rfl rfl ⟨rfl,(λok=>D9 ok rfl (by decide+kernel) (by decide+kernel) rfl rfl rfl),(D3 (by rfl) T.zae (Za (Xe Jf (by rfl) T.zab PySem.boot_len (Za (Zb 0) Zc)) Zc)),(λ_ _ _=>Jn (i:=0) (show(["_law_k","_law_words"]:List Str).Nodup by decide+kernel) rfl (Or.inl rfl)),Yd,Ju,Y3,by decide+kernel,λ_ _ _=>(K6 (Zk (Bs hu) (Yw (Zb 1) (Zb 0)) Ze (by rfl))),λ_ _ _=>(Zb 0),λ_=>rfl⟩)
   (Zg (N6 (k:=6) (cN:=["_law_k","_law_words"]) (cap:=[none,some 0]) (cl:=(Vf _ _ [])) (js:=[0]) (g:=(J8 0)) nd rfl rfl rfl ⟨rfl,(λok=>D9 ok rfl (by decide+kernel) (by decide+kernel) rfl rfl rfl),(D3 (by rfl) T.zae (Za (Xe Jf (by rfl) T.zab PySem.boot_len (Za (Zb 0) Zc)) Zc)),(λ_ _ _=>Jn (i:=0) (show(["_law_k","_law_words"]:List Str).Nodup by decide+kernel) rfl (Or.inl rfl)),Yd,Ju,Y3,by decide+kernel,λ_ _ _=>(K6 (Zk (Qi hu) (Yw (Zb 1) (Zb 0)) Ze (by rfl))),λ_ _ _=>(Zb 0),λ_=>rfl⟩)
   (Zg (Zr (Zk (Jx hu) (Zb 1) Zh) (Zi (Zl (Zv Yc (Zv Yc (Rk (Zb 0) Jv (Jh (Zb 4))) (Yg (Za (Yw Ze (Zv J3 (Zb 3) Zh)) Zc))) (Rk (Zb 0) (Jh (Zb 4)) Jv)))) Zn)
   (Vw.2 hP T S hr)))))⟩
abbrev X5:Stmt:=top 46
def Uh:Zp ["_law_text","e"] ["_law_text"] (Zf X5):=by walk_at "sc"
def T0:{W//n9 0 X5 ["_law_text","e"] "_law_refused" W}:=⟨_,λhP T S hr=>by
  have nd:=Uh.nd
  exact(Ja (Gi hP hr (by rfl) (wq S.t0_read) (Mj.one (Za (Zb 0) Zc)) (Sd (Lo (wh:=λ_ _ _=>True) S.t0_read) (Sd (Cg S.t1_read (qa (i:=1) (by rfl) (S.h_IdleError).choose_spec.1 (S.h_IdleError).choose_spec.2 S.n_NoText nd (λ_=>(Zg (Zr (Th (W6 (J6 (So (by rfl) T.zaa (by rfl) S.i_Unbound (Zb 1))) (W6 (J6 (So (by rfl) T.zaa (by rfl) S.i_NoKind (Zb 1))) (X6 (J6 (So (by rfl) T.zaa (by rfl) S.i_NoThing (Zb 1))))))) (Zi (Zl N8)) Zn)
   (Zg (Zr (Th (W6 (J6 (So (by rfl) T.zaa (by rfl) S.i_NoName (Zb 1))) (W6 (J6 (So (by rfl) T.zaa (by rfl) S.i_NoRow (Zb 1))) (X6 (J6 (So (by rfl) T.zaa (by rfl) S.i_Stopped (Zb 1))))))) (Zi (Zl N8)) Zn)
   (Zg (Zr (Th (W6 (J6 (So (by rfl) T.zaa (by rfl) S.i_Ring (Zb 1))) (X6 (J6 (So (by rfl) T.zaa (by rfl) S.i_Spent (Zb 1)))))) (Zi (Zl N8)) Zn)
   (Zi (Zl (qe (So (by rfl) T.zaa (by rfl) S.i_NoText (Zb 1)) (wf (So (by rfl) T.zaa (by rfl) S.i_ValueError (Zb 1)))))))))))) Gx)) rfl rfl)
   (T8 (Mh.one (Zl N8))))⟩
abbrev Ra:Stmt:=top 47
def Fo:Zp ["_law_script","_law_draws_here","_law_cell","_law_odd","_law_words","_law_k","_law_way","_law_text","_law_word"] ["_law_script"] (Zf Ra):=by walk_at "sc"
def yL:{W//SX 0 Ra ["_law_script","_law_draws_here","_law_cell","_law_odd","_law_words","_law_k","_law_way","_law_text","_law_word"] "law" W}:=⟨_,λhP T S hr=>by
  have nd:=Fo.nd
  have hu:=Yf hr
  exact(yx (sP hP (yn (j:=1) S.zai hr (by rfl) (yy (Zb 0) (xj Zc)) nd))
   (Ja (Mh.one (Z0 (i:=2) nd (Yw (Zb 1) Zh)))
   (Ja (yo (Zk (Jx hu) (Zv J3 (Zb 2) Zh) Zh) (Ja (Mh.one (Z0 (i:=3) nd (Yg (Za qb (Za Zh (Za N8 (Za (Yg (Za Ze Zc)) (Za (Xl (Za Ze (Za Ze Zc))) (Za xl (Za (Yg (Za Ze (Za Ze (Za Ze (Za Ze Zc))))) Zc))))))))))
   (T8 (K5 (nv hP (D6 S.c__law_refused hr (by rfl) (Mj.one (Za (Yw (Zb 3) (Zv J3 (Zv Sl (Zb 2) Zh) Zh)) Zc))))))) (Lp.one Zn))
   (Ja (Mh.one (Z0 (i:=4) nd (Yg (Za Ze Zc))))
   (Ja (Mh.one (P4 PassesOwn.never rfl (D3 (by rfl) T.zae (Za (Zv J3 (Yw (Zb 1) Zh) Zh) Zc)) (T7 (i:=5) nd)
   (Zi (Z0 (i:=4) nd (cP hP (Ib S.zaj hr (by rfl) (Za (Zb 4) (Za (Yw (Zb 1) (Zv Yc Zh (Zb 5))) Zc))))))))
   (Ja (Mh.one (Z0 (i:=6) nd (Zv J3 (Yw (Zb 1) Zh) Zh)))
   (Ja (Mh.one (Zr (Zk Ks (Zb 6) Zh) (Zi (Z0 (i:=4) nd (cP hP (Ib S.zah hr (by rfl) (Za (Zb 4) (Za (Zb 6) (Za (Yw (Zb 1) Zh) (Za (Yw (Zb 1) Zh) Zc)))))))) Zn))
   (Ja (Mh.one (Z0 (i:=7) nd Ze))
   (Ja (Mh.one (P4 PassesOwn.never rfl (X7 (Zb 4)) (T7 (i:=8) nd)
   (Zg (Zr (Th (P3 (Zk (Mr hu) (Zb 7) Ze) (P3 (Th (W6 (Zk (Qi hu) (Zb 8) Ze (by rfl)) (X6 (Zk (Jx hu) (Zv J3 (Zv Sl (Zb 2) Zh) Zh) Zh)))) (Qq (Zk (Qi hu) (Yw (Zb 7) (Qs Zh)) Ze (by rfl)))))) (Zi (Z0 (i:=7) nd (Zv Yc (Zb 7) Ze))) Zn)
   (Zi (Z0 (i:=7) nd (Zv Yc (Zb 7) (Zb 8)))))))
   (Ja (yo (Zk Ks (Zb 6) Zh) (T8 (K5 (nv hP (D6 S.c__law_refused hr (by rfl) (Mj.one (Za (Zb 7) Zc)))))) (Lp.one Zn))
   (Ja (Gi hP hr (by rfl) (wq S.t0_read) (Mj.one (Za (Zb 7) Zc)) (Sd (Lo (wh:=λ_ _ _=>True) S.t0_read) (Sd (Cg S.t1_read (uH (by rfl) (S.h_IdleError).choose_spec.1 (S.h_IdleError).choose_spec.2 (λ_=>(Zi (Zl N8))))) Gx)) rfl rfl)
   (T8 (Mh.one (Zl N8))))))))))))))⟩
def Pd:Calls->WS:=Oe.1
def Fd:Calls->WS:=En.1
def V0:Calls->WS:=Ud.1
def Lw:Calls->WS:=Wm.1
def Lv:Calls->WS:=Wl.1
def Lu:Calls->WS:=Wj.1
def T1:Calls->WS:=Se.1
def je:Calls->WS:=Q6.1
def jd:Calls->WS:=Q5.1
def jc:Calls->WS:=Q4.1
def jb:Calls->WS:=Q3.1
def ja:Calls->WS:=Q2.1
def yZ:Calls->WS:=Q1.1
def yY:Calls->WS:=Q0.1
def yX:Calls->WS:=Qz.1
def yW:Calls->WS:=Qy.1
def yO:Calls->WS:=Ss.1
def Q9:Calls->WS:=Oa.1
def A1:Calls->WS:=Tq.1
def A0:Calls->WS:=Tp.1
def Az:Calls->WS:=To.1
def Uu:Calls->WS:=Ts.1
def Uy:Calls->WS:=Tw.1
def Uv:Calls->WS:=Tt.1
def S0:Calls->WS:=Rt.1
def Uz:Calls->WS:=Tz.1
def yP:Calls->WS:=Su.1
def Sy:Calls->WS:=Rq.1
def Pb:Calls->WS:=Oc.1
def Cp:Calls->WS:=Vv.1
def Co:Calls->WS:=Vu.1
def W8:Calls->WS:=Vk.1
def Fa:Calls->WS:=Wa.1
def G9:Calls->WS:=X9.1
def Xq:Calls->WS:=Xv.1
def Uw:Calls->WS:=Tu.1
def Ux:Calls->WS:=Tv.1
def Pa:Calls->WS:=Ob.1
def Sz:Calls->WS:=Rs.1
def Pc:Calls->WS:=Od.1
def Wq:Calls->WS:=W0.1
def V1:Calls->WS:=Ue.1
def Aq:Calls->WS:=Ur.1
def Ap:Calls->WS:=Uq.1
def Ao:Calls->WS:=Up.1
def An:Calls->WS:=Uo.1
def Am:Calls->WS:=Um.1
def Al:Calls->WS:=Ul.1
def Ak:Calls->WS:=Uk.1
def Aj:Calls->WS:=Uj.1
def Ry:Calls->WS:=Q7.1
def Nd:Calls->WS:=Mm.1
def Pf:Calls->WS:=Vz.1
def Cr:Calls->WS:=Vy.1
def Pe:Calls->WS:=Vx.1
def Cq:Calls->WS:=Vw.1
def Sh:Calls->WS:=Sv.1
def U0:Calls->WS:=T0.1
def w_law:Calls->WS:=yL.1
abbrev B2:Nat:=0
abbrev um:Nat:=1
abbrev F5:Nat:=2
abbrev By:Nat:=3
abbrev T4:Nat:=4
abbrev Ho:Nat:=5
abbrev Ht:Nat:=6
abbrev Hq:Nat:=7
abbrev F8:Nat:=8
abbrev On:Nat:=9
abbrev F6:Nat:=10
abbrev B0:Nat:=11
abbrev Ms:Nat:=12
abbrev Pu:Nat:=13
abbrev Hr:Nat:=14
abbrev Hs:Nat:=15
abbrev Bz:Nat:=16
abbrev F7:Nat:=17
abbrev B1:Nat:=18
abbrev Nz:Nat:=19
abbrev K0:Nat:=20
abbrev Kz:Nat:=21
abbrev F9:Nat:=22
abbrev Mt:Nat:=23
abbrev Xk:Nat:=24
abbrev rP:Nat:=25
abbrev M:Nat:=27
abbrev iR:Nat:=26
def pr:List Df:=[⟨1,1,Pd⟩,⟨1,1,Fd⟩,⟨2,1,V0⟩,⟨4,1,T1⟩,⟨3,1,Q9⟩,⟨1,1,Uu⟩,⟨1,1,Uy⟩,⟨1,1,Uv⟩,⟨3,1,S0⟩,⟨3,1,Uz⟩,⟨2,1,Sy⟩,⟨2,1,Pb⟩,⟨2,1,W8⟩,⟨3,1,Xq⟩,⟨1,1,Uw⟩,⟨1,1,Ux⟩,⟨2,1,Pa⟩,⟨1,1,Sz⟩,⟨1,1,Pc⟩,⟨1,1,Wq⟩,⟨5,2,V1⟩,⟨5,2,Ry⟩,⟨3,1,Nd⟩,⟨7,4,Sh⟩,⟨2,1,U0⟩,⟨9,1,w_law⟩,⟨0,0,λ_ _ _ _=>False⟩,⟨1,1,λP=>Pd λj=>P (j+27)⟩,⟨1,1,λP=>Fd λj=>P (j+27)⟩,⟨2,1,λP=>V0 λj=>P (j+27)⟩,⟨4,1,λP=>T1 λj=>P (j+27)⟩,⟨3,1,λP=>Q9 λj=>P (j+27)⟩,⟨1,1,λP=>Uu λj=>P (j+27)⟩,⟨1,1,λP=>Uy λj=>P (j+27)⟩,⟨1,1,λP=>Uv λj=>P (j+27)⟩,⟨3,1,λP=>S0 λj=>P (j+27)⟩,⟨3,1,λP=>Uz λj=>P (j+27)⟩,⟨2,1,λP=>Sy λj=>P (j+27)⟩,⟨2,1,λP=>Pb λj=>P (j+27)⟩,⟨2,1,λP=>W8 λj=>P (j+27)⟩,⟨3,1,λP=>Xq λj=>P (j+27)⟩,⟨1,1,λP=>Uw λj=>P (j+27)⟩,⟨1,1,λP=>Ux λj=>P (j+27)⟩,⟨2,1,λP=>Pa λj=>P (j+27)⟩,⟨1,1,λP=>Sz λj=>P (j+27)⟩,⟨1,1,λP=>Pc λj=>P (j+27)⟩,⟨1,1,λP=>Wq λj=>P (j+27)⟩,⟨0,0,λ_ _ _ _=>False⟩,⟨0,0,λ_ _ _ _=>False⟩,⟨0,0,λ_ _ _ _=>False⟩,⟨0,0,λ_ _ _ _=>False⟩,⟨0,0,λ_ _ _ _=>False⟩,⟨0,0,λ_ _ _ _=>False⟩,⟨0,0,λ_ _ _ _=>True⟩]
def ZUU (i a r:Nat)(w:Calls->WS):Prop:=∀{n:Nat}{vs:List T}{C:Hw}{Q:WK}{χ:WX},vs.length=a->w (Xo pr n) (ZUD Q χ) (vs.map some++List.replicate r none) C->Xo pr (n+1) i vs C Q χ
def Kd:ZUU 20 2 3 V1:=λhl h=>⟨_,rfl,hl,h⟩
def Kc:ZUU 21 2 3 Ry:=λhl h=>⟨_,rfl,hl,h⟩
def Ff:ZUU 22 1 2 Nd:=λhl h=>⟨_,rfl,hl,h⟩
def Mo:ZUU 23 4 3 Sh:=λhl h=>⟨_,rfl,hl,h⟩
def Ng:ZUU 24 1 1 U0:=λhl h=>⟨_,rfl,hl,h⟩
def tV:ZUU 25 1 8 w_law:=λhl h=>⟨_,rfl,hl,h⟩
structure Rp (W:Nat->Calls)(r:Prop):Prop where
 o_is_name:∀{n:Nat} {vs:List T} {C:Hw} {Q:WK} {χ:WX},vs.length=1->Pd (W n) (ZUD Q χ) (vs.map some++List.replicate 0 none) C->W (n+1) 0 vs C Q χ
 o_read:∀{n:Nat} {vs:List T} {C:Hw} {Q:WK} {χ:WX},vs.length=1->Fd (W n) (ZUD Q χ) (vs.map some++List.replicate 0 none) C->W (n+1) 1 vs C Q χ
 o_words_of:∀{n:Nat} {vs:List T} {C:Hw} {Q:WK} {χ:WX},vs.length=1->V0 (W n) (ZUD Q χ) (vs.map some++List.replicate 1 none) C->W (n+1) 2 vs C Q χ
 o_tree_of:∀{n:Nat} {vs:List T} {C:Hw} {Q:WK} {χ:WX},vs.length=1->T1 (W n) (ZUD Q χ) (vs.map some++List.replicate 3 none) C->W (n+1) 3 vs C Q χ
 o_term_of:∀{n:Nat} {vs:List T} {C:Hw} {Q:WK} {χ:WX},vs.length=1->Q9 (W n) (ZUD Q χ) (vs.map some++List.replicate 2 none) C->W (n+1) 4 vs C Q χ
 o_word_term:∀{n:Nat} {vs:List T} {C:Hw} {Q:WK} {χ:WX},vs.length=1->Uu (W n) (ZUD Q χ) (vs.map some++List.replicate 0 none) C->W (n+1) 5 vs C Q χ
 o_is_number:∀{n:Nat} {vs:List T} {C:Hw} {Q:WK} {χ:WX},vs.length=1->Uy (W n) (ZUD Q χ) (vs.map some++List.replicate 0 none) C->W (n+1) 6 vs C Q χ
 o_two_terms:∀{n:Nat} {vs:List T} {C:Hw} {Q:WK} {χ:WX},vs.length=1->Uv (W n) (ZUD Q χ) (vs.map some++List.replicate 0 none) C->W (n+1) 7 vs C Q χ
 o_fun_term:∀{n:Nat} {vs:List T} {C:Hw} {Q:WK} {χ:WX},vs.length=1->S0 (W n) (ZUD Q χ) (vs.map some++List.replicate 2 none) C->W (n+1) 8 vs C Q χ
 o_call_term:∀{n:Nat} {vs:List T} {C:Hw} {Q:WK} {χ:WX},vs.length=1->Uz (W n) (ZUD Q χ) (vs.map some++List.replicate 2 none) C->W (n+1) 9 vs C Q χ
 o_let_term:∀{n:Nat} {vs:List T} {C:Hw} {Q:WK} {χ:WX},vs.length=1->Sy (W n) (ZUD Q χ) (vs.map some++List.replicate 1 none) C->W (n+1) 10 vs C Q χ
 o_pair_of:∀{n:Nat} {vs:List T} {C:Hw} {Q:WK} {χ:WX},vs.length=1->Pb (W n) (ZUD Q χ) (vs.map some++List.replicate 1 none) C->W (n+1) 11 vs C Q χ
 o_choose_term:∀{n:Nat} {vs:List T} {C:Hw} {Q:WK} {χ:WX},vs.length=1->W8 (W n) (ZUD Q χ) (vs.map some++List.replicate 1 none) C->W (n+1) 12 vs C Q χ
 o_alternative_of:∀{n:Nat} {vs:List T} {C:Hw} {Q:WK} {χ:WX},vs.length=1->Xq (W n) (ZUD Q χ) (vs.map some++List.replicate 2 none) C->W (n+1) 13 vs C Q χ
 o_stop_term:∀{n:Nat} {vs:List T} {C:Hw} {Q:WK} {χ:WX},vs.length=1->Uw (W n) (ZUD Q χ) (vs.map some++List.replicate 0 none) C->W (n+1) 14 vs C Q χ
 o_rows_term:∀{n:Nat} {vs:List T} {C:Hw} {Q:WK} {χ:WX},vs.length=1->Ux (W n) (ZUD Q χ) (vs.map some++List.replicate 0 none) C->W (n+1) 15 vs C Q χ
 o_step_of:∀{n:Nat} {vs:List T} {C:Hw} {Q:WK} {χ:WX},vs.length=1->Pa (W n) (ZUD Q χ) (vs.map some++List.replicate 1 none) C->W (n+1) 16 vs C Q χ
 o_items_of:∀{n:Nat} {vs:List T} {C:Hw} {Q:WK} {χ:WX},vs.length=1->Sz (W n) (ZUD Q χ) (vs.map some++List.replicate 0 none) C->W (n+1) 17 vs C Q χ
 o_name_of:∀{n:Nat} {vs:List T} {C:Hw} {Q:WK} {χ:WX},vs.length=1->Pc (W n) (ZUD Q χ) (vs.map some++List.replicate 0 none) C->W (n+1) 18 vs C Q χ
 o_refuse_alike:∀{n:Nat} {vs:List T} {C:Hw} {Q:WK} {χ:WX},vs.length=1->Wq (W n) (ZUD Q χ) (vs.map some++List.replicate 0 none) C->W (n+1) 19 vs C Q χ
 o_raise:∀{n:Nat} {C:Hw} {Q:WK} {χ:WX},r->W (n+1) 26 [] C Q χ
def nX:Rp (Xo pr) False:=⟨λhl h=>⟨_,rfl,hl,h⟩,λhl h=>⟨_,rfl,hl,h⟩,λhl h=>⟨_,rfl,hl,h⟩,λhl h=>⟨_,rfl,hl,h⟩,λhl h=>⟨_,rfl,hl,h⟩,λhl h=>⟨_,rfl,hl,h⟩,λhl h=>⟨_,rfl,hl,h⟩,λhl h=>⟨_,rfl,hl,h⟩,λhl h=>⟨_,rfl,hl,h⟩,λhl h=>⟨_,rfl,hl,h⟩,λhl h=>⟨_,rfl,hl,h⟩,λhl h=>⟨_,rfl,hl,h⟩,λhl h=>⟨_,rfl,hl,h⟩,λhl h=>⟨_,rfl,hl,h⟩,λhl h=>⟨_,rfl,hl,h⟩,λhl h=>⟨_,rfl,hl,h⟩,λhl h=>⟨_,rfl,hl,h⟩,λhl h=>⟨_,rfl,hl,h⟩,λhl h=>⟨_,rfl,hl,h⟩,λhl h=>⟨_,rfl,hl,h⟩,λh=>h.elim⟩
def pH:Rp (λn j=>Xo pr n (j+M)) True:=⟨λhl h=>⟨_,rfl,hl,h⟩,λhl h=>⟨_,rfl,hl,h⟩,λhl h=>⟨_,rfl,hl,h⟩,λhl h=>⟨_,rfl,hl,h⟩,λhl h=>⟨_,rfl,hl,h⟩,λhl h=>⟨_,rfl,hl,h⟩,λhl h=>⟨_,rfl,hl,h⟩,λhl h=>⟨_,rfl,hl,h⟩,λhl h=>⟨_,rfl,hl,h⟩,λhl h=>⟨_,rfl,hl,h⟩,λhl h=>⟨_,rfl,hl,h⟩,λhl h=>⟨_,rfl,hl,h⟩,λhl h=>⟨_,rfl,hl,h⟩,λhl h=>⟨_,rfl,hl,h⟩,λhl h=>⟨_,rfl,hl,h⟩,λhl h=>⟨_,rfl,hl,h⟩,λhl h=>⟨_,rfl,hl,h⟩,λhl h=>⟨_,rfl,hl,h⟩,λhl h=>⟨_,rfl,hl,h⟩,λhl h=>⟨_,rfl,hl,h⟩,λ_=>⟨_,rfl,rfl,trivial⟩⟩
section
variable {Pg:Program}{w:World}{K:W.Frag}{mg:Str->Option Value}{base:Heap}{f CN:Addr}{fd:FuncData}{n i:Nat}{pr:List Df}{x q:Str}{N ps:List Str}{st:Stmt}{P P':Calls}{E1:XK}
def tG (D:{W//SX 0 st N q W})(T:Txt w K mg)(S:Cs Pg w K mg base n pr CN)(sc:Zp N ps (Zf st))(hd:pr[i]?=some ⟨N.length,ps.length,D.1⟩)(F:P9 K x q st f fd):Wi Pg w K mg base CX0 (n+1) f fd ps (spW K pr (n+1) i):=uz F sc hd rfl rfl λ_ _ _ _ _ _ hr=>D.2 rfl T S hr
def pR (D:{W//n9 0 st N q W})(T:Txt w K mg)(S:Cs Pg w K mg base n pr CN)(sc:Zp N ps (Zf st))(hd:pr[i]?=some ⟨N.length,ps.length,D.1⟩)(F:P9 K x q st f fd):Sr Pg w K mg base (n+1) f fd ps (spW K pr (n+1) i):=u3 F sc hd rfl rfl λ_ _ _ _ _ _ hr=>D.2 rfl T S hr
def Sk (D:{W//Ui 0 st N q W})(T:Txt w K mg)(S:yU Pg w K mg base n P E1 CN)(sc:Zp N ps (Zf st))(hO:Sq P' P i N ps D.1)(F:P9 K x q st f fd):Wi Pg w K mg base (X8 Pg w) (n+1) f fd ps (Ot K P' E1 i):=ux hO F sc λ_ _ _ _ _ hr=>D.2 T S hr
def ni (D:{W//n5 0 st N q W})(T:Txt w K mg)(S:yU Pg w K mg base n P E1 CN)(sc:Zp N ps (Zf st))(hO:Sq P' P i N ps D.1)(F:P9 K x q st f fd):Oq Pg w K mg base (X8 Pg w) (n+1) f fd ps (Ot K P' E1 i):=jX hO F sc λ_ _ _ _ _ hr=>D.2 T S hr
def ro (D:{W//o9 0 st N q W})(T:Txt w K mg)(S:yU Pg w K mg base n P E1 CN)(sc:Zp N ps (Zf st))(hO:Sq P' P i N ps D.1)(F:P9 K x q st f fd):Wi Pg w K mg base CX0 (n+1) f fd ps (Ba K P' i):=uy hO F sc λ_ _ _ _ _ _ hr=>D.2 T S hr
def nh (D:{W//n0 0 st N q W})(T:Txt w K mg)(S:yU Pg w K mg base n P E1 CN)(sc:Zp N ps (Zf st))(hO:Sq P' P i N ps D.1)(F:P9 K x q st f fd):Sr Pg w K mg base (n+1) f fd ps (Ba K P' i):=jY hO F sc λ_ _ _ _ _ _ hr=>D.2 T S hr
end
def la {C:List Value->Prop}(h:C []):∀us:List Value,us.length=0->C us
 | [],_=>h
def Mg {C:List Value->Prop}(h:∀a,C [a]):∀us:List Value,us.length=1->C us
 | [a],_=>h a
def nw {C:List Value->Prop}(h:∀a b,C [a,b]):∀us:List Value,us.length=2->C us
 | [a,b],_=>h a b
def mZ {C:List Value->Prop}(h:∀a b c,C [a,b,c]):∀us:List Value,us.length=3->C us
 | [a,b,c],_=>h a b c
def m6 {C:List Value->Prop}(h:∀a b c d,C [a,b,c,d]):∀us:List Value,us.length=4->C us
 | [a,b,c,d],_=>h a b c d
def mY {C:List Value->Prop}(h:∀a b c d e,C [a,b,c,d,e]):∀us:List Value,us.length=5->C us
 | [a,b,c,d,e],_=>h a b c d e
def mX {C:List Value->Prop}(h:∀a b c d e f,C [a,b,c,d,e,f]):∀us:List Value,us.length=6->C us
 | [a,b,c,d,e,f],_=>h a b c d e f
def all_mk {l:W.OpenLaw}{w:World}{K:W.Frag}{h:Heap}{mg:Str->Option Value}{fa CN:Addr}(X:K.In h)(G:h.Ns mainGlobals mg)(hfa:mg "law"=some (.ref fa))
  (aCN:W.nsIn K mainGlobals "NoText"=some (some (.ref CN))) (xCN:W.excIn K CN [.type "ValueError",.type "Exception",.type "BaseException",.type "object"] "ValueError.__new__"=true) (qCN:W.exmOne K (.ref CN) (.ref CN)=some true)
  (h_IdleError:∃c,W.nsIn K mainGlobals "IdleError"=some (some c)/\W.exmOne K (.ref CN) c=some true)
  (xk:As K CN)
  (i_NoKind:∃c:Addr,W.nsIn K mainGlobals "NoKind"=some (some (.ref c))/\W.kitOne K (.ref CN) (.ref c)=some false)
  (i_NoName:∃c:Addr,W.nsIn K mainGlobals "NoName"=some (some (.ref c))/\W.kitOne K (.ref CN) (.ref c)=some false)
  (i_NoRow:∃c:Addr,W.nsIn K mainGlobals "NoRow"=some (some (.ref c))/\W.kitOne K (.ref CN) (.ref c)=some false)
  (i_NoText:∃c:Addr,W.nsIn K mainGlobals "NoText"=some (some (.ref c))/\W.kitOne K (.ref CN) (.ref c)=some true)
  (i_NoThing:∃c:Addr,W.nsIn K mainGlobals "NoThing"=some (some (.ref c))/\W.kitOne K (.ref CN) (.ref c)=some false)
  (i_Ring:∃c:Addr,W.nsIn K mainGlobals "Ring"=some (some (.ref c))/\W.kitOne K (.ref CN) (.ref c)=some false)
  (i_Spent:∃c:Addr,W.nsIn K mainGlobals "Spent"=some (some (.ref c))/\W.kitOne K (.ref CN) (.ref c)=some false)
  (i_Stopped:∃c:Addr,W.nsIn K mainGlobals "Stopped"=some (some (.ref c))/\W.kitOne K (.ref CN) (.ref c)=some false)
  (i_Unbound:∃c:Addr,W.nsIn K mainGlobals "Unbound"=some (some (.ref c))/\W.kitOne K (.ref CN) (.ref c)=some false)
  (i_ValueError:W.nsIn K mainGlobals "ValueError"=some none/\W.kitOne K (.ref CN) (.type "ValueError")=some true)
  (l0:Fg K "is_name" Rb)
  (l1:Fg K "read" Kg)
  (l2:Fg K "words_of" U3)
  (l3:Fg K "tree_of" Xr)
  (l4:Fg K "term_of" Yk)
  (l5:Fg K "word_term" J1)
  (l6:Fg K "is_number" V5)
  (l7:Fg K "two_terms" V2)
  (l8:Fg K "fun_term" U5)
  (l9:Fg K "call_term" V6)
  (A9:Fg K "let_term" W4)
  (AA:Fg K "pair_of" S8)
  (AB:Fg K "choose_term" J0)
  (AC:Fg K "alternative_of" Y7)
  (AD:Fg K "stop_term" V3)
  (AE:Fg K "rows_term" V4)
  (AF:Fg K "step_of" S7)
  (AG:Fg K "items_of" U4)
  (AH:Fg K "name_of" S9)
  (AI:Fg K "refuse_alike" X4)
  (AJ:Fg K "_law_draws" W9)
  (AK:Fg K "_law_round" Z7)
  (AL:Fg K "_law_bad" U6)
  (AM:Fg K "_law_spoilt" Yz)
  (AN:Fg K "_law_refused" X5)
  (A8:Fg K "law" Ra)
  (A2:W.nsIn K mainGlobals "all"=some none)
  (A3:W.nsIn K mainGlobals "int"=some none)
  (Al:W.nsIn K mainGlobals "isinstance"=some none)
  (A4:W.nsIn K mainGlobals "len"=some none)
  (A5:W.nsIn K mainGlobals "max"=some none)
  (Ax:W.nsIn K mainGlobals "range"=some none)
  (Ap:W.nsIn K mainGlobals "reversed"=some none)
  (A6:W.nsIn K mainGlobals "set"=some none)
  (A7:W.nsIn K mainGlobals "str"=some none)
  (Az:W.nsIn K mainGlobals "tuple"=some none)
  {u_FIGURES:Value} (Aq:W.nsIn K mainGlobals "FIGURES"=some (some u_FIGURES)) (r_FIGURES:Z3 (V.str "0123456789") u_FIGURES)
  {u_LETTERS:Value} (Ar:W.nsIn K mainGlobals "LETTERS"=some (some u_LETTERS)) (r_LETTERS:Z3 (V.str "abcdefghijklmnopqrstuvwxyz") u_LETTERS)
  {gt_WORDS_0:Tok}
  {gt_WORDS_1:Tok}
  {gt_WORDS_2:Tok}
  {gt_WORDS_3:Tok}
  {gt_WORDS_4:Tok}
  {gt_WORDS_5:Tok}
  {gt_WORDS_6:Tok}
  {gt_WORDS_7:Tok}
  {gt_WORDS_8:Tok}
  {Af:Addr} {gn_WORDS:Nat} {gs_WORDS:Array (Option Value)} (Av:K.lookup Af=some ⟨.type "tuple",none,.seq #[.str "fun" gt_WORDS_0,.str "let" gt_WORDS_1,.str "choose" gt_WORDS_2,.str "first" gt_WORDS_3,.str "stop" gt_WORDS_4,.str "rows" gt_WORDS_5,.str "in" gt_WORDS_6,.str "when" gt_WORDS_7,.str "be" gt_WORDS_8] gn_WORDS,gs_WORDS⟩)
  (Aw:W.nsIn K mainGlobals "WORDS"=some (some (.ref Af)))
  {gt_OPS_0:Tok}
  {gt_OPS_1:Tok}
  {gt_OPS_2:Tok}
  {gt_OPS_3:Tok}
  {gt_OPS_4:Tok}
  {Am:Addr} {gn_OPS:Nat} {gs_OPS:Array (Option Value)} (A0:K.lookup Am=some ⟨.type "tuple",none,.seq #[.str "+" gt_OPS_0,.str "-" gt_OPS_1,.str "*" gt_OPS_2,.str "<" gt_OPS_3,.str "=" gt_OPS_4] gn_OPS,gs_OPS⟩)
  (A1:W.nsIn K mainGlobals "OPS"=some (some (.ref Am)))
  {Ae:Addr} {gn_SHAPES:Nat} {gt_SHAPES_0 gu_SHAPES_0 gt_SHAPES_1 gu_SHAPES_1 gt_SHAPES_2 gu_SHAPES_2 gt_SHAPES_3 gu_SHAPES_3 gt_SHAPES_4 gu_SHAPES_4:Tok} (At:W.nsIn K mainGlobals "SHAPES"=some (some (.ref Ae))) (Au:K.lookup Ae=some ⟨.type "dict",none,.dict #[⟨PyData.keyHash w.params "Nil",.str "Nil" gt_SHAPES_0,.int 0 gu_SHAPES_0⟩,⟨PyData.keyHash w.params "Cons",.str "Cons" gt_SHAPES_1,.int 2 gu_SHAPES_1⟩,⟨PyData.keyHash w.params "No",.str "No" gt_SHAPES_2,.int 0 gu_SHAPES_2⟩,⟨PyData.keyHash w.params "Yes",.str "Yes" gt_SHAPES_3,.int 0 gu_SHAPES_3⟩,⟨PyData.keyHash w.params "Pair",.str "Pair" gt_SHAPES_4,.int 2 gu_SHAPES_4⟩] gn_SHAPES,#[]⟩) (gl_SHAPES:(Ae==sysModules)=false)
  {u_MOST_FIGURES:Value} (Ag:W.nsIn K mainGlobals "MOST_FIGURES"=some (some u_MOST_FIGURES)) (r_MOST_FIGURES:Z3 (V.int 18) u_MOST_FIGURES)
  {u_MOST_PAIRS:Value} (Ah:W.nsIn K mainGlobals "MOST_PAIRS"=some (some u_MOST_PAIRS)) (r_MOST_PAIRS:Z3 (V.int 5) u_MOST_PAIRS)
  {gt_FAMILIES_0:Tok}
  {gt_FAMILIES_1:Tok}
  {Ab:Addr} {gn_FAMILIES_2:Nat} {gs_FAMILIES_2:Array (Option Value)} (Ai:K.lookup Ab=some ⟨.type "tuple",none,.seq #[.str "Nil" gt_FAMILIES_0,.str "Cons" gt_FAMILIES_1] gn_FAMILIES_2,gs_FAMILIES_2⟩)
  {gt_FAMILIES_3:Tok}
  {gt_FAMILIES_4:Tok}
  {Ac:Addr} {gn_FAMILIES_5:Nat} {gs_FAMILIES_5:Array (Option Value)} (Aj:K.lookup Ac=some ⟨.type "tuple",none,.seq #[.str "No" gt_FAMILIES_3,.str "Yes" gt_FAMILIES_4] gn_FAMILIES_5,gs_FAMILIES_5⟩)
  {gt_FAMILIES_6:Tok}
  {Ad:Addr} {gn_FAMILIES_7:Nat} {gs_FAMILIES_7:Array (Option Value)} (Ak:K.lookup Ad=some ⟨.type "tuple",none,.seq #[.str "Pair" gt_FAMILIES_6] gn_FAMILIES_7,gs_FAMILIES_7⟩)
  {Aa:Addr} {gn_FAMILIES:Nat} {gs_FAMILIES:Array (Option Value)} (An:K.lookup Aa=some ⟨.type "tuple",none,.seq #[.ref Ab,.ref Ac,.ref Ad] gn_FAMILIES,gs_FAMILIES⟩)
  (Ao:W.nsIn K mainGlobals "FAMILIES"=some (some (.ref Aa)))
  :∃fd:FuncData,(∀(s:Shared) (v:Value),BindsTo s fd ⟨[v],[]⟩ [("_law_script",v)])/\∀base:Heap,K.In base->base.Ns mainGlobals mg->Wi l.prog w K mg base CX0 60 fa fd ["_law_script"] (spW K pr 60 25):=by
 have L25:=Jm (ps:=["_law_script"]) X G A8 λ_ _ _ _ _ _=>Mg λ_=>rfl
 obtain⟨AR,_,AO,⟨oc,od,kV,dc,pm,an,cd,ct,sl,rfl,ll,lc⟩,lk⟩:=A8
 have AQ:=uv (st:=Ra) ll lc lk
 have e:=hfa.symm.trans (W.mg_of X G AO)
 cases e
 have T:Txt w K mg:=⟨W.mg_none_of X G A2,W.mg_none_of X G A3,W.mg_none_of X G Al,W.mg_none_of X G A4,W.mg_none_of X G A5,W.mg_none_of X G Ax,W.mg_none_of X G Ap,W.mg_none_of X G A6,W.mg_none_of X G A7,W.mg_none_of X G Az,⟨_,u_FIGURES,W.mg_of X G Aq,r_FIGURES,λ_=>Zt⟩,⟨_,u_LETTERS,W.mg_of X G Ar,r_LETTERS,λ_=>Zt⟩,⟨.ref Af,.ref Af,W.mg_of X G Aw,rfl,λH=>(Vn (xs:=[V.str "fun",V.str "let",V.str "choose",V.str "first",V.str "stop",V.str "rows",V.str "in",V.str "when",V.str "be"]) Av (show 9<=sizeLine by decide) (.cons ⟨_,rfl⟩ (.cons ⟨_,rfl⟩ (.cons ⟨_,rfl⟩ (.cons ⟨_,rfl⟩ (.cons ⟨_,rfl⟩ (.cons ⟨_,rfl⟩ (.cons ⟨_,rfl⟩ (.cons ⟨_,rfl⟩ (.cons ⟨_,rfl⟩ .nil))))))))) (Zq Zt (Zq Zt (Zq Zt (Zq Zt (Zq Zt (Zq Zt (Zq Zt (Zq Zt (Zq Zt Ys))))))))))⟩,⟨.ref Am,.ref Am,W.mg_of X G A1,rfl,λH=>(Vn (xs:=[V.str "+",V.str "-",V.str "*",V.str "<",V.str "="]) A0 (show 5<=sizeLine by decide) (.cons ⟨_,rfl⟩ (.cons ⟨_,rfl⟩ (.cons ⟨_,rfl⟩ (.cons ⟨_,rfl⟩ (.cons ⟨_,rfl⟩ .nil))))) (Zq Zt (Zq Zt (Zq Zt (Zq Zt (Zq Zt Ys))))))⟩,⟨Ae,_,gn_SHAPES,W.mg_of X G At,gl_SHAPES,Au,⟨⟨_,rfl⟩,rfl,_,rfl⟩,⟨⟨_,rfl⟩,rfl,_,rfl⟩,⟨⟨_,rfl⟩,rfl,_,rfl⟩,⟨⟨_,rfl⟩,rfl,_,rfl⟩,⟨⟨_,rfl⟩,rfl,_,rfl⟩,trivial⟩,⟨_,u_MOST_FIGURES,W.mg_of X G Ag,r_MOST_FIGURES,λ_=>Yq⟩,⟨_,u_MOST_PAIRS,W.mg_of X G Ah,r_MOST_PAIRS,λ_=>Yq⟩,⟨.ref Aa,.ref Aa,W.mg_of X G Ao,rfl,λH=>(Vn (xs:=[V.ref Ab,V.ref Ac,V.ref Ad]) An (show 3<=sizeLine by decide) (.cons rfl (.cons rfl (.cons rfl .nil))) (Zq (Vn (xs:=[V.str "Nil",V.str "Cons"]) Ai (show 2<=sizeLine by decide) (.cons ⟨_,rfl⟩ (.cons ⟨_,rfl⟩ .nil)) (Zq Zt (Zq Zt Ys))) (Zq (Vn (xs:=[V.str "No",V.str "Yes"]) Aj (show 2<=sizeLine by decide) (.cons ⟨_,rfl⟩ (.cons ⟨_,rfl⟩ .nil)) (Zq Zt (Zq Zt Ys))) (Zq (Vn (xs:=[V.str "Pair"]) Ak (show 1<=sizeLine by decide) (.cons ⟨_,rfl⟩ .nil) (Zq Zt Ys)) Ys))))⟩⟩
 have L0:=Jm (ps:=["text"]) X G l0 λ_ _ _ _ _ _=>Mg λ_=>rfl
 have L1:=Jm (ps:=["text"]) X G l1 λ_ _ _ _ _ _=>Mg λ_=>rfl
 have L2:=Jm (ps:=["text"]) X G l2 λ_ _ _ _ _ _=>Mg λ_=>rfl
 have L3:=Jm (ps:=["words"]) X G l3 λ_ _ _ _ _ _=>Mg λ_=>rfl
 have L4:=Jm (ps:=["tree"]) X G l4 λ_ _ _ _ _ _=>Mg λ_=>rfl
 have L5:=Jm (ps:=["word"]) X G l5 λ_ _ _ _ _ _=>Mg λ_=>rfl
 have L6:=Jm (ps:=["word"]) X G l6 λ_ _ _ _ _ _=>Mg λ_=>rfl
 have L7:=Jm (ps:=["trees"]) X G l7 λ_ _ _ _ _ _=>Mg λ_=>rfl
 have L8:=Jm (ps:=["trees"]) X G l8 λ_ _ _ _ _ _=>Mg λ_=>rfl
 have L9:=Jm (ps:=["trees"]) X G l9 λ_ _ _ _ _ _=>Mg λ_=>rfl
 have L10:=Jm (ps:=["trees"]) X G A9 λ_ _ _ _ _ _=>Mg λ_=>rfl
 have L11:=Jm (ps:=["tree"]) X G AA λ_ _ _ _ _ _=>Mg λ_=>rfl
 have L12:=Jm (ps:=["trees"]) X G AB λ_ _ _ _ _ _=>Mg λ_=>rfl
 have L13:=Jm (ps:=["tree"]) X G AC λ_ _ _ _ _ _=>Mg λ_=>rfl
 have L14:=Jm (ps:=["trees"]) X G AD λ_ _ _ _ _ _=>Mg λ_=>rfl
 have L15:=Jm (ps:=["trees"]) X G AE λ_ _ _ _ _ _=>Mg λ_=>rfl
 have L16:=Jm (ps:=["tree"]) X G AF λ_ _ _ _ _ _=>Mg λ_=>rfl
 have L17:=Jm (ps:=["tree"]) X G AG λ_ _ _ _ _ _=>Mg λ_=>rfl
 have L18:=Jm (ps:=["tree"]) X G AH λ_ _ _ _ _ _=>Mg λ_=>rfl
 have L19:=Jm (ps:=["names"]) X G AI λ_ _ _ _ _ _=>Mg λ_=>rfl
 have L20:=Jm (ps:=["_law_script","_law_many"]) X G AJ λ_ _ _ _ _ _=>nw λ_ _=>rfl
 have L21:=Jm (ps:=["_law_words","_law_cell"]) X G AK λ_ _ _ _ _ _=>nw λ_ _=>rfl
 have L22:=Jm (ps:=["_law_cell"]) X G AL λ_ _ _ _ _ _=>Mg λ_=>rfl
 have L23:=Jm (ps:=["_law_words","_law_way","_law_place","_law_cell"]) X G AM λ_ _ _ _ _ _=>m6 λ_ _ _ _=>rfl
 have L24:=Jm (ps:=["_law_text"]) X G AN λ_ _ _ _ _ _=>Mg λ_=>rfl
 refine⟨W.fnOf "law" "law" (V8 Ra) (Yn Ra) (Zf Ra) .none kV dc pm an cd ct,λs v=>.of_eq rfl,λbase _ _=>?_⟩
 have XN:qs K mg "NoText" CN:=⟨W.mg_of X G aCN,_,_,_,_,PySem.F.excBase_ValueError,by decide+kernel,xCN⟩
 have R0:∀n,yU l.prog w K mg base n (Xo pr n) (λ_ _ _=>False) CN:=λn=>by
  induction n with
  | zero=>exact⟨XN,λ_ _ _ _ h=>(Ay (r:=False) rfl h).elim,v0 Jk L0,oK Jk L1,oN Jk L2,x0 Jk L3,x0 Jk L4,x0 Jk L5,v0 Jk L6,x0 Jk L7,x0 Jk L8,x0 Jk L9,x0 Jk L10,x0 Jk L11,x0 Jk L12,x0 Jk L13,x0 Jk L14,x0 Jk L15,x0 Jk L16,x0 Jk L17,x0 Jk L18,x0 Jk L19⟩
  | succ n ih=>exact⟨XN,λ_ _ _ _ h=>(Ay (r:=False) rfl h).elim,jL L0 (ro Oe T ih Nn (Yb rfl)),rG L1 (ni En T ih E9 (Yb rfl)),pf L2 (nh Ud T ih U8 (Yb rfl)),J7 L3 (Sk Se T ih Re (Yb rfl)),J7 L4 (Sk Oa T ih Rf (Yb rfl)),J7 L5 (Sk Ts T ih Qa (Yb rfl)),jL L6 (ro Tw T ih Qe (Yb rfl)),J7 L7 (Sk Tt T ih Qb (Yb rfl)),J7 L8 (Sk Rt T ih Ta (Yb rfl)),J7 L9 (Sk Tz T ih V7 (Yb rfl)),J7 L10 (Sk Rq T ih U9 (Yb rfl)),J7 L11 (Sk Oc T ih Rh (Yb rfl)),J7 L12 (Sk Vk T ih Wr (Yb rfl)),J7 L13 (Sk Xv T ih Js (Yb rfl)),J7 L14 (Sk Tu T ih Qc (Yb rfl)),J7 L15 (Sk Tv T ih Qd (Yb rfl)),J7 L16 (Sk Ob T ih Rg (Yb rfl)),J7 L17 (Sk Rs T ih Og (Yb rfl)),J7 L18 (Sk Od T ih Nm (Yb rfl)),J7 L19 (Sk W0 T ih Ug (Yb rfl))⟩
 have R1:∀n,yU l.prog w K mg base n (λj=>Xo pr n (j+M)) (Er [(CN,True)]) CN:=λn=>by
  induction n with
  | zero=>exact⟨XN,λ_ _ _ _ _=>⟨_,.head _,rfl,trivial⟩,v0 Yp L0,oK Yp L1,oN Yp L2,x0 Yp L3,x0 Yp L4,x0 Yp L5,v0 Yp L6,x0 Yp L7,x0 Yp L8,x0 Yp L9,x0 Yp L10,x0 Yp L11,x0 Yp L12,x0 Yp L13,x0 Yp L14,x0 Yp L15,x0 Yp L16,x0 Yp L17,x0 Yp L18,x0 Yp L19⟩
  | succ n ih=>exact⟨XN,λ_ _ _ _ _=>⟨_,.head _,rfl,trivial⟩,jL L0 (ro Oe T ih Nn (Ya rfl)),rG L1 (ni En T ih E9 (Ya rfl)),pf L2 (nh Ud T ih U8 (Ya rfl)),J7 L3 (Sk Se T ih Re (Ya rfl)),J7 L4 (Sk Oa T ih Rf (Ya rfl)),J7 L5 (Sk Ts T ih Qa (Ya rfl)),jL L6 (ro Tw T ih Qe (Ya rfl)),J7 L7 (Sk Tt T ih Qb (Ya rfl)),J7 L8 (Sk Rt T ih Ta (Ya rfl)),J7 L9 (Sk Tz T ih V7 (Ya rfl)),J7 L10 (Sk Rq T ih U9 (Ya rfl)),J7 L11 (Sk Oc T ih Rh (Ya rfl)),J7 L12 (Sk Vk T ih Wr (Ya rfl)),J7 L13 (Sk Xv T ih Js (Ya rfl)),J7 L14 (Sk Tu T ih Qc (Ya rfl)),J7 L15 (Sk Tv T ih Qd (Ya rfl)),J7 L16 (Sk Ob T ih Rg (Ya rfl)),J7 L17 (Sk Rs T ih Og (Ya rfl)),J7 L18 (Sk Od T ih Nm (Ya rfl)),J7 L19 (Sk W0 T ih Ug (Ya rfl))⟩
 have CS:∀n,Cs l.prog w K mg base n pr CN:=λn=>by
  induction n with
  | zero=>exact⟨XN,qCN,aCN,⟨_,W.mg_of X G h_IdleError.choose_spec.1,h_IdleError.choose_spec.2⟩,.inl ⟨_,W.mg_of X G i_NoKind.choose_spec.1,Yr aCN xk i_NoKind.choose_spec.2⟩,.inl ⟨_,W.mg_of X G i_NoName.choose_spec.1,Yr aCN xk i_NoName.choose_spec.2⟩,.inl ⟨_,W.mg_of X G i_NoRow.choose_spec.1,Yr aCN xk i_NoRow.choose_spec.2⟩,.inl ⟨_,W.mg_of X G i_NoText.choose_spec.1,Yr aCN xk i_NoText.choose_spec.2⟩,.inl ⟨_,W.mg_of X G i_NoThing.choose_spec.1,Yr aCN xk i_NoThing.choose_spec.2⟩,.inl ⟨_,W.mg_of X G i_Ring.choose_spec.1,Yr aCN xk i_Ring.choose_spec.2⟩,.inl ⟨_,W.mg_of X G i_Spent.choose_spec.1,Yr aCN xk i_Spent.choose_spec.2⟩,.inl ⟨_,W.mg_of X G i_Stopped.choose_spec.1,Yr aCN xk i_Stopped.choose_spec.2⟩,.inl ⟨_,W.mg_of X G i_Unbound.choose_spec.1,Yr aCN xk i_Unbound.choose_spec.2⟩,.inr ⟨"ValueError",W.mg_none_of X G i_ValueError.1,by decide+kernel,Yr aCN xk i_ValueError.2⟩,(R0 0).zag,(R0 0).k_read,(R1 0).k_read,(R0 0).zak,tH L20,tH L21,tH L22,tH L23,Ca.one (tH L24),tH L25⟩
  | succ n ih=>exact⟨XN,qCN,aCN,⟨_,W.mg_of X G h_IdleError.choose_spec.1,h_IdleError.choose_spec.2⟩,.inl ⟨_,W.mg_of X G i_NoKind.choose_spec.1,Yr aCN xk i_NoKind.choose_spec.2⟩,.inl ⟨_,W.mg_of X G i_NoName.choose_spec.1,Yr aCN xk i_NoName.choose_spec.2⟩,.inl ⟨_,W.mg_of X G i_NoRow.choose_spec.1,Yr aCN xk i_NoRow.choose_spec.2⟩,.inl ⟨_,W.mg_of X G i_NoText.choose_spec.1,Yr aCN xk i_NoText.choose_spec.2⟩,.inl ⟨_,W.mg_of X G i_NoThing.choose_spec.1,Yr aCN xk i_NoThing.choose_spec.2⟩,.inl ⟨_,W.mg_of X G i_Ring.choose_spec.1,Yr aCN xk i_Ring.choose_spec.2⟩,.inl ⟨_,W.mg_of X G i_Spent.choose_spec.1,Yr aCN xk i_Spent.choose_spec.2⟩,.inl ⟨_,W.mg_of X G i_Stopped.choose_spec.1,Yr aCN xk i_Stopped.choose_spec.2⟩,.inl ⟨_,W.mg_of X G i_Unbound.choose_spec.1,Yr aCN xk i_Unbound.choose_spec.2⟩,.inr ⟨"ValueError",W.mg_none_of X G i_ValueError.1,by decide+kernel,Yr aCN xk i_ValueError.2⟩,(R0 (n+1)).zag,(R0 (n+1)).k_read,(R1 (n+1)).k_read,(R0 (n+1)).zak,jL L20 (tG Ue T ih Sj rfl),jL L21 (tG Q7 T ih Si rfl),jL L22 (tG Mm T ih Oh rfl),jL L23 (tG Sv T ih Xh rfl),pf L24 (pR T0 T ih Uh rfl),jL L25 (tG yL T ih Fo rfl)⟩
 exact tG yL T (CS (59)) Fo rfl AQ
end K18
namespace WL
open PySem PySem.Spec PyProof.Rows L2
def Ex (C C':Hw):Prop:=∀a o,C a=some o->C' a=some o
def Ex.refl (C:Hw):Ex C C:=λ_ _ h=>h
def Ex.trans {C C1 C2:Hw}(a:Ex C C1)(b:Ex C1 C2):Ex C C2:=λc o h=>b c o (a c o h)
def cne {C:Hw}{a b:Addr}{o:O}(h:C a=some o)(h':C b=none):a≠b:=λe=>by subst e;rw[h] at h';cases h'
def ox {C:Hw}{a b:Addr}{o:O}(h:C a=some o)(h':C b=none):b≠a:=λe=>cne h h' e.symm
def Ex.new {C:Hw}{p:Addr}{o:O}(h:C p=none):Ex C (up C p o):=λa u e=>by rw[Jq (cne e h)];exact e
def nt {C:Hw}{p q:Addr}{o:O}(h:up C p o q=none):q≠p/\C q=none:=by
 have n:q≠p:=λz=>by subst z;rw[Zj] at h;cases h
 rw[Jq n] at h
 exact⟨n,h⟩
def Ex.free {C C':Hw}(e:Ex C C'){p:Addr}(h:C' p=none):C p=none:=by
 cases q:C p with
 | none=>rfl
 | some o=>rw[e p o q] at h;cases h
def ln (p:Addr)(C C':Hw):Prop:=∀a o,a≠p->C a=some o->C' a=some o
def Py:∀{xs:List T} {n:Nat},Y4 xs n=true↔∀x∈xs,Jy x n=true
 | [],n=>by unfold Y4;simp
 | x::xs,n=>by unfold Y4;rw[Bool.and_eq_true,Py];simp
def yf {xs:List T}{n:Nat}(h:∀x∈xs,Jy x n=true):Jy (.tup xs) (n+1)=true:=by unfold Jy;exact Py.mpr h
def Vq {x:Str}{n:Nat}:Jy (.str x) n=true:=by unfold Jy;rfl
def yg {x:Int}{n:Nat}:Jy (.int x) n=true:=by unfold Jy;rfl
def jZ {x:Bool}{n:Nat}:Jy (.bl x) n=true:=by unfold Jy;rfl
def Nw {x:Str}:Yv (.str x)=True:=eq_true Vq
def Nx {x:Int}:Yv (.int x)=True:=eq_true yg
def Lh {x:Bool}:Yv (.bl x)=True:=eq_true jZ
def N3 {xs:List Str}{n:Nat}:Y4 (xs.map T.str) n=true:=Py.mpr λx hx=>by obtain⟨y,_,rfl⟩:=XR.mp hx;exact Vq
section
variable {n:Bool}{C:Hw}{Q:WK}
def Ly {a b:Str}:Nf n (.str a) (.str b) C Q=Q (.bl (if n=true then !(a==b) else a==b)) C:=by
 show(Yv _/\Yv _/\Q (.bl (if n=true then !eqT (.str a) (.str b) else eqT (.str a) (.str b))) C)=_
 rw[Nw,Nw,true_and,true_and,show eqT (.str a) (.str b)=(a==b) by unfold eqT;rfl]
def Ka {a b:Int}:Nf n (.int a) (.int b) C Q=Q (.bl (if n=true then !(a==b) else a==b)) C:=by
 show(Yv _/\Yv _/\Q (.bl (if n=true then !eqT (.int a) (.int b) else eqT (.int a) (.int b))) C)=_
 rw[Nx,Nx,true_and,true_and,show eqT (.int a) (.int b)=(a==b) by unfold eqT;rfl]
def wE {a b:Bool}:Nf n (.bl a) (.bl b) C Q=Q (.bl (if n=true then !(a==b) else a==b)) C:=by
 show(Yv _/\Yv _/\Q (.bl (if n=true then !eqT (.bl a) (.bl b) else eqT (.bl a) (.bl b))) C)=_
 rw[Lh,Lh,true_and,true_and,show eqT (.bl a) (.bl b)=(a==b) by unfold eqT;rfl]
end
section
variable {α:Type}{a b c d e:α}{xs:List α}
def u8:(a::xs).eraseIdx 0=xs:=rfl
def Xa:Ub (a::xs) 0=some a:=Sa (j:=0) rfl
def Gw:Ub (a::b::xs) 1=some b:=Sa (j:=1) rfl
def qq:Ub (a::b::c::xs) 2=some c:=Sa (j:=2) rfl
def qp:Ub (a::b::c::d::xs) 3=some d:=Sa (j:=3) rfl
def qo:Ub (a::b::c::d::e::xs) 4=some e:=Sa (j:=4) rfl
def uV:Ub [a] (-1)=some a:=rfl
def uU:Ub [a,b] (-1)=some b:=rfl
def uT:Ub [a,b,c] (-1)=some c:=rfl
def uS:Ub [a,b,c,d] (-1)=some d:=rfl
end
def K3 {g:WG}{b:WS}{ok:Hw->Prop}{D:We}{xs:List T}(Pv:Nat->Sw->Hw->Prop){τ:Sw}{C:Hw}(h0:Pv 0 τ C)(hok:∀i τ C,i<=xs.length->Pv i τ C->ok C)
  (hs:∀i x τ C (N:Sw->Hw->Prop),xs[i]?=some x->Pv i τ C->(∀τ' C',Pv (i+1) τ' C'->N τ' C')->g x τ C (λτ2 C2=>b {D with nx:=N,ct:=N,bk:=D.nx} τ2 C2) D.xc)
  (hd:∀τ C,Pv xs.length τ C->D.nx τ C):Mu g b ok D xs τ C:=by
 have key:∀(k i:Nat) (τ:Sw) (C:Hw),xs.length-i=k->i<=xs.length->Pv i τ C->Mu g b ok D (xs.drop i) τ C:=by
  intro k
  induction k with
  | zero=>
   intro i τ C hk hi hp
   have e:i=xs.length:=by omega
   subst e
   rw[List.drop_length]
   exact⟨hok _ τ C (XE _) hp,hd τ C hp⟩
  | succ k ih=>
   intro i τ C hk hi hp
   have hlt:i<xs.length:=by omega
   rw[List.drop_eq_getElem_cons hlt]
   exact⟨hok i τ C hi hp,hs i _ τ C _ (by simp[hlt]) hp λτ' C' h=>ih (i+1) τ' C' (by omega) hlt h⟩
 exact key xs.length 0 τ C (by simp) (Nat.zero_le _) h0
def O1 (lo:Int)(n:Nat):(rng lo n).length=n:=by unfold rng;simp
def Kn {lo:Int}{n i:Nat}{x:T}(h:(rng lo n)[i]?=some x):i<n/\x=.int (lo+i):=by
 have hi:i<n:=by
  have:=(List.getElem?_eq_some_iff.mp h).1
  rw[O1] at this;exact this
 unfold rng at h
 rw[XM,List.getElem?_range hi] at h
 cases h
 exact⟨hi,rfl⟩
def Dx {g:WG}{b:WS}{ok:Hw->Prop}{D:We}{lo:Int}{n:Nat}(Pv:Nat->Sw->Hw->Prop){τ:Sw}{C:Hw}(h0:Pv 0 τ C)(hok:∀C,ok C)
  (hs:∀i τ C (N:Sw->Hw->Prop),i<n->Pv i τ C->(∀τ' C',Pv (i+1) τ' C'->N τ' C')->g (.int (lo+i)) τ C (λτ2 C2=>b {D with nx:=N,ct:=N,bk:=D.nx} τ2 C2) D.xc)
  (hd:∀τ C,Pv n τ C->D.nx τ C):Mu g b ok D (rng lo n) τ C:=by
 refine K3 Pv h0 (λ_ _ C _ _=>hok C) (λi x τ C N hx hp hN=>?_) (λτ C h=>hd τ C (by rw[O1] at h;exact h))
 obtain⟨hi,rfl⟩:=Kn hx
 exact hs i τ C N hi hp hN
def Gs {g:WG}{c:WT}{e:WE}{ok:Hw->Prop}{τ:Sw}{Q:List T->Hw->Prop}{χ:WX}{xs:List T}(Pv:Nat->List T->Hw->Prop){C:Hw}(h0:Pv 0 [] C)(hok:∀i acc C,i<=xs.length->Pv i acc C->ok C)
  (hs:∀i x acc C (N:List T->Hw->Prop),xs[i]?=some x->Pv i acc C->(∀acc' C',Pv (i+1) acc' C'->N acc' C')->
   g x τ C (λτ2 C2=>c τ2 C2 (λb C3=>if b=true then e τ2 C3 (λv C4=>acc.length<sizeLine/\N (acc++[v]) C4) χ else N acc C3) χ) χ)
  (hd:∀acc C,Pv xs.length acc C->Q acc C):Tj g c e ok τ Q χ xs [] C:=by
 have key:∀(k i:Nat) (acc:List T) (C:Hw),xs.length-i=k->i<=xs.length->Pv i acc C->Tj g c e ok τ Q χ (xs.drop i) acc C:=by
  intro k
  induction k with
  | zero=>
   intro i acc C hk hi hp
   have e:i=xs.length:=by omega
   subst e
   rw[List.drop_length]
   exact⟨hok _ acc C (XE _) hp,hd acc C hp⟩
  | succ k ih=>
   intro i acc C hk hi hp
   have hlt:i<xs.length:=by omega
   rw[List.drop_eq_getElem_cons hlt]
   exact⟨hok i acc C hi hp,hs i _ acc C _ (by simp[hlt]) hp λacc' C' h=>ih (i+1) acc' C' (by omega) hlt h⟩
 exact key xs.length 0 [] C (by simp) (Nat.zero_le _) h0
def D8 {g:WG}{c:WT}{e:WE}{ok:Hw->Prop}{τ:Sw}{Q:List T->Hw->Prop}{χ:WX}{xs:List T}(f:T->Option T){C:Hw}(hok:ok C)(hl:xs.length<=sizeLine)
  (hs:∀x∈xs,∀(R:WK) (N:Hw->Prop),(∀v,f x=some v->R v C)->(f x=none->N C)->g x τ C (λτ2 C2=>c τ2 C2 (λb C3=>if b=true then e τ2 C3 R χ else N C3) χ) χ) (hd:Q (xs.filterMap f) C):Tj g c e ok τ Q χ xs [] C:=by
 refine Gs (λi acc C'=>C'=C/\acc=(xs.take i).filterMap f) ⟨rfl,rfl⟩ (λi acc C' _ h=>by rw[h.1];exact hok) (λi x acc C' N hx hp hN=>?_) (λacc C' h=>?_)
 ·obtain⟨rfl,rfl⟩:=hp
  have hi:i<xs.length:=(List.getElem?_eq_some_iff.mp hx).1
  refine hs x (List.mem_of_getElem? hx) _ _ (λv hv=>⟨?_,hN _ _ ⟨rfl,?_⟩⟩) (λhv=>hN _ _ ⟨rfl,?_⟩)
  ·have:=List.length_filterMap_le f (xs.take i)
   rw[YM] at this
   omega
  ·rw[YD,hx,List.filterMap_append]
   simp[hv]
  ·rw[YD,hx,List.filterMap_append]
   simp[hv]
 ·obtain⟨rfl,rfl⟩:=h
  rw[List.take_length];exact hd
def T9 {g:WG}{e:WE}{ok:Hw->Prop}{τ:Sw}{Q:List T->Hw->Prop}{χ:WX}{xs:List T}(f:T->T){C:Hw}(hok:ok C)(hl:xs.length<=sizeLine)
  (hs:∀x∈xs,∀R:WK,R (f x) C->g x τ C (λτ2 C2=>e τ2 C2 R χ) χ) (hd:Q (xs.map f) C):Tj g Cz e ok τ Q χ xs [] C:=by
 refine Gs (λi acc C'=>C'=C/\acc=(xs.take i).map f) ⟨rfl,rfl⟩ (λi acc C' _ h=>by rw[h.1];exact hok) (λi x acc C' N hx hp hN=>?_) (λacc C' h=>?_)
 ·obtain⟨rfl,rfl⟩:=hp
  have hi:i<xs.length:=(List.getElem?_eq_some_iff.mp hx).1
  refine hs x (List.mem_of_getElem? hx) _ ⟨?_,hN _ _ ⟨rfl,?_⟩⟩
  ·rw[XI,YM];omega
  ·rw[YD,hx,XL];rfl
 ·obtain⟨rfl,rfl⟩:=h
  rw[List.take_length];exact hd
def Hn {z:Str}{zs:List Str}:Pt (.str z) (zs.map T.str)=decide (z∈zs):=by
 unfold Pt
 rw[List.any_map]
 induction zs with
 | nil=>rfl
 | cons y ys ih=>
  rw[List.any_cons,ih]
  have e:(((λy=>eqT y (.str z))∘T.str) y)=(y==z):=by show eqT (.str y) (.str z)=_;unfold eqT;rfl
  rw[e]
  by_cases h:y=z
  ·subst h;simp
  ·have h':z≠y:=λq=>h q.symm
   simp[h,h']
def yE {ds:List Int}{i:Int}(h0:0<=i)(h1:i<(ds.length:Int)):∃d,Ub (ds.map T.int) i=some (.int d)/\d∈ds:=by
 obtain⟨v,h,m⟩:=Ua (xs:=ds.map T.int) h0 (by simpa using h1)
 obtain⟨d,hd,rfl⟩:=XR.mp m
 exact⟨d,h,hd⟩
def Jr {n:Nat}(h:n<=100000):n<=sizeLine:=Nat.le_trans h (by decide)
def U7 {n:Nat}(h:n<=100000):n<sizeLine:=Nat.lt_of_le_of_lt h (by decide)
end WL
namespace Rd
open PySem PySem.Spec PyProof.Rows L2 WL
inductive Tr where
 | w (x:Str)
 | n (ts:List Tr)
abbrev Q8 (j:Str)(c:Nat):Bool:=!(Builtin.Str.occurrences j ⟨#[c]⟩ 0 j.length 1).isEmpty
def Bt:List Str:=["fun","let","choose","first","stop","rows","in","when","be"]
def ops:List Str:=["+","-","*","<","="]
def Ez:List (Str×Int):=[("Nil",0),("Cons",2),("No",0),("Yes",0),("Pair",2)]
def Gb:List (List Str):=[["Nil","Cons"],["No","Yes"],["Pair"]]
def Xu (x:Str):Bool:=match x.cps.toList with
 | []=>false
 | c::_=>decide (x.length<=8)&&Q8 "abcdefghijklmnopqrstuvwxyz" c&&decide (x∉Bt)&&x.cps.toList.all λd=>Q8 "abcdefghijklmnopqrstuvwxyz" d||Q8 "0123456789" d
def W3 (x:Str):Bool:=match x.cps.toList with
 | []=>false
 | c::_=>decide (x.length<=18)&&(!((⟨#[c]⟩:Str)=="0")||x=="0")&&x.cps.toList.all λd=>Q8 "0123456789" d
def J5 (x:Str):Option T:=
 if Xu x=true then some (.tup [.str "name",.str x]) else if W3 x=true then(intText? x).map λv=>.tup [.str "number",.int v] else if Ez.lookup x=some 0 then some (.tup [.str "shape",.str x,.tup []]) else none
def Xp:Tr->Option Str
 | .w x=>if Xu x=true then some x else none
 | .n _=>none
def all {α β:Type}(f:α->Option β):List α->Option (List β)
 | []=>some []
 | a::r=>match f a,all f r with
  | some b,some bs=>some (b::bs)
  | _,_=>none
section
variable (g:Tr->Option T)
def two:List Tr->Option (T×T)
 | [a,b]=>match g a,g b with
  | some x,some y=>some (x,y)
  | _,_=>none
 | _=>none
def oh (ss:List Str)(t:T):T:=ss.foldr (λs t=>.tup [.str "fun",.str s,t]) t
instance:Inhabited Tr:=⟨.w ""⟩
def Oj (ts:List Tr):Option T:=if ts.length<2 then none else match all Xp ts.dropLast,g ts.getLast! with
 | some ss,some t=>some (oh ss t)
 | _,_=>none
def wj (f:T)(as:List T):T:=as.foldl (λf a=>.tup [.str "call",f,a]) f
def Vb (ts:List Tr):Option T:=if ts.length<2 then none else match all g ts with
 | some (f::as)=>some (wj f as)
 | _=>none
def Ws:Tr->Option (Str×T)
 | .n [a,b]=>match Xp a,g b with
  | some s,some t=>some (s,t)
  | _,_=>none
 | _=>none
def Oi (ts:List Tr):Option T:=if ts.length<2\/ts.length>6 then none else match all (Ws g) ts.dropLast,g ts.getLast! with
 | some ps,some b=>if (ps.map (·.1)).Nodup then some (.tup [.str "let",.tup (ps.map λp=>.tup [.str p.1,p.2]),b]) else none
 | _,_=>none
def Qu:Tr->Option (Str×List Str×T)
 | .n (.w s::r)=>if r=[] then none else match all Xp r.dropLast,g r.getLast! with
  | some ns,some b=>if ns.Nodup/\Ez.lookup s=some (ns.length:Int) then some (s,ns,b) else none
  | _,_=>none
 | _=>none
def Jo:List Tr->Option T
 | []=>none
 | t::as=>match g t,all (Qu g) as with
  | some x,some bs=>if bs.map (·.1)∈Gb then some (.tup [.str "choose",x,.tup (bs.map λb=>.tup [.str b.1,.tup (b.2.1.map T.str),b.2.2])]) else none
  | _,_=>none
def Xd:Tr->Option T
 | .n [.w s,t]=>if s="when" then(g t).map λx=>.tup [.str s,x] else none
 | .n [.w s,a,t]=>if s="in"\/s="be" then(match Xp a,g t with
  | some y,some x=>some (.tup [.str s,.str y,x])
  | _,_=>none) else none
 | _=>none
def Va:List Tr->Option T
 | []=>none
 | t::ss=>match g t,all (Xd g) ss with
  | some x,some ys=>some (.tup [.str "rows",x,.tup ys])
  | _,_=>none
def Tb:List Tr->Option T
 | []=>none
 | .n us::r=>Vb g (.n us::r)
 | .w x::r=>
  if x∈ops then(two g r).map λp=>.tup [.str "does",.str x,p.1,p.2]
  else if x="fun" then Oj g r
  else if x="let" then Oi g r
  else if x="choose" then Jo g r
  else if x="first" then(two g r).map λp=>.tup [.str "first",p.1,p.2]
  else if x="stop" then(match r with | [t]=>(Xp t).map λs=>.tup [.str "stop",.str s] | _=>none)
  else if x="rows" then Va g r
  else if x="Cons"\/x="Pair" then(two g r).map λp=>.tup [.str "shape",.str x,.tup [p.1,p.2]]
  else Vb g (.w x::r)
end
def rd:Nat->Tr->Option T
 | _,.w x=>J5 x
 | 0,.n _=>none
 | n+1,.n ts=>Tb (rd n) ts
end Rd
namespace WL
open PySem PySem.Builtin PySem.Builtin.Str PySem.StrLaws
section
variable {x y:Str}{a b:Nat}
def B4 {z p:Str}{q:Str}{r:List Str}:(glued z (p::q::r)).cps.toList=p.cps.toList++z.cps.toList++(glued z (q::r)).cps.toList:=by
 rw[glued_eq_join,glued_eq_join]
 show(p++z++Str.join z (q::r)).cps.toList=_
 rw[Str.cps_append,Str.cps_append];simp
end
def md (c:Nat):Bool:=c !=32&&c !=40&&c !=41
def gw (w:Str):Bool:=w=="("||w==")"||(decide (1<=w.length)&&decide (w.length<=20)&&w.cps.toList.all md)
def J:List Str->List Nat
 | []=>[]
 | [w]=>w.cps.toList
 | w::v::r=>w.cps.toList++32::J (v::r)
def O0 {a b:Str}(h:a.cps.toList=b.cps.toList):a=b:=Str.ext' (Array.toList_inj.mp h)
def Wd (a:Nat)(z:List Nat)(l:List Nat):List Nat:=l.flatMap λc=>if c=a then z else[c]
def Vo (a:Nat):Nat->List Nat->List Nat
 | i,c::r=>if c=a then i::Vo a (i+1) r else Vo a (i+1) r
 | _,[]=>[]
def Ut (a:Nat):List Nat->List (List Nat)
 | []=>[[]]
 | c::r=>if c=a then[]::Ut a r else match Ut a r with
  | p::ps=>(c::p)::ps
  | []=>[[c]]
def Rc (a:Nat):∀l,∃p ps,Ut a l=p::ps
 | []=>⟨_,_,rfl⟩
 | c::r=>by
  unfold Ut
  split
  ·exact⟨_,_,rfl⟩
  ·obtain⟨p,ps,e⟩:=Rc a r
   rw[e];exact⟨_,_,rfl⟩
section
variable {x y:Str}{a:Nat}
def Eu {i:Nat}(hy:y.cps.toList=[a]):subAt x y i=true↔∃r,x.cps.toList.drop i=a::r:=by
 have h2:y.length=1:=by show y.cps.size=1;rw[<-Array.length_toList,hy];rfl
 rw[subAt_eq,hy,h2,beq_iff_eq]
 match x.cps.toList.drop i with
 | []=>simp
 | u::r=>simp
def zD (hy:y.cps.toList=[a]):∀(m i:Nat) (acc:Array Nat) (free:Nat),x.length+1-i=m->i<=x.length+1->free<=i->acc.size<=i->
  (forIn (List.range' i (x.length+1-i)) (acc,free) (occBody x y x.length (x.length+1))).run.fst.toList=acc.toList++Vo a i (x.cps.toList.drop i):=by
 have h2:y.length=1:=by show y.cps.size=1;rw[<-Array.length_toList,hy];rfl
 have hL:x.cps.toList.length=x.length:=by simp[Str.length]
 intro m
 induction m with
 | zero=>
  intro i acc free hm hi hf ha
  rw[hm]
  have:x.cps.toList.drop i=[]:=List.drop_eq_nil_of_le (by omega)
  rw[this]
  simp[Vo]
 | succ k ih=>
  intro i acc free hm hi hf ha
  rw[hm,List.range'_succ,List.forIn_cons]
  have hk':x.length+1-(i+1)=k:=by omega
  by_cases hs:subAt x y i=true
  ·obtain⟨r,hr⟩:=(Eu hy).mp hs
   have hlen:i+1<=x.length:=by
    have:=congrArg List.length hr
    rw[List.length_drop,hL,YF] at this
    omega
   have hb:occBody x y x.length (x.length+1) i (acc,free)=pure (ForInStep.yield (acc.push i,i+1)):=by
    unfold occBody
    rw[XY ⟨⟨⟨by show acc.size<_;omega,hf⟩,by rw[h2];omega⟩,hs⟩,h2]
   rw[hb]
   show(forIn (List.range' (i+1) k) (acc.push i,i+1) (occBody x y x.length (x.length+1))).run.fst.toList=_
   have e:=ih (i+1) (acc.push i) (i+1) (by omega) (by omega) (Nat.le_refl _) (by simp;omega)
   rw[hk'] at e
   rw[e,hr]
   have hd:x.cps.toList.drop (i+1)=r:=by
    rw[<-List.drop_drop,hr];rfl
   rw[hd]
   simp[Vo]
  ·have hb:occBody x y x.length (x.length+1) i (acc,free)=pure (ForInStep.yield (acc,free)):=by
    unfold occBody
    rw[XX (λh=>hs h.2)]
   rw[hb]
   show(forIn (List.range' (i+1) k) (acc,free) (occBody x y x.length (x.length+1))).run.fst.toList=_
   have e:=ih (i+1) acc free (by omega) (by omega) (by omega) (by omega)
   rw[hk'] at e
   rw[e]
   have hn:¬∃r,x.cps.toList.drop i=a::r:=λh=>hs ((Eu hy).mpr h)
   have hd:x.cps.toList.drop (i+1)=(x.cps.toList.drop i).drop 1:=by rw[List.drop_drop]
   rw[hd]
   match hx:x.cps.toList.drop i with
   | []=>simp[Vo]
   | u::r=>
    have:¬(u=a):=λh1=>hn ⟨r,by rw[hx,h1]⟩
    show _=acc.toList++(if u=a then _ else _)
    rw[XX this];rfl
def Hf (hy:y.cps.toList=[a]):occurrences x y 0 x.length (x.length+1)=Vo a 0 x.cps.toList:=by
 rw[occ_eq]
 have:=zD (x:=x) hy (x.length+1) 0 #[] 0 rfl (XO _) (XE _) (XE _)
 simpa using this
def Bl:∀(m i lo:Nat),x.length-i=m->lo<=i->i<=x.length->∀p ps,Ut a (x.cps.toList.drop i)=p::ps->
  (partsFrom x 1 lo (Vo a i (x.cps.toList.drop i))).map (λz=>z.cps.toList)=((x.cps.toList.drop lo).take (i-lo)++p)::ps:=by
 have hL:x.cps.toList.length=x.length:=by simp[Str.length]
 intro m
 induction m with
 | zero=>
  intro i lo hm hlo hi p ps hs
  have hx:x.cps.toList.drop i=[]:=List.drop_eq_nil_of_le (by omega)
  rw[hx] at hs |-
  cases hs
  show[(strSub x lo x.length).cps.toList]=_
  rw[strSub_toList,YK,show i-lo=x.length-lo by omega]
 | succ k ih=>
  intro i lo hm hlo hi p ps hs
  match hx:x.cps.toList.drop i with
  | []=>
   have:=congrArg List.length hx
   rw[List.length_drop,hL,List.length_nil] at this
   omega
  | u::r=>
   rw[hx] at hs
   have hd1:x.cps.toList.drop (i+1)=r:=by rw[<-List.drop_drop,hx];rfl
   by_cases c:u=a
   ·have e1:Vo a i (u::r)=i::Vo a (i+1) r:=by simp[Vo,c]
    have e2:Ut a (u::r)=[]::Ut a r:=by simp[Ut,c]
    rw[e2] at hs
    cases hs
    obtain⟨p',ps',e'⟩:=Rc a r
    have e3:=ih (i+1) (i+1) (by omega) (XE _) (by omega) p' ps' (by rw[hd1];exact e')
    rw[hd1] at e3
    rw[e1]
    show(strSub x lo i).cps.toList::(partsFrom x 1 (i+1) (Vo a (i+1) r)).map _=_
    rw[e3,strSub_toList,e']
    simp
   ·have e1:Vo a i (u::r)=Vo a (i+1) r:=by simp[Vo,c]
    obtain⟨p',ps',e'⟩:=Rc a r
    have e2:Ut a (u::r)=(u::p')::ps':=by simp[Ut,c,e']
    rw[e2] at hs
    cases hs
    have e3:=ih (i+1) lo (by omega) (by omega) (by omega) p' _ (by rw[hd1];exact e')
    rw[hd1] at e3
    rw[e1,e3]
    have:(x.cps.toList.drop lo).take (i+1-lo)=(x.cps.toList.drop lo).take (i-lo)++[u]:=by
     rw[show i+1-lo=(i-lo)+1 by omega,YD,List.getElem?_drop,show lo+(i-lo)=i by omega]
     have hu:x.cps.toList[i]?=some u:=by
      have:=congrArg (·[0]?) hx
      simpa using this
     rw[hu];rfl
    rw[this];simp
def gl (z:List Nat):List (List Nat)->List Nat
 | []=>[]
 | [p]=>p
 | p::q::r=>p++z++gl z (q::r)
def Hv {z:Str}:∀ps:List Str,(glued z ps).cps.toList=gl z.cps.toList (ps.map λp=>p.cps.toList)
 | []=>by rw[glued_eq_join];rfl
 | [p]=>by rw[glued_eq_join];rfl
 | p::q::r=>by rw[B4,Hv (q::r)];rfl
def Eb {z:List Nat}:∀l,gl z (Ut a l)=Wd a z l
 | []=>rfl
 | c::r=>by
  obtain⟨p,ps,e⟩:=Rc a r
  have ih:=Eb (z:=z) r
  by_cases h:c=a
  ·have e2:Ut a (c::r)=[]::p::ps:=by simp[Ut,h,e]
   rw[e2]
   show[]++z++gl z (p::ps)=_
   rw[<-e,ih]
   simp[Wd,h]
  ·have e2:Ut a (c::r)=(c::p)::ps:=by simp[Ut,h,e]
   rw[e2]
   rw[e] at ih
   have:Wd a z (c::r)=c::Wd a z r:=by simp[Wd,h]
   rw[this,<-ih]
   cases ps with
   | nil=>rfl
   | cons q r=>rfl
def Nq:∀{i:Nat} {l:List Nat},Vo a i l=[]->∀c∈l,c≠a
 | _,[],_=>λc hc=>by cases hc
 | i,c::r,h=>by
  by_cases e:c=a
  ·simp[Vo,e] at h
  ·have h':Vo a (i+1) r=[]:=by simpa[Vo,e] using h
   intro d hd
   rcases List.mem_cons.mp hd with rfl | hd
   ·exact e
   ·exact Nq h' d hd
def R8:∀{l:List Nat},(∀c∈l,c≠a)->Ut a l=[l]
 | [],_=>rfl
 | c::r,h=>by
  have e:=R8 (l:=r) λd hd=>h d (by simp[hd])
  simp[Ut,h c (by simp),e]
def T3 {z:List Nat}:∀{l:List Nat},(∀c∈l,c≠a)->Wd a z l=l:=λ{l} h=>by
 rw[<-Eb,R8 h];rfl
def Lc:(partsFrom x 1 0 (Vo a 0 x.cps.toList)).map (λz=>z.cps.toList)=Ut a x.cps.toList:=by
 obtain⟨p,ps,e⟩:=Rc a x.cps.toList
 have:=Bl (x:=x) (a:=a) x.length 0 0 rfl (Nat.le_refl _) (Nat.zero_le _) p ps (by simpa using e)
 simp only[List.drop_zero,Nat.sub_self,List.take_zero,List.nil_append] at this
 rw[this,e]
def Xi {z:Str}(hy:y.cps.toList=[a]):(Txt.replace x y z).cps.toList=Wd a z.cps.toList x.cps.toList:=by
 have h2:y.length=1:=by show y.cps.size=1;rw[<-Array.length_toList,hy];rfl
 unfold Txt.replace
 rw[Hf hy]
 have h20:(y.length==0&&z.length==0)=false:=by rw[h2];rfl
 rw[h20,Bool.or_false]
 split
 ·rename_i h
  exact(T3 (Nq (List.isEmpty_iff.mp h))).symm
 ·rw[partsBetween_eq,h2,Hv,Lc,Eb]
def C9 (hy:y.cps.toList=[a])(hk:∀x:Str,¬Builtin.Str.strKind x<Builtin.Str.strKind y):(Txt.split x y).map (λz=>z.cps.toList)=Ut a x.cps.toList:=by
 have h2:y.length=1:=by show y.cps.size=1;rw[<-Array.length_toList,hy];rfl
 unfold Txt.split
 rw[Hf hy]
 split
 ·rename_i h
  rw[Bool.or_eq_true,decide_eq_true_eq,decide_eq_true_eq] at h
  rcases h with h | h
  ·have:x.cps.toList=[]:=List.eq_nil_of_length_eq_zero (by rw[h2] at h;have e:x.cps.toList.length=x.length:=(by simp[Str.length]);omega)
   rw[List.map_singleton,this];rfl
  ·exact absurd h (hk x)
 ·split
  ·rename_i h
   rw[R8 (Nq (List.isEmpty_iff.mp h))];rfl
  ·rw[partsBetween_eq,h2];exact Lc
end
def Nc (l:List Nat):List (List Nat):=(Ut 32 l).filter λp=>!p.isEmpty
def Ey:∀{l r:List Nat},Ut 32 (l++32::r)=Ut 32 l++Ut 32 r
 | [],r=>by simp[Ut]
 | c::l,r=>by
  have ih:=Ey (l:=l) (r:=r)
  obtain⟨p,ps,e⟩:=Rc 32 l
  by_cases h:c=32
  ·simp[Ut,h,ih]
  ·have f1:Ut 32 (c::(l++32::r))=(c::p)::(ps++Ut 32 r):=by
    have:Ut 32 (c::(l++32::r))=match Ut 32 (l++32::r) with
     | p::ps=>(c::p)::ps
     | []=>[[c]]:=by
     show(if c=32 then _ else _)=_
     rw[XX h]
    rw[this,ih,e];rfl
   have f2:Ut 32 (c::l)=(c::p)::ps:=by simp[Ut,h,e]
   rw[List.cons_append,f1,f2];rfl
def Rx {l r:List Nat}:Nc (l++32::r)=Nc l++Nc r:=by unfold Nc;rw[Ey,List.filter_append]
def Oy:Nc []=[]:=rfl
def w9 {r:List Nat}:Nc (32::r)=Nc r:=by have:=Rx (l:=[]) (r:=r);simpa[Oy] using this
def Es {l:List Nat}:Nc (l++[32])=Nc l:=by have:=Rx (l:=l) (r:=[]);rw[Oy,YK] at this;exact this
def Ep {w:List Nat}(h0:w≠[])(h:∀c∈w,c≠32):Nc w=[w]:=by
 unfold Nc;rw[R8 h]
 cases w with
 | nil=>exact absurd rfl h0
 | cons c r=>rfl
def Na:∀{b l:List Nat},(∀c∈b,c=32)->Nc (b++l)=Nc l
 | [],_,_=>rfl
 | c::b,l,h=>by
  rw[h c (by simp),List.cons_append,w9]
  exact Na λd hd=>h d (by simp[hd])
def Bk (l:List Nat):Prop:=l=[]\/∃q,l=q++[32]
def wB {l r:List Nat}(h:Bk l):Nc (l++r)=Nc l++Nc r:=by
 rcases h with rfl | ⟨q,rfl⟩
 ·simp[Oy]
 ·rw[YL,List.singleton_append,Rx,Es]
end WL
namespace K18
open PySem PySem.Spec PyProof.Rows L2 WL
local macro_rules | `(tactic| walk_at "ws") => `(tactic| try simp (config := { decide := true }) only [Zu, eC, Yo, uB, Jl, Z2, Gg, ym, Jp, uE, om, my, uF, oi, oj, Mp, Fb, wQ, Ix, pv, uD, Sf, qX, tS, A2, Cu, tQ, Ct, oM, nE, pd, nF, pc, tR, S6, rq, Hh, qY, rW, yD, qj, oy, yC, qk, rY, tE, T5, zU, Ea, nr, mq, Qf, Sg, xK, Pj, sR, jr, W1, pG, sS, vi, jt, jT, qJ, mi, mj, Ic, Cz, Qp, tW, oO, Dt, rD, vW, xG, xF, wD, U1, Ly, Ka, u8, Xa, Gw, qq, qp, qo, uV, uU, uT, uS, wE,
  List.map_cons, List.map_nil, List.length_cons, List.length_nil, List.replicate, List.cons_append, List.nil_append, List.getElem?_cons_zero, List.getElem?_cons_succ, List.set_cons_zero, List.set_cons_succ, Option.some.injEq, T.int.injEq, T.str.injEq, T.bl.injEq, T.ref.injEq, T.tup.injEq, T.cl.injEq, exists_eq_left', exists_eq_left, exists_eq', exists_and_left, and_assoc, List.cons.injEq, and_true, true_and, reduceCtorEq, false_and, exists_false, List.append_nil, if_true, if_false, Bool.not_not, decide_eq_true_eq, Bool.not_eq_true', decide_eq_false_iff_not, Bool.false_eq_true, List.nil_eq, Option.bind_none, Option.bind_some, Option.join_some, Nat.reduceAdd, Nat.reduceSub, Nat.sub_self, Nat.zero_add, Nat.sub_zero, beq_iff_eq, Bool.not_false, Bool.not_true])
section
variable {C:Hw}{Q:WK}{χ:WX}{τ:Sw}
def X0 {p q:Prop}(h:p):if true=true then p else q:=h
def Ym {p q:Prop}(h:q):if false=true then p else q:=h
def Z4 {p q:Prop}{b:Bool}(hb:b=true)(h:p):if b=true then p else q:=by rw[XY hb];exact h
def Z5 {p q:Prop}{b:Bool}(hb:b=false)(h:q):if b=true then p else q:=by subst hb;exact h
def mr {a b:Str}{v:Bool}(h:(a==b)=v)(q:Q (.bl v) C):Nf false (.str a) (.str b) C Q:=by rw[Ly,XX (by decide),h];exact q
def ms {a b:Int}{v:Bool}(h:(a==b)=v)(q:Q (.bl v) C):Nf false (.int a) (.int b) C Q:=by rw[Ka,XX (by decide),h];exact q
def mf {a b:Str}{v:Bool}(h:(a==b)=v)(q:Q (.bl (!v)) C):Nf true (.str a) (.str b) C Q:=by rw[Ly,XY rfl,h];exact q
def r9 {a b:Int}{v:Bool}(h:(a==b)=v)(q:Q (.bl (!v)) C):Nf true (.int a) (.int b) C Q:=by rw[Ka,XY rfl,h];exact q
def N4 {a b:Str}{v:Bool}(h:(a==b)=v)(q:Q (.bl v) C):eC (.str b) τ C (λy C2=>xG (.str a) y C2 Q) χ:=mr h q
def N5 {a b:Int}{v:Bool}(h:(a==b)=v)(q:Q (.bl v) C):eC (.int b) τ C (λy C2=>xG (.int a) y C2 Q) χ:=ms h q
def vT {a b:Str}{v:Bool}(h:(a==b)=v)(q:Q (.bl (!v)) C):eC (.str b) τ C (λy C2=>xF (.str a) y C2 Q) χ:=mf h q
def Bu {a b:Int}{v:Bool}(h:(a==b)=v)(q:Q (.bl (!v)) C):eC (.int b) τ C (λy C2=>xF (.int a) y C2 Q) χ:=r9 h q
def Ce {P:Calls}{i k:Nat}{v:T}{A B:WS}{D:We}(h:τ[k]?=some (some v))(q:P i [v] C (λx C1=>∃b,oP x C1 b/\if b=true then A {D with nx:=B D} τ C1 else B D τ C1) D.xc):Sg (jr (Mp (Jp P i (Z2 (Zu k) Jl))) A Qf) B D τ C:=⟨v,h,q⟩
end
section
variable {A B:WS}{D:We}{τ:Sw}{C:Hw}{i k:Nat}{v:T}{r:List T}{s s' w:Str}{x y:Int}
end
def zn:List T->List (T×List T×T)->List (List T×T)
 | _,[]=>[]
 | b,z::r=>(b,z.2.2)::zn (b++z.2.1) r
def rA:List (T×List T×T)->List T
 | []=>[]
 | z::r=>z.2.1++rA r
def sC:List Str:=["does","call","first","fun","let","shape","choose","rows"]
inductive Sc:T->Option Nat->List (List T×T)->Prop
 | does {o A B:T}:Sc (.tup [.str "does",o,A,B]) none [([],A),([],B)]
 | call {A B:T}:Sc (.tup [.str "call",A,B]) none [([],A),([],B)]
 | first {A B:T}:Sc (.tup [.str "first",A,B]) none [([],A),([],B)]
 | fun_ {x B:T}:Sc (.tup [.str "fun",x,B]) none [([x],B)]
 | let_ {B:T} {xs:List (T×T)} (h:xs.length<=1000):Sc (.tup [.str "let",.tup (xs.map λx=>.tup [x.1,x.2]),B]) none (xs.map (λx=>(xs.map (·.1),x.2))++[(xs.map (·.1),B)])
 | shape {c:T} {ps:List T} (h:ps.length<=1000):Sc (.tup [.str "shape",c,.tup ps]) none (ps.map λx=>([],x))
 | choose {E:T} {ys:List (T×List T×T)} (h:ys.length<=1000):Sc (.tup [.str "choose",E,.tup (ys.map λy=>.tup [y.1,.tup y.2.1,y.2.2])]) none (([],E)::ys.map (·.2))
 | rows {E:T} {zs:List (T×List T×T)} (h:zs.length<=1000) (hm:∀z∈zs,z.2.1.length<=1):Sc (.tup [.str "rows",E,.tup (zs.map λz=>.tup (z.1::(z.2.1++[z.2.2])))]) (some zs.length) ((rA zs,E)::zn [] zs)
 | other {w:Str} {Z9:List T} (h:w∉sC):Sc (.tup (.str w::Z9)) none []
section
variable {C:Hw}{Q:WK}{χ:WX}{n:Nat}
def jq {ns:List Int}{m:Nat}(h63:ns.length<=63)(hm:m<=100)(q:∀p (ds:List Int),C p=none->ds.length=m->(∀d∈ds,0<=d)->Q (.ref p) (up C p (.lst (ds.map T.int)))):
  Xo pr (n+1) K0 [.cl (ns.map T.int),.int m] C Q χ:=by
 refine Kd rfl ?_
 unfold V1 Ue
 walk_at "ws"
 intro p hp
 refine⟨by omega,by omega,?_⟩
 refine Dx (λi τ C'=>∃x3 x4,∃ds:List Int,τ=[some (.cl (ns.map T.int)),some (.int m),some (.ref p),x3,x4]/\C'=up C p (.lst (ds.map T.int))/\ds.length=i/\∀d∈ds,0<=d) ⟨none,none,[],rfl,rfl,rfl,by simp⟩ (λ_=>trivial) ?_ ?_
 ·rintro i τ C' N hi ⟨x3,x4,ds,rfl,rfl,hd,hn⟩ hN
  walk_at "ws"
  have hlen:((ns.map T.int).length:Int)=(ns.length:Int):=by rw[XI]
  have hdv:(0:Int)<=(0+(i:Int))/(if ((ns.map T.int).length:Int)>1 then((ns.map T.int).length:Int) else 1):=Int.ediv_nonneg (by omega) (by split<;>omega)
  have app:∀v:Int,0<=v->∀x3 x4,N [some (.cl (ns.map T.int)),some (.int m),some (.ref p),x3,x4] (up (up C p (.lst (ds.map T.int))) p (.lst (ds.map T.int++[.int v]))):=λv hv x3 x4=>by
   refine hN _ _ ⟨x3,x4,ds++[v],rfl,?_,by rw[List.length_append,hd];rfl,?_⟩
   ·rw[tU,XL];rfl
   ·intro x hx
    rcases XS.mp hx with hx | hx
    ·exact hn x hx
    ·rw[XQ.mp hx];exact hv
  refine pX (λc=>?_) λc=>?_
  ·obtain⟨d,h1,h2⟩:=yE (ds:=ns) (i:=(0+(i:Int))%((ns.map T.int).length:Int)) (YO _ (by omega)) (by rw[hlen];exact Int.emod_lt_of_pos _ (by omega))
   refine⟨c,_,h1,⟨by decide,by decide,by decide⟩,by decide,⟨_,Zj⟩,⟨by split<;>omega,by split<;>omega⟩,.inl ⟨by decide,by decide⟩,_,Zj,U7 (by rw[XI];omega),app _ ?_ _ _⟩
   have:=YO d (b:=10^Int.toNat 18) (by decide)
   generalize d%10^Int.toNat 18=u at this |-
   generalize (0+(i:Int))/(if ((ns.map T.int).length:Int)>1 then((ns.map T.int).length:Int) else 1)=t at hdv |-
   omega
  ·refine⟨⟨_,Zj⟩,⟨by split<;>omega,by split<;>omega⟩,.inl ⟨by decide,by decide⟩,_,Zj,U7 (by rw[XI];omega),app _ ?_ _ _⟩
   generalize (0+(i:Int))/(if ((ns.map T.int).length:Int)>1 then((ns.map T.int).length:Int) else 1)=t at hdv |-
   omega
 ·rintro τ C' ⟨x3,x4,ds,rfl,rfl,hd,hn⟩
  walk_at "ws"
  exact q p ds hp hd hn
end
open PySem PySem.Spec PyProof.Rows L2 WL Rd
mutual
def Op (C:Hw)(v:T):Tr->Prop
 | .w x=>v=.str x
 | .n ts=>∃a vs,v=.ref a/\C a=some (.lst vs)/\TrHs C vs ts
def TrHs (C:Hw)(vs:List T):List Tr->Prop
 | []=>vs=[]
 | t::ts=>∃v r,vs=v::r/\Op C v t/\TrHs C r ts
end
mutual
def Op.ex {C C':Hw}(h:Ex C C'){v:T}:∀{t:Tr},Op C v t->Op C' v t
 | .w x,q=>by unfold Op at q |-;exact q
 | .n ts,q=>by
  unfold Op at q |-
  obtain⟨a,vs,e,ha,q⟩:=q
  exact⟨a,vs,e,h _ _ ha,TrHs.ex h q⟩
def TrHs.ex {C C':Hw}(h:Ex C C'){vs:List T}:∀{ts:List Tr},TrHs C vs ts->TrHs C' vs ts
 | [],q=>by unfold TrHs at q |-;exact q
 | t::ts,q=>by
  unfold TrHs at q |-
  obtain⟨v,r,e,q1,q2⟩:=q
  exact⟨v,r,e,Op.ex h q1,TrHs.ex h q2⟩
end
section
variable {C:Hw}
def He {x:Str}{v:T}(h:Op C v (.w x)):v=.str x:=by unfold Op at h;exact h
def Kr {ts:List Tr}{v:T}(h:Op C v (.n ts)):∃a vs,v=.ref a/\C a=some (.lst vs)/\TrHs C vs ts:=by unfold Op at h;exact h
def Ke:TrHs C [] []:=by unfold TrHs;rfl
def R7 {v:T}{vs:List T}{t:Tr}{ts:List Tr}(h:Op C v t)(hs:TrHs C vs ts):TrHs C (v::vs) (t::ts):=by unfold TrHs;exact⟨v,vs,rfl,h,hs⟩
def Y8 {vs:List T}(h:TrHs C vs []):vs=[]:=by unfold TrHs at h;exact h
def Zy {vs:List T}{t:Tr}{ts:List Tr}(h:TrHs C vs (t::ts)):∃v r,vs=v::r/\Op C v t/\TrHs C r ts:=by unfold TrHs at h;exact h
def TrHs.length:∀{ts:List Tr} {vs:List T},TrHs C vs ts->vs.length=ts.length
 | [],_,h=>by rw[Y8 h];rfl
 | _::_,_,h=>by obtain⟨v,r,rfl,_,q⟩:=Zy h;rw[YF,YF,q.length]
def O2:∀{ts us:List Tr} {vs:List T},TrHs C vs (ts++us)->∃xs ys,vs=xs++ys/\TrHs C xs ts/\TrHs C ys us
 | [],us,vs,h=>⟨[],vs,rfl,Ke,h⟩
 | t::ts,us,vs,h=>by
  obtain⟨v,r,rfl,a,b⟩:=Zy h
  obtain⟨xs,ys,rfl,c,d⟩:=O2 b
  exact⟨v::xs,ys,rfl,R7 a c,d⟩
end
def Xy (x:Str):x.cps.toList.length=x.length:=by simp[Str.length]
def Wk (x:Str):Prop:=x.length<=500/\(reprText x).length<=900/\(W3 x=true->∃v,intText? x=some v)
section
variable {C:Hw}{Q:WK}{χ:WX}{n:Nat}{W:Nat->Calls}{r:Prop}
def zQ {b:Bool}{j:Str}{c:Nat}{τ:Sw}(h:Q8 j c=b)(q:Q (.bl b) C):eC (.str j) τ C (λy C2=>wD (.str ⟨#[c]⟩) y C2 Q) χ:=by
 show Lx false (.str ⟨#[c]⟩) (.str j) C Q
 subst h;exact q
def vR {b:Bool}{j:Str}{c:Nat}{τ:Sw}(h:Q8 j c=b)(q:Q (.bl (!b)) C):eC (.str j) τ C (λy C2=>U1 (.str ⟨#[c]⟩) y C2 Q) χ:=by
 show Lx true (.str ⟨#[c]⟩) (.str j) C Q
 subst h;exact q
def rL {b:Bool}{z:Str}{zs:List Str}{τ:Sw}(h:decide (z∈zs)=b)(q:Q (.bl b) C):eC (.tup (zs.map T.str)) τ C (λy C2=>wD (.str z) y C2 Q) χ:=by
 show Lx false (.str z) (.tup (zs.map T.str)) C Q
 subst h;exact⟨Vq,N3,by rw[Hn];exact q⟩
def all_map {l:List Nat}{f:Nat->Bool}:(l.map f).all id=l.all f:=by simp[List.all_map]
def M8 {x:Str}(R:Rp W r)(hx:x.length<=1000)(q:∀C',Ex C C'->Q (.bl (Xu x)) C'):W (n+1) B2 [.str x] C Q χ:=by
 have hz:x.length<=sizeLine:=Nat.le_of_lt (Jj hx)
 refine R.o_is_name rfl ?_
 cases e:x.cps.toList with
 | nil=>
  have hl:x.length=0:=by rw[<-Xy,e];rfl
  have k1:((x.length:Int)<1):=by omega
  have:Xu x=false:=by unfold Xu;rw[e]
  refine⟨_,rfl,_,rfl,hz,_,rfl,Z4 (decide_eq_true k1) ?_⟩
  exact this▸q C (Ex.refl C)
 | cons c l=>
  have hl:x.length=l.length+1:=by rw[<-Xy,e,YF]
  have k1:¬((x.length:Int)<1):=by omega
  have em:Xu x=(decide (x.length<=8)&&Q8 "abcdefghijklmnopqrstuvwxyz" c&&decide (x∉Bt)&&x.cps.toList.all λd=>Q8 "abcdefghijklmnopqrstuvwxyz" d||Q8 "0123456789" d):=by
   conv=>lhs;unfold Xu
   rw[e]
  refine⟨_,rfl,_,rfl,hz,_,rfl,Z5 (YG k1) ⟨_,rfl,_,rfl,hz,_,rfl,?_⟩⟩
  by_cases k2:(x.length:Int)>8
  ·have:Xu x=false:=by rw[em,YG (by omega)];rfl
   exact Z4 (decide_eq_true k2) (this▸q C (Ex.refl C))
  ·refine Z5 (YG k2) ?_
   have k3:x.length<=8:=by omega
   refine⟨_,rfl,hz,c,by rw[e];exact Xa,vR (j:="abcdefghijklmnopqrstuvwxyz") rfl ⟨_,rfl,?_⟩⟩
   by_cases hc:Q8 "abcdefghijklmnopqrstuvwxyz" c=true
   ·refine Z5 (by rw[hc];rfl) ⟨_,rfl,rL (zs:=Bt) rfl ⟨_,rfl,?_⟩⟩
    by_cases h9:x∈Bt
    ·have:Xu x=false:=by rw[em,decide_eq_false (show ¬x∉Bt from λz=>z h9)];simp
     exact Z4 (decide_eq_true h9) (this▸q C (Ex.refl C))
    ·refine Z5 (YG h9) ?_
     have ea:Xu x=x.cps.toList.all λd=>Q8 "abcdefghijklmnopqrstuvwxyz" d||Q8 "0123456789" d:=by rw[em,hc,decide_eq_true k3,decide_eq_true h9];rfl
     refine⟨_,rfl,T9 (λv=>match v with | .str z=>.bl (Q8 "abcdefghijklmnopqrstuvwxyz" (z.cps.getD 0 0)||Q8 "0123456789" (z.cps.getD 0 0)) | _=>.non) trivial (by rw[XI,Xy];exact hz) (λy hy R hR=>?_) λp hp=>?_⟩
     ·obtain⟨d,hd,rfl⟩:=XR.mp hy
      refine⟨_,rfl,zQ (j:="abcdefghijklmnopqrstuvwxyz") rfl ⟨_,rfl,?_⟩⟩
      by_cases hd1:Q8 "abcdefghijklmnopqrstuvwxyz" d=true
      ·refine Z4 hd1 ?_
       have:(T.bl true)=.bl (Q8 "abcdefghijklmnopqrstuvwxyz" d||Q8 "0123456789" d):=by rw[hd1];rfl
       exact this▸hR
      ·refine Z5 (Bool.eq_false_iff.mpr hd1) ⟨_,rfl,zQ (j:="0123456789") rfl ?_⟩
       have:(T.bl (Q8 "0123456789" d))=.bl (Q8 "abcdefghijklmnopqrstuvwxyz" d||Q8 "0123456789" d):=by rw[Bool.eq_false_iff.mpr hd1];rfl
       exact this▸hR
     ·refine⟨p,x.cps.toList.map λd=>Q8 "abcdefghijklmnopqrstuvwxyz" d||Q8 "0123456789" d,rfl,by rw[Zj,YE,YE];rfl,?_⟩
      rw[all_map,<-ea]
      exact q _ (Ex.new hp)
   ·have:Xu x=false:=by rw[em,Bool.eq_false_iff.mpr hc];simp
    exact Z4 (by rw[Bool.eq_false_iff.mpr hc];rfl) (this▸q C (Ex.refl C))
end
open PySem PySem.Spec PyProof.Rows L2 WL Rd
section
variable {C:Hw}{Q:WK}{χ:WX}{n:Nat}{W:Nat->Calls}{r:Prop}
def Ha {x:Str}(R:Rp W r)(hx:x.length<=1000)(q:∀C',Ex C C'->Q (.bl (W3 x)) C'):W (n+1) Ht [.str x] C Q χ:=by
 have hz:x.length<=sizeLine:=Nat.le_of_lt (Jj hx)
 refine R.o_is_number rfl ?_
 cases e:x.cps.toList with
 | nil=>
  have hl:x.length=0:=by rw[<-Xy,e];rfl
  have k1:((x.length:Int)<1):=by omega
  have:W3 x=false:=by unfold W3;rw[e]
  refine⟨_,rfl,_,rfl,hz,_,rfl,Z4 (decide_eq_true k1) ?_⟩
  exact this▸q C (Ex.refl C)
 | cons c l=>
  have hl:x.length=l.length+1:=by rw[<-Xy,e,YF]
  have k1:¬((x.length:Int)<1):=by omega
  have em:W3 x=(decide (x.length<=18)&&(!((⟨#[c]⟩:Str)=="0")||x=="0")&&x.cps.toList.all λd=>Q8 "0123456789" d):=by
   conv=>lhs;unfold W3
   rw[e]
  refine⟨_,rfl,_,rfl,hz,_,rfl,Z5 (YG k1) ⟨_,rfl,_,rfl,hz,_,rfl,?_⟩⟩
  by_cases k2:(x.length:Int)>18
  ·have:W3 x=false:=by rw[em,YG (by omega)];rfl
   exact Z4 (decide_eq_true k2) (this▸q C (Ex.refl C))
  ·refine Z5 (YG k2) ?_
   have k3:x.length<=18:=by omega
   have fin:W3 x=(x.cps.toList.all λd=>Q8 "0123456789" d)->∀{D:We} {τ:Sw},D.rt=Q->τ=[some (.str x)]->D.xc=χ->Pj (uE qm (Z2 (Qp [none] (jT (Zu 0)) (T5 0) Cz (Yo wD (Zu 0) (eC g_FIGURES))) Jl)) D τ C:=by
    rintro ea D τ hD rfl hX
    obtain⟨nx,rt,bk,ct,xc⟩:=D
    cases hD
    cases hX
    refine⟨_,rfl,T9 (λv=>match v with | .str z=>.bl (Q8 "0123456789" (z.cps.getD 0 0)) | _=>.non) trivial (by rw[XI,Xy];exact hz) (λy hy R hR=>?_) λp hp=>?_⟩
    ·obtain⟨d,hd,rfl⟩:=XR.mp hy
     exact⟨_,rfl,zQ (j:="0123456789") rfl hR⟩
    ·refine⟨p,x.cps.toList.map λd=>Q8 "0123456789" d,rfl,by rw[Zj,YE,YE];rfl,?_⟩
     rw[all_map,<-ea]
     exact q _ (Ex.new hp)
   refine⟨_,rfl,hz,c,by rw[e];exact Xa,N4 rfl ⟨_,rfl,?_⟩⟩
   by_cases c0:((⟨#[c]⟩:Str)==Str.ofString "0")=true
   ·refine Z4 c0 ⟨_,rfl,vT (v:=x==Str.ofString "0") rfl ⟨_,rfl,?_⟩⟩
    by_cases x0:(x==Str.ofString "0")=true
    ·refine Z5 (by rw[x0];rfl) (fin ?_ rfl rfl rfl)
     rw[em,decide_eq_true k3,x0];simp
    ·have:W3 x=false:=by rw[em,c0,Bool.eq_false_iff.mpr x0];simp
     exact Z4 (by rw[Bool.eq_false_iff.mpr x0];rfl) (this▸q C (Ex.refl C))
   ·refine Z5 (Bool.eq_false_iff.mpr c0) (Ym (fin ?_ rfl rfl rfl))
    rw[em,decide_eq_true k3,Bool.eq_false_iff.mpr c0];simp
def Z8 {D:We}{τ:Sw}{m:Str}(R:Rp W r)(hr:r):Pk (W (n+1)) 26 (Z2 (eC (.str m)) Jl) D τ C:=⟨ZNB rfl,R.o_raise hr⟩
def M7 {D:We}{τ:Sw}{m x:Str}(R:Rp W r)(hr:r)(hx:(reprText x).length<=900)(hm:m.length<=100)(h0:τ[0]?=some (some (.str x))):Pk (W (n+1)) 26 (Z2 (eJ [oo (Zu 0),eC (.str m)] Str.empty) Jl) D τ C:=by
 have l0:(Str.empty++reprText x).length=(reprText x).length:=by simp[Str.length_append];rfl
 have l1:((Str.empty++reprText x)++m).length=(reprText x).length+m.length:=by rw[YC,l0]
 refine⟨_,h0,x,rfl,by omega,_,rfl,Nat.le_of_lt (Jj (by omega)),_,rfl,Nat.le_of_lt (Jj (by omega)),?_⟩
 exact⟨ZNB rfl,R.o_raise hr⟩
def Bd {D:We}{τ:Sw}{m x:Str}(R:Rp W r)(hr:r)(hx:(reprText x).length<=900)(hm:m.length<=90)(h0:τ[0]?=some (some (.str x))):Pk (W (n+1)) 26 (Z2 (eJ [eC (.str m),oo (Zu 0)] Str.empty) Jl) D τ C:=by
 have l0:(Str.empty++m).length=m.length:=by simp[Str.length_append];rfl
 have l1:((Str.empty++m)++reprText x).length=m.length+(reprText x).length:=by rw[YC,l0]
 refine⟨_,rfl,Nat.le_of_lt (Jj (by omega)),_,h0,x,rfl,by omega,_,rfl,Nat.le_of_lt (Jj (by omega)),?_⟩
 exact⟨ZNB rfl,R.o_raise hr⟩
def va {x:Str}(R:Rp W r)(hx:Wk x)(q:∀t C',J5 x=some t->Ex C C'->Q t C')(qr:J5 x=none->r):W (n+2) Ho [.str x] C Q χ:=by
 obtain⟨h1,h2,h3⟩:=hx
 refine R.o_word_term rfl (Ce rfl (M8 R (by omega) λC1 hE=>⟨_,rfl,?_⟩))
 unfold J5 at q qr
 by_cases k1:Xu x=true
 ·rw[XY k1] at q
  exact Z4 k1 ⟨_,rfl,ZNB rfl,q _ C1 rfl hE⟩
 rw[XX k1] at q qr
 refine Z5 (Bool.eq_false_iff.mpr k1) (Ce rfl (Ha R (by omega) λC2 hE2=>⟨_,rfl,?_⟩))
 by_cases k2:W3 x=true
 ·rw[XY k2] at q
  obtain⟨v,hv⟩:=h3 k2
  rw[hv] at q
  exact Z4 k2 ⟨_,rfl,_,_,rfl,hv,by omega,ZNB rfl,q _ C2 rfl (hE.trans hE2)⟩
 rw[XX k2] at q qr
 refine Z5 (Bool.eq_false_iff.mpr k2) ⟨_,rfl,x,rfl,?_⟩
 have sh:qK g_SHAPES x=match Ez.lookup x with | some i=>T.int i | none=>.non:=rfl
 rw[sh]
 cases hs:Ez.lookup x with
 | none=>
  rw[hs] at q qr
  refine⟨rfl,rfl,false,rfl,Ym ?_⟩
  exact M7 R (qr rfl) h2 (by decide) rfl
 | some i=>
  rw[hs] at q qr
  by_cases i0:i=0
  ·subst i0
   exact N5 (v:=true) rfl ⟨true,rfl,X0 ⟨_,rfl,ZNB rfl,ZNB rfl,q _ C2 (by rw[XY rfl]) (hE.trans hE2)⟩⟩
  ·refine N5 (v:=false) (by simpa using i0) ⟨false,rfl,Ym ?_⟩
   exact M7 R (qr (by rw[XX (λz=>i0 (YH z))])) h2 (by decide) rfl
inductive Wt:Nat->Tr->Prop
 | w {f:Nat} {x:Str} (h:Wk x):Wt f (.w x)
 | n {f:Nat} {ts:List Tr} (hl:ts.length<=500) (h:∀t∈ts,Wt f t):Wt (f+1) (.n ts)
def Kj {f:Nat}{t:Tr}{v:T}(R:Rp W r)(hw:Wt f t)(hv:Op C v t)(q:∀ts,t=.n ts->Q v C)(qr:(∃x,t=.w x)->r):W (n+2) F7 [v] C Q χ:=by
 refine R.o_items_of rfl ?_
 cases hw with
 | w h=>
  cases He hv
  exact⟨_,rfl,"str",rfl,true,rfl,X0 (Bd R (qr ⟨_,rfl⟩) h.2.1 (by decide) rfl)⟩
 | n hl h=>
  obtain⟨a,vs,rfl,ha,hs⟩:=Kr hv
  exact⟨_,rfl,"list",.inl ⟨rfl,_,ha⟩,false,rfl,Ym ⟨_,rfl,q _ rfl⟩⟩
def Vm {f:Nat}{t:Tr}{v:T}(R:Rp W r)(hw:Wt f t)(hv:Op C v t)(q:∀x C',Xp t=some x->Ex C C'->Q (.str x) C')(qr:Xp t=none->r):W (n+2) B1 [v] C Q χ:=by
 refine R.o_name_of rfl ?_
 cases hw with
 | @w _ x h=>
  cases He hv
  refine⟨_,rfl,"str",rfl,true,rfl,Ym ?_⟩
  refine⟨_,rfl,M8 R (by have:=h.1;omega) λC1 hE=>⟨_,rfl,?_⟩⟩
  by_cases k:Xu x=true
  ·exact Z5 (by rw[k];rfl) ⟨_,rfl,q x C1 (XY k) hE⟩
  ·exact Z4 (by rw[Bool.eq_false_iff.mpr k];rfl) (Z8 R (qr (XX k)))
 | n hl h=>
  obtain⟨a,vs,rfl,ha,hs⟩:=Kr hv
  exact⟨_,rfl,"list",.inl ⟨rfl,_,ha⟩,false,rfl,X0 (Z8 R (qr rfl))⟩
def Ti {β:Type}{Wp:Tr->Prop}{i:Nat}{P:Calls}{g:Tr->Option β}{enc:β->T}{K:List T->Hw->Prop}{ok:Hw->Prop}{χ:WX}
  (he:∀(t:Tr) (v:T) (C:Hw) (Q:WK),Wp t->Op C v t->(∀b C',g t=some b->Ex C C'->Q (enc b) C')->(g t=none->r)->P i [v] C Q χ):∀(ts:List Tr) (vs acc:List T) (C:Hw),(∀C',Ex C C'->ok C')->(∀t∈ts,Wp t)->TrHs C vs ts->acc.length+ts.length<=1000->
   (∀bs C',all g ts=some bs->Ex C C'->K (acc++bs.map enc) C')->(all g ts=none->r)->Tj (T5 0) Cz (Jp P i (Z2 (Zu 0) Jl)) ok [none] K χ vs acc C
 | [],vs,acc,C,hok,hw,hv,hl,q,qr=>by
  cases Y8 hv
  exact⟨hok C (Ex.refl C),by have:=q [] C rfl (Ex.refl C);simpa using this⟩
 | t::ts,vs,acc,C,hok,hw,hv,hl,q,qr=>by
  obtain⟨v,rs,rfl,h1,h2⟩:=Zy hv
  have hl':acc.length+(ts.length+1)<=1000:=by simpa using hl
  refine⟨hok C (Ex.refl C),@X0 _ (Tj (T5 0) Cz (Jp P i (Z2 (Zu 0) Jl)) ok [none] K χ rs acc C) ⟨_,rfl,he t v C _ (hw t (.head _)) h1 (λb C1 eb hE=>?_) (λe=>qr (by unfold Rd.all;rw[e]))⟩⟩
  refine⟨Jj (by omega),Ti he ts rs _ C1 (λC2 h=>hok C2 (hE.trans h)) (λt' m=>hw t' (.tail _ m)) (h2.ex hE) (by simp;omega) (λbs C2 ebs hE2=>?_) (λe=>qr (by unfold Rd.all;rw[e];cases g t<;>rfl))⟩
  have:=q (b::bs) C2 (by unfold Rd.all;rw[eb,ebs]) (hE.trans hE2)
  simpa using this
def GT (W:Nat->Calls)(r:Prop)(f:Nat):Prop:=∀{n:Nat} {C:Hw} {Q:WK} {χ:WX} {v:T} {t:Tr},Wt f t->Op C v t->(∀x C',rd f t=some x->Ex C C'->Q x C')->(rd f t=none->r)->W (n+3*f+3) T4 [v] C Q χ
variable {f:Nat}
def GT.at {m:Nat}{v:T}{t:Tr}(G:GT W r f)(hm:3*f+3<=m)(hw:Wt f t)(hv:Op C v t)(q:∀x C',rd f t=some x->Ex C C'->Q x C')(qr:rd f t=none->r):W m T4 [v] C Q χ:=by
 obtain⟨n,rfl⟩:∃n,m=n+3*f+3:=⟨m-(3*f+3),by omega⟩
 exact G hw hv q qr
def zh {a:Addr}{vs:List T}{ts:List Tr}{m:Nat}(R:Rp W r)(G:GT W r f)(hm:3*f+4<=m)(ha:C a=some (.lst vs))(hl:ts.length<=500)(hw:∀t∈ts,Wt f t)(hv:TrHs C vs ts)
  (q:∀x y C',two (rd f) ts=some (x,y)->Ex C C'->Q (.tup [x,y]) C') (qr:two (rd f) ts=none->r):W m Hq [.ref a] C Q χ:=by
 obtain⟨m,rfl⟩:∃k,m=k+1:=⟨m-1,by omega⟩
 have e:=hv.length
 obtain⟨m',rfl⟩:∃k,m=k+1:=⟨m-1,by omega⟩
 by_cases k:ts.length=2
 ·obtain⟨t1,t2,rfl⟩:∃t1 t2,ts=[t1,t2]:=by
   match ts,k with
   | [t1,t2],_=>exact⟨t1,t2,rfl⟩
  obtain⟨v1,rs,rfl,h1,hv⟩:=Zy hv
  obtain⟨v2,rs,rfl,h2,hv⟩:=Zy hv
  cases Y8 hv
  have w1:=hw t1 (.head _)
  have w2:=hw t2 (.tail _ (.head _))
  refine R.o_two_terms rfl ⟨_,rfl,_,rfl,_,ha,Bu (v:=true) rfl ⟨_,rfl,Ym ?_⟩⟩
  refine⟨_,rfl,_,_,ha,Xa,G.at (by omega) w1 h1 (λx C1 ex hE=>?_) λe1=>qr (by simp[two,e1])⟩
  refine⟨_,rfl,_,_,hE _ _ ha,Gw,G.at (by omega) w2 (h2.ex hE) (λy C2 ey hE2=>?_) λe2=>qr (by simp[two,ex,e2])⟩
  exact⟨ZNB rfl,q x y C2 (by simp[two,ex,ey]) (hE.trans hE2)⟩
 ·refine R.o_two_terms rfl ⟨_,rfl,_,rfl,_,ha,Bu (v:=false) (by rw[e];simpa using(show ¬(ts.length:Int)=2 by omega)) ⟨_,rfl,X0 (Z8 R (qr ?_))⟩⟩
  match ts,k with
  | [],_=>rfl
  | [_],_=>rfl
  | [_,_],k=>exact absurd rfl k
  | _::_::_::_,_=>rfl
def D7 {α:Type}{x:α}{l:List α}:Ef (x::l) (some 1) none=l:=by
 unfold Ef
 have h1:HT.sIx (x::l).length 0 (some 1)=1:=by
  have:=HT.sIx_nat (x::l).length 0 1
  rw[YF] at this |-
  rw[show(some (1:Int))=some ((1:Nat):Int) from rfl,this];omega
 rw[h1,HT.sIx_none]
 simp
def vc {a:Addr}{vs:List T}{ts:List Tr}{m:Nat}(R:Rp W r)(hm:4<=m)(ha:C a=some (.lst vs))(hw:∀t∈ts,Wt f t)(hv:TrHs C vs ts)
  (q:∀x C',(match ts with | [t]=>(Xp t).map λs=>T.tup [.str "stop",.str s] | _=>none)=some x->Ex C C'->Q x C') (qr:(match ts with | [t]=>(Xp t).map λs=>T.tup [.str "stop",.str s] | _=>none)=none->r):W m Hr [.ref a] C Q χ:=by
 obtain⟨m,rfl⟩:∃k,m=k+3:=⟨m-3,by omega⟩
 have e:=hv.length
 by_cases k:ts.length=1
 ·obtain⟨t1,rfl⟩:∃t1,ts=[t1]:=by
   match ts,k with
   | [t1],_=>exact⟨t1,rfl⟩
  obtain⟨v1,rs,rfl,h1,hv⟩:=Zy hv
  cases Y8 hv
  refine R.o_stop_term rfl ⟨_,rfl,_,rfl,_,ha,Bu (v:=true) rfl ⟨_,rfl,Ym ?_⟩⟩
  refine⟨_,rfl,_,_,ha,Xa,Vm R (hw t1 (.head _)) h1 (λx C1 ex hE=>?_) λe1=>qr (by simp[e1])⟩
  exact⟨ZNB rfl,q _ C1 (by simp[ex]) hE⟩
 ·refine R.o_stop_term rfl ⟨_,rfl,_,rfl,_,ha,Bu (v:=false) (by rw[e];simpa using(show ¬(ts.length:Int)=1 by omega)) ⟨_,rfl,X0 (Z8 R (qr ?_))⟩⟩
  match ts,k with
  | [],_=>rfl
  | [_],k=>exact absurd rfl k
  | _::_::_,_=>rfl
def Lg {m:Nat}{D:We}{x0:Option T}{l:Addr}{ws:List T}(G:GT W r f)(hm:3*f+3<=m):∀(ts:List Tr) (vs:List T) (F:T) (x2:Option T) (C:Hw),C l=some (.lst ws)->(∀t∈ts,Wt f t)->TrHs C vs ts->
  (∀as x2 C',all (rd f) ts=some as->Ex C C'->D.nx [x0,some (wj F as),x2] C')->(all (rd f) ts=none->r)->
  Mu (T5 2) (W1 (Gg (Z2 (eC (.str "call")) (Z2 (Zu 1) (Z2 (Jp (W m) 4 (Z2 (Zu 2) Jl)) Jl)))) (T5 1)) (λC2=>C2 l=some (.lst ws)) D vs [x0,some F,x2] C
 | [],vs,F,x2,C,hl,hw,hv,q,qr=>by
  cases Y8 hv
  exact⟨hl,q [] x2 C rfl (Ex.refl C)⟩
 | t::ts,vs,F,x2,C,hl,hw,hv,q,qr=>by
  obtain⟨v,rs,rfl,h1,h2⟩:=Zy hv
  refine⟨hl,_,rfl,_,rfl,G.at hm (hw t (.head _)) h1 (λx C1 ex hE=>?_) λe=>qr (by unfold Rd.all;rw[e])⟩
  refine⟨ZNB rfl,?_⟩
  refine Lg G hm ts rs _ _ C1 (hE _ _ hl) (λt' m=>hw t' (.tail _ m)) (h2.ex hE) (λas x2' C2 eas hE2=>?_) λe=>qr (by unfold Rd.all;rw[e];cases rd f t<;>rfl)
  exact q (x::as) x2' C2 (by unfold Rd.all;rw[ex,eas]) (hE.trans hE2)
def vg {a:Addr}{vs:List T}{ts:List Tr}{m:Nat}(R:Rp W r)(G:GT W r f)(hm:3*f+4<=m)(ha:C a=some (.lst vs))(hl:ts.length<=500)(hw:∀t∈ts,Wt f t)(hv:TrHs C vs ts)
  (q:∀x C',Vb (rd f) ts=some x->Ex C C'->Q x C') (qr:Vb (rd f) ts=none->r):W m On [.ref a] C Q χ:=by
 obtain⟨m,rfl⟩:∃k,m=k+2:=⟨m-2,by omega⟩
 have e:=hv.length
 unfold Vb at q qr
 by_cases k:ts.length<2
 ·rw[XY k] at qr
  exact R.o_call_term rfl ⟨_,rfl,_,rfl,_,ha,_,rfl,Z4 (decide_eq_true (show(vs.length:Int)<2 by omega)) (Z8 R (qr rfl))⟩
 rw[XX k] at q qr
 cases ts with
 | nil=>exact absurd (by simp) k
 | cons t ts=>
  obtain⟨v,rs,rfl,h1,h2⟩:=Zy hv
  refine R.o_call_term rfl ⟨_,rfl,_,rfl,_,ha,_,rfl,Z5 (YG (show ¬((v::rs).length:Int)<2 by omega)) ?_⟩
  refine⟨_,rfl,_,_,ha,Xa,G.at (by omega) (hw t (.head _)) h1 (λx C1 ex hE=>?_) λe=>qr (by simp[Rd.all,e])⟩
  refine⟨_,rfl,1,rfl,_,hE _ _ ha,λl hl'=>?_⟩
  rw[D7]
  refine⟨_,Zj,Lg G (by omega) ts rs x none _ Zj (λt' m=>hw t' (.tail _ m)) (h2.ex (hE.trans (Ex.new hl'))) (λas x2 C2 eas hE2=>?_) λe=>qr (by simp[Rd.all,ex,e])⟩
  exact⟨_,rfl,q _ C2 (by simp[Rd.all,ex,eas]) ((hE.trans (Ex.new hl')).trans hE2)⟩
end
open PySem PySem.Spec PyProof.Rows L2 WL Rd
section
variable {C:Hw}{Q:WK}{χ:WX}{n f m:Nat}{W:Nat->Calls}{r:Prop}
def Wt.mono {g:Nat}{t:Tr}(h:Wt g t):Wt (g+1) t:=by
 induction h with
 | w h=>exact .w h
 | n hl h ih=>exact .n hl ih
def vf {t:Tr}{v:T}(R:Rp W r)(G:GT W r f)(hm:3*f+4<=m)(hw:Wt f t)(hv:Op C v t)
  (q:∀p C',Ws (rd f) t=some p->Ex C C'->Q (.tup [.str p.1,p.2]) C') (qr:Ws (rd f) t=none->r):W m B0 [v] C Q χ:=by
 obtain⟨m,rfl⟩:∃k,m=k+3:=⟨m-3,by omega⟩
 refine R.o_pair_of rfl ⟨_,rfl,Kj R hw hv (λts et=>?_) λ⟨x,e⟩=>qr (by rw[e];rfl)⟩
 subst et
 obtain⟨a,vs,rfl,ha,hs⟩:=Kr hv
 have hw':∀t∈ts,Wt f t:=by cases hw with | n hl h=>exact λt m=>(h t m).mono
 have e:=hs.length
 by_cases k:ts.length=2
 ·obtain⟨t1,t2,rfl⟩:∃t1 t2,ts=[t1,t2]:=by
   match ts,k with
   | [t1,t2],_=>exact⟨t1,t2,rfl⟩
  obtain⟨v1,rs,rfl,h1,hs⟩:=Zy hs
  obtain⟨v2,rs,rfl,h2,hs⟩:=Zy hs
  cases Y8 hs
  refine⟨_,rfl,_,rfl,_,ha,Bu (v:=true) rfl ⟨_,rfl,Ym ?_⟩⟩
  refine⟨_,rfl,_,_,ha,Xa,Vm R (hw' t1 (.head _)) h1 (λx C1 ex hE=>?_) λe1=>qr (by simp[Ws,e1])⟩
  refine⟨_,rfl,_,_,hE _ _ ha,Gw,G.at (by omega) (hw' t2 (.tail _ (.head _))) (h2.ex hE) (λy C2 ey hE2=>?_) λe2=>qr (by simp[Ws,ex,e2])⟩
  exact⟨ZNB rfl,q (x,y) C2 (by simp[Ws,ex,ey]) (hE.trans hE2)⟩
 ·refine⟨_,rfl,_,rfl,_,ha,Bu (v:=false) (by rw[e];simpa using(show ¬(ts.length:Int)=2 by omega)) ⟨_,rfl,X0 (Z8 R (qr ?_))⟩⟩
  match ts,k with
  | [],_=>rfl
  | [_],_=>rfl
  | [_,_],k=>exact absurd rfl k
  | _::_::_::_,_=>rfl
def Lz {p p':Addr}{ts:List T}(hp:C p=some (.lst ts))(hr:C p'=some (.lst []))(q:Q (.bl ts.isEmpty) C):Nf false (.ref p) (.ref p') C Q:=by
 refine⟨ts,[],hp,hr,λh=>?_,?_⟩
 ·have:ts=[]:=List.eq_nil_of_length_eq_zero h
  subst this
  exact⟨by unfold Y4;rfl,by unfold Y4;rfl⟩
 ·have:Vd ts []=ts.isEmpty:=by cases ts<;>simp[Vd]
  rw[XX (by decide),this];exact q
def hd (t:Tr)(s:Str):Bool:=match t with | .w x=>x==s | .n _=>false
def Tg {t:Tr}{v:T}{s:Str}{τ:Sw}(hv:Op C v t)(q:Q (.bl (hd t s)) C):eC (.str s) τ C (λy C2=>xG v y C2 Q) χ:=by
 cases t with
 | w x=>cases He hv;exact N4 rfl q
 | n ts=>obtain⟨a,vs,rfl,ha,_⟩:=Kr hv;exact⟨⟨_,ha⟩,Vq,q⟩
def vd {t:Tr}{v:T}(R:Rp W r)(G:GT W r f)(hm:3*f+4<=m)(hw:Wt f t)(hv:Op C v t)
  (q:∀p C',Xd (rd f) t=some p->Ex C C'->Q p C') (qr:Xd (rd f) t=none->r):W m Bz [v] C Q χ:=by
 obtain⟨m,rfl⟩:∃k,m=k+3:=⟨m-3,by omega⟩
 refine R.o_step_of rfl ⟨_,rfl,Kj R hw hv (λts et=>?_) λ⟨x,e⟩=>qr (by rw[e];rfl)⟩
 subst et
 obtain⟨a,vs,rfl,ha,hs⟩:=Kr hv
 have hw':∀t∈ts,Wt f t:=by cases hw with | n hl h=>exact λt m=>(h t m).mono
 have e:=hs.length
 refine⟨_,rfl,_,rfl,_,ha,N5 (v:=(vs.length:Int)==2) rfl ⟨_,rfl,?_⟩⟩
 by_cases k:ts.length=2
 ·obtain⟨t1,t2,rfl⟩:∃t1 t2,ts=[t1,t2]:=by
   match ts,k with
   | [t1,t2],_=>exact⟨t1,t2,rfl⟩
  obtain⟨v1,rs,rfl,h1,hs⟩:=Zy hs
  obtain⟨v2,rs,rfl,h2,hs⟩:=Zy hs
  cases Y8 hs
  refine Z4 rfl ⟨_,rfl,_,_,ha,Xa,Tg h1 ⟨_,rfl,?_⟩⟩
  by_cases kw:hd t1 "when"=true
  ·refine Z4 kw ?_
   cases t1 with
   | n _=>cases kw
   | w x=>
    have ex:x="when":=by simpa[hd] using kw
    subst ex
    refine⟨_,rfl,_,_,ha,Gw,G.at (by omega) (hw' t2 (.tail _ (.head _))) h2 (λy C2 ey hE2=>?_) λe2=>qr (by simp[Xd,e2])⟩
    exact⟨ZNB rfl,q _ C2 (by simp[Xd,ey]) hE2⟩
  ·refine Z5 (Bool.eq_false_iff.mpr kw) ⟨_,rfl,_,rfl,_,ha,N5 (v:=false) rfl ⟨_,rfl,Ym (Ym (Z8 (τ:=[]) R (qr ?_)))⟩⟩
   cases t1 with
   | n _=>rfl
   | w x=>
    have ex:x≠"when":=by simpa[hd] using kw
    simp[Xd,ex]
 ·refine Z5 (by rw[e];simpa using(show ¬(ts.length:Int)=2 by omega)) (Ym ⟨_,rfl,_,rfl,_,ha,N5 (v:=(vs.length:Int)==3) rfl ⟨_,rfl,?_⟩⟩)
  by_cases k3:ts.length=3
  ·obtain⟨t1,t2,t3,rfl⟩:∃t1 t2 t3,ts=[t1,t2,t3]:=by
    match ts,k3 with
    | [t1,t2,t3],_=>exact⟨t1,t2,t3,rfl⟩
   obtain⟨v1,rs,rfl,h1,hs⟩:=Zy hs
   obtain⟨v2,rs,rfl,h2,hs⟩:=Zy hs
   obtain⟨v3,rs,rfl,h3,hs⟩:=Zy hs
   cases Y8 hs
   refine Z4 rfl ⟨_,rfl,_,_,ha,Xa,Tg h1 ⟨_,rfl,?_⟩⟩
   have body:∀s:Str,t1=.w s->(s="in"\/s="be")->∀{D:We} {x0:Option T},D.rt=Q->D.xc=χ->
     Pj (Gg (Z2 (Yo S6 (Zu 1) (eC (.int 0))) (Z2 (Jp (W (m+2)) 18 (Z2 (Yo S6 (Zu 1) (eC (.int 1))) Jl)) (Z2 (Jp (W (m+2)) 4 (Z2 (Yo S6 (Zu 1) (eC (.int 2))) Jl)) Jl)))) D [x0,some (.ref a)] C:=by
    rintro s rfl hs' D x0 hD hX
    obtain⟨nx,rt,bk,ct,xc⟩:=D
    cases hD
    cases hX
    cases He h1
    refine⟨_,rfl,_,_,ha,Xa,?_⟩
    refine⟨_,rfl,_,_,ha,Gw,Vm R (hw' t2 (.tail _ (.head _))) h2 (λx C1 ex hE=>?_) λe1=>qr (by simp[Xd,hs',e1])⟩
    refine⟨_,rfl,_,_,hE _ _ ha,rfl,G.at (by omega) (hw' t3 (.tail _ (.tail _ (.head _)))) (h3.ex hE) (λy C2 ey hE2=>?_) λe2=>qr (by simp[Xd,hs',ex,e2])⟩
    exact⟨ZNB rfl,q _ C2 (by simp[Xd,hs',ex,ey]) (hE.trans hE2)⟩
   by_cases ki:hd t1 "in"=true
   ·refine Z4 ki ?_
    cases t1 with
    | n _=>cases ki
    | w x=>exact body x rfl (.inl (by simpa[hd] using ki)) rfl rfl
   ·refine Z5 (Bool.eq_false_iff.mpr ki) ⟨_,rfl,_,_,ha,Xa,Tg h1 ⟨_,rfl,?_⟩⟩
    by_cases kb:hd t1 "be"=true
    ·refine Z4 kb ?_
     cases t1 with
     | n _=>cases kb
     | w x=>exact body x rfl (.inr (by simpa[hd] using kb)) rfl rfl
    ·refine Z5 (Bool.eq_false_iff.mpr kb) (Z8 (τ:=[]) R (qr ?_))
     cases t1 with
     | n _=>rfl
     | w x=>
      have e1:x≠"in":=by simpa[hd] using ki
      have e2:x≠"be":=by simpa[hd] using kb
      simp[Xd,e1,e2]
  ·refine Z5 (by rw[e];simpa using(show ¬(ts.length:Int)=3 by omega)) (Ym (Z8 (τ:=[]) R (qr ?_)))
   match ts,k,k3 with
   | [],_,_=>rfl
   | [t1],_,_=>cases t1<;>rfl
   | [_,_],k,_=>exact absurd rfl k
   | [_,_,_],_,k=>exact absurd rfl k
   | t1::_::_::_::_,_,_=>cases t1<;>rfl
def ve {a:Addr}{vs:List T}{ts:List Tr}(R:Rp W r)(G:GT W r f)(hm:3*f+5<=m)(ha:C a=some (.lst vs))(hl:ts.length<=500)(hw:∀t∈ts,Wt f t)(hv:TrHs C vs ts)
  (q:∀x C',Va (rd f) ts=some x->Ex C C'->Q x C') (qr:Va (rd f) ts=none->r):W m Hs [.ref a] C Q χ:=by
 obtain⟨m,rfl⟩:∃k,m=k+3:=⟨m-3,by omega⟩
 refine R.o_rows_term rfl ⟨_,rfl,XO _,?_⟩
 intro p hp
 refine Lz ((Ex.new hp) _ _ ha) Zj ⟨_,rfl,?_⟩
 cases ts with
 | nil=>
  cases Y8 hv
  exact X0 (Z8 (τ:=[]) R (qr rfl))
 | cons t ts=>
  obtain⟨v,rs,rfl,h1,h2⟩:=Zy hv
  have E1:Ex C (up C p (.lst [])):=Ex.new hp
  have hl':ts.length+1<=500:=by simpa using hl
  refine Ym ⟨_,rfl,_,_,E1 _ _ ha,Xa,G.at (by omega) (hw t (.head _)) (h1.ex E1) (λx C1 ex hE=>?_) λe=>qr (by simp[Va,e])⟩
  have E2:=E1.trans hE
  refine⟨_,rfl,1,rfl,_,E2 _ _ ha,λl hl2=>?_⟩
  rw[D7]
  have E3:=E2.trans (Ex.new (o:=.lst rs) hl2)
  refine⟨_,Zj,Ti (g:=Xd (rd f)) (enc:=id) (Wp:=Wt f) (r:=r) (λt v C Q hw hv q qr=>vd R G (by omega) hw hv q qr) ts rs [] _ (λC' h=>h _ _ Zj) (λt m=>hw t (.tail _ m)) (h2.ex E3) (by simp;omega) (λbs C4 eb E4=>?_) λe=>qr (by simp[Va,ex,e])⟩
  intro p2 hp2
  refine⟨_,rfl,_,Zj,?_⟩
  exact⟨ZNB rfl,q _ _ (by simp[Va,ex,eb]) ((E3.trans E4).trans (Ex.new hp2))⟩
end
open PySem PySem.Spec PyProof.Rows L2 WL Rd
def Pr:∀(ss ys:List Str),ys.Nodup->(∀y∈ys,y∈ss)->ys.length<=ss.length
 | [],ys,_,h=>by
  cases ys with
  | nil=>exact XE _
  | cons y ys=>exact absurd (h y (.head _)) (by simp)
 | a::ss,ys,nd,h=>by
  by_cases ha:a∈ys
  ·have:=Pr ss (ys.erase a) (nd.erase a) λy hy=>by
    obtain⟨n,hy⟩:=(nd.mem_erase_iff).mp hy
    exact(List.mem_cons.mp (h y hy)).resolve_left n
   rw[List.length_erase_of_mem ha] at this
   rw[YF];omega
  ·have:=Pr ss ys nd λy hy=>(List.mem_cons.mp (h y hy)).resolve_left λe=>ha (e▸hy)
   rw[YF];omega
def Lf:∀(ss ys:List Str),ys.Nodup->(∀y∈ys,y∈ss)->ys.length=ss.length->ss.Nodup
 | [],ys,_,_,_=>.nil
 | a::ss,ys,nd,h,hl=>by
  rw[YF] at hl
  have ha:a∈ys:=Classical.byContradiction λha=>by
   have:=Pr ss ys nd λy hy=>(List.mem_cons.mp (h y hy)).resolve_left λe=>ha (e▸hy)
   omega
  have hs:∀y∈ys.erase a,y∈ss:=λy hy=>by
   obtain⟨n,hy⟩:=(nd.mem_erase_iff).mp hy
   exact(List.mem_cons.mp (h y hy)).resolve_left n
  have hl':(ys.erase a).length=ss.length:=by rw[List.length_erase_of_mem ha];omega
  refine List.nodup_cons.mpr ⟨λm=>?_,Lf ss _ (nd.erase a) hs hl'⟩
  have:=Pr (ss.erase a) (ys.erase a) (nd.erase a) λy hy=>by
   have hn:=((nd.mem_erase_iff).mp hy).1
   exact(List.mem_erase_of_ne hn).mpr (hs y hy)
  rw[List.length_erase_of_mem m] at this
  have:=List.length_pos_of_mem m
  omega
def zF {ss ys:List Str}(nd:ys.Nodup)(h:∀y,y∈ys↔y∈ss):ys.length=ss.length↔ss.Nodup:=
 ⟨Lf ss ys nd λy hy=>(h y).mp hy,λns=>Nat.le_antisymm (Pr ss ys nd λy hy=>(h y).mp hy) (Pr ys ss ns λy hy=>(h y).mpr hy)⟩
section
variable {C:Hw}{Q:WK}{χ:WX}{n f m:Nat}{W:Nat->Calls}{r:Prop}
def Da {v:T}{ss:List Str}(R:Rp W r)(hv:v=.tup (ss.map T.str)\/∃a,v=.ref a/\C a=some (.lst (ss.map T.str)))(hl:ss.length<=500)(q:ss.Nodup->Q .non C)(qr:¬ss.Nodup->r):W (n+2) Nz [v] C Q χ:=by
 have hb:ss.length+1<scanBound:=Nat.lt_of_le_of_lt (show ss.length+1<=600 by omega) (by decide)
 refine R.o_refuse_alike rfl ⟨_,rfl,ss,hv,hb,λys nd hy=>?_⟩
 have key:yD [v] C (λx C1=>xF (.int ys.length) x C1 (λx C1=>∃k,x=T.bl k/\if k=true then Pk (W (n+1)) 26 (Z2 (eC (.str "names that are bound together are unlike")) Jl) (ZUD Q χ) [some v] C1 else Q .non C1)):=by
  have fin:xF (.int ys.length) (.int ((ss.map T.str).length:Nat)) C (λx C1=>∃k,x=T.bl k/\if k=true then Pk (W (n+1)) 26 (Z2 (eC (.str "names that are bound together are unlike")) Jl) (ZUD Q χ) [some v] C1 else Q .non C1):=by
   rw[XI]
   by_cases k:ss.Nodup
   ·exact r9 (v:=true) (by rw[(zF nd hy).mpr k];simp) ⟨false,rfl,Ym (q k)⟩
   ·refine r9 (v:=false) (by simpa using(show ¬(ys.length:Int)=ss.length from λe=>k ((zF nd hy).mp (by omega)))) ⟨true,rfl,X0 (Z8 R (qr k))⟩
  rcases hv with rfl | ⟨a,rfl,ha⟩
  ·exact⟨_,rfl,fin⟩
  ·exact⟨_,rfl,_,ha,fin⟩
 exact⟨_,rfl,key⟩
def zl {n d:Nat}(h:1<=n):HT.sIx n d (some (-1))=n-1:=by
 show(if (-1:Int)<0 then((-1:Int)+(n:Int)).toNat else min (-1:Int).toNat n)=n-1
 rw[XY (by decide)];omega
def Go {α:Type}{x:α}{l:List α}:Ef (l++[x]) none (some (-1))=l:=by
 unfold Ef
 rw[zl (by simp),HT.sIx_none]
 simp
def xm {α:Type}{x y:α}{l:List α}:Ef (x::(l++[y])) (some 1) (some (-1))=l:=by
 unfold Ef
 have h1:HT.sIx (x::(l++[y])).length 0 (some 1)=1:=by
  have:=HT.sIx_nat (x::(l++[y])).length 0 1
  rw[show(some (1:Int))=some ((1:Nat):Int) from rfl,this]
  simp
 rw[h1,zl (by simp)]
 simp
def Ky {ts:List Tr}(h:1<=ts.length):∃us l,ts=us++[l]:=by
 have hn:ts≠[]:=λe=>by rw[e] at h;simp at h
 exact⟨ts.dropLast,ts.getLast hn,(List.dropLast_concat_getLast hn).symm⟩
def P5 {us:List Tr}{l:Tr}:(us++[l]).dropLast=us:=by simp
def N1 {us:List Tr}{l:Tr}:(us++[l]).getLast! =l:=by simp[List.getLast!_eq_getLast?_getD]
def O7 {α β:Type}{g:α->Option β}:∀{ts:List α} {bs:List β},all g ts=some bs->bs.length=ts.length
 | [],bs,e=>by cases e;rfl
 | t::ts,bs,e=>by
  unfold Rd.all at e
  split at e
  ·rename_i b bs' e1 e2
   cases e
   rw[YF,YF,O7 e2]
  ·cases e
def sJ {a:Addr}{vs:List T}{ts:List Tr}(R:Rp W r)(G:GT W r f)(hm:3*f+5<=m)(ha:C a=some (.lst vs))(hl:ts.length<=500)(hw:∀t∈ts,Wt f t)(hv:TrHs C vs ts)
  (q:∀x C',Oi (rd f) ts=some x->Ex C C'->Q x C') (qr:Oi (rd f) ts=none->r):W m F6 [.ref a] C Q χ:=by
 obtain⟨m,rfl⟩:∃k,m=k+3:=⟨m-3,by omega⟩
 have e:=hv.length
 unfold Oi at q qr
 by_cases k:ts.length<2\/ts.length>6
 ·rw[XY k] at qr
  refine R.o_let_term rfl ⟨_,rfl,_,rfl,_,ha,_,rfl,?_⟩
  by_cases k1:ts.length<2
  ·exact Z4 (decide_eq_true (show(vs.length:Int)<2 by omega)) (Z8 (τ:=[]) R (qr rfl))
  ·exact Z5 (YG (show ¬(vs.length:Int)<2 by omega)) ⟨_,rfl,_,rfl,_,ha,_,rfl,Z4 (decide_eq_true (show(vs.length:Int)>5+1 by omega)) (Z8 (τ:=[]) R (qr rfl))⟩
 rw[XX k] at q qr
 refine R.o_let_term rfl ⟨_,rfl,_,rfl,_,ha,_,rfl,Z5 (YG (show ¬(vs.length:Int)<2 by omega)) ⟨_,rfl,_,rfl,_,ha,_,rfl,Z5 (YG (show ¬(vs.length:Int)>5+1 by omega)) ?_⟩⟩
 obtain⟨us,l,rfl⟩:=Ky (ts:=ts) (by omega)
 rw[P5,N1] at q qr
 obtain⟨xs,ys,rfl,h1,h2⟩:=O2 hv
 obtain⟨vl,rs,rfl,h4,h3⟩:=Zy h2
 cases Y8 h3
 have hwl:Wt f l:=hw l (by simp)
 have hwu:∀t∈us,Wt f t:=λt m=>hw t (by simp[m])
 have hlu:us.length<=500:=by rw[List.length_append] at hl;omega
 refine⟨_,rfl,-1,rfl,_,ha,λp hp=>?_⟩
 rw[Go]
 have E1:Ex C (up C p (.lst xs)):=Ex.new hp
 refine⟨_,Zj,Ti (g:=Ws (rd f)) (enc:=λp=>.tup [.str p.1,p.2]) (Wp:=Wt f) (r:=r) (λt v C Q hw hv q qr=>vf R G (by omega) hw hv q qr) us xs [] _ (λC' h=>h _ _ Zj) hwu (h1.ex E1) (by simp;omega) (λps C4 eb E4=>?_) λe=>qr (by simp[e])⟩
 intro p2 hp2
 refine⟨_,rfl,_,Zj,?_⟩
 have E5:=(E1.trans E4).trans (Ex.new (o:=.lst ([]++ps.map λp=>T.tup [.str p.1,p.2])) hp2)
 have hlp:ps.length<=500:=by rw[O7 eb];exact hlu
 refine⟨_,rfl,T9 (λv=>match v with | .tup [s,_]=>s | _=>.non) trivial (by simp;exact Nat.le_of_lt (Jj (by omega))) (λy hy R' hR=>?_) λp3 hp3=>?_⟩
 ·simp only[List.nil_append,List.mem_map] at hy
  obtain⟨pp,_,rfl⟩:=hy
  exact⟨_,rfl,_,_,rfl,_,_,rfl,rfl,_,rfl,hR⟩
 have E6:=E5.trans (Ex.new (o:=.lst ((ps.map (·.1)).map T.str)) hp3)
 have em:List.map (λv:T=>match v with | .tup [s,_]=>s | _=>.non) ([]++List.map (λp:Str×T=>T.tup [.str p.1,p.2]) ps)=(ps.map (·.1)).map T.str:=by
  rw[List.nil_append,YE,YE];rfl
 rw[em]
 refine Da R (.inr ⟨p3,rfl,Zj⟩) (by rw[List.length_map];exact hlp) (λnd=>?_) λnn=>qr (by rw[eb];cases rd f l<;>simp[nn])
 refine⟨_,rfl,_,rfl,_,_,E6 _ _ ha,Vs xs vl,G.at (by omega) hwl (h4.ex E6) (λy C7 ey E7=>?_) λee=>qr (by rw[eb,ee])⟩
 exact⟨ZNB rfl,q _ C7 (by rw[eb,ey];simp[nd]) (E6.trans E7)⟩
end
open PySem PySem.Spec PyProof.Rows L2 WL Rd
section
variable {C:Hw}{Q:WK}{χ:WX}{n f m:Nat}{W:Nat->Calls}{r:Prop}
def TrHs.rev:∀{ts:List Tr} {vs:List T},TrHs C vs ts->TrHs C vs.reverse ts.reverse:=by
 have app:∀{ts us:List Tr} {vs ws:List T},TrHs C vs ts->TrHs C ws us->TrHs C (vs++ws) (ts++us):=by
  intro ts
  induction ts with
  | nil=>intro us vs ws h q;rw[Y8 h];exact q
  | cons t ts ih=>intro us vs ws h q;obtain⟨v,l,rfl,a,b⟩:=Zy h;exact R7 a (ih b q)
 intro ts
 induction ts with
 | nil=>intro vs h;rw[Y8 h];exact Ke
 | cons t ts ih=>
  intro vs h
  obtain⟨v,l,rfl,a,b⟩:=Zy h
  rw[List.reverse_cons,List.reverse_cons]
  exact app (ih b) (R7 a Ke)
def Ch {α β:Type}{g:α->Option β}:∀(ts us:List α),all g (ts++us)=match all g ts,all g us with | some a,some b=>some (a++b) | _,_=>none
 | [],us=>by
  show all g us=_
  cases all g us<;>rfl
 | t::ts,us=>by
  have ih:=Ch (g:=g) ts us
  show(match g t,all g (ts++us) with | some b,some bs=>some (b::bs) | _,_=>none)=match (match g t,all g ts with | some b,some bs=>some (b::bs) | _,_=>none),all g us with | some a,some b=>some (a++b) | _,_=>none
  rw[ih]
  cases g t<;>cases all g ts<;>cases all g us<;>rfl
def Ik {α β:Type}{g:α->Option β}:∀(ts:List α),all g ts.reverse=(all g ts).map List.reverse
 | []=>rfl
 | t::ts=>by
  rw[List.reverse_cons,Ch,Ik ts]
  show _=Option.map _ (match g t,all g ts with | some b,some bs=>some (b::bs) | _,_=>none)
  have:all g [t]=(g t).map λb=>[b]:=by
   show(match g t,all g [] with | some b,some bs=>some (b::bs) | _,_=>none)=_
   cases g t<;>rfl
  rw[this]
  cases g t<;>cases all g ts<;>simp
def Hj {D:We}{x0:Option T}{ok:Hw->Prop}(R:Rp W r):∀(ts:List Tr) (vs:List T) (F:T) (x2:Option T) (C:Hw),(∀C',Ex C C'->ok C')->(∀t∈ts,Wt f t)->TrHs C vs ts->
  (∀ss x2 C',all Xp ts=some ss->Ex C C'->D.nx [x0,some (ss.foldl (λF s=>.tup [.str "fun",.str s,F]) F),x2] C')->(all Xp ts=none->r)->
  Mu (T5 2) (W1 (Gg (Z2 (eC (.str "fun")) (Z2 (Jp (W (n+2)) 18 (Z2 (Zu 2) Jl)) (Z2 (Zu 1) Jl)))) (T5 1)) ok D vs [x0,some F,x2] C
 | [],vs,F,x2,C,hok,hw,hv,q,qr=>by
  cases Y8 hv
  exact⟨hok C (Ex.refl C),q [] x2 C rfl (Ex.refl C)⟩
 | t::ts,vs,F,x2,C,hok,hw,hv,q,qr=>by
  obtain⟨v,rs,rfl,h1,h2⟩:=Zy hv
  refine⟨hok C (Ex.refl C),_,rfl,Vm R (hw t (.head _)) h1 (λx C1 ex hE=>?_) λe=>qr (by unfold Rd.all;rw[e])⟩
  refine⟨_,rfl,ZNB rfl,?_⟩
  refine Hj R ts rs _ _ C1 (λC' h=>hok C' (hE.trans h)) (λt' m=>hw t' (.tail _ m)) (h2.ex hE) (λss x2' C2 es hE2=>?_) λe=>qr (by unfold Rd.all;rw[e];cases Xp t<;>rfl)
  exact q (x::ss) x2' C2 (by unfold Rd.all;rw[ex,es]) (hE.trans hE2)
def sK {a:Addr}{vs:List T}{ts:List Tr}(R:Rp W r)(G:GT W r f)(hm:3*f+5<=m)(ha:C a=some (.lst vs))(hl:ts.length<=500)(hw:∀t∈ts,Wt f t)(hv:TrHs C vs ts)
  (q:∀x C',Oj (rd f) ts=some x->Ex C C'->Q x C') (qr:Oj (rd f) ts=none->r):W m F8 [.ref a] C Q χ:=by
 obtain⟨m,rfl⟩:∃k,m=k+3:=⟨m-3,by omega⟩
 have e:=hv.length
 unfold Oj at q qr
 by_cases k:ts.length<2
 ·rw[XY k] at qr
  exact R.o_fun_term rfl ⟨_,rfl,_,rfl,_,ha,_,rfl,Z4 (decide_eq_true (show(vs.length:Int)<2 by omega)) (Z8 (τ:=[]) R (qr rfl))⟩
 rw[XX k] at q qr
 refine R.o_fun_term rfl ⟨_,rfl,_,rfl,_,ha,_,rfl,Z5 (YG (show ¬(vs.length:Int)<2 by omega)) ?_⟩
 obtain⟨us,l,rfl⟩:=Ky (ts:=ts) (by omega)
 rw[P5,N1] at q qr
 obtain⟨xs,ys,rfl,h1,h2⟩:=O2 hv
 obtain⟨vl,rs,rfl,h4,h3⟩:=Zy h2
 cases Y8 h3
 have hwl:Wt f l:=hw l (by simp)
 have hwu:∀t∈us,Wt f t:=λt m=>hw t (by simp[m])
 refine⟨_,rfl,_,_,ha,Vs xs vl,G.at (by omega) hwl h4 (λy C1 ey E1=>?_) λee=>qr (by rw[ee];cases all Xp us<;>rfl)⟩
 refine⟨_,rfl,-1,rfl,_,E1 _ _ ha,λp hp=>?_⟩
 rw[Go]
 have E2:=E1.trans (Ex.new (o:=.lst xs) hp)
 refine⟨p,xs,rfl,Zj,Hj R us.reverse xs.reverse y none _ (λC' h=>h _ _ Zj) (λt m=>hwu t (List.mem_reverse.mp m)) (TrHs.rev (h1.ex E2)) (λss x2 C3 es E3=>?_) λee=>qr (by
  rw[Ik,Option.map_eq_none_iff] at ee
  rw[ee])⟩
 rw[Ik] at es
 cases eu:all Xp us with
 | none=>rw[eu] at es;cases es
 | some ns=>
  rw[eu] at es
  cases es
  refine⟨_,rfl,q _ C3 (by rw[eu,ey]) (E2.trans E3)|>λz=>?_⟩
  rw[List.foldl_reverse]
  exact z
def sQ {t:Tr}{v:T}(R:Rp W r)(G:GT W r f)(hm:3*f+4<=m)(hw:Wt f t)(hv:Op C v t)
  (q:∀b C',Qu (rd f) t=some b->Ex C C'->Q (.tup [.str b.1,.tup (b.2.1.map T.str),b.2.2]) C') (qr:Qu (rd f) t=none->r):W m Pu [v] C Q χ:=by
 obtain⟨m,rfl⟩:∃k,m=k+3:=⟨m-3,by omega⟩
 refine R.o_alternative_of rfl ⟨_,rfl,Kj R hw hv (λts et=>?_) λ⟨x,e⟩=>qr (by rw[e];rfl)⟩
 subst et
 obtain⟨a,vs,rfl,ha,hs⟩:=Kr hv
 have hw':∀t∈ts,Wt f t:=by cases hw with | n hl h=>exact λt m=>(h t m).mono
 have hlt:ts.length<=500:=by cases hw with | n hl h=>exact hl
 have e:=hs.length
 refine⟨_,rfl,_,rfl,_,ha,_,rfl,?_⟩
 by_cases k:ts.length<2
 ·refine Z4 (decide_eq_true (show(vs.length:Int)<2 by omega)) (Z8 (τ:=[]) R (qr ?_))
  match ts,k with
  | [],_=>rfl
  | [t1],_=>cases t1<;>rfl
  | _::_::_,k=>exact absurd k (by simp only[List.length_cons];omega)
 refine Z5 (YG (show ¬(vs.length:Int)<2 by omega)) ?_
 cases ts with
 | nil=>simp at k
 | cons t0 ts=>
  obtain⟨v0,rs,rfl,h0,hs1⟩:=Zy hs
  cases t0 with
  | n us=>
   obtain⟨a0,vs0,rfl,ha0,_⟩:=Kr h0
   exact⟨_,rfl,_,_,ha,Xa,"list",.inl ⟨rfl,_,ha0⟩,false,rfl,Z8 (τ:=[]) R (qr rfl)⟩
  | w s=>
   cases He h0
   have hk:1<=ts.length:=by simp at k;omega
   obtain⟨us,l,rfl⟩:=Ky (ts:=ts) hk
   have al:Qu (rd f) (.n (.w s::(us++[l])))=match all Xp us,rd f l with
     | some ns,some b=>if ns.Nodup/\Ez.lookup s=some (ns.length:Int) then some (s,ns,b) else none
     | _,_=>none:=by
    show(if us++[l]=[] then none else _)=_
    rw[if_neg (by simp),P5,N1]<;>rfl
   rw[al] at q qr
   obtain⟨xs,ys,rfl,h1,h2⟩:=O2 hs1
   obtain⟨vl,rs,rfl,h4,h3⟩:=Zy h2
   cases Y8 h3
   have hwl:Wt f l:=hw' l (by simp)
   have hwu:∀t∈us,Wt f t:=λt m=>hw' t (by simp[m])
   have hlu:us.length<=500:=by simp at hlt;omega
   refine⟨_,rfl,_,_,ha,Xa,"str",rfl,true,rfl,?_⟩
   refine⟨_,rfl,1,rfl,-1,rfl,_,ha,λp hp=>?_⟩
   rw[xm]
   have E1:Ex C (up C p (.lst xs)):=Ex.new hp
   refine⟨_,Zj,Ti (g:=Xp) (enc:=T.str) (Wp:=Wt f) (r:=r) (λt v C Q hw hv q qr=>Vm R hw hv q qr) us xs [] _ (λC' h=>h _ _ Zj) hwu (h1.ex E1) (by simp;omega) (λns C4 eb E4=>?_) λe=>qr (by rw[e])⟩
   rw[List.nil_append]
   intro p2 hp2
   refine⟨_,rfl,_,Zj,?_⟩
   have E5:=(E1.trans E4).trans (Ex.new (o:=.lst (ns.map T.str)) hp2)
   have hln:ns.length<=500:=by rw[O7 eb];exact hlu
   refine⟨_,rfl,Da R (.inl rfl) hln (λnd=>?_) λnn=>qr (by rw[eb];cases rd f l<;>simp[nn])⟩
   refine⟨_,rfl,_,_,E5 _ _ ha,Xa,s,rfl,_,rfl,_,rfl,?_⟩
   have en:(ns.map T.str).length=ns.length:=by simp
   have fin:Ez.lookup s=some (ns.length:Int)->Pj (Gg (Z2 (Yo S6 (Zu 1) (eC (.int 0))) (Z2 (Zu 2) (Z2 (Jp (W (m+2)) 4 (Z2 (Yo S6 (Zu 1) (uB Ct (eC (.int 1)))) Jl)) Jl)))) (ZUD Q χ) [some (.ref a),some (.ref a),some (.tup (ns.map T.str))] (up C4 p2 (.lst (ns.map T.str))):=λhsh=>by
    refine⟨_,rfl,_,_,E5 _ _ ha,Xa,_,rfl,_,rfl,_,_,E5 _ _ ha,(show Ub ((T.str s::xs)++[vl]) (-1)=some vl from Vs _ _),G.at (by omega) hwl (h4.ex E5) (λy C7 ey E7=>?_) λee=>qr (by rw[eb,ee])⟩
    exact⟨ZNB rfl,q (s,ns,y) C7 (by rw[eb,ey];simp[nd,hsh]) (E5.trans E7)⟩
   have sh:qK g_SHAPES s=match Ez.lookup s with | some i=>T.int i | none=>.non:=rfl
   rw[sh]
   cases hsh:Ez.lookup s with
   | none=>exact⟨rfl,rfl,true,rfl,X0 (Z8 (τ:=[]) R (qr (by rw[eb];cases rd f l<;>simp[hsh])))⟩
   | some i=>
    by_cases ki:i=(ns.length:Int)
    ·refine r9 (v:=true) (by rw[ki,en];simp) ⟨false,rfl,Ym (fin (by rw[hsh,ki]))⟩
    ·refine r9 (v:=false) (by rw[en];simpa using ki) ⟨true,rfl,X0 (Z8 (τ:=[]) R (qr (by rw[eb];cases rd f l<;>simp[hsh,ki])))⟩
end
open PySem PySem.Spec PyProof.Rows L2 WL Rd
def Li:∀(as bs:List Str),Vd (as.map T.str) (bs.map T.str)=decide (as=bs)
 | [],[]=>by simp[Vd]
 | [],_::_=>by simp[Vd]
 | _::_,[]=>by simp[Vd]
 | a::as,b::bs=>by
  have ih:=Li as bs
  simp only[List.map_cons,Vd,WL.eqT,ih]
  by_cases h:a=b<;>by_cases k:as=bs<;>simp[h,k]
def jS (ss:List Str):Pt (.tup (ss.map T.str)) (Gb.map λl=>.tup (l.map T.str))=decide (ss∈Gb):=by
 unfold Pt
 rw[List.any_map]
 have:((λy=>WL.eqT y (.tup (ss.map T.str)))∘λl:List Str=>T.tup (l.map T.str))=λl=>decide (l=ss):=by
  funext l
  show WL.eqT (.tup (l.map T.str)) (.tup (ss.map T.str))=_
  simp only[WL.eqT]
  exact Li l ss
 rw[this]
 by_cases h:ss∈Gb
 ·rw[decide_eq_true h];exact List.any_eq_true.mpr ⟨ss,h,by simp⟩
 ·rw[YG h];exact List.any_eq_false.mpr λl hl=>by
   have:l≠ss:=λe=>h (e▸hl)
   simp[this]
section
variable {C:Hw}{Q:WK}{χ:WX}{n f m:Nat}{W:Nat->Calls}{r:Prop}
def zk {a:Addr}{vs:List T}{ts:List Tr}(R:Rp W r)(G:GT W r f)(hm:3*f+5<=m)(ha:C a=some (.lst vs))(hl:ts.length<=500)(hw:∀t∈ts,Wt f t)(hv:TrHs C vs ts)
  (q:∀x C',Jo (rd f) ts=some x->Ex C C'->Q x C') (qr:Jo (rd f) ts=none->r):W m Ms [.ref a] C Q χ:=by
 obtain⟨m,rfl⟩:∃k,m=k+3:=⟨m-3,by omega⟩
 refine R.o_choose_term rfl ⟨_,rfl,XO _,?_⟩
 intro p hp
 refine Lz ((Ex.new hp) _ _ ha) Zj ⟨_,rfl,?_⟩
 cases ts with
 | nil=>
  cases Y8 hv
  exact X0 (Z8 (τ:=[]) R (qr rfl))
 | cons t ts=>
  obtain⟨v,rs,rfl,h1,h2⟩:=Zy hv
  have E2:Ex C (up C p (.lst [])):=Ex.new hp
  have hl':ts.length+1<=500:=by simpa using hl
  refine Ym ⟨_,rfl,1,rfl,_,E2 _ _ ha,λl hl2=>?_⟩
  rw[D7]
  have E3:=E2.trans (Ex.new (o:=.lst rs) hl2)
  refine⟨_,Zj,Ti (g:=Qu (rd f)) (enc:=λb=>.tup [.str b.1,.tup (b.2.1.map T.str),b.2.2]) (Wp:=Wt f) (r:=r) (λt v C Q hw hv q qr=>sQ R G (by omega) hw hv q qr) ts rs [] _ (λC' h=>h _ _ Zj) (λt m=>hw t (.tail _ m)) (h2.ex E3) (by simp;omega) (λbs C4 eb E4=>?_) λe=>qr (by simp only[Jo,e];cases rd f t<;>rfl)⟩
  rw[List.nil_append]
  intro p2 hp2
  refine⟨_,rfl,_,Zj,?_⟩
  have E5:=(E3.trans E4).trans (Ex.new (o:=.lst (bs.map λb=>T.tup [.str b.1,.tup (b.2.1.map T.str),b.2.2])) hp2)
  have hlb:bs.length<=500:=by rw[O7 eb];omega
  refine⟨_,rfl,T9 (λv=>match v with | .tup [s,_,_]=>s | _=>.non) trivial (by simp;exact Nat.le_of_lt (Jj (by omega))) (λy hy R' hR=>?_) λp3 hp3=>?_⟩
  ·obtain⟨b,_,rfl⟩:=XR.mp hy
   exact⟨_,rfl,_,_,rfl,_,_,rfl,_,_,rfl,rfl,_,rfl,hR⟩
  have em:List.map (λv:T=>match v with | .tup [s,_,_]=>s | _=>.non) (List.map (λb:Str×List Str×T=>T.tup [.str b.1,.tup (b.2.1.map T.str),b.2.2]) bs)=(bs.map (·.1)).map T.str:=by
   rw[YE,YE];rfl
  rw[em]
  have E6:=E5.trans (Ex.new (o:=.lst ((bs.map (·.1)).map T.str)) hp3)
  refine⟨_,rfl,_,Zj,yf (λx hx=>by obtain⟨y,_,rfl⟩:=XR.mp hx;exact Vq),rfl,?_⟩
  refine⟨_,rfl,?_⟩
  have ei:Pt (.tup ((bs.map (·.1)).map T.str)) [.tup [.str "Nil",.str "Cons"],.tup [.str "No",.str "Yes"],.tup [.str "Pair"]]=decide (bs.map (·.1)∈Gb):=jS _
  by_cases kf:bs.map (·.1)∈Gb
  ·refine Z5 (by show(if true=true then !Pt _ _ else Pt _ _)=false;rw[XY rfl,ei,decide_eq_true kf];rfl) ?_
   refine⟨_,rfl,_,_,E6 _ _ ha,Xa,G.at (by omega) (hw t (.head _)) (h1.ex E6) (λx C1 ex hE=>?_) λe=>qr (by simp only[Jo,e])⟩
   exact⟨_,rfl,ZNB rfl,q _ _ (by simp only[Jo,ex,eb];rw[if_pos kf]) (E6.trans hE)⟩
  ·refine Z4 (by show(if true=true then !Pt _ _ else Pt _ _)=true;rw[XY rfl,ei,YG kf];rfl) (Z8 (τ:=[]) R (qr ?_))
   simp only[Jo,eb]
   cases rd f t
   ·rfl
   ·exact XX kf
end
open PySem PySem.Spec PyProof.Rows L2 WL Rd
section
variable {C:Hw}{Q:WK}{χ:WX}{n f m:Nat}{W:Nat->Calls}{r:Prop}
def I0 {x:Str}(R:Rp W r)(hx:Wk x)(q:∀t C',J5 x=some t->Ex C C'->Q t C')(qr:J5 x=none->r):W (n+3) T4 [.str x] C Q χ:=
 R.o_term_of rfl ⟨_,rfl,"str",rfl,true,rfl,X0 ⟨_,rfl,va R hx q qr⟩⟩
def rN {x:Str}{τ:Sw}(q:Q (.bl (decide (x∈ops))) C):eC g_OPS τ C (λy C2=>wC (.str x) y C2 Q) χ:=by
 show Lx false (.str x) (.tup (ops.map T.str)) C Q
 exact⟨Vq,N3,by rw[Hn];exact q⟩
def rO {a:Addr}{vs:List T}{τ:Sw}(ha:C a=some (.lst vs))(q:Q (.bl false) C):eC g_OPS τ C (λy C2=>wC (.ref a) y C2 Q) χ:=⟨⟨_,ha⟩,⟨ops,rfl⟩,q⟩
def og (R:Rp W r)(G:GT W r f){ts:List Tr}{a:Addr}{vs:List T}(hl:ts.length<=500)(hw:∀t∈ts,Wt f t)(ha:C a=some (.lst vs))(hv:TrHs C vs ts)
  (q:∀x C',Tb (rd f) ts=some x->Ex C C'->Q x C') (qr:Tb (rd f) ts=none->r) (hm:3*f+5<=m):W (m+1) T4 [.ref a] C Q χ:=by
 refine R.o_term_of rfl ⟨_,rfl,"list",.inl ⟨rfl,_,ha⟩,false,rfl,Ym ⟨_,rfl,XO _,?_⟩⟩
 intro p hp
 refine Lz ((Ex.new hp) _ _ ha) Zj ⟨_,rfl,?_⟩
 obtain⟨m,rfl⟩:∃k,m=k+1:=⟨m-1,by omega⟩
 cases ts with
 | nil=>
  cases Y8 hv
  exact X0 (Z8 (τ:=[]) R (qr rfl))
 | cons t ts=>
  obtain⟨v,rs,rfl,h1,h2⟩:=Zy hv
  have E1:Ex C (up C p (.lst [])):=Ex.new hp
  have hl':ts.length<=500:=by simp at hl;omega
  have hw':∀t∈ts,Wt f t:=λt m=>hw t (.tail _ m)
  refine Ym ⟨_,rfl,_,_,E1 _ _ ha,Xa,_,rfl,1,rfl,_,E1 _ _ ha,λb hb=>?_⟩
  rw[D7]
  have E:=E1.trans (Ex.new (o:=.lst rs) hb)
  have hb':(up (up C p (.lst [])) b (.lst rs)) b=some (.lst rs):=Zj
  have call:(Tb (rd f) (t::ts)=Vb (rd f) (t::ts))->∀{Q':WK},Q'=Q->W (m+1) On [.ref a] (up (up C p (.lst [])) b (.lst rs)) Q' χ:=by
   rintro ec Q' rfl
   rw[ec] at q qr
   exact vg R G (by omega) (E _ _ ha) hl hw (R7 (h1.ex E) (h2.ex E)) (λx C' ex hE=>q x C' ex (E.trans hE)) qr
  cases t with
  | n us=>
   obtain⟨a0,vs0,rfl,ha0,_⟩:=Kr h1
   have h1':=h1.ex E
   refine⟨_,rfl,rO (E _ _ ha0) ⟨_,rfl,Ym ?_⟩⟩
   refine⟨_,rfl,Tg h1' ⟨_,rfl,Ym ⟨_,rfl,Tg h1' ⟨_,rfl,Ym ⟨_,rfl,Tg h1' ⟨_,rfl,Ym ⟨_,rfl,Tg h1' ⟨_,rfl,Ym ⟨_,rfl,Tg h1' ⟨_,rfl,Ym ⟨_,rfl,Tg h1' ⟨_,rfl,Ym ?_⟩⟩⟩⟩⟩⟩⟩⟩⟩⟩⟩⟩
   exact⟨_,rfl,Tg h1' ⟨_,rfl,Ym ⟨_,rfl,Tg h1' ⟨_,rfl,Ym ⟨_,rfl,call rfl rfl⟩⟩⟩⟩⟩
  | w x=>
   cases He h1
   have h2':=h2.ex E
   have ee:∀s:Str,(x==s)=true->x=s:=λs h=>by simpa using h
   have en:∀{s:Str},x≠s->(x==s)=false:=λh=>by simpa using h
   refine⟨_,rfl,rN ⟨_,rfl,?_⟩⟩
   by_cases k0:x∈ops
   ·have e:Tb (rd f) (.w x::ts)=(two (rd f) ts).map λp=>.tup [.str "does",.str x,p.1,p.2]:=XY k0
    rw[e] at q qr
    exact Z4 (decide_eq_true k0) ⟨_,rfl,ZNB rfl,_,rfl,zh R G (by omega) hb' hl' hw' h2' (λy z C' e hE=>⟨ZNB rfl,q _ C' (by rw[e];rfl) (E.trans hE)⟩) λe=>qr (by rw[e];rfl)⟩
   refine Z5 (YG k0) ⟨_,rfl,N4 rfl ⟨_,rfl,?_⟩⟩
   simp only[Tb,if_neg k0] at q qr
   by_cases k1:x="fun"
   ·rw[XY k1] at q qr
    exact Z4 (by simpa using k1) ⟨_,rfl,sK R G (by omega) hb' hl' hw' h2' (λy C' e hE=>q y C' e (E.trans hE)) qr⟩
   rw[XX k1] at q qr
   refine Z5 (en k1) ⟨_,rfl,N4 rfl ⟨_,rfl,?_⟩⟩
   by_cases k2:x="let"
   ·rw[XY k2] at q qr
    exact Z4 (by simpa using k2) ⟨_,rfl,sJ R G (by omega) hb' hl' hw' h2' (λy C' e hE=>q y C' e (E.trans hE)) qr⟩
   rw[XX k2] at q qr
   refine Z5 (en k2) ⟨_,rfl,N4 rfl ⟨_,rfl,?_⟩⟩
   by_cases k3:x="choose"
   ·rw[XY k3] at q qr
    exact Z4 (by simpa using k3) ⟨_,rfl,zk R G (by omega) hb' hl' hw' h2' (λy C' e hE=>q y C' e (E.trans hE)) qr⟩
   rw[XX k3] at q qr
   refine Z5 (en k3) ⟨_,rfl,N4 rfl ⟨_,rfl,?_⟩⟩
   by_cases k4:x="first"
   ·rw[XY k4] at q qr
    exact Z4 (by simpa using k4) ⟨ZNB rfl,_,rfl,zh R G (by omega) hb' hl' hw' h2' (λy z C' e hE=>⟨ZNB rfl,q _ C' (by rw[e];rfl) (E.trans hE)⟩) λe=>qr (by rw[e];rfl)⟩
   rw[XX k4] at q qr
   refine Z5 (en k4) ⟨_,rfl,N4 rfl ⟨_,rfl,?_⟩⟩
   by_cases k5:x="stop"
   ·rw[XY k5] at q qr
    exact Z4 (by simpa using k5) ⟨_,rfl,vc R (by omega) hb' hw' h2' (λy C' e hE=>q y C' e (E.trans hE)) qr⟩
   rw[XX k5] at q qr
   refine Z5 (en k5) ⟨_,rfl,N4 rfl ⟨_,rfl,?_⟩⟩
   by_cases k6:x="rows"
   ·rw[XY k6] at q qr
    exact Z4 (by simpa using k6) ⟨_,rfl,ve R G (by omega) hb' hl' hw' h2' (λy C' e hE=>q y C' e (E.trans hE)) qr⟩
   rw[XX k6] at q qr
   refine Z5 (en k6) ⟨_,rfl,N4 rfl ⟨_,rfl,?_⟩⟩
   have shape:(x="Cons"\/x="Pair")->∀{D:We},D.rt=Q->D.xc=χ->Pj (Gg (Z2 (eC (.str "shape")) (Z2 (Zu 1) (Z2 (Jp (W (m+1)) 7 (Z2 (Zu 2) Jl)) Jl)))) D [some (.ref a),some (.str x),some (.ref b)] (up (up C p (.lst [])) b (.lst rs)):=by
    rintro k7 D hD hX
    obtain⟨nx,rt,bk,ct,xc⟩:=D
    cases hD
    cases hX
    rw[XY k7] at q qr
    exact⟨_,rfl,_,rfl,zh R G (by omega) hb' hl' hw' h2' (λy z C' e hE=>⟨ZNB rfl,q _ C' (by rw[e];rfl) (E.trans hE)⟩) λe=>qr (by rw[e];rfl)⟩
   by_cases k7:x="Cons"
   ·exact Z4 (by simpa using k7) (shape (.inl k7) rfl rfl)
   refine Z5 (en k7) ⟨_,rfl,N4 rfl ⟨_,rfl,?_⟩⟩
   by_cases k8:x="Pair"
   ·exact Z4 (by simpa using k8) (shape (.inr k8) rfl rfl)
   refine Z5 (en k8) ⟨_,rfl,call ?_ rfl⟩
   have k9:¬(x="Cons"\/x="Pair"):=by simp[k7,k8]
   show(if x∈ops then _ else _)=_
   rw[XX k0,XX k1,XX k2,XX k3,XX k4,XX k5,XX k6,XX k9]
def zT (R:Rp W r):∀f,GT W r f
 | 0,n,C,Q,χ,v,t,hw,hv,q,qr=>by
  cases hw with
  | w h=>cases He hv;exact I0 R h q qr
 | f+1,n,C,Q,χ,v,t,hw,hv,q,qr=>by
  cases hw with
  | w h=>
   cases He hv
   exact I0 (n:=n+3*(f+1)) R h q qr
  | n hl h=>
   obtain⟨a,vs,rfl,ha,hs⟩:=Kr hv
   exact og (m:=n+3*f+5) R (zT R f) hl h ha hs q qr (by omega)
end
namespace Rd
open PySem PySem.Spec PyProof.Rows L2 WL
mutual
def mp (s:Str->Tr):Tr->Tr
 | .w x=>s x
 | .n ts=>.n (mps s ts)
def mps (s:Str->Tr):List Tr->List Tr
 | []=>[]
 | t::ts=>mp s t::mps s ts
end
mutual
def fl:Tr->List Str
 | .w x=>[x]
 | .n ts=>"("::(fls ts++[(")":Str)])
def fls:List Tr->List Str
 | []=>[]
 | t::ts=>fl t++fls ts
end
def X1 {x:Str}:fl (.w x)=[x]:=by unfold fl;rfl
def Vc {ts:List Tr}:fl (.n ts)=("(":Str)::(fls ts++[(")":Str)]):=by rw[fl]
def Xf:fls []=[]:=by unfold fls;rfl
def J4 {t:Tr}{ts:List Tr}:fls (t::ts)=fl t++fls ts:=by rw[fls]
def sp:List Str:=ops++Bt++Ez.map (·.1)
def wH (H:List Str):Tr->Bool
 | .w x=>decide (x∈H)
 | .n _=>true
def hdT (H:List Str):List Tr->Bool
 | .w x::r=>decide (x∈H)&&(!(x=="let")||r.dropLast.all (wH H))&&(!(x=="choose")||r.tail.all (wH H))&&(!(x=="rows")||r.tail.all (wH H))
 | _=>true
def nj (L H:List Str):Nat->Tr->Bool
 | _,.w x=>decide (x∈L)
 | 0,.n _=>false
 | n+1,.n ts=>ts.all (nj L H n)&&(hdT H ts&&decide (ts.length<=500))
def zo {n:Nat}{x:Str}:rd n (.w x)=J5 x:=by cases n<;>rfl
structure Sb (s:Str->Tr)(L H:List Str)(k:Nat):Prop where
 t:∀w∈L,∀m,k<=m->(rd m (s w)).isSome=(J5 w).isSome
 nm:∀w∈L,Xu w=true->∃x,s w=.w x/\Xu x=true
 no:∀w∈L,Xu w=false->Xp (s w)=none
 inj:∀w∈L,∀v∈L,Xu w=true->Xu v=true->s w=s v->w=v
 h:∀w∈H,∃x,s w=.w x/\(x=w\/(w∉sp/\x∉sp))
section
variable {α β γ:Type}
end
section
variable {s:Str->Tr}{L H:List Str}{k n m:Nat}{g g':Tr->Option T}(S:Sb s L H k)
def un (s:Str->Tr)(w:Str):Str:=match s w with | .w x=>x | .n _=>w
include S
variable (hg:∀t,nj L H n t=true->(g' (mp s t)).isSome=(g t).isSome)
include hg
omit S hg in
def Kv {y:Str}:∀{l:List (Str×Int)},y∉l.map (·.1)->l.lookup y=none
 | [],_=>rfl
 | (a,b)::l,h=>by
  rw[YI,List.mem_cons,not_or] at h
  rw[List.lookup_cons,show(y==a)=false by simpa using h.1]
  exact Kv h.2
end
def Ye (S:List (List Tr))(w:Str):Option (List (List Tr)):=
 if w="(" then some ([]::S) else if w≠")" then(match S with | t::r=>some ((t++[.w w])::r) | []=>none) else match S with
  | t::u::r=>some ((u++[.n t])::r)
  | _=>none
def run:List Str->List (List Tr)->Option (List (List Tr))
 | [],S=>some S
 | w::ws,S=>(Ye S w).bind (run ws)
def T2:∀(ws vs:List Str) (S:List (List Tr)),run (ws++vs) S=(run ws S).bind (run vs)
 | [],vs,S=>rfl
 | w::ws,vs,S=>by
  show(Ye S w).bind (run (ws++vs))=((Ye S w).bind (run ws)).bind (run vs)
  cases Ye S w with
  | none=>rfl
  | some S'=>exact T2 ws vs S'
mutual
def Nb:Tr->Prop
 | .w x=>x≠"("/\x≠")"
 | .n ts=>Nbs ts
def Nbs:List Tr->Prop
 | []=>True
 | t::ts=>Nb t/\Nbs ts
end
mutual
def Km:∀{τ:Tr},Nb τ->∀(t:List Tr) (r:List (List Tr)),run (fl τ) (t::r)=some ((t++[τ])::r)
 | .w x,h,t,r=>by
  unfold Nb at h
  unfold fl
  show(Ye (t::r) x).bind (run [])=_
  unfold Ye
  rw[XX h.1,XY h.2];rfl
 | .n ts,h,t,r=>by
  unfold Nb at h
  unfold fl
  show(Ye (t::r) "(").bind (run (fls ts++[(")":Str)]))=_
  have e:Ye (t::r) "("=some ([]::t::r):=by unfold Ye;rw[XY rfl]
  rw[e]
  show run (fls ts++[(")":Str)]) ([]::t::r)=_
  rw[T2,De h]
  show(Ye (([]++ts)::t::r) ")").bind (run [])=_
  have e2:Ye (([]++ts)::t::r) ")"=some ((t++[.n ts])::r):=by unfold Ye;rw[XX (by decide),XX (by decide)];rfl
  rw[e2];rfl
def De:∀{ts:List Tr},Nbs ts->∀(t:List Tr) (r:List (List Tr)),run (fls ts) (t::r)=some ((t++ts)::r)
 | [],_,t,r=>by unfold fls;rw[YK];rfl
 | τ::ts,h,t,r=>by
  unfold Nbs at h
  unfold fls
  rw[T2,Km h.1]
  show run (fls ts) ((t++[τ])::r)=_
  rw[De h.2,YL];rfl
end
def Ev {S S':List (List Tr)}{w:Str}(h:Ye S w=some S'):S'≠[]:=by
 unfold Ye at h
 by_cases c1:w="("
 ·rw[XY c1] at h;cases h;exact List.cons_ne_nil _ _
 rw[XX c1] at h
 by_cases c2:w≠")"
 ·rw[XY c2] at h
  cases S with
  | nil=>cases h
  | cons t r=>cases h;exact List.cons_ne_nil _ _
 ·rw[XX c2] at h
  match S,h with
  | t::u::r,h=>cases h;exact List.cons_ne_nil _ _
def Fq:∀{ws:List Str} {S S':List (List Tr)},S≠[]->run ws S=some S'->S'≠[]
 | [],S,S',hS,h=>by cases h;exact hS
 | w::ws,S,S',hS,h=>by
  have e:run (w::ws) S=(Ye S w).bind (run ws):=rfl
  rw[e] at h
  cases hs:Ye S w with
  | none=>rw[hs] at h;cases h
  | some S1=>rw[hs] at h;exact Fq (Ev hs) h
def Wb (ws:List Str):Option Tr:=match run ws [[]] with
 | some [[τ]]=>some τ
 | _=>none
def Et {τ:Tr}(h:Nb τ):Wb (fl τ)=some τ:=by
 unfold Wb
 rw[Km h];rfl
def A7 {ws:List Str}{i:Nat}(h:run (ws.take i) [[]]=none):Wb ws=none:=by
 unfold Wb
 rw[<-List.take_append_drop i ws,T2,h];rfl
end Rd
open PySem PySem.Spec PyProof.Rows L2 WL Rd
mutual
def Is (P:Addr->Prop)(C:Hw)(v:T):Tr->Prop
 | .w x=>v=.str x
 | .n ts=>∃a vs,v=.ref a/\P a/\C a=some (.lst vs)/\TrPs P C vs ts
def TrPs (P:Addr->Prop)(C:Hw)(vs:List T):List Tr->Prop
 | []=>vs=[]
 | t::ts=>∃v r,vs=v::r/\Is P C v t/\TrPs P C r ts
end
mutual
def Is.mono {P P':Addr->Prop}{C C':Hw}(h:∀a o,P a->C a=some o->P' a/\C' a=some o){v:T}:∀{t:Tr},Is P C v t->Is P' C' v t
 | .w x,q=>by unfold Is at q |-;exact q
 | .n ts,q=>by
  unfold Is at q |-
  obtain⟨a,vs,e,p,ha,q⟩:=q
  obtain⟨p',ha'⟩:=h _ _ p ha
  exact⟨a,vs,e,p',ha',TrPs.mono h q⟩
def TrPs.mono {P P':Addr->Prop}{C C':Hw}(h:∀a o,P a->C a=some o->P' a/\C' a=some o){vs:List T}:∀{ts:List Tr},TrPs P C vs ts->TrPs P' C' vs ts
 | [],q=>by unfold TrPs at q |-;exact q
 | t::ts,q=>by
  unfold TrPs at q |-
  obtain⟨v,r,e,q1,q2⟩:=q
  exact⟨v,r,e,Is.mono h q1,TrPs.mono h q2⟩
end
mutual
def Is.h {P:Addr->Prop}{C:Hw}{v:T}:∀{t:Tr},Is P C v t->Op C v t
 | .w x,q=>by unfold Is at q;unfold Op;exact q
 | .n ts,q=>by
  unfold Is at q;unfold Op
  obtain⟨a,vs,e,p,ha,q⟩:=q
  exact⟨a,vs,e,ha,TrPs.h q⟩
def TrPs.h {P:Addr->Prop}{C:Hw}{vs:List T}:∀{ts:List Tr},TrPs P C vs ts->TrHs C vs ts
 | [],q=>by unfold TrPs at q;unfold TrHs;exact q
 | t::ts,q=>by
  unfold TrPs at q;unfold TrHs
  obtain⟨v,r,e,q1,q2⟩:=q
  exact⟨v,r,e,Is.h q1,TrPs.h q2⟩
end
def TrPs.snoc {P:Addr->Prop}{C:Hw}{v:T}{t:Tr}(h:Is P C v t):∀{ts:List Tr} {vs:List T},TrPs P C vs ts->TrPs P C (vs++[v]) (ts++[t])
 | [],vs,q=>by unfold TrPs at q;subst q;unfold TrPs;exact⟨v,[],rfl,h,by unfold TrPs;rfl⟩
 | t'::ts,vs,q=>by
  unfold TrPs at q
  obtain⟨v',r,rfl,q1,q2⟩:=q
  show TrPs P C (v'::(r++[v])) (t'::(ts++[t]))
  unfold TrPs
  exact⟨v',r++[v],rfl,q1,TrPs.snoc h q2⟩
def TrPs.len {P:Addr->Prop}{C:Hw}{ts:List Tr}{vs:List T}(h:TrPs P C vs ts):vs.length=ts.length:=h.h.length
def Ls (P:Addr->Prop)(C:Hw):List Addr->List (List Tr)->Prop
 | [],[]=>True
 | p::ps,t::S=>(∃vs,C p=some (.lst vs)/\TrPs P C vs t)/\Ls P C ps S
 | _,_=>False
def Ls.mono {P P':Addr->Prop}{C C':Hw}(h:∀a o,P a->C a=some o->P' a/\C' a=some o):∀{ps:List Addr} {S:List (List Tr)},(∀p∈ps,∀o,C p=some o->C' p=some o)->Ls P C ps S->Ls P' C' ps S
 | [],[],_,q=>trivial
 | p::ps,t::S,hp,q=>by
  obtain⟨⟨vs,h1,h2⟩,q⟩:=q
  exact⟨⟨vs,hp p (by simp) _ h1,h2.mono h⟩,Ls.mono h (λa ha=>hp a (by simp[ha])) q⟩
 | [],_::_,_,q=>q.elim
 | _::_,[],_,q=>q.elim
def Ls.len {P:Addr->Prop}{C:Hw}:∀{ps:List Addr} {S:List (List Tr)},Ls P C ps S->ps.length=S.length
 | [],[],_=>rfl
 | _::ps,_::S,h=>by rw[YF,YF,Ls.len h.2]
 | [],_::_,q=>q.elim
 | _::_,[],q=>q.elim
structure Pl (C0 C:Hw)(a:Addr)(ps:List Addr)(S:List (List Tr))(m:Nat):Prop where
 ex:Ex C0 C
 fr:C0 a=none/\∀p∈ps,C0 p=none
 at_:C a=some (.lst (ps.reverse.map T.ref))
 nd:(a::ps).Nodup
 ls:Ls (λb=>b∉a::ps) C ps S
 sz:S.length<=m+1/\∀t∈S,t.length<=m
section
variable {C:Hw}{Q:WK}{χ:WX}{n:Nat}{W:Nat->Calls}{r:Prop}
def j6 {C0 C:Hw}{a p:Addr}{ps:List Addr}{S:List (List Tr)}{m:Nat}(h:Pl C0 C a ps S m)(hp:C p=none):Pl C0 (up (up C p (.lst [])) a (.lst ((p::ps).reverse.map T.ref))) a (p::ps) ([]::S) (m+1):=by
 have hpa:p≠a:=ox h.at_ hp
 have hpps:p∉ps:=λhm=>by
  obtain⟨i,hi⟩:=List.mem_iff_getElem?.mp hm
  have:∀{ps:List Addr} {S:List (List Tr)} {P:Addr->Prop},Ls P C ps S->∀q∈ps,∃o,C q=some o:=by
   intro ps
   induction ps with
   | nil=>intro S P _ q hq;cases hq
   | cons x ps ih=>
    intro S P hL q hq
    cases S with
    | nil=>exact hL.elim
    | cons t S=>
     obtain⟨⟨vs,h1,_⟩,h2⟩:=hL
     rcases List.mem_cons.mp hq with rfl | hq
     ·exact⟨_,h1⟩
     ·exact ih h2 q hq
  obtain⟨o,ho⟩:=this h.ls p hm
  rw[hp] at ho;cases ho
 have hps:∀q∈ps,q≠a:=λq hq e=>by subst e;exact(List.nodup_cons.mp h.nd).1 hq
 refine⟨λb o e=>?_,⟨h.fr.1,λq hq=>?_⟩,Zj,?_,⟨⟨[],by rw[Jq hpa];exact Zj,by unfold TrPs;rfl⟩,?_⟩,?_⟩
 ·have hb:=h.ex b o e
  rw[Jq (cne e h.fr.1),Jq (cne hb hp)]
  exact hb
 ·rcases List.mem_cons.mp hq with rfl | hq
  ·exact h.ex.free hp
  ·exact h.fr.2 q hq
 ·rw[List.nodup_cons,List.nodup_cons]
  obtain⟨h1,h2⟩:=List.nodup_cons.mp h.nd
  exact⟨λz=>(List.mem_cons.mp z).elim (λe=>hpa e.symm) h1,hpps,h2⟩
 ·refine Ls.mono (λb o hb e=>?_) (λq hq o e=>?_) h.ls
  ·have hbp:b≠p:=cne e hp
   have hba:b≠a:=λz=>hb (by rw[z];simp)
   refine⟨λz=>?_,by rw[Jq hba,Jq hbp];exact e⟩
   simp only[List.mem_cons] at z hb
   rcases z with z | z | z
   ·exact hba z
   ·exact hbp z
   ·exact hb (.inr z)
  ·rw[Jq (hps q hq),Jq (cne e hp)];exact e
 ·refine⟨by simp;exact h.sz.1,λt ht=>?_⟩
  rcases List.mem_cons.mp ht with rfl | ht
  ·simp
  ·have:=h.sz.2 t ht;omega
def zw {C0 C:Hw}{a p:Addr}{ps:List Addr}{t:List Tr}{S:List (List Tr)}{m:Nat}{v:T}{τ:Tr}{vs:List T}(h:Pl C0 C a (p::ps) (t::S) m)(hC:C p=some (.lst vs))(hv:Is (λb=>b∉a::p::ps) C v τ):
  Pl C0 (up C p (.lst (vs++[v]))) a (p::ps) ((t++[τ])::S) (m+1):=by
 obtain⟨⟨vs',h1,h2⟩,h3⟩:=h.ls
 rw[hC] at h1;cases h1
 obtain⟨n1,n2⟩:=List.nodup_cons.mp h.nd
 obtain⟨n3,n4⟩:=List.nodup_cons.mp n2
 have hap:a≠p:=λe=>n1 (by rw[e];simp)
 have keep:∀b o,b∉a::p::ps->C b=some o->b∉a::p::ps/\up C p (.lst (vs++[v])) b=some o:=λb o hb e=>⟨hb,by rw[Jq (λz=>hb (by rw[z];simp))];exact e⟩
 refine⟨λb o e=>?_,h.fr,by rw[Jq hap];exact h.at_,h.nd,⟨⟨vs++[v],Zj,(TrPs.snoc hv h2).mono keep⟩,?_⟩,?_⟩
 ·rw[Jq (cne e (h.fr.2 p (by simp)))];exact h.ex b o e
 ·refine Ls.mono keep (λq hq o e=>?_) h3
  rw[Jq (λz=>n3 (by rw[<-z];exact hq))];exact e
 ·refine⟨by have:=h.sz.1;simp at this |-;omega,λu hu=>?_⟩
  rcases List.mem_cons.mp hu with rfl | hu
  ·have:=h.sz.2 t (by simp);simp;omega
  ·have:=h.sz.2 u (by simp[hu]);omega
def v8 {C0 C:Hw}{a p:Addr}{ps:List Addr}{t:List Tr}{S:List (List Tr)}{m:Nat}(h:Pl C0 C a (p::ps) (t::S) m):Pl C0 (up C a (.lst (ps.reverse.map T.ref))) a ps S m/\Is (λb=>b∉a::ps) (up C a (.lst (ps.reverse.map T.ref))) (.ref p) (.n t):=by
 obtain⟨⟨vs,h1,h2⟩,h3⟩:=h.ls
 obtain⟨n1,n2⟩:=List.nodup_cons.mp h.nd
 obtain⟨n3,n4⟩:=List.nodup_cons.mp n2
 have hap:p≠a:=λe=>n1 (by rw[<-e];simp)
 have keep:∀b o,b∉a::p::ps->C b=some o->b∉a::ps/\up C a (.lst (ps.reverse.map T.ref)) b=some o:=λb o hb e=>⟨λz=>hb (by simp only[List.mem_cons] at z |-;exact z.elim .inl λz=>.inr (.inr z)),by rw[Jq (λz=>hb (by rw[z];simp))];exact e⟩
 refine⟨⟨λb o e=>?_,⟨h.fr.1,λq hq=>h.fr.2 q (by simp[hq])⟩,Zj,?_,?_,?_⟩,?_⟩
 ·rw[Jq (cne e h.fr.1)];exact h.ex b o e
 ·exact List.nodup_cons.mpr ⟨λz=>n1 (by simp[z]),n4⟩
 ·refine Ls.mono keep (λq hq o e=>?_) h3
  rw[Jq (λz=>n1 (by rw[<-z];simp[hq]))];exact e
 ·exact⟨by have:=h.sz.1;simp at this;omega,λu hu=>h.sz.2 u (by simp[hu])⟩
 ·unfold Is
  refine⟨p,vs,rfl,λz=>?_,by rw[Jq hap];exact h1,h2.mono keep⟩
  rcases List.mem_cons.mp z with z | z
  ·exact hap z
  ·exact n3 z
def Bc {wl:Addr}{ws:List Str}(R:Rp W r)(hw:C wl=some (.lst (ws.map T.str)))(hl:ws.length<=50000)(q:∀τ v C',Wb ws=some τ->Ex C C'->Op C' v τ->Q v C')(qr:Wb ws=none->r):W (n+2) By [.ref wl] C Q χ:=by
 refine R.o_tree_of rfl ?_
 unfold T1 Se
 walk_at "ws"
 intro p0 hp0 a ha
 obtain⟨na,hna⟩:=nt ha
 have hwl0:up (up C p0 (.lst [])) a (.lst [.ref p0]) wl=some (.lst (ws.map T.str)):=(Ex.new ha) _ _ ((Ex.new hp0) _ _ hw)
 refine⟨_,hwl0,?_⟩
 have P0:Pl C (up (up C p0 (.lst [])) a (.lst [.ref p0])) a [p0] [[]] 0:=by
  refine⟨(Ex.new hp0).trans (Ex.new ha),⟨hna,λp hp=>by rw[List.mem_singleton.mp hp];exact hp0⟩,Zj,by simp[na],⟨⟨[],by rw[Jq na.symm];exact Zj,by unfold TrPs;rfl⟩,trivial⟩,by simp⟩
 refine K3 (λi σ C'=>∃x2 x3 ps S,σ=[some (.ref wl),some (.ref a),x2,x3]/\run (ws.take i) [[]]=some S/\Pl C C' a ps S i) ⟨none,none,[p0],[[]],rfl,rfl,P0⟩ (λi σ C' _ h=>by obtain⟨_,_,_,_,_,_,hP⟩:=h;exact hP.ex _ _ hw) ?_ ?_
 ·rintro i x σ C' N hx ⟨x2,x3,ps,S,rfl,hrun,hP⟩ hN
  rw[XM] at hx
  cases hz:ws[i]? with
  | none=>rw[hz] at hx;cases hx
  | some w=>
   rw[hz] at hx
   cases hx
   have hi:i<ws.length:=(List.getElem?_eq_some_iff.mp hz).1
   have hsz:=hP.sz
   have htk:ws.take (i+1)=ws.take i++[w]:=by rw[YD,hz];rfl
   have hst:run (ws.take (i+1)) [[]]=Ye S w:=by
    rw[htk,T2,hrun]
    show(Ye S w).bind (run [])=_
    cases Ye S w<;>rfl
   have hne:=Fq (by simp) hrun
   have hlen:=hP.ls.len
   have hat:=hP.at_
   walk_at "ws"
   by_cases c1:w="("
   ·rw[XY c1]
    have e:Ye S w=some ([]::S):=by unfold Ye;rw[XY c1]
    refine⟨⟨_,hat⟩,λp hp=>?_⟩
    refine⟨_,(Ex.new hp) _ _ hat,U7 (by rw[XI,List.length_reverse];omega),?_⟩
    refine hN _ _ ⟨_,_,p::ps,[]::S,rfl,hst.trans e,?_⟩
    have:=j6 hP hp
    simpa using this
   ·rw[XX c1]
    obtain⟨p,ps',t,S1,rfl,rfl⟩:∃p ps' t S1,ps=p::ps'/\S=t::S1:=by
     cases S with
     | nil=>exact absurd rfl hne
     | cons t S1=>
      cases ps with
      | nil=>cases hlen
      | cons p ps'=>exact⟨p,ps',t,S1,rfl,rfl⟩
    obtain⟨⟨vs,h1,h2⟩,h3⟩:=id hP.ls
    have hlast:(p::ps').reverse.map T.ref=ps'.reverse.map T.ref++[.ref p]:=by simp
    rw[hlast] at hat
    have hvl:=h2.len
    have htl:=hsz.2 t (by simp)
    by_cases c2:w=")"
    ·rw[if_neg (by simp[c2])]
     cases S1 with
     | nil=>
      obtain rfl:ps'=[]:=by
       cases ps' with
       | nil=>rfl
       | cons _ _=>simp at hlen
      have e:Ye [t] w=none:=by unfold Ye;rw[if_neg c1,if_neg (by simpa using c2)]
      refine⟨_,hat,?_⟩
      rw[if_neg (by simp)]
      exact Z8 R (qr (A7 (hst.trans e)))
     | cons u S2=>
      have e:Ye (t::u::S2) w=some ((u++[.n t])::S2):=by unfold Ye;rw[if_neg c1,if_neg (by simpa using c2)]
      obtain⟨p2,ps2,rfl⟩:∃p2 ps2,ps'=p2::ps2:=by
       cases ps' with
       | nil=>simp at hlen
       | cons p2 ps2=>exact⟨p2,ps2,rfl⟩
      obtain⟨hP2,hv⟩:=v8 hP
      have hdl:((p2::ps2).reverse.map T.ref++[T.ref p]).dropLast=(p2::ps2).reverse.map T.ref:=by simp
      have hla:((p2::ps2).reverse.map T.ref++[T.ref p])[((p2::ps2).reverse.map T.ref++[T.ref p]).length-1]?=some (.ref p):=by simp
      have hl2:(p2::ps2).reverse.map T.ref=ps2.reverse.map T.ref++[T.ref p2]:=by simp
      obtain⟨⟨vs2,g1,g2⟩,g3⟩:=id hP2.ls
      have hvl2:=g2.len
      have htl2:=hsz.2 u (by simp)
      refine⟨_,hat,?_⟩
      rw[if_pos (by simp;omega)]
      refine⟨⟨_,hat⟩,_,hat,_,hla,?_⟩
      rw[hdl]
      refine⟨_,Zj,_,by rw[hl2];exact Vs _ _,⟨p2,rfl,_,g1⟩,p2,rfl,_,g1,U7 (by omega),?_⟩
      exact hN _ _ ⟨_,_,p2::ps2,(u++[.n t])::S2,rfl,hst.trans e,zw hP2 g1 hv⟩
    ·rw[if_pos (by simp[c2])]
     refine⟨_,hat,_,Vs _ _,?_⟩
     have e:Ye (t::S1) w=some ((t++[.w w])::S1):=by unfold Ye;rw[XX c1,XY c2]
     refine⟨⟨p,rfl,_,h1⟩,p,rfl,_,h1,U7 (by omega),?_⟩
     exact hN _ _ ⟨_,_,p::ps',(t++[.w w])::S1,rfl,hst.trans e,zw hP h1 (by unfold Is;rfl)⟩
 ·rintro σ C' ⟨x2,x3,ps,S,rfl,hrun,hP⟩
  rw[XI,List.take_length] at hrun
  have hlen:=hP.ls.len
  have hat:=hP.at_
  first | unfold Lu Wj | unfold Wj
  walk_at "ws"
  refine⟨_,hat,?_⟩
  have hne:=Fq (by simp) hrun
  match S,ps,hne,hlen with
  | [],_,hne,_=>exact absurd rfl hne
  | t::u::S2,p::p2::ps2,_,_=>
   rw[if_pos (by simp;omega)]
   exact Z8 R (qr (by unfold Wb;rw[hrun];rcases t with _ | ⟨x,_ | ⟨y,l⟩⟩<;>rfl))
  | [t],[p],_,_=>
   rw[if_neg (by simp)]
   obtain⟨⟨vs,h1,h2⟩,_⟩:=id hP.ls
   have hvl:=h2.len
   first | unfold Lv Wl | unfold Wl
   walk_at "ws"
   refine⟨_,hat,_,Xa,?_⟩
   walk_at "ws"
   refine⟨_,h1,?_⟩
   by_cases c:t.length=1
   ·rw[if_neg (by simp;omega)]
    obtain⟨τ,rfl⟩:∃τ,t=[τ]:=by
     match t,c with
     | [τ],_=>exact⟨τ,rfl⟩
    obtain⟨v,rfl,hv⟩:∃v,vs=[v]/\Is (λb=>b∉[a,p]) C' v τ:=by
     unfold TrPs at h2
     obtain⟨v,r,rfl,h3,h4⟩:=h2
     unfold TrPs at h4
     subst h4
     exact⟨v,rfl,h3⟩
    first | unfold Lw Wm | unfold Wm
    walk_at "ws"
    refine⟨_,hat,_,Xa,?_⟩
    walk_at "ws"
    exact⟨_,h1,_,Xa,q τ v C' (by unfold Wb;rw[hrun]) hP.ex hv.h⟩
   ·rw[if_pos (by simp;omega)]
    refine Z8 R (qr ?_)
    unfold Wb
    rw[hrun]
    match t,c with
    | [],_=>rfl
    | [_],c=>exact absurd rfl c
    | _::_::_,_=>rfl
end
open PySem PySem.Spec PyProof.Rows L2 WL Rd
def fT (l:List Nat):List Nat:=Wd 10 [32] (Wd 41 [32,41,32] (Wd 40 [32,40,32] l))
def Np {a:Nat}{z l r:List Nat}:Wd a z (l++r)=Wd a z l++Wd a z r:=by unfold Wd;rw[List.flatMap_append]
def Pz {l r:List Nat}:fT (l++r)=fT l++fT r:=by unfold fT;rw[Np,Np,Np]
def Qg {a:Nat}{z:List Nat}(hz:1<=z.length):∀l:List Nat,(Wd a z l).length<=z.length*l.length
 | []=>by simp[Wd]
 | c::r=>by
  have ih:=Qg (a:=a) hz r
  have e:Wd a z (c::r)=(if c=a then z else[c])++Wd a z r:=by simp[Wd]
  rw[e,List.length_append,YF,Nat.mul_add,Nat.mul_one]
  have:(if c=a then z else[c]).length<=z.length:=by split<;>simp<;>omega
  omega
def gd (w:Str):Bool:=decide (1<=w.length)&&decide (w.length<=20)&&w.cps.toList.all λc=>c !=32&&c !=40&&c !=41&&c !=10
def Rj {w:Str}(h:gd w=true):w.cps.toList≠[]/\w.length<=20/\∀c∈w.cps.toList,c≠32/\c≠40/\c≠41/\c≠10:=by
 unfold gd at h
 rw[Bool.and_eq_true,Bool.and_eq_true,decide_eq_true_eq,decide_eq_true_eq,List.all_eq_true] at h
 have e:w.cps.toList.length=w.length:=by simp[Str.length]
 refine⟨λz=>by rw[z] at e;simp at e;omega,h.1.2,λc hc=>?_⟩
 have:=h.2 c hc
 simp at this
 omega
def xa {w:Str}(h:gd w=true):fT w.cps.toList=w.cps.toList:=by
 obtain⟨_,_,h⟩:=Rj h
 unfold fT
 rw[T3 λc hc=>(h c hc).2.1,T3 λc hc=>(h c hc).2.2.1,T3 λc hc=>(h c hc).2.2.2]
def gb (w:Str):Prop:=w="("\/w=")"\/gd w=true
def ur:List Str:=[""," ","\n","  "," \n "]
def ut:∀g∈ur,(∀c∈fT g.cps.toList,c=32)/\(g≠""->∃q,fT g.cps.toList=q++[32]):=by
 intro g hg
 simp only[ur,List.mem_cons,List.not_mem_nil,or_false] at hg
 rcases hg with rfl | rfl | rfl | rfl | rfl
 ·exact⟨by decide,λh=>absurd rfl h⟩
 ·exact⟨by decide,λ_=>⟨[],by decide⟩⟩
 ·exact⟨by decide,λ_=>⟨[],by decide⟩⟩
 ·exact⟨by decide,λ_=>⟨[32],by decide⟩⟩
 ·exact⟨by decide,λ_=>⟨[32,32],by decide⟩⟩
def Of:∀{b l:List Nat},(∀c∈b,c=32)->Nc (l++b)=Nc l
 | [],l,_=>by rw[YK]
 | c::b,l,h=>by
  rw[h c (by simp),Rx]
  have:=Na (b:=b) (l:=[]) λd hd=>h d (by simp[hd])
  rw[YK] at this
  rw[this,Oy,YK]
def Gp (ah w g:Str):Prop:=g∈ur/\(g=""->(ah=""\/ah="("\/ah=")")\/w=""\/w="("\/w=")")
structure Tx (t:List Nat)(ws:List Str)(ah:Str):Prop where
 wd:Nc (fT t)=ws.map (λw=>w.cps.toList)
 bk:Bk (fT t)\/¬(ah=""\/ah="("\/ah=")")
def pi:Tx [] [] "":=⟨rfl,.inl (.inl rfl)⟩
def jh {t:List Nat}{ws:List Str}{ah w g:Str}(h:Tx t ws ah)(hg:Gp ah w g)(hw:gb w):Tx (t++g.cps.toList++w.cps.toList) (ws++[w]) w:=by
 obtain⟨b1,b2⟩:=ut g hg.1
 have br:∀c:Nat,fT w.cps.toList=[32,c,32]->w.cps.toList=[c]->c≠32->Tx (t++g.cps.toList++w.cps.toList) (ws++[w]) w:=λc e e1 h32=>by
  refine⟨?_,.inl (.inr ⟨fT t++fT g.cps.toList++[32,c],by rw[Pz,Pz,e];simp⟩)⟩
  rw[Pz,Pz,e,show[32,c,32]=32::([c]++[32]) from rfl,Rx,Of b1,h.wd,Es,Ep (by simp) (by simpa using h32),List.map_append]
  simp[e1]
 rcases hw with rfl | rfl | hw
 ·exact br 40 (by decide) rfl (by decide)
 ·exact br 41 (by decide) rfl (by decide)
 ·obtain⟨w0,_,w1⟩:=Rj hw
  have hno:¬(w=""\/w="("\/w=")"):=λz=>by
   rcases z with rfl | rfl | rfl
   ·exact w0 rfl
   ·exact(w1 40 (by decide)).2.1 rfl
   ·exact(w1 41 (by decide)).2.2.1 rfl
  refine⟨?_,.inr hno⟩
  have hb:Bk (fT t++fT g.cps.toList):=by
   by_cases c:g=""
   ·subst c
    rcases hg.2 rfl with k | k
    ·rcases h.bk with k' | k'
     ·rw[show fT ("":Str).cps.toList=[] by decide,YK];exact k'
     ·exact absurd k k'
    ·exact absurd k hno
   ·obtain⟨q,e⟩:=b2 c
    exact .inr ⟨fT t++q,by rw[e,YL]⟩
  rw[Pz,Pz,xa hw,wB hb,Of b1,h.wd,Ep w0 λc hc=>(w1 c hc).1,XL]
  rfl
def Iz:∀{xs ys:List Str},xs.map (λw=>w.cps.toList)=ys.map (λw=>w.cps.toList)->xs=ys
 | [],[],_=>rfl
 | x::xs,y::ys,h=>by
  rw[YI,YI] at h
  injection h with h1 h2
  rw[O0 h1,Iz h2]
 | [],_::_,h=>by simp at h
 | _::_,[],h=>by simp at h
def Ew:∀l:List Nat,(Ut 32 l).length<=l.length+1
 | []=>by simp[Ut]
 | c::r=>by
  have ih:=Ew r
  obtain⟨p,ps,e⟩:=Rc 32 r
  by_cases h:c=32
  ·simp[Ut,h];omega
  ·rw[e] at ih
   simp[Ut,h,e] at ih |-;omega
section
variable {C:Hw}{Q:WK}{χ:WX}{n:Nat}{W:Nat->Calls}{r:Prop}
def Fp {x:Str}{ws:List Str}(R:Rp W r)(hl:x.length<=100000)(h:Nc (fT x.cps.toList)=ws.map (λw=>w.cps.toList))(q:∀p C',Ex C C'->C p=none->C' p=some (.lst (ws.map T.str))->Q (.ref p) C'):
  W (n+1) F5 [.str x] C Q χ:=by
 have cl:∀z:Str,z.cps.toList.length=z.length:=λz=>by simp[Str.length]
 have e1:(Txt.replace x "(" " ( ").cps.toList=Wd 40 [32,40,32] x.cps.toList:=Xi rfl
 have e2:(Txt.replace (Txt.replace x "(" " ( ") ")" " ) ").cps.toList=Wd 41 [32,41,32] (Wd 40 [32,40,32] x.cps.toList):=by rw[Xi (a:=41) rfl,e1];rfl
 have e3:(Txt.replace (Txt.replace (Txt.replace x "(" " ( ") ")" " ) ") "\n" " ").cps.toList=fT x.cps.toList:=by rw[Xi (a:=10) rfl,e2];rfl
 have l1:(Txt.replace x "(" " ( ").length<=300000:=by
  rw[<-cl,e1];have:=Qg (a:=40) (z:=[32,40,32]) (by decide) x.cps.toList;rw[cl] at this;simp at this;omega
 have l2:(Txt.replace (Txt.replace x "(" " ( ") ")" " ) ").length<=900000:=by
  rw[<-cl,Xi (a:=41) rfl];have:=Qg (a:=41) (z:=[32,41,32]) (by decide) (Txt.replace x "(" " ( ").cps.toList;rw[cl] at this;simp at this;show(Wd 41 [32,41,32] _).length<=_;omega
 have l3:(Txt.replace (Txt.replace (Txt.replace x "(" " ( ") ")" " ) ") "\n" " ").length<=900000:=by
  rw[<-cl,Xi (a:=10) rfl];have:=Qg (a:=10) (z:=[32]) (by decide) (Txt.replace (Txt.replace x "(" " ( ") ")" " ) ").cps.toList;rw[cl] at this;simp at this;show(Wd 10 [32] _).length<=_;omega
 generalize hy:Txt.replace (Txt.replace (Txt.replace x "(" " ( ") ")" " ) ") "\n" " "=y at e3 l3
 have hk:∀z:Str,¬Builtin.Str.strKind z<Builtin.Str.strKind (" ":Str):=λz=>by
  have e:Builtin.Str.strKind (" ":Str)=1:=by decide+kernel
  rw[e]
  unfold Builtin.Str.strKind
  split
  ·decide
  ·split<;>decide
 have sp:(Txt.split y " ").map (λz=>z.cps.toList)=Ut 32 (fT x.cps.toList):=by rw[C9 (a:=32) rfl hk,e3]
 have sl:(Txt.split y " ").length<=1000000:=by
  have a:=congrArg List.length sp
  rw[XI] at a
  have b:=Ew (fT x.cps.toList)
  have c:=cl y
  rw[e3] at c
  omega
 have hz:∀m:Nat,m<=1000000->m<=sizeLine:=λm h=>Nat.le_trans h (by decide)
 refine R.o_words_of rfl ?_
 unfold V0 Ud
 dsimp only
 unfold xY
 walk_at "ws"
 refine⟨by omega,by omega,by omega,?_⟩
 rw[hy]
 unfold zI
 refine⟨y," ",rfl,rfl,by decide,hz _ (by omega),hz _ sl,λp hp=>?_⟩
 walk_at "ws"
 refine⟨_,Zj,?_⟩
 refine D8 (λt=>match t with | .str z=>if z="" then none else some (.str z) | _=>none) Zj (by rw[XI];exact hz _ sl) (λt ht R N h1 h2=>?_) λp2 hp2=>?_
 ·obtain⟨z,_,rfl⟩:=XR.mp ht
  walk_at "ws"
  by_cases c:z=""
  ·rw[if_neg (by simp[c])]
   exact h2 (by simp[c])
  ·rw[if_pos (by simp[c])]
   exact h1 _ (by simp[c])
 ·have hf:((Txt.split y " ").map T.str).filterMap (λt=>match t with | .str z=>if z="" then none else some (.str z) | _=>none)=ws.map T.str:=by
   rw[List.filterMap_map]
   have e4:((Txt.split y " ").filter λz:Str=>decide (z≠("":Str)))=ws:=by
    refine Iz ?_
    rw[<-h]
    unfold Nc
    rw[<-sp,List.filter_map]
    congr 1
    refine List.filter_congr λz _=>?_
    by_cases c:z=""
    ·subst c;rfl
    ·have:z.cps≠#[]:=λe=>c (O0 (by rw[e];rfl))
     simp[c,Function.comp,this]
   rw[<-e4]
   generalize Txt.split y " "=l
   induction l with
   | nil=>rfl
   | cons z l ih=>
    by_cases c:z=""
    ·simp[List.filterMap_cons,List.filter_cons,c] at ih |-;exact ih
    ·simp[List.filterMap_cons,List.filter_cons,c] at ih |-;exact ih
  rw[hf]
  obtain⟨_,e5⟩:=nt hp2
  exact q p2 _ ((Ex.new hp).trans (Ex.new hp2)) e5 Zj
def zj {x:Str}{ws:List Str}{f m:Nat}(R:Rp W r)(hm:3*f+3<=m)(hl:x.length<=100000)(h:Nc (fT x.cps.toList)=ws.map (λw=>w.cps.toList))(hs:ws.length<=50000)(hwt:∀τ,Wb ws=some τ->Wt f τ)
  (q:∀τ t C',Wb ws=some τ->rd f τ=some t->Ex C C'->Q t C') (qr0:Wb ws=none->r) (qr:∀τ,Wb ws=some τ->rd f τ=none->r):W (m+1) um [.str x] C Q χ:=by
 obtain⟨m,rfl⟩:∃k,m=k+3:=⟨m-3,by omega⟩
 refine R.o_read rfl ⟨_,rfl,"str",.inl rfl,true,rfl,Ym ⟨_,rfl,Fp R hl h λp C1 hE hp hp1=>?_⟩⟩
 refine Bc R hp1 hs (λτ v C2 eτ hE2 hv=>?_) qr0
 exact GT.at (zT R f) hm (hwt τ eτ) hv (λt C3 et hE3=>q τ t C3 eτ et (hE.trans (hE2.trans hE3))) (qr τ eτ)
end
namespace Rd
open PySem PySem.Spec PyProof.Rows L2 WL
def qF:List Str:=["c3","d4","e5","f6","a1","b2"]
def Hw:List Str:=(["x","y","5"]:List Str)++qF++sp
def hw (b:Bool):Str:=if b=true then "7" else "H"
section
variable {x y n:Str}{h:Tr}{b:Bool}{k:Nat}
def jJ {x:Str}(h0:Xu x=false)(h:W3 x=true)(hv:∃v,intText? x=some v):(J5 x).isSome=true:=by
 obtain⟨v,e⟩:=hv
 unfold J5;rw[XX (by rw[h0];decide),XY h,e];rfl
end
end Rd
open PySem PySem.Spec PyProof.Rows L2 WL Rd
def Xc:List Nat:=(Str.ofString "0123456789").cps.toList
def jI:∀c∈Xc,Q8 "0123456789" c=true:=by decide+kernel
def zE:∀c∈Xc,Q8 "abcdefghijklmnopqrstuvwxyz" c=false:=by decide+kernel
def rK (x:Str):Prop:=∃c r,x.cps.toList=c::r/\(∀d∈x.cps.toList,d∈Xc)/\x.length<=18/\(c=48->r=[])
def J9 (v:Int):Str:=Str.ofString (toString v)
def vX {i:Nat}(h:i<10^18):i.log2<1920:=by
 by_cases h0:i=0
 ·subst h0;decide
 ·exact(Nat.log2_lt h0).mpr (XG h (Nat.le_trans (show 10^18<=2^60 by decide) (Nat.pow_le_pow_right (by decide) (by decide))))
def D2:∀d:Nat,48<=d->d<=57->d∈Xc:=by
 intro d h1 h2
 have e:Xc=[48,49,50,51,52,53,54,55,56,57]:=by decide+kernel
 rw[e]
 simp only[ZM,ZN,or_false]
 omega
open PySem.NumText W.KIN in
def D0 {v:Int}(h0:0<=v)(h1:v<10^18):rK (J9 v)/\intText? (J9 v)=some v:=by
 obtain⟨m,rfl⟩:∃m:Nat,v=(m:Int):=⟨v.toNat,by omega⟩
 have hm:m<10^18:=by omega
 have e:(J9 (m:Int)).cps.toList=(Nat.toDigits 10 m).map Char.toNat:=signs_num m
 have hl:(J9 (m:Int)).length=(Nat.toDigits 10 m).length:=by rw[<-Xy,e,XI]
 have l1:=digits10_le (k:=18) (by decide) hm
 have l2:=tDigits_len_ge 10 m
 have hall:AllDigits (J9 (m:Int)).cps.toList:=λc hc=>by
  rw[e] at hc
  obtain⟨ch,hch,rfl⟩:=XR.mp hc
  have hd:=Nat.isDigit_of_mem_toDigits (b:=10) (by decide) (by decide) hch
  unfold Char.isDigit at hd
  rw[Bool.and_eq_true,decide_eq_true_eq,decide_eq_true_eq] at hd
  exact⟨hd.1,hd.2⟩
 have hne:(J9 (m:Int)).cps.toList≠[]:=λz=>by
  rw[z] at e
  have:=congrArg List.length e
  rw[XI,List.length_nil] at this
  omega
 obtain⟨c,r,hcr⟩:=List.exists_cons_of_ne_nil hne
 have hval:digitsVal (J9 (m:Int)).cps.toList=m:=by rw[e];exact val_back m
 refine⟨⟨c,r,hcr,λd hd=>D2 d (hall d hd).1 (hall d hd).2,by omega,λhc=>?_⟩,?_⟩
 ·have k:=toDigits_all (J9 (m:Int)).cps.toList hall
  rw[hval] at k
  have hlen:(J9 (m:Int)).cps.toList.length=(Nat.toDigits 10 m).length:=by rw[e,XI]
  rw[hcr,hc] at k hlen
  have hd:List.dropWhile (λx=>x==48) (48::r)=r.dropWhile (λx=>x==48):=by simp
  rw[hd] at k
  have hs:(r.dropWhile (λx=>x==48)).length<=r.length:=(List.dropWhile_suffix _).length_le
  cases hw:r.dropWhile (λx=>x==48) with
  | nil=>
   rw[hw] at k
   rw[k] at hlen
   simp at hlen
   exact hlen
  | cons y ys=>
   rw[hw] at k hs
   rw[k] at hlen
   simp at hlen hs
   omega
 ·rw[intText_digits hall hne (by omega),hval]
def xW {x:Str}(h:rK x):W3 x=true/\Xu x=false/\(∀c∈x.cps.toList,c∈Xc)/\1<=x.length/\x.length<=18:=by
 obtain⟨c,r,e,h1,h2,h3⟩:=h
 have hl:x.length=r.length+1:=by rw[<-Xy,e,YF]
 refine⟨?_,?_,h1,by omega,h2⟩
 ·unfold W3
  rw[e]
  dsimp only
  rw[decide_eq_true h2,Bool.true_and,Bool.and_eq_true]
  refine⟨?_,List.all_eq_true.mpr λd hd=>jI d (h1 d (by rw[e];exact hd))⟩
  by_cases hc:c=48
  ·have:x="0":=O0 (by rw[e,h3 hc,hc];rfl)
   rw[this];simp
  ·have:((⟨#[c]⟩:Str)=="0")=false:=by
    rw[beq_eq_false_iff_ne]
    intro z
    have:=congrArg (λs:Str=>s.cps.toList) z
    have h0:("0":Str).cps.toList=[48]:=rfl
    dsimp only at this
    rw[h0] at this
    exact hc (by simpa using this)
   rw[this];rfl
 ·unfold Xu
  rw[e]
  dsimp only
  rw[zE c (h1 c (by rw[e];exact .head _)),Bool.and_false];rfl
structure Gd (f:Nat)(τ:Tr):Prop where
 wt:Wt f τ
 nb:Nb τ
 gb:∀w∈fl τ,gb w
def Wt.monoj {f:Nat}{t:Tr}(h:Wt f t):∀j,Wt (f+j) t:=by
 induction h with
 | w h=>exact λj=>.w h
 | @n f ts hl h ih=>
  intro j
  have:Wt ((f+j)+1) (.n ts):=.n hl λt ht=>ih t ht j
  rw[show f+1+j=f+j+1 by omega];exact this
def yI:∀{ts:List Tr},(∀t∈ts,Nb t)->Nbs ts
 | [],_=>by unfold Nbs;trivial
 | t::ts,h=>by unfold Nbs;exact⟨h t (.head _),yI λu hu=>h u (.tail _ hu)⟩
def Dy {w:Str}:∀{ts:List Tr},w∈fls ts->∃t∈ts,w∈fl t
 | [],h=>by rw[Xf] at h;cases h
 | t::ts,h=>by
  rw[J4] at h
  rcases XS.mp h with h | h
  ·exact⟨t,.head _,h⟩
  ·obtain⟨u,hu,e⟩:=Dy h
   exact⟨u,.tail _ hu,e⟩
def Us {f:Nat}{ts:List Tr}(hl:ts.length<=500)(h:∀t∈ts,Gd f t):Gd (f+1) (.n ts):=by
 refine⟨.n hl λt ht=>(h t ht).wt,by unfold Nb;exact yI λt ht=>(h t ht).nb,λw hw=>?_⟩
 rw[Vc] at hw
 rcases List.mem_cons.mp hw with rfl | hw
 ·exact .inl rfl
 rcases XS.mp hw with hw | hw
 ·obtain⟨t,ht,e⟩:=Dy hw
  exact(h t ht).gb w e
 ·exact .inr (.inl (XQ.mp hw))
def Gd.mono {f:Nat}{t:Tr}(h:Gd f t)(j:Nat):Gd (f+j) t:=⟨h.wt.monoj j,h.nb,h.gb⟩
def jV {f:Nat}{w:Str}(h:gd w=true)(hc:∀c∈w.cps.toList,c<1000)(hi:W3 w=true->∃v,intText? w=some v):Gd f (.w w):=by
 obtain⟨h0,h1,h2⟩:=Rj h
 have hr:=PySem.StrLaws.reprText_len w λc hm=>XG (hc c hm) (by decide)
 refine⟨.w ⟨by omega,by omega,hi⟩,?_,λv hv=>?_⟩
 ·unfold Nb
  constructor
  ·rintro rfl;exact(h2 40 (by decide)).2.1 rfl
  ·rintro rfl;exact(h2 41 (by decide)).2.2.1 rfl
 ·rw[X1] at hv
  rw[XQ.mp hv];exact .inr (.inr h)
def uq {f:Nat}{v:Int}(h0:0<=v)(h1:v<10^18):Gd f (.w (J9 v)):=by
 obtain⟨hf,hi⟩:=D0 h0 h1
 obtain⟨a,b,c,d,e⟩:=xW hf
 have hs:∀d∈Xc,(d !=32&&d !=40&&d !=41&&d !=10)=true/\d<1000:=by decide+kernel
 refine jV ?_ (λd hd=>(hs d (c d hd)).2) λ_=>⟨_,hi⟩
 unfold gd
 rw[Bool.and_eq_true,Bool.and_eq_true,decide_eq_true_eq,decide_eq_true_eq,List.all_eq_true]
 exact⟨⟨d,by omega⟩,λd hd=>(hs d (c d hd)).1⟩
def jW:∀w∈qF++sp,gd w=true/\(w.cps.toList.all λc=>decide (c<1000))=true/\W3 w=false:=by decide+kernel
def zZ {f:Nat}{w:Str}(h:w∈qF++sp):Gd f (.w w):=by
 obtain⟨a,b,c⟩:=jW w h
 exact jV a (λd hd=>by simpa using List.all_eq_true.mp b d hd) λz=>by rw[c] at z;cases z
def ya {w:Str}(h:gb w):w.length<=20:=by
 rcases h with rfl | rfl | h
 ·decide
 ·decide
 ·exact(Rj h).2.1
namespace Rd
open PySem PySem.Spec PyProof.Rows L2 WL
def Dz:∀ts us:List Tr,fls (ts++us)=fls ts++fls us
 | [],us=>by rw[Xf];rfl
 | t::ts,us=>by rw[List.cons_append,J4,J4,Dz ts us,YL]
def xU {t:Tr}:fls [t]=fl t:=by rw[J4,Xf,YK]
def Hx {ts:List Tr}{t:Tr}:fls (ts++[t])=fls ts++fl t:=by rw[Dz,xU]
def out:List (List Tr)->List Str
 | []=>[]
 | [t]=>fls t
 | t::u::r=>out (u::r)++("(":Str)::fls t
def Dp {t:List Tr}{x:Tr}:∀{r:List (List Tr)},out ((t++[x])::r)=out (t::r)++fl x
 | []=>Hx
 | u::r=>by
  show out (u::r)++("(":Str)::fls (t++[x])=out (u::r)++("(":Str)::fls t++fl x
  rw[Hx];simp
def zB {S S':List (List Tr)}{w:Str}(hS:S≠[])(h:Ye S w=some S'):out S'=out S++[w]:=by
 unfold Ye at h
 by_cases c1:w="("
 ·rw[XY c1] at h;cases h
  cases S with
  | nil=>exact absurd rfl hS
  | cons t r=>show out (t::r)++("(":Str)::fls []=_;rw[Xf,c1]
 rw[XX c1] at h
 by_cases c2:w≠")"
 ·rw[XY c2] at h
  cases S with
  | nil=>cases h
  | cons t r=>cases h;rw[Dp,X1]
 ·rw[XX c2] at h
  match S,h with
  | t::u::r,h=>
   cases h
   rw[Dp,Vc]
   show _=out (u::r)++("(":Str)::fls t++[w]
   rw[Decidable.of_not_not c2];simp
def Db:∀{ws:List Str} {S S':List (List Tr)},S≠[]->run ws S=some S'->out S'=out S++ws
 | [],S,S',hS,h=>by cases h;rw[YK]
 | w::ws,S,S',hS,h=>by
  have e:run (w::ws) S=(Ye S w).bind (run ws):=rfl
  rw[e] at h
  cases hs:Ye S w with
  | none=>rw[hs] at h;cases h
  | some S1=>
   rw[hs] at h
   rw[Db (Ev hs) h,zB hS hs,YL];rfl
def Ni {ws:List Str}{τ:Tr}(h:Wb ws=some τ):run ws [[]]=some [[τ]]:=by
 unfold Wb at h
 split at h
 ·rename_i e;cases h;exact e
 ·cases h
def M0 {ws:List Str}{τ:Tr}(h:Wb ws=some τ):fl τ=ws:=by
 have:=Db (by simp) (Ni h)
 have e:out [[τ]]=fl τ:=xU
 rw[e] at this
 rw[this]
 show fls []++ws=ws
 rw[Xf];rfl
def Dc:∀{ws:List Str} {S S':List (List Tr)},run ws S=some S'->S'.length+ws.count (")":Str)=S.length+ws.count ("(":Str)
 | [],S,S',h=>by cases h;rfl
 | w::ws,S,S',h=>by
  have e:run (w::ws) S=(Ye S w).bind (run ws):=rfl
  rw[e] at h
  cases hs:Ye S w with
  | none=>rw[hs] at h;cases h
  | some S1=>
   rw[hs] at h
   have ih:=Dc h
   rw[List.count_cons,List.count_cons]
   unfold Ye at hs
   by_cases c1:w="("
   ·rw[XY c1] at hs;cases hs
    subst c1
    rw[YF] at ih
    rw[XX (by decide),XY (by decide)];omega
   rw[XX c1] at hs
   have b1:(w==("(":Str))=false:=by simpa using c1
   simp only[b1,Bool.false_eq_true,↓reduceIte]
   by_cases c2:w≠")"
   ·rw[XY c2] at hs
    have b2:(w==(")":Str))=false:=by simpa using c2
    simp only[b2,Bool.false_eq_true,↓reduceIte]
    cases S with
    | nil=>cases hs
    | cons t r=>cases hs;rw[YF] at ih |-;omega
   ·rw[XX c2] at hs
    have b2:(w==(")":Str))=true:=by simpa using c2
    simp only[b2,↓reduceIte]
    match S,hs with
    | t::u::r,hs=>cases hs;simp only[List.length_cons] at ih |-;omega
def Iw {ws:List Str}{τ:Tr}(h:Wb ws=some τ):ws.count (")":Str)=ws.count ("(":Str):=by
 have:=Dc (Ni h)
 simpa using this
def Iv {ws:List Str}(h:ws.count (")":Str)≠ws.count ("(":Str)):Wb ws=none:=by
 cases e:Wb ws with
 | none=>rfl
 | some τ=>exact absurd (Iw e) h
def A6:Wb []=none:=rfl
def Fm {τ:Tr}(h:Nb τ):Wb (fl τ++fl τ)=none:=by
 unfold Wb
 rw[T2,Km h]
 show(match run (fl τ) [[]++[τ]] with | some [[τ]]=>some τ | _=>none)=none
 rw[Km h];rfl
structure xB (w:Str):Prop where
 rd:J5 w=none
 nm:Xu w=false
 sp:w∉sp
 nb:w≠"("/\w≠")"
section
variable {w:Str}(d:xB w)
def N2 {w:Str}:∀{ts:List Tr},w∈fls ts->∃t∈ts,w∈fl t
 | [],h=>by rw[Xf] at h;cases h
 | t::ts,h=>by
  rw[J4] at h
  rcases XS.mp h with h | h
  ·exact⟨t,.head _,h⟩
  ·obtain⟨u,hu,e⟩:=N2 h
   exact⟨u,.tail _ hu,e⟩
def Wy {α β:Type}{f:α->Option β}:∀{ts:List α} {t:α},t∈ts->f t=none->all f ts=none
 | u::ts,t,hm,h=>by
  unfold all
  rcases List.mem_cons.mp hm with rfl | hm
  ·rw[h]
  ·rw[Wy hm h];cases f u<;>rfl
def Kx {ts:List Tr}{t:Tr}(h:t∈ts):t∈ts.dropLast\/t=ts.getLast! :=by
 have ne:ts≠[]:=λe=>by rw[e] at h;cases h
 obtain⟨l,a,rfl⟩:∃l a,ts=l++[a]:=⟨ts.dropLast,ts.getLast ne,(List.dropLast_concat_getLast ne).symm⟩
 simpa using h
include d
def K7 {ts:List Tr}(h:w∈fl (.n ts)):∃t∈ts,w∈fl t:=by
 rw[Vc] at h
 rcases List.mem_cons.mp h with h | h
 ·exact absurd h d.nb.1
 rcases XS.mp h with h | h
 ·exact N2 h
 ·exact absurd (XQ.mp h) d.nb.2
def Qr {t:Tr}(h:w∈fl t):Xp t=none:=by
 cases t with
 | n ts=>rfl
 | w x=>
  rw[X1] at h
  rw[<-XQ.mp h]
  exact XX (by rw[d.nm];decide)
variable {g:Tr->Option T}(hg:∀t,w∈fl t->g t=none)
include hg
omit d in
def yt {ts:List Tr}{t:Tr}(ht:t∈ts)(h:w∈fl t):two g ts=none:=by
 match ts,ht with
 | [_],_=>rfl
 | _::_::_::_,_=>rfl
 | [a,b],ht=>
  unfold two
  dsimp only
  simp only[ZM,ZN,or_false] at ht
  rcases ht with rfl | rfl
  ·rw[hg _ h]
  ·rw[hg _ h];cases g a<;>rfl
def yv {ts:List Tr}{t:Tr}(ht:t∈ts)(h:w∈fl t):Oj g ts=none:=by
 unfold Oj
 by_cases c:ts.length<2
 ·rw[XY c]
 rw[XX c]
 rcases Kx ht with m | rfl
 ·rw[Wy m (Qr d h)]
 ·rw[hg _ h];cases all Xp ts.dropLast<;>rfl
omit d in
def Ab {ts:List Tr}{t:Tr}(ht:t∈ts)(h:w∈fl t):Vb g ts=none:=by
 unfold Vb
 by_cases c:ts.length<2
 ·rw[XY c]
 rw[XX c,Wy ht (hg _ h)]
def Aa {t:Tr}(h:w∈fl t):Ws g t=none:=by
 cases t with
 | w x=>rfl
 | n us=>
  obtain⟨u,hu,h2⟩:=K7 d h
  match us,hu with
  | [_],_=>rfl
  | _::_::_::_,_=>rfl
  | [a,b],hu=>
   unfold Ws
   dsimp only
   simp only[ZM,ZN,or_false] at hu
   rcases hu with rfl | rfl
   ·rw[Qr d h2]
   ·rw[hg _ h2];cases Xp a<;>rfl
def yu {ts:List Tr}{t:Tr}(ht:t∈ts)(h:w∈fl t):Oi g ts=none:=by
 unfold Oi
 by_cases c:ts.length<2\/ts.length>6
 ·rw[XY c]
 rw[XX c]
 rcases Kx ht with m | rfl
 ·rw[Wy m (Aa d hg h)]
 ·rw[hg _ h];cases all (Ws g) ts.dropLast<;>rfl
def yw {t:Tr}(h:w∈fl t):Qu g t=none:=by
 cases t with
 | w x=>rfl
 | n us=>
  obtain⟨u,hu,h2⟩:=K7 d h
  cases us with
  | nil=>cases hu
  | cons v r=>
   cases v with
   | n _=>rfl
   | w s=>
    unfold Qu
    dsimp only
    by_cases c:r=[]
    ·rw[XY c]
    rw[XX c]
    rcases List.mem_cons.mp hu with rfl | hu
    ·rw[X1] at h2
     have e:=XQ.mp h2
     have l:Ez.lookup s=none:=Kv λhm=>d.sp (e▸XT _ hm)
     cases all Xp r.dropLast<;>cases g r.getLast! <;>try rfl
     dsimp only
     rw[XX (λz=>by rw[l] at z;cases z.2)]
    ·rcases Kx hu with m | rfl
     ·rw[Wy m (Qr d h2)]
     ·rw[hg _ h2];cases all Xp r.dropLast<;>rfl
def Gj {ts:List Tr}{t:Tr}(ht:t∈ts)(h:w∈fl t):Jo g ts=none:=by
 cases ts with
 | nil=>cases ht
 | cons a as=>
  unfold Jo
  dsimp only
  rcases List.mem_cons.mp ht with rfl | ht
  ·rw[hg _ h]
  ·rw[Wy ht (yw d hg h)];cases g a<;>rfl
def B8 {t:Tr}(h:w∈fl t):Xd g t=none:=by
 cases t with
 | w x=>rfl
 | n us=>
  obtain⟨u,hu,h2⟩:=K7 d h
  have key:∀{s:Str},w∈fl (.w s)->s≠"when"/\¬(s="in"\/s="be"):=λ{s} h=>by
   rw[X1] at h
   have e:=XQ.mp h
   subst e
   refine⟨?_,?_⟩
   ·rintro rfl;exact d.sp (by decide)
   ·rintro(rfl | rfl)<;>exact d.sp (by decide)
  match us,hu with
  | [.w _],_=>rfl
  | [.n _],_=>rfl
  | .n _::_::_::_::_,_=>rfl
  | .w _::_::_::_::_,_=>rfl
  | [.n _,_],_=>rfl
  | [.n _,_,_],_=>rfl
  | [.w s,a],hu=>
   unfold Xd
   dsimp only
   simp only[ZM,ZN,or_false] at hu
   rcases hu with rfl | rfl
   ·rw[XX (key h2).1]
   ·rw[hg _ h2];split<;>rfl
  | [.w s,a,b],hu=>
   unfold Xd
   dsimp only
   simp only[ZM,ZN,or_false] at hu
   rcases hu with rfl | rfl | rfl
   ·rw[XX (key h2).2]
   ·rw[Qr d h2];split<;>rfl
   ·rw[hg _ h2];split
    ·cases Xp a<;>rfl
    ·rfl
def B9 {ts:List Tr}{t:Tr}(ht:t∈ts)(h:w∈fl t):Va g ts=none:=by
 cases ts with
 | nil=>cases ht
 | cons a as=>
  unfold Va
  dsimp only
  rcases List.mem_cons.mp ht with rfl | ht
  ·rw[hg _ h]
  ·rw[Wy ht (B8 d hg h)];cases g a<;>rfl
def uI {ts:List Tr}{t:Tr}(ht:t∈ts)(h:w∈fl t):Tb g ts=none:=by
 cases ts with
 | nil=>cases ht
 | cons a r=>
  have hc:=Ab hg ht h
  cases a with
  | n us=>exact hc
  | w x=>
   unfold Tb
   dsimp only
   rcases List.mem_cons.mp ht with rfl | hr
   ·rw[X1] at h
    have e:=XQ.mp h
    subst e
    have n:∀z∈sp,w≠z:=λz hz e=>d.sp (e▸hz)
    rw[XX (λz=>d.sp (List.mem_append_left _ (List.mem_append_left _ z))),XX (n _ (by decide)),XX (n _ (by decide)),XX (n _ (by decide)),XX (n _ (by decide)),XX (n _ (by decide)),XX (n _ (by decide)),XX (λz=>z.elim (n _ (by decide)) (n _ (by decide)))]
    exact hc
   ·have k1:=yt hg hr h
    have k2:=yv d hg hr h
    have k3:=yu d hg hr h
    have k4:=Gj d hg hr h
    have k5:=B9 d hg hr h
    have k6:(match r with | [t]=>(Xp t).map λs=>T.tup [.str "stop",.str s] | _=>none)=none:=by
     match r,hr with
     | [_],hr=>rw[<-List.mem_singleton.mp hr];dsimp only;rw[Qr d h];rfl
     | _::_::_,_=>rfl
    rw[k1,k2,k3,k4,k5,hc]
    simp only[Option.map_none]
    repeat' split
    all_goals first | rfl | exact k6
end
def Di {w:Str}(d:xB w):∀(f:Nat) (t:Tr),w∈fl t->rd f t=none
 | f,.w x,h=>by
  rw[X1] at h
  rw[zo,<-XQ.mp h];exact d.rd
 | 0,.n ts,_=>rfl
 | f+1,.n ts,h=>by
  obtain⟨t,ht,h⟩:=K7 d h
  exact uI d (λt h=>Di d f t h) ht h
mutual
def lv:Tr->Nat
 | .w _=>0
 | .n ts=>lvs ts+1
def lvs:List Tr->Nat
 | []=>0
 | t::ts=>max (lv t) (lvs ts)
end
def Om:List Str->Nat->Nat->Nat
 | [],_,m=>m
 | w::ws,c,m=>if w="(" then Om ws (c+1) (max m (c+1)) else if w=")" then Om ws (c-1) m else Om ws c m
mutual
def zG:∀{τ:Tr},Nb τ->∀(ws:List Str) (c m:Nat),Om (fl τ++ws) c m=Om ws c (max m (if lv τ=0 then 0 else c+lv τ))
 | .w x,h,ws,c,m=>by
  unfold Nb at h
  rw[X1,lv]
  show Om (x::ws) c m=_
  rw[Om,if_neg h.1,if_neg h.2];simp
 | .n ts,h,ws,c,m=>by
  unfold Nb at h
  rw[Vc,lv]
  show Om (("(":Str)::((fls ts++[(")":Str)])++ws)) c m=_
  rw[Om,XY rfl,YL,Ds h]
  show Om ((")":Str)::ws) (c+1) _=_
  rw[Om,XX (by decide),XY rfl,XX (show ¬lvs ts+1=0 by omega)]
  congr 1
  split<;>omega
def Ds:∀{ts:List Tr},Nbs ts->∀(ws:List Str) (c m:Nat),Om (fls ts++ws) c m=Om ws c (max m (if lvs ts=0 then 0 else c+lvs ts))
 | [],_,ws,c,m=>by rw[Xf,lvs];simp
 | t::ts,h,ws,c,m=>by
  unfold Nbs at h
  rw[J4,lvs,YL,zG h.1,Ds h.2]
  congr 1
  split<;>split<;>split<;>omega
end
def Vr (op:Str)(x n h:Tr):Nat->Tr
 | 0=>.n [.w op,h,n]
 | 1=>.n [.w "fun",x,h]
 | 2=>.n [h,x,n]
 | 3=>.n [.w "let",.n [x,n],.n [.w "a1",h],x]
 | 4=>.n [.w "choose",x,.n [.w "Nil",n],.n [.w "Cons",x,.w "b2",h]]
 | 5=>.n [.w "Cons",x,h]
 | 6=>.n [.w "first",h,.n [.w "stop",x]]
 | 7=>.n [.w "rows",x,.n [.w "in",x,h],.n [.w "when",.w "Yes"]]
 | _=>.n [.w "choose",h,.n [.w "No",x],.n [.w "Yes",n]]
section
variable {g:Tr->Option T}{r:List Tr}
def oF {o:Str}(h:o∈ops):Tb g (.w o::r)=(two g r).map λp=>.tup [.str "does",.str o,p.1,p.2]:=XY h
def qz:Tb g (.w "fun"::r)=Oj g r:=by unfold Tb;dsimp only;rw[if_neg (by decide),if_pos rfl]
def qy:Tb g (.w "let"::r)=Oi g r:=by unfold Tb;dsimp only;rw[if_neg (by decide),if_neg (by decide),if_pos rfl]
def G5:Tb g (.w "choose"::r)=Jo g r:=by unfold Tb;dsimp only;rw[if_neg (by decide),if_neg (by decide),if_neg (by decide),if_pos rfl]
def xA:Tb g (.w "first"::r)=(two g r).map λp=>.tup [.str "first",p.1,p.2]:=by unfold Tb;dsimp only;rw[if_neg (by decide),if_neg (by decide),if_neg (by decide),if_neg (by decide),if_pos rfl]
def tq {t:Tr}:Tb g [.w "stop",t]=(Xp t).map λs=>.tup [.str "stop",.str s]:=by unfold Tb;dsimp only;rw[if_neg (by decide),if_neg (by decide),if_neg (by decide),if_neg (by decide),if_neg (by decide),if_pos rfl]
def tu:Tb g (.w "rows"::r)=Va g r:=by unfold Tb;dsimp only;rw[if_neg (by decide),if_neg (by decide),if_neg (by decide),if_neg (by decide),if_neg (by decide),if_neg (by decide),if_pos rfl]
def t7:Tb g (.w "Cons"::r)=(two g r).map λp=>.tup [.str "shape",.str "Cons",.tup [p.1,p.2]]:=by unfold Tb;dsimp only;rw[if_neg (by decide),if_neg (by decide),if_neg (by decide),if_neg (by decide),if_neg (by decide),if_neg (by decide),if_neg (by decide),if_pos (.inl rfl)]
def tw {h:Tr}(hh:h=.w "x"\/∃ts,h=.n ts):Tb g (h::r)=Vb g (h::r):=by
 rcases hh with rfl | ⟨ts,rfl⟩
 ·unfold Tb;dsimp only;rw[if_neg (by decide),if_neg (by decide),if_neg (by decide),if_neg (by decide),if_neg (by decide),if_neg (by decide),if_neg (by decide),if_neg (by decide)]
 ·rfl
end
def tN:(J5 "Yes").isSome=true:=by decide+kernel
def r6:Xp (.w "a1")=some "a1"/\Xp (.w "b2")=some "b2":=by decide+kernel
def wZ:Ez.lookup ("Nil":Str)=some 0/\Ez.lookup ("Cons":Str)=some 2/\Ez.lookup ("No":Str)=some 0/\Ez.lookup ("Yes":Str)=some 0:=by decide+kernel
def yh:(["Nil","Cons"]:List Str)∈Gb/\(["No","Yes"]:List Str)∈Gb:=by decide+kernel
def xq {op x n:Str}{h:Tr}{m:Nat}(ho:op∈ops)(hx:Xu x=true)(hx1:x≠"a1")(hx2:x≠"b2")(hn:(J5 n).isSome=true)(hh:h=.w "x"\/∃ts,h=.n ts)(hr:(rd (m+1) h).isSome=true):∀i,(rd (m+2) (Vr op (.w x) (.w n) h i)).isSome=true:=by
 obtain⟨t,et⟩:=Option.isSome_iff_exists.mp hr
 obtain⟨N,en⟩:=Option.isSome_iff_exists.mp hn
 have nx:Xp (.w x)=some x:=XY hx
 obtain⟨X,ex⟩:∃X,J5 x=some X:=⟨_,XY hx⟩
 have gx:rd (m+1) (.w x)=some X:=zo.trans ex
 have gn:rd (m+1) (.w n)=some N:=zo.trans en
 obtain⟨Y,ey⟩:=Option.isSome_iff_exists.mp tN
 have gy:rd (m+1) (.w "Yes")=some Y:=zo.trans ey
 obtain⟨a1,b2⟩:=r6
 obtain⟨s1,s2,s3,s4⟩:=wZ
 have st:rd (m+1) (.n [.w "stop",.w x])=some (.tup [.str "stop",.str x]):=by
  show Tb (rd m) _=_
  rw[tq,nx];rfl
 intro i
 match i with
 | 0=>show(Tb (rd (m+1)) [.w op,h,.w n]).isSome=true;rw[oF ho];simp only[two,et,gn];rfl
 | 1=>show(Tb (rd (m+1)) [.w "fun",.w x,h]).isSome=true;rw[qz];simp[Oj,all,nx,et]
 | 2=>show(Tb (rd (m+1)) [h,.w x,.w n]).isSome=true;rw[tw hh];simp[Vb,all,gx,gn,et]
 | 3=>show(Tb (rd (m+1)) [.w "let",.n [.w x,.w n],.n [.w "a1",h],.w x]).isSome=true;rw[qy];simp[Oi,all,Ws,nx,a1,gx,gn,et,hx1]
 | 4=>show(Tb (rd (m+1)) [.w "choose",.w x,.n [.w "Nil",.w n],.n [.w "Cons",.w x,.w "b2",h]]).isSome=true;rw[G5];simp[Jo,all,Qu,nx,b2,gx,gn,et,hx2,s1,s2,yh.1]
 | 5=>show(Tb (rd (m+1)) [.w "Cons",.w x,h]).isSome=true;rw[t7];simp only[two,et,gx];rfl
 | 6=>show(Tb (rd (m+1)) [.w "first",h,.n [.w "stop",.w x]]).isSome=true;rw[xA];simp only[two,et,st];rfl
 | 7=>show(Tb (rd (m+1)) [.w "rows",.w x,.n [.w "in",.w x,h],.n [.w "when",.w "Yes"]]).isSome=true;rw[tu];simp[Va,all,Xd,nx,gx,et,gy]
 | _+8=>show(Tb (rd (m+1)) [.w "choose",h,.n [.w "No",.w x],.n [.w "Yes",.w n]]).isSome=true;rw[G5];simp[Jo,all,Qu,gx,gn,et,s3,s4,yh.2]
end Rd
open PySem PySem.Spec PyProof.Rows L2 WL Rd
def Kw:List Nat:=(Str.ofString "abcdefghijklmnopqrstuvwxyz").cps.toList
def rF:∀c∈Kw,Xu ⟨#[c]⟩=true/\(⟨#[c]⟩:Str)≠"a1"/\(⟨#[c]⟩:Str)≠"b2"/\gd ⟨#[c]⟩=true/\c<1000/\W3 ⟨#[c]⟩=false:=by decide+kernel
structure Wo (j:Nat)(ws:List Str):Prop where
 ex:∃τ,ws=fl τ/\Gd (2*j) τ/\(∀m,2*j<=m->(rd m τ).isSome=true)/\(τ=.w "x"\/∃ts,τ=.n ts)/\lv τ<=2*j
 len:ws.length<=1+20*j
 nb:∃w∈ws,w≠"("/\w≠")"
def qf {op:Str}{x n h:Tr}:∀i,∃ts,Vr op x n h i=.n ts
 | 0 | 1 | 2 | 3 | 4 | 5 | 6 | 7 | _+8=>⟨_,rfl⟩
def xp {op x n:Str}{h:Tr}(i:Nat):(fl (Vr op (.w x) (.w n) h i)).length<=(fl h).length+20:=by
 match i with
 | 0 | 1 | 2 | 3 | 4 | 5 | 6 | 7 | _+8=>simp only[Vr,Vc,J4,Xf,X1,List.length_append,List.length_cons,List.length_nil];omega
def xn {op x n w:Str}{h:Tr}(i:Nat)(hw:w∈fl h):w∈fl (Vr op (.w x) (.w n) h i):=by
 match i with
 | 0 | 1 | 2 | 3 | 4 | 5 | 6 | 7 | _+8=>simp[Vr,Vc,J4,Xf,X1,hw]
def uK {op x n:Str}{h:Tr}(i:Nat):lv (Vr op (.w x) (.w n) h i)<=lv h+2:=by
 match i with
 | 0 | 1 | 2 | 3 | 4 | 5 | 6 | 7 | _+8=>simp only[Vr,lv,lvs];omega
def Ir {f:Nat}:∀t∈([]:List Tr),Gd f t:=λ_ h=>nomatch h
def gl {f:Nat}{a:Tr}{r:List Tr}(h:Gd f a)(hr:∀t∈r,Gd f t):∀t∈a::r,Gd f t:=λt m=>by
 rcases List.mem_cons.mp m with rfl | m
 ·exact h
 ·exact hr t m
def uL {op x n:Str}{h:Tr}{f:Nat}(ho:op∈ops)(hx:∀j,Gd j (.w x))(hn:∀j,Gd j (.w n))(hh:Gd f h)(i:Nat):Gd (f+2) (Vr op (.w x) (.w n) h i):=by
 have h1:Gd (f+1) h:=hh.mono 1
 have hop:∀j,Gd j (.w op):=λj=>zZ (XT _ (List.mem_append_left _ (List.mem_append_left _ ho)))
 have W:∀(w:Str),w∈qF++sp->∀j,Gd j (.w w):=λw hw j=>zZ hw
 match i with
 | 0=>exact Us (ZNB rfl) (gl (hop _) (gl h1 (gl (hn _) Ir)))
 | 1=>exact Us (ZNB rfl) (gl (W "fun" (by decide) _) (gl (hx _) (gl h1 Ir)))
 | 2=>exact Us (ZNB rfl) (gl h1 (gl (hx _) (gl (hn _) Ir)))
 | 3=>exact Us (ZNB rfl) (gl (W "let" (by decide) _) (gl (Us (ZNB rfl) (gl (hx _) (gl (hn _) Ir))) (gl (Us (ZNB rfl) (gl (W "a1" (by decide) _) (gl hh Ir))) (gl (hx _) Ir))))
 | 4=>exact Us (ZNB rfl) (gl (W "choose" (by decide) _) (gl (hx _) (gl (Us (ZNB rfl) (gl (W "Nil" (by decide) _) (gl (hn _) Ir))) (gl (Us (ZNB rfl) (gl (W "Cons" (by decide) _) (gl (hx _) (gl (W "b2" (by decide) _) (gl hh Ir))))) Ir))))
 | 5=>exact Us (ZNB rfl) (gl (W "Cons" (by decide) _) (gl (hx _) (gl h1 Ir)))
 | 6=>exact Us (ZNB rfl) (gl (W "first" (by decide) _) (gl h1 (gl (Us (ZNB rfl) (gl (W "stop" (by decide) _) (gl (hx _) Ir))) Ir)))
 | 7=>exact Us (ZNB rfl) (gl (W "rows" (by decide) _) (gl (hx _) (gl (Us (ZNB rfl) (gl (W "in" (by decide) _) (gl (hx _) (gl hh Ir)))) (gl (Us (ZNB rfl) (gl (W "when" (by decide) _) (gl (W "Yes" (by decide) _) Ir))) Ir))))
 | _+8=>exact Us (ZNB rfl) (gl (W "choose" (by decide) _) (gl h1 (gl (Us (ZNB rfl) (gl (W "No" (by decide) _) (gl (hx _) Ir))) (gl (Us (ZNB rfl) (gl (W "Yes" (by decide) _) (gl (hn _) Ir))) Ir))))
def w8 {j i c:Nat}{op:Str}{v:Int}{τ:Tr}(hw:Gd (2*j) τ/\(∀m,2*j<=m->(rd m τ).isSome=true)/\(τ=.w "x"\/∃ts,τ=.n ts)/\lv τ<=2*j)(hl:(fl τ).length<=1+20*j)(hb:∃w∈fl τ,w≠"("/\w≠")")(ho:op∈ops)(hc:c∈Kw)(h0:0<=v)(h1:v<10^18):Wo (j+1) (fl (Vr op (.w ⟨#[c]⟩) (.w (J9 v)) τ i)):=by
 obtain⟨g,hr,hh,hlv⟩:=hw
 obtain⟨c1,c2,c3,c4,c5,c6⟩:=rF c hc
 obtain⟨hf,hiv⟩:=D0 h0 h1
 obtain⟨f1,f2,f3,f4,f5⟩:=xW hf
 obtain⟨w,hw,hb⟩:=hb
 refine⟨⟨_,rfl,?_,λm hm=>?_,?_,?_⟩,?_,w,xn i hw,hb⟩
 ·rw[show 2*(j+1)=2*j+2 by omega]
  exact uL ho (λ_=>jV c4 (λd hd=>by rw[XQ.mp hd];exact c5) λz=>by rw[c6] at z;cases z) (λ_=>uq h0 h1) g i
 ·obtain⟨m,rfl⟩:∃k,m=k+2:=⟨m-2,by omega⟩
  exact xq ho c1 c2 c3 (jJ f2 f1 ⟨_,hiv⟩) hh (hr (m+1) (by omega)) i
 ·exact .inr (qf i)
 ·have:=uK (op:=op) (x:=⟨#[c]⟩) (n:=J9 v) (h:=τ) i;omega
 ·have:=xp (op:=op) (x:=⟨#[c]⟩) (n:=J9 v) (h:=τ) i;omega
def EV (e:WE)(v:T)(τ:Sw)(χ:WX)(C0:Hw):Prop:=∀C' Q,Ex C0 C'->Q v C'->e τ C' Q χ
def EA (a:WA)(ws:List Str)(τ:Sw)(χ:WX)(C0:Hw):Prop:=∀C' Q,Ex C0 C'->Q (ws.map T.str) C'->a τ C' Q χ
def EL (e:WE)(ws:List Str)(τ:Sw)(χ:WX)(C0:Hw):Prop:=∀C' Q,Ex C0 C'->(∀p C2,Ex C' C2->C2 p=some (.lst (ws.map T.str))->Q (.ref p) C2)->e τ C' Q χ
section
variable {C:Hw}{Q:WK}{χ:WX}{n i:Nat}{τ:Sw}{e e':WE}{a:WA}{xs ys ws:List Str}{w:Str}{v:T}{D:We}
def Zw:EV (eC v) v τ χ C:=λC' Q hE q=>q
def yi (h:τ[i]?=some (some v)):EV (Zu i) v τ χ C:=λC' Q hE q=>⟨_,h,q⟩
def Y6:EA Jl [] τ χ C:=λC' Q hE q=>q
def Zd (h:EV e (.str w) τ χ C)(r:EA a ws τ χ C):EA (Z2 e a) (w::ws) τ χ C:=λC' Q hE q=>h C' _ hE (r C' _ hE q)
def Y5 (h:EA a ws τ χ C)(hl:ws.length<=50000):EL (ym a) ws τ χ C:=λC' Q hE q=>h C' _ hE ⟨by rw[XI];exact Jr (by omega),λp hp=>q p _ (Ex.new hp) Zj⟩
def Y1 (ha:EL e xs τ χ C)(hb:EL e' ys τ χ C)(hl:xs.length+ys.length<=50000):EL (Yo Sf e e') (xs++ys) τ χ C:=λC' Q hE q=>by
 refine ha C' _ hE λp1 C1 h1 e1=>hb C1 _ (hE.trans h1) λp2 C2 h2 e2=>?_
 refine⟨_,_,h2 _ _ e1,e2,Jr (by rw[XI,XI];omega),λp hp=>?_⟩
 rw[<-XL]
 exact q p _ (h1.trans (h2.trans (Ex.new hp))) Zj
def Ee {p:Addr}(h:τ[i]?=some (some (.ref p)))(hp:C p=some (.lst (ws.map T.str))):EL (Zu i) ws τ χ C:=λC' Q hE q=>⟨_,h,q p C' (Ex.refl _) (hE _ _ hp)⟩
def Fs (h:EL e ws τ D.xc C)(q:∀p C',Ex C C'->C' p=some (.lst (ws.map T.str))->D.rt (.ref p) C'):Pj e D τ C:=h C _ (Ex.refl C) q
def zd {k z:Int}{x r:WS}(h:τ[i]?=some (some (.int z)))(y:z=k->x {D with nx:=r D} τ C)(no:z≠k->r D τ C):Sg (jr (Fb (Yo xG (Zu i) (eC (.int k)))) x Qf) r D τ C:=by
 refine⟨_,h,N5 rfl ⟨_,rfl,?_⟩⟩
 by_cases c:z=k
 ·exact Z4 (by simpa using c) (y c)
 ·exact Z5 (by simpa using c) (no c)
def vY {d:Int}:∃c,Ub (Str.ofString "abcdefghijklmnopqrstuvwxyz").cps.toList (d%26)=some c/\c∈Kw:=by
 have e:(Str.ofString "abcdefghijklmnopqrstuvwxyz").cps.toList.length=26:=by decide+kernel
 exact Ua (xs:=(Str.ofString "abcdefghijklmnopqrstuvwxyz").cps.toList) (i:=d%26) (by omega) (by rw[e];omega)
def rm {d:Int}:∃c,Ub (Str.ofString "+-*<=").cps.toList (d%5)=some c/\(⟨#[c]⟩:Str)∈ops:=by
 have e:(Str.ofString "+-*<=").cps.toList.length=5:=by decide+kernel
 obtain⟨c,h,m⟩:=Ua (xs:=(Str.ofString "+-*<=").cps.toList) (i:=d%5) (by omega) (by rw[e];omega)
 have key:∀c∈(Str.ofString "+-*<=").cps.toList,(⟨#[c]⟩:Str)∈ops:=by decide+kernel
 exact⟨c,h,key c m⟩
def jo {p:Addr}{ws:List Str}{j:Nat}{cell:Int}(h0:0<=cell)(hj:j<=10)(hp:C p=some (.lst (ws.map T.str)))(hw:Wo j ws)(q:∀p' C' ws',Ex C C'->C' p'=some (.lst (ws'.map T.str))->Wo (j+1) ws'->Q (.ref p') C'):Xo pr (n+1) Kz [.ref p,.int cell] C Q χ:=by
 obtain⟨⟨τ,rfl,hT⟩,hl,hb⟩:=hw
 obtain⟨c,hc,mc⟩:=vY (d:=cell/9)
 obtain⟨o,hob,mo⟩:=rm (d:=cell/9)
 have v0:0<=cell/234*982451653%10^Int.toNat 18:=YO _ (by decide)
 have v1:cell/234*982451653%10^Int.toNat 18<10^18:=Int.emod_lt_of_pos _ (by decide)
 refine Kc rfl ⟨_,rfl,by decide,_,rfl,⟨by decide,by decide⟩,by decide,Jr (by decide+kernel),c,hc,_,rfl,⟨by decide,by decide⟩,.inr ⟨by decide,by decide⟩,⟨by decide,by decide,by decide⟩,by decide,.inl ⟨_,rfl,vX (by omega),?_⟩⟩
 generalize hv:cell/234*982451653%10^Int.toNat 18=v at v0 v1
 have lt:=Ee (τ:=[some (T.ref p),some (.int cell),some (.int (cell%9)),some (.str ⟨#[c]⟩),some (.str (J9 v))]) (i:=0) (χ:=χ) rfl hp
 have fin:∀(i:Nat) (o:Str) (ws:List Str) (e:WE),o∈ops->ws=fl (Vr o (.w ⟨#[c]⟩) (.w (J9 v)) τ i)->EL e ws [some (T.ref p),some (.int cell),some (.int (cell%9)),some (.str ⟨#[c]⟩),some (.str (J9 v))] χ C->∀D:We,D.rt=Q->D.xc=χ->Pj e D [some (T.ref p),some (.int cell),some (.int (cell%9)),some (.str ⟨#[c]⟩),some (.str (J9 v))] C:=by
  rintro i o ws e ho rfl hE D hD hX
  obtain⟨nx,rt,bk,ct,xc⟩:=D
  cases hD
  cases hX
  exact Fs hE λp' C' hE' hp'=>q p' C' _ hE' hp' (w8 hT hl hb ho mc v0 v1)
 have m0:("+":Str)∈ops:=by decide
 have x3:EV (Zu 3) (.str ⟨#[c]⟩) [some (T.ref p),some (.int cell),some (.int (cell%9)),some (.str ⟨#[c]⟩),some (.str (J9 v))] χ C:=yi rfl
 have x4:EV (Zu 4) (.str (J9 v)) [some (T.ref p),some (.int cell),some (.int (cell%9)),some (.str ⟨#[c]⟩),some (.str (J9 v))] χ C:=yi rfl
 have xo:EV (Yo S6 (eC (.str "+-*<=")) (Yo Cu (Yo A2 (Zu 1) (eC (.int 9))) (eC (.int 5)))) (.str ⟨#[o]⟩) [some (T.ref p),some (.int cell),some (.int (cell%9)),some (.str ⟨#[c]⟩),some (.str (J9 v))] χ C:=λC' Q hE q=>⟨_,rfl,⟨by decide,by decide⟩,by decide,Jr (by decide+kernel),o,hob,q⟩
 have lh:(fl τ).length<=300:=by omega
 refine zd rfl (λ_=>fin 0 ⟨#[o]⟩ _ _ mo ?_ (Y1 (Y1 (Y5 (Zd Zw (Zd xo Y6)) (by simp)) lt (by simp;omega)) (Y5 (Zd x4 (Zd Zw Y6)) (by simp)) (by simp;omega)) _ rfl rfl) λ_=>?_
 ·simp only[Vr,Vc,J4,Xf,X1];simp
 refine zd rfl (λ_=>fin 1 "+" _ _ m0 ?_ (Y1 (Y1 (Y5 (Zd Zw (Zd Zw (Zd x3 Y6))) (by simp)) lt (by simp;omega)) (Y5 (Zd Zw Y6) (by simp)) (by simp;omega)) _ rfl rfl) λ_=>?_
 ·simp only[Vr,Vc,J4,Xf,X1];simp
 refine zd rfl (λ_=>fin 2 "+" _ _ m0 ?_ (Y1 (Y1 (Y5 (Zd Zw Y6) (by simp)) lt (by simp;omega)) (Y5 (Zd x3 (Zd x4 (Zd Zw Y6))) (by simp)) (by simp;omega)) _ rfl rfl) λ_=>?_
 ·simp only[Vr,Vc,J4,Xf,X1];simp
 refine zd rfl (λ_=>fin 3 "+" _ _ m0 ?_ (Y1 (Y1 (Y5 (Zd Zw (Zd Zw (Zd Zw (Zd x3 (Zd x4 (Zd Zw (Zd Zw (Zd Zw Y6)))))))) (by simp)) lt (by simp;omega)) (Y5 (Zd Zw (Zd x3 (Zd Zw Y6))) (by simp)) (by simp;omega)) _ rfl rfl) λ_=>?_
 ·simp only[Vr,Vc,J4,Xf,X1];simp
 refine zd rfl (λ_=>fin 4 "+" _ _ m0 ?_ (Y1 (Y1 (Y5 (Zd Zw (Zd Zw (Zd x3 (Zd Zw (Zd Zw (Zd x4 (Zd Zw (Zd Zw (Zd Zw (Zd x3 (Zd Zw Y6))))))))))) (by simp)) lt (by simp;omega)) (Y5 (Zd Zw (Zd Zw Y6)) (by simp)) (by simp;omega)) _ rfl rfl) λ_=>?_
 ·simp only[Vr,Vc,J4,Xf,X1];simp
 refine zd rfl (λ_=>fin 5 "+" _ _ m0 ?_ (Y1 (Y1 (Y5 (Zd Zw (Zd Zw (Zd x3 Y6))) (by simp)) lt (by simp;omega)) (Y5 (Zd Zw Y6) (by simp)) (by simp;omega)) _ rfl rfl) λ_=>?_
 ·simp only[Vr,Vc,J4,Xf,X1];simp
 refine zd rfl (λ_=>fin 6 "+" _ _ m0 ?_ (Y1 (Y1 (Y5 (Zd Zw (Zd Zw Y6)) (by simp)) lt (by simp;omega)) (Y5 (Zd Zw (Zd Zw (Zd x3 (Zd Zw (Zd Zw Y6))))) (by simp)) (by simp;omega)) _ rfl rfl) λ_=>?_
 ·simp only[Vr,Vc,J4,Xf,X1];simp
 refine zd rfl (λ_=>fin 7 "+" _ _ m0 ?_ (Y1 (Y1 (Y5 (Zd Zw (Zd Zw (Zd x3 (Zd Zw (Zd Zw (Zd x3 Y6)))))) (by simp)) lt (by simp;omega)) (Y5 (Zd Zw (Zd Zw (Zd Zw (Zd Zw (Zd Zw (Zd Zw Y6)))))) (by simp)) (by simp;omega)) _ rfl rfl) λ_=>?_
 ·simp only[Vr,Vc,J4,Xf,X1];simp
 refine fin 8 "+" _ _ m0 ?_ (Y1 (Y1 (Y5 (Zd Zw (Zd Zw Y6)) (by simp)) lt (by simp;omega)) (Y5 (Zd Zw (Zd Zw (Zd x3 (Zd Zw (Zd Zw (Zd Zw (Zd x4 (Zd Zw (Zd Zw Y6))))))))) (by simp)) (by simp;omega)) _ rfl rfl
 ·simp only[Vr,Vc,J4,Xf,X1];simp
end
structure Bw (w:Str):Prop where
 d:xB w
 gd:gd w=true
 lo:∀c∈w.cps.toList,c<1000
 no:W3 w=false
def wW:∀w∈sp,(w.cps.toList.head?.any λc=>decide (c∈Xc))=false:=by decide+kernel
def Ga:∀d∈Xc,(d !=32&&d !=40&&d !=41&&d !=10)=true/\d<1000:=by decide+kernel
def yr {w:Str}{c:Nat}{r:List Nat}(e:w.cps.toList=c::r)(hf:∀d∈w.cps.toList,d∈Xc)(hl:w.length<=20)(h:18<w.length\/(c=48/\r≠[])):Bw w:=by
 have hc:c∈Xc:=hf c (by rw[e];exact .head _)
 have h1:w.length=r.length+1:=by rw[<-Xy,e,YF]
 have nm:Xu w=false:=by
  unfold Xu
  rw[e]
  dsimp only
  rw[zE c hc,Bool.and_false];rfl
 have no:W3 w=false:=by
  unfold W3
  rw[e]
  dsimp only
  rcases h with h | ⟨rfl,h⟩
  ·rw[YG (by omega)];rfl
  ·have z:(w==("0":Str))=false:=by
    rw[beq_eq_false_iff_ne]
    rintro rfl
    have:("0":Str).cps.toList=[48]:=rfl
    rw[this] at e
    cases e;exact h rfl
   have y:((⟨#[48]⟩:Str)==("0":Str))=true:=by decide
   rw[z,y];simp
 have sp':w∉sp:=λz=>by
  have:=wW w z
  rw[e] at this
  simp[hc] at this
 refine⟨⟨?_,nm,sp',?_⟩,?_,λd hd=>(Ga d (hf d hd)).2,no⟩
 ·unfold J5
  rw[XX (by rw[nm];decide),XX (by rw[no];decide),Kv λhm=>sp' (XT _ hm),XX (by decide)]
 ·refine⟨?_,?_⟩
  ·rintro rfl;exact absurd (hf 40 (by decide)) (by decide+kernel)
  ·rintro rfl;exact absurd (hf 41 (by decide)) (by decide+kernel)
 ·unfold K18.gd
  rw[Bool.and_eq_true,Bool.and_eq_true,decide_eq_true_eq,decide_eq_true_eq,List.all_eq_true]
  exact⟨⟨by omega,hl⟩,λd hd=>(Ga d (hf d hd)).1⟩
open PySem.NumText W.KIN in
def Hz {v:Int}(h0:0<=v)(h1:v<10^19):(∃c r,(J9 v).cps.toList=c::r)/\(∀d∈(J9 v).cps.toList,d∈Xc)/\(J9 v).length<=19/\(10^18<=v->18<(J9 v).length):=by
 obtain⟨m,rfl⟩:∃m:Nat,v=(m:Int):=⟨v.toNat,by omega⟩
 have hm:m<10^19:=by omega
 have e:(J9 (m:Int)).cps.toList=(Nat.toDigits 10 m).map Char.toNat:=signs_num m
 have hl:(J9 (m:Int)).length=(Nat.toDigits 10 m).length:=by rw[<-Xy,e,XI]
 have l1:=digits10_le (k:=19) (by decide) hm
 have l2:=tDigits_len_ge 10 m
 refine⟨?_,λc hc=>?_,by omega,λh=>?_⟩
 ·cases q:(J9 (m:Int)).cps.toList with
  | nil=>rw[q] at e;have:=congrArg List.length e;rw[XI,List.length_nil] at this;omega
  | cons c r=>exact⟨c,r,rfl⟩
 ·rw[e] at hc
  obtain⟨ch,hch,rfl⟩:=XR.mp hc
  have hd:=Nat.isDigit_of_mem_toDigits (b:=10) (by decide) (by decide) hch
  unfold Char.isDigit at hd
  rw[Bool.and_eq_true,decide_eq_true_eq,decide_eq_true_eq] at hd
  exact D2 _ hd.1 hd.2
 ·have hk:¬(Nat.toDigits 10 m).length<=18:=λz=>by
   have:=(Nat.length_toDigits_le_iff (b:=10) (n:=m) (k:=18) (by decide) (by decide)).mp z
   omega
  omega
def zL:List Str:=(["Foo","12345678901234567890","zzzzzzzzzzz","stop0x1yz","abcdefghi","a.b","a_b","1a","x'","-5"]:List Str)++(["nil","Nil0"]:List Str)++(["NIL","CONS","True","None","\"a\"","[","{","+1","0x1","x,",";","#","~","1.5","Let"]:List Str)
def xt (w:Str):Bool:=(J5 w).isNone&&!Xu w&&decide (w∉sp)&&decide (w≠"(")&&decide (w≠")")&&gd w&&(w.cps.toList.all λc=>decide (c<1000))&&!W3 w
def Cd {w:Str}(h:xt w=true):Bw w:=by
 unfold xt at h
 simp only[Bool.and_eq_true,decide_eq_true_eq,Bool.not_eq_true',Option.isNone_iff_eq_none,List.all_eq_true] at h
 obtain⟨⟨⟨⟨⟨⟨⟨h1,h2⟩,h3⟩,h4⟩,h5⟩,h6⟩,h7⟩,h8⟩:=h
 exact⟨⟨h1,h2,h3,h4,h5⟩,h6,h7,h8⟩
def wm:(zL.all λw=>w==("nil":Str)||xt w)=true/\xt "niL"=true:=by decide+kernel
section
variable {C:Hw}{Q:WK}{χ:WX}{n i:Nat}{τ:Sw}{e:WE}{ws:List Str}{D:We}{r:WS}
def zb (h:EL e ws τ D.xc C)(q:∀p C',Ex C C'->C' p=some (.lst (ws.map T.str))->r D (τ.set i (some (.ref p))) C'):Sg (W1 e (T5 i)) r D τ C:=h C _ (Ex.refl C) q
def uR {zs:List Str}{i:Int}(h0:0<=i)(h1:i<zs.length):∃x,Ub (zs.map T.str) i=some (.str x)/\x∈zs:=by
 obtain⟨t,e,m⟩:=Ua (xs:=zs.map T.str) h0 (by rw[XI];exact h1)
 obtain⟨x,hx,rfl⟩:=XR.mp m
 exact⟨x,e,hx⟩
def Hk {i:Nat}(h:i<10^19):i.log2<1920:=by
 by_cases h0:i=0
 ·subst h0;decide
 ·exact(Nat.log2_lt h0).mpr (XG h (Nat.le_trans (show 10^19<=2^64 by decide) (Nat.pow_le_pow_right (by decide) (by decide))))
def sN {cell:Int}(h0:0<=cell)(q:∀w C',Ex C C'->Bw w->Q (.str w) C'):Xo pr (n+1) F9 [.int cell] C Q χ:=by
 refine Ff rfl ⟨_,rfl,by decide,N5 rfl ⟨_,rfl,?_⟩⟩
 have ei:∀a b:Int,a=b->(a==b)=true:=λa b h=>by simpa using h
 have en:∀a b:Int,a≠b->(a==b)=false:=λa b h=>by simpa using h
 by_cases k0:cell%4=0
 ·have a0:0<=cell/4*982451653%(9*10^Int.toNat 18):=YO _ (by decide)
  have a1:cell/4*982451653%(9*10^Int.toNat 18)<9*10^18:=Int.emod_lt_of_pos _ (by decide)
  have a2:(10:Int)^Int.toNat 18=10^18:=rfl
  refine Z4 (ei _ _ k0) ⟨⟨by decide,by decide,by decide⟩,_,rfl,⟨by decide,by decide⟩,.inr ⟨by decide,by decide⟩,⟨by decide,by decide,by decide⟩,.inl ⟨by decide,by decide⟩,by decide,.inl ⟨_,rfl,Hk (by omega),?_⟩⟩
  obtain⟨⟨c,r,e⟩,f1,f2,f3⟩:=Hz (v:=10^Int.toNat 18+cell/4*982451653%(9*10^Int.toNat 18)) (by omega) (by omega)
  exact q _ _ (Ex.refl C) (yr e f1 (Nat.le_trans f2 (by decide)) (.inl (f3 (by omega))))
 refine Z5 (en _ _ k0) ⟨_,rfl,by decide,N5 rfl ⟨_,rfl,?_⟩⟩
 by_cases k1:cell%4=1
 ·obtain⟨d,hd,d1,d2⟩:∃d:Int,Ub [T.int 10,T.int (10^Int.toNat 16)] (cell/8%2)=some (.int d)/\0<d/\d<=10^16:=by
   have:cell/8%2=0\/cell/8%2=1:=by omega
   rcases this with h | h
   ·exact⟨10,by rw[h];rfl,by decide,by decide⟩
   ·exact⟨10^Int.toNat 16,by rw[h];rfl,by decide,by decide⟩
  have b0:0<=cell/4%d:=YO _ (by omega)
  have b1:cell/4%d<d:=Int.emod_lt_of_pos _ d1
  obtain⟨⟨c,r,e⟩,f1,f2,f3⟩:=Hz (v:=cell/4%d) b0 (by omega)
  have ec:(("0":Str)++J9 (cell/4%d)).cps.toList=48::(c::r):=by
   rw[Str.cps_append,Array.toList_append,e];rfl
  have el:(("0":Str)++J9 (cell/4%d)).length=1+(J9 (cell/4%d)).length:=YC _ _
  refine Z4 (ei _ _ k1) ⟨_,rfl,⟨by decide,by decide⟩,⟨by decide,by decide,by decide⟩,ZNB rfl,λp hp=>⟨_,rfl,⟨by decide,by decide⟩,by decide,_,_,Zj,hd,d1,.inl ⟨_,rfl,Hk (by omega),Jr ?_,?_⟩⟩⟩
  ·show 1+(J9 (cell/4%d)).length<=100000
   omega
  ·refine q _ _ (Ex.new hp) (yr ec (λd hd=>?_) ?_ (.inr ⟨rfl,by simp⟩))
   ·rw[Str.cps_append,Array.toList_append] at hd
    rcases XS.mp hd with h | h
    ·rw[XQ.mp h];decide+kernel
    ·exact f1 d h
   ·exact Nat.le_trans (Nat.le_of_eq el) (by omega)
 refine Z5 (en _ _ k1) ⟨_,rfl,⟨by decide,by decide⟩,?_⟩
 refine zb (Y5 (Zd Zw (Zd Zw (Zd Zw (Zd Zw (Zd Zw (Zd Zw (Zd Zw (Zd Zw (Zd Zw (Zd Zw Y6)))))))))) (ZNB rfl)) λp C1 h1 hp=>?_
 refine zb (Y1 (Ee rfl hp) (Y5 (Zd Zw (Zd Zw Y6)) (ZNB rfl)) (ZNB rfl)) λp C2 h2 hp=>?_
 refine zb (Y1 (Ee rfl hp) (Y5 (Zd Zw (Zd Zw (Zd Zw (Zd Zw (Zd Zw (Zd Zw (Zd Zw (Zd Zw (Zd Zw (Zd Zw (Zd Zw (Zd Zw (Zd Zw (Zd Zw (Zd Zw Y6))))))))))))))) (ZNB rfl)) (ZNB rfl)) λp C3 h3 hp=>?_
 have hE:Ex C C3:=h1.trans (h2.trans h3)
 have hp:C3 p=some (.lst (zL.map T.str)):=hp
 obtain⟨w,hw,mw⟩:=uR (zs:=zL) (i:=cell/4%27) (by omega) (by show _<(27:Int);omega)
 refine⟨_,rfl,_,rfl,by decide,_,_,hp,hw,_,rfl,N4 rfl ⟨_,rfl,?_⟩⟩
 have hc:=List.all_eq_true.mp wm.1 w mw
 by_cases k2:w="nil"
 ·exact Z4 (by simpa using k2) (q _ _ hE (Cd wm.2))
 ·have z:(w==("nil":Str))=false:=by simpa using k2
  rw[z,Bool.false_or] at hc
  exact Z5 z ⟨_,rfl,q _ _ hE (Cd hc)⟩
end
def Ax {w:Str}(h1:w.length<=20)(hc:∀c∈w.cps.toList,c<1000)(hi:W3 w=true->∃v,intText? w=some v):Wk w:=by
 have hr:=PySem.StrLaws.reprText_len w λc hm=>XG (hc c hm) (by decide)
 exact⟨by omega,by omega,hi⟩
def Eo:Wk "("/\Wk ")":=⟨Ax (by decide) (by decide) λz=>absurd z (by decide+kernel),Ax (by decide) (by decide) λz=>absurd z (by decide+kernel)⟩
def tP {f:Nat}{t:Tr}(h:Wt f t):∀w∈fl t,Wk w:=by
 induction h with
 | w h=>intro w hw;rw[X1] at hw;rw[XQ.mp hw];exact h
 | @n f ts hl h ih=>
  intro w hw
  rw[Vc] at hw
  rcases List.mem_cons.mp hw with rfl | hw
  ·exact Eo.1
  rcases XS.mp hw with hw | hw
  ·obtain⟨t,ht,e⟩:=N2 hw
   exact ih t ht w e
  ·rw[XQ.mp hw];exact Eo.2
def u6:∀t:Tr,1<=(fl t).length
 | .w x=>by rw[X1];exact XE _
 | .n ts=>by rw[Vc,YF];omega
def ye:∀ts:List Tr,ts.length<=(fls ts).length
 | []=>by rw[Xf];exact XE _
 | t::ts=>by have:=ye ts;have:=u6 t;rw[J4,List.length_append,YF];omega
def yd {w:Str}{t:Tr}:∀{ts:List Tr},t∈ts->w∈fl t->w∈fls ts
 | u::ts,hm,h=>by
  rw[J4]
  rcases List.mem_cons.mp hm with rfl | hm
  ·exact List.mem_append_left _ h
  ·exact XT _ (yd hm h)
def xV {t:Tr}:∀{ts:List Tr},t∈ts->(fl t).length<=(fls ts).length
 | u::ts,hm=>by
  rw[J4,List.length_append]
  rcases List.mem_cons.mp hm with rfl | hm
  ·omega
  ·have:=xV hm;omega
def zJ {t:Tr}:∀{ts:List Tr},t∈ts->lv t<=lvs ts
 | u::ts,hm=>by
  rw[lvs]
  rcases List.mem_cons.mp hm with rfl | hm
  ·omega
  ·have:=zJ hm;omega
def xE:∀(f:Nat) (t:Tr),lv t<=f->(∀w∈fl t,Wk w)->(fl t).length<=500->Wt f t
 | f,.w x,_,h,_=>.w (h x (by rw[X1];exact .head _))
 | 0,.n ts,hl,_,_=>by rw[lv] at hl;omega
 | f+1,.n ts,hl,h,hn=>by
  rw[lv] at hl
  rw[Vc,YF,List.length_append] at hn
  have:=ye ts
  refine .n (by omega) λt ht=>xE f t ?_ (λw hw=>h w ?_) ?_
  ·have:=zJ ht;omega
  ·rw[Vc];exact .tail _ (List.mem_append_left _ (yd ht hw))
  ·have:=xV ht;omega
def Io:∀{ts us:List Tr},Nbs ts->Nbs us->Nbs (ts++us)
 | [],us,_,h=>h
 | t::ts,us,h,h2=>by
  unfold Nbs at h
  show Nbs (t::(ts++us))
  unfold Nbs
  exact⟨h.1,Io h.2 h2⟩
def xQ {t:Tr}(h:Nb t):Nbs [t]:=by unfold Nbs;exact⟨h,by unfold Nbs;trivial⟩
def jl {S S':List (List Tr)}{w:Str}(hS:∀t∈S,Nbs t)(h:Ye S w=some S'):∀t∈S',Nbs t:=by
 unfold Ye at h
 by_cases c1:w="("
 ·rw[XY c1] at h;cases h
  intro t ht
  rcases List.mem_cons.mp ht with rfl | ht
  ·unfold Nbs;trivial
  ·exact hS t ht
 rw[XX c1] at h
 by_cases c2:w≠")"
 ·rw[XY c2] at h
  cases S with
  | nil=>cases h
  | cons u r=>
   cases h
   intro t ht
   rcases List.mem_cons.mp ht with rfl | ht
   ·exact Io (hS u (.head _)) (xQ (by unfold Nb;exact⟨c1,c2⟩))
   ·exact hS t (.tail _ ht)
 ·rw[XX c2] at h
  match S,h,hS with
  | u::v::r,h,hS=>
   cases h
   intro t ht
   rcases List.mem_cons.mp ht with rfl | ht
   ·exact Io (hS v (.tail _ (.head _))) (xQ (by unfold Nb;exact hS u (.head _)))
   ·exact hS t (.tail _ (.tail _ ht))
def zm:∀{ws:List Str} {S S':List (List Tr)},(∀t∈S,Nbs t)->Rd.run ws S=some S'->∀t∈S',Nbs t
 | [],S,S',hS,h=>by cases h;exact hS
 | w::ws,S,S',hS,h=>by
  have e:Rd.run (w::ws) S=(Ye S w).bind (Rd.run ws):=rfl
  rw[e] at h
  cases hs:Ye S w with
  | none=>rw[hs] at h;cases h
  | some S1=>rw[hs] at h;exact zm (jl hS hs) h
def ji {ws:List Str}{τ:Tr}(h:Wb ws=some τ):Nb τ:=by
 have:=zm (λt ht=>by rw[XQ.mp ht];unfold Nbs;trivial) (Ni h) [τ] (.head _)
 unfold Nbs at this
 exact this.1
def zK {τ:Tr}(h:Nb τ):lv τ=Om (fl τ) 0 0:=by
 have:=zG h [] 0 0
 rw[YK] at this
 rw[this]
 show lv τ=max 0 (if lv τ=0 then 0 else 0+lv τ)
 split<;>omega
structure Sx (ws:List Str):Prop where
 bad:Wb ws=none\/((∃w∈ws,xB w)/\Om ws 0 0<=14)
 wd:∀w∈ws,gb w/\Wk w
 len:ws.length<=400
def Vp {w:Str}(h:w≠"("/\w≠")"):∀(ws vs:List Str) (c m:Nat),Om (ws++w::vs) c m=Om (ws++vs) c m
 | [],vs,c,m=>by
  show Om (w::vs) c m=_
  rw[Om,XX h.1,XX h.2];rfl
 | x::ws,vs,c,m=>by
  show Om (x::(ws++w::vs)) c m=Om (x::(ws++vs)) c m
  rw[Om,Om,Vp h,Vp h,Vp h]
def Bw.ok {w:Str}(b:Bw w):gb w/\Wk w:=⟨.inr (.inr b.gd),Ax (Rj b.gd).2.1 b.lo λz=>by rw[b.no] at z;cases z⟩
section
variable {j:Nat}{ws:List Str}(W:Wo j ws)(hj:j<=7)
include W hj
def O9:(∀w∈ws,gb w/\Wk w)/\ws.length<=150/\Om ws 0 0<=14/\ws.count (")":Str)=ws.count ("(":Str):=by
 obtain⟨⟨τ,rfl,G,hr,hh,hl⟩,hlen,hb⟩:=W
 refine⟨λw hw=>⟨G.gb w hw,tP G.wt w hw⟩,by omega,?_,Iw (Et G.nb)⟩
 rw[<-zK G.nb];omega
def sA {k:Nat}{b:Str}(hb:b="("\/b=")"):Sx (ws.take k++[b]++ws.drop k):=by
 obtain⟨h1,h2,h3,h4⟩:=O9 W hj
 refine⟨.inl (Iv ?_),λw hw=>?_,?_⟩
 ·have e1:∀c:Str,(ws.take k++[b]++ws.drop k).count c=ws.count c+[b].count c:=λc=>by
   conv=>rhs;rw[<-List.take_append_drop k ws]
   simp only[List.count_append];omega
  rw[e1,e1,h4]
  rcases hb with rfl | rfl
  ·rw[show([("(":Str)]).count (")":Str)=0 by decide,show([("(":Str)]).count ("(":Str)=1 by decide];omega
  ·rw[show([(")":Str)]).count (")":Str)=1 by decide,show([(")":Str)]).count ("(":Str)=0 by decide];omega
 ·rcases XS.mp hw with hw | hw
  ·rcases XS.mp hw with hw | hw
   ·exact h1 w (List.mem_of_mem_take hw)
   ·rw[XQ.mp hw]
    rcases hb with rfl | rfl
    ·exact⟨.inl rfl,Eo.1⟩
    ·exact⟨.inr (.inl rfl),Eo.2⟩
  ·exact h1 w (List.mem_of_mem_drop hw)
 ·simp;omega
def wT {k:Nat}{b:Str}(hk:ws[k]?=some b)(hb:b="("\/b=")"):Sx (ws.take k++ws.drop (k+1)):=by
 obtain⟨h1,h2,h3,h4⟩:=O9 W hj
 refine⟨.inl (Iv ?_),λw hw=>?_,?_⟩
 ·have e1:∀c:Str,ws.count c=(ws.take k++ws.drop (k+1)).count c+[b].count c:=λc=>by
   have e:ws=ws.take k++b::ws.drop (k+1):=by
    have hi:=(List.getElem?_eq_some_iff.mp hk)
    obtain⟨hi,e⟩:=hi
    conv=>lhs;rw[<-List.take_append_drop k ws,List.drop_eq_getElem_cons hi,e]
   conv=>lhs;rw[e]
   simp only[List.count_append,List.count_cons,List.count_nil];omega
  rw[e1,e1 "("] at h4
  rcases hb with rfl | rfl
  ·rw[show([("(":Str)]).count (")":Str)=0 by decide,show([("(":Str)]).count ("(":Str)=1 by decide] at h4;omega
  ·rw[show([(")":Str)]).count (")":Str)=1 by decide,show([(")":Str)]).count ("(":Str)=0 by decide] at h4;omega
 ·rcases XS.mp hw with hw | hw
  ·exact h1 w (List.mem_of_mem_take hw)
  ·exact h1 w (List.mem_of_mem_drop hw)
 ·simp;omega
def wV {k:Nat}{b:Str}(hb:Bw b):Sx (ws.take k++[b]++ws.drop k):=by
 obtain⟨h1,h2,h3,h4⟩:=O9 W hj
 refine⟨.inr ⟨⟨b,by simp,hb.d⟩,?_⟩,λw hw=>?_,?_⟩
 ·rw[YL]
  show Om (ws.take k++b::ws.drop k) 0 0<=14
  rw[Vp hb.d.nb,List.take_append_drop];exact h3
 ·rcases XS.mp hw with hw | hw
  ·rcases XS.mp hw with hw | hw
   ·exact h1 w (List.mem_of_mem_take hw)
   ·rw[XQ.mp hw];exact hb.ok
  ·exact h1 w (List.mem_of_mem_drop hw)
 ·simp;omega
def wS {k:Nat}{a b:Str}(hk:ws[k]?=some a)(ha:a≠"("/\a≠")")(hb:Bw b):Sx (ws.take k++[b]++ws.drop (k+1)):=by
 obtain⟨h1,h2,h3,h4⟩:=O9 W hj
 refine⟨.inr ⟨⟨b,by simp,hb.d⟩,?_⟩,λw hw=>?_,?_⟩
 ·have e:ws=ws.take k++a::ws.drop (k+1):=by
   obtain⟨hi,e⟩:=(List.getElem?_eq_some_iff.mp hk)
   conv=>lhs;rw[<-List.take_append_drop k ws,List.drop_eq_getElem_cons hi,e]
  rw[YL]
  show Om (ws.take k++b::ws.drop (k+1)) 0 0<=14
  rw[Vp hb.d.nb,<-Vp ha,<-e];exact h3
 ·rcases XS.mp hw with hw | hw
  ·rcases XS.mp hw with hw | hw
   ·exact h1 w (List.mem_of_mem_take hw)
   ·rw[XQ.mp hw];exact hb.ok
  ·exact h1 w (List.mem_of_mem_drop hw)
 ·simp;omega
def wR:Sx (ws++ws):=by
 obtain⟨h1,h2,h3,h4⟩:=O9 W hj
 obtain⟨⟨τ,rfl,G,_⟩,_,_⟩:=W
 exact⟨.inl (Fm G.nb),λw hw=>(XS.mp hw).elim (h1 w) (h1 w),by rw[List.length_append];omega⟩
end
def wU:Sx []:=⟨.inl A6,(λ_ h=>nomatch h),XO _⟩
def zR {w:Str}(h:gb w):(!(Builtin.Str.occurrences ("()":Str) w 0 ("()":Str).length 1).isEmpty)=decide (w="("\/w=")"):=by
 rcases h with rfl | rfl | h
 ·decide+kernel
 ·decide+kernel
 ·obtain⟨h0,_,h2⟩:=Rj h
  have hn:¬(w="("\/w=")"):=by
   rintro(rfl | rfl)
   ·exact(h2 40 (by decide)).2.1 rfl
   ·exact(h2 41 (by decide)).2.2.1 rfl
  rw[YG hn,Bool.eq_false_iff]
  intro z
  obtain⟨i,hi,hs⟩:=(PySem.StrLaws.found_iff _ _).mp z
  unfold Builtin.Str.subAt at hs
  have e:(("()":Str).cps.extract i (i+w.length))=w.cps:=eq_of_beq hs
  obtain⟨c,r,hc⟩:=List.exists_cons_of_ne_nil h0
  have hm:c∈(("()":Str).cps.extract i (i+w.length)).toList:=by rw[e,hc];exact .head _
  rw[Array.toList_extract] at hm
  have hm2:c∈("()":Str).cps.toList:=List.mem_of_mem_drop (List.mem_of_mem_take hm)
  have hm3:c=40\/c=41:=by
   have:("()":Str).cps.toList=[40,41]:=rfl
   rw[this] at hm2
   simpa using hm2
  have:=h2 c (by rw[hc];exact .head _)
  omega
def y8 {α:Type}{l:List α}{k:Nat}:Ef l none (some (k:Int))=l.take k:=by
 unfold Ef
 rw[HT.sIx_none,HT.sIx_nat,List.drop_zero,Nat.sub_zero]
 by_cases h:k<=l.length
 ·rw[Nat.min_eq_left h]
 ·rw[Nat.min_eq_right (by omega),List.take_length,List.take_of_length_le (by omega)]
def Gq {α:Type}{l:List α}{k:Nat}:Ef l (some (k:Int)) none=l.drop k:=by
 unfold Ef
 rw[HT.sIx_none,HT.sIx_nat]
 by_cases h:k<=l.length
 ·rw[Nat.min_eq_left h];exact List.take_of_length_le (by rw[List.length_drop];exact XE _)
 ·rw[Nat.min_eq_right (by omega),List.drop_length,List.drop_of_length_le (by omega),List.take_nil]
def brk (ws:List Str)(i:Nat):Bool:=match ws[i]? with
 | some w=>decide (w="("\/w=")")
 | none=>false
def j9 (ws:List Str)(neg:Bool):T->Option T
 | .int k=>if (brk ws k.toNat !=neg)=true then some (.int k) else none
 | _=>none
section
variable {C:Hw}{Q:WK}{χ:WX}{n i:Nat}{τ:Sw}{D:We}{ws:List Str}{p:Addr}
def sL {neg:Bool}{Z9:Sw}(hp:C p=some (.lst (ws.map T.str)))(hl:ws.length<=500)(hg:∀w∈ws,gb w)
  (q:∀L:List T,(∀t∈L,∃(i:Nat) (w:Str),t=.int (i:Nat)/\ws[i]?=some w/\decide (w="("\/w=")")=!neg)->(∀(i:Nat) (w:Str),ws[i]?=some w->decide (w="("\/w=")")=(!neg)->T.int (i:Nat)∈L)->L.length<=500->∀a,C a=none->Q (.ref a) (up C a (.lst L))):
  Qp [none,some 0] (qJ (Z2 (uE yD (Z2 (Zu 0) Jl)) Jl)) (T5 0) (Fb (Yo (Lx neg) (Yo S6 (Zu 1) (Zu 0)) (eC (.str "()")))) (Zu 0) (some (.ref p)::Z9) C Q χ:=by
 have hlen:(ws.map T.str).length=ws.length:=XI _
 refine⟨_,rfl,_,rfl,_,hp,_,rfl,by omega,by omega,?_⟩
 have hN:((ws.map T.str).length:Int).toNat=ws.length:=by rw[hlen];rfl
 rw[hN]
 refine D8 (j9 ws neg) trivial (by rw[O1];exact Jr (by omega)) (λx hx R N h1 h2=>?_) λa ha=>?_
 ·obtain⟨i,hj⟩:=List.mem_iff_getElem?.mp hx
  obtain⟨hi,rfl⟩:=Kn hj
  have hw:ws[i]?=some ws[i]:=List.getElem?_eq_getElem hi
  have hat:Ub (ws.map T.str) (0+(i:Int))=some (.str ws[i]):=by
   rw[Int.zero_add]
   have:Ub (ws.map T.str) ((i:Nat):Int)=(ws.map T.str)[i]?:=by
    unfold Ub zO
    rw[hlen]
    simp[hi]
   rw[this,XM,hw];rfl
  have hb:brk ws (0+(i:Int)).toNat=decide (ws[i]="("\/ws[i]=")"):=by
   have:(0+(i:Int)).toNat=i:=by omega
   rw[this]
   unfold brk
   rw[hw]
  have hin:=zR (hg _ (YN hi))
  have fin:∀b:Bool,b=(brk ws (0+(i:Int)).toNat !=neg)->(if b=true then R (.int (0+(i:Int))) C else N C):=λb e=>by
   subst e
   by_cases c:(brk ws (0+(i:Int)).toNat !=neg)=true
   ·rw[XY c];exact h1 _ (XY c)
   ·rw[XX c];exact h2 (XX c)
  refine⟨_,rfl,_,rfl,_,_,hp,hat,_,rfl,?_⟩
  have key:∀b:Bool,b=(brk ws (0+(i:Int)).toNat !=neg)->(if b=true then Zu 0 [some (.int (0+(i:Int))),some (.ref p)] C R χ else N C):=λb e=>by
   have:=fin b e
   cases b with
   | true=>exact⟨_,rfl,this⟩
   | false=>exact this
  refine key _ ?_
  rw[hin,hb]
  cases neg<;>simp
 ·refine q _ (λt ht=>?_) (λi w hw e=>?_) ?_ a ha
  ·obtain⟨x,hx,e⟩:=List.mem_filterMap.mp ht
   obtain⟨i,hj⟩:=List.mem_iff_getElem?.mp hx
   obtain⟨hi,rfl⟩:=Kn hj
   unfold j9 at e
   dsimp only at e
   split at e
   ·rename_i c
    cases e
    have h0:(0+(i:Int)).toNat=i:=by omega
    rw[h0] at c
    unfold brk at c
    rw[List.getElem?_eq_getElem hi] at c
    refine⟨i,ws[i],by rw[Int.zero_add],List.getElem?_eq_getElem hi,?_⟩
    cases neg<;>simpa using c
   ·cases e
  ·have hi:=(List.getElem?_eq_some_iff.mp hw).1
   refine List.mem_filterMap.mpr ⟨.int (0+(i:Int)),?_,?_⟩
   ·have:(rng 0 ws.length)[i]?=some (.int (0+(i:Int))):=by unfold rng;simp[hi]
    exact List.mem_of_getElem? this
   ·unfold j9
    dsimp only
    have h0:(0+(i:Int)).toNat=i:=by omega
    have:brk ws i=!neg:=by unfold brk;rw[hw];exact e
    rw[h0,this,XY (by cases neg<;>rfl),Int.zero_add]
  ·have:=List.length_filterMap_le (j9 ws neg) (rng 0 ws.length)
   rw[O1] at this
   omega
def zc {neg:Bool}{Z9:Sw}{jj:Nat}{r:WS}(hp:C p=some (.lst (ws.map T.str)))(hl:ws.length<=500)(hg:∀w∈ws,gb w)
  (q:∀L:List T,(∀t∈L,∃(i:Nat) (w:Str),t=.int (i:Nat)/\ws[i]?=some w/\decide (w="("\/w=")")=!neg)->(∀(i:Nat) (w:Str),ws[i]?=some w->decide (w="("\/w=")")=(!neg)->T.int (i:Nat)∈L)->L.length<=500->∀a,C a=none->r D ((some (.ref p)::Z9).set jj (some (.ref a))) (up C a (.lst L))):
  Sg (W1 (Qp [none,some 0] (qJ (Z2 (uE yD (Z2 (Zu 0) Jl)) Jl)) (T5 0) (Fb (Yo (Lx neg) (Yo S6 (Zu 1) (Zu 0)) (eC (.str "()")))) (Zu 0)) (T5 jj)) r D (some (.ref p)::Z9) C:=by
 show Qp _ _ _ _ _ (some (.ref p)::Z9) C (λx C1=>r D ((some (.ref p)::Z9).set jj (some x)) C1) D.xc
 exact sL hp hl hg q
def O4 {k:Nat}(h0:τ[0]?=some (some (.ref p)))(hp:C p=some (.lst (ws.map T.str)))(h4:τ[4]?=some (some (.int k))):EL (rW (Zu 0) rq (Hh (Zu 4))) (ws.take k) τ χ C:=λC' Q hE q=>
 ⟨_,h0,_,h4,_,rfl,_,hE _ _ hp,λa ha=>by rw[y8];exact q a _ (Ex.new ha) (by rw[Zj,List.map_take])⟩
def D1 {k:Nat}(h0:τ[0]?=some (some (.ref p)))(hp:C p=some (.lst (ws.map T.str)))(h4:τ[4]?=some (some (.int k))):EL (rW (Zu 0) (Hh (Zu 4)) rq) (ws.drop k) τ χ C:=λC' Q hE q=>
 ⟨_,h0,_,h4,_,rfl,_,hE _ _ hp,λa ha=>by rw[Gq];exact q a _ (Ex.new ha) (by rw[Zj,List.map_drop])⟩
def Gf {k:Nat}(h0:τ[0]?=some (some (.ref p)))(hp:C p=some (.lst (ws.map T.str)))(h4:τ[4]?=some (some (.int k))):EL (rW (Zu 0) (Hh (Yo Sf (Zu 4) (eC (.int 1)))) rq) (ws.drop (k+1)) τ χ C:=λC' Q hE q=>
 ⟨_,h0,_,h4,_,rfl,_,hE _ _ hp,λa ha=>by
  have e:((k:Int)+1)=((k+1:Nat):Int):=rfl
  rw[e,Gq];exact q a _ (Ex.new ha) (by rw[Zj,List.map_drop])⟩
def Dg {m:Nat}{e1 e3:WE}{xs ys:List Str}{cell:Int}(h0:0<=cell)(h3:τ[3]?=some (some (.int cell)))(h1:EL e1 xs τ D.xc C)(h2:EL e3 ys τ D.xc C)(hl:xs.length+1+ys.length<=50000)
  (q:∀w a C',Bw w->Ex C C'->C' a=some (.lst ((xs++[w]++ys).map T.str))->D.rt (.ref a) C'):Pj (Yo Sf (Yo Sf e1 (ym (Z2 (Jp (Xo pr (m+1)) 22 (Z2 (Zu 3) Jl)) Jl))) e3) D τ C:=by
 refine h1 C _ (Ex.refl C) λp1 C1 E1 hp1=>⟨_,h3,?_⟩
 dsimp only[Jl]
 refine sN h0 λw C2 E2 hw=>⟨ZNB rfl,λp2 hp2=>⟨_,_,(Ex.new hp2) _ _ (E2 _ _ hp1),Zj,Jr (by rw[XI];show xs.length+1<=_;omega),λp3 hp3=>?_⟩⟩
 have E3:Ex C (up (up C2 p2 (.lst [.str w])) p3 (.lst (xs.map T.str++[.str w]))):=E1.trans (E2.trans ((Ex.new hp2).trans (Ex.new hp3)))
 refine h2 _ _ E3 λp4 C4 E4 hp4=>⟨_,_,E4 _ _ Zj,hp4,Jr (by rw[List.length_append,XI,XI];show xs.length+1+ys.length<=_;omega),λp5 hp5=>?_⟩
 refine q w p5 _ hw (E3.trans (E4.trans (Ex.new hp5))) ?_
 rw[Zj,XL,XL];rfl
def qg {d:Int}:∃c,Ub (Str.ofString "()").cps.toList (d%2)=some c/\((⟨#[c]⟩:Str)="("\/(⟨#[c]⟩:Str)=")"):=by
 have e:(Str.ofString "()").cps.toList.length=2:=by decide+kernel
 obtain⟨c,h,m⟩:=Ua (xs:=(Str.ofString "()").cps.toList) (i:=d%2) (by omega) (by rw[e];omega)
 have key:∀c∈(Str.ofString "()").cps.toList,((⟨#[c]⟩:Str)="("\/(⟨#[c]⟩:Str)=")"):=by decide+kernel
 exact⟨c,h,key c m⟩
def zi {j:Nat}{way place cell:Int}(W:Wo j ws)(hj:j<=7)(hp:C p=some (.lst (ws.map T.str)))(h1:0<=place)(h2:0<=cell)(q:∀a C' ws',Ex C C'->C' a=some (.lst (ws'.map T.str))->Sx ws'->Q (.ref a) C'):Xo pr (n+2) Mt [.ref p,.int way,.int place,.int cell] C Q χ:=by
 obtain⟨w1,w2,w3,w4⟩:=O9 W hj
 have hlen:((ws.map T.str).length:Int)=(ws.length:Int):=by rw[XI]
 have a0:0<=place%((ws.map T.str).length+1:Int):=YO _ (by omega)
 have a1:place%((ws.map T.str).length+1:Int)<((ws.map T.str).length+1:Int):=Int.emod_lt_of_pos _ (by omega)
 refine Mo rfl ⟨_,rfl,_,rfl,_,rfl,_,hp,by omega,?_⟩
 obtain⟨k,hk⟩:∃k:Nat,place%((ws.map T.str).length+1:Int)=(k:Int):=⟨(place%((ws.map T.str).length+1:Int)).toNat,by omega⟩
 rw[hk]
 have hk1:k<=ws.length:=by omega
 show Sg _ _ _ [some (.ref p),some (.int way),some (.int place),some (.int cell),some (.int k),none,none] C
 refine zc (neg:=false) hp (by omega) (λw hw=>(w1 w hw).1) λL l1 l2 l3 a5 h5=>?_
 refine zc (neg:=true) ((Ex.new h5) _ _ hp) (by omega) (λw hw=>(w1 w hw).1) λM m1 m2 m3 a6 h6=>?_
 have hE:Ex C (up (up C a5 (.lst L)) a6 (.lst M)):=(Ex.new h5).trans (Ex.new h6)
 have hp':=hE _ _ hp
 have h5':(up (up C a5 (.lst L)) a6 (.lst M)) a5=some (.lst L):=(Ex.new h6) _ _ Zj
 have h6':(up (up C a5 (.lst L)) a6 (.lst M)) a6=some (.lst M):=Zj
 generalize up (up C a5 (.lst L)) a6 (.lst M)=C6 at hE hp' h5' h6'
 obtain⟨c,hc,hb⟩:=qg (d:=cell)
 have xb:EV (Yo S6 (eC (.str "()")) (Yo Cu (Zu 3) (eC (.int 2)))) (.str ⟨#[c]⟩) [some (T.ref p),some (.int way),some (.int place),some (.int cell),some (.int k),some (.ref a5),some (.ref a6)] χ C6:=λC' Q hE q=>⟨_,rfl,by decide,Jr (by decide+kernel),c,hc,q⟩
 refine zd rfl (λ_=>Fs (Y1 (Y1 (O4 (p:=p) rfl hp' rfl) (Y5 (Zd xb Y6) (by simp)) (by simp;omega)) (D1 (p:=p) rfl hp' rfl) (by simp;omega)) λa C' E' ha=>q a C' _ (hE.trans E') ha (sA W hj hb)) λ_=>?_
 have last:∀D:We,D.rt=Q->D.xc=χ->∀x4,Pf (Xo pr (n+1)) D [some (T.ref p),some (.int way),some (.int place),some (.int cell),x4,some (.ref a5),some (.ref a6)] C6:=by
  rintro D hD hX x4
  obtain⟨nx,rt,bk,ct,xc⟩:=D
  cases hD
  cases hX
  refine⟨XO _,λb1 g1=>⟨_,rfl,_,rfl,_,_,(Ex.new g1) _ _ hp',(Ex.new g1) _ _ hp',Jr (by rw[XI];omega),λb2 g2=>⟨ZNB rfl,λb3 g3=>?_⟩⟩⟩
  have e:cell%2=0\/cell%2=1:=by omega
  have E1:=(Ex.new (o:=O.lst []) g1)
  have E2:=(Ex.new (o:=O.lst (ws.map T.str++ws.map T.str)) g2)
  have E3:=(Ex.new (o:=O.lst [.ref b1,.ref b2]) g3)
  rcases e with e | e
  ·refine⟨_,rfl,by decide,_,.ref b1,Zj,?_⟩
   rw[e]
   exact⟨rfl,q b1 _ [] (hE.trans (E1.trans (E2.trans E3))) (E3 _ _ (E2 _ _ Zj)) wU⟩
  ·refine⟨_,rfl,by decide,_,.ref b2,Zj,?_⟩
   rw[e]
   exact⟨rfl,q b2 _ (ws++ws) (hE.trans (E1.trans (E2.trans E3))) (by rw[XL];exact E3 _ _ Zj) (wR W hj)⟩
 have t3:∀D:We,D.rt=Q->D.xc=χ->Pe (Xo pr (n+1)) D [some (T.ref p),some (.int way),some (.int place),some (.int cell),some (.int k),some (.ref a5),some (.ref a6)] C6:=by
  rintro D hD hX
  obtain⟨nx,rt,bk,ct,xc⟩:=D
  cases hD
  cases hX
  refine zd rfl (λ_=>Dg h2 rfl (O4 (p:=p) rfl hp' rfl) (D1 (p:=p) rfl hp' rfl) (by simp;omega) λw a C' hw E' ha=>q a C' _ (hE.trans E') ha (wV W hj hw)) λ_=>?_
  refine zd rfl (λ_=>?_) λ_=>last _ rfl rfl _
  have hM:0<M.length:=by
   obtain⟨w,hw,hb⟩:=W.nb
   obtain⟨i,hi⟩:=List.mem_iff_getElem?.mp hw
   have:=m2 i w hi (by rw[YG (by rintro(z | z);exact hb.1 z;exact hb.2 z)];rfl)
   exact List.length_pos_of_mem this
  obtain⟨t,ht,mt⟩:=Ua (xs:=M) (i:=place%(M.length:Int)) (YO _ (by omega)) (Int.emod_lt_of_pos _ (by omega))
  obtain⟨i,w,rfl,hi,hb⟩:=m1 t mt
  have hb':w≠"("/\w≠")":=by
   have:¬(w="("\/w=")"):=by simpa using hb
   exact⟨λz=>this (.inl z),λz=>this (.inr z)⟩
  have hi':=(List.getElem?_eq_some_iff.mp hi).1
  refine⟨_,rfl,_,rfl,_,rfl,_,rfl,_,h6',by omega,_,_,h6',ht,?_⟩
  exact Dg h2 rfl (O4 (p:=p) rfl hp' rfl) (Gf (p:=p) rfl hp' rfl) (by simp;omega) λw a C' hw E' ha=>q a C' _ (hE.trans E') ha (wS W hj hi hb' hw)
 refine⟨_,rfl,N5 rfl ⟨_,rfl,?_⟩⟩
 by_cases c2:way=2
 ·refine Z4 (by simpa using c2) ⟨_,rfl,_,rfl,_,h5',_,rfl,?_⟩
  by_cases c3:(L.length:Int)>0
  ·obtain⟨t,ht,mt⟩:=Ua (xs:=L) (i:=place%(L.length:Int)) (YO _ (by omega)) (Int.emod_lt_of_pos _ (by omega))
   obtain⟨i,w,rfl,hi,hb⟩:=l1 t mt
   have hb':w="("\/w=")":=by simpa using hb
   refine Z4 (decide_eq_true c3) ⟨_,rfl,_,rfl,_,rfl,_,rfl,_,h5',by omega,_,_,h5',ht,?_⟩
   exact Fs (Y1 (O4 (p:=p) rfl hp' rfl) (Gf (p:=p) rfl hp' rfl) (by simp;omega)) λa C' E' ha=>q a C' _ (hE.trans E') ha (wT W hj hi hb')
  ·exact Z5 (YG c3) (t3 _ rfl rfl)
 ·exact Z5 (by simpa using c2) (Ym (t3 _ rfl rfl))
end
section
variable {C:Hw}{Q:WK}{χ:WX}{n m:Nat}
def M6 {v v':T}{C':Hw}(hz:Fz C v v')(hc:q8 C C')(hr:∀Q χ,Xo pr (m+1) 28 [v'] C' Q χ)(q:∀C2,Ex C C2->Q (.bl true) C2):Xo pr (m+2) Xk [v] C Q χ:=by
 refine Ng rfl ⟨_,rfl,[v'],C',.cons hz .nil,hc,_,.tail _ (.head _),hr _ _,λea hea=>?_⟩
 have f:∀{P':WK},P' (.bl false) (up C ea (.exc "NoText"))->Gh [("NoText",false)] (Zu 1) [some v,some (.ref ea)] (up C ea (.exc "NoText")) P' χ:=λh=>⟨_,rfl,ea,"NoText",false,rfl,Zj,rfl,h⟩
 have F:∀{K:Bool->Hw->Prop},K false (up C ea (.exc "NoText"))->Mp (Gh [("NoText",false)] (Zu 1)) [some v,some (.ref ea)] (up C ea (.exc "NoText")) K χ:=λh=>f ⟨false,rfl,h⟩
 have F3:∀{K:Bool->Hw->Prop},K false (up C ea (.exc "NoText"))->Ix (Mp (Gh [("NoText",false)] (Zu 1))) (Ix (Mp (Gh [("NoText",false)] (Zu 1))) (Mp (Gh [("NoText",false)] (Zu 1)))) [some v,some (.ref ea)] (up C ea (.exc "NoText")) K χ:=λh=>F (Ym (F (Ym (F h))))
 have F2:∀{K:Bool->Hw->Prop},K false (up C ea (.exc "NoText"))->Ix (Mp (Gh [("NoText",false)] (Zu 1))) (Mp (Gh [("NoText",false)] (Zu 1))) [some v,some (.ref ea)] (up C ea (.exc "NoText")) K χ:=λh=>F (Ym (F h))
 have sk:∀{c:WT} {A B:WS} {D:We},(∀{K:Bool->Hw->Prop},K false (up C ea (.exc "NoText"))->c [some v,some (.ref ea)] (up C ea (.exc "NoText")) K χ)->D.xc=χ->B D [some v,some (.ref ea)] (up C ea (.exc "NoText"))->Sg (jr c A Qf) B D [some v,some (.ref ea)] (up C ea (.exc "NoText")):=λ{c A B D} hc hD h=>by
  show c _ _ (λk C1=>if k=true then A _ _ C1 else Qf _ _ C1) D.xc
  rw[hD]
  exact hc (Ym h)
 refine sk F3 rfl (sk F3 rfl (sk F2 rfl ?_))
 exact⟨_,rfl,ea,"NoText",true,rfl,Zj,rfl,true,rfl,X0 ⟨_,rfl,ea,"NoText",true,rfl,Zj,rfl,q _ (Ex.new hea)⟩⟩
def No {v v':T}{C':Hw}{ty:String}(hz:Fz C v v')(hc:q8 C C')(ht:qD v' C' ty)(hs:Qk ty "str"=false)(q:∀C2,Ex C C2->Q (.bl true) C2):Xo pr (m+3) Xk [v] C Q χ:=by
 refine M6 (m:=m+1) hz hc (λQ χ=>?_) q
 exact pH.o_read (n:=m+1) rfl ⟨_,rfl,ty,ht,Qk ty "str",rfl,Z4 (by rw[hs];rfl) (Z8 (n:=m) pH trivial)⟩
def vb {x:Str}{ws:List Str}(S:Sx ws)(hl:x.length<=100000)(h:Nc (fT x.cps.toList)=ws.map λw=>w.cps.toList)(q:∀C2,Ex C C2->Q (.bl true) C2):Xo pr 59 Xk [.str x] C Q χ:=by
 refine M6 (m:=57) (C':=λ_=>none) (.str _) (λa o e=>by cases e) (λQ χ=>?_) q
 have hn:=S.len
 refine zj (f:=14) (m:=57) (W:=λn j=>Xo pr n (j+M)) pH (by decide) hl h (by omega) (λτ e=>?_) (λτ t C' e et _=>?_) (λ_=>trivial) λ_ _ _=>trivial
 ·have hb:=M0 e
  rcases S.bad with z | ⟨_,hv⟩
  ·rw[e] at z;cases z
  ·refine xE 14 τ ?_ (λw hw=>(S.wd w (hb▸hw)).2) (by rw[hb];omega)
   rw[zK (ji e),hb];exact hv
 ·exfalso
  rcases S.bad with z | ⟨⟨w,hw,hd⟩,_⟩
  ·rw[e] at z;cases z
  ·rw[Di hd 14 τ (by rw[M0 e];exact hw)] at et;cases et
end
def Le (x ah:Str):Prop:=(x=""/\ah="")\/∃l c,x.cps.toList=l++[c]/\(c=40↔ah="(")
def ua {x w:Str}(h:gb w):Le (x++w) w:=by
 have key:∃l c,w.cps.toList=l++[c]/\(c=40↔w="("):=by
  rcases h with rfl | rfl | h
  ·exact⟨[],40,rfl,by simp⟩
  ·exact⟨[],41,rfl,by decide⟩
  ·obtain⟨h0,_,h2⟩:=Rj h
   refine⟨w.cps.toList.dropLast,w.cps.toList.getLast h0,(List.dropLast_concat_getLast h0).symm,⟨λe=>?_,λe=>?_⟩⟩
   ·exact absurd e (h2 _ (List.getLast_mem h0)).2.1
   ·subst e;exact absurd rfl (h2 40 (by decide)).2.1
 obtain⟨l,c,e,hc⟩:=key
 exact .inr ⟨x.cps.toList++l,c,by rw[Str.cps_append,Array.toList_append,e,YL],hc⟩
def rM {c:Nat}:(!(Builtin.Str.occurrences ("(":Str) ⟨#[c]⟩ 0 ("(":Str).length 1).isEmpty)=decide (c=40):=by
 rw[PySem.StrLaws.found_one]
 have:("(":Str).cps.toList=[40]:=rfl
 rw[this];simp
def pA {x w:Str}:x++(" ":Str)++w=(x++(" ":Str))++w:=rfl
section
variable {C:Hw}{χ:WX}
def C8 {D:We}{x ah w:Str}{cell:Int}{v0 v1 v3 v4 v5 v6:Option T}(hx:x.length<=90000)(hw:gb w)(hL:Le x ah)(q:∀g,Gp ah w g->g.length<=1->D.nx [v0,v1,some (.int cell),v3,v4,v5,v6,some (.str (x++g++w)),some (.str w)] C):
  Sg (jr (wQ (Fb (Yo xF (Zu 7) (eC (.str "")))) (wQ (Ix (Fb (Yo U1 (Zu 8) (eC (.str "()")))) (Fb (Yo xG (Yo Cu (Yo A2 (Zu 2) (eC (.int 8))) (eC (.int 2))) (eC (.int 1))))) (Fb (Yo U1 (Yo S6 (Zu 7) (uB Ct (eC (.int 1)))) (eC (.str "("))))))
   (W1 (Yo Sf (Zu 7) (eC (.str " "))) (T5 7)) Qf) (W1 (Yo Sf (Zu 7) (Zu 8)) (T5 7)) D [v0,v1,some (.int cell),v3,v4,v5,v6,some (.str x),some (.str w)] C:=by
 have lw:=ya hw
 have e0:x++("":Str)++w=x++w:=by rw[show x++("":Str)=x from O0 (by rw[Str.cps_append,Array.toList_append];simp;rfl)]
 have no:Gp ah w ""->∀C1,C1=C->W1 (Yo Sf (Zu 7) (Zu 8)) (T5 7) D [v0,v1,some (.int cell),v3,v4,v5,v6,some (.str x),some (.str w)] C1:=by
  rintro hg C1 rfl
  exact⟨_,rfl,_,rfl,Jr (by show x.length+w.length<=100000;omega),by have:=q "" hg (by decide);rw[e0] at this;exact this⟩
 have yes:W1 (Yo Sf (Zu 7) (eC (.str " "))) (T5 7) {D with nx:=W1 (Yo Sf (Zu 7) (Zu 8)) (T5 7) D} [v0,v1,some (.int cell),v3,v4,v5,v6,some (.str x),some (.str w)] C:=
  ⟨_,rfl,Jr (by show x.length+1<=100000;omega),_,rfl,_,rfl,Jr (by show(x++(" ":Str)).length+w.length<=100000;rw[YC];show x.length+1+w.length<=_;omega),q " " ⟨by decide,λz=>absurd z (by decide)⟩ (by decide)⟩
 rcases hL with⟨rfl,rfl⟩ | ⟨l,c,hc,hac⟩
 ·exact⟨_,rfl,vT (v:=true) rfl ⟨_,rfl,Ym (Ym (no ⟨by decide,λ_=>.inl (.inl rfl)⟩ C rfl))⟩⟩
 have hne:(x==("":Str))=false:=by
  rw[beq_eq_false_iff_ne]
  rintro rfl
  have:("":Str).cps.toList=[]:=rfl
  rw[this] at hc
  cases l<;>cases hc
 refine⟨_,rfl,vT (v:=false) hne ⟨_,rfl,X0 ⟨_,rfl,?_⟩⟩⟩
 have last:∀C1,C1=C->(Fb (Yo U1 (Yo S6 (Zu 7) (uB Ct (eC (.int 1)))) (eC (.str "(")))) [v0,v1,some (.int cell),v3,v4,v5,v6,some (.str x),some (.str w)] C1 (λk C1=>if k=true then W1 (Yo Sf (Zu 7) (eC (.str " "))) (T5 7) {D with nx:=W1 (Yo Sf (Zu 7) (Zu 8)) (T5 7) D} [v0,v1,some (.int cell),v3,v4,v5,v6,some (.str x),some (.str w)] C1 else W1 (Yo Sf (Zu 7) (Zu 8)) (T5 7) D [v0,v1,some (.int cell),v3,v4,v5,v6,some (.str x),some (.str w)] C1) D.xc:=by
  rintro C1 rfl
  refine⟨_,rfl,Jr (by omega),c,by rw[hc];exact Vs _ _,?_⟩
  show ∃b,_/\_
  refine⟨_,rfl,?_⟩
  show if (!(!(Builtin.Str.occurrences ("(":Str) ⟨#[c]⟩ 0 ("(":Str).length 1).isEmpty))=true then _ else _
  rw[rM]
  by_cases h:c=40
  ·exact Z5 (by rw[decide_eq_true h];rfl) (no ⟨by decide,λ_=>.inl (.inr (.inl (hac.mp h)))⟩ _ rfl)
  ·exact Z4 (by rw[YG h];rfl) yes
 by_cases hb:w="("\/w=")"
 ·show ∃b,_/\_
  refine⟨_,rfl,?_⟩
  show if (!(!(Builtin.Str.occurrences ("()":Str) w 0 ("()":Str).length 1).isEmpty))=true then _ else _
  rw[zR hw]
  refine Z5 (by rw[decide_eq_true hb];rfl) ⟨_,rfl,⟨by decide,by decide⟩,by decide,N5 rfl ⟨_,rfl,?_⟩⟩
  by_cases h1:cell/8%2=1
  ·exact Z4 (by simpa using h1) (last C rfl)
  ·exact Z5 (by simpa using h1) (Ym (no ⟨by decide,λ_=>.inr (.inr hb)⟩ C rfl))
 ·show ∃b,_/\_
  refine⟨_,rfl,?_⟩
  show if (!(!(Builtin.Str.occurrences ("()":Str) w 0 ("()":Str).length 1).isEmpty))=true then _ else _
  rw[zR hw]
  exact Z4 (by rw[YG hb];rfl) (X0 (last C rfl))
def Hl {D:We}(hD:∀C,D.rt (.bl true) C){a:Addr}{ws:List Str}{v0 v1 v3 x5:Option T}{cell way:Int}{j:Nat}(hj:j<=7)(ha:C a=some (.lst (ws.map T.str)))(h:(way>0/\Sx ws)\/(¬way>0/\Wo j ws)):
  Sg (W1 (eC (.str "")) (T5 7)) (Sg (jt (jT (Zu 4)) (T5 8) (Sg (jr (wQ (Fb (Yo xF (Zu 7) (eC (.str "")))) (wQ (Ix (Fb (Yo U1 (Zu 8) (eC (.str "()")))) (Fb (Yo xG (Yo Cu (Yo A2 (Zu 2) (eC (.int 8))) (eC (.int 2))) (eC (.int 1))))) (Fb (Yo U1 (Yo S6 (Zu 7) (uB Ct (eC (.int 1)))) (eC (.str "("))))))
   (W1 (Yo Sf (Zu 7) (eC (.str " "))) (T5 7)) Qf) (W1 (Yo Sf (Zu 7) (Zu 8)) (T5 7))))
   (Sg (jr (Fb (Yo pd (Zu 6) (eC (.int 0)))) (Pj (Jp (Xo pr 59) 24 (Z2 (Zu 7) Jl))) Qf) (Sg (vh (Xo pr 59) (Z2 (Zu 7) Jl) [(1,λ_ _ _=>True),(28,Pj (eC (.bl false)))]) (Pj (eC (.bl true))))))
   D [v0,v1,some (.int cell),v3,some (.ref a),x5,some (.int way),none,none] C:=by
 obtain⟨hg,hn⟩:(∀w∈ws,gb w)/\ws.length<=400:=by
  rcases h with⟨_,S⟩ | ⟨_,W⟩
  ·exact⟨λw hw=>(S.wd w hw).1,S.len⟩
  ·obtain⟨w1,w2,_⟩:=O9 W hj
   exact⟨λw hw=>(w1 w hw).1,by omega⟩
 refine⟨_,rfl,_,ha,?_⟩
 refine K3 (λi σ C'=>∃x ah x8,σ=[v0,v1,some (.int cell),v3,some (.ref a),x5,some (.int way),some (.str x),x8]/\C'=C/\Tx x.cps.toList (ws.take i) ah/\x.length<=25*i/\Le x ah) ⟨"","",none,rfl,rfl,pi,by decide,.inl ⟨rfl,rfl⟩⟩ (λi σ C' _ h=>by obtain⟨_,_,_,_,rfl,_⟩:=h;exact ha) ?_ ?_
 ·rintro i y σ C' N hy ⟨x,ah,x8,rfl,rfl,hT,hl,hL⟩ hN
  rw[XM] at hy
  cases hz:ws[i]? with
  | none=>rw[hz] at hy;cases hy
  | some w=>
   rw[hz] at hy
   cases hy
   have hi:i<ws.length:=(List.getElem?_eq_some_iff.mp hz).1
   have hw:=hg w (List.mem_of_getElem? hz)
   have lw:=ya hw
   refine C8 (by omega) hw hL λg hG lg=>hN _ _ ⟨_,w,_,rfl,rfl,?_,?_,ua hw⟩
   ·rw[YD,hz,Str.cps_append,Str.cps_append,Array.toList_append,Array.toList_append]
    exact jh hT hG hw
   ·rw[YC,YC];omega
 ·rintro σ C' ⟨x,ah,x8,rfl,rfl,hT,hl,hL⟩
  rw[XI] at hl
  rw[XI,List.take_length] at hT
  refine⟨_,rfl,_,rfl,?_⟩
  rcases h with⟨hw,S⟩ | ⟨hw,W⟩
  ·refine Z4 (decide_eq_true hw) ⟨_,rfl,?_⟩
   dsimp only[Jl]
   exact vb S (by omega) hT.wd λC2 _=>hD C2
  ·refine Z5 (YG hw) ⟨_,rfl,?_⟩
   dsimp only[Jl]
   obtain⟨⟨τ,rfl,G,hr,hh,hv⟩,hlen,hb⟩:=W
   have tr:=Et G.nb
   refine⟨[.str x],λ_=>none,.cons (.str _) .nil,(λa o e=>by cases e),_,.head _,?_,trivial⟩
   have hrb:=hr (2*j) (XE _)
   exact zj (f:=2*j) (m:=58) (W:=Xo pr) nX (by omega) (by omega) hT.wd (by omega) (λσ e=>by rw[tr] at e;cases e;exact G.wt) (λσ t C' e et _=>hD _) (λe=>by rw[tr] at e;cases e) (λσ e et=>by rw[tr] at e;cases e;rw[et] at hrb;cases hrb)
def qW:Wo 0 ["x"]:=by
 refine⟨⟨.w "x",by rw[X1],jV (by decide+kernel) (by decide) (λz=>absurd z (by decide+kernel)),λm _=>by rw[zo];decide+kernel,.inl rfl,XO _⟩,by decide,"x",.head _,by decide⟩
def law_true (ns:List Int)(h63:ns.length<=63):Xo pr 60 rP [.cl (ns.map T.int)] (λ_=>none) (λv _=>v=.bl true) (λ_ _=>False):=by
 refine tV rfl ⟨_,rfl,?_⟩
 dsimp only[Jl,Z2,eC]
 refine jq (n:=58) (m:=14) h63 (by decide) λp ds hp hl hn=>?_
 have at_:∀i:Int,0<=i->i<14->∃d,Ub (ds.map T.int) i=some (.int d)/\0<=d:=λi h0 h1=>by
  obtain⟨x,e,m⟩:=Ua (xs:=ds.map T.int) h0 (by rw[XI,hl];exact h1)
  obtain⟨d,hd,rfl⟩:=XR.mp m
  exact⟨d,e,hn d hd⟩
 obtain⟨cell,hc,c0⟩:=at_ 0 (by decide) (by decide)
 obtain⟨d1,hd1,_⟩:=at_ 1 (by decide) (by decide)
 obtain⟨d2,hd2,_⟩:=at_ 2 (by decide) (by decide)
 obtain⟨d3,hd3,z3⟩:=at_ 3 (by decide) (by decide)
 obtain⟨d4,hd4,z4⟩:=at_ 4 (by decide) (by decide)
 have hP:(up (λ_=>none) p (.lst (ds.map T.int)):Hw) p=some (.lst (ds.map T.int)):=Zj
 generalize (up (λ_=>none) p (.lst (ds.map T.int)):Hw)=C0 at hP
 refine⟨_,rfl,_,_,hP,hc,_,rfl,by decide,N5 rfl ⟨_,rfl,?_⟩⟩
 by_cases k7:cell%8=7
 ·refine Z4 (by simpa using k7) ⟨ZNB rfl,λb1 g1=>⟨ZNB rfl,λb2 g2=>⟨ZNB rfl,λb3 g3=>⟨ZNB rfl,λb4 g4=>?_⟩⟩⟩⟩
  have h1:(up (up (up (up C0 b1 (.lst [.str "x"])) b2 (.dic [])) b3 (.lst [.str "(",.str "x",.str "x",.str ")"])) b4 (.lst [.non,.int 5,.bl true,.ref b1,.tup [.str "name",.str "x"],.ref b2,.ref b3])) b1=some (.lst [.str "x"]):=(Ex.new g4) _ _ ((Ex.new g3) _ _ ((Ex.new g2) _ _ Zj))
  have h2:(up (up (up (up C0 b1 (.lst [.str "x"])) b2 (.dic [])) b3 (.lst [.str "(",.str "x",.str "x",.str ")"])) b4 (.lst [.non,.int 5,.bl true,.ref b1,.tup [.str "name",.str "x"],.ref b2,.ref b3])) b2=some (.dic []):=(Ex.new g4) _ _ ((Ex.new g3) _ _ Zj)
  have h3:(up (up (up (up C0 b1 (.lst [.str "x"])) b2 (.dic [])) b3 (.lst [.str "(",.str "x",.str "x",.str ")"])) b4 (.lst [.non,.int 5,.bl true,.ref b1,.tup [.str "name",.str "x"],.ref b2,.ref b3])) b3=some (.lst [.str "(",.str "x",.str "x",.str ")"]):=(Ex.new g4) _ _ Zj
  have h4:(up (up (up (up C0 b1 (.lst [.str "x"])) b2 (.dic [])) b3 (.lst [.str "(",.str "x",.str "x",.str ")"])) b4 (.lst [.non,.int 5,.bl true,.ref b1,.tup [.str "name",.str "x"],.ref b2,.ref b3])) b4=some (.lst [.non,.int 5,.bl true,.ref b1,.tup [.str "name",.str "x"],.ref b2,.ref b3]):=Zj
  generalize (up (up (up (up C0 b1 (.lst [.str "x"])) b2 (.dic [])) b3 (.lst [.str "(",.str "x",.str "x",.str ")"])) b4 (.lst [.non,.int 5,.bl true,.ref b1,.tup [.str "name",.str "x"],.ref b2,.ref b3]))=C4 at h1 h2 h3 h4 |-
  have nz:q8 C4 (λ_=>none):=λa o e=>by cases e
  have odd:∀v:T,Ub [T.non,.int 5,.bl true,.ref b1,.tup [.str "name",.str "x"],.ref b2,.ref b3] (cell/8%7)=some v->∀Q:WK,(∀C2,Q (.bl true) C2)->Xo pr 59 Xk [v] C4 Q (λ_ _=>False):=by
   intro v hv Q q
   have e:cell/8%7=0\/cell/8%7=1\/cell/8%7=2\/cell/8%7=3\/cell/8%7=4\/cell/8%7=5\/cell/8%7=6:=by omega
   rcases e with e | e | e | e | e | e | e<;>rw[e] at hv
   ·cases (show some T.non=some v from hv);exact No (m:=56) .non nz (.inl rfl) rfl λC2 _=>q C2
   ·cases (show some (T.int 5)=some v from hv);exact No (m:=56) (.int 5) nz (.inl rfl) rfl λC2 _=>q C2
   ·cases (show some (T.bl true)=some v from hv);exact No (m:=56) (.bl true) nz (.inl rfl) rfl λC2 _=>q C2
   ·cases (show some (T.ref b1)=some v from hv);exact No (m:=56) (.lst h1 (.cons (.str _) .nil)) nz (.inl rfl) rfl λC2 _=>q C2
   ·cases (show some (T.tup [.str "name",.str "x"])=some v from hv);exact No (m:=56) (.tup (.cons (.str _) (.cons (.str _) .nil))) nz (.inl rfl) rfl λC2 _=>q C2
   ·cases (show some (T.ref b2)=some v from hv)
    refine No (m:=56) (C':=λa=>if a=b2 then some (.fdic []) else none) (.ref b2) (λa o e=>?_) (.inr ⟨b2,[],rfl,XY rfl,rfl⟩) rfl λC2 _=>q C2
    dsimp only at e
    by_cases ha:a=b2
    ·rw[XY ha] at e;cases e;rw[ha];exact⟨rfl,h2⟩
    ·rw[XX ha] at e;cases e
   ·cases (show some (T.ref b3)=some v from hv);exact No (m:=56) (.lst h3 (.cons (.str _) (.cons (.str _) (.cons (.str _) (.cons (.str _) .nil))))) nz (.inl rfl) rfl λC2 _=>q C2
  obtain⟨v,hv,_⟩:=Ua (xs:=[T.non,.int 5,.bl true,.ref b1,.tup [.str "name",.str "x"],.ref b2,.ref b3]) (i:=cell/8%7) (by omega) (by show _<(7:Int);omega)
  refine⟨_,rfl,_,rfl,⟨by decide,by decide⟩,by decide,_,v,h4,hv,?_⟩
  dsimp only[Jl]
  exact odd v hv _ λC2=>rfl
 refine Z5 (by simpa using k7) ⟨ZNB rfl,λa4 g4=>?_⟩
 have hP1:=(Ex.new (o:=O.lst [.str "x"]) g4) _ _ hP
 refine⟨_,rfl,_,_,hP1,hd1,by decide,_,rfl,by omega,by omega,?_⟩
 refine Dx (λi σ C'=>∃a ws x5,σ=[some (.cl (ns.map T.int)),some (.ref p),some (.int cell),none,some (.ref a),x5,none,none,none]/\C' p=some (.lst (ds.map T.int))/\C' a=some (.lst (ws.map T.str))/\Wo i ws) ⟨a4,["x"],none,rfl,hP1,Zj,qW⟩ (λ_=>trivial) ?_ ?_
 ·rintro i σ C' N hi ⟨a,ws,x5,rfl,hP',ha,hW⟩ hN
  have hi7:i<=7:=by omega
  obtain⟨d,hd,z⟩:=at_ (5+(0+(i:Int))) (by omega) (by omega)
  refine⟨_,rfl,_,rfl,_,rfl,_,_,hP',hd,?_⟩
  dsimp only[Jl]
  exact jo (n:=58) z (by omega) ha hW λp' C3 ws' hE3 hp3 hW3=>hN _ _ ⟨p',ws',_,rfl,hE3 _ _ hP',hp3,hW3⟩
 rintro σ C1 ⟨a,ws,x5,rfl,hP2,ha,hW⟩
 have hj7:(d1%8).toNat<=7:=by omega
 generalize (d1%8).toNat=j at hj7 hW
 have w0:0<=d2%6:=by omega
 refine⟨_,rfl,_,_,hP2,hd2,by decide,_,rfl,_,rfl,?_⟩
 by_cases hw:d2%6>0
 ·refine Z4 (decide_eq_true hw) ⟨_,rfl,_,rfl,_,rfl,_,_,hP2,hd3,_,rfl,_,_,hP2,hd4,?_⟩
  dsimp only[Jl]
  exact zi (n:=57) hW hj7 ha z3 z4 λa' C' ws' hE ha' S=>Hl (λ_=>rfl) hj7 ha' (.inl ⟨hw,S⟩)
 ·exact Z5 (YG hw) (Hl (λ_=>rfl) hj7 ha (.inr ⟨hw,hW⟩))
end
end K18
open PySem PySem.W PyProof.Rows
def PySem.W.Fast.tw2951488643190918659:=True
def PySem.W.Fast.tw16601406318965757205:=True
def PySem.W.Fast.tw10169007512319970686:=True
def PySem.W.Fast.tw6084302052911122446:PySem.Program:=PySem.Challenge.pw_idlegraph_k18_bad_words
def PySem.W.Fast.te6084302052911122446:PySem.Challenge.pw_idlegraph_k18_bad_words=PySem.W.Fast.tw6084302052911122446:=rfl
def PySem.W.Fast.tw7747918513211278166:=True
def PySem.W.Fast.tw452392104529394153:=True
def PySem.W.Fast.tw15847194534889503166:=True
def PySem.W.Fast.tw13845938507120507895:=True
def PySem.W.Fast.tw17286270956147388310:=True
def PySem.W.Fast.tw14357193953415399203:=True
def PySem.W.Fast.tw13735053679503587887:=True
def PySem.W.Fast.tw1363263077103611981:=True
def PySem.W.Fast.tw9306605221965173922:=True
def PySem.W.Fast.tw10363856537910468839:=True
def PySem.W.Fast.tw16713151302792870181:=True
def PySem.W.Fast.tw8647207072537935847:=True
def PySem.W.Fast.tw1939099904334349013:=True
def PySem.W.Fast.tw13534417971448465960:=True
def PySem.W.Fast.tw9012357688520822457:=True
def PySem.W.Fast.tw15432815145355759495:=True
def PySem.W.Fast.tw5626009335367427260:=True
def PySem.W.Fast.tw10769685733073393987:=True
def PySem.W.Fast.tw13216750205405627470:=True
def PySem.W.Fast.tw2707449853441412071:=True
def PySem.W.Fast.tw7432083185062077378:=True
def PySem.W.Fast.tw17119643818160780193:=True
def PySem.W.Fast.tw14842329459386474778:=True
def PySem.W.Fast.tw8171227932377653243:=True
def PySem.W.Fast.tw1718776699817531272:=True
def PySem.W.Fast.tw8835846330741510885:=True
def PySem.W.Fast.tw540827569736151515:=True
def PySem.W.Fast.tw10948893211342106936:=True
def PySem.W.Fast.tw10474823808649347014:=True
def PySem.W.Fast.tw11390733886385015867:=True
def PySem.W.Fast.tw6406756953256757832:=True
def PySem.W.Fast.tw17939737173245314760:=True
def PySem.W.Fast.tw551167215622743557:=True
def PySem.W.Fast.tw17856078845350173759:=True
def PySem.W.Fast.tw16233421050977528372:=True
def PySem.W.Fast.tw6330881718395825675:=True
def PySem.W.Fast.tw6039995529153448273:=True
def PySem.W.Fast.tw16711308385230561245:=True
def PySem.W.Fast.tw14480952851775292800:=True
def PySem.W.Fast.tw423124215649974738:=True
def PySem.W.Fast.tw2518285706984832602:=True
def PySem.W.Fast.tw2104241713421146621:=True
def PySem.W.Fast.tw17932545918356972369:=True
def PySem.W.Fast.tw13725098112157471498:=True
def PySem.W.Fast.tw4327955023156331017:=True
def PySem.W.Fast.tw12000557069910629658:=True
def PySem.W.Fast.tw12916365183535118663:=True
def PySem.W.Fast.tw3983947865188233665:=True
def PySem.W.Fast.tw15912234656392630223:=True
def PySem.W.Fast.tw12632540567727773204:=True
def PySem.W.Fast.tw12908048085278975219:=True
def PySem.W.Fast.tw7409978316500326765:=True
def PySem.W.Fast.tw2651756376460966433:=True
def PySem.W.Fast.tw16316400165055222135:=True
def PySem.W.Fast.tw9923419506645494336:=True
def PySem.W.Fast.tw13994076832696884916:=True
def PySem.W.Fast.tw15642141963917614886:=True
def PySem.W.Fast.tw14339478302459356358:=True
def PySem.W.Fast.tw14219487864518600974:=True
def PySem.W.Fast.tw972262488105692643:=True
def PySem.W.Fast.tw16478235474134334427:=True
def PySem.W.Fast.tw7051438584134908316:=True
def PySem.W.Fast.tw2684940547208955226:=True
def PySem.W.Fast.tw6354027719861196892:=True
def PySem.W.Fast.tw6009420306517940424:=True
def PySem.W.Fast.tw12335426522498081430:=True
def PySem.W.Fast.tw7393769307846317325:=True
def PySem.W.Fast.tw13028884285735253216:=True
def PySem.W.Fast.tw16528472691845144209:=True
def PySem.W.Fast.tw2057007226967909472:=True
def PySem.W.Fast.tw5599531276000593444:=True
def PySem.W.Fast.tw10364440331996433248:=True
def PySem.W.Fast.tw13274549063842927575:=True
set_option maxRecDepth 100000 in
set_option maxHeartbeats 0 in
theorem PySem.Challenge.cw_idlegraph_k18_bad_words_holds : PySem.Challenge.rw_idlegraph_k18_bad_words.Holds := by
 w_on;o_law;k_head;(case hw=>w_witness2)
 k_fill
 refine L2.walk_ofK (l:=PySem.Challenge.rw_idlegraph_k18_bad_words) (n:=63) (k:=60) (x:="_law_script") (CX:=L2.CX0) (sp:=λK=>WL.spW K K18.pr 60 25) rfl (by decide) rfl ⟨rfl,by decide,by decide⟩ (λw h Y=>PySem.W.kIn_of Y) ?F (λK H a ns hl hO hS=>WL.law_sp hO hS (K18.law_true ns hl)) (λ_ _ _ _ z=>z)
 case F=>
  intro w mg fa h KX G hmg
  refine' K18.all_mk KX G hmg ?aCN ?xCN ?qCN ?h_IdleError ?xk ?i_NoKind ?i_NoName ?i_NoRow ?i_NoText ?i_NoThing ?i_Ring ?i_Spent ?i_Stopped ?i_Unbound ?i_ValueError ?gg0_l0 ?gg0_l1 ?gg0_l2 ?gg0_l3 ?gg0_l4 ?gg0_l5 ?gg0_l6 ?gg0_l7 ?gg0_l8 ?gg0_l9 ?gg0_l10 ?gg0_l11 ?gg0_l12 ?gg0_l13 ?gg0_l14 ?gg0_l15 ?gg0_l16 ?gg0_l17 ?gg0_l18 ?gg0_l19 ?gg0_l20 ?gg0_l21 ?gg0_l22 ?gg0_l23 ?gg0_l24 ?gg0_l25 ?z_all ?z_int ?z_isinstance ?z_len ?z_max ?z_range ?z_reversed ?z_set ?z_str ?z_tuple ?gg_FIGURES ?r_FIGURES ?gg_LETTERS ?r_LETTERS ?gk_WORDS ?gg_WORDS ?gk_OPS ?gg_OPS ?gg_SHAPES ?gk_SHAPES ?gl_SHAPES ?gg_MOST_FIGURES ?r_MOST_FIGURES ?gg_MOST_PAIRS ?r_MOST_PAIRS ?gk_FAMILIES_2 ?gk_FAMILIES_5 ?gk_FAMILIES_7 ?gk_FAMILIES ?gg_FAMILIES
  case aCN | z_all | z_int | z_isinstance | z_len | z_max | z_range | z_reversed | z_set | z_str | z_tuple=>k_is
  (case xCN=>k_exc)
  (case qCN=>kts_exm)
  (case h_IdleError=>exact⟨_,by k_is,by kts_exm⟩)
  (case xk=>exact⟨by k_is,by k_is,by k_is,by k_is,by k_is,by k_is,by k_is⟩)
  (case i_NoKind=>exact⟨_,by k_is,by kit_is⟩)
  (case i_NoName=>exact⟨_,by k_is,by kit_is⟩)
  (case i_NoRow=>exact⟨_,by k_is,by kit_is⟩)
  (case i_NoText=>exact⟨_,by k_is,by kit_is⟩)
  (case i_NoThing=>exact⟨_,by k_is,by kit_is⟩)
  (case i_Ring=>exact⟨_,by k_is,by kit_is⟩)
  (case i_Spent=>exact⟨_,by k_is,by kit_is⟩)
  (case i_Stopped=>exact⟨_,by k_is,by kit_is⟩)
  (case i_Unbound=>exact⟨_,by k_is,by kit_is⟩)
  (case i_ValueError=>exact⟨by k_is,by kit_is⟩)
  case gg0_l0 | gg0_l1 | gg0_l2 | gg0_l3 | gg0_l4 | gg0_l5 | gg0_l6 | gg0_l7 | gg0_l8 | gg0_l9 | gg0_l10 | gg0_l11 | gg0_l12 | gg0_l13 | gg0_l14 | gg0_l15 | gg0_l16 | gg0_l17 | gg0_l18 | gg0_l19 | gg0_l20 | gg0_l21 | gg0_l22 | gg0_l23 | gg0_l24 | gg0_l25=>exact⟨_,_,by k_is,⟨_,_,_,_,_,_,_,_,_,rfl,by k_is,by k_is⟩,by k_is⟩
  case gg_FIGURES | gg_LETTERS | gg_WORDS | gg_OPS | gg_SHAPES | gg_MOST_FIGURES | gg_MOST_PAIRS | gg_FAMILIES | gk_FAMILIES | gk_FAMILIES_7 | gk_FAMILIES_5 | gk_FAMILIES_2 | gk_SHAPES | gk_OPS | gk_WORDS=>k_is
  (case gl_SHAPES=>exact rfl)
  (case r_FIGURES=>exact⟨_,rfl⟩)
  (case r_LETTERS=>exact⟨_,rfl⟩)
  (case r_MOST_FIGURES=>exact⟨_,rfl⟩)
  (case r_MOST_PAIRS=>exact⟨_,rfl⟩)
