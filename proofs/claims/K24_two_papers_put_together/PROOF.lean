import PyProof.Rows.All
import Wide.All
import OpenK.AllK
import Wide.FinOn
import Lean
import PyProof.EqAt
import PyProof.EqKinds
import PyProof.TupleCall
import KE.KRevIter
import KE.KDictList
import PyProof.ZipIter
import PyProof.Draws
import PyProof.DictWalks
import PyProof.AttrMiss
import PyProof.FactsAll.zip_1
import KE.KDictOf
import PyProof.Rows.FStr
import PyProof.AutoSeq1
import PyProof.EnumMake
import PyProof.CallType
import PyProof.Rows.CallKwBuiltin
import PyProof.DictUpdate
import PyProof.NoPylong
import KE.KDictMeth
import PyProof.Rows.StrIntSpec
import PySem.Challenge.RW_idlegraph_k24_two_papers_put_together
set_option Elab.async false
set_option linter.all false
set_option maxRecDepth 100000
set_option maxHeartbeats 4000000
set_option genSizeOf false
set_option compiler.extract_closed false
def XA:=@PySem.wpAny_bind
def XB:=@PySem.wpAny_pure
def XC:=@PySem.Heap.get?_push_of_some
def XD:=@PySem.Heap.lt_size
def XE:=@Nat.le_refl
def XF:=@PySem.Heap.get?_push_size
def XG:=@Nat.lt_of_lt_of_le
def XH:=@Nat.ne_of_lt
def XI:=@List.length_map
def XJ:=@List.size_toArray
def XL:=@List.map_append
def XM:=@List.getElem?_map
def XN:=@Nat.le_trans
def XO:=@Nat.zero_le
def XQ:=@List.mem_singleton
def XR:=@List.mem_map
def XS:=@List.mem_append
def XT:=@List.mem_append_right
def XU:=@beq_self_eq_true
def XV:=@List.mem_cons_of_mem
def XW:=@Int.le_refl
def XX:=@if_neg
def XY:=@if_pos
def XZ:=@PySem.F.plainAttrs_list
def YA:=@PySem.F.type_list_append
def YB:=@PySem.F.slot_list_append
def YC:=@PySem.Str.length_append
def YD:=@List.take_add_one
def YE:=@List.map_map
def YF:=@List.length_cons
def YG:=@decide_eq_false
def YH:=@Option.some.inj
def YI:=@List.map_cons
def YJ:=@Bool.false_ne_true
def YK:=@List.append_nil
def YL:=@List.append_assoc
def YM:=@List.length_take
def YN:=@List.getElem_mem
def YO:=@Int.emod_nonneg
def ZNB {a b:Nat} (h:Nat.ble a b=true):a<=b:=Nat.le_of_ble_eq_true h
def ZM {α:Type}{x a:α}{l:List α}:x∈a::l↔x=a\/x∈l:=List.mem_cons
def ZN {α:Type}{x:α}:x∈([]:List α)↔False:=⟨List.not_mem_nil,False.elim⟩
namespace L2
open PySem PySem.Spec PyProof.Rows
abbrev Z1:=Sum Int Str
def Mf:Z1->Value->Bool
 | .inl k,v=>Value.isInt k v
 | .inr x,v=>Value.isStrOf x v
def mf (w:World):Z1->Int
 | .inl k=>hashInt k
 | .inr x=>hashStr w x
def Y4:∀{k:Z1} {v:Value},Mf k v=true->(∃i t,k=Sum.inl i/\v=Value.int i t)\/(∃x t,k=Sum.inr x/\v=Value.str x t)
 | .inl i,v,h=>by
  obtain⟨t,e⟩:=Value.isInt_shape (k:=i) (v:=v) h
  exact .inl ⟨i,t,rfl,e⟩
 | .inr x,v,h=>by
  obtain⟨t,e⟩:=Value.isStrOf_shape (x:=x) (v:=v) h
  exact .inr ⟨x,t,rfl,e⟩
def zH (i:Int)(t:Tok):Mf (.inl i) (.int i t)=true:=by simp[Mf,Value.isInt]
def zG (x:Str)(t:Tok):Mf (.inr x) (.str x t)=true:=by simp[Mf,Value.isStrOf]
def sj (a b:Int):decide ((Sum.inl a:Z1)=Sum.inl b)=(a==b):=by
 by_cases e:a=b
 ·subst e;simp
 ·have h:¬(Sum.inl a:Z1)=Sum.inl b:=λq=>e (Sum.inl.inj q)
  rw[YG h]
  exact(beq_eq_false_iff_ne.mpr e).symm
def sf (a b:Str):decide ((Sum.inr a:Z1)=Sum.inr b)=decide (a=b):=by
 by_cases e:a=b
 ·subst e;simp
 ·have h:¬(Sum.inr a:Z1)=Sum.inr b:=λq=>e (Sum.inr.inj q)
  rw[YG h,YG e]
def si (a:Int)(b:Str):decide ((Sum.inl a:Z1)=Sum.inr b)=false:=YG (λq=>nomatch q)
def sh (a:Str)(b:Int):decide ((Sum.inr a:Z1)=Sum.inl b)=false:=YG (λq=>nomatch q)
def Yx (prog:Program)(w:World):PySem.KeyKind prog w Z1 where
 is:=Mf
 hash:=mf w
 inj:=λv a b ha hb=>by
  rcases Y4 ha with⟨i,t,rfl,rfl⟩ | ⟨x,t,rfl,rfl⟩
  ·rcases Y4 hb with⟨j,u,rfl,e⟩ | ⟨y,u,rfl,e⟩
   ·injection e with e1 _;rw[e1]
   ·exact nomatch e
  ·rcases Y4 hb with⟨j,u,rfl,e⟩ | ⟨y,u,rfl,e⟩
   ·exact nomatch e
   ·injection e with e1 _;rw[e1]
 byValue:=λk v h=>by
  rcases Y4 h with⟨i,t,rfl,rfl⟩ | ⟨x,t,rfl,rfl⟩<;>rfl
 pyHash:=λhv h=>by
  rcases Y4 hv with⟨i,t,rfl,rfl⟩ | ⟨x,t,rfl,rfl⟩
  ·exact wpAny_pyHash_int h
  ·exact wpAny_pyHash_str h
 eqBool:=λhu hv h=>by
  rcases Y4 hu with⟨i,t,rfl,rfl⟩ | ⟨x,t,rfl,rfl⟩
  ·rcases Y4 hv with⟨j,u,rfl,rfl⟩ | ⟨y,u,rfl,rfl⟩
   ·rw[sj] at h;exact wpAny_eqBool_int h
   ·rw[si] at h;exact SeqAt.EqAt.int_str i t y u _ _ _ _ h
  ·rcases Y4 hv with⟨j,u,rfl,rfl⟩ | ⟨y,u,rfl,rfl⟩
   ·rw[sh] at h;exact SeqAt.EqAt.str_int x t j u _ _ _ _ h
   ·rw[sf] at h;exact wpAny_eqBool_str h
 «strs»:=λk x t v h=>by
  rcases Y4 h with⟨i,u,rfl,e⟩ | ⟨y,u,rfl,e⟩
  ·exact nomatch e
  ·injection e with e1 _
   subst e1
   cases v<;>rfl
def Dv (prog:Program)(w:World)(k:Z1)(v:Value):(Yx prog w).is k v=Mf k v:=rfl
def Fw (prog:Program)(w:World)(i:Int)(t:Tok):(Yx prog w).is (.inl i) (.int i t)=true:=zH i t
def Fv (prog:Program)(w:World)(x:Str)(t:Tok):(Yx prog w).is (.inr x) (.str x t)=true:=zG x t
inductive V where
 | non | bl (b:Bool) | int (i:Int) | str (x:Str) | byt (b:Array UInt8) | flt (b:UInt64) | ref (a:Addr) | ty (n:String)
 deriving DecidableEq
def Z0:V->Value->Prop
 | .non,u=>u=Value.none
 | .bl b,u=>u=Value.bool b
 | .int i,u=>∃t,u=Value.int i t
 | .str x,u=>∃t,u=Value.str x t
 | .byt b,u=>∃t,u=Value.bytes b t
 | .flt b,u=>∃t,u=Value.float b t
 | .ref a,u=>u=Value.ref a
 | .ty n,u=>u=Value.type n
abbrev Zz:List V->List Value->Prop:=Paired Z0
def Zz.length {xs:List V}{us:List Value}(r:Zz xs us):xs.length=us.length:=Paired.length r
def Zz.get:∀{xs:List V} {us:List Value} {i:Nat} {x:V},Zz xs us->xs[i]?=some x->∃u,us[i]?=some u/\Z0 x u
 | _,_,_,_,.nil,e=>by simp at e
 | _,_,0,_,.cons r _,e=>by simp at e;subst e;exact⟨_,rfl,r⟩
 | _,_,i+1,x,.cons _ t,e=>by
  obtain⟨u,h1,h2⟩:=Zz.get (i:=i) (x:=x) t (by simpa using e)
  exact⟨u,by simpa using h1,h2⟩
def Zz.set {x:V}{u:Value}(r:Z0 x u):∀{xs:List V} {us:List Value} (i:Nat),Zz xs us->Zz (xs.set i x) (us.set i u)
 | _,_,_,.nil=>.nil
 | _,_,0,.cons _ t=>.cons r t
 | _,_,i+1,.cons q t=>.cons q (Zz.set r i t)
def Zz.append:∀{xs ys:List V} {us ws:List Value},Zz xs us->Zz ys ws->Zz (xs++ys) (us++ws)
 | _,_,_,_,.nil,s=>s
 | _,_,_,_,.cons r t,s=>.cons r (Zz.append t s)
def Zz.take:∀{xs:List V} {us:List Value} (n:Nat),Zz xs us->Zz (xs.take n) (us.take n)
 | _,_,0,_=>.nil
 | _,_,_+1,.nil=>.nil
 | _,_,n+1,.cons r t=>.cons r (Zz.take n t)
def Zz.drop:∀{xs:List V} {us:List Value} (n:Nat),Zz xs us->Zz (xs.drop n) (us.drop n)
 | _,_,0,r=>r
 | _,_,_+1,.nil=>.nil
 | _,_,n+1,.cons _ t=>Zz.drop n t
def Rj:Option V->Option Value->Prop
 | some v,some u=>Z0 v u
 | none,none=>True
 | _,_=>False
def KV {κ:Type}:List (κ×V)->List (κ×Value)->Prop:=Paired λ(p:κ×V) (q:κ×Value)=>p.1=q.1/\Z0 p.2 q.2
def kV:Z1->V
 | .inl i=>.int i
 | .inr x=>.str x
inductive HO where
  | lst (xs:List V)
  | tup (xs:List V)
  | dK (kvs:List (Z1×V)) | dT (kvs:List (List Z1×V))
  | set (S:Int->Bool) (n:Nat)
  | ins (C dx:Addr) (fs:List (Str×V))
  | own (x:Addr)
  | xd (fs:List (Str×V))
  | met (f x:Addr)
  | rng (lo hi:Int)
  | frz (o:Obj) (u:HO)
  | tbl (ps:Array Value)
  | ext (φ:Heap->Prop)
abbrev Hp:=Addr->Option HO
def Yq (H:Hp)(a:Addr)(o:HO):Hp:=λb=>if b=a then some o else H b
def Z9 {H:Hp}{a:Addr}{o:HO}:Yq H a o a=some o:=by unfold Yq;rw[XY rfl]
def Zy {H:Hp}{a b:Addr}{o:HO}(h:b≠a):Yq H a o b=H b:=by unfold Yq;rw[XX h]
def pq {H:Hp}{a b:Addr}{o u:HO}(h:H a=some o)(h':H b=some u)(d:o≠u):a≠b:=by
 intro e;subst e;rw[h] at h';exact d (YH h')
def Y5 {H:Hp}{a b:Addr}{o:HO}(h:H a=some o)(h':H b=none):a≠b:=by
 intro e;subst e;rw[h] at h';cases h'
section
variable (P:Program)(w:World)
def Ja (H:Hp)(h:Heap)(a:Addr):HO->Prop
 | .lst xs=>xs.length<=sizeLine/\∃(its:List Value) (n:Nat),Zz xs its/\h.get? a=some {cls:=.type "list",data:=.seq its.toArray n}
 | .tup xs=>xs.length<=sizeLine/\∃its:List Value,Zz xs its/\IsTup h a its.toArray
 | .dK kvs=>kvs.length<=sizeLine/\(a==sysModules)=false/\∃vs,KV kvs vs/\h.DictOf (Yx P w) a vs
 | .dT kvs=>kvs.length<=sizeLine/\(a==sysModules)=false/\∃xs:List (List Z1×Addr×Value),
   Paired (λ(p:List Z1×V) (q:List Z1×Addr×Value)=>p.1=q.1/\H q.2.1=some (.tup (p.1.map kV))/\Z0 p.2 q.2.2) kvs xs/\
   ∃o es ep,h.get? a=some o/\o.ExactDict/\o.data=.dict es ep/\es.toList=xs.map (entryOfKey (tupleKind (Yx P w)))/\(xs.map (·.1)).Nodup
 | .set S n=>h.SetOf (intKind P w) a S n
 | .ins C dx fs=>H dx=some (.own a)/\fs.length<=1000/\dx≠a/\h.get? a=some (W.instObj C dx)/\
   ∃mA,h.Ns1 dx mA/\(∀f,Rj (fs.lookup f) (mA f))/\PySem.Within mA (fs.map (·.1))
 | .own _=>∃o,h.get? a=some o
 | .xd fs=>∃mA,h.Ns1 a mA/\∀f,Rj (fs.lookup f) (mA f)
 | .rng lo hi=>∃t u v,h.get? a=some {cls:=.type "range",data:=.fields #[.int lo t,.int hi u,.int 1 v]}
 | .frz o u=>h.get? a=some o/\Ja H h a u
 | .tbl ps=>h.get? a=some {cls:=.none,data:=.fields ps}
 | .met f x=>h.get? a=some (W.methodObj (.ref f) (.ref x))
 | .ext φ=>φ h/\(∃o,h.get? a=some o)/\∀h1 h2:Heap,φ h1->(∀o,h1.get? a=some o->h2.get? a=some o)->φ h2
def Qp (H:Hp)(h:Heap):Prop:=∀a o,H a=some o->Ja P w H h a o
end
section
variable {P:Program}{w:World}{H H':Hp}{h h':Heap}{a:Addr}{o:HO}
def Ja.lt (x:Ja P w H h a o):a<h.objs.size:=by
 cases o with
 | lst xs=>obtain⟨_,_,_,_,e⟩:=x;exact XD e
 | tup xs=>obtain⟨_,_,_,p⟩:=x;exact p.lt
 | dK kvs=>obtain⟨_,_,_,_,o,_,_,e,_⟩:=x;exact XD e
 | dT kvs=>obtain⟨_,_,_,_,o,_,_,e,_⟩:=x;exact XD e
 | set S n=>obtain⟨o,_,_,_,e,_⟩:=x;exact XD e
 | ins C dx fs=>obtain⟨_,_,_,e,_⟩:=x;exact XD e
 | own y=>obtain⟨_,e⟩:=x;exact XD e
 | xd fs=>obtain⟨_,⟨_,_,_,e,_⟩,_⟩:=x;exact XD e
 | rng lo hi=>obtain⟨_,_,_,e⟩:=x;exact XD e
 | frz ob u=>obtain⟨e,_⟩:=x;exact XD e
 | tbl ps=>exact XD (show h.get? a=some _ from x)
 | met f y=>exact XD (show h.get? a=some _ from x)
 | ext φ=>obtain⟨_,⟨_,e⟩,_⟩:=x;exact XD e
def Paired.mapP {α β:Type}{F G:α->β->Prop}:∀{l₁:List α} {l₂:List β},Paired F l₁ l₂->(∀a b,F a b->G a b)->Paired G l₁ l₂
 | _,_,.nil,_=>.nil
 | _,_,.cons r t,f=>.cons (f _ _ r) (Paired.mapP t f)
def Ja.stay (x:Ja P w H h a o)(k:∀b u,(b=a\/H b=some (.own a))->h.get? b=some u->h'.get? b=some u)
  (ho:∀b,H b=some (.own a)->H' b=some (.own a)) (ht:∀b xs,H b=some (.tup xs)->H' b=some (.tup xs)):Ja P w H' h' a o:=by
 induction o with
 | lst xs=>obtain⟨z,its,n,r,e⟩:=x;exact⟨z,its,n,r,k _ _ (.inl rfl) e⟩
 | tup xs=>obtain⟨z,its,r,ob,e,c⟩:=x;exact⟨z,its,r,ob,k _ _ (.inl rfl) e,c⟩
 | dK kvs=>obtain⟨z,y,vs,r,ob,es,ep,e,c⟩:=x;exact⟨z,y,vs,r,ob,es,ep,k _ _ (.inl rfl) e,c⟩
 | dT kvs=>
  obtain⟨z,y,xs,r,ob,es,ep,e,c⟩:=x
  exact⟨z,y,xs,Paired.mapP r λp q z=>⟨z.1,ht _ _ z.2.1,z.2.2⟩,ob,es,ep,k _ _ (.inl rfl) e,c⟩
 | set S n=>obtain⟨ob,es,ep,t,e,c⟩:=x;exact⟨ob,es,ep,t,k _ _ (.inl rfl) e,c⟩
 | ins C dx fs=>
  obtain⟨d,z,ne,e,mA,⟨od,es,ep,e2,c⟩,r⟩:=x
  exact⟨ho _ d,z,ne,k _ _ (.inl rfl) e,mA,⟨od,es,ep,k _ _ (.inr d) e2,c⟩,r⟩
 | own y=>obtain⟨ob,e⟩:=x;exact⟨ob,k _ _ (.inl rfl) e⟩
 | xd fs=>obtain⟨mA,⟨od,es,ep,e,c⟩,r⟩:=x;exact⟨mA,⟨od,es,ep,k _ _ (.inl rfl) e,c⟩,r⟩
 | rng lo hi=>obtain⟨t,u,v,e⟩:=x;exact⟨t,u,v,k _ _ (.inl rfl) e⟩
 | frz ob u ih=>obtain⟨e,q⟩:=x;exact⟨k _ _ (.inl rfl) e,ih q⟩
 | tbl ps=>
  have e:h.get? a=some {cls:=.none,data:=.fields ps}:=x
  show h'.get? a=some {cls:=.none,data:=.fields ps}
  exact k a _ (.inl rfl) e
 | met f y=>
  have e:h.get? a=some (W.methodObj (.ref f) (.ref y)):=x
  show h'.get? a=some (W.methodObj (.ref f) (.ref y))
  exact k a _ (.inl rfl) e
 | ext φ=>obtain⟨p,⟨o,e⟩,st⟩:=x;exact⟨st _ _ p λo q=>k _ _ (.inl rfl) q,⟨o,k _ _ (.inl rfl) e⟩,st⟩
def Qp.lt (x:Qp P w H h)(e:H a=some o):a<h.objs.size:=(x a o e).lt
def Qp.fresh (x:Qp P w H h)(e:h.objs.size<=a):H a=none:=by
 cases q:H a with
 | none=>rfl
 | some u=>exact absurd (XG (x.lt q) e) (Nat.lt_irrefl _)
def Qp.kept (x:Qp P w H h)(k:∀b u,h.get? b=some u->h'.get? b=some u):Qp P w H h':=λa o e=>
 (x a o e).stay (λb u _ q=>k b u q) (λ_ q=>q) λ_ _ q=>q
def Qp.laid (x:Qp P w H h)(k:∀b u,h.get? b=some u->h'.get? b=some u)(hp:h.objs.size<=a)(new:Ja P w (Yq H a o) h' a o):Qp P w (Yq H a o) h':=λb u e=>by
 have hn:=x.fresh hp
 by_cases hb:b=a
 ·subst hb;rw[Z9] at e;cases e;exact new
 ·rw[Zy hb] at e
  exact(x b u e).stay (λc v _ q=>k c v q) (λc q=>by rw[Zy (Y5 q hn)];exact q) λc xs q=>by rw[Zy (Y5 q hn)];exact q
end
def Rd (H:Hp)(a:Addr)(u:HO):Prop:=H a=some u\/∃o,H a=some (.frz o u)
def Rd.ok {P:Program}{w:World}{H:Hp}{h:Heap}{a:Addr}{u:HO}(r:Rd H a u)(x:Qp P w H h):Ja P w H h a u:=by
 rcases r with r | ⟨o,r⟩
 ·exact x a u r
 ·obtain⟨_,q⟩:=x a _ r
  exact q
def oi:Option HO->Prop
 | some (.lst _)=>True
 | some (.dK _)=>True
 | some (.dT _)=>True
 | some (.set _ _)=>True
 | some (.ins _ _ _)=>True
 | some (.ext _)=>True
 | _=>False
section
variable {P:Program}{w:World}{H:Hp}{h h':Heap}{x e:Addr}{o':HO}
def Qp.write (ok:Qp P w H h)(mu:oi (H x))(he:e=x\/H e=some (.own x))(k:∀b u,b≠e->h.get? b=some u->h'.get? b=some u)(heo:∃u,h'.get? e=some u)
  (new:Ja P w (Yq H x o') h' x o'):Qp P w (Yq H x o') h':=λb u q=>by
 have nown:∀c y,H c=some (.own y)->c≠x:=λc y r z=>by subst z;rw[r] at mu;exact mu
 have ntup:∀c xs,H c=some (.tup xs)->c≠x:=λc xs r z=>by subst z;rw[r] at mu;exact mu
 by_cases hb:b=x
 ·subst hb;rw[Z9] at q;cases q;exact new
 ·rw[Zy hb] at q
  by_cases hbe:b=e
  ·have q':H b=some (.own x):=by
    rcases he with z | z
    ·exact absurd (hbe.trans z) hb
    ·rw[hbe];exact z
   rw[q] at q';cases q'
   obtain⟨v,hv⟩:=heo
   exact⟨v,by rw[hbe];exact hv⟩
  ·refine(ok b u q).stay (λc v hc r=>k c v ?_ r) (λc r=>by rw[Zy (nown c b r)];exact r) λc xs r=>by rw[Zy (ntup c xs r)];exact r
   rcases hc with rfl | hc
   ·exact hbe
   ·rintro rfl
    rcases he with z | z
    ·exact nown c b hc z
    ·rw[hc] at z;cases z;exact hb rfl
end
structure Un (fs ex:List Addr)(H H':Hp)(h h':Heap):Prop where
 keep:∀b o,h.get? b=some o->H b=none->b∉fs->b∉ex->h'.get? b=some o
 slot:∀b o,h.get? b=some o->H b=none->b∈fs->b∉ex->∃sl,h'.get? b=some {o with slots:=sl}
 free:∀b o,h.get? b=some o->H b=none->b∉ex->H' b=none
 there:∀b o,h.get? b=some o->b∉ex->∃o',h'.get? b=some o'
 tups:∀b xs,H b=some (.tup xs)->H' b=some (.tup xs)
 frzs:∀b o u,H b=some (.frz o u)->H' b=some (.frz o u)
 tbls:∀b ps,H b=some (.tbl ps)->∃more,H' b=some (.tbl (ps++more))
section
variable {fs fs' ex ex':List Addr}{H H1 H2:Hp}{h h1 h2 h':Heap}{a x e:Addr}{o:HO}
def Un.any (u:Un fs ex H H1 h h1){b:Addr}{ob:Obj}(q:h.get? b=some ob)(n:H b=none)(hx:b∉ex):∃sl,h1.get? b=some {ob with slots:=sl}:=by
 by_cases hb:b∈fs
 ·exact u.slot b ob q n hb hx
 ·exact⟨ob.slots,u.keep b ob q n hb hx⟩
def Un.kept (k:∀b u,h.get? b=some u->h'.get? b=some u):Un fs ex H H h h':=
 ⟨λb ob q _ _ _=>k b ob q,λb ob q _ _ _=>⟨ob.slots,k b ob q⟩,λ_ _ _ n _=>n,λb ob q _=>⟨ob,k b ob q⟩,λ_ _ q=>q,λ_ _ _ q=>q,λ_ ps q=>⟨#[],by rw[q];simp⟩⟩
def Un.refl:Un fs ex H H h h:=Un.kept λ_ _ q=>q
def Un.laid (k:∀b u,h.get? b=some u->h'.get? b=some u)(hp:h.objs.size<=a)(hn:H a=none):Un fs ex H (Yq H a o) h h' where
 keep:=λb u q _ _ _=>k b u q
 slot:=λb u q _ _ _=>⟨u.slots,k b u q⟩
 free:=λb u q n _=>by rw[Zy (XH (XG (XD q) hp))];exact n
 there:=λb u q _=>⟨u,k b u q⟩
 tups:=λb xs q=>by rw[Zy (Y5 q hn)];exact q
 frzs:=λb u xs q=>by rw[Zy (Y5 q hn)];exact q
 tbls:=λb ps q=>⟨#[],by rw[Zy (Y5 q hn),q];simp⟩
def Un.write (mu:oi (H x))(he:e=x\/H e=some (.own x))(k:∀b u,b≠e->h.get? b=some u->h'.get? b=some u)(heo:∃u,h'.get? e=some u):Un fs ex H (Yq H x o) h h':=by
 have hx:∀b,H b=none->b≠x:=λb n z=>by subst z;rw[n] at mu;exact mu
 have hb:∀b,H b=none->b≠e:=λb n z=>by
  subst z
  rcases he with r | r
  ·exact hx b n r
  ·rw[n] at r;cases r
 have hm:∀b u,H b=some u->¬oi (some u)->b≠x:=λb u q nm z=>by subst z;rw[q] at mu;exact nm mu
 refine⟨λb u q n _ _=>k b u (hb b n) q,λb u q n _ _=>⟨u.slots,k b u (hb b n) q⟩,λb u q n _=>by rw[Zy (hx b n)];exact n,λb u q _=>?_,
  λb xs q=>by rw[Zy (hm b _ q λz=>z)];exact q,λb u xs q=>by rw[Zy (hm b _ q λz=>z)];exact q,λb ps q=>⟨#[],by rw[Zy (hm b _ q λz=>z),q];simp⟩⟩
 by_cases hbe:b=e
 ·subst hbe;exact heo
 ·exact⟨u,k b u hbe q⟩
end
def oy (h:Heap)(H:Hp):List Addr:=(List.range h.objs.size).filter λa=>(H a).isSome
def Hs (h:Heap)(H:Hp):Heap:=W.hideAll h (oy h H)
def zM (h:Heap)(H:Hp):(Hs h H).objs.size=h.objs.size:=W.hideAll_size _ _
def jM {h:Heap}{H:Hp}{b:Addr}{o:Obj}(e:h.get? b=some o)(n:H b=none):(Hs h H).get? b=some o:=
 W.hideAll_get _ e λhm=>by
  have q:(H b).isSome=true:=(List.mem_filter.mp hm).2
  rw[n] at q;simp at q
def wU {h:Heap}{H:Hp}{b:Addr}{o:Obj}(e:(Hs h H).get? b=some o):h.get? b=some o/\H b=none:=by
 have e':h.get? b=some o:=W.of_hideAll (oy h H) e
 refine⟨e',?_⟩
 cases q:H b with
 | none=>rfl
 | some x=>
  have hm:b∈oy h H:=List.mem_filter.mpr ⟨List.mem_range.mpr (Heap.lt_size e'),by simp[q]⟩
  have z:(Hs h H).get? b=none:=W.hideAll_none (oy h H) hm
  rw[z] at e;cases e
def vL (g h:Heap)(L:Addr):List (Addr×Obj):=(List.range h.objs.size).filterMap λa=>if a=L\/(g.get? a).isSome=true then none else(h.get? a).map λo=>(a,o)
def Xl (g h:Heap)(L d:Addr):List (Addr×Obj):=(vL g h L).filter λp=>decide (p.1≠d)
structure Mod (K:W.Frag)(mg:Str->Option Value)(base:Heap):Prop where
 kin:K.In base
 glob:base.Ns mainGlobals mg
 blt:∃mb,base.Ns builtinsNs mb/\∀x:Str,x≠"__name__"->mb x=bootBuiltins x
 nolimit:base.NoLimit
structure Cx where
 prog:Program
 w:World
 K:W.Frag
 mg:Str->Option Value
 base:Heap
 A:Around
 N:List Str
 s₀:Shared
 H₀:Hp
 env:Env
 outer:List Env
 stack:List Env
 ex:List Addr
 fn:Str->Bool
 calm:Bool
 pn:List (Addr×Obj)
 xe:Value->Shared->Prop
def zP (l:List Env):List Addr:=l.filterMap (·.frame)
abbrev Cx.fs (X:Cx):List Addr:=zP X.outer
def oH (sc:Scope)(x:Str):Prop:=sc.names.lookup x=some .local\/sc.names.lookup x=some .cell\/sc.names.lookup x=some .free
def rQ (sc:Scope)(x:Str):Prop:=sc.names.lookup x=some .local\/sc.names.lookup x=some .cell
def mN (env:Env)(h:Heap)(m:Str->Option Value)(x:Str)(u:Value):Prop:=
 (env.kindOf x=some .local/\m x=some u)\/((env.kindOf x=some .cell\/env.kindOf x=some .free)/\∃c,env.cells.lookup x=some c/\h.IsCell c (some u))
structure Cx.Ok (X:Cx):Prop where
 mod:Mod X.K X.mg X.base
 kind:X.env.scope.kind=.function
 glob:X.env.globals=mainGlobals
 blt:X.env.builtins=builtinsNs
 above:X.s₀.heap.objs.size<=X.env.locals
 inj:∀x y c,X.env.cells.lookup x=some c->X.env.cells.lookup y=some c->x=y
 has:∀x,(X.env.kindOf x=some .cell\/X.env.kindOf x=some .free)->∃c,X.env.cells.lookup x=some c
 cab:∀x c,X.fn x=true->X.env.cells.lookup x=some c->X.s₀.heap.objs.size<=c
 hd:X.calm=true->X.A.handled=none
 frames:X.A.frames=some X.stack
 stk:X.stack=X.outer\/(X.stack=X.env::X.outer/\X.env.frame=some X.env.locals)
 exf:∀b∈X.ex,b≠X.env.locals/\∀x c,X.env.cells.lookup x=some c->c≠b
 bs:∀b o,X.base.get? b=some o->X.s₀.heap.get? b=some o/\X.H₀ b=none
 bsz:X.base.objs.size<=X.s₀.heap.objs.size
 noex:∀b o,X.base.get? b=some o->b∉X.ex
 exfs:∀b∈X.ex,b∉X.fs
 funs:X.s₀.heap.FunFrames X.base X.outer
 frf:∀b∈X.fs,X.H₀ b=none
structure Zp (X:Cx)(pins:List (Addr×Obj))(σ:List (Option V))(H:Hp)(s:Shared):Prop where
 ok:X.Ok
 os:s.os=X.s₀.os
 bare:AllBare s.gens
 base:Un X.fs X.ex X.H₀ H X.s₀.heap s.heap
 loc:∃m,s.heap.Ns X.env.locals m/\∀(i:Nat) (x:Str) (v:V),X.N[i]?=some x->σ[i]?=some (some v)->oH X.env.scope x->∃u,Z0 v u/\mN X.env s.heap m x u
 cell:∀x c,X.env.cells.lookup x=some c->∃v,s.heap.IsCell c v
 free:H X.env.locals=none
 freeC:∀x c,X.env.cells.lookup x=some c->H c=none
 pin:∀p∈X.pn++pins,s.heap.get? p.1=some p.2/\H p.1=none/\p.1≠X.env.locals/\p.1∉X.fs/\∀v,p.2.data≠.cell v
 hok:Qp X.prog X.w H s.heap
 len:σ.length=X.N.length
section
variable {X:Cx}{pins:List (Addr×Obj)}{σ:List (Option V)}{H H':Hp}{s:Shared}{h':Heap}
def Cx.Ok.nofr (ok:X.Ok){b:Addr}{o:Obj}(e:X.base.get? b=some o):b∉X.fs:=λhb=>by
 have:=(ok.funs.mem hb).1
 rw[e] at this;cases this
def Zp.bs (I:Zp X pins σ H s):∀b o,X.base.get? b=some o->s.heap.get? b=some o/\H b=none:=λb o e=>
 ⟨I.base.keep b o (I.ok.bs b o e).1 (I.ok.bs b o e).2 (I.ok.nofr e) (I.ok.noex b o e),I.base.free b o (I.ok.bs b o e).1 (I.ok.bs b o e).2 (I.ok.noex b o e)⟩
def Zp.bk (I:Zp X pins σ H s):∀b o,X.base.get? b=some o->s.heap.get? b=some o:=λb o e=>(I.bs b o e).1
def Zp.mod (I:Zp X pins σ H s):Mod X.K X.mg X.base:=I.ok.mod
def Zp.kIn (I:Zp X pins σ H s):X.K.In s.heap:=I.ok.mod.kin.keeps I.bk
def Zp.lt (I:Zp X pins σ H s):X.env.locals<s.heap.objs.size:=let ⟨_,hn,_⟩:=I.loc;hn.lt
def Zp.sz (I:Zp X pins σ H s):X.s₀.heap.objs.size<=s.heap.objs.size:=XN I.ok.above (Nat.le_of_lt I.lt)
def Zp.nofs (I:Zp X pins σ H s){a:Addr}(h:s.heap.objs.size<=a):a∉X.fs:=λhb=>by
 obtain⟨_,o,ho,_⟩:=I.ok.funs.mem hb
 exact absurd (XG (XD ho) (XN I.sz h)) (Nat.lt_irrefl _)
def Zp.cne (I:Zp X pins σ H s):∀x c,X.env.cells.lookup x=some c->c≠X.env.locals:=λx c e z=>by
 obtain⟨v,o,ho,hd⟩:=I.cell x c e
 obtain⟨m,⟨o',es,ep,ho',hd',_⟩,_⟩:=I.loc
 rw[z,ho'] at ho;cases ho;rw[hd'] at hd;cases hd
def Zp.funs (I:Zp X pins σ H s):s.heap.FunFrames X.base X.outer:=by
 have all:∀(l:List Env),(∀b∈zP l,b∈X.fs)->X.s₀.heap.FunFrames X.base l->s.heap.FunFrames X.base l:=by
  intro l
  induction l with
  | nil=>intro _ _;trivial
  | cons env r ih=>
   intro hs hl
   obtain⟨hk,⟨L,o,hf,hn,ho,hd⟩,hr⟩:=hl
   have hL:L∈X.fs:=hs L (by unfold zP;rw[List.filterMap_cons,hf];exact List.mem_cons_self)
   obtain⟨sl,e⟩:=I.base.slot L o ho (I.ok.frf L hL) hL λz=>I.ok.exfs L z hL
   exact⟨hk,⟨L,_,hf,hn,e,hd⟩,ih (λb hb=>hs b (by unfold zP;rw[List.filterMap_cons,hf];exact XV _ hb)) hr⟩
 exact all X.outer (λ_ hb=>hb) I.ok.funs
def Zp.stack (I:Zp X pins σ H s):s.heap.FunFrames X.base X.stack:=by
 rcases I.ok.stk with e | ⟨e,hf⟩
 ·rw[e];exact I.funs
 ·rw[e]
  obtain⟨m,hn,_⟩:=I.loc
  refine .cons (by rw[I.ok.kind];decide) hf hn ?_ I.funs
  exact Heap.get?_none_of_le (XN I.ok.bsz I.ok.above)
def Zp.stkSub (I:Zp X pins σ H s):∀b∈zP X.stack,b∈X.env.locals::X.fs:=λb hb=>by
 rcases I.ok.stk with e | ⟨e,hf⟩
 ·rw[e] at hb;exact XV _ hb
 ·rw[e] at hb
  unfold zP at hb
  rw[List.filterMap_cons,hf] at hb
  exact hb
def Zp.stkFree (I:Zp X pins σ H s):∀b∈zP X.stack,H b=none:=λb hb=>by
 rcases List.mem_cons.mp (I.stkSub b hb) with e | hb
 ·rw[e];exact I.free
 ·obtain⟨_,o,ho,_⟩:=I.ok.funs.mem hb
  exact I.base.free b o ho (I.ok.frf b hb) λz=>I.ok.exfs b z hb
def Zp.step {g':Array GenState}{t':Nat}{d':Drawn}{ch:List Addr}(I:Zp X pins σ H s)
  (hch:∀b∈ch,(b∈X.ex\/X.s₀.heap.objs.size<=b)/\b≠X.env.locals/\(∀x c,X.env.cells.lookup x=some c->c≠b)/\∀p∈X.pn++pins,p.1≠b)
  (keep:∀b o,b≠X.env.locals->b∉X.fs->b∉ch->s.heap.get? b=some o->H b=none->h'.get? b=some o)
  (slot:∀b o,b≠X.env.locals->b∈X.fs->b∉ch->s.heap.get? b=some o->H b=none->∃sl,h'.get? b=some {o with slots:=sl}) (free:∀b o,b∉ch->s.heap.get? b=some o->H b=none->H' b=none)
  (there:∀b o,b∉ch->s.heap.get? b=some o->∃o',h'.get? b=some o')
  (tups:∀b xs,H b=some (.tup xs)->H' b=some (.tup xs)) (frzs:∀b o u,H b=some (.frz o u)->H' b=some (.frz o u)) (tbls:∀b ps,H b=some (.tbl ps)->∃more,H' b=some (.tbl (ps++more)))
  (ns:∀m,s.heap.Ns X.env.locals m->h'.Ns X.env.locals m) (hok:Qp X.prog X.w H' h') (hg:AllBare g'):
  Zp X pins σ H' {s with heap:=h',gens:=g',drawn:=d',toks:=t'}:=by
 have neL:∀b o,X.s₀.heap.get? b=some o->b≠X.env.locals:=λb o e=>XH (XG (XD e) I.ok.above)
 have neC:∀b o,X.s₀.heap.get? b=some o->b∉X.ex->b∉ch:=λb o e hx hb=>by
  rcases (hch b hb).1 with z | z
  ·exact hx z
  ·exact absurd (XG (XD e) z) (Nat.lt_irrefl _)
 have cellK:∀x c,X.env.cells.lookup x=some c->∀v,s.heap.IsCell c v->h'.IsCell c v:=λx c e v ⟨o,ho,hd⟩=>by
  have nch:c∉ch:=λz=>(hch c z).2.2.1 x c e rfl
  by_cases hc:c∈X.fs
  ·obtain⟨sl,q⟩:=slot c o (I.cne x c e) hc nch ho (I.freeC x c e)
   exact⟨_,q,hd⟩
  ·exact⟨o,keep c o (I.cne x c e) hc nch ho (I.freeC x c e),hd⟩
 refine⟨I.ok,I.os,hg,⟨λb o e n hb hx=>?_,λb o e n hb hx=>?_,λb o e n hx=>?_,λb o e hx=>?_,λb xs e=>tups b xs (I.base.tups b xs e),λb o xs e=>frzs b o xs (I.base.frzs b o xs e),λb ps e=>?_⟩,?_,λx c e=>?_,?_,λx c e=>?_,λp hp=>?_,hok,I.len⟩
 ·exact keep b o (neL b o e) hb (neC b o e hx) (I.base.keep b o e n hb hx) (I.base.free b o e n hx)
 ·obtain⟨sl,e1⟩:=I.base.slot b o e n hb hx
  obtain⟨sl',e2⟩:=slot b _ (neL b o e) hb (neC b o e hx) e1 (I.base.free b o e n hx)
  exact⟨sl',e2⟩
 ·obtain⟨o',e1⟩:=I.base.there b o e hx
  exact free b o' (neC b o e hx) e1 (I.base.free b o e n hx)
 ·obtain⟨o',e1⟩:=I.base.there b o e hx
  exact there b o' (neC b o e hx) e1
 ·obtain⟨m1,e1⟩:=I.base.tbls b ps e
  obtain⟨m2,e2⟩:=tbls b _ e1
  exact⟨m1++m2,by rw[e2,Array.append_assoc]⟩
 ·obtain⟨m,hn,hl⟩:=I.loc
  refine⟨m,ns m hn,λi x v e1 e2 e3=>?_⟩
  obtain⟨u,r,l⟩:=hl i x v e1 e2 e3
  refine⟨u,r,?_⟩
  rcases l with l | ⟨k,c,e,z⟩
  ·exact .inl l
  ·exact .inr ⟨k,c,e,cellK x c e _ z⟩
 ·obtain⟨v,z⟩:=I.cell x c e
  exact⟨v,cellK x c e v z⟩
 ·obtain⟨m,⟨o,_,_,ho,_⟩,_⟩:=I.loc
  exact free _ o (λz=>(hch _ z).2.1 rfl) ho I.free
 ·obtain⟨v,o,ho,hd⟩:=I.cell x c e
  exact free c o (λz=>(hch c z).2.2.1 x c e rfl) ho (I.freeC x c e)
 ·obtain⟨e,n,ne,nf,d⟩:=I.pin p hp
  have nch:p.1∉ch:=λz=>(hch p.1 z).2.2.2 p hp rfl
  exact⟨keep p.1 p.2 ne nf nch e n,free p.1 p.2 nch e n,ne,nf,d⟩
def Zp.un {t':Nat}(I:Zp X pins σ H s)(u:Un X.fs [] H H' s.heap h')(hok:Qp X.prog X.w H' h'):Zp X pins σ H' {s with heap:=h',toks:=t'}:=by
 obtain⟨m,⟨o,es,ep,ho,r⟩,_⟩:=id I.loc
 obtain⟨sl,hL⟩:=u.any ho I.free (by simp)
 exact I.step (g':=s.gens) (d':=s.drawn) (ch:=[]) (λ_ z=>nomatch z) (λb o _ hb _ e n=>u.keep b o e n hb (by simp)) (λb o _ hb _ e n=>u.slot b o e n hb (by simp)) (λb o _ e n=>u.free b o e n (by simp)) (λb o _ e=>u.there b o e (by simp)) u.tups u.frzs u.tbls (λm' hm=>by
  obtain⟨o',es',ep',ho',r'⟩:=hm
  rw[ho] at ho';cases ho'
  exact⟨_,es',ep',hL,r'⟩) hok I.bare
def Zp.call {g':Array GenState}{t':Nat}{d':Drawn}{ch:List Addr}(I:Zp X pins σ H s)(u:Un (zP X.stack) ch H H' s.heap h')(hok:Qp X.prog X.w H' h')(hg:AllBare g')
  (hch:∀b∈ch,(b∈X.ex\/X.s₀.heap.objs.size<=b)/\b≠X.env.locals/\(∀x c,X.env.cells.lookup x=some c->c≠b)/\∀p∈X.pn++pins,p.1≠b):
  Zp X pins σ H' {s with heap:=h',gens:=g',drawn:=d',toks:=t'}:=by
 obtain⟨m,⟨o,es,ep,ho,r⟩,_⟩:=id I.loc
 obtain⟨sl,hL⟩:=u.any ho I.free λz=>(hch _ z).2.1 rfl
 exact I.step (ch:=ch) hch (λb o hL hb hc e n=>u.keep b o e n (λz=>(List.mem_cons.mp (I.stkSub b z)).elim hL hb) hc) (λb o _ _ hc e n=>u.any e n hc) (λb o hc e n=>u.free b o e n hc) (λb o hc e=>u.there b o e hc) u.tups u.frzs u.tbls (λm' hm=>by
  obtain⟨o',es',ep',ho',r'⟩:=hm
  rw[ho] at ho';cases ho'
  exact⟨_,es',ep',hL,r'⟩) hok hg
def Zp.turned {t':Nat}{it:Addr}(I:Zp X pins σ H s)(k:∀b o,b≠it->s.heap.get? b=some o->h'.get? b=some o)(hn:H it=none)(hL:it≠X.env.locals)
  (h1:it∈X.ex\/X.s₀.heap.objs.size<=it) (h2:∀x c,X.env.cells.lookup x=some c->c≠it) (h3:∀p∈X.pn++pins,p.1≠it):Zp X pins σ H {s with heap:=h',toks:=t'}:=by
 have nit:∀b u,H b=some u->b≠it:=λb u e z=>by rw[z,hn] at e;cases e
 refine I.step (g':=s.gens) (d':=s.drawn) (ch:=[it]) (λb hb=>?_) (λb o _ _ hc e _=>k b o (λz=>hc (by simp[z])) e) (λb o _ _ hc e _=>⟨o.slots,k b o (λz=>hc (by simp[z])) e⟩) (λ_ _ _ _ n=>n)
  (λb o hc e=>⟨o,k b o (λz=>hc (by simp[z])) e⟩) (λ_ _ e=>e) (λ_ _ _ e=>e) (λb ps e=>⟨#[],by rw[e];simp⟩) (λm hm=>?_) (λb u e=>?_) I.bare
 ·have e:b=it:=by simpa using hb
  subst e
  exact⟨h1,hL,h2,h3⟩
 ·obtain⟨o,es,ep,ho,r⟩:=hm
  exact⟨o,es,ep,k _ o (Ne.symm hL) ho,r⟩
 ·refine(I.hok b u e).stay (λc v hc q=>k c v ?_ q) (λ_ q=>q) λ_ _ q=>q
  rcases hc with z | z
  ·rw[z];exact nit b u e
  ·exact nit c _ z
def Zp.tok (I:Zp X pins σ H s)(t:Nat):Zp X pins σ H {s with toks:=t}:=I.un (h':=s.heap) (t':=t) Un.refl I.hok
def Zp.kept {t':Nat}(I:Zp X pins σ H s)(k:∀b u,s.heap.get? b=some u->h'.get? b=some u):Zp X pins σ H {s with heap:=h',toks:=t'}:=I.un (Un.kept k) (I.hok.kept k)
def Zp.laid {a:Addr}{o:HO}{t':Nat}(I:Zp X pins σ H s)(k:∀b u,s.heap.get? b=some u->h'.get? b=some u)(hp:s.heap.objs.size<=a)(new:Ja X.prog X.w (Yq H a o) h' a o):
  Zp X pins σ (Yq H a o) {s with heap:=h',toks:=t'}:=I.un (Un.laid k hp (I.hok.fresh hp)) (I.hok.laid k hp new)
def Zp.write {x e:Addr}{o:HO}{t':Nat}(I:Zp X pins σ H s)(mu:oi (H x))(he:e=x\/H e=some (.own x))(k:∀b u,b≠e->s.heap.get? b=some u->h'.get? b=some u)(heo:∃u,h'.get? e=some u)
  (new:Ja X.prog X.w (Yq H x o) h' x o):Zp X pins σ (Yq H x o) {s with heap:=h',toks:=t'}:=I.un (Un.write mu he k heo) (I.hok.write mu he k heo new)
def Zp.weak {σ':List (Option V)}(I:Zp X pins σ H s)(hl:σ'.length=σ.length)(w:∀(i:Nat) v,σ'[i]?=some (some v)->σ[i]?=some (some v)):Zp X pins σ' H s:=
 ⟨I.ok,I.os,I.bare,I.base,let ⟨m,hn,hl'⟩:=I.loc;⟨m,hn,λi x v e1 e2 e3=>hl' i x v e1 (w i v e2) e3⟩,I.cell,I.free,I.freeC,I.pin,I.hok,hl.trans I.len⟩
def Zp.pins_of {pins':List (Addr×Obj)}(I:Zp X pins σ H s)(h:∀p∈pins',s.heap.get? p.1=some p.2/\H p.1=none/\p.1≠X.env.locals/\p.1∉X.fs/\∀v,p.2.data≠.cell v):Zp X pins' σ H s:=
 ⟨I.ok,I.os,I.bare,I.base,I.loc,I.cell,I.free,I.freeC,λp hp=>(XS.mp hp).elim (λz=>I.pin p (List.mem_append_left _ z)) (h p),I.hok,I.len⟩
def Ft {N:List Str}(hN:N.Nodup){i j:Nat}{x:Str}(a:N[i]?=some x)(b:N[j]?=some x):i=j:=by
 obtain⟨h1,e1⟩:=List.getElem?_eq_some_iff.mp a
 obtain⟨h2,e2⟩:=List.getElem?_eq_some_iff.mp b
 exact(List.getElem_inj hN).mp (e1.trans e2.symm)
def Ke {M:Model}{A:Around}{E:Value->Shared->Prop}{i:Nat}{x:Str}{v:V}{u:Value}{Q:Unit->Shared->Prop}(I:Zp X pins σ H s)(hN:X.N.Nodup)(hi:X.N[i]?=some x)(hx:rQ X.env.scope x)(r:Z0 v u)
  (h:∀s',Zp X pins (σ.set i (some v)) H s'->(∃a,Heap.SameBut a s.heap s'.heap/\(a=X.env.locals\/X.env.cells.lookup x=some a))->Q () s') (hf:X.fn x=true\/X.env.scope.names.lookup x=some .local:=by first | exact .inl rfl | exact .inr rfl | assumption):wpAny M A (storeName X.env x u) Q E s:=by
 obtain⟨m,hn,hl⟩:=id I.loc
 have hcls:(X.env.scope.kind==.class||(X.env.scope.kind==.module&&X.env.locals !=X.env.globals))=false:=by rw[I.ok.kind];rfl
 have hiσ:i<σ.length:=by rw[I.len];exact(List.getElem?_eq_some_iff.mp hi).1
 have cne:=I.cne
 have tracked:∀{a:Addr} {h':Heap},(∃o,s.heap.get? a=some o/\H a=none)->Heap.SameBut a s.heap h'->Qp X.prog X.w H h':=λ{a h'} ha hs b ob e=>by
  obtain⟨_,_,hfree⟩:=ha
  refine(I.hok b ob e).stay (λc w' hc q=>(hs.2 c ?_).trans q) (λ_ q=>q) λ_ _ q=>q
  rintro rfl
  rcases hc with rfl | hc
  ·rw[hfree] at e;cases e
  ·rw[hfree] at hc;cases hc
 rcases hx with hk | hk
 ·refine wpAny_storeName_local hk hn (λh' hn' hs=>?_) hcls
  obtain⟨oL,_,_,hoL,_⟩:=id hn
  refine h _ ⟨I.ok,I.os,I.bare,⟨λb o e n hb hx=>?_,λb o e n hb hx=>?_,I.base.free,λb o e hx=>?_,I.base.tups,I.base.frzs,I.base.tbls⟩,⟨_,hn',λj y v' e1 e2 e3=>?_⟩,λy c e=>?_,I.free,I.freeC,λp hp=>?_,tracked ⟨oL,hoL,I.free⟩ hs,by simpa using I.len⟩ ⟨_,hs,.inl rfl⟩
  ·exact(hs.2 b (XH (XG (XD e) I.ok.above))).trans (I.base.keep b o e n hb hx)
  ·obtain⟨sl,e1⟩:=I.base.slot b o e n hb hx
   exact⟨sl,(hs.2 b (XH (XG (XD e) I.ok.above))).trans e1⟩
  ·obtain⟨o',e1⟩:=I.base.there b o e hx
   exact⟨o',(hs.2 b (XH (XG (XD e) I.ok.above))).trans e1⟩
  ·by_cases hj:j=i
   ·subst hj
    rw[hi] at e1;cases e1
    rw[List.getElem?_set_self hiσ] at e2
    cases e2
    exact⟨u,r,.inl ⟨hk,by simp⟩⟩
   ·rw[List.getElem?_set_ne (Ne.symm hj)] at e2
    obtain⟨u',r',q⟩:=hl j y v' e1 e2 e3
    refine⟨u',r',?_⟩
    rcases q with⟨k,e⟩ | ⟨k,c,e,z⟩
    ·refine .inl ⟨k,?_⟩
     have:y≠x:=λe=>hj (Ft hN e1 (e▸hi))
     simp[this,e]
    ·exact .inr ⟨k,c,e,z.sameBut hs (cne y c e)⟩
  ·obtain⟨w',z⟩:=I.cell y c e
   exact⟨w',z.sameBut hs (cne y c e)⟩
  ·obtain⟨e,n,ne,nf,d⟩:=I.pin p hp
   exact⟨(hs.2 p.1 ne).trans e,n,ne,nf,d⟩
 ·have hfn:X.fn x=true:=by
   rcases hf with z | z
   ·exact z
   ·rw[z] at hk;cases hk
  obtain⟨c,hc⟩:=I.ok.has x (.inl hk)
  obtain⟨w',z⟩:=I.cell x c hc
  refine wpAny_storeName_cell I.ok.kind hk hc z (λh' hc' hs=>?_)
  obtain⟨oc,hoc,hocd⟩:=id z
  refine h {s with heap:=h'} ⟨I.ok,I.os,I.bare,⟨λb o e n hb hx=>?_,λb o e n hb hx=>?_,I.base.free,λb o e hx=>?_,I.base.tups,I.base.frzs,I.base.tbls⟩,⟨m,hn.sameBut hs (Ne.symm (cne x c hc)),λj y v' e1 e2 e3=>?_⟩,λy c' e=>?_,I.free,I.freeC,λp hp=>?_,tracked ⟨oc,hoc,I.freeC x c hc⟩ hs,by simpa using I.len⟩ ⟨c,hs,.inr hc⟩
  ·exact(hs.2 b (XH (XG (XD e) (I.ok.cab x c hfn hc)))).trans (I.base.keep b o e n hb hx)
  ·obtain⟨sl,e1⟩:=I.base.slot b o e n hb hx
   exact⟨sl,(hs.2 b (XH (XG (XD e) (I.ok.cab x c hfn hc)))).trans e1⟩
  ·obtain⟨o',e1⟩:=I.base.there b o e hx
   exact⟨o',(hs.2 b (XH (XG (XD e) (I.ok.cab x c hfn hc)))).trans e1⟩
  ·by_cases hj:j=i
   ·subst hj
    rw[hi] at e1;cases e1
    rw[List.getElem?_set_self hiσ] at e2
    cases e2
    exact⟨u,r,.inr ⟨.inl hk,c,hc,hc'⟩⟩
   ·rw[List.getElem?_set_ne (Ne.symm hj)] at e2
    obtain⟨u',r',q⟩:=hl j y v' e1 e2 e3
    refine⟨u',r',?_⟩
    rcases q with q | ⟨k,c',e,z'⟩
    ·exact .inl q
    ·refine .inr ⟨k,c',e,z'.sameBut hs ?_⟩
     rintro rfl
     exact hj (Ft hN e1 (I.ok.inj _ _ _ e hc▸hi))
  ·by_cases hcc:c'=c
   ·subst hcc;exact⟨_,hc'⟩
   ·obtain⟨w2,z2⟩:=I.cell y c' e
    exact⟨w2,z2.sameBut hs hcc⟩
  ·obtain⟨e,n,ne,nf,d⟩:=I.pin p hp
   refine⟨(hs.2 p.1 ?_).trans e,n,ne,nf,d⟩
   intro q
   rw[q,hoc] at e
   have q':oc=p.2:=YH e
   exact d w' (by rw[<-q'];exact hocd)
def G8 {M:Model}{A:Around}{E:Value->Shared->Prop}{i:Nat}{x:Str}{v:V}{u:Value}{Q:Unit->Shared->Prop}(I:Zp X pins σ H s)(hN:X.N.Nodup)(hi:X.N[i]?=some x)(hx:rQ X.env.scope x)(r:Z0 v u)
  (h:∀s',Zp X pins (σ.set i (some v)) H s'->Q () s') (hf:X.fn x=true\/X.env.scope.names.lookup x=some .local:=by first | exact .inl rfl | exact .inr rfl | assumption):wpAny M A (storeName X.env x u) Q E s:=
 Ke I hN hi hx r (λs' I' _=>h s' I') hf
def Zp.call' {s':Shared}{ch:List Addr}(I:Zp X pins σ H s)(ho:s'.os=s.os)(u:Un (zP X.stack) ch H H' s.heap s'.heap)(hok:Qp X.prog X.w H' s'.heap)(hg:AllBare s'.gens)
  (hch:∀b∈ch,(b∈X.ex\/X.s₀.heap.objs.size<=b)/\b≠X.env.locals/\(∀x c,X.env.cells.lookup x=some c->c≠b)/\∀p∈X.pn++pins,p.1≠b):Zp X pins σ H' s':=by
 obtain⟨h',g',d',t',o'⟩:=s'
 have e:o'=s.os:=ho
 subst e
 exact I.call (g':=g') (t':=t') (d':=d') u hok hg hch
end
abbrev XK:=Value->Option Addr->Hp->Prop
abbrev St:=List (Option V)
abbrev VK:=V->Hp->Prop
abbrev TE:=St->Hp->VK->Prop
abbrev TT:=St->Hp->(Bool->Hp->Prop)->Prop
abbrev TA:=St->Hp->(List V->Hp->Prop)->Prop
structure Lz where
 nx:St->Hp->Prop
 rt:VK
 bk:St->Hp->Prop:=λ_ _=>False
 ct:St->Hp->Prop:=λ_ _=>False
abbrev TS:=Lz->St->Hp->Prop
def EP (X:Cx)(pins:List (Addr×Obj))(σ:St)(Q:VK)(u:Value)(s':Shared):Prop:=∃v H',Zp X pins σ H' s'/\Z0 v u/\Q v H'
def TP (X:Cx)(pins:List (Addr×Obj))(σ:St)(Q:Bool->Hp->Prop)(b:Bool)(s':Shared):Prop:=∃H',Zp X pins σ H' s'/\Q b H'
def AP (X:Cx)(pins:List (Addr×Obj))(σ:St)(Q:List V->Hp->Prop)(us:List Value)(s':Shared):Prop:=∃vs H',Zp X pins σ H' s'/\Zz vs us/\Q vs H'
def SP (X:Cx)(pins:List (Addr×Obj))(D:Lz)(f:Flow)(s':Shared):Prop:=
 match f with
 | .next=>∃σ' H',Zp X pins σ' H' s'/\D.nx σ' H'
 | .brk=>∃σ' H',Zp X pins σ' H' s'/\D.bk σ' H'
 | .cont=>∃σ' H',Zp X pins σ' H' s'/\D.ct σ' H'
 | .ret u=>∃v σ' H',Zp X pins σ' H' s'/\Z0 v u/\D.rt v H'
def PE (X:Cx)(e:Expr)(t:TE):Prop:=
 ∀(pins:List (Addr×Obj)) (s:Shared) (σ:St) (H:Hp) (Q:VK),Zp X pins σ H s->t σ H Q->wpAny (model X.prog X.w) X.A (eval e X.env) (EP X pins σ Q) X.xe s
def PT (X:Cx)(e:Expr)(t:TT):Prop:=
 ∀(pins:List (Addr×Obj)) (s:Shared) (σ:St) (H:Hp) (Q:Bool->Hp->Prop),Zp X pins σ H s->t σ H Q->wpAny (model X.prog X.w) X.A (isTrue e X.env (eval e X.env)) (TP X pins σ Q) X.xe s
def PW (X:Cx)(e:Expr)(t:TT):Prop:=
 ∀(whole:Sem Value) (pins:List (Addr×Obj)) (s:Shared) (σ:St) (H:Hp) (Q:Bool->Hp->Prop),Zp X pins σ H s->t σ H Q->wpAny (model X.prog X.w) X.A (isTrue e X.env whole) (TP X pins σ Q) X.xe s
def PW.pt {X:Cx}{e:Expr}{t:TT}(h:PW X e t):PT X e t:=h _
def PA (X:Cx)(es:List Expr)(t:TA):Prop:=
 ∀(pos:Pos) (pins:List (Addr×Obj)) (s:Shared) (σ:St) (H:Hp) (Q:List V->Hp->Prop),Zp X pins σ H s->t σ H Q->wpAny (model X.prog X.w) X.A (spliced (backTo pos (starEach es X.env))) (AP X pins σ Q) X.xe s
def PS (X:Cx)(st:Stmt)(t:TS):Prop:=
 ∀(pins:List (Addr×Obj)) (s:Shared) (σ:St) (H:Hp) (D:Lz),Zp X pins σ H s->t D σ H->wpAny (model X.prog X.w) X.A (exec st X.env) (SP X pins D) X.xe s
def A3 (X:Cx)(st:List Stmt)(t:TS):Prop:=
 ∀(pins:List (Addr×Obj)) (s:Shared) (σ:St) (H:Hp) (D:Lz),Zp X pins σ H s->t D σ H->wpAny (model X.prog X.w) X.A (execs st X.env) (SP X pins D) X.xe s
def Jp {α:Type}{t:Sem α}{Q Q':α->Shared->Prop}{M:Model}{A:Around}{E:Value->Shared->Prop}{s:Shared}(h:wpAny M A t Q E s)(hQ:∀a s,Q a s->Q' a s):wpAny M A t Q' E s:=wpAny_mono h hQ λ_ _ x=>x
section
variable {X:Cx}
def qc (i:Nat):TE:=λσ H Q=>∃v,σ[i]?=some (some v)/\Q v H
def tC (v:V):TE:=λ_ H Q=>Q v H
def tf {i:Nat}{x:Str}{pos:Pos}(hN:X.N[i]?=some x)(hv:oH X.env.scope x)(hd:(x==("__debug__":Str))=false:=by decide)(hcd:(x==("__classdict__":Str))=false:=by decide):PE X (.Name x pos) (qc i):=by
 intro pins s σ H Q I h
 obtain⟨v,e,h⟩:=h
 obtain⟨m,hn,hl⟩:=I.loc
 obtain⟨u,r,l⟩:=hl i x v hN e hv
 have fin:EP X pins σ Q u s:=⟨v,H,I,r,h⟩
 rcases l with⟨hk,hm⟩ | ⟨hk,c,hc,hcell⟩
 ·exact wpAny_Name (wpAny_loadName_local I.ok.kind hk hn hm fin) hd
 ·rcases hk with hk | hk
  ·exact wpAny_Name (wpAny_loadName_cell I.ok.kind hk hc hcell fin) hd
  ·exact wpAny_Name (wpAny_loadName_free I.ok.kind hk hc hcell fin hcd) hd
def t7 {i j pos}:PE X (.Constant (.int i) j pos) (tC (.int i)):=λ_ _ _ H _ I h=>wpAny_Constant_int ⟨.int i,H,I.tok _,⟨_,rfl⟩,h⟩
def qU {b j pos}:PE X (.Constant (.bool b) j pos) (tC (.bl b)):=λ_ _ _ H _ I h=>Constant_bool ⟨.bl b,H,I,rfl,h⟩
def tw {j pos}:PE X (.Constant .none j pos) (tC .non):=λ_ _ _ H _ I h=>Constant_none ⟨.non,H,I,rfl,h⟩
def tq {x j pos}:PE X (.Constant (.str x) j pos) (tC (.str x)):=λ_ _ _ H _ I h=>Calls.Constant_str ⟨.str x,H,I.tok _,⟨_,rfl⟩,h⟩
def Gl (X:Cx)(x:Str):Prop:=X.env.kindOf x=some .globalImplicit
def Ac {E:Value->Shared->Prop}{pins:List (Addr×Obj)}{s:Shared}{σ:St}{H:Hp}{x:Str}{u:Value}{pos:Pos}{Q:Value->Shared->Prop}(I:Zp X pins σ H s)(hg:Gl X x)(hm:X.mg x=some u)(h:Q u s)
  (hd:(x==("__debug__":Str))=false:=by decide):wpAny (model X.prog X.w) X.A (eval (.Name x pos) X.env) Q E s:=
 Calls.Name_function_global I.ok.kind hg (Calls.loadGlobal_global (by rw[I.ok.glob];exact I.mod.glob.keeps I.bk) hm h) hd
def Uj {E:Value->Shared->Prop}{pins:List (Addr×Obj)}{s:Shared}{σ:St}{H:Hp}{x:Str}{u:Value}{pos:Pos}{Q:Value->Shared->Prop}(I:Zp X pins σ H s)(hg:Gl X x)(hm:X.mg x=none)(hv:bootBuiltins x=some u)(h:Q u s)
  (hn:x≠"__name__":=by decide) (hd:(x==("__debug__":Str))=false:=by decide):wpAny (model X.prog X.w) X.A (eval (.Name x pos) X.env) Q E s:=by
 obtain⟨mb,h1,h2⟩:=I.mod.blt
 exact Calls.Name_function_global I.ok.kind hg (Calls.loadGlobal_builtin (by rw[I.ok.glob];exact I.mod.glob.keeps I.bk) hm (by rw[I.ok.blt];exact h1.keeps I.bk) ((h2 x hn).trans hv) h) hd
def wQ {x:Str}{v:V}{u:Value}{pos:Pos}(hg:Gl X x)(hm:X.mg x=none)(hv:bootBuiltins x=some u)(r:Z0 v u)(hn:x≠"__name__":=by decide)(hd:(x==("__debug__":Str))=false:=by decide):PE X (.Name x pos) (tC v):=
 λ_ _ _ H _ I h=>Uj I hg hm hv ⟨v,H,I,r,h⟩ hn hd
def lY (ta tb:TE)(k:Int->Int->Hp->Prop):St->Hp->Prop:=λσ H=>ta σ H λx H1=>tb σ H1 λy H2=>∃i j,x=.int i/\y=.int j/\k i j H2
def lO (ta tb:TE):TE:=λσ H Q=>lY ta tb (λi j H2=>(-(2^64)<i/\i<2^64)/\Q (.int (i*j)) H2) σ H
variable {a b:Expr}{ta tb:TE}{pos:Pos}
def lR (ta:TE):TE:=λσ H Q=>ta σ H λx H1=>Q (.bl (decide (x=.non))) H1
def tB (t:TE):TT:=λσ H Q=>t σ H λx H1=>∃c,x=.bl c/\Q c H1
variable {tA tB':TT}{Xl:List Expr}
def qu (t u:TT):TT:=λσ H Q=>t σ H λc H1=>if c=true then u σ H1 Q else Q false H1
def mY (t u:TT):TT:=λσ H Q=>t σ H λc H1=>if c=true then Q true H1 else u σ H1 Q
def w9 (ha:PT X a tA):PW X (.BoolOp .And [a] pos) tA:=by
 intro wh pins s σ H Q I h
 refine isTrue_and (Jp (ha pins s σ H Q I h) λc s1 e=>?_)
 cases c with
 | true=>exact isTrue_and_nil e
 | false=>exact e
def uP (ha:PT X a tA):PW X (.BoolOp .Or [a] pos) tA:=by
 intro wh pins s σ H Q I h
 refine isTrue_or (Jp (ha pins s σ H Q I h) λc s1 e=>?_)
 cases c with
 | false=>exact isTrue_or_nil e
 | true=>exact e
def uQ (ha:PT X a tA)(hb:PW X (.BoolOp .And (b::Xl) pos) tB'):PW X (.BoolOp .And (a::b::Xl) pos) (qu tA tB'):=by
 intro wh pins s σ H Q I h
 refine isTrue_and (Jp (ha pins s σ H _ I h) λc s1 ⟨H1,I1,q1⟩=>?_)
 cases c with
 | true=>exact hb wh pins s1 σ H1 Q I1 q1
 | false=>exact⟨H1,I1,q1⟩
def qL (ha:PT X a tA)(hb:PW X (.BoolOp .Or (b::Xl) pos) tB'):PW X (.BoolOp .Or (a::b::Xl) pos) (mY tA tB'):=by
 intro wh pins s σ H Q I h
 refine isTrue_or (Jp (ha pins s σ H _ I h) λc s1 ⟨H1,I1,q1⟩=>?_)
 cases c with
 | true=>exact⟨H1,I1,q1⟩
 | false=>exact hb wh pins s1 σ H1 Q I1 q1
def vU (ta tb:TE):TE:=λσ H Q=>ta σ H λx H1=>∃c,x=.bl c/\if c=true then tb σ H1 Q else Q (.bl false) H1
def tu {op}{t:TE}(h:PE X a t):PE X (.BoolOp op [a] pos) t:=λpins s σ H Q I hw=>BoolOp_one (h pins s σ H Q I hw)
def tE (ha:PE X a ta)(hb:PE X (.BoolOp .And (b::Xl) pos) tb):PE X (.BoolOp .And (a::b::Xl) pos) (vU ta tb):=by
 intro pins s σ H Q I h
 refine BoolOp_and (Jp (ha pins s σ H _ I h) λv s1 ⟨x,H1,I1,r1,q1⟩=>?_)
 obtain⟨c,rfl,q1⟩:=q1
 cases r1
 refine wpAny_truthy_bool ?_
 cases c with
 | true=>exact hb pins s1 σ H1 Q I1 q1
 | false=>exact⟨.bl false,H1,I1,rfl,q1⟩
def lf (t:TT)(ta tb:TE):TE:=λσ H Q=>t σ H λc H1=>if c=true then ta σ H1 Q else tb σ H1 Q
def jm {c:Expr}(hc:PT X c tA)(ha:PE X a ta)(hb:PE X b tb):PE X (.IfExp c a b pos) (lf tA ta tb):=by
 intro pins s σ H Q I h
 refine wpAny_IfExp (Jp (hc pins s σ H _ I h) λd s1 ⟨H1,I1,q1⟩=>?_)
 cases d with
 | true=>exact ha pins s1 σ H1 Q I1 q1
 | false=>exact hb pins s1 σ H1 Q I1 q1
end
def Xr (K:W.Frag)(H:Hp)(a:Addr)(xs:List V):Prop:=
 Rd H a (.lst xs)\/
  ∃(o:Obj) (its:Array Value) (n:Nat),K.lookup a=some o/\o.cls=.type "list"/\o.dict=none/\o.data=.seq its n/\its.size<=sizeLine/\Zz xs its.toList
def V6 (K:W.Frag)(H:Hp)(a:Addr)(xs:List V):Prop:=
 Rd H a (.tup xs)\/
  ∃(o:Obj) (its:Array Value) (n:Nat),K.lookup a=some o/\o.cls=.type "tuple"/\o.data=.seq its n/\its.size<=sizeLine/\Zz xs its.toList
def mE:Value->Option V
 | .none=>some .non
 | .bool b=>some (.bl b)
 | .int i _=>some (.int i)
 | .str x _=>some (.str x)
 | .bytes b _=>some (.byt b)
 | .float b _=>some (.flt b)
 | .ref a=>some (.ref a)
 | .type n=>some (.ty n)
 | _=>none
def Z0.abs {x:V}{u:Value}(r:Z0 x u):mE u=some x:=by
 cases x with
 | non=>cases r;rfl
 | bl _=>cases r;rfl
 | int _=>obtain⟨t,rfl⟩:=r;rfl
 | str _=>obtain⟨t,rfl⟩:=r;rfl
 | byt _=>obtain⟨t,rfl⟩:=r;rfl
 | flt _=>obtain⟨t,rfl⟩:=r;rfl
 | ref _=>cases r;rfl
 | ty _=>cases r;rfl
def Z0.inj {x y:V}{u:Value}(r:Z0 x u)(q:Z0 y u):x=y:=YH (r.abs.symm.trans q.abs)
def Zz.inj:∀{xs ys:List V} {us:List Value},Zz xs us->Zz ys us->xs=ys
 | _,_,_,.nil,.nil=>rfl
 | _,_,_,.cons r t,.cons r' t'=>by rw[r.inj r',Zz.inj t t']
section
variable {X:Cx}{pins:List (Addr×Obj)}{σ:St}{H:Hp}{s:Shared}{a:Addr}{xs ys:List V}
def Xr.of {K:W.Frag}(h:H a=some (.lst xs)):Xr K H a xs:=.inl (.inl h)
def V6.of {K:W.Frag}(h:H a=some (.tup xs)):V6 K H a xs:=.inl (.inl h)
def Zp.list (I:Zp X pins σ H s)(h:Xr X.K H a xs):∃its:List Value,Zz xs its/\PlainL s.heap a its.toArray/\xs.length<=sizeLine:=by
 rcases h with h | ⟨o,its,n,hk,hc,hd,hs,hz,r⟩
 ·obtain⟨z,its,n,r,e⟩:=h.ok I.hok
  exact⟨its,r,⟨_,n,e,rfl,rfl,rfl⟩,z⟩
 ·refine⟨its.toList,r,⟨o,n,I.kIn a o hk,hc,hd,by simpa using hs⟩,?_⟩
  have e:=r.length
  simp only[Array.length_toList] at e
  omega
def Zp.tuple (I:Zp X pins σ H s)(h:V6 X.K H a xs):∃its:List Value,Zz xs its/\IsTup s.heap a its.toArray/\xs.length<=sizeLine:=by
 rcases h with h | ⟨o,its,n,hk,hc,hs,hz,r⟩
 ·obtain⟨z,its,r,p⟩:=h.ok I.hok
  exact⟨its,r,p,z⟩
 ·refine⟨its.toList,r,⟨o,I.kIn a o hk,hc,n,by simpa using hs⟩,?_⟩
  have e:=r.length
  simp only[Array.length_toList] at e
  omega
def Zp.list_inj (I:Zp X pins σ H s)(h:Xr X.K H a xs)(h':Xr X.K H a ys):xs=ys:=by
 obtain⟨its,r,⟨o,n,e,_,_,d⟩,_⟩:=I.list h
 obtain⟨its',r',⟨o',n',e',_,_,d'⟩,_⟩:=I.list h'
 rw[e] at e';cases e'
 rw[d] at d'
 injection d' with d1 _
 have:its=its':=by simpa using congrArg Array.toList d1
 subst this
 exact r.inj r'
def Zp.tuple_inj (I:Zp X pins σ H s)(h:V6 X.K H a xs)(h':V6 X.K H a ys):xs=ys:=by
 obtain⟨its,r,⟨o,e,_,n,d⟩,_⟩:=I.tuple h
 obtain⟨its',r',⟨o',e',_,n',d'⟩,_⟩:=I.tuple h'
 rw[e] at e';cases e'
 rw[d] at d'
 injection d' with d1 _
 have:its=its':=by simpa using congrArg Array.toList d1
 subst this
 exact r.inj r'
end
abbrev Cx.wish (X:Cx)(E:Value->Shared->Prop):Cx:={X with xe:=E}
abbrev Cx.nox (X:Cx):Cx:=X.wish λ_ _=>False
def Cx.Ok.wish {X:Cx}(ok:X.Ok)(E:Value->Shared->Prop):(X.wish E).Ok:=
 ⟨ok.mod,ok.kind,ok.glob,ok.blt,ok.above,ok.inj,ok.has,ok.cab,ok.hd,ok.frames,ok.stk,ok.exf,ok.bs,ok.bsz,ok.noex,ok.exfs,ok.funs,ok.frf⟩
def Cx.Ok.unwish {X:Cx}{E:Value->Shared->Prop}(ok:(X.wish E).Ok):X.Ok:=
 ⟨ok.mod,ok.kind,ok.glob,ok.blt,ok.above,ok.inj,ok.has,ok.cab,ok.hd,ok.frames,ok.stk,ok.exf,ok.bs,ok.bsz,ok.noex,ok.exfs,ok.funs,ok.frf⟩
section
variable {X:Cx}{pins:List (Addr×Obj)}{σ:St}{H:Hp}{s:Shared}{E:Value->Shared->Prop}
def Zp.wish (I:Zp X pins σ H s)(E:Value->Shared->Prop):Zp (X.wish E) pins σ H s:=⟨I.ok.wish E,I.os,I.bare,I.base,I.loc,I.cell,I.free,I.freeC,I.pin,I.hok,I.len⟩
def Zp.unwish (I:Zp (X.wish E) pins σ H s):Zp X pins σ H s:=⟨I.ok.unwish,I.os,I.bare,I.base,I.loc,I.cell,I.free,I.freeC,I.pin,I.hok,I.len⟩
def SP.unwish {D:Lz}{f:Flow}{s':Shared}(h:SP (X.wish E) pins D f s'):SP X pins D f s':=by
 cases f with
 | next=>obtain⟨σ',H',I,q⟩:=h;exact⟨σ',H',I.unwish,q⟩
 | brk=>obtain⟨σ',H',I,q⟩:=h;exact⟨σ',H',I.unwish,q⟩
 | cont=>obtain⟨σ',H',I,q⟩:=h;exact⟨σ',H',I.unwish,q⟩
 | ret u=>obtain⟨v,σ',H',I,r,q⟩:=h;exact⟨v,σ',H',I.unwish,r,q⟩
def A3.nox {st:List Stmt}{t:TS}(h:A3 X.nox st t):A3 X st t:=λpins s σ H D I hw=>
 wpAny_mono (h pins s σ H D (I.wish _) hw) (λ_ _ q=>q.unwish) λ_ _ z=>False.elim z
end
section
variable {X:Cx}{st:Stmt}{Xl:List Stmt}{t u:TS}{e:Expr}{te:TE}{pos:Pos}
def qh:TS:=λD σ H=>D.nx σ H
def nr (t u:TS):TS:=λD σ H=>t {D with nx:=u D} σ H
def wF:A3 X [] qh:=λ_ _ σ H _ I h=>wpAny_execs_nil ⟨σ,H,I,h⟩
def je (h1:PS X st t)(h2:A3 X Xl u):A3 X (st::Xl) (nr t u):=by
 intro pins s σ H D I h
 refine wpAny_execs_cons (Jp (h1 pins s σ H {D with nx:=u D} I h) λf s1 q=>?_)
 cases f with
 | next=>
  obtain⟨σ',H',I',q⟩:=q
  exact h2 pins s1 σ' H' D I' q
 | ret v=>exact q
 | brk=>exact q
 | cont=>exact q
def wE (h1:PS X st t):A3 X [st] t:=by
 intro pins s σ H D I h
 refine wpAny_execs_cons (Jp (h1 pins s σ H D I h) λf s1 q=>?_)
 cases f with
 | next=>exact wpAny_execs_nil q
 | ret v=>exact q
 | brk=>exact q
 | cont=>exact q
def qq:TS:=λD σ H=>D.ct σ H
def Fp:PS X (.Continue pos) qq:=λ_ _ σ H _ I h=>wpAny_Continue ⟨σ,H,I,h⟩
def Zp.quiet {pins:List (Addr×Obj)}{σ:St}{H:Hp}{s:Shared}(I:Zp X pins σ H s):interactive X.env=false:=by simp[interactive,I.ok.kind]
def qm (te:TE):TS:=λD σ H=>te σ H λ_ H1=>D.nx σ H1
def wG (he:PE X e te)(hs:swapsWith e none pos.line X.env=pure false:=by rfl):PS X (.Expr e pos) (qm te):=by
 intro pins s σ H D I h
 exact wpAny_Expr_any (Jp (he pins s σ H _ I h) λv s1 ⟨x,H1,I1,r1,q1⟩=>⟨σ,H1,I1,q1⟩) I.quiet hs
def nt (te:TE):TS:=λD σ H=>te σ H D.rt
def uU (he:PE X e te):PS X (.Return (some e) pos) (nt te):=by
 intro pins s σ H D I h
 exact wpAny_Return_some (Jp (he pins s σ H _ I h) λv s1 ⟨x,H1,I1,r1,q1⟩=>⟨x,σ,H1,I1,r1,q1⟩)
def nu (c:TT)(t u:TS):TS:=λD σ H=>c σ H λb H1=>if b=true then t D σ H1 else u D σ H1
def qM {c:Expr}{a b:List Stmt}{tc:TT}(hc:PT X c tc)(ha:A3 X a t)(hb:A3 X b u):PS X (.If c a b pos) (nu tc t u):=by
 intro pins s σ H D I h
 refine wpAny_If (Jp (hc pins s σ H _ I h) λd s1 ⟨H1,I1,q1⟩=>?_)
 cases d with
 | true=>exact ha pins s1 σ H1 D I1 q1
 | false=>exact hb pins s1 σ H1 D I1 q1
def uE:TS:=λ_ _ _=>False
def jg:PS X st uE:=λ_ _ _ _ _ _ h=>h.elim
end
abbrev TG:=V->St->Hp->(St->Hp->Prop)->Prop
abbrev E8:=List V->St->Hp->(St->Hp->Prop)->Prop
def PG (X:Cx)(target:Expr)(t:TG):Prop:=
 ∀(pins:List (Addr×Obj)) (s:Shared) (σ:St) (H:Hp) (v:V) (u:Value) (Q:St->Hp->Prop),Zp X pins σ H s->Z0 v u->t v σ H Q->
  wpAny (model X.prog X.w) X.A (assign target X.env u) (λ_ s'=>∃σ' H',Zp X pins σ' H' s'/\Q σ' H') X.xe s
def oh (X:Cx)(ts:List Expr)(t:E8):Prop:=
 ∀(pins:List (Addr×Obj)) (s:Shared) (σ:St) (H:Hp) (vs:List V) (us:List Value) (Q:St->Hp->Prop),Zp X pins σ H s->Zz vs us->t vs σ H Q->
  wpAny (model X.prog X.w) X.A (assignInOrder ((assignEach ts X.env).map (·.2)) us) (λ_ s'=>∃σ' H',Zp X pins σ' H' s'/\Q σ' H') X.xe s
abbrev vN:=V->V->V->Hp->(Hp->Prop)->Prop
def rG (X:Cx)(t:vN):Prop:=
 ∀(pins:List (Addr×Obj)) (s:Shared) (σ:St) (H:Hp) (o i v:V) (ov iv u:Value) (Q:Hp->Prop),Zp X pins σ H s->Z0 o ov->Z0 i iv->Z0 v u->t o i v H Q->
  wpAny (model X.prog X.w) X.A (setItem ov iv u) (λ_ s'=>∃H',Zp X pins σ H' s'/\Q H') X.xe s
abbrev mH:=V->V->Hp->VK->Prop
section
variable {X:Cx}{pos:Pos}
def Jx (i:Nat):TG:=λv σ H Q=>Q (σ.set i (some v)) H
def Y3 {i:Nat}{x:Str}(hN:X.N.Nodup)(hi:X.N[i]?=some x)(hx:rQ X.env.scope x)(hf:X.fn x=true\/X.env.scope.names.lookup x=some .local:=by first | exact .inl rfl | exact .inr rfl | assumption):PG X (.Name x pos) (Jx i):=by
 intro pins s σ H v u Q I r h
 exact wpAny_assign_Name (G8 I hN hi hx r (λs' I'=>⟨_,H,I',h⟩) hf)
def Cg:E8:=λvs σ H Q=>vs=[]/\Q σ H
def Ss (t:TG)(u:E8):E8:=λvs σ H Q=>∃v r,vs=v::r/\t v σ H λσ' H'=>u r σ' H' Q
def Nb:oh X [] Cg:=by
 intro pins s σ H vs us Q I r h
 obtain⟨e,h⟩:=h
 subst e
 cases r
 exact assignInOrder_nil ⟨σ,H,I,h⟩
def Wg {e:Expr}{es:List Expr}{t:TG}{u:E8}(h1:PG X e t)(h2:oh X es u)
  (hs:(assignEach (e::es) X.env).map (·.2)=assign e X.env::(assignEach es X.env).map (·.2):=by rfl):oh X (e::es) (Ss t u):=by
 intro pins s σ H vs us Q I r h
 obtain⟨v,vr,e1,h⟩:=h
 subst e1
 cases r with
 | cons r rr=>
  rw[hs]
  refine assignInOrder_cons (Jp (h1 pins s σ H _ _ _ I r h) λ_ s1 ⟨σ1,H1,I1,q1⟩=>?_)
  exact h2 pins s1 σ1 H1 _ _ Q I1 rr q1
def Cf (K:W.Frag)(n:Nat)(t:E8):TG:=λv σ H Q=>∃a xs,v=.ref a/\V6 K H a xs/\xs.length=n/\t xs σ H Q
def I0 {es:List Expr}{k:Nat}{t:E8}{n:Nat}(hc:X.calm=true)(h:oh X es t)
  (hn:(assignEach es X.env).length=n:=by rfl) (hst:(assignEach es X.env).findIdx? (·.1)=none:=by rfl):PG X (.Tuple es k pos) (Cf X.K n t):=by
 intro pins s σ H v u Q I r hw
 obtain⟨a,xs,e1,hq,hl,hw⟩:=hw
 subst e1
 cases r
 obtain⟨its,rv,ht,hz⟩:=I.tuple hq
 refine assign_Tuple_tuple (I.ok.hd hc) ht (by simp[hn,<-hl,rv.length]) hst λh' hx=>?_
 have I1:Zp X pins σ H {s with heap:=h'}:=I.kept (t':=s.toks) λb o e=>hx b o (XH (XD e)) e
 exact h pins _ σ H xs _ Q I1 (by simpa using rv) hw
def ml (to ti:TE)(t:vN):TG:=λv σ H Q=>to σ H λo H1=>ti σ H1 λi H2=>t o i v H2 λH3=>Q σ H3
def jj {o i:Expr}{to ti:TE}{t:vN}(ho:PE X o to)(hi:PE X i ti)(hs:rG X t)
  (ha:∀v,assign (.Subscript o i pos) X.env v=(do
   let ov <-holding [v] (eval o X.env)
   let iv <-holding [v,ov] (eval i X.env)
   standAt pos
   holding [v,ov,iv] (setItem ov iv v)
   release [v,ov,iv] []):=by intro _;rfl):PG X (.Subscript o i pos) (ml to ti t):=by
 intro pins s σ H v u Q I r h
 rw[ha]
 refine XA (wpAny_holding (Jp (ho pins s σ H _ I h) λov s1 ⟨x,H1,I1,r1,q1⟩=>?_))
 refine XA (wpAny_holding (Jp (hi pins s1 σ H1 _ I1 q1) λiv s2 ⟨y,H2,I2,r2,q2⟩=>?_))
 refine XA (wpAny_standAt (XA (wpAny_holding (Jp (hs pins s2 σ H2 x y v ov iv u _ I2 r1 r2 r q2) λ_ s3 ⟨H3,I3,q3⟩=>?_))))
 exact wpAny_release ⟨σ,H3,I3,q3⟩
def qt (te:TE)(g:TG):TS:=λD σ H=>te σ H λx H1=>g x σ H1 D.nx
def uX {tg e:Expr}{te:TE}{g:TG}(he:PE X e te)(hg:PG X tg g)(hs:swapsWithSole [tg] e pos.line X.env=pure false:=by rfl)(hw:swappedStores [tg] e X.env=pure none:=by rfl)
  (h1:(assignEach [tg] X.env).map (·.2)=[assign tg X.env]:=by rfl):PS X (.Assign [tg] e pos) (qt te g):=by
 intro pins s σ H D I h
 refine wpAny_Assign_stores (Jp (he pins s σ H _ I h) λv s1 ⟨x,H1,I1,r1,q1⟩=>?_) hs hw
 rw[h1]
 exact Jp (hg pins s1 σ H1 x v _ I1 r1 q1) λ_ s2 q=>q
def uT {i:Nat}{x:Str}{e:Expr}{te:TE}{pos':Pos}(hN:X.N.Nodup)(hi:X.N[i]?=some x)(hx:rQ X.env.scope x)(he:PE X e te)(hs:swapsWith e (some (.Name x pos')) pos.line X.env=pure false:=by rfl)(hf:X.fn x=true\/X.env.scope.names.lookup x=some .local:=by first | exact .inl rfl | exact .inr rfl | assumption):
  PS X (.Assign [.Name x pos'] e pos) (qt te (Jx i)):=by
 intro pins s σ H D I h
 refine wpAny_Assign_Name (Jp (he pins s σ H _ I h) λv s1 ⟨y,H1,I1,r1,q1⟩=>?_) hs
 exact G8 I1 hN hi hx r1 (λs2 I2=>⟨_,H1,I2,q1⟩) hf
def lM (i j:Nat)(ta:TA):TS:=λD σ H=>ta σ H λvs H1=>∃v w,vs=[v,w]/\D.nx ((σ.set i (some v)).set j (some w)) H1
def lX (i:Nat)(te:TE)(ti:mH):TS:=λD σ H=>∃x,σ[i]?=some (some x)/\te σ H λy H1=>ti x y H1 λz H2=>D.nx (σ.set i (some z)) H2
def li (to ti te:TE)(tget:V->V->Hp->VK->Prop)(tip:mH)(tset:vN):TS:=λD σ H=>to σ H λo H1=>ti σ H1 λi H2=>tget o i H2 λx H3=>te σ H3 λy H4=>tip x y H4 λz H5=>tset o i z H5 λH6=>D.nx σ H6
def kI (X:Cx)(t:V->V->Hp->VK->Prop):Prop:=
 ∀(pins:List (Addr×Obj)) (s:Shared) (σ:St) (H:Hp) (o i:V) (ov iv:Value) (Q:VK),Zp X pins σ H s->Z0 o ov->Z0 i iv->t o i H Q->
  wpAny (model X.prog X.w) X.A (getItem ov iv) (EP X pins σ Q) X.xe s
def kW (f:Int->Int->Int):mH:=λx y H Q=>∃i j,x=.int i/\y=.int j/\Q (.int (f i j)) H
def yG (c:TT)(tb:TS):TS:=λD σ H=>∃W:Nat->St->Hp->Prop,(∃m,W m σ H)/\∀m σ H,W m σ H->
 c σ H λb H1=>if b=true then ∃N:St->Hp->Prop,(∀σ' H',N σ' H'->∃m',m'<m/\W m' σ' H')/\tb {D with nx:=N,ct:=N,bk:=D.nx} σ H1 else D.nx σ H1
def jf {c:Expr}{body:List Stmt}{tc:TT}{tb:TS}(hp:PassesOwn (model X.prog X.w) X.A X.env X.xe)(hc:PT X c tc)(hb:A3 X body tb):PS X (.While c body [] pos) (yG tc tb):=by
 intro pins s σ H D I h
 obtain⟨W,⟨m0,w0⟩,turn⟩:=h
 refine wpAny_While (codeAny_whileLoop (λn s'=>∃σ' H',Zp X pins σ' H' s'/\W n σ' H') ?_ m0 ⟨σ,H,I,w0⟩)
 rintro n s1 ⟨σ1,H1,I1,w1⟩
 refine wpAny_passesOwn hp (Jp (hc pins s1 σ1 H1 _ I1 (turn n σ1 H1 w1)) λb s2 ⟨H2,I2,q2⟩=>?_)
 cases b with
 | true=>
  obtain⟨N,hN,q2⟩:=q2
  rw[XY rfl]
  refine wpAny_passesOwn hp (Jp (hb pins s2 σ1 H2 _ I2 q2) λf s3 q3=>?_)
  cases f with
  | next=>
   obtain⟨σ3,H3,I3,n3⟩:=q3
   obtain⟨m',hm,w3⟩:=hN σ3 H3 n3
   exact⟨m',hm,σ3,H3,I3,w3⟩
  | cont=>
   obtain⟨σ3,H3,I3,n3⟩:=q3
   obtain⟨m',hm,w3⟩:=hN σ3 H3 n3
   exact⟨m',hm,σ3,H3,I3,w3⟩
  | brk=>exact q3
  | ret v=>exact q3
 | false=>
  rw[XX YJ]
  exact wpAny_execs_nil ⟨σ1,H2,I2,q2⟩
end
structure It where
 go:Nat->Hp->Prop
 yld:Nat->Hp->V->Hp->Prop
 stop:Nat->Hp->Prop
def Pj (X:Cx)(pins:List (Addr×Obj))(H:Hp)(b:Addr):Prop:=
 H b=none/\b≠X.env.locals/\b∉X.fs/\(b∈X.ex\/X.s₀.heap.objs.size<=b)/\(∀x c,X.env.cells.lookup x=some c->c≠b)/\∀p∈X.pn++pins,p.1≠b
def Zp.fpOk {X:Cx}{pins:List (Addr×Obj)}{σ:St}{H H':Hp}{s:Shared}{b:Addr}(I:Zp X pins σ H s)(hb:s.heap.objs.size<=b)(hn:H' b=none):Pj X pins H' b:=by
 refine⟨hn,Nat.ne_of_gt (XG I.lt hb),I.nofs hb,.inr (XN I.sz hb),λx c e z=>?_,λp hp z=>?_⟩
 ·obtain⟨v,q⟩:=I.cell x c e
  exact absurd (XG q.lt (by rw[z];exact hb)) (Nat.lt_irrefl _)
 ·exact absurd (XG (XD (I.pin p hp).1) (by rw[z];exact hb)) (Nat.lt_irrefl _)
structure ye (P:Program)(w:World)(K:W.Frag)(tg:Expr)(J:It)(fp:List Addr)(it:Addr)(tn:Nat->Heap->Prop):Prop where
 mem:it∈fp
 obj:∀i h,tn i h->∀b∈fp,∃o,h.get? b=some o/\∀v,o.data≠.cell v
 keep:∀i h h',tn i h->(∀b∈fp,∀o,h.get? b=some o->h'.get? b=some o)->tn i h'
 item:∀(X:Cx),X.prog=P->X.w=w->X.K=K->X.calm=true->∀(i:Nat) (pins:List (Addr×Obj)) (s:Shared) (σ:St) (H:Hp) (E:Value->Shared->Prop),Zp X pins σ H s->(∀b∈fp,Pj X pins H b)->tn i s.heap->J.go i H->
  wpAny (model P w) X.A (pyNext (.ref it)) (λr s1=>∃u,r=some u/\
   wpAny (model P w) X.A (letOwnedTupleGo tg (.ref it) u) (λ_ s2=>∃x H',Zp X pins σ H' s2/\Z0 x u/\J.yld i H x H'/\tn (i+1) s2.heap/\∀b∈fp,H' b=none) E s1) E s
 done:∀(X:Cx),X.prog=P->X.w=w->X.K=K->X.calm=true->∀(i:Nat) (pins:List (Addr×Obj)) (s:Shared) (σ:St) (H:Hp) (E:Value->Shared->Prop),Zp X pins σ H s->(∀b∈fp,Pj X pins H b)->tn i s.heap->J.stop i H->
  wpAny (model P w) X.A (pyNext (.ref it)) (λr s1=>r=none/\Zp X pins σ H s1) E s
 self:∀(A:Around) (i:Nat) (s:Shared) (Q:Value->Shared->Prop) (E:Value->Shared->Prop),tn i s.heap->Q (.ref it) s->wpAny (model P w) A (pyIter (.ref it)) Q E s
abbrev TI:=St->Hp->(It->Hp->Prop)->Prop
def mK (X:Cx)(pins:List (Addr×Obj))(σ:St)(tg:Expr)(R:It->Hp->Prop)(itv:Value)(s2:Shared):Prop:=
 ∃(it:Addr) (fp:List Addr) (tn:Nat->Heap->Prop) (J:It) (H':Hp),itv=.ref it/\Zp X pins σ H' s2/\ye X.prog X.w X.K tg J fp it tn/\tn 0 s2.heap/\(∀b∈fp,Pj X pins H' b)/\R J H'
def PI (X:Cx)(tg iter:Expr)(wi:TI):Prop:=
 ∀(pins:List (Addr×Obj)) (s:Shared) (σ:St) (H:Hp) (R:It->Hp->Prop),Zp X pins σ H s->wi σ H R->
  wpAny (model X.prog X.w) X.A (eval iter X.env) (λv s1=>wpAny (model X.prog X.w) X.A (pyIter v) (mK X pins σ tg R) X.xe s1) X.xe s
def jN {M:Model}{A:Around}{E:Value->Shared->Prop}{s:Shared}{tg:Expr}{it:Addr}{u:Value}{o:Obj}{n:String}{vs:Array Value}{Q:Unit->Shared->Prop}(ho:s.heap.get? it=some o)(hc:o.cls=.type n)(hd:o.data=.fields vs)
  (hn:["enumerate","zip","dict_itemiterator","dict_reverseitemiterator","odict_iterator","itertools.zip_longest","itertools.pairwise"].contains n=false) (hQ:Q () s):wpAny M A (letOwnedTupleGo tg (.ref it) u) Q E s:=by
 unfold letOwnedTupleGo
 cases tg<;>first
  | exact XB hQ
  | (cases u<;>first
    | exact XB hQ
    | (refine XA (wpAny_load ho ?_)
       rw[hc,hd]
       show wpAny M A (if (["enumerate","zip","dict_itemiterator","dict_reverseitemiterator","odict_iterator","itertools.zip_longest","itertools.pairwise"].contains n&&vs[0]?==some (rawInt _))=true then _ else _) Q E s
       rw[XX (by intro h;rw[hn,Bool.false_and] at h;cases h)]
       exact XB hQ))
def oO (K:W.Frag)(a:Addr):It:=
 ⟨λi H=>∃xs x,Xr K H a xs/\xs[i]?=some x,λi H x H'=>H'=H/\∀xs,Xr K H a xs->xs[i]?=some x,λi H=>∃xs,Xr K H a xs/\xs.length<=i⟩
def mS (K:W.Frag)(a:Addr):It:=
 ⟨λi H=>∃xs x,V6 K H a xs/\xs[i]?=some x,λi H x H'=>H'=H/\∀xs,V6 K H a xs->xs[i]?=some x,λi H=>∃xs,V6 K H a xs/\xs.length<=i⟩
def ig (lo:Int)(n:Nat):It:=⟨λi _=>i<n,λi H x H'=>H'=H/\x=.int (lo+i),λi _=>n<=i⟩
def zg {P:Program}{w:World}{K:W.Frag}{tg:Expr}(a it:Addr):ye P w K tg (oO K a) [it] it (λi h=>h.IsListIter it a i) where
 mem:=by simp
 obj:=λi h st b hb=>by
  have e:b=it:=by simpa using hb
  subst e
  obtain⟨o,e,c,d⟩:=st
  exact⟨o,e,λv z=>by rw[d] at z;cases z⟩
 keep:=λi h h' st k=>st.at λo e=>k it (by simp) o e
 item:=by
  intro X hP hw hK hc i pins s σ H E I hf st hg
  subst hP hw hK
  obtain⟨xs,x,hq,hx⟩:=hg
  obtain⟨its,rv,p,hz⟩:=I.list hq
  obtain⟨u,hu,ru⟩:=rv.get hx
  obtain⟨f0,f1,f2,f3,f4,f5⟩:=hf it (by simp)
  refine wpAny_pyNext_list_item st p.isList (x:=u) (by simpa using hu) λh' st' sb=>?_
  have I1:Zp X pins σ H {s with heap:=h'}:=I.turned (t':=s.toks) (λb o hb e=>(sb.2 b hb).trans e) f0 f1 f3 f4 f5
  obtain⟨o,e,c,d⟩:=id st'
  exact⟨u,rfl,jN (s:={s with heap:=h'}) e c d (by decide) ⟨x,H,I1,ru,⟨rfl,λys hy=>by rw[I.list_inj hy hq];exact hx⟩,st',λb hb=>(hf b hb).1⟩⟩
 done:=by
  intro X hP hw hK hc i pins s σ H E I hf st hg
  subst hP hw hK
  obtain⟨xs,hq,hx⟩:=hg
  obtain⟨its,rv,p,hz⟩:=I.list hq
  obtain⟨f0,f1,f2,f3,f4,f5⟩:=hf it (by simp)
  have hl:=rv.length
  exact wpAny_pyNext_list_end (I.ok.hd hc) st p.isList (by simp;omega) λh' eb=>⟨rfl,I.turned (t':=s.toks) (λb o hb e=>eb b o hb e) f0 f1 f3 f4 f5⟩
 self:=λ_ _ _ _ _ st h=>wpAny_pyIter_listiter st h
def Da {P:Program}{w:World}{K:W.Frag}{tg:Expr}(a it:Addr):ye P w K tg (mS K a) [it] it (λi h=>h.IsTupleIter it a i) where
 mem:=by simp
 obj:=λi h st b hb=>by
  have e:b=it:=by simpa using hb
  subst e
  obtain⟨o,e,c,d⟩:=st
  exact⟨o,e,λv z=>by rw[d] at z;cases z⟩
 keep:=λi h h' st k=>st.at λo e=>k it (by simp) o e
 item:=by
  intro X hP hw hK hc i pins s σ H E I hf st hg
  subst hP hw hK
  obtain⟨xs,x,hq,hx⟩:=hg
  obtain⟨its,rv,p,hz⟩:=I.tuple hq
  obtain⟨u,hu,ru⟩:=rv.get hx
  obtain⟨f0,f1,f2,f3,f4,f5⟩:=hf it (by simp)
  refine wpAny_pyNext_tuple_item st (show s.heap.IsTuple a its.toArray from p) (x:=u) (by simpa using hu) λh' st' sb=>?_
  have I1:Zp X pins σ H {s with heap:=h'}:=I.turned (t':=s.toks) (λb o hb e=>(sb.2 b hb).trans e) f0 f1 f3 f4 f5
  obtain⟨o,e,c,d⟩:=id st'
  exact⟨u,rfl,jN (s:={s with heap:=h'}) e c d (by decide) ⟨x,H,I1,ru,⟨rfl,λys hy=>by rw[I.tuple_inj hy hq];exact hx⟩,st',λb hb=>(hf b hb).1⟩⟩
 done:=by
  intro X hP hw hK hc i pins s σ H E I hf st hg
  subst hP hw hK
  obtain⟨xs,hq,hx⟩:=hg
  obtain⟨its,rv,p,hz⟩:=I.tuple hq
  obtain⟨f0,f1,f2,f3,f4,f5⟩:=hf it (by simp)
  have hl:=rv.length
  exact wpAny_pyNext_tuple_end (I.ok.hd hc) st (show s.heap.IsTuple a its.toArray from p) (by simp;omega) λh' eb=>⟨rfl,I.turned (t':=s.toks) (λb o hb e=>eb b o hb e) f0 f1 f3 f4 f5⟩
 self:=λ_ _ _ _ _ st h=>wpAny_pyIter_tupleiter st h
section
variable {X:Cx}{tg:Expr}
def ql (wi:TI)(g:TG)(tb:TS):TS:=λD σ H=>wi σ H λJ H1=>∃W:Nat->Nat->St->Hp->Prop,(∃m,W 0 m σ H1)/\∀i m σ H,W i m σ H->
 (J.stop i H/\D.nx σ H)\/(J.go i H/\∃N:St->Hp->Prop,(∀σ' H',N σ' H'->∃m',m'<m/\W (i+1) m' σ' H')/\∀x H',J.yld i H x H'->g x σ H' λσ2 H2=>tb {D with nx:=N,ct:=N,bk:=D.nx} σ2 H2)
def N7 (fp:List Addr)(h:Heap):List (Addr×Obj):=fp.filterMap λb=>(h.get? b).map λo=>(b,o)
def Te {fp:List Addr}{h:Heap}{b:Addr}{o:Obj}(hb:b∈fp)(e:h.get? b=some o):(b,o)∈N7 fp h:=List.mem_filterMap.mpr ⟨b,hb,by rw[e];rfl⟩
def zx {fp:List Addr}{h:Heap}{p:Addr×Obj}(hp:p∈N7 fp h):p.1∈fp/\h.get? p.1=some p.2:=by
 obtain⟨b,hb,e⟩:=List.mem_filterMap.mp hp
 cases q:h.get? b with
 | none=>rw[q] at e;cases e
 | some o=>
  rw[q] at e
  have e':(b,o)=p:=YH e
  subst e'
  exact⟨hb,q⟩
def Zp.pinned {pins:List (Addr×Obj)}{σ:St}{H:Hp}{s:Shared}{fp:List Addr}(I:Zp X pins σ H s)(hf:∀b∈fp,Pj X pins H b)(ho:∀b∈fp,∃o,s.heap.get? b=some o/\∀v,o.data≠.cell v):Zp X (pins++N7 fp s.heap) σ H s:=
 I.pins_of λp hp=>(XS.mp hp).elim (λz=>I.pin p (XT _ z)) λz=>by
  obtain⟨hb,e⟩:=zx z
  obtain⟨f0,f1,f2,_⟩:=hf p.1 hb
  obtain⟨o,e',d⟩:=ho p.1 hb
  rw[e] at e';cases e'
  exact⟨e,f0,f1,f2,d⟩
def Zp.unpinned {pins pl:List (Addr×Obj)}{σ:St}{H:Hp}{s:Shared}(I:Zp X (pins++pl) σ H s):Zp X pins σ H s:=I.pins_of λp hp=>I.pin p (XT _ (List.mem_append_left _ hp))
def uV {iter:Expr}{body:List Stmt}{wi:TI}{g:TG}{tb:TS}{pos:Pos}(hp:PassesOwn (model X.prog X.w) X.A X.env X.xe)(hc:X.calm=true)(hi:PI X tg iter wi)(hg:PG X tg g)(hb:A3 X body tb)
  (hs:∀x,foldedSetIterable iter X.env x=pure x:=by intro _;rfl):PS X (.For tg iter body [] pos) (ql wi g tb):=by
 intro pins s σ H D I h
 refine wpAny_For (Jp (hi pins s σ H _ I h) λv s1 h1=>Jp h1 λitv s2 h2=>?_) hs
 obtain⟨it,fp,tn,J,H2,e,I2,T,st2,f2,W,⟨m0,w0⟩,turn⟩:=h2
 subst e
 have stat:∀{H':Hp},(∀b∈fp,H' b=none)->∀b∈fp,Pj X pins H' b:=λhn b hb=>⟨hn b hb,(f2 b hb).2⟩
 refine codeAny_forLoop_any (λn s'=>∃i σ' H',Zp X pins σ' H' s'/\tn i s'.heap/\(∀b∈fp,H' b=none)/\W i n σ' H') ?_ m0 ⟨0,σ,H2,I2,st2,λb hb=>(f2 b hb).1,w0⟩
 rintro n s3 ⟨i,σ3,H3,I3,st3,fr3,w3⟩
 rcases turn i n σ3 H3 w3 with⟨stop,qn⟩ | ⟨go,N,hN,step⟩
 ·refine wpAny_passesOwn hp (Jp (T.done X rfl rfl rfl hc i pins s3 σ3 H3 X.xe I3 (stat fr3) st3 stop) λr s4 ⟨hr,I4⟩=>?_)
  subst hr
  exact wpAny_execs_nil ⟨σ3,H3,I4,qn⟩
 ·refine wpAny_passesOwn hp (Jp (T.item X rfl rfl rfl hc i pins s3 σ3 H3 X.xe I3 (stat fr3) st3 go) λr s4 ⟨u,hr,h4⟩=>?_)
  subst hr
  refine wpAny_passesOwn hp (Jp h4 λ_ s5 ⟨x,H5,I5,r5,y5,st5,fr5⟩=>?_)
  have I5':=I5.pinned (stat fr5) (T.obj _ _ st5)
  refine wpAny_passesOwn hp (Jp (hg _ s5 σ3 H5 x u _ I5' r5 (step x H5 y5)) λ_ s6 ⟨σ6,H6,I6,q6⟩=>?_)
  refine wpAny_passesOwn hp (Jp (hb _ s6 σ6 H6 _ I6 q6) λf s7 q7=>?_)
  have again:∀{σ7:St} {H7:Hp},Zp X (pins++N7 fp s5.heap) σ7 H7 s7->N σ7 H7->∃m,m<n/\∃i σ' H',Zp X pins σ' H' s7/\tn i s7.heap/\(∀b∈fp,H' b=none)/\W i m σ' H':=λ{σ7 H7} I7 n7=>by
   obtain⟨m',hm,w7⟩:=hN σ7 H7 n7
   refine⟨m',hm,i+1,σ7,H7,I7.unpinned,T.keep _ _ _ st5 λb hb o e=>(I7.pin (b,o) (XT _ (XT _ (Te hb e)))).1,λb hb=>?_,w7⟩
   obtain⟨o,e,d⟩:=T.obj _ _ st5 b hb
   exact(I7.pin (b,o) (XT _ (XT _ (Te hb e)))).2.1
  cases f with
  | next=>obtain⟨σ7,H7,I7,n7⟩:=q7;exact again I7 n7
  | cont=>obtain⟨σ7,H7,I7,n7⟩:=q7;exact again I7 n7
  | brk=>obtain⟨σ7,H7,I7,q7⟩:=q7;exact⟨σ7,H7,I7.unpinned,q7⟩
  | ret v=>obtain⟨x7,σ7,H7,I7,r7,q7⟩:=q7;exact⟨x7,σ7,H7,I7.unpinned,r7,q7⟩
end
abbrev R2:=V->V->Hp->VK->Prop
def O6 (X:Cx)(f:Value->Value->Sem Value)(r:R2):Prop:=
 ∀(pins:List (Addr×Obj)) (s:Shared) (σ:St) (H:Hp) (x y:V) (v u:Value) (Q:VK),Zp X pins σ H s->Z0 x v->Z0 y u->r x y H Q->
  wpAny (model X.prog X.w) X.A (f v u) (EP X pins σ Q) X.xe s
def ib (X:Cx)(f:Value->Sem Value)(r:V->Hp->VK->Prop):Prop:=
 ∀(pins:List (Addr×Obj)) (s:Shared) (σ:St) (H:Hp) (x:V) (v:Value) (Q:VK),Zp X pins σ H s->Z0 x v->r x H Q->
  wpAny (model X.prog X.w) X.A (f v) (EP X pins σ Q) X.xe s
def Wj (X:Cx)(f:Value)(r:List V->Hp->VK->Prop):Prop:=
 ∀(pins:List (Addr×Obj)) (s:Shared) (σ:St) (H:Hp) (xs:List V) (us:List Value) (Q:VK),Zp X pins σ H s->Zz xs us->r xs H Q->
  wpAny (model X.prog X.w) X.A (call f us) (EP X pins σ Q) X.xe s
def mG (X:Cx)(r:V->Hp->(Bool->Hp->Prop)->Prop):Prop:=
 ∀(pins:List (Addr×Obj)) (s:Shared) (σ:St) (H:Hp) (x:V) (v:Value) (Q:Bool->Hp->Prop),Zp X pins σ H s->Z0 x v->r x H Q->
  wpAny (model X.prog X.w) X.A (truthy v) (TP X pins σ Q) X.xe s
def qf (r:R2)(ta tb:TE):TE:=λσ H Q=>ta σ H λx H1=>tb σ H1 λy H2=>r x y H2 Q
def rI (C:Int->Int->Prop)(g:Int->Int->V):R2:=λx y H Q=>∃i j,x=.int i/\y=.int j/\C i j/\Q (g i j) H
def rL (g:Int->Int->V):R2:=λx y H Q=>∃i j,x=.int i/\y=.int j/\Q (g i j) H
section
variable {X:Cx}{a b c:Expr}{ta tb tc:TE}{pos:Pos}
def sX (ha:PE X a ta)(hb:PE X b tb){pins:List (Addr×Obj)}{s:Shared}{σ:St}{H:Hp}{R:V->V->Hp->Prop}(I:Zp X pins σ H s)
  (h:ta σ H λx H1=>tb σ H1 λy H2=>R x y H2) {Q:Value->Shared->Prop} {f:Value->Value->Sem Value}
  (hf:∀v u s2 x y H2,Zp X pins σ H2 s2->Z0 x v->Z0 y u->R x y H2->wpAny (model X.prog X.w) X.A (f v u) Q X.xe s2):
  wpAny (model X.prog X.w) X.A (eval a X.env) (λv s₁=>wpAny (model X.prog X.w) X.A (eval b X.env) (λu s₂=>wpAny (model X.prog X.w) X.A (f v u) Q X.xe s₂) X.xe s₁) X.xe s:=by
 refine Jp (ha pins s σ H _ I h) λv s1 ⟨x,H1,I1,r1,q1⟩=>?_
 refine Jp (hb pins s1 σ H1 _ I1 q1) λu s2 ⟨y,H2,I2,r2,q2⟩=>?_
 exact hf v u s2 x y H2 I2 r1 r2 q2
def qQ {op:Operator}{r:R2}(ho:O6 X (binaryOp op) r)(ha:PE X a ta)(hb:PE X b tb):PE X (.BinOp a op b pos) (qf r ta tb):=by
 intro pins s σ H Q I h
 exact wpAny_BinOp (sX ha hb I h λv u s2 x y H2 I2 rx ry q=>ho pins s2 σ H2 x y v u Q I2 rx ry q)
def nU {f:Value->Value->Sem Value}{C:Int->Int->Prop}{g:Int->Int->Int}
  (rule:∀(i j:Int) (t u:Tok) (s:Shared) (Q:Value->Shared->Prop) (E:Value->Shared->Prop),C i j->Q (.int (g i j) s.toks) {s with toks:=s.toks+1}->wpAny (model X.prog X.w) X.A (f (.int i t) (.int j u)) Q E s):
  O6 X f (rI C λi j=>.int (g i j)):=by
 intro pins s σ H x y v u Q I rx ry h
 obtain⟨i,j,rfl,rfl,hc,q⟩:=h
 obtain⟨t,rfl⟩:=rx
 obtain⟨t',rfl⟩:=ry
 exact rule i j t t' s _ _ hc ⟨.int (g i j),H,I.tok _,⟨_,rfl⟩,q⟩
def qX {f:Value->Value->Sem Value}{g:Int->Int->Int}
  (rule:∀(i j:Int) (t u:Tok) (s:Shared) (Q:Value->Shared->Prop) (E:Value->Shared->Prop),Q (.int (g i j) s.toks) {s with toks:=s.toks+1}->wpAny (model X.prog X.w) X.A (f (.int i t) (.int j u)) Q E s):
  O6 X f (rL λi j=>.int (g i j)):=by
 intro pins s σ H x y v u Q I rx ry h
 obtain⟨i,j,rfl,rfl,q⟩:=h
 obtain⟨t,rfl⟩:=rx
 obtain⟨t',rfl⟩:=ry
 exact rule i j t t' s _ _ ⟨.int (g i j),H,I.tok _,⟨_,rfl⟩,q⟩
def qY {f:Value->Value->Sem Value}{g:Int->Int->Bool}
  (rule:∀(i j:Int) (t u:Tok) (s:Shared) (Q:Value->Shared->Prop) (E:Value->Shared->Prop),Q (.bool (g i j)) s->wpAny (model X.prog X.w) X.A (f (.int i t) (.int j u)) Q E s):
  O6 X f (rL λi j=>.bl (g i j)):=by
 intro pins s σ H x y v u Q I rx ry h
 obtain⟨i,j,rfl,rfl,q⟩:=h
 obtain⟨t,rfl⟩:=rx
 obtain⟨t',rfl⟩:=ry
 exact rule i j t t' s _ _ ⟨.bl (g i j),H,I,rfl,q⟩
def ow (i j:Int):Prop:=0<j/\j<1073741824
def ou (i j:Int):Prop:=0<=j/\j<=1000000/\i.natAbs<2^64
def mU (i j:Int):Prop:=(-(2^64)<i/\i<2^64)\/(-(2^64)<j/\j<2^64)
def tM:O6 X (binaryOp .Add) (rL λi j=>.int (i+j)):=qX λ_ _ _ _ _ _ _ q=>add_int q
def tG:O6 X (binaryOp .Sub) (rL λi j=>.int (i-j)):=qX λ_ _ _ _ _ _ _ q=>sub_int q
def wR:O6 X (binaryOp .FloorDiv) (rI ow λi j=>.int (i/j)):=nU λi j _ _ _ _ _ hc q=>by
 have h1:(0:Int)<j:=hc.1
 have h2:j<1073741824:=hc.2
 exact floordiv_int (by omega) (by rw[Int.fdiv_eq_ediv_of_nonneg i (by omega)];exact q) (.inl (PyProof.noPylong_small (by omega)))
def tI:O6 X (binaryOp .Mod) (rI (λ_ j=>0<j) λi j=>.int (i%j)):=nU λi j _ _ _ _ _ hc q=>by
 have h1:(0:Int)<j:=hc
 exact mod_int' (by omega) (by rw[Int.fmod_eq_emod_of_nonneg i (by omega)];exact q)
def tH:O6 X (binaryOp .Pow) (rI ou λi j=>.int (i^j.toNat)):=nU λ_ _ _ _ _ _ _ hc q=>pow_int_small hc.1 hc.2.1 hc.2.2 q
end
def ke:V->V->Bool
 | .non,.non=>true | .non,.int _=>true | .int _,.non=>true | .non,.bl _=>true | .bl _,.non=>true | .non,.str _=>true | .str _,.non=>true
 | .int _,.int _=>true | .bl _,.bl _=>true | .str _,.str _=>true | .byt _,.byt _=>true
 | .int _,.str _=>true | .str _,.int _=>true | .bl _,.str _=>true | .str _,.bl _=>true
 | _,_=>false
section
variable {X:Cx}{a b c:Expr}{ta tb tc:TE}{pos:Pos}
def jS {pins:List (Addr×Obj)}{σ:St}{H:Hp}{s:Shared}{Q:VK}{k k':Bool}(I:Zp X pins σ H s)(q:Q (.bl k) H)(e:k=k'):EP X pins σ Q (.bool k') s:=by
 subst e
 exact⟨.bl k,H,I,rfl,q⟩
def qV:O6 X (compareOp .Lt) (rL λi j=>.bl (decide (i<j))):=qY λ_ _ _ _ _ _ _ q=>lt_int q
def qW:O6 X (compareOp .Gt) (rL λi j=>.bl (decide (j<i))):=qY λ_ _ _ _ _ _ _ q=>gt_int q
def zw:O6 X (compareOp .Lt) (λx y H Q=>∃i j,x=.str i/\y=.str j/\Q (.bl (decide (i.cps.toList<j.cps.toList))) H):=by
 intro pins s σ H x y v u Q I rx ry h
 obtain⟨i,j,rfl,rfl,q⟩:=h
 obtain⟨t,rfl⟩:=rx
 obtain⟨t',rfl⟩:=ry
 exact lt_str (jS I q rfl)
def tK:O6 X (compareOp .Is) (λx y H Q=>y=.non/\Q (.bl (decide (x=.non))) H):=by
 intro pins s σ H x y v u Q I rx ry h
 obtain⟨rfl,q⟩:=h
 cases ry
 refine is_none_gen (jS I q ?_)
 cases x<;>first
  | (cases rx;rfl)
  | (obtain⟨t,rfl⟩:=rx;rfl)
def ly:HO->Bool
 | .lst _=>true
 | .ins _ _ _=>true
 | _=>false
def O6.or {f:Value->Value->Sem Value}{r r':R2}(h:O6 X f r)(h':O6 X f r'):O6 X f (λx y H Q=>r x y H Q\/r' x y H Q):=by
 intro pins s σ H x y v u Q I rx ry q
 rcases q with q | q
 ·exact h pins s σ H x y v u Q I rx ry q
 ·exact h' pins s σ H x y v u Q I rx ry q
def Du (b:Expr){op:CmpOp}(h:op≠.In:=by decide)(h2:op≠.NotIn:=by decide):behindInMarks op b=false:=by
 have e1:(op==CmpOp.In)=false:=by cases op<;>first | rfl | exact absurd rfl h
 have e2:(op==CmpOp.NotIn)=false:=by cases op<;>first | rfl | exact absurd rfl h2
 cases b<;>simp[behindInMarks,e1,e2]
def wO {op:CmpOp}{r:R2}(ho:O6 X (compareOp op) r)(ha:PE X a ta)(hb:PE X b tb)(hm:behindInMarks op b=false):PE X (.Compare a [op] [b] pos) (qf r ta tb):=by
 intro pins s σ H Q I h
 exact wpAny_Compare1 (sX ha hb I h λv u s2 x y H2 I2 rx ry q=>ho pins s2 σ H2 x y v u Q I2 rx ry q) hm
def vS (t:TE):TT:=λσ H Q=>t σ H λx H'=>∃k,x=.bl k/\Q k H'
def wC {op:CmpOp}{r:R2}(ho:O6 X (compareOp op) r)(ha:PE X a ta)(hb:PE X b tb)(hm:behindInMarks op b=false):PT X (.Compare a [op] [b] pos) (vS (qf r ta tb)):=by
 intro pins s σ H Q I h
 refine wpAny_isTrue_Compare1 (Jp (ha pins s σ H _ I h) λv s1 ⟨x,H1,I1,r1,q1⟩=>Jp (hb pins s1 σ H1 _ I1 q1) λu s2 ⟨y,H2,I2,r2,q2⟩=>
  Jp (ho pins s2 σ H2 x y v u _ I2 r1 r2 q2) λc s3 ⟨z,H3,I3,r3,k,e,q3⟩=>?_) hm
 subst e
 cases r3
 exact wpAny_truthy_bool ⟨H3,I3,q3⟩
def nA (r r':R2)(ta tb tc:TE):TE:=λσ H Q=>ta σ H λx H1=>tb σ H1 λy H2=>r x y H2 λz H3=>∃k,z=.bl k/\
 (if k=true then tc σ H3 λw' H4=>r' y w' H4 Q else Q (.bl false) H3)
def r9 (K:W.Frag)(x:V)(H:Hp)(k:Bool):Prop:=
 match x with
 | .non=>k=false
 | .bl b=>k=b
 | .int i=>k=(i !=0)
 | .str y=>y.length<=sizeLine/\k=((y.length:Int) !=0)
 | .byt y=>y.size<=sizeLine/\k=((y.size:Int) !=0)
 | .ref p=>(∃xs,Xr K H p xs/\k=!xs.isEmpty)\/(∃xs,V6 K H p xs/\k=!xs.isEmpty)\/∃kvs,H p=some (.dK kvs)/\k=!kvs.isEmpty
 | _=>False
def D6 {κ:Type}{kvs:List (κ×V)}{vs:List (κ×Value)}(r:KV kvs vs):(!vs.isEmpty)=!kvs.isEmpty:=by
 cases r<;>rfl
def Mn {xs:List V}{its:List Value}(r:Zz xs its):(!its.toArray.isEmpty)=!xs.isEmpty:=by
 cases r<;>simp
def Qh:(sizeLine:Nat)<2^63:=by rw[sizeLine_eq];decide
def uB:mG X (λx H Q=>∃k,r9 X.K x H k/\Q k H):=by
 intro pins s σ H x v Q I rx h
 obtain⟨k,e,q⟩:=h
 have hl:=Qh
 have hs:sizeLine=16777216:=sizeLine_eq
 cases x with
 | non=>
  cases rx
  have e':k=false:=e
  subst e'
  exact truthy_none ⟨H,I,q⟩
 | bl b=>
  cases rx
  have e':k=b:=e
  subst e'
  exact wpAny_truthy_bool ⟨H,I,q⟩
 | int i=>
  obtain⟨t,rfl⟩:=rx
  have e':k=(i !=0):=e
  subst e'
  exact PySem.P.truthy_int ⟨H,I,q⟩
 | str y=>
  obtain⟨t,rfl⟩:=rx
  obtain⟨hy,e'⟩:y.length<=sizeLine/\k=((y.length:Int) !=0):=e
  subst e'
  exact PySem.P.truthy_str (by omega) ⟨H,I.tok _,q⟩
 | byt y=>
  obtain⟨t,rfl⟩:=rx
  obtain⟨hy,e'⟩:y.size<=sizeLine/\k=((y.size:Int) !=0):=e
  subst e'
  exact W.truthy_bytes (by omega) ⟨H,I.tok _,q⟩
 | ref p=>
  cases rx
  have e':(∃xs,Xr X.K H p xs/\k=!xs.isEmpty)\/(∃xs,V6 X.K H p xs/\k=!xs.isEmpty)\/∃kvs,H p=some (.dK kvs)/\k=!kvs.isEmpty:=e
  rcases e' with⟨xs,hx,e'⟩ | ⟨xs,hx,e'⟩ | ⟨kvs,hx,e'⟩
  ·subst e'
   obtain⟨its,r,pl,hz⟩:=I.list hx
   have hlen:=r.length
   exact wpAny_truthy_list pl.isList (by simp only[List.size_toArray];omega) ⟨H,I.tok _,by rw[Mn r];exact q⟩
  ·subst e'
   obtain⟨its,r,pl,hz⟩:=I.tuple hx
   have hlen:=r.length
   exact truthy_tuple pl (by simp only[List.size_toArray];omega) ⟨H,I.tok _,by rw[Mn r];exact q⟩
  ·subst e'
   obtain⟨hz,hS,vs,r,m⟩:kvs.length<=sizeLine/\(p==sysModules)=false/\∃vs,KV kvs vs/\s.heap.DictOf (Yx X.prog X.w) p vs:=I.hok p _ hx
   have hlen:kvs.length=vs.length:=Paired.length r
   exact wpAny_truthy_dict hS m (by omega) ⟨H,I.tok _,by rw[D6 r];exact q⟩
 | _=>exact(show False from e).elim
def jd (ha:PE X a ta)(he:∀whole,isTrue a X.env whole=(do let v <-whole;standAt a.pos;holding [v] (truthy v))):
  PT X a (λσ H Q=>ta σ H λx H'=>∃k,r9 X.K x H' k/\Q k H'):=by
 intro pins s σ H Q I h
 exact isTrue_plain (Jp (ha pins s σ H _ I h) λv s1 ⟨x,H1,I1,r1,q1⟩=>uB pins s1 σ H1 x v Q I1 r1 q1) (he _)
def Dq:O6 X (binaryOp .Add) (λx y H Q=>∃i j,x=.str i/\y=.str j/\i.length+j.length<=sizeLine/\Q (.str (i++j)) H):=by
 intro pins s σ H x y v u Q I rx ry h
 obtain⟨i,j,rfl,rfl,hz,q⟩:=h
 obtain⟨t,rfl⟩:=rx
 obtain⟨t',rfl⟩:=ry
 exact add_str (λt' tk=>⟨.str (i++j),H,I.tok _,⟨_,rfl⟩,q⟩) hz
def Rm {x:V}{us:List Value}(r:Zz [x] us):∃u,us=[u]/\Z0 x u:=by
 cases r with
 | cons r1 r2=>cases r2;exact⟨_,rfl,r1⟩
def Gg:Wj X (.type "str") (λxs H Q=>∃i,xs=[.int i]/\i.natAbs.log2<1920/\Q (.str (toString i)) H):=by
 intro pins s σ H xs us Q I r h
 obtain⟨i,rfl,hz,q⟩:=h
 obtain⟨u,rfl,t,rfl⟩:=Rm r
 exact PySem.P.str_of_int hz ⟨.str _,H,I.tok _,⟨_,rfl⟩,q⟩
def kM (K:W.Frag)(x:V)(H:Hp)(n:Nat):Prop:=
 match x with
 | .str y=>y.length<=sizeLine/\n=y.length
 | .byt y=>y.size<=sizeLine/\n=y.size
 | .ref p=>(∃xs,Xr K H p xs/\n=xs.length)\/∃xs,V6 K H p xs/\n=xs.length
 | _=>False
end
structure Bc (h:Heap)(x dx C:Addr)(mA:Str->Option Value):Prop where
 obj:h.get? x=some (W.instObj C dx)
 ns:h.Ns1 dx mA
 ne:dx≠x
def z9 {h:Heap}{dx:Addr}{mA:Str->Option Value}(n:h.Ns1 dx mA):∃od,h.get? dx=some od/\∀name,W.lookIn name od=some (mA name):=by
 obtain⟨o,es,ep,ho,hd,hk,_,hm⟩:=n
 refine⟨o,ho,λname=>?_⟩
 have e:=hm name
 unfold nsFind findBy at e
 rw[<-Array.find?_toList] at e
 unfold W.lookIn
 rw[hd]
 dsimp only
 split
 ·rename_i y q
  rw[q] at e
  exact congrArg some e
 ·rename_i q
  rw[q] at e
  have a:es.toList.any (·.refKey)=false:=by
   rw[List.any_eq_false]
   intro y hy
   obtain⟨z,t,hkey⟩:=hk y (Array.mem_toList_iff.mp hy)
   simp[DictEntry.refKey,hkey]
  have a':¬es.toList.any (·.refKey)=true:=by rw[a];exact YJ
  rw[XX a']
  exact congrArg some e
def Bc.look {h:Heap}{x dx C:Addr}{mA:Str->Option Value}(I:Bc h x dx C mA):∃od,W.InstAt h x (W.instObj C dx) C (some od)/\∀name,W.lookIn name od=some (mA name):=
 let ⟨od,ho,hl⟩:=z9 I.ns
 ⟨od,⟨I.obj,rfl,rfl,ho⟩,hl⟩
section
variable {prog:Program}{w:World}{A:Around}{E:Value->Shared->Prop}{s:Shared}{K:W.Frag}{x dx C f:Addr}{mA:Str->Option Value}{name:Str}{v:Value}
def vk {expr:Bool}{Q:Value->Shared->Prop}(X:K.In s.heap)(I:Bc s.heap x dx C mA)(hg:W.plainGet K C name=true)(hh:W.hasDictIn K C=true)
  (ha:W.findIn K (.ref C) name=some none) (hv:mA name=some v) (hv':W.handedIn v=true) (h:Q v {s with toks:=s.toks+1}):
  wpAny (model prog w) A (getAttr (.ref x) name expr) Q E s:=by
 obtain⟨od,J,hl⟩:=I.look
 exact W.get_value X J (W.plainGet_of hg).1 (W.findObj_own hh ha rfl (by rw[hl,hv])) hv' h
def jO {pl:Sem Bool}{Q:Value×List Value->Shared->Prop}(X:K.In s.heap)(I:Bc s.heap x dx C mA)(hg:W.plainGet K C name=true)
  (hf:W.findIn K (.ref C) name=some (some (.ref f))) (ht:W.isFn K (.ref f)=true) (hv:mA name=none) (h:Q (.ref f,[.ref x]) s):
  wpAny (model prog w) A (getMethod (.ref x) name pl) Q E s:=by
 obtain⟨od,J,hl⟩:=I.look
 exact W.method_fn X J (W.plainGet_of hg).1 (W.plainGet_of hg).2 hf (beq_iff_eq.mp ht) (by show(W.lookIn name od).map (·.isSome)=some false;rw[hl,hv];rfl) h
def wn {ns:List Str}{Q:Unit->Shared->Prop}(X:K.In s.heap)(I:Bc s.heap x dx C mA)
  (hs:W.findIn K (.ref C) "__setattr__"=some (some (.builtin "object.__setattr__"))) (hp:W.plainOver K C=true) (ht:W.takerIn K C name=some none) (hh:W.hasDictIn K C=true)
  (hw:PySem.Within mA ns) (hsz:ns.length<=sizeLine)
  (h:∀h',Bc h' x dx C (λy=>if y=name then some v else mA y)->Heap.SameBut dx s.heap h'->Q () {s with heap:=h',toks:=s.toks+2}):
  wpAny (model prog w) A (setAttr (.ref x) name v) Q E s:=by
 obtain⟨od,J,hl⟩:=I.look
 refine W.set_plain X J hs (W.osa_open (s:={s with toks:=s.toks+1}) (r:=none) X J hp ht λb=>?_)
 obtain⟨cd,hc,hd'⟩:=W.any_some hh
 have hx:s.heap.get? x=some ⟨.ref C,some dx,.plain,#[]⟩:=I.obj
 refine XA (XB (XA (XA (wpAny_loadPart hx (XA (W.Looks.here (s:={s with toks:=s.toks+1}) (W.looks_clsIn X hc) ?_))))))
 rw[hd']
 refine XB (a:=some dx) (XA (XB (XA ?_)))
 refine wpAny_nsSet1 (s:={s with toks:=s.toks+1}) I.ns λh' hn2 hs2=>?_
 obtain⟨oD,esD,epD,hoD,hdD,hcD⟩:=hn2.count (PySem.Within.cons name v hw)
 refine XA (wpAny_lookBehind hoD (by rw[hdD];exact pastItsLine_dict (XN hcD (by rw[YF];omega))) ?_)
 exact XB (h _ ⟨(hs2.2 _ (Ne.symm I.ne)).trans I.obj,hn2,I.ne⟩ hs2)
def j5 {R:Result->Shared->Prop}{vs:List Value}{kw:List (Str×Value)}(X:K.In s.heap)(hm:W.makesIn K C=true)
  (hi:W.findIn K (.ref C) "__init__"=some (some (.ref f))) (hf:W.typeIn K (.ref f)=some (.type "function"))
  (h:codeAny (model prog w) (A.under (.builtin "type.__call__" ⟨.ref C::vs,kw⟩)) (.call (.ref f) ⟨.ref (s.heap.objs.size+1)::vs,kw⟩) (W.InitBack (s.heap.objs.size+1) R)
   {s with heap:=(s.heap.push W.emptyDict).push (W.instObj C s.heap.objs.size)}):
  codeAny (model prog w) A (.call (.ref C) ⟨vs,kw⟩) R s:=by
 obtain⟨hh,g,d,t,os⟩:=s
 exact W.make_core (W.makes_of X hm) (W.looks_findIn X hi) (λself=>W.bind_fn X self hf) (.inl rfl) h
end
def Uh (f:Str)(v:V):List (Str×V)->List (Str×V)
 | []=>[(f,v)]
 | (g,x)::r=>if g=f then(g,v)::r else(g,x)::Uh f v r
def Og (f g:Str)(v:V):∀fs:List (Str×V),(Uh f v fs).lookup g=if g=f then some v else fs.lookup g
 | []=>by
  show List.lookup g [(f,v)]=_
  by_cases h:g=f
  ·have hb:(g==f)=true:=beq_iff_eq.mpr h
   simp only[List.lookup,hb,if_pos h]
  ·have hb:(g==f)=false:=beq_eq_false_iff_ne.mpr h
   simp only[List.lookup,hb,if_neg h]
 | (k,x)::r=>by
  have ih:=Og f g v r
  rw[show Uh f v ((k,x)::r)=(if k=f then(k,v)::r else(k,x)::Uh f v r) from rfl]
  by_cases hk:k=f
  ·rw[XY hk]
   by_cases h:g=k
   ·have hb:(g==k)=true:=beq_iff_eq.mpr h
    simp only[List.lookup,hb,if_pos (h.trans hk)]
   ·have hb:(g==k)=false:=beq_eq_false_iff_ne.mpr h
    simp only[List.lookup,hb,if_neg (λe:g=f=>h (e.trans hk.symm))]
  ·rw[XX hk]
   by_cases h:g=k
   ·have hb:(g==k)=true:=beq_iff_eq.mpr h
    simp only[List.lookup,hb,if_neg (λe:g=f=>hk (h.symm.trans e))]
   ·have hb:(g==k)=false:=beq_eq_false_iff_ne.mpr h
    simp only[List.lookup,hb]
    exact ih
def Py (f:Str)(v:V):∀fs:List (Str×V),f∈(Uh f v fs).map (·.1)/\∀g,g∈fs.map (·.1)->g∈(Uh f v fs).map (·.1)
 | []=>⟨by simp[Uh],λg h=>by simp at h⟩
 | (k,x)::r=>by
  obtain⟨i1,i2⟩:=Py f v r
  rw[show Uh f v ((k,x)::r)=(if k=f then(k,v)::r else(k,x)::Uh f v r) from rfl]
  by_cases hk:k=f
  ·rw[XY hk]
   subst hk
   exact⟨by simp,λg h=>by simpa using h⟩
  ·rw[XX hk]
   refine⟨?_,λg h=>?_⟩
   ·rw[YI]
    exact XV _ i1
   ·rw[YI] at h |-
    rcases List.mem_cons.mp h with e | e
    ·exact List.mem_cons.mpr (.inl e)
    ·exact XV _ (i2 g e)
def Oh (f:Str)(v:V):∀fs:List (Str×V),(Uh f v fs).length<=fs.length+1
 | []=>by simp[Uh]
 | (k,x)::r=>by
  have ih:=Oh f v r
  rw[show Uh f v ((k,x)::r)=(if k=f then(k,v)::r else(k,x)::Uh f v r) from rfl]
  by_cases hk:k=f
  ·rw[XY hk,YF,YF];omega
  ·rw[XX hk,YF,YF];omega
def Rj.some_of {v:V}{o:Option Value}(r:Rj (some v) o):∃u,o=some u/\Z0 v u:=by
 cases o with
 | none=>exact(show False from r).elim
 | some u=>exact⟨u,rfl,r⟩
def Rj.none_of {o:Option Value}(r:Rj none o):o=none:=by
 cases o with
 | none=>rfl
 | some u=>exact(show False from r).elim
def zN {v:V}{u:Value}(r:Z0 v u):W.handedIn u=true:=by
 cases v with
 | non=>cases (show u=Value.none from r);rfl
 | bl b=>cases (show u=Value.bool b from r);rfl
 | int i=>obtain⟨t,e⟩:=(show ∃t,u=Value.int i t from r);cases e;rfl
 | str x=>obtain⟨t,e⟩:=(show ∃t,u=Value.str x t from r);cases e;rfl
 | byt b=>obtain⟨t,e⟩:=(show ∃t,u=Value.bytes b t from r);cases e;rfl
 | flt b=>obtain⟨t,e⟩:=(show ∃t,u=Value.float b t from r);cases e;rfl
 | ref a=>cases (show u=Value.ref a from r);rfl
 | ty n=>cases (show u=Value.type n from r);rfl
section
variable {P:Program}{w:World}{H H':Hp}{h h':Heap}{a C dx:Addr}{fs fs':List (Str×V)}
def Nd (hok:Qp P w H h)(e:H a=some (.ins C dx fs)):∃mA,Bc h a dx C mA/\(∀f,Rj (fs.lookup f) (mA f))/\PySem.Within mA (fs.map (·.1))/\fs.length<=1000/\H dx=some (.own a):=by
 obtain⟨d,z,ne,ob,mA,n,r,q⟩:=(show Ja P w H h a (.ins C dx fs) from hok a _ e)
 exact⟨mA,⟨ob,n,ne⟩,r,q,z,d⟩
end
structure Bi (K:W.Frag)(C:Addr):Prop where
 pg:W.plainGet K C Str.empty=true
 hd:W.hasDictIn K C=true
 po:W.plainOver K C=true
 sa:W.findIn K (.ref C) "__setattr__"=some (some (.builtin "object.__setattr__"))
def Bi.get {K:W.Frag}{C:Addr}(c:Bi K C)(f:Str):W.plainGet K C f=true:=c.pg
def To (K:W.Frag)(C:Addr)(f:Str):Prop:=W.findIn K (.ref C) f=some none
def To.taker {K:W.Frag}{C:Addr}{f:Str}(n:To K C f):W.takerIn K C f=some none:=by
 unfold W.takerIn
 rw[show W.findIn K (.ref C) f=some none from n]
 rfl
structure kR (K:W.Frag)(C:Addr)(f:Str)(v:V)(u:Value):Prop where
 at_:W.findIn K (.ref C) f=some (some u)
 rel:Z0 v u
 get:W.specialIn K u "__get__"=some none
 cp:W.copiedNames.contains f=false
structure yk (K:W.Frag)(C:Addr)(m:Str)(f:Addr):Prop where
 at_:W.findIn K (.ref C) m=some (some (.ref f))
 fn:W.isFn K (.ref f)=true
 kp:W.keepIn K (.ref f)=true
section
variable {X:Cx}{pins:List (Addr×Obj)}{σ:St}{H:Hp}{s:Shared}{a C dx:Addr}{fs:List (Str×V)}{f:Str}{v:V}{A:Around}{E:Value->Shared->Prop}
def Ce {b:Bool}{Q:Value->Shared->Prop}(I:Zp X pins σ H s)(e:H a=some (.ins C dx fs))(c:Bi X.K C)(n:To X.K C f)(l:fs.lookup f=some v)
  (h:∀u s',Zp X pins σ H s'->Z0 v u->Q u s'):wpAny (model X.prog X.w) A (getAttr (.ref a) f b) Q E s:=by
 obtain⟨mA,O,r,_,_,_⟩:=Nd I.hok e
 obtain⟨u,hu,ru⟩:=Rj.some_of (v:=v) (o:=mA f) (by rw[<-l];exact r f)
 exact vk I.kIn O (c.get f) c.hd n hu (zN ru) (h u _ (I.tok _) ru)
def Mq {m:Str}{g:Addr}{pl:Sem Bool}{Q:Value×List Value->Shared->Prop}(I:Zp X pins σ H s)(e:H a=some (.ins C dx fs))(c:Bi X.K C)(k:yk X.K C m g)(l:fs.lookup m=none)
  (h:Q (.ref g,[.ref a]) s):wpAny (model X.prog X.w) A (getMethod (.ref a) m pl) Q E s:=by
 obtain⟨mA,O,r,_,_,_⟩:=Nd I.hok e
 have hn:mA m=none:=Rj.none_of (by rw[<-l];exact r m)
 exact jO I.kIn O (c.get m) k.at_ k.fn hn h
def Db {y:V}{u:Value}{Q:Unit->Shared->Prop}(I:Zp X pins σ H s)(e:H a=some (.ins C dx fs))(c:Bi X.K C)(n:To X.K C f)(hl:fs.length<1000)(ry:Z0 y u)
  (h:∀s',Zp X pins σ (Yq H a (.ins C dx (Uh f y fs))) s'->Q () s'):wpAny (model X.prog X.w) A (setAttr (.ref a) f u) Q E s:=by
 obtain⟨mA,O,r,wi,_,ho⟩:=Nd I.hok e
 have hz:(fs.map (·.1)).length<=sizeLine:=by rw[XI,sizeLine_eq];omega
 refine wn I.kIn O c.sa c.po n.taker c.hd wi hz λh' O' sb=>h _ ?_
 have hd:∃o,h'.get? dx=some o:=let ⟨o,_,_,e',_⟩:=O'.ns;⟨o,e'⟩
 refine I.write (x:=a) (e:=dx) (by rw[e];exact True.intro) (.inr ho) (λb q hb z=>(sb.2 b hb).trans z) hd ?_
 refine⟨by rw[Zy O.ne];exact ho,?_,O.ne,O'.obj,_,O'.ns,λg=>?_,λg hg=>?_⟩
 ·have:=Oh f y fs;omega
 ·show Rj ((Uh f y fs).lookup g) (if g=f then some u else mA g)
  rw[Og]
  by_cases q:g=f
  ·rw[XY q,XY q];exact ry
  ·rw[XX q,XX q];exact r g
 ·by_cases q:g=f
  ·rw[q];exact(Py f y fs).1
  ·refine(Py f y fs).2 g (wi g λz=>hg ?_)
   show(if g=f then some u else mA g)=none
   rw[XX q];exact z
def Zp.made (I:Zp X pins σ H s):Zp X pins σ (Yq (Yq H s.heap.objs.size (.own (s.heap.objs.size+1))) (s.heap.objs.size+1) (.ins C s.heap.objs.size []))
  {s with heap:=(s.heap.push W.emptyDict).push (W.instObj C s.heap.objs.size)}:=by
 have e1:(s.heap.push W.emptyDict).get? s.heap.objs.size=some W.emptyDict:=XF s.heap rfl
 have e2:((s.heap.push W.emptyDict).push (W.instObj C s.heap.objs.size)).get? (s.heap.objs.size+1)=some (W.instObj C s.heap.objs.size):=by
  have:=XF (s.heap.push W.emptyDict) (o:=W.instObj C s.heap.objs.size) rfl
  rwa [Heap.size_push] at this
 have e3:(s.heap.push W.emptyDict).Ns s.heap.objs.size (λ_=>none):=⟨W.emptyDict,#[],_,e1,rfl,(λe he=>absurd he (by simp)),λ_=>rfl⟩
 have I1:=I.laid (a:=s.heap.objs.size) (o:=.own (s.heap.objs.size+1)) (h':=s.heap.push W.emptyDict) (t':=s.toks) (λb u q=>XC _ q) (XE _) ⟨_,e1⟩
 refine I1.laid (a:=s.heap.objs.size+1) (o:=.ins C s.heap.objs.size []) (t':=s.toks) (λb u q=>XC _ q) (Nat.le_of_eq (Heap.size_push _ _)) ?_
 have ne:s.heap.objs.size≠s.heap.objs.size+1:=XH (Nat.lt_succ_self _)
 refine⟨by rw[Zy ne,Z9],XO _,ne,e2,λ_=>none,(Heap.Ns1.of_empty e3).at λo q=>XC _ q,λ_=>True.intro,λy hy=>absurd rfl hy⟩
def vF {prog:Program}{w:World}{env:Env}{e:Expr}{f:Str}{pos:Pos}{s:Shared}{Q:Value->Shared->Prop}(hb:attributeBase e f env (eval e env)=eval e env)
  (h:wpAny (model prog w) A (eval e env) (λo s₁=>wpAny (model prog w) A (getAttr o f true) Q E s₁) E s):wpAny (model prog w) A (eval (.Attribute e f pos) env) Q E s:=
 Attribute_any_ h (by rw[arm_eval_Attribute,hb])
end
def nz (K:W.Frag)(ta:TE)(f:Str):TE:=λσ H Q=>ta σ H λx H1=>∃a C dx fs v,x=.ref a/\H1 a=some (.ins C dx fs)/\Bi K C/\To K C f/\fs.lookup f=some v/\Q v H1
def lV (K:W.Frag)(ta:TE)(f:Str):TE:=λσ H Q=>ta σ H λx H1=>∃a C dx fs v u,x=.ref a/\H1 a=some (.ins C dx fs)/\Bi K C/\kR K C f v u/\fs.lookup f=none/\Q v H1
def nH (K:W.Frag)(ta tv:TE)(f:Str):TS:=λD σ H=>tv σ H λy H1=>ta σ H1 λx H2=>∃a C dx fs,x=.ref a/\H2 a=some (.ins C dx fs)/\Bi K C/\To K C f/\fs.length<1000/\
 D.nx σ (Yq H2 a (.ins C dx (Uh f y fs)))
def kP (X:Cx)(op:Operator)(rd:V->V->Hp->VK->Prop):Prop:=
 ∀(pins:List (Addr×Obj)) (s:Shared) (σ:St) (H:Hp) (x y:V) (u v:Value) (Q:VK),Zp X pins σ H s->Z0 x u->Z0 y v->rd x y H Q->wpAny (model X.prog X.w) X.A (inplaceOp op u v) (EP X pins σ Q) X.xe s
def o9 (K:W.Frag)(ta tv:TE)(rd:V->V->Hp->VK->Prop)(f:Str):TS:=λD σ H=>ta σ H λx H1=>∃a C dx fs v,x=.ref a/\H1 a=some (.ins C dx fs)/\Bi K C/\To K C f/\fs.lookup f=some v/\
 tv σ H1 λy H2=>rd v y H2 λz H3=>∃dx' fs',H3 a=some (.ins C dx' fs')/\fs'.length<1000/\D.nx σ (Yq H3 a (.ins C dx' (Uh f z fs')))
section
variable {X:Cx}{o e value:Expr}{f:Str}{pos pos' tpos:Pos}{ta tv:TE}
def t8 (he:PE X e ta)(hb:attributeBase e f X.env (eval e X.env)=eval e X.env):PE X (.Attribute e f pos) (nz X.K ta f):=by
 intro pins s σ H Q I h
 refine vF hb (Jp (he pins s σ H _ I h) λu s1 ⟨x,H1,I1,rx,a,C,dx,fs,v,ex,ea,c,n,l,q⟩=>?_)
 subst ex
 obtain rfl:u=Value.ref a:=rx
 exact Ce I1 ea c n l λu' s2 I2 ru=>⟨v,H1,I2,ru,q⟩
def uW (ha:PE X o ta)(hv:PE X value tv)(hs:swapsWith value (some (.Attribute o f pos')) pos.line X.env=pure false):PS X (.Assign [.Attribute o f pos'] value pos) (nH X.K ta tv f):=by
 intro pins s σ H D I h
 refine plainObj_wpAny_Assign_Attribute (Jp (hv pins s σ H _ I h) λu s1 ⟨y,H1,I1,ry,q⟩=>Jp (ha pins s1 σ H1 _ I1 q) λov s2 ⟨x,H2,I2,rx,a,C,dx,fs,ex,ea,c,n,l,q2⟩=>?_) hs
 subst ex
 obtain rfl:ov=Value.ref a:=rx
 exact Db I2 ea c n l ry λs3 I3=>⟨σ,_,I3,q2⟩
end
section
variable {X:Cx}{pins:List (Addr×Obj)}{σ:St}{H:Hp}{s:Shared}{A:Around}{E:Value->Shared->Prop}{Q:Value->Shared->Prop}{c:Value}{b:Bool}
inductive O5 (K:W.Frag)(H:Hp):V->Value->Prop where
 | non:O5 K H .non (.type "NoneType")
 | bl (x:Bool):O5 K H (.bl x) (.type "bool")
 | int (i:Int):O5 K H (.int i) (.type "int")
 | str (x:Str):O5 K H (.str x) (.type "str")
 | flt (x:UInt64):O5 K H (.flt x) (.type "float")
 | lst {a:Addr} {xs:List V} (e:H a=some (.lst xs)):O5 K H (.ref a) (.type "list")
 | frz {a:Addr} {o:Obj} {xs:List V} (e:H a=some (.frz o (.lst xs))):O5 K H (.ref a) (.type "list")
 | tup {a:Addr} {xs:List V} (e:H a=some (.tup xs)):O5 K H (.ref a) (.type "tuple")
 | dK {a:Addr} {kvs:List (Z1×V)} (e:H a=some (.dK kvs)):O5 K H (.ref a) (.type "dict")
 | dT {a:Addr} {kvs:List (List Z1×V)} (e:H a=some (.dT kvs)):O5 K H (.ref a) (.type "dict")
 | ins {a C dx:Addr} {fs:List (Str×V)} (e:H a=some (.ins C dx fs)) (cl:Bi K C) (ha:W.findIn K (.ref C) "__class__"=some (some (.builtin "object.__class__")))
   (hn:W.specialIn K (.builtin "object.__class__") "__get__"=some (some (.builtin "getset_descriptor.__get__"))) (htk:W.takesIn K (.builtin "object.__class__")=some true)
   (hm:W.mroIn K C (.type "object")=some true):O5 K H (.ref a) (.ref C)
def Vf {x:V}{u t:Value}(I:Zp X pins σ H s)(rx:Z0 x u)(ty:O5 X.K H x t)(e:W.kitOne X.K t c=some b)(h:∀tk,Q (.bool b) {s with toks:=tk}):
  wpAny (model X.prog X.w) A (call (.builtin "isinstance") [u,c]) Q E s:=by
 cases ty with
 | non=>cases (show u=Value.none from rx);exact W.kia_one W.kitx_none I.kIn True.intro e (λz=>nomatch z) h
 | bl y=>cases (show u=Value.bool y from rx);exact W.kia_one W.kitx_bool I.kIn True.intro e (λz=>nomatch z) h
 | int i=>obtain⟨t,q⟩:=(show ∃t,u=Value.int i t from rx);cases q;exact W.kia_one W.kitx_int I.kIn True.intro e (λz=>nomatch z) h
 | str y=>obtain⟨t,q⟩:=(show ∃t,u=Value.str y t from rx);cases q;exact W.kia_one W.kitx_str I.kIn True.intro e (λz=>nomatch z) h
 | flt y=>obtain⟨t,q⟩:=(show ∃t,u=Value.float y t from rx);cases q;exact W.kia_one W.kitx_float I.kIn True.intro e (λz=>nomatch z) h
 | @lst a xs ea=>
  cases (show u=Value.ref a from rx)
  obtain⟨_,_,n,_,h1⟩:=(show Ja X.prog X.w H s.heap a (.lst xs) from I.hok a _ ea)
  exact W.kia_one W.kitx_list I.kIn ⟨_,h1,rfl⟩ e (λz=>nomatch z) h
 | @frz a ob xs ea=>
  cases (show u=Value.ref a from rx)
  obtain⟨_,_,_,n,_,h1⟩:=(show Ja X.prog X.w H s.heap a (.frz ob (.lst xs)) from I.hok a _ ea)
  exact W.kia_one W.kitx_list I.kIn ⟨_,h1,rfl⟩ e (λz=>nomatch z) h
 | @tup a xs ea=>
  cases (show u=Value.ref a from rx)
  obtain⟨_,_,_,p⟩:=(show Ja X.prog X.w H s.heap a (.tup xs) from I.hok a _ ea)
  obtain⟨o,h1,h2,_⟩:=p
  exact W.kia_one W.kitx_tuple I.kIn ⟨o,h1,h2⟩ e (λz=>nomatch z) h
 | @dK a kvs ea=>
  cases (show u=Value.ref a from rx)
  obtain⟨_,_,vs,_,p⟩:=(show Ja X.prog X.w H s.heap a (.dK kvs) from I.hok a _ ea)
  obtain⟨o,es,ep,h1,h2,_⟩:=p
  exact W.kia_one W.kitx_dict I.kIn ⟨o,h1,h2.1⟩ e (λz=>nomatch z) h
 | @dT a kvs ea=>
  cases (show u=Value.ref a from rx)
  obtain⟨_,_,xs,_,o,es,ep,h1,h2,_⟩:=(show Ja X.prog X.w H s.heap a (.dT kvs) from I.hok a _ ea)
  exact W.kia_one W.kitx_dict I.kIn ⟨o,h1,h2.1⟩ e (λz=>nomatch z) h
 | @ins a C dx fs ea cl ha hn htk hm=>
  cases (show u=Value.ref a from rx)
  obtain⟨mA,O,_⟩:=Nd I.hok ea
  obtain⟨od,J,_⟩:=O.look
  exact W.kia_one (W.kitx_own (cl.get _) cl.hd ha hn htk hm) I.kIn J e (λz=>nomatch z) h
end
structure Xt (k:Nat)(A:Around):Prop where
 hd:A.handled=none
 dp:A.depth+3*k+5<recursionLimit
 un:A.units+16*k+200<cLine
def Xt.deeper {k:Nat}{A:Around}(r:Xt (k+1) A)(env:Env):Xt k (A.deeper env):=
 ⟨r.hd,by have:=r.dp;show A.depth+1+3*k+5<_;omega,by have:=r.un;show A.units+3+16*k+200<_;omega⟩
def Dy {A:Around}{C:Addr}{us:List Value}{kw:List (Str×Value)}:(A.under (.builtin "type.__call__" ⟨.ref C::us,kw⟩)).depth=A.depth+1:=by
 first | rfl | simp[Around.under,Code.weight,Code.isCreation,Code.isGuard,Code.isCaller,Code.frames,Code.isFrame,guardIds]
def Dx {A:Around}{C:Addr}{us:List Value}{kw:List (Str×Value)}:(A.under (.builtin "type.__call__" ⟨.ref C::us,kw⟩)).units=A.units+1:=by
 first | rfl | simp[Around.under,Code.cUnits,Code.frames,Code.isFrame]
def Xt.make {k:Nat}{A:Around}(r:Xt (k+1) A)(C:Addr)(us:List Value)(kw:List (Str×Value)):Xt k (A.under (.builtin "type.__call__" ⟨.ref C::us,kw⟩)):=
 ⟨r.hd,by have:=r.dp;rw[Dy];omega,by have:=r.un;rw[Dx];omega⟩
def Xt.depth {k:Nat}{A:Around}(r:Xt k A):A.depth<recursionLimit:=by have:=r.dp;omega
def yK:TA:=λ_ H Q=>Q [] H
def yM (ta:TE)(tr:TA):TA:=λσ H Q=>ta σ H λx H1=>tr σ H1 λxs H2=>Q (x::xs) H2
section
variable {X:Cx}{e:Expr}{es:List Expr}{te:TE}{t:TA}{pos:Pos}
def Dp:PA X [] yK:=λ_ _ _ _ H Q I h=>Calls.spliced_nil ⟨[],H,I,.nil,h⟩
def Nc (ha:PE X e te)(hr:PA X es t)(hs:starEach (e::es) X.env=(false,eval e X.env)::starEach es X.env:=by rfl):PA X (e::es) (yM te t):=by
 intro pos pins s σ H Q I h
 rw[hs]
 show wpAny _ _ (spliced ((false,eval e X.env)::backTo pos (starEach es X.env))) _ _ s
 refine Calls.spliced_cons (Jp (ha pins s σ H _ I h) λu s1 ⟨x,H1,I1,r1,q1⟩=>?_)
 exact Jp (hr pos pins s1 σ H1 _ I1 q1) λus s2 ⟨xs,H2,I2,r2,q2⟩=>⟨x::xs,H2,I2,.cons r1 r2,q2⟩
def qd (t:TA):TE:=λσ H Q=>t σ H λxs H1=>xs.length<=sizeLine/\∀p,H1 p=none->Q (.ref p) (Yq H1 p (.tup xs))
def qj (t:TA):TE:=λσ H Q=>t σ H λxs H1=>xs.length<=sizeLine/\∀p,H1 p=none->Q (.ref p) (Yq H1 p (.lst xs))
def tj {x1}(h:PA X es t):PE X (.Tuple es x1 pos) (qd t):=by
 intro pins s σ H Q I hq
 refine wpAny_Tuple_spliced (Jp (h pos pins s σ H _ I hq) λus s1 ⟨xs,H1,I1,r,z,q⟩=>⟨by rw[<-r.length];exact z,?_⟩)
 have hf:H1 s1.heap.objs.size=none:=I1.hok.fresh (XE _)
 refine⟨.ref s1.heap.objs.size,Yq H1 s1.heap.objs.size (.tup xs),I1.laid (t':=s1.toks) (λb u e=>XC _ e) (XE _) ?_,rfl,q _ hf⟩
 exact⟨z,us,r,⟨_,XF _ rfl,rfl,_,rfl⟩⟩
def t0 (h:PA X es t):PE X (.List es pos) (qj t):=by
 intro pins s σ H Q I hq
 refine wpAny_List_spliced (Jp (h pos pins s σ H _ I hq) λus s1 ⟨xs,H1,I1,r,z,q⟩=>⟨by rw[<-r.length];exact z,?_⟩)
 have hf:H1 s1.heap.objs.size=none:=I1.hok.fresh (XE _)
 refine⟨.ref s1.heap.objs.size,Yq H1 s1.heap.objs.size (.lst xs),I1.laid (t':=s1.toks) (λb u e=>XC _ e) (XE _) ?_,rfl,q _ hf⟩
 exact⟨z,us,0,r,XF _ rfl⟩
end
abbrev Sp:=List V->Hp->VK->XK->Prop
abbrev yx:=List Env->Hp->Shared->XK->Value->Shared->Prop
structure Bg (P:Program)(w:World)(K:W.Frag)(mg:Str->Option Value)(base:Heap)(A:Around)(outer:List Env)(s:Shared)(H:Hp):Prop where
 frames:A.frames=some outer
 mod:Mod K mg base
 bs:∀b o,base.get? b=some o->s.heap.get? b=some o/\H b=none
 bsz:base.objs.size<=s.heap.objs.size
 funs:s.heap.FunFrames base outer
 frf:∀b∈zP outer,H b=none
 hok:Qp P w H s.heap
 bare:AllBare s.gens
def CE (outer:List Env)(P:Program)(w:World)(H:Hp)(s:Shared)(Q:VK)(u:Value)(s':Shared):Prop:=
 ∃v H',s'.os=s.os/\AllBare s'.gens/\Un (zP outer) [] H H' s.heap s'.heap/\Qp P w H' s'.heap/\Z0 v u/\Q v H'
def CR (CX:yx)(outer:List Env)(P:Program)(w:World)(H:Hp)(s:Shared)(Q:VK)(E:XK)(r:Result)(s':Shared):Prop:=
 match r with
 | .ok (.ret u)=>CE outer P w H s Q u s'
 | .ok _=>False
 | .error e=>CX outer H s E e s'
structure Vv (P:Program)(w:World)(K:W.Frag)(mg:Str->Option Value)(base:Heap)(CX:yx)(k:Nat)(f:Addr)(fd:FuncData)(ps:List Str)(sp:Sp):Prop where
 len:∀vs H Q E,sp vs H Q E->vs.length=ps.length
 run:∀(A:Around) (outer:List Env) (s:Shared) (H:Hp) (args:Args) (us:List Value) (vs:List V) (Q:VK) (E:XK),Xt k A->Bg P w K mg base A outer s H->BindsTo s fd args (ps.zip us)->Zz vs us->sp vs H Q E->
  codeAny (model P w) A (.call (.ref f) args) (CR CX outer P w H s Q E) s
def Bg.make {P:Program}{w:World}{K:W.Frag}{mg:Str->Option Value}{base:Heap}{A:Around}{outer:List Env}{s:Shared}{H:Hp}(e:Bg P w K mg base A outer s H)(C:Addr)(us:List Value)(kw:List (Str×Value)):
  Bg P w K mg base (A.under (.builtin "type.__call__" ⟨.ref C::us,kw⟩)) outer s H:=⟨by first | exact e.frames | (simpa[Around.under,Code.envs,Code.isFrame,pushEnvs] using e.frames),e.mod,e.bs,e.bsz,e.funs,e.frf,e.hok,e.bare⟩
section
variable {X:Cx}{pins:List (Addr×Obj)}{σ:St}{H:Hp}{s s':Shared}
def Zp.env0 (I:Zp X pins σ H s):Bg X.prog X.w X.K X.mg X.base X.A X.stack s H:=
 ⟨I.ok.frames,I.ok.mod,I.bs,XN I.ok.bsz I.sz,I.stack,I.stkFree,I.hok,I.bare⟩
def Zp.after {Q:VK}{u:Value}(I:Zp X pins σ H s)(h:CE X.stack X.prog X.w H s Q u s'):EP X pins σ Q u s':=by
 obtain⟨v,H',os,bare,un,hok,r,q⟩:=h
 obtain⟨hh,g,d,t,os'⟩:=s'
 obtain rfl:os'=s.os:=os
 exact⟨v,H',I.call (h':=hh) (g':=g) (d':=d) (t':=t) (ch:=[]) un hok bare (λb z=>absurd z (by simp)),r,q⟩
end
def vT (sp:Sp)(dvs:List V)(E:XK)(t:TA):TE:=λσ H Q=>t σ H λvs H1=>sp (vs++dvs) H1 Q E
def mZ (C:Addr)(m:Str)(sp:Sp)(dvs:List V)(E:XK)(ta:TE)(t:TA):TE:=λσ H Q=>ta σ H λx H1=>∃a dx fs,x=.ref a/\H1 a=some (.ins C dx fs)/\fs.lookup m=none/\
 t σ H1 λvs H2=>sp (x::(vs++dvs)) H2 Q E
def qi (C:Addr)(sp:Sp)(dvs:List V)(E:XK)(t:TA):TE:=λσ H Q=>t σ H λvs H1=>∀x dx,H1 x=none->H1 dx=none->dx≠x->
 sp (.ref x::(vs++dvs)) (Yq (Yq H1 dx (.own x)) x (.ins C dx [])) (λv H2=>v=.non/\Q (.ref x) H2) E
def Xv (K:W.Frag)(fd:FuncData)(ps:List Str)(ds:List Value):Prop:=
 ∀(s:Shared) (us:List Value),K.In s.heap->(us++ds).length=ps.length->BindsTo s fd ⟨us,[]⟩ (ps.zip (us++ds))
def Xv.all {K:W.Frag}{fd:FuncData}{ps:List Str}(h:∀us:List Value,us.length=ps.length->bindArgs fd ⟨us,[]⟩=pure (ps.zip us)):Xv K fd ps []:=λs us _ hl=>by
 rw[YK] at hl |-
 exact .of_eq (h us hl)
def M5 (CX:yx)(X:Cx)(E:XK):Prop:=∀(pins:List (Addr×Obj)) (σ:St) (H:Hp) (s:Shared) (e:Value) (s':Shared),Zp X pins σ H s->CX X.stack H s E e s'->X.xe e s'
section
variable {X:Cx}{CX:yx}{k:Nat}{f C:Addr}{fd:FuncData}{ps:List Str}{sp:Sp}{dvs:List V}{ds:List Value}{E:XK}{x m:Str}{p pos apos:Pos}{e o:Expr}{es:List Expr}{ta:TE}{t:TA}
def Di {pins:List (Addr×Obj)}{σ:St}{H:Hp}{s:Shared}{Q:VK}{us:List Value}{vs:List V}(F:Vv X.prog X.w X.K X.mg X.base CX k f fd ps sp)(hr:Xt k X.A)(hb:Xv X.K fd ps ds)(hd:Zz dvs ds)(hx:M5 CX X E)
  (I:Zp X pins σ H s) (r:Zz vs us) (h:sp (vs++dvs) H Q E):wpAny (model X.prog X.w) X.A (call (.ref f) us) (EP X pins σ Q) X.xe s:=by
 have r2:Zz (vs++dvs) (us++ds):=r.append hd
 have hl:(us++ds).length=ps.length:=by rw[<-r2.length];exact F.len _ _ _ _ h
 refine wpAny_call (codeAny_mono (F.run X.A X.stack s H ⟨us,[]⟩ (us++ds) (vs++dvs) Q E hr I.env0 (hb s us I.kIn hl) r2 h) λr s' hq=>?_)
 cases r with
 | error e=>exact hx pins σ H s e s' I hq
 | ok fl=>
  cases fl with
  | ret u=>exact I.after hq
  | next=>exact False.elim hq
  | brk=>exact False.elim hq
  | cont=>exact False.elim hq
def wP (F:Vv X.prog X.w X.K X.mg X.base CX k f fd ps sp)(hr:Xt k X.A)(hg:Gl X x)(hm:X.mg x=some (.ref f))(hk:W.keepIn X.K (.ref f)=true)(hb:Xv X.K fd ps ds)(hd:Zz dvs ds)(hx:M5 CX X E)
  (ha:PA X (e::es) t) (hdb:(x==("__debug__":Str))=false:=by decide) (he:starEach (e::es) X.env=(false,eval e X.env)::starEach es X.env:=by rfl) (hpl:(backTo pos (starEach es X.env)).any (·.1)=false:=by rfl):
  PE X (.Call (.Name x p) (e::es) [] pos) (vT sp dvs E t):=by
 intro pins s σ H Q I h
 refine wpAny_Call_Name_kw (Ac I hg hm ?_ hdb)
 refine W.callWith_K (h₀:=X.base) I.ok.mod.kin hk (Jp (ha pos pins s σ H _ I h) λus s1 ⟨vs,H1,I1,r,q⟩=>⟨I1.kIn,?_⟩) he hpl
 exact Di F hr hb hd hx I1 r q
structure Mk (K:W.Frag)(C f:Addr):Prop where
 makes:W.makesIn K C=true
 init:W.findIn K (.ref C) "__init__"=some (some (.ref f))
 fn:W.isFn K (.ref f)=true
 kp:W.keepIn K (.ref C)=true
def ja {pins:List (Addr×Obj)}{σ:St}{H:Hp}{s:Shared}{Q:VK}{us:List Value}{vs:List V}(M:Mk X.K C f)(F:Vv X.prog X.w X.K X.mg X.base CX k f fd ps sp)(hr:Xt (k+1) X.A)(hb:Xv X.K fd ps ds)(hd:Zz dvs ds)
  (hx:M5 CX X E) (I:Zp X pins σ H s) (r:Zz vs us)
  (h:∀x dx,H x=none->H dx=none->dx≠x->sp (.ref x::(vs++dvs)) (Yq (Yq H dx (.own x)) x (.ins C dx [])) (λv H2=>v=.non/\Q (.ref x) H2) E):
  wpAny (model X.prog X.w) X.A (call (.ref C) us) (EP X pins σ Q) X.xe s:=by
 have hq:=h (s.heap.objs.size+1) s.heap.objs.size (I.hok.fresh (Nat.le_succ _)) (I.hok.fresh (XE _)) (XH (Nat.lt_succ_self _))
 have I2:=Zp.made (C:=C) I
 have r2:Zz (V.ref (s.heap.objs.size+1)::(vs++dvs)) (Value.ref (s.heap.objs.size+1)::(us++ds)):=.cons rfl (r.append hd)
 have hl:(Value.ref (s.heap.objs.size+1)::us++ds).length=ps.length:=by
  have e:=r2.length
  rw[F.len _ _ _ _ hq] at e
  exact e.symm
 refine wpAny_call (j5 (f:=f) I.kIn M.makes M.init (beq_iff_eq.mp M.fn) (codeAny_mono (F.run _ X.stack _ _ ⟨Value.ref (s.heap.objs.size+1)::us,[]⟩ (Value.ref (s.heap.objs.size+1)::(us++ds)) _ _ E (hr.make C us [])
  (I2.env0.make C us []) (hb _ (Value.ref (s.heap.objs.size+1)::us) I2.kIn hl) r2 hq) λr s' hq'=>?_))
 cases r with
 | error e=>exact hx pins σ _ _ e s' I2 hq'
 | ok fl=>
  cases fl with
  | ret u=>
   obtain⟨v,H',I3,rv,ev,q3⟩:=I2.after hq'
   subst ev
   exact⟨rv,⟨V.ref (s.heap.objs.size+1),H',I3,rfl,q3⟩⟩
  | next=>exact False.elim hq'
  | brk=>exact False.elim hq'
  | cont=>exact False.elim hq'
def jl (M:Mk X.K C f)(F:Vv X.prog X.w X.K X.mg X.base CX k f fd ps sp)(hr:Xt (k+1) X.A)(hg:Gl X x)(hm:X.mg x=some (.ref C))(hb:Xv X.K fd ps ds)(hd:Zz dvs ds)(hx:M5 CX X E)
  (hdb:(x==("__debug__":Str))=false:=by decide):PE X (.Call (.Name x p) [] [] pos) (qi C sp dvs E yK):=by
 intro pins s σ H Q I h
 refine wpAny_Call_Name_kw (Ac I hg hm ?_ hdb)
 exact W.callWith_K0 I.kIn M.kp (ja (us:=[]) M F hr hb hd hx I .nil h)
end
def PK (X:Cx)(kws:List Keyword)(t:TA):Prop:=
 ∀(pos:Pos) (pins:List (Addr×Obj)) (s:Shared) (σ:St) (H:Hp) (Q:List V->Hp->Prop),Zp X pins σ H s->t σ H Q->wpAny (model X.prog X.w) X.A (evalAll ((backToKw pos (keywordEach kws X.env)).map (·.2))) (AP X pins σ Q) X.xe s
section
variable {X:Cx}{CX:yx}{k:Nat}{f C:Addr}{fd:FuncData}{ps ks:List Str}{sp:Sp}{E:XK}{x m:Str}{p pos apos kpos:Pos}{e o:Expr}{es:List Expr}{kws:List Keyword}{te ta:TE}{t tk:TA}{nm:Option Str}
structure mQ (K:W.Frag)(fd:FuncData)(ps ks:List Str)(g:List Value->List Value->List Value)(gV:List V->List V->List V):Prop where
 to:∀(s:Shared) (us ws:List Value),K.In s.heap->(g us ws).length=ps.length->BindsTo s fd ⟨us,ks.zip ws⟩ (ps.zip (g us ws))
 rel:∀{vs:List V} {us:List Value} {zs:List V} {ws:List Value},Zz vs us->Zz zs ws->Zz (gV vs zs) (g us ws)
variable {g:List Value->List Value->List Value}{gV:List V->List V->List V}
end
structure Zx (N P:List Str)(sc:Scope):Prop where
 kind:sc.kind=.function
 co:sc.isCoroutine=false
 gen:sc.isGenerator=false
 nd:N.Nodup
 pre:N.take P.length=P
 par:∀x∈P,sc.names.lookup x=some .local\/sc.names.lookup x=some .cell
 nofree:∀y∈sc.names,y.2≠.free
def Kx {kindOf:Str->Option NameKind}{x:Str}:∀{binds:List (Str×Value)} {m:Str->Option Value},(∀v,(x,v)∉binds)->bindL kindOf binds m x=m x
 | [],_,_=>rfl
 | (n,v)::r,m,h=>by
  unfold bindL
  rw[Kx λw hw=>h w (XV _ hw)]
  split
  ·have:x≠n:=by rintro rfl;exact h v List.mem_cons_self
   simp[this]
  ·rfl
def Kz {kindOf:Str->Option NameKind}{x:Str}:∀{binds:List (Str×Value)} {m:Str->Option Value},(∀v,(x,v)∉binds)->bindC kindOf binds m x=m x
 | [],_,_=>rfl
 | (n,v)::r,m,h=>by
  unfold bindC
  rw[Kz λw hw=>h w (XV _ hw)]
  split
  ·rfl
  ·have:x≠n:=by rintro rfl;exact h v List.mem_cons_self
   simp[this]
def Ky {kindOf:Str->Option NameKind}{x:Str}{v:Value}:∀{P:List Str} {vs:List Value} {i:Nat} {m:Str->Option Value},P.Nodup->P[i]?=some x->vs[i]?=some v->kindOf x=some .local->
  bindL kindOf (P.zip vs) m x=some v
 | [],_,_,_,_,h,_,_=>by simp at h
 | _::_,[],_,_,_,_,h,_=>by simp at h
 | p::P,w::vs,0,m,nd,h1,h2,hk=>by
  simp at h1 h2;subst h1;subst h2
  show bindL kindOf ((p,w)::P.zip vs) m p=_
  unfold bindL
  rw[Kx λv hv=>(List.nodup_cons.mp nd).1 (List.of_mem_zip hv).1,XY hk]
  simp
 | p::P,w::vs,i+1,m,nd,h1,h2,hk=>by
  show bindL kindOf ((p,w)::P.zip vs) m x=_
  unfold bindL
  exact Ky (i:=i) (List.nodup_cons.mp nd).2 (by simpa using h1) (by simpa using h2) hk
def K0 {kindOf:Str->Option NameKind}{x:Str}{v:Value}:∀{P:List Str} {vs:List Value} {i:Nat} {m:Str->Option Value},P.Nodup->P[i]?=some x->vs[i]?=some v->kindOf x≠some .local->
  bindC kindOf (P.zip vs) m x=some v
 | [],_,_,_,_,h,_,_=>by simp at h
 | _::_,[],_,_,_,_,h,_=>by simp at h
 | p::P,w::vs,0,m,nd,h1,h2,hk=>by
  simp at h1 h2;subst h1;subst h2
  show bindC kindOf ((p,w)::P.zip vs) m p=_
  unfold bindC
  rw[Kz λv hv=>(List.nodup_cons.mp nd).1 (List.of_mem_zip hv).1,XX hk]
  simp
 | p::P,w::vs,i+1,m,nd,h1,h2,hk=>by
  show bindC kindOf ((p,w)::P.zip vs) m x=_
  unfold bindC
  exact K0 (i:=i) (List.nodup_cons.mp nd).2 (by simpa using h1) (by simpa using h2) hk
def start (N:List Str)(vs:List V):St:=vs.map some++List.replicate (N.length-vs.length) none
def Eo (CX:yx)(P:Program)(w:World)(K:W.Frag)(mg:Str->Option Value)(base:Heap)(N:List Str)(qual:Str)(scope:Scope)(f:Addr)(cd:Value)(A:Around)(outer:List Env)(s:Shared)(H:Hp)(E:XK):Cx where
 prog:=P
 w:=w
 K:=K
 mg:=mg
 base:=base
 A:=A.deeper (envOfC qual scope s.heap.objs.size f cd)
 N:=N
 s₀:=s
 H₀:=H
 env:=envOfC qual scope s.heap.objs.size f cd
 outer:=outer
 stack:=envOfC qual scope s.heap.objs.size f cd::outer
 ex:=[]
 calm:=true
 fn:=λ_=>true
 pn:=[]
 xe:=λe s'=>wpAny (model P w) (A.deeper (envOfC qual scope s.heap.objs.size f cd)) (leaving (envOfC qual scope s.heap.objs.size f cd) e) (λ_ s''=>CX outer H s E e s'') (λe' s''=>CX outer H s E e' s'') s'
def Es {sc:Scope}{n:Nat}{x:Str}(h:sc.names.lookup x=some .cell):∃c,(cellsFrom n sc.names []).lookup x=some c:=by
 have q:=W.cellsFrom_some sc.names n [] (.inl h)
 exact Option.isSome_iff_exists.mp q
def zJ {CX:yx}{P:Program}{w:World}{K:W.Frag}{mg:Str->Option Value}{base:Heap}{N ps:List Str}{qual:Str}{scope:Scope}{f:Addr}{cd:Value}{A:Around}{outer:List Env}{s s1:Shared}{H:Hp}{E:XK}{us:List Value}{vs:List V}
  (S:Zx N ps scope) (hd:A.handled=none) (e0:Bg P w K mg base A outer s H) (hl:vs.length=ps.length) (r:Zz vs us)
  (x:InCallC s s.heap.objs.size (bindL (envOfC qual scope s.heap.objs.size f cd).kindOf (ps.zip us) λ_=>none) (cellsFrom (s.heap.objs.size+1) scope.names []) (bindC (envOfC qual scope s.heap.objs.size f cd).kindOf (ps.zip us) λ_=>none) s1):
  Zp (Eo CX P w K mg base N qual scope f cd A outer s H E) [] (start N vs) H s1:=by
 have hpl:ps.length<=N.length:=by have:=congrArg List.length S.pre;rw[YM] at this;omega
 obtain⟨h1,tk,rfl,hk⟩:=x.done
 have noA:∀b:Addr,b∉(Eo CX P w K mg base N qual scope f cd A outer s H E).ex:=λb z=>absurd (show b∈([]:List Addr) from z) (by simp)
 refine⟨⟨e0.mod,S.kind,rfl,rfl,XE _,λy z c h1 h2=>?_,λy hy=>?_,λy c _ h=>?_,λ_=>hd,Around.frames_deeper e0.frames,.inr ⟨rfl,rfl⟩,λb z=>absurd z (noA b),e0.bs,e0.bsz,λb _ _=>noA b,λb z=>absurd z (noA b),e0.funs,e0.frf⟩,
  rfl,e0.bare,Un.kept hk,⟨_,x.toInCall.ns,λi y v h1 h2 h3=>?_⟩,λy c h=>⟨_,x.cell y c h⟩,e0.hok.fresh (Nat.le_refl _),λy c h=>?_,λp hp=>absurd (show p∈([]:List (Addr×Obj)) from hp) (by simp),e0.hok.kept hk,?_⟩
 ·exact name_of_addr x.apart (PySem.mem_of_lookup h1) (PySem.mem_of_lookup h2)
 ·have hy:scope.names.lookup y=some .cell\/scope.names.lookup y=some .free:=hy
  rcases hy with hy | hy
  ·exact Es hy
  ·exact absurd rfl (S.nofree _ (PySem.mem_of_lookup hy))
 ·exact Nat.le_of_lt (x.above y c (PySem.mem_of_lookup h))
 ·have hi:i<vs.length:=by
   unfold start at h2
   by_cases hi:i<vs.length
   ·exact hi
   ·rw[List.getElem?_append_right (by simpa using hi)] at h2
    rw[List.getElem?_replicate] at h2
    split at h2<;>cases h2
  have ha:vs[i]?=some v:=by
   unfold start at h2
   rw[List.getElem?_append_left (by simpa using hi),List.getElem?_map] at h2
   cases e:vs[i]? with
   | none=>rw[e] at h2;cases h2
   | some a=>rw[e] at h2;cases h2;rfl
  obtain⟨u,hu,rv⟩:=r.get ha
  have hp:ps[i]?=some y:=by
   rw[<-S.pre,List.getElem?_take_of_lt (by omega)];exact h1
  have ndP:ps.Nodup:=by rw[<-S.pre];exact S.nd.sublist (List.take_sublist _ _)
  refine⟨u,rv,?_⟩
  rcases S.par y (List.mem_of_getElem? hp) with k | k
  ·exact .inl ⟨k,Ky ndP hp hu k⟩
  ·obtain⟨c,e⟩:=Es (n:=s.heap.objs.size+1) k
   refine .inr ⟨.inl k,c,e,?_⟩
   have q:=x.cell y c e
   rw[K0 ndP hp hu (by show scope.names.lookup y≠_;rw[k];decide)] at q
   exact q
 ·exact e0.hok.fresh (Nat.le_of_lt (x.above y c (PySem.mem_of_lookup h)))
 ·unfold start
  show _=N.length
  rw[List.length_append,XI,List.length_replicate]
  omega
def pF {CX:yx}{P:Program}{w:World}{K:W.Frag}{mg:Str->Option Value}{base:Heap}{k:Nat}{f:Addr}{name qual:Str}{params:Arguments}{body:List Stmt}{scope:Scope}{dV kV doc pm cdv ct oc:Value}{an od:Option Addr}
  {osl:Array (Option Value)} {N ps:List Str} {sp:Sp} (lk:K.lookup f=some ⟨oc,od,.func (W.fnOf name qual params body scope dV kV doc pm an cdv ct),osl⟩) (hcd:W.codeIn K cdv qual=true) (S:Zx N ps scope)
  (len:∀vs H Q E,sp vs H Q E->vs.length=ps.length)
  (hbody:∀(A:Around) (outer:List Env) (s:Shared) (H:Hp) (vs:List V) (Q:VK) (E:XK),Xt k (A.deeper (envOfC qual scope s.heap.objs.size f cdv))->sp vs H Q E->
   ∃t,A3 (Eo CX P w K mg base N qual scope f cdv A outer s H E) body t/\t {nx:=λ_ H'=>Q .non H',rt:=Q} (start N vs) H):
  Vv P w K mg base CX (k+1) f (W.fnOf name qual params body scope dV kV doc pm an cdv ct) ps sp:=by
 refine⟨len,λA outer s H args us vs Q E hr e0 hb r hsp=>?_⟩
 have hl:=len _ _ _ _ hsp
 have KX:K.In s.heap:=e0.mod.kin.keeps λb o e=>(e0.bs b o e).1
 have lim:s.heap.NoLimit:=e0.mod.nolimit.keeps λb o e=>(e0.bs b o e).1
 have hkind:∀y∈ps.zip us,scope.names.lookup y.1=some .local\/(scope.names.lookup y.1=some .cell/\((cellsFrom (s.heap.objs.size+1) scope.names []).lookup y.1).isSome=true):=λ⟨n,v⟩ hy=>by
  rcases S.par n (List.of_mem_zip hy).1 with q | q
  ·exact .inl q
  ·exact .inr ⟨q,W.cellsFrom_some _ _ _ (.inl q)⟩
 refine codeAny_call_function hr.depth (KX _ _ lk) rfl S.co S.gen rfl (W.codeRec_of KX hcd) (hb _ _ _ _ ?_)
 refine wpAny_newFunctionEnv_cells S.kind hkind λenv he s1 x=>?_
 subst he
 refine⟨lim.keeps x.toInCall.keep,codeAny_func ?_⟩
 obtain⟨t,ht,hq⟩:=hbody A outer s H vs Q E (hr.deeper _) hsp
 have I:Zp (Eo CX P w K mg base N qual scope f cdv A outer s H E) [] (start N vs) H s1:=zJ S hr.hd e0 hl r x
 refine wpAny_mono (ht [] s1 (start N vs) H _ I hq) (λfl s' hs=>?_) λe s' hs=>hs
 have fin:∀{σ':St} {H':Hp} {v:V} {u:Value},Zp (Eo CX P w K mg base N qual scope f cdv A outer s H E) [] σ' H' s'->Z0 v u->Q v H'->CE outer P w H s Q u s':=
  λ{σ' H' v u} J rv q=>⟨v,H',J.os,J.bare,J.base,J.hok,rv,q⟩
 cases fl with
 | ret u=>
  obtain⟨v,σ',H',J,rv,q⟩:=hs
  exact fin J rv q
 | next=>
  obtain⟨σ',H',J,q⟩:=hs
  exact fin (v:=V.non) (u:=Value.none) J rfl q
 | brk=>
  obtain⟨_,_,_,q⟩:=hs
  exact False.elim q
 | cont=>
  obtain⟨_,_,_,q⟩:=hs
  exact False.elim q
section
variable {X:Cx}{x:Str}{p pos:Pos}{e:Expr}{es:List Expr}{t:TA}{id T:String}{r:List V->Hp->VK->Prop}
def nB (r:List V->Hp->VK->Prop)(t:TA):TE:=λσ H Q=>t σ H λvs H1=>r vs H1 Q
def Fs (hc:Wj X (.builtin id) r)(hg:Gl X x)(hm:X.mg x=none)(hv:bootBuiltins x=some (.builtin id))(ha:PA X (e::es) t)(hn:x≠"__name__":=by decide)(hdb:(x==("__debug__":Str))=false:=by decide)
  (he:starEach (e::es) X.env=(false,eval e X.env)::starEach es X.env:=by rfl) (hpl:(backTo pos (starEach es X.env)).any (·.1)=false:=by rfl):PE X (.Call (.Name x p) (e::es) [] pos) (nB r t):=by
 intro pins s σ H Q I h
 refine wpAny_Call_Name_kw (Uj I hg hm hv ?_ hn hdb)
 exact PyProof.Rows.callWith_builtin1 (Jp (ha pos pins s σ H _ I h) λus s1 ⟨vs,H1,I1,r1,q1⟩=>hc pins s1 σ H1 vs us Q I1 r1 q1) he hpl
def zv (hc:Wj X (.type T) r)(hg:Gl X x)(hm:X.mg x=none)(hv:bootBuiltins x=some (.type T))(ha:PA X (e::es) t)(hn:x≠"__name__":=by decide)(hdb:(x==("__debug__":Str))=false:=by decide)
  (he:starEach (e::es) X.env=(false,eval e X.env)::starEach es X.env:=by rfl) (hpl:(backTo pos (starEach es X.env)).any (·.1)=false:=by rfl):PE X (.Call (.Name x p) (e::es) [] pos) (nB r t):=by
 intro pins s σ H Q I h
 refine wpAny_Call_Name_kw (Uj I hg hm hv ?_ hn hdb)
 exact PyProof.Rows.callWith_type1 (Jp (ha pos pins s σ H _ I h) λus s1 ⟨vs,H1,I1,r1,q1⟩=>hc pins s1 σ H1 vs us Q I1 r1 q1) he hpl
end
end L2
namespace HT
open PySem PyProof.Rows
def pB:List Int->List Int->Bool
 | [],[]=>false
 | [],_::_=>true
 | _::_,[]=>false
 | x::xs,y::ys=>if x=y then pB xs ys else decide (x<y)
section
open PySem.SeqAt
open PySem.AutoSeq1 (wpAny_loadPart')
open PySem.MeetsSeq PySem.MeetsSeq2 PySem.MeetsSeq3
end
section
variable {prog:Program}{w:World}{A:Around}{E:Value->Shared->Prop}{s:Shared}
def cat_tup {t b:Addr}{vs ws:List Value}{Q:Value->Shared->Prop}(ht:IsTup s.heap t vs.toArray)(hb:IsTup s.heap b ws.toArray)(hv:vs≠[])
  (h1:ws=[]->Q (.ref t) s) (h2:ws≠[]->Q (.ref s.heap.objs.size) {s with heap:=s.heap.push {cls:=.type "tuple",data:=.seq (vs++ws).toArray}})
  (hsz:vs.length+ws.length<=sizeLine):wpAny (model prog w) A (binaryOp .Add (.ref t) (.ref b)) Q E s:=by
 obtain⟨⟨cls,dd,data,sl⟩,ho,hc,n,hd⟩:=id ht
 obtain⟨⟨cls2,dd2,data2,sl2⟩,ho2,hc2,n2,hd2⟩:=id hb
 simp only at hc hd hc2 hd2
 subst hc hd hc2 hd2
 have e:vs.toArray++ws.toArray=(vs++ws).toArray:=by simp
 by_cases hw:ws=[]
 ·exact concat_meets ⟨_,ho,rfl⟩ ⟨_,ho2,rfl⟩ noFill_tuple_add seq_tuple_add PySem.F.slot_tuple_add PySem.F.entry_tuple_add (PySem.F.args_tuple_add_2 _ _)
   (tuple_addW1 t b vs.toArray ws.toArray n n2 dd dd2 sl sl2 (by simpa using hv) (by simp[hw])) ⟨ho,ho2,h1 hw⟩
 ·refine concat_meets ⟨_,ho,rfl⟩ ⟨_,ho2,rfl⟩ noFill_tuple_add seq_tuple_add PySem.F.slot_tuple_add PySem.F.entry_tuple_add (PySem.F.args_tuple_add_2 _ _)
   (tuple_addW2 t b vs.toArray ws.toArray n n2 dd dd2 sl sl2 (by simpa using hv) (by simpa using hw) (by rw[List.size_toArray,List.size_toArray];exact hsz)) ⟨ho,ho2,?_⟩
  rw[e]
  exact h2 hw
def sIx (n d:Nat):Option Int->Nat
 | none=>d
 | some v=>if v<0 then(v+(n:Int)).toNat else min v.toNat n
def sIx_none (n d:Nat):sIx n d none=d:=rfl
def sIx_nat (n d k:Nat):sIx n d (some (k:Int))=min k n:=by
 show(if (k:Int)<0 then((k:Int)+(n:Int)).toNat else min (k:Int).toNat n)=min k n
 rw[XX (by omega),Int.toNat_natCast]
def uK (n d:Nat)(hd:d<=n)(o:Option Int):sIx n d o<=n:=by
 cases o with
 | none=>exact hd
 | some v=>
  show(if v<0 then(v+(n:Int)).toNat else min v.toNat n)<=n
  by_cases hv:v<0
  ·rw[XY hv];omega
  ·rw[XX hv];exact Nat.min_le_right _ _
def At (v:Int)(n d:Nat):(if v<0 then max (v+(n:Int)) 0 else min v (n:Int))=((sIx n d (some v):Nat):Int):=by
 show(if v<0 then max (v+(n:Int)) 0 else min v (n:Int))=(((if v<0 then(v+(n:Int)).toNat else min v.toNat n):Nat):Int)
 by_cases hv:v<0
 ·simp only[if_pos hv];omega
 ·simp only[if_neg hv];omega
def Cz (lo hi:Option Int)(n:Nat):Builtin.Slice.sliceAdjust lo hi 1 (n:Int)=(((sIx n 0 lo:Nat):Int),((sIx n n hi:Nat):Int)):=by
 have h1:¬((1:Int)<0):=by omega
 unfold Builtin.Slice.sliceAdjust
 simp only[h1,if_false]
 refine Prod.ext ?_ ?_
 ·cases lo with
  | none=>rfl
  | some v=>exact At v n 0
 ·cases hi with
  | none=>rfl
  | some v=>exact At v n n
def Dl (i j:Nat):Builtin.Slice.slicePlaces (i:Int) (j:Int) 1=j-i:=by
 unfold Builtin.Slice.slicePlaces
 have h1:(1:Int)>0:=by omega
 simp only[h1,if_true,Int.ediv_one]
 split<;>omega
def Nx {v:Value}{o:Option Int}{Q:Option Int->Shared->Prop}(p:IsPart v o)(h:Q o s):wpAny (model prog w) A (Builtin.Slice.slicePartIndex v) Q E s:=by
 cases p with
 | none=>exact slicePart_none h
 | int i t=>exact slicePart_int h
def Ut {sl:Addr}{vl vu:Value}{lo hi:Option Int}{n:Nat}{Q:Int×Int×Nat->Shared->Prop}(hs:s.heap.IsSliceOf sl vl vu .none)(pl:IsPart vl lo)(pu:IsPart vu hi)
  (h:Q (((sIx n 0 lo:Nat):Int),1,sIx n n hi-sIx n 0 lo) s):wpAny (model prog w) A (Builtin.Slice.sliceApplied (.ref sl) (pure (n:Int))) Q E s:=by
 obtain⟨os,hos,hcs,hds⟩:=id hs
 unfold Builtin.Slice.sliceApplied Builtin.Slice.sliceFields
 refine XA (XA (wpAny_field hos hds (x:=vl) rfl (XA (wpAny_field hos hds (x:=vu) rfl (XA (wpAny_field hos hds (x:=.none) rfl (XB ?_)))))))
 refine XA (slicePart_none ?_)
 show wpAny _ _ (if ((1:Int)==0)=true then _ else _) _ _ s
 rw[XX (by decide)]
 refine XA (Nx pl (XA (Nx pu (XA (XB ?_)))))
 show wpAny _ _ (match Builtin.Slice.sliceAdjust lo hi 1 (n:Int) with | (lo,hi)=>pure (lo,(1:Int),Builtin.Slice.slicePlaces lo hi 1)) _ _ s
 rw[Cz lo hi n]
 show wpAny _ _ (pure (((sIx n 0 lo:Nat):Int),(1:Int),Builtin.Slice.slicePlaces ((sIx n 0 lo:Nat):Int) ((sIx n n hi:Nat):Int) 1)) _ _ s
 rw[Dl]
 exact XB h
def ji (xs:Array Value)(i k:Nat):((List.range k).filterMap λ(m:Nat)=>xs[((i:Int)+(m:Int)*1).toNat]?).toArray=((xs.toList.drop i).take k).toArray:=by
 have e:(λ(m:Nat)=>xs[((i:Int)+(m:Int)*1).toNat]?)=λm=>xs[i+m]?:=by
  funext m
  have:((i:Int)+(m:Int)*1).toNat=i+m:=by omega
  rw[this]
 rw[e]
 have:=pick_run xs i k
 rw[List.filterMap_map] at this
 have e2:((λx=>xs[x]?)∘λx=>i+x)=λm=>xs[i+m]?:=rfl
 rw[e2] at this
 rw[this]
def getItem_tuple_cut {t sl:Addr}{items:Array Value}{vl vu:Value}{lo hi:Option Int}{Q:Value->Shared->Prop}(ht:IsTup s.heap t items)(hs:s.heap.IsSliceOf sl vl vu .none)(pl:IsPart vl lo)(pu:IsPart vu hi)
  (hw:¬(sIx items.size 0 lo=0/\sIx items.size items.size hi=items.size))
  (h:Q (.ref s.heap.objs.size) {s with heap:=s.heap.push {cls:=.type "tuple",data:=.seq ((items.toList.drop (sIx items.size 0 lo)).take (sIx items.size items.size hi-sIx items.size 0 lo)).toArray}})
  (hsz:items.size<=sizeLine):wpAny (model prog w) A (getItem (.ref t) (.ref sl)) Q E s:=by
 have htake:sizeOk (.seq ((items.toList.drop (sIx items.size 0 lo)).take (sIx items.size items.size hi-sIx items.size 0 lo)).toArray):=by
  show((items.toList.drop (sIx items.size 0 lo)).take (sIx items.size items.size hi-sIx items.size 0 lo)).toArray.size<=sizeLine
  rw[XJ,YM,List.length_drop,Array.length_toList]
  omega
 have hj:sIx items.size items.size hi<=items.size:=uK _ _ (XE _) hi
 obtain⟨os,hos,hcs,hds⟩:=id hs
 have hTs:s.TypeIs (.ref sl) "slice":=⟨os,hos,hcs⟩
 unfold getItem
 try with_reducible refine wpAny_holding ?_
 first | refine XA (XB ?_) | skip
 refine XA (wpAny_sequenceKey ht.typeIs (by decide) ?_)
 refine XA (wpAny_callSpecial?_slot (name:=Str.ofString "__getitem__") ht.typeIs PyProof.Rows.slot_tuple_getitem
  (wpAny_call_entry PyProof.Rows.slot_tuple_getitem ht.typeIs entry_tuple_getitem ?_ (args_tuple_getitem _ _)))
 show wpAny _ _ (Builtin.Tuple.tupleItemsOf (.ref t)>>=_) _ _ s
 refine XA (tupleItemsOf_ ht ?_)
 refine XA (wpAny_typeOf hTs ?_)
 rw[XY (by decide)]
 refine XA (Ut hs pl pu ?_)
 have hno:¬((((sIx items.size 0 lo:Nat):Int)==0&&(1:Int)==1&&(sIx items.size items.size hi-sIx items.size 0 lo)==items.size)=true):=by
  intro q
  rw[Bool.and_eq_true,Bool.and_eq_true] at q
  have q1:((sIx items.size 0 lo:Nat):Int)=0:=eq_of_beq q.1.1
  have q2:sIx items.size items.size hi-sIx items.size 0 lo=items.size:=eq_of_beq q.2
  exact hw ⟨by omega,by omega⟩
 show wpAny _ _ (if (((sIx items.size 0 lo:Nat):Int)==0&&(1:Int)==1&&(sIx items.size items.size hi-sIx items.size 0 lo)==items.size)=true then _ else _) _ _ s
 rw[XX hno,ji]
 first
  | exact XA (m:=Builtin.Tuple.tupleExact _) (wpAny_newObj_type (XB ⟨_,rfl,XB h⟩) htake)
  | exact XA (m:=Builtin.Tuple.tupleExact _) (wpAny_newObj_type (XA (XB (XB ⟨_,rfl,XB h⟩))) htake)
  | exact XA (XA (m:=Builtin.Tuple.tupleExact _) (wpAny_newObj_type (XB (XB ⟨_,rfl,XB h⟩)) htake))
  | exact XA (XA (m:=Builtin.Tuple.tupleExact _) (wpAny_newObj_type (XB ⟨_,rfl,XB h⟩) htake))
end
end HT
namespace L2
open PySem PySem.Spec PyProof.Rows
abbrev TO:=St->Hp->(Option Int->Hp->Prop)->Prop
def PO (X:Cx)(e:Option Expr)(t:TO):Prop:=
 ∀(pins:List (Addr×Obj)) (s:Shared) (σ:St) (H:Hp) (Q:Option Int->Hp->Prop),Zp X pins σ H s->t σ H Q->
  wpAny (model X.prog X.w) X.A (evalPart e X.env) (λu s'=>∃o H',Zp X pins σ H' s'/\IsPart u o/\Q o H') X.xe s
def xX:TO:=λ_ H Q=>Q none H
def qe (t:TE):TO:=λσ H Q=>t σ H λx H1=>∃i,x=.int i/\Q (some i) H1
section
variable {X:Cx}{e:Expr}{te:TE}{lo hi:Option Expr}{tl th:TO}{pos p2:Pos}
def wJ:PO X none xX:=by
 intro pins s σ H Q I h
 rw[evalPart_none]
 exact XB ⟨none,H,I,.none,h⟩
def wI (h:PE X e te):PO X (some e) (qe te):=by
 intro pins s σ H Q I hw
 rw[evalPart_some]
 refine Jp (h pins s σ H _ I hw) λu s1 ⟨x,H1,I1,r1,q1⟩=>?_
 obtain⟨i,rfl,q⟩:=q1
 obtain⟨t,rfl⟩:=r1
 exact⟨some i,H1,I1,.int i t,q⟩
def xL (X:Cx)(r:V->Option Int->Option Int->Hp->VK->Prop):Prop:=
 ∀(pins:List (Addr×Obj)) (s:Shared) (σ:St) (H:Hp) (x:V) (v vl vu:Value) (lo hi:Option Int) (sl:Addr) (Q:VK),Zp X pins σ H s->Z0 x v->s.heap.IsSliceOf sl vl vu .none->IsPart vl lo->IsPart vu hi->r x lo hi H Q->
  ∃T id,typeLookup (.type T) "__getitem__"=pure (some (.builtin id))/\s.TypeIs v T/\wpAny (model X.prog X.w) X.A (getItem v (.ref sl)) (EP X pins σ Q) X.xe s
def xL.or {r r':V->Option Int->Option Int->Hp->VK->Prop}(h:xL X r)(h':xL X r'):xL X (λx lo hi H Q=>r x lo hi H Q\/r' x lo hi H Q):=by
 intro pins s σ H x v vl vu lo hi sl Q I rx hs pl pu q
 rcases q with q | q
 ·exact h pins s σ H x v vl vu lo hi sl Q I rx hs pl pu q
 ·exact h' pins s σ H x v vl vu lo hi sl Q I rx hs pl pu q
def lL (r:V->Option Int->Option Int->Hp->VK->Prop)(te:TE)(tl th:TO):TE:=λσ H Q=>te σ H λx H1=>tl σ H1 λl H2=>th σ H2 λu H3=>r x l u H3 Q
def Fq {r:V->Option Int->Option Int->Hp->VK->Prop}(hr:xL X r)(he:PE X e te)(hl:PO X lo tl)(hu:PO X hi th):PE X (.Subscript e (.Slice lo hi none p2) pos) (lL r te tl th):=by
 intro pins s σ H Q I h
 refine Subscript_ (Jp (he pins s σ H _ I h) λv s1 ⟨x,H1,I1,r1,q1⟩=>?_)
 refine wpAny_Slice (Jp (hl pins s1 σ H1 _ I1 q1) λvl s2 ⟨l,H2,I2,pl,q2⟩=>Jp (hu pins s2 σ H2 _ I2 q2) λvu s3 ⟨u,H3,I3,pu,q3⟩=>?_)
 rw[evalPart_none]
 refine XB ?_
 have I4:Zp X pins σ H3 {s3 with heap:=s3.heap.push {cls:=.type "slice",data:=.fields #[vl,vu,.none]}}:=I3.kept (t':=s3.toks) λb ob q=>XC _ q
 obtain⟨T,id,hT,ht,hg⟩:=hr pins {s3 with heap:=s3.heap.push {cls:=.type "slice",data:=.fields #[vl,vu,.none]}} σ H3 x v vl vu l u s3.heap.objs.size Q I4 r1 (Heap.IsSliceOf.new ..) pl pu q3
 show wpAny (model X.prog X.w) X.A (subscriptTail e (.Slice lo hi none p2) v (.ref s3.heap.objs.size)) (EP X pins σ Q) X.xe {s3 with heap:=s3.heap.push {cls:=.type "slice",data:=.fields #[vl,vu,.none]}}
 exact tail_any (ops:=[.ref s3.heap.objs.size,v]) ht hT hg (by with_unfolding_all rfl)
def Ep (xs:List V)(lo hi:Option Int):List V:=(xs.drop (HT.sIx xs.length 0 lo)).take (HT.sIx xs.length xs.length hi-HT.sIx xs.length 0 lo)
def On (xs:List V)(lo hi:Option Int):(Ep xs lo hi).length<=xs.length:=by
 unfold Ep
 rw[YM,List.length_drop]
 omega
def nL (K:W.Frag):V->Option Int->Option Int->Hp->VK->Prop:=λx lo hi H Q=>∃a xs,x=.ref a/\V6 K H a xs/\
 ¬(HT.sIx xs.length 0 lo=0/\HT.sIx xs.length xs.length hi=xs.length)/\∀p,H p=none->Q (.ref p) (Yq H p (.tup (Ep xs lo hi)))
def yP:xL X (nL X.K):=by
 intro pins s σ H x v vl vu lo hi sl Q I rx hs pl pu h
 obtain⟨a,xs,rfl,hx,hw,q⟩:=h
 cases rx
 obtain⟨its,r,ht,hz⟩:=I.tuple hx
 have hlen:its.toArray.size=xs.length:=by rw[XJ];exact r.length.symm
 refine⟨"tuple",_,PyProof.Rows.slot_tuple_getitem.lookup,ht.typeIs,?_⟩
 refine HT.getItem_tuple_cut ht hs pl pu (by rw[hlen];exact hw) ?_ (by rw[hlen];exact hz)
 rw[hlen]
 refine⟨.ref s.heap.objs.size,_,I.laid (t':=s.toks) (o:=.tup (Ep xs lo hi)) (λb ob q=>XC _ q) (XE _) ?_,rfl,q _ (I.hok.fresh (XE _))⟩
 exact⟨XN (On xs lo hi) hz,_,(r.drop (HT.sIx xs.length 0 lo)).take (HT.sIx xs.length xs.length hi-HT.sIx xs.length 0 lo),IsTup.new _ _⟩
def qK (K:W.Frag):R2:=λx y H Q=>∃a b xs ys,x=.ref a/\y=.ref b/\V6 K H a xs/\V6 K H b ys/\xs≠[]/\xs.length+ys.length<=sizeLine/\
 (ys=[]->Q (.ref a) H)/\(ys≠[]->∀p,H p=none->Q (.ref p) (Yq H p (.tup (xs++ys))))
def Zz.nil_iff {xs:List V}{us:List Value}(r:Zz xs us):us=[]↔xs=[]:=by
 cases r with
 | nil=>simp
 | cons _ _=>simp
def wS:O6 X (binaryOp .Add) (qK X.K):=by
 intro pins s σ H x y v u Q I rx ry h
 obtain⟨a,b,xs,ys,rfl,rfl,ha,hb,hx,hz,q1,q2⟩:=h
 cases rx
 cases ry
 obtain⟨its,r1,p1,_⟩:=I.tuple ha
 obtain⟨its2,r2,p2,_⟩:=I.tuple hb
 refine HT.cat_tup p1 p2 (λz=>hx (r1.nil_iff.mp z)) (λz=>⟨.ref a,H,I,rfl,q1 (r2.nil_iff.mp z)⟩) (λz=>?_) (by rw[<-r1.length,<-r2.length];exact hz)
 refine⟨.ref s.heap.objs.size,_,I.laid (t':=s.toks) (o:=.tup (xs++ys)) (λb ob q=>XC _ q) (XE _) ?_,rfl,q2 (λw=>z (r2.nil_iff.mpr w)) _ (I.hok.fresh (XE _))⟩
 exact⟨by rw[List.length_append];exact hz,_,r1.append r2,IsTup.new _ _⟩
end
def jD (n:Nat)(i:Int):Option Nat:=if 0<=i then(if i<n then some i.toNat else none) else if-(n:Int)<=i then some (i+n).toNat else none
def Pf {α:Type}(xs:List α)(i:Int):Option α:=(jD xs.length i).bind λj=>xs[j]?
def Ae {n:Nat}{i:Int}{j:Nat}(h:jD n i=some j):seqIndex? i n=some j/\j<n/\ -(n:Int)<=i/\i<n:=by
 unfold jD at h
 by_cases h0:0<=i
 ·rw[XY h0] at h
  by_cases h1:i<n
  ·rw[XY h1] at h
   have e:i.toNat=j:=YH h
   exact⟨by rw[seqIndex_of h0 h1,e],by omega,by omega,h1⟩
  ·rw[XX h1] at h;cases h
 ·rw[XX h0] at h
  by_cases h1: -(n:Int)<=i
  ·rw[XY h1] at h
   have e:(i+n).toNat=j:=YH h
   exact⟨by rw[seqIndex_neg (by omega) h1,e],by omega,h1,by omega⟩
  ·rw[XX h1] at h;cases h
def Gr {α:Type}{xs:List α}{i:Int}{v:α}(h:Pf xs i=some v):∃j,seqIndex? i xs.length=some j/\xs[j]?=some v/\j<xs.length/\ -(xs.length:Int)<=i/\i<xs.length:=by
 unfold Pf at h
 cases e:jD xs.length i with
 | none=>rw[e] at h;cases h
 | some j=>
  rw[e] at h
  obtain⟨h1,h2,h3,h4⟩:=Ae e
  exact⟨j,h1,h,h2,h3,h4⟩
def Vb {α:Type}{xs:List α}{j:Nat}{v:α}(h:xs[j]?=some v):Pf xs (j:Int)=some v:=by
 have hj:j<xs.length:=(List.getElem?_eq_some_iff.mp h).1
 have e:jD xs.length (j:Int)=some j:=by
  unfold jD
  rw[if_pos (by omega),if_pos (by omega)];simp
 unfold Pf;rw[e];exact h
def A0 (b:Expr):Prop:=∀o i,subscripted b false o i=operate [o,i] (getItem o i)
def xN (X:Cx)(r:R2):Prop:=
 ∀(value slice:Expr) (pins:List (Addr×Obj)) (s:Shared) (σ:St) (H:Hp) (x y:V) (v u:Value) (Q:VK),Zp X pins σ H s->Z0 x v->Z0 y u->r x y H Q->
  subscripted slice false v u=operate [v,u] (getItem v u)->wpAny (model X.prog X.w) X.A (subscriptTail value slice v u) (EP X pins σ Q) X.xe s
def oM (X:Cx)(id:String)(r:V->List V->Hp->VK->Prop):Prop:=
 ∀(pins:List (Addr×Obj)) (s:Shared) (σ:St) (H:Hp) (x:V) (xs:List V) (v:Value) (us:List Value) (Q:VK),Zp X pins σ H s->Z0 x v->Zz xs us->r x xs H Q->
  wpAny (model X.prog X.w) X.A (call (.builtin id) (v::us)) (EP X pins σ Q) X.xe s
section
variable {X:Cx}{a b:Expr}{ta tb:TE}{pos:Pos}
def xN.or {r r':R2}(h:xN X r)(h':xN X r'):xN X (λx y H Q=>r x y H Q\/r' x y H Q):=by
 intro value slice pins s σ H x y v u Q I rx ry q hs
 rcases q with q | q
 ·exact h value slice pins s σ H x y v u Q I rx ry q hs
 ·exact h' value slice pins s σ H x y v u Q I rx ry q hs
def qR {r:R2}(hr:xN X r)(ha:PE X a ta)(hb:PE X b tb)(hs:A0 b):PE X (.Subscript a b pos) (qf r ta tb):=by
 intro pins s σ H Q I h
 exact Subscript_ (sX ha hb I h λv u s2 x y H2 I2 rx ry q=>hr a b pins s2 σ H2 x y v u Q I2 rx ry q (hs _ _))
def qJ (K:W.Frag):R2:=λx y H Q=>∃p xs i v,x=.ref p/\y=.int i/\Xr K H p xs/\Pf xs i=some v/\Q v H
def qH (K:W.Frag):R2:=λx y H Q=>∃p xs i v,x=.ref p/\y=.int i/\V6 K H p xs/\Pf xs i=some v/\Q v H
def qI:R2:=λx y H Q=>∃z i c,x=.str z/\y=.int i/\z.length<=sizeLine/\Pf z.cps.toList i=some c/\Q (.str ⟨#[c]⟩) H
def vg:xN X (qJ X.K):=by
 intro value slice pins s σ H x y v u Q I rx ry h hs
 obtain⟨p,xs,i,z,rfl,rfl,hq,he,q⟩:=h
 cases rx
 obtain⟨t,rfl⟩:=ry
 obtain⟨its,r,pl,hz⟩:=I.list hq
 obtain⟨j,h1,h2,h3,h4,h5⟩:=Gr he
 obtain⟨w,ew,rw'⟩:=r.get h2
 have hl:=r.length
 have hn:=Qh
 have fin:EP X pins σ Q w s:=⟨z,H,I,rw',q⟩
 by_cases h0:0<=i
 ·have hj:i.toNat=j:=by
   rw[seqIndex_of h0 h5] at h1
   exact YH h1
  exact item_listR pl.isList h0 (by omega) (by rw[hj];simpa using ew) fin hs
 ·have hj:(i+(its.toArray.size:Int)).toNat=j:=by
   rw[seqIndex_neg (by omega) h4] at h1
   rw[XJ,<-hl]
   exact YH h1
  exact subscriptTail_builtinR (x:=w) pl.isList.typeIs slot_list_getitem.lookup
   (wpAny_getItem_list_neg (Q:=λr s'=>r=w/\EP X pins σ Q r s') pl.isList (by omega) (by rw[List.size_toArray]<;>omega) (by omega) (by rw[hj];simpa using ew) ⟨rfl,fin⟩) hs
def su:xN X (qH X.K):=by
 intro value slice pins s σ H x y v u Q I rx ry h hs
 obtain⟨p,xs,i,z,rfl,rfl,hq,he,q⟩:=h
 cases rx
 obtain⟨t,rfl⟩:=ry
 obtain⟨its,r,pl,hz⟩:=I.tuple hq
 obtain⟨j,h1,h2,h3,h4,h5⟩:=Gr he
 obtain⟨w,ew,rw'⟩:=r.get h2
 have hl:=r.length
 have hn:=Qh
 have fin:EP X pins σ Q w s:=⟨z,H,I,rw',q⟩
 exact subscriptTail_builtinR (x:=w) pl.typeIs slot_tuple_getitem.lookup
  (getItem_tuple (j:=j) (Q:=λr s'=>r=w/\EP X pins σ Q r s') pl (by omega) (by omega) (by rw[List.size_toArray,<-hl];exact h1) (by simpa using ew) ⟨rfl,fin⟩) hs
def sv:xN X qI:=by
 intro value slice pins s σ H x y v u Q I rx ry h hs
 obtain⟨z,i,c,rfl,rfl,hz,he,q⟩:=h
 obtain⟨t,rfl⟩:=rx
 obtain⟨t',rfl⟩:=ry
 obtain⟨j,h1,h2,h3,h4,h5⟩:=Gr he
 have hl:z.cps.toList.length=z.length:=by simp[Str.length]
 rw[hl] at h1 h4 h5
 have hn:=Qh
 exact tail_any (typeIs_str s z t) slot_str_getitem.lookup (getItem_str (c:=c) (by
  have e1:decide (i< -(2^63:Int))=false:=YG (by omega)
  have e2:decide (i>=2^63)=false:=YG (by omega)
  rw[e1,e2,Bool.or_false]) (by rw[h1];simpa using h2) ⟨.str ⟨#[c]⟩,H,I.tok _,⟨_,rfl⟩,q⟩) hs
def kh (K:W.Frag):R2:=λx y H Q=>qJ K x y H Q\/qH K x y H Q\/qI x y H Q
def sw:xN X (kh X.K):=vg.or (su.or sv)
def Dw (its:List Value)(n j:Nat)(u:Value):Obj.mapSeq (·.setIfInBounds j u) {cls:=.type "list",data:=.seq its.toArray n}={cls:=.type "list",data:=.seq (its.set j u).toArray n}:=by
 simp[Obj.mapSeq]
def Zp.lst {pins:List (Addr×Obj)}{σ:St}{H:Hp}{s:Shared}{p:Addr}{xs:List V}(I:Zp X pins σ H s)(h:H p=some (.lst xs)):
  ∃(its:List Value) (n:Nat),Zz xs its/\s.heap.get? p=some {cls:=.type "list",data:=.seq its.toArray n}/\xs.length<=sizeLine:=by
 obtain⟨z,its,n,r,e⟩:=I.hok p _ h
 exact⟨its,n,r,e,z⟩
def Zp.lstUpd {pins:List (Addr×Obj)}{σ:St}{H:Hp}{s:Shared}{p:Addr}{xs ys:List V}{its its':List Value}{n n':Nat}{f:Obj->Obj}(I:Zp X pins σ H s)(h:H p=some (.lst xs))
  (ho:s.heap.get? p=some {cls:=.type "list",data:=.seq its.toArray n}) (hf:f {cls:=.type "list",data:=.seq its.toArray n}={cls:=.type "list",data:=.seq its'.toArray n'}) (r:Zz ys its') (hz:ys.length<=sizeLine) (t:Nat):
  Zp X pins σ (Yq H p (.lst ys)) {s with heap:=s.heap.update p f,toks:=t}:=by
 have e:(s.heap.update p f).get? p=some {cls:=.type "list",data:=.seq its'.toArray n'}:=by
  rw[Heap.get?_update_self f ho (by rw[hf]<;>rfl),hf]
 refine I.write (x:=p) (e:=p) (by rw[h];trivial) (.inl rfl) (λb u hb q=>(Heap.get?_update_other _ _ (Ne.symm hb)).trans q) ⟨_,e⟩ ?_
 exact⟨hz,its',n',r,e⟩
def qF:V->V->V->Hp->(Hp->Prop)->Prop:=λo i v H Q=>∃p xs k j,o=.ref p/\i=.int k/\H p=some (.lst xs)/\jD xs.length k=some j/\Q (Yq H p (.lst (xs.set j v)))
def yR:rG X qF:=by
 intro pins s σ H o i v ov iv u Q I ro ri rv h
 obtain⟨p,xs,k,j,rfl,rfl,hp,hj,q⟩:=h
 cases ro
 obtain⟨t,rfl⟩:=ri
 obtain⟨its,n,r,ho,hz⟩:=I.lst hp
 obtain⟨h1,h2,h3,h4⟩:=Ae hj
 have hl:=r.length
 have hn:=Qh
 have I':Zp X pins σ (Yq H p (.lst (xs.set j v))) {s with heap:=s.heap.update p (Obj.mapSeq (·.setIfInBounds j u))}:=
  I.lstUpd hp ho (Dw its n j u) (r.set rv j) (by rw[List.length_set];exact hz) s.toks
 by_cases h0:0<=k
 ·have hk:k.toNat=j:=by
   rw[seqIndex_of h0 h4] at h1
   exact YH h1
  exact W.ki_setAt ho h0 (by omega) (by rw[XJ,<-hl];exact h4) (by rw[hk];exact⟨_,I',q⟩)
 ·have hk:(k+(its.toArray.size:Int)).toNat=j:=by
   rw[seqIndex_neg (by omega) h3] at h1
   rw[XJ,<-hl]
   exact YH h1
  exact W.ki_setBack ho (by omega) (by rw[XJ,<-hl];exact h3) (by omega) (by rw[hk];exact⟨_,I',q⟩)
def Io (lo hi:Option Int)(n:Nat):(sliceBounds lo hi none n).1=((HT.sIx n 0 lo:Nat):Int)/\(sliceBounds lo hi none n).2.1=((HT.sIx n n hi:Nat):Int)/\(sliceBounds lo hi none n).2.2=1:=by
 refine⟨?_,?_,rfl⟩
 ·cases lo with
  | none=>simp[sliceBounds,HT.sIx]
  | some i=>
   simp only[sliceBounds,HT.sIx,Option.getD_none,show(1:Int)>0 by decide,if_true]
   by_cases h:i<0
   ·simp only[h,if_true]<;>omega
   ·simp only[h,if_false]<;>omega
 ·cases hi with
  | none=>simp[sliceBounds,HT.sIx]
  | some i=>
   simp only[sliceBounds,HT.sIx,Option.getD_none,show(1:Int)>0 by decide,if_true]
   by_cases h:i<0
   ·simp only[h,if_true]<;>omega
   ·simp only[h,if_false]<;>omega
def Ll (its:List Value)(lo hi:Option Int):slicePick its.toArray lo hi none=((its.drop (HT.sIx its.length 0 lo)).take (HT.sIx its.length its.length hi-HT.sIx its.length 0 lo)).toArray:=by
 obtain⟨h1,h2,h3⟩:=Io lo hi its.toArray.size
 unfold slicePick
 rw[h1,h2,h3]
 simp only[sliceRange_one,pick_run,List.size_toArray]<;>rfl
def nN (K:W.Frag):V->Option Int->Option Int->Hp->VK->Prop:=λx lo hi H Q=>∃a xs,x=.ref a/\Xr K H a xs/\∀p,H p=none->Q (.ref p) (Yq H p (.lst (Ep xs lo hi)))
def wj:xL X (nN X.K):=by
 intro pins s σ H x v vl vu lo hi sl Q I rx hs pl pu h
 obtain⟨a,xs,rfl,hx,q⟩:=h
 cases rx
 obtain⟨its,r,ht,hz⟩:=I.list hx
 have hlen:=r.length
 refine⟨"list",_,slot_list_getitem.lookup,ht.isList.typeIs,?_⟩
 refine wpAny_getItem_list_slice ht.isList hs pl pu .none (by simp) ?_ (by rw[List.size_toArray]<;>omega)
 rw[Ll,<-hlen]
 refine⟨.ref s.heap.objs.size,_,I.laid (t':=s.toks) (o:=.lst (Ep xs lo hi)) (λb ob q=>XC _ q) (XE _) ?_,rfl,q _ (I.hok.fresh (XE _))⟩
 exact⟨XN (On xs lo hi) hz,_,0,(r.drop (HT.sIx xs.length 0 lo)).take (HT.sIx xs.length xs.length hi-HT.sIx xs.length 0 lo),XF _ rfl⟩
def Ei:V->Bool
 | .non=>true
 | .bl _=>true
 | .int _=>true
 | .str _=>true
 | _=>false
def sH:V->V->Bool
 | .non,.non=>true
 | .bl a,.bl b=>a==b
 | .bl a,.int b=>(if a then 1 else 0)==b
 | .int a,.bl b=>a==(if b then 1 else 0)
 | .int a,.int b=>a==b
 | .str a,.str b=>a==b
 | _,_=>false
def xa {A:Around}{s:Shared}{y x:V}{u v:Value}(ry:Z0 y u)(rx:Z0 x v)(fy:Ei y=true)(fx:Ei x=true):SeqAt.EqAt A s u v (sH y x):=by
 cases y with
 | non=>
  cases ry
  cases x with
  | non=>cases rx;exact SeqAt.EqAt.same _
  | bl b=>cases rx;exact SeqAt.EqAt.none_bool b
  | int b=>obtain⟨t,rfl⟩:=rx;exact SeqAt.EqAt.none_int b t
  | str b=>obtain⟨t,rfl⟩:=rx;exact SeqAt.EqAt.none_str b t
  | _=>exact absurd (show false=true from fx) YJ
 | bl a=>
  cases ry
  cases x with
  | non=>cases rx;exact SeqAt.EqAt.bool_none a
  | bl b=>cases rx;exact SeqAt.EqAt.bool_bool a b
  | int b=>obtain⟨t,rfl⟩:=rx;exact SeqAt.EqAt.bool_int a b t
  | str b=>obtain⟨t,rfl⟩:=rx;exact SeqAt.EqAt.bool_str a b t
  | _=>exact absurd (show false=true from fx) YJ
 | int a=>
  obtain⟨t',rfl⟩:=ry
  cases x with
  | non=>cases rx;exact SeqAt.EqAt.int_none a t'
  | bl b=>cases rx;exact SeqAt.EqAt.int_bool a t' b
  | int b=>obtain⟨t,rfl⟩:=rx;exact SeqAt.EqAt.int_int a t' b t
  | str b=>obtain⟨t,rfl⟩:=rx;exact SeqAt.EqAt.int_str a t' b t
  | _=>exact absurd (show false=true from fx) YJ
 | str a=>
  obtain⟨t',rfl⟩:=ry
  cases x with
  | non=>cases rx;exact SeqAt.EqAt.str_none a t'
  | bl b=>cases rx;exact SeqAt.EqAt.str_bool a t' b
  | int b=>obtain⟨t,rfl⟩:=rx;exact SeqAt.EqAt.str_int a t' b t
  | str b=>obtain⟨t,rfl⟩:=rx;exact SeqAt.EqAt.str_str a t' b t
  | _=>exact absurd (show false=true from fx) YJ
 | _=>exact absurd (show false=true from fy) YJ
def kX (x:V)(u:Value):Bool:=match u with
 | .none=>sH .non x
 | .bool b=>sH (.bl b) x
 | .int i _=>sH (.int i) x
 | .str z _=>sH (.str z) x
 | _=>false
def lA (x:V)(xs:List V):Bool:=xs.any λy=>sH y x
def kU (K:W.Frag)(neg:Bool):R2:=λx y H Q=>∃p xs,y=.ref p/\(Xr K H p xs\/V6 K H p xs)/\Ei x=true/\xs.all Ei=true/\Q (.bl (if neg then !lA x xs else lA x xs)) H
def Gn:Wj X (.builtin "len") (λxs H Q=>∃p ys,xs=[.ref p]/\(Xr X.K H p ys\/V6 X.K H p ys)/\Q (.int ys.length) H):=by
 intro pins s σ H xs us Q I r h
 obtain⟨p,ys,rfl,hq,q⟩:=h
 obtain⟨u,rfl,rx⟩:=Rm r
 cases rx
 have hn:=Qh
 rcases hq with hq | hq
 ·obtain⟨its,r',pl,hz⟩:=I.list hq
  have hlen:=r'.length
  exact Calls.call_len_list pl.isList (by simp only[List.size_toArray]<;>omega) ⟨.int ys.length,H,I.tok _,⟨s.toks+1,by rw[List.size_toArray,hlen]⟩,q⟩
 ·obtain⟨its,r',pl,hz⟩:=I.tuple hq
  have hlen:=r'.length
  exact len_tuple pl (by simp only[List.size_toArray]<;>omega) ⟨.int ys.length,H,I.tok _,⟨s.toks+1,by rw[List.size_toArray,hlen]⟩,q⟩
def Gm:Wj X (.builtin "len") (λxs H Q=>∃z,xs=[.str z]/\z.length<=sizeLine/\Q (.int z.length) H):=by
 intro pins s σ H xs us Q I r h
 obtain⟨z,rfl,hz,q⟩:=h
 obtain⟨u,rfl,t,rfl⟩:=Rm r
 have hn:=Qh
 exact len_str (by omega) ⟨.int z.length,H,I.tok _,⟨_,rfl⟩,q⟩
def Wj.or {f:Value}{r r':List V->Hp->VK->Prop}(h:Wj X f r)(h':Wj X f r'):Wj X f (λxs H Q=>r xs H Q\/r' xs H Q):=by
 intro pins s σ H xs us Q I rs q
 rcases q with q | q
 ·exact h pins s σ H xs us Q I rs q
 ·exact h' pins s σ H xs us Q I rs q
def Gk:Wj X (.type "list") (λxs H Q=>∃p ys,xs=[.ref p]/\(Xr X.K H p ys\/V6 X.K H p ys)/\∀l,H l=none->Q (.ref l) (Yq H l (.lst ys))):=by
 intro pins s σ H xs us Q I r h
 obtain⟨p,ys,rfl,hq,q⟩:=h
 obtain⟨u,rfl,rx⟩:=Rm r
 cases rx
 have fin:∀(its:List Value),Zz ys its->ys.length<=sizeLine->∀(h':Heap) (c':Nat),(∀b o',s.heap.get? b=some o'->h'.get? b=some o')->
   h'.get? s.heap.objs.size=some {cls:=.type "list",dict:=none,data:=.seq its.toArray c',slots:=#[]}->EP X pins σ Q (.ref s.heap.objs.size) {s with heap:=h'}:=λits r' hz h' c' kp e=>
  ⟨.ref s.heap.objs.size,_,I.laid (t':=s.toks) kp (XE _) (show Ja X.prog X.w _ h' _ (.lst ys) from⟨hz,its,c',r',e⟩),rfl,q _ (I.hok.fresh (XE _))⟩
 rcases hq with hq | hq
 ·obtain⟨its,r',pl,hz⟩:=I.list hq
  have hlen:=r'.length
  obtain⟨o,ho,hc,n,hd⟩:=pl.isList
  exact call_list_seq p (.inl rfl) ho hc hd (λh' c' kp e=>fin its r' hz h' c' kp e) (by simp only[List.size_toArray]<;>omega)
 ·obtain⟨its,r',pl,hz⟩:=I.tuple hq
  have hlen:=r'.length
  obtain⟨o,ho,hc,n,hd⟩:=pl
  exact call_list_seq p (.inr rfl) ho hc hd (λh' c' kp e=>fin its r' hz h' c' kp e) (by simp only[List.size_toArray]<;>omega)
def Lv:Wj X (.type "tuple") (λxs H Q=>∃p ys,xs=[.ref p]/\((Xr X.K H p ys/\∀l,H l=none->Q (.ref l) (Yq H l (.tup ys)))\/(V6 X.K H p ys/\Q (.ref p) H))):=by
 intro pins s σ H xs us Q I r h
 obtain⟨p,ys,rfl,h⟩:=h
 obtain⟨u,rfl,rx⟩:=Rm r
 cases rx
 rcases h with⟨hq,q⟩ | ⟨hq,q⟩
 ·obtain⟨its,r',pl,hz⟩:=I.list hq
  have hlen:=r'.length
  refine call_tuple_list pl.isList (λh' kp=>?_) (by simp only[List.size_toArray]<;>omega)
  have I1:Zp X pins σ H {s with heap:=h'}:=I.kept (t':=s.toks) kp
  have I2:Zp X pins σ (Yq H h'.objs.size (.tup ys)) {s with heap:=h'.push {cls:=.type "tuple",data:=.seq its.toArray}}:=
   I1.laid (t':=s.toks) (λb o e=>XC _ e) (XE _) (show Ja X.prog X.w _ _ _ (.tup ys) from⟨hz,its,r',IsTup.new _ _⟩)
  exact⟨.ref h'.objs.size,_,I2,rfl,q _ (I1.hok.fresh (XE _))⟩
 ·obtain⟨its,r',pl,hz⟩:=I.tuple hq
  exact call_tuple_same pl ⟨.ref p,H,I,rfl,q⟩
def rK (K:W.Frag)(T:String)(x:V)(H:Hp):Prop:=match x with
 | .str _=>T="str"
 | .int _=>T="int"
 | .ref p=>(T="list"/\∃xs,Xr K H p xs)\/(T="tuple"/\∃o,K.lookup p=some o/\o.cls=.type "tuple"/\o.dict=none)\/
   (T="dict"/\((∃kvs,H p=some (.dK kvs))\/∃kvs,H p=some (.dT kvs)))\/(T="set"/\∃S n,H p=some (.set S n))
 | _=>False
def yC {pins:List (Addr×Obj)}{σ:St}{H:Hp}{s:Shared}{T:String}{x:V}{v:Value}(I:Zp X pins σ H s)(r:Z0 x v)(ty:rK X.K T x H):
  s.TypeIs v T/\∀a,v=.ref a->∃ob,s.heap.get? a=some ob/\ob.dict=none:=by
 cases x with
 | str z=>
  obtain⟨t,rfl⟩:=r
  cases (show T="str" from ty)
  exact⟨typeIs_str s z t,λ_ e=>nomatch e⟩
 | int i=>
  obtain⟨t,rfl⟩:=r
  cases (show T="int" from ty)
  exact⟨typeIs_int s i t,λ_ e=>nomatch e⟩
 | ref p=>
  cases r
  rcases ty with⟨rfl,xs,hq⟩ | ⟨rfl,o,hk,hc,hd⟩ | ⟨rfl,hk⟩ | ⟨rfl,S,n,hk⟩
  ·obtain⟨its,_,pl,_⟩:=I.list hq
   refine⟨pl.isList.typeIs,λa e=>?_⟩
   cases e
   obtain⟨o,n,e,c,hd,_⟩:=pl
   exact⟨o,e,hd⟩
  ·refine⟨⟨o,I.kIn p o hk,hc⟩,λa e=>?_⟩
   cases e
   exact⟨o,I.kIn _ o hk,hd⟩
  ·have z:∃o,s.heap.get? p=some o/\o.ExactDict:=by
    rcases hk with⟨kvs,hk⟩ | ⟨kvs,hk⟩
    ·obtain⟨_,_,_,_,o,_,_,e,ex,_⟩:=I.hok p _ hk
     exact⟨o,e,ex⟩
    ·obtain⟨_,_,_,_,o,_,_,e,ex,_⟩:=I.hok p _ hk
     exact⟨o,e,ex⟩
   obtain⟨o,e,ex⟩:=z
   refine⟨⟨o,e,ex.1⟩,λa e2=>?_⟩
   cases e2
   exact⟨o,e,ex.2.1⟩
  ·obtain⟨o,_,_,_,e,ex,_⟩:=I.hok p _ hk
   refine⟨⟨o,e,ex.1⟩,λa e2=>?_⟩
   cases e2
   exact⟨o,e,ex.2.1⟩
 | _=>exact False.elim ty
def nC (K:W.Frag)(T:String)(r:V->List V->Hp->VK->Prop)(to:TE):TE:=λσ H Q=>to σ H λx H1=>rK K T x H1/\r x [] H1 Q
def lW (K:W.Frag)(T:String)(r:V->List V->Hp->VK->Prop)(to:TE)(t:TA):TE:=λσ H Q=>to σ H λx H1=>rK K T x H1/\t σ H1 λxs H2=>r x xs H2 Q
variable {o e:Expr}{es:List Expr}{to:TE}{t:TA}{name:Str}{apos cpos:Pos}{T id:String}{r:V->List V->Hp->VK->Prop}
def tD (pa:PlainAttrs T)(slot:Slot T name id)(hty:typeOf (.builtin id)=pure (.type "method_descriptor"))(hm:oM X id r)(ho:PE X o to)
  (hbase:attributeBase o name X.env (eval o X.env)=eval o X.env:=by rfl) (hline:(apos.endLine==cpos.line)=true:=by rfl):PE X (.Call (.Attribute o name apos) [] [] cpos) (nC X.K T r to):=by
 intro pins s σ H Q I h
 refine wpAny_Call_method0_late hbase hline (Jp (ho pins s σ H _ I h) λv s1 ⟨x,H1,I1,r1,ty,q1⟩=>?_)
 obtain⟨h1,h2⟩:=yC I1 r1 ty
 exact⟨T,id,pa,slot,hty,h1,h2,Calls.callWith_builtin rfl (PySem.evalArgs_none (hm pins s1 σ H1 x [] v [] Q I1 r1 .nil q1))⟩
def qT (pa:PlainAttrs T)(slot:Slot T name id)(hty:typeOf (.builtin id)=pure (.type "method_descriptor"))(hm:oM X id r)(ho:PE X o to)(ha:PA X (e::es) t)
  (hbase:attributeBase o name X.env (eval o X.env)=eval o X.env:=by rfl)
  (hfew:((backTo cpos (starEach (e::es) X.env)).all (λx=>!x.1)&&(backToKw cpos (keywordEach [] X.env)).all (λx=>x.1.isSome)
   &&decide ((e::es).length+([]:List Keyword).length+(if ([]:List Keyword).isEmpty then 0 else 1)<30))=true:=by rfl)
  (hline:(apos.endLine==cpos.line)=true:=by rfl) (hs:starEach (e::es) X.env=(false,eval e X.env)::starEach es X.env:=by rfl) (hplain:(backTo cpos (starEach es X.env)).any (·.1)=false:=by rfl):
  PE X (.Call (.Attribute o name apos) (e::es) [] cpos) (lW X.K T r to t):=by
 intro pins s σ H Q I h
 refine wpAny_Call_method_late hbase hfew hline rfl (Jp (ho pins s σ H _ I h) λv s1 ⟨x,H1,I1,r1,ty,q1⟩=>?_)
 obtain⟨h1,h2⟩:=yC I1 r1 ty
 refine⟨T,id,pa,slot,hty,h1,h2,?_⟩
 have hA:=ha cpos pins s1 σ H1 _ I1 q1
 rw[hs] at hA |-
 refine Calls.callWith_builtin (by show(false||(backTo cpos (starEach es X.env)).any (·.1))=false;rw[hplain]<;>rfl) (Calls.evalArgs_plain ?_)
 exact Jp hA λus s2 ⟨vs,H2,I2,r2,q2⟩=>hm pins s2 σ H2 x vs v us Q I2 r1 r2 q2
/-xs.append(e),list.index on a module's tuple .. are oM facts of 06m-/
end
def mL (X:Cx)(id:String)(r:V->List V->Hp->VK->Prop):Prop:=
 ∀(pins:List (Addr×Obj)) (s:Shared) (σ:St) (H:Hp) (x:V) (xs:List V) (v:Value) (us:List Value) (Q:VK),Zp X pins σ H s->Z0 x v->Zz xs us->r x xs H Q->
  wpAny (model X.prog X.w) X.A (call (.builtin id) (v::us)) (EP X pins σ Q) X.xe s
def Zz.one:∀{x:V} {us:List Value},Zz [x] us->∃u,us=[u]/\Z0 x u
 | _,_,.cons r .nil=>⟨_,rfl,r⟩
def Zz.two:∀{x y:V} {us:List Value},Zz [x,y] us->∃u v,us=[u,v]/\Z0 x u/\Z0 y v
 | _,_,_,.cons r (.cons q .nil)=>⟨_,_,rfl,r,q⟩
def Zz.zero:∀{us:List Value},Zz [] us->us=[]
 | _,.nil=>rfl
def Zz.dropLast {xs:List V}{us:List Value}(h:Zz xs us):Zz xs.dropLast us.dropLast:=by
 induction h with
 | nil=>exact .nil
 | cons r t ih=>
  cases t with
  | nil=>exact .nil
  | cons q t'=>exact .cons r ih
def Ck {α:Type}(l:List α):l.eraseIdx (l.length-1)=l.dropLast:=by
 induction l with
 | nil=>rfl
 | cons a r ih=>
  cases r with
  | nil=>rfl
  | cons b r=>
   have e:(a::b::r).length-1=((b::r).length-1)+1:=by
    have h1:(a::b::r).length=r.length+2:=rfl
    have h2:(b::r).length=r.length+1:=rfl
    omega
   rw[e,List.eraseIdx_cons_succ,ih]
   all_goals rfl
section
variable {X:Cx}{pins:List (Addr×Obj)}{σ:St}{H:Hp}{s:Shared}{l b:Addr}{xs ys zs:List V}
def Zp.lset {its its':List Value}{n:Nat}{f:Array Value->Array Value}{t':Nat}(I:Zp X pins σ H s)(hH:H l=some (.lst xs))
  (e:s.heap.get? l=some {cls:=.type "list",data:=.seq its.toArray n}) (hf:f its.toArray=its'.toArray) (hv:Zz ys its') (hz:ys.length<=sizeLine):
  Zp X pins σ (Yq H l (.lst ys)) {s with heap:=s.heap.update l (Obj.mapSeq f),toks:=t'}:=by
 have q:=PySem.IsL.update e f
 rw[hf] at q
 refine I.write (x:=l) (e:=l) (by rw[hH];exact trivial) (.inl rfl) (λb' u hb hu=>(Heap.get?_update_other s.heap (Obj.mapSeq f) (Ne.symm hb)).trans hu) ⟨_,q⟩ ?_
 exact⟨hz,its',_,hv,q⟩
def Zp.lnew {its:List Value}{t':Nat}(I:Zp X pins σ H s)(hv:Zz ys its)(hz:ys.length<=sizeLine):
  Zp X pins σ (Yq H s.heap.objs.size (.lst ys)) {s with heap:=s.heap.push {cls:=.type "list",data:=.seq its.toArray},toks:=t'}:=
 I.laid (λ_ _ q=>XC _ q) (XE _) ⟨hz,its,0,hv,XF _ rfl⟩
def Zp.fresh (I:Zp X pins σ H s):H s.heap.objs.size=none:=I.hok.fresh (XE _)
def Zp.lstM (I:Zp X pins σ H s)(hH:H l=some (.lst xs)):xs.length<=sizeLine/\∃(its:List Value) (n:Nat),Zz xs its/\xs.length=its.length/\s.heap.get? l=some {cls:=.type "list",data:=.seq its.toArray n}:=by
 obtain⟨z,its,n,r,e⟩:=I.hok l _ hH
 exact⟨z,its,n,r,r.length,e⟩
def j0 {n:Nat}(h:n<=sizeLine):Builtin.List.listTooLong n=false:=by
 unfold Builtin.List.listTooLong
 exact YG (by omega)
end
section
variable {X:Cx}
def w8:V->List V->Hp->VK->Prop:=λx vs H Q=>∃l xs y,x=.ref l/\vs=[y]/\H l=some (.lst xs)/\xs.length<sizeLine/\Q .non (Yq H l (.lst (xs++[y])))
def Kk:mL X "list.append" w8:=by
 intro pins s σ H x vs v us Q I rx rv h
 obtain⟨l,xs,y,rfl,rfl,hH,hz,q⟩:=h
 cases rx
 obtain⟨u,rfl,ru⟩:=rv.one
 obtain⟨z,its,n,r,hl,e⟩:=I.lstM hH
 refine call_meets F.slot_list_append ⟨_,e,rfl⟩ F.entry_list_append (F.args_list_append_2 _ _) (PySem.list_append l its.toArray n u (by rw[XJ];omega)) ⟨e,?_⟩
 refine⟨.non,_,I.lset (its':=its++[u]) hH e (by simp) (r.append (.cons ru .nil)) ?_,rfl,q⟩
 rw[List.length_append,List.length_singleton]
 omega
def w6:V->List V->Hp->VK->Prop:=λx vs H Q=>∃l b xs zs,x=.ref l/\vs=[.ref b]/\H l=some (.lst xs)/\H b=some (.lst zs)/\xs.length+zs.length<=sizeLine/\Q .non (Yq H l (.lst (xs++zs)))
def zz:mL X "list.extend" w6:=by
 intro pins s σ H x vs v us Q I rx rv h
 obtain⟨l,b,xs,zs,rfl,rfl,hH,hB,hz,q⟩:=h
 cases rx
 obtain⟨u,rfl,ru⟩:=rv.one
 cases ru
 obtain⟨z,its,n,r,hl,e⟩:=I.lstM hH
 obtain⟨z2,its2,n2,r2,hl2,e2⟩:=I.lstM hB
 have hsz:its.toArray.size+its2.toArray.size<=sizeLine:=by rw[XJ,XJ];omega
 have hlong:¬(!its.toArray.isEmpty&&Builtin.List.listTooLong (its.toArray.size+its2.toArray.size))=true:=by
  rw[j0 hsz,Bool.and_false]
  exact YJ
 refine call_meets F.slot_list_extend ⟨_,e,rfl⟩ F.entry_list_extend (F.args_list_extend_2 _ _)
  (AutoSeq1.list_extend_list_list_0 l its.toArray n b its2.toArray n2 hlong (by rw[XJ];omega) (by omega)) ⟨e,e2,?_⟩
 refine⟨.non,_,I.lset (its':=its++its2) hH e (by simp) (r.append r2) ?_,rfl,q⟩
 rw[List.length_append]
 omega
def nO:V->List V->Hp->VK->Prop:=λx vs H Q=>∃l xs y,x=.ref l/\vs=[]/\H l=some (.lst xs)/\xs[xs.length-1]?=some y/\Q y (Yq H l (.lst xs.dropLast))
def tQ:mL X "list.pop" nO:=by
 intro pins s σ H x vs v us Q I rx rv h
 obtain⟨l,xs,y,rfl,rfl,hH,hy,q⟩:=h
 cases rx
 have hus:=rv.zero
 subst hus
 obtain⟨z,its,n,r,hl,e⟩:=I.lstM hH
 obtain⟨u,hu,ru⟩:=r.get hy
 have hy':its.toArray[its.toArray.size-1]?=some u:=by
  show its.toArray[its.length-1]?=some u
  rw[<-Array.getElem?_toList,<-hl]
  exact hu
 refine call_meets F.slot_list_pop ⟨_,e,rfl⟩ F.entry_list_pop (F.args_list_pop_1 _) (MeetsSeq.list_pop_last l its.toArray n u hy' (by rw[XJ];omega)) ⟨e,?_⟩
 refine⟨y,_,I.lset (its':=its.dropLast) hH e ?_ r.dropLast ?_,ru,q⟩
 ·show its.toArray.eraseIdxIfInBounds (its.toArray.size-1)=its.dropLast.toArray
  rw[XJ,List.eraseIdxIfInBounds_toArray,Ck]
 ·rw[List.length_dropLast]
  omega
def nQ:R2:=λx y H Q=>∃l b xs zs,x=.ref l/\y=.ref b/\H l=some (.lst xs)/\H b=some (.lst zs)/\xs.length+zs.length<=sizeLine/\∀p,H p=none->Q (.ref p) (Yq H p (.lst (xs++zs)))
def tL:O6 X (binaryOp .Add) nQ:=by
 intro pins s σ H x y v u Q I rx ry h
 obtain⟨l,b,xs,zs,rfl,rfl,hH,hB,hz,q⟩:=h
 cases rx
 cases ry
 obtain⟨z,its,n,r,hl,e⟩:=I.lstM hH
 obtain⟨z2,its2,n2,r2,hl2,e2⟩:=I.lstM hB
 refine PySem.P.add_list e e2 ?_ (by rw[XJ,XJ];omega)
 have ea:its.toArray++its2.toArray=(its++its2).toArray:=by simp
 rw[ea]
 exact⟨.ref _,_,I.lnew (t':=s.toks) (r.append r2) (by rw[List.length_append];omega),rfl,q _ I.fresh⟩
def kg:R2:=λx y H Q=>∃l k xs,x=.ref l/\y=.int k/\H l=some (.lst xs)/\ -(2^63)<=k/\k<2^63/\xs.length*k.toNat<=sizeLine/\
 ∀p,H p=none->Q (.ref p) (Yq H p (.lst (List.replicate k.toNat xs).flatten))
end
section
variable {prog:Program}{w:World}{A:Around}{E:Value->Shared->Prop}{s:Shared}
end
section
variable {X:Cx}
end
end L2
namespace Att
open PySem PySem.W PySem.Calls PyProof.Rows
def Ou {P:Params}{h:Heap}:∀(ns:List Int) (vs:List Value),WellAll P h vs (ns.map WData.int)->IntsAre vs ns:=by
 intro ns
 induction ns with
 | nil=>
  intro vs w
  rw[List.map_nil] at w
  cases w
  exact .nil
 | cons n ns ih=>
  intro vs w
  rw[YI] at w
  cases w with
  | cons a b=>
   cases a
   exact .cons _ _ (ih _ b)
def zo {l:OpenLaw}{n:Nat}(hn:l.most=some n){P:Params}{h:Heap}{args:List WData}{vals:List Value}
  (hpre:l.row.toRowW.claim.pre args=true) (hwl:WellAll P h vals args):
  ∃a vs ns,vals=[Value.ref a]/\args=[WData.list (ns.map WData.int)]/\h.get? a=some {cls:=.type "list",data:=.seq vs.toArray}/\IntsAre vs ns/\ns.length<=n:=by
 have hsh:WShape.hasAll [] args [.list .int]=true:=(pre_splitW hpre).1
 have hc:l.pre.holds [] {args:=args}=true:=(pre_splitW hpre).2
 obtain⟨d,r,rfl,h1,h2⟩:=hasAllW_cons hsh
 obtain rfl:=hasAllW_nil h2
 obtain⟨xs,rfl,h3⟩:=hasW_list h1
 obtain⟨ns,rfl⟩:=items_int h3
 have hlen:ns.length<=n:=by
  unfold OpenLaw.pre at hc
  have h4:(WTm.not (.lt (.lit (.int (n:Int))) (.len (.arg 0)))).holds [] {args:=[.list (ns.map .int)]}=true:=by
   have h4:=(holds_andW hc).1
   rw[hn] at h4
   exact h4
  have h5:=condW_of h4 (w_not (w_lt w_lit (w_len_list (w_arg rfl))))
  rw[XI] at h5
  refine Nat.le_of_not_lt λq=>?_
  have q':(n:Int)<((ns.length:Nat):Int):=by omega
  first
   | (rw[decide_eq_true q'] at h5;exact absurd h5 (by decide))
   | (simp at h5;omega)
 cases hwl with
 | cons w1 w2=>
  cases w2
  cases w1 with
  | list ho hall=>exact⟨_,_,ns,rfl,rfl,ho,Ou ns _ hall,hlen⟩
def zt (l:OpenLaw)(args:List WData):l.row.toRowW.claim.post args (.bool true) args=true:=
 postW_of (r:=l.row.toRowW) (X:=(true==true))
  (show WShape.has [] (.bool true) .bool=true by first | rfl | decide | simp[WShape.has,WShape.arms,WShape.armsAll])
  (show(WTm.eq .res (.lit (.bool true))).value [] {args:=args,res:=some (.bool true),after:=args}=some (.bool (true==true)) from w_eq_bool (w_res rfl) w_lit) rfl
def attach_call {l:OpenLaw}{n:Nat}{q:Program}{loose:List Str}{XP:(Str->Option Value)->Heap->Prop}{YP:World->Heap->Prop}{d:DefRec}
  (hn:l.most=some n) (hdf:d.params.defaults=[])
  (call:∀(w:World) (s₀ s₁:Shared) (mg mb:Str->Option Value) (fa:Addr) (o:Obj) (pm cd doc:Value) (a:Addr) (vs:List Value) (ns:List Int),
   Ground q loose [] XP w s₀ mg mb s₁.heap->YP w s₁.heap->
   s₁.heap.get? fa=some o->o.data=.func (docDef d.name d.params d.body d.scope pm cd doc)->s₁.heap.CodeRec cd d.name->mg d.name=some (.ref fa)->
   s₁.heap.get? a=some {cls:=.type "list",data:=.seq vs.toArray}->IntsAre vs ns->ns.length<=n->s₁.gens=#[]->
   codeAny (model l.prog w) callerA (.call (.ref fa) ⟨[.ref a],[]⟩) (λr s'=>r=.ok (.ret (.bool true))/\OldK s₁.heap s'.heap/\s'.os=s₁.os/\AllBare s'.gens) s₁):
  WalkO q loose XP YP l.row.toRowW d [] (λf vs=>PySem.call f vs):=by
 intro w s₀ s₁ mg mb G Y fa o pm cd doc dV kV ho hd hcd hD hmg hg args vals as hpre hlay hrd hwl hlo
 obtain rfl:dV=.none:=Dflts.none hD hdf
 obtain rfl:kV=.none:=Dflts.noKw hD
 obtain⟨a,vs,ns,rfl,rfl,hobj,hints,hlen⟩:=zo hn hpre hwl
 refine enter_call (codeAny_mono (call w s₀ s₁ mg mb fa o pm cd doc a vs ns G Y ho (fd_plain hd) hcd hmg hobj hints hlen hg) λr s' hq=>?_)
 obtain⟨rfl,h2,h3,h4⟩:=hq
 exact⟨.inl ⟨.bool true,.bool true,[],rfl,λ_=>rfl,.bool true,zt l _,λ_=>⟨List.Pairwise.nil,λ_ hm=>(nomatch hm)⟩⟩,h2,h3,h4⟩
section
variable {prog:Program}{w:World}{A:Around}{E:Value->Shared->Prop}{s:Shared}{K:Frag}
def md (h:Heap)(L d:Addr):List (Addr×Obj):=(List.range h.objs.size).filterMap λa=>if a=L\/a=d then none else(h.get? a).map λo=>(a,o)
end
end Att
namespace L2
open PySem PySem.Spec PyProof.Rows
def Ka:∀{vs:List Value} {ns:List Int},IntsAre vs ns->Zz (ns.map V.int) vs
 | _,_,.nil=>.nil
 | _,_,.cons n t h=>.cons ⟨t,rfl⟩ (Ka h)
def xF (H:Hp):Prop:=∀b,H b=none\/∃o xs,H b=some (.frz o (.lst xs))
def jA {P:Program}{w:World}{K:W.Frag}{mg mb:Str->Option Value}{CX:yx}{k:Nat}{fa a:Addr}{fd:FuncData}{x:Str}{sp:Sp}{s₁:Shared}{vs:List Value}{ns:List Int}
  (KX:K.In s₁.heap) (hns:s₁.heap.Ns mainGlobals mg) (hb:s₁.heap.Ns builtinsNs mb) (hbb:∀x:Str,x≠"__name__"->mb x=bootBuiltins x) (hlim:s₁.heap.NoLimit) (hg:s₁.gens=#[])
  (ha:s₁.heap.get? a=some {cls:=.type "list",data:=.seq vs.toArray}) (hi:IntsAre vs ns) (hl:ns.length<=sizeLine) (hr:Xt k callerA)
  (F:∀base:Heap,K.In base->base.Ns mainGlobals mg->Vv P w K mg base CX k fa fd [x] sp) (hbind:∀(s:Shared) (u:Value),BindsTo s fd ⟨[u],[]⟩ [(x,u)])
  (hsp:∀H:Hp,xF H->Xr K H a (ns.map V.int)->sp [.ref a] H (λv _=>v=.bl true) λ_ _ _=>False)
  (hCX:∀H e s',CX [] H s₁ (λ_ _ _=>False) e s'->False):
  codeAny (model P w) callerA (.call (.ref fa) ⟨[.ref a],[]⟩) (λr s'=>r=.ok (.ret (.bool true))/\OldK s₁.heap s'.heap/\s'.os=s₁.os/\AllBare s'.gens) s₁:=by
 have rv:=Ka hi
 have lenV:=hi.length
 have core:∀H:Hp,xF H->Xr K H a (ns.map V.int)->Qp P w H s₁.heap->(∀b,H b≠none->b=a)->(H a≠none->K.lookup a=none)->
   codeAny (model P w) callerA (.call (.ref fa) ⟨[.ref a],[]⟩) (λr s'=>r=.ok (.ret (.bool true))/\OldK s₁.heap s'.heap/\s'.os=s₁.os/\AllBare s'.gens) s₁:=by
  intro H hO hS hok hA hK
  have base_of:∀{b:Addr} {o:Obj},s₁.heap.get? b=some o->H b=none->(Hs s₁.heap H).get? b=some o:=λe n=>jM e n
  have noA:∀{b:Addr} {o:Obj} {es:Array DictEntry} {ep:Nat},s₁.heap.get? b=some o->o.data=.dict es ep->H b=none:=λ{b o es ep} e d=>by
   cases q:H b with
   | none=>rfl
   | some u=>
    have e':b=a:=hA b (by rw[q];simp)
    subst e'
    rw[ha] at e;cases e
    have d':Data.seq vs.toArray _=Data.dict es ep:=d
    cases d'
  have nsK:∀{b:Addr} {m:Str->Option Value},s₁.heap.Ns b m->(Hs s₁.heap H).Ns b m:=λ{b m} ⟨o,es,ep,e,d,r⟩=>⟨o,es,ep,base_of e (noA e d),d,r⟩
  have hKb:K.In (Hs s₁.heap H):=λb o e=>base_of (KX b o e) (by
   cases q:H b with
   | none=>rfl
   | some u=>
    have e':b=a:=hA b (by rw[q];simp)
    subst e'
    rw[hK (by rw[q];simp)] at e;cases e)
  have hM:Mod K mg (Hs s₁.heap H):=⟨hKb,nsK hns,⟨mb,nsK hb,hbb⟩,let ⟨mc,h1,h2⟩:=hlim;⟨mc,nsK h1,h2⟩⟩
  have e0:Bg P w K mg (Hs s₁.heap H) callerA [] s₁ H:=⟨rfl,hM,λb o e=>wU e,Nat.le_of_eq (zM _ _),trivial,λb hb=>absurd (show b∈([]:List Addr) from hb) (by simp),hok,.of_eq hg⟩
  refine codeAny_mono ((F _ hKb (nsK hns)).run callerA [] s₁ H ⟨[.ref a],[]⟩ [.ref a] [.ref a] _ _ hr e0 (hbind s₁ (.ref a)) (.cons rfl .nil) (hsp H hO hS)) λr s' h=>?_
  cases r with
  | error e=>exact(hCX H e s' h).elim
  | ok fl=>
   cases fl with
   | next=>exact False.elim h
   | brk=>exact False.elim h
   | cont=>exact False.elim h
   | ret u=>
    obtain⟨v,H',os,bare,un,hok',r',q⟩:=h
    have q':v=.bl true:=q
    subst q'
    obtain rfl:u=Value.bool true:=r'
    refine⟨rfl,OldK.of_keep λb o e=>?_,os,bare⟩
    cases q:H b with
    | none=>exact un.keep b o e q (by intro z;exact absurd (show b∈([]:List Addr) from z) (by simp)) (by simp)
    | some u=>
     rcases hO b with z | ⟨ob,xs,z⟩
     ·rw[q] at z;cases z
     ·have z2:=un.frzs b ob _ z
      obtain⟨e1,_⟩:=hok b _ z
      obtain⟨e2,_⟩:=hok' b _ z2
      rw[e] at e1;cases e1
      exact e2
 cases hk:K.lookup a with
 | some o=>
  have e:=KX a o hk
  rw[ha] at e
  cases e
  refine core (λ_=>none) (λ_=>.inl rfl) (.inr ⟨_,vs.toArray,_,hk,rfl,rfl,rfl,by rw[List.size_toArray,lenV];exact hl,by simpa using rv⟩) (λb u z=>by have z':(none:Option HO)=some u:=z;cases z') (λb z=>absurd rfl z) λz=>absurd rfl z
 | none=>
  refine core (λb=>if b=a then some (.frz {cls:=.type "list",data:=.seq vs.toArray} (.lst (ns.map V.int))) else none) (λb=>?_) (.inl (.inr ⟨{cls:=.type "list",data:=.seq vs.toArray},XY rfl⟩)) (λb u z=>?_) (λb z=>?_) λ_=>hk
  ·by_cases hb:b=a
   ·exact .inr ⟨_,_,XY hb⟩
   ·exact .inl (XX hb)
  ·by_cases hb:b=a
   ·have z':=(XY hb).symm.trans z
    cases z'
    subst hb
    exact⟨ha,by rw[XI];exact hl,vs,_,rv,ha⟩
   ·have z':=(XX hb).symm.trans z
    cases z'
  ·by_cases hb:b=a
   ·exact hb
   ·exact absurd (XX hb) z
abbrev KOf {K:W.Frag}{h:Heap}(_:K.In h):W.Frag:=K
def walk_of {l:W.OpenLaw}{n k:Nat}{q:Program}{loose:List Str}{XP:(Str->Option Value)->Heap->Prop}{YP:World->Heap->Prop}{d:DefRec}{K:Params->W.Frag}{CX:World->yx}{sp:World->Sp}{x:Str}
  (hn:l.most=some n) (hn2:n<=sizeLine) (hdf:d.params.defaults=[]) (hr:Xt k callerA)
  (hY:∀(w:World) (h:Heap),YP w h->(K w.params).In h)
  (F:∀(w:World) (mg:Str->Option Value) (fa:Addr) (h:Heap),(K w.params).In h->h.Ns mainGlobals mg->mg d.name=some (.ref fa)->
   ∃fd:FuncData,(∀(s:Shared) (u:Value),BindsTo s fd ⟨[u],[]⟩ [(x,u)])/\
    ∀base:Heap,(K w.params).In base->base.Ns mainGlobals mg->Vv l.prog w (K w.params) mg base (CX w) k fa fd [x] (sp w))
  (hsp:∀(w:World) (H:Hp) (a:Addr) (ns:List Int),ns.length<=n->xF H->Xr (K w.params) H a (ns.map V.int)->sp w [.ref a] H (λv _=>v=.bl true) λ_ _ _=>False)
  (hCX:∀(w:World) (H:Hp) (s:Shared) (e:Value) (s':Shared),CX w [] H s (λ_ _ _=>False) e s'->False):
  W.WalkO q loose XP YP l.row.toRowW d [] (λf vs=>PySem.call f vs):=by
 refine Att.attach_call hn hdf λw s₀ s₁ mg mb fa o pm cd doc a vs ns G Y ho hd hcd hmg hobj hints hlen hg=>?_
 have KX:=hY w _ Y
 obtain⟨fd,hb,hF⟩:=F w mg fa _ KX G.T.g hmg
 exact jA KX G.T.g G.T.b G.T.builtins G.T.nolimit hg hobj hints (XN hlen hn2) hr hF hb (λH hO hS=>hsp w H a ns hlen hO hS) λH e s'=>hCX w H s₁ e s'
def walk_ofK {l:W.OpenLaw}{n k:Nat}{q:Program}{loose:List Str}{XP:(Str->Option Value)->Heap->Prop}{YP:World->Heap->Prop}{d:DefRec}{K:Params->W.Frag}{CX:yx}{sp:W.Frag->Sp}{x:Str}
  (hn:l.most=some n) (hn2:n<=sizeLine) (hdf:d.params.defaults=[]) (hr:Xt k callerA)
  (hY:∀(w:World) (h:Heap),YP w h->(K w.params).In h)
  (F:∀(w:World) (mg:Str->Option Value) (fa:Addr) (h:Heap),(K w.params).In h->h.Ns mainGlobals mg->mg d.name=some (.ref fa)->
   ∃fd:FuncData,(∀(s:Shared) (u:Value),BindsTo s fd ⟨[u],[]⟩ [(x,u)])/\
    ∀base:Heap,(K w.params).In base->base.Ns mainGlobals mg->Vv l.prog w (K w.params) mg base CX k fa fd [x] (sp (K w.params)))
  (hsp:∀(K:W.Frag) (H:Hp) (a:Addr) (ns:List Int),ns.length<=n->xF H->Xr K H a (ns.map V.int)->sp K [.ref a] H (λv _=>v=.bl true) λ_ _ _=>False)
  (hCX:∀(H:Hp) (s:Shared) (e:Value) (s':Shared),CX [] H s (λ_ _ _=>False) e s'->False):
  W.WalkO q loose XP YP l.row.toRowW d [] (λf vs=>PySem.call f vs):=
 walk_of (K:=K) (CX:=λ_=>CX) (sp:=λw=>sp (K w.params)) hn hn2 hdf hr hY F (λw H a ns h1 h2 h3=>hsp (K w.params) H a ns h1 h2 h3) λ_ H s e s'=>hCX H s e s'
end L2
/-THE LAST THEOREM (shape;LID,My.*are yours):
  My.Adr:a structure of the addresses that your layer names (classes,functions);My.Txt K t:a structure (Prop) of the equations over K;
  My.txt_mk:{K} {implicit addresses ..} (e1:nsIn K mainGlobals "law"=some (some (.ref f))) (e2:K.lookup f=some ⟨oc,od,.func (fnOf "law" "law" params body scope dV kV doc pm an cdv ct),sl⟩) (e3:codeIn K cdv "law"=true) ..:∃t,My.Txt K t
set_option maxRecDepth 100000 in
set_option maxHeartbeats 0 in
def PySem.Challenge.cw_LID_holds:PySem.Challenge.rw_LID.Holds:=by
 w_on;o_law;k_head;(case hw=>w_witness2)
 k_fill
 refine L2.walk_of (l:=PySem.Challenge.rw_LID) (n:=63) (k:=40) (x:="script") (CX:=λw=>..) (sp:=λ_=>My.sp_law) rfl (by decide) rfl ⟨rfl,by decide,by decide⟩ (λw h Y=>W.kIn_of Y) ?F ?S ?C
 case F=>
  intro w mg fa h KX G hmg
  have T:∃t,My.Txt (L2.KOf KX) t:=by
   dsimp only[L2.KOf]--K must stand as «<heap const>w.params» for k_is
   refine' My.txt_mk ?e1 ?e2 ?e3 ..
   (case e1=>W.k_is)--in the order:a name->its address->its object->its parts
   (case e2=>W.k_is)
   ..
  obtain⟨t,T⟩:=T
  have e0:=hmg.symm.trans (W.mg_of KX G T.law)
  cases e0--fa is the law's own address
  exact⟨_,λs u=>.of_eq rfl,λbase kb nb=>My.law_fn T kb nb⟩--if «.of_eq rfl» comes too early:refine' ⟨_,?b,λbase kb nb=>My.law_fn T kb nb⟩;exact λs u=>.of_eq rfl
 case S=>exact λw H a ns hl hO hS=>..
 case C=>exact ..
(the tactic k_is has no namespace:write k_is)-/
namespace L2
open PySem PySem.Spec PyProof.Rows
def Tg (s:Stmt)(j:Nat):Stmt:=match s with
 | .ClassDef _ _ _ body _ _ _ _ _ _ _=>body.getD j (.Pass ⟨0,0,0,0⟩)
 | _=>.Pass ⟨0,0,0,0⟩
def Tk (s:Stmt):Arguments:=match s with
 | .FunctionDef _ a _ _ _ _ _ _ _ _=>a
 | _=>{posonlyargs:=[],args:=[],vararg:=none,kwonlyargs:=[],kw_defaults:=[],kwarg:=none,defaults:=[]}
def X9 (s:Stmt):List Stmt:=match s with
 | .FunctionDef _ _ b _ _ _ _ _ _ _=>b
 | _=>[]
def Zn (s:Stmt):Scope:=match s with
 | .FunctionDef _ _ _ _ _ _ sc _ _ _=>sc
 | _=>{kind:=.function,names:=[],isGenerator:=false,isCoroutine:=false}
abbrev CX0:yx:=λ_ _ _ _ _ _=>False
abbrev E0:XK:=λ_ _ _=>False
def Bz {X:Cx}:M5 CX0 X E0:=λ_ _ _ _ _ _ _ h=>h.elim
structure Bf (K:W.Frag)(x qual:Str)(st:Stmt)(f:Addr)(fd:FuncData):Prop where
 ex:∃(oc:Value) (od:Option Addr) (kV doc pm:Value) (an:Option Addr) (cdv ct:Value) (osl:Array (Option Value)),
  fd=W.fnOf x qual (Tk st) (X9 st) (Zn st) .none kV doc pm an cdv ct/\K.lookup f=some ⟨oc,od,.func fd,osl⟩/\W.codeIn K cdv qual=true
 kp:W.keepIn K (.ref f)=true
section
variable {P:Program}{w:World}{K:W.Frag}{mg:Str->Option Value}{base:Heap}
def Bf.ok {x qual:Str}{st:Stmt}{f:Addr}{fd:FuncData}{N ps:List Str}{k:Nat}{sp:Sp}(F:Bf K x qual st f fd)(S:Zx N ps (Zn st))(len:∀vs H Q E,sp vs H Q E->vs.length=ps.length)
  (hbody:∀(cdv:Value) (A:Around) (outer:List Env) (s:Shared) (H:Hp) (vs:List V) (Q:VK) (E:XK),Xt k (A.deeper (envOfC qual (Zn st) s.heap.objs.size f cdv))->sp vs H Q E->
   ∃t,A3 (Eo CX0 P w K mg base N qual (Zn st) f cdv A outer s H E).nox (X9 st) t/\t {nx:=λ_ H'=>Q .non H',rt:=Q} (start N vs) H):Vv P w K mg base CX0 (k+1) f fd ps sp:=by
 obtain⟨oc,od,kV,doc,pm,an,cdv,ct,osl,rfl,lk,hcd⟩:=F.ex
 refine pF lk hcd S len λA outer s H vs Q E hr hsp=>?_
 obtain⟨t,h,q⟩:=hbody cdv A outer s H vs Q E hr hsp
 exact⟨t,h.nox,q⟩
def Bf.binds {x qual:Str}{st:Stmt}{f:Addr}{fd:FuncData}{ps:List Str}(F:Bf K x qual st f fd)
  (h:∀(kV doc pm:Value) (an:Option Addr) (cdv ct:Value) (us:List Value),us.length=ps.length->bindArgs (W.fnOf x qual (Tk st) (X9 st) (Zn st) .none kV doc pm an cdv ct) ⟨us,[]⟩=pure (ps.zip us)):Xv K fd ps []:=by
 obtain⟨oc,od,kV,doc,pm,an,cdv,ct,osl,rfl,lk,hcd⟩:=F.ex
 exact .all (h kV doc pm an cdv ct)
def sD {x qual:Str}{st:Stmt}{f:Addr}{oc:Value}{od an:Option Addr}{osl:Array (Option Value)}{kV doc pm cdv ct:Value}(l:K.lookup f=some ⟨oc,od,.func (W.fnOf x qual (Tk st) (X9 st) (Zn st) .none kV doc pm an cdv ct),osl⟩)
  (c:W.codeIn K cdv qual=true) (k:W.keepIn K (.ref f)=true):Bf K x qual st f (W.fnOf x qual (Tk st) (X9 st) (Zn st) .none kV doc pm an cdv ct):=⟨⟨oc,od,kV,doc,pm,an,cdv,ct,osl,rfl,l,c⟩,k⟩
end
def zk {n:Nat}(h:n<=1000):n<sizeLine:=Nat.lt_of_le_of_lt h (by decide)
section
variable {X:Cx}
end
def kH (H H':Hp):Prop:=∀b o,H b=some o->H' b=some o
section
variable {X:Cx}
def Ql (cap:List (Option Nat))(σ:St):St:=cap.map λo=>o.bind λi=>(σ[i]?).join
def Yi (X:Cx)(cN:List Str)(scope:Scope)(cl:List (Str×Addr))(fp:List Addr)(s:Shared)(H:Hp):Cx:=
 {X with N:=cN,s₀:=s,H₀:=H,env:=compEnvC scope cl s.heap.objs.size X.env,outer:=X.stack,ex:=fp,fn:=λ_=>false,pn:=[],xe:=λ_ _=>False}
def xE (X:Cx)(ifs:List Expr)(c:TT):Prop:=
 ∀(pins:List (Addr×Obj)) (s:Shared) (σ:St) (H:Hp) (Q:Bool->Hp->Prop),Zp X pins σ H s->c σ H Q->
  wpAny (model X.prog X.w) X.A (forIn ifs true λc r=>if r=true then do let ok <-isTrue c X.env (eval c X.env);pure (ForInStep.yield ok) else pure (ForInStep.yield r)) (TP X pins σ Q) X.xe s
def qg:TT:=λ_ H Q=>Q true H
def wK:xE X [] qg:=λ_ _ _ H _ I h=>wpAny_tests_nil ⟨H,I,h⟩
def K8 (js:List Nat)(g:TG):Prop:=∀x σ H Q,g x σ H Q->g x σ H λσ' H'=>Q σ' H'/\σ'.length=σ.length/\∀i,i∉js->σ'[i]?=σ[i]?
def Gu (js:List Nat)(g:E8):Prop:=∀x σ H Q,g x σ H Q->g x σ H λσ' H'=>Q σ' H'/\σ'.length=σ.length/\∀i,i∉js->σ'[i]?=σ[i]?
def Y6 {i:Nat}:K8 [i] (Jx i):=λx σ H Q h=>⟨h,by simp,λj hj=>by
 rw[List.getElem?_set_ne]
 intro e;exact hj (by simp[e])⟩
def Cb:Gu [] Cg:=λx σ H Q h=>⟨h.1,h.2,rfl,λ_ _=>rfl⟩
def Qn (g:TG):Prop:=∀x σ H (Q Q':St->Hp->Prop),(∀σ' H',Q σ' H'->Q' σ' H')->g x σ H Q->g x σ H Q'
def Pi (g:E8):Prop:=∀x σ H (Q Q':St->Hp->Prop),(∀σ' H',Q σ' H'->Q' σ' H')->g x σ H Q->g x σ H Q'
def Z5 {i:Nat}:Qn (Jx i):=λx σ H Q Q' h q=>h _ _ q
def Uk:Pi Cg:=λx σ H Q Q' h q=>⟨q.1,h _ _ q.2⟩
def Xc {g:TG}{u:E8}(a:Qn g)(b:Pi u):Pi (Ss g u):=λx σ H Q Q' h q=>by
 obtain⟨v,r,e,q⟩:=q
 exact⟨v,r,e,a _ _ _ _ _ (λσ' H' z=>b _ _ _ _ _ h z) q⟩
def Th {g:TG}{u:E8}{js ks:List Nat}(a:K8 js g)(am:Qn g)(b:Gu ks u)(bm:Pi u):Gu (js++ks) (Ss g u):=λx σ H Q q=>by
 obtain⟨v,r,e,q⟩:=q
 refine⟨v,r,e,am _ _ _ _ _ (λσ' H' z=>?_) (a _ _ _ _ q)⟩
 obtain⟨z,l1,k1⟩:=z
 refine bm _ _ _ _ _ (λσ2 H2 z2=>?_) (b _ _ _ _ z)
 obtain⟨z2,l2,k2⟩:=z2
 exact⟨z2,l2.trans l1,λi hi=>(k2 i λz=>hi (XT _ z)).trans (k1 i λz=>hi (List.mem_append_left _ z))⟩
def D9 {K:W.Frag}{n:Nat}{u:E8}{js:List Nat}(b:Gu js u):K8 js (Cf K n u):=λx σ H Q q=>by
 obtain⟨a,xs,e,hq,hl,q⟩:=q
 exact⟨a,xs,e,hq,hl,b _ _ _ _ q⟩
def lS (cap:List (Option Nat))(g:TG)(c:TT)(te:TE)(σ:St)(Q:Addr->Hp->Prop)(J:It)(H1:Hp):Prop:=∀p,H1 p=none->∃W:Nat->Nat->Hp->Prop,(∃m,W 0 m (Yq H1 p (.lst [])))/\∀i m H,W i m H->
 (J.stop i H/\Q p H)\/(J.go i H/\∃N:Hp->Prop,(∀H',N H'->∃m',m'<m/\W (i+1) m' H')/\∀x H',J.yld i H x H'->g x (Ql cap σ) H' λσ2 H2=>c σ2 H2 λb H3=>
  if b=true then te σ2 H3 λv H4=>∃xs,H4 p=some (.lst xs)/\xs.length<sizeLine/\N (Yq H4 p (.lst (xs++[v]))) else N H3)
def Il (cap:List (Option Nat))(wi:TI)(g:TG)(c:TT)(te:TE):St->Hp->(Addr->Hp->Prop)->Prop:=λσ H Q=>wi σ H λJ H1=>lS cap g c te σ Q J H1
structure La (X:Cx)(cN:List Str)(cap:List (Option Nat))(scope:Scope)(cl:List (Str×Addr)):Prop where
 clos:closureFor scope X.env=pure cl
 sub:∀n a,cl.lookup n=some a->X.env.cells.lookup n=some a
 cell:∀y∈scope.names,y.2≠.cell
 kind:scope.kind=.function
 names:∀x∈scope.names,x.2=.local->scope.names.lookup x.1=some .local
 len:cap.length=cN.length
 has:∀x,((relabel scope X.env).names.lookup x=some .cell\/(relabel scope X.env).names.lookup x=some .free)->∃a,cl.lookup x=some a
 capd:∀(i j:Nat) (x:Str),cap[i]?=some (some j)->cN[i]?=some x->X.N[j]?=some x/\oH X.env.scope x/\X.env.scope.names.lookup x≠some .local/\((relabel scope X.env).names.lookup x=some .cell\/(relabel scope X.env).names.lookup x=some .free)
def xt {cap:List (Option Nat)}{σ:St}:(Ql cap σ).length=cap.length:=XI _
def Et {cap:List (Option Nat)}{σ:St}{i:Nat}{v:V}(h:(Ql cap σ)[i]?=some (some v)):∃j,cap[i]?=some (some j)/\σ[j]?=some (some v):=by
 unfold Ql at h
 rw[XM] at h
 cases e:cap[i]? with
 | none=>rw[e] at h;cases h
 | some o=>
  rw[e] at h
  cases o with
  | none=>cases h
  | some j=>
   refine⟨j,rfl,?_⟩
   simp only[Option.map_some,Option.bind_some,Option.some.injEq] at h
   cases q:σ[j]? with
   | none=>rw[q] at h;cases h
   | some u=>rw[q] at h;simp only[Option.join_some] at h;rw[h]
def Ct {cN:List Str}{cap:List (Option Nat)}{scope:Scope}{cl:List (Str×Addr)}{fp:List Addr}{pins:List (Addr×Obj)}{σ:St}{H:Hp}{s:Shared}{h':Heap}{m:Str->Option Value}{tk:Nat}
  (C:La X cN cap scope cl) (I:Zp X pins σ H s) (f:∀b∈fp,Pj X pins H b) (fl:∀b∈fp,b<s.heap.objs.size) (hn:h'.Ns s.heap.objs.size m) (k:∀b o,s.heap.get? b=some o->h'.get? b=some o):
  Zp (Yi X cN scope cl fp s H) [] (Ql cap σ) H {s with heap:=h',toks:=tk}:=by
 have hfs:∀b∈fp,b∉zP X.stack:=λb hb z=>by
  rcases List.mem_cons.mp (I.stkSub b z) with e | z
  ·exact(f b hb).2.1 e
  ·exact(f b hb).2.2.1 z
 have hcl:∀x c,cl.lookup x=some c->∃v,s.heap.IsCell c v:=λx c e=>I.cell x c (C.sub x c e)
 refine⟨⟨I.ok.mod,?_,I.ok.glob,I.ok.blt,XE _,λx y c e1 e2=>I.ok.inj x y c (C.sub x c e1) (C.sub y c e2),C.has,λ_ _ z=>(nomatch z),I.ok.hd,I.ok.frames,.inl rfl,λb hb=>⟨XH (fl b hb),λx c e=>(f b hb).2.2.2.2.1 x c (C.sub x c e)⟩,
   I.bs,Nat.le_trans I.ok.bsz I.sz,λb o e z=>?_,hfs,I.stack,I.stkFree⟩,rfl,I.bare,Un.kept k,⟨m,hn,λi x v h1 h2 h3=>?_⟩,λx c e=>?_,I.fresh,λx c e=>I.freeC x c (C.sub x c e),λp hp=>absurd hp (by simp[Yi]),I.hok.kept k,?_⟩
 ·exact C.kind
 ·rcases (f b z).2.2.2.1 with q | q
  ·exact I.ok.noex b o e q
  ·exact absurd (XG (XD (I.ok.bs b o e).1) q) (Nat.lt_irrefl _)
 ·obtain⟨j,hj,hσ⟩:=Et h2
  obtain⟨n1,n2,n3,n4⟩:=C.capd i j x hj h1
  obtain⟨mo,hno,hlo⟩:=I.loc
  obtain⟨u,ru,lk⟩:=hlo j x v n1 hσ n2
  refine⟨u,ru,?_⟩
  rcases lk with⟨k1,_⟩ | ⟨_,c,e,z⟩
  ·exact absurd k1 n3
  ·obtain⟨a,ha⟩:=C.has x n4
   have ea:=C.sub x a ha
   rw[e] at ea;cases ea
   obtain⟨o,ho,hd⟩:=z
   exact .inr ⟨n4,c,ha,⟨o,k _ _ ho,hd⟩⟩
 ·obtain⟨v,o,ho,hd⟩:=hcl x c e
  exact⟨v,o,k _ _ ho,hd⟩
 ·show(Ql cap σ).length=cN.length
  rw[xt,C.len]
def Er {cN:List Str}{scope:Scope}{cl:List (Str×Addr)}{fp:List Addr}{pins pins':List (Addr×Obj)}{σ σ':St}{H H':Hp}{s s':Shared}{h':Heap}
  (I:Zp X pins σ H s) (f:∀b∈fp,Pj X pins H b) (J:Zp (Yi X cN scope cl fp s H) pins' σ' H' s') (sb:Heap.SameBut s.heap.objs.size s'.heap h'):Zp X pins σ H' {s' with heap:=h'}:=by
 have ne:∀b o,s.heap.get? b=some o->b≠s.heap.objs.size:=λb o e=>XH (XD e)
 have B:Un (zP X.stack) fp H H' s.heap s'.heap:=J.base
 refine I.call' (s':={s' with heap:=h'}) (ch:=fp) J.os ⟨λb o e n hb hx=>?_,λb o e n hb hx=>?_,B.free,λb o e hx=>?_,B.tups,B.frzs,B.tbls⟩ (λb o e=>?_) J.bare λb hb=>?_
 ·exact(sb.2 b (ne b o e)).trans (B.keep b o e n hb hx)
 ·obtain⟨sl,q⟩:=B.slot b o e n hb hx
  exact⟨sl,(sb.2 b (ne b o e)).trans q⟩
 ·obtain⟨o',q⟩:=B.there b o e hx
  exact⟨o',(sb.2 b (ne b o e)).trans q⟩
 ·have hf:H' s.heap.objs.size=none:=J.free
  refine(J.hok b o e).stay (λc w' hc q=>(sb.2 c ?_).trans q) (λ_ q=>q) λ_ _ q=>q
  rintro rfl
  rcases hc with rfl | hc
  ·rw[hf] at e;cases e
  ·rw[hf] at hc;cases hc
 ·obtain⟨f0,f1,f2,f3,f4,f5⟩:=f b hb
  exact⟨f3,f1,f4,f5⟩
def Ia {α:Type}{t:Sem α}{Q:α->Shared->Prop}{M:Model}{A:Around}{E:Value->Shared->Prop}{s:Shared}(h:wpAny M A t Q (λ_ _=>False) s):wpAny M A t Q E s:=wpAny_mono h (λ_ _ q=>q) λ_ _ f=>f.elim
def zW {tg iter elt:Expr}{ifs:List Expr}{scope:Scope}{pos:Pos}{cN:List Str}{cap:List (Option Nat)}{cl:List (Str×Addr)}{js:List Nat}{g:TG}{c:TT}{te:TE}{fp:List Addr}{it D:Addr}{tn:Nat->Heap->Prop}{J:It}
  {σ:St} {H:Hp} {s s':Shared} {Q:Addr->Hp->Prop} {R:Result->Shared->Prop} {H₀:Hp} (X:Cx)
  (hc:X.calm=true) (hg:PG (Yi X cN scope cl fp s H₀) tg g) (gm:Qn g) (gk:K8 js g) (hjs:∀j∈js,(cap[j]?).join=none) (ht:xE (Yi X cN scope cl fp s H₀) ifs c) (tm:∀σ H (Q Q':Bool->Hp->Prop),(∀b H',Q b H'->Q' b H')->c σ H Q->c σ H Q') (he:PE (Yi X cN scope cl fp s H₀) elt te)
  (T:ye X.prog X.w X.K tg J fp it tn) (W:Nat->Nat->Hp->Prop)
  (turn:∀i m H,W i m H->(J.stop i H/\Q D H)\/(J.go i H/\∃N:Hp->Prop,(∀H',N H'->∃m',m'<m/\W (i+1) m' H')/\∀x H',J.yld i H x H'->g x (Ql cap σ) H' λσ2 H2=>c σ2 H2 λb H3=>
   if b=true then te σ2 H3 λv H4=>∃xs,H4 D=some (.lst xs)/\xs.length<sizeLine/\N (Yq H4 D (.lst (xs++[v]))) else N H3))
  (m:Nat) (w0:W 0 m H) (I:Zp (Yi X cN scope cl fp s H₀) [] (Ql cap σ) H s') (st:tn 0 s'.heap) (f:∀b∈fp,Pj (Yi X cN scope cl fp s H₀) [] H b)
  (hR:∀σ' H' s',Zp (Yi X cN scope cl fp s H₀) [] σ' H' s'->Q D H'->R (.ok .next) s'):
  codeAny (model X.prog X.w) X.A (.compLoop (.ListComp elt [⟨tg,iter,ifs,0⟩] scope pos) 0 (.ref it) (.ref D) (Yi X cN scope cl fp s H₀).env) R s':=by
 have stat:∀{H':Hp},(∀b∈fp,H' b=none)->∀b∈fp,Pj (Yi X cN scope cl fp s H₀) [] H' b:=λhn b hb=>⟨hn b hb,(f b hb).2⟩
 refine codeAny_loop rfl (λn s'=>∃i H',Zp (Yi X cN scope cl fp s H₀) [] (Ql cap σ) H' s'/\tn i s'.heap/\(∀b∈fp,H' b=none)/\W i n H') ?_ m ⟨0,H,I,st,λb hb=>(f b hb).1,w0⟩
 rintro n s3 ⟨i,H3,I3,st3,fr3,w3⟩
 show wpAny _ X.A ((compTurn (.ListComp elt [⟨tg,iter,ifs,0⟩] scope pos) 0 (.ref it) (.ref D) (Yi X cN scope cl fp s H₀).env).onRaise (λx=>do noteFrame x (Yi X cN scope cl fp s H₀).env;theTreesLotGoes x)) _ _ s3
 refine wpAny_noted (Ia ?_)
 rw[compTurn_list]
 refine XA (wpAny_standAt (XA ?_))
 rcases turn i n H3 w3 with⟨stop,qn⟩ | ⟨go,N,hN,step⟩
 ·refine Jp (T.done (Yi X cN scope cl fp s H₀) rfl rfl rfl hc i [] s3 _ H3 _ I3 (stat fr3) st3 stop) λr s4 ⟨hr,I4⟩=>?_
  subst hr
  exact XB (hR _ _ _ I4 qn)
 ·refine Jp (T.item (Yi X cN scope cl fp s H₀) rfl rfl rfl hc i [] s3 _ H3 _ I3 (stat fr3) st3 go) λr s4 ⟨u,hr,h4⟩=>?_
  subst hr
  refine XA (Jp h4 λ_ s5 ⟨x,H5,I5,r5,y5,st5,fr5⟩=>?_)
  have I5':=I5.pinned (stat fr5) (T.obj _ _ st5)
  refine XA (Jp (hg _ s5 _ H5 x u _ I5' r5 (gk _ _ _ _ (step x H5 y5))) λ_ s6 ⟨σ6,H6,I6,q6,l6,k6⟩=>?_)
  have back:∀{H7:Hp} {s7:Shared},Zp (Yi X cN scope cl fp s H₀) ([]++N7 fp s5.heap) σ6 H7 s7->N H7->∃m,m<n/\∃i H',Zp (Yi X cN scope cl fp s H₀) [] (Ql cap σ) H' s7/\tn i s7.heap/\(∀b∈fp,H' b=none)/\W i m H':=λ{H7 s7} I7 n7=>by
   obtain⟨m',hm,w7⟩:=hN H7 n7
   refine⟨m',hm,i+1,H7,I7.unpinned.weak l6.symm λj v hj=>?_,T.keep _ _ _ st5 λb hb o e=>(I7.pin (b,o) (XT _ (XT _ (Te hb e)))).1,λb hb=>?_,w7⟩
   ·by_cases hjj:j∈js
    ·obtain⟨z,hz,_⟩:=Et hj
     have:=hjs j hjj
     rw[hz] at this;cases this
    ·rw[k6 j hjj];exact hj
   ·obtain⟨o,e,d⟩:=T.obj _ _ st5 b hb
    exact(I7.pin (b,o) (XT _ (XT _ (Te hb e)))).2.1
  refine XA (Jp (ht _ s6 σ6 H6 _ I6 q6) λb s7 ⟨H7,I7,q7⟩=>?_)
  cases b with
  | false=>
   rw[XX YJ] at q7
   exact XB ⟨rfl,back I7 q7⟩
  | true=>
   rw[XY rfl] at q7
   refine XA (XA (Jp (he _ s7 σ6 H7 _ I7 q7) λy s8 ⟨v,H8,I8,r8,xs,e8,z8,n8⟩=>?_))
   refine XA (Jp (Kk _ s8 σ6 H8 (.ref D) [v] (.ref D) [y] (λ_ H9=>N H9) I8 rfl (.cons r8 .nil) ⟨D,xs,v,rfl,rfl,e8,z8,n8⟩) λ_ s9 ⟨_,H9,I9,_,q9⟩=>?_)
   exact XB (XB ⟨rfl,back I9 q9⟩)
section
variable {X:Cx}{tg iter elt:Expr}{ifs:List Expr}{scope:Scope}{pos:Pos}{cN:List Str}{cap:List (Option Nat)}{cl:List (Str×Addr)}{js:List Nat}{wi:TI}{g:TG}{c:TT}{te:TE}
structure E6 (X:Cx)(tg iter elt:Expr)(ifs:List Expr)(scope:Scope)(cN:List Str)(cap:List (Option Nat))(cl:List (Str×Addr))(js:List Nat)(wi:TI)(g:TG)(c:TT)(te:TE):Prop where
 calm:X.calm=true
 ok:X.Ok->La X cN cap scope cl
 it:PI X tg iter wi
 tgt:∀fp s H,PG (Yi X cN scope cl fp s H) tg g
 gm:Qn g
 gk:K8 js g
 js0:∀j∈js,(cap[j]?).join=none
 ts:∀fp s H,xE (Yi X cN scope cl fp s H) ifs c
 tm:∀σ H (Q Q':Bool->Hp->Prop),(∀b H',Q b H'->Q' b H')->c σ H Q->c σ H Q'
 el:∀fp s H,PE (Yi X cN scope cl fp s H) elt te
 fold:∀x,foldedSetIterable iter X.env x=pure x
def M3 {pins:List (Addr×Obj)}{σ:St}{H:Hp}{s:Shared}{Q:Addr->Hp->Prop}{RR:Value->Addr->Result->Shared->Prop}(C:E6 X tg iter elt ifs scope cN cap cl js wi g c te)(I:Zp X pins σ H s)(h:Il cap wi g c te σ H Q)
  (hRR:∀(D:Addr) (fp:List Addr) (s3:Shared) (H3:Hp) (σ':St) (H':Hp) (s':Shared),Zp X pins σ H3 s3->(∀b∈fp,Pj X pins H3 b)->Zp (Yi X cN scope cl fp s3 H3) [] σ' H' s'->Q D H'->RR (.ref D) s3.heap.objs.size (.ok .next) s'):
  wpAny (model X.prog X.w) X.A (eval iter X.env) (λx s₁=>wpAny (model X.prog X.w) X.A (pyIter x) (λit s₂=>wpAny (model X.prog X.w) X.A (newList []) (λacc s₃=>
   wpAny (model X.prog X.w) X.A (newFunctionEnv scope X.env.globals cl [] X.env.qual none .none (some X.env)) (λcenv s₄=>
    codeAny (model X.prog X.w) X.A (.compStart (.ListComp elt [⟨tg,iter,ifs,0⟩] scope pos) 0 it acc {cenv with scope:=relabel scope X.env}) (RR acc cenv.locals) s₄) X.xe s₃) X.xe s₂) X.xe s₁) X.xe s:=by
 refine Jp (C.it pins s σ H _ I h) λv s1 h1=>Jp h1 λitv s2 h2=>?_
 obtain⟨it,fp,tn,J,H2,e,I2,T,st2,f2,R2⟩:=h2
 subst e
 obtain⟨W,⟨m,w0⟩,turn⟩:=R2 s2.heap.objs.size I2.fresh
 have I3:Zp X pins σ (Yq H2 s2.heap.objs.size (.lst [])) {s2 with heap:=s2.heap.push {cls:=.type "list",data:=.seq ([]:List Value).toArray},toks:=s2.toks}:=I2.lnew (ys:=[]) (its:=[]) .nil (XO _)
 have fl:∀b∈fp,b<s2.heap.objs.size:=λb hb=>by
  obtain⟨o,e,_⟩:=T.obj _ _ st2 b hb
  exact XD e
 have f3:∀b∈fp,Pj X pins (Yq H2 s2.heap.objs.size (.lst [])) b:=λb hb=>⟨by rw[Zy (XH (fl b hb))];exact(f2 b hb).1,(f2 b hb).2⟩
 refine wpAny_newObj_type (wpAny_newFunctionEnv (C.ok I.ok).cell (by intro y hy;simp at hy) (λh₁ hns₁ hsb₁=>?_) (C.ok I.ok).kind)
 dsimp only at hns₁ hsb₁ |-
 generalize hs3:({s2 with heap:=s2.heap.push {cls:=.type "list",data:=.seq ([]:List Value).toArray},toks:=s2.toks}:Shared)=s3 at I3
 have hh3:s3.heap=s2.heap.push {cls:=.type "list",data:=.seq ([]:List Value).toArray}:=by rw[<-hs3]
 rw[<-hh3] at hns₁ hsb₁ |-
 have fl3:∀b∈fp,b<s3.heap.objs.size:=λb hb=>by rw[hh3,Heap.size_push];exact Nat.lt_succ_of_lt (fl b hb)
 have k1:∀b o,s3.heap.get? b=some o->h₁.get? b=some o:=λb o e=>(hsb₁.2 b (XH (XD e))).trans (XC _ e)
 have I4:=Ct (tk:=s2.toks+([]:List (Str×Value)).length) (C.ok I.ok) I3 f3 fl3 hns₁ k1
 have e4:({s3 with heap:=h₁,toks:=s2.toks+([]:List (Str×Value)).length}:Shared)={s2 with heap:=h₁,toks:=s2.toks+([]:List (Str×Value)).length}:=by rw[<-hs3]
 rw[e4] at I4
 have st4:tn 0 h₁:=T.keep _ _ _ st2 λb hb o e=>k1 b o (by rw[hh3];exact XC _ e)
 have f4:∀b∈fp,Pj (Yi X cN scope cl fp s3 (Yq H2 s2.heap.objs.size (.lst []))) [] (Yq H2 s2.heap.objs.size (.lst [])) b:=λb hb=>by
  obtain⟨g0,g1,g2,g3,g4,g5⟩:=f3 b hb
  refine⟨g0,Nat.ne_of_lt (fl3 b hb),λz=>?_,.inl hb,λx c e=>g4 x c ((C.ok I.ok).sub x c e),λp hp=>absurd hp (by simp[Yi])⟩
  rcases List.mem_cons.mp (I3.stkSub b z) with e | z
  ·exact g1 e
  ·exact g2 z
 have loop:codeAny (model X.prog X.w) X.A (.compLoop (.ListComp elt [⟨tg,iter,ifs,0⟩] scope pos) 0 (.ref it) (.ref s2.heap.objs.size) (Yi X cN scope cl fp s3 (Yq H2 s2.heap.objs.size (.lst []))).env) (RR (.ref s2.heap.objs.size) s3.heap.objs.size)
   {s2 with heap:=h₁,toks:=s2.toks+([]:List (Str×Value)).length}:=
  zW X C.calm (C.tgt _ _ _) C.gm C.gk C.js0 (C.ts _ _ _) C.tm (C.el _ _ _) T W turn m w0 I4 st4 f4 λσ' H' s' I' q=>hRR _ fp s3 _ σ' H' s' I3 f3 I' q
 exact codeAny_compStart_list loop (T.self _ 0 _ _ _ st4 loop)
def qr (cap:List (Option Nat))(wi:TI)(g:TG)(c:TT)(te:TE):TE:=λσ H Q=>Il cap wi g c te σ H λp H'=>Q (.ref p) H'
def wN (C:E6 X tg iter elt ifs scope cN cap cl js wi g c te):PE X (.ListComp elt [⟨tg,iter,ifs,0⟩] scope pos) (qr cap wi g c te):=by
 intro pins s σ H Q I h
 rw[eval_ListComp]
 refine wpAny_comprehension_free (use:=none) rfl C.fold (C.ok I.ok).clos (C.ok I.ok).kind (C.ok I.ok).names (M3 (RR:=λacc C'=>compPost (model X.prog X.w) X.A X.xe none (EP X pins σ Q) acc C') C I h ?_)
 intro D fp s3 H3 σ' H' s' I3 f3 J q
 obtain⟨m,hn,_⟩:=J.loc
 exact⟨m,hn,λh' sb=>⟨.ref D,H',Er I3 f3 J sb,rfl,q⟩⟩
def yH (i:Nat)(cap:List (Option Nat))(wi:TI)(g:TG)(c:TT)(te:TE):TS:=λD σ H=>Il cap wi g c te σ H λp H'=>D.nx (σ.set i (some (.ref p))) H'
def Dk {i:Nat}{y:Str}{py spos:Pos}(hN:X.N.Nodup)(hi:X.N[i]?=some y)(hy:X.env.scope.names.lookup y=some .local)
  (hsw:swapsWith (.ListComp elt [⟨tg,iter,ifs,0⟩] scope pos) (some (.Name y py)) spos.line X.env=pure true)
  (C:E6 X tg iter elt ifs scope cN cap cl js wi g c te):PS X (.Assign [.Name y py] (.ListComp elt [⟨tg,iter,ifs,0⟩] scope pos) spos) (yH i cap wi g c te):=by
 intro pins s σ H D I h
 rw[exec_Assign_Name_used _ _ _ _ hsw]
 refine XA (wpAny_standAt (XA ?_))
 show wpAny _ X.A (do let _ <-comprehension (.ListComp elt [⟨tg,iter,ifs,0⟩] scope pos) scope X.env _ (newList []) false (eval iter X.env) (some (assign (.Name y py) X.env))) _ _ s
 refine XA (wpAny_mono (wpAny_comprehension_free (use:=some (assign (.Name y py) X.env)) (Q:=λ_ s'=>SP X pins D .next s') rfl C.fold (C.ok I.ok).clos (C.ok I.ok).kind (C.ok I.ok).names
  (M3 (RR:=λacc C'=>compPost (model X.prog X.w) X.A X.xe (some (assign (.Name y py) X.env)) (λ_ s'=>SP X pins D .next s') acc C') C I h ?_)) (λ_ s' hq=>XB (XB hq)) λ_ _ e=>e)
 intro D' fp s3 H3 σ' H' s' I3 f3 J q
 obtain⟨m,hn,_⟩:=id J.loc
 have I4:Zp X pins σ H' s':=Er I3 f3 J (Heap.SameBut.refl ..)
 show wpAny _ X.A (assign (.Name y py) X.env (.ref D')) _ _ _
 refine wpAny_assign_Name (Ke (v:=.ref D') I4 hN hi (.inl hy) rfl (λs5 I5 hch=>?_) (.inr hy))
 obtain⟨a,sb,ha⟩:=hch
 have hf:H' s3.heap.objs.size=none:=J.free
 have hCL:s3.heap.objs.size≠X.env.locals:=Nat.ne_of_gt I3.lt
 have hcells:∀x c,X.env.cells.lookup x=some c->c≠s3.heap.objs.size:=λx c e=>by
  obtain⟨v,o,ho,_⟩:=I3.cell x c e
  exact XH (XD ho)
 have haC:s3.heap.objs.size≠a:=by
  rcases ha with z | z
  ·rw[z];exact hCL
  ·exact Ne.symm (hcells _ _ z)
 refine⟨m,hn.sameBut sb haC,λh6 sb6=>⟨_,H',?_,q⟩⟩
 exact I5.turned (h':=h6) (t':=s5.toks) (λb o hb e=>(sb6.2 b hb).trans e) hf hCL (.inr I3.sz) (λx c e=>hcells x c e) λp hp z=>by
  have:=XD (I3.pin p hp).1
  rw[z] at this;exact Nat.lt_irrefl _ this
end
end
def oN (z:Str):It:=⟨λi _=>i<z.cps.size,λi H x H'=>H'=H/\∃c,z.cps[i]?=some c/\x=.str ⟨#[c]⟩,λi _=>i=z.cps.size⟩
def Nv {P:Program}{w:World}{K:W.Frag}{tg:Expr}{ty:String}{it:Addr}{z:Str}{t:Tok}(hty:["enumerate","zip","dict_itemiterator","dict_reverseitemiterator","odict_iterator","itertools.zip_longest","itertools.pairwise"].contains ty=false)
  (W:∀A:Around,A.handled=none->Walks P w A it [it] [it] z.cps.size (SignAt z) (λi h=>h.IsStrIter it ty z t i))
  (self:∀(A:Around) (i:Nat) (s:Shared) (Q:Value->Shared->Prop) (E:Value->Shared->Prop),s.heap.IsStrIter it ty z t i->Q (.ref it) s->wpAny (model P w) A (pyIter (.ref it)) Q E s):
  ye P w K tg (oN z) [it] it (λi h=>h.IsStrIter it ty z t i) where
 mem:=by simp
 obj:=λi h st b hb=>by
  have e:b=it:=by simpa using hb
  subst e
  obtain⟨o,e,c,d⟩:=st
  exact⟨o,e,λv z=>by rw[d] at z;cases z⟩
 keep:=λi h h' st k=>let ⟨o,e,r⟩:=st;⟨o,k it (by simp) o e,r⟩
 item:=by
  intro X hP hw hK hc i pins s σ H E I hf st hg
  subst hP hw hK
  obtain⟨f0,f1,f2,f3,f4,f5⟩:=hf it (by simp)
  refine(W X.A (I.ok.hd hc)).item i s _ _ hg st λv h' tk hv st' kk=>?_
  obtain⟨c,u,hcp,rfl⟩:=hv
  have I1:Zp X pins σ H {s with heap:=h',toks:=tk}:=I.turned (λb o hb e=>kk b o (by simpa using hb) e) f0 f1 f3 f4 f5
  obtain⟨o,e,c',d⟩:=id st'
  exact⟨_,rfl,jN (s:={s with heap:=h',toks:=tk}) e c' d hty ⟨.str ⟨#[c]⟩,H,I1,⟨u,rfl⟩,⟨rfl,c,hcp,rfl⟩,st',λb hb=>(hf b hb).1⟩⟩
 done:=by
  intro X hP hw hK hc i pins s σ H E I hf st hg
  subst hP hw hK
  obtain⟨f0,f1,f2,f3,f4,f5⟩:=hf it (by simp)
  have e:i=z.cps.size:=hg
  subst e
  exact(W X.A (I.ok.hd hc)).done s _ _ st λh' tk kk=>⟨rfl,I.turned (λb o hb e=>kk b o (by simpa using hb) e) f0 f1 f3 f4 f5⟩
 self:=self
section
variable {X:Cx}{tg:Expr}
end
section
variable {X:Cx}{elts:List Expr}{ek:Nat}{epos:Pos}
end
section
variable {X:Cx}
def uO (K:W.Frag):R2:=λx y H Q=>∃a b ys,x=.ref a/\y=.ref b/\V6 K H a []/\V6 K H b ys/\Q (.ref b) H
def jp:O6 X (binaryOp .Add) (uO X.K):=by
 intro pins s σ H x y v u Q I rx ry h
 obtain⟨a,b,ys,rfl,rfl,ha,hb,q⟩:=h
 cases rx
 cases ry
 obtain⟨its,r1,p1,_⟩:=I.tuple ha
 obtain⟨its2,r2,p2,_⟩:=I.tuple hb
 cases r1
 obtain⟨⟨cls,dd,data,sl⟩,ho,hc,n,hd⟩:=id p1
 obtain⟨⟨cls2,dd2,data2,sl2⟩,ho2,hc2,n2,hd2⟩:=id p2
 simp only at hc hd hc2 hd2
 subst hc hd hc2 hd2
 exact concat_meets ⟨_,ho,rfl⟩ ⟨_,ho2,rfl⟩ noFill_tuple_add seq_tuple_add PySem.F.slot_tuple_add PySem.F.entry_tuple_add (PySem.F.args_tuple_add_2 _ _)
  (tuple_addW0 a b _ _ n n2 dd dd2 sl sl2 (by simp)) ⟨ho,ho2,⟨.ref b,H,I,rfl,q⟩⟩
def B0 {v:Value}{o:Option Int}(h:IsPart v o):∃l:Option (Int×Tok),v=partValue l/\l.map (·.1)=o:=by
 cases h with
 | none=>exact⟨none,rfl,rfl⟩
 | int i t=>exact⟨some (i,t),rfl,rfl⟩
def nM:V->Option Int->Option Int->Hp->VK->Prop:=λx lo hi H Q=>∃z,x=.str z/\z.length<=sizeLine/\Q (.str (Txt.slice z lo hi)) H
def uG:xL X nM:=by
 intro pins s σ H x v vl vu lo hi sl Q I rx hs pl pu h
 obtain⟨z,rfl,hz,q⟩:=h
 obtain⟨t,rfl⟩:=rx
 obtain⟨l,rfl,rfl⟩:=B0 pl
 obtain⟨u,rfl,rfl⟩:=B0 pu
 refine⟨"str",_,PySem.F.slot_str_getitem.lookup,typeIs_str _ _ _,?_⟩
 obtain⟨o,ho,hc,hd⟩:=hs
 refine wpAny_getItem_str_slice (l:=l) (u:=u) (st:=none) ⟨o,ho,hc,hd⟩ rfl ?_
 have hle:=Txt.slice_le z (l.map (·.1)) (u.map (·.1))
 unfold sliceMade
 unfold Txt.slice at q hle
 show Made.post (if ((1:Int)==1&&(PySem.Builtin.Str.strSliceIndices (l.map (·.1)) (u.map (·.1)) 1 z.length).length==z.length)=true then _ else Made.str ⟨((PySem.Builtin.Str.strSliceIndices (l.map (·.1)) (u.map (·.1)) 1 z.length).filterMap (z.cps[·]?)).toArray⟩) _ s
 split
 ·rename_i hif
  rw[XY hif] at q
  exact⟨.str z,H,I,⟨t,rfl⟩,q⟩
 ·rename_i hif
  rw[XX hif] at q
  rw[XX hif] at hle
  exact⟨XN hle hz,.str _,H,I.tok _,⟨_,rfl⟩,q⟩
end
def Lw:bootBuiltins "isinstance"=some (.builtin "isinstance"):=by decide+kernel
def Cw:bootBuiltins "str"=some (.type "str"):=by decide+kernel
def Au:bootBuiltins "list"=some (.type "list"):=by decide+kernel
def Sx:bootBuiltins "tuple"=some (.type "tuple"):=by decide+kernel
section
variable {X:Cx}
structure Ca (P:Program)(w:World)(K:W.Frag)(mg:Str->Option Value)(base:Heap)(k:Nat)(x:Str)(ps:List Str)(sp:Sp):Prop where
 ex:∃(f:Addr) (fd:FuncData),Vv P w K mg base CX0 k f fd ps sp/\Xv K fd ps []/\W.keepIn K (.ref f)=true/\mg x=some (.ref f)
def qS {k:Nat}{x:Str}{ps:List Str}{sp:Sp}{p pos:Pos}{e:Expr}{es:List Expr}{t:TA}(C:Ca X.prog X.w X.K X.mg X.base k x ps sp)(hr:Xt k X.A)(hg:Gl X x)(ha:PA X (e::es) t)
  (hdb:(x==("__debug__":Str))=false:=by decide) (he:starEach (e::es) X.env=(false,eval e X.env)::starEach es X.env:=by rfl) (hpl:(backTo pos (starEach es X.env)).any (·.1)=false:=by rfl):
  PE X (.Call (.Name x p) (e::es) [] pos) (vT sp [] E0 t):=by
 obtain⟨f,fd,F,B,kp,m⟩:=C.ex
 exact wP F hr hg m kp B .nil Bz ha hdb he hpl
def D8 {K:W.Frag}{n:Nat}{u:E8}(b:Pi u):Qn (Cf K n u):=λx σ H Q Q' h q=>by
 obtain⟨a,xs,e,hq,hl,q⟩:=q
 exact⟨a,xs,e,hq,hl,b _ _ _ _ _ h q⟩
def V3 {scope:Scope}{env:Env}{x:Str}{k:NameKind}(h:(relabel scope env).names.lookup x=some k):∃k',(x,k')∈scope.names/\(k'=k\/k'=.free):=by
 have m:=PySem.mem_of_lookup h
 unfold relabel at m
 obtain⟨⟨n,k'⟩,hm,e⟩:=XR.mp m
 dsimp only at e
 split at e
 ·rename_i hc
  cases e
  refine⟨k',hm,.inr ?_⟩
  simp only[Bool.and_eq_true,beq_iff_eq] at hc
  exact hc.1.1
 ·cases e
  exact⟨_,hm,.inl rfl⟩
def Nn {cN:List Str}{cap:List (Option Nat)}{scope:Scope}(hk:scope.kind=.function)(h1:scope.names.all (λy=>y.2 !=.free&&y.2 !=.cell)=true)(h2:scope.names.all (λy=>y.2 !=.local||scope.names.lookup y.1==some .local)=true)
  (hl:cap.length=cN.length) (hc:cap.all (λo=>o.isNone)=true):La X cN cap scope [] where
 clos:=closureFor_none λy hy=>by
  have:=List.all_eq_true.mp h1 y hy
  simp only[Bool.and_eq_true,bne_iff_ne,ne_eq] at this
  exact this.1
 sub:=λn a h=>by cases h
 cell:=λy hy=>by
  have:=List.all_eq_true.mp h1 y hy
  simp only[Bool.and_eq_true,bne_iff_ne,ne_eq] at this
  exact this.2
 kind:=hk
 names:=λy hy e=>by
  have:=List.all_eq_true.mp h2 y hy
  simp only[Bool.or_eq_true,bne_iff_ne,ne_eq,beq_iff_eq] at this
  rcases this with q | q
  ·exact absurd e q
  ·exact q
 len:=hl
 has:=λx h=>by
  exfalso
  have no:∀k',(x,k')∈scope.names->k'≠.free/\k'≠.cell:=λk' hy=>by
   have:=List.all_eq_true.mp h1 _ hy
   simpa only[Bool.and_eq_true,bne_iff_ne,ne_eq] using this
  rcases h with h | h
  ·obtain⟨k',hm,e⟩:=V3 h
   rcases e with e | e
   ·exact(no k' hm).2 e
   ·exact(no k' hm).1 e
  ·obtain⟨k',hm,e⟩:=V3 h
   rcases e with e | e
   ·exact(no k' hm).1 e
   ·exact(no k' hm).1 e
 capd:=λi j x h _=>by
  have:=List.all_eq_true.mp hc _ (List.mem_of_getElem? h)
  cases this
def Jo (cells:List (Str×Addr)):List (Str×NameKind)->List (Str×Addr)->List (Str×Addr)
 | [],cs=>cs
 | (n,k)::r,cs=>Jo cells r (if k==.free then(n,(cells.lookup n).getD 0)::cs else cs)
def Qk {cells:List (Str×Addr)}:∀{names:List (Str×NameKind)} {cs:List (Str×Addr)} {p:Str×Addr},p∈Jo cells names cs↔p∈cs\/((p.1,NameKind.free)∈names/\p.2=(cells.lookup p.1).getD 0)
 | [],cs,p=>by simp[Jo]
 | (n,k)::r,cs,p=>by
  unfold Jo
  rw[Qk]
  by_cases hk:k=.free
  ·subst hk
   simp only[beq_self_eq_true,if_true,List.mem_cons,Prod.mk.injEq,and_true]
   constructor
   ·rintro((h | h) | h)
    ·subst h;exact .inr ⟨.inl rfl,rfl⟩
    ·exact .inl h
    ·exact .inr ⟨.inr h.1,h.2⟩
   ·rintro(h | ⟨h | h,e⟩)
    ·exact .inl (.inr h)
    ·refine .inl (.inl ?_)
     obtain⟨a,b⟩:=p
     simp only at h e
     subst h;subst e;rfl
    ·exact .inr ⟨h,e⟩
  ·have hb:(k==NameKind.free)=false:=by simpa using hk
   simp only[hb,Bool.false_eq_true,if_false,List.mem_cons,Prod.mk.injEq]
   constructor
   ·rintro(h | h)
    ·exact .inl h
    ·exact .inr ⟨.inr h.1,h.2⟩
   ·rintro(h | ⟨h | h,e⟩)
    ·exact .inl h
    ·exact absurd h.2.symm hk
    ·exact .inr ⟨h,e⟩
def Lu {scope:Scope}{env:Env}(h:∀n,(n,NameKind.free)∈scope.names->∃c,env.cells.lookup n=some c):closureFor scope env=pure (Jo env.cells scope.names []):=by
 have key:∀(names:List (Str×NameKind)) (cs:List (Str×Addr)),(∀n,(n,NameKind.free)∈names->∃c,env.cells.lookup n=some c)->
   (forIn names cs λx r=>(match x with | (name,kind)=>if (kind==NameKind.free)=true then(do let y <-cellOf env name;pure (ForInStep.yield ((name,y)::r))) else pure (ForInStep.yield r):Sem (ForInStep (List (Str×Addr)))))=pure (Jo env.cells names cs):=by
  intro names
  induction names with
  | nil=>intro cs _;rfl
  | cons y r ih=>
   obtain⟨n,k⟩:=y
   intro cs hn
   rw[List.forIn_cons]
   unfold Jo
   by_cases hk:k=.free
   ·subst hk
    obtain⟨c,hc⟩:=hn n (List.mem_cons_self)
    simp only[beq_self_eq_true,if_true,cellOf,hc,Option.getD_some]
    exact ih _ λm hm=>hn m (XV _ hm)
   ·have hb:(k==NameKind.free)=false:=by simpa using hk
    simp only[hb,Bool.false_eq_true,if_false]
    exact ih _ λm hm=>hn m (XV _ hm)
 unfold closureFor
 have:=key scope.names [] h
 first
  | exact this
  | (simp only[bind_pure];exact this)
  | (show(forIn scope.names [] _>>=λr=>pure r)=_;rw[bind_pure];exact this)
def N9 {f:Str->NameKind->NameKind}:∀{names:List (Str×NameKind)} {x:Str},(names.map λy=>(y.1,f y.1 y.2)).lookup x=(names.lookup x).map (f x)
 | [],x=>rfl
 | (n,k)::r,x=>by
  have ih:=@N9 f r x
  rw[YI,List.lookup_cons,List.lookup_cons]
  by_cases hx:x=n
  ·subst hx;simp
  ·have hb:(x==n)=false:=beq_eq_false_iff_ne.mpr hx
   simp only[hb];exact ih
def Ma {scope:Scope}{env:Env}{x:Str}:(relabel scope env).names.lookup x=
   (scope.names.lookup x).map λk=>if (k==NameKind.free&&env.scope.kind==.function&&env.kindOf x==some .cell) then NameKind.cell else k:=by
 rw[<-N9 (f:=λn k=>if (k==NameKind.free&&env.scope.kind==.function&&env.kindOf n==some .cell) then NameKind.cell else k)]
 unfold relabel
 congr 1
 refine List.map_congr_left λy _=>?_
 obtain⟨n,k⟩:=y
 dsimp only
 split<;>rfl
def M4 (N:List Str)(outer inner:List (Str×NameKind)):List (Option Nat)->List Str->Bool
 | [],_=>true
 | _,[]=>true
 | none::r,_::xs=>M4 N outer inner r xs
 | some j::r,x::xs=>N[j]?==some x&&outer.lookup x==some .cell&&inner.lookup x==some .free&&M4 N outer inner r xs
def Oc {N:List Str}{outer inner:List (Str×NameKind)}:∀{cap:List (Option Nat)} {cN:List Str},M4 N outer inner cap cN=true->∀(i j:Nat) (x:Str),cap[i]?=some (some j)->cN[i]?=some x->N[j]?=some x/\outer.lookup x=some .cell/\inner.lookup x=some .free
 | [],_,_,i,j,x,h1,_=>by simp at h1
 | _::_,[],_,i,j,x,_,h2=>by simp at h2
 | none::r,y::xs,h,0,j,x,h1,_=>by simp at h1
 | none::r,y::xs,h,i+1,j,x,h1,h2=>Oc (cap:=r) (cN:=xs) (by simpa[M4] using h) i j x (by simpa using h1) (by simpa using h2)
 | some k::r,y::xs,h,0,j,x,h1,h2=>by
  simp only[M4,Bool.and_eq_true,beq_iff_eq] at h
  simp at h1 h2
  subst h1 h2
  exact⟨h.1.1.1,h.1.1.2,h.1.2⟩
 | some k::r,y::xs,h,i+1,j,x,h1,h2=>by
  simp only[M4,Bool.and_eq_true,beq_iff_eq] at h
  exact Oc (cap:=r) (cN:=xs) h.2 i j x (by simpa using h1) (by simpa using h2)
def Rv {α β:Type}[BEq α][LawfulBEq α]{x:α}:∀{l:List (α×β)} {b:β},(x,b)∈l->∃c,l.lookup x=some c
 | [],_,h=>by cases h
 | (y,c)::r,b,h=>by
  rw[List.lookup_cons]
  by_cases hx:x=y
  ·subst hx;simp
  ·have hb:(x==y)=false:=beq_eq_false_iff_ne.mpr hx
   rw[hb]
   rcases List.mem_cons.mp h with e | h
   ·cases e;exact absurd rfl hx
   ·exact Rv h
def Wb {cN:List Str}{cap:List (Option Nat)}{scope:Scope}(ok:X.Ok)(hk:scope.kind=.function)(h1:scope.names.all (λy=>y.2 !=.cell)=true)(h2:scope.names.all (λy=>y.2 !=.local||scope.names.lookup y.1==some .local)=true)
  (hl:cap.length=cN.length) (hf:(scope.names.all λy=>y.2 !=.free||X.env.scope.names.lookup y.1==some .cell)=true) (hc:M4 X.N X.env.scope.names scope.names cap cN=true):La X cN cap scope (Jo X.env.cells scope.names []):=by
 have hfr:∀n,(n,NameKind.free)∈scope.names->∃c,X.env.cells.lookup n=some c:=λn hn=>by
  have:=List.all_eq_true.mp hf _ hn
  simp only[bne_self_eq_false,Bool.false_or,beq_iff_eq] at this
  exact ok.has n (.inl this)
 refine⟨Lu hfr,λn a h=>?_,λy hy=>?_,hk,λy hy e=>?_,hl,λx h=>?_,λi j x h1' h2'=>?_⟩
 ·have m:=PySem.mem_of_lookup h
  rw[Qk] at m
  rcases m with m | ⟨m,e⟩
  ·cases m
  ·obtain⟨c,hc⟩:=hfr n m
   simp only[hc,Option.getD_some] at e
   rw[hc,e]
 ·have:=List.all_eq_true.mp h1 y hy
  simpa using this
 ·have:=List.all_eq_true.mp h2 y hy
  simp only[Bool.or_eq_true,bne_iff_ne,ne_eq,beq_iff_eq] at this
  rcases this with q | q
  ·exact absurd e q
  ·exact q
 ·have nc:∀k',(x,k')∈scope.names->k'≠.cell:=λk' hy=>by
   have:=List.all_eq_true.mp h1 _ hy
   simpa using this
  have m:(x,NameKind.free)∈scope.names:=by
   rcases h with h | h
   ·obtain⟨k',hm,e⟩:=V3 h
    rcases e with e | e
    ·exact absurd e (nc k' hm)
    ·subst e;exact hm
   ·obtain⟨k',hm,e⟩:=V3 h
    rcases e with e | e<;>(subst e;exact hm)
  exact Rv (b:=(X.env.cells.lookup x).getD 0) (Qk.mpr (.inr ⟨m,rfl⟩))
 ·obtain⟨q1,q2,q3⟩:=Oc hc i j x h1' h2'
  refine⟨q1,.inr (.inl q2),(by rw[q2];simp),?_⟩
  rw[Ma,q3]
  simp only[Option.map_some,beq_self_eq_true,Bool.true_and]
  split
  ·exact .inl rfl
  ·exact .inr rfl
end
def CN (p:Addr)(Pv:Nat->List V->Hp->Prop)(i:Nat)(H:Hp):Prop:=∃ys,H p=some (.lst ys)/\ys.length<=i/\Pv i ys H
section
variable {K:W.Frag}{cap:List (Option Nat)}{g:TG}{c:TT}{te:TE}{σ:St}{Q:Addr->Hp->Prop}{H:Hp}
end
def nv (g:TG)(tb:TS)(D:Lz)(σ:St)(J:It)(H1:Hp):Prop:=∃W:Nat->Nat->St->Hp->Prop,(∃m,W 0 m σ H1)/\∀i m σ H,W i m σ H->
 (J.stop i H/\D.nx σ H)\/(J.go i H/\∃N:St->Hp->Prop,(∀σ' H',N σ' H'->∃m',m'<m/\W (i+1) m' σ' H')/\∀x H',J.yld i H x H'->g x σ H' λσ2 H2=>tb {D with nx:=N,ct:=N,bk:=D.nx} σ2 H2)
section
variable {K:W.Frag}{a:Addr}{xs:List V}{g:TG}{tb:TS}{D:Lz}{σ:St}{H:Hp}{z:Str}
end
def tyL {K:W.Frag}{H:Hp}{r:Addr}{xs:List V}(h:H r=some (.lst xs)):rK K "list" (.ref r) H:=by
 unfold rK
 exact .inl ⟨rfl,xs,Xr.of h⟩
def rn {α:Type}{xs:List α}{i:Int}(h0:0<=i)(h1:i<(xs.length:Int)):∃v,Pf xs i=some v/\v∈xs:=by
 have hk:i.toNat<xs.length:=by omega
 have ek:((i.toNat:Nat):Int)=i:=by omega
 have q:Pf xs ((i.toNat:Nat):Int)=some xs[i.toNat]:=Vb (by simp[hk])
 rw[ek] at q
 exact⟨xs[i.toNat],q,YN hk⟩
end L2
namespace WL
open PySem PySem.Spec PyProof.Rows L2
inductive T where
 | non | bl (b:Bool) | int (i:Int) | str (x:Str) | tup (xs:List T)
  | ref (a:Addr)
  | cl (xs:List T)
inductive O where
 | lst (xs:List T)
 | dic (kvs:List (Z1×T))
 | ins (cn:Str) (fs:List (Str×T))
  | fdic (kvs:List (Z1×T))
abbrev Hw:=Addr->Option O
def up (C:Hw)(a:Addr)(o:O):Hw:=λb=>if b=a then some o else C b
def Ze {C:Hw}{a:Addr}{o:O}:up C a o a=some o:=by unfold up;rw[XY rfl]
def Zg {C:Hw}{a b:Addr}{o:O}(h:b≠a):up C a o b=C b:=by unfold up;rw[XX h]
def uv (K:W.Frag)(H:Hp)(a:Addr)(xs:List V):Prop:=
 (∃o,H a=some (.frz o (.lst xs)))\/
  ∃(o:Obj) (its:Array Value) (n:Nat),K.lookup a=some o/\o.cls=.type "list"/\o.dict=none/\o.data=.seq its n/\its.size<=sizeLine/\Zz xs its.toList
def uv.sq {K:W.Frag}{H:Hp}{a:Addr}{xs:List V}(h:uv K H a xs):Xr K H a xs:=by
 rcases h with⟨o,h⟩ | h
 ·exact .inl (.inr ⟨o,h⟩)
 ·exact .inr h
mutual
def Y7 (K:W.Frag)(H:Hp)(x:V):T->Prop
 | .non=>x=.non
 | .bl b=>x=.bl b
 | .int i=>x=.int i
 | .str z=>x=.str z
 | .ref a=>x=.ref a
 | .tup ts=>∃a ys,x=.ref a/\V6 K H a ys/\Reps K H ys ts
 | .cl ts=>∃a ys,x=.ref a/\uv K H a ys/\Reps K H ys ts
def Reps (K:W.Frag)(H:Hp)(ys:List V):List T->Prop
 | []=>ys=[]
 | t::ts=>∃y r,ys=y::r/\Y7 K H y t/\Reps K H r ts
end
def mI:HO->Prop
 | .tup _=>True
 | .frz _ _=>True
 | _=>False
def Tx (H H':Hp):Prop:=∀b o,H b=some o->mI o->H' b=some o
def Tx.refl (H:Hp):Tx H H:=λ_ _ h _=>h
def Tx.trans {H H1 H2:Hp}(a:Tx H H1)(b:Tx H1 H2):Tx H H2:=λc o h n=>b c o (a c o h n) n
def Tx.new {H:Hp}{p:Addr}{o:HO}(h:H p=none):Tx H (Yq H p o):=λb u q _=>by rw[Zy (Y5 q h)];exact q
def Tx.put {H:Hp}{p:Addr}{o u:HO}(h:H p=some o)(n:¬mI o):Tx H (Yq H p u):=λb v q s=>by
 by_cases e:b=p
 ·subst e;rw[h] at q;cases q;exact absurd s n
 ·rw[Zy e];exact q
def Tx.sqt {K:W.Frag}{H H':Hp}(t:Tx H H'){a:Addr}{xs:List V}(h:V6 K H a xs):V6 K H' a xs:=by
 rcases h with(h | ⟨o,h⟩) | h
 ·exact .inl (.inl (t _ _ h trivial))
 ·exact .inl (.inr ⟨o,t _ _ h trivial⟩)
 ·exact .inr h
def Tx.sqc {K:W.Frag}{H H':Hp}(t:Tx H H'){a:Addr}{xs:List V}(h:uv K H a xs):uv K H' a xs:=by
 rcases h with⟨o,h⟩ | h
 ·exact .inl ⟨o,t _ _ h trivial⟩
 ·exact .inr h
mutual
def Y7.tx {K:W.Frag}{H H':Hp}(t:Tx H H'){x:V}:∀{v:T},Y7 K H x v->Y7 K H' x v
 | .non,h=>by simpa[Y7] using h
 | .bl b,h=>by simpa[Y7] using h
 | .int i,h=>by simpa[Y7] using h
 | .str z,h=>by simpa[Y7] using h
 | .ref a,h=>by simpa[Y7] using h
 | .tup ts,h=>by
  unfold Y7 at h |-
  obtain⟨a,ys,e,q,r⟩:=h
  exact⟨a,ys,e,t.sqt q,Reps.tx t r⟩
 | .cl ts,h=>by
  unfold Y7 at h |-
  obtain⟨a,ys,e,q,r⟩:=h
  exact⟨a,ys,e,t.sqc q,Reps.tx t r⟩
def Reps.tx {K:W.Frag}{H H':Hp}(t:Tx H H'){ys:List V}:∀{vs:List T},Reps K H ys vs->Reps K H' ys vs
 | [],h=>by simpa[Reps] using h
 | v::vs,h=>by
  unfold Reps at h |-
  obtain⟨y,r,e,q,s⟩:=h
  exact⟨y,r,e,Y7.tx t q,Reps.tx t s⟩
end
section
variable {K:W.Frag}{H:Hp}
def Xb {i:Int}:Y7 K H (.int i) (.int i):=by unfold Y7;rfl
def V0 {i:Str}:Y7 K H (.str i) (.str i):=by unfold Y7;rfl
def Jc {i:Bool}:Y7 K H (.bl i) (.bl i):=by unfold Y7;rfl
def Qx:Y7 K H .non .non:=by unfold Y7;rfl
def Y2 {a:Addr}:Y7 K H (.ref a) (.ref a):=by unfold Y7;rfl
def Jq {a:Addr}{ys:List V}{ts:List T}(h:V6 K H a ys)(r:Reps K H ys ts):Y7 K H (.ref a) (.tup ts):=by unfold Y7;exact⟨a,ys,rfl,h,r⟩
def Ym {x:V}{i:Int}(h:Y7 K H x (.int i)):x=.int i:=by unfold Y7 at h;exact h
def Jl {x:V}{i:Str}(h:Y7 K H x (.str i)):x=.str i:=by unfold Y7 at h;exact h
def Q1 {x:V}{i:Bool}(h:Y7 K H x (.bl i)):x=.bl i:=by unfold Y7 at h;exact h
def Qf {x:V}(h:Y7 K H x .non):x=.non:=by unfold Y7 at h;exact h
def Zs {x:V}{a:Addr}(h:Y7 K H x (.ref a)):x=.ref a:=by unfold Y7 at h;exact h
def Z6 {x:V}{ts:List T}(h:Y7 K H x (.tup ts)):∃a ys,x=.ref a/\V6 K H a ys/\Reps K H ys ts:=by unfold Y7 at h;exact h
def Ru {x:V}{ts:List T}(h:Y7 K H x (.cl ts)):∃a ys,x=.ref a/\uv K H a ys/\Reps K H ys ts:=by unfold Y7 at h;exact h
def Ys:Reps K H [] []:=by unfold Reps;rfl
def Yf {y:V}{ys:List V}{t:T}{ts:List T}(a:Y7 K H y t)(b:Reps K H ys ts):Reps K H (y::ys) (t::ts):=by unfold Reps;exact⟨y,ys,rfl,a,b⟩
def J4 {ys:List V}(h:Reps K H ys []):ys=[]:=by unfold Reps at h;exact h
def Yg {ys:List V}{t:T}{ts:List T}(h:Reps K H ys (t::ts)):∃y r,ys=y::r/\Y7 K H y t/\Reps K H r ts:=by unfold Reps at h;exact h
def Reps.length:∀{vs:List T} {ys:List V},Reps K H ys vs->ys.length=vs.length
 | [],_,h=>by rw[J4 h];rfl
 | _::_,_,h=>by obtain⟨y,r,rfl,_,q⟩:=Yg h;rw[YF,YF,q.length]
def Reps.get:∀{vs:List T} {ys:List V} {i:Nat} {v:T},Reps K H ys vs->vs[i]?=some v->∃y,ys[i]?=some y/\Y7 K H y v
 | [],_,_,_,_,e=>by simp at e
 | _::_,_,0,_,h,e=>by obtain⟨y,r,rfl,a,_⟩:=Yg h;simp at e;subst e;exact⟨y,rfl,a⟩
 | _::_,_,i+1,v,h,e=>by
  obtain⟨y,r,rfl,_,q⟩:=Yg h
  obtain⟨z,h1,h2⟩:=Reps.get (i:=i) (v:=v) q (by simpa using e)
  exact⟨z,by simpa using h1,h2⟩
def Reps.get':∀{vs:List T} {ys:List V} {i:Nat} {y:V},Reps K H ys vs->ys[i]?=some y->∃v,vs[i]?=some v/\Y7 K H y v:=λ{vs ys i y} h e=>by
 have hl:=h.length
 have hi:i<ys.length:=(List.getElem?_eq_some_iff.mp e).1
 have hv:vs[i]?=some (vs[i]'(by omega)):=by simp[hl▸hi]
 obtain⟨z,h1,h2⟩:=h.get hv
 rw[e] at h1;cases h1
 exact⟨_,hv,h2⟩
def Reps.app:∀{vs ws:List T} {ys zs:List V},Reps K H ys vs->Reps K H zs ws->Reps K H (ys++zs) (vs++ws)
 | [],_,_,_,h,q=>by rw[J4 h];exact q
 | _::_,_,_,_,h,q=>by obtain⟨y,r,rfl,a,b⟩:=Yg h;exact Yf a (b.app q)
def Reps.take:∀(n:Nat) {vs:List T} {ys:List V},Reps K H ys vs->Reps K H (ys.take n) (vs.take n)
 | 0,_,_,_=>by simpa using Ys
 | _+1,[],_,h=>by rw[J4 h];exact Ys
 | n+1,_::_,_,h=>by obtain⟨y,r,rfl,a,b⟩:=Yg h;exact Yf a (b.take n)
def Reps.drop:∀(n:Nat) {vs:List T} {ys:List V},Reps K H ys vs->Reps K H (ys.drop n) (vs.drop n)
 | 0,_,_,h=>h
 | _+1,[],_,h=>by rw[J4 h];exact Ys
 | n+1,_::_,_,h=>by obtain⟨y,r,rfl,a,b⟩:=Yg h;exact b.drop n
def Reps.set {y:V}{v:T}(q:Y7 K H y v):∀(n:Nat) {vs:List T} {ys:List V},Reps K H ys vs->Reps K H (ys.set n y) (vs.set n v)
 | _,[],_,h=>by rw[J4 h];exact Ys
 | 0,_::_,_,h=>by obtain⟨y,r,rfl,a,b⟩:=Yg h;exact Yf q b
 | n+1,_::_,_,h=>by obtain⟨y,r,rfl,a,b⟩:=Yg h;exact Yf a (b.set q n)
def Reps.dropLast {vs:List T}{ys:List V}(h:Reps K H ys vs):Reps K H ys.dropLast vs.dropLast:=by
 rw[List.dropLast_eq_take,List.dropLast_eq_take,h.length];exact h.take _
def Reps.snoc {vs:List T}{ys:List V}{y:V}{v:T}(h:Reps K H ys vs)(q:Y7 K H y v):Reps K H (ys++[y]) (vs++[v]):=h.app (Yf q Ys)
def Reps.reverse:∀{vs:List T} {ys:List V},Reps K H ys vs->Reps K H ys.reverse vs.reverse
 | [],_,h=>by rw[J4 h];exact Ys
 | _::_,_,h=>by obtain⟨y,r,rfl,a,b⟩:=Yg h;rw[List.reverse_cons,List.reverse_cons];exact b.reverse.snoc a
def Reps.at {vs:List T}{ys:List V}{i:Int}{v:T}(h:Reps K H ys vs)(e:Pf vs i=some v):∃y,Pf ys i=some y/\Y7 K H y v:=by
 unfold Pf at e |-
 rw[h.length]
 cases q:jD vs.length i with
 | none=>rw[q] at e;cases e
 | some j=>
  rw[q] at e
  exact h.get e
def Kj:∀ns:List Int,Reps K H (ns.map V.int) (ns.map T.int)
 | []=>Ys
 | n::r=>Yf Xb (Kj r)
end
abbrev PR (K:W.Frag)(H:Hp){κ:Type}(kvs:List (κ×V))(kws:List (κ×T)):Prop:=PySem.Paired (λp q=>p.1=q.1/\Y7 K H p.2 q.2) kvs kws
def Lx (K:W.Frag)(H:Hp)(a:Addr):O->Prop
 | .lst xs=>∃ys,H a=some (.lst ys)/\Reps K H ys xs
 | .dic kvs=>∃ks,H a=some (.dK ks)/\PR K H ks kvs
 | .ins cn fs=>∃Cl dx ks,W.nsIn K mainGlobals cn=some (some (.ref Cl))/\H a=some (.ins Cl dx ks)/\PR K H ks fs
 | .fdic kvs=>∃ks,Rd H a (.dK ks)/\PR K H ks kvs
def O.wr:O->Prop
 | .fdic _=>False
 | _=>True
structure Rl (K:W.Frag)(F H:Hp)(C:Hw):Prop where
 obj:∀a o,C a=some o->Lx K H a o
 frm:∀a o,F a=some o->H a=some o/\C a=none
def N5 {K:W.Frag}{H H':Hp}(t:Tx H H'){κ:Type}{ks:List (κ×V)}{kvs:List (κ×T)}(h:PR K H ks kvs):PR K H' ks kvs:=L2.Paired.mapP h λ_ _ z=>⟨z.1,z.2.tx t⟩
def Lx.stay {K:W.Frag}{H H':Hp}{a:Addr}{o:O}(h:Lx K H a o)(t:Tx H H')(e:H' a=H a):Lx K H' a o:=by
 cases o with
 | lst xs=>obtain⟨ys,q,r⟩:=h;exact⟨ys,e.trans q,r.tx t⟩
 | dic kvs=>obtain⟨ys,q,r⟩:=h;exact⟨ys,e.trans q,N5 t r⟩
 | ins C fs=>obtain⟨Cl,dx,ys,n,q,r⟩:=h;exact⟨Cl,dx,ys,n,e.trans q,N5 t r⟩
 | fdic kvs=>
  obtain⟨ys,q,r⟩:=h
  refine⟨ys,?_,N5 t r⟩
  rcases q with q | ⟨o,q⟩
  ·exact .inl (e.trans q)
  ·exact .inr ⟨o,e.trans q⟩
def Lx.some {K:W.Frag}{H:Hp}{a:Addr}{o:O}(h:Lx K H a o)(wr:o.wr):∃u,H a=some u/\¬mI u:=by
 cases o with
 | fdic kvs=>exact wr.elim
 | lst xs=>obtain⟨ys,q,r⟩:=h;exact⟨_,q,λz=>z⟩
 | dic kvs=>obtain⟨ys,q,r⟩:=h;exact⟨_,q,λz=>z⟩
 | ins C fs=>obtain⟨Cl,dx,ys,n,q,r⟩:=h;exact⟨_,q,λz=>z⟩
def Lx.here {K:W.Frag}{H:Hp}{a:Addr}{o:O}(h:Lx K H a o):∃u,H a=Option.some u:=by
 cases o with
 | fdic kvs=>
  obtain⟨ys,q,r⟩:=h
  rcases q with q | ⟨o,q⟩
  ·exact⟨_,q⟩
  ·exact⟨_,q⟩
 | lst xs=>obtain⟨ys,q,r⟩:=h;exact⟨_,q⟩
 | dic kvs=>obtain⟨ys,q,r⟩:=h;exact⟨_,q⟩
 | ins C fs=>obtain⟨Cl,dx,ys,n,q,r⟩:=h;exact⟨_,q⟩
section
variable {K:W.Frag}{F H:Hp}{C:Hw}
def Rl.free (R:Rl K F H C){p:Addr}(h:H p=none):C p=none:=by
 cases e:C p with
 | none=>rfl
 | some o=>obtain⟨u,q⟩:=(R.obj p o e).here;rw[h] at q;cases q
def Rl.lst (R:Rl K F H C){a:Addr}{xs:List T}(h:C a=some (.lst xs)):∃ys,H a=some (.lst ys)/\Reps K H ys xs:=R.obj a _ h
def Rl.new (R:Rl K F H C){p:Addr}{u:HO}{o:O}(h:H p=none)(r:Lx K (Yq H p u) p o):Rl K F (Yq H p u) (up C p o) where
 obj:=λa v e=>by
  by_cases q:a=p
  ·subst q;rw[Ze] at e;cases e;exact r
  ·rw[Zg q] at e
   exact(R.obj a v e).stay (Tx.new h) (Zy q)
 frm:=λa v e=>by
  have z:=R.frm a v e
  have q:a≠p:=Y5 z.1 h
  rw[Zy q,Zg q];exact z
def Rl.hid (R:Rl K F H C){p:Addr}{u:HO}(h:H p=none):Rl K F (Yq H p u) C where
 obj:=λa v e=>by
  obtain⟨w,q⟩:=(R.obj a v e).here
  exact(R.obj a v e).stay (Tx.new h) (Zy (Y5 q h))
 frm:=λa v e=>by
  have z:=R.frm a v e
  rw[Zy (Y5 z.1 h)];exact z
def Rl.put (R:Rl K F H C){p:Addr}{u:HO}{o o':O}(h:C p=some o)(r:Lx K (Yq H p u) p o')(wr:o.wr:=by trivial):Rl K F (Yq H p u) (up C p o')/\Tx H (Yq H p u):=by
 obtain⟨w,hw,ns⟩:=(R.obj p o h).some wr
 have t:Tx H (Yq H p u):=Tx.put hw ns
 refine⟨⟨λa v e=>?_,λa v e=>?_⟩,t⟩
 ·by_cases q:a=p
  ·subst q;rw[Ze] at e;cases e;exact r
  ·rw[Zg q] at e
   exact(R.obj a v e).stay t (Zy q)
 ·have z:=R.frm a v e
  have q:a≠p:=λy=>by subst y;rw[h] at z;cases z.2
  rw[Zy q,Zg q];exact z
def Rl.putL (R:Rl K F H C){p:Addr}{xs xs':List T}{ys':List V}(h:C p=some (.lst xs))(r:Reps K H ys' xs'):Rl K F (Yq H p (.lst ys')) (up C p (.lst xs'))/\Tx H (Yq H p (.lst ys')):=by
 obtain⟨w,hw,ns⟩:=(R.obj p _ h).some trivial
 exact R.put h ⟨ys',Z9,r.tx (Tx.put hw ns)⟩
def Rl.newL (R:Rl K F H C){p:Addr}{xs:List T}{ys:List V}(h:H p=none)(r:Reps K H ys xs):Rl K F (Yq H p (.lst ys)) (up C p (.lst xs)):=R.new h ⟨ys,Z9,r.tx (Tx.new h)⟩
end
abbrev Sw:=List (Option T)
abbrev WK:=T->Hw->Prop
structure Xn where
 cls:Str
 fs:List (Str×T)
abbrev WX:=Xn->Hw->Prop
abbrev WE:=Sw->Hw->WK->WX->Prop
abbrev WT:=Sw->Hw->(Bool->Hw->Prop)->WX->Prop
abbrev WA:=Sw->Hw->(List T->Hw->Prop)->WX->Prop
structure We where
 nx:Sw->Hw->Prop
 rt:WK
 bk:Sw->Hw->Prop:=λ_ _=>False
 ct:Sw->Hw->Prop:=λ_ _=>False
 xc:WX:=λ_ _=>False
abbrev WS:=We->Sw->Hw->Prop
abbrev WG:=T->Sw->Hw->(Sw->Hw->Prop)->WX->Prop
abbrev xA:=List T->Sw->Hw->(Sw->Hw->Prop)->WX->Prop
abbrev WI:=Sw->Hw->(List T->(Hw->Prop)->Hw->Prop)->WX->Prop
abbrev W2:=T->T->Hw->WK->Prop
abbrev Calls:=Nat->List T->Hw->WK->WX->Prop
def Y0 (i:Nat):WE:=λτ C Q _=>∃v,τ[i]?=some (some v)/\Q v C
def eC (v:T):WE:=λ_ C Q _=>Q v C
def Wi (r:W2)(a b:WE):WE:=λτ C Q χ=>a τ C (λx C1=>b τ C1 (λy C2=>r x y C2 Q) χ) χ
def kB (r:T->Hw->WK->Prop)(a:WE):WE:=λτ C Q χ=>a τ C (λx C1=>r x C1 Q) χ
def Zw:WA:=λ_ C Q _=>Q [] C
def Ya (a:WE)(r:WA):WA:=λτ C Q χ=>a τ C (λx C1=>r τ C1 (λxs C2=>Q (x::xs) C2) χ) χ
def O0 (a:WA):WE:=λτ C Q χ=>a τ C (λxs C1=>xs.length<=sizeLine/\Q (.tup xs) C1) χ
def Co (a:WA):WE:=λτ C Q χ=>a τ C (λxs C1=>xs.length<=sizeLine/\∀p,C1 p=none->Q (.ref p) (up C1 p (.lst xs))) χ
def Sv (P:Calls)(i:Nat)(a:WA):WE:=λτ C Q χ=>a τ C (λxs C1=>P i xs C1 Q χ) χ
def sK (r:List T->Hw->WK->Prop)(a:WA):WE:=λτ C Q χ=>a τ C (λxs C1=>r xs C1 Q) χ
def mr (ty:T->Hw->Prop)(r:T->List T->Hw->WK->Prop)(o:WE)(a:WA):WE:=λτ C Q χ=>o τ C (λx C1=>ty x C1/\a τ C1 (λxs C2=>r x xs C2 Q) χ) χ
def mv (c:WT)(a b:WE):WE:=λτ C Q χ=>c τ C (λk C1=>if k=true then a τ C1 Q χ else b τ C1 Q χ) χ
def sL (a b:WE):WE:=λτ C Q χ=>a τ C (λx C1=>∃k,x=.bl k/\if k=true then b τ C1 Q χ else Q (.bl false) C1) χ
def kC (a b:WE):WE:=λτ C Q χ=>a τ C (λx C1=>∃k,x=.bl k/\if k=true then Q (.bl true) C1 else b τ C1 Q χ) χ
def mq (a:WE):WE:=λτ C Q χ=>a τ C (λx C1=>∃k,x=.bl k/\Q (.bl (!k)) C1) χ
def ox:T->Hw->Bool->Prop
 | .non,_,k=>k=false
 | .bl b,_,k=>k=b
 | .int i,_,k=>k=(i !=0)
 | .str y,_,k=>y.length<=sizeLine/\k=((y.length:Int) !=0)
 | .tup xs,_,k=>k=!xs.isEmpty
 | .cl xs,_,k=>k=!xs.isEmpty
 | .ref a,C,k=>(∃xs,C a=some (.lst xs)/\k=!xs.isEmpty)\/∃kvs,C a=some (.dic kvs)/\k=!kvs.isEmpty
def uD (a:WE):WT:=λτ C Q χ=>a τ C (λx C1=>∃k,ox x C1 k/\Q k C1) χ
def yN (a:WE):WT:=λτ C Q χ=>a τ C (λx C1=>∃k,x=.bl k/\Q k C1) χ
def nD (a b:WT):WT:=λτ C Q χ=>a τ C (λk C1=>if k=true then b τ C1 Q χ else Q false C1) χ
def yJ (a b:WT):WT:=λτ C Q χ=>a τ C (λk C1=>if k=true then Q true C1 else b τ C1 Q χ) χ
def lN (a:WT):WT:=λτ C Q χ=>a τ C (λk C1=>Q (!k) C1) χ
def sJ (r r':W2)(a b c:WE):WE:=λτ C Q χ=>a τ C (λx C1=>b τ C1 (λy C2=>r x y C2 λz C3=>∃k,z=.bl k/\(if k=true then c τ C3 (λw C4=>r' y w C4 Q) χ else Q (.bl false) C3)) χ) χ
def G2:W2
 | .int i,.int j,C,Q=>Q (.int (i+j)) C
 | .str i,.str j,C,Q=>i.length+j.length<=sizeLine/\Q (.str (i++j)) C
 | .tup xs,.tup ys,C,Q=>xs.length+ys.length<=sizeLine/\Q (.tup (xs++ys)) C
 | .ref a,.ref b,C,Q=>∃xs ys,C a=some (.lst xs)/\C b=some (.lst ys)/\xs.length+ys.length<=sizeLine/\∀p,C p=none->Q (.ref p) (up C p (.lst (xs++ys)))
 | _,_,_,_=>False
def u6:W2
 | .int i,.int j,C,Q=>Q (.int (i-j)) C
 | _,_,_,_=>False
def ni:W2
 | .int i,.int j,C,Q=>mU i j/\Q (.int (i*j)) C
 | _,_,_,_=>False
def rX:W2
 | .int i,.int j,C,Q=>ow i j/\Q (.int (i/j)) C
 | _,_,_,_=>False
def rV:W2
 | .int i,.int j,C,Q=>0<j/\Q (.int (i%j)) C
 | _,_,_,_=>False
def rT:W2
 | .int i,.int j,C,Q=>ou i j/\Q (.int (i^j.toNat)) C
 | _,_,_,_=>False
def ng:T->Hw->WK->Prop
 | .int i,C,Q=>Q (.int (-i)) C
 | _,_,_=>False
def mW:W2
 | .int i,.int j,C,Q=>Q (.bl (decide (i<j))) C
 | .str i,.str j,C,Q=>Q (.bl (decide (i.cps.toList<j.cps.toList))) C
 | _,_,_,_=>False
def lH:W2
 | .int i,.int j,C,Q=>Q (.bl (decide (i<=j))) C
 | _,_,_,_=>False
def mX:W2
 | .int i,.int j,C,Q=>Q (.bl (decide (j<i))) C
 | _,_,_,_=>False
def lJ:W2
 | .int i,.int j,C,Q=>Q (.bl (decide (j<=i))) C
 | _,_,_,_=>False
mutual
def Jh:T->T->Bool
 | .non,.non=>true
 | .bl a,.bl b=>a==b
 | .bl a,.int b=>(if a then 1 else 0)==b
 | .int a,.bl b=>a==(if b then 1 else 0)
 | .int a,.int b=>a==b
 | .str a,.str b=>a==b
 | .tup xs,.tup ys=>Tj xs ys
 | _,_=>false
def Tj:List T->List T->Bool
 | [],[]=>true
 | x::xs,y::ys=>Jh x y&&Tj xs ys
 | _,_=>false
end
mutual
def Je:T->Nat->Bool
 | .tup xs,n+1=>Yp xs n
 | .tup _,0=>false
 | .ref _,_=>false
 | .cl _,_=>false
 | _,_=>true
def Yp:List T->Nat->Bool
 | [],_=>true
 | x::xs,n=>Je x n&&Yp xs n
end
def Ul:Nat:=100
def Yz (x:T):Prop:=Je x Ul=true
def Nt (neg:Bool):W2
 | .ref a,.ref b,C,Q=>∃xs ys,C a=some (.lst xs)/\C b=some (.lst ys)/\(xs.length=ys.length->Yp xs Ul=true/\Yp ys Ul=true)/\Q (.bl (if neg then !Tj xs ys else Tj xs ys)) C
 | .ref a,y,C,Q=>(∃xs,C a=some (.lst xs))/\Yz y/\Q (.bl neg) C
 | x,.ref b,C,Q=>(∃ys,C b=some (.lst ys))/\Yz x/\Q (.bl neg) C
 | x,y,C,Q=>Yz x/\Yz y/\Q (.bl (if neg then !Jh x y else Jh x y)) C
abbrev E7:W2:=Nt false
abbrev mV:W2:=Nt true
def rW:W2:=λx y C Q=>y=.non/\Q (.bl (match x with | .non=>true | _=>false)) C
def rU:W2:=λx y C Q=>y=.non/\Q (.bl (match x with | .non=>false | _=>true)) C
def Kq (x:T)(xs:List T):Bool:=xs.any λy=>Jh y x
def u8 (neg:Bool):W2
 | .str i,.str j,C,Q=>Q (.bl (if neg then(!(!(Builtin.Str.occurrences j i 0 j.length 1).isEmpty)) else(!(Builtin.Str.occurrences j i 0 j.length 1).isEmpty))) C
 | x,.tup ys,C,Q=>Yz x/\Yp ys Ul=true/\Q (.bl (if neg then !Kq x ys else Kq x ys)) C
 | x,.cl ys,C,Q=>Yz x/\Yp ys Ul=true/\Q (.bl (if neg then !Kq x ys else Kq x ys)) C
 | x,.ref a,C,Q=>∃ys,C a=some (.lst ys)/\Yz x/\Yp ys Ul=true/\Q (.bl (if neg then !Kq x ys else Kq x ys)) C
 | _,_,_,_=>False
abbrev lI:W2:=u8 false
abbrev y9:W2:=u8 true
def Pd {α:Type}(xs:List α)(lo hi:Option Int):List α:=(xs.drop (HT.sIx xs.length 0 lo)).take (HT.sIx xs.length xs.length hi-HT.sIx xs.length 0 lo)
def Lf:W2
 | .tup xs,.int i,C,Q=>∃v,Pf xs i=some v/\Q v C
 | .cl xs,.int i,C,Q=>∃v,Pf xs i=some v/\Q v C
 | .str z,.int i,C,Q=>z.length<=sizeLine/\∃c,Pf z.cps.toList i=some c/\Q (.str ⟨#[c]⟩) C
 | .ref a,.int i,C,Q=>∃xs v,C a=some (.lst xs)/\Pf xs i=some v/\Q v C
 | _,_,_,_=>False
def oB:Sw->Hw->(Option Int->Hw->Prop)->WX->Prop:=λ_ C Q _=>Q none C
def B4 (a:WE):Sw->Hw->(Option Int->Hw->Prop)->WX->Prop:=λτ C Q χ=>a τ C (λx C1=>∃i,x=.int i/\Q (some i) C1) χ
def oZ:T->Option Int->Option Int->Hw->WK->Prop
 | .tup xs,lo,hi,C,Q=>¬(HT.sIx xs.length 0 lo=0/\HT.sIx xs.length xs.length hi=xs.length)/\Q (.tup (Pd xs lo hi)) C
 | .cl xs,lo,hi,C,Q=>∀p,C p=none->Q (.ref p) (up C p (.lst (Pd xs lo hi)))
 | .str z,lo,hi,C,Q=>z.length<=sizeLine/\Q (.str (Txt.slice z lo hi)) C
 | .ref a,lo,hi,C,Q=>∃xs,C a=some (.lst xs)/\∀p,C p=none->Q (.ref p) (up C p (.lst (Pd xs lo hi)))
 | _,_,_,_,_=>False
def oF (a:WE)(lo hi:Sw->Hw->(Option Int->Hw->Prop)->WX->Prop):WE:=λτ C Q χ=>a τ C (λx C1=>lo τ C1 (λl C2=>hi τ C2 (λh C3=>oZ x l h C3 Q) χ) χ) χ
def pV:List T->Hw->WK->Prop:=λvs C Q=>∃x,vs=[x]/\match x with
 | .str z=>z.length<=sizeLine/\Q (.int z.length) C
 | .tup xs=>Q (.int xs.length) C
 | .cl xs=>Q (.int xs.length) C
 | .ref a=>∃xs,C a=some (.lst xs)/\Q (.int xs.length) C
 | _=>False
def mC:List T->Hw->WK->Prop:=λvs C Q=>∃i j,vs=[.int i,.int j]/\Q (.int (if j>i then j else i)) C
def mB:List T->Hw->WK->Prop:=λvs C Q=>∃i j,vs=[.int i,.int j]/\Q (.int (if j<i then j else i)) C
def Gp:List T->Hw->WK->Prop:=λvs C Q=>∃x,vs=[x]/\match x with
 | .tup xs=>Q (.tup xs) C
 | .cl xs=>Q (.tup xs) C
 | .ref a=>∃xs,C a=some (.lst xs)/\Q (.tup xs) C
 | _=>False
def ur:List T->Hw->WK->Prop:=λvs C Q=>∃x,vs=[x]/\match x with
 | .tup xs=>∀p,C p=none->Q (.ref p) (up C p (.lst xs))
 | .cl xs=>∀p,C p=none->Q (.ref p) (up C p (.lst xs))
 | .ref a=>∃xs,C a=some (.lst xs)/\∀p,C p=none->Q (.ref p) (up C p (.lst xs))
 | _=>False
def rZ:T->Hw->String->Prop
 | .non,_,n=>n="NoneType"
 | .bl _,_,n=>n="bool"
 | .int _,_,n=>n="int"
 | .str _,_,n=>n="str"
 | .tup _,_,n=>n="tuple"
 | .cl _,_,n=>n="list"
 | .ref a,C,n=>(n="list"/\∃xs,C a=some (.lst xs))\/(n="dict"/\∃kvs,C a=some (.dic kvs))
def Ag (n c:String):Bool:=n==c||(n=="bool"&&c=="int")
def pH (a:WE)(c:String):WE:=λτ C Q χ=>a τ C (λx C1=>∃n,rZ x C1 n/\Q (.bl (Ag n c)) C1) χ
def qa:T->Hw->Prop:=λx C=>∃a xs,x=.ref a/\C a=some (.lst xs)
def lK:T->Hw->Prop:=λx _=>∃z,x=.str z
def B7:T->List T->Hw->WK->Prop:=λx vs C Q=>∃a xs y,x=.ref a/\vs=[y]/\C a=some (.lst xs)/\xs.length<sizeLine/\Q .non (up C a (.lst (xs++[y])))
def px:T->List T->Hw->WK->Prop:=λx vs C Q=>∃a xs y,x=.ref a/\vs=[]/\C a=some (.lst xs)/\xs[xs.length-1]?=some y/\Q y (up C a (.lst xs.dropLast))
def tS:T->List T->Hw->WK->Prop:=λx vs C Q=>∃a xs i k y,x=.ref a/\vs=[.int i]/\C a=some (.lst xs)/\ -(2^63)<=i/\i<2^63/\seqIndex? i xs.length=some k/\xs[k]?=some y/\Q y (up C a (.lst (xs.eraseIdx k)))
def zO (i:Nat):WG:=λv τ C Q _=>Q (τ.set i (some v)) C
def Eg:xA:=λvs τ C Q _=>vs=[]/\Q τ C
def Oa (g:WG)(gs:xA):xA:=λvs τ C Q χ=>∃v r,vs=v::r/\g v τ C (λτ' C'=>gs r τ' C' Q χ) χ
def oE (gs:xA):WG:=λv τ C Q χ=>∃xs,v=.tup xs/\gs xs τ C Q χ
def lB (o i:WE):WG:=λv τ C Q χ=>o τ C (λx C1=>i τ C1 (λy C2=>∃a xs k j,x=.ref a/\y=.int k/\C2 a=some (.lst xs)/\jD xs.length k=some j/\Q τ (up C2 a (.lst (xs.set j v)))) χ) χ
def So:WS:=λD τ C=>D.nx τ C
def Px (a b:WS):WS:=λD τ C=>a {D with nx:=b D} τ C
def Fj (e:WE):WS:=λD τ C=>e τ C (λ_ C1=>D.nx τ C1) D.xc
def Iz (e:WE):WS:=λD τ C=>e τ C D.rt D.xc
def qE:WS:=λD _ C=>D.rt .non C
def wx (c:WT)(a b:WS):WS:=λD τ C=>c τ C (λk C1=>if k=true then a D τ C1 else b D τ C1) D.xc
def Dh (e:WE)(g:WG):WS:=λD τ C=>e τ C (λx C1=>g x τ C1 D.nx D.xc) D.xc
def nI:WS:=λD τ C=>D.bk τ C
def vY:WS:=λD τ C=>D.ct τ C
def Dg:WS:=λ_ _ _=>False
def Ch (g:WG)(b:WS)(ok:Hw->Prop)(D:We):List T->Sw->Hw->Prop
 | [],τ,C=>ok C/\D.nx τ C
 | x::xs,τ,C=>ok C/\g x τ C (λτ2 C2=>b {D with nx:=Ch g b ok D xs,ct:=Ch g b ok D xs,bk:=D.nx} τ2 C2) D.xc
def wz (i:WI)(g:WG)(b:WS):WS:=λD τ C=>i τ C (λxs ok C1=>Ch g b ok D xs τ C1) D.xc
def jJ (e:WE):WI:=λτ C R χ=>e τ C (λv C1=>match v with
 | .tup xs=>R xs (λ_=>True) C1
 | .cl xs=>R xs (λ_=>True) C1
 | .str z=>R (z.cps.toList.map λc=>T.str ⟨#[c]⟩) (λ_=>True) C1
 | .ref a=>∃xs,C1 a=some (.lst xs)/\R xs (λC2=>C2 a=some (.lst xs)) C1
 | _=>False) χ
def rng (lo:Int)(n:Nat):List T:=(List.range n).map λk:Nat=>T.int (lo+k)
def kx (a:WA):WI:=λτ C R χ=>a τ C (λvs C1=>∃j:Int,vs=[.int j]/\ -(2^62)<=j/\j<2^62/\R (rng 0 j.toNat) (λ_=>True) C1) χ
def ku (a:WA):WI:=λτ C R χ=>a τ C (λvs C1=>∃i j:Int,vs=[.int i,.int j]/\(-(2^62)<=i/\i<2^62/\ -(2^62)<=j/\j<2^62)/\R (rng i (j-i).toNat) (λ_=>True) C1) χ
def ky (a:WA):WI:=λτ C R χ=>a τ C (λvs C1=>∃z,vs=[.str z]/\R (z.cps.toList.zipIdx.map λc=>T.tup [.int c.2,.str ⟨#[c.1]⟩]) (λ_=>True) C1) χ
def Ge (cap:List (Option Nat))(τ:Sw):Sw:=cap.map λo=>o.bind λi=>(τ[i]?).join
def yF:WT:=λ_ C Q _=>Q true C
def Oo (g:WG)(c:WT)(e:WE)(ok:Hw->Prop)(τ:Sw)(Q:List T->Hw->Prop)(χ:WX):List T->List T->Hw->Prop
 | [],acc,C=>ok C/\Q acc C
 | x::xs,acc,C=>ok C/\g x τ C (λτ2 C2=>c τ2 C2 (λb C3=>if b=true then e τ2 C3 (λv C4=>acc.length<sizeLine/\Oo g c e ok τ Q χ xs (acc++[v]) C4) χ else Oo g c e ok τ Q χ xs acc C3) χ) χ
def Kt (cap:List (Option Nat))(i:WI)(g:WG)(c:WT)(e:WE):WE:=λτ C Q χ=>i τ C (λxs ok C1=>Oo g c e ok (Ge cap τ) (λvs C2=>∀p,C2 p=none->Q (.ref p) (up C2 p (.lst vs))) χ xs [] C1) χ
structure Df where
 n:Nat
 ar:Nat
 body:Calls->WS
def Ye (pr:List Df):Nat->Calls
 | 0=>λ_ _ _ _ _=>False
 | n+1=>λi vs C Q χ=>∃d,pr[i]?=some d/\vs.length=d.ar/\d.body (Ye pr n) {nx:=λ_ C'=>Q .non C',rt:=Q,xc:=χ} (vs.map some++List.replicate (d.n-d.ar) none) C
section
variable {X:Cx}{pins:List (Addr×Obj)}{σ:L2.St}{H:Hp}{s:Shared}
def sc:T->Option V
 | .non=>some .non
 | .bl b=>some (.bl b)
 | .int i=>some (.int i)
 | .str z=>some (.str z)
 | _=>none
def X3 {K:W.Frag}{H:Hp}{x z:V}{v:T}(h:sc v=some z)(r:Y7 K H x v):x=z/\Ei z=true:=by
 cases v with
 | non=>cases h;exact⟨Qf r,rfl⟩
 | bl b=>cases h;exact⟨Q1 r,rfl⟩
 | int i=>cases h;exact⟨Ym r,rfl⟩
 | str z=>cases h;exact⟨Jl r,rfl⟩
 | _=>cases h
def jZ {v w:T}{a b:V}(h:sc v=some a)(h':sc w=some b):Jh v w=sH a b:=by
 cases v<;>cases w<;>cases h<;>cases h'<;>unfold Jh<;>rfl
mutual
def Su:∀(v:T) {n:Nat},Je v n=true->Jh v v=true
 | .non,_,_=>by unfold Jh;rfl
 | .bl b,_,_=>by unfold Jh;simp
 | .int b,_,_=>by unfold Jh;simp
 | .str b,_,_=>by unfold Jh;simp
 | .tup xs,0,h=>by unfold Je at h;cases h
 | .tup xs,n+1,h=>by unfold Je at h;unfold Jh;exact Ob xs h
 | .ref a,_,h=>by unfold Je at h;cases h
 | .cl a,_,h=>by unfold Je at h;cases h
def Ob:∀(v:List T) {n:Nat},Yp v n=true->Tj v v=true
 | [],_,_=>by unfold Tj;rfl
 | x::xs,n,h=>by
  unfold Yp at h
  rw[Bool.and_eq_true] at h
  unfold Tj
  rw[Su x h.1,Ob xs h.2];rfl
end
def J0 {v:T}{n:Nat}(h:Je v n=true)(e:sc v=none):∃ts m,v=.tup ts/\n=m+1/\Yp ts m=true:=by
 cases v with
 | tup ts=>
  cases n with
  | zero=>unfold Je at h;cases h
  | succ m=>unfold Je at h;exact⟨ts,m,rfl,rfl,h⟩
 | ref a=>unfold Je at h;cases h
 | cl a=>unfold Je at h;cases h
 | non=>cases e
 | bl b=>cases e
 | int b=>cases e
 | str b=>cases e
def Xh:∀{vs:List T} {n i:Nat} {v:T},Yp vs n=true->vs[i]?=some v->Je v n=true
 | [],_,_,_,_,e=>by simp at e
 | x::xs,n,0,v,h,e=>by
  unfold Yp at h
  rw[Bool.and_eq_true] at h
  simp at e;subst e;exact h.1
 | x::xs,n,i+1,v,h,e=>by
  unfold Yp at h
  rw[Bool.and_eq_true] at h
  exact Xh h.2 (by simpa using e)
def O9 (I:Zp X pins σ H s):∀(n:Nat) {v w:T} {x:V},Je v n=true->Je w n=true->Y7 X.K H x v->Y7 X.K H x w->v=w:=by
 intro n
 induction n with
 | zero=>
  intro v w x fv fw rv rw'
  cases ev:sc v with
  | none=>obtain⟨_,_,_,h,_⟩:=J0 fv ev;cases h
  | some a=>
   cases ew:sc w with
   | none=>obtain⟨_,_,_,h,_⟩:=J0 fw ew;cases h
   | some b=>
    obtain⟨e1,_⟩:=X3 ev rv
    obtain⟨e2,_⟩:=X3 ew rw'
    have e:a=b:=e1.symm.trans e2
    subst e
    cases v<;>cases ev<;>cases w<;>cases ew<;>rfl
 | succ n ih=>
  intro v w x fv fw rv rw'
  have lists:∀{ys:List V} {vs ws:List T},Yp vs n=true->Yp ws n=true->Reps X.K H ys vs->Reps X.K H ys ws->vs=ws:=by
   intro ys vs
   induction vs generalizing ys with
   | nil=>
    intro ws _ _ a b
    have:=J4 a
    subst this
    cases ws with
    | nil=>rfl
    | cons w ws=>obtain⟨_,_,e,_⟩:=Yg b;cases e
   | cons v vs ihv=>
    intro ws fa fb a b
    obtain⟨y,r,rfl,a1,a2⟩:=Yg a
    cases ws with
    | nil=>have:=J4 b;cases this
    | cons w ws=>
     obtain⟨y',r',e,b1,b2⟩:=Yg b
     cases e
     unfold Yp at fa fb
     rw[Bool.and_eq_true] at fa fb
     rw[ih fa.1 fb.1 a1 b1,ihv fa.2 fb.2 a2 b2]
  cases ev:sc v with
  | none=>
   obtain⟨ts,m,rfl,em,ft⟩:=J0 fv ev
   cases em
   obtain⟨a,ys,rfl,hq,r⟩:=Z6 rv
   cases ew:sc w with
   | none=>
    obtain⟨us,m',rfl,em,fu⟩:=J0 fw ew
    cases em
    obtain⟨b,zs,e,hq',r'⟩:=Z6 rw'
    cases e
    have e:=I.tuple_inj hq hq'
    subst e
    rw[lists ft fu r r']
   | some b=>
    obtain⟨e2,f⟩:=X3 ew rw'
    subst e2
    cases f
  | some a=>
   obtain⟨e1,f⟩:=X3 ev rv
   cases ew:sc w with
   | none=>
    obtain⟨us,m',rfl,em,fu⟩:=J0 fw ew
    obtain⟨b,zs,e,hq',r'⟩:=Z6 rw'
    subst e1
    subst e
    cases f
   | some b=>
    obtain⟨e2,_⟩:=X3 ew rw'
    have e:a=b:=e1.symm.trans e2
    subst e
    cases v<;>cases ev<;>cases w<;>cases ew<;>rfl
def xJ (ts us:List T)(j:Nat):Bool:=match ts[j]?,us[j]? with
 | some a,some b=>Jh a b
 | _,_=>true
def Vu:∀(vs ws:List T),((List.range (min vs.length ws.length)).all (xJ vs ws)&&vs.length==ws.length)=Tj vs ws
 | [],[]=>by unfold Tj;rfl
 | [],_::_=>by unfold Tj;simp
 | _::_,[]=>by unfold Tj;simp
 | v::vs,w::ws=>by
  unfold Tj
  rw[<-Vu vs ws]
  rw[YF,YF,show min (vs.length+1) (ws.length+1)=min vs.length ws.length+1 by omega,List.range_succ_eq_map,List.all_cons,List.all_map]
  have e1:xJ (v::vs) (w::ws) 0=Jh v w:=rfl
  have e2:(xJ (v::vs) (w::ws)∘Nat.succ)=xJ vs ws:=by funext j;simp[Function.comp_def,xJ]
  rw[e1,e2]
  simp[Bool.and_assoc]
def Am (I:Zp X pins σ H s):∀(n:Nat) {v w:T} {x y:V} {u u':Value} {A:Around},Je v n=true->Je w n=true->Y7 X.K H x v->Y7 X.K H y w->Z0 x u->Z0 y u'->A.units+n<cLine->
  SeqAt.EqAt A s u u' (Jh v w):=by
 intro n
 induction n with
 | zero=>
  intro v w x y u u' A fv fw rv rw' ru ru' hu
  cases ev:sc v with
  | none=>obtain⟨_,_,_,h,_⟩:=J0 fv ev;cases h
  | some a=>
   cases ew:sc w with
   | none=>obtain⟨_,_,_,h,_⟩:=J0 fw ew;cases h
   | some b=>
    obtain⟨rfl,f1⟩:=X3 ev rv
    obtain⟨rfl,f2⟩:=X3 ew rw'
    rw[jZ ev ew]
    exact xa ru ru' f1 f2
 | succ n ih=>
  intro v w x y u u' A fv fw rv rw' ru ru' hu
  have hu0:A.units<cLine:=by omega
  cases ev:sc v with
  | some a=>
   obtain⟨rfl,f1⟩:=X3 ev rv
   cases ew:sc w with
   | some b=>
    obtain⟨rfl,f2⟩:=X3 ew rw'
    rw[jZ ev ew]
    exact xa ru ru' f1 f2
   | none=>
    obtain⟨ts,m,rfl,em,ft⟩:=J0 fw ew
    obtain⟨b,zs,rfl,hq,r⟩:=Z6 rw'
    cases ru'
    obtain⟨its,_,p,_⟩:=I.tuple hq
    cases v with
    | non=>cases ev;cases ru;unfold Jh;exact SeqAt.EqAt.none_tuple p hu0
    | bl c=>cases ev;cases ru;unfold Jh;exact SeqAt.EqAt.bool_tuple c p hu0
    | int i=>cases ev;obtain⟨t,rfl⟩:=ru;unfold Jh;exact SeqAt.EqAt.int_tuple i t p hu0
    | str i=>cases ev;obtain⟨t,rfl⟩:=ru;unfold Jh;exact SeqAt.EqAt.str_tuple i t p hu0
    | _=>cases ev
  | none=>
   obtain⟨ts,m,rfl,em,ft⟩:=J0 fv ev
   cases em
   obtain⟨a,ys,rfl,hq,r⟩:=Z6 rv
   cases ru
   obtain⟨its,rI,p,_⟩:=I.tuple hq
   cases ew:sc w with
   | some b=>
    obtain⟨rfl,f2⟩:=X3 ew rw'
    cases w with
    | non=>cases ew;cases ru';unfold Jh;exact SeqAt.EqAt.tuple_none p hu0
    | bl c=>cases ew;cases ru';unfold Jh;exact SeqAt.EqAt.tuple_bool c p hu0
    | int i=>cases ew;obtain⟨t,rfl⟩:=ru';unfold Jh;exact SeqAt.EqAt.tuple_int i t p hu0
    | str i=>cases ew;obtain⟨t,rfl⟩:=ru';unfold Jh;exact SeqAt.EqAt.tuple_str i t p hu0
    | _=>cases ew
   | none=>
    obtain⟨us,m',rfl,em,fu⟩:=J0 fw ew
    cases em
    obtain⟨b,zs,rfl,hq',r'⟩:=Z6 rw'
    cases ru'
    obtain⟨its',rI',p',_⟩:=I.tuple hq'
    by_cases hne:a=b
    ·subst hne
     have e:=O9 I (n+1) fv fw (Jq hq r) (Jq hq' r')
     rw[e,Su _ fw]
     exact SeqAt.EqAt.same _
    ·have l1:its.toArray.size=ts.length:=by rw[XJ,<-rI.length,r.length]
     have l2:its'.toArray.size=us.length:=by rw[XJ,<-rI'.length,r'.length]
     have key:=SeqAt.EqAt.of_refs hne (SeqAt.RcAt.tuples (A:=A) (e:=xJ ts us) p p' hu0 (λj h1 h2=>by
      have i1:ts[j]?=some (ts[j]'(by omega)):=by simp[l1▸h1]
      have i2:us[j]?=some (us[j]'(by omega)):=by simp[l2▸h2]
      obtain⟨x1,g1,q1⟩:=r.get i1
      obtain⟨x2,g2,q2⟩:=r'.get i2
      obtain⟨u1,k1,z1⟩:=rI.get g1
      obtain⟨u2,k2,z2⟩:=rI'.get g2
      have e1:its.toArray[j]=u1:=by
       have:its[j]?=some its.toArray[j]:=by simp
       rw[k1] at this;exact(YH this).symm
      have e2:its'.toArray[j]=u2:=by
       have:its'[j]?=some its'.toArray[j]:=by simp
       rw[k2] at this;exact(YH this).symm
      rw[e1,e2]
      unfold xJ
      simp only[i1,i2]
      exact ih (Xh ft i1) (Xh fu i2) q1 q2 z1 z2 (by show A.units+1+n<cLine;omega)))
     rw[l1,l2,Vu] at key
     unfold Jh
     exact key
end
def J6 (K:W.Frag)(H:Hp)(σ:L2.St)(τ:Sw):Prop:=σ.length=τ.length/\∀(i:Nat) (v:T),τ[i]?=some (some v)->∃x,σ[i]?=some (some x)/\Y7 K H x v
def J6.tx {K:W.Frag}{H H':Hp}{σ:L2.St}{τ:Sw}(h:J6 K H σ τ)(t:Tx H H'):J6 K H' σ τ:=⟨h.1,λi v e=>let ⟨x,a,b⟩:=h.2 i v e;⟨x,a,b.tx t⟩⟩
def J6.set {K:W.Frag}{H:Hp}{σ:L2.St}{τ:Sw}(h:J6 K H σ τ){i:Nat}{x:V}{v:T}(r:Y7 K H x v):J6 K H (σ.set i (some x)) (τ.set i (some v)):=by
 refine⟨by rw[List.length_set,List.length_set];exact h.1,λj w e=>?_⟩
 by_cases hj:i=j
 ·subst hj
  by_cases hi:i<τ.length
  ·rw[List.getElem?_set_self hi] at e
   cases e
   exact⟨x,List.getElem?_set_self (by rw[h.1];exact hi),r⟩
  ·rw[List.getElem?_eq_none (by rw[List.length_set];omega)] at e
   cases e
 ·rw[List.getElem?_set_ne hj] at e |-
  exact h.2 j w e
abbrev QE (K:W.Frag)(F H:Hp)(Q:VK)(Q':WK):Prop:=∀x v H' C',Rl K F H' C'->Tx H H'->Y7 K H' x v->Q' v C'->Q x H'
abbrev QT (K:W.Frag)(F H:Hp)(Q:Bool->Hp->Prop)(Q':Bool->Hw->Prop):Prop:=∀b H' C',Rl K F H' C'->Tx H H'->Q' b C'->Q b H'
abbrev QA (K:W.Frag)(F H:Hp)(Q:List V->Hp->Prop)(Q':List T->Hw->Prop):Prop:=∀xs vs H' C',Rl K F H' C'->Tx H H'->Reps K H' xs vs->Q' vs C'->Q xs H'
def QE.at {K:W.Frag}{F H H1:Hp}{Q:VK}{Q':WK}(q:QE K F H Q Q')(t:Tx H H1):QE K F H1 Q Q':=λx v H' C' R t'=>q x v H' C' R (t.trans t')
def Uz (K:W.Frag)(te:TE)(we:WE):Prop:=∀(F H:Hp) (C:Hw) (σ:L2.St) (τ:Sw) (Q:VK) (Q':WK) (χ:WX),Rl K F H C->J6 K H σ τ->we τ C Q' χ->QE K F H Q Q'->te σ H Q
def Od (K:W.Frag)(te:TT)(we:WT):Prop:=∀(F H:Hp) (C:Hw) (σ:L2.St) (τ:Sw) (Q:Bool->Hp->Prop) (Q':Bool->Hw->Prop) (χ:WX),Rl K F H C->J6 K H σ τ->we τ C Q' χ->QT K F H Q Q'->te σ H Q
def Bb (K:W.Frag)(te:TA)(we:WA):Prop:=∀(F H:Hp) (C:Hw) (σ:L2.St) (τ:Sw) (Q:List V->Hp->Prop) (Q':List T->Hw->Prop) (χ:WX),Rl K F H C->J6 K H σ τ->we τ C Q' χ->QA K F H Q Q'->te σ H Q
def rA (K:W.Frag)(r:R2)(w:W2):Prop:=∀(F H:Hp) (C:Hw) (x y:V) (v u:T) (Q:VK) (Q':WK),Rl K F H C->Y7 K H x v->Y7 K H y u->w v u C Q'->QE K F H Q Q'->r x y H Q
def og (K:W.Frag)(r:List V->Hp->VK->Prop)(w:List T->Hw->WK->Prop):Prop:=∀(F H:Hp) (C:Hw) (xs:List V) (vs:List T) (Q:VK) (Q':WK),Rl K F H C->Reps K H xs vs->w vs C Q'->QE K F H Q Q'->r xs H Q
def mJ (K:W.Frag)(r:V->List V->Hp->VK->Prop)(w:T->List T->Hw->WK->Prop):Prop:=∀(F H:Hp) (C:Hw) (x:V) (v:T) (xs:List V) (vs:List T) (Q:VK) (Q':WK),Rl K F H C->Y7 K H x v->Reps K H xs vs->w v vs C Q'->QE K F H Q Q'->r x xs H Q
def Jd (X:Cx)(e:Expr)(w:WE):Prop:=∃t,PE X e t/\Uz X.K t w
def xM (X:Cx)(e:Expr)(w:WT):Prop:=∃t,PT X e t/\Od X.K t w
def rD (X:Cx)(e:Expr)(w:WT):Prop:=∃t,PW X e t/\Od X.K t w
def yi (X:Cx)(es:List Expr)(w:WA):Prop:=∃t,PA X es t/\Bb X.K t w
def Le (X:Cx)(f:Value->Value->Sem Value)(w:W2):Prop:=∃r,O6 X f r/\rA X.K r w
def kN (X:Cx)(w:W2):Prop:=∃r,xN X r/\rA X.K r w
def Qa (X:Cx)(f:Value)(w:List T->Hw->WK->Prop):Prop:=∃r,Wj X f r/\og X.K r w
def oj (X:Cx)(id:String)(w:T->List T->Hw->WK->Prop):Prop:=∃r,oM X id r/\mJ X.K r w
section
variable {K:W.Frag}{ta tb tc:TE}{wa wb wc:WE}{r r':R2}{w w':W2}
def qv {i:Nat}:Uz K (qc i) (Y0 i):=λF H C σ τ Q Q' χ R S h q=>by
 obtain⟨v,e,h⟩:=h
 obtain⟨x,ex,rx⟩:=S.2 i v e
 exact⟨x,ex,q x v H C R (Tx.refl H) rx h⟩
def o8 {x:V}{v:T}(h:∀H,Y7 K H x v):Uz K (tC x) (eC v):=λF H C σ τ Q Q' χ R S w q=>q x v H C R (Tx.refl H) (h H) w
def wu (ha:Uz K ta wa)(hb:Uz K tb wb)(hr:rA K r w):Uz K (qf r ta tb) (Wi w wa wb):=λF H C σ τ Q Q' χ R S h q=>by
 refine ha F H C σ τ _ _ χ R S h λx v H1 C1 R1 t1 rx h1=>?_
 refine hb F H1 C1 σ τ _ _ χ R1 (S.tx t1) h1 λy u H2 C2 R2 t2 ry h2=>?_
 exact hr F H2 C2 x y v u Q Q' R2 (rx.tx t2) ry h2 (QE.at q (t1.trans t2))
def qz:Bb K yK Zw:=λF H C σ τ Q Q' χ R S h q=>q [] [] H C R (Tx.refl H) Ys h
def uJ {t:TA}{wt:WA}(ha:Uz K ta wa)(hb:Bb K t wt):Bb K (yM ta t) (Ya wa wt):=λF H C σ τ Q Q' χ R S h q=>by
 refine ha F H C σ τ _ _ χ R S h λx v H1 C1 R1 t1 rx h1=>?_
 exact hb F H1 C1 σ τ _ _ χ R1 (S.tx t1) h1 λxs vs H2 C2 R2 t2 rs h2=>q (x::xs) (v::vs) H2 C2 R2 (t1.trans t2) (Yf (rx.tx t2) rs) h2
def qw {t:TA}{wt:WA}(ha:Bb K t wt):Uz K (qd t) (O0 wt):=λF H C σ τ Q Q' χ R S h q=>by
 refine ha F H C σ τ _ _ χ R S h λxs vs H1 C1 R1 t1 rs h1=>⟨by rw[rs.length];exact h1.1,λp hp=>?_⟩
 exact q _ _ _ C1 (R1.hid hp) (t1.trans (Tx.new hp)) (Jq (V6.of Z9) (rs.tx (Tx.new hp))) h1.2
def q5 {t:TA}{wt:WA}(ha:Bb K t wt):Uz K (qj t) (Co wt):=λF H C σ τ Q Q' χ R S h q=>by
 refine ha F H C σ τ _ _ χ R S h λxs vs H1 C1 R1 t1 rs h1=>⟨by rw[rs.length];exact h1.1,λp hp=>?_⟩
 exact q _ _ _ _ (R1.newL hp rs) (t1.trans (Tx.new hp)) Y2 (h1.2 p (R1.free hp))
def qC {r:List V->Hp->VK->Prop}{w:List T->Hw->WK->Prop}{t:TA}{wt:WA}(hr:og K r w)(ha:Bb K t wt):Uz K (nB r t) (sK w wt):=λF H C σ τ Q Q' χ R S h q=>by
 refine ha F H C σ τ _ _ χ R S h λxs vs H1 C1 R1 t1 rs h1=>?_
 exact hr F H1 C1 xs vs Q Q' R1 rs h1 (QE.at q t1)
def nE {tt:TT}{wt:WT}(hc:Od K tt wt)(ha:Uz K ta wa)(hb:Uz K tb wb):Uz K (lf tt ta tb) (mv wt wa wb):=λF H C σ τ Q Q' χ R S h q=>by
 refine hc F H C σ τ _ _ χ R S h λk H1 C1 R1 t1 h1=>?_
 cases k with
 | true=>exact ha F H1 C1 σ τ Q Q' χ R1 (S.tx t1) h1 (QE.at q t1)
 | false=>exact hb F H1 C1 σ τ Q Q' χ R1 (S.tx t1) h1 (QE.at q t1)
def qD (ha:Uz K ta wa)(hb:Uz K tb wb):Uz K (vU ta tb) (sL wa wb):=λF H C σ τ Q Q' χ R S h q=>by
 refine ha F H C σ τ _ _ χ R S h λx v H1 C1 R1 t1 rx h1=>?_
 obtain⟨k,rfl,h1⟩:=h1
 refine⟨k,Q1 rx,?_⟩
 cases k with
 | true=>exact hb F H1 C1 σ τ Q Q' χ R1 (S.tx t1) h1 (QE.at q t1)
 | false=>exact q _ _ H1 C1 R1 t1 Jc h1
def nF (ha:Uz K ta wa):Od K (vS ta) (yN wa):=λF H C σ τ Q Q' χ R S h q=>by
 refine ha F H C σ τ _ _ χ R S h λx v H1 C1 R1 t1 rx h1=>?_
 obtain⟨k,rfl,h1⟩:=h1
 exact⟨k,Q1 rx,q k H1 C1 R1 t1 h1⟩
def qx (ha:Uz K ta wa):Od K (λσ H Q=>ta σ H λx H'=>∃k,r9 K x H' k/\Q k H') (uD wa):=λF H C σ τ Q Q' χ R S h q=>by
 refine ha F H C σ τ _ _ χ R S h λx v H1 C1 R1 t1 rx h1=>?_
 obtain⟨k,hk,h1⟩:=h1
 refine⟨k,?_,q k H1 C1 R1 t1 h1⟩
 have emp:∀{ys:List V} {xs:List T},Reps K H1 ys xs->ys.isEmpty=xs.isEmpty:=λ{ys xs} r=>by
  have:=r.length
  cases ys<;>cases xs<;>simp_all
 cases v with
 | non=>cases Qf rx;exact hk
 | bl b=>cases Q1 rx;exact hk
 | int i=>cases Ym rx;exact hk
 | str z=>cases Jl rx;exact hk
 | tup xs=>
  obtain⟨a,ys,rfl,hq,r⟩:=Z6 rx
  refine .inr (.inl ⟨ys,hq,?_⟩)
  rw[emp r];exact hk
 | cl xs=>
  obtain⟨a,ys,rfl,hq,r⟩:=Ru rx
  refine .inl ⟨ys,hq.sq,?_⟩
  rw[emp r];exact hk
 | ref a=>
  cases Zs rx
  rcases hk with⟨xs,hx,e⟩ | ⟨kvs,hx,e⟩
  ·obtain⟨ys,hy,r⟩:=R1.lst hx
   refine .inl ⟨ys,Xr.of hy,?_⟩
   rw[emp r];exact e
  ·obtain⟨ks,hy,r⟩:=R1.obj a _ hx
   refine .inr (.inr ⟨ks,hy,?_⟩)
   have:=Paired.length r
   rw[e]
   cases ks<;>cases kvs<;>simp_all
def nG {t u:TT}{w w':WT}(ha:Od K t w)(hb:Od K u w'):Od K (qu t u) (nD w w'):=λF H C σ τ Q Q' χ R S h q=>by
 refine ha F H C σ τ _ _ χ R S h λk H1 C1 R1 t1 h1=>?_
 cases k with
 | true=>exact hb F H1 C1 σ τ Q Q' χ R1 (S.tx t1) h1 λb H' C' R' t'=>q b H' C' R' (t1.trans t')
 | false=>exact q _ H1 C1 R1 t1 h1
def qy {t u:TT}{w w':WT}(ha:Od K t w)(hb:Od K u w'):Od K (mY t u) (yJ w w'):=λF H C σ τ Q Q' χ R S h q=>by
 refine ha F H C σ τ _ _ χ R S h λk H1 C1 R1 t1 h1=>?_
 cases k with
 | true=>exact q _ H1 C1 R1 t1 h1
 | false=>exact hb F H1 C1 σ τ Q Q' χ R1 (S.tx t1) h1 λb H' C' R' t'=>q b H' C' R' (t1.trans t')
end
section
variable {X:Cx}
def Jj:Le X (binaryOp .Add) G2:=⟨_,tM.or (Dq.or (tL.or (jp.or wS))),λF H C x y v u Q Q' R rx ry h q=>by
 cases v<;>cases u<;>first | exact False.elim h | skip
 case int.int i j=>cases Ym rx;cases Ym ry;exact .inl ⟨i,j,rfl,rfl,q _ _ H C R (Tx.refl H) Xb h⟩
 case str.str i j=>cases Jl rx;cases Jl ry;exact .inr (.inl ⟨i,j,rfl,rfl,h.1,q _ _ H C R (Tx.refl H) V0 h.2⟩)
 case ref.ref a b=>
  cases Zs rx;cases Zs ry
  obtain⟨xs,ys,ha,hb,hl,h⟩:=h
  obtain⟨zs,hz,rz⟩:=R.lst ha
  obtain⟨ws,hw,rw'⟩:=R.lst hb
  exact .inr (.inr (.inl ⟨a,b,zs,ws,rfl,rfl,hz,hw,by rw[rz.length,rw'.length];exact hl,λp hp=>q _ _ _ _ (R.newL hp (rz.app rw')) (Tx.new hp) Y2 (h p (R.free hp))⟩))
 case tup.tup xs ys=>
  obtain⟨a,zs,rfl,hz,rz⟩:=Z6 rx
  obtain⟨b,ws,rfl,hw,rw'⟩:=Z6 ry
  by_cases e:zs=[]
  ·subst e
   have e2:xs=[]:=by
    have:=rz.length
    cases xs with
    | nil=>rfl
    | cons _ _=>cases this
   subst e2
   exact .inr (.inr (.inr (.inl ⟨a,b,ws,rfl,rfl,hz,hw,q _ _ H C R (Tx.refl H) (Jq hw rw') h.2⟩)))
  ·refine .inr (.inr (.inr (.inr ⟨a,b,zs,ws,rfl,rfl,hz,hw,e,by rw[rz.length,rw'.length];exact h.1,λe2=>?_,λe2 p hp=>?_⟩)))
   ·subst e2
    have e3:ys=[]:=by
     have:=rw'.length
     cases ys with
     | nil=>rfl
     | cons _ _=>cases this
    subst e3
    refine q _ _ H C R (Tx.refl H) (Jq hz rz) ?_
    have:=h.2
    rw[YK] at this
    exact this
   ·exact q _ _ _ C (R.hid hp) (Tx.new hp) (Jq (V6.of Z9) ((rz.app rw').tx (Tx.new hp))) h.2⟩
def qZ:Le X (binaryOp .Sub) u6:=⟨_,tG,λF H C x y v u Q Q' R rx ry h q=>by
 cases v<;>cases u<;>first | exact False.elim h | skip
 case int.int i j=>cases Ym rx;cases Ym ry;exact⟨i,j,rfl,rfl,q _ _ H C R (Tx.refl H) Xb h⟩⟩
def Q2:Le X (binaryOp .FloorDiv) rX:=⟨_,wR,λF H C x y v u Q Q' R rx ry h q=>by
 cases v<;>cases u<;>first | exact False.elim h | skip
 case int.int i j=>cases Ym rx;cases Ym ry;exact⟨i,j,rfl,rfl,h.1,q _ _ H C R (Tx.refl H) Xb h.2⟩⟩
def V2:Le X (binaryOp .Mod) rV:=⟨_,tI,λF H C x y v u Q Q' R rx ry h q=>by
 cases v<;>cases u<;>first | exact False.elim h | skip
 case int.int i j=>cases Ym rx;cases Ym ry;exact⟨i,j,rfl,rfl,h.1,q _ _ H C R (Tx.refl H) Xb h.2⟩⟩
def B3:Le X (binaryOp .Pow) rT:=⟨_,tH,λF H C x y v u Q Q' R rx ry h q=>by
 cases v<;>cases u<;>first | exact False.elim h | skip
 case int.int i j=>cases Ym rx;cases Ym ry;exact⟨i,j,rfl,rfl,h.1,q _ _ H C R (Tx.refl H) Xb h.2⟩⟩
def nX:Le X (compareOp .Lt) mW:=⟨_,qV.or zw,λF H C x y v u Q Q' R rx ry h q=>by
 cases v<;>cases u<;>first | exact False.elim h | skip
 case int.int i j=>cases Ym rx;cases Ym ry;exact .inl ⟨i,j,rfl,rfl,q _ _ H C R (Tx.refl H) Jc h⟩
 case str.str i j=>cases Jl rx;cases Jl ry;exact .inr ⟨i,j,rfl,rfl,q _ _ H C R (Tx.refl H) Jc h⟩⟩
def nZ:Le X (compareOp .Gt) mX:=⟨_,qW,λF H C x y v u Q Q' R rx ry h q=>by
 cases v<;>cases u<;>first | exact False.elim h | skip
 case int.int i j=>cases Ym rx;cases Ym ry;exact⟨i,j,rfl,rfl,q _ _ H C R (Tx.refl H) Jc h⟩⟩
def nP (X:Cx)(f:Value->Value->Sem Value):R2:=λx y H Q=>∀(pins:List (Addr×Obj)) (s:Shared) (σ:L2.St) (v u:Value),Zp X pins σ H s->Z0 x v->Z0 y u->wpAny (model X.prog X.w) X.A (f v u) (EP X pins σ Q) X.xe s
def Hb {f:Value->Value->Sem Value}:O6 X f (nP X f):=λpins s σ H x y v u Q I rx ry h=>h pins s σ v u I rx ry
def Ee {pins:List (Addr×Obj)}{σ:L2.St}{H:Hp}{s:Shared}{A:Around}{n:Nat}{ts us:List T}{ys zs:List V}{its its':List Value}(I:Zp X pins σ H s)(r:Reps X.K H ys ts)(r':Reps X.K H zs us)(rI:Zz ys its)(rI':Zz zs its')
  (f:Yp ts n=true) (f':Yp us n=true) (hu:A.units+n<cLine):
  ∀j (h1:j<its.toArray.size) (h2:j<its'.toArray.size),SeqAt.EqAt A s its.toArray[j] its'.toArray[j] (xJ ts us j):=λj h1 h2=>by
 have l1:its.toArray.size=ts.length:=by rw[XJ,<-rI.length,r.length]
 have l2:its'.toArray.size=us.length:=by rw[XJ,<-rI'.length,r'.length]
 have i1:ts[j]?=some (ts[j]'(by omega)):=by simp[l1▸h1]
 have i2:us[j]?=some (us[j]'(by omega)):=by simp[l2▸h2]
 obtain⟨x1,g1,q1⟩:=r.get i1
 obtain⟨x2,g2,q2⟩:=r'.get i2
 obtain⟨u1,k1,z1⟩:=rI.get g1
 obtain⟨u2,k2,z2⟩:=rI'.get g2
 have e1:its.toArray[j]=u1:=by
  have:its[j]?=some its.toArray[j]:=by simp
  rw[k1] at this;exact(YH this).symm
 have e2:its'.toArray[j]=u2:=by
  have:its'[j]?=some its'.toArray[j]:=by simp
  rw[k2] at this;exact(YH this).symm
 rw[e1,e2]
 unfold xJ
 simp only[i1,i2]
 exact Am I n (Xh f i1) (Xh f' i2) q1 q2 z1 z2 hu
def jY {vs ws:List T}(h:vs.length≠ws.length):Tj vs ws=false:=by
 rw[<-Vu,show(vs.length==ws.length)=false from beq_eq_false_iff_ne.mpr h,Bool.and_false]
def zR {vs ws:List T}(h:vs.length=ws.length):(List.range vs.length).all (xJ vs ws)=Tj vs ws:=by
 rw[<-Vu,h,Nat.min_self,XU,Bool.and_true]
def nJ {pins:List (Addr×Obj)}{σ:L2.St}{H:Hp}{s:Shared}{v w:T}{x y:V}{u u':Value}{A:Around}{n:Nat}(I:Zp X pins σ H s)(fv:Je v n=true)(fw:Je w n=true)(rv:Y7 X.K H x v)(rw':Y7 X.K H y w)
  (ru:Z0 x u) (ru':Z0 y u') (hu:A.units+n+1<cLine):SeqAt.RcAt A s u u' (Jh v w)/\SeqAt.RcNeAt A s u u' (!Jh v w):=by
 have hu0:A.units<cLine:=by omega
 cases ev:sc v with
 | some a=>
  obtain⟨rfl,f1⟩:=X3 ev rv
  cases ew:sc w with
  | some b=>
   obtain⟨rfl,f2⟩:=X3 ew rw'
   cases v with
   | non=>
    cases ev;cases ru
    cases w with
    | non=>cases ew;cases ru';unfold Jh;exact⟨.none_none,.none_none⟩
    | bl c=>cases ew;cases ru';unfold Jh;exact⟨.none_bool c,.none_bool c⟩
    | int c=>cases ew;obtain⟨t,rfl⟩:=ru';unfold Jh;exact⟨.none_int c t,.none_int c t⟩
    | str c=>cases ew;obtain⟨t,rfl⟩:=ru';unfold Jh;exact⟨.none_str c t,.none_str c t⟩
    | _=>cases ew
   | bl d=>
    cases ev;cases ru
    cases w with
    | non=>cases ew;cases ru';unfold Jh;exact⟨.bool_none d,.bool_none d⟩
    | bl c=>cases ew;cases ru';unfold Jh;exact⟨.bool_bool d c,.bool_bool d c⟩
    | int c=>cases ew;obtain⟨t,rfl⟩:=ru';unfold Jh;exact⟨.bool_int d c t,.bool_int d c t⟩
    | str c=>cases ew;obtain⟨t,rfl⟩:=ru';unfold Jh;exact⟨.bool_str d c t,.bool_str d c t⟩
    | _=>cases ew
   | int d=>
    cases ev;obtain⟨t',rfl⟩:=ru
    cases w with
    | non=>cases ew;cases ru';unfold Jh;exact⟨.int_none d t',.int_none d t'⟩
    | bl c=>cases ew;cases ru';unfold Jh;exact⟨.int_bool d t' c,.int_bool d t' c⟩
    | int c=>cases ew;obtain⟨t,rfl⟩:=ru';unfold Jh;exact⟨.int_int d t' c t,.int_int d t' c t⟩
    | str c=>cases ew;obtain⟨t,rfl⟩:=ru';unfold Jh;exact⟨.int_str d t' c t,.int_str d t' c t⟩
    | _=>cases ew
   | str d=>
    cases ev;obtain⟨t',rfl⟩:=ru
    cases w with
    | non=>cases ew;cases ru';unfold Jh;exact⟨.str_none d t',.str_none d t'⟩
    | bl c=>cases ew;cases ru';unfold Jh;exact⟨.str_bool d t' c,.str_bool d t' c⟩
    | int c=>cases ew;obtain⟨t,rfl⟩:=ru';unfold Jh;exact⟨.str_int d t' c t,.str_int d t' c t⟩
    | str c=>cases ew;obtain⟨t,rfl⟩:=ru';unfold Jh;exact⟨.str_str d t' c t,.str_str d t' c t⟩
    | _=>cases ew
   | _=>cases ev
  | none=>
   obtain⟨ts,m,rfl,em,ft⟩:=J0 fw ew
   obtain⟨b,zs,rfl,hq,r⟩:=Z6 rw'
   cases ru'
   obtain⟨its,_,p,_⟩:=I.tuple hq
   cases v with
   | non=>cases ev;cases ru;unfold Jh;exact⟨.none_tuple p hu0,.none_tuple p hu0⟩
   | bl c=>cases ev;cases ru;unfold Jh;exact⟨.bool_tuple c p hu0,.bool_tuple c p hu0⟩
   | int i=>cases ev;obtain⟨t,rfl⟩:=ru;unfold Jh;exact⟨.int_tuple i t p hu0,.int_tuple i t p hu0⟩
   | str i=>cases ev;obtain⟨t,rfl⟩:=ru;unfold Jh;exact⟨.str_tuple i t p hu0,.str_tuple i t p hu0⟩
   | _=>cases ev
 | none=>
  obtain⟨ts,m,rfl,em,ft⟩:=J0 fv ev
  subst em
  obtain⟨a,ys,rfl,hq,r⟩:=Z6 rv
  cases ru
  obtain⟨its,rI,p,_⟩:=I.tuple hq
  cases ew:sc w with
  | some b=>
   obtain⟨rfl,f2⟩:=X3 ew rw'
   cases w with
   | non=>cases ew;cases ru';unfold Jh;exact⟨.tuple_none p hu0,.tuple_none p hu0⟩
   | bl c=>cases ew;cases ru';unfold Jh;exact⟨.tuple_bool c p hu0,.tuple_bool c p hu0⟩
   | int i=>cases ew;obtain⟨t,rfl⟩:=ru';unfold Jh;exact⟨.tuple_int i t p hu0,.tuple_int i t p hu0⟩
   | str i=>cases ew;obtain⟨t,rfl⟩:=ru';unfold Jh;exact⟨.tuple_str i t p hu0,.tuple_str i t p hu0⟩
   | _=>cases ew
  | none=>
   obtain⟨us,m',rfl,em,fu⟩:=J0 fw ew
   cases em
   obtain⟨b,zs,rfl,hq',r'⟩:=Z6 rw'
   cases ru'
   obtain⟨its',rI',p',_⟩:=I.tuple hq'
   have l1:its.toArray.size=ts.length:=by rw[XJ,<-rI.length,r.length]
   have l2:its'.toArray.size=us.length:=by rw[XJ,<-rI'.length,r'.length]
   have hi:=Ee (A:=A.in1) I r r' rI rI' ft fu (by show A.units+1+m<cLine;omega)
   have k1:=SeqAt.RcAt.tuples (A:=A) p p' hu0 hi
   have k2:=SeqAt.RcNeAt.tuples (A:=A) p p' hu0 hi
   rw[l1,l2,Vu] at k1 k2
   unfold Jh
   exact⟨k1,k2⟩
def B9 {pins:List (Addr×Obj)}{σ:L2.St}{H:Hp}{s:Shared}{w:T}{y:V}{u':Value}{A:Around}{n:Nat}{a:Addr}{its:List Value}(I:Zp X pins σ H s)(fw:Je w n=true)(rw':Y7 X.K H y w)(ru':Z0 y u')(hu0:A.units<cLine)
  (p:s.heap.IsList a its.toArray):(SeqAt.RcAt A s (.ref a) u' false/\SeqAt.RcNeAt A s (.ref a) u' true)/\(SeqAt.RcAt A s u' (.ref a) false/\SeqAt.RcNeAt A s u' (.ref a) true):=by
 cases w with
 | non=>cases Qf rw';cases ru';exact⟨⟨.list_none p hu0,.list_none p hu0⟩,.none_list p hu0,.none_list p hu0⟩
 | bl c=>cases Q1 rw';cases ru';exact⟨⟨.list_bool c p hu0,.list_bool c p hu0⟩,.bool_list c p hu0,.bool_list c p hu0⟩
 | int c=>cases Ym rw';obtain⟨t,rfl⟩:=ru';exact⟨⟨.list_int c t p hu0,.list_int c t p hu0⟩,.int_list c t p hu0,.int_list c t p hu0⟩
 | str c=>cases Jl rw';obtain⟨t,rfl⟩:=ru';exact⟨⟨.list_str c t p hu0,.list_str c t p hu0⟩,.str_list c t p hu0,.str_list c t p hu0⟩
 | tup ts=>
  obtain⟨b,zs,rfl,hq,r⟩:=Z6 rw'
  cases ru'
  obtain⟨its',_,p',_⟩:=I.tuple hq
  exact⟨⟨.list_tuple p p' hu0,.list_tuple p p' hu0⟩,.tuple_list p' p hu0,.tuple_list p' p hu0⟩
 | ref b=>unfold Je at fw;cases fw
 | cl b=>unfold Je at fw;cases fw
def ub (neg:Bool)(hu:X.A.units+150<cLine):Le X (compareOp (if neg then .NotEq else .Eq)) (Nt neg):=⟨_,Hb,λF H C x y v u Q Q' R rx ry h q pins s σ v' u' I r1 r2=>by
 have fin:∀{k:Bool},SeqAt.RcAt X.A s v' u' k/\SeqAt.RcNeAt X.A s v' u' (!k)->Q (.bl (if neg then !k else k)) H->wpAny (model X.prog X.w) X.A (compareOp (if neg then .NotEq else .Eq) v' u') (EP X pins σ Q) X.xe s:=λ{k} e hq=>by
  cases neg with
  | true=>exact EqBoolInt.of_rcne e.2 ⟨.bl (!k),H,I,rfl,hq⟩
  | false=>exact EqBoolInt.of_rc e.1 ⟨.bl k,H,I,rfl,hq⟩
 have two:∀{v u:T},Y7 X.K H x v->Y7 X.K H y u->Yz v/\Yz u/\Q' (.bl (if neg then !Jh v u else Jh v u)) C->wpAny (model X.prog X.w) X.A (compareOp (if neg then .NotEq else .Eq) v' u') (EP X pins σ Q) X.xe s:=λ{v u} rx ry h=>
  fin (nJ I h.1 h.2.1 rx ry r1 r2 (show X.A.units+100+1<cLine by omega)) (q _ _ H C R (Tx.refl H) Jc h.2.2)
 have hn:(if neg then !false else false)=neg:=by cases neg<;>rfl
 have lft:∀{a:Addr} {u:T},v'=.ref a->Y7 X.K H y u->(∃xs,C a=some (.lst xs))/\Yz u/\Q' (.bl neg) C->wpAny (model X.prog X.w) X.A (compareOp (if neg then .NotEq else .Eq) v' u') (EP X pins σ Q) X.xe s:=λ{a u} ev ry h=>by
  obtain⟨⟨xs,hx⟩,f,hq⟩:=h
  obtain⟨ys,hy,r⟩:=R.lst hx
  obtain⟨its,_,p,_⟩:=I.list (Xr.of hy)
  have z:=(B9 (A:=X.A) I f ry r2 (by omega) p.isList).1
  subst ev
  refine fin (k:=false) z ?_
  rw[hn]
  exact q _ _ H C R (Tx.refl H) Jc hq
 have rgt:∀{b:Addr} {v:T},u'=.ref b->Y7 X.K H x v->(∃xs,C b=some (.lst xs))/\Yz v/\Q' (.bl neg) C->wpAny (model X.prog X.w) X.A (compareOp (if neg then .NotEq else .Eq) v' u') (EP X pins σ Q) X.xe s:=λ{b v} eu rx h=>by
  obtain⟨⟨xs,hx⟩,f,hq⟩:=h
  obtain⟨ys,hy,r⟩:=R.lst hx
  obtain⟨its,_,p,_⟩:=I.list (Xr.of hy)
  have z:=(B9 (A:=X.A) I f rx r1 (by omega) p.isList).2
  subst eu
  refine fin (k:=false) z ?_
  rw[hn]
  exact q _ _ H C R (Tx.refl H) Jc hq
 cases v with
 | ref a=>
  have ev:v'=.ref a:=by cases Zs rx;exact r1
  cases u with
  | ref b=>
   have eu:u'=.ref b:=by cases Zs ry;exact r2
   obtain⟨xs,ys,ha,hb,hf,hq⟩:=h
   obtain⟨zs,hz,rz⟩:=R.lst ha
   obtain⟨ws,hw,rw'⟩:=R.lst hb
   obtain⟨its,rI,p,_⟩:=I.list (Xr.of hz)
   obtain⟨its',rI',p',_⟩:=I.list (Xr.of hw)
   have l1:its.toArray.size=xs.length:=by rw[XJ,<-rI.length,rz.length]
   have l2:its'.toArray.size=ys.length:=by rw[XJ,<-rI'.length,rw'.length]
   subst ev
   subst eu
   refine fin ?_ (q _ _ H C R (Tx.refl H) Jc hq)
   by_cases hl:xs.length=ys.length
   ·obtain⟨f1,f2⟩:=hf hl
    have hi:=Ee (A:=X.A.in1) I rz rw' rI rI' f1 f2 (by show X.A.units+1+100<cLine;omega)
    have k1:=SeqAt.RcAt.lists (A:=X.A) p.isList p'.isList (by rw[l1,l2,hl]) (by omega) hi
    have k2:=SeqAt.RcNeAt.lists (A:=X.A) p.isList p'.isList (by rw[l1,l2,hl]) (by omega) hi
    rw[l1,zR hl] at k1 k2
    exact⟨k1,k2⟩
   ·rw[jY hl]
    have hne:(its.toArray.size !=its'.toArray.size)=true:=by rw[l1,l2];exact bne_iff_ne.mpr hl
    exact⟨SeqAt.RcAt.lists_lengths p.isList p'.isList hne (by omega),SeqAt.RcNeAt.lists_lengths p.isList p'.isList hne (by omega)⟩
  | non=>exact lft ev ry h
  | bl b=>exact lft ev ry h
  | int b=>exact lft ev ry h
  | str b=>exact lft ev ry h
  | tup b=>exact lft ev ry h
  | cl b=>exact lft ev ry h
 | non=>
  cases u with
  | ref b=>exact rgt (by cases Zs ry;exact r2) rx h
  | _=>exact two rx ry h
 | bl _=>
  cases u with
  | ref b=>exact rgt (by cases Zs ry;exact r2) rx h
  | _=>exact two rx ry h
 | int _=>
  cases u with
  | ref b=>exact rgt (by cases Zs ry;exact r2) rx h
  | _=>exact two rx ry h
 | str _=>
  cases u with
  | ref b=>exact rgt (by cases Zs ry;exact r2) rx h
  | _=>exact two rx ry h
 | tup _=>
  cases u with
  | ref b=>exact rgt (by cases Zs ry;exact r2) rx h
  | _=>exact two rx ry h
 | cl _=>
  cases u with
  | ref b=>exact rgt (by cases Zs ry;exact r2) rx h
  | _=>exact two rx ry h⟩
def Yn (hu:X.A.units+150<cLine):Le X (compareOp .Eq) E7:=ub false hu
def Dr (hu:X.A.units+150<cLine):Le X (compareOp .NotEq) mV:=ub true hu
def jw:Le X (compareOp .Is) rW:=⟨_,tK,λF H C x y v u Q Q' R rx ry h q=>by
 obtain⟨rfl,h⟩:=h
 refine⟨Qf ry,?_⟩
 have z:=q (.bl _) _ H C R (Tx.refl H) Jc h
 cases v with
 | non=>cases Qf rx;exact z
 | bl _=>cases Q1 rx;exact z
 | int _=>cases Ym rx;exact z
 | str _=>cases Jl rx;exact z
 | ref _=>cases Zs rx;exact z
 | tup _=>obtain⟨a,ys,rfl,_⟩:=Z6 rx;exact z
 | cl _=>obtain⟨a,ys,rfl,_⟩:=Ru rx;exact z⟩
open Classical in
noncomputable def eqAns (v:T) (us:List Value) (ts:List T) (u:Value):Bool:=match (us.zip ts).find? λp=>decide (p.1=u) with
 | some p=>Jh p.2 v
 | none=>false
open Classical in
def El {pins:List (Addr×Obj)}{σ:L2.St}{H:Hp}{s:Shared}{n:Nat}{v:T}{ts:List T}{ys:List V}{us:List Value}(I:Zp X pins σ H s)(r:Reps X.K H ys ts)(rI:Zz ys us)(f:Yp ts n=true){j:Nat}{u:Value}{t:T}(hu:us[j]?=some u)(ht:ts[j]?=some t):
  eqAns v us ts u=Jh t v:=by
 unfold eqAns
 have hm:(u,t)∈us.zip ts:=by
  refine List.mem_iff_getElem?.mpr ⟨j,?_⟩
  rw[List.getElem?_zip_eq_some]
  exact⟨hu,ht⟩
 cases e:(us.zip ts).find? λp=>decide (p.1=u) with
 | none=>
  have:=List.find?_eq_none.mp e (u,t) hm
  simp at this
 | some p=>
  have h1:=List.find?_some e
  have h2:=List.mem_of_find?_eq_some e
  simp only[decide_eq_true_eq] at h1
  obtain⟨i,hi⟩:=List.mem_iff_getElem?.mp h2
  obtain⟨g1,g2⟩:=List.getElem?_zip_eq_some.mp hi
  obtain⟨x1,k1,q1⟩:=r.get g2
  obtain⟨x2,k2,q2⟩:=r.get ht
  obtain⟨u1,m1,z1⟩:=rI.get k1
  obtain⟨u2,m2,z2⟩:=rI.get k2
  rw[g1] at m1;cases m1
  rw[hu] at m2;cases m2
  rw[h1] at z1
  have e2:=z1.inj z2
  subst e2
  show Jh p.2 v=Jh t v
  rw[O9 I n (Xh f g2) (Xh f ht) q1 q2]
def Ax {pins:List (Addr×Obj)}{σ:L2.St}{H:Hp}{s:Shared}{n:Nat}{v:T}{ts:List T}{ys:List V}{us:List Value}(I:Zp X pins σ H s)(r:Reps X.K H ys ts)(rI:Zz ys us)(f:Yp ts n=true):us.any (eqAns v us ts)=Kq v ts:=by
 have hl:us.length=ts.length:=by rw[<-rI.length,r.length]
 have hat:∀j,us[j]?.map (eqAns v us ts)=ts[j]?.map λt=>Jh t v:=λj=>by
  by_cases hj:j<us.length
  ·have e1:us[j]?=some us[j]:=by simp[hj]
   have e2:ts[j]?=some (ts[j]'(by omega)):=by simp[hl▸hj]
   rw[e1,e2,Option.map_some,Option.map_some,El I r rI f e1 e2]
  ·rw[List.getElem?_eq_none (by omega),List.getElem?_eq_none (by omega)];rfl
 have hm:us.map (eqAns v us ts)=ts.map λt=>Jh t v:=by
  refine List.ext_getElem? λj=>?_
  rw[XM,XM]
  exact hat j
 unfold Kq
 have a1:us.any (eqAns v us ts)=(us.map (eqAns v us ts)).any id:=by rw[List.any_map];rfl
 have a2:(ts.any λy=>Jh y v)=(ts.map λt=>Jh t v).any id:=by rw[List.any_map];rfl
 rw[a1,a2,hm]
def pi (neg:Bool)(hu:X.A.units+150<cLine):Le X (compareOp (if neg then .NotIn else .In)) (u8 neg):=⟨_,Hb,λF H C x y v u Q Q' R rx ry h q pins s σ v' u' I r1 r2=>by
 have sq:∀{p:Addr} {ys:List V} {ts:List T},u'=.ref p->(Xr X.K H p ys\/V6 X.K H p ys)->Reps X.K H ys ts->Yz v->Yp ts Ul=true->Q' (.bl (if neg then !Kq v ts else Kq v ts)) C->
   wpAny (model X.prog X.w) X.A (compareOp (if neg then .NotIn else .In) v' u') (EP X pins σ Q) X.xe s:=λ{p ys ts} eu hq r fv ft hq'=>by
  subst eu
  have at1:∀{its:List Value},Zz ys its->∀w,w∈its.toArray->SeqAt.EqAt X.A.in1 s w v' (eqAns v its ts w):=λ{its} rI w hw=>by
   have hw':w∈its:=by simpa using hw
   obtain⟨j,hj⟩:=List.mem_iff_getElem?.mp hw'
   have hlt:j<its.length:=(List.getElem?_eq_some_iff.mp hj).1
   have hl:its.length=ts.length:=by rw[<-rI.length,r.length]
   have e2:ts[j]?=some (ts[j]'(by omega)):=by simp[hl▸hlt]
   rw[El I r rI ft hj e2]
   obtain⟨x2,k2,q2⟩:=r.get e2
   obtain⟨u2,m2,z2⟩:=rI.get k2
   rw[hj] at m2;cases m2
   exact Am I 100 (Xh ft e2) fv q2 rx z2 r1 (by show X.A.units+1+100<cLine;omega)
  rcases hq with hq | hq
  ·obtain⟨its,rI,p,_⟩:=I.list hq
   have e:its.toArray.any (eqAns v its ts)=Kq v ts:=by rw[<-Ax I r rI ft];simp
   cases neg with
   | true=>refine SeqAt.notIn_listAt (eqAns v its ts) p.isList (at1 rI) ⟨.bl _,H,I,rfl,?_⟩;rw[e];exact q _ _ H C R (Tx.refl H) Jc hq'
   | false=>refine SeqAt.in_listAt (eqAns v its ts) p.isList (at1 rI) ⟨.bl _,H,I,rfl,?_⟩;rw[e];exact q _ _ H C R (Tx.refl H) Jc hq'
  ·obtain⟨its,rI,p,_⟩:=I.tuple hq
   have e:its.toArray.any (eqAns v its ts)=Kq v ts:=by rw[<-Ax I r rI ft];simp
   cases neg with
   | true=>refine SeqAt.notIn_tupleAt (eqAns v its ts) p (at1 rI) ⟨.bl _,H,I,rfl,?_⟩;rw[e];exact q _ _ H C R (Tx.refl H) Jc hq'
   | false=>refine SeqAt.in_tupleAt (eqAns v its ts) p (at1 rI) ⟨.bl _,H,I,rfl,?_⟩;rw[e];exact q _ _ H C R (Tx.refl H) Jc hq'
 have tpl:∀{ts:List T},Y7 X.K H y (.tup ts)->Yz v/\Yp ts Ul=true/\Q' (.bl (if neg then !Kq v ts else Kq v ts)) C->wpAny (model X.prog X.w) X.A (compareOp (if neg then .NotIn else .In) v' u') (EP X pins σ Q) X.xe s:=λ{ts} ry h=>by
  obtain⟨a,ys,rfl,hq,r⟩:=Z6 ry
  exact sq r2 (.inr hq) r h.1 h.2.1 h.2.2
 have cls:∀{ts:List T},Y7 X.K H y (.cl ts)->Yz v/\Yp ts Ul=true/\Q' (.bl (if neg then !Kq v ts else Kq v ts)) C->wpAny (model X.prog X.w) X.A (compareOp (if neg then .NotIn else .In) v' u') (EP X pins σ Q) X.xe s:=λ{ts} ry h=>by
  obtain⟨a,ys,rfl,hq,r⟩:=Ru ry
  exact sq r2 (.inl hq.sq) r h.1 h.2.1 h.2.2
 have rf:∀{a:Addr},Y7 X.K H y (.ref a)->(∃ys,C a=some (.lst ys)/\Yz v/\Yp ys Ul=true/\Q' (.bl (if neg then !Kq v ys else Kq v ys)) C)->wpAny (model X.prog X.w) X.A (compareOp (if neg then .NotIn else .In) v' u') (EP X pins σ Q) X.xe s:=λ{a} ry h=>by
  obtain⟨ts,ht,h1,h2,h3⟩:=h
  obtain⟨zs,hz,rz⟩:=R.lst ht
  cases Zs ry
  exact sq r2 (.inl (Xr.of hz)) rz h1 h2 h3
 cases u with
 | tup ts=>cases v<;>exact tpl ry h
 | cl ts=>cases v<;>exact cls ry h
 | ref a=>cases v<;>exact rf ry h
 | str j=>
  cases v with
  | str i=>
   cases Jl rx;cases Jl ry
   obtain⟨t,rfl⟩:=r1
   obtain⟨t',rfl⟩:=r2
   cases neg with
   | true=>exact notIn_str ⟨.bl _,H,I,rfl,q _ _ H C R (Tx.refl H) Jc h⟩
   | false=>exact in_str ⟨.bl _,H,I,rfl,q _ _ H C R (Tx.refl H) Jc h⟩
  | _=>exact False.elim h
 | non=>cases v<;>exact False.elim h
 | bl _=>cases v<;>exact False.elim h
 | int _=>cases v<;>exact False.elim h⟩
def wV (hu:X.A.units+150<cLine):Le X (compareOp .NotIn) y9:=pi true hu
def nY:kN X Lf:=⟨_,sw,λF H C x y v u Q Q' R rx ry h q=>by
 cases v<;>cases u<;>first | exact False.elim h | skip
 case tup.int xs i=>
  obtain⟨a,ys,rfl,hq,r⟩:=Z6 rx
  cases Ym ry
  obtain⟨v,hv,h⟩:=h
  obtain⟨z,hz,rz⟩:=r.at hv
  exact .inr (.inl ⟨a,ys,i,z,rfl,rfl,hq,hz,q _ _ H C R (Tx.refl H) rz h⟩)
 case cl.int xs i=>
  obtain⟨a,ys,rfl,hq,r⟩:=Ru rx
  cases Ym ry
  obtain⟨v,hv,h⟩:=h
  obtain⟨z,hz,rz⟩:=r.at hv
  exact .inl ⟨a,ys,i,z,rfl,rfl,hq.sq,hz,q _ _ H C R (Tx.refl H) rz h⟩
 case ref.int a i=>
  cases Zs rx
  cases Ym ry
  obtain⟨xs,v,hx,hv,h⟩:=h
  obtain⟨ys,hy,r⟩:=R.lst hx
  obtain⟨z,hz,rz⟩:=r.at hv
  exact .inl ⟨a,ys,i,z,rfl,rfl,Xr.of hy,hz,q _ _ H C R (Tx.refl H) rz h⟩
 case str.int z i=>
  cases Jl rx
  cases Ym ry
  obtain⟨hl,c,hc,h⟩:=h
  exact .inr (.inr ⟨z,i,c,rfl,rfl,hl,hc,q _ _ H C R (Tx.refl H) V0 h⟩)⟩
def lG (X:Cx)(w:T->Option Int->Option Int->Hw->WK->Prop):Prop:=∃r,xL X r/\∀(F H:Hp) (C:Hw) (x:V) (v:T) (lo hi:Option Int) (Q:VK) (Q':WK),Rl X.K F H C->Y7 X.K H x v->w v lo hi C Q'->QE X.K F H Q Q'->r x lo hi H Q
def Pc {K:W.Frag}{H:Hp}{ys:List V}{xs:List T}(r:Reps K H ys xs)(lo hi:Option Int):Reps K H (Ep ys lo hi) (Pd xs lo hi):=by
 unfold Ep Pd
 rw[r.length]
 exact(r.drop _).take _
def nV:lG X oZ:=⟨_,yP.or (wj.or uG),λF H C x v lo hi Q Q' R rx h q=>by
 cases v with
 | tup xs=>
  obtain⟨a,ys,rfl,hq,r⟩:=Z6 rx
  exact .inl ⟨a,ys,rfl,hq,by rw[r.length];exact h.1,λp hp=>q _ _ _ C (R.hid hp) (Tx.new hp) (Jq (V6.of Z9) ((Pc r lo hi).tx (Tx.new hp))) h.2⟩
 | cl xs=>
  obtain⟨a,ys,rfl,hq,r⟩:=Ru rx
  exact .inr (.inl ⟨a,ys,rfl,hq.sq,λp hp=>q _ _ _ _ (R.newL hp (Pc r lo hi)) (Tx.new hp) Y2 (h p (R.free hp))⟩)
 | ref a=>
  cases Zs rx
  obtain⟨xs,hx,h⟩:=h
  obtain⟨ys,hy,r⟩:=R.lst hx
  exact .inr (.inl ⟨a,ys,rfl,Xr.of hy,λp hp=>q _ _ _ _ (R.newL hp (Pc r lo hi)) (Tx.new hp) Y2 (h p (R.free hp))⟩)
 | str z=>cases Jl rx;exact .inr (.inr ⟨z,rfl,h.1,q _ _ H C R (Tx.refl H) V0 h.2⟩)
 | _=>exact False.elim h⟩
def Wr {K:W.Frag}{H:Hp}{xs:List V}{v:T}(h:Reps K H xs [v]):∃x,xs=[x]/\Y7 K H x v:=by
 obtain⟨y,r,rfl,a,b⟩:=Yg h
 cases J4 b
 exact⟨y,rfl,a⟩
def tN {K:W.Frag}{H:Hp}{xs:List V}{v w:T}(h:Reps K H xs [v,w]):∃x y,xs=[x,y]/\Y7 K H x v/\Y7 K H y w:=by
 obtain⟨y,r,rfl,a,b⟩:=Yg h
 obtain⟨z,rfl,c⟩:=Wr b
 exact⟨y,z,rfl,a,c⟩
def Ew:Qa X (.builtin "len") pV:=⟨_,Gn.or Gm,λF H C xs vs Q Q' R rs h q=>by
 obtain⟨v,rfl,h⟩:=h
 obtain⟨x,rfl,rx⟩:=Wr rs
 cases v with
 | str z=>cases Jl rx;exact .inr ⟨z,rfl,h.1,q _ _ H C R (Tx.refl H) Xb h.2⟩
 | tup xs=>
  obtain⟨a,ys,rfl,hq,r⟩:=Z6 rx
  exact .inl ⟨a,ys,rfl,.inr hq,by rw[r.length];exact q _ _ H C R (Tx.refl H) Xb h⟩
 | cl xs=>
  obtain⟨a,ys,rfl,hq,r⟩:=Ru rx
  exact .inl ⟨a,ys,rfl,.inl hq.sq,by rw[r.length];exact q _ _ H C R (Tx.refl H) Xb h⟩
 | ref a=>
  cases Zs rx
  obtain⟨xs,hx,h⟩:=h
  obtain⟨ys,hy,r⟩:=R.lst hx
  exact .inl ⟨a,ys,rfl,.inl (Xr.of hy),by rw[r.length];exact q _ _ H C R (Tx.refl H) Xb h⟩
 | _=>exact False.elim h⟩
def Fo {K:W.Frag}{H:Hp}:∀{bs:List Bool} {ys:List V},Reps K H ys (bs.map T.bl)->ys=bs.map V.bl
 | [],_,h=>J4 h
 | b::bs,_,h=>by obtain⟨y,r,rfl,a,c⟩:=Yg h;cases Q1 a;rw[Fo c];rfl
def Pe:Qa X (.type "tuple") Gp:=⟨_,Lv,λF H C xs vs Q Q' R rs h q=>by
 obtain⟨v,rfl,h⟩:=h
 obtain⟨x,rfl,rx⟩:=Wr rs
 cases v with
 | tup xs=>
  obtain⟨a,ys,rfl,hq,r⟩:=Z6 rx
  exact⟨a,ys,rfl,.inr ⟨hq,q _ _ H C R (Tx.refl H) (Jq hq r) h⟩⟩
 | cl xs=>
  obtain⟨a,ys,rfl,hq,r⟩:=Ru rx
  exact⟨a,ys,rfl,.inl ⟨hq.sq,λp hp=>q _ _ _ C (R.hid hp) (Tx.new hp) (Jq (V6.of Z9) (r.tx (Tx.new hp))) h⟩⟩
 | ref a=>
  cases Zs rx
  obtain⟨xs,hx,h⟩:=h
  obtain⟨ys,hy,r⟩:=R.lst hx
  exact⟨a,ys,rfl,.inl ⟨Xr.of hy,λp hp=>q _ _ _ C (R.hid hp) (Tx.new hp) (Jq (V6.of Z9) (r.tx (Tx.new hp))) h⟩⟩
 | _=>exact False.elim h⟩
def sY:Qa X (.type "list") ur:=⟨_,Gk,λF H C xs vs Q Q' R rs h q=>by
 obtain⟨v,rfl,h⟩:=h
 obtain⟨x,rfl,rx⟩:=Wr rs
 cases v with
 | tup xs=>
  obtain⟨a,ys,rfl,hq,r⟩:=Z6 rx
  exact⟨a,ys,rfl,.inr hq,λp hp=>q _ _ _ _ (R.newL hp r) (Tx.new hp) Y2 (h p (R.free hp))⟩
 | cl xs=>
  obtain⟨a,ys,rfl,hq,r⟩:=Ru rx
  exact⟨a,ys,rfl,.inl hq.sq,λp hp=>q _ _ _ _ (R.newL hp r) (Tx.new hp) Y2 (h p (R.free hp))⟩
 | ref a=>
  cases Zs rx
  obtain⟨xs,hx,h⟩:=h
  obtain⟨ys,hy,r⟩:=R.lst hx
  exact⟨a,ys,rfl,.inl (Xr.of hy),λp hp=>q _ _ _ _ (R.newL hp r) (Tx.new hp) Y2 (h p (R.free hp))⟩
 | _=>exact False.elim h⟩
def Ux:oj X "list.append" B7:=⟨_,Kk,λF H C x v xs vs Q Q' R rx rs h q=>by
 obtain⟨a,ts,y,rfl,rfl,hx,hl,h⟩:=h
 cases Zs rx
 obtain⟨z,rfl,rz⟩:=Wr rs
 obtain⟨ys,hy,r⟩:=R.lst hx
 obtain⟨R',t⟩:=R.putL hx (r.snoc rz)
 exact⟨a,ys,z,rfl,rfl,hy,by rw[r.length];exact hl,q _ _ _ _ R' t Qx h⟩⟩
def B6:oj X "list.pop" px:=⟨_,tQ,λF H C x v xs vs Q Q' R rx rs h q=>by
 obtain⟨a,ts,y,rfl,rfl,hx,hy,h⟩:=h
 cases Zs rx
 cases J4 rs
 obtain⟨ys,hys,r⟩:=R.lst hx
 obtain⟨z,hz,rz⟩:=r.get hy
 obtain⟨R',t⟩:=R.putL hx r.dropLast
 exact⟨a,ys,z,rfl,rfl,hys,by rw[r.length];exact hz,q _ _ _ _ R' t (rz.tx t) h⟩⟩
end
section
variable {X:Cx}{a b c e:Expr}{es:List Expr}{wa wb wc:WE}{wt wt':WT}{wA:WA}{w w':W2}{pos p apos cpos:Pos}{Xl:List Expr}
def Zb (i:Nat){x:Str}(hN:X.N[i]?=some x:=by rfl)(hv:oH X.env.scope x:=by first | exact Or.inl rfl | exact Or.inr (Or.inl rfl) | exact Or.inr (Or.inr rfl))(hd:(x==("__debug__":Str))=false:=by decide)
  (hcd:(x==("__classdict__":Str))=false:=by decide):Jd X (.Name x pos) (Y0 i):=⟨_,tf hN hv hd hcd,qv⟩
def Zh {i j}:Jd X (.Constant (.int i) j pos) (eC (.int i)):=⟨_,t7,o8 λ_=>Xb⟩
def Zk {i j}:Jd X (.Constant (.str i) j pos) (eC (.str i)):=⟨_,tq,o8 λ_=>V0⟩
def sT {i j}:Jd X (.Constant (.bool i) j pos) (eC (.bl i)):=⟨_,qU,o8 λ_=>Jc⟩
def Ao {j}:Jd X (.Constant .none j pos) (eC .non):=⟨_,tw,o8 λ_=>Qx⟩
def ii (K:W.Frag)(mg:Str->Option Value)(x:Str)(v:T):Prop:=∃z u,mg x=some u/\Z0 z u/\∀H,Y7 K H z v
def Yu {op:Operator}(ho:Le X (binaryOp op) w)(ha:Jd X a wa)(hb:Jd X b wb):Jd X (.BinOp a op b pos) (Wi w wa wb):=by
 obtain⟨r,h1,h2⟩:=ho
 obtain⟨ta,p1,s1⟩:=ha
 obtain⟨tb,p2,s2⟩:=hb
 exact⟨_,qQ h1 p1 p2,wu s1 s2 h2⟩
def Aq {op:CmpOp}(ho:Le X (compareOp op) w)(ha:Jd X a wa)(hb:Jd X b wb)(hm:behindInMarks op b=false):Jd X (.Compare a [op] [b] pos) (Wi w wa wb):=by
 obtain⟨r,h1,h2⟩:=ho
 obtain⟨ta,p1,s1⟩:=ha
 obtain⟨tb,p2,s2⟩:=hb
 exact⟨_,wO h1 p1 p2 hm,wu s1 s2 h2⟩
def xn (ha:Jd X a wa)(hb:Jd X (.BoolOp .And (b::Xl) pos) wb):Jd X (.BoolOp .And (a::b::Xl) pos) (sL wa wb):=by
 obtain⟨ta,p1,s1⟩:=ha
 obtain⟨tb,p2,s2⟩:=hb
 exact⟨_,tE p1 p2,qD s1 s2⟩
def ul {op}(ha:Jd X a wa):Jd X (.BoolOp op [a] pos) wa:=by
 obtain⟨ta,p1,s1⟩:=ha
 exact⟨_,tu p1,s1⟩
def pQ (hc:xM X c wt)(ha:Jd X a wa)(hb:Jd X b wb):Jd X (.IfExp c a b pos) (mv wt wa wb):=by
 obtain⟨ta,p1,s1⟩:=ha
 obtain⟨tb,p2,s2⟩:=hb
 obtain⟨tc,p3,s3⟩:=hc
 exact⟨_,jm p3 p1 p2,nE s3 s1 s2⟩
def Zc:yi X [] Zw:=⟨_,Dp,qz⟩
def Za (ha:Jd X a wa)(hb:yi X es wA)(hs:starEach (a::es) X.env=(false,eval a X.env)::starEach es X.env:=by rfl):yi X (a::es) (Ya wa wA):=by
 obtain⟨ta,p1,s1⟩:=ha
 obtain⟨tb,p2,s2⟩:=hb
 exact⟨_,Nc p1 p2 hs,uJ s1 s2⟩
def Zf {x1}(h:yi X es wA):Jd X (.Tuple es x1 pos) (O0 wA):=by
 obtain⟨t,p,s⟩:=h
 exact⟨_,tj p,qw s⟩
def Z8 (h:yi X es wA):Jd X (.List es pos) (Co wA):=by
 obtain⟨t,p,s⟩:=h
 exact⟨_,t0 p,q5 s⟩
def Yd (ha:Jd X a wa)(hb:Jd X b wb)(hs:A0 b:=by exact λ_ _=>rfl):Jd X (.Subscript a b pos) (Wi Lf wa wb):=by
 obtain⟨r,h1,h2⟩:=nY (X:=X)
 obtain⟨ta,p1,s1⟩:=ha
 obtain⟨tb,p2,s2⟩:=hb
 exact⟨_,qR h1 p1 p2 hs,wu s1 s2 h2⟩
def rN (X:Cx)(e:Option Expr)(w:Sw->Hw->(Option Int->Hw->Prop)->WX->Prop):Prop:=∃t,PO X e t/\∀(F H:Hp) (C:Hw) (σ:L2.St) (τ:Sw) (Q:Option Int->Hp->Prop) (Q':Option Int->Hw->Prop) (χ:WX),Rl X.K F H C->J6 X.K H σ τ->w τ C Q' χ->
 (∀o H' C',Rl X.K F H' C'->Tx H H'->Q' o C'->Q o H')->t σ H Q
def Va:rN X none oB:=⟨_,wJ,λF H C σ τ Q Q' χ R S h q=>q none H C R (Tx.refl H) h⟩
def Xo (ha:Jd X a wa):rN X (some a) (B4 wa):=by
 obtain⟨ta,p1,s1⟩:=ha
 refine⟨_,wI p1,λF H C σ τ Q Q' χ R S h q=>?_⟩
 refine s1 F H C σ τ _ _ χ R S h λx v H1 C1 R1 t1 rx h1=>?_
 obtain⟨i,rfl,h1⟩:=h1
 exact⟨i,Ym rx,q (some i) H1 C1 R1 t1 h1⟩
def Gb {lo hi:Option Expr}{wl wh:Sw->Hw->(Option Int->Hw->Prop)->WX->Prop}{p2:Pos}(ha:Jd X a wa)(hl:rN X lo wl)(hh:rN X hi wh):Jd X (.Subscript a (.Slice lo hi none p2) pos) (oF wa wl wh):=by
 obtain⟨r,h1,h2⟩:=nV (X:=X)
 obtain⟨ta,p1,s1⟩:=ha
 obtain⟨tl,p3,s3⟩:=hl
 obtain⟨th,p4,s4⟩:=hh
 refine⟨_,Fq h1 p1 p3 p4,λF H C σ τ Q Q' χ R S h q=>?_⟩
 refine s1 F H C σ τ _ _ χ R S h λx v H1 C1 R1 t1 rx h1=>?_
 refine s3 F H1 C1 σ τ _ _ χ R1 (S.tx t1) h1 λl H2 C2 R2 t2 h2'=>?_
 refine s4 F H2 C2 σ τ _ _ χ R2 (S.tx (t1.trans t2)) h2' λu H3 C3 R3 t3 h3=>?_
 exact h2 F H3 C3 x v l u Q Q' R3 ((rx.tx t2).tx t3) h3 (QE.at q ((t1.trans t2).trans t3))
def En {x:Str}{id:String}{r:List T->Hw->WK->Prop}(hc:Qa X (.builtin id) r)(hg:Gl X x)(hm:X.mg x=none)(hv:bootBuiltins x=some (.builtin id))(ha:yi X (e::es) wA)(hn:x≠"__name__":=by decide)(hdb:(x==("__debug__":Str))=false:=by decide)
  (he:starEach (e::es) X.env=(false,eval e X.env)::starEach es X.env:=by rfl) (hpl:(backTo pos (starEach es X.env)).any (·.1)=false:=by rfl):Jd X (.Call (.Name x p) (e::es) [] pos) (sK r wA):=by
 obtain⟨r,h1,h2⟩:=hc
 obtain⟨t,p1,s1⟩:=ha
 exact⟨_,Fs h1 hg hm hv p1 hn hdb he hpl,qC h2 s1⟩
def Ls {x:Str}{id:String}{r:List T->Hw->WK->Prop}(hc:Qa X (.type id) r)(hg:Gl X x)(hm:X.mg x=none)(hv:bootBuiltins x=some (.type id))(ha:yi X (e::es) wA)(hn:x≠"__name__":=by decide)(hdb:(x==("__debug__":Str))=false:=by decide)
  (he:starEach (e::es) X.env=(false,eval e X.env)::starEach es X.env:=by rfl) (hpl:(backTo pos (starEach es X.env)).any (·.1)=false:=by rfl):Jd X (.Call (.Name x p) (e::es) [] pos) (sK r wA):=by
 obtain⟨r,h1,h2⟩:=hc
 obtain⟨t,p1,s1⟩:=ha
 exact⟨_,zv h1 hg hm hv p1 hn hdb he hpl,qC h2 s1⟩
def mF (X:Cx)(Tn:String)(ty:T->Hw->Prop):Prop:=∀(F H:Hp) (C:Hw) (x:V) (v:T),Rl X.K F H C->Y7 X.K H x v->ty v C->rK X.K Tn x H
def Jz:mF X "list" qa:=λF H C x v R rx h=>by
 obtain⟨a,xs,rfl,hx⟩:=h
 cases Zs rx
 obtain⟨ys,hy,r⟩:=R.lst hx
 exact L2.tyL hy
def Gc {o:Expr}{wo:WE}{name:Str}{Tn id:String}{ty:T->Hw->Prop}{r:T->List T->Hw->WK->Prop}(pa:PlainAttrs Tn)(slot:Slot Tn name id)(hty:typeOf (.builtin id)=pure (.type "method_descriptor"))(hT:mF X Tn ty)(hm:oj X id r)(ho:Jd X o wo)(ha:yi X (e::es) wA)
  (hbase:attributeBase o name X.env (eval o X.env)=eval o X.env:=by rfl)
  (hfew:((backTo cpos (starEach (e::es) X.env)).all (λx=>!x.1)&&(backToKw cpos (keywordEach [] X.env)).all (λx=>x.1.isSome)
   &&decide ((e::es).length+([]:List Keyword).length+(if ([]:List Keyword).isEmpty then 0 else 1)<30))=true:=by rfl)
  (hline:(apos.endLine==cpos.line)=true:=by rfl) (hs:starEach (e::es) X.env=(false,eval e X.env)::starEach es X.env:=by rfl) (hplain:(backTo cpos (starEach es X.env)).any (·.1)=false:=by rfl):
  Jd X (.Call (.Attribute o name apos) (e::es) [] cpos) (mr ty r wo wA):=by
 obtain⟨rr,h1,h2⟩:=hm
 obtain⟨to,p1,s1⟩:=ho
 obtain⟨ta,p2,s2⟩:=ha
 refine⟨_,qT pa slot hty h1 p1 p2 hbase hfew hline hs hplain,λF H C σ τ Q Q' χ R S h q=>?_⟩
 refine s1 F H C σ τ _ _ χ R S h λx v H1 C1 R1 t1 rx h1'=>⟨hT F H1 C1 x v R1 rx h1'.1,?_⟩
 refine s2 F H1 C1 σ τ _ _ χ R1 (S.tx t1) h1'.2 λxs vs H2 C2 R2 t2 rs h2'=>?_
 exact h2 F H2 C2 x v xs vs Q Q' R2 (rx.tx t2) rs h2' (QE.at q (t1.trans t2))
def Ap {o:Expr}{wo:WE}{name:Str}{Tn id:String}{ty:T->Hw->Prop}{r:T->List T->Hw->WK->Prop}(pa:PlainAttrs Tn)(slot:Slot Tn name id)(hty:typeOf (.builtin id)=pure (.type "method_descriptor"))(hT:mF X Tn ty)(hm:oj X id r)(ho:Jd X o wo)
  (hbase:attributeBase o name X.env (eval o X.env)=eval o X.env:=by rfl) (hline:(apos.endLine==cpos.line)=true:=by rfl):
  Jd X (.Call (.Attribute o name apos) [] [] cpos) (mr ty r wo Zw):=by
 obtain⟨rr,h1,h2⟩:=hm
 obtain⟨to,p1,s1⟩:=ho
 refine⟨_,tD pa slot hty h1 p1 hbase hline,λF H C σ τ Q Q' χ R S h q=>?_⟩
 refine s1 F H C σ τ _ _ χ R S h λx v H1 C1 R1 t1 rx h1'=>⟨hT F H1 C1 x v R1 rx h1'.1,?_⟩
 exact h2 F H1 C1 x v [] [] Q Q' R1 rx Ys h1'.2 (QE.at q t1)
def ve {K:W.Frag}{n c:String}(hn:n∈["NoneType","bool","int","str","tuple","list","dict"])(hc:c∈["bool","int","str","tuple","list","dict"]):W.kitOne K (.type n) (.type c)=some (Ag n c):=by
 simp only[ZM,ZN,or_false] at hn hc
 rcases hn with rfl | rfl | rfl | rfl | rfl | rfl | rfl<;>rcases hc with rfl | rfl | rfl | rfl | rfl | rfl<;>rfl
def xU {v:T}{C:Hw}{n:String}(h:rZ v C n):n∈["NoneType","bool","int","str","tuple","list","dict"]:=by
 cases v with
 | non=>cases h;decide
 | bl _=>cases h;decide
 | int _=>cases h;decide
 | str _=>cases h;decide
 | tup _=>cases h;decide
 | cl _=>cases h;decide
 | ref _=>rcases h with⟨rfl,_⟩ | ⟨rfl,_⟩<;>decide
def sA {pins:List (Addr×Obj)}{σ:L2.St}{F H:Hp}{C:Hw}{s:Shared}{x:V}{v:T}{u:Value}{n c:String}{Q:Value->Shared->Prop}(I:Zp X pins σ H s)(R:Rl X.K F H C)(rx:Y7 X.K H x v)(ru:Z0 x u)(hn:rZ v C n)(hc:c∈["bool","int","str","tuple","list","dict"])
  (h:∀tk,Q (.bool (Ag n c)) {s with toks:=tk}):wpAny (model X.prog X.w) X.A (call (.builtin "isinstance") [u,.type c]) Q X.xe s:=by
 have e:=ve (K:=X.K) (xU hn) hc
 cases v with
 | non=>cases hn;cases Qf rx;exact Vf I ru .non e h
 | bl b=>cases hn;cases Q1 rx;exact Vf I ru (.bl b) e h
 | int b=>cases hn;cases Ym rx;exact Vf I ru (.int b) e h
 | str b=>cases hn;cases Jl rx;exact Vf I ru (.str b) e h
 | tup xs=>
  cases hn
  obtain⟨a,ys,rfl,hq,r⟩:=Z6 rx
  cases ru
  obtain⟨its,_,⟨o,h1,h2,_⟩,_⟩:=I.tuple hq
  exact W.kia_one W.kitx_tuple I.kIn ⟨o,h1,h2⟩ e (λz=>nomatch z) h
 | cl xs=>
  cases hn
  obtain⟨a,ys,rfl,hq,r⟩:=Ru rx
  cases ru
  obtain⟨its,_,p,_⟩:=I.list hq.sq
  obtain⟨o,h1,h2,_⟩:=p.isList
  exact W.kia_one W.kitx_list I.kIn ⟨o,h1,h2⟩ e (λz=>nomatch z) h
 | ref a=>
  cases Zs rx
  rcases hn with⟨rfl,xs,hx⟩ | ⟨rfl,kvs,hx⟩
  ·obtain⟨ys,hy,r⟩:=R.lst hx
   exact Vf I ru (.lst hy) e h
  ·obtain⟨ks,hy,r⟩:=R.obj a _ hx
   exact Vf I ru (.dK hy) e h
def pP {x:Str}{q2:Pos}{c:String}(hg:Gl X "isinstance")(hm:X.mg "isinstance"=none)(hgx:Gl X x)(hmx:X.mg x=none)(hvx:bootBuiltins x=some (.type c))(hc:c∈["bool","int","str","tuple","list","dict"])(ha:Jd X a wa)
  (hnx:x≠"__name__":=by decide) (hdx:(x==("__debug__":Str))=false:=by decide) (he:starEach [a,.Name x q2] X.env=[(false,eval a X.env),(false,eval (.Name x q2) X.env)]:=by rfl):Jd X (.Call (.Name "isinstance" p) [a,.Name x q2] [] pos) (pH wa c):=by
 obtain⟨ta,p1,s1⟩:=ha
 let r:List V->Hp->VK->Prop:=λxs H Q=>∃y F C v n,xs=[y,.ty c]/\Rl X.K F H C/\Y7 X.K H y v/\rZ v C n/\Q (.bl (Ag n c)) H
 have hr:Wj X (.builtin "isinstance") r:=by
  intro pins s σ H xs us Q I rs h
  obtain⟨y,F,C,v,n,rfl,R,ry,hn,q⟩:=h
  obtain⟨u,u2,rfl,ru,ru2⟩:=rs.two
  cases ru2
  exact sA I R ry ru hn hc λtk=>⟨.bl _,H,I.tok tk,rfl,q⟩
 refine⟨_,Fs hr hg hm Lw (Nc p1 (Nc (wQ (v:=.ty c) hgx hmx hvx rfl hnx hdx) Dp (by rw[show starEach [Expr.Name x q2] X.env=[(false,eval (.Name x q2) X.env)] from rfl];rfl)) ?_) (by decide) (by decide) ?_ ?_,?_⟩
 ·rw[he];rfl
 ·rw[he];rfl
 ·rfl
 ·intro F H C σ τ Q Q' χ R S h q
  refine s1 F H C σ τ _ _ χ R S h λy v H1 C1 R1 t1 ry h1=>?_
  obtain⟨n,hn,h1⟩:=h1
  exact⟨y,F,C1,v,n,rfl,R1,ry,hn,q _ _ H1 C1 R1 t1 Jc h1⟩
def Zm {op:CmpOp}(ho:Le X (compareOp op) w)(ha:Jd X a wa)(hb:Jd X b wb)(hm:behindInMarks op b=false:=by exact Du _):xM X (.Compare a [op] [b] pos) (yN (Wi w wa wb)):=by
 obtain⟨r,h1,h2⟩:=ho
 obtain⟨ta,p1,s1⟩:=ha
 obtain⟨tb,p2,s2⟩:=hb
 exact⟨_,wC h1 p1 p2 hm,nF (wu s1 s2 h2)⟩
def sO (ha:Jd X a wa)(he:∀whole,isTrue a X.env whole=(do let v <-whole;standAt a.pos;holding [v] (truthy v)):=by intro _;rfl):xM X a (uD wa):=by
 obtain⟨ta,p1,s1⟩:=ha
 exact⟨_,jd p1 he,qx s1⟩
def vq (ha:xM X a wt):rD X (.BoolOp .And [a] pos) wt:=by
 obtain⟨t,p,s⟩:=ha
 exact⟨_,w9 p,s⟩
def Mx (ha:xM X a wt):rD X (.BoolOp .Or [a] pos) wt:=by
 obtain⟨t,p,s⟩:=ha
 exact⟨_,uP p,s⟩
def sN (ha:xM X a wt)(hb:rD X (.BoolOp .And (b::Xl) pos) wt'):rD X (.BoolOp .And (a::b::Xl) pos) (nD wt wt'):=by
 obtain⟨t,p,s⟩:=ha
 obtain⟨t',p',s'⟩:=hb
 exact⟨_,uQ p p',nG s s'⟩
def Kv (ha:xM X a wt)(hb:rD X (.BoolOp .Or (b::Xl) pos) wt'):rD X (.BoolOp .Or (a::b::Xl) pos) (yJ wt wt'):=by
 obtain⟨t,p,s⟩:=ha
 obtain⟨t',p',s'⟩:=hb
 exact⟨_,qL p p',qy s s'⟩
def zT (h:rD X a wt):xM X a wt:=by
 obtain⟨t,p,s⟩:=h
 exact⟨_,p.pt,s⟩
end
structure vQ (K:W.Frag)(F H:Hp)(D:Lz)(D':We):Prop where
 nx:∀σ τ H' C',Rl K F H' C'->Tx H H'->J6 K H' σ τ->D'.nx τ C'->D.nx σ H'
 rt:∀x v H' C',Rl K F H' C'->Tx H H'->Y7 K H' x v->D'.rt v C'->D.rt x H'
 bk:∀σ τ H' C',Rl K F H' C'->Tx H H'->J6 K H' σ τ->D'.bk τ C'->D.bk σ H'
 ct:∀σ τ H' C',Rl K F H' C'->Tx H H'->J6 K H' σ τ->D'.ct τ C'->D.ct σ H'
def vQ.at {K:W.Frag}{F H H1:Hp}{D:Lz}{D':We}(h:vQ K F H D D')(t:Tx H H1):vQ K F H1 D D':=
 ⟨λσ τ H' C' R t'=>h.nx σ τ H' C' R (t.trans t'),λx v H' C' R t'=>h.rt x v H' C' R (t.trans t'),λσ τ H' C' R t'=>h.bk σ τ H' C' R (t.trans t'),λσ τ H' C' R t'=>h.ct σ τ H' C' R (t.trans t')⟩
def yg (K:W.Frag)(t:TS)(w:WS):Prop:=∀(F H:Hp) (C:Hw) (σ:L2.St) (τ:Sw) (D:Lz) (D':We),Rl K F H C->J6 K H σ τ->w D' τ C->vQ K F H D D'->t D σ H
def Ba (K:W.Frag)(t:TG)(w:WG):Prop:=∀(F H:Hp) (C:Hw) (σ:L2.St) (τ:Sw) (x:V) (v:T) (Q:L2.St->Hp->Prop) (Q':Sw->Hw->Prop) (χ:WX),Rl K F H C->J6 K H σ τ->Y7 K H x v->w v τ C Q' χ->
 (∀σ' τ' H' C',Rl K F H' C'->Tx H H'->J6 K H' σ' τ'->Q' τ' C'->Q σ' H')->t x σ H Q
def E1 (K:W.Frag)(t:E8)(w:xA):Prop:=∀(F H:Hp) (C:Hw) (σ:L2.St) (τ:Sw) (x:List V) (v:List T) (Q:L2.St->Hp->Prop) (Q':Sw->Hw->Prop) (χ:WX),Rl K F H C->J6 K H σ τ->Reps K H x v->w v τ C Q' χ->
 (∀σ' τ' H' C',Rl K F H' C'->Tx H H'->J6 K H' σ' τ'->Q' τ' C'->Q σ' H')->t x σ H Q
def yh (X:Cx)(st:Stmt)(w:WS):Prop:=∃t,PS X st t/\yg X.K t w
def xC (X:Cx)(st:List Stmt)(w:WS):Prop:=∃t,A3 X st t/\yg X.K t w
def rE (X:Cx)(e:Expr)(w:WG):Prop:=∃t,PG X e t/\Ba X.K t w
def vP (X:Cx)(e:List Expr)(w:xA):Prop:=∃t,oh X e t/\E1 X.K t w
section
variable {X:Cx}{st:Stmt}{Xl:List Stmt}{w u:WS}{e tg:Expr}{we:WE}{wt:WT}{g:WG}{gs:xA}{pos:Pos}
def Yw {K:W.Frag}{i:Nat}:Ba K (Jx i) (zO i):=λF H C σ τ x v Q Q' χ R S r h q=>q _ _ H C R (Tx.refl H) (S.set r) h
def Iq {K:W.Frag}:E1 K Cg Eg:=λF H C σ τ x v Q Q' χ R S r h q=>by
 obtain⟨rfl,h⟩:=h
 exact⟨J4 r,q _ _ H C R (Tx.refl H) S h⟩
def Vy {K:W.Frag}{t:TG}{u:E8}{g:WG}{gs:xA}(a:Ba K t g)(b:E1 K u gs):E1 K (Ss t u) (Oa g gs):=λF H C σ τ x v Q Q' χ R S r h q=>by
 obtain⟨v1,vs,rfl,h⟩:=h
 obtain⟨y,ys,rfl,r1,r2⟩:=Yg r
 refine⟨y,ys,rfl,a F H C σ τ y v1 _ _ χ R S r1 h λσ' τ' H' C' R' t' S' h'=>?_⟩
 exact b F H' C' σ' τ' ys vs Q Q' χ R' S' (r2.tx t') h' λσ2 τ2 H2 C2 R2 t2=>q σ2 τ2 H2 C2 R2 (t'.trans t2)
def Ip {K:W.Frag}{u:E8}{gs:xA}{n:Nat}(b:E1 K u gs)(hn:∀vs τ C Q χ,gs vs τ C Q χ->vs.length=n):Ba K (Cf K n u) (oE gs):=λF H C σ τ x v Q Q' χ R S r h q=>by
 obtain⟨vs,rfl,h⟩:=h
 obtain⟨a,ys,rfl,hq,rs⟩:=Z6 r
 exact⟨a,ys,rfl,hq,by rw[rs.length];exact hn _ _ _ _ _ h,b F H C σ τ ys vs Q Q' χ R S rs h q⟩
def A4 (n:Nat)(gs:xA):Prop:=∀vs τ C Q χ,gs vs τ C Q χ->vs.length=n
def Mp:A4 0 Eg:=λvs τ C Q χ h=>by rw[h.1];rfl
def Jw {n i:Nat}{gs:xA}(b:A4 n gs):A4 (n+1) (Oa (zO i) gs):=λvs τ C Q χ h=>by
 obtain⟨v,r,rfl,h⟩:=h
 rw[YF,b r _ _ _ _ h]
def Pa {i:Nat}{x:Str}(hN:X.N.Nodup)(hi:X.N[i]?=some x:=by rfl)(hx:rQ X.env.scope x:=by first | exact Or.inl rfl | exact Or.inr rfl)(hf:X.fn x=true\/X.env.scope.names.lookup x=some .local:=by first | exact .inl rfl | exact .inr rfl | assumption):rE X (.Name x pos) (zO i):=⟨_,Y3 hN hi hx hf,Yw⟩
def xh:vP X [] Eg:=⟨_,Nb,Iq⟩
def Nj {es:List Expr}(a:rE X e g)(b:vP X es gs)(hs:(assignEach (e::es) X.env).map (·.2)=assign e X.env::(assignEach es X.env).map (·.2):=by rfl):vP X (e::es) (Oa g gs):=by
 obtain⟨t,p,s⟩:=a
 obtain⟨t',p',s'⟩:=b
 exact⟨_,Wg p p' hs,Vy s s'⟩
def xg {es:List Expr}{k n:Nat}(hc:X.calm=true)(b:vP X es gs)(hl:A4 n gs)(hn:(assignEach es X.env).length=n:=by rfl)(hst:(assignEach es X.env).findIdx? (·.1)=none:=by rfl):rE X (.Tuple es k pos) (oE gs):=by
 obtain⟨t,p,s⟩:=b
 exact⟨_,I0 hc p hn hst,Ip s hl⟩
def Cq {o i:Expr}{wo wi:WE}(ho:Jd X o wo)(hi:Jd X i wi)
  (ha:∀v,assign (.Subscript o i pos) X.env v=(do
   let ov <-holding [v] (eval o X.env)
   let iv <-holding [v,ov] (eval i X.env)
   standAt pos
   holding [v,ov,iv] (setItem ov iv v)
   release [v,ov,iv] []):=by intro _;rfl):rE X (.Subscript o i pos) (lB wo wi):=by
 obtain⟨t,p,s⟩:=ho
 obtain⟨t',p',s'⟩:=hi
 refine⟨_,jj p p' yR ha,λF H C σ τ x v Q Q' χ R S r h q=>?_⟩
 refine s F H C σ τ _ _ χ R S h λy vy H1 C1 R1 t1 ry h1=>?_
 refine s' F H1 C1 σ τ _ _ χ R1 (S.tx t1) h1 λz vz H2 C2 R2 t2 rz h2=>?_
 obtain⟨a,xs,k,j,rfl,rfl,hx,hj,h2⟩:=h2
 cases Zs ry
 cases Ym rz
 obtain⟨ys,hy,rs⟩:=R2.lst hx
 have t12:=t1.trans t2
 obtain⟨R',t'⟩:=R2.putL hx (rs.set (r.tx t12) j)
 exact⟨a,ys,k,j,rfl,rfl,hy,by rw[rs.length];exact hj,q _ _ _ _ R' (t12.trans t') (S.tx (t12.trans t')) h2⟩
def Zo:xC X [] So:=⟨_,wF,λF H C σ τ D D' R S h d=>d.nx σ τ H C R (Tx.refl H) S h⟩
def Ga:yh X (.Continue pos) vY:=⟨_,Fp,λF H C σ τ D D' R S h d=>d.ct σ τ H C R (Tx.refl H) S h⟩
def Q9:yh X st Dg:=⟨_,jg,λF H C σ τ D D' R S h d=>h⟩
def Zi (a:yh X st w):xC X [st] w:=by
 obtain⟨t,p,s⟩:=a
 exact⟨_,wE p,s⟩
def Zd (a:yh X st w)(b:xC X Xl u):xC X (st::Xl) (Px w u):=by
 obtain⟨t,p,s⟩:=a
 obtain⟨t',p',s'⟩:=b
 refine⟨_,je p p',λF H C σ τ D D' R S h d=>?_⟩
 exact s F H C σ τ _ _ R S h ⟨λσ' τ' H' C' R' t' S' h'=>s' F H' C' σ' τ' D D' R' S' h' (d.at t'),d.rt,d.bk,d.ct⟩
def Yy (a:Jd X e we)(hs:swapsWith e none pos.line X.env=pure false:=by rfl):yh X (.Expr e pos) (Fj we):=by
 obtain⟨t,p,s⟩:=a
 refine⟨_,wG p hs,λF H C σ τ D D' R S h d=>?_⟩
 exact s F H C σ τ _ _ D'.xc R S h λx v H1 C1 R1 t1 rx h1=>d.nx σ τ H1 C1 R1 t1 (S.tx t1) h1
def Zl (a:Jd X e we):yh X (.Return (some e) pos) (Iz we):=by
 obtain⟨t,p,s⟩:=a
 refine⟨_,uU p,λF H C σ τ D D' R S h d=>?_⟩
 exact s F H C σ τ _ _ D'.xc R S h d.rt
def Zv {c:Expr}{a b:List Stmt}{wa wb:WS}(hc:xM X c wt)(ha:xC X a wa)(hb:xC X b wb):yh X (.If c a b pos) (wx wt wa wb):=by
 obtain⟨t,p,s⟩:=hc
 obtain⟨t1,p1,s1⟩:=ha
 obtain⟨t2,p2,s2⟩:=hb
 refine⟨_,qM p p1 p2,λF H C σ τ D D' R S h d=>?_⟩
 refine s F H C σ τ _ _ D'.xc R S h λk H1 C1 R1 t1 h1=>?_
 cases k with
 | true=>exact s1 F H1 C1 σ τ D D' R1 (S.tx t1) h1 (d.at t1)
 | false=>exact s2 F H1 C1 σ τ D D' R1 (S.tx t1) h1 (d.at t1)
def Qj (he:Jd X e we)(hg:rE X tg g)(hs:swapsWithSole [tg] e pos.line X.env=pure false:=by rfl)(hw:swappedStores [tg] e X.env=pure none:=by rfl)
  (h1:(assignEach [tg] X.env).map (·.2)=[assign tg X.env]:=by rfl):yh X (.Assign [tg] e pos) (Dh we g):=by
 obtain⟨t,p,s⟩:=he
 obtain⟨t',p',s'⟩:=hg
 refine⟨_,uX p p' hs hw h1,λF H C σ τ D D' R S h d=>?_⟩
 refine s F H C σ τ _ _ D'.xc R S h λx v H1 C1 R1 t1 rx h1=>?_
 exact s' F H1 C1 σ τ x v _ _ D'.xc R1 (S.tx t1) rx h1 λσ' τ' H' C' R' t'=>d.nx σ' τ' H' C' R' (t1.trans t')
def Zq {i:Nat}{x:Str}{pos':Pos}(hN:X.N.Nodup)(he:Jd X e we)(hi:X.N[i]?=some x:=by rfl)(hx:rQ X.env.scope x:=by first | exact Or.inl rfl | exact Or.inr rfl)(hs:swapsWith e (some (.Name x pos')) pos.line X.env=pure false:=by rfl)
  (hf:X.fn x=true\/X.env.scope.names.lookup x=some .local:=by first | exact .inl rfl | exact .inr rfl | assumption):yh X (.Assign [.Name x pos'] e pos) (Dh we (zO i)):=by
 obtain⟨t,p,s⟩:=he
 refine⟨_,uT hN hi hx p hs hf,λF H C σ τ D D' R S h d=>?_⟩
 refine s F H C σ τ _ _ D'.xc R S h λx v H1 C1 R1 t1 rx h1=>?_
 exact Yw F H1 C1 σ τ x v _ _ D'.xc R1 (S.tx t1) rx h1 λσ' τ' H' C' R' t'=>d.nx σ' τ' H' C' R' (t1.trans t')
end
def K7 (K:W.Frag)(F H0:Hp)(J:It)(xs:List T)(ok:Hw->Prop):Prop:=∀(i:Nat) (H:Hp) (C:Hw),Rl K F H C->Tx H0 H->ok C->
 (i<xs.length->J.go i H/\∀x H',J.yld i H x H'->∃v,xs[i]?=some v/\Rl K F H' C/\Tx H H'/\Y7 K H' x v)/\(i=xs.length->J.stop i H)
def rC (K:W.Frag)(wi:TI)(w:WI):Prop:=∀(F H:Hp) (C:Hw) (σ:L2.St) (τ:Sw) (R:It->Hp->Prop) (R':List T->(Hw->Prop)->Hw->Prop) (χ:WX),Rl K F H C->J6 K H σ τ->w τ C R' χ->
 (∀J H' xs ok C',Rl K F H' C'->Tx H H'->(∀F',K7 K F' H' J xs ok)->R' xs ok C'->R J H')->wi σ H R
def oI (X:Cx)(tg e:Expr)(w:WI):Prop:=∃t,PI X tg e t/\rC X.K t w
section
variable {X:Cx}{tg e a b:Expr}{we:WE}{wA:WA}{pos p:Pos}
def vh {K:W.Frag}{F H0:Hp}{l:Addr}{xs:List T}:K7 K F H0 (oO K l) xs (λC=>C l=some (.lst xs)):=λi H C R t ok=>by
 obtain⟨ys,hy,r⟩:=R.lst ok
 refine⟨λhi=>?_,λhi=>⟨ys,Xr.of hy,by rw[r.length];omega⟩⟩
 have ev:xs[i]?=some xs[i]:=by simp[hi]
 obtain⟨y,ey,ry⟩:=r.get ev
 refine⟨⟨ys,y,Xr.of hy,ey⟩,λx H' h=>?_⟩
 obtain⟨rfl,h⟩:=h
 have e2:=h ys (Xr.of hy)
 rw[ey] at e2;cases e2
 exact⟨_,ev,R,Tx.refl _,ry⟩
def pC {K:W.Frag}{F H0:Hp}{l:Addr}{ys:List V}{xs:List T}(h0:uv K H0 l ys)(r0:Reps K H0 ys xs):K7 K F H0 (oO K l) xs (λ_=>True):=λi H C R t ok=>by
 have hy:=(t.sqc h0).sq
 have r:=r0.tx t
 refine⟨λhi=>?_,λhi=>⟨ys,hy,by rw[r.length];omega⟩⟩
 have ev:xs[i]?=some xs[i]:=by simp[hi]
 obtain⟨y,ey,ry⟩:=r.get ev
 refine⟨⟨ys,y,hy,ey⟩,λx H' h=>?_⟩
 obtain⟨rfl,h⟩:=h
 have e2:=h ys hy
 rw[ey] at e2;cases e2
 exact⟨_,ev,R,Tx.refl _,ry⟩
def sx {K:W.Frag}{F H0:Hp}{l:Addr}{ys:List V}{xs:List T}(h0:V6 K H0 l ys)(r0:Reps K H0 ys xs):K7 K F H0 (mS K l) xs (λ_=>True):=λi H C R t ok=>by
 have hy:=t.sqt h0
 have r:=r0.tx t
 refine⟨λhi=>?_,λhi=>⟨ys,hy,by rw[r.length];omega⟩⟩
 have ev:xs[i]?=some xs[i]:=by simp[hi]
 obtain⟨y,ey,ry⟩:=r.get ev
 refine⟨⟨ys,y,hy,ey⟩,λx H' h=>?_⟩
 obtain⟨rfl,h⟩:=h
 have e2:=h ys hy
 rw[ey] at e2;cases e2
 exact⟨_,ev,R,Tx.refl _,ry⟩
def sy {K:W.Frag}{F H0:Hp}{z:Str}:K7 K F H0 (oN z) (z.cps.toList.map λc=>T.str ⟨#[c]⟩) (λ_=>True):=λi H C R t ok=>by
 refine⟨λhi=>⟨by show i<z.cps.size;simpa using hi,λx H' h=>?_⟩,λhi=>by show i=z.cps.size;simpa using hi⟩
 obtain⟨rfl,c,hc,rfl⟩:=h
 refine⟨.str ⟨#[c]⟩,?_,R,Tx.refl _,V0⟩
 rw[XM,Array.getElem?_toList,hc];rfl
def yO {pins:List (Addr×Obj)}{σ:L2.St}{H1:Hp}{s1:Shared}{R:It->Hp->Prop}{z:Str}{v:Value}(I1:Zp X pins σ H1 s1)(r1:Z0 (.str z) v)(q:R (oN z) H1):wpAny (model X.prog X.w) X.A (pyIter v) (mK X pins σ tg R) X.xe s1:=by
 obtain⟨t,rfl⟩:=r1
 have fin:∀b∈[s1.heap.objs.size],Pj X pins H1 b:=λb hb=>by
  have e:b=s1.heap.objs.size:=by simpa using hb
  subst e
  exact I1.fpOk (XE _) I1.fresh
 cases ha:z.cps.all (·<128)
 ·refine wpAny_pyIter_wide ha ⟨s1.heap.objs.size,[s1.heap.objs.size],_,_,H1,rfl,I1.kept (t':=s1.toks) λb o e=>XC _ e,Nv (ty:="str_iterator") (by decide) (λA hA=>Walks.strWide hA _ z t) λ_ _ _ _ _ st h=>wpAny_pyIter_striter_wide st h,⟨_,XF _ rfl,rfl,rfl⟩,fin,q⟩
 ·refine wpAny_pyIter_ascii ha ⟨s1.heap.objs.size,[s1.heap.objs.size],_,_,H1,rfl,I1.kept (t':=s1.toks) λb o e=>XC _ e,Nv (ty:="str_ascii_iterator") (by decide) (λA hA=>Walks.strAscii hA _ z t) λ_ _ _ _ _ st h=>wpAny_pyIter_striter_ascii st h,⟨_,XF _ rfl,rfl,rfl⟩,fin,q⟩
def mj (K:W.Frag)(tl:TE):TI:=λσ H R=>tl σ H λx H1=>(∃a,x=.ref a/\(∃xs,Xr K H1 a xs)/\R (oO K a) H1)\/(∃a,x=.ref a/\(∃xs,V6 K H1 a xs)/\R (mS K a) H1)\/∃z,x=.str z/\R (oN z) H1
def uZ {tl:TE}(hl:PE X e tl):PI X tg e (mj X.K tl):=by
 intro pins s σ H R I h
 refine Jp (hl pins s σ H _ I h) λv s1 ⟨x,H1,I1,r1,q1⟩=>?_
 rcases q1 with⟨a,rfl,⟨xs,hq⟩,q⟩ | ⟨a,rfl,⟨xs,hq⟩,q⟩ | ⟨z,rfl,q⟩
 ·cases r1
  obtain⟨its,rv,p,hz⟩:=I1.list hq
  refine wpAny_pyIter_list p.isList ?_
  refine⟨s1.heap.objs.size,[s1.heap.objs.size],_,_,H1,rfl,I1.kept (t':=s1.toks) λb o e=>XC _ e,zg a _,⟨_,XF _ rfl,rfl,rfl⟩,λb hb=>?_,q⟩
  have e:b=s1.heap.objs.size:=by simpa using hb
  subst e
  exact I1.fpOk (XE _) (I1.hok.fresh (XE _))
 ·cases r1
  obtain⟨its,rv,p,hz⟩:=I1.tuple hq
  refine wpAny_pyIter_tuple (show s1.heap.IsTuple a its.toArray from p) ?_
  refine⟨s1.heap.objs.size,[s1.heap.objs.size],_,_,H1,rfl,I1.kept (t':=s1.toks) λb o e=>XC _ e,Da a _,⟨_,XF _ rfl,rfl,rfl⟩,λb hb=>?_,q⟩
  have e:b=s1.heap.objs.size:=by simpa using hb
  subst e
  exact I1.fpOk (XE _) (I1.hok.fresh (XE _))
 ·exact yO I1 r1 q
def J5 (h:Jd X e we):oI X tg e (jJ we):=by
 obtain⟨t,p,s⟩:=h
 refine⟨_,uZ p,λF H C σ τ R R' χ Rr S h q=>?_⟩
 refine s F H C σ τ _ _ χ Rr S h λx v H1 C1 R1 t1 rx h1=>?_
 cases v with
 | tup xs=>
  obtain⟨a,ys,rfl,hq,r⟩:=Z6 rx
  exact .inr (.inl ⟨a,rfl,⟨ys,hq⟩,q _ H1 xs _ C1 R1 t1 (λ_=>sx hq r) h1⟩)
 | cl xs=>
  obtain⟨a,ys,rfl,hq,r⟩:=Ru rx
  exact .inl ⟨a,rfl,⟨ys,hq.sq⟩,q _ H1 xs _ C1 R1 t1 (λ_=>pC hq r) h1⟩
 | str z=>cases Jl rx;exact .inr (.inr ⟨z,rfl,q _ H1 _ _ C1 R1 t1 (λ_=>sy) h1⟩)
 | ref a=>
  cases Zs rx
  obtain⟨xs,hx,h1⟩:=h1
  obtain⟨ys,hy,r⟩:=R1.lst hx
  exact .inl ⟨a,rfl,⟨ys,Xr.of hy⟩,q _ H1 xs _ C1 R1 t1 (λ_=>vh) h1⟩
 | _=>exact False.elim h1
end
def wm {K:W.Frag}{wi:TI}{g:TG}{tb:TS}{i:WI}{g':WG}{b:WS}(hi:rC K wi i)(hg:Ba K g g')(hb:yg K tb b):yg K (ql wi g tb) (wz i g' b):=λF H C σ τ D D' R S h d=>by
 refine hi F H C σ τ _ _ D'.xc R S h λJ H1 xs ok C1 R1 t1 it h1=>?_
 have it1:=it F
 refine⟨λi m σ H=>m=xs.length-i/\i<=xs.length/\∃τ C,Rl K F H C/\Tx H1 H/\J6 K H σ τ/\Ch g' b ok D' (xs.drop i) τ C,⟨xs.length,by simp,Nat.zero_le _,τ,C1,R1,Tx.refl _,S.tx t1,h1⟩,?_⟩
 rintro i m σ2 H2 ⟨rfl,hle,τ2,C2,R2,t2,S2,h2⟩
 by_cases hlt:i<xs.length
 ·right
  have ed:xs.drop i=xs[i]::xs.drop (i+1):=List.drop_eq_getElem_cons hlt
  rw[ed] at h2
  obtain⟨hok,h2⟩:=h2
  obtain⟨hgo,hy⟩:=(it1 i H2 C2 R2 t2 hok).1 hlt
  refine⟨hgo,λσ' H'=>∃τ' C',Rl K F H' C'/\Tx H1 H'/\J6 K H' σ' τ'/\Ch g' b ok D' (xs.drop (i+1)) τ' C',λσ' H' q=>⟨xs.length-(i+1),by omega,rfl,hlt,q⟩,λx H' hx=>?_⟩
  obtain⟨v,ev,R3,t3,rv⟩:=hy x H' hx
  have:v=xs[i]:=by
   have e:xs[i]?=some xs[i]:=by simp[hlt]
   rw[e] at ev;exact(YH ev).symm
  subst this
  refine hg F H' C2 σ2 τ2 x _ _ _ D'.xc R3 (S2.tx t3) rv h2 λσ4 τ4 H4 C4 R4 t4 S4 h4=>?_
  have tt:Tx H1 H4:=(t2.trans t3).trans t4
  exact hb F H4 C4 σ4 τ4 _ _ R4 S4 h4 ⟨λσ5 τ5 H5 C5 R5 t5 S5 h5=>⟨τ5,C5,R5,tt.trans t5,S5,h5⟩,λx v H5 C5 R5 t5=>d.rt x v H5 C5 R5 ((t1.trans tt).trans t5),λσ5 τ5 H5 C5 R5 t5 S5 h5=>d.nx σ5 τ5 H5 C5 R5 ((t1.trans tt).trans t5) S5 h5,
   λσ5 τ5 H5 C5 R5 t5 S5 h5=>⟨τ5,C5,R5,tt.trans t5,S5,h5⟩⟩
 ·left
  have e:i=xs.length:=by omega
  subst e
  rw[List.drop_length] at h2
  obtain⟨hok,h2⟩:=h2
  exact⟨(it1 _ H2 C2 R2 t2 hok).2 rfl,d.nx σ2 τ2 H2 C2 R2 (t1.trans t2) S2 h2⟩
def Cp {X:Cx}{tg iter:Expr}{body:List Stmt}{i:WI}{g:WG}{b:WS}{pos:Pos}(hp:PassesOwn (model X.prog X.w) X.A X.env X.xe)(hc:X.calm=true)(hi:oI X tg iter i)(hg:rE X tg g)(hb:xC X body b)
  (hs:∀x,foldedSetIterable iter X.env x=pure x:=by intro _;rfl):yh X (.For tg iter body [] pos) (wz i g b):=by
 obtain⟨t,p,s⟩:=hi
 obtain⟨t',p',s'⟩:=hg
 obtain⟨t2,p2,s2⟩:=hb
 exact⟨_,uV hp hc p p' p2 hs,wm s s' s2⟩
def o0 (K:W.Frag)(we:WE):TE:=λσ H Q=>∃(F:Hp) (C:Hw) (τ:Sw) (Q':WK) (χ:WX),Rl K F H C/\J6 K H σ τ/\we τ C Q' χ/\QE K F H Q Q'
def zh (K:W.Frag)(wt:WT):TT:=λσ H Q=>∃(F:Hp) (C:Hw) (τ:Sw) (Q':Bool->Hw->Prop) (χ:WX),Rl K F H C/\J6 K H σ τ/\wt τ C Q' χ/\QT K F H Q Q'
def Jd.pe {X:Cx}{e:Expr}{we:WE}(h:Jd X e we):PE X e (o0 X.K we):=by
 obtain⟨t,p,s⟩:=h
 intro pins st σ H Q I hq
 obtain⟨F,C,τ,Q',χ,R,S,hw,q⟩:=hq
 exact p pins st σ H Q I (s F H C σ τ Q Q' χ R S hw q)
def vO (X:Cx)(ifs:List Expr)(w:WT):Prop:=∃t,xE X ifs t/\Od X.K t w
def Jr {X:Cx}:vO X [] yF:=⟨_,wK,λF H C σ τ Q Q' χ R S h q=>q true H C R (Tx.refl H) h⟩
def vO.pif {X:Cx}{ifs:List Expr}{w:WT}(h:vO X ifs w):xE X ifs (zh X.K w):=by
 obtain⟨t,p,s⟩:=h
 intro pins st σ H Q I hq
 obtain⟨F,C,τ,Q',χ,R,S,hw,q⟩:=hq
 exact p pins st σ H Q I (s F H C σ τ Q Q' χ R S hw q)
def J6.cap {K:W.Frag}{H:Hp}{σ:L2.St}{τ:Sw}(h:J6 K H σ τ)(cap:List (Option Nat)):J6 K H (Ql cap σ) (Ge cap τ):=by
 refine⟨by unfold Ql Ge;rw[XI,XI],λi v e=>?_⟩
 unfold Ge at e
 unfold Ql
 rw[XM] at e |-
 cases ho:cap[i]? with
 | none=>rw[ho] at e;cases e
 | some o=>
  rw[ho] at e
  cases o with
  | none=>simp at e
  | some j=>
   have e':(τ[j]?).join=some v:=by simpa using e
   have e2:τ[j]?=some (some v):=by
    cases hj:τ[j]? with
    | none=>rw[hj] at e';cases e'
    | some z=>rw[hj] at e';rw[show z=some v from e']
   obtain⟨x,hx,r⟩:=h.2 j v e2
   exact⟨x,by simp[hx],r⟩
def jQ (F:Hp)(p:Addr)(ys:List V):Hp:=λb=>if b=p then some (.lst ys) else F b
def Q3 {F:Hp}{p:Addr}{ys:List V}:jQ F p ys p=some (.lst ys):=by unfold jQ;rw[XY rfl]
def Ht {F:Hp}{p b:Addr}{ys:List V}(h:b≠p):jQ F p ys b=F b:=by unfold jQ;rw[XX h]
def Fa {K:W.Frag}{cap:List (Option Nat)}{wi:TI}{g:TG}{i:WI}{wg:WG}{wc:WT}{we:WE}(hi:rC K wi i)(hg:Ba K g wg){F H:Hp}{C:Hw}{σ:L2.St}{τ:Sw}{Q:Addr->Hp->Prop}{Q':WK}{χ:WX}
  (R:Rl K F H C) (S:J6 K H σ τ) (h:Kt cap i wg wc we τ C Q' χ) (q:∀p H' C',Rl K F H' C'->Tx H H'->Q' (.ref p) C'->Q p H'):Il cap wi g (zh K wc) (o0 K we) σ H Q:=by
 refine hi F H C σ τ _ _ χ R S h λJ H1 xs ok C1 R1 t1 it h1=>?_
 intro p hp
 have hn:∀a o,F a=some o->a≠p:=λa o e=>Y5 (R1.frm a o e).1 hp
 refine⟨λi m H2=>m=xs.length-i/\i<=xs.length/\∃C2 ys acc,Rl K (jQ F p ys) H2 C2/\Tx H1 H2/\Reps K H2 ys acc/\Oo wg wc we ok (Ge cap τ) (λvs C2=>∀p,C2 p=none->Q' (.ref p) (up C2 p (.lst vs))) χ (xs.drop i) acc C2,
  ⟨xs.length,by simp,Nat.zero_le _,C1,[],[],?_,Tx.new hp,Ys,h1⟩,?_⟩
 ·refine⟨(R1.hid hp).obj,λa o e=>?_⟩
  by_cases ea:a=p
  ·subst ea
   rw[Q3] at e;cases e
   exact⟨Z9,R1.free hp⟩
  ·rw[Ht ea] at e
   exact(R1.hid hp).frm a o e
 rintro i m H2 ⟨rfl,hle,C2,ys,acc,R2,t2,ra,h2⟩
 by_cases hlt:i<xs.length
 ·right
  have ed:xs.drop i=xs[i]::xs.drop (i+1):=List.drop_eq_getElem_cons hlt
  rw[ed] at h2
  obtain⟨hok,h2⟩:=h2
  obtain⟨hgo,hy⟩:=(it (jQ F p ys) i H2 C2 R2 t2 hok).1 hlt
  refine⟨hgo,λH'=>∃C2 ys acc,Rl K (jQ F p ys) H' C2/\Tx H1 H'/\Reps K H' ys acc/\Oo wg wc we ok (Ge cap τ) (λvs C2=>∀p,C2 p=none->Q' (.ref p) (up C2 p (.lst vs))) χ (xs.drop (i+1)) acc C2,
   λH' z=>⟨xs.length-(i+1),by omega,rfl,hlt,z⟩,λx H' hx=>?_⟩
  obtain⟨v,ev,R3,t3,rv⟩:=hy x H' hx
  have:v=xs[i]:=by
   have e:xs[i]?=some xs[i]:=by simp[hlt]
   rw[e] at ev;exact(YH ev).symm
  subst this
  have S3:J6 K H' (Ql cap σ) (Ge cap τ):=(S.tx ((t1.trans t2).trans t3)).cap cap
  refine hg (jQ F p ys) H' C2 (Ql cap σ) (Ge cap τ) x _ _ _ χ R3 S3 rv h2 λσ4 τ4 H4 C4 R4 t4 S4 h4=>?_
  refine⟨jQ F p ys,C4,τ4,_,χ,R4,S4,h4,λb H5 C5 R5 t5 h5=>?_⟩
  have t15:Tx H2 H5:=(t3.trans t4).trans t5
  cases b with
  | true=>
   refine⟨jQ F p ys,C5,τ4,_,χ,R5,S4.tx t5,h5,λy vy H6 C6 R6 t6 ry h6=>?_⟩
   obtain⟨e6,n6⟩:=R6.frm p _ Q3
   have tp:Tx H6 (Yq H6 p (.lst (ys++[y]))):=Tx.put e6 (λz=>z)
   refine⟨ys,e6,by rw[ra.length];exact h6.1,C6,ys++[y],acc++[vy],⟨λa o e=>?_,λa o e=>?_⟩,(t2.trans (t15.trans t6)).trans tp,((ra.tx (t15.trans t6)).snoc ry).tx tp,h6.2⟩
   ·have ea:a≠p:=λz=>by subst z;rw[n6] at e;cases e
    exact(R6.obj a o e).stay tp (Zy ea)
   ·by_cases ea:a=p
    ·subst ea
     rw[Q3] at e;cases e
     exact⟨Z9,n6⟩
    ·rw[Ht ea] at e
     rw[Zy ea]
     exact R6.frm a o (by rw[Ht ea];exact e)
  | false=>exact⟨C5,ys,acc,R5,t2.trans t15,ra.tx t15,h5⟩
 ·left
  have e:i=xs.length:=by omega
  subst e
  rw[List.drop_length] at h2
  obtain⟨hok,h2⟩:=h2
  refine⟨(it (jQ F p ys) _ H2 C2 R2 t2 hok).2 rfl,?_⟩
  obtain⟨e6,n6⟩:=R2.frm p _ Q3
  refine q p H2 (up C2 p (.lst acc)) ⟨λa o e=>?_,λa o e=>?_⟩ (t1.trans t2) (h2 p n6)
  ·by_cases ea:a=p
   ·subst ea
    rw[Ze] at e;cases e
    exact⟨ys,e6,ra⟩
   ·rw[Zg ea] at e
    exact R2.obj a o e
  ·have ea:=hn a o e
   rw[Zg ea]
   exact R2.frm a o (by rw[Ht ea];exact e)
section
variable {X:Cx}{tg iter elt:Expr}{ifs:List Expr}{scope:Scope}{pos:Pos}{cN:List Str}{cap:List (Option Nat)}{cl:List (Str×Addr)}{js:List Nat}{i:WI}{g:TG}{wg:WG}{wc:WT}{we:WE}
def Kb {K:W.Frag}{w:WT}:∀(σ:L2.St) (H:Hp) (Q Q':Bool->Hp->Prop),(∀b H',Q b H'->Q' b H')->zh K w σ H Q->zh K w σ H Q':=λσ H Q Q' m h=>by
 obtain⟨F,C,τ,R',χ,R,S,hw,q⟩:=h
 exact⟨F,C,τ,R',χ,R,S,hw,λb H' C' r t h=>m _ _ (q b H' C' r t h)⟩
structure uz (X:Cx)(tg iter elt:Expr)(ifs:List Expr)(scope:Scope)(cN:List Str)(cap:List (Option Nat))(cl:List (Str×Addr))(js:List Nat)(i:WI)(g:TG)(wg:WG)(wc:WT)(we:WE):Prop where
 calm:X.calm=true
 ok:X.Ok->La X cN cap scope cl
 it:oI X tg iter i
 tgt:∀fp s H,PG (Yi X cN scope cl fp s H) tg g
 gm:Qn g
 gk:K8 js g
 sg:Ba X.K g wg
 js0:∀j∈js,(cap[j]?).join=none
 ts:∀fp s H,vO (Yi X cN scope cl fp s H) ifs wc
 el:∀fp s H,Jd (Yi X cN scope cl fp s H) elt we
 fold:∀x,foldedSetIterable iter X.env x=pure x
def Wt (D:uz X tg iter elt ifs scope cN cap cl js i g wg wc we):Jd X (.ListComp elt [⟨tg,iter,ifs,0⟩] scope pos) (Kt cap i wg wc we):=by
 obtain⟨wi,p,s⟩:=D.it
 have P:E6 X tg iter elt ifs scope cN cap cl js wi g (zh X.K wc) (o0 X.K we):=⟨D.calm,D.ok,p,D.tgt,D.gm,D.gk,D.js0,λfp s H=>(D.ts fp s H).pif,Kb,λfp s H=>(D.el fp s H).pe,D.fold⟩
 exact⟨_,wN P,λF H C σ τ Q Q' χ R S h q=>Fa s D.sg R S h λp H' C' R' t' h'=>q _ _ H' C' R' t' Y2 h'⟩
def Mz {k:Nat}{y:Str}{py spos:Pos}(hN:X.N.Nodup)(hi:X.N[k]?=some y)(hy:X.env.scope.names.lookup y=some .local)
  (hsw:swapsWith (.ListComp elt [⟨tg,iter,ifs,0⟩] scope pos) (some (.Name y py)) spos.line X.env=pure true)
  (D:uz X tg iter elt ifs scope cN cap cl js i g wg wc we):yh X (.Assign [.Name y py] (.ListComp elt [⟨tg,iter,ifs,0⟩] scope pos) spos) (Dh (Kt cap i wg wc we) (zO k)):=by
 obtain⟨wi,p,s⟩:=D.it
 have P:E6 X tg iter elt ifs scope cN cap cl js wi g (zh X.K wc) (o0 X.K we):=⟨D.calm,D.ok,p,D.tgt,D.gm,D.gk,D.js0,λfp s H=>(D.ts fp s H).pif,Kb,λfp s H=>(D.el fp s H).pe,D.fold⟩
 exact⟨_,Dk hN hi hy hsw P,λF H C σ τ E E' R S h d=>Fa s D.sg R S h λp H' C' R' t' h'=>d.nx _ _ H' C' R' t' ((S.tx t').set Y2) h'⟩
end
def Yk {A:Around}{k:Nat}(hr:Xt k A):A.units+150<cLine:=by have:=hr.un;omega
def spW (K:W.Frag)(pr:List Df)(n i:Nat):Sp:=λvs H Q _=>∃(F:Hp) (C:Hw) (vs':List T) (Q':WK) (χ:WX),Rl K F H C/\Reps K H vs vs'/\Ye pr n i vs' C Q' χ/\QE K F H Q Q'
def Z3 {X:Cx}{k i:Nat}{x:Str}{ps:List Str}{pr:List Df}{p pos:Pos}{e:Expr}{es:List Expr}{wA:WA}(Cc:Ca X.prog X.w X.K X.mg X.base k x ps (spW X.K pr k i))(hr:Xt k X.A)(hg:Gl X x)(ha:yi X (e::es) wA)
  (hdb:(x==("__debug__":Str))=false:=by decide) (he:starEach (e::es) X.env=(false,eval e X.env)::starEach es X.env:=by rfl) (hpl:(backTo pos (starEach es X.env)).any (·.1)=false:=by rfl):
  Jd X (.Call (.Name x p) (e::es) [] pos) (Sv (Ye pr k) i wA):=by
 obtain⟨t,p1,s⟩:=ha
 refine⟨_,qS Cc hr hg p1 hdb he hpl,λF H C σ τ Q Q' χ R S h q=>?_⟩
 refine s F H C σ τ _ _ χ R S h λxs vs H1 C1 R1 t1 rs h1=>?_
 refine⟨F,C1,vs,Q',χ,R1,?_,h1,QE.at q t1⟩
 rw[YK];exact rs
def J6.start {K:W.Frag}{H:Hp}{vs:List V}{vs':List T}(h:Reps K H vs vs')(N:List Str)(m:Nat)(e:m=N.length-vs.length):J6 K H (start N vs) (vs'.map some++List.replicate m none):=by
 refine⟨?_,λi v hv=>?_⟩
 ·unfold L2.start
  rw[List.length_append,List.length_append,XI,XI,List.length_replicate,List.length_replicate,h.length,e,h.length]
 ·unfold L2.start
  by_cases hi:i<vs'.length
  ·rw[List.getElem?_append_left (by rw[XI];exact hi),XM] at hv
   cases hg:vs'[i]? with
   | none=>rw[hg] at hv;cases hv
   | some z=>
    rw[hg] at hv
    cases hv
    obtain⟨x,hx,r⟩:=h.get hg
    refine⟨x,?_,r⟩
    rw[List.getElem?_append_left (by rw[XI,h.length];exact hi),XM,hx]
    rfl
  ·rw[List.getElem?_append_right (by rw[XI];omega),List.getElem?_replicate] at hv
   split at hv
   ·cases hv
   ·cases hv
def v0 {P:Program}{w:World}{K:W.Frag}{mg:Str->Option Value}{base:Heap}{x:Str}{st:Stmt}{f:Addr}{fd:FuncData}{ps:List Str}{pr:List Df}{i:Nat}(F:Bf K x x st f fd)(hb:Xv K fd ps [])(hm:mg x=some (.ref f)):Ca P w K mg base 0 x ps (spW K pr 0 i):=
 ⟨f,fd,⟨λvs H Q E h=>by obtain⟨_,_,_,_,_,_,_,z,_⟩:=h;exact z.elim,λA outer s H args us vs Q E _ _ _ _ h=>by obtain⟨_,_,_,_,_,_,_,z,_⟩:=h;exact z.elim⟩,hb,F.kp,hm⟩
def v2 {P:Program}{w:World}{K:W.Frag}{mg:Str->Option Value}{base:Heap}{x:Str}{st:Stmt}{f:Addr}{fd:FuncData}{ps:List Str}{sp:Sp}{n:Nat}(F:Bf K x x st f fd)(hb:Xv K fd ps [])(hm:mg x=some (.ref f))(G:Vv P w K mg base CX0 n f fd ps sp):Ca P w K mg base n x ps sp:=
 ⟨f,fd,G,hb,F.kp,hm⟩
def law_sp {K:W.Frag}{pr:List Df}{n i:Nat}{H:Hp}{a:Addr}{ns:List Int}(hO:xF H)(hS:Xr K H a (ns.map V.int))(h:Ye pr n i [.cl (ns.map T.int)] (λ_=>none) (λv _=>v=.bl true) (λ_ _=>False)):
  spW K pr n i [.ref a] H (λv _=>v=.bl true) (λ_ _ _=>False):=by
 have hq:uv K H a (ns.map V.int):=by
  rcases hS with(h | ⟨o,h⟩) | h
  ·rcases hO a with e | ⟨o,xs,e⟩
   ·rw[e] at h;cases h
   ·rw[e] at h;cases h
  ·exact .inl ⟨o,h⟩
  ·exact .inr h
 refine⟨λ_=>none,λ_=>none,[.cl (ns.map T.int)],_,_,⟨(λ_ _ e=>by cases e),(λ_ _ e=>by cases e)⟩,Yf ?_ Ys,h,λx v H' C' R t r e=>?_⟩
 ·unfold Y7
  exact⟨a,_,rfl,hq,Kj ns⟩
 ·subst e;exact Q1 r
end WL
namespace L2
open PySem PySem.Spec PyProof.Rows
section
variable {κ:Type}[DecidableEq κ]
def Vi (kvs:List (κ×V))(k:κ):Option V:=(kvs.find? λkv=>decide (kv.1=k)).map (·.2)
def Xi (kvs:List (κ×V))(k:κ)(v:V):List (κ×V):=
 if (kvs.any λkv=>decide (kv.1=k))=true then kvs.map (λkv=>if kv.1=k then(kv.1,v) else kv) else kvs++[(k,v)]
def uk (kvs:List (κ×V))(k:κ):List (κ×V):=kvs.filter λkv=>decide (kv.1≠k)
def Qr {p:κ×V}{r:List (κ×V)}{k:κ}(e:p.1=k):Vi (p::r) k=some p.2:=by simp[Vi,List.find?_cons,e]
def Qs {p:κ×V}{r:List (κ×V)}{k:κ}(e:¬p.1=k):Vi (p::r) k=Vi r k:=by simp[Vi,List.find?_cons,e]
def G4 (k:κ):∀kvs:List (κ×V),(kvs.any λkv=>decide (kv.1=k))=(Vi kvs k).isSome
 | []=>rfl
 | p::r=>by
  rw[List.any_cons]
  by_cases e:p.1=k
  ·simp only[Qr e,decide_eq_true e,Bool.true_or,Option.isSome_some]
  ·rw[Qs e,YG e,Bool.false_or];exact G4 k r
def V4 (kvs:List (κ×V))(k:κ)(v:V):(Xi kvs k v).length<=kvs.length+1:=by
 unfold Xi
 split
 ·rw[XI];omega
 ·rw[List.length_append,YF,List.length_nil];omega
def Rj.isSome_eq {o:Option V}{u:Option Value}(r:Rj o u):o.isSome=u.isSome:=by
 cases o with
 | none=>cases u with
  | none=>rfl
  | some _=>exact(show False from r).elim
 | some _=>cases u with
  | none=>exact(show False from r).elim
  | some _=>rfl
def KV.val {kvs:List (κ×V)}{vs:List (κ×Value)}(r:KV kvs vs)(k:κ):Rj (Vi kvs k) (valueAt vs k):=by
 unfold KV at r
 induction r with
 | nil=>exact True.intro
 | @cons p q ps qs h t ih=>
  obtain⟨h1,h2⟩:=h
  by_cases e:p.1=k
  ·have e':q.1=k:=h1.symm.trans e
   have b:valueAt (q::qs) k=some q.2:=by simp[valueAt,List.find?_cons,e']
   rw[Qr e,b];exact h2
  ·have e':¬q.1=k:=λz=>e (h1.trans z)
   have b:valueAt (q::qs) k=valueAt qs k:=by simp[valueAt,List.find?_cons,e']
   rw[Qs e,b];exact ih
def KV.any {kvs:List (κ×V)}{vs:List (κ×Value)}(r:KV kvs vs)(k:κ):(kvs.any λkv=>decide (kv.1=k))=vs.any λkv=>decide (kv.1=k):=by
 unfold KV at r
 induction r with
 | nil=>rfl
 | cons h t ih=>rw[List.any_cons,List.any_cons,ih,h.1]
def KV.repl {kvs:List (κ×V)}{vs:List (κ×Value)}(r:KV kvs vs)(k:κ){y:V}{u:Value}(ry:Z0 y u):
  KV (kvs.map λkv=>if kv.1=k then(kv.1,y) else kv) (vs.map λkv=>if kv.1=k then(kv.1,u) else kv):=by
 unfold KV at r |-
 induction r with
 | nil=>exact .nil
 | @cons p q ps qs h t ih=>
  rw[YI,YI]
  refine .cons ?_ ih
  obtain⟨h1,h2⟩:=h
  by_cases e:p.1=k
  ·rw[XY e,XY (h1.symm.trans e)];exact⟨h1,ry⟩
  ·rw[XX e,XX (λz=>e (h1.trans z))];exact⟨h1,h2⟩
def KV.put {kvs:List (κ×V)}{vs:List (κ×Value)}(r:KV kvs vs)(k:κ){y:V}{u:Value}(ry:Z0 y u):KV (Xi kvs k y) (stored vs k u):=by
 unfold Xi stored
 rw[r.any k]
 by_cases e:(vs.any λkv=>decide (kv.1=k))=true
 ·rw[XY e,XY e];exact r.repl k ry
 ·rw[XX e,XX e];exact Paired.snoc r ⟨rfl,ry⟩
def KV.length {kvs:List (κ×V)}{vs:List (κ×Value)}(r:KV kvs vs):kvs.length=vs.length:=Paired.length r
end
def Mg {P:Program}{w:World}{k:Z1}{u:Value}(r:Z0 (kV k) u):(Yx P w).is k u=true:=by
 cases k with
 | inl i=>obtain⟨t,e⟩:=(show ∃t,u=Value.int i t from r);subst e;exact Fw P w i t
 | inr x=>obtain⟨t,e⟩:=(show ∃t,u=Value.str x t from r);subst e;exact Fv P w x t
def Km {P:Program}{w:World}:∀{ks:List Z1} {us:List Value},Zz (ks.map kV) us->ItemsAre (Yx P w) ks us
 | [],_,r=>by rw[List.map_nil] at r;cases r;exact .nil
 | k::ks,_,r=>by
  rw[YI] at r
  cases r with
  | cons h t=>exact .cons (Mg h) (Km t)
abbrev KT (H:Hp):List (List Z1×V)->List (List Z1×Addr×Value)->Prop:=Paired λp q=>p.1=q.1/\H q.2.1=some (.tup (p.1.map kV))/\Z0 p.2 q.2.2
def KT.val {H:Hp}{kvs:List (List Z1×V)}{xs:List (List Z1×Addr×Value)}(r:KT H kvs xs)(k:List Z1):Rj (Vi kvs k) ((atKey xs k).map (·.2)):=by
 induction r with
 | nil=>exact True.intro
 | @cons p q ps qs h t ih=>
  obtain⟨h1,_,h2⟩:=h
  by_cases e:p.1=k
  ·have e':q.1=k:=h1.symm.trans e
   have b:atKey (q::qs) k=some q.2:=by simp[atKey,List.find?_cons,e']
   rw[Qr e,b];exact h2
  ·have e':¬q.1=k:=λz=>e (h1.trans z)
   have b:atKey (q::qs) k=atKey qs k:=by simp[atKey,List.find?_cons,e']
   rw[Qs e,b];exact ih
def KT.repl {H:Hp}{kvs:List (List Z1×V)}{xs:List (List Z1×Addr×Value)}(r:KT H kvs xs)(k:List Z1){y:V}{u:Value}(ry:Z0 y u):
  KT H (kvs.map λkv=>if kv.1=k then(kv.1,y) else kv) (xs.map (putAt k u)):=by
 induction r with
 | nil=>exact .nil
 | @cons p q ps qs h t ih=>
  rw[YI,YI]
  refine .cons ?_ ih
  obtain⟨h1,h2,h3⟩:=h
  unfold putAt
  by_cases e:p.1=k
  ·rw[XY e,XY (h1.symm.trans e)];exact⟨h1,h2,ry⟩
  ·rw[XX e,XX (λz=>e (h1.trans z))];exact⟨h1,h2,h3⟩
def KT.put {H:Hp}{kvs:List (List Z1×V)}{xs:List (List Z1×Addr×Value)}(r:KT H kvs xs)(k:List Z1){b:Addr}{y:V}{u:Value}(hb:H b=some (.tup (k.map kV)))(ry:Z0 y u):
  KT H (Xi kvs k y) (storedH xs k b u):=by
 have e:(kvs.any λkv=>decide (kv.1=k))=(atKey xs k).isSome:=by
  rw[G4,(r.val k).isSome_eq,Option.isSome_map]
 unfold Xi storedH
 rw[e]
 by_cases q:(atKey xs k).isSome=true
 ·rw[XY q,XY q];exact r.repl k ry
 ·rw[XX q,XX q];exact Paired.snoc r ⟨rfl,hb,ry⟩
def KT.keeps {H H':Hp}{kvs:List (List Z1×V)}{xs:List (List Z1×Addr×Value)}(r:KT H kvs xs)(ht:∀b ys,H b=some (.tup ys)->H' b=some (.tup ys)):KT H' kvs xs:=
 Paired.mapP r λ_ _ z=>⟨z.1,ht _ _ z.2.1,z.2.2⟩
section
variable {P:Program}{w:World}{H:Hp}{h:Heap}{a:Addr}
def vZ {u:HO}(ok:Qp P w H h)(e:Rd H a u):Ja P w H h a u:=e.ok ok
def Om {kvs:List (Z1×V)}(ok:Qp P w H h)(e:Rd H a (.dK kvs)):kvs.length<=sizeLine/\(a==sysModules)=false/\∃vs,KV kvs vs/\h.DictOf (Yx P w) a vs:=
 show Ja P w H h a (.dK kvs) from vZ ok e
def An {kvs:List (Z1×V)}(ok:Qp P w H h)(e:H a=some (.dK kvs)):kvs.length<=sizeLine/\(a==sysModules)=false/\∃vs,KV kvs vs/\h.DictOf (Yx P w) a vs:=Om ok (.inl e)
def Me {ks:List Z1}(ok:Qp P w H h)(e:H a=some (.tup (ks.map kV))):(tupleKind (Yx P w)).is h ks a:=by
 obtain⟨_,its,r,o,h1,h2,n,h3⟩:=(show Ja P w H h a (.tup (ks.map kV)) from ok a _ e)
 exact⟨o,its.toArray,n,h1,h2,h3,by simpa using Km r⟩
def Kw {kvs:List (List Z1×V)}(ok:Qp P w H h)(e:Rd H a (.dT kvs)):kvs.length<=sizeLine/\(a==sysModules)=false/\
  ∃xs,KT H kvs xs/\h.DictOfH (tupleKind (Yx P w)) a xs:=by
 obtain⟨z,y,xs,r,o,es,ep,h1,h2,h3,h4,h5⟩:=(show Ja P w H h a (.dT kvs) from vZ ok e)
 refine⟨z,y,xs,r,o,es,ep,h1,h2,h3,h4,λx hx=>?_,h5⟩
 have all:∀{l:List (List Z1×V)} {m:List (List Z1×Addr×Value)},KT H l m->∀x∈m,(tupleKind (Yx P w)).is h x.1 x.2.1:=by
  intro l m q
  induction q with
  | nil=>intro x hx;exact nomatch hx
  | @cons p q ps qs hq t ih=>
   intro x hx
   rcases List.mem_cons.mp hx with e | hx
   ·subst e
    exact Me ok (by rw[<-hq.1];exact hq.2.1)
   ·exact ih x hx
 exact all r x hx
def pL {kvs:List (List Z1×V)}(ok:Qp P w H h)(e:H a=some (.dT kvs)):kvs.length<=sizeLine/\(a==sysModules)=false/\
  ∃xs,KT H kvs xs/\h.DictOfH (tupleKind (Yx P w)) a xs:=Kw ok (.inl e)
end
def E5 (H:Hp)(a:Addr)(y:V)(r:Option V):Prop:=
 (∃kvs k,Rd H a (.dK kvs)/\y=kV k/\r=Vi kvs k)\/∃kvs k b,Rd H a (.dT kvs)/\y=.ref b/\H b=some (.tup (k.map kV))/\r=Vi kvs k
def ym (H:Hp)(a:Addr)(y v:V)(H':Hp):Prop:=
 (∃kvs k,H a=some (.dK kvs)/\y=kV k/\kvs.length<sizeLine/\H'=Yq H a (.dK (Xi kvs k v)))\/
 ∃kvs k b,H a=some (.dT kvs)/\y=.ref b/\H b=some (.tup (k.map kV))/\kvs.length<sizeLine/\H'=Yq H a (.dT (Xi kvs k v))
def ym.k {H:Hp}{a:Addr}{kvs:List (Z1×V)}{k:Z1}{v:V}(e:H a=some (.dK kvs))(hl:kvs.length<sizeLine):ym H a (kV k) v (Yq H a (.dK (Xi kvs k v))):=.inl ⟨kvs,k,e,rfl,hl,rfl⟩
section
variable {X:Cx}{pins:List (Addr×Obj)}{σ:St}{H:Hp}{s:Shared}{a:Addr}{y v:V}{u r:Value}{o:Option V}{A:Around}{E:Value->Shared->Prop}
def Zp.big (I:Zp X pins σ H s):sysModules<s.heap.objs.size:=by
 have h:mainGlobals<s.heap.objs.size:=(I.mod.glob.keeps I.bk).lt
 exact Nat.lt_trans (by decide) h
def zV {Q:Value->Shared->Prop}(hu:A.units+1<cLine)(I:Zp X pins σ H s)(g:E5 H a y (some v))(ry:Z0 y u)(h:∀w' s',Zp X pins σ H s'->Z0 v w'->Q w' s'):
  wpAny (model X.prog X.w) A (getItem (.ref a) u) Q E s:=by
 rcases g with⟨kvs,k,e,ey,l⟩ | ⟨kvs,k,b,e,ey,eb,l⟩
 ·subst ey
  obtain⟨z,hd,vs,rel,dd⟩:=Om I.hok e
  obtain⟨w',hw,rw'⟩:=Rj.some_of (v:=v) (o:=valueAt vs k) (by rw[l];exact rel.val k)
  exact wpAny_getItem_of (Mg ry) dd.mapOf hw (h w' _ (I.tok _) rw')
 ·subst ey
  cases (show u=Value.ref b from ry)
  obtain⟨z,hd,xs,rel,dd⟩:=Kw I.hok e
  obtain⟨w',hw,rw'⟩:=Rj.some_of (v:=v) (o:=(atKey xs k).map (·.2)) (by rw[l];exact rel.val k)
  obtain⟨p,hp,hp2⟩:=Option.map_eq_some_iff.mp hw
  refine wpAny_getItem_heap (tupleKind_room_in1 hu) (Me I.hok eb) dd hp ?_
  rw[hp2]
  exact h w' _ (I.tok _) rw'
def m6 {Q:Value->Shared->Prop}(hu:A.units+1<cLine)(I:Zp X pins σ H s)(g:E5 H a y o)(ry:Z0 y u)(h:∀s',Zp X pins σ H s'->Q (.bool o.isSome) s'):
  wpAny (model X.prog X.w) A (compareOp .In u (.ref a)) Q E s:=by
 rcases g with⟨kvs,k,e,ey,l⟩ | ⟨kvs,k,b,e,ey,eb,l⟩
 ·subst ey
  obtain⟨z,hd,vs,rel,dd⟩:=Om I.hok e
  refine wpAny_in_of (Mg ry) hd dd.mapOf ?_
  rw[<-(rel.val k).isSome_eq,<-l]
  exact h _ (I.tok _)
 ·subst ey
  cases (show u=Value.ref b from ry)
  obtain⟨z,hd,xs,rel,dd⟩:=Kw I.hok e
  refine wpAny_in_heap (tupleKind_room_in1 hu) (Me I.hok eb) hd dd ?_
  have q:=(rel.val k).isSome_eq
  rw[Option.isSome_map] at q
  rw[<-q,<-l]
  exact h _ (I.tok _)
def vt {Q:Value->Shared->Prop}(hu:A.units+1<cLine)(I:Zp X pins σ H s)(g:E5 H a y o)(ry:Z0 y u)(h:∀s',Zp X pins σ H s'->Q (.bool (!o.isSome)) s'):
  wpAny (model X.prog X.w) A (compareOp .NotIn u (.ref a)) Q E s:=by
 rcases g with⟨kvs,k,e,ey,l⟩ | ⟨kvs,k,b,e,ey,eb,l⟩
 ·subst ey
  obtain⟨z,hd,vs,rel,dd⟩:=Om I.hok e
  refine wpAny_notIn_of (Mg ry) hd dd.mapOf ?_
  rw[<-(rel.val k).isSome_eq,<-l]
  exact h _ (I.tok _)
 ·subst ey
  cases (show u=Value.ref b from ry)
  obtain⟨z,hd,xs,rel,dd⟩:=Kw I.hok e
  refine wpAny_notIn_heap (tupleKind_room_in1 hu) (Me I.hok eb) hd dd ?_
  have q:=(rel.val k).isSome_eq
  rw[Option.isSome_map] at q
  rw[<-q,<-l]
  exact h _ (I.tok _)
def Nl {h':Heap}{t':Nat}{ob:HO}(I:Zp X pins σ H s)(mu:oi (H a))(hs:Heap.SameBut a s.heap h')(he:∃q,h'.get? a=some q)(new:Ja X.prog X.w (Yq H a ob) h' a ob):
  Zp X pins σ (Yq H a ob) {s with heap:=h',toks:=t'}:=
 I.write (x:=a) (e:=a) mu (.inl rfl) (λb q hb z=>(hs.2 b hb).trans z) he new
def M0 {P:Program}{w:World}{H':Hp}{h':Heap}{kvs:List (Z1×V)}{vs:List (Z1×Value)}(z:kvs.length<=sizeLine)(hd:(a==sysModules)=false)(rel:KV kvs vs)(dd:h'.DictOf (Yx P w) a vs):
  Ja P w H' h' a (.dK kvs):=⟨z,hd,vs,rel,dd⟩
def zU {H':Hp}{Q:Unit->Shared->Prop}(hu:A.units+1<cLine)(I:Zp X pins σ H s)(g:ym H a y v H')(ry:Z0 y u)(rv:Z0 v r)(h:∀s',Zp X pins σ H' s'->Q () s'):
  wpAny (model X.prog X.w) A (setItem (.ref a) u r) Q E s:=by
 rcases g with⟨kvs,k,e,ey,l,eH⟩ | ⟨kvs,k,b,e,ey,eb,l,eH⟩
 ·subst ey eH
  obtain⟨z,hd,vs,rel,dd⟩:=An I.hok e
  have hz:vs.length<=sizeLine:=by rw[<-rel.length];exact z
  have hl:(Xi kvs k v).length<=sizeLine:=by have:=V4 kvs k v;omega
  refine wpAny_setItem_pairs (hsz:=hz) (Mg ry) dd λh' dd' hs=>h _ ?_
  have he:∃q,h'.get? a=some q:=let ⟨q,_,_,hq,_⟩:=dd';⟨q,hq⟩
  exact Nl I (by rw[e];exact True.intro) hs he (M0 hl hd (rel.put k rv) dd')
 ·subst ey eH
  cases (show u=Value.ref b from ry)
  obtain⟨z,hd,xs,rel,dd⟩:=pL I.hok e
  have hz:xs.length<=sizeLine:=by rw[<-Paired.length rel];exact z
  have hl:(Xi kvs k v).length<=sizeLine:=by have:=V4 kvs k v;omega
  refine wpAny_setItem_heap (hsz:=hz) (tupleKind_room_in1 hu) (Me I.hok eb) dd λh' dd' hs=>h _ ?_
  obtain⟨q,es,ep,hq,h2,h3,h4,_,h5⟩:=dd'
  refine Nl I (by rw[e];exact True.intro) hs ⟨q,hq⟩ ⟨hl,hd,_,(rel.put k eb rv).keeps λc ys ec=>?_,q,es,ep,hq,h2,h3,h4,h5⟩
  rw[Zy (pq ec e (λz=>nomatch z))]
  exact ec
end
section
variable {X:Cx}{pins:List (Addr×Obj)}{σ:St}{H:Hp}{s:Shared}{a:Addr}{kvs:List (Z1×V)}{k:Z1}{u:Value}{A:Around}{E:Value->Shared->Prop}
def pO {Q:Value->Shared->Prop}(I:Zp X pins σ H s)(e:Rd H a (.dK kvs))(h:∀t s',Zp X pins σ H s'->Q (.int kvs.length t) s'):wpAny (model X.prog X.w) A (call (.builtin "len") [.ref a]) Q E s:=by
 obtain⟨z,hd,vs,rel,dd⟩:=Om I.hok e
 refine call_len_dict hd dd (by rw[<-rel.length];rw[sizeLine_eq] at z;omega) ?_
 rw[<-rel.length]
 exact h _ _ (I.tok _)
end
def rH (i:Expr):Prop:=∀ov iv,subscripted i false ov iv=operate [ov,iv] (getItem ov iv)
def xY {prog:Program}{w:World}{A:Around}{E:Value->Shared->Prop}{s:Shared}{env:Env}{value slice:Expr}{pos:Pos}{T id:String}{Q:Value->Shared->Prop}
  (hl:typeLookup (.type T) "__getitem__"=pure (some (.builtin id))) (hs:rH slice)
  (h:wpAny (model prog w) A (eval value env) (λo s₁=>wpAny (model prog w) A (eval slice env) (λi s₂=>s₂.TypeIs o T/\wpAny (model prog w) A (getItem o i) Q E s₂) E s₁) E s):
  wpAny (model prog w) A (eval (.Subscript value slice pos) env) Q E s:=by
 refine Subscript_ (wpAny_mono h (λo s₁ h₁=>wpAny_mono h₁ (λi s₂ h₂=>?_) λ_ _ x=>x) λ_ _ x=>x)
 obtain⟨hT,h₂⟩:=h₂
 unfold subscriptTail
 refine XA ?_
 rw[getitemInPython_of_ne hT.not_modules]
 refine XA (wpAny_specialOf hT hl ?_)
 have fin:wpAny (model prog w) A (subscripted slice false o i) (λr s₃=>wpAny (model prog w) A (letTemporaryGo value o r>>=λ_=>pure r) Q E s₃) E s₂:=by
  rw[hs o i]
  exact wpAny_operating (wpAny_mono h₂ (λr s₃ h₃=>XA (wpAny_letTemporaryGo (XB h₃))) λ_ _ x=>x)
 first
  | exact XB (XA fin)
  | exact XA (XB (XA fin))
  | exact XA fin
def Em {X:Cx}{pins:List (Addr×Obj)}{σ:St}{H:Hp}{s:Shared}{a:Addr}{y:V}{o:Option V}(I:Zp X pins σ H s)(g:E5 H a y o):s.TypeIs (.ref a) "dict":=by
 rcases g with⟨kvs,k,e,_,_⟩ | ⟨kvs,k,b,e,_,_,_⟩
 ·obtain⟨_,_,vs,_,dd⟩:=Om I.hok e
  exact dd.typeIs
 ·obtain⟨_,_,xs,_,dd⟩:=Kw I.hok e
  exact dd.typeIs
def qp (td ty:TE):TE:=λσ H Q=>td σ H λx H1=>ty σ H1 λy H2=>∃a v,x=.ref a/\E5 H2 a y (some v)/\Q v H2
def lU (ty td:TE):TE:=λσ H Q=>ty σ H λy H1=>td σ H1 λx H2=>∃a o,x=.ref a/\E5 H2 a y o/\Q (.bl o.isSome) H2
def lj (td ty tv:TE):TS:=λD σ H=>tv σ H λv H1=>td σ H1 λx H2=>ty σ H2 λy H3=>∃a H4,x=.ref a/\ym H3 a y v H4/\D.nx σ H4
def lx (td ty tv:TE)(rd:V->V->Hp->VK->Prop):TS:=λD σ H=>td σ H λx H1=>ty σ H1 λy H2=>∃a v,x=.ref a/\E5 H2 a y (some v)/\
 tv σ H2 λy2 H3=>rd v y2 H3 λz H4=>∃H5,ym H4 a y z H5/\D.nx σ H5
def lu (td ty:TE):TS:=λD σ H=>td σ H λx H1=>ty σ H1 λy H2=>∃a kvs k,x=.ref a/\H2 a=some (.dK kvs)/\y=kV k/\(Vi kvs k).isSome=true/\D.nx σ (Yq H2 a (.dK (uk kvs k)))
section
variable {X:Cx}{o i e value:Expr}{pos pos' tpos:Pos}{td ty tv:TE}
def wM (hu:X.A.units+1<cLine)(ho:PE X o td)(hi:PE X i ty)(hs:rH i):PE X (.Subscript o i pos) (qp td ty):=by
 intro pins s σ H Q I h
 refine xY PySem.F.slot_dict_getitem.lookup hs (Jp (ho pins s σ H _ I h) λu s1 ⟨x,H1,I1,rx,q1⟩=>Jp (hi pins s1 σ H1 _ I1 q1) λiv s2 ⟨y,H2,I2,ry,a,v,ex,g,q2⟩=>?_)
 subst ex
 obtain rfl:u=Value.ref a:=rx
 exact⟨Em I2 g,zV hu I2 g ry λw' s3 I3 rw'=>⟨v,H2,I3,rw',q2⟩⟩
end
def xf {P:Program}{w:World}{H:Hp}(h:Heap)(hb:sysModules<h.objs.size):Ja P w H (h.push {cls:=.type "dict",data:=.dict #[]}) h.objs.size (.dK []):=
 ⟨XO _,beq_eq_false_iff_ne.mpr (Ne.symm (XH hb)),[],.nil,Heap.DictOf.new h⟩
def uF:TE:=λ_ H Q=>∀p,H p=none->Q (.ref p) (Yq H p (.dK []))
section
variable {X:Cx}{pos:Pos}
def jn:PE X (.Dict [] [] pos) uF:=λpins s σ H Q I h=>
 wpAny_Dict_empty ⟨.ref s.heap.objs.size,_,I.laid (a:=s.heap.objs.size) (o:=.dK []) (t':=s.toks) (λ_ _ q=>XC _ q) (XE _) (xf s.heap I.big),rfl,h _ (I.hok.fresh (XE _))⟩
end
def yI:List (TE×TE)->St->Hp->(List (V×V)->Hp->Prop)->Prop
 | [],_,H,Q=>Q [] H
 | (tk,tv)::r,σ,H,Q=>tk σ H λx H1=>tv σ H1 λy H2=>yI r σ H2 λps H3=>Q ((x,y)::ps) H3
def Qg (kvs more:List (Z1×V)):List (Z1×V):=more.foldl (λacc kv=>Xi acc kv.1 kv.2) kvs
def KV.merge:∀{more:List (Z1×V)} {rs:List (Z1×Value)} {kvs:List (Z1×V)} {vs:List (Z1×Value)},KV more rs->KV kvs vs->KV (Qg kvs more) (merged vs rs):=by
 intro more rs kvs vs r
 unfold KV at r
 induction r generalizing kvs vs with
 | nil=>intro q;exact q
 | @cons p q ps qs h t ih=>
  intro r0
  have e:KV (Xi kvs p.1 p.2) (stored vs q.1 q.2):=by
   have:=r0.put p.1 h.2
   rw[<-h.1];exact this
  exact ih e
def Rw:∀(more kvs:List (Z1×V)),(Qg kvs more).length<=kvs.length+more.length
 | [],kvs=>by show kvs.length<=kvs.length+0;omega
 | p::r,kvs=>by
  have h1:=Rw r (Xi kvs p.1 p.2)
  have h2:=V4 kvs p.1 p.2
  show(Qg (Xi kvs p.1 p.2) r).length<=_
  rw[YF];omega
def lh (trs:List (TE×TE)):TE:=λσ H Q=>∀p,H p=none->yI trs σ (Yq H p (.dK [])) λps H2=>H2 p=some (.dK [])/\∃kvs:List (Z1×V),ps=kvs.map (λkv=>(kV kv.1,kv.2))/\kvs.length<=15/\Q (.ref p) (Yq H2 p (.dK (Qg [] kvs)))
structure M1 (X:Cx)(o:Expr)(m:Str)(apos:Pos)(e:Expr)(cpos:Pos):Prop where
 base:attributeBase o m X.env (eval o X.env)=eval o X.env
 few:((backTo cpos (starEach [e] X.env)).all (λx=>!x.1)&&(backToKw cpos (keywordEach [] X.env)).all (λx=>x.1.isSome)
  &&decide (([e]:List Expr).length+([]:List Keyword).length+(if ([]:List Keyword).isEmpty then 0 else 1)<30))=true
 line:(apos.endLine==cpos.line)=true
 trees:backTo cpos (starEach [e] X.env)=[(false,eval e X.env)]
structure M2 (X:Cx)(o:Expr)(m:Str)(apos:Pos)(e f:Expr)(cpos:Pos):Prop where
 base:attributeBase o m X.env (eval o X.env)=eval o X.env
 few:((backTo cpos (starEach [e,f] X.env)).all (λx=>!x.1)&&(backToKw cpos (keywordEach [] X.env)).all (λx=>x.1.isSome)
  &&decide (([e,f]:List Expr).length+([]:List Keyword).length+(if ([]:List Keyword).isEmpty then 0 else 1)<30))=true
 line:(apos.endLine==cpos.line)=true
 trees:backTo cpos (starEach [e,f] X.env)=[(false,eval e X.env),(false,eval f X.env)]
def oP (H:Hp)(a:Addr):Prop:=(∃kvs,Rd H a (.dK kvs))\/∃kvs,Rd H a (.dT kvs)
def jE {X:Cx}{pins:List (Addr×Obj)}{σ:St}{H:Hp}{s:Shared}{a:Addr}(I:Zp X pins σ H s)(d:oP H a):
  s.TypeIs (.ref a) "dict"/\(∀b,Value.ref a=.ref b->∃ob,s.heap.get? b=some ob/\ob.dict=none)/\(a==sysModules)=false:=by
 rcases d with⟨kvs,e⟩ | ⟨kvs,e⟩
 ·obtain⟨_,hd,vs,_,dd⟩:=Om I.hok e
  refine⟨dd.typeIs,λb q=>?_,hd⟩
  cases q
  obtain⟨ob,_,_,h1,h2,_⟩:=dd
  exact⟨ob,h1,h2.2.1⟩
 ·obtain⟨_,hd,xs,_,dd⟩:=Kw I.hok e
  refine⟨dd.typeIs,λb q=>?_,hd⟩
  cases q
  obtain⟨ob,_,_,h1,h2,_⟩:=dd
  exact⟨ob,h1,h2.2.1⟩
section
variable {X:Cx}{pins:List (Addr×Obj)}{σ:St}{H:Hp}{s:Shared}{a:Addr}{y d:V}{u r:Value}{o:Option V}{A:Around}{E:Value->Shared->Prop}
end
def n9 (td ty:TE):TE:=λσ H Q=>td σ H λx H1=>∃a,x=.ref a/\oP H1 a/\ty σ H1 λy H2=>∃kvs k v,H2 a=some (.dK kvs)/\y=kV k/\Vi kvs k=some v/\Q v (Yq H2 a (.dK (uk kvs k)))
section
variable {X:Cx}{o e f:Expr}{apos cpos:Pos}{td ty tx:TE}
end
section
variable {X:Cx}{pins:List (Addr×Obj)}{σ:St}{H:Hp}{s:Shared}{a:Addr}{kvs:List (Z1×V)}{A:Around}{E:Value->Shared->Prop}
def xm {Q:Value->Shared->Prop}(I:Zp X pins σ H s)(e:Rd H a (.dK kvs))(h:∀p s',H p=none->Zp X pins σ (Yq H p (.dK kvs)) s'->Q (.ref p) s'):wpAny (model X.prog X.w) A (call (.type "dict") [.ref a]) Q E s:=by
 obtain⟨z,hd,vs,rel,dd⟩:=Om I.hok e
 refine kt_call_dict hd dd (by rw[<-rel.length];exact z) λh' dd' hs=>?_
 refine h _ _ (I.hok.fresh (XE _)) (I.laid (a:=s.heap.objs.size) (o:=.dK kvs) (t':=s.toks) (λb q hq=>?_) (XE _) (M0 z (beq_eq_false_iff_ne.mpr (Ne.symm (XH I.big))) rel dd'))
 exact(hs.2 b (XH (XD hq))).trans (XC _ hq)
end
section
variable {X:Cx}{pins:List (Addr×Obj)}{σ:St}{H:Hp}{s:Shared}{a:Addr}{y:V}{u:Value}{A:Around}{E:Value->Shared->Prop}
end
end L2
namespace WL
open PySem PySem.Spec PyProof.Rows L2
def Pk (c:WT)(b:WS)(D:We):Nat->Sw->Hw->Prop
 | 0,_,_=>False
 | n+1,τ,C=>c τ C (λk C1=>if k=true then b {D with nx:=Pk c b D n,ct:=Pk c b D n,bk:=D.nx} τ C1 else D.nx τ C1) D.xc
def De (c:WT)(b:WS):WS:=λD τ C=>∃n,Pk c b D n τ C
def zn {K:W.Frag}{c:TT}{tb:TS}{c':WT}{b':WS}(hc:Od K c c')(hb:yg K tb b'):yg K (yG c tb) (De c' b'):=λF H C σ τ D D' R S h d=>by
 obtain⟨n,h⟩:=h
 refine⟨λm σ H2=>∃τ C,Rl K F H2 C/\Tx H H2/\J6 K H2 σ τ/\Pk c' b' D' m τ C,⟨n,τ,C,R,Tx.refl _,S,h⟩,?_⟩
 rintro m σ2 H2 ⟨τ2,C2,R2,t2,S2,h2⟩
 cases m with
 | zero=>exact h2.elim
 | succ m=>
  refine hc F H2 C2 σ2 τ2 _ _ D'.xc R2 S2 h2 λk H3 C3 R3 t3 h3=>?_
  cases k with
  | true=>
   refine⟨λσ' H'=>∃τ' C',Rl K F H' C'/\Tx H H'/\J6 K H' σ' τ'/\Pk c' b' D' m τ' C',λσ' H' z=>⟨m,Nat.lt_succ_self m,z⟩,?_⟩
   have t13:=t2.trans t3
   exact hb F H3 C3 σ2 τ2 _ _ R3 (S2.tx t3) h3 ⟨λσ' τ' H' C' R' t' S' h'=>⟨τ',C',R',t13.trans t',S',h'⟩,λx v H' C' R' t'=>d.rt x v H' C' R' (t13.trans t'),λσ' τ' H' C' R' t' S' h'=>d.nx σ' τ' H' C' R' (t13.trans t') S' h',λσ' τ' H' C' R' t' S' h'=>⟨τ',C',R',t13.trans t',S',h'⟩⟩
  | false=>exact d.nx σ2 τ2 H3 C3 R3 (t2.trans t3) (S2.tx t3) h3
def Q8 {X:Cx}{c:Expr}{body:List Stmt}{wc:WT}{b:WS}{pos:Pos}(hp:PassesOwn (model X.prog X.w) X.A X.env X.xe)(hc:xM X c wc)(hb:xC X body b):yh X (.While c body [] pos) (De wc b):=by
 obtain⟨t,p,s⟩:=hc
 obtain⟨t',p',s'⟩:=hb
 exact⟨_,jf hp p p',zn s s'⟩
def Rc {c:WT}{b:WS}{D:We}(Pv:Nat->Sw->Hw->Prop){τ:Sw}{C:Hw}{m:Nat}(h0:Pv m τ C)
  (hs:∀m τ C (N:Sw->Hw->Prop),Pv m τ C->(∀m' τ' C',m'<m->Pv m' τ' C'->N τ' C')->c τ C (λk C1=>if k=true then b {D with nx:=N,ct:=N,bk:=D.nx} τ C1 else D.nx τ C1) D.xc):De c b D τ C:=by
 have key:∀(n m:Nat) (τ:Sw) (C:Hw),m<n->Pv m τ C->Pk c b D n τ C:=by
  intro n
  induction n with
  | zero=>intro m τ C h _;omega
  | succ n ih=>intro m τ C hm hp;exact hs m τ C _ hp λm' τ' C' hlt hp'=>ih m' τ' C' (by omega) hp'
 exact⟨m+1,key (m+1) m τ C (Nat.lt_succ_self m) h0⟩
section
variable {X:Cx}{a b c e o i:Expr}{es:List Expr}{wa wb wc wo wi:WE}{wA:WA}{pos p p2 apos cpos:Pos}
end
def kT:T->Option Z1
 | .int i=>some (.inl i)
 | .str x=>some (.inr x)
 | _=>none
def Yl (kvs:List (Z1×T))(k:Z1):Option T:=(kvs.find? λkv=>decide (kv.1=k)).map (·.2)
def Ji (kvs:List (Z1×T))(k:Z1)(v:T):List (Z1×T):=
 if (kvs.any λkv=>decide (kv.1=k))=true then kvs.map (λkv=>if kv.1=k then(kv.1,v) else kv) else kvs++[(k,v)]
def O8 {K:W.Frag}{H:Hp}{x:V}{v:T}{k:Z1}(h:kT v=some k)(r:Y7 K H x v):x=kV k:=by
 cases v with
 | int i=>cases h;exact Ym r
 | str z=>cases h;exact Jl r
 | _=>cases h
def PR.get {K:W.Frag}{H:Hp}:∀{ks:List (Z1×V)} {kvs:List (Z1×T)} (_:PR K H ks kvs) (k:Z1),(Yl kvs k=none->Vi ks k=none)/\∀v,Yl kvs k=some v->∃x,Vi ks k=some x/\Y7 K H x v
 | _,_,.nil,k=>⟨λ_=>rfl,λv h=>by cases h⟩
 | p::r,q::s,.cons h t,k=>by
  obtain⟨e,rp⟩:=h
  have ih:=PR.get t k
  by_cases c:q.1=k
  ·have c':p.1=k:=e.trans c
   rw[Qr c']
   unfold Yl
   rw[List.find?_cons_of_pos (by simpa using c)]
   exact⟨(λz=>by cases z),(λv z=>by cases z;exact⟨p.2,rfl,rp⟩)⟩
  ·have c':¬p.1=k:=λz=>c (e.symm.trans z)
   rw[Qs c']
   unfold Yl
   rw[List.find?_cons_of_neg (by simpa using c)]
   exact ih
def PR.any {K:W.Frag}{H:Hp}:∀{ks:List (Z1×V)} {kvs:List (Z1×T)} (_:PR K H ks kvs) (k:Z1),(ks.any λkv=>decide (kv.1=k))=kvs.any λkv=>decide (kv.1=k)
 | _,_,.nil,k=>rfl
 | p::r,q::s,.cons h t,k=>by rw[List.any_cons,List.any_cons,PR.any t k,h.1]
def PR.mapK {K:W.Frag}{H:Hp}{k:Z1}{x:V}{v:T}(rx:Y7 K H x v):∀{ks:List (Z1×V)} {kvs:List (Z1×T)} (_:PR K H ks kvs),PR K H (ks.map λkv=>if kv.1=k then(kv.1,x) else kv) (kvs.map λkv=>if kv.1=k then(kv.1,v) else kv)
 | _,_,.nil=>.nil
 | p::r,q::s,.cons h t=>by
  refine .cons ?_ (PR.mapK rx t)
  obtain⟨e,rp⟩:=h
  by_cases c:q.1=k
  ·have c':p.1=k:=e.trans c
   dsimp only
   rw[XY c,XY c'];exact⟨e,rx⟩
  ·have c':¬p.1=k:=λz=>c (e.symm.trans z)
   dsimp only
   rw[XX c,XX c'];exact⟨e,rp⟩
def PR.put {K:W.Frag}{H:Hp}{ks:List (Z1×V)}{kvs:List (Z1×T)}(h:PR K H ks kvs){k:Z1}{x:V}{v:T}(rx:Y7 K H x v):PR K H (Xi ks k x) (Ji kvs k v):=by
 unfold Xi Ji
 rw[PR.any h k]
 split
 ·exact PR.mapK rx h
 ·exact h.snoc ⟨rfl,rx⟩
def PR.length {K:W.Frag}{H:Hp}{ks:List (Z1×V)}{kvs:List (Z1×T)}(h:PR K H ks kvs):ks.length=kvs.length:=Paired.length h
section
variable {K:W.Frag}{F H:Hp}{C:Hw}
def Rl.dic (R:Rl K F H C){a:Addr}{kvs:List (Z1×T)}(h:C a=some (.dic kvs)):∃ks,H a=some (.dK ks)/\PR K H ks kvs:=R.obj a _ h
def Rl.putD (R:Rl K F H C){p:Addr}{kvs kvs':List (Z1×T)}{ks':List (Z1×V)}(h:C p=some (.dic kvs))(r:PR K H ks' kvs'):Rl K F (Yq H p (.dK ks')) (up C p (.dic kvs'))/\Tx H (Yq H p (.dK ks')):=by
 obtain⟨w,hw,ns⟩:=(R.obj p _ h).some trivial
 exact R.put h ⟨ks',Z9,N5 (Tx.put hw ns) r⟩
def Rl.newD (R:Rl K F H C){p:Addr}{kvs:List (Z1×T)}{ks:List (Z1×V)}(h:H p=none)(r:PR K H ks kvs):Rl K F (Yq H p (.dK ks)) (up C p (.dic kvs)):=R.new h ⟨ks,Z9,N5 (Tx.new h) r⟩
end
def sI:WE:=λ_ C Q _=>∀p,C p=none->Q (.ref p) (up C p (.dic []))
def k4 (o i:WE):WG:=λv τ C Q χ=>o τ C (λx C1=>i τ C1 (λy C2=>∃a kvs k,x=.ref a/\kT y=some k/\C2 a=some (.dic kvs)/\kvs.length<sizeLine/\Q τ (up C2 a (.dic (Ji kvs k v)))) χ) χ
def ut:List T->Hw->WK->Prop:=λvs C Q=>∃a kvs,vs=[.ref a]/\C a=some (.dic kvs)/\Q (.int kvs.length) C
section
variable {X:Cx}{a b c e o i f:Expr}{es:List Expr}{wa wb wc wo wi wd:WE}{wA:WA}{pos p p2 apos cpos:Pos}
def Pb:Jd X (.Dict [] [] pos) sI:=⟨_,jn,λF H C σ τ Q Q' χ R S h q p hp=>q _ _ _ _ (R.newD hp .nil) (Tx.new hp) Y2 (h p (R.free hp))⟩
def qG:V->V->V->Hp->(Hp->Prop)->Prop:=λo i v H Q=>∃p ks k,o=.ref p/\i=kV k/\H p=some (.dK ks)/\ks.length<sizeLine/\Q (Yq H p (.dK (Xi ks k v)))
def yS (hu:X.A.units+150<cLine):rG X qG:=by
 intro pins s σ H o i v ov iv u Q I ro ri rv h
 obtain⟨p,ks,k,rfl,rfl,hp,hl,q⟩:=h
 cases ro
 exact zU (by omega) I (ym.k hp hl) ri rv λs' I'=>⟨_,I',q⟩
def Ni (hu:X.A.units+150<cLine)(ho:Jd X o wo)(hi:Jd X i wi)
  (ha:∀v,assign (.Subscript o i pos) X.env v=(do
   let ov <-holding [v] (eval o X.env)
   let iv <-holding [v,ov] (eval i X.env)
   standAt pos
   holding [v,ov,iv] (setItem ov iv v)
   release [v,ov,iv] []):=by intro _;rfl):rE X (.Subscript o i pos) (k4 wo wi):=by
 obtain⟨t,p,s⟩:=ho
 obtain⟨t',p',s'⟩:=hi
 refine⟨_,jj p p' (yS hu) ha,λF H C σ τ x v Q Q' χ R S r h q=>?_⟩
 refine s F H C σ τ _ _ χ R S h λy vy H1 C1 R1 t1 ry h1=>?_
 refine s' F H1 C1 σ τ _ _ χ R1 (S.tx t1) h1 λz vz H2 C2 R2 t2 rz h2=>?_
 obtain⟨l,kvs,k,rfl,hk,hC,hl,h2⟩:=h2
 cases Zs ry
 obtain⟨ks,hH,pr⟩:=R2.dic hC
 have t12:=t1.trans t2
 obtain⟨R',t'⟩:=R2.putD hC (PR.put pr (k:=k) (r.tx t12))
 exact⟨l,ks,k,rfl,O8 hk rz,hH,by rw[PR.length pr];exact hl,q _ _ _ _ R' (t12.trans t') (S.tx (t12.trans t')) h2⟩
def sZ:Qa X (.builtin "len") ut:=by
 refine⟨λxs H Q=>∃p ks,xs=[.ref p]/\H p=some (.dK ks)/\Q (.int ks.length) H,?_,λF H C xs vs Q Q' R rs h q=>?_⟩
 ·intro pins s σ H xs us Q I rs h
  obtain⟨p,ks,rfl,hp,q⟩:=h
  obtain⟨u,rfl,ru⟩:=rs.one
  cases ru
  exact pO I (.inl hp) λt s' I'=>⟨.int _,H,I',⟨t,rfl⟩,q⟩
 ·obtain⟨l,kvs,rfl,hC,h⟩:=h
  obtain⟨x,rfl,rx⟩:=Wr rs
  cases Zs rx
  obtain⟨ks,hH,pr⟩:=R.dic hC
  exact⟨l,ks,rfl,hH,by rw[PR.length pr];exact q _ _ H C R (Tx.refl H) Xb h⟩
end
end WL
namespace L2
open PySem PySem.Spec PyProof.Rows
def m9 (w:World):Bool:=w.params.followText "set-order"
def qb (e:Int×Value):Str:=strOf e.2
structure pY (P:Program)(w:World)(h:Heap)(a:Addr)(es:Array (Int×Value))(ep:Nat)(t:SetTable):Prop where
 get:h.get? a=some {cls:=.type "set",dict:=none,data:=.set es ep t,slots:=#[]}
 els:ElemsOf (PySem.strKind P w) es.toList
 fit:t.fits es.size=true
 bnd:es.size<scanBound
 pln:es.size≠0->t.plain=false
 led:t.led=!m9 w
 nod:(es.toList.map qb).Nodup
section
variable {prog:Program}{w:World}{A:Around}{E:Value->Shared->Prop}{s:Shared}
end
section
variable {prog:Program}{w:World}{A:Around}{R:Result->Shared->Prop}{I:Addr}{fp wr:List Addr}{G:Array GenState->Array GenState->Prop}{n:Nat}{P:Nat->Value->Prop}{St:Nat->Shared->Prop}
end
section
variable {prog:Program}{w:World}{A:Around}{E:Value->Shared->Prop}{s:Shared}
def xV {vs:List Value}{xs:List Str}(h:StrsAre vs xs):xs.length=vs.length:=by
 induction h with
 | nil=>rfl
 | cons x t h ih=>simp[ih]
def zj {r:Addr}{φ:List Str->Prop}{Q:Value->Shared->Prop}(h64:∀xs,φ xs->xs.length<64)
  (hc:∀(R:List Value->Shared->Prop),(∀(h':Heap) (d':Drawn) (tk:Nat) (vs:List Value) (xs:List Str),(∀b o,s.heap.get? b=some o->h'.get? b=some o)->StrsAre vs xs->φ xs->R vs {s with heap:=h',drawn:=d',toks:=tk})->
   wpAny (model prog w) A.in1 (collect (.ref r)) R E s)
  (h:∀(p:Addr) (h1 h':Heap) (d':Drawn) (tk:Nat) (vs:List Value) (n:Nat) (xs xs':List Str),φ xs->h1.objs.size<=p->(∀b o,s.heap.get? b=some o->h1.get? b=some o)->(∀b o,h1.get? b=some o->h'.get? b=some o)->h'.get? p=some (seqObj "list" vs.toArray n)->StrsAre vs xs'->xs'.Perm xs->sortedS xs'=true->
   Q (.ref p) {s with heap:=h',drawn:=d',toks:=tk}):
  wpAny (model prog w) A (call (.builtin "sorted") [.ref r]) Q E s:=by
 refine Calls.call_function_entry kind_sorted plain_sorted entry_sorted (args_sorted1 _) ?_
 unfold Builtin.«sorted»
 refine XA (m:=checkCount "sorted" 1 1 _) (XB ?_)
 refine XA (hc _ λh1 d1 tk vs xs k hS hφ=>?_)
 have hl:vs.length<64:=by rw[<-xV hS];exact h64 xs hφ
 have hz:vs.length<=sizeLine:=by rw[sizeLine_eq];omega
 refine XA (wpAny_newList ?_ hz)
 have hoL:(h1.push (seqObj "list" vs.toArray 0)).get? h1.objs.size=some (seqObj "list" vs.toArray 0):=XF _ rfl
 show wpAny _ _ _ _ _ {s with heap:=h1.push (seqObj "list" vs.toArray 0),drawn:=d1,toks:=tk}
 refine XA (wpAny_holding (wpAny_call_entry slot_list_sort ⟨_,hoL,rfl⟩ entry_list_sort (list_sort_treeK strKind_oneLt hoL hS.keysOf (λv₁ v₂ Xl e=>keyKind_strs (by rw[<-e];exact hS)) hl λst' a1 a2=>⟨_,rfl,?_⟩) (args_list_sort _)))
 obtain⟨xs',b1,b2,b3⟩:=sorted_out_str hS a1 a2
 obtain⟨n,hn⟩:=sortedHeap_at (out:=(arrOf st').map (·.2)) hoL
 refine XB ⟨_,rfl,h h1.objs.size h1 _ d1 tk ((arrOf st').map (·.2)).toList n xs xs' hφ (XE _) k (λb o hb=>?_) (by rw[Array.toArray_toList];exact hn) b1 b2 b3⟩
 have hlt:=XD hb
 rw[sortedHeap_old (XH hlt) (by rw[size_push'];exact Nat.lt_succ_of_lt hlt)]
 exact XC _ hb
end
section
variable {X:Cx}{pins:List (Addr×Obj)}{s:Shared}{σ:St}{H:Hp}
def sn {h':Heap}{d':Drawn}{t':Nat}(I:Zp X pins σ H s)(k:∀b u,s.heap.get? b=some u->h'.get? b=some u):Zp X pins σ H {s with heap:=h',drawn:=d',toks:=t'}:=by
 refine I.step (g':=s.gens) (ch:=[]) (λ_ z=>nomatch z) (λb o _ _ _ e _=>k b o e) (λb o _ _ _ e _=>⟨o.slots,k b o e⟩) (λb o _ _ n=>n) (λb o _ e=>⟨o,k b o e⟩) (λ_ _ e=>e) (λ_ _ _ e=>e) (λb ps e=>⟨#[],by simpa using e⟩) (λm hm=>?_) (I.hok.kept k) I.bare
 obtain⟨o,es,ep,ho,r⟩:=hm
 exact⟨o,es,ep,k _ o ho,r⟩
def ze {vs:List Value}{xs:List Str}(h:StrsAre vs xs):Zz (xs.map V.str) vs:=by
 induction h with
 | nil=>exact .nil
 | cons x t h ih=>exact .cons ⟨t,rfl⟩ ih
def lZ (P:Program)(w:World)(a:Addr)(xs:List Str):HO:=.ext λh=>∃es ep t,pY P w h a es ep t/\∀y,y∈es.toList.map qb↔y∈xs
def tZ {p:Addr}{h1 h':Heap}{d':Drawn}{tk n:Nat}{vs:List Value}{xs:List Str}(I:Zp X pins σ H s)(hp:h1.objs.size<=p)(k1:∀b o,s.heap.get? b=some o->h1.get? b=some o)(k2:∀b o,h1.get? b=some o->h'.get? b=some o)
  (g:h'.get? p=some (seqObj "list" vs.toArray n)) (hS:StrsAre vs xs) (hl:xs.length<64):Zp X pins σ (Yq H p (.lst (xs.map V.str))) {s with heap:=h',drawn:=d',toks:=tk}/\H p=none:=by
 have I1:Zp X pins σ H {s with heap:=h1,drawn:=d',toks:=tk}:=sn I k1
 refine⟨I1.laid (t':=tk) k2 hp ⟨?_,vs,n,ze hS,g⟩,I1.hok.fresh hp⟩
 rw[XI,sizeLine_eq];omega
def Br:∀{l:List Value} {ts:List Str},l.length=ts.length->(∀(j:Nat) (v:Value),l[j]?=some v->∃t tk,ts[j]?=some t/\v=.str t tk)->StrsAre l ts
 | [],[],_,_=>.nil
 | v::l,t::ts,e,h=>by
  obtain⟨t',tk,e1,e2⟩:=h 0 v rfl
  cases e1
  subst e2
  exact .cons _ tk (Br (by simpa using e) λj u hu=>h (j+1) u hu)
def vd {kvs:List (Z1×V)}{vs:List (Z1×Value)}(h:KV kvs vs):vs.map (·.1)=kvs.map (·.1):=by
 induction h with
 | nil=>rfl
 | cons a b ih=>rw[YI,YI,ih,a.1]
def Gh (hc:X.calm=true):Wj X (.builtin "sorted") (λxs H Q=>∃(p:Addr) (kvs:List (Z1×V)) (ts:List Str),xs=[.ref p]/\Rd H p (.dK kvs)/\kvs.map (·.1)=ts.map Sum.inr/\ts.length<64/\
  ∀q ys,H q=none->ys.Perm ts->sortedS ys=true->Q (.ref q) (Yq H q (.lst (ys.map V.str)))):=by
 intro pins s σ H xs us Q I r h
 obtain⟨p,kvs,ts,rfl,hp,hk,h64,q⟩:=h
 obtain⟨u,rfl,ru⟩:=Rm r
 cases ru
 obtain⟨hz,lo,vs,hkv,hD⟩:=hp.ok I.hok
 obtain⟨ep,hat⟩:=hD.dictAt
 have hlen:kvs.length=ts.length:=by have:=congrArg List.length hk;simpa using this
 have hlen2:kvs.length=vs.length:=Paired.length hkv
 refine zj (φ:=λys=>ys=ts) (λys e=>by rw[e];exact h64) (λR hR=>W.kdu_collect (A:=X.A.in1) (W.kdl_dict (knd:=Yx X.prog X.w) (kvs:=vs) (ep:=ep) lo) (I.ok.hd hc) hat (by rw[sizeLine_eq];omega) λh' tk acc k hacc=>?_) λq' h1 h' d' tk us n ys ys' e hq k1 k2 g hS e' so=>?_
 ·refine hR h' s.drawn tk acc.toList ts k ?_ rfl
  refine Br (by rw[Array.length_toList,hacc.1];omega) λj v hv=>?_
  obtain⟨k,x,hx,hi⟩:=hacc.2 j v (by rw[<-Array.getElem?_toList];exact hv)
  have e1:(vs.map (·.1))[j]?=some k:=by rw[XM,hx];rfl
  rw[vd hkv,hk,XM] at e1
  cases ht:ts[j]? with
  | none=>rw[ht] at e1;cases e1
  | some t=>
   rw[ht] at e1
   cases e1
   rw[Dv] at hi
   rcases Y4 hi with⟨i,u,e,_⟩ | ⟨y,u,e,e2⟩
   ·cases e
   ·cases e
    exact⟨_,u,rfl,e2⟩
 ·subst e
  obtain⟨I2,hf⟩:=tZ (d':=d') (tk:=tk) I hq k1 k2 g hS (by rw[e'.length_eq];exact h64)
  exact⟨.ref q',_,I2,rfl,q q' ys' hf e' so⟩
end
end L2
namespace WL
open PySem PySem.Spec PyProof.Rows L2
def rc:List T->Hw->WK->Prop:=λvs C Q=>∃(a:Addr) (kvs:List (Z1×T)) (ts:List Str),vs=[.ref a]/\C a=some (.dic kvs)/\kvs.map (·.1)=ts.map Sum.inr/\ts.length<64/\
 ∀q ys,C q=none->ys.Perm ts->sortedS ys=true->Q (.ref q) (up C q (.lst (ys.map T.str)))
def zZ:bootBuiltins "sorted"=some (.builtin "sorted"):=by decide+kernel
def PR.keys {K:W.Frag}{H:Hp}:∀{ks:List (Z1×V)} {kvs:List (Z1×T)} (_:PR K H ks kvs),ks.map (·.1)=kvs.map (·.1)
 | _,_,.nil=>rfl
 | _,_,.cons h t=>by rw[YI,YI,PR.keys t,h.1]
def Fl {K:W.Frag}{H:Hp}:∀(ts:List Str),Reps K H (ts.map V.str) (ts.map T.str)
 | []=>Ys
 | t::ts=>Yf V0 (Fl ts)
section
variable {X:Cx}{e:Expr}{we:WE}{pos p p2 pos2:Pos}
def vD (hc:X.calm=true):Qa X (.builtin "sorted") rc:=⟨_,Gh hc,λF H C xs vs Q Q' R rs h q=>by
 obtain⟨l,kvs,ts,rfl,hC,hk,hl,h⟩:=h
 obtain⟨x,rfl,rx⟩:=Wr rs
 cases Zs rx
 obtain⟨ks,hH,pr⟩:=R.dic hC
 refine⟨l,ks,ts,rfl,.inl hH,by rw[PR.keys pr];exact hk,hl,λp ys hp e1 e2=>?_⟩
 exact q _ _ _ _ (R.newL hp (Fl ys)) (Tx.new hp) Y2 (h p ys (R.free hp) e1 e2)⟩
end
end WL
namespace L2
open PySem PySem.Spec PyProof.Rows
section
variable {X:Cx}{tg:Expr}
end
end L2
namespace WL
open PySem PySem.Spec PyProof.Rows L2
section
variable {X:Cx}{tg a:Expr}{wA:WA}{pos p:Pos}
end
end WL
namespace L2
open PySem PySem.Spec PyProof.Rows
section
variable {X:Cx}
end
end L2
namespace WL
open PySem PySem.Spec PyProof.Rows L2
section
variable {X:Cx}
end
end WL
namespace L2
open PySem PySem.Spec PyProof.Rows
def uL:typeLookup (.type "list_reverseiterator") "__len__"=pure none:=by
 rw[typeLookup_type];rw[builtinLookup_eq_fast];kernel_rfl
def w5:typeLookup (.type "list_reverseiterator") "__length_hint__"=pure (some (.builtin "list_reverseiterator.__length_hint__")):=by
 rw[typeLookup_type];rw[builtinLookup_eq_fast];kernel_rfl
section
variable {prog:Program}{w:World}{A:Around}{E:Value->Shared->Prop}{s:Shared}{it l:Addr}{i:Int}
def jL {Q:Bool->Shared->Prop}(hit:s.heap.IsRevIter it l i)(h:Q false s):wpAny (model prog w) A (Builtin.List.listLengthHint (.ref it)) Q E s:=by
 have hT:=hit.typeIs
 unfold Builtin.List.listLengthHint
 refine XA (wpAny_specialOf hT uL ?_)
 show wpAny _ A (specialOf (Value.ref it) (Str.ofString "__length_hint__")>>=_) _ _ _
 refine XA (wpAny_specialOf hT w5 ?_)
 generalize hid:("list_reverseiterator.__length_hint__":String)=id0
 wp_delta
 rw[show splitId id0=some ("list_reverseiterator","__length_hint__") from by subst hid;decide+kernel]
 subst hid
 refine XA (wpAny_isInstance (T:="list_reverseiterator") (b:=true) hT (by rw[isSubtype_type];kernel_rfl) ?_)
 refine wpAny_ite_split (λz=>absurd z (by decide)) (λ_=>?_)
 refine wpAny_ite_split (λ_=>?_) (λz=>absurd (by decide+kernel) z)
 refine wpAny_ite_split (λz=>absurd z (by decide+kernel)) (λ_=>?_)
 exact XB h
def jG {R:Result->Shared->Prop}{items:Array Value}(hh:A.handled=none)(n:Nat)(hn:items.size=n)(hsz:n<=sizeLine)(S:Addr)(hSi:S≠it)(hSl:S≠l)(hil:l≠it)
  (hit:s.heap.IsRevIter it l ((n:Int)-1)) (hl:s.heap.IsList l items) (hS:s.heap.get? S=some {cls:=.type "list",data:=.seq #[]})
  (hR:∀s' acc' c',Moved [S,it] (λa b=>b=a) s s'->s'.heap.get? S=some {cls:=.type "list",dict:=none,data:=.seq acc' c',slots:=#[]}->ItemsOf (λi v=>items[items.size-1-i]?=some v) acc' n->R (.ok (.ret .none)) s'):
  wpAny (model prog w) A.in1 (Builtin.«list.__init__» ⟨[.ref S,.ref it],[]⟩)
   (λfin s2=>match fin with | .done f=>R (.ok f) s2 | .again c2=>c2.quiet=true/\codeAny (model prog w) A c2 R s2) (λe s2=>R (.error e) s2) s:=by
 have W:=(Walks.listRev (prog:=prog) (w:=w) (A:=A.in1) hh it l hil items).toS
 rw[hn] at W
 have hSf:S∉[it,l]:=by simp[hSi,hSl]
 show wpAny _ A.in1 (Builtin.List.listItems (.ref S)>>=λold=>Builtin.List.listUpdate (.ref S) (λ_=>#[])>>=λ_=>letGo old.toList.reverse>>=λ_=>Builtin.List.listExtendWith (.ref S) (.ref it) .none) _ _ s
 unfold Builtin.List.listItems
 refine XA ?_
 refine XA (wpAny_seqItems hS rfl (XB ?_))
 show wpAny _ A.in1 (updateSeq S (λ_=>#[])>>=λ_=>letGo (#[]:Array Value).toList.reverse>>=λ_=>Builtin.List.listExtendWith (.ref S) (.ref it) .none) _ _ s
 refine XA (wpAny_updateSeq hS rfl ?_)
 have hS2:=Heap.get?_update_self (Obj.mapSeq (λ_=>(#[]:Array Value))) hS rfl
 have oth:∀b o,b≠S->s.heap.get? b=some o->(s.heap.update S (Obj.mapSeq (λ_=>(#[]:Array Value)))).get? b=some o:=λb o hb e=>
  (Heap.get?_update_other _ _ (Ne.symm hb)).trans e
 refine XA (wpAny_letGo ?_)
 unfold Builtin.List.listExtendWith
 have hit2:(s.heap.update S (Obj.mapSeq (λ_=>(#[]:Array Value)))).IsRevIter it l ((n:Int)-1):=hit.at λo e=>oth it o hSi.symm e
 have hl2:(s.heap.update S (Obj.mapSeq (λ_=>(#[]:Array Value)))).IsList l items:=hl.at λo e=>oth l o hSl.symm e
 refine XA (wpAny_typeOf (T:="list_reverseiterator") (Heap.IsRevIter.typeIs (s:={s with heap:=_}) hit2) ?_)
 have h1:Builtin.List.listSameRef (.ref S) (.ref it)=false:=by simp[Builtin.List.listSameRef,hSi]
 have h2:(Value.type "list_reverseiterator"==Value.type "list")=false:=by decide
 have h3:(Value.type "list_reverseiterator"==Value.type "tuple")=false:=by decide
 simp only[h1,h2,h3,Bool.or_false,Bool.false_eq_true,if_false]
 refine XA (wpAny_pyIter_revIter hit2 ?_)
 refine XA (wpAny_holding (jL hit2 ?_))
 have st:(λi (h:Heap)=>i<=n/\h.IsRevIter it l ((n:Int)-1-(i:Int))/\h.IsList l items) 0 (s.heap.update S (Obj.mapSeq (λ_=>(#[]:Array Value)))):=⟨Nat.zero_le _,by simpa using hit2,hl2⟩
 refine wpAny_ite_split (λz=>absurd z (by decide+kernel)) (λ_=>?_)
 refine XB ⟨plainId_quiet PySem.F.plain_extend_loop _,?_⟩
 refine codeAny_extend_loopS W hsz S hSf .none n 0 _ #[] _ rfl (XO _) st hS2 (ItemsOf.nil _) λs3 acc3 c3 hm hS3 hacc=>?_
 refine hR s3 acc3 c3 ⟨λb o hb e=>?_,hm.gens,hm.drawn,hm.os,hm.toks⟩ hS3 (by rw[hn];exact hacc)
 exact hm.heap b o hb (oth b o (λz=>hb (by rw[z];simp)) e)
def Gj {Q:Value->Shared->Prop}{items:Array Value}(hh:A.handled=none)(hsz:items.size<=sizeLine)(hil:l≠it)(hit:s.heap.IsRevIter it l ((items.size:Int)-1))(hl:s.heap.IsList l items)
  (hQ:∀h2 t2 acc2 c2,(∀b o,b≠it->s.heap.get? b=some o->h2.get? b=some o)->h2.get? s.heap.objs.size=some {cls:=.type "list",dict:=none,data:=.seq acc2 c2,slots:=#[]}->ItemsOf (λi v=>items[items.size-1-i]?=some v) acc2 items.size->Q (.ref s.heap.objs.size) {s with heap:=h2,toks:=t2}):
  wpAny (model prog w) A (call (.type "list") [.ref it]) Q E s:=by
 refine callType_codes (Q₁:=λob s1=>ob=.ref s.heap.objs.size/\s1={s with heap:=s.heap.push {cls:=.type "list",data:=.seq #[]}}) PySem.F.called_list (PySem.F.typeCall_list_1 _) PySem.F.entry_list_init (code_list_new _ ⟨rfl,rfl⟩) λob s1 h1=>?_
 obtain⟨rfl,rfl⟩:=h1
 have hS:(s.heap.push {cls:=.type "list",data:=.seq #[]}).get? s.heap.objs.size=some {cls:=.type "list",data:=.seq #[]}:=XF _ rfl
 have ltI:it<s.heap.objs.size:=by obtain⟨_,e,_⟩:=hit;exact XD e
 have ltL:l<s.heap.objs.size:=by obtain⟨_,e,_⟩:=hl;exact XD e
 refine⟨⟨_,hS,rfl⟩,PySem.F.args_list_init_2 _ _,jG (A:=A.in1) hh items.size rfl hsz _ (Nat.ne_of_gt ltI) (Nat.ne_of_gt ltL) hil (hit.at λo e=>XC _ e) (hl.at λo e=>XC _ e) hS λs3 acc3 c3 hm hS3 hacc=>⟨rfl,?_⟩⟩
 rw[Moved.eq_with hm]
 exact hQ s3.heap s3.toks acc3 c3 (λb o hb e=>hm.heap b o (by simp only[List.mem_cons,List.not_mem_nil,or_false,not_or];exact⟨Nat.ne_of_lt (Heap.lt_size e),hb⟩) (Heap.get?_push_of_some _ e)) hS3 hacc
end
section
variable {X:Cx}
def G3:∀{xs:List V} {us:List Value},Zz xs us->Zz xs.reverse us.reverse
 | _,_,.nil=>.nil
 | _,_,.cons r t=>by rw[List.reverse_cons,List.reverse_cons];exact(G3 t).append (.cons r .nil)
def zI {its:List Value}{acc:Array Value}(h:ItemsOf (λi v=>its.toArray[its.toArray.size-1-i]?=some v) acc its.toArray.size):acc.toList=its.reverse:=by
 obtain⟨h1,h2⟩:=h
 have hl:its.toArray.size=its.length:=by simp
 refine List.ext_getElem? λj=>?_
 by_cases c:j<acc.size
 ·have e:acc[j]?=some acc[j]:=by simp[c]
  have h3:=h2 j _ e
  rw[Array.getElem?_toList,e,<-h3,hl]
  rw[List.getElem?_reverse (by omega)]
  simp
 ·rw[List.getElem?_eq_none (by simp;omega),List.getElem?_eq_none (by simp;omega)]
def qk (K:W.Frag)(ta:TE):TE:=λσ H Q=>ta σ H λx H1=>∃a xs,x=.ref a/\Xr K H1 a xs/\∀p,H1 p=none->Q (.ref p) (Yq H1 p (.lst xs.reverse))
def Dn {a:Expr}{ta:TE}{p pos p2 pos2:Pos}(hc:X.calm=true)(hg:Gl X "list")(hm:X.mg "list"=none)(hg2:Gl X "reversed")(hm2:X.mg "reversed"=none)(ha:PE X a ta)(hs:starEach [a] X.env=[(false,eval a X.env)]:=by rfl)
  (hs2:starEach [.Call (.Name "reversed" p2) [a] [] pos2] X.env=[(false,eval (.Call (.Name "reversed" p2) [a] [] pos2) X.env)]:=by rfl) (hb:bootBuiltins "reversed"=some (.type "reversed"):=by decide+kernel) (hb2:bootBuiltins "list"=some (.type "list"):=by decide+kernel):
  PE X (.Call (.Name "list" p) [.Call (.Name "reversed" p2) [a] [] pos2] [] pos) (qk X.K ta):=by
 intro pins s σ H Q I h
 refine Call_ (Uj I hg hm hb2 (PyProof.Rows.callWith_type1 ?_ hs2 rfl))
 rw[hs2]
 show wpAny _ _ (spliced ((false,eval (.Call (.Name "reversed" p2) [a] [] pos2) X.env)::backTo pos [])) _ _ s
 refine Calls.spliced_cons (Call_ (Uj I hg2 hm2 hb (PyProof.Rows.callWith_type1 ?_ hs rfl)))
 have pa:PA X [a] (yM ta yK):=Nc ha Dp hs
 refine Jp (pa pos2 pins s σ H (λxs H1=>match xs with | [x]=>∃a ys,x=.ref a/\Xr X.K H1 a ys/\∀p,H1 p=none->Q (.ref p) (Yq H1 p (.lst ys.reverse)) | _=>False) I h) λus s1 ⟨vs,H1,I1,r1,q1⟩=>?_
 have one:∃x,vs=[x]:=by
  match vs,q1 with
  | [x],_=>exact⟨x,rfl⟩
  | [],q1=>exact q1.elim
  | _::_::_,q1=>exact q1.elim
 obtain⟨x,rfl⟩:=one
 obtain⟨l,ys,rfl,hq,q⟩:=q1
 obtain⟨u,rfl,ru⟩:=Rm r1
 cases ru
 obtain⟨its,rv,pl,hz⟩:=I1.list hq
 have hlen:=rv.length
 refine call_reversed_list pl.isList ?_
 have ltL:l<s1.heap.objs.size:=by obtain⟨_,e,_⟩:=pl.isList;exact XD e
 refine Calls.spliced_nil ?_
 have hit:(s1.heap.push (revObj l ((its.toArray.size:Int)-1))).IsRevIter s1.heap.objs.size l ((its.toArray.size:Int)-1):=⟨_,XF _ rfl,rfl,rfl⟩
 have hl2:(s1.heap.push (revObj l ((its.toArray.size:Int)-1))).IsList l its.toArray:=pl.isList.at λo e=>XC _ e
 refine Gj (s:={s1 with heap:=s1.heap.push (revObj l ((its.toArray.size:Int)-1))}) (I.ok.hd hc) (by simp only[List.size_toArray];omega) (Nat.ne_of_lt ltL) hit hl2 λh2 t2 acc c2 kp hN hI=>?_
 have hp:s1.heap.objs.size<=(s1.heap.push (revObj l ((its.toArray.size:Int)-1))).objs.size:=by rw[Heap.size_push];omega
 refine⟨.ref _,_,I1.laid (h':=h2) (t':=t2) (λb o e=>kp b o (XH (XD e)) (XC _ e)) hp (show Ja X.prog X.w _ h2 _ (.lst ys.reverse) from⟨by rw[List.length_reverse];exact hz,its.reverse,c2,G3 rv,?_⟩),rfl,q _ (I1.hok.fresh hp)⟩
 rw[<-zI hI]
 exact hN
def kJ (X:Cx)(e:Expr)(t:TE):Prop:=
 ∀(pins:List (Addr×Obj)) (s:Shared) (σ:St) (H:Hp) (Q:VK),Zp X pins σ H s->t σ H Q->wpAny (model X.prog X.w) X.A (eval e X.env) (λv s'=>1<=s'.toks/\EP X pins σ Q v s') X.xe s
variable {o e:Expr}{es:List Expr}{to:TE}{t:TA}{apos cpos:Pos}{z y:Str}{k k1 k2:Nat}{lp lp1 lp2:Pos}
end
end L2
namespace WL
open PySem PySem.Spec PyProof.Rows L2
section
variable {X:Cx}{e o:Expr}{we wo:WE}{p p2 pos pos2 apos cpos:Pos}
def wW:T->List T->Hw->WK->Prop:=λx vs C Q=>∃a b xs zs,x=.ref a/\vs=[.ref b]/\C a=some (.lst xs)/\C b=some (.lst zs)/\xs.length+zs.length<=sizeLine/\Q .non (up C a (.lst (xs++zs)))
def N8:oj X "list.extend" wW:=⟨_,zz,λF H C x v xs vs Q Q' R rx rs h q=>by
 obtain⟨a,b,ts,us,rfl,rfl,ha,hb,hl,h⟩:=h
 cases Zs rx
 obtain⟨y,rfl,ry⟩:=Wr rs
 cases Zs ry
 obtain⟨ys,hy,r⟩:=R.lst ha
 obtain⟨zs,hz,r2⟩:=R.lst hb
 obtain⟨R',t⟩:=R.putL ha (r.app r2)
 exact⟨a,b,ys,zs,rfl,rfl,hy,hz,by rw[r.length,r2.length];exact hl,q _ _ _ _ R' t Qx h⟩⟩
def pG (e:WE):WE:=λτ C Q χ=>e τ C (λx C1=>∃a xs,x=.ref a/\C1 a=some (.lst xs)/\∀p,C1 p=none->Q (.ref p) (up C1 p (.lst xs.reverse))) χ
def Gd (hc:X.calm=true)(hg:Gl X "list")(hm:X.mg "list"=none)(hg2:Gl X "reversed")(hm2:X.mg "reversed"=none)(he:Jd X e we)(hs:starEach [e] X.env=[(false,eval e X.env)]:=by rfl)
  (hs2:starEach [.Call (.Name "reversed" p2) [e] [] pos2] X.env=[(false,eval (.Call (.Name "reversed" p2) [e] [] pos2) X.env)]:=by rfl):
  Jd X (.Call (.Name "list" p) [.Call (.Name "reversed" p2) [e] [] pos2] [] pos) (pG we):=by
 obtain⟨t,p1,sm⟩:=he
 refine⟨_,Dn hc hg hm hg2 hm2 p1 hs hs2,λF H C σ τ Q Q' χ R S h q=>?_⟩
 refine sm F H C σ τ _ _ χ R S h λx v H1 C1 R1 t1 rx h1=>?_
 obtain⟨a,xs,rfl,hC,h1⟩:=h1
 cases Zs rx
 obtain⟨ys,hH,rs⟩:=R1.lst hC
 exact⟨a,ys,rfl,Xr.of hH,λb hb=>q _ _ _ _ (R1.newL hb rs.reverse) (t1.trans (Tx.new hb)) Y2 (h1 b (R1.free hb))⟩
def Gf:Wj X (.type "str") (λxs H Q=>∃z,xs=[.str z]/\Q (.str z) H):=by
 intro pins s σ H xs us Q I r h
 obtain⟨z,rfl,q⟩:=h
 obtain⟨u,rfl,t,rfl⟩:=Rm r
 exact PySem.P.str_of_str ⟨.str z,H,I,⟨_,rfl⟩,q⟩
def pU:List T->Hw->WK->Prop:=λvs C Q=>(∃i:Int,vs=[.int i]/\i.natAbs.log2<1920/\Q (.str (toString i)) C)\/∃z,vs=[.str z]/\Q (.str z) C
def Cy:Qa X (.type "str") pU:=⟨_,Gg.or Gf,λF H C xs vs Q Q' R rs h q=>by
 rcases h with⟨j,rfl,hl,h⟩ | ⟨z,rfl,h⟩
 ·obtain⟨x,rfl,rx⟩:=Wr rs
  cases Ym rx
  exact .inl ⟨j,rfl,hl,q _ _ H C R (Tx.refl H) V0 h⟩
 ·obtain⟨x,rfl,rx⟩:=Wr rs
  cases Jl rx
  exact .inr ⟨z,rfl,q _ _ H C R (Tx.refl H) V0 h⟩⟩
def ic (X:Cx)(e:Expr)(w:WE):Prop:=∃t,kJ X e t/\Uz X.K t w
def lD (y z:Str)(o:WE):WE:=λτ C Q χ=>o τ C (λx C1=>∃u,x=.str u/\u.length<=1048576/\Q (.str (Txt.replace u y z)) C1) χ
end
end WL
namespace L2
open PySem PySem.Spec PyProof.Rows
section
variable {prog:Program}{w:World}{A:Around}{E:Value->Shared->Prop}{s:Shared}{a b:Addr}{oa ob:Obj}{ea eb:Array DictEntry}{pa pb:Nat}
end
section
variable {prog:Program}{w:World}{A:Around}{E:Value->Shared->Prop}{s:Shared}
def xW {jt q:Addr}{i:Nat}{its:Array Value}{x:Value}{Q:Value->Shared->Prop}(hj:s.heap.IsTupleIter jt q i)(hq:s.heap.IsTuple q its)(hx:its[i]?=some x)
  (hQ:∀h2,h2.IsTupleIter jt q (i+1)->Heap.SameBut jt s.heap h2->Q x {s with heap:=h2}):wpAny (model prog w) A (Builtin.SmallTypes.nextOf (.ref jt)) Q E s:=by
 obtain⟨ob,hob,hcl,hda⟩:=id hj
 obtain⟨oq,hoq,_,nq,hdq⟩:=hq
 unfold Builtin.SmallTypes.nextOf
 refine XA (wpAny_callSpecial?_slot (name:=Str.ofString "__next__") hj.typeIs F.slot_tuple_iterator_next (wpAny_call_entry F.slot_tuple_iterator_next hj.typeIs F.entry_tuple_iterator_next ?_ (F.args_tuple_iterator_next_1 _)))
 show wpAny _ _ (field (.ref jt) 0>>=_) _ _ s
 refine XA (wpAny_field hob hda (x:=.ref q) rfl ?_)
 show wpAny _ _ (if (Value.ref q==Value.none)=true then _ else _) _ _ s
 rw[XX (show ¬((Value.ref q==Value.none)=true) from YJ)]
 show wpAny _ _ (field (.ref jt) 1>>=_) _ _ s
 refine XA (wpAny_field hob hda (x:=.int i 0) rfl ?_)
 show wpAny _ _ (seqItems? (.ref q)>>=_) _ _ s
 refine XA (wpAny_seqItems hoq hdq ?_)
 simp only[Int.toNat_natCast,hx]
 refine wpAny_bind (wpAny_setField hob hda (by simp) (wpAny_pure ⟨x,rfl,wpAny_pure (hQ _ ?_ (Heap.SameBut.update ..))⟩))
 refine⟨_,Heap.get?_update_self _ hob (Obj.isFreed_of_fields (Obj.data_mapFields hda _)),(Obj.cls_mapFields ..).trans hcl,?_⟩
 rw[Obj.data_mapFields hda];simp[rawInt]
def uC {jt q:Addr}{i:Nat}{its:Array Value}{Q:Value->Shared->Prop}(hh:A.handled=none)(hj:s.heap.IsTupleIter jt q i)(hq:s.heap.IsTuple q its)(hx:its[i]?=none)
  (hE:∀h2 ex,Heap.ExtBut jt s.heap h2->(∃o,h2.get? ex=some o/\o.cls=.type "StopIteration")->E (.ref ex) {s with heap:=h2}):wpAny (model prog w) A (Builtin.SmallTypes.nextOf (.ref jt)) Q E s:=by
 obtain⟨ob,hob,hcl,hda⟩:=id hj
 obtain⟨oq,hoq,_,nq,hdq⟩:=hq
 unfold Builtin.SmallTypes.nextOf
 refine XA (wpAny_callSpecial?_slot (name:=Str.ofString "__next__") hj.typeIs F.slot_tuple_iterator_next (wpAny_call_entry F.slot_tuple_iterator_next hj.typeIs F.entry_tuple_iterator_next ?_ (F.args_tuple_iterator_next_1 _)))
 show wpAny _ _ (field (.ref jt) 0>>=_) _ _ s
 refine XA (wpAny_field hob hda (x:=.ref q) rfl ?_)
 show wpAny _ _ (if (Value.ref q==Value.none)=true then _ else _) _ _ s
 rw[XX (show ¬((Value.ref q==Value.none)=true) from YJ)]
 show wpAny _ _ (field (.ref jt) 1>>=_) _ _ s
 refine XA (wpAny_field hob hda (x:=.int i 0) rfl ?_)
 show wpAny _ _ (seqItems? (.ref q)>>=_) _ _ s
 refine XA (wpAny_seqItems hoq hdq ?_)
 simp only[Int.toNat_natCast,hx]
 refine wpAny_bind (wpAny_rule (wpAny_bind (wpAny_setField hob hda (by simp) ?_)))
 refine XA ?_
 simp only[newExc,newTuple]
 refine XA (wpAny_newObj_type ?_ (by size_fits))
 refine wpAny_bind (m:=firstArgMember _ _) (wpAny_of_eq (a:=Value.none) (by first | rfl | (simp only[firstArgMember]<;>rfl)) ?_)
 refine wpAny_newObj_type ?_ (by size_fits)
 simp only[raiseNew]
 refine XA (wpAny_handled ?_)
 rw[show A.in1.handled=none from hh]
 exact XA (XB (wpAny_throw (hE _ _ (((Heap.SameBut.update ..).extBut.push _).push _) ⟨_,XF _ rfl,rfl⟩)))
end
def Rg {prog:Program}{w:World}{A:Around}(hh:A.handled=none)(jt q:Addr)(hne:q≠jt)(its:Array Value):
  Draws prog w A jt [jt,q] its.size (λi v=>its[i]?=some v) (λi h=>h.IsTupleIter jt q i/\h.IsTuple q its) where
 live:=λ_ _ st=>let ⟨o,ho,_⟩:=st.1;⟨o,ho⟩
 frame:=λ_ _ _ st k=>⟨st.1.at λo e=>k jt (by simp) o e,st.2.at λo e=>k q (by simp) o e⟩
 item:=λi s Q E hi st hQ=>xW st.1 st.2 (x:=its[i]) (by simp[hi]) λh2 a b=>hQ _ h2 s.toks (by simp[hi]) ⟨a,st.2.extBut b.extBut hne⟩ b
 done:=λs Q E st hE=>uC hh st.1 st.2 (by simp) hE
structure yc (z TI TO i1 i2:Addr)(f1 f2:List Addr):Prop where
 m1:i1∈f1
 m2:i2∈f2
 z1:z∉f1
 z2:z∉f2
 o1:TO∉f1
 o2:TO∉f2
 a12:i1∉f2
 a21:i2∉f1
 tz:TI≠z
 oz:TO≠z
 io:TI≠TO
 t1:TI≠i1
 t2:TI≠i2
section
variable {prog:Program}{w:World}{A:Around}{E:Value->Shared->Prop}{s:Shared}{z TI TO i1 i2:Addr}{f1 f2:List Addr}{n:Nat}{P1 P2:Nat->Value->Prop}{S1 S2:Nat->Heap->Prop}
def Bk {i:Nat}{u v:Value}{Q:Value->Shared->Prop}(D1:Draws prog w A i1 f1 n P1 S1)(D2:Draws prog w A i2 f2 n P2 S2)(Z:yc z TI TO i1 i2 f1 f2)(hi:i<n)
  (hz:IsZip s.heap z TI TO .none) (hTI:IsPair s.heap TI (.ref i1) (.ref i2)) (hTO:IsPair s.heap TO u v) (s1:S1 i s.heap) (s2:S2 i s.heap)
  (hQ:∀x y h2 t2,P1 i x->P2 i y->IsZip h2 z TI TO (rawInt s.heap.objs.size)->IsPair h2 TO x y->S1 (i+1) h2->S2 (i+1) h2->IsPair h2 s.heap.objs.size x y->
   (∀c o,c≠z->c≠TO->c≠i1->c≠i2->s.heap.get? c=some o->h2.get? c=some o)->Q (.ref s.heap.objs.size) {s with heap:=h2,toks:=t2}):
  wpAny (model prog w) A (Builtin.«zip.__next__» ⟨[.ref z],[]⟩) (λfin s2=>∃r,fin=.done (.ret r)/\Q r s2) E s:=by
 show wpAny _ _ (field (.ref z) 2>>=_) _ E s
 refine XA (wpAny_field hz rfl (x:=.bool false) rfl ?_)
 show wpAny _ _ (field (.ref z) 3>>=_) _ E s
 refine XA (wpAny_field hz rfl (x:=.ref TI) rfl ?_)
 refine XA (wpAny_seqItems hTI rfl ?_)
 show wpAny _ _ (Builtin.SmallTypes.ownedTupleIsFree (.ref z)>>=_) _ E s
 refine XA ?_
 unfold Builtin.SmallTypes.ownedTupleIsFree
 refine XA (wpAny_field hz rfl (x:=.none) rfl (XB ?_))
 simp only[if_true]
 refine XA (wpAny_rule ?_)
 refine XA (wpAny_field hz rfl (x:=.ref TO) rfl ?_)
 refine wpAny_bind (wpAny_setField_rec hz (by simp) λha hza sa=>?_)
 replace hza:IsZip ha z TI TO .ellipsis:=hza
 refine XA ?_
 simp only[List.zipIdx_cons,List.zipIdx_nil,List.forIn_cons,List.forIn_nil]
 have ne:∀{b c:Addr} {l:List Addr},b∈l->c∉l->b≠c:=λhb hc e=>hc (e▸hb)
 have a1:S1 i ha:=D1.frame i _ _ s1 λb hb o e=>sa.extBut _ _ (ne hb Z.z1) e
 have a2:S2 i ha:=D2.frame i _ _ s2 λb hb o e=>sa.extBut _ _ (ne hb Z.z2) e
 refine XA (XA (wpAny_onRaise ?_))
 show wpAny _ _ (Builtin.SmallTypes.nextOf (.ref i1)>>=_) _ _ _
 refine XA (D1.item i {s with heap:=ha} _ _ hi a1 λx hb tb hx b1 sb=>XB ?_)
 have b2:S2 i hb:=D2.frame i _ _ a2 λb hm o e=>sb.extBut _ _ (ne hm Z.a12) e
 have Oi1:TO≠i1:=λe=>Z.o1 (e▸Z.m1)
 have Oi2:TO≠i2:=λe=>Z.o2 (e▸Z.m2)
 have zi1:z≠i1:=λe=>Z.z1 (e▸Z.m1)
 have zi2:z≠i2:=λe=>Z.z2 (e▸Z.m2)
 have tob:IsPair hb TO u v:=sb.extBut _ _ Oi1 (sa.extBut _ _ Z.oz hTO)
 refine XA (wpAny_seqItems tob rfl ?_)
 refine XA (wpAny_updateSeq_pair tob λhc toc sc=>?_)
 replace toc:IsPair hc TO x v:=toc
 refine XA (wpAny_letGo (XB ?_))
 have c1:S1 (i+1) hc:=D1.frame _ _ _ b1 λb hm o e=>sc.extBut _ _ (ne hm Z.o1) e
 have c2:S2 i hc:=D2.frame _ _ _ b2 λb hm o e=>sc.extBut _ _ (ne hm Z.o2) e
 refine XA (XA (wpAny_onRaise ?_))
 show wpAny _ _ (Builtin.SmallTypes.nextOf (.ref i2)>>=_) _ _ _
 refine XA (D2.item i {s with heap:=hc,toks:=tb} _ _ hi c2 λy hd td hy d2 sd=>XB ?_)
 have d1:S1 (i+1) hd:=D1.frame _ _ _ c1 λb hm o e=>sd.extBut _ _ (ne hm Z.a21) e
 have tod:IsPair hd TO x v:=sd.extBut _ _ Oi2 toc
 refine XA (wpAny_seqItems tod rfl ?_)
 refine XA (wpAny_updateSeq_pair tod λhe toe se=>?_)
 replace toe:IsPair he TO x y:=toe
 refine XA (wpAny_letGo (XB (XB ?_)))
 have e1:S1 (i+1) he:=D1.frame _ _ _ d1 λb hm o e=>se.extBut _ _ (ne hm Z.o1) e
 have e2:S2 (i+1) he:=D2.frame _ _ _ d2 λb hm o e=>se.extBut _ _ (ne hm Z.o2) e
 refine XA (wpAny_seqItems toe rfl ?_)
 refine XA (wpAny_newTuple ?_)
 have hsz:he.objs.size=s.heap.objs.size:=by rw[se.1,sd.1,sc.1,sb.1,sa.1]
 have hze:IsZip he z TI TO .ellipsis:=se.extBut _ _ Z.oz.symm (sd.extBut _ _ zi2 (sc.extBut _ _ Z.oz.symm (sb.extBut _ _ zi1 hza)))
 have hke:∀c o,c≠z->c≠TO->c≠i1->c≠i2->s.heap.get? c=some o->he.get? c=some o:=λc o n1 n2 n3 n4 e=>se.extBut _ _ n2 (sd.extBut _ _ n4 (sc.extBut _ _ n2 (sb.extBut _ _ n3 (sa.extBut _ _ n1 e))))
 have hzlt:z<he.objs.size:=XD hze
 show wpAny _ _ (Builtin.SmallTypes.ownedTupleHandOut (.ref z) (.ref he.objs.size)>>=_) _ _ _
 refine XA ?_
 unfold Builtin.SmallTypes.ownedTupleHandOut
 have hzf:IsZip (he.push {cls:=.type "tuple",data:=.seq #[x,y]}) z TI TO .ellipsis:=XC _ hze
 refine wpAny_bind (wpAny_setField_rec hzf (by simp) λhg hzg sg=>?_)
 replace hzg:IsZip hg z TI TO (rawInt he.objs.size):=hzg
 refine wpAny_setField_rec hzg (by simp) λhk hzk sk=>?_
 replace hzk:IsZip hk z TI TO (rawInt he.objs.size):=hzk
 have up:∀c o,c≠z->he.get? c=some o->hk.get? c=some o:=λc o n1 e=>sk.extBut _ _ n1 (sg.extBut _ _ n1 (XC _ e))
 have hT:IsPair hk he.objs.size x y:=sk.extBut _ _ (Nat.ne_of_gt hzlt) (sg.extBut _ _ (Nat.ne_of_gt hzlt) (XF _ rfl))
 rw[hsz] at hzk hT
 refine XB ⟨_,rfl,?_⟩
 show Q (.ref he.objs.size) _
 rw[hsz]
 exact hQ x y hk td hx hy hzk (up _ _ Z.oz toe) (D1.frame _ _ _ e1 λb hm o e=>up _ o (ne hm Z.z1) e) (D2.frame _ _ _ e2 λb hm o e=>up _ o (ne hm Z.z2) e) hT λc o n1 n2 n3 n4 e=>up c o n1 (hke c o n1 n2 n3 n4 e)
def yz {u v:Value}{Q:Fin->Shared->Prop}(D1:Draws prog w A i1 f1 n P1 S1)(Z:yc z TI TO i1 i2 f1 f2)
  (hz:IsZip s.heap z TI TO .none) (hTI:IsPair s.heap TI (.ref i1) (.ref i2)) (hTO:IsPair s.heap TO u v) (s1:S1 n s.heap)
  (hE:∀h2 ex,(∀c o,c≠z->c≠TO->c≠i1->c≠i2->s.heap.get? c=some o->h2.get? c=some o)->(∃o,h2.get? ex=some o/\o.cls=.type "StopIteration")->E (.ref ex) {s with heap:=h2}):
  wpAny (model prog w) A (Builtin.«zip.__next__» ⟨[.ref z],[]⟩) Q E s:=by
 show wpAny _ _ (field (.ref z) 2>>=_) _ E s
 refine XA (wpAny_field hz rfl (x:=.bool false) rfl ?_)
 show wpAny _ _ (field (.ref z) 3>>=_) _ E s
 refine XA (wpAny_field hz rfl (x:=.ref TI) rfl ?_)
 refine XA (wpAny_seqItems hTI rfl ?_)
 show wpAny _ _ (Builtin.SmallTypes.ownedTupleIsFree (.ref z)>>=_) _ E s
 refine XA ?_
 unfold Builtin.SmallTypes.ownedTupleIsFree
 refine XA (wpAny_field hz rfl (x:=.none) rfl (XB ?_))
 simp only[if_true]
 refine XA (wpAny_rule ?_)
 refine XA (wpAny_field hz rfl (x:=.ref TO) rfl ?_)
 refine wpAny_bind (wpAny_setField_rec hz (by simp) λha hza sa=>?_)
 replace hza:IsZip ha z TI TO .ellipsis:=hza
 refine XA ?_
 simp only[List.zipIdx_cons,List.zipIdx_nil,List.forIn_cons,List.forIn_nil]
 have ne:∀{b c:Addr} {l:List Addr},b∈l->c∉l->b≠c:=λhb hc e=>hc (e▸hb)
 have a1:S1 n ha:=D1.frame n _ _ s1 λb hb o e=>sa.extBut _ _ (ne hb Z.z1) e
 refine XA (XA (wpAny_onRaise ?_))
 show wpAny _ _ (Builtin.SmallTypes.nextOf (.ref i1)>>=_) _ _ _
 refine XA (D1.done {s with heap:=ha} _ _ a1 λhb ex sb he=>?_)
 obtain⟨oe,hoe,hce⟩:=he
 have hzb:IsZip hb z TI TO .ellipsis:=sb _ _ (λe=>Z.z1 (e▸Z.m1)) hza
 have hez:ex≠z:=λe=>by subst e;rw[hzb] at hoe;cases hoe;simp at hce
 exact wpAny_setField_rec hzb (by simp) λhc _ sc=>hE hc ex (λc o n1 _ n3 _ e=>sc.extBut _ _ n1 (sb _ _ n3 (sa.extBut _ _ n1 e))) ⟨oe,sc.extBut _ _ hez hoe,hce⟩
def G1 (D1:Draws prog w A.in1 i1 f1 n P1 S1)(D2:Draws prog w A.in1 i2 f2 n P2 S2)(Z:yc z TI TO i1 i2 f1 f2):
  WalksT prog w A z (z::TI::TO::(f1++f2)) [z,TO,i1,i2] n (λi vals=>∃x y,P1 i x/\P2 i y/\vals=#[x,y])
   (λi h=>IsZip h z TI TO .none/\IsPair h TI (.ref i1) (.ref i2)/\(∃a b,IsPair h TO a b)/\S1 i h/\S2 i h)
   (λi T h=>IsZip h z TI TO (rawInt T)/\IsPair h TI (.ref i1) (.ref i2)/\(∃a b,IsPair h TO a b)/\S1 (i+1) h/\S2 (i+1) h/\T∉[z,TO,i1,i2]) where
 sub:=λc hc=>by
  simp only[ZM,ZN,or_false] at hc
  rcases hc with rfl | rfl | rfl | rfl
  ·simp
  ·simp
  ·simp[Z.m1]
  ·simp[Z.m2]
 frame:=λi h h2 st k=>by
  obtain⟨a,b,⟨u,v,c⟩,d,e⟩:=st
  exact⟨k z (by simp) _ a,k TI (by simp) _ b,⟨u,v,k TO (by simp) _ c⟩,D1.frame _ _ _ d λx hx o q=>k x (by simp[hx]) o q,D2.frame _ _ _ e λx hx o q=>k x (by simp[hx]) o q⟩
 item:=λi s Q E hi st hQ=>by
  obtain⟨a,b,⟨u,v,c⟩,d,e⟩:=st
  have hT:s.TypeIs (.ref z) "zip":=⟨_,a,rfl⟩
  unfold pyNext
  refine XA (wpAny_attempt (wpAny_callSpecial?_slot (name:=Str.ofString "__next__") hT F.slot_zip_next (wpAny_call_entry F.slot_zip_next hT F.entry_zip_next
   (Bk D1 D2 Z hi a b c d e λx y h2 t2 hx hy z1 z2 z3 z4 z5 z6=>XB ?_) (F.args_zip_next_1 _))))
  have lt:∀{c o},s.heap.get? c=some o->s.heap.objs.size≠c:=λe=>Nat.ne_of_gt (XD e)
  obtain⟨o1,l1⟩:=D1.live _ _ d
  obtain⟨o2,l2⟩:=D2.live _ _ e
  refine hQ s.heap.objs.size #[x,y] h2 t2 ⟨x,y,hx,hy,rfl⟩ (Nat.le_refl _) ⟨_,z5,rfl,_,rfl⟩ ⟨z1,z6 _ _ Z.tz Z.io Z.t1 Z.t2 b,⟨_,_,z2⟩,z3,z4,?_⟩ λc o hc q=>z6 c o (λx=>hc (by simp[x])) (λx=>hc (by simp[x])) (λx=>hc (by simp[x])) (λx=>hc (by simp[x])) q
  simp only[List.mem_cons,List.not_mem_nil,or_false,not_or]
  exact⟨lt a,lt c,lt l1,lt l2⟩
 go:=λelts k pos i T s Q E hm hQ=>by
  obtain⟨a,b,⟨u,v,c⟩,d,e,_⟩:=hm
  refine wpAny_letOwnedTupleGo_zip a λh2 hz2 s2=>hQ h2 ⟨hz2,s2.extBut _ _ Z.tz b,⟨u,v,s2.extBut _ _ Z.oz c⟩,?_,?_⟩ λc o hc q=>s2.extBut _ _ (λx=>hc (by simp[x])) q
  ·exact D1.frame _ _ _ d λx hx o q=>s2.extBut _ _ (λz'=>Z.z1 (z'▸hx)) q
  ·exact D2.frame _ _ _ e λx hx o q=>s2.extBut _ _ (λz'=>Z.z2 (z'▸hx)) q
 apart:=λi T h hm=>hm.2.2.2.2.2
 done:=λs Q E st hQ=>by
  obtain⟨a,b,⟨u,v,c⟩,d,e⟩:=st
  have hT:s.TypeIs (.ref z) "zip":=⟨_,a,rfl⟩
  unfold pyNext
  refine XA (wpAny_attempt (wpAny_callSpecial?_slot (name:=Str.ofString "__next__") hT F.slot_zip_next (wpAny_call_entry F.slot_zip_next hT F.entry_zip_next (yz D1 Z a b c d λh2 ex hk he=>?_) (F.args_zip_next_1 _))))
  obtain⟨o,ho,hc⟩:=he
  refine XA (wpAny_isInstance (T:="StopIteration") (b:=true) ⟨o,ho,hc⟩ isSubtype_stop ?_)
  exact wpAny_pure (hQ h2 s.toks λc o hc q=>hk c o (λx=>hc (by simp[x])) (λx=>hc (by simp[x])) (λx=>hc (by simp[x])) (λx=>hc (by simp[x])) q)
 self:=λi s Q E st h=>wpAny_pyIter_zip st.1 h
end
abbrev Ef (c:String)(l:Addr):Obj:={cls:=.type c,data:=.fields #[.ref l,.int 0 0]}
abbrev zA (h:Heap)(c1:String)(l1:Addr):Heap:=h.push (Ef c1 l1)
abbrev zB (h:Heap)(c1:String)(l1:Addr)(c2:String)(l2:Addr):Heap:=(zA h c1 l1).push (Ef c2 l2)
abbrev zC (h:Heap)(c1:String)(l1:Addr)(c2:String)(l2:Addr):Heap:=(zB h c1 l1 c2 l2).push {cls:=.type "tuple",data:=.seq #[.ref h.objs.size,.ref (zA h c1 l1).objs.size]}
abbrev zD (h:Heap)(c1:String)(l1:Addr)(c2:String)(l2:Addr):Heap:=(zC h c1 l1 c2 l2).push {cls:=.type "tuple",data:=.seq #[.none,.none]}
abbrev zE (h:Heap)(c1:String)(l1:Addr)(c2:String)(l2:Addr):Heap:=(zD h c1 l1 c2 l2).push {cls:=.type "zip",data:=.fields #[.none,.bool false,.bool false,.ref (zB h c1 l1 c2 l2).objs.size,.ref (zC h c1 l1 c2 l2).objs.size]}
def uu (b:Bool)(h:Heap)(l:Addr)(its:Array Value):Prop:=if b then h.IsList l its else h.IsTuple l its
def cX (b:Bool):String:=if b then "list_iterator" else "tuple_iterator"
def ma (c b:Bool)(l1 l2:Addr)(xs ys:Array Value):Meets (Builtin.«zip.__new__» ⟨[.type "zip",.ref l1,.ref l2],[]⟩) (λ_ R s=>uu c s.heap l1 xs/\uu b s.heap l2 ys/\
  R (.ok (.ret (.ref (zD s.heap (cX c) l1 (cX b) l2).objs.size))) {s with heap:=zE s.heap (cX c) l1 (cX b) l2}):=
 .of_wp λprog w A R s h=>by
  obtain⟨hp,g,d,tk,os⟩:=s;obtain⟨hl1,hl2,h⟩:=h
  have hsub:=sub_zip
  cases c
  ·have hL1:Heap.IsTuple (Shared.heap ⟨hp,g,d,tk,os⟩) l1 xs:=hl1
   cases b
   ·have hL2:Heap.IsTuple (Shared.heap ⟨hp.push (Ef "tuple_iterator" l1),g,d,tk,os⟩) l2 ys:=Heap.IsTuple.push hl2 _
    wp_walk using wpAny_pyIter_tuple hL1,wpAny_pyIter_tuple hL2
    exact⟨_,rfl,h⟩
   ·have hL2:Heap.IsList (Shared.heap ⟨hp.push (Ef "tuple_iterator" l1),g,d,tk,os⟩) l2 ys:=Heap.IsList.push hl2 _
    wp_walk using wpAny_pyIter_tuple hL1,wpAny_pyIter_list hL2
    exact⟨_,rfl,h⟩
  ·have hL1:Heap.IsList (Shared.heap ⟨hp,g,d,tk,os⟩) l1 xs:=hl1
   cases b
   ·have hL2:Heap.IsTuple (Shared.heap ⟨hp.push (Ef "list_iterator" l1),g,d,tk,os⟩) l2 ys:=Heap.IsTuple.push hl2 _
    wp_walk using wpAny_pyIter_list hL1,wpAny_pyIter_tuple hL2
    exact⟨_,rfl,h⟩
   ·have hL2:Heap.IsList (Shared.heap ⟨hp.push (Ef "list_iterator" l1),g,d,tk,os⟩) l2 ys:=Heap.IsList.push hl2 _
    wp_walk using wpAny_pyIter_list hL1,wpAny_pyIter_list hL2
    exact⟨_,rfl,h⟩
structure r6 (h h2:Heap)(c1:String)(l1:Addr)(c2:String)(l2:Addr):Prop where
 zip:IsZip h2 (h.objs.size+4) (h.objs.size+2) (h.objs.size+3) .none
 its:IsPair h2 (h.objs.size+2) (.ref h.objs.size) (.ref (h.objs.size+1))
 own:IsPair h2 (h.objs.size+3) .none .none
 i1:h2.get? h.objs.size=some (Ef c1 l1)
 i2:h2.get? (h.objs.size+1)=some (Ef c2 l2)
 keep:∀c o,h.get? c=some o->h2.get? c=some o
def oQ (h:Heap)(c1:String)(l1:Addr)(c2:String)(l2:Addr):r6 h (zE h c1 l1 c2 l2) c1 l1 c2 l2/\(zD h c1 l1 c2 l2).objs.size=h.objs.size+4:=by
 have z1:(zA h c1 l1).objs.size=h.objs.size+1:=Heap.size_push ..
 have z2:(zB h c1 l1 c2 l2).objs.size=h.objs.size+2:=by rw[Heap.size_push,z1]
 have z3:(zC h c1 l1 c2 l2).objs.size=h.objs.size+3:=by rw[Heap.size_push,z2]
 have z4:(zD h c1 l1 c2 l2).objs.size=h.objs.size+4:=by rw[Heap.size_push,z3]
 have g5:(zE h c1 l1 c2 l2).get? (zD h c1 l1 c2 l2).objs.size=some _:=XF _ rfl
 have g4:(zE h c1 l1 c2 l2).get? (zC h c1 l1 c2 l2).objs.size=some _:=XC _ (XF _ rfl)
 have g3:(zE h c1 l1 c2 l2).get? (zB h c1 l1 c2 l2).objs.size=some _:=XC _ (XC _ (XF _ rfl))
 have g2:(zE h c1 l1 c2 l2).get? (zA h c1 l1).objs.size=some _:=XC _ (XC _ (XC _ (XF _ rfl)))
 have g1:(zE h c1 l1 c2 l2).get? h.objs.size=some _:=XC _ (XC _ (XC _ (XC _ (XF _ rfl))))
 rw[z2,z3,z4] at g5
 rw[z1,z2] at g3
 rw[z3] at g4
 rw[z1] at g2
 exact⟨⟨g5,g3,g4,g1,g2,λc o x=>XC _ (XC _ (XC _ (XC _ (XC _ x))))⟩,z4⟩
section
variable {prog:Program}{w:World}{A:Around}{E:Value->Shared->Prop}{s:Shared}
def Qm (c b:Bool){l1 l2:Addr}{xs ys:Array Value}{Q:Value->Shared->Prop}(hl1:uu c s.heap l1 xs)(hl2:uu b s.heap l2 ys)
  (h:∀h2,r6 s.heap h2 (cX c) l1 (cX b) l2->Q (.ref (s.heap.objs.size+4)) {s with heap:=h2}):wpAny (model prog w) A (call (.type "zip") [.ref l1,.ref l2]) Q E s:=by
 refine callType_new PySem.F.called_zip (by decide) (PySem.F.typeCall_zip_2 _ _) (PySem.F.newCall_zip_2 _ _) (λobj=>PySem.F.args_object_init_3 obj _ _) PySem.F.entry_zip_new (ma c b l1 l2 xs ys) ⟨hl1,hl2,?_⟩
 obtain⟨N,e⟩:=oQ s.heap (cX c) l1 (cX b) l2
 show _/\_
 rw[e]
 exact⟨⟨_,N.zip,rfl⟩,h _ N⟩
def O7 {k l1 l2:Addr}(h1:l1<k)(h2:l2<k):yc (k+4) (k+2) (k+3) k (k+1) [k,l1] [k+1,l2]:=by
 have e:∀{a b:Nat},a≠b->∀{l:List Nat},a∉l->a∉b::l:=λh _ h'=>by simp[h,h']
 have n:∀a:Nat,a∉([]:List Nat):=λa=>by simp
 have L1:(l1:Nat)<k:=h1
 have L2:(l2:Nat)<k:=h2
 have d:∀{a b:Nat},a<b\/b<a->a≠b:=λh e=>by omega
 exact⟨by simp,by simp,e (d (.inr (Nat.lt_add_of_pos_right (by decide)))) (e (d (.inr (Nat.lt_of_lt_of_le L1 (Nat.le_add_right _ _)))) (n _)),e (d (.inr (Nat.add_lt_add_left (by decide) k))) (e (d (.inr (Nat.lt_of_lt_of_le L2 (Nat.le_add_right _ _)))) (n _)),
  e (d (.inr (Nat.lt_add_of_pos_right (by decide)))) (e (d (.inr (XG L1 (Nat.le_add_right _ _)))) (n _)),e (d (.inr (Nat.add_lt_add_left (by decide) k))) (e (d (.inr (XG L2 (Nat.le_add_right _ _)))) (n _)),
  e (d (.inl (Nat.lt_add_of_pos_right (by decide)))) (e (d (.inr L2)) (n _)),e (d (.inr (Nat.lt_add_of_pos_right (by decide)))) (e (d (.inr (XG L1 (Nat.le_add_right _ _)))) (n _)),
  d (.inl (Nat.add_lt_add_left (by decide) k)),d (.inl (Nat.add_lt_add_left (by decide) k)),d (.inl (Nat.add_lt_add_left (by decide) k)),d (.inr (Nat.lt_add_of_pos_right (by decide))),d (.inr (Nat.add_lt_add_left (by decide) k))⟩
end
def yf (b:Bool)(K:W.Frag)(H:Hp)(a:Addr)(xs:List V):Prop:=if b then Xr K H a xs else V6 K H a xs
def uw (b:Bool)(h:Heap)(it l:Addr)(i:Nat):Prop:=if b then h.IsListIter it l i else h.IsTupleIter it l i
def Nh {prog:Program}{w:World}{A:Around}(b:Bool)(hh:A.handled=none)(it l:Addr)(hne:l≠it)(its:Array Value):
  Draws prog w A it [it,l] its.size (λi v=>its[i]?=some v) (λi h=>uw b h it l i/\uu b h l its):=by
 cases b
 ·exact Rg hh it l hne its
 ·exact Draws.list hh it l hne its
section
variable {X:Cx}{pins:List (Addr×Obj)}{σ:St}{H:Hp}{s:Shared}
def Zp.sqX {b:Bool}{a:Addr}{xs:List V}(I:Zp X pins σ H s)(h:yf b X.K H a xs):∃its:List Value,Zz xs its/\uu b s.heap a its.toArray:=by
 cases b
 ·obtain⟨its,r,p,_⟩:=I.tuple h;exact⟨its,r,p⟩
 ·obtain⟨its,r,p,_⟩:=I.list h;exact⟨its,r,p.isList⟩
def uu.lt {b:Bool}{h:Heap}{l:Addr}{its:Array Value}(p:uu b h l its):l<h.objs.size:=by
 cases b
 ·obtain⟨_,e,_⟩:=p;exact XD e
 ·obtain⟨_,e,_⟩:=p;exact XD e
def uw.ob {b:Bool}{h:Heap}{l k:Addr}{i:Nat}(p:uw b h k l i):∃o,h.get? k=some o/\∀v,o.data≠.cell v:=by
 cases b
 ·obtain⟨o,e,c,d⟩:=p;exact⟨o,e,λv z=>by rw[d] at z;cases z⟩
 ·obtain⟨o,e,c,d⟩:=p;exact⟨o,e,λv z=>by rw[d] at z;cases z⟩
def uw.at {b:Bool}{h h':Heap}{l k:Addr}{i:Nat}(p:uw b h k l i)(q:∀o,h.get? k=some o->h'.get? k=some o):uw b h' k l i:=by
 cases b
 ·exact Heap.IsTupleIter.at p q
 ·exact Heap.IsListIter.at p q
def Zp.sqX_inj {b:Bool}{a:Addr}{xs ys:List V}(I:Zp X pins σ H s)(h:yf b X.K H a xs)(h':yf b X.K H a ys):xs=ys:=by
 cases b
 ·exact I.tuple_inj h h'
 ·exact I.list_inj h h'
end
def mR (z b:Bool)(K:W.Frag)(l1 l2:Addr):It:=
 ⟨λi H=>∃xs ys,yf z K H l1 xs/\yf b K H l2 ys/\xs.length=ys.length/\i<xs.length,
  λi H x H'=>∃u v T,(∀xs,yf z K H l1 xs->xs[i]?=some u)/\(∀ys,yf b K H l2 ys->ys[i]?=some v)/\x=.ref T/\H T=none/\H'=Yq H T (.tup [u,v]),
  λi H=>∃xs ys,yf z K H l1 xs/\yf b K H l2 ys/\xs.length=ys.length/\i=xs.length⟩
def yD {P:Program}{w:World}{K:W.Frag}{elts:List Expr}{ek:Nat}{epos:Pos}(z b:Bool){k l1 l2:Addr}(h1:l1<k)(h2:l2<k):
  ye P w K (.Tuple elts ek epos) (mR z b K l1 l2) [k+4,k+2,k+3,k,k+1] (k+4)
   (λi h=>IsZip h (k+4) (k+2) (k+3) .none/\IsPair h (k+2) (.ref k) (.ref (k+1))/\(∃a c,IsPair h (k+3) a c)/\uw z h k l1 i/\uw b h (k+1) l2 i) where
 mem:=by simp
 obj:=λi h st c hc=>by
  obtain⟨a1,a2,⟨u,v,a3⟩,a4,a5⟩:=st
  simp only[ZM,ZN,or_false] at hc
  rcases hc with rfl | rfl | rfl | rfl | rfl
  ·exact⟨_,a1,λv z=>by have z':Data.fields _=Data.cell v:=z;cases z'⟩
  ·exact⟨_,a2,λv z=>by have z':Data.seq _ _=Data.cell v:=z;cases z'⟩
  ·exact⟨_,a3,λv z=>by have z':Data.seq _ _=Data.cell v:=z;cases z'⟩
  ·exact a4.ob
  ·exact a5.ob
 keep:=λi h h' st kp=>by
  obtain⟨a1,a2,⟨u,v,a3⟩,a4,a5⟩:=st
  exact⟨kp _ (by simp) _ a1,kp _ (by simp) _ a2,⟨u,v,kp _ (by simp) _ a3⟩,a4.at λo e=>kp _ (by simp) o e,a5.at λo e=>kp _ (by simp) o e⟩
 item:=by
  intro X hP hw hK hc i pins s σ H E I hf st hg
  subst hP hw hK
  obtain⟨xs,ys,hq1,hq2,hlen,hi⟩:=hg
  obtain⟨its1,rv1,p1⟩:=I.sqX hq1
  obtain⟨its2,rv2,p2⟩:=I.sqX hq2
  obtain⟨a1,a2,a3,a4,a5⟩:=st
  have hn1:its1.toArray.size=xs.length:=by rw[XJ,rv1.length]
  have hn2:its2.toArray.size=xs.length:=by rw[XJ,<-rv2.length,hlen]
  have D1:=Nh (prog:=X.prog) (w:=X.w) (A:=X.A.in1) z (I.ok.hd hc) k l1 (XH h1) its1.toArray
  have D2:=Nh (prog:=X.prog) (w:=X.w) (A:=X.A.in1) b (I.ok.hd hc) (k+1) l2 (XH (Nat.lt_succ_of_lt h2)) its2.toArray
  rw[hn1] at D1
  rw[hn2] at D2
  have W:=G1 D1 D2 (O7 h1 h2)
  refine W.item i s _ _ hi ⟨a1,a2,a3,⟨a4,p1⟩,⟨a5,p2⟩⟩ λT vals h' tk hv hT htup hm kk=>?_
  obtain⟨x,y,hx,hy,rfl⟩:=hv
  refine⟨_,rfl,W.go elts ek epos i T {s with heap:=h',toks:=tk} _ _ hm λh2 st2 kk2=>?_⟩
  have hu:xs[i]?=some xs[i]:=by simp[hi]
  have hv:ys[i]?=some (ys[i]'(by omega)):=by simp[show i<ys.length by omega]
  obtain⟨u1,e1,r1⟩:=rv1.get hu
  obtain⟨u2,e2,r2⟩:=rv2.get hv
  have ex:x=u1:=by
   have:its1[i]?=some x:=by simpa using hx
   rw[e1] at this;exact(YH this).symm
  have ey:y=u2:=by
   have:its2[i]?=some y:=by simpa using hy
   rw[e2] at this;exact(YH this).symm
  subst ex ey
  have hTn:H T=none:=I.hok.fresh hT
  have hTw:T∉[k+4,k+3,k,k+1]:=W.apart i T h' hm
  have sub:∀c,c∈[k+4,k+3,k,k+1]->c∈[k+4,k+2,k+3,k,k+1]:=λc hc=>by
   simp only[ZM,ZN,or_false] at hc |-
   rcases hc with z | z | z | z<;>simp[z]
  have k2:∀c o,c∉[k+4,k+3,k,k+1]->s.heap.get? c=some o->h2.get? c=some o:=λc o hb q=>kk2 c o hb (kk c o hb q)
  have htup2:IsTup h2 T #[x,y]:=by
   obtain⟨o,ho,r⟩:=htup
   exact⟨o,kk2 T o hTw ho,r⟩
  have hfp:∀c∈[k+4,k+3,k,k+1],H c=none:=λc hb=>(hf c (sub c hb)).1
  have hne:∀c,c<s.heap.objs.size->c≠T:=λc hb=>XH (XG hb hT)
  have tracked:∀c u,H c=some u->c≠T/\c∉[k+4,k+3,k,k+1]:=λc u q=>⟨hne c (I.hok.lt q),λz=>by rw[hfp c z] at q;cases q⟩
  have I1:Zp X pins σ (Yq H T (.tup [xs[i],ys[i]'(by omega)])) {s with heap:=h2,gens:=s.gens,drawn:=s.drawn,toks:=tk}:=by
   refine I.step (ch:=[k+4,k+3,k,k+1]) (λc hb=>?_) (λc o _ _ hc q _=>k2 c o hc q) (λc o _ _ hc q _=>⟨o.slots,k2 c o hc q⟩) (λc o hc q n=>by rw[Zy (hne c (XD q))];exact n) (λc o hc q=>⟨o,k2 c o hc q⟩)
    (λc xs q=>by rw[Zy (tracked c _ q).1];exact q) (λc o u q=>by rw[Zy (tracked c _ q).1];exact q) (λc ps q=>⟨#[],by rw[Zy (tracked c _ q).1,q];simp⟩) (λm hm=>?_) (λc u q=>?_) I.bare
   ·obtain⟨f0,f1,f2,f3,f4,f5⟩:=hf c (sub c hb)
    exact⟨f3,f1,f4,f5⟩
   ·obtain⟨o,es,ep,ho,r⟩:=hm
    exact⟨o,es,ep,k2 _ o (λz=>(hf _ (sub _ z)).2.1 rfl) ho,r⟩
   ·by_cases hb:c=T
    ·subst hb
     rw[Z9] at q;cases q
     exact⟨XN (by decide:2<=1000) (Nat.le_of_lt (zk (XE _))),[x,y],.cons r1 (.cons r2 .nil),htup2⟩
    ·rw[Zy hb] at q
     refine(I.hok c u q).stay (λd v hd r=>k2 d v ?_ r) (λd r=>by rw[Zy (tracked d _ r).1];exact r) λd xs r=>by rw[Zy (tracked d _ r).1];exact r
     rcases hd with rfl | hd
     ·exact(tracked d _ q).2
     ·exact(tracked d _ hd).2
  obtain⟨b1,b2,b3,⟨b4,_⟩,⟨b5,_⟩⟩:=st2
  refine⟨.ref T,_,I1,rfl,⟨_,_,T,λzs hz=>by rw[I.sqX_inj hz hq1];exact hu,λzs hz=>by rw[I.sqX_inj hz hq2];exact hv,rfl,hTn,rfl⟩,⟨b1,b2,b3,b4,b5⟩,λc hb=>?_⟩
  have hbT:c≠T:=by
   obtain⟨o,ho⟩:∃o,s.heap.get? c=some o:=by
    obtain⟨u,v,a3⟩:=a3
    simp only[ZM,ZN,or_false] at hb
    rcases hb with rfl | rfl | rfl | rfl | rfl
    ·exact⟨_,a1⟩
    ·exact⟨_,a2⟩
    ·exact⟨_,a3⟩
    ·exact a4.ob.imp λ_ h=>h.1
    ·exact a5.ob.imp λ_ h=>h.1
   exact hne c (XD ho)
  rw[Zy hbT];exact(hf c hb).1
 done:=by
  intro X hP hw hK hc i pins s σ H E I hf st hg
  subst hP hw hK
  obtain⟨xs,ys,hq1,hq2,hlen,hi⟩:=hg
  obtain⟨its1,rv1,p1⟩:=I.sqX hq1
  obtain⟨its2,rv2,p2⟩:=I.sqX hq2
  obtain⟨a1,a2,a3,a4,a5⟩:=st
  have hn1:its1.toArray.size=xs.length:=by rw[XJ,rv1.length]
  have hn2:its2.toArray.size=xs.length:=by rw[XJ,<-rv2.length,hlen]
  have D1:=Nh (prog:=X.prog) (w:=X.w) (A:=X.A.in1) z (I.ok.hd hc) k l1 (XH h1) its1.toArray
  have D2:=Nh (prog:=X.prog) (w:=X.w) (A:=X.A.in1) b (I.ok.hd hc) (k+1) l2 (XH (Nat.lt_succ_of_lt h2)) its2.toArray
  rw[hn1] at D1
  rw[hn2] at D2
  subst hi
  have W:=G1 D1 D2 (O7 h1 h2)
  have sub:∀c,c∈[k+4,k+3,k,k+1]->c∈[k+4,k+2,k+3,k,k+1]:=λc hc=>by
   simp only[ZM,ZN,or_false] at hc |-
   rcases hc with z | z | z | z<;>simp[z]
  refine W.done s _ _ ⟨a1,a2,a3,⟨a4,p1⟩,⟨a5,p2⟩⟩ λh' tk kk=>⟨rfl,?_⟩
  exact I.step (g':=s.gens) (d':=s.drawn) (ch:=[k+4,k+3,k,k+1]) (λc hb=>let ⟨f0,f1,f2,f3,f4,f5⟩:=hf c (sub c hb);⟨f3,f1,f4,f5⟩) (λc o _ _ hc q _=>kk c o hc q) (λc o _ _ hc q _=>⟨o.slots,kk c o hc q⟩) (λc o _ _ n=>n) (λc o hc q=>⟨o,kk c o hc q⟩)
    (λ_ _ q=>q) (λ_ _ _ q=>q) (λc ps q=>⟨#[],by rw[q];simp⟩) (λm hm=>let ⟨o,es,ep,ho,r⟩:=hm;⟨o,es,ep,kk _ o (λz=>(hf _ (sub _ z)).2.1 rfl) ho,r⟩)
    (λc u q=>(I.hok c u q).stay (λd v hd r=>kk d v (λz=>by
     rcases hd with rfl | hd
     ·rw[(hf _ (sub _ z)).1] at q;cases q
     ·rw[(hf _ (sub _ z)).1] at hd;cases hd) r) (λ_ r=>r) λ_ _ r=>r) I.bare
 self:=λA i s Q E st h=>wpAny_pyIter_zip st.1 h
section
variable {X:Cx}{elts:List Expr}{ek:Nat}{epos:Pos}
def mi (K:W.Frag)(ta:TA):TI:=λσ H R=>ta σ H λvs H1=>∃(z b:Bool) (l1 l2:Addr) (xs ys:List V),vs=[.ref l1,.ref l2]/\yf z K H1 l1 xs/\yf b K H1 l2 ys/\R (mR z b K l1 l2) H1
def uY {a c:Expr}{ta:TA}{p pos:Pos}(hg:Gl X "zip")(hm:X.mg "zip"=none)(ha:PA X [a,c] ta)(hs:starEach [a,c] X.env=(false,eval a X.env)::starEach [c] X.env:=by rfl)(hp:(backTo pos (starEach [c] X.env)).any (·.1)=false:=by rfl)(hb:bootBuiltins "zip"=some (.type "zip"):=by decide+kernel):
  PI X (.Tuple elts ek epos) (.Call (.Name "zip" p) [a,c] [] pos) (mi X.K ta):=by
 intro pins s σ H R I h
 refine Call_ (Uj I hg hm hb (PyProof.Rows.callWith_type1 (Jp (ha pos pins s σ H _ I h) λus s1 ⟨vs,H1,I1,r1,q1⟩=>?_) hs hp))
 obtain⟨z,b,l1,l2,xs,ys,rfl,hq1,hq2,q⟩:=q1
 obtain⟨u,v,rfl,ru,rv⟩:=r1.two
 cases ru
 cases rv
 obtain⟨its1,rv1,p1⟩:=I1.sqX hq1
 obtain⟨its2,rv2,p2⟩:=I1.sqX hq2
 have fin:∀h2,r6 s1.heap h2 (cX z) l1 (cX b) l2->wpAny (model X.prog X.w) X.A (pyIter (.ref (s1.heap.objs.size+4))) (mK X pins σ (.Tuple elts ek epos) R) X.xe {s1 with heap:=h2}:=λh2 N=>by
  refine wpAny_pyIter_zip (s:={s1 with heap:=h2}) N.zip ?_
  refine⟨_,_,_,_,H1,rfl,I1.kept (t':=s1.toks) N.keep,yD z b p1.lt p2.lt,⟨N.zip,N.its,⟨_,_,N.own⟩,?_,?_⟩,λc hc=>?_,q⟩
  ·cases z
   ·exact⟨_,N.i1,rfl,rfl⟩
   ·exact⟨_,N.i1,rfl,rfl⟩
  ·cases b
   ·exact⟨_,N.i2,rfl,rfl⟩
   ·exact⟨_,N.i2,rfl,rfl⟩
  ·have e:s1.heap.objs.size<=c:=by
    simp only[ZM,ZN,or_false] at hc
    rcases hc with rfl | rfl | rfl | rfl | rfl
    ·exact Nat.le_add_right _ _
    ·exact Nat.le_add_right _ _
    ·exact Nat.le_add_right _ _
    ·exact XE _
    ·exact Nat.le_add_right _ _
   exact I1.fpOk e (I1.hok.fresh e)
 exact Qm z b p1 p2 fin
end
section
variable {X:Cx}
def Dj (bs:List Bool):((List.range bs.length).any λi=>(bs[i]?).getD false)=bs.any id:=by
 rw[Bool.eq_iff_iff,List.any_eq_true,List.any_eq_true]
 constructor
 ·rintro⟨i,hi,h⟩
  have hi':=List.mem_range.mp hi
  exact⟨bs[i],List.getElem_mem hi',by simpa[hi'] using h⟩
 ·rintro⟨x,hx,h⟩
  obtain⟨i,hi,rfl⟩:=List.mem_iff_getElem.mp hx
  exact⟨i,List.mem_range.mpr hi,by simpa[hi] using h⟩
def zY (hc:X.calm=true):Wj X (.builtin "any") (λxs H Q=>∃(p:Addr) (bs:List Bool),xs=[.ref p]/\Xr X.K H p (bs.map V.bl)/\Q (.bl (bs.any id)) H):=by
 intro pins s σ H xs us Q I r h
 obtain⟨p,bs,rfl,hq,q⟩:=h
 obtain⟨u,rfl,ru⟩:=Rm r
 cases ru
 obtain⟨its,rv,pl,hz⟩:=I.list hq
 have hl:=pl.isList
 have hlt:p<s.heap.objs.size:=by obtain⟨_,e,_⟩:=hl;exact XD e
 have hlen:its.length=bs.length:=by have:=rv.length;simp at this;omega
 refine call_any_walk (wpAny_pyIter_list hl ?_)
 refine⟨s.heap.objs.size,[s.heap.objs.size,p],[s.heap.objs.size],its.toArray.size,_,_,λi=>(bs[i]?).getD false,rfl,Walks.list (A:=X.A.in1) (I.ok.hd hc) _ p (XH hlt) its.toArray,
  ⟨⟨_,XF _ rfl,rfl,rfl⟩,hl.push _⟩,λi v s' Q' E' hP hQ=>?_,λh' tk hk=>?_⟩
 ·have hv:its[i]?=some v:=by simpa using hP
  have hi:i<its.length:=(List.getElem?_eq_some_iff.mp hv).1
  have hb:(bs.map V.bl)[i]?=some (.bl bs[i]):=by simp[show i<bs.length by omega]
  obtain⟨u,hu,ru⟩:=rv.get hb
  rw[hv] at hu;cases hu
  cases ru
  have e:(bs[i]?).getD false=bs[i]:=by simp[show i<bs.length by omega]
  have hQ2:Q' ((bs[i]?).getD false) s':=hQ
  rw[e] at hQ2
  exact wpAny_truthy_bool hQ2
 ·have e:((List.range its.toArray.size).any λi=>(bs[i]?).getD false)=bs.any id:=by
   rw[XJ,hlen];exact Dj bs
  rw[e]
  refine⟨.bl (bs.any id),H,I.kept λb o x=>hk b o (λhm=>?_) (XC _ x),rfl,q⟩
  have:=XQ.mp hm
  subst this
  exact Nat.lt_irrefl _ (XD x)
end
section
variable {prog:Program}{w:World}{K:Type}[DecidableEq K]{knd:KeyKind prog w K}
end
end L2
namespace WL
open PySem PySem.Spec PyProof.Rows L2
section
variable {X:Cx}{e o a b f:Expr}{we wo wa wb wi wd:WE}{wA:WA}{p p2 pos pos2 apos cpos:Pos}
def sV:bootBuiltins "any"=some (.builtin "any"):=by decide+kernel
def v9:bootBuiltins "dict"=some (.type "dict"):=by decide+kernel
def mD:List T->Hw->WK->Prop:=λvs C Q=>∃(a:Addr) (bs:List Bool),vs=[.ref a]/\C a=some (.lst (bs.map T.bl))/\Q (.bl (bs.any id)) C
def pS (hc:X.calm=true):Qa X (.builtin "any") mD:=⟨_,zY hc,λF H C xs vs Q Q' R rs h q=>by
 obtain⟨a,bs,rfl,hx,h⟩:=h
 obtain⟨x,rfl,rx⟩:=Wr rs
 cases Zs rx
 obtain⟨ys,hy,r⟩:=R.lst hx
 cases Fo r
 exact⟨a,bs,rfl,Xr.of hy,q _ _ H C R (Tx.refl H) Jc h⟩⟩
def pM (kvs:List (Z1×T))(k:Z1):List (Z1×T):=kvs.filter λkv=>decide (kv.1≠k)
def my (o i d:WE):WE:=λτ C Q χ=>o τ C (λx C1=>(∃a kvs,x=.ref a/\C1 a=some (.dic kvs))/\i τ C1 (λy C2=>d τ C2 (λz C3=>∃a kvs k,x=.ref a/\kT y=some k/\C3 a=some (.dic kvs)/\
 (∀v,Yl kvs k=some v->Q v (up C3 a (.dic (pM kvs k))))/\(Yl kvs k=none->Q z C3)) χ) χ) χ
def Nq (xs ys:List T):List T:=List.zipWith (λx y=>T.tup [x,y]) xs ys
def kt (a:WA):WI:=λτ C R χ=>a τ C (λvs C1=>(∃xs ys,vs=[.tup xs,.tup ys]/\xs.length=ys.length/\R (Nq xs ys) (λ_=>True) C1)\/
 (∃xs ys l,vs=[.tup xs,.ref l]/\C1 l=some (.lst ys)/\xs.length=ys.length/\R (Nq xs ys) (λC2=>C2 l=some (.lst ys)) C1)\/
 ∃xs ys k l,vs=[.ref k,.ref l]/\C1 k=some (.lst xs)/\C1 l=some (.lst ys)/\xs.length=ys.length/\R (Nq xs ys) (λC2=>C2 k=some (.lst xs)/\C2 l=some (.lst ys)) C1) χ
def Bl {xs ys:List T}{i:Nat}{x y:T}(hx:xs[i]?=some x)(hy:ys[i]?=some y):(Nq xs ys)[i]?=some (.tup [x,y]):=by
 unfold Nq;rw[List.getElem?_zipWith,hx,hy]
def D5 {K:W.Frag}{F H0:Hp}(z b:Bool){l1 l2:Addr}{xs ys:List T}{ok:Hw->Prop}(hl:xs.length=ys.length)(h1:∀H C,Rl K F H C->Tx H0 H->ok C->∃ys1,yf z K H l1 ys1/\Reps K H ys1 xs)
  (h2:∀H C,Rl K F H C->Tx H0 H->ok C->∃ys2,yf b K H l2 ys2/\Reps K H ys2 ys):K7 K F H0 (mR z b K l1 l2) (Nq xs ys) ok:=λi H C R t hok=>by
 obtain⟨ys1,q1,r1'⟩:=h1 H C R t hok
 obtain⟨ys2,q2,r2⟩:=h2 H C R t hok
 have hlz:(Nq xs ys).length=xs.length:=by unfold Nq;simp;omega
 have e1:=r1'.length
 have e2:=r2.length
 refine⟨λhi=>?_,λhi=>⟨ys1,ys2,q1,q2,by omega,by omega⟩⟩
 rw[hlz] at hi
 refine⟨⟨ys1,ys2,q1,q2,by omega,by omega⟩,λx H' h=>?_⟩
 obtain⟨u,v,Tt,hu,hv,rfl,hT,rfl⟩:=h
 obtain⟨x,hx,rx⟩:=r1'.get' (hu ys1 q1)
 obtain⟨y,hy,ry⟩:=r2.get' (hv ys2 q2)
 exact⟨_,Bl hx hy,R.hid hT,Tx.new hT,Jq (V6.of Z9) (Yf (rx.tx (Tx.new hT)) (Yf (ry.tx (Tx.new hT)) Ys))⟩
def sP {elts:List Expr}{ek:Nat}{epos:Pos}(hg:Gl X "zip")(hm:X.mg "zip"=none)(ha:yi X [a,b] wA)(hs:starEach [a,b] X.env=(false,eval a X.env)::starEach [b] X.env:=by rfl)(hp:(backTo pos (starEach [b] X.env)).any (·.1)=false:=by rfl):
  oI X (.Tuple elts ek epos) (.Call (.Name "zip" p) [a,b] [] pos) (kt wA):=by
 obtain⟨t,p1,s⟩:=ha
 refine⟨_,uY hg hm p1 hs hp,λF H C σ τ R R' χ Rr S h q=>?_⟩
 refine s F H C σ τ _ _ χ Rr S h λxs vs H1 C1 R1 t1 rs h1=>?_
 rcases h1 with⟨ts,us,rfl,hl,h1⟩ | ⟨ts,us,l,rfl,hC,hl,h1⟩ | ⟨ts,us,k,l,rfl,hB,hC,hl,h1⟩<;>obtain⟨x,y,rfl,rx,ry⟩:=tN rs
 ·obtain⟨l1,y1,rfl,q1,r1⟩:=Z6 rx
  obtain⟨l2,y2,rfl,q2,r2⟩:=Z6 ry
  exact⟨false,false,l1,l2,y1,y2,rfl,q1,q2,q _ H1 _ _ C1 R1 t1 (λF'=>D5 _ _ hl (λH C _ t _=>⟨y1,t.sqt q1,r1.tx t⟩) λH C _ t _=>⟨y2,t.sqt q2,r2.tx t⟩) h1⟩
 ·obtain⟨l1,y1,rfl,q1,r1⟩:=Z6 rx
  cases Zs ry
  obtain⟨y2,hy,r2⟩:=R1.lst hC
  refine⟨false,true,l1,l,y1,y2,rfl,q1,Xr.of hy,q _ H1 _ _ C1 R1 t1 (λF'=>D5 _ _ hl (λH C _ t _=>⟨y1,t.sqt q1,r1.tx t⟩) λH C R' t hok=>?_) h1⟩
  obtain⟨y3,hy3,r3⟩:=R'.lst hok
  exact⟨y3,Xr.of hy3,r3⟩
 ·cases Zs rx
  cases Zs ry
  obtain⟨y1,hx,r1⟩:=R1.lst hB
  obtain⟨y2,hy,r2⟩:=R1.lst hC
  refine⟨true,true,k,l,y1,y2,rfl,Xr.of hx,Xr.of hy,q _ H1 _ _ C1 R1 t1 (λF'=>D5 _ _ hl (λH C R' t hok=>?_) λH C R' t hok=>?_) h1⟩
  ·obtain⟨y3,hy3,r3⟩:=R'.lst hok.1
   exact⟨y3,Xr.of hy3,r3⟩
  ·obtain⟨y3,hy3,r3⟩:=R'.lst hok.2
   exact⟨y3,Xr.of hy3,r3⟩
end
end WL
namespace L2
open PySem PySem.Spec PyProof.Rows
section
variable {X:Cx}{pins:List (Addr×Obj)}{σ:St}{H:Hp}{s:Shared}
end
def kO (o:Obj)(d:Addr)(ks:List (Z1×V)):It:=
 ⟨λi H=>H d=some (.frz o (.dK ks))/\i<ks.length,λi H x H'=>H'=H/\∃kv,ks[i]?=some kv/\x=kV kv.1,λi H=>H d=some (.frz o (.dK ks))/\i=ks.length⟩
section
variable {X:Cx}{tg e:Expr}
def kz (td:TE):TI:=λσ H R=>td σ H λx H1=>∃d ks,x=.ref d/\Rd H1 d (.dK ks)/\∀o,(∀o',H1 d=some (.frz o' (.dK ks))->o'=o)->R (kO o d ks) (Yq H1 d (.frz o (.dK ks)))
end
end L2
namespace WL
open PySem PySem.Spec PyProof.Rows L2
def oJ (C:Hw)(a:Addr)(kvs:List (Z1×T)):Prop:=C a=some (.dic kvs)\/C a=some (.fdic kvs)
def Rl.rd {K:W.Frag}{F H:Hp}{C:Hw}(R:Rl K F H C){a:Addr}{kvs:List (Z1×T)}(h:oJ C a kvs):∃ks,Rd H a (.dK ks)/\PR K H ks kvs:=by
 rcases h with h | h
 ·obtain⟨ks,hH,pr⟩:=R.dic h;exact⟨ks,.inl hH,pr⟩
 ·exact R.obj a _ h
section
variable {X:Cx}{e o a b c f i:Expr}{we wo wa wb wi wd:WE}{wA:WA}{p p2 pos pos2 apos cpos:Pos}{tg:Expr}
def rS:W2:=λx y C Q=>∃a kvs k v,x=.ref a/\kT y=some k/\oJ C a kvs/\Yl kvs k=some v/\Q v C
def y8 (neg:Bool):W2:=λy x C Q=>∃a kvs k,x=.ref a/\kT y=some k/\oJ C a kvs/\Q (.bl (if neg then !(Yl kvs k).isSome else(Yl kvs k).isSome)) C
abbrev na:W2:=y8 false
abbrev xS:W2:=y8 true
def Cr (hu:X.A.units+150<cLine)(ha:Jd X a wa)(hb:Jd X b wb)(hs:rH b):Jd X (.Subscript a b pos) (Wi rS wa wb):=by
 obtain⟨ta,p1,s1⟩:=ha
 obtain⟨tb,p2,s2⟩:=hb
 refine⟨_,wM (by omega) p1 p2 hs,λF H C σ τ Q Q' χ R S h q=>?_⟩
 refine s1 F H C σ τ _ _ χ R S h λx v H1 C1 R1 t1 rx h1=>?_
 refine s2 F H1 C1 σ τ _ _ χ R1 (S.tx t1) h1 λy u H2 C2 R2 t2 ry h2=>?_
 obtain⟨l,kvs,k,w,rfl,hk,hC,hg,h2⟩:=h2
 cases Zs rx
 obtain⟨ks,hH,pr⟩:=R2.rd hC
 obtain⟨z,hz,rz⟩:=(PR.get pr k).2 w hg
 cases O8 hk ry
 exact⟨l,z,rfl,.inl ⟨ks,k,hH,rfl,hz.symm⟩,q _ _ H2 C2 R2 (t1.trans t2) rz h2⟩
def ju (neg:Bool)(hu:X.A.units+150<cLine):Le X (compareOp (if neg then .NotIn else .In)) (y8 neg):=⟨_,Hb,λF H C y x u v Q Q' R ry rx h q pins s σ u' v' I r1 r2=>by
 obtain⟨l,kvs,k,rfl,hk,hC,h⟩:=h
 cases Zs rx
 cases r2
 obtain⟨ks,hH,pr⟩:=R.rd hC
 cases O8 hk ry
 have e:(Vi ks k).isSome=(Yl kvs k).isSome:=by
  cases hg:Yl kvs k with
  | none=>rw[(PR.get pr k).1 hg];rfl
  | some w=>obtain⟨z,hz,_⟩:=(PR.get pr k).2 w hg;rw[hz];rfl
 have fin:=q _ _ H C R (Tx.refl H) Jc h
 rw[<-e] at fin
 have g:E5 H l (kV k) (Vi ks k):=.inl ⟨ks,k,hH,rfl,rfl⟩
 cases neg with
 | true=>exact vt (by omega) I g r1 λs' I'=>⟨.bl _,H,I',rfl,fin⟩
 | false=>exact m6 (by omega) I g r1 λs' I'=>⟨.bl _,H,I',rfl,fin⟩⟩
def jv (hu:X.A.units+150<cLine):Le X (compareOp .In) na:=ju false hu
def jq (hu:X.A.units+150<cLine):Le X (compareOp .NotIn) xS:=ju true hu
def Cv:Wj X (.type "dict") (λxs H Q=>∃(p:Addr) (kvs:List (Z1×V)),xs=[.ref p]/\Rd H p (.dK kvs)/\∀r,H r=none->Q (.ref r) (Yq H r (.dK kvs))):=by
 intro pins s σ H xs us Q I r h
 obtain⟨p,kvs,rfl,hp,q⟩:=h
 obtain⟨u,rfl,ru⟩:=Rm r
 cases ru
 exact xm I hp λr s2 hr I2=>⟨.ref r,_,I2,rfl,q r hr⟩
def re:List T->Hw->WK->Prop:=λvs C Q=>∃(a:Addr) (kvs:List (Z1×T)),vs=[.ref a]/\oJ C a kvs/\∀p,C p=none->Q (.ref p) (up C p (.dic kvs))
def vE:Qa X (.type "dict") re:=⟨_,Cv,λF H C xs vs Q Q' R rs h q=>by
 obtain⟨a,kvs,rfl,hC,h⟩:=h
 obtain⟨x,rfl,rx⟩:=Wr rs
 cases Zs rx
 obtain⟨ks,hH,pr⟩:=R.rd hC
 exact⟨a,ks,rfl,hH,λr hr=>q _ _ _ _ (R.newD hr pr) (Tx.new hr) Y2 (h r (R.free hr))⟩⟩
end
section
variable {X:Cx}{e o:Expr}{we wo wi:WE}{apos cpos:Pos}
end
def V1 (f:Str)(v:T):List (Str×T)->List (Str×T)
 | []=>[(f,v)]
 | (g,x)::r=>if g=f then(g,v)::r else(g,x)::V1 f v r
section
variable {K:W.Frag}{H:Hp}
def By {f:Str}{y:V}{v:T}(q:Y7 K H y v):∀{ks:List (Str×V)} {fs:List (Str×T)},PR K H ks fs->PR K H (Uh f y ks) (V1 f v fs)
 | [],[],_=>.cons ⟨rfl,q⟩ .nil
 | (k,x)::ks,(g,z)::fs,.cons h r=>by
  obtain⟨e,q'⟩:=h
  cases e
  show PR K H (if k=f then(k,y)::ks else(k,x)::Uh f y ks) (if k=f then(k,v)::fs else(k,z)::V1 f v fs)
  by_cases c:k=f
  ·rw[XY c,XY c];exact .cons ⟨rfl,q⟩ r
  ·rw[XX c,XX c];exact .cons ⟨rfl,q'⟩ (By q r)
def Na {f:Str}:∀{ks:List (Str×V)} {fs:List (Str×T)},PR K H ks fs->(∀v,fs.lookup f=some v->∃y,ks.lookup f=some y/\Y7 K H y v)/\(fs.lookup f=none->ks.lookup f=none)
 | [],[],_=>⟨λv h=>by simp at h,λ_=>rfl⟩
 | (k,x)::ks,(g,z)::fs,.cons h r=>by
  obtain⟨e,q'⟩:=h
  cases e
  by_cases c:f=k
  ·have hb:(f==k)=true:=beq_iff_eq.mpr c
   simp only[List.lookup,hb]
   exact⟨λv h=>by cases h;exact⟨x,rfl,q'⟩,λh=>by cases h⟩
  ·have hb:(f==k)=false:=beq_eq_false_iff_ne.mpr c
   simp only[List.lookup,hb]
   exact Na r
def jh:∀{κ:Type} {ks:List (κ×V)} {fs:List (κ×T)},PR K H ks fs->ks.length=fs.length
 | _,[],[],_=>rfl
 | _,_::_,_::_,.cons _ r=>by rw[YF,YF,jh r]
end
abbrev Lb (K:W.Frag)(cn:Str)(Cl:Addr):Prop:=W.nsIn K mainGlobals cn=some (some (.ref Cl))
structure KF (K:W.Frag)(f cn:Str):Prop where
 ex:∃Cl,Lb K cn Cl/\Bi K Cl/\To K Cl f
def KF.at {K:W.Frag}{f cn:Str}(h:KF K f cn){Cl:Addr}(c:Lb K cn Cl):Bi K Cl/\To K Cl f:=by
 obtain⟨C2,h1,h2⟩:=h.ex
 have e:some (some (Value.ref C2))=some (some (Value.ref Cl)):=h1.symm.trans c
 cases e
 exact h2
def mx (cs:List Str)(f:Str)(o:WE):WE:=λτ C Q χ=>o τ C (λx C1=>∃a cn fs v,x=.ref a/\C1 a=some (.ins cn fs)/\cn∈cs/\fs.lookup f=some v/\Q v C1) χ
def k7 (cs:List Str)(f:Str)(o:WE):WG:=λv τ C Q χ=>o τ C (λx C1=>∃a cn fs,x=.ref a/\C1 a=some (.ins cn fs)/\cn∈cs/\fs.length<1000/\Q τ (up C1 a (.ins cn (V1 f v fs)))) χ
def Rl.ins {K:W.Frag}{F H:Hp}{C:Hw}(R:Rl K F H C){a:Addr}{cn:Str}{fs:List (Str×T)}(h:C a=some (.ins cn fs)):∃Cl dx ks,Lb K cn Cl/\H a=some (.ins Cl dx ks)/\PR K H ks fs:=R.obj a _ h
section
variable {X:Cx}{e o value:Expr}{we wo wv:WE}{f:Str}{cs:List Str}{pos pos' apos cpos:Pos}
def Uy (hk:∀cn∈cs,KF X.K f cn)(he:Jd X e we)(hb:attributeBase e f X.env (eval e X.env)=eval e X.env:=by rfl):Jd X (.Attribute e f pos) (mx cs f we):=by
 obtain⟨ta,p1,s1⟩:=he
 refine⟨_,t8 p1 hb,λF H C σ τ Q Q' χ R S h q=>?_⟩
 refine s1 F H C σ τ _ _ χ R S h λx v H1 C1 R1 t1 rx h1=>?_
 obtain⟨a,cn,fs,v',rfl,hC,hcn,hl,h1⟩:=h1
 cases Zs rx
 obtain⟨Cl,dx,ks,hc,hH,pr⟩:=R1.ins hC
 obtain⟨y,hy,ry⟩:=(Na pr).1 v' hl
 obtain⟨c1,c2⟩:=(hk cn hcn).at hc
 exact⟨a,Cl,dx,ks,y,rfl,hH,c1,c2,hy,q _ _ H1 C1 R1 t1 ry h1⟩
def xb (hk:∀cn∈cs,KF X.K f cn)(ho:Jd X o wo)(hv:Jd X value wv)(hs:swapsWith value (some (.Attribute o f pos')) pos.line X.env=pure false:=by rfl):yh X (.Assign [.Attribute o f pos'] value pos) (Dh wv (k7 cs f wo)):=by
 obtain⟨ta,p1,s1⟩:=ho
 obtain⟨tv,p2,s2⟩:=hv
 refine⟨_,uW p1 p2 hs,λF H C σ τ D D' R S h d=>?_⟩
 refine s2 F H C σ τ _ _ D'.xc R S h λy v H1 C1 R1 t1 ry h1=>?_
 refine s1 F H1 C1 σ τ _ _ D'.xc R1 (S.tx t1) h1 λx u H2 C2 R2 t2 rx h2=>?_
 obtain⟨a,cn,fs,rfl,hC,hcn,hl,h2⟩:=h2
 cases Zs rx
 obtain⟨Cl,dx,ks,hc,hH,pr⟩:=R2.ins hC
 obtain⟨c1,c2⟩:=(hk cn hcn).at hc
 have tp:Tx H2 (Yq H2 a (.ins Cl dx (Uh f y ks))):=Tx.put hH (λz=>z)
 obtain⟨R3,t3⟩:=R2.put (u:=.ins Cl dx (Uh f y ks)) (o':=.ins cn (V1 f v fs)) hC ⟨Cl,dx,_,hc,Z9,N5 tp (By (ry.tx t2) pr)⟩
 exact⟨a,Cl,dx,ks,rfl,hH,c1,c2,by rw[jh pr];exact hl,d.nx _ _ _ _ R3 ((t1.trans t2).trans t3) (S.tx ((t1.trans t2).trans t3)) h2⟩
end
def yL (MT:Addr->L2.Sp->Prop)(m:Str)(E:XK)(ta:TE)(t:TA):TE:=λσ H Q=>ta σ H λx H1=>∃a C dx fs sp,x=.ref a/\H1 a=some (.ins C dx fs)/\MT C sp/\fs.lookup m=none/\t σ H1 λvs H2=>sp (x::vs) H2 Q E
section
variable {X:Cx}{k:Nat}{E:XK}{m:Str}{p pos apos:Pos}{e o:Expr}{es:List Expr}{ta:TE}{t:TA}{MT:Addr->L2.Sp->Prop}
def mM (X:Cx)(k:Nat)(m:Str)(MT:Addr->L2.Sp->Prop):Prop:=∀C sp,MT C sp->∃f fd ps,Bi X.K C/\yk X.K C m f/\Vv X.prog X.w X.K X.mg X.base CX0 k f fd ps sp/\Xv X.K fd ps []
def jk {pl:Sem Bool}(he:PE X o ta)(hM:mM X k m MT)(hr:Xt k X.A)(ha:PA X (e::es) t)
  (hst:starEach (e::es) X.env=(false,eval e X.env)::starEach es X.env:=by rfl) (hpl:(backTo pos (starEach es X.env)).any (·.1)=false:=by rfl)
  (ht:eval (.Call (.Attribute o m apos) (e::es) [] pos) X.env=(do
   let ov <-eval o X.env
   standAt apos.atName
   let (f,first) <-holding [ov] (getMethod ov m pl)
   callWith pos f first (backTo pos (starEach (e::es) X.env)) (backToKw pos (keywordEach [] X.env))):=by rfl):
  PE X (.Call (.Attribute o m apos) (e::es) [] pos) (yL MT m E0 ta t):=by
 intro pins s σ H Q I h
 refine W.methodCall_KW (pl:=pl) (Jp (he pins s σ H _ I h) λu s1 ⟨x,H1,I1,rx,a,C,dx,fs,sp,ex,ea,hmt,l,q⟩=>?_) ht
 subst ex
 obtain rfl:u=Value.ref a:=rx
 obtain⟨f,fd,ps,c,hm,F,hb⟩:=hM C sp hmt
 refine Mq I1 ea c hm l ?_
 refine W.callWith_K (first:=[.ref a]) (h₀:=X.base) I.ok.mod.kin hm.kp (Jp (ha pos pins s1 σ H1 _ I1 q) λus s2 ⟨vs,H2,I2,r,q2⟩=>⟨I2.kIn,?_⟩) hst hpl
 exact Di (us:=.ref a::us) (vs:=.ref a::vs) (dvs:=[]) F hr hb .nil Bz I2 (.cons rfl r) (by rw[YK];exact q2)
def zu {pl:Sem Bool}(he:PE X o ta)(hM:mM X k m MT)(hr:Xt k X.A)
  (ht:eval (.Call (.Attribute o m apos) [] [] pos) X.env=(do
   let ov <-eval o X.env
   standAt apos.atName
   let (f,first) <-holding [ov] (getMethod ov m pl)
   callWith pos f first (backTo pos (starEach [] X.env)) (backToKw pos (keywordEach [] X.env))):=by rfl):
  PE X (.Call (.Attribute o m apos) [] [] pos) (yL MT m E0 ta yK):=by
 intro pins s σ H Q I h
 refine W.methodCall_KW (pl:=pl) (Jp (he pins s σ H _ I h) λu s1 ⟨x,H1,I1,rx,a,C,dx,fs,sp,ex,ea,hmt,l,q⟩=>?_) ht
 subst ex
 obtain rfl:u=Value.ref a:=rx
 obtain⟨f,fd,ps,c,hm,F,hb⟩:=hM C sp hmt
 refine Mq I1 ea c hm l ?_
 exact W.callWith_K0 (first:=[.ref a]) I1.kIn hm.kp (Di (us:=[.ref a]) (vs:=[.ref a]) (dvs:=[]) F hr hb .nil Bz I1 (.cons rfl .nil) q)
end
def Cm (P:Program)(w:World)(K:W.Frag)(mg:Str->Option Value)(base:Heap)(n:Nat)(cn m:Str)(ps:List Str)(sp:L2.Sp):Prop:=
 ∃Cl f fd,Lb K cn Cl/\Bi K Cl/\yk K Cl m f/\Vv P w K mg base CX0 n f fd ps sp/\Xv K fd ps []
def rP (P:Program)(w:World)(K:W.Frag)(mg:Str->Option Value)(base:Heap)(n:Nat)(pr:List Df)(m:Str)(tb:List (Str×Nat)):Prop:=∀cn i,tb.lookup cn=some i->∃ps,Cm P w K mg base n cn m ps (spW K pr n i)
section
variable {P:Program}{w:World}{K:W.Frag}{mg:Str->Option Value}{base:Heap}{n:Nat}{pr:List Df}{m:Str}{tb:List (Str×Nat)}
def Z7:rP P w K mg base n pr m []:=λcn i h=>by simp at h
def Zu {cn:Str}{i:Nat}{ps:List Str}(h:Cm P w K mg base n cn m ps (spW K pr n i))(r:rP P w K mg base n pr m tb):rP P w K mg base n pr m ((cn,i)::tb):=λc j e=>by
 by_cases q:c=cn
 ·have hb:(c==cn)=true:=beq_iff_eq.mpr q
  simp only[List.lookup,hb] at e
  cases e;subst q;exact⟨ps,h⟩
 ·have hb:(c==cn)=false:=beq_eq_false_iff_ne.mpr q
  simp only[List.lookup,hb] at e
  exact r c j e
end
def Q7 (P:Calls)(tb:List (Str×Nat))(m:Str)(o:WE)(a:WA):WE:=λτ C Q χ=>o τ C (λx C1=>∃ad cn fs i,x=.ref ad/\C1 ad=some (.ins cn fs)/\tb.lookup cn=some i/\fs.lookup m=none/\a τ C1 (λvs C2=>P i (x::vs) C2 Q χ) χ) χ
section
variable {X:Cx}{k:Nat}{m:Str}{p pos apos:Pos}{e o:Expr}{es:List Expr}{wo:WE}{wA:WA}{tb:List (Str×Nat)}{pr:List Df}
def j3 (T:rP X.prog X.w X.K X.mg X.base k pr m tb):mM X k m (λC sp=>∃cn i,Lb X.K cn C/\tb.lookup cn=some i/\sp=spW X.K pr k i):=λC sp h=>by
 obtain⟨cn,i,hc,hl,rfl⟩:=h
 obtain⟨ps,Cl,f,fd,h1,h2,h3,h4,h5⟩:=T cn i hl
 have ee:some (some (Value.ref Cl))=some (some (Value.ref C)):=h1.symm.trans hc
 cases ee
 exact⟨f,fd,ps,h2,h3,h4,h5⟩
def Yo {pl:Sem Bool}(T:rP X.prog X.w X.K X.mg X.base k pr m tb)(hr:Xt k X.A)(ho:Jd X o wo)(ha:yi X (e::es) wA)
  (hst:starEach (e::es) X.env=(false,eval e X.env)::starEach es X.env:=by rfl) (hpl:(backTo pos (starEach es X.env)).any (·.1)=false:=by rfl)
  (ht:eval (.Call (.Attribute o m apos) (e::es) [] pos) X.env=(do
   let ov <-eval o X.env
   standAt apos.atName
   let (f,first) <-holding [ov] (getMethod ov m pl)
   callWith pos f first (backTo pos (starEach (e::es) X.env)) (backToKw pos (keywordEach [] X.env))):=by rfl):
  Jd X (.Call (.Attribute o m apos) (e::es) [] pos) (Q7 (Ye pr k) tb m wo wA):=by
 obtain⟨to,p1,s1⟩:=ho
 obtain⟨ta,p2,s2⟩:=ha
 refine⟨_,jk (pl:=pl) p1 (j3 T) hr p2 hst hpl ht,λF H C σ τ Q Q' χ R S h q=>?_⟩
 refine s1 F H C σ τ _ _ χ R S h λx v H1 C1 R1 t1 rx h1=>?_
 obtain⟨a,cn,fs,i,rfl,hC,hl,hm,h1⟩:=h1
 cases Zs rx
 obtain⟨Cl,dx,ks,hc,hH,prr⟩:=R1.ins hC
 refine⟨a,Cl,dx,ks,_,rfl,hH,⟨cn,i,hc,hl,rfl⟩,(Na prr).2 hm,?_⟩
 refine s2 F H1 C1 σ τ _ _ χ R1 (S.tx t1) h1 λxs vs H2 C2 R2 t2 rs h2=>?_
 exact⟨F,C2,.ref a::vs,Q',χ,R2,Yf Y2 rs,h2,QE.at q (t1.trans t2)⟩
def Wa {pl:Sem Bool}(T:rP X.prog X.w X.K X.mg X.base k pr m tb)(hr:Xt k X.A)(ho:Jd X o wo)
  (ht:eval (.Call (.Attribute o m apos) [] [] pos) X.env=(do
   let ov <-eval o X.env
   standAt apos.atName
   let (f,first) <-holding [ov] (getMethod ov m pl)
   callWith pos f first (backTo pos (starEach [] X.env)) (backToKw pos (keywordEach [] X.env))):=by rfl):
  Jd X (.Call (.Attribute o m apos) [] [] pos) (Q7 (Ye pr k) tb m wo Zw):=by
 obtain⟨to,p1,s1⟩:=ho
 refine⟨_,zu (pl:=pl) p1 (j3 T) hr ht,λF H C σ τ Q Q' χ R S h q=>?_⟩
 refine s1 F H C σ τ _ _ χ R S h λx v H1 C1 R1 t1 rx h1=>?_
 obtain⟨a,cn,fs,i,rfl,hC,hl,hm,h1⟩:=h1
 cases Zs rx
 obtain⟨Cl,dx,ks,hc,hH,prr⟩:=R1.ins hC
 refine⟨a,Cl,dx,ks,_,rfl,hH,⟨cn,i,hc,hl,rfl⟩,(Na prr).2 hm,?_⟩
 exact⟨F,C1,[.ref a],Q',χ,R1,Yf Y2 Ys,h1,QE.at q t1⟩
end
def zd (cn:Str)(i:Nat)(P:Calls):WS:=λD τ C=>∃vs,τ=vs.map some/\∀p,C p=none->P i (.ref p::vs) (up C p (.ins cn [])) (λv C2=>v=.non/\D.rt (.ref p) C2) D.xc
def Cn (P:Program)(w:World)(K:W.Frag)(mg:Str->Option Value)(base:Heap)(n:Nat)(pr:List Df)(cn:Str)(i j:Nat):Prop:=
 (∃ar,pr[j]?=some ⟨ar,ar,zd cn i⟩)/\∃Cl f,Lb K cn Cl/\mg cn=some (.ref Cl)/\L2.Mk K Cl f/\(n=0\/∃k fd ps,n=k+1/\Vv P w K mg base CX0 k f fd ps (spW K pr k i)/\Xv K fd ps [])
section
variable {X:Cx}{k i j:Nat}{cn:Str}{p pos:Pos}{e:Expr}{es:List Expr}{wA:WA}{pr:List Df}
end
def sE {P:Program}{w:World}{K:W.Frag}{mg:Str->Option Value}{base:Heap}{x qual:Str}{st:Stmt}{f:Addr}{fd:FuncData}{N ps:List Str}{pr:List Df}{n i:Nat}{d:Df}(F:Bf K x qual st f fd)(S:Zx N ps (Zn st))(hd:pr[i]?=some d)(hn:d.n=N.length)(har:d.ar=ps.length)
  (hb:∀(cdv:Value) (A:Around) (outer:List Env) (s:Shared) (H:Hp) (E:XK),Xt n (A.deeper (envOfC qual (Zn st) s.heap.objs.size f cdv))->xC (Eo CX0 P w K mg base N qual (Zn st) f cdv A outer s H E).nox (X9 st) (d.body (Ye pr n))):
  Vv P w K mg base CX0 (n+1) f fd ps (spW K pr (n+1) i):=by
 refine F.ok S (λvs H Q E h=>?_) (λcdv A outer s H vs Q E hr h=>?_)
 ·obtain⟨F',C,vs',Q',χ,R,rs,⟨d',e1,e2,_⟩,_⟩:=h
  rw[hd] at e1;cases e1
  rw[rs.length,e2,har]
 ·obtain⟨F',C,vs',Q',χ,R,rs,⟨d',e1,e2,h⟩,q⟩:=h
  rw[hd] at e1;cases e1
  obtain⟨t,p,sm⟩:=hb cdv A outer s H E hr
  refine⟨t,p,sm F' H C _ _ _ _ R (J6.start rs N _ (by rw[rs.length,e2,hn])) h ⟨λσ τ H' C' R' t' _ h'=>q .non .non H' C' R' t' Qx h',q,λ_ _ _ _ _ _ _ z=>z.elim,λ_ _ _ _ _ _ _ z=>z.elim⟩⟩
def zQ {P:Program}{w:World}{K:W.Frag}{mg:Str->Option Value}{base:Heap}{f:Addr}{fd:FuncData}{ps:List Str}{pr:List Df}{i:Nat}:Vv P w K mg base CX0 0 f fd ps (spW K pr 0 i):=
 ⟨λvs H Q E h=>by obtain⟨_,_,_,_,_,_,_,z,_⟩:=h;exact z.elim,λA outer s H args us vs Q E _ _ _ _ h=>by obtain⟨_,_,_,_,_,_,_,z,_⟩:=h;exact z.elim⟩
structure Kl (K:W.Frag)(mg:Str->Option Value)(cn:Str)(Cl:Addr):Prop where
 at_:Lb K cn Cl
 mg:mg cn=some (.ref Cl)
 cls:Bi K Cl
def um {P:Program}{w:World}{K:W.Frag}{mg:Str->Option Value}{base:Heap}{n:Nat}{cn m:Str}{ps:List Str}{sp:L2.Sp}{Cl f:Addr}{fd:FuncData}(k:Kl K mg cn Cl)(m':yk K Cl m f)(G:Vv P w K mg base CX0 n f fd ps sp)(hb:Xv K fd ps []):Cm P w K mg base n cn m ps sp:=
 ⟨Cl,f,fd,k.at_,k.cls,m',G,hb⟩
def vv {P:Program}{w:World}{K:W.Frag}{mg:Str->Option Value}{base:Heap}{pr:List Df}{cn:Str}{i j ar:Nat}{Cl f:Addr}(hj:pr[j]?=some ⟨ar,ar,zd cn i⟩)(k:Kl K mg cn Cl)(M:L2.Mk K Cl f):Cn P w K mg base 0 pr cn i j:=⟨⟨ar,hj⟩,Cl,f,k.at_,k.mg,M,.inl rfl⟩
def vw {P:Program}{w:World}{K:W.Frag}{mg:Str->Option Value}{base:Heap}{pr:List Df}{cn:Str}{n i j ar:Nat}{Cl f:Addr}{fd:FuncData}{ps:List Str}(hj:pr[j]?=some ⟨ar,ar,zd cn i⟩)(k:Kl K mg cn Cl)(M:L2.Mk K Cl f)(G:Vv P w K mg base CX0 n f fd ps (spW K pr n i))(hb:Xv K fd ps []):Cn P w K mg base (n+1) pr cn i j:=
 ⟨⟨ar,hj⟩,Cl,f,k.at_,k.mg,M,.inr ⟨n,fd,ps,rfl,G,hb⟩⟩
def vx {P:Program}{w:World}{K:W.Frag}{mg:Str->Option Value}{base:Heap}{pr:List Df}{cn:Str}{n i j ar:Nat}{Cl:Addr}{ps:List Str}(hj:pr[j]?=some ⟨ar,ar,zd cn i⟩)(k:Kl K mg cn Cl)(mk:W.makesIn K Cl=true)(kc:W.keepIn K (.ref Cl)=true)
  (h:Cm P w K mg base n cn "__init__" ps (spW K pr n i)):Cn P w K mg base (n+1) pr cn i j:=by
 obtain⟨C2,f,fd,h1,h2,h3,h4,h5⟩:=h
 have e:some (some (Value.ref C2))=some (some (Value.ref Cl)):=h1.symm.trans k.at_
 cases e
 exact vw hj k ⟨mk,h3.at_,h3.fn,kc⟩ h4 h5
def Xf {K:W.Frag}{f:Str}:∀cn∈([]:List Str),KF K f cn:=λ_ h=>by cases h
def Jg {K:W.Frag}{f cn:Str}{cs:List Str}(a:KF K f cn)(r:∀c∈cs,KF K f c):∀c∈cn::cs,KF K f c:=λc h=>by
 rcases List.mem_cons.mp h with rfl | h
 ·exact a
 ·exact r c h
def xi {X:Cx}{body:List Stmt}:xC X body Dg:=⟨λ_ _ _=>False,λ_ _ _ _ _ _ h=>h.elim,λ_ _ _ _ _ _ _ _ _ h _=>h.elim⟩
def uy (C:Hw):Nat->T->T->Bool->Prop
 | 0,v,w,b=>Je v 0=true/\Je w 0=true/\b=Jh v w
 | n+1,v,w,b=>(Je v n=true/\Je w n=true/\b=Jh v w)\/
   (∃(xs ys:List T) (e:Nat->Bool),v=.tup xs/\w=.tup ys/\(∀j x y,xs[j]?=some x->ys[j]?=some y->uy C n x y (e j))/\b=((List.range (min xs.length ys.length)).all e&&xs.length==ys.length))\/
   (∃(a a':Addr) (xs ys:List T) (e:Nat->Bool),v=.ref a/\w=.ref a'/\C a=some (.lst xs)/\C a'=some (.lst ys)/\(xs.length=ys.length->∀j x y,xs[j]?=some x->ys[j]?=some y->uy C n x y (e j))/\
    b=(if xs.length=ys.length then(List.range xs.length).all e else false))
section
variable {X:Cx}{pins:List (Addr×Obj)}{σ:L2.St}{F H:Hp}{s:Shared}{C:Hw}
def Ey {e:Nat->Bool}{n:Nat}(h:∀j,j<n->e j=true):(List.range n).all e=true:=by
 rw[List.all_eq_true];intro j hj;exact h j (List.mem_range.mp hj)
def Ek (I:Zp X pins σ H s)(R:Rl X.K F H C):∀(n:Nat) {v w:T} {x:V} {b:Bool},uy C n v w b->Y7 X.K H x v->Y7 X.K H x w->b=true:=by
 intro n
 induction n with
 | zero=>
  intro v w x b h rv rw'
  obtain⟨f1,f2,rfl⟩:=h
  rw[O9 I 0 f1 f2 rv rw']
  exact Su _ f2
 | succ n ih=>
  intro v w x b h rv rw'
  have lists:∀{zs:List V} {xs ys:List T} {e:Nat->Bool},Reps X.K H zs xs->Reps X.K H zs ys->(∀j x y,xs[j]?=some x->ys[j]?=some y->uy C n x y (e j))->xs.length=ys.length/\∀j,j<xs.length->e j=true:=by
   intro zs xs ys e r1 r2 he
   have l1:=r1.length
   have l2:=r2.length
   refine⟨by omega,λj hj=>?_⟩
   have i1:xs[j]?=some (xs[j]'hj):=by simp[hj]
   have i2:ys[j]?=some (ys[j]'(by omega)):=by simp
   obtain⟨u1,g1,q1⟩:=r1.get i1
   obtain⟨u2,g2,q2⟩:=r2.get i2
   rw[g1] at g2;cases g2
   exact ih (he j _ _ i1 i2) q1 q2
  rcases h with⟨f1,f2,rfl⟩ | ⟨xs,ys,e,rfl,rfl,he,rfl⟩ | ⟨a,a',xs,ys,e,rfl,rfl,h1,h2,he,rfl⟩
  ·rw[O9 I n f1 f2 rv rw']
   exact Su _ f2
  ·obtain⟨a,zs,rfl,hq,r⟩:=Z6 rv
   obtain⟨b,zs',eb,hq',r'⟩:=Z6 rw'
   cases eb
   have:=I.tuple_inj hq hq'
   subst this
   obtain⟨hl,ha⟩:=lists r r' he
   rw[hl,Nat.min_self,XU,Bool.and_true]
   exact Ey λj hj=>ha j (by omega)
  ·cases Zs rv
   cases Zs rw'
   rw[h1] at h2;cases h2
   obtain⟨zs,hz,r⟩:=R.lst h1
   obtain⟨hl,ha⟩:=lists r r (he rfl)
   rw[XY rfl]
   exact Ey ha
def Hj {ts us:List T}{ys zs:List V}{its its':List Value}{A:Around}{e:Nat->Bool}(r:Reps X.K H ys ts)(r':Reps X.K H zs us)(rI:Zz ys its)(rI':Zz zs its')
  (he:∀j x y,ts[j]?=some x->us[j]?=some y->∀{x1 x2:V} {u u':Value},Y7 X.K H x1 x->Y7 X.K H x2 y->Z0 x1 u->Z0 x2 u'->SeqAt.EqAt A s u u' (e j)):
  ∀j (h1:j<its.toArray.size) (h2:j<its'.toArray.size),SeqAt.EqAt A s its.toArray[j] its'.toArray[j] (e j):=λj h1 h2=>by
 have l1:its.toArray.size=ts.length:=by rw[XJ,<-rI.length,r.length]
 have l2:its'.toArray.size=us.length:=by rw[XJ,<-rI'.length,r'.length]
 have i1:ts[j]?=some (ts[j]'(by omega)):=by simp[l1▸h1]
 have i2:us[j]?=some (us[j]'(by omega)):=by simp[l2▸h2]
 obtain⟨x1,g1,q1⟩:=r.get i1
 obtain⟨x2,g2,q2⟩:=r'.get i2
 obtain⟨u1,k1,z1⟩:=rI.get g1
 obtain⟨u2,k2,z2⟩:=rI'.get g2
 have e1:its.toArray[j]=u1:=by
  have:its[j]?=some its.toArray[j]:=by simp
  rw[k1] at this;exact(YH this).symm
 have e2:its'.toArray[j]=u2:=by
  have:its'[j]?=some its'.toArray[j]:=by simp
  rw[k2] at this;exact(YH this).symm
 rw[e1,e2]
 exact he j _ _ i1 i2 q1 q2 z1 z2
def ui (I:Zp X pins σ H s)(R:Rl X.K F H C):∀(n:Nat) {v w:T} {x y:V} {u u':Value} {A:Around} {b:Bool},uy C n v w b->Y7 X.K H x v->Y7 X.K H y w->Z0 x u->Z0 y u'->A.units+n<cLine->SeqAt.EqAt A s u u' b:=by
 intro n
 induction n with
 | zero=>
  intro v w x y u u' A b h rv rw' ru ru' hu
  obtain⟨f1,f2,rfl⟩:=h
  exact Am I 0 f1 f2 rv rw' ru ru' hu
 | succ n ih=>
  intro v w x y u u' A b h rv rw' ru ru' hu
  have hu0:A.units<cLine:=by omega
  have h0:=h
  rcases h with⟨f1,f2,rfl⟩ | ⟨xs,ys,e,rfl,rfl,he,rfl⟩ | ⟨a,a',xs,ys,e,rfl,rfl,h1,h2,he,rfl⟩
  ·exact Am I n f1 f2 rv rw' ru ru' (by omega)
  ·obtain⟨a,zs,rfl,hq,r⟩:=Z6 rv
   obtain⟨b,zs',rfl,hq',r'⟩:=Z6 rw'
   cases ru
   cases ru'
   by_cases hne:a=b
   ·subst hne
    have:=Ek I R (n+1) h0 rv rw'
    rw[this]
    exact SeqAt.EqAt.same _
   ·obtain⟨its,rI,p,_⟩:=I.tuple hq
    obtain⟨its',rI',p',_⟩:=I.tuple hq'
    have l1:its.toArray.size=xs.length:=by rw[XJ,<-rI.length,r.length]
    have l2:its'.toArray.size=ys.length:=by rw[XJ,<-rI'.length,r'.length]
    have key:=SeqAt.EqAt.of_refs hne (SeqAt.RcAt.tuples (A:=A) p p' hu0 (Hj (A:=A.in1) r r' rI rI' λj x y hx hy {x1 x2 u u'} q1 q2 z1 z2=>ih (he j x y hx hy) q1 q2 z1 z2 (by show A.units+1+n<cLine;omega)))
    rw[l1,l2] at key
    exact key
  ·cases Zs rv
   cases Zs rw'
   cases ru
   cases ru'
   by_cases hne:a=a'
   ·subst hne
    have:=Ek I R (n+1) h0 rv rw'
    rw[this]
    exact SeqAt.EqAt.same _
   ·obtain⟨zs,hz,r⟩:=R.lst h1
    obtain⟨zs',hz',r'⟩:=R.lst h2
    obtain⟨its,rI,p,_⟩:=I.list (Xr.of hz)
    obtain⟨its',rI',p',_⟩:=I.list (Xr.of hz')
    have l1:its.toArray.size=xs.length:=by rw[XJ,<-rI.length,r.length]
    have l2:its'.toArray.size=ys.length:=by rw[XJ,<-rI'.length,r'.length]
    by_cases hl:xs.length=ys.length
    ·rw[XY hl]
     have key:=SeqAt.EqAt.of_refs hne (SeqAt.RcAt.lists (A:=A) p.isList p'.isList (by rw[l1,l2,hl]) hu0 (Hj (A:=A.in1) r r' rI rI' λj x y hx hy {x1 x2 u u'} q1 q2 z1 z2=>ih (he hl j x y hx hy) q1 q2 z1 z2 (by show A.units+1+n<cLine;omega)))
     rw[l1] at key
     exact key
    ·rw[XX hl]
     exact SeqAt.EqAt.of_refs hne (SeqAt.RcAt.lists_lengths p.isList p'.isList (by rw[l1,l2];exact bne_iff_ne.mpr hl) hu0)
def kf (I:Zp X pins σ H s)(R:Rl X.K F H C){n:Nat}{v w:T}{x y:V}{u u':Value}{A:Around}{b:Bool}(h:uy C n v w b)(rv:Y7 X.K H x v)(rw':Y7 X.K H y w)(ru:Z0 x u)(ru':Z0 y u')(hu:A.units+n+1<cLine):
  SeqAt.RcAt A s u u' b/\SeqAt.RcNeAt A s u u' (!b):=by
 have hu0:A.units<cLine:=by omega
 cases n with
 | zero=>
  obtain⟨f1,f2,rfl⟩:=h
  exact nJ I f1 f2 rv rw' ru ru' hu
 | succ n=>
  rcases h with⟨f1,f2,rfl⟩ | ⟨xs,ys,e,rfl,rfl,he,rfl⟩ | ⟨a,a',xs,ys,e,rfl,rfl,h1,h2,he,rfl⟩
  ·exact nJ I f1 f2 rv rw' ru ru' (by omega)
  ·obtain⟨a,zs,rfl,hq,r⟩:=Z6 rv
   obtain⟨b,zs',rfl,hq',r'⟩:=Z6 rw'
   cases ru
   cases ru'
   obtain⟨its,rI,p,_⟩:=I.tuple hq
   obtain⟨its',rI',p',_⟩:=I.tuple hq'
   have l1:its.toArray.size=xs.length:=by rw[XJ,<-rI.length,r.length]
   have l2:its'.toArray.size=ys.length:=by rw[XJ,<-rI'.length,r'.length]
   have hi:=Hj (s:=s) (A:=A.in1) (e:=e) r r' rI rI' λj x y hx hy {x1 x2 u u'} q1 q2 z1 z2=>ui I R n (he j x y hx hy) q1 q2 z1 z2 (by show A.units+1+n<cLine;omega)
   have k1:=SeqAt.RcAt.tuples (A:=A) p p' hu0 hi
   have k2:=SeqAt.RcNeAt.tuples (A:=A) p p' hu0 hi
   rw[l1,l2] at k1 k2
   exact⟨k1,k2⟩
  ·cases Zs rv
   cases Zs rw'
   cases ru
   cases ru'
   obtain⟨zs,hz,r⟩:=R.lst h1
   obtain⟨zs',hz',r'⟩:=R.lst h2
   obtain⟨its,rI,p,_⟩:=I.list (Xr.of hz)
   obtain⟨its',rI',p',_⟩:=I.list (Xr.of hz')
   have l1:its.toArray.size=xs.length:=by rw[XJ,<-rI.length,r.length]
   have l2:its'.toArray.size=ys.length:=by rw[XJ,<-rI'.length,r'.length]
   by_cases hl:xs.length=ys.length
   ·rw[XY hl]
    have hi:=Hj (s:=s) (A:=A.in1) (e:=e) r r' rI rI' λj x y hx hy {x1 x2 u u'} q1 q2 z1 z2=>ui I R n (he hl j x y hx hy) q1 q2 z1 z2 (by show A.units+1+n<cLine;omega)
    have k1:=SeqAt.RcAt.lists (A:=A) p.isList p'.isList (by rw[l1,l2,hl]) hu0 hi
    have k2:=SeqAt.RcNeAt.lists (A:=A) p.isList p'.isList (by rw[l1,l2,hl]) hu0 hi
    rw[l1] at k1 k2
    exact⟨k1,k2⟩
   ·rw[XX hl]
    have hne:(its.toArray.size !=its'.toArray.size)=true:=by rw[l1,l2];exact bne_iff_ne.mpr hl
    exact⟨SeqAt.RcAt.lists_lengths p.isList p'.isList hne hu0,SeqAt.RcNeAt.lists_lengths p.isList p'.isList hne hu0⟩
end
def yA (neg:Bool):W2:=λx y C Q=>∃b,uy C 100 x y b/\Q (.bl (if neg then !b else b)) C
abbrev nj:W2:=yA false
abbrev nh:W2:=yA true
section
variable {X:Cx}
def jx (neg:Bool)(hu:X.A.units+150<cLine):Le X (compareOp (if neg then .NotEq else .Eq)) (yA neg):=⟨_,Hb,λF H C x y v u Q Q' R rx ry h q pins s σ v' u' I r1 r2=>by
 obtain⟨b,he,hq⟩:=h
 have key:=kf (A:=X.A) I R he rx ry r1 r2 (by omega)
 have hq':=q _ _ H C R (Tx.refl H) Jc hq
 cases neg with
 | true=>exact EqBoolInt.of_rcne key.2 ⟨.bl (!b),H,I,rfl,hq'⟩
 | false=>exact EqBoolInt.of_rc key.1 ⟨.bl b,H,I,rfl,hq'⟩⟩
def pj (hu:X.A.units+150<cLine):Le X (compareOp .Eq) nj:=jx false hu
def ua (hu:X.A.units+150<cLine):Le X (compareOp .NotEq) nh:=jx true hu
end
structure kQ (K:W.Frag)(x qual:Str)(st:Stmt)(f:Addr)(fd:FuncData):Prop where
 ex:∃(oc:Value) (od:Option Addr) (dV kV doc pm:Value) (an:Option Addr) (cdv ct:Value) (osl:Array (Option Value)),
  fd=W.fnOf x qual (Tk st) (X9 st) (Zn st) dV kV doc pm an cdv ct/\K.lookup f=some ⟨oc,od,.func fd,osl⟩/\W.codeIn K cdv qual=true
 kp:W.keepIn K (.ref f)=true
def ij (P:Program)(w:World)(K:W.Frag)(mg:Str->Option Value)(base:Heap)(n:Nat)(x:Str)(ps:List Str)(ds:List Int)(sp:L2.Sp):Prop:=
 ∃f fd,Vv P w K mg base CX0 n f fd ps sp/\(∃us:List Value,Zz (ds.map V.int) us/\∀j,j<=ds.length->Xv K fd ps (us.drop j))/\W.keepIn K (.ref f)=true/\mg x=some (.ref f)
def kF (ws:List T)(a:WA):WA:=λτ C Q χ=>a τ C (λvs C1=>Q (vs++ws) C1) χ
end WL
namespace PySem
open Sem (wp)
namespace F
def lz_entry_ga:entryFor table "zip.__getattribute__"=some Builtin.«object.__getattribute__»:=
 entryFor_alias (id':="object.__getattribute__") (by kernel_rfl) (by first | rfl | decide+kernel) (by decide+kernel) (by kernel_rfl)
def lz_getattr_none:typeLookup (.type "zip") "__getattr__"=pure none:=by rw[typeLookup_type,builtinLookup_eq_fast];kernel_rfl
def lz_keys_none:typeLookup (.type "zip") "keys"=pure none:=by rw[typeLookup_type,builtinLookup_eq_fast];kernel_rfl
end F
section
variable {z:Addr}
def j7 (fs:Array Value)(u:Tok):
  Meets (Builtin.«object.__getattribute__» ⟨[.ref z,.str "keys" u],[]⟩) (λA R s=>s.heap.get? z=some {cls:=.type "zip",dict:=none,data:=.fields fs,slots:=#[]}/\raisesAttr (.ref z) "keys" A R s):=
 Meets.of_wp λprog w A R s hs=>by
  obtain⟨ho,hs⟩:=hs
  obtain⟨hp,g,d,tk,os⟩:=s
  have hT:(⟨hp,g,d,tk,os⟩:Shared).TypeIs (.ref z) "zip":=⟨_,ho,rfl⟩
  have f1:=F.lz_keys_none
  unfold Builtin.«object.__getattribute__»
  repeat (any_goals (first | assumption | wp_step))
  exact wpAny_raiseAttrError hs.1 hs.2 (attrMsg_fits (by decide+kernel) (by decide+kernel))
def wY {prog:Program}{w:World}{A:Around}{E:Value->Shared->Prop}{s:Shared}{fs:Array Value}{Q:Option Value->Shared->Prop}(ho:s.heap.get? z=some {cls:=.type "zip",dict:=none,data:=.fields fs,slots:=#[]})(hA:A.handled=none)
  (h:∀h' tk,(∀b ob,s.heap.get? b=some ob->h'.get? b=some ob)->Q none {s with heap:=h',toks:=tk}):wpAny (model prog w) A (getAttr? (.ref z) "keys") Q E s:=by
 obtain⟨hp,g,d,tk,os⟩:=s
 have hT:(⟨hp,g,d,tk,os⟩:Shared).TypeIs (.ref z) "zip":=⟨_,ho,rfl⟩
 have f1:=sub_AttributeError
 have f3:=F.slot_zip_getattribute.lookup
 have f4:=F.slot_zip_getattribute.bind (.ref z)
 have f5:=F.lz_getattr_none
 unfold getAttr? getAttrBy? getAttrBy
 repeat (any_goals (first | assumption | ((with_reducible show wpAny _ _ (call (Value.builtin "zip.__getattribute__") _ _) _ _ _);refine call_meets F.slot_zip_getattribute ⟨_,ho,rfl⟩ F.lz_entry_ga (F.args_zip_getattribute_2 _ _) (j7 fs _) ⟨ho,hA,λh' tk' e hx=>?_⟩) | wp_step))
 obtain⟨t',u',he⟩:=hx.there
 show wpAny _ _ (getattributeRaised _ _ _ _ _ _ _) _ _ _
 unfold getattributeRaised
 repeat (any_goals (first | assumption | wp_step))
 exact h h' tk' λb ob q=>hx.keeps b ob q
end
end PySem
namespace L2
open PySem PySem.Spec PyProof.Rows
abbrev Qo (h:Heap)(z TI TO T:Addr)(b:Bool):Prop:=
 h.get? z=some {cls:=.type "zip",dict:=none,data:=.fields #[rawInt T,.bool b,.bool false,.ref TI,.ref TO],slots:=#[]}
section
variable {prog:Program}{w:World}{A:Around}{E:Value->Shared->Prop}{s:Shared}{z TI TO i1 i2:Addr}{f1 f2:List Addr}{n:Nat}{P1 P2:Nat->Value->Prop}{S1 S2:Nat->Heap->Prop}
def A6 {M:Model}{a:Addr}{Q:Option Obj->Shared->Prop}(h:Q (s.heap.get? a) s):wpAny M A (loadIfAlive a) Q E s:=λΓ p hΓ=>by
 unfold loadIfAlive
 rw[Sem.wp_loadIfAlive]
 exact(XB (M:=M) (A:=A) (E:=E) h) Γ p hΓ
def Bm {T:Addr}{b:Bool}{Q:Bool->Shared->Prop}(hz:Qo s.heap z TI TO T b)(hT:∃o,s.heap.get? T=some o)(hQ:∀h2,Qo h2 z TI TO T true->Heap.SameBut z s.heap h2->Q false {s with heap:=h2}):
  wpAny (model prog w) A (Builtin.SmallTypes.ownedTupleIsFree (.ref z)) Q E s:=by
 obtain⟨oT,hoT⟩:=hT
 unfold Builtin.SmallTypes.ownedTupleIsFree
 refine XA (wpAny_field hz rfl (x:=rawInt T) rfl ?_)
 show wpAny _ _ (loadIfAlive (T:Int).toNat>>=_) _ _ s
 refine XA (A6 ?_)
 rw[Int.toNat_natCast,hoT]
 simp only[Option.isNone_some,Bool.false_eq_true,if_false]
 refine XA (wpAny_field hz rfl (x:=.bool b) rfl ?_)
 cases b with
 | false=>
  rw[XY (by decide)]
  refine wpAny_bind (wpAny_setField_rec hz (by simp) λha hza sa=>?_)
  exact XB (hQ ha hza sa)
 | true=>
  rw[XX (by decide)]
  exact XB (hQ s.heap hz (Heap.SameBut.refl _ _))
def xQ {i:Nat}{T:Addr}{b:Bool}{u v:Value}{Q:Value->Shared->Prop}(D1:Draws prog w A i1 f1 n P1 S1)(D2:Draws prog w A i2 f2 n P2 S2)(Z:yc z TI TO i1 i2 f1 f2)(hi:i<n)
  (hz:Qo s.heap z TI TO T b) (hT:∃o,s.heap.get? T=some o) (hTI:IsPair s.heap TI (.ref i1) (.ref i2)) (s1:S1 i s.heap) (s2:S2 i s.heap)
  (hQ:∀x y h2 t2 b,P1 i x->P2 i y->Qo h2 z TI TO T b->S1 (i+1) h2->S2 (i+1) h2->IsPair h2 s.heap.objs.size x y->
   (∀c o,c≠z->c≠i1->c≠i2->s.heap.get? c=some o->h2.get? c=some o)->Q (.ref s.heap.objs.size) {s with heap:=h2,toks:=t2}):
  wpAny (model prog w) A (Builtin.«zip.__next__» ⟨[.ref z],[]⟩) (λfin s2=>∃r,fin=.done (.ret r)/\Q r s2) E s:=by
 show wpAny _ _ (field (.ref z) 2>>=_) _ E s
 refine XA (wpAny_field hz rfl (x:=.bool false) rfl ?_)
 show wpAny _ _ (field (.ref z) 3>>=_) _ E s
 refine XA (wpAny_field hz rfl (x:=.ref TI) rfl ?_)
 refine XA (wpAny_seqItems hTI rfl ?_)
 show wpAny _ _ (Builtin.SmallTypes.ownedTupleIsFree (.ref z)>>=_) _ E s
 refine XA (Bm hz hT λha hza sa=>?_)
 simp only[Bool.false_eq_true,if_false]
 have ne:∀{b c:Addr} {l:List Addr},b∈l->c∉l->b≠c:=λhb hc e=>hc (e▸hb)
 have a1:S1 i ha:=D1.frame i _ _ s1 λb hb o e=>sa.extBut _ _ (ne hb Z.z1) e
 have a2:S2 i ha:=D2.frame i _ _ s2 λb hb o e=>sa.extBut _ _ (ne hb Z.z2) e
 have zi1:z≠i1:=λe=>Z.z1 (e▸Z.m1)
 have zi2:z≠i2:=λe=>Z.z2 (e▸Z.m2)
 rw[<-Array.forIn_toList]
 simp only[List.forIn_cons,List.forIn_nil]
 refine XA (XA (XA (wpAny_holding ?_)))
 show wpAny _ _ (Builtin.SmallTypes.nextOf (.ref i1)>>=_) _ _ _
 refine XA (D1.item i {s with heap:=ha} _ _ hi a1 λx hb tb hx b1 sb=>XB ?_)
 have b2:S2 i hb:=D2.frame i _ _ a2 λb hm o e=>sb.extBut _ _ (ne hm Z.a12) e
 refine XB ?_
 refine XA (XA (wpAny_holding ?_))
 show wpAny _ _ (Builtin.SmallTypes.nextOf (.ref i2)>>=_) _ _ _
 refine XA (D2.item i {s with heap:=hb,toks:=tb} _ _ hi b2 λy hd td hy d2 sd=>XB ?_)
 have d1:S1 (i+1) hd:=D1.frame _ _ _ b1 λb hm o e=>sd.extBut _ _ (ne hm Z.a21) e
 refine XB ?_
 refine XB ?_
 refine XA (wpAny_newTuple ?_ (show(2:Nat)<=sizeLine by decide))
 have hsz:hd.objs.size=s.heap.objs.size:=by rw[sd.1,sb.1,sa.1]
 have hzd:Qo hd z TI TO T true:=sd.extBut _ _ zi2 (sb.extBut _ _ zi1 hza)
 have up:∀c o,hd.get? c=some o->(hd.push {cls:=.type "tuple",data:=.seq #[x,y]}).get? c=some o:=λc o e=>XC _ e
 refine XB ⟨_,rfl,?_⟩
 show Q (.ref hd.objs.size) _
 have hTn:IsPair (hd.push {cls:=.type "tuple",data:=.seq #[x,y]}) hd.objs.size x y:=XF _ rfl
 rw[hsz] at hTn |-
 exact hQ x y _ td true hx hy (up _ _ hzd) (D1.frame _ _ _ d1 λb hm o e=>up _ o e) (D2.frame _ _ _ d2 λb hm o e=>up _ o e) hTn λc o n1 n3 n4 e=>up c o (sd.extBut _ _ n4 (sb.extBut _ _ n3 (sa.extBut _ _ n1 e)))
def u5 {T:Addr}{b:Bool}{Q:Fin->Shared->Prop}(D1:Draws prog w A i1 f1 n P1 S1)(Z:yc z TI TO i1 i2 f1 f2)
  (hz:Qo s.heap z TI TO T b) (hT:∃o,s.heap.get? T=some o) (hTI:IsPair s.heap TI (.ref i1) (.ref i2)) (s1:S1 n s.heap)
  (hE:∀h2 ex,(∀c o,c≠z->c≠i1->c≠i2->s.heap.get? c=some o->h2.get? c=some o)->(∃o,h2.get? ex=some o/\o.cls=.type "StopIteration")->E (.ref ex) {s with heap:=h2}):
  wpAny (model prog w) A (Builtin.«zip.__next__» ⟨[.ref z],[]⟩) Q E s:=by
 show wpAny _ _ (field (.ref z) 2>>=_) _ E s
 refine XA (wpAny_field hz rfl (x:=.bool false) rfl ?_)
 show wpAny _ _ (field (.ref z) 3>>=_) _ E s
 refine XA (wpAny_field hz rfl (x:=.ref TI) rfl ?_)
 refine XA (wpAny_seqItems hTI rfl ?_)
 show wpAny _ _ (Builtin.SmallTypes.ownedTupleIsFree (.ref z)>>=_) _ E s
 refine XA (Bm hz hT λha hza sa=>?_)
 simp only[Bool.false_eq_true,if_false]
 have ne:∀{b c:Addr} {l:List Addr},b∈l->c∉l->b≠c:=λhb hc e=>hc (e▸hb)
 have a1:S1 n ha:=D1.frame n _ _ s1 λb hb o e=>sa.extBut _ _ (ne hb Z.z1) e
 rw[<-Array.forIn_toList]
 simp only[List.forIn_cons,List.forIn_nil]
 refine XA (XA (XA (wpAny_holding ?_)))
 show wpAny _ _ (Builtin.SmallTypes.nextOf (.ref i1)>>=_) _ _ _
 refine XA (D1.done {s with heap:=ha} _ _ a1 λhb ex sb he=>?_)
 exact hE hb ex (λc o n1 n3 n4 e=>sb _ _ n3 (sa.extBut _ _ n1 e)) he
end
end L2
namespace PySem.F
def lz_entry_loop:entryFor table "dict.update.loop"=some Builtin.«dict.update.loop»:=entryFor_of_tree (by kernel_rfl)
end PySem.F
namespace L2
open PySem PySem.Spec PyProof.Rows
structure ZS (z TI TO i1 i2 l1 l2:Addr)(xs ys:Array Value)(i:Nat)(h:Heap):Prop where
 zip:IsZip h z TI TO .none\/∃T b,Qo h z TI TO T b/\(∃o,h.get? T=some o)/\T≠z/\T≠TO/\T≠i1/\T≠i2
 its:IsPair h TI (.ref i1) (.ref i2)
 own:∃a b,IsPair h TO a b
 s1:h.IsTupleIter i1 l1 i/\h.IsTuple l1 xs
 s2:h.IsTupleIter i2 l2 i/\h.IsTuple l2 ys
def ZS.frame {z TI TO i1 i2 l1 l2:Addr}{xs ys:Array Value}{i:Nat}{h h':Heap}(Z:ZS z TI TO i1 i2 l1 l2 xs ys i h)(k:∀b∈[z,TI,TO,i1,i2,l1,l2],∀o,h.get? b=some o->h'.get? b=some o)(al:∀b,(∃o,h.get? b=some o)->∃o,h'.get? b=some o):ZS z TI TO i1 i2 l1 l2 xs ys i h':=by
 obtain⟨a,b,⟨u,v,c⟩,d,e⟩:=Z
 refine⟨?_,k _ (by simp) _ b,⟨u,v,k _ (by simp) _ c⟩,⟨d.1.at λo q=>k _ (by simp) o q,d.2.at λo q=>k _ (by simp) o q⟩,⟨e.1.at λo q=>k _ (by simp) o q,e.2.at λo q=>k _ (by simp) o q⟩⟩
 rcases a with a | ⟨T,b,a,hT,r⟩
 ·exact .inl (k _ (by simp) _ a)
 ·exact .inr ⟨T,b,k _ (by simp) _ a,al _ hT,r⟩
section
variable {prog:Program}{w:World}{A:Around}{E:Value->Shared->Prop}{s:Shared}{z TI TO i1 i2 l1 l2:Addr}{xs ys:Array Value}
def Bj {i:Nat}{Q:Option Value->Shared->Prop}(hh:A.handled=none)(Z:yc z TI TO i1 i2 [i1,l1] [i2,l2])(h1:l1≠i1)(h2:l2≠i2)(hn:xs.size=ys.size)(hi:i<xs.size)(st:ZS z TI TO i1 i2 l1 l2 xs ys i s.heap)
  (hQ:∀T x y h' tk,xs[i]?=some x->ys[i]?=some y->s.heap.objs.size<=T->IsPair h' T x y->ZS z TI TO i1 i2 l1 l2 xs ys (i+1) h'->(∀b o,b∉[z,TO,i1,i2]->s.heap.get? b=some o->h'.get? b=some o)->Q (some (.ref T)) {s with heap:=h',toks:=tk}):
  wpAny (model prog w) A (pyNext (.ref z)) Q E s:=by
 have D1:=Rg (prog:=prog) (w:=w) (A:=A.in1) hh i1 l1 h1 xs
 have D2:=Rg (prog:=prog) (w:=w) (A:=A.in1) hh i2 l2 h2 ys
 rw[<-hn] at D2
 obtain⟨a,b,⟨u,v,c⟩,d,e⟩:=st
 have al:∀{h h':Heap},True:=λ{_ _}=>trivial
 have lt:∀{c o},s.heap.get? c=some o->s.heap.objs.size≠c:=λe=>Nat.ne_of_gt (XD e)
 obtain⟨o1,l1'⟩:=D1.live _ _ d
 obtain⟨o2,l2'⟩:=D2.live _ _ e
 rcases a with a | ⟨T,bb,a,hT,t1,t2,t3,t4⟩
 ·have hTy:s.TypeIs (.ref z) "zip":=⟨_,a,rfl⟩
  unfold pyNext
  refine XA (wpAny_attempt (wpAny_callSpecial?_slot (name:=Str.ofString "__next__") hTy F.slot_zip_next (wpAny_call_entry F.slot_zip_next hTy F.entry_zip_next
   (Bk D1 D2 Z hi a b c d e λx y h2 t2 hx hy z1 z2 z3 z4 z5 z6=>XB ?_) (F.args_zip_next_1 _))))
  refine hQ _ x y h2 t2 hx hy (XE _) z5 ⟨.inr ⟨_,false,z1,⟨_,z5⟩,lt a,lt c,lt l1',lt l2'⟩,z6 _ _ Z.tz Z.io Z.t1 Z.t2 b,⟨_,_,z2⟩,z3,z4⟩ λc o hc q=>?_
  simp only[List.mem_cons,List.not_mem_nil,or_false,not_or] at hc
  exact z6 c o hc.1 hc.2.1 hc.2.2.1 hc.2.2.2 q
 ·have hTy:s.TypeIs (.ref z) "zip":=⟨_,a,rfl⟩
  unfold pyNext
  refine XA (wpAny_attempt (wpAny_callSpecial?_slot (name:=Str.ofString "__next__") hTy F.slot_zip_next (wpAny_call_entry F.slot_zip_next hTy F.entry_zip_next
   (xQ (u:=u) (v:=v) D1 D2 Z hi a hT b d e λx y h2 tk b2 hx hy z1 z3 z4 z5 z6=>XB ?_) (F.args_zip_next_1 _))))
  obtain⟨oT,hoT⟩:=hT
  have Oi1:TO≠i1:=λe=>Z.o1 (e▸Z.m1)
  have Oi2:TO≠i2:=λe=>Z.o2 (e▸Z.m2)
  refine hQ _ x y h2 tk hx hy (XE _) z5 ⟨.inr ⟨T,b2,z1,⟨oT,z6 _ _ t1 t3 t4 hoT⟩,t1,t2,t3,t4⟩,z6 _ _ Z.tz Z.t1 Z.t2 b,⟨_,_,z6 _ _ Z.oz Oi1 Oi2 c⟩,z3,z4⟩ λc o hc q=>?_
  simp only[List.mem_cons,List.not_mem_nil,or_false,not_or] at hc
  exact z6 c o hc.1 hc.2.2.1 hc.2.2.2 q
def yy {Q:Option Value->Shared->Prop}(hh:A.handled=none)(Z:yc z TI TO i1 i2 [i1,l1] [i2,l2])(h1:l1≠i1)(st:ZS z TI TO i1 i2 l1 l2 xs ys xs.size s.heap)
  (hQ:∀h' tk,(∀b o,b∉[z,TO,i1,i2]->s.heap.get? b=some o->h'.get? b=some o)->Q none {s with heap:=h',toks:=tk}):
  wpAny (model prog w) A (pyNext (.ref z)) Q E s:=by
 have D1:=Rg (prog:=prog) (w:=w) (A:=A.in1) hh i1 l1 h1 xs
 obtain⟨a,b,⟨u,v,c⟩,d,e⟩:=st
 rcases a with a | ⟨T,bb,a,hT,t1,t2,t3,t4⟩
 ·have hTy:s.TypeIs (.ref z) "zip":=⟨_,a,rfl⟩
  unfold pyNext
  refine XA (wpAny_attempt (wpAny_callSpecial?_slot (name:=Str.ofString "__next__") hTy F.slot_zip_next (wpAny_call_entry F.slot_zip_next hTy F.entry_zip_next (yz D1 Z a b c d λh2 ex hk he=>?_) (F.args_zip_next_1 _))))
  obtain⟨o,ho,hc⟩:=he
  refine XA (wpAny_isInstance (T:="StopIteration") (b:=true) ⟨o,ho,hc⟩ isSubtype_stop ?_)
  refine XB (hQ h2 s.toks λc o hc q=>?_)
  simp only[List.mem_cons,List.not_mem_nil,or_false,not_or] at hc
  exact hk c o hc.1 hc.2.1 hc.2.2.1 hc.2.2.2 q
 ·have hTy:s.TypeIs (.ref z) "zip":=⟨_,a,rfl⟩
  unfold pyNext
  refine XA (wpAny_attempt (wpAny_callSpecial?_slot (name:=Str.ofString "__next__") hTy F.slot_zip_next (wpAny_call_entry F.slot_zip_next hTy F.entry_zip_next (u5 D1 Z a hT b d λh2 ex hk he=>?_) (F.args_zip_next_1 _))))
  obtain⟨o,ho,hc⟩:=he
  refine XA (wpAny_isInstance (T:="StopIteration") (b:=true) ⟨o,ho,hc⟩ isSubtype_stop ?_)
  refine XB (hQ h2 s.toks λc o hc q=>?_)
  simp only[List.mem_cons,List.not_mem_nil,or_false,not_or] at hc
  exact hk c o hc.1 hc.2.2.1 hc.2.2.2 q
def vp {knd:KeyKind prog w Z1}{d:Addr}(hh:A.handled=none)(Z:yc z TI TO i1 i2 [i1,l1] [i2,l2])(h1:l1≠i1)(h2:l2≠i2)(hn:xs.size=ys.size)(hd:d∉[z,TI,TO,i1,i2,l1,l2])(kk:Nat->Z1)(hk:∀i x,xs[i]?=some x->knd.is (kk i) x=true)(hsz:xs.size<=1000)
  {R:Result->Shared->Prop} (h₀:Heap) (hlt:∀b o,h₀.get? b=some o->b≠d/\b∉[z,TO,i1,i2])
  (hR:∀h' tk vs,(∀b o,h₀.get? b=some o->h'.get? b=some o)->h'.DictOf knd d vs->vs=((List.range xs.size).foldl (λa j=>stored a (kk j) ((ys[j]?).getD .none)) [])->R (.ok (.ret .none)) {s with heap:=h',toks:=tk}):
  ∀(m i:Nat) (h:Heap) (tk:Nat) (vs:List (Z1×Value)),xs.size-i=m->i<=xs.size->ZS z TI TO i1 i2 l1 l2 xs ys i h->(∀b o,h₀.get? b=some o->h.get? b=some o)->h.DictOf knd d vs->vs.length<=i->vs=((List.range i).foldl (λa j=>stored a (kk j) ((ys[j]?).getD .none)) [])-> 
   codeAny (model prog w) A (.builtin "dict.update.loop" ⟨[.ref d,.ref z,rawInt i,.none],[]⟩) R {s with heap:=h,toks:=tk}:=by
 intro m
 induction m with
 | zero=>
  intro i h tk vs hm hi st keep dd hl hv
  have ei:i=xs.size:=by omega
  subst ei
  refine codeAny_builtin PySem.F.lz_entry_loop ?_
  show wpAny _ _ (pyNext (.ref z)>>=_) _ _ _
  refine XA (yy (A:=A.under _) hh Z h1 st λh' tk' kp=>?_)
  show wpAny _ _ (Builtin.Dict.addKeywords d []>>=_) _ _ _
  refine XA (XB (XB ?_))
  refine hR h' tk' vs (λb o q=>kp b o (hlt b o q).2 (keep b o q)) (dd.at λo q=>kp _ o ?_ q) hv
  intro hm
  exact hd (by simp only[ZM,ZN,or_false] at hm |-;rcases hm with h | h | h | h<;>simp[h])
 | succ m ih=>
  intro i h tk vs hm hi st keep dd hl hv
  refine codeAny_builtin PySem.F.lz_entry_loop ?_
  show wpAny _ _ (pyNext (.ref z)>>=_) _ _ _
  have hdw:d∉[z,TO,i1,i2]:=λhm=>hd (by simp only[ZM,ZN,or_false] at hm |-;rcases hm with h | h | h | h<;>simp[h])
  refine XA (Bj (A:=A.under _) hh Z h1 h2 hn (by omega) st λT x y h' tk' hx hy hT hp st' kp=>?_)
  have dd':h'.DictOf knd d vs:=dd.at λo q=>kp _ o hdw q
  show wpAny _ _ (holding [.ref T] _>>=_) _ _ _
  refine XA (wpAny_holding ?_)
  refine XA (wpAny_tryCatch ?_)
  unfold Builtin.Dict.pairItems
  refine XA (wpAny_typeOf (T:="tuple") ⟨_,hp,rfl⟩ ?_)
  rw[XY (by decide)]
  refine XA (wpAny_seqItems hp rfl (XB ?_))
  show wpAny _ _ (holding [x,y] (dictSet d x y)) _ _ _
  refine wpAny_holding ?_
  unfold dictSet
  refine wpAny_holding (XA (knd.pyHash (hk i x hx) ?_))
  refine wpAny_dictSetHashed_pairs (hk i x hx) dd' (λh2 dd2 sb=>?_) (XN (show vs.length<=1000 by omega) (by decide))
  refine XB ⟨Code.quiet_builtin _ (by decide+kernel),?_⟩
  have nd:∀b∈[z,TI,TO,i1,i2,l1,l2],b≠d:=λb hb e=>hd (e▸hb)
  have ei:(rawInt ((i:Int)+1))=rawInt ((i+1:Nat):Int):=by congr 1
  rw[ei]
  refine ih (i+1) h2 _ (stored vs (kk i) y) (by omega) (by omega) (st'.frame (λb hb o q=>sb.extBut _ _ (nd b hb) q) λb hb=>?_) (λb o q=>sb.extBut _ _ (hlt b o q).1 (kp b o (hlt b o q).2 (keep b o q))) dd2 ?_ ?_
  ·obtain⟨o,q⟩:=hb
   by_cases e:b=d
   ·subst e;obtain⟨o',_,_,q',_⟩:=dd2;exact⟨o',q'⟩
   ·exact⟨o,sb.extBut _ _ e q⟩
  ·unfold stored
   split
   ·rw[XI];omega
   ·rw[List.length_append,List.length_singleton];omega
  ·rw[List.range_succ,List.foldl_append,<-hv]
   simp[hy]
def Go {knd:KeyKind prog w Z1}{Q:Value->Shared->Prop}(hh:A.handled=none)(Z:yc z TI TO i1 i2 [i1,l1] [i2,l2])(h1:l1≠i1)(h2:l2≠i2)(hn:xs.size=ys.size)(kk:Nat->Z1)(hk:∀i x,xs[i]?=some x->knd.is (kk i) x=true)(hsz:xs.size<=1000)
  (h₀:Heap) (hlt:∀b o,h₀.get? b=some o->b∉[z,TO,i1,i2]) (keep:∀b o,h₀.get? b=some o->s.heap.get? b=some o) (hz0:IsZip s.heap z TI TO .none) (st:ZS z TI TO i1 i2 l1 l2 xs ys 0 s.heap)
  (hQ:∀h' tk,(∀b o,h₀.get? b=some o->h'.get? b=some o)->h'.DictOf knd s.heap.objs.size ((List.range xs.size).foldl (λa j=>stored a (kk j) ((ys[j]?).getD .none)) [])->Q (.ref s.heap.objs.size) {s with heap:=h',toks:=tk}):
  wpAny (model prog w) A (call (.type "dict") [.ref z]) Q E s:=by
 refine callType_codes (Q₁:=λobj s₁=>obj=.ref s.heap.objs.size/\s₁={s with heap:=s.heap.push {cls:=.type "dict",data:=.dict #[]}}) PySem.F.kt_called_dict (PySem.F.kt_typeCall_dict_1 _) PySem.F.entry_dict_init (kt_code_dict_new _ ⟨rfl,rfl⟩) ?_
 rintro obj s₁ ⟨rfl,rfl⟩
 have hnew:(s.heap.push {cls:=.type "dict",data:=.dict #[]}).DictOf knd s.heap.objs.size []:=Heap.DictOf.new s.heap
 have hps:∀b o,s.heap.get? b=some o->(s.heap.push {cls:=.type "dict",data:=.dict #[]}).get? b=some o:=λb o q=>XC _ q
 have st1:ZS z TI TO i1 i2 l1 l2 xs ys 0 (s.heap.push {cls:=.type "dict",data:=.dict #[]}):=st.frame (λb _ o q=>hps b o q) λb ⟨o,q⟩=>⟨o,hps b o q⟩
 refine⟨hnew.typeIs,PySem.F.args_dict_init_2 _ _,?_⟩
 unfold Builtin.«dict.__init__»
 refine XA ?_
 unfold Builtin.Dict.selfAndRest
 refine XA (wpAny_notOrdered_dict hnew.typeIs ?_)
 show wpAny _ _ (pure (s.heap.objs.size,[Value.ref z])) _ _ _
 refine XB ?_
 show wpAny _ _ (Builtin.Dict.updateFrom "dict.__init__" s.heap.objs.size (.ref z) [] .none) _ _ _
 have hz:=hps _ _ hz0
 unfold Builtin.Dict.updateFrom
 refine XA (wpAny_typeOf (T:="zip") ⟨_,hz,rfl⟩ ?_)
 rw[XY (by decide)]
 refine XA (wY hz hh λh' tk' kp=>?_)
 rw[XY (by decide)]
 have st2:ZS z TI TO i1 i2 l1 l2 xs ys 0 h':=st1.frame (λb _ o q=>kp b o q) λb ⟨o,q⟩=>⟨o,kp b o q⟩
 refine XA (wpAny_rule ?_)
 refine XA (wpAny_pyIter_zip (kp _ _ hz) ?_)
 refine XB ⟨Code.quiet_builtin _ (by decide+kernel),?_⟩
 have sd:∀b o,s.heap.get? b=some o->b≠s.heap.objs.size:=λb o q=>XH (XD q)
 have hd:s.heap.objs.size∉[z,TI,TO,i1,i2,l1,l2]:=by
  obtain⟨_,b,⟨u,v,c⟩,d,e⟩:=st
  obtain⟨o1,e1,_⟩:=d.1
  obtain⟨o2,e2,_⟩:=e.1
  obtain⟨o3,e3,_⟩:=d.2
  obtain⟨o4,e4,_⟩:=e.2
  simp only[List.mem_cons,List.not_mem_nil,or_false,not_or]
  exact⟨(sd _ _ hz0).symm,(sd _ _ b).symm,(sd _ _ c).symm,(sd _ _ e1).symm,(sd _ _ e2).symm,(sd _ _ e3).symm,(sd _ _ e4).symm⟩
 refine vp (A:=A.in1) (s:=s) (knd:=knd) hh Z h1 h2 hn hd kk hk hsz h₀ (λb o q=>⟨sd b o (keep b o q),hlt b o q⟩) (λh3 tk3 vs k3 d3 hv=>?_) xs.size 0 h' tk' [] rfl (XO _) st2 (λb o q=>kp b o (hps b o (keep b o q))) (hnew.at λo q=>kp _ o q) (XE _) rfl
 subst hv
 exact⟨rfl,hQ h3 tk3 k3 d3⟩
end
def Ku {α:Type}(put:List (Z1×α)->Z1->α->List (Z1×α))(ks:List Z1)(ys:List α):List (Z1×α):=(ks.zip ys).foldl (λa kv=>put a kv.1 kv.2) []
def sM {α:Type}{put:List (Z1×α)->Z1->α->List (Z1×α)}(hp:∀a k v,(put a k v).length<=a.length+1)(ks:List Z1)(ys:List α):(Ku put ks ys).length<=ks.length:=by
 have key:∀(l:List (Z1×α)) (acc:List (Z1×α)),(l.foldl (λa kv=>put a kv.1 kv.2) acc).length<=acc.length+l.length:=by
  intro l
  induction l with
  | nil=>intro acc;simp
  | cons x l ih=>intro acc;have h1:=ih (put acc x.1 x.2);have h2:=hp acc x.1 x.2;rw[List.foldl_cons,YF];omega
 have h:=key (ks.zip ys) []
 rw[List.length_zip] at h
 unfold Ku
 simp only[List.length_nil] at h
 omega
def lT (K:W.Frag)(ta:TA):TE:=λσ H Q=>ta σ H λvs H1=>∃(l1 l2:Addr) (ks:List Z1) (ys:List V),vs=[.ref l1,.ref l2]/\V6 K H1 l1 (ks.map kV)/\V6 K H1 l2 ys/\ks.length=ys.length/\ks.length<=1000/\
 ∀p,H1 p=none->Q (.ref p) (Yq H1 p (.dK (Ku Xi ks ys)))
def pK {ks:List Z1}{ys:List V}{us:List Value}(hl:ks.length=ys.length)(rv:Zz ys us):KV (Ku Xi ks ys) ((List.range ks.length).foldl (λa j=>stored a ((ks[j]?).getD (.inl 0)) ((us.toArray[j]?).getD .none)) []):=by
 have key:∀i,i<=ks.length->KV (((ks.zip ys).take i).foldl (λa kv=>Xi a kv.1 kv.2) []) ((List.range i).foldl (λa j=>stored a ((ks[j]?).getD (.inl 0)) ((us.toArray[j]?).getD .none)) []):=by
  intro i
  induction i with
  | zero=>intro _;exact .nil
  | succ i ih=>
   intro hi
   have hk:ks[i]?=some ks[i]:=by simp[show i<ks.length by omega]
   have hy:ys[i]?=some (ys[i]'(by omega)):=by simp[show i<ys.length by omega]
   obtain⟨u,hu,ru⟩:=rv.get hy
   have hz:(ks.zip ys)[i]?=some (ks[i],ys[i]'(by omega)):=by rw[List.getElem?_zip_eq_some];exact⟨hk,hy⟩
   have hu':us.toArray[i]?=some u:=by simpa using hu
   rw[List.range_succ,List.foldl_append,YD,hz,Option.toList_some,List.foldl_append]
   simp only[List.foldl_cons,List.foldl_nil,hk,hu',Option.getD_some]
   exact(ih (by omega)).put _ ru
 have h:=key ks.length (XE _)
 rw[List.take_of_length_le (by rw[List.length_zip];omega)] at h
 exact h
section
variable {X:Cx}
def Do {a c:Expr}{ta:TA}{p pos p2 pos2:Pos}(hc:X.calm=true)(hg:Gl X "dict")(hm:X.mg "dict"=none)(hg2:Gl X "zip")(hm2:X.mg "zip"=none)(ha:PA X [a,c] ta)(hs:starEach [a,c] X.env=(false,eval a X.env)::starEach [c] X.env:=by rfl)(hp:(backTo pos2 (starEach [c] X.env)).any (·.1)=false:=by rfl)
  (hs2:starEach [.Call (.Name "zip" p2) [a,c] [] pos2] X.env=[(false,eval (.Call (.Name "zip" p2) [a,c] [] pos2) X.env)]:=by rfl) (hb:bootBuiltins "zip"=some (.type "zip"):=by decide+kernel) (hb2:bootBuiltins "dict"=some (.type "dict"):=by decide+kernel):
  PE X (.Call (.Name "dict" p) [.Call (.Name "zip" p2) [a,c] [] pos2] [] pos) (lT X.K ta):=by
 intro pins s σ H Q I h
 refine Call_ (Uj I hg hm hb2 (PyProof.Rows.callWith_type1 ?_ hs2 rfl))
 rw[hs2]
 show wpAny _ _ (spliced ((false,eval (.Call (.Name "zip" p2) [a,c] [] pos2) X.env)::backTo pos [])) _ _ s
 refine Calls.spliced_cons (Call_ (Uj I hg2 hm2 hb (PyProof.Rows.callWith_type1 (Jp (ha pos2 pins s σ H _ I h) λus s1 ⟨vs,H1,I1,r1,q1⟩=>?_) hs hp)))
 obtain⟨l1,l2,ks,ys,rfl,hq1,hq2,hlen,hsz,q⟩:=q1
 obtain⟨u,v,rfl,ru,rv⟩:=r1.two
 cases ru
 cases rv
 obtain⟨its1,rv1,p1,_⟩:=I1.tuple hq1
 obtain⟨its2,rv2,p2',_⟩:=I1.tuple hq2
 have lt1:l1<s1.heap.objs.size:=by obtain⟨_,e,_⟩:=p1;exact XD e
 have lt2:l2<s1.heap.objs.size:=by obtain⟨_,e,_⟩:=p2';exact XD e
 have n1:its1.toArray.size=ks.length:=by rw[XJ,<-rv1.length,XI]
 have n2:its2.toArray.size=ys.length:=by rw[XJ,<-rv2.length]
 refine Qm false false p1 p2' λh2 N=>?_
 refine Calls.spliced_nil ?_
 generalize hk:s1.heap.objs.size=k at N lt1 lt2
 have Z:=O7 lt1 lt2
 have st:ZS (k+4) (k+2) (k+3) k (k+1) l1 l2 its1.toArray its2.toArray 0 h2:=by
  refine⟨.inl (hk▸N.zip),hk▸N.its,⟨_,_,hk▸N.own⟩,⟨⟨_,hk▸N.i1,rfl,rfl⟩,Heap.IsTuple.at (show s1.heap.IsTuple l1 its1.toArray from p1) λo q=>N.keep _ o q⟩,⟨⟨_,hk▸N.i2,rfl,rfl⟩,Heap.IsTuple.at (show s1.heap.IsTuple l2 its2.toArray from p2') λo q=>N.keep _ o q⟩⟩
 have hkk:∀i x,its1.toArray[i]?=some x->(Yx X.prog X.w).is ((ks[i]?).getD (.inl 0)) x=true:=λi x hx=>by
  have hi:i<ks.length:=by
   have:=(Array.getElem?_eq_some_iff.mp hx).1
   omega
  have hk':ks[i]?=some ks[i]:=by simp[hi]
  have hm':(ks.map kV)[i]?=some (kV ks[i]):=by rw[XM,hk'];rfl
  obtain⟨u,hu,ru⟩:=rv1.get hm'
  have:u=x:=by
   have e:its1[i]?=some x:=by simpa using hx
   rw[hu] at e;exact YH e
  subst this
  rw[hk']
  exact Mg ru
 have old:∀b o,s1.heap.get? b=some o->b∉[k+4,k+3,k,k+1]:=λb o q hb=>by
  have:b<k:=hk▸XD q
  simp only[ZM,ZN,or_false] at hb
  rcases hb with e | e | e | e
  ·rw[e] at this;exact Nat.not_lt_of_le (Nat.le_add_right k 4) this
  ·rw[e] at this;exact Nat.not_lt_of_le (Nat.le_add_right k 3) this
  ·rw[e] at this;exact Nat.lt_irrefl k this
  ·rw[e] at this;exact Nat.not_lt_of_le (Nat.le_add_right k 1) this
 refine Go (s:={s1 with heap:=h2}) (knd:=Yx X.prog X.w) (I.ok.hd hc) Z (XH lt1) (XH (Nat.lt_succ_of_lt lt2)) (by omega) (λj=>(ks[j]?).getD (.inl 0)) hkk (by omega) s1.heap old N.keep (hk▸N.zip) st λh3 tk3 keep dd=>?_
 have hp3:s1.heap.objs.size<=h2.objs.size:=by
  have:=XD (hk▸N.zip:IsZip h2 (k+4) (k+2) (k+3) .none)
  rw[hk];exact XN (Nat.le_add_right _ _) (Nat.le_of_lt this)
 rw[n1] at dd
 have big:(h2.objs.size==sysModules)=false:=beq_eq_false_iff_ne.mpr (Ne.symm (XH (XG I1.big hp3)))
 have zl:(Ku Xi ks ys).length<=sizeLine:=by
  have:=sM (α:=V) (put:=Xi) (λa k v=>by unfold Xi;split<;>simp) ks ys
  exact XN (XN this hsz) (by decide)
 exact⟨.ref _,_,I1.laid (h':=h3) (t':=tk3) keep hp3 (M0 zl big (pK hlen rv2) dd),rfl,q _ (I1.hok.fresh hp3)⟩
end
end L2
namespace WL
open PySem PySem.Spec PyProof.Rows L2
def kE (a:WA):WE:=λτ C Q χ=>a τ C (λvs C1=>∃(zs:List Str) (ts:List T),vs=[.tup (zs.map T.str),.tup ts]/\zs.length=ts.length/\zs.length<=1000/\∀p,C1 p=none->Q (.ref p) (up C1 p (.dic (Ku Ji (zs.map Sum.inr) ts)))) χ
def Ki {K:W.Frag}{H:Hp}:∀{zs:List Str} {ys:List V},Reps K H ys (zs.map T.str)->ys=(zs.map (Sum.inr:Str->Z1)).map kV
 | [],_,h=>by rw[J4 h];rfl
 | z::zs,_,h=>by obtain⟨y,r,rfl,a,b⟩:=Yg h;rw[Jl a,Ki b];rfl
def qN {K:W.Frag}{H:Hp}{ks:List Z1}{ys:List V}{ts:List T}(r:Reps K H ys ts):PR K H (Ku Xi ks ys) (Ku Ji ks ts):=by
 unfold Ku
 have key:∀(ks:List Z1) (ys:List V) (ts:List T) (a:List (Z1×V)) (b:List (Z1×T)),Reps K H ys ts->PR K H a b->PR K H ((ks.zip ys).foldl (λa kv=>Xi a kv.1 kv.2) a) ((ks.zip ts).foldl (λa kv=>Ji a kv.1 kv.2) b):=by
  intro ks
  induction ks with
  | nil=>intro ys ts a b r h;exact h
  | cons k ks ih=>
   intro ys ts a b r h
   cases ts with
   | nil=>rw[J4 r];exact h
   | cons t ts=>
    obtain⟨y,r',rfl,q,q'⟩:=Yg r
    simp only[List.zip_cons_cons,List.foldl_cons]
    exact ih _ _ _ _ q' (PR.put h q)
 exact key ks ys ts [] [] r .nil
section
variable {X:Cx}{a c:Expr}{wA:WA}{p pos p2 pos2:Pos}
def m7 (hc:X.calm=true)(hg:Gl X "dict")(hm:X.mg "dict"=none)(hg2:Gl X "zip")(hm2:X.mg "zip"=none)(ha:yi X [a,c] wA)(hs:starEach [a,c] X.env=(false,eval a X.env)::starEach [c] X.env:=by rfl)(hp:(backTo pos2 (starEach [c] X.env)).any (·.1)=false:=by rfl)
  (hs2:starEach [.Call (.Name "zip" p2) [a,c] [] pos2] X.env=[(false,eval (.Call (.Name "zip" p2) [a,c] [] pos2) X.env)]:=by rfl):Jd X (.Call (.Name "dict" p) [.Call (.Name "zip" p2) [a,c] [] pos2] [] pos) (kE wA):=by
 obtain⟨t,p1,s⟩:=ha
 refine⟨_,Do hc hg hm hg2 hm2 p1 hs hp hs2,λF H C σ τ Q Q' χ R S h q=>?_⟩
 refine s F H C σ τ _ _ χ R S h λxs vs H1 C1 R1 t1 rs h1=>?_
 obtain⟨zs,ts,rfl,hl,hz,h1⟩:=h1
 obtain⟨x1,r1,rfl,q1,rs⟩:=Yg rs
 obtain⟨x2,r2,rfl,q2,rs⟩:=Yg rs
 cases J4 rs
 obtain⟨a1,ys1,rfl,sq1,e1⟩:=Z6 q1
 obtain⟨a2,ys2,rfl,sq2,e2⟩:=Z6 q2
 cases Ki e1
 refine⟨a1,a2,zs.map Sum.inr,ys2,rfl,sq1,sq2,by rw[XI,e2.length];exact hl,by rw[XI];exact hz,λpp hpp=>?_⟩
 have tn:Tx H1 (Yq H1 pp (.dK (Ku Xi (zs.map Sum.inr) ys2))):=Tx.new hpp
 exact q _ _ _ _ (R1.new (o:=.dic (Ku Ji (zs.map Sum.inr) ts)) hpp ⟨_,Z9,N5 tn (qN e2)⟩) (t1.trans tn) Y2 (h1 pp (R1.free hpp))
end
end WL
namespace L2
open PySem PySem.Spec PyProof.Rows
section
variable {X:Cx}
def kS (te:TE):TE:=λσ H Q=>te σ H λx H1=>(∃z:Str,x=.str z/\z.length<=sizeLine/\Q (.str z) H1)\/∃i:Int,x=.int i/\i.natAbs.log2<1920/\Q (.str (toString i)) H1
def tJ:List TE->Str->TE
 | [],out=>λ_ H Q=>Q (.str out) H
 | t::ts,out=>λσ H Q=>t σ H λx H1=>∃z:Str,x=.str z/\(out++z).length<=sizeLine/\tJ ts (out++z) σ H1 Q
inductive oK (X:Cx):List Expr->List TE->Prop
 | nil:oK X [] []
 | cons {e:Expr} {es:List Expr} {t:TE} {ts:List TE} (h:PE X e t) (r:oK X es ts):oK X (e::es) (t::ts)
end
end L2
namespace WL
open PySem PySem.Spec PyProof.Rows L2
def eJ:List WE->Str->WE
 | [],out=>λ_ C Q _=>Q (.str out) C
 | w::ws,out=>λτ C Q χ=>w τ C (λv C1=>∃z:Str,v=.str z/\(out++z).length<=sizeLine/\eJ ws (out++z) τ C1 Q χ) χ
section
variable {X:Cx}{e k v:Expr}{we wk wv:WE}{pos:Pos}
def ie (X:Cx)(es:List Expr)(ws:List WE):Prop:=∃ts,oK X es ts/\∀(out:Str),Uz X.K (tJ ts out) (eJ ws out)
def mz (k v:WE):WE:=λτ C Q χ=>∀p,C p=none->k τ (up C p (.dic [])) (λx C1=>v τ C1 (λy C2=>∃kk,kT x=some kk/\C2 p=some (.dic [])/\Q (.ref p) (up C2 p (.dic [(kk,y)]))) χ) χ
end
end WL
namespace L2
open PySem PySem.Spec PyProof.Rows
section
variable {X:Cx}
end
end L2
namespace WL
open PySem PySem.Spec PyProof.Rows L2
section
variable {X:Cx}
end
end WL
namespace L2
open PySem PySem.Spec PyProof.Rows
open AutoSeq1 (wpAny_loadPart')
section
variable {prog:Program}{w:World}{A:Around}{E:Value->Shared->Prop}{s:Shared}
end
section
variable {X:Cx}{elts:List Expr}{ek:Nat}{epos:Pos}
end
end L2
namespace WL
open PySem PySem.Spec PyProof.Rows L2
def km (z:Nat)(xs:List T):List T:=xs.zipIdx.map λc=>T.tup [.int ((c.2+z:Nat):Int),c.1]
section
variable {X:Cx}{a:Expr}{wA:WA}{p pos kp kc:Pos}{j:Nat}
end
section
variable {X:Cx}
end
end WL
namespace L2
open PySem PySem.Spec PyProof.Rows
section
variable {X:Cx}{pins:List (Addr×Obj)}{σ:St}{H:Hp}{s:Shared}{a b:Addr}{kvs more:List (Z1×V)}{A:Around}{E:Value->Shared->Prop}
def xj {Q:Value->Shared->Prop}(I:Zp X pins σ H s)(e:H a=some (.dK kvs))(e2:H b=some (.dK more))(hab:a≠b)(hsz:kvs.length+more.length<=sizeLine)(h:∀s',Zp X pins σ (Yq H a (.dK (Qg kvs more))) s'->Q .none s'):
  wpAny (model X.prog X.w) A (call (.builtin "dict.update") [.ref a,.ref b]) Q E s:=by
 obtain⟨z,hd,vs,rel,dd⟩:=An I.hok e
 obtain⟨z2,hd2,vs2,rel2,dd2⟩:=An I.hok e2
 refine call_meetsIn PySem.F.slot_dict_update dd.typeIs PySem.F.entry_dict_update (PySem.F.args_dict_update_2 _ _) (meets_dict_update (Yx X.prog X.w) a b hab hd2) ⟨vs,vs2,dd,dd2,by rw[<-rel.length,<-rel2.length];exact hsz,λh' dd' _ hs=>h _ ?_⟩
 have he:∃q,h'.get? a=some q:=let ⟨q,_,_,hq,_⟩:=dd';⟨q,hq⟩
 exact Nl (t':=s.toks) I (by rw[e];exact True.intro) hs he (M0 (XN (Rw more kvs) hsz) hd (KV.merge rel2 rel) dd')
end
section
variable {X:Cx}{o e:Expr}{apos cpos:Pos}{td ty:TE}
def qo (td ty:TE):TE:=λσ H Q=>td σ H λx H1=>∃a,x=.ref a/\oP H1 a/\ty σ H1 λy H2=>∃b kvs more,y=.ref b/\a≠b/\H2 a=some (.dK kvs)/\H2 b=some (.dK more)/\kvs.length+more.length<=sizeLine/\Q .non (Yq H2 a (.dK (Qg kvs more)))
def wL (ho:PE X o td)(he:PE X e ty)(m:M1 X o "update" apos e cpos):PE X (.Call (.Attribute o "update" apos) [e] [] cpos) (qo td ty):=by
 intro pins s σ H Q I h
 refine wpAny_Call_method m.base m.few m.line PySem.F.plainAttrs_dict PySem.F.slot_dict_update PySem.F.type_dict_update (Jp (ho pins s σ H _ I h) λu s1 ⟨x,H1,I1,rx,a,ex,d,q1⟩=>?_)
 subst ex
 obtain rfl:u=Value.ref a:=rx
 obtain⟨t1,t2,_⟩:=jE I1 d
 refine⟨t1,t2,?_⟩
 rw[m.trees]
 refine Calls.callWith_builtin rfl (Calls.evalArgs_plain (Calls.spliced_cons (Jp (he pins s1 σ H1 _ I1 q1) λiv s2 ⟨y,H2,I2,ry,b,kvs,more,ey,hab,ea,eb,hz,q2⟩=>Calls.spliced_nil ?_)))
 subst ey
 obtain rfl:iv=Value.ref b:=ry
 exact xj I2 ea eb hab hz λs3 I3=>⟨.non,_,I3,rfl,q2⟩
end
end L2
namespace WL
open PySem PySem.Spec PyProof.Rows L2
def Sq (kvs more:List (Z1×T)):List (Z1×T):=more.foldl (λacc kv=>Ji acc kv.1 kv.2) kvs
def PR.merge {K:W.Frag}{H:Hp}:∀{ms:List (Z1×V)} {mw:List (Z1×T)} {ks:List (Z1×V)} {kw:List (Z1×T)},PR K H ms mw->PR K H ks kw->PR K H (Qg ks ms) (Sq kw mw):=by
 intro ms mw ks kw r
 induction r generalizing ks kw with
 | nil=>intro q;exact q
 | @cons p q ps qs h t ih=>
  intro r0
  have e:PR K H (Xi ks p.1 p.2) (Ji kw q.1 q.2):=by rw[<-h.1];exact PR.put r0 h.2
  exact ih e
abbrev kG:=Sw->Hw->(List (Z1×T)->Hw->Prop)->WX->Prop
section
variable {X:Cx}{pos apos cpos:Pos}{k v o e:Expr}{ks:List (Option Expr)}{vs:List Expr}{wk wv wo we:WE}{w:kG}
def pI (o e:WE):WE:=λτ C Q χ=>o τ C (λx C1=>(∃a kvs,x=.ref a/\C1 a=some (.dic kvs))/\e τ C1 (λy C2=>∃a b kvs more,x=.ref a/\y=.ref b/\a≠b/\C2 a=some (.dic kvs)/\C2 b=some (.dic more)/\kvs.length+more.length<=sizeLine/\Q .non (up C2 a (.dic (Sq kvs more)))) χ) χ
def sR (ho:Jd X o wo)(he:Jd X e we)(m:M1 X o "update" apos e cpos):Jd X (.Call (.Attribute o "update" apos) [e] [] cpos) (pI wo we):=by
 obtain⟨ta,p1,s1⟩:=ho
 obtain⟨tb,p2,s2⟩:=he
 refine⟨_,wL p1 p2 m,λF H C σ τ Q Q' χ R S h q=>?_⟩
 refine s1 F H C σ τ _ _ χ R S h λx v H1 C1 R1 t1 rx h1=>?_
 obtain⟨⟨l,kvs0,rfl,hC0⟩,h1⟩:=h1
 cases Zs rx
 obtain⟨ks0,hH0,_⟩:=R1.dic hC0
 refine⟨l,rfl,.inl ⟨ks0,.inl hH0⟩,?_⟩
 refine s2 F H1 C1 σ τ _ _ χ R1 (S.tx t1) h1 λy u H2 C2 R2 t2 ry h2=>?_
 obtain⟨a,b,kvs,more,e1,rfl,hab,hCa,hCb,hz,h3⟩:=h2
 cases e1
 cases Zs ry
 obtain⟨ka,hHa,pa⟩:=R2.dic hCa
 obtain⟨kb,hHb,pb⟩:=R2.dic hCb
 obtain⟨R3,t3⟩:=R2.putD hCa (PR.merge pb pa)
 exact⟨b,ka,kb,rfl,hab,hHa,hHb,by rw[pa.length,pb.length];exact hz,q _ _ _ _ R3 ((t1.trans t2).trans t3) Qx h3⟩
end
end WL
namespace L2
open PySem PySem.Spec PyProof.Rows
section
variable {X:Cx}
end
end L2
namespace WL
open PySem PySem.Spec PyProof.Rows L2
section
variable {X:Cx}
end
section
variable {P:Program}{w:World}{K:W.Frag}{mg:Str->Option Value}{base h:Heap}{x q cn:Str}{st:Stmt}{ps:List Str}{pr:List Df}{n i j ar:Nat}{sp:Sp}{Cl:Addr}
def Fg (K:W.Frag)(x:Str)(st:Stmt):Prop:=∃f fd,W.nsIn K mainGlobals x=some (some (.ref f))/\Bf K x x st f fd
def Fh (K:W.Frag)(Cl:Addr)(x q:Str)(st:Stmt):Prop:=∃f fd,yk K Cl x f/\Bf K x q st f fd
def Ld (K:W.Frag)(mg:Str->Option Value)(x:Str)(st:Stmt)(ps:List Str):Prop:=∃f fd,Bf K x x st f fd/\Xv K fd ps []/\mg x=some (.ref f)
def Lm (K:W.Frag)(Cl:Addr)(x q:Str)(st:Stmt)(ps:List Str):Prop:=∃f fd,yk K Cl x f/\Bf K x q st f fd/\Xv K fd ps []
def Bq (x q:Str)(st:Stmt)(ps:List Str):Prop:=∀(kV doc pm:Value) (an:Option Addr) (cdv ct:Value) (us:List Value),us.length=ps.length->bindArgs (W.fnOf x q (Tk st) (X9 st) (Zn st) .none kV doc pm an cdv ct) ⟨us,[]⟩=pure (ps.zip us)
def Jv (X:K.In h)(G:h.Ns mainGlobals mg)(l:Fg K x st)(hb:Bq x x st ps):Ld K mg x st ps:=by
 obtain⟨f,fd,a,F⟩:=l
 exact⟨f,fd,F,F.binds hb,W.mg_of X G a⟩
def Md (L:Ld K mg x st ps):Ca P w K mg base 0 x ps (spW K pr 0 i):=by
 obtain⟨f,fd,F,B,M⟩:=L
 exact v0 F B M
def Mc (L:Ld K mg x st ps)(G:∀{f fd},Bf K x x st f fd->Vv P w K mg base CX0 n f fd ps sp):Ca P w K mg base n x ps sp:=by
 obtain⟨f,fd,F,B,M⟩:=L
 exact v2 F B M (G F)
def Mb (l:Fh K Cl x q st)(hb:Bq x q st ps):Lm K Cl x q st ps:=by
 obtain⟨f,fd,a,F⟩:=l
 exact⟨f,fd,a,F,F.binds hb⟩
def tV (k:Kl K mg cn Cl)(L:Lm K Cl x q st ps):Cm P w K mg base 0 cn x ps (spW K pr 0 i):=by
 obtain⟨f,fd,M,F,B⟩:=L
 exact um k M zQ B
def tU (k:Kl K mg cn Cl)(L:Lm K Cl x q st ps)(G:∀{f fd},Bf K x q st f fd->Vv P w K mg base CX0 n f fd ps sp):Cm P w K mg base n cn x ps sp:=by
 obtain⟨f,fd,M,F,B⟩:=L
 exact um k M (G F) B
def ko (hj:pr[j]?=some ⟨ar,ar,zd cn i⟩)(k:Kl K mg cn Cl)(mk:W.makesIn K Cl=true)(kc:W.keepIn K (.ref Cl)=true)(L:Lm K Cl "__init__" q st ps):Cn P w K mg base 0 pr cn i j:=by
 obtain⟨f,fd,M,F,B⟩:=L
 exact vv hj k ⟨mk,M.at_,M.fn,kc⟩
def cP {X:Cx}{e:Expr}{wA:WA}{k:Nat}{Q:Calls}(hP:Ye pr k=Q)(h:Jd X e (Sv (Ye pr k) i wA)):Jd X e (Sv Q i wA):=hP▸h
def mP {X:Cx}{e:Expr}{wA:WA}{wo:WE}{k:Nat}{m:Str}{tb:List (Str×Nat)}{Q:Calls}(hP:Ye pr k=Q)(h:Jd X e (Q7 (Ye pr k) tb m wo wA)):Jd X e (Q7 Q tb m wo wA):=hP▸h
end
end WL
namespace L2
open PySem PySem.Spec PyProof.Rows
def u0:typeLookup (.type "zip") "__len__"=pure none:=by rw[typeLookup_type];rw[builtinLookup_eq_fast];kernel_rfl
def xO:typeLookup (.type "zip") "__length_hint__"=pure none:=by rw[typeLookup_type];rw[builtinLookup_eq_fast];kernel_rfl
abbrev Be (h:Heap)(S:Addr)(acc:Array Value):Prop:=∃c,h.get? S=some {cls:=.type "list",data:=.seq acc c}
section
variable {prog:Program}{w:World}{A:Around}{E:Value->Shared->Prop}{s:Shared}{z TI TO i1 i2 l1 l2:Addr}{xs ys:Array Value}
def jK {Q:Bool->Shared->Prop}(hT:s.TypeIs (.ref z) "zip")(h:Q true s):wpAny (model prog w) A (Builtin.List.listLengthHint (.ref z)) Q E s:=by
 unfold Builtin.List.listLengthHint
 refine XA (wpAny_specialOf hT u0 ?_)
 show wpAny _ A (specialOf (Value.ref z) (Str.ofString "__length_hint__")>>=_) _ _ _
 refine XA (wpAny_specialOf hT xO ?_)
 exact XB h
def Qt {S:Addr}{acc:Array Value}{f:Array Value->Array Value}{Q:Unit->Shared->Prop}(hS:Be s.heap S acc)(h1:acc.size<=sizeLine)(h2:(f acc).size<=sizeLine+1)
  (h:∀h',Be h' S (f acc)->Heap.SameBut S s.heap h'->Q () {s with heap:=h'}):wpAny (model prog w) A (updateSeq S f) Q E s:=by
 obtain⟨c,hS⟩:=hS
 refine wpAny_updateSeq hS rfl (h _ ⟨_,Heap.get?_update_self (Obj.mapSeq f) hS rfl⟩ ⟨Heap.size_update ..,λb hb=>Heap.get?_update_other _ _ (Ne.symm hb)⟩) h1 h2
abbrev E2 (h:Heap)(as:List Addr)(ps:List (Value×Value)):Prop:=Paired (λa p=>IsPair h a p.1 p.2) as ps
def E2.at {h h':Heap}{as:List Addr}{ps:List (Value×Value)}(p:E2 h as ps):(∀a∈as,∀o,h.get? a=some o->h'.get? a=some o)->E2 h' as ps:=by
 induction p with
 | nil=>exact λ_=>.nil
 | cons r t ih=>exact λk=>.cons (k _ (List.mem_cons_self ..) _ r) (ih λa ha=>k a (XV _ ha))
def E2.app {h:Heap}{as:List Addr}{ps:List (Value×Value)}{a:Addr}{x y:Value}(p:E2 h as ps)(q:IsPair h a x y):E2 h (as++[a]) (ps++[(x,y)]):=by
 induction p with
 | nil=>exact .cons q .nil
 | cons r t ih=>exact .cons r ih
def E2.mem {h:Heap}{as:List Addr}{ps:List (Value×Value)}(p:E2 h as ps){a:Addr}(q:a∈as):∃o,h.get? a=some o:=by
 induction p with
 | nil=>cases q
 | cons r t ih=>
  rcases List.mem_cons.mp q with rfl | q
  ·exact⟨_,r⟩
  ·exact ih q
def ZS.alive {i:Nat}{h:Heap}(st:ZS z TI TO i1 i2 l1 l2 xs ys i h):∀b∈[z,TO,i1,i2],∃o,h.get? b=some o:=by
 obtain⟨a,b,⟨u,v,c⟩,⟨⟨o1,d,_⟩,_⟩,⟨⟨o2,e,_⟩,_⟩⟩:=st
 intro x hx
 simp only[ZM,ZN,or_false] at hx
 rcases hx with rfl | rfl | rfl | rfl
 ·rcases a with a | ⟨T,b,a,_⟩
  ·exact⟨_,a⟩
  ·exact⟨_,a⟩
 ·exact⟨_,c⟩
 ·exact⟨_,d⟩
 ·exact⟨_,e⟩
def wX {S:Addr}(hh:A.handled=none)(Z:yc z TI TO i1 i2 [i1,l1] [i2,l2])(h1:l1≠i1)(h2:l2≠i2)(hn:xs.size=ys.size)(hS:S∉[z,TI,TO,i1,i2,l1,l2])(hsz:xs.size<=1000)
  {R:Result->Shared->Prop} (h₀:Heap) (hlt:∀b o,h₀.get? b=some o->b≠S/\b∉[z,TO,i1,i2])
  (hR:∀h' tk as,(∀b o,h₀.get? b=some o->h'.get? b=some o)->Be h' S (as.map Value.ref).toArray->E2 h' as (xs.toList.zip ys.toList)->as.Nodup->(∀a∈as,h₀.objs.size<=a/\a≠S)->R (.ok (.ret .none)) {s with heap:=h',toks:=tk}):
  ∀(m i:Nat) (h:Heap) (tk:Nat) (as:List Addr),xs.size-i=m->i<=xs.size->ZS z TI TO i1 i2 l1 l2 xs ys i h->(∀b o,h₀.get? b=some o->h.get? b=some o)->h₀.objs.size<=h.objs.size->Be h S (as.map Value.ref).toArray->as.length=i->E2 h as ((xs.toList.zip ys.toList).take i)->as.Nodup->
   (∀a∈as,h₀.objs.size<=a/\a≠S/\a∉[z,TO,i1,i2])->
   codeAny (model prog w) A (.builtin "list.extend.loop" ⟨[.ref S,.ref z,.none],[]⟩) R {s with heap:=h,toks:=tk}:=by
 intro m
 have hSw:S∉[z,TO,i1,i2]:=λhm=>hS (by simp only[ZM,ZN,or_false] at hm |-;rcases hm with h | h | h | h<;>simp[h])
 induction m with
 | zero=>
  intro i h tk as hm hi st keep hz ls hl pr nd ha
  have ei:i=xs.size:=by omega
  subst ei
  refine codeAny_builtin PySem.F.entry_extend_loop ?_
  show wpAny _ _ (pyNext (.ref z)>>=_) _ _ _
  refine XA (yy (A:=A.under _) hh Z h1 st λh' tk' kp=>?_)
  refine XB ?_
  obtain⟨c,ls⟩:=ls
  refine hR h' tk' as (λb o q=>kp b o (hlt b o q).2 (keep b o q)) ⟨c,kp _ _ hSw ls⟩ ?_ nd λa q=>⟨(ha a q).1,(ha a q).2.1⟩
  have e:(xs.toList.zip ys.toList).take xs.size=xs.toList.zip ys.toList:=List.take_of_length_le (by rw[List.length_zip];simp;omega)
  rw[e] at pr
  exact E2.at pr λa q o z=>kp a o (ha a q).2.2 z
 | succ m ih=>
  intro i h tk as hm hi st keep hz ls hl pr nd ha
  refine codeAny_builtin PySem.F.entry_extend_loop ?_
  show wpAny _ _ (pyNext (.ref z)>>=_) _ _ _
  refine XA (Bj (A:=A.under _) hh Z h1 h2 hn (by omega) st λT x y h' tk' hx hy hT hp st' kp=>?_)
  obtain⟨c,ls⟩:=ls
  have lt:∀{b o},h.get? b=some o->b≠T:=λe=>XH (XG (XD e) hT)
  have hTS:T≠S:=(lt ls).symm
  show wpAny _ _ (updateSeq S (λa=>a.push (.ref T))>>=_) _ _ _
  have hsz2:(as.map Value.ref).toArray.size<=1000:=by simp[hl];omega
  have sl:(1000:Nat)<=sizeLine:=by decide
  refine XA (Qt ⟨c,kp _ _ hSw ls⟩ (XN hsz2 sl) (by rw[Array.size_push];exact Nat.succ_le_succ (XN hsz2 sl)) λh3 ls3 sb=>?_)
  refine XB ⟨plainId_quiet PySem.F.plain_extend_loop _,?_⟩
  have nS:∀b∈[z,TI,TO,i1,i2,l1,l2],b≠S:=λb hb e=>hS (e▸hb)
  have alive:∀b,(∃o,h'.get? b=some o)->∃o,h3.get? b=some o:=λb ⟨o,q⟩=>by
   by_cases e:b=S
   ·subst e;obtain⟨c3,q3⟩:=ls3;exact⟨_,q3⟩
   ·exact⟨o,sb.extBut _ _ e q⟩
  have aT:∀a∈as,a≠T:=λa q e=>by
   subst e
   obtain⟨o,hp'⟩:=E2.mem pr q
   exact lt hp' rfl
  refine ih (i+1) h3 _ (as++[T]) (by omega) (by omega) (st'.frame (λb hb o q=>sb.extBut _ _ (nS b hb) q) alive) (λb o q=>sb.extBut _ _ (hlt b o q).1 (kp b o (hlt b o q).2 (keep b o q))) ?_ ?_ ?_ ?_ ?_ ?_
  ·rw[sb.1]
   exact Nat.le_of_lt (Nat.lt_of_le_of_lt (XN hz hT) (XD hp))
  ·rw[XL]
   simpa using ls3
  ·simp[hl]
  ·have hx':xs.toList[i]?=some x:=by simpa using hx
   have hy':ys.toList[i]?=some y:=by simpa using hy
   have e:(xs.toList.zip ys.toList).take (i+1)=(xs.toList.zip ys.toList).take i++[(x,y)]:=by
    rw[YD,show(xs.toList.zip ys.toList)[i]?=some (x,y) from List.getElem?_zip_eq_some.mpr ⟨hx',hy'⟩]
    rfl
   rw[e]
   refine E2.app (E2.at pr λa q o z=>sb.extBut _ _ (ha a q).2.1 (kp a o (ha a q).2.2 z)) (sb.extBut _ _ hTS hp)
  ·exact List.nodup_append.mpr ⟨nd,List.nodup_cons.mpr ⟨List.not_mem_nil,List.nodup_nil⟩,λa q b r=>by rw[XQ.mp r];exact aT a q⟩
  ·intro a q
   rcases XS.mp q with q | q
   ·exact ha a q
   ·rw[XQ.mp q]
    refine⟨XN hz hT,hTS,λhb=>?_⟩
    obtain⟨o,ho⟩:=st.alive _ hb
    exact lt ho rfl
def jF {R:Result->Shared->Prop}{S:Addr}(hh:A.handled=none)(Z:yc z TI TO i1 i2 [i1,l1] [i2,l2])(h1:l1≠i1)(h2:l2≠i2)(hn:xs.size=ys.size)(hsz:xs.size<=1000)(hSn:S∉[z,TI,TO,i1,i2,l1,l2])
  (h₀:Heap) (hlt:∀b o,h₀.get? b=some o->b≠S/\b∉[z,TO,i1,i2]) (keep:∀b o,h₀.get? b=some o->s.heap.get? b=some o) (hz:h₀.objs.size<=s.heap.objs.size) (hz0:IsZip s.heap z TI TO .none) (st:ZS z TI TO i1 i2 l1 l2 xs ys 0 s.heap) (hS:s.heap.get? S=some {cls:=.type "list",data:=.seq #[]})
  (hR:∀h' tk as,(∀b o,h₀.get? b=some o->h'.get? b=some o)->Be h' S (as.map Value.ref).toArray->E2 h' as (xs.toList.zip ys.toList)->as.Nodup->(∀a∈as,h₀.objs.size<=a/\a≠S)->R (.ok (.ret .none)) {s with heap:=h',toks:=tk}):
  wpAny (model prog w) A.in1 (Builtin.«list.__init__» ⟨[.ref S,.ref z],[]⟩)
   (λfin s2=>match fin with | .done f=>R (.ok f) s2 | .again c2=>c2.quiet=true/\codeAny (model prog w) A c2 R s2) (λe s2=>R (.error e) s2) s:=by
 have hSz:S≠z:=λe=>hSn (e▸by simp)
 have nS:∀b∈[z,TI,TO,i1,i2,l1,l2],b≠S:=λb hb e=>hSn (e▸hb)
 show wpAny _ A.in1 (Builtin.List.listItems (.ref S)>>=λold=>Builtin.List.listUpdate (.ref S) (λ_=>#[])>>=λ_=>letGo old.toList.reverse>>=λ_=>Builtin.List.listExtendWith (.ref S) (.ref z) .none) _ _ s
 unfold Builtin.List.listItems
 refine XA ?_
 refine XA (wpAny_seqItems hS rfl (XB ?_))
 show wpAny _ A.in1 (updateSeq S (λ_=>#[])>>=λ_=>letGo (#[]:Array Value).toList.reverse>>=λ_=>Builtin.List.listExtendWith (.ref S) (.ref z) .none) _ _ s
 have zl:(0:Nat)<=sizeLine:=XO _
 refine XA (Qt (f:=λ_=>#[]) ⟨_,hS⟩ zl (XO _) λha la sa=>?_)
 have alive:∀{h h':Heap} {acc:Array Value},Heap.SameBut S h h'->Be h' S acc->∀b,(∃o,h.get? b=some o)->∃o,h'.get? b=some o:=λsb ls b ⟨o,q⟩=>by
  by_cases e:b=S
  ·subst e;obtain⟨c3,q3⟩:=ls;exact⟨_,q3⟩
  ·exact⟨o,sb.extBut _ _ e q⟩
 have sta:ZS z TI TO i1 i2 l1 l2 xs ys 0 ha:=st.frame (λb hb o q=>sa.extBut _ _ (nS b hb) q) (alive sa la)
 have hza:IsZip ha z TI TO .none:=sa.extBut _ _ hSz.symm hz0
 refine XA (wpAny_letGo ?_)
 unfold Builtin.List.listExtendWith
 have hTy:({s with heap:=ha}:Shared).TypeIs (.ref z) "zip":=⟨_,hza,rfl⟩
 refine XA (wpAny_typeOf (T:="zip") hTy ?_)
 have h1':Builtin.List.listSameRef (.ref S) (.ref z)=false:=by simp[Builtin.List.listSameRef,hSz]
 have h2':(Value.type "zip"==Value.type "list")=false:=by decide
 have h3':(Value.type "zip"==Value.type "tuple")=false:=by decide
 simp only[h1',h2',h3',Bool.or_false,Bool.false_eq_true,if_false]
 refine XA (wpAny_pyIter_zip (s:={s with heap:=ha}) hza ?_)
 refine XA (wpAny_holding (jK hTy ?_))
 refine wpAny_ite_split (λ_=>?_) (λz=>absurd (by rfl) z)
 refine XA (wpAny_rule ?_)
 show wpAny _ _ ((updateSeq S (λx=>x.push .none)>>=λ_=>updateSeq S (λx=>x.pop))>>=_) _ _ _
 refine wpAny_bind (wpAny_bind (Qt (f:=λx=>x.push .none) la zl (by simp) λhb lb sb=>?_))
 refine Qt (f:=λx=>x.pop) lb (by simp;decide) (by simp) λhc lc sc=>?_
 have stc:ZS z TI TO i1 i2 l1 l2 xs ys 0 hc:=(sta.frame (λb hb' o q=>sb.extBut _ _ (nS b hb') q) (alive sb lb)).frame (λb hb' o q=>sc.extBut _ _ (nS b hb') q) (alive sc lc)
 refine XB ⟨plainId_quiet PySem.F.plain_extend_loop _,?_⟩
 refine wX (s:=s) hh Z h1 h2 hn hSn hsz h₀ hlt hR xs.size 0 hc s.toks [] rfl (XO _) stc (λb o q=>?_) ?_ ?_ rfl .nil List.nodup_nil (λa q=>nomatch q)
 ·have e:=(hlt b o q).1
  exact sc.extBut _ _ e (sb.extBut _ _ e (sa.extBut _ _ e (keep b o q)))
 ·rw[sc.1,sb.1,sa.1];exact hz
 ·simpa using lc
def Gi {Q:Value->Shared->Prop}(hh:A.handled=none)(Z:yc z TI TO i1 i2 [i1,l1] [i2,l2])(h1:l1≠i1)(h2:l2≠i2)(hn:xs.size=ys.size)(hsz:xs.size<=1000)
  (h₀:Heap) (hlt:∀b o,h₀.get? b=some o->b∉[z,TO,i1,i2]) (keep:∀b o,h₀.get? b=some o->s.heap.get? b=some o) (hz:h₀.objs.size<=s.heap.objs.size) (hz0:IsZip s.heap z TI TO .none) (st:ZS z TI TO i1 i2 l1 l2 xs ys 0 s.heap)
  (hQ:∀h' tk as,(∀b o,h₀.get? b=some o->h'.get? b=some o)->Be h' s.heap.objs.size (as.map Value.ref).toArray->E2 h' as (xs.toList.zip ys.toList)->as.Nodup->(∀a∈as,h₀.objs.size<=a/\a≠s.heap.objs.size)->Q (.ref s.heap.objs.size) {s with heap:=h',toks:=tk}):
  wpAny (model prog w) A (call (.type "list") [.ref z]) Q E s:=by
 refine callType_codes (Q₁:=λob s1=>ob=.ref s.heap.objs.size/\s1={s with heap:=s.heap.push {cls:=.type "list",data:=.seq #[]}}) PySem.F.called_list (PySem.F.typeCall_list_1 _) PySem.F.entry_list_init (code_list_new _ ⟨rfl,rfl⟩) λob s1 h1=>?_
 obtain⟨rfl,rfl⟩:=h1
 have hS:(s.heap.push {cls:=.type "list",data:=.seq #[]}).get? s.heap.objs.size=some {cls:=.type "list",data:=.seq #[]}:=XF _ rfl
 have hps:∀b o,s.heap.get? b=some o->(s.heap.push {cls:=.type "list",data:=.seq #[]}).get? b=some o:=λb o q=>XC _ q
 have ne:∀{b o},s.heap.get? b=some o->b≠s.heap.objs.size:=λq=>XH (XD q)
 have hSn:s.heap.objs.size∉[z,TI,TO,i1,i2,l1,l2]:=λhm=>by
  simp only[ZM,ZN,or_false] at hm
  obtain⟨o1,e1⟩:=st.alive z (by simp)
  obtain⟨o3,e3⟩:=st.alive TO (by simp)
  obtain⟨o4,e4⟩:=st.alive i1 (by simp)
  obtain⟨o5,e5⟩:=st.alive i2 (by simp)
  obtain⟨o6,e6,_⟩:=st.s1.2
  obtain⟨o7,e7,_⟩:=st.s2.2
  rcases hm with e | e | e | e | e | e | e
  ·exact ne e1 e.symm
  ·exact ne st.its e.symm
  ·exact ne e3 e.symm
  ·exact ne e4 e.symm
  ·exact ne e5 e.symm
  ·exact ne e6 e.symm
  ·exact ne e7 e.symm
 refine⟨⟨_,hS,rfl⟩,PySem.F.args_list_init_2 _ _,jF (A:=A.in1) hh Z h1 h2 hn hsz hSn h₀ (λb o q=>⟨ne (keep b o q),hlt b o q⟩) (λb o q=>hps b o (keep b o q)) (by rw[Heap.size_push];omega) (hps _ _ hz0) (st.frame (λb _ o q=>hps b o q) λb ⟨o,q⟩=>⟨o,hps b o q⟩) hS λh' tk as k ls pr nd ha=>⟨rfl,?_⟩⟩
 exact hQ h' tk as k ls pr nd ha
end
section
variable {X:Cx}{pins:List (Addr×Obj)}{σ:St}{H:Hp}{s:Shared}
def Zp.laids {H':Hp}{h':Heap}{t':Nat}(I:Zp X pins σ H s)(k:∀b u,s.heap.get? b=some u->h'.get? b=some u)(old:∀a o,H a=some o->H' a=some o)(low:∀a,a<s.heap.objs.size->H' a=H a)
  (new:∀a o,s.heap.objs.size<=a->H' a=some o->Ja X.prog X.w H' h' a o):Zp X pins σ H' {s with heap:=h',toks:=t'}:=by
 refine I.un ⟨λb o q _ _ _=>k b o q,λb o q _ _ _=>⟨o.slots,k b o q⟩,λb o q n _=>(low b (Heap.lt_size q)).trans n,λb o q _=>⟨o,k b o q⟩,λb xs q=>old b _ q,λb o u q=>old b _ q,λb ps q=>⟨#[],by rw[old b _ q];simp⟩⟩ λa o e=>?_
 by_cases c:s.heap.objs.size<=a
 ·exact new a o c e
 ·rw[low a (by omega)] at e
  exact(I.hok a o e).stay (λb u _ q=>k b u q) (λb q=>old b _ q) λb xs q=>old b _ q
def Tc (H:Hp):List Addr->List (V×V)->Hp
 | a::as,p::ps=>Tc (Yq H a (.tup [p.1,p.2])) as ps
 | _,_=>H
def lQ (K:W.Frag)(t:TA):TE:=λσ H Q=>t σ H λvs H1=>∃l1 l2 xs ys,vs=[.ref l1,.ref l2]/\V6 K H1 l1 xs/\V6 K H1 l2 ys/\xs.length=ys.length/\xs.length<=1000/\
 ∀(as:List Addr) (p:Addr),as.length=xs.length->as.Nodup->p∉as->H1 p=none->(∀a∈as,H1 a=none)->Q (.ref p) (Yq (Tc H1 as (xs.zip ys)) p (.lst (as.map V.ref)))
def Re {a:Addr}:∀{as:List Addr} {ps:List (V×V)} {H:Hp},a∉as->Tc H as ps a=H a
 | [],_,_,_=>by unfold Tc;rfl
 | _::_,[],_,_=>by unfold Tc;rfl
 | b::as,p::ps,H,h=>by
  unfold Tc
  rw[Re λz=>h (XV _ z)]
  exact Zy λz=>h (by rw[z];exact List.mem_cons_self ..)
def Bn {a:Addr}{o:HO}:∀{as:List Addr} {ps:List (V×V)} {H:Hp},as.Nodup->a∈as->as.length=ps.length->Tc H as ps a=some o->∃(i:Nat) (p:V×V),as[i]?=some a/\ps[i]?=some p/\o=.tup [p.1,p.2]
 | [],_,_,_,h,_,_=>by cases h
 | _::_,[],_,_,_,h,_=>by cases h
 | b::as,p::ps,H,nd,h,hl,e=>by
  unfold Tc at e
  obtain⟨n1,n2⟩:=List.nodup_cons.mp nd
  by_cases c:a∈as
  ·obtain⟨i,p',h1,h2,h3⟩:=Bn n2 c (by simpa using hl) e
   exact⟨i+1,p',by simpa using h1,by simpa using h2,h3⟩
  ·obtain rfl:a=b:=(List.mem_cons.mp h).resolve_right c
   rw[Re c,Z9] at e
   exact⟨0,p,rfl,rfl,(YH e).symm⟩
def wH {h:Heap}{as:List Addr}{ps:List (Value×Value)}(q:E2 h as ps):∀{i:Nat} {a:Addr},as[i]?=some a->∃p,ps[i]?=some p/\IsPair h a p.1 p.2:=by
 induction q with
 | nil=>intro i a e;simp at e
 | cons r t ih=>
  intro i a e
  cases i with
  | zero=>simp at e;subst e;exact⟨_,rfl,r⟩
  | succ i=>exact ih (by simpa using e)
def Dm {a c:Expr}{ta:TA}{p pos p2 pos2:Pos}(hc:X.calm=true)(hg:Gl X "list")(hm:X.mg "list"=none)(hg2:Gl X "zip")(hm2:X.mg "zip"=none)(ha:PA X [a,c] ta)(hs:starEach [a,c] X.env=(false,eval a X.env)::starEach [c] X.env:=by rfl)(hp:(backTo pos2 (starEach [c] X.env)).any (·.1)=false:=by rfl)
  (hs2:starEach [.Call (.Name "zip" p2) [a,c] [] pos2] X.env=[(false,eval (.Call (.Name "zip" p2) [a,c] [] pos2) X.env)]:=by rfl) (hb:bootBuiltins "zip"=some (.type "zip"):=by decide+kernel) (hb2:bootBuiltins "list"=some (.type "list"):=by decide+kernel):
  PE X (.Call (.Name "list" p) [.Call (.Name "zip" p2) [a,c] [] pos2] [] pos) (lQ X.K ta):=by
 intro pins s σ H Q I h
 refine Call_ (Uj I hg hm hb2 (PyProof.Rows.callWith_type1 ?_ hs2 rfl))
 rw[hs2]
 show wpAny _ _ (spliced ((false,eval (.Call (.Name "zip" p2) [a,c] [] pos2) X.env)::backTo pos [])) _ _ s
 refine Calls.spliced_cons (Call_ (Uj I hg2 hm2 hb (PyProof.Rows.callWith_type1 (Jp (ha pos2 pins s σ H _ I h) λus s1 z=>?_) hs hp)))
 obtain⟨vs,H1,I1,r1,q1⟩:=z
 obtain⟨l1,l2,xs,ys,rfl,hq1,hq2,hlen,hsz,q⟩:=q1
 obtain⟨u,v,rfl,ru,rv⟩:=r1.two
 cases ru
 cases rv
 obtain⟨its1,rv1,p1,_⟩:=I1.tuple hq1
 obtain⟨its2,rv2,p2',_⟩:=I1.tuple hq2
 have lt1:l1<s1.heap.objs.size:=by obtain⟨_,e,_⟩:=p1;exact XD e
 have lt2:l2<s1.heap.objs.size:=by obtain⟨_,e,_⟩:=p2';exact XD e
 have n1:its1.toArray.size=xs.length:=by rw[XJ,<-rv1.length]
 have n2:its2.toArray.size=ys.length:=by rw[XJ,<-rv2.length]
 refine Qm false false p1 p2' λh2 N=>?_
 refine Calls.spliced_nil ?_
 generalize hk:s1.heap.objs.size=k at N lt1 lt2
 have Z:=O7 lt1 lt2
 have st:ZS (k+4) (k+2) (k+3) k (k+1) l1 l2 its1.toArray its2.toArray 0 h2:=by
  refine⟨.inl (hk▸N.zip),hk▸N.its,⟨_,_,hk▸N.own⟩,⟨⟨_,hk▸N.i1,rfl,rfl⟩,Heap.IsTuple.at (show s1.heap.IsTuple l1 its1.toArray from p1) λo q=>N.keep _ o q⟩,⟨⟨_,hk▸N.i2,rfl,rfl⟩,Heap.IsTuple.at (show s1.heap.IsTuple l2 its2.toArray from p2') λo q=>N.keep _ o q⟩⟩
 have old:∀b o,s1.heap.get? b=some o->b∉[k+4,k+3,k,k+1]:=λb o q hb=>by
  have:b<k:=hk▸XD q
  simp only[ZM,ZN,or_false] at hb
  rcases hb with e | e | e | e
  ·rw[e] at this;exact Nat.not_lt_of_le (Nat.le_add_right k 4) this
  ·rw[e] at this;exact Nat.not_lt_of_le (Nat.le_add_right k 3) this
  ·rw[e] at this;exact Nat.lt_irrefl k this
  ·rw[e] at this;exact Nat.not_lt_of_le (Nat.le_add_right k 1) this
 have hp3:s1.heap.objs.size<=h2.objs.size:=by
  have:=XD (hk▸N.zip:IsZip h2 (k+4) (k+2) (k+3) .none)
  rw[hk];exact XN (Nat.le_add_right _ _) (Nat.le_of_lt this)
 refine Gi (s:={s1 with heap:=h2}) (I.ok.hd hc) Z (XH lt1) (XH (Nat.lt_succ_of_lt lt2)) (by omega) (by omega) s1.heap old N.keep hp3 (hk▸N.zip) st λh3 tk3 as keep ls pr nd hn=>?_
 obtain⟨c3,ls⟩:=ls
 have la:as.length=xs.length:=by
  have e:=pr.length
  rw[List.length_zip] at e
  simp at e n1 n2
  omega
 have pa:h2.objs.size∉as:=λz=>(hn _ z).2 rfl
 have fr:∀a,s1.heap.objs.size<=a->H1 a=none:=λa e=>I1.hok.fresh e
 have lz:as.length=(xs.zip ys).length:=by rw[List.length_zip];omega
 have sl:(1000:Nat)<=sizeLine:=by decide
 refine⟨.ref _,_,I1.laids (H':=Yq (Tc H1 as (xs.zip ys)) h2.objs.size (.lst (as.map V.ref))) (h':=h3) (t':=tk3) keep (λa o e=>?_) (λa e=>?_) (λa o e q2=>?_),rfl,q as _ la nd pa (fr _ hp3) λa e=>fr a (hn a e).1⟩
 ·have e1:a≠h2.objs.size:=Y5 e (fr _ hp3)
  rw[Zy e1,Re λz=>?_]
  ·exact e
  ·rw[fr a (hn a z).1] at e;cases e
 ·have e1:a≠h2.objs.size:=λz=>Nat.lt_irrefl _ (XG (z▸e) hp3)
  rw[Zy e1,Re λz=>Nat.lt_irrefl _ (XG e (hn a z).1)]
 ·by_cases c:a=h2.objs.size
  ·subst c
   rw[Z9] at q2
   cases q2
   refine⟨by rw[XI,la];omega,as.map Value.ref,c3,?_,ls⟩
   clear q h pr nd hn la lz pa ls
   induction as with
   | nil=>exact .nil
   | cons b as ih=>exact .cons rfl (ih)
  ·rw[Zy c] at q2
   by_cases m:a∈as
   ·obtain⟨i,pp,g1,g2,rfl⟩:=Bn nd m lz q2
    obtain⟨pv,g3,g4⟩:=wH pr g1
    obtain⟨x1,x2⟩:=List.getElem?_zip_eq_some.mp g2
    obtain⟨y1,y2⟩:=List.getElem?_zip_eq_some.mp g3
    obtain⟨u1,w1,w2⟩:=rv1.get x1
    obtain⟨u2,w3,w4⟩:=rv2.get x2
    have e1:u1=pv.1:=by rw[w1] at y1;exact YH y1
    have e2:u2=pv.2:=by rw[w3] at y2;exact YH y2
    subst e1 e2
    exact⟨by show 2<=sizeLine;decide,[pv.1,pv.2],.cons w2 (.cons w4 .nil),⟨_,g4,rfl,_,rfl⟩⟩
   ·rw[Re m,fr a e] at q2;cases q2
end
end L2
namespace WL
open PySem PySem.Spec PyProof.Rows L2
def qO (xs ys:List T):List T:=(xs.zip ys).map λz=>.tup [z.1,z.2]
def kD (a:WA):WE:=λτ C Q χ=>a τ C (λvs C1=>∃xs ys:List T,vs=[.tup xs,.tup ys]/\xs.length=ys.length/\xs.length<=1000/\∀p,C1 p=none->Q (.ref p) (up C1 p (.lst (qO xs ys)))) χ
def j6 {K:W.Frag}{F:Hp}{C:Hw}:∀{as:List Addr} {vs us:List V} {xs ys:List T} {H:Hp},as.Nodup->as.length=vs.length->vs.length=us.length->(∀a∈as,H a=none)->Rl K F H C->Reps K H vs xs->Reps K H us ys->
  Rl K F (Tc H as (vs.zip us)) C/\Tx H (Tc H as (vs.zip us))/\Reps K (Tc H as (vs.zip us)) (as.map V.ref) (qO xs ys)
 | [],vs,us,xs,ys,H,_,h1,h2,_,R,r1,r2=>by
  cases vs with
  | cons _ _=>cases h1
  | nil=>
   have e:xs=[]:=by have:=r1.length;exact List.length_eq_zero_iff.mp this.symm
   subst e
   unfold Tc
   exact⟨R,Tx.refl H,Ys⟩
 | a::as,[],us,xs,ys,H,_,h1,_,_,_,_,_=>by cases h1
 | a::as,v::vs,[],xs,ys,H,_,_,h2,_,_,_,_=>by cases h2
 | a::as,v::vs,u::us,xs,ys,H,nd,h1,h2,hn,R,r1,r2=>by
  cases xs with
  | nil=>have:=r1.length;cases this
  | cons x xs=>
  cases ys with
  | nil=>have:=r2.length;cases this
  | cons y ys=>
  obtain⟨_,_,e1,a1,b1⟩:=Yg r1
  cases e1
  obtain⟨_,_,e2,a2,b2⟩:=Yg r2
  cases e2
  obtain⟨n1,n2⟩:=List.nodup_cons.mp nd
  have hp:=hn a (List.mem_cons_self ..)
  have tn:Tx H (Yq H a (.tup [v,u])):=Tx.new hp
  rw[List.zip_cons_cons]
  show Rl K F (Tc (Yq H a (.tup [v,u])) as (vs.zip us)) C/\Tx H (Tc (Yq H a (.tup [v,u])) as (vs.zip us))/\Reps K (Tc (Yq H a (.tup [v,u])) as (vs.zip us)) (V.ref a::as.map V.ref) (.tup [x,y]::qO xs ys)
  obtain⟨q1,q2,q3⟩:=j6 (as:=as) (vs:=vs) (us:=us) (H:=Yq H a (.tup [v,u])) n2 (by simpa using h1) (by simpa using h2) (λb hb=>by
   rw[Zy λz=>n1 (by rw[<-z];exact hb)];exact hn b (XV _ hb)) (R.hid hp) (b1.tx tn) (b2.tx tn)
  refine⟨q1,tn.trans q2,Yf ?_ q3⟩
  exact(Jq (V6.of Z9) (Yf (a1.tx tn) (Yf (a2.tx tn) Ys))).tx q2
section
variable {X:Cx}{a c:Expr}{wA:WA}{p pos p2 pos2:Pos}
def m5 (hc:X.calm=true)(hg:Gl X "list")(hm:X.mg "list"=none)(hg2:Gl X "zip")(hm2:X.mg "zip"=none)(ha:yi X [a,c] wA)(hs:starEach [a,c] X.env=(false,eval a X.env)::starEach [c] X.env:=by rfl)(hp:(backTo pos2 (starEach [c] X.env)).any (·.1)=false:=by rfl)
  (hs2:starEach [.Call (.Name "zip" p2) [a,c] [] pos2] X.env=[(false,eval (.Call (.Name "zip" p2) [a,c] [] pos2) X.env)]:=by rfl):Jd X (.Call (.Name "list" p) [.Call (.Name "zip" p2) [a,c] [] pos2] [] pos) (kD wA):=by
 obtain⟨t,p1,s⟩:=ha
 refine⟨_,Dm hc hg hm hg2 hm2 p1 hs hp hs2,λF H C σ τ Q Q' χ R S h q=>?_⟩
 refine s F H C σ τ _ _ χ R S h λxs vs H1 C1 R1 t1 rs h1=>?_
 obtain⟨zs,ts,rfl,hl,hz,h1⟩:=h1
 obtain⟨x1,r1,rfl,q1,rs⟩:=Yg rs
 obtain⟨x2,r2,rfl,q2,rs⟩:=Yg rs
 cases J4 rs
 obtain⟨a1,ys1,rfl,sq1,e1⟩:=Z6 q1
 obtain⟨a2,ys2,rfl,sq2,e2⟩:=Z6 q2
 have l1:=e1.length
 have l2:=e2.length
 refine⟨a1,a2,ys1,ys2,rfl,sq1,sq2,by omega,by omega,λas pp la nd np hpp hn=>?_⟩
 obtain⟨g1,g2,g3⟩:=j6 nd la (by omega) hn R1 e1 e2
 have hp':Tc H1 as (ys1.zip ys2) pp=none:=by rw[Re np];exact hpp
 have tn:Tx (Tc H1 as (ys1.zip ys2)) (Yq (Tc H1 as (ys1.zip ys2)) pp (.lst (as.map V.ref))):=Tx.new hp'
 exact q _ _ _ _ (g1.newL hp' g3) (t1.trans (g2.trans tn)) Y2 (h1 pp (R1.free hpp))
end
end WL
namespace L2
open PySem PySem.Spec PyProof.Rows
section
variable {X:Cx}{pins:List (Addr×Obj)}{σ:St}{H:Hp}{s:Shared}{a:Addr}{kvs:List (Z1×V)}{A:Around}{E:Value->Shared->Prop}{k:Z1}{u r:Value}{y:V}
def xk {Q:Value->Shared->Prop}(I:Zp X pins σ H s)(e:H a=some (.dK kvs))(ry:Z0 (kV k) u)(rz:Z0 y r)(hsz:kvs.length<sizeLine)
  (h1:∀v w' s',Vi kvs k=some v->Zp X pins σ H s'->Z0 v w'->Q w' s') (h2:∀s',Vi kvs k=none->Zp X pins σ (Yq H a (.dK (Xi kvs k y))) s'->Q r s'):
  wpAny (model X.prog X.w) A (call (.builtin "dict.setdefault") [.ref a,u,r]) Q E s:=by
 obtain⟨z,hd,vs,rel,dd⟩:=An I.hok e
 have rv:=rel.val k
 refine call_meetsIn PySem.F.slot_dict_setdefault dd.typeIs PySem.F.entry_dict_setdefault (PySem.F.args_dict_setdefault_3 _ _ _) (kt_meets_setdefault (Yx X.prog X.w) a (Mg ry) hd r) ⟨vs,dd,by rw[<-rel.length];exact z,λv hv=>?_,λhv h' dd' hs=>?_⟩
 ·rw[hv] at rv
  cases l:Vi kvs k with
  | none=>rw[l] at rv;exact rv.elim
  | some x=>rw[l] at rv;exact h1 x v _ l (I.tok _) rv
 ·have hn:Vi kvs k=none:=by
   rw[hv] at rv
   cases l:Vi kvs k with
   | none=>rfl
   | some x=>rw[l] at rv;exact rv.elim
  have he:∃q,h'.get? a=some q:=let ⟨q,_,_,hq,_⟩:=dd';⟨q,hq⟩
  exact h2 _ hn (Nl (t':=s.toks+1) I (by rw[e];exact True.intro) hs he (M0 (XN (V4 kvs k y) hsz) hd (KV.put rel k rz) dd'))
end
section
variable {X:Cx}{o e f:Expr}{apos cpos:Pos}{td ty tx:TE}
def n5 (td ty tx:TE):TE:=λσ H Q=>td σ H λx H1=>∃a,x=.ref a/\oP H1 a/\ty σ H1 λy H2=>tx σ H2 λz H3=>∃kvs k,H3 a=some (.dK kvs)/\y=kV k/\kvs.length<sizeLine/\
 (∀v,Vi kvs k=some v->Q v H3)/\(Vi kvs k=none->Q z (Yq H3 a (.dK (Xi kvs k z))))
def t9 (ho:PE X o td)(he:PE X e ty)(hf:PE X f tx)(m:M2 X o "setdefault" apos e f cpos):PE X (.Call (.Attribute o "setdefault" apos) [e,f] [] cpos) (n5 td ty tx):=by
 intro pins s σ H Q I h
 refine wpAny_Call_method m.base m.few m.line PySem.F.plainAttrs_dict PySem.F.slot_dict_setdefault PySem.F.type_dict_setdefault (Jp (ho pins s σ H _ I h) λu s1 z=>?_)
 obtain⟨x,H1,I1,rx,a,ex,d,q1⟩:=z
 subst ex
 obtain rfl:u=Value.ref a:=rx
 obtain⟨t1,t2,_⟩:=jE I1 d
 refine⟨t1,t2,?_⟩
 rw[m.trees]
 refine Calls.callWith_builtin rfl (Calls.evalArgs_plain (Calls.spliced_cons (Jp (he pins s1 σ H1 _ I1 q1) λiv s2 z=>?_)))
 obtain⟨y,H2,I2,ry,q2⟩:=z
 refine Calls.spliced_cons (Jp (hf pins s2 σ H2 _ I2 q2) λfv s3 z=>?_)
 obtain⟨z,H3,I3,rz,kvs,k,ea,ey,hz,q3,q4⟩:=z
 refine Calls.spliced_nil ?_
 subst ey
 exact xk I3 ea ry rz hz (λv w' s4 l I4 rw'=>⟨v,H3,I4,rw',q3 v l⟩) λs4 l I4=>⟨z,_,I4,rz,q4 l⟩
end
end L2
namespace WL
open PySem PySem.Spec PyProof.Rows L2
section
variable {X:Cx}{o e f:Expr}{wo wi wd:WE}{apos cpos:Pos}
def pJ (o i d:WE):WE:=λτ C Q χ=>o τ C (λx C1=>(∃a kvs,x=.ref a/\C1 a=some (.dic kvs))/\i τ C1 (λy C2=>d τ C2 (λz C3=>∃a kvs k,x=.ref a/\kT y=some k/\C3 a=some (.dic kvs)/\kvs.length<sizeLine/\
 (∀v,Yl kvs k=some v->Q v C3)/\(Yl kvs k=none->Q z (up C3 a (.dic (Ji kvs k z))))) χ) χ) χ
def pR (ho:Jd X o wo)(he:Jd X e wi)(hf:Jd X f wd)(m:M2 X o "setdefault" apos e f cpos):Jd X (.Call (.Attribute o "setdefault" apos) [e,f] [] cpos) (pJ wo wi wd):=by
 obtain⟨ta,p1,s1⟩:=ho
 obtain⟨tb,p2,s2⟩:=he
 obtain⟨tc,p3,s3⟩:=hf
 refine⟨_,t9 p1 p2 p3 m,λF H C σ τ Q Q' χ R S h q=>?_⟩
 refine s1 F H C σ τ _ _ χ R S h λx v H1 C1 R1 t1 rx h1=>?_
 obtain⟨⟨l,kvs0,rfl,hC0⟩,h1⟩:=h1
 cases Zs rx
 obtain⟨ks0,hH0,_⟩:=R1.dic hC0
 refine⟨l,rfl,.inl ⟨ks0,.inl hH0⟩,?_⟩
 refine s2 F H1 C1 σ τ _ _ χ R1 (S.tx t1) h1 λy u H2 C2 R2 t2 ry h2=>?_
 refine s3 F H2 C2 σ τ _ _ χ R2 (S.tx (t1.trans t2)) h2 λz w H3 C3 R3 t3 rz h3=>?_
 obtain⟨l',kvs,k,e',hk,hC,hz,h4,h5⟩:=h3
 cases e'
 obtain⟨ks,hH,pr⟩:=R3.dic hC
 have t:=(t1.trans t2).trans t3
 have ln:ks.length=kvs.length:=Paired.length pr
 refine⟨ks,k,hH,O8 hk (ry.tx t3),by omega,λv hv=>?_,λhv=>?_⟩
 ·cases hg:Yl kvs k with
  | none=>rw[(PR.get pr k).1 hg] at hv;cases hv
  | some w=>
   obtain⟨z',hz,rz'⟩:=(PR.get pr k).2 w hg
   rw[hz] at hv;cases hv
   exact q _ _ H3 C3 R3 t rz' (h4 w hg)
 ·have hn:Yl kvs k=none:=by
   cases hg:Yl kvs k with
   | none=>rfl
   | some w=>obtain⟨z',hz,_⟩:=(PR.get pr k).2 w hg;rw[hz] at hv;cases hv
  obtain⟨R',t'⟩:=R3.putD hC (PR.put pr (k:=k) rz)
  exact q _ _ _ _ R' (t.trans t') (rz.tx t') (h5 hn)
end
section
variable {X:Cx}{k i j:Nat}{pr:List Df}{cn:Str}{p pos:Pos}
def sQ (Cc:Cn X.prog X.w X.K X.mg X.base k pr cn i j)(hr:Xt k X.A)(hg:Gl X cn)
  (hdb:(cn==("__debug__":Str))=false:=by decide):Jd X (.Call (.Name cn p) [] [] pos) (Sv (Ye pr k) j Zw):=by
 obtain⟨⟨ar,hj⟩,Cl,f,hc,hm,M,h0 | ⟨k',fd,ps,rfl,F,hb⟩⟩:=Cc
 ·subst h0
  exact⟨λσ H Q=>False,λpins s σ H Q I h=>h.elim,λF H C σ τ Q Q' χ R S h q=>h.elim⟩
 ·refine⟨_,jl (dvs:=[]) M F hr hg hm hb .nil Bz hdb,λF' H C σ τ Q Q' χ R S h q=>?_⟩
  show ∀x dx,H x=none->H dx=none->dx≠x->_
  intro x dx hx hdx hne
  obtain⟨d',e1,e2,h2⟩:=h
  rw[hj] at e1
  cases e1
  obtain⟨vs',ev,h2⟩:=h2
  have evs:[]=vs':=by
   have:ar-ar=0:=Nat.sub_self _
   rw[this,List.replicate_zero,YK] at ev
   exact(List.map_inj_right λa b z=>by cases z;rfl).mp ev
  subst evs
  have hCx:C x=none:=R.free hx
  have R3:Rl X.K F' (Yq H dx (.own x)) C:=R.hid hdx
  have hx3:Yq H dx (.own x) x=none:=by rw[Zy hne.symm];exact hx
  have R4:Rl X.K F' (Yq (Yq H dx (.own x)) x (.ins Cl dx [])) (up C x (.ins cn [])):=R3.new hx3 ⟨Cl,dx,[],hc,Z9,.nil⟩
  have t4:Tx H (Yq (Yq H dx (.own x)) x (.ins Cl dx [])):=(Tx.new hdx).trans (Tx.new hx3)
  refine⟨F',_,[.ref x],_,χ,R4,Yf Y2 Ys,h2 x hCx,?_⟩
  intro y v H5 C5 R5 t5 ry h5
  obtain⟨rfl,h5⟩:=h5
  exact⟨Qf ry,q _ _ _ _ R5 (t4.trans t5) Y2 h5⟩
end
end WL
namespace HT
open PySem PySem.Spec PyProof.Rows
section
variable {prog:Program}{w:World}{A:Around}{E:Value->Shared->Prop}{s:Shared}
def getItem_tuple_all {t sl:Addr}{items:Array Value}{vl vu:Value}{lo hi:Option Int}{Q:Value->Shared->Prop}(ht:IsTup s.heap t items)(hs:s.heap.IsSliceOf sl vl vu .none)(pl:IsPart vl lo)(pu:IsPart vu hi)
  (h1:sIx items.size 0 lo=0) (h2:sIx items.size items.size hi=items.size) (h:Q (.ref t) s):wpAny (model prog w) A (getItem (.ref t) (.ref sl)) Q E s:=by
 obtain⟨os,hos,hcs,hds⟩:=id hs
 have hTs:s.TypeIs (.ref sl) "slice":=⟨os,hos,hcs⟩
 unfold getItem
 try with_reducible refine wpAny_holding ?_
 first | refine XA (XB ?_) | skip
 refine XA (wpAny_sequenceKey ht.typeIs (by decide) ?_)
 refine XA (wpAny_callSpecial?_slot (name:=Str.ofString "__getitem__") ht.typeIs PyProof.Rows.slot_tuple_getitem
  (wpAny_call_entry PyProof.Rows.slot_tuple_getitem ht.typeIs entry_tuple_getitem ?_ (args_tuple_getitem _ _)))
 show wpAny _ _ (Builtin.Tuple.tupleItemsOf (.ref t)>>=_) _ _ s
 refine XA (tupleItemsOf_ ht ?_)
 refine XA (wpAny_typeOf hTs ?_)
 rw[XY (by decide)]
 refine XA (Ut hs pl pu ?_)
 have hyes:(((sIx items.size 0 lo:Nat):Int)==0&&(1:Int)==1&&(sIx items.size items.size hi-sIx items.size 0 lo)==items.size)=true:=by
  rw[h1,h2];simp
 show wpAny _ _ (if (((sIx items.size 0 lo:Nat):Int)==0&&(1:Int)==1&&(sIx items.size items.size hi-sIx items.size 0 lo)==items.size)=true then _ else _) _ _ s
 rw[XY hyes]
 refine XA ?_
 unfold Builtin.Tuple.tupleIsExact
 first
  | refine XA (wpAny_typeOf ht.typeIs (XB ?_))
  | refine wpAny_typeOf ht.typeIs ?_
 rw[XY (by decide)]
 exact XA (wpAny_rule (XB ⟨_,rfl,XB h⟩))
end
end HT
namespace L2
open PySem PySem.Spec PyProof.Rows
section
variable {X:Cx}
def nK (K:W.Frag):V->Option Int->Option Int->Hp->VK->Prop:=λx lo hi H Q=>∃a xs,x=.ref a/\V6 K H a xs/\HT.sIx xs.length 0 lo=0/\HT.sIx xs.length xs.length hi=xs.length/\Q (.ref a) H
def wf:xL X (nK X.K):=by
 intro pins s σ H x v vl vu lo hi sl Q I rx hs pl pu h
 obtain⟨a,xs,rfl,hx,h1,h2,q⟩:=h
 cases rx
 obtain⟨its,r,ht,hz⟩:=I.tuple hx
 have hlen:its.toArray.size=xs.length:=by rw[XJ];exact r.length.symm
 refine⟨"tuple",_,PyProof.Rows.slot_tuple_getitem.lookup,ht.typeIs,?_⟩
 exact HT.getItem_tuple_all ht hs pl pu (by rw[hlen];exact h1) (by rw[hlen];exact h2) ⟨.ref a,H,I,rfl,q⟩
end
end L2
namespace WL
open PySem PySem.Spec PyProof.Rows L2
def rR:T->Option Int->Option Int->Hw->WK->Prop
 | .tup xs,lo,hi,C,Q=>Q (.tup (Pd xs lo hi)) C
 | _,_,_,_,_=>False
def mn (a:WE)(lo hi:Sw->Hw->(Option Int->Hw->Prop)->WX->Prop):WE:=λτ C Q χ=>a τ C (λx C1=>lo τ C1 (λl C2=>hi τ C2 (λh C3=>rR x l h C3 Q) χ) χ) χ
section
variable {X:Cx}{a:Expr}{wa:WE}{pos:Pos}
def ph:lG X rR:=⟨_,yP.or wf,λF H C x v lo hi Q Q' R rx h q=>by
 cases v with
 | tup xs=>
  obtain⟨a,ys,rfl,hq,r⟩:=Z6 rx
  by_cases c:HT.sIx ys.length 0 lo=0/\HT.sIx ys.length ys.length hi=ys.length
  ·refine .inr ⟨a,ys,rfl,hq,c.1,c.2,q _ _ H C R (Tx.refl H) (Jq hq r) ?_⟩
   have e:Pd xs lo hi=xs:=by
    unfold Pd
    rw[<-r.length,c.1,c.2]
    simp[r.length]
   have h:Q' (.tup (Pd xs lo hi)) C:=h
   rw[e] at h
   exact h
  ·exact .inl ⟨a,ys,rfl,hq,c,λp hp=>q _ _ _ C (R.hid hp) (Tx.new hp) (Jq (V6.of Z9) ((Pc r lo hi).tx (Tx.new hp))) h⟩
 | _=>exact False.elim h⟩
def pN {lo hi:Option Expr}{wl wh:Sw->Hw->(Option Int->Hw->Prop)->WX->Prop}{p2:Pos}(ha:Jd X a wa)(hl:rN X lo wl)(hh:rN X hi wh):Jd X (.Subscript a (.Slice lo hi none p2) pos) (mn wa wl wh):=by
 obtain⟨r,h1,h2⟩:=ph (X:=X)
 obtain⟨ta,p1,s1⟩:=ha
 obtain⟨tl,p3,s3⟩:=hl
 obtain⟨th,p4,s4⟩:=hh
 refine⟨_,Fq h1 p1 p3 p4,λF H C σ τ Q Q' χ R S h q=>?_⟩
 refine s1 F H C σ τ _ _ χ R S h λx v H1 C1 R1 t1 rx h1=>?_
 refine s3 F H1 C1 σ τ _ _ χ R1 (S.tx t1) h1 λl H2 C2 R2 t2 h2'=>?_
 refine s4 F H2 C2 σ τ _ _ χ R2 (S.tx (t1.trans t2)) h2' λu H3 C3 R3 t3 h3=>?_
 exact h2 F H3 C3 x v l u Q Q' R3 ((rx.tx t2).tx t3) h3 (QE.at q ((t1.trans t2).trans t3))
end
end WL
namespace K24
open PySem PySem.Spec PyProof.Rows L2 WL
def top (i:Nat):Stmt:=PySem.Challenge.pw_idlegraph_k24_two_papers_put_together.main.body.getD i (.Pass ⟨0,0,0,0⟩)
structure Txt (w:World)(K:W.Frag)(mg:Str->Option Value):Prop where
 zbe:mg "any"=none
 za7:mg "dict"=none
 za2:mg "isinstance"=none
 zan:mg "len"=none
 zai:mg "list"=none
 zaj:mg "reversed"=none
 zbb:mg "sorted"=none
 zau:mg "str"=none
 zak:mg "tuple"=none
 zaw:mg "zip"=none
 zaf:KF K "forms" "Slots"
 zad:KF K "leads" "Slots"
structure Cs (Pg:Program)(w:World)(K:W.Frag)(mg:Str->Option Value)(base:Heap)(n:Nat)(pr:List Df):Prop where
 zar:Ca Pg w K mg base n "scopes" ["term"] (spW K pr n 0)
 za4:Ca Pg w K mg base n "let_scopes" ["pairs","body"] (spW K pr n 1)
 za0:Ca Pg w K mg base n "rows_scopes" ["body","steps"] (spW K pr n 2)
 zbd:Ca Pg w K mg base n "free" ["term"] (spW K pr n 3)
 zap:Ca Pg w K mg base n "gather_free" ["term","bound","found"] (spW K pr n 4)
 zal:Ca Pg w K mg base n "paper" ["term"] (spW K pr n 12)
 zba:Ca Pg w K mg base n "rows_of" ["slots","term"] (spW K pr n 13)
 zav:Ca Pg w K mg base n "places_within" ["slots","term","bound","slot"] (spW K pr n 14)
 za3:Ca Pg w K mg base n "part_slots" ["slots","term","slot"] (spW K pr n 15)
 za8:Ca Pg w K mg base n "does_slots" ["slots","op","slot"] (spW K pr n 16)
 za1:Ca Pg w K mg base n "shape_slots" ["slots","shape","slot"] (spW K pr n 17)
 zay:Ca Pg w K mg base n "choose_slots" ["slots","shape","slot"] (spW K pr n 18)
 za9:Ca Pg w K mg base n "told_kinds" ["slots","rows"] (spW K pr n 19)
 za5:Ca Pg w K mg base n "make_ready" ["slots","slot","ready","opened"] (spW K pr n 20)
 zaq:Ca Pg w K mg base n "_law_next" ["_law_left"] (spW K pr n 21)
 zaz:Ca Pg w K mg base n "_law_inside" ["_law_left","_law_way","_law_cell","_law_fuel"] (spW K pr n 22)
 zag:Ca Pg w K mg base n "_law_term" ["_law_left","_law_fuel"] (spW K pr n 23)
 zam:Ca Pg w K mg base n "_law_numbered" ["_law_kind","_law_numbers"] (spW K pr n 24)
 zah:Ca Pg w K mg base n "_law_all_numbered" ["_law_rows"] (spW K pr n 25)
 zao:Ca Pg w K mg base n "_law_raised" ["_law_kind","_law_by"] (spW K pr n 26)
 za6:Ca Pg w K mg base n "_law_above" ["_law_way","_law_one","_law_other"] (spW K pr n 27)
 zat:Ca Pg w K mg base n "_law_together" ["_law_way","_law_name","_law_one","_law_other"] (spW K pr n 28)
 zbg:Ca Pg w K mg base n "law" ["_law_script"] (spW K pr n 29)
 zbf:Cm Pg w K mg base n "Slots" "__init__" ["self"] (spW K pr n 5)
 zab:Cm Pg w K mg base n "Slots" "unknown" ["self"] (spW K pr n 6)
 zaa:Cm Pg w K mg base n "Slots" "known" ["self","form"] (spW K pr n 7)
 zae:Cm Pg w K mg base n "Slots" "shared" ["self","slot"] (spW K pr n 8)
 zax:Cm Pg w K mg base n "Slots" "form_of" ["self","slot"] (spW K pr n 9)
 zac:Cm Pg w K mg base n "Slots" "make_alike" ["self","one","other"] (spW K pr n 10)
 zas:Cm Pg w K mg base n "Slots" "join_two" ["self","left","right"] (spW K pr n 11)
 zbc:Cn Pg w K mg base n pr "Slots" 5 30
def SX (j:Nat)(st:Stmt)(N:List Str)(q:Str)(Wx:Calls->WS):Prop:=∀{Pg:Program} {w:World} {K:W.Frag} {mg:Str->Option Value} {base:Heap} {n:Nat} {pr:List Df} {P:Calls} {f:Addr} {cdv:Value} {A:Around} {outer:List Env} {s:Shared} {H:Hp} {E:XK},Ye pr n=P->Txt w K mg->Cs Pg w K mg base n pr->
 Xt n (A.deeper (envOfC q (Zn st) s.heap.objs.size f cdv))->xC (Eo CX0 Pg w K mg base N q (Zn st) f cdv A outer s H E).nox ((X9 st).drop j) (Wx P)
local macro_rules | `(tactic| walk_at "sc") => `(tactic| exact ⟨rfl, rfl, rfl, by decide +kernel, rfl, by decide +kernel, by decide +kernel⟩)
abbrev Pq:Stmt:=top 5
def Kg:Zx ["term","sort"] ["term"] (Zn Pq):=by walk_at "sc"
def M7:{W//SX 0 Pq ["term","sort"] "scopes" W}:=⟨_,λhP T S hr=>by
  have nd:=Kg.nd
  have hu:=Yk hr
  exact(Zd (Zq (i:=1) nd (Yd (Zb 0) Zh))
   (Zd (Zv (Zm (Yn hu) (Zb 1) Zk) (Zi (Zl (Z8 (Za (Zf (Za (Zf Zc) (Za (Yd (Zb 0) Zh) Zc))) (Za (Zf (Za (Zf Zc) (Za (Yd (Zb 0) Zh) Zc))) Zc))))) Zo)
   (Zd (Zv (zT (Kv (Zm (Yn hu) (Zb 1) Zk) (Mx (Zm (Yn hu) (Zb 1) Zk)))) (Zi (Zl (Z8 (Za (Zf (Za (Zf Zc) (Za (Yd (Zb 0) Zh) Zc))) (Za (Zf (Za (Zf Zc) (Za (Yd (Zb 0) Zh) Zc))) Zc))))) Zo)
   (Zd (Zv (Zm (Yn hu) (Zb 1) Zk) (Zi (Zl (Z8 (Za (Zf (Za (Zf (Za (Yd (Zb 0) Zh) Zc)) (Za (Yd (Zb 0) Zh) Zc))) Zc)))) Zo)
   (Zd (Zv (Zm (Yn hu) (Zb 1) Zk) (Zi (Zl (cP hP (Z3 S.za4 hr (by rfl) (Za (Yd (Zb 0) Zh) (Za (Yd (Zb 0) Zh) Zc)))))) Zo)
   (Zd (Zv (Zm (Yn hu) (Zb 1) Zk) (Zi (Zl (Wt (cN:=["part"]) (cap:=[none]) (cl:=[]) (js:=[0]) (g:=(Jx 0)) ⟨rfl,(λ_=>Nn rfl (by decide+kernel) (by decide+kernel) rfl (by decide)),(J5 (Yd (Zb 0) Zh)),(λ_ _ _=>Y3 (i:=0) (show(["part"]:List Str).Nodup by decide+kernel) rfl (Or.inl rfl)),Z5,Y6,Yw,by decide+kernel,λ_ _ _=>Jr,λ_ _ _=>(Zf (Za (Zf Zc) (Za (Zb 0) Zc))),λ_=>rfl⟩))) Zo)
   (Zd (Zv (Zm (Yn hu) (Zb 1) Zk) (Zi (Zl (Yu Jj (Z8 (Za (Zf (Za (Zf Zc) (Za (Yd (Zb 0) Zh) Zc))) Zc)) (Wt (cN:=["shape","names","body"]) (cap:=[none,none,none]) (cl:=[]) (js:=([0]++([1]++([2]++[])))) (g:=(Cf _ 3 (Ss (Jx 0) (Ss (Jx 1) (Ss (Jx 2) Cg))))) ⟨rfl,(λ_=>Nn rfl (by decide+kernel) (by decide+kernel) rfl (by decide)),(J5 (Yd (Zb 0) Zh)),(λ_ _ _=>I0 (n:=3) rfl (Wg (Y3 (i:=0) (show(["shape","names","body"]:List Str).Nodup by decide+kernel) rfl (Or.inl rfl)) (Wg (Y3 (i:=1) (show(["shape","names","body"]:List Str).Nodup by decide+kernel) rfl (Or.inl rfl)) (Wg (Y3 (i:=2) (show(["shape","names","body"]:List Str).Nodup by decide+kernel) rfl (Or.inl rfl)) Nb)))),(D8 (Xc Z5 (Xc Z5 (Xc Z5 Uk)))),(D9 (Th Y6 Z5 (Th Y6 Z5 (Th Y6 Z5 Cb Uk) (Xc Z5 Uk)) (Xc Z5 (Xc Z5 Uk)))),(Ip (Vy Yw (Vy Yw (Vy Yw Iq))) (Jw (Jw (Jw Mp)))),by decide+kernel,λ_ _ _=>Jr,λ_ _ _=>(Zf (Za (Zb 1) (Za (Zb 2) Zc))),λ_=>rfl⟩)))) Zo)
   (Zd (Zv (Zm (Yn hu) (Zb 1) Zk) (Zi (Zl (cP hP (Z3 S.za0 hr (by rfl) (Za (Yd (Zb 0) Zh) (Za (Yd (Zb 0) Zh) Zc)))))) Zo)
   (Zi (Zl (Z8 Zc)))))))))))⟩
abbrev Ud:Stmt:=top 6
def Rq:Zx ["pairs","body","names"] ["pairs","body"] (Zn Ud):=by walk_at "sc"
def Tu:{W//SX 0 Ud ["pairs","body","names"] "let_scopes" W}:=⟨_,λhP T S hr=>by
  have nd:=Rq.nd
  exact(Zd (Zq (i:=2) nd (Ls Pe (by rfl) T.zak Sx (Za (Wt (cN:=["name","part"]) (cap:=[none,none]) (cl:=[]) (js:=([0]++([1]++[]))) (g:=(Cf _ 2 (Ss (Jx 0) (Ss (Jx 1) Cg)))) ⟨rfl,(λ_=>Nn rfl (by decide+kernel) (by decide+kernel) rfl (by decide)),(J5 (Zb 0)),(λ_ _ _=>I0 (n:=2) rfl (Wg (Y3 (i:=0) (show(["name","part"]:List Str).Nodup by decide+kernel) rfl (Or.inl rfl)) (Wg (Y3 (i:=1) (show(["name","part"]:List Str).Nodup by decide+kernel) rfl (Or.inl rfl)) Nb))),(D8 (Xc Z5 (Xc Z5 Uk))),(D9 (Th Y6 Z5 (Th Y6 Z5 Cb Uk) (Xc Z5 Uk))),(Ip (Vy Yw (Vy Yw Iq)) (Jw (Jw Mp))),by decide+kernel,λ_ _ _=>Jr,λ_ _ _=>(Zb 0),λ_=>rfl⟩) Zc)))
   (Zi (Zl (Yu Jj (Wt (cN:=["name","part","names"]) (cap:=[none,none,some 2]) (cl:=(Jo _ _ [])) (js:=([0]++([1]++[]))) (g:=(Cf _ 2 (Ss (Jx 0) (Ss (Jx 1) Cg)))) ⟨rfl,(λok=>Wb ok rfl (by decide+kernel) (by decide+kernel) rfl rfl rfl),(J5 (Zb 0)),(λ_ _ _=>I0 (n:=2) rfl (Wg (Y3 (i:=0) (show(["name","part","names"]:List Str).Nodup by decide+kernel) rfl (Or.inl rfl)) (Wg (Y3 (i:=1) (show(["name","part","names"]:List Str).Nodup by decide+kernel) rfl (Or.inl rfl)) Nb))),(D8 (Xc Z5 (Xc Z5 Uk))),(D9 (Th Y6 Z5 (Th Y6 Z5 Cb Uk) (Xc Z5 Uk))),(Ip (Vy Yw (Vy Yw Iq)) (Jw (Jw Mp))),by decide+kernel,λ_ _ _=>Jr,λ_ _ _=>(Zf (Za (Zb 2) (Za (Zb 1) Zc))),λ_=>rfl⟩) (Z8 (Za (Zf (Za (Zb 2) (Za (Zb 1) Zc))) Zc))))))⟩
abbrev Vl:Stmt:=top 7
def Ny:Zx ["body","steps","bound","behind","step"] ["body","steps"] (Zn Vl):=by walk_at "sc"
def R9:{W//SX 0 Vl ["body","steps","bound","behind","step"] "rows_scopes" W}:=⟨_,λhP T S hr=>by
  exact xi⟩
abbrev Im:Stmt:=top 8
def Bs:Zx ["term","found"] ["term"] (Zn Im):=by walk_at "sc"
def Bh:{W//SX 0 Im ["term","found"] "free" W}:=⟨_,λhP T S hr=>by
  have nd:=Bs.nd
  exact(Zd (Zq (i:=1) nd Pb)
   (Zd (Yy (cP hP (Z3 S.zap hr (by rfl) (Za (Zb 0) (Za (Zf Zc) (Za (Zb 1) Zc))))))
   (Zi (Zl (En (vD rfl) (by rfl) T.zbb zZ (Za (Zb 1) Zc))))))⟩
abbrev Vm:Stmt:=top 9
def Sm:Zx ["term","bound","found","names","part"] ["term","bound","found"] (Zn Vm):=by walk_at "sc"
def Uo:{W//SX 0 Vm ["term","bound","found","names","part"] "gather_free" W}:=⟨_,λhP T S hr=>by
  have nd:=Sm.nd
  have hu:=Yk hr
  exact(Zd (Zv (zT (sN (Zm (Yn hu) (Yd (Zb 0) Zh) Zk) (vq (Zm (wV hu) (Yd (Zb 0) Zh) (Zb 1) (by rfl))))) (Zi (Qj sT (Ni hu (Zb 2) (Yd (Zb 0) Zh)))) Zo)
   (Zi (Cp PassesOwn.never rfl (J5 (cP hP (Z3 S.zar hr (by rfl) (Za (Zb 0) Zc)))) (xg (n:=2) rfl (Nj (Pa (i:=3) nd) (Nj (Pa (i:=4) nd) xh)) (Jw (Jw Mp)))
   (Zi (Yy (cP hP (Z3 S.zap hr (by rfl) (Za (Zb 4) (Za (Yu Jj (Zb 1) (Zb 3)) (Za (Zb 2) Zc))))))))))⟩
abbrev Xk:Stmt:=Tg (top 11) 0
def Qv:Zx ["self"] ["self"] (Zn Xk):=by walk_at "sc"
def X7:{W//SX 0 Xk ["self"] "Slots.__init__" W}:=⟨_,λhP T S hr=>by
  exact(Zd (xb (Jg T.zaf Xf) (Zb 0) (Z8 Zc))
   (Zi (xb (Jg T.zad Xf) (Zb 0) (Z8 Zc))))⟩
abbrev X1:Stmt:=Tg (top 11) 1
def Ps:Zx ["self"] ["self"] (Zn X1):=by walk_at "sc"
def Wy:{W//SX 0 X1 ["self"] "Slots.unknown" W}:=⟨_,λhP T S hr=>by
  exact(Zi (Zl (mP hP (Yo (pl:=_) (Zu S.zaa Z7) hr (Zb 0) (Za Ao Zc)))))⟩
abbrev Vo:Stmt:=Tg (top 11) 2
def Sn:Zx ["self","form","slot"] ["self","form"] (Zn Vo):=by walk_at "sc"
def Ur:{W//SX 0 Vo ["self","form","slot"] "Slots.known" W}:=⟨_,λhP T S hr=>by
  have nd:=Sn.nd
  exact(Zd (Zq (i:=2) nd (En Ew (by rfl) T.zan PySem.boot_len (Za (Uy (Jg T.zaf Xf) (Zb 0)) Zc)))
   (Zd (Yy (Gc XZ YB YA Jz Ux (Uy (Jg T.zaf Xf) (Zb 0)) (Za (Zb 1) Zc)))
   (Zd (Yy (Gc XZ YB YA Jz Ux (Uy (Jg T.zad Xf) (Zb 0)) (Za (Zb 2) Zc)))
   (Zi (Zl (Zb 2))))))⟩
abbrev Wp:Stmt:=Tg (top 11) 3
def T1:Zx ["self","slot"] ["self","slot"] (Zn Wp):=by walk_at "sc"
def Vw:{W//SX 0 Wp ["self","slot"] "Slots.shared" W}:=⟨_,λhP T S hr=>by
  have nd:=T1.nd
  have hu:=Yk hr
  exact(Zd (Q8 PassesOwn.never (Zm (Dr hu) (Yd (Uy (Jg T.zad Xf) (Zb 0)) (Zb 1)) (Zb 1))
   (Zd (Qj (Yd (Uy (Jg T.zad Xf) (Zb 0)) (Yd (Uy (Jg T.zad Xf) (Zb 0)) (Zb 1))) (Cq (Uy (Jg T.zad Xf) (Zb 0)) (Zb 1)))
   (Zi (Zq (i:=1) nd (Yd (Uy (Jg T.zad Xf) (Zb 0)) (Zb 1))))))
   (Zi (Zl (Zb 1))))⟩
abbrev X2:Stmt:=Tg (top 11) 4
def Pt:Zx ["self","slot"] ["self","slot"] (Zn X2):=by walk_at "sc"
def Wz:{W//SX 0 X2 ["self","slot"] "Slots.form_of" W}:=⟨_,λhP T S hr=>by
  exact(Zi (Zl (Yd (Uy (Jg T.zaf Xf) (Zb 0)) (mP hP (Yo (pl:=_) (Zu S.zae Z7) hr (Zb 0) (Za (Zb 1) Zc))))))⟩
abbrev J3:Stmt:=Tg (top 11) 5
def W0:Zx ["self","one","other","pile","pair","left","right"] ["self","one","other"] (Zn J3):=by walk_at "sc"
def Xg:{W//SX 0 J3 ["self","one","other","pile","pair","left","right"] "Slots.make_alike" W}:=⟨_,λhP T S hr=>by
  have nd:=W0.nd
  have hu:=Yk hr
  exact(Zd (Zq (i:=3) nd (Z8 (Za (Zf (Za (Zb 1) (Za (Zb 2) Zc))) Zc)))
   (Zi (Q8 PassesOwn.never (Zm (Dr hu) (Zb 3) (Z8 Zc))
   (Zd (Zq (i:=4) nd (Ap XZ PySem.F.slot_list_pop PySem.F.type_list_pop Jz B6 (Zb 3)))
   (Zd (Zq (i:=5) nd (mP hP (Yo (pl:=_) (Zu S.zae Z7) hr (Zb 0) (Za (Yd (Zb 4) Zh) Zc))))
   (Zd (Zq (i:=6) nd (mP hP (Yo (pl:=_) (Zu S.zae Z7) hr (Zb 0) (Za (Yd (Zb 4) Zh) Zc))))
   (Zi (Zv (Zm (Dr hu) (Zb 5) (Zb 6)) (Zi (Yy (Gc XZ PySem.F.slot_list_extend PySem.F.type_list_extend Jz N8 (Zb 3) (Za (mP hP (Yo (pl:=_) (Zu S.zas Z7) hr (Zb 0) (Za (Zb 5) (Za (Zb 6) Zc)))) Zc)))) Zo))))))))⟩
abbrev Xj:Stmt:=Tg (top 11) 6
def Vz:Zx ["self","left","right","known","other"] ["self","left","right"] (Zn Xj):=by walk_at "sc"
def X6:{W//SX 0 Xj ["self","left","right","known","other"] "Slots.join_two" W}:=⟨_,λhP T S hr=>by
  have nd:=Vz.nd
  have hu:=Yk hr
  exact(Zd (Zq (i:=3) nd (Yd (Uy (Jg T.zaf Xf) (Zb 0)) (Zb 1)))
   (Zd (Zq (i:=4) nd (Yd (Uy (Jg T.zaf Xf) (Zb 0)) (Zb 2)))
   (Zd (Zv (Zm jw (Zb 3) Ao) (Zd (Qj (Zb 2) (Cq (Uy (Jg T.zad Xf) (Zb 0)) (Zb 1)))
   (Zi (Zl (Z8 Zc)))) Zo)
   (Zd (Qj (Zb 1) (Cq (Uy (Jg T.zad Xf) (Zb 0)) (Zb 2)))
   (Zd (Zv (Zm jw (Zb 4) Ao) (Zi (Zl (Z8 Zc))) Zo)
   (Zd (Zv (Zm (Dr hu) (Yd (Zb 3) Zh) (Yd (Zb 4) Zh)) (Zi Q9) Zo)
   (Zi (Zl (m5 rfl (by rfl) T.zai (by rfl) T.zaw (Za (Gb (Zb 3) (Xo Zh) Va) (Za (Gb (Zb 4) (Xo Zh) Va) Zc)))))))))))⟩
abbrev Nw:Stmt:=top 12
def Fb:Zx ["term","names","slots"] ["term"] (Zn Nw):=by walk_at "sc"
def Gv:{W//SX 0 Nw ["term","names","slots"] "paper" W}:=⟨_,λhP T S hr=>by
  have nd:=Fb.nd
  have hu:=Yk hr
  exact(Zd (Zq (i:=1) nd (cP hP (Z3 S.zbd hr (by rfl) (Za (Zb 0) Zc))))
   (Zd (Zv (Zm (Dr hu) (Zb 1) (Z8 Zc)) (Zi Q9) Zo)
   (Zd (Zq (i:=2) nd (cP hP (sQ S.zbc hr (by rfl))))
   (Zi (Zl (cP hP (Z3 S.za9 hr (by rfl) (Za (Zb 2) (Za (cP hP (Z3 S.zba hr (by rfl) (Za (Zb 2) (Za (Zb 0) Zc)))) Zc)))))))))⟩
abbrev Qd:Stmt:=top 13
def Nz:Zx ["slots","term","rows","pile","place"] ["slots","term"] (Zn Qd):=by walk_at "sc"
def Oe:{W//SX 0 Qd ["slots","term","rows","pile","place"] "rows_of" W}:=⟨_,λhP T S hr=>by
  have nd:=Nz.nd
  have hu:=Yk hr
  exact(Zd (Zq (i:=2) nd (Z8 Zc))
   (Zd (Zq (i:=3) nd (Z8 (Za (Zf (Za (Zb 1) (Za Pb (Za (mP hP (Wa (pl:=_) (Zu S.zab Z7) hr (Zb 0))) Zc)))) Zc)))
   (Zd (Q8 PassesOwn.never (Zm (Dr hu) (Zb 3) (Z8 Zc))
   (Zd (Zq (i:=4) nd (Ap XZ PySem.F.slot_list_pop PySem.F.type_list_pop Jz B6 (Zb 3)))
   (Zd (Yy (Gc XZ YB YA Jz Ux (Zb 2) (Za (Yd (Zb 4) Zh) Zc)))
   (Zi (Yy (Gc XZ PySem.F.slot_list_extend PySem.F.type_list_extend Jz N8 (Zb 3) (Za (Gd rfl (by rfl) T.zai (by rfl) T.zaj (cP hP (Z3 S.zav hr (by rfl) (Za (Zb 0) (Za (Yd (Zb 4) Zh) (Za (Yd (Zb 4) Zh) (Za (Yd (Zb 4) Zh) Zc))))))) Zc)))))))
   (Zi (Zl (Zb 2))))))⟩
abbrev Xy:Stmt:=top 14
def Uu:Zx ["slots","term","bound","slot","places","scope","asked","inner"] ["slots","term","bound","slot"] (Zn Xy):=by walk_at "sc"
def Xd:{W//SX 0 Xy ["slots","term","bound","slot","places","scope","asked","inner"] "places_within" W}:=⟨_,λhP T S hr=>by
  have nd:=Uu.nd
  have hu:=Yk hr
  exact(Zd (Zv (Zm (Yn hu) (Yd (Zb 1) Zh) Zk) (Zd (Yy (mP hP (Yo (pl:=_) (Zu S.zac Z7) hr (Zb 0) (Za (Zb 3) (Za (Cr hu (Zb 2) (Yd (Zb 1) Zh) (λ_ _=>rfl)) Zc)))))
   (Zi (Zl (Z8 Zc)))) Zo)
   (Zd (Zq (i:=4) nd (Z8 Zc))
   (Zd (Cp PassesOwn.never rfl (sP (by rfl) T.zaw (Za (cP hP (Z3 S.zar hr (by rfl) (Za (Zb 1) Zc))) (Za (cP hP (Z3 S.za3 hr (by rfl) (Za (Zb 0) (Za (Zb 1) (Za (Zb 3) Zc))))) Zc))) (xg (n:=2) rfl (Nj (Pa (i:=5) nd) (Nj (Pa (i:=6) nd) xh)) (Jw (Jw Mp)))
   (Zd (Zq (i:=7) nd (Ls vE (by rfl) T.za7 v9 (Za (Zb 2) Zc)))
   (Zd (Yy (sR (Zb 7) (m7 rfl (by rfl) T.za7 (by rfl) T.zaw (Za (Yd (Zb 5) Zh) (Za (Yd (Zb 6) Zh) Zc))) ⟨rfl,rfl,rfl,rfl⟩))
   (Zi (Yy (Gc XZ YB YA Jz Ux (Zb 4) (Za (Zf (Za (Yd (Zb 5) Zh) (Za (Zb 7) (Za (Yd (Zb 6) Zh) Zc)))) Zc)))))))
   (Zi (Zl (Zb 4))))))⟩
abbrev Yb:Stmt:=top 15
def J8:Zx ["slots","term","slot","sort","own","body","given"] ["slots","term","slot"] (Zn Yb):=by walk_at "sc"
def Se:{W//SX 10 Yb ["slots","term","slot","sort","own","body","given"] "part_slots" W}:=⟨_,λhP T S hr=>by
  exact(Zi Q9)⟩
def Sb:{W//SX 9 Yb ["slots","term","slot","sort","own","body","given"] "part_slots" W}:=⟨_,λhP T S hr=>by
  have hu:=Yk hr
  exact(Zd (Zv (Zm (Yn hu) (Zb 3) Zk) (Zi (Zl (Z8 Zc))) Zo)
   (Se.2 hP T S hr))⟩
def Sa:{W//SX 8 Yb ["slots","term","slot","sort","own","body","given"] "part_slots" W}:=⟨_,λhP T S hr=>by
  have hu:=Yk hr
  exact(Zd (Zv (Zm (Yn hu) (Zb 3) Zk) (Zi (Zl (Z8 (Za (Zf (Za (Zf Zc) (Za (mP hP (Wa (pl:=_) (Zu S.zab Z7) hr (Zb 0))) Zc))) (Za (Zf (Za (Zf Zc) (Za (Zb 2) Zc))) Zc))))) Zo)
   (Sb.2 hP T S hr))⟩
def T9:{W//SX 7 Yb ["slots","term","slot","sort","own","body","given"] "part_slots" W}:=⟨_,λhP T S hr=>by
  have hu:=Yk hr
  exact(Zd (Zv (Zm (Yn hu) (Zb 3) Zk) (Zi (Zl (cP hP (Z3 S.zay hr (by rfl) (Za (Zb 0) (Za (Yd (Yd (Yd (Zb 1) Zh) Zh) Zh) (Za (Zb 2) Zc))))))) Zo)
   (Sa.2 hP T S hr))⟩
def T8:{W//SX 6 Yb ["slots","term","slot","sort","own","body","given"] "part_slots" W}:=⟨_,λhP T S hr=>by
  have hu:=Yk hr
  exact(Zd (Zv (Zm (Yn hu) (Zb 3) Zk) (Zi (Zl (cP hP (Z3 S.za1 hr (by rfl) (Za (Zb 0) (Za (Yd (Zb 1) Zh) (Za (Zb 2) Zc))))))) Zo)
   (T9.2 hP T S hr))⟩
def T7:{W//SX 5 Yb ["slots","term","slot","sort","own","body","given"] "part_slots" W}:=⟨_,λhP T S hr=>by
  have nd:=J8.nd
  have hu:=Yk hr
  exact(Zd (Zv (Zm (Yn hu) (Zb 3) Zk) (Zd (Zq (i:=4) nd (Ls Pe (by rfl) T.zak Sx (Za (Wt (cN:=["pair","slots"]) (cap:=[none,some 0]) (cl:=(Jo _ _ [])) (js:=[0]) (g:=(Jx 0)) ⟨rfl,(λok=>Wb ok rfl (by decide+kernel) (by decide+kernel) rfl rfl rfl),(J5 (Yd (Zb 1) Zh)),(λ_ _ _=>Y3 (i:=0) (show(["pair","slots"]:List Str).Nodup by decide+kernel) rfl (Or.inl rfl)),Z5,Y6,Yw,by decide+kernel,λ_ _ _=>Jr,λ_ _ _=>(mP hP (Wa (pl:=_) (Zu S.zab Z7) hr (Zb 1))),λ_=>rfl⟩) Zc)))
   (Zi (Zl (Yu Jj (Wt (cN:=["one","own"]) (cap:=[none,some 4]) (cl:=(Jo _ _ [])) (js:=[0]) (g:=(Jx 0)) ⟨rfl,(λok=>Wb ok rfl (by decide+kernel) (by decide+kernel) rfl rfl rfl),(J5 (Zb 4)),(λ_ _ _=>Y3 (i:=0) (show(["one","own"]:List Str).Nodup by decide+kernel) rfl (Or.inl rfl)),Z5,Y6,Yw,by decide+kernel,λ_ _ _=>Jr,λ_ _ _=>(Zf (Za (Zb 1) (Za (Zb 0) Zc))),λ_=>rfl⟩) (Z8 (Za (Zf (Za (Zb 4) (Za (Zb 2) Zc))) Zc)))))) Zo)
   (T8.2 hP T S hr))⟩
def T6:{W//SX 4 Yb ["slots","term","slot","sort","own","body","given"] "part_slots" W}:=⟨_,λhP T S hr=>by
  have nd:=J8.nd
  have hu:=Yk hr
  exact(Zd (Zv (Zm (Yn hu) (Zb 3) Zk) (Zd (Zq (i:=6) nd (mP hP (Wa (pl:=_) (Zu S.zab Z7) hr (Zb 0))))
   (Zi (Zl (Z8 (Za (Zf (Za (Zf Zc) (Za (mP hP (Yo (pl:=_) (Zu S.zaa Z7) hr (Zb 0) (Za (Zf (Za Zk (Za (Zb 6) (Za (Zb 2) Zc)))) Zc))) Zc))) (Za (Zf (Za (Zf Zc) (Za (Zb 6) Zc))) Zc)))))) Zo)
   (T7.2 hP T S hr))⟩
def T4:{W//SX 3 Yb ["slots","term","slot","sort","own","body","given"] "part_slots" W}:=⟨_,λhP T S hr=>by
  have nd:=J8.nd
  have hu:=Yk hr
  exact(Zd (Zv (Zm (Yn hu) (Zb 3) Zk) (Zd (Zq (i:=4) nd (mP hP (Wa (pl:=_) (Zu S.zab Z7) hr (Zb 0))))
   (Zd (Zq (i:=5) nd (mP hP (Wa (pl:=_) (Zu S.zab Z7) hr (Zb 0))))
   (Zd (Yy (mP hP (Yo (pl:=_) (Zu S.zac Z7) hr (Zb 0) (Za (Zb 2) (Za (mP hP (Yo (pl:=_) (Zu S.zaa Z7) hr (Zb 0) (Za (Zf (Za Zk (Za (Zb 4) (Za (Zb 5) Zc)))) Zc))) Zc)))))
   (Zi (Zl (Z8 (Za (Zf (Za (Zf (Za (Zb 4) Zc)) (Za (Zb 5) Zc))) Zc))))))) Zo)
   (T6.2 hP T S hr))⟩
def T3:{W//SX 2 Yb ["slots","term","slot","sort","own","body","given"] "part_slots" W}:=⟨_,λhP T S hr=>by
  have hu:=Yk hr
  exact(Zd (Zv (Zm (Yn hu) (Zb 3) Zk) (Zi (Zl (cP hP (Z3 S.za8 hr (by rfl) (Za (Zb 0) (Za (Yd (Zb 1) Zh) (Za (Zb 2) Zc))))))) Zo)
   (T4.2 hP T S hr))⟩
def Tq:{W//SX 0 Yb ["slots","term","slot","sort","own","body","given"] "part_slots" W}:=⟨_,λhP T S hr=>by
  have nd:=J8.nd
  have hu:=Yk hr
  exact(Zd (Zq (i:=3) nd (Yd (Zb 1) Zh))
   (Zd (Zv (Zm (Yn hu) (Zb 3) Zk) (Zd (Yy (mP hP (Yo (pl:=_) (Zu S.zac Z7) hr (Zb 0) (Za (Zb 2) (Za (mP hP (Yo (pl:=_) (Zu S.zaa Z7) hr (Zb 0) (Za (Zf (Za Zk Zc)) Zc))) Zc)))))
   (Zi (Zl (Z8 Zc)))) Zo)
   (T3.2 hP T S hr)))⟩
abbrev Uf:Stmt:=top 16
def Rs:Zx ["slots","op","slot","outcome","number"] ["slots","op","slot"] (Zn Uf):=by walk_at "sc"
def Tv:{W//SX 0 Uf ["slots","op","slot","outcome","number"] "does_slots" W}:=⟨_,λhP T S hr=>by
  have nd:=Rs.nd
  have hu:=Yk hr
  exact(Zd (Zq (i:=3) nd (pQ (zT (Kv (Zm (Yn hu) (Zb 1) Zk) (Mx (Zm (Yn hu) (Zb 1) Zk)))) Zk Zk))
   (Zd (Yy (mP hP (Yo (pl:=_) (Zu S.zac Z7) hr (Zb 0) (Za (Zb 2) (Za (mP hP (Yo (pl:=_) (Zu S.zaa Z7) hr (Zb 0) (Za (Zf (Za (Zb 3) Zc)) Zc))) Zc)))))
   (Zd (Zq (i:=4) nd (mP hP (Yo (pl:=_) (Zu S.zaa Z7) hr (Zb 0) (Za (Zf (Za Zk Zc)) Zc))))
   (Zi (Zl (Z8 (Za (Zf (Za (Zf Zc) (Za (Zb 4) Zc))) (Za (Zf (Za (Zf Zc) (Za (Zb 4) Zc))) Zc))))))))⟩
abbrev Vk:Stmt:=top 17
def Sj:Zx ["slots","shape","slot","one","other"] ["slots","shape","slot"] (Zn Vk):=by walk_at "sc"
def Wd:{W//SX 0 Vk ["slots","shape","slot","one","other"] "shape_slots" W}:=⟨_,λhP T S hr=>by
  have nd:=Sj.nd
  have hu:=Yk hr
  exact(Zd (Zv (zT (Kv (Zm (Yn hu) (Zb 1) Zk) (Mx (Zm (Yn hu) (Zb 1) Zk)))) (Zd (Yy (mP hP (Yo (pl:=_) (Zu S.zac Z7) hr (Zb 0) (Za (Zb 2) (Za (mP hP (Yo (pl:=_) (Zu S.zaa Z7) hr (Zb 0) (Za (Zf (Za Zk Zc)) Zc))) Zc)))))
   (Zi (Zl (Z8 Zc)))) Zo)
   (Zd (Zq (i:=3) nd (mP hP (Wa (pl:=_) (Zu S.zab Z7) hr (Zb 0))))
   (Zd (Zv (Zm (Yn hu) (Zb 1) Zk) (Zd (Zq (i:=4) nd (mP hP (Wa (pl:=_) (Zu S.zab Z7) hr (Zb 0))))
   (Zd (Yy (mP hP (Yo (pl:=_) (Zu S.zac Z7) hr (Zb 0) (Za (Zb 2) (Za (mP hP (Yo (pl:=_) (Zu S.zaa Z7) hr (Zb 0) (Za (Zf (Za Zk (Za (Zb 3) (Za (Zb 4) Zc)))) Zc))) Zc)))))
   (Zi (Zl (Z8 (Za (Zf (Za (Zf Zc) (Za (Zb 3) Zc))) (Za (Zf (Za (Zf Zc) (Za (Zb 4) Zc))) Zc))))))) Zo)
   (Zd (Yy (mP hP (Yo (pl:=_) (Zu S.zac Z7) hr (Zb 0) (Za (Zb 2) (Za (mP hP (Yo (pl:=_) (Zu S.zaa Z7) hr (Zb 0) (Za (Zf (Za Zk (Za (Zb 3) Zc))) Zc))) Zc)))))
   (Zd (Zv (Zm (Yn hu) (Zb 1) Zk) (Zi (Zl (Z8 Zc))) Zo)
   (Zi (Zl (Z8 (Za (Zf (Za (Zf Zc) (Za (Zb 3) Zc))) (Za (Zf (Za (Zf Zc) (Za (Zb 2) Zc))) Zc))))))))))⟩
abbrev Wo:Stmt:=top 18
def T0:Zx ["slots","shape","slot","one","other","whole"] ["slots","shape","slot"] (Zn Wo):=by walk_at "sc"
def Jy:{W//SX 0 Wo ["slots","shape","slot","one","other","whole"] "choose_slots" W}:=⟨_,λhP T S hr=>by
  have nd:=T0.nd
  have hu:=Yk hr
  exact(Zd (Zv (Zm (Yn hu) (Zb 1) Zk) (Zi (Zl (Z8 (Za (Zf (Za (Zf Zc) (Za (mP hP (Yo (pl:=_) (Zu S.zaa Z7) hr (Zb 0) (Za (Zf (Za Zk Zc)) Zc))) Zc))) (Za (Zf (Za (Zf Zc) (Za (Zb 2) Zc))) (Za (Zf (Za (Zf Zc) (Za (Zb 2) Zc))) Zc)))))) Zo)
   (Zd (Zq (i:=3) nd (mP hP (Wa (pl:=_) (Zu S.zab Z7) hr (Zb 0))))
   (Zd (Zv (Zm (Yn hu) (Zb 1) Zk) (Zd (Zq (i:=4) nd (mP hP (Wa (pl:=_) (Zu S.zab Z7) hr (Zb 0))))
   (Zi (Zl (Z8 (Za (Zf (Za (Zf Zc) (Za (mP hP (Yo (pl:=_) (Zu S.zaa Z7) hr (Zb 0) (Za (Zf (Za Zk (Za (Zb 3) (Za (Zb 4) Zc)))) Zc))) Zc))) (Za (Zf (Za (Zf (Za (Zb 3) (Za (Zb 4) Zc))) (Za (Zb 2) Zc))) Zc)))))) Zo)
   (Zd (Zq (i:=5) nd (mP hP (Yo (pl:=_) (Zu S.zaa Z7) hr (Zb 0) (Za (Zf (Za Zk (Za (Zb 3) Zc))) Zc))))
   (Zi (Zl (Z8 (Za (Zf (Za (Zf Zc) (Za (Zb 5) Zc))) (Za (Zf (Za (Zf Zc) (Za (Zb 2) Zc))) (Za (Zf (Za (Zf (Za (Zb 3) (Za (Zb 5) Zc))) (Za (Zb 2) Zc))) Zc))))))))))⟩
abbrev Ub:Stmt:=top 19
def Ro:Zx ["slots","rows","ready","opened","slot"] ["slots","rows"] (Zn Ub):=by walk_at "sc"
def Tp:{W//SX 0 Ub ["slots","rows","ready","opened","slot"] "told_kinds" W}:=⟨_,λhP T S hr=>by
  have nd:=Ro.nd
  have hu:=Yk hr
  exact(Zd (Zq (i:=2) nd Pb)
   (Zd (Zq (i:=3) nd (Z8 Zc))
   (Zd (Cp PassesOwn.never rfl (J5 (Zb 1)) (Pa (i:=4) nd)
   (Zi (Yy (cP hP (Z3 S.za5 hr (by rfl) (Za (Zb 0) (Za (mP hP (Yo (pl:=_) (Zu S.zae Z7) hr (Zb 0) (Za (Zb 4) Zc))) (Za (Zb 2) (Za (Zb 3) Zc)))))))))
   (Zi (Zl (Wt (cN:=["slot","ready","slots"]) (cap:=[none,some 2,some 0]) (cl:=(Jo _ _ [])) (js:=[0]) (g:=(Jx 0)) ⟨rfl,(λok=>Wb ok rfl (by decide+kernel) (by decide+kernel) rfl rfl rfl),(J5 (Zb 1)),(λ_ _ _=>Y3 (i:=0) (show(["slot","ready","slots"]:List Str).Nodup by decide+kernel) rfl (Or.inl rfl)),Z5,Y6,Yw,by decide+kernel,λ_ _ _=>Jr,λ_ _ _=>(Cr hu (Zb 1) (mP hP (Yo (pl:=_) (Zu S.zae Z7) hr (Zb 2) (Za (Zb 0) Zc))) (λ_ _=>rfl)),λ_=>rfl⟩))))))⟩
abbrev Uc:Stmt:=top 20
def Rp:Zx ["slots","slot","ready","opened","begun","pile","here","form","within"] ["slots","slot","ready","opened"] (Zn Uc):=by walk_at "sc"
def Ts:{W//SX 0 Uc ["slots","slot","ready","opened","begun","pile","here","form","within"] "make_ready" W}:=⟨_,λhP T S hr=>by
  have nd:=Rp.nd
  have hu:=Yk hr
  exact(Zd (Zq (i:=4) nd Pb)
   (Zd (Zq (i:=5) nd (Z8 (Za (Zb 1) Zc)))
   (Zi (Q8 PassesOwn.never (Zm (Dr hu) (Zb 5) (Z8 Zc))
   (Zd (Zq (i:=6) nd (Ap XZ PySem.F.slot_list_pop PySem.F.type_list_pop Jz B6 (Zb 5)))
   (Zd (Zv (Zm (jv hu) (Zb 6) (Zb 2) (by rfl)) (Zi Ga) Zo)
   (Zd (Zq (i:=7) nd (mP hP (Yo (pl:=_) (Zu S.zax Z7) hr (Zb 0) (Za (Zb 6) Zc))))
   (Zd (Zv (Zm jw (Zb 7) Ao) (Zd (Qj (Zf (Za Zk (Za (En Ew (by rfl) T.zan PySem.boot_len (Za (Zb 3) Zc)) Zc))) (Ni hu (Zb 2) (Zb 6)))
   (Zd (Yy (Gc XZ YB YA Jz Ux (Zb 3) (Za (Zb 6) Zc)))
   (Zi Ga))) Zo)
   (Zd (Mz (k:=8) (cN:=["part","slots"]) (cap:=[none,some 0]) (cl:=(Jo _ _ [])) (js:=[0]) (g:=(Jx 0)) nd rfl rfl rfl ⟨rfl,(λok=>Wb ok rfl (by decide+kernel) (by decide+kernel) rfl rfl rfl),(J5 (Gb (Zb 7) (Xo Zh) Va)),(λ_ _ _=>Y3 (i:=0) (show(["part","slots"]:List Str).Nodup by decide+kernel) rfl (Or.inl rfl)),Z5,Y6,Yw,by decide+kernel,λ_ _ _=>Jr,λ_ _ _=>(mP hP (Yo (pl:=_) (Zu S.zae Z7) hr (Zb 1) (Za (Zb 0) Zc))),λ_=>rfl⟩)
   (Zd (Zv (Zm (jv hu) (Zb 6) (Zb 4) (by rfl)) (Zd (Qj (Yu Jj (pN (Zb 7) Va (Xo Zh)) (Ls Pe (by rfl) T.zak Sx (Za (Wt (cN:=["part","ready"]) (cap:=[none,some 2]) (cl:=(Jo _ _ [])) (js:=[0]) (g:=(Jx 0)) ⟨rfl,(λok=>Wb ok rfl (by decide+kernel) (by decide+kernel) rfl rfl rfl),(J5 (Zb 8)),(λ_ _ _=>Y3 (i:=0) (show(["part","ready"]:List Str).Nodup by decide+kernel) rfl (Or.inl rfl)),Z5,Y6,Yw,by decide+kernel,λ_ _ _=>Jr,λ_ _ _=>(Cr hu (Zb 1) (Zb 0) (λ_ _=>rfl)),λ_=>rfl⟩) Zc))) (Ni hu (Zb 2) (Zb 6)))
   (Zi Ga)) Zo)
   (Zd (Qj sT (Ni hu (Zb 4) (Zb 6)))
   (Zd (Zv (sO (En (pS rfl) (by rfl) T.zbe sV (Za (Wt (cN:=["part","begun","ready"]) (cap:=[none,some 4,some 2]) (cl:=(Jo _ _ [])) (js:=[0]) (g:=(Jx 0)) ⟨rfl,(λok=>Wb ok rfl (by decide+kernel) (by decide+kernel) rfl rfl rfl),(J5 (Zb 8)),(λ_ _ _=>Y3 (i:=0) (show(["part","begun","ready"]:List Str).Nodup by decide+kernel) rfl (Or.inl rfl)),Z5,Y6,Yw,by decide+kernel,λ_ _ _=>Jr,λ_ _ _=>(xn (Aq (jv hu) (Zb 0) (Zb 1) (by rfl)) (ul (Aq (jq hu) (Zb 0) (Zb 2) (by rfl)))),λ_=>rfl⟩) Zc))) (Zi Q9) Zo)
   (Zd (Yy (Gc XZ YB YA Jz Ux (Zb 5) (Za (Zb 6) Zc)))
   (Zi (Yy (Gc XZ PySem.F.slot_list_extend PySem.F.type_list_extend Jz N8 (Zb 5) (Za (Gd rfl (by rfl) T.zai (by rfl) T.zaj (Zb 8)) Zc)))))))))))))))))⟩
abbrev Td:Stmt:=top 22
def Ir:Zx ["_law_left"] ["_law_left"] (Zn Td):=by walk_at "sc"
def Rb:{W//SX 0 Td ["_law_left"] "_law_next" W}:=⟨_,λhP T S hr=>by
  exact(Zd (Zv (Zm nZ (En Ew (by rfl) T.zan PySem.boot_len (Za (Zb 0) Zc)) Zh) (Zi (Zl (Ap XZ PySem.F.slot_list_pop PySem.F.type_list_pop Jz B6 (Zb 0)))) Zo)
   (Zi (Zl Zh)))⟩
abbrev Yh:Stmt:=top 23
def Vp:Zx ["_law_left","_law_way","_law_cell","_law_fuel","_law_name","_law_one","_law_chosen"] ["_law_left","_law_way","_law_cell","_law_fuel"] (Zn Yh):=by walk_at "sc"
def U5:{W//SX 8 Yh ["_law_left","_law_way","_law_cell","_law_fuel","_law_name","_law_one","_law_chosen"] "_law_inside" W}:=⟨_,λhP T S hr=>by
  exact(Zi (Zl (Zf (Za Zk (Za (Zb 4) (Za (Zf (Za Zk (Za Zk (Za (Zf (Za (Zf (Za Zk (Za (Zb 4) Zc))) (Za (Zb 5) Zc))) Zc)))) Zc))))))⟩
def U4:{W//SX 7 Yh ["_law_left","_law_way","_law_cell","_law_fuel","_law_name","_law_one","_law_chosen"] "_law_inside" W}:=⟨_,λhP T S hr=>by
  have nd:=Vp.nd
  have hu:=Yk hr
  exact(Zd (Zv (Zm (Yn hu) (Zb 1) Zh) (Zd (Zq (i:=6) nd (Zf (Za (Zf (Za Zk (Za (Zf Zc) (Za (Zf (Za Zk (Za (Zb 4) Zc))) Zc)))) (Za (Zf (Za Zk (Za (Zf Zc) (Za (cP hP (Z3 S.zag hr (by rfl) (Za (Zb 0) (Za (Zb 3) Zc)))) Zc)))) Zc))))
   (Zi (Zl (Zf (Za Zk (Za (Zb 5) (Za (Zf (Za Zk (Za (Zf (Za Zk (Za Zk (Za (Zf (Za Zk (Za Zh Zc))) (Za (Zf (Za Zk (Za Zh Zc))) Zc))))) (Za (Zb 6) Zc)))) Zc))))))) Zo)
   (U5.2 hP T S hr))⟩
def U3:{W//SX 6 Yh ["_law_left","_law_way","_law_cell","_law_fuel","_law_name","_law_one","_law_chosen"] "_law_inside" W}:=⟨_,λhP T S hr=>by
  have hu:=Yk hr
  exact(Zd (Zv (Zm (Yn hu) (Zb 1) Zh) (Zi (Zl (Zf (Za Zk (Za (Zf (Za (Zf (Za (Zb 4) (Za (Zf (Za Zk (Za (Zb 4) Zc))) Zc))) Zc)) (Za (Zf (Za Zk (Za Zk (Za (Zf (Za (Zf (Za Zk (Za (Zb 4) Zc))) (Za (Zb 5) Zc))) Zc)))) Zc)))))) Zo)
   (U4.2 hP T S hr))⟩
def U2:{W//SX 5 Yh ["_law_left","_law_way","_law_cell","_law_fuel","_law_name","_law_one","_law_chosen"] "_law_inside" W}:=⟨_,λhP T S hr=>by
  have hu:=Yk hr
  exact(Zd (Zv (Zm (Yn hu) (Zb 1) Zh) (Zi (Zl (Zf (Za Zk (Za (Zb 5) (Za (cP hP (Z3 S.zag hr (by rfl) (Za (Zb 0) (Za (Zb 3) Zc)))) Zc)))))) Zo)
   (U3.2 hP T S hr))⟩
def U1:{W//SX 4 Yh ["_law_left","_law_way","_law_cell","_law_fuel","_law_name","_law_one","_law_chosen"] "_law_inside" W}:=⟨_,λhP T S hr=>by
  have hu:=Yk hr
  exact(Zd (Zv (Zm (Yn hu) (Zb 1) Zh) (Zi (Zl (Zf (Za Zk (Za Zk (Za (Zf (Za (Zb 5) (Za (Zf (Za Zk (Za Zk (Za (Zf Zc) Zc)))) Zc))) Zc)))))) Zo)
   (U2.2 hP T S hr))⟩
def U0:{W//SX 3 Yh ["_law_left","_law_way","_law_cell","_law_fuel","_law_name","_law_one","_law_chosen"] "_law_inside" W}:=⟨_,λhP T S hr=>by
  have hu:=Yk hr
  exact(Zd (Zv (Zm (Yn hu) (Zb 1) Zh) (Zi (Zl (Zf (Za Zk (Za Zk (Za (Zf (Za (Zb 5) (Za (cP hP (Z3 S.zag hr (by rfl) (Za (Zb 0) (Za (Zb 3) Zc)))) Zc))) Zc)))))) Zo)
   (U1.2 hP T S hr))⟩
def Uq:{W//SX 0 Yh ["_law_left","_law_way","_law_cell","_law_fuel","_law_name","_law_one","_law_chosen"] "_law_inside" W}:=⟨_,λhP T S hr=>by
  have nd:=Vp.nd
  have hu:=Yk hr
  exact(Zd (Zq (i:=4) nd (Yu Jj (Yd Zk (Yu V2 (Zb 2) Zh)) (Ls Cy (by rfl) T.zau Cw (Za (Yu V2 (Yu Q2 (Zb 2) Zh) Zh) Zc))))
   (Zd (Zq (i:=5) nd (cP hP (Z3 S.zag hr (by rfl) (Za (Zb 0) (Za (Zb 3) Zc)))))
   (Zd (Zv (Zm (Yn hu) (Zb 1) Zh) (Zi (Zl (Zf (Za Zk (Za (Zb 4) (Za (Zb 5) Zc)))))) Zo)
   (U0.2 hP T S hr))))⟩
abbrev W4:Stmt:=top 24
def Qu:Zx ["_law_left","_law_fuel","_law_cell","_law_way"] ["_law_left","_law_fuel"] (Zn W4):=by walk_at "sc"
def Sz:{W//SX 3 W4 ["_law_left","_law_fuel","_law_cell","_law_way"] "_law_term" W}:=⟨_,λhP T S hr=>by
  exact(Zi (Zl (cP hP (Z3 S.zaz hr (by rfl) (Za (Zb 0) (Za (Zb 3) (Za (Yu Q2 (Zb 2) Zh) (Za (Yu qZ (Zb 1) Zh) Zc))))))))⟩
def Ra:{W//SX 0 W4 ["_law_left","_law_fuel","_law_cell","_law_way"] "_law_term" W}:=⟨_,λhP T S hr=>by
  have nd:=Qu.nd
  have hu:=Yk hr
  exact(Zd (Zq (i:=2) nd (cP hP (Z3 S.zaq hr (by rfl) (Za (Zb 0) Zc))))
   (Zd (Zq (i:=3) nd (Yu V2 (Zb 2) Zh))
   (Zd (Zv (zT (Kv (Zm (Yn hu) (Zb 1) Zh) (Kv (Zm (Yn hu) (En Ew (by rfl) T.zan PySem.boot_len (Za (Zb 0) Zc)) Zh) (Mx (Zm nX (Zb 3) Zh))))) (Zd (Zv (Zm (Yn hu) (Yu V2 (Zb 3) Zh) Zh) (Zi (Zl (Zf (Za Zk (Za (Yu V2 (Yu Q2 (Zb 2) Zh) (Yu B3 Zh Zh)) Zc))))) Zo)
   (Zd (Zv (Zm (Yn hu) (Yu V2 (Zb 3) Zh) Zh) (Zi (Zl (Zf (Za Zk (Za Zk (Za (Zf Zc) Zc)))))) Zo)
   (Zd (Zv (Zm (Yn hu) (Yu V2 (Zb 3) Zh) Zh) (Zi (Zl (Zf (Za Zk (Za Zk (Za (Zf (Za Zk (Za Zk (Za (Zf (Za Zk (Za (Yd (Z8 (Za Zk (Za Zk Zc))) (Yu V2 (Yu Q2 (Zb 2) Zh) Zh)) Zc))) Zc)))) Zc)))))) Zo)
   (Zi (Zl (Zf (Za Zk (Za (Yu Jj Zk (Ls Cy (by rfl) T.zau Cw (Za (Yu V2 (Yu Q2 (Zb 2) Zh) Zh) Zc))) Zc)))))))) Zo)
   (Sz.2 hP T S hr))))⟩
abbrev X0:Stmt:=top 25
def Pr:Zx ["_law_kind","_law_numbers"] ["_law_kind","_law_numbers"] (Zn X0):=by walk_at "sc"
def Ww:{W//SX 0 X0 ["_law_kind","_law_numbers"] "_law_numbered" W}:=⟨_,λhP T S hr=>by
  have hu:=Yk hr
  exact(Zd (Zv (Zm (Yn hu) (Yd (Zb 0) Zh) Zk) (Zi (Zl (Zf (Za Zk (Za (pR (Zb 1) (Yd (Zb 0) Zh) (En sZ (by rfl) T.zan PySem.boot_len (Za (Zb 1) Zc)) ⟨rfl,rfl,rfl,rfl⟩) Zc))))) Zo)
   (Zi (Zl (Ls Pe (by rfl) T.zak Sx (Za (Yu Jj (Z8 (Za (Yd (Zb 0) Zh) Zc)) (Wt (cN:=["_law_part","_law_numbers"]) (cap:=[none,some 1]) (cl:=(Jo _ _ [])) (js:=[0]) (g:=(Jx 0)) ⟨rfl,(λok=>Wb ok rfl (by decide+kernel) (by decide+kernel) rfl rfl rfl),(J5 (Gb (Zb 0) (Xo Zh) Va)),(λ_ _ _=>Y3 (i:=0) (show(["_law_part","_law_numbers"]:List Str).Nodup by decide+kernel) rfl (Or.inl rfl)),Z5,Y6,Yw,by decide+kernel,λ_ _ _=>Jr,λ_ _ _=>(cP hP (Z3 S.zam hr (by rfl) (Za (Zb 0) (Za (Zb 1) Zc)))),λ_=>rfl⟩)) Zc)))))⟩
abbrev Jt:Stmt:=top 26
def Wf:Zx ["_law_rows","_law_numbers"] ["_law_rows"] (Zn Jt):=by walk_at "sc"
def J7:{W//SX 0 Jt ["_law_rows","_law_numbers"] "_law_all_numbered" W}:=⟨_,λhP T S hr=>by
  have nd:=Wf.nd
  exact(Zd (Zq (i:=1) nd Pb)
   (Zi (Zl (Wt (cN:=["_law_kind","_law_numbers"]) (cap:=[none,some 1]) (cl:=(Jo _ _ [])) (js:=[0]) (g:=(Jx 0)) ⟨rfl,(λok=>Wb ok rfl (by decide+kernel) (by decide+kernel) rfl rfl rfl),(J5 (Zb 0)),(λ_ _ _=>Y3 (i:=0) (show(["_law_kind","_law_numbers"]:List Str).Nodup by decide+kernel) rfl (Or.inl rfl)),Z5,Y6,Yw,by decide+kernel,λ_ _ _=>Jr,λ_ _ _=>(cP hP (Z3 S.zam hr (by rfl) (Za (Zb 0) (Za (Zb 1) Zc)))),λ_=>rfl⟩))))⟩
abbrev Vn:Stmt:=top 27
def N1:Zx ["_law_kind","_law_by"] ["_law_kind","_law_by"] (Zn Vn):=by walk_at "sc"
def Up:{W//SX 0 Vn ["_law_kind","_law_by"] "_law_raised" W}:=⟨_,λhP T S hr=>by
  have hu:=Yk hr
  exact(Zd (Zv (Zm (Yn hu) (Yd (Zb 0) Zh) Zk) (Zi (Zl (Zf (Za Zk (Za (Yu Jj (Yd (Zb 0) Zh) (Zb 1)) Zc))))) Zo)
   (Zi (Zl (Ls Pe (by rfl) T.zak Sx (Za (Yu Jj (Z8 (Za (Yd (Zb 0) Zh) Zc)) (Wt (cN:=["_law_part","_law_by"]) (cap:=[none,some 1]) (cl:=(Jo _ _ [])) (js:=[0]) (g:=(Jx 0)) ⟨rfl,(λok=>Wb ok rfl (by decide+kernel) (by decide+kernel) rfl rfl rfl),(J5 (Gb (Zb 0) (Xo Zh) Va)),(λ_ _ _=>Y3 (i:=0) (show(["_law_part","_law_by"]:List Str).Nodup by decide+kernel) rfl (Or.inl rfl)),Z5,Y6,Yw,by decide+kernel,λ_ _ _=>Jr,λ_ _ _=>(cP hP (Z3 S.zao hr (by rfl) (Za (Zb 0) (Za (Zb 1) Zc)))),λ_=>rfl⟩)) Zc)))))⟩
abbrev Ug:Stmt:=top 28
def Rt:Zx ["_law_way","_law_one","_law_other","_law_spare"] ["_law_way","_law_one","_law_other"] (Zn Ug):=by walk_at "sc"
def Tw:{W//SX 0 Ug ["_law_way","_law_one","_law_other","_law_spare"] "_law_above" W}:=⟨_,λhP T S hr=>by
  have nd:=Rt.nd
  have hu:=Yk hr
  exact(Zd (Zq (i:=3) nd (Zf (Za Zk (Za (Yu B3 Zh Zh) Zc))))
   (Zd (Zv (Zm (Yn hu) (Zb 0) Zh) (Zi (Zl (Yu Jj (Yu Jj (Z8 (Za (Zf (Za Zk (Za (Yd (Zb 1) Zh) (Za (Yd (Zb 2) Zh) Zc)))) Zc)) (Zb 1)) (Zb 2)))) Zo)
   (Zd (Zv (Zm (Yn hu) (Zb 0) Zh) (Zi (Zl (Yu Jj (Yu Jj (Z8 (Za (Yd (Zb 2) Zh) Zc)) (Zb 1)) (Zb 2)))) Zo)
   (Zd (Zv (Zm (Yn hu) (Zb 0) Zh) (Zi (Zl (Yu Jj (Z8 (Za (Zf (Za Zk (Za (Zb 3) (Za (Yd (Zb 1) Zh) Zc)))) Zc)) (Zb 1)))) Zo)
   (Zd (Zv (Zm (Yn hu) (Zb 0) Zh) (Zi (Zl (Yu Jj (Yu Jj (Z8 (Za (Yd (Zb 1) Zh) (Za (Zf (Za Zk (Za (Yd (Zb 2) Zh) (Za (Yd (Zb 1) Zh) Zc)))) Zc))) (Zb 1)) (Zb 2)))) Zo)
   (Zd (Zv (Zm (Yn hu) (Zb 0) Zh) (Zi (Zl (Yu Jj (Yu Jj (Z8 (Za (Yd (Zb 2) Zh) Zc)) (Zb 1)) (Zb 2)))) Zo)
   (Zd (Zv (Zm (Yn hu) (Zb 0) Zh) (Zi (Zl (Yu Jj (Yu Jj (Z8 (Za (Zf (Za Zk (Za (Yd (Zb 1) Zh) Zc))) Zc)) (Zb 1)) (Z8 (Za (Zf (Za Zk (Za (Yd (Zb 1) Zh) Zc))) Zc))))) Zo)
   (Zi (Zl (Yu Jj (Yu Jj (Yu Jj (Z8 (Za (Yd (Zb 1) Zh) (Za (Zf (Za Zk (Za (Yd (Zb 2) Zh) (Za (Yd (Zb 1) Zh) Zc)))) Zc))) (Zb 2)) (Zb 1)) (Z8 (Za (Yd (Zb 1) Zh) Zc))))))))))))⟩
abbrev Xz:Stmt:=top 29
def Uv:Zx ["_law_way","_law_name","_law_one","_law_other","_law_chosen"] ["_law_way","_law_name","_law_one","_law_other"] (Zn Xz):=by walk_at "sc"
def Wv:{W//SX 0 Xz ["_law_way","_law_name","_law_one","_law_other","_law_chosen"] "_law_together" W}:=⟨_,λhP T S hr=>by
  have nd:=Uv.nd
  have hu:=Yk hr
  exact(Zd (Zv (Zm (Yn hu) (Zb 0) Zh) (Zi (Zl (Zf (Za Zk (Za Zk (Za (Zf (Za (Zb 2) (Za (Zb 3) Zc))) Zc)))))) Zo)
   (Zd (Zv (Zm (Yn hu) (Zb 0) Zh) (Zi (Zl (Zf (Za Zk (Za (Zb 2) (Za (Zb 3) Zc)))))) Zo)
   (Zd (Zv (Zm (Yn hu) (Zb 0) Zh) (Zi (Zl (Zf (Za Zk (Za (Zb 1) (Za (Zb 2) Zc)))))) Zo)
   (Zd (Zv (Zm (Yn hu) (Zb 0) Zh) (Zi (Zl (Zf (Za Zk (Za (Zf (Za Zk (Za (Zb 1) (Za (Zb 2) Zc)))) (Za (Zb 3) Zc)))))) Zo)
   (Zd (Zv (Zm (Yn hu) (Zb 0) Zh) (Zi (Zl (Zf (Za Zk (Za (Zf (Za (Zf (Za (Zb 1) (Za (Zb 2) Zc))) Zc)) (Za (Zb 3) Zc)))))) Zo)
   (Zd (Zv (Zm (Yn hu) (Zb 0) Zh) (Zi (Zl (Zf (Za Zk (Za Zk (Za (Zf (Za (Zb 2) (Za (Zf (Za Zk (Za Zk (Za (Zf Zc) Zc)))) Zc))) Zc)))))) Zo)
   (Zd (Zq (i:=4) nd (Zf (Za (Zf (Za Zk (Za (Zf (Za Zk (Za (Zb 1) Zc))) (Za (Zf (Za Zk (Za (Zb 1) Zc))) Zc)))) Zc)))
   (Zi (Zl (Zf (Za Zk (Za (Zf (Za Zk (Za Zk (Za (Zf (Za (Zb 3) (Za (Zb 2) Zc))) Zc)))) (Za (Zb 4) Zc)))))))))))))⟩
abbrev Ue:Stmt:=top 30
def N0:Zx ["_law_script","_law_cells","_law_head","_law_half","_law_one","_law_other","_law_whole","_law_told","_law_rows","_law_others","_law_raised_here","_law_due"] ["_law_script"] (Zn Ue):=by walk_at "sc"
def E4:{W//SX 12 Ue ["_law_script","_law_cells","_law_head","_law_half","_law_one","_law_other","_law_whole","_law_told","_law_rows","_law_others","_law_raised_here","_law_due"] "law" W}:=⟨_,λhP T S hr=>by
  have nd:=N0.nd
  have hu:=Yk hr
  exact(Zd (Mz (k:=10) (cN:=["_law_kind"]) (cap:=[none]) (cl:=[]) (js:=[0]) (g:=(Jx 0)) nd rfl rfl rfl ⟨rfl,(λ_=>Nn rfl (by decide+kernel) (by decide+kernel) rfl (by decide)),(J5 (Zb 9)),(λ_ _ _=>Y3 (i:=0) (show(["_law_kind"]:List Str).Nodup by decide+kernel) rfl (Or.inl rfl)),Z5,Y6,Yw,by decide+kernel,λ_ _ _=>Jr,λ_ _ _=>(cP hP (Z3 S.zao hr (by rfl) (Za (Zb 0) (Za (Yu B3 Zh Zh) Zc)))),λ_=>rfl⟩)
   (Zd (Zq (i:=11) nd (cP hP (Z3 S.zah hr (by rfl) (Za (cP hP (Z3 S.za6 hr (by rfl) (Za (Yu V2 (Zb 2) Zh) (Za (Zb 8) (Za (Zb 10) Zc))))) Zc))))
   (Zi (Zl (xn (pP (by rfl) T.za2 (by rfl) T.zai Au (by decide) (Zb 7)) (xn (Aq (Yn hu) (Zb 7) (Zb 11) (Du _)) (ul (Aq (pj hu) (cP hP (Z3 S.zal hr (by rfl) (Za (Zb 6) Zc))) (Zb 11) (Du _)))))))))⟩
def M9:{W//SX 11 Ue ["_law_script","_law_cells","_law_head","_law_half","_law_one","_law_other","_law_whole","_law_told","_law_rows","_law_others","_law_raised_here","_law_due"] "law" W}:=⟨_,λhP T S hr=>by
  have hu:=Yk hr
  exact(Zd (Zv (zT (Kv (Zm (ua hu) (Zb 8) (cP hP (Z3 S.zah hr (by rfl) (Za (Zb 8) Zc)))) (Mx (Zm (ua hu) (Zb 9) (cP hP (Z3 S.zah hr (by rfl) (Za (Zb 9) Zc))))))) (Zi (Zl sT)) Zo)
   (E4.2 hP T S hr))⟩
def M8:{W//SX 8 Ue ["_law_script","_law_cells","_law_head","_law_half","_law_one","_law_other","_law_whole","_law_told","_law_rows","_law_others","_law_raised_here","_law_due"] "law" W}:=⟨_,λhP T S hr=>by
  have nd:=N0.nd
  have hu:=Yk hr
  exact(Zd (Zq (i:=8) nd (cP hP (Z3 S.zal hr (by rfl) (Za (Zb 4) Zc))))
   (Zd (Zq (i:=9) nd (cP hP (Z3 S.zal hr (by rfl) (Za (Zb 5) Zc))))
   (Zd (Zv (Zm (Yn hu) (Yu V2 (Yu Q2 (Zb 2) Zh) Zh) Zh) (Zi (Zq (i:=7) nd (cP hP (Z3 S.zal hr (by rfl) (Za (Zb 6) Zc))))) Zo)
   (M9.2 hP T S hr))))⟩
def A5:{W//SX 0 Ue ["_law_script","_law_cells","_law_head","_law_half","_law_one","_law_other","_law_whole","_law_told","_law_rows","_law_others","_law_raised_here","_law_due"] "law" W}:=⟨_,λhP T S hr=>by
  have nd:=N0.nd
  have hu:=Yk hr
  exact(Zd (Zq (i:=1) nd (Gb (Zb 0) (Xo Zh) (Xo Zh)))
   (Zd (Zq (i:=2) nd (cP hP (Z3 S.zaq hr (by rfl) (Za (Ls sY (by rfl) T.zai Au (Za (Gb (Zb 0) Va (Xo Zh)) Zc)) Zc))))
   (Zd (Zq (i:=3) nd (Yu Q2 (En Ew (by rfl) T.zan PySem.boot_len (Za (Zb 1) Zc)) Zh))
   (Zd (Zq (i:=4) nd (cP hP (Z3 S.zag hr (by rfl) (Za (Gd rfl (by rfl) T.zai (by rfl) T.zaj (Gb (Zb 1) Va (Xo (Zb 3)))) (Za Zh Zc)))))
   (Zd (Zq (i:=5) nd (cP hP (Z3 S.zag hr (by rfl) (Za (Gd rfl (by rfl) T.zai (by rfl) T.zaj (Gb (Zb 1) (Xo (Zb 3)) Va)) (Za Zh Zc)))))
   (Zd (Zq (i:=6) nd (cP hP (Z3 S.zat hr (by rfl) (Za (Yu V2 (Zb 2) Zh) (Za (Yu Jj Zk (Ls Cy (by rfl) T.zau Cw (Za (Yu V2 (Yu Q2 (Zb 2) Zh) (Yu B3 Zh Zh)) Zc))) (Za (Zb 4) (Za (Zb 5) Zc)))))))
   (Zd (Zq (i:=7) nd (Z8 Zc))
   (Zd (Zv (Zm (Yn hu) (Yu V2 (Yu Q2 (Zb 2) Zh) Zh) Zh) (Zi (Zq (i:=7) nd (cP hP (Z3 S.zal hr (by rfl) (Za (Zb 6) Zc))))) Zo)
   (M8.2 hP T S hr)))))))))⟩
def Nr:Calls->WS:=M7.1
def U9:Calls->WS:=Tu.1
def Rk:Calls->WS:=R9.1
def E9:Calls->WS:=Bh.1
def V7:Calls->WS:=Uo.1
def Xx:Calls->WS:=X7.1
def Wm:Calls->WS:=Wy.1
def Ua:Calls->WS:=Ur.1
def Vh:Calls->WS:=Vw.1
def Wn:Calls->WS:=Wz.1
def Xe:Calls->WS:=Xg.1
def Xw:Calls->WS:=X6.1
def Ib:Calls->WS:=Gv.1
def Pm:Calls->WS:=Oe.1
def Xa:Calls->WS:=Xd.1
def yw:Calls->WS:=Se.1
def yv:Calls->WS:=Sb.1
def yu:Calls->WS:=Sa.1
def yt:Calls->WS:=T9.1
def yr:Calls->WS:=T8.1
def yq:Calls->WS:=T7.1
def yp:Calls->WS:=T6.1
def yo:Calls->WS:=T4.1
def yn:Calls->WS:=T3.1
def U7:Calls->WS:=Tq.1
def Ta:Calls->WS:=Tv.1
def X8:Calls->WS:=Wd.1
def Js:Calls->WS:=Jy.1
def U6:Calls->WS:=Tp.1
def U8:Calls->WS:=Ts.1
def Sh:Calls->WS:=Rb.1
def zc:Calls->WS:=U5.1
def zb:Calls->WS:=U4.1
def za:Calls->WS:=U3.1
def A9:Calls->WS:=U2.1
def A8:Calls->WS:=U1.1
def A7:Calls->WS:=U0.1
def V9:Calls->WS:=Uq.1
def y0:Calls->WS:=Sz.1
def Sg:Calls->WS:=Ra.1
def Wl:Calls->WS:=Ww.1
def J2:Calls->WS:=J7.1
def V8:Calls->WS:=Up.1
def Tb:Calls->WS:=Tw.1
def Wk:Calls->WS:=Wv.1
def w_law_t1:Calls->WS:=E4.1
def w_law_t2:Calls->WS:=M9.1
def w_law_t3:Calls->WS:=M8.1
def w_law:Calls->WS:=A5.1
abbrev jI:Nat:=0
abbrev Hn:Nat:=1
abbrev xI:Nat:=2
abbrev sB:Nat:=3
abbrev Lo:Nat:=4
abbrev zL:Nat:=5
abbrev Oy:Nat:=6
abbrev Lr:Nat:=7
abbrev Mo:Nat:=8
abbrev Oz:Nat:=9
abbrev Qi:Nat:=10
abbrev Pz:Nat:=11
abbrev Ah:Nat:=12
abbrev zK:Nat:=13
abbrev Ws:Nat:=14
abbrev Hl:Nat:=15
abbrev Ho:Nat:=16
abbrev Rx:Nat:=17
abbrev Vs:Nat:=18
abbrev Hk:Nat:=19
abbrev Hm:Nat:=20
abbrev Ol:Nat:=21
abbrev Lq:Nat:=22
abbrev Oj:Nat:=23
abbrev Ox:Nat:=24
abbrev Ri:Nat:=25
abbrev Lp:Nat:=26
abbrev Hr:Nat:=27
abbrev Ov:Nat:=28
abbrev pD:Nat:=29
abbrev ug:Nat:=30
def pr:List Df:=[⟨2,1,Nr⟩,⟨3,2,U9⟩,⟨5,2,Rk⟩,⟨2,1,E9⟩,⟨5,3,V7⟩,⟨1,1,Xx⟩,⟨1,1,Wm⟩,⟨3,2,Ua⟩,⟨2,2,Vh⟩,⟨2,2,Wn⟩,⟨7,3,Xe⟩,⟨5,3,Xw⟩,⟨3,1,Ib⟩,⟨5,2,Pm⟩,⟨8,4,Xa⟩,⟨7,3,U7⟩,⟨5,3,Ta⟩,⟨5,3,X8⟩,⟨6,3,Js⟩,⟨5,2,U6⟩,⟨9,4,U8⟩,⟨1,1,Sh⟩,⟨7,4,V9⟩,⟨4,2,Sg⟩,⟨2,2,Wl⟩,⟨2,1,J2⟩,⟨2,2,V8⟩,⟨4,3,Tb⟩,⟨5,4,Wk⟩,⟨12,1,w_law⟩,⟨0,0,zd "Slots" 5⟩]
def ZUU (i a r:Nat)(w:Calls->WS):Prop:=∀{n:Nat}{vs:List T}{C:Hw}{Q:WK}{χ:WX},vs.length=a->w (Ye pr n) {nx:=λ_ C'=>Q .non C',rt:=Q,xc:=χ} (vs.map some++List.replicate r none) C->Ye pr (n+1) i vs C Q χ
def yB:ZUU 0 1 1 Nr:=λhl h=>⟨_,rfl,hl,h⟩
def Ii:ZUU 1 2 1 U9:=λhl h=>⟨_,rfl,hl,h⟩
def xH:ZUU 2 2 3 Rk:=λhl h=>⟨_,rfl,hl,h⟩
def uA:ZUU 3 1 1 E9:=λhl h=>⟨_,rfl,hl,h⟩
def Lh:ZUU 4 3 2 V7:=λhl h=>⟨_,rfl,hl,h⟩
def Po:ZUU 5 1 0 Xx:=λhl h=>⟨_,rfl,hl,h⟩
def Os:ZUU 6 1 0 Wm:=λhl h=>⟨_,rfl,hl,h⟩
def Lk:ZUU 7 2 1 Ua:=λhl h=>⟨_,rfl,hl,h⟩
def Nu:ZUU 8 2 0 Vh:=λhl h=>⟨_,rfl,hl,h⟩
def Ot:ZUU 9 2 0 Wn:=λhl h=>⟨_,rfl,hl,h⟩
def Qb:ZUU 10 3 4 Xe:=λhl h=>⟨_,rfl,hl,h⟩
def Pn:ZUU 11 3 2 Xw:=λhl h=>⟨_,rfl,hl,h⟩
def xT:ZUU 12 1 2 Ib:=λhl h=>⟨_,rfl,hl,h⟩
def zf:ZUU 13 2 3 Pm:=λhl h=>⟨_,rfl,hl,h⟩
def Tz:ZUU 14 4 4 Xa:=λhl h=>⟨_,rfl,hl,h⟩
def Ig:ZUU 15 3 4 U7:=λhl h=>⟨_,rfl,hl,h⟩
def Ij:ZUU 16 3 2 Ta:=λhl h=>⟨_,rfl,hl,h⟩
def Rn:ZUU 17 3 2 X8:=λhl h=>⟨_,rfl,hl,h⟩
def Vj:ZUU 18 3 3 Js:=λhl h=>⟨_,rfl,hl,h⟩
def Ie:ZUU 19 2 3 U6:=λhl h=>⟨_,rfl,hl,h⟩
def Ih:ZUU 20 4 5 U8:=λhl h=>⟨_,rfl,hl,h⟩
def G7:ZUU 21 1 0 Sh:=λhl h=>⟨_,rfl,hl,h⟩
def Lj:ZUU 22 4 3 V9:=λhl h=>⟨_,rfl,hl,h⟩
def G6:ZUU 23 2 2 Sg:=λhl h=>⟨_,rfl,hl,h⟩
def Oq:ZUU 24 2 0 Wl:=λhl h=>⟨_,rfl,hl,h⟩
def Rh:ZUU 25 1 1 J2:=λhl h=>⟨_,rfl,hl,h⟩
def Li:ZUU 26 2 0 V8:=λhl h=>⟨_,rfl,hl,h⟩
def Ik:ZUU 27 3 1 Tb:=λhl h=>⟨_,rfl,hl,h⟩
def Op:ZUU 28 4 1 Wk:=λhl h=>⟨_,rfl,hl,h⟩
def rY:ZUU 29 1 11 w_law:=λhl h=>⟨_,rfl,hl,h⟩
section
variable {n:Nat}{vs:List T}{C:Hw}{Q:WK}{χ:WX}
def G5 (hl:vs.length=0)(h:∀p,C p=none->Ye pr n 5 (.ref p::vs) (up C p (.ins "Slots" [])) (λv C2=>v=.non/\Q (.ref p) C2) χ):Ye pr (n+1) 30 vs C Q χ:=⟨_,rfl,hl,vs,YK _,h⟩
end
section
variable {Pg:Program}{w:World}{K:W.Frag}{mg:Str->Option Value}{base:Heap}{f:Addr}{fd:FuncData}{n i:Nat}{pr:List Df}{x q:Str}{N ps:List Str}{st:Stmt}
def Qe (D:{W//SX 0 st N q W})(T:Txt w K mg)(S:Cs Pg w K mg base n pr)(sc:Zx N ps (Zn st))(hd:pr[i]?=some ⟨N.length,ps.length,D.1⟩)(F:Bf K x q st f fd):Vv Pg w K mg base CX0 (n+1) f fd ps (spW K pr (n+1) i):=sE F sc hd rfl rfl λ_ _ _ _ _ _ hr=>D.2 rfl T S hr
end
def ia {C:List Value->Prop}(h:C []):∀us:List Value,us.length=0->C us
 | [],_=>h
def uq {C:List Value->Prop}(h:∀a,C [a]):∀us:List Value,us.length=1->C us
 | [a],_=>h a
def xK {C:List Value->Prop}(h:∀a b,C [a,b]):∀us:List Value,us.length=2->C us
 | [a,b],_=>h a b
def uo {C:List Value->Prop}(h:∀a b c,C [a,b,c]):∀us:List Value,us.length=3->C us
 | [a,b,c],_=>h a b c
def oG {C:List Value->Prop}(h:∀a b c d,C [a,b,c,d]):∀us:List Value,us.length=4->C us
 | [a,b,c,d],_=>h a b c d
def kZ {C:List Value->Prop}(h:∀a b c d e,C [a,b,c,d,e]):∀us:List Value,us.length=5->C us
 | [a,b,c,d,e],_=>h a b c d e
def kY {C:List Value->Prop}(h:∀a b c d e f,C [a,b,c,d,e,f]):∀us:List Value,us.length=6->C us
 | [a,b,c,d,e,f],_=>h a b c d e f
def all_mk {l:W.OpenLaw}{w:World}{K:W.Frag}{h:Heap}{mg:Str->Option Value}{fa Aa:Addr}(X:K.In h)(G:h.Ns mainGlobals mg)(hfa:mg "law"=some (.ref fa))
  (Ac:W.nsIn K mainGlobals "Slots"=some (some (.ref Aa)))
  (Ad:W.plainGet K Aa Str.empty=true) (Ae:W.hasDictIn K Aa=true) (Af:W.plainOver K Aa=true) (Ag:W.findIn K (.ref Aa) "__setattr__"=some (some (.builtin "object.__setattr__"))) (Al:W.keepIn K (.ref Aa)=true)
  (Am:W.makesIn K Aa=true)
  (Ah:W.findIn K (.ref Aa) "forms"=some none)
  (Ai:W.findIn K (.ref Aa) "leads"=some none)
  (l0:Fg K "scopes" Pq)
  (l1:Fg K "let_scopes" Ud)
  (l2:Fg K "rows_scopes" Vl)
  (l3:Fg K "free" Im)
  (l4:Fg K "gather_free" Vm)
  (l5:Fh K Aa "__init__" "Slots.__init__" Xk)
  (l6:Fh K Aa "unknown" "Slots.unknown" X1)
  (l7:Fh K Aa "known" "Slots.known" Vo)
  (l8:Fh K Aa "shared" "Slots.shared" Wp)
  (l9:Fh K Aa "form_of" "Slots.form_of" X2)
  (Ay:Fh K Aa "make_alike" "Slots.make_alike" J3)
  (Az:Fh K Aa "join_two" "Slots.join_two" Xj)
  (A0:Fg K "paper" Nw)
  (A3:Fg K "rows_of" Qd)
  (A4:Fg K "places_within" Xy)
  (A6:Fg K "part_slots" Yb)
  (A7:Fg K "does_slots" Uf)
  (A8:Fg K "shape_slots" Vk)
  (A9:Fg K "choose_slots" Wo)
  (AA:Fg K "told_kinds" Ub)
  (AB:Fg K "make_ready" Uc)
  (AC:Fg K "_law_next" Td)
  (AD:Fg K "_law_inside" Yh)
  (AE:Fg K "_law_term" W4)
  (AF:Fg K "_law_numbered" X0)
  (AG:Fg K "_law_all_numbered" Jt)
  (AH:Fg K "_law_raised" Vn)
  (AI:Fg K "_law_above" Ug)
  (AJ:Fg K "_law_together" Xz)
  (Ax:Fg K "law" Ue)
  (At:W.nsIn K mainGlobals "any"=some none)
  (Aq:W.nsIn K mainGlobals "dict"=some none)
  (Aj:W.nsIn K mainGlobals "isinstance"=some none)
  (Au:W.nsIn K mainGlobals "len"=some none)
  (Ar:W.nsIn K mainGlobals "list"=some none)
  (An:W.nsIn K mainGlobals "reversed"=some none)
  (Ao:W.nsIn K mainGlobals "sorted"=some none)
  (Av:W.nsIn K mainGlobals "str"=some none)
  (Ap:W.nsIn K mainGlobals "tuple"=some none)
  (Aw:W.nsIn K mainGlobals "zip"=some none)
  :∃fd:FuncData,(∀(s:Shared) (v:Value),BindsTo s fd ⟨[v],[]⟩ [("_law_script",v)])/\∀base:Heap,K.In base->base.Ns mainGlobals mg->Vv l.prog w K mg base CX0 60 fa fd ["_law_script"] (spW K pr 60 29):=by
 have L29:=Jv (ps:=["_law_script"]) X G Ax λ_ _ _ _ _ _=>uq λ_=>rfl
 obtain⟨AM,_,AK,⟨oc,od,kV,dc,pm,an,cd,ct,sl,rfl,ll,lc⟩,lk⟩:=Ax
 have AL:=sD (st:=Ue) ll lc lk
 have e:=hfa.symm.trans (W.mg_of X G AK)
 cases e
 have T:Txt w K mg:=⟨W.mg_none_of X G At,W.mg_none_of X G Aq,W.mg_none_of X G Aj,W.mg_none_of X G Au,W.mg_none_of X G Ar,W.mg_none_of X G An,W.mg_none_of X G Ao,W.mg_none_of X G Av,W.mg_none_of X G Ap,W.mg_none_of X G Aw,⟨Aa,Ac,⟨Ad,Ae,Af,Ag⟩,Ah⟩,⟨Aa,Ac,⟨Ad,Ae,Af,Ag⟩,Ai⟩⟩
 have Ab:Kl K mg "Slots" Aa:=⟨Ac,W.mg_of X G Ac,⟨Ad,Ae,Af,Ag⟩⟩
 have L0:=Jv (ps:=["term"]) X G l0 λ_ _ _ _ _ _=>uq λ_=>rfl
 have L1:=Jv (ps:=["pairs","body"]) X G l1 λ_ _ _ _ _ _=>xK λ_ _=>rfl
 have L2:=Jv (ps:=["body","steps"]) X G l2 λ_ _ _ _ _ _=>xK λ_ _=>rfl
 have L3:=Jv (ps:=["term"]) X G l3 λ_ _ _ _ _ _=>uq λ_=>rfl
 have L4:=Jv (ps:=["term","bound","found"]) X G l4 λ_ _ _ _ _ _=>uo λ_ _ _=>rfl
 have L5:=Mb (ps:=["self"]) l5 λ_ _ _ _ _ _=>uq λ_=>rfl
 have L6:=Mb (ps:=["self"]) l6 λ_ _ _ _ _ _=>uq λ_=>rfl
 have L7:=Mb (ps:=["self","form"]) l7 λ_ _ _ _ _ _=>xK λ_ _=>rfl
 have L8:=Mb (ps:=["self","slot"]) l8 λ_ _ _ _ _ _=>xK λ_ _=>rfl
 have L9:=Mb (ps:=["self","slot"]) l9 λ_ _ _ _ _ _=>xK λ_ _=>rfl
 have L10:=Mb (ps:=["self","one","other"]) Ay λ_ _ _ _ _ _=>uo λ_ _ _=>rfl
 have L11:=Mb (ps:=["self","left","right"]) Az λ_ _ _ _ _ _=>uo λ_ _ _=>rfl
 have L12:=Jv (ps:=["term"]) X G A0 λ_ _ _ _ _ _=>uq λ_=>rfl
 have L13:=Jv (ps:=["slots","term"]) X G A3 λ_ _ _ _ _ _=>xK λ_ _=>rfl
 have L14:=Jv (ps:=["slots","term","bound","slot"]) X G A4 λ_ _ _ _ _ _=>oG λ_ _ _ _=>rfl
 have L15:=Jv (ps:=["slots","term","slot"]) X G A6 λ_ _ _ _ _ _=>uo λ_ _ _=>rfl
 have L16:=Jv (ps:=["slots","op","slot"]) X G A7 λ_ _ _ _ _ _=>uo λ_ _ _=>rfl
 have L17:=Jv (ps:=["slots","shape","slot"]) X G A8 λ_ _ _ _ _ _=>uo λ_ _ _=>rfl
 have L18:=Jv (ps:=["slots","shape","slot"]) X G A9 λ_ _ _ _ _ _=>uo λ_ _ _=>rfl
 have L19:=Jv (ps:=["slots","rows"]) X G AA λ_ _ _ _ _ _=>xK λ_ _=>rfl
 have L20:=Jv (ps:=["slots","slot","ready","opened"]) X G AB λ_ _ _ _ _ _=>oG λ_ _ _ _=>rfl
 have L21:=Jv (ps:=["_law_left"]) X G AC λ_ _ _ _ _ _=>uq λ_=>rfl
 have L22:=Jv (ps:=["_law_left","_law_way","_law_cell","_law_fuel"]) X G AD λ_ _ _ _ _ _=>oG λ_ _ _ _=>rfl
 have L23:=Jv (ps:=["_law_left","_law_fuel"]) X G AE λ_ _ _ _ _ _=>xK λ_ _=>rfl
 have L24:=Jv (ps:=["_law_kind","_law_numbers"]) X G AF λ_ _ _ _ _ _=>xK λ_ _=>rfl
 have L25:=Jv (ps:=["_law_rows"]) X G AG λ_ _ _ _ _ _=>uq λ_=>rfl
 have L26:=Jv (ps:=["_law_kind","_law_by"]) X G AH λ_ _ _ _ _ _=>xK λ_ _=>rfl
 have L27:=Jv (ps:=["_law_way","_law_one","_law_other"]) X G AI λ_ _ _ _ _ _=>uo λ_ _ _=>rfl
 have L28:=Jv (ps:=["_law_way","_law_name","_law_one","_law_other"]) X G AJ λ_ _ _ _ _ _=>oG λ_ _ _ _=>rfl
 refine⟨W.fnOf "law" "law" (Tk Ue) (X9 Ue) (Zn Ue) .none kV dc pm an cd ct,λs v=>.of_eq rfl,λbase _ _=>?_⟩
 have CS:∀n,Cs l.prog w K mg base n pr:=λn=>by
  induction n with
  | zero=>exact⟨Md L0,Md L1,Md L2,Md L3,Md L4,Md L12,Md L13,Md L14,Md L15,Md L16,Md L17,Md L18,Md L19,Md L20,Md L21,Md L22,Md L23,Md L24,Md L25,Md L26,Md L27,Md L28,Md L29,tV Ab L5,tV Ab L6,tV Ab L7,tV Ab L8,tV Ab L9,tV Ab L10,tV Ab L11,ko (j:=30) rfl Ab Am Al L5⟩
  | succ n ih=>exact⟨Mc L0 (Qe M7 T ih Kg rfl),Mc L1 (Qe Tu T ih Rq rfl),Mc L2 (Qe R9 T ih Ny rfl),Mc L3 (Qe Bh T ih Bs rfl),Mc L4 (Qe Uo T ih Sm rfl),Mc L12 (Qe Gv T ih Fb rfl),Mc L13 (Qe Oe T ih Nz rfl),Mc L14 (Qe Xd T ih Uu rfl),Mc L15 (Qe Tq T ih J8 rfl),Mc L16 (Qe Tv T ih Rs rfl),Mc L17 (Qe Wd T ih Sj rfl),Mc L18 (Qe Jy T ih T0 rfl),Mc L19 (Qe Tp T ih Ro rfl),Mc L20 (Qe Ts T ih Rp rfl),Mc L21 (Qe Rb T ih Ir rfl),Mc L22 (Qe Uq T ih Vp rfl),Mc L23 (Qe Ra T ih Qu rfl),Mc L24 (Qe Ww T ih Pr rfl),Mc L25 (Qe J7 T ih Wf rfl),Mc L26 (Qe Up T ih N1 rfl),Mc L27 (Qe Tw T ih Rt rfl),Mc L28 (Qe Wv T ih Uv rfl),Mc L29 (Qe A5 T ih N0 rfl),tU Ab L5 (Qe X7 T ih Qv rfl),tU Ab L6 (Qe Wy T ih Ps rfl),tU Ab L7 (Qe Ur T ih Sn rfl),tU Ab L8 (Qe Vw T ih T1 rfl),tU Ab L9 (Qe Wz T ih Pt rfl),tU Ab L10 (Qe Xg T ih W0 rfl),tU Ab L11 (Qe X6 T ih Vz rfl),vx (j:=30) rfl Ab Am Al ih.zbf⟩
 exact Qe A5 T (CS (59)) N0 rfl AL
end K24
namespace Fn
open PySem WL
inductive Kd where
 | op (n:Nat) | k0 (g:Str) | k1 (g:Str) (a:Kd) | k2 (g:Str) (a b:Kd)
inductive Fm where
 | f0 (g:Str) | f1 (g:Str) (a:Nat) | f2 (g:Str) (a b:Nat)
def Fm.ev (σ:Nat->Kd):Fm->Kd
 | .f0 g=>.k0 g
 | .f1 g a=>.k1 g (σ a)
 | .f2 g a b=>.k2 g (σ a) (σ b)
def Fm.ps:Fm->List Nat
 | .f0 _=>[]
 | .f1 _ a=>[a]
 | .f2 _ a b=>[a,b]
def Fm.tag:Fm->Str
 | .f0 g=>g
 | .f1 g _=>g
 | .f2 g _ _=>g
def Q6 {σ σ':Nat->Kd}{f:Fm}(h:∀p∈f.ps,σ p=σ' p):f.ev σ=f.ev σ':=by
 cases f with
 | f0 g=>rfl
 | f1 g a=>show Kd.k1 g _=Kd.k1 g _;rw[h a (by simp[Fm.ps])]
 | f2 g a b=>show Kd.k2 g _ _=Kd.k2 g _ _;rw[h a (by simp[Fm.ps]),h b (by simp[Fm.ps])]
structure Us where
 rt:Nat->Nat
 F:List (Option Fm)
structure Us.Ok (u:Us):Prop where
 lt:∀x,x<u.F.length->u.rt x<u.F.length
 id:∀x,x<u.F.length->u.rt (u.rt x)=u.rt x
 ps:∀(x:Nat) (f:Fm),u.F[x]?=some (some f)->∀p∈f.ps,p<u.F.length
def Um (u:Us)(σ:Nat->Kd):Prop:=(∀x,x<u.F.length->σ x=σ (u.rt x))/\∀(x:Nat) (f:Fm),u.F[x]?=some (some f)->σ x=f.ev σ
def W1 (E:Nat->Nat->Prop):Fm->Fm->Prop
 | .f0 g,.f0 h=>g=h
 | .f1 g a,.f1 h c=>g=h/\E a c
 | .f2 g a b,.f2 h c d=>g=h/\E a c/\E b d
 | _,_=>False
def W1.imp {E E':Nat->Nat->Prop}(h:∀a b,E a b->E' a b):∀{f g:Fm},W1 E f g->W1 E' f g
 | .f0 _,.f0 _,q=>q
 | .f1 _ _,.f1 _ _,q=>⟨q.1,h _ _ q.2⟩
 | .f2 _ _ _,.f2 _ _ _,q=>⟨q.1,h _ _ q.2.1,h _ _ q.2.2⟩
def W1.refl {E:Nat->Nat->Prop}(h:∀a,E a a):∀f:Fm,W1 E f f
 | .f0 _=>rfl
 | .f1 _ _=>⟨rfl,h _⟩
 | .f2 _ _ _=>⟨rfl,h _,h _⟩
def W1.trans {E:Nat->Nat->Prop}(h:∀a b c,E a b->E b c->E a c):∀{f g k:Fm},W1 E f g->W1 E g k->W1 E f k
 | .f0 _,.f0 _,.f0 _,p,q=>Eq.trans p q
 | .f1 _ _,.f1 _ _,.f1 _ _,p,q=>⟨p.1.trans q.1,h _ _ _ p.2 q.2⟩
 | .f2 _ _ _,.f2 _ _ _,.f2 _ _ _,p,q=>⟨p.1.trans q.1,h _ _ _ p.2.1 q.2.1,h _ _ _ p.2.2 q.2.2⟩
def W1.symm {E:Nat->Nat->Prop}(h:∀a b,E a b->E b a):∀{f g:Fm},W1 E f g->W1 E g f
 | .f0 _,.f0 _,q=>Eq.symm q
 | .f1 _ _,.f1 _ _,q=>⟨q.1.symm,h _ _ q.2⟩
 | .f2 _ _ _,.f2 _ _ _,q=>⟨q.1.symm,h _ _ q.2.1,h _ _ q.2.2⟩
inductive Ly (u:Us)(pl:List (Nat×Nat)):Nat->Nat->Prop
 | rt {a b:Nat}:u.rt a=u.rt b->Ly u pl a b
 | pr {a b:Nat}:(a,b)∈pl->Ly u pl a b
 | sym {a b:Nat}:Ly u pl a b->Ly u pl b a
 | tr {a b c:Nat}:Ly u pl a b->Ly u pl b c->Ly u pl a c
def Ly.nil {u:Us}{a b:Nat}(h:Ly u [] a b):u.rt a=u.rt b:=by
 induction h with
 | rt e=>exact e
 | pr m=>cases m
 | sym _ ih=>exact ih.symm
 | tr _ _ i j=>exact i.trans j
def Ly.mono {u u':Us}{pl pl':List (Nat×Nat)}(h1:∀a b,u.rt a=u.rt b->Ly u' pl' a b)(h2:∀a b,(a,b)∈pl->Ly u' pl' a b){a b:Nat}(h:Ly u pl a b):Ly u' pl' a b:=by
 induction h with
 | rt e=>exact h1 _ _ e
 | pr m=>exact h2 _ _ m
 | sym _ ih=>exact .sym ih
 | tr _ _ i j=>exact .tr i j
def Vg (u:Us)(pl:List (Nat×Nat)):Prop:=∀(x:Nat) (f:Fm),u.F[x]?=some (some f)->∃g,u.F[u.rt x]?=some (some g)/\W1 (Ly u pl) f g
def Us.add (u:Us)(f:Option Fm):Us:={rt:=λx=>if x=u.F.length then x else u.rt x,F:=u.F++[f]}
def Us.join (u:Us)(a b:Nat):Us:={u with rt:=λx=>if u.rt x=a then b else u.rt x}
section
variable {u:Us}{a b x y:Nat}{σ:Nat->Kd}{pl:List (Nat×Nat)}
def Hi (o:u.Ok)(ha:u.rt a=a)(hb:u.rt b=b)(hlb:b<u.F.length)(n:a≠b):(u.join a b).Ok where
 lt:=λx hx=>by
  show(if u.rt x=a then b else u.rt x)<_
  split
  ·exact hlb
  ·exact o.lt x hx
 id:=λx hx=>by
  show(if u.rt (if u.rt x=a then b else u.rt x)=a then b else u.rt (if u.rt x=a then b else u.rt x))=(if u.rt x=a then b else u.rt x)
  by_cases c:u.rt x=a
  ·rw[XY c,hb,XX (Ne.symm n)]
  ·rw[XX c,o.id x hx,XX c]
 ps:=o.ps
def Hh (e:u.rt x=u.rt y):(u.join a b).rt x=(u.join a b).rt y:=by
 show(if u.rt x=a then b else u.rt x)=(if u.rt y=a then b else u.rt y)
 rw[e]
def Mi (ha:u.rt a=a)(hb:u.rt b=b)(hla:a<u.F.length)(o:u.Ok):Um (u.join a b) σ↔Um u σ/\σ a=σ b:=by
 constructor
 ·rintro⟨h1,h2⟩
  have ea:σ a=σ b:=by
   have:=h1 a hla
   rw[show(u.join a b).rt a=b from XY ha] at this
   exact this
  refine⟨⟨λx hx=>?_,h2⟩,ea⟩
  have h:=h1 x hx
  by_cases c:u.rt x=a
  ·rw[show(u.join a b).rt x=b from XY c] at h
   rw[c,h,ea]
  ·rw[show(u.join a b).rt x=u.rt x from XX c] at h
   exact h
 ·rintro⟨⟨h1,h2⟩,ea⟩
  refine⟨λx hx=>?_,h2⟩
  have h:=h1 x hx
  by_cases c:u.rt x=a
  ·rw[show(u.join a b).rt x=b from XY c,h,c,ea]
  ·rw[show(u.join a b).rt x=u.rt x from XX c]
   exact h
def Us.cnt (u:Us):Nat:=((List.range u.F.length).filter λx=>u.rt x==x).length
def Hy {p q:Nat->Bool}(h:∀x,p x=true->q x=true):∀l:List Nat,(l.filter p).length<=(l.filter q).length
 | []=>XE _
 | x::l=>by
  by_cases c:p x=true
  ·rw[List.filter_cons_of_pos c,List.filter_cons_of_pos (h x c)];exact Nat.succ_le_succ (Hy h l)
  ·rw[List.filter_cons_of_neg c]
   by_cases d:q x=true
   ·rw[List.filter_cons_of_pos d];exact Nat.le_succ_of_le (Hy h l)
   ·rw[List.filter_cons_of_neg d];exact Hy h l
def Hx {p q:Nat->Bool}(h:∀x,p x=true->q x=true){a:Nat}(hp:p a=false)(hq:q a=true):∀l:List Nat,a∈l->(l.filter p).length<(l.filter q).length
 | [],m=>by cases m
 | x::l,m=>by
  by_cases e:x=a
  ·subst e
   rw[List.filter_cons_of_neg (by rw[hp];decide),List.filter_cons_of_pos hq]
   exact Nat.lt_succ_of_le (Hy h l)
  ·have hm:a∈l:=(List.mem_cons.mp m).resolve_left λz=>e z.symm
   by_cases c:p x=true
   ·rw[List.filter_cons_of_pos c,List.filter_cons_of_pos (h x c)];exact Nat.succ_lt_succ (Hx h hp hq l hm)
   ·rw[List.filter_cons_of_neg c]
    by_cases d:q x=true
    ·rw[List.filter_cons_of_pos d];exact Nat.lt_succ_of_lt (Hx h hp hq l hm)
    ·rw[List.filter_cons_of_neg d];exact Hx h hp hq l hm
def Mj (ha:u.rt a=a)(hb:u.rt b=b)(hla:a<u.F.length)(n:a≠b):(u.join a b).cnt<u.cnt:=by
 refine Hx (p:=λx=>(u.join a b).rt x==x) (q:=λx=>u.rt x==x) (a:=a) (λx h=>?_) ?_ (beq_iff_eq.mpr ha) _ (List.mem_range.mpr hla)
 ·have h:(if u.rt x=a then b else u.rt x)=x:=beq_iff_eq.mp h
  by_cases c:u.rt x=a
  ·rw[XY c] at h
   subst h
   exact absurd (c.symm.trans hb) n
  ·rw[XX c] at h
   exact beq_iff_eq.mpr h
 ·refine beq_eq_false_iff_ne.mpr ?_
  show(if u.rt a=a then b else u.rt a)≠a
  rw[XY ha]
  exact Ne.symm n
def Wu {f:Option Fm}(o:u.Ok)(h:∀g,f=some g->∀p∈g.ps,p<u.F.length):(u.add f).Ok where
 lt:=λx hx=>by
  have hx:x<(u.F++[f]).length:=hx
  show(if x=u.F.length then x else u.rt x)<(u.F++[f]).length
  rw[List.length_append,List.length_singleton] at hx |-
  split
  ·exact hx
  ·have:=o.lt x (by omega);omega
 id:=λx hx=>by
  have hx:x<(u.F++[f]).length:=hx
  rw[List.length_append,List.length_singleton] at hx
  show(if (if x=u.F.length then x else u.rt x)=u.F.length then(if x=u.F.length then x else u.rt x) else u.rt (if x=u.F.length then x else u.rt x))=(if x=u.F.length then x else u.rt x)
  by_cases c:x=u.F.length
  ·rw[XY c,XY c]
  ·have:=o.lt x (by omega)
   rw[XX c,XX (by omega),o.id x (by omega)]
 ps:=λx g hx p hp=>by
  have hx:(u.F++[f])[x]?=some (some g):=hx
  show p<(u.F++[f]).length
  rw[List.length_append,List.length_singleton]
  by_cases c:x<u.F.length
  ·rw[List.getElem?_append_left c] at hx
   have:=o.ps x g hx p hp
   omega
  ·have e:x=u.F.length:=by
    have:=(List.getElem?_eq_some_iff.mp hx).1
    rw[List.length_append,List.length_singleton] at this
    omega
   subst e
   rw[List.getElem?_append_right (XE _),Nat.sub_self] at hx
   have:=h g (YH hx) p hp
   omega
def Ph {f:Option Fm}(h:x<u.F.length):(u.add f).rt x=u.rt x:=XX (by omega)
def Ay {f:Option Fm}:(u.add f).rt u.F.length=u.F.length:=XY rfl
def Zr {f:Option Fm}:(u.add f).F.length=u.F.length+1:=by show(u.F++[f]).length=_;rw[List.length_append];rfl
def Np {f:Option Fm}(h:x<u.F.length):(u.add f).F[x]?=u.F[x]?:=List.getElem?_append_left h
def x9 {f:Option Fm}:(u.add f).F[u.F.length]?=some f:=by show(u.F++[f])[u.F.length]?=_;rw[List.getElem?_append_right (XE _),Nat.sub_self];rfl
def Wc {f:Option Fm}(o:u.Ok):Um (u.add f) σ↔Um u σ/\∀g,f=some g->σ u.F.length=g.ev σ:=by
 constructor
 ·rintro⟨h1,h2⟩
  refine⟨⟨λx hx=>?_,λx g hx=>?_⟩,λg e=>h2 _ g (by rw[x9,e])⟩
  ·have:=h1 x (by rw[Zr];omega)
   rw[Ph hx] at this
   exact this
  ·have hl:=(List.getElem?_eq_some_iff.mp hx).1
   exact h2 x g (by rw[Np hl];exact hx)
 ·rintro⟨⟨h1,h2⟩,h3⟩
  refine⟨λx hx=>?_,λx g hx=>?_⟩
  ·rw[Zr] at hx
   by_cases c:x=u.F.length
   ·subst c;rw[Ay]
   ·rw[Ph (by omega)];exact h1 x (by omega)
  ·have hl:=(List.getElem?_eq_some_iff.mp hx).1
   rw[Zr] at hl
   by_cases c:x=u.F.length
   ·subst c;rw[x9] at hx;exact h3 g (YH hx)
   ·rw[Np (by omega)] at hx;exact h2 x g hx
def Vc {f:Option Fm}(o:u.Ok)(h:Vg u []):Vg (u.add f) []:=λx g hx=>by
 have hl:=(List.getElem?_eq_some_iff.mp hx).1
 rw[Zr] at hl
 by_cases c:x=u.F.length
 ·subst c
  rw[Ay]
  exact⟨g,hx,W1.refl (λa=>.rt rfl) g⟩
 ·rw[Np (by omega)] at hx
  obtain⟨k,h1,h2⟩:=h x g hx
  have hr:=o.lt x (by omega)
  rw[Ph (by omega)]
  have hk:=o.ps _ k h1
  have hg:=o.ps _ g hx
  refine⟨k,by rw[Np hr];exact h1,?_⟩
  have key:∀a b,a<u.F.length->b<u.F.length->Ly u [] a b->Ly (u.add f) [] a b:=λa b ha hb e=>.rt (by rw[Ph ha,Ph hb];exact e.nil)
  cases g with
  | f0 w=>cases k with
   | f0 v=>exact h2
   | f1 v c=>exact h2.elim
   | f2 v c d=>exact h2.elim
  | f1 w c=>cases k with
   | f0 v=>exact h2.elim
   | f1 v d=>exact⟨h2.1,key _ _ (hg _ (by simp[Fm.ps])) (hk _ (by simp[Fm.ps])) h2.2⟩
   | f2 v c d=>exact h2.elim
  | f2 w c d=>cases k with
   | f0 v=>exact h2.elim
   | f1 v d=>exact h2.elim
   | f2 v c' d'=>exact⟨h2.1,key _ _ (hg _ (by simp[Fm.ps])) (hk _ (by simp[Fm.ps])) h2.2.1,key _ _ (hg _ (by simp[Fm.ps])) (hk _ (by simp[Fm.ps])) h2.2.2⟩
def Gx (f g:Fm):List (Nat×Nat):=f.ps.zip g.ps
def xr {p:Nat×Nat}(e:u.rt p.1=u.rt p.2)(h:Vg u (p::pl)):Vg u pl:=λx f hx=>by
 obtain⟨g,h1,h2⟩:=h x f hx
 refine⟨g,h1,h2.imp λc d q=>q.mono (λ_ _ z=>.rt z) λc d m=>?_⟩
 rcases List.mem_cons.mp m with z | m
 ·subst z;exact .rt e
 ·exact .pr m
def xq {p:Nat×Nat}(e1:u.rt p.1=a)(e2:u.rt p.2=b)(ha:u.F[a]?=some none)(h:Vg u (p::pl))(o:u.Ok)(hb:u.rt b=b)(n:a≠b):Vg (u.join a b) pl:=λx f hx=>by
 obtain⟨g,h1,h2⟩:=h x f hx
 have c:u.rt x≠a:=λz=>by rw[z,ha] at h1;cases h1
 refine⟨g,by rw[show(u.join a b).rt x=u.rt x from XX c];exact h1,h2.imp λc d q=>q.mono (λ_ _ z=>.rt (Hh z)) λc d m=>?_⟩
 rcases List.mem_cons.mp m with z | m
 ·subst z
  refine .rt ?_
  show(if u.rt c=a then b else u.rt c)=(if u.rt d=a then b else u.rt d)
  rw[XY e1,XX (by rw[e2];exact Ne.symm n),e2]
 ·exact .pr m
def zX {p:Nat×Nat}{f g:Fm}(e1:u.rt p.1=a)(e2:u.rt p.2=b)(ha:u.rt a=a)(hfa:u.F[a]?=some (some f))(hfb:u.F[b]?=some (some g))(al:f.tag=g.tag/\f.ps.length=g.ps.length)(h:Vg u (p::pl))(n:a≠b):
  Vg (u.join b a) (pl++Gx f g):=λx k hx=>by
 obtain⟨k',h1,h2⟩:=h x k hx
 have mo:∀c d,Ly u (p::pl) c d->Ly (u.join b a) (pl++Gx f g) c d:=λc d q=>q.mono (λ_ _ z=>.rt (Hh z)) λc d m=>by
  rcases List.mem_cons.mp m with z | m
  ·subst z
   refine .rt ?_
   show(if u.rt c=b then a else u.rt c)=(if u.rt d=b then a else u.rt d)
   rw[XX (by rw[e1];exact n),XY e2,e1]
  ·exact .pr (List.mem_append_left _ m)
 have fg:W1 (Ly (u.join b a) (pl++Gx f g)) g f:=by
  refine W1.symm (λ_ _ z=>.sym z) ?_
  have pr:∀c d,(c,d)∈Gx f g->Ly (u.join b a) (pl++Gx f g) c d:=λc d m=>.pr (XT _ m)
  cases f with
  | f0 w=>cases g with
   | f0 v=>exact al.1
   | f1 v c=>exact absurd al.2 (by simp[Fm.ps])
   | f2 v c d=>exact absurd al.2 (by simp[Fm.ps])
  | f1 w c=>cases g with
   | f0 v=>exact absurd al.2 (by simp[Fm.ps])
   | f1 v d=>exact⟨al.1,pr _ _ (by simp[Gx,Fm.ps])⟩
   | f2 v c d=>exact absurd al.2 (by simp[Fm.ps])
  | f2 w c d=>cases g with
   | f0 v=>exact absurd al.2 (by simp[Fm.ps])
   | f1 v d=>exact absurd al.2 (by simp[Fm.ps])
   | f2 v c' d'=>exact⟨al.1,pr _ _ (by simp[Gx,Fm.ps]),pr _ _ (by simp[Gx,Fm.ps])⟩
 by_cases c:u.rt x=b
 ·rw[c,hfb] at h1
  cases h1
  exact⟨f,by rw[show(u.join b a).rt x=a from XY c];exact hfa,(h2.imp mo).trans (λ_ _ _ y z=>.tr y z) fg⟩
 ·exact⟨k',by rw[show(u.join b a).rt x=u.rt x from XX c];exact h1,h2.imp mo⟩
def Cu {p:Nat×Nat}(e1:u.rt p.1=a)(e2:u.rt p.2=b)(hfb:u.F[b]?=some none)(h:Vg u (p::pl))(n:a≠b):Vg (u.join b a) pl:=λx f hx=>by
 obtain⟨g,h1,h2⟩:=h x f hx
 have c:u.rt x≠b:=λz=>by rw[z,hfb] at h1;cases h1
 refine⟨g,by rw[show(u.join b a).rt x=u.rt x from XX c];exact h1,h2.imp λc d q=>q.mono (λ_ _ z=>.rt (Hh z)) λc d m=>?_⟩
 rcases List.mem_cons.mp m with z | m
 ·subst z
  refine .rt ?_
  show(if u.rt c=b then a else u.rt c)=(if u.rt d=b then a else u.rt d)
  rw[XX (by rw[e1];exact n),XY e2,e1]
 ·exact .pr m
def Mv {f g:Fm}(h:f.ev σ=g.ev σ):(f.tag=g.tag/\f.ps.length=g.ps.length)/\∀p∈Gx f g,σ p.1=σ p.2:=by
 cases f with
 | f0 w=>cases g with
  | f0 v=>injection h with h;exact⟨⟨h,rfl⟩,λp m=>by cases m⟩
  | f1 v c=>cases h
  | f2 v c d=>cases h
 | f1 w c=>cases g with
  | f0 v=>cases h
  | f1 v d=>injection h with h1 h2;exact⟨⟨h1,rfl⟩,λp m=>by simp[Gx,Fm.ps] at m;subst m;exact h2⟩
  | f2 v c d=>cases h
 | f2 w c d=>cases g with
  | f0 v=>cases h
  | f1 v d=>cases h
  | f2 v c' d'=>injection h with h1 h2 h3;exact⟨⟨h1,rfl⟩,λp m=>by
    simp[Gx,Fm.ps] at m
    rcases m with rfl | rfl
    ·exact h2
    ·exact h3⟩
end
end Fn
namespace WL
open PySem PySem.Spec PyProof.Rows L2
def Ex (C C':Hw):Prop:=∀a o,C a=some o->C' a=some o
def Ex.refl (C:Hw):Ex C C:=λ_ _ h=>h
def Ex.trans {C C1 C2:Hw}(a:Ex C C1)(b:Ex C1 C2):Ex C C2:=λc o h=>b c o (a c o h)
def cne {C:Hw}{a b:Addr}{o:O}(h:C a=some o)(h':C b=none):a≠b:=λe=>by subst e;rw[h] at h';cases h'
def Ex.new {C:Hw}{p:Addr}{o:O}(h:C p=none):Ex C (up C p o):=λa u e=>by rw[Zg (cne e h)];exact e
def Ex.up {C C':Hw}{p:Addr}{o:O}(e:Ex C C')(h:C p=none):Ex C (up C' p o):=λa u q=>by rw[Zg (cne q h)];exact e a u q
def vm {C:Hw}{p q:Addr}{o:O}(h:up C p o q=none):q≠p/\C q=none:=by
 have n:q≠p:=λz=>by subst z;rw[Ze] at h;cases h
 rw[Zg n] at h
 exact⟨n,h⟩
def Ex.free {C C':Hw}(e:Ex C C'){p:Addr}(h:C' p=none):C p=none:=by
 cases q:C p with
 | none=>rfl
 | some o=>rw[e p o q] at h;cases h
def E3 (p:Addr)(C C':Hw):Prop:=∀a o,a≠p->C a=some o->C' a=some o
def E3.refl (p:Addr)(C:Hw):E3 p C C:=λ_ _ _ h=>h
def E3.trans {p:Addr}{C C1 C2:Hw}(a:E3 p C C1)(b:E3 p C1 C2):E3 p C C2:=λc o n h=>b c o n (a c o n h)
def Ex.exB {C C':Hw}(e:Ex C C')(p:Addr):E3 p C C':=λa o _ h=>e a o h
def E3.put {p:Addr}{C C':Hw}{o:O}(e:E3 p C C'):E3 p C (WL.up C' p o):=λa u n h=>by rw[Zg n];exact e a u n h
def Ks:∀{xs:List T} {n:Nat},Yp xs n=true↔∀x∈xs,Je x n=true
 | [],n=>by unfold Yp;simp
 | x::xs,n=>by unfold Yp;rw[Bool.and_eq_true,Ks];simp
def Eh {x:Str}{n:Nat}:Je (.str x) n=true:=by unfold Je;rfl
def jR {x:Int}{n:Nat}:Je (.int x) n=true:=by unfold Je;rfl
def vn {x:Bool}{n:Nat}:Je (.bl x) n=true:=by unfold Je;rfl
def Ml {x:Str}:Yz (.str x)=True:=eq_true Eh
def Mm {x:Int}:Yz (.int x)=True:=eq_true jR
def Kp {x:Bool}:Yz (.bl x)=True:=eq_true vn
def Ci {xs:List Str}{n:Nat}:Yp (xs.map T.str) n=true:=Ks.mpr λx hx=>by obtain⟨y,_,rfl⟩:=XR.mp hx;exact Eh
section
variable {n:Bool}{C:Hw}{Q:WK}
def W3 {a b:Str}:Nt n (.str a) (.str b) C Q=Q (.bl (if n=true then !(a==b) else a==b)) C:=by
 show(Yz _/\Yz _/\Q (.bl (if n=true then !Jh (.str a) (.str b) else Jh (.str a) (.str b))) C)=_
 rw[Ml,Ml,true_and,true_and,show Jh (.str a) (.str b)=(a==b) by unfold Jh;rfl]
def Ic {a b:Int}:Nt n (.int a) (.int b) C Q=Q (.bl (if n=true then !(a==b) else a==b)) C:=by
 show(Yz _/\Yz _/\Q (.bl (if n=true then !Jh (.int a) (.int b) else Jh (.int a) (.int b))) C)=_
 rw[Mm,Mm,true_and,true_and,show Jh (.int a) (.int b)=(a==b) by unfold Jh;rfl]
def u9 {a b:Bool}:Nt n (.bl a) (.bl b) C Q=Q (.bl (if n=true then !(a==b) else a==b)) C:=by
 show(Yz _/\Yz _/\Q (.bl (if n=true then !Jh (.bl a) (.bl b) else Jh (.bl a) (.bl b))) C)=_
 rw[Kp,Kp,true_and,true_and,show Jh (.bl a) (.bl b)=(a==b) by unfold Jh;rfl]
end
section
variable {α:Type}{a b c d e:α}{xs:List α}
def sG:(a::xs).eraseIdx 0=xs:=rfl
def Z4:Pf (a::xs) 0=some a:=Vb (j:=0) rfl
def V5:Pf (a::b::xs) 1=some b:=Vb (j:=1) rfl
def K5:Pf (a::b::c::xs) 2=some c:=Vb (j:=2) rfl
def pX:Pf (a::b::c::d::xs) 3=some d:=Vb (j:=3) rfl
def pW:Pf (a::b::c::d::e::xs) 4=some e:=Vb (j:=4) rfl
def rm:Pf [a] (-1)=some a:=rfl
def rj:Pf [a,b] (-1)=some b:=rfl
def rh:Pf [a,b,c] (-1)=some c:=rfl
def rg:Pf [a,b,c,d] (-1)=some d:=rfl
end
def Hu {g:WG}{b:WS}{ok:Hw->Prop}{D:We}{xs:List T}(Pv:Nat->Sw->Hw->Prop){τ:Sw}{C:Hw}(h0:Pv 0 τ C)(hok:∀i τ C,i<=xs.length->Pv i τ C->ok C)
  (hs:∀i x τ C (N:Sw->Hw->Prop),xs[i]?=some x->Pv i τ C->(∀τ' C',Pv (i+1) τ' C'->N τ' C')->g x τ C (λτ2 C2=>b {D with nx:=N,ct:=N,bk:=D.nx} τ2 C2) D.xc)
  (hd:∀τ C,Pv xs.length τ C->D.nx τ C):Ch g b ok D xs τ C:=by
 have key:∀(k i:Nat) (τ:Sw) (C:Hw),xs.length-i=k->i<=xs.length->Pv i τ C->Ch g b ok D (xs.drop i) τ C:=by
  intro k
  induction k with
  | zero=>
   intro i τ C hk hi hp
   have e:i=xs.length:=by omega
   subst e
   rw[List.drop_length]
   exact⟨hok _ τ C (XE _) hp,hd τ C hp⟩
  | succ k ih=>
   intro i τ C hk hi hp
   have hlt:i<xs.length:=by omega
   rw[List.drop_eq_getElem_cons hlt]
   exact⟨hok i τ C hi hp,hs i _ τ C _ (by simp[hlt]) hp λτ' C' h=>ih (i+1) τ' C' (by omega) hlt h⟩
 exact key xs.length 0 τ C (by simp) (Nat.zero_le _) h0
def Xp {g:WG}{c:WT}{e:WE}{ok:Hw->Prop}{τ:Sw}{Q:List T->Hw->Prop}{χ:WX}{xs:List T}(Pv:Nat->List T->Hw->Prop){C:Hw}(h0:Pv 0 [] C)(hok:∀i acc C,i<=xs.length->Pv i acc C->ok C)
  (hs:∀i x acc C (N:List T->Hw->Prop),xs[i]?=some x->Pv i acc C->(∀acc' C',Pv (i+1) acc' C'->N acc' C')->
   g x τ C (λτ2 C2=>c τ2 C2 (λb C3=>if b=true then e τ2 C3 (λv C4=>acc.length<sizeLine/\N (acc++[v]) C4) χ else N acc C3) χ) χ)
  (hd:∀acc C,Pv xs.length acc C->Q acc C):Oo g c e ok τ Q χ xs [] C:=by
 have key:∀(k i:Nat) (acc:List T) (C:Hw),xs.length-i=k->i<=xs.length->Pv i acc C->Oo g c e ok τ Q χ (xs.drop i) acc C:=by
  intro k
  induction k with
  | zero=>
   intro i acc C hk hi hp
   have e:i=xs.length:=by omega
   subst e
   rw[List.drop_length]
   exact⟨hok _ acc C (XE _) hp,hd acc C hp⟩
  | succ k ih=>
   intro i acc C hk hi hp
   have hlt:i<xs.length:=by omega
   rw[List.drop_eq_getElem_cons hlt]
   exact⟨hok i acc C hi hp,hs i _ acc C _ (by simp[hlt]) hp λacc' C' h=>ih (i+1) acc' C' (by omega) hlt h⟩
 exact key xs.length 0 [] C (by simp) (Nat.zero_le _) h0
def X5 {g:WG}{e:WE}{ok:Hw->Prop}{τ:Sw}{Q:List T->Hw->Prop}{χ:WX}{xs:List T}(f:T->T){C:Hw}(hok:ok C)(hl:xs.length<=sizeLine)
  (hs:∀x∈xs,∀R:WK,R (f x) C->g x τ C (λτ2 C2=>e τ2 C2 R χ) χ) (hd:Q (xs.map f) C):Oo g yF e ok τ Q χ xs [] C:=by
 refine Xp (λi acc C'=>C'=C/\acc=(xs.take i).map f) ⟨rfl,rfl⟩ (λi acc C' _ h=>by rw[h.1];exact hok) (λi x acc C' N hx hp hN=>?_) (λacc C' h=>?_)
 ·obtain⟨rfl,rfl⟩:=hp
  have hi:i<xs.length:=(List.getElem?_eq_some_iff.mp hx).1
  refine hs x (List.mem_of_getElem? hx) _ ⟨?_,hN _ _ ⟨rfl,?_⟩⟩
  ·rw[XI,YM];omega
  ·rw[YD,hx,XL];rfl
 ·obtain⟨rfl,rfl⟩:=h
  rw[List.take_length];exact hd
def jH {z:Str}{zs:List Str}:Kq (.str z) (zs.map T.str)=decide (z∈zs):=by
 unfold Kq
 rw[List.any_map]
 induction zs with
 | nil=>rfl
 | cons y ys ih=>
  rw[List.any_cons,ih]
  have e:(((λy=>Jh y (.str z))∘T.str) y)=(y==z):=by show Jh (.str y) (.str z)=_;unfold Jh;rfl
  rw[e]
  by_cases h:y=z
  ·subst h;simp
  ·have h':z≠y:=λq=>h q.symm
   simp[h,h']
def Vx {n:Nat}(h:n<=100000):n<=sizeLine:=XN h (by decide)
def Yj {n:Nat}(h:n<=100000):n<sizeLine:=Nat.lt_of_le_of_lt h (by decide)
end WL
namespace K24
open PySem PySem.Spec PyProof.Rows L2 WL Fn
local macro_rules | `(tactic| walk_at "ws") => `(tactic| try simp (config := { decide := true }) only [Y0, eC, Wi, kB, Zw, Ya, O0, Co, Sv, sK, mr, mv, sL, kC, mq, uD, yN, nD, yJ, lN, sJ, G2, u6, ni, rX, rV, rT, ng, mW, lH, mX, lJ, rW, rU, Lf, oB, B4, oZ, oF, pV, mC, mB, Gp, ur, pH, rZ, zO, Eg, Oa, oE, lB, So, Px, Fj, Iz, qE, wx, Dh, nI, vY, Dg, wz, jJ, kx, ku, ky, Ge, yF, Kt, qa, lK, B7, px, tS, E7, mV, lI, y9, W3, Ic, sG, Z4, V5, K5, pX, pW, rm, rj, rh, rg, u9,
  List.map_cons, List.map_nil, List.length_cons, List.length_nil, List.replicate, List.cons_append, List.nil_append, List.getElem?_cons_zero, List.getElem?_cons_succ, List.set_cons_zero, List.set_cons_succ, Option.some.injEq, T.int.injEq, T.str.injEq, T.bl.injEq, T.ref.injEq, T.tup.injEq, T.cl.injEq, exists_eq_left', exists_eq_left, exists_eq', exists_and_left, and_assoc, List.cons.injEq, and_true, true_and, reduceCtorEq, false_and, exists_false, List.append_nil, if_true, if_false, Bool.not_not, decide_eq_true_eq, Bool.not_eq_true', decide_eq_false_iff_not, Bool.false_eq_true, List.nil_eq, Option.bind_none, Option.bind_some, Option.join_some, Nat.reduceAdd, Nat.reduceSub, Nat.sub_self, Nat.zero_add, Nat.sub_zero, beq_iff_eq, Bool.not_false, Bool.not_true])
section
variable {A B:WS}{D:We}{τ:Sw}{C:Hw}{i k:Nat}{v:T}{r:List T}{s s' w:Str}{x y:Int}
def Ec (h:τ[0]?=some (some (.tup (v::r))))(q:B D (τ.set k (some v)) C):Px (Dh (Wi Lf (Y0 0) (eC (.int 0))) (zO k)) B D τ C:=⟨_,h,_,Z4,q⟩
def Ea (h:τ[i]?=some (some (.str w)))(hw:w=s)(q:A {D with nx:=B D} τ C):Px (wx (yN (Wi E7 (Y0 i) (eC (.str s)))) A So) B D τ C:=by
 refine⟨_,h,?_⟩
 simp only[eC]
 rw[E7,W3,hw]
 refine⟨true,by simp,?_⟩
 rw[XY rfl];exact q
def Sf (h:τ[i]?=some (some (.str w)))(hw:w≠s)(q:B D τ C):Px (wx (yN (Wi E7 (Y0 i) (eC (.str s)))) A So) B D τ C:=by
 refine⟨_,h,?_⟩
 simp only[eC]
 rw[E7,W3]
 refine⟨false,by simp[hw],?_⟩
 rw[XX (by decide)];exact q
def jC (h:τ[i]?=some (some (.str w)))(hw:w=s\/w=s')(q:A {D with nx:=B D} τ C):Px (wx (yJ (yN (Wi E7 (Y0 i) (eC (.str s)))) (yN (Wi E7 (Y0 i) (eC (.str s'))))) A So) B D τ C:=by
 refine⟨_,h,?_⟩
 simp only[eC]
 rw[E7,W3]
 by_cases c:w=s
 ·refine⟨true,by simp[c],?_⟩
  rw[XY rfl];exact q
 ·refine⟨false,by simp[c],?_⟩
  rw[XX (by decide)]
  refine⟨_,h,?_⟩
  simp only[eC]
  rw[W3]
  have c':w=s':=hw.resolve_left c
  refine⟨true,by simp[c'],?_⟩
  rw[XY rfl];exact q
def Eb (h:τ[i]?=some (some (.str w)))(hw:w≠s)(hw':w≠s')(q:B D τ C):Px (wx (yJ (yN (Wi E7 (Y0 i) (eC (.str s)))) (yN (Wi E7 (Y0 i) (eC (.str s'))))) A So) B D τ C:=by
 refine⟨_,h,?_⟩
 simp only[eC]
 rw[E7,W3]
 refine⟨false,by simp[hw],?_⟩
 rw[XX (by decide)]
 refine⟨_,h,?_⟩
 simp only[eC]
 rw[W3]
 refine⟨false,by simp[hw'],?_⟩
 rw[XX (by decide)];exact q
end
def vV:List Str:=["does","call","first","fun","let","shape","choose","rows"]
inductive Sc:T->Option Nat->List (List T×T)->Prop
 | does {o A B:T}:Sc (.tup [.str "does",o,A,B]) none [([],A),([],B)]
 | call {A B:T}:Sc (.tup [.str "call",A,B]) none [([],A),([],B)]
 | first {A B:T}:Sc (.tup [.str "first",A,B]) none [([],A),([],B)]
 | fun_ {x B:T}:Sc (.tup [.str "fun",x,B]) none [([x],B)]
 | let_ {B:T} {xs:List (T×T)} (h:xs.length<=1000):Sc (.tup [.str "let",.tup (xs.map λx=>.tup [x.1,x.2]),B]) none (xs.map (λx=>(xs.map (·.1),x.2))++[(xs.map (·.1),B)])
 | shape {c:T} {ps:List T} (h:ps.length<=1000):Sc (.tup [.str "shape",c,.tup ps]) none (ps.map λx=>([],x))
 | choose {E:T} {ys:List (T×List T×T)} (h:ys.length<=1000):Sc (.tup [.str "choose",E,.tup (ys.map λy=>.tup [y.1,.tup y.2.1,y.2.2])]) none (([],E)::ys.map (·.2))
 | other {w:Str} {Xl:List T} (h:w∉vV):Sc (.tup (.str w::Xl)) none []
def vX (s:List T×T):T:=.tup [.tup s.1,s.2]
section
variable {C:Hw}{Q:WK}{χ:WX}{n:Nat}
def Ix {B:T}{xs:List (T×T)}(h:xs.length<=1000)(q:∀p C',Ex C C'->C p=none->C' p=some (.lst ((xs.map (λx=>(xs.map (·.1),x.2))++[(xs.map (·.1),B)]).map vX))->Q (.ref p) C'):
  Ye pr (n+1) Hn [.tup (xs.map λx=>.tup [x.1,x.2]),B] C Q χ:=by
 refine Ii rfl ?_
 unfold U9 Tu
 walk_at "ws"
 have hl:(xs.map λx:T×T=>T.tup [x.1,x.2]).length<=sizeLine:=by rw[XI];exact Vx (by omega)
 refine X5 (λt=>match t with | .tup [a,_]=>a | _=>.non) trivial hl (λx hx R hR=>?_) λp hp=>?_
 ·obtain⟨y,_,rfl⟩:=XR.mp hx
  walk_at "ws"
  exact hR
 refine⟨_,Ze,?_⟩
 have e:(xs.map λx:T×T=>T.tup [x.1,x.2]).map (λt=>match t with | .tup [a,_]=>a | _=>T.non)=xs.map (·.1):=by rw[YE];rfl
 rw[e]
 refine X5 (λt=>match t with | .tup [_,b]=>.tup [.tup (xs.map (·.1)),b] | _=>.non) trivial hl (λx hx R hR=>?_) λp2 hp2=>?_
 ·obtain⟨y,_,rfl⟩:=XR.mp hx
  walk_at "ws"
  exact hR
 intro p3 hp3
 obtain⟨n2,e2⟩:=vm hp2
 obtain⟨n32,h32⟩:=vm hp3
 obtain⟨n31,e3⟩:=vm h32
 refine⟨_,by rw[Zg n32.symm];exact Ze,_,Ze,?_,λp4 hp4=>?_⟩
 ·rw[XI,XI];exact Vx (by show xs.length+1<=100000;omega)
 ·obtain⟨n43,h43⟩:=vm hp4
  obtain⟨n42,h42⟩:=vm h43
  obtain⟨n41,e4⟩:=vm h42
  refine q p4 _ ((((Ex.new hp).up e2).up e3).up e4) e4 ?_
  rw[Ze,XL,YE,YE]
  rfl
def Fc {t:T}{e:Option Nat}{ss:List (List T×T)}(h:Sc t e ss)(q:∀p C',Ex C C'->C p=none->C' p=some (.lst (ss.map vX))->Q (.ref p) C'):Ye pr (n+2) jI [t] C Q χ:=by
 refine yB rfl ?_
 unfold Nr M7
 cases h with
 | does=>refine Ec rfl (Ea rfl rfl ?_);walk_at "ws";exact λp hp=>q p _ (Ex.new hp) hp Ze
 | call=>refine Ec rfl (Sf rfl (by decide+kernel) (jC rfl (.inl rfl) ?_));walk_at "ws";exact λp hp=>q p _ (Ex.new hp) hp Ze
 | first=>refine Ec rfl (Sf rfl (by decide+kernel) (jC rfl (.inr rfl) ?_));walk_at "ws";exact λp hp=>q p _ (Ex.new hp) hp Ze
 | fun_=>refine Ec rfl (Sf rfl (by decide+kernel) (Eb rfl (by decide+kernel) (by decide+kernel) (Ea rfl rfl ?_)));walk_at "ws";exact λp hp=>q p _ (Ex.new hp) hp Ze
 | let_ h=>refine Ec rfl (Sf rfl (by decide+kernel) (Eb rfl (by decide+kernel) (by decide+kernel) (Sf rfl (by decide+kernel) (Ea rfl rfl ?_))));walk_at "ws";exact Ix h q
 | shape h=>
  refine Ec rfl (Sf rfl (by decide+kernel) (Eb rfl (by decide+kernel) (by decide+kernel) (Sf rfl (by decide+kernel) (Sf rfl (by decide+kernel) (Ea rfl rfl ?_)))))
  walk_at "ws"
  refine X5 (λt=>.tup [.tup [],t]) trivial (Vx (by omega)) (λx hx R hR=>?_) λp hp=>q p _ (Ex.new hp) hp ?_
  ·walk_at "ws"
   exact hR
  ·rw[Ze,YE];rfl
 | @choose E ys h=>
  refine Ec rfl (Sf rfl (by decide+kernel) (Eb rfl (by decide+kernel) (by decide+kernel) (Sf rfl (by decide+kernel) (Sf rfl (by decide+kernel) (Sf rfl (by decide+kernel) (Ea rfl rfl ?_))))))
  walk_at "ws"
  intro p hp
  refine X5 (λt=>match t with | .tup [_,a,b]=>.tup [a,b] | _=>.non) trivial (by rw[XI];exact Vx (by omega)) (λx hx R hR=>?_) λp2 hp2=>?_
  ·obtain⟨y,_,rfl⟩:=XR.mp hx
   walk_at "ws"
   exact hR
  obtain⟨n2,e2⟩:=vm hp2
  refine⟨_,by rw[Zg n2.symm];exact Ze,_,Ze,?_,λp3 hp3=>?_⟩
  ·rw[XI,XI];exact Vx (by show 1+_<=_;omega)
  ·obtain⟨n32,h32⟩:=vm hp3
   obtain⟨n31,e3⟩:=vm h32
   refine q p3 _ (((Ex.new hp).up e2).up e3) e3 ?_
   rw[Ze,YI,YE,YE];rfl
 | @other w Xl h=>
  have hw:∀s∈vV,w≠s:=λs hs z=>h (z▸hs)
  refine Ec rfl (Sf rfl (hw "does" (by decide)) (Eb rfl (hw "call" (by decide)) (hw "first" (by decide)) (Sf rfl (hw "fun" (by decide)) (Sf rfl (hw "let" (by decide)) (Sf rfl (hw "shape" (by decide)) (Sf rfl (hw "choose" (by decide)) (Sf rfl (hw "rows" (by decide)) ?_)))))))
  walk_at "ws"
  exact λp hp=>q p _ (Ex.new hp) hp Ze
end
section
variable {C:Hw}{Q:WK}{χ:WX}{τ:Sw}
def Z2 {p q:Prop}(h:p):if true=true then p else q:=h
def Zj {p q:Prop}(h:q):if false=true then p else q:=h
def Ko {p q:Prop}{b:Bool}(hb:b=true)(h:p):if b=true then p else q:=by rw[XY hb];exact h
def Oi {p q:Prop}{b:Bool}(hb:b=false)(h:q):if b=true then p else q:=by subst hb;exact h
def k8 {a b:Str}{v:Bool}(h:(a==b)=v)(q:Q (.bl v) C):Nt false (.str a) (.str b) C Q:=by rw[W3,XX (by decide),h];exact q
def kA {a b:Int}{v:Bool}(h:(a==b)=v)(q:Q (.bl v) C):Nt false (.int a) (.int b) C Q:=by rw[Ic,XX (by decide),h];exact q
def Zt {a b:Str}{v:Bool}(h:(a==b)=v)(q:Q (.bl v) C):eC (.str b) τ C (λy C2=>E7 (.str a) y C2 Q) χ:=k8 h q
def Yc {a b:Int}{v:Bool}(h:(a==b)=v)(q:Q (.bl v) C):eC (.int b) τ C (λy C2=>E7 (.int a) y C2 Q) χ:=kA h q
end
structure Sd where
 r:Addr
 f:Addr
 l:Addr
abbrev nT (x:Nat):T:=.int (x:Int)
def Al:Option Fm->T
 | none=>.non
 | some (.f0 g)=>.tup [.str g]
 | some (.f1 g a)=>.tup [.str g,nT a]
 | some (.f2 g a b)=>.tup [.str g,nT a,nT b]
structure LR (rk:Nat->Nat)(L:List Nat)(u:Us):Prop where
 len:L.length=u.F.length
 st:∀x y,L[x]?=some y->y<L.length/\(y=x->u.rt x=x)/\(y≠x->rk y<rk x/\u.rt y=u.rt x)
abbrev sF (A:Sd):List (Str×T):=[("forms",.ref A.f),("leads",.ref A.l)]
structure Sk (rk:Nat->Nat)(L:List Nat)(A:Sd)(C:Hw)(u:Us):Prop where
 r:C A.r=some (.ins "Slots" (sF A))
 f:C A.f=some (.lst (u.F.map Al))
 l:C A.l=some (.lst (L.map nT))
 lr:LR rk L u
 ne:A.f≠A.l
def Sl (A:Sd)(C:Hw)(u:Us):Prop:=∃rk L,Sk rk L A C u
def Fx (A:Sd)(C C':Hw):Prop:=∀b o,b≠A.f->b≠A.l->C b=some o->C' b=some o
def Fx.refl (A:Sd)(C:Hw):Fx A C C:=λ_ _ _ _ h=>h
def Fx.trans {A:Sd}{C C1 C2:Hw}(a:Fx A C C1)(b:Fx A C1 C2):Fx A C C2:=λc o n m h=>b c o n m (a c o n m h)
section
variable {rk:Nat->Nat}{L:List Nat}{A:Sd}{C C':Hw}{u:Us}{Q:WK}{χ:WX}{n x:Nat}{o:O}
def Sk.rf (S:Sk rk L A C u):A.r≠A.f:=λe=>by have h:=S.r;rw[e,S.f] at h;cases h
def Sk.rl (S:Sk rk L A C u):A.r≠A.l:=λe=>by have h:=S.r;rw[e,S.l] at h;cases h
def Fx.upl (h:Fx A C C'):Fx A C (up C' A.l o):=λb u n m e=>by rw[Zg m];exact h b u n m e
def Fx.upf (h:Fx A C C'):Fx A C (up C' A.f o):=λb u n m e=>by rw[Zg n];exact h b u n m e
def Fx.new {p:Addr}(h:Fx A C C')(hp:C p=none):Fx A C (up C' p o):=λb u n m e=>by
 rw[Zg λz=>by rw[z,hp] at e;cases e]
 exact h b u n m e
def Sk.lead {L':List Nat}{rk':Nat->Nat}{u':Us}(S:Sk rk L A C u)(h:LR rk' L' u')(e:u'.F=u.F):Sk rk' L' A (up C A.l (.lst (L'.map nT))) u':=
 ⟨by rw[Zg S.rl];exact S.r,by rw[Zg S.ne,e];exact S.f,Ze,h,S.ne⟩
def Sk.new {p:Addr}(S:Sk rk L A C u)(hp:C p=none):Sk rk L A (up C p o) u:=
 have k:∀{b:Addr} {w:O},C b=some w->up C p o b=some w:=λ{b w} h=>by rw[Zg λz=>by rw[z,hp] at h;cases h];exact h
 ⟨k S.r,k S.f,k S.l,S.lr,S.ne⟩
def Sk.other {p:Addr}(S:Sk rk L A C u)(h1:p≠A.r)(h2:p≠A.f)(h3:p≠A.l):Sk rk L A (up C p o) u:=
 ⟨by rw[Zg h1.symm];exact S.r,by rw[Zg h2.symm];exact S.f,by rw[Zg h3.symm];exact S.l,S.lr,S.ne⟩
def Gq {xs:List Nat}{j y:Nat}(h:xs[j]?=some y):Pf (xs.map nT) (j:Int)=some (nT y):=Vb (by rw[XM,h];rfl)
def He {a b:Int}{v:Bool}(h:(a==b)=v)(q:Q (.bl (!v)) C):Nt true (.int a) (.int b) C Q:=by rw[Ic,XY rfl,h];exact q
def D4 {m j:Nat}(h:j<m):jD m (j:Int)=some j:=by
 unfold jD
 rw[XY (by omega),XY (by omega)]
 rfl
def Wh:(sF A).lookup ("leads":Str)=some (.ref A.l:T):=rfl
def Sr:(sF A).lookup ("forms":Str)=some (.ref A.f:T):=rfl
def wZ {y z w:Nat}(h:LR rk L u)(h1:L[y]?=some z)(n:z≠y)(h2:L[z]?=some w):LR rk (L.set y w) u/\(L.set y w)[y]?=some w/\w<L.length/\rk w<rk y/\u.rt w=u.rt y/\w≠y:=by
 obtain⟨a1,a2,a3⟩:=h.st y z h1
 obtain⟨b1,b2,b3⟩:=h.st z w h2
 have hy:y<L.length:=(List.getElem?_eq_some_iff.mp h1).1
 have hw:rk w<rk y/\u.rt w=u.rt y:=by
  by_cases c:w=z
  ·rw[c];exact a3 n
  ·exact⟨Nat.lt_trans (b3 c).1 (a3 n).1,(b3 c).2.trans (a3 n).2⟩
 have wy:w≠y:=λe=>by have:=hw.1;rw[e] at this;exact Nat.lt_irrefl _ this
 refine⟨⟨by rw[List.length_set];exact h.len,λx v e=>?_⟩,by rw[List.getElem?_set_self hy],b1,hw.1,hw.2,wy⟩
 rw[List.length_set]
 by_cases c:y=x
 ·subst c
  rw[List.getElem?_set_self hy] at e
  cases e
  exact⟨b1,λz=>absurd z wy,λ_=>hw⟩
 ·rw[List.getElem?_set_ne c] at e
  exact h.st x v e
def Vq (S:Sl A C u)(hx:x<u.F.length)(q:∀C',Sl A C' u->Fx A C C'->Q (nT (u.rt x)) C'):Ye pr (n+1) Mo [.ref A.r,nT x] C Q χ:=by
 obtain⟨rk,L,S⟩:=S
 refine Nu rfl ?_
 unfold Vh Vw
 refine Rc (λm τ C'=>∃y L',τ=[some (.ref A.r),some (nT y)]/\y<u.F.length/\u.rt y=u.rt x/\rk y=m/\Sk rk L' A C' u/\Fx A C C') (m:=rk x) ⟨x,L,rfl,hx,rfl,rfl,S,Fx.refl _ _⟩ ?_
 rintro m τ C' N ⟨y,L',rfl,hy,hr,rfl,S',F'⟩ hN
 have hl:=S'.lr.len
 obtain⟨z,hz⟩:∃z,L'[y]?=some z:=⟨_,List.getElem?_eq_getElem (by omega)⟩
 refine⟨_,rfl,_,_,_,_,rfl,S'.r,.head _,Wh,_,rfl,_,_,S'.l,Gq hz,_,rfl,?_⟩
 obtain⟨z1,z2,z3⟩:=S'.lr.st y z hz
 by_cases c:z=y
 ·refine He (v:=true) (by rw[c];exact XU _) ⟨_,rfl,?_⟩
  refine⟨_,rfl,?_⟩
  rw[show y=u.rt x by rw[<-hr];exact(z2 c).symm]
  exact q C' ⟨rk,L',S'⟩ F'
 ·refine He (v:=false) (beq_eq_false_iff_ne.mpr λe=>c (by omega)) ⟨_,rfl,?_⟩
  obtain⟨w,hw⟩:∃w,L'[z]?=some w:=⟨_,List.getElem?_eq_getElem z1⟩
  obtain⟨l1,l2,l3,l4,l5,l6⟩:=wZ S'.lr hz c hw
  refine⟨_,rfl,_,_,_,_,rfl,S'.r,.head _,Wh,_,rfl,_,_,_,_,rfl,S'.r,.head _,Wh,_,rfl,_,_,S'.l,Gq hz,_,_,S'.l,Gq hw,?_⟩
  refine⟨_,rfl,_,_,_,_,rfl,S'.r,.head _,Wh,_,rfl,_,_,_,y,rfl,rfl,S'.l,D4 (by rw[XI];omega),?_⟩
  have S2:=S'.lead l1 rfl
  have em:(L'.map nT).set y (nT w)=(L'.set y w).map nT:=List.map_set.symm
  rw[em]
  refine⟨_,rfl,_,_,_,_,rfl,S2.r,.head _,Wh,_,rfl,_,_,S2.l,Gq l2,?_⟩
  exact hN (rk w) _ _ l4 ⟨w,L'.set y w,rfl,by omega,l5.trans hr,rfl,S2,F'.upl⟩
def Pu {f:Option Fm}(S:Sl A C u)(o:u.Ok)(hx:x<u.F.length)(hf:u.F[u.rt x]?=some f)(q:∀C',Sl A C' u->Fx A C C'->Q (Al f) C'):Ye pr (n+2) Oz [.ref A.r,nT x] C Q χ:=by
 refine Ot rfl ?_
 unfold Wn Wz
 obtain⟨rk,L,S0⟩:=id S
 refine⟨_,rfl,_,_,_,_,rfl,S0.r,.head _,Sr,_,rfl,_,_,_,_,rfl,S0.r,rfl,rfl,_,rfl,?_⟩
 dsimp only[Zw]
 refine Vq (n:=n) S hx λC' S' F'=>?_
 obtain⟨rk',L',S1⟩:=id S'
 exact⟨_,_,S1.f,Vb (by rw[XM,hf];rfl),q C' S' F'⟩
def Bv {f:Option Fm}(S:Sl A C u)(o:u.Ok)(hn:u.F.length<=90000)(q:∀C',Sl A C' (u.add f)->Fx A C C'->Q (nT u.F.length) C'):Ye pr (n+1) Lr [.ref A.r,Al f] C Q χ:=by
 refine Lk rfl ?_
 unfold Ua Ur
 obtain⟨rk,L,S⟩:=S
 refine⟨_,rfl,_,_,_,_,rfl,S.r,.head _,Sr,_,rfl,_,S.f,?_⟩
 refine⟨_,rfl,_,_,_,_,rfl,S.r,.head _,Sr,⟨_,_,rfl,S.f⟩,_,rfl,_,_,_,rfl,rfl,S.f,Yj (by rw[XI];omega),?_⟩
 have r1:up C A.f (.lst (u.F.map Al++[Al f])) A.r=some (.ins "Slots" (sF A)):=by rw[Zg S.rf];exact S.r
 have l1:up C A.f (.lst (u.F.map Al++[Al f])) A.l=some (.lst (L.map nT)):=by rw[Zg S.ne.symm];exact S.l
 refine⟨_,rfl,_,_,_,_,rfl,r1,.head _,Wh,⟨_,_,rfl,l1⟩,_,rfl,_,_,_,rfl,rfl,l1,Yj (by rw[XI,S.lr.len];omega),?_⟩
 refine⟨_,rfl,?_⟩
 have ln:(((u.F.map Al).length:Nat):Int)=((u.F.length:Nat):Int):=by rw[XI]
 rw[ln]
 refine q _ ⟨rk,L++[u.F.length],?_⟩ (((Fx.refl _ _).upf).upl)
 refine⟨by rw[Zg S.rl];exact r1,?_,?_,⟨by show _=(u.F++[f]).length;rw[List.length_append,List.length_append,S.lr.len];rfl,λx y e=>?_⟩,S.ne⟩
 ·rw[Zg S.ne,Ze]
  show _=some (O.lst ((u.F++[f]).map Al))
  rw[XL];rfl
 ·rw[Ze,XL];rfl
 ·have hl:=S.lr.len
  rw[List.length_append,List.length_singleton]
  by_cases c:x<L.length
  ·rw[List.getElem?_append_left c] at e
   obtain⟨h1,h2,h3⟩:=S.lr.st x y e
   have nx:x≠u.F.length:=by omega
   have ny:y≠u.F.length:=by omega
   refine⟨by omega,λz=>?_,λz=>⟨(h3 z).1,?_⟩⟩
   ·show(if x=u.F.length then x else u.rt x)=x
    rw[XX nx];exact h2 z
   ·show(if y=u.F.length then y else u.rt y)=(if x=u.F.length then x else u.rt x)
    rw[XX nx,XX ny];exact(h3 z).2
  ·have hx:x=L.length:=by
    have:=(List.getElem?_eq_some_iff.mp e).1
    rw[List.length_append,List.length_singleton] at this
    omega
   subst hx
   rw[List.getElem?_append_right (XE _),Nat.sub_self] at e
   have e:u.F.length=y:=YH e
   refine⟨by omega,λz=>?_,λz=>absurd (by omega) z⟩
   show(if L.length=u.F.length then L.length else u.rt L.length)=L.length
   rw[XY hl]
def Kh (S:Sl A C u)(o:u.Ok)(hn:u.F.length<=90000)(q:∀C',Sl A C' (u.add none)->Fx A C C'->Q (nT u.F.length) C'):Ye pr (n+2) Oy [.ref A.r] C Q χ:=by
 refine Os rfl ?_
 unfold Wm Wy
 obtain⟨rk,L,S0⟩:=id S
 refine⟨_,rfl,_,_,_,_,rfl,S0.r,rfl,rfl,?_⟩
 dsimp only[Zw,Ya,eC]
 exact Bv (n:=n) (f:=none) S o hn q
end
section
variable {rk:Nat->Nat}{L:List Nat}{A:Sd}{C C':Hw}{u:Us}{Q:WK}{χ:WX}{n x a b:Nat}{o:O}
def B8 (h:LR rk L u)(ha:u.rt a=a)(hb:u.rt b=b)(hla:a<u.F.length)(hlb:b<u.F.length)(n:a≠b):∃rk',LR rk' (L.set a b) (u.join a b):=by
 refine⟨λx=>if u.rt x=a then rk x+rk b+1 else rk x,⟨by rw[List.length_set];exact h.len,λx y e=>?_⟩⟩
 have hl:=h.len
 have jr:∀z,(u.join a b).rt z=if u.rt z=a then b else u.rt z:=λ_=>rfl
 rw[List.length_set]
 by_cases c:a=x
 ·subst c
  rw[List.getElem?_set_self (by omega)] at e
  cases e
  refine⟨by omega,λz=>absurd z.symm n,λ_=>⟨?_,?_⟩⟩
  ·show(if u.rt b=a then rk b+rk b+1 else rk b)<(if u.rt a=a then rk a+rk b+1 else rk a)
   rw[XX (by rw[hb];exact n.symm),XY ha];omega
  ·rw[jr,jr,XX (by rw[hb];exact n.symm),XY ha,hb]
 ·rw[List.getElem?_set_ne c] at e
  obtain⟨h1,h2,h3⟩:=h.st x y e
  refine⟨h1,λz=>?_,λz=>⟨?_,?_⟩⟩
  ·have r:=h2 z
   rw[jr,XX (by rw[r];exact λw=>c w.symm),r]
  ·obtain⟨r1,r2⟩:=h3 z
   show(if u.rt y=a then rk y+rk b+1 else rk y)<(if u.rt x=a then rk x+rk b+1 else rk x)
   rw[r2]
   split<;>omega
  ·rw[jr,jr,(h3 z).2]
def tP {a b:Str}{v:Bool}(h:(a==b)=v)(q:Q (.bl (!v)) C):Nt true (.str a) (.str b) C Q:=by rw[W3,XY rfl,h];exact q
abbrev pT (p:Nat×Nat):T:=.tup [nT p.1,nT p.2]
def Hv {f:Fm}:Al (some f)=.tup (.str f.tag::f.ps.map nT):=by cases f<;>rfl
def Tl {x:T}{xs:List T}:Pd (x::xs) (some 1) none=xs:=by
 unfold Pd HT.sIx
 simp
def Kf {x:T}{xs:List T}:¬(HT.sIx (x::xs).length 0 (some 1)=0/\HT.sIx (x::xs).length (x::xs).length none=(x::xs).length):=by
 rintro⟨h,_⟩
 unfold HT.sIx at h
 simp at h
def nR {f g:Fm}:qO (f.ps.map nT) (g.ps.map nT)=(Gx f g).map pT:=by
 unfold qO Gx
 rw[List.zip_map,YE]
 rfl
inductive Jn (u:Us)(a b:Nat):Us->List (Nat×Nat)->Prop
 | op:u.F[a]?=some none->Jn u a b (u.join a b) []
 | k0 {f:Fm}:u.F[a]?=some (some f)->u.F[b]?=some none->Jn u a b (u.join b a) []
 | k2 {f g:Fm}:u.F[a]?=some (some f)->u.F[b]?=some (some g)->Jn u a b (u.join b a) (Gx f g)
def jT {y:Nat}{f:Option Fm}(h:u.F[y]?=some f):Pf (u.F.map Al) (y:Int)=some (Al f):=Vb (by rw[XM,h];rfl)
def Dd (S:Sl A C u)(ha:u.rt a=a)(hb:u.rt b=b)(hla:a<u.F.length)(hlb:b<u.F.length)(ne:a≠b)
  (hev:∀f g:Fm,u.F[a]?=some (some f)->u.F[b]?=some (some g)->f.tag=g.tag/\f.ps.length=g.ps.length)
  (q:∀C' p u' ps,Sl A C' u'->Fx A C C'->C p=none->C' p=some (.lst (ps.map pT))->Jn u a b u' ps->Q (.ref p) C'):Ye pr (n+1) Pz [.ref A.r,nT a,nT b] C Q χ:=by
 refine Pn rfl ?_
 unfold Xw X6
 obtain⟨rk,L,S⟩:=S
 have hl:=S.lr.len
 obtain⟨fa,hfa⟩:∃f,u.F[a]?=some f:=⟨_,List.getElem?_eq_getElem hla⟩
 obtain⟨fb,hfb⟩:∃f,u.F[b]?=some f:=⟨_,List.getElem?_eq_getElem hlb⟩
 refine⟨_,rfl,_,_,_,_,rfl,S.r,.head _,Sr,_,rfl,_,_,S.f,jT hfa,?_⟩
 refine⟨_,rfl,_,_,_,_,rfl,S.r,.head _,Sr,_,rfl,_,_,S.f,jT hfb,?_⟩
 have nil:∀{C1:Hw} {u':Us},Sl A C1 u'->Fx A C C1->Jn u a b u' []->(∀p,C1 p=none->C p=none)->(([]:List T).length<=sizeLine/\∀p,C1 p=none->Q (.ref p) (up C1 p (.lst []))):=λ{C1 u'} S1 F1 j hn=>by
  obtain⟨rk1,L1,S1⟩:=S1
  exact⟨by decide,λp hp=>q _ p _ [] ⟨rk1,L1,S1.new hp⟩ (λc w m1 m2 e=>by rw[Zg λz=>by rw[z,hn p hp] at e;cases e];exact F1 c w m1 m2 e) (hn p hp) Ze j⟩
 have nn:∀{L':List Nat} (p:Addr),up C A.l (.lst (L'.map nT)) p=none->C p=none:=λ{L'} p hp=>by
  by_cases c:p=A.l
  ·rw[c,Ze] at hp;cases hp
  ·rw[Zg c] at hp;exact hp
 cases fa with
 | none=>
  refine⟨_,rfl,rfl,true,rfl,?_⟩
  obtain⟨rk',lr⟩:=B8 S.lr ha hb hla hlb ne
  have em:(L.map nT).set a (nT b)=(L.set a b).map nT:=List.map_set.symm
  refine⟨_,rfl,_,rfl,_,_,_,_,rfl,S.r,.head _,Wh,_,rfl,_,_,_,a,rfl,rfl,S.l,D4 (by rw[XI];omega),?_⟩
  rw[em]
  exact nil ⟨rk',_,S.lead lr rfl⟩ (Fx.refl _ _).upl (.op hfa) nn
 | some f=>
  rw[Hv]
  refine⟨_,rfl,rfl,false,rfl,?_⟩
  obtain⟨rk',lr⟩:=B8 S.lr hb ha hlb hla ne.symm
  have em:(L.map nT).set b (nT a)=(L.set b a).map nT:=List.map_set.symm
  refine⟨_,rfl,_,rfl,_,_,_,_,rfl,S.r,.head _,Wh,_,rfl,_,_,_,b,rfl,rfl,S.l,D4 (by rw[XI];omega),?_⟩
  rw[em]
  have S1:=S.lead lr rfl
  cases fb with
  | none=>
   refine⟨_,rfl,rfl,true,rfl,?_⟩
   exact nil ⟨rk',_,S1⟩ (Fx.refl _ _).upl (.k0 hfa hfb) nn
  | some g=>
   rw[Hv]
   refine⟨_,rfl,rfl,false,rfl,?_⟩
   obtain⟨e1,e2⟩:=hev f g hfa hfb
   refine⟨_,rfl,_,Z4,_,rfl,_,Z4,tP (v:=true) (by rw[e1];exact XU _) ⟨_,rfl,?_⟩⟩
   refine⟨_,rfl,_,rfl,Kf,_,rfl,_,rfl,Kf,_,_,rfl,?_,?_,λp hp=>?_⟩
   ·rw[Tl,Tl,XI,XI];exact e2
   ·rw[Tl,List.length_map];cases f<;>simp[Fm.ps]
   ·rw[Tl,Tl,nR]
    have hn:=nn p hp
    exact q _ p _ _ ⟨rk',_,S1.new hp⟩ (λc w m1 m2 e=>by rw[Zg λz=>by rw[z,hn] at e;cases e];exact(Fx.refl A C).upl c w m1 m2 e) hn Ze (.k2 hfa hfb)
end
section
variable {rk:Nat->Nat}{L:List Nat}{A:Sd}{C C':Hw}{u:Us}{Q:WK}{χ:WX}{n x a b:Nat}{o:O}{σ σ0:Nat->Kd}
def Ar {pl pl':List (Nat×Nat)}(h:∀x∈pl,x∈pl')(q:Vg u pl):Vg u pl':=λx f hx=>by
 obtain⟨g,h1,h2⟩:=q x f hx
 exact⟨g,h1,h2.imp λc d e=>e.mono (λ_ _ z=>.rt z) λc d m=>.pr (h _ m)⟩
def jX:Tj [] []=true:=by unfold Tj;rfl
def zS {x:T}{xs:List T}:Tj (x::xs) []=false:=by unfold Tj;rfl
def Kr {k:Nat}:Yp [] k=true:=by unfold Yp;rfl
def Hd {p p':Addr}{xs:List T}(h1:C p=some (.lst xs))(h2:C p'=some (.lst []))(q:Q (.bl (!xs.isEmpty)) C):Nt true (.ref p) (.ref p') C Q:=by
 refine⟨xs,[],h1,h2,λe=>?_,?_⟩
 ·have:xs=[]:=List.length_eq_zero_iff.mp e
  subst this
  exact⟨Kr,Kr⟩
 ·rw[XY rfl]
  cases xs with
  | nil=>rw[jX];exact q
  | cons x xs=>rw[zS];exact q
structure kK (A:Sd)(C:Hw)(u:Us)(a b:Nat)(p:Addr)(C':Hw)(u':Us)(pl:List (Nat×Nat)):Prop where
 s:Sl A C' u'
 f:Fx A C C'
 p:C' p=some (.lst (pl.map pT))
 o:u'.Ok
 c:Vg u' pl
 F:u'.F=u.F
 lt:∀z∈pl,z.1<u.F.length/\z.2<u.F.length
 sol:∀σ,(Um u' σ/\∀z∈pl,σ z.1=σ z.2)↔(Um u σ/\σ a=σ b)
 m:3*u'.cnt+pl.length<=3*u.cnt+1
def sU:u.cnt<=u.F.length:=by
 unfold Us.cnt
 exact XN (List.length_filter_le _ _) (by rw[List.length_range];exact XE _)
def Bx {f g:Fm}:(Gx f g).length<=2:=by
 unfold Gx
 rw[List.length_zip]
 cases f<;>simp[Fm.ps]<;>omega
def Qw (S:Sl A C u)(o:u.Ok)(cl:Vg u [])(ha:a<u.F.length)(hb:b<u.F.length)(hσ:Um u σ0)(he:σ0 a=σ0 b)(hn:u.F.length<=9000)
  (q:∀C' u',Sl A C' u'->Fx A C C'->u'.Ok->Vg u' []->u'.F=u.F->(∀σ,Um u' σ↔Um u σ/\σ a=σ b)->Q .non C'):Ye pr (n+2) Qi [.ref A.r,nT a,nT b] C Q χ:=by
 refine Qb rfl ?_
 unfold Xe Xg
 refine⟨_,rfl,_,rfl,ZNB rfl,ZNB rfl,λp hp=>?_⟩
 have cn:=sU (u:=u)
 have sl1:(100000:Nat)<=sizeLine:=by decide
 have dis:∀{C1:Hw} {u1:Us},Sl A C u1->p≠A.r/\p≠A.f/\p≠A.l:=λ{C1 u1} h=>by
  obtain⟨_,_,h⟩:=h
  exact⟨λe=>(by rw[e,h.r] at hp;cases hp),λe=>(by rw[e,h.f] at hp;cases hp),λe=>(by rw[e,h.l] at hp;cases hp)⟩
 obtain⟨pr_,pf_,pl_⟩:=dis (C1:=C) S
 refine Rc (λm τ C'=>∃v4 v5 v6 u' pl,τ=[some (.ref A.r),some (nT a),some (nT b),some (.ref p),v4,v5,v6]/\kK A C u a b p C' u' pl/\m=3*u'.cnt+pl.length) (m:=3*u.cnt+1)
  ⟨none,none,none,u,[(a,b)],rfl,⟨?_,?_,?_,o,Ar (λ_ h=>by cases h) cl,rfl,?_,?_,XE _⟩,rfl⟩ ?_
 ·obtain⟨rk,L,S⟩:=S;exact⟨rk,L,S.new hp⟩
 ·exact(Fx.refl _ _).new hp
 ·exact Ze
 ·intro z hz;rw[XQ.mp hz];exact⟨ha,hb⟩
 ·intro σ
  exact⟨λh=>⟨h.1,h.2 _ (XQ.mpr rfl)⟩,λh=>⟨h.1,λz hz=>by rw[XQ.mp hz];exact h.2⟩⟩
 rintro m τ C1 N ⟨v4,v5,v6,u1,pl,rfl,M,rfl⟩ hN
 refine⟨_,rfl,ZNB rfl,λp' hp'=>?_⟩
 have pp:p≠p':=λe=>by have:=M.p;rw[e,hp'] at this;cases this
 have M2p:up C1 p' (.lst []) p=some (.lst (pl.map pT)):=by rw[Zg pp];exact M.p
 refine Hd M2p Ze ⟨_,rfl,?_⟩
 have F2:Fx A C (up C1 p' (.lst [])):=λc w m1 m2 e=>by
  have h:=M.f c w m1 m2 e
  rw[Zg λz=>by rw[z,hp'] at h;cases h]
  exact h
 obtain⟨rk1,L1,S1⟩:=M.s
 have S2:Sk rk1 L1 A (up C1 p' (.lst [])) u1:=S1.new hp'
 rcases List.eq_nil_or_concat pl with rfl | ⟨pl,z,rfl⟩
 ·refine Zj ?_
  exact q _ u1 ⟨rk1,L1,S2⟩ F2 M.o M.c M.F λσ=>by
   have h:=M.sol σ
   exact⟨λk=>h.mp ⟨k,λz hz=>nomatch hz⟩,λk=>(h.mpr k).1⟩
 ·rw[List.concat_eq_append] at*
  have ne:(!((pl++[z]).map pT).isEmpty)=true:=by simp
  rw[ne]
  refine Z2 ?_
  generalize hC2:up C1 p' (.lst [])=C2 at M2p F2 S2
  have last:((pl++[z]).map pT)[((pl++[z]).map pT).length-1]?=some (pT z):=by simp
  have dl:((pl++[z]).map pT).dropLast=pl.map pT:=by simp
  refine⟨_,rfl,⟨_,_,rfl,M2p⟩,_,_,_,rfl,rfl,M2p,last,?_⟩
  rw[dl]
  have S3:Sk rk1 L1 A (up C2 p (.lst (pl.map pT))) u1:=S2.other pr_ pf_ pl_
  have F3:Fx A C (up C2 p (.lst (pl.map pT))):=λc w m1 m2 e=>by rw[Zg λz=>by rw[z,hp] at e;cases e];exact F2 c w m1 m2 e
  have P3:up C2 p (.lst (pl.map pT)) p=some (.lst (pl.map pT)):=Ze
  generalize up C2 p (.lst (pl.map pT))=C3 at S3 F3 P3
  have hz:=M.lt z (by simp)
  have lF:u1.F.length=u.F.length:=by rw[M.F]
  refine⟨_,rfl,_,_,_,_,rfl,S3.r,rfl,rfl,_,rfl,_,Z4,?_⟩
  dsimp only[Zw]
  refine Vq (n:=n) ⟨rk1,L1,S3⟩ (by omega) λC4 S4 F4=>?_
  obtain⟨rk4,L4,S4⟩:=S4
  have P4:C4 p=some (.lst (pl.map pT)):=F4 _ _ pf_ pl_ P3
  refine⟨_,rfl,_,_,_,_,rfl,S4.r,rfl,rfl,_,rfl,_,V5,?_⟩
  dsimp only[Zw]
  refine Vq (n:=n) ⟨rk4,L4,S4⟩ (by omega) λC5 S5 F5=>?_
  have P5:C5 p=some (.lst (pl.map pT)):=F5 _ _ pf_ pl_ P4
  have F6:Fx A C C5:=(F3.trans F4).trans F5
  refine⟨_,rfl,_,rfl,?_⟩
  have c1:Vg u1 (z::pl):=Ar (λx h=>by rcases XS.mp h with h | h;exact XV _ h;rw[XQ.mp h];exact List.mem_cons_self ..) M.c
  have sz:∀σ,(Um u1 σ/\(∀y∈pl,σ y.1=σ y.2)/\σ z.1=σ z.2)↔(Um u σ/\σ a=σ b):=λσ=>by
   rw[<-M.sol σ]
   exact⟨λh=>⟨h.1,λy hy=>by rcases List.mem_append.mp hy with k | k;exact h.2.1 y k;rw[List.mem_singleton.mp k];exact h.2.2⟩,λh=>⟨h.1,λy hy=>h.2 y (List.mem_append_left _ hy),h.2 z (by simp)⟩⟩
  have mm:=M.m
  rw[List.length_append,List.length_singleton] at mm
  have lt':∀y∈pl,y.1<u.F.length/\y.2<u.F.length:=λy hy=>M.lt y (List.mem_append_left _ hy)
  by_cases e:u1.rt z.1=u1.rt z.2
  ·refine He (v:=true) (by rw[e];exact XU _) ⟨_,rfl,Zj ?_⟩
   refine hN (3*u1.cnt+pl.length) _ _ (by rw[List.length_append,List.length_singleton];omega) ⟨_,_,_,u1,pl,rfl,⟨S5,F6,P5,M.o,xr e c1,M.F,lt',λσ=>?_,by omega⟩,rfl⟩
   rw[<-sz σ]
   exact⟨λh=>⟨h.1,h.2,by rw[h.1.1 _ (by omega),h.1.1 z.2 (by omega),e]⟩,λh=>⟨h.1,h.2.1⟩⟩
  ·refine He (v:=false) (beq_eq_false_iff_ne.mpr λk=>e (by omega)) ⟨_,rfl,Z2 ?_⟩
   obtain⟨rk5,L5,S5⟩:=S5
   refine⟨_,rfl,⟨_,_,rfl,P5⟩,_,rfl,_,_,_,_,rfl,S5.r,rfl,rfl,_,rfl,_,rfl,?_⟩
   dsimp only[Zw]
   obtain⟨hs0,ht0,hz0⟩:=(sz σ0).mpr ⟨hσ,he⟩
   have r1:=M.o.lt z.1 (by omega)
   have r2:=M.o.lt z.2 (by omega)
   have i1:=M.o.id z.1 (by omega)
   have i2:=M.o.id z.2 (by omega)
   have ev:∀f g:Fm,u1.F[u1.rt z.1]?=some (some f)->u1.F[u1.rt z.2]?=some (some g)->f.ev σ0=g.ev σ0:=λf g h1 h2=>by
    rw[<-hs0.2 _ f h1,<-hs0.2 _ g h2,<-hs0.1 _ (by omega),<-hs0.1 _ (by omega)];exact hz0
   refine Dd (n:=n) ⟨rk5,L5,S5⟩ i1 i2 r1 r2 e (λf g h1 h2=>(Mv (ev f g h1 h2)).1) λC7 p7 u7 ps S7 F7 hp7 P7 j=>?_
   have P8:C7 p=some (.lst (pl.map pT)):=F7 _ _ pf_ pl_ P5
   have np:p7≠p:=λk=>by rw[k,P5] at hp7;cases hp7
   have zl:ps.length<=2:=by cases j<;>first | exact Bx | exact XO _
   refine⟨_,_,_,_,rfl,rfl,P8,P7,by rw[XI,XI];omega,?_⟩
   rw[<-XL]
   obtain⟨rk7,L7,S7⟩:=S7
   have S8:Sk rk7 L7 A (up C7 p (.lst ((pl++ps).map pT))) u7:=S7.other pr_ pf_ pl_
   have F8:Fx A C (up C7 p (.lst ((pl++ps).map pT))):=λc w m1 m2 k=>by rw[Zg λz=>by rw[z,hp] at k;cases k];exact(F6.trans F7) c w m1 m2 k
   have eq2:∀σ,Um u1 σ->(σ (u1.rt z.1)=σ (u1.rt z.2)↔σ z.1=σ z.2):=λσ h=>by rw[h.1 z.1 (by omega),h.1 z.2 (by omega)]
   cases j with
   | op h=>
    have ct:=Mj i1 i2 r1 e
    have jo:=Hi M.o i1 i2 r2 e
    refine hN (3*(u1.join (u1.rt z.1) (u1.rt z.2)).cnt+(pl++[]).length) _ _ (by rw[List.length_append,List.length_append,List.length_singleton];simp;omega) ⟨_,_,_,_,pl++[],rfl,⟨⟨rk7,L7,S8⟩,F8,Ze,jo,?_,M.F,by simpa using lt',λσ=>?_,by simp;omega⟩,rfl⟩
    ·rw[YK];exact xq rfl rfl h c1 M.o i2 e
    ·rw[<-sz σ,Mi i1 i2 r1 M.o,YK]
     exact⟨λh=>⟨h.1.1,h.2,(eq2 σ h.1.1).mp h.1.2⟩,λh=>⟨⟨h.1,(eq2 σ h.1).mpr h.2.2⟩,h.2.1⟩⟩
   | k0 h1 h2=>
    have ct:=Mj i2 i1 r2 (Ne.symm e)
    have jo:=Hi M.o i2 i1 r1 (Ne.symm e)
    refine hN (3*(u1.join (u1.rt z.2) (u1.rt z.1)).cnt+(pl++[]).length) _ _ (by rw[List.length_append,List.length_append,List.length_singleton];simp;omega) ⟨_,_,_,_,pl++[],rfl,⟨⟨rk7,L7,S8⟩,F8,Ze,jo,?_,M.F,by simpa using lt',λσ=>?_,by simp;omega⟩,rfl⟩
    ·rw[YK];exact Cu rfl rfl h2 c1 e
    ·rw[<-sz σ,Mi i2 i1 r2 M.o,YK]
     exact⟨λh=>⟨h.1.1,h.2,(eq2 σ h.1.1).mp h.1.2.symm⟩,λh=>⟨⟨h.1,((eq2 σ h.1).mpr h.2.2).symm⟩,h.2.1⟩⟩
   | @k2 f g h1 h2=>
    have ct:=Mj i2 i1 r2 (Ne.symm e)
    have jo:=Hi M.o i2 i1 r1 (Ne.symm e)
    have pl2:=Bx (f:=f) (g:=g)
    refine hN (3*(u1.join (u1.rt z.2) (u1.rt z.1)).cnt+(pl++Gx f g).length) _ _ (by rw[List.length_append,List.length_append,List.length_singleton];omega) ⟨_,_,_,_,pl++Gx f g,rfl,⟨⟨rk7,L7,S8⟩,F8,Ze,jo,?_,M.F,λy hy=>?_,λσ=>?_,by rw[List.length_append];omega⟩,rfl⟩
    ·exact zX rfl rfl i1 h1 h2 (Mv (ev f g h1 h2)).1 c1 e
    ·rcases XS.mp hy with k | k
     ·exact lt' y k
     ·have:=List.of_mem_zip (show(y.1,y.2)∈f.ps.zip g.ps from k)
      rw[<-M.F]
      exact⟨M.o.ps _ f h1 _ this.1,M.o.ps _ g h2 _ this.2⟩
    ·rw[<-sz σ,Mi i2 i1 r2 M.o]
     refine⟨λh=>⟨h.1.1,λy hy=>h.2 y (List.mem_append_left _ hy),(eq2 σ h.1.1).mp h.1.2.symm⟩,λh=>⟨⟨h.1,((eq2 σ h.1).mpr h.2.2).symm⟩,λy hy=>?_⟩⟩
     rcases XS.mp hy with k | k
     ·exact h.2.1 y k
     ·refine(Mv (σ:=σ) (f:=f) (g:=g) ?_).2 y k
      rw[<-h.1.2 _ f h1,<-h.1.2 _ g h2]
      exact(eq2 σ h.1).mpr h.2.2
end
end K24
namespace Fn
open PySem WL
inductive Tr where
 | num (v:Int) | nm (x:Str) | stop (x:Str)
 | does (o:Str) (a b:Tr) | fn (x:Str) (b:Tr) | call (a b:Tr) | first (a b:Tr)
 | lt (n:Nat) (xs:Fin n->Str) (ts:Fin n->Tr) (b:Tr)
 | sh0 (c:Str) | sh2 (c:Str) (a b:Tr)
 | chT (a n y:Tr) | chL (a n:Tr) (x y:Str) (c:Tr) | chP (a:Tr) (x y:Str) (b:Tr)
def tt:Tr->T
 | .num v=>.tup [.str "number",.int v]
 | .nm x=>.tup [.str "name",.str x]
 | .stop x=>.tup [.str "stop",.str x]
 | .does o a b=>.tup [.str "does",.str o,tt a,tt b]
 | .fn x b=>.tup [.str "fun",.str x,tt b]
 | .call a b=>.tup [.str "call",tt a,tt b]
 | .first a b=>.tup [.str "first",tt a,tt b]
 | .lt n xs ts b=>.tup [.str "let",.tup ((List.finRange n).map λi=>.tup [.str (xs i),tt (ts i)]),tt b]
 | .sh0 c=>.tup [.str "shape",.str c,.tup []]
 | .sh2 c a b=>.tup [.str "shape",.str c,.tup [tt a,tt b]]
 | .chT a n y=>.tup [.str "choose",tt a,.tup [.tup [.str "No",.tup [],tt n],.tup [.str "Yes",.tup [],tt y]]]
 | .chL a n x y c=>.tup [.str "choose",tt a,.tup [.tup [.str "Nil",.tup [],tt n],.tup [.str "Cons",.tup [.str x,.str y],tt c]]]
 | .chP a x y b=>.tup [.str "choose",tt a,.tup [.tup [.str "Pair",.tup [.str x,.str y],tt b]]]
def bnd {α:Type}(xs:List Str)(ks:List α)(G:Str->Option α):Str->Option α:=λx=>match (xs.zip ks).reverse.lookup x with | some k=>some k | none=>G x
def Av {α β:Type}{f:α->β}{xs:List Str}{ks:List α}{G:Str->Option α}:bnd xs (ks.map f) (λx=>(G x).map f)=λx=>(bnd xs ks G x).map f:=by
 funext x
 unfold bnd
 have e:(xs.zip (ks.map f)).reverse=((xs.zip ks).reverse).map λp=>(p.1,f p.2):=by
  rw[List.zip_map_right,List.map_reverse];rfl
 have l:∀l:List (Str×α),(l.map λp=>(p.1,f p.2)).lookup x=(l.lookup x).map f:=by
  intro l
  induction l with
  | nil=>rfl
  | cons p l ih=>
   obtain⟨a,b⟩:=p
   simp only[List.map_cons,List.lookup_cons]
   cases x==a
   ·exact ih
   ·rfl
 rw[e,l]
 cases (xs.zip ks).reverse.lookup x<;>rfl
abbrev Ev:=Str->Option Kd
abbrev Jm:Kd:=.k0 "num"
abbrev Mh:Kd:=.k0 "truth"
abbrev Xm (p:Kd):Kd:=.k1 "list" p
abbrev Lc (p q:Kd):Kd:=.k2 "pair" p q
abbrev Gz (p q:Kd):Kd:=.k2 "to" p q
def wT (o:Str):Str:=if o="<"\/o="=" then "truth" else "num"
abbrev Ui {n:Nat}(xs:Fin n->Str):List Str:=(List.finRange n).map xs
inductive Y1:Tr->Ev->Kd->List (Ev×Tr×Kd)->Prop
 | num {v G}:Y1 (.num v) G Jm []
 | nm {x G k}:G x=some k->Y1 (.nm x) G k []
 | stop {w G k}:Y1 (.stop w) G k []
 | does {o a b G}:Y1 (.does o a b) G (.k0 (wT o)) [(G,a,Jm),(G,b,Jm)]
 | fn {x b G p r}:Y1 (.fn x b) G (Gz p r) [(bnd [x] [p] G,b,r)]
 | call {a b G k p}:Y1 (.call a b) G k [(G,a,Gz p k),(G,b,p)]
 | first {a b G k p}:Y1 (.first a b) G k [(G,a,p),(G,b,k)]
 | lt {n xs ts b G k} {ks:Fin n->Kd}:Y1 (.lt n xs ts b) G k (((List.finRange n).map λi=>(bnd (Ui xs) ((List.finRange n).map ks) G,ts i,ks i))++[(bnd (Ui xs) ((List.finRange n).map ks) G,b,k)])
 | nil {G p}:Y1 (.sh0 "Nil") G (Xm p) []
 | no {G}:Y1 (.sh0 "No") G Mh []
 | yes {G}:Y1 (.sh0 "Yes") G Mh []
 | cons {a b G p}:Y1 (.sh2 "Cons" a b) G (Xm p) [(G,a,p),(G,b,Xm p)]
 | pair {a b G p q}:Y1 (.sh2 "Pair" a b) G (Lc p q) [(G,a,p),(G,b,q)]
 | chT {a n y G k}:Y1 (.chT a n y) G k [(G,a,Mh),(G,n,k),(G,y,k)]
 | chL {a n x y c G k p}:Y1 (.chL a n x y c) G k [(G,a,Xm p),(G,n,k),(bnd [x,y] [p,Xm p] G,c,k)]
 | chP {a x y b G k p q}:Y1 (.chP a x y b) G k [(G,a,Lc p q),(bnd [x,y] [p,q] G,b,k)]
mutual
inductive HT:Ev->Tr->Kd->List Kd->Prop
 | mk {G t k cs rs}:Y1 t G k cs->HTs cs rs->HT G t k (k::rs)
inductive HTs:List (Ev×Tr×Kd)->List Kd->Prop
 | nil:HTs [] []
 | cons {G t k r cs rs}:HT G t k r->HTs cs rs->HTs ((G,t,k)::cs) (r++rs)
end
def HTs.app:∀{cs ds:List (Ev×Tr×Kd)} {r s:List Kd},HTs cs r->HTs ds s->HTs (cs++ds) (r++s)
 | [],_,_,_,h,q=>by cases h;exact q
 | _::_,_,_,_,h,q=>by
  cases h with
  | cons a b=>rw[YL];exact .cons a (HTs.app b q)
def HTs.split:∀{cs ds:List (Ev×Tr×Kd)} {r:List Kd},HTs (cs++ds) r->∃a b,r=a++b/\HTs cs a/\HTs ds b
 | [],_,r,h=>⟨[],r,rfl,.nil,h⟩
 | _::_,_,_,h=>by
  cases h with
  | cons a b=>
   obtain⟨x,y,rfl,h1,h2⟩:=HTs.split b
   exact⟨_,y,(YL ..).symm,.cons a h1,h2⟩
def HTs.take {G:Ev}{t:Tr}{k:Kd}{ds:List (Ev×Tr×Kd)}{r:List Kd}(h:HTs ((G,t,k)::ds) r):∃cs r',Y1 t G k cs/\r=k::r'/\HTs (cs++ds) r':=by
 cases h with
 | cons a b=>
  cases a with
  | mk x y=>exact⟨_,_,x,rfl,y.app b⟩
def HTs.give {G:Ev}{t:Tr}{k:Kd}{cs ds:List (Ev×Tr×Kd)}{r:List Kd}(x:Y1 t G k cs)(h:HTs (cs++ds) r):HTs ((G,t,k)::ds) (k::r):=by
 obtain⟨a,b,rfl,h1,h2⟩:=h.split
 exact .cons (.mk x h1) h2
abbrev Pl:=(Str->Option Nat)×Tr×Nat
def Pl.ev (σ:Nat->Kd)(p:Pl):Ev×Tr×Kd:=(λx=>(p.1 x).map σ,p.2.1,σ p.2.2)
def rF (n:Nat)(p:Pl):Prop:=p.2.2<n/\∀x i,p.1 x=some i->i<n
def qP {σ σ':Nat->Kd}{n:Nat}{p:Pl}(h:rF n p)(e:∀i,i<n->σ i=σ' i):Pl.ev σ p=Pl.ev σ' p:=by
 unfold Pl.ev
 rw[e _ h.1]
 congr 1
 funext x
 cases q:p.1 x with
 | none=>rfl
 | some i=>show some (σ i)=some (σ' i);rw[e i (h.2 x i q)]
def Tr.bg:Tr->Nat
 | .lt n _ _ _=>n
 | _=>3
structure xB (u:Us)(p:Pl)(u':Us)(ps:List Pl):Prop where
 o:u'.Ok
 c:Vg u' []
 le:u.F.length<=u'.F.length
 big:u'.F.length<=u.F.length+p.2.1.bg
 ok:∀z∈ps,rF u'.F.length z
 co:∀σ cs,Um u σ->Y1 p.2.1 (Pl.ev σ p).1 (σ p.2.2) cs->∃σ',(∀i,i<u.F.length->σ' i=σ i)/\Um u' σ'/\ps.map (Pl.ev σ')=cs
 so:∀σ,Um u' σ->Um u σ/\Y1 p.2.1 (Pl.ev σ p).1 (σ p.2.2) (ps.map (Pl.ev σ))
def Tr.scs:Tr->List (List Str×Tr)
 | .does _ a b=>[([],a),([],b)]
 | .fn x b=>[([x],b)]
 | .call a b=>[([],a),([],b)]
 | .first a b=>[([],a),([],b)]
 | .lt _ xs ts b=>((List.finRange _).map λi=>(Ui xs,ts i))++[(Ui xs,b)]
 | .sh2 _ a b=>[([],a),([],b)]
 | .chT a n y=>[([],a),([],n),([],y)]
 | .chL a n x y c=>[([],a),([],n),([x,y],c)]
 | .chP a x y b=>[([],a),([x,y],b)]
 | _=>[]
abbrev As:=List (List Nat×Nat)
def F9 (t:Tr)(as:As)(σ:Nat->Kd)(G:Ev):List (Ev×Tr×Kd):=(t.scs.zip as).map λz=>(bnd z.1.1 (z.2.1.map σ) G,z.1.2,σ z.2.2)
structure Qq (u u':Us)(P:(Nat->Kd)->Prop):Prop where
 o:u'.Ok
 c:Vg u' []
 le:u.F.length<=u'.F.length
 sol:∀σ,Um u' σ↔(Um u σ/\P σ)
structure Jk (u:Us)(t:Tr)(s:Nat)(u':Us)(as:As):Prop where
 o:u'.Ok
 c:Vg u' []
 le:u.F.length<=u'.F.length
 big:u'.F.length<=u.F.length+t.bg
 n:as.map (λz=>z.1.length)=t.scs.map (λz=>z.1.length)
 ok:∀z∈as,z.2<u'.F.length/\∀i∈z.1,i<u'.F.length
 co:∀σ G cs,Um u σ->Y1 t G (σ s) cs->∃σ',(∀i,i<u.F.length->σ' i=σ i)/\Um u' σ'/\F9 t as σ' G=cs
 so:∀σ G,Um u' σ->Um u σ/\Y1 t G (σ s) (F9 t as σ G)
def ov (n:Nat)(σ:Nat->Kd)(ν:Nat->Kd):Nat->Kd:=λi=>if i<n then σ i else ν (i-n)
section
variable {u u1 u2:Us}{P:(Nat->Kd)->Prop}{σ σ' ν:Nat->Kd}{s n:Nat}{f:Fm}{t:Tr}{as:As}
def J9 {i:Nat}(h:i<n):ov n σ ν i=σ i:=XY h
def Xs:ov n σ ν n=ν 0:=by unfold ov;rw[XX (Nat.lt_irrefl _),Nat.sub_self]
def Wq {k:Nat}:ov n σ ν (n+k)=ν k:=by unfold ov;rw[XX (by omega)];congr 1;omega
def Vd (o:u.Ok)(h:Um u σ)(e:∀i,i<u.F.length->σ' i=σ i):Um u σ':=by
 refine⟨λx hx=>by rw[e x hx,e _ (o.lt x hx)];exact h.1 x hx,λx f hx=>?_⟩
 rw[e x (List.getElem?_eq_some_iff.mp hx).1,h.2 x f hx]
 exact(Q6 λp hp=>e p (o.ps x f hx p hp)).symm
def Qq.refl (o:u.Ok)(c:Vg u []):Qq u u λ_=>True:=⟨o,c,XE _,λσ=>⟨λh=>⟨h,trivial⟩,λh=>h.1⟩⟩
def Qq.new (e:Qq u u1 P):Qq u (u1.add none) P:=
 ⟨Wu e.o (λg h=>by cases h),Vc e.o e.c,by rw[Zr];exact Nat.le_succ_of_le e.le,λσ=>by
  rw[Wc e.o,e.sol]
  exact⟨λh=>h.1,λh=>⟨h,λg z=>by cases z⟩⟩⟩
def Qq.known (e:Qq u u1 P)(hf:∀p∈f.ps,p<u1.F.length):Qq u (u1.add (some f)) λσ=>P σ/\σ u1.F.length=f.ev σ:=
 ⟨Wu e.o (λg h=>by cases h;exact hf),Vc e.o e.c,by rw[Zr];exact Nat.le_succ_of_le e.le,λσ=>by
  rw[Wc e.o,e.sol,and_assoc]
  exact⟨λh=>⟨h.1,h.2.1,h.2.2 f rfl⟩,λh=>⟨h.1,h.2.1,λg z=>by cases z;exact h.2.2⟩⟩⟩
structure Ak (u:Us)(s:Nat)(f:Fm)(u2:Us):Prop where
 o:u2.Ok
 c:Vg u2 []
 F:u2.F=u.F++[some f]
 sol:∀σ,Um u2 σ↔(Um u σ/\σ u.F.length=f.ev σ/\σ s=σ u.F.length)
def Ak.len (a:Ak u s f u2):u2.F.length=u.F.length+1:=by rw[a.F,List.length_append];rfl
def Qq.ak (e:Qq u u1 P)(a:Ak u1 s f u2):Qq u u2 λσ=>P σ/\σ u1.F.length=f.ev σ/\σ s=σ u1.F.length:=
 ⟨a.o,a.c,by rw[a.len];exact Nat.le_succ_of_le e.le,λσ=>by rw[a.sol,e.sol,and_assoc]⟩
def Xq {u':Us}{B:Nat}(hB:B<=t.bg)(e:Qq u u' P)(o:u.Ok)(big:u'.F.length<=u.F.length+B)(n:as.map (λz=>z.1.length)=t.scs.map (λz=>z.1.length))(ok:∀z∈as,z.2<u'.F.length/\∀i∈z.1,i<u'.F.length)
  (co:∀σ G cs,Y1 t G (σ s) cs->∃ν,P (ov u.F.length σ ν)/\F9 t as (ov u.F.length σ ν) G=cs) (so:∀σ G,P σ->Y1 t G (σ s) (F9 t as σ G)):Jk u t s u' as:=
 ⟨e.o,e.c,e.le,XN big (Nat.add_le_add_left hB _),n,ok,λσ G cs h r=>by
  obtain⟨ν,h1,h2⟩:=co σ G cs r
  exact⟨_,λi hi=>J9 hi,(e.sol _).mpr ⟨Vd o h λi hi=>J9 hi,h1⟩,h2⟩,λσ G h=>by
  obtain⟨h1,h2⟩:=(e.sol σ).mp h
  exact⟨h1,so σ G h2⟩⟩
def Jb {α:Type}{ks:List α}{G:Str->Option α}:bnd [] ks G=G:=by funext x;rfl
variable {v:Int}{x y w oo:Str}{a b c d:Tr}
def vG (o:u.Ok)(hs:s<u.F.length)(k:Ak u s (.f0 "num") u2)(cl:Vg u []):Jk u (.num v) s u2 []:=by
 refine Xq (B:=3) (XE 3) ((Qq.refl o cl).ak k) o (by rw[k.len];omega) rfl (λz h=>by cases h) (λσ G cs r=>?_) λσ G h=>?_
 ·generalize hk:σ s=kk at r
  cases r
  exact⟨λ_=>Jm,⟨trivial,by rw[Xs];rfl,by rw[J9 hs,Xs,hk]⟩,rfl⟩
 ·rw[h.2.2,h.2.1];exact .num
def xv (o:u.Ok)(cl:Vg u []):Jk u (.stop w) s u []:=by
 refine Xq (B:=3) (XE 3) (Qq.refl o cl) o (by omega) rfl (λz h=>by cases h) (λσ G cs r=>?_) λσ G h=>.stop
 generalize hk:σ s=kk at r
 cases r
 exact⟨λ_=>Jm,trivial,rfl⟩
def ya {cc:Str}(hc:cc="No"\/cc="Yes")(o:u.Ok)(hs:s<u.F.length)(k:Ak u s (.f0 "truth") u2)(cl:Vg u []):Jk u (.sh0 cc) s u2 []:=by
 refine Xq (B:=3) (XE 3) ((Qq.refl o cl).ak k) o (by rw[k.len];omega) rfl (λz h=>by cases h) (λσ G cs r=>?_) λσ G h=>?_
 ·generalize hk:σ s=kk at r
  have e:kk=Mh/\cs=[]:=by
   rcases hc with rfl | rfl
   ·cases r with
    | no=>exact⟨rfl,rfl⟩
   ·cases r with
    | yes=>exact⟨rfl,rfl⟩
  obtain⟨rfl,rfl⟩:=e
  exact⟨λ_=>Mh,⟨trivial,by rw[Xs];rfl,by rw[J9 hs,Xs,hk]⟩,rfl⟩
 ·rw[h.2.2,h.2.1]
  rcases hc with rfl | rfl
  ·exact .no
  ·exact .yes
def xy (o:u.Ok)(hs:s<u.F.length)(k:Ak u s (.f0 (wT oo)) u1)(cl:Vg u []):Jk u (.does oo a b) s (u1.add (some (.f0 "num"))) [([],u1.F.length),([],u1.F.length)]:=by
 have kl:=k.len
 refine Xq (B:=3) (XE 3) (((Qq.refl o cl).ak k).known (f:=.f0 "num") (λp h=>by cases h)) o (by rw[Zr];omega) rfl ?_ (λσ G cs r=>?_) λσ G h=>?_
 ·intro z hz
  rw[Zr]
  simp only[ZM,ZN,or_false] at hz
  rcases hz with rfl | rfl<;>exact⟨Nat.lt_succ_self _,λi h=>by cases h⟩
 ·generalize hk:σ s=kk at r
  cases r
  refine⟨λi=>if i=0 then .k0 (wT oo) else Jm,⟨⟨trivial,by rw[Xs];rfl,by rw[J9 hs,Xs,hk];rfl⟩,by rw[kl,Wq];rfl⟩,?_⟩
  show[(bnd [] _ G,a,_),(bnd [] _ G,b,_)]=_
  simp only[Jb]
  rw[kl,Wq]
  rfl
 ·rw[h.1.2.2,h.1.2.1]
  show Y1 _ _ _ [(bnd [] _ G,a,_),(bnd [] _ G,b,_)]
  simp only[Jb]
  rw[h.2]
  exact .does
def yb (o:u.Ok)(hs:s<u.F.length)(cl:Vg u []):Jk u (.first a b) s (u.add none) [([],u.F.length),([],s)]:=by
 refine Xq (B:=3) (XE 3) (Qq.refl o cl).new o (by rw[Zr];omega) rfl ?_ (λσ G cs r=>?_) λσ G h=>?_
 ·intro z hz
  rw[Zr]
  simp only[ZM,ZN,or_false] at hz
  rcases hz with rfl | rfl
  ·exact⟨Nat.lt_succ_self _,λi h=>by cases h⟩
  ·exact⟨by show s<_;omega,λi h=>by cases h⟩
 ·generalize hk:σ s=kk at r
  cases r with
  | @first _ _ _ _ p=>
   refine⟨λ_=>p,trivial,?_⟩
   show[(bnd [] _ G,a,_),(bnd [] _ G,b,_)]=_
   simp only[Jb]
   rw[Xs,J9 hs,hk]
 ·show Y1 _ _ _ [(bnd [] _ G,a,_),(bnd [] _ G,b,_)]
  simp only[Jb]
  exact .first
def x8 (o:u.Ok)(hs:s<u.F.length)(cl:Vg u []):Jk u (.call a b) s ((u.add none).add (some (.f2 "to" u.F.length s))) [([],u.F.length+1),([],u.F.length)]:=by
 have l1:(u.add none).F.length=u.F.length+1:=Zr
 refine Xq (B:=3) (Nat.le_refl 3) ((Qq.refl o cl).new.known (f:=.f2 "to" u.F.length s) (λp h=>by simp only[Fm.ps,List.mem_cons,List.not_mem_nil,or_false] at h;rcases h with rfl | rfl<;>omega)) o (by rw[Zr,l1];omega) rfl ?_ (λσ G cs r=>?_) λσ G h=>?_
 ·intro z hz
  rw[Zr,l1]
  simp only[ZM,ZN,or_false] at hz
  rcases hz with rfl | rfl
  ·exact⟨by show u.F.length+1<_;omega,λi h=>by cases h⟩
  ·exact⟨by show u.F.length<_;omega,λi h=>by cases h⟩
 ·generalize hk:σ s=kk at r
  cases r with
  | @call _ _ _ _ p=>
   refine⟨λi=>if i=0 then p else Gz p kk,⟨trivial,?_⟩,?_⟩
   ·rw[l1,Wq]
    show Gz p kk=.k2 "to" (ov _ _ _ _) (ov _ _ _ s)
    rw[Xs,J9 hs,hk];rfl
   ·show[(bnd [] _ G,a,_),(bnd [] _ G,b,_)]=_
    simp only[Jb]
    rw[Xs,Wq];rfl
 ·show Y1 _ _ _ [(bnd [] _ G,a,σ (u.F.length+1)),(bnd [] _ G,b,_)]
  have e:=h.2
  rw[l1] at e
  simp only[Jb]
  rw[e]
  exact .call
def r4 (o:u.Ok)(hs:s<u.F.length)(cl:Vg u [])(k:Ak ((u.add none).add none) s (.f2 "to" u.F.length (u.F.length+1)) u2):Jk u (.fn x b) s u2 [([u.F.length],u.F.length+1)]:=by
 have l1:(u.add none).F.length=u.F.length+1:=Zr
 have l2:((u.add none).add none).F.length=u.F.length+2:=by rw[Zr,l1]
 have kl:=k.len
 refine Xq (B:=3) (XE 3) ((Qq.refl o cl).new.new.ak k) o (by omega) rfl ?_ (λσ G cs r=>?_) λσ G h=>?_
 ·intro z hz
  rw[kl,l2,XQ.mp hz]
  exact⟨by show u.F.length+1<_;omega,λi h=>by rw[XQ.mp h];omega⟩
 ·generalize hk:σ s=kk at r
  cases r with
  | @fn _ _ _ p rr=>
   refine⟨λi=>if i=0 then p else if i=1 then rr else Gz p rr,⟨trivial,?_,?_⟩,?_⟩
   ·rw[l2,Wq]
    show Gz p rr=.k2 "to" (ov _ _ _ _) (ov _ _ _ _)
    rw[Xs,Wq];rfl
   ·rw[l2,Wq,J9 hs,hk];rfl
   ·show[(bnd [x] [ov _ _ _ _] G,b,ov _ _ _ _)]=_
    rw[Xs,Wq];rfl
 ·rw[h.2.2,h.2.1]
  exact .fn
def vH (o:u.Ok)(hs:s<u.F.length)(cl:Vg u [])(k:Ak (u.add none) s (.f1 "list" u.F.length) u2):Jk u (.sh0 "Nil") s u2 []:=by
 have l1:(u.add none).F.length=u.F.length+1:=Zr
 have kl:=k.len
 refine Xq (B:=3) (XE 3) ((Qq.refl o cl).new.ak k) o (by omega) rfl (λz h=>by cases h) (λσ G cs r=>?_) λσ G h=>?_
 ·generalize hk:σ s=kk at r
  cases r with
  | @nil _ p=>
   refine⟨λi=>if i=0 then p else Xm p,⟨trivial,?_,?_⟩,rfl⟩
   ·rw[l1,Wq]
    show Xm p=.k1 "list" (ov _ _ _ _)
    rw[Xs];rfl
   ·rw[l1,Wq,J9 hs,hk];rfl
 ·rw[h.2.2,h.2.1];exact .nil
def xz (o:u.Ok)(hs:s<u.F.length)(cl:Vg u [])(k:Ak (u.add none) s (.f1 "list" u.F.length) u2):Jk u (.sh2 "Cons" a b) s u2 [([],u.F.length),([],s)]:=by
 have l1:(u.add none).F.length=u.F.length+1:=Zr
 have kl:=k.len
 refine Xq (B:=3) (XE 3) ((Qq.refl o cl).new.ak k) o (by omega) rfl ?_ (λσ G cs r=>?_) λσ G h=>?_
 ·intro z hz
  rw[kl,l1]
  simp only[ZM,ZN,or_false] at hz
  rcases hz with rfl | rfl
  ·exact⟨by show u.F.length<_;omega,λi h=>by cases h⟩
  ·exact⟨by show s<_;omega,λi h=>by cases h⟩
 ·generalize hk:σ s=kk at r
  cases r with
  | @cons _ _ _ p=>
   refine⟨λi=>if i=0 then p else Xm p,⟨trivial,?_,?_⟩,?_⟩
   ·rw[l1,Wq]
    show Xm p=.k1 "list" (ov _ _ _ _)
    rw[Xs];rfl
   ·rw[l1,Wq,J9 hs,hk];rfl
   ·show[(bnd [] _ G,a,_),(bnd [] _ G,b,_)]=_
    simp only[Jb]
    rw[Xs,J9 hs,hk];rfl
 ·show Y1 _ _ _ [(bnd [] _ G,a,_),(bnd [] _ G,b,_)]
  simp only[Jb]
  rw[h.2.2,h.2.1]
  exact .cons
def xw (o:u.Ok)(hs:s<u.F.length)(cl:Vg u [])(k:Ak ((u.add none).add none) s (.f2 "pair" u.F.length (u.F.length+1)) u2):Jk u (.sh2 "Pair" a b) s u2 [([],u.F.length),([],u.F.length+1)]:=by
 have l1:(u.add none).F.length=u.F.length+1:=Zr
 have l2:((u.add none).add none).F.length=u.F.length+2:=by rw[Zr,l1]
 have kl:=k.len
 refine Xq (B:=3) (XE 3) ((Qq.refl o cl).new.new.ak k) o (by omega) rfl ?_ (λσ G cs r=>?_) λσ G h=>?_
 ·intro z hz
  rw[kl,l2]
  simp only[ZM,ZN,or_false] at hz
  rcases hz with rfl | rfl
  ·exact⟨by show u.F.length<_;omega,λi h=>by cases h⟩
  ·exact⟨by show u.F.length+1<_;omega,λi h=>by cases h⟩
 ·generalize hk:σ s=kk at r
  cases r with
  | @pair _ _ _ p q=>
   refine⟨λi=>if i=0 then p else if i=1 then q else Lc p q,⟨trivial,?_,?_⟩,?_⟩
   ·rw[l2,Wq]
    show Lc p q=.k2 "pair" (ov _ _ _ _) (ov _ _ _ _)
    rw[Xs,Wq];rfl
   ·rw[l2,Wq,J9 hs,hk];rfl
   ·show[(bnd [] _ G,a,_),(bnd [] _ G,b,_)]=_
    simp only[Jb]
    rw[Xs,Wq];rfl
 ·show Y1 _ _ _ [(bnd [] _ G,a,_),(bnd [] _ G,b,_)]
  simp only[Jb]
  rw[h.2.2,h.2.1]
  exact .pair
def vI (o:u.Ok)(hs:s<u.F.length)(cl:Vg u []):Jk u (.chT a b c) s (u.add (some (.f0 "truth"))) [([],u.F.length),([],s),([],s)]:=by
 refine Xq (B:=3) (XE 3) ((Qq.refl o cl).known (f:=.f0 "truth") (λp h=>by cases h)) o (by rw[Zr];omega) rfl ?_ (λσ G cs r=>?_) λσ G h=>?_
 ·intro z hz
  rw[Zr]
  simp only[ZM,ZN,or_false] at hz
  rcases hz with rfl | rfl | rfl
  ·exact⟨by show u.F.length<_;omega,λi h=>by cases h⟩
  ·exact⟨by show s<_;omega,λi h=>by cases h⟩
  ·exact⟨by show s<_;omega,λi h=>by cases h⟩
 ·generalize hk:σ s=kk at r
  cases r
  refine⟨λ_=>Mh,⟨trivial,by rw[Xs];rfl⟩,?_⟩
  show[(bnd [] _ G,a,_),(bnd [] _ G,b,_),(bnd [] _ G,c,_)]=_
  simp only[Jb]
  rw[Xs,J9 hs,hk]
 ·show Y1 _ _ _ [(bnd [] _ G,a,_),(bnd [] _ G,b,_),(bnd [] _ G,c,_)]
  simp only[Jb]
  rw[h.2]
  exact .chT
def vK (o:u.Ok)(hs:s<u.F.length)(cl:Vg u []):Jk u (.chL a b x y c) s ((u.add none).add (some (.f1 "list" u.F.length))) [([],u.F.length+1),([],s),([u.F.length,u.F.length+1],s)]:=by
 have l1:(u.add none).F.length=u.F.length+1:=Zr
 refine Xq (B:=3) (XE 3) ((Qq.refl o cl).new.known (f:=.f1 "list" u.F.length) (λp h=>by rw[XQ.mp h];omega)) o (by rw[Zr,l1];omega) rfl ?_ (λσ G cs r=>?_) λσ G h=>?_
 ·intro z hz
  rw[Zr,l1]
  simp only[ZM,ZN,or_false] at hz
  rcases hz with rfl | rfl | rfl
  ·exact⟨by show u.F.length+1<_;omega,λi h=>by cases h⟩
  ·exact⟨by show s<_;omega,λi h=>by cases h⟩
  ·exact⟨by show s<_;omega,λi h=>by simp only[ZM,ZN,or_false] at h;omega⟩
 ·generalize hk:σ s=kk at r
  cases r with
  | @chL _ _ _ _ _ _ _ p=>
   refine⟨λi=>if i=0 then p else Xm p,⟨trivial,?_⟩,?_⟩
   ·rw[l1,Wq]
    show Xm p=.k1 "list" (ov _ _ _ _)
    rw[Xs];rfl
   ·show[(bnd [] _ G,a,_),(bnd [] _ G,b,_),(bnd [x,y] [ov _ _ _ _,ov _ _ _ _] G,c,_)]=_
    simp only[Jb]
    rw[Xs,Wq,J9 hs,hk];rfl
 ·show Y1 _ _ _ [(bnd [] _ G,a,σ (u.F.length+1)),(bnd [] _ G,b,_),(bnd [x,y] [σ u.F.length,σ (u.F.length+1)] G,c,_)]
  have e:=h.2
  rw[l1] at e
  simp only[Jb]
  rw[e]
  exact .chL
def vJ (o:u.Ok)(hs:s<u.F.length)(cl:Vg u []):Jk u (.chP a x y b) s (((u.add none).add none).add (some (.f2 "pair" u.F.length (u.F.length+1)))) [([],u.F.length+2),([u.F.length,u.F.length+1],s)]:=by
 have l1:(u.add none).F.length=u.F.length+1:=Zr
 have l2:((u.add none).add none).F.length=u.F.length+2:=by rw[Zr,l1]
 refine Xq (B:=3) (Nat.le_refl 3) ((Qq.refl o cl).new.new.known (f:=.f2 "pair" u.F.length (u.F.length+1)) (λp h=>by simp only[Fm.ps,List.mem_cons,List.not_mem_nil,or_false] at h;omega)) o (by rw[Zr,l2];omega) rfl ?_ (λσ G cs r=>?_) λσ G h=>?_
 ·intro z hz
  rw[Zr,l2]
  simp only[ZM,ZN,or_false] at hz
  rcases hz with rfl | rfl
  ·exact⟨by show u.F.length+2<_;omega,λi h=>by cases h⟩
  ·exact⟨by show s<_;omega,λi h=>by simp only[ZM,ZN,or_false] at h;omega⟩
 ·generalize hk:σ s=kk at r
  cases r with
  | @chP _ _ _ _ _ _ p q=>
   refine⟨λi=>if i=0 then p else if i=1 then q else Lc p q,⟨trivial,?_⟩,?_⟩
   ·rw[l2,Wq]
    show Lc p q=.k2 "pair" (ov _ _ _ _) (ov _ _ _ _)
    rw[Xs,Wq];rfl
   ·show[(bnd [] _ G,a,_),(bnd [x,y] [ov _ _ _ _,ov _ _ _ _] G,b,_)]=_
    simp only[Jb]
    rw[Xs,Wq,Wq,J9 hs,hk];rfl
 ·show Y1 _ _ _ [(bnd [] _ G,a,σ (u.F.length+2)),(bnd [x,y] [σ u.F.length,σ (u.F.length+1)] G,b,_)]
  have e:=h.2
  rw[l2] at e
  simp only[Jb]
  rw[e]
  exact .chP
def Us.addN (u:Us):Nat->Us
 | 0=>u
 | n+1=>(u.addN n).add none
def Sy:∀n,(u.addN n).F.length=u.F.length+n
 | 0=>rfl
 | n+1=>by show((u.addN n).add none).F.length=_;rw[Zr,Sy n];omega
def Qq.newN (e:Qq u u1 P):∀n,Qq u (u1.addN n) P
 | 0=>e
 | n+1=>(Qq.newN e n).new
abbrev Uw (u:Us)(n:Nat):List Nat:=(List.finRange n).map λi=>u.F.length+i.val
def Ad {m:Nat}{xs:Fin m->Str}{ts:Fin m->Tr}{G:Ev}:F9 (.lt m xs ts b) (((Uw u m).map λo=>(Uw u m,o))++[(Uw u m,s)]) σ G=
  ((List.finRange m).map λi=>(bnd (Ui xs) ((List.finRange m).map λi=>σ (u.F.length+i.val)) G,ts i,σ (u.F.length+i.val)))++[(bnd (Ui xs) ((List.finRange m).map λi=>σ (u.F.length+i.val)) G,b,σ s)]:=by
 have e:(Uw u m).map σ=(List.finRange m).map λi=>σ (u.F.length+i.val):=by rw[YE];rfl
 unfold F9 Tr.scs
 rw[List.zip_append (by rw[XI,XI,XI]),XL,YE,List.zip_map',YE,<-e]
 rfl
def rq {m:Nat}{xs:Fin m->Str}{ts:Fin m->Tr}(hm:m<=10)(o:u.Ok)(hs:s<u.F.length)(cl:Vg u []):Jk u (.lt m xs ts b) s (u.addN m) (((Uw u m).map λo=>(Uw u m,o))++[(Uw u m,s)]):=by
 have lo:∀i∈Uw u m,i<(u.addN m).F.length:=λi hi=>by
  obtain⟨j,_,rfl⟩:=XR.mp hi
  rw[Sy];have:=j.isLt;omega
 refine Xq (B:=m) (Nat.le_refl m) ((Qq.refl o cl).newN m) o (by rw[Sy];omega) (by simp[Tr.scs,Function.comp_def]) ?_ (λσ G cs r=>?_) λσ G h=>?_
 ·intro z hz
  rcases XS.mp hz with hz | hz
  ·obtain⟨i,hi,rfl⟩:=XR.mp hz
   exact⟨lo i hi,lo⟩
  ·rw[XQ.mp hz]
   exact⟨by show s<_;rw[Sy];omega,lo⟩
 ·generalize hk:σ s=kk at r
  cases r with
  | @lt _ _ _ _ _ _ ks=>
   refine⟨λi=>if h:i<m then ks ⟨i,h⟩ else Jm,trivial,?_⟩
   rw[Ad,J9 hs,hk]
   have e:∀i:Fin m,ov u.F.length σ (λi=>if h:i<m then ks ⟨i,h⟩ else Jm) (u.F.length+i.val)=ks i:=λi=>by
    rw[Wq,dif_pos i.isLt]
   simp only[e]
 ·rw[Ad]
  exact .lt (ks:=λi=>σ (u.F.length+i.val))
end
end Fn
namespace K24
open PySem PySem.Spec PyProof.Rows L2 WL Fn
abbrev Aw (z:List Nat×Nat):T:=.tup [.tup (z.1.map nT),nT z.2]
section
variable {A:Sd}{C C':Hw}{u:Us}{Q:WK}{χ:WX}{n x a b k s:Nat}{o:O}{σ σ0:Nat->Kd}{τ:Sw}{f:Fm}{t:Tr}
def Ti {C1:Hw}{u1:Us}{p:Addr}(S:Sl A C1 u1)(F:Fx A C C1)(h:C1 p=none):C p=none:=by
 obtain⟨_,_,S⟩:=S
 cases e:C p with
 | none=>rfl
 | some w=>
  by_cases c:p=A.f
  ·rw[c,S.f] at h;cases h
  ·by_cases d:p=A.l
   ·rw[d,S.l] at h;cases h
   ·rw[F p w c d e] at h;cases h
def Sl.new {p:Addr}(S:Sl A C u)(h:C p=none):Sl A (up C p o) u:=by
 obtain⟨rk,L,S⟩:=S
 exact⟨rk,L,S.new h⟩
def Vt {C1:Hw}{u1:Us}{p:Addr}(S:Sl A C1 u1)(F:Fx A C C1)(h:C1 p=none):Fx A C (up C1 p o):=λc w m1 m2 e=>by
 have q:=F c w m1 m2 e
 rw[Zg λz=>by rw[z,h] at q;cases q]
 exact q
def Rf {X:WE}(S:Sl A C u)(o:u.Ok)(hn:u.F.length<=8000)(h0:τ[0]?=some (some (.ref A.r)))(hX:∀{C:Hw} {Q:WK},Q (Al (some f)) C->X τ C Q χ)
  (q:∀C',Sl A C' (u.add (some f))->Fx A C C'->Q (nT u.F.length) C'):Q7 (Ye pr (n+1)) [("Slots",7)] "known" (Y0 0) (Ya X Zw) τ C Q χ:=by
 obtain⟨rk,L,S0⟩:=id S
 refine⟨_,h0,_,_,_,_,rfl,S0.r,rfl,rfl,hX ?_⟩
 dsimp only[Zw]
 exact Bv (n:=n) S o (by omega) q
def Y8 (S:Sl A C u)(o:u.Ok)(hn:u.F.length<=8000)(h0:τ[0]?=some (some (.ref A.r)))(q:∀C',Sl A C' (u.add none)->Fx A C C'->Q (nT u.F.length) C'):
  Q7 (Ye pr (n+2)) [("Slots",6)] "unknown" (Y0 0) Zw τ C Q χ:=by
 obtain⟨rk,L,S0⟩:=id S
 exact⟨_,h0,_,_,_,_,rfl,S0.r,rfl,rfl,Kh (n:=n) S o (by omega) q⟩
def D0 {X:WE}(S:Sl A C u)(o:u.Ok)(cl:Vg u [])(hs:s<u.F.length)(hf:∀p∈f.ps,p<u.F.length)(w:∃σ0,Um u σ0/\σ0 s=f.ev σ0)(hn:u.F.length<=8000)
  (h0:τ[0]?=some (some (.ref A.r))) (hk:τ[k]?=some (some (nT s))) (hX:∀{C:Hw} {Q:WK},Q (Al (some f)) C->X τ C Q χ) (q:∀C' u2,Sl A C' u2->Fx A C C'->Ak u s f u2->Q .non C'):
  Q7 (Ye pr (n+2)) [("Slots",10)] "make_alike" (Y0 0) (Ya (Y0 k) (Ya (Q7 (Ye pr (n+2)) [("Slots",7)] "known" (Y0 0) (Ya X Zw)) Zw)) τ C Q χ:=by
 obtain⟨rk,L,S0⟩:=id S
 refine⟨_,h0,_,_,_,_,rfl,S0.r,rfl,rfl,_,hk,Rf (n:=n+1) S o hn h0 hX λC1 S1 F1=>?_⟩
 dsimp only[Zw]
 obtain⟨σ0,w1,w2⟩:=w
 have o1:(u.add (some f)).Ok:=Wu o (λg h=>by cases h;exact hf)
 have ag:∀i,i<u.F.length->ov u.F.length σ0 (λ_=>f.ev σ0) i=σ0 i:=λi hi=>J9 hi
 have fe:f.ev (ov u.F.length σ0 λ_=>f.ev σ0)=f.ev σ0:=Q6 λp hp=>ag p (hf p hp)
 refine Qw (n:=n) (σ0:=ov u.F.length σ0 λ_=>f.ev σ0) S1 o1 (Vc o cl) (by rw[Zr];omega) (by rw[Zr];omega) ((Wc o).mpr ⟨Vd o w1 ag,λg h=>by cases h;rw[Xs,fe]⟩) (by rw[ag s hs,Xs,w2]) (by rw[Zr];omega)
  λC2 u2 S2 F2 o2 c2 e2 sol2=>q C2 u2 S2 (F1.trans F2) ⟨o2,c2,e2,λσ=>?_⟩
 rw[sol2,Wc o,and_assoc]
 exact⟨λh=>⟨h.1,h.2.1 f rfl,h.2.2⟩,λh=>⟨h.1,λg z=>by cases z;exact h.2.1,h.2.2⟩⟩
def Y9 {C1:Hw}{u1:Us}{as:As}(q:∀C' p u' as,Sl A C' u'->Fx A C C'->C p=none->C' p=some (.lst (as.map Aw))->Jk u t s u' as->Q (.ref p) C')(S1:Sl A C1 u1)(F1:Fx A C C1)(h:Jk u t s u1 as)
  (p:Addr) (hp:C1 p=none):Q (.ref p) (up C1 p (.lst (as.map Aw))):=q _ p u1 as (S1.new hp) (Vt S1 F1 hp) (Ti S1 F1 hp) Ze h
def Yv {m:Nat}(h:m<=100000):m<=sizeLine:=XN h (by decide)
def Iy {oo:Str}{t1 t2:Tr}(S:Sl A C u)(o:u.Ok)(cl:Vg u [])(hs:s<u.F.length)(hn:u.F.length<=7000)(w:∃σ0 G cs,Um u σ0/\Y1 (.does oo t1 t2) G (σ0 s) cs)
  (q:∀C' p u' as,Sl A C' u'->Fx A C C'->C p=none->C' p=some (.lst (as.map Aw))->Jk u (.does oo t1 t2) s u' as->Q (.ref p) C'):Ye pr (n+3) Ho [.ref A.r,.str oo,nT s] C Q χ:=by
 refine Ij rfl ?_
 unfold Ta Tv
 have key:∀(v:Str),v=wT oo->∀D:We,D.rt=Q->D.xc=χ->(Px (Fj (Q7 (Ye pr (n+2)) [("Slots",10)] "make_alike" (Y0 0) (Ya (Y0 2) (Ya (Q7 (Ye pr (n+2)) [("Slots",7)] "known" (Y0 0) (Ya (O0 (Ya (Y0 3) Zw)) Zw)) Zw))))
   (Px (Dh (Q7 (Ye pr (n+2)) [("Slots",7)] "known" (Y0 0) (Ya (O0 (Ya (eC (.str "num")) Zw)) Zw)) (zO 4)) (Iz (Co (Ya (O0 (Ya (O0 Zw) (Ya (Y0 4) Zw))) (Ya (O0 (Ya (O0 Zw) (Ya (Y0 4) Zw))) Zw)))))) D
   [some (.ref A.r),some (.str oo),some (nT s),some (.str v),none] C:=by
  rintro v rfl D rfl rfl
  obtain⟨σ0,G,cs,w1,w2⟩:=w
  have we:σ0 s=(Fm.f0 (wT oo)).ev σ0:=by generalize σ0 s=kk at w2;cases w2;rfl
  refine D0 (n:=n) (s:=s) (f:=.f0 (wT oo)) S o cl hs (λp h=>by cases h) ⟨σ0,w1,we⟩ (by omega) rfl rfl (λ{C Q} h=>⟨_,rfl,Yv (by show 1<=_;omega),h⟩) λC1 u1 S1 F1 ak=>?_
  have l1:=ak.len
  refine Rf (n:=n+1) (f:=.f0 "num") S1 ak.o (by omega) rfl (λ{C Q} h=>⟨Yv (by show 1<=_;omega),h⟩) λC2 S2 F2=>?_
  refine⟨Yv (by show 0<=_;omega),_,rfl,Yv (by show 2<=_;omega),Yv (by show 0<=_;omega),_,rfl,Yv (by show 2<=_;omega),Yv (by show 2<=_;omega),λp hp=>?_⟩
  exact Y9 q S2 (F1.trans F2) (xy o hs ak cl) p hp
 by_cases c1:oo="<"
 ·exact⟨_,rfl,Zt (v:=true) (by rw[c1];exact XU _) ⟨_,rfl,Z2 (Z2 (key _ (by unfold wT;rw[XY (.inl c1)]) _ rfl rfl))⟩⟩
 ·refine⟨_,rfl,Zt (v:=false) (beq_eq_false_iff_ne.mpr c1) ⟨_,rfl,Zj ?_⟩⟩
  by_cases c2:oo="="
  ·exact⟨_,rfl,Zt (v:=true) (by rw[c2];exact XU _) ⟨_,rfl,Z2 (key _ (by unfold wT;rw[XY (.inr c2)]) _ rfl rfl)⟩⟩
  ·exact⟨_,rfl,Zt (v:=false) (beq_eq_false_iff_ne.mpr c2) ⟨_,rfl,Zj (key _ (by unfold wT;rw[XX (by rintro(h | h);exact c1 h;exact c2 h)]) _ rfl rfl)⟩⟩
def yW {c:Str}(S:Sl A C u)(o:u.Ok)(cl:Vg u [])(hs:s<u.F.length)(hn:u.F.length<=7000)(w:∃σ0 G cs,Um u σ0/\Y1 (.sh0 c) G (σ0 s) cs)
  (q:∀C' p u' as,Sl A C' u'->Fx A C C'->C p=none->C' p=some (.lst (as.map Aw))->Jk u (.sh0 c) s u' as->Q (.ref p) C'):Ye pr (n+3) Rx [.ref A.r,.str c,nT s] C Q χ:=by
 refine Rn rfl ?_
 unfold X8 Wd
 obtain⟨σ0,G,cs,w1,w2⟩:=w
 have ox:∀cc:Str,(cc="No"\/cc="Yes")->c=cc->σ0 s=Mh->∀D:We,D.rt=Q->D.xc=χ->∀r:WS,Px (Fj (Q7 (Ye pr (n+2)) [("Slots",10)] "make_alike" (Y0 0) (Ya (Y0 2) (Ya (Q7 (Ye pr (n+2)) [("Slots",7)] "known" (Y0 0) (Ya (O0 (Ya (eC (.str "truth")) Zw)) Zw)) Zw))))
   (Iz (Co Zw)) D [some (.ref A.r),some (.str c),some (nT s),none,none] C:=by
  rintro cc hc rfl hk D rfl rfl r
  refine D0 (n:=n) (s:=s) (f:=.f0 "truth") S o cl hs (λp h=>by cases h) ⟨σ0,w1,hk⟩ (by omega) rfl rfl (λ{C Q} h=>⟨Yv (by show 1<=_;omega),h⟩) λC1 u1 S1 F1 ak=>?_
  exact⟨Yv (by show 0<=_;omega),λp hp=>Y9 q S1 F1 (ya hc o hs ak cl) p hp⟩
 generalize hk:σ0 s=kk at w2
 cases w2 with
 | no=>exact⟨_,rfl,Zt (v:=true) (by decide+kernel) ⟨_,rfl,Z2 (Z2 (ox "No" (.inl rfl) rfl hk _ rfl rfl So))⟩⟩
 | yes=>exact⟨_,rfl,Zt (v:=false) (by decide+kernel) ⟨_,rfl,Zj ⟨_,rfl,Zt (v:=true) (by decide+kernel) ⟨_,rfl,Z2 (ox "Yes" (.inr rfl) rfl hk _ rfl rfl So)⟩⟩⟩⟩
 | @nil _ p0=>
  refine⟨_,rfl,Zt (v:=false) (by decide+kernel) ⟨_,rfl,Zj ⟨_,rfl,Zt (v:=false) (by decide+kernel) ⟨_,rfl,Zj ?_⟩⟩⟩⟩
  refine Y8 (n:=n) S o (by omega) rfl λC1 S1 F1=>?_
  refine⟨_,rfl,Zt (v:=false) (by decide+kernel) ⟨_,rfl,Zj ?_⟩⟩
  have l1:(u.add none).F.length=u.F.length+1:=Zr
  have o1:(u.add none).Ok:=Wu o (λg h=>by cases h)
  have ag:∀i,i<u.F.length->ov u.F.length σ0 (λ_=>p0) i=σ0 i:=λi hi=>J9 hi
  refine D0 (n:=n) (s:=s) (f:=.f1 "list" u.F.length) S1 o1 (Vc o cl) (by omega) (λp h=>by rw[XQ.mp h];omega) ⟨ov u.F.length σ0 λ_=>p0,(Wc o).mpr ⟨Vd o w1 ag,λg h=>by cases h⟩,?_⟩ (by omega) rfl rfl (λ{C Q} h=>⟨_,rfl,Yv (by show 2<=_;omega),h⟩) λC2 u2 S2 F2 ak=>?_
  ·show _=Kd.k1 "list" (ov _ _ _ _)
   rw[ag s hs,Xs,hk]
  ·refine⟨_,rfl,Zt (v:=true) (by decide+kernel) ⟨_,rfl,Z2 ?_⟩⟩
   exact⟨Yv (by show 0<=_;omega),λp hp=>Y9 q S2 (F1.trans F2) (vH o hs cl ak) p hp⟩
def yV {c:Str}{t1 t2:Tr}(S:Sl A C u)(o:u.Ok)(cl:Vg u [])(hs:s<u.F.length)(hn:u.F.length<=7000)(w:∃σ0 G cs,Um u σ0/\Y1 (.sh2 c t1 t2) G (σ0 s) cs)
  (q:∀C' p u' as,Sl A C' u'->Fx A C C'->C p=none->C' p=some (.lst (as.map Aw))->Jk u (.sh2 c t1 t2) s u' as->Q (.ref p) C'):Ye pr (n+3) Rx [.ref A.r,.str c,nT s] C Q χ:=by
 refine Rn rfl ?_
 unfold X8 Wd
 obtain⟨σ0,G,cs,w1,w2⟩:=w
 have l1:(u.add none).F.length=u.F.length+1:=Zr
 have o1:(u.add none).Ok:=Wu o (λg h=>by cases h)
 generalize hk:σ0 s=kk at w2
 cases w2 with
 | @cons _ _ _ p0=>
  refine⟨_,rfl,Zt (v:=false) (by decide+kernel) ⟨_,rfl,Zj ⟨_,rfl,Zt (v:=false) (by decide+kernel) ⟨_,rfl,Zj ?_⟩⟩⟩⟩
  refine Y8 (n:=n) S o (by omega) rfl λC1 S1 F1=>?_
  refine⟨_,rfl,Zt (v:=false) (by decide+kernel) ⟨_,rfl,Zj ?_⟩⟩
  have ag:∀i,i<u.F.length->ov u.F.length σ0 (λ_=>p0) i=σ0 i:=λi hi=>J9 hi
  refine D0 (n:=n) (s:=s) (f:=.f1 "list" u.F.length) S1 o1 (Vc o cl) (by omega) (λp h=>by rw[XQ.mp h];omega) ⟨ov u.F.length σ0 λ_=>p0,(Wc o).mpr ⟨Vd o w1 ag,λg h=>by cases h⟩,?_⟩ (by omega) rfl rfl (λ{C Q} h=>⟨_,rfl,Yv (by show 2<=_;omega),h⟩) λC2 u2 S2 F2 ak=>?_
  ·show _=Kd.k1 "list" (ov _ _ _ _)
   rw[ag s hs,Xs,hk]
  ·refine⟨_,rfl,Zt (v:=false) (by decide+kernel) ⟨_,rfl,Zj ?_⟩⟩
   refine⟨Yv (by show 0<=_;omega),_,rfl,Yv (by show 2<=_;omega),Yv (by show 0<=_;omega),_,rfl,Yv (by show 2<=_;omega),Yv (by show 2<=_;omega),λp hp=>?_⟩
   exact Y9 q S2 (F1.trans F2) (xz o hs cl ak) p hp
 | @pair _ _ _ p0 q0=>
  refine⟨_,rfl,Zt (v:=false) (by decide+kernel) ⟨_,rfl,Zj ⟨_,rfl,Zt (v:=false) (by decide+kernel) ⟨_,rfl,Zj ?_⟩⟩⟩⟩
  refine Y8 (n:=n) S o (by omega) rfl λC1 S1 F1=>?_
  refine⟨_,rfl,Zt (v:=true) (by decide+kernel) ⟨_,rfl,Z2 ?_⟩⟩
  refine Y8 (n:=n) S1 o1 (by omega) rfl λC2 S2 F2=>?_
  have o2:((u.add none).add none).Ok:=Wu o1 (λg h=>by cases h)
  have l2:((u.add none).add none).F.length=u.F.length+2:=by rw[Zr,l1]
  have ag:∀i,i<u.F.length->ov u.F.length σ0 (λi=>if i=0 then p0 else q0) i=σ0 i:=λi hi=>J9 hi
  have S2':=S2
  rw[l1]
  refine D0 (n:=n) (s:=s) (f:=.f2 "pair" u.F.length (u.F.length+1)) S2 o2 (Vc o1 (Vc o cl)) (by omega) (λp h=>by simp only[Fm.ps,List.mem_cons,List.not_mem_nil,or_false] at h;omega) ⟨ov u.F.length σ0 λi=>if i=0 then p0 else q0,(Wc o1).mpr ⟨(Wc o).mpr ⟨Vd o w1 ag,λg h=>by cases h⟩,λg h=>by cases h⟩,?_⟩ (by omega) rfl rfl (λ{C Q} h=>⟨_,rfl,_,rfl,Yv (by show 3<=_;omega),h⟩) λC3 u3 S3 F3 ak=>?_
  ·show _=Kd.k2 "pair" (ov _ _ _ _) (ov _ _ _ _)
   rw[ag s hs,Xs,Wq,hk];rfl
  ·refine⟨Yv (by show 0<=_;omega),_,rfl,Yv (by show 2<=_;omega),Yv (by show 0<=_;omega),_,rfl,Yv (by show 2<=_;omega),Yv (by show 2<=_;omega),λp hp=>?_⟩
   exact Y9 q S3 ((F1.trans F2).trans F3) (xw o hs cl ak) p hp
end
def Tr.isNm:Tr->Bool
 | .nm _=>true
 | _=>false
section
variable {A:Sd}{C C':Hw}{u:Us}{Q:WK}{χ:WX}{n x a b k s:Nat}{o:O}{σ σ0:Nat->Kd}{τ:Sw}{f:Fm}{t:Tr}
def Dz (S:Sl A C u)(o:u.Ok)(hn:u.F.length<=8000)(h0:τ[k]?=some (some (.ref A.r)))(q:∀C',Sl A C' (u.add none)->Fx A C C'->Q (nT u.F.length) C'):
  Q7 (Ye pr (n+2)) [("Slots",6)] "unknown" (Y0 k) Zw τ C Q χ:=by
 obtain⟨rk,L,S0⟩:=id S
 exact⟨_,h0,_,_,_,_,rfl,S0.r,rfl,rfl,Kh (n:=n) S o (by omega) q⟩
def Az (o:u.Ok):∀n,(u.addN n).Ok
 | 0=>o
 | n+1=>Wu (Az o n) (λg h=>by cases h)
def q8 {t1 t2 t3:Tr}(S:Sl A C u)(o:u.Ok)(cl:Vg u [])(hs:s<u.F.length)(hn:u.F.length<=7000)
  (q:∀C' p u' as,Sl A C' u'->Fx A C C'->C p=none->C' p=some (.lst (as.map Aw))->Jk u (.chT t1 t2 t3) s u' as->Q (.ref p) C'):Ye pr (n+3) Vs [.ref A.r,.str "No",nT s] C Q χ:=by
 refine Vj rfl ?_
 unfold Js Jy
 refine⟨_,rfl,Zt (v:=true) (by decide+kernel) ⟨_,rfl,Z2 ?_⟩⟩
 refine⟨Yv (by show 0<=_;omega),Rf (n:=n+1) (f:=.f0 "truth") S o (by omega) rfl (λ{C Q} h=>⟨Yv (by show 1<=_;omega),h⟩) λC1 S1 F1=>?_⟩
 refine⟨Yv (by show 2<=_;omega),Yv (by show 0<=_;omega),_,rfl,Yv (by show 2<=_;omega),Yv (by show 0<=_;omega),_,rfl,Yv (by show 2<=_;omega),Yv (by show 3<=_;omega),λp hp=>?_⟩
 exact Y9 q S1 F1 (vI o hs cl) p hp
def qB {t1 t2 t3:Tr}{x y:Str}(S:Sl A C u)(o:u.Ok)(cl:Vg u [])(hs:s<u.F.length)(hn:u.F.length<=7000)
  (q:∀C' p u' as,Sl A C' u'->Fx A C C'->C p=none->C' p=some (.lst (as.map Aw))->Jk u (.chL t1 t2 x y t3) s u' as->Q (.ref p) C'):Ye pr (n+3) Vs [.ref A.r,.str "Nil",nT s] C Q χ:=by
 refine Vj rfl ?_
 unfold Js Jy
 have l1:(u.add none).F.length=u.F.length+1:=Zr
 have o1:(u.add none).Ok:=Wu o (λg h=>by cases h)
 refine⟨_,rfl,Zt (v:=false) (by decide+kernel) ⟨_,rfl,Zj ?_⟩⟩
 refine Y8 (n:=n) S o (by omega) rfl λC1 S1 F1=>?_
 refine⟨_,rfl,Zt (v:=false) (by decide+kernel) ⟨_,rfl,Zj ?_⟩⟩
 refine Rf (n:=n+1) (f:=.f1 "list" u.F.length) S1 o1 (by omega) rfl (λ{C Q} h=>⟨_,rfl,Yv (by show 2<=_;omega),h⟩) λC2 S2 F2=>?_
 rw[l1]
 refine⟨Yv (by show 0<=_;omega),_,rfl,Yv (by show 2<=_;omega),Yv (by show 0<=_;omega),_,rfl,Yv (by show 2<=_;omega),_,rfl,_,rfl,Yv (by show 2<=_;omega),_,rfl,Yv (by show 2<=_;omega),Yv (by show 3<=_;omega),λp hp=>?_⟩
 exact Y9 q S2 (F1.trans F2) (vK o hs cl) p hp
def qA {t1 t2:Tr}{x y:Str}(S:Sl A C u)(o:u.Ok)(cl:Vg u [])(hs:s<u.F.length)(hn:u.F.length<=7000)
  (q:∀C' p u' as,Sl A C' u'->Fx A C C'->C p=none->C' p=some (.lst (as.map Aw))->Jk u (.chP t1 x y t2) s u' as->Q (.ref p) C'):Ye pr (n+3) Vs [.ref A.r,.str "Pair",nT s] C Q χ:=by
 refine Vj rfl ?_
 unfold Js Jy
 have l1:(u.add none).F.length=u.F.length+1:=Zr
 have o1:(u.add none).Ok:=Wu o (λg h=>by cases h)
 have l2:((u.add none).add none).F.length=u.F.length+2:=by rw[Zr,l1]
 have o2:((u.add none).add none).Ok:=Wu o1 (λg h=>by cases h)
 refine⟨_,rfl,Zt (v:=false) (by decide+kernel) ⟨_,rfl,Zj ?_⟩⟩
 refine Y8 (n:=n) S o (by omega) rfl λC1 S1 F1=>?_
 refine⟨_,rfl,Zt (v:=true) (by decide+kernel) ⟨_,rfl,Z2 ?_⟩⟩
 refine Y8 (n:=n) S1 o1 (by omega) rfl λC2 S2 F2=>?_
 rw[l1]
 refine⟨Yv (by show 0<=_;omega),Rf (n:=n+1) (f:=.f2 "pair" u.F.length (u.F.length+1)) S2 o2 (by omega) rfl (λ{C Q} h=>⟨_,rfl,_,rfl,Yv (by show 3<=_;omega),h⟩) λC3 S3 F3=>?_⟩
 rw[l2]
 refine⟨Yv (by show 2<=_;omega),_,rfl,_,rfl,Yv (by show 2<=_;omega),_,rfl,Yv (by show 2<=_;omega),Yv (by show 2<=_;omega),λp hp=>?_⟩
 exact Y9 q S3 ((F1.trans F2).trans F3) (vJ o hs cl) p hp
def Iv (t:Tr)(ht:Tr.isNm t=false)(hl:∀m xs ts b,t=.lt m xs ts b->m<=10)(S:Sl A C u)(o:u.Ok)(cl:Vg u [])(hs:s<u.F.length)(hn:u.F.length<=7000)(w:∃σ0 G cs,Um u σ0/\Y1 t G (σ0 s) cs)
  (q:∀C' p u' as,Sl A C' u'->Fx A C C'->C p=none->C' p=some (.lst (as.map Aw))->Jk u t s u' as->Q (.ref p) C'):Ye pr (n+4) Hl [.ref A.r,tt t,nT s] C Q χ:=by
 refine Ig rfl ?_
 unfold U7 Tq
 have l1:(u.add none).F.length=u.F.length+1:=Zr
 have o1:(u.add none).Ok:=Wu o (λg h=>by cases h)
 cases t with
 | nm x=>cases ht
 | num v=>
  refine⟨_,rfl,_,Z4,?_⟩
  refine⟨_,rfl,Zt (v:=true) (by decide+kernel) ⟨_,rfl,Z2 ?_⟩⟩
  obtain⟨σ0,G,cs,w1,w2⟩:=w
  have we:σ0 s=(Fm.f0 "num").ev σ0:=by generalize σ0 s=kk at w2;cases w2;rfl
  refine D0 (n:=n+1) (s:=s) (f:=.f0 "num") S o cl hs (λp h=>by cases h) ⟨σ0,w1,we⟩ (by omega) rfl rfl (λ{C Q} h=>⟨Yv (by show 1<=_;omega),h⟩) λC1 u1 S1 F1 ak=>?_
  exact⟨Yv (by show 0<=_;omega),λp hp=>Y9 q S1 F1 (vG o hs ak cl) p hp⟩
 | does oo t1 t2=>
  refine⟨_,rfl,_,Z4,?_⟩
  refine⟨_,rfl,Zt (v:=false) (by decide+kernel) ⟨_,rfl,Zj ?_⟩⟩
  refine⟨_,rfl,Zt (v:=true) (by decide+kernel) ⟨_,rfl,Z2 ?_⟩⟩
  refine⟨_,rfl,_,rfl,_,V5,_,rfl,?_⟩
  dsimp only[Zw]
  exact Iy (n:=n) S o cl hs hn w q
 | fn x b=>
  refine⟨_,rfl,_,Z4,?_⟩
  refine⟨_,rfl,Zt (v:=false) (by decide+kernel) ⟨_,rfl,Zj ?_⟩⟩
  refine⟨_,rfl,Zt (v:=false) (by decide+kernel) ⟨_,rfl,Zj ?_⟩⟩
  refine⟨_,rfl,Zt (v:=true) (by decide+kernel) ⟨_,rfl,Z2 ?_⟩⟩
  obtain⟨σ0,G,cs,w1,w2⟩:=w
  generalize hk:σ0 s=kk at w2
  cases w2 with
  | @fn _ _ _ p0 q0=>
  refine Y8 (n:=n+1) S o (by omega) rfl λC1 S1 F1=>?_
  refine Y8 (n:=n+1) S1 o1 (by omega) rfl λC2 S2 F2=>?_
  have o2:((u.add none).add none).Ok:=Wu o1 (λg h=>by cases h)
  have l2:((u.add none).add none).F.length=u.F.length+2:=by rw[Zr,l1]
  have ag:∀i,i<u.F.length->ov u.F.length σ0 (λi=>if i=0 then p0 else q0) i=σ0 i:=λi hi=>J9 hi
  rw[l1]
  refine D0 (n:=n+1) (s:=s) (f:=.f2 "to" u.F.length (u.F.length+1)) S2 o2 (Vc o1 (Vc o cl)) (by omega) (λp h=>by simp only[Fm.ps,List.mem_cons,List.not_mem_nil,or_false] at h;omega) ⟨ov u.F.length σ0 λi=>if i=0 then p0 else q0,(Wc o1).mpr ⟨(Wc o).mpr ⟨Vd o w1 ag,λg h=>by cases h⟩,λg h=>by cases h⟩,?_⟩ (by omega) rfl rfl (λ{C Q} h=>⟨_,rfl,_,rfl,Yv (by show 3<=_;omega),h⟩) λC3 u3 S3 F3 ak=>?_
  ·show _=Kd.k2 "to" (ov _ _ _ _) (ov _ _ _ _)
   rw[ag s hs,Xs,Wq,hk];rfl
  ·refine⟨_,rfl,Yv (by show 1<=_;omega),_,rfl,Yv (by show 2<=_;omega),Yv (by show 1<=_;omega),λp hp=>?_⟩
   exact Y9 q S3 ((F1.trans F2).trans F3) (r4 o hs cl ak) p hp
 | call t1 t2=>
  refine⟨_,rfl,_,Z4,?_⟩
  refine⟨_,rfl,Zt (v:=false) (by decide+kernel) ⟨_,rfl,Zj ?_⟩⟩
  refine⟨_,rfl,Zt (v:=false) (by decide+kernel) ⟨_,rfl,Zj ?_⟩⟩
  refine⟨_,rfl,Zt (v:=false) (by decide+kernel) ⟨_,rfl,Zj ?_⟩⟩
  refine⟨_,rfl,Zt (v:=true) (by decide+kernel) ⟨_,rfl,Z2 ?_⟩⟩
  refine Y8 (n:=n+1) S o (by omega) rfl λC1 S1 F1=>?_
  refine⟨Yv (by show 0<=_;omega),Rf (n:=n+2) (f:=.f2 "to" u.F.length s) S1 o1 (by omega) rfl (λ{C Q} h=>⟨_,rfl,_,rfl,Yv (by show 3<=_;omega),h⟩) λC2 S2 F2=>?_⟩
  rw[l1]
  refine⟨Yv (by show 2<=_;omega),Yv (by show 0<=_;omega),_,rfl,Yv (by show 2<=_;omega),Yv (by show 2<=_;omega),λp hp=>?_⟩
  exact Y9 q S2 (F1.trans F2) (x8 o hs cl) p hp
 | first t1 t2=>
  refine⟨_,rfl,_,Z4,?_⟩
  refine⟨_,rfl,Zt (v:=false) (by decide+kernel) ⟨_,rfl,Zj ?_⟩⟩
  refine⟨_,rfl,Zt (v:=false) (by decide+kernel) ⟨_,rfl,Zj ?_⟩⟩
  refine⟨_,rfl,Zt (v:=false) (by decide+kernel) ⟨_,rfl,Zj ?_⟩⟩
  refine⟨_,rfl,Zt (v:=false) (by decide+kernel) ⟨_,rfl,Zj ?_⟩⟩
  refine⟨_,rfl,Zt (v:=false) (by decide+kernel) ⟨_,rfl,Zj ?_⟩⟩
  refine⟨_,rfl,Zt (v:=false) (by decide+kernel) ⟨_,rfl,Zj ?_⟩⟩
  refine⟨_,rfl,Zt (v:=false) (by decide+kernel) ⟨_,rfl,Zj ?_⟩⟩
  refine⟨_,rfl,Zt (v:=true) (by decide+kernel) ⟨_,rfl,Z2 ?_⟩⟩
  refine⟨Yv (by show 0<=_;omega),Y8 (n:=n+1) S o (by omega) rfl λC1 S1 F1=>?_⟩
  refine⟨Yv (by show 2<=_;omega),Yv (by show 0<=_;omega),_,rfl,Yv (by show 2<=_;omega),Yv (by show 2<=_;omega),λp hp=>?_⟩
  exact Y9 q S1 F1 (yb o hs cl) p hp
 | stop y=>
  refine⟨_,rfl,_,Z4,?_⟩
  refine⟨_,rfl,Zt (v:=false) (by decide+kernel) ⟨_,rfl,Zj ?_⟩⟩
  refine⟨_,rfl,Zt (v:=false) (by decide+kernel) ⟨_,rfl,Zj ?_⟩⟩
  refine⟨_,rfl,Zt (v:=false) (by decide+kernel) ⟨_,rfl,Zj ?_⟩⟩
  refine⟨_,rfl,Zt (v:=false) (by decide+kernel) ⟨_,rfl,Zj ?_⟩⟩
  refine⟨_,rfl,Zt (v:=false) (by decide+kernel) ⟨_,rfl,Zj ?_⟩⟩
  refine⟨_,rfl,Zt (v:=false) (by decide+kernel) ⟨_,rfl,Zj ?_⟩⟩
  refine⟨_,rfl,Zt (v:=false) (by decide+kernel) ⟨_,rfl,Zj ?_⟩⟩
  refine⟨_,rfl,Zt (v:=false) (by decide+kernel) ⟨_,rfl,Zj ?_⟩⟩
  refine⟨_,rfl,Zt (v:=true) (by decide+kernel) ⟨_,rfl,Z2 ?_⟩⟩
  exact⟨Yv (by show 0<=_;omega),λp hp=>Y9 q S (Fx.refl _ _) (xv o cl) p hp⟩
 | sh0 c=>
  refine⟨_,rfl,_,Z4,?_⟩
  refine⟨_,rfl,Zt (v:=false) (by decide+kernel) ⟨_,rfl,Zj ?_⟩⟩
  refine⟨_,rfl,Zt (v:=false) (by decide+kernel) ⟨_,rfl,Zj ?_⟩⟩
  refine⟨_,rfl,Zt (v:=false) (by decide+kernel) ⟨_,rfl,Zj ?_⟩⟩
  refine⟨_,rfl,Zt (v:=false) (by decide+kernel) ⟨_,rfl,Zj ?_⟩⟩
  refine⟨_,rfl,Zt (v:=false) (by decide+kernel) ⟨_,rfl,Zj ?_⟩⟩
  refine⟨_,rfl,Zt (v:=true) (by decide+kernel) ⟨_,rfl,Z2 ?_⟩⟩
  refine⟨_,rfl,_,rfl,_,V5,_,rfl,?_⟩
  dsimp only[Zw]
  exact yW (n:=n) S o cl hs hn w q
 | sh2 c t1 t2=>
  refine⟨_,rfl,_,Z4,?_⟩
  refine⟨_,rfl,Zt (v:=false) (by decide+kernel) ⟨_,rfl,Zj ?_⟩⟩
  refine⟨_,rfl,Zt (v:=false) (by decide+kernel) ⟨_,rfl,Zj ?_⟩⟩
  refine⟨_,rfl,Zt (v:=false) (by decide+kernel) ⟨_,rfl,Zj ?_⟩⟩
  refine⟨_,rfl,Zt (v:=false) (by decide+kernel) ⟨_,rfl,Zj ?_⟩⟩
  refine⟨_,rfl,Zt (v:=false) (by decide+kernel) ⟨_,rfl,Zj ?_⟩⟩
  refine⟨_,rfl,Zt (v:=true) (by decide+kernel) ⟨_,rfl,Z2 ?_⟩⟩
  refine⟨_,rfl,_,rfl,_,V5,_,rfl,?_⟩
  dsimp only[Zw]
  exact yV (n:=n) S o cl hs hn w q
 | chT t1 t2 t3=>
  refine⟨_,rfl,_,Z4,?_⟩
  refine⟨_,rfl,Zt (v:=false) (by decide+kernel) ⟨_,rfl,Zj ?_⟩⟩
  refine⟨_,rfl,Zt (v:=false) (by decide+kernel) ⟨_,rfl,Zj ?_⟩⟩
  refine⟨_,rfl,Zt (v:=false) (by decide+kernel) ⟨_,rfl,Zj ?_⟩⟩
  refine⟨_,rfl,Zt (v:=false) (by decide+kernel) ⟨_,rfl,Zj ?_⟩⟩
  refine⟨_,rfl,Zt (v:=false) (by decide+kernel) ⟨_,rfl,Zj ?_⟩⟩
  refine⟨_,rfl,Zt (v:=false) (by decide+kernel) ⟨_,rfl,Zj ?_⟩⟩
  refine⟨_,rfl,Zt (v:=true) (by decide+kernel) ⟨_,rfl,Z2 ?_⟩⟩
  refine⟨_,rfl,_,rfl,_,K5,_,Z4,_,Z4,_,rfl,?_⟩
  dsimp only[Zw]
  exact q8 (n:=n) S o cl hs hn q
 | chL t1 t2 x y t3=>
  refine⟨_,rfl,_,Z4,?_⟩
  refine⟨_,rfl,Zt (v:=false) (by decide+kernel) ⟨_,rfl,Zj ?_⟩⟩
  refine⟨_,rfl,Zt (v:=false) (by decide+kernel) ⟨_,rfl,Zj ?_⟩⟩
  refine⟨_,rfl,Zt (v:=false) (by decide+kernel) ⟨_,rfl,Zj ?_⟩⟩
  refine⟨_,rfl,Zt (v:=false) (by decide+kernel) ⟨_,rfl,Zj ?_⟩⟩
  refine⟨_,rfl,Zt (v:=false) (by decide+kernel) ⟨_,rfl,Zj ?_⟩⟩
  refine⟨_,rfl,Zt (v:=false) (by decide+kernel) ⟨_,rfl,Zj ?_⟩⟩
  refine⟨_,rfl,Zt (v:=true) (by decide+kernel) ⟨_,rfl,Z2 ?_⟩⟩
  refine⟨_,rfl,_,rfl,_,K5,_,Z4,_,Z4,_,rfl,?_⟩
  dsimp only[Zw]
  exact qB (n:=n) S o cl hs hn q
 | chP t1 x y t2=>
  refine⟨_,rfl,_,Z4,?_⟩
  refine⟨_,rfl,Zt (v:=false) (by decide+kernel) ⟨_,rfl,Zj ?_⟩⟩
  refine⟨_,rfl,Zt (v:=false) (by decide+kernel) ⟨_,rfl,Zj ?_⟩⟩
  refine⟨_,rfl,Zt (v:=false) (by decide+kernel) ⟨_,rfl,Zj ?_⟩⟩
  refine⟨_,rfl,Zt (v:=false) (by decide+kernel) ⟨_,rfl,Zj ?_⟩⟩
  refine⟨_,rfl,Zt (v:=false) (by decide+kernel) ⟨_,rfl,Zj ?_⟩⟩
  refine⟨_,rfl,Zt (v:=false) (by decide+kernel) ⟨_,rfl,Zj ?_⟩⟩
  refine⟨_,rfl,Zt (v:=true) (by decide+kernel) ⟨_,rfl,Z2 ?_⟩⟩
  refine⟨_,rfl,_,rfl,_,K5,_,Z4,_,Z4,_,rfl,?_⟩
  dsimp only[Zw]
  exact qA (n:=n) S o cl hs hn q
 | lt m xs ts b=>
  refine⟨_,rfl,_,Z4,?_⟩
  refine⟨_,rfl,Zt (v:=false) (by decide+kernel) ⟨_,rfl,Zj ?_⟩⟩
  refine⟨_,rfl,Zt (v:=false) (by decide+kernel) ⟨_,rfl,Zj ?_⟩⟩
  refine⟨_,rfl,Zt (v:=false) (by decide+kernel) ⟨_,rfl,Zj ?_⟩⟩
  refine⟨_,rfl,Zt (v:=false) (by decide+kernel) ⟨_,rfl,Zj ?_⟩⟩
  refine⟨_,rfl,Zt (v:=true) (by decide+kernel) ⟨_,rfl,Z2 ?_⟩⟩
  refine⟨_,rfl,_,V5,?_⟩
  have hm:=hl m xs ts b rfl
  refine Xp (λi acc C'=>Sl A C' (u.addN i)/\Fx A C C'/\acc=(List.range i).map (λj=>nT (u.F.length+j))) ⟨S,Fx.refl _ _,rfl⟩ (λ_ _ _ _ _=>trivial) ?_ ?_
  ·rintro i x acc C1 N hx ⟨S1,F1,rfl⟩ hN
   have hi:i<m:=by
    have:=(List.getElem?_eq_some_iff.mp hx).1
    simpa using this
   have la:=Sy (u:=u) i
   refine Z2 (q:=N ((List.range i).map λj=>nT (u.F.length+j)) C1) (Dz (n:=n+1) S1 (Az o i) (by omega) rfl λC2 S2 F2=>⟨Yj (by simp;omega),hN _ _ ⟨S2,F1.trans F2,?_⟩⟩)
   rw[List.range_succ,XL,la];rfl
  ·rintro acc C1 ⟨S1,F1,rfl⟩ p hp
   refine⟨_,rfl,_,Ze,?_⟩
   have em:(List.finRange m).length=m:=List.length_finRange
   have lm:((List.finRange m).map λi=>T.tup [.str (xs i),tt (ts i)]).length=m:=by rw[XI,em]
   rw[lm] at S1 |-
   have eo:(List.range m).map (λj=>nT (u.F.length+j))=(Uw u m).map nT:=by
    rw[YE]
    have:List.range m=(List.finRange m).map Fin.val:=by
     apply List.ext_getElem
     ·simp
     ·intro i h1 h2;simp
    rw[this,YE]
    rfl
   rw[eo]
   have S2:Sl A (up C1 p (.lst ((Uw u m).map nT))) (u.addN m):=S1.new hp
   have F2:Fx A C (up C1 p (.lst ((Uw u m).map nT))):=Vt S1 F1 hp
   generalize up C1 p (.lst ((Uw u m).map nT))=C2 at S2 F2
   refine⟨_,rfl,?_⟩
   have lo:((Uw u m).map nT).length=m:=by rw[XI,XI,em]
   refine X5 (λt=>.tup [.tup ((Uw u m).map nT),t]) trivial (by rw[lo];exact Yv (by omega)) (λx hx R hR=>?_) λp2 hp2=>?_
   ·exact⟨_,rfl,_,rfl,Yv (by show 2<=_;omega),hR⟩
   refine⟨_,rfl,_,rfl,Yv (by show 2<=_;omega),Yv (by show 1<=_;omega),λp3 hp3=>?_⟩
   have S3:Sl A (up C2 p2 _) (u.addN m):=S2.new (o:=.lst (((Uw u m).map nT).map λt=>.tup [.tup ((Uw u m).map nT),t])) hp2
   have F3:Fx A C (up C2 p2 _):=Vt (o:=.lst (((Uw u m).map nT).map λt=>.tup [.tup ((Uw u m).map nT),t])) S2 F2 hp2
   have n23:p2≠p3:=λe=>by rw[<-e,Ze] at hp3;cases hp3
   refine⟨_,_,by rw[Zg n23];exact Ze,Ze,by rw[XI,lo];exact Yv (by show m+1<=_;omega),λp4 hp4=>?_⟩
   have S4:Sl A (up (up C2 p2 _) p3 _) (u.addN m):=S3.new (o:=.lst [.tup [.tup ((Uw u m).map nT),nT s]]) hp3
   have F4:Fx A C (up (up C2 p2 _) p3 _):=Vt (o:=.lst [.tup [.tup ((Uw u m).map nT),nT s]]) S3 F3 hp3
   have fin:=Y9 q S4 F4 (rq (xs:=xs) (ts:=ts) (b:=b) hm o hs cl) p4 hp4
   have e:∀os:List Nat,((os.map λo=>(os,o))++[(os,s)]).map Aw=((os.map nT).map λt=>T.tup [.tup (os.map nT),t])++[.tup [.tup (os.map nT),nT s]]:=λos=>by
    rw[XL,YE,YE];rfl
   rw[e] at fin
   exact fin
end
def Mr {kvs:List (Z1×T)}{kk j:Z1}{v:T}:Yl (Ji kvs kk v) j=if j=kk then some v else Yl kvs j:=by
 have key:∀kvs:List (Z1×T),Yl (kvs.map λz=>if z.1=kk then(z.1,v) else z) j=if j=kk/\(kvs.any λz=>decide (z.1=kk))=true then some v else Yl kvs j:=by
  intro kvs
  induction kvs with
  | nil=>simp[Yl]
  | cons z r ih=>
   unfold Yl at ih |-
   rw[YI,List.find?_cons,List.find?_cons,List.any_cons]
   by_cases c:z.1=kk
   ·rw[XY c]
    by_cases d:j=kk
    ·subst d;simp[c]
    ·have:¬z.1=j:=λe=>d (e.symm.trans c)
     simp only[this,decide_false,d,false_and,if_false]
     rw[ih];simp[d]
   ·rw[XX c]
    by_cases d:z.1=j
    ·have:¬j=kk:=λe=>c (d.trans e)
     simp[d,this]
    ·simp only[d,decide_false,c,Bool.false_or]
     exact ih
 unfold Ji
 split
 next h=>rw[key];simp[h]
 next h=>
  unfold Yl
  rw[List.find?_append]
  by_cases d:j=kk
  ·subst d
   have:kvs.find? (λz=>decide (z.1=j))=none:=List.find?_eq_none.mpr λz hz e=>h (List.any_eq_true.mpr ⟨z,hz,e⟩)
   rw[this,if_pos rfl];simp
  ·rw[XX d]
   have:¬kk=j:=λe=>d e.symm
   cases kvs.find? (λz=>decide (z.1=j))<;>simp[this]
section
variable {kvs l more:List (Z1×T)}{kk j:Z1}{v:T}
def jP {a b:List (Z1×T)}:Yl (a++b) j=(Yl a j).or (Yl b j):=by
 unfold Yl
 rw[List.find?_append]
 cases a.find? λkv=>decide (kv.1=j)<;>rfl
def Mu:∀{l base:List (Z1×T)},Yl (l.foldl (λa kv=>Ji a kv.1 kv.2) base) j=(Yl l.reverse j).or (Yl base j)
 | [],base=>rfl
 | p::l,base=>by
  rw[List.foldl_cons,Mu (l:=l),List.reverse_cons,jP,Mr,Option.or_assoc]
  congr 1
  unfold Yl
  by_cases c:j=p.1
  ·subst c;simp
  ·rw[XX c]
   have:¬p.1=j:=λe=>c e.symm
   simp[this]
def N3:(Ji kvs kk v).map (·.1)=if (kvs.any λkv=>decide (kv.1=kk))=true then kvs.map (·.1) else kvs.map (·.1)++[kk]:=by
 unfold Ji
 split
 ·rw[YE]
  congr 1
  funext z
  show(if z.1=kk then(z.1,v) else z).1=z.1
  split<;>rfl
 ·rw[XL];rfl
def uR (h:(kvs.map (·.1)).Nodup):((Ji kvs kk v).map (·.1)).Nodup:=by
 rw[N3]
 split
 ·exact h
 ·rename_i c
  refine List.nodup_append.mpr ⟨h,List.nodup_cons.mpr ⟨List.not_mem_nil,List.nodup_nil⟩,λa ha b hb=>?_⟩
  rw[XQ.mp hb]
  rintro rfl
  obtain⟨z,hz,rfl⟩:=XR.mp ha
  exact c (List.any_eq_true.mpr ⟨z,hz,by simp⟩)
def Aj:∀{l base:List (Z1×T)},(base.map (·.1)).Nodup->((l.foldl (λa kv=>Ji a kv.1 kv.2) base).map (·.1)).Nodup
 | [],_,h=>h
 | p::l,base,h=>by rw[List.foldl_cons];exact Aj (uR h)
def Ai {l:List (Z1×T)}(h:(l.map (·.1)).Nodup):Yl l j=some v↔(j,v)∈l:=by
 induction l with
 | nil=>simp[Yl]
 | cons p l ih=>
  obtain⟨h1,h2⟩:=List.nodup_cons.mp h
  have ih:=ih h2
  unfold Yl at ih |-
  rw[List.find?_cons]
  by_cases c:p.1=j
  ·subst c
   simp only[decide_true,Option.map_some,Option.some.injEq,List.mem_cons]
   refine⟨λe=>.inl (by rw[<-e]),λe=>?_⟩
   rcases e with e | e
   ·rw[<-e]
   ·exact absurd (XR.mpr ⟨_,e,rfl⟩) h1
  ·simp only[c,decide_false,List.mem_cons]
   rw[ih]
   exact⟨λe=>.inr e,λe=>e.resolve_left λz=>c (by rw[<-z])⟩
def vj {l:List (Z1×T)}(h:(l.map (·.1)).Nodup):Yl l.reverse j=Yl l j:=by
 have hr:(l.reverse.map (·.1)).Nodup:=by rw[List.map_reverse];exact(List.reverse_perm _).nodup_iff.mpr h
 refine Option.ext λw=>?_
 rw[Ai hr,Ai h,List.mem_reverse]
def z7 {ks:List Z1}{ts:List T}:Yl (Sq kvs (Ku Ji ks ts)) j=(Yl (ks.zip ts).reverse j).or (Yl kvs j):=by
 unfold Sq
 rw[Mu,vj]
 ·unfold Ku
  rw[Mu]
  cases Yl (ks.zip ts).reverse j<;>rfl
 ·exact Aj List.nodup_nil
def wB:(Ji kvs kk v).length<=kvs.length+1:=by
 have h:=congrArg List.length (N3 (kvs:=kvs) (kk:=kk) (v:=v))
 rw[XI] at h
 rw[h]
 split
 ·rw[XI];omega
 ·rw[List.length_append,XI];exact XE _
def Mt:∀{l base:List (Z1×T)},(l.foldl (λa kv=>Ji a kv.1 kv.2) base).length<=base.length+l.length
 | [],_=>XE _
 | p::l,base=>by
  rw[List.foldl_cons,YF]
  have:=Mt (l:=l) (base:=Ji base p.1 p.2)
  have:=wB (kvs:=base) (kk:=p.1) (v:=p.2)
  omega
def yl (kvs:List (Z1×T))(E:Str->Option Nat):Prop:=∀x,Yl kvs (.inr x)=(E x).map nT
def xP {x:Str}:∀{xs:List Str} {ss:List Nat},Yl ((xs.map Sum.inr).zip (ss.map nT)).reverse (.inr x)=((xs.zip ss).reverse.lookup x).map nT:=by
 intro xs ss
 have gen:∀l:List (Str×Nat),Yl (l.map λp=>((Sum.inr p.1:Z1),nT p.2)) (.inr x)=(l.lookup x).map nT:=by
  intro l
  induction l with
  | nil=>rfl
  | cons p l ih=>
   obtain⟨a,b⟩:=p
   unfold Yl at ih |-
   rw[YI,List.find?_cons,List.lookup_cons]
   by_cases c:x=a
   ·subst c;simp
   ·have h1:(x==a)=false:=beq_eq_false_iff_ne.mpr c
    have h2:¬(Sum.inr a:Z1)=.inr x:=λe=>c (by cases e;rfl)
    simp only[h1,h2,decide_false]
    exact ih
 have e:(xs.map (Sum.inr:Str->Z1)).zip (ss.map nT)=(xs.zip ss).map λp=>((Sum.inr p.1:Z1),nT p.2):=by rw[List.zip_map];rfl
 rw[e,<-List.map_reverse]
 exact gen _
def vo {E:Str->Option Nat}{xs:List Str}{ss:List Nat}(h:yl kvs E):yl (Sq kvs (Ku Ji (xs.map Sum.inr) (ss.map nT))) (bnd xs ss E):=λx=>by
 rw[z7,xP,h x]
 unfold bnd
 cases (xs.zip ss).reverse.lookup x<;>rfl
def uj {xs:List Str}{ss:List Nat}:(Ku Ji (xs.map Sum.inr) (ss.map nT)).length<=xs.length:=by
 unfold Ku
 refine XN Mt ?_
 rw[List.length_zip,XI,List.length_nil]
 omega
def z0 {xs:List Str}{ss:List Nat}:(Sq kvs (Ku Ji (xs.map Sum.inr) (ss.map nT))).length<=kvs.length+xs.length:=by
 unfold Sq
 exact XN Mt (Nat.add_le_add_left uj _)
end
abbrev sS (z:List Str×Tr):List T×T:=(z.1.map T.str,tt z.2)
def vW:∀t:Tr,(∀m xs ts b,t=.lt m xs ts b->m<=10)->∃e,Sc (tt t) e (t.scs.map sS)
 | .num v,_=>⟨_,.other (by decide)⟩
 | .nm v,_=>⟨_,.other (by decide)⟩
 | .stop v,_=>⟨_,.other (by decide)⟩
 | .does _ _ _,_=>⟨_,.does⟩
 | .fn _ _,_=>⟨_,.fun_⟩
 | .call _ _,_=>⟨_,.call⟩
 | .first _ _,_=>⟨_,.first⟩
 | .lt m xs ts b,h=>by
  have hm:=h m xs ts b rfl
  have e:=Sc.let_ (B:=tt b) (xs:=(List.finRange m).map λi=>(T.str (xs i),tt (ts i))) (by rw[XI,List.length_finRange];omega)
  refine⟨none,?_⟩
  show Sc (.tup [.str "let",.tup ((List.finRange m).map λi=>.tup [.str (xs i),tt (ts i)]),tt b]) none ((((List.finRange m).map λi=>(Ui xs,ts i))++[(Ui xs,b)]).map sS)
  have e1:((List.finRange m).map λi=>(T.str (xs i),tt (ts i))).map (·.1)=(Ui xs).map T.str:=by rw[YE,YE];rfl
  rw[e1,YE,YE] at e
  rw[XL,YE]
  exact e
 | .sh0 _,_=>⟨_,.shape (ZNB rfl)⟩
 | .sh2 _ _ _,_=>⟨_,.shape (ZNB rfl)⟩
 | .chT a n y,_=>⟨_,.choose (ys:=[(.str "No",[],tt n),(.str "Yes",[],tt y)]) (ZNB rfl)⟩
 | .chL a n x y c,_=>⟨_,.choose (ys:=[(.str "Nil",[],tt n),(.str "Cons",[.str x,.str y],tt c)]) (ZNB rfl)⟩
 | .chP a x y b,_=>⟨_,.choose (ys:=[(.str "Pair",[.str x,.str y],tt b)]) (ZNB rfl)⟩
def rO (C:Hw)(N:Nat)(p:Pl)(v:T):Prop:=∃d kv,v=.tup [tt p.2.1,.ref d,nT p.2.2]/\C d=some (.dic kv)/\yl kv p.1/\kv.length<=N
def rO.mono {A:Sd}{C C':Hw}{N:Nat}{p:Pl}{v:T}(h:rO C N p v)(S:∃u,Sl A C u)(F:Fx A C C'):rO C' N p v:=by
 obtain⟨d,kv,h1,h2,h3,h4⟩:=h
 obtain⟨u,rk,L,S⟩:=S
 exact⟨d,kv,h1,F d _ (λe=>by rw[e,S.f] at h2;cases h2) (λe=>by rw[e,S.l] at h2;cases h2) h2,h3,h4⟩
abbrev Rz (C:Hw)(N:Nat)(ps:List Pl)(vs:List T):Prop:=Paired (rO C N) ps vs
def Rz.mono {A:Sd}{C C':Hw}{N:Nat}{ps:List Pl}{vs:List T}(h:Rz C N ps vs)(S:∃u,Sl A C u)(F:Fx A C C'):Rz C' N ps vs:=by
 induction h with
 | nil=>exact .nil
 | cons a b ih=>exact .cons (a.mono S F) ih
def Rz.snoc {C:Hw}{N:Nat}{ps:List Pl}{vs:List T}{p:Pl}{v:T}(h:Rz C N ps vs)(q:rO C N p v):Rz C N (ps++[p]) (vs++[v]):=by
 induction h with
 | nil=>exact .cons q .nil
 | cons a b ih=>exact .cons a ih
def Rz.keep {C C':Hw}{N:Nat}{ps:List Pl}{vs:List T}(h:Rz C N ps vs)(k:∀c kv,C c=some (.dic kv)->C' c=some (.dic kv)):Rz C' N ps vs:=by
 induction h with
 | nil=>exact .nil
 | cons a b ih=>
  obtain⟨d,kv,h1,h2,h3,h4⟩:=a
  exact .cons ⟨d,kv,h1,k d kv h2,h3,h4⟩ ih
def Sl.other {A:Sd}{C:Hw}{u:Us}{o:O}{p:Addr}(S:Sl A C u)(h:p≠A.r/\p≠A.f/\p≠A.l):Sl A (up C p o) u:=by
 obtain⟨rk,L,S⟩:=S
 exact⟨rk,L,S.other h.1 h.2.1 h.2.2⟩
def J1 {C:Hw}{a b:Addr}{o:O}(h:C a=some o)(h':C b=none):a≠b:=λe=>by rw[e,h'] at h;cases h
def Sl.off {A:Sd}{C:Hw}{u:Us}{p:Addr}(S:Sl A C u)(hp:C p=none):p≠A.r/\p≠A.f/\p≠A.l:=by
 obtain⟨_,_,h⟩:=S
 exact⟨λe=>(by rw[e,h.r] at hp;cases hp),λe=>(by rw[e,h.f] at hp;cases hp),λe=>(by rw[e,h.l] at hp;cases hp)⟩
def j4 (E:Str->Option Nat)(t:Tr)(as:As):List Pl:=(t.scs.zip as).map λz=>(bnd z.1.1 z.2.1 E,z.1.2,z.2.2)
def tR {E:Str->Option Nat}{t:Tr}{as:As}(h:as.length=t.scs.length):(j4 E t as).map (λz=>z.2.1)=t.scs.map (λz=>z.2):=by
 unfold j4
 rw[YE]
 have:((λz:Pl=>z.2.1)∘λz:(List Str×Tr)×(List Nat×Nat)=>(bnd z.1.1 z.2.1 E,z.1.2,z.2.2))=(λz=>z.2)∘Prod.fst:=rfl
 rw[this,<-YE,List.map_fst_zip (by omega)]
def uh {E:Str->Option Nat}{t:Tr}{as:As}{σ:Nat->Kd}:(j4 E t as).map (Pl.ev σ)=F9 t as σ (λx=>(E x).map σ):=by
 unfold j4 F9
 rw[YE]
 congr 1
 funext z
 show((λx=>(bnd z.1.1 z.2.1 E x).map σ),z.1.2,σ z.2.2)=_
 rw[<-Av]
def xZ {u u':Us}{E:Str->Option Nat}{t:Tr}{s:Nat}{as:As}(h:Jk u t s u' as)(hb:∀x i,E x=some i->i<u.F.length):xB u (E,t,s) u' (j4 E t as) where
 o:=h.o
 c:=h.c
 le:=h.le
 big:=h.big
 ok:=λz hz=>by
  obtain⟨y,hy,rfl⟩:=XR.mp hz
  obtain⟨h1,h2⟩:=h.ok y.2 (List.of_mem_zip hy).2
  refine⟨h1,λx i e=>?_⟩
  have e:bnd y.1.1 y.2.1 E x=some i:=e
  unfold bnd at e
  cases l:(y.1.1.zip y.2.1).reverse.lookup x with
  | none=>rw[l] at e;exact XG (hb x i e) h.le
  | some j=>
   rw[l] at e
   cases e
   have:=PySem.mem_of_lookup l
   exact h2 i (List.of_mem_zip (List.mem_reverse.mp this)).2
 co:=λσ cs h1 h2=>by
  obtain⟨σ',a,b,c⟩:=h.co σ _ cs h1 h2
  refine⟨σ',a,b,?_⟩
  rw[uh,<-c]
  congr 1
  funext x
  show(E x).map σ'=(E x).map σ
  cases e:E x with
  | none=>rfl
  | some i=>show some (σ' i)=some (σ i);rw[a i (hb x i e)]
 so:=λσ h1=>by
  obtain⟨a,b⟩:=h.so σ (λx=>(E x).map σ) h1
  exact⟨a,by rw[uh];exact b⟩
section
variable {A:Sd}{C C':Hw}{u:Us}{Q:WK}{χ:WX}{n s:Nat}{t:Tr}{d:Addr}{kv:List (Z1×T)}{E:Str->Option Nat}
def yT:∀(t:Tr),(∀m xs ts b,t=.lt m xs ts b->m<=10)->∀z∈t.scs,z.1.length<=10
 | .num _,_,z,h=>by cases h
 | .nm _,_,z,h=>by cases h
 | .stop _,_,z,h=>by cases h
 | .sh0 _,_,z,h=>by cases h
 | .does _ _ _,_,z,h=>by simp only[Tr.scs,List.mem_cons,List.not_mem_nil,or_false] at h;rcases h with rfl | rfl<;>exact Nat.zero_le _
 | .fn _ _,_,z,h=>by rw[XQ.mp h];exact ZNB rfl
 | .call _ _,_,z,h=>by simp only[Tr.scs,List.mem_cons,List.not_mem_nil,or_false] at h;rcases h with rfl | rfl<;>exact Nat.zero_le _
 | .first _ _,_,z,h=>by simp only[Tr.scs,List.mem_cons,List.not_mem_nil,or_false] at h;rcases h with rfl | rfl<;>exact Nat.zero_le _
 | .sh2 _ _ _,_,z,h=>by simp only[Tr.scs,List.mem_cons,List.not_mem_nil,or_false] at h;rcases h with rfl | rfl<;>exact Nat.zero_le _
 | .chT _ _ _,_,z,h=>by simp only[Tr.scs,List.mem_cons,List.not_mem_nil,or_false] at h;rcases h with rfl | rfl | rfl<;>exact Nat.zero_le _
 | .chL _ _ _ _ _,_,z,h=>by simp only[Tr.scs,List.mem_cons,List.not_mem_nil,or_false] at h;rcases h with rfl | rfl | rfl<;>exact ZNB rfl
 | .chP _ _ _ _,_,z,h=>by simp only[Tr.scs,List.mem_cons,List.not_mem_nil,or_false] at h;rcases h with rfl | rfl<;>exact ZNB rfl
 | .lt m xs ts b,hm,z,h=>by
  have hm:=hm m xs ts b rfl
  have e:(Ui xs).length<=10:=by rw[XI,List.length_finRange];exact hm
  rcases XS.mp h with h | h
  ·obtain⟨i,_,rfl⟩:=XR.mp h;exact e
  ·rw[XQ.mp h];exact e
def Ff {x:Str}(S:Sl A C u)(o:u.Ok)(cl:Vg u [])(hs:s<u.F.length)(hn:u.F.length<=7000)(hE:yl kv E)(hb:∀x i,E x=some i->i<u.F.length)(hd:C d=some (.dic kv))
  (w:∃σ0 cs,Um u σ0/\Y1 (.nm x) (λx=>(E x).map σ0) (σ0 s) cs)
  (q:∀C' p u' ps vs,Sl A C' u'->Fx A C C'->C p=none->C' p=some (.lst vs)->Rz C' (kv.length+10) ps vs->xB u (E,.nm x,s) u' ps->ps.map (λz=>z.2.1)=(Tr.nm x).scs.map (λz=>z.2)->Q (.ref p) C'):Ye pr (n+5) Ws [.ref A.r,tt (.nm x),.ref d,nT s] C Q χ:=by
 refine Tz rfl ?_
 unfold Xa Xd
 refine⟨_,rfl,_,Z4,Zt (v:=true) (by decide+kernel) ⟨_,rfl,Z2 ?_⟩⟩
 obtain⟨σ0,cs,w1,w2⟩:=w
 obtain⟨i,hi,he⟩:∃i,E x=some i/\σ0 i=σ0 s:=by
  generalize σ0 s=kk at w2
  cases w2 with
  | nm h=>
   have h:(E x).map σ0=some kk:=h
   cases e:E x with
   | none=>rw[e] at h;cases h
   | some i=>rw[e] at h;exact⟨i,rfl,YH h⟩
 obtain⟨rk,L,S0⟩:=id S
 refine⟨_,rfl,_,_,_,_,rfl,S0.r,rfl,rfl,_,rfl,_,rfl,_,rfl,_,V5,_,_,_,_,rfl,rfl,.inl hd,by rw[hE x,hi];rfl,?_⟩
 dsimp only[Zw]
 refine Qw (n:=n+2) (σ0:=σ0) S o cl hs (hb x i hi) w1 he.symm (by omega) λC1 u1 S1 F1 o1 c1 e1 sol1=>?_
 refine⟨Yv (by show 0<=_;omega),λp hp=>?_⟩
 refine q _ p u1 [] [] (S1.new hp) (Vt S1 F1 hp) (Ti S1 F1 hp) Ze .nil ⟨o1,c1,by rw[e1];exact XE _,by rw[e1];omega,λz hz=>(by cases hz),λσ cs h1 h2=>?_,λσ h1=>?_⟩ rfl
 ·have h2:Y1 (.nm x) (λx=>(E x).map σ) (σ s) cs:=h2
  have z:cs=[]/\σ s=σ i:=by
   generalize σ s=kk at h2
   cases h2 with
   | nm h=>
    have h:(E x).map σ=some kk:=h
    rw[hi] at h
    exact⟨rfl,(YH h).symm⟩
  exact⟨σ,λ_ _=>rfl,(sol1 σ).mpr ⟨h1,z.2⟩,z.1.symm⟩
 ·obtain⟨a,b⟩:=(sol1 σ).mp h1
  exact⟨a,.nm (by show(E x).map σ=some (σ s);rw[hi,b];rfl)⟩
def Fe (ht:Tr.isNm t=false)(hl:∀m xs ts b,t=.lt m xs ts b->m<=10)(S:Sl A C u)(o:u.Ok)(cl:Vg u [])(hs:s<u.F.length)(hn:u.F.length<=7000)(hE:yl kv E)(hb:∀x i,E x=some i->i<u.F.length)(hd:C d=some (.dic kv))(hk:kv.length<=90000)
  (w:∃σ0 cs,Um u σ0/\Y1 t (λx=>(E x).map σ0) (σ0 s) cs)
  (q:∀C' p u' ps vs,Sl A C' u'->Fx A C C'->C p=none->C' p=some (.lst vs)->Rz C' (kv.length+10) ps vs->xB u (E,t,s) u' ps->ps.map (λz=>z.2.1)=t.scs.map (λz=>z.2)->Q (.ref p) C'):Ye pr (n+5) Ws [.ref A.r,tt t,.ref d,nT s] C Q χ:=by
 refine Tz rfl ?_
 unfold Xa Xd
 obtain⟨wd,r,et,hw⟩:∃(wd:Str) (r:List T),tt t=.tup (.str wd::r)/\(wd=="name")=false:=by
  cases t with
  | nm x=>cases ht
  | _=>exact⟨_,_,rfl,by decide+kernel⟩
 have et':T.tup (.str wd::r)=tt t:=et.symm
 rw[et]
 refine⟨_,rfl,_,Z4,Zt (v:=false) hw ⟨_,rfl,Zj ?_⟩⟩
 refine⟨Yv (by show 0<=_;omega),λp0 hp0=>?_⟩
 have S0:Sl A (up C p0 (.lst [])) u:=S.new hp0
 have F0:Fx A C (up C p0 (.lst [])):=Vt S (Fx.refl _ _) hp0
 have P0:up C p0 (.lst []) p0=some (.lst []):=Ze
 generalize up C p0 (.lst [])=C0 at S0 F0 P0
 obtain⟨e,sc⟩:=vW t hl
 rw[et']
 refine⟨_,rfl,?_⟩
 dsimp only[Zw]
 refine Fc (n:=n+2) sc λk C1 x1 hk0 hk1=>?_
 have S1:Sl A C1 u:=by
  obtain⟨rk,L,S0⟩:=S0
  exact⟨rk,L,⟨x1 _ _ S0.r,x1 _ _ S0.f,x1 _ _ S0.l,S0.lr,S0.ne⟩⟩
 have F1:Fx A C0 C1:=λc w _ _ h=>x1 c w h
 refine⟨_,rfl,_,rfl,_,rfl,?_⟩
 dsimp only[Zw]
 obtain⟨σ0,cs,w1,w2⟩:=w
 refine Iv (n:=n) t ht hl S1 o cl hs hn ⟨σ0,_,cs,w1,w2⟩ λC2 l u2 as S2 F2 hl0 hl1 ask=>?_
 have fne:∀{c:Addr} {o:O} {Cx:Hw},Cx c=some o->(∃u,Sl A C1 u)->True:=λ_ _=>trivial
 have nofl:∀{Cx:Hw} {ux:Us} {c:Addr},Sl A Cx ux->Cx c=none->c≠A.f/\c≠A.l:=λ{Cx ux c} h hc=>by
  obtain⟨_,_,h⟩:=h
  exact⟨λe=>(by rw[e,h.f] at hc;cases hc),λe=>(by rw[e,h.l] at hc;cases hc)⟩
 have k1:=nofl S0 hk0
 have l1:=nofl S1 hl0
 have p1:=nofl S hp0
 have K2:C2 k=some (.lst ((t.scs.map sS).map vX)):=F2 _ _ k1.1 k1.2 hk1
 have P2:C2 p0=some (.lst []):=F2 _ _ p1.1 p1.2 (F1 _ _ p1.1 p1.2 P0)
 have F02:Fx A C C2:=(F0.trans F1).trans F2
 have ln:as.length=t.scs.length:=by have:=congrArg List.length ask.n;simpa using this
 refine .inr (.inr ⟨_,_,k,l,rfl,K2,hl1,by rw[XI,XI,XI];exact ln.symm,?_⟩)
 have lz:(Nq ((t.scs.map sS).map vX) (as.map Aw)).length=t.scs.length:=by unfold Nq;rw[List.length_zipWith,XI,XI,XI];omega
 have dfl:d≠A.f/\d≠A.l:=by
  obtain⟨_,_,h⟩:=S
  exact⟨λe=>(by rw[e,h.f] at hd;cases hd),λe=>(by rw[e,h.l] at hd;cases hd)⟩
 have np0k:p0≠k:=λe=>by rw[e,hk0] at P0;cases P0
 have np0l:p0≠l:=λe=>by have:=F1 _ _ p1.1 p1.2 P0;rw[e,hl0] at this;cases this
 have np0d:p0≠d:=λe=>by rw[e,hd] at hp0;cases hp0
 refine Hu (λi τ C'=>∃v5 v6 v7 vs,τ=[some (.ref A.r),some (tt t),some (.ref d),some (nT s),some (.ref p0),v5,v6,v7]/\Sl A C' u2/\Fx A C C'/\C' p0=some (.lst vs)/\Rz C' (kv.length+10) ((j4 E t as).take i) vs/\
  C' k=some (.lst ((t.scs.map sS).map vX))/\C' l=some (.lst (as.map Aw))) ⟨_,_,_,[],rfl,S2,F02,P2,.nil,K2,hl1⟩ (λi τ C' _ h=>by obtain⟨_,_,_,_,_,_,_,_,_,h1,h2⟩:=h;exact⟨h1,h2⟩) ?_ ?_
 ·rintro i x τ C3 N hx ⟨v5,v6,v7,vs,rfl,S3,F3,P3,pl3,K3,L3⟩ hN
  have hi:i<t.scs.length:=by rw[<-lz];exact(List.getElem?_eq_some_iff.mp hx).1
  obtain⟨z,hz⟩:∃z,t.scs[i]?=some z:=⟨_,List.getElem?_eq_getElem hi⟩
  obtain⟨y,hy⟩:∃y,as[i]?=some y:=⟨_,List.getElem?_eq_getElem (by omega)⟩
  have hx':(Nq ((t.scs.map sS).map vX) (as.map Aw))[i]?=some (.tup [vX (sS z),Aw y]):=Bl (by rw[XM,XM,hz];rfl) (by rw[XM,hy];rfl)
  rw[hx] at hx'
  cases hx'
  have zy:y.1.length=z.1.length:=by
   have h:=congrArg (λl:List Nat=>l[i]?) ask.n
   simp only[List.getElem?_map,hz,hy,Option.map_some] at h
   exact YH h
  have z10:z.1.length<=10:=yT t hl z (List.mem_of_getElem? hz)
  have d3:C3 d=some (.dic kv):=F3 _ _ dfl.1 dfl.2 hd
  refine⟨_,rfl,_,_,rfl,_,_,rfl,rfl,?_⟩
  refine⟨_,rfl,_,_,rfl,.inl d3,λp4 hp4=>?_⟩
  refine⟨_,rfl,⟨_,_,rfl,Ze⟩,_,rfl,_,Z4,_,rfl,_,Z4,z.1,y.1.map nT,rfl,by rw[XI];exact zy.symm,by omega,λp5 hp5=>?_⟩
  have n45:p4≠p5:=λe=>by rw[<-e,Ze] at hp5;cases hp5
  refine⟨_,_,_,_,rfl,rfl,n45,by rw[Zg n45];exact Ze,Ze,?_,?_⟩
  ·have:=uj (xs:=z.1) (ss:=y.1)
   exact Yv (by omega)
  ·have n04:p0≠p4:=λe=>by rw[<-e,P3] at hp4;cases hp4
   have h5:C3 p5=none:=by rw[Zg n45.symm] at hp5;exact hp5
   have n05:p0≠p5:=λe=>by rw[<-e,P3] at h5;cases h5
   generalize hM:Sq kv (Ku Ji (z.1.map Sum.inr) (y.1.map nT))=mg
   have P5:up (up (up C3 p4 (.dic kv)) p5 (.dic (Ku Ji (z.1.map Sum.inr) (y.1.map nT)))) p4 (.dic mg) p0=some (.lst vs):=by rw[Zg n04,Zg n05,Zg n04];exact P3
   have lv:vs.length<=100000:=by
    have:=pl3.length
    rw[YM] at this
    have hs10:t.scs.length<=11:=by
     have:=ask.n
     cases t with
     | lt m xs ts b=>
      have hm:=hl m xs ts b rfl
      show(((List.finRange m).map λi=>(Ui xs,ts i))++[(Ui xs,b)]).length<=11
      rw[List.length_append,List.length_map,List.length_finRange];simp;omega
     | _=>exact ZNB rfl
    omega
   refine⟨_,rfl,⟨_,_,rfl,P5⟩,_,rfl,_,V5,_,rfl,_,rfl,_,V5,Yv (by show 3<=_;omega),_,_,_,rfl,rfl,P5,Yj lv,?_⟩
   have S4:Sl A (up C3 p4 (.dic kv)) u2:=S3.new hp4
   have S5:=S4.new (o:=.dic (Ku Ji (z.1.map Sum.inr) (y.1.map nT))) hp5
   have S6:=S5.other (o:=.dic mg) (S3.off hp4)
   have S7:=S6.other (o:=.lst (vs++[.tup [tt z.2,.ref p4,nT y.2]])) (S.off hp0)
   have c4:=Ti S3 F3 hp4
   have c5:=Ti S3 F3 h5
   refine hN _ _ ⟨_,_,_,_,rfl,S7,λc w m1 m2 h=>?_,Ze,?_,?_,?_⟩
   ·rw[Zg (J1 h hp0),Zg (J1 h c4),Zg (J1 h c5),Zg (J1 h c4)]
    exact F3 c w m1 m2 h
   ·have hm:(j4 E t as)[i]?=some (bnd z.1 y.1 E,z.2,y.2):=by
     unfold j4
     rw[XM,show(t.scs.zip as)[i]?=some (z,y) from List.getElem?_zip_eq_some.mpr ⟨hz,hy⟩];rfl
    rw[YD,hm]
    refine Rz.snoc (pl3.keep λc kv' h=>?_) ⟨p4,mg,rfl,by rw[Zg n04.symm];exact Ze,?_,?_⟩
    ·rw[Zg (λe=>by rw[e,P3] at h;cases h),Zg (J1 h hp4),Zg (J1 h h5),Zg (J1 h hp4)]
     exact h
    ·rw[<-hM];exact vo hE
    ·have:=z0 (kvs:=kv) (xs:=z.1) (ss:=y.1)
     rw[hM] at this
     omega
   ·rw[Zg np0k.symm,Zg (J1 K3 hp4),Zg (J1 K3 h5),Zg (J1 K3 hp4)];exact K3
   ·rw[Zg np0l.symm,Zg (J1 L3 hp4),Zg (J1 L3 h5),Zg (J1 L3 hp4)];exact L3
 ·rintro τ C3 ⟨v5,v6,v7,vs,rfl,S3,F3,P3,pl3,K3,L3⟩
  rw[lz] at pl3
  refine⟨_,rfl,?_⟩
  have tk:(j4 E t as).take t.scs.length=j4 E t as:=List.take_of_length_le (by unfold j4;rw[XI,List.length_zip];omega)
  rw[tk] at pl3
  exact q C3 p0 u2 _ vs S3 F3 hp0 P3 pl3 (xZ ask hb) (tR ln)
end
end K24
namespace Fn
open PySem WL
def Tr.size:Tr->Nat
 | .num _=>1
 | .nm _=>1
 | .stop _=>1
 | .sh0 _=>1
 | .does _ a b=>1+(a.size+b.size)
 | .fn _ b=>1+b.size
 | .call a b=>1+(a.size+b.size)
 | .first a b=>1+(a.size+b.size)
 | .lt n _ ts b=>1+(((List.finRange n).map λi=>(ts i).size).sum+b.size)
 | .sh2 _ a b=>1+(a.size+b.size)
 | .chT a b c=>1+(a.size+(b.size+c.size))
 | .chL a b _ _ c=>1+(a.size+(b.size+c.size))
 | .chP a _ _ b=>1+(a.size+b.size)
def Tr.lok:Tr->Prop
 | .num _=>True
 | .nm _=>True
 | .stop _=>True
 | .sh0 _=>True
 | .does _ a b=>a.lok/\b.lok
 | .fn _ b=>b.lok
 | .call a b=>a.lok/\b.lok
 | .first a b=>a.lok/\b.lok
 | .lt n _ ts b=>n<=10/\(∀i,(ts i).lok)/\b.lok
 | .sh2 _ a b=>a.lok/\b.lok
 | .chT a b c=>a.lok/\b.lok/\c.lok
 | .chL a b _ _ c=>a.lok/\b.lok/\c.lok
 | .chP a _ _ b=>a.lok/\b.lok
def G9 (t:Tr):(t.scs.map λz=>z.2.size).sum+1=t.size:=by
 cases t with
 | lt n xs ts b=>
  show((((List.finRange n).map λi=>(Ui xs,ts i))++[(Ui xs,b)]).map λz=>z.2.size).sum+1=1+(((List.finRange n).map λi=>(ts i).size).sum+b.size)
  rw[XL,YE,List.sum_append]
  simp only[List.map_cons,List.map_nil,List.sum_cons,List.sum_nil,Nat.add_zero]
  have:((λz:List Str×Tr=>z.2.size)∘λi=>(Ui xs,ts i))=λi=>(ts i).size:=rfl
  rw[this]
  omega
 | _=>simp[Tr.scs,Tr.size]<;>omega
def Hf {t:Tr}(h:t.lok):(∀m xs ts b,t=.lt m xs ts b->m<=10)/\∀z∈t.scs,z.2.lok:=by
 cases t with
 | lt n xs ts b=>
  refine⟨λm xs' ts' b' e=>(by cases e;exact h.1),λz hz=>?_⟩
  rcases XS.mp hz with hz | hz
  ·obtain⟨i,_,rfl⟩:=XR.mp hz;exact h.2.1 i
  ·rw[XQ.mp hz];exact h.2.2
 | num=>exact⟨λm xs' ts' b' e=>(by cases e),λz hz=>(by cases hz)⟩
 | nm=>exact⟨λm xs' ts' b' e=>(by cases e),λz hz=>(by cases hz)⟩
 | stop=>exact⟨λm xs' ts' b' e=>(by cases e),λz hz=>(by cases hz)⟩
 | sh0=>exact⟨λm xs' ts' b' e=>(by cases e),λz hz=>(by cases hz)⟩
 | fn=>exact⟨λm xs' ts' b' e=>(by cases e),λz hz=>(by rw[XQ.mp hz];exact h)⟩
 | does o a b=>exact⟨λm xs' ts' b' e=>(by cases e),λz hz=>(by simp only[Tr.scs,List.mem_cons,List.not_mem_nil,or_false] at hz;rcases hz with rfl | rfl;exact h.1;exact h.2)⟩
 | call a b=>exact⟨λm xs' ts' b' e=>(by cases e),λz hz=>(by simp only[Tr.scs,List.mem_cons,List.not_mem_nil,or_false] at hz;rcases hz with rfl | rfl;exact h.1;exact h.2)⟩
 | first a b=>exact⟨λm xs' ts' b' e=>(by cases e),λz hz=>(by simp only[Tr.scs,List.mem_cons,List.not_mem_nil,or_false] at hz;rcases hz with rfl | rfl;exact h.1;exact h.2)⟩
 | sh2 o a b=>exact⟨λm xs' ts' b' e=>(by cases e),λz hz=>(by simp only[Tr.scs,List.mem_cons,List.not_mem_nil,or_false] at hz;rcases hz with rfl | rfl;exact h.1;exact h.2)⟩
 | chP a x y b=>exact⟨λm xs' ts' b' e=>(by cases e),λz hz=>(by simp only[Tr.scs,List.mem_cons,List.not_mem_nil,or_false] at hz;rcases hz with rfl | rfl;exact h.1;exact h.2)⟩
 | chT a b c=>exact⟨λm xs' ts' b' e=>(by cases e),λz hz=>(by simp only[Tr.scs,List.mem_cons,List.not_mem_nil,or_false] at hz;rcases hz with rfl | rfl | rfl;exact h.1;exact h.2.1;exact h.2.2)⟩
 | chL a b x y c=>exact⟨λm xs' ts' b' e=>(by cases e),λz hz=>(by simp only[Tr.scs,List.mem_cons,List.not_mem_nil,or_false] at hz;rcases hz with rfl | rfl | rfl;exact h.1;exact h.2.1;exact h.2.2)⟩
def Tr.cost:Tr->Nat
 | .num _=>3
 | .nm _=>3
 | .stop _=>3
 | .sh0 _=>3
 | .does _ a b=>3+(a.cost+b.cost)
 | .fn _ b=>3+b.cost
 | .call a b=>3+(a.cost+b.cost)
 | .first a b=>3+(a.cost+b.cost)
 | .lt n _ ts b=>n+(((List.finRange n).map λi=>(ts i).cost).sum+b.cost)
 | .sh2 _ a b=>3+(a.cost+b.cost)
 | .chT a b c=>3+(a.cost+(b.cost+c.cost))
 | .chL a b _ _ c=>3+(a.cost+(b.cost+c.cost))
 | .chP a _ _ b=>3+(a.cost+b.cost)
def xp (t:Tr):(t.scs.map λz=>z.2.cost).sum+t.bg=t.cost:=by
 cases t with
 | lt n xs ts b=>
  show((((List.finRange n).map λi=>(Ui xs,ts i))++[(Ui xs,b)]).map λz=>z.2.cost).sum+n=n+(((List.finRange n).map λi=>(ts i).cost).sum+b.cost)
  rw[XL,YE,List.sum_append]
  simp only[List.map_cons,List.map_nil,List.sum_cons,List.sum_nil,Nat.add_zero]
  have:((λz:List Str×Tr=>z.2.cost)∘λi=>(Ui xs,ts i))=λi=>(ts i).cost:=rfl
  rw[this]
  omega
 | _=>simp[Tr.scs,Tr.cost,Tr.bg]<;>omega
def oA (ps:List Pl):Nat:=(ps.map λp=>p.2.1.cost).sum
def wD (ps:List Pl):Nat:=(ps.map λp=>p.2.1.size).sum
def G0:Ev:=λ_=>none
structure Kn (t:Tr)(u:Us)(rows:List Nat)(ps:List Pl):Prop where
 o:u.Ok
 c:Vg u []
 len:1<=u.F.length/\u.F.length+oA ps<=1+t.cost
 sz:rows.length+wD ps=t.size
 rl:∀i∈rows,i<u.F.length
 pk:∀p∈ps,rF u.F.length p/\p.2.1.lok
 co:∀k R,HT G0 t k R->∃σ R',Um u σ/\R=rows.map σ++R'/\HTs (ps.map (Pl.ev σ)) R'
 so:∀σ R',Um u σ->HTs (ps.map (Pl.ev σ)) R'->∃k,HT G0 t k (rows.map σ++R')
def Kn.step {t:Tr}{u u':Us}{rows:List Nat}{p:Pl}{ps qs:List Pl}(K:Kn t u rows (p::ps))(s:xB u p u' qs)(hq:qs.map (λz=>z.2.1)=p.2.1.scs.map (λz=>z.2)):Kn t u' (rows++[p.2.2]) (qs++ps) where
 o:=s.o
 c:=s.c
 len:=⟨XN K.len.1 s.le,by
  have h1:=K.len.2
  have h2:=xp p.2.1
  have h3:=s.big
  have e:oA qs=(p.2.1.scs.map λz=>z.2.cost).sum:=by
   unfold oA
   have:=congrArg (λl:List Tr=>(l.map Tr.cost).sum) hq
   simp only[List.map_map] at this
   exact this
  unfold oA at h1 e |-
  rw[XL,List.sum_append,e]
  rw[YI,List.sum_cons] at h1
  omega⟩
 sz:=by
  have h1:=K.sz
  have h2:=G9 p.2.1
  have e:wD qs=(p.2.1.scs.map λz=>z.2.size).sum:=by
   unfold wD
   have:=congrArg (λl:List Tr=>(l.map Tr.size).sum) hq
   simp only[List.map_map] at this
   exact this
  unfold wD at h1 e |-
  rw[List.length_append,XL,List.sum_append,e]
  rw[YI,List.sum_cons] at h1
  simp only[List.length_singleton]
  omega
 rl:=λi hi=>by
  rcases XS.mp hi with hi | hi
  ·exact XG (K.rl i hi) s.le
  ·rw[XQ.mp hi]
   exact XG (K.pk p (List.mem_cons_self ..)).1.1 s.le
 pk:=λz hz=>by
  rcases XS.mp hz with hz | hz
  ·refine⟨s.ok z hz,?_⟩
   have:z.2.1∈p.2.1.scs.map (λz=>z.2):=by rw[<-hq];exact XR.mpr ⟨z,hz,rfl⟩
   obtain⟨y,hy,e⟩:=XR.mp this
   rw[<-e]
   exact(Hf (K.pk p (List.mem_cons_self ..)).2).2 y hy
  ·obtain⟨h1,h2⟩:=K.pk z (XV _ hz)
   exact⟨⟨XG h1.1 s.le,λx i e=>XG (h1.2 x i e) s.le⟩,h2⟩
 co:=λk R h=>by
  obtain⟨σ,R',h1,h2,h3⟩:=K.co k R h
  obtain⟨cs,r',r1,rfl,r3⟩:=h3.take
  obtain⟨σ',a,b,c⟩:=s.co σ cs h1 r1
  have ep:∀z∈ps,Pl.ev σ z=Pl.ev σ' z:=λz hz=>qP (K.pk z (XV _ hz)).1 λi hi=>(a i hi).symm
  refine⟨σ',r',b,?_,?_⟩
  ·rw[h2,XL,YL]
   have e1:rows.map σ=rows.map σ':=List.map_congr_left λi hi=>(a i (K.rl i hi)).symm
   rw[e1]
   show _=_++(σ' p.2.2::r')
   rw[a _ (K.pk p (List.mem_cons_self ..)).1.1]
  ·rw[XL,c,<-List.map_congr_left ep];exact r3
 so:=λσ R' h1 h2=>by
  obtain⟨a,b⟩:=s.so σ h1
  rw[XL] at h2
  have h3:=h2.give b
  obtain⟨k,h4⟩:=K.so σ (σ p.2.2::R') a h3
  exact⟨k,by rw[XL,YL];exact h4⟩
def Kn.start {t:Tr}(h:t.lok)(rt:Nat->Nat)(hr:rt 0=0):Kn t ⟨rt,[none]⟩ [] [(λ_=>none,t,0)] where
 o:=⟨λx hx=>(by have hx:x<1:=hx;have e:x=0:=(by omega);subst e;show rt 0<1;rw[hr];decide),λx hx=>(by have hx:x<1:=hx;have e:x=0:=(by omega);subst e;show rt (rt 0)=rt 0;rw[hr,hr]),λx f hx=>by
  have hx:([none]:List (Option Fm))[x]?=some (some f):=hx
  cases x with
  | zero=>cases hx
  | succ x=>simp at hx⟩
 c:=λx f hx=>by
  have hx:([none]:List (Option Fm))[x]?=some (some f):=hx
  cases x with
  | zero=>cases hx
  | succ x=>simp at hx
 len:=⟨XE _,by show 1+(t.cost+0)<=1+t.cost;omega⟩
 sz:=by show 0+(t.size+0)=_;omega
 rl:=λi hi=>by cases hi
 pk:=λp hp=>by rw[XQ.mp hp];exact⟨⟨Nat.lt_succ_self 0,λx i e=>by cases e⟩,h⟩
 co:=λk R h=>by
  refine⟨λ_=>k,R,⟨λx hx=>rfl,λx f hx=>?_⟩,rfl,?_⟩
  ·have hx:([none]:List (Option Fm))[x]?=some (some f):=hx
   cases x with
   | zero=>cases hx
   | succ x=>simp at hx
  ·have:HTs [(G0,t,k)] (R++[]):=.cons h .nil
   rw[YK] at this
   exact this
 so:=λσ R' h1 h2=>by
  have h2:HTs [(G0,t,σ 0)] R':=h2
  cases h2 with
  | cons a b=>
   cases b
   rw[YK]
   exact⟨_,a⟩
end Fn
namespace K24
open PySem PySem.Spec PyProof.Rows L2 WL Fn
section
variable {A:Sd}{C C':Hw}{u:Us}{Q:WK}{χ:WX}{n s:Nat}{t:Tr}{d:Addr}{kv:List (Z1×T)}{E:Str->Option Nat}
def yY (hl:∀m xs ts b,t=.lt m xs ts b->m<=10)(S:Sl A C u)(o:u.Ok)(cl:Vg u [])(hs:s<u.F.length)(hn:u.F.length<=7000)(hE:yl kv E)(hb:∀x i,E x=some i->i<u.F.length)(hd:C d=some (.dic kv))(hk:kv.length<=90000)
  (w:∃σ0 cs,Um u σ0/\Y1 t (λx=>(E x).map σ0) (σ0 s) cs)
  (q:∀C' p u' ps vs,Sl A C' u'->Fx A C C'->C p=none->C' p=some (.lst vs)->Rz C' (kv.length+10) ps vs->xB u (E,t,s) u' ps->ps.map (λz=>z.2.1)=t.scs.map (λz=>z.2)->Q (.ref p) C'):Ye pr (n+5) Ws [.ref A.r,tt t,.ref d,nT s] C Q χ:=by
 cases e:Tr.isNm t with
 | false=>exact Fe e hl S o cl hs hn hE hb hd hk w q
 | true=>
  cases t with
  | nm x=>exact Ff S o cl hs hn hE hb hd w q
  | _=>cases e
def Rz.app {C:Hw}{N:Nat}{ps qs:List Pl}{vs ws:List T}(h:Rz C N ps vs)(q:Rz C N qs ws):Rz C N (ps++qs) (vs++ws):=by
 induction h with
 | nil=>exact q
 | cons a b ih=>exact .cons a ih
def Rz.rev {C:Hw}{N:Nat}{ps:List Pl}{vs:List T}(h:Rz C N ps vs):Rz C N ps.reverse vs.reverse:=by
 induction h with
 | nil=>exact .nil
 | cons a b ih=>rw[List.reverse_cons,List.reverse_cons];exact ih.app (.cons a .nil)
def Rz.more {C:Hw}{N M:Nat}{ps:List Pl}{vs:List T}(h:Rz C N ps vs)(k:N<=M):Rz C M ps vs:=by
 induction h with
 | nil=>exact .nil
 | cons a b ih=>
  obtain⟨d,kv,h1,h2,h3,h4⟩:=a
  exact .cons ⟨d,kv,h1,h2,h3,XN h4 k⟩ ih
def yQ:∀t:Tr,1<=t.size:=λt=>by have:=G9 t;omega
def Hg:∀ps:List Pl,ps.length<=wD ps
 | []=>XE _
 | p::ps=>by
  have h:=Hg ps
  have h2:=yQ p.2.1
  unfold wD at h |-
  rw[YI,List.sum_cons,YF]
  omega
def Rz.last {C:Hw}{N:Nat}{ps:List Pl}{p:Pl}{vs:List T}(h:Rz C N (p::ps).reverse vs):∃ws v,vs=ws++[v]/\Rz C N ps.reverse ws/\rO C N p v:=by
 have r:=h.rev
 rw[List.reverse_reverse] at r
 cases e:vs.reverse with
 | nil=>rw[e] at r;cases r
 | cons v w=>
  rw[e] at r
  cases r with
  | cons a b=>
   refine⟨w.reverse,v,?_,Rz.rev b,a⟩
   have:=congrArg List.reverse e
   rw[List.reverse_reverse,List.reverse_cons] at this
   exact this
def zp (hl:t.lok)(hz:t.size<=600)(hco:t.cost<=6000)(hw:∃k R,HT G0 t k R){rt:Nat->Nat}(S:Sl A C ⟨rt,[]⟩)
  (q:∀C' p u rows,Sl A C' u->Fx A C C'->C p=none->C' p=some (.lst (rows.map nT))->Kn t u rows []->Q (.ref p) C'):Ye pr (n+6) zK [.ref A.r,tt t] C Q χ:=by
 refine zf rfl ?_
 unfold Pm Oe
 refine⟨Yv (by show 0<=_;omega),λpr_ hpr=>?_⟩
 have S0:=S.new (o:=.lst []) hpr
 have F0:Fx A C (up C pr_ (.lst [])):=Vt S (Fx.refl _ _) hpr
 have P0:up C pr_ (.lst []) pr_=some (.lst []):=Ze
 generalize up C pr_ (.lst [])=C0 at S0 F0 P0
 refine⟨_,rfl,λpd hpd=>?_⟩
 have S1:=S0.new (o:=.dic []) hpd
 have F1:Fx A C (up C0 pd (.dic [])):=Vt S0 F0 hpd
 have D1:up C0 pd (.dic []) pd=some (.dic []):=Ze
 have P1:up C0 pd (.dic []) pr_=some (.lst []):=by rw[Zg (J1 P0 hpd)];exact P0
 generalize up C0 pd (.dic [])=C1 at S1 F1 D1 P1
 have ok0:(⟨rt,[]⟩:Us).Ok:=⟨λx hx=>absurd hx (Nat.not_lt_zero _),λx hx=>absurd hx (Nat.not_lt_zero _),λx f hx=>by simp at hx⟩
 refine Y8 (n:=n+3) S1 ok0 (XO _) rfl λC2 S2 F2=>?_
 refine⟨Yv (by show 3<=_;omega),Yv (by show 1<=_;omega),λpp hpp=>?_⟩
 have prf:=S.off hpr
 have P2:C2 pr_=some (.lst []):=F2 _ _ prf.2.1 prf.2.2 P1
 have pdf:=S0.off hpd
 have D2:C2 pd=some (.dic []):=F2 _ _ pdf.2.1 pdf.2.2 D1
 have F02:Fx A C C2:=F1.trans F2
 have ppf:=S2.off hpp
 have npp:pr_≠pp:=J1 P2 hpp
 have cpp:=Ti S2 F02 hpp
 refine Rc (λm τ C'=>∃v4 u rows ps vs,τ=[some (.ref A.r),some (tt t),some (.ref pr_),some (.ref pp),v4]/\Sl A C' u/\Fx A C C'/\C' pr_=some (.lst (rows.map nT))/\C' pp=some (.lst vs)/\Rz C' (10*rows.length) ps.reverse vs/\Kn t u rows ps/\m=wD ps) (m:=wD [((λ_=>none),t,0)])
  ⟨none,_,[],[((λ_=>none),t,0)],_,rfl,S2.new hpp,Vt S2 F02 hpp,by rw[Zg npp];exact P2,Ze,.cons ⟨pd,[],rfl,by rw[Zg (J1 D2 hpp)];exact D2,λx=>rfl,XO _⟩ .nil,Kn.start hl _ (XY rfl),rfl⟩ ?_
 rintro m τ C3 N ⟨v4,u3,rows,ps,vs,rfl,S3,F3,R3,P3,pl3,K3,rfl⟩ hN
 refine⟨_,rfl,Yv (by show 0<=_;omega),λp' hp'=>?_⟩
 have P4:up C3 p' (.lst []) pp=some (.lst vs):=by rw[Zg (J1 P3 hp')];exact P3
 refine Hd P4 Ze ⟨_,rfl,?_⟩
 have S4:Sl A (up C3 p' (.lst [])) u3:=S3.new hp'
 have F4:Fx A C (up C3 p' (.lst [])):=Vt S3 F3 hp'
 have R4:up C3 p' (.lst []) pr_=some (.lst (rows.map nT)):=by rw[Zg (J1 R3 hp')];exact R3
 have pl4:Rz (up C3 p' (.lst [])) (10*rows.length) ps.reverse vs:=pl3.keep λc kv h=>by rw[Zg (J1 h hp')];exact h
 generalize up C3 p' (.lst [])=C4 at P4 S4 F4 R4 pl4
 cases ps with
 | nil=>
  have:vs=[]:=by have:=pl4.length;exact List.length_eq_zero_iff.mp this.symm
  subst this
  refine Zj ⟨_,rfl,?_⟩
  exact q C4 pr_ u3 rows S4 F4 hpr R4 K3
 | cons p ps=>
  obtain⟨ws,v,rfl,plw,d,kv,rfl,hd,hE,hkv⟩:=pl4.last
  have ne:(!(ws++[T.tup [tt p.2.1,.ref d,nT p.2.2]]).isEmpty)=true:=by simp
  rw[ne]
  refine Z2 ?_
  have last:(ws++[T.tup [tt p.2.1,.ref d,nT p.2.2]])[(ws++[T.tup [tt p.2.1,.ref d,nT p.2.2]]).length-1]?=some (T.tup [tt p.2.1,.ref d,nT p.2.2]):=by simp
  have dl:(ws++[T.tup [tt p.2.1,.ref d,nT p.2.2]]).dropLast=ws:=by simp
  refine⟨_,rfl,⟨_,_,rfl,P4⟩,_,_,_,rfl,rfl,P4,last,?_⟩
  rw[dl]
  have sz:=K3.sz
  have lp:=Hg (p::ps)
  rw[YF] at lp
  have lw:ws.length=ps.length:=by have:=plw.length;rw[List.length_reverse] at this;omega
  have S5:=S4.other (o:=.lst ws) ppf
  have R5:up C4 pp (.lst ws) pr_=some (.lst (rows.map nT)):=by rw[Zg npp];exact R4
  have P5:up C4 pp (.lst ws) pp=some (.lst ws):=Ze
  have dpp:∀{c:Addr} {kv:List (Z1×T)},C4 c=some (.dic kv)->c≠pp:=λh e=>by rw[e,P4] at h;cases h
  have k5:∀c kv,C4 c=some (.dic kv)->up C4 pp (.lst ws) c=some (.dic kv):=λc kv h=>by rw[Zg (dpp h)];exact h
  have F5:Fx A C (up C4 pp (.lst ws)):=λc w m1 m2 h=>by rw[Zg (J1 h cpp)];exact F4 c w m1 m2 h
  have d5:=k5 _ _ hd
  have plw5:=plw.keep k5
  generalize up C4 pp (.lst ws)=C5 at S5 R5 P5 F5 d5 plw5
  refine⟨_,rfl,⟨_,_,rfl,R5⟩,_,rfl,_,K5,_,_,_,rfl,rfl,R5,Yj (by rw[XI];omega),?_⟩
  have er:rows.map nT++[nT p.2.2]=(rows++[p.2.2]).map nT:=by rw[XL];rfl
  rw[er]
  have S6:=S5.other (o:=.lst ((rows++[p.2.2]).map nT)) prf
  have P6:up C5 pr_ (.lst ((rows++[p.2.2]).map nT)) pp=some (.lst ws):=by rw[Zg npp.symm];exact P5
  have R6:up C5 pr_ (.lst ((rows++[p.2.2]).map nT)) pr_=some (.lst ((rows++[p.2.2]).map nT)):=Ze
  have k6:∀c kv,C5 c=some (.dic kv)->up C5 pr_ (.lst ((rows++[p.2.2]).map nT)) c=some (.dic kv):=λc kv h=>by rw[Zg λe=>by rw[e,R5] at h;cases h];exact h
  have F6:Fx A C (up C5 pr_ (.lst ((rows++[p.2.2]).map nT))):=λc w m1 m2 h=>by rw[Zg (J1 h hpr)];exact F5 c w m1 m2 h
  have d6:=k6 _ _ d5
  have plw6:=plw5.keep k6
  generalize up C5 pr_ (.lst ((rows++[p.2.2]).map nT))=C6 at S6 P6 R6 F6 d6 plw6
  obtain⟨hok,hlok⟩:=K3.pk p (List.mem_cons_self ..)
  obtain⟨kk,RR,hT⟩:=hw
  obtain⟨σ0,R',w1,w2,w3⟩:=K3.co kk RR hT
  obtain⟨cs,r',w4,_,_⟩:=w3.take
  have ln:=K3.len
  refine⟨_,rfl,⟨_,_,rfl,P6⟩,_,rfl,_,rfl,_,Z4,_,rfl,_,V5,_,rfl,_,K5,?_⟩
  dsimp only[Zw]
  refine yY (n:=n) (t:=p.2.1) (E:=p.1) (s:=p.2.2) (Hf hlok).1 S6 K3.o K3.c hok.1 (by omega) hE hok.2 d6 (by omega) ⟨σ0,cs,w1,w4⟩ λC7 p7 u7 qs v7 S7 F7 hp7 P7 pl7 st hq=>?_
  have P8:C7 pp=some (.lst ws):=F7 _ _ ppf.2.1 ppf.2.2 P6
  have R8:C7 pr_=some (.lst ((rows++[p.2.2]).map nT)):=F7 _ _ prf.2.1 prf.2.2 R6
  refine⟨_,_,rfl,P7,λp8 hp8=>?_⟩
  have K9:=K3.step st hq
  have lq:=Hg (qs++ps)
  have s9:=K9.sz
  rw[List.length_append] at lq
  have l7:v7.length=qs.length:=pl7.length.symm
  have P9:up C7 p8 (.lst v7.reverse) pp=some (.lst ws):=by rw[Zg (J1 P8 hp8)];exact P8
  refine⟨_,_,_,_,rfl,rfl,P9,Ze,by rw[List.length_reverse];exact Yv (by omega),?_⟩
  have S8:=S7.new (o:=.lst v7.reverse) hp8
  have S9:=S8.other (o:=.lst (ws++v7.reverse)) ppf
  have F67:=F6.trans F7
  have c8:=Ti S7 F67 hp8
  have k9:∀c kv,C7 c=some (.dic kv)->up (up C7 p8 (.lst v7.reverse)) pp (.lst (ws++v7.reverse)) c=some (.dic kv):=λc kv h=>by
   rw[Zg (λe=>by rw[e,P8] at h;cases h),Zg (J1 h hp8)];exact h
  refine hN (wD (qs++ps)) _ _ (by rw[List.length_append,List.length_singleton] at s9;omega) ⟨_,u7,rows++[p.2.2],qs++ps,_,rfl,S9,λc w m1 m2 h=>?_,?_,Ze,?_,K9,rfl⟩
  ·rw[Zg (J1 h cpp),Zg (J1 h c8)];exact F67 c w m1 m2 h
  ·rw[Zg npp,Zg (J1 R8 hp8)];exact R8
  ·rw[List.reverse_append]
   have lr:(rows++[p.2.2]).length=rows.length+1:=by rw[List.length_append];rfl
   rw[lr]
   refine Rz.app ?_ ?_
   ·exact((Rz.mono plw6 ⟨_,S6⟩ F7).keep k9).more (by omega)
   ·exact(pl7.rev.keep k9).more (by omega)
end
end K24
namespace Fn
open PySem WL
def Kd.sz:Kd->Nat
 | .op _=>1
 | .k0 _=>1
 | .k1 _ a=>1+a.sz
 | .k2 _ a b=>1+(a.sz+b.sz)
def Kd.ops:Kd->List Nat
 | .op n=>[n]
 | .k0 _=>[]
 | .k1 _ a=>a.ops
 | .k2 _ a b=>a.ops++b.ops
def ext (acc l:List Nat):List Nat:=l.foldl (λa j=>if j∈a then a else a++[j]) acc
def W6 {acc l m:List Nat}:ext acc (l++m)=ext (ext acc l) m:=List.foldl_append ..
def Cj {acc:List Nat}:∀{l:List Nat},(∀j∈l,j∈acc)->ext acc l=acc
 | [],_=>rfl
 | j::l,h=>by
  show ext (if j∈acc then acc else acc++[j]) l=acc
  rw[XY (h j (List.mem_cons_self ..))]
  exact Cj λi hi=>h i (XV _ hi)
structure Ms where
 P:List Nat
 M:Nat->Option Kd
 O:List Nat
 B:List Nat
def set (M:Nat->Option Kd)(r:Nat)(k:Kd):Nat->Option Kd:=λq=>if q=r then some k else M q
def vl (M:Nat->Option Kd)(q:Nat):Kd:=(M q).getD (.op 0)
def Us.within (u:Us)(f:Fm):List Nat:=f.ps.map u.rt
def Us.told (u:Us)(M:Nat->Option Kd)(f:Fm):Kd:=f.ev λp=>vl M (u.rt p)
inductive pZ (u:Us):Ms->Ms->Prop
 | skip {r P M O B k}:M r=some k->pZ u ⟨r::P,M,O,B⟩ ⟨P,M,O,B⟩
 | opn {r P M O B}:M r=none->u.F[r]?=some none->pZ u ⟨r::P,M,O,B⟩ ⟨P,set M r (.op O.length),O++[r],B⟩
 | beg {r P M O B f}:M r=none->u.F[r]?=some (some f)->r∉B->(∀q∈u.within f,¬(q∈r::B/\M q=none))->pZ u ⟨r::P,M,O,B⟩ ⟨u.within f++r::P,M,O,r::B⟩
 | fin {r P M O B f}:M r=none->u.F[r]?=some (some f)->r∈B->(∀q∈u.within f,M q≠none)->pZ u ⟨r::P,M,O,B⟩ ⟨P,set M r (u.told M f),O,B⟩
inductive xD (u:Us):Ms->Nat->Ms->Prop
 | done {s}:xD u s 0 s
 | step {s s' s'' n}:pZ u s s'->xD u s' n s''->xD u s (n+1) s''
def xD.app {u:Us}{s s' s'':Ms}{n m:Nat}(h:xD u s n s')(q:xD u s' m s''):xD u s (n+m) s'':=by
 induction h with
 | done=>rw[Nat.zero_add];exact q
 | step a b ih=>rw[Nat.add_right_comm];exact .step a (ih q)
structure yj (u:Us)(M:Nat->Option Kd)(O:List Nat):Prop where
 root:∀q k,M q=some k->q<u.F.length/\u.rt q=q
 opn:∀q k,M q=some k->u.F[q]?=some none->∃i,k=.op i/\O[i]?=some q
 frm:∀q k f,M q=some k->u.F[q]?=some (some f)->k=u.told M f/\∀p∈u.within f,M p≠none
 ops:∀q k,M q=some k->∀j∈k.ops,j<O.length
 num:∀i q,O[i]?=some q->M q=some (.op i)/\u.F[q]?=some none
structure mT (u:Us)(μ:Nat->Nat)(r:Nat)(M:Nat->Option Kd)(O B:List Nat)(M':Nat->Option Kd)(O' B':List Nat):Prop where
 rd:yj u M' O'
 keep:∀q k,M q=some k->M' q=some k
 low:∀q,M q=none->M' q≠none->μ q<=μ r
 here:∃k,M' r=some k/\ext (List.range O.length) k.ops=List.range O'.length
 beg:∀q∈B',q∈B\/M' q≠none
 sub:∀q∈B,q∈B'
section
variable {u:Us}{μ:Nat->Nat}{r:Nat}{M M':Nat->Option Kd}{O B:List Nat}
def Ju {k:Kd}:set M r k r=some k:=XY rfl
def Jf {q:Nat}{k:Kd}(h:q≠r):set M r k q=M q:=XX h
def Qc {f:Fm}(h:∀p∈u.within f,M p=M' p):u.told M f=u.told M' f:=Q6 λp hp=>by
 unfold vl
 rw[h _ (XR.mpr ⟨p,hp,rfl⟩)]
def uN {f:Fm}(R:yj u M O)(hr:r<u.F.length/\u.rt r=r)(hn:M r=none)(hf:u.F[r]?=some (some f))(hw:∀q∈u.within f,M q≠none):yj u (set M r (u.told M f)) O:=by
 have ne:∀{q k},M q=some k->q≠r:=λh e=>by rw[e,hn] at h;cases h
 have nw:∀q,M q≠none->set M r (u.told M f) q=M q:=λq h=>Jf λe=>h (by rw[e];exact hn)
 refine⟨λq k h=>?_,λq k h ho=>?_,λq k g h hg=>?_,λq k h j hj=>?_,λi q h=>?_⟩
 ·by_cases c:q=r
  ·rw[c];exact hr
  ·rw[Jf c] at h;exact R.root q k h
 ·by_cases c:q=r
  ·rw[c,hf] at ho;cases ho
  ·rw[Jf c] at h;exact R.opn q k h ho
 ·by_cases c:q=r
  ·subst c
   rw[hf] at hg
   cases hg
   rw[Ju] at h
   cases h
   exact⟨Qc λp hp=>(nw p (hw p hp)).symm,λp hp=>by rw[nw p (hw p hp)];exact hw p hp⟩
  ·rw[Jf c] at h
   obtain⟨h1,h2⟩:=R.frm q k g h hg
   exact⟨h1.trans (Qc λp hp=>(nw p (h2 p hp)).symm),λp hp=>by rw[nw p (h2 p hp)];exact h2 p hp⟩
 ·by_cases c:q=r
  ·subst c
   rw[Ju] at h
   cases h
   have pv:∀p∈f.ps,∀j∈(vl M (u.rt p)).ops,j<O.length:=λp hp j hj=>by
    cases e:M (u.rt p) with
    | none=>exact absurd e (hw _ (XR.mpr ⟨p,hp,rfl⟩))
    | some k=>unfold vl at hj;rw[e] at hj;exact R.ops _ k e j hj
   cases f with
   | f0 g=>cases hj
   | f1 g a=>exact pv a (by simp[Fm.ps]) j hj
   | f2 g a b=>
    rcases XS.mp hj with hj | hj
    ·exact pv a (by simp[Fm.ps]) j hj
    ·exact pv b (by simp[Fm.ps]) j hj
  ·rw[Jf c] at h;exact R.ops q k h j hj
 ·obtain⟨h1,h2⟩:=R.num i q h
  exact⟨by rw[Jf (ne h1)];exact h1,h2⟩
def uM (R:yj u M O)(hr:r<u.F.length/\u.rt r=r)(hn:M r=none)(hf:u.F[r]?=some none):yj u (set M r (.op O.length)) (O++[r]):=by
 have nw:∀q,M q≠none->set M r (.op O.length) q=M q:=λq h=>Jf λe=>h (by rw[e];exact hn)
 refine⟨λq k h=>?_,λq k h ho=>?_,λq k g h hg=>?_,λq k h j hj=>?_,λi q h=>?_⟩
 ·by_cases c:q=r
  ·rw[c];exact hr
  ·rw[Jf c] at h;exact R.root q k h
 ·by_cases c:q=r
  ·subst c
   rw[Ju] at h
   cases h
   exact⟨O.length,rfl,by rw[List.getElem?_append_right (XE _),Nat.sub_self];rfl⟩
  ·rw[Jf c] at h
   obtain⟨i,h1,h2⟩:=R.opn q k h ho
   exact⟨i,h1,by rw[List.getElem?_append_left (List.getElem?_eq_some_iff.mp h2).1];exact h2⟩
 ·by_cases c:q=r
  ·subst c;rw[hf] at hg;cases hg
  ·rw[Jf c] at h
   obtain⟨h1,h2⟩:=R.frm q k g h hg
   exact⟨h1.trans (Qc λp hp=>(nw p (h2 p hp)).symm),λp hp=>by rw[nw p (h2 p hp)];exact h2 p hp⟩
 ·rw[List.length_append,List.length_singleton]
  by_cases c:q=r
  ·subst c
   rw[Ju] at h
   cases h
   rw[XQ.mp hj];omega
  ·rw[Jf c] at h;have:=R.ops q k h j hj;omega
 ·by_cases c:i<O.length
  ·rw[List.getElem?_append_left c] at h
   obtain⟨h1,h2⟩:=R.num i q h
   exact⟨by rw[nw q (by rw[h1];intro z;cases z)];exact h1,h2⟩
  ·have hi:i=O.length:=by
    have:=(List.getElem?_eq_some_iff.mp h).1
    rw[List.length_append,List.length_singleton] at this
    omega
   subst hi
   rw[List.getElem?_append_right (XE _),Nat.sub_self] at h
   cases h
   exact⟨Ju,hf⟩
def tF {f:Fm}{g:Nat->Kd}:(f.ev g).ops=(f.ps.map λp=>(g p).ops).flatten:=by
 cases f with
 | f0 w=>rfl
 | f1 w a=>show(g a).ops=(g a).ops++[];rw[YK]
 | f2 w a b=>show(g a).ops++(g b).ops=(g a).ops++((g b).ops++[]);rw[YK]
def rJ (u:Us)(μ:Nat->Nat)(n:Nat):Prop:=∀r P M O B,μ r<n->r<u.F.length->u.rt r=r->yj u M O->(∀q∈B,M q=none->μ r<μ q)->∃k M' O' B',xD u ⟨r::P,M,O,B⟩ k ⟨P,M',O',B'⟩/\mT u μ r M O B M' O' B'
def Fk {m:Nat}(ih:rJ u μ m){P:List Nat}:∀(ws:List Nat) (M:Nat->Option Kd) (O B:List Nat),(∀w∈ws,w<u.F.length/\u.rt w=w/\μ w<m)->(∀q∈B,M q=none->m<=μ q)->yj u M O->
  ∃k M' O' B',xD u ⟨ws++P,M,O,B⟩ k ⟨P,M',O',B'⟩/\yj u M' O'/\(∀q k,M q=some k->M' q=some k)/\(∀q,M q=none->M' q≠none->μ q<m)/\(∀w∈ws,M' w≠none)/\
   ext (List.range O.length) (ws.map λw=>(vl M' w).ops).flatten=List.range O'.length/\(∀q∈B',q∈B\/M' q≠none)/\∀q∈B,q∈B'
 | [],M,O,B,_,_,R=>⟨0,M,O,B,.done,R,λ_ _ h=>h,λq h h'=>absurd h h',λw h=>(by cases h),rfl,λq h=>.inl h,λq h=>h⟩
 | w::ws,M,O,B,hw,hB,R=>by
  obtain⟨w1,w2,w3⟩:=hw w (List.mem_cons_self ..)
  obtain⟨k1,M1,O1,B1,r1,g1⟩:=ih w (ws++P) M O B w3 w1 w2 R λq hq h=>XG w3 (hB q hq h)
  have none1:∀q,M1 q=none->M q=none:=λq h=>by
   cases e:M q with
   | none=>rfl
   | some k=>rw[g1.keep q k e] at h;cases h
  obtain⟨k2,M2,O2,B2,r2,R2,kp2,lo2,in2,ex2,be2,su2⟩:=Fk ih ws M1 O1 B1 (λv hv=>hw v (XV _ hv)) (λq hq h=>hB q ((g1.beg q hq).resolve_right λz=>z h) (none1 q h)) g1.rd
  obtain⟨kk,h1,h2⟩:=g1.here
  have e2:M2 w=some kk:=kp2 w kk h1
  refine⟨k1+k2,M2,O2,B2,r1.app r2,R2,λq k h=>kp2 q k (g1.keep q k h),λq h h'=>?_,λv hv=>?_,?_,λq hq=>?_,λq hq=>su2 q (g1.sub q hq)⟩
  ·by_cases c:M1 q=none
   ·exact lo2 q c h'
   ·exact Nat.lt_of_le_of_lt (g1.low q h c) w3
  ·rcases List.mem_cons.mp hv with rfl | hv
   ·rw[e2];intro z;cases z
   ·exact in2 v hv
  ·rw[YI,List.flatten_cons,W6]
   have:vl M2 w=kk:=by unfold vl;rw[e2];rfl
   rw[this,h2]
   exact ex2
  ·rcases be2 q hq with h | h
   ·rcases g1.beg q h with h | h
    ·exact .inl h
    ·refine .inr λz=>h ?_
     cases e:M1 q with
     | none=>rfl
     | some k=>rw[kp2 q k e] at z;cases z
   ·exact .inr h
def sC (o:u.Ok)(hμ:∀r f,r<u.F.length->u.rt r=r->u.F[r]?=some (some f)->∀q∈u.within f,μ q<μ r):∀n,rJ u μ n
 | 0=>λr P M O B h=>absurd h (Nat.not_lt_zero _)
 | n+1=>λr P M O B hn hr1 hr2 R hB=>by
  cases e:M r with
  | some k=>
   refine⟨1,M,O,B,.step (.skip e) .done,R,λ_ _ h=>h,λq h h'=>absurd h h',⟨k,e,Cj λj hj=>List.mem_range.mpr (R.ops r k e j hj)⟩,λq h=>.inl h,λq h=>h⟩
  | none=>
   obtain⟨fo,hf⟩:∃f,u.F[r]?=some f:=⟨_,List.getElem?_eq_getElem hr1⟩
   cases fo with
   | none=>
    refine⟨1,_,_,B,.step (.opn e hf) .done,uM R ⟨hr1,hr2⟩ e hf,λq k h=>?_,λq h h'=>?_,⟨_,Ju,?_⟩,λq h=>.inl h,λq h=>h⟩
    ·rw[Jf λz=>by rw[z,e] at h;cases h];exact h
    ·by_cases c:q=r
     ·rw[c];exact XE _
     ·rw[Jf c] at h';exact absurd h h'
    ·show(if O.length∈List.range O.length then List.range O.length else List.range O.length++[O.length])=_
     rw[if_neg (by simp),List.length_append,List.length_singleton,List.range_succ]
   | some f=>
    have hw:=hμ r f hr1 hr2 hf
    have rB:r∉B:=λh=>Nat.lt_irrefl _ (hB r h e)
    have wr:∀w∈u.within f,w<u.F.length/\u.rt w=w/\μ w<μ r:=λw h=>by
     obtain⟨p,hp,rfl⟩:=XR.mp h
     have:=o.ps r f hf p hp
     exact⟨o.lt p this,o.id p this,hw _ h⟩
    have nb:∀q∈u.within f,¬(q∈r::B/\M q=none):=λq h z=>by
     have l:=hw q h
     rcases List.mem_cons.mp z.1 with c | c
     ·rw[c] at l;exact Nat.lt_irrefl _ l
     ·exact Nat.lt_irrefl _ (Nat.lt_trans l (hB q c z.2))
    have ih:rJ u μ (μ r):=λr' P' M' O' B' h=>sC o hμ n r' P' M' O' B' (by omega)
    obtain⟨k2,M2,O2,B2,r2,R2,kp2,lo2,in2,ex2,be2,su2⟩:=Fk ih (P:=r::P) (u.within f) M O (r::B) wr (λq hq h=>by
     rcases List.mem_cons.mp hq with c | c
     ·rw[c];exact XE _
     ·exact Nat.le_of_lt (hB q c h)) R
    have e2:M2 r=none:=by
     cases z:M2 r with
     | none=>rfl
     | some k=>exact absurd (lo2 r e (by rw[z];intro y;cases y)) (Nat.lt_irrefl _)
    refine⟨1+(k2+1),_,O2,B2,.app (.step (.beg e hf rB nb) .done) (r2.app (.step (.fin e2 hf (su2 r (List.mem_cons_self ..)) in2) .done)),uN R2 ⟨hr1,hr2⟩ e2 hf in2,λq k h=>?_,λq h h'=>?_,⟨_,Ju,?_⟩,λq hq=>?_,λq hq=>su2 q (XV _ hq)⟩
    ·rw[Jf λz=>by rw[z,e] at h;cases h];exact kp2 q k h
    ·by_cases c:q=r
     ·rw[c];exact XE _
     ·rw[Jf c] at h';exact Nat.le_of_lt (lo2 q h h')
    ·rw[<-ex2]
     congr 1
     show(f.ev λp=>vl M2 (u.rt p)).ops=_
     rw[tF]
     unfold Us.within
     rw[YE]
     rfl
    ·rcases be2 q hq with h | h
     ·rcases List.mem_cons.mp h with c | c
      ·exact .inr (by rw[c,Ju];intro z;cases z)
      ·exact .inl c
     ·exact .inr (by
       by_cases c:q=r
       ·rw[c,Ju];intro z;cases z
       ·rw[Jf c];exact h)
end
end Fn
namespace K24
open PySem PySem.Spec PyProof.Rows L2 WL Fn
def Yt:Kd->T
 | .op n=>.tup [.str "open",nT n]
 | .k0 g=>.tup [.str g]
 | .k1 g a=>.tup [.str g,Yt a]
 | .k2 g a b=>.tup [.str g,Yt a,Yt b]
def sr {f:Fm}{g:Nat->Kd}:Yt (f.ev g)=.tup (.str f.tag::f.ps.map λp=>Yt (g p)):=by cases f<;>rfl
abbrev ik (q:Nat):Z1:=.inl (q:Int)
def D7 {a b:Nat}(h:ik a=ik b):a=b:=by injection h with h;omega
def Ve:∀(n:Nat) (l:List Nat),l.Nodup->(∀x∈l,x<n)->l.length<=n
 | 0,l,_,h=>by
  cases l with
  | nil=>exact XE _
  | cons x l=>exact absurd (h x (List.mem_cons_self ..)) (Nat.not_lt_zero _)
 | n+1,l,nd,h=>by
  by_cases c:n∈l
  ·have:=Ve n (l.erase n) (nd.erase n) λx hx=>by
    have h1:=h x (List.mem_of_mem_erase hx)
    have h2:x≠n:=λe=>by subst e;exact(List.Nodup.not_mem_erase nd) hx
    omega
   rw[List.length_erase_of_mem c] at this
   omega
  ·have:=Ve n l nd λx hx=>by
    have h1:=h x hx
    have h2:x≠n:=λe=>by subst e;exact c hx
    omega
   omega
structure KD (kv:List (Z1×T))(qs:List Nat)(m:Nat):Prop where
 keys:kv.map (·.1)=qs.map ik
 nd:qs.Nodup
 lt:∀q∈qs,q<m
section
variable {kv:List (Z1×T)}{qs:List Nat}{m r:Nat}{v:T}{M:Nat->Option Kd}{k:Kd}{B:List Nat}
def KD.len (h:KD kv qs m):kv.length<=m:=by
 have e:=congrArg List.length h.keys
 rw[XI,XI] at e
 rw[e]
 exact Ve m qs h.nd h.lt
def KD.mem (h:KD kv qs m):(Yl kv (ik r)).isSome=true↔r∈qs:=by
 unfold Yl
 rw[Option.isSome_map,List.find?_isSome]
 constructor
 ·rintro⟨z,hz,e⟩
  have:z.1∈qs.map ik:=by rw[<-h.keys];exact XR.mpr ⟨z,hz,rfl⟩
  obtain⟨q,hq,e2⟩:=XR.mp this
  have e3:z.1=ik r:=by simpa using e
  rw[<-D7 (e2.trans e3)];exact hq
 ·intro hr
  have:ik r∈kv.map (·.1):=by rw[h.keys];exact XR.mpr ⟨r,hr,rfl⟩
  obtain⟨z,hz,e⟩:=XR.mp this
  exact⟨z,hz,by simpa using e⟩
def KD.put (h:KD kv qs m)(hn:r∉qs)(hr:r<m):KD (Ji kv (ik r) v) (qs++[r]) m:=by
 refine⟨?_,List.nodup_append.mpr ⟨h.nd,List.nodup_cons.mpr ⟨List.not_mem_nil,List.nodup_nil⟩,λa ha b hb=>by rw[XQ.mp hb];exact λe=>hn (e▸ha)⟩,λq hq=>?_⟩
 ·rw[N3,XX,h.keys,XL]
  ·rfl
  ·intro e
   obtain⟨z,hz,e⟩:=List.any_eq_true.mp e
   exact hn (h.mem.mp (by unfold Yl;rw[Option.isSome_map,List.find?_isSome];exact⟨z,hz,e⟩))
 ·rcases XS.mp hq with hq | hq
  ·exact h.lt q hq
  ·rw[XQ.mp hq];exact hr
def DM (kv:List (Z1×T))(M:Nat->Option Kd)(m:Nat):Prop:=(∀q,Yl kv (ik q)=(M q).map Yt)/\∃qs,KD kv qs m
def DB (kv:List (Z1×T))(B:List Nat)(m:Nat):Prop:=∃qs,KD kv qs m/\∀q,q∈qs↔q∈B
def DM.put (h:DM kv M m)(hn:M r=none)(hr:r<m):DM (Ji kv (ik r) (Yt k)) (set M r k) m:=by
 obtain⟨h1,qs,h2⟩:=h
 refine⟨λq=>?_,_,h2.put (λz=>?_) hr⟩
 ·rw[Mr]
  by_cases c:q=r
  ·subst c;rw[XY rfl,Ju];rfl
  ·rw[XX λe=>c (D7 e),Jf c];exact h1 q
 ·have:=h2.mem.mpr z
  rw[h1 r,hn] at this
  cases this
def DM.isS (h:DM kv M m)(q:Nat):(Yl kv (ik q)).isSome=(M q).isSome:=by rw[h.1 q,Option.isSome_map]
def DB.put (h:DB kv B m)(hn:r∉B)(hr:r<m):DB (Ji kv (ik r) v) (r::B) m:=by
 obtain⟨qs,h1,h2⟩:=h
 refine⟨_,h1.put (λz=>hn ((h2 r).mp z)) hr,λq=>?_⟩
 rw[XS,XQ,List.mem_cons,h2 q]
 exact or_comm
def DB.isS (h:DB kv B m)(q:Nat):(Yl kv (ik q)).isSome=decide (q∈B):=by
 obtain⟨qs,h1,h2⟩:=h
 rw[Bool.eq_iff_iff,h1.mem,h2 q,decide_eq_true_iff]
end
def Fy (A:Sd)(ra oa:Addr)(C C':Hw):Prop:=∀b o,b≠A.f->b≠A.l->b≠ra->b≠oa->C b=some o->C' b=some o
structure Ds (A:Sd)(C0:Hw)(ra oa ba pa:Addr):Prop where
 ro:ra≠oa
 rb:ra≠ba
 rp:ra≠pa
 ob:oa≠ba
 op:oa≠pa
 bp:ba≠pa
 r:ra≠A.r/\ra≠A.f/\ra≠A.l
 o:oa≠A.r/\oa≠A.f/\oa≠A.l
 b:ba≠A.r/\ba≠A.f/\ba≠A.l
 p:pa≠A.r/\pa≠A.f/\pa≠A.l
 nb:C0 ba=none
 np:C0 pa=none
structure Hq (A:Sd)(C0:Hw)(u:Us)(ra oa ba pa:Addr)(C:Hw)(kv:List (Z1×T))(os:List T)(kb:List (Z1×T))(ps:List T):Prop where
 s:Sl A C u
 f:Fy A ra oa C0 C
 r:C ra=some (.dic kv)
 o:C oa=some (.lst os)
 b:C ba=some (.dic kb)
 p:C pa=some (.lst ps)
section
variable {A:Sd}{C0 C C':Hw}{u:Us}{ra oa ba pa:Addr}{kv kb kv':List (Z1×T)}{os ps os' ps':List T}{o:O}
def Hq.new {q:Addr}(H:Hq A C0 u ra oa ba pa C kv os kb ps)(h:C q=none):Hq A C0 u ra oa ba pa (up C q o) kv os kb ps:=
 have k:∀{c:Addr} {w:O},C c=some w->up C q o c=some w:=λe=>by rw[Zg (J1 e h)];exact e
 ⟨H.s.new h,λc w m1 m2 m3 m4 e=>k (H.f c w m1 m2 m3 m4 e),k H.r,k H.o,k H.b,k H.p⟩
def Hq.of (H:Hq A C0 u ra oa ba pa C kv os kb ps)(D:Ds A C0 ra oa ba pa)(S:Sl A C' u)(F:Fx A C C'):Hq A C0 u ra oa ba pa C' kv os kb ps:=
 ⟨S,λc w m1 m2 m3 m4 e=>F c w m1 m2 (H.f c w m1 m2 m3 m4 e),F _ _ D.r.2.1 D.r.2.2 H.r,F _ _ D.o.2.1 D.o.2.2 H.o,F _ _ D.b.2.1 D.b.2.2 H.b,F _ _ D.p.2.1 D.p.2.2 H.p⟩
def Hq.upP (H:Hq A C0 u ra oa ba pa C kv os kb ps)(D:Ds A C0 ra oa ba pa):Hq A C0 u ra oa ba pa (up C pa (.lst ps')) kv os kb ps':=
 ⟨H.s.other D.p,λc w m1 m2 m3 m4 e=>by rw[Zg (J1 e D.np)];exact H.f c w m1 m2 m3 m4 e,by rw[Zg D.rp];exact H.r,by rw[Zg D.op];exact H.o,by rw[Zg D.bp];exact H.b,Ze⟩
def Hq.upR (H:Hq A C0 u ra oa ba pa C kv os kb ps)(D:Ds A C0 ra oa ba pa):Hq A C0 u ra oa ba pa (up C ra (.dic kv')) kv' os kb ps:=
 ⟨H.s.other D.r,λc w m1 m2 m3 m4 e=>by rw[Zg m3];exact H.f c w m1 m2 m3 m4 e,Ze,by rw[Zg D.ro.symm];exact H.o,by rw[Zg D.rb.symm];exact H.b,by rw[Zg D.rp.symm];exact H.p⟩
def Hq.upO (H:Hq A C0 u ra oa ba pa C kv os kb ps)(D:Ds A C0 ra oa ba pa):Hq A C0 u ra oa ba pa (up C oa (.lst os')) kv os' kb ps:=
 ⟨H.s.other D.o,λc w m1 m2 m3 m4 e=>by rw[Zg m4];exact H.f c w m1 m2 m3 m4 e,by rw[Zg D.ro];exact H.r,Ze,by rw[Zg D.ob.symm];exact H.b,by rw[Zg D.op.symm];exact H.p⟩
def Hq.upB (H:Hq A C0 u ra oa ba pa C kv os kb ps)(D:Ds A C0 ra oa ba pa):Hq A C0 u ra oa ba pa (up C ba (.dic kv')) kv os kv' ps:=
 ⟨H.s.other D.b,λc w m1 m2 m3 m4 e=>by rw[Zg (J1 e D.nb)];exact H.f c w m1 m2 m3 m4 e,by rw[Zg D.rb];exact H.r,by rw[Zg D.ob];exact H.o,Ze,by rw[Zg D.bp.symm];exact H.p⟩
end
structure kL (A:Sd)(C0:Hw)(u:Us)(ra oa ba pa:Addr)(C:Hw)(w:Ms):Prop where
 h:∃kv kb,Hq A C0 u ra oa ba pa C kv (w.O.map nT) kb (w.P.reverse.map nT)/\DM kv w.M u.F.length/\DB kb w.B u.F.length
 ol:w.O.Nodup/\∀q∈w.O,q<u.F.length/\w.M q≠none
 bl:w.B.Nodup/\∀q∈w.B,q<u.F.length
 pl:w.P.length<=1+2*w.B.length
 pr:∀q∈w.P,q<u.F.length/\u.rt q=q
section
variable {A:Sd}{C C':Hw}{u:Us}{Q:WK}{χ:WX}{n r k:Nat}{ra oa:Addr}{kv:List (Z1×T)}{M M':Nat->Option Kd}{O O' B':List Nat}
def xo {x:T}{xs:List T}:Pd (x::xs) none (some 1)=[x]:=by
 unfold Pd HT.sIx
 simp
def Iw (S:Sl A C u)(o:u.Ok)(hn:u.F.length<=7000)(hr:r<u.F.length)(hrt:u.rt r=r)(hra:C ra=some (.dic kv))(dm:DM kv M u.F.length)(hoa:C oa=some (.lst (O.map nT)))(oa1:oa≠A.f)(oa2:oa≠A.l)
  (ol:O.Nodup/\∀q∈O,q<u.F.length/\M q≠none) (run:xD u ⟨[r],M,O,[]⟩ k ⟨[],M',O',B'⟩)
  (q:∀C' kv',Sl A C' u->Fy A ra oa C C'->C' ra=some (.dic kv')->DM kv' M' u.F.length->C' oa=some (.lst (O'.map nT))->(O'.Nodup/\∀q∈O',q<u.F.length/\M' q≠none)->Q .non C'):Ye pr (n+3) Hm [.ref A.r,nT r,.ref ra,.ref oa] C Q χ:=by
 refine Ih rfl ?_
 unfold U8 Ts
 intro ba hba
 refine⟨_,rfl,Yv (by show 1<=_;omega),λpa hpa=>?_⟩
 have raf:ra≠A.r/\ra≠A.f/\ra≠A.l:=by
  obtain⟨_,_,h⟩:=id S
  exact⟨λe=>(by rw[e,h.r] at hra;cases hra),λe=>(by rw[e,h.f] at hra;cases hra),λe=>(by rw[e,h.l] at hra;cases hra)⟩
 have oaf:oa≠A.r:=by
  obtain⟨_,_,h⟩:=id S
  exact λe=>(by rw[e,h.r] at hoa;cases hoa)
 have nbp:ba≠pa:=λe=>by rw[<-e,Ze] at hpa;cases hpa
 have hpa0:C pa=none:=by rw[Zg nbp.symm] at hpa;exact hpa
 have D:Ds A C ra oa ba pa:=⟨λe=>(by rw[e,hoa] at hra;cases hra),J1 hra hba,J1 hra hpa0,J1 hoa hba,J1 hoa hpa0,nbp,raf,⟨oaf,oa1,oa2⟩,S.off hba,S.off hpa0,hba,hpa0⟩
 have H0:Hq A C u ra oa ba pa (up (up C ba (.dic [])) pa (.lst [nT r])) kv (O.map nT) [] [nT r]:=by
  refine⟨(S.new hba).new hpa,λc w m1 m2 m3 m4 e=>by rw[Zg (J1 e hpa0),Zg (J1 e hba)];exact e,by rw[Zg D.rp,Zg D.rb];exact hra,by rw[Zg D.op,Zg D.ob];exact hoa,by rw[Zg nbp];exact Ze,Ze⟩
 generalize up (up C ba (.dic [])) pa (.lst [nT r])=C1 at H0
 refine Rc (λm τ C'=>∃v6 v7 v8 w,τ=[some (.ref A.r),some (nT r),some (.ref ra),some (.ref oa),some (.ref ba),some (.ref pa),v6,v7,v8]/\kL A C u ra oa ba pa C' w/\xD u w m ⟨[],M',O',B'⟩) (m:=k)
  ⟨none,none,none,⟨[r],M,O,[]⟩,rfl,⟨⟨kv,[],H0,dm,[],⟨rfl,List.nodup_nil,λq h=>(by cases h)⟩,λq=>Iff.rfl⟩,ol,⟨List.nodup_nil,λq h=>(by cases h)⟩,XE _,λq h=>by rw[XQ.mp h];exact⟨hr,hrt⟩⟩,run⟩ ?_
 rintro m τ C2 N ⟨v6,v7,v8,w,rfl,⟨⟨kv2,kb2,H2,dm2,db2⟩,ol2,bl2,pl2,pr2⟩,run2⟩ hN
 refine⟨_,rfl,Yv (by show 0<=_;omega),λp' hp'=>?_⟩
 have H3:=H2.new (o:=.lst []) hp'
 refine Hd H3.p Ze ⟨_,rfl,?_⟩
 generalize up C2 p' (.lst [])=C3 at H3
 have olen:w.O.length<=u.F.length:=Ve _ _ ol2.1 λx hx=>(ol2.2 x hx).1
 have blen:w.B.length<=u.F.length:=Ve _ _ bl2.1 bl2.2
 cases run2 with
 | done=>
  refine Zj ?_
  exact q C3 kv2 H3.s H3.f H3.r dm2 H3.o ol2
 | @step _ w' _ m' st Xl=>
  obtain⟨r0,P,eP⟩:∃r0 P,w.P=r0::P:=by cases st<;>exact⟨_,_,rfl⟩
  obtain⟨Pw,Mw,Ow,Bw⟩:=w
  cases eP
  dsimp only at H3 dm2 db2 ol2 bl2 pl2 pr2 olen blen
  obtain⟨r1,r2⟩:=pr2 r0 (List.mem_cons_self ..)
  have pr3:∀q∈P,q<u.F.length/\u.rt q=q:=λq h=>pr2 q (XV _ h)
  have eP:(r0::P).reverse.map nT=P.reverse.map nT++[nT r0]:=by simp
  rw[eP] at H3
  refine Ko (by show(!((r0::P).reverse.map nT).isEmpty)=true;rw[eP];simp) ?_
  have last:(P.reverse.map nT++[nT r0])[(P.reverse.map nT++[nT r0]).length-1]?=some (nT r0):=by simp
  refine⟨_,rfl,⟨_,_,rfl,H3.p⟩,_,_,_,rfl,rfl,H3.p,last,?_⟩
  rw[List.dropLast_concat]
  have H4:=H3.upP (ps':=P.reverse.map nT) D
  generalize up C3 pa (.lst (P.reverse.map nT))=C4 at H4
  have pl3:P.length+1<=1+2*Bw.length:=pl2
  refine⟨_,rfl,_,rfl,_,_,_,rfl,rfl,.inl H4.r,⟨_,rfl,?_⟩⟩
  have nxt:∀{fo:Option Fm},Mw r0=none->u.F[r0]?=some fo->∀{D':We} {X:WS} {τ:Sw} {b:Bool},b=false->True:=λ_ _ _ _ _ _ _=>trivial
  cases st with
  | skip e=>
   refine Ko (by rw[XX (by decide),dm2.isS,e];rfl) ?_
   exact hN m' _ _ (Nat.lt_succ_self _) ⟨_,_,_,⟨P,Mw,Ow,Bw⟩,rfl,⟨⟨kv2,kb2,H4,dm2,db2⟩,ol2,bl2,by show P.length<=1+2*Bw.length;omega,pr3⟩,Xl⟩
  | opn e hf=>
   refine Oi (by rw[XX (by decide),dm2.isS,e];rfl) ?_
   obtain⟨_,_,S4⟩:=id H4.s
   refine⟨_,rfl,_,_,_,_,rfl,S4.r,rfl,rfl,_,rfl,?_⟩
   dsimp only[Zw]
   refine Pu (n:=n) (f:=none) H4.s o r1 (by rw[r2];exact hf) λC5 S5 F5=>?_
   have H5:=H4.of D S5 F5
   refine⟨_,rfl,rfl,true,rfl,Z2 ?_⟩
   refine⟨_,rfl,_,rfl,_,H5.o,Yv (by show 2<=_;omega),_,rfl,_,rfl,_,_,_,rfl,rfl,H5.r,Yj (by obtain⟨_,_,kd⟩:=dm2;have:=kd.len;omega),?_⟩
   rw[XI]
   have H6:=H5.upR (kv':=Ji kv2 (ik r0) (Yt (.op Ow.length))) D
   refine⟨_,rfl,⟨_,_,rfl,H6.o⟩,_,rfl,_,_,_,rfl,rfl,H6.o,Yj (by rw[XI];omega),?_⟩
   have H7:=H6.upO (os':=Ow.map nT++[nT r0]) D
   have eo:Ow.map nT++[nT r0]=(Ow++[r0]).map nT:=by rw[XL];rfl
   have n0:r0∉Ow:=λh=>(ol2.2 r0 h).2 e
   refine hN m' _ _ (Nat.lt_succ_self _) ⟨_,_,_,⟨P,set Mw r0 (.op Ow.length),Ow++[r0],Bw⟩,rfl,⟨⟨_,kb2,by rw[eo] at H7 |-;exact H7,dm2.put e r1,db2⟩,⟨?_,λx hx=>?_⟩,bl2,by show P.length<=1+2*Bw.length;omega,pr3⟩,Xl⟩
   ·exact List.nodup_append.mpr ⟨ol2.1,List.nodup_cons.mpr ⟨List.not_mem_nil,List.nodup_nil⟩,λa ha b hb=>by rw[XQ.mp hb];exact λz=>n0 (z▸ha)⟩
   ·rcases XS.mp hx with hx | hx
    ·have:=ol2.2 x hx
     exact⟨this.1,by show set Mw r0 _ x≠none;rw[Jf λz=>n0 (by rw[<-z];exact hx)];exact this.2⟩
    ·rw[XQ.mp hx]
     exact⟨r1,by show set Mw r0 _ r0≠none;rw[Ju];intro z;cases z⟩
  | @beg _ _ _ _ _ f e hf hB hw=>
   refine Oi (by rw[XX (by decide),dm2.isS,e];rfl) ?_
   obtain⟨_,_,S4⟩:=id H4.s
   refine⟨_,rfl,_,_,_,_,rfl,S4.r,rfl,rfl,_,rfl,?_⟩
   dsimp only[Zw]
   refine Pu (n:=n) (f:=some f) H4.s o r1 (by rw[r2];exact hf) λC5 S5 F5=>?_
   have H5:=H4.of D S5 F5
   rw[Hv]
   refine⟨_,rfl,rfl,false,rfl,Zj ?_⟩
   refine⟨_,rfl,_,rfl,Kf,?_⟩
   rw[Tl]
   have hps:∀p∈f.ps,p<u.F.length:=o.ps r0 f hf
   refine Xp (λi acc C'=>Hq A C u ra oa ba pa C' kv2 (Ow.map nT) kb2 (P.reverse.map nT)/\acc=((f.ps.take i).map u.rt).map nT) ⟨H5,rfl⟩ (λ_ _ _ _ _=>trivial) ?_ ?_
   ·rintro i x acc C6 N6 hx ⟨H6,rfl⟩ hN6
    rw[XM] at hx
    obtain⟨p,hp,rfl⟩:∃p,f.ps[i]?=some p/\nT p=x:=by
     cases z:f.ps[i]? with
     | none=>rw[z] at hx;cases hx
     | some p=>rw[z] at hx;exact⟨p,rfl,YH hx⟩
    obtain⟨_,_,S6⟩:=id H6.s
    have hi:i<f.ps.length:=(List.getElem?_eq_some_iff.mp hp).1
    have fl:f.ps.length<=2:=by cases f<;>simp[Fm.ps]
    refine Z2 (q:=N6 (((f.ps.take i).map u.rt).map nT) C6) ⟨_,rfl,_,_,_,_,rfl,S6.r,rfl,rfl,_,rfl,?_⟩
    dsimp only[Zw]
    refine Vq (n:=n+1) H6.s (hps p (List.mem_of_getElem? hp)) λC7 S7 F7=>⟨Yj (by rw[XI,XI,YM];omega),hN6 _ _ ⟨H6.of D S7 F7,?_⟩⟩
    rw[YD,hp,XL,XL];rfl
   rintro acc C6 ⟨H6,rfl⟩ wa hwa
   rw[XI,List.take_length]
   have H7:=H6.new (o:=.lst ((u.within f).map nT)) hwa
   have W7:up C6 wa (.lst ((u.within f).map nT)) wa=some (.lst ((u.within f).map nT)):=Ze
   have wd:wa≠ra/\wa≠oa/\wa≠ba/\wa≠pa:=⟨(J1 H6.r hwa).symm,(J1 H6.o hwa).symm,(J1 H6.b hwa).symm,(J1 H6.p hwa).symm⟩
   show _
   generalize hC7:up C6 wa (.lst (((f.ps).map u.rt).map nT))=C7
   rw[show up C6 wa (.lst ((u.within f).map nT))=C7 from hC7] at H7 W7
   refine⟨_,rfl,_,rfl,_,_,_,rfl,rfl,.inl H7.b,⟨_,rfl,Oi (by rw[if_neg (by decide),db2.isS];simpa using hB) ?_⟩⟩
   refine⟨_,rfl,_,rfl,_,_,_,rfl,rfl,H7.b,Yj (by obtain⟨_,kd,_⟩:=db2;have:=kd.len;omega),?_⟩
   have db3:=db2.put (v:=.bl true) hB r1
   have H8:=H7.upB (kv':=Ji kb2 (ik r0) (.bl true)) D
   have W8:up C7 ba (.dic (Ji kb2 (ik r0) (.bl true))) wa=some (.lst ((u.within f).map nT)):=by rw[Zg wd.2.2.1];exact W7
   generalize up C7 ba (.dic (Ji kb2 (ik r0) (.bl true)))=C8 at H8 W8
   have wl:(u.within f).length<=2:=by unfold Us.within;rw[List.length_map];cases f<;>simp[Fm.ps]
   refine⟨_,rfl,_,W8,?_⟩
   refine X5 (λ_=>.bl false) W8 (by rw[XI];exact Yv (by omega)) (λx hx R hR=>?_) λp9 hp9=>?_
   ·obtain⟨q0,hq0,rfl⟩:=XR.mp hx
    refine⟨_,rfl,_,rfl,_,_,_,rfl,rfl,.inl H8.b,⟨_,rfl,?_⟩⟩
    by_cases c:q0∈r0::Bw
    ·refine Ko (by rw[if_neg (by decide),db3.isS];simpa using c) ?_
     refine⟨_,rfl,_,rfl,_,_,_,rfl,rfl,.inl H8.r,?_⟩
     rw[XY rfl,dm2.isS]
     cases z:Mw q0 with
     | none=>exact absurd ⟨c,z⟩ (hw q0 hq0)
     | some k0=>exact hR
    ·exact Oi (by rw[if_neg (by decide),db3.isS];simpa using c) hR
   have nf:((u.within f).map nT).map (λ_=>T.bl false)=(List.replicate (u.within f).length false).map T.bl:=by
    rw[YE,List.map_replicate]
    exact List.map_const' ..
   have H9:=H8.new (o:=.lst (((u.within f).map nT).map λ_=>T.bl false)) hp9
   have W9:up C8 p9 (.lst (((u.within f).map nT).map λ_=>T.bl false)) wa=some (.lst ((u.within f).map nT)):=by rw[Zg (J1 W8 hp9)];exact W8
   refine⟨_,_,rfl,by rw[Ze,nf],⟨_,rfl,Oi (by simp) ?_⟩⟩
   generalize up C8 p9 (.lst (((u.within f).map nT).map λ_=>T.bl false))=C9 at H9 W9
   have lP:P.length<=20000:=by omega
   refine⟨_,rfl,⟨_,_,rfl,H9.p⟩,_,rfl,_,_,_,rfl,rfl,H9.p,Yj (by rw[XI,List.length_reverse];omega),?_⟩
   have H10:=H9.upP (ps':=P.reverse.map nT++[nT r0]) D
   have W10:up C9 pa (.lst (P.reverse.map nT++[nT r0])) wa=some (.lst ((u.within f).map nT)):=by rw[Zg wd.2.2.2];exact W9
   generalize up C9 pa (.lst (P.reverse.map nT++[nT r0]))=C10 at H10 W10
   refine⟨_,rfl,⟨_,_,rfl,H10.p⟩,_,rfl,_,_,rfl,W10,λp11 hp11=>?_⟩
   have H11:=H10.new (o:=.lst ((u.within f).map nT).reverse) hp11
   refine⟨_,_,_,_,rfl,rfl,H11.p,Ze,by rw[List.length_reverse,XI,List.length_append,XI,List.length_reverse];exact Yv (by show P.length+1+_<=_;omega),?_⟩
   have H12:=H11.upP (ps':=P.reverse.map nT++[nT r0]++((u.within f).map nT).reverse) D
   have ep:P.reverse.map nT++[nT r0]++((u.within f).map nT).reverse=(u.within f++r0::P).reverse.map nT:=by simp
   rw[ep] at H12 |-
   refine hN m' _ _ (Nat.lt_succ_self _) ⟨_,_,_,⟨u.within f++r0::P,Mw,Ow,r0::Bw⟩,rfl,⟨⟨kv2,_,H12,dm2,db3⟩,ol2,⟨List.nodup_cons.mpr ⟨hB,bl2.1⟩,λx hx=>?_⟩,?_,λx hx=>?_⟩,Xl⟩
   ·rcases List.mem_cons.mp hx with rfl | hx
    ·exact r1
    ·exact bl2.2 x hx
   ·show(u.within f++r0::P).length<=1+2*(r0::Bw).length
    rw[List.length_append,YF,YF];omega
   ·rcases XS.mp hx with hx | hx
    ·obtain⟨p,hp,rfl⟩:=XR.mp hx
     exact⟨o.lt p (hps p hp),o.id p (hps p hp)⟩
    ·rcases List.mem_cons.mp hx with rfl | hx
     ·exact⟨r1,r2⟩
     ·exact pr3 x hx
  | @fin _ _ _ _ _ f e hf hB hw=>
   refine Oi (by rw[XX (by decide),dm2.isS,e];rfl) ?_
   obtain⟨_,_,S4⟩:=id H4.s
   refine⟨_,rfl,_,_,_,_,rfl,S4.r,rfl,rfl,_,rfl,?_⟩
   dsimp only[Zw]
   refine Pu (n:=n) (f:=some f) H4.s o r1 (by rw[r2];exact hf) λC5 S5 F5=>?_
   have H5:=H4.of D S5 F5
   rw[Hv]
   refine⟨_,rfl,rfl,false,rfl,Zj ?_⟩
   refine⟨_,rfl,_,rfl,Kf,?_⟩
   rw[Tl]
   have hps:∀p∈f.ps,p<u.F.length:=o.ps r0 f hf
   refine Xp (λi acc C'=>Hq A C u ra oa ba pa C' kv2 (Ow.map nT) kb2 (P.reverse.map nT)/\acc=((f.ps.take i).map u.rt).map nT) ⟨H5,rfl⟩ (λ_ _ _ _ _=>trivial) ?_ ?_
   ·rintro i x acc C6 N6 hx ⟨H6,rfl⟩ hN6
    rw[XM] at hx
    obtain⟨p,hp,rfl⟩:∃p,f.ps[i]?=some p/\nT p=x:=by
     cases z:f.ps[i]? with
     | none=>rw[z] at hx;cases hx
     | some p=>rw[z] at hx;exact⟨p,rfl,YH hx⟩
    obtain⟨_,_,S6⟩:=id H6.s
    have hi:i<f.ps.length:=(List.getElem?_eq_some_iff.mp hp).1
    have fl:f.ps.length<=2:=by cases f<;>simp[Fm.ps]
    refine Z2 (q:=N6 (((f.ps.take i).map u.rt).map nT) C6) ⟨_,rfl,_,_,_,_,rfl,S6.r,rfl,rfl,_,rfl,?_⟩
    dsimp only[Zw]
    refine Vq (n:=n+1) H6.s (hps p (List.mem_of_getElem? hp)) λC7 S7 F7=>⟨Yj (by rw[XI,XI,YM];omega),hN6 _ _ ⟨H6.of D S7 F7,?_⟩⟩
    rw[YD,hp,XL,XL];rfl
   rintro acc C6 ⟨H6,rfl⟩ wa hwa
   rw[XI,List.take_length]
   have H7:=H6.new (o:=.lst ((u.within f).map nT)) hwa
   have W7:up C6 wa (.lst ((u.within f).map nT)) wa=some (.lst ((u.within f).map nT)):=Ze
   have wd:wa≠ra/\wa≠oa/\wa≠ba/\wa≠pa:=⟨(J1 H6.r hwa).symm,(J1 H6.o hwa).symm,(J1 H6.b hwa).symm,(J1 H6.p hwa).symm⟩
   show _
   generalize hC7:up C6 wa (.lst (((f.ps).map u.rt).map nT))=C7
   rw[show up C6 wa (.lst ((u.within f).map nT))=C7 from hC7] at H7 W7
   refine⟨_,rfl,_,rfl,_,_,_,rfl,rfl,.inl H7.b,⟨_,rfl,Ko (by rw[if_neg (by decide),db2.isS];simpa using hB) ?_⟩⟩
   refine⟨_,rfl,_,rfl,?_⟩
   refine⟨_,rfl,_,W7,?_⟩
   have wl:(u.within f).length<=2:=by unfold Us.within;rw[List.length_map];cases f<;>simp[Fm.ps]
   refine X5 (λt=>match t with | .int i=>Yt (vl Mw i.toNat) | _=>.non) W7 (by rw[XI];exact Yv (by omega)) (λx hx R hR=>?_) λp8 hp8=>?_
   ·obtain⟨q0,hq0,rfl⟩:=XR.mp hx
    have hR:R (Yt (vl Mw q0)) C7:=by simpa using hR
    cases z:Mw q0 with
    | none=>exact absurd z (hw q0 hq0)
    | some k0=>
     have ev:vl Mw q0=k0:=by unfold vl;rw[z];rfl
     rw[ev] at hR
     exact⟨_,rfl,_,rfl,_,_,_,_,rfl,rfl,.inl H7.r,by rw[dm2.1 q0,z];rfl,hR⟩
   refine⟨_,rfl,_,Ze,?_⟩
   have H8:=H7.new (o:=.lst (((u.within f).map nT).map λt=>match t with | .int i=>Yt (vl Mw i.toNat) | _=>.non)) hp8
   refine⟨by rw[xo,XI,XI];exact Yv (by show 1+_<=_;omega),?_⟩
   refine⟨_,rfl,_,rfl,_,_,_,rfl,rfl,H8.r,Yj (by obtain⟨_,_,kd⟩:=dm2;have:=kd.len;omega),?_⟩
   have val:T.tup (Pd (T.str f.tag::f.ps.map nT) none (some 1)++((u.within f).map nT).map λt=>match t with | .int i=>Yt (vl Mw i.toNat) | _=>.non)=Yt (u.told Mw f):=by
    rw[xo]
    unfold Us.told Us.within
    rw[sr,YE,YE]
    show T.tup (T.str f.tag::_)=_
    congr 2
   rw[val]
   have H9:=H8.upR (kv':=Ji kv2 (ik r0) (Yt (u.told Mw f))) D
   refine hN m' _ _ (Nat.lt_succ_self _) ⟨_,_,_,⟨P,set Mw r0 (u.told Mw f),Ow,Bw⟩,rfl,⟨⟨_,kb2,H9,dm2.put e r1,db2⟩,⟨ol2.1,λx hx=>?_⟩,bl2,by show P.length<=1+2*Bw.length;omega,pr3⟩,Xl⟩
   have:=ol2.2 x hx
   exact⟨this.1,by show set Mw r0 _ x≠none;rw[Jf λz=>this.2 (by rw[z];exact e)];exact this.2⟩
end
end K24
namespace Fn
open PySem WL
def j2 {u:Us}{σ0:Nat->Kd}(o:u.Ok)(h:Um u σ0):∀r f,r<u.F.length->u.rt r=r->u.F[r]?=some (some f)->∀q∈u.within f,(σ0 q).sz<(σ0 r).sz:=λr f _ _ hf q hq=>by
 obtain⟨p,hp,rfl⟩:=XR.mp hq
 rw[<-h.1 p (o.ps r f hf p hp),h.2 r f hf]
 cases f with
 | f0 g=>cases hp
 | f1 g a=>rw[XQ.mp hp];show _<1+(σ0 a).sz;omega
 | f2 g a b=>
  simp only[Fm.ps,List.mem_cons,List.not_mem_nil,or_false] at hp
  show _<1+((σ0 a).sz+(σ0 b).sz)
  rcases hp with rfl | rfl<;>omega
structure vM (u:Us)(rows:List Nat)(M:Nat->Option Kd)(O:List Nat):Prop where
 rd:yj u M O
 all:∀i∈rows,M (u.rt i)≠none
 num:ext [] (rows.map λi=>(vl M (u.rt i)).ops).flatten=List.range O.length
def jc {u:Us}:yj u (λ_=>none) []:=⟨λq k h=>(by cases h),λq k h=>(by cases h),λq k f h=>(by cases h),λq k h=>(by cases h),λi q h=>by simp at h⟩
def Kd.put (θ:Nat->Kd):Kd->Kd
 | .op n=>θ n
 | .k0 g=>.k0 g
 | .k1 g a=>.k1 g (a.put θ)
 | .k2 g a b=>.k2 g (a.put θ) (b.put θ)
def uS {θ:Nat->Kd}{f:Fm}{g:Nat->Kd}:(f.ev g).put θ=f.ev λp=>(g p).put θ:=by cases f<;>rfl
structure Gw (t:Tr)(R:List Kd):Prop where
 is:∃k,HT G0 t k R
 wide:∀k' R',HT G0 t k' R'->∃θ,R'=R.map (Kd.put θ)
 num:∃n,ext [] (R.map Kd.ops).flatten=List.range n
section
variable {u:Us}{M:Nat->Option Kd}{O rows:List Nat}{σ σ0:Nat->Kd}{t:Tr}
def K6 (o:u.Ok)(h:Um u σ0):∀(l:List Nat) (M:Nat->Option Kd) (O:List Nat),(∀i∈l,i<u.F.length)->yj u M O->∃M' O',yj u M' O'/\(∀q k,M q=some k->M' q=some k)/\∀i∈l,M' (u.rt i)≠none
 | [],M,O,_,R=>⟨M,O,R,λ_ _ h=>h,λi h=>(by cases h)⟩
 | i::l,M,O,hl,R=>by
  have il:=hl i (List.mem_cons_self ..)
  obtain⟨k,M1,O1,B1,_,g⟩:=sC (μ:=λq=>(σ0 q).sz) o (j2 o h) ((σ0 (u.rt i)).sz+1) (u.rt i) [] M O [] (Nat.lt_succ_self _) (o.lt i il) (o.id i il) R (λq h=>by cases h)
  obtain⟨M2,O2,R2,k2,a2⟩:=K6 o h l M1 O1 (λj hj=>hl j (XV _ hj)) g.rd
  obtain⟨kk,g1,_⟩:=g.here
  refine⟨M2,O2,R2,λq k e=>k2 q k (g.keep q k e),λj hj=>?_⟩
  rcases List.mem_cons.mp hj with rfl | hj
  ·rw[k2 _ kk g1];intro z;cases z
  ·exact a2 j hj
def yE (o:u.Ok)(c:Vg u [])(h:Um u σ0)(T:vM u rows M O):∃σ1,Um u σ1/\∀i∈rows,σ1 i=vl M (u.rt i):=by
 obtain⟨M',O',R',kp,al⟩:=K6 o h (List.range u.F.length) M O (λi hi=>List.mem_range.mp hi) T.rd
 refine⟨λq=>vl M' (u.rt q),⟨λx hx=>by show vl M' (u.rt x)=vl M' (u.rt (u.rt x));rw[o.id x hx],λx f hx=>?_⟩,λi hi=>?_⟩
 ·have xl:=(List.getElem?_eq_some_iff.mp hx).1
  obtain⟨g,g1,g2⟩:=c x f hx
  cases e:M' (u.rt x) with
  | none=>exact absurd e (al x (List.mem_range.mpr xl))
  | some k=>
   obtain⟨h1,_⟩:=R'.frm _ k g e g1
   show vl M' (u.rt x)=_
   have ev:vl M' (u.rt x)=k:=by unfold vl;rw[e];rfl
   rw[ev,h1]
   show g.ev (λp=>vl M' (u.rt p))=f.ev λp=>vl M' (u.rt p)
   cases f with
   | f0 w=>cases g with
    | f0 v=>have:w=v:=g2;rw[this]
    | f1 v c=>exact g2.elim
    | f2 v c d=>exact g2.elim
   | f1 w a=>cases g with
    | f0 v=>exact g2.elim
    | f1 v c=>show Kd.k1 v (vl M' (u.rt c))=Kd.k1 w (vl M' (u.rt a));rw[g2.1,g2.2.nil]
    | f2 v c d=>exact g2.elim
   | f2 w a b=>cases g with
    | f0 v=>exact g2.elim
    | f1 v c=>exact g2.elim
    | f2 v c d=>show Kd.k2 v (vl M' (u.rt c)) (vl M' (u.rt d))=Kd.k2 w (vl M' (u.rt a)) (vl M' (u.rt b));rw[g2.1,g2.2.1.nil,g2.2.2.nil]
 ·show vl M' (u.rt i)=vl M (u.rt i)
  cases e:M (u.rt i) with
  | none=>exact absurd e (T.all i hi)
  | some k=>unfold vl;rw[kp _ k e,e]
def Kc (o:u.Ok)(h:Um u σ)(R:yj u M O):∀(n:Nat) q k,(σ q).sz<n->M q=some k->σ q=k.put λi=>σ ((O[i]?).getD 0)
 | 0,q,k,hn,_=>absurd hn (Nat.not_lt_zero _)
 | n+1,q,k,hn,e=>by
  obtain⟨q1,q2⟩:=R.root q k e
  obtain⟨fo,hf⟩:∃f,u.F[q]?=some f:=⟨_,List.getElem?_eq_getElem q1⟩
  cases fo with
  | none=>
   obtain⟨i,rfl,hi⟩:=R.opn q k e hf
   show σ q=σ ((O[i]?).getD 0)
   rw[hi];rfl
  | some f=>
   obtain⟨h1,h2⟩:=R.frm q k f e hf
   rw[h1,h.2 q f hf]
   show f.ev σ=(f.ev λp=>vl M (u.rt p)).put _
   rw[uS]
   refine Q6 λp hp=>?_
   have pw:u.rt p∈u.within f:=XR.mpr ⟨p,hp,rfl⟩
   cases z:M (u.rt p) with
   | none=>exact absurd z (h2 _ pw)
   | some k0=>
    have ev:vl M (u.rt p)=k0:=by unfold vl;rw[z];rfl
    show σ p=(vl M (u.rt p)).put _
    rw[ev,h.1 p (o.ps q f hf p hp)]
    have:=j2 o h q f q1 q2 hf _ pw
    exact Kc o h R n (u.rt p) k0 (by omega) z
def zi (K:Kn t u rows [])(h:Um u σ0)(T:vM u rows M O):Gw t (rows.map λi=>vl M (u.rt i)):=by
 refine⟨?_,λk' R' hR=>?_,⟨O.length,?_⟩⟩
 ·obtain⟨σ1,s1,e1⟩:=yE K.o K.c h T
  obtain⟨k,hk⟩:=K.so σ1 [] s1 .nil
  rw[YK,List.map_congr_left e1] at hk
  exact⟨k,hk⟩
 ·obtain⟨σ,R2,s1,e1,e2⟩:=K.co k' R' hR
  cases e2
  rw[YK] at e1
  refine⟨λi=>σ ((O[i]?).getD 0),?_⟩
  rw[e1,YE]
  refine List.map_congr_left λi hi=>?_
  have il:=K.rl i hi
  cases z:M (u.rt i) with
  | none=>exact absurd z (T.all i hi)
  | some k0=>
   have ev:vl M (u.rt i)=k0:=by unfold vl;rw[z];rfl
   show σ i=(vl M (u.rt i)).put _
   rw[ev,s1.1 i il]
   exact Kc K.o s1 T.rd ((σ (u.rt i)).sz+1) (u.rt i) k0 (Nat.lt_succ_self _) z
 ·rw[<-T.num,YE];rfl
end
def Qz {θ1 θ2:Nat->Kd}:∀(k:Kd),(k.put θ1).put θ2=k->∀i∈k.ops,∃j,θ1 i=.op j/\θ2 j=.op i
 | .op n,h,i,hi=>by
  rw[XQ.mp hi]
  have h:(θ1 n).put θ2=.op n:=h
  cases e:θ1 n with
  | op j=>rw[e] at h;exact⟨j,rfl,h⟩
  | k0 g=>rw[e] at h;cases h
  | k1 g a=>rw[e] at h;cases h
  | k2 g a b=>rw[e] at h;cases h
 | .k0 g,_,i,hi=>by cases hi
 | .k1 g a,h,i,hi=>by
  injection h with _ h
  exact Qz a h i hi
 | .k2 g a b,h,i,hi=>by
  injection h with _ h1 h2
  rcases XS.mp hi with hi | hi
  ·exact Qz a h1 i hi
  ·exact Qz b h2 i hi
def Q0 {θ:Nat->Kd}{f:Nat->Nat}:∀(k:Kd),(∀i∈k.ops,θ i=.op (f i))->(k.put θ).ops=k.ops.map f
 | .op n,h=>by show(θ n).ops=[f n];rw[h n (by simp[Kd.ops])];rfl
 | .k0 g,_=>rfl
 | .k1 g a,h=>Q0 a h
 | .k2 g a b,h=>by
  show(a.put θ).ops++(b.put θ).ops=(a.ops++b.ops).map f
  rw[Q0 a λi hi=>h i (List.mem_append_left _ hi),Q0 b λi hi=>h i (XT _ hi),XL]
def N4 {θ:Nat->Kd}:∀(k:Kd),(∀i∈k.ops,θ i=.op i)->k.put θ=k
 | .op n,h=>h n (by simp[Kd.ops])
 | .k0 g,_=>rfl
 | .k1 g a,h=>by show Kd.k1 g (a.put θ)=_;rw[N4 a h]
 | .k2 g a b,h=>by show Kd.k2 g (a.put θ) (b.put θ)=_;rw[N4 a λi hi=>h i (List.mem_append_left _ hi),N4 b λi hi=>h i (XT _ hi)]
def Tf {j:Nat}:∀{l acc:List Nat},j∈ext acc l↔j∈acc\/j∈l
 | [],acc=>by simp[ext]
 | i::l,acc=>by
  show j∈ext (if i∈acc then acc else acc++[i]) l↔_
  rw[Tf (l:=l)]
  by_cases c:i∈acc
  ·rw[XY c,List.mem_cons]
   constructor
   ·rintro(h | h)
    ·exact .inl h
    ·exact .inr (.inr h)
   ·rintro(h | h | h)
    ·exact .inl h
    ·rw[h];exact .inl c
    ·exact .inr h
  ·rw[XX c,XS,XQ,List.mem_cons,or_assoc]
def Ng {f:Nat->Nat}:∀{l acc:List Nat},(∀a∈acc++l,∀b∈acc++l,f a=f b->a=b)->ext (acc.map f) (l.map f)=(ext acc l).map f
 | [],acc,_=>rfl
 | i::l,acc,h=>by
  show ext (if f i∈acc.map f then acc.map f else acc.map f++[f i]) (l.map f)=(ext (if i∈acc then acc else acc++[i]) l).map f
  by_cases c:i∈acc
  ·rw[XY c,XY (XR.mpr ⟨i,c,rfl⟩)]
   exact Ng λa ha b hb=>h a (by rcases XS.mp ha with x | x;exact List.mem_append_left _ x;exact XT _ (XV _ x)) b (by rcases XS.mp hb with x | x;exact List.mem_append_left _ x;exact XT _ (XV _ x))
  ·have n:f i∉acc.map f:=λz=>by
    obtain⟨a,ha,e⟩:=XR.mp z
    exact c (h a (List.mem_append_left _ ha) i (XT _ (List.mem_cons_self ..)) e▸ha)
   rw[XX c,XX n,show acc.map f++[f i]=(acc++[i]).map f by rw[XL];rfl]
   exact Ng λa ha b hb=>h a (by rw[YL] at ha;exact ha) b (by rw[YL] at hb;exact hb)
def Eu {t:Tr}{R1 R2:List Kd}(h1:Gw t R1)(h2:Gw t R2):R1=R2:=by
 obtain⟨k1,i1⟩:=h1.is
 obtain⟨k2,i2⟩:=h2.is
 obtain⟨θ1,e1⟩:=h1.wide k2 R2 i2
 obtain⟨θ2,e2⟩:=h2.wide k1 R1 i1
 obtain⟨n1,m1⟩:=h1.num
 obtain⟨n2,m2⟩:=h2.num
 have back:∀k∈R1,(k.put θ1).put θ2=k:=λk hk=>by
  have e:R1=R1.map λk=>(k.put θ1).put θ2:=by
   have:=e2
   rw[e1,YE] at this
   exact this
  have g:∀(l m:List Kd) (F:Kd->Kd),l=m.map F->l=m->∀k∈m,F k=k:=by
   intro l m F a b
   subst b
   induction l with
   | nil=>intro k hk;cases hk
   | cons x l ih=>
    rw[YI] at a
    injection a with a1 a2
    intro k hk
    rcases List.mem_cons.mp hk with rfl | hk
    ·exact a1.symm
    ·exact ih a2 k hk
  exact g R1 R1 _ e rfl k hk
 let f:Nat->Nat:=λi=>match θ1 i with | .op j=>j | _=>0
 have fo:∀i∈(R1.map Kd.ops).flatten,θ1 i=.op (f i)/\θ2 (f i)=.op i:=λi hi=>by
  obtain⟨l,hl,hi⟩:=List.mem_flatten.mp hi
  obtain⟨k,hk,rfl⟩:=XR.mp hl
  obtain⟨j,a,b⟩:=Qz k (back k hk) i hi
  have:f i=j:=by show(match θ1 i with | .op j=>j | _=>0)=j;rw[a]
  rw[this]
  exact⟨a,b⟩
 have inj:∀a∈(R1.map Kd.ops).flatten,∀b∈(R1.map Kd.ops).flatten,f a=f b->a=b:=λa ha b hb e=>by
  have x:=(fo a ha).2
  rw[e,(fo b hb).2] at x
  injection x with x
  exact x.symm
 have l2:(R2.map Kd.ops).flatten=((R1.map Kd.ops).flatten).map f:=by
  rw[e1,YE,List.map_flatten,YE]
  congr 1
  refine List.map_congr_left λk hk=>?_
  exact Q0 k λi hi=>(fo i (List.mem_flatten.mpr ⟨_,XR.mpr ⟨k,hk,rfl⟩,hi⟩)).1
 have rr:List.range n2=(List.range n1).map f:=by
  rw[<-m2,l2,<-m1]
  exact Ng (acc:=[]) λa ha b hb=>inj a (by simpa using ha) b (by simpa using hb)
 have nn:n2=n1:=by have:=congrArg List.length rr;simpa using this
 subst nn
 have fid:∀i,i<n2->f i=i:=λi hi=>by
  have:=congrArg (λl:List Nat=>l[i]?) rr
  simp only[List.getElem?_map,List.getElem?_range hi,Option.map_some] at this
  exact(YH this).symm
 rw[e1]
 have id1:R1.map (Kd.put θ1)=R1.map id:=List.map_congr_left λk hk=>N4 k λi hi=>by
  have im:i∈(R1.map Kd.ops).flatten:=List.mem_flatten.mpr ⟨_,XR.mpr ⟨k,hk,rfl⟩,hi⟩
  have il:i<n2:=List.mem_range.mp (by rw[<-m1];exact Tf.mpr (.inr im))
  rw[(fo i im).1,fid i il]
 rw[id1,List.map_id]
end Fn
namespace K24
open PySem PySem.Spec PyProof.Rows L2 WL Fn
section
variable {A:Sd}{C C':Hw}{u:Us}{Q:WK}{χ:WX}{n:Nat}{rows:List Nat}{σ0:Nat->Kd}{pr_:Addr}
def Iu (S:Sl A C u)(o:u.Ok)(hn:u.F.length<=7000)(hσ:Um u σ0)(hrow:C pr_=some (.lst (rows.map nT)))(pf:pr_≠A.f)(pl:pr_≠A.l)(hlt:∀i∈rows,i<u.F.length)(hlen:rows.length<=7000)
  (q:∀C' p M O,Sl A C' u->Fx A C C'->C p=none->C' p=some (.lst (rows.map λi=>Yt (vl M (u.rt i))))->vM u rows M O->O.length<=u.F.length->Q (.ref p) C'):Ye pr (n+4) Hk [.ref A.r,.ref pr_] C Q χ:=by
 refine Ie rfl ?_
 unfold U6 Tp
 intro ra hra
 have S0:=S.new (o:=.dic []) hra
 refine⟨Yv (by show 0<=_;omega),λoa hoa=>?_⟩
 have nro:ra≠oa:=λe=>by rw[<-e,Ze] at hoa;cases hoa
 have hoa0:C oa=none:=by rw[Zg nro.symm] at hoa;exact hoa
 have S1:=S0.new (o:=.lst []) hoa
 have K1:∀{c:Addr} {w:O},C c=some w->up (up C ra (.dic [])) oa (.lst []) c=some w:=λe=>by rw[Zg (J1 e hoa0),Zg (J1 e hra)];exact e
 have R1:up (up C ra (.dic [])) oa (.lst []) ra=some (.dic []):=by rw[Zg nro];exact Ze
 have O1:up (up C ra (.dic [])) oa (.lst []) oa=some (.lst []):=Ze
 generalize up (up C ra (.dic [])) oa (.lst [])=C1 at S1 K1 R1 O1
 have oaf:=S.off hoa0
 have raf:=S.off hra
 have pro:pr_≠ra/\pr_≠oa:=⟨J1 hrow hra,J1 hrow hoa0⟩
 refine⟨_,rfl,_,K1 hrow,?_⟩
 refine Hu (λi τ C'=>∃v4 M O kv,τ=[some (.ref A.r),some (.ref pr_),some (.ref ra),some (.ref oa),v4]/\Sl A C' u/\(∀c w,c≠A.f->c≠A.l->C c=some w->C' c=some w)/\C' ra=some (.dic kv)/\DM kv M u.F.length/\C' oa=some (.lst (O.map nT))/\(O.Nodup/\∀q∈O,q<u.F.length/\M q≠none)/\
  vM u (rows.take i) M O) ⟨_,(λ_=>none),[],[],rfl,S1,λc w _ _ e=>K1 e,R1,⟨λq=>rfl,[],rfl,List.nodup_nil,λq h=>(by cases h)⟩,O1,⟨List.nodup_nil,λq h=>(by cases h)⟩,jc,λi h=>(by cases h),rfl⟩ (λi τ C' _ h=>by obtain⟨_,_,_,_,_,_,h,_⟩:=h;exact h _ _ pf pl hrow) ?_ ?_
 ·rintro i x τ C2 N hx ⟨v4,M,O,kv,rfl,S2,K2,R2,dm2,O2,ol2,T2⟩ hN
  rw[XM] at hx
  obtain⟨s,hs,rfl⟩:∃s,rows[i]?=some s/\nT s=x:=by
   cases z:rows[i]? with
   | none=>rw[z] at hx;cases hx
   | some p=>rw[z] at hx;exact⟨p,rfl,YH hx⟩
  have sl:=hlt s (List.mem_of_getElem? hs)
  obtain⟨_,_,S20⟩:=id S2
  refine⟨_,rfl,_,rfl,_,_,_,_,rfl,S20.r,rfl,rfl,_,rfl,?_⟩
  dsimp only[Zw]
  refine Vq (n:=n+2) S2 sl λC3 S3 F3=>?_
  refine⟨_,rfl,_,rfl,?_⟩
  dsimp only[Zw]
  have R3:=F3 _ _ raf.2.1 raf.2.2 R2
  have O3:=F3 _ _ oaf.2.1 oaf.2.2 O2
  obtain⟨k,M',O',B',run,gone⟩:=sC (μ:=λq=>(σ0 q).sz) o (j2 o hσ) ((σ0 (u.rt s)).sz+1) (u.rt s) [] M O [] (Nat.lt_succ_self _) (o.lt s sl) (o.id s sl) T2.rd (λq h=>by cases h)
  refine Iw (n:=n) S3 o hn (o.lt s sl) (o.id s sl) R3 dm2 O3 oaf.2.1 oaf.2.2 ol2 run λC4 kv4 S4 F4 R4 dm4 O4 ol4=>?_
  obtain⟨kk,g1,g2⟩:=gone.here
  refine hN _ _ ⟨_,M',O',kv4,rfl,S4,λc w m1 m2 e=>?_,R4,dm4,O4,ol4,gone.rd,λj hj=>?_,?_⟩
  ·exact F4 c w m1 m2 (J1 e hra) (J1 e hoa0) (F3 c w m1 m2 (K2 c w m1 m2 e))
  ·rw[YD,hs] at hj
   rcases XS.mp hj with hj | hj
   ·cases z:M (u.rt j) with
    | none=>exact absurd z (T2.all j hj)
    | some k0=>rw[gone.keep _ k0 z];intro y;cases y
   ·rw[XQ.mp hj,g1];intro y;cases y
  ·rw[YD,hs]
   show ext [] ((rows.take i++[s]).map _).flatten=_
   rw[XL,List.flatten_append,W6]
   have e1:(rows.take i).map (λi=>(vl M' (u.rt i)).ops)=(rows.take i).map λi=>(vl M (u.rt i)).ops:=List.map_congr_left λj hj=>by
    cases z:M (u.rt j) with
    | none=>exact absurd z (T2.all j hj)
    | some k0=>unfold vl;rw[gone.keep _ k0 z,z]
   rw[e1,T2.num]
   have e2:vl M' (u.rt s)=kk:=by unfold vl;rw[g1];rfl
   show ext _ ([(vl M' (u.rt s)).ops].flatten)=_
   rw[e2,List.flatten_cons,List.flatten_nil,YK]
   exact g2
 ·rintro τ C2 ⟨v4,M,O,kv,rfl,S2,K2,R2,dm2,O2,ol2,T2⟩
  rw[XI,List.take_length] at T2
  have row2:=K2 _ _ pf pl hrow
  refine⟨_,rfl,_,row2,?_⟩
  refine Xp (λi acc C'=>Sl A C' u/\Fx A C2 C'/\acc=(rows.take i).map λi=>Yt (vl M (u.rt i))) ⟨S2,Fx.refl _ _,rfl⟩ (λi acc C' _ h=>h.2.1 _ _ pf pl row2) ?_ ?_
  ·rintro i x acc C3 N hx ⟨S3,F3,rfl⟩ hN
   rw[XM] at hx
   obtain⟨s,hs,rfl⟩:∃s,rows[i]?=some s/\nT s=x:=by
    cases z:rows[i]? with
    | none=>rw[z] at hx;cases hx
    | some p=>rw[z] at hx;exact⟨p,rfl,YH hx⟩
   have sm:=List.mem_of_getElem? hs
   have sl:=hlt s sm
   obtain⟨_,_,S30⟩:=id S3
   refine Z2 (q:=N ((rows.take i).map λi=>Yt (vl M (u.rt i))) C3) ⟨_,rfl,_,rfl,_,_,_,_,rfl,S30.r,rfl,rfl,_,rfl,?_⟩
   dsimp only[Zw]
   refine Vq (n:=n+2) S3 sl λC4 S4 F4=>?_
   have hi:i<rows.length:=(List.getElem?_eq_some_iff.mp hs).1
   cases z:M (u.rt s) with
   | none=>exact absurd z (T2.all s sm)
   | some k0=>
    have ev:vl M (u.rt s)=k0:=by unfold vl;rw[z];rfl
    refine⟨_,_,_,_,rfl,rfl,.inl (F4 _ _ raf.2.1 raf.2.2 (F3 _ _ raf.2.1 raf.2.2 R2)),by rw[show Yl kv (Sum.inl ((u.rt s:Nat):Int))=_ from dm2.1 (u.rt s),z];rfl,⟨Yj (by rw[XI,YM];omega),hN _ _ ⟨S4,F3.trans F4,?_⟩⟩⟩
    rw[YD,hs,XL]
    show _=_++[Yt (vl M (u.rt s))]
    rw[ev]
  ·rintro acc C3 ⟨S3,F3,rfl⟩ p hp
   rw[XI,List.take_length]
   have FC:Fx A C C3:=λc w m1 m2 e=>F3 c w m1 m2 (K2 c w m1 m2 e)
   exact q _ p M O (S3.new hp) (Vt S3 FC hp) (Ti S3 FC hp) Ze T2 (Ve _ _ ol2.1 λx hx=>(ol2.2 x hx).1)
end
end K24
namespace Fn
open PySem WL
def No {θ:Nat->Kd}{xs:List Str}{ks:List Kd}{G:Ev}:bnd xs (ks.map (Kd.put θ)) (λx=>(G x).map (Kd.put θ))=λx=>(bnd xs ks G x).map (Kd.put θ):=Av
def lC (θ:Nat->Kd)(c:Ev×Tr×Kd):Ev×Tr×Kd:=(λx=>(c.1 x).map (Kd.put θ),c.2.1,c.2.2.put θ)
def jb {θ:Nat->Kd}{t:Tr}{G:Ev}{k:Kd}{cs:List (Ev×Tr×Kd)}(h:Y1 t G k cs):Y1 t (λx=>(G x).map (Kd.put θ)) (k.put θ) (cs.map (lC θ)):=by
 cases h with
 | num=>exact .num
 | nm h=>exact .nm (by show(G _).map _=_;rw[h];rfl)
 | stop=>exact .stop
 | does=>exact .does
 | @fn x b _ p r=>
  have:=Y1.fn (x:=x) (b:=b) (G:=λx=>(G x).map (Kd.put θ)) (p:=p.put θ) (r:=r.put θ)
  rw[show[p.put θ]=[p].map (Kd.put θ) from rfl,No] at this
  exact this
 | call=>exact .call
 | first=>exact .first
 | @lt n xs ts b _ _ ks=>
  have:=Y1.lt (xs:=xs) (ts:=ts) (b:=b) (G:=λx=>(G x).map (Kd.put θ)) (k:=k.put θ) (ks:=λi=>(ks i).put θ)
  rw[show(List.finRange n).map (λi=>(ks i).put θ)=((List.finRange n).map ks).map (Kd.put θ) by rw[YE];rfl,No] at this
  rw[XL,YE]
  exact this
 | nil=>exact .nil
 | no=>exact .no
 | yes=>exact .yes
 | cons=>exact .cons
 | pair=>exact .pair
 | chT=>exact .chT
 | @chL a n x y c _ _ p=>
  have:=Y1.chL (a:=a) (n:=n) (x:=x) (y:=y) (c:=c) (G:=λx=>(G x).map (Kd.put θ)) (k:=k.put θ) (p:=p.put θ)
  rw[show[p.put θ,Xm (p.put θ)]=[p,Xm p].map (Kd.put θ) from rfl,No] at this
  exact this
 | @chP a x y b _ _ p q=>
  have:=Y1.chP (a:=a) (x:=x) (y:=y) (b:=b) (G:=λx=>(G x).map (Kd.put θ)) (k:=k.put θ) (p:=p.put θ) (q:=q.put θ)
  rw[show[p.put θ,q.put θ]=[p,q].map (Kd.put θ) from rfl,No] at this
  exact this
mutual
def HT.put {θ:Nat->Kd}{G:Ev}{t:Tr}{k:Kd}{R:List Kd}:HT G t k R->HT (λx=>(G x).map (Kd.put θ)) t (k.put θ) (R.map (Kd.put θ))
 | .mk a b=>.mk (jb a) (HTs.put b)
def HTs.put {θ:Nat->Kd}{cs:List (Ev×Tr×Kd)}{R:List Kd}:HTs cs R->HTs (cs.map (lC θ)) (R.map (Kd.put θ))
 | .nil=>.nil
 | .cons a b=>by rw[XL];exact .cons (HT.put a) (HTs.put b)
end
def HT.put0 {θ:Nat->Kd}{t:Tr}{k:Kd}{R:List Kd}(h:HT G0 t k R):HT G0 t (k.put θ) (R.map (Kd.put θ)):=HT.put h
def Of (R:List Kd):List Nat:=ext [] (R.map Kd.ops).flatten
def Ln (R:List Kd):List Kd:=R.map (Kd.put λi=>.op ((Of R).idxOf i))
def jU:∀{l acc:List Nat},acc.Nodup->(ext acc l).Nodup
 | [],_,h=>h
 | i::l,acc,h=>by
  show(ext (if i∈acc then acc else acc++[i]) l).Nodup
  refine jU ?_
  split
  ·exact h
  ·rename_i c
   exact List.nodup_append.mpr ⟨h,List.nodup_cons.mpr ⟨List.not_mem_nil,List.nodup_nil⟩,λa ha b hb=>by rw[XQ.mp hb];exact λe=>c (e▸ha)⟩
def Ha {R:List Kd}{k:Kd}(h:k∈R){i:Nat}(hi:i∈k.ops):i∈Of R:=Tf.mpr (.inr (List.mem_flatten.mpr ⟨_,XR.mpr ⟨k,h,rfl⟩,hi⟩))
def Qy {θ η:Nat->Kd}:∀k:Kd,(k.put θ).put η=k.put λi=>(θ i).put η
 | .op _=>rfl
 | .k0 _=>rfl
 | .k1 g a=>by show Kd.k1 g _=Kd.k1 g _;rw[Qy a]
 | .k2 g a b=>by show Kd.k2 g _ _=Kd.k2 g _ _;rw[Qy a,Qy b]
def X4 {θ η:Nat->Kd}:∀k:Kd,(∀i∈k.ops,θ i=η i)->k.put θ=k.put η
 | .op n,h=>h n (by simp[Kd.ops])
 | .k0 _,_=>rfl
 | .k1 g a,h=>by show Kd.k1 g _=Kd.k1 g _;rw[X4 a h]
 | .k2 g a b,h=>by show Kd.k2 g _ _=Kd.k2 g _ _;rw[X4 a λi hi=>h i (List.mem_append_left _ hi),X4 b λi hi=>h i (XT _ hi)]
def B5 {R:List Kd}:ext [] ((Ln R).map Kd.ops).flatten=List.range (Of R).length:=by
 have nd:(Of R).Nodup:=jU List.nodup_nil
 have inj:∀a∈Of R,∀b∈Of R,(Of R).idxOf a=(Of R).idxOf b->a=b:=λa ha b hb e=>by
  have h1:=List.idxOf_lt_length_of_mem ha
  have e1:(Of R)[(Of R).idxOf a]'h1=a:=List.getElem_idxOf h1
  have h2:=List.idxOf_lt_length_of_mem hb
  have e2:(Of R)[(Of R).idxOf b]'h2=b:=List.getElem_idxOf h2
  rw[<-e1,<-e2]
  congr 1
 have e:((Ln R).map Kd.ops).flatten=((R.map Kd.ops).flatten).map λi=>(Of R).idxOf i:=by
  unfold Ln
  rw[YE,List.map_flatten,YE]
  congr 1
  exact List.map_congr_left λk hk=>Q0 k λi hi=>rfl
 rw[e]
 have:=Ng (f:=λi=>(Of R).idxOf i) (acc:=[]) (l:=(R.map Kd.ops).flatten) λa ha b hb=>inj a (Tf.mpr (.inr (by simpa using ha))) b (Tf.mpr (.inr (by simpa using hb)))
 rw[List.map_nil] at this
 rw[this]
 show(Of R).map _=_
 refine List.ext_getElem (by simp) λi h1 h2=>?_
 simp only[List.getElem_map,List.getElem_range]
 exact nd.idxOf_getElem i (by simpa using h1)
def xu {t:Tr}{R:List Kd}(h:∃k,HT G0 t k R)(w:∀k' R',HT G0 t k' R'->∃θ,R'=R.map (Kd.put θ)):Gw t (Ln R):=by
 refine⟨?_,λk' R' hR=>?_,⟨_,B5⟩⟩
 ·obtain⟨k,hk⟩:=h
  exact⟨_,HT.put0 hk⟩
 ·obtain⟨θ,rfl⟩:=w k' R' hR
  refine⟨λj=>θ ((Of R)[j]?.getD 0),?_⟩
  unfold Ln
  rw[YE]
  refine List.map_congr_left λk hk=>?_
  show k.put θ=(k.put _).put _
  rw[Qy]
  refine X4 k λi hi=>?_
  show θ i=θ ((Of R)[(Of R).idxOf i]?.getD 0)
  have h1:=List.idxOf_lt_length_of_mem (Ha hk hi)
  rw[List.getElem?_eq_getElem h1,List.getElem_idxOf h1];rfl
def jy {R:List Kd}{n:Nat}(h:ext [] (R.map Kd.ops).flatten=List.range n):Ln R=R:=by
 unfold Ln
 have e:Of R=List.range n:=h
 have:R.map (Kd.put λi=>.op ((Of R).idxOf i))=R.map id:=List.map_congr_left λk hk=>N4 k λi hi=>by
  have hm:=Ha hk hi
  rw[e] at hm |-
  have hi:=List.mem_range.mp hm
  congr 1
  have:=(List.nodup_range (n:=n)).idxOf_getElem i (by simpa using hi)
  simpa using this
 rw[this,List.map_id]
def Cd:Nat->List Str->Tr->Prop
 | 0,_,_=>False
 | m+1,bs,t=>(∀x,t=.nm x->x∈bs)/\∀z∈t.scs,Cd m (bs++z.1) z.2
abbrev mO:=List (List Kd×Kd)
def vf (t:Tr)(ks:mO)(G:Ev):List (Ev×Tr×Kd):=(t.scs.zip ks).map λz=>(bnd z.1.1 z.2.1 G,z.1.2,z.2.2)
def ot (t:Tr)(ks:mO):Prop:=∀z∈t.scs.zip ks,z.1.1.length=z.2.1.length
def jB {m:Nat}{xs:Fin m->Str}{ts:Fin m->Tr}{b:Tr}{k:Kd}{ks:Fin m->Kd}{G:Ev}:vf (.lt m xs ts b) (((List.finRange m).map λi=>((List.finRange m).map ks,ks i))++[((List.finRange m).map ks,k)]) G=
  ((List.finRange m).map λi=>(bnd (Ui xs) ((List.finRange m).map ks) G,ts i,ks i))++[(bnd (Ui xs) ((List.finRange m).map ks) G,b,k)]:=by
 unfold vf Tr.scs
 rw[List.zip_append (by rw[XI,XI]),XL,List.zip_map',YE]
 rfl
def zr {t:Tr}{G:Ev}{k:Kd}{cs:List (Ev×Tr×Kd)}(h:Y1 t G k cs):
  ∃ks:mO,cs=vf t ks G/\ot t ks/\∀G':Ev,(∀x,t=.nm x->G' x=G x)->Y1 t G' k (vf t ks G'):=by
 cases h with
 | num=>exact⟨[],rfl,λz h=>(by cases h),λG' _=>.num⟩
 | nm h=>exact⟨[],rfl,λz h=>(by cases h),λG' e=>.nm ((e _ rfl).trans h)⟩
 | stop=>exact⟨[],rfl,λz h=>(by cases h),λG' _=>.stop⟩
 | nil=>exact⟨[],rfl,λz h=>(by cases h),λG' _=>.nil⟩
 | no=>exact⟨[],rfl,λz h=>(by cases h),λG' _=>.no⟩
 | yes=>exact⟨[],rfl,λz h=>(by cases h),λG' _=>.yes⟩
 | does=>exact⟨[([],Jm),([],Jm)],rfl,λz h=>(by simp[Tr.scs] at h;rcases h with rfl | rfl<;>rfl),λG' _=>.does⟩
 | @fn x b _ p r=>exact⟨[([p],r)],rfl,λz h=>(by simp[Tr.scs] at h;rw[h];rfl),λG' _=>.fn⟩
 | @call a b _ _ p=>exact⟨[([],Gz p k),([],p)],rfl,λz h=>(by simp[Tr.scs] at h;rcases h with rfl | rfl<;>rfl),λG' _=>.call⟩
 | @first a b _ _ p=>exact⟨[([],p),([],k)],rfl,λz h=>(by simp[Tr.scs] at h;rcases h with rfl | rfl<;>rfl),λG' _=>.first⟩
 | @lt n xs ts b _ _ ks=>
  refine⟨_,jB.symm,λz h=>?_,λG' _=>by rw[jB];exact .lt⟩
  unfold Tr.scs at h
  rw[List.zip_append (by rw[XI,XI]),List.zip_map'] at h
  rcases XS.mp h with h | h
  ·obtain⟨i,_,rfl⟩:=List.mem_map.mp h;simp
  ·rw[List.mem_singleton.mp h];simp
 | @cons a b _ p=>exact⟨[([],p),([],Xm p)],rfl,λz h=>(by simp[Tr.scs] at h;rcases h with rfl | rfl<;>rfl),λG' _=>.cons⟩
 | @pair a b _ p q=>exact⟨[([],p),([],q)],rfl,λz h=>(by simp[Tr.scs] at h;rcases h with rfl | rfl<;>rfl),λG' _=>.pair⟩
 | chT=>exact⟨[([],Mh),([],k),([],k)],rfl,λz h=>(by simp[Tr.scs] at h;rcases h with rfl | rfl | rfl<;>rfl),λG' _=>.chT⟩
 | @chL a n x y c _ _ p=>exact⟨[([],Xm p),([],k),([p,Xm p],k)],rfl,λz h=>(by simp[Tr.scs] at h;rcases h with rfl | rfl | rfl<;>rfl),λG' _=>.chL⟩
 | @chP a x y b _ _ p q=>exact⟨[([],Lc p q),([p,q],k)],rfl,λz h=>(by simp[Tr.scs] at h;rcases h with rfl | rfl<;>rfl),λG' _=>.chP⟩
def sW {x:Str}{xs:List Str}{ks:List Kd}(hl:xs.length=ks.length)(hx:x∈xs){G G':Ev}:bnd xs ks G x=bnd xs ks G' x:=by
 unfold bnd
 cases e:(xs.zip ks).reverse.lookup x with
 | some k=>rfl
 | none=>
  exfalso
  obtain⟨i,hi,rfl⟩:=List.getElem_of_mem hx
  have hm:(xs[i],ks[i]'(by omega))∈(xs.zip ks).reverse:=by
   rw[List.mem_reverse]
   exact List.mem_of_getElem? (List.getElem?_zip_eq_some.mpr ⟨List.getElem?_eq_getElem hi,List.getElem?_eq_getElem (by omega)⟩)
  have none_of:∀l:List (Str×Kd),l.lookup xs[i]=none->∀y∈l,y.1≠xs[i]:=by
   intro l
   induction l with
   | nil=>intro _ y hy;cases hy
   | cons p l ih=>
    intro h y hy
    obtain⟨a,b⟩:=p
    rw[List.lookup_cons] at h
    by_cases c:(xs[i]==a)=true
    ·rw[c] at h;cases h
    ·rw[Bool.not_eq_true] at c
     rw[c] at h
     rcases List.mem_cons.mp hy with rfl | hy
     ·exact λz=>(beq_eq_false_iff_ne.mp c) z.symm
     ·exact ih h y hy
  exact none_of _ e _ hm rfl
def vA {x:Str}{xs:List Str}{ks:List Kd}{G G':Ev}(h:G x=G' x):bnd xs ks G x=bnd xs ks G' x:=by
 unfold bnd
 cases (xs.zip ks).reverse.lookup x with
 | some k=>rfl
 | none=>exact h
def xG:∀(m:Nat) (bs:List Str) (t:Tr) (G G':Ev) (k:Kd) (R:List Kd),Cd m bs t->(∀x∈bs,G x=G' x)->HT G t k R->HT G' t k R
 | 0,_,_,_,_,_,_,h,_,_=>h.elim
 | m+1,bs,t,G,G',k,R,hc,hg,h=>by
  cases h with
  | @mk _ _ _ cs rs a b=>
   obtain⟨ks,rfl,ln,f⟩:=zr a
   refine .mk (f G' λx e=>(hg x (hc.1 x e)).symm) ?_
   have go:∀(l:List ((List Str×Tr)×(List Kd×Kd))) (rs:List Kd),(∀z∈l,z.1∈t.scs/\z.1.1.length=z.2.1.length)->HTs (l.map λz=>(bnd z.1.1 z.2.1 G,z.1.2,z.2.2)) rs->HTs (l.map λz=>(bnd z.1.1 z.2.1 G',z.1.2,z.2.2)) rs:=by
    intro l
    induction l with
    | nil=>intro rs _ h;exact h
    | cons z l ih=>
     intro rs hz h
     rw[YI] at h |-
     cases h with
     | cons a b=>
      obtain⟨z1,z2⟩:=hz z (List.mem_cons_self ..)
      refine .cons (xG m (bs++z.1.1) z.1.2 _ _ _ _ (hc.2 z.1 z1) (λx hx=>?_) a) (ih _ (λy hy=>hz y (XV _ hy)) b)
      rcases XS.mp hx with hx | hx
      ·exact vA (hg x hx)
      ·exact sW z2 hx
   exact go _ rs (λz hz=>⟨(List.of_mem_zip (show(z.1,z.2)∈t.scs.zip ks from hz)).1,ln z hz⟩) b
def M6 {m:Nat}{t:Tr}{G G':Ev}{k:Kd}{R:List Kd}(hc:Cd m [] t)(h:HT G t k R):HT G' t k R:=xG m [] t G G' k R hc (λx hx=>by cases hx) h
end Fn
namespace K24
open PySem PySem.Spec PyProof.Rows L2 WL Fn
section
variable {C C':Hw}{Q:WK}{χ:WX}{d:Addr}{t:Tr}
def Fi:∀(m n:Nat) (bs:List Str) (t:Tr) (C:Hw) {Q:WK} {χ:WX},Cd m bs t->t.lok->bs.length+10*m<=10000->C d=some (.dic [])->(∀C',Ex C C'->Q .non C')->Ye pr (n+m+2) Lo [tt t,.tup (bs.map T.str),.ref d] C Q χ
 | 0,_,_,_,_,_,_,h,_,_,_,_=>h.elim
 | m+1,n,bs,t,C,Q,χ,hc,hl,hb,hd,q=>by
  refine Lh (n:=n+m+2) rfl ?_
  unfold V7 Uo
  obtain⟨l1,l2⟩:=Hf hl
  obtain⟨e,sc⟩:=vW t l1
  have loop:∀D:We,D.nx=(λ_ C'=>Q .non C')->D.xc=χ->wz (jJ (Sv (Ye pr (n+m+2)) 0 (Ya (Y0 0) Zw))) (oE (Oa (zO 3) (Oa (zO 4) Eg))) (Fj (Sv (Ye pr (n+m+2)) 4 (Ya (Y0 4) (Ya (Wi G2 (Y0 1) (Y0 3)) (Ya (Y0 2) Zw))))) D
    [some (tt t),some (.tup (bs.map T.str)),some (.ref d),none,none] C:=by
   intro D hnx hxc
   refine⟨_,rfl,?_⟩
   dsimp only[Zw]
   refine Fc (n:=n+m) sc λk C1 x1 hk0 hk1=>⟨_,hk1,?_⟩
   refine Hu (λi τ C'=>∃v3 v4,τ=[some (tt t),some (.tup (bs.map T.str)),some (.ref d),v3,v4]/\Ex C1 C') ⟨_,_,rfl,Ex.refl _⟩ (λi τ C' _ h=>by obtain⟨_,_,_,h⟩:=h;exact h _ _ hk1) ?_ ?_
   ·rintro i x τ C2 N hx ⟨v3,v4,rfl,x2⟩ hN
    rw[XM,XM] at hx
    obtain⟨z,hz,rfl⟩:∃z,t.scs[i]?=some z/\vX (sS z)=x:=by
     cases y:t.scs[i]? with
     | none=>rw[y] at hx;cases hx
     | some p=>rw[y] at hx;exact⟨p,rfl,YH hx⟩
    have zm:=List.mem_of_getElem? hz
    have z10:=yT t l1 z zm
    refine⟨_,rfl,_,_,rfl,_,_,rfl,rfl,?_⟩
    refine⟨_,rfl,_,rfl,_,rfl,by rw[XI,XI];exact Yv (by omega),_,rfl,?_⟩
    dsimp only[Zw]
    rw[<-XL]
    rw[hxc]
    exact Fi m n (bs++z.1) z.2 C2 (hc.2 z zm) (l2 z zm) (by rw[List.length_append];omega) (x2 _ _ (x1 _ _ hd)) λC3 x3=>hN _ _ ⟨_,_,rfl,x2.trans x3⟩
   ·rintro τ C2 ⟨v3,v4,rfl,x2⟩
    rw[hnx]
    exact q C2 (x1.trans x2)
  cases hn:Tr.isNm t with
  | true=>
   cases t with
   | nm x=>
    have hx:=hc.1 x rfl
    refine⟨_,rfl,_,Z4,Zt (v:=true) (by decide+kernel) ⟨_,rfl,Z2 ⟨_,rfl,_,V5,_,rfl,by unfold Yz Je;rfl,Ci,⟨_,rfl,Oi (by rw[XY rfl,jH,decide_eq_true hx];rfl) ?_⟩⟩⟩⟩
    exact loop _ rfl rfl
   | _=>cases hn
  | false=>
   obtain⟨wd,r,et,hw⟩:∃(wd:Str) (r:List T),tt t=.tup (.str wd::r)/\(wd=="name")=false:=by
    cases t with
    | nm x=>cases hn
    | _=>exact⟨_,_,rfl,by decide+kernel⟩
   rw[et] at loop |-
   exact⟨_,rfl,_,Z4,Zt (v:=false) hw ⟨_,rfl,Zj (Zj (loop _ rfl rfl))⟩⟩
def uI {m N:Nat}(hN:m+3<=N)(hc:Cd m [] t)(hl:t.lok)(hm:m<=900)(q:∀p C',Ex C C'->C p=none->C' p=some (.lst [])->Q (.ref p) C'):Ye pr N sB [tt t] C Q χ:=by
 obtain⟨n,rfl⟩:∃n,N=n+m+3:=⟨N-m-3,by omega⟩
 refine uA (n:=n+m+2) rfl ?_
 unfold E9 Bh
 intro d hd
 refine⟨_,rfl,Yv (by show 0<=_;omega),_,rfl,?_⟩
 dsimp only[Zw]
 refine Fi m n [] t _ hc hl (by show 0+_<=_;omega) Ze λC1 x1=>?_
 refine⟨_,rfl,_,[],[],rfl,x1 _ _ Ze,rfl,by decide,λp ys hp pm _=>?_⟩
 have:ys=[]:=List.Perm.eq_nil pm
 subst this
 have x0:Ex C C1:=(Ex.new hd).trans x1
 exact q p _ (x0.trans (Ex.new hp)) (x0.free hp) Ze
def wq {m n:Nat}(hc:Cd m [] t)(hl:t.lok)(hm:m<=900)(hz:t.size<=600)(hco:t.cost<=6000)(hw:∃k R,HT G0 t k R)
  (q:∀C' p R,Ex C C'->C p=none->C' p=some (.lst (R.map Yt))->Gw t R->(∃n,ext [] (R.map Kd.ops).flatten=List.range n/\n<=1+t.cost)->Q (.ref p) C'):Ye pr (n+m+7) Ah [tt t] C Q χ:=by
 refine xT (n:=n+m+6) rfl ?_
 unfold Ib Gv
 refine⟨_,rfl,?_⟩
 dsimp only[Zw]
 refine uI (m:=m) (by omega) hc hl hm λp1 C1 x1 hp1 e1=>?_
 refine⟨_,rfl,Yv (by show 0<=_;omega),λp2 hp2=>?_⟩
 refine Hd (xs:=[]) (by rw[Zg (J1 e1 hp2)];exact e1) Ze ⟨_,rfl,Zj ?_⟩
 have x2:Ex C (up C1 p2 (.lst [])):=x1.trans (Ex.new hp2)
 generalize up C1 p2 (.lst [])=C2 at x2
 show Ye pr (n+m+5+1) 30 [] C2 (λx C1=>Iz (Sv (Ye pr (n+m+6)) 19 (Ya (Y0 2) (Ya (Sv (Ye pr (n+m+6)) 13 (Ya (Y0 2) (Ya (Y0 0) Zw))) Zw))) {nx:=λ_ C'=>Q .non C',rt:=Q,xc:=χ} [some (tt t),some (.ref p1),some x] C1) χ
 refine G5 (n:=n+m+5) (vs:=[]) rfl λsa hsa=>?_
 refine Po (n:=n+m+4) rfl ?_
 unfold Xx X7
 refine⟨Yv (by show 0<=_;omega),λfa hfa=>?_⟩
 have nfs:sa≠fa:=λe=>by rw[<-e,Ze] at hfa;cases hfa
 have hfa0:C2 fa=none:=by rw[Zg nfs.symm] at hfa;exact hfa
 refine⟨_,rfl,_,_,_,rfl,by rw[Zg nfs];exact Ze,.head _,by decide,?_⟩
 refine⟨Yv (by show 0<=_;omega),λla hla=>?_⟩
 have nls:sa≠la:=λe=>by rw[<-e,Ze] at hla;cases hla
 have nlf:fa≠la:=λe=>by rw[<-e,Zg nfs.symm,Ze] at hla;cases hla
 have hla0:C2 la=none:=by rw[Zg nls.symm,Zg nlf.symm,Zg nls.symm] at hla;exact hla
 refine⟨_,rfl,_,_,_,rfl,by rw[Zg nls];exact Ze,.head _,by show 1<1000;decide,?_⟩
 have S0:Sl ⟨sa,fa,la⟩ (up (up (up (up (up C2 sa (.ins "Slots" [])) fa (.lst [])) sa (.ins "Slots" (V1 "forms" (.ref fa) []))) la (.lst [])) sa (.ins "Slots" (V1 "leads" (.ref la) (V1 "forms" (.ref fa) [])))) ⟨id,[]⟩:=by
  refine⟨λ_=>0,[],⟨?_,?_,?_,⟨rfl,λx y h=>by simp at h⟩,nlf⟩⟩
  ·rw[Ze];rfl
  ·show up _ _ _ fa=_
   rw[Zg nfs.symm,Zg nlf,Zg nfs.symm,Ze];rfl
  ·show up _ _ _ la=_
   rw[Zg nls.symm,Ze];rfl
 have x3:Ex C2 (up (up (up (up (up C2 sa (.ins "Slots" [])) fa (.lst [])) sa (.ins "Slots" (V1 "forms" (.ref fa) []))) la (.lst [])) sa (.ins "Slots" (V1 "leads" (.ref la) (V1 "forms" (.ref fa) [])))):=λc w h=>by
  rw[Zg (J1 h hsa),Zg (J1 h hla0),Zg (J1 h hsa),Zg (J1 h hfa0),Zg (J1 h hsa)];exact h
 generalize up (up (up (up (up C2 sa (.ins "Slots" [])) fa (.lst [])) sa (.ins "Slots" (V1 "forms" (.ref fa) []))) la (.lst [])) sa (.ins "Slots" (V1 "leads" (.ref la) (V1 "forms" (.ref fa) [])))=C3 at S0 x3
 refine⟨rfl,?_⟩
 refine⟨_,rfl,_,rfl,_,rfl,?_⟩
 dsimp only[Zw]
 refine zp (n:=n+m) hl hz hco hw S0 λC4 p4 u4 rows S4 F4 hp4 P4 K4=>?_
 obtain⟨k0,R0,h0⟩:=hw
 obtain⟨σ0,_,s0,_,_⟩:=K4.co k0 R0 h0
 have pf:=S0.off hp4
 have ln:=K4.len
 have sz:=K4.sz
 refine Iu (n:=n+m+2) (σ0:=σ0) S4 K4.o (by omega) s0 P4 pf.2.1 pf.2.2 K4.rl (by omega) λC5 p5 M O S5 F5 hp5 P5 T5 oL=>?_
 have x4:Ex C C4:=λc w h=>by
  have h3:=x3 _ _ (x2 _ _ h)
  have nf:c≠fa:=J1 (x2 _ _ h) hfa0
  have nl:c≠la:=J1 (x2 _ _ h) hla0
  exact F4 c w nf nl h3
 have xx:Ex C C5:=λc w h=>F5 c w (J1 (x2 _ _ h) hfa0) (J1 (x2 _ _ h) hla0) (x4 c w h)
 exact q C5 p5 (rows.map λi=>vl M (u4.rt i)) xx (x4.free hp5) (by rw[YE];exact P5) (zi K4 s0 T5) ⟨O.length,by rw[<-T5.num,YE];rfl,by omega⟩
end
end K24
namespace Fn
open PySem WL
def HT.head {G:Ev}{t:Tr}{k:Kd}{R:List Kd}(h:HT G t k R):∃R',R=k::R':=by cases h;exact⟨_,rfl⟩
def HTs.two {c d:Ev×Tr×Kd}{R:List Kd}(h:HTs [c,d] R):∃r s,R=r++s/\HT c.1 c.2.1 c.2.2 r/\HT d.1 d.2.1 d.2.2 s:=by
 cases h with
 | cons a b=>
  cases b with
  | cons b e=>cases e;exact⟨_,_,by rw[YK],a,b⟩
def HTs.one {c:Ev×Tr×Kd}{R:List Kd}(h:HTs [c] R):HT c.1 c.2.1 c.2.2 R:=by
 cases h with
 | cons a b=>cases b;rw[YK];exact a
def HTs.mk2 {G H:Ev}{t s:Tr}{k l:Kd}{r q:List Kd}(a:HT G t k r)(b:HT H s l q):HTs [(G,t,k),(H,s,l)] (r++q):=by
 have:=HTs.cons a (HTs.cons b HTs.nil)
 rw[YK] at this
 exact this
def HTs.mk1 {G:Ev}{t:Tr}{k:Kd}{r:List Kd}(a:HT G t k r):HTs [(G,t,k)] r:=by
 have:=HTs.cons a HTs.nil
 rw[YK] at this
 exact this
def jt (θ1 θ2:Nat->Kd)(s:Kd):Nat->Kd:=λi=>if i<1000 then θ1 i else if i<2000 then θ2 (i-1000) else s
abbrev Si:Kd->Kd:=Kd.put λi=>.op (i+1000)
def om (R:List Kd):Prop:=∀k∈R,∀i∈k.ops,i<1000
section
variable {θ1 θ2:Nat->Kd}{s:Kd}{R R1 R2:List Kd}{t1 t2:Tr}{m:Nat}{z:Str}
def kr (h:om R):R.map (Kd.put (jt θ1 θ2 s))=R.map (Kd.put θ1):=List.map_congr_left λk hk=>X4 k λi hi=>XY (h k hk i hi)
def kq (h:om R):(R.map Si).map (Kd.put (jt θ1 θ2 s))=R.map (Kd.put θ2):=by
 rw[YE]
 refine List.map_congr_left λk hk=>?_
 show(k.put _).put _=_
 rw[Qy]
 refine X4 k λi hi=>?_
 have:=h k hk i hi
 show jt θ1 θ2 s (i+1000)=θ2 i
 unfold jt
 rw[XX (by omega),XY (by omega)]
 congr 1
structure yd (m:Nat)(t1 t2:Tr)(R1 R2:List Kd):Prop where
 c1:Cd m [] t1
 c2:Cd m [] t2
 b1:Gw t1 R1
 b2:Gw t2 R2
 l1:om R1
 l2:om R2
def Ez (t:Tr)(R:List Kd):Prop:=(∃k,HT G0 t k R)/\∀k' R',HT G0 t k' R'->∃θ,R'=R.map (Kd.put θ)
def yd.h (T:yd m t1 t2 R1 R2):∃k1 r1 k2 r2,R1=k1::r1/\R2.map Si=k2::r2/\(∀G,HT G t1 k1 R1)/\(∀G,HT G t2 k2 (R2.map Si)):=by
 obtain⟨k1,h1⟩:=T.b1.is
 obtain⟨k2,h2⟩:=T.b2.is
 have h2:=HT.put0 (θ:=λi=>.op (i+1000)) h2
 obtain⟨r1,e1⟩:=h1.head
 obtain⟨r2,e2⟩:=h2.head
 exact⟨k1,r1,_,r2,e1,e2,λG=>M6 T.c1 h1,λG=>M6 T.c2 h2⟩
def yd.w (T:yd m t1 t2 R1 R2){G H:Ev}{p q s:Kd}{r1 r2:List Kd}(a:HT G t1 p r1)(b:HT H t2 q r2):∃θ,r1=R1.map (Kd.put θ)/\r2=(R2.map Si).map (Kd.put θ)/\θ 1000000=s:=by
 obtain⟨θ1,e1⟩:=T.b1.wide p r1 (M6 T.c1 a)
 obtain⟨θ2,e2⟩:=T.b2.wide q r2 (M6 T.c2 b)
 exact⟨jt θ1 θ2 s,by rw[kr T.l1];exact e1,by rw[kq T.l2];exact e2,by unfold jt;rw[XX (by decide),XX (by decide)]⟩
def Ry {k p:Kd}{r R':List Kd}{G:Ev}{t:Tr}{θ:Nat->Kd}(h:HT G t p R')(e:R'=(k::r).map (Kd.put θ)):p=k.put θ:=by
 obtain⟨_,e2⟩:=h.head
 rw[e2] at e
 injection e
def oY (T:yd m t1 t2 R1 R2){k1 k2:Kd}{r1 r2:List Kd}(e1:R1=k1::r1)(e2:R2.map Si=k2::r2)(h1:∀G,HT G t1 k1 R1)(h2:∀G,HT G t2 k2 (R2.map Si)):Ez (.sh2 "Pair" t1 t2) (Lc k1 k2::(R1++R2.map Si)):=by
 refine⟨⟨_,.mk .pair (.mk2 (h1 _) (h2 _))⟩,λk' R' h=>?_⟩
 cases h with
 | mk a b=>
  cases a with
  | @pair _ _ _ p q=>
   obtain⟨s1,s2,rfl,x,y⟩:=b.two
   obtain⟨θ,f1,f2,_⟩:=T.w (s:=Jm) x y
   refine⟨θ,?_⟩
   rw[YI,XL,<-f1,<-f2]
   show _=Lc (k1.put θ) (k2.put θ)::_
   rw[<-Ry x (e1▸f1),<-Ry y (e2▸f2)]
def oX (T:yd m t1 t2 R1 R2){k1 k2:Kd}{r1 r2:List Kd}(e1:R1=k1::r1)(e2:R2.map Si=k2::r2)(h1:∀G,HT G t1 k1 R1)(h2:∀G,HT G t2 k2 (R2.map Si)):Ez (.first t1 t2) (k2::(R1++R2.map Si)):=by
 refine⟨⟨_,.mk .first (.mk2 (h1 _) (h2 _))⟩,λk' R' h=>?_⟩
 cases h with
 | mk a b=>
  cases a with
  | @first _ _ _ _ p=>
   obtain⟨s1,s2,rfl,x,y⟩:=b.two
   obtain⟨θ,f1,f2,_⟩:=T.w (s:=Jm) x y
   refine⟨θ,?_⟩
   rw[YI,XL,<-f1,<-f2,<-Ry y (e2▸f2)]
def oW (T:yd m t1 t2 R1 R2){k1 k2:Kd}{r1 r2:List Kd}(e1:R1=k1::r1)(h1:∀G,HT G t1 k1 R1)(h2:∀G,HT G t2 k2 (R2.map Si)):Ez (.fn z t1) (Gz (.op 1000000) k1::R1):=by
 refine⟨⟨_,.mk .fn (.mk1 (h1 _))⟩,λk' R' h=>?_⟩
 cases h with
 | mk a b=>
  cases a with
  | @fn _ _ _ p r=>
   have x:=b.one
   obtain⟨θ,f1,_,f3⟩:=T.w (s:=p) x (h2 G0)
   refine⟨θ,?_⟩
   rw[YI,<-f1]
   show _=Gz (θ 1000000) (k1.put θ)::_
   rw[f3,<-Ry x (e1▸f1)]
def oV (T:yd m t1 t2 R1 R2){k1 k2:Kd}{r1 r2:List Kd}(e1:R1=k1::r1)(e2:R2.map Si=k2::r2)(h1:∀G,HT G t1 k1 R1)(h2:∀G,HT G t2 k2 (R2.map Si)):Ez (.call (.fn z t1) t2) (k1::((Gz k2 k1::R1)++R2.map Si)):=by
 refine⟨⟨_,.mk .call (.mk2 (.mk .fn (.mk1 (h1 _))) (h2 _))⟩,λk' R' h=>?_⟩
 cases h with
 | mk a b=>
  cases a with
  | @call _ _ _ _ p=>
   obtain⟨s1,s2,rfl,x,y⟩:=b.two
   cases x with
   | mk c d=>
    cases c with
    | fn=>
     have x:=d.one
     obtain⟨θ,f1,f2,_⟩:=T.w (s:=Jm) x y
     refine⟨θ,?_⟩
     rw[YI,XL,YI,<-f1,<-f2]
     show _=k1.put θ::(Gz (k2.put θ) (k1.put θ)::_++_)
     rw[<-Ry x (e1▸f1),<-Ry y (e2▸f2)]
def oS (T:yd m t1 t2 R1 R2){k1 k2:Kd}{r1:List Kd}(e1:R1=k1::r1)(h1:∀G,HT G t1 k1 R1)(h2:∀G,HT G t2 k2 (R2.map Si)):Ez (.sh2 "Cons" t1 (.sh0 "Nil")) (Xm k1::(R1++[Xm k1])):=by
 refine⟨⟨_,.mk .cons (.mk2 (h1 _) (.mk .nil .nil))⟩,λk' R' h=>?_⟩
 cases h with
 | mk a b=>
  cases a with
  | @cons _ _ _ p=>
   obtain⟨s1,s2,rfl,x,y⟩:=b.two
   cases y with
   | mk c d=>
    cases c with
    | nil=>
     cases d
     obtain⟨θ,f1,_,_⟩:=T.w (s:=Jm) x (h2 G0)
     refine⟨θ,?_⟩
     rw[YI,XL,<-f1]
     show _=Xm (k1.put θ)::(_++[Xm (k1.put θ)])
     rw[<-Ry x (e1▸f1)]
def pE:List.finRange 1=[0]:=rfl
def oU (T:yd m t1 t2 R1 R2){k1 k2:Kd}{r1 r2:List Kd}(e1:R1=k1::r1)(e2:R2.map Si=k2::r2)(h1:∀G,HT G t1 k1 R1)(h2:∀G,HT G t2 k2 (R2.map Si)):Ez (.lt 1 (λ_=>z) (λ_=>t1) t2) (k2::(R1++R2.map Si)):=by
 refine⟨⟨_,.mk (.lt (ks:=λ_=>k1)) ?_⟩,λk' R' h=>?_⟩
 ·rw[pE];exact .mk2 (h1 _) (h2 _)
 cases h with
 | mk a b=>
  cases a with
  | @lt _ _ _ _ _ _ ks=>
   rw[pE] at b
   obtain⟨s1,s2,rfl,x,y⟩:=HTs.two b
   obtain⟨θ,f1,f2,_⟩:=T.w (s:=Jm) x y
   refine⟨θ,?_⟩
   rw[YI,XL,<-f1,<-f2,<-Ry y (e2▸f2)]
def oR (T:yd m t1 t2 R1 R2){k1 k2:Kd}{r1 r2:List Kd}(e1:R1=k1::r1)(e2:R2.map Si=k2::r2)(h1:∀G,HT G t1 k1 R1)(h2:∀G,HT G t2 k2 (R2.map Si)):
  Ez (.chP (.sh2 "Pair" t2 t1) "left" z (.nm z)) (k1::((Lc k2 k1::(R2.map Si++R1))++[k1])):=by
 have bz:∀(p q:Kd) (G:Ev),bnd ["left",z] [p,q] G z=some q:=λp q G=>by
  unfold bnd
  have e:((["left",z]:List Str).zip [p,q]).reverse=[(z,q),("left",p)]:=by simp
  rw[e,List.lookup_cons,XU]
 refine⟨⟨_,.mk .chP (.mk2 (.mk .pair (.mk2 (h2 _) (h1 _))) (.mk (.nm (bz _ _ _)) .nil))⟩,λk' R' h=>?_⟩
 cases h with
 | mk a b=>
  cases a with
  | @chP _ _ _ _ _ _ p q=>
   obtain⟨s1,s2,rfl,x,y⟩:=b.two
   cases x with
   | mk c d=>
    cases c with
    | pair=>
     obtain⟨u1,u2,rfl,x,x'⟩:=d.two
     cases y with
     | mk c' d'=>
      cases c' with
      | nm g=>
       cases d'
       have g:=(bz p q G0).symm.trans g
       obtain⟨θ,f1,f2,_⟩:=T.w (s:=Jm) x' x
       refine⟨θ,?_⟩
       rw[YI,XL,YI,XL,<-f1,<-f2]
       show _=k1.put θ::(Lc (k2.put θ) (k1.put θ)::_++[k1.put θ])
       rw[<-Ry x' (e1▸f1),<-Ry x (e2▸f2)]
       have g:q=k':=YH g
       rw[g]
end
end Fn
namespace K24
open PySem PySem.Spec PyProof.Rows L2 WL Fn
def zF:Kd->List Kd
 | .k1 _ a=>[a]
 | .k2 _ a b=>[a,b]
 | _=>[]
def me:Kd->Str
 | .op _=>"open"
 | .k0 g=>g
 | .k1 g _=>g
 | .k2 g _ _=>g
def Nk:Nat->Kd->Prop
 | 0,_=>False
 | _+1,.op _=>True
 | m+1,k=>me k≠"open"/\∀a∈zF k,Nk m a
def Hc {θ:Nat->Kd}:∀(m:Nat) (k:Kd),Nk m (k.put θ)->Nk m k
 | 0,_,h=>h.elim
 | _+1,.op _,_=>trivial
 | _+1,.k0 _,h=>h
 | m+1,.k1 g a,h=>⟨h.1,λb hb=>by rw[XQ.mp hb];exact Hc m a (h.2 _ (XQ.mpr rfl))⟩
 | m+1,.k2 g a b,h=>⟨h.1,λc hc=>by
   simp only[zF,List.mem_cons,List.not_mem_nil,or_false] at hc
   rcases hc with rfl | rfl
   ·exact Hc (θ:=θ) m _ (h.2 _ (by simp[zF,Kd.put]))
   ·exact Hc (θ:=θ) m _ (h.2 _ (by simp[zF,Kd.put]))⟩
def Yr:∀{m n:Nat} {k:Kd},m<=n->Nk m k->Nk n k
 | 0,_,_,_,h=>h.elim
 | _+1,0,_,h,_=>absurd h (Nat.not_succ_le_zero _)
 | _+1,_+1,.op _,_,_=>trivial
 | m+1,n+1,.k0 g,h,q=>⟨q.1,λa ha=>by cases ha⟩
 | m+1,n+1,.k1 g a,h,q=>⟨q.1,λb hb=>Yr (Nat.le_of_succ_le_succ h) (q.2 b hb)⟩
 | m+1,n+1,.k2 g a b,h,q=>⟨q.1,λb hb=>Yr (Nat.le_of_succ_le_succ h) (q.2 b hb)⟩
def vC {t:Tr}{R R0:List Kd}{k0:Kd}{m:Nat}(h:Gw t R)(h0:HT G0 t k0 R0)(hn:∀k∈R0,Nk m k):∀k∈R,Nk m k:=λk hk=>by
 obtain⟨θ,rfl⟩:=h.wide k0 R0 h0
 exact Hc m k (hn _ (XR.mpr ⟨k,hk,rfl⟩))
def j8 {R:List Kd}{n:Nat}(h:ext [] (R.map Kd.ops).flatten=List.range n)(hn:n<=1000):om R:=λk hk i hi=>by
 have hm:=Ha hk hi
 have e:Of R=List.range n:=h
 rw[e] at hm
 exact XG (List.mem_range.mp hm) hn
section
variable {C C':Hw}{Q:WK}{χ:WX}
def Fd:∀(m n:Nat) (k:Kd) (by_:Nat) (C:Hw) {Q:WK} {χ:WX},Nk m k->(∀C',Ex C C'->Q (Yt (k.put λi=>.op (i+by_))) C')->Ye pr (n+m) Lp [Yt k,nT by_] C Q χ
 | 0,_,_,_,_,_,_,h,_=>h.elim
 | m+1,n,k,by_,C,Q,χ,hk,q=>by
  refine Li (n:=n+m) rfl ?_
  unfold V8 Up
  have many:∀g:Str,(g=="open")=false->∀ps:List Kd,ps.length<=2->(∀a∈ps,Nk m a)->Yt k=.tup (.str g::ps.map Yt)->Yt (k.put λi=>.op (i+by_))=.tup (.str g::ps.map λa=>Yt (a.put λi=>.op (i+by_)))-> 
    (Px (wx (yN (Wi E7 (Wi Lf (Y0 0) (eC (T.int 0))) (eC (T.str "open")))) (Iz (O0 (Ya (eC (T.str "open")) (Ya (Wi G2 (Wi Lf (Y0 0) (eC (T.int 1))) (Y0 1)) Zw)))) So)
     (Iz (sK Gp (Ya (Wi G2 (Co (Ya (Wi Lf (Y0 0) (eC (T.int 0))) Zw)) (Kt [none,some 1] (jJ (oF (Y0 0) (B4 (eC (T.int 1))) oB)) (zO 0) yF (Sv (Ye pr (n+m)) 26 (Ya (Y0 0) (Ya (Y0 1) Zw))))) Zw)))) {nx:=λ_ C'=>Q .non C',rt:=Q,xc:=χ} [some (Yt k),some (nT by_)] C:=by
   intro g hg ps hp hN e1 e2
   rw[e2] at q
   rw[e1]
   refine⟨_,rfl,_,Z4,Zt (v:=false) hg ⟨_,rfl,Zj ?_⟩⟩
   refine⟨_,rfl,_,Z4,Yv (by show 1<=_;omega),λp1 hp1=>?_⟩
   refine⟨_,rfl,_,rfl,Kf,?_⟩
   rw[Tl]
   have x1:Ex C (up C p1 (.lst [.str g])):=Ex.new hp1
   have P1:up C p1 (.lst [.str g]) p1=some (.lst [.str g]):=Ze
   generalize up C p1 (.lst [.str g])=C1 at x1 P1
   refine Xp (λi acc C'=>Ex C1 C'/\acc=(ps.take i).map λa=>Yt (a.put λi=>.op (i+by_))) ⟨Ex.refl _,rfl⟩ (λ_ _ _ _ _=>trivial) ?_ ?_
   ·rintro i x acc C2 N hx ⟨x2,rfl⟩ hN2
    rw[XM] at hx
    obtain⟨a,ha,rfl⟩:∃a,ps[i]?=some a/\Yt a=x:=by
     cases y:ps[i]? with
     | none=>rw[y] at hx;cases hx
     | some p=>rw[y] at hx;exact⟨p,rfl,YH hx⟩
    have hi:i<ps.length:=(List.getElem?_eq_some_iff.mp ha).1
    refine Z2 (q:=N ((ps.take i).map λa=>Yt (a.put λi=>.op (i+by_))) C2) ⟨_,rfl,_,rfl,?_⟩
    dsimp only[Zw]
    refine Fd m n a by_ C2 (hN a (List.mem_of_getElem? ha)) λC3 x3=>⟨Yj (by rw[XI,YM];omega),hN2 _ _ ⟨x2.trans x3,?_⟩⟩
    rw[YD,ha,XL];rfl
   ·rintro acc C2 ⟨x2,rfl⟩ p3 hp3
    rw[XI,List.take_length]
    have x3:Ex C2 (up C2 p3 _):=Ex.new (o:=.lst (ps.map λa=>Yt (a.put λi=>.op (i+by_)))) hp3
    refine⟨_,_,x3 _ _ (x2 _ _ P1),Ze,Yv (by rw[XI];show 1+_<=_;omega),λp4 hp4=>?_⟩
    refine⟨_,rfl,_,Ze,?_⟩
    exact q _ (((x1.trans x2).trans x3).trans (Ex.new hp4))
  cases k with
  | op i=>
   refine⟨_,rfl,_,Z4,Zt (v:=true) (by decide+kernel) ⟨_,rfl,Z2 ?_⟩⟩
   refine⟨_,rfl,_,V5,_,rfl,Yv (by show 2<=_;omega),?_⟩
   exact q C (Ex.refl _)
  | k0 g=>exact many g (beq_eq_false_iff_ne.mpr hk.1) [] (by decide) (λa h=>by cases h) rfl rfl
  | k1 g a=>exact many g (beq_eq_false_iff_ne.mpr hk.1) [a] (ZNB rfl) (λb h=>hk.2 b h) rfl rfl
  | k2 g a b=>exact many g (beq_eq_false_iff_ne.mpr hk.1) [a,b] (ZNB rfl) (λb h=>hk.2 b h) rfl rfl
end
def Nf:∀{l acc:List Nat},∃e,ext acc l=acc++e/\e.length<=l.length
 | [],acc=>⟨[],by simp[ext],Nat.le_refl _⟩
 | i::l,acc=>by
  show ∃e,ext (if i∈acc then acc else acc++[i]) l=acc++e/\_
  by_cases c:i∈acc
  ·rw[XY c]
   obtain⟨e,h,h2⟩:=Nf (l:=l) (acc:=acc)
   exact⟨e,h,by rw[YF];omega⟩
  ·rw[XX c]
   obtain⟨e,h,h2⟩:=Nf (l:=l) (acc:=acc++[i])
   exact⟨i::e,by rw[h,YL];rfl,by rw[YF,YF];omega⟩
def jV {l acc:List Nat}:acc.length<=(ext acc l).length:=by
 obtain⟨e,h,_⟩:=Nf (l:=l) (acc:=acc)
 rw[h,List.length_append];omega
def Ej {L:List Nat}{ps:List Kd}{i:Nat}:(ext L ((ps.take i).map Kd.ops).flatten).length<=(ext L (ps.map Kd.ops).flatten).length:=by
 have:ps=ps.take i++ps.drop i:=(List.take_append_drop ..).symm
 conv=>rhs;rw[this]
 rw[XL,List.flatten_append,W6]
 exact jV
def vi {acc l:List Nat}{i:Nat}(h:i∈acc):(ext acc l).idxOf i=acc.idxOf i:=by
 obtain⟨e,h2,_⟩:=Nf (l:=l) (acc:=acc)
 rw[h2,List.idxOf_append,XY h]
def Bd (kv:List (Z1×T))(L:List Nat):Prop:=(∀j:Nat,Yl kv (ik j)=if j∈L then some (nT (L.idxOf j)) else none)/\kv.length=L.length
def Bd.put {kv:List (Z1×T)}{L:List Nat}{j:Nat}(h:Bd kv L)(hj:j∉L):Bd (Ji kv (ik j) (nT L.length)) (L++[j]):=by
 refine⟨λi=>?_,?_⟩
 ·rw[Mr]
  by_cases c:i=j
  ·subst c
   rw[if_pos rfl,if_pos (by simp),List.idxOf_append,if_neg hj]
   simp
  ·rw[XX λe=>c (D7 e),h.1 i]
   by_cases d:i∈L
   ·rw[XY d,XY (List.mem_append_left _ d),List.idxOf_append,XY d]
   ·rw[if_neg d,if_neg (by simp[d,c])]
 ·have hn:¬(kv.any λz=>decide (z.1=ik j))=true:=λe=>by
   have g:=h.1 j
   rw[XX hj] at g
   unfold Yl at g
   obtain⟨z,hz,e⟩:=List.any_eq_true.mp e
   have:=(List.find?_isSome (p:=λz:Z1×T=>decide (z.1=ik j))).mpr ⟨z,hz,e⟩
   rw[Option.map_eq_none_iff] at g
   rw[g] at this
   cases this
  unfold Ji
  rw[XX hn,List.length_append,List.length_append,h.2]
  rfl
def Ed (d:Addr)(C C':Hw):Prop:=∀c w,c≠d->C c=some w->C' c=some w
def Ed.refl (d:Addr)(C:Hw):Ed d C C:=λ_ _ _ h=>h
def Ed.trans {d:Addr}{C C1 C2:Hw}(a:Ed d C C1)(b:Ed d C1 C2):Ed d C C2:=λc w n h=>b c w n (a c w n h)
def Ed.new {d p:Addr}{C C1:Hw}{o:O}(a:Ed d C C1)(h:C1 p=none):Ed d C (up C1 p o):=λc w n e=>by
 have q:=a c w n e
 rw[Zg (J1 q h)];exact q
def nk (L:List Nat)(k:Kd):Kd:=k.put λi=>.op (L.idxOf i)
def j1 {L l:List Nat}{k:Kd}(h:∀i∈k.ops,i∈L):nk (ext L l) k=nk L k:=X4 k λi hi=>by rw[vi (h i hi)]
def N2 {d:Addr}:∀(m n:Nat) (k:Kd) (L:List Nat) (kv:List (Z1×T)) (C:Hw) {Q:WK} {χ:WX},Nk m k->Bd kv L->C d=some (.dic kv)->(ext L k.ops).length<=90000->
  (∀C' kv',Ed d C C'->C' d=some (.dic kv')->Bd kv' (ext L k.ops)->Q (Yt (nk (ext L k.ops) k)) C')->Ye pr (n+m) Ox [Yt k,.ref d] C Q χ
 | 0,_,_,_,_,_,_,_,h,_,_,_,_=>h.elim
 | m+1,n,k,L,kv,C,Q,χ,hk,hL,hd,hb,q=>by
  refine Oq (n:=n+m) rfl ?_
  unfold Wl Ww
  have many:∀g:Str,(g=="open")=false->∀ps:List Kd,ps.length<=2->(∀a∈ps,Nk m a)->Yt k=.tup (.str g::ps.map Yt)->k.ops=(ps.map Kd.ops).flatten->(∀L',Yt (nk L' k)=.tup (.str g::ps.map λa=>Yt (nk L' a)))->
    (Px (wx (yN (Wi E7 (Wi Lf (Y0 0) (eC (T.int 0))) (eC (T.str "open")))) (Iz (O0 (Ya (eC (T.str "open")) (Ya (pJ (Y0 1) (Wi Lf (Y0 0) (eC (T.int 1))) (sK ut (Ya (Y0 1) Zw))) Zw)))) So)
     (Iz (sK Gp (Ya (Wi G2 (Co (Ya (Wi Lf (Y0 0) (eC (T.int 0))) Zw)) (Kt [none,some 1] (jJ (oF (Y0 0) (B4 (eC (T.int 1))) oB)) (zO 0) yF (Sv (Ye pr (n+m)) 24 (Ya (Y0 0) (Ya (Y0 1) Zw))))) Zw)))) {nx:=λ_ C'=>Q .non C',rt:=Q,xc:=χ} [some (Yt k),some (.ref d)] C:=by
   intro g hg ps hp hN e1 e3 e2
   rw[e1]
   refine⟨_,rfl,_,Z4,Zt (v:=false) hg ⟨_,rfl,Zj ?_⟩⟩
   refine⟨_,rfl,_,Z4,Yv (by show 1<=_;omega),λp1 hp1=>?_⟩
   refine⟨_,rfl,_,rfl,Kf,?_⟩
   rw[Tl]
   have n1:p1≠d:=(J1 hd hp1).symm
   have x1:Ed d C (up C p1 (.lst [.str g])):=(Ed.refl _ _).new hp1
   have P1:up C p1 (.lst [.str g]) p1=some (.lst [.str g]):=Ze
   have D1:up C p1 (.lst [.str g]) d=some (.dic kv):=by rw[Zg n1.symm];exact hd
   generalize up C p1 (.lst [.str g])=C1 at x1 P1 D1
   refine Xp (λi acc C'=>∃kv',Ed d C1 C'/\C' d=some (.dic kv')/\Bd kv' (ext L ((ps.take i).map Kd.ops).flatten)/\acc=(ps.take i).map λa=>Yt (nk (ext L ((ps.take i).map Kd.ops).flatten) a)) ⟨kv,Ed.refl _ _,D1,hL,rfl⟩ (λ_ _ _ _ _=>trivial) ?_ ?_
   ·rintro i x acc C2 N hx ⟨kv2,x2,D2,hL2,rfl⟩ hN2
    rw[XM] at hx
    obtain⟨a,ha,rfl⟩:∃a,ps[i]?=some a/\Yt a=x:=by
     cases y:ps[i]? with
     | none=>rw[y] at hx;cases hx
     | some p=>rw[y] at hx;exact⟨p,rfl,YH hx⟩
    have hi:i<ps.length:=(List.getElem?_eq_some_iff.mp ha).1
    have et:ps.take (i+1)=ps.take i++[a]:=by rw[YD,ha];rfl
    have ef:((ps.take (i+1)).map Kd.ops).flatten=((ps.take i).map Kd.ops).flatten++a.ops:=by rw[et,List.map_append,List.flatten_append];simp
    have fl:=XN (Ej (L:=L) (ps:=ps) (i:=i+1)) (e3▸hb)
    rw[ef,W6] at fl
    refine Z2 (q:=N ((ps.take i).map λa=>Yt (nk (ext L ((ps.take i).map Kd.ops).flatten) a)) C2) ⟨_,rfl,_,rfl,?_⟩
    dsimp only[Zw]
    refine N2 m n a _ kv2 C2 (hN a (List.mem_of_getElem? ha)) hL2 D2 fl λC3 kv3 x3 D3 hL3=>⟨Yj (by rw[XI,YM];omega),hN2 _ _ ⟨kv3,x2.trans x3,D3,by rw[ef,W6];exact hL3,?_⟩⟩
    rw[ef,W6,et,XL]
    congr 1
    refine List.map_congr_left λb hb=>?_
    rw[j1 λi hi=>Tf.mpr (.inr (List.mem_flatten.mpr ⟨_,XR.mpr ⟨b,hb,rfl⟩,hi⟩))]
   ·rintro acc C2 ⟨kv2,x2,D2,hL2,rfl⟩ p3 hp3
    rw[XI,List.take_length] at*
    rw[<-e3] at hL2 |-
    have n3:p3≠d:=(J1 D2 hp3).symm
    have P2:=x2 _ _ n1 P1
    refine⟨_,_,by rw[Zg (J1 P2 hp3)];exact P2,Ze,Yv (by rw[XI];show 1+_<=_;omega),λp4 hp4=>?_⟩
    refine⟨_,rfl,_,Ze,?_⟩
    have n4:p4≠d:=λe=>by rw[e,Zg n3.symm,D2] at hp4;cases hp4
    have:=q (up (up C2 p3 (.lst (ps.map λa=>Yt (nk (ext L k.ops) a)))) p4 (.lst ([.str g]++ps.map λa=>Yt (nk (ext L k.ops) a)))) kv2 (((x1.trans x2).new hp3).new hp4) (by rw[Zg n4.symm,Zg n3.symm];exact D2) hL2
    rw[e2] at this
    exact this
  cases k with
  | op i=>
   refine⟨_,rfl,_,Z4,Zt (v:=true) (by decide+kernel) ⟨_,rfl,Z2 ?_⟩⟩
   refine⟨_,rfl,⟨_,_,rfl,hd⟩,_,rfl,_,V5,_,rfl,_,_,rfl,hd,?_⟩
   refine⟨_,_,_,rfl,rfl,hd,Yj (by rw[hL.2];have:=jV (l:=(Kd.op i).ops) (acc:=L);omega),λv hv=>?_,λhv=>?_⟩
   ·have g:=hL.1 i
    by_cases c:i∈L
    ·rw[XY c,show Yl kv (ik i)=some v from hv] at g
     cases g
     have ee:ext L (Kd.op i).ops=L:=Cj λj hj=>by rw[XQ.mp hj];exact c
     have:=q C kv (Ed.refl _ _) hd (by rw[ee];exact hL)
     rw[ee] at this
     exact⟨Yv (by show 2<=_;omega),this⟩
    ·rw[XX c,show Yl kv (ik i)=some v from hv] at g
     cases g
   ·have g:=hL.1 i
    have c:i∉L:=λc=>by
     rw[XY c,show Yl kv (ik i)=none from hv] at g
     cases g
    have ee:ext L (Kd.op i).ops=L++[i]:=by show(if i∈L then L else L++[i])=_;rw[XX c]
    have ei:(L++[i]).idxOf i=L.length:=by rw[List.idxOf_append,if_neg c];simp
    have:=q (up C d (.dic (Ji kv (ik i) (nT L.length)))) _ (λc w n h=>by rw[Zg n];exact h) Ze (by rw[ee];exact hL.put c)
    rw[ee] at this
    have e4:Yt (nk (L++[i]) (.op i))=.tup [.str "open",nT L.length]:=by show T.tup [.str "open",nT ((L++[i]).idxOf i)]=_;rw[ei]
    rw[e4] at this
    rw[hL.2]
    exact⟨Yv (by show 2<=_;omega),this⟩
  | k0 g=>exact many g (beq_eq_false_iff_ne.mpr hk.1) [] (by decide) (λa h=>by cases h) rfl rfl (λ_=>rfl)
  | k1 g a=>exact many g (beq_eq_false_iff_ne.mpr hk.1) [a] (ZNB rfl) (λb h=>hk.2 b h) rfl (by show a.ops=a.ops++[];rw[YK]) (λ_=>rfl)
  | k2 g a b=>exact many g (beq_eq_false_iff_ne.mpr hk.1) [a,b] (ZNB rfl) (λb h=>hk.2 b h) rfl (by show a.ops++b.ops=a.ops++(b.ops++[]);rw[YK]) (λ_=>rfl)
def Vr {m n:Nat}{R:List Kd}{a:Addr}{C:Hw}{Q:WK}{χ:WX}(hR:∀k∈R,Nk m k)(ha:C a=some (.lst (R.map Yt)))(hb:(Of R).length<=90000)(hl:R.length<=9000)
  (q:∀C' p,Ex C C'->C p=none->C' p=some (.lst ((Ln R).map Yt))->Q (.ref p) C'):Ye pr (n+m+1) Ri [.ref a] C Q χ:=by
 refine Rh (n:=n+m) rfl ?_
 unfold J2 J7
 intro d hd
 have nd:a≠d:=J1 ha hd
 have A1:up C d (.dic []) a=some (.lst (R.map Yt)):=by rw[Zg nd];exact ha
 have D1:up C d (.dic []) d=some (.dic []):=Ze
 have x0:Ex C (up C d (.dic [])):=Ex.new hd
 generalize up C d (.dic [])=C1 at A1 D1 x0
 refine⟨_,rfl,_,A1,?_⟩
 refine Xp (λi acc C'=>∃kv',Ed d C1 C'/\C' d=some (.dic kv')/\Bd kv' (ext [] ((R.take i).map Kd.ops).flatten)/\acc=(R.take i).map λk=>Yt (nk (ext [] ((R.take i).map Kd.ops).flatten) k)) ⟨[],Ed.refl _ _,D1,⟨λj=>rfl,rfl⟩,rfl⟩ (λi acc C' _ h=>by obtain⟨_,h,_⟩:=h;exact h _ _ nd A1) ?_ ?_
 ·rintro i x acc C2 N hx ⟨kv2,x2,D2,hL2,rfl⟩ hN2
  rw[XM] at hx
  obtain⟨k,hk,rfl⟩:∃a,R[i]?=some a/\Yt a=x:=by
   cases y:R[i]? with
   | none=>rw[y] at hx;cases hx
   | some p=>rw[y] at hx;exact⟨p,rfl,YH hx⟩
  have hi:i<R.length:=(List.getElem?_eq_some_iff.mp hk).1
  have et:R.take (i+1)=R.take i++[k]:=by rw[YD,hk];rfl
  have ef:((R.take (i+1)).map Kd.ops).flatten=((R.take i).map Kd.ops).flatten++k.ops:=by rw[et,List.map_append,List.flatten_append];simp
  have fl:=XN (Ej (L:=[]) (ps:=R) (i:=i+1)) hb
  rw[ef,W6] at fl
  refine Z2 (q:=N ((R.take i).map λk=>Yt (nk (ext [] ((R.take i).map Kd.ops).flatten) k)) C2) ⟨_,rfl,_,rfl,?_⟩
  dsimp only[Zw]
  refine N2 m n k _ kv2 C2 (hR k (List.mem_of_getElem? hk)) hL2 D2 fl λC3 kv3 x3 D3 hL3=>⟨Yj (by rw[XI,YM];omega),hN2 _ _ ⟨kv3,x2.trans x3,D3,by rw[ef,W6];exact hL3,?_⟩⟩
  rw[ef,W6,et,XL]
  congr 1
  refine List.map_congr_left λb hb=>?_
  rw[j1 λi hi=>Tf.mpr (.inr (List.mem_flatten.mpr ⟨_,XR.mpr ⟨b,hb,rfl⟩,hi⟩))]
 ·rintro acc C2 ⟨kv2,x2,D2,hL2,rfl⟩ p3 hp3
  rw[XI,List.take_length]
  have x3:Ex C C2:=λc w h=>x2 c w (J1 h hd) (x0 c w h)
  refine q _ p3 (x3.trans (Ex.new hp3)) (x3.free hp3) ?_
  rw[Ze]
  unfold Ln nk Of
  rw[YE]
  rfl
def Xu:∀{m m':Nat} {bs bs':List Str} {t:Tr},m<=m'->(∀x∈bs,x∈bs')->Cd m bs t->Cd m' bs' t
 | 0,_,_,_,_,_,_,h=>h.elim
 | _+1,0,_,_,_,h,_,_=>absurd h (Nat.not_succ_le_zero _)
 | m+1,m'+1,bs,bs',t,hm,hb,h=>⟨λx e=>hb x (h.1 x e),λz hz=>Xu (Nat.le_of_succ_le_succ hm) (λx hx=>by
   rcases XS.mp hx with hx | hx
   ·exact List.mem_append_left _ (hb x hx)
   ·exact XT _ hx) (h.2 z hz)⟩
structure Lg (f:Nat)(t:Tr):Prop where
 l:t.lok
 c:Cd (2*f+3) [] t
 h:∃k R,HT G0 t k R/\∀r∈R,Nk (2*f+3) r
 s:t.cost<=3*t.size
def Gy {m:Nat}:Nk (m+1) Jm:=⟨by decide,λa h=>by cases h⟩
def kn {m:Nat}:Nk (m+1) Mh:=⟨by decide,λa h=>by cases h⟩
def oC {m:Nat}{k:Kd}(h:Nk m k):Nk (m+1) (Xm k):=⟨(by show("list":Str)≠"open";decide),λa ha=>by rw[XQ.mp ha];exact h⟩
def rM {m:Nat}{k l:Kd}(h:Nk m k)(g:Nk m l):Nk (m+1) (Lc k l):=⟨(by show("pair":Str)≠"open";decide),λa ha=>by
 simp only[zF,List.mem_cons,List.not_mem_nil,or_false] at ha
 rcases ha with rfl | rfl
 ·exact h
 ·exact g⟩
def uc {m:Nat}{k l:Kd}(h:Nk m k)(g:Nk m l):Nk (m+1) (Gz k l):=⟨(by show("to":Str)≠"open";decide),λa ha=>by
 simp only[zF,List.mem_cons,List.not_mem_nil,or_false] at ha
 rcases ha with rfl | rfl
 ·exact h
 ·exact g⟩
section
variable {f:Nat}{a b:Tr}{x y:Str}{v:Int}
def Lg.hd (h:Lg f a):∃k R,(∀G,HT G a k R)/\Nk (2*f+3) k/\∀r∈R,Nk (2*f+3) r:=by
 obtain⟨k,R,h1,h2⟩:=h.h
 obtain⟨R',e⟩:=h1.head
 exact⟨k,R,λG=>M6 h.c h1,h2 k (by rw[e];exact List.mem_cons_self ..),h2⟩
def tW:Lg f (.num v):=⟨trivial,⟨λx e=>(by cases e),λz h=>by cases h⟩,⟨_,_,.mk .num .nil,λr h=>by rw[XQ.mp h];exact Gy⟩,XE _⟩
def j9:Lg f (.sh0 "Nil"):=⟨trivial,⟨λx e=>(by cases e),λz h=>by cases h⟩,⟨_,_,.mk (.nil (p:=Jm)) .nil,λr h=>by rw[XQ.mp h];exact oC Gy⟩,XE _⟩
def va:Lg f (.stop x):=⟨trivial,⟨λx e=>(by cases e),λz h=>by cases h⟩,⟨Jm,_,.mk .stop .nil,λr h=>by rw[XQ.mp h];exact Gy⟩,XE _⟩
def Aa (h:Lg f a)(g:Lg f b):Lg (f+1) (.sh2 "Pair" a b):=by
 obtain⟨k,R,h1,h2,h3⟩:=h.hd
 obtain⟨l,S,g1,g2,g3⟩:=g.hd
 have up:∀{r:Kd},Nk (2*f+3) r->Nk (2*(f+1)+3) r:=λh=>Yr (by omega) h
 refine⟨⟨h.l,g.l⟩,⟨λx e=>(by cases e),λz hz=>?_⟩,⟨_,_,.mk .pair (.mk2 (h1 _) (g1 _)),λr hr=>?_⟩,?_⟩
 ·simp only[Tr.scs,List.mem_cons,List.not_mem_nil,or_false] at hz
  rcases hz with rfl | rfl
  ·exact Xu (by omega) (λx h=>by cases h) h.c
  ·exact Xu (by omega) (λx h=>by cases h) g.c
 ·rcases List.mem_cons.mp hr with rfl | hr
  ·exact Yr (m:=2*f+3+1) (by omega) (rM h2 g2)
  ·rcases XS.mp hr with hr | hr
   ·exact up (h3 r hr)
   ·exact up (g3 r hr)
 ·have:=h.s;have:=g.s
  show 3+(a.cost+b.cost)<=3*(1+(a.size+b.size))
  omega
def Fz (h:Lg f a)(g:Lg f b):Lg (f+1) (.first a b):=by
 obtain⟨k,R,h1,h2,h3⟩:=h.hd
 obtain⟨l,S,g1,g2,g3⟩:=g.hd
 have up:∀{r:Kd},Nk (2*f+3) r->Nk (2*(f+1)+3) r:=λh=>Yr (by omega) h
 refine⟨⟨h.l,g.l⟩,⟨λx e=>(by cases e),λz hz=>?_⟩,⟨_,_,.mk .first (.mk2 (h1 _) (g1 _)),λr hr=>?_⟩,?_⟩
 ·simp only[Tr.scs,List.mem_cons,List.not_mem_nil,or_false] at hz
  rcases hz with rfl | rfl
  ·exact Xu (by omega) (λx h=>by cases h) h.c
  ·exact Xu (by omega) (λx h=>by cases h) g.c
 ·rcases List.mem_cons.mp hr with rfl | hr
  ·exact up g2
  ·rcases XS.mp hr with hr | hr
   ·exact up (h3 r hr)
   ·exact up (g3 r hr)
 ·have:=h.s;have:=g.s
  show 3+(a.cost+b.cost)<=3*(1+(a.size+b.size))
  omega
def uf (h:Lg f a):Lg (f+1) (.fn x a):=by
 obtain⟨k,R,h1,h2,h3⟩:=h.hd
 refine⟨h.l,⟨λx e=>(by cases e),λz hz=>?_⟩,⟨_,_,.mk (.fn (p:=Jm)) (.mk1 (h1 _)),λr hr=>?_⟩,?_⟩
 ·rw[XQ.mp hz]
  exact Xu (by omega) (λx h=>by cases h) h.c
 ·rcases List.mem_cons.mp hr with rfl | hr
  ·exact Yr (m:=2*f+3+1) (by omega) (uc Gy h2)
  ·exact Yr (by omega) (h3 r hr)
 ·have:=h.s
  show 3+a.cost<=3*(1+a.size)
  omega
def Ab (h:Lg f a):Lg (f+1) (.sh2 "Cons" a (.sh0 "Nil")):=by
 obtain⟨k,R,h1,h2,h3⟩:=h.hd
 refine⟨⟨h.l,trivial⟩,⟨λx e=>(by cases e),λz hz=>?_⟩,⟨_,_,.mk (.cons (p:=k)) (.mk2 (h1 _) (.mk .nil .nil)),λr hr=>?_⟩,?_⟩
 ·simp only[Tr.scs,List.mem_cons,List.not_mem_nil,or_false] at hz
  rcases hz with rfl | rfl
  ·exact Xu (by omega) (λx h=>by cases h) h.c
  ·exact Xu (m:=2*f+3) (by omega) (λx h=>by cases h) (j9 (f:=f)).c
 ·have nl:Nk (2*(f+1)+3) (Xm k):=Yr (m:=2*f+3+1) (by omega) (oC h2)
  rcases List.mem_cons.mp hr with rfl | hr
  ·exact nl
  ·rcases XS.mp hr with hr | hr
   ·exact Yr (by omega) (h3 r hr)
   ·rw[XQ.mp hr];exact nl
 ·have:=h.s
  show 3+(a.cost+3)<=3*(1+(a.size+1))
  omega
def vB {p:Kd}{G:Ev}:bnd [x] [p] G x=some p:=by
 unfold bnd
 have e:(([x]:List Str).zip [p]).reverse=[(x,p)]:=by simp
 rw[e,List.lookup_cons,XU]
def pz (h:Lg f a):Lg (f+1) (.fn x (.sh2 "Pair" (.nm x) a)):=by
 obtain⟨k,R,h1,h2,h3⟩:=h.hd
 refine⟨⟨trivial,h.l⟩,⟨λx e=>(by cases e),λz hz=>?_⟩,⟨_,_,.mk (.fn (p:=Jm)) (.mk1 (.mk .pair (.mk2 (.mk (.nm vB) .nil) (h1 _)))),λr hr=>?_⟩,?_⟩
 ·rw[XQ.mp hz]
  refine⟨λx e=>(by cases e),λz hz=>?_⟩
  simp only[Tr.scs,List.mem_cons,List.not_mem_nil,or_false] at hz
  rcases hz with rfl | rfl
  ·exact⟨λy e=>(by cases e;simp),λz h=>(by cases h)⟩
  ·exact Xu (by omega) (λx h=>by cases h) h.c
 ·have np:Nk (2*f+3+1) (Lc Jm k):=rM Gy h2
  rcases List.mem_cons.mp hr with rfl | hr
  ·exact Yr (m:=2*f+3+1+1) (by omega) (uc Gy np)
  ·rcases List.mem_cons.mp hr with rfl | hr
   ·exact Yr (by omega) np
   ·rcases XS.mp hr with hr | hr
    ·rw[XQ.mp hr];exact Gy
    ·exact Yr (by omega) (h3 r hr)
 ·have:=h.s
  show 3+(3+(3+a.cost))<=3*(1+(1+(1+a.size)))
  omega
def tX (h:Lg f a):Lg (f+1) (.lt 1 (λ_=>x) (λ_=>.nm x) (.sh2 "Pair" (.nm x) a)):=by
 obtain⟨k,R,h1,h2,h3⟩:=h.hd
 have hb:∀G:Ev,bnd (Ui λ_:_root_.Fin 1=>x) ((List.finRange 1).map λ_=>Jm) G x=some Jm:=λG=>vB
 refine⟨⟨by decide,λ_=>trivial,trivial,h.l⟩,⟨λx e=>(by cases e),λz hz=>?_⟩,⟨_,_,.mk (.lt (ks:=λ_=>Jm)) (.mk2 (.mk (.nm (hb _)) .nil) (.mk .pair (.mk2 (.mk (.nm (hb _)) .nil) (h1 _)))),λr hr=>?_⟩,?_⟩
 ·have hz:z∈[([x],Tr.nm x),([x],Tr.sh2 "Pair" (.nm x) a)]:=hz
  simp only[ZM,ZN,or_false] at hz
  rcases hz with rfl | rfl
  ·exact⟨λy e=>(by cases e;simp),λz h=>(by cases h)⟩
  ·refine⟨λx e=>(by cases e),λz hz=>?_⟩
   simp only[Tr.scs,List.mem_cons,List.not_mem_nil,or_false] at hz
   rcases hz with rfl | rfl
   ·exact⟨λy e=>(by cases e;simp),λz h=>(by cases h)⟩
   ·exact Xu (by omega) (λx h=>by cases h) h.c
 ·have np:Nk (2*f+3+1) (Lc Jm k):=rM Gy h2
  have np':Nk (2*(f+1)+3) (Lc Jm k):=Yr (by omega) np
  rcases List.mem_cons.mp hr with rfl | hr
  ·exact np'
  ·rcases XS.mp hr with hr | hr
   ·rw[XQ.mp hr];exact Gy
   ·rcases List.mem_cons.mp hr with rfl | hr
    ·exact np'
    ·rcases XS.mp hr with hr | hr
     ·rw[XQ.mp hr];exact Gy
     ·exact Yr (by omega) (h3 r hr)
 ·have:=h.s
  show 1+((3+0)+(3+(3+a.cost)))<=3*(1+((1+0)+(1+(1+a.size))))
  omega
def ue (hz:x="x"\/x="y"):Lg f (.fn "x" (.fn "y" (.nm x))):=by
 have hb:∃q,bnd ["y"] [Jm] (bnd ["x"] [Jm] G0) x=some q/\q=Jm:=by
  rcases hz with rfl | rfl
  ·refine⟨_,?_,rfl⟩
   show(match ((["y"]:List Str).zip [Jm]).reverse.lookup ("x":Str) with | some k=>some k | none=>bnd ["x"] [Jm] G0 "x")=some Jm
   have e:((["y"]:List Str).zip [Jm]).reverse=[(("y":Str),Jm)]:=by simp
   rw[e,List.lookup_cons,show(("x":Str)=="y")=false by decide+kernel]
   exact vB
  ·exact⟨_,vB,rfl⟩
 obtain⟨_,hb,rfl⟩:=hb
 refine⟨trivial,⟨λx e=>(by cases e),λz hz'=>?_⟩,⟨_,_,.mk (.fn (p:=Jm)) (.mk1 (.mk (.fn (p:=Jm)) (.mk1 (.mk (.nm hb) .nil)))),λr hr=>?_⟩,ZNB rfl⟩
 ·rw[XQ.mp hz']
  refine⟨λx e=>(by cases e),λz hz'=>?_⟩
  rw[XQ.mp hz']
  exact⟨λy e=>(by cases e;rcases hz with rfl | rfl<;>simp),λz h=>(by cases h)⟩
 ·simp only[ZM,ZN,or_false] at hr
  rcases hr with rfl | rfl | rfl
  ·exact uc Gy (uc Gy Gy)
  ·exact uc Gy Gy
  ·exact Gy
def pA (h:Lg f a)(g:Lg f b):Lg (f+1) (.first a (.chT (.does "<" (.num 1) (.num 2)) (.stop x) b)):=by
 obtain⟨k,R,h1,h2,h3⟩:=h.hd
 obtain⟨l,S,g1,g2,g3⟩:=g.hd
 have up:∀{r:Kd},Nk (2*f+3) r->Nk (2*(f+1)+3) r:=λh=>Yr (by omega) h
 have hd:∀G:Ev,HT G (.does "<" (.num 1) (.num 2)) Mh _:=λG=>.mk (.does (o:="<")) (.mk2 (.mk .num .nil) (.mk .num .nil))
 have h3c:∀G:Ev,HTs [(G,Tr.does "<" (.num 1) (.num 2),Mh),(G,.stop x,l),(G,b,l)] _:=λG=>.cons (hd G) (.mk2 (.mk .stop .nil) (g1 G))
 refine⟨⟨h.l,⟨trivial,trivial⟩,trivial,g.l⟩,⟨λx e=>(by cases e),λz hz=>?_⟩,⟨_,_,.mk .first (.mk2 (h1 _) (.mk .chT (h3c _))),λr hr=>?_⟩,?_⟩
 ·simp only[Tr.scs,List.mem_cons,List.not_mem_nil,or_false] at hz
  rcases hz with rfl | rfl
  ·exact Xu (by omega) (λx h=>by cases h) h.c
  ·refine⟨λx e=>(by cases e),λz hz=>?_⟩
   simp only[Tr.scs,List.mem_cons,List.not_mem_nil,or_false] at hz
   rcases hz with rfl | rfl | rfl
   ·refine⟨λx e=>(by cases e),λz hz=>?_⟩
    simp only[Tr.scs,List.mem_cons,List.not_mem_nil,or_false] at hz
    rcases hz with rfl | rfl<;>exact⟨λx e=>(by cases e),λz h=>(by cases h)⟩
   ·exact⟨λx e=>(by cases e),λz h=>(by cases h)⟩
   ·exact Xu (by omega) (λx h=>by cases h) g.c
 ·rcases List.mem_cons.mp hr with rfl | hr
  ·exact up g2
  ·rcases XS.mp hr with hr | hr
   ·exact up (h3 r hr)
   ·rcases List.mem_cons.mp hr with rfl | hr
    ·exact up g2
    ·rcases XS.mp hr with hr | hr
     ·simp only[List.mem_cons,List.mem_append,List.not_mem_nil,or_false] at hr
      rcases hr with rfl | rfl | rfl
      ·exact kn
      ·exact Gy
      ·exact Gy
     ·rcases XS.mp hr with hr | hr
      ·rw[XQ.mp hr];exact up g2
      ·exact up (g3 r hr)
 ·have:=h.s;have:=g.s
  show 3+(a.cost+(3+((3+(3+3))+(3+b.cost))))<=3*(1+(a.size+(1+((1+(1+1))+(1+b.size)))))
  omega
end
section
variable {C C':Hw}{Q:WK}{χ:WX}{a:Addr}{n:Nat}
def uH {cs:List Int}(ha:C a=some (.lst (cs.map T.int)))(h0:cs=[]->Q (.int 0) C)(h1:∀ds v,cs=ds++[v]->Q (.int v) (up C a (.lst (ds.map T.int)))):Ye pr (n+1) Ol [.ref a] C Q χ:=by
 refine G7 rfl ?_
 unfold Sh Rb
 refine⟨_,rfl,_,rfl,_,ha,?_⟩
 rcases List.eq_nil_or_concat cs with rfl | ⟨ds,v,rfl⟩
 ·exact⟨_,rfl,Oi (by simp) (h0 rfl)⟩
 ·rw[List.concat_eq_append] at*
  refine⟨_,rfl,Ko (by simp) ?_⟩
  have last:((ds++[v]).map T.int)[((ds++[v]).map T.int).length-1]?=some (.int v):=by simp
  have dl:((ds++[v]).map T.int).dropLast=ds.map T.int:=by simp
  refine⟨_,rfl,⟨_,_,rfl,ha⟩,_,_,_,rfl,rfl,ha,last,?_⟩
  rw[dl]
  exact h1 ds v rfl
end
section
variable {f:Nat}{a b:Tr}{x:Str}
def vc (h:Lg f a)(g:Lg f b):Lg (f+1) (.call (.fn x a) b):=by
 obtain⟨k,R,h1,h2,h3⟩:=h.hd
 obtain⟨l,S,g1,g2,g3⟩:=g.hd
 have up:∀{r:Kd},Nk (2*f+3) r->Nk (2*(f+1)+3) r:=λh=>Yr (by omega) h
 refine⟨⟨h.l,g.l⟩,⟨λx e=>(by cases e),λz hz=>?_⟩,⟨_,_,.mk (.call (p:=l)) (.mk2 (.mk .fn (.mk1 (h1 _))) (g1 _)),λr hr=>?_⟩,?_⟩
 ·simp only[Tr.scs,List.mem_cons,List.not_mem_nil,or_false] at hz
  rcases hz with rfl | rfl
  ·refine⟨λx e=>(by cases e),λz hz=>?_⟩
   rw[XQ.mp hz]
   exact Xu (by omega) (λx h=>by cases h) h.c
  ·exact Xu (by omega) (λx h=>by cases h) g.c
 ·rcases List.mem_cons.mp hr with rfl | hr
  ·exact up h2
  ·rcases XS.mp hr with hr | hr
   ·rcases List.mem_cons.mp hr with rfl | hr
    ·exact Yr (m:=2*f+3+1) (by omega) (uc g2 h2)
    ·exact up (h3 r hr)
   ·exact up (g3 r hr)
 ·have:=h.s;have:=g.s
  show 3+((3+a.cost)+b.cost)<=3*(1+((1+a.size)+b.size))
  omega
def vb (h:Lg f a)(g:Lg f b):Lg (f+1) (.lt 1 (λ_=>x) (λ_=>a) b):=by
 obtain⟨k,R,h1,h2,h3⟩:=h.hd
 obtain⟨l,S,g1,g2,g3⟩:=g.hd
 have up:∀{r:Kd},Nk (2*f+3) r->Nk (2*(f+1)+3) r:=λh=>Yr (by omega) h
 refine⟨⟨by decide,λ_=>h.l,g.l⟩,⟨λx e=>(by cases e),λz hz=>?_⟩,⟨_,_,.mk (.lt (ks:=λ_=>k)) (.mk2 (h1 _) (g1 _)),λr hr=>?_⟩,?_⟩
 ·have hz:z∈[([x],a),([x],b)]:=hz
  simp only[ZM,ZN,or_false] at hz
  rcases hz with rfl | rfl
  ·exact Xu (by omega) (λx h=>by cases h) h.c
  ·exact Xu (by omega) (λx h=>by cases h) g.c
 ·rcases List.mem_cons.mp hr with rfl | hr
  ·exact up g2
  ·rcases XS.mp hr with hr | hr
   ·exact up (h3 r hr)
   ·exact up (g3 r hr)
 ·have:=h.s;have:=g.s
  show 1+((a.cost+0)+b.cost)<=3*(1+((a.size+0)+b.size))
  omega
def tY (h:Lg f a)(g:Lg f b):Lg (f+1) (.chP (.sh2 "Pair" b a) "left" x (.nm x)):=by
 obtain⟨k,R,h1,h2,h3⟩:=h.hd
 obtain⟨l,S,g1,g2,g3⟩:=g.hd
 have up:∀{r:Kd},Nk (2*f+3) r->Nk (2*(f+1)+3) r:=λh=>Yr (by omega) h
 have bz:∀(p q:Kd) (G:Ev),bnd ["left",x] [p,q] G x=some q:=λp q G=>by
  unfold bnd
  have e:((["left",x]:List Str).zip [p,q]).reverse=[(x,q),("left",p)]:=by simp
  rw[e,List.lookup_cons,XU]
 refine⟨⟨⟨g.l,h.l⟩,trivial⟩,⟨λx e=>(by cases e),λz hz=>?_⟩,⟨_,_,.mk .chP (.mk2 (.mk .pair (.mk2 (g1 _) (h1 _))) (.mk (.nm (bz _ _ _)) .nil)),λr hr=>?_⟩,?_⟩
 ·simp only[Tr.scs,List.mem_cons,List.not_mem_nil,or_false] at hz
  rcases hz with rfl | rfl
  ·refine⟨λx e=>(by cases e),λz hz=>?_⟩
   simp only[Tr.scs,List.mem_cons,List.not_mem_nil,or_false] at hz
   rcases hz with rfl | rfl
   ·exact Xu (by omega) (λx h=>by cases h) g.c
   ·exact Xu (by omega) (λx h=>by cases h) h.c
  ·exact⟨λy e=>(by cases e;simp),λz h=>(by cases h)⟩
 ·rcases List.mem_cons.mp hr with rfl | hr
  ·exact up h2
  ·rcases XS.mp hr with hr | hr
   ·rcases List.mem_cons.mp hr with rfl | hr
    ·exact Yr (m:=2*f+3+1) (by omega) (rM g2 h2)
    ·rcases XS.mp hr with hr | hr
     ·exact up (g3 r hr)
     ·exact up (h3 r hr)
   ·rw[XQ.mp hr];exact up h2
 ·have:=h.s;have:=g.s
  show 3+((3+(b.cost+a.cost))+3)<=3*(1+((1+(b.size+a.size))+1))
  omega
end
def W5 {p q:Prop}{b:Bool}(h1:p)(h2:q):if b=true then p else q:=by cases b;exact h2;exact h1
def Af {p q:Prop}{b:Bool}(h1:b=true->p)(h2:b=false->q):if b=true then p else q:=by cases b;exact h2 rfl;exact h1 rfl
def Dt {x:Int}(h0:0<=x)(h1:x<1000000000000000000):(Str.ofString (toString x)).length<=18:=by
 obtain⟨m,rfl⟩:∃m:Nat,x=m:=⟨x.toNat,by omega⟩
 show(Str.ofString (toString (Int.ofNat m))).length<=18
 rw[text_ofNat]
 show((Nat.toDigits 10 m).map Char.toNat).toArray.size<=18
 rw[XJ,XI]
 exact digits10_le (by decide) (by omega)
def jz {x:Int}(h0:0<=x)(h1:x<1000000000000000000):x.natAbs.log2<1920:=by
 have h2:x.natAbs<2^64:=by omega
 have:x.natAbs.log2<64:=by
  by_cases c:x.natAbs=0
  ·rw[c];decide
  ·exact(Nat.log2_lt c).mpr h2
 omega
def a2 {α:Type}{a b:α}{x:Int}:∃v,Pf [a,b] (x%2)=some v/\(v=a\/v=b):=by
 have h0:x%2=0\/x%2=1:=by omega
 rcases h0 with e | e<;>rw[e]
 ·exact⟨_,Z4,.inl rfl⟩
 ·exact⟨_,V5,.inr rfl⟩
def m8 {z:Str}{n:Nat}{x:Int}(hz:z.cps.toList.length=n)(hn:0<n):∃c,Pf z.cps.toList (x%(n:Int))=some c:=by
 obtain⟨v,h,_⟩:=rn (xs:=z.cps.toList) (i:=x%(n:Int)) (YO _ (by omega)) (by rw[hz];exact Int.emod_lt_of_pos _ (by omega))
 exact⟨v,h⟩
def lE (f:Nat):Prop:=∀{n:Nat} {C:Hw} {Q:WK} {χ:WX} {a:Addr} {cs:List Int},C a=some (.lst (cs.map T.int))->
 (∀t C' (ds:List Int),E3 a C C'->C' a=some (.lst (ds.map T.int))->Lg f t->t.size+12*ds.length<=12*cs.length+6->Q (tt t) C')->Ye pr (n+2*f+3) Oj [.ref a,.int f] C Q χ
section
variable {C C':Hw}{Q:WK}{χ:WX}{n f:Nat}{a:Addr}
def yZ (ih:lE f){cs:List Int}{w c:Int}(ha:C a=some (.lst (cs.map T.int)))(q:∀t C' (ds:List Int),E3 a C C'->C' a=some (.lst (ds.map T.int))->Lg (f+1) t->t.size+12*ds.length<=12*cs.length+18->Q (tt t) C'):Ye pr (n+2*f+4) Lq [.ref a,.int w,.int c,.int f] C Q χ:=by
 refine Lj rfl ?_
 unfold V9 Uq
 obtain⟨ch,hch⟩:=m8 (z:="abcdefghij") (n:=10) (x:=c) (by decide+kernel) (by decide)
 have h0:0<=c/10%10:=by omega
 have h1:c/10%10<1000000000000000000:=by omega
 have hle:=Dt h0 h1
 refine⟨_,rfl,by decide,by decide,ch,hch,_,rfl,⟨by decide,by decide⟩,by decide,.inl ⟨_,rfl,jz h0 h1,Vx (by show 1+_<=_;omega),?_⟩⟩
 generalize (⟨#[ch]⟩:Str)++Str.ofString (toString (c/10%10))=x
 refine⟨_,rfl,_,rfl,?_⟩
 dsimp only[Zw]
 refine ih ha λt1 C1 ds1 e1 A1 g1 s1=>?_
 refine⟨_,rfl,Yc rfl ⟨_,rfl,W5 ?_ ?_⟩⟩
 ·exact⟨_,rfl,_,rfl,ZNB rfl,q (.fn x t1) C1 ds1 e1 A1 (uf g1) (by show 1+t1.size+_<=_;omega)⟩
 refine⟨_,rfl,Yc rfl ⟨_,rfl,W5 ?_ ?_⟩⟩
 ·refine⟨_,rfl,_,rfl,_,rfl,?_⟩
  dsimp only[Zw]
  refine ih A1 λt2 C2 ds2 e2 A2 g2 s2=>⟨ZNB rfl,ZNB rfl,q (.sh2 "Pair" t1 t2) C2 ds2 (e1.trans e2) A2 (Aa g1 g2) (by show 1+(t1.size+t2.size)+_<=_;omega)⟩
 refine⟨_,rfl,Yc rfl ⟨_,rfl,W5 ?_ ?_⟩⟩
 ·exact⟨_,rfl,XO _,ZNB rfl,ZNB rfl,ZNB rfl,q (.sh2 "Cons" t1 (.sh0 "Nil")) C1 ds1 e1 A1 (Ab g1) (by show 1+(t1.size+1)+_<=_;omega)⟩
 refine⟨_,rfl,Yc rfl ⟨_,rfl,W5 ?_ ?_⟩⟩
 ·refine⟨_,rfl,_,rfl,_,rfl,?_⟩
  dsimp only[Zw]
  refine ih A1 λt2 C2 ds2 e2 A2 g2 s2=>⟨ZNB rfl,q (.first t1 t2) C2 ds2 (e1.trans e2) A2 (Fz g1 g2) (by show 1+(t1.size+t2.size)+_<=_;omega)⟩
 refine⟨_,rfl,Yc rfl ⟨_,rfl,W5 ?_ ?_⟩⟩
 ·exact⟨_,rfl,_,rfl,ZNB rfl,ZNB rfl,ZNB rfl,_,rfl,ZNB rfl,_,rfl,ZNB rfl,ZNB rfl,ZNB rfl,q (.lt 1 (λ_=>x) (λ_=>.nm x) (.sh2 "Pair" (.nm x) t1)) C1 ds1 e1 A1 (tX g1) (by show 1+((1+0)+(1+(1+t1.size)))+_<=_;omega)⟩
 refine⟨_,rfl,Yc rfl ⟨_,rfl,W5 ?_ ?_⟩⟩
 ·refine⟨XO _,_,rfl,ZNB rfl,ZNB rfl,XO _,_,rfl,_,rfl,?_⟩
  dsimp only[Zw]
  refine ih A1 λt2 C2 ds2 e2 A2 g2 s2=>⟨ZNB rfl,ZNB rfl,?_⟩
  exact⟨_,rfl,ZNB rfl,ZNB rfl,ZNB rfl,_,rfl,ZNB rfl,ZNB rfl,q (.first t1 (.chT (.does "<" (.num 1) (.num 2)) (.stop x) t2)) C2 ds2 (e1.trans e2) A2 (pA g1 g2) (by show 1+(t1.size+(1+((1+(1+1))+(1+t2.size))))+_<=_;omega)⟩
 exact⟨_,rfl,_,rfl,ZNB rfl,_,rfl,ZNB rfl,ZNB rfl,ZNB rfl,q (.fn x (.sh2 "Pair" (.nm x) t1)) C1 ds1 e1 A1 (pz g1) (by show 1+(1+(1+t1.size))+_<=_;omega)⟩
def mh {c:WT}{A B:WS}{D:We}{τ:Sw}(p:Bool->Prop)(hc:∀K χ,(∀k,p k->K k C)->c τ C K χ)(h1:p true->A {D with nx:=B D} τ C)(h2:p false->B D τ C):Px (wx c A So) B D τ C:=
 hc _ _ λk hk=>by
  cases k
  ·exact Zj (h2 hk)
  ·exact Z2 (h1 hk)
def Bu {cs:List Int}(ha:C a=some (.lst (cs.map T.int)))(q:∀v C1 (ds:List Int),E3 a C C1->C1 a=some (.lst (ds.map T.int))->ds.length<=cs.length->ds=[]\/ds.length+1=cs.length->Q (.int v) C1):Ye pr (n+1) Ol [.ref a] C Q χ:=
 uH ha (λe=>q 0 C [] (E3.refl _ _) (by rw[e] at ha;exact ha) (XO _) (.inl rfl)) λds v e=>q v _ ds (E3.refl _ _).put Ze (by rw[e,List.length_append];omega) (.inr (by rw[e,List.length_append];rfl))
def yU:∀f,lE f
 | f,n,C,Q,χ,a,cs,ha,q=>by
  refine G6 (n:=n+2*f+2) rfl ?_
  unfold Sg Ra
  refine⟨_,rfl,?_⟩
  dsimp only[Zw]
  refine Bu (n:=n+2*f+1) ha λv C1 ds e1 A1 l1 l2=>?_
  refine⟨_,rfl,by decide,?_⟩
  dsimp only[zO]
  refine mh (λk=>k=false->f≠0/\ds≠[]) (λK χ' h=>?_) (λ_=>?_) λh=>?_
  ·refine⟨_,rfl,Yc rfl ⟨_,rfl,Af (λ_=>h true λe=>by cases e) (λc0=>?_)⟩⟩
   refine⟨_,rfl,_,rfl,_,A1,Yc rfl ⟨_,rfl,Af (λ_=>h true λe=>by cases e) (λc1=>?_)⟩⟩
   refine⟨_,rfl,_,rfl,h _ λ_=>⟨λe=>?_,λe=>?_⟩⟩
   ·subst e;cases c0
   ·subst e;cases c1
  ·have fin:∀t,Lg f t->t.size<=6->Q (tt t) C1:=λt g s=>q t C1 ds e1 A1 g (by omega)
   refine⟨_,rfl,by decide,Yc rfl ⟨_,rfl,W5 ?_ ?_⟩⟩
   ·exact⟨_,rfl,⟨by decide,by decide⟩,⟨by decide,by decide,by decide⟩,by decide,ZNB rfl,fin (.num _) tW (by show 1<=6;decide)⟩
   refine⟨_,rfl,by decide,Yc rfl ⟨_,rfl,W5 ?_ ?_⟩⟩
   ·exact⟨XO _,ZNB rfl,fin (.sh0 "Nil") j9 (by show 1<=6;decide)⟩
   refine⟨_,rfl,by decide,Yc rfl ⟨_,rfl,W5 ?_ ?_⟩⟩
   ·obtain⟨z,h1,h2⟩:=a2 (a:=T.str "x") (b:=T.str "y") (x:=v/11)
    refine⟨ZNB rfl,λp hp=>⟨_,rfl,⟨by decide,by decide⟩,by decide,_,_,Ze,h1,ZNB rfl,ZNB rfl,ZNB rfl,?_⟩⟩
    have hn:p≠a:=(J1 A1 hp).symm
    have A2:up C1 p (.lst [.str "x",.str "y"]) a=some (.lst (ds.map T.int)):=by rw[Zg hn.symm];exact A1
    have e2:E3 a C (up C1 p (.lst [.str "x",.str "y"])):=e1.trans ((Ex.new hp).exB a)
    rcases h2 with rfl | rfl
    ·exact q (.fn "x" (.fn "y" (.nm "x"))) _ ds e2 A2 (ue (.inl rfl)) (by show 3+_<=_;omega)
    ·exact q (.fn "x" (.fn "y" (.nm "y"))) _ ds e2 A2 (ue (.inr rfl)) (by show 3+_<=_;omega)
   ·have h0:0<=v/11%100:=by omega
    have h1:v/11%100<1000000000000000000:=by omega
    have hle:=Dt h0 h1
    refine⟨_,rfl,⟨by decide,by decide⟩,by decide,.inl ⟨_,rfl,jz h0 h1,Vx (by show 1+_<=_;omega),ZNB rfl,fin (.stop _) va (by show 1<=6;decide)⟩⟩
  ·obtain⟨h0,h1⟩:=h rfl
   match f,h0,q with
   | f+1,_,q=>
    have hc:((f+1:Nat):Int)-1=(f:Int):=by omega
    have hl:ds.length+1=cs.length:=l2.resolve_left h1
    refine⟨_,rfl,_,rfl,_,rfl,⟨by decide,by decide⟩,_,rfl,?_⟩
    dsimp only[Zw,u6,eC]
    rw[hc]
    exact yZ (n:=n) (yU f) A1 λt C2 ds2 e2 A2 g2 s2=>q t C2 ds2 (e1.trans e2) A2 g2 (by omega)
end
def wh (x:Str)(t1 t2:Tr):Nat->Tr
 | 0=>.sh2 "Pair" t1 t2
 | 1=>.first t1 t2
 | 2=>.fn x t1
 | 3=>.call (.fn x t1) t2
 | 4=>.lt 1 (λ_=>x) (λ_=>t1) t2
 | 5=>.sh2 "Cons" t1 (.sh0 "Nil")
 | _=>.chP (.sh2 "Pair" t2 t1) "left" x (.nm x)
def Gs (k1 k2:Kd)(R1 R2:List Kd):Nat->List Kd
 | 0=>Lc k1 k2::(R1++R2)
 | 1=>k2::(R1++R2)
 | 2=>Gz (.op 1000000) k1::R1
 | 3=>k1::((Gz k2 k1::R1)++R2)
 | 4=>k2::(R1++R2)
 | 5=>Xm k1::(R1++[Xm k1])
 | _=>k1::((Lc k2 k1::(R2++R1))++[k1])
section
variable {C C':Hw}{Q:WK}{χ:WX}{n f w:Nat}{x:Str}{t1 t2:Tr}{k1 k2:Kd}{r1 r2 R1 R2:List Kd}
def ud (h:Lg f t1)(g:Lg f t2):Lg (f+1) (wh x t1 t2 w):=by
 match w with
 | 0=>exact Aa h g
 | 1=>exact Fz h g
 | 2=>exact uf h
 | 3=>exact vc h g
 | 4=>exact vb h g
 | 5=>exact Ab h
 | _+6=>exact tY h g
def Bp:(wh x t1 t2 w).size<=t1.size+t2.size+3:=by
 match w with
 | 0=>show 1+(t1.size+t2.size)<=_;omega
 | 1=>show 1+(t1.size+t2.size)<=_;omega
 | 2=>show 1+t1.size<=_;omega
 | 3=>show 1+((1+t1.size)+t2.size)<=_;omega
 | 4=>show 1+((t1.size+0)+t2.size)<=_;omega
 | 5=>show 1+(t1.size+1)<=_;omega
 | _+6=>show 1+((1+(t2.size+t1.size))+1)<=_;omega
def xR {m:Nat}(T:yd m t1 t2 R1 R2)(e1:R1=k1::r1)(e2:R2.map Si=k2::r2)(h1:∀G,HT G t1 k1 R1)(h2:∀G,HT G t2 k2 (R2.map Si)):Ez (wh x t1 t2 w) (Gs k1 k2 R1 (R2.map Si) w):=by
 match w with
 | 0=>exact oY T e1 e2 h1 h2
 | 1=>exact oX T e1 e2 h1 h2
 | 2=>exact oW (r2:=r2) T e1 h1 h2
 | 3=>exact oV T e1 e2 h1 h2
 | 4=>exact oU T e1 e2 h1 h2
 | 5=>exact oS T e1 h1 h2
 | _+6=>exact oR T e1 e2 h1 h2
def tO {m:Nat}(h1:∀k∈R1,Nk m k)(h2:∀k∈R2,Nk m k)(n1:Nk m k1)(n2:Nk m k2):∀k∈Gs k1 k2 R1 R2 w,Nk (m+1) k:=by
 have up:∀{k},Nk m k->Nk (m+1) k:=λh=>Yr (Nat.le_succ _) h
 have u1:∀k∈R1,Nk (m+1) k:=λk h=>up (h1 k h)
 have u2:∀k∈R2,Nk (m+1) k:=λk h=>up (h2 k h)
 have n0:Nk m (.op 1000000):=by
  match m,n1 with
  | m+1,_=>exact trivial
 intro k hk
 match w with
 | 0=>
  rcases List.mem_cons.mp hk with rfl | hk
  ·exact rM n1 n2
  ·exact(XS.mp hk).elim (u1 k) (u2 k)
 | 1=>
  rcases List.mem_cons.mp hk with rfl | hk
  ·exact up n2
  ·exact(XS.mp hk).elim (u1 k) (u2 k)
 | 2=>
  rcases List.mem_cons.mp hk with rfl | hk
  ·exact uc n0 n1
  ·exact u1 k hk
 | 3=>
  rcases List.mem_cons.mp hk with rfl | hk
  ·exact up n1
  ·rcases XS.mp hk with hk | hk
   ·rcases List.mem_cons.mp hk with rfl | hk
    ·exact uc n2 n1
    ·exact u1 k hk
   ·exact u2 k hk
 | 4=>
  rcases List.mem_cons.mp hk with rfl | hk
  ·exact up n2
  ·exact(XS.mp hk).elim (u1 k) (u2 k)
 | 5=>
  rcases List.mem_cons.mp hk with rfl | hk
  ·exact oC n1
  ·rcases XS.mp hk with hk | hk
   ·exact u1 k hk
   ·rw[XQ.mp hk];exact oC n1
 | _+6=>
  rcases List.mem_cons.mp hk with rfl | hk
  ·exact up n1
  ·rcases XS.mp hk with hk | hk
   ·rcases List.mem_cons.mp hk with rfl | hk
    ·exact rM n2 n1
    ·exact(XS.mp hk).elim (u2 k) (u1 k)
   ·rw[XQ.mp hk];exact up n1
def tT:(Gs k1 k2 R1 R2 w).length<=R1.length+R2.length+3:=by
 match w with
 | 0=>simp only[Gs,List.length_cons,List.length_append,List.length_nil];omega
 | 1=>simp only[Gs,List.length_cons,List.length_append,List.length_nil];omega
 | 2=>simp only[Gs,List.length_cons,List.length_append,List.length_nil];omega
 | 3=>simp only[Gs,List.length_cons,List.length_append,List.length_nil];omega
 | 4=>simp only[Gs,List.length_cons,List.length_append,List.length_nil];omega
 | 5=>simp only[Gs,List.length_cons,List.length_append,List.length_nil];omega
 | _+6=>simp only[Gs,List.length_cons,List.length_append,List.length_nil];omega
def Dc (hw:w<7)(q:Q (tt (wh x t1 t2 w)) C):Ye pr (n+1) Ov [.int w,.str x,tt t1,tt t2] C Q χ:=by
 refine Op rfl ?_
 unfold Wk Wv
 match w,hw with
 | 0,_=>
  refine⟨_,rfl,Yc (v:=true) rfl ⟨_,rfl,Z2 ?_⟩⟩
  exact⟨_,rfl,_,rfl,ZNB rfl,ZNB rfl,q⟩
 | 1,_=>
  refine⟨_,rfl,Yc (v:=false) rfl ⟨_,rfl,Zj ?_⟩⟩
  refine⟨_,rfl,Yc (v:=true) rfl ⟨_,rfl,Z2 ?_⟩⟩
  exact⟨_,rfl,_,rfl,ZNB rfl,q⟩
 | 2,_=>
  refine⟨_,rfl,Yc (v:=false) rfl ⟨_,rfl,Zj ?_⟩⟩
  refine⟨_,rfl,Yc (v:=false) rfl ⟨_,rfl,Zj ?_⟩⟩
  refine⟨_,rfl,Yc (v:=true) rfl ⟨_,rfl,Z2 ?_⟩⟩
  exact⟨_,rfl,_,rfl,ZNB rfl,q⟩
 | 3,_=>
  refine⟨_,rfl,Yc (v:=false) rfl ⟨_,rfl,Zj ?_⟩⟩
  refine⟨_,rfl,Yc (v:=false) rfl ⟨_,rfl,Zj ?_⟩⟩
  refine⟨_,rfl,Yc (v:=false) rfl ⟨_,rfl,Zj ?_⟩⟩
  refine⟨_,rfl,Yc (v:=true) rfl ⟨_,rfl,Z2 ?_⟩⟩
  exact⟨_,rfl,_,rfl,ZNB rfl,_,rfl,ZNB rfl,q⟩
 | 4,_=>
  refine⟨_,rfl,Yc (v:=false) rfl ⟨_,rfl,Zj ?_⟩⟩
  refine⟨_,rfl,Yc (v:=false) rfl ⟨_,rfl,Zj ?_⟩⟩
  refine⟨_,rfl,Yc (v:=false) rfl ⟨_,rfl,Zj ?_⟩⟩
  refine⟨_,rfl,Yc (v:=false) rfl ⟨_,rfl,Zj ?_⟩⟩
  refine⟨_,rfl,Yc (v:=true) rfl ⟨_,rfl,Z2 ?_⟩⟩
  exact⟨_,rfl,_,rfl,ZNB rfl,ZNB rfl,_,rfl,ZNB rfl,q⟩
 | 5,_=>
  refine⟨_,rfl,Yc (v:=false) rfl ⟨_,rfl,Zj ?_⟩⟩
  refine⟨_,rfl,Yc (v:=false) rfl ⟨_,rfl,Zj ?_⟩⟩
  refine⟨_,rfl,Yc (v:=false) rfl ⟨_,rfl,Zj ?_⟩⟩
  refine⟨_,rfl,Yc (v:=false) rfl ⟨_,rfl,Zj ?_⟩⟩
  refine⟨_,rfl,Yc (v:=false) rfl ⟨_,rfl,Zj ?_⟩⟩
  refine⟨_,rfl,Yc (v:=true) rfl ⟨_,rfl,Z2 ?_⟩⟩
  exact⟨_,rfl,XO _,ZNB rfl,ZNB rfl,ZNB rfl,q⟩
 | 6,_=>
  refine⟨_,rfl,Yc (v:=false) rfl ⟨_,rfl,Zj ?_⟩⟩
  refine⟨_,rfl,Yc (v:=false) rfl ⟨_,rfl,Zj ?_⟩⟩
  refine⟨_,rfl,Yc (v:=false) rfl ⟨_,rfl,Zj ?_⟩⟩
  refine⟨_,rfl,Yc (v:=false) rfl ⟨_,rfl,Zj ?_⟩⟩
  refine⟨_,rfl,Yc (v:=false) rfl ⟨_,rfl,Zj ?_⟩⟩
  refine⟨_,rfl,Yc (v:=false) rfl ⟨_,rfl,Zj ?_⟩⟩
  refine⟨_,rfl,ZNB rfl,_,rfl,ZNB rfl,ZNB rfl,ZNB rfl,?_⟩
  exact⟨_,rfl,_,rfl,ZNB rfl,ZNB rfl,_,rfl,ZNB rfl,q⟩
variable {a b:Addr}
def ki:T.int ((10:Int)^(6:Int).toNat)=nT 1000000:=congrArg T.int (by decide)
def ww (hw:w<7)(hA:C a=some (.lst ((k1::r1).map Yt)))(hB:C b=some (.lst ((k2::r2).map Yt)))(h1:r1.length<=5000)(h2:r2.length<=5000)
  (q:∀C' p,Ex C C'->C p=none->C' p=some (.lst ((Gs k1 k2 (k1::r1) (k2::r2) w).map Yt))->Q (.ref p) C'):Ye pr (n+1) Hr [.int w,.ref a,.ref b] C Q χ:=by
 refine Ik rfl ?_
 unfold Tb Tw
 have l1:((k1::r1).map Yt).length<=5001:=by rw[XI,YF];omega
 have l2:((k2::r2).map Yt).length<=5001:=by rw[XI,YF];omega
 have two:∀(l:List T) (p:Addr),(l.length<=2)->C p=none->∀{i j:Nat} {τ:Sw} {Q:WK},τ[i]?=some (some (.ref a))->τ[j]?=some (some (.ref b))->(∀C' p,Ex C C'->C p=none->C' p=some (.lst (l++(k1::r1).map Yt++(k2::r2).map Yt))->Q (.ref p) C')->
   Y0 i τ (up C p (.lst l)) (λy C1=>G2 (.ref p) y C1 λz C2=>Y0 j τ C2 (λy C3=>G2 z y C3 Q) χ) χ:=by
  intro l p hl hp i j τ Q hi hj q
  have A1:up C p (.lst l) a=_:=(Ex.new hp) _ _ hA
  have B1:up C p (.lst l) b=_:=(Ex.new hp) _ _ hB
  refine⟨_,hi,_,_,Ze,A1,Yv (by omega),λp2 hp2=>?_⟩
  have B2:=(Ex.new (o:=.lst (l++(k1::r1).map Yt)) hp2) _ _ B1
  refine⟨_,hj,_,_,Ze,B2,Yv (by rw[List.length_append];omega),λp3 hp3=>?_⟩
  exact q _ _ (((Ex.new hp).trans (Ex.new hp2)).trans (Ex.new hp3)) ((Ex.new hp).free ((Ex.new hp2).free hp3)) Ze
 refine⟨⟨by decide,by decide,by decide⟩,ZNB rfl,?_⟩
 match w,hw with
 | 0,_=>
  refine⟨_,rfl,Yc (v:=true) rfl ⟨_,rfl,Z2 ?_⟩⟩
  refine⟨_,rfl,_,_,hA,Z4,_,rfl,_,_,hB,Z4,ZNB rfl,ZNB rfl,λp hp=>?_⟩
  exact two _ p (ZNB rfl) hp rfl rfl λC' p' x f e=>q C' p' x f (by rw[e];simp[Gs,Yt,Lc,Gz,Xm])
 | 1,_=>
  refine⟨_,rfl,Yc (v:=false) rfl ⟨_,rfl,Zj ?_⟩⟩
  refine⟨_,rfl,Yc (v:=true) rfl ⟨_,rfl,Z2 ?_⟩⟩
  refine⟨_,rfl,_,_,hB,Z4,ZNB rfl,λp hp=>?_⟩
  exact two _ p (ZNB rfl) hp rfl rfl λC' p' x f e=>q C' p' x f (by rw[e];simp[Gs,Yt,Lc,Gz,Xm])
 | 2,_=>
  refine⟨_,rfl,Yc (v:=false) rfl ⟨_,rfl,Zj ?_⟩⟩
  refine⟨_,rfl,Yc (v:=false) rfl ⟨_,rfl,Zj ?_⟩⟩
  refine⟨_,rfl,Yc (v:=true) rfl ⟨_,rfl,Z2 ?_⟩⟩
  refine⟨_,rfl,_,rfl,_,_,hA,Z4,ZNB rfl,ZNB rfl,λp hp=>?_⟩
  rw[ki]
  have A1:=(Ex.new (o:=.lst [.tup [.str "to",.tup [.str "open",nT 1000000],Yt k1]]) hp) _ _ hA
  refine⟨_,rfl,_,_,Ze,A1,Yv (by show 1+_<=_;omega),λp2 hp2=>?_⟩
  exact q _ _ ((Ex.new hp).trans (Ex.new hp2)) ((Ex.new hp).free hp2) Ze
 | 3,_=>
  refine⟨_,rfl,Yc (v:=false) rfl ⟨_,rfl,Zj ?_⟩⟩
  refine⟨_,rfl,Yc (v:=false) rfl ⟨_,rfl,Zj ?_⟩⟩
  refine⟨_,rfl,Yc (v:=false) rfl ⟨_,rfl,Zj ?_⟩⟩
  refine⟨_,rfl,Yc (v:=true) rfl ⟨_,rfl,Z2 ?_⟩⟩
  refine⟨_,rfl,_,_,hA,Z4,_,rfl,_,_,hB,Z4,_,rfl,_,_,hA,Z4,ZNB rfl,ZNB rfl,λp hp=>?_⟩
  exact two _ p (ZNB rfl) hp rfl rfl λC' p' x f e=>q C' p' x f (by rw[e];simp[Gs,Yt,Lc,Gz,Xm])
 | 4,_=>
  refine⟨_,rfl,Yc (v:=false) rfl ⟨_,rfl,Zj ?_⟩⟩
  refine⟨_,rfl,Yc (v:=false) rfl ⟨_,rfl,Zj ?_⟩⟩
  refine⟨_,rfl,Yc (v:=false) rfl ⟨_,rfl,Zj ?_⟩⟩
  refine⟨_,rfl,Yc (v:=false) rfl ⟨_,rfl,Zj ?_⟩⟩
  refine⟨_,rfl,Yc (v:=true) rfl ⟨_,rfl,Z2 ?_⟩⟩
  refine⟨_,rfl,_,_,hB,Z4,ZNB rfl,λp hp=>?_⟩
  exact two _ p (ZNB rfl) hp rfl rfl λC' p' x f e=>q C' p' x f (by rw[e];simp[Gs,Yt,Lc,Gz,Xm])
 | 5,_=>
  refine⟨_,rfl,Yc (v:=false) rfl ⟨_,rfl,Zj ?_⟩⟩
  refine⟨_,rfl,Yc (v:=false) rfl ⟨_,rfl,Zj ?_⟩⟩
  refine⟨_,rfl,Yc (v:=false) rfl ⟨_,rfl,Zj ?_⟩⟩
  refine⟨_,rfl,Yc (v:=false) rfl ⟨_,rfl,Zj ?_⟩⟩
  refine⟨_,rfl,Yc (v:=false) rfl ⟨_,rfl,Zj ?_⟩⟩
  refine⟨_,rfl,Yc (v:=true) rfl ⟨_,rfl,Z2 ?_⟩⟩
  refine⟨_,rfl,_,_,hA,Z4,ZNB rfl,ZNB rfl,λp hp=>?_⟩
  have A1:=(Ex.new (o:=.lst [.tup [.str "list",Yt k1]]) hp) _ _ hA
  refine⟨_,rfl,_,_,Ze,A1,Yv (by show 1+_<=_;omega),λp2 hp2=>?_⟩
  have A2:=(Ex.new (o:=.lst ([.tup [.str "list",Yt k1]]++(k1::r1).map Yt)) hp2) _ _ A1
  refine⟨_,rfl,_,_,A2,Z4,ZNB rfl,ZNB rfl,λp3 hp3=>?_⟩
  have P2:=(Ex.new (o:=.lst [.tup [.str "list",Yt k1]]) hp3) _ _ (Ze (C:=up C p (.lst [.tup [.str "list",Yt k1]])) (a:=p2) (o:=.lst ([.tup [.str "list",Yt k1]]++(k1::r1).map Yt)))
  refine⟨_,_,P2,Ze,Yv (by rw[List.length_append];show 1+_+1<=_;omega),λp4 hp4=>?_⟩
  exact q _ _ ((((Ex.new hp).trans (Ex.new hp2)).trans (Ex.new hp3)).trans (Ex.new hp4)) ((Ex.new hp).free ((Ex.new hp2).free ((Ex.new hp3).free hp4))) (by rw[Ze];simp[Gs,Yt,Xm])
 | 6,_=>
  refine⟨_,rfl,Yc (v:=false) rfl ⟨_,rfl,Zj ?_⟩⟩
  refine⟨_,rfl,Yc (v:=false) rfl ⟨_,rfl,Zj ?_⟩⟩
  refine⟨_,rfl,Yc (v:=false) rfl ⟨_,rfl,Zj ?_⟩⟩
  refine⟨_,rfl,Yc (v:=false) rfl ⟨_,rfl,Zj ?_⟩⟩
  refine⟨_,rfl,Yc (v:=false) rfl ⟨_,rfl,Zj ?_⟩⟩
  refine⟨_,rfl,Yc (v:=false) rfl ⟨_,rfl,Zj ?_⟩⟩
  refine⟨_,rfl,_,_,hA,Z4,_,rfl,_,_,hB,Z4,_,rfl,_,_,hA,Z4,ZNB rfl,ZNB rfl,λp hp=>?_⟩
  have x1:=Ex.new (C:=C) (o:=.lst [Yt k1,.tup [.str "pair",Yt k2,Yt k1]]) hp
  refine⟨_,rfl,_,_,Ze,x1 _ _ hB,Yv (by show 2+_<=_;omega),λp2 hp2=>?_⟩
  have x2:=x1.trans (Ex.new (o:=.lst ([Yt k1,.tup [.str "pair",Yt k2,Yt k1]]++(k2::r2).map Yt)) hp2)
  refine⟨_,rfl,_,_,Ze,x2 _ _ hA,Yv (by rw[List.length_append];show 2+_+_<=_;omega),λp3 hp3=>?_⟩
  have x3:=x2.trans (Ex.new (o:=.lst ([Yt k1,.tup [.str "pair",Yt k2,Yt k1]]++(k2::r2).map Yt++(k1::r1).map Yt)) hp3)
  refine⟨_,rfl,_,_,x3 _ _ hA,Z4,ZNB rfl,λp4 hp4=>?_⟩
  have n4:p3≠p4:=λe=>by rw[e,Ze] at hp4;cases hp4
  refine⟨_,_,by rw[Zg n4];exact Ze,Ze,Yv (by rw[List.length_append,List.length_append];show 2+_+_+1<=_;omega),λp5 hp5=>?_⟩
  exact q _ _ ((x3.trans (Ex.new hp4)).trans (Ex.new hp5)) (x3.free ((Ex.new hp4).free hp5)) (by rw[Ze];simp[Gs,Yt,Lc])
end
def zq {t:Tr}{G:Ev}{k:Kd}{cs:List (Ev×Tr×Kd)}(h:Y1 t G k cs):t.size=1+(cs.map λc=>c.2.1.size).sum:=by
 cases h with
 | lt=>show 1+_=1+_;rw[List.map_append,List.sum_append,List.map_map];simp[Function.comp_def]
 | _=>simp[Tr.size]
mutual
def HT.len {G:Ev}{t:Tr}{k:Kd}{R:List Kd}:HT G t k R->R.length=t.size
 | .mk r h=>by rw[zq r,<-HTs.len h,YF];omega
def HTs.len {cs:List (Ev×Tr×Kd)}{R:List Kd}:HTs cs R->R.length=(cs.map λc=>c.2.1.size).sum
 | .nil=>rfl
 | .cons a b=>by rw[List.length_append,HT.len a,HTs.len b];rfl
end
def Q5:∀{m n:Nat} {k:Kd},Nk m k->m<=n->Je (Yt k) n=true
 | 0,_,_,h,_=>h.elim
 | _+1,0,_,_,h=>absurd h (Nat.not_succ_le_zero _)
 | m+1,n+1,.op i,_,_=>by simp[Yt,Je,Yp]
 | m+1,n+1,.k0 g,_,_=>by simp[Yt,Je,Yp]
 | m+1,n+1,.k1 g a,h,e=>by
  have:=Q5 (h.2 a (by simp[zF])) (Nat.le_of_succ_le_succ e)
  simp[Yt,Je,Yp,this]
 | m+1,n+1,.k2 g a b,h,e=>by
  have h1:=Q5 (h.2 a (by simp[zF])) (Nat.le_of_succ_le_succ e)
  have h2:=Q5 (h.2 b (by simp[zF])) (Nat.le_of_succ_le_succ e)
  simp[Yt,Je,Yp,h1,h2]
def Q4 {m n:Nat}:∀{R:List Kd},(∀k∈R,Nk m k)->m<=n->Yp (R.map Yt) n=true
 | [],_,_=>rfl
 | k::R,h,e=>by
  show(Je (Yt k) n&&Yp (R.map Yt) n)=true
  rw[Q5 (h k (List.mem_cons_self ..)) e,Q4 (λk hk=>h k (XV _ hk)) e];rfl
def Hz {C:Hw}{a b:Addr}{R:List Kd}{m:Nat}(ha:C a=some (.lst (R.map Yt)))(hb:C b=some (.lst (R.map Yt)))(h:∀k∈R,Nk m k)(hm:m<=98):uy C 100 (.ref a) (.ref b) true:=by
 refine .inr (.inr ⟨_,_,_,_,λ_=>true,rfl,rfl,ha,hb,λ_ j x y hx hy=>?_,?_⟩)
 ·rw[hx] at hy
  cases hy
  obtain⟨k,hk,rfl⟩:=XR.mp (List.mem_of_getElem? hx)
  have hf:=Q5 (h k hk) hm
  exact .inl ⟨hf,hf,(Su _ hf).symm⟩
 ·rw[XY rfl];exact(List.all_eq_true.mpr λ_ _=>rfl).symm
def jW {R:List Kd}{m:Nat}(h:∀k∈R,Nk m k)(hm:m<=100):Tj (R.map Yt) (R.map Yt)=true:=Ob _ (Q4 h hm)
def Fu {f:Nat->Nat}:∀{m:Nat} {k:Kd},Nk m k->Nk m (k.put λi=>.op (f i))
 | 0,_,h=>h.elim
 | _+1,.op _,_=>trivial
 | _+1,.k0 _,h=>h
 | m+1,.k1 g a,h=>⟨h.1,λb hb=>by rw[List.mem_singleton.mp hb];exact Fu (h.2 a (by simp[zF]))⟩
 | m+1,.k2 g a b,h=>⟨h.1,λc hc=>by
   simp only[Kd.put,zF,List.mem_cons,List.not_mem_nil,or_false] at hc
   rcases hc with rfl | rfl
   ·exact Fu (h.2 _ (by simp[zF]))
   ·exact Fu (h.2 _ (by simp[zF]))⟩
def kj:T.int ((10:Int)^(3:Int).toNat)=nT 1000:=congrArg T.int (by decide)
structure Pp (f:Nat)(t:Tr)(R:List Kd):Prop where
 lg:Lg f t
 b:Gw t R
 k:∀r∈R,Nk (2*f+3) r
 l:R.length=t.size
 n:∃n,ext [] (R.map Kd.ops).flatten=List.range n/\n<=1+3*t.size
def Pp.same {f:Nat}{t:Tr}{R:List Kd}(h:Pp f t R):Ln R=R:=by
 obtain⟨n,e,_⟩:=h.n
 exact jy e
def Pp.op {f:Nat}{t:Tr}{R:List Kd}(h:Pp f t R):(Of R).length<=1+3*t.size:=by
 obtain⟨n,e,l⟩:=h.n
 have e:Of R=List.range n:=e
 rw[e,List.length_range];exact l
section
variable {C C':Hw}{Q:WK}{χ:WX}{n f w:Nat}{x:Str}{t t1 t2:Tr}{R R1 R2 RW:List Kd}
def yX (hg:Lg f t)(hf:f<=100)(hz:t.size<=600)(q:∀C' p R,Ex C C'->C p=none->C' p=some (.lst (R.map Yt))->Pp f t R->Q (.ref p) C'):Ye pr (n+(2*f+3)+7) Ah [tt t] C Q χ:=by
 obtain⟨k,R0,h1,h2⟩:=hg.h
 have hs:=hg.s
 refine wq (n:=n) hg.c hg.l (by omega) hz (by omega) ⟨k,R0,h1⟩ λC' p R x fr e b nn=>q C' p R x fr e ⟨hg,b,vC b h1 h2,?_,?_⟩
 ·obtain⟨k,hk⟩:=b.is
  exact HT.len hk
 ·obtain⟨n,e,l⟩:=nn
  exact⟨n,e,by omega⟩
end
def Nm {α β:Type}{xs:List α}{f:α->β}{lo hi:Option Int}:Pd (xs.map f) lo hi=(Pd xs lo hi).map f:=by
 unfold Pd
 rw[XI,List.map_take,List.map_drop]
section
variable {C C':Hw}{Q:WK}{χ:WX}{x0 x1 x3:Option T}{v:Int}{x:Str}{t1 t2:Tr}{R1 R2 RW:List Kd}{pw p1 p2:Addr}
def vR (P1:Pp 6 t1 R1)(P2:Pp 6 t2 R2)(PW:Pp 7 (wh x t1 t2 (v%7).toNat) RW)(s1:t1.size<=250)(s2:t2.size<=250)(h1:C p1=some (.lst (R1.map Yt)))(h2:C p2=some (.lst (R2.map Yt)))(hW:C pw=some (.lst (RW.map Yt)))(q:∀C',Q (.bl true) C'):
  w_law_t2 (Ye pr 59) {nx:=λ_ C'=>Q .non C',rt:=Q,xc:=χ} [x0,x1,some (.int v),x3,some (tt t1),some (tt t2),some (tt (wh x t1 t2 (v%7).toNat)),some (.ref pw),some (.ref p1),some (.ref p2),none,none] C:=by
 have hw7:(v%7).toNat<7:=by omega
 have hwi:v%7=(((v%7).toNat:Nat):Int):=by omega
 have l1:=P1.l
 have l2:=P2.l
 unfold w_law_t2 M9
 refine⟨_,rfl,_,rfl,?_⟩
 dsimp only[Zw]
 refine Vr (n:=43) (m:=15) P1.k h1 (by have:=P1.op;omega) (by omega) λC1 q1 y1 f1 e1=>?_
 rw[P1.same] at e1
 refine⟨true,Hz (y1 _ _ h1) e1 P1.k (by decide),_,rfl,Zj ?_⟩
 refine⟨_,rfl,_,rfl,?_⟩
 dsimp only[Zw]
 refine Vr (n:=43) (m:=15) P2.k (y1 _ _ h2) (by have:=P2.op;omega) (by omega) λC2 q2 y2 f2 e2=>?_
 rw[P2.same] at e2
 refine⟨true,Hz (y2 _ _ (y1 _ _ h2)) e2 P2.k (by decide),_,rfl,Zj ?_⟩
 have g1:=y2 _ _ (y1 _ _ h1)
 have g2:=y2 _ _ (y1 _ _ h2)
 have gW:=y2 _ _ (y1 _ _ hW)
 clear e1 e2 f1 f2 y1 y2 h1 h2 hW
 refine⟨_,rfl,_,g2,?_⟩
 refine Xp (λi acc C'=>Ex C2 C'/\acc=(R2.take i).map λk=>Yt (Si k)) ⟨Ex.refl _,rfl⟩ (λi acc C' _ h=>h.1 _ _ g2) ?_ ?_
 ·rintro i y acc C3 N hy ⟨y3,rfl⟩ hN
  rw[XM] at hy
  obtain⟨k,hk,rfl⟩:∃a,R2[i]?=some a/\Yt a=y:=by
   cases e:R2[i]? with
   | none=>rw[e] at hy;cases hy
   | some p=>rw[e] at hy;exact⟨p,rfl,YH hy⟩
  have hi:i<R2.length:=(List.getElem?_eq_some_iff.mp hk).1
  refine Z2 (q:=N ((R2.take i).map λk=>Yt (Si k)) C3) ⟨_,rfl,⟨by decide,by decide,by decide⟩,?_⟩
  rw[kj]
  dsimp only[Zw]
  refine Fd 15 44 k 1000 C3 (P2.k k (List.mem_of_getElem? hk)) λC4 y4=>⟨Yj (by rw[XI,YM];omega),hN _ _ ⟨y3.trans y4,?_⟩⟩
  rw[YD,hk,XL];rfl
 ·rintro acc C3 ⟨y3,rfl⟩ p3 hp3
  rw[XI,List.take_length]
  have y4:=y3.trans (Ex.new (o:=.lst (R2.map λk=>Yt (Si k))) hp3)
  have g3:up C3 p3 (.lst (R2.map λk=>Yt (Si k))) p3=some (.lst ((R2.map Si).map Yt)):=by rw[Ze,YE];rfl
  have g1:=y4 _ _ g1
  have gW:=y4 _ _ gW
  generalize up C3 p3 (.lst (R2.map λk=>Yt (Si k)))=C4 at g3 g1 gW
  clear y3 y4 hp3 g2
  refine⟨_,rfl,by decide,_,rfl,_,rfl,?_⟩
  dsimp only[Zw]
  rw[hwi]
  obtain⟨n1,b1,b1'⟩:=P1.n
  obtain⟨n2,b2,b2'⟩:=P2.n
  have T2:yd 15 t1 t2 R1 R2:=⟨P1.lg.c,P2.lg.c,P1.b,P2.b,j8 b1 (by omega),j8 b2 (by omega)⟩
  obtain⟨k1,r1,k2,r2,e1,e2,H1,H2⟩:=T2.h
  have W:=xR (x:=x) (w:=(v%7).toNat) T2 e1 e2 H1 H2
  have BW:=Eu (xu W.1 W.2) PW.b
  have hl2:(k2::r2).length=R2.length:=by rw[<-e2,XI]
  have NA:=tO (w:=(v%7).toNat) P1.k (R2:=R2.map Si) (λk hk=>by obtain⟨k',h,rfl⟩:=XR.mp hk;exact Fu (P2.k k' h)) (P1.k k1 (by rw[e1];exact List.mem_cons_self ..)) (show Nk 15 k2 from by
   have:k2∈R2.map Si:=by rw[e2];exact List.mem_cons_self ..
   obtain⟨k',h,rfl⟩:=XR.mp this
   exact Fu (P2.k k' h))
  have OA:(Of (Gs k1 k2 R1 (R2.map Si) (v%7).toNat)).length<=90000:=by
   obtain⟨nW,bW,bW'⟩:=PW.n
   have e:=B5 (R:=Gs k1 k2 R1 (R2.map Si) (v%7).toNat)
   rw[BW,bW] at e
   have e:=congrArg List.length e
   rw[List.length_range,List.length_range] at e
   have:=Bp (x:=x) (t1:=t1) (t2:=t2) (w:=(v%7).toNat)
   omega
  have LA:=tT (k1:=k1) (k2:=k2) (R1:=R1) (R2:=R2.map Si) (w:=(v%7).toNat)
  rw[XI] at LA
  rw[e1] at g1
  rw[e2] at g3
  refine ww (n:=58) hw7 g1 g3 (by have:=congrArg List.length e1;rw[YF] at this;omega) (by rw[YF] at hl2;omega) λC5 p5 y5 f5 g5=>?_
  rw[<-e1,<-e2] at g5
  refine Vr (n:=42) (m:=16) NA g5 OA (by omega) λC6 p6 y6 f6 g6=>?_
  rw[BW] at g6
  have gW:=y6 _ _ (y5 _ _ gW)
  refine⟨_,rfl,"list",.inl ⟨rfl,_,gW⟩,_,rfl,Z2 ?_⟩
  refine⟨_,rfl,_,rfl,_,_,gW,g6,λ_=>⟨Q4 PW.k (by decide),Q4 PW.k (by decide)⟩,?_⟩
  refine⟨_,rfl,Ko (jW PW.k (by decide)) ?_⟩
  refine⟨_,rfl,?_⟩
  dsimp only[Zw]
  refine yX (n:=35) PW.lg (by decide) (by have:=Bp (x:=x) (t1:=t1) (t2:=t2) (w:=(v%7).toNat);omega) λC7 p7 R7 y7 f7 g7 P7=>?_
  rw[Eu P7.b PW.b] at g7
  exact⟨_,rfl,true,Hz g7 (y7 _ _ g6) PW.k (by decide),q _⟩
def Bo (g1:Lg 6 t1)(g2:Lg 6 t2)(s1:t1.size<=250)(s2:t2.size<=250)(hW:(v/7%2==1)=true->∃RW,Pp 7 (wh x t1 t2 (v%7).toNat) RW/\C pw=some (.lst (RW.map Yt)))(q:∀C',Q (.bl true) C'):
  w_law_t3 (Ye pr 59) {nx:=λ_ C'=>Q .non C',rt:=Q,xc:=χ} [x0,x1,some (.int v),x3,some (tt t1),some (tt t2),some (tt (wh x t1 t2 (v%7).toNat)),some (.ref pw),none,none,none,none] C:=by
 unfold w_law_t3 M8
 refine⟨_,rfl,?_⟩
 dsimp only[Zw]
 refine yX (n:=37) g1 (by decide) (by omega) λC1 p1 R1 y1 f1 h1 P1=>?_
 refine⟨_,rfl,?_⟩
 dsimp only[Zw]
 refine yX (n:=37) g2 (by decide) (by omega) λC2 p2 R2 y2 f2 h2 P2=>?_
 refine⟨_,rfl,⟨by decide,by decide⟩,by decide,Yc rfl ⟨_,rfl,Af (λc=>?_) (λc=>?_)⟩⟩
 ·refine⟨_,rfl,?_⟩
  dsimp only[Zw]
  refine yX (n:=35) (ud g1 g2) (by decide) (by have:=Bp (x:=x) (t1:=t1) (t2:=t2) (w:=(v%7).toNat);omega) λC3 p3 R3 y3 f3 h3 P3=>?_
  exact vR P1 P2 P3 s1 s2 (y3 _ _ (y2 _ _ h1)) (y3 _ _ h2) h3 q
 ·obtain⟨RW,PW,hW⟩:=hW (by
   have:v/7%2=0\/v/7%2=1:=by omega
   rcases this with e | e
   ·rw[e] at c;cases c
   ·rw[e];rfl)
  exact vR P1 P2 PW s1 s2 (y2 _ _ h1) h2 (y2 _ _ (y1 _ _ hW)) q
end
def Bt {n:Nat}{C:Hw}{Q:WK}{χ:WX}{a:Addr}{cs:List Int}(h:C a=some (.lst (cs.map T.int)))(q:∀t C' (ds:List Int),E3 a C C'->C' a=some (.lst (ds.map T.int))->Lg 6 t->t.size+12*ds.length<=12*cs.length+6->Q (tt t) C'):Ye pr (n+15) Oj [.ref a,.int 6] C Q χ:=yU 6 (n:=n) h q
def law_true (ns:List Int)(h63:ns.length<=63):Ye pr 60 pD [.cl (ns.map T.int)] (λ_=>none) (λv _=>v=.bl true) (λ_ _=>False):=by
 refine rY rfl ?_
 unfold w_law A5
 refine⟨_,rfl,_,rfl,_,rfl,λpc hpc=>?_⟩
 rw[Nm]
 have lc:(Pd ns (some 1) (some 41)).length<=40:=by
  unfold Pd
  rw[YM,List.length_drop]
  have:HT.sIx ns.length ns.length (some 41)<=41:=by
   have:=HT.sIx_nat ns.length ns.length 41
   rw[show((41:Nat):Int)=41 from rfl] at this
   omega
  have:HT.sIx ns.length 0 (some 1)=min 1 ns.length:=HT.sIx_nat ns.length 0 1
  omega
 generalize hcs:Pd ns (some 1) (some 41)=cs at lc
 have C1:up (λ_=>none) pc (.lst (cs.map T.int)) pc=some (.lst (cs.map T.int)):=Ze
 generalize up (λ_=>none) pc (.lst (cs.map T.int))=H1 at C1
 refine⟨_,rfl,_,rfl,λp2 hp2=>?_⟩
 rw[Nm]
 refine⟨_,rfl,_,Ze,λp3 hp3=>?_⟩
 have C3:=(Ex.new (o:=.lst ((Pd ns none (some 1)).map T.int)) hp3) _ _ ((Ex.new (o:=.lst ((Pd ns none (some 1)).map T.int)) hp2) _ _ C1)
 have n3:pc≠p3:=J1 ((Ex.new (o:=.lst ((Pd ns none (some 1)).map T.int)) hp2) _ _ C1) hp3
 dsimp only[Zw]
 refine Bu (n:=58) Ze λv H4 ds e4 _ _ _=>?_
 have C4:=e4 _ _ n3 C3
 clear C3 hp2 hp3 e4
 refine⟨_,rfl,_,rfl,_,C4,⟨by decide,by decide⟩,?_⟩
 have hh:((cs.map T.int).length:Int)/2=((cs.length/2:Nat):Int):=by rw[XI];omega
 rw[hh]
 refine⟨_,rfl,_,rfl,_,rfl,_,C4,λp5 hp5=>⟨_,_,rfl,Ze,λp6 hp6=>?_⟩⟩
 rw[Nm] at hp6 |-
 rw[<-List.map_reverse]
 have la:(Pd cs none (some ((cs.length/2:Nat):Int))).reverse.length<=20:=by
  unfold Pd
  rw[List.length_reverse,YM,HT.sIx_nat]
  omega
 have x5:=Ex.new (o:=.lst ((Pd cs none (some ((cs.length/2:Nat):Int))).map T.int)) hp5
 have x6:=Ex.new (o:=.lst ((Pd cs none (some ((cs.length/2:Nat):Int))).reverse.map T.int)) hp6
 have C6:=x6 _ _ (x5 _ _ C4)
 have n6:pc≠p6:=J1 (x5 _ _ C4) hp6
 dsimp only[Zw,Ya,eC]
 refine Bt (n:=44) Ze λt1 H7 ds7 e7 _ g1 s1=>?_
 have C7:=e7 _ _ n6 C6
 clear x5 x6 C6 n6 hp5 hp6 e7
 refine⟨_,rfl,_,rfl,_,rfl,_,C7,λp8 hp8=>⟨_,_,rfl,Ze,λp9 hp9=>?_⟩⟩
 rw[Nm,<-List.map_reverse]
 have lb:(Pd cs (some ((cs.length/2:Nat):Int)) none).reverse.length<=20:=by
  unfold Pd
  rw[List.length_reverse,YM,List.length_drop,HT.sIx_nat,HT.sIx_none]
  omega
 dsimp only[Zw,Ya,eC]
 refine Bt (n:=44) Ze λt2 H10 ds10 e10 _ g2 s2=>?_
 have s1:t1.size<=250:=by omega
 have s2:t2.size<=250:=by omega
 have h0:0<=v/14%10^(6:Int).toNat:=YO _ (by decide)
 have h1:v/14%10^(6:Int).toNat<1000000000000000000:=Int.lt_trans (Int.emod_lt_of_pos _ (by decide)) (by decide)
 have hle:=Dt h0 h1
 have hw7:(v%7).toNat<7:=by omega
 have hwi:v%7=(((v%7).toNat:Nat):Int):=by omega
 refine⟨_,rfl,by decide,_,rfl,⟨by decide,by decide⟩,⟨by decide,by decide,by decide⟩,by decide,.inl ⟨_,rfl,jz h0 h1,Vx (by show 1+_<=_;omega),_,rfl,_,rfl,?_⟩⟩
 dsimp only[Zw]
 rw[hwi]
 refine Dc (n:=58) hw7 ⟨XO _,λpw hpw=>?_⟩
 refine⟨_,rfl,⟨by decide,by decide⟩,by decide,Yc rfl ⟨_,rfl,Af (λc=>?_) (λc=>?_)⟩⟩
 ·refine⟨_,rfl,?_⟩
  dsimp only[Zw]
  refine yX (n:=35) (ud g1 g2) (by decide) (by have:=Bp (x:=("z":Str)++Str.ofString (toString (v/14%10^(6:Int).toNat))) (t1:=t1) (t2:=t2) (w:=(v%7).toNat);omega) λC3 p3 R3 y3 f3 h3 P3=>?_
  exact Bo g1 g2 s1 s2 (λ_=>⟨R3,P3,h3⟩) λ_=>rfl
 ·exact Bo g1 g2 s1 s2 (λe=>by rw[e] at c;cases c) λ_=>rfl
end K24
open PySem PySem.W PyProof.Rows
def PySem.W.Fast.tw1019605063179484005:=True
def PySem.W.Fast.tw3794651063551140176:=True
def PySem.W.Fast.tw14138805380585683368:PySem.Program:=PySem.Challenge.pw_idlegraph_k24_two_papers_put_together
def PySem.W.Fast.te14138805380585683368:PySem.Challenge.pw_idlegraph_k24_two_papers_put_together=PySem.W.Fast.tw14138805380585683368:=rfl
def PySem.W.Fast.tw8735407410490860064:=True
def PySem.W.Fast.tw11972789228634846193:=True
def PySem.W.Fast.tw6304354620068684563:=True
def PySem.W.Fast.tw9325426384402414710:=True
def PySem.W.Fast.tw14617213858755508470:=True
def PySem.W.Fast.tw7542114271764334410:=True
def PySem.W.Fast.tw6906329444679541430:=True
def PySem.W.Fast.tw3138119017913820662:=True
def PySem.W.Fast.tw15809607842332559975:=True
def PySem.W.Fast.tw8333937261304689491:=True
def PySem.W.Fast.tw2450506599178599461:=True
def PySem.W.Fast.tw18095979693042711908:=True
def PySem.W.Fast.tw7141036366447128347:=True
def PySem.W.Fast.tw4309935243698110499:=True
def PySem.W.Fast.tw1824801059838544592:=True
def PySem.W.Fast.tw6094175870187848826:=True
def PySem.W.Fast.tw11882922998858749121:=True
def PySem.W.Fast.tw13422770968327071705:=True
def PySem.W.Fast.tw9503837842524144543:=True
def PySem.W.Fast.tw2354758019214662906:=True
def PySem.W.Fast.tw12728075054199177369:=True
def PySem.W.Fast.tw13535880027884864721:=True
def PySem.W.Fast.tw9184051707683794383:=True
def PySem.W.Fast.tw16316989800562683468:=True
def PySem.W.Fast.tw10013418318605029426:=True
def PySem.W.Fast.tw7654617185267496188:=True
def PySem.W.Fast.tw16710841781797437891:=True
def PySem.W.Fast.tw5451435226787592289:=True
def PySem.W.Fast.tw15779776930825349720:=True
def PySem.W.Fast.tw2924696341836714325:=True
def PySem.W.Fast.tw3090102477460630352:=True
def PySem.W.Fast.tw10925759120112230972:=True
def PySem.W.Fast.tw1989662734525911779:=True
def PySem.W.Fast.tw1891316001671407911:=True
def PySem.W.Fast.tw10665045951166556487:=True
def PySem.W.Fast.tw5457856462109373379:=True
def PySem.W.Fast.tw492368664269566558:=True
def PySem.W.Fast.tw10074489491147953626:=True
def PySem.W.Fast.tw15474933077364331174:=True
def PySem.W.Fast.tw10010573118382017154:=True
def PySem.W.Fast.tw12169458068929571805:=True
def PySem.W.Fast.tw3818936845236411673:=True
def PySem.W.Fast.tw17233761063311318050:=True
def PySem.W.Fast.tw14917801531909333670:=True
def PySem.W.Fast.tw4173417160565347646:=True
def PySem.W.Fast.tw3888501423784854034:=True
def PySem.W.Fast.tw7889344413050127526:=True
def PySem.W.Fast.tw4764056463873869105:=True
def PySem.W.Fast.tw1700873779044805282:=True
def PySem.W.Fast.tw14928325851937363672:=True
def PySem.W.Fast.tw13765584129560344558:=True
def PySem.W.Fast.tw2703832394952668200:=True
def PySem.W.Fast.tw17264558855820881099:=True
def PySem.W.Fast.tw1343157002194519721:=True
def PySem.W.Fast.tw10865564346470168420:=True
def PySem.W.Fast.tw5917928869153262472:=True
def PySem.W.Fast.tw8738408220817285457:=True
def PySem.W.Fast.tw10164221128513824631:=True
def PySem.W.Fast.tw16994713446037035940:=True
def PySem.W.Fast.tw2916350178538631152:=True
def PySem.W.Fast.tw12256198209879505342:=True
def PySem.W.Fast.tw949558837962466197:=True
def PySem.W.Fast.tw12442676434581743523:=True
set_option maxRecDepth 100000 in
set_option maxHeartbeats 0 in
theorem PySem.Challenge.cw_idlegraph_k24_two_papers_put_together_holds : PySem.Challenge.rw_idlegraph_k24_two_papers_put_together.Holds := by
 w_on;o_law;k_head;(case hw=>w_witness2)
 k_fill
 refine L2.walk_ofK (l:=PySem.Challenge.rw_idlegraph_k24_two_papers_put_together) (n:=63) (k:=60) (x:="_law_script") (CX:=L2.CX0) (sp:=λK=>WL.spW K K24.pr 60 29) rfl (by decide) rfl ⟨rfl,by decide,by decide⟩ (λw h Y=>PySem.W.kIn_of Y) ?F (λK H a ns hl hO hS=>WL.law_sp hO hS (K24.law_true ns hl)) (λ_ _ _ _ z=>z)
 case F=>
  intro w mg fa h KX G hmg
  refine' K24.all_mk KX G hmg ?aC_Slots ?pg_Slots ?hd_Slots ?po_Slots ?sa_Slots ?kc_Slots ?mk_Slots ?nf_Slots_forms ?nf_Slots_leads ?gg0_l0 ?gg0_l1 ?gg0_l2 ?gg0_l3 ?gg0_l4 ?mm_l5 ?mm_l6 ?mm_l7 ?mm_l8 ?mm_l9 ?mm_l10 ?mm_l11 ?gg0_l12 ?gg0_l13 ?gg0_l14 ?gg0_l15 ?gg0_l16 ?gg0_l17 ?gg0_l18 ?gg0_l19 ?gg0_l20 ?gg0_l21 ?gg0_l22 ?gg0_l23 ?gg0_l24 ?gg0_l25 ?gg0_l26 ?gg0_l27 ?gg0_l28 ?gg0_l29 ?z_any ?z_dict ?z_isinstance ?z_len ?z_list ?z_reversed ?z_sorted ?z_str ?z_tuple ?z_zip
  case aC_Slots | pg_Slots | hd_Slots | po_Slots | sa_Slots | kc_Slots | mk_Slots | nf_Slots_forms | nf_Slots_leads | z_any | z_dict | z_isinstance | z_len | z_list | z_reversed | z_sorted | z_str | z_tuple | z_zip=>k_is
  case gg0_l0 | gg0_l1 | gg0_l2 | gg0_l3 | gg0_l4 | gg0_l12 | gg0_l13 | gg0_l14 | gg0_l15 | gg0_l16 | gg0_l17 | gg0_l18 | gg0_l19 | gg0_l20 | gg0_l21 | gg0_l22 | gg0_l23 | gg0_l24 | gg0_l25 | gg0_l26 | gg0_l27 | gg0_l28 | gg0_l29=>exact⟨_,_,by k_is,⟨_,_,_,_,_,_,_,_,_,rfl,by k_is,by k_is⟩,by k_is⟩
  case mm_l5 | mm_l6 | mm_l7 | mm_l8 | mm_l9 | mm_l10 | mm_l11=>exact⟨_,_,⟨by k_is,by k_is,by k_is⟩,⟨_,_,_,_,_,_,_,_,_,rfl,by k_is,by k_is⟩,by k_is⟩
