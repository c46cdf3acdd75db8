import PyProof.Rows.All
import Wide.All
import OpenK.AllK
import Wide.FinOn
import Lean
import PyProof.EqAt
import PyProof.EqKinds
import PyProof.TupleCall
import KE.KRevIter
import KE.KDictList
import PyProof.ZipIter
import PyProof.Draws
import PyProof.DictWalks
import PyProof.AttrMiss
import PyProof.FactsAll.zip_1
import KE.KDictOf
import PyProof.Rows.FStr
import PyProof.AutoSeq1
import PyProof.EnumMake
import PyProof.CallType
import PyProof.Rows.CallKwBuiltin
import PyProof.DictUpdate
import PyProof.NoPylong
import KE.KDictMeth
import PyProof.DictItemsLoops
import PyProof.SumWalk
import PyProof.SumWalkG
import PyProof.Rows.SumGenD
import PyProof.Rows.StrIntSpec
import PySem.Challenge.RW_idlegraph_k23_whole_no_kind_too_narrow
set_option Elab.async false
set_option linter.all false
set_option maxRecDepth 100000
set_option maxHeartbeats 4000000
set_option genSizeOf false
set_option compiler.extract_closed false
def XA:=@PySem.wpAny_bind
def XB:=@PySem.wpAny_pure
def XC:=@PySem.Heap.get?_push_of_some
def XD:=@PySem.Heap.lt_size
def XE:=@Nat.le_refl
def XF:=@PySem.Heap.get?_push_size
def XG:=@Nat.lt_of_lt_of_le
def XH:=@Nat.ne_of_lt
def XI:=@List.length_map
def XJ:=@List.size_toArray
def XL:=@List.map_append
def XM:=@List.getElem?_map
def XN:=@Nat.le_trans
def XO:=@Nat.zero_le
def XQ:=@List.mem_singleton
def XR:=@List.mem_map
def XS:=@List.mem_append
def XT:=@List.mem_append_right
def XU:=@beq_self_eq_true
def XV:=@List.mem_cons_of_mem
def XW:=@Int.le_refl
def XX:=@if_neg
def XY:=@if_pos
def XZ:=@PySem.F.plainAttrs_list
def YA:=@PySem.F.type_list_append
def YB:=@PySem.F.slot_list_append
def YC:=@PySem.Str.length_append
def YD:=@List.take_add_one
def YE:=@List.map_map
def YF:=@List.length_cons
def YG:=@decide_eq_false
def YH:=@Option.some.inj
def YI:=@List.map_cons
def YJ:=@Bool.false_ne_true
def YK:=@List.append_nil
def YL:=@List.append_assoc
def YM:=@List.length_take
def YN:=@List.getElem_mem
def YO:=@Int.emod_nonneg
def ZNB {a b:Nat} (h:Nat.ble a b=true):a<=b:=Nat.le_of_ble_eq_true h
def ZM {α:Type}{x a:α}{l:List α}:x∈a::l↔x=a\/x∈l:=List.mem_cons
def ZN {α:Type}{x:α}:x∈([]:List α)↔False:=⟨List.not_mem_nil,False.elim⟩
namespace L2
open PySem PySem.Spec PyProof.Rows
abbrev Zz:=Sum Int Str
def Lf:Zz->Value->Bool
 | .inl k,v=>Value.isInt k v
 | .inr x,v=>Value.isStrOf x v
def iQ (w:World):Zz->Int
 | .inl k=>hashInt k
 | .inr x=>hashStr w x
def Y1:∀{k:Zz} {v:Value},Lf k v=true->(∃i t,k=Sum.inl i/\v=Value.int i t)\/(∃x t,k=Sum.inr x/\v=Value.str x t)
 | .inl i,v,h=>by
  obtain⟨t,e⟩:=Value.isInt_shape (k:=i) (v:=v) h
  exact .inl ⟨i,t,rfl,e⟩
 | .inr x,v,h=>by
  obtain⟨t,e⟩:=Value.isStrOf_shape (x:=x) (v:=v) h
  exact .inr ⟨x,t,rfl,e⟩
def jA (i:Int)(t:Tok):Lf (.inl i) (.int i t)=true:=by simp[Lf,Value.isInt]
def j9 (x:Str)(t:Tok):Lf (.inr x) (.str x t)=true:=by simp[Lf,Value.isStrOf]
def pH (a b:Int):decide ((Sum.inl a:Zz)=Sum.inl b)=(a==b):=by
 by_cases e:a=b
 ·subst e;simp
 ·have h:¬(Sum.inl a:Zz)=Sum.inl b:=λq=>e (Sum.inl.inj q)
  rw[YG h]
  exact(beq_eq_false_iff_ne.mpr e).symm
def pE (a b:Str):decide ((Sum.inr a:Zz)=Sum.inr b)=decide (a=b):=by
 by_cases e:a=b
 ·subst e;simp
 ·have h:¬(Sum.inr a:Zz)=Sum.inr b:=λq=>e (Sum.inr.inj q)
  rw[YG h,YG e]
def pG (a:Int)(b:Str):decide ((Sum.inl a:Zz)=Sum.inr b)=false:=YG (λq=>nomatch q)
def pF (a:Str)(b:Int):decide ((Sum.inr a:Zz)=Sum.inl b)=false:=YG (λq=>nomatch q)
def Yc (prog:Program)(w:World):PySem.KeyKind prog w Zz where
 is:=Lf
 hash:=iQ w
 inj:=λv a b ha hb=>by
  rcases Y1 ha with⟨i,t,rfl,rfl⟩ | ⟨x,t,rfl,rfl⟩
  ·rcases Y1 hb with⟨j,u,rfl,e⟩ | ⟨y,u,rfl,e⟩
   ·injection e with e1 _;rw[e1]
   ·exact nomatch e
  ·rcases Y1 hb with⟨j,u,rfl,e⟩ | ⟨y,u,rfl,e⟩
   ·exact nomatch e
   ·injection e with e1 _;rw[e1]
 byValue:=λk v h=>by
  rcases Y1 h with⟨i,t,rfl,rfl⟩ | ⟨x,t,rfl,rfl⟩<;>rfl
 pyHash:=λhv h=>by
  rcases Y1 hv with⟨i,t,rfl,rfl⟩ | ⟨x,t,rfl,rfl⟩
  ·exact wpAny_pyHash_int h
  ·exact wpAny_pyHash_str h
 eqBool:=λhu hv h=>by
  rcases Y1 hu with⟨i,t,rfl,rfl⟩ | ⟨x,t,rfl,rfl⟩
  ·rcases Y1 hv with⟨j,u,rfl,rfl⟩ | ⟨y,u,rfl,rfl⟩
   ·rw[pH] at h;exact wpAny_eqBool_int h
   ·rw[pG] at h;exact SeqAt.EqAt.int_str i t y u _ _ _ _ h
  ·rcases Y1 hv with⟨j,u,rfl,rfl⟩ | ⟨y,u,rfl,rfl⟩
   ·rw[pF] at h;exact SeqAt.EqAt.str_int x t j u _ _ _ _ h
   ·rw[pE] at h;exact wpAny_eqBool_str h
 «strs»:=λk x t v h=>by
  rcases Y1 h with⟨i,u,rfl,e⟩ | ⟨y,u,rfl,e⟩
  ·exact nomatch e
  ·injection e with e1 _
   subst e1
   cases v<;>rfl
def zt (prog:Program)(w:World)(k:Zz)(v:Value):(Yc prog w).is k v=Lf k v:=rfl
def Bi (prog:Program)(w:World)(i:Int)(t:Tok):(Yc prog w).is (.inl i) (.int i t)=true:=jA i t
def Bh (prog:Program)(w:World)(x:Str)(t:Tok):(Yc prog w).is (.inr x) (.str x t)=true:=j9 x t
inductive V where
 | non | bl (b:Bool) | int (i:Int) | str (x:Str) | byt (b:Array UInt8) | flt (b:UInt64) | ref (a:Addr) | ty (n:String)
 deriving DecidableEq
def Z8:V->Value->Prop
 | .non,u=>u=Value.none
 | .bl b,u=>u=Value.bool b
 | .int i,u=>∃t,u=Value.int i t
 | .str x,u=>∃t,u=Value.str x t
 | .byt b,u=>∃t,u=Value.bytes b t
 | .flt b,u=>∃t,u=Value.float b t
 | .ref a,u=>u=Value.ref a
 | .ty n,u=>u=Value.type n
abbrev Z7:List V->List Value->Prop:=Paired Z8
def Z7.length {xs:List V}{us:List Value}(r:Z7 xs us):xs.length=us.length:=Paired.length r
def Z7.get:∀{xs:List V} {us:List Value} {i:Nat} {x:V},Z7 xs us->xs[i]?=some x->∃u,us[i]?=some u/\Z8 x u
 | _,_,_,_,.nil,e=>by simp at e
 | _,_,0,_,.cons r _,e=>by simp at e;subst e;exact⟨_,rfl,r⟩
 | _,_,i+1,x,.cons _ t,e=>by
  obtain⟨u,h1,h2⟩:=Z7.get (i:=i) (x:=x) t (by simpa using e)
  exact⟨u,by simpa using h1,h2⟩
def Z7.set {x:V}{u:Value}(r:Z8 x u):∀{xs:List V} {us:List Value} (i:Nat),Z7 xs us->Z7 (xs.set i x) (us.set i u)
 | _,_,_,.nil=>.nil
 | _,_,0,.cons _ t=>.cons r t
 | _,_,i+1,.cons q t=>.cons q (Z7.set r i t)
def Z7.append:∀{xs ys:List V} {us ws:List Value},Z7 xs us->Z7 ys ws->Z7 (xs++ys) (us++ws)
 | _,_,_,_,.nil,s=>s
 | _,_,_,_,.cons r t,s=>.cons r (Z7.append t s)
def Z7.take:∀{xs:List V} {us:List Value} (n:Nat),Z7 xs us->Z7 (xs.take n) (us.take n)
 | _,_,0,_=>.nil
 | _,_,_+1,.nil=>.nil
 | _,_,n+1,.cons r t=>.cons r (Z7.take n t)
def Z7.drop:∀{xs:List V} {us:List Value} (n:Nat),Z7 xs us->Z7 (xs.drop n) (us.drop n)
 | _,_,0,r=>r
 | _,_,_+1,.nil=>.nil
 | _,_,n+1,.cons _ t=>Z7.drop n t
def Pf:Option V->Option Value->Prop
 | some v,some u=>Z8 v u
 | none,none=>True
 | _,_=>False
def KV {κ:Type}:List (κ×V)->List (κ×Value)->Prop:=Paired λ(p:κ×V) (q:κ×Value)=>p.1=q.1/\Z8 p.2 q.2
def kV:Zz->V
 | .inl i=>.int i
 | .inr x=>.str x
inductive HO where
  | lst (xs:List V)
  | tup (xs:List V)
  | dK (kvs:List (Zz×V)) | dT (kvs:List (List Zz×V))
  | set (S:Int->Bool) (n:Nat)
  | ins (C dx:Addr) (fs:List (Str×V))
  | own (x:Addr)
  | xd (fs:List (Str×V))
  | met (f x:Addr)
  | rng (lo hi:Int)
  | frz (o:Obj) (u:HO)
  | tbl (ps:Array Value)
  | ext (φ:Heap->Prop)
abbrev Hp:=Addr->Option HO
def Yq (H:Hp)(a:Addr)(o:HO):Hp:=λb=>if b=a then some o else H b
def Z3 {H:Hp}{a:Addr}{o:HO}:Yq H a o a=some o:=by unfold Yq;rw[XY rfl]
def Zt {H:Hp}{a b:Addr}{o:HO}(h:b≠a):Yq H a o b=H b:=by unfold Yq;rw[XX h]
def lD {H:Hp}{a b:Addr}{o u:HO}(h:H a=some o)(h':H b=some u)(d:o≠u):a≠b:=by
 intro e;subst e;rw[h] at h';exact d (YH h')
def Y4 {H:Hp}{a b:Addr}{o:HO}(h:H a=some o)(h':H b=none):a≠b:=by
 intro e;subst e;rw[h] at h';cases h'
section
variable (P:Program)(w:World)
def Y6 (H:Hp)(h:Heap)(a:Addr):HO->Prop
 | .lst xs=>xs.length<=sizeLine/\∃(its:List Value) (n:Nat),Z7 xs its/\h.get? a=some {cls:=.type "list",data:=.seq its.toArray n}
 | .tup xs=>xs.length<=sizeLine/\∃its:List Value,Z7 xs its/\IsTup h a its.toArray
 | .dK kvs=>kvs.length<=sizeLine/\(a==sysModules)=false/\∃vs,KV kvs vs/\h.DictOf (Yc P w) a vs
 | .dT kvs=>kvs.length<=sizeLine/\(a==sysModules)=false/\∃xs:List (List Zz×Addr×Value),
   Paired (λ(p:List Zz×V) (q:List Zz×Addr×Value)=>p.1=q.1/\H q.2.1=some (.tup (p.1.map kV))/\Z8 p.2 q.2.2) kvs xs/\
   ∃o es ep,h.get? a=some o/\o.ExactDict/\o.data=.dict es ep/\es.toList=xs.map (entryOfKey (tupleKind (Yc P w)))/\(xs.map (·.1)).Nodup
 | .set S n=>h.SetOf (intKind P w) a S n
 | .ins C dx fs=>H dx=some (.own a)/\fs.length<=1000/\dx≠a/\h.get? a=some (W.instObj C dx)/\
   ∃mA,h.Ns1 dx mA/\(∀f,Pf (fs.lookup f) (mA f))/\PySem.Within mA (fs.map (·.1))
 | .own _=>∃o,h.get? a=some o
 | .xd fs=>∃mA,h.Ns1 a mA/\∀f,Pf (fs.lookup f) (mA f)
 | .rng lo hi=>∃t u v,h.get? a=some {cls:=.type "range",data:=.fields #[.int lo t,.int hi u,.int 1 v]}
 | .frz o u=>h.get? a=some o/\Y6 H h a u
 | .tbl ps=>h.get? a=some {cls:=.none,data:=.fields ps}
 | .met f x=>h.get? a=some (W.methodObj (.ref f) (.ref x))
 | .ext φ=>φ h/\(∃o,h.get? a=some o)/\∀h1 h2:Heap,φ h1->(∀o,h1.get? a=some o->h2.get? a=some o)->φ h2
def Nb (H:Hp)(h:Heap):Prop:=∀a o,H a=some o->Y6 P w H h a o
end
section
variable {P:Program}{w:World}{H H':Hp}{h h':Heap}{a:Addr}{o:HO}
def Y6.lt (x:Y6 P w H h a o):a<h.objs.size:=by
 cases o with
 | lst xs=>obtain⟨_,_,_,_,e⟩:=x;exact XD e
 | tup xs=>obtain⟨_,_,_,p⟩:=x;exact p.lt
 | dK kvs=>obtain⟨_,_,_,_,o,_,_,e,_⟩:=x;exact XD e
 | dT kvs=>obtain⟨_,_,_,_,o,_,_,e,_⟩:=x;exact XD e
 | set S n=>obtain⟨o,_,_,_,e,_⟩:=x;exact XD e
 | ins C dx fs=>obtain⟨_,_,_,e,_⟩:=x;exact XD e
 | own y=>obtain⟨_,e⟩:=x;exact XD e
 | xd fs=>obtain⟨_,⟨_,_,_,e,_⟩,_⟩:=x;exact XD e
 | rng lo hi=>obtain⟨_,_,_,e⟩:=x;exact XD e
 | frz ob u=>obtain⟨e,_⟩:=x;exact XD e
 | tbl ps=>exact XD (show h.get? a=some _ from x)
 | met f y=>exact XD (show h.get? a=some _ from x)
 | ext φ=>obtain⟨_,⟨_,e⟩,_⟩:=x;exact XD e
def Paired.mapP {α β:Type}{F G:α->β->Prop}:∀{l₁:List α} {l₂:List β},Paired F l₁ l₂->(∀a b,F a b->G a b)->Paired G l₁ l₂
 | _,_,.nil,_=>.nil
 | _,_,.cons r t,f=>.cons (f _ _ r) (Paired.mapP t f)
def Y6.stay (x:Y6 P w H h a o)(k:∀b u,(b=a\/H b=some (.own a))->h.get? b=some u->h'.get? b=some u)
  (ho:∀b,H b=some (.own a)->H' b=some (.own a)) (ht:∀b xs,H b=some (.tup xs)->H' b=some (.tup xs)):Y6 P w H' h' a o:=by
 induction o with
 | lst xs=>obtain⟨z,its,n,r,e⟩:=x;exact⟨z,its,n,r,k _ _ (.inl rfl) e⟩
 | tup xs=>obtain⟨z,its,r,ob,e,c⟩:=x;exact⟨z,its,r,ob,k _ _ (.inl rfl) e,c⟩
 | dK kvs=>obtain⟨z,y,vs,r,ob,es,ep,e,c⟩:=x;exact⟨z,y,vs,r,ob,es,ep,k _ _ (.inl rfl) e,c⟩
 | dT kvs=>
  obtain⟨z,y,xs,r,ob,es,ep,e,c⟩:=x
  exact⟨z,y,xs,Paired.mapP r λp q z=>⟨z.1,ht _ _ z.2.1,z.2.2⟩,ob,es,ep,k _ _ (.inl rfl) e,c⟩
 | set S n=>obtain⟨ob,es,ep,t,e,c⟩:=x;exact⟨ob,es,ep,t,k _ _ (.inl rfl) e,c⟩
 | ins C dx fs=>
  obtain⟨d,z,ne,e,mA,⟨od,es,ep,e2,c⟩,r⟩:=x
  exact⟨ho _ d,z,ne,k _ _ (.inl rfl) e,mA,⟨od,es,ep,k _ _ (.inr d) e2,c⟩,r⟩
 | own y=>obtain⟨ob,e⟩:=x;exact⟨ob,k _ _ (.inl rfl) e⟩
 | xd fs=>obtain⟨mA,⟨od,es,ep,e,c⟩,r⟩:=x;exact⟨mA,⟨od,es,ep,k _ _ (.inl rfl) e,c⟩,r⟩
 | rng lo hi=>obtain⟨t,u,v,e⟩:=x;exact⟨t,u,v,k _ _ (.inl rfl) e⟩
 | frz ob u ih=>obtain⟨e,q⟩:=x;exact⟨k _ _ (.inl rfl) e,ih q⟩
 | tbl ps=>
  have e:h.get? a=some {cls:=.none,data:=.fields ps}:=x
  show h'.get? a=some {cls:=.none,data:=.fields ps}
  exact k a _ (.inl rfl) e
 | met f y=>
  have e:h.get? a=some (W.methodObj (.ref f) (.ref y)):=x
  show h'.get? a=some (W.methodObj (.ref f) (.ref y))
  exact k a _ (.inl rfl) e
 | ext φ=>obtain⟨p,⟨o,e⟩,st⟩:=x;exact⟨st _ _ p λo q=>k _ _ (.inl rfl) q,⟨o,k _ _ (.inl rfl) e⟩,st⟩
def Nb.lt (x:Nb P w H h)(e:H a=some o):a<h.objs.size:=(x a o e).lt
def Nb.fresh (x:Nb P w H h)(e:h.objs.size<=a):H a=none:=by
 cases q:H a with
 | none=>rfl
 | some u=>exact absurd (XG (x.lt q) e) (Nat.lt_irrefl _)
def Nb.kept (x:Nb P w H h)(k:∀b u,h.get? b=some u->h'.get? b=some u):Nb P w H h':=λa o e=>
 (x a o e).stay (λb u _ q=>k b u q) (λ_ q=>q) λ_ _ q=>q
def Nb.laid (x:Nb P w H h)(k:∀b u,h.get? b=some u->h'.get? b=some u)(hp:h.objs.size<=a)(new:Y6 P w (Yq H a o) h' a o):Nb P w (Yq H a o) h':=λb u e=>by
 have hn:=x.fresh hp
 by_cases hb:b=a
 ·subst hb;rw[Z3] at e;cases e;exact new
 ·rw[Zt hb] at e
  exact(x b u e).stay (λc v _ q=>k c v q) (λc q=>by rw[Zt (Y4 q hn)];exact q) λc xs q=>by rw[Zt (Y4 q hn)];exact q
end
def Rd (H:Hp)(a:Addr)(u:HO):Prop:=H a=some u\/∃o,H a=some (.frz o u)
def Rd.ok {P:Program}{w:World}{H:Hp}{h:Heap}{a:Addr}{u:HO}(r:Rd H a u)(x:Nb P w H h):Y6 P w H h a u:=by
 rcases r with r | ⟨o,r⟩
 ·exact x a u r
 ·obtain⟨_,q⟩:=x a _ r
  exact q
def ky:Option HO->Prop
 | some (.lst _)=>True
 | some (.dK _)=>True
 | some (.dT _)=>True
 | some (.set _ _)=>True
 | some (.ins _ _ _)=>True
 | some (.ext _)=>True
 | _=>False
section
variable {P:Program}{w:World}{H:Hp}{h h':Heap}{x e:Addr}{o':HO}
def Nb.write (ok:Nb P w H h)(mu:ky (H x))(he:e=x\/H e=some (.own x))(k:∀b u,b≠e->h.get? b=some u->h'.get? b=some u)(heo:∃u,h'.get? e=some u)
  (new:Y6 P w (Yq H x o') h' x o'):Nb P w (Yq H x o') h':=λb u q=>by
 have nown:∀c y,H c=some (.own y)->c≠x:=λc y r z=>by subst z;rw[r] at mu;exact mu
 have ntup:∀c xs,H c=some (.tup xs)->c≠x:=λc xs r z=>by subst z;rw[r] at mu;exact mu
 by_cases hb:b=x
 ·subst hb;rw[Z3] at q;cases q;exact new
 ·rw[Zt hb] at q
  by_cases hbe:b=e
  ·have q':H b=some (.own x):=by
    rcases he with z | z
    ·exact absurd (hbe.trans z) hb
    ·rw[hbe];exact z
   rw[q] at q';cases q'
   obtain⟨v,hv⟩:=heo
   exact⟨v,by rw[hbe];exact hv⟩
  ·refine(ok b u q).stay (λc v hc r=>k c v ?_ r) (λc r=>by rw[Zt (nown c b r)];exact r) λc xs r=>by rw[Zt (ntup c xs r)];exact r
   rcases hc with rfl | hc
   ·exact hbe
   ·rintro rfl
    rcases he with z | z
    ·exact nown c b hc z
    ·rw[hc] at z;cases z;exact hb rfl
end
structure Un (fs ex:List Addr)(H H':Hp)(h h':Heap):Prop where
 keep:∀b o,h.get? b=some o->H b=none->b∉fs->b∉ex->h'.get? b=some o
 slot:∀b o,h.get? b=some o->H b=none->b∈fs->b∉ex->∃sl,h'.get? b=some {o with slots:=sl}
 free:∀b o,h.get? b=some o->H b=none->b∉ex->H' b=none
 there:∀b o,h.get? b=some o->b∉ex->∃o',h'.get? b=some o'
 tups:∀b xs,H b=some (.tup xs)->H' b=some (.tup xs)
 frzs:∀b o u,H b=some (.frz o u)->H' b=some (.frz o u)
 tbls:∀b ps,H b=some (.tbl ps)->∃more,H' b=some (.tbl (ps++more))
section
variable {fs fs' ex ex':List Addr}{H H1 H2:Hp}{h h1 h2 h':Heap}{a x e:Addr}{o:HO}
def Un.any (u:Un fs ex H H1 h h1){b:Addr}{ob:Obj}(q:h.get? b=some ob)(n:H b=none)(hx:b∉ex):∃sl,h1.get? b=some {ob with slots:=sl}:=by
 by_cases hb:b∈fs
 ·exact u.slot b ob q n hb hx
 ·exact⟨ob.slots,u.keep b ob q n hb hx⟩
def Un.kept (k:∀b u,h.get? b=some u->h'.get? b=some u):Un fs ex H H h h':=
 ⟨λb ob q _ _ _=>k b ob q,λb ob q _ _ _=>⟨ob.slots,k b ob q⟩,λ_ _ _ n _=>n,λb ob q _=>⟨ob,k b ob q⟩,λ_ _ q=>q,λ_ _ _ q=>q,λ_ ps q=>⟨#[],by rw[q];simp⟩⟩
def Un.refl:Un fs ex H H h h:=Un.kept λ_ _ q=>q
def Un.laid (k:∀b u,h.get? b=some u->h'.get? b=some u)(hp:h.objs.size<=a)(hn:H a=none):Un fs ex H (Yq H a o) h h' where
 keep:=λb u q _ _ _=>k b u q
 slot:=λb u q _ _ _=>⟨u.slots,k b u q⟩
 free:=λb u q n _=>by rw[Zt (XH (XG (XD q) hp))];exact n
 there:=λb u q _=>⟨u,k b u q⟩
 tups:=λb xs q=>by rw[Zt (Y4 q hn)];exact q
 frzs:=λb u xs q=>by rw[Zt (Y4 q hn)];exact q
 tbls:=λb ps q=>⟨#[],by rw[Zt (Y4 q hn),q];simp⟩
def Un.write (mu:ky (H x))(he:e=x\/H e=some (.own x))(k:∀b u,b≠e->h.get? b=some u->h'.get? b=some u)(heo:∃u,h'.get? e=some u):Un fs ex H (Yq H x o) h h':=by
 have hx:∀b,H b=none->b≠x:=λb n z=>by subst z;rw[n] at mu;exact mu
 have hb:∀b,H b=none->b≠e:=λb n z=>by
  subst z
  rcases he with r | r
  ·exact hx b n r
  ·rw[n] at r;cases r
 have hm:∀b u,H b=some u->¬ky (some u)->b≠x:=λb u q nm z=>by subst z;rw[q] at mu;exact nm mu
 refine⟨λb u q n _ _=>k b u (hb b n) q,λb u q n _ _=>⟨u.slots,k b u (hb b n) q⟩,λb u q n _=>by rw[Zt (hx b n)];exact n,λb u q _=>?_,
  λb xs q=>by rw[Zt (hm b _ q λz=>z)];exact q,λb u xs q=>by rw[Zt (hm b _ q λz=>z)];exact q,λb ps q=>⟨#[],by rw[Zt (hm b _ q λz=>z),q];simp⟩⟩
 by_cases hbe:b=e
 ·subst hbe;exact heo
 ·exact⟨u,k b u hbe q⟩
end
def k8 (h:Heap)(H:Hp):List Addr:=(List.range h.objs.size).filter λa=>(H a).isSome
def E3 (h:Heap)(H:Hp):Heap:=W.hideAll h (k8 h H)
def jF (h:Heap)(H:Hp):(E3 h H).objs.size=h.objs.size:=W.hideAll_size _ _
def vj {h:Heap}{H:Hp}{b:Addr}{o:Obj}(e:h.get? b=some o)(n:H b=none):(E3 h H).get? b=some o:=
 W.hideAll_get _ e λhm=>by
  have q:(H b).isSome=true:=(List.mem_filter.mp hm).2
  rw[n] at q;simp at q
def t8 {h:Heap}{H:Hp}{b:Addr}{o:Obj}(e:(E3 h H).get? b=some o):h.get? b=some o/\H b=none:=by
 have e':h.get? b=some o:=W.of_hideAll (k8 h H) e
 refine⟨e',?_⟩
 cases q:H b with
 | none=>rfl
 | some x=>
  have hm:b∈k8 h H:=List.mem_filter.mpr ⟨List.mem_range.mpr (Heap.lt_size e'),by simp[q]⟩
  have z:(E3 h H).get? b=none:=W.hideAll_none (k8 h H) hm
  rw[z] at e;cases e
def sL (g h:Heap)(L:Addr):List (Addr×Obj):=(List.range h.objs.size).filterMap λa=>if a=L\/(g.get? a).isSome=true then none else(h.get? a).map λo=>(a,o)
def J1 (g h:Heap)(L d:Addr):List (Addr×Obj):=(sL g h L).filter λp=>decide (p.1≠d)
structure Mod (K:W.Frag)(mg:Str->Option Value)(base:Heap):Prop where
 kin:K.In base
 glob:base.Ns mainGlobals mg
 blt:∃mb,base.Ns builtinsNs mb/\∀x:Str,x≠"__name__"->mb x=bootBuiltins x
 nolimit:base.NoLimit
structure Cx where
 prog:Program
 w:World
 K:W.Frag
 mg:Str->Option Value
 base:Heap
 A:Around
 N:List Str
 s₀:Shared
 H₀:Hp
 env:Env
 outer:List Env
 stack:List Env
 ex:List Addr
 fn:Str->Bool
 calm:Bool
 pn:List (Addr×Obj)
 xe:Value->Shared->Prop
def jH (l:List Env):List Addr:=l.filterMap (·.frame)
abbrev Cx.fs (X:Cx):List Addr:=jH X.outer
def kH (sc:Scope)(x:Str):Prop:=sc.names.lookup x=some .local\/sc.names.lookup x=some .cell\/sc.names.lookup x=some .free
def nA (sc:Scope)(x:Str):Prop:=sc.names.lookup x=some .local\/sc.names.lookup x=some .cell
def gw (env:Env)(h:Heap)(m:Str->Option Value)(x:Str)(u:Value):Prop:=
 (env.kindOf x=some .local/\m x=some u)\/((env.kindOf x=some .cell\/env.kindOf x=some .free)/\∃c,env.cells.lookup x=some c/\h.IsCell c (some u))
structure Cx.Ok (X:Cx):Prop where
 mod:Mod X.K X.mg X.base
 kind:X.env.scope.kind=.function
 glob:X.env.globals=mainGlobals
 blt:X.env.builtins=builtinsNs
 above:X.s₀.heap.objs.size<=X.env.locals
 inj:∀x y c,X.env.cells.lookup x=some c->X.env.cells.lookup y=some c->x=y
 has:∀x,(X.env.kindOf x=some .cell\/X.env.kindOf x=some .free)->∃c,X.env.cells.lookup x=some c
 cab:∀x c,X.fn x=true->X.env.cells.lookup x=some c->X.s₀.heap.objs.size<=c
 hd:X.calm=true->X.A.handled=none
 frames:X.A.frames=some X.stack
 stk:X.stack=X.outer\/(X.stack=X.env::X.outer/\X.env.frame=some X.env.locals)
 exf:∀b∈X.ex,b≠X.env.locals/\∀x c,X.env.cells.lookup x=some c->c≠b
 bs:∀b o,X.base.get? b=some o->X.s₀.heap.get? b=some o/\X.H₀ b=none
 bsz:X.base.objs.size<=X.s₀.heap.objs.size
 noex:∀b o,X.base.get? b=some o->b∉X.ex
 exfs:∀b∈X.ex,b∉X.fs
 funs:X.s₀.heap.FunFrames X.base X.outer
 frf:∀b∈X.fs,X.H₀ b=none
structure Zs (X:Cx)(pins:List (Addr×Obj))(σ:List (Option V))(H:Hp)(s:Shared):Prop where
 ok:X.Ok
 os:s.os=X.s₀.os
 bare:AllBare s.gens
 base:Un X.fs X.ex X.H₀ H X.s₀.heap s.heap
 loc:∃m,s.heap.Ns X.env.locals m/\∀(i:Nat) (x:Str) (v:V),X.N[i]?=some x->σ[i]?=some (some v)->kH X.env.scope x->∃u,Z8 v u/\gw X.env s.heap m x u
 cell:∀x c,X.env.cells.lookup x=some c->∃v,s.heap.IsCell c v
 free:H X.env.locals=none
 freeC:∀x c,X.env.cells.lookup x=some c->H c=none
 pin:∀p∈X.pn++pins,s.heap.get? p.1=some p.2/\H p.1=none/\p.1≠X.env.locals/\p.1∉X.fs/\∀v,p.2.data≠.cell v
 hok:Nb X.prog X.w H s.heap
 len:σ.length=X.N.length
section
variable {X:Cx}{pins:List (Addr×Obj)}{σ:List (Option V)}{H H':Hp}{s:Shared}{h':Heap}
def Cx.Ok.nofr (ok:X.Ok){b:Addr}{o:Obj}(e:X.base.get? b=some o):b∉X.fs:=λhb=>by
 have:=(ok.funs.mem hb).1
 rw[e] at this;cases this
def Zs.bs (I:Zs X pins σ H s):∀b o,X.base.get? b=some o->s.heap.get? b=some o/\H b=none:=λb o e=>
 ⟨I.base.keep b o (I.ok.bs b o e).1 (I.ok.bs b o e).2 (I.ok.nofr e) (I.ok.noex b o e),I.base.free b o (I.ok.bs b o e).1 (I.ok.bs b o e).2 (I.ok.noex b o e)⟩
def Zs.bk (I:Zs X pins σ H s):∀b o,X.base.get? b=some o->s.heap.get? b=some o:=λb o e=>(I.bs b o e).1
def Zs.mod (I:Zs X pins σ H s):Mod X.K X.mg X.base:=I.ok.mod
def Zs.kIn (I:Zs X pins σ H s):X.K.In s.heap:=I.ok.mod.kin.keeps I.bk
def Zs.lt (I:Zs X pins σ H s):X.env.locals<s.heap.objs.size:=let ⟨_,hn,_⟩:=I.loc;hn.lt
def Zs.sz (I:Zs X pins σ H s):X.s₀.heap.objs.size<=s.heap.objs.size:=XN I.ok.above (Nat.le_of_lt I.lt)
def Zs.nofs (I:Zs X pins σ H s){a:Addr}(h:s.heap.objs.size<=a):a∉X.fs:=λhb=>by
 obtain⟨_,o,ho,_⟩:=I.ok.funs.mem hb
 exact absurd (XG (XD ho) (XN I.sz h)) (Nat.lt_irrefl _)
def Zs.cne (I:Zs X pins σ H s):∀x c,X.env.cells.lookup x=some c->c≠X.env.locals:=λx c e z=>by
 obtain⟨v,o,ho,hd⟩:=I.cell x c e
 obtain⟨m,⟨o',es,ep,ho',hd',_⟩,_⟩:=I.loc
 rw[z,ho'] at ho;cases ho;rw[hd'] at hd;cases hd
def Zs.funs (I:Zs X pins σ H s):s.heap.FunFrames X.base X.outer:=by
 have all:∀(l:List Env),(∀b∈jH l,b∈X.fs)->X.s₀.heap.FunFrames X.base l->s.heap.FunFrames X.base l:=by
  intro l
  induction l with
  | nil=>intro _ _;trivial
  | cons env r ih=>
   intro hs hl
   obtain⟨hk,⟨L,o,hf,hn,ho,hd⟩,hr⟩:=hl
   have hL:L∈X.fs:=hs L (by unfold jH;rw[List.filterMap_cons,hf];exact List.mem_cons_self)
   obtain⟨sl,e⟩:=I.base.slot L o ho (I.ok.frf L hL) hL λz=>I.ok.exfs L z hL
   exact⟨hk,⟨L,_,hf,hn,e,hd⟩,ih (λb hb=>hs b (by unfold jH;rw[List.filterMap_cons,hf];exact XV _ hb)) hr⟩
 exact all X.outer (λ_ hb=>hb) I.ok.funs
def Zs.stack (I:Zs X pins σ H s):s.heap.FunFrames X.base X.stack:=by
 rcases I.ok.stk with e | ⟨e,hf⟩
 ·rw[e];exact I.funs
 ·rw[e]
  obtain⟨m,hn,_⟩:=I.loc
  refine .cons (by rw[I.ok.kind];decide) hf hn ?_ I.funs
  exact Heap.get?_none_of_le (XN I.ok.bsz I.ok.above)
def Zs.stkSub (I:Zs X pins σ H s):∀b∈jH X.stack,b∈X.env.locals::X.fs:=λb hb=>by
 rcases I.ok.stk with e | ⟨e,hf⟩
 ·rw[e] at hb;exact XV _ hb
 ·rw[e] at hb
  unfold jH at hb
  rw[List.filterMap_cons,hf] at hb
  exact hb
def Zs.stkFree (I:Zs X pins σ H s):∀b∈jH X.stack,H b=none:=λb hb=>by
 rcases List.mem_cons.mp (I.stkSub b hb) with e | hb
 ·rw[e];exact I.free
 ·obtain⟨_,o,ho,_⟩:=I.ok.funs.mem hb
  exact I.base.free b o ho (I.ok.frf b hb) λz=>I.ok.exfs b z hb
def Zs.step {g':Array GenState}{t':Nat}{d':Drawn}{ch:List Addr}(I:Zs X pins σ H s)
  (hch:∀b∈ch,(b∈X.ex\/X.s₀.heap.objs.size<=b)/\b≠X.env.locals/\(∀x c,X.env.cells.lookup x=some c->c≠b)/\∀p∈X.pn++pins,p.1≠b)
  (keep:∀b o,b≠X.env.locals->b∉X.fs->b∉ch->s.heap.get? b=some o->H b=none->h'.get? b=some o)
  (slot:∀b o,b≠X.env.locals->b∈X.fs->b∉ch->s.heap.get? b=some o->H b=none->∃sl,h'.get? b=some {o with slots:=sl}) (free:∀b o,b∉ch->s.heap.get? b=some o->H b=none->H' b=none)
  (there:∀b o,b∉ch->s.heap.get? b=some o->∃o',h'.get? b=some o')
  (tups:∀b xs,H b=some (.tup xs)->H' b=some (.tup xs)) (frzs:∀b o u,H b=some (.frz o u)->H' b=some (.frz o u)) (tbls:∀b ps,H b=some (.tbl ps)->∃more,H' b=some (.tbl (ps++more)))
  (ns:∀m,s.heap.Ns X.env.locals m->h'.Ns X.env.locals m) (hok:Nb X.prog X.w H' h') (hg:AllBare g'):
  Zs X pins σ H' {s with heap:=h',gens:=g',drawn:=d',toks:=t'}:=by
 have neL:∀b o,X.s₀.heap.get? b=some o->b≠X.env.locals:=λb o e=>XH (XG (XD e) I.ok.above)
 have neC:∀b o,X.s₀.heap.get? b=some o->b∉X.ex->b∉ch:=λb o e hx hb=>by
  rcases (hch b hb).1 with z | z
  ·exact hx z
  ·exact absurd (XG (XD e) z) (Nat.lt_irrefl _)
 have cellK:∀x c,X.env.cells.lookup x=some c->∀v,s.heap.IsCell c v->h'.IsCell c v:=λx c e v ⟨o,ho,hd⟩=>by
  have nch:c∉ch:=λz=>(hch c z).2.2.1 x c e rfl
  by_cases hc:c∈X.fs
  ·obtain⟨sl,q⟩:=slot c o (I.cne x c e) hc nch ho (I.freeC x c e)
   exact⟨_,q,hd⟩
  ·exact⟨o,keep c o (I.cne x c e) hc nch ho (I.freeC x c e),hd⟩
 refine⟨I.ok,I.os,hg,⟨λb o e n hb hx=>?_,λb o e n hb hx=>?_,λb o e n hx=>?_,λb o e hx=>?_,λb xs e=>tups b xs (I.base.tups b xs e),λb o xs e=>frzs b o xs (I.base.frzs b o xs e),λb ps e=>?_⟩,?_,λx c e=>?_,?_,λx c e=>?_,λp hp=>?_,hok,I.len⟩
 ·exact keep b o (neL b o e) hb (neC b o e hx) (I.base.keep b o e n hb hx) (I.base.free b o e n hx)
 ·obtain⟨sl,e1⟩:=I.base.slot b o e n hb hx
  obtain⟨sl',e2⟩:=slot b _ (neL b o e) hb (neC b o e hx) e1 (I.base.free b o e n hx)
  exact⟨sl',e2⟩
 ·obtain⟨o',e1⟩:=I.base.there b o e hx
  exact free b o' (neC b o e hx) e1 (I.base.free b o e n hx)
 ·obtain⟨o',e1⟩:=I.base.there b o e hx
  exact there b o' (neC b o e hx) e1
 ·obtain⟨m1,e1⟩:=I.base.tbls b ps e
  obtain⟨m2,e2⟩:=tbls b _ e1
  exact⟨m1++m2,by rw[e2,Array.append_assoc]⟩
 ·obtain⟨m,hn,hl⟩:=I.loc
  refine⟨m,ns m hn,λi x v e1 e2 e3=>?_⟩
  obtain⟨u,r,l⟩:=hl i x v e1 e2 e3
  refine⟨u,r,?_⟩
  rcases l with l | ⟨k,c,e,z⟩
  ·exact .inl l
  ·exact .inr ⟨k,c,e,cellK x c e _ z⟩
 ·obtain⟨v,z⟩:=I.cell x c e
  exact⟨v,cellK x c e v z⟩
 ·obtain⟨m,⟨o,_,_,ho,_⟩,_⟩:=I.loc
  exact free _ o (λz=>(hch _ z).2.1 rfl) ho I.free
 ·obtain⟨v,o,ho,hd⟩:=I.cell x c e
  exact free c o (λz=>(hch c z).2.2.1 x c e rfl) ho (I.freeC x c e)
 ·obtain⟨e,n,ne,nf,d⟩:=I.pin p hp
  have nch:p.1∉ch:=λz=>(hch p.1 z).2.2.2 p hp rfl
  exact⟨keep p.1 p.2 ne nf nch e n,free p.1 p.2 nch e n,ne,nf,d⟩
def Zs.un {t':Nat}(I:Zs X pins σ H s)(u:Un X.fs [] H H' s.heap h')(hok:Nb X.prog X.w H' h'):Zs X pins σ H' {s with heap:=h',toks:=t'}:=by
 obtain⟨m,⟨o,es,ep,ho,r⟩,_⟩:=id I.loc
 obtain⟨sl,hL⟩:=u.any ho I.free (by simp)
 exact I.step (g':=s.gens) (d':=s.drawn) (ch:=[]) (λ_ z=>nomatch z) (λb o _ hb _ e n=>u.keep b o e n hb (by simp)) (λb o _ hb _ e n=>u.slot b o e n hb (by simp)) (λb o _ e n=>u.free b o e n (by simp)) (λb o _ e=>u.there b o e (by simp)) u.tups u.frzs u.tbls (λm' hm=>by
  obtain⟨o',es',ep',ho',r'⟩:=hm
  rw[ho] at ho';cases ho'
  exact⟨_,es',ep',hL,r'⟩) hok I.bare
def Zs.call {g':Array GenState}{t':Nat}{d':Drawn}{ch:List Addr}(I:Zs X pins σ H s)(u:Un (jH X.stack) ch H H' s.heap h')(hok:Nb X.prog X.w H' h')(hg:AllBare g')
  (hch:∀b∈ch,(b∈X.ex\/X.s₀.heap.objs.size<=b)/\b≠X.env.locals/\(∀x c,X.env.cells.lookup x=some c->c≠b)/\∀p∈X.pn++pins,p.1≠b):
  Zs X pins σ H' {s with heap:=h',gens:=g',drawn:=d',toks:=t'}:=by
 obtain⟨m,⟨o,es,ep,ho,r⟩,_⟩:=id I.loc
 obtain⟨sl,hL⟩:=u.any ho I.free λz=>(hch _ z).2.1 rfl
 exact I.step (ch:=ch) hch (λb o hL hb hc e n=>u.keep b o e n (λz=>(List.mem_cons.mp (I.stkSub b z)).elim hL hb) hc) (λb o _ _ hc e n=>u.any e n hc) (λb o hc e n=>u.free b o e n hc) (λb o hc e=>u.there b o e hc) u.tups u.frzs u.tbls (λm' hm=>by
  obtain⟨o',es',ep',ho',r'⟩:=hm
  rw[ho] at ho';cases ho'
  exact⟨_,es',ep',hL,r'⟩) hok hg
def Zs.turned {t':Nat}{it:Addr}(I:Zs X pins σ H s)(k:∀b o,b≠it->s.heap.get? b=some o->h'.get? b=some o)(hn:H it=none)(hL:it≠X.env.locals)
  (h1:it∈X.ex\/X.s₀.heap.objs.size<=it) (h2:∀x c,X.env.cells.lookup x=some c->c≠it) (h3:∀p∈X.pn++pins,p.1≠it):Zs X pins σ H {s with heap:=h',toks:=t'}:=by
 have nit:∀b u,H b=some u->b≠it:=λb u e z=>by rw[z,hn] at e;cases e
 refine I.step (g':=s.gens) (d':=s.drawn) (ch:=[it]) (λb hb=>?_) (λb o _ _ hc e _=>k b o (λz=>hc (by simp[z])) e) (λb o _ _ hc e _=>⟨o.slots,k b o (λz=>hc (by simp[z])) e⟩) (λ_ _ _ _ n=>n)
  (λb o hc e=>⟨o,k b o (λz=>hc (by simp[z])) e⟩) (λ_ _ e=>e) (λ_ _ _ e=>e) (λb ps e=>⟨#[],by rw[e];simp⟩) (λm hm=>?_) (λb u e=>?_) I.bare
 ·have e:b=it:=by simpa using hb
  subst e
  exact⟨h1,hL,h2,h3⟩
 ·obtain⟨o,es,ep,ho,r⟩:=hm
  exact⟨o,es,ep,k _ o (Ne.symm hL) ho,r⟩
 ·refine(I.hok b u e).stay (λc v hc q=>k c v ?_ q) (λ_ q=>q) λ_ _ q=>q
  rcases hc with z | z
  ·rw[z];exact nit b u e
  ·exact nit c _ z
def Zs.tok (I:Zs X pins σ H s)(t:Nat):Zs X pins σ H {s with toks:=t}:=I.un (h':=s.heap) (t':=t) Un.refl I.hok
def Zs.kept {t':Nat}(I:Zs X pins σ H s)(k:∀b u,s.heap.get? b=some u->h'.get? b=some u):Zs X pins σ H {s with heap:=h',toks:=t'}:=I.un (Un.kept k) (I.hok.kept k)
def Zs.laid {a:Addr}{o:HO}{t':Nat}(I:Zs X pins σ H s)(k:∀b u,s.heap.get? b=some u->h'.get? b=some u)(hp:s.heap.objs.size<=a)(new:Y6 X.prog X.w (Yq H a o) h' a o):
  Zs X pins σ (Yq H a o) {s with heap:=h',toks:=t'}:=I.un (Un.laid k hp (I.hok.fresh hp)) (I.hok.laid k hp new)
def Zs.write {x e:Addr}{o:HO}{t':Nat}(I:Zs X pins σ H s)(mu:ky (H x))(he:e=x\/H e=some (.own x))(k:∀b u,b≠e->s.heap.get? b=some u->h'.get? b=some u)(heo:∃u,h'.get? e=some u)
  (new:Y6 X.prog X.w (Yq H x o) h' x o):Zs X pins σ (Yq H x o) {s with heap:=h',toks:=t'}:=I.un (Un.write mu he k heo) (I.hok.write mu he k heo new)
def Zs.weak {σ':List (Option V)}(I:Zs X pins σ H s)(hl:σ'.length=σ.length)(w:∀(i:Nat) v,σ'[i]?=some (some v)->σ[i]?=some (some v)):Zs X pins σ' H s:=
 ⟨I.ok,I.os,I.bare,I.base,let ⟨m,hn,hl'⟩:=I.loc;⟨m,hn,λi x v e1 e2 e3=>hl' i x v e1 (w i v e2) e3⟩,I.cell,I.free,I.freeC,I.pin,I.hok,hl.trans I.len⟩
def Zs.pins_of {pins':List (Addr×Obj)}(I:Zs X pins σ H s)(h:∀p∈pins',s.heap.get? p.1=some p.2/\H p.1=none/\p.1≠X.env.locals/\p.1∉X.fs/\∀v,p.2.data≠.cell v):Zs X pins' σ H s:=
 ⟨I.ok,I.os,I.bare,I.base,I.loc,I.cell,I.free,I.freeC,λp hp=>(XS.mp hp).elim (λz=>I.pin p (List.mem_append_left _ z)) (h p),I.hok,I.len⟩
def Bg {N:List Str}(hN:N.Nodup){i j:Nat}{x:Str}(a:N[i]?=some x)(b:N[j]?=some x):i=j:=by
 obtain⟨h1,e1⟩:=List.getElem?_eq_some_iff.mp a
 obtain⟨h2,e2⟩:=List.getElem?_eq_some_iff.mp b
 exact(List.getElem_inj hN).mp (e1.trans e2.symm)
def Gm {M:Model}{A:Around}{E:Value->Shared->Prop}{i:Nat}{x:Str}{v:V}{u:Value}{Q:Unit->Shared->Prop}(I:Zs X pins σ H s)(hN:X.N.Nodup)(hi:X.N[i]?=some x)(hx:nA X.env.scope x)(r:Z8 v u)
  (h:∀s',Zs X pins (σ.set i (some v)) H s'->(∃a,Heap.SameBut a s.heap s'.heap/\(a=X.env.locals\/X.env.cells.lookup x=some a))->Q () s') (hf:X.fn x=true\/X.env.scope.names.lookup x=some .local:=by first | exact .inl rfl | exact .inr rfl | assumption):wpAny M A (storeName X.env x u) Q E s:=by
 obtain⟨m,hn,hl⟩:=id I.loc
 have hcls:(X.env.scope.kind==.class||(X.env.scope.kind==.module&&X.env.locals !=X.env.globals))=false:=by rw[I.ok.kind];rfl
 have hiσ:i<σ.length:=by rw[I.len];exact(List.getElem?_eq_some_iff.mp hi).1
 have cne:=I.cne
 have tracked:∀{a:Addr} {h':Heap},(∃o,s.heap.get? a=some o/\H a=none)->Heap.SameBut a s.heap h'->Nb X.prog X.w H h':=λ{a h'} ha hs b ob e=>by
  obtain⟨_,_,hfree⟩:=ha
  refine(I.hok b ob e).stay (λc w' hc q=>(hs.2 c ?_).trans q) (λ_ q=>q) λ_ _ q=>q
  rintro rfl
  rcases hc with rfl | hc
  ·rw[hfree] at e;cases e
  ·rw[hfree] at hc;cases hc
 rcases hx with hk | hk
 ·refine wpAny_storeName_local hk hn (λh' hn' hs=>?_) hcls
  obtain⟨oL,_,_,hoL,_⟩:=id hn
  refine h _ ⟨I.ok,I.os,I.bare,⟨λb o e n hb hx=>?_,λb o e n hb hx=>?_,I.base.free,λb o e hx=>?_,I.base.tups,I.base.frzs,I.base.tbls⟩,⟨_,hn',λj y v' e1 e2 e3=>?_⟩,λy c e=>?_,I.free,I.freeC,λp hp=>?_,tracked ⟨oL,hoL,I.free⟩ hs,by simpa using I.len⟩ ⟨_,hs,.inl rfl⟩
  ·exact(hs.2 b (XH (XG (XD e) I.ok.above))).trans (I.base.keep b o e n hb hx)
  ·obtain⟨sl,e1⟩:=I.base.slot b o e n hb hx
   exact⟨sl,(hs.2 b (XH (XG (XD e) I.ok.above))).trans e1⟩
  ·obtain⟨o',e1⟩:=I.base.there b o e hx
   exact⟨o',(hs.2 b (XH (XG (XD e) I.ok.above))).trans e1⟩
  ·by_cases hj:j=i
   ·subst hj
    rw[hi] at e1;cases e1
    rw[List.getElem?_set_self hiσ] at e2
    cases e2
    exact⟨u,r,.inl ⟨hk,by simp⟩⟩
   ·rw[List.getElem?_set_ne (Ne.symm hj)] at e2
    obtain⟨u',r',q⟩:=hl j y v' e1 e2 e3
    refine⟨u',r',?_⟩
    rcases q with⟨k,e⟩ | ⟨k,c,e,z⟩
    ·refine .inl ⟨k,?_⟩
     have:y≠x:=λe=>hj (Bg hN e1 (e▸hi))
     simp[this,e]
    ·exact .inr ⟨k,c,e,z.sameBut hs (cne y c e)⟩
  ·obtain⟨w',z⟩:=I.cell y c e
   exact⟨w',z.sameBut hs (cne y c e)⟩
  ·obtain⟨e,n,ne,nf,d⟩:=I.pin p hp
   exact⟨(hs.2 p.1 ne).trans e,n,ne,nf,d⟩
 ·have hfn:X.fn x=true:=by
   rcases hf with z | z
   ·exact z
   ·rw[z] at hk;cases hk
  obtain⟨c,hc⟩:=I.ok.has x (.inl hk)
  obtain⟨w',z⟩:=I.cell x c hc
  refine wpAny_storeName_cell I.ok.kind hk hc z (λh' hc' hs=>?_)
  obtain⟨oc,hoc,hocd⟩:=id z
  refine h {s with heap:=h'} ⟨I.ok,I.os,I.bare,⟨λb o e n hb hx=>?_,λb o e n hb hx=>?_,I.base.free,λb o e hx=>?_,I.base.tups,I.base.frzs,I.base.tbls⟩,⟨m,hn.sameBut hs (Ne.symm (cne x c hc)),λj y v' e1 e2 e3=>?_⟩,λy c' e=>?_,I.free,I.freeC,λp hp=>?_,tracked ⟨oc,hoc,I.freeC x c hc⟩ hs,by simpa using I.len⟩ ⟨c,hs,.inr hc⟩
  ·exact(hs.2 b (XH (XG (XD e) (I.ok.cab x c hfn hc)))).trans (I.base.keep b o e n hb hx)
  ·obtain⟨sl,e1⟩:=I.base.slot b o e n hb hx
   exact⟨sl,(hs.2 b (XH (XG (XD e) (I.ok.cab x c hfn hc)))).trans e1⟩
  ·obtain⟨o',e1⟩:=I.base.there b o e hx
   exact⟨o',(hs.2 b (XH (XG (XD e) (I.ok.cab x c hfn hc)))).trans e1⟩
  ·by_cases hj:j=i
   ·subst hj
    rw[hi] at e1;cases e1
    rw[List.getElem?_set_self hiσ] at e2
    cases e2
    exact⟨u,r,.inr ⟨.inl hk,c,hc,hc'⟩⟩
   ·rw[List.getElem?_set_ne (Ne.symm hj)] at e2
    obtain⟨u',r',q⟩:=hl j y v' e1 e2 e3
    refine⟨u',r',?_⟩
    rcases q with q | ⟨k,c',e,z'⟩
    ·exact .inl q
    ·refine .inr ⟨k,c',e,z'.sameBut hs ?_⟩
     rintro rfl
     exact hj (Bg hN e1 (I.ok.inj _ _ _ e hc▸hi))
  ·by_cases hcc:c'=c
   ·subst hcc;exact⟨_,hc'⟩
   ·obtain⟨w2,z2⟩:=I.cell y c' e
    exact⟨w2,z2.sameBut hs hcc⟩
  ·obtain⟨e,n,ne,nf,d⟩:=I.pin p hp
   refine⟨(hs.2 p.1 ?_).trans e,n,ne,nf,d⟩
   intro q
   rw[q,hoc] at e
   have q':oc=p.2:=YH e
   exact d w' (by rw[<-q'];exact hocd)
def Ck {M:Model}{A:Around}{E:Value->Shared->Prop}{i:Nat}{x:Str}{v:V}{u:Value}{Q:Unit->Shared->Prop}(I:Zs X pins σ H s)(hN:X.N.Nodup)(hi:X.N[i]?=some x)(hx:nA X.env.scope x)(r:Z8 v u)
  (h:∀s',Zs X pins (σ.set i (some v)) H s'->Q () s') (hf:X.fn x=true\/X.env.scope.names.lookup x=some .local:=by first | exact .inl rfl | exact .inr rfl | assumption):wpAny M A (storeName X.env x u) Q E s:=
 Gm I hN hi hx r (λs' I' _=>h s' I') hf
def Zs.call' {s':Shared}{ch:List Addr}(I:Zs X pins σ H s)(ho:s'.os=s.os)(u:Un (jH X.stack) ch H H' s.heap s'.heap)(hok:Nb X.prog X.w H' s'.heap)(hg:AllBare s'.gens)
  (hch:∀b∈ch,(b∈X.ex\/X.s₀.heap.objs.size<=b)/\b≠X.env.locals/\(∀x c,X.env.cells.lookup x=some c->c≠b)/\∀p∈X.pn++pins,p.1≠b):Zs X pins σ H' s':=by
 obtain⟨h',g',d',t',o'⟩:=s'
 have e:o'=s.os:=ho
 subst e
 exact I.call (g':=g') (t':=t') (d':=d') u hok hg hch
end
abbrev XK:=Value->Option Addr->Hp->Prop
abbrev St:=List (Option V)
abbrev VK:=V->Hp->Prop
abbrev TE:=St->Hp->VK->Prop
abbrev TT:=St->Hp->(Bool->Hp->Prop)->Prop
abbrev TA:=St->Hp->(List V->Hp->Prop)->Prop
structure Gh where
 nx:St->Hp->Prop
 rt:VK
 bk:St->Hp->Prop:=λ_ _=>False
 ct:St->Hp->Prop:=λ_ _=>False
abbrev TS:=Gh->St->Hp->Prop
def EP (X:Cx)(pins:List (Addr×Obj))(σ:St)(Q:VK)(u:Value)(s':Shared):Prop:=∃v H',Zs X pins σ H' s'/\Z8 v u/\Q v H'
def TP (X:Cx)(pins:List (Addr×Obj))(σ:St)(Q:Bool->Hp->Prop)(b:Bool)(s':Shared):Prop:=∃H',Zs X pins σ H' s'/\Q b H'
def AP (X:Cx)(pins:List (Addr×Obj))(σ:St)(Q:List V->Hp->Prop)(us:List Value)(s':Shared):Prop:=∃vs H',Zs X pins σ H' s'/\Z7 vs us/\Q vs H'
def SP (X:Cx)(pins:List (Addr×Obj))(D:Gh)(f:Flow)(s':Shared):Prop:=
 match f with
 | .next=>∃σ' H',Zs X pins σ' H' s'/\D.nx σ' H'
 | .brk=>∃σ' H',Zs X pins σ' H' s'/\D.bk σ' H'
 | .cont=>∃σ' H',Zs X pins σ' H' s'/\D.ct σ' H'
 | .ret u=>∃v σ' H',Zs X pins σ' H' s'/\Z8 v u/\D.rt v H'
def PE (X:Cx)(e:Expr)(t:TE):Prop:=
 ∀(pins:List (Addr×Obj)) (s:Shared) (σ:St) (H:Hp) (Q:VK),Zs X pins σ H s->t σ H Q->wpAny (model X.prog X.w) X.A (eval e X.env) (EP X pins σ Q) X.xe s
def PT (X:Cx)(e:Expr)(t:TT):Prop:=
 ∀(pins:List (Addr×Obj)) (s:Shared) (σ:St) (H:Hp) (Q:Bool->Hp->Prop),Zs X pins σ H s->t σ H Q->wpAny (model X.prog X.w) X.A (isTrue e X.env (eval e X.env)) (TP X pins σ Q) X.xe s
def PW (X:Cx)(e:Expr)(t:TT):Prop:=
 ∀(whole:Sem Value) (pins:List (Addr×Obj)) (s:Shared) (σ:St) (H:Hp) (Q:Bool->Hp->Prop),Zs X pins σ H s->t σ H Q->wpAny (model X.prog X.w) X.A (isTrue e X.env whole) (TP X pins σ Q) X.xe s
def PW.pt {X:Cx}{e:Expr}{t:TT}(h:PW X e t):PT X e t:=h _
def PA (X:Cx)(es:List Expr)(t:TA):Prop:=
 ∀(pos:Pos) (pins:List (Addr×Obj)) (s:Shared) (σ:St) (H:Hp) (Q:List V->Hp->Prop),Zs X pins σ H s->t σ H Q->wpAny (model X.prog X.w) X.A (spliced (backTo pos (starEach es X.env))) (AP X pins σ Q) X.xe s
def PS (X:Cx)(st:Stmt)(t:TS):Prop:=
 ∀(pins:List (Addr×Obj)) (s:Shared) (σ:St) (H:Hp) (D:Gh),Zs X pins σ H s->t D σ H->wpAny (model X.prog X.w) X.A (exec st X.env) (SP X pins D) X.xe s
def jc (X:Cx)(st:List Stmt)(t:TS):Prop:=
 ∀(pins:List (Addr×Obj)) (s:Shared) (σ:St) (H:Hp) (D:Gh),Zs X pins σ H s->t D σ H->wpAny (model X.prog X.w) X.A (execs st X.env) (SP X pins D) X.xe s
def Jp {α:Type}{t:Sem α}{Q Q':α->Shared->Prop}{M:Model}{A:Around}{E:Value->Shared->Prop}{s:Shared}(h:wpAny M A t Q E s)(hQ:∀a s,Q a s->Q' a s):wpAny M A t Q' E s:=wpAny_mono h hQ λ_ _ x=>x
section
variable {X:Cx}
def nO (i:Nat):TE:=λσ H Q=>∃v,σ[i]?=some (some v)/\Q v H
def tC (v:V):TE:=λ_ H Q=>Q v H
def qG {i:Nat}{x:Str}{pos:Pos}(hN:X.N[i]?=some x)(hv:kH X.env.scope x)(hd:(x==("__debug__":Str))=false:=by decide)(hcd:(x==("__classdict__":Str))=false:=by decide):PE X (.Name x pos) (nO i):=by
 intro pins s σ H Q I h
 obtain⟨v,e,h⟩:=h
 obtain⟨m,hn,hl⟩:=I.loc
 obtain⟨u,r,l⟩:=hl i x v hN e hv
 have fin:EP X pins σ Q u s:=⟨v,H,I,r,h⟩
 rcases l with⟨hk,hm⟩ | ⟨hk,c,hc,hcell⟩
 ·exact wpAny_Name (wpAny_loadName_local I.ok.kind hk hn hm fin) hd
 ·rcases hk with hk | hk
  ·exact wpAny_Name (wpAny_loadName_cell I.ok.kind hk hc hcell fin) hd
  ·exact wpAny_Name (wpAny_loadName_free I.ok.kind hk hc hcell fin hcd) hd
def qM {i j pos}:PE X (.Constant (.int i) j pos) (tC (.int i)):=λ_ _ _ H _ I h=>wpAny_Constant_int ⟨.int i,H,I.tok _,⟨_,rfl⟩,h⟩
def lf {b j pos}:PE X (.Constant (.bool b) j pos) (tC (.bl b)):=λ_ _ _ H _ I h=>Constant_bool ⟨.bl b,H,I,rfl,h⟩
def qK {j pos}:PE X (.Constant .none j pos) (tC .non):=λ_ _ _ H _ I h=>Constant_none ⟨.non,H,I,rfl,h⟩
def qI {x j pos}:PE X (.Constant (.str x) j pos) (tC (.str x)):=λ_ _ _ H _ I h=>Calls.Constant_str ⟨.str x,H,I.tok _,⟨_,rfl⟩,h⟩
def Gl (X:Cx)(x:Str):Prop:=X.env.kindOf x=some .globalImplicit
def yB {E:Value->Shared->Prop}{pins:List (Addr×Obj)}{s:Shared}{σ:St}{H:Hp}{x:Str}{u:Value}{pos:Pos}{Q:Value->Shared->Prop}(I:Zs X pins σ H s)(hg:Gl X x)(hm:X.mg x=some u)(h:Q u s)
  (hd:(x==("__debug__":Str))=false:=by decide):wpAny (model X.prog X.w) X.A (eval (.Name x pos) X.env) Q E s:=
 Calls.Name_function_global I.ok.kind hg (Calls.loadGlobal_global (by rw[I.ok.glob];exact I.mod.glob.keeps I.bk) hm h) hd
def Vi {E:Value->Shared->Prop}{pins:List (Addr×Obj)}{s:Shared}{σ:St}{H:Hp}{x:Str}{u:Value}{pos:Pos}{Q:Value->Shared->Prop}(I:Zs X pins σ H s)(hg:Gl X x)(hm:X.mg x=none)(hv:bootBuiltins x=some u)(h:Q u s)
  (hn:x≠"__name__":=by decide) (hd:(x==("__debug__":Str))=false:=by decide):wpAny (model X.prog X.w) X.A (eval (.Name x pos) X.env) Q E s:=by
 obtain⟨mb,h1,h2⟩:=I.mod.blt
 exact Calls.Name_function_global I.ok.kind hg (Calls.loadGlobal_builtin (by rw[I.ok.glob];exact I.mod.glob.keeps I.bk) hm (by rw[I.ok.blt];exact h1.keeps I.bk) ((h2 x hn).trans hv) h) hd
def tq {x:Str}{v:V}{u:Value}{pos:Pos}(hg:Gl X x)(hm:X.mg x=none)(hv:bootBuiltins x=some u)(r:Z8 v u)(hn:x≠"__name__":=by decide)(hd:(x==("__debug__":Str))=false:=by decide):PE X (.Name x pos) (tC v):=
 λ_ _ _ H _ I h=>Vi I hg hm hv ⟨v,H,I,r,h⟩ hn hd
def fH (ta tb:TE)(k:Int->Int->Hp->Prop):St->Hp->Prop:=λσ H=>ta σ H λx H1=>tb σ H1 λy H2=>∃i j,x=.int i/\y=.int j/\k i j H2
def f8 (ta tb:TE):TE:=λσ H Q=>fH ta tb (λi j H2=>(-(2^64)<i/\i<2^64)/\Q (.int (i*j)) H2) σ H
variable {a b:Expr}{ta tb:TE}{pos:Pos}
def fA (ta:TE):TE:=λσ H Q=>ta σ H λx H1=>Q (.bl (decide (x=.non))) H1
def tB (t:TE):TT:=λσ H Q=>t σ H λx H1=>∃c,x=.bl c/\Q c H1
variable {tA tB':TT}{J1:List Expr}
def mr (t u:TT):TT:=λσ H Q=>t σ H λc H1=>if c=true then u σ H1 Q else Q false H1
def gH (t u:TT):TT:=λσ H Q=>t σ H λc H1=>if c=true then Q true H1 else u σ H1 Q
def nU (t:TT):TT:=λσ H Q=>t σ H λc H1=>Q (!c) H1
def uK (ha:PT X a tA):PW X (.BoolOp .And [a] pos) tA:=by
 intro wh pins s σ H Q I h
 refine isTrue_and (Jp (ha pins s σ H Q I h) λc s1 e=>?_)
 cases c with
 | true=>exact isTrue_and_nil e
 | false=>exact e
def qv (ha:PT X a tA):PW X (.BoolOp .Or [a] pos) tA:=by
 intro wh pins s σ H Q I h
 refine isTrue_or (Jp (ha pins s σ H Q I h) λc s1 e=>?_)
 cases c with
 | false=>exact isTrue_or_nil e
 | true=>exact e
def qw (ha:PT X a tA)(hb:PW X (.BoolOp .And (b::J1) pos) tB'):PW X (.BoolOp .And (a::b::J1) pos) (mr tA tB'):=by
 intro wh pins s σ H Q I h
 refine isTrue_and (Jp (ha pins s σ H _ I h) λc s1 ⟨H1,I1,q1⟩=>?_)
 cases c with
 | true=>exact hb wh pins s1 σ H1 Q I1 q1
 | false=>exact⟨H1,I1,q1⟩
def mR (ha:PT X a tA)(hb:PW X (.BoolOp .Or (b::J1) pos) tB'):PW X (.BoolOp .Or (a::b::J1) pos) (gH tA tB'):=by
 intro wh pins s σ H Q I h
 refine isTrue_or (Jp (ha pins s σ H _ I h) λc s1 ⟨H1,I1,q1⟩=>?_)
 cases c with
 | true=>exact⟨H1,I1,q1⟩
 | false=>exact hb wh pins s1 σ H1 Q I1 q1
def qz (ha:PT X a tA):PT X (.UnaryOp .Not a pos) (nU tA):=by
 intro pins s σ H Q I h
 exact isTrue_not (ha pins s σ H (λc H1=>Q (!c) H1) I h)
def sZ (ta tb:TE):TE:=λσ H Q=>ta σ H λx H1=>∃c,x=.bl c/\if c=true then tb σ H1 Q else Q (.bl false) H1
def qJ {op}{t:TE}(h:PE X a t):PE X (.BoolOp op [a] pos) t:=λpins s σ H Q I hw=>BoolOp_one (h pins s σ H Q I hw)
def qQ (ha:PE X a ta)(hb:PE X (.BoolOp .And (b::J1) pos) tb):PE X (.BoolOp .And (a::b::J1) pos) (sZ ta tb):=by
 intro pins s σ H Q I h
 refine BoolOp_and (Jp (ha pins s σ H _ I h) λv s1 ⟨x,H1,I1,r1,q1⟩=>?_)
 obtain⟨c,rfl,q1⟩:=q1
 cases r1
 refine wpAny_truthy_bool ?_
 cases c with
 | true=>exact hb pins s1 σ H1 Q I1 q1
 | false=>exact⟨.bl false,H1,I1,rfl,q1⟩
def gJ (t:TT)(ta tb:TE):TE:=λσ H Q=>t σ H λc H1=>if c=true then ta σ H1 Q else tb σ H1 Q
def wI {c:Expr}(hc:PT X c tA)(ha:PE X a ta)(hb:PE X b tb):PE X (.IfExp c a b pos) (gJ tA ta tb):=by
 intro pins s σ H Q I h
 refine wpAny_IfExp (Jp (hc pins s σ H _ I h) λd s1 ⟨H1,I1,q1⟩=>?_)
 cases d with
 | true=>exact ha pins s1 σ H1 Q I1 q1
 | false=>exact hb pins s1 σ H1 Q I1 q1
end
def Xv (K:W.Frag)(H:Hp)(a:Addr)(xs:List V):Prop:=
 Rd H a (.lst xs)\/
  ∃(o:Obj) (its:Array Value) (n:Nat),K.lookup a=some o/\o.cls=.type "list"/\o.dict=none/\o.data=.seq its n/\its.size<=sizeLine/\Z7 xs its.toList
def Uu (K:W.Frag)(H:Hp)(a:Addr)(xs:List V):Prop:=
 Rd H a (.tup xs)\/
  ∃(o:Obj) (its:Array Value) (n:Nat),K.lookup a=some o/\o.cls=.type "tuple"/\o.data=.seq its n/\its.size<=sizeLine/\Z7 xs its.toList
def gj:Value->Option V
 | .none=>some .non
 | .bool b=>some (.bl b)
 | .int i _=>some (.int i)
 | .str x _=>some (.str x)
 | .bytes b _=>some (.byt b)
 | .float b _=>some (.flt b)
 | .ref a=>some (.ref a)
 | .type n=>some (.ty n)
 | _=>none
def Z8.abs {x:V}{u:Value}(r:Z8 x u):gj u=some x:=by
 cases x with
 | non=>cases r;rfl
 | bl _=>cases r;rfl
 | int _=>obtain⟨t,rfl⟩:=r;rfl
 | str _=>obtain⟨t,rfl⟩:=r;rfl
 | byt _=>obtain⟨t,rfl⟩:=r;rfl
 | flt _=>obtain⟨t,rfl⟩:=r;rfl
 | ref _=>cases r;rfl
 | ty _=>cases r;rfl
def Z8.inj {x y:V}{u:Value}(r:Z8 x u)(q:Z8 y u):x=y:=YH (r.abs.symm.trans q.abs)
def Z7.inj:∀{xs ys:List V} {us:List Value},Z7 xs us->Z7 ys us->xs=ys
 | _,_,_,.nil,.nil=>rfl
 | _,_,_,.cons r t,.cons r' t'=>by rw[r.inj r',Z7.inj t t']
section
variable {X:Cx}{pins:List (Addr×Obj)}{σ:St}{H:Hp}{s:Shared}{a:Addr}{xs ys:List V}
def Xv.of {K:W.Frag}(h:H a=some (.lst xs)):Xv K H a xs:=.inl (.inl h)
def Uu.of {K:W.Frag}(h:H a=some (.tup xs)):Uu K H a xs:=.inl (.inl h)
def Zs.list (I:Zs X pins σ H s)(h:Xv X.K H a xs):∃its:List Value,Z7 xs its/\PlainL s.heap a its.toArray/\xs.length<=sizeLine:=by
 rcases h with h | ⟨o,its,n,hk,hc,hd,hs,hz,r⟩
 ·obtain⟨z,its,n,r,e⟩:=h.ok I.hok
  exact⟨its,r,⟨_,n,e,rfl,rfl,rfl⟩,z⟩
 ·refine⟨its.toList,r,⟨o,n,I.kIn a o hk,hc,hd,by simpa using hs⟩,?_⟩
  have e:=r.length
  simp only[Array.length_toList] at e
  omega
def Zs.tuple (I:Zs X pins σ H s)(h:Uu X.K H a xs):∃its:List Value,Z7 xs its/\IsTup s.heap a its.toArray/\xs.length<=sizeLine:=by
 rcases h with h | ⟨o,its,n,hk,hc,hs,hz,r⟩
 ·obtain⟨z,its,r,p⟩:=h.ok I.hok
  exact⟨its,r,p,z⟩
 ·refine⟨its.toList,r,⟨o,I.kIn a o hk,hc,n,by simpa using hs⟩,?_⟩
  have e:=r.length
  simp only[Array.length_toList] at e
  omega
def Zs.list_inj (I:Zs X pins σ H s)(h:Xv X.K H a xs)(h':Xv X.K H a ys):xs=ys:=by
 obtain⟨its,r,⟨o,n,e,_,_,d⟩,_⟩:=I.list h
 obtain⟨its',r',⟨o',n',e',_,_,d'⟩,_⟩:=I.list h'
 rw[e] at e';cases e'
 rw[d] at d'
 injection d' with d1 _
 have:its=its':=by simpa using congrArg Array.toList d1
 subst this
 exact r.inj r'
def Zs.tuple_inj (I:Zs X pins σ H s)(h:Uu X.K H a xs)(h':Uu X.K H a ys):xs=ys:=by
 obtain⟨its,r,⟨o,e,_,n,d⟩,_⟩:=I.tuple h
 obtain⟨its',r',⟨o',e',_,n',d'⟩,_⟩:=I.tuple h'
 rw[e] at e';cases e'
 rw[d] at d'
 injection d' with d1 _
 have:its=its':=by simpa using congrArg Array.toList d1
 subst this
 exact r.inj r'
end
abbrev Cx.wish (X:Cx)(E:Value->Shared->Prop):Cx:={X with xe:=E}
abbrev Cx.nox (X:Cx):Cx:=X.wish λ_ _=>False
def Cx.Ok.wish {X:Cx}(ok:X.Ok)(E:Value->Shared->Prop):(X.wish E).Ok:=
 ⟨ok.mod,ok.kind,ok.glob,ok.blt,ok.above,ok.inj,ok.has,ok.cab,ok.hd,ok.frames,ok.stk,ok.exf,ok.bs,ok.bsz,ok.noex,ok.exfs,ok.funs,ok.frf⟩
def Cx.Ok.unwish {X:Cx}{E:Value->Shared->Prop}(ok:(X.wish E).Ok):X.Ok:=
 ⟨ok.mod,ok.kind,ok.glob,ok.blt,ok.above,ok.inj,ok.has,ok.cab,ok.hd,ok.frames,ok.stk,ok.exf,ok.bs,ok.bsz,ok.noex,ok.exfs,ok.funs,ok.frf⟩
section
variable {X:Cx}{pins:List (Addr×Obj)}{σ:St}{H:Hp}{s:Shared}{E:Value->Shared->Prop}
def Zs.wish (I:Zs X pins σ H s)(E:Value->Shared->Prop):Zs (X.wish E) pins σ H s:=⟨I.ok.wish E,I.os,I.bare,I.base,I.loc,I.cell,I.free,I.freeC,I.pin,I.hok,I.len⟩
def Zs.unwish (I:Zs (X.wish E) pins σ H s):Zs X pins σ H s:=⟨I.ok.unwish,I.os,I.bare,I.base,I.loc,I.cell,I.free,I.freeC,I.pin,I.hok,I.len⟩
def SP.unwish {D:Gh}{f:Flow}{s':Shared}(h:SP (X.wish E) pins D f s'):SP X pins D f s':=by
 cases f with
 | next=>obtain⟨σ',H',I,q⟩:=h;exact⟨σ',H',I.unwish,q⟩
 | brk=>obtain⟨σ',H',I,q⟩:=h;exact⟨σ',H',I.unwish,q⟩
 | cont=>obtain⟨σ',H',I,q⟩:=h;exact⟨σ',H',I.unwish,q⟩
 | ret u=>obtain⟨v,σ',H',I,r,q⟩:=h;exact⟨v,σ',H',I.unwish,r,q⟩
def jc.nox {st:List Stmt}{t:TS}(h:jc X.nox st t):jc X st t:=λpins s σ H D I hw=>
 wpAny_mono (h pins s σ H D (I.wish _) hw) (λ_ _ q=>q.unwish) λ_ _ z=>False.elim z
end
section
variable {X:Cx}{st:Stmt}{J1:List Stmt}{t u:TS}{e:Expr}{te:TE}{pos:Pos}
def nW:TS:=λD σ H=>D.nx σ H
def kY (t u:TS):TS:=λD σ H=>t {D with nx:=u D} σ H
def uO:jc X [] nW:=λ_ _ σ H _ I h=>wpAny_execs_nil ⟨σ,H,I,h⟩
def w6 (h1:PS X st t)(h2:jc X J1 u):jc X (st::J1) (kY t u):=by
 intro pins s σ H D I h
 refine wpAny_execs_cons (Jp (h1 pins s σ H {D with nx:=u D} I h) λf s1 q=>?_)
 cases f with
 | next=>
  obtain⟨σ',H',I',q⟩:=q
  exact h2 pins s1 σ' H' D I' q
 | ret v=>exact q
 | brk=>exact q
 | cont=>exact q
def uN (h1:PS X st t):jc X [st] t:=by
 intro pins s σ H D I h
 refine wpAny_execs_cons (Jp (h1 pins s σ H D I h) λf s1 q=>?_)
 cases f with
 | next=>exact wpAny_execs_nil q
 | ret v=>exact q
 | brk=>exact q
 | cont=>exact q
def mj:TS:=λD σ H=>D.ct σ H
def Bb:PS X (.Continue pos) mj:=λ_ _ σ H _ I h=>wpAny_Continue ⟨σ,H,I,h⟩
def Zs.quiet {pins:List (Addr×Obj)}{σ:St}{H:Hp}{s:Shared}(I:Zs X pins σ H s):interactive X.env=false:=by simp[interactive,I.ok.kind]
def me (te:TE):TS:=λD σ H=>te σ H λ_ H1=>D.nx σ H1
def uP (he:PE X e te)(hs:swapsWith e none pos.line X.env=pure false:=by rfl):PS X (.Expr e pos) (me te):=by
 intro pins s σ H D I h
 exact wpAny_Expr_any (Jp (he pins s σ H _ I h) λv s1 ⟨x,H1,I1,r1,q1⟩=>⟨σ,H1,I1,q1⟩) I.quiet hs
def kZ (te:TE):TS:=λD σ H=>te σ H D.rt
def q8 (he:PE X e te):PS X (.Return (some e) pos) (kZ te):=by
 intro pins s σ H D I h
 exact wpAny_Return_some (Jp (he pins s σ H _ I h) λv s1 ⟨x,H1,I1,r1,q1⟩=>⟨x,σ,H1,I1,r1,q1⟩)
def ib (c:TT)(t u:TS):TS:=λD σ H=>c σ H λb H1=>if b=true then t D σ H1 else u D σ H1
def mS {c:Expr}{a b:List Stmt}{tc:TT}(hc:PT X c tc)(ha:jc X a t)(hb:jc X b u):PS X (.If c a b pos) (ib tc t u):=by
 intro pins s σ H D I h
 refine wpAny_If (Jp (hc pins s σ H _ I h) λd s1 ⟨H1,I1,q1⟩=>?_)
 cases d with
 | true=>exact ha pins s1 σ H1 D I1 q1
 | false=>exact hb pins s1 σ H1 D I1 q1
def qf:TS:=λ_ _ _=>False
def w9:PS X st qf:=λ_ _ _ _ _ _ h=>h.elim
end
abbrev TG:=V->St->Hp->(St->Hp->Prop)->Prop
abbrev Ay:=List V->St->Hp->(St->Hp->Prop)->Prop
def PG (X:Cx)(target:Expr)(t:TG):Prop:=
 ∀(pins:List (Addr×Obj)) (s:Shared) (σ:St) (H:Hp) (v:V) (u:Value) (Q:St->Hp->Prop),Zs X pins σ H s->Z8 v u->t v σ H Q->
  wpAny (model X.prog X.w) X.A (assign target X.env u) (λ_ s'=>∃σ' H',Zs X pins σ' H' s'/\Q σ' H') X.xe s
def kx (X:Cx)(ts:List Expr)(t:Ay):Prop:=
 ∀(pins:List (Addr×Obj)) (s:Shared) (σ:St) (H:Hp) (vs:List V) (us:List Value) (Q:St->Hp->Prop),Zs X pins σ H s->Z7 vs us->t vs σ H Q->
  wpAny (model X.prog X.w) X.A (assignInOrder ((assignEach ts X.env).map (·.2)) us) (λ_ s'=>∃σ' H',Zs X pins σ' H' s'/\Q σ' H') X.xe s
abbrev sN:=V->V->V->Hp->(Hp->Prop)->Prop
def nj (X:Cx)(t:sN):Prop:=
 ∀(pins:List (Addr×Obj)) (s:Shared) (σ:St) (H:Hp) (o i v:V) (ov iv u:Value) (Q:Hp->Prop),Zs X pins σ H s->Z8 o ov->Z8 i iv->Z8 v u->t o i v H Q->
  wpAny (model X.prog X.w) X.A (setItem ov iv u) (λ_ s'=>∃H',Zs X pins σ H' s'/\Q H') X.xe s
abbrev gq:=V->V->Hp->VK->Prop
section
variable {X:Cx}{pos:Pos}
def Xc (i:Nat):TG:=λv σ H Q=>Q (σ.set i (some v)) H
def Y8 {i:Nat}{x:Str}(hN:X.N.Nodup)(hi:X.N[i]?=some x)(hx:nA X.env.scope x)(hf:X.fn x=true\/X.env.scope.names.lookup x=some .local:=by first | exact .inl rfl | exact .inr rfl | assumption):PG X (.Name x pos) (Xc i):=by
 intro pins s σ H v u Q I r h
 exact wpAny_assign_Name (Ck I hN hi hx r (λs' I'=>⟨_,H,I',h⟩) hf)
def Ab:Ay:=λvs σ H Q=>vs=[]/\Q σ H
def Tl (t:TG)(u:Ay):Ay:=λvs σ H Q=>∃v r,vs=v::r/\t v σ H λσ' H'=>u r σ' H' Q
def Nu:kx X [] Ab:=by
 intro pins s σ H vs us Q I r h
 obtain⟨e,h⟩:=h
 subst e
 cases r
 exact assignInOrder_nil ⟨σ,H,I,h⟩
def Xh {e:Expr}{es:List Expr}{t:TG}{u:Ay}(h1:PG X e t)(h2:kx X es u)
  (hs:(assignEach (e::es) X.env).map (·.2)=assign e X.env::(assignEach es X.env).map (·.2):=by rfl):kx X (e::es) (Tl t u):=by
 intro pins s σ H vs us Q I r h
 obtain⟨v,vr,e1,h⟩:=h
 subst e1
 cases r with
 | cons r rr=>
  rw[hs]
  refine assignInOrder_cons (Jp (h1 pins s σ H _ _ _ I r h) λ_ s1 ⟨σ1,H1,I1,q1⟩=>?_)
  exact h2 pins s1 σ1 H1 _ _ Q I1 rr q1
def B0 (K:W.Frag)(n:Nat)(t:Ay):TG:=λv σ H Q=>∃a xs,v=.ref a/\Uu K H a xs/\xs.length=n/\t xs σ H Q
def Ig {es:List Expr}{k:Nat}{t:Ay}{n:Nat}(hc:X.calm=true)(h:kx X es t)
  (hn:(assignEach es X.env).length=n:=by rfl) (hst:(assignEach es X.env).findIdx? (·.1)=none:=by rfl):PG X (.Tuple es k pos) (B0 X.K n t):=by
 intro pins s σ H v u Q I r hw
 obtain⟨a,xs,e1,hq,hl,hw⟩:=hw
 subst e1
 cases r
 obtain⟨its,rv,ht,hz⟩:=I.tuple hq
 refine assign_Tuple_tuple (I.ok.hd hc) ht (by simp[hn,<-hl,rv.length]) hst λh' hx=>?_
 have I1:Zs X pins σ H {s with heap:=h'}:=I.kept (t':=s.toks) λb o e=>hx b o (XH (XD e)) e
 exact h pins _ σ H xs _ Q I1 (by simpa using rv) hw
def iV (to ti:TE)(t:sN):TG:=λv σ H Q=>to σ H λo H1=>ti σ H1 λi H2=>t o i v H2 λH3=>Q σ H3
def wF {o i:Expr}{to ti:TE}{t:sN}(ho:PE X o to)(hi:PE X i ti)(hs:nj X t)
  (ha:∀v,assign (.Subscript o i pos) X.env v=(do
   let ov <-holding [v] (eval o X.env)
   let iv <-holding [v,ov] (eval i X.env)
   standAt pos
   holding [v,ov,iv] (setItem ov iv v)
   release [v,ov,iv] []):=by intro _;rfl):PG X (.Subscript o i pos) (iV to ti t):=by
 intro pins s σ H v u Q I r h
 rw[ha]
 refine XA (wpAny_holding (Jp (ho pins s σ H _ I h) λov s1 ⟨x,H1,I1,r1,q1⟩=>?_))
 refine XA (wpAny_holding (Jp (hi pins s1 σ H1 _ I1 q1) λiv s2 ⟨y,H2,I2,r2,q2⟩=>?_))
 refine XA (wpAny_standAt (XA (wpAny_holding (Jp (hs pins s2 σ H2 x y v ov iv u _ I2 r1 r2 r q2) λ_ s3 ⟨H3,I3,q3⟩=>?_))))
 exact wpAny_release ⟨σ,H3,I3,q3⟩
def mq (te:TE)(g:TG):TS:=λD σ H=>te σ H λx H1=>g x σ H1 D.nx
def qC {tg e:Expr}{te:TE}{g:TG}(he:PE X e te)(hg:PG X tg g)(hs:swapsWithSole [tg] e pos.line X.env=pure false:=by rfl)(hw:swappedStores [tg] e X.env=pure none:=by rfl)
  (h1:(assignEach [tg] X.env).map (·.2)=[assign tg X.env]:=by rfl):PS X (.Assign [tg] e pos) (mq te g):=by
 intro pins s σ H D I h
 refine wpAny_Assign_stores (Jp (he pins s σ H _ I h) λv s1 ⟨x,H1,I1,r1,q1⟩=>?_) hs hw
 rw[h1]
 exact Jp (hg pins s1 σ H1 x v _ I1 r1 q1) λ_ s2 q=>q
def q5 {i:Nat}{x:Str}{e:Expr}{te:TE}{pos':Pos}(hN:X.N.Nodup)(hi:X.N[i]?=some x)(hx:nA X.env.scope x)(he:PE X e te)(hs:swapsWith e (some (.Name x pos')) pos.line X.env=pure false:=by rfl)(hf:X.fn x=true\/X.env.scope.names.lookup x=some .local:=by first | exact .inl rfl | exact .inr rfl | assumption):
  PS X (.Assign [.Name x pos'] e pos) (mq te (Xc i)):=by
 intro pins s σ H D I h
 refine wpAny_Assign_Name (Jp (he pins s σ H _ I h) λv s1 ⟨y,H1,I1,r1,q1⟩=>?_) hs
 exact Ck I1 hN hi hx r1 (λs2 I2=>⟨_,H1,I2,q1⟩) hf
def f7 (i j:Nat)(ta:TA):TS:=λD σ H=>ta σ H λvs H1=>∃v w,vs=[v,w]/\D.nx ((σ.set i (some v)).set j (some w)) H1
def fG (i:Nat)(te:TE)(ti:gq):TS:=λD σ H=>∃x,σ[i]?=some (some x)/\te σ H λy H1=>ti x y H1 λz H2=>D.nx (σ.set i (some z)) H2
def gK (to ti te:TE)(tget:V->V->Hp->VK->Prop)(tip:gq)(tset:sN):TS:=λD σ H=>to σ H λo H1=>ti σ H1 λi H2=>tget o i H2 λx H3=>te σ H3 λy H4=>tip x y H4 λz H5=>tset o i z H5 λH6=>D.nx σ H6
def eK (X:Cx)(t:V->V->Hp->VK->Prop):Prop:=
 ∀(pins:List (Addr×Obj)) (s:Shared) (σ:St) (H:Hp) (o i:V) (ov iv:Value) (Q:VK),Zs X pins σ H s->Z8 o ov->Z8 i iv->t o i H Q->
  wpAny (model X.prog X.w) X.A (getItem ov iv) (EP X pins σ Q) X.xe s
def eY (f:Int->Int->Int):gq:=λx y H Q=>∃i j,x=.int i/\y=.int j/\Q (.int (f i j)) H
def xO (c:TT)(tb:TS):TS:=λD σ H=>∃W:Nat->St->Hp->Prop,(∃m,W m σ H)/\∀m σ H,W m σ H->
 c σ H λb H1=>if b=true then ∃N:St->Hp->Prop,(∀σ' H',N σ' H'->∃m',m'<m/\W m' σ' H')/\tb {D with nx:=N,ct:=N,bk:=D.nx} σ H1 else D.nx σ H1
def w8 {c:Expr}{body:List Stmt}{tc:TT}{tb:TS}(hp:PassesOwn (model X.prog X.w) X.A X.env X.xe)(hc:PT X c tc)(hb:jc X body tb):PS X (.While c body [] pos) (xO tc tb):=by
 intro pins s σ H D I h
 obtain⟨W,⟨m0,w0⟩,turn⟩:=h
 refine wpAny_While (codeAny_whileLoop (λn s'=>∃σ' H',Zs X pins σ' H' s'/\W n σ' H') ?_ m0 ⟨σ,H,I,w0⟩)
 rintro n s1 ⟨σ1,H1,I1,w1⟩
 refine wpAny_passesOwn hp (Jp (hc pins s1 σ1 H1 _ I1 (turn n σ1 H1 w1)) λb s2 ⟨H2,I2,q2⟩=>?_)
 cases b with
 | true=>
  obtain⟨N,hN,q2⟩:=q2
  rw[XY rfl]
  refine wpAny_passesOwn hp (Jp (hb pins s2 σ1 H2 _ I2 q2) λf s3 q3=>?_)
  cases f with
  | next=>
   obtain⟨σ3,H3,I3,n3⟩:=q3
   obtain⟨m',hm,w3⟩:=hN σ3 H3 n3
   exact⟨m',hm,σ3,H3,I3,w3⟩
  | cont=>
   obtain⟨σ3,H3,I3,n3⟩:=q3
   obtain⟨m',hm,w3⟩:=hN σ3 H3 n3
   exact⟨m',hm,σ3,H3,I3,w3⟩
  | brk=>exact q3
  | ret v=>exact q3
 | false=>
  rw[XX YJ]
  exact wpAny_execs_nil ⟨σ1,H2,I2,q2⟩
end
structure It where
 go:Nat->Hp->Prop
 yld:Nat->Hp->V->Hp->Prop
 stop:Nat->Hp->Prop
def Mj (X:Cx)(pins:List (Addr×Obj))(H:Hp)(b:Addr):Prop:=
 H b=none/\b≠X.env.locals/\b∉X.fs/\(b∈X.ex\/X.s₀.heap.objs.size<=b)/\(∀x c,X.env.cells.lookup x=some c->c≠b)/\∀p∈X.pn++pins,p.1≠b
def Zs.fpOk {X:Cx}{pins:List (Addr×Obj)}{σ:St}{H H':Hp}{s:Shared}{b:Addr}(I:Zs X pins σ H s)(hb:s.heap.objs.size<=b)(hn:H' b=none):Mj X pins H' b:=by
 refine⟨hn,Nat.ne_of_gt (XG I.lt hb),I.nofs hb,.inr (XN I.sz hb),λx c e z=>?_,λp hp z=>?_⟩
 ·obtain⟨v,q⟩:=I.cell x c e
  exact absurd (XG q.lt (by rw[z];exact hb)) (Nat.lt_irrefl _)
 ·exact absurd (XG (XD (I.pin p hp).1) (by rw[z];exact hb)) (Nat.lt_irrefl _)
structure Dq (P:Program)(w:World)(K:W.Frag)(tg:Expr)(J:It)(fp:List Addr)(it:Addr)(tn:Nat->Heap->Prop):Prop where
 mem:it∈fp
 obj:∀i h,tn i h->∀b∈fp,∃o,h.get? b=some o/\∀v,o.data≠.cell v
 keep:∀i h h',tn i h->(∀b∈fp,∀o,h.get? b=some o->h'.get? b=some o)->tn i h'
 item:∀(X:Cx),X.prog=P->X.w=w->X.K=K->X.calm=true->∀(i:Nat) (pins:List (Addr×Obj)) (s:Shared) (σ:St) (H:Hp) (E:Value->Shared->Prop),Zs X pins σ H s->(∀b∈fp,Mj X pins H b)->tn i s.heap->J.go i H->
  wpAny (model P w) X.A (pyNext (.ref it)) (λr s1=>∃u,r=some u/\
   wpAny (model P w) X.A (letOwnedTupleGo tg (.ref it) u) (λ_ s2=>∃x H',Zs X pins σ H' s2/\Z8 x u/\J.yld i H x H'/\tn (i+1) s2.heap/\∀b∈fp,H' b=none) E s1) E s
 done:∀(X:Cx),X.prog=P->X.w=w->X.K=K->X.calm=true->∀(i:Nat) (pins:List (Addr×Obj)) (s:Shared) (σ:St) (H:Hp) (E:Value->Shared->Prop),Zs X pins σ H s->(∀b∈fp,Mj X pins H b)->tn i s.heap->J.stop i H->
  wpAny (model P w) X.A (pyNext (.ref it)) (λr s1=>r=none/\Zs X pins σ H s1) E s
 self:∀(A:Around) (i:Nat) (s:Shared) (Q:Value->Shared->Prop) (E:Value->Shared->Prop),tn i s.heap->Q (.ref it) s->wpAny (model P w) A (pyIter (.ref it)) Q E s
abbrev TI:=St->Hp->(It->Hp->Prop)->Prop
def kI (X:Cx)(pins:List (Addr×Obj))(σ:St)(tg:Expr)(R:It->Hp->Prop)(itv:Value)(s2:Shared):Prop:=
 ∃(it:Addr) (fp:List Addr) (tn:Nat->Heap->Prop) (J:It) (H':Hp),itv=.ref it/\Zs X pins σ H' s2/\Dq X.prog X.w X.K tg J fp it tn/\tn 0 s2.heap/\(∀b∈fp,Mj X pins H' b)/\R J H'
def PI (X:Cx)(tg iter:Expr)(wi:TI):Prop:=
 ∀(pins:List (Addr×Obj)) (s:Shared) (σ:St) (H:Hp) (R:It->Hp->Prop),Zs X pins σ H s->wi σ H R->
  wpAny (model X.prog X.w) X.A (eval iter X.env) (λv s1=>wpAny (model X.prog X.w) X.A (pyIter v) (kI X pins σ tg R) X.xe s1) X.xe s
def By {M:Model}{A:Around}{E:Value->Shared->Prop}{s:Shared}{tg:Expr}{it:Addr}{u:Value}{o:Obj}{n:String}{vs:Array Value}{Q:Unit->Shared->Prop}(ho:s.heap.get? it=some o)(hc:o.cls=.type n)(hd:o.data=.fields vs)
  (hn:["enumerate","zip","dict_itemiterator","dict_reverseitemiterator","odict_iterator","itertools.zip_longest","itertools.pairwise"].contains n=false) (hQ:Q () s):wpAny M A (letOwnedTupleGo tg (.ref it) u) Q E s:=by
 unfold letOwnedTupleGo
 cases tg<;>first
  | exact XB hQ
  | (cases u<;>first
    | exact XB hQ
    | (refine XA (wpAny_load ho ?_)
       rw[hc,hd]
       show wpAny M A (if (["enumerate","zip","dict_itemiterator","dict_reverseitemiterator","odict_iterator","itertools.zip_longest","itertools.pairwise"].contains n&&vs[0]?==some (rawInt _))=true then _ else _) Q E s
       rw[XX (by intro h;rw[hn,Bool.false_and] at h;cases h)]
       exact XB hQ))
def kN (K:W.Frag)(a:Addr):It:=
 ⟨λi H=>∃xs x,Xv K H a xs/\xs[i]?=some x,λi H x H'=>H'=H/\∀xs,Xv K H a xs->xs[i]?=some x,λi H=>∃xs,Xv K H a xs/\xs.length<=i⟩
def gB (K:W.Frag)(a:Addr):It:=
 ⟨λi H=>∃xs x,Uu K H a xs/\xs[i]?=some x,λi H x H'=>H'=H/\∀xs,Uu K H a xs->xs[i]?=some x,λi H=>∃xs,Uu K H a xs/\xs.length<=i⟩
def kM (lo:Int)(n:Nat):It:=⟨λi _=>i<n,λi H x H'=>H'=H/\x=.int (lo+i),λi _=>n<=i⟩
def jk {P:Program}{w:World}{K:W.Frag}{tg:Expr}(a it:Addr):Dq P w K tg (kN K a) [it] it (λi h=>h.IsListIter it a i) where
 mem:=by simp
 obj:=λi h st b hb=>by
  have e:b=it:=by simpa using hb
  subst e
  obtain⟨o,e,c,d⟩:=st
  exact⟨o,e,λv z=>by rw[d] at z;cases z⟩
 keep:=λi h h' st k=>st.at λo e=>k it (by simp) o e
 item:=by
  intro X hP hw hK hc i pins s σ H E I hf st hg
  subst hP hw hK
  obtain⟨xs,x,hq,hx⟩:=hg
  obtain⟨its,rv,p,hz⟩:=I.list hq
  obtain⟨u,hu,ru⟩:=rv.get hx
  obtain⟨f0,f1,f2,f3,f4,f5⟩:=hf it (by simp)
  refine wpAny_pyNext_list_item st p.isList (x:=u) (by simpa using hu) λh' st' sb=>?_
  have I1:Zs X pins σ H {s with heap:=h'}:=I.turned (t':=s.toks) (λb o hb e=>(sb.2 b hb).trans e) f0 f1 f3 f4 f5
  obtain⟨o,e,c,d⟩:=id st'
  exact⟨u,rfl,By (s:={s with heap:=h'}) e c d (by decide) ⟨x,H,I1,ru,⟨rfl,λys hy=>by rw[I.list_inj hy hq];exact hx⟩,st',λb hb=>(hf b hb).1⟩⟩
 done:=by
  intro X hP hw hK hc i pins s σ H E I hf st hg
  subst hP hw hK
  obtain⟨xs,hq,hx⟩:=hg
  obtain⟨its,rv,p,hz⟩:=I.list hq
  obtain⟨f0,f1,f2,f3,f4,f5⟩:=hf it (by simp)
  have hl:=rv.length
  exact wpAny_pyNext_list_end (I.ok.hd hc) st p.isList (by simp;omega) λh' eb=>⟨rfl,I.turned (t':=s.toks) (λb o hb e=>eb b o hb e) f0 f1 f3 f4 f5⟩
 self:=λ_ _ _ _ _ st h=>wpAny_pyIter_listiter st h
def A5 {P:Program}{w:World}{K:W.Frag}{tg:Expr}(a it:Addr):Dq P w K tg (gB K a) [it] it (λi h=>h.IsTupleIter it a i) where
 mem:=by simp
 obj:=λi h st b hb=>by
  have e:b=it:=by simpa using hb
  subst e
  obtain⟨o,e,c,d⟩:=st
  exact⟨o,e,λv z=>by rw[d] at z;cases z⟩
 keep:=λi h h' st k=>st.at λo e=>k it (by simp) o e
 item:=by
  intro X hP hw hK hc i pins s σ H E I hf st hg
  subst hP hw hK
  obtain⟨xs,x,hq,hx⟩:=hg
  obtain⟨its,rv,p,hz⟩:=I.tuple hq
  obtain⟨u,hu,ru⟩:=rv.get hx
  obtain⟨f0,f1,f2,f3,f4,f5⟩:=hf it (by simp)
  refine wpAny_pyNext_tuple_item st (show s.heap.IsTuple a its.toArray from p) (x:=u) (by simpa using hu) λh' st' sb=>?_
  have I1:Zs X pins σ H {s with heap:=h'}:=I.turned (t':=s.toks) (λb o hb e=>(sb.2 b hb).trans e) f0 f1 f3 f4 f5
  obtain⟨o,e,c,d⟩:=id st'
  exact⟨u,rfl,By (s:={s with heap:=h'}) e c d (by decide) ⟨x,H,I1,ru,⟨rfl,λys hy=>by rw[I.tuple_inj hy hq];exact hx⟩,st',λb hb=>(hf b hb).1⟩⟩
 done:=by
  intro X hP hw hK hc i pins s σ H E I hf st hg
  subst hP hw hK
  obtain⟨xs,hq,hx⟩:=hg
  obtain⟨its,rv,p,hz⟩:=I.tuple hq
  obtain⟨f0,f1,f2,f3,f4,f5⟩:=hf it (by simp)
  have hl:=rv.length
  exact wpAny_pyNext_tuple_end (I.ok.hd hc) st (show s.heap.IsTuple a its.toArray from p) (by simp;omega) λh' eb=>⟨rfl,I.turned (t':=s.toks) (λb o hb e=>eb b o hb e) f0 f1 f3 f4 f5⟩
 self:=λ_ _ _ _ _ st h=>wpAny_pyIter_tupleiter st h
def A6 {P:Program}{w:World}{K:W.Frag}{tg:Expr}(it:Addr)(lo:Int)(n:Nat):Dq P w K tg (kM lo n) [it] it (λi h=>IsRangeIter h it (lo+(i:Nat)*1) ((n:Int)-(i:Nat)) 1) where
 mem:=by simp
 obj:=λi h st b hb=>by
  have e:b=it:=by simpa using hb
  subst e
  exact⟨_,st,λv z=>by
   have z':Data.fields _=Data.cell v:=z
   cases z'⟩
 keep:=λi h h' st k=>k it (by simp) _ st
 item:=by
  intro X hP hw hK hc i pins s σ H E I hf st hg
  subst hP hw hK
  obtain⟨f0,f1,f2,f3,f4,f5⟩:=hf it (by simp)
  have W:=Walks.range (prog:=X.prog) (w:=X.w) (I.ok.hd hc) it lo 1 n
  refine W.item i s _ _ hg st λv h' tk hv st' kk=>?_
  obtain⟨t,rfl⟩:=hv
  have I1:Zs X pins σ H {s with heap:=h',toks:=tk}:=I.turned (λb o hb e=>kk b o (by simpa using hb) e) f0 f1 f3 f4 f5
  refine⟨_,rfl,By (s:={s with heap:=h',toks:=tk}) (n:="range_iterator") st' rfl rfl (by decide) ⟨.int (lo+i),H,I1,⟨t,?_⟩,⟨rfl,rfl⟩,st',λb hb=>(hf b hb).1⟩⟩
  rw[Int.mul_one]
 done:=by
  intro X hP hw hK hc i pins s σ H E I hf st hg
  subst hP hw hK
  obtain⟨f0,f1,f2,f3,f4,f5⟩:=hf it (by simp)
  exact wpAny_pyNext_range_end (I.ok.hd hc) st (by have:n<=i:=hg;omega) λh' eb=>⟨rfl,I.turned (t':=s.toks) (λb o hb e=>eb b o hb e) f0 f1 f3 f4 f5⟩
 self:=λ_ _ _ _ _ st h=>wpAny_pyIter_rangeiter st h
section
variable {X:Cx}{tg:Expr}
def wz {pins:List (Addr×Obj)}{σ:St}{H:Hp}{s:Shared}{R:It->Hp->Prop}{E:Value->Shared->Prop}{lo hi:Int}{t u v:Tok}{tk:Nat}(I:Zs X pins σ H s)(h1: -(2^62)<=lo)(h2:lo<2^62)(h3: -(2^62)<=hi)(h4:hi<2^62)
  (q:R (kM lo (hi-lo).toNat) H):wpAny (model X.prog X.w) X.A (pyIter (.ref s.heap.objs.size)) (kI X pins σ tg R) E {s with heap:=s.heap.push {cls:=.type "range",data:=.fields #[.int lo t,.int hi u,.int 1 v]},toks:=tk}:=by
 refine wpAny_pyIter_range (IsRange.new ..) (small_one h1 h2 h3 h4) ?_
 have I1:Zs X pins σ H {s with heap:=s.heap.push {cls:=.type "range",data:=.fields #[.int lo t,.int hi u,.int 1 v]},toks:=tk}:=I.kept λb o e=>XC _ e
 refine⟨(s.heap.push {cls:=.type "range",data:=.fields #[.int lo t,.int hi u,.int 1 v]}).objs.size,[(s.heap.push {cls:=.type "range",data:=.fields #[.int lo t,.int hi u,.int 1 v]}).objs.size],_,_,H,rfl,
  I1.kept (t':=tk) λb o e=>XC _ e,A6 _ lo (hi-lo).toNat,?_,λb hb=>?_,q⟩
 ·have e1:lo+((0:Nat):Int)*1=lo:=by simp
  have e2:(((hi-lo).toNat:Nat):Int)-((0:Nat):Int)=Builtin.Range.rangeSize lo hi 1:=by rw[rangeSize_one];split<;>omega
  show IsRangeIter _ _ (lo+((0:Nat):Int)*1) ((((hi-lo).toNat:Nat):Int)-((0:Nat):Int)) 1
  rw[e1,e2]
  exact XF _ rfl
 ·have e:b=(s.heap.push {cls:=.type "range",data:=.fields #[.int lo t,.int hi u,.int 1 v]}).objs.size:=by simpa using hb
  subst e
  exact I1.fpOk (XE _) (I1.hok.fresh (XE _))
def lN (ta:TA):TI:=λσ H R=>ta σ H λvs H1=>∃j:Int,vs=[.int j]/\ -(2^62)<=j/\j<2^62/\R (kM 0 j.toNat) H1
def jy {a:Expr}{ta:TA}{p pos:Pos}(hg:Gl X "range")(hm:X.mg "range"=none)(ha:PA X [a] ta)(hs:starEach [a] X.env=[(false,eval a X.env)]:=by rfl):PI X tg (.Call (.Name "range" p) [a] [] pos) (lN ta):=by
 intro pins s σ H R I h
 refine Call_ (Vi I hg hm boot_range (PyProof.Rows.callWith_type1 (Jp (ha pos pins s σ H _ I h) λus s1 ⟨vs,H1,I1,r1,q1⟩=>?_) hs rfl))
 obtain⟨j,e,q1,q2,q⟩:=q1
 subst e
 cases r1 with
 | cons r rr=>
  cases rr
  obtain⟨t,rfl⟩:=r
  exact call_range_1 (wz I1 (by omega) (by omega) q1 q2 (by simpa using q))
def md (wi:TI)(g:TG)(tb:TS):TS:=λD σ H=>wi σ H λJ H1=>∃W:Nat->Nat->St->Hp->Prop,(∃m,W 0 m σ H1)/\∀i m σ H,W i m σ H->
 (J.stop i H/\D.nx σ H)\/(J.go i H/\∃N:St->Hp->Prop,(∀σ' H',N σ' H'->∃m',m'<m/\W (i+1) m' σ' H')/\∀x H',J.yld i H x H'->g x σ H' λσ2 H2=>tb {D with nx:=N,ct:=N,bk:=D.nx} σ2 H2)
def Ie (fp:List Addr)(h:Heap):List (Addr×Obj):=fp.filterMap λb=>(h.get? b).map λo=>(b,o)
def Sb {fp:List Addr}{h:Heap}{b:Addr}{o:Obj}(hb:b∈fp)(e:h.get? b=some o):(b,o)∈Ie fp h:=List.mem_filterMap.mpr ⟨b,hb,by rw[e];rfl⟩
def j2 {fp:List Addr}{h:Heap}{p:Addr×Obj}(hp:p∈Ie fp h):p.1∈fp/\h.get? p.1=some p.2:=by
 obtain⟨b,hb,e⟩:=List.mem_filterMap.mp hp
 cases q:h.get? b with
 | none=>rw[q] at e;cases e
 | some o=>
  rw[q] at e
  have e':(b,o)=p:=YH e
  subst e'
  exact⟨hb,q⟩
def Zs.pinned {pins:List (Addr×Obj)}{σ:St}{H:Hp}{s:Shared}{fp:List Addr}(I:Zs X pins σ H s)(hf:∀b∈fp,Mj X pins H b)(ho:∀b∈fp,∃o,s.heap.get? b=some o/\∀v,o.data≠.cell v):Zs X (pins++Ie fp s.heap) σ H s:=
 I.pins_of λp hp=>(XS.mp hp).elim (λz=>I.pin p (XT _ z)) λz=>by
  obtain⟨hb,e⟩:=j2 z
  obtain⟨f0,f1,f2,_⟩:=hf p.1 hb
  obtain⟨o,e',d⟩:=ho p.1 hb
  rw[e] at e';cases e'
  exact⟨e,f0,f1,f2,d⟩
def Zs.unpinned {pins pl:List (Addr×Obj)}{σ:St}{H:Hp}{s:Shared}(I:Zs X (pins++pl) σ H s):Zs X pins σ H s:=I.pins_of λp hp=>I.pin p (XT _ (List.mem_append_left _ hp))
def qA {iter:Expr}{body:List Stmt}{wi:TI}{g:TG}{tb:TS}{pos:Pos}(hp:PassesOwn (model X.prog X.w) X.A X.env X.xe)(hc:X.calm=true)(hi:PI X tg iter wi)(hg:PG X tg g)(hb:jc X body tb)
  (hs:∀x,foldedSetIterable iter X.env x=pure x:=by intro _;rfl):PS X (.For tg iter body [] pos) (md wi g tb):=by
 intro pins s σ H D I h
 refine wpAny_For (Jp (hi pins s σ H _ I h) λv s1 h1=>Jp h1 λitv s2 h2=>?_) hs
 obtain⟨it,fp,tn,J,H2,e,I2,T,st2,f2,W,⟨m0,w0⟩,turn⟩:=h2
 subst e
 have stat:∀{H':Hp},(∀b∈fp,H' b=none)->∀b∈fp,Mj X pins H' b:=λhn b hb=>⟨hn b hb,(f2 b hb).2⟩
 refine codeAny_forLoop_any (λn s'=>∃i σ' H',Zs X pins σ' H' s'/\tn i s'.heap/\(∀b∈fp,H' b=none)/\W i n σ' H') ?_ m0 ⟨0,σ,H2,I2,st2,λb hb=>(f2 b hb).1,w0⟩
 rintro n s3 ⟨i,σ3,H3,I3,st3,fr3,w3⟩
 rcases turn i n σ3 H3 w3 with⟨stop,qn⟩ | ⟨go,N,hN,step⟩
 ·refine wpAny_passesOwn hp (Jp (T.done X rfl rfl rfl hc i pins s3 σ3 H3 X.xe I3 (stat fr3) st3 stop) λr s4 ⟨hr,I4⟩=>?_)
  subst hr
  exact wpAny_execs_nil ⟨σ3,H3,I4,qn⟩
 ·refine wpAny_passesOwn hp (Jp (T.item X rfl rfl rfl hc i pins s3 σ3 H3 X.xe I3 (stat fr3) st3 go) λr s4 ⟨u,hr,h4⟩=>?_)
  subst hr
  refine wpAny_passesOwn hp (Jp h4 λ_ s5 ⟨x,H5,I5,r5,y5,st5,fr5⟩=>?_)
  have I5':=I5.pinned (stat fr5) (T.obj _ _ st5)
  refine wpAny_passesOwn hp (Jp (hg _ s5 σ3 H5 x u _ I5' r5 (step x H5 y5)) λ_ s6 ⟨σ6,H6,I6,q6⟩=>?_)
  refine wpAny_passesOwn hp (Jp (hb _ s6 σ6 H6 _ I6 q6) λf s7 q7=>?_)
  have again:∀{σ7:St} {H7:Hp},Zs X (pins++Ie fp s5.heap) σ7 H7 s7->N σ7 H7->∃m,m<n/\∃i σ' H',Zs X pins σ' H' s7/\tn i s7.heap/\(∀b∈fp,H' b=none)/\W i m σ' H':=λ{σ7 H7} I7 n7=>by
   obtain⟨m',hm,w7⟩:=hN σ7 H7 n7
   refine⟨m',hm,i+1,σ7,H7,I7.unpinned,T.keep _ _ _ st5 λb hb o e=>(I7.pin (b,o) (XT _ (XT _ (Sb hb e)))).1,λb hb=>?_,w7⟩
   obtain⟨o,e,d⟩:=T.obj _ _ st5 b hb
   exact(I7.pin (b,o) (XT _ (XT _ (Sb hb e)))).2.1
  cases f with
  | next=>obtain⟨σ7,H7,I7,n7⟩:=q7;exact again I7 n7
  | cont=>obtain⟨σ7,H7,I7,n7⟩:=q7;exact again I7 n7
  | brk=>obtain⟨σ7,H7,I7,q7⟩:=q7;exact⟨σ7,H7,I7.unpinned,q7⟩
  | ret v=>obtain⟨x7,σ7,H7,I7,r7,q7⟩:=q7;exact⟨x7,σ7,H7,I7.unpinned,r7,q7⟩
end
abbrev R2:=V->V->Hp->VK->Prop
def Ll (X:Cx)(f:Value->Value->Sem Value)(r:R2):Prop:=
 ∀(pins:List (Addr×Obj)) (s:Shared) (σ:St) (H:Hp) (x y:V) (v u:Value) (Q:VK),Zs X pins σ H s->Z8 x v->Z8 y u->r x y H Q->
  wpAny (model X.prog X.w) X.A (f v u) (EP X pins σ Q) X.xe s
def de (X:Cx)(f:Value->Sem Value)(r:V->Hp->VK->Prop):Prop:=
 ∀(pins:List (Addr×Obj)) (s:Shared) (σ:St) (H:Hp) (x:V) (v:Value) (Q:VK),Zs X pins σ H s->Z8 x v->r x H Q->
  wpAny (model X.prog X.w) X.A (f v) (EP X pins σ Q) X.xe s
def Vc (X:Cx)(f:Value)(r:List V->Hp->VK->Prop):Prop:=
 ∀(pins:List (Addr×Obj)) (s:Shared) (σ:St) (H:Hp) (xs:List V) (us:List Value) (Q:VK),Zs X pins σ H s->Z7 xs us->r xs H Q->
  wpAny (model X.prog X.w) X.A (call f us) (EP X pins σ Q) X.xe s
def gp (X:Cx)(r:V->Hp->(Bool->Hp->Prop)->Prop):Prop:=
 ∀(pins:List (Addr×Obj)) (s:Shared) (σ:St) (H:Hp) (x:V) (v:Value) (Q:Bool->Hp->Prop),Zs X pins σ H s->Z8 x v->r x H Q->
  wpAny (model X.prog X.w) X.A (truthy v) (TP X pins σ Q) X.xe s
def nR (r:R2)(ta tb:TE):TE:=λσ H Q=>ta σ H λx H1=>tb σ H1 λy H2=>r x y H2 Q
def rI (C:Int->Int->Prop)(g:Int->Int->V):R2:=λx y H Q=>∃i j,x=.int i/\y=.int j/\C i j/\Q (g i j) H
def nu (g:Int->Int->V):R2:=λx y H Q=>∃i j,x=.int i/\y=.int j/\Q (g i j) H
section
variable {X:Cx}{a b c:Expr}{ta tb tc:TE}{pos:Pos}
def oI (ha:PE X a ta)(hb:PE X b tb){pins:List (Addr×Obj)}{s:Shared}{σ:St}{H:Hp}{R:V->V->Hp->Prop}(I:Zs X pins σ H s)
  (h:ta σ H λx H1=>tb σ H1 λy H2=>R x y H2) {Q:Value->Shared->Prop} {f:Value->Value->Sem Value}
  (hf:∀v u s2 x y H2,Zs X pins σ H2 s2->Z8 x v->Z8 y u->R x y H2->wpAny (model X.prog X.w) X.A (f v u) Q X.xe s2):
  wpAny (model X.prog X.w) X.A (eval a X.env) (λv s₁=>wpAny (model X.prog X.w) X.A (eval b X.env) (λu s₂=>wpAny (model X.prog X.w) X.A (f v u) Q X.xe s₂) X.xe s₁) X.xe s:=by
 refine Jp (ha pins s σ H _ I h) λv s1 ⟨x,H1,I1,r1,q1⟩=>?_
 refine Jp (hb pins s1 σ H1 _ I1 q1) λu s2 ⟨y,H2,I2,r2,q2⟩=>?_
 exact hf v u s2 x y H2 I2 r1 r2 q2
def mW {op:Operator}{r:R2}(ho:Ll X (binaryOp op) r)(ha:PE X a ta)(hb:PE X b tb):PE X (.BinOp a op b pos) (nR r ta tb):=by
 intro pins s σ H Q I h
 exact wpAny_BinOp (oI ha hb I h λv u s2 x y H2 I2 rx ry q=>ho pins s2 σ H2 x y v u Q I2 rx ry q)
def kE {f:Value->Value->Sem Value}{C:Int->Int->Prop}{g:Int->Int->Int}
  (rule:∀(i j:Int) (t u:Tok) (s:Shared) (Q:Value->Shared->Prop) (E:Value->Shared->Prop),C i j->Q (.int (g i j) s.toks) {s with toks:=s.toks+1}->wpAny (model X.prog X.w) X.A (f (.int i t) (.int j u)) Q E s):
  Ll X f (rI C λi j=>.int (g i j)):=by
 intro pins s σ H x y v u Q I rx ry h
 obtain⟨i,j,rfl,rfl,hc,q⟩:=h
 obtain⟨t,rfl⟩:=rx
 obtain⟨t',rfl⟩:=ry
 exact rule i j t t' s _ _ hc ⟨.int (g i j),H,I.tok _,⟨_,rfl⟩,q⟩
def lj {f:Value->Value->Sem Value}{g:Int->Int->Int}
  (rule:∀(i j:Int) (t u:Tok) (s:Shared) (Q:Value->Shared->Prop) (E:Value->Shared->Prop),Q (.int (g i j) s.toks) {s with toks:=s.toks+1}->wpAny (model X.prog X.w) X.A (f (.int i t) (.int j u)) Q E s):
  Ll X f (nu λi j=>.int (g i j)):=by
 intro pins s σ H x y v u Q I rx ry h
 obtain⟨i,j,rfl,rfl,q⟩:=h
 obtain⟨t,rfl⟩:=rx
 obtain⟨t',rfl⟩:=ry
 exact rule i j t t' s _ _ ⟨.int (g i j),H,I.tok _,⟨_,rfl⟩,q⟩
def lu {f:Value->Value->Sem Value}{g:Int->Int->Bool}
  (rule:∀(i j:Int) (t u:Tok) (s:Shared) (Q:Value->Shared->Prop) (E:Value->Shared->Prop),Q (.bool (g i j)) s->wpAny (model X.prog X.w) X.A (f (.int i t) (.int j u)) Q E s):
  Ll X f (nu λi j=>.bl (g i j)):=by
 intro pins s σ H x y v u Q I rx ry h
 obtain⟨i,j,rfl,rfl,q⟩:=h
 obtain⟨t,rfl⟩:=rx
 obtain⟨t',rfl⟩:=ry
 exact rule i j t t' s _ _ ⟨.bl (g i j),H,I,rfl,q⟩
def gE (i j:Int):Prop:=0<j/\j<1073741824
def k4 (i j:Int):Prop:=0<=j/\j<=1000000/\i.natAbs<2^64
def sT (i j:Int):Prop:=(-(2^64)<i/\i<2^64)\/(-(2^64)<j/\j<2^64)
def sT.ok {i j:Int}(h:sT i j):IntMulOk i j:=by
 rcases h with⟨h1,h2⟩ | ⟨h1,h2⟩
 ·exact .of_left (intBits_le_64 h1 h2)
 ·exact .of_right (intBits_le_64 h1 h2)
def qZ:Ll X (binaryOp .Add) (nu λi j=>.int (i+j)):=lj λ_ _ _ _ _ _ _ q=>add_int q
def qT:Ll X (binaryOp .Sub) (nu λi j=>.int (i-j)):=lj λ_ _ _ _ _ _ _ q=>sub_int q
def qV:Ll X (binaryOp .Mult) (rI sT λi j=>.int (i*j)):=kE λ_ _ _ _ _ _ _ hc q=>mul_int q hc.ok
def qW:Ll X (binaryOp .Mod) (rI (λ_ j=>0<j) λi j=>.int (i%j)):=kE λi j _ _ _ _ _ hc q=>by
 have h1:(0:Int)<j:=hc
 exact mod_int' (by omega) (by rw[Int.fmod_eq_emod_of_nonneg i (by omega)];exact q)
def qU:Ll X (binaryOp .Pow) (rI k4 λi j=>.int (i^j.toNat)):=kE λ_ _ _ _ _ _ _ hc q=>pow_int_small hc.1 hc.2.1 hc.2.2 q
end
def fJ:V->V->Bool
 | .non,.non=>true | .non,.int _=>true | .int _,.non=>true | .non,.bl _=>true | .bl _,.non=>true | .non,.str _=>true | .str _,.non=>true
 | .int _,.int _=>true | .bl _,.bl _=>true | .str _,.str _=>true | .byt _,.byt _=>true
 | .int _,.str _=>true | .str _,.int _=>true | .bl _,.str _=>true | .str _,.bl _=>true
 | _,_=>false
section
variable {X:Cx}{a b c:Expr}{ta tb tc:TE}{pos:Pos}
def vq {pins:List (Addr×Obj)}{σ:St}{H:Hp}{s:Shared}{Q:VK}{k k':Bool}(I:Zs X pins σ H s)(q:Q (.bl k) H)(e:k=k'):EP X pins σ Q (.bool k') s:=by
 subst e
 exact⟨.bl k,H,I,rfl,q⟩
def lh:Ll X (compareOp .Lt) (nu λi j=>.bl (decide (i<j))):=lu λ_ _ _ _ _ _ _ q=>lt_int q
def li:Ll X (compareOp .Gt) (nu λi j=>.bl (decide (j<i))):=lu λ_ _ _ _ _ _ _ q=>gt_int q
def j1:Ll X (compareOp .Lt) (λx y H Q=>∃i j,x=.str i/\y=.str j/\Q (.bl (decide (i.cps.toList<j.cps.toList))) H):=by
 intro pins s σ H x y v u Q I rx ry h
 obtain⟨i,j,rfl,rfl,q⟩:=h
 obtain⟨t,rfl⟩:=rx
 obtain⟨t',rfl⟩:=ry
 exact lt_str (vq I q rfl)
def qX:Ll X (compareOp .Is) (λx y H Q=>y=.non/\Q (.bl (decide (x=.non))) H):=by
 intro pins s σ H x y v u Q I rx ry h
 obtain⟨rfl,q⟩:=h
 cases ry
 refine is_none_gen (vq I q ?_)
 cases x<;>first
  | (cases rx;rfl)
  | (obtain⟨t,rfl⟩:=rx;rfl)
def gT:HO->Bool
 | .lst _=>true
 | .ins _ _ _=>true
 | _=>false
def Ll.or {f:Value->Value->Sem Value}{r r':R2}(h:Ll X f r)(h':Ll X f r'):Ll X f (λx y H Q=>r x y H Q\/r' x y H Q):=by
 intro pins s σ H x y v u Q I rx ry q
 rcases q with q | q
 ·exact h pins s σ H x y v u Q I rx ry q
 ·exact h' pins s σ H x y v u Q I rx ry q
def Ii (b:Expr){op:CmpOp}(h:op≠.In:=by decide)(h2:op≠.NotIn:=by decide):behindInMarks op b=false:=by
 have e1:(op==CmpOp.In)=false:=by cases op<;>first | rfl | exact absurd rfl h
 have e2:(op==CmpOp.NotIn)=false:=by cases op<;>first | rfl | exact absurd rfl h2
 cases b<;>simp[behindInMarks,e1,e2]
def tf {op:CmpOp}{r:R2}(ho:Ll X (compareOp op) r)(ha:PE X a ta)(hb:PE X b tb)(hm:behindInMarks op b=false):PE X (.Compare a [op] [b] pos) (nR r ta tb):=by
 intro pins s σ H Q I h
 exact wpAny_Compare1 (oI ha hb I h λv u s2 x y H2 I2 rx ry q=>ho pins s2 σ H2 x y v u Q I2 rx ry q) hm
def sX (t:TE):TT:=λσ H Q=>t σ H λx H'=>∃k,x=.bl k/\Q k H'
def uL {op:CmpOp}{r:R2}(ho:Ll X (compareOp op) r)(ha:PE X a ta)(hb:PE X b tb)(hm:behindInMarks op b=false):PT X (.Compare a [op] [b] pos) (sX (nR r ta tb)):=by
 intro pins s σ H Q I h
 refine wpAny_isTrue_Compare1 (Jp (ha pins s σ H _ I h) λv s1 ⟨x,H1,I1,r1,q1⟩=>Jp (hb pins s1 σ H1 _ I1 q1) λu s2 ⟨y,H2,I2,r2,q2⟩=>
  Jp (ho pins s2 σ H2 x y v u _ I2 r1 r2 q2) λc s3 ⟨z,H3,I3,r3,k,e,q3⟩=>?_) hm
 subst e
 cases r3
 exact wpAny_truthy_bool ⟨H3,I3,q3⟩
def ij (r r':R2)(ta tb tc:TE):TE:=λσ H Q=>ta σ H λx H1=>tb σ H1 λy H2=>r x y H2 λz H3=>∃k,z=.bl k/\
 (if k=true then tc σ H3 λw' H4=>r' y w' H4 Q else Q (.bl false) H3)
def oW (K:W.Frag)(x:V)(H:Hp)(k:Bool):Prop:=
 match x with
 | .non=>k=false
 | .bl b=>k=b
 | .int i=>k=(i !=0)
 | .str y=>y.length<=sizeLine/\k=((y.length:Int) !=0)
 | .byt y=>y.size<=sizeLine/\k=((y.size:Int) !=0)
 | .ref p=>(∃xs,Xv K H p xs/\k=!xs.isEmpty)\/(∃xs,Uu K H p xs/\k=!xs.isEmpty)\/∃kvs,H p=some (.dK kvs)/\k=!kvs.isEmpty
 | _=>False
def zF {κ:Type}{kvs:List (κ×V)}{vs:List (κ×Value)}(r:KV kvs vs):(!vs.isEmpty)=!kvs.isEmpty:=by
 cases r<;>rfl
def Iv {xs:List V}{its:List Value}(r:Z7 xs its):(!its.toArray.isEmpty)=!xs.isEmpty:=by
 cases r<;>simp
def Oq:(sizeLine:Nat)<2^63:=by rw[sizeLine_eq];decide
def qb:gp X (λx H Q=>∃k,oW X.K x H k/\Q k H):=by
 intro pins s σ H x v Q I rx h
 obtain⟨k,e,q⟩:=h
 have hl:=Oq
 have hs:sizeLine=16777216:=sizeLine_eq
 cases x with
 | non=>
  cases rx
  have e':k=false:=e
  subst e'
  exact truthy_none ⟨H,I,q⟩
 | bl b=>
  cases rx
  have e':k=b:=e
  subst e'
  exact wpAny_truthy_bool ⟨H,I,q⟩
 | int i=>
  obtain⟨t,rfl⟩:=rx
  have e':k=(i !=0):=e
  subst e'
  exact PySem.P.truthy_int ⟨H,I,q⟩
 | str y=>
  obtain⟨t,rfl⟩:=rx
  obtain⟨hy,e'⟩:y.length<=sizeLine/\k=((y.length:Int) !=0):=e
  subst e'
  exact PySem.P.truthy_str (by omega) ⟨H,I.tok _,q⟩
 | byt y=>
  obtain⟨t,rfl⟩:=rx
  obtain⟨hy,e'⟩:y.size<=sizeLine/\k=((y.size:Int) !=0):=e
  subst e'
  exact W.truthy_bytes (by omega) ⟨H,I.tok _,q⟩
 | ref p=>
  cases rx
  have e':(∃xs,Xv X.K H p xs/\k=!xs.isEmpty)\/(∃xs,Uu X.K H p xs/\k=!xs.isEmpty)\/∃kvs,H p=some (.dK kvs)/\k=!kvs.isEmpty:=e
  rcases e' with⟨xs,hx,e'⟩ | ⟨xs,hx,e'⟩ | ⟨kvs,hx,e'⟩
  ·subst e'
   obtain⟨its,r,pl,hz⟩:=I.list hx
   have hlen:=r.length
   exact wpAny_truthy_list pl.isList (by simp only[List.size_toArray];omega) ⟨H,I.tok _,by rw[Iv r];exact q⟩
  ·subst e'
   obtain⟨its,r,pl,hz⟩:=I.tuple hx
   have hlen:=r.length
   exact truthy_tuple pl (by simp only[List.size_toArray];omega) ⟨H,I.tok _,by rw[Iv r];exact q⟩
  ·subst e'
   obtain⟨hz,hS,vs,r,m⟩:kvs.length<=sizeLine/\(p==sysModules)=false/\∃vs,KV kvs vs/\s.heap.DictOf (Yc X.prog X.w) p vs:=I.hok p _ hx
   have hlen:kvs.length=vs.length:=Paired.length r
   exact wpAny_truthy_dict hS m (by omega) ⟨H,I.tok _,by rw[zF r];exact q⟩
 | _=>exact(show False from e).elim
def w5 (ha:PE X a ta)(he:∀whole,isTrue a X.env whole=(do let v <-whole;standAt a.pos;holding [v] (truthy v))):
  PT X a (λσ H Q=>ta σ H λx H'=>∃k,oW X.K x H' k/\Q k H'):=by
 intro pins s σ H Q I h
 exact isTrue_plain (Jp (ha pins s σ H _ I h) λv s1 ⟨x,H1,I1,r1,q1⟩=>qb pins s1 σ H1 x v Q I1 r1 q1) (he _)
def zr:Ll X (binaryOp .Add) (λx y H Q=>∃i j,x=.str i/\y=.str j/\i.length+j.length<=sizeLine/\Q (.str (i++j)) H):=by
 intro pins s σ H x y v u Q I rx ry h
 obtain⟨i,j,rfl,rfl,hz,q⟩:=h
 obtain⟨t,rfl⟩:=rx
 obtain⟨t',rfl⟩:=ry
 exact add_str (λt' tk=>⟨.str (i++j),H,I.tok _,⟨_,rfl⟩,q⟩) hz
def Qd {x:V}{us:List Value}(r:Z7 [x] us):∃u,us=[u]/\Z8 x u:=by
 cases r with
 | cons r1 r2=>cases r2;exact⟨_,rfl,r1⟩
def nI {x y:V}{us:List Value}(r:Z7 [x,y] us):∃u w',us=[u,w']/\Z8 x u/\Z8 y w':=by
 cases r with
 | cons r1 r2=>
  cases r2 with
  | cons r3 r4=>cases r4;exact⟨_,_,rfl,r1,r3⟩
def jQ (hc:X.calm=true):Vc X (.builtin "max") (λxs H Q=>∃i j,xs=[.int i,.int j]/\Q (.int (if j>i then j else i)) H):=by
 intro pins s σ H xs us Q I r h
 obtain⟨i,j,rfl,q⟩:=h
 obtain⟨u,w',rfl,⟨t,rfl⟩,⟨t',rfl⟩⟩:=nI r
 refine max_two_ints (I.ok.hd hc) λh' tk k=>⟨_,H,I.kept k,?_,q⟩
 by_cases hj:j>i
 ·rw[XY hj,XY hj];exact⟨_,rfl⟩
 ·rw[XX hj,XX hj];exact⟨_,rfl⟩
def jR:Vc X (.type "int") (λxs H Q=>(∃i,xs=[.int i]/\Q (.int i) H)\/∃k,xs=[.bl k]/\Q (.int (if k then 1 else 0)) H):=by
 intro pins s σ H xs us Q I r h
 rcases h with⟨i,rfl,q⟩ | ⟨k,rfl,q⟩
 ·obtain⟨u,rfl,t,rfl⟩:=Qd r
  exact call_int_int ⟨.int i,H,I,⟨_,rfl⟩,q⟩
 ·obtain⟨u,rfl,r1⟩:=Qd r
  cases r1
  exact call_int_bool ⟨.int (if k then 1 else 0),H,I.tok _,⟨_,rfl⟩,q⟩
def eQ (K:W.Frag)(x:V)(H:Hp)(n:Nat):Prop:=
 match x with
 | .str y=>y.length<=sizeLine/\n=y.length
 | .byt y=>y.size<=sizeLine/\n=y.size
 | .ref p=>(∃xs,Xv K H p xs/\n=xs.length)\/∃xs,Uu K H p xs/\n=xs.length
 | _=>False
end
structure zY (h:Heap)(x dx C:Addr)(mA:Str->Option Value):Prop where
 obj:h.get? x=some (W.instObj C dx)
 ns:h.Ns1 dx mA
 ne:dx≠x
def j8 {h:Heap}{dx:Addr}{mA:Str->Option Value}(n:h.Ns1 dx mA):∃od,h.get? dx=some od/\∀name,W.lookIn name od=some (mA name):=by
 obtain⟨o,es,ep,ho,hd,hk,_,hm⟩:=n
 refine⟨o,ho,λname=>?_⟩
 have e:=hm name
 unfold nsFind findBy at e
 rw[<-Array.find?_toList] at e
 unfold W.lookIn
 rw[hd]
 dsimp only
 split
 ·rename_i y q
  rw[q] at e
  exact congrArg some e
 ·rename_i q
  rw[q] at e
  have a:es.toList.any (·.refKey)=false:=by
   rw[List.any_eq_false]
   intro y hy
   obtain⟨z,t,hkey⟩:=hk y (Array.mem_toList_iff.mp hy)
   simp[DictEntry.refKey,hkey]
  have a':¬es.toList.any (·.refKey)=true:=by rw[a];exact YJ
  rw[XX a']
  exact congrArg some e
def zY.look {h:Heap}{x dx C:Addr}{mA:Str->Option Value}(I:zY h x dx C mA):∃od,W.InstAt h x (W.instObj C dx) C (some od)/\∀name,W.lookIn name od=some (mA name):=
 let ⟨od,ho,hl⟩:=j8 I.ns
 ⟨od,⟨I.obj,rfl,rfl,ho⟩,hl⟩
section
variable {prog:Program}{w:World}{A:Around}{E:Value->Shared->Prop}{s:Shared}{K:W.Frag}{x dx C f:Addr}{mA:Str->Option Value}{name:Str}{v:Value}
def tQ {expr:Bool}{Q:Value->Shared->Prop}(X:K.In s.heap)(I:zY s.heap x dx C mA)(hg:W.plainGet K C name=true)(hh:W.hasDictIn K C=true)
  (ha:W.findIn K (.ref C) name=some none) (hv:mA name=some v) (hv':W.handedIn v=true) (h:Q v {s with toks:=s.toks+1}):
  wpAny (model prog w) A (getAttr (.ref x) name expr) Q E s:=by
 obtain⟨od,J,hl⟩:=I.look
 exact W.get_value X J (W.plainGet_of hg).1 (W.findObj_own hh ha rfl (by rw[hl,hv])) hv' h
def vk {pl:Sem Bool}{Q:Value×List Value->Shared->Prop}(X:K.In s.heap)(I:zY s.heap x dx C mA)(hg:W.plainGet K C name=true)
  (hf:W.findIn K (.ref C) name=some (some (.ref f))) (ht:W.isFn K (.ref f)=true) (hv:mA name=none) (h:Q (.ref f,[.ref x]) s):
  wpAny (model prog w) A (getMethod (.ref x) name pl) Q E s:=by
 obtain⟨od,J,hl⟩:=I.look
 exact W.method_fn X J (W.plainGet_of hg).1 (W.plainGet_of hg).2 hf (beq_iff_eq.mp ht) (by show(W.lookIn name od).map (·.isSome)=some false;rw[hl,hv];rfl) h
def uD {ns:List Str}{Q:Unit->Shared->Prop}(X:K.In s.heap)(I:zY s.heap x dx C mA)
  (hs:W.findIn K (.ref C) "__setattr__"=some (some (.builtin "object.__setattr__"))) (hp:W.plainOver K C=true) (ht:W.takerIn K C name=some none) (hh:W.hasDictIn K C=true)
  (hw:PySem.Within mA ns) (hsz:ns.length<=sizeLine)
  (h:∀h',zY h' x dx C (λy=>if y=name then some v else mA y)->Heap.SameBut dx s.heap h'->Q () {s with heap:=h',toks:=s.toks+2}):
  wpAny (model prog w) A (setAttr (.ref x) name v) Q E s:=by
 obtain⟨od,J,hl⟩:=I.look
 refine W.set_plain X J hs (W.osa_open (s:={s with toks:=s.toks+1}) (r:=none) X J hp ht λb=>?_)
 obtain⟨cd,hc,hd'⟩:=W.any_some hh
 have hx:s.heap.get? x=some ⟨.ref C,some dx,.plain,#[]⟩:=I.obj
 refine XA (XB (XA (XA (wpAny_loadPart hx (XA (W.Looks.here (s:={s with toks:=s.toks+1}) (W.looks_clsIn X hc) ?_))))))
 rw[hd']
 refine XB (a:=some dx) (XA (XB (XA ?_)))
 refine wpAny_nsSet1 (s:={s with toks:=s.toks+1}) I.ns λh' hn2 hs2=>?_
 obtain⟨oD,esD,epD,hoD,hdD,hcD⟩:=hn2.count (PySem.Within.cons name v hw)
 refine XA (wpAny_lookBehind hoD (by rw[hdD];exact pastItsLine_dict (XN hcD (by rw[YF];omega))) ?_)
 exact XB (h _ ⟨(hs2.2 _ (Ne.symm I.ne)).trans I.obj,hn2,I.ne⟩ hs2)
def wV {R:Result->Shared->Prop}{vs:List Value}{kw:List (Str×Value)}(X:K.In s.heap)(hm:W.makesIn K C=true)
  (hi:W.findIn K (.ref C) "__init__"=some (some (.ref f))) (hf:W.typeIn K (.ref f)=some (.type "function"))
  (h:codeAny (model prog w) (A.under (.builtin "type.__call__" ⟨.ref C::vs,kw⟩)) (.call (.ref f) ⟨.ref (s.heap.objs.size+1)::vs,kw⟩) (W.InitBack (s.heap.objs.size+1) R)
   {s with heap:=(s.heap.push W.emptyDict).push (W.instObj C s.heap.objs.size)}):
  codeAny (model prog w) A (.call (.ref C) ⟨vs,kw⟩) R s:=by
 obtain⟨hh,g,d,t,os⟩:=s
 exact W.make_core (W.makes_of X hm) (W.looks_findIn X hi) (λself=>W.bind_fn X self hf) (.inl rfl) h
end
def U3 (f:Str)(v:V):List (Str×V)->List (Str×V)
 | []=>[(f,v)]
 | (g,x)::r=>if g=f then(g,v)::r else(g,x)::U3 f v r
def Lc (f g:Str)(v:V):∀fs:List (Str×V),(U3 f v fs).lookup g=if g=f then some v else fs.lookup g
 | []=>by
  show List.lookup g [(f,v)]=_
  by_cases h:g=f
  ·have hb:(g==f)=true:=beq_iff_eq.mpr h
   simp only[List.lookup,hb,if_pos h]
  ·have hb:(g==f)=false:=beq_eq_false_iff_ne.mpr h
   simp only[List.lookup,hb,if_neg h]
 | (k,x)::r=>by
  have ih:=Lc f g v r
  rw[show U3 f v ((k,x)::r)=(if k=f then(k,v)::r else(k,x)::U3 f v r) from rfl]
  by_cases hk:k=f
  ·rw[XY hk]
   by_cases h:g=k
   ·have hb:(g==k)=true:=beq_iff_eq.mpr h
    simp only[List.lookup,hb,if_pos (h.trans hk)]
   ·have hb:(g==k)=false:=beq_eq_false_iff_ne.mpr h
    simp only[List.lookup,hb,if_neg (λe:g=f=>h (e.trans hk.symm))]
  ·rw[XX hk]
   by_cases h:g=k
   ·have hb:(g==k)=true:=beq_iff_eq.mpr h
    simp only[List.lookup,hb,if_neg (λe:g=f=>hk (h.symm.trans e))]
   ·have hb:(g==k)=false:=beq_eq_false_iff_ne.mpr h
    simp only[List.lookup,hb]
    exact ih
def M0 (f:Str)(v:V):∀fs:List (Str×V),f∈(U3 f v fs).map (·.1)/\∀g,g∈fs.map (·.1)->g∈(U3 f v fs).map (·.1)
 | []=>⟨by simp[U3],λg h=>by simp at h⟩
 | (k,x)::r=>by
  obtain⟨i1,i2⟩:=M0 f v r
  rw[show U3 f v ((k,x)::r)=(if k=f then(k,v)::r else(k,x)::U3 f v r) from rfl]
  by_cases hk:k=f
  ·rw[XY hk]
   subst hk
   exact⟨by simp,λg h=>by simpa using h⟩
  ·rw[XX hk]
   refine⟨?_,λg h=>?_⟩
   ·rw[YI]
    exact XV _ i1
   ·rw[YI] at h |-
    rcases List.mem_cons.mp h with e | e
    ·exact List.mem_cons.mpr (.inl e)
    ·exact XV _ (i2 g e)
def Le (f:Str)(v:V):∀fs:List (Str×V),(U3 f v fs).length<=fs.length+1
 | []=>by simp[U3]
 | (k,x)::r=>by
  have ih:=Le f v r
  rw[show U3 f v ((k,x)::r)=(if k=f then(k,v)::r else(k,x)::U3 f v r) from rfl]
  by_cases hk:k=f
  ·rw[XY hk,YF,YF];omega
  ·rw[XX hk,YF,YF];omega
def Pf.some_of {v:V}{o:Option Value}(r:Pf (some v) o):∃u,o=some u/\Z8 v u:=by
 cases o with
 | none=>exact(show False from r).elim
 | some u=>exact⟨u,rfl,r⟩
def Pf.none_of {o:Option Value}(r:Pf none o):o=none:=by
 cases o with
 | none=>rfl
 | some u=>exact(show False from r).elim
def jG {v:V}{u:Value}(r:Z8 v u):W.handedIn u=true:=by
 cases v with
 | non=>cases (show u=Value.none from r);rfl
 | bl b=>cases (show u=Value.bool b from r);rfl
 | int i=>obtain⟨t,e⟩:=(show ∃t,u=Value.int i t from r);cases e;rfl
 | str x=>obtain⟨t,e⟩:=(show ∃t,u=Value.str x t from r);cases e;rfl
 | byt b=>obtain⟨t,e⟩:=(show ∃t,u=Value.bytes b t from r);cases e;rfl
 | flt b=>obtain⟨t,e⟩:=(show ∃t,u=Value.float b t from r);cases e;rfl
 | ref a=>cases (show u=Value.ref a from r);rfl
 | ty n=>cases (show u=Value.type n from r);rfl
section
variable {P:Program}{w:World}{H H':Hp}{h h':Heap}{a C dx:Addr}{fs fs':List (Str×V)}
def Kb (hok:Nb P w H h)(e:H a=some (.ins C dx fs)):∃mA,zY h a dx C mA/\(∀f,Pf (fs.lookup f) (mA f))/\PySem.Within mA (fs.map (·.1))/\fs.length<=1000/\H dx=some (.own a):=by
 obtain⟨d,z,ne,ob,mA,n,r,q⟩:=(show Y6 P w H h a (.ins C dx fs) from hok a _ e)
 exact⟨mA,⟨ob,n,ne⟩,r,q,z,d⟩
end
structure yd (K:W.Frag)(C:Addr):Prop where
 pg:W.plainGet K C Str.empty=true
 hd:W.hasDictIn K C=true
 po:W.plainOver K C=true
 sa:W.findIn K (.ref C) "__setattr__"=some (some (.builtin "object.__setattr__"))
def yd.get {K:W.Frag}{C:Addr}(c:yd K C)(f:Str):W.plainGet K C f=true:=c.pg
def Sm (K:W.Frag)(C:Addr)(f:Str):Prop:=W.findIn K (.ref C) f=some none
def Sm.taker {K:W.Frag}{C:Addr}{f:Str}(n:Sm K C f):W.takerIn K C f=some none:=by
 unfold W.takerIn
 rw[show W.findIn K (.ref C) f=some none from n]
 rfl
structure eV (K:W.Frag)(C:Addr)(f:Str)(v:V)(u:Value):Prop where
 at_:W.findIn K (.ref C) f=some (some u)
 rel:Z8 v u
 get:W.specialIn K u "__get__"=some none
 cp:W.copiedNames.contains f=false
structure xg (K:W.Frag)(C:Addr)(m:Str)(f:Addr):Prop where
 at_:W.findIn K (.ref C) m=some (some (.ref f))
 fn:W.isFn K (.ref f)=true
 kp:W.keepIn K (.ref f)=true
section
variable {X:Cx}{pins:List (Addr×Obj)}{σ:St}{H:Hp}{s:Shared}{a C dx:Addr}{fs:List (Str×V)}{f:Str}{v:V}{A:Around}{E:Value->Shared->Prop}
def zJ {b:Bool}{Q:Value->Shared->Prop}(I:Zs X pins σ H s)(e:H a=some (.ins C dx fs))(c:yd X.K C)(n:Sm X.K C f)(l:fs.lookup f=some v)
  (h:∀u s',Zs X pins σ H s'->Z8 v u->Q u s'):wpAny (model X.prog X.w) A (getAttr (.ref a) f b) Q E s:=by
 obtain⟨mA,O,r,_,_,_⟩:=Kb I.hok e
 obtain⟨u,hu,ru⟩:=Pf.some_of (v:=v) (o:=mA f) (by rw[<-l];exact r f)
 exact tQ I.kIn O (c.get f) c.hd n hu (jG ru) (h u _ (I.tok _) ru)
def Iz {m:Str}{g:Addr}{pl:Sem Bool}{Q:Value×List Value->Shared->Prop}(I:Zs X pins σ H s)(e:H a=some (.ins C dx fs))(c:yd X.K C)(k:xg X.K C m g)(l:fs.lookup m=none)
  (h:Q (.ref g,[.ref a]) s):wpAny (model X.prog X.w) A (getMethod (.ref a) m pl) Q E s:=by
 obtain⟨mA,O,r,_,_,_⟩:=Kb I.hok e
 have hn:mA m=none:=Pf.none_of (by rw[<-l];exact r m)
 exact vk I.kIn O (c.get m) k.at_ k.fn hn h
def A8 {y:V}{u:Value}{Q:Unit->Shared->Prop}(I:Zs X pins σ H s)(e:H a=some (.ins C dx fs))(c:yd X.K C)(n:Sm X.K C f)(hl:fs.length<1000)(ry:Z8 y u)
  (h:∀s',Zs X pins σ (Yq H a (.ins C dx (U3 f y fs))) s'->Q () s'):wpAny (model X.prog X.w) A (setAttr (.ref a) f u) Q E s:=by
 obtain⟨mA,O,r,wi,_,ho⟩:=Kb I.hok e
 have hz:(fs.map (·.1)).length<=sizeLine:=by rw[XI,sizeLine_eq];omega
 refine uD I.kIn O c.sa c.po n.taker c.hd wi hz λh' O' sb=>h _ ?_
 have hd:∃o,h'.get? dx=some o:=let ⟨o,_,_,e',_⟩:=O'.ns;⟨o,e'⟩
 refine I.write (x:=a) (e:=dx) (by rw[e];exact True.intro) (.inr ho) (λb q hb z=>(sb.2 b hb).trans z) hd ?_
 refine⟨by rw[Zt O.ne];exact ho,?_,O.ne,O'.obj,_,O'.ns,λg=>?_,λg hg=>?_⟩
 ·have:=Le f y fs;omega
 ·show Pf ((U3 f y fs).lookup g) (if g=f then some u else mA g)
  rw[Lc]
  by_cases q:g=f
  ·rw[XY q,XY q];exact ry
  ·rw[XX q,XX q];exact r g
 ·by_cases q:g=f
  ·rw[q];exact(M0 f y fs).1
  ·refine(M0 f y fs).2 g (wi g λz=>hg ?_)
   show(if g=f then some u else mA g)=none
   rw[XX q];exact z
def Zs.made (I:Zs X pins σ H s):Zs X pins σ (Yq (Yq H s.heap.objs.size (.own (s.heap.objs.size+1))) (s.heap.objs.size+1) (.ins C s.heap.objs.size []))
  {s with heap:=(s.heap.push W.emptyDict).push (W.instObj C s.heap.objs.size)}:=by
 have e1:(s.heap.push W.emptyDict).get? s.heap.objs.size=some W.emptyDict:=XF s.heap rfl
 have e2:((s.heap.push W.emptyDict).push (W.instObj C s.heap.objs.size)).get? (s.heap.objs.size+1)=some (W.instObj C s.heap.objs.size):=by
  have:=XF (s.heap.push W.emptyDict) (o:=W.instObj C s.heap.objs.size) rfl
  rwa [Heap.size_push] at this
 have e3:(s.heap.push W.emptyDict).Ns s.heap.objs.size (λ_=>none):=⟨W.emptyDict,#[],_,e1,rfl,(λe he=>absurd he (by simp)),λ_=>rfl⟩
 have I1:=I.laid (a:=s.heap.objs.size) (o:=.own (s.heap.objs.size+1)) (h':=s.heap.push W.emptyDict) (t':=s.toks) (λb u q=>XC _ q) (XE _) ⟨_,e1⟩
 refine I1.laid (a:=s.heap.objs.size+1) (o:=.ins C s.heap.objs.size []) (t':=s.toks) (λb u q=>XC _ q) (Nat.le_of_eq (Heap.size_push _ _)) ?_
 have ne:s.heap.objs.size≠s.heap.objs.size+1:=XH (Nat.lt_succ_self _)
 refine⟨by rw[Zt ne,Z3],XO _,ne,e2,λ_=>none,(Heap.Ns1.of_empty e3).at λo q=>XC _ q,λ_=>True.intro,λy hy=>absurd rfl hy⟩
def sE {prog:Program}{w:World}{env:Env}{e:Expr}{f:Str}{pos:Pos}{s:Shared}{Q:Value->Shared->Prop}(hb:attributeBase e f env (eval e env)=eval e env)
  (h:wpAny (model prog w) A (eval e env) (λo s₁=>wpAny (model prog w) A (getAttr o f true) Q E s₁) E s):wpAny (model prog w) A (eval (.Attribute e f pos) env) Q E s:=
 Attribute_any_ h (by rw[arm_eval_Attribute,hb])
end
def ie (K:W.Frag)(ta:TE)(f:Str):TE:=λσ H Q=>ta σ H λx H1=>∃a C dx fs v,x=.ref a/\H1 a=some (.ins C dx fs)/\yd K C/\Sm K C f/\fs.lookup f=some v/\Q v H1
def fE (K:W.Frag)(ta:TE)(f:Str):TE:=λσ H Q=>ta σ H λx H1=>∃a C dx fs v u,x=.ref a/\H1 a=some (.ins C dx fs)/\yd K C/\eV K C f v u/\fs.lookup f=none/\Q v H1
def iz (K:W.Frag)(ta tv:TE)(f:Str):TS:=λD σ H=>tv σ H λy H1=>ta σ H1 λx H2=>∃a C dx fs,x=.ref a/\H2 a=some (.ins C dx fs)/\yd K C/\Sm K C f/\fs.length<1000/\
 D.nx σ (Yq H2 a (.ins C dx (U3 f y fs)))
def eT (X:Cx)(op:Operator)(rd:V->V->Hp->VK->Prop):Prop:=
 ∀(pins:List (Addr×Obj)) (s:Shared) (σ:St) (H:Hp) (x y:V) (u v:Value) (Q:VK),Zs X pins σ H s->Z8 x u->Z8 y v->rd x y H Q->wpAny (model X.prog X.w) X.A (inplaceOp op u v) (EP X pins σ Q) X.xe s
def kC (K:W.Frag)(ta tv:TE)(rd:V->V->Hp->VK->Prop)(f:Str):TS:=λD σ H=>ta σ H λx H1=>∃a C dx fs v,x=.ref a/\H1 a=some (.ins C dx fs)/\yd K C/\Sm K C f/\fs.lookup f=some v/\
 tv σ H1 λy H2=>rd v y H2 λz H3=>∃dx' fs',H3 a=some (.ins C dx' fs')/\fs'.length<1000/\D.nx σ (Yq H3 a (.ins C dx' (U3 f z fs')))
section
variable {X:Cx}{o e value:Expr}{f:Str}{pos pos' tpos:Pos}{ta tv:TE}
def qN (he:PE X e ta)(hb:attributeBase e f X.env (eval e X.env)=eval e X.env):PE X (.Attribute e f pos) (ie X.K ta f):=by
 intro pins s σ H Q I h
 refine sE hb (Jp (he pins s σ H _ I h) λu s1 ⟨x,H1,I1,rx,a,C,dx,fs,v,ex,ea,c,n,l,q⟩=>?_)
 subst ex
 obtain rfl:u=Value.ref a:=rx
 exact zJ I1 ea c n l λu' s2 I2 ru=>⟨v,H1,I2,ru,q⟩
def qB (ha:PE X o ta)(hv:PE X value tv)(hs:swapsWith value (some (.Attribute o f pos')) pos.line X.env=pure false):PS X (.Assign [.Attribute o f pos'] value pos) (iz X.K ta tv f):=by
 intro pins s σ H D I h
 refine plainObj_wpAny_Assign_Attribute (Jp (hv pins s σ H _ I h) λu s1 ⟨y,H1,I1,ry,q⟩=>Jp (ha pins s1 σ H1 _ I1 q) λov s2 ⟨x,H2,I2,rx,a,C,dx,fs,ex,ea,c,n,l,q2⟩=>?_) hs
 subst ex
 obtain rfl:ov=Value.ref a:=rx
 exact A8 I2 ea c n l ry λs3 I3=>⟨σ,_,I3,q2⟩
end
section
variable {X:Cx}{pins:List (Addr×Obj)}{σ:St}{H:Hp}{s:Shared}{A:Around}{E:Value->Shared->Prop}{Q:Value->Shared->Prop}{c:Value}{b:Bool}
inductive Lv (K:W.Frag)(H:Hp):V->Value->Prop where
 | non:Lv K H .non (.type "NoneType")
 | bl (x:Bool):Lv K H (.bl x) (.type "bool")
 | int (i:Int):Lv K H (.int i) (.type "int")
 | str (x:Str):Lv K H (.str x) (.type "str")
 | flt (x:UInt64):Lv K H (.flt x) (.type "float")
 | lst {a:Addr} {xs:List V} (e:H a=some (.lst xs)):Lv K H (.ref a) (.type "list")
 | frz {a:Addr} {o:Obj} {xs:List V} (e:H a=some (.frz o (.lst xs))):Lv K H (.ref a) (.type "list")
 | tup {a:Addr} {xs:List V} (e:H a=some (.tup xs)):Lv K H (.ref a) (.type "tuple")
 | dK {a:Addr} {kvs:List (Zz×V)} (e:H a=some (.dK kvs)):Lv K H (.ref a) (.type "dict")
 | dT {a:Addr} {kvs:List (List Zz×V)} (e:H a=some (.dT kvs)):Lv K H (.ref a) (.type "dict")
 | ins {a C dx:Addr} {fs:List (Str×V)} (e:H a=some (.ins C dx fs)) (cl:yd K C) (ha:W.findIn K (.ref C) "__class__"=some (some (.builtin "object.__class__")))
   (hn:W.specialIn K (.builtin "object.__class__") "__get__"=some (some (.builtin "getset_descriptor.__get__"))) (htk:W.takesIn K (.builtin "object.__class__")=some true)
   (hm:W.mroIn K C (.type "object")=some true):Lv K H (.ref a) (.ref C)
def Vy {x:V}{u t:Value}(I:Zs X pins σ H s)(rx:Z8 x u)(ty:Lv X.K H x t)(e:W.kitOne X.K t c=some b)(h:∀tk,Q (.bool b) {s with toks:=tk}):
  wpAny (model X.prog X.w) A (call (.builtin "isinstance") [u,c]) Q E s:=by
 cases ty with
 | non=>cases (show u=Value.none from rx);exact W.kia_one W.kitx_none I.kIn True.intro e (λz=>nomatch z) h
 | bl y=>cases (show u=Value.bool y from rx);exact W.kia_one W.kitx_bool I.kIn True.intro e (λz=>nomatch z) h
 | int i=>obtain⟨t,q⟩:=(show ∃t,u=Value.int i t from rx);cases q;exact W.kia_one W.kitx_int I.kIn True.intro e (λz=>nomatch z) h
 | str y=>obtain⟨t,q⟩:=(show ∃t,u=Value.str y t from rx);cases q;exact W.kia_one W.kitx_str I.kIn True.intro e (λz=>nomatch z) h
 | flt y=>obtain⟨t,q⟩:=(show ∃t,u=Value.float y t from rx);cases q;exact W.kia_one W.kitx_float I.kIn True.intro e (λz=>nomatch z) h
 | @lst a xs ea=>
  cases (show u=Value.ref a from rx)
  obtain⟨_,_,n,_,h1⟩:=(show Y6 X.prog X.w H s.heap a (.lst xs) from I.hok a _ ea)
  exact W.kia_one W.kitx_list I.kIn ⟨_,h1,rfl⟩ e (λz=>nomatch z) h
 | @frz a ob xs ea=>
  cases (show u=Value.ref a from rx)
  obtain⟨_,_,_,n,_,h1⟩:=(show Y6 X.prog X.w H s.heap a (.frz ob (.lst xs)) from I.hok a _ ea)
  exact W.kia_one W.kitx_list I.kIn ⟨_,h1,rfl⟩ e (λz=>nomatch z) h
 | @tup a xs ea=>
  cases (show u=Value.ref a from rx)
  obtain⟨_,_,_,p⟩:=(show Y6 X.prog X.w H s.heap a (.tup xs) from I.hok a _ ea)
  obtain⟨o,h1,h2,_⟩:=p
  exact W.kia_one W.kitx_tuple I.kIn ⟨o,h1,h2⟩ e (λz=>nomatch z) h
 | @dK a kvs ea=>
  cases (show u=Value.ref a from rx)
  obtain⟨_,_,vs,_,p⟩:=(show Y6 X.prog X.w H s.heap a (.dK kvs) from I.hok a _ ea)
  obtain⟨o,es,ep,h1,h2,_⟩:=p
  exact W.kia_one W.kitx_dict I.kIn ⟨o,h1,h2.1⟩ e (λz=>nomatch z) h
 | @dT a kvs ea=>
  cases (show u=Value.ref a from rx)
  obtain⟨_,_,xs,_,o,es,ep,h1,h2,_⟩:=(show Y6 X.prog X.w H s.heap a (.dT kvs) from I.hok a _ ea)
  exact W.kia_one W.kitx_dict I.kIn ⟨o,h1,h2.1⟩ e (λz=>nomatch z) h
 | @ins a C dx fs ea cl ha hn htk hm=>
  cases (show u=Value.ref a from rx)
  obtain⟨mA,O,_⟩:=Kb I.hok ea
  obtain⟨od,J,_⟩:=O.look
  exact W.kia_one (W.kitx_own (cl.get _) cl.hd ha hn htk hm) I.kIn J e (λz=>nomatch z) h
end
structure X5 (k:Nat)(A:Around):Prop where
 hd:A.handled=none
 dp:A.depth+3*k+5<recursionLimit
 un:A.units+16*k+200<cLine
def X5.deeper {k:Nat}{A:Around}(r:X5 (k+1) A)(env:Env):X5 k (A.deeper env):=
 ⟨r.hd,by have:=r.dp;show A.depth+1+3*k+5<_;omega,by have:=r.un;show A.units+3+16*k+200<_;omega⟩
def zw {A:Around}{C:Addr}{us:List Value}{kw:List (Str×Value)}:(A.under (.builtin "type.__call__" ⟨.ref C::us,kw⟩)).depth=A.depth+1:=by
 first | rfl | simp[Around.under,Code.weight,Code.isCreation,Code.isGuard,Code.isCaller,Code.frames,Code.isFrame,guardIds]
def zv {A:Around}{C:Addr}{us:List Value}{kw:List (Str×Value)}:(A.under (.builtin "type.__call__" ⟨.ref C::us,kw⟩)).units=A.units+1:=by
 first | rfl | simp[Around.under,Code.cUnits,Code.frames,Code.isFrame]
def X5.make {k:Nat}{A:Around}(r:X5 (k+1) A)(C:Addr)(us:List Value)(kw:List (Str×Value)):X5 k (A.under (.builtin "type.__call__" ⟨.ref C::us,kw⟩)):=
 ⟨r.hd,by have:=r.dp;rw[zw];omega,by have:=r.un;rw[zv];omega⟩
def X5.depth {k:Nat}{A:Around}(r:X5 k A):A.depth<recursionLimit:=by have:=r.dp;omega
def xQ:TA:=λ_ H Q=>Q [] H
def xS (ta:TE)(tr:TA):TA:=λσ H Q=>ta σ H λx H1=>tr σ H1 λxs H2=>Q (x::xs) H2
section
variable {X:Cx}{e:Expr}{es:List Expr}{te:TE}{t:TA}{pos:Pos}
def zp:PA X [] xQ:=λ_ _ _ _ H Q I h=>Calls.spliced_nil ⟨[],H,I,.nil,h⟩
def Lz (ha:PE X e te)(hr:PA X es t)(hs:starEach (e::es) X.env=(false,eval e X.env)::starEach es X.env:=by rfl):PA X (e::es) (xS te t):=by
 intro pos pins s σ H Q I h
 rw[hs]
 show wpAny _ _ (spliced ((false,eval e X.env)::backTo pos (starEach es X.env))) _ _ s
 refine Calls.spliced_cons (Jp (ha pins s σ H _ I h) λu s1 ⟨x,H1,I1,r1,q1⟩=>?_)
 exact Jp (hr pos pins s1 σ H1 _ I1 q1) λus s2 ⟨xs,H2,I2,r2,q2⟩=>⟨x::xs,H2,I2,.cons r1 r2,q2⟩
def nP (t:TA):TE:=λσ H Q=>t σ H λxs H1=>xs.length<=sizeLine/\∀p,H1 p=none->Q (.ref p) (Yq H1 p (.tup xs))
def nY (t:TA):TE:=λσ H Q=>t σ H λxs H1=>xs.length<=sizeLine/\∀p,H1 p=none->Q (.ref p) (Yq H1 p (.lst xs))
def qH {x1}(h:PA X es t):PE X (.Tuple es x1 pos) (nP t):=by
 intro pins s σ H Q I hq
 refine wpAny_Tuple_spliced (Jp (h pos pins s σ H _ I hq) λus s1 ⟨xs,H1,I1,r,z,q⟩=>⟨by rw[<-r.length];exact z,?_⟩)
 have hf:H1 s1.heap.objs.size=none:=I1.hok.fresh (XE _)
 refine⟨.ref s1.heap.objs.size,Yq H1 s1.heap.objs.size (.tup xs),I1.laid (t':=s1.toks) (λb u e=>XC _ e) (XE _) ?_,rfl,q _ hf⟩
 exact⟨z,us,r,⟨_,XF _ rfl,rfl,_,rfl⟩⟩
def qL (h:PA X es t):PE X (.List es pos) (nY t):=by
 intro pins s σ H Q I hq
 refine wpAny_List_spliced (Jp (h pos pins s σ H _ I hq) λus s1 ⟨xs,H1,I1,r,z,q⟩=>⟨by rw[<-r.length];exact z,?_⟩)
 have hf:H1 s1.heap.objs.size=none:=I1.hok.fresh (XE _)
 refine⟨.ref s1.heap.objs.size,Yq H1 s1.heap.objs.size (.lst xs),I1.laid (t':=s1.toks) (λb u e=>XC _ e) (XE _) ?_,rfl,q _ hf⟩
 exact⟨z,us,0,r,XF _ rfl⟩
end
abbrev Sp:=List V->Hp->VK->XK->Prop
abbrev xy:=List Env->Hp->Shared->XK->Value->Shared->Prop
structure yb (P:Program)(w:World)(K:W.Frag)(mg:Str->Option Value)(base:Heap)(A:Around)(outer:List Env)(s:Shared)(H:Hp):Prop where
 frames:A.frames=some outer
 mod:Mod K mg base
 bs:∀b o,base.get? b=some o->s.heap.get? b=some o/\H b=none
 bsz:base.objs.size<=s.heap.objs.size
 funs:s.heap.FunFrames base outer
 frf:∀b∈jH outer,H b=none
 hok:Nb P w H s.heap
 bare:AllBare s.gens
def CE (outer:List Env)(P:Program)(w:World)(H:Hp)(s:Shared)(Q:VK)(u:Value)(s':Shared):Prop:=
 ∃v H',s'.os=s.os/\AllBare s'.gens/\Un (jH outer) [] H H' s.heap s'.heap/\Nb P w H' s'.heap/\Z8 v u/\Q v H'
def CR (CX:xy)(outer:List Env)(P:Program)(w:World)(H:Hp)(s:Shared)(Q:VK)(E:XK)(r:Result)(s':Shared):Prop:=
 match r with
 | .ok (.ret u)=>CE outer P w H s Q u s'
 | .ok _=>False
 | .error e=>CX outer H s E e s'
structure Ud (P:Program)(w:World)(K:W.Frag)(mg:Str->Option Value)(base:Heap)(CX:xy)(k:Nat)(f:Addr)(fd:FuncData)(ps:List Str)(sp:Sp):Prop where
 len:∀vs H Q E,sp vs H Q E->vs.length=ps.length
 run:∀(A:Around) (outer:List Env) (s:Shared) (H:Hp) (args:Args) (us:List Value) (vs:List V) (Q:VK) (E:XK),X5 k A->yb P w K mg base A outer s H->BindsTo s fd args (ps.zip us)->Z7 vs us->sp vs H Q E->
  codeAny (model P w) A (.call (.ref f) args) (CR CX outer P w H s Q E) s
def yb.make {P:Program}{w:World}{K:W.Frag}{mg:Str->Option Value}{base:Heap}{A:Around}{outer:List Env}{s:Shared}{H:Hp}(e:yb P w K mg base A outer s H)(C:Addr)(us:List Value)(kw:List (Str×Value)):
  yb P w K mg base (A.under (.builtin "type.__call__" ⟨.ref C::us,kw⟩)) outer s H:=⟨by first | exact e.frames | (simpa[Around.under,Code.envs,Code.isFrame,pushEnvs] using e.frames),e.mod,e.bs,e.bsz,e.funs,e.frf,e.hok,e.bare⟩
section
variable {X:Cx}{pins:List (Addr×Obj)}{σ:St}{H:Hp}{s s':Shared}
def Zs.env0 (I:Zs X pins σ H s):yb X.prog X.w X.K X.mg X.base X.A X.stack s H:=
 ⟨I.ok.frames,I.ok.mod,I.bs,XN I.ok.bsz I.sz,I.stack,I.stkFree,I.hok,I.bare⟩
def Zs.after {Q:VK}{u:Value}(I:Zs X pins σ H s)(h:CE X.stack X.prog X.w H s Q u s'):EP X pins σ Q u s':=by
 obtain⟨v,H',os,bare,un,hok,r,q⟩:=h
 obtain⟨hh,g,d,t,os'⟩:=s'
 obtain rfl:os'=s.os:=os
 exact⟨v,H',I.call (h':=hh) (g':=g) (d':=d) (t':=t) (ch:=[]) un hok bare (λb z=>absurd z (by simp)),r,q⟩
end
def sY (sp:Sp)(dvs:List V)(E:XK)(t:TA):TE:=λσ H Q=>t σ H λvs H1=>sp (vs++dvs) H1 Q E
def gI (C:Addr)(m:Str)(sp:Sp)(dvs:List V)(E:XK)(ta:TE)(t:TA):TE:=λσ H Q=>ta σ H λx H1=>∃a dx fs,x=.ref a/\H1 a=some (.ins C dx fs)/\fs.lookup m=none/\
 t σ H1 λvs H2=>sp (x::(vs++dvs)) H2 Q E
def nX (C:Addr)(sp:Sp)(dvs:List V)(E:XK)(t:TA):TE:=λσ H Q=>t σ H λvs H1=>∀x dx,H1 x=none->H1 dx=none->dx≠x->
 sp (.ref x::(vs++dvs)) (Yq (Yq H1 dx (.own x)) x (.ins C dx [])) (λv H2=>v=.non/\Q (.ref x) H2) E
def X6 (K:W.Frag)(fd:FuncData)(ps:List Str)(ds:List Value):Prop:=
 ∀(s:Shared) (us:List Value),K.In s.heap->(us++ds).length=ps.length->BindsTo s fd ⟨us,[]⟩ (ps.zip (us++ds))
def X6.all {K:W.Frag}{fd:FuncData}{ps:List Str}(h:∀us:List Value,us.length=ps.length->bindArgs fd ⟨us,[]⟩=pure (ps.zip us)):X6 K fd ps []:=λs us _ hl=>by
 rw[YK] at hl |-
 exact .of_eq (h us hl)
def Hl (CX:xy)(X:Cx)(E:XK):Prop:=∀(pins:List (Addr×Obj)) (σ:St) (H:Hp) (s:Shared) (e:Value) (s':Shared),Zs X pins σ H s->CX X.stack H s E e s'->X.xe e s'
section
variable {X:Cx}{CX:xy}{k:Nat}{f C:Addr}{fd:FuncData}{ps:List Str}{sp:Sp}{dvs:List V}{ds:List Value}{E:XK}{x m:Str}{p pos apos:Pos}{e o:Expr}{es:List Expr}{ta:TE}{t:TA}
def zf {pins:List (Addr×Obj)}{σ:St}{H:Hp}{s:Shared}{Q:VK}{us:List Value}{vs:List V}(F:Ud X.prog X.w X.K X.mg X.base CX k f fd ps sp)(hr:X5 k X.A)(hb:X6 X.K fd ps ds)(hd:Z7 dvs ds)(hx:Hl CX X E)
  (I:Zs X pins σ H s) (r:Z7 vs us) (h:sp (vs++dvs) H Q E):wpAny (model X.prog X.w) X.A (call (.ref f) us) (EP X pins σ Q) X.xe s:=by
 have r2:Z7 (vs++dvs) (us++ds):=r.append hd
 have hl:(us++ds).length=ps.length:=by rw[<-r2.length];exact F.len _ _ _ _ h
 refine wpAny_call (codeAny_mono (F.run X.A X.stack s H ⟨us,[]⟩ (us++ds) (vs++dvs) Q E hr I.env0 (hb s us I.kIn hl) r2 h) λr s' hq=>?_)
 cases r with
 | error e=>exact hx pins σ H s e s' I hq
 | ok fl=>
  cases fl with
  | ret u=>exact I.after hq
  | next=>exact False.elim hq
  | brk=>exact False.elim hq
  | cont=>exact False.elim hq
def tj (F:Ud X.prog X.w X.K X.mg X.base CX k f fd ps sp)(hr:X5 k X.A)(hg:Gl X x)(hm:X.mg x=some (.ref f))(hk:W.keepIn X.K (.ref f)=true)(hb:X6 X.K fd ps ds)(hd:Z7 dvs ds)(hx:Hl CX X E)
  (ha:PA X (e::es) t) (hdb:(x==("__debug__":Str))=false:=by decide) (he:starEach (e::es) X.env=(false,eval e X.env)::starEach es X.env:=by rfl) (hpl:(backTo pos (starEach es X.env)).any (·.1)=false:=by rfl):
  PE X (.Call (.Name x p) (e::es) [] pos) (sY sp dvs E t):=by
 intro pins s σ H Q I h
 refine wpAny_Call_Name_kw (yB I hg hm ?_ hdb)
 refine W.callWith_K (h₀:=X.base) I.ok.mod.kin hk (Jp (ha pos pins s σ H _ I h) λus s1 ⟨vs,H1,I1,r,q⟩=>⟨I1.kIn,?_⟩) he hpl
 exact zf F hr hb hd hx I1 r q
structure Mk (K:W.Frag)(C f:Addr):Prop where
 makes:W.makesIn K C=true
 init:W.findIn K (.ref C) "__init__"=some (some (.ref f))
 fn:W.isFn K (.ref f)=true
 kp:W.keepIn K (.ref C)=true
def ww {pins:List (Addr×Obj)}{σ:St}{H:Hp}{s:Shared}{Q:VK}{us:List Value}{vs:List V}(M:Mk X.K C f)(F:Ud X.prog X.w X.K X.mg X.base CX k f fd ps sp)(hr:X5 (k+1) X.A)(hb:X6 X.K fd ps ds)(hd:Z7 dvs ds)
  (hx:Hl CX X E) (I:Zs X pins σ H s) (r:Z7 vs us)
  (h:∀x dx,H x=none->H dx=none->dx≠x->sp (.ref x::(vs++dvs)) (Yq (Yq H dx (.own x)) x (.ins C dx [])) (λv H2=>v=.non/\Q (.ref x) H2) E):
  wpAny (model X.prog X.w) X.A (call (.ref C) us) (EP X pins σ Q) X.xe s:=by
 have hq:=h (s.heap.objs.size+1) s.heap.objs.size (I.hok.fresh (Nat.le_succ _)) (I.hok.fresh (XE _)) (XH (Nat.lt_succ_self _))
 have I2:=Zs.made (C:=C) I
 have r2:Z7 (V.ref (s.heap.objs.size+1)::(vs++dvs)) (Value.ref (s.heap.objs.size+1)::(us++ds)):=.cons rfl (r.append hd)
 have hl:(Value.ref (s.heap.objs.size+1)::us++ds).length=ps.length:=by
  have e:=r2.length
  rw[F.len _ _ _ _ hq] at e
  exact e.symm
 refine wpAny_call (wV (f:=f) I.kIn M.makes M.init (beq_iff_eq.mp M.fn) (codeAny_mono (F.run _ X.stack _ _ ⟨Value.ref (s.heap.objs.size+1)::us,[]⟩ (Value.ref (s.heap.objs.size+1)::(us++ds)) _ _ E (hr.make C us [])
  (I2.env0.make C us []) (hb _ (Value.ref (s.heap.objs.size+1)::us) I2.kIn hl) r2 hq) λr s' hq'=>?_))
 cases r with
 | error e=>exact hx pins σ _ _ e s' I2 hq'
 | ok fl=>
  cases fl with
  | ret u=>
   obtain⟨v,H',I3,rv,ev,q3⟩:=I2.after hq'
   subst ev
   exact⟨rv,⟨V.ref (s.heap.objs.size+1),H',I3,rfl,q3⟩⟩
  | next=>exact False.elim hq'
  | brk=>exact False.elim hq'
  | cont=>exact False.elim hq'
def wH (M:Mk X.K C f)(F:Ud X.prog X.w X.K X.mg X.base CX k f fd ps sp)(hr:X5 (k+1) X.A)(hg:Gl X x)(hm:X.mg x=some (.ref C))(hb:X6 X.K fd ps ds)(hd:Z7 dvs ds)(hx:Hl CX X E)
  (hdb:(x==("__debug__":Str))=false:=by decide):PE X (.Call (.Name x p) [] [] pos) (nX C sp dvs E xQ):=by
 intro pins s σ H Q I h
 refine wpAny_Call_Name_kw (yB I hg hm ?_ hdb)
 exact W.callWith_K0 I.kIn M.kp (ww (us:=[]) M F hr hb hd hx I .nil h)
end
def PK (X:Cx)(kws:List Keyword)(t:TA):Prop:=
 ∀(pos:Pos) (pins:List (Addr×Obj)) (s:Shared) (σ:St) (H:Hp) (Q:List V->Hp->Prop),Zs X pins σ H s->t σ H Q->wpAny (model X.prog X.w) X.A (evalAll ((backToKw pos (keywordEach kws X.env)).map (·.2))) (AP X pins σ Q) X.xe s
section
variable {X:Cx}{CX:xy}{k:Nat}{f C:Addr}{fd:FuncData}{ps ks:List Str}{sp:Sp}{E:XK}{x m:Str}{p pos apos kpos:Pos}{e o:Expr}{es:List Expr}{kws:List Keyword}{te ta:TE}{t tk:TA}{nm:Option Str}
structure gx (K:W.Frag)(fd:FuncData)(ps ks:List Str)(g:List Value->List Value->List Value)(gV:List V->List V->List V):Prop where
 to:∀(s:Shared) (us ws:List Value),K.In s.heap->(g us ws).length=ps.length->BindsTo s fd ⟨us,ks.zip ws⟩ (ps.zip (g us ws))
 rel:∀{vs:List V} {us:List Value} {zs:List V} {ws:List Value},Z7 vs us->Z7 zs ws->Z7 (gV vs zs) (g us ws)
variable {g:List Value->List Value->List Value}{gV:List V->List V->List V}
end
structure Z1 (N P:List Str)(sc:Scope):Prop where
 kind:sc.kind=.function
 co:sc.isCoroutine=false
 gen:sc.isGenerator=false
 nd:N.Nodup
 pre:N.take P.length=P
 par:∀x∈P,sc.names.lookup x=some .local\/sc.names.lookup x=some .cell
 nofree:∀y∈sc.names,y.2≠.free
def Fc {kindOf:Str->Option NameKind}{x:Str}:∀{binds:List (Str×Value)} {m:Str->Option Value},(∀v,(x,v)∉binds)->bindL kindOf binds m x=m x
 | [],_,_=>rfl
 | (n,v)::r,m,h=>by
  unfold bindL
  rw[Fc λw hw=>h w (XV _ hw)]
  split
  ·have:x≠n:=by rintro rfl;exact h v List.mem_cons_self
   simp[this]
  ·rfl
def Fe {kindOf:Str->Option NameKind}{x:Str}:∀{binds:List (Str×Value)} {m:Str->Option Value},(∀v,(x,v)∉binds)->bindC kindOf binds m x=m x
 | [],_,_=>rfl
 | (n,v)::r,m,h=>by
  unfold bindC
  rw[Fe λw hw=>h w (XV _ hw)]
  split
  ·rfl
  ·have:x≠n:=by rintro rfl;exact h v List.mem_cons_self
   simp[this]
def Fd {kindOf:Str->Option NameKind}{x:Str}{v:Value}:∀{P:List Str} {vs:List Value} {i:Nat} {m:Str->Option Value},P.Nodup->P[i]?=some x->vs[i]?=some v->kindOf x=some .local->
  bindL kindOf (P.zip vs) m x=some v
 | [],_,_,_,_,h,_,_=>by simp at h
 | _::_,[],_,_,_,_,h,_=>by simp at h
 | p::P,w::vs,0,m,nd,h1,h2,hk=>by
  simp at h1 h2;subst h1;subst h2
  show bindL kindOf ((p,w)::P.zip vs) m p=_
  unfold bindL
  rw[Fc λv hv=>(List.nodup_cons.mp nd).1 (List.of_mem_zip hv).1,XY hk]
  simp
 | p::P,w::vs,i+1,m,nd,h1,h2,hk=>by
  show bindL kindOf ((p,w)::P.zip vs) m x=_
  unfold bindL
  exact Fd (i:=i) (List.nodup_cons.mp nd).2 (by simpa using h1) (by simpa using h2) hk
def Ff {kindOf:Str->Option NameKind}{x:Str}{v:Value}:∀{P:List Str} {vs:List Value} {i:Nat} {m:Str->Option Value},P.Nodup->P[i]?=some x->vs[i]?=some v->kindOf x≠some .local->
  bindC kindOf (P.zip vs) m x=some v
 | [],_,_,_,_,h,_,_=>by simp at h
 | _::_,[],_,_,_,_,h,_=>by simp at h
 | p::P,w::vs,0,m,nd,h1,h2,hk=>by
  simp at h1 h2;subst h1;subst h2
  show bindC kindOf ((p,w)::P.zip vs) m p=_
  unfold bindC
  rw[Fe λv hv=>(List.nodup_cons.mp nd).1 (List.of_mem_zip hv).1,XX hk]
  simp
 | p::P,w::vs,i+1,m,nd,h1,h2,hk=>by
  show bindC kindOf ((p,w)::P.zip vs) m x=_
  unfold bindC
  exact Ff (i:=i) (List.nodup_cons.mp nd).2 (by simpa using h1) (by simpa using h2) hk
def start (N:List Str)(vs:List V):St:=vs.map some++List.replicate (N.length-vs.length) none
def Am (CX:xy)(P:Program)(w:World)(K:W.Frag)(mg:Str->Option Value)(base:Heap)(N:List Str)(qual:Str)(scope:Scope)(f:Addr)(cd:Value)(A:Around)(outer:List Env)(s:Shared)(H:Hp)(E:XK):Cx where
 prog:=P
 w:=w
 K:=K
 mg:=mg
 base:=base
 A:=A.deeper (envOfC qual scope s.heap.objs.size f cd)
 N:=N
 s₀:=s
 H₀:=H
 env:=envOfC qual scope s.heap.objs.size f cd
 outer:=outer
 stack:=envOfC qual scope s.heap.objs.size f cd::outer
 ex:=[]
 calm:=true
 fn:=λ_=>true
 pn:=[]
 xe:=λe s'=>wpAny (model P w) (A.deeper (envOfC qual scope s.heap.objs.size f cd)) (leaving (envOfC qual scope s.heap.objs.size f cd) e) (λ_ s''=>CX outer H s E e s'') (λe' s''=>CX outer H s E e' s'') s'
def Ap {sc:Scope}{n:Nat}{x:Str}(h:sc.names.lookup x=some .cell):∃c,(cellsFrom n sc.names []).lookup x=some c:=by
 have q:=W.cellsFrom_some sc.names n [] (.inl h)
 exact Option.isSome_iff_exists.mp q
def jC {CX:xy}{P:Program}{w:World}{K:W.Frag}{mg:Str->Option Value}{base:Heap}{N ps:List Str}{qual:Str}{scope:Scope}{f:Addr}{cd:Value}{A:Around}{outer:List Env}{s s1:Shared}{H:Hp}{E:XK}{us:List Value}{vs:List V}
  (S:Z1 N ps scope) (hd:A.handled=none) (e0:yb P w K mg base A outer s H) (hl:vs.length=ps.length) (r:Z7 vs us)
  (x:InCallC s s.heap.objs.size (bindL (envOfC qual scope s.heap.objs.size f cd).kindOf (ps.zip us) λ_=>none) (cellsFrom (s.heap.objs.size+1) scope.names []) (bindC (envOfC qual scope s.heap.objs.size f cd).kindOf (ps.zip us) λ_=>none) s1):
  Zs (Am CX P w K mg base N qual scope f cd A outer s H E) [] (start N vs) H s1:=by
 have hpl:ps.length<=N.length:=by have:=congrArg List.length S.pre;rw[YM] at this;omega
 obtain⟨h1,tk,rfl,hk⟩:=x.done
 have noA:∀b:Addr,b∉(Am CX P w K mg base N qual scope f cd A outer s H E).ex:=λb z=>absurd (show b∈([]:List Addr) from z) (by simp)
 refine⟨⟨e0.mod,S.kind,rfl,rfl,XE _,λy z c h1 h2=>?_,λy hy=>?_,λy c _ h=>?_,λ_=>hd,Around.frames_deeper e0.frames,.inr ⟨rfl,rfl⟩,λb z=>absurd z (noA b),e0.bs,e0.bsz,λb _ _=>noA b,λb z=>absurd z (noA b),e0.funs,e0.frf⟩,
  rfl,e0.bare,Un.kept hk,⟨_,x.toInCall.ns,λi y v h1 h2 h3=>?_⟩,λy c h=>⟨_,x.cell y c h⟩,e0.hok.fresh (Nat.le_refl _),λy c h=>?_,λp hp=>absurd (show p∈([]:List (Addr×Obj)) from hp) (by simp),e0.hok.kept hk,?_⟩
 ·exact name_of_addr x.apart (PySem.mem_of_lookup h1) (PySem.mem_of_lookup h2)
 ·have hy:scope.names.lookup y=some .cell\/scope.names.lookup y=some .free:=hy
  rcases hy with hy | hy
  ·exact Ap hy
  ·exact absurd rfl (S.nofree _ (PySem.mem_of_lookup hy))
 ·exact Nat.le_of_lt (x.above y c (PySem.mem_of_lookup h))
 ·have hi:i<vs.length:=by
   unfold start at h2
   by_cases hi:i<vs.length
   ·exact hi
   ·rw[List.getElem?_append_right (by simpa using hi)] at h2
    rw[List.getElem?_replicate] at h2
    split at h2<;>cases h2
  have ha:vs[i]?=some v:=by
   unfold start at h2
   rw[List.getElem?_append_left (by simpa using hi),List.getElem?_map] at h2
   cases e:vs[i]? with
   | none=>rw[e] at h2;cases h2
   | some a=>rw[e] at h2;cases h2;rfl
  obtain⟨u,hu,rv⟩:=r.get ha
  have hp:ps[i]?=some y:=by
   rw[<-S.pre,List.getElem?_take_of_lt (by omega)];exact h1
  have ndP:ps.Nodup:=by rw[<-S.pre];exact S.nd.sublist (List.take_sublist _ _)
  refine⟨u,rv,?_⟩
  rcases S.par y (List.mem_of_getElem? hp) with k | k
  ·exact .inl ⟨k,Fd ndP hp hu k⟩
  ·obtain⟨c,e⟩:=Ap (n:=s.heap.objs.size+1) k
   refine .inr ⟨.inl k,c,e,?_⟩
   have q:=x.cell y c e
   rw[Ff ndP hp hu (by show scope.names.lookup y≠_;rw[k];decide)] at q
   exact q
 ·exact e0.hok.fresh (Nat.le_of_lt (x.above y c (PySem.mem_of_lookup h)))
 ·unfold start
  show _=N.length
  rw[List.length_append,XI,List.length_replicate]
  omega
def lO {CX:xy}{P:Program}{w:World}{K:W.Frag}{mg:Str->Option Value}{base:Heap}{k:Nat}{f:Addr}{name qual:Str}{params:Arguments}{body:List Stmt}{scope:Scope}{dV kV doc pm cdv ct oc:Value}{an od:Option Addr}
  {osl:Array (Option Value)} {N ps:List Str} {sp:Sp} (lk:K.lookup f=some ⟨oc,od,.func (W.fnOf name qual params body scope dV kV doc pm an cdv ct),osl⟩) (hcd:W.codeIn K cdv qual=true) (S:Z1 N ps scope)
  (len:∀vs H Q E,sp vs H Q E->vs.length=ps.length)
  (hbody:∀(A:Around) (outer:List Env) (s:Shared) (H:Hp) (vs:List V) (Q:VK) (E:XK),X5 k (A.deeper (envOfC qual scope s.heap.objs.size f cdv))->sp vs H Q E->
   ∃t,jc (Am CX P w K mg base N qual scope f cdv A outer s H E) body t/\t {nx:=λ_ H'=>Q .non H',rt:=Q} (start N vs) H):
  Ud P w K mg base CX (k+1) f (W.fnOf name qual params body scope dV kV doc pm an cdv ct) ps sp:=by
 refine⟨len,λA outer s H args us vs Q E hr e0 hb r hsp=>?_⟩
 have hl:=len _ _ _ _ hsp
 have KX:K.In s.heap:=e0.mod.kin.keeps λb o e=>(e0.bs b o e).1
 have lim:s.heap.NoLimit:=e0.mod.nolimit.keeps λb o e=>(e0.bs b o e).1
 have hkind:∀y∈ps.zip us,scope.names.lookup y.1=some .local\/(scope.names.lookup y.1=some .cell/\((cellsFrom (s.heap.objs.size+1) scope.names []).lookup y.1).isSome=true):=λ⟨n,v⟩ hy=>by
  rcases S.par n (List.of_mem_zip hy).1 with q | q
  ·exact .inl q
  ·exact .inr ⟨q,W.cellsFrom_some _ _ _ (.inl q)⟩
 refine codeAny_call_function hr.depth (KX _ _ lk) rfl S.co S.gen rfl (W.codeRec_of KX hcd) (hb _ _ _ _ ?_)
 refine wpAny_newFunctionEnv_cells S.kind hkind λenv he s1 x=>?_
 subst he
 refine⟨lim.keeps x.toInCall.keep,codeAny_func ?_⟩
 obtain⟨t,ht,hq⟩:=hbody A outer s H vs Q E (hr.deeper _) hsp
 have I:Zs (Am CX P w K mg base N qual scope f cdv A outer s H E) [] (start N vs) H s1:=jC S hr.hd e0 hl r x
 refine wpAny_mono (ht [] s1 (start N vs) H _ I hq) (λfl s' hs=>?_) λe s' hs=>hs
 have fin:∀{σ':St} {H':Hp} {v:V} {u:Value},Zs (Am CX P w K mg base N qual scope f cdv A outer s H E) [] σ' H' s'->Z8 v u->Q v H'->CE outer P w H s Q u s':=
  λ{σ' H' v u} J rv q=>⟨v,H',J.os,J.bare,J.base,J.hok,rv,q⟩
 cases fl with
 | ret u=>
  obtain⟨v,σ',H',J,rv,q⟩:=hs
  exact fin J rv q
 | next=>
  obtain⟨σ',H',J,q⟩:=hs
  exact fin (v:=V.non) (u:=Value.none) J rfl q
 | brk=>
  obtain⟨_,_,_,q⟩:=hs
  exact False.elim q
 | cont=>
  obtain⟨_,_,_,q⟩:=hs
  exact False.elim q
section
variable {X:Cx}{x:Str}{p pos:Pos}{e:Expr}{es:List Expr}{t:TA}{id T:String}{r:List V->Hp->VK->Prop}
def ip (r:List V->Hp->VK->Prop)(t:TA):TE:=λσ H Q=>t σ H λvs H1=>r vs H1 Q
def Bd (hc:Vc X (.builtin id) r)(hg:Gl X x)(hm:X.mg x=none)(hv:bootBuiltins x=some (.builtin id))(ha:PA X (e::es) t)(hn:x≠"__name__":=by decide)(hdb:(x==("__debug__":Str))=false:=by decide)
  (he:starEach (e::es) X.env=(false,eval e X.env)::starEach es X.env:=by rfl) (hpl:(backTo pos (starEach es X.env)).any (·.1)=false:=by rfl):PE X (.Call (.Name x p) (e::es) [] pos) (ip r t):=by
 intro pins s σ H Q I h
 refine wpAny_Call_Name_kw (Vi I hg hm hv ?_ hn hdb)
 exact PyProof.Rows.callWith_builtin1 (Jp (ha pos pins s σ H _ I h) λus s1 ⟨vs,H1,I1,r1,q1⟩=>hc pins s1 σ H1 vs us Q I1 r1 q1) he hpl
def j0 (hc:Vc X (.type T) r)(hg:Gl X x)(hm:X.mg x=none)(hv:bootBuiltins x=some (.type T))(ha:PA X (e::es) t)(hn:x≠"__name__":=by decide)(hdb:(x==("__debug__":Str))=false:=by decide)
  (he:starEach (e::es) X.env=(false,eval e X.env)::starEach es X.env:=by rfl) (hpl:(backTo pos (starEach es X.env)).any (·.1)=false:=by rfl):PE X (.Call (.Name x p) (e::es) [] pos) (ip r t):=by
 intro pins s σ H Q I h
 refine wpAny_Call_Name_kw (Vi I hg hm hv ?_ hn hdb)
 exact PyProof.Rows.callWith_type1 (Jp (ha pos pins s σ H _ I h) λus s1 ⟨vs,H1,I1,r1,q1⟩=>hc pins s1 σ H1 vs us Q I1 r1 q1) he hpl
end
end L2
namespace HT
open PySem PyProof.Rows
def lI:List Int->List Int->Bool
 | [],[]=>false
 | [],_::_=>true
 | _::_,[]=>false
 | x::xs,y::ys=>if x=y then lI xs ys else decide (x<y)
section
open PySem.SeqAt
open PySem.AutoSeq1 (wpAny_loadPart')
open PySem.MeetsSeq PySem.MeetsSeq2 PySem.MeetsSeq3
end
section
variable {prog:Program}{w:World}{A:Around}{E:Value->Shared->Prop}{s:Shared}
def cat_tup {t b:Addr}{vs ws:List Value}{Q:Value->Shared->Prop}(ht:IsTup s.heap t vs.toArray)(hb:IsTup s.heap b ws.toArray)(hv:vs≠[])
  (h1:ws=[]->Q (.ref t) s) (h2:ws≠[]->Q (.ref s.heap.objs.size) {s with heap:=s.heap.push {cls:=.type "tuple",data:=.seq (vs++ws).toArray}})
  (hsz:vs.length+ws.length<=sizeLine):wpAny (model prog w) A (binaryOp .Add (.ref t) (.ref b)) Q E s:=by
 obtain⟨⟨cls,dd,data,sl⟩,ho,hc,n,hd⟩:=id ht
 obtain⟨⟨cls2,dd2,data2,sl2⟩,ho2,hc2,n2,hd2⟩:=id hb
 simp only at hc hd hc2 hd2
 subst hc hd hc2 hd2
 have e:vs.toArray++ws.toArray=(vs++ws).toArray:=by simp
 by_cases hw:ws=[]
 ·exact concat_meets ⟨_,ho,rfl⟩ ⟨_,ho2,rfl⟩ noFill_tuple_add seq_tuple_add PySem.F.slot_tuple_add PySem.F.entry_tuple_add (PySem.F.args_tuple_add_2 _ _)
   (tuple_addW1 t b vs.toArray ws.toArray n n2 dd dd2 sl sl2 (by simpa using hv) (by simp[hw])) ⟨ho,ho2,h1 hw⟩
 ·refine concat_meets ⟨_,ho,rfl⟩ ⟨_,ho2,rfl⟩ noFill_tuple_add seq_tuple_add PySem.F.slot_tuple_add PySem.F.entry_tuple_add (PySem.F.args_tuple_add_2 _ _)
   (tuple_addW2 t b vs.toArray ws.toArray n n2 dd dd2 sl sl2 (by simpa using hv) (by simpa using hw) (by rw[List.size_toArray,List.size_toArray];exact hsz)) ⟨ho,ho2,?_⟩
  rw[e]
  exact h2 hw
def sIx (n d:Nat):Option Int->Nat
 | none=>d
 | some v=>if v<0 then(v+(n:Int)).toNat else min v.toNat n
def qo (n d:Nat)(hd:d<=n)(o:Option Int):sIx n d o<=n:=by
 cases o with
 | none=>exact hd
 | some v=>
  show(if v<0 then(v+(n:Int)).toNat else min v.toNat n)<=n
  by_cases hv:v<0
  ·rw[XY hv];omega
  ·rw[XX hv];exact Nat.min_le_right _ _
def yW (v:Int)(n d:Nat):(if v<0 then max (v+(n:Int)) 0 else min v (n:Int))=((sIx n d (some v):Nat):Int):=by
 show(if v<0 then max (v+(n:Int)) 0 else min v (n:Int))=(((if v<0 then(v+(n:Int)).toNat else min v.toNat n):Nat):Int)
 by_cases hv:v<0
 ·simp only[if_pos hv];omega
 ·simp only[if_neg hv];omega
def zU (lo hi:Option Int)(n:Nat):Builtin.Slice.sliceAdjust lo hi 1 (n:Int)=(((sIx n 0 lo:Nat):Int),((sIx n n hi:Nat):Int)):=by
 have h1:¬((1:Int)<0):=by omega
 unfold Builtin.Slice.sliceAdjust
 simp only[h1,if_false]
 refine Prod.ext ?_ ?_
 ·cases lo with
  | none=>rfl
  | some v=>exact yW v n 0
 ·cases hi with
  | none=>rfl
  | some v=>exact yW v n n
def zi (i j:Nat):Builtin.Slice.slicePlaces (i:Int) (j:Int) 1=j-i:=by
 unfold Builtin.Slice.slicePlaces
 have h1:(1:Int)>0:=by omega
 simp only[h1,if_true,Int.ediv_one]
 split<;>omega
def Kv {v:Value}{o:Option Int}{Q:Option Int->Shared->Prop}(p:IsPart v o)(h:Q o s):wpAny (model prog w) A (Builtin.Slice.slicePartIndex v) Q E s:=by
 cases p with
 | none=>exact slicePart_none h
 | int i t=>exact slicePart_int h
def Tf {sl:Addr}{vl vu:Value}{lo hi:Option Int}{n:Nat}{Q:Int×Int×Nat->Shared->Prop}(hs:s.heap.IsSliceOf sl vl vu .none)(pl:IsPart vl lo)(pu:IsPart vu hi)
  (h:Q (((sIx n 0 lo:Nat):Int),1,sIx n n hi-sIx n 0 lo) s):wpAny (model prog w) A (Builtin.Slice.sliceApplied (.ref sl) (pure (n:Int))) Q E s:=by
 obtain⟨os,hos,hcs,hds⟩:=id hs
 unfold Builtin.Slice.sliceApplied Builtin.Slice.sliceFields
 refine XA (XA (wpAny_field hos hds (x:=vl) rfl (XA (wpAny_field hos hds (x:=vu) rfl (XA (wpAny_field hos hds (x:=.none) rfl (XB ?_)))))))
 refine XA (slicePart_none ?_)
 show wpAny _ _ (if ((1:Int)==0)=true then _ else _) _ _ s
 rw[XX (by decide)]
 refine XA (Kv pl (XA (Kv pu (XA (XB ?_)))))
 show wpAny _ _ (match Builtin.Slice.sliceAdjust lo hi 1 (n:Int) with | (lo,hi)=>pure (lo,(1:Int),Builtin.Slice.slicePlaces lo hi 1)) _ _ s
 rw[zU lo hi n]
 show wpAny _ _ (pure (((sIx n 0 lo:Nat):Int),(1:Int),Builtin.Slice.slicePlaces ((sIx n 0 lo:Nat):Int) ((sIx n n hi:Nat):Int) 1)) _ _ s
 rw[zi]
 exact XB h
def wD (xs:Array Value)(i k:Nat):((List.range k).filterMap λ(m:Nat)=>xs[((i:Int)+(m:Int)*1).toNat]?).toArray=((xs.toList.drop i).take k).toArray:=by
 have e:(λ(m:Nat)=>xs[((i:Int)+(m:Int)*1).toNat]?)=λm=>xs[i+m]?:=by
  funext m
  have:((i:Int)+(m:Int)*1).toNat=i+m:=by omega
  rw[this]
 rw[e]
 have:=pick_run xs i k
 rw[List.filterMap_map] at this
 have e2:((λx=>xs[x]?)∘λx=>i+x)=λm=>xs[i+m]?:=rfl
 rw[e2] at this
 rw[this]
def getItem_tuple_cut {t sl:Addr}{items:Array Value}{vl vu:Value}{lo hi:Option Int}{Q:Value->Shared->Prop}(ht:IsTup s.heap t items)(hs:s.heap.IsSliceOf sl vl vu .none)(pl:IsPart vl lo)(pu:IsPart vu hi)
  (hw:¬(sIx items.size 0 lo=0/\sIx items.size items.size hi=items.size))
  (h:Q (.ref s.heap.objs.size) {s with heap:=s.heap.push {cls:=.type "tuple",data:=.seq ((items.toList.drop (sIx items.size 0 lo)).take (sIx items.size items.size hi-sIx items.size 0 lo)).toArray}})
  (hsz:items.size<=sizeLine):wpAny (model prog w) A (getItem (.ref t) (.ref sl)) Q E s:=by
 have htake:sizeOk (.seq ((items.toList.drop (sIx items.size 0 lo)).take (sIx items.size items.size hi-sIx items.size 0 lo)).toArray):=by
  show((items.toList.drop (sIx items.size 0 lo)).take (sIx items.size items.size hi-sIx items.size 0 lo)).toArray.size<=sizeLine
  rw[XJ,YM,List.length_drop,Array.length_toList]
  omega
 have hj:sIx items.size items.size hi<=items.size:=qo _ _ (XE _) hi
 obtain⟨os,hos,hcs,hds⟩:=id hs
 have hTs:s.TypeIs (.ref sl) "slice":=⟨os,hos,hcs⟩
 unfold getItem
 try with_reducible refine wpAny_holding ?_
 first | refine XA (XB ?_) | skip
 refine XA (wpAny_sequenceKey ht.typeIs (by decide) ?_)
 refine XA (wpAny_callSpecial?_slot (name:=Str.ofString "__getitem__") ht.typeIs PyProof.Rows.slot_tuple_getitem
  (wpAny_call_entry PyProof.Rows.slot_tuple_getitem ht.typeIs entry_tuple_getitem ?_ (args_tuple_getitem _ _)))
 show wpAny _ _ (Builtin.Tuple.tupleItemsOf (.ref t)>>=_) _ _ s
 refine XA (tupleItemsOf_ ht ?_)
 refine XA (wpAny_typeOf hTs ?_)
 rw[XY (by decide)]
 refine XA (Tf hs pl pu ?_)
 have hno:¬((((sIx items.size 0 lo:Nat):Int)==0&&(1:Int)==1&&(sIx items.size items.size hi-sIx items.size 0 lo)==items.size)=true):=by
  intro q
  rw[Bool.and_eq_true,Bool.and_eq_true] at q
  have q1:((sIx items.size 0 lo:Nat):Int)=0:=eq_of_beq q.1.1
  have q2:sIx items.size items.size hi-sIx items.size 0 lo=items.size:=eq_of_beq q.2
  exact hw ⟨by omega,by omega⟩
 show wpAny _ _ (if (((sIx items.size 0 lo:Nat):Int)==0&&(1:Int)==1&&(sIx items.size items.size hi-sIx items.size 0 lo)==items.size)=true then _ else _) _ _ s
 rw[XX hno,wD]
 first
  | exact XA (m:=Builtin.Tuple.tupleExact _) (wpAny_newObj_type (XB ⟨_,rfl,XB h⟩) htake)
  | exact XA (m:=Builtin.Tuple.tupleExact _) (wpAny_newObj_type (XA (XB (XB ⟨_,rfl,XB h⟩))) htake)
  | exact XA (XA (m:=Builtin.Tuple.tupleExact _) (wpAny_newObj_type (XB (XB ⟨_,rfl,XB h⟩)) htake))
  | exact XA (XA (m:=Builtin.Tuple.tupleExact _) (wpAny_newObj_type (XB ⟨_,rfl,XB h⟩) htake))
end
end HT
namespace L2
open PySem PySem.Spec PyProof.Rows
abbrev TO:=St->Hp->(Option Int->Hp->Prop)->Prop
def PO (X:Cx)(e:Option Expr)(t:TO):Prop:=
 ∀(pins:List (Addr×Obj)) (s:Shared) (σ:St) (H:Hp) (Q:Option Int->Hp->Prop),Zs X pins σ H s->t σ H Q->
  wpAny (model X.prog X.w) X.A (evalPart e X.env) (λu s'=>∃o H',Zs X pins σ H' s'/\IsPart u o/\Q o H') X.xe s
def u6:TO:=λ_ H Q=>Q none H
def nQ (t:TE):TO:=λσ H Q=>t σ H λx H1=>∃i,x=.int i/\Q (some i) H1
section
variable {X:Cx}{e:Expr}{te:TE}{lo hi:Option Expr}{tl th:TO}{pos p2:Pos}
def uT:PO X none u6:=by
 intro pins s σ H Q I h
 rw[evalPart_none]
 exact XB ⟨none,H,I,.none,h⟩
def uS (h:PE X e te):PO X (some e) (nQ te):=by
 intro pins s σ H Q I hw
 rw[evalPart_some]
 refine Jp (h pins s σ H _ I hw) λu s1 ⟨x,H1,I1,r1,q1⟩=>?_
 obtain⟨i,rfl,q⟩:=q1
 obtain⟨t,rfl⟩:=r1
 exact⟨some i,H1,I1,.int i t,q⟩
def uo (X:Cx)(r:V->Option Int->Option Int->Hp->VK->Prop):Prop:=
 ∀(pins:List (Addr×Obj)) (s:Shared) (σ:St) (H:Hp) (x:V) (v vl vu:Value) (lo hi:Option Int) (sl:Addr) (Q:VK),Zs X pins σ H s->Z8 x v->s.heap.IsSliceOf sl vl vu .none->IsPart vl lo->IsPart vu hi->r x lo hi H Q->
  ∃T id,typeLookup (.type T) "__getitem__"=pure (some (.builtin id))/\s.TypeIs v T/\wpAny (model X.prog X.w) X.A (getItem v (.ref sl)) (EP X pins σ Q) X.xe s
def uo.or {r r':V->Option Int->Option Int->Hp->VK->Prop}(h:uo X r)(h':uo X r'):uo X (λx lo hi H Q=>r x lo hi H Q\/r' x lo hi H Q):=by
 intro pins s σ H x v vl vu lo hi sl Q I rx hs pl pu q
 rcases q with q | q
 ·exact h pins s σ H x v vl vu lo hi sl Q I rx hs pl pu q
 ·exact h' pins s σ H x v vl vu lo hi sl Q I rx hs pl pu q
def f6 (r:V->Option Int->Option Int->Hp->VK->Prop)(te:TE)(tl th:TO):TE:=λσ H Q=>te σ H λx H1=>tl σ H1 λl H2=>th σ H2 λu H3=>r x l u H3 Q
def Bc {r:V->Option Int->Option Int->Hp->VK->Prop}(hr:uo X r)(he:PE X e te)(hl:PO X lo tl)(hu:PO X hi th):PE X (.Subscript e (.Slice lo hi none p2) pos) (f6 r te tl th):=by
 intro pins s σ H Q I h
 refine Subscript_ (Jp (he pins s σ H _ I h) λv s1 ⟨x,H1,I1,r1,q1⟩=>?_)
 refine wpAny_Slice (Jp (hl pins s1 σ H1 _ I1 q1) λvl s2 ⟨l,H2,I2,pl,q2⟩=>Jp (hu pins s2 σ H2 _ I2 q2) λvu s3 ⟨u,H3,I3,pu,q3⟩=>?_)
 rw[evalPart_none]
 refine XB ?_
 have I4:Zs X pins σ H3 {s3 with heap:=s3.heap.push {cls:=.type "slice",data:=.fields #[vl,vu,.none]}}:=I3.kept (t':=s3.toks) λb ob q=>XC _ q
 obtain⟨T,id,hT,ht,hg⟩:=hr pins {s3 with heap:=s3.heap.push {cls:=.type "slice",data:=.fields #[vl,vu,.none]}} σ H3 x v vl vu l u s3.heap.objs.size Q I4 r1 (Heap.IsSliceOf.new ..) pl pu q3
 show wpAny (model X.prog X.w) X.A (subscriptTail e (.Slice lo hi none p2) v (.ref s3.heap.objs.size)) (EP X pins σ Q) X.xe {s3 with heap:=s3.heap.push {cls:=.type "slice",data:=.fields #[vl,vu,.none]}}
 exact tail_any (ops:=[.ref s3.heap.objs.size,v]) ht hT hg (by with_unfolding_all rfl)
def An (xs:List V)(lo hi:Option Int):List V:=(xs.drop (HT.sIx xs.length 0 lo)).take (HT.sIx xs.length xs.length hi-HT.sIx xs.length 0 lo)
def Lk (xs:List V)(lo hi:Option Int):(An xs lo hi).length<=xs.length:=by
 unfold An
 rw[YM,List.length_drop]
 omega
def i5 (K:W.Frag):V->Option Int->Option Int->Hp->VK->Prop:=λx lo hi H Q=>∃a xs,x=.ref a/\Uu K H a xs/\
 ¬(HT.sIx xs.length 0 lo=0/\HT.sIx xs.length xs.length hi=xs.length)/\∀p,H p=none->Q (.ref p) (Yq H p (.tup (An xs lo hi)))
def xU:uo X (i5 X.K):=by
 intro pins s σ H x v vl vu lo hi sl Q I rx hs pl pu h
 obtain⟨a,xs,rfl,hx,hw,q⟩:=h
 cases rx
 obtain⟨its,r,ht,hz⟩:=I.tuple hx
 have hlen:its.toArray.size=xs.length:=by rw[XJ];exact r.length.symm
 refine⟨"tuple",_,PyProof.Rows.slot_tuple_getitem.lookup,ht.typeIs,?_⟩
 refine HT.getItem_tuple_cut ht hs pl pu (by rw[hlen];exact hw) ?_ (by rw[hlen];exact hz)
 rw[hlen]
 refine⟨.ref s.heap.objs.size,_,I.laid (t':=s.toks) (o:=.tup (An xs lo hi)) (λb ob q=>XC _ q) (XE _) ?_,rfl,q _ (I.hok.fresh (XE _))⟩
 exact⟨XN (Lk xs lo hi) hz,_,(r.drop (HT.sIx xs.length 0 lo)).take (HT.sIx xs.length xs.length hi-HT.sIx xs.length 0 lo),IsTup.new _ _⟩
def mQ (K:W.Frag):R2:=λx y H Q=>∃a b xs ys,x=.ref a/\y=.ref b/\Uu K H a xs/\Uu K H b ys/\xs≠[]/\xs.length+ys.length<=sizeLine/\
 (ys=[]->Q (.ref a) H)/\(ys≠[]->∀p,H p=none->Q (.ref p) (Yq H p (.tup (xs++ys))))
def Z7.nil_iff {xs:List V}{us:List Value}(r:Z7 xs us):us=[]↔xs=[]:=by
 cases r with
 | nil=>simp
 | cons _ _=>simp
def t0:Ll X (binaryOp .Add) (mQ X.K):=by
 intro pins s σ H x y v u Q I rx ry h
 obtain⟨a,b,xs,ys,rfl,rfl,ha,hb,hx,hz,q1,q2⟩:=h
 cases rx
 cases ry
 obtain⟨its,r1,p1,_⟩:=I.tuple ha
 obtain⟨its2,r2,p2,_⟩:=I.tuple hb
 refine HT.cat_tup p1 p2 (λz=>hx (r1.nil_iff.mp z)) (λz=>⟨.ref a,H,I,rfl,q1 (r2.nil_iff.mp z)⟩) (λz=>?_) (by rw[<-r1.length,<-r2.length];exact hz)
 refine⟨.ref s.heap.objs.size,_,I.laid (t':=s.toks) (o:=.tup (xs++ys)) (λb ob q=>XC _ q) (XE _) ?_,rfl,q2 (λw=>z (r2.nil_iff.mpr w)) _ (I.hok.fresh (XE _))⟩
 exact⟨by rw[List.length_append];exact hz,_,r1.append r2,IsTup.new _ _⟩
end
def vb (n:Nat)(i:Int):Option Nat:=if 0<=i then(if i<n then some i.toNat else none) else if-(n:Int)<=i then some (i+n).toNat else none
def Pe {α:Type}(xs:List α)(i:Int):Option α:=(vb xs.length i).bind λj=>xs[j]?
def yD {n:Nat}{i:Int}{j:Nat}(h:vb n i=some j):seqIndex? i n=some j/\j<n/\ -(n:Int)<=i/\i<n:=by
 unfold vb at h
 by_cases h0:0<=i
 ·rw[XY h0] at h
  by_cases h1:i<n
  ·rw[XY h1] at h
   have e:i.toNat=j:=YH h
   exact⟨by rw[seqIndex_of h0 h1,e],by omega,by omega,h1⟩
  ·rw[XX h1] at h;cases h
 ·rw[XX h0] at h
  by_cases h1: -(n:Int)<=i
  ·rw[XY h1] at h
   have e:(i+n).toNat=j:=YH h
   exact⟨by rw[seqIndex_neg (by omega) h1,e],by omega,h1,by omega⟩
  ·rw[XX h1] at h;cases h
def Dp {α:Type}{xs:List α}{i:Int}{v:α}(h:Pe xs i=some v):∃j,seqIndex? i xs.length=some j/\xs[j]?=some v/\j<xs.length/\ -(xs.length:Int)<=i/\i<xs.length:=by
 unfold Pe at h
 cases e:vb xs.length i with
 | none=>rw[e] at h;cases h
 | some j=>
  rw[e] at h
  obtain⟨h1,h2,h3,h4⟩:=yD e
  exact⟨j,h1,h,h2,h3,h4⟩
def Vu {α:Type}{xs:List α}{j:Nat}{v:α}(h:xs[j]?=some v):Pe xs (j:Int)=some v:=by
 have hj:j<xs.length:=(List.getElem?_eq_some_iff.mp h).1
 have e:vb xs.length (j:Int)=some j:=by
  unfold vb
  rw[if_pos (by omega),if_pos (by omega)];simp
 unfold Pe;rw[e];exact h
def jb (b:Expr):Prop:=∀o i,subscripted b false o i=operate [o,i] (getItem o i)
def ur (X:Cx)(r:R2):Prop:=
 ∀(value slice:Expr) (pins:List (Addr×Obj)) (s:Shared) (σ:St) (H:Hp) (x y:V) (v u:Value) (Q:VK),Zs X pins σ H s->Z8 x v->Z8 y u->r x y H Q->
  subscripted slice false v u=operate [v,u] (getItem v u)->wpAny (model X.prog X.w) X.A (subscriptTail value slice v u) (EP X pins σ Q) X.xe s
def kK (X:Cx)(id:String)(r:V->List V->Hp->VK->Prop):Prop:=
 ∀(pins:List (Addr×Obj)) (s:Shared) (σ:St) (H:Hp) (x:V) (xs:List V) (v:Value) (us:List Value) (Q:VK),Zs X pins σ H s->Z8 x v->Z7 xs us->r x xs H Q->
  wpAny (model X.prog X.w) X.A (call (.builtin id) (v::us)) (EP X pins σ Q) X.xe s
section
variable {X:Cx}{a b:Expr}{ta tb:TE}{pos:Pos}
def ur.or {r r':R2}(h:ur X r)(h':ur X r'):ur X (λx y H Q=>r x y H Q\/r' x y H Q):=by
 intro value slice pins s σ H x y v u Q I rx ry q hs
 rcases q with q | q
 ·exact h value slice pins s σ H x y v u Q I rx ry q hs
 ·exact h' value slice pins s σ H x y v u Q I rx ry q hs
def mX {r:R2}(hr:ur X r)(ha:PE X a ta)(hb:PE X b tb)(hs:jb b):PE X (.Subscript a b pos) (nR r ta tb):=by
 intro pins s σ H Q I h
 exact Subscript_ (oI ha hb I h λv u s2 x y H2 I2 rx ry q=>hr a b pins s2 σ H2 x y v u Q I2 rx ry q (hs _ _))
def mO (K:W.Frag):R2:=λx y H Q=>∃p xs i v,x=.ref p/\y=.int i/\Xv K H p xs/\Pe xs i=some v/\Q v H
def mM (K:W.Frag):R2:=λx y H Q=>∃p xs i v,x=.ref p/\y=.int i/\Uu K H p xs/\Pe xs i=some v/\Q v H
def mN:R2:=λx y H Q=>∃z i c,x=.str z/\y=.int i/\z.length<=sizeLine/\Pe z.cps.toList i=some c/\Q (.str ⟨#[c]⟩) H
def tN:ur X (mO X.K):=by
 intro value slice pins s σ H x y v u Q I rx ry h hs
 obtain⟨p,xs,i,z,rfl,rfl,hq,he,q⟩:=h
 cases rx
 obtain⟨t,rfl⟩:=ry
 obtain⟨its,r,pl,hz⟩:=I.list hq
 obtain⟨j,h1,h2,h3,h4,h5⟩:=Dp he
 obtain⟨w,ew,rw'⟩:=r.get h2
 have hl:=r.length
 have hn:=Oq
 have fin:EP X pins σ Q w s:=⟨z,H,I,rw',q⟩
 by_cases h0:0<=i
 ·have hj:i.toNat=j:=by
   rw[seqIndex_of h0 h5] at h1
   exact YH h1
  exact item_listR pl.isList h0 (by omega) (by rw[hj];simpa using ew) fin hs
 ·have hj:(i+(its.toArray.size:Int)).toNat=j:=by
   rw[seqIndex_neg (by omega) h4] at h1
   rw[XJ,<-hl]
   exact YH h1
  exact subscriptTail_builtinR (x:=w) pl.isList.typeIs slot_list_getitem.lookup
   (wpAny_getItem_list_neg (Q:=λr s'=>r=w/\EP X pins σ Q r s') pl.isList (by omega) (by rw[List.size_toArray]<;>omega) (by omega) (by rw[hj];simpa using ew) ⟨rfl,fin⟩) hs
def pK:ur X (mM X.K):=by
 intro value slice pins s σ H x y v u Q I rx ry h hs
 obtain⟨p,xs,i,z,rfl,rfl,hq,he,q⟩:=h
 cases rx
 obtain⟨t,rfl⟩:=ry
 obtain⟨its,r,pl,hz⟩:=I.tuple hq
 obtain⟨j,h1,h2,h3,h4,h5⟩:=Dp he
 obtain⟨w,ew,rw'⟩:=r.get h2
 have hl:=r.length
 have hn:=Oq
 have fin:EP X pins σ Q w s:=⟨z,H,I,rw',q⟩
 exact subscriptTail_builtinR (x:=w) pl.typeIs slot_tuple_getitem.lookup
  (getItem_tuple (j:=j) (Q:=λr s'=>r=w/\EP X pins σ Q r s') pl (by omega) (by omega) (by rw[List.size_toArray,<-hl];exact h1) (by simpa using ew) ⟨rfl,fin⟩) hs
def pL:ur X mN:=by
 intro value slice pins s σ H x y v u Q I rx ry h hs
 obtain⟨z,i,c,rfl,rfl,hz,he,q⟩:=h
 obtain⟨t,rfl⟩:=rx
 obtain⟨t',rfl⟩:=ry
 obtain⟨j,h1,h2,h3,h4,h5⟩:=Dp he
 have hl:z.cps.toList.length=z.length:=by simp[Str.length]
 rw[hl] at h1 h4 h5
 have hn:=Oq
 exact tail_any (typeIs_str s z t) slot_str_getitem.lookup (getItem_str (c:=c) (by
  have e1:decide (i< -(2^63:Int))=false:=YG (by omega)
  have e2:decide (i>=2^63)=false:=YG (by omega)
  rw[e1,e2,Bool.or_false]) (by rw[h1];simpa using h2) ⟨.str ⟨#[c]⟩,H,I.tok _,⟨_,rfl⟩,q⟩) hs
def fM (K:W.Frag):R2:=λx y H Q=>mO K x y H Q\/mM K x y H Q\/mN x y H Q
def pM:ur X (fM X.K):=tN.or (pK.or pL)
def zu (its:List Value)(n j:Nat)(u:Value):Obj.mapSeq (·.setIfInBounds j u) {cls:=.type "list",data:=.seq its.toArray n}={cls:=.type "list",data:=.seq (its.set j u).toArray n}:=by
 simp[Obj.mapSeq]
def Zs.lst {pins:List (Addr×Obj)}{σ:St}{H:Hp}{s:Shared}{p:Addr}{xs:List V}(I:Zs X pins σ H s)(h:H p=some (.lst xs)):
  ∃(its:List Value) (n:Nat),Z7 xs its/\s.heap.get? p=some {cls:=.type "list",data:=.seq its.toArray n}/\xs.length<=sizeLine:=by
 obtain⟨z,its,n,r,e⟩:=I.hok p _ h
 exact⟨its,n,r,e,z⟩
def Zs.lstUpd {pins:List (Addr×Obj)}{σ:St}{H:Hp}{s:Shared}{p:Addr}{xs ys:List V}{its its':List Value}{n n':Nat}{f:Obj->Obj}(I:Zs X pins σ H s)(h:H p=some (.lst xs))
  (ho:s.heap.get? p=some {cls:=.type "list",data:=.seq its.toArray n}) (hf:f {cls:=.type "list",data:=.seq its.toArray n}={cls:=.type "list",data:=.seq its'.toArray n'}) (r:Z7 ys its') (hz:ys.length<=sizeLine) (t:Nat):
  Zs X pins σ (Yq H p (.lst ys)) {s with heap:=s.heap.update p f,toks:=t}:=by
 have e:(s.heap.update p f).get? p=some {cls:=.type "list",data:=.seq its'.toArray n'}:=by
  rw[Heap.get?_update_self f ho (by rw[hf]<;>rfl),hf]
 refine I.write (x:=p) (e:=p) (by rw[h];trivial) (.inl rfl) (λb u hb q=>(Heap.get?_update_other _ _ (Ne.symm hb)).trans q) ⟨_,e⟩ ?_
 exact⟨hz,its',n',r,e⟩
def mK:V->V->V->Hp->(Hp->Prop)->Prop:=λo i v H Q=>∃p xs k j,o=.ref p/\i=.int k/\H p=some (.lst xs)/\vb xs.length k=some j/\Q (Yq H p (.lst (xs.set j v)))
def xW:nj X mK:=by
 intro pins s σ H o i v ov iv u Q I ro ri rv h
 obtain⟨p,xs,k,j,rfl,rfl,hp,hj,q⟩:=h
 cases ro
 obtain⟨t,rfl⟩:=ri
 obtain⟨its,n,r,ho,hz⟩:=I.lst hp
 obtain⟨h1,h2,h3,h4⟩:=yD hj
 have hl:=r.length
 have hn:=Oq
 have I':Zs X pins σ (Yq H p (.lst (xs.set j v))) {s with heap:=s.heap.update p (Obj.mapSeq (·.setIfInBounds j u))}:=
  I.lstUpd hp ho (zu its n j u) (r.set rv j) (by rw[List.length_set];exact hz) s.toks
 by_cases h0:0<=k
 ·have hk:k.toNat=j:=by
   rw[seqIndex_of h0 h4] at h1
   exact YH h1
  exact W.ki_setAt ho h0 (by omega) (by rw[XJ,<-hl];exact h4) (by rw[hk];exact⟨_,I',q⟩)
 ·have hk:(k+(its.toArray.size:Int)).toNat=j:=by
   rw[seqIndex_neg (by omega) h3] at h1
   rw[XJ,<-hl]
   exact YH h1
  exact W.ki_setBack ho (by omega) (by rw[XJ,<-hl];exact h3) (by omega) (by rw[hk];exact⟨_,I',q⟩)
def Ea (lo hi:Option Int)(n:Nat):(sliceBounds lo hi none n).1=((HT.sIx n 0 lo:Nat):Int)/\(sliceBounds lo hi none n).2.1=((HT.sIx n n hi:Nat):Int)/\(sliceBounds lo hi none n).2.2=1:=by
 refine⟨?_,?_,rfl⟩
 ·cases lo with
  | none=>simp[sliceBounds,HT.sIx]
  | some i=>
   simp only[sliceBounds,HT.sIx,Option.getD_none,show(1:Int)>0 by decide,if_true]
   by_cases h:i<0
   ·simp only[h,if_true]<;>omega
   ·simp only[h,if_false]<;>omega
 ·cases hi with
  | none=>simp[sliceBounds,HT.sIx]
  | some i=>
   simp only[sliceBounds,HT.sIx,Option.getD_none,show(1:Int)>0 by decide,if_true]
   by_cases h:i<0
   ·simp only[h,if_true]<;>omega
   ·simp only[h,if_false]<;>omega
def Hv (its:List Value)(lo hi:Option Int):slicePick its.toArray lo hi none=((its.drop (HT.sIx its.length 0 lo)).take (HT.sIx its.length its.length hi-HT.sIx its.length 0 lo)).toArray:=by
 obtain⟨h1,h2,h3⟩:=Ea lo hi its.toArray.size
 unfold slicePick
 rw[h1,h2,h3]
 simp only[sliceRange_one,pick_run,List.size_toArray]<;>rfl
def i7 (K:W.Frag):V->Option Int->Option Int->Hp->VK->Prop:=λx lo hi H Q=>∃a xs,x=.ref a/\Xv K H a xs/\∀p,H p=none->Q (.ref p) (Yq H p (.lst (An xs lo hi)))
def uB:uo X (i7 X.K):=by
 intro pins s σ H x v vl vu lo hi sl Q I rx hs pl pu h
 obtain⟨a,xs,rfl,hx,q⟩:=h
 cases rx
 obtain⟨its,r,ht,hz⟩:=I.list hx
 have hlen:=r.length
 refine⟨"list",_,slot_list_getitem.lookup,ht.isList.typeIs,?_⟩
 refine wpAny_getItem_list_slice ht.isList hs pl pu .none (by simp) ?_ (by rw[List.size_toArray]<;>omega)
 rw[Hv,<-hlen]
 refine⟨.ref s.heap.objs.size,_,I.laid (t':=s.toks) (o:=.lst (An xs lo hi)) (λb ob q=>XC _ q) (XE _) ?_,rfl,q _ (I.hok.fresh (XE _))⟩
 exact⟨XN (Lk xs lo hi) hz,_,0,(r.drop (HT.sIx xs.length 0 lo)).take (HT.sIx xs.length xs.length hi-HT.sIx xs.length 0 lo),XF _ rfl⟩
def Ae:V->Bool
 | .non=>true
 | .bl _=>true
 | .int _=>true
 | .str _=>true
 | _=>false
def og:V->V->Bool
 | .non,.non=>true
 | .bl a,.bl b=>a==b
 | .bl a,.int b=>(if a then 1 else 0)==b
 | .int a,.bl b=>a==(if b then 1 else 0)
 | .int a,.int b=>a==b
 | .str a,.str b=>a==b
 | _,_=>false
def vB {A:Around}{s:Shared}{y x:V}{u v:Value}(ry:Z8 y u)(rx:Z8 x v)(fy:Ae y=true)(fx:Ae x=true):SeqAt.EqAt A s u v (og y x):=by
 cases y with
 | non=>
  cases ry
  cases x with
  | non=>cases rx;exact SeqAt.EqAt.same _
  | bl b=>cases rx;exact SeqAt.EqAt.none_bool b
  | int b=>obtain⟨t,rfl⟩:=rx;exact SeqAt.EqAt.none_int b t
  | str b=>obtain⟨t,rfl⟩:=rx;exact SeqAt.EqAt.none_str b t
  | _=>exact absurd (show false=true from fx) YJ
 | bl a=>
  cases ry
  cases x with
  | non=>cases rx;exact SeqAt.EqAt.bool_none a
  | bl b=>cases rx;exact SeqAt.EqAt.bool_bool a b
  | int b=>obtain⟨t,rfl⟩:=rx;exact SeqAt.EqAt.bool_int a b t
  | str b=>obtain⟨t,rfl⟩:=rx;exact SeqAt.EqAt.bool_str a b t
  | _=>exact absurd (show false=true from fx) YJ
 | int a=>
  obtain⟨t',rfl⟩:=ry
  cases x with
  | non=>cases rx;exact SeqAt.EqAt.int_none a t'
  | bl b=>cases rx;exact SeqAt.EqAt.int_bool a t' b
  | int b=>obtain⟨t,rfl⟩:=rx;exact SeqAt.EqAt.int_int a t' b t
  | str b=>obtain⟨t,rfl⟩:=rx;exact SeqAt.EqAt.int_str a t' b t
  | _=>exact absurd (show false=true from fx) YJ
 | str a=>
  obtain⟨t',rfl⟩:=ry
  cases x with
  | non=>cases rx;exact SeqAt.EqAt.str_none a t'
  | bl b=>cases rx;exact SeqAt.EqAt.str_bool a t' b
  | int b=>obtain⟨t,rfl⟩:=rx;exact SeqAt.EqAt.str_int a t' b t
  | str b=>obtain⟨t,rfl⟩:=rx;exact SeqAt.EqAt.str_str a t' b t
  | _=>exact absurd (show false=true from fx) YJ
 | _=>exact absurd (show false=true from fy) YJ
def eZ (x:V)(u:Value):Bool:=match u with
 | .none=>og .non x
 | .bool b=>og (.bl b) x
 | .int i _=>og (.int i) x
 | .str z _=>og (.str z) x
 | _=>false
def gU (x:V)(xs:List V):Bool:=xs.any λy=>og y x
def eX (K:W.Frag)(neg:Bool):R2:=λx y H Q=>∃p xs,y=.ref p/\(Xv K H p xs\/Uu K H p xs)/\Ae x=true/\xs.all Ae=true/\Q (.bl (if neg then !gU x xs else gU x xs)) H
def Dm:Vc X (.builtin "len") (λxs H Q=>∃p ys,xs=[.ref p]/\(Xv X.K H p ys\/Uu X.K H p ys)/\Q (.int ys.length) H):=by
 intro pins s σ H xs us Q I r h
 obtain⟨p,ys,rfl,hq,q⟩:=h
 obtain⟨u,rfl,rx⟩:=Qd r
 cases rx
 have hn:=Oq
 rcases hq with hq | hq
 ·obtain⟨its,r',pl,hz⟩:=I.list hq
  have hlen:=r'.length
  exact Calls.call_len_list pl.isList (by simp only[List.size_toArray]<;>omega) ⟨.int ys.length,H,I.tok _,⟨s.toks+1,by rw[List.size_toArray,hlen]⟩,q⟩
 ·obtain⟨its,r',pl,hz⟩:=I.tuple hq
  have hlen:=r'.length
  exact len_tuple pl (by simp only[List.size_toArray]<;>omega) ⟨.int ys.length,H,I.tok _,⟨s.toks+1,by rw[List.size_toArray,hlen]⟩,q⟩
def Dk:Vc X (.builtin "len") (λxs H Q=>∃z,xs=[.str z]/\z.length<=sizeLine/\Q (.int z.length) H):=by
 intro pins s σ H xs us Q I r h
 obtain⟨z,rfl,hz,q⟩:=h
 obtain⟨u,rfl,t,rfl⟩:=Qd r
 have hn:=Oq
 exact len_str (by omega) ⟨.int z.length,H,I.tok _,⟨_,rfl⟩,q⟩
def Vc.or {f:Value}{r r':List V->Hp->VK->Prop}(h:Vc X f r)(h':Vc X f r'):Vc X f (λxs H Q=>r xs H Q\/r' xs H Q):=by
 intro pins s σ H xs us Q I rs q
 rcases q with q | q
 ·exact h pins s σ H xs us Q I rs q
 ·exact h' pins s σ H xs us Q I rs q
def Gc:Vc X (.type "tuple") (λxs H Q=>∃p ys,xs=[.ref p]/\((Xv X.K H p ys/\∀l,H l=none->Q (.ref l) (Yq H l (.tup ys)))\/(Uu X.K H p ys/\Q (.ref p) H))):=by
 intro pins s σ H xs us Q I r h
 obtain⟨p,ys,rfl,h⟩:=h
 obtain⟨u,rfl,rx⟩:=Qd r
 cases rx
 rcases h with⟨hq,q⟩ | ⟨hq,q⟩
 ·obtain⟨its,r',pl,hz⟩:=I.list hq
  have hlen:=r'.length
  refine call_tuple_list pl.isList (λh' kp=>?_) (by simp only[List.size_toArray]<;>omega)
  have I1:Zs X pins σ H {s with heap:=h'}:=I.kept (t':=s.toks) kp
  have I2:Zs X pins σ (Yq H h'.objs.size (.tup ys)) {s with heap:=h'.push {cls:=.type "tuple",data:=.seq its.toArray}}:=
   I1.laid (t':=s.toks) (λb o e=>XC _ e) (XE _) (show Y6 X.prog X.w _ _ _ (.tup ys) from⟨hz,its,r',IsTup.new _ _⟩)
  exact⟨.ref h'.objs.size,_,I2,rfl,q _ (I1.hok.fresh (XE _))⟩
 ·obtain⟨its,r',pl,hz⟩:=I.tuple hq
  exact call_tuple_same pl ⟨.ref p,H,I,rfl,q⟩
def nt (K:W.Frag)(T:String)(x:V)(H:Hp):Prop:=match x with
 | .str _=>T="str"
 | .int _=>T="int"
 | .ref p=>(T="list"/\∃xs,Xv K H p xs)\/(T="tuple"/\∃o,K.lookup p=some o/\o.cls=.type "tuple"/\o.dict=none)\/
   (T="dict"/\((∃kvs,H p=some (.dK kvs))\/∃kvs,H p=some (.dT kvs)))\/(T="set"/\∃S n,H p=some (.set S n))
 | _=>False
def xK {pins:List (Addr×Obj)}{σ:St}{H:Hp}{s:Shared}{T:String}{x:V}{v:Value}(I:Zs X pins σ H s)(r:Z8 x v)(ty:nt X.K T x H):
  s.TypeIs v T/\∀a,v=.ref a->∃ob,s.heap.get? a=some ob/\ob.dict=none:=by
 cases x with
 | str z=>
  obtain⟨t,rfl⟩:=r
  cases (show T="str" from ty)
  exact⟨typeIs_str s z t,λ_ e=>nomatch e⟩
 | int i=>
  obtain⟨t,rfl⟩:=r
  cases (show T="int" from ty)
  exact⟨typeIs_int s i t,λ_ e=>nomatch e⟩
 | ref p=>
  cases r
  rcases ty with⟨rfl,xs,hq⟩ | ⟨rfl,o,hk,hc,hd⟩ | ⟨rfl,hk⟩ | ⟨rfl,S,n,hk⟩
  ·obtain⟨its,_,pl,_⟩:=I.list hq
   refine⟨pl.isList.typeIs,λa e=>?_⟩
   cases e
   obtain⟨o,n,e,c,hd,_⟩:=pl
   exact⟨o,e,hd⟩
  ·refine⟨⟨o,I.kIn p o hk,hc⟩,λa e=>?_⟩
   cases e
   exact⟨o,I.kIn _ o hk,hd⟩
  ·have z:∃o,s.heap.get? p=some o/\o.ExactDict:=by
    rcases hk with⟨kvs,hk⟩ | ⟨kvs,hk⟩
    ·obtain⟨_,_,_,_,o,_,_,e,ex,_⟩:=I.hok p _ hk
     exact⟨o,e,ex⟩
    ·obtain⟨_,_,_,_,o,_,_,e,ex,_⟩:=I.hok p _ hk
     exact⟨o,e,ex⟩
   obtain⟨o,e,ex⟩:=z
   refine⟨⟨o,e,ex.1⟩,λa e2=>?_⟩
   cases e2
   exact⟨o,e,ex.2.1⟩
  ·obtain⟨o,_,_,_,e,ex,_⟩:=I.hok p _ hk
   refine⟨⟨o,e,ex.1⟩,λa e2=>?_⟩
   cases e2
   exact⟨o,e,ex.2.1⟩
 | _=>exact False.elim ty
def iq (K:W.Frag)(T:String)(r:V->List V->Hp->VK->Prop)(to:TE):TE:=λσ H Q=>to σ H λx H1=>nt K T x H1/\r x [] H1 Q
def fF (K:W.Frag)(T:String)(r:V->List V->Hp->VK->Prop)(to:TE)(t:TA):TE:=λσ H Q=>to σ H λx H1=>nt K T x H1/\t σ H1 λxs H2=>r x xs H2 Q
variable {o e:Expr}{es:List Expr}{to:TE}{t:TA}{name:Str}{apos cpos:Pos}{T id:String}{r:V->List V->Hp->VK->Prop}
def qP (pa:PlainAttrs T)(slot:Slot T name id)(hty:typeOf (.builtin id)=pure (.type "method_descriptor"))(hm:kK X id r)(ho:PE X o to)
  (hbase:attributeBase o name X.env (eval o X.env)=eval o X.env:=by rfl) (hline:(apos.endLine==cpos.line)=true:=by rfl):PE X (.Call (.Attribute o name apos) [] [] cpos) (iq X.K T r to):=by
 intro pins s σ H Q I h
 refine wpAny_Call_method0_late hbase hline (Jp (ho pins s σ H _ I h) λv s1 ⟨x,H1,I1,r1,ty,q1⟩=>?_)
 obtain⟨h1,h2⟩:=xK I1 r1 ty
 exact⟨T,id,pa,slot,hty,h1,h2,Calls.callWith_builtin rfl (PySem.evalArgs_none (hm pins s1 σ H1 x [] v [] Q I1 r1 .nil q1))⟩
def mZ (pa:PlainAttrs T)(slot:Slot T name id)(hty:typeOf (.builtin id)=pure (.type "method_descriptor"))(hm:kK X id r)(ho:PE X o to)(ha:PA X (e::es) t)
  (hbase:attributeBase o name X.env (eval o X.env)=eval o X.env:=by rfl)
  (hfew:((backTo cpos (starEach (e::es) X.env)).all (λx=>!x.1)&&(backToKw cpos (keywordEach [] X.env)).all (λx=>x.1.isSome)
   &&decide ((e::es).length+([]:List Keyword).length+(if ([]:List Keyword).isEmpty then 0 else 1)<30))=true:=by rfl)
  (hline:(apos.endLine==cpos.line)=true:=by rfl) (hs:starEach (e::es) X.env=(false,eval e X.env)::starEach es X.env:=by rfl) (hplain:(backTo cpos (starEach es X.env)).any (·.1)=false:=by rfl):
  PE X (.Call (.Attribute o name apos) (e::es) [] cpos) (fF X.K T r to t):=by
 intro pins s σ H Q I h
 refine wpAny_Call_method_late hbase hfew hline rfl (Jp (ho pins s σ H _ I h) λv s1 ⟨x,H1,I1,r1,ty,q1⟩=>?_)
 obtain⟨h1,h2⟩:=xK I1 r1 ty
 refine⟨T,id,pa,slot,hty,h1,h2,?_⟩
 have hA:=ha cpos pins s1 σ H1 _ I1 q1
 rw[hs] at hA |-
 refine Calls.callWith_builtin (by show(false||(backTo cpos (starEach es X.env)).any (·.1))=false;rw[hplain]<;>rfl) (Calls.evalArgs_plain ?_)
 exact Jp hA λus s2 ⟨vs,H2,I2,r2,q2⟩=>hm pins s2 σ H2 x vs v us Q I2 r1 r2 q2
/-xs.append(e),list.index on a module's tuple .. are kK facts of 06m-/
end
def gu (X:Cx)(id:String)(r:V->List V->Hp->VK->Prop):Prop:=
 ∀(pins:List (Addr×Obj)) (s:Shared) (σ:St) (H:Hp) (x:V) (xs:List V) (v:Value) (us:List Value) (Q:VK),Zs X pins σ H s->Z8 x v->Z7 xs us->r x xs H Q->
  wpAny (model X.prog X.w) X.A (call (.builtin id) (v::us)) (EP X pins σ Q) X.xe s
def Z7.one:∀{x:V} {us:List Value},Z7 [x] us->∃u,us=[u]/\Z8 x u
 | _,_,.cons r .nil=>⟨_,rfl,r⟩
def Z7.two:∀{x y:V} {us:List Value},Z7 [x,y] us->∃u v,us=[u,v]/\Z8 x u/\Z8 y v
 | _,_,_,.cons r (.cons q .nil)=>⟨_,_,rfl,r,q⟩
def Z7.zero:∀{us:List Value},Z7 [] us->us=[]
 | _,.nil=>rfl
def Z7.dropLast {xs:List V}{us:List Value}(h:Z7 xs us):Z7 xs.dropLast us.dropLast:=by
 induction h with
 | nil=>exact .nil
 | cons r t ih=>
  cases t with
  | nil=>exact .nil
  | cons q t'=>exact .cons r ih
def zM {α:Type}(l:List α):l.eraseIdx (l.length-1)=l.dropLast:=by
 induction l with
 | nil=>rfl
 | cons a r ih=>
  cases r with
  | nil=>rfl
  | cons b r=>
   have e:(a::b::r).length-1=((b::r).length-1)+1:=by
    have h1:(a::b::r).length=r.length+2:=rfl
    have h2:(b::r).length=r.length+1:=rfl
    omega
   rw[e,List.eraseIdx_cons_succ,ih]
   all_goals rfl
section
variable {X:Cx}{pins:List (Addr×Obj)}{σ:St}{H:Hp}{s:Shared}{l b:Addr}{xs ys zs:List V}
def Zs.lset {its its':List Value}{n:Nat}{f:Array Value->Array Value}{t':Nat}(I:Zs X pins σ H s)(hH:H l=some (.lst xs))
  (e:s.heap.get? l=some {cls:=.type "list",data:=.seq its.toArray n}) (hf:f its.toArray=its'.toArray) (hv:Z7 ys its') (hz:ys.length<=sizeLine):
  Zs X pins σ (Yq H l (.lst ys)) {s with heap:=s.heap.update l (Obj.mapSeq f),toks:=t'}:=by
 have q:=PySem.IsL.update e f
 rw[hf] at q
 refine I.write (x:=l) (e:=l) (by rw[hH];exact trivial) (.inl rfl) (λb' u hb hu=>(Heap.get?_update_other s.heap (Obj.mapSeq f) (Ne.symm hb)).trans hu) ⟨_,q⟩ ?_
 exact⟨hz,its',_,hv,q⟩
def Zs.lnew {its:List Value}{t':Nat}(I:Zs X pins σ H s)(hv:Z7 ys its)(hz:ys.length<=sizeLine):
  Zs X pins σ (Yq H s.heap.objs.size (.lst ys)) {s with heap:=s.heap.push {cls:=.type "list",data:=.seq its.toArray},toks:=t'}:=
 I.laid (λ_ _ q=>XC _ q) (XE _) ⟨hz,its,0,hv,XF _ rfl⟩
def Zs.fresh (I:Zs X pins σ H s):H s.heap.objs.size=none:=I.hok.fresh (XE _)
def Zs.lstM (I:Zs X pins σ H s)(hH:H l=some (.lst xs)):xs.length<=sizeLine/\∃(its:List Value) (n:Nat),Z7 xs its/\xs.length=its.length/\s.heap.get? l=some {cls:=.type "list",data:=.seq its.toArray n}:=by
 obtain⟨z,its,n,r,e⟩:=I.hok l _ hH
 exact⟨z,its,n,r,r.length,e⟩
def wR {n:Nat}(h:n<=sizeLine):Builtin.List.listTooLong n=false:=by
 unfold Builtin.List.listTooLong
 exact YG (by omega)
end
section
variable {X:Cx}
def uJ:V->List V->Hp->VK->Prop:=λx vs H Q=>∃l xs y,x=.ref l/\vs=[y]/\H l=some (.lst xs)/\xs.length<sizeLine/\Q .non (Yq H l (.lst (xs++[y])))
def Gv:gu X "list.append" uJ:=by
 intro pins s σ H x vs v us Q I rx rv h
 obtain⟨l,xs,y,rfl,rfl,hH,hz,q⟩:=h
 cases rx
 obtain⟨u,rfl,ru⟩:=rv.one
 obtain⟨z,its,n,r,hl,e⟩:=I.lstM hH
 refine call_meets F.slot_list_append ⟨_,e,rfl⟩ F.entry_list_append (F.args_list_append_2 _ _) (PySem.list_append l its.toArray n u (by rw[XJ];omega)) ⟨e,?_⟩
 refine⟨.non,_,I.lset (its':=its++[u]) hH e (by simp) (r.append (.cons ru .nil)) ?_,rfl,q⟩
 rw[List.length_append,List.length_singleton]
 omega
def uI:V->List V->Hp->VK->Prop:=λx vs H Q=>∃l b xs zs,x=.ref l/\vs=[.ref b]/\H l=some (.lst xs)/\H b=some (.lst zs)/\xs.length+zs.length<=sizeLine/\Q .non (Yq H l (.lst (xs++zs)))
def j5:gu X "list.extend" uI:=by
 intro pins s σ H x vs v us Q I rx rv h
 obtain⟨l,b,xs,zs,rfl,rfl,hH,hB,hz,q⟩:=h
 cases rx
 obtain⟨u,rfl,ru⟩:=rv.one
 cases ru
 obtain⟨z,its,n,r,hl,e⟩:=I.lstM hH
 obtain⟨z2,its2,n2,r2,hl2,e2⟩:=I.lstM hB
 have hsz:its.toArray.size+its2.toArray.size<=sizeLine:=by rw[XJ,XJ];omega
 have hlong:¬(!its.toArray.isEmpty&&Builtin.List.listTooLong (its.toArray.size+its2.toArray.size))=true:=by
  rw[wR hsz,Bool.and_false]
  exact YJ
 refine call_meets F.slot_list_extend ⟨_,e,rfl⟩ F.entry_list_extend (F.args_list_extend_2 _ _)
  (AutoSeq1.list_extend_list_list_0 l its.toArray n b its2.toArray n2 hlong (by rw[XJ];omega) (by omega)) ⟨e,e2,?_⟩
 refine⟨.non,_,I.lset (its':=its++its2) hH e (by simp) (r.append r2) ?_,rfl,q⟩
 rw[List.length_append]
 omega
def i8:V->List V->Hp->VK->Prop:=λx vs H Q=>∃l xs y,x=.ref l/\vs=[]/\H l=some (.lst xs)/\xs[xs.length-1]?=some y/\Q y (Yq H l (.lst xs.dropLast))
def pq:gu X "list.pop" i8:=by
 intro pins s σ H x vs v us Q I rx rv h
 obtain⟨l,xs,y,rfl,rfl,hH,hy,q⟩:=h
 cases rx
 have hus:=rv.zero
 subst hus
 obtain⟨z,its,n,r,hl,e⟩:=I.lstM hH
 obtain⟨u,hu,ru⟩:=r.get hy
 have hy':its.toArray[its.toArray.size-1]?=some u:=by
  show its.toArray[its.length-1]?=some u
  rw[<-Array.getElem?_toList,<-hl]
  exact hu
 refine call_meets F.slot_list_pop ⟨_,e,rfl⟩ F.entry_list_pop (F.args_list_pop_1 _) (MeetsSeq.list_pop_last l its.toArray n u hy' (by rw[XJ];omega)) ⟨e,?_⟩
 refine⟨y,_,I.lset (its':=its.dropLast) hH e ?_ r.dropLast ?_,ru,q⟩
 ·show its.toArray.eraseIdxIfInBounds (its.toArray.size-1)=its.dropLast.toArray
  rw[XJ,List.eraseIdxIfInBounds_toArray,zM]
 ·rw[List.length_dropLast]
  omega
def iA:R2:=λx y H Q=>∃l b xs zs,x=.ref l/\y=.ref b/\H l=some (.lst xs)/\H b=some (.lst zs)/\xs.length+zs.length<=sizeLine/\∀p,H p=none->Q (.ref p) (Yq H p (.lst (xs++zs)))
def qY:Ll X (binaryOp .Add) iA:=by
 intro pins s σ H x y v u Q I rx ry h
 obtain⟨l,b,xs,zs,rfl,rfl,hH,hB,hz,q⟩:=h
 cases rx
 cases ry
 obtain⟨z,its,n,r,hl,e⟩:=I.lstM hH
 obtain⟨z2,its2,n2,r2,hl2,e2⟩:=I.lstM hB
 refine PySem.P.add_list e e2 ?_ (by rw[XJ,XJ];omega)
 have ea:its.toArray++its2.toArray=(its++its2).toArray:=by simp
 rw[ea]
 exact⟨.ref _,_,I.lnew (t':=s.toks) (r.append r2) (by rw[List.length_append];omega),rfl,q _ I.fresh⟩
def fL:R2:=λx y H Q=>∃l k xs,x=.ref l/\y=.int k/\H l=some (.lst xs)/\ -(2^63)<=k/\k<2^63/\xs.length*k.toNat<=sizeLine/\
 ∀p,H p=none->Q (.ref p) (Yq H p (.lst (List.replicate k.toNat xs).flatten))
end
section
variable {prog:Program}{w:World}{A:Around}{E:Value->Shared->Prop}{s:Shared}
end
section
variable {X:Cx}
end
end L2
namespace Att
open PySem PySem.W PySem.Calls PyProof.Rows
def Lq {P:Params}{h:Heap}:∀(ns:List Int) (vs:List Value),WellAll P h vs (ns.map WData.int)->IntsAre vs ns:=by
 intro ns
 induction ns with
 | nil=>
  intro vs w
  rw[List.map_nil] at w
  cases w
  exact .nil
 | cons n ns ih=>
  intro vs w
  rw[YI] at w
  cases w with
  | cons a b=>
   cases a
   exact .cons _ _ (ih _ b)
def ju {l:OpenLaw}{n:Nat}(hn:l.most=some n){P:Params}{h:Heap}{args:List WData}{vals:List Value}
  (hpre:l.row.toRowW.claim.pre args=true) (hwl:WellAll P h vals args):
  ∃a vs ns,vals=[Value.ref a]/\args=[WData.list (ns.map WData.int)]/\h.get? a=some {cls:=.type "list",data:=.seq vs.toArray}/\IntsAre vs ns/\ns.length<=n:=by
 have hsh:WShape.hasAll [] args [.list .int]=true:=(pre_splitW hpre).1
 have hc:l.pre.holds [] {args:=args}=true:=(pre_splitW hpre).2
 obtain⟨d,r,rfl,h1,h2⟩:=hasAllW_cons hsh
 obtain rfl:=hasAllW_nil h2
 obtain⟨xs,rfl,h3⟩:=hasW_list h1
 obtain⟨ns,rfl⟩:=items_int h3
 have hlen:ns.length<=n:=by
  unfold OpenLaw.pre at hc
  have h4:(WTm.not (.lt (.lit (.int (n:Int))) (.len (.arg 0)))).holds [] {args:=[.list (ns.map .int)]}=true:=by
   have h4:=(holds_andW hc).1
   rw[hn] at h4
   exact h4
  have h5:=condW_of h4 (w_not (w_lt w_lit (w_len_list (w_arg rfl))))
  rw[XI] at h5
  refine Nat.le_of_not_lt λq=>?_
  have q':(n:Int)<((ns.length:Nat):Int):=by omega
  first
   | (rw[decide_eq_true q'] at h5;exact absurd h5 (by decide))
   | (simp at h5;omega)
 cases hwl with
 | cons w1 w2=>
  cases w2
  cases w1 with
  | list ho hall=>exact⟨_,_,ns,rfl,rfl,ho,Lq ns _ hall,hlen⟩
def jx (l:OpenLaw)(args:List WData):l.row.toRowW.claim.post args (.bool true) args=true:=
 postW_of (r:=l.row.toRowW) (X:=(true==true))
  (show WShape.has [] (.bool true) .bool=true by first | rfl | decide | simp[WShape.has,WShape.arms,WShape.armsAll])
  (show(WTm.eq .res (.lit (.bool true))).value [] {args:=args,res:=some (.bool true),after:=args}=some (.bool (true==true)) from w_eq_bool (w_res rfl) w_lit) rfl
def attach_call {l:OpenLaw}{n:Nat}{q:Program}{loose:List Str}{XP:(Str->Option Value)->Heap->Prop}{YP:World->Heap->Prop}{d:DefRec}
  (hn:l.most=some n) (hdf:d.params.defaults=[])
  (call:∀(w:World) (s₀ s₁:Shared) (mg mb:Str->Option Value) (fa:Addr) (o:Obj) (pm cd doc:Value) (a:Addr) (vs:List Value) (ns:List Int),
   Ground q loose [] XP w s₀ mg mb s₁.heap->YP w s₁.heap->
   s₁.heap.get? fa=some o->o.data=.func (docDef d.name d.params d.body d.scope pm cd doc)->s₁.heap.CodeRec cd d.name->mg d.name=some (.ref fa)->
   s₁.heap.get? a=some {cls:=.type "list",data:=.seq vs.toArray}->IntsAre vs ns->ns.length<=n->s₁.gens=#[]->
   codeAny (model l.prog w) callerA (.call (.ref fa) ⟨[.ref a],[]⟩) (λr s'=>r=.ok (.ret (.bool true))/\OldK s₁.heap s'.heap/\s'.os=s₁.os/\AllBare s'.gens) s₁):
  WalkO q loose XP YP l.row.toRowW d [] (λf vs=>PySem.call f vs):=by
 intro w s₀ s₁ mg mb G Y fa o pm cd doc dV kV ho hd hcd hD hmg hg args vals as hpre hlay hrd hwl hlo
 obtain rfl:dV=.none:=Dflts.none hD hdf
 obtain rfl:kV=.none:=Dflts.noKw hD
 obtain⟨a,vs,ns,rfl,rfl,hobj,hints,hlen⟩:=ju hn hpre hwl
 refine enter_call (codeAny_mono (call w s₀ s₁ mg mb fa o pm cd doc a vs ns G Y ho (fd_plain hd) hcd hmg hobj hints hlen hg) λr s' hq=>?_)
 obtain⟨rfl,h2,h3,h4⟩:=hq
 exact⟨.inl ⟨.bool true,.bool true,[],rfl,λ_=>rfl,.bool true,jx l _,λ_=>⟨List.Pairwise.nil,λ_ hm=>(nomatch hm)⟩⟩,h2,h3,h4⟩
section
variable {prog:Program}{w:World}{A:Around}{E:Value->Shared->Prop}{s:Shared}{K:Frag}
def iP (h:Heap)(L d:Addr):List (Addr×Obj):=(List.range h.objs.size).filterMap λa=>if a=L\/a=d then none else(h.get? a).map λo=>(a,o)
end
end Att
namespace L2
open PySem PySem.Spec PyProof.Rows
def Gi:∀{vs:List Value} {ns:List Int},IntsAre vs ns->Z7 (ns.map V.int) vs
 | _,_,.nil=>.nil
 | _,_,.cons n t h=>.cons ⟨t,rfl⟩ (Gi h)
def ud (H:Hp):Prop:=∀b,H b=none\/∃o xs,H b=some (.frz o (.lst xs))
def wY {P:Program}{w:World}{K:W.Frag}{mg mb:Str->Option Value}{CX:xy}{k:Nat}{fa a:Addr}{fd:FuncData}{x:Str}{sp:Sp}{s₁:Shared}{vs:List Value}{ns:List Int}
  (KX:K.In s₁.heap) (hns:s₁.heap.Ns mainGlobals mg) (hb:s₁.heap.Ns builtinsNs mb) (hbb:∀x:Str,x≠"__name__"->mb x=bootBuiltins x) (hlim:s₁.heap.NoLimit) (hg:s₁.gens=#[])
  (ha:s₁.heap.get? a=some {cls:=.type "list",data:=.seq vs.toArray}) (hi:IntsAre vs ns) (hl:ns.length<=sizeLine) (hr:X5 k callerA)
  (F:∀base:Heap,K.In base->base.Ns mainGlobals mg->Ud P w K mg base CX k fa fd [x] sp) (hbind:∀(s:Shared) (u:Value),BindsTo s fd ⟨[u],[]⟩ [(x,u)])
  (hsp:∀H:Hp,ud H->Xv K H a (ns.map V.int)->sp [.ref a] H (λv _=>v=.bl true) λ_ _ _=>False)
  (hCX:∀H e s',CX [] H s₁ (λ_ _ _=>False) e s'->False):
  codeAny (model P w) callerA (.call (.ref fa) ⟨[.ref a],[]⟩) (λr s'=>r=.ok (.ret (.bool true))/\OldK s₁.heap s'.heap/\s'.os=s₁.os/\AllBare s'.gens) s₁:=by
 have rv:=Gi hi
 have lenV:=hi.length
 have core:∀H:Hp,ud H->Xv K H a (ns.map V.int)->Nb P w H s₁.heap->(∀b,H b≠none->b=a)->(H a≠none->K.lookup a=none)->
   codeAny (model P w) callerA (.call (.ref fa) ⟨[.ref a],[]⟩) (λr s'=>r=.ok (.ret (.bool true))/\OldK s₁.heap s'.heap/\s'.os=s₁.os/\AllBare s'.gens) s₁:=by
  intro H hO hS hok hA hK
  have base_of:∀{b:Addr} {o:Obj},s₁.heap.get? b=some o->H b=none->(E3 s₁.heap H).get? b=some o:=λe n=>vj e n
  have noA:∀{b:Addr} {o:Obj} {es:Array DictEntry} {ep:Nat},s₁.heap.get? b=some o->o.data=.dict es ep->H b=none:=λ{b o es ep} e d=>by
   cases q:H b with
   | none=>rfl
   | some u=>
    have e':b=a:=hA b (by rw[q];simp)
    subst e'
    rw[ha] at e;cases e
    have d':Data.seq vs.toArray _=Data.dict es ep:=d
    cases d'
  have nsK:∀{b:Addr} {m:Str->Option Value},s₁.heap.Ns b m->(E3 s₁.heap H).Ns b m:=λ{b m} ⟨o,es,ep,e,d,r⟩=>⟨o,es,ep,base_of e (noA e d),d,r⟩
  have hKb:K.In (E3 s₁.heap H):=λb o e=>base_of (KX b o e) (by
   cases q:H b with
   | none=>rfl
   | some u=>
    have e':b=a:=hA b (by rw[q];simp)
    subst e'
    rw[hK (by rw[q];simp)] at e;cases e)
  have hM:Mod K mg (E3 s₁.heap H):=⟨hKb,nsK hns,⟨mb,nsK hb,hbb⟩,let ⟨mc,h1,h2⟩:=hlim;⟨mc,nsK h1,h2⟩⟩
  have e0:yb P w K mg (E3 s₁.heap H) callerA [] s₁ H:=⟨rfl,hM,λb o e=>t8 e,Nat.le_of_eq (jF _ _),trivial,λb hb=>absurd (show b∈([]:List Addr) from hb) (by simp),hok,.of_eq hg⟩
  refine codeAny_mono ((F _ hKb (nsK hns)).run callerA [] s₁ H ⟨[.ref a],[]⟩ [.ref a] [.ref a] _ _ hr e0 (hbind s₁ (.ref a)) (.cons rfl .nil) (hsp H hO hS)) λr s' h=>?_
  cases r with
  | error e=>exact(hCX H e s' h).elim
  | ok fl=>
   cases fl with
   | next=>exact False.elim h
   | brk=>exact False.elim h
   | cont=>exact False.elim h
   | ret u=>
    obtain⟨v,H',os,bare,un,hok',r',q⟩:=h
    have q':v=.bl true:=q
    subst q'
    obtain rfl:u=Value.bool true:=r'
    refine⟨rfl,OldK.of_keep λb o e=>?_,os,bare⟩
    cases q:H b with
    | none=>exact un.keep b o e q (by intro z;exact absurd (show b∈([]:List Addr) from z) (by simp)) (by simp)
    | some u=>
     rcases hO b with z | ⟨ob,xs,z⟩
     ·rw[q] at z;cases z
     ·have z2:=un.frzs b ob _ z
      obtain⟨e1,_⟩:=hok b _ z
      obtain⟨e2,_⟩:=hok' b _ z2
      rw[e] at e1;cases e1
      exact e2
 cases hk:K.lookup a with
 | some o=>
  have e:=KX a o hk
  rw[ha] at e
  cases e
  refine core (λ_=>none) (λ_=>.inl rfl) (.inr ⟨_,vs.toArray,_,hk,rfl,rfl,rfl,by rw[List.size_toArray,lenV];exact hl,by simpa using rv⟩) (λb u z=>by have z':(none:Option HO)=some u:=z;cases z') (λb z=>absurd rfl z) λz=>absurd rfl z
 | none=>
  refine core (λb=>if b=a then some (.frz {cls:=.type "list",data:=.seq vs.toArray} (.lst (ns.map V.int))) else none) (λb=>?_) (.inl (.inr ⟨{cls:=.type "list",data:=.seq vs.toArray},XY rfl⟩)) (λb u z=>?_) (λb z=>?_) λ_=>hk
  ·by_cases hb:b=a
   ·exact .inr ⟨_,_,XY hb⟩
   ·exact .inl (XX hb)
  ·by_cases hb:b=a
   ·have z':=(XY hb).symm.trans z
    cases z'
    subst hb
    exact⟨ha,by rw[XI];exact hl,vs,_,rv,ha⟩
   ·have z':=(XX hb).symm.trans z
    cases z'
  ·by_cases hb:b=a
   ·exact hb
   ·exact absurd (XX hb) z
abbrev KOf {K:W.Frag}{h:Heap}(_:K.In h):W.Frag:=K
def walk_of {l:W.OpenLaw}{n k:Nat}{q:Program}{loose:List Str}{XP:(Str->Option Value)->Heap->Prop}{YP:World->Heap->Prop}{d:DefRec}{K:Params->W.Frag}{CX:World->xy}{sp:World->Sp}{x:Str}
  (hn:l.most=some n) (hn2:n<=sizeLine) (hdf:d.params.defaults=[]) (hr:X5 k callerA)
  (hY:∀(w:World) (h:Heap),YP w h->(K w.params).In h)
  (F:∀(w:World) (mg:Str->Option Value) (fa:Addr) (h:Heap),(K w.params).In h->h.Ns mainGlobals mg->mg d.name=some (.ref fa)->
   ∃fd:FuncData,(∀(s:Shared) (u:Value),BindsTo s fd ⟨[u],[]⟩ [(x,u)])/\
    ∀base:Heap,(K w.params).In base->base.Ns mainGlobals mg->Ud l.prog w (K w.params) mg base (CX w) k fa fd [x] (sp w))
  (hsp:∀(w:World) (H:Hp) (a:Addr) (ns:List Int),ns.length<=n->ud H->Xv (K w.params) H a (ns.map V.int)->sp w [.ref a] H (λv _=>v=.bl true) λ_ _ _=>False)
  (hCX:∀(w:World) (H:Hp) (s:Shared) (e:Value) (s':Shared),CX w [] H s (λ_ _ _=>False) e s'->False):
  W.WalkO q loose XP YP l.row.toRowW d [] (λf vs=>PySem.call f vs):=by
 refine Att.attach_call hn hdf λw s₀ s₁ mg mb fa o pm cd doc a vs ns G Y ho hd hcd hmg hobj hints hlen hg=>?_
 have KX:=hY w _ Y
 obtain⟨fd,hb,hF⟩:=F w mg fa _ KX G.T.g hmg
 exact wY KX G.T.g G.T.b G.T.builtins G.T.nolimit hg hobj hints (XN hlen hn2) hr hF hb (λH hO hS=>hsp w H a ns hlen hO hS) λH e s'=>hCX w H s₁ e s'
def walk_ofK {l:W.OpenLaw}{n k:Nat}{q:Program}{loose:List Str}{XP:(Str->Option Value)->Heap->Prop}{YP:World->Heap->Prop}{d:DefRec}{K:Params->W.Frag}{CX:xy}{sp:W.Frag->Sp}{x:Str}
  (hn:l.most=some n) (hn2:n<=sizeLine) (hdf:d.params.defaults=[]) (hr:X5 k callerA)
  (hY:∀(w:World) (h:Heap),YP w h->(K w.params).In h)
  (F:∀(w:World) (mg:Str->Option Value) (fa:Addr) (h:Heap),(K w.params).In h->h.Ns mainGlobals mg->mg d.name=some (.ref fa)->
   ∃fd:FuncData,(∀(s:Shared) (u:Value),BindsTo s fd ⟨[u],[]⟩ [(x,u)])/\
    ∀base:Heap,(K w.params).In base->base.Ns mainGlobals mg->Ud l.prog w (K w.params) mg base CX k fa fd [x] (sp (K w.params)))
  (hsp:∀(K:W.Frag) (H:Hp) (a:Addr) (ns:List Int),ns.length<=n->ud H->Xv K H a (ns.map V.int)->sp K [.ref a] H (λv _=>v=.bl true) λ_ _ _=>False)
  (hCX:∀(H:Hp) (s:Shared) (e:Value) (s':Shared),CX [] H s (λ_ _ _=>False) e s'->False):
  W.WalkO q loose XP YP l.row.toRowW d [] (λf vs=>PySem.call f vs):=
 walk_of (K:=K) (CX:=λ_=>CX) (sp:=λw=>sp (K w.params)) hn hn2 hdf hr hY F (λw H a ns h1 h2 h3=>hsp (K w.params) H a ns h1 h2 h3) λ_ H s e s'=>hCX H s e s'
end L2
/-THE LAST THEOREM (shape;LID,My.*are yours):
  My.Adr:a structure of the addresses that your layer names (classes,functions);My.Txt K t:a structure (Prop) of the equations over K;
  My.txt_mk:{K} {implicit addresses ..} (e1:nsIn K mainGlobals "law"=some (some (.ref f))) (e2:K.lookup f=some ⟨oc,od,.func (fnOf "law" "law" params body scope dV kV doc pm an cdv ct),sl⟩) (e3:codeIn K cdv "law"=true) ..:∃t,My.Txt K t
set_option maxRecDepth 100000 in
set_option maxHeartbeats 0 in
def PySem.Challenge.cw_LID_holds:PySem.Challenge.rw_LID.Holds:=by
 w_on;o_law;k_head;(case hw=>w_witness2)
 k_fill
 refine L2.walk_of (l:=PySem.Challenge.rw_LID) (n:=63) (k:=40) (x:="script") (CX:=λw=>..) (sp:=λ_=>My.sp_law) rfl (by decide) rfl ⟨rfl,by decide,by decide⟩ (λw h Y=>W.kIn_of Y) ?F ?S ?C
 case F=>
  intro w mg fa h KX G hmg
  have T:∃t,My.Txt (L2.KOf KX) t:=by
   dsimp only[L2.KOf]--K must stand as «<heap const>w.params» for k_is
   refine' My.txt_mk ?e1 ?e2 ?e3 ..
   (case e1=>W.k_is)--in the order:a name->its address->its object->its parts
   (case e2=>W.k_is)
   ..
  obtain⟨t,T⟩:=T
  have e0:=hmg.symm.trans (W.mg_of KX G T.law)
  cases e0--fa is the law's own address
  exact⟨_,λs u=>.of_eq rfl,λbase kb nb=>My.law_fn T kb nb⟩--if «.of_eq rfl» comes too early:refine' ⟨_,?b,λbase kb nb=>My.law_fn T kb nb⟩;exact λs u=>.of_eq rfl
 case S=>exact λw H a ns hl hO hS=>..
 case C=>exact ..
(the tactic k_is has no namespace:write k_is)-/
namespace L2
open PySem PySem.Spec PyProof.Rows
def Se (s:Stmt)(j:Nat):Stmt:=match s with
 | .ClassDef _ _ _ body _ _ _ _ _ _ _=>body.getD j (.Pass ⟨0,0,0,0⟩)
 | _=>.Pass ⟨0,0,0,0⟩
def Sh (s:Stmt):Arguments:=match s with
 | .FunctionDef _ a _ _ _ _ _ _ _ _=>a
 | _=>{posonlyargs:=[],args:=[],vararg:=none,kwonlyargs:=[],kw_defaults:=[],kwarg:=none,defaults:=[]}
def Ww (s:Stmt):List Stmt:=match s with
 | .FunctionDef _ _ b _ _ _ _ _ _ _=>b
 | _=>[]
def Zm (s:Stmt):Scope:=match s with
 | .FunctionDef _ _ _ _ _ _ sc _ _ _=>sc
 | _=>{kind:=.function,names:=[],isGenerator:=false,isCoroutine:=false}
abbrev CX0:xy:=λ_ _ _ _ _ _=>False
abbrev E0:XK:=λ_ _ _=>False
def yw {X:Cx}:Hl CX0 X E0:=λ_ _ _ _ _ _ _ h=>h.elim
structure ya (K:W.Frag)(x qual:Str)(st:Stmt)(f:Addr)(fd:FuncData):Prop where
 ex:∃(oc:Value) (od:Option Addr) (kV doc pm:Value) (an:Option Addr) (cdv ct:Value) (osl:Array (Option Value)),
  fd=W.fnOf x qual (Sh st) (Ww st) (Zm st) .none kV doc pm an cdv ct/\K.lookup f=some ⟨oc,od,.func fd,osl⟩/\W.codeIn K cdv qual=true
 kp:W.keepIn K (.ref f)=true
section
variable {P:Program}{w:World}{K:W.Frag}{mg:Str->Option Value}{base:Heap}
def ya.ok {x qual:Str}{st:Stmt}{f:Addr}{fd:FuncData}{N ps:List Str}{k:Nat}{sp:Sp}(F:ya K x qual st f fd)(S:Z1 N ps (Zm st))(len:∀vs H Q E,sp vs H Q E->vs.length=ps.length)
  (hbody:∀(cdv:Value) (A:Around) (outer:List Env) (s:Shared) (H:Hp) (vs:List V) (Q:VK) (E:XK),X5 k (A.deeper (envOfC qual (Zm st) s.heap.objs.size f cdv))->sp vs H Q E->
   ∃t,jc (Am CX0 P w K mg base N qual (Zm st) f cdv A outer s H E).nox (Ww st) t/\t {nx:=λ_ H'=>Q .non H',rt:=Q} (start N vs) H):Ud P w K mg base CX0 (k+1) f fd ps sp:=by
 obtain⟨oc,od,kV,doc,pm,an,cdv,ct,osl,rfl,lk,hcd⟩:=F.ex
 refine lO lk hcd S len λA outer s H vs Q E hr hsp=>?_
 obtain⟨t,h,q⟩:=hbody cdv A outer s H vs Q E hr hsp
 exact⟨t,h.nox,q⟩
def ya.binds {x qual:Str}{st:Stmt}{f:Addr}{fd:FuncData}{ps:List Str}(F:ya K x qual st f fd)
  (h:∀(kV doc pm:Value) (an:Option Addr) (cdv ct:Value) (us:List Value),us.length=ps.length->bindArgs (W.fnOf x qual (Sh st) (Ww st) (Zm st) .none kV doc pm an cdv ct) ⟨us,[]⟩=pure (ps.zip us)):X6 K fd ps []:=by
 obtain⟨oc,od,kV,doc,pm,an,cdv,ct,osl,rfl,lk,hcd⟩:=F.ex
 exact .all (h kV doc pm an cdv ct)
def pX {x qual:Str}{st:Stmt}{f:Addr}{oc:Value}{od an:Option Addr}{osl:Array (Option Value)}{kV doc pm cdv ct:Value}(l:K.lookup f=some ⟨oc,od,.func (W.fnOf x qual (Sh st) (Ww st) (Zm st) .none kV doc pm an cdv ct),osl⟩)
  (c:W.codeIn K cdv qual=true) (k:W.keepIn K (.ref f)=true):ya K x qual st f (W.fnOf x qual (Sh st) (Ww st) (Zm st) .none kV doc pm an cdv ct):=⟨⟨oc,od,kV,doc,pm,an,cdv,ct,osl,rfl,l,c⟩,k⟩
end
def Gn {n:Nat}(h:n<=1000):n<sizeLine:=Nat.lt_of_le_of_lt h (by decide)
section
variable {X:Cx}
end
def eI (H H':Hp):Prop:=∀b o,H b=some o->H' b=some o
section
variable {X:Cx}
def Oz (cap:List (Option Nat))(σ:St):St:=cap.map λo=>o.bind λi=>(σ[i]?).join
def Yt (X:Cx)(cN:List Str)(scope:Scope)(cl:List (Str×Addr))(fp:List Addr)(s:Shared)(H:Hp):Cx:=
 {X with N:=cN,s₀:=s,H₀:=H,env:=compEnvC scope cl s.heap.objs.size X.env,outer:=X.stack,ex:=fp,fn:=λ_=>false,pn:=[],xe:=λ_ _=>False}
def xf (X:Cx)(ifs:List Expr)(c:TT):Prop:=
 ∀(pins:List (Addr×Obj)) (s:Shared) (σ:St) (H:Hp) (Q:Bool->Hp->Prop),Zs X pins σ H s->c σ H Q->
  wpAny (model X.prog X.w) X.A (forIn ifs true λc r=>if r=true then do let ok <-isTrue c X.env (eval c X.env);pure (ForInStep.yield ok) else pure (ForInStep.yield r)) (TP X pins σ Q) X.xe s
def nV:TT:=λ_ H Q=>Q true H
def uV:xf X [] nV:=λ_ _ _ H _ I h=>wpAny_tests_nil ⟨H,I,h⟩
def uU {e:Expr}{t:TT}(h:PT X e t):xf X [e] t:=λpins s σ H Q I q=>wpAny_tests_one (h pins s σ H Q I q)
def Fj (js:List Nat)(g:TG):Prop:=∀x σ H Q,g x σ H Q->g x σ H λσ' H'=>Q σ' H'/\σ'.length=σ.length/\∀i,i∉js->σ'[i]?=σ[i]?
def Dr (js:List Nat)(g:Ay):Prop:=∀x σ H Q,g x σ H Q->g x σ H λσ' H'=>Q σ' H'/\σ'.length=σ.length/\∀i,i∉js->σ'[i]?=σ[i]?
def Jd {i:Nat}:Fj [i] (Xc i):=λx σ H Q h=>⟨h,by simp,λj hj=>by
 rw[List.getElem?_set_ne]
 intro e;exact hj (by simp[e])⟩
def E6:Dr [] Ab:=λx σ H Q h=>⟨h.1,h.2,rfl,λ_ _=>rfl⟩
def O5 (g:TG):Prop:=∀x σ H (Q Q':St->Hp->Prop),(∀σ' H',Q σ' H'->Q' σ' H')->g x σ H Q->g x σ H Q'
def Mh (g:Ay):Prop:=∀x σ H (Q Q':St->Hp->Prop),(∀σ' H',Q σ' H'->Q' σ' H')->g x σ H Q->g x σ H Q'
def Z9 {i:Nat}:O5 (Xc i):=λx σ H Q Q' h q=>h _ _ q
def Wk:Mh Ab:=λx σ H Q Q' h q=>⟨q.1,h _ _ q.2⟩
def Jy {g:TG}{u:Ay}(a:O5 g)(b:Mh u):Mh (Tl g u):=λx σ H Q Q' h q=>by
 obtain⟨v,r,e,q⟩:=q
 exact⟨v,r,e,a _ _ _ _ _ (λσ' H' z=>b _ _ _ _ _ h z) q⟩
def Vs {g:TG}{u:Ay}{js ks:List Nat}(a:Fj js g)(am:O5 g)(b:Dr ks u)(bm:Mh u):Dr (js++ks) (Tl g u):=λx σ H Q q=>by
 obtain⟨v,r,e,q⟩:=q
 refine⟨v,r,e,am _ _ _ _ _ (λσ' H' z=>?_) (a _ _ _ _ q)⟩
 obtain⟨z,l1,k1⟩:=z
 refine bm _ _ _ _ _ (λσ2 H2 z2=>?_) (b _ _ _ _ z)
 obtain⟨z2,l2,k2⟩:=z2
 exact⟨z2,l2.trans l1,λi hi=>(k2 i λz=>hi (XT _ z)).trans (k1 i λz=>hi (List.mem_append_left _ z))⟩
def E5 {K:W.Frag}{n:Nat}{u:Ay}{js:List Nat}(b:Dr js u):Fj js (B0 K n u):=λx σ H Q q=>by
 obtain⟨a,xs,e,hq,hl,q⟩:=q
 exact⟨a,xs,e,hq,hl,b _ _ _ _ q⟩
def fB (cap:List (Option Nat))(g:TG)(c:TT)(te:TE)(σ:St)(Q:Addr->Hp->Prop)(J:It)(H1:Hp):Prop:=∀p,H1 p=none->∃W:Nat->Nat->Hp->Prop,(∃m,W 0 m (Yq H1 p (.lst [])))/\∀i m H,W i m H->
 (J.stop i H/\Q p H)\/(J.go i H/\∃N:Hp->Prop,(∀H',N H'->∃m',m'<m/\W (i+1) m' H')/\∀x H',J.yld i H x H'->g x (Oz cap σ) H' λσ2 H2=>c σ2 H2 λb H3=>
  if b=true then te σ2 H3 λv H4=>∃xs,H4 p=some (.lst xs)/\xs.length<sizeLine/\N (Yq H4 p (.lst (xs++[v]))) else N H3)
def Fz (cap:List (Option Nat))(wi:TI)(g:TG)(c:TT)(te:TE):St->Hp->(Addr->Hp->Prop)->Prop:=λσ H Q=>wi σ H λJ H1=>fB cap g c te σ Q J H1
structure Ho (X:Cx)(cN:List Str)(cap:List (Option Nat))(scope:Scope)(cl:List (Str×Addr)):Prop where
 clos:closureFor scope X.env=pure cl
 sub:∀n a,cl.lookup n=some a->X.env.cells.lookup n=some a
 cell:∀y∈scope.names,y.2≠.cell
 kind:scope.kind=.function
 names:∀x∈scope.names,x.2=.local->scope.names.lookup x.1=some .local
 len:cap.length=cN.length
 has:∀x,((relabel scope X.env).names.lookup x=some .cell\/(relabel scope X.env).names.lookup x=some .free)->∃a,cl.lookup x=some a
 capd:∀(i j:Nat) (x:Str),cap[i]?=some (some j)->cN[i]?=some x->X.N[j]?=some x/\kH X.env.scope x/\X.env.scope.names.lookup x≠some .local/\((relabel scope X.env).names.lookup x=some .cell\/(relabel scope X.env).names.lookup x=some .free)
def vN {cap:List (Option Nat)}{σ:St}:(Oz cap σ).length=cap.length:=XI _
def Aq {cap:List (Option Nat)}{σ:St}{i:Nat}{v:V}(h:(Oz cap σ)[i]?=some (some v)):∃j,cap[i]?=some (some j)/\σ[j]?=some (some v):=by
 unfold Oz at h
 rw[XM] at h
 cases e:cap[i]? with
 | none=>rw[e] at h;cases h
 | some o=>
  rw[e] at h
  cases o with
  | none=>cases h
  | some j=>
   refine⟨j,rfl,?_⟩
   simp only[Option.map_some,Option.bind_some,Option.some.injEq] at h
   cases q:σ[j]? with
   | none=>rw[q] at h;cases h
   | some u=>rw[q] at h;simp only[Option.join_some] at h;rw[h]
def zQ {cN:List Str}{cap:List (Option Nat)}{scope:Scope}{cl:List (Str×Addr)}{fp:List Addr}{pins:List (Addr×Obj)}{σ:St}{H:Hp}{s:Shared}{h':Heap}{m:Str->Option Value}{tk:Nat}
  (C:Ho X cN cap scope cl) (I:Zs X pins σ H s) (f:∀b∈fp,Mj X pins H b) (fl:∀b∈fp,b<s.heap.objs.size) (hn:h'.Ns s.heap.objs.size m) (k:∀b o,s.heap.get? b=some o->h'.get? b=some o):
  Zs (Yt X cN scope cl fp s H) [] (Oz cap σ) H {s with heap:=h',toks:=tk}:=by
 have hfs:∀b∈fp,b∉jH X.stack:=λb hb z=>by
  rcases List.mem_cons.mp (I.stkSub b z) with e | z
  ·exact(f b hb).2.1 e
  ·exact(f b hb).2.2.1 z
 have hcl:∀x c,cl.lookup x=some c->∃v,s.heap.IsCell c v:=λx c e=>I.cell x c (C.sub x c e)
 refine⟨⟨I.ok.mod,?_,I.ok.glob,I.ok.blt,XE _,λx y c e1 e2=>I.ok.inj x y c (C.sub x c e1) (C.sub y c e2),C.has,λ_ _ z=>(nomatch z),I.ok.hd,I.ok.frames,.inl rfl,λb hb=>⟨XH (fl b hb),λx c e=>(f b hb).2.2.2.2.1 x c (C.sub x c e)⟩,
   I.bs,Nat.le_trans I.ok.bsz I.sz,λb o e z=>?_,hfs,I.stack,I.stkFree⟩,rfl,I.bare,Un.kept k,⟨m,hn,λi x v h1 h2 h3=>?_⟩,λx c e=>?_,I.fresh,λx c e=>I.freeC x c (C.sub x c e),λp hp=>absurd hp (by simp[Yt]),I.hok.kept k,?_⟩
 ·exact C.kind
 ·rcases (f b z).2.2.2.1 with q | q
  ·exact I.ok.noex b o e q
  ·exact absurd (XG (XD (I.ok.bs b o e).1) q) (Nat.lt_irrefl _)
 ·obtain⟨j,hj,hσ⟩:=Aq h2
  obtain⟨n1,n2,n3,n4⟩:=C.capd i j x hj h1
  obtain⟨mo,hno,hlo⟩:=I.loc
  obtain⟨u,ru,lk⟩:=hlo j x v n1 hσ n2
  refine⟨u,ru,?_⟩
  rcases lk with⟨k1,_⟩ | ⟨_,c,e,z⟩
  ·exact absurd k1 n3
  ·obtain⟨a,ha⟩:=C.has x n4
   have ea:=C.sub x a ha
   rw[e] at ea;cases ea
   obtain⟨o,ho,hd⟩:=z
   exact .inr ⟨n4,c,ha,⟨o,k _ _ ho,hd⟩⟩
 ·obtain⟨v,o,ho,hd⟩:=hcl x c e
  exact⟨v,o,k _ _ ho,hd⟩
 ·show(Oz cap σ).length=cN.length
  rw[vN,C.len]
def Ao {cN:List Str}{scope:Scope}{cl:List (Str×Addr)}{fp:List Addr}{pins pins':List (Addr×Obj)}{σ σ':St}{H H':Hp}{s s':Shared}{h':Heap}
  (I:Zs X pins σ H s) (f:∀b∈fp,Mj X pins H b) (J:Zs (Yt X cN scope cl fp s H) pins' σ' H' s') (sb:Heap.SameBut s.heap.objs.size s'.heap h'):Zs X pins σ H' {s' with heap:=h'}:=by
 have ne:∀b o,s.heap.get? b=some o->b≠s.heap.objs.size:=λb o e=>XH (XD e)
 have B:Un (jH X.stack) fp H H' s.heap s'.heap:=J.base
 refine I.call' (s':={s' with heap:=h'}) (ch:=fp) J.os ⟨λb o e n hb hx=>?_,λb o e n hb hx=>?_,B.free,λb o e hx=>?_,B.tups,B.frzs,B.tbls⟩ (λb o e=>?_) J.bare λb hb=>?_
 ·exact(sb.2 b (ne b o e)).trans (B.keep b o e n hb hx)
 ·obtain⟨sl,q⟩:=B.slot b o e n hb hx
  exact⟨sl,(sb.2 b (ne b o e)).trans q⟩
 ·obtain⟨o',q⟩:=B.there b o e hx
  exact⟨o',(sb.2 b (ne b o e)).trans q⟩
 ·have hf:H' s.heap.objs.size=none:=J.free
  refine(J.hok b o e).stay (λc w' hc q=>(sb.2 c ?_).trans q) (λ_ q=>q) λ_ _ q=>q
  rintro rfl
  rcases hc with rfl | hc
  ·rw[hf] at e;cases e
  ·rw[hf] at hc;cases hc
 ·obtain⟨f0,f1,f2,f3,f4,f5⟩:=f b hb
  exact⟨f3,f1,f4,f5⟩
def Fk {α:Type}{t:Sem α}{Q:α->Shared->Prop}{M:Model}{A:Around}{E:Value->Shared->Prop}{s:Shared}(h:wpAny M A t Q (λ_ _=>False) s):wpAny M A t Q E s:=wpAny_mono h (λ_ _ q=>q) λ_ _ f=>f.elim
def jN {tg iter elt:Expr}{ifs:List Expr}{scope:Scope}{pos:Pos}{cN:List Str}{cap:List (Option Nat)}{cl:List (Str×Addr)}{js:List Nat}{g:TG}{c:TT}{te:TE}{fp:List Addr}{it D:Addr}{tn:Nat->Heap->Prop}{J:It}
  {σ:St} {H:Hp} {s s':Shared} {Q:Addr->Hp->Prop} {R:Result->Shared->Prop} {H₀:Hp} (X:Cx)
  (hc:X.calm=true) (hg:PG (Yt X cN scope cl fp s H₀) tg g) (gm:O5 g) (gk:Fj js g) (hjs:∀j∈js,(cap[j]?).join=none) (ht:xf (Yt X cN scope cl fp s H₀) ifs c) (tm:∀σ H (Q Q':Bool->Hp->Prop),(∀b H',Q b H'->Q' b H')->c σ H Q->c σ H Q') (he:PE (Yt X cN scope cl fp s H₀) elt te)
  (T:Dq X.prog X.w X.K tg J fp it tn) (W:Nat->Nat->Hp->Prop)
  (turn:∀i m H,W i m H->(J.stop i H/\Q D H)\/(J.go i H/\∃N:Hp->Prop,(∀H',N H'->∃m',m'<m/\W (i+1) m' H')/\∀x H',J.yld i H x H'->g x (Oz cap σ) H' λσ2 H2=>c σ2 H2 λb H3=>
   if b=true then te σ2 H3 λv H4=>∃xs,H4 D=some (.lst xs)/\xs.length<sizeLine/\N (Yq H4 D (.lst (xs++[v]))) else N H3))
  (m:Nat) (w0:W 0 m H) (I:Zs (Yt X cN scope cl fp s H₀) [] (Oz cap σ) H s') (st:tn 0 s'.heap) (f:∀b∈fp,Mj (Yt X cN scope cl fp s H₀) [] H b)
  (hR:∀σ' H' s',Zs (Yt X cN scope cl fp s H₀) [] σ' H' s'->Q D H'->R (.ok .next) s'):
  codeAny (model X.prog X.w) X.A (.compLoop (.ListComp elt [⟨tg,iter,ifs,0⟩] scope pos) 0 (.ref it) (.ref D) (Yt X cN scope cl fp s H₀).env) R s':=by
 have stat:∀{H':Hp},(∀b∈fp,H' b=none)->∀b∈fp,Mj (Yt X cN scope cl fp s H₀) [] H' b:=λhn b hb=>⟨hn b hb,(f b hb).2⟩
 refine codeAny_loop rfl (λn s'=>∃i H',Zs (Yt X cN scope cl fp s H₀) [] (Oz cap σ) H' s'/\tn i s'.heap/\(∀b∈fp,H' b=none)/\W i n H') ?_ m ⟨0,H,I,st,λb hb=>(f b hb).1,w0⟩
 rintro n s3 ⟨i,H3,I3,st3,fr3,w3⟩
 show wpAny _ X.A ((compTurn (.ListComp elt [⟨tg,iter,ifs,0⟩] scope pos) 0 (.ref it) (.ref D) (Yt X cN scope cl fp s H₀).env).onRaise (λx=>do noteFrame x (Yt X cN scope cl fp s H₀).env;theTreesLotGoes x)) _ _ s3
 refine wpAny_noted (Fk ?_)
 rw[compTurn_list]
 refine XA (wpAny_standAt (XA ?_))
 rcases turn i n H3 w3 with⟨stop,qn⟩ | ⟨go,N,hN,step⟩
 ·refine Jp (T.done (Yt X cN scope cl fp s H₀) rfl rfl rfl hc i [] s3 _ H3 _ I3 (stat fr3) st3 stop) λr s4 ⟨hr,I4⟩=>?_
  subst hr
  exact XB (hR _ _ _ I4 qn)
 ·refine Jp (T.item (Yt X cN scope cl fp s H₀) rfl rfl rfl hc i [] s3 _ H3 _ I3 (stat fr3) st3 go) λr s4 ⟨u,hr,h4⟩=>?_
  subst hr
  refine XA (Jp h4 λ_ s5 ⟨x,H5,I5,r5,y5,st5,fr5⟩=>?_)
  have I5':=I5.pinned (stat fr5) (T.obj _ _ st5)
  refine XA (Jp (hg _ s5 _ H5 x u _ I5' r5 (gk _ _ _ _ (step x H5 y5))) λ_ s6 ⟨σ6,H6,I6,q6,l6,k6⟩=>?_)
  have back:∀{H7:Hp} {s7:Shared},Zs (Yt X cN scope cl fp s H₀) ([]++Ie fp s5.heap) σ6 H7 s7->N H7->∃m,m<n/\∃i H',Zs (Yt X cN scope cl fp s H₀) [] (Oz cap σ) H' s7/\tn i s7.heap/\(∀b∈fp,H' b=none)/\W i m H':=λ{H7 s7} I7 n7=>by
   obtain⟨m',hm,w7⟩:=hN H7 n7
   refine⟨m',hm,i+1,H7,I7.unpinned.weak l6.symm λj v hj=>?_,T.keep _ _ _ st5 λb hb o e=>(I7.pin (b,o) (XT _ (XT _ (Sb hb e)))).1,λb hb=>?_,w7⟩
   ·by_cases hjj:j∈js
    ·obtain⟨z,hz,_⟩:=Aq hj
     have:=hjs j hjj
     rw[hz] at this;cases this
    ·rw[k6 j hjj];exact hj
   ·obtain⟨o,e,d⟩:=T.obj _ _ st5 b hb
    exact(I7.pin (b,o) (XT _ (XT _ (Sb hb e)))).2.1
  refine XA (Jp (ht _ s6 σ6 H6 _ I6 q6) λb s7 ⟨H7,I7,q7⟩=>?_)
  cases b with
  | false=>
   rw[XX YJ] at q7
   exact XB ⟨rfl,back I7 q7⟩
  | true=>
   rw[XY rfl] at q7
   refine XA (XA (Jp (he _ s7 σ6 H7 _ I7 q7) λy s8 ⟨v,H8,I8,r8,xs,e8,z8,n8⟩=>?_))
   refine XA (Jp (Gv _ s8 σ6 H8 (.ref D) [v] (.ref D) [y] (λ_ H9=>N H9) I8 rfl (.cons r8 .nil) ⟨D,xs,v,rfl,rfl,e8,z8,n8⟩) λ_ s9 ⟨_,H9,I9,_,q9⟩=>?_)
   exact XB (XB ⟨rfl,back I9 q9⟩)
section
variable {X:Cx}{tg iter elt:Expr}{ifs:List Expr}{scope:Scope}{pos:Pos}{cN:List Str}{cap:List (Option Nat)}{cl:List (Str×Addr)}{js:List Nat}{wi:TI}{g:TG}{c:TT}{te:TE}
structure Aw (X:Cx)(tg iter elt:Expr)(ifs:List Expr)(scope:Scope)(cN:List Str)(cap:List (Option Nat))(cl:List (Str×Addr))(js:List Nat)(wi:TI)(g:TG)(c:TT)(te:TE):Prop where
 calm:X.calm=true
 ok:X.Ok->Ho X cN cap scope cl
 it:PI X tg iter wi
 tgt:∀fp s H,PG (Yt X cN scope cl fp s H) tg g
 gm:O5 g
 gk:Fj js g
 js0:∀j∈js,(cap[j]?).join=none
 ts:∀fp s H,xf (Yt X cN scope cl fp s H) ifs c
 tm:∀σ H (Q Q':Bool->Hp->Prop),(∀b H',Q b H'->Q' b H')->c σ H Q->c σ H Q'
 el:∀fp s H,PE (Yt X cN scope cl fp s H) elt te
 fold:∀x,foldedSetIterable iter X.env x=pure x
def Hi {pins:List (Addr×Obj)}{σ:St}{H:Hp}{s:Shared}{Q:Addr->Hp->Prop}{RR:Value->Addr->Result->Shared->Prop}(C:Aw X tg iter elt ifs scope cN cap cl js wi g c te)(I:Zs X pins σ H s)(h:Fz cap wi g c te σ H Q)
  (hRR:∀(D:Addr) (fp:List Addr) (s3:Shared) (H3:Hp) (σ':St) (H':Hp) (s':Shared),Zs X pins σ H3 s3->(∀b∈fp,Mj X pins H3 b)->Zs (Yt X cN scope cl fp s3 H3) [] σ' H' s'->Q D H'->RR (.ref D) s3.heap.objs.size (.ok .next) s'):
  wpAny (model X.prog X.w) X.A (eval iter X.env) (λx s₁=>wpAny (model X.prog X.w) X.A (pyIter x) (λit s₂=>wpAny (model X.prog X.w) X.A (newList []) (λacc s₃=>
   wpAny (model X.prog X.w) X.A (newFunctionEnv scope X.env.globals cl [] X.env.qual none .none (some X.env)) (λcenv s₄=>
    codeAny (model X.prog X.w) X.A (.compStart (.ListComp elt [⟨tg,iter,ifs,0⟩] scope pos) 0 it acc {cenv with scope:=relabel scope X.env}) (RR acc cenv.locals) s₄) X.xe s₃) X.xe s₂) X.xe s₁) X.xe s:=by
 refine Jp (C.it pins s σ H _ I h) λv s1 h1=>Jp h1 λitv s2 h2=>?_
 obtain⟨it,fp,tn,J,H2,e,I2,T,st2,f2,R2⟩:=h2
 subst e
 obtain⟨W,⟨m,w0⟩,turn⟩:=R2 s2.heap.objs.size I2.fresh
 have I3:Zs X pins σ (Yq H2 s2.heap.objs.size (.lst [])) {s2 with heap:=s2.heap.push {cls:=.type "list",data:=.seq ([]:List Value).toArray},toks:=s2.toks}:=I2.lnew (ys:=[]) (its:=[]) .nil (XO _)
 have fl:∀b∈fp,b<s2.heap.objs.size:=λb hb=>by
  obtain⟨o,e,_⟩:=T.obj _ _ st2 b hb
  exact XD e
 have f3:∀b∈fp,Mj X pins (Yq H2 s2.heap.objs.size (.lst [])) b:=λb hb=>⟨by rw[Zt (XH (fl b hb))];exact(f2 b hb).1,(f2 b hb).2⟩
 refine wpAny_newObj_type (wpAny_newFunctionEnv (C.ok I.ok).cell (by intro y hy;simp at hy) (λh₁ hns₁ hsb₁=>?_) (C.ok I.ok).kind)
 dsimp only at hns₁ hsb₁ |-
 generalize hs3:({s2 with heap:=s2.heap.push {cls:=.type "list",data:=.seq ([]:List Value).toArray},toks:=s2.toks}:Shared)=s3 at I3
 have hh3:s3.heap=s2.heap.push {cls:=.type "list",data:=.seq ([]:List Value).toArray}:=by rw[<-hs3]
 rw[<-hh3] at hns₁ hsb₁ |-
 have fl3:∀b∈fp,b<s3.heap.objs.size:=λb hb=>by rw[hh3,Heap.size_push];exact Nat.lt_succ_of_lt (fl b hb)
 have k1:∀b o,s3.heap.get? b=some o->h₁.get? b=some o:=λb o e=>(hsb₁.2 b (XH (XD e))).trans (XC _ e)
 have I4:=zQ (tk:=s2.toks+([]:List (Str×Value)).length) (C.ok I.ok) I3 f3 fl3 hns₁ k1
 have e4:({s3 with heap:=h₁,toks:=s2.toks+([]:List (Str×Value)).length}:Shared)={s2 with heap:=h₁,toks:=s2.toks+([]:List (Str×Value)).length}:=by rw[<-hs3]
 rw[e4] at I4
 have st4:tn 0 h₁:=T.keep _ _ _ st2 λb hb o e=>k1 b o (by rw[hh3];exact XC _ e)
 have f4:∀b∈fp,Mj (Yt X cN scope cl fp s3 (Yq H2 s2.heap.objs.size (.lst []))) [] (Yq H2 s2.heap.objs.size (.lst [])) b:=λb hb=>by
  obtain⟨g0,g1,g2,g3,g4,g5⟩:=f3 b hb
  refine⟨g0,Nat.ne_of_lt (fl3 b hb),λz=>?_,.inl hb,λx c e=>g4 x c ((C.ok I.ok).sub x c e),λp hp=>absurd hp (by simp[Yt])⟩
  rcases List.mem_cons.mp (I3.stkSub b z) with e | z
  ·exact g1 e
  ·exact g2 z
 have loop:codeAny (model X.prog X.w) X.A (.compLoop (.ListComp elt [⟨tg,iter,ifs,0⟩] scope pos) 0 (.ref it) (.ref s2.heap.objs.size) (Yt X cN scope cl fp s3 (Yq H2 s2.heap.objs.size (.lst []))).env) (RR (.ref s2.heap.objs.size) s3.heap.objs.size)
   {s2 with heap:=h₁,toks:=s2.toks+([]:List (Str×Value)).length}:=
  jN X C.calm (C.tgt _ _ _) C.gm C.gk C.js0 (C.ts _ _ _) C.tm (C.el _ _ _) T W turn m w0 I4 st4 f4 λσ' H' s' I' q=>hRR _ fp s3 _ σ' H' s' I3 f3 I' q
 exact codeAny_compStart_list loop (T.self _ 0 _ _ _ st4 loop)
def mn (cap:List (Option Nat))(wi:TI)(g:TG)(c:TT)(te:TE):TE:=λσ H Q=>Fz cap wi g c te σ H λp H'=>Q (.ref p) H'
def uZ (C:Aw X tg iter elt ifs scope cN cap cl js wi g c te):PE X (.ListComp elt [⟨tg,iter,ifs,0⟩] scope pos) (mn cap wi g c te):=by
 intro pins s σ H Q I h
 rw[eval_ListComp]
 refine wpAny_comprehension_free (use:=none) rfl C.fold (C.ok I.ok).clos (C.ok I.ok).kind (C.ok I.ok).names (Hi (RR:=λacc C'=>compPost (model X.prog X.w) X.A X.xe none (EP X pins σ Q) acc C') C I h ?_)
 intro D fp s3 H3 σ' H' s' I3 f3 J q
 obtain⟨m,hn,_⟩:=J.loc
 exact⟨m,hn,λh' sb=>⟨.ref D,H',Ao I3 f3 J sb,rfl,q⟩⟩
def xP (i:Nat)(cap:List (Option Nat))(wi:TI)(g:TG)(c:TT)(te:TE):TS:=λD σ H=>Fz cap wi g c te σ H λp H'=>D.nx (σ.set i (some (.ref p))) H'
def zh {i:Nat}{y:Str}{py spos:Pos}(hN:X.N.Nodup)(hi:X.N[i]?=some y)(hy:X.env.scope.names.lookup y=some .local)
  (hsw:swapsWith (.ListComp elt [⟨tg,iter,ifs,0⟩] scope pos) (some (.Name y py)) spos.line X.env=pure true)
  (C:Aw X tg iter elt ifs scope cN cap cl js wi g c te):PS X (.Assign [.Name y py] (.ListComp elt [⟨tg,iter,ifs,0⟩] scope pos) spos) (xP i cap wi g c te):=by
 intro pins s σ H D I h
 rw[exec_Assign_Name_used _ _ _ _ hsw]
 refine XA (wpAny_standAt (XA ?_))
 show wpAny _ X.A (do let _ <-comprehension (.ListComp elt [⟨tg,iter,ifs,0⟩] scope pos) scope X.env _ (newList []) false (eval iter X.env) (some (assign (.Name y py) X.env))) _ _ s
 refine XA (wpAny_mono (wpAny_comprehension_free (use:=some (assign (.Name y py) X.env)) (Q:=λ_ s'=>SP X pins D .next s') rfl C.fold (C.ok I.ok).clos (C.ok I.ok).kind (C.ok I.ok).names
  (Hi (RR:=λacc C'=>compPost (model X.prog X.w) X.A X.xe (some (assign (.Name y py) X.env)) (λ_ s'=>SP X pins D .next s') acc C') C I h ?_)) (λ_ s' hq=>XB (XB hq)) λ_ _ e=>e)
 intro D' fp s3 H3 σ' H' s' I3 f3 J q
 obtain⟨m,hn,_⟩:=id J.loc
 have I4:Zs X pins σ H' s':=Ao I3 f3 J (Heap.SameBut.refl ..)
 show wpAny _ X.A (assign (.Name y py) X.env (.ref D')) _ _ _
 refine wpAny_assign_Name (Gm (v:=.ref D') I4 hN hi (.inl hy) rfl (λs5 I5 hch=>?_) (.inr hy))
 obtain⟨a,sb,ha⟩:=hch
 have hf:H' s3.heap.objs.size=none:=J.free
 have hCL:s3.heap.objs.size≠X.env.locals:=Nat.ne_of_gt I3.lt
 have hcells:∀x c,X.env.cells.lookup x=some c->c≠s3.heap.objs.size:=λx c e=>by
  obtain⟨v,o,ho,_⟩:=I3.cell x c e
  exact XH (XD ho)
 have haC:s3.heap.objs.size≠a:=by
  rcases ha with z | z
  ·rw[z];exact hCL
  ·exact Ne.symm (hcells _ _ z)
 refine⟨m,hn.sameBut sb haC,λh6 sb6=>⟨_,H',?_,q⟩⟩
 exact I5.turned (h':=h6) (t':=s5.toks) (λb o hb e=>(sb6.2 b hb).trans e) hf hCL (.inr I3.sz) (λx c e=>hcells x c e) λp hp z=>by
  have:=XD (I3.pin p hp).1
  rw[z] at this;exact Nat.lt_irrefl _ this
end
end
def kL (z:Str):It:=⟨λi _=>i<z.cps.size,λi H x H'=>H'=H/\∃c,z.cps[i]?=some c/\x=.str ⟨#[c]⟩,λi _=>i=z.cps.size⟩
def Ks {P:Program}{w:World}{K:W.Frag}{tg:Expr}{ty:String}{it:Addr}{z:Str}{t:Tok}(hty:["enumerate","zip","dict_itemiterator","dict_reverseitemiterator","odict_iterator","itertools.zip_longest","itertools.pairwise"].contains ty=false)
  (W:∀A:Around,A.handled=none->Walks P w A it [it] [it] z.cps.size (SignAt z) (λi h=>h.IsStrIter it ty z t i))
  (self:∀(A:Around) (i:Nat) (s:Shared) (Q:Value->Shared->Prop) (E:Value->Shared->Prop),s.heap.IsStrIter it ty z t i->Q (.ref it) s->wpAny (model P w) A (pyIter (.ref it)) Q E s):
  Dq P w K tg (kL z) [it] it (λi h=>h.IsStrIter it ty z t i) where
 mem:=by simp
 obj:=λi h st b hb=>by
  have e:b=it:=by simpa using hb
  subst e
  obtain⟨o,e,c,d⟩:=st
  exact⟨o,e,λv z=>by rw[d] at z;cases z⟩
 keep:=λi h h' st k=>let ⟨o,e,r⟩:=st;⟨o,k it (by simp) o e,r⟩
 item:=by
  intro X hP hw hK hc i pins s σ H E I hf st hg
  subst hP hw hK
  obtain⟨f0,f1,f2,f3,f4,f5⟩:=hf it (by simp)
  refine(W X.A (I.ok.hd hc)).item i s _ _ hg st λv h' tk hv st' kk=>?_
  obtain⟨c,u,hcp,rfl⟩:=hv
  have I1:Zs X pins σ H {s with heap:=h',toks:=tk}:=I.turned (λb o hb e=>kk b o (by simpa using hb) e) f0 f1 f3 f4 f5
  obtain⟨o,e,c',d⟩:=id st'
  exact⟨_,rfl,By (s:={s with heap:=h',toks:=tk}) e c' d hty ⟨.str ⟨#[c]⟩,H,I1,⟨u,rfl⟩,⟨rfl,c,hcp,rfl⟩,st',λb hb=>(hf b hb).1⟩⟩
 done:=by
  intro X hP hw hK hc i pins s σ H E I hf st hg
  subst hP hw hK
  obtain⟨f0,f1,f2,f3,f4,f5⟩:=hf it (by simp)
  have e:i=z.cps.size:=hg
  subst e
  exact(W X.A (I.ok.hd hc)).done s _ _ st λh' tk kk=>⟨rfl,I.turned (λb o hb e=>kk b o (by simpa using hb) e) f0 f1 f3 f4 f5⟩
 self:=self
section
variable {X:Cx}{tg:Expr}
end
section
variable {X:Cx}{elts:List Expr}{ek:Nat}{epos:Pos}
end
section
variable {X:Cx}
def qu (K:W.Frag):R2:=λx y H Q=>∃a b ys,x=.ref a/\y=.ref b/\Uu K H a []/\Uu K H b ys/\Q (.ref b) H
def wL:Ll X (binaryOp .Add) (qu X.K):=by
 intro pins s σ H x y v u Q I rx ry h
 obtain⟨a,b,ys,rfl,rfl,ha,hb,q⟩:=h
 cases rx
 cases ry
 obtain⟨its,r1,p1,_⟩:=I.tuple ha
 obtain⟨its2,r2,p2,_⟩:=I.tuple hb
 cases r1
 obtain⟨⟨cls,dd,data,sl⟩,ho,hc,n,hd⟩:=id p1
 obtain⟨⟨cls2,dd2,data2,sl2⟩,ho2,hc2,n2,hd2⟩:=id p2
 simp only at hc hd hc2 hd2
 subst hc hd hc2 hd2
 exact concat_meets ⟨_,ho,rfl⟩ ⟨_,ho2,rfl⟩ noFill_tuple_add seq_tuple_add PySem.F.slot_tuple_add PySem.F.entry_tuple_add (PySem.F.args_tuple_add_2 _ _)
  (tuple_addW0 a b _ _ n n2 dd dd2 sl sl2 (by simp)) ⟨ho,ho2,⟨.ref b,H,I,rfl,q⟩⟩
def yx {v:Value}{o:Option Int}(h:IsPart v o):∃l:Option (Int×Tok),v=partValue l/\l.map (·.1)=o:=by
 cases h with
 | none=>exact⟨none,rfl,rfl⟩
 | int i t=>exact⟨some (i,t),rfl,rfl⟩
def i6:V->Option Int->Option Int->Hp->VK->Prop:=λx lo hi H Q=>∃z,x=.str z/\z.length<=sizeLine/\Q (.str (Txt.slice z lo hi)) H
def qh:uo X i6:=by
 intro pins s σ H x v vl vu lo hi sl Q I rx hs pl pu h
 obtain⟨z,rfl,hz,q⟩:=h
 obtain⟨t,rfl⟩:=rx
 obtain⟨l,rfl,rfl⟩:=yx pl
 obtain⟨u,rfl,rfl⟩:=yx pu
 refine⟨"str",_,PySem.F.slot_str_getitem.lookup,typeIs_str _ _ _,?_⟩
 obtain⟨o,ho,hc,hd⟩:=hs
 refine wpAny_getItem_str_slice (l:=l) (u:=u) (st:=none) ⟨o,ho,hc,hd⟩ rfl ?_
 have hle:=Txt.slice_le z (l.map (·.1)) (u.map (·.1))
 unfold sliceMade
 unfold Txt.slice at q hle
 show Made.post (if ((1:Int)==1&&(PySem.Builtin.Str.strSliceIndices (l.map (·.1)) (u.map (·.1)) 1 z.length).length==z.length)=true then _ else Made.str ⟨((PySem.Builtin.Str.strSliceIndices (l.map (·.1)) (u.map (·.1)) 1 z.length).filterMap (z.cps[·]?)).toArray⟩) _ s
 split
 ·rename_i hif
  rw[XY hif] at q
  exact⟨.str z,H,I,⟨t,rfl⟩,q⟩
 ·rename_i hif
  rw[XX hif] at q
  rw[XX hif] at hle
  exact⟨XN hle hz,.str _,H,I.tok _,⟨_,rfl⟩,q⟩
end
def oA:bootBuiltins "max"=some (.builtin "max"):=by decide+kernel
def Gd:bootBuiltins "isinstance"=some (.builtin "isinstance"):=by decide+kernel
def oB:bootBuiltins "int"=some (.type "int"):=by decide+kernel
def su:bootBuiltins "list"=some (.type "list"):=by decide+kernel
def Tq:bootBuiltins "tuple"=some (.type "tuple"):=by decide+kernel
section
variable {X:Cx}
structure Ca (P:Program)(w:World)(K:W.Frag)(mg:Str->Option Value)(base:Heap)(k:Nat)(x:Str)(ps:List Str)(sp:Sp):Prop where
 ex:∃(f:Addr) (fd:FuncData),Ud P w K mg base CX0 k f fd ps sp/\X6 K fd ps []/\W.keepIn K (.ref f)=true/\mg x=some (.ref f)
def mY {k:Nat}{x:Str}{ps:List Str}{sp:Sp}{p pos:Pos}{e:Expr}{es:List Expr}{t:TA}(C:Ca X.prog X.w X.K X.mg X.base k x ps sp)(hr:X5 k X.A)(hg:Gl X x)(ha:PA X (e::es) t)
  (hdb:(x==("__debug__":Str))=false:=by decide) (he:starEach (e::es) X.env=(false,eval e X.env)::starEach es X.env:=by rfl) (hpl:(backTo pos (starEach es X.env)).any (·.1)=false:=by rfl):
  PE X (.Call (.Name x p) (e::es) [] pos) (sY sp [] E0 t):=by
 obtain⟨f,fd,F,B,kp,m⟩:=C.ex
 exact tj F hr hg m kp B .nil yw ha hdb he hpl
def E4 {K:W.Frag}{n:Nat}{u:Ay}(b:Mh u):O5 (B0 K n u):=λx σ H Q Q' h q=>by
 obtain⟨a,xs,e,hq,hl,q⟩:=q
 exact⟨a,xs,e,hq,hl,b _ _ _ _ _ h q⟩
def Um {scope:Scope}{env:Env}{x:Str}{k:NameKind}(h:(relabel scope env).names.lookup x=some k):∃k',(x,k')∈scope.names/\(k'=k\/k'=.free):=by
 have m:=PySem.mem_of_lookup h
 unfold relabel at m
 obtain⟨⟨n,k'⟩,hm,e⟩:=XR.mp m
 dsimp only at e
 split at e
 ·rename_i hc
  cases e
  refine⟨k',hm,.inr ?_⟩
  simp only[Bool.and_eq_true,beq_iff_eq] at hc
  exact hc.1.1
 ·cases e
  exact⟨_,hm,.inl rfl⟩
def Kh {cN:List Str}{cap:List (Option Nat)}{scope:Scope}(hk:scope.kind=.function)(h1:scope.names.all (λy=>y.2 !=.free&&y.2 !=.cell)=true)(h2:scope.names.all (λy=>y.2 !=.local||scope.names.lookup y.1==some .local)=true)
  (hl:cap.length=cN.length) (hc:cap.all (λo=>o.isNone)=true):Ho X cN cap scope [] where
 clos:=closureFor_none λy hy=>by
  have:=List.all_eq_true.mp h1 y hy
  simp only[Bool.and_eq_true,bne_iff_ne,ne_eq] at this
  exact this.1
 sub:=λn a h=>by cases h
 cell:=λy hy=>by
  have:=List.all_eq_true.mp h1 y hy
  simp only[Bool.and_eq_true,bne_iff_ne,ne_eq] at this
  exact this.2
 kind:=hk
 names:=λy hy e=>by
  have:=List.all_eq_true.mp h2 y hy
  simp only[Bool.or_eq_true,bne_iff_ne,ne_eq,beq_iff_eq] at this
  rcases this with q | q
  ·exact absurd e q
  ·exact q
 len:=hl
 has:=λx h=>by
  exfalso
  have no:∀k',(x,k')∈scope.names->k'≠.free/\k'≠.cell:=λk' hy=>by
   have:=List.all_eq_true.mp h1 _ hy
   simpa only[Bool.and_eq_true,bne_iff_ne,ne_eq] using this
  rcases h with h | h
  ·obtain⟨k',hm,e⟩:=Um h
   rcases e with e | e
   ·exact(no k' hm).2 e
   ·exact(no k' hm).1 e
  ·obtain⟨k',hm,e⟩:=Um h
   rcases e with e | e
   ·exact(no k' hm).1 e
   ·exact(no k' hm).1 e
 capd:=λi j x h _=>by
  have:=List.all_eq_true.mp hc _ (List.mem_of_getElem? h)
  cases this
def Xf (cells:List (Str×Addr)):List (Str×NameKind)->List (Str×Addr)->List (Str×Addr)
 | [],cs=>cs
 | (n,k)::r,cs=>Xf cells r (if k==.free then(n,(cells.lookup n).getD 0)::cs else cs)
def Oy {cells:List (Str×Addr)}:∀{names:List (Str×NameKind)} {cs:List (Str×Addr)} {p:Str×Addr},p∈Xf cells names cs↔p∈cs\/((p.1,NameKind.free)∈names/\p.2=(cells.lookup p.1).getD 0)
 | [],cs,p=>by simp[Xf]
 | (n,k)::r,cs,p=>by
  unfold Xf
  rw[Oy]
  by_cases hk:k=.free
  ·subst hk
   simp only[beq_self_eq_true,if_true,List.mem_cons,Prod.mk.injEq,and_true]
   constructor
   ·rintro((h | h) | h)
    ·subst h;exact .inr ⟨.inl rfl,rfl⟩
    ·exact .inl h
    ·exact .inr ⟨.inr h.1,h.2⟩
   ·rintro(h | ⟨h | h,e⟩)
    ·exact .inl (.inr h)
    ·refine .inl (.inl ?_)
     obtain⟨a,b⟩:=p
     simp only at h e
     subst h;subst e;rfl
    ·exact .inr ⟨h,e⟩
  ·have hb:(k==NameKind.free)=false:=by simpa using hk
   simp only[hb,Bool.false_eq_true,if_false,List.mem_cons,Prod.mk.injEq]
   constructor
   ·rintro(h | h)
    ·exact .inl h
    ·exact .inr ⟨.inr h.1,h.2⟩
   ·rintro(h | ⟨h | h,e⟩)
    ·exact .inl h
    ·exact absurd h.2.symm hk
    ·exact .inr ⟨h,e⟩
def Gb {scope:Scope}{env:Env}(h:∀n,(n,NameKind.free)∈scope.names->∃c,env.cells.lookup n=some c):closureFor scope env=pure (Xf env.cells scope.names []):=by
 have key:∀(names:List (Str×NameKind)) (cs:List (Str×Addr)),(∀n,(n,NameKind.free)∈names->∃c,env.cells.lookup n=some c)->
   (forIn names cs λx r=>(match x with | (name,kind)=>if (kind==NameKind.free)=true then(do let y <-cellOf env name;pure (ForInStep.yield ((name,y)::r))) else pure (ForInStep.yield r):Sem (ForInStep (List (Str×Addr)))))=pure (Xf env.cells names cs):=by
  intro names
  induction names with
  | nil=>intro cs _;rfl
  | cons y r ih=>
   obtain⟨n,k⟩:=y
   intro cs hn
   rw[List.forIn_cons]
   unfold Xf
   by_cases hk:k=.free
   ·subst hk
    obtain⟨c,hc⟩:=hn n (List.mem_cons_self)
    simp only[beq_self_eq_true,if_true,cellOf,hc,Option.getD_some]
    exact ih _ λm hm=>hn m (XV _ hm)
   ·have hb:(k==NameKind.free)=false:=by simpa using hk
    simp only[hb,Bool.false_eq_true,if_false]
    exact ih _ λm hm=>hn m (XV _ hm)
 unfold closureFor
 have:=key scope.names [] h
 first
  | exact this
  | (simp only[bind_pure];exact this)
  | (show(forIn scope.names [] _>>=λr=>pure r)=_;rw[bind_pure];exact this)
def Ik {f:Str->NameKind->NameKind}:∀{names:List (Str×NameKind)} {x:Str},(names.map λy=>(y.1,f y.1 y.2)).lookup x=(names.lookup x).map (f x)
 | [],x=>rfl
 | (n,k)::r,x=>by
  have ih:=@Ik f r x
  rw[YI,List.lookup_cons,List.lookup_cons]
  by_cases hx:x=n
  ·subst hx;simp
  ·have hb:(x==n)=false:=beq_eq_false_iff_ne.mpr hx
   simp only[hb];exact ih
def Il {scope:Scope}{env:Env}{x:Str}:(relabel scope env).names.lookup x=
   (scope.names.lookup x).map λk=>if (k==NameKind.free&&env.scope.kind==.function&&env.kindOf x==some .cell) then NameKind.cell else k:=by
 rw[<-Ik (f:=λn k=>if (k==NameKind.free&&env.scope.kind==.function&&env.kindOf n==some .cell) then NameKind.cell else k)]
 unfold relabel
 congr 1
 refine List.map_congr_left λy _=>?_
 obtain⟨n,k⟩:=y
 dsimp only
 split<;>rfl
def Hk (N:List Str)(outer inner:List (Str×NameKind)):List (Option Nat)->List Str->Bool
 | [],_=>true
 | _,[]=>true
 | none::r,_::xs=>Hk N outer inner r xs
 | some j::r,x::xs=>N[j]?==some x&&outer.lookup x==some .cell&&inner.lookup x==some .free&&Hk N outer inner r xs
def M8 {N:List Str}{outer inner:List (Str×NameKind)}:∀{cap:List (Option Nat)} {cN:List Str},Hk N outer inner cap cN=true->∀(i j:Nat) (x:Str),cap[i]?=some (some j)->cN[i]?=some x->N[j]?=some x/\outer.lookup x=some .cell/\inner.lookup x=some .free
 | [],_,_,i,j,x,h1,_=>by simp at h1
 | _::_,[],_,i,j,x,_,h2=>by simp at h2
 | none::r,y::xs,h,0,j,x,h1,_=>by simp at h1
 | none::r,y::xs,h,i+1,j,x,h1,h2=>M8 (cap:=r) (cN:=xs) (by simpa[Hk] using h) i j x (by simpa using h1) (by simpa using h2)
 | some k::r,y::xs,h,0,j,x,h1,h2=>by
  simp only[Hk,Bool.and_eq_true,beq_iff_eq] at h
  simp at h1 h2
  subst h1 h2
  exact⟨h.1.1.1,h.1.1.2,h.1.2⟩
 | some k::r,y::xs,h,i+1,j,x,h1,h2=>by
  simp only[Hk,Bool.and_eq_true,beq_iff_eq] at h
  exact M8 (cap:=r) (cN:=xs) h.2 i j x (by simpa using h1) (by simpa using h2)
def Pr {α β:Type}[BEq α][LawfulBEq α]{x:α}:∀{l:List (α×β)} {b:β},(x,b)∈l->∃c,l.lookup x=some c
 | [],_,h=>by cases h
 | (y,c)::r,b,h=>by
  rw[List.lookup_cons]
  by_cases hx:x=y
  ·subst hx;simp
  ·have hb:(x==y)=false:=beq_eq_false_iff_ne.mpr hx
   rw[hb]
   rcases List.mem_cons.mp h with e | h
   ·cases e;exact absurd rfl hx
   ·exact Pr h
def Ut {cN:List Str}{cap:List (Option Nat)}{scope:Scope}(ok:X.Ok)(hk:scope.kind=.function)(h1:scope.names.all (λy=>y.2 !=.cell)=true)(h2:scope.names.all (λy=>y.2 !=.local||scope.names.lookup y.1==some .local)=true)
  (hl:cap.length=cN.length) (hf:(scope.names.all λy=>y.2 !=.free||X.env.scope.names.lookup y.1==some .cell)=true) (hc:Hk X.N X.env.scope.names scope.names cap cN=true):Ho X cN cap scope (Xf X.env.cells scope.names []):=by
 have hfr:∀n,(n,NameKind.free)∈scope.names->∃c,X.env.cells.lookup n=some c:=λn hn=>by
  have:=List.all_eq_true.mp hf _ hn
  simp only[bne_self_eq_false,Bool.false_or,beq_iff_eq] at this
  exact ok.has n (.inl this)
 refine⟨Gb hfr,λn a h=>?_,λy hy=>?_,hk,λy hy e=>?_,hl,λx h=>?_,λi j x h1' h2'=>?_⟩
 ·have m:=PySem.mem_of_lookup h
  rw[Oy] at m
  rcases m with m | ⟨m,e⟩
  ·cases m
  ·obtain⟨c,hc⟩:=hfr n m
   simp only[hc,Option.getD_some] at e
   rw[hc,e]
 ·have:=List.all_eq_true.mp h1 y hy
  simpa using this
 ·have:=List.all_eq_true.mp h2 y hy
  simp only[Bool.or_eq_true,bne_iff_ne,ne_eq,beq_iff_eq] at this
  rcases this with q | q
  ·exact absurd e q
  ·exact q
 ·have nc:∀k',(x,k')∈scope.names->k'≠.cell:=λk' hy=>by
   have:=List.all_eq_true.mp h1 _ hy
   simpa using this
  have m:(x,NameKind.free)∈scope.names:=by
   rcases h with h | h
   ·obtain⟨k',hm,e⟩:=Um h
    rcases e with e | e
    ·exact absurd e (nc k' hm)
    ·subst e;exact hm
   ·obtain⟨k',hm,e⟩:=Um h
    rcases e with e | e<;>(subst e;exact hm)
  exact Pr (b:=(X.env.cells.lookup x).getD 0) (Oy.mpr (.inr ⟨m,rfl⟩))
 ·obtain⟨q1,q2,q3⟩:=M8 hc i j x h1' h2'
  refine⟨q1,.inr (.inl q2),(by rw[q2];simp),?_⟩
  rw[Il,q3]
  simp only[Option.map_some,beq_self_eq_true,Bool.true_and]
  split
  ·exact .inl rfl
  ·exact .inr rfl
end
def CN (p:Addr)(Pv:Nat->List V->Hp->Prop)(i:Nat)(H:Hp):Prop:=∃ys,H p=some (.lst ys)/\ys.length<=i/\Pv i ys H
section
variable {K:W.Frag}{cap:List (Option Nat)}{g:TG}{c:TT}{te:TE}{σ:St}{Q:Addr->Hp->Prop}{H:Hp}
end
def ic (g:TG)(tb:TS)(D:Gh)(σ:St)(J:It)(H1:Hp):Prop:=∃W:Nat->Nat->St->Hp->Prop,(∃m,W 0 m σ H1)/\∀i m σ H,W i m σ H->
 (J.stop i H/\D.nx σ H)\/(J.go i H/\∃N:St->Hp->Prop,(∀σ' H',N σ' H'->∃m',m'<m/\W (i+1) m' σ' H')/\∀x H',J.yld i H x H'->g x σ H' λσ2 H2=>tb {D with nx:=N,ct:=N,bk:=D.nx} σ2 H2)
section
variable {K:W.Frag}{a:Addr}{xs:List V}{g:TG}{tb:TS}{D:Gh}{σ:St}{H:Hp}{z:Str}
end
def tyL {K:W.Frag}{H:Hp}{r:Addr}{xs:List V}(h:H r=some (.lst xs)):nt K "list" (.ref r) H:=by
 unfold nt
 exact .inl ⟨rfl,xs,Xv.of h⟩
def zT {α:Type}{xs:List α}{i:Int}(h0:0<=i)(h1:i<(xs.length:Int)):∃v,Pe xs i=some v/\v∈xs:=by
 have hk:i.toNat<xs.length:=by omega
 have ek:((i.toNat:Nat):Int)=i:=by omega
 have q:Pe xs ((i.toNat:Nat):Int)=some xs[i.toNat]:=Vu (by simp[hk])
 rw[ek] at q
 exact⟨xs[i.toNat],q,YN hk⟩
end L2
namespace WL
open PySem PySem.Spec PyProof.Rows L2
inductive T where
 | non | bl (b:Bool) | int (i:Int) | str (x:Str) | tup (xs:List T)
  | ref (a:Addr)
  | cl (xs:List T)
inductive O where
 | lst (xs:List T)
 | dic (kvs:List (Zz×T))
 | ins (cn:Str) (fs:List (Str×T))
  | fdic (kvs:List (Zz×T))
abbrev Hw:=Addr->Option O
def up (C:Hw)(a:Addr)(o:O):Hw:=λb=>if b=a then some o else C b
def Ze {C:Hw}{a:Addr}{o:O}:up C a o a=some o:=by unfold up;rw[XY rfl]
def Zg {C:Hw}{a b:Addr}{o:O}(h:b≠a):up C a o b=C b:=by unfold up;rw[XX h]
def rM (K:W.Frag)(H:Hp)(a:Addr)(xs:List V):Prop:=
 (∃o,H a=some (.frz o (.lst xs)))\/
  ∃(o:Obj) (its:Array Value) (n:Nat),K.lookup a=some o/\o.cls=.type "list"/\o.dict=none/\o.data=.seq its n/\its.size<=sizeLine/\Z7 xs its.toList
def rM.sq {K:W.Frag}{H:Hp}{a:Addr}{xs:List V}(h:rM K H a xs):Xv K H a xs:=by
 rcases h with⟨o,h⟩ | h
 ·exact .inl (.inr ⟨o,h⟩)
 ·exact .inr h
mutual
def Jh (K:W.Frag)(H:Hp)(x:V):T->Prop
 | .non=>x=.non
 | .bl b=>x=.bl b
 | .int i=>x=.int i
 | .str z=>x=.str z
 | .ref a=>x=.ref a
 | .tup ts=>∃a ys,x=.ref a/\Uu K H a ys/\Reps K H ys ts
 | .cl ts=>∃a ys,x=.ref a/\rM K H a ys/\Reps K H ys ts
def Reps (K:W.Frag)(H:Hp)(ys:List V):List T->Prop
 | []=>ys=[]
 | t::ts=>∃y r,ys=y::r/\Jh K H y t/\Reps K H r ts
end
def gr:HO->Prop
 | .tup _=>True
 | .frz _ _=>True
 | _=>False
def Tx (H H':Hp):Prop:=∀b o,H b=some o->gr o->H' b=some o
def Tx.refl (H:Hp):Tx H H:=λ_ _ h _=>h
def Tx.trans {H H1 H2:Hp}(a:Tx H H1)(b:Tx H1 H2):Tx H H2:=λc o h n=>b c o (a c o h n) n
def Tx.new {H:Hp}{p:Addr}{o:HO}(h:H p=none):Tx H (Yq H p o):=λb u q _=>by rw[Zt (Y4 q h)];exact q
def Tx.put {H:Hp}{p:Addr}{o u:HO}(h:H p=some o)(n:¬gr o):Tx H (Yq H p u):=λb v q s=>by
 by_cases e:b=p
 ·subst e;rw[h] at q;cases q;exact absurd s n
 ·rw[Zt e];exact q
def Tx.sqt {K:W.Frag}{H H':Hp}(t:Tx H H'){a:Addr}{xs:List V}(h:Uu K H a xs):Uu K H' a xs:=by
 rcases h with(h | ⟨o,h⟩) | h
 ·exact .inl (.inl (t _ _ h trivial))
 ·exact .inl (.inr ⟨o,t _ _ h trivial⟩)
 ·exact .inr h
def Tx.sqc {K:W.Frag}{H H':Hp}(t:Tx H H'){a:Addr}{xs:List V}(h:rM K H a xs):rM K H' a xs:=by
 rcases h with⟨o,h⟩ | h
 ·exact .inl ⟨o,t _ _ h trivial⟩
 ·exact .inr h
mutual
def Jh.tx {K:W.Frag}{H H':Hp}(t:Tx H H'){x:V}:∀{v:T},Jh K H x v->Jh K H' x v
 | .non,h=>by simpa[Jh] using h
 | .bl b,h=>by simpa[Jh] using h
 | .int i,h=>by simpa[Jh] using h
 | .str z,h=>by simpa[Jh] using h
 | .ref a,h=>by simpa[Jh] using h
 | .tup ts,h=>by
  unfold Jh at h |-
  obtain⟨a,ys,e,q,r⟩:=h
  exact⟨a,ys,e,t.sqt q,Reps.tx t r⟩
 | .cl ts,h=>by
  unfold Jh at h |-
  obtain⟨a,ys,e,q,r⟩:=h
  exact⟨a,ys,e,t.sqc q,Reps.tx t r⟩
def Reps.tx {K:W.Frag}{H H':Hp}(t:Tx H H'){ys:List V}:∀{vs:List T},Reps K H ys vs->Reps K H' ys vs
 | [],h=>by simpa[Reps] using h
 | v::vs,h=>by
  unfold Reps at h |-
  obtain⟨y,r,e,q,s⟩:=h
  exact⟨y,r,e,Jh.tx t q,Reps.tx t s⟩
end
section
variable {K:W.Frag}{H:Hp}
def Y7 {i:Int}:Jh K H (.int i) (.int i):=by unfold Jh;rfl
def Sa {i:Str}:Jh K H (.str i) (.str i):=by unfold Jh;rfl
def Jw {i:Bool}:Jh K H (.bl i) (.bl i):=by unfold Jh;rfl
def Np:Jh K H .non .non:=by unfold Jh;rfl
def Jb {a:Addr}:Jh K H (.ref a) (.ref a):=by unfold Jh;rfl
def Jv {a:Addr}{ys:List V}{ts:List T}(h:Uu K H a ys)(r:Reps K H ys ts):Jh K H (.ref a) (.tup ts):=by unfold Jh;exact⟨a,ys,rfl,h,r⟩
def Yi {x:V}{i:Int}(h:Jh K H x (.int i)):x=.int i:=by unfold Jh at h;exact h
def J7 {x:V}{i:Str}(h:Jh K H x (.str i)):x=.str i:=by unfold Jh at h;exact h
def Pq {x:V}{i:Bool}(h:Jh K H x (.bl i)):x=.bl i:=by unfold Jh at h;exact h
def Op {x:V}(h:Jh K H x .non):x=.non:=by unfold Jh at h;exact h
def Z6 {x:V}{a:Addr}(h:Jh K H x (.ref a)):x=.ref a:=by unfold Jh at h;exact h
def Yp {x:V}{ts:List T}(h:Jh K H x (.tup ts)):∃a ys,x=.ref a/\Uu K H a ys/\Reps K H ys ts:=by unfold Jh at h;exact h
def Nv {x:V}{ts:List T}(h:Jh K H x (.cl ts)):∃a ys,x=.ref a/\rM K H a ys/\Reps K H ys ts:=by unfold Jh at h;exact h
def Yv:Reps K H [] []:=by unfold Reps;rfl
def Yh {y:V}{ys:List V}{t:T}{ts:List T}(a:Jh K H y t)(b:Reps K H ys ts):Reps K H (y::ys) (t::ts):=by unfold Reps;exact⟨y,ys,rfl,a,b⟩
def J8 {ys:List V}(h:Reps K H ys []):ys=[]:=by unfold Reps at h;exact h
def Yn {ys:List V}{t:T}{ts:List T}(h:Reps K H ys (t::ts)):∃y r,ys=y::r/\Jh K H y t/\Reps K H r ts:=by unfold Reps at h;exact h
def Reps.length:∀{vs:List T} {ys:List V},Reps K H ys vs->ys.length=vs.length
 | [],_,h=>by rw[J8 h];rfl
 | _::_,_,h=>by obtain⟨y,r,rfl,_,q⟩:=Yn h;rw[YF,YF,q.length]
def Reps.get:∀{vs:List T} {ys:List V} {i:Nat} {v:T},Reps K H ys vs->vs[i]?=some v->∃y,ys[i]?=some y/\Jh K H y v
 | [],_,_,_,_,e=>by simp at e
 | _::_,_,0,_,h,e=>by obtain⟨y,r,rfl,a,_⟩:=Yn h;simp at e;subst e;exact⟨y,rfl,a⟩
 | _::_,_,i+1,v,h,e=>by
  obtain⟨y,r,rfl,_,q⟩:=Yn h
  obtain⟨z,h1,h2⟩:=Reps.get (i:=i) (v:=v) q (by simpa using e)
  exact⟨z,by simpa using h1,h2⟩
def Reps.get':∀{vs:List T} {ys:List V} {i:Nat} {y:V},Reps K H ys vs->ys[i]?=some y->∃v,vs[i]?=some v/\Jh K H y v:=λ{vs ys i y} h e=>by
 have hl:=h.length
 have hi:i<ys.length:=(List.getElem?_eq_some_iff.mp e).1
 have hv:vs[i]?=some (vs[i]'(by omega)):=by simp[hl▸hi]
 obtain⟨z,h1,h2⟩:=h.get hv
 rw[e] at h1;cases h1
 exact⟨_,hv,h2⟩
def Reps.app:∀{vs ws:List T} {ys zs:List V},Reps K H ys vs->Reps K H zs ws->Reps K H (ys++zs) (vs++ws)
 | [],_,_,_,h,q=>by rw[J8 h];exact q
 | _::_,_,_,_,h,q=>by obtain⟨y,r,rfl,a,b⟩:=Yn h;exact Yh a (b.app q)
def Reps.take:∀(n:Nat) {vs:List T} {ys:List V},Reps K H ys vs->Reps K H (ys.take n) (vs.take n)
 | 0,_,_,_=>by simpa using Yv
 | _+1,[],_,h=>by rw[J8 h];exact Yv
 | n+1,_::_,_,h=>by obtain⟨y,r,rfl,a,b⟩:=Yn h;exact Yh a (b.take n)
def Reps.drop:∀(n:Nat) {vs:List T} {ys:List V},Reps K H ys vs->Reps K H (ys.drop n) (vs.drop n)
 | 0,_,_,h=>h
 | _+1,[],_,h=>by rw[J8 h];exact Yv
 | n+1,_::_,_,h=>by obtain⟨y,r,rfl,a,b⟩:=Yn h;exact b.drop n
def Reps.set {y:V}{v:T}(q:Jh K H y v):∀(n:Nat) {vs:List T} {ys:List V},Reps K H ys vs->Reps K H (ys.set n y) (vs.set n v)
 | _,[],_,h=>by rw[J8 h];exact Yv
 | 0,_::_,_,h=>by obtain⟨y,r,rfl,a,b⟩:=Yn h;exact Yh q b
 | n+1,_::_,_,h=>by obtain⟨y,r,rfl,a,b⟩:=Yn h;exact Yh a (b.set q n)
def Reps.dropLast {vs:List T}{ys:List V}(h:Reps K H ys vs):Reps K H ys.dropLast vs.dropLast:=by
 rw[List.dropLast_eq_take,List.dropLast_eq_take,h.length];exact h.take _
def Reps.snoc {vs:List T}{ys:List V}{y:V}{v:T}(h:Reps K H ys vs)(q:Jh K H y v):Reps K H (ys++[y]) (vs++[v]):=h.app (Yh q Yv)
def Reps.reverse:∀{vs:List T} {ys:List V},Reps K H ys vs->Reps K H ys.reverse vs.reverse
 | [],_,h=>by rw[J8 h];exact Yv
 | _::_,_,h=>by obtain⟨y,r,rfl,a,b⟩:=Yn h;rw[List.reverse_cons,List.reverse_cons];exact b.reverse.snoc a
def Reps.at {vs:List T}{ys:List V}{i:Int}{v:T}(h:Reps K H ys vs)(e:Pe vs i=some v):∃y,Pe ys i=some y/\Jh K H y v:=by
 unfold Pe at e |-
 rw[h.length]
 cases q:vb vs.length i with
 | none=>rw[q] at e;cases e
 | some j=>
  rw[q] at e
  exact h.get e
def Gs:∀ns:List Int,Reps K H (ns.map V.int) (ns.map T.int)
 | []=>Yv
 | n::r=>Yh Y7 (Gs r)
end
abbrev PR (K:W.Frag)(H:Hp){κ:Type}(kvs:List (κ×V))(kws:List (κ×T)):Prop:=PySem.Paired (λp q=>p.1=q.1/\Jh K H p.2 q.2) kvs kws
def Gf (K:W.Frag)(H:Hp)(a:Addr):O->Prop
 | .lst xs=>∃ys,H a=some (.lst ys)/\Reps K H ys xs
 | .dic kvs=>∃ks,H a=some (.dK ks)/\PR K H ks kvs
 | .ins cn fs=>∃Cl dx ks,W.nsIn K mainGlobals cn=some (some (.ref Cl))/\H a=some (.ins Cl dx ks)/\PR K H ks fs
 | .fdic kvs=>∃ks,Rd H a (.dK ks)/\PR K H ks kvs
def O.wr:O->Prop
 | .fdic _=>False
 | _=>True
structure Rl (K:W.Frag)(F H:Hp)(C:Hw):Prop where
 obj:∀a o,C a=some o->Gf K H a o
 frm:∀a o,F a=some o->H a=some o/\C a=none
def Nt {K:W.Frag}{H H':Hp}(t:Tx H H'){κ:Type}{ks:List (κ×V)}{kvs:List (κ×T)}(h:PR K H ks kvs):PR K H' ks kvs:=L2.Paired.mapP h λ_ _ z=>⟨z.1,z.2.tx t⟩
def Gf.stay {K:W.Frag}{H H':Hp}{a:Addr}{o:O}(h:Gf K H a o)(t:Tx H H')(e:H' a=H a):Gf K H' a o:=by
 cases o with
 | lst xs=>obtain⟨ys,q,r⟩:=h;exact⟨ys,e.trans q,r.tx t⟩
 | dic kvs=>obtain⟨ys,q,r⟩:=h;exact⟨ys,e.trans q,Nt t r⟩
 | ins C fs=>obtain⟨Cl,dx,ys,n,q,r⟩:=h;exact⟨Cl,dx,ys,n,e.trans q,Nt t r⟩
 | fdic kvs=>
  obtain⟨ys,q,r⟩:=h
  refine⟨ys,?_,Nt t r⟩
  rcases q with q | ⟨o,q⟩
  ·exact .inl (e.trans q)
  ·exact .inr ⟨o,e.trans q⟩
def Gf.some {K:W.Frag}{H:Hp}{a:Addr}{o:O}(h:Gf K H a o)(wr:o.wr):∃u,H a=some u/\¬gr u:=by
 cases o with
 | fdic kvs=>exact wr.elim
 | lst xs=>obtain⟨ys,q,r⟩:=h;exact⟨_,q,λz=>z⟩
 | dic kvs=>obtain⟨ys,q,r⟩:=h;exact⟨_,q,λz=>z⟩
 | ins C fs=>obtain⟨Cl,dx,ys,n,q,r⟩:=h;exact⟨_,q,λz=>z⟩
def Gf.here {K:W.Frag}{H:Hp}{a:Addr}{o:O}(h:Gf K H a o):∃u,H a=Option.some u:=by
 cases o with
 | fdic kvs=>
  obtain⟨ys,q,r⟩:=h
  rcases q with q | ⟨o,q⟩
  ·exact⟨_,q⟩
  ·exact⟨_,q⟩
 | lst xs=>obtain⟨ys,q,r⟩:=h;exact⟨_,q⟩
 | dic kvs=>obtain⟨ys,q,r⟩:=h;exact⟨_,q⟩
 | ins C fs=>obtain⟨Cl,dx,ys,n,q,r⟩:=h;exact⟨_,q⟩
section
variable {K:W.Frag}{F H:Hp}{C:Hw}
def Rl.free (R:Rl K F H C){p:Addr}(h:H p=none):C p=none:=by
 cases e:C p with
 | none=>rfl
 | some o=>obtain⟨u,q⟩:=(R.obj p o e).here;rw[h] at q;cases q
def Rl.lst (R:Rl K F H C){a:Addr}{xs:List T}(h:C a=some (.lst xs)):∃ys,H a=some (.lst ys)/\Reps K H ys xs:=R.obj a _ h
def Rl.new (R:Rl K F H C){p:Addr}{u:HO}{o:O}(h:H p=none)(r:Gf K (Yq H p u) p o):Rl K F (Yq H p u) (up C p o) where
 obj:=λa v e=>by
  by_cases q:a=p
  ·subst q;rw[Ze] at e;cases e;exact r
  ·rw[Zg q] at e
   exact(R.obj a v e).stay (Tx.new h) (Zt q)
 frm:=λa v e=>by
  have z:=R.frm a v e
  have q:a≠p:=Y4 z.1 h
  rw[Zt q,Zg q];exact z
def Rl.hid (R:Rl K F H C){p:Addr}{u:HO}(h:H p=none):Rl K F (Yq H p u) C where
 obj:=λa v e=>by
  obtain⟨w,q⟩:=(R.obj a v e).here
  exact(R.obj a v e).stay (Tx.new h) (Zt (Y4 q h))
 frm:=λa v e=>by
  have z:=R.frm a v e
  rw[Zt (Y4 z.1 h)];exact z
def Rl.put (R:Rl K F H C){p:Addr}{u:HO}{o o':O}(h:C p=some o)(r:Gf K (Yq H p u) p o')(wr:o.wr:=by trivial):Rl K F (Yq H p u) (up C p o')/\Tx H (Yq H p u):=by
 obtain⟨w,hw,ns⟩:=(R.obj p o h).some wr
 have t:Tx H (Yq H p u):=Tx.put hw ns
 refine⟨⟨λa v e=>?_,λa v e=>?_⟩,t⟩
 ·by_cases q:a=p
  ·subst q;rw[Ze] at e;cases e;exact r
  ·rw[Zg q] at e
   exact(R.obj a v e).stay t (Zt q)
 ·have z:=R.frm a v e
  have q:a≠p:=λy=>by subst y;rw[h] at z;cases z.2
  rw[Zt q,Zg q];exact z
def Rl.putL (R:Rl K F H C){p:Addr}{xs xs':List T}{ys':List V}(h:C p=some (.lst xs))(r:Reps K H ys' xs'):Rl K F (Yq H p (.lst ys')) (up C p (.lst xs'))/\Tx H (Yq H p (.lst ys')):=by
 obtain⟨w,hw,ns⟩:=(R.obj p _ h).some trivial
 exact R.put h ⟨ys',Z3,r.tx (Tx.put hw ns)⟩
def Rl.newL (R:Rl K F H C){p:Addr}{xs:List T}{ys:List V}(h:H p=none)(r:Reps K H ys xs):Rl K F (Yq H p (.lst ys)) (up C p (.lst xs)):=R.new h ⟨ys,Z3,r.tx (Tx.new h)⟩
end
abbrev Sw:=List (Option T)
abbrev WK:=T->Hw->Prop
structure Xn where
 cls:Str
 fs:List (Str×T)
abbrev WX:=Xn->Hw->Prop
abbrev WE:=Sw->Hw->WK->WX->Prop
abbrev WT:=Sw->Hw->(Bool->Hw->Prop)->WX->Prop
abbrev WA:=Sw->Hw->(List T->Hw->Prop)->WX->Prop
structure We where
 nx:Sw->Hw->Prop
 rt:WK
 bk:Sw->Hw->Prop:=λ_ _=>False
 ct:Sw->Hw->Prop:=λ_ _=>False
 xc:WX:=λ_ _=>False
abbrev WS:=We->Sw->Hw->Prop
abbrev WG:=T->Sw->Hw->(Sw->Hw->Prop)->WX->Prop
abbrev vY:=List T->Sw->Hw->(Sw->Hw->Prop)->WX->Prop
abbrev WI:=Sw->Hw->(List T->(Hw->Prop)->Hw->Prop)->WX->Prop
abbrev W2:=T->T->Hw->WK->Prop
abbrev Calls:=Nat->List T->Hw->WK->WX->Prop
def Yj (i:Nat):WE:=λτ C Q _=>∃v,τ[i]?=some (some v)/\Q v C
def eC (v:T):WE:=λ_ C Q _=>Q v C
def Jf (r:W2)(a b:WE):WE:=λτ C Q χ=>a τ C (λx C1=>b τ C1 (λy C2=>r x y C2 Q) χ) χ
def e9 (r:T->Hw->WK->Prop)(a:WE):WE:=λτ C Q χ=>a τ C (λx C1=>r x C1 Q) χ
def Zq:WA:=λ_ C Q _=>Q [] C
def Zr (a:WE)(r:WA):WA:=λτ C Q χ=>a τ C (λx C1=>r τ C1 (λxs C2=>Q (x::xs) C2) χ) χ
def N8 (a:WA):WE:=λτ C Q χ=>a τ C (λxs C1=>xs.length<=sizeLine/\Q (.tup xs) C1) χ
def Ag (a:WA):WE:=λτ C Q χ=>a τ C (λxs C1=>xs.length<=sizeLine/\∀p,C1 p=none->Q (.ref p) (up C1 p (.lst xs))) χ
def Qq (P:Calls)(i:Nat)(a:WA):WE:=λτ C Q χ=>a τ C (λxs C1=>P i xs C1 Q χ) χ
def kG (r:List T->Hw->WK->Prop)(a:WA):WE:=λτ C Q χ=>a τ C (λxs C1=>r xs C1 Q) χ
def h7 (ty:T->Hw->Prop)(r:T->List T->Hw->WK->Prop)(o:WE)(a:WA):WE:=λτ C Q χ=>o τ C (λx C1=>ty x C1/\a τ C1 (λxs C2=>r x xs C2 Q) χ) χ
def h9 (c:WT)(a b:WE):WE:=λτ C Q χ=>c τ C (λk C1=>if k=true then a τ C1 Q χ else b τ C1 Q χ) χ
def ou (a b:WE):WE:=λτ C Q χ=>a τ C (λx C1=>∃k,x=.bl k/\if k=true then b τ C1 Q χ else Q (.bl false) C1) χ
def eA (a b:WE):WE:=λτ C Q χ=>a τ C (λx C1=>∃k,x=.bl k/\if k=true then Q (.bl true) C1 else b τ C1 Q χ) χ
def iZ (a:WE):WE:=λτ C Q χ=>a τ C (λx C1=>∃k,x=.bl k/\Q (.bl (!k)) C1) χ
def k7:T->Hw->Bool->Prop
 | .non,_,k=>k=false
 | .bl b,_,k=>k=b
 | .int i,_,k=>k=(i !=0)
 | .str y,_,k=>y.length<=sizeLine/\k=((y.length:Int) !=0)
 | .tup xs,_,k=>k=!xs.isEmpty
 | .cl xs,_,k=>k=!xs.isEmpty
 | .ref a,C,k=>(∃xs,C a=some (.lst xs)/\k=!xs.isEmpty)\/∃kvs,C a=some (.dic kvs)/\k=!kvs.isEmpty
def qe (a:WE):WT:=λτ C Q χ=>a τ C (λx C1=>∃k,k7 x C1 k/\Q k C1) χ
def xu (a:WE):WT:=λτ C Q χ=>a τ C (λx C1=>∃k,x=.bl k/\Q k C1) χ
def ir (a b:WT):WT:=λτ C Q χ=>a τ C (λk C1=>if k=true then b τ C1 Q χ else Q false C1) χ
def jn (a b:WT):WT:=λτ C Q χ=>a τ C (λk C1=>if k=true then Q true C1 else b τ C1 Q χ) χ
def ia (a:WT):WT:=λτ C Q χ=>a τ C (λk C1=>Q (!k) C1) χ
def ot (r r':W2)(a b c:WE):WE:=λτ C Q χ=>a τ C (λx C1=>b τ C1 (λy C2=>r x y C2 λz C3=>∃k,z=.bl k/\(if k=true then c τ C3 (λw C4=>r' y w C4 Q) χ else Q (.bl false) C3)) χ) χ
def Fo:W2
 | .int i,.int j,C,Q=>Q (.int (i+j)) C
 | .str i,.str j,C,Q=>i.length+j.length<=sizeLine/\Q (.str (i++j)) C
 | .tup xs,.tup ys,C,Q=>xs.length+ys.length<=sizeLine/\Q (.tup (xs++ys)) C
 | .ref a,.ref b,C,Q=>∃xs ys,C a=some (.lst xs)/\C b=some (.lst ys)/\xs.length+ys.length<=sizeLine/\∀p,C p=none->Q (.ref p) (up C p (.lst (xs++ys)))
 | _,_,_,_=>False
def Oh:W2
 | .int i,.int j,C,Q=>Q (.int (i-j)) C
 | _,_,_,_=>False
def A0:W2
 | .int i,.int j,C,Q=>sT i j/\Q (.int (i*j)) C
 | _,_,_,_=>False
def kX:W2
 | .int i,.int j,C,Q=>gE i j/\Q (.int (i/j)) C
 | _,_,_,_=>False
def Dx:W2
 | .int i,.int j,C,Q=>0<j/\Q (.int (i%j)) C
 | _,_,_,_=>False
def nF:W2
 | .int i,.int j,C,Q=>k4 i j/\Q (.int (i^j.toNat)) C
 | _,_,_,_=>False
def kS:T->Hw->WK->Prop
 | .int i,C,Q=>Q (.int (-i)) C
 | _,_,_=>False
def kU:W2
 | .int i,.int j,C,Q=>Q (.bl (decide (i<j))) C
 | .str i,.str j,C,Q=>Q (.bl (decide (i.cps.toList<j.cps.toList))) C
 | _,_,_,_=>False
def fm:W2
 | .int i,.int j,C,Q=>Q (.bl (decide (i<=j))) C
 | _,_,_,_=>False
def kW:W2
 | .int i,.int j,C,Q=>Q (.bl (decide (j<i))) C
 | _,_,_,_=>False
def fq:W2
 | .int i,.int j,C,Q=>Q (.bl (decide (j<=i))) C
 | _,_,_,_=>False
mutual
def eqT:T->T->Bool
 | .non,.non=>true
 | .bl a,.bl b=>a==b
 | .bl a,.int b=>(if a then 1 else 0)==b
 | .int a,.bl b=>a==(if b then 1 else 0)
 | .int a,.int b=>a==b
 | .str a,.str b=>a==b
 | .tup xs,.tup ys=>X4 xs ys
 | _,_=>false
def X4:List T->List T->Bool
 | [],[]=>true
 | x::xs,y::ys=>eqT x y&&X4 xs ys
 | _,_=>false
end
mutual
def Y5:T->Nat->Bool
 | .tup xs,n+1=>Yr xs n
 | .tup _,0=>false
 | .ref _,_=>false
 | .cl _,_=>false
 | _,_=>true
def Yr:List T->Nat->Bool
 | [],_=>true
 | x::xs,n=>Y5 x n&&Yr xs n
end
def U5:Nat:=100
def Yk (x:T):Prop:=Y5 x U5=true
def Oi (neg:Bool):W2
 | .ref a,.ref b,C,Q=>∃xs ys,C a=some (.lst xs)/\C b=some (.lst ys)/\(xs.length=ys.length->Yr xs U5=true/\Yr ys U5=true)/\Q (.bl (if neg then !X4 xs ys else X4 xs ys)) C
 | .ref a,y,C,Q=>(∃xs,C a=some (.lst xs))/\Yk y/\Q (.bl neg) C
 | x,.ref b,C,Q=>(∃ys,C b=some (.lst ys))/\Yk x/\Q (.bl neg) C
 | x,y,C,Q=>Yk x/\Yk y/\Q (.bl (if neg then !eqT x y else eqT x y)) C
abbrev A1:W2:=Oi false
abbrev gF:W2:=Oi true
def nH:W2:=λx y C Q=>y=.non/\Q (.bl (match x with | .non=>true | _=>false)) C
def nG:W2:=λx y C Q=>y=.non/\Q (.bl (match x with | .non=>false | _=>true)) C
def inL (x:T)(xs:List T):Bool:=xs.any λy=>eqT y x
def rX (neg:Bool):W2
 | .str i,.str j,C,Q=>Q (.bl (if neg then(!(!(Builtin.Str.occurrences j i 0 j.length 1).isEmpty)) else(!(Builtin.Str.occurrences j i 0 j.length 1).isEmpty))) C
 | x,.tup ys,C,Q=>Yk x/\Yr ys U5=true/\Q (.bl (if neg then !inL x ys else inL x ys)) C
 | x,.cl ys,C,Q=>Yk x/\Yr ys U5=true/\Q (.bl (if neg then !inL x ys else inL x ys)) C
 | x,.ref a,C,Q=>∃ys,C a=some (.lst ys)/\Yk x/\Yr ys U5=true/\Q (.bl (if neg then !inL x ys else inL x ys)) C
 | _,_,_,_=>False
abbrev gG:W2:=rX false
abbrev xI:W2:=rX true
def Fb {α:Type}(xs:List α)(lo hi:Option Int):List α:=(xs.drop (HT.sIx xs.length 0 lo)).take (HT.sIx xs.length xs.length hi-HT.sIx xs.length 0 lo)
def Dy:W2
 | .tup xs,.int i,C,Q=>∃v,Pe xs i=some v/\Q v C
 | .cl xs,.int i,C,Q=>∃v,Pe xs i=some v/\Q v C
 | .str z,.int i,C,Q=>z.length<=sizeLine/\∃c,Pe z.cps.toList i=some c/\Q (.str ⟨#[c]⟩) C
 | .ref a,.int i,C,Q=>∃xs v,C a=some (.lst xs)/\Pe xs i=some v/\Q v C
 | _,_,_,_=>False
def gO:Sw->Hw->(Option Int->Hw->Prop)->WX->Prop:=λ_ C Q _=>Q none C
def r6 (a:WE):Sw->Hw->(Option Int->Hw->Prop)->WX->Prop:=λτ C Q χ=>a τ C (λx C1=>∃i,x=.int i/\Q (some i) C1) χ
def kQ:T->Option Int->Option Int->Hw->WK->Prop
 | .tup xs,lo,hi,C,Q=>¬(HT.sIx xs.length 0 lo=0/\HT.sIx xs.length xs.length hi=xs.length)/\Q (.tup (Fb xs lo hi)) C
 | .cl xs,lo,hi,C,Q=>∀p,C p=none->Q (.ref p) (up C p (.lst (Fb xs lo hi)))
 | .str z,lo,hi,C,Q=>z.length<=sizeLine/\Q (.str (Txt.slice z lo hi)) C
 | .ref a,lo,hi,C,Q=>∃xs,C a=some (.lst xs)/\∀p,C p=none->Q (.ref p) (up C p (.lst (Fb xs lo hi)))
 | _,_,_,_,_=>False
def gZ (a:WE)(lo hi:Sw->Hw->(Option Int->Hw->Prop)->WX->Prop):WE:=λτ C Q χ=>a τ C (λx C1=>lo τ C1 (λl C2=>hi τ C2 (λh C3=>kQ x l h C3 Q) χ) χ) χ
def kj:List T->Hw->WK->Prop:=λvs C Q=>∃x,vs=[x]/\match x with
 | .str z=>z.length<=sizeLine/\Q (.int z.length) C
 | .tup xs=>Q (.int xs.length) C
 | .cl xs=>Q (.int xs.length) C
 | .ref a=>∃xs,C a=some (.lst xs)/\Q (.int xs.length) C
 | _=>False
def kh:List T->Hw->WK->Prop:=λvs C Q=>∃i j,vs=[.int i,.int j]/\Q (.int (if j>i then j else i)) C
def gg:List T->Hw->WK->Prop:=λvs C Q=>∃i j,vs=[.int i,.int j]/\Q (.int (if j<i then j else i)) C
def vQ:List T->Hw->WK->Prop:=λvs C Q=>∃x,vs=[x]/\match x with
 | .tup xs=>Q (.tup xs) C
 | .cl xs=>Q (.tup xs) C
 | .ref a=>∃xs,C a=some (.lst xs)/\Q (.tup xs) C
 | _=>False
def ki:List T->Hw->WK->Prop:=λvs C Q=>∃x,vs=[x]/\match x with
 | .tup xs=>∀p,C p=none->Q (.ref p) (up C p (.lst xs))
 | .cl xs=>∀p,C p=none->Q (.ref p) (up C p (.lst xs))
 | .ref a=>∃xs,C a=some (.lst xs)/\∀p,C p=none->Q (.ref p) (up C p (.lst xs))
 | _=>False
def nK:T->Hw->String->Prop
 | .non,_,n=>n="NoneType"
 | .bl _,_,n=>n="bool"
 | .int _,_,n=>n="int"
 | .str _,_,n=>n="str"
 | .tup _,_,n=>n="tuple"
 | .cl _,_,n=>n="list"
 | .ref a,C,n=>(n="list"/\∃xs,C a=some (.lst xs))\/(n="dict"/\∃kvs,C a=some (.dic kvs))
def yG (n c:String):Bool:=n==c||(n=="bool"&&c=="int")
def lR (a:WE)(c:String):WE:=λτ C Q χ=>a τ C (λx C1=>∃n,nK x C1 n/\Q (.bl (yG n c)) C1) χ
def nL:T->Hw->Prop:=λx C=>∃a xs,x=.ref a/\C a=some (.lst xs)
def fz:T->Hw->Prop:=λx _=>∃z,x=.str z
def y8:T->List T->Hw->WK->Prop:=λx vs C Q=>∃a xs y,x=.ref a/\vs=[y]/\C a=some (.lst xs)/\xs.length<sizeLine/\Q .non (up C a (.lst (xs++[y])))
def lE:T->List T->Hw->WK->Prop:=λx vs C Q=>∃a xs y,x=.ref a/\vs=[]/\C a=some (.lst xs)/\xs[xs.length-1]?=some y/\Q y (up C a (.lst xs.dropLast))
def pA:T->List T->Hw->WK->Prop:=λx vs C Q=>∃a xs i k y,x=.ref a/\vs=[.int i]/\C a=some (.lst xs)/\ -(2^63)<=i/\i<2^63/\seqIndex? i xs.length=some k/\xs[k]?=some y/\Q y (up C a (.lst (xs.eraseIdx k)))
def Aa (i:Nat):WG:=λv τ C Q _=>Q (τ.set i (some v)) C
def Bx:vY:=λvs τ C Q _=>vs=[]/\Q τ C
def M4 (g:WG)(gs:vY):vY:=λvs τ C Q χ=>∃v r,vs=v::r/\g v τ C (λτ' C'=>gs r τ' C' Q χ) χ
def kF (gs:vY):WG:=λv τ C Q χ=>∃xs,v=.tup xs/\gs xs τ C Q χ
def gX (o i:WE):WG:=λv τ C Q χ=>o τ C (λx C1=>i τ C1 (λy C2=>∃a xs k j,x=.ref a/\y=.int k/\C2 a=some (.lst xs)/\vb xs.length k=some j/\Q τ (up C2 a (.lst (xs.set j v)))) χ) χ
def Rc:WS:=λD τ C=>D.nx τ C
def Ti (a b:WS):WS:=λD τ C=>a {D with nx:=b D} τ C
def Cw (e:WE):WS:=λD τ C=>e τ C (λ_ C1=>D.nx τ C1) D.xc
def Eh (e:WE):WS:=λD τ C=>e τ C D.rt D.xc
def mJ:WS:=λD _ C=>D.rt .non C
def uk (c:WT)(a b:WS):WS:=λD τ C=>c τ C (λk C1=>if k=true then a D τ C1 else b D τ C1) D.xc
def Mx (e:WE)(g:WG):WS:=λD τ C=>e τ C (λx C1=>g x τ C1 D.nx D.xc) D.xc
def i0:WS:=λD τ C=>D.bk τ C
def rh:WS:=λD τ C=>D.ct τ C
def ze:WS:=λ_ _ _=>False
def Ac (g:WG)(b:WS)(ok:Hw->Prop)(D:We):List T->Sw->Hw->Prop
 | [],τ,C=>ok C/\D.nx τ C
 | x::xs,τ,C=>ok C/\g x τ C (λτ2 C2=>b {D with nx:=Ac g b ok D xs,ct:=Ac g b ok D xs,bk:=D.nx} τ2 C2) D.xc
def uF (i:WI)(g:WG)(b:WS):WS:=λD τ C=>i τ C (λxs ok C1=>Ac g b ok D xs τ C1) D.xc
def pU (e:WE):WI:=λτ C R χ=>e τ C (λv C1=>match v with
 | .tup xs=>R xs (λ_=>True) C1
 | .cl xs=>R xs (λ_=>True) C1
 | .str z=>R (z.cps.toList.map λc=>T.str ⟨#[c]⟩) (λ_=>True) C1
 | .ref a=>∃xs,C1 a=some (.lst xs)/\R xs (λC2=>C2 a=some (.lst xs)) C1
 | _=>False) χ
def rng (lo:Int)(n:Nat):List T:=(List.range n).map λk:Nat=>T.int (lo+k)
def gW (a:WA):WI:=λτ C R χ=>a τ C (λvs C1=>∃j:Int,vs=[.int j]/\ -(2^62)<=j/\j<2^62/\R (rng 0 j.toNat) (λ_=>True) C1) χ
def fY (a:WA):WI:=λτ C R χ=>a τ C (λvs C1=>∃i j:Int,vs=[.int i,.int j]/\(-(2^62)<=i/\i<2^62/\ -(2^62)<=j/\j<2^62)/\R (rng i (j-i).toNat) (λ_=>True) C1) χ
def fZ (a:WA):WI:=λτ C R χ=>a τ C (λvs C1=>∃z,vs=[.str z]/\R (z.cps.toList.zipIdx.map λc=>T.tup [.int c.2,.str ⟨#[c.1]⟩]) (λ_=>True) C1) χ
def Dg (cap:List (Option Nat))(τ:Sw):Sw:=cap.map λo=>o.bind λi=>(τ[i]?).join
def qd:WT:=λ_ C Q _=>Q true C
def Me (g:WG)(c:WT)(e:WE)(ok:Hw->Prop)(τ:Sw)(Q:List T->Hw->Prop)(χ:WX):List T->List T->Hw->Prop
 | [],acc,C=>ok C/\Q acc C
 | x::xs,acc,C=>ok C/\g x τ C (λτ2 C2=>c τ2 C2 (λb C3=>if b=true then e τ2 C3 (λv C4=>acc.length<sizeLine/\Me g c e ok τ Q χ xs (acc++[v]) C4) χ else Me g c e ok τ Q χ xs acc C3) χ) χ
def yO (cap:List (Option Nat))(i:WI)(g:WG)(c:WT)(e:WE):WE:=λτ C Q χ=>i τ C (λxs ok C1=>Me g c e ok (Dg cap τ) (λvs C2=>∀p,C2 p=none->Q (.ref p) (up C2 p (.lst vs))) χ xs [] C1) χ
structure Df where
 n:Nat
 ar:Nat
 body:Calls->WS
def Ya (pr:List Df):Nat->Calls
 | 0=>λ_ _ _ _ _=>False
 | n+1=>λi vs C Q χ=>∃d,pr[i]?=some d/\vs.length=d.ar/\d.body (Ya pr n) {nx:=λ_ C'=>Q .non C',rt:=Q,xc:=χ} (vs.map some++List.replicate (d.n-d.ar) none) C
section
variable {X:Cx}{pins:List (Addr×Obj)}{σ:L2.St}{H:Hp}{s:Shared}
def sc:T->Option V
 | .non=>some .non
 | .bl b=>some (.bl b)
 | .int i=>some (.int i)
 | .str z=>some (.str z)
 | _=>none
def Wh {K:W.Frag}{H:Hp}{x z:V}{v:T}(h:sc v=some z)(r:Jh K H x v):x=z/\Ae z=true:=by
 cases v with
 | non=>cases h;exact⟨Op r,rfl⟩
 | bl b=>cases h;exact⟨Pq r,rfl⟩
 | int i=>cases h;exact⟨Yi r,rfl⟩
 | str z=>cases h;exact⟨J7 r,rfl⟩
 | _=>cases h
def v9 {v w:T}{a b:V}(h:sc v=some a)(h':sc w=some b):eqT v w=og a b:=by
 cases v<;>cases w<;>cases h<;>cases h'<;>unfold eqT<;>rfl
mutual
def N7:∀(v:T) {n:Nat},Y5 v n=true->eqT v v=true
 | .non,_,_=>by unfold eqT;rfl
 | .bl b,_,_=>by unfold eqT;simp
 | .int b,_,_=>by unfold eqT;simp
 | .str b,_,_=>by unfold eqT;simp
 | .tup xs,0,h=>by unfold Y5 at h;cases h
 | .tup xs,n+1,h=>by unfold Y5 at h;unfold eqT;exact G3 xs h
 | .ref a,_,h=>by unfold Y5 at h;cases h
 | .cl a,_,h=>by unfold Y5 at h;cases h
def G3:∀(v:List T) {n:Nat},Yr v n=true->X4 v v=true
 | [],_,_=>by unfold X4;rfl
 | x::xs,n,h=>by
  unfold Yr at h
  rw[Bool.and_eq_true] at h
  unfold X4
  rw[N7 x h.1,G3 xs h.2];rfl
end
def Xa {v:T}{n:Nat}(h:Y5 v n=true)(e:sc v=none):∃ts m,v=.tup ts/\n=m+1/\Yr ts m=true:=by
 cases v with
 | tup ts=>
  cases n with
  | zero=>unfold Y5 at h;cases h
  | succ m=>unfold Y5 at h;exact⟨ts,m,rfl,rfl,h⟩
 | ref a=>unfold Y5 at h;cases h
 | cl a=>unfold Y5 at h;cases h
 | non=>cases e
 | bl b=>cases e
 | int b=>cases e
 | str b=>cases e
def Xs:∀{vs:List T} {n i:Nat} {v:T},Yr vs n=true->vs[i]?=some v->Y5 v n=true
 | [],_,_,_,_,e=>by simp at e
 | x::xs,n,0,v,h,e=>by
  unfold Yr at h
  rw[Bool.and_eq_true] at h
  simp at e;subst e;exact h.1
 | x::xs,n,i+1,v,h,e=>by
  unfold Yr at h
  rw[Bool.and_eq_true] at h
  exact Xs h.2 (by simpa using e)
def yr (I:Zs X pins σ H s):∀(n:Nat) {v w:T} {x:V},Y5 v n=true->Y5 w n=true->Jh X.K H x v->Jh X.K H x w->v=w:=by
 intro n
 induction n with
 | zero=>
  intro v w x fv fw rv rw'
  cases ev:sc v with
  | none=>obtain⟨_,_,_,h,_⟩:=Xa fv ev;cases h
  | some a=>
   cases ew:sc w with
   | none=>obtain⟨_,_,_,h,_⟩:=Xa fw ew;cases h
   | some b=>
    obtain⟨e1,_⟩:=Wh ev rv
    obtain⟨e2,_⟩:=Wh ew rw'
    have e:a=b:=e1.symm.trans e2
    subst e
    cases v<;>cases ev<;>cases w<;>cases ew<;>rfl
 | succ n ih=>
  intro v w x fv fw rv rw'
  have lists:∀{ys:List V} {vs ws:List T},Yr vs n=true->Yr ws n=true->Reps X.K H ys vs->Reps X.K H ys ws->vs=ws:=by
   intro ys vs
   induction vs generalizing ys with
   | nil=>
    intro ws _ _ a b
    have:=J8 a
    subst this
    cases ws with
    | nil=>rfl
    | cons w ws=>obtain⟨_,_,e,_⟩:=Yn b;cases e
   | cons v vs ihv=>
    intro ws fa fb a b
    obtain⟨y,r,rfl,a1,a2⟩:=Yn a
    cases ws with
    | nil=>have:=J8 b;cases this
    | cons w ws=>
     obtain⟨y',r',e,b1,b2⟩:=Yn b
     cases e
     unfold Yr at fa fb
     rw[Bool.and_eq_true] at fa fb
     rw[ih fa.1 fb.1 a1 b1,ihv fa.2 fb.2 a2 b2]
  cases ev:sc v with
  | none=>
   obtain⟨ts,m,rfl,em,ft⟩:=Xa fv ev
   cases em
   obtain⟨a,ys,rfl,hq,r⟩:=Yp rv
   cases ew:sc w with
   | none=>
    obtain⟨us,m',rfl,em,fu⟩:=Xa fw ew
    cases em
    obtain⟨b,zs,e,hq',r'⟩:=Yp rw'
    cases e
    have e:=I.tuple_inj hq hq'
    subst e
    rw[lists ft fu r r']
   | some b=>
    obtain⟨e2,f⟩:=Wh ew rw'
    subst e2
    cases f
  | some a=>
   obtain⟨e1,f⟩:=Wh ev rv
   cases ew:sc w with
   | none=>
    obtain⟨us,m',rfl,em,fu⟩:=Xa fw ew
    obtain⟨b,zs,e,hq',r'⟩:=Yp rw'
    subst e1
    subst e
    cases f
   | some b=>
    obtain⟨e2,_⟩:=Wh ew rw'
    have e:a=b:=e1.symm.trans e2
    subst e
    cases v<;>cases ev<;>cases w<;>cases ew<;>rfl
def um (ts us:List T)(j:Nat):Bool:=match ts[j]?,us[j]? with
 | some a,some b=>eqT a b
 | _,_=>true
def Ub:∀(vs ws:List T),((List.range (min vs.length ws.length)).all (um vs ws)&&vs.length==ws.length)=X4 vs ws
 | [],[]=>by unfold X4;rfl
 | [],_::_=>by unfold X4;simp
 | _::_,[]=>by unfold X4;simp
 | v::vs,w::ws=>by
  unfold X4
  rw[<-Ub vs ws]
  rw[YF,YF,show min (vs.length+1) (ws.length+1)=min vs.length ws.length+1 by omega,List.range_succ_eq_map,List.all_cons,List.all_map]
  have e1:um (v::vs) (w::ws) 0=eqT v w:=rfl
  have e2:(um (v::vs) (w::ws)∘Nat.succ)=um vs ws:=by funext j;simp[Function.comp_def,um]
  rw[e1,e2]
  simp[Bool.and_assoc]
def rD (I:Zs X pins σ H s):∀(n:Nat) {v w:T} {x y:V} {u u':Value} {A:Around},Y5 v n=true->Y5 w n=true->Jh X.K H x v->Jh X.K H y w->Z8 x u->Z8 y u'->A.units+n<cLine->
  SeqAt.EqAt A s u u' (eqT v w):=by
 intro n
 induction n with
 | zero=>
  intro v w x y u u' A fv fw rv rw' ru ru' hu
  cases ev:sc v with
  | none=>obtain⟨_,_,_,h,_⟩:=Xa fv ev;cases h
  | some a=>
   cases ew:sc w with
   | none=>obtain⟨_,_,_,h,_⟩:=Xa fw ew;cases h
   | some b=>
    obtain⟨rfl,f1⟩:=Wh ev rv
    obtain⟨rfl,f2⟩:=Wh ew rw'
    rw[v9 ev ew]
    exact vB ru ru' f1 f2
 | succ n ih=>
  intro v w x y u u' A fv fw rv rw' ru ru' hu
  have hu0:A.units<cLine:=by omega
  cases ev:sc v with
  | some a=>
   obtain⟨rfl,f1⟩:=Wh ev rv
   cases ew:sc w with
   | some b=>
    obtain⟨rfl,f2⟩:=Wh ew rw'
    rw[v9 ev ew]
    exact vB ru ru' f1 f2
   | none=>
    obtain⟨ts,m,rfl,em,ft⟩:=Xa fw ew
    obtain⟨b,zs,rfl,hq,r⟩:=Yp rw'
    cases ru'
    obtain⟨its,_,p,_⟩:=I.tuple hq
    cases v with
    | non=>cases ev;cases ru;unfold eqT;exact SeqAt.EqAt.none_tuple p hu0
    | bl c=>cases ev;cases ru;unfold eqT;exact SeqAt.EqAt.bool_tuple c p hu0
    | int i=>cases ev;obtain⟨t,rfl⟩:=ru;unfold eqT;exact SeqAt.EqAt.int_tuple i t p hu0
    | str i=>cases ev;obtain⟨t,rfl⟩:=ru;unfold eqT;exact SeqAt.EqAt.str_tuple i t p hu0
    | _=>cases ev
  | none=>
   obtain⟨ts,m,rfl,em,ft⟩:=Xa fv ev
   cases em
   obtain⟨a,ys,rfl,hq,r⟩:=Yp rv
   cases ru
   obtain⟨its,rI,p,_⟩:=I.tuple hq
   cases ew:sc w with
   | some b=>
    obtain⟨rfl,f2⟩:=Wh ew rw'
    cases w with
    | non=>cases ew;cases ru';unfold eqT;exact SeqAt.EqAt.tuple_none p hu0
    | bl c=>cases ew;cases ru';unfold eqT;exact SeqAt.EqAt.tuple_bool c p hu0
    | int i=>cases ew;obtain⟨t,rfl⟩:=ru';unfold eqT;exact SeqAt.EqAt.tuple_int i t p hu0
    | str i=>cases ew;obtain⟨t,rfl⟩:=ru';unfold eqT;exact SeqAt.EqAt.tuple_str i t p hu0
    | _=>cases ew
   | none=>
    obtain⟨us,m',rfl,em,fu⟩:=Xa fw ew
    cases em
    obtain⟨b,zs,rfl,hq',r'⟩:=Yp rw'
    cases ru'
    obtain⟨its',rI',p',_⟩:=I.tuple hq'
    by_cases hne:a=b
    ·subst hne
     have e:=yr I (n+1) fv fw (Jv hq r) (Jv hq' r')
     rw[e,N7 _ fw]
     exact SeqAt.EqAt.same _
    ·have l1:its.toArray.size=ts.length:=by rw[XJ,<-rI.length,r.length]
     have l2:its'.toArray.size=us.length:=by rw[XJ,<-rI'.length,r'.length]
     have key:=SeqAt.EqAt.of_refs hne (SeqAt.RcAt.tuples (A:=A) (e:=um ts us) p p' hu0 (λj h1 h2=>by
      have i1:ts[j]?=some (ts[j]'(by omega)):=by simp[l1▸h1]
      have i2:us[j]?=some (us[j]'(by omega)):=by simp[l2▸h2]
      obtain⟨x1,g1,q1⟩:=r.get i1
      obtain⟨x2,g2,q2⟩:=r'.get i2
      obtain⟨u1,k1,z1⟩:=rI.get g1
      obtain⟨u2,k2,z2⟩:=rI'.get g2
      have e1:its.toArray[j]=u1:=by
       have:its[j]?=some its.toArray[j]:=by simp
       rw[k1] at this;exact(YH this).symm
      have e2:its'.toArray[j]=u2:=by
       have:its'[j]?=some its'.toArray[j]:=by simp
       rw[k2] at this;exact(YH this).symm
      rw[e1,e2]
      unfold um
      simp only[i1,i2]
      exact ih (Xs ft i1) (Xs fu i2) q1 q2 z1 z2 (by show A.units+1+n<cLine;omega)))
     rw[l1,l2,Ub] at key
     unfold eqT
     exact key
end
def Xb (K:W.Frag)(H:Hp)(σ:L2.St)(τ:Sw):Prop:=σ.length=τ.length/\∀(i:Nat) (v:T),τ[i]?=some (some v)->∃x,σ[i]?=some (some x)/\Jh K H x v
def Xb.tx {K:W.Frag}{H H':Hp}{σ:L2.St}{τ:Sw}(h:Xb K H σ τ)(t:Tx H H'):Xb K H' σ τ:=⟨h.1,λi v e=>let ⟨x,a,b⟩:=h.2 i v e;⟨x,a,b.tx t⟩⟩
def Xb.set {K:W.Frag}{H:Hp}{σ:L2.St}{τ:Sw}(h:Xb K H σ τ){i:Nat}{x:V}{v:T}(r:Jh K H x v):Xb K H (σ.set i (some x)) (τ.set i (some v)):=by
 refine⟨by rw[List.length_set,List.length_set];exact h.1,λj w e=>?_⟩
 by_cases hj:i=j
 ·subst hj
  by_cases hi:i<τ.length
  ·rw[List.getElem?_set_self hi] at e
   cases e
   exact⟨x,List.getElem?_set_self (by rw[h.1];exact hi),r⟩
  ·rw[List.getElem?_eq_none (by rw[List.length_set];omega)] at e
   cases e
 ·rw[List.getElem?_set_ne hj] at e |-
  exact h.2 j w e
abbrev QE (K:W.Frag)(F H:Hp)(Q:VK)(Q':WK):Prop:=∀x v H' C',Rl K F H' C'->Tx H H'->Jh K H' x v->Q' v C'->Q x H'
abbrev QT (K:W.Frag)(F H:Hp)(Q:Bool->Hp->Prop)(Q':Bool->Hw->Prop):Prop:=∀b H' C',Rl K F H' C'->Tx H H'->Q' b C'->Q b H'
abbrev QA (K:W.Frag)(F H:Hp)(Q:List V->Hp->Prop)(Q':List T->Hw->Prop):Prop:=∀xs vs H' C',Rl K F H' C'->Tx H H'->Reps K H' xs vs->Q' vs C'->Q xs H'
def QE.at {K:W.Frag}{F H H1:Hp}{Q:VK}{Q':WK}(q:QE K F H Q Q')(t:Tx H H1):QE K F H1 Q Q':=λx v H' C' R t'=>q x v H' C' R (t.trans t')
def Ts (K:W.Frag)(te:TE)(we:WE):Prop:=∀(F H:Hp) (C:Hw) (σ:L2.St) (τ:Sw) (Q:VK) (Q':WK) (χ:WX),Rl K F H C->Xb K H σ τ->we τ C Q' χ->QE K F H Q Q'->te σ H Q
def O6 (K:W.Frag)(te:TT)(we:WT):Prop:=∀(F H:Hp) (C:Hw) (σ:L2.St) (τ:Sw) (Q:Bool->Hp->Prop) (Q':Bool->Hw->Prop) (χ:WX),Rl K F H C->Xb K H σ τ->we τ C Q' χ->QT K F H Q Q'->te σ H Q
def zW (K:W.Frag)(te:TA)(we:WA):Prop:=∀(F H:Hp) (C:Hw) (σ:L2.St) (τ:Sw) (Q:List V->Hp->Prop) (Q':List T->Hw->Prop) (χ:WX),Rl K F H C->Xb K H σ τ->we τ C Q' χ->QA K F H Q Q'->te σ H Q
def oX (K:W.Frag)(r:R2)(w:W2):Prop:=∀(F H:Hp) (C:Hw) (x y:V) (v u:T) (Q:VK) (Q':WK),Rl K F H C->Jh K H x v->Jh K H y u->w v u C Q'->QE K F H Q Q'->r x y H Q
def kt (K:W.Frag)(r:List V->Hp->VK->Prop)(w:List T->Hw->WK->Prop):Prop:=∀(F H:Hp) (C:Hw) (xs:List V) (vs:List T) (Q:VK) (Q':WK),Rl K F H C->Reps K H xs vs->w vs C Q'->QE K F H Q Q'->r xs H Q
def gt (K:W.Frag)(r:V->List V->Hp->VK->Prop)(w:T->List T->Hw->WK->Prop):Prop:=∀(F H:Hp) (C:Hw) (x:V) (v:T) (xs:List V) (vs:List T) (Q:VK) (Q':WK),Rl K F H C->Jh K H x v->Reps K H xs vs->w v vs C Q'->QE K F H Q Q'->r x xs H Q
def Ji (X:Cx)(e:Expr)(w:WE):Prop:=∃t,PE X e t/\Ts X.K t w
def jZ (X:Cx)(e:Expr)(w:WT):Prop:=∃t,PT X e t/\O6 X.K t w
def oZ (X:Cx)(e:Expr)(w:WT):Prop:=∃t,PW X e t/\O6 X.K t w
def zX (X:Cx)(es:List Expr)(w:WA):Prop:=∃t,PA X es t/\zW X.K t w
def Ge (X:Cx)(f:Value->Value->Sem Value)(w:W2):Prop:=∃r,Ll X f r/\oX X.K r w
def eR (X:Cx)(w:W2):Prop:=∃r,ur X r/\oX X.K r w
def Od (X:Cx)(f:Value)(w:List T->Hw->WK->Prop):Prop:=∃r,Vc X f r/\kt X.K r w
def kz (X:Cx)(id:String)(w:T->List T->Hw->WK->Prop):Prop:=∃r,kK X id r/\gt X.K r w
section
variable {K:W.Frag}{ta tb tc:TE}{wa wb wc:WE}{r r':R2}{w w':W2}
def mv {i:Nat}:Ts K (nO i) (Yj i):=λF H C σ τ Q Q' χ R S h q=>by
 obtain⟨v,e,h⟩:=h
 obtain⟨x,ex,rx⟩:=S.2 i v e
 exact⟨x,ex,q x v H C R (Tx.refl H) rx h⟩
def kB {x:V}{v:T}(h:∀H,Jh K H x v):Ts K (tC x) (eC v):=λF H C σ τ Q Q' χ R S w q=>q x v H C R (Tx.refl H) (h H) w
def uE (ha:Ts K ta wa)(hb:Ts K tb wb)(hr:oX K r w):Ts K (nR r ta tb) (Jf w wa wb):=λF H C σ τ Q Q' χ R S h q=>by
 refine ha F H C σ τ _ _ χ R S h λx v H1 C1 R1 t1 rx h1=>?_
 refine hb F H1 C1 σ τ _ _ χ R1 (S.tx t1) h1 λy u H2 C2 R2 t2 ry h2=>?_
 exact hr F H2 C2 x y v u Q Q' R2 (rx.tx t2) ry h2 (QE.at q (t1.trans t2))
def mB:zW K xQ Zq:=λF H C σ τ Q Q' χ R S h q=>q [] [] H C R (Tx.refl H) Yv h
def qm {t:TA}{wt:WA}(ha:Ts K ta wa)(hb:zW K t wt):zW K (xS ta t) (Zr wa wt):=λF H C σ τ Q Q' χ R S h q=>by
 refine ha F H C σ τ _ _ χ R S h λx v H1 C1 R1 t1 rx h1=>?_
 exact hb F H1 C1 σ τ _ _ χ R1 (S.tx t1) h1 λxs vs H2 C2 R2 t2 rs h2=>q (x::xs) (v::vs) H2 C2 R2 (t1.trans t2) (Yh (rx.tx t2) rs) h2
def my {t:TA}{wt:WA}(ha:zW K t wt):Ts K (nP t) (N8 wt):=λF H C σ τ Q Q' χ R S h q=>by
 refine ha F H C σ τ _ _ χ R S h λxs vs H1 C1 R1 t1 rs h1=>⟨by rw[rs.length];exact h1.1,λp hp=>?_⟩
 exact q _ _ _ C1 (R1.hid hp) (t1.trans (Tx.new hp)) (Jv (Uu.of Z3) (rs.tx (Tx.new hp))) h1.2
def mC {t:TA}{wt:WA}(ha:zW K t wt):Ts K (nY t) (Ag wt):=λF H C σ τ Q Q' χ R S h q=>by
 refine ha F H C σ τ _ _ χ R S h λxs vs H1 C1 R1 t1 rs h1=>⟨by rw[rs.length];exact h1.1,λp hp=>?_⟩
 exact q _ _ _ _ (R1.newL hp rs) (t1.trans (Tx.new hp)) Jb (h1.2 p (R1.free hp))
def mH {r:List V->Hp->VK->Prop}{w:List T->Hw->WK->Prop}{t:TA}{wt:WA}(hr:kt K r w)(ha:zW K t wt):Ts K (ip r t) (kG w wt):=λF H C σ τ Q Q' χ R S h q=>by
 refine ha F H C σ τ _ _ χ R S h λxs vs H1 C1 R1 t1 rs h1=>?_
 exact hr F H1 C1 xs vs Q Q' R1 rs h1 (QE.at q t1)
def iw {tt:TT}{wt:WT}(hc:O6 K tt wt)(ha:Ts K ta wa)(hb:Ts K tb wb):Ts K (gJ tt ta tb) (h9 wt wa wb):=λF H C σ τ Q Q' χ R S h q=>by
 refine hc F H C σ τ _ _ χ R S h λk H1 C1 R1 t1 h1=>?_
 cases k with
 | true=>exact ha F H1 C1 σ τ Q Q' χ R1 (S.tx t1) h1 (QE.at q t1)
 | false=>exact hb F H1 C1 σ τ Q Q' χ R1 (S.tx t1) h1 (QE.at q t1)
def mI (ha:Ts K ta wa)(hb:Ts K tb wb):Ts K (sZ ta tb) (ou wa wb):=λF H C σ τ Q Q' χ R S h q=>by
 refine ha F H C σ τ _ _ χ R S h λx v H1 C1 R1 t1 rx h1=>?_
 obtain⟨k,rfl,h1⟩:=h1
 refine⟨k,Pq rx,?_⟩
 cases k with
 | true=>exact hb F H1 C1 σ τ Q Q' χ R1 (S.tx t1) h1 (QE.at q t1)
 | false=>exact q _ _ H1 C1 R1 t1 Jw h1
def ix (ha:Ts K ta wa):O6 K (sX ta) (xu wa):=λF H C σ τ Q Q' χ R S h q=>by
 refine ha F H C σ τ _ _ χ R S h λx v H1 C1 R1 t1 rx h1=>?_
 obtain⟨k,rfl,h1⟩:=h1
 exact⟨k,Pq rx,q k H1 C1 R1 t1 h1⟩
def mz (ha:Ts K ta wa):O6 K (λσ H Q=>ta σ H λx H'=>∃k,oW K x H' k/\Q k H') (qe wa):=λF H C σ τ Q Q' χ R S h q=>by
 refine ha F H C σ τ _ _ χ R S h λx v H1 C1 R1 t1 rx h1=>?_
 obtain⟨k,hk,h1⟩:=h1
 refine⟨k,?_,q k H1 C1 R1 t1 h1⟩
 have emp:∀{ys:List V} {xs:List T},Reps K H1 ys xs->ys.isEmpty=xs.isEmpty:=λ{ys xs} r=>by
  have:=r.length
  cases ys<;>cases xs<;>simp_all
 cases v with
 | non=>cases Op rx;exact hk
 | bl b=>cases Pq rx;exact hk
 | int i=>cases Yi rx;exact hk
 | str z=>cases J7 rx;exact hk
 | tup xs=>
  obtain⟨a,ys,rfl,hq,r⟩:=Yp rx
  refine .inr (.inl ⟨ys,hq,?_⟩)
  rw[emp r];exact hk
 | cl xs=>
  obtain⟨a,ys,rfl,hq,r⟩:=Nv rx
  refine .inl ⟨ys,hq.sq,?_⟩
  rw[emp r];exact hk
 | ref a=>
  cases Z6 rx
  rcases hk with⟨xs,hx,e⟩ | ⟨kvs,hx,e⟩
  ·obtain⟨ys,hy,r⟩:=R1.lst hx
   refine .inl ⟨ys,Xv.of hy,?_⟩
   rw[emp r];exact e
  ·obtain⟨ks,hy,r⟩:=R1.obj a _ hx
   refine .inr (.inr ⟨ks,hy,?_⟩)
   have:=Paired.length r
   rw[e]
   cases ks<;>cases kvs<;>simp_all
def iy {t u:TT}{w w':WT}(ha:O6 K t w)(hb:O6 K u w'):O6 K (mr t u) (ir w w'):=λF H C σ τ Q Q' χ R S h q=>by
 refine ha F H C σ τ _ _ χ R S h λk H1 C1 R1 t1 h1=>?_
 cases k with
 | true=>exact hb F H1 C1 σ τ Q Q' χ R1 (S.tx t1) h1 λb H' C' R' t'=>q b H' C' R' (t1.trans t')
 | false=>exact q _ H1 C1 R1 t1 h1
def m7 {t u:TT}{w w':WT}(ha:O6 K t w)(hb:O6 K u w'):O6 K (gH t u) (jn w w'):=λF H C σ τ Q Q' χ R S h q=>by
 refine ha F H C σ τ _ _ χ R S h λk H1 C1 R1 t1 h1=>?_
 cases k with
 | true=>exact q _ H1 C1 R1 t1 h1
 | false=>exact hb F H1 C1 σ τ Q Q' χ R1 (S.tx t1) h1 λb H' C' R' t'=>q b H' C' R' (t1.trans t')
def iu {t:TT}{w:WT}(ha:O6 K t w):O6 K (nU t) (ia w):=λF H C σ τ Q Q' χ R S h q=>by
 refine ha F H C σ τ _ _ χ R S h λk H1 C1 R1 t1 h1=>?_
 exact q _ H1 C1 R1 t1 h1
end
section
variable {X:Cx}
def Jo:Ge X (binaryOp .Add) Fo:=⟨_,qZ.or (zr.or (qY.or (wL.or t0))),λF H C x y v u Q Q' R rx ry h q=>by
 cases v<;>cases u<;>first | exact False.elim h | skip
 case int.int i j=>cases Yi rx;cases Yi ry;exact .inl ⟨i,j,rfl,rfl,q _ _ H C R (Tx.refl H) Y7 h⟩
 case str.str i j=>cases J7 rx;cases J7 ry;exact .inr (.inl ⟨i,j,rfl,rfl,h.1,q _ _ H C R (Tx.refl H) Sa h.2⟩)
 case ref.ref a b=>
  cases Z6 rx;cases Z6 ry
  obtain⟨xs,ys,ha,hb,hl,h⟩:=h
  obtain⟨zs,hz,rz⟩:=R.lst ha
  obtain⟨ws,hw,rw'⟩:=R.lst hb
  exact .inr (.inr (.inl ⟨a,b,zs,ws,rfl,rfl,hz,hw,by rw[rz.length,rw'.length];exact hl,λp hp=>q _ _ _ _ (R.newL hp (rz.app rw')) (Tx.new hp) Jb (h p (R.free hp))⟩))
 case tup.tup xs ys=>
  obtain⟨a,zs,rfl,hz,rz⟩:=Yp rx
  obtain⟨b,ws,rfl,hw,rw'⟩:=Yp ry
  by_cases e:zs=[]
  ·subst e
   have e2:xs=[]:=by
    have:=rz.length
    cases xs with
    | nil=>rfl
    | cons _ _=>cases this
   subst e2
   exact .inr (.inr (.inr (.inl ⟨a,b,ws,rfl,rfl,hz,hw,q _ _ H C R (Tx.refl H) (Jv hw rw') h.2⟩)))
  ·refine .inr (.inr (.inr (.inr ⟨a,b,zs,ws,rfl,rfl,hz,hw,e,by rw[rz.length,rw'.length];exact h.1,λe2=>?_,λe2 p hp=>?_⟩)))
   ·subst e2
    have e3:ys=[]:=by
     have:=rw'.length
     cases ys with
     | nil=>rfl
     | cons _ _=>cases this
    subst e3
    refine q _ _ H C R (Tx.refl H) (Jv hz rz) ?_
    have:=h.2
    rw[YK] at this
    exact this
   ·exact q _ _ _ C (R.hid hp) (Tx.new hp) (Jv (Uu.of Z3) ((rz.app rw').tx (Tx.new hp))) h.2⟩
def Tk:Ge X (binaryOp .Sub) Oh:=⟨_,qT,λF H C x y v u Q Q' R rx ry h q=>by
 cases v<;>cases u<;>first | exact False.elim h | skip
 case int.int i j=>cases Yi rx;cases Yi ry;exact⟨i,j,rfl,rfl,q _ _ H C R (Tx.refl H) Y7 h⟩⟩
def Gu:Ge X (binaryOp .Mult) A0:=⟨_,qV,λF H C x y v u Q Q' R rx ry h q=>by
 cases v<;>cases u<;>first | exact False.elim h | skip
 case int.int i j=>cases Yi rx;cases Yi ry;exact⟨i,j,rfl,rfl,h.1,q _ _ H C R (Tx.refl H) Y7 h.2⟩⟩
def Nw:Ge X (binaryOp .Mod) Dx:=⟨_,qW,λF H C x y v u Q Q' R rx ry h q=>by
 cases v<;>cases u<;>first | exact False.elim h | skip
 case int.int i j=>cases Yi rx;cases Yi ry;exact⟨i,j,rfl,rfl,h.1,q _ _ H C R (Tx.refl H) Y7 h.2⟩⟩
def ly:Ge X (binaryOp .Pow) nF:=⟨_,qU,λF H C x y v u Q Q' R rx ry h q=>by
 cases v<;>cases u<;>first | exact False.elim h | skip
 case int.int i j=>cases Yi rx;cases Yi ry;exact⟨i,j,rfl,rfl,h.1,q _ _ H C R (Tx.refl H) Y7 h.2⟩⟩
def lB:Ge X (compareOp .Lt) kU:=⟨_,lh.or j1,λF H C x y v u Q Q' R rx ry h q=>by
 cases v<;>cases u<;>first | exact False.elim h | skip
 case int.int i j=>cases Yi rx;cases Yi ry;exact .inl ⟨i,j,rfl,rfl,q _ _ H C R (Tx.refl H) Jw h⟩
 case str.str i j=>cases J7 rx;cases J7 ry;exact .inr ⟨i,j,rfl,rfl,q _ _ H C R (Tx.refl H) Jw h⟩⟩
def j3:Ge X (compareOp .Gt) kW:=⟨_,li,λF H C x y v u Q Q' R rx ry h q=>by
 cases v<;>cases u<;>first | exact False.elim h | skip
 case int.int i j=>cases Yi rx;cases Yi ry;exact⟨i,j,rfl,rfl,q _ _ H C R (Tx.refl H) Jw h⟩⟩
def i9 (X:Cx)(f:Value->Value->Sem Value):R2:=λx y H Q=>∀(pins:List (Addr×Obj)) (s:Shared) (σ:L2.St) (v u:Value),Zs X pins σ H s->Z8 x v->Z8 y u->wpAny (model X.prog X.w) X.A (f v u) (EP X pins σ Q) X.xe s
def zq {f:Value->Value->Sem Value}:Ll X f (i9 X f):=λpins s σ H x y v u Q I rx ry h=>h pins s σ v u I rx ry
def Bn {pins:List (Addr×Obj)}{σ:L2.St}{H:Hp}{s:Shared}{A:Around}{n:Nat}{ts us:List T}{ys zs:List V}{its its':List Value}(I:Zs X pins σ H s)(r:Reps X.K H ys ts)(r':Reps X.K H zs us)(rI:Z7 ys its)(rI':Z7 zs its')
  (f:Yr ts n=true) (f':Yr us n=true) (hu:A.units+n<cLine):
  ∀j (h1:j<its.toArray.size) (h2:j<its'.toArray.size),SeqAt.EqAt A s its.toArray[j] its'.toArray[j] (um ts us j):=λj h1 h2=>by
 have l1:its.toArray.size=ts.length:=by rw[XJ,<-rI.length,r.length]
 have l2:its'.toArray.size=us.length:=by rw[XJ,<-rI'.length,r'.length]
 have i1:ts[j]?=some (ts[j]'(by omega)):=by simp[l1▸h1]
 have i2:us[j]?=some (us[j]'(by omega)):=by simp[l2▸h2]
 obtain⟨x1,g1,q1⟩:=r.get i1
 obtain⟨x2,g2,q2⟩:=r'.get i2
 obtain⟨u1,k1,z1⟩:=rI.get g1
 obtain⟨u2,k2,z2⟩:=rI'.get g2
 have e1:its.toArray[j]=u1:=by
  have:its[j]?=some its.toArray[j]:=by simp
  rw[k1] at this;exact(YH this).symm
 have e2:its'.toArray[j]=u2:=by
  have:its'[j]?=some its'.toArray[j]:=by simp
  rw[k2] at this;exact(YH this).symm
 rw[e1,e2]
 unfold um
 simp only[i1,i2]
 exact rD I n (Xs f i1) (Xs f' i2) q1 q2 z1 z2 hu
def vx {vs ws:List T}(h:vs.length≠ws.length):X4 vs ws=false:=by
 rw[<-Ub,show(vs.length==ws.length)=false from beq_eq_false_iff_ne.mpr h,Bool.and_false]
def jJ {vs ws:List T}(h:vs.length=ws.length):(List.range vs.length).all (um vs ws)=X4 vs ws:=by
 rw[<-Ub,h,Nat.min_self,XU,Bool.and_true]
def fK {pins:List (Addr×Obj)}{σ:L2.St}{H:Hp}{s:Shared}{v w:T}{x y:V}{u u':Value}{A:Around}{n:Nat}(I:Zs X pins σ H s)(fv:Y5 v n=true)(fw:Y5 w n=true)(rv:Jh X.K H x v)(rw':Jh X.K H y w)
  (ru:Z8 x u) (ru':Z8 y u') (hu:A.units+n+1<cLine):SeqAt.RcAt A s u u' (eqT v w)/\SeqAt.RcNeAt A s u u' (!eqT v w):=by
 have hu0:A.units<cLine:=by omega
 cases ev:sc v with
 | some a=>
  obtain⟨rfl,f1⟩:=Wh ev rv
  cases ew:sc w with
  | some b=>
   obtain⟨rfl,f2⟩:=Wh ew rw'
   cases v with
   | non=>
    cases ev;cases ru
    cases w with
    | non=>cases ew;cases ru';unfold eqT;exact⟨.none_none,.none_none⟩
    | bl c=>cases ew;cases ru';unfold eqT;exact⟨.none_bool c,.none_bool c⟩
    | int c=>cases ew;obtain⟨t,rfl⟩:=ru';unfold eqT;exact⟨.none_int c t,.none_int c t⟩
    | str c=>cases ew;obtain⟨t,rfl⟩:=ru';unfold eqT;exact⟨.none_str c t,.none_str c t⟩
    | _=>cases ew
   | bl d=>
    cases ev;cases ru
    cases w with
    | non=>cases ew;cases ru';unfold eqT;exact⟨.bool_none d,.bool_none d⟩
    | bl c=>cases ew;cases ru';unfold eqT;exact⟨.bool_bool d c,.bool_bool d c⟩
    | int c=>cases ew;obtain⟨t,rfl⟩:=ru';unfold eqT;exact⟨.bool_int d c t,.bool_int d c t⟩
    | str c=>cases ew;obtain⟨t,rfl⟩:=ru';unfold eqT;exact⟨.bool_str d c t,.bool_str d c t⟩
    | _=>cases ew
   | int d=>
    cases ev;obtain⟨t',rfl⟩:=ru
    cases w with
    | non=>cases ew;cases ru';unfold eqT;exact⟨.int_none d t',.int_none d t'⟩
    | bl c=>cases ew;cases ru';unfold eqT;exact⟨.int_bool d t' c,.int_bool d t' c⟩
    | int c=>cases ew;obtain⟨t,rfl⟩:=ru';unfold eqT;exact⟨.int_int d t' c t,.int_int d t' c t⟩
    | str c=>cases ew;obtain⟨t,rfl⟩:=ru';unfold eqT;exact⟨.int_str d t' c t,.int_str d t' c t⟩
    | _=>cases ew
   | str d=>
    cases ev;obtain⟨t',rfl⟩:=ru
    cases w with
    | non=>cases ew;cases ru';unfold eqT;exact⟨.str_none d t',.str_none d t'⟩
    | bl c=>cases ew;cases ru';unfold eqT;exact⟨.str_bool d t' c,.str_bool d t' c⟩
    | int c=>cases ew;obtain⟨t,rfl⟩:=ru';unfold eqT;exact⟨.str_int d t' c t,.str_int d t' c t⟩
    | str c=>cases ew;obtain⟨t,rfl⟩:=ru';unfold eqT;exact⟨.str_str d t' c t,.str_str d t' c t⟩
    | _=>cases ew
   | _=>cases ev
  | none=>
   obtain⟨ts,m,rfl,em,ft⟩:=Xa fw ew
   obtain⟨b,zs,rfl,hq,r⟩:=Yp rw'
   cases ru'
   obtain⟨its,_,p,_⟩:=I.tuple hq
   cases v with
   | non=>cases ev;cases ru;unfold eqT;exact⟨.none_tuple p hu0,.none_tuple p hu0⟩
   | bl c=>cases ev;cases ru;unfold eqT;exact⟨.bool_tuple c p hu0,.bool_tuple c p hu0⟩
   | int i=>cases ev;obtain⟨t,rfl⟩:=ru;unfold eqT;exact⟨.int_tuple i t p hu0,.int_tuple i t p hu0⟩
   | str i=>cases ev;obtain⟨t,rfl⟩:=ru;unfold eqT;exact⟨.str_tuple i t p hu0,.str_tuple i t p hu0⟩
   | _=>cases ev
 | none=>
  obtain⟨ts,m,rfl,em,ft⟩:=Xa fv ev
  subst em
  obtain⟨a,ys,rfl,hq,r⟩:=Yp rv
  cases ru
  obtain⟨its,rI,p,_⟩:=I.tuple hq
  cases ew:sc w with
  | some b=>
   obtain⟨rfl,f2⟩:=Wh ew rw'
   cases w with
   | non=>cases ew;cases ru';unfold eqT;exact⟨.tuple_none p hu0,.tuple_none p hu0⟩
   | bl c=>cases ew;cases ru';unfold eqT;exact⟨.tuple_bool c p hu0,.tuple_bool c p hu0⟩
   | int i=>cases ew;obtain⟨t,rfl⟩:=ru';unfold eqT;exact⟨.tuple_int i t p hu0,.tuple_int i t p hu0⟩
   | str i=>cases ew;obtain⟨t,rfl⟩:=ru';unfold eqT;exact⟨.tuple_str i t p hu0,.tuple_str i t p hu0⟩
   | _=>cases ew
  | none=>
   obtain⟨us,m',rfl,em,fu⟩:=Xa fw ew
   cases em
   obtain⟨b,zs,rfl,hq',r'⟩:=Yp rw'
   cases ru'
   obtain⟨its',rI',p',_⟩:=I.tuple hq'
   have l1:its.toArray.size=ts.length:=by rw[XJ,<-rI.length,r.length]
   have l2:its'.toArray.size=us.length:=by rw[XJ,<-rI'.length,r'.length]
   have hi:=Bn (A:=A.in1) I r r' rI rI' ft fu (by show A.units+1+m<cLine;omega)
   have k1:=SeqAt.RcAt.tuples (A:=A) p p' hu0 hi
   have k2:=SeqAt.RcNeAt.tuples (A:=A) p p' hu0 hi
   rw[l1,l2,Ub] at k1 k2
   unfold eqT
   exact⟨k1,k2⟩
def yA {pins:List (Addr×Obj)}{σ:L2.St}{H:Hp}{s:Shared}{w:T}{y:V}{u':Value}{A:Around}{n:Nat}{a:Addr}{its:List Value}(I:Zs X pins σ H s)(fw:Y5 w n=true)(rw':Jh X.K H y w)(ru':Z8 y u')(hu0:A.units<cLine)
  (p:s.heap.IsList a its.toArray):(SeqAt.RcAt A s (.ref a) u' false/\SeqAt.RcNeAt A s (.ref a) u' true)/\(SeqAt.RcAt A s u' (.ref a) false/\SeqAt.RcNeAt A s u' (.ref a) true):=by
 cases w with
 | non=>cases Op rw';cases ru';exact⟨⟨.list_none p hu0,.list_none p hu0⟩,.none_list p hu0,.none_list p hu0⟩
 | bl c=>cases Pq rw';cases ru';exact⟨⟨.list_bool c p hu0,.list_bool c p hu0⟩,.bool_list c p hu0,.bool_list c p hu0⟩
 | int c=>cases Yi rw';obtain⟨t,rfl⟩:=ru';exact⟨⟨.list_int c t p hu0,.list_int c t p hu0⟩,.int_list c t p hu0,.int_list c t p hu0⟩
 | str c=>cases J7 rw';obtain⟨t,rfl⟩:=ru';exact⟨⟨.list_str c t p hu0,.list_str c t p hu0⟩,.str_list c t p hu0,.str_list c t p hu0⟩
 | tup ts=>
  obtain⟨b,zs,rfl,hq,r⟩:=Yp rw'
  cases ru'
  obtain⟨its',_,p',_⟩:=I.tuple hq
  exact⟨⟨.list_tuple p p' hu0,.list_tuple p p' hu0⟩,.tuple_list p' p hu0,.tuple_list p' p hu0⟩
 | ref b=>unfold Y5 at fw;cases fw
 | cl b=>unfold Y5 at fw;cases fw
def rq (neg:Bool)(hu:X.A.units+150<cLine):Ge X (compareOp (if neg then .NotEq else .Eq)) (Oi neg):=⟨_,zq,λF H C x y v u Q Q' R rx ry h q pins s σ v' u' I r1 r2=>by
 have fin:∀{k:Bool},SeqAt.RcAt X.A s v' u' k/\SeqAt.RcNeAt X.A s v' u' (!k)->Q (.bl (if neg then !k else k)) H->wpAny (model X.prog X.w) X.A (compareOp (if neg then .NotEq else .Eq) v' u') (EP X pins σ Q) X.xe s:=λ{k} e hq=>by
  cases neg with
  | true=>exact EqBoolInt.of_rcne e.2 ⟨.bl (!k),H,I,rfl,hq⟩
  | false=>exact EqBoolInt.of_rc e.1 ⟨.bl k,H,I,rfl,hq⟩
 have two:∀{v u:T},Jh X.K H x v->Jh X.K H y u->Yk v/\Yk u/\Q' (.bl (if neg then !eqT v u else eqT v u)) C->wpAny (model X.prog X.w) X.A (compareOp (if neg then .NotEq else .Eq) v' u') (EP X pins σ Q) X.xe s:=λ{v u} rx ry h=>
  fin (fK I h.1 h.2.1 rx ry r1 r2 (show X.A.units+100+1<cLine by omega)) (q _ _ H C R (Tx.refl H) Jw h.2.2)
 have hn:(if neg then !false else false)=neg:=by cases neg<;>rfl
 have lft:∀{a:Addr} {u:T},v'=.ref a->Jh X.K H y u->(∃xs,C a=some (.lst xs))/\Yk u/\Q' (.bl neg) C->wpAny (model X.prog X.w) X.A (compareOp (if neg then .NotEq else .Eq) v' u') (EP X pins σ Q) X.xe s:=λ{a u} ev ry h=>by
  obtain⟨⟨xs,hx⟩,f,hq⟩:=h
  obtain⟨ys,hy,r⟩:=R.lst hx
  obtain⟨its,_,p,_⟩:=I.list (Xv.of hy)
  have z:=(yA (A:=X.A) I f ry r2 (by omega) p.isList).1
  subst ev
  refine fin (k:=false) z ?_
  rw[hn]
  exact q _ _ H C R (Tx.refl H) Jw hq
 have rgt:∀{b:Addr} {v:T},u'=.ref b->Jh X.K H x v->(∃xs,C b=some (.lst xs))/\Yk v/\Q' (.bl neg) C->wpAny (model X.prog X.w) X.A (compareOp (if neg then .NotEq else .Eq) v' u') (EP X pins σ Q) X.xe s:=λ{b v} eu rx h=>by
  obtain⟨⟨xs,hx⟩,f,hq⟩:=h
  obtain⟨ys,hy,r⟩:=R.lst hx
  obtain⟨its,_,p,_⟩:=I.list (Xv.of hy)
  have z:=(yA (A:=X.A) I f rx r1 (by omega) p.isList).2
  subst eu
  refine fin (k:=false) z ?_
  rw[hn]
  exact q _ _ H C R (Tx.refl H) Jw hq
 cases v with
 | ref a=>
  have ev:v'=.ref a:=by cases Z6 rx;exact r1
  cases u with
  | ref b=>
   have eu:u'=.ref b:=by cases Z6 ry;exact r2
   obtain⟨xs,ys,ha,hb,hf,hq⟩:=h
   obtain⟨zs,hz,rz⟩:=R.lst ha
   obtain⟨ws,hw,rw'⟩:=R.lst hb
   obtain⟨its,rI,p,_⟩:=I.list (Xv.of hz)
   obtain⟨its',rI',p',_⟩:=I.list (Xv.of hw)
   have l1:its.toArray.size=xs.length:=by rw[XJ,<-rI.length,rz.length]
   have l2:its'.toArray.size=ys.length:=by rw[XJ,<-rI'.length,rw'.length]
   subst ev
   subst eu
   refine fin ?_ (q _ _ H C R (Tx.refl H) Jw hq)
   by_cases hl:xs.length=ys.length
   ·obtain⟨f1,f2⟩:=hf hl
    have hi:=Bn (A:=X.A.in1) I rz rw' rI rI' f1 f2 (by show X.A.units+1+100<cLine;omega)
    have k1:=SeqAt.RcAt.lists (A:=X.A) p.isList p'.isList (by rw[l1,l2,hl]) (by omega) hi
    have k2:=SeqAt.RcNeAt.lists (A:=X.A) p.isList p'.isList (by rw[l1,l2,hl]) (by omega) hi
    rw[l1,jJ hl] at k1 k2
    exact⟨k1,k2⟩
   ·rw[vx hl]
    have hne:(its.toArray.size !=its'.toArray.size)=true:=by rw[l1,l2];exact bne_iff_ne.mpr hl
    exact⟨SeqAt.RcAt.lists_lengths p.isList p'.isList hne (by omega),SeqAt.RcNeAt.lists_lengths p.isList p'.isList hne (by omega)⟩
  | non=>exact lft ev ry h
  | bl b=>exact lft ev ry h
  | int b=>exact lft ev ry h
  | str b=>exact lft ev ry h
  | tup b=>exact lft ev ry h
  | cl b=>exact lft ev ry h
 | non=>
  cases u with
  | ref b=>exact rgt (by cases Z6 ry;exact r2) rx h
  | _=>exact two rx ry h
 | bl _=>
  cases u with
  | ref b=>exact rgt (by cases Z6 ry;exact r2) rx h
  | _=>exact two rx ry h
 | int _=>
  cases u with
  | ref b=>exact rgt (by cases Z6 ry;exact r2) rx h
  | _=>exact two rx ry h
 | str _=>
  cases u with
  | ref b=>exact rgt (by cases Z6 ry;exact r2) rx h
  | _=>exact two rx ry h
 | tup _=>
  cases u with
  | ref b=>exact rgt (by cases Z6 ry;exact r2) rx h
  | _=>exact two rx ry h
 | cl _=>
  cases u with
  | ref b=>exact rgt (by cases Z6 ry;exact r2) rx h
  | _=>exact two rx ry h⟩
def Yw (hu:X.A.units+150<cLine):Ge X (compareOp .Eq) A1:=rq false hu
def Ih (hu:X.A.units+150<cLine):Ge X (compareOp .NotEq) gF:=rq true hu
def wQ:Ge X (compareOp .Is) nH:=⟨_,qX,λF H C x y v u Q Q' R rx ry h q=>by
 obtain⟨rfl,h⟩:=h
 refine⟨Op ry,?_⟩
 have z:=q (.bl _) _ H C R (Tx.refl H) Jw h
 cases v with
 | non=>cases Op rx;exact z
 | bl _=>cases Pq rx;exact z
 | int _=>cases Yi rx;exact z
 | str _=>cases J7 rx;exact z
 | ref _=>cases Z6 rx;exact z
 | tup _=>obtain⟨a,ys,rfl,_⟩:=Yp rx;exact z
 | cl _=>obtain⟨a,ys,rfl,_⟩:=Nv rx;exact z⟩
open Classical in
noncomputable def eqAns (v:T) (us:List Value) (ts:List T) (u:Value):Bool:=match (us.zip ts).find? λp=>decide (p.1=u) with
 | some p=>eqT p.2 v
 | none=>false
open Classical in
def Af {pins:List (Addr×Obj)}{σ:L2.St}{H:Hp}{s:Shared}{n:Nat}{v:T}{ts:List T}{ys:List V}{us:List Value}(I:Zs X pins σ H s)(r:Reps X.K H ys ts)(rI:Z7 ys us)(f:Yr ts n=true){j:Nat}{u:Value}{t:T}(hu:us[j]?=some u)(ht:ts[j]?=some t):
  eqAns v us ts u=eqT t v:=by
 unfold eqAns
 have hm:(u,t)∈us.zip ts:=by
  refine List.mem_iff_getElem?.mpr ⟨j,?_⟩
  rw[List.getElem?_zip_eq_some]
  exact⟨hu,ht⟩
 cases e:(us.zip ts).find? λp=>decide (p.1=u) with
 | none=>
  have:=List.find?_eq_none.mp e (u,t) hm
  simp at this
 | some p=>
  have h1:=List.find?_some e
  have h2:=List.mem_of_find?_eq_some e
  simp only[decide_eq_true_eq] at h1
  obtain⟨i,hi⟩:=List.mem_iff_getElem?.mp h2
  obtain⟨g1,g2⟩:=List.getElem?_zip_eq_some.mp hi
  obtain⟨x1,k1,q1⟩:=r.get g2
  obtain⟨x2,k2,q2⟩:=r.get ht
  obtain⟨u1,m1,z1⟩:=rI.get k1
  obtain⟨u2,m2,z2⟩:=rI.get k2
  rw[g1] at m1;cases m1
  rw[hu] at m2;cases m2
  rw[h1] at z1
  have e2:=z1.inj z2
  subst e2
  show eqT p.2 v=eqT t v
  rw[yr I n (Xs f g2) (Xs f ht) q1 q2]
def yY {pins:List (Addr×Obj)}{σ:L2.St}{H:Hp}{s:Shared}{n:Nat}{v:T}{ts:List T}{ys:List V}{us:List Value}(I:Zs X pins σ H s)(r:Reps X.K H ys ts)(rI:Z7 ys us)(f:Yr ts n=true):us.any (eqAns v us ts)=inL v ts:=by
 have hl:us.length=ts.length:=by rw[<-rI.length,r.length]
 have hat:∀j,us[j]?.map (eqAns v us ts)=ts[j]?.map λt=>eqT t v:=λj=>by
  by_cases hj:j<us.length
  ·have e1:us[j]?=some us[j]:=by simp[hj]
   have e2:ts[j]?=some (ts[j]'(by omega)):=by simp[hl▸hj]
   rw[e1,e2,Option.map_some,Option.map_some,Af I r rI f e1 e2]
  ·rw[List.getElem?_eq_none (by omega),List.getElem?_eq_none (by omega)];rfl
 have hm:us.map (eqAns v us ts)=ts.map λt=>eqT t v:=by
  refine List.ext_getElem? λj=>?_
  rw[XM,XM]
  exact hat j
 unfold inL
 have a1:us.any (eqAns v us ts)=(us.map (eqAns v us ts)).any id:=by rw[List.any_map];rfl
 have a2:(ts.any λy=>eqT y v)=(ts.map λt=>eqT t v).any id:=by rw[List.any_map];rfl
 rw[a1,a2,hm]
def rn (neg:Bool)(hu:X.A.units+150<cLine):Ge X (compareOp (if neg then .NotIn else .In)) (rX neg):=⟨_,zq,λF H C x y v u Q Q' R rx ry h q pins s σ v' u' I r1 r2=>by
 have sq:∀{p:Addr} {ys:List V} {ts:List T},u'=.ref p->(Xv X.K H p ys\/Uu X.K H p ys)->Reps X.K H ys ts->Yk v->Yr ts U5=true->Q' (.bl (if neg then !inL v ts else inL v ts)) C->
   wpAny (model X.prog X.w) X.A (compareOp (if neg then .NotIn else .In) v' u') (EP X pins σ Q) X.xe s:=λ{p ys ts} eu hq r fv ft hq'=>by
  subst eu
  have at1:∀{its:List Value},Z7 ys its->∀w,w∈its.toArray->SeqAt.EqAt X.A.in1 s w v' (eqAns v its ts w):=λ{its} rI w hw=>by
   have hw':w∈its:=by simpa using hw
   obtain⟨j,hj⟩:=List.mem_iff_getElem?.mp hw'
   have hlt:j<its.length:=(List.getElem?_eq_some_iff.mp hj).1
   have hl:its.length=ts.length:=by rw[<-rI.length,r.length]
   have e2:ts[j]?=some (ts[j]'(by omega)):=by simp[hl▸hlt]
   rw[Af I r rI ft hj e2]
   obtain⟨x2,k2,q2⟩:=r.get e2
   obtain⟨u2,m2,z2⟩:=rI.get k2
   rw[hj] at m2;cases m2
   exact rD I 100 (Xs ft e2) fv q2 rx z2 r1 (by show X.A.units+1+100<cLine;omega)
  rcases hq with hq | hq
  ·obtain⟨its,rI,p,_⟩:=I.list hq
   have e:its.toArray.any (eqAns v its ts)=inL v ts:=by rw[<-yY I r rI ft];simp
   cases neg with
   | true=>refine SeqAt.notIn_listAt (eqAns v its ts) p.isList (at1 rI) ⟨.bl _,H,I,rfl,?_⟩;rw[e];exact q _ _ H C R (Tx.refl H) Jw hq'
   | false=>refine SeqAt.in_listAt (eqAns v its ts) p.isList (at1 rI) ⟨.bl _,H,I,rfl,?_⟩;rw[e];exact q _ _ H C R (Tx.refl H) Jw hq'
  ·obtain⟨its,rI,p,_⟩:=I.tuple hq
   have e:its.toArray.any (eqAns v its ts)=inL v ts:=by rw[<-yY I r rI ft];simp
   cases neg with
   | true=>refine SeqAt.notIn_tupleAt (eqAns v its ts) p (at1 rI) ⟨.bl _,H,I,rfl,?_⟩;rw[e];exact q _ _ H C R (Tx.refl H) Jw hq'
   | false=>refine SeqAt.in_tupleAt (eqAns v its ts) p (at1 rI) ⟨.bl _,H,I,rfl,?_⟩;rw[e];exact q _ _ H C R (Tx.refl H) Jw hq'
 have tpl:∀{ts:List T},Jh X.K H y (.tup ts)->Yk v/\Yr ts U5=true/\Q' (.bl (if neg then !inL v ts else inL v ts)) C->wpAny (model X.prog X.w) X.A (compareOp (if neg then .NotIn else .In) v' u') (EP X pins σ Q) X.xe s:=λ{ts} ry h=>by
  obtain⟨a,ys,rfl,hq,r⟩:=Yp ry
  exact sq r2 (.inr hq) r h.1 h.2.1 h.2.2
 have cls:∀{ts:List T},Jh X.K H y (.cl ts)->Yk v/\Yr ts U5=true/\Q' (.bl (if neg then !inL v ts else inL v ts)) C->wpAny (model X.prog X.w) X.A (compareOp (if neg then .NotIn else .In) v' u') (EP X pins σ Q) X.xe s:=λ{ts} ry h=>by
  obtain⟨a,ys,rfl,hq,r⟩:=Nv ry
  exact sq r2 (.inl hq.sq) r h.1 h.2.1 h.2.2
 have rf:∀{a:Addr},Jh X.K H y (.ref a)->(∃ys,C a=some (.lst ys)/\Yk v/\Yr ys U5=true/\Q' (.bl (if neg then !inL v ys else inL v ys)) C)->wpAny (model X.prog X.w) X.A (compareOp (if neg then .NotIn else .In) v' u') (EP X pins σ Q) X.xe s:=λ{a} ry h=>by
  obtain⟨ts,ht,h1,h2,h3⟩:=h
  obtain⟨zs,hz,rz⟩:=R.lst ht
  cases Z6 ry
  exact sq r2 (.inl (Xv.of hz)) rz h1 h2 h3
 cases u with
 | tup ts=>cases v<;>exact tpl ry h
 | cl ts=>cases v<;>exact cls ry h
 | ref a=>cases v<;>exact rf ry h
 | str j=>
  cases v with
  | str i=>
   cases J7 rx;cases J7 ry
   obtain⟨t,rfl⟩:=r1
   obtain⟨t',rfl⟩:=r2
   cases neg with
   | true=>exact notIn_str ⟨.bl _,H,I,rfl,q _ _ H C R (Tx.refl H) Jw h⟩
   | false=>exact in_str ⟨.bl _,H,I,rfl,q _ _ H C R (Tx.refl H) Jw h⟩
  | _=>exact False.elim h
 | non=>cases v<;>exact False.elim h
 | bl _=>cases v<;>exact False.elim h
 | int _=>cases v<;>exact False.elim h⟩
def lC (hu:X.A.units+150<cLine):Ge X (compareOp .In) gG:=rn false hu
def t9 (hu:X.A.units+150<cLine):Ge X (compareOp .NotIn) xI:=rn true hu
def iH:eR X Dy:=⟨_,pM,λF H C x y v u Q Q' R rx ry h q=>by
 cases v<;>cases u<;>first | exact False.elim h | skip
 case tup.int xs i=>
  obtain⟨a,ys,rfl,hq,r⟩:=Yp rx
  cases Yi ry
  obtain⟨v,hv,h⟩:=h
  obtain⟨z,hz,rz⟩:=r.at hv
  exact .inr (.inl ⟨a,ys,i,z,rfl,rfl,hq,hz,q _ _ H C R (Tx.refl H) rz h⟩)
 case cl.int xs i=>
  obtain⟨a,ys,rfl,hq,r⟩:=Nv rx
  cases Yi ry
  obtain⟨v,hv,h⟩:=h
  obtain⟨z,hz,rz⟩:=r.at hv
  exact .inl ⟨a,ys,i,z,rfl,rfl,hq.sq,hz,q _ _ H C R (Tx.refl H) rz h⟩
 case ref.int a i=>
  cases Z6 rx
  cases Yi ry
  obtain⟨xs,v,hx,hv,h⟩:=h
  obtain⟨ys,hy,r⟩:=R.lst hx
  obtain⟨z,hz,rz⟩:=r.at hv
  exact .inl ⟨a,ys,i,z,rfl,rfl,Xv.of hy,hz,q _ _ H C R (Tx.refl H) rz h⟩
 case str.int z i=>
  cases J7 rx
  cases Yi ry
  obtain⟨hl,c,hc,h⟩:=h
  exact .inr (.inr ⟨z,i,c,rfl,rfl,hl,hc,q _ _ H C R (Tx.refl H) Sa h⟩)⟩
def fh (X:Cx)(w:T->Option Int->Option Int->Hw->WK->Prop):Prop:=∃r,uo X r/\∀(F H:Hp) (C:Hw) (x:V) (v:T) (lo hi:Option Int) (Q:VK) (Q':WK),Rl X.K F H C->Jh X.K H x v->w v lo hi C Q'->QE X.K F H Q Q'->r x lo hi H Q
def Md {K:W.Frag}{H:Hp}{ys:List V}{xs:List T}(r:Reps K H ys xs)(lo hi:Option Int):Reps K H (An ys lo hi) (Fb xs lo hi):=by
 unfold An Fb
 rw[r.length]
 exact(r.drop _).take _
def iG:fh X kQ:=⟨_,xU.or (uB.or qh),λF H C x v lo hi Q Q' R rx h q=>by
 cases v with
 | tup xs=>
  obtain⟨a,ys,rfl,hq,r⟩:=Yp rx
  exact .inl ⟨a,ys,rfl,hq,by rw[r.length];exact h.1,λp hp=>q _ _ _ C (R.hid hp) (Tx.new hp) (Jv (Uu.of Z3) ((Md r lo hi).tx (Tx.new hp))) h.2⟩
 | cl xs=>
  obtain⟨a,ys,rfl,hq,r⟩:=Nv rx
  exact .inr (.inl ⟨a,ys,rfl,hq.sq,λp hp=>q _ _ _ _ (R.newL hp (Md r lo hi)) (Tx.new hp) Jb (h p (R.free hp))⟩)
 | ref a=>
  cases Z6 rx
  obtain⟨xs,hx,h⟩:=h
  obtain⟨ys,hy,r⟩:=R.lst hx
  exact .inr (.inl ⟨a,ys,rfl,Xv.of hy,λp hp=>q _ _ _ _ (R.newL hp (Md r lo hi)) (Tx.new hp) Jb (h p (R.free hp))⟩)
 | str z=>cases J7 rx;exact .inr (.inr ⟨z,rfl,h.1,q _ _ H C R (Tx.refl H) Sa h.2⟩)
 | _=>exact False.elim h⟩
def Wi {K:W.Frag}{H:Hp}{xs:List V}{v:T}(h:Reps K H xs [v]):∃x,xs=[x]/\Jh K H x v:=by
 obtain⟨y,r,rfl,a,b⟩:=Yn h
 cases J8 b
 exact⟨y,rfl,a⟩
def wM {K:W.Frag}{H:Hp}{xs:List V}{v w:T}(h:Reps K H xs [v,w]):∃x y,xs=[x,y]/\Jh K H x v/\Jh K H y w:=by
 obtain⟨y,r,rfl,a,b⟩:=Yn h
 obtain⟨z,rfl,c⟩:=Wi b
 exact⟨y,z,rfl,a,c⟩
def Qt:Od X (.builtin "len") kj:=⟨_,Dm.or Dk,λF H C xs vs Q Q' R rs h q=>by
 obtain⟨v,rfl,h⟩:=h
 obtain⟨x,rfl,rx⟩:=Wi rs
 cases v with
 | str z=>cases J7 rx;exact .inr ⟨z,rfl,h.1,q _ _ H C R (Tx.refl H) Y7 h.2⟩
 | tup xs=>
  obtain⟨a,ys,rfl,hq,r⟩:=Yp rx
  exact .inl ⟨a,ys,rfl,.inr hq,by rw[r.length];exact q _ _ H C R (Tx.refl H) Y7 h⟩
 | cl xs=>
  obtain⟨a,ys,rfl,hq,r⟩:=Nv rx
  exact .inl ⟨a,ys,rfl,.inl hq.sq,by rw[r.length];exact q _ _ H C R (Tx.refl H) Y7 h⟩
 | ref a=>
  cases Z6 rx
  obtain⟨xs,hx,h⟩:=h
  obtain⟨ys,hy,r⟩:=R.lst hx
  exact .inl ⟨a,ys,rfl,.inl (Xv.of hy),by rw[r.length];exact q _ _ H C R (Tx.refl H) Y7 h⟩
 | _=>exact False.elim h⟩
def lZ (hc:X.calm=true):Od X (.builtin "max") kh:=⟨_,jQ hc,λF H C xs vs Q Q' R rs h q=>by
 obtain⟨i,j,rfl,h⟩:=h
 obtain⟨x,y,rfl,rx,ry⟩:=wM rs
 cases Yi rx;cases Yi ry
 exact⟨i,j,rfl,q _ _ H C R (Tx.refl H) Y7 h⟩⟩
def Ba {K:W.Frag}{H:Hp}:∀{bs:List Bool} {ys:List V},Reps K H ys (bs.map T.bl)->ys=bs.map V.bl
 | [],_,h=>J8 h
 | b::bs,_,h=>by obtain⟨y,r,rfl,a,c⟩:=Yn h;cases Pq a;rw[Ba c];rfl
def Mf:Od X (.type "tuple") vQ:=⟨_,Gc,λF H C xs vs Q Q' R rs h q=>by
 obtain⟨v,rfl,h⟩:=h
 obtain⟨x,rfl,rx⟩:=Wi rs
 cases v with
 | tup xs=>
  obtain⟨a,ys,rfl,hq,r⟩:=Yp rx
  exact⟨a,ys,rfl,.inr ⟨hq,q _ _ H C R (Tx.refl H) (Jv hq r) h⟩⟩
 | cl xs=>
  obtain⟨a,ys,rfl,hq,r⟩:=Nv rx
  exact⟨a,ys,rfl,.inl ⟨hq.sq,λp hp=>q _ _ _ C (R.hid hp) (Tx.new hp) (Jv (Uu.of Z3) (r.tx (Tx.new hp))) h⟩⟩
 | ref a=>
  cases Z6 rx
  obtain⟨xs,hx,h⟩:=h
  obtain⟨ys,hy,r⟩:=R.lst hx
  exact⟨a,ys,rfl,.inl ⟨Xv.of hy,λp hp=>q _ _ _ C (R.hid hp) (Tx.new hp) (Jv (Uu.of Z3) (r.tx (Tx.new hp))) h⟩⟩
 | _=>exact False.elim h⟩
def W6:kz X "list.append" y8:=⟨_,Gv,λF H C x v xs vs Q Q' R rx rs h q=>by
 obtain⟨a,ts,y,rfl,rfl,hx,hl,h⟩:=h
 cases Z6 rx
 obtain⟨z,rfl,rz⟩:=Wi rs
 obtain⟨ys,hy,r⟩:=R.lst hx
 obtain⟨R',t⟩:=R.putL hx (r.snoc rz)
 exact⟨a,ys,z,rfl,rfl,hy,by rw[r.length];exact hl,q _ _ _ _ R' t Np h⟩⟩
def y7:kz X "list.pop" lE:=⟨_,pq,λF H C x v xs vs Q Q' R rx rs h q=>by
 obtain⟨a,ts,y,rfl,rfl,hx,hy,h⟩:=h
 cases Z6 rx
 cases J8 rs
 obtain⟨ys,hys,r⟩:=R.lst hx
 obtain⟨z,hz,rz⟩:=r.get hy
 obtain⟨R',t⟩:=R.putL hx r.dropLast
 exact⟨a,ys,z,rfl,rfl,hys,by rw[r.length];exact hz,q _ _ _ _ R' t (rz.tx t) h⟩⟩
end
section
variable {X:Cx}{a b c e:Expr}{es:List Expr}{wa wb wc:WE}{wt wt':WT}{wA:WA}{w w':W2}{pos p apos cpos:Pos}{J1:List Expr}
def Zb (i:Nat){x:Str}(hN:X.N[i]?=some x:=by rfl)(hv:kH X.env.scope x:=by first | exact Or.inl rfl | exact Or.inr (Or.inl rfl) | exact Or.inr (Or.inr rfl))(hd:(x==("__debug__":Str))=false:=by decide)
  (hcd:(x==("__classdict__":Str))=false:=by decide):Ji X (.Name x pos) (Yj i):=⟨_,qG hN hv hd hcd,mv⟩
def Zf {i j}:Ji X (.Constant (.int i) j pos) (eC (.int i)):=⟨_,qM,kB λ_=>Y7⟩
def Zj {i j}:Ji X (.Constant (.str i) j pos) (eC (.str i)):=⟨_,qI,kB λ_=>Sa⟩
def De {i j}:Ji X (.Constant (.bool i) j pos) (eC (.bl i)):=⟨_,lf,kB λ_=>Jw⟩
def yQ {j}:Ji X (.Constant .none j pos) (eC .non):=⟨_,qK,kB λ_=>Np⟩
def di (K:W.Frag)(mg:Str->Option Value)(x:Str)(v:T):Prop:=∃z u,mg x=some u/\Z8 z u/\∀H,Jh K H z v
def Ys {op:Operator}(ho:Ge X (binaryOp op) w)(ha:Ji X a wa)(hb:Ji X b wb):Ji X (.BinOp a op b pos) (Jf w wa wb):=by
 obtain⟨r,h1,h2⟩:=ho
 obtain⟨ta,p1,s1⟩:=ha
 obtain⟨tb,p2,s2⟩:=hb
 exact⟨_,mW h1 p1 p2,uE s1 s2 h2⟩
def Fa {op:CmpOp}(ho:Ge X (compareOp op) w)(ha:Ji X a wa)(hb:Ji X b wb)(hm:behindInMarks op b=false):Ji X (.Compare a [op] [b] pos) (Jf w wa wb):=by
 obtain⟨r,h1,h2⟩:=ho
 obtain⟨ta,p1,s1⟩:=ha
 obtain⟨tb,p2,s2⟩:=hb
 exact⟨_,tf h1 p1 p2 hm,uE s1 s2 h2⟩
def yT (ha:Ji X a wa)(hb:Ji X (.BoolOp .And (b::J1) pos) wb):Ji X (.BoolOp .And (a::b::J1) pos) (ou wa wb):=by
 obtain⟨ta,p1,s1⟩:=ha
 obtain⟨tb,p2,s2⟩:=hb
 exact⟨_,qQ p1 p2,mI s1 s2⟩
def vG {op}(ha:Ji X a wa):Ji X (.BoolOp op [a] pos) wa:=by
 obtain⟨ta,p1,s1⟩:=ha
 exact⟨_,qJ p1,s1⟩
def lX (hc:jZ X c wt)(ha:Ji X a wa)(hb:Ji X b wb):Ji X (.IfExp c a b pos) (h9 wt wa wb):=by
 obtain⟨ta,p1,s1⟩:=ha
 obtain⟨tb,p2,s2⟩:=hb
 obtain⟨tc,p3,s3⟩:=hc
 exact⟨_,wI p3 p1 p2,iw s3 s1 s2⟩
def Zc:zX X [] Zq:=⟨_,zp,mB⟩
def Za (ha:Ji X a wa)(hb:zX X es wA)(hs:starEach (a::es) X.env=(false,eval a X.env)::starEach es X.env:=by rfl):zX X (a::es) (Zr wa wA):=by
 obtain⟨ta,p1,s1⟩:=ha
 obtain⟨tb,p2,s2⟩:=hb
 exact⟨_,Lz p1 p2 hs,qm s1 s2⟩
def Zi {x1}(h:zX X es wA):Ji X (.Tuple es x1 pos) (N8 wA):=by
 obtain⟨t,p,s⟩:=h
 exact⟨_,qH p,my s⟩
def Z0 (h:zX X es wA):Ji X (.List es pos) (Ag wA):=by
 obtain⟨t,p,s⟩:=h
 exact⟨_,qL p,mC s⟩
def Zw (ha:Ji X a wa)(hb:Ji X b wb)(hs:jb b:=by exact λ_ _=>rfl):Ji X (.Subscript a b pos) (Jf Dy wa wb):=by
 obtain⟨r,h1,h2⟩:=iH (X:=X)
 obtain⟨ta,p1,s1⟩:=ha
 obtain⟨tb,p2,s2⟩:=hb
 exact⟨_,mX h1 p1 p2 hs,uE s1 s2 h2⟩
def nz (X:Cx)(e:Option Expr)(w:Sw->Hw->(Option Int->Hw->Prop)->WX->Prop):Prop:=∃t,PO X e t/\∀(F H:Hp) (C:Hw) (σ:L2.St) (τ:Sw) (Q:Option Int->Hp->Prop) (Q':Option Int->Hw->Prop) (χ:WX),Rl X.K F H C->Xb X.K H σ τ->w τ C Q' χ->
 (∀o H' C',Rl X.K F H' C'->Tx H H'->Q' o C'->Q o H')->t σ H Q
def Vt:nz X none gO:=⟨_,uT,λF H C σ τ Q Q' χ R S h q=>q none H C R (Tx.refl H) h⟩
def Xz (ha:Ji X a wa):nz X (some a) (r6 wa):=by
 obtain⟨ta,p1,s1⟩:=ha
 refine⟨_,uS p1,λF H C σ τ Q Q' χ R S h q=>?_⟩
 refine s1 F H C σ τ _ _ χ R S h λx v H1 C1 R1 t1 rx h1=>?_
 obtain⟨i,rfl,h1⟩:=h1
 exact⟨i,Yi rx,q (some i) H1 C1 R1 t1 h1⟩
def Dd {lo hi:Option Expr}{wl wh:Sw->Hw->(Option Int->Hw->Prop)->WX->Prop}{p2:Pos}(ha:Ji X a wa)(hl:nz X lo wl)(hh:nz X hi wh):Ji X (.Subscript a (.Slice lo hi none p2) pos) (gZ wa wl wh):=by
 obtain⟨r,h1,h2⟩:=iG (X:=X)
 obtain⟨ta,p1,s1⟩:=ha
 obtain⟨tl,p3,s3⟩:=hl
 obtain⟨th,p4,s4⟩:=hh
 refine⟨_,Bc h1 p1 p3 p4,λF H C σ τ Q Q' χ R S h q=>?_⟩
 refine s1 F H C σ τ _ _ χ R S h λx v H1 C1 R1 t1 rx h1=>?_
 refine s3 F H1 C1 σ τ _ _ χ R1 (S.tx t1) h1 λl H2 C2 R2 t2 h2'=>?_
 refine s4 F H2 C2 σ τ _ _ χ R2 (S.tx (t1.trans t2)) h2' λu H3 C3 R3 t3 h3=>?_
 exact h2 F H3 C3 x v l u Q Q' R3 ((rx.tx t2).tx t3) h3 (QE.at q ((t1.trans t2).trans t3))
def Ox {x:Str}{id:String}{r:List T->Hw->WK->Prop}(hc:Od X (.builtin id) r)(hg:Gl X x)(hm:X.mg x=none)(hv:bootBuiltins x=some (.builtin id))(ha:zX X (e::es) wA)(hn:x≠"__name__":=by decide)(hdb:(x==("__debug__":Str))=false:=by decide)
  (he:starEach (e::es) X.env=(false,eval e X.env)::starEach es X.env:=by rfl) (hpl:(backTo pos (starEach es X.env)).any (·.1)=false:=by rfl):Ji X (.Call (.Name x p) (e::es) [] pos) (kG r wA):=by
 obtain⟨r,h1,h2⟩:=hc
 obtain⟨t,p1,s1⟩:=ha
 exact⟨_,Bd h1 hg hm hv p1 hn hdb he hpl,mH h2 s1⟩
def Ga {x:Str}{id:String}{r:List T->Hw->WK->Prop}(hc:Od X (.type id) r)(hg:Gl X x)(hm:X.mg x=none)(hv:bootBuiltins x=some (.type id))(ha:zX X (e::es) wA)(hn:x≠"__name__":=by decide)(hdb:(x==("__debug__":Str))=false:=by decide)
  (he:starEach (e::es) X.env=(false,eval e X.env)::starEach es X.env:=by rfl) (hpl:(backTo pos (starEach es X.env)).any (·.1)=false:=by rfl):Ji X (.Call (.Name x p) (e::es) [] pos) (kG r wA):=by
 obtain⟨r,h1,h2⟩:=hc
 obtain⟨t,p1,s1⟩:=ha
 exact⟨_,j0 h1 hg hm hv p1 hn hdb he hpl,mH h2 s1⟩
def gl (X:Cx)(Tn:String)(ty:T->Hw->Prop):Prop:=∀(F H:Hp) (C:Hw) (x:V) (v:T),Rl X.K F H C->Jh X.K H x v->ty v C->nt X.K Tn x H
def Js:gl X "list" nL:=λF H C x v R rx h=>by
 obtain⟨a,xs,rfl,hx⟩:=h
 cases Z6 rx
 obtain⟨ys,hy,r⟩:=R.lst hx
 exact L2.tyL hy
def Hh {o:Expr}{wo:WE}{name:Str}{Tn id:String}{ty:T->Hw->Prop}{r:T->List T->Hw->WK->Prop}(pa:PlainAttrs Tn)(slot:Slot Tn name id)(hty:typeOf (.builtin id)=pure (.type "method_descriptor"))(hT:gl X Tn ty)(hm:kz X id r)(ho:Ji X o wo)(ha:zX X (e::es) wA)
  (hbase:attributeBase o name X.env (eval o X.env)=eval o X.env:=by rfl)
  (hfew:((backTo cpos (starEach (e::es) X.env)).all (λx=>!x.1)&&(backToKw cpos (keywordEach [] X.env)).all (λx=>x.1.isSome)
   &&decide ((e::es).length+([]:List Keyword).length+(if ([]:List Keyword).isEmpty then 0 else 1)<30))=true:=by rfl)
  (hline:(apos.endLine==cpos.line)=true:=by rfl) (hs:starEach (e::es) X.env=(false,eval e X.env)::starEach es X.env:=by rfl) (hplain:(backTo cpos (starEach es X.env)).any (·.1)=false:=by rfl):
  Ji X (.Call (.Attribute o name apos) (e::es) [] cpos) (h7 ty r wo wA):=by
 obtain⟨rr,h1,h2⟩:=hm
 obtain⟨to,p1,s1⟩:=ho
 obtain⟨ta,p2,s2⟩:=ha
 refine⟨_,mZ pa slot hty h1 p1 p2 hbase hfew hline hs hplain,λF H C σ τ Q Q' χ R S h q=>?_⟩
 refine s1 F H C σ τ _ _ χ R S h λx v H1 C1 R1 t1 rx h1'=>⟨hT F H1 C1 x v R1 rx h1'.1,?_⟩
 refine s2 F H1 C1 σ τ _ _ χ R1 (S.tx t1) h1'.2 λxs vs H2 C2 R2 t2 rs h2'=>?_
 exact h2 F H2 C2 x v xs vs Q Q' R2 (rx.tx t2) rs h2' (QE.at q (t1.trans t2))
def yR {o:Expr}{wo:WE}{name:Str}{Tn id:String}{ty:T->Hw->Prop}{r:T->List T->Hw->WK->Prop}(pa:PlainAttrs Tn)(slot:Slot Tn name id)(hty:typeOf (.builtin id)=pure (.type "method_descriptor"))(hT:gl X Tn ty)(hm:kz X id r)(ho:Ji X o wo)
  (hbase:attributeBase o name X.env (eval o X.env)=eval o X.env:=by rfl) (hline:(apos.endLine==cpos.line)=true:=by rfl):
  Ji X (.Call (.Attribute o name apos) [] [] cpos) (h7 ty r wo Zq):=by
 obtain⟨rr,h1,h2⟩:=hm
 obtain⟨to,p1,s1⟩:=ho
 refine⟨_,qP pa slot hty h1 p1 hbase hline,λF H C σ τ Q Q' χ R S h q=>?_⟩
 refine s1 F H C σ τ _ _ χ R S h λx v H1 C1 R1 t1 rx h1'=>⟨hT F H1 C1 x v R1 rx h1'.1,?_⟩
 exact h2 F H1 C1 x v [] [] Q Q' R1 rx Yv h1'.2 (QE.at q t1)
def tM {K:W.Frag}{n c:String}(hn:n∈["NoneType","bool","int","str","tuple","list","dict"])(hc:c∈["bool","int","str","tuple","list","dict"]):W.kitOne K (.type n) (.type c)=some (yG n c):=by
 simp only[ZM,ZN,or_false] at hn hc
 rcases hn with rfl | rfl | rfl | rfl | rfl | rfl | rfl<;>rcases hc with rfl | rfl | rfl | rfl | rfl | rfl<;>rfl
def uz {v:T}{C:Hw}{n:String}(h:nK v C n):n∈["NoneType","bool","int","str","tuple","list","dict"]:=by
 cases v with
 | non=>cases h;decide
 | bl _=>cases h;decide
 | int _=>cases h;decide
 | str _=>cases h;decide
 | tup _=>cases h;decide
 | cl _=>cases h;decide
 | ref _=>rcases h with⟨rfl,_⟩ | ⟨rfl,_⟩<;>decide
def pR {pins:List (Addr×Obj)}{σ:L2.St}{F H:Hp}{C:Hw}{s:Shared}{x:V}{v:T}{u:Value}{n c:String}{Q:Value->Shared->Prop}(I:Zs X pins σ H s)(R:Rl X.K F H C)(rx:Jh X.K H x v)(ru:Z8 x u)(hn:nK v C n)(hc:c∈["bool","int","str","tuple","list","dict"])
  (h:∀tk,Q (.bool (yG n c)) {s with toks:=tk}):wpAny (model X.prog X.w) X.A (call (.builtin "isinstance") [u,.type c]) Q X.xe s:=by
 have e:=tM (K:=X.K) (uz hn) hc
 cases v with
 | non=>cases hn;cases Op rx;exact Vy I ru .non e h
 | bl b=>cases hn;cases Pq rx;exact Vy I ru (.bl b) e h
 | int b=>cases hn;cases Yi rx;exact Vy I ru (.int b) e h
 | str b=>cases hn;cases J7 rx;exact Vy I ru (.str b) e h
 | tup xs=>
  cases hn
  obtain⟨a,ys,rfl,hq,r⟩:=Yp rx
  cases ru
  obtain⟨its,_,⟨o,h1,h2,_⟩,_⟩:=I.tuple hq
  exact W.kia_one W.kitx_tuple I.kIn ⟨o,h1,h2⟩ e (λz=>nomatch z) h
 | cl xs=>
  cases hn
  obtain⟨a,ys,rfl,hq,r⟩:=Nv rx
  cases ru
  obtain⟨its,_,p,_⟩:=I.list hq.sq
  obtain⟨o,h1,h2,_⟩:=p.isList
  exact W.kia_one W.kitx_list I.kIn ⟨o,h1,h2⟩ e (λz=>nomatch z) h
 | ref a=>
  cases Z6 rx
  rcases hn with⟨rfl,xs,hx⟩ | ⟨rfl,kvs,hx⟩
  ·obtain⟨ys,hy,r⟩:=R.lst hx
   exact Vy I ru (.lst hy) e h
  ·obtain⟨ks,hy,r⟩:=R.obj a _ hx
   exact Vy I ru (.dK hy) e h
def rH {x:Str}{q2:Pos}{c:String}(hg:Gl X "isinstance")(hm:X.mg "isinstance"=none)(hgx:Gl X x)(hmx:X.mg x=none)(hvx:bootBuiltins x=some (.type c))(hc:c∈["bool","int","str","tuple","list","dict"])(ha:Ji X a wa)
  (hnx:x≠"__name__":=by decide) (hdx:(x==("__debug__":Str))=false:=by decide) (he:starEach [a,.Name x q2] X.env=[(false,eval a X.env),(false,eval (.Name x q2) X.env)]:=by rfl):Ji X (.Call (.Name "isinstance" p) [a,.Name x q2] [] pos) (lR wa c):=by
 obtain⟨ta,p1,s1⟩:=ha
 let r:List V->Hp->VK->Prop:=λxs H Q=>∃y F C v n,xs=[y,.ty c]/\Rl X.K F H C/\Jh X.K H y v/\nK v C n/\Q (.bl (yG n c)) H
 have hr:Vc X (.builtin "isinstance") r:=by
  intro pins s σ H xs us Q I rs h
  obtain⟨y,F,C,v,n,rfl,R,ry,hn,q⟩:=h
  obtain⟨u,u2,rfl,ru,ru2⟩:=rs.two
  cases ru2
  exact pR I R ry ru hn hc λtk=>⟨.bl _,H,I.tok tk,rfl,q⟩
 refine⟨_,Bd hr hg hm Gd (Lz p1 (Lz (tq (v:=.ty c) hgx hmx hvx rfl hnx hdx) zp (by rw[show starEach [Expr.Name x q2] X.env=[(false,eval (.Name x q2) X.env)] from rfl];rfl)) ?_) (by decide) (by decide) ?_ ?_,?_⟩
 ·rw[he];rfl
 ·rw[he];rfl
 ·rfl
 ·intro F H C σ τ Q Q' χ R S h q
  refine s1 F H C σ τ _ _ χ R S h λy v H1 C1 R1 t1 ry h1=>?_
  obtain⟨n,hn,h1⟩:=h1
  exact⟨y,F,C1,v,n,rfl,R1,ry,hn,q _ _ H1 C1 R1 t1 Jw h1⟩
def Zn {op:CmpOp}(ho:Ge X (compareOp op) w)(ha:Ji X a wa)(hb:Ji X b wb)(hm:behindInMarks op b=false:=by exact Ii _):jZ X (.Compare a [op] [b] pos) (xu (Jf w wa wb)):=by
 obtain⟨r,h1,h2⟩:=ho
 obtain⟨ta,p1,s1⟩:=ha
 obtain⟨tb,p2,s2⟩:=hb
 exact⟨_,uL h1 p1 p2 hm,ix (uE s1 s2 h2)⟩
def M6 (ha:Ji X a wa)(he:∀whole,isTrue a X.env whole=(do let v <-whole;standAt a.pos;holding [v] (truthy v)):=by intro _;rfl):jZ X a (qe wa):=by
 obtain⟨ta,p1,s1⟩:=ha
 exact⟨_,w5 p1 he,mz s1⟩
def Kf (ha:jZ X a wt):oZ X (.BoolOp .And [a] pos) wt:=by
 obtain⟨t,p,s⟩:=ha
 exact⟨_,uK p,s⟩
def U6 (ha:jZ X a wt):oZ X (.BoolOp .Or [a] pos) wt:=by
 obtain⟨t,p,s⟩:=ha
 exact⟨_,qv p,s⟩
def Hf (ha:jZ X a wt)(hb:oZ X (.BoolOp .And (b::J1) pos) wt'):oZ X (.BoolOp .And (a::b::J1) pos) (ir wt wt'):=by
 obtain⟨t,p,s⟩:=ha
 obtain⟨t',p',s'⟩:=hb
 exact⟨_,qw p p',iy s s'⟩
def Qr (ha:jZ X a wt)(hb:oZ X (.BoolOp .Or (b::J1) pos) wt'):oZ X (.BoolOp .Or (a::b::J1) pos) (jn wt wt'):=by
 obtain⟨t,p,s⟩:=ha
 obtain⟨t',p',s'⟩:=hb
 exact⟨_,mR p p',m7 s s'⟩
def Ma (h:oZ X a wt):jZ X a wt:=by
 obtain⟨t,p,s⟩:=h
 exact⟨_,p.pt,s⟩
def Hg (ha:jZ X a wt):jZ X (.UnaryOp .Not a pos) (ia wt):=by
 obtain⟨t,p,s⟩:=ha
 exact⟨_,qz p,iu s⟩
end
structure sR (K:W.Frag)(F H:Hp)(D:Gh)(D':We):Prop where
 nx:∀σ τ H' C',Rl K F H' C'->Tx H H'->Xb K H' σ τ->D'.nx τ C'->D.nx σ H'
 rt:∀x v H' C',Rl K F H' C'->Tx H H'->Jh K H' x v->D'.rt v C'->D.rt x H'
 bk:∀σ τ H' C',Rl K F H' C'->Tx H H'->Xb K H' σ τ->D'.bk τ C'->D.bk σ H'
 ct:∀σ τ H' C',Rl K F H' C'->Tx H H'->Xb K H' σ τ->D'.ct τ C'->D.ct σ H'
def sR.at {K:W.Frag}{F H H1:Hp}{D:Gh}{D':We}(h:sR K F H D D')(t:Tx H H1):sR K F H1 D D':=
 ⟨λσ τ H' C' R t'=>h.nx σ τ H' C' R (t.trans t'),λx v H' C' R t'=>h.rt x v H' C' R (t.trans t'),λσ τ H' C' R t'=>h.bk σ τ H' C' R (t.trans t'),λσ τ H' C' R t'=>h.ct σ τ H' C' R (t.trans t')⟩
def jY (K:W.Frag)(t:TS)(w:WS):Prop:=∀(F H:Hp) (C:Hw) (σ:L2.St) (τ:Sw) (D:Gh) (D':We),Rl K F H C->Xb K H σ τ->w D' τ C->sR K F H D D'->t D σ H
def zV (K:W.Frag)(t:TG)(w:WG):Prop:=∀(F H:Hp) (C:Hw) (σ:L2.St) (τ:Sw) (x:V) (v:T) (Q:L2.St->Hp->Prop) (Q':Sw->Hw->Prop) (χ:WX),Rl K F H C->Xb K H σ τ->Jh K H x v->w v τ C Q' χ->
 (∀σ' τ' H' C',Rl K F H' C'->Tx H H'->Xb K H' σ' τ'->Q' τ' C'->Q σ' H')->t x σ H Q
def At (K:W.Frag)(t:Ay)(w:vY):Prop:=∀(F H:Hp) (C:Hw) (σ:L2.St) (τ:Sw) (x:List V) (v:List T) (Q:L2.St->Hp->Prop) (Q':Sw->Hw->Prop) (χ:WX),Rl K F H C->Xb K H σ τ->Reps K H x v->w v τ C Q' χ->
 (∀σ' τ' H' C',Rl K F H' C'->Tx H H'->Xb K H' σ' τ'->Q' τ' C'->Q σ' H')->t x σ H Q
def xa (X:Cx)(st:Stmt)(w:WS):Prop:=∃t,PS X st t/\jY X.K t w
def ub (X:Cx)(st:List Stmt)(w:WS):Prop:=∃t,jc X st t/\jY X.K t w
def nh (X:Cx)(e:Expr)(w:WG):Prop:=∃t,PG X e t/\zV X.K t w
def sP (X:Cx)(e:List Expr)(w:vY):Prop:=∃t,kx X e t/\At X.K t w
section
variable {X:Cx}{st:Stmt}{J1:List Stmt}{w u:WS}{e tg:Expr}{we:WE}{wt:WT}{g:WG}{gs:vY}{pos:Pos}
def Y2 {K:W.Frag}{i:Nat}:zV K (Xc i) (Aa i):=λF H C σ τ x v Q Q' χ R S r h q=>q _ _ H C R (Tx.refl H) (S.set r) h
def Kx {K:W.Frag}:At K Ab Bx:=λF H C σ τ x v Q Q' χ R S r h q=>by
 obtain⟨rfl,h⟩:=h
 exact⟨J8 r,q _ _ H C R (Tx.refl H) S h⟩
def Wv {K:W.Frag}{t:TG}{u:Ay}{g:WG}{gs:vY}(a:zV K t g)(b:At K u gs):At K (Tl t u) (M4 g gs):=λF H C σ τ x v Q Q' χ R S r h q=>by
 obtain⟨v1,vs,rfl,h⟩:=h
 obtain⟨y,ys,rfl,r1,r2⟩:=Yn r
 refine⟨y,ys,rfl,a F H C σ τ y v1 _ _ χ R S r1 h λσ' τ' H' C' R' t' S' h'=>?_⟩
 exact b F H' C' σ' τ' ys vs Q Q' χ R' S' (r2.tx t') h' λσ2 τ2 H2 C2 R2 t2=>q σ2 τ2 H2 C2 R2 (t'.trans t2)
def Kw {K:W.Frag}{u:Ay}{gs:vY}{n:Nat}(b:At K u gs)(hn:∀vs τ C Q χ,gs vs τ C Q χ->vs.length=n):zV K (B0 K n u) (kF gs):=λF H C σ τ x v Q Q' χ R S r h q=>by
 obtain⟨vs,rfl,h⟩:=h
 obtain⟨a,ys,rfl,hq,rs⟩:=Yp r
 exact⟨a,ys,rfl,hq,by rw[rs.length];exact hn _ _ _ _ _ h,b F H C σ τ ys vs Q Q' χ R S rs h q⟩
def jd (n:Nat)(gs:vY):Prop:=∀vs τ C Q χ,gs vs τ C Q χ->vs.length=n
def V9:jd 0 Bx:=λvs τ C Q χ h=>by rw[h.1];rfl
def Yd {n i:Nat}{gs:vY}(b:jd n gs):jd (n+1) (M4 (Aa i) gs):=λvs τ C Q χ h=>by
 obtain⟨v,r,rfl,h⟩:=h
 rw[YF,b r _ _ _ _ h]
def Y9 {i:Nat}{x:Str}(hN:X.N.Nodup)(hi:X.N[i]?=some x:=by rfl)(hx:nA X.env.scope x:=by first | exact Or.inl rfl | exact Or.inr rfl)(hf:X.fn x=true\/X.env.scope.names.lookup x=some .local:=by first | exact .inl rfl | exact .inr rfl | assumption):nh X (.Name x pos) (Aa i):=⟨_,Y8 hN hi hx hf,Y2⟩
def Ov:sP X [] Bx:=⟨_,Nu,Kx⟩
def J2 {es:List Expr}(a:nh X e g)(b:sP X es gs)(hs:(assignEach (e::es) X.env).map (·.2)=assign e X.env::(assignEach es X.env).map (·.2):=by rfl):sP X (e::es) (M4 g gs):=by
 obtain⟨t,p,s⟩:=a
 obtain⟨t',p',s'⟩:=b
 exact⟨_,Xh p p' hs,Wv s s'⟩
def Ou {es:List Expr}{k n:Nat}(hc:X.calm=true)(b:sP X es gs)(hl:jd n gs)(hn:(assignEach es X.env).length=n:=by rfl)(hst:(assignEach es X.env).findIdx? (·.1)=none:=by rfl):nh X (.Tuple es k pos) (kF gs):=by
 obtain⟨t,p,s⟩:=b
 exact⟨_,Ig hc p hn hst,Kw s hl⟩
def zO {o i:Expr}{wo wi:WE}(ho:Ji X o wo)(hi:Ji X i wi)
  (ha:∀v,assign (.Subscript o i pos) X.env v=(do
   let ov <-holding [v] (eval o X.env)
   let iv <-holding [v,ov] (eval i X.env)
   standAt pos
   holding [v,ov,iv] (setItem ov iv v)
   release [v,ov,iv] []):=by intro _;rfl):nh X (.Subscript o i pos) (gX wo wi):=by
 obtain⟨t,p,s⟩:=ho
 obtain⟨t',p',s'⟩:=hi
 refine⟨_,wF p p' xW ha,λF H C σ τ x v Q Q' χ R S r h q=>?_⟩
 refine s F H C σ τ _ _ χ R S h λy vy H1 C1 R1 t1 ry h1=>?_
 refine s' F H1 C1 σ τ _ _ χ R1 (S.tx t1) h1 λz vz H2 C2 R2 t2 rz h2=>?_
 obtain⟨a,xs,k,j,rfl,rfl,hx,hj,h2⟩:=h2
 cases Z6 ry
 cases Yi rz
 obtain⟨ys,hy,rs⟩:=R2.lst hx
 have t12:=t1.trans t2
 obtain⟨R',t'⟩:=R2.putL hx (rs.set (r.tx t12) j)
 exact⟨a,ys,k,j,rfl,rfl,hy,by rw[rs.length];exact hj,q _ _ _ _ R' (t12.trans t') (S.tx (t12.trans t')) h2⟩
def Zu:ub X [] Rc:=⟨_,uO,λF H C σ τ D D' R S h d=>d.nx σ τ H C R (Tx.refl H) S h⟩
def Dc:xa X (.Continue pos) rh:=⟨_,Bb,λF H C σ τ D D' R S h d=>d.ct σ τ H C R (Tx.refl H) S h⟩
def Mb:xa X st ze:=⟨_,w9,λF H C σ τ D D' R S h d=>h⟩
def Zh (a:xa X st w):ub X [st] w:=by
 obtain⟨t,p,s⟩:=a
 exact⟨_,uN p,s⟩
def Zd (a:xa X st w)(b:ub X J1 u):ub X (st::J1) (Ti w u):=by
 obtain⟨t,p,s⟩:=a
 obtain⟨t',p',s'⟩:=b
 refine⟨_,w6 p p',λF H C σ τ D D' R S h d=>?_⟩
 exact s F H C σ τ _ _ R S h ⟨λσ' τ' H' C' R' t' S' h'=>s' F H' C' σ' τ' D D' R' S' h' (d.at t'),d.rt,d.bk,d.ct⟩
def Yo (a:Ji X e we)(hs:swapsWith e none pos.line X.env=pure false:=by rfl):xa X (.Expr e pos) (Cw we):=by
 obtain⟨t,p,s⟩:=a
 refine⟨_,uP p hs,λF H C σ τ D D' R S h d=>?_⟩
 exact s F H C σ τ _ _ D'.xc R S h λx v H1 C1 R1 t1 rx h1=>d.nx σ τ H1 C1 R1 t1 (S.tx t1) h1
def Zo (a:Ji X e we):xa X (.Return (some e) pos) (Eh we):=by
 obtain⟨t,p,s⟩:=a
 refine⟨_,q8 p,λF H C σ τ D D' R S h d=>?_⟩
 exact s F H C σ τ _ _ D'.xc R S h d.rt
def Z5 {c:Expr}{a b:List Stmt}{wa wb:WS}(hc:jZ X c wt)(ha:ub X a wa)(hb:ub X b wb):xa X (.If c a b pos) (uk wt wa wb):=by
 obtain⟨t,p,s⟩:=hc
 obtain⟨t1,p1,s1⟩:=ha
 obtain⟨t2,p2,s2⟩:=hb
 refine⟨_,mS p p1 p2,λF H C σ τ D D' R S h d=>?_⟩
 refine s F H C σ τ _ _ D'.xc R S h λk H1 C1 R1 t1 h1=>?_
 cases k with
 | true=>exact s1 F H1 C1 σ τ D D' R1 (S.tx t1) h1 (d.at t1)
 | false=>exact s2 F H1 C1 σ τ D D' R1 (S.tx t1) h1 (d.at t1)
def Xe (he:Ji X e we)(hg:nh X tg g)(hs:swapsWithSole [tg] e pos.line X.env=pure false:=by rfl)(hw:swappedStores [tg] e X.env=pure none:=by rfl)
  (h1:(assignEach [tg] X.env).map (·.2)=[assign tg X.env]:=by rfl):xa X (.Assign [tg] e pos) (Mx we g):=by
 obtain⟨t,p,s⟩:=he
 obtain⟨t',p',s'⟩:=hg
 refine⟨_,qC p p' hs hw h1,λF H C σ τ D D' R S h d=>?_⟩
 refine s F H C σ τ _ _ D'.xc R S h λx v H1 C1 R1 t1 rx h1=>?_
 exact s' F H1 C1 σ τ x v _ _ D'.xc R1 (S.tx t1) rx h1 λσ' τ' H' C' R' t'=>d.nx σ' τ' H' C' R' (t1.trans t')
def Zk {i:Nat}{x:Str}{pos':Pos}(hN:X.N.Nodup)(he:Ji X e we)(hi:X.N[i]?=some x:=by rfl)(hx:nA X.env.scope x:=by first | exact Or.inl rfl | exact Or.inr rfl)(hs:swapsWith e (some (.Name x pos')) pos.line X.env=pure false:=by rfl)
  (hf:X.fn x=true\/X.env.scope.names.lookup x=some .local:=by first | exact .inl rfl | exact .inr rfl | assumption):xa X (.Assign [.Name x pos'] e pos) (Mx we (Aa i)):=by
 obtain⟨t,p,s⟩:=he
 refine⟨_,q5 hN hi hx p hs hf,λF H C σ τ D D' R S h d=>?_⟩
 refine s F H C σ τ _ _ D'.xc R S h λx v H1 C1 R1 t1 rx h1=>?_
 exact Y2 F H1 C1 σ τ x v _ _ D'.xc R1 (S.tx t1) rx h1 λσ' τ' H' C' R' t'=>d.nx σ' τ' H' C' R' (t1.trans t')
end
def Mi (K:W.Frag)(F H0:Hp)(J:It)(xs:List T)(ok:Hw->Prop):Prop:=∀(i:Nat) (H:Hp) (C:Hw),Rl K F H C->Tx H0 H->ok C->
 (i<xs.length->J.go i H/\∀x H',J.yld i H x H'->∃v,xs[i]?=some v/\Rl K F H' C/\Tx H H'/\Jh K H' x v)/\(i=xs.length->J.stop i H)
def oY (K:W.Frag)(wi:TI)(w:WI):Prop:=∀(F H:Hp) (C:Hw) (σ:L2.St) (τ:Sw) (R:It->Hp->Prop) (R':List T->(Hw->Prop)->Hw->Prop) (χ:WX),Rl K F H C->Xb K H σ τ->w τ C R' χ->
 (∀J H' xs ok C',Rl K F H' C'->Tx H H'->(∀F',Mi K F' H' J xs ok)->R' xs ok C'->R J H')->wi σ H R
def ng (X:Cx)(tg e:Expr)(w:WI):Prop:=∃t,PI X tg e t/\oY X.K t w
section
variable {X:Cx}{tg e a b:Expr}{we:WE}{wA:WA}{pos p:Pos}
def tO {K:W.Frag}{F H0:Hp}{l:Addr}{xs:List T}:Mi K F H0 (kN K l) xs (λC=>C l=some (.lst xs)):=λi H C R t ok=>by
 obtain⟨ys,hy,r⟩:=R.lst ok
 refine⟨λhi=>?_,λhi=>⟨ys,Xv.of hy,by rw[r.length];omega⟩⟩
 have ev:xs[i]?=some xs[i]:=by simp[hi]
 obtain⟨y,ey,ry⟩:=r.get ev
 refine⟨⟨ys,y,Xv.of hy,ey⟩,λx H' h=>?_⟩
 obtain⟨rfl,h⟩:=h
 have e2:=h ys (Xv.of hy)
 rw[ey] at e2;cases e2
 exact⟨_,ev,R,Tx.refl _,ry⟩
def lK {K:W.Frag}{F H0:Hp}{l:Addr}{ys:List V}{xs:List T}(h0:rM K H0 l ys)(r0:Reps K H0 ys xs):Mi K F H0 (kN K l) xs (λ_=>True):=λi H C R t ok=>by
 have hy:=(t.sqc h0).sq
 have r:=r0.tx t
 refine⟨λhi=>?_,λhi=>⟨ys,hy,by rw[r.length];omega⟩⟩
 have ev:xs[i]?=some xs[i]:=by simp[hi]
 obtain⟨y,ey,ry⟩:=r.get ev
 refine⟨⟨ys,y,hy,ey⟩,λx H' h=>?_⟩
 obtain⟨rfl,h⟩:=h
 have e2:=h ys hy
 rw[ey] at e2;cases e2
 exact⟨_,ev,R,Tx.refl _,ry⟩
def pN {K:W.Frag}{F H0:Hp}{l:Addr}{ys:List V}{xs:List T}(h0:Uu K H0 l ys)(r0:Reps K H0 ys xs):Mi K F H0 (gB K l) xs (λ_=>True):=λi H C R t ok=>by
 have hy:=t.sqt h0
 have r:=r0.tx t
 refine⟨λhi=>?_,λhi=>⟨ys,hy,by rw[r.length];omega⟩⟩
 have ev:xs[i]?=some xs[i]:=by simp[hi]
 obtain⟨y,ey,ry⟩:=r.get ev
 refine⟨⟨ys,y,hy,ey⟩,λx H' h=>?_⟩
 obtain⟨rfl,h⟩:=h
 have e2:=h ys hy
 rw[ey] at e2;cases e2
 exact⟨_,ev,R,Tx.refl _,ry⟩
def pO {K:W.Frag}{F H0:Hp}{z:Str}:Mi K F H0 (kL z) (z.cps.toList.map λc=>T.str ⟨#[c]⟩) (λ_=>True):=λi H C R t ok=>by
 refine⟨λhi=>⟨by show i<z.cps.size;simpa using hi,λx H' h=>?_⟩,λhi=>by show i=z.cps.size;simpa using hi⟩
 obtain⟨rfl,c,hc,rfl⟩:=h
 refine⟨.str ⟨#[c]⟩,?_,R,Tx.refl _,Sa⟩
 rw[XM,Array.getElem?_toList,hc];rfl
def pP {K:W.Frag}{F H0:Hp}{lo:Int}{n:Nat}:Mi K F H0 (kM lo n) (rng lo n) (λ_=>True):=λi H C R t ok=>by
 have hl:(rng lo n).length=n:=by unfold rng;simp
 refine⟨λhi=>⟨by rw[hl] at hi;exact hi,λx H' h=>?_⟩,λhi=>by show n<=i;omega⟩
 obtain⟨rfl,rfl⟩:=h
 refine⟨.int (lo+i),?_,R,Tx.refl _,Y7⟩
 unfold rng
 rw[hl] at hi
 rw[XM,List.getElem?_range hi];rfl
def xT {pins:List (Addr×Obj)}{σ:L2.St}{H1:Hp}{s1:Shared}{R:It->Hp->Prop}{z:Str}{v:Value}(I1:Zs X pins σ H1 s1)(r1:Z8 (.str z) v)(q:R (kL z) H1):wpAny (model X.prog X.w) X.A (pyIter v) (kI X pins σ tg R) X.xe s1:=by
 obtain⟨t,rfl⟩:=r1
 have fin:∀b∈[s1.heap.objs.size],Mj X pins H1 b:=λb hb=>by
  have e:b=s1.heap.objs.size:=by simpa using hb
  subst e
  exact I1.fpOk (XE _) I1.fresh
 cases ha:z.cps.all (·<128)
 ·refine wpAny_pyIter_wide ha ⟨s1.heap.objs.size,[s1.heap.objs.size],_,_,H1,rfl,I1.kept (t':=s1.toks) λb o e=>XC _ e,Ks (ty:="str_iterator") (by decide) (λA hA=>Walks.strWide hA _ z t) λ_ _ _ _ _ st h=>wpAny_pyIter_striter_wide st h,⟨_,XF _ rfl,rfl,rfl⟩,fin,q⟩
 ·refine wpAny_pyIter_ascii ha ⟨s1.heap.objs.size,[s1.heap.objs.size],_,_,H1,rfl,I1.kept (t':=s1.toks) λb o e=>XC _ e,Ks (ty:="str_ascii_iterator") (by decide) (λA hA=>Walks.strAscii hA _ z t) λ_ _ _ _ _ st h=>wpAny_pyIter_striter_ascii st h,⟨_,XF _ rfl,rfl,rfl⟩,fin,q⟩
def iT (K:W.Frag)(tl:TE):TI:=λσ H R=>tl σ H λx H1=>(∃a,x=.ref a/\(∃xs,Xv K H1 a xs)/\R (kN K a) H1)\/(∃a,x=.ref a/\(∃xs,Uu K H1 a xs)/\R (gB K a) H1)\/∃z,x=.str z/\R (kL z) H1
def qF {tl:TE}(hl:PE X e tl):PI X tg e (iT X.K tl):=by
 intro pins s σ H R I h
 refine Jp (hl pins s σ H _ I h) λv s1 ⟨x,H1,I1,r1,q1⟩=>?_
 rcases q1 with⟨a,rfl,⟨xs,hq⟩,q⟩ | ⟨a,rfl,⟨xs,hq⟩,q⟩ | ⟨z,rfl,q⟩
 ·cases r1
  obtain⟨its,rv,p,hz⟩:=I1.list hq
  refine wpAny_pyIter_list p.isList ?_
  refine⟨s1.heap.objs.size,[s1.heap.objs.size],_,_,H1,rfl,I1.kept (t':=s1.toks) λb o e=>XC _ e,jk a _,⟨_,XF _ rfl,rfl,rfl⟩,λb hb=>?_,q⟩
  have e:b=s1.heap.objs.size:=by simpa using hb
  subst e
  exact I1.fpOk (XE _) (I1.hok.fresh (XE _))
 ·cases r1
  obtain⟨its,rv,p,hz⟩:=I1.tuple hq
  refine wpAny_pyIter_tuple (show s1.heap.IsTuple a its.toArray from p) ?_
  refine⟨s1.heap.objs.size,[s1.heap.objs.size],_,_,H1,rfl,I1.kept (t':=s1.toks) λb o e=>XC _ e,A5 a _,⟨_,XF _ rfl,rfl,rfl⟩,λb hb=>?_,q⟩
  have e:b=s1.heap.objs.size:=by simpa using hb
  subst e
  exact I1.fpOk (XE _) (I1.hok.fresh (XE _))
 ·exact xT I1 r1 q
def Wl (h:Ji X e we):ng X tg e (pU we):=by
 obtain⟨t,p,s⟩:=h
 refine⟨_,qF p,λF H C σ τ R R' χ Rr S h q=>?_⟩
 refine s F H C σ τ _ _ χ Rr S h λx v H1 C1 R1 t1 rx h1=>?_
 cases v with
 | tup xs=>
  obtain⟨a,ys,rfl,hq,r⟩:=Yp rx
  exact .inr (.inl ⟨a,rfl,⟨ys,hq⟩,q _ H1 xs _ C1 R1 t1 (λ_=>pN hq r) h1⟩)
 | cl xs=>
  obtain⟨a,ys,rfl,hq,r⟩:=Nv rx
  exact .inl ⟨a,rfl,⟨ys,hq.sq⟩,q _ H1 xs _ C1 R1 t1 (λ_=>lK hq r) h1⟩
 | str z=>cases J7 rx;exact .inr (.inr ⟨z,rfl,q _ H1 _ _ C1 R1 t1 (λ_=>pO) h1⟩)
 | ref a=>
  cases Z6 rx
  obtain⟨xs,hx,h1⟩:=h1
  obtain⟨ys,hy,r⟩:=R1.lst hx
  exact .inl ⟨a,rfl,⟨ys,Xv.of hy⟩,q _ H1 xs _ C1 R1 t1 (λ_=>tO) h1⟩
 | _=>exact False.elim h1
def rG (hg:Gl X "range")(hm:X.mg "range"=none)(ha:zX X [a] wA)(hs:starEach [a] X.env=[(false,eval a X.env)]:=by rfl):ng X tg (.Call (.Name "range" p) [a] [] pos) (gW wA):=by
 obtain⟨t,p1,s⟩:=ha
 refine⟨_,jy hg hm p1 hs,λF H C σ τ R R' χ Rr S h q=>?_⟩
 refine s F H C σ τ _ _ χ Rr S h λxs vs H1 C1 R1 t1 rs h1=>?_
 obtain⟨j,rfl,h2,h3,h1⟩:=h1
 obtain⟨x,rfl,rx⟩:=Wi rs
 cases Yi rx
 exact⟨j,rfl,h2,h3,q _ H1 _ _ C1 R1 t1 (λ_=>pP) h1⟩
end
def uC {K:W.Frag}{wi:TI}{g:TG}{tb:TS}{i:WI}{g':WG}{b:WS}(hi:oY K wi i)(hg:zV K g g')(hb:jY K tb b):jY K (md wi g tb) (uF i g' b):=λF H C σ τ D D' R S h d=>by
 refine hi F H C σ τ _ _ D'.xc R S h λJ H1 xs ok C1 R1 t1 it h1=>?_
 have it1:=it F
 refine⟨λi m σ H=>m=xs.length-i/\i<=xs.length/\∃τ C,Rl K F H C/\Tx H1 H/\Xb K H σ τ/\Ac g' b ok D' (xs.drop i) τ C,⟨xs.length,by simp,Nat.zero_le _,τ,C1,R1,Tx.refl _,S.tx t1,h1⟩,?_⟩
 rintro i m σ2 H2 ⟨rfl,hle,τ2,C2,R2,t2,S2,h2⟩
 by_cases hlt:i<xs.length
 ·right
  have ed:xs.drop i=xs[i]::xs.drop (i+1):=List.drop_eq_getElem_cons hlt
  rw[ed] at h2
  obtain⟨hok,h2⟩:=h2
  obtain⟨hgo,hy⟩:=(it1 i H2 C2 R2 t2 hok).1 hlt
  refine⟨hgo,λσ' H'=>∃τ' C',Rl K F H' C'/\Tx H1 H'/\Xb K H' σ' τ'/\Ac g' b ok D' (xs.drop (i+1)) τ' C',λσ' H' q=>⟨xs.length-(i+1),by omega,rfl,hlt,q⟩,λx H' hx=>?_⟩
  obtain⟨v,ev,R3,t3,rv⟩:=hy x H' hx
  have:v=xs[i]:=by
   have e:xs[i]?=some xs[i]:=by simp[hlt]
   rw[e] at ev;exact(YH ev).symm
  subst this
  refine hg F H' C2 σ2 τ2 x _ _ _ D'.xc R3 (S2.tx t3) rv h2 λσ4 τ4 H4 C4 R4 t4 S4 h4=>?_
  have tt:Tx H1 H4:=(t2.trans t3).trans t4
  exact hb F H4 C4 σ4 τ4 _ _ R4 S4 h4 ⟨λσ5 τ5 H5 C5 R5 t5 S5 h5=>⟨τ5,C5,R5,tt.trans t5,S5,h5⟩,λx v H5 C5 R5 t5=>d.rt x v H5 C5 R5 ((t1.trans tt).trans t5),λσ5 τ5 H5 C5 R5 t5 S5 h5=>d.nx σ5 τ5 H5 C5 R5 ((t1.trans tt).trans t5) S5 h5,
   λσ5 τ5 H5 C5 R5 t5 S5 h5=>⟨τ5,C5,R5,tt.trans t5,S5,h5⟩⟩
 ·left
  have e:i=xs.length:=by omega
  subst e
  rw[List.drop_length] at h2
  obtain⟨hok,h2⟩:=h2
  exact⟨(it1 _ H2 C2 R2 t2 hok).2 rfl,d.nx σ2 τ2 H2 C2 R2 (t1.trans t2) S2 h2⟩
def Sg {X:Cx}{tg iter:Expr}{body:List Stmt}{i:WI}{g:WG}{b:WS}{pos:Pos}(hp:PassesOwn (model X.prog X.w) X.A X.env X.xe)(hc:X.calm=true)(hi:ng X tg iter i)(hg:nh X tg g)(hb:ub X body b)
  (hs:∀x,foldedSetIterable iter X.env x=pure x:=by intro _;rfl):xa X (.For tg iter body [] pos) (uF i g b):=by
 obtain⟨t,p,s⟩:=hi
 obtain⟨t',p',s'⟩:=hg
 obtain⟨t2,p2,s2⟩:=hb
 exact⟨_,qA hp hc p p' p2 hs,uC s s' s2⟩
def kA (K:W.Frag)(we:WE):TE:=λσ H Q=>∃(F:Hp) (C:Hw) (τ:Sw) (Q':WK) (χ:WX),Rl K F H C/\Xb K H σ τ/\we τ C Q' χ/\QE K F H Q Q'
def jl (K:W.Frag)(wt:WT):TT:=λσ H Q=>∃(F:Hp) (C:Hw) (τ:Sw) (Q':Bool->Hw->Prop) (χ:WX),Rl K F H C/\Xb K H σ τ/\wt τ C Q' χ/\QT K F H Q Q'
def Ji.pe {X:Cx}{e:Expr}{we:WE}(h:Ji X e we):PE X e (kA X.K we):=by
 obtain⟨t,p,s⟩:=h
 intro pins st σ H Q I hq
 obtain⟨F,C,τ,Q',χ,R,S,hw,q⟩:=hq
 exact p pins st σ H Q I (s F H C σ τ Q Q' χ R S hw q)
def ua (X:Cx)(ifs:List Expr)(w:WT):Prop:=∃t,xf X ifs t/\O6 X.K t w
def X0 {X:Cx}:ua X [] qd:=⟨_,uV,λF H C σ τ Q Q' χ R S h q=>q true H C R (Tx.refl H) h⟩
def tW {X:Cx}{e:Expr}{wt:WT}(h:jZ X e wt):ua X [e] wt:=by
 obtain⟨t,p,s⟩:=h
 exact⟨t,uU p,s⟩
def ua.pif {X:Cx}{ifs:List Expr}{w:WT}(h:ua X ifs w):xf X ifs (jl X.K w):=by
 obtain⟨t,p,s⟩:=h
 intro pins st σ H Q I hq
 obtain⟨F,C,τ,Q',χ,R,S,hw,q⟩:=hq
 exact p pins st σ H Q I (s F H C σ τ Q Q' χ R S hw q)
def Xb.cap {K:W.Frag}{H:Hp}{σ:L2.St}{τ:Sw}(h:Xb K H σ τ)(cap:List (Option Nat)):Xb K H (Oz cap σ) (Dg cap τ):=by
 refine⟨by unfold Oz Dg;rw[XI,XI],λi v e=>?_⟩
 unfold Dg at e
 unfold Oz
 rw[XM] at e |-
 cases ho:cap[i]? with
 | none=>rw[ho] at e;cases e
 | some o=>
  rw[ho] at e
  cases o with
  | none=>simp at e
  | some j=>
   have e':(τ[j]?).join=some v:=by simpa using e
   have e2:τ[j]?=some (some v):=by
    cases hj:τ[j]? with
    | none=>rw[hj] at e';cases e'
    | some z=>rw[hj] at e';rw[show z=some v from e']
   obtain⟨x,hx,r⟩:=h.2 j v e2
   exact⟨x,by simp[hx],r⟩
def vo (F:Hp)(p:Addr)(ys:List V):Hp:=λb=>if b=p then some (.lst ys) else F b
def N0 {F:Hp}{p:Addr}{ys:List V}:vo F p ys p=some (.lst ys):=by unfold vo;rw[XY rfl]
def E7 {F:Hp}{p b:Addr}{ys:List V}(h:b≠p):vo F p ys b=F b:=by unfold vo;rw[XX h]
def Cp {K:W.Frag}{cap:List (Option Nat)}{wi:TI}{g:TG}{i:WI}{wg:WG}{wc:WT}{we:WE}(hi:oY K wi i)(hg:zV K g wg){F H:Hp}{C:Hw}{σ:L2.St}{τ:Sw}{Q:Addr->Hp->Prop}{Q':WK}{χ:WX}
  (R:Rl K F H C) (S:Xb K H σ τ) (h:yO cap i wg wc we τ C Q' χ) (q:∀p H' C',Rl K F H' C'->Tx H H'->Q' (.ref p) C'->Q p H'):Fz cap wi g (jl K wc) (kA K we) σ H Q:=by
 refine hi F H C σ τ _ _ χ R S h λJ H1 xs ok C1 R1 t1 it h1=>?_
 intro p hp
 have hn:∀a o,F a=some o->a≠p:=λa o e=>Y4 (R1.frm a o e).1 hp
 refine⟨λi m H2=>m=xs.length-i/\i<=xs.length/\∃C2 ys acc,Rl K (vo F p ys) H2 C2/\Tx H1 H2/\Reps K H2 ys acc/\Me wg wc we ok (Dg cap τ) (λvs C2=>∀p,C2 p=none->Q' (.ref p) (up C2 p (.lst vs))) χ (xs.drop i) acc C2,
  ⟨xs.length,by simp,Nat.zero_le _,C1,[],[],?_,Tx.new hp,Yv,h1⟩,?_⟩
 ·refine⟨(R1.hid hp).obj,λa o e=>?_⟩
  by_cases ea:a=p
  ·subst ea
   rw[N0] at e;cases e
   exact⟨Z3,R1.free hp⟩
  ·rw[E7 ea] at e
   exact(R1.hid hp).frm a o e
 rintro i m H2 ⟨rfl,hle,C2,ys,acc,R2,t2,ra,h2⟩
 by_cases hlt:i<xs.length
 ·right
  have ed:xs.drop i=xs[i]::xs.drop (i+1):=List.drop_eq_getElem_cons hlt
  rw[ed] at h2
  obtain⟨hok,h2⟩:=h2
  obtain⟨hgo,hy⟩:=(it (vo F p ys) i H2 C2 R2 t2 hok).1 hlt
  refine⟨hgo,λH'=>∃C2 ys acc,Rl K (vo F p ys) H' C2/\Tx H1 H'/\Reps K H' ys acc/\Me wg wc we ok (Dg cap τ) (λvs C2=>∀p,C2 p=none->Q' (.ref p) (up C2 p (.lst vs))) χ (xs.drop (i+1)) acc C2,
   λH' z=>⟨xs.length-(i+1),by omega,rfl,hlt,z⟩,λx H' hx=>?_⟩
  obtain⟨v,ev,R3,t3,rv⟩:=hy x H' hx
  have:v=xs[i]:=by
   have e:xs[i]?=some xs[i]:=by simp[hlt]
   rw[e] at ev;exact(YH ev).symm
  subst this
  have S3:Xb K H' (Oz cap σ) (Dg cap τ):=(S.tx ((t1.trans t2).trans t3)).cap cap
  refine hg (vo F p ys) H' C2 (Oz cap σ) (Dg cap τ) x _ _ _ χ R3 S3 rv h2 λσ4 τ4 H4 C4 R4 t4 S4 h4=>?_
  refine⟨vo F p ys,C4,τ4,_,χ,R4,S4,h4,λb H5 C5 R5 t5 h5=>?_⟩
  have t15:Tx H2 H5:=(t3.trans t4).trans t5
  cases b with
  | true=>
   refine⟨vo F p ys,C5,τ4,_,χ,R5,S4.tx t5,h5,λy vy H6 C6 R6 t6 ry h6=>?_⟩
   obtain⟨e6,n6⟩:=R6.frm p _ N0
   have tp:Tx H6 (Yq H6 p (.lst (ys++[y]))):=Tx.put e6 (λz=>z)
   refine⟨ys,e6,by rw[ra.length];exact h6.1,C6,ys++[y],acc++[vy],⟨λa o e=>?_,λa o e=>?_⟩,(t2.trans (t15.trans t6)).trans tp,((ra.tx (t15.trans t6)).snoc ry).tx tp,h6.2⟩
   ·have ea:a≠p:=λz=>by subst z;rw[n6] at e;cases e
    exact(R6.obj a o e).stay tp (Zt ea)
   ·by_cases ea:a=p
    ·subst ea
     rw[N0] at e;cases e
     exact⟨Z3,n6⟩
    ·rw[E7 ea] at e
     rw[Zt ea]
     exact R6.frm a o (by rw[E7 ea];exact e)
  | false=>exact⟨C5,ys,acc,R5,t2.trans t15,ra.tx t15,h5⟩
 ·left
  have e:i=xs.length:=by omega
  subst e
  rw[List.drop_length] at h2
  obtain⟨hok,h2⟩:=h2
  refine⟨(it (vo F p ys) _ H2 C2 R2 t2 hok).2 rfl,?_⟩
  obtain⟨e6,n6⟩:=R2.frm p _ N0
  refine q p H2 (up C2 p (.lst acc)) ⟨λa o e=>?_,λa o e=>?_⟩ (t1.trans t2) (h2 p n6)
  ·by_cases ea:a=p
   ·subst ea
    rw[Ze] at e;cases e
    exact⟨ys,e6,ra⟩
   ·rw[Zg ea] at e
    exact R2.obj a o e
  ·have ea:=hn a o e
   rw[Zg ea]
   exact R2.frm a o (by rw[E7 ea];exact e)
section
variable {X:Cx}{tg iter elt:Expr}{ifs:List Expr}{scope:Scope}{pos:Pos}{cN:List Str}{cap:List (Option Nat)}{cl:List (Str×Addr)}{js:List Nat}{i:WI}{g:TG}{wg:WG}{wc:WT}{we:WE}
def Gj {K:W.Frag}{w:WT}:∀(σ:L2.St) (H:Hp) (Q Q':Bool->Hp->Prop),(∀b H',Q b H'->Q' b H')->jl K w σ H Q->jl K w σ H Q':=λσ H Q Q' m h=>by
 obtain⟨F,C,τ,R',χ,R,S,hw,q⟩:=h
 exact⟨F,C,τ,R',χ,R,S,hw,λb H' C' r t h=>m _ _ (q b H' C' r t h)⟩
structure rO (X:Cx)(tg iter elt:Expr)(ifs:List Expr)(scope:Scope)(cN:List Str)(cap:List (Option Nat))(cl:List (Str×Addr))(js:List Nat)(i:WI)(g:TG)(wg:WG)(wc:WT)(we:WE):Prop where
 calm:X.calm=true
 ok:X.Ok->Ho X cN cap scope cl
 it:ng X tg iter i
 tgt:∀fp s H,PG (Yt X cN scope cl fp s H) tg g
 gm:O5 g
 gk:Fj js g
 sg:zV X.K g wg
 js0:∀j∈js,(cap[j]?).join=none
 ts:∀fp s H,ua (Yt X cN scope cl fp s H) ifs wc
 el:∀fp s H,Ji (Yt X cN scope cl fp s H) elt we
 fold:∀x,foldedSetIterable iter X.env x=pure x
def Si (D:rO X tg iter elt ifs scope cN cap cl js i g wg wc we):Ji X (.ListComp elt [⟨tg,iter,ifs,0⟩] scope pos) (yO cap i wg wc we):=by
 obtain⟨wi,p,s⟩:=D.it
 have P:Aw X tg iter elt ifs scope cN cap cl js wi g (jl X.K wc) (kA X.K we):=⟨D.calm,D.ok,p,D.tgt,D.gm,D.gk,D.js0,λfp s H=>(D.ts fp s H).pif,Gj,λfp s H=>(D.el fp s H).pe,D.fold⟩
 exact⟨_,uZ P,λF H C σ τ Q Q' χ R S h q=>Cp s D.sg R S h λp H' C' R' t' h'=>q _ _ H' C' R' t' Jb h'⟩
def Ot {k:Nat}{y:Str}{py spos:Pos}(hN:X.N.Nodup)(hi:X.N[k]?=some y)(hy:X.env.scope.names.lookup y=some .local)
  (hsw:swapsWith (.ListComp elt [⟨tg,iter,ifs,0⟩] scope pos) (some (.Name y py)) spos.line X.env=pure true)
  (D:rO X tg iter elt ifs scope cN cap cl js i g wg wc we):xa X (.Assign [.Name y py] (.ListComp elt [⟨tg,iter,ifs,0⟩] scope pos) spos) (Mx (yO cap i wg wc we) (Aa k)):=by
 obtain⟨wi,p,s⟩:=D.it
 have P:Aw X tg iter elt ifs scope cN cap cl js wi g (jl X.K wc) (kA X.K we):=⟨D.calm,D.ok,p,D.tgt,D.gm,D.gk,D.js0,λfp s H=>(D.ts fp s H).pif,Gj,λfp s H=>(D.el fp s H).pe,D.fold⟩
 exact⟨_,zh hN hi hy hsw P,λF H C σ τ E E' R S h d=>Cp s D.sg R S h λp H' C' R' t' h'=>d.nx _ _ H' C' R' t' ((S.tx t').set Jb) h'⟩
end
def Yg {A:Around}{k:Nat}(hr:X5 k A):A.units+150<cLine:=by have:=hr.un;omega
def spW (K:W.Frag)(pr:List Df)(n i:Nat):Sp:=λvs H Q _=>∃(F:Hp) (C:Hw) (vs':List T) (Q':WK) (χ:WX),Rl K F H C/\Reps K H vs vs'/\Ya pr n i vs' C Q' χ/\QE K F H Q Q'
def Zp {X:Cx}{k i:Nat}{x:Str}{ps:List Str}{pr:List Df}{p pos:Pos}{e:Expr}{es:List Expr}{wA:WA}(Cc:Ca X.prog X.w X.K X.mg X.base k x ps (spW X.K pr k i))(hr:X5 k X.A)(hg:Gl X x)(ha:zX X (e::es) wA)
  (hdb:(x==("__debug__":Str))=false:=by decide) (he:starEach (e::es) X.env=(false,eval e X.env)::starEach es X.env:=by rfl) (hpl:(backTo pos (starEach es X.env)).any (·.1)=false:=by rfl):
  Ji X (.Call (.Name x p) (e::es) [] pos) (Qq (Ya pr k) i wA):=by
 obtain⟨t,p1,s⟩:=ha
 refine⟨_,mY Cc hr hg p1 hdb he hpl,λF H C σ τ Q Q' χ R S h q=>?_⟩
 refine s F H C σ τ _ _ χ R S h λxs vs H1 C1 R1 t1 rs h1=>?_
 refine⟨F,C1,vs,Q',χ,R1,?_,h1,QE.at q t1⟩
 rw[YK];exact rs
def Xb.start {K:W.Frag}{H:Hp}{vs:List V}{vs':List T}(h:Reps K H vs vs')(N:List Str)(m:Nat)(e:m=N.length-vs.length):Xb K H (start N vs) (vs'.map some++List.replicate m none):=by
 refine⟨?_,λi v hv=>?_⟩
 ·unfold L2.start
  rw[List.length_append,List.length_append,XI,XI,List.length_replicate,List.length_replicate,h.length,e,h.length]
 ·unfold L2.start
  by_cases hi:i<vs'.length
  ·rw[List.getElem?_append_left (by rw[XI];exact hi),XM] at hv
   cases hg:vs'[i]? with
   | none=>rw[hg] at hv;cases hv
   | some z=>
    rw[hg] at hv
    cases hv
    obtain⟨x,hx,r⟩:=h.get hg
    refine⟨x,?_,r⟩
    rw[List.getElem?_append_left (by rw[XI,h.length];exact hi),XM,hx]
    rfl
  ·rw[List.getElem?_append_right (by rw[XI];omega),List.getElem?_replicate] at hv
   split at hv
   ·cases hv
   ·cases hv
def sj {P:Program}{w:World}{K:W.Frag}{mg:Str->Option Value}{base:Heap}{x:Str}{st:Stmt}{f:Addr}{fd:FuncData}{ps:List Str}{pr:List Df}{i:Nat}(F:ya K x x st f fd)(hb:X6 K fd ps [])(hm:mg x=some (.ref f)):Ca P w K mg base 0 x ps (spW K pr 0 i):=
 ⟨f,fd,⟨λvs H Q E h=>by obtain⟨_,_,_,_,_,_,_,z,_⟩:=h;exact z.elim,λA outer s H args us vs Q E _ _ _ _ h=>by obtain⟨_,_,_,_,_,_,_,z,_⟩:=h;exact z.elim⟩,hb,F.kp,hm⟩
def sn {P:Program}{w:World}{K:W.Frag}{mg:Str->Option Value}{base:Heap}{x:Str}{st:Stmt}{f:Addr}{fd:FuncData}{ps:List Str}{sp:Sp}{n:Nat}(F:ya K x x st f fd)(hb:X6 K fd ps [])(hm:mg x=some (.ref f))(G:Ud P w K mg base CX0 n f fd ps sp):Ca P w K mg base n x ps sp:=
 ⟨f,fd,G,hb,F.kp,hm⟩
def law_sp {K:W.Frag}{pr:List Df}{n i:Nat}{H:Hp}{a:Addr}{ns:List Int}(hO:ud H)(hS:Xv K H a (ns.map V.int))(h:Ya pr n i [.cl (ns.map T.int)] (λ_=>none) (λv _=>v=.bl true) (λ_ _=>False)):
  spW K pr n i [.ref a] H (λv _=>v=.bl true) (λ_ _ _=>False):=by
 have hq:rM K H a (ns.map V.int):=by
  rcases hS with(h | ⟨o,h⟩) | h
  ·rcases hO a with e | ⟨o,xs,e⟩
   ·rw[e] at h;cases h
   ·rw[e] at h;cases h
  ·exact .inl ⟨o,h⟩
  ·exact .inr h
 refine⟨λ_=>none,λ_=>none,[.cl (ns.map T.int)],_,_,⟨(λ_ _ e=>by cases e),(λ_ _ e=>by cases e)⟩,Yh ?_ Yv,h,λx v H' C' R t r e=>?_⟩
 ·unfold Jh
  exact⟨a,_,rfl,hq,Gs ns⟩
 ·subst e;exact Pq r
end WL
namespace L2
open PySem PySem.Spec PyProof.Rows
section
variable {κ:Type}[DecidableEq κ]
def V1 (kvs:List (κ×V))(k:κ):Option V:=(kvs.find? λkv=>decide (kv.1=k)).map (·.2)
def Xu (kvs:List (κ×V))(k:κ)(v:V):List (κ×V):=
 if (kvs.any λkv=>decide (kv.1=k))=true then kvs.map (λkv=>if kv.1=k then(kv.1,v) else kv) else kvs++[(k,v)]
def rF (kvs:List (κ×V))(k:κ):List (κ×V):=kvs.filter λkv=>decide (kv.1≠k)
def Nd {p:κ×V}{r:List (κ×V)}{k:κ}(e:p.1=k):V1 (p::r) k=some p.2:=by simp[V1,List.find?_cons,e]
def Nf {p:κ×V}{r:List (κ×V)}{k:κ}(e:¬p.1=k):V1 (p::r) k=V1 r k:=by simp[V1,List.find?_cons,e]
def D0 (k:κ):∀kvs:List (κ×V),(kvs.any λkv=>decide (kv.1=k))=(V1 kvs k).isSome
 | []=>rfl
 | p::r=>by
  rw[List.any_cons]
  by_cases e:p.1=k
  ·simp only[Nd e,decide_eq_true e,Bool.true_or,Option.isSome_some]
  ·rw[Nf e,YG e,Bool.false_or];exact D0 k r
def Up (kvs:List (κ×V))(k:κ)(v:V):(Xu kvs k v).length<=kvs.length+1:=by
 unfold Xu
 split
 ·rw[XI];omega
 ·rw[List.length_append,YF,List.length_nil];omega
def Pf.isSome_eq {o:Option V}{u:Option Value}(r:Pf o u):o.isSome=u.isSome:=by
 cases o with
 | none=>cases u with
  | none=>rfl
  | some _=>exact(show False from r).elim
 | some _=>cases u with
  | none=>exact(show False from r).elim
  | some _=>rfl
def KV.val {kvs:List (κ×V)}{vs:List (κ×Value)}(r:KV kvs vs)(k:κ):Pf (V1 kvs k) (valueAt vs k):=by
 unfold KV at r
 induction r with
 | nil=>exact True.intro
 | @cons p q ps qs h t ih=>
  obtain⟨h1,h2⟩:=h
  by_cases e:p.1=k
  ·have e':q.1=k:=h1.symm.trans e
   have b:valueAt (q::qs) k=some q.2:=by simp[valueAt,List.find?_cons,e']
   rw[Nd e,b];exact h2
  ·have e':¬q.1=k:=λz=>e (h1.trans z)
   have b:valueAt (q::qs) k=valueAt qs k:=by simp[valueAt,List.find?_cons,e']
   rw[Nf e,b];exact ih
def KV.any {kvs:List (κ×V)}{vs:List (κ×Value)}(r:KV kvs vs)(k:κ):(kvs.any λkv=>decide (kv.1=k))=vs.any λkv=>decide (kv.1=k):=by
 unfold KV at r
 induction r with
 | nil=>rfl
 | cons h t ih=>rw[List.any_cons,List.any_cons,ih,h.1]
def KV.repl {kvs:List (κ×V)}{vs:List (κ×Value)}(r:KV kvs vs)(k:κ){y:V}{u:Value}(ry:Z8 y u):
  KV (kvs.map λkv=>if kv.1=k then(kv.1,y) else kv) (vs.map λkv=>if kv.1=k then(kv.1,u) else kv):=by
 unfold KV at r |-
 induction r with
 | nil=>exact .nil
 | @cons p q ps qs h t ih=>
  rw[YI,YI]
  refine .cons ?_ ih
  obtain⟨h1,h2⟩:=h
  by_cases e:p.1=k
  ·rw[XY e,XY (h1.symm.trans e)];exact⟨h1,ry⟩
  ·rw[XX e,XX (λz=>e (h1.trans z))];exact⟨h1,h2⟩
def KV.put {kvs:List (κ×V)}{vs:List (κ×Value)}(r:KV kvs vs)(k:κ){y:V}{u:Value}(ry:Z8 y u):KV (Xu kvs k y) (stored vs k u):=by
 unfold Xu stored
 rw[r.any k]
 by_cases e:(vs.any λkv=>decide (kv.1=k))=true
 ·rw[XY e,XY e];exact r.repl k ry
 ·rw[XX e,XX e];exact Paired.snoc r ⟨rfl,ry⟩
def KV.length {kvs:List (κ×V)}{vs:List (κ×Value)}(r:KV kvs vs):kvs.length=vs.length:=Paired.length r
end
def Lg {P:Program}{w:World}{k:Zz}{u:Value}(r:Z8 (kV k) u):(Yc P w).is k u=true:=by
 cases k with
 | inl i=>obtain⟨t,e⟩:=(show ∃t,u=Value.int i t from r);subst e;exact Bi P w i t
 | inr x=>obtain⟨t,e⟩:=(show ∃t,u=Value.str x t from r);subst e;exact Bh P w x t
def Gw {P:Program}{w:World}:∀{ks:List Zz} {us:List Value},Z7 (ks.map kV) us->ItemsAre (Yc P w) ks us
 | [],_,r=>by rw[List.map_nil] at r;cases r;exact .nil
 | k::ks,_,r=>by
  rw[YI] at r
  cases r with
  | cons h t=>exact .cons (Lg h) (Gw t)
abbrev KT (H:Hp):List (List Zz×V)->List (List Zz×Addr×Value)->Prop:=Paired λp q=>p.1=q.1/\H q.2.1=some (.tup (p.1.map kV))/\Z8 p.2 q.2.2
def KT.val {H:Hp}{kvs:List (List Zz×V)}{xs:List (List Zz×Addr×Value)}(r:KT H kvs xs)(k:List Zz):Pf (V1 kvs k) ((atKey xs k).map (·.2)):=by
 induction r with
 | nil=>exact True.intro
 | @cons p q ps qs h t ih=>
  obtain⟨h1,_,h2⟩:=h
  by_cases e:p.1=k
  ·have e':q.1=k:=h1.symm.trans e
   have b:atKey (q::qs) k=some q.2:=by simp[atKey,List.find?_cons,e']
   rw[Nd e,b];exact h2
  ·have e':¬q.1=k:=λz=>e (h1.trans z)
   have b:atKey (q::qs) k=atKey qs k:=by simp[atKey,List.find?_cons,e']
   rw[Nf e,b];exact ih
def KT.repl {H:Hp}{kvs:List (List Zz×V)}{xs:List (List Zz×Addr×Value)}(r:KT H kvs xs)(k:List Zz){y:V}{u:Value}(ry:Z8 y u):
  KT H (kvs.map λkv=>if kv.1=k then(kv.1,y) else kv) (xs.map (putAt k u)):=by
 induction r with
 | nil=>exact .nil
 | @cons p q ps qs h t ih=>
  rw[YI,YI]
  refine .cons ?_ ih
  obtain⟨h1,h2,h3⟩:=h
  unfold putAt
  by_cases e:p.1=k
  ·rw[XY e,XY (h1.symm.trans e)];exact⟨h1,h2,ry⟩
  ·rw[XX e,XX (λz=>e (h1.trans z))];exact⟨h1,h2,h3⟩
def KT.put {H:Hp}{kvs:List (List Zz×V)}{xs:List (List Zz×Addr×Value)}(r:KT H kvs xs)(k:List Zz){b:Addr}{y:V}{u:Value}(hb:H b=some (.tup (k.map kV)))(ry:Z8 y u):
  KT H (Xu kvs k y) (storedH xs k b u):=by
 have e:(kvs.any λkv=>decide (kv.1=k))=(atKey xs k).isSome:=by
  rw[D0,(r.val k).isSome_eq,Option.isSome_map]
 unfold Xu storedH
 rw[e]
 by_cases q:(atKey xs k).isSome=true
 ·rw[XY q,XY q];exact r.repl k ry
 ·rw[XX q,XX q];exact Paired.snoc r ⟨rfl,hb,ry⟩
def KT.keeps {H H':Hp}{kvs:List (List Zz×V)}{xs:List (List Zz×Addr×Value)}(r:KT H kvs xs)(ht:∀b ys,H b=some (.tup ys)->H' b=some (.tup ys)):KT H' kvs xs:=
 Paired.mapP r λ_ _ z=>⟨z.1,ht _ _ z.2.1,z.2.2⟩
section
variable {P:Program}{w:World}{H:Hp}{h:Heap}{a:Addr}
def rj {u:HO}(ok:Nb P w H h)(e:Rd H a u):Y6 P w H h a u:=e.ok ok
def Lj {kvs:List (Zz×V)}(ok:Nb P w H h)(e:Rd H a (.dK kvs)):kvs.length<=sizeLine/\(a==sysModules)=false/\∃vs,KV kvs vs/\h.DictOf (Yc P w) a vs:=
 show Y6 P w H h a (.dK kvs) from rj ok e
def Ah {kvs:List (Zz×V)}(ok:Nb P w H h)(e:H a=some (.dK kvs)):kvs.length<=sizeLine/\(a==sysModules)=false/\∃vs,KV kvs vs/\h.DictOf (Yc P w) a vs:=Lj ok (.inl e)
def Io {ks:List Zz}(ok:Nb P w H h)(e:H a=some (.tup (ks.map kV))):(tupleKind (Yc P w)).is h ks a:=by
 obtain⟨_,its,r,o,h1,h2,n,h3⟩:=(show Y6 P w H h a (.tup (ks.map kV)) from ok a _ e)
 exact⟨o,its.toArray,n,h1,h2,h3,by simpa using Gw r⟩
def G8 {kvs:List (List Zz×V)}(ok:Nb P w H h)(e:Rd H a (.dT kvs)):kvs.length<=sizeLine/\(a==sysModules)=false/\
  ∃xs,KT H kvs xs/\h.DictOfH (tupleKind (Yc P w)) a xs:=by
 obtain⟨z,y,xs,r,o,es,ep,h1,h2,h3,h4,h5⟩:=(show Y6 P w H h a (.dT kvs) from rj ok e)
 refine⟨z,y,xs,r,o,es,ep,h1,h2,h3,h4,λx hx=>?_,h5⟩
 have all:∀{l:List (List Zz×V)} {m:List (List Zz×Addr×Value)},KT H l m->∀x∈m,(tupleKind (Yc P w)).is h x.1 x.2.1:=by
  intro l m q
  induction q with
  | nil=>intro x hx;exact nomatch hx
  | @cons p q ps qs hq t ih=>
   intro x hx
   rcases List.mem_cons.mp hx with e | hx
   ·subst e
    exact Io ok (by rw[<-hq.1];exact hq.2.1)
   ·exact ih x hx
 exact all r x hx
def lU {kvs:List (List Zz×V)}(ok:Nb P w H h)(e:H a=some (.dT kvs)):kvs.length<=sizeLine/\(a==sysModules)=false/\
  ∃xs,KT H kvs xs/\h.DictOfH (tupleKind (Yc P w)) a xs:=G8 ok (.inl e)
end
def Av (H:Hp)(a:Addr)(y:V)(r:Option V):Prop:=
 (∃kvs k,Rd H a (.dK kvs)/\y=kV k/\r=V1 kvs k)\/∃kvs k b,Rd H a (.dT kvs)/\y=.ref b/\H b=some (.tup (k.map kV))/\r=V1 kvs k
def xi (H:Hp)(a:Addr)(y v:V)(H':Hp):Prop:=
 (∃kvs k,H a=some (.dK kvs)/\y=kV k/\kvs.length<sizeLine/\H'=Yq H a (.dK (Xu kvs k v)))\/
 ∃kvs k b,H a=some (.dT kvs)/\y=.ref b/\H b=some (.tup (k.map kV))/\kvs.length<sizeLine/\H'=Yq H a (.dT (Xu kvs k v))
def xi.k {H:Hp}{a:Addr}{kvs:List (Zz×V)}{k:Zz}{v:V}(e:H a=some (.dK kvs))(hl:kvs.length<sizeLine):xi H a (kV k) v (Yq H a (.dK (Xu kvs k v))):=.inl ⟨kvs,k,e,rfl,hl,rfl⟩
section
variable {X:Cx}{pins:List (Addr×Obj)}{σ:St}{H:Hp}{s:Shared}{a:Addr}{y v:V}{u r:Value}{o:Option V}{A:Around}{E:Value->Shared->Prop}
def Zs.big (I:Zs X pins σ H s):sysModules<s.heap.objs.size:=by
 have h:mainGlobals<s.heap.objs.size:=(I.mod.glob.keeps I.bk).lt
 exact Nat.lt_trans (by decide) h
def jM {Q:Value->Shared->Prop}(hu:A.units+1<cLine)(I:Zs X pins σ H s)(g:Av H a y (some v))(ry:Z8 y u)(h:∀w' s',Zs X pins σ H s'->Z8 v w'->Q w' s'):
  wpAny (model X.prog X.w) A (getItem (.ref a) u) Q E s:=by
 rcases g with⟨kvs,k,e,ey,l⟩ | ⟨kvs,k,b,e,ey,eb,l⟩
 ·subst ey
  obtain⟨z,hd,vs,rel,dd⟩:=Lj I.hok e
  obtain⟨w',hw,rw'⟩:=Pf.some_of (v:=v) (o:=valueAt vs k) (by rw[l];exact rel.val k)
  exact wpAny_getItem_of (Lg ry) dd.mapOf hw (h w' _ (I.tok _) rw')
 ·subst ey
  cases (show u=Value.ref b from ry)
  obtain⟨z,hd,xs,rel,dd⟩:=G8 I.hok e
  obtain⟨w',hw,rw'⟩:=Pf.some_of (v:=v) (o:=(atKey xs k).map (·.2)) (by rw[l];exact rel.val k)
  obtain⟨p,hp,hp2⟩:=Option.map_eq_some_iff.mp hw
  refine wpAny_getItem_heap (tupleKind_room_in1 hu) (Io I.hok eb) dd hp ?_
  rw[hp2]
  exact h w' _ (I.tok _) rw'
def gd {Q:Value->Shared->Prop}(hu:A.units+1<cLine)(I:Zs X pins σ H s)(g:Av H a y o)(ry:Z8 y u)(h:∀s',Zs X pins σ H s'->Q (.bool o.isSome) s'):
  wpAny (model X.prog X.w) A (compareOp .In u (.ref a)) Q E s:=by
 rcases g with⟨kvs,k,e,ey,l⟩ | ⟨kvs,k,b,e,ey,eb,l⟩
 ·subst ey
  obtain⟨z,hd,vs,rel,dd⟩:=Lj I.hok e
  refine wpAny_in_of (Lg ry) hd dd.mapOf ?_
  rw[<-(rel.val k).isSome_eq,<-l]
  exact h _ (I.tok _)
 ·subst ey
  cases (show u=Value.ref b from ry)
  obtain⟨z,hd,xs,rel,dd⟩:=G8 I.hok e
  refine wpAny_in_heap (tupleKind_room_in1 hu) (Io I.hok eb) hd dd ?_
  have q:=(rel.val k).isSome_eq
  rw[Option.isSome_map] at q
  rw[<-q,<-l]
  exact h _ (I.tok _)
def tX {Q:Value->Shared->Prop}(hu:A.units+1<cLine)(I:Zs X pins σ H s)(g:Av H a y o)(ry:Z8 y u)(h:∀s',Zs X pins σ H s'->Q (.bool (!o.isSome)) s'):
  wpAny (model X.prog X.w) A (compareOp .NotIn u (.ref a)) Q E s:=by
 rcases g with⟨kvs,k,e,ey,l⟩ | ⟨kvs,k,b,e,ey,eb,l⟩
 ·subst ey
  obtain⟨z,hd,vs,rel,dd⟩:=Lj I.hok e
  refine wpAny_notIn_of (Lg ry) hd dd.mapOf ?_
  rw[<-(rel.val k).isSome_eq,<-l]
  exact h _ (I.tok _)
 ·subst ey
  cases (show u=Value.ref b from ry)
  obtain⟨z,hd,xs,rel,dd⟩:=G8 I.hok e
  refine wpAny_notIn_heap (tupleKind_room_in1 hu) (Io I.hok eb) hd dd ?_
  have q:=(rel.val k).isSome_eq
  rw[Option.isSome_map] at q
  rw[<-q,<-l]
  exact h _ (I.tok _)
def Mc {h':Heap}{t':Nat}{ob:HO}(I:Zs X pins σ H s)(mu:ky (H a))(hs:Heap.SameBut a s.heap h')(he:∃q,h'.get? a=some q)(new:Y6 X.prog X.w (Yq H a ob) h' a ob):
  Zs X pins σ (Yq H a ob) {s with heap:=h',toks:=t'}:=
 I.write (x:=a) (e:=a) mu (.inl rfl) (λb q hb z=>(hs.2 b hb).trans z) he new
def M7 {P:Program}{w:World}{H':Hp}{h':Heap}{kvs:List (Zz×V)}{vs:List (Zz×Value)}(z:kvs.length<=sizeLine)(hd:(a==sysModules)=false)(rel:KV kvs vs)(dd:h'.DictOf (Yc P w) a vs):
  Y6 P w H' h' a (.dK kvs):=⟨z,hd,vs,rel,dd⟩
def jL {H':Hp}{Q:Unit->Shared->Prop}(hu:A.units+1<cLine)(I:Zs X pins σ H s)(g:xi H a y v H')(ry:Z8 y u)(rv:Z8 v r)(h:∀s',Zs X pins σ H' s'->Q () s'):
  wpAny (model X.prog X.w) A (setItem (.ref a) u r) Q E s:=by
 rcases g with⟨kvs,k,e,ey,l,eH⟩ | ⟨kvs,k,b,e,ey,eb,l,eH⟩
 ·subst ey eH
  obtain⟨z,hd,vs,rel,dd⟩:=Ah I.hok e
  have hz:vs.length<=sizeLine:=by rw[<-rel.length];exact z
  have hl:(Xu kvs k v).length<=sizeLine:=by have:=Up kvs k v;omega
  refine wpAny_setItem_pairs (hsz:=hz) (Lg ry) dd λh' dd' hs=>h _ ?_
  have he:∃q,h'.get? a=some q:=let ⟨q,_,_,hq,_⟩:=dd';⟨q,hq⟩
  exact Mc I (by rw[e];exact True.intro) hs he (M7 hl hd (rel.put k rv) dd')
 ·subst ey eH
  cases (show u=Value.ref b from ry)
  obtain⟨z,hd,xs,rel,dd⟩:=lU I.hok e
  have hz:xs.length<=sizeLine:=by rw[<-Paired.length rel];exact z
  have hl:(Xu kvs k v).length<=sizeLine:=by have:=Up kvs k v;omega
  refine wpAny_setItem_heap (hsz:=hz) (tupleKind_room_in1 hu) (Io I.hok eb) dd λh' dd' hs=>h _ ?_
  obtain⟨q,es,ep,hq,h2,h3,h4,_,h5⟩:=dd'
  refine Mc I (by rw[e];exact True.intro) hs ⟨q,hq⟩ ⟨hl,hd,_,(rel.put k eb rv).keeps λc ys ec=>?_,q,es,ep,hq,h2,h3,h4,h5⟩
  rw[Zt (lD ec e (λz=>nomatch z))]
  exact ec
end
section
variable {X:Cx}{pins:List (Addr×Obj)}{σ:St}{H:Hp}{s:Shared}{a:Addr}{kvs:List (Zz×V)}{k:Zz}{u:Value}{A:Around}{E:Value->Shared->Prop}
end
def nk (i:Expr):Prop:=∀ov iv,subscripted i false ov iv=operate [ov,iv] (getItem ov iv)
def u8 {prog:Program}{w:World}{A:Around}{E:Value->Shared->Prop}{s:Shared}{env:Env}{value slice:Expr}{pos:Pos}{T id:String}{Q:Value->Shared->Prop}
  (hl:typeLookup (.type T) "__getitem__"=pure (some (.builtin id))) (hs:nk slice)
  (h:wpAny (model prog w) A (eval value env) (λo s₁=>wpAny (model prog w) A (eval slice env) (λi s₂=>s₂.TypeIs o T/\wpAny (model prog w) A (getItem o i) Q E s₂) E s₁) E s):
  wpAny (model prog w) A (eval (.Subscript value slice pos) env) Q E s:=by
 refine Subscript_ (wpAny_mono h (λo s₁ h₁=>wpAny_mono h₁ (λi s₂ h₂=>?_) λ_ _ x=>x) λ_ _ x=>x)
 obtain⟨hT,h₂⟩:=h₂
 unfold subscriptTail
 refine XA ?_
 rw[getitemInPython_of_ne hT.not_modules]
 refine XA (wpAny_specialOf hT hl ?_)
 have fin:wpAny (model prog w) A (subscripted slice false o i) (λr s₃=>wpAny (model prog w) A (letTemporaryGo value o r>>=λ_=>pure r) Q E s₃) E s₂:=by
  rw[hs o i]
  exact wpAny_operating (wpAny_mono h₂ (λr s₃ h₃=>XA (wpAny_letTemporaryGo (XB h₃))) λ_ _ x=>x)
 first
  | exact XB (XA fin)
  | exact XA (XB (XA fin))
  | exact XA fin
def Aj {X:Cx}{pins:List (Addr×Obj)}{σ:St}{H:Hp}{s:Shared}{a:Addr}{y:V}{o:Option V}(I:Zs X pins σ H s)(g:Av H a y o):s.TypeIs (.ref a) "dict":=by
 rcases g with⟨kvs,k,e,_,_⟩ | ⟨kvs,k,b,e,_,_,_⟩
 ·obtain⟨_,_,vs,_,dd⟩:=Lj I.hok e
  exact dd.typeIs
 ·obtain⟨_,_,xs,_,dd⟩:=G8 I.hok e
  exact dd.typeIs
def mi (td ty:TE):TE:=λσ H Q=>td σ H λx H1=>ty σ H1 λy H2=>∃a v,x=.ref a/\Av H2 a y (some v)/\Q v H2
def fD (ty td:TE):TE:=λσ H Q=>ty σ H λy H1=>td σ H1 λx H2=>∃a o,x=.ref a/\Av H2 a y o/\Q (.bl o.isSome) H2
def gL (td ty tv:TE):TS:=λD σ H=>tv σ H λv H1=>td σ H1 λx H2=>ty σ H2 λy H3=>∃a H4,x=.ref a/\xi H3 a y v H4/\D.nx σ H4
def gN (td ty tv:TE)(rd:V->V->Hp->VK->Prop):TS:=λD σ H=>td σ H λx H1=>ty σ H1 λy H2=>∃a v,x=.ref a/\Av H2 a y (some v)/\
 tv σ H2 λy2 H3=>rd v y2 H3 λz H4=>∃H5,xi H4 a y z H5/\D.nx σ H5
def gM (td ty:TE):TS:=λD σ H=>td σ H λx H1=>ty σ H1 λy H2=>∃a kvs k,x=.ref a/\H2 a=some (.dK kvs)/\y=kV k/\(V1 kvs k).isSome=true/\D.nx σ (Yq H2 a (.dK (rF kvs k)))
section
variable {X:Cx}{o i e value:Expr}{pos pos' tpos:Pos}{td ty tv:TE}
def uY (hu:X.A.units+1<cLine)(ho:PE X o td)(hi:PE X i ty)(hs:nk i):PE X (.Subscript o i pos) (mi td ty):=by
 intro pins s σ H Q I h
 refine u8 PySem.F.slot_dict_getitem.lookup hs (Jp (ho pins s σ H _ I h) λu s1 ⟨x,H1,I1,rx,q1⟩=>Jp (hi pins s1 σ H1 _ I1 q1) λiv s2 ⟨y,H2,I2,ry,a,v,ex,g,q2⟩=>?_)
 subst ex
 obtain rfl:u=Value.ref a:=rx
 exact⟨Aj I2 g,jM hu I2 g ry λw' s3 I3 rw'=>⟨v,H2,I3,rw',q2⟩⟩
end
def Ai {P:Program}{w:World}{H:Hp}(h:Heap)(hb:sysModules<h.objs.size):Y6 P w H (h.push {cls:=.type "dict",data:=.dict #[]}) h.objs.size (.dK []):=
 ⟨XO _,beq_eq_false_iff_ne.mpr (Ne.symm (XH hb)),[],.nil,Heap.DictOf.new h⟩
def qg:TE:=λ_ H Q=>∀p,H p=none->Q (.ref p) (Yq H p (.dK []))
section
variable {X:Cx}{pos:Pos}
def wJ:PE X (.Dict [] [] pos) qg:=λpins s σ H Q I h=>
 wpAny_Dict_empty ⟨.ref s.heap.objs.size,_,I.laid (a:=s.heap.objs.size) (o:=.dK []) (t':=s.toks) (λ_ _ q=>XC _ q) (XE _) (Ai s.heap I.big),rfl,h _ (I.hok.fresh (XE _))⟩
end
def Fw:List (TE×TE)->St->Hp->(List (V×V)->Hp->Prop)->Prop
 | [],_,H,Q=>Q [] H
 | (tk,tv)::r,σ,H,Q=>tk σ H λx H1=>tv σ H1 λy H2=>Fw r σ H2 λps H3=>Q ((x,y)::ps) H3
abbrev VV:List (V×V)->List (Value×Value)->Prop:=Paired λp q=>Z8 p.1 q.1/\Z8 p.2 q.2
def ku (X:Cx)(pos:Pos)(keys:List (Option Expr))(values:List Expr)(trs:List (TE×TE)):Prop:=
 ∀(pins:List (Addr×Obj)) (s:Shared) (σ:St) (H:Hp) (Q:List (V×V)->Hp->Prop),Zs X pins σ H s->Fw trs σ H Q->
  wpAny (model X.prog X.w) X.A (evalPairs (pairTrees keys values X.env pos)) (λvs s'=>∃ps H',Zs X pins σ H' s'/\VV ps vs/\Q ps H') X.xe s
def uR {X:Cx}{pos:Pos}:ku X pos [] [] []:=λpins s σ H Q I h=>pairTrees_nil_walk ⟨[],H,I,.nil,h⟩
def wC {X:Cx}{pos:Pos}{k v:Expr}{ks:List (Option Expr)}{vs:List Expr}{tk tv:TE}{trs:List (TE×TE)}(hk:PE X k tk)(hv:PE X v tv)(hr:ku X pos ks vs trs):
  ku X pos (some k::ks) (v::vs) ((tk,tv)::trs):=λpins s σ H Q I h=>
 pairTrees_cons_walk (Jp (hk pins s σ H _ I h) λu s1 ⟨x,H1,I1,rx,q1⟩=>Jp (hv pins s1 σ H1 _ I1 q1) λw2 s2 ⟨y,H2,I2,ry,q2⟩=>
  Jp (hr pins s2 σ H2 _ I2 q2) λws s3 ⟨ps,H3,I3,rel,q3⟩=>⟨(x,y)::ps,H3,I3,.cons ⟨rx,ry⟩ rel,q3⟩)
def Qi (kvs more:List (Zz×V)):List (Zz×V):=more.foldl (λacc kv=>Xu acc kv.1 kv.2) kvs
def KV.merge:∀{more:List (Zz×V)} {rs:List (Zz×Value)} {kvs:List (Zz×V)} {vs:List (Zz×Value)},KV more rs->KV kvs vs->KV (Qi kvs more) (merged vs rs):=by
 intro more rs kvs vs r
 unfold KV at r
 induction r generalizing kvs vs with
 | nil=>intro q;exact q
 | @cons p q ps qs h t ih=>
  intro r0
  have e:KV (Xu kvs p.1 p.2) (stored vs q.1 q.2):=by
   have:=r0.put p.1 h.2
   rw[<-h.1];exact this
  exact ih e
def U4:∀(more kvs:List (Zz×V)),(Qi kvs more).length<=kvs.length+more.length
 | [],kvs=>by show kvs.length<=kvs.length+0;omega
 | p::r,kvs=>by
  have h1:=U4 r (Xu kvs p.1 p.2)
  have h2:=Up kvs p.1 p.2
  show(Qi (Xu kvs p.1 p.2) r).length<=_
  rw[YF];omega
def Hj {P:Program}{w:World}:∀{kvs:List (Zz×V)} {ws:List (Value×Value)},VV (kvs.map λkv=>(kV kv.1,kv.2)) ws->∃rs,Carries (Yc P w) ws rs/\KV kvs rs
 | [],_,r=>by rw[List.map_nil] at r;cases r;exact⟨[],True.intro,.nil⟩
 | p::kvs,_,r=>by
  rw[YI] at r
  cases r with
  | @cons a b as bs h t=>
   obtain⟨rs,c,q⟩:=Hj (P:=P) (w:=w) t
   obtain⟨b1,b2⟩:=b
   exact⟨(p.1,b2)::rs,⟨Lg h.1,rfl,c⟩,.cons ⟨rfl,h.2⟩ q⟩
def mf (trs:List (TE×TE)):TE:=λσ H Q=>∀p,H p=none->Fw trs σ (Yq H p (.dK [])) λps H2=>H2 p=some (.dK [])/\∃kvs:List (Zz×V),ps=kvs.map (λkv=>(kV kv.1,kv.2))/\kvs.length<=15/\Q (.ref p) (Yq H2 p (.dK (Qi [] kvs)))
def uX {X:Cx}{pos:Pos}{keys:List (Option Expr)}{values:List Expr}{trs:List (TE×TE)}(h:ku X pos keys values trs)(hall:keys.all (·.isSome)=true)(hl:keys.length=values.length)(h0:keys≠[])
  (h15:keys.length<=15):PE X (.Dict keys values pos) (mf trs):=by
 intro pins s σ H Q I q
 have hn:=I.hok.fresh (XE s.heap.objs.size)
 have I1:=I.laid (a:=s.heap.objs.size) (o:=.dK []) (h':=s.heap.push {cls:=.type "dict",data:=.dict #[]}) (t':=s.toks) (λ_ _ q=>XC _ q) (XE _) (Ai s.heap I.big)
 refine wpAny_Dict_walk (knd:=Yc X.prog X.w) hall hl h0 h15 (Jp (h pins _ σ _ _ I1 (q _ hn)) λws s2 ⟨ps,H2,I2,rel,e,kvs,ep,lk,q2⟩=>?_)
 subst ep
 obtain⟨rs,c,rk⟩:=Hj (P:=X.prog) (w:=X.w) rel
 obtain⟨z,hd,vs0,r0,dd⟩:=Ah I2.hok e
 cases r0
 refine⟨rs,c,dd,λh' dd' hs=>⟨.ref s.heap.objs.size,_,?_,rfl,q2⟩⟩
 have hz:(Qi [] kvs).length<=sizeLine:=by
  have h1:=U4 kvs []
  rw[List.length_nil] at h1
  rw[sizeLine_eq];omega
 have he:∃q,h'.get? s.heap.objs.size=some q:=let ⟨q,_,_,hq,_⟩:=dd';⟨q,hq⟩
 exact Mc I2 (by rw[e];exact True.intro) hs he (M7 hz hd (rk.merge .nil) dd')
structure M1 (X:Cx)(o:Expr)(m:Str)(apos:Pos)(e:Expr)(cpos:Pos):Prop where
 base:attributeBase o m X.env (eval o X.env)=eval o X.env
 few:((backTo cpos (starEach [e] X.env)).all (λx=>!x.1)&&(backToKw cpos (keywordEach [] X.env)).all (λx=>x.1.isSome)
  &&decide (([e]:List Expr).length+([]:List Keyword).length+(if ([]:List Keyword).isEmpty then 0 else 1)<30))=true
 line:(apos.endLine==cpos.line)=true
 trees:backTo cpos (starEach [e] X.env)=[(false,eval e X.env)]
structure M2 (X:Cx)(o:Expr)(m:Str)(apos:Pos)(e f:Expr)(cpos:Pos):Prop where
 base:attributeBase o m X.env (eval o X.env)=eval o X.env
 few:((backTo cpos (starEach [e,f] X.env)).all (λx=>!x.1)&&(backToKw cpos (keywordEach [] X.env)).all (λx=>x.1.isSome)
  &&decide (([e,f]:List Expr).length+([]:List Keyword).length+(if ([]:List Keyword).isEmpty then 0 else 1)<30))=true
 line:(apos.endLine==cpos.line)=true
 trees:backTo cpos (starEach [e,f] X.env)=[(false,eval e X.env),(false,eval f X.env)]
def kO (H:Hp)(a:Addr):Prop:=(∃kvs,Rd H a (.dK kvs))\/∃kvs,Rd H a (.dT kvs)
def zG {X:Cx}{pins:List (Addr×Obj)}{σ:St}{H:Hp}{s:Shared}{a:Addr}(I:Zs X pins σ H s)(d:kO H a):
  s.TypeIs (.ref a) "dict"/\(∀b,Value.ref a=.ref b->∃ob,s.heap.get? b=some ob/\ob.dict=none)/\(a==sysModules)=false:=by
 rcases d with⟨kvs,e⟩ | ⟨kvs,e⟩
 ·obtain⟨_,hd,vs,_,dd⟩:=Lj I.hok e
  refine⟨dd.typeIs,λb q=>?_,hd⟩
  cases q
  obtain⟨ob,_,_,h1,h2,_⟩:=dd
  exact⟨ob,h1,h2.2.1⟩
 ·obtain⟨_,hd,xs,_,dd⟩:=G8 I.hok e
  refine⟨dd.typeIs,λb q=>?_,hd⟩
  cases q
  obtain⟨ob,_,_,h1,h2,_⟩:=dd
  exact⟨ob,h1,h2.2.1⟩
section
variable {X:Cx}{pins:List (Addr×Obj)}{σ:St}{H:Hp}{s:Shared}{a:Addr}{y d:V}{u r:Value}{o:Option V}{A:Around}{E:Value->Shared->Prop}
end
def ii (td ty:TE):TE:=λσ H Q=>td σ H λx H1=>∃a,x=.ref a/\kO H1 a/\ty σ H1 λy H2=>∃kvs k v,H2 a=some (.dK kvs)/\y=kV k/\V1 kvs k=some v/\Q v (Yq H2 a (.dK (rF kvs k)))
section
variable {X:Cx}{o e f:Expr}{apos cpos:Pos}{td ty tx:TE}
end
section
variable {X:Cx}{pins:List (Addr×Obj)}{σ:St}{H:Hp}{s:Shared}{a:Addr}{kvs:List (Zz×V)}{A:Around}{E:Value->Shared->Prop}
def vI {Q:Value->Shared->Prop}(I:Zs X pins σ H s)(e:Rd H a (.dK kvs))(h:∀p s',H p=none->Zs X pins σ (Yq H p (.dK kvs)) s'->Q (.ref p) s'):wpAny (model X.prog X.w) A (call (.type "dict") [.ref a]) Q E s:=by
 obtain⟨z,hd,vs,rel,dd⟩:=Lj I.hok e
 refine kt_call_dict hd dd (by rw[<-rel.length];exact z) λh' dd' hs=>?_
 refine h _ _ (I.hok.fresh (XE _)) (I.laid (a:=s.heap.objs.size) (o:=.dK kvs) (t':=s.toks) (λb q hq=>?_) (XE _) (M7 z (beq_eq_false_iff_ne.mpr (Ne.symm (XH I.big))) rel dd'))
 exact(hs.2 b (XH (XD hq))).trans (XC _ hq)
end
section
variable {X:Cx}{pins:List (Addr×Obj)}{σ:St}{H:Hp}{s:Shared}{a:Addr}{y:V}{u:Value}{A:Around}{E:Value->Shared->Prop}
end
end L2
namespace WL
open PySem PySem.Spec PyProof.Rows L2
def Mm (c:WT)(b:WS)(D:We):Nat->Sw->Hw->Prop
 | 0,_,_=>False
 | n+1,τ,C=>c τ C (λk C1=>if k=true then b {D with nx:=Mm c b D n,ct:=Mm c b D n,bk:=D.nx} τ C1 else D.nx τ C1) D.xc
def zd (c:WT)(b:WS):WS:=λD τ C=>∃n,Mm c b D n τ C
def jq {K:W.Frag}{c:TT}{tb:TS}{c':WT}{b':WS}(hc:O6 K c c')(hb:jY K tb b'):jY K (xO c tb) (zd c' b'):=λF H C σ τ D D' R S h d=>by
 obtain⟨n,h⟩:=h
 refine⟨λm σ H2=>∃τ C,Rl K F H2 C/\Tx H H2/\Xb K H2 σ τ/\Mm c' b' D' m τ C,⟨n,τ,C,R,Tx.refl _,S,h⟩,?_⟩
 rintro m σ2 H2 ⟨τ2,C2,R2,t2,S2,h2⟩
 cases m with
 | zero=>exact h2.elim
 | succ m=>
  refine hc F H2 C2 σ2 τ2 _ _ D'.xc R2 S2 h2 λk H3 C3 R3 t3 h3=>?_
  cases k with
  | true=>
   refine⟨λσ' H'=>∃τ' C',Rl K F H' C'/\Tx H H'/\Xb K H' σ' τ'/\Mm c' b' D' m τ' C',λσ' H' z=>⟨m,Nat.lt_succ_self m,z⟩,?_⟩
   have t13:=t2.trans t3
   exact hb F H3 C3 σ2 τ2 _ _ R3 (S2.tx t3) h3 ⟨λσ' τ' H' C' R' t' S' h'=>⟨τ',C',R',t13.trans t',S',h'⟩,λx v H' C' R' t'=>d.rt x v H' C' R' (t13.trans t'),λσ' τ' H' C' R' t' S' h'=>d.nx σ' τ' H' C' R' (t13.trans t') S' h',λσ' τ' H' C' R' t' S' h'=>⟨τ',C',R',t13.trans t',S',h'⟩⟩
  | false=>exact d.nx σ2 τ2 H3 C3 R3 (t2.trans t3) (S2.tx t3) h3
def Qs {X:Cx}{c:Expr}{body:List Stmt}{wc:WT}{b:WS}{pos:Pos}(hp:PassesOwn (model X.prog X.w) X.A X.env X.xe)(hc:jZ X c wc)(hb:ub X body b):xa X (.While c body [] pos) (zd wc b):=by
 obtain⟨t,p,s⟩:=hc
 obtain⟨t',p',s'⟩:=hb
 exact⟨_,w8 hp p p',jq s s'⟩
def Tb {c:WT}{b:WS}{D:We}(Pv:Nat->Sw->Hw->Prop){τ:Sw}{C:Hw}{m:Nat}(h0:Pv m τ C)
  (hs:∀m τ C (N:Sw->Hw->Prop),Pv m τ C->(∀m' τ' C',m'<m->Pv m' τ' C'->N τ' C')->c τ C (λk C1=>if k=true then b {D with nx:=N,ct:=N,bk:=D.nx} τ C1 else D.nx τ C1) D.xc):zd c b D τ C:=by
 have key:∀(n m:Nat) (τ:Sw) (C:Hw),m<n->Pv m τ C->Mm c b D n τ C:=by
  intro n
  induction n with
  | zero=>intro m τ C h _;omega
  | succ n ih=>intro m τ C hm hp;exact hs m τ C _ hp λm' τ' C' hlt hp'=>ih m' τ' C' (by omega) hp'
 exact⟨m+1,key (m+1) m τ C (Nat.lt_succ_self m) h0⟩
section
variable {X:Cx}{a b c e o i:Expr}{es:List Expr}{wa wb wc wo wi:WE}{wA:WA}{pos p p2 apos cpos:Pos}
def gh:List T->Hw->WK->Prop:=λvs C Q=>(∃i:Int,vs=[.int i]/\Q (.int i) C)\/∃k:Bool,vs=[.bl k]/\Q (.int (if k then 1 else 0)) C
def ke:Od X (.type "int") gh:=⟨_,jR,λF H C xs vs Q Q' R rs h q=>by
 rcases h with⟨j,rfl,h⟩ | ⟨j,rfl,h⟩
 ·obtain⟨x,rfl,rx⟩:=Wi rs
  cases Yi rx
  exact .inl ⟨j,rfl,q _ _ H C R (Tx.refl H) Y7 h⟩
 ·obtain⟨x,rfl,rx⟩:=Wi rs
  cases Pq rx
  exact .inr ⟨j,rfl,q _ _ H C R (Tx.refl H) Y7 h⟩⟩
end
def kT:T->Option Zz
 | .int i=>some (.inl i)
 | .str x=>some (.inr x)
 | _=>none
def tK:Zz->T
 | .inl i=>.int i
 | .inr x=>.str x
def Yl (kvs:List (Zz×T))(k:Zz):Option T:=(kvs.find? λkv=>decide (kv.1=k)).map (·.2)
def Y0 (kvs:List (Zz×T))(k:Zz)(v:T):List (Zz×T):=
 if (kvs.any λkv=>decide (kv.1=k))=true then kvs.map (λkv=>if kv.1=k then(kv.1,v) else kv) else kvs++[(k,v)]
def Nq {K:W.Frag}{H:Hp}{x:V}{v:T}{k:Zz}(h:kT v=some k)(r:Jh K H x v):x=kV k:=by
 cases v with
 | int i=>cases h;exact Yi r
 | str z=>cases h;exact J7 r
 | _=>cases h
def PR.get {K:W.Frag}{H:Hp}:∀{ks:List (Zz×V)} {kvs:List (Zz×T)} (_:PR K H ks kvs) (k:Zz),(Yl kvs k=none->V1 ks k=none)/\∀v,Yl kvs k=some v->∃x,V1 ks k=some x/\Jh K H x v
 | _,_,.nil,k=>⟨λ_=>rfl,λv h=>by cases h⟩
 | p::r,q::s,.cons h t,k=>by
  obtain⟨e,rp⟩:=h
  have ih:=PR.get t k
  by_cases c:q.1=k
  ·have c':p.1=k:=e.trans c
   rw[Nd c']
   unfold Yl
   rw[List.find?_cons_of_pos (by simpa using c)]
   exact⟨(λz=>by cases z),(λv z=>by cases z;exact⟨p.2,rfl,rp⟩)⟩
  ·have c':¬p.1=k:=λz=>c (e.symm.trans z)
   rw[Nf c']
   unfold Yl
   rw[List.find?_cons_of_neg (by simpa using c)]
   exact ih
def PR.any {K:W.Frag}{H:Hp}:∀{ks:List (Zz×V)} {kvs:List (Zz×T)} (_:PR K H ks kvs) (k:Zz),(ks.any λkv=>decide (kv.1=k))=kvs.any λkv=>decide (kv.1=k)
 | _,_,.nil,k=>rfl
 | p::r,q::s,.cons h t,k=>by rw[List.any_cons,List.any_cons,PR.any t k,h.1]
def PR.mapK {K:W.Frag}{H:Hp}{k:Zz}{x:V}{v:T}(rx:Jh K H x v):∀{ks:List (Zz×V)} {kvs:List (Zz×T)} (_:PR K H ks kvs),PR K H (ks.map λkv=>if kv.1=k then(kv.1,x) else kv) (kvs.map λkv=>if kv.1=k then(kv.1,v) else kv)
 | _,_,.nil=>.nil
 | p::r,q::s,.cons h t=>by
  refine .cons ?_ (PR.mapK rx t)
  obtain⟨e,rp⟩:=h
  by_cases c:q.1=k
  ·have c':p.1=k:=e.trans c
   dsimp only
   rw[XY c,XY c'];exact⟨e,rx⟩
  ·have c':¬p.1=k:=λz=>c (e.symm.trans z)
   dsimp only
   rw[XX c,XX c'];exact⟨e,rp⟩
def PR.put {K:W.Frag}{H:Hp}{ks:List (Zz×V)}{kvs:List (Zz×T)}(h:PR K H ks kvs){k:Zz}{x:V}{v:T}(rx:Jh K H x v):PR K H (Xu ks k x) (Y0 kvs k v):=by
 unfold Xu Y0
 rw[PR.any h k]
 split
 ·exact PR.mapK rx h
 ·exact h.snoc ⟨rfl,rx⟩
def PR.length {K:W.Frag}{H:Hp}{ks:List (Zz×V)}{kvs:List (Zz×T)}(h:PR K H ks kvs):ks.length=kvs.length:=Paired.length h
section
variable {K:W.Frag}{F H:Hp}{C:Hw}
def Rl.dic (R:Rl K F H C){a:Addr}{kvs:List (Zz×T)}(h:C a=some (.dic kvs)):∃ks,H a=some (.dK ks)/\PR K H ks kvs:=R.obj a _ h
def Rl.putD (R:Rl K F H C){p:Addr}{kvs kvs':List (Zz×T)}{ks':List (Zz×V)}(h:C p=some (.dic kvs))(r:PR K H ks' kvs'):Rl K F (Yq H p (.dK ks')) (up C p (.dic kvs'))/\Tx H (Yq H p (.dK ks')):=by
 obtain⟨w,hw,ns⟩:=(R.obj p _ h).some trivial
 exact R.put h ⟨ks',Z3,Nt (Tx.put hw ns) r⟩
def Rl.newD (R:Rl K F H C){p:Addr}{kvs:List (Zz×T)}{ks:List (Zz×V)}(h:H p=none)(r:PR K H ks kvs):Rl K F (Yq H p (.dK ks)) (up C p (.dic kvs)):=R.new h ⟨ks,Z3,Nt (Tx.new h) r⟩
end
def om:WE:=λ_ C Q _=>∀p,C p=none->Q (.ref p) (up C p (.dic []))
def iW (o i:WE):WG:=λv τ C Q χ=>o τ C (λx C1=>i τ C1 (λy C2=>∃a kvs k,x=.ref a/\kT y=some k/\C2 a=some (.dic kvs)/\kvs.length<sizeLine/\Q τ (up C2 a (.dic (Y0 kvs k v)))) χ) χ
section
variable {X:Cx}{a b c e o i f:Expr}{es:List Expr}{wa wb wc wo wi wd:WE}{wA:WA}{pos p p2 apos cpos:Pos}
def Ur:Ji X (.Dict [] [] pos) om:=⟨_,wJ,λF H C σ τ Q Q' χ R S h q p hp=>q _ _ _ _ (R.newD hp .nil) (Tx.new hp) Jb (h p (R.free hp))⟩
def mL:V->V->V->Hp->(Hp->Prop)->Prop:=λo i v H Q=>∃p ks k,o=.ref p/\i=kV k/\H p=some (.dK ks)/\ks.length<sizeLine/\Q (Yq H p (.dK (Xu ks k v)))
def xX (hu:X.A.units+150<cLine):nj X mL:=by
 intro pins s σ H o i v ov iv u Q I ro ri rv h
 obtain⟨p,ks,k,rfl,rfl,hp,hl,q⟩:=h
 cases ro
 exact jL (by omega) I (xi.k hp hl) ri rv λs' I'=>⟨_,I',q⟩
def X1 (hu:X.A.units+150<cLine)(ho:Ji X o wo)(hi:Ji X i wi)
  (ha:∀v,assign (.Subscript o i pos) X.env v=(do
   let ov <-holding [v] (eval o X.env)
   let iv <-holding [v,ov] (eval i X.env)
   standAt pos
   holding [v,ov,iv] (setItem ov iv v)
   release [v,ov,iv] []):=by intro _;rfl):nh X (.Subscript o i pos) (iW wo wi):=by
 obtain⟨t,p,s⟩:=ho
 obtain⟨t',p',s'⟩:=hi
 refine⟨_,wF p p' (xX hu) ha,λF H C σ τ x v Q Q' χ R S r h q=>?_⟩
 refine s F H C σ τ _ _ χ R S h λy vy H1 C1 R1 t1 ry h1=>?_
 refine s' F H1 C1 σ τ _ _ χ R1 (S.tx t1) h1 λz vz H2 C2 R2 t2 rz h2=>?_
 obtain⟨l,kvs,k,rfl,hk,hC,hl,h2⟩:=h2
 cases Z6 ry
 obtain⟨ks,hH,pr⟩:=R2.dic hC
 have t12:=t1.trans t2
 obtain⟨R',t'⟩:=R2.putD hC (PR.put pr (k:=k) (r.tx t12))
 exact⟨l,ks,k,rfl,Nq hk rz,hH,by rw[PR.length pr];exact hl,q _ _ _ _ R' (t12.trans t') (S.tx (t12.trans t')) h2⟩
end
end WL
namespace L2
open PySem PySem.Spec PyProof.Rows
def gf (w:World):Bool:=w.params.followText "set-order"
def nM (e:Int×Value):Str:=strOf e.2
structure ko (P:Program)(w:World)(h:Heap)(a:Addr)(es:Array (Int×Value))(ep:Nat)(t:SetTable):Prop where
 get:h.get? a=some {cls:=.type "set",dict:=none,data:=.set es ep t,slots:=#[]}
 els:ElemsOf (PySem.strKind P w) es.toList
 fit:t.fits es.size=true
 bnd:es.size<scanBound
 pln:es.size≠0->t.plain=false
 led:t.led=!gf w
 nod:(es.toList.map nM).Nodup
section
variable {prog:Program}{w:World}{A:Around}{E:Value->Shared->Prop}{s:Shared}
end
section
variable {prog:Program}{w:World}{A:Around}{R:Result->Shared->Prop}{I:Addr}{fp wr:List Addr}{G:Array GenState->Array GenState->Prop}{n:Nat}{P:Nat->Value->Prop}{St:Nat->Shared->Prop}
end
section
variable {prog:Program}{w:World}{A:Around}{E:Value->Shared->Prop}{s:Shared}
def u0 {vs:List Value}{xs:List Str}(h:StrsAre vs xs):xs.length=vs.length:=by
 induction h with
 | nil=>rfl
 | cons x t h ih=>simp[ih]
def jp {r:Addr}{φ:List Str->Prop}{Q:Value->Shared->Prop}(h64:∀xs,φ xs->xs.length<64)
  (hc:∀(R:List Value->Shared->Prop),(∀(h':Heap) (d':Drawn) (tk:Nat) (vs:List Value) (xs:List Str),(∀b o,s.heap.get? b=some o->h'.get? b=some o)->StrsAre vs xs->φ xs->R vs {s with heap:=h',drawn:=d',toks:=tk})->
   wpAny (model prog w) A.in1 (collect (.ref r)) R E s)
  (h:∀(p:Addr) (h1 h':Heap) (d':Drawn) (tk:Nat) (vs:List Value) (n:Nat) (xs xs':List Str),φ xs->h1.objs.size<=p->(∀b o,s.heap.get? b=some o->h1.get? b=some o)->(∀b o,h1.get? b=some o->h'.get? b=some o)->h'.get? p=some (seqObj "list" vs.toArray n)->StrsAre vs xs'->xs'.Perm xs->sortedS xs'=true->
   Q (.ref p) {s with heap:=h',drawn:=d',toks:=tk}):
  wpAny (model prog w) A (call (.builtin "sorted") [.ref r]) Q E s:=by
 refine Calls.call_function_entry kind_sorted plain_sorted entry_sorted (args_sorted1 _) ?_
 unfold Builtin.«sorted»
 refine XA (m:=checkCount "sorted" 1 1 _) (XB ?_)
 refine XA (hc _ λh1 d1 tk vs xs k hS hφ=>?_)
 have hl:vs.length<64:=by rw[<-u0 hS];exact h64 xs hφ
 have hz:vs.length<=sizeLine:=by rw[sizeLine_eq];omega
 refine XA (wpAny_newList ?_ hz)
 have hoL:(h1.push (seqObj "list" vs.toArray 0)).get? h1.objs.size=some (seqObj "list" vs.toArray 0):=XF _ rfl
 show wpAny _ _ _ _ _ {s with heap:=h1.push (seqObj "list" vs.toArray 0),drawn:=d1,toks:=tk}
 refine XA (wpAny_holding (wpAny_call_entry slot_list_sort ⟨_,hoL,rfl⟩ entry_list_sort (list_sort_treeK strKind_oneLt hoL hS.keysOf (λv₁ v₂ J1 e=>keyKind_strs (by rw[<-e];exact hS)) hl λst' a1 a2=>⟨_,rfl,?_⟩) (args_list_sort _)))
 obtain⟨xs',b1,b2,b3⟩:=sorted_out_str hS a1 a2
 obtain⟨n,hn⟩:=sortedHeap_at (out:=(arrOf st').map (·.2)) hoL
 refine XB ⟨_,rfl,h h1.objs.size h1 _ d1 tk ((arrOf st').map (·.2)).toList n xs xs' hφ (XE _) k (λb o hb=>?_) (by rw[Array.toArray_toList];exact hn) b1 b2 b3⟩
 have hlt:=XD hb
 rw[sortedHeap_old (XH hlt) (by rw[size_push'];exact Nat.lt_succ_of_lt hlt)]
 exact XC _ hb
end
section
variable {X:Cx}{pins:List (Addr×Obj)}{s:Shared}{σ:St}{H:Hp}
def pI {h':Heap}{d':Drawn}{t':Nat}(I:Zs X pins σ H s)(k:∀b u,s.heap.get? b=some u->h'.get? b=some u):Zs X pins σ H {s with heap:=h',drawn:=d',toks:=t'}:=by
 refine I.step (g':=s.gens) (ch:=[]) (λ_ z=>nomatch z) (λb o _ _ _ e _=>k b o e) (λb o _ _ _ e _=>⟨o.slots,k b o e⟩) (λb o _ _ n=>n) (λb o _ e=>⟨o,k b o e⟩) (λ_ _ e=>e) (λ_ _ _ e=>e) (λb ps e=>⟨#[],by simpa using e⟩) (λm hm=>?_) (I.hok.kept k) I.bare
 obtain⟨o,es,ep,ho,r⟩:=hm
 exact⟨o,es,ep,k _ o ho,r⟩
def jh {vs:List Value}{xs:List Str}(h:StrsAre vs xs):Z7 (xs.map V.str) vs:=by
 induction h with
 | nil=>exact .nil
 | cons x t h ih=>exact .cons ⟨t,rfl⟩ ih
def fI (P:Program)(w:World)(a:Addr)(xs:List Str):HO:=.ext λh=>∃es ep t,ko P w h a es ep t/\∀y,y∈es.toList.map nM↔y∈xs
def pD {p:Addr}{h1 h':Heap}{d':Drawn}{tk n:Nat}{vs:List Value}{xs:List Str}(I:Zs X pins σ H s)(hp:h1.objs.size<=p)(k1:∀b o,s.heap.get? b=some o->h1.get? b=some o)(k2:∀b o,h1.get? b=some o->h'.get? b=some o)
  (g:h'.get? p=some (seqObj "list" vs.toArray n)) (hS:StrsAre vs xs) (hl:xs.length<64):Zs X pins σ (Yq H p (.lst (xs.map V.str))) {s with heap:=h',drawn:=d',toks:=tk}/\H p=none:=by
 have I1:Zs X pins σ H {s with heap:=h1,drawn:=d',toks:=tk}:=pI I k1
 refine⟨I1.laid (t':=tk) k2 hp ⟨?_,vs,n,jh hS,g⟩,I1.hok.fresh hp⟩
 rw[XI,sizeLine_eq];omega
def yj:∀{l:List Value} {ts:List Str},l.length=ts.length->(∀(j:Nat) (v:Value),l[j]?=some v->∃t tk,ts[j]?=some t/\v=.str t tk)->StrsAre l ts
 | [],[],_,_=>.nil
 | v::l,t::ts,e,h=>by
  obtain⟨t',tk,e1,e2⟩:=h 0 v rfl
  cases e1
  subst e2
  exact .cons _ tk (yj (by simpa using e) λj u hu=>h (j+1) u hu)
def tL {kvs:List (Zz×V)}{vs:List (Zz×Value)}(h:KV kvs vs):vs.map (·.1)=kvs.map (·.1):=by
 induction h with
 | nil=>rfl
 | cons a b ih=>rw[YI,YI,ih,a.1]
def Dh (hc:X.calm=true):Vc X (.builtin "sorted") (λxs H Q=>∃(p:Addr) (kvs:List (Zz×V)) (ts:List Str),xs=[.ref p]/\Rd H p (.dK kvs)/\kvs.map (·.1)=ts.map Sum.inr/\ts.length<64/\
  ∀q ys,H q=none->ys.Perm ts->sortedS ys=true->Q (.ref q) (Yq H q (.lst (ys.map V.str)))):=by
 intro pins s σ H xs us Q I r h
 obtain⟨p,kvs,ts,rfl,hp,hk,h64,q⟩:=h
 obtain⟨u,rfl,ru⟩:=Qd r
 cases ru
 obtain⟨hz,lo,vs,hkv,hD⟩:=hp.ok I.hok
 obtain⟨ep,hat⟩:=hD.dictAt
 have hlen:kvs.length=ts.length:=by have:=congrArg List.length hk;simpa using this
 have hlen2:kvs.length=vs.length:=Paired.length hkv
 refine jp (φ:=λys=>ys=ts) (λys e=>by rw[e];exact h64) (λR hR=>W.kdu_collect (A:=X.A.in1) (W.kdl_dict (knd:=Yc X.prog X.w) (kvs:=vs) (ep:=ep) lo) (I.ok.hd hc) hat (by rw[sizeLine_eq];omega) λh' tk acc k hacc=>?_) λq' h1 h' d' tk us n ys ys' e hq k1 k2 g hS e' so=>?_
 ·refine hR h' s.drawn tk acc.toList ts k ?_ rfl
  refine yj (by rw[Array.length_toList,hacc.1];omega) λj v hv=>?_
  obtain⟨k,x,hx,hi⟩:=hacc.2 j v (by rw[<-Array.getElem?_toList];exact hv)
  have e1:(vs.map (·.1))[j]?=some k:=by rw[XM,hx];rfl
  rw[tL hkv,hk,XM] at e1
  cases ht:ts[j]? with
  | none=>rw[ht] at e1;cases e1
  | some t=>
   rw[ht] at e1
   cases e1
   rw[zt] at hi
   rcases Y1 hi with⟨i,u,e,_⟩ | ⟨y,u,e,e2⟩
   ·cases e
   ·cases e
    exact⟨_,u,rfl,e2⟩
 ·subst e
  obtain⟨I2,hf⟩:=pD (d':=d') (tk:=tk) I hq k1 k2 g hS (by rw[e'.length_eq];exact h64)
  exact⟨.ref q',_,I2,rfl,q q' ys' hf e' so⟩
end
end L2
namespace WL
open PySem PySem.Spec PyProof.Rows L2
def oK:List T->Hw->WK->Prop:=λvs C Q=>∃(a:Addr) (kvs:List (Zz×T)) (ts:List Str),vs=[.ref a]/\C a=some (.dic kvs)/\kvs.map (·.1)=ts.map Sum.inr/\ts.length<64/\
 ∀q ys,C q=none->ys.Perm ts->sortedS ys=true->Q (.ref q) (up C q (.lst (ys.map T.str)))
def jT:bootBuiltins "sorted"=some (.builtin "sorted"):=by decide+kernel
def PR.keys {K:W.Frag}{H:Hp}:∀{ks:List (Zz×V)} {kvs:List (Zz×T)} (_:PR K H ks kvs),ks.map (·.1)=kvs.map (·.1)
 | _,_,.nil=>rfl
 | _,_,.cons h t=>by rw[YI,YI,PR.keys t,h.1]
def Cz {K:W.Frag}{H:Hp}:∀(ts:List Str),Reps K H (ts.map V.str) (ts.map T.str)
 | []=>Yv
 | t::ts=>Yh Sa (Cz ts)
section
variable {X:Cx}{e:Expr}{we:WE}{pos p p2 pos2:Pos}
def sD (hc:X.calm=true):Od X (.builtin "sorted") oK:=⟨_,Dh hc,λF H C xs vs Q Q' R rs h q=>by
 obtain⟨l,kvs,ts,rfl,hC,hk,hl,h⟩:=h
 obtain⟨x,rfl,rx⟩:=Wi rs
 cases Z6 rx
 obtain⟨ks,hH,pr⟩:=R.dic hC
 refine⟨l,ks,ts,rfl,.inl hH,by rw[PR.keys pr];exact hk,hl,λp ys hp e1 e2=>?_⟩
 exact q _ _ _ _ (R.newL hp (Cz ys)) (Tx.new hp) Jb (h p ys (R.free hp) e1 e2)⟩
end
end WL
namespace L2
open PySem PySem.Spec PyProof.Rows
def gz (K:W.Frag)(a:Addr)(n:Nat):It:=
 ⟨λi H=>i<n/\∃xs x,Xv K H a xs/\xs[n-1-i]?=some x,λi H x H'=>H'=H/\∀xs,Xv K H a xs->xs[n-1-i]?=some x,λi H=>i=n⟩
def xM {P:Program}{w:World}{K:W.Frag}{tg:Expr}(a it:Addr)(n:Nat):Dq P w K tg (gz K a n) [it] it (λi h=>i<=n/\h.IsRevIter it a ((n:Int)-1-(i:Int))) where
 mem:=by simp
 obj:=λi h st b hb=>by
  have e:b=it:=by simpa using hb
  subst e
  obtain⟨_,o,e,c,d⟩:=st
  exact⟨o,e,λv z=>by rw[d] at z;cases z⟩
 keep:=λi h h' st k=>⟨st.1,st.2.at λo e=>k it (by simp) o e⟩
 item:=by
  intro X hP hw hK hc i pins s σ H E I hf st hg
  subst hP hw hK
  obtain⟨hi,xs,x,hq,hx⟩:=hg
  obtain⟨its,rv,p,hz⟩:=I.list hq
  obtain⟨u,hu,ru⟩:=rv.get hx
  obtain⟨f0,f1,f2,f3,f4,f5⟩:=hf it (by simp)
  have e1:(n:Int)-1-(i:Int)=((n-1-i:Nat):Int):=by omega
  have hit:=st.2
  rw[e1] at hit
  refine wpAny_pyNext_rev_item hit p.isList (x:=u) (by simpa using hu) λh' st' sb=>?_
  have I1:Zs X pins σ H {s with heap:=h'}:=I.turned (t':=s.toks) (λb o hb e=>(sb.2 b hb).trans e) f0 f1 f3 f4 f5
  have e2:((n-1-i:Nat):Int)-1=(n:Int)-1-((i+1:Nat):Int):=by omega
  rw[e2] at st'
  obtain⟨o,e,c,d⟩:=id st'
  exact⟨u,rfl,By (s:={s with heap:=h'}) e c d (by decide) ⟨x,H,I1,ru,⟨rfl,λys hy=>by rw[I.list_inj hy hq];exact hx⟩,⟨hi,st'⟩,λb hb=>(hf b hb).1⟩⟩
 done:=by
  intro X hP hw hK hc i pins s σ H E I hf st hg
  subst hP hw hK
  have e:i=n:=hg
  subst e
  obtain⟨f0,f1,f2,f3,f4,f5⟩:=hf it (by simp)
  have hit:=st.2
  rw[show(i:Int)-1-(i:Int)= -1 by omega] at hit
  exact wpAny_pyNext_rev_end (I.ok.hd hc) hit λh' eb=>⟨rfl,I.turned (t':=s.toks) (λb o hb e=>eb b o hb e) f0 f1 f3 f4 f5⟩
 self:=λ_ _ _ _ _ st h=>wpAny_pyIter_revIter st.2 h
section
variable {X:Cx}{tg:Expr}
def iS (K:W.Frag)(ta:TA):TI:=λσ H R=>ta σ H λvs H1=>∃a xs,vs=[.ref a]/\Xv K H1 a xs/\R (gz K a xs.length) H1
def qE {a:Expr}{ta:TA}{p pos:Pos}(hg:Gl X "reversed")(hm:X.mg "reversed"=none)(ha:PA X [a] ta)(hs:starEach [a] X.env=[(false,eval a X.env)]:=by rfl)(hb:bootBuiltins "reversed"=some (.type "reversed"):=by decide+kernel):
  PI X tg (.Call (.Name "reversed" p) [a] [] pos) (iS X.K ta):=by
 intro pins s σ H R I h
 refine Call_ (Vi I hg hm hb (PyProof.Rows.callWith_type1 (Jp (ha pos pins s σ H _ I h) λus s1 ⟨vs,H1,I1,r1,q1⟩=>?_) hs rfl))
 obtain⟨l,xs,e,hq,q⟩:=q1
 subst e
 obtain⟨u,rfl,ru⟩:=Qd r1
 cases ru
 obtain⟨its,rv,pl,hz⟩:=I1.list hq
 have hl:its.length=xs.length:=by have:=rv.length;omega
 refine call_reversed_list pl.isList ?_
 have hit:(s1.heap.push (revObj l ((its.toArray.size:Int)-1))).IsRevIter s1.heap.objs.size l ((xs.length:Int)-1-((0:Nat):Int)):=by
  refine⟨_,XF _ rfl,rfl,?_⟩
  rw[List.size_toArray,hl];simp[revObj]
 refine wpAny_pyIter_revIter (s:={s1 with heap:=s1.heap.push (revObj l ((its.toArray.size:Int)-1))}) hit ?_
 refine⟨s1.heap.objs.size,[s1.heap.objs.size],_,_,H1,rfl,I1.kept (t':=s1.toks) λb o e=>XC _ e,xM l _ xs.length,⟨XO _,hit⟩,λb hb=>?_,q⟩
 have e:b=s1.heap.objs.size:=by simpa using hb
 subst e
 exact I1.fpOk (XE _) (I1.hok.fresh (XE _))
end
end L2
namespace WL
open PySem PySem.Spec PyProof.Rows L2
def fX (a:WA):WI:=λτ C R χ=>a τ C (λvs C1=>∃l xs,vs=[.ref l]/\C1 l=some (.lst xs)/\R xs.reverse (λC2=>C2 l=some (.lst xs)) C1) χ
def pQ {K:W.Frag}{F H0:Hp}{l:Addr}{xs:List T}:Mi K F H0 (gz K l xs.length) xs.reverse (λC=>C l=some (.lst xs)):=λi H C R t ok=>by
 obtain⟨ys,hy,r⟩:=R.lst ok
 refine⟨λhi=>?_,λhi=>by show i=xs.length;rw[hi,List.length_reverse]⟩
 rw[List.length_reverse] at hi
 have ev:xs[xs.length-1-i]?=some (xs[xs.length-1-i]'(by omega)):=List.getElem?_eq_getElem (by omega)
 obtain⟨y,ey,ry⟩:=r.get ev
 refine⟨⟨hi,ys,y,Xv.of hy,ey⟩,λx H' h=>?_⟩
 obtain⟨rfl,h⟩:=h
 have e2:=h ys (Xv.of hy)
 rw[ey] at e2;cases e2
 exact⟨_,by rw[List.getElem?_reverse hi];exact ev,R,Tx.refl _,ry⟩
section
variable {X:Cx}{tg a:Expr}{wA:WA}{pos p:Pos}
def oy (hg:Gl X "reversed")(hm:X.mg "reversed"=none)(ha:zX X [a] wA)(hs:starEach [a] X.env=[(false,eval a X.env)]:=by rfl):ng X tg (.Call (.Name "reversed" p) [a] [] pos) (fX wA):=by
 obtain⟨t,p1,s1⟩:=ha
 refine⟨_,qE hg hm p1 hs,λF H C σ τ R R' χ Rr S h q=>?_⟩
 refine s1 F H C σ τ _ _ χ Rr S h λxs vs H1 C1 R1 t1 rs h1=>?_
 obtain⟨l,us,rfl,hC,h1⟩:=h1
 obtain⟨x,rfl,rx⟩:=Wi rs
 cases Z6 rx
 obtain⟨ys,hy,r⟩:=R1.lst hC
 refine⟨l,ys,rfl,Xv.of hy,?_⟩
 rw[r.length]
 exact q _ H1 us.reverse _ C1 R1 t1 (λ_=>pQ) h1
end
end WL
namespace L2
open PySem PySem.Spec PyProof.Rows
section
variable {X:Cx}
end
end L2
namespace WL
open PySem PySem.Spec PyProof.Rows L2
section
variable {X:Cx}
end
end WL
namespace L2
open PySem PySem.Spec PyProof.Rows
def qp:typeLookup (.type "list_reverseiterator") "__len__"=pure none:=by
 rw[typeLookup_type];rw[builtinLookup_eq_fast];kernel_rfl
def uG:typeLookup (.type "list_reverseiterator") "__length_hint__"=pure (some (.builtin "list_reverseiterator.__length_hint__")):=by
 rw[typeLookup_type];rw[builtinLookup_eq_fast];kernel_rfl
section
variable {prog:Program}{w:World}{A:Around}{E:Value->Shared->Prop}{s:Shared}{it l:Addr}{i:Int}
def vi {Q:Bool->Shared->Prop}(hit:s.heap.IsRevIter it l i)(h:Q false s):wpAny (model prog w) A (Builtin.List.listLengthHint (.ref it)) Q E s:=by
 have hT:=hit.typeIs
 unfold Builtin.List.listLengthHint
 refine XA (wpAny_specialOf hT qp ?_)
 show wpAny _ A (specialOf (Value.ref it) (Str.ofString "__length_hint__")>>=_) _ _ _
 refine XA (wpAny_specialOf hT uG ?_)
 generalize hid:("list_reverseiterator.__length_hint__":String)=id0
 wp_delta
 rw[show splitId id0=some ("list_reverseiterator","__length_hint__") from by subst hid;decide+kernel]
 subst hid
 refine XA (wpAny_isInstance (T:="list_reverseiterator") (b:=true) hT (by rw[isSubtype_type];kernel_rfl) ?_)
 refine wpAny_ite_split (λz=>absurd z (by decide)) (λ_=>?_)
 refine wpAny_ite_split (λ_=>?_) (λz=>absurd (by decide+kernel) z)
 refine wpAny_ite_split (λz=>absurd z (by decide+kernel)) (λ_=>?_)
 exact XB h
def ve {R:Result->Shared->Prop}{items:Array Value}(hh:A.handled=none)(n:Nat)(hn:items.size=n)(hsz:n<=sizeLine)(S:Addr)(hSi:S≠it)(hSl:S≠l)(hil:l≠it)
  (hit:s.heap.IsRevIter it l ((n:Int)-1)) (hl:s.heap.IsList l items) (hS:s.heap.get? S=some {cls:=.type "list",data:=.seq #[]})
  (hR:∀s' acc' c',Moved [S,it] (λa b=>b=a) s s'->s'.heap.get? S=some {cls:=.type "list",dict:=none,data:=.seq acc' c',slots:=#[]}->ItemsOf (λi v=>items[items.size-1-i]?=some v) acc' n->R (.ok (.ret .none)) s'):
  wpAny (model prog w) A.in1 (Builtin.«list.__init__» ⟨[.ref S,.ref it],[]⟩)
   (λfin s2=>match fin with | .done f=>R (.ok f) s2 | .again c2=>c2.quiet=true/\codeAny (model prog w) A c2 R s2) (λe s2=>R (.error e) s2) s:=by
 have W:=(Walks.listRev (prog:=prog) (w:=w) (A:=A.in1) hh it l hil items).toS
 rw[hn] at W
 have hSf:S∉[it,l]:=by simp[hSi,hSl]
 show wpAny _ A.in1 (Builtin.List.listItems (.ref S)>>=λold=>Builtin.List.listUpdate (.ref S) (λ_=>#[])>>=λ_=>letGo old.toList.reverse>>=λ_=>Builtin.List.listExtendWith (.ref S) (.ref it) .none) _ _ s
 unfold Builtin.List.listItems
 refine XA ?_
 refine XA (wpAny_seqItems hS rfl (XB ?_))
 show wpAny _ A.in1 (updateSeq S (λ_=>#[])>>=λ_=>letGo (#[]:Array Value).toList.reverse>>=λ_=>Builtin.List.listExtendWith (.ref S) (.ref it) .none) _ _ s
 refine XA (wpAny_updateSeq hS rfl ?_)
 have hS2:=Heap.get?_update_self (Obj.mapSeq (λ_=>(#[]:Array Value))) hS rfl
 have oth:∀b o,b≠S->s.heap.get? b=some o->(s.heap.update S (Obj.mapSeq (λ_=>(#[]:Array Value)))).get? b=some o:=λb o hb e=>
  (Heap.get?_update_other _ _ (Ne.symm hb)).trans e
 refine XA (wpAny_letGo ?_)
 unfold Builtin.List.listExtendWith
 have hit2:(s.heap.update S (Obj.mapSeq (λ_=>(#[]:Array Value)))).IsRevIter it l ((n:Int)-1):=hit.at λo e=>oth it o hSi.symm e
 have hl2:(s.heap.update S (Obj.mapSeq (λ_=>(#[]:Array Value)))).IsList l items:=hl.at λo e=>oth l o hSl.symm e
 refine XA (wpAny_typeOf (T:="list_reverseiterator") (Heap.IsRevIter.typeIs (s:={s with heap:=_}) hit2) ?_)
 have h1:Builtin.List.listSameRef (.ref S) (.ref it)=false:=by simp[Builtin.List.listSameRef,hSi]
 have h2:(Value.type "list_reverseiterator"==Value.type "list")=false:=by decide
 have h3:(Value.type "list_reverseiterator"==Value.type "tuple")=false:=by decide
 simp only[h1,h2,h3,Bool.or_false,Bool.false_eq_true,if_false]
 refine XA (wpAny_pyIter_revIter hit2 ?_)
 refine XA (wpAny_holding (vi hit2 ?_))
 have st:(λi (h:Heap)=>i<=n/\h.IsRevIter it l ((n:Int)-1-(i:Int))/\h.IsList l items) 0 (s.heap.update S (Obj.mapSeq (λ_=>(#[]:Array Value)))):=⟨Nat.zero_le _,by simpa using hit2,hl2⟩
 refine wpAny_ite_split (λz=>absurd z (by decide+kernel)) (λ_=>?_)
 refine XB ⟨plainId_quiet PySem.F.plain_extend_loop _,?_⟩
 refine codeAny_extend_loopS W hsz S hSf .none n 0 _ #[] _ rfl (XO _) st hS2 (ItemsOf.nil _) λs3 acc3 c3 hm hS3 hacc=>?_
 refine hR s3 acc3 c3 ⟨λb o hb e=>?_,hm.gens,hm.drawn,hm.os,hm.toks⟩ hS3 (by rw[hn];exact hacc)
 exact hm.heap b o hb (oth b o (λz=>hb (by rw[z];simp)) e)
def Dj {Q:Value->Shared->Prop}{items:Array Value}(hh:A.handled=none)(hsz:items.size<=sizeLine)(hil:l≠it)(hit:s.heap.IsRevIter it l ((items.size:Int)-1))(hl:s.heap.IsList l items)
  (hQ:∀h2 t2 acc2 c2,(∀b o,b≠it->s.heap.get? b=some o->h2.get? b=some o)->h2.get? s.heap.objs.size=some {cls:=.type "list",dict:=none,data:=.seq acc2 c2,slots:=#[]}->ItemsOf (λi v=>items[items.size-1-i]?=some v) acc2 items.size->Q (.ref s.heap.objs.size) {s with heap:=h2,toks:=t2}):
  wpAny (model prog w) A (call (.type "list") [.ref it]) Q E s:=by
 refine callType_codes (Q₁:=λob s1=>ob=.ref s.heap.objs.size/\s1={s with heap:=s.heap.push {cls:=.type "list",data:=.seq #[]}}) PySem.F.called_list (PySem.F.typeCall_list_1 _) PySem.F.entry_list_init (code_list_new _ ⟨rfl,rfl⟩) λob s1 h1=>?_
 obtain⟨rfl,rfl⟩:=h1
 have hS:(s.heap.push {cls:=.type "list",data:=.seq #[]}).get? s.heap.objs.size=some {cls:=.type "list",data:=.seq #[]}:=XF _ rfl
 have ltI:it<s.heap.objs.size:=by obtain⟨_,e,_⟩:=hit;exact XD e
 have ltL:l<s.heap.objs.size:=by obtain⟨_,e,_⟩:=hl;exact XD e
 refine⟨⟨_,hS,rfl⟩,PySem.F.args_list_init_2 _ _,ve (A:=A.in1) hh items.size rfl hsz _ (Nat.ne_of_gt ltI) (Nat.ne_of_gt ltL) hil (hit.at λo e=>XC _ e) (hl.at λo e=>XC _ e) hS λs3 acc3 c3 hm hS3 hacc=>⟨rfl,?_⟩⟩
 rw[Moved.eq_with hm]
 exact hQ s3.heap s3.toks acc3 c3 (λb o hb e=>hm.heap b o (by simp only[List.mem_cons,List.not_mem_nil,or_false,not_or];exact⟨Nat.ne_of_lt (Heap.lt_size e),hb⟩) (Heap.get?_push_of_some _ e)) hS3 hacc
end
section
variable {X:Cx}
def Dz:∀{xs:List V} {us:List Value},Z7 xs us->Z7 xs.reverse us.reverse
 | _,_,.nil=>.nil
 | _,_,.cons r t=>by rw[List.reverse_cons,List.reverse_cons];exact(Dz t).append (.cons r .nil)
def jB {its:List Value}{acc:Array Value}(h:ItemsOf (λi v=>its.toArray[its.toArray.size-1-i]?=some v) acc its.toArray.size):acc.toList=its.reverse:=by
 obtain⟨h1,h2⟩:=h
 have hl:its.toArray.size=its.length:=by simp
 refine List.ext_getElem? λj=>?_
 by_cases c:j<acc.size
 ·have e:acc[j]?=some acc[j]:=by simp[c]
  have h3:=h2 j _ e
  rw[Array.getElem?_toList,e,<-h3,hl]
  rw[List.getElem?_reverse (by omega)]
  simp
 ·rw[List.getElem?_eq_none (by simp;omega),List.getElem?_eq_none (by simp;omega)]
def nZ (K:W.Frag)(ta:TE):TE:=λσ H Q=>ta σ H λx H1=>∃a xs,x=.ref a/\Xv K H1 a xs/\∀p,H1 p=none->Q (.ref p) (Yq H1 p (.lst xs.reverse))
def zn {a:Expr}{ta:TE}{p pos p2 pos2:Pos}(hc:X.calm=true)(hg:Gl X "list")(hm:X.mg "list"=none)(hg2:Gl X "reversed")(hm2:X.mg "reversed"=none)(ha:PE X a ta)(hs:starEach [a] X.env=[(false,eval a X.env)]:=by rfl)
  (hs2:starEach [.Call (.Name "reversed" p2) [a] [] pos2] X.env=[(false,eval (.Call (.Name "reversed" p2) [a] [] pos2) X.env)]:=by rfl) (hb:bootBuiltins "reversed"=some (.type "reversed"):=by decide+kernel) (hb2:bootBuiltins "list"=some (.type "list"):=by decide+kernel):
  PE X (.Call (.Name "list" p) [.Call (.Name "reversed" p2) [a] [] pos2] [] pos) (nZ X.K ta):=by
 intro pins s σ H Q I h
 refine Call_ (Vi I hg hm hb2 (PyProof.Rows.callWith_type1 ?_ hs2 rfl))
 rw[hs2]
 show wpAny _ _ (spliced ((false,eval (.Call (.Name "reversed" p2) [a] [] pos2) X.env)::backTo pos [])) _ _ s
 refine Calls.spliced_cons (Call_ (Vi I hg2 hm2 hb (PyProof.Rows.callWith_type1 ?_ hs rfl)))
 have pa:PA X [a] (xS ta xQ):=Lz ha zp hs
 refine Jp (pa pos2 pins s σ H (λxs H1=>match xs with | [x]=>∃a ys,x=.ref a/\Xv X.K H1 a ys/\∀p,H1 p=none->Q (.ref p) (Yq H1 p (.lst ys.reverse)) | _=>False) I h) λus s1 ⟨vs,H1,I1,r1,q1⟩=>?_
 have one:∃x,vs=[x]:=by
  match vs,q1 with
  | [x],_=>exact⟨x,rfl⟩
  | [],q1=>exact q1.elim
  | _::_::_,q1=>exact q1.elim
 obtain⟨x,rfl⟩:=one
 obtain⟨l,ys,rfl,hq,q⟩:=q1
 obtain⟨u,rfl,ru⟩:=Qd r1
 cases ru
 obtain⟨its,rv,pl,hz⟩:=I1.list hq
 have hlen:=rv.length
 refine call_reversed_list pl.isList ?_
 have ltL:l<s1.heap.objs.size:=by obtain⟨_,e,_⟩:=pl.isList;exact XD e
 refine Calls.spliced_nil ?_
 have hit:(s1.heap.push (revObj l ((its.toArray.size:Int)-1))).IsRevIter s1.heap.objs.size l ((its.toArray.size:Int)-1):=⟨_,XF _ rfl,rfl,rfl⟩
 have hl2:(s1.heap.push (revObj l ((its.toArray.size:Int)-1))).IsList l its.toArray:=pl.isList.at λo e=>XC _ e
 refine Dj (s:={s1 with heap:=s1.heap.push (revObj l ((its.toArray.size:Int)-1))}) (I.ok.hd hc) (by simp only[List.size_toArray];omega) (Nat.ne_of_lt ltL) hit hl2 λh2 t2 acc c2 kp hN hI=>?_
 have hp:s1.heap.objs.size<=(s1.heap.push (revObj l ((its.toArray.size:Int)-1))).objs.size:=by rw[Heap.size_push];omega
 refine⟨.ref _,_,I1.laid (h':=h2) (t':=t2) (λb o e=>kp b o (XH (XD e)) (XC _ e)) hp (show Y6 X.prog X.w _ h2 _ (.lst ys.reverse) from⟨by rw[List.length_reverse];exact hz,its.reverse,c2,Dz rv,?_⟩),rfl,q _ (I1.hok.fresh hp)⟩
 rw[<-jB hI]
 exact hN
def eL (X:Cx)(e:Expr)(t:TE):Prop:=
 ∀(pins:List (Addr×Obj)) (s:Shared) (σ:St) (H:Hp) (Q:VK),Zs X pins σ H s->t σ H Q->wpAny (model X.prog X.w) X.A (eval e X.env) (λv s'=>1<=s'.toks/\EP X pins σ Q v s') X.xe s
variable {o e:Expr}{es:List Expr}{to:TE}{t:TA}{apos cpos:Pos}{z y:Str}{k k1 k2:Nat}{lp lp1 lp2:Pos}
end
end L2
namespace WL
open PySem PySem.Spec PyProof.Rows L2
section
variable {X:Cx}{e o:Expr}{we wo:WE}{p p2 pos pos2 apos cpos:Pos}
def tF:T->List T->Hw->WK->Prop:=λx vs C Q=>∃a b xs zs,x=.ref a/\vs=[.ref b]/\C a=some (.lst xs)/\C b=some (.lst zs)/\xs.length+zs.length<=sizeLine/\Q .non (up C a (.lst (xs++zs)))
def Ij:kz X "list.extend" tF:=⟨_,j5,λF H C x v xs vs Q Q' R rx rs h q=>by
 obtain⟨a,b,ts,us,rfl,rfl,ha,hb,hl,h⟩:=h
 cases Z6 rx
 obtain⟨y,rfl,ry⟩:=Wi rs
 cases Z6 ry
 obtain⟨ys,hy,r⟩:=R.lst ha
 obtain⟨zs,hz,r2⟩:=R.lst hb
 obtain⟨R',t⟩:=R.putL ha (r.app r2)
 exact⟨a,b,ys,zs,rfl,rfl,hy,hz,by rw[r.length,r2.length];exact hl,q _ _ _ _ R' t Np h⟩⟩
def lQ (e:WE):WE:=λτ C Q χ=>e τ C (λx C1=>∃a xs,x=.ref a/\C1 a=some (.lst xs)/\∀p,C1 p=none->Q (.ref p) (up C1 p (.lst xs.reverse))) χ
def vH (hc:X.calm=true)(hg:Gl X "list")(hm:X.mg "list"=none)(hg2:Gl X "reversed")(hm2:X.mg "reversed"=none)(he:Ji X e we)(hs:starEach [e] X.env=[(false,eval e X.env)]:=by rfl)
  (hs2:starEach [.Call (.Name "reversed" p2) [e] [] pos2] X.env=[(false,eval (.Call (.Name "reversed" p2) [e] [] pos2) X.env)]:=by rfl):
  Ji X (.Call (.Name "list" p) [.Call (.Name "reversed" p2) [e] [] pos2] [] pos) (lQ we):=by
 obtain⟨t,p1,sm⟩:=he
 refine⟨_,zn hc hg hm hg2 hm2 p1 hs hs2,λF H C σ τ Q Q' χ R S h q=>?_⟩
 refine sm F H C σ τ _ _ χ R S h λx v H1 C1 R1 t1 rx h1=>?_
 obtain⟨a,xs,rfl,hC,h1⟩:=h1
 cases Z6 rx
 obtain⟨ys,hH,rs⟩:=R1.lst hC
 exact⟨a,ys,rfl,Xv.of hH,λb hb=>q _ _ _ _ (R1.newL hb rs.reverse) (t1.trans (Tx.new hb)) Jb (h1 b (R1.free hb))⟩
def ff:List T->Hw->WK->Prop:=λvs C Q=>(∃i:Int,vs=[.int i]/\i.natAbs.log2<1920/\Q (.str (toString i)) C)\/∃z,vs=[.str z]/\Q (.str z) C
def dg (X:Cx)(e:Expr)(w:WE):Prop:=∃t,eL X e t/\Ts X.K t w
def fc (y z:Str)(o:WE):WE:=λτ C Q χ=>o τ C (λx C1=>∃u,x=.str u/\u.length<=1048576/\Q (.str (Txt.replace u y z)) C1) χ
end
end WL
namespace L2
open PySem PySem.Spec PyProof.Rows
section
variable {prog:Program}{w:World}{A:Around}{E:Value->Shared->Prop}{s:Shared}{a b:Addr}{oa ob:Obj}{ea eb:Array DictEntry}{pa pb:Nat}
end
section
variable {prog:Program}{w:World}{A:Around}{E:Value->Shared->Prop}{s:Shared}
def u5 {jt q:Addr}{i:Nat}{its:Array Value}{x:Value}{Q:Value->Shared->Prop}(hj:s.heap.IsTupleIter jt q i)(hq:s.heap.IsTuple q its)(hx:its[i]?=some x)
  (hQ:∀h2,h2.IsTupleIter jt q (i+1)->Heap.SameBut jt s.heap h2->Q x {s with heap:=h2}):wpAny (model prog w) A (Builtin.SmallTypes.nextOf (.ref jt)) Q E s:=by
 obtain⟨ob,hob,hcl,hda⟩:=id hj
 obtain⟨oq,hoq,_,nq,hdq⟩:=hq
 unfold Builtin.SmallTypes.nextOf
 refine XA (wpAny_callSpecial?_slot (name:=Str.ofString "__next__") hj.typeIs F.slot_tuple_iterator_next (wpAny_call_entry F.slot_tuple_iterator_next hj.typeIs F.entry_tuple_iterator_next ?_ (F.args_tuple_iterator_next_1 _)))
 show wpAny _ _ (field (.ref jt) 0>>=_) _ _ s
 refine XA (wpAny_field hob hda (x:=.ref q) rfl ?_)
 show wpAny _ _ (if (Value.ref q==Value.none)=true then _ else _) _ _ s
 rw[XX (show ¬((Value.ref q==Value.none)=true) from YJ)]
 show wpAny _ _ (field (.ref jt) 1>>=_) _ _ s
 refine XA (wpAny_field hob hda (x:=.int i 0) rfl ?_)
 show wpAny _ _ (seqItems? (.ref q)>>=_) _ _ s
 refine XA (wpAny_seqItems hoq hdq ?_)
 simp only[Int.toNat_natCast,hx]
 refine wpAny_bind (wpAny_setField hob hda (by simp) (wpAny_pure ⟨x,rfl,wpAny_pure (hQ _ ?_ (Heap.SameBut.update ..))⟩))
 refine⟨_,Heap.get?_update_self _ hob (Obj.isFreed_of_fields (Obj.data_mapFields hda _)),(Obj.cls_mapFields ..).trans hcl,?_⟩
 rw[Obj.data_mapFields hda];simp[rawInt]
def qc {jt q:Addr}{i:Nat}{its:Array Value}{Q:Value->Shared->Prop}(hh:A.handled=none)(hj:s.heap.IsTupleIter jt q i)(hq:s.heap.IsTuple q its)(hx:its[i]?=none)
  (hE:∀h2 ex,Heap.ExtBut jt s.heap h2->(∃o,h2.get? ex=some o/\o.cls=.type "StopIteration")->E (.ref ex) {s with heap:=h2}):wpAny (model prog w) A (Builtin.SmallTypes.nextOf (.ref jt)) Q E s:=by
 obtain⟨ob,hob,hcl,hda⟩:=id hj
 obtain⟨oq,hoq,_,nq,hdq⟩:=hq
 unfold Builtin.SmallTypes.nextOf
 refine XA (wpAny_callSpecial?_slot (name:=Str.ofString "__next__") hj.typeIs F.slot_tuple_iterator_next (wpAny_call_entry F.slot_tuple_iterator_next hj.typeIs F.entry_tuple_iterator_next ?_ (F.args_tuple_iterator_next_1 _)))
 show wpAny _ _ (field (.ref jt) 0>>=_) _ _ s
 refine XA (wpAny_field hob hda (x:=.ref q) rfl ?_)
 show wpAny _ _ (if (Value.ref q==Value.none)=true then _ else _) _ _ s
 rw[XX (show ¬((Value.ref q==Value.none)=true) from YJ)]
 show wpAny _ _ (field (.ref jt) 1>>=_) _ _ s
 refine XA (wpAny_field hob hda (x:=.int i 0) rfl ?_)
 show wpAny _ _ (seqItems? (.ref q)>>=_) _ _ s
 refine XA (wpAny_seqItems hoq hdq ?_)
 simp only[Int.toNat_natCast,hx]
 refine wpAny_bind (wpAny_rule (wpAny_bind (wpAny_setField hob hda (by simp) ?_)))
 refine XA ?_
 simp only[newExc,newTuple]
 refine XA (wpAny_newObj_type ?_ (by size_fits))
 refine wpAny_bind (m:=firstArgMember _ _) (wpAny_of_eq (a:=Value.none) (by first | rfl | (simp only[firstArgMember]<;>rfl)) ?_)
 refine wpAny_newObj_type ?_ (by size_fits)
 simp only[raiseNew]
 refine XA (wpAny_handled ?_)
 rw[show A.in1.handled=none from hh]
 exact XA (XB (wpAny_throw (hE _ _ (((Heap.SameBut.update ..).extBut.push _).push _) ⟨_,XF _ rfl,rfl⟩)))
end
def Pd {prog:Program}{w:World}{A:Around}(hh:A.handled=none)(jt q:Addr)(hne:q≠jt)(its:Array Value):
  Draws prog w A jt [jt,q] its.size (λi v=>its[i]?=some v) (λi h=>h.IsTupleIter jt q i/\h.IsTuple q its) where
 live:=λ_ _ st=>let ⟨o,ho,_⟩:=st.1;⟨o,ho⟩
 frame:=λ_ _ _ st k=>⟨st.1.at λo e=>k jt (by simp) o e,st.2.at λo e=>k q (by simp) o e⟩
 item:=λi s Q E hi st hQ=>u5 st.1 st.2 (x:=its[i]) (by simp[hi]) λh2 a b=>hQ _ h2 s.toks (by simp[hi]) ⟨a,st.2.extBut b.extBut hne⟩ b
 done:=λs Q E st hE=>qc hh st.1 st.2 (by simp) hE
structure jW (z TI TO i1 i2:Addr)(f1 f2:List Addr):Prop where
 m1:i1∈f1
 m2:i2∈f2
 z1:z∉f1
 z2:z∉f2
 o1:TO∉f1
 o2:TO∉f2
 a12:i1∉f2
 a21:i2∉f1
 tz:TI≠z
 oz:TO≠z
 io:TI≠TO
 t1:TI≠i1
 t2:TI≠i2
section
variable {prog:Program}{w:World}{A:Around}{E:Value->Shared->Prop}{s:Shared}{z TI TO i1 i2:Addr}{f1 f2:List Addr}{n:Nat}{P1 P2:Nat->Value->Prop}{S1 S2:Nat->Heap->Prop}
def yf {i:Nat}{u v:Value}{Q:Value->Shared->Prop}(D1:Draws prog w A i1 f1 n P1 S1)(D2:Draws prog w A i2 f2 n P2 S2)(Z:jW z TI TO i1 i2 f1 f2)(hi:i<n)
  (hz:IsZip s.heap z TI TO .none) (hTI:IsPair s.heap TI (.ref i1) (.ref i2)) (hTO:IsPair s.heap TO u v) (s1:S1 i s.heap) (s2:S2 i s.heap)
  (hQ:∀x y h2 t2,P1 i x->P2 i y->IsZip h2 z TI TO (rawInt s.heap.objs.size)->IsPair h2 TO x y->S1 (i+1) h2->S2 (i+1) h2->IsPair h2 s.heap.objs.size x y->
   (∀c o,c≠z->c≠TO->c≠i1->c≠i2->s.heap.get? c=some o->h2.get? c=some o)->Q (.ref s.heap.objs.size) {s with heap:=h2,toks:=t2}):
  wpAny (model prog w) A (Builtin.«zip.__next__» ⟨[.ref z],[]⟩) (λfin s2=>∃r,fin=.done (.ret r)/\Q r s2) E s:=by
 show wpAny _ _ (field (.ref z) 2>>=_) _ E s
 refine XA (wpAny_field hz rfl (x:=.bool false) rfl ?_)
 show wpAny _ _ (field (.ref z) 3>>=_) _ E s
 refine XA (wpAny_field hz rfl (x:=.ref TI) rfl ?_)
 refine XA (wpAny_seqItems hTI rfl ?_)
 show wpAny _ _ (Builtin.SmallTypes.ownedTupleIsFree (.ref z)>>=_) _ E s
 refine XA ?_
 unfold Builtin.SmallTypes.ownedTupleIsFree
 refine XA (wpAny_field hz rfl (x:=.none) rfl (XB ?_))
 simp only[if_true]
 refine XA (wpAny_rule ?_)
 refine XA (wpAny_field hz rfl (x:=.ref TO) rfl ?_)
 refine wpAny_bind (wpAny_setField_rec hz (by simp) λha hza sa=>?_)
 replace hza:IsZip ha z TI TO .ellipsis:=hza
 refine XA ?_
 simp only[List.zipIdx_cons,List.zipIdx_nil,List.forIn_cons,List.forIn_nil]
 have ne:∀{b c:Addr} {l:List Addr},b∈l->c∉l->b≠c:=λhb hc e=>hc (e▸hb)
 have a1:S1 i ha:=D1.frame i _ _ s1 λb hb o e=>sa.extBut _ _ (ne hb Z.z1) e
 have a2:S2 i ha:=D2.frame i _ _ s2 λb hb o e=>sa.extBut _ _ (ne hb Z.z2) e
 refine XA (XA (wpAny_onRaise ?_))
 show wpAny _ _ (Builtin.SmallTypes.nextOf (.ref i1)>>=_) _ _ _
 refine XA (D1.item i {s with heap:=ha} _ _ hi a1 λx hb tb hx b1 sb=>XB ?_)
 have b2:S2 i hb:=D2.frame i _ _ a2 λb hm o e=>sb.extBut _ _ (ne hm Z.a12) e
 have Oi1:TO≠i1:=λe=>Z.o1 (e▸Z.m1)
 have Oi2:TO≠i2:=λe=>Z.o2 (e▸Z.m2)
 have zi1:z≠i1:=λe=>Z.z1 (e▸Z.m1)
 have zi2:z≠i2:=λe=>Z.z2 (e▸Z.m2)
 have tob:IsPair hb TO u v:=sb.extBut _ _ Oi1 (sa.extBut _ _ Z.oz hTO)
 refine XA (wpAny_seqItems tob rfl ?_)
 refine XA (wpAny_updateSeq_pair tob λhc toc sc=>?_)
 replace toc:IsPair hc TO x v:=toc
 refine XA (wpAny_letGo (XB ?_))
 have c1:S1 (i+1) hc:=D1.frame _ _ _ b1 λb hm o e=>sc.extBut _ _ (ne hm Z.o1) e
 have c2:S2 i hc:=D2.frame _ _ _ b2 λb hm o e=>sc.extBut _ _ (ne hm Z.o2) e
 refine XA (XA (wpAny_onRaise ?_))
 show wpAny _ _ (Builtin.SmallTypes.nextOf (.ref i2)>>=_) _ _ _
 refine XA (D2.item i {s with heap:=hc,toks:=tb} _ _ hi c2 λy hd td hy d2 sd=>XB ?_)
 have d1:S1 (i+1) hd:=D1.frame _ _ _ c1 λb hm o e=>sd.extBut _ _ (ne hm Z.a21) e
 have tod:IsPair hd TO x v:=sd.extBut _ _ Oi2 toc
 refine XA (wpAny_seqItems tod rfl ?_)
 refine XA (wpAny_updateSeq_pair tod λhe toe se=>?_)
 replace toe:IsPair he TO x y:=toe
 refine XA (wpAny_letGo (XB (XB ?_)))
 have e1:S1 (i+1) he:=D1.frame _ _ _ d1 λb hm o e=>se.extBut _ _ (ne hm Z.o1) e
 have e2:S2 (i+1) he:=D2.frame _ _ _ d2 λb hm o e=>se.extBut _ _ (ne hm Z.o2) e
 refine XA (wpAny_seqItems toe rfl ?_)
 refine XA (wpAny_newTuple ?_)
 have hsz:he.objs.size=s.heap.objs.size:=by rw[se.1,sd.1,sc.1,sb.1,sa.1]
 have hze:IsZip he z TI TO .ellipsis:=se.extBut _ _ Z.oz.symm (sd.extBut _ _ zi2 (sc.extBut _ _ Z.oz.symm (sb.extBut _ _ zi1 hza)))
 have hke:∀c o,c≠z->c≠TO->c≠i1->c≠i2->s.heap.get? c=some o->he.get? c=some o:=λc o n1 n2 n3 n4 e=>se.extBut _ _ n2 (sd.extBut _ _ n4 (sc.extBut _ _ n2 (sb.extBut _ _ n3 (sa.extBut _ _ n1 e))))
 have hzlt:z<he.objs.size:=XD hze
 show wpAny _ _ (Builtin.SmallTypes.ownedTupleHandOut (.ref z) (.ref he.objs.size)>>=_) _ _ _
 refine XA ?_
 unfold Builtin.SmallTypes.ownedTupleHandOut
 have hzf:IsZip (he.push {cls:=.type "tuple",data:=.seq #[x,y]}) z TI TO .ellipsis:=XC _ hze
 refine wpAny_bind (wpAny_setField_rec hzf (by simp) λhg hzg sg=>?_)
 replace hzg:IsZip hg z TI TO (rawInt he.objs.size):=hzg
 refine wpAny_setField_rec hzg (by simp) λhk hzk sk=>?_
 replace hzk:IsZip hk z TI TO (rawInt he.objs.size):=hzk
 have up:∀c o,c≠z->he.get? c=some o->hk.get? c=some o:=λc o n1 e=>sk.extBut _ _ n1 (sg.extBut _ _ n1 (XC _ e))
 have hT:IsPair hk he.objs.size x y:=sk.extBut _ _ (Nat.ne_of_gt hzlt) (sg.extBut _ _ (Nat.ne_of_gt hzlt) (XF _ rfl))
 rw[hsz] at hzk hT
 refine XB ⟨_,rfl,?_⟩
 show Q (.ref he.objs.size) _
 rw[hsz]
 exact hQ x y hk td hx hy hzk (up _ _ Z.oz toe) (D1.frame _ _ _ e1 λb hm o e=>up _ o (ne hm Z.z1) e) (D2.frame _ _ _ e2 λb hm o e=>up _ o (ne hm Z.z2) e) hT λc o n1 n2 n3 n4 e=>up c o n1 (hke c o n1 n2 n3 n4 e)
def xA {u v:Value}{Q:Fin->Shared->Prop}(D1:Draws prog w A i1 f1 n P1 S1)(Z:jW z TI TO i1 i2 f1 f2)
  (hz:IsZip s.heap z TI TO .none) (hTI:IsPair s.heap TI (.ref i1) (.ref i2)) (hTO:IsPair s.heap TO u v) (s1:S1 n s.heap)
  (hE:∀h2 ex,(∀c o,c≠z->c≠TO->c≠i1->c≠i2->s.heap.get? c=some o->h2.get? c=some o)->(∃o,h2.get? ex=some o/\o.cls=.type "StopIteration")->E (.ref ex) {s with heap:=h2}):
  wpAny (model prog w) A (Builtin.«zip.__next__» ⟨[.ref z],[]⟩) Q E s:=by
 show wpAny _ _ (field (.ref z) 2>>=_) _ E s
 refine XA (wpAny_field hz rfl (x:=.bool false) rfl ?_)
 show wpAny _ _ (field (.ref z) 3>>=_) _ E s
 refine XA (wpAny_field hz rfl (x:=.ref TI) rfl ?_)
 refine XA (wpAny_seqItems hTI rfl ?_)
 show wpAny _ _ (Builtin.SmallTypes.ownedTupleIsFree (.ref z)>>=_) _ E s
 refine XA ?_
 unfold Builtin.SmallTypes.ownedTupleIsFree
 refine XA (wpAny_field hz rfl (x:=.none) rfl (XB ?_))
 simp only[if_true]
 refine XA (wpAny_rule ?_)
 refine XA (wpAny_field hz rfl (x:=.ref TO) rfl ?_)
 refine wpAny_bind (wpAny_setField_rec hz (by simp) λha hza sa=>?_)
 replace hza:IsZip ha z TI TO .ellipsis:=hza
 refine XA ?_
 simp only[List.zipIdx_cons,List.zipIdx_nil,List.forIn_cons,List.forIn_nil]
 have ne:∀{b c:Addr} {l:List Addr},b∈l->c∉l->b≠c:=λhb hc e=>hc (e▸hb)
 have a1:S1 n ha:=D1.frame n _ _ s1 λb hb o e=>sa.extBut _ _ (ne hb Z.z1) e
 refine XA (XA (wpAny_onRaise ?_))
 show wpAny _ _ (Builtin.SmallTypes.nextOf (.ref i1)>>=_) _ _ _
 refine XA (D1.done {s with heap:=ha} _ _ a1 λhb ex sb he=>?_)
 obtain⟨oe,hoe,hce⟩:=he
 have hzb:IsZip hb z TI TO .ellipsis:=sb _ _ (λe=>Z.z1 (e▸Z.m1)) hza
 have hez:ex≠z:=λe=>by subst e;rw[hzb] at hoe;cases hoe;simp at hce
 exact wpAny_setField_rec hzb (by simp) λhc _ sc=>hE hc ex (λc o n1 _ n3 _ e=>sc.extBut _ _ n1 (sb _ _ n3 (sa.extBut _ _ n1 e))) ⟨oe,sc.extBut _ _ hez hoe,hce⟩
def Dv (D1:Draws prog w A.in1 i1 f1 n P1 S1)(D2:Draws prog w A.in1 i2 f2 n P2 S2)(Z:jW z TI TO i1 i2 f1 f2):
  WalksT prog w A z (z::TI::TO::(f1++f2)) [z,TO,i1,i2] n (λi vals=>∃x y,P1 i x/\P2 i y/\vals=#[x,y])
   (λi h=>IsZip h z TI TO .none/\IsPair h TI (.ref i1) (.ref i2)/\(∃a b,IsPair h TO a b)/\S1 i h/\S2 i h)
   (λi T h=>IsZip h z TI TO (rawInt T)/\IsPair h TI (.ref i1) (.ref i2)/\(∃a b,IsPair h TO a b)/\S1 (i+1) h/\S2 (i+1) h/\T∉[z,TO,i1,i2]) where
 sub:=λc hc=>by
  simp only[ZM,ZN,or_false] at hc
  rcases hc with rfl | rfl | rfl | rfl
  ·simp
  ·simp
  ·simp[Z.m1]
  ·simp[Z.m2]
 frame:=λi h h2 st k=>by
  obtain⟨a,b,⟨u,v,c⟩,d,e⟩:=st
  exact⟨k z (by simp) _ a,k TI (by simp) _ b,⟨u,v,k TO (by simp) _ c⟩,D1.frame _ _ _ d λx hx o q=>k x (by simp[hx]) o q,D2.frame _ _ _ e λx hx o q=>k x (by simp[hx]) o q⟩
 item:=λi s Q E hi st hQ=>by
  obtain⟨a,b,⟨u,v,c⟩,d,e⟩:=st
  have hT:s.TypeIs (.ref z) "zip":=⟨_,a,rfl⟩
  unfold pyNext
  refine XA (wpAny_attempt (wpAny_callSpecial?_slot (name:=Str.ofString "__next__") hT F.slot_zip_next (wpAny_call_entry F.slot_zip_next hT F.entry_zip_next
   (yf D1 D2 Z hi a b c d e λx y h2 t2 hx hy z1 z2 z3 z4 z5 z6=>XB ?_) (F.args_zip_next_1 _))))
  have lt:∀{c o},s.heap.get? c=some o->s.heap.objs.size≠c:=λe=>Nat.ne_of_gt (XD e)
  obtain⟨o1,l1⟩:=D1.live _ _ d
  obtain⟨o2,l2⟩:=D2.live _ _ e
  refine hQ s.heap.objs.size #[x,y] h2 t2 ⟨x,y,hx,hy,rfl⟩ (Nat.le_refl _) ⟨_,z5,rfl,_,rfl⟩ ⟨z1,z6 _ _ Z.tz Z.io Z.t1 Z.t2 b,⟨_,_,z2⟩,z3,z4,?_⟩ λc o hc q=>z6 c o (λx=>hc (by simp[x])) (λx=>hc (by simp[x])) (λx=>hc (by simp[x])) (λx=>hc (by simp[x])) q
  simp only[List.mem_cons,List.not_mem_nil,or_false,not_or]
  exact⟨lt a,lt c,lt l1,lt l2⟩
 go:=λelts k pos i T s Q E hm hQ=>by
  obtain⟨a,b,⟨u,v,c⟩,d,e,_⟩:=hm
  refine wpAny_letOwnedTupleGo_zip a λh2 hz2 s2=>hQ h2 ⟨hz2,s2.extBut _ _ Z.tz b,⟨u,v,s2.extBut _ _ Z.oz c⟩,?_,?_⟩ λc o hc q=>s2.extBut _ _ (λx=>hc (by simp[x])) q
  ·exact D1.frame _ _ _ d λx hx o q=>s2.extBut _ _ (λz'=>Z.z1 (z'▸hx)) q
  ·exact D2.frame _ _ _ e λx hx o q=>s2.extBut _ _ (λz'=>Z.z2 (z'▸hx)) q
 apart:=λi T h hm=>hm.2.2.2.2.2
 done:=λs Q E st hQ=>by
  obtain⟨a,b,⟨u,v,c⟩,d,e⟩:=st
  have hT:s.TypeIs (.ref z) "zip":=⟨_,a,rfl⟩
  unfold pyNext
  refine XA (wpAny_attempt (wpAny_callSpecial?_slot (name:=Str.ofString "__next__") hT F.slot_zip_next (wpAny_call_entry F.slot_zip_next hT F.entry_zip_next (xA D1 Z a b c d λh2 ex hk he=>?_) (F.args_zip_next_1 _))))
  obtain⟨o,ho,hc⟩:=he
  refine XA (wpAny_isInstance (T:="StopIteration") (b:=true) ⟨o,ho,hc⟩ isSubtype_stop ?_)
  exact wpAny_pure (hQ h2 s.toks λc o hc q=>hk c o (λx=>hc (by simp[x])) (λx=>hc (by simp[x])) (λx=>hc (by simp[x])) (λx=>hc (by simp[x])) q)
 self:=λi s Q E st h=>wpAny_pyIter_zip st.1 h
end
abbrev Bo (c:String)(l:Addr):Obj:={cls:=.type c,data:=.fields #[.ref l,.int 0 0]}
abbrev zA (h:Heap)(c1:String)(l1:Addr):Heap:=h.push (Bo c1 l1)
abbrev zB (h:Heap)(c1:String)(l1:Addr)(c2:String)(l2:Addr):Heap:=(zA h c1 l1).push (Bo c2 l2)
abbrev zC (h:Heap)(c1:String)(l1:Addr)(c2:String)(l2:Addr):Heap:=(zB h c1 l1 c2 l2).push {cls:=.type "tuple",data:=.seq #[.ref h.objs.size,.ref (zA h c1 l1).objs.size]}
abbrev zD (h:Heap)(c1:String)(l1:Addr)(c2:String)(l2:Addr):Heap:=(zC h c1 l1 c2 l2).push {cls:=.type "tuple",data:=.seq #[.none,.none]}
abbrev zE (h:Heap)(c1:String)(l1:Addr)(c2:String)(l2:Addr):Heap:=(zD h c1 l1 c2 l2).push {cls:=.type "zip",data:=.fields #[.none,.bool false,.bool false,.ref (zB h c1 l1 c2 l2).objs.size,.ref (zC h c1 l1 c2 l2).objs.size]}
def rL (b:Bool)(h:Heap)(l:Addr)(its:Array Value):Prop:=if b then h.IsList l its else h.IsTuple l its
def cX (b:Bool):String:=if b then "list_iterator" else "tuple_iterator"
def iO (c b:Bool)(l1 l2:Addr)(xs ys:Array Value):Meets (Builtin.«zip.__new__» ⟨[.type "zip",.ref l1,.ref l2],[]⟩) (λ_ R s=>rL c s.heap l1 xs/\rL b s.heap l2 ys/\
  R (.ok (.ret (.ref (zD s.heap (cX c) l1 (cX b) l2).objs.size))) {s with heap:=zE s.heap (cX c) l1 (cX b) l2}):=
 .of_wp λprog w A R s h=>by
  obtain⟨hp,g,d,tk,os⟩:=s;obtain⟨hl1,hl2,h⟩:=h
  have hsub:=sub_zip
  cases c
  ·have hL1:Heap.IsTuple (Shared.heap ⟨hp,g,d,tk,os⟩) l1 xs:=hl1
   cases b
   ·have hL2:Heap.IsTuple (Shared.heap ⟨hp.push (Bo "tuple_iterator" l1),g,d,tk,os⟩) l2 ys:=Heap.IsTuple.push hl2 _
    wp_walk using wpAny_pyIter_tuple hL1,wpAny_pyIter_tuple hL2
    exact⟨_,rfl,h⟩
   ·have hL2:Heap.IsList (Shared.heap ⟨hp.push (Bo "tuple_iterator" l1),g,d,tk,os⟩) l2 ys:=Heap.IsList.push hl2 _
    wp_walk using wpAny_pyIter_tuple hL1,wpAny_pyIter_list hL2
    exact⟨_,rfl,h⟩
  ·have hL1:Heap.IsList (Shared.heap ⟨hp,g,d,tk,os⟩) l1 xs:=hl1
   cases b
   ·have hL2:Heap.IsTuple (Shared.heap ⟨hp.push (Bo "list_iterator" l1),g,d,tk,os⟩) l2 ys:=Heap.IsTuple.push hl2 _
    wp_walk using wpAny_pyIter_list hL1,wpAny_pyIter_tuple hL2
    exact⟨_,rfl,h⟩
   ·have hL2:Heap.IsList (Shared.heap ⟨hp.push (Bo "list_iterator" l1),g,d,tk,os⟩) l2 ys:=Heap.IsList.push hl2 _
    wp_walk using wpAny_pyIter_list hL1,wpAny_pyIter_list hL2
    exact⟨_,rfl,h⟩
structure oU (h h2:Heap)(c1:String)(l1:Addr)(c2:String)(l2:Addr):Prop where
 zip:IsZip h2 (h.objs.size+4) (h.objs.size+2) (h.objs.size+3) .none
 its:IsPair h2 (h.objs.size+2) (.ref h.objs.size) (.ref (h.objs.size+1))
 own:IsPair h2 (h.objs.size+3) .none .none
 i1:h2.get? h.objs.size=some (Bo c1 l1)
 i2:h2.get? (h.objs.size+1)=some (Bo c2 l2)
 keep:∀c o,h.get? c=some o->h2.get? c=some o
def kP (h:Heap)(c1:String)(l1:Addr)(c2:String)(l2:Addr):oU h (zE h c1 l1 c2 l2) c1 l1 c2 l2/\(zD h c1 l1 c2 l2).objs.size=h.objs.size+4:=by
 have z1:(zA h c1 l1).objs.size=h.objs.size+1:=Heap.size_push ..
 have z2:(zB h c1 l1 c2 l2).objs.size=h.objs.size+2:=by rw[Heap.size_push,z1]
 have z3:(zC h c1 l1 c2 l2).objs.size=h.objs.size+3:=by rw[Heap.size_push,z2]
 have z4:(zD h c1 l1 c2 l2).objs.size=h.objs.size+4:=by rw[Heap.size_push,z3]
 have g5:(zE h c1 l1 c2 l2).get? (zD h c1 l1 c2 l2).objs.size=some _:=XF _ rfl
 have g4:(zE h c1 l1 c2 l2).get? (zC h c1 l1 c2 l2).objs.size=some _:=XC _ (XF _ rfl)
 have g3:(zE h c1 l1 c2 l2).get? (zB h c1 l1 c2 l2).objs.size=some _:=XC _ (XC _ (XF _ rfl))
 have g2:(zE h c1 l1 c2 l2).get? (zA h c1 l1).objs.size=some _:=XC _ (XC _ (XC _ (XF _ rfl)))
 have g1:(zE h c1 l1 c2 l2).get? h.objs.size=some _:=XC _ (XC _ (XC _ (XC _ (XF _ rfl))))
 rw[z2,z3,z4] at g5
 rw[z1,z2] at g3
 rw[z3] at g4
 rw[z1] at g2
 exact⟨⟨g5,g3,g4,g1,g2,λc o x=>XC _ (XC _ (XC _ (XC _ (XC _ x))))⟩,z4⟩
section
variable {prog:Program}{w:World}{A:Around}{E:Value->Shared->Prop}{s:Shared}
def O0 (c b:Bool){l1 l2:Addr}{xs ys:Array Value}{Q:Value->Shared->Prop}(hl1:rL c s.heap l1 xs)(hl2:rL b s.heap l2 ys)
  (h:∀h2,oU s.heap h2 (cX c) l1 (cX b) l2->Q (.ref (s.heap.objs.size+4)) {s with heap:=h2}):wpAny (model prog w) A (call (.type "zip") [.ref l1,.ref l2]) Q E s:=by
 refine callType_new PySem.F.called_zip (by decide) (PySem.F.typeCall_zip_2 _ _) (PySem.F.newCall_zip_2 _ _) (λobj=>PySem.F.args_object_init_3 obj _ _) PySem.F.entry_zip_new (iO c b l1 l2 xs ys) ⟨hl1,hl2,?_⟩
 obtain⟨N,e⟩:=kP s.heap (cX c) l1 (cX b) l2
 show _/\_
 rw[e]
 exact⟨⟨_,N.zip,rfl⟩,h _ N⟩
def Lw {k l1 l2:Addr}(h1:l1<k)(h2:l2<k):jW (k+4) (k+2) (k+3) k (k+1) [k,l1] [k+1,l2]:=by
 have e:∀{a b:Nat},a≠b->∀{l:List Nat},a∉l->a∉b::l:=λh _ h'=>by simp[h,h']
 have n:∀a:Nat,a∉([]:List Nat):=λa=>by simp
 have L1:(l1:Nat)<k:=h1
 have L2:(l2:Nat)<k:=h2
 have d:∀{a b:Nat},a<b\/b<a->a≠b:=λh e=>by omega
 exact⟨by simp,by simp,e (d (.inr (Nat.lt_add_of_pos_right (by decide)))) (e (d (.inr (Nat.lt_of_lt_of_le L1 (Nat.le_add_right _ _)))) (n _)),e (d (.inr (Nat.add_lt_add_left (by decide) k))) (e (d (.inr (Nat.lt_of_lt_of_le L2 (Nat.le_add_right _ _)))) (n _)),
  e (d (.inr (Nat.lt_add_of_pos_right (by decide)))) (e (d (.inr (XG L1 (Nat.le_add_right _ _)))) (n _)),e (d (.inr (Nat.add_lt_add_left (by decide) k))) (e (d (.inr (XG L2 (Nat.le_add_right _ _)))) (n _)),
  e (d (.inl (Nat.lt_add_of_pos_right (by decide)))) (e (d (.inr L2)) (n _)),e (d (.inr (Nat.lt_add_of_pos_right (by decide)))) (e (d (.inr (XG L1 (Nat.le_add_right _ _)))) (n _)),
  d (.inl (Nat.add_lt_add_left (by decide) k)),d (.inl (Nat.add_lt_add_left (by decide) k)),d (.inl (Nat.add_lt_add_left (by decide) k)),d (.inr (Nat.lt_add_of_pos_right (by decide))),d (.inr (Nat.add_lt_add_left (by decide) k))⟩
end
def jX (b:Bool)(K:W.Frag)(H:Hp)(a:Addr)(xs:List V):Prop:=if b then Xv K H a xs else Uu K H a xs
def rN (b:Bool)(h:Heap)(it l:Addr)(i:Nat):Prop:=if b then h.IsListIter it l i else h.IsTupleIter it l i
def Kg {prog:Program}{w:World}{A:Around}(b:Bool)(hh:A.handled=none)(it l:Addr)(hne:l≠it)(its:Array Value):
  Draws prog w A it [it,l] its.size (λi v=>its[i]?=some v) (λi h=>rN b h it l i/\rL b h l its):=by
 cases b
 ·exact Pd hh it l hne its
 ·exact Draws.list hh it l hne its
section
variable {X:Cx}{pins:List (Addr×Obj)}{σ:St}{H:Hp}{s:Shared}
def Zs.sqX {b:Bool}{a:Addr}{xs:List V}(I:Zs X pins σ H s)(h:jX b X.K H a xs):∃its:List Value,Z7 xs its/\rL b s.heap a its.toArray:=by
 cases b
 ·obtain⟨its,r,p,_⟩:=I.tuple h;exact⟨its,r,p⟩
 ·obtain⟨its,r,p,_⟩:=I.list h;exact⟨its,r,p.isList⟩
def rL.lt {b:Bool}{h:Heap}{l:Addr}{its:Array Value}(p:rL b h l its):l<h.objs.size:=by
 cases b
 ·obtain⟨_,e,_⟩:=p;exact XD e
 ·obtain⟨_,e,_⟩:=p;exact XD e
def rN.ob {b:Bool}{h:Heap}{l k:Addr}{i:Nat}(p:rN b h k l i):∃o,h.get? k=some o/\∀v,o.data≠.cell v:=by
 cases b
 ·obtain⟨o,e,c,d⟩:=p;exact⟨o,e,λv z=>by rw[d] at z;cases z⟩
 ·obtain⟨o,e,c,d⟩:=p;exact⟨o,e,λv z=>by rw[d] at z;cases z⟩
def rN.at {b:Bool}{h h':Heap}{l k:Addr}{i:Nat}(p:rN b h k l i)(q:∀o,h.get? k=some o->h'.get? k=some o):rN b h' k l i:=by
 cases b
 ·exact Heap.IsTupleIter.at p q
 ·exact Heap.IsListIter.at p q
def Zs.sqX_inj {b:Bool}{a:Addr}{xs ys:List V}(I:Zs X pins σ H s)(h:jX b X.K H a xs)(h':jX b X.K H a ys):xs=ys:=by
 cases b
 ·exact I.tuple_inj h h'
 ·exact I.list_inj h h'
end
def gy (z b:Bool)(K:W.Frag)(l1 l2:Addr):It:=
 ⟨λi H=>∃xs ys,jX z K H l1 xs/\jX b K H l2 ys/\xs.length=ys.length/\i<xs.length,
  λi H x H'=>∃u v T,(∀xs,jX z K H l1 xs->xs[i]?=some u)/\(∀ys,jX b K H l2 ys->ys[i]?=some v)/\x=.ref T/\H T=none/\H'=Yq H T (.tup [u,v]),
  λi H=>∃xs ys,jX z K H l1 xs/\jX b K H l2 ys/\xs.length=ys.length/\i=xs.length⟩
def xL {P:Program}{w:World}{K:W.Frag}{elts:List Expr}{ek:Nat}{epos:Pos}(z b:Bool){k l1 l2:Addr}(h1:l1<k)(h2:l2<k):
  Dq P w K (.Tuple elts ek epos) (gy z b K l1 l2) [k+4,k+2,k+3,k,k+1] (k+4)
   (λi h=>IsZip h (k+4) (k+2) (k+3) .none/\IsPair h (k+2) (.ref k) (.ref (k+1))/\(∃a c,IsPair h (k+3) a c)/\rN z h k l1 i/\rN b h (k+1) l2 i) where
 mem:=by simp
 obj:=λi h st c hc=>by
  obtain⟨a1,a2,⟨u,v,a3⟩,a4,a5⟩:=st
  simp only[ZM,ZN,or_false] at hc
  rcases hc with rfl | rfl | rfl | rfl | rfl
  ·exact⟨_,a1,λv z=>by have z':Data.fields _=Data.cell v:=z;cases z'⟩
  ·exact⟨_,a2,λv z=>by have z':Data.seq _ _=Data.cell v:=z;cases z'⟩
  ·exact⟨_,a3,λv z=>by have z':Data.seq _ _=Data.cell v:=z;cases z'⟩
  ·exact a4.ob
  ·exact a5.ob
 keep:=λi h h' st kp=>by
  obtain⟨a1,a2,⟨u,v,a3⟩,a4,a5⟩:=st
  exact⟨kp _ (by simp) _ a1,kp _ (by simp) _ a2,⟨u,v,kp _ (by simp) _ a3⟩,a4.at λo e=>kp _ (by simp) o e,a5.at λo e=>kp _ (by simp) o e⟩
 item:=by
  intro X hP hw hK hc i pins s σ H E I hf st hg
  subst hP hw hK
  obtain⟨xs,ys,hq1,hq2,hlen,hi⟩:=hg
  obtain⟨its1,rv1,p1⟩:=I.sqX hq1
  obtain⟨its2,rv2,p2⟩:=I.sqX hq2
  obtain⟨a1,a2,a3,a4,a5⟩:=st
  have hn1:its1.toArray.size=xs.length:=by rw[XJ,rv1.length]
  have hn2:its2.toArray.size=xs.length:=by rw[XJ,<-rv2.length,hlen]
  have D1:=Kg (prog:=X.prog) (w:=X.w) (A:=X.A.in1) z (I.ok.hd hc) k l1 (XH h1) its1.toArray
  have D2:=Kg (prog:=X.prog) (w:=X.w) (A:=X.A.in1) b (I.ok.hd hc) (k+1) l2 (XH (Nat.lt_succ_of_lt h2)) its2.toArray
  rw[hn1] at D1
  rw[hn2] at D2
  have W:=Dv D1 D2 (Lw h1 h2)
  refine W.item i s _ _ hi ⟨a1,a2,a3,⟨a4,p1⟩,⟨a5,p2⟩⟩ λT vals h' tk hv hT htup hm kk=>?_
  obtain⟨x,y,hx,hy,rfl⟩:=hv
  refine⟨_,rfl,W.go elts ek epos i T {s with heap:=h',toks:=tk} _ _ hm λh2 st2 kk2=>?_⟩
  have hu:xs[i]?=some xs[i]:=by simp[hi]
  have hv:ys[i]?=some (ys[i]'(by omega)):=by simp[show i<ys.length by omega]
  obtain⟨u1,e1,r1⟩:=rv1.get hu
  obtain⟨u2,e2,r2⟩:=rv2.get hv
  have ex:x=u1:=by
   have:its1[i]?=some x:=by simpa using hx
   rw[e1] at this;exact(YH this).symm
  have ey:y=u2:=by
   have:its2[i]?=some y:=by simpa using hy
   rw[e2] at this;exact(YH this).symm
  subst ex ey
  have hTn:H T=none:=I.hok.fresh hT
  have hTw:T∉[k+4,k+3,k,k+1]:=W.apart i T h' hm
  have sub:∀c,c∈[k+4,k+3,k,k+1]->c∈[k+4,k+2,k+3,k,k+1]:=λc hc=>by
   simp only[ZM,ZN,or_false] at hc |-
   rcases hc with z | z | z | z<;>simp[z]
  have k2:∀c o,c∉[k+4,k+3,k,k+1]->s.heap.get? c=some o->h2.get? c=some o:=λc o hb q=>kk2 c o hb (kk c o hb q)
  have htup2:IsTup h2 T #[x,y]:=by
   obtain⟨o,ho,r⟩:=htup
   exact⟨o,kk2 T o hTw ho,r⟩
  have hfp:∀c∈[k+4,k+3,k,k+1],H c=none:=λc hb=>(hf c (sub c hb)).1
  have hne:∀c,c<s.heap.objs.size->c≠T:=λc hb=>XH (XG hb hT)
  have tracked:∀c u,H c=some u->c≠T/\c∉[k+4,k+3,k,k+1]:=λc u q=>⟨hne c (I.hok.lt q),λz=>by rw[hfp c z] at q;cases q⟩
  have I1:Zs X pins σ (Yq H T (.tup [xs[i],ys[i]'(by omega)])) {s with heap:=h2,gens:=s.gens,drawn:=s.drawn,toks:=tk}:=by
   refine I.step (ch:=[k+4,k+3,k,k+1]) (λc hb=>?_) (λc o _ _ hc q _=>k2 c o hc q) (λc o _ _ hc q _=>⟨o.slots,k2 c o hc q⟩) (λc o hc q n=>by rw[Zt (hne c (XD q))];exact n) (λc o hc q=>⟨o,k2 c o hc q⟩)
    (λc xs q=>by rw[Zt (tracked c _ q).1];exact q) (λc o u q=>by rw[Zt (tracked c _ q).1];exact q) (λc ps q=>⟨#[],by rw[Zt (tracked c _ q).1,q];simp⟩) (λm hm=>?_) (λc u q=>?_) I.bare
   ·obtain⟨f0,f1,f2,f3,f4,f5⟩:=hf c (sub c hb)
    exact⟨f3,f1,f4,f5⟩
   ·obtain⟨o,es,ep,ho,r⟩:=hm
    exact⟨o,es,ep,k2 _ o (λz=>(hf _ (sub _ z)).2.1 rfl) ho,r⟩
   ·by_cases hb:c=T
    ·subst hb
     rw[Z3] at q;cases q
     exact⟨XN (by decide:2<=1000) (Nat.le_of_lt (Gn (XE _))),[x,y],.cons r1 (.cons r2 .nil),htup2⟩
    ·rw[Zt hb] at q
     refine(I.hok c u q).stay (λd v hd r=>k2 d v ?_ r) (λd r=>by rw[Zt (tracked d _ r).1];exact r) λd xs r=>by rw[Zt (tracked d _ r).1];exact r
     rcases hd with rfl | hd
     ·exact(tracked d _ q).2
     ·exact(tracked d _ hd).2
  obtain⟨b1,b2,b3,⟨b4,_⟩,⟨b5,_⟩⟩:=st2
  refine⟨.ref T,_,I1,rfl,⟨_,_,T,λzs hz=>by rw[I.sqX_inj hz hq1];exact hu,λzs hz=>by rw[I.sqX_inj hz hq2];exact hv,rfl,hTn,rfl⟩,⟨b1,b2,b3,b4,b5⟩,λc hb=>?_⟩
  have hbT:c≠T:=by
   obtain⟨o,ho⟩:∃o,s.heap.get? c=some o:=by
    obtain⟨u,v,a3⟩:=a3
    simp only[ZM,ZN,or_false] at hb
    rcases hb with rfl | rfl | rfl | rfl | rfl
    ·exact⟨_,a1⟩
    ·exact⟨_,a2⟩
    ·exact⟨_,a3⟩
    ·exact a4.ob.imp λ_ h=>h.1
    ·exact a5.ob.imp λ_ h=>h.1
   exact hne c (XD ho)
  rw[Zt hbT];exact(hf c hb).1
 done:=by
  intro X hP hw hK hc i pins s σ H E I hf st hg
  subst hP hw hK
  obtain⟨xs,ys,hq1,hq2,hlen,hi⟩:=hg
  obtain⟨its1,rv1,p1⟩:=I.sqX hq1
  obtain⟨its2,rv2,p2⟩:=I.sqX hq2
  obtain⟨a1,a2,a3,a4,a5⟩:=st
  have hn1:its1.toArray.size=xs.length:=by rw[XJ,rv1.length]
  have hn2:its2.toArray.size=xs.length:=by rw[XJ,<-rv2.length,hlen]
  have D1:=Kg (prog:=X.prog) (w:=X.w) (A:=X.A.in1) z (I.ok.hd hc) k l1 (XH h1) its1.toArray
  have D2:=Kg (prog:=X.prog) (w:=X.w) (A:=X.A.in1) b (I.ok.hd hc) (k+1) l2 (XH (Nat.lt_succ_of_lt h2)) its2.toArray
  rw[hn1] at D1
  rw[hn2] at D2
  subst hi
  have W:=Dv D1 D2 (Lw h1 h2)
  have sub:∀c,c∈[k+4,k+3,k,k+1]->c∈[k+4,k+2,k+3,k,k+1]:=λc hc=>by
   simp only[ZM,ZN,or_false] at hc |-
   rcases hc with z | z | z | z<;>simp[z]
  refine W.done s _ _ ⟨a1,a2,a3,⟨a4,p1⟩,⟨a5,p2⟩⟩ λh' tk kk=>⟨rfl,?_⟩
  exact I.step (g':=s.gens) (d':=s.drawn) (ch:=[k+4,k+3,k,k+1]) (λc hb=>let ⟨f0,f1,f2,f3,f4,f5⟩:=hf c (sub c hb);⟨f3,f1,f4,f5⟩) (λc o _ _ hc q _=>kk c o hc q) (λc o _ _ hc q _=>⟨o.slots,kk c o hc q⟩) (λc o _ _ n=>n) (λc o hc q=>⟨o,kk c o hc q⟩)
    (λ_ _ q=>q) (λ_ _ _ q=>q) (λc ps q=>⟨#[],by rw[q];simp⟩) (λm hm=>let ⟨o,es,ep,ho,r⟩:=hm;⟨o,es,ep,kk _ o (λz=>(hf _ (sub _ z)).2.1 rfl) ho,r⟩)
    (λc u q=>(I.hok c u q).stay (λd v hd r=>kk d v (λz=>by
     rcases hd with rfl | hd
     ·rw[(hf _ (sub _ z)).1] at q;cases q
     ·rw[(hf _ (sub _ z)).1] at hd;cases hd) r) (λ_ r=>r) λ_ _ r=>r) I.bare
 self:=λA i s Q E st h=>wpAny_pyIter_zip st.1 h
section
variable {X:Cx}{elts:List Expr}{ek:Nat}{epos:Pos}
def iR (K:W.Frag)(ta:TA):TI:=λσ H R=>ta σ H λvs H1=>∃(z b:Bool) (l1 l2:Addr) (xs ys:List V),vs=[.ref l1,.ref l2]/\jX z K H1 l1 xs/\jX b K H1 l2 ys/\R (gy z b K l1 l2) H1
def qD {a c:Expr}{ta:TA}{p pos:Pos}(hg:Gl X "zip")(hm:X.mg "zip"=none)(ha:PA X [a,c] ta)(hs:starEach [a,c] X.env=(false,eval a X.env)::starEach [c] X.env:=by rfl)(hp:(backTo pos (starEach [c] X.env)).any (·.1)=false:=by rfl)(hb:bootBuiltins "zip"=some (.type "zip"):=by decide+kernel):
  PI X (.Tuple elts ek epos) (.Call (.Name "zip" p) [a,c] [] pos) (iR X.K ta):=by
 intro pins s σ H R I h
 refine Call_ (Vi I hg hm hb (PyProof.Rows.callWith_type1 (Jp (ha pos pins s σ H _ I h) λus s1 ⟨vs,H1,I1,r1,q1⟩=>?_) hs hp))
 obtain⟨z,b,l1,l2,xs,ys,rfl,hq1,hq2,q⟩:=q1
 obtain⟨u,v,rfl,ru,rv⟩:=r1.two
 cases ru
 cases rv
 obtain⟨its1,rv1,p1⟩:=I1.sqX hq1
 obtain⟨its2,rv2,p2⟩:=I1.sqX hq2
 have fin:∀h2,oU s1.heap h2 (cX z) l1 (cX b) l2->wpAny (model X.prog X.w) X.A (pyIter (.ref (s1.heap.objs.size+4))) (kI X pins σ (.Tuple elts ek epos) R) X.xe {s1 with heap:=h2}:=λh2 N=>by
  refine wpAny_pyIter_zip (s:={s1 with heap:=h2}) N.zip ?_
  refine⟨_,_,_,_,H1,rfl,I1.kept (t':=s1.toks) N.keep,xL z b p1.lt p2.lt,⟨N.zip,N.its,⟨_,_,N.own⟩,?_,?_⟩,λc hc=>?_,q⟩
  ·cases z
   ·exact⟨_,N.i1,rfl,rfl⟩
   ·exact⟨_,N.i1,rfl,rfl⟩
  ·cases b
   ·exact⟨_,N.i2,rfl,rfl⟩
   ·exact⟨_,N.i2,rfl,rfl⟩
  ·have e:s1.heap.objs.size<=c:=by
    simp only[ZM,ZN,or_false] at hc
    rcases hc with rfl | rfl | rfl | rfl | rfl
    ·exact Nat.le_add_right _ _
    ·exact Nat.le_add_right _ _
    ·exact Nat.le_add_right _ _
    ·exact XE _
    ·exact Nat.le_add_right _ _
   exact I1.fpOk e (I1.hok.fresh e)
 exact O0 z b p1 p2 fin
end
section
variable {X:Cx}
def zg (bs:List Bool):((List.range bs.length).any λi=>(bs[i]?).getD false)=bs.any id:=by
 rw[Bool.eq_iff_iff,List.any_eq_true,List.any_eq_true]
 constructor
 ·rintro⟨i,hi,h⟩
  have hi':=List.mem_range.mp hi
  exact⟨bs[i],List.getElem_mem hi',by simpa[hi'] using h⟩
 ·rintro⟨x,hx,h⟩
  obtain⟨i,hi,rfl⟩:=List.mem_iff_getElem.mp hx
  exact⟨i,List.mem_range.mpr hi,by simpa[hi] using h⟩
def jS (hc:X.calm=true):Vc X (.builtin "any") (λxs H Q=>∃(p:Addr) (bs:List Bool),xs=[.ref p]/\Xv X.K H p (bs.map V.bl)/\Q (.bl (bs.any id)) H):=by
 intro pins s σ H xs us Q I r h
 obtain⟨p,bs,rfl,hq,q⟩:=h
 obtain⟨u,rfl,ru⟩:=Qd r
 cases ru
 obtain⟨its,rv,pl,hz⟩:=I.list hq
 have hl:=pl.isList
 have hlt:p<s.heap.objs.size:=by obtain⟨_,e,_⟩:=hl;exact XD e
 have hlen:its.length=bs.length:=by have:=rv.length;simp at this;omega
 refine call_any_walk (wpAny_pyIter_list hl ?_)
 refine⟨s.heap.objs.size,[s.heap.objs.size,p],[s.heap.objs.size],its.toArray.size,_,_,λi=>(bs[i]?).getD false,rfl,Walks.list (A:=X.A.in1) (I.ok.hd hc) _ p (XH hlt) its.toArray,
  ⟨⟨_,XF _ rfl,rfl,rfl⟩,hl.push _⟩,λi v s' Q' E' hP hQ=>?_,λh' tk hk=>?_⟩
 ·have hv:its[i]?=some v:=by simpa using hP
  have hi:i<its.length:=(List.getElem?_eq_some_iff.mp hv).1
  have hb:(bs.map V.bl)[i]?=some (.bl bs[i]):=by simp[show i<bs.length by omega]
  obtain⟨u,hu,ru⟩:=rv.get hb
  rw[hv] at hu;cases hu
  cases ru
  have e:(bs[i]?).getD false=bs[i]:=by simp[show i<bs.length by omega]
  have hQ2:Q' ((bs[i]?).getD false) s':=hQ
  rw[e] at hQ2
  exact wpAny_truthy_bool hQ2
 ·have e:((List.range its.toArray.size).any λi=>(bs[i]?).getD false)=bs.any id:=by
   rw[XJ,hlen];exact zg bs
  rw[e]
  refine⟨.bl (bs.any id),H,I.kept λb o x=>hk b o (λhm=>?_) (XC _ x),rfl,q⟩
  have:=XQ.mp hm
  subst this
  exact Nat.lt_irrefl _ (XD x)
end
section
variable {prog:Program}{w:World}{K:Type}[DecidableEq K]{knd:KeyKind prog w K}
end
end L2
namespace WL
open PySem PySem.Spec PyProof.Rows L2
section
variable {X:Cx}{e o a b f:Expr}{we wo wa wb wi wd:WE}{wA:WA}{p p2 pos pos2 apos cpos:Pos}
def oC:bootBuiltins "any"=some (.builtin "any"):=by decide+kernel
def Ki:bootBuiltins "dict"=some (.type "dict"):=by decide+kernel
def gi:List T->Hw->WK->Prop:=λvs C Q=>∃(a:Addr) (bs:List Bool),vs=[.ref a]/\C a=some (.lst (bs.map T.bl))/\Q (.bl (bs.any id)) C
def kf (hc:X.calm=true):Od X (.builtin "any") gi:=⟨_,jS hc,λF H C xs vs Q Q' R rs h q=>by
 obtain⟨a,bs,rfl,hx,h⟩:=h
 obtain⟨x,rfl,rx⟩:=Wi rs
 cases Z6 rx
 obtain⟨ys,hy,r⟩:=R.lst hx
 cases Ba r
 exact⟨a,bs,rfl,Xv.of hy,q _ _ H C R (Tx.refl H) Jw h⟩⟩
def lV (kvs:List (Zz×T))(k:Zz):List (Zz×T):=kvs.filter λkv=>decide (kv.1≠k)
def hW (o i d:WE):WE:=λτ C Q χ=>o τ C (λx C1=>(∃a kvs,x=.ref a/\C1 a=some (.dic kvs))/\i τ C1 (λy C2=>d τ C2 (λz C3=>∃a kvs k,x=.ref a/\kT y=some k/\C3 a=some (.dic kvs)/\
 (∀v,Yl kvs k=some v->Q v (up C3 a (.dic (lV kvs k))))/\(Yl kvs k=none->Q z C3)) χ) χ) χ
def rm {K:W.Frag}{H:Hp}:∀{ks:List (Zz×V)} {kvs:List (Zz×T)} {i:Nat} {p:Zz×V},PR K H ks kvs->ks[i]?=some p->∃q,kvs[i]?=some q/\p.1=q.1/\Jh K H p.2 q.2
 | _,_,_,_,.nil,h=>by simp at h
 | _,_,0,_,.cons a _,h=>by simp at h;subst h;exact⟨_,rfl,a.1,a.2⟩
 | _,_,i+1,p,.cons _ t,h=>by
  obtain⟨q,h1,h2⟩:=rm (i:=i) (p:=p) t (by simpa using h)
  exact⟨q,by simpa using h1,h2⟩
def Ml (xs ys:List T):List T:=List.zipWith (λx y=>T.tup [x,y]) xs ys
def fW (a:WA):WI:=λτ C R χ=>a τ C (λvs C1=>(∃xs ys,vs=[.tup xs,.tup ys]/\xs.length=ys.length/\R (Ml xs ys) (λ_=>True) C1)\/
 (∃xs ys l,vs=[.tup xs,.ref l]/\C1 l=some (.lst ys)/\xs.length=ys.length/\R (Ml xs ys) (λC2=>C2 l=some (.lst ys)) C1)\/
 ∃xs ys k l,vs=[.ref k,.ref l]/\C1 k=some (.lst xs)/\C1 l=some (.lst ys)/\xs.length=ys.length/\R (Ml xs ys) (λC2=>C2 k=some (.lst xs)/\C2 l=some (.lst ys)) C1) χ
def yg {xs ys:List T}{i:Nat}{x y:T}(hx:xs[i]?=some x)(hy:ys[i]?=some y):(Ml xs ys)[i]?=some (.tup [x,y]):=by
 unfold Ml;rw[List.getElem?_zipWith,hx,hy]
def z9 {K:W.Frag}{F H0:Hp}(z b:Bool){l1 l2:Addr}{xs ys:List T}{ok:Hw->Prop}(hl:xs.length=ys.length)(h1:∀H C,Rl K F H C->Tx H0 H->ok C->∃ys1,jX z K H l1 ys1/\Reps K H ys1 xs)
  (h2:∀H C,Rl K F H C->Tx H0 H->ok C->∃ys2,jX b K H l2 ys2/\Reps K H ys2 ys):Mi K F H0 (gy z b K l1 l2) (Ml xs ys) ok:=λi H C R t hok=>by
 obtain⟨ys1,q1,r1'⟩:=h1 H C R t hok
 obtain⟨ys2,q2,r2⟩:=h2 H C R t hok
 have hlz:(Ml xs ys).length=xs.length:=by unfold Ml;simp;omega
 have e1:=r1'.length
 have e2:=r2.length
 refine⟨λhi=>?_,λhi=>⟨ys1,ys2,q1,q2,by omega,by omega⟩⟩
 rw[hlz] at hi
 refine⟨⟨ys1,ys2,q1,q2,by omega,by omega⟩,λx H' h=>?_⟩
 obtain⟨u,v,Tt,hu,hv,rfl,hT,rfl⟩:=h
 obtain⟨x,hx,rx⟩:=r1'.get' (hu ys1 q1)
 obtain⟨y,hy,ry⟩:=r2.get' (hv ys2 q2)
 exact⟨_,yg hx hy,R.hid hT,Tx.new hT,Jv (Uu.of Z3) (Yh (rx.tx (Tx.new hT)) (Yh (ry.tx (Tx.new hT)) Yv))⟩
def zN {elts:List Expr}{ek:Nat}{epos:Pos}(hg:Gl X "zip")(hm:X.mg "zip"=none)(ha:zX X [a,b] wA)(hs:starEach [a,b] X.env=(false,eval a X.env)::starEach [b] X.env:=by rfl)(hp:(backTo pos (starEach [b] X.env)).any (·.1)=false:=by rfl):
  ng X (.Tuple elts ek epos) (.Call (.Name "zip" p) [a,b] [] pos) (fW wA):=by
 obtain⟨t,p1,s⟩:=ha
 refine⟨_,qD hg hm p1 hs hp,λF H C σ τ R R' χ Rr S h q=>?_⟩
 refine s F H C σ τ _ _ χ Rr S h λxs vs H1 C1 R1 t1 rs h1=>?_
 rcases h1 with⟨ts,us,rfl,hl,h1⟩ | ⟨ts,us,l,rfl,hC,hl,h1⟩ | ⟨ts,us,k,l,rfl,hB,hC,hl,h1⟩<;>obtain⟨x,y,rfl,rx,ry⟩:=wM rs
 ·obtain⟨l1,y1,rfl,q1,r1⟩:=Yp rx
  obtain⟨l2,y2,rfl,q2,r2⟩:=Yp ry
  exact⟨false,false,l1,l2,y1,y2,rfl,q1,q2,q _ H1 _ _ C1 R1 t1 (λF'=>z9 _ _ hl (λH C _ t _=>⟨y1,t.sqt q1,r1.tx t⟩) λH C _ t _=>⟨y2,t.sqt q2,r2.tx t⟩) h1⟩
 ·obtain⟨l1,y1,rfl,q1,r1⟩:=Yp rx
  cases Z6 ry
  obtain⟨y2,hy,r2⟩:=R1.lst hC
  refine⟨false,true,l1,l,y1,y2,rfl,q1,Xv.of hy,q _ H1 _ _ C1 R1 t1 (λF'=>z9 _ _ hl (λH C _ t _=>⟨y1,t.sqt q1,r1.tx t⟩) λH C R' t hok=>?_) h1⟩
  obtain⟨y3,hy3,r3⟩:=R'.lst hok
  exact⟨y3,Xv.of hy3,r3⟩
 ·cases Z6 rx
  cases Z6 ry
  obtain⟨y1,hx,r1⟩:=R1.lst hB
  obtain⟨y2,hy,r2⟩:=R1.lst hC
  refine⟨true,true,k,l,y1,y2,rfl,Xv.of hx,Xv.of hy,q _ H1 _ _ C1 R1 t1 (λF'=>z9 _ _ hl (λH C R' t hok=>?_) λH C R' t hok=>?_) h1⟩
  ·obtain⟨y3,hy3,r3⟩:=R'.lst hok.1
   exact⟨y3,Xv.of hy3,r3⟩
  ·obtain⟨y3,hy3,r3⟩:=R'.lst hok.2
   exact⟨y3,Xv.of hy3,r3⟩
end
end WL
namespace L2
open PySem PySem.Spec PyProof.Rows
section
variable {X:Cx}{pins:List (Addr×Obj)}{σ:St}{H:Hp}{s:Shared}
def Zs.freeze {d:Addr}{o:Obj}{ks:List (Zz×V)}(I:Zs X pins σ H s)(hd:H d=some (.dK ks))(ho:s.heap.get? d=some o):Zs X pins σ (Yq H d (.frz o (.dK ks))) s:=by
 have ne:∀{b:Addr} {u:HO},H b=some u->u≠.dK ks->b≠d:=λq n e=>by subst e;rw[hd] at q;exact n (YH q).symm
 have nn:∀{b:Addr},H b=none->b≠d:=λq e=>by subst e;rw[hd] at q;cases q
 refine I.step (h':=s.heap) (g':=s.gens) (d':=s.drawn) (t':=s.toks) (ch:=[]) (λ_ z=>nomatch z) (λb o _ _ _ e _=>e) (λb o _ _ _ e _=>⟨o.slots,e⟩) (λb o _ _ n=>by rw[Zt (nn n)];exact n) (λb o _ e=>⟨o,e⟩)
  (λb xs q=>by rw[Zt (ne q (λz=>nomatch z))];exact q) (λb o u q=>by rw[Zt (ne q (λz=>nomatch z))];exact q) (λb ps q=>⟨#[],by rw[Zt (ne q (λz=>nomatch z)),q];simp⟩) (λm hm=>hm) (λb u q=>?_) I.bare
 have ow:∀{a c:Addr},H c=some (.own a)->Yq H d (.frz o (.dK ks)) c=some (.own a):=λq=>by rw[Zt (ne q (λz=>nomatch z))];exact q
 have tu:∀{c:Addr} {xs:List V},H c=some (.tup xs)->Yq H d (.frz o (.dK ks)) c=some (.tup xs):=λq=>by rw[Zt (ne q (λz=>nomatch z))];exact q
 by_cases hb:b=d
 ·subst hb
  rw[Z3] at q;cases q
  exact⟨ho,(I.hok b _ hd).stay (λc v _ r=>r) (λc r=>ow r) λc xs r=>tu r⟩
 ·rw[Zt hb] at q
  exact(I.hok b u q).stay (λc v _ r=>r) (λc r=>ow r) λc xs r=>tu r
end
def lL {P:Program}{w:World}{k:Zz}{u:Value}(h:(Yc P w).is k u=true):Z8 (kV k) u:=by
 rcases Y1 (show Lf k u=true from h) with⟨i,t,rfl,rfl⟩ | ⟨x,t,rfl,rfl⟩
 ·exact⟨t,rfl⟩
 ·exact⟨t,rfl⟩
def eS (o:Obj)(d:Addr)(ks:List (Zz×V)):It:=
 ⟨λi H=>H d=some (.frz o (.dK ks))/\i<ks.length,λi H x H'=>H'=H/\∃kv,ks[i]?=some kv/\x=kV kv.1,λi H=>H d=some (.frz o (.dK ks))/\i=ks.length⟩
section
variable {X:Cx}{tg e:Expr}
def ef (td:TE):TI:=λσ H R=>td σ H λx H1=>∃d ks,x=.ref d/\Rd H1 d (.dK ks)/\∀o,(∀o',H1 d=some (.frz o' (.dK ks))->o'=o)->R (eS o d ks) (Yq H1 d (.frz o (.dK ks)))
end
end L2
namespace WL
open PySem PySem.Spec PyProof.Rows L2
def uq (C:Hw)(a:Addr)(kvs:List (Zz×T)):Prop:=C a=some (.dic kvs)\/C a=some (.fdic kvs)
def Rl.rd {K:W.Frag}{F H:Hp}{C:Hw}(R:Rl K F H C){a:Addr}{kvs:List (Zz×T)}(h:uq C a kvs):∃ks,Rd H a (.dK ks)/\PR K H ks kvs:=by
 rcases h with h | h
 ·obtain⟨ks,hH,pr⟩:=R.dic h;exact⟨ks,.inl hH,pr⟩
 ·exact R.obj a _ h
def qq {K:W.Frag}{H:Hp}(k:Zz):Jh K H (kV k) (tK k):=by
 cases k with
 | inl i=>exact Y7
 | inr x=>exact Sa
section
variable {X:Cx}{e o a b c f i:Expr}{we wo wa wb wi wd:WE}{wA:WA}{p p2 pos pos2 apos cpos:Pos}{tg:Expr}
def Dw:W2:=λx y C Q=>∃a kvs k v,x=.ref a/\kT y=some k/\uq C a kvs/\Yl kvs k=some v/\Q v C
def xH (neg:Bool):W2:=λy x C Q=>∃a kvs k,x=.ref a/\kT y=some k/\uq C a kvs/\Q (.bl (if neg then !(Yl kvs k).isSome else(Yl kvs k).isSome)) C
abbrev kR:W2:=xH false
abbrev uw:W2:=xH true
def Wm (hu:X.A.units+150<cLine)(ha:Ji X a wa)(hb:Ji X b wb)(hs:nk b):Ji X (.Subscript a b pos) (Jf Dw wa wb):=by
 obtain⟨ta,p1,s1⟩:=ha
 obtain⟨tb,p2,s2⟩:=hb
 refine⟨_,uY (by omega) p1 p2 hs,λF H C σ τ Q Q' χ R S h q=>?_⟩
 refine s1 F H C σ τ _ _ χ R S h λx v H1 C1 R1 t1 rx h1=>?_
 refine s2 F H1 C1 σ τ _ _ χ R1 (S.tx t1) h1 λy u H2 C2 R2 t2 ry h2=>?_
 obtain⟨l,kvs,k,w,rfl,hk,hC,hg,h2⟩:=h2
 cases Z6 rx
 obtain⟨ks,hH,pr⟩:=R2.rd hC
 obtain⟨z,hz,rz⟩:=(PR.get pr k).2 w hg
 cases Nq hk ry
 exact⟨l,z,rfl,.inl ⟨ks,k,hH,rfl,hz.symm⟩,q _ _ H2 C2 R2 (t1.trans t2) rz h2⟩
def wO (neg:Bool)(hu:X.A.units+150<cLine):Ge X (compareOp (if neg then .NotIn else .In)) (xH neg):=⟨_,zq,λF H C y x u v Q Q' R ry rx h q pins s σ u' v' I r1 r2=>by
 obtain⟨l,kvs,k,rfl,hk,hC,h⟩:=h
 cases Z6 rx
 cases r2
 obtain⟨ks,hH,pr⟩:=R.rd hC
 cases Nq hk ry
 have e:(V1 ks k).isSome=(Yl kvs k).isSome:=by
  cases hg:Yl kvs k with
  | none=>rw[(PR.get pr k).1 hg];rfl
  | some w=>obtain⟨z,hz,_⟩:=(PR.get pr k).2 w hg;rw[hz];rfl
 have fin:=q _ _ H C R (Tx.refl H) Jw h
 rw[<-e] at fin
 have g:Av H l (kV k) (V1 ks k):=.inl ⟨ks,k,hH,rfl,rfl⟩
 cases neg with
 | true=>exact tX (by omega) I g r1 λs' I'=>⟨.bl _,H,I',rfl,fin⟩
 | false=>exact gd (by omega) I g r1 λs' I'=>⟨.bl _,H,I',rfl,fin⟩⟩
def wP (hu:X.A.units+150<cLine):Ge X (compareOp .In) kR:=wO false hu
def wN (hu:X.A.units+150<cLine):Ge X (compareOp .NotIn) uw:=wO true hu
def zS:Vc X (.type "dict") (λxs H Q=>∃(p:Addr) (kvs:List (Zz×V)),xs=[.ref p]/\Rd H p (.dK kvs)/\∀r,H r=none->Q (.ref r) (Yq H r (.dK kvs))):=by
 intro pins s σ H xs us Q I r h
 obtain⟨p,kvs,rfl,hp,q⟩:=h
 obtain⟨u,rfl,ru⟩:=Qd r
 cases ru
 exact vI I hp λr s2 hr I2=>⟨.ref r,_,I2,rfl,q r hr⟩
def oM:List T->Hw->WK->Prop:=λvs C Q=>∃(a:Addr) (kvs:List (Zz×T)),vs=[.ref a]/\uq C a kvs/\∀p,C p=none->Q (.ref p) (up C p (.dic kvs))
def Kj:Od X (.type "dict") oM:=⟨_,zS,λF H C xs vs Q Q' R rs h q=>by
 obtain⟨a,kvs,rfl,hC,h⟩:=h
 obtain⟨x,rfl,rx⟩:=Wi rs
 cases Z6 rx
 obtain⟨ks,hH,pr⟩:=R.rd hC
 exact⟨a,ks,rfl,hH,λr hr=>q _ _ _ _ (R.newD hr pr) (Tx.new hr) Jb (h r (R.free hr))⟩⟩
def Rl.frz {K:W.Frag}{F H:Hp}{C:Hw}(R:Rl K F H C){d:Addr}{o:Obj}{ks:List (Zz×V)}{kvs:List (Zz×T)}(hC:uq C d kvs)(hH:Rd H d (.dK ks))(ho:∀o',H d=some (.frz o' (.dK ks))->o'=o)(pr:PR K H ks kvs):
  Rl K F (Yq H d (.frz o (.dK ks))) (up C d (.fdic kvs))/\Tx H (Yq H d (.frz o (.dK ks))):=by
 have t:Tx H (Yq H d (.frz o (.dK ks))):=λb u q st=>by
  by_cases e:b=d
  ·subst e
   rcases hH with h | ⟨o',h⟩
   ·rw[h] at q;cases q;exact st.elim
   ·rw[h] at q
    cases q
    rw[Z3,ho o' h]
  ·rw[Zt e];exact q
 refine⟨⟨λa v e=>?_,λa v e=>?_⟩,t⟩
 ·by_cases q:a=d
  ·subst q
   rw[Ze] at e;cases e
   exact⟨ks,.inr ⟨o,Z3⟩,Nt t pr⟩
  ·rw[Zg q] at e
   exact(R.obj a v e).stay t (Zt q)
 ·have z:=R.frm a v e
  have q:a≠d:=λy=>by
   subst y
   rcases hC with h | h<;>(rw[h] at z;cases z.2)
  rw[Zt q,Zg q];exact z
end
section
variable {X:Cx}{e o:Expr}{we wo wi:WE}{apos cpos:Pos}
end
def Ul (f:Str)(v:T):List (Str×T)->List (Str×T)
 | []=>[(f,v)]
 | (g,x)::r=>if g=f then(g,v)::r else(g,x)::Ul f v r
section
variable {K:W.Frag}{H:Hp}
def yv {f:Str}{y:V}{v:T}(q:Jh K H y v):∀{ks:List (Str×V)} {fs:List (Str×T)},PR K H ks fs->PR K H (U3 f y ks) (Ul f v fs)
 | [],[],_=>.cons ⟨rfl,q⟩ .nil
 | (k,x)::ks,(g,z)::fs,.cons h r=>by
  obtain⟨e,q'⟩:=h
  cases e
  show PR K H (if k=f then(k,y)::ks else(k,x)::U3 f y ks) (if k=f then(k,v)::fs else(k,z)::Ul f v fs)
  by_cases c:k=f
  ·rw[XY c,XY c];exact .cons ⟨rfl,q⟩ r
  ·rw[XX c,XX c];exact .cons ⟨rfl,q'⟩ (yv q r)
def Ly {f:Str}:∀{ks:List (Str×V)} {fs:List (Str×T)},PR K H ks fs->(∀v,fs.lookup f=some v->∃y,ks.lookup f=some y/\Jh K H y v)/\(fs.lookup f=none->ks.lookup f=none)
 | [],[],_=>⟨λv h=>by simp at h,λ_=>rfl⟩
 | (k,x)::ks,(g,z)::fs,.cons h r=>by
  obtain⟨e,q'⟩:=h
  cases e
  by_cases c:f=k
  ·have hb:(f==k)=true:=beq_iff_eq.mpr c
   simp only[List.lookup,hb]
   exact⟨λv h=>by cases h;exact⟨x,rfl,q'⟩,λh=>by cases h⟩
  ·have hb:(f==k)=false:=beq_eq_false_iff_ne.mpr c
   simp only[List.lookup,hb]
   exact Ly r
def wB:∀{κ:Type} {ks:List (κ×V)} {fs:List (κ×T)},PR K H ks fs->ks.length=fs.length
 | _,[],[],_=>rfl
 | _,_::_,_::_,.cons _ r=>by rw[YF,YF,wB r]
end
abbrev Hr (K:W.Frag)(cn:Str)(Cl:Addr):Prop:=W.nsIn K mainGlobals cn=some (some (.ref Cl))
structure KF (K:W.Frag)(f cn:Str):Prop where
 ex:∃Cl,Hr K cn Cl/\yd K Cl/\Sm K Cl f
def KF.at {K:W.Frag}{f cn:Str}(h:KF K f cn){Cl:Addr}(c:Hr K cn Cl):yd K Cl/\Sm K Cl f:=by
 obtain⟨C2,h1,h2⟩:=h.ex
 have e:some (some (Value.ref C2))=some (some (Value.ref Cl)):=h1.symm.trans c
 cases e
 exact h2
def hJ (cs:List Str)(f:Str)(o:WE):WE:=λτ C Q χ=>o τ C (λx C1=>∃a cn fs v,x=.ref a/\C1 a=some (.ins cn fs)/\cn∈cs/\fs.lookup f=some v/\Q v C1) χ
def eh (cs:List Str)(f:Str)(o:WE):WG:=λv τ C Q χ=>o τ C (λx C1=>∃a cn fs,x=.ref a/\C1 a=some (.ins cn fs)/\cn∈cs/\fs.length<1000/\Q τ (up C1 a (.ins cn (Ul f v fs)))) χ
def Rl.ins {K:W.Frag}{F H:Hp}{C:Hw}(R:Rl K F H C){a:Addr}{cn:Str}{fs:List (Str×T)}(h:C a=some (.ins cn fs)):∃Cl dx ks,Hr K cn Cl/\H a=some (.ins Cl dx ks)/\PR K H ks fs:=R.obj a _ h
section
variable {X:Cx}{e o value:Expr}{we wo wv:WE}{f:Str}{cs:List Str}{pos pos' apos cpos:Pos}
def To (hk:∀cn∈cs,KF X.K f cn)(he:Ji X e we)(hb:attributeBase e f X.env (eval e X.env)=eval e X.env:=by rfl):Ji X (.Attribute e f pos) (hJ cs f we):=by
 obtain⟨ta,p1,s1⟩:=he
 refine⟨_,qN p1 hb,λF H C σ τ Q Q' χ R S h q=>?_⟩
 refine s1 F H C σ τ _ _ χ R S h λx v H1 C1 R1 t1 rx h1=>?_
 obtain⟨a,cn,fs,v',rfl,hC,hcn,hl,h1⟩:=h1
 cases Z6 rx
 obtain⟨Cl,dx,ks,hc,hH,pr⟩:=R1.ins hC
 obtain⟨y,hy,ry⟩:=(Ly pr).1 v' hl
 obtain⟨c1,c2⟩:=(hk cn hcn).at hc
 exact⟨a,Cl,dx,ks,y,rfl,hH,c1,c2,hy,q _ _ H1 C1 R1 t1 ry h1⟩
def vC (hk:∀cn∈cs,KF X.K f cn)(ho:Ji X o wo)(hv:Ji X value wv)(hs:swapsWith value (some (.Attribute o f pos')) pos.line X.env=pure false:=by rfl):xa X (.Assign [.Attribute o f pos'] value pos) (Mx wv (eh cs f wo)):=by
 obtain⟨ta,p1,s1⟩:=ho
 obtain⟨tv,p2,s2⟩:=hv
 refine⟨_,qB p1 p2 hs,λF H C σ τ D D' R S h d=>?_⟩
 refine s2 F H C σ τ _ _ D'.xc R S h λy v H1 C1 R1 t1 ry h1=>?_
 refine s1 F H1 C1 σ τ _ _ D'.xc R1 (S.tx t1) h1 λx u H2 C2 R2 t2 rx h2=>?_
 obtain⟨a,cn,fs,rfl,hC,hcn,hl,h2⟩:=h2
 cases Z6 rx
 obtain⟨Cl,dx,ks,hc,hH,pr⟩:=R2.ins hC
 obtain⟨c1,c2⟩:=(hk cn hcn).at hc
 have tp:Tx H2 (Yq H2 a (.ins Cl dx (U3 f y ks))):=Tx.put hH (λz=>z)
 obtain⟨R3,t3⟩:=R2.put (u:=.ins Cl dx (U3 f y ks)) (o':=.ins cn (Ul f v fs)) hC ⟨Cl,dx,_,hc,Z3,Nt tp (yv (ry.tx t2) pr)⟩
 exact⟨a,Cl,dx,ks,rfl,hH,c1,c2,by rw[wB pr];exact hl,d.nx _ _ _ _ R3 ((t1.trans t2).trans t3) (S.tx ((t1.trans t2).trans t3)) h2⟩
end
def xR (MT:Addr->L2.Sp->Prop)(m:Str)(E:XK)(ta:TE)(t:TA):TE:=λσ H Q=>ta σ H λx H1=>∃a C dx fs sp,x=.ref a/\H1 a=some (.ins C dx fs)/\MT C sp/\fs.lookup m=none/\t σ H1 λvs H2=>sp (x::vs) H2 Q E
section
variable {X:Cx}{k:Nat}{E:XK}{m:Str}{p pos apos:Pos}{e o:Expr}{es:List Expr}{ta:TE}{t:TA}{MT:Addr->L2.Sp->Prop}
def gv (X:Cx)(k:Nat)(m:Str)(MT:Addr->L2.Sp->Prop):Prop:=∀C sp,MT C sp->∃f fd ps,yd X.K C/\xg X.K C m f/\Ud X.prog X.w X.K X.mg X.base CX0 k f fd ps sp/\X6 X.K fd ps []
def wG {pl:Sem Bool}(he:PE X o ta)(hM:gv X k m MT)(hr:X5 k X.A)(ha:PA X (e::es) t)
  (hst:starEach (e::es) X.env=(false,eval e X.env)::starEach es X.env:=by rfl) (hpl:(backTo pos (starEach es X.env)).any (·.1)=false:=by rfl)
  (ht:eval (.Call (.Attribute o m apos) (e::es) [] pos) X.env=(do
   let ov <-eval o X.env
   standAt apos.atName
   let (f,first) <-holding [ov] (getMethod ov m pl)
   callWith pos f first (backTo pos (starEach (e::es) X.env)) (backToKw pos (keywordEach [] X.env))):=by rfl):
  PE X (.Call (.Attribute o m apos) (e::es) [] pos) (xR MT m E0 ta t):=by
 intro pins s σ H Q I h
 refine W.methodCall_KW (pl:=pl) (Jp (he pins s σ H _ I h) λu s1 ⟨x,H1,I1,rx,a,C,dx,fs,sp,ex,ea,hmt,l,q⟩=>?_) ht
 subst ex
 obtain rfl:u=Value.ref a:=rx
 obtain⟨f,fd,ps,c,hm,F,hb⟩:=hM C sp hmt
 refine Iz I1 ea c hm l ?_
 refine W.callWith_K (first:=[.ref a]) (h₀:=X.base) I.ok.mod.kin hm.kp (Jp (ha pos pins s1 σ H1 _ I1 q) λus s2 ⟨vs,H2,I2,r,q2⟩=>⟨I2.kIn,?_⟩) hst hpl
 exact zf (us:=.ref a::us) (vs:=.ref a::vs) (dvs:=[]) F hr hb .nil yw I2 (.cons rfl r) (by rw[YK];exact q2)
def jz {pl:Sem Bool}(he:PE X o ta)(hM:gv X k m MT)(hr:X5 k X.A)
  (ht:eval (.Call (.Attribute o m apos) [] [] pos) X.env=(do
   let ov <-eval o X.env
   standAt apos.atName
   let (f,first) <-holding [ov] (getMethod ov m pl)
   callWith pos f first (backTo pos (starEach [] X.env)) (backToKw pos (keywordEach [] X.env))):=by rfl):
  PE X (.Call (.Attribute o m apos) [] [] pos) (xR MT m E0 ta xQ):=by
 intro pins s σ H Q I h
 refine W.methodCall_KW (pl:=pl) (Jp (he pins s σ H _ I h) λu s1 ⟨x,H1,I1,rx,a,C,dx,fs,sp,ex,ea,hmt,l,q⟩=>?_) ht
 subst ex
 obtain rfl:u=Value.ref a:=rx
 obtain⟨f,fd,ps,c,hm,F,hb⟩:=hM C sp hmt
 refine Iz I1 ea c hm l ?_
 exact W.callWith_K0 (first:=[.ref a]) I1.kIn hm.kp (zf (us:=[.ref a]) (vs:=[.ref a]) (dvs:=[]) F hr hb .nil yw I1 (.cons rfl .nil) q)
end
def Cm (P:Program)(w:World)(K:W.Frag)(mg:Str->Option Value)(base:Heap)(n:Nat)(cn m:Str)(ps:List Str)(sp:L2.Sp):Prop:=
 ∃Cl f fd,Hr K cn Cl/\yd K Cl/\xg K Cl m f/\Ud P w K mg base CX0 n f fd ps sp/\X6 K fd ps []
def n9 (P:Program)(w:World)(K:W.Frag)(mg:Str->Option Value)(base:Heap)(n:Nat)(pr:List Df)(m:Str)(tb:List (Str×Nat)):Prop:=∀cn i,tb.lookup cn=some i->∃ps,Cm P w K mg base n cn m ps (spW K pr n i)
section
variable {P:Program}{w:World}{K:W.Frag}{mg:Str->Option Value}{base:Heap}{n:Nat}{pr:List Df}{m:Str}{tb:List (Str×Nat)}
def Yb:n9 P w K mg base n pr m []:=λcn i h=>by simp at h
def Z4 {cn:Str}{i:Nat}{ps:List Str}(h:Cm P w K mg base n cn m ps (spW K pr n i))(r:n9 P w K mg base n pr m tb):n9 P w K mg base n pr m ((cn,i)::tb):=λc j e=>by
 by_cases q:c=cn
 ·have hb:(c==cn)=true:=beq_iff_eq.mpr q
  simp only[List.lookup,hb] at e
  cases e;subst q;exact⟨ps,h⟩
 ·have hb:(c==cn)=false:=beq_eq_false_iff_ne.mpr q
  simp only[List.lookup,hb] at e
  exact r c j e
end
def N9 (P:Calls)(tb:List (Str×Nat))(m:Str)(o:WE)(a:WA):WE:=λτ C Q χ=>o τ C (λx C1=>∃ad cn fs i,x=.ref ad/\C1 ad=some (.ins cn fs)/\tb.lookup cn=some i/\fs.lookup m=none/\a τ C1 (λvs C2=>P i (x::vs) C2 Q χ) χ) χ
section
variable {X:Cx}{k:Nat}{m:Str}{p pos apos:Pos}{e o:Expr}{es:List Expr}{wo:WE}{wA:WA}{tb:List (Str×Nat)}{pr:List Df}
def wT (T:n9 X.prog X.w X.K X.mg X.base k pr m tb):gv X k m (λC sp=>∃cn i,Hr X.K cn C/\tb.lookup cn=some i/\sp=spW X.K pr k i):=λC sp h=>by
 obtain⟨cn,i,hc,hl,rfl⟩:=h
 obtain⟨ps,Cl,f,fd,h1,h2,h3,h4,h5⟩:=T cn i hl
 have ee:some (some (Value.ref Cl))=some (some (Value.ref C)):=h1.symm.trans hc
 cases ee
 exact⟨f,fd,ps,h2,h3,h4,h5⟩
def Yy {pl:Sem Bool}(T:n9 X.prog X.w X.K X.mg X.base k pr m tb)(hr:X5 k X.A)(ho:Ji X o wo)(ha:zX X (e::es) wA)
  (hst:starEach (e::es) X.env=(false,eval e X.env)::starEach es X.env:=by rfl) (hpl:(backTo pos (starEach es X.env)).any (·.1)=false:=by rfl)
  (ht:eval (.Call (.Attribute o m apos) (e::es) [] pos) X.env=(do
   let ov <-eval o X.env
   standAt apos.atName
   let (f,first) <-holding [ov] (getMethod ov m pl)
   callWith pos f first (backTo pos (starEach (e::es) X.env)) (backToKw pos (keywordEach [] X.env))):=by rfl):
  Ji X (.Call (.Attribute o m apos) (e::es) [] pos) (N9 (Ya pr k) tb m wo wA):=by
 obtain⟨to,p1,s1⟩:=ho
 obtain⟨ta,p2,s2⟩:=ha
 refine⟨_,wG (pl:=pl) p1 (wT T) hr p2 hst hpl ht,λF H C σ τ Q Q' χ R S h q=>?_⟩
 refine s1 F H C σ τ _ _ χ R S h λx v H1 C1 R1 t1 rx h1=>?_
 obtain⟨a,cn,fs,i,rfl,hC,hl,hm,h1⟩:=h1
 cases Z6 rx
 obtain⟨Cl,dx,ks,hc,hH,prr⟩:=R1.ins hC
 refine⟨a,Cl,dx,ks,_,rfl,hH,⟨cn,i,hc,hl,rfl⟩,(Ly prr).2 hm,?_⟩
 refine s2 F H1 C1 σ τ _ _ χ R1 (S.tx t1) h1 λxs vs H2 C2 R2 t2 rs h2=>?_
 exact⟨F,C2,.ref a::vs,Q',χ,R2,Yh Jb rs,h2,QE.at q (t1.trans t2)⟩
def Wy {pl:Sem Bool}(T:n9 X.prog X.w X.K X.mg X.base k pr m tb)(hr:X5 k X.A)(ho:Ji X o wo)
  (ht:eval (.Call (.Attribute o m apos) [] [] pos) X.env=(do
   let ov <-eval o X.env
   standAt apos.atName
   let (f,first) <-holding [ov] (getMethod ov m pl)
   callWith pos f first (backTo pos (starEach [] X.env)) (backToKw pos (keywordEach [] X.env))):=by rfl):
  Ji X (.Call (.Attribute o m apos) [] [] pos) (N9 (Ya pr k) tb m wo Zq):=by
 obtain⟨to,p1,s1⟩:=ho
 refine⟨_,jz (pl:=pl) p1 (wT T) hr ht,λF H C σ τ Q Q' χ R S h q=>?_⟩
 refine s1 F H C σ τ _ _ χ R S h λx v H1 C1 R1 t1 rx h1=>?_
 obtain⟨a,cn,fs,i,rfl,hC,hl,hm,h1⟩:=h1
 cases Z6 rx
 obtain⟨Cl,dx,ks,hc,hH,prr⟩:=R1.ins hC
 refine⟨a,Cl,dx,ks,_,rfl,hH,⟨cn,i,hc,hl,rfl⟩,(Ly prr).2 hm,?_⟩
 exact⟨F,C1,[.ref a],Q',χ,R1,Yh Jb Yv,h1,QE.at q t1⟩
end
def jg (cn:Str)(i:Nat)(P:Calls):WS:=λD τ C=>∃vs,τ=vs.map some/\∀p,C p=none->P i (.ref p::vs) (up C p (.ins cn [])) (λv C2=>v=.non/\D.rt (.ref p) C2) D.xc
def Cn (P:Program)(w:World)(K:W.Frag)(mg:Str->Option Value)(base:Heap)(n:Nat)(pr:List Df)(cn:Str)(i j:Nat):Prop:=
 (∃ar,pr[j]?=some ⟨ar,ar,jg cn i⟩)/\∃Cl f,Hr K cn Cl/\mg cn=some (.ref Cl)/\L2.Mk K Cl f/\(n=0\/∃k fd ps,n=k+1/\Ud P w K mg base CX0 k f fd ps (spW K pr k i)/\X6 K fd ps [])
section
variable {X:Cx}{k i j:Nat}{cn:Str}{p pos:Pos}{e:Expr}{es:List Expr}{wA:WA}{pr:List Df}
end
def pY {P:Program}{w:World}{K:W.Frag}{mg:Str->Option Value}{base:Heap}{x qual:Str}{st:Stmt}{f:Addr}{fd:FuncData}{N ps:List Str}{pr:List Df}{n i:Nat}{d:Df}(F:ya K x qual st f fd)(S:Z1 N ps (Zm st))(hd:pr[i]?=some d)(hn:d.n=N.length)(har:d.ar=ps.length)
  (hb:∀(cdv:Value) (A:Around) (outer:List Env) (s:Shared) (H:Hp) (E:XK),X5 n (A.deeper (envOfC qual (Zm st) s.heap.objs.size f cdv))->ub (Am CX0 P w K mg base N qual (Zm st) f cdv A outer s H E).nox (Ww st) (d.body (Ya pr n))):
  Ud P w K mg base CX0 (n+1) f fd ps (spW K pr (n+1) i):=by
 refine F.ok S (λvs H Q E h=>?_) (λcdv A outer s H vs Q E hr h=>?_)
 ·obtain⟨F',C,vs',Q',χ,R,rs,⟨d',e1,e2,_⟩,_⟩:=h
  rw[hd] at e1;cases e1
  rw[rs.length,e2,har]
 ·obtain⟨F',C,vs',Q',χ,R,rs,⟨d',e1,e2,h⟩,q⟩:=h
  rw[hd] at e1;cases e1
  obtain⟨t,p,sm⟩:=hb cdv A outer s H E hr
  refine⟨t,p,sm F' H C _ _ _ _ R (Xb.start rs N _ (by rw[rs.length,e2,hn])) h ⟨λσ τ H' C' R' t' _ h'=>q .non .non H' C' R' t' Np h',q,λ_ _ _ _ _ _ _ z=>z.elim,λ_ _ _ _ _ _ _ z=>z.elim⟩⟩
def jI {P:Program}{w:World}{K:W.Frag}{mg:Str->Option Value}{base:Heap}{f:Addr}{fd:FuncData}{ps:List Str}{pr:List Df}{i:Nat}:Ud P w K mg base CX0 0 f fd ps (spW K pr 0 i):=
 ⟨λvs H Q E h=>by obtain⟨_,_,_,_,_,_,_,z,_⟩:=h;exact z.elim,λA outer s H args us vs Q E _ _ _ _ h=>by obtain⟨_,_,_,_,_,_,_,z,_⟩:=h;exact z.elim⟩
structure Kl (K:W.Frag)(mg:Str->Option Value)(cn:Str)(Cl:Addr):Prop where
 at_:Hr K cn Cl
 mg:mg cn=some (.ref Cl)
 cls:yd K Cl
def rJ {P:Program}{w:World}{K:W.Frag}{mg:Str->Option Value}{base:Heap}{n:Nat}{cn m:Str}{ps:List Str}{sp:L2.Sp}{Cl f:Addr}{fd:FuncData}(k:Kl K mg cn Cl)(m':xg K Cl m f)(G:Ud P w K mg base CX0 n f fd ps sp)(hb:X6 K fd ps []):Cm P w K mg base n cn m ps sp:=
 ⟨Cl,f,fd,k.at_,k.cls,m',G,hb⟩
def sf {P:Program}{w:World}{K:W.Frag}{mg:Str->Option Value}{base:Heap}{pr:List Df}{cn:Str}{i j ar:Nat}{Cl f:Addr}(hj:pr[j]?=some ⟨ar,ar,jg cn i⟩)(k:Kl K mg cn Cl)(M:L2.Mk K Cl f):Cn P w K mg base 0 pr cn i j:=⟨⟨ar,hj⟩,Cl,f,k.at_,k.mg,M,.inl rfl⟩
def sh {P:Program}{w:World}{K:W.Frag}{mg:Str->Option Value}{base:Heap}{pr:List Df}{cn:Str}{n i j ar:Nat}{Cl f:Addr}{fd:FuncData}{ps:List Str}(hj:pr[j]?=some ⟨ar,ar,jg cn i⟩)(k:Kl K mg cn Cl)(M:L2.Mk K Cl f)(G:Ud P w K mg base CX0 n f fd ps (spW K pr n i))(hb:X6 K fd ps []):Cn P w K mg base (n+1) pr cn i j:=
 ⟨⟨ar,hj⟩,Cl,f,k.at_,k.mg,M,.inr ⟨n,fd,ps,rfl,G,hb⟩⟩
def si {P:Program}{w:World}{K:W.Frag}{mg:Str->Option Value}{base:Heap}{pr:List Df}{cn:Str}{n i j ar:Nat}{Cl:Addr}{ps:List Str}(hj:pr[j]?=some ⟨ar,ar,jg cn i⟩)(k:Kl K mg cn Cl)(mk:W.makesIn K Cl=true)(kc:W.keepIn K (.ref Cl)=true)
  (h:Cm P w K mg base n cn "__init__" ps (spW K pr n i)):Cn P w K mg base (n+1) pr cn i j:=by
 obtain⟨C2,f,fd,h1,h2,h3,h4,h5⟩:=h
 have e:some (some (Value.ref C2))=some (some (Value.ref Cl)):=h1.symm.trans k.at_
 cases e
 exact sh hj k ⟨mk,h3.at_,h3.fn,kc⟩ h4 h5
def Xo {K:W.Frag}{f:Str}:∀cn∈([]:List Str),KF K f cn:=λ_ h=>by cases h
def Jx {K:W.Frag}{f cn:Str}{cs:List Str}(a:KF K f cn)(r:∀c∈cs,KF K f c):∀c∈cn::cs,KF K f c:=λc h=>by
 rcases List.mem_cons.mp h with rfl | h
 ·exact a
 ·exact r c h
def vD {X:Cx}{body:List Stmt}:ub X body ze:=⟨λ_ _ _=>False,λ_ _ _ _ _ _ h=>h.elim,λ_ _ _ _ _ _ _ _ _ h _=>h.elim⟩
def fj (C:Hw):Nat->T->T->Bool->Prop
 | 0,v,w,b=>Y5 v 0=true/\Y5 w 0=true/\b=eqT v w
 | n+1,v,w,b=>(Y5 v n=true/\Y5 w n=true/\b=eqT v w)\/
   (∃(xs ys:List T) (e:Nat->Bool),v=.tup xs/\w=.tup ys/\(∀j x y,xs[j]?=some x->ys[j]?=some y->fj C n x y (e j))/\b=((List.range (min xs.length ys.length)).all e&&xs.length==ys.length))\/
   (∃(a a':Addr) (xs ys:List T) (e:Nat->Bool),v=.ref a/\w=.ref a'/\C a=some (.lst xs)/\C a'=some (.lst ys)/\(xs.length=ys.length->∀j x y,xs[j]?=some x->ys[j]?=some y->fj C n x y (e j))/\
    b=(if xs.length=ys.length then(List.range xs.length).all e else false))
section
variable {X:Cx}{pins:List (Addr×Obj)}{σ:L2.St}{F H:Hp}{s:Shared}{C:Hw}
end
section
variable {X:Cx}
end
structure eU (K:W.Frag)(x qual:Str)(st:Stmt)(f:Addr)(fd:FuncData):Prop where
 ex:∃(oc:Value) (od:Option Addr) (dV kV doc pm:Value) (an:Option Addr) (cdv ct:Value) (osl:Array (Option Value)),
  fd=W.fnOf x qual (Sh st) (Ww st) (Zm st) dV kV doc pm an cdv ct/\K.lookup f=some ⟨oc,od,.func fd,osl⟩/\W.codeIn K cdv qual=true
 kp:W.keepIn K (.ref f)=true
def dq (P:Program)(w:World)(K:W.Frag)(mg:Str->Option Value)(base:Heap)(n:Nat)(x:Str)(ps:List Str)(ds:List Int)(sp:L2.Sp):Prop:=
 ∃f fd,Ud P w K mg base CX0 n f fd ps sp/\(∃us:List Value,Z7 (ds.map V.int) us/\∀j,j<=ds.length->X6 K fd ps (us.drop j))/\W.keepIn K (.ref f)=true/\mg x=some (.ref f)
def eF (ws:List T)(a:WA):WA:=λτ C Q χ=>a τ C (λvs C1=>Q (vs++ws) C1) χ
end WL
namespace PySem
open Sem (wp)
namespace F
def lz_entry_ga:entryFor table "zip.__getattribute__"=some Builtin.«object.__getattribute__»:=
 entryFor_alias (id':="object.__getattribute__") (by kernel_rfl) (by first | rfl | decide+kernel) (by decide+kernel) (by kernel_rfl)
def lz_getattr_none:typeLookup (.type "zip") "__getattr__"=pure none:=by rw[typeLookup_type,builtinLookup_eq_fast];kernel_rfl
def lz_keys_none:typeLookup (.type "zip") "keys"=pure none:=by rw[typeLookup_type,builtinLookup_eq_fast];kernel_rfl
end F
section
variable {z:Addr}
def wX (fs:Array Value)(u:Tok):
  Meets (Builtin.«object.__getattribute__» ⟨[.ref z,.str "keys" u],[]⟩) (λA R s=>s.heap.get? z=some {cls:=.type "zip",dict:=none,data:=.fields fs,slots:=#[]}/\raisesAttr (.ref z) "keys" A R s):=
 Meets.of_wp λprog w A R s hs=>by
  obtain⟨ho,hs⟩:=hs
  obtain⟨hp,g,d,tk,os⟩:=s
  have hT:(⟨hp,g,d,tk,os⟩:Shared).TypeIs (.ref z) "zip":=⟨_,ho,rfl⟩
  have f1:=F.lz_keys_none
  unfold Builtin.«object.__getattribute__»
  repeat (any_goals (first | assumption | wp_step))
  exact wpAny_raiseAttrError hs.1 hs.2 (attrMsg_fits (by decide+kernel) (by decide+kernel))
def tH {prog:Program}{w:World}{A:Around}{E:Value->Shared->Prop}{s:Shared}{fs:Array Value}{Q:Option Value->Shared->Prop}(ho:s.heap.get? z=some {cls:=.type "zip",dict:=none,data:=.fields fs,slots:=#[]})(hA:A.handled=none)
  (h:∀h' tk,(∀b ob,s.heap.get? b=some ob->h'.get? b=some ob)->Q none {s with heap:=h',toks:=tk}):wpAny (model prog w) A (getAttr? (.ref z) "keys") Q E s:=by
 obtain⟨hp,g,d,tk,os⟩:=s
 have hT:(⟨hp,g,d,tk,os⟩:Shared).TypeIs (.ref z) "zip":=⟨_,ho,rfl⟩
 have f1:=sub_AttributeError
 have f3:=F.slot_zip_getattribute.lookup
 have f4:=F.slot_zip_getattribute.bind (.ref z)
 have f5:=F.lz_getattr_none
 unfold getAttr? getAttrBy? getAttrBy
 repeat (any_goals (first | assumption | ((with_reducible show wpAny _ _ (call (Value.builtin "zip.__getattribute__") _ _) _ _ _);refine call_meets F.slot_zip_getattribute ⟨_,ho,rfl⟩ F.lz_entry_ga (F.args_zip_getattribute_2 _ _) (wX fs _) ⟨ho,hA,λh' tk' e hx=>?_⟩) | wp_step))
 obtain⟨t',u',he⟩:=hx.there
 show wpAny _ _ (getattributeRaised _ _ _ _ _ _ _) _ _ _
 unfold getattributeRaised
 repeat (any_goals (first | assumption | wp_step))
 exact h h' tk' λb ob q=>hx.keeps b ob q
end
end PySem
namespace L2
open PySem PySem.Spec PyProof.Rows
abbrev O7 (h:Heap)(z TI TO T:Addr)(b:Bool):Prop:=
 h.get? z=some {cls:=.type "zip",dict:=none,data:=.fields #[rawInt T,.bool b,.bool false,.ref TI,.ref TO],slots:=#[]}
section
variable {prog:Program}{w:World}{A:Around}{E:Value->Shared->Prop}{s:Shared}{z TI TO i1 i2:Addr}{f1 f2:List Addr}{n:Nat}{P1 P2:Nat->Value->Prop}{S1 S2:Nat->Heap->Prop}
def jf {M:Model}{a:Addr}{Q:Option Obj->Shared->Prop}(h:Q (s.heap.get? a) s):wpAny M A (loadIfAlive a) Q E s:=λΓ p hΓ=>by
 unfold loadIfAlive
 rw[Sem.wp_loadIfAlive]
 exact(XB (M:=M) (A:=A) (E:=E) h) Γ p hΓ
def yh {T:Addr}{b:Bool}{Q:Bool->Shared->Prop}(hz:O7 s.heap z TI TO T b)(hT:∃o,s.heap.get? T=some o)(hQ:∀h2,O7 h2 z TI TO T true->Heap.SameBut z s.heap h2->Q false {s with heap:=h2}):
  wpAny (model prog w) A (Builtin.SmallTypes.ownedTupleIsFree (.ref z)) Q E s:=by
 obtain⟨oT,hoT⟩:=hT
 unfold Builtin.SmallTypes.ownedTupleIsFree
 refine XA (wpAny_field hz rfl (x:=rawInt T) rfl ?_)
 show wpAny _ _ (loadIfAlive (T:Int).toNat>>=_) _ _ s
 refine XA (jf ?_)
 rw[Int.toNat_natCast,hoT]
 simp only[Option.isNone_some,Bool.false_eq_true,if_false]
 refine XA (wpAny_field hz rfl (x:=.bool b) rfl ?_)
 cases b with
 | false=>
  rw[XY (by decide)]
  refine wpAny_bind (wpAny_setField_rec hz (by simp) λha hza sa=>?_)
  exact XB (hQ ha hza sa)
 | true=>
  rw[XX (by decide)]
  exact XB (hQ s.heap hz (Heap.SameBut.refl _ _))
def uv {i:Nat}{T:Addr}{b:Bool}{u v:Value}{Q:Value->Shared->Prop}(D1:Draws prog w A i1 f1 n P1 S1)(D2:Draws prog w A i2 f2 n P2 S2)(Z:jW z TI TO i1 i2 f1 f2)(hi:i<n)
  (hz:O7 s.heap z TI TO T b) (hT:∃o,s.heap.get? T=some o) (hTI:IsPair s.heap TI (.ref i1) (.ref i2)) (s1:S1 i s.heap) (s2:S2 i s.heap)
  (hQ:∀x y h2 t2 b,P1 i x->P2 i y->O7 h2 z TI TO T b->S1 (i+1) h2->S2 (i+1) h2->IsPair h2 s.heap.objs.size x y->
   (∀c o,c≠z->c≠i1->c≠i2->s.heap.get? c=some o->h2.get? c=some o)->Q (.ref s.heap.objs.size) {s with heap:=h2,toks:=t2}):
  wpAny (model prog w) A (Builtin.«zip.__next__» ⟨[.ref z],[]⟩) (λfin s2=>∃r,fin=.done (.ret r)/\Q r s2) E s:=by
 show wpAny _ _ (field (.ref z) 2>>=_) _ E s
 refine XA (wpAny_field hz rfl (x:=.bool false) rfl ?_)
 show wpAny _ _ (field (.ref z) 3>>=_) _ E s
 refine XA (wpAny_field hz rfl (x:=.ref TI) rfl ?_)
 refine XA (wpAny_seqItems hTI rfl ?_)
 show wpAny _ _ (Builtin.SmallTypes.ownedTupleIsFree (.ref z)>>=_) _ E s
 refine XA (yh hz hT λha hza sa=>?_)
 simp only[Bool.false_eq_true,if_false]
 have ne:∀{b c:Addr} {l:List Addr},b∈l->c∉l->b≠c:=λhb hc e=>hc (e▸hb)
 have a1:S1 i ha:=D1.frame i _ _ s1 λb hb o e=>sa.extBut _ _ (ne hb Z.z1) e
 have a2:S2 i ha:=D2.frame i _ _ s2 λb hb o e=>sa.extBut _ _ (ne hb Z.z2) e
 have zi1:z≠i1:=λe=>Z.z1 (e▸Z.m1)
 have zi2:z≠i2:=λe=>Z.z2 (e▸Z.m2)
 rw[<-Array.forIn_toList]
 simp only[List.forIn_cons,List.forIn_nil]
 refine XA (XA (XA (wpAny_holding ?_)))
 show wpAny _ _ (Builtin.SmallTypes.nextOf (.ref i1)>>=_) _ _ _
 refine XA (D1.item i {s with heap:=ha} _ _ hi a1 λx hb tb hx b1 sb=>XB ?_)
 have b2:S2 i hb:=D2.frame i _ _ a2 λb hm o e=>sb.extBut _ _ (ne hm Z.a12) e
 refine XB ?_
 refine XA (XA (wpAny_holding ?_))
 show wpAny _ _ (Builtin.SmallTypes.nextOf (.ref i2)>>=_) _ _ _
 refine XA (D2.item i {s with heap:=hb,toks:=tb} _ _ hi b2 λy hd td hy d2 sd=>XB ?_)
 have d1:S1 (i+1) hd:=D1.frame _ _ _ b1 λb hm o e=>sd.extBut _ _ (ne hm Z.a21) e
 refine XB ?_
 refine XB ?_
 refine XA (wpAny_newTuple ?_ (show(2:Nat)<=sizeLine by decide))
 have hsz:hd.objs.size=s.heap.objs.size:=by rw[sd.1,sb.1,sa.1]
 have hzd:O7 hd z TI TO T true:=sd.extBut _ _ zi2 (sb.extBut _ _ zi1 hza)
 have up:∀c o,hd.get? c=some o->(hd.push {cls:=.type "tuple",data:=.seq #[x,y]}).get? c=some o:=λc o e=>XC _ e
 refine XB ⟨_,rfl,?_⟩
 show Q (.ref hd.objs.size) _
 have hTn:IsPair (hd.push {cls:=.type "tuple",data:=.seq #[x,y]}) hd.objs.size x y:=XF _ rfl
 rw[hsz] at hTn |-
 exact hQ x y _ td true hx hy (up _ _ hzd) (D1.frame _ _ _ d1 λb hm o e=>up _ o e) (D2.frame _ _ _ d2 λb hm o e=>up _ o e) hTn λc o n1 n3 n4 e=>up c o (sd.extBut _ _ n4 (sb.extBut _ _ n3 (sa.extBut _ _ n1 e)))
def rR {T:Addr}{b:Bool}{Q:Fin->Shared->Prop}(D1:Draws prog w A i1 f1 n P1 S1)(Z:jW z TI TO i1 i2 f1 f2)
  (hz:O7 s.heap z TI TO T b) (hT:∃o,s.heap.get? T=some o) (hTI:IsPair s.heap TI (.ref i1) (.ref i2)) (s1:S1 n s.heap)
  (hE:∀h2 ex,(∀c o,c≠z->c≠i1->c≠i2->s.heap.get? c=some o->h2.get? c=some o)->(∃o,h2.get? ex=some o/\o.cls=.type "StopIteration")->E (.ref ex) {s with heap:=h2}):
  wpAny (model prog w) A (Builtin.«zip.__next__» ⟨[.ref z],[]⟩) Q E s:=by
 show wpAny _ _ (field (.ref z) 2>>=_) _ E s
 refine XA (wpAny_field hz rfl (x:=.bool false) rfl ?_)
 show wpAny _ _ (field (.ref z) 3>>=_) _ E s
 refine XA (wpAny_field hz rfl (x:=.ref TI) rfl ?_)
 refine XA (wpAny_seqItems hTI rfl ?_)
 show wpAny _ _ (Builtin.SmallTypes.ownedTupleIsFree (.ref z)>>=_) _ E s
 refine XA (yh hz hT λha hza sa=>?_)
 simp only[Bool.false_eq_true,if_false]
 have ne:∀{b c:Addr} {l:List Addr},b∈l->c∉l->b≠c:=λhb hc e=>hc (e▸hb)
 have a1:S1 n ha:=D1.frame n _ _ s1 λb hb o e=>sa.extBut _ _ (ne hb Z.z1) e
 rw[<-Array.forIn_toList]
 simp only[List.forIn_cons,List.forIn_nil]
 refine XA (XA (XA (wpAny_holding ?_)))
 show wpAny _ _ (Builtin.SmallTypes.nextOf (.ref i1)>>=_) _ _ _
 refine XA (D1.done {s with heap:=ha} _ _ a1 λhb ex sb he=>?_)
 exact hE hb ex (λc o n1 n3 n4 e=>sb _ _ n3 (sa.extBut _ _ n1 e)) he
end
end L2
namespace PySem.F
def lz_entry_loop:entryFor table "dict.update.loop"=some Builtin.«dict.update.loop»:=entryFor_of_tree (by kernel_rfl)
end PySem.F
namespace L2
open PySem PySem.Spec PyProof.Rows
structure ZS (z TI TO i1 i2 l1 l2:Addr)(xs ys:Array Value)(i:Nat)(h:Heap):Prop where
 zip:IsZip h z TI TO .none\/∃T b,O7 h z TI TO T b/\(∃o,h.get? T=some o)/\T≠z/\T≠TO/\T≠i1/\T≠i2
 its:IsPair h TI (.ref i1) (.ref i2)
 own:∃a b,IsPair h TO a b
 s1:h.IsTupleIter i1 l1 i/\h.IsTuple l1 xs
 s2:h.IsTupleIter i2 l2 i/\h.IsTuple l2 ys
def ZS.frame {z TI TO i1 i2 l1 l2:Addr}{xs ys:Array Value}{i:Nat}{h h':Heap}(Z:ZS z TI TO i1 i2 l1 l2 xs ys i h)(k:∀b∈[z,TI,TO,i1,i2,l1,l2],∀o,h.get? b=some o->h'.get? b=some o)(al:∀b,(∃o,h.get? b=some o)->∃o,h'.get? b=some o):ZS z TI TO i1 i2 l1 l2 xs ys i h':=by
 obtain⟨a,b,⟨u,v,c⟩,d,e⟩:=Z
 refine⟨?_,k _ (by simp) _ b,⟨u,v,k _ (by simp) _ c⟩,⟨d.1.at λo q=>k _ (by simp) o q,d.2.at λo q=>k _ (by simp) o q⟩,⟨e.1.at λo q=>k _ (by simp) o q,e.2.at λo q=>k _ (by simp) o q⟩⟩
 rcases a with a | ⟨T,b,a,hT,r⟩
 ·exact .inl (k _ (by simp) _ a)
 ·exact .inr ⟨T,b,k _ (by simp) _ a,al _ hT,r⟩
section
variable {prog:Program}{w:World}{A:Around}{E:Value->Shared->Prop}{s:Shared}{z TI TO i1 i2 l1 l2:Addr}{xs ys:Array Value}
def ye {i:Nat}{Q:Option Value->Shared->Prop}(hh:A.handled=none)(Z:jW z TI TO i1 i2 [i1,l1] [i2,l2])(h1:l1≠i1)(h2:l2≠i2)(hn:xs.size=ys.size)(hi:i<xs.size)(st:ZS z TI TO i1 i2 l1 l2 xs ys i s.heap)
  (hQ:∀T x y h' tk,xs[i]?=some x->ys[i]?=some y->s.heap.objs.size<=T->IsPair h' T x y->ZS z TI TO i1 i2 l1 l2 xs ys (i+1) h'->(∀b o,b∉[z,TO,i1,i2]->s.heap.get? b=some o->h'.get? b=some o)->Q (some (.ref T)) {s with heap:=h',toks:=tk}):
  wpAny (model prog w) A (pyNext (.ref z)) Q E s:=by
 have D1:=Pd (prog:=prog) (w:=w) (A:=A.in1) hh i1 l1 h1 xs
 have D2:=Pd (prog:=prog) (w:=w) (A:=A.in1) hh i2 l2 h2 ys
 rw[<-hn] at D2
 obtain⟨a,b,⟨u,v,c⟩,d,e⟩:=st
 have al:∀{h h':Heap},True:=λ{_ _}=>trivial
 have lt:∀{c o},s.heap.get? c=some o->s.heap.objs.size≠c:=λe=>Nat.ne_of_gt (XD e)
 obtain⟨o1,l1'⟩:=D1.live _ _ d
 obtain⟨o2,l2'⟩:=D2.live _ _ e
 rcases a with a | ⟨T,bb,a,hT,t1,t2,t3,t4⟩
 ·have hTy:s.TypeIs (.ref z) "zip":=⟨_,a,rfl⟩
  unfold pyNext
  refine XA (wpAny_attempt (wpAny_callSpecial?_slot (name:=Str.ofString "__next__") hTy F.slot_zip_next (wpAny_call_entry F.slot_zip_next hTy F.entry_zip_next
   (yf D1 D2 Z hi a b c d e λx y h2 t2 hx hy z1 z2 z3 z4 z5 z6=>XB ?_) (F.args_zip_next_1 _))))
  refine hQ _ x y h2 t2 hx hy (XE _) z5 ⟨.inr ⟨_,false,z1,⟨_,z5⟩,lt a,lt c,lt l1',lt l2'⟩,z6 _ _ Z.tz Z.io Z.t1 Z.t2 b,⟨_,_,z2⟩,z3,z4⟩ λc o hc q=>?_
  simp only[List.mem_cons,List.not_mem_nil,or_false,not_or] at hc
  exact z6 c o hc.1 hc.2.1 hc.2.2.1 hc.2.2.2 q
 ·have hTy:s.TypeIs (.ref z) "zip":=⟨_,a,rfl⟩
  unfold pyNext
  refine XA (wpAny_attempt (wpAny_callSpecial?_slot (name:=Str.ofString "__next__") hTy F.slot_zip_next (wpAny_call_entry F.slot_zip_next hTy F.entry_zip_next
   (uv (u:=u) (v:=v) D1 D2 Z hi a hT b d e λx y h2 tk b2 hx hy z1 z3 z4 z5 z6=>XB ?_) (F.args_zip_next_1 _))))
  obtain⟨oT,hoT⟩:=hT
  have Oi1:TO≠i1:=λe=>Z.o1 (e▸Z.m1)
  have Oi2:TO≠i2:=λe=>Z.o2 (e▸Z.m2)
  refine hQ _ x y h2 tk hx hy (XE _) z5 ⟨.inr ⟨T,b2,z1,⟨oT,z6 _ _ t1 t3 t4 hoT⟩,t1,t2,t3,t4⟩,z6 _ _ Z.tz Z.t1 Z.t2 b,⟨_,_,z6 _ _ Z.oz Oi1 Oi2 c⟩,z3,z4⟩ λc o hc q=>?_
  simp only[List.mem_cons,List.not_mem_nil,or_false,not_or] at hc
  exact z6 c o hc.1 hc.2.2.1 hc.2.2.2 q
def xz {Q:Option Value->Shared->Prop}(hh:A.handled=none)(Z:jW z TI TO i1 i2 [i1,l1] [i2,l2])(h1:l1≠i1)(st:ZS z TI TO i1 i2 l1 l2 xs ys xs.size s.heap)
  (hQ:∀h' tk,(∀b o,b∉[z,TO,i1,i2]->s.heap.get? b=some o->h'.get? b=some o)->Q none {s with heap:=h',toks:=tk}):
  wpAny (model prog w) A (pyNext (.ref z)) Q E s:=by
 have D1:=Pd (prog:=prog) (w:=w) (A:=A.in1) hh i1 l1 h1 xs
 obtain⟨a,b,⟨u,v,c⟩,d,e⟩:=st
 rcases a with a | ⟨T,bb,a,hT,t1,t2,t3,t4⟩
 ·have hTy:s.TypeIs (.ref z) "zip":=⟨_,a,rfl⟩
  unfold pyNext
  refine XA (wpAny_attempt (wpAny_callSpecial?_slot (name:=Str.ofString "__next__") hTy F.slot_zip_next (wpAny_call_entry F.slot_zip_next hTy F.entry_zip_next (xA D1 Z a b c d λh2 ex hk he=>?_) (F.args_zip_next_1 _))))
  obtain⟨o,ho,hc⟩:=he
  refine XA (wpAny_isInstance (T:="StopIteration") (b:=true) ⟨o,ho,hc⟩ isSubtype_stop ?_)
  refine XB (hQ h2 s.toks λc o hc q=>?_)
  simp only[List.mem_cons,List.not_mem_nil,or_false,not_or] at hc
  exact hk c o hc.1 hc.2.1 hc.2.2.1 hc.2.2.2 q
 ·have hTy:s.TypeIs (.ref z) "zip":=⟨_,a,rfl⟩
  unfold pyNext
  refine XA (wpAny_attempt (wpAny_callSpecial?_slot (name:=Str.ofString "__next__") hTy F.slot_zip_next (wpAny_call_entry F.slot_zip_next hTy F.entry_zip_next (rR D1 Z a hT b d λh2 ex hk he=>?_) (F.args_zip_next_1 _))))
  obtain⟨o,ho,hc⟩:=he
  refine XA (wpAny_isInstance (T:="StopIteration") (b:=true) ⟨o,ho,hc⟩ isSubtype_stop ?_)
  refine XB (hQ h2 s.toks λc o hc q=>?_)
  simp only[List.mem_cons,List.not_mem_nil,or_false,not_or] at hc
  exact hk c o hc.1 hc.2.2.1 hc.2.2.2 q
def tV {knd:KeyKind prog w Zz}{d:Addr}(hh:A.handled=none)(Z:jW z TI TO i1 i2 [i1,l1] [i2,l2])(h1:l1≠i1)(h2:l2≠i2)(hn:xs.size=ys.size)(hd:d∉[z,TI,TO,i1,i2,l1,l2])(kk:Nat->Zz)(hk:∀i x,xs[i]?=some x->knd.is (kk i) x=true)(hsz:xs.size<=1000)
  {R:Result->Shared->Prop} (h₀:Heap) (hlt:∀b o,h₀.get? b=some o->b≠d/\b∉[z,TO,i1,i2])
  (hR:∀h' tk vs,(∀b o,h₀.get? b=some o->h'.get? b=some o)->h'.DictOf knd d vs->vs=((List.range xs.size).foldl (λa j=>stored a (kk j) ((ys[j]?).getD .none)) [])->R (.ok (.ret .none)) {s with heap:=h',toks:=tk}):
  ∀(m i:Nat) (h:Heap) (tk:Nat) (vs:List (Zz×Value)),xs.size-i=m->i<=xs.size->ZS z TI TO i1 i2 l1 l2 xs ys i h->(∀b o,h₀.get? b=some o->h.get? b=some o)->h.DictOf knd d vs->vs.length<=i->vs=((List.range i).foldl (λa j=>stored a (kk j) ((ys[j]?).getD .none)) [])-> 
   codeAny (model prog w) A (.builtin "dict.update.loop" ⟨[.ref d,.ref z,rawInt i,.none],[]⟩) R {s with heap:=h,toks:=tk}:=by
 intro m
 induction m with
 | zero=>
  intro i h tk vs hm hi st keep dd hl hv
  have ei:i=xs.size:=by omega
  subst ei
  refine codeAny_builtin PySem.F.lz_entry_loop ?_
  show wpAny _ _ (pyNext (.ref z)>>=_) _ _ _
  refine XA (xz (A:=A.under _) hh Z h1 st λh' tk' kp=>?_)
  show wpAny _ _ (Builtin.Dict.addKeywords d []>>=_) _ _ _
  refine XA (XB (XB ?_))
  refine hR h' tk' vs (λb o q=>kp b o (hlt b o q).2 (keep b o q)) (dd.at λo q=>kp _ o ?_ q) hv
  intro hm
  exact hd (by simp only[ZM,ZN,or_false] at hm |-;rcases hm with h | h | h | h<;>simp[h])
 | succ m ih=>
  intro i h tk vs hm hi st keep dd hl hv
  refine codeAny_builtin PySem.F.lz_entry_loop ?_
  show wpAny _ _ (pyNext (.ref z)>>=_) _ _ _
  have hdw:d∉[z,TO,i1,i2]:=λhm=>hd (by simp only[ZM,ZN,or_false] at hm |-;rcases hm with h | h | h | h<;>simp[h])
  refine XA (ye (A:=A.under _) hh Z h1 h2 hn (by omega) st λT x y h' tk' hx hy hT hp st' kp=>?_)
  have dd':h'.DictOf knd d vs:=dd.at λo q=>kp _ o hdw q
  show wpAny _ _ (holding [.ref T] _>>=_) _ _ _
  refine XA (wpAny_holding ?_)
  refine XA (wpAny_tryCatch ?_)
  unfold Builtin.Dict.pairItems
  refine XA (wpAny_typeOf (T:="tuple") ⟨_,hp,rfl⟩ ?_)
  rw[XY (by decide)]
  refine XA (wpAny_seqItems hp rfl (XB ?_))
  show wpAny _ _ (holding [x,y] (dictSet d x y)) _ _ _
  refine wpAny_holding ?_
  unfold dictSet
  refine wpAny_holding (XA (knd.pyHash (hk i x hx) ?_))
  refine wpAny_dictSetHashed_pairs (hk i x hx) dd' (λh2 dd2 sb=>?_) (XN (show vs.length<=1000 by omega) (by decide))
  refine XB ⟨Code.quiet_builtin _ (by decide+kernel),?_⟩
  have nd:∀b∈[z,TI,TO,i1,i2,l1,l2],b≠d:=λb hb e=>hd (e▸hb)
  have ei:(rawInt ((i:Int)+1))=rawInt ((i+1:Nat):Int):=by congr 1
  rw[ei]
  refine ih (i+1) h2 _ (stored vs (kk i) y) (by omega) (by omega) (st'.frame (λb hb o q=>sb.extBut _ _ (nd b hb) q) λb hb=>?_) (λb o q=>sb.extBut _ _ (hlt b o q).1 (kp b o (hlt b o q).2 (keep b o q))) dd2 ?_ ?_
  ·obtain⟨o,q⟩:=hb
   by_cases e:b=d
   ·subst e;obtain⟨o',_,_,q',_⟩:=dd2;exact⟨o',q'⟩
   ·exact⟨o,sb.extBut _ _ e q⟩
  ·unfold stored
   split
   ·rw[XI];omega
   ·rw[List.length_append,List.length_singleton];omega
  ·rw[List.range_succ,List.foldl_append,<-hv]
   simp[hy]
def Dn {knd:KeyKind prog w Zz}{Q:Value->Shared->Prop}(hh:A.handled=none)(Z:jW z TI TO i1 i2 [i1,l1] [i2,l2])(h1:l1≠i1)(h2:l2≠i2)(hn:xs.size=ys.size)(kk:Nat->Zz)(hk:∀i x,xs[i]?=some x->knd.is (kk i) x=true)(hsz:xs.size<=1000)
  (h₀:Heap) (hlt:∀b o,h₀.get? b=some o->b∉[z,TO,i1,i2]) (keep:∀b o,h₀.get? b=some o->s.heap.get? b=some o) (hz0:IsZip s.heap z TI TO .none) (st:ZS z TI TO i1 i2 l1 l2 xs ys 0 s.heap)
  (hQ:∀h' tk,(∀b o,h₀.get? b=some o->h'.get? b=some o)->h'.DictOf knd s.heap.objs.size ((List.range xs.size).foldl (λa j=>stored a (kk j) ((ys[j]?).getD .none)) [])->Q (.ref s.heap.objs.size) {s with heap:=h',toks:=tk}):
  wpAny (model prog w) A (call (.type "dict") [.ref z]) Q E s:=by
 refine callType_codes (Q₁:=λobj s₁=>obj=.ref s.heap.objs.size/\s₁={s with heap:=s.heap.push {cls:=.type "dict",data:=.dict #[]}}) PySem.F.kt_called_dict (PySem.F.kt_typeCall_dict_1 _) PySem.F.entry_dict_init (kt_code_dict_new _ ⟨rfl,rfl⟩) ?_
 rintro obj s₁ ⟨rfl,rfl⟩
 have hnew:(s.heap.push {cls:=.type "dict",data:=.dict #[]}).DictOf knd s.heap.objs.size []:=Heap.DictOf.new s.heap
 have hps:∀b o,s.heap.get? b=some o->(s.heap.push {cls:=.type "dict",data:=.dict #[]}).get? b=some o:=λb o q=>XC _ q
 have st1:ZS z TI TO i1 i2 l1 l2 xs ys 0 (s.heap.push {cls:=.type "dict",data:=.dict #[]}):=st.frame (λb _ o q=>hps b o q) λb ⟨o,q⟩=>⟨o,hps b o q⟩
 refine⟨hnew.typeIs,PySem.F.args_dict_init_2 _ _,?_⟩
 unfold Builtin.«dict.__init__»
 refine XA ?_
 unfold Builtin.Dict.selfAndRest
 refine XA (wpAny_notOrdered_dict hnew.typeIs ?_)
 show wpAny _ _ (pure (s.heap.objs.size,[Value.ref z])) _ _ _
 refine XB ?_
 show wpAny _ _ (Builtin.Dict.updateFrom "dict.__init__" s.heap.objs.size (.ref z) [] .none) _ _ _
 have hz:=hps _ _ hz0
 unfold Builtin.Dict.updateFrom
 refine XA (wpAny_typeOf (T:="zip") ⟨_,hz,rfl⟩ ?_)
 rw[XY (by decide)]
 refine XA (tH hz hh λh' tk' kp=>?_)
 rw[XY (by decide)]
 have st2:ZS z TI TO i1 i2 l1 l2 xs ys 0 h':=st1.frame (λb _ o q=>kp b o q) λb ⟨o,q⟩=>⟨o,kp b o q⟩
 refine XA (wpAny_rule ?_)
 refine XA (wpAny_pyIter_zip (kp _ _ hz) ?_)
 refine XB ⟨Code.quiet_builtin _ (by decide+kernel),?_⟩
 have sd:∀b o,s.heap.get? b=some o->b≠s.heap.objs.size:=λb o q=>XH (XD q)
 have hd:s.heap.objs.size∉[z,TI,TO,i1,i2,l1,l2]:=by
  obtain⟨_,b,⟨u,v,c⟩,d,e⟩:=st
  obtain⟨o1,e1,_⟩:=d.1
  obtain⟨o2,e2,_⟩:=e.1
  obtain⟨o3,e3,_⟩:=d.2
  obtain⟨o4,e4,_⟩:=e.2
  simp only[List.mem_cons,List.not_mem_nil,or_false,not_or]
  exact⟨(sd _ _ hz0).symm,(sd _ _ b).symm,(sd _ _ c).symm,(sd _ _ e1).symm,(sd _ _ e2).symm,(sd _ _ e3).symm,(sd _ _ e4).symm⟩
 refine tV (A:=A.in1) (s:=s) (knd:=knd) hh Z h1 h2 hn hd kk hk hsz h₀ (λb o q=>⟨sd b o (keep b o q),hlt b o q⟩) (λh3 tk3 vs k3 d3 hv=>?_) xs.size 0 h' tk' [] rfl (XO _) st2 (λb o q=>kp b o (hps b o (keep b o q))) (hnew.at λo q=>kp _ o q) (XE _) rfl
 subst hv
 exact⟨rfl,hQ h3 tk3 k3 d3⟩
end
def G7 {α:Type}(put:List (Zz×α)->Zz->α->List (Zz×α))(ks:List Zz)(ys:List α):List (Zz×α):=(ks.zip ys).foldl (λa kv=>put a kv.1 kv.2) []
def ox {α:Type}{put:List (Zz×α)->Zz->α->List (Zz×α)}(hp:∀a k v,(put a k v).length<=a.length+1)(ks:List Zz)(ys:List α):(G7 put ks ys).length<=ks.length:=by
 have key:∀(l:List (Zz×α)) (acc:List (Zz×α)),(l.foldl (λa kv=>put a kv.1 kv.2) acc).length<=acc.length+l.length:=by
  intro l
  induction l with
  | nil=>intro acc;simp
  | cons x l ih=>intro acc;have h1:=ih (put acc x.1 x.2);have h2:=hp acc x.1 x.2;rw[List.foldl_cons,YF];omega
 have h:=key (ks.zip ys) []
 rw[List.length_zip] at h
 unfold G7
 simp only[List.length_nil] at h
 omega
def fC (K:W.Frag)(ta:TA):TE:=λσ H Q=>ta σ H λvs H1=>∃(l1 l2:Addr) (ks:List Zz) (ys:List V),vs=[.ref l1,.ref l2]/\Uu K H1 l1 (ks.map kV)/\Uu K H1 l2 ys/\ks.length=ys.length/\ks.length<=1000/\
 ∀p,H1 p=none->Q (.ref p) (Yq H1 p (.dK (G7 Xu ks ys)))
def lT {ks:List Zz}{ys:List V}{us:List Value}(hl:ks.length=ys.length)(rv:Z7 ys us):KV (G7 Xu ks ys) ((List.range ks.length).foldl (λa j=>stored a ((ks[j]?).getD (.inl 0)) ((us.toArray[j]?).getD .none)) []):=by
 have key:∀i,i<=ks.length->KV (((ks.zip ys).take i).foldl (λa kv=>Xu a kv.1 kv.2) []) ((List.range i).foldl (λa j=>stored a ((ks[j]?).getD (.inl 0)) ((us.toArray[j]?).getD .none)) []):=by
  intro i
  induction i with
  | zero=>intro _;exact .nil
  | succ i ih=>
   intro hi
   have hk:ks[i]?=some ks[i]:=by simp[show i<ks.length by omega]
   have hy:ys[i]?=some (ys[i]'(by omega)):=by simp[show i<ys.length by omega]
   obtain⟨u,hu,ru⟩:=rv.get hy
   have hz:(ks.zip ys)[i]?=some (ks[i],ys[i]'(by omega)):=by rw[List.getElem?_zip_eq_some];exact⟨hk,hy⟩
   have hu':us.toArray[i]?=some u:=by simpa using hu
   rw[List.range_succ,List.foldl_append,YD,hz,Option.toList_some,List.foldl_append]
   simp only[List.foldl_cons,List.foldl_nil,hk,hu',Option.getD_some]
   exact(ih (by omega)).put _ ru
 have h:=key ks.length (XE _)
 rw[List.take_of_length_le (by rw[List.length_zip];omega)] at h
 exact h
section
variable {X:Cx}
def zo {a c:Expr}{ta:TA}{p pos p2 pos2:Pos}(hc:X.calm=true)(hg:Gl X "dict")(hm:X.mg "dict"=none)(hg2:Gl X "zip")(hm2:X.mg "zip"=none)(ha:PA X [a,c] ta)(hs:starEach [a,c] X.env=(false,eval a X.env)::starEach [c] X.env:=by rfl)(hp:(backTo pos2 (starEach [c] X.env)).any (·.1)=false:=by rfl)
  (hs2:starEach [.Call (.Name "zip" p2) [a,c] [] pos2] X.env=[(false,eval (.Call (.Name "zip" p2) [a,c] [] pos2) X.env)]:=by rfl) (hb:bootBuiltins "zip"=some (.type "zip"):=by decide+kernel) (hb2:bootBuiltins "dict"=some (.type "dict"):=by decide+kernel):
  PE X (.Call (.Name "dict" p) [.Call (.Name "zip" p2) [a,c] [] pos2] [] pos) (fC X.K ta):=by
 intro pins s σ H Q I h
 refine Call_ (Vi I hg hm hb2 (PyProof.Rows.callWith_type1 ?_ hs2 rfl))
 rw[hs2]
 show wpAny _ _ (spliced ((false,eval (.Call (.Name "zip" p2) [a,c] [] pos2) X.env)::backTo pos [])) _ _ s
 refine Calls.spliced_cons (Call_ (Vi I hg2 hm2 hb (PyProof.Rows.callWith_type1 (Jp (ha pos2 pins s σ H _ I h) λus s1 ⟨vs,H1,I1,r1,q1⟩=>?_) hs hp)))
 obtain⟨l1,l2,ks,ys,rfl,hq1,hq2,hlen,hsz,q⟩:=q1
 obtain⟨u,v,rfl,ru,rv⟩:=r1.two
 cases ru
 cases rv
 obtain⟨its1,rv1,p1,_⟩:=I1.tuple hq1
 obtain⟨its2,rv2,p2',_⟩:=I1.tuple hq2
 have lt1:l1<s1.heap.objs.size:=by obtain⟨_,e,_⟩:=p1;exact XD e
 have lt2:l2<s1.heap.objs.size:=by obtain⟨_,e,_⟩:=p2';exact XD e
 have n1:its1.toArray.size=ks.length:=by rw[XJ,<-rv1.length,XI]
 have n2:its2.toArray.size=ys.length:=by rw[XJ,<-rv2.length]
 refine O0 false false p1 p2' λh2 N=>?_
 refine Calls.spliced_nil ?_
 generalize hk:s1.heap.objs.size=k at N lt1 lt2
 have Z:=Lw lt1 lt2
 have st:ZS (k+4) (k+2) (k+3) k (k+1) l1 l2 its1.toArray its2.toArray 0 h2:=by
  refine⟨.inl (hk▸N.zip),hk▸N.its,⟨_,_,hk▸N.own⟩,⟨⟨_,hk▸N.i1,rfl,rfl⟩,Heap.IsTuple.at (show s1.heap.IsTuple l1 its1.toArray from p1) λo q=>N.keep _ o q⟩,⟨⟨_,hk▸N.i2,rfl,rfl⟩,Heap.IsTuple.at (show s1.heap.IsTuple l2 its2.toArray from p2') λo q=>N.keep _ o q⟩⟩
 have hkk:∀i x,its1.toArray[i]?=some x->(Yc X.prog X.w).is ((ks[i]?).getD (.inl 0)) x=true:=λi x hx=>by
  have hi:i<ks.length:=by
   have:=(Array.getElem?_eq_some_iff.mp hx).1
   omega
  have hk':ks[i]?=some ks[i]:=by simp[hi]
  have hm':(ks.map kV)[i]?=some (kV ks[i]):=by rw[XM,hk'];rfl
  obtain⟨u,hu,ru⟩:=rv1.get hm'
  have:u=x:=by
   have e:its1[i]?=some x:=by simpa using hx
   rw[hu] at e;exact YH e
  subst this
  rw[hk']
  exact Lg ru
 have old:∀b o,s1.heap.get? b=some o->b∉[k+4,k+3,k,k+1]:=λb o q hb=>by
  have:b<k:=hk▸XD q
  simp only[ZM,ZN,or_false] at hb
  rcases hb with e | e | e | e
  ·rw[e] at this;exact Nat.not_lt_of_le (Nat.le_add_right k 4) this
  ·rw[e] at this;exact Nat.not_lt_of_le (Nat.le_add_right k 3) this
  ·rw[e] at this;exact Nat.lt_irrefl k this
  ·rw[e] at this;exact Nat.not_lt_of_le (Nat.le_add_right k 1) this
 refine Dn (s:={s1 with heap:=h2}) (knd:=Yc X.prog X.w) (I.ok.hd hc) Z (XH lt1) (XH (Nat.lt_succ_of_lt lt2)) (by omega) (λj=>(ks[j]?).getD (.inl 0)) hkk (by omega) s1.heap old N.keep (hk▸N.zip) st λh3 tk3 keep dd=>?_
 have hp3:s1.heap.objs.size<=h2.objs.size:=by
  have:=XD (hk▸N.zip:IsZip h2 (k+4) (k+2) (k+3) .none)
  rw[hk];exact XN (Nat.le_add_right _ _) (Nat.le_of_lt this)
 rw[n1] at dd
 have big:(h2.objs.size==sysModules)=false:=beq_eq_false_iff_ne.mpr (Ne.symm (XH (XG I1.big hp3)))
 have zl:(G7 Xu ks ys).length<=sizeLine:=by
  have:=ox (α:=V) (put:=Xu) (λa k v=>by unfold Xu;split<;>simp) ks ys
  exact XN (XN this hsz) (by decide)
 exact⟨.ref _,_,I1.laid (h':=h3) (t':=tk3) keep hp3 (M7 zl big (lT hlen rv2) dd),rfl,q _ (I1.hok.fresh hp3)⟩
end
end L2
namespace WL
open PySem PySem.Spec PyProof.Rows L2
def eD (a:WA):WE:=λτ C Q χ=>a τ C (λvs C1=>∃(zs:List Str) (ts:List T),vs=[.tup (zs.map T.str),.tup ts]/\zs.length=ts.length/\zs.length<=1000/\∀p,C1 p=none->Q (.ref p) (up C1 p (.dic (G7 Y0 (zs.map Sum.inr) ts)))) χ
def Gr {K:W.Frag}{H:Hp}:∀{zs:List Str} {ys:List V},Reps K H ys (zs.map T.str)->ys=(zs.map (Sum.inr:Str->Zz)).map kV
 | [],_,h=>by rw[J8 h];rfl
 | z::zs,_,h=>by obtain⟨y,r,rfl,a,b⟩:=Yn h;rw[J7 a,Gr b];rfl
def mT {K:W.Frag}{H:Hp}{ks:List Zz}{ys:List V}{ts:List T}(r:Reps K H ys ts):PR K H (G7 Xu ks ys) (G7 Y0 ks ts):=by
 unfold G7
 have key:∀(ks:List Zz) (ys:List V) (ts:List T) (a:List (Zz×V)) (b:List (Zz×T)),Reps K H ys ts->PR K H a b->PR K H ((ks.zip ys).foldl (λa kv=>Xu a kv.1 kv.2) a) ((ks.zip ts).foldl (λa kv=>Y0 a kv.1 kv.2) b):=by
  intro ks
  induction ks with
  | nil=>intro ys ts a b r h;exact h
  | cons k ks ih=>
   intro ys ts a b r h
   cases ts with
   | nil=>rw[J8 r];exact h
   | cons t ts=>
    obtain⟨y,r',rfl,q,q'⟩:=Yn r
    simp only[List.zip_cons_cons,List.foldl_cons]
    exact ih _ _ _ _ q' (PR.put h q)
 exact key ks ys ts [] [] r .nil
section
variable {X:Cx}{a c:Expr}{wA:WA}{p pos p2 pos2:Pos}
def ge (hc:X.calm=true)(hg:Gl X "dict")(hm:X.mg "dict"=none)(hg2:Gl X "zip")(hm2:X.mg "zip"=none)(ha:zX X [a,c] wA)(hs:starEach [a,c] X.env=(false,eval a X.env)::starEach [c] X.env:=by rfl)(hp:(backTo pos2 (starEach [c] X.env)).any (·.1)=false:=by rfl)
  (hs2:starEach [.Call (.Name "zip" p2) [a,c] [] pos2] X.env=[(false,eval (.Call (.Name "zip" p2) [a,c] [] pos2) X.env)]:=by rfl):Ji X (.Call (.Name "dict" p) [.Call (.Name "zip" p2) [a,c] [] pos2] [] pos) (eD wA):=by
 obtain⟨t,p1,s⟩:=ha
 refine⟨_,zo hc hg hm hg2 hm2 p1 hs hp hs2,λF H C σ τ Q Q' χ R S h q=>?_⟩
 refine s F H C σ τ _ _ χ R S h λxs vs H1 C1 R1 t1 rs h1=>?_
 obtain⟨zs,ts,rfl,hl,hz,h1⟩:=h1
 obtain⟨x1,r1,rfl,q1,rs⟩:=Yn rs
 obtain⟨x2,r2,rfl,q2,rs⟩:=Yn rs
 cases J8 rs
 obtain⟨a1,ys1,rfl,sq1,e1⟩:=Yp q1
 obtain⟨a2,ys2,rfl,sq2,e2⟩:=Yp q2
 cases Gr e1
 refine⟨a1,a2,zs.map Sum.inr,ys2,rfl,sq1,sq2,by rw[XI,e2.length];exact hl,by rw[XI];exact hz,λpp hpp=>?_⟩
 have tn:Tx H1 (Yq H1 pp (.dK (G7 Xu (zs.map Sum.inr) ys2))):=Tx.new hpp
 exact q _ _ _ _ (R1.new (o:=.dic (G7 Y0 (zs.map Sum.inr) ts)) hpp ⟨_,Z3,Nt tn (mT e2)⟩) (t1.trans tn) Jb (h1 pp (R1.free hpp))
end
end WL
namespace L2
open PySem PySem.Spec PyProof.Rows
section
variable {X:Cx}
def eW (te:TE):TE:=λσ H Q=>te σ H λx H1=>(∃z:Str,x=.str z/\z.length<=sizeLine/\Q (.str z) H1)\/∃i:Int,x=.int i/\i.natAbs.log2<1920/\Q (.str (toString i)) H1
def tJ:List TE->Str->TE
 | [],out=>λ_ H Q=>Q (.str out) H
 | t::ts,out=>λσ H Q=>t σ H λx H1=>∃z:Str,x=.str z/\(out++z).length<=sizeLine/\tJ ts (out++z) σ H1 Q
inductive kJ (X:Cx):List Expr->List TE->Prop
 | nil:kJ X [] []
 | cons {e:Expr} {es:List Expr} {t:TE} {ts:List TE} (h:PE X e t) (r:kJ X es ts):kJ X (e::es) (t::ts)
end
end L2
namespace WL
open PySem PySem.Spec PyProof.Rows L2
def eJ:List WE->Str->WE
 | [],out=>λ_ C Q _=>Q (.str out) C
 | w::ws,out=>λτ C Q χ=>w τ C (λv C1=>∃z:Str,v=.str z/\(out++z).length<=sizeLine/\eJ ws (out++z) τ C1 Q χ) χ
section
variable {X:Cx}{e k v:Expr}{we wk wv:WE}{pos:Pos}
def dh (X:Cx)(es:List Expr)(ws:List WE):Prop:=∃ts,kJ X es ts/\∀(out:Str),Ts X.K (tJ ts out) (eJ ws out)
def hZ (k v:WE):WE:=λτ C Q χ=>∀p,C p=none->k τ (up C p (.dic [])) (λx C1=>v τ C1 (λy C2=>∃kk,kT x=some kk/\C2 p=some (.dic [])/\Q (.ref p) (up C2 p (.dic [(kk,y)]))) χ) χ
end
end WL
namespace L2
open PySem PySem.Spec PyProof.Rows
section
variable {X:Cx}
end
end L2
namespace WL
open PySem PySem.Spec PyProof.Rows L2
section
variable {X:Cx}
end
end WL
namespace L2
open PySem PySem.Spec PyProof.Rows
open AutoSeq1 (wpAny_loadPart')
section
variable {prog:Program}{w:World}{A:Around}{E:Value->Shared->Prop}{s:Shared}
end
section
variable {X:Cx}{elts:List Expr}{ek:Nat}{epos:Pos}
end
end L2
namespace WL
open PySem PySem.Spec PyProof.Rows L2
def fP (z:Nat)(xs:List T):List T:=xs.zipIdx.map λc=>T.tup [.int ((c.2+z:Nat):Int),c.1]
section
variable {X:Cx}{a:Expr}{wA:WA}{p pos kp kc:Pos}{j:Nat}
end
section
variable {X:Cx}
end
end WL
namespace L2
open PySem PySem.Spec PyProof.Rows
section
variable {X:Cx}{pins:List (Addr×Obj)}{σ:St}{H:Hp}{s:Shared}{a b:Addr}{kvs more:List (Zz×V)}{A:Around}{E:Value->Shared->Prop}
def vE {Q:Value->Shared->Prop}(I:Zs X pins σ H s)(e:H a=some (.dK kvs))(e2:H b=some (.dK more))(hab:a≠b)(hsz:kvs.length+more.length<=sizeLine)(h:∀s',Zs X pins σ (Yq H a (.dK (Qi kvs more))) s'->Q .none s'):
  wpAny (model X.prog X.w) A (call (.builtin "dict.update") [.ref a,.ref b]) Q E s:=by
 obtain⟨z,hd,vs,rel,dd⟩:=Ah I.hok e
 obtain⟨z2,hd2,vs2,rel2,dd2⟩:=Ah I.hok e2
 refine call_meetsIn PySem.F.slot_dict_update dd.typeIs PySem.F.entry_dict_update (PySem.F.args_dict_update_2 _ _) (meets_dict_update (Yc X.prog X.w) a b hab hd2) ⟨vs,vs2,dd,dd2,by rw[<-rel.length,<-rel2.length];exact hsz,λh' dd' _ hs=>h _ ?_⟩
 have he:∃q,h'.get? a=some q:=let ⟨q,_,_,hq,_⟩:=dd';⟨q,hq⟩
 exact Mc (t':=s.toks) I (by rw[e];exact True.intro) hs he (M7 (XN (U4 more kvs) hsz) hd (KV.merge rel2 rel) dd')
end
section
variable {X:Cx}{o e:Expr}{apos cpos:Pos}{td ty:TE}
def mh (td ty:TE):TE:=λσ H Q=>td σ H λx H1=>∃a,x=.ref a/\kO H1 a/\ty σ H1 λy H2=>∃b kvs more,y=.ref b/\a≠b/\H2 a=some (.dK kvs)/\H2 b=some (.dK more)/\kvs.length+more.length<=sizeLine/\Q .non (Yq H2 a (.dK (Qi kvs more)))
def uW (ho:PE X o td)(he:PE X e ty)(m:M1 X o "update" apos e cpos):PE X (.Call (.Attribute o "update" apos) [e] [] cpos) (mh td ty):=by
 intro pins s σ H Q I h
 refine wpAny_Call_method m.base m.few m.line PySem.F.plainAttrs_dict PySem.F.slot_dict_update PySem.F.type_dict_update (Jp (ho pins s σ H _ I h) λu s1 ⟨x,H1,I1,rx,a,ex,d,q1⟩=>?_)
 subst ex
 obtain rfl:u=Value.ref a:=rx
 obtain⟨t1,t2,_⟩:=zG I1 d
 refine⟨t1,t2,?_⟩
 rw[m.trees]
 refine Calls.callWith_builtin rfl (Calls.evalArgs_plain (Calls.spliced_cons (Jp (he pins s1 σ H1 _ I1 q1) λiv s2 ⟨y,H2,I2,ry,b,kvs,more,ey,hab,ea,eb,hz,q2⟩=>Calls.spliced_nil ?_)))
 subst ey
 obtain rfl:iv=Value.ref b:=ry
 exact vE I2 ea eb hab hz λs3 I3=>⟨.non,_,I3,rfl,q2⟩
end
end L2
namespace WL
open PySem PySem.Spec PyProof.Rows L2
def Yx (kvs more:List (Zz×T)):List (Zz×T):=more.foldl (λacc kv=>Y0 acc kv.1 kv.2) kvs
def PR.merge {K:W.Frag}{H:Hp}:∀{ms:List (Zz×V)} {mw:List (Zz×T)} {ks:List (Zz×V)} {kw:List (Zz×T)},PR K H ms mw->PR K H ks kw->PR K H (Qi ks ms) (Yx kw mw):=by
 intro ms mw ks kw r
 induction r generalizing ks kw with
 | nil=>intro q;exact q
 | @cons p q ps qs h t ih=>
  intro r0
  have e:PR K H (Xu ks p.1 p.2) (Y0 kw q.1 q.2):=by rw[<-h.1];exact PR.put r0 h.2
  exact ih e
abbrev oV:=Sw->Hw->(List (Zz×T)->Hw->Prop)->WX->Prop
def iE:oV:=λ_ C Q _=>Q [] C
def lg (k v:WE)(r:oV):oV:=λτ C Q χ=>k τ C (λx C1=>v τ C1 (λy C2=>r τ C2 (λps C3=>∃kk,kT x=some kk/\Q ((kk,y)::ps) C3) χ) χ) χ
def oj (r:oV):WE:=λτ C Q χ=>∀p,C p=none->r τ (up C p (.dic [])) (λps C2=>C2 p=some (.dic [])/\ps.length<=15/\Q (.ref p) (up C2 p (.dic (Yx [] ps)))) χ
def kr (K:W.Frag)(trs:List (TE×TE))(w:oV):Prop:=∀(F H:Hp) (C:Hw) (σ:L2.St) (τ:Sw) (Q:List (V×V)->Hp->Prop) (Q':List (Zz×T)->Hw->Prop) (χ:WX),Rl K F H C->Xb K H σ τ->w τ C Q' χ->
 (∀(kvs:List (Zz×V)) (ps:List (Zz×T)) H' C',Rl K F H' C'->Tx H H'->PR K H' kvs ps->Q' ps C'->Q (kvs.map λkv=>(kV kv.1,kv.2)) H')->Fw trs σ H Q
def sO (X:Cx)(pos:Pos)(ks:List (Option Expr))(vs:List Expr)(w:oV):Prop:=∃trs,ku X pos ks vs trs/\kr X.K trs w
section
variable {X:Cx}{pos apos cpos:Pos}{k v o e:Expr}{ks:List (Option Expr)}{vs:List Expr}{wk wv wo we:WE}{w:oV}
def yP:sO X pos [] [] iE:=⟨_,uR,λF H C σ τ Q Q' χ R S h q=>q [] [] H C R (Tx.refl H) .nil h⟩
def Uc (hk:Ji X k wk)(hv:Ji X v wv)(hr:sO X pos ks vs w):sO X pos (some k::ks) (v::vs) (lg wk wv w):=by
 obtain⟨tk,p1,s1⟩:=hk
 obtain⟨tv,p2,s2⟩:=hv
 obtain⟨tr,p3,s3⟩:=hr
 refine⟨_,wC p1 p2 p3,λF H C σ τ Q Q' χ R S h q=>?_⟩
 refine s1 F H C σ τ _ _ χ R S h λx u H1 C1 R1 t1 rx h1=>?_
 refine s2 F H1 C1 σ τ _ _ χ R1 (S.tx t1) h1 λy u2 H2 C2 R2 t2 ry h2=>?_
 refine s3 F H2 C2 σ τ _ _ χ R2 (S.tx (t1.trans t2)) h2 λkvs ps H3 C3 R3 t3 pr h3=>?_
 obtain⟨kk,hk,h3⟩:=h3
 have ex:x=kV kk:=Nq hk rx
 subst ex
 exact q ((kk,y)::kvs) ((kk,u2)::ps) H3 C3 R3 ((t1.trans t2).trans t3) (.cons ⟨rfl,ry.tx t3⟩ pr) h3
def yS (h:sO X pos ks vs w)(hall:ks.all (·.isSome)=true:=by rfl)(hl:ks.length=vs.length:=by rfl)(h0:ks≠[]:=by simp)(h15:ks.length<=15:=by simp):Ji X (.Dict ks vs pos) (oj w):=by
 obtain⟨tr,p1,s1⟩:=h
 refine⟨_,uX p1 hall hl h0 h15,λF H C σ τ Q Q' χ R S h q=>?_⟩
 intro p hp
 have tn:Tx H (Yq H p (.dK [])):=Tx.new hp
 have R0:Rl X.K F (Yq H p (.dK [])) (up C p (.dic [])):=R.new hp ⟨[],Z3,.nil⟩
 refine s1 F _ _ σ τ _ _ χ R0 (S.tx tn) (h p (R.free hp)) λkvs ps H1 C1 R1 t1 pr h1=>?_
 obtain⟨hC,hlen,h1⟩:=h1
 obtain⟨ks0,hH,pr0⟩:=R1.dic hC
 cases pr0
 obtain⟨R3,t3⟩:=R1.putD hC (PR.merge pr .nil)
 exact⟨hH,kvs,rfl,by rw[pr.length];exact hlen,q _ _ _ _ R3 ((tn.trans t1).trans t3) Jb h1⟩
def lS (o e:WE):WE:=λτ C Q χ=>o τ C (λx C1=>(∃a kvs,x=.ref a/\C1 a=some (.dic kvs))/\e τ C1 (λy C2=>∃a b kvs more,x=.ref a/\y=.ref b/\a≠b/\C2 a=some (.dic kvs)/\C2 b=some (.dic more)/\kvs.length+more.length<=sizeLine/\Q .non (up C2 a (.dic (Yx kvs more)))) χ) χ
def zP (ho:Ji X o wo)(he:Ji X e we)(m:M1 X o "update" apos e cpos):Ji X (.Call (.Attribute o "update" apos) [e] [] cpos) (lS wo we):=by
 obtain⟨ta,p1,s1⟩:=ho
 obtain⟨tb,p2,s2⟩:=he
 refine⟨_,uW p1 p2 m,λF H C σ τ Q Q' χ R S h q=>?_⟩
 refine s1 F H C σ τ _ _ χ R S h λx v H1 C1 R1 t1 rx h1=>?_
 obtain⟨⟨l,kvs0,rfl,hC0⟩,h1⟩:=h1
 cases Z6 rx
 obtain⟨ks0,hH0,_⟩:=R1.dic hC0
 refine⟨l,rfl,.inl ⟨ks0,.inl hH0⟩,?_⟩
 refine s2 F H1 C1 σ τ _ _ χ R1 (S.tx t1) h1 λy u H2 C2 R2 t2 ry h2=>?_
 obtain⟨a,b,kvs,more,e1,rfl,hab,hCa,hCb,hz,h3⟩:=h2
 cases e1
 cases Z6 ry
 obtain⟨ka,hHa,pa⟩:=R2.dic hCa
 obtain⟨kb,hHb,pb⟩:=R2.dic hCb
 obtain⟨R3,t3⟩:=R2.putD hCa (PR.merge pb pa)
 exact⟨b,ka,kb,rfl,hab,hHa,hHb,by rw[pa.length,pb.length];exact hz,q _ _ _ _ R3 ((t1.trans t2).trans t3) Np h3⟩
end
end WL
namespace L2
open PySem PySem.Spec PyProof.Rows
def rP (_ j:Int):Prop:=0<j/\j.natAbs.log2<9000
section
variable {X:Cx}
def wK:Ll X (binaryOp .FloorDiv) (rI rP λi j=>.int (i/j)):=kE λi j _ _ _ _ _ hc q=>by
 have h1:(0:Int)<j:=hc.1
 exact floordiv_int (by omega) (by rw[Int.fdiv_eq_ediv_of_nonneg i (by omega)];exact q) (.inl (PyProof.noPylong_of_log2 hc.2))
end
end L2
namespace WL
open PySem PySem.Spec PyProof.Rows L2
def sU:W2
 | .int i,.int j,C,Q=>rP i j/\Q (.int (i/j)) C
 | _,_,_,_=>False
section
variable {X:Cx}
def ph:Ge X (binaryOp .FloorDiv) sU:=⟨_,wK,λF H C x y v u Q Q' R rx ry h q=>by
 cases v<;>cases u<;>first | exact False.elim h | skip
 case int.int i j=>cases Yi rx;cases Yi ry;exact⟨i,j,rfl,rfl,h.1,q _ _ H C R (Tx.refl H) Y7 h.2⟩⟩
end
section
variable {P:Program}{w:World}{K:W.Frag}{mg:Str->Option Value}{base h:Heap}{x q cn:Str}{st:Stmt}{ps:List Str}{pr:List Df}{n i j ar:Nat}{sp:Sp}{Cl:Addr}
def Fg (K:W.Frag)(x:Str)(st:Stmt):Prop:=∃f fd,W.nsIn K mainGlobals x=some (some (.ref f))/\ya K x x st f fd
def Fh (K:W.Frag)(Cl:Addr)(x q:Str)(st:Stmt):Prop:=∃f fd,xg K Cl x f/\ya K x q st f fd
def Ld (K:W.Frag)(mg:Str->Option Value)(x:Str)(st:Stmt)(ps:List Str):Prop:=∃f fd,ya K x x st f fd/\X6 K fd ps []/\mg x=some (.ref f)
def Lm (K:W.Frag)(Cl:Addr)(x q:Str)(st:Stmt)(ps:List Str):Prop:=∃f fd,xg K Cl x f/\ya K x q st f fd/\X6 K fd ps []
def Bq (x q:Str)(st:Stmt)(ps:List Str):Prop:=∀(kV doc pm:Value) (an:Option Addr) (cdv ct:Value) (us:List Value),us.length=ps.length->bindArgs (W.fnOf x q (Sh st) (Ww st) (Zm st) .none kV doc pm an cdv ct) ⟨us,[]⟩=pure (ps.zip us)
def Jc (X:K.In h)(G:h.Ns mainGlobals mg)(l:Fg K x st)(hb:Bq x x st ps):Ld K mg x st ps:=by
 obtain⟨f,fd,a,F⟩:=l
 exact⟨f,fd,F,F.binds hb,W.mg_of X G a⟩
def Ny (L:Ld K mg x st ps):Ca P w K mg base 0 x ps (spW K pr 0 i):=by
 obtain⟨f,fd,F,B,M⟩:=L
 exact sj F B M
def Nx (L:Ld K mg x st ps)(G:∀{f fd},ya K x x st f fd->Ud P w K mg base CX0 n f fd ps sp):Ca P w K mg base n x ps sp:=by
 obtain⟨f,fd,F,B,M⟩:=L
 exact sn F B M (G F)
def Im (l:Fh K Cl x q st)(hb:Bq x q st ps):Lm K Cl x q st ps:=by
 obtain⟨f,fd,a,F⟩:=l
 exact⟨f,fd,a,F,F.binds hb⟩
def pC (k:Kl K mg cn Cl)(L:Lm K Cl x q st ps):Cm P w K mg base 0 cn x ps (spW K pr 0 i):=by
 obtain⟨f,fd,M,F,B⟩:=L
 exact rJ k M jI B
def pB (k:Kl K mg cn Cl)(L:Lm K Cl x q st ps)(G:∀{f fd},ya K x q st f fd->Ud P w K mg base CX0 n f fd ps sp):Cm P w K mg base n cn x ps sp:=by
 obtain⟨f,fd,M,F,B⟩:=L
 exact rJ k M (G F) B
def fV (hj:pr[j]?=some ⟨ar,ar,jg cn i⟩)(k:Kl K mg cn Cl)(mk:W.makesIn K Cl=true)(kc:W.keepIn K (.ref Cl)=true)(L:Lm K Cl "__init__" q st ps):Cn P w K mg base 0 pr cn i j:=by
 obtain⟨f,fd,M,F,B⟩:=L
 exact sf hj k ⟨mk,M.at_,M.fn,kc⟩
def cP {X:Cx}{e:Expr}{wA:WA}{k:Nat}{Q:Calls}(hP:Ya pr k=Q)(h:Ji X e (Qq (Ya pr k) i wA)):Ji X e (Qq Q i wA):=hP▸h
def mP {X:Cx}{e:Expr}{wA:WA}{wo:WE}{k:Nat}{m:Str}{tb:List (Str×Nat)}{Q:Calls}(hP:Ya pr k=Q)(h:Ji X e (N9 (Ya pr k) tb m wo wA)):Ji X e (N9 Q tb m wo wA):=hP▸h
end
end WL
namespace L2
open PySem PySem.Spec PyProof.Rows
def rQ:typeLookup (.type "zip") "__len__"=pure none:=by rw[typeLookup_type];rw[builtinLookup_eq_fast];kernel_rfl
def ut:typeLookup (.type "zip") "__length_hint__"=pure none:=by rw[typeLookup_type];rw[builtinLookup_eq_fast];kernel_rfl
abbrev zZ (h:Heap)(S:Addr)(acc:Array Value):Prop:=∃c,h.get? S=some {cls:=.type "list",data:=.seq acc c}
section
variable {prog:Program}{w:World}{A:Around}{E:Value->Shared->Prop}{s:Shared}{z TI TO i1 i2 l1 l2:Addr}{xs ys:Array Value}
def vh {Q:Bool->Shared->Prop}(hT:s.TypeIs (.ref z) "zip")(h:Q true s):wpAny (model prog w) A (Builtin.List.listLengthHint (.ref z)) Q E s:=by
 unfold Builtin.List.listLengthHint
 refine XA (wpAny_specialOf hT rQ ?_)
 show wpAny _ A (specialOf (Value.ref z) (Str.ofString "__length_hint__")>>=_) _ _ _
 refine XA (wpAny_specialOf hT ut ?_)
 exact XB h
def Ng {S:Addr}{acc:Array Value}{f:Array Value->Array Value}{Q:Unit->Shared->Prop}(hS:zZ s.heap S acc)(h1:acc.size<=sizeLine)(h2:(f acc).size<=sizeLine+1)
  (h:∀h',zZ h' S (f acc)->Heap.SameBut S s.heap h'->Q () {s with heap:=h'}):wpAny (model prog w) A (updateSeq S f) Q E s:=by
 obtain⟨c,hS⟩:=hS
 refine wpAny_updateSeq hS rfl (h _ ⟨_,Heap.get?_update_self (Obj.mapSeq f) hS rfl⟩ ⟨Heap.size_update ..,λb hb=>Heap.get?_update_other _ _ (Ne.symm hb)⟩) h1 h2
abbrev Au (h:Heap)(as:List Addr)(ps:List (Value×Value)):Prop:=Paired (λa p=>IsPair h a p.1 p.2) as ps
def Au.at {h h':Heap}{as:List Addr}{ps:List (Value×Value)}(p:Au h as ps):(∀a∈as,∀o,h.get? a=some o->h'.get? a=some o)->Au h' as ps:=by
 induction p with
 | nil=>exact λ_=>.nil
 | cons r t ih=>exact λk=>.cons (k _ (List.mem_cons_self ..) _ r) (ih λa ha=>k a (XV _ ha))
def Au.app {h:Heap}{as:List Addr}{ps:List (Value×Value)}{a:Addr}{x y:Value}(p:Au h as ps)(q:IsPair h a x y):Au h (as++[a]) (ps++[(x,y)]):=by
 induction p with
 | nil=>exact .cons q .nil
 | cons r t ih=>exact .cons r ih
def Au.mem {h:Heap}{as:List Addr}{ps:List (Value×Value)}(p:Au h as ps){a:Addr}(q:a∈as):∃o,h.get? a=some o:=by
 induction p with
 | nil=>cases q
 | cons r t ih=>
  rcases List.mem_cons.mp q with rfl | q
  ·exact⟨_,r⟩
  ·exact ih q
def ZS.alive {i:Nat}{h:Heap}(st:ZS z TI TO i1 i2 l1 l2 xs ys i h):∀b∈[z,TO,i1,i2],∃o,h.get? b=some o:=by
 obtain⟨a,b,⟨u,v,c⟩,⟨⟨o1,d,_⟩,_⟩,⟨⟨o2,e,_⟩,_⟩⟩:=st
 intro x hx
 simp only[ZM,ZN,or_false] at hx
 rcases hx with rfl | rfl | rfl | rfl
 ·rcases a with a | ⟨T,b,a,_⟩
  ·exact⟨_,a⟩
  ·exact⟨_,a⟩
 ·exact⟨_,c⟩
 ·exact⟨_,d⟩
 ·exact⟨_,e⟩
def tG {S:Addr}(hh:A.handled=none)(Z:jW z TI TO i1 i2 [i1,l1] [i2,l2])(h1:l1≠i1)(h2:l2≠i2)(hn:xs.size=ys.size)(hS:S∉[z,TI,TO,i1,i2,l1,l2])(hsz:xs.size<=1000)
  {R:Result->Shared->Prop} (h₀:Heap) (hlt:∀b o,h₀.get? b=some o->b≠S/\b∉[z,TO,i1,i2])
  (hR:∀h' tk as,(∀b o,h₀.get? b=some o->h'.get? b=some o)->zZ h' S (as.map Value.ref).toArray->Au h' as (xs.toList.zip ys.toList)->as.Nodup->(∀a∈as,h₀.objs.size<=a/\a≠S)->R (.ok (.ret .none)) {s with heap:=h',toks:=tk}):
  ∀(m i:Nat) (h:Heap) (tk:Nat) (as:List Addr),xs.size-i=m->i<=xs.size->ZS z TI TO i1 i2 l1 l2 xs ys i h->(∀b o,h₀.get? b=some o->h.get? b=some o)->h₀.objs.size<=h.objs.size->zZ h S (as.map Value.ref).toArray->as.length=i->Au h as ((xs.toList.zip ys.toList).take i)->as.Nodup->
   (∀a∈as,h₀.objs.size<=a/\a≠S/\a∉[z,TO,i1,i2])->
   codeAny (model prog w) A (.builtin "list.extend.loop" ⟨[.ref S,.ref z,.none],[]⟩) R {s with heap:=h,toks:=tk}:=by
 intro m
 have hSw:S∉[z,TO,i1,i2]:=λhm=>hS (by simp only[ZM,ZN,or_false] at hm |-;rcases hm with h | h | h | h<;>simp[h])
 induction m with
 | zero=>
  intro i h tk as hm hi st keep hz ls hl pr nd ha
  have ei:i=xs.size:=by omega
  subst ei
  refine codeAny_builtin PySem.F.entry_extend_loop ?_
  show wpAny _ _ (pyNext (.ref z)>>=_) _ _ _
  refine XA (xz (A:=A.under _) hh Z h1 st λh' tk' kp=>?_)
  refine XB ?_
  obtain⟨c,ls⟩:=ls
  refine hR h' tk' as (λb o q=>kp b o (hlt b o q).2 (keep b o q)) ⟨c,kp _ _ hSw ls⟩ ?_ nd λa q=>⟨(ha a q).1,(ha a q).2.1⟩
  have e:(xs.toList.zip ys.toList).take xs.size=xs.toList.zip ys.toList:=List.take_of_length_le (by rw[List.length_zip];simp;omega)
  rw[e] at pr
  exact Au.at pr λa q o z=>kp a o (ha a q).2.2 z
 | succ m ih=>
  intro i h tk as hm hi st keep hz ls hl pr nd ha
  refine codeAny_builtin PySem.F.entry_extend_loop ?_
  show wpAny _ _ (pyNext (.ref z)>>=_) _ _ _
  refine XA (ye (A:=A.under _) hh Z h1 h2 hn (by omega) st λT x y h' tk' hx hy hT hp st' kp=>?_)
  obtain⟨c,ls⟩:=ls
  have lt:∀{b o},h.get? b=some o->b≠T:=λe=>XH (XG (XD e) hT)
  have hTS:T≠S:=(lt ls).symm
  show wpAny _ _ (updateSeq S (λa=>a.push (.ref T))>>=_) _ _ _
  have hsz2:(as.map Value.ref).toArray.size<=1000:=by simp[hl];omega
  have sl:(1000:Nat)<=sizeLine:=by decide
  refine XA (Ng ⟨c,kp _ _ hSw ls⟩ (XN hsz2 sl) (by rw[Array.size_push];exact Nat.succ_le_succ (XN hsz2 sl)) λh3 ls3 sb=>?_)
  refine XB ⟨plainId_quiet PySem.F.plain_extend_loop _,?_⟩
  have nS:∀b∈[z,TI,TO,i1,i2,l1,l2],b≠S:=λb hb e=>hS (e▸hb)
  have alive:∀b,(∃o,h'.get? b=some o)->∃o,h3.get? b=some o:=λb ⟨o,q⟩=>by
   by_cases e:b=S
   ·subst e;obtain⟨c3,q3⟩:=ls3;exact⟨_,q3⟩
   ·exact⟨o,sb.extBut _ _ e q⟩
  have aT:∀a∈as,a≠T:=λa q e=>by
   subst e
   obtain⟨o,hp'⟩:=Au.mem pr q
   exact lt hp' rfl
  refine ih (i+1) h3 _ (as++[T]) (by omega) (by omega) (st'.frame (λb hb o q=>sb.extBut _ _ (nS b hb) q) alive) (λb o q=>sb.extBut _ _ (hlt b o q).1 (kp b o (hlt b o q).2 (keep b o q))) ?_ ?_ ?_ ?_ ?_ ?_
  ·rw[sb.1]
   exact Nat.le_of_lt (Nat.lt_of_le_of_lt (XN hz hT) (XD hp))
  ·rw[XL]
   simpa using ls3
  ·simp[hl]
  ·have hx':xs.toList[i]?=some x:=by simpa using hx
   have hy':ys.toList[i]?=some y:=by simpa using hy
   have e:(xs.toList.zip ys.toList).take (i+1)=(xs.toList.zip ys.toList).take i++[(x,y)]:=by
    rw[YD,show(xs.toList.zip ys.toList)[i]?=some (x,y) from List.getElem?_zip_eq_some.mpr ⟨hx',hy'⟩]
    rfl
   rw[e]
   refine Au.app (Au.at pr λa q o z=>sb.extBut _ _ (ha a q).2.1 (kp a o (ha a q).2.2 z)) (sb.extBut _ _ hTS hp)
  ·exact List.nodup_append.mpr ⟨nd,List.nodup_cons.mpr ⟨List.not_mem_nil,List.nodup_nil⟩,λa q b r=>by rw[XQ.mp r];exact aT a q⟩
  ·intro a q
   rcases XS.mp q with q | q
   ·exact ha a q
   ·rw[XQ.mp q]
    refine⟨XN hz hT,hTS,λhb=>?_⟩
    obtain⟨o,ho⟩:=st.alive _ hb
    exact lt ho rfl
def vd {R:Result->Shared->Prop}{S:Addr}(hh:A.handled=none)(Z:jW z TI TO i1 i2 [i1,l1] [i2,l2])(h1:l1≠i1)(h2:l2≠i2)(hn:xs.size=ys.size)(hsz:xs.size<=1000)(hSn:S∉[z,TI,TO,i1,i2,l1,l2])
  (h₀:Heap) (hlt:∀b o,h₀.get? b=some o->b≠S/\b∉[z,TO,i1,i2]) (keep:∀b o,h₀.get? b=some o->s.heap.get? b=some o) (hz:h₀.objs.size<=s.heap.objs.size) (hz0:IsZip s.heap z TI TO .none) (st:ZS z TI TO i1 i2 l1 l2 xs ys 0 s.heap) (hS:s.heap.get? S=some {cls:=.type "list",data:=.seq #[]})
  (hR:∀h' tk as,(∀b o,h₀.get? b=some o->h'.get? b=some o)->zZ h' S (as.map Value.ref).toArray->Au h' as (xs.toList.zip ys.toList)->as.Nodup->(∀a∈as,h₀.objs.size<=a/\a≠S)->R (.ok (.ret .none)) {s with heap:=h',toks:=tk}):
  wpAny (model prog w) A.in1 (Builtin.«list.__init__» ⟨[.ref S,.ref z],[]⟩)
   (λfin s2=>match fin with | .done f=>R (.ok f) s2 | .again c2=>c2.quiet=true/\codeAny (model prog w) A c2 R s2) (λe s2=>R (.error e) s2) s:=by
 have hSz:S≠z:=λe=>hSn (e▸by simp)
 have nS:∀b∈[z,TI,TO,i1,i2,l1,l2],b≠S:=λb hb e=>hSn (e▸hb)
 show wpAny _ A.in1 (Builtin.List.listItems (.ref S)>>=λold=>Builtin.List.listUpdate (.ref S) (λ_=>#[])>>=λ_=>letGo old.toList.reverse>>=λ_=>Builtin.List.listExtendWith (.ref S) (.ref z) .none) _ _ s
 unfold Builtin.List.listItems
 refine XA ?_
 refine XA (wpAny_seqItems hS rfl (XB ?_))
 show wpAny _ A.in1 (updateSeq S (λ_=>#[])>>=λ_=>letGo (#[]:Array Value).toList.reverse>>=λ_=>Builtin.List.listExtendWith (.ref S) (.ref z) .none) _ _ s
 have zl:(0:Nat)<=sizeLine:=XO _
 refine XA (Ng (f:=λ_=>#[]) ⟨_,hS⟩ zl (XO _) λha la sa=>?_)
 have alive:∀{h h':Heap} {acc:Array Value},Heap.SameBut S h h'->zZ h' S acc->∀b,(∃o,h.get? b=some o)->∃o,h'.get? b=some o:=λsb ls b ⟨o,q⟩=>by
  by_cases e:b=S
  ·subst e;obtain⟨c3,q3⟩:=ls;exact⟨_,q3⟩
  ·exact⟨o,sb.extBut _ _ e q⟩
 have sta:ZS z TI TO i1 i2 l1 l2 xs ys 0 ha:=st.frame (λb hb o q=>sa.extBut _ _ (nS b hb) q) (alive sa la)
 have hza:IsZip ha z TI TO .none:=sa.extBut _ _ hSz.symm hz0
 refine XA (wpAny_letGo ?_)
 unfold Builtin.List.listExtendWith
 have hTy:({s with heap:=ha}:Shared).TypeIs (.ref z) "zip":=⟨_,hza,rfl⟩
 refine XA (wpAny_typeOf (T:="zip") hTy ?_)
 have h1':Builtin.List.listSameRef (.ref S) (.ref z)=false:=by simp[Builtin.List.listSameRef,hSz]
 have h2':(Value.type "zip"==Value.type "list")=false:=by decide
 have h3':(Value.type "zip"==Value.type "tuple")=false:=by decide
 simp only[h1',h2',h3',Bool.or_false,Bool.false_eq_true,if_false]
 refine XA (wpAny_pyIter_zip (s:={s with heap:=ha}) hza ?_)
 refine XA (wpAny_holding (vh hTy ?_))
 refine wpAny_ite_split (λ_=>?_) (λz=>absurd (by rfl) z)
 refine XA (wpAny_rule ?_)
 show wpAny _ _ ((updateSeq S (λx=>x.push .none)>>=λ_=>updateSeq S (λx=>x.pop))>>=_) _ _ _
 refine wpAny_bind (wpAny_bind (Ng (f:=λx=>x.push .none) la zl (by simp) λhb lb sb=>?_))
 refine Ng (f:=λx=>x.pop) lb (by simp;decide) (by simp) λhc lc sc=>?_
 have stc:ZS z TI TO i1 i2 l1 l2 xs ys 0 hc:=(sta.frame (λb hb' o q=>sb.extBut _ _ (nS b hb') q) (alive sb lb)).frame (λb hb' o q=>sc.extBut _ _ (nS b hb') q) (alive sc lc)
 refine XB ⟨plainId_quiet PySem.F.plain_extend_loop _,?_⟩
 refine tG (s:=s) hh Z h1 h2 hn hSn hsz h₀ hlt hR xs.size 0 hc s.toks [] rfl (XO _) stc (λb o q=>?_) ?_ ?_ rfl .nil List.nodup_nil (λa q=>nomatch q)
 ·have e:=(hlt b o q).1
  exact sc.extBut _ _ e (sb.extBut _ _ e (sa.extBut _ _ e (keep b o q)))
 ·rw[sc.1,sb.1,sa.1];exact hz
 ·simpa using lc
def Di {Q:Value->Shared->Prop}(hh:A.handled=none)(Z:jW z TI TO i1 i2 [i1,l1] [i2,l2])(h1:l1≠i1)(h2:l2≠i2)(hn:xs.size=ys.size)(hsz:xs.size<=1000)
  (h₀:Heap) (hlt:∀b o,h₀.get? b=some o->b∉[z,TO,i1,i2]) (keep:∀b o,h₀.get? b=some o->s.heap.get? b=some o) (hz:h₀.objs.size<=s.heap.objs.size) (hz0:IsZip s.heap z TI TO .none) (st:ZS z TI TO i1 i2 l1 l2 xs ys 0 s.heap)
  (hQ:∀h' tk as,(∀b o,h₀.get? b=some o->h'.get? b=some o)->zZ h' s.heap.objs.size (as.map Value.ref).toArray->Au h' as (xs.toList.zip ys.toList)->as.Nodup->(∀a∈as,h₀.objs.size<=a/\a≠s.heap.objs.size)->Q (.ref s.heap.objs.size) {s with heap:=h',toks:=tk}):
  wpAny (model prog w) A (call (.type "list") [.ref z]) Q E s:=by
 refine callType_codes (Q₁:=λob s1=>ob=.ref s.heap.objs.size/\s1={s with heap:=s.heap.push {cls:=.type "list",data:=.seq #[]}}) PySem.F.called_list (PySem.F.typeCall_list_1 _) PySem.F.entry_list_init (code_list_new _ ⟨rfl,rfl⟩) λob s1 h1=>?_
 obtain⟨rfl,rfl⟩:=h1
 have hS:(s.heap.push {cls:=.type "list",data:=.seq #[]}).get? s.heap.objs.size=some {cls:=.type "list",data:=.seq #[]}:=XF _ rfl
 have hps:∀b o,s.heap.get? b=some o->(s.heap.push {cls:=.type "list",data:=.seq #[]}).get? b=some o:=λb o q=>XC _ q
 have ne:∀{b o},s.heap.get? b=some o->b≠s.heap.objs.size:=λq=>XH (XD q)
 have hSn:s.heap.objs.size∉[z,TI,TO,i1,i2,l1,l2]:=λhm=>by
  simp only[ZM,ZN,or_false] at hm
  obtain⟨o1,e1⟩:=st.alive z (by simp)
  obtain⟨o3,e3⟩:=st.alive TO (by simp)
  obtain⟨o4,e4⟩:=st.alive i1 (by simp)
  obtain⟨o5,e5⟩:=st.alive i2 (by simp)
  obtain⟨o6,e6,_⟩:=st.s1.2
  obtain⟨o7,e7,_⟩:=st.s2.2
  rcases hm with e | e | e | e | e | e | e
  ·exact ne e1 e.symm
  ·exact ne st.its e.symm
  ·exact ne e3 e.symm
  ·exact ne e4 e.symm
  ·exact ne e5 e.symm
  ·exact ne e6 e.symm
  ·exact ne e7 e.symm
 refine⟨⟨_,hS,rfl⟩,PySem.F.args_list_init_2 _ _,vd (A:=A.in1) hh Z h1 h2 hn hsz hSn h₀ (λb o q=>⟨ne (keep b o q),hlt b o q⟩) (λb o q=>hps b o (keep b o q)) (by rw[Heap.size_push];omega) (hps _ _ hz0) (st.frame (λb _ o q=>hps b o q) λb ⟨o,q⟩=>⟨o,hps b o q⟩) hS λh' tk as k ls pr nd ha=>⟨rfl,?_⟩⟩
 exact hQ h' tk as k ls pr nd ha
end
section
variable {X:Cx}{pins:List (Addr×Obj)}{σ:St}{H:Hp}{s:Shared}
def Zs.laids {H':Hp}{h':Heap}{t':Nat}(I:Zs X pins σ H s)(k:∀b u,s.heap.get? b=some u->h'.get? b=some u)(old:∀a o,H a=some o->H' a=some o)(low:∀a,a<s.heap.objs.size->H' a=H a)
  (new:∀a o,s.heap.objs.size<=a->H' a=some o->Y6 X.prog X.w H' h' a o):Zs X pins σ H' {s with heap:=h',toks:=t'}:=by
 refine I.un ⟨λb o q _ _ _=>k b o q,λb o q _ _ _=>⟨o.slots,k b o q⟩,λb o q n _=>(low b (Heap.lt_size q)).trans n,λb o q _=>⟨o,k b o q⟩,λb xs q=>old b _ q,λb o u q=>old b _ q,λb ps q=>⟨#[],by rw[old b _ q];simp⟩⟩ λa o e=>?_
 by_cases c:s.heap.objs.size<=a
 ·exact new a o c e
 ·rw[low a (by omega)] at e
  exact(I.hok a o e).stay (λb u _ q=>k b u q) (λb q=>old b _ q) λb xs q=>old b _ q
def T3 (H:Hp):List Addr->List (V×V)->Hp
 | a::as,p::ps=>T3 (Yq H a (.tup [p.1,p.2])) as ps
 | _,_=>H
def f9 (K:W.Frag)(t:TA):TE:=λσ H Q=>t σ H λvs H1=>∃l1 l2 xs ys,vs=[.ref l1,.ref l2]/\Uu K H1 l1 xs/\Uu K H1 l2 ys/\xs.length=ys.length/\xs.length<=1000/\
 ∀(as:List Addr) (p:Addr),as.length=xs.length->as.Nodup->p∉as->H1 p=none->(∀a∈as,H1 a=none)->Q (.ref p) (Yq (T3 H1 as (xs.zip ys)) p (.lst (as.map V.ref)))
def Pa {a:Addr}:∀{as:List Addr} {ps:List (V×V)} {H:Hp},a∉as->T3 H as ps a=H a
 | [],_,_,_=>by unfold T3;rfl
 | _::_,[],_,_=>by unfold T3;rfl
 | b::as,p::ps,H,h=>by
  unfold T3
  rw[Pa λz=>h (XV _ z)]
  exact Zt λz=>h (by rw[z];exact List.mem_cons_self ..)
def yi {a:Addr}{o:HO}:∀{as:List Addr} {ps:List (V×V)} {H:Hp},as.Nodup->a∈as->as.length=ps.length->T3 H as ps a=some o->∃(i:Nat) (p:V×V),as[i]?=some a/\ps[i]?=some p/\o=.tup [p.1,p.2]
 | [],_,_,_,h,_,_=>by cases h
 | _::_,[],_,_,_,h,_=>by cases h
 | b::as,p::ps,H,nd,h,hl,e=>by
  unfold T3 at e
  obtain⟨n1,n2⟩:=List.nodup_cons.mp nd
  by_cases c:a∈as
  ·obtain⟨i,p',h1,h2,h3⟩:=yi n2 c (by simpa using hl) e
   exact⟨i+1,p',by simpa using h1,by simpa using h2,h3⟩
  ·obtain rfl:a=b:=(List.mem_cons.mp h).resolve_right c
   rw[Pa c,Z3] at e
   exact⟨0,p,rfl,rfl,(YH e).symm⟩
def uQ {h:Heap}{as:List Addr}{ps:List (Value×Value)}(q:Au h as ps):∀{i:Nat} {a:Addr},as[i]?=some a->∃p,ps[i]?=some p/\IsPair h a p.1 p.2:=by
 induction q with
 | nil=>intro i a e;simp at e
 | cons r t ih=>
  intro i a e
  cases i with
  | zero=>simp at e;subst e;exact⟨_,rfl,r⟩
  | succ i=>exact ih (by simpa using e)
def zk {a c:Expr}{ta:TA}{p pos p2 pos2:Pos}(hc:X.calm=true)(hg:Gl X "list")(hm:X.mg "list"=none)(hg2:Gl X "zip")(hm2:X.mg "zip"=none)(ha:PA X [a,c] ta)(hs:starEach [a,c] X.env=(false,eval a X.env)::starEach [c] X.env:=by rfl)(hp:(backTo pos2 (starEach [c] X.env)).any (·.1)=false:=by rfl)
  (hs2:starEach [.Call (.Name "zip" p2) [a,c] [] pos2] X.env=[(false,eval (.Call (.Name "zip" p2) [a,c] [] pos2) X.env)]:=by rfl) (hb:bootBuiltins "zip"=some (.type "zip"):=by decide+kernel) (hb2:bootBuiltins "list"=some (.type "list"):=by decide+kernel):
  PE X (.Call (.Name "list" p) [.Call (.Name "zip" p2) [a,c] [] pos2] [] pos) (f9 X.K ta):=by
 intro pins s σ H Q I h
 refine Call_ (Vi I hg hm hb2 (PyProof.Rows.callWith_type1 ?_ hs2 rfl))
 rw[hs2]
 show wpAny _ _ (spliced ((false,eval (.Call (.Name "zip" p2) [a,c] [] pos2) X.env)::backTo pos [])) _ _ s
 refine Calls.spliced_cons (Call_ (Vi I hg2 hm2 hb (PyProof.Rows.callWith_type1 (Jp (ha pos2 pins s σ H _ I h) λus s1 z=>?_) hs hp)))
 obtain⟨vs,H1,I1,r1,q1⟩:=z
 obtain⟨l1,l2,xs,ys,rfl,hq1,hq2,hlen,hsz,q⟩:=q1
 obtain⟨u,v,rfl,ru,rv⟩:=r1.two
 cases ru
 cases rv
 obtain⟨its1,rv1,p1,_⟩:=I1.tuple hq1
 obtain⟨its2,rv2,p2',_⟩:=I1.tuple hq2
 have lt1:l1<s1.heap.objs.size:=by obtain⟨_,e,_⟩:=p1;exact XD e
 have lt2:l2<s1.heap.objs.size:=by obtain⟨_,e,_⟩:=p2';exact XD e
 have n1:its1.toArray.size=xs.length:=by rw[XJ,<-rv1.length]
 have n2:its2.toArray.size=ys.length:=by rw[XJ,<-rv2.length]
 refine O0 false false p1 p2' λh2 N=>?_
 refine Calls.spliced_nil ?_
 generalize hk:s1.heap.objs.size=k at N lt1 lt2
 have Z:=Lw lt1 lt2
 have st:ZS (k+4) (k+2) (k+3) k (k+1) l1 l2 its1.toArray its2.toArray 0 h2:=by
  refine⟨.inl (hk▸N.zip),hk▸N.its,⟨_,_,hk▸N.own⟩,⟨⟨_,hk▸N.i1,rfl,rfl⟩,Heap.IsTuple.at (show s1.heap.IsTuple l1 its1.toArray from p1) λo q=>N.keep _ o q⟩,⟨⟨_,hk▸N.i2,rfl,rfl⟩,Heap.IsTuple.at (show s1.heap.IsTuple l2 its2.toArray from p2') λo q=>N.keep _ o q⟩⟩
 have old:∀b o,s1.heap.get? b=some o->b∉[k+4,k+3,k,k+1]:=λb o q hb=>by
  have:b<k:=hk▸XD q
  simp only[ZM,ZN,or_false] at hb
  rcases hb with e | e | e | e
  ·rw[e] at this;exact Nat.not_lt_of_le (Nat.le_add_right k 4) this
  ·rw[e] at this;exact Nat.not_lt_of_le (Nat.le_add_right k 3) this
  ·rw[e] at this;exact Nat.lt_irrefl k this
  ·rw[e] at this;exact Nat.not_lt_of_le (Nat.le_add_right k 1) this
 have hp3:s1.heap.objs.size<=h2.objs.size:=by
  have:=XD (hk▸N.zip:IsZip h2 (k+4) (k+2) (k+3) .none)
  rw[hk];exact XN (Nat.le_add_right _ _) (Nat.le_of_lt this)
 refine Di (s:={s1 with heap:=h2}) (I.ok.hd hc) Z (XH lt1) (XH (Nat.lt_succ_of_lt lt2)) (by omega) (by omega) s1.heap old N.keep hp3 (hk▸N.zip) st λh3 tk3 as keep ls pr nd hn=>?_
 obtain⟨c3,ls⟩:=ls
 have la:as.length=xs.length:=by
  have e:=pr.length
  rw[List.length_zip] at e
  simp at e n1 n2
  omega
 have pa:h2.objs.size∉as:=λz=>(hn _ z).2 rfl
 have fr:∀a,s1.heap.objs.size<=a->H1 a=none:=λa e=>I1.hok.fresh e
 have lz:as.length=(xs.zip ys).length:=by rw[List.length_zip];omega
 have sl:(1000:Nat)<=sizeLine:=by decide
 refine⟨.ref _,_,I1.laids (H':=Yq (T3 H1 as (xs.zip ys)) h2.objs.size (.lst (as.map V.ref))) (h':=h3) (t':=tk3) keep (λa o e=>?_) (λa e=>?_) (λa o e q2=>?_),rfl,q as _ la nd pa (fr _ hp3) λa e=>fr a (hn a e).1⟩
 ·have e1:a≠h2.objs.size:=Y4 e (fr _ hp3)
  rw[Zt e1,Pa λz=>?_]
  ·exact e
  ·rw[fr a (hn a z).1] at e;cases e
 ·have e1:a≠h2.objs.size:=λz=>Nat.lt_irrefl _ (XG (z▸e) hp3)
  rw[Zt e1,Pa λz=>Nat.lt_irrefl _ (XG e (hn a z).1)]
 ·by_cases c:a=h2.objs.size
  ·subst c
   rw[Z3] at q2
   cases q2
   refine⟨by rw[XI,la];omega,as.map Value.ref,c3,?_,ls⟩
   clear q h pr nd hn la lz pa ls
   induction as with
   | nil=>exact .nil
   | cons b as ih=>exact .cons rfl (ih)
  ·rw[Zt c] at q2
   by_cases m:a∈as
   ·obtain⟨i,pp,g1,g2,rfl⟩:=yi nd m lz q2
    obtain⟨pv,g3,g4⟩:=uQ pr g1
    obtain⟨x1,x2⟩:=List.getElem?_zip_eq_some.mp g2
    obtain⟨y1,y2⟩:=List.getElem?_zip_eq_some.mp g3
    obtain⟨u1,w1,w2⟩:=rv1.get x1
    obtain⟨u2,w3,w4⟩:=rv2.get x2
    have e1:u1=pv.1:=by rw[w1] at y1;exact YH y1
    have e2:u2=pv.2:=by rw[w3] at y2;exact YH y2
    subst e1 e2
    exact⟨by show 2<=sizeLine;decide,[pv.1,pv.2],.cons w2 (.cons w4 .nil),⟨_,g4,rfl,_,rfl⟩⟩
   ·rw[Pa m,fr a e] at q2;cases q2
end
end L2
namespace WL
open PySem PySem.Spec PyProof.Rows L2
def mU (xs ys:List T):List T:=(xs.zip ys).map λz=>.tup [z.1,z.2]
def eB (a:WA):WE:=λτ C Q χ=>a τ C (λvs C1=>∃xs ys:List T,vs=[.tup xs,.tup ys]/\xs.length=ys.length/\xs.length<=1000/\∀p,C1 p=none->Q (.ref p) (up C1 p (.lst (mU xs ys)))) χ
def wW {K:W.Frag}{F:Hp}{C:Hw}:∀{as:List Addr} {vs us:List V} {xs ys:List T} {H:Hp},as.Nodup->as.length=vs.length->vs.length=us.length->(∀a∈as,H a=none)->Rl K F H C->Reps K H vs xs->Reps K H us ys->
  Rl K F (T3 H as (vs.zip us)) C/\Tx H (T3 H as (vs.zip us))/\Reps K (T3 H as (vs.zip us)) (as.map V.ref) (mU xs ys)
 | [],vs,us,xs,ys,H,_,h1,h2,_,R,r1,r2=>by
  cases vs with
  | cons _ _=>cases h1
  | nil=>
   have e:xs=[]:=by have:=r1.length;exact List.length_eq_zero_iff.mp this.symm
   subst e
   unfold T3
   exact⟨R,Tx.refl H,Yv⟩
 | a::as,[],us,xs,ys,H,_,h1,_,_,_,_,_=>by cases h1
 | a::as,v::vs,[],xs,ys,H,_,_,h2,_,_,_,_=>by cases h2
 | a::as,v::vs,u::us,xs,ys,H,nd,h1,h2,hn,R,r1,r2=>by
  cases xs with
  | nil=>have:=r1.length;cases this
  | cons x xs=>
  cases ys with
  | nil=>have:=r2.length;cases this
  | cons y ys=>
  obtain⟨_,_,e1,a1,b1⟩:=Yn r1
  cases e1
  obtain⟨_,_,e2,a2,b2⟩:=Yn r2
  cases e2
  obtain⟨n1,n2⟩:=List.nodup_cons.mp nd
  have hp:=hn a (List.mem_cons_self ..)
  have tn:Tx H (Yq H a (.tup [v,u])):=Tx.new hp
  rw[List.zip_cons_cons]
  show Rl K F (T3 (Yq H a (.tup [v,u])) as (vs.zip us)) C/\Tx H (T3 (Yq H a (.tup [v,u])) as (vs.zip us))/\Reps K (T3 (Yq H a (.tup [v,u])) as (vs.zip us)) (V.ref a::as.map V.ref) (.tup [x,y]::mU xs ys)
  obtain⟨q1,q2,q3⟩:=wW (as:=as) (vs:=vs) (us:=us) (H:=Yq H a (.tup [v,u])) n2 (by simpa using h1) (by simpa using h2) (λb hb=>by
   rw[Zt λz=>n1 (by rw[<-z];exact hb)];exact hn b (XV _ hb)) (R.hid hp) (b1.tx tn) (b2.tx tn)
  refine⟨q1,tn.trans q2,Yh ?_ q3⟩
  exact(Jv (Uu.of Z3) (Yh (a1.tx tn) (Yh (a2.tx tn) Yv))).tx q2
section
variable {X:Cx}{a c:Expr}{wA:WA}{p pos p2 pos2:Pos}
def gc (hc:X.calm=true)(hg:Gl X "list")(hm:X.mg "list"=none)(hg2:Gl X "zip")(hm2:X.mg "zip"=none)(ha:zX X [a,c] wA)(hs:starEach [a,c] X.env=(false,eval a X.env)::starEach [c] X.env:=by rfl)(hp:(backTo pos2 (starEach [c] X.env)).any (·.1)=false:=by rfl)
  (hs2:starEach [.Call (.Name "zip" p2) [a,c] [] pos2] X.env=[(false,eval (.Call (.Name "zip" p2) [a,c] [] pos2) X.env)]:=by rfl):Ji X (.Call (.Name "list" p) [.Call (.Name "zip" p2) [a,c] [] pos2] [] pos) (eB wA):=by
 obtain⟨t,p1,s⟩:=ha
 refine⟨_,zk hc hg hm hg2 hm2 p1 hs hp hs2,λF H C σ τ Q Q' χ R S h q=>?_⟩
 refine s F H C σ τ _ _ χ R S h λxs vs H1 C1 R1 t1 rs h1=>?_
 obtain⟨zs,ts,rfl,hl,hz,h1⟩:=h1
 obtain⟨x1,r1,rfl,q1,rs⟩:=Yn rs
 obtain⟨x2,r2,rfl,q2,rs⟩:=Yn rs
 cases J8 rs
 obtain⟨a1,ys1,rfl,sq1,e1⟩:=Yp q1
 obtain⟨a2,ys2,rfl,sq2,e2⟩:=Yp q2
 have l1:=e1.length
 have l2:=e2.length
 refine⟨a1,a2,ys1,ys2,rfl,sq1,sq2,by omega,by omega,λas pp la nd np hpp hn=>?_⟩
 obtain⟨g1,g2,g3⟩:=wW nd la (by omega) hn R1 e1 e2
 have hp':T3 H1 as (ys1.zip ys2) pp=none:=by rw[Pa np];exact hpp
 have tn:Tx (T3 H1 as (ys1.zip ys2)) (Yq (T3 H1 as (ys1.zip ys2)) pp (.lst (as.map V.ref))):=Tx.new hp'
 exact q _ _ _ _ (g1.newL hp' g3) (t1.trans (g2.trans tn)) Jb (h1 pp (R1.free hpp))
end
end WL
namespace L2
open PySem PySem.Spec PyProof.Rows
section
variable {X:Cx}{pins:List (Addr×Obj)}{σ:St}{H:Hp}{s:Shared}{a:Addr}{kvs:List (Zz×V)}{A:Around}{E:Value->Shared->Prop}{k:Zz}{u r:Value}{y:V}
def vF {Q:Value->Shared->Prop}(I:Zs X pins σ H s)(e:H a=some (.dK kvs))(ry:Z8 (kV k) u)(rz:Z8 y r)(hsz:kvs.length<sizeLine)
  (h1:∀v w' s',V1 kvs k=some v->Zs X pins σ H s'->Z8 v w'->Q w' s') (h2:∀s',V1 kvs k=none->Zs X pins σ (Yq H a (.dK (Xu kvs k y))) s'->Q r s'):
  wpAny (model X.prog X.w) A (call (.builtin "dict.setdefault") [.ref a,u,r]) Q E s:=by
 obtain⟨z,hd,vs,rel,dd⟩:=Ah I.hok e
 have rv:=rel.val k
 refine call_meetsIn PySem.F.slot_dict_setdefault dd.typeIs PySem.F.entry_dict_setdefault (PySem.F.args_dict_setdefault_3 _ _ _) (kt_meets_setdefault (Yc X.prog X.w) a (Lg ry) hd r) ⟨vs,dd,by rw[<-rel.length];exact z,λv hv=>?_,λhv h' dd' hs=>?_⟩
 ·rw[hv] at rv
  cases l:V1 kvs k with
  | none=>rw[l] at rv;exact rv.elim
  | some x=>rw[l] at rv;exact h1 x v _ l (I.tok _) rv
 ·have hn:V1 kvs k=none:=by
   rw[hv] at rv
   cases l:V1 kvs k with
   | none=>rfl
   | some x=>rw[l] at rv;exact rv.elim
  have he:∃q,h'.get? a=some q:=let ⟨q,_,_,hq,_⟩:=dd';⟨q,hq⟩
  exact h2 _ hn (Mc (t':=s.toks+1) I (by rw[e];exact True.intro) hs he (M7 (XN (Up kvs k y) hsz) hd (KV.put rel k rz) dd'))
end
section
variable {X:Cx}{o e f:Expr}{apos cpos:Pos}{td ty tx:TE}
def ig (td ty tx:TE):TE:=λσ H Q=>td σ H λx H1=>∃a,x=.ref a/\kO H1 a/\ty σ H1 λy H2=>tx σ H2 λz H3=>∃kvs k,H3 a=some (.dK kvs)/\y=kV k/\kvs.length<sizeLine/\
 (∀v,V1 kvs k=some v->Q v H3)/\(V1 kvs k=none->Q z (Yq H3 a (.dK (Xu kvs k z))))
def qO (ho:PE X o td)(he:PE X e ty)(hf:PE X f tx)(m:M2 X o "setdefault" apos e f cpos):PE X (.Call (.Attribute o "setdefault" apos) [e,f] [] cpos) (ig td ty tx):=by
 intro pins s σ H Q I h
 refine wpAny_Call_method m.base m.few m.line PySem.F.plainAttrs_dict PySem.F.slot_dict_setdefault PySem.F.type_dict_setdefault (Jp (ho pins s σ H _ I h) λu s1 z=>?_)
 obtain⟨x,H1,I1,rx,a,ex,d,q1⟩:=z
 subst ex
 obtain rfl:u=Value.ref a:=rx
 obtain⟨t1,t2,_⟩:=zG I1 d
 refine⟨t1,t2,?_⟩
 rw[m.trees]
 refine Calls.callWith_builtin rfl (Calls.evalArgs_plain (Calls.spliced_cons (Jp (he pins s1 σ H1 _ I1 q1) λiv s2 z=>?_)))
 obtain⟨y,H2,I2,ry,q2⟩:=z
 refine Calls.spliced_cons (Jp (hf pins s2 σ H2 _ I2 q2) λfv s3 z=>?_)
 obtain⟨z,H3,I3,rz,kvs,k,ea,ey,hz,q3,q4⟩:=z
 refine Calls.spliced_nil ?_
 subst ey
 exact vF I3 ea ry rz hz (λv w' s4 l I4 rw'=>⟨v,H3,I4,rw',q3 v l⟩) λs4 l I4=>⟨z,_,I4,rz,q4 l⟩
end
end L2
namespace WL
open PySem PySem.Spec PyProof.Rows L2
section
variable {X:Cx}{o e f:Expr}{wo wi wd:WE}{apos cpos:Pos}
def hU (o i d:WE):WE:=λτ C Q χ=>o τ C (λx C1=>(∃a kvs,x=.ref a/\C1 a=some (.dic kvs))/\i τ C1 (λy C2=>d τ C2 (λz C3=>∃a kvs k,x=.ref a/\kT y=some k/\C3 a=some (.dic kvs)/\kvs.length<sizeLine/\
 (∀v,Yl kvs k=some v->Q v C3)/\(Yl kvs k=none->Q z (up C3 a (.dic (Y0 kvs k z))))) χ) χ) χ
def lY (ho:Ji X o wo)(he:Ji X e wi)(hf:Ji X f wd)(m:M2 X o "setdefault" apos e f cpos):Ji X (.Call (.Attribute o "setdefault" apos) [e,f] [] cpos) (hU wo wi wd):=by
 obtain⟨ta,p1,s1⟩:=ho
 obtain⟨tb,p2,s2⟩:=he
 obtain⟨tc,p3,s3⟩:=hf
 refine⟨_,qO p1 p2 p3 m,λF H C σ τ Q Q' χ R S h q=>?_⟩
 refine s1 F H C σ τ _ _ χ R S h λx v H1 C1 R1 t1 rx h1=>?_
 obtain⟨⟨l,kvs0,rfl,hC0⟩,h1⟩:=h1
 cases Z6 rx
 obtain⟨ks0,hH0,_⟩:=R1.dic hC0
 refine⟨l,rfl,.inl ⟨ks0,.inl hH0⟩,?_⟩
 refine s2 F H1 C1 σ τ _ _ χ R1 (S.tx t1) h1 λy u H2 C2 R2 t2 ry h2=>?_
 refine s3 F H2 C2 σ τ _ _ χ R2 (S.tx (t1.trans t2)) h2 λz w H3 C3 R3 t3 rz h3=>?_
 obtain⟨l',kvs,k,e',hk,hC,hz,h4,h5⟩:=h3
 cases e'
 obtain⟨ks,hH,pr⟩:=R3.dic hC
 have t:=(t1.trans t2).trans t3
 have ln:ks.length=kvs.length:=Paired.length pr
 refine⟨ks,k,hH,Nq hk (ry.tx t3),by omega,λv hv=>?_,λhv=>?_⟩
 ·cases hg:Yl kvs k with
  | none=>rw[(PR.get pr k).1 hg] at hv;cases hv
  | some w=>
   obtain⟨z',hz,rz'⟩:=(PR.get pr k).2 w hg
   rw[hz] at hv;cases hv
   exact q _ _ H3 C3 R3 t rz' (h4 w hg)
 ·have hn:Yl kvs k=none:=by
   cases hg:Yl kvs k with
   | none=>rfl
   | some w=>obtain⟨z',hz,_⟩:=(PR.get pr k).2 w hg;rw[hz] at hv;cases hv
  obtain⟨R',t'⟩:=R3.putD hC (PR.put pr (k:=k) rz)
  exact q _ _ _ _ R' (t.trans t') (rz.tx t') (h5 hn)
end
section
variable {X:Cx}{k i j:Nat}{pr:List Df}{cn:Str}{p pos:Pos}
def o0 (Cc:Cn X.prog X.w X.K X.mg X.base k pr cn i j)(hr:X5 k X.A)(hg:Gl X cn)
  (hdb:(cn==("__debug__":Str))=false:=by decide):Ji X (.Call (.Name cn p) [] [] pos) (Qq (Ya pr k) j Zq):=by
 obtain⟨⟨ar,hj⟩,Cl,f,hc,hm,M,h0 | ⟨k',fd,ps,rfl,F,hb⟩⟩:=Cc
 ·subst h0
  exact⟨λσ H Q=>False,λpins s σ H Q I h=>h.elim,λF H C σ τ Q Q' χ R S h q=>h.elim⟩
 ·refine⟨_,wH (dvs:=[]) M F hr hg hm hb .nil yw hdb,λF' H C σ τ Q Q' χ R S h q=>?_⟩
  show ∀x dx,H x=none->H dx=none->dx≠x->_
  intro x dx hx hdx hne
  obtain⟨d',e1,e2,h2⟩:=h
  rw[hj] at e1
  cases e1
  obtain⟨vs',ev,h2⟩:=h2
  have evs:[]=vs':=by
   have:ar-ar=0:=Nat.sub_self _
   rw[this,List.replicate_zero,YK] at ev
   exact(List.map_inj_right λa b z=>by cases z;rfl).mp ev
  subst evs
  have hCx:C x=none:=R.free hx
  have R3:Rl X.K F' (Yq H dx (.own x)) C:=R.hid hdx
  have hx3:Yq H dx (.own x) x=none:=by rw[Zt hne.symm];exact hx
  have R4:Rl X.K F' (Yq (Yq H dx (.own x)) x (.ins Cl dx [])) (up C x (.ins cn [])):=R3.new hx3 ⟨Cl,dx,[],hc,Z3,.nil⟩
  have t4:Tx H (Yq (Yq H dx (.own x)) x (.ins Cl dx [])):=(Tx.new hdx).trans (Tx.new hx3)
  refine⟨F',_,[.ref x],_,χ,R4,Yh Jb Yv,h2 x hCx,?_⟩
  intro y v H5 C5 R5 t5 ry h5
  obtain⟨rfl,h5⟩:=h5
  exact⟨Op ry,q _ _ _ _ R5 (t4.trans t5) Jb h5⟩
end
end WL
namespace HT
open PySem PySem.Spec PyProof.Rows
section
variable {prog:Program}{w:World}{A:Around}{E:Value->Shared->Prop}{s:Shared}
def getItem_tuple_all {t sl:Addr}{items:Array Value}{vl vu:Value}{lo hi:Option Int}{Q:Value->Shared->Prop}(ht:IsTup s.heap t items)(hs:s.heap.IsSliceOf sl vl vu .none)(pl:IsPart vl lo)(pu:IsPart vu hi)
  (h1:sIx items.size 0 lo=0) (h2:sIx items.size items.size hi=items.size) (h:Q (.ref t) s):wpAny (model prog w) A (getItem (.ref t) (.ref sl)) Q E s:=by
 obtain⟨os,hos,hcs,hds⟩:=id hs
 have hTs:s.TypeIs (.ref sl) "slice":=⟨os,hos,hcs⟩
 unfold getItem
 try with_reducible refine wpAny_holding ?_
 first | refine XA (XB ?_) | skip
 refine XA (wpAny_sequenceKey ht.typeIs (by decide) ?_)
 refine XA (wpAny_callSpecial?_slot (name:=Str.ofString "__getitem__") ht.typeIs PyProof.Rows.slot_tuple_getitem
  (wpAny_call_entry PyProof.Rows.slot_tuple_getitem ht.typeIs entry_tuple_getitem ?_ (args_tuple_getitem _ _)))
 show wpAny _ _ (Builtin.Tuple.tupleItemsOf (.ref t)>>=_) _ _ s
 refine XA (tupleItemsOf_ ht ?_)
 refine XA (wpAny_typeOf hTs ?_)
 rw[XY (by decide)]
 refine XA (Tf hs pl pu ?_)
 have hyes:(((sIx items.size 0 lo:Nat):Int)==0&&(1:Int)==1&&(sIx items.size items.size hi-sIx items.size 0 lo)==items.size)=true:=by
  rw[h1,h2];simp
 show wpAny _ _ (if (((sIx items.size 0 lo:Nat):Int)==0&&(1:Int)==1&&(sIx items.size items.size hi-sIx items.size 0 lo)==items.size)=true then _ else _) _ _ s
 rw[XY hyes]
 refine XA ?_
 unfold Builtin.Tuple.tupleIsExact
 first
  | refine XA (wpAny_typeOf ht.typeIs (XB ?_))
  | refine wpAny_typeOf ht.typeIs ?_
 rw[XY (by decide)]
 exact XA (wpAny_rule (XB ⟨_,rfl,XB h⟩))
end
end HT
namespace L2
open PySem PySem.Spec PyProof.Rows
section
variable {X:Cx}
def i4 (K:W.Frag):V->Option Int->Option Int->Hp->VK->Prop:=λx lo hi H Q=>∃a xs,x=.ref a/\Uu K H a xs/\HT.sIx xs.length 0 lo=0/\HT.sIx xs.length xs.length hi=xs.length/\Q (.ref a) H
def uA:uo X (i4 X.K):=by
 intro pins s σ H x v vl vu lo hi sl Q I rx hs pl pu h
 obtain⟨a,xs,rfl,hx,h1,h2,q⟩:=h
 cases rx
 obtain⟨its,r,ht,hz⟩:=I.tuple hx
 have hlen:its.toArray.size=xs.length:=by rw[XJ];exact r.length.symm
 refine⟨"tuple",_,PyProof.Rows.slot_tuple_getitem.lookup,ht.typeIs,?_⟩
 exact HT.getItem_tuple_all ht hs pl pu (by rw[hlen];exact h1) (by rw[hlen];exact h2) ⟨.ref a,H,I,rfl,q⟩
end
end L2
namespace WL
open PySem PySem.Spec PyProof.Rows L2
def nE:T->Option Int->Option Int->Hw->WK->Prop
 | .tup xs,lo,hi,C,Q=>Q (.tup (Fb xs lo hi)) C
 | _,_,_,_,_=>False
def iY (a:WE)(lo hi:Sw->Hw->(Option Int->Hw->Prop)->WX->Prop):WE:=λτ C Q χ=>a τ C (λx C1=>lo τ C1 (λl C2=>hi τ C2 (λh C3=>nE x l h C3 Q) χ) χ) χ
section
variable {X:Cx}{a:Expr}{wa:WE}{pos:Pos}
def lx:fh X nE:=⟨_,xU.or uA,λF H C x v lo hi Q Q' R rx h q=>by
 cases v with
 | tup xs=>
  obtain⟨a,ys,rfl,hq,r⟩:=Yp rx
  by_cases c:HT.sIx ys.length 0 lo=0/\HT.sIx ys.length ys.length hi=ys.length
  ·refine .inr ⟨a,ys,rfl,hq,c.1,c.2,q _ _ H C R (Tx.refl H) (Jv hq r) ?_⟩
   have e:Fb xs lo hi=xs:=by
    unfold Fb
    rw[<-r.length,c.1,c.2]
    simp[r.length]
   have h:Q' (.tup (Fb xs lo hi)) C:=h
   rw[e] at h
   exact h
  ·exact .inl ⟨a,ys,rfl,hq,c,λp hp=>q _ _ _ C (R.hid hp) (Tx.new hp) (Jv (Uu.of Z3) ((Md r lo hi).tx (Tx.new hp))) h⟩
 | _=>exact False.elim h⟩
def lW {lo hi:Option Expr}{wl wh:Sw->Hw->(Option Int->Hw->Prop)->WX->Prop}{p2:Pos}(ha:Ji X a wa)(hl:nz X lo wl)(hh:nz X hi wh):Ji X (.Subscript a (.Slice lo hi none p2) pos) (iY wa wl wh):=by
 obtain⟨r,h1,h2⟩:=lx (X:=X)
 obtain⟨ta,p1,s1⟩:=ha
 obtain⟨tl,p3,s3⟩:=hl
 obtain⟨th,p4,s4⟩:=hh
 refine⟨_,Bc h1 p1 p3 p4,λF H C σ τ Q Q' χ R S h q=>?_⟩
 refine s1 F H C σ τ _ _ χ R S h λx v H1 C1 R1 t1 rx h1=>?_
 refine s3 F H1 C1 σ τ _ _ χ R1 (S.tx t1) h1 λl H2 C2 R2 t2 h2'=>?_
 refine s4 F H2 C2 σ τ _ _ χ R2 (S.tx (t1.trans t2)) h2' λu H3 C3 R3 t3 h3=>?_
 exact h2 F H3 C3 x v l u Q Q' R3 ((rx.tx t2).tx t3) h3 (QE.at q ((t1.trans t2).trans t3))
end
end WL
namespace L2
open PySem PySem.Spec PyProof.Rows
def KV.at {κ:Type}[DecidableEq κ]{kvs:List (κ×V)}{vs:List (κ×Value)}(r:KV kvs vs):∀{i:Nat} {x:κ×V} {y:κ×Value},kvs[i]?=some x->vs[i]?=some y->x.1=y.1/\Z8 x.2 y.2:=by
 unfold KV at r
 induction r with
 | nil=>intro i x y h;cases h
 | cons h t ih=>
  intro i x y h1 h2
  cases i with
  | zero=>cases h1;cases h2;exact h
  | succ i=>exact ih h1 h2
def gC (o:Obj)(d:Addr)(ks:List (Zz×V)):It:=
 ⟨λi H=>H d=some (.frz o (.dK ks))/\i<ks.length,λi H x H'=>∃kv T,ks[i]?=some kv/\x=.ref T/\H T=none/\H'=Yq H T (.tup [kV kv.1,kv.2]),λi H=>H d=some (.frz o (.dK ks))/\i=ks.length⟩
def He:entryFor table "dict_itemiterator.__iter__"=some Builtin.«dict_keyiterator.__iter__»:=
 entryFor_alias (id':="dict_keyiterator.__iter__") (by kernel_rfl) rfl (by decide+kernel) (by kernel_rfl)
def A7 {P:Program}{w:World}{K:W.Frag}{elts:List Expr}{ek:Nat}{epos:Pos}{d it:Addr}{o:Obj}{es:Array DictEntry}{ep:Nat}{ks:List (Zz×V)}(hod:o.data=.dict es ep):
  Dq P w K (.Tuple elts ek epos) (gC o d ks) [it] it (λi h=>∃a b,IsItemIter h it d i ks.length ep a b) where
 mem:=by simp
 obj:=λi h st b hb=>by
  have e:b=it:=by simpa using hb
  subst e
  obtain⟨u,v,st⟩:=st
  exact⟨_,st,λv z=>by have z':Data.fields _=Data.cell v:=z;cases z'⟩
 keep:=λi h h' st k=>by
  obtain⟨u,v,st⟩:=st
  exact⟨u,v,k it (by simp) _ st⟩
 item:=by
  intro X hP hw hK hc i pins s σ H E I hf st hg
  subst hP hw hK
  obtain⟨hH,hi⟩:=hg
  obtain⟨ho,z,sm,vs,rel,o',es',ep',e',xd,dd,kk,pp,nn⟩:=(show Y6 X.prog X.w H s.heap d (.frz o (.dK ks)) from I.hok d _ hH)
  rw[ho] at e'
  cases e'
  rw[hod] at dd
  cases dd
  have hD:s.heap.DictAt (Yc X.prog X.w) d vs ep:=⟨o,es,ho,xd,hod,kk,pp,nn⟩
  have hl:ks.length=vs.length:=rel.length
  obtain⟨⟨k1,v1⟩,hx⟩:∃y,vs[i]?=some y:=⟨vs[i]'(by omega),by simp[show i<vs.length by omega]⟩
  have hk:ks[i]?=some ks[i]:=by simp[hi]
  obtain⟨r1,r2⟩:=rel.at hk hx
  obtain⟨f0,f1,f2,f3,f4,f5⟩:=hf it (by simp)
  obtain⟨a0,b0,st⟩:=st
  rw[hl] at st
  refine wpAny_pyNext_items_item st hD hx λkey h' hkey st' htup hsz kk1=>⟨_,rfl,wpAny_letOwnedTupleGo_items st' λh2 st2 sb2=>?_⟩
  have hTi:s.heap.objs.size≠it:=Nat.ne_of_gt (XD st)
  have k2:∀c o,c≠it->s.heap.get? c=some o->h2.get? c=some o:=λc o hb q=>sb2.extBut c o hb (kk1 c o hb q)
  have htup2:h2.get? s.heap.objs.size=some {cls:=.type "tuple",data:=.seq #[key,v1]}:=sb2.extBut _ _ hTi htup
  have hTn:H s.heap.objs.size=none:=I.hok.fresh (XE _)
  have hne:∀c,c<s.heap.objs.size->c≠s.heap.objs.size:=λc hb=>XH hb
  have tracked:∀c u,H c=some u->c≠s.heap.objs.size/\c≠it:=λc u q=>⟨hne c (I.hok.lt q),λz=>by rw[z,f0] at q;cases q⟩
  have I1:Zs X pins σ (Yq H s.heap.objs.size (.tup [kV ks[i].1,ks[i].2])) {s with heap:=h2,gens:=s.gens,drawn:=s.drawn,toks:=s.toks}:=by
   refine I.step (ch:=[it]) (λc hb=>?_) (λc o _ _ hc q _=>k2 c o (by simpa using hc) q) (λc o _ _ hc q _=>⟨o.slots,k2 c o (by simpa using hc) q⟩) (λc o hc q n=>by rw[Zt (hne c (Heap.lt_size q))];exact n) (λc o hc q=>⟨o,k2 c o (by simpa using hc) q⟩)
    (λc xs q=>by rw[Zt (tracked c _ q).1];exact q) (λc o u q=>by rw[Zt (tracked c _ q).1];exact q) (λc ps q=>⟨#[],by rw[Zt (tracked c _ q).1,q];simp⟩) (λm hm=>?_) (λc u q=>?_) I.bare
   ·obtain⟨f0,f1,f2,f3,f4,f5⟩:=hf c hb
    exact⟨f3,f1,f4,f5⟩
   ·obtain⟨o,es,ep,ho,r⟩:=hm
    exact⟨o,es,ep,k2 _ o (λz=>f1 z.symm) ho,r⟩
   ·by_cases hb:c=s.heap.objs.size
    ·subst hb
     rw[Z3] at q;cases q
     refine⟨XN (by decide:2<=1000) (Nat.le_of_lt (Gn (XE _))),[key,v1],.cons ?_ (.cons r2 .nil),⟨_,htup2,rfl,_,rfl⟩⟩
     rw[r1]
     exact lL hkey
    ·rw[Zt hb] at q
     refine(I.hok c u q).stay (λd v hd r=>k2 d v ?_ r) (λd r=>by rw[Zt (tracked d _ r).1];exact r) λd xs r=>by rw[Zt (tracked d _ r).1];exact r
     rcases hd with rfl | hd
     ·exact(tracked d _ q).2
     ·exact(tracked d _ hd).2
  rw[<-hl] at st2
  refine⟨.ref s.heap.objs.size,_,I1,rfl,⟨_,_,hk,rfl,hTn,rfl⟩,⟨_,_,st2⟩,λc hb=>?_⟩
  have e:c=it:=by simpa using hb
  subst e
  rw[Zt hTi.symm];exact f0
 done:=by
  intro X hP hw hK hc i pins s σ H E I hf st hg
  subst hP hw hK
  obtain⟨hH,hi⟩:=hg
  obtain⟨ho,z,sm,vs,rel,o',es',ep',e',xd,dd,kk,pp,nn⟩:=(show Y6 X.prog X.w H s.heap d (.frz o (.dK ks)) from I.hok d _ hH)
  rw[ho] at e'
  cases e'
  rw[hod] at dd
  cases dd
  have hD:s.heap.DictAt (Yc X.prog X.w) d vs ep:=⟨o,es,ho,xd,hod,kk,pp,nn⟩
  have hl:ks.length=vs.length:=rel.length
  obtain⟨f0,f1,f2,f3,f4,f5⟩:=hf it (by simp)
  obtain⟨a0,b0,st⟩:=st
  rw[hl] at st
  exact wpAny_pyNext_items_end (I.ok.hd hc) st hD (by simp;omega) λh' eb=>⟨rfl,I.turned (t':=s.toks) (λb o hb e=>eb b o hb e) f0 f1 f3 f4 f5⟩
 self:=λA i s Q E st h=>by
  obtain⟨a,b,st⟩:=st
  have hT:s.TypeIs (.ref it) "dict_itemiterator":=⟨_,st,rfl⟩
  refine wpAny_pyIter_slot hT PySem.F.slot_dict_itemiterator_iter (wpAny_call_entry PySem.F.slot_dict_itemiterator_iter hT He ?_ (PySem.F.args_dict_itemiterator_iter_1 _))
  show wpAny _ _ (ret (.ref it)) _ _ s
  exact XB ⟨_,rfl,"dict_itemiterator",_,hT,PySem.F.slot_dict_itemiterator_next.lookup,h⟩
section
variable {X:Cx}{e:Expr}{elts:List Expr}{ek:Nat}{epos apos cpos:Pos}
def iU (td:TE):TI:=λσ H R=>td σ H λx H1=>∃d ks,x=.ref d/\Rd H1 d (.dK ks)/\∀o,(∀o',H1 d=some (.frz o' (.dK ks))->o'=o)->R (gC o d ks) (Yq H1 d (.frz o (.dK ks)))
def wE {td:TE}(he:PE X e td)(hbase:attributeBase e "items" X.env (eval e X.env)=eval e X.env:=by rfl)(hline:(apos.endLine==cpos.line)=true:=by rfl):
  PI X (.Tuple elts ek epos) (.Call (.Attribute e "items" apos) [] [] cpos) (iU td):=by
 intro pins s σ H R I h
 refine wpAny_Call_method0_late hbase hline (Jp (he pins s σ H _ I h) λv s1 ⟨x,H1,I1,r1,q1⟩=>?_)
 obtain⟨d,ks,rfl,hr,q⟩:=q1
 cases r1
 obtain⟨t1,t2,hdS⟩:=zG I1 (.inl ⟨ks,hr⟩)
 refine⟨"dict","dict.items",PySem.F.plainAttrs_dict,PySem.F.slot_dict_items,PySem.F.type_dict_items,t1,t2,Calls.callWith_builtin rfl (PySem.evalArgs_none ?_)⟩
 obtain⟨z,sm,vs,rel,o,es,ep,ho,xd,dd,kk,pp,nn⟩:=Lj I1.hok hr
 have hD:s1.heap.DictAt (Yc X.prog X.w) d vs ep:=⟨o,es,ho,xd,dd,kk,pp,nn⟩
 have hl:ks.length=vs.length:=rel.length
 have huniq:∀o',H1 d=some (.frz o' (.dK ks))->o'=o:=λo' e=>by
  have:=(show Y6 X.prog X.w H1 s1.heap d (.frz o' (.dK ks)) from I1.hok d _ e).1
  rw[ho] at this;exact(YH this).symm
 have I2:Zs X pins σ (Yq H1 d (.frz o (.dK ks))) s1:=by
  rcases hr with hr | ⟨o',hr⟩
  ·exact I1.freeze hr ho
  ·have e:=huniq o' hr
   subst e
   have:Yq H1 d (.frz o' (.dK ks))=H1:=by
    funext b
    by_cases hb:b=d
    ·subst hb;rw[Z3,hr]
    ·rw[Zt hb]
   rw[this];exact I1
 refine call_meetsIn PySem.F.slot_dict_items t1 PySem.F.entry_dict_items (PySem.F.args_dict_items_1 _) (meets_dict_items (Yc X.prog X.w) d hdS) ⟨⟨vs,o,es,ep,ho,xd,dd,kk,pp,nn⟩,?_⟩
 have hV:Heap.IsItemsView (s1.heap.push {cls:=.type "dict_items",data:=.fields #[.ref d]}) s1.heap.objs.size d:=⟨_,XF _ rfl,rfl,rfl⟩
 have hD2:Heap.DictAt (Yc X.prog X.w) (s1.heap.push {cls:=.type "dict_items",data:=.fields #[.ref d]}) d vs ep:=hD.at' λo e=>XC _ e
 have I3:Zs X pins σ (Yq H1 d (.frz o (.dK ks))) {s1 with heap:=s1.heap.push {cls:=.type "dict_items",data:=.fields #[.ref d]}}:=I2.kept (t':=s1.toks) λb o e=>XC _ e
 refine wpAny_pyIter_items (s:={s1 with heap:=s1.heap.push {cls:=.type "dict_items",data:=.fields #[.ref d]}}) hV hD2 ?_
 refine⟨_,[_],_,_,_,rfl,I3.kept (t':=s1.toks) λb o e=>XC _ e,A7 dd,?_,λb hb=>?_,q o huniq⟩
 ·rw[hl]
  exact⟨_,_,XF _ rfl⟩
 ·have e:=XQ.mp hb
  subst e
  exact I3.fpOk (XE _) (I3.hok.fresh (XE _))
end
end L2
namespace WL
open PySem PySem.Spec PyProof.Rows L2
section
variable {X:Cx}{e:Expr}{we:WE}
def rI (kvs:List (Zz×T)):List T:=kvs.map λkv=>.tup [tK kv.1,kv.2]
def eg (e:WE):WI:=λτ C R χ=>e τ C (λx C1=>∃d kvs,x=.ref d/\uq C1 d kvs/\R (rI kvs) (λC2=>C2 d=some (.fdic kvs)) (up C1 d (.fdic kvs))) χ
def vc {K:W.Frag}{F H0:Hp}{d:Addr}{o:Obj}{ks:List (Zz×V)}{kvs:List (Zz×T)}(hH:H0 d=some (.frz o (.dK ks)))(pr:PR K H0 ks kvs):Mi K F H0 (gC o d ks) (rI kvs) (λC=>C d=some (.fdic kvs)):=λi H C R t ok=>by
 have h1:H d=some (.frz o (.dK ks)):=t d _ hH trivial
 have hl:ks.length=kvs.length:=PR.length pr
 have hr:(rI kvs).length=kvs.length:=by unfold rI;simp
 refine⟨λhi=>⟨⟨h1,by omega⟩,λx H' h=>?_⟩,λhi=>⟨h1,by omega⟩⟩
 obtain⟨kv,Tt,hk,rfl,hT,rfl⟩:=h
 obtain⟨q,h2,h3,h4⟩:=rm pr hk
 refine⟨.tup [tK kv.1,q.2],?_,R.hid hT,Tx.new hT,Jv (Uu.of Z3) (Yh ((qq _).tx (Tx.new hT)) (Yh ((h4.tx t).tx (Tx.new hT)) Yv))⟩
 unfold rI
 rw[XM,h2,h3];rfl
def Al {elts:List Expr}{ek:Nat}{epos apos cpos:Pos}(he:Ji X e we)(hbase:attributeBase e "items" X.env (eval e X.env)=eval e X.env:=by rfl)(hline:(apos.endLine==cpos.line)=true:=by rfl):
  ng X (.Tuple elts ek epos) (.Call (.Attribute e "items" apos) [] [] cpos) (eg we):=by
 obtain⟨t,p1,s⟩:=he
 refine⟨_,wE p1 hbase hline,λF H C σ τ R R' χ Rr S h q=>?_⟩
 refine s F H C σ τ _ _ χ Rr S h λx v H1 C1 R1 t1 rx h1=>?_
 obtain⟨d,kvs,rfl,hC,h1⟩:=h1
 cases Z6 rx
 obtain⟨ks,hH,pr⟩:=R1.rd hC
 refine⟨d,ks,rfl,hH,λo ho=>?_⟩
 obtain⟨R2,t2⟩:=R1.frz hC hH ho pr
 exact q _ _ _ _ _ R2 (t1.trans t2) (λF'=>vc Z3 (Nt t2 pr)) h1
end
end WL
namespace L2
open PySem PySem.Spec PyProof.Rows
def jP {X:Cx}(hc:X.calm=true):Vc X (.builtin "sum") (λxs H Q=>∃(p:Addr) (ns:List Int),xs=[.ref p]/\Xv X.K H p (ns.map V.int)/\Q (.int ns.sum) H):=by
 intro pins s σ H xs us Q I r h
 obtain⟨p,ns,rfl,hq,q⟩:=h
 obtain⟨u,rfl,ru⟩:=Qd r
 cases ru
 obtain⟨its,rv,pl,hz⟩:=I.list hq
 have hl:=pl.isList
 have hlt:p<s.heap.objs.size:=by obtain⟨_,e,_⟩:=hl;exact XD e
 have hlen:its.length=ns.length:=by have:=rv.length;simp at this;omega
 refine call_sum_walkG (wpAny_pyIter_list hl ?_)
 refine⟨s.heap.objs.size,[s.heap.objs.size,p],[s.heap.objs.size],its.toArray.size,_,_,λi=>ns.getD i 0,rfl,Walks.list (A:=X.A.in1) (I.ok.hd hc) _ p (XH hlt) its.toArray,
  ⟨⟨_,XF _ rfl,rfl,rfl⟩,hl.push _⟩,λb hb=>?_,λi v hP=>?_,λh' tk t' hk=>?_⟩
 ·have e:(s.heap.push {cls:=.type "list_iterator",data:=.fields #[.ref p,.int 0 0]}).objs.size=s.heap.objs.size+1:=Heap.size_push ..
  show b<(s.heap.push {cls:=.type "list_iterator",data:=.fields #[.ref p,.int 0 0]}).objs.size
  rw[e]
  rcases List.mem_cons.mp hb with z | z
  ·rw[z];exact Nat.lt_succ_self _
  ·rw[XQ.mp z];exact Nat.lt_succ_of_lt hlt
 ·have hv:its[i]?=some v:=by simpa using hP
  have hi:i<its.length:=(List.getElem?_eq_some_iff.mp hv).1
  have hb:(ns.map V.int)[i]?=some (.int ns[i]):=by simp[show i<ns.length by omega]
  obtain⟨u,hu,ru⟩:=rv.get hb
  rw[hv] at hu;cases hu
  obtain⟨t,rfl⟩:=ru
  exact⟨t,by simp[List.getD,show i<ns.length by omega]⟩
 ·have e:preSum (λi=>ns.getD i 0) its.toArray.size=ns.sum:=by rw[preSum_getD,XJ,hlen,List.take_length]
  rw[e]
  refine⟨.int ns.sum,H,?_,⟨_,rfl⟩,q⟩
  exact I.kept (t':=tk) λb o eb=>hk b o (λz=>by
   rw[XQ.mp z] at eb
   exact absurd (XD eb) (Nat.lt_irrefl _)) (XC _ eb)
end L2
namespace WL
open PySem PySem.Spec PyProof.Rows L2
def Ib {K:W.Frag}{H:Hp}:∀{ns:List Int} {ys:List V},Reps K H ys (ns.map T.int)->ys=ns.map V.int
 | [],ys,h=>by cases J8 h;rfl
 | n::ns,ys,h=>by
  have hl:=h.length
  match ys,hl with
  | y::ys,_=>
   obtain⟨y',e,r⟩:=h.get (i:=0) rfl
   cases e
   cases Yi r
   have:=Ib (ns:=ns) (h.drop 1)
   have e2:ys=ns.map V.int:=this
   rw[e2];rfl
def kg:List T->Hw->WK->Prop:=λvs C Q=>∃(a:Addr) (ns:List Int),vs=[.ref a]/\C a=some (.lst (ns.map T.int))/\Q (.int ns.sum) C
def sr:bootBuiltins "sum"=some (.builtin "sum"):=by decide+kernel
section
variable {X:Cx}
def oJ (hc:X.calm=true):Od X (.builtin "sum") kg:=⟨_,jP hc,λF H C xs vs Q Q' R rs h q=>by
 obtain⟨a,ns,rfl,hx,h⟩:=h
 obtain⟨x,rfl,rx⟩:=Wi rs
 cases Z6 rx
 obtain⟨ys,hy,r⟩:=R.lst hx
 cases Ib r
 exact⟨a,ns,rfl,Xv.of hy,q _ _ H C R (Tx.refl H) Y7 h⟩⟩
end
end WL
namespace K23
open PySem PySem.Spec PyProof.Rows L2 WL
def top (i:Nat):Stmt:=PySem.Challenge.pw_idlegraph_k23_whole_no_kind_too_narrow.main.body.getD i (.Pass ⟨0,0,0,0⟩)
structure Txt (w:World)(K:W.Frag)(mg:Str->Option Value):Prop where
 zbn:mg "any"=none
 zap:mg "dict"=none
 zbl:mg "int"=none
 zau:mg "isinstance"=none
 zak:mg "len"=none
 zat:mg "list"=none
 zbm:mg "max"=none
 za0:mg "range"=none
 zaq:mg "reversed"=none
 zbh:mg "sorted"=none
 zbk:mg "sum"=none
 zam:mg "tuple"=none
 zas:mg "zip"=none
 zai:KF K "forms" "Slots"
 zaf:KF K "leads" "Slots"
structure Cs (Pg:Program)(w:World)(K:W.Frag)(mg:Str->Option Value)(base:Heap)(n:Nat)(pr:List Df):Prop where
 zav:Ca Pg w K mg base n "scopes" ["term"] (spW K pr n 0)
 za5:Ca Pg w K mg base n "let_scopes" ["pairs","body"] (spW K pr n 1)
 za3:Ca Pg w K mg base n "rows_scopes" ["body","steps"] (spW K pr n 2)
 zbj:Ca Pg w K mg base n "free" ["term"] (spW K pr n 3)
 zar:Ca Pg w K mg base n "gather_free" ["term","bound","found"] (spW K pr n 4)
 zaz:Ca Pg w K mg base n "paper" ["term"] (spW K pr n 12)
 zbf:Ca Pg w K mg base n "kind_of" ["term"] (spW K pr n 13)
 zbg:Ca Pg w K mg base n "rows_of" ["slots","term"] (spW K pr n 14)
 zax:Ca Pg w K mg base n "places_within" ["slots","term","bound","slot"] (spW K pr n 15)
 za7:Ca Pg w K mg base n "part_slots" ["slots","term","slot"] (spW K pr n 16)
 za9:Ca Pg w K mg base n "does_slots" ["slots","op","slot"] (spW K pr n 17)
 za4:Ca Pg w K mg base n "shape_slots" ["slots","shape","slot"] (spW K pr n 18)
 za1:Ca Pg w K mg base n "choose_slots" ["slots","shape","slot"] (spW K pr n 19)
 za8:Ca Pg w K mg base n "told_kinds" ["slots","rows"] (spW K pr n 20)
 za6:Ca Pg w K mg base n "make_ready" ["slots","slot","ready","opened"] (spW K pr n 21)
 zba:Ca Pg w K mg base n "_law_deal" ["_law_cells","_law_mixed"] (spW K pr n 22)
 zaa:Ca Pg w K mg base n "_law_draw" ["_law_deal_here","_law_many"] (spW K pr n 23)
 zal:Ca Pg w K mg base n "_law_name" ["_law_deal_here"] (spW K pr n 24)
 zag:Ca Pg w K mg base n "_law_kind" ["_law_deal_here","_law_fuel"] (spW K pr n 25)
 zbb:Ca Pg w K mg base n "_law_leaf" ["_law_deal_here","_law_want","_law_names"] (spW K pr n 26)
 zaj:Ca Pg w K mg base n "_law_two" ["_law_deal_here","_law_both","_law_names","_law_fuel"] (spW K pr n 27)
 zbe:Ca Pg w K mg base n "_law_own" ["_law_deal_here","_law_want","_law_names","_law_fuel"] (spW K pr n 28)
 zbd:Ca Pg w K mg base n "_law_let" ["_law_deal_here","_law_want","_law_names","_law_fuel"] (spW K pr n 29)
 zbc:Ca Pg w K mg base n "_law_when" ["_law_deal_here","_law_want","_law_names","_law_fuel"] (spW K pr n 30)
 za2:Ca Pg w K mg base n "_law_choose" ["_law_deal_here","_law_way","_law_want","_law_names","_law_fuel"] (spW K pr n 31)
 zae:Ca Pg w K mg base n "_law_term" ["_law_deal_here","_law_want","_law_names","_law_fuel"] (spW K pr n 32)
 zao:Ca Pg w K mg base n "_law_comes_of" ["_law_told","_law_own_here","_law_instead"] (spW K pr n 33)
 zan:Ca Pg w K mg base n "_law_right" ["_law_term_here","_law_own_here"] (spW K pr n 34)
 zbp:Ca Pg w K mg base n "law" ["_law_script"] (spW K pr n 35)
 zbo:Cm Pg w K mg base n "Slots" "__init__" ["self"] (spW K pr n 5)
 zac:Cm Pg w K mg base n "Slots" "unknown" ["self"] (spW K pr n 6)
 zab:Cm Pg w K mg base n "Slots" "known" ["self","form"] (spW K pr n 7)
 zah:Cm Pg w K mg base n "Slots" "shared" ["self","slot"] (spW K pr n 8)
 zay:Cm Pg w K mg base n "Slots" "form_of" ["self","slot"] (spW K pr n 9)
 zad:Cm Pg w K mg base n "Slots" "make_alike" ["self","one","other"] (spW K pr n 10)
 zaw:Cm Pg w K mg base n "Slots" "join_two" ["self","left","right"] (spW K pr n 11)
 zbi:Cn Pg w K mg base n pr "Slots" 5 36
def SX (j:Nat)(st:Stmt)(N:List Str)(q:Str)(Wx:Calls->WS):Prop:=∀{Pg:Program} {w:World} {K:W.Frag} {mg:Str->Option Value} {base:Heap} {n:Nat} {pr:List Df} {P:Calls} {f:Addr} {cdv:Value} {A:Around} {outer:List Env} {s:Shared} {H:Hp} {E:XK},Ya pr n=P->Txt w K mg->Cs Pg w K mg base n pr->
 X5 n (A.deeper (envOfC q (Zm st) s.heap.objs.size f cdv))->ub (Am CX0 Pg w K mg base N q (Zm st) f cdv A outer s H E).nox ((Ww st).drop j) (Wx P)
local macro_rules | `(tactic| walk_at "sc") => `(tactic| exact ⟨rfl, rfl, rfl, by decide +kernel, rfl, by decide +kernel, by decide +kernel⟩)
abbrev Mr:Stmt:=top 5
def Gp:Z1 ["term","sort"] ["term"] (Zm Mr):=by walk_at "sc"
def Hm:{W//SX 0 Mr ["term","sort"] "scopes" W}:=⟨_,λhP T S hr=>by
  have nd:=Gp.nd
  have hu:=Yg hr
  exact(Zd (Zk (i:=1) nd (Zw (Zb 0) Zf))
   (Zd (Z5 (Zn (Yw hu) (Zb 1) Zj) (Zh (Zo (Z0 (Za (Zi (Za (Zi Zc) (Za (Zw (Zb 0) Zf) Zc))) (Za (Zi (Za (Zi Zc) (Za (Zw (Zb 0) Zf) Zc))) Zc))))) Zu)
   (Zd (Z5 (Ma (Qr (Zn (Yw hu) (Zb 1) Zj) (U6 (Zn (Yw hu) (Zb 1) Zj)))) (Zh (Zo (Z0 (Za (Zi (Za (Zi Zc) (Za (Zw (Zb 0) Zf) Zc))) (Za (Zi (Za (Zi Zc) (Za (Zw (Zb 0) Zf) Zc))) Zc))))) Zu)
   (Zd (Z5 (Zn (Yw hu) (Zb 1) Zj) (Zh (Zo (Z0 (Za (Zi (Za (Zi (Za (Zw (Zb 0) Zf) Zc)) (Za (Zw (Zb 0) Zf) Zc))) Zc)))) Zu)
   (Zd (Z5 (Zn (Yw hu) (Zb 1) Zj) (Zh (Zo (cP hP (Zp S.za5 hr (by rfl) (Za (Zw (Zb 0) Zf) (Za (Zw (Zb 0) Zf) Zc)))))) Zu)
   (Zd (Z5 (Zn (Yw hu) (Zb 1) Zj) (Zh (Zo (Si (cN:=["part"]) (cap:=[none]) (cl:=[]) (js:=[0]) (g:=(Xc 0)) ⟨rfl,(λ_=>Kh rfl (by decide+kernel) (by decide+kernel) rfl (by decide)),(Wl (Zw (Zb 0) Zf)),(λ_ _ _=>Y8 (i:=0) (show(["part"]:List Str).Nodup by decide+kernel) rfl (Or.inl rfl)),Z9,Jd,Y2,by decide+kernel,λ_ _ _=>X0,λ_ _ _=>(Zi (Za (Zi Zc) (Za (Zb 0) Zc))),λ_=>rfl⟩))) Zu)
   (Zd (Z5 (Zn (Yw hu) (Zb 1) Zj) (Zh (Zo (Ys Jo (Z0 (Za (Zi (Za (Zi Zc) (Za (Zw (Zb 0) Zf) Zc))) Zc)) (Si (cN:=["shape","names","body"]) (cap:=[none,none,none]) (cl:=[]) (js:=([0]++([1]++([2]++[])))) (g:=(B0 _ 3 (Tl (Xc 0) (Tl (Xc 1) (Tl (Xc 2) Ab))))) ⟨rfl,(λ_=>Kh rfl (by decide+kernel) (by decide+kernel) rfl (by decide)),(Wl (Zw (Zb 0) Zf)),(λ_ _ _=>Ig (n:=3) rfl (Xh (Y8 (i:=0) (show(["shape","names","body"]:List Str).Nodup by decide+kernel) rfl (Or.inl rfl)) (Xh (Y8 (i:=1) (show(["shape","names","body"]:List Str).Nodup by decide+kernel) rfl (Or.inl rfl)) (Xh (Y8 (i:=2) (show(["shape","names","body"]:List Str).Nodup by decide+kernel) rfl (Or.inl rfl)) Nu)))),(E4 (Jy Z9 (Jy Z9 (Jy Z9 Wk)))),(E5 (Vs Jd Z9 (Vs Jd Z9 (Vs Jd Z9 E6 Wk) (Jy Z9 Wk)) (Jy Z9 (Jy Z9 Wk)))),(Kw (Wv Y2 (Wv Y2 (Wv Y2 Kx))) (Yd (Yd (Yd V9)))),by decide+kernel,λ_ _ _=>X0,λ_ _ _=>(Zi (Za (Zb 1) (Za (Zb 2) Zc))),λ_=>rfl⟩)))) Zu)
   (Zd (Z5 (Zn (Yw hu) (Zb 1) Zj) (Zh (Zo (cP hP (Zp S.za3 hr (by rfl) (Za (Zw (Zb 0) Zf) (Za (Zw (Zb 0) Zf) Zc)))))) Zu)
   (Zh (Zo (Z0 Zc)))))))))))⟩
abbrev U0:Stmt:=top 6
def Pn:Z1 ["pairs","body","names"] ["pairs","body"] (Zm U0):=by walk_at "sc"
def Sr:{W//SX 0 U0 ["pairs","body","names"] "let_scopes" W}:=⟨_,λhP T S hr=>by
  have nd:=Pn.nd
  exact(Zd (Zk (i:=2) nd (Ga Mf (by rfl) T.zam Tq (Za (Si (cN:=["name","part"]) (cap:=[none,none]) (cl:=[]) (js:=([0]++([1]++[]))) (g:=(B0 _ 2 (Tl (Xc 0) (Tl (Xc 1) Ab)))) ⟨rfl,(λ_=>Kh rfl (by decide+kernel) (by decide+kernel) rfl (by decide)),(Wl (Zb 0)),(λ_ _ _=>Ig (n:=2) rfl (Xh (Y8 (i:=0) (show(["name","part"]:List Str).Nodup by decide+kernel) rfl (Or.inl rfl)) (Xh (Y8 (i:=1) (show(["name","part"]:List Str).Nodup by decide+kernel) rfl (Or.inl rfl)) Nu))),(E4 (Jy Z9 (Jy Z9 Wk))),(E5 (Vs Jd Z9 (Vs Jd Z9 E6 Wk) (Jy Z9 Wk))),(Kw (Wv Y2 (Wv Y2 Kx)) (Yd (Yd V9))),by decide+kernel,λ_ _ _=>X0,λ_ _ _=>(Zb 0),λ_=>rfl⟩) Zc)))
   (Zh (Zo (Ys Jo (Si (cN:=["name","part","names"]) (cap:=[none,none,some 2]) (cl:=(Xf _ _ [])) (js:=([0]++([1]++[]))) (g:=(B0 _ 2 (Tl (Xc 0) (Tl (Xc 1) Ab)))) ⟨rfl,(λok=>Ut ok rfl (by decide+kernel) (by decide+kernel) rfl rfl rfl),(Wl (Zb 0)),(λ_ _ _=>Ig (n:=2) rfl (Xh (Y8 (i:=0) (show(["name","part","names"]:List Str).Nodup by decide+kernel) rfl (Or.inl rfl)) (Xh (Y8 (i:=1) (show(["name","part","names"]:List Str).Nodup by decide+kernel) rfl (Or.inl rfl)) Nu))),(E4 (Jy Z9 (Jy Z9 Wk))),(E5 (Vs Jd Z9 (Vs Jd Z9 E6 Wk) (Jy Z9 Wk))),(Kw (Wv Y2 (Wv Y2 Kx)) (Yd (Yd V9))),by decide+kernel,λ_ _ _=>X0,λ_ _ _=>(Zi (Za (Zb 2) (Za (Zb 1) Zc))),λ_=>rfl⟩) (Z0 (Za (Zi (Za (Zb 2) (Za (Zb 1) Zc))) Zc))))))⟩
abbrev V4:Stmt:=top 7
def Ky:Z1 ["body","steps","bound","behind","step"] ["body","steps"] (Zm V4):=by walk_at "sc"
def Px:{W//SX 0 V4 ["body","steps","bound","behind","step"] "rows_scopes" W}:=⟨_,λhP T S hr=>by
  exact vD⟩
abbrev F9:Stmt:=top 8
def yk:Z1 ["term","found"] ["term"] (Zm F9):=by walk_at "sc"
def yc:{W//SX 0 F9 ["term","found"] "free" W}:=⟨_,λhP T S hr=>by
  have nd:=yk.nd
  exact(Zd (Zk (i:=1) nd Ur)
   (Zd (Yo (cP hP (Zp S.zar hr (by rfl) (Za (Zb 0) (Za (Zi Zc) (Za (Zb 1) Zc))))))
   (Zh (Zo (Ox (sD rfl) (by rfl) T.zbh jT (Za (Zb 1) Zc))))))⟩
abbrev V5:Stmt:=top 9
def Qg:Z1 ["term","bound","found","names","part"] ["term","bound","found"] (Zm V5):=by walk_at "sc"
def U8:{W//SX 0 V5 ["term","bound","found","names","part"] "gather_free" W}:=⟨_,λhP T S hr=>by
  have nd:=Qg.nd
  have hu:=Yg hr
  exact(Zd (Z5 (Ma (Hf (Zn (Yw hu) (Zw (Zb 0) Zf) Zj) (Kf (Zn (t9 hu) (Zw (Zb 0) Zf) (Zb 1) (by rfl))))) (Zh (Xe De (X1 hu (Zb 2) (Zw (Zb 0) Zf)))) Zu)
   (Zh (Sg PassesOwn.never rfl (Wl (cP hP (Zp S.zav hr (by rfl) (Za (Zb 0) Zc)))) (Ou (n:=2) rfl (J2 (Y9 (i:=3) nd) (J2 (Y9 (i:=4) nd) Ov)) (Yd (Yd V9)))
   (Zh (Yo (cP hP (Zp S.zar hr (by rfl) (Za (Zb 4) (Za (Ys Jo (Zb 1) (Zb 3)) (Za (Zb 2) Zc))))))))))⟩
abbrev Xx:Stmt:=Se (top 11) 0
def Nn:Z1 ["self"] ["self"] (Zm Xx):=by walk_at "sc"
def Ws:{W//SX 0 Xx ["self"] "Slots.__init__" W}:=⟨_,λhP T S hr=>by
  exact(Zd (vC (Jx T.zai Xo) (Zb 0) (Z0 Zc))
   (Zh (vC (Jx T.zaf Xo) (Zb 0) (Z0 Zc))))⟩
abbrev Wd:Stmt:=Se (top 11) 1
def Mt:Z1 ["self"] ["self"] (Zm Wd):=by walk_at "sc"
def Vm:{W//SX 0 Wd ["self"] "Slots.unknown" W}:=⟨_,λhP T S hr=>by
  exact(Zh (Zo (mP hP (Yy (pl:=_) (Z4 S.zab Yb) hr (Zb 0) (Za yQ Zc)))))⟩
abbrev V6:Stmt:=Se (top 11) 2
def Qh:Z1 ["self","form","slot"] ["self","form"] (Zm V6):=by walk_at "sc"
def Ta:{W//SX 0 V6 ["self","form","slot"] "Slots.known" W}:=⟨_,λhP T S hr=>by
  have nd:=Qh.nd
  exact(Zd (Zk (i:=2) nd (Ox Qt (by rfl) T.zak PySem.boot_len (Za (To (Jx T.zai Xo) (Zb 0)) Zc)))
   (Zd (Yo (Hh XZ YB YA Js W6 (To (Jx T.zai Xo) (Zb 0)) (Za (Zb 1) Zc)))
   (Zd (Yo (Hh XZ YB YA Js W6 (To (Jx T.zaf Xo) (Zb 0)) (Za (Zb 2) Zc)))
   (Zh (Zo (Zb 2))))))⟩
abbrev Vg:Stmt:=Se (top 11) 3
def Sz:Z1 ["self","slot"] ["self","slot"] (Zm Vg):=by walk_at "sc"
def Uh:{W//SX 0 Vg ["self","slot"] "Slots.shared" W}:=⟨_,λhP T S hr=>by
  have nd:=Sz.nd
  have hu:=Yg hr
  exact(Zd (Qs PassesOwn.never (Zn (Ih hu) (Zw (To (Jx T.zaf Xo) (Zb 0)) (Zb 1)) (Zb 1))
   (Zd (Xe (Zw (To (Jx T.zaf Xo) (Zb 0)) (Zw (To (Jx T.zaf Xo) (Zb 0)) (Zb 1))) (zO (To (Jx T.zaf Xo) (Zb 0)) (Zb 1)))
   (Zh (Zk (i:=1) nd (Zw (To (Jx T.zaf Xo) (Zb 0)) (Zb 1))))))
   (Zh (Zo (Zb 1))))⟩
abbrev Wg:Stmt:=Se (top 11) 4
def Mu:Z1 ["self","slot"] ["self","slot"] (Zm Wg):=by walk_at "sc"
def Vn:{W//SX 0 Wg ["self","slot"] "Slots.form_of" W}:=⟨_,λhP T S hr=>by
  exact(Zh (Zo (Zw (To (Jx T.zai Xo) (Zb 0)) (mP hP (Yy (pl:=_) (Z4 S.zah Yb) hr (Zb 0) (Za (Zb 1) Zc))))))⟩
abbrev Xd:Stmt:=Se (top 11) 5
def Vo:Z1 ["self","one","other","pile","pair","left","right"] ["self","one","other"] (Zm Xd):=by walk_at "sc"
def Xp:{W//SX 0 Xd ["self","one","other","pile","pair","left","right"] "Slots.make_alike" W}:=⟨_,λhP T S hr=>by
  have nd:=Vo.nd
  have hu:=Yg hr
  exact(Zd (Zk (i:=3) nd (Z0 (Za (Zi (Za (Zb 1) (Za (Zb 2) Zc))) Zc)))
   (Zh (Qs PassesOwn.never (Zn (Ih hu) (Zb 3) (Z0 Zc))
   (Zd (Zk (i:=4) nd (yR XZ PySem.F.slot_list_pop PySem.F.type_list_pop Js y7 (Zb 3)))
   (Zd (Zk (i:=5) nd (mP hP (Yy (pl:=_) (Z4 S.zah Yb) hr (Zb 0) (Za (Zw (Zb 4) Zf) Zc))))
   (Zd (Zk (i:=6) nd (mP hP (Yy (pl:=_) (Z4 S.zah Yb) hr (Zb 0) (Za (Zw (Zb 4) Zf) Zc))))
   (Zh (Z5 (Zn (Ih hu) (Zb 5) (Zb 6)) (Zh (Yo (Hh XZ PySem.F.slot_list_extend PySem.F.type_list_extend Js Ij (Zb 3) (Za (mP hP (Yy (pl:=_) (Z4 S.zaw Yb) hr (Zb 0) (Za (Zb 5) (Za (Zb 6) Zc)))) Zc)))) Zu))))))))⟩
abbrev Xw:Stmt:=Se (top 11) 6
def Uk:Z1 ["self","left","right","known","other"] ["self","left","right"] (Zm Xw):=by walk_at "sc"
def Wr:{W//SX 0 Xw ["self","left","right","known","other"] "Slots.join_two" W}:=⟨_,λhP T S hr=>by
  have nd:=Uk.nd
  have hu:=Yg hr
  exact(Zd (Zk (i:=3) nd (Zw (To (Jx T.zai Xo) (Zb 0)) (Zb 1)))
   (Zd (Zk (i:=4) nd (Zw (To (Jx T.zai Xo) (Zb 0)) (Zb 2)))
   (Zd (Z5 (Zn wQ (Zb 3) yQ) (Zd (Xe (Zb 2) (zO (To (Jx T.zaf Xo) (Zb 0)) (Zb 1)))
   (Zh (Zo (Z0 Zc)))) Zu)
   (Zd (Xe (Zb 1) (zO (To (Jx T.zaf Xo) (Zb 0)) (Zb 2)))
   (Zd (Z5 (Zn wQ (Zb 4) yQ) (Zh (Zo (Z0 Zc))) Zu)
   (Zd (Z5 (Zn (Ih hu) (Zw (Zb 3) Zf) (Zw (Zb 4) Zf)) (Zh Mb) Zu)
   (Zh (Zo (gc rfl (by rfl) T.zat (by rfl) T.zas (Za (Dd (Zb 3) (Xz Zf) Vt) (Za (Dd (Zb 4) (Xz Zf) Vt) Zc)))))))))))⟩
abbrev Ku:Stmt:=top 12
def Cq:Z1 ["term","names","slots"] ["term"] (Zm Ku):=by walk_at "sc"
def Dt:{W//SX 0 Ku ["term","names","slots"] "paper" W}:=⟨_,λhP T S hr=>by
  have nd:=Cq.nd
  have hu:=Yg hr
  exact(Zd (Zk (i:=1) nd (cP hP (Zp S.zbj hr (by rfl) (Za (Zb 0) Zc))))
   (Zd (Z5 (Zn (Ih hu) (Zb 1) (Z0 Zc)) (Zh Mb) Zu)
   (Zd (Zk (i:=2) nd (cP hP (o0 S.zbi hr (by rfl))))
   (Zh (Zo (cP hP (Zp S.za8 hr (by rfl) (Za (Zb 2) (Za (cP hP (Zp S.zbg hr (by rfl) (Za (Zb 2) (Za (Zb 0) Zc)))) Zc)))))))))⟩
abbrev Oo:Stmt:=top 13
def za:Z1 ["term"] ["term"] (Zm Oo):=by walk_at "sc"
def La:{W//SX 0 Oo ["term"] "kind_of" W}:=⟨_,λhP T S hr=>by
  exact(Zh (Zo (Zw (cP hP (Zp S.zaz hr (by rfl) (Za (Zb 0) Zc))) Zf)))⟩
abbrev Om:Stmt:=top 14
def Kz:Z1 ["slots","term","rows","pile","place"] ["slots","term"] (Zm Om):=by walk_at "sc"
def M9:{W//SX 0 Om ["slots","term","rows","pile","place"] "rows_of" W}:=⟨_,λhP T S hr=>by
  have nd:=Kz.nd
  have hu:=Yg hr
  exact(Zd (Zk (i:=2) nd (Z0 Zc))
   (Zd (Zk (i:=3) nd (Z0 (Za (Zi (Za (Zb 1) (Za Ur (Za (mP hP (Wy (pl:=_) (Z4 S.zac Yb) hr (Zb 0))) Zc)))) Zc)))
   (Zd (Qs PassesOwn.never (Zn (Ih hu) (Zb 3) (Z0 Zc))
   (Zd (Zk (i:=4) nd (yR XZ PySem.F.slot_list_pop PySem.F.type_list_pop Js y7 (Zb 3)))
   (Zd (Yo (Hh XZ YB YA Js W6 (Zb 2) (Za (Zw (Zb 4) Zf) Zc)))
   (Zh (Yo (Hh XZ PySem.F.slot_list_extend PySem.F.type_list_extend Js Ij (Zb 3) (Za (vH rfl (by rfl) T.zat (by rfl) T.zaq (cP hP (Zp S.zax hr (by rfl) (Za (Zb 0) (Za (Zw (Zb 4) Zf) (Za (Zw (Zb 4) Zf) (Za (Zw (Zb 4) Zf) Zc))))))) Zc)))))))
   (Zh (Zo (Zb 2))))))⟩
abbrev X9:Stmt:=top 15
def Tg:Z1 ["slots","term","bound","slot","places","scope","asked","inner"] ["slots","term","bound","slot"] (Zm X9):=by walk_at "sc"
def Xk:{W//SX 0 X9 ["slots","term","bound","slot","places","scope","asked","inner"] "places_within" W}:=⟨_,λhP T S hr=>by
  have nd:=Tg.nd
  have hu:=Yg hr
  exact(Zd (Z5 (Zn (Yw hu) (Zw (Zb 1) Zf) Zj) (Zd (Yo (mP hP (Yy (pl:=_) (Z4 S.zad Yb) hr (Zb 0) (Za (Zb 3) (Za (Wm hu (Zb 2) (Zw (Zb 1) Zf) (λ_ _=>rfl)) Zc)))))
   (Zh (Zo (Z0 Zc)))) Zu)
   (Zd (Zk (i:=4) nd (Z0 Zc))
   (Zd (Sg PassesOwn.never rfl (zN (by rfl) T.zas (Za (cP hP (Zp S.zav hr (by rfl) (Za (Zb 1) Zc))) (Za (cP hP (Zp S.za7 hr (by rfl) (Za (Zb 0) (Za (Zb 1) (Za (Zb 3) Zc))))) Zc))) (Ou (n:=2) rfl (J2 (Y9 (i:=5) nd) (J2 (Y9 (i:=6) nd) Ov)) (Yd (Yd V9)))
   (Zd (Zk (i:=7) nd (Ga Kj (by rfl) T.zap Ki (Za (Zb 2) Zc)))
   (Zd (Yo (zP (Zb 7) (ge rfl (by rfl) T.zap (by rfl) T.zas (Za (Zw (Zb 5) Zf) (Za (Zw (Zb 6) Zf) Zc))) ⟨rfl,rfl,rfl,rfl⟩))
   (Zh (Yo (Hh XZ YB YA Js W6 (Zb 4) (Za (Zi (Za (Zw (Zb 5) Zf) (Za (Zb 7) (Za (Zw (Zb 6) Zf) Zc)))) Zc)))))))
   (Zh (Zo (Zb 4))))))⟩
abbrev Ye:Stmt:=top 16
def Xg:Z1 ["slots","term","slot","sort","own","body","given"] ["slots","term","slot"] (Zm Ye):=by walk_at "sc"
def Ro:{W//SX 10 Ye ["slots","term","slot","sort","own","body","given"] "part_slots" W}:=⟨_,λhP T S hr=>by
  exact(Zh Mb)⟩
def Rm:{W//SX 9 Ye ["slots","term","slot","sort","own","body","given"] "part_slots" W}:=⟨_,λhP T S hr=>by
  have hu:=Yg hr
  exact(Zd (Z5 (Zn (Yw hu) (Zb 3) Zj) (Zh (Zo (Z0 Zc))) Zu)
   (Ro.2 hP T S hr))⟩
def Rk:{W//SX 8 Ye ["slots","term","slot","sort","own","body","given"] "part_slots" W}:=⟨_,λhP T S hr=>by
  have hu:=Yg hr
  exact(Zd (Z5 (Zn (Yw hu) (Zb 3) Zj) (Zh (Zo (Z0 (Za (Zi (Za (Zi Zc) (Za (mP hP (Wy (pl:=_) (Z4 S.zac Yb) hr (Zb 0))) Zc))) (Za (Zi (Za (Zi Zc) (Za (Zb 2) Zc))) Zc))))) Zu)
   (Rm.2 hP T S hr))⟩
def Rj:{W//SX 7 Ye ["slots","term","slot","sort","own","body","given"] "part_slots" W}:=⟨_,λhP T S hr=>by
  have hu:=Yg hr
  exact(Zd (Z5 (Zn (Yw hu) (Zb 3) Zj) (Zh (Zo (cP hP (Zp S.za1 hr (by rfl) (Za (Zb 0) (Za (Zw (Zw (Zw (Zb 1) Zf) Zf) Zf) (Za (Zb 2) Zc))))))) Zu)
   (Rk.2 hP T S hr))⟩
def Ri:{W//SX 6 Ye ["slots","term","slot","sort","own","body","given"] "part_slots" W}:=⟨_,λhP T S hr=>by
  have hu:=Yg hr
  exact(Zd (Z5 (Zn (Yw hu) (Zb 3) Zj) (Zh (Zo (cP hP (Zp S.za4 hr (by rfl) (Za (Zb 0) (Za (Zw (Zb 1) Zf) (Za (Zb 2) Zc))))))) Zu)
   (Rj.2 hP T S hr))⟩
def Rh:{W//SX 5 Ye ["slots","term","slot","sort","own","body","given"] "part_slots" W}:=⟨_,λhP T S hr=>by
  have nd:=Xg.nd
  have hu:=Yg hr
  exact(Zd (Z5 (Zn (Yw hu) (Zb 3) Zj) (Zd (Zk (i:=4) nd (Ga Mf (by rfl) T.zam Tq (Za (Si (cN:=["pair","slots"]) (cap:=[none,some 0]) (cl:=(Xf _ _ [])) (js:=[0]) (g:=(Xc 0)) ⟨rfl,(λok=>Ut ok rfl (by decide+kernel) (by decide+kernel) rfl rfl rfl),(Wl (Zw (Zb 1) Zf)),(λ_ _ _=>Y8 (i:=0) (show(["pair","slots"]:List Str).Nodup by decide+kernel) rfl (Or.inl rfl)),Z9,Jd,Y2,by decide+kernel,λ_ _ _=>X0,λ_ _ _=>(mP hP (Wy (pl:=_) (Z4 S.zac Yb) hr (Zb 1))),λ_=>rfl⟩) Zc)))
   (Zh (Zo (Ys Jo (Si (cN:=["one","own"]) (cap:=[none,some 4]) (cl:=(Xf _ _ [])) (js:=[0]) (g:=(Xc 0)) ⟨rfl,(λok=>Ut ok rfl (by decide+kernel) (by decide+kernel) rfl rfl rfl),(Wl (Zb 4)),(λ_ _ _=>Y8 (i:=0) (show(["one","own"]:List Str).Nodup by decide+kernel) rfl (Or.inl rfl)),Z9,Jd,Y2,by decide+kernel,λ_ _ _=>X0,λ_ _ _=>(Zi (Za (Zb 1) (Za (Zb 0) Zc))),λ_=>rfl⟩) (Z0 (Za (Zi (Za (Zb 4) (Za (Zb 2) Zc))) Zc)))))) Zu)
   (Ri.2 hP T S hr))⟩
def Rg:{W//SX 4 Ye ["slots","term","slot","sort","own","body","given"] "part_slots" W}:=⟨_,λhP T S hr=>by
  have nd:=Xg.nd
  have hu:=Yg hr
  exact(Zd (Z5 (Zn (Yw hu) (Zb 3) Zj) (Zd (Zk (i:=6) nd (mP hP (Wy (pl:=_) (Z4 S.zac Yb) hr (Zb 0))))
   (Zh (Zo (Z0 (Za (Zi (Za (Zi Zc) (Za (mP hP (Yy (pl:=_) (Z4 S.zab Yb) hr (Zb 0) (Za (Zi (Za Zj (Za (Zb 6) (Za (Zb 2) Zc)))) Zc))) Zc))) (Za (Zi (Za (Zi Zc) (Za (Zb 6) Zc))) Zc)))))) Zu)
   (Rh.2 hP T S hr))⟩
def Rf:{W//SX 3 Ye ["slots","term","slot","sort","own","body","given"] "part_slots" W}:=⟨_,λhP T S hr=>by
  have nd:=Xg.nd
  have hu:=Yg hr
  exact(Zd (Z5 (Zn (Yw hu) (Zb 3) Zj) (Zd (Zk (i:=4) nd (mP hP (Wy (pl:=_) (Z4 S.zac Yb) hr (Zb 0))))
   (Zd (Zk (i:=5) nd (mP hP (Wy (pl:=_) (Z4 S.zac Yb) hr (Zb 0))))
   (Zd (Yo (mP hP (Yy (pl:=_) (Z4 S.zad Yb) hr (Zb 0) (Za (Zb 2) (Za (mP hP (Yy (pl:=_) (Z4 S.zab Yb) hr (Zb 0) (Za (Zi (Za Zj (Za (Zb 4) (Za (Zb 5) Zc)))) Zc))) Zc)))))
   (Zh (Zo (Z0 (Za (Zi (Za (Zi (Za (Zb 4) Zc)) (Za (Zb 5) Zc))) Zc))))))) Zu)
   (Rg.2 hP T S hr))⟩
def Re:{W//SX 2 Ye ["slots","term","slot","sort","own","body","given"] "part_slots" W}:=⟨_,λhP T S hr=>by
  have hu:=Yg hr
  exact(Zd (Z5 (Zn (Yw hu) (Zb 3) Zj) (Zh (Zo (cP hP (Zp S.za9 hr (by rfl) (Za (Zb 0) (Za (Zw (Zb 1) Zf) (Za (Zb 2) Zc))))))) Zu)
   (Rf.2 hP T S hr))⟩
def So:{W//SX 0 Ye ["slots","term","slot","sort","own","body","given"] "part_slots" W}:=⟨_,λhP T S hr=>by
  have nd:=Xg.nd
  have hu:=Yg hr
  exact(Zd (Zk (i:=3) nd (Zw (Zb 1) Zf))
   (Zd (Z5 (Zn (Yw hu) (Zb 3) Zj) (Zd (Yo (mP hP (Yy (pl:=_) (Z4 S.zad Yb) hr (Zb 0) (Za (Zb 2) (Za (mP hP (Yy (pl:=_) (Z4 S.zab Yb) hr (Zb 0) (Za (Zi (Za Zj Zc)) Zc))) Zc)))))
   (Zh (Zo (Z0 Zc)))) Zu)
   (Re.2 hP T S hr)))⟩
abbrev U1:Stmt:=top 17
def Po:Z1 ["slots","op","slot","outcome","number"] ["slots","op","slot"] (Zm U1):=by walk_at "sc"
def Ss:{W//SX 0 U1 ["slots","op","slot","outcome","number"] "does_slots" W}:=⟨_,λhP T S hr=>by
  have nd:=Po.nd
  have hu:=Yg hr
  exact(Zd (Zk (i:=3) nd (lX (Ma (Qr (Zn (Yw hu) (Zb 1) Zj) (U6 (Zn (Yw hu) (Zb 1) Zj)))) Zj Zj))
   (Zd (Yo (mP hP (Yy (pl:=_) (Z4 S.zad Yb) hr (Zb 0) (Za (Zb 2) (Za (mP hP (Yy (pl:=_) (Z4 S.zab Yb) hr (Zb 0) (Za (Zi (Za (Zb 3) Zc)) Zc))) Zc)))))
   (Zd (Zk (i:=4) nd (mP hP (Yy (pl:=_) (Z4 S.zab Yb) hr (Zb 0) (Za (Zi (Za Zj Zc)) Zc))))
   (Zh (Zo (Z0 (Za (Zi (Za (Zi Zc) (Za (Zb 4) Zc))) (Za (Zi (Za (Zi Zc) (Za (Zb 4) Zc))) Zc))))))))⟩
abbrev V3:Stmt:=top 18
def Qf:Z1 ["slots","shape","slot","one","other"] ["slots","shape","slot"] (Zm V3):=by walk_at "sc"
def W0:{W//SX 0 V3 ["slots","shape","slot","one","other"] "shape_slots" W}:=⟨_,λhP T S hr=>by
  have nd:=Qf.nd
  have hu:=Yg hr
  exact(Zd (Z5 (Ma (Qr (Zn (Yw hu) (Zb 1) Zj) (U6 (Zn (Yw hu) (Zb 1) Zj)))) (Zd (Yo (mP hP (Yy (pl:=_) (Z4 S.zad Yb) hr (Zb 0) (Za (Zb 2) (Za (mP hP (Yy (pl:=_) (Z4 S.zab Yb) hr (Zb 0) (Za (Zi (Za Zj Zc)) Zc))) Zc)))))
   (Zh (Zo (Z0 Zc)))) Zu)
   (Zd (Zk (i:=3) nd (mP hP (Wy (pl:=_) (Z4 S.zac Yb) hr (Zb 0))))
   (Zd (Z5 (Zn (Yw hu) (Zb 1) Zj) (Zd (Zk (i:=4) nd (mP hP (Wy (pl:=_) (Z4 S.zac Yb) hr (Zb 0))))
   (Zd (Yo (mP hP (Yy (pl:=_) (Z4 S.zad Yb) hr (Zb 0) (Za (Zb 2) (Za (mP hP (Yy (pl:=_) (Z4 S.zab Yb) hr (Zb 0) (Za (Zi (Za Zj (Za (Zb 3) (Za (Zb 4) Zc)))) Zc))) Zc)))))
   (Zh (Zo (Z0 (Za (Zi (Za (Zi Zc) (Za (Zb 3) Zc))) (Za (Zi (Za (Zi Zc) (Za (Zb 4) Zc))) Zc))))))) Zu)
   (Zd (Yo (mP hP (Yy (pl:=_) (Z4 S.zad Yb) hr (Zb 0) (Za (Zb 2) (Za (mP hP (Yy (pl:=_) (Z4 S.zab Yb) hr (Zb 0) (Za (Zi (Za Zj (Za (Zb 3) Zc))) Zc))) Zc)))))
   (Zd (Z5 (Zn (Yw hu) (Zb 1) Zj) (Zh (Zo (Z0 Zc))) Zu)
   (Zh (Zo (Z0 (Za (Zi (Za (Zi Zc) (Za (Zb 3) Zc))) (Za (Zi (Za (Zi Zc) (Za (Zb 2) Zc))) Zc))))))))))⟩
abbrev Vf:Stmt:=top 19
def Sy:Z1 ["slots","shape","slot","one","other","whole"] ["slots","shape","slot"] (Zm Vf):=by walk_at "sc"
def J9:{W//SX 0 Vf ["slots","shape","slot","one","other","whole"] "choose_slots" W}:=⟨_,λhP T S hr=>by
  have nd:=Sy.nd
  have hu:=Yg hr
  exact(Zd (Z5 (Zn (Yw hu) (Zb 1) Zj) (Zh (Zo (Z0 (Za (Zi (Za (Zi Zc) (Za (mP hP (Yy (pl:=_) (Z4 S.zab Yb) hr (Zb 0) (Za (Zi (Za Zj Zc)) Zc))) Zc))) (Za (Zi (Za (Zi Zc) (Za (Zb 2) Zc))) (Za (Zi (Za (Zi Zc) (Za (Zb 2) Zc))) Zc)))))) Zu)
   (Zd (Zk (i:=3) nd (mP hP (Wy (pl:=_) (Z4 S.zac Yb) hr (Zb 0))))
   (Zd (Z5 (Zn (Yw hu) (Zb 1) Zj) (Zd (Zk (i:=4) nd (mP hP (Wy (pl:=_) (Z4 S.zac Yb) hr (Zb 0))))
   (Zh (Zo (Z0 (Za (Zi (Za (Zi Zc) (Za (mP hP (Yy (pl:=_) (Z4 S.zab Yb) hr (Zb 0) (Za (Zi (Za Zj (Za (Zb 3) (Za (Zb 4) Zc)))) Zc))) Zc))) (Za (Zi (Za (Zi (Za (Zb 3) (Za (Zb 4) Zc))) (Za (Zb 2) Zc))) Zc)))))) Zu)
   (Zd (Zk (i:=5) nd (mP hP (Yy (pl:=_) (Z4 S.zab Yb) hr (Zb 0) (Za (Zi (Za Zj (Za (Zb 3) Zc))) Zc))))
   (Zh (Zo (Z0 (Za (Zi (Za (Zi Zc) (Za (Zb 5) Zc))) (Za (Zi (Za (Zi Zc) (Za (Zb 2) Zc))) (Za (Zi (Za (Zi (Za (Zb 3) (Za (Zb 5) Zc))) (Za (Zb 2) Zc))) Zc))))))))))⟩
abbrev Uy:Stmt:=top 20
def Pj:Z1 ["slots","rows","ready","opened","slot"] ["slots","rows"] (Zm Uy):=by walk_at "sc"
def Sn:{W//SX 0 Uy ["slots","rows","ready","opened","slot"] "told_kinds" W}:=⟨_,λhP T S hr=>by
  have nd:=Pj.nd
  have hu:=Yg hr
  exact(Zd (Zk (i:=2) nd Ur)
   (Zd (Zk (i:=3) nd (Z0 Zc))
   (Zd (Sg PassesOwn.never rfl (Wl (Zb 1)) (Y9 (i:=4) nd)
   (Zh (Yo (cP hP (Zp S.za6 hr (by rfl) (Za (Zb 0) (Za (mP hP (Yy (pl:=_) (Z4 S.zah Yb) hr (Zb 0) (Za (Zb 4) Zc))) (Za (Zb 2) (Za (Zb 3) Zc)))))))))
   (Zh (Zo (Si (cN:=["slot","ready","slots"]) (cap:=[none,some 2,some 0]) (cl:=(Xf _ _ [])) (js:=[0]) (g:=(Xc 0)) ⟨rfl,(λok=>Ut ok rfl (by decide+kernel) (by decide+kernel) rfl rfl rfl),(Wl (Zb 1)),(λ_ _ _=>Y8 (i:=0) (show(["slot","ready","slots"]:List Str).Nodup by decide+kernel) rfl (Or.inl rfl)),Z9,Jd,Y2,by decide+kernel,λ_ _ _=>X0,λ_ _ _=>(Wm hu (Zb 1) (mP hP (Yy (pl:=_) (Z4 S.zah Yb) hr (Zb 2) (Za (Zb 0) Zc))) (λ_ _=>rfl)),λ_=>rfl⟩))))))⟩
abbrev Uz:Stmt:=top 21
def Pm:Z1 ["slots","slot","ready","opened","begun","pile","here","form","within"] ["slots","slot","ready","opened"] (Zm Uz):=by walk_at "sc"
def Sq:{W//SX 0 Uz ["slots","slot","ready","opened","begun","pile","here","form","within"] "make_ready" W}:=⟨_,λhP T S hr=>by
  have nd:=Pm.nd
  have hu:=Yg hr
  exact(Zd (Zk (i:=4) nd Ur)
   (Zd (Zk (i:=5) nd (Z0 (Za (Zb 1) Zc)))
   (Zh (Qs PassesOwn.never (Zn (Ih hu) (Zb 5) (Z0 Zc))
   (Zd (Zk (i:=6) nd (yR XZ PySem.F.slot_list_pop PySem.F.type_list_pop Js y7 (Zb 5)))
   (Zd (Z5 (Zn (wP hu) (Zb 6) (Zb 2) (by rfl)) (Zh Dc) Zu)
   (Zd (Zk (i:=7) nd (mP hP (Yy (pl:=_) (Z4 S.zay Yb) hr (Zb 0) (Za (Zb 6) Zc))))
   (Zd (Z5 (Zn wQ (Zb 7) yQ) (Zd (Xe (Zi (Za Zj (Za (Ox Qt (by rfl) T.zak PySem.boot_len (Za (Zb 3) Zc)) Zc))) (X1 hu (Zb 2) (Zb 6)))
   (Zd (Yo (Hh XZ YB YA Js W6 (Zb 3) (Za (Zb 6) Zc)))
   (Zh Dc))) Zu)
   (Zd (Ot (k:=8) (cN:=["part","slots"]) (cap:=[none,some 0]) (cl:=(Xf _ _ [])) (js:=[0]) (g:=(Xc 0)) nd rfl rfl rfl ⟨rfl,(λok=>Ut ok rfl (by decide+kernel) (by decide+kernel) rfl rfl rfl),(Wl (Dd (Zb 7) (Xz Zf) Vt)),(λ_ _ _=>Y8 (i:=0) (show(["part","slots"]:List Str).Nodup by decide+kernel) rfl (Or.inl rfl)),Z9,Jd,Y2,by decide+kernel,λ_ _ _=>X0,λ_ _ _=>(mP hP (Yy (pl:=_) (Z4 S.zah Yb) hr (Zb 1) (Za (Zb 0) Zc))),λ_=>rfl⟩)
   (Zd (Z5 (Zn (wP hu) (Zb 6) (Zb 4) (by rfl)) (Zd (Xe (Ys Jo (lW (Zb 7) Vt (Xz Zf)) (Ga Mf (by rfl) T.zam Tq (Za (Si (cN:=["part","ready"]) (cap:=[none,some 2]) (cl:=(Xf _ _ [])) (js:=[0]) (g:=(Xc 0)) ⟨rfl,(λok=>Ut ok rfl (by decide+kernel) (by decide+kernel) rfl rfl rfl),(Wl (Zb 8)),(λ_ _ _=>Y8 (i:=0) (show(["part","ready"]:List Str).Nodup by decide+kernel) rfl (Or.inl rfl)),Z9,Jd,Y2,by decide+kernel,λ_ _ _=>X0,λ_ _ _=>(Wm hu (Zb 1) (Zb 0) (λ_ _=>rfl)),λ_=>rfl⟩) Zc))) (X1 hu (Zb 2) (Zb 6)))
   (Zh Dc)) Zu)
   (Zd (Xe De (X1 hu (Zb 4) (Zb 6)))
   (Zd (Z5 (M6 (Ox (kf rfl) (by rfl) T.zbn oC (Za (Si (cN:=["part","begun","ready"]) (cap:=[none,some 4,some 2]) (cl:=(Xf _ _ [])) (js:=[0]) (g:=(Xc 0)) ⟨rfl,(λok=>Ut ok rfl (by decide+kernel) (by decide+kernel) rfl rfl rfl),(Wl (Zb 8)),(λ_ _ _=>Y8 (i:=0) (show(["part","begun","ready"]:List Str).Nodup by decide+kernel) rfl (Or.inl rfl)),Z9,Jd,Y2,by decide+kernel,λ_ _ _=>X0,λ_ _ _=>(yT (Fa (wP hu) (Zb 0) (Zb 1) (by rfl)) (vG (Fa (wN hu) (Zb 0) (Zb 2) (by rfl)))),λ_=>rfl⟩) Zc))) (Zh Mb) Zu)
   (Zd (Yo (Hh XZ YB YA Js W6 (Zb 5) (Za (Zb 6) Zc)))
   (Zh (Yo (Hh XZ PySem.F.slot_list_extend PySem.F.type_list_extend Js Ij (Zb 5) (Za (vH rfl (by rfl) T.zat (by rfl) T.zaq (Zb 8)) Zc)))))))))))))))))⟩
abbrev T9:Stmt:=top 23
def Nm:Z1 ["_law_cells","_law_mixed","_law_number","_law_cell","_law_left"] ["_law_cells","_law_mixed"] (Zm T9):=by walk_at "sc"
def Q9:{W//SX 0 T9 ["_law_cells","_law_mixed","_law_number","_law_cell","_law_left"] "_law_deal" W}:=⟨_,λhP T S hr=>by
  have nd:=Nm.nd
  exact(Zd (Zk (i:=2) nd Zf)
   (Zd (Sg PassesOwn.never rfl (Wl (Zb 0)) (Y9 (i:=3) nd)
   (Zh (Zk (i:=2) nd (Ys Nw (Ys Jo (Ys Gu (Zb 2) Zf) (Zb 3)) Zf))))
   (Zd (Ot (k:=4) (cN:=["_law_cell"]) (cap:=[none]) (cl:=[]) (js:=[0]) (g:=(Xc 0)) nd rfl rfl rfl ⟨rfl,(λ_=>Kh rfl (by decide+kernel) (by decide+kernel) rfl (by decide)),(oy (by rfl) T.zaq (Za (Zb 0) Zc)),(λ_ _ _=>Y8 (i:=0) (show(["_law_cell"]:List Str).Nodup by decide+kernel) rfl (Or.inl rfl)),Z9,Jd,Y2,by decide+kernel,λ_ _ _=>X0,λ_ _ _=>(Ox (lZ rfl) (by rfl) T.zbm oA (Za (Zb 0) (Za (Ys Tk Zf (Zb 0)) Zc))),λ_=>rfl⟩)
   (Zh (Zo (yS (Uc Zj (Zb 1) (Uc Zj (Zb 2) (Uc Zj Zf (Uc Zj (Zb 4) (Uc Zj Zf yP)))))))))))⟩
abbrev T8:Stmt:=top 24
def Nl:Z1 ["_law_deal_here","_law_many","_law_number","_law_one","_law_other"] ["_law_deal_here","_law_many"] (Zm T8):=by walk_at "sc"
def Q8:{W//SX 0 T8 ["_law_deal_here","_law_many","_law_number","_law_one","_law_other"] "_law_draw" W}:=⟨_,λhP T S hr=>by
  have nd:=Nl.nd
  have hu:=Yg hr
  exact(Zd (Qs PassesOwn.never (Ma (Hf (Zn (Yw hu) (Wm hu (Zb 0) Zj (λ_ _=>rfl)) Zf) (Hf (Zn j3 (Ox Qt (by rfl) T.zak PySem.boot_len (Za (Wm hu (Zb 0) Zj (λ_ _=>rfl)) Zc)) Zf) (Kf (Hg (M6 (Wm hu (Zb 0) Zj (λ_ _=>rfl))))))))
   (Zh (Xe (yR XZ PySem.F.slot_list_pop PySem.F.type_list_pop Js y7 (Wm hu (Zb 0) Zj (λ_ _=>rfl))) (X1 hu (Zb 0) Zj))))
   (Zd (Zk (i:=2) nd (Wm hu (Zb 0) Zj (λ_ _=>rfl)))
   (Zd (Z5 (Zn j3 (Zb 2) Zf) (Zd (Xe (Ys ph (Zb 2) (Zb 1)) (X1 hu (Zb 0) Zj))
   (Zh (Zo (Ys Nw (Zb 2) (Zb 1))))) Zu)
   (Zd (Zk (i:=3) nd (Ys Nw (Ys Jo (Ys Gu (Wm hu (Zb 0) Zj (λ_ _=>rfl)) Zf) Zf) Zf))
   (Zd (Xe (Ys Nw (Ys Jo (Ys Gu (Zb 3) Zf) Zf) Zf) (X1 hu (Zb 0) Zj))
   (Zd (Zk (i:=4) nd (Ys Nw (Ys Gu (Wm hu (Zb 0) Zj (λ_ _=>rfl)) (Wm hu (Zb 0) Zj (λ_ _=>rfl))) Zf))
   (Zh (Zo (Ys Nw (Ys Jo (Ys Gu (Ys Nw (Ys Gu (Zb 3) (Zb 3)) Zf) Zf) (Zb 4)) (Zb 1))))))))))⟩
abbrev T6:Stmt:=top 25
def Ni:Z1 ["_law_deal_here","_law_letters","_law_name_here","_law_k"] ["_law_deal_here"] (Zm T6):=by walk_at "sc"
def Q2:{W//SX 0 T6 ["_law_deal_here","_law_letters","_law_name_here","_law_k"] "_law_name" W}:=⟨_,λhP T S hr=>by
  have nd:=Ni.nd
  have hu:=Yg hr
  exact(Zd (Zk (i:=1) nd Zj)
   (Zd (Z5 (Zn (Yw hu) (cP hP (Zp S.zaa hr (by rfl) (Za (Zb 0) (Za Zf Zc)))) Zf) (Zh (Zo (Zw (Zb 1) (cP hP (Zp S.zaa hr (by rfl) (Za (Zb 0) (Za Zf Zc))))))) Zu)
   (Zd (Zk (i:=2) nd (Zw (Zb 1) (cP hP (Zp S.zaa hr (by rfl) (Za (Zb 0) (Za Zf Zc))))))
   (Zd (Sg PassesOwn.never rfl (rG (by rfl) T.za0 (Za (cP hP (Zp S.zaa hr (by rfl) (Za (Zb 0) (Za Zf Zc)))) Zc)) (Y9 (i:=3) nd)
   (Zh (Zk (i:=2) nd (Ys Jo (Zb 2) (Zw (Ys Jo (Zb 1) Zj) (cP hP (Zp S.zaa hr (by rfl) (Za (Zb 0) (Za Zf Zc)))))))))
   (Zd (Z5 (Zn (lC hu) (Zb 2) (Z0 (Za Zj (Za Zj (Za Zj (Za Zj (Za Zj (Za Zj (Za Zj (Za Zj (Za Zj Zc)))))))))) (by rfl)) (Zh (Zk (i:=2) nd (Ys Jo (Zb 2) Zj))) Zu)
   (Zh (Zo (Zb 2))))))))⟩
abbrev T7:Stmt:=top 26
def Nk:Z1 ["_law_deal_here","_law_fuel","_law_way","_law_one"] ["_law_deal_here","_law_fuel"] (Zm T7):=by walk_at "sc"
def Q7:{W//SX 0 T7 ["_law_deal_here","_law_fuel","_law_way","_law_one"] "_law_kind" W}:=⟨_,λhP T S hr=>by
  have nd:=Nk.nd
  have hu:=Yg hr
  exact(Zd (Zk (i:=2) nd (cP hP (Zp S.zaa hr (by rfl) (Za (Zb 0) (Za Zf Zc)))))
   (Zd (Z5 (Ma (Qr (Zn (Yw hu) (Zb 1) Zf) (U6 (Zn lB (Zb 2) Zf)))) (Zh (Zo (Zw (Z0 (Za (Zi (Za Zj Zc)) (Za (Zi (Za Zj Zc)) (Za (Zi (Za Zj Zc)) Zc)))) (Ys Nw (Zb 2) Zf)))) Zu)
   (Zd (Zk (i:=3) nd (cP hP (Zp S.zag hr (by rfl) (Za (Zb 0) (Za (Ys Tk (Zb 1) Zf) Zc)))))
   (Zd (Z5 (Zn (Yw hu) (Zb 2) Zf) (Zh (Zo (Zi (Za Zj (Za (Zb 3) Zc))))) Zu)
   (Zh (Zo (Zi (Za (Zw (Z0 (Za Zj (Za Zj Zc))) (Ys Tk (Zb 2) Zf)) (Za (Zb 3) (Za (cP hP (Zp S.zag hr (by rfl) (Za (Zb 0) (Za (Ys Tk (Zb 1) Zf) Zc)))) Zc))))))))))⟩
abbrev Jt:Stmt:=top 27
def Nj:Z1 ["_law_deal_here","_law_want","_law_names","_law_fitting"] ["_law_deal_here","_law_want","_law_names"] (Zm Jt):=by walk_at "sc"
def Q5:{W//SX 5 Jt ["_law_deal_here","_law_want","_law_names","_law_fitting"] "_law_leaf" W}:=⟨_,λhP T S hr=>by
  exact(Zh (Zo (Zi (Za (Zi (Za Zj (Za Zj (Za (Zi Zc) Zc)))) (Za (Z0 (Za (Zb 1) Zc)) Zc)))))⟩
def Q4:{W//SX 4 Jt ["_law_deal_here","_law_want","_law_names","_law_fitting"] "_law_leaf" W}:=⟨_,λhP T S hr=>by
  have hu:=Yg hr
  exact(Zd (Z5 (Zn (Yw hu) (Zb 1) (Zi (Za Zj Zc))) (Zh (Zo (Zi (Za (Zi (Za Zj (Za (Zw (Z0 (Za Zj (Za Zj Zc))) (cP hP (Zp S.zaa hr (by rfl) (Za (Zb 0) (Za Zf Zc))))) (Za (Zi Zc) Zc)))) (Za (Z0 (Za (Zb 1) Zc)) Zc))))) Zu)
   (Q5.2 hP T S hr))⟩
def Q3:{W//SX 3 Jt ["_law_deal_here","_law_want","_law_names","_law_fitting"] "_law_leaf" W}:=⟨_,λhP T S hr=>by
  have hu:=Yg hr
  exact(Zd (Z5 (Zn (Yw hu) (Zb 1) (Zi (Za Zj Zc))) (Zh (Zo (Zi (Za (Zi (Za Zj (Za (cP hP (Zp S.zaa hr (by rfl) (Za (Zb 0) (Za (Ys ly Zf Zf) Zc)))) Zc))) (Za (Z0 (Za (Zb 1) Zc)) Zc))))) Zu)
   (Q4.2 hP T S hr))⟩
def Ug:{W//SX 2 Jt ["_law_deal_here","_law_want","_law_names","_law_fitting"] "_law_leaf" W}:=⟨_,λhP T S hr=>by
  have hu:=Yg hr
  exact(Zd (Z5 (Ma (Qr (Zn (lC hu) (Zw (Zb 1) Zf) (Z0 (Za Zj (Za Zj Zc))) (by rfl)) (U6 (Zn (Yw hu) (cP hP (Zp S.zaa hr (by rfl) (Za (Zb 0) (Za Zf Zc)))) Zf)))) (Zh (Zo (Zi (Za (Zi (Za Zj (Za (cP hP (Zp S.zal hr (by rfl) (Za (Zb 0) Zc))) Zc))) (Za (Z0 (Za (Zb 1) Zc)) Zc))))) Zu)
   (Q3.2 hP T S hr))⟩
def Q6:{W//SX 0 Jt ["_law_deal_here","_law_want","_law_names","_law_fitting"] "_law_leaf" W}:=⟨_,λhP T S hr=>by
  have nd:=Nj.nd
  have hu:=Yg hr
  exact(Zd (Ot (k:=3) (cN:=["_law_name_here","_law_kind_here","_law_want"]) (cap:=[none,none,some 1]) (cl:=(Xf _ _ [])) (js:=([0]++([1]++[]))) (g:=(B0 _ 2 (Tl (Xc 0) (Tl (Xc 1) Ab)))) nd rfl rfl rfl ⟨rfl,(λok=>Ut ok rfl (by decide+kernel) (by decide+kernel) rfl rfl rfl),(Al (Zb 2)),(λ_ _ _=>Ig (n:=2) rfl (Xh (Y8 (i:=0) (show(["_law_name_here","_law_kind_here","_law_want"]:List Str).Nodup by decide+kernel) rfl (Or.inl rfl)) (Xh (Y8 (i:=1) (show(["_law_name_here","_law_kind_here","_law_want"]:List Str).Nodup by decide+kernel) rfl (Or.inl rfl)) Nu))),(E4 (Jy Z9 (Jy Z9 Wk))),(E5 (Vs Jd Z9 (Vs Jd Z9 E6 Wk) (Jy Z9 Wk))),(Kw (Wv Y2 (Wv Y2 Kx)) (Yd (Yd V9))),by decide+kernel,λ_ _ _=>(tW (Zn (Yw hu) (Zb 1) (Zb 2))),λ_ _ _=>(Zb 0),λ_=>rfl⟩)
   (Zd (Z5 (Ma (Hf (Zn j3 (Ox Qt (by rfl) T.zak PySem.boot_len (Za (Zb 3) Zc)) Zf) (Kf (Zn j3 (cP hP (Zp S.zaa hr (by rfl) (Za (Zb 0) (Za Zf Zc)))) Zf)))) (Zh (Zo (Zi (Za (Zi (Za Zj (Za (Zw (Zb 3) (cP hP (Zp S.zaa hr (by rfl) (Za (Zb 0) (Za (Ox Qt (by rfl) T.zak PySem.boot_len (Za (Zb 3) Zc)) Zc))))) Zc))) (Za (Z0 (Za (Zb 1) Zc)) Zc))))) Zu)
   (Ug.2 hP T S hr)))⟩
abbrev Qe:Stmt:=top 28
def Lb:Z1 ["_law_deal_here","_law_both","_law_names","_law_fuel","_law_one","_law_other"] ["_law_deal_here","_law_both","_law_names","_law_fuel"] (Zm Qe):=by walk_at "sc"
def O8:{W//SX 0 Qe ["_law_deal_here","_law_both","_law_names","_law_fuel","_law_one","_law_other"] "_law_two" W}:=⟨_,λhP T S hr=>by
  have nd:=Lb.nd
  exact(Zd (Zk (i:=4) nd (cP hP (Zp S.zae hr (by rfl) (Za (Zb 0) (Za (Zw (Zb 1) Zf) (Za (Zb 2) (Za (Zb 3) Zc)))))))
   (Zd (Zk (i:=5) nd (cP hP (Zp S.zae hr (by rfl) (Za (Zb 0) (Za (Zw (Zb 1) Zf) (Za (Zb 2) (Za (Zb 3) Zc)))))))
   (Zh (Zo (Zi (Za (Zw (Zb 4) Zf) (Za (Zw (Zb 5) Zf) (Za (Ys Jo (Zw (Zb 4) Zf) (Zw (Zb 5) Zf)) Zc))))))))⟩
abbrev Xq:Stmt:=top 29
def W5:Z1 ["_law_deal_here","_law_want","_law_names","_law_fuel","_law_op","_law_both","_law_inner","_law_name_here","_law_body"] ["_law_deal_here","_law_want","_law_names","_law_fuel"] (Zm Xq):=by walk_at "sc"
def Oa:{W//SX 3 Xq ["_law_deal_here","_law_want","_law_names","_law_fuel","_law_op","_law_both","_law_inner","_law_name_here","_law_body"] "_law_own" W}:=⟨_,λhP T S hr=>by
  have nd:=W5.nd
  exact(Zd (Zk (i:=5) nd (cP hP (Zp S.zaj hr (by rfl) (Za (Zb 0) (Za (Z0 (Za (Zw (Zb 1) Zf) (Za (Zw (Zb 1) Zf) Zc))) (Za (Zb 2) (Za (Zb 3) Zc)))))))
   (Zh (Zo (Zi (Za (Zi (Za Zj (Za Zj (Za (Dd (Zb 5) Vt (Xz Zf)) Zc)))) (Za (Ys Jo (Z0 (Za (Zb 1) Zc)) (Zw (Zb 5) Zf)) Zc))))))⟩
def Pz:{W//SX 2 Xq ["_law_deal_here","_law_want","_law_names","_law_fuel","_law_op","_law_both","_law_inner","_law_name_here","_law_body"] "_law_own" W}:=⟨_,λhP T S hr=>by
  have nd:=W5.nd
  have hu:=Yg hr
  exact(Zd (Z5 (Zn (Yw hu) (Zw (Zb 1) Zf) Zj) (Zd (Zk (i:=5) nd (cP hP (Zp S.zaj hr (by rfl) (Za (Zb 0) (Za (Z0 (Za (Zw (Zb 1) Zf) (Za (Zb 1) Zc))) (Za (Zb 2) (Za (Zb 3) Zc)))))))
   (Zh (Zo (Zi (Za (Zi (Za Zj (Za Zj (Za (Dd (Zb 5) Vt (Xz Zf)) Zc)))) (Za (Ys Jo (Z0 (Za (Zb 1) Zc)) (Zw (Zb 5) Zf)) Zc)))))) Zu)
   (Oa.2 hP T S hr))⟩
def Py:{W//SX 1 Xq ["_law_deal_here","_law_want","_law_names","_law_fuel","_law_op","_law_both","_law_inner","_law_name_here","_law_body"] "_law_own" W}:=⟨_,λhP T S hr=>by
  have nd:=W5.nd
  have hu:=Yg hr
  exact(Zd (Z5 (Zn (Yw hu) (Zw (Zb 1) Zf) Zj) (Zd (Zk (i:=6) nd (Ga Kj (by rfl) T.zap Ki (Za (Zb 2) Zc)))
   (Zd (Zk (i:=7) nd (cP hP (Zp S.zal hr (by rfl) (Za (Zb 0) Zc))))
   (Zd (Xe (Zw (Zb 1) Zf) (X1 hu (Zb 6) (Zb 7)))
   (Zd (Zk (i:=8) nd (cP hP (Zp S.zae hr (by rfl) (Za (Zb 0) (Za (Zw (Zb 1) Zf) (Za (Zb 6) (Za (Zb 3) Zc)))))))
   (Zh (Zo (Zi (Za (Zi (Za Zj (Za (Zb 7) (Za (Zw (Zb 8) Zf) Zc)))) (Za (Ys Jo (Z0 (Za (Zb 1) Zc)) (Zw (Zb 8) Zf)) Zc))))))))) Zu)
   (Pz.2 hP T S hr))⟩
def O9:{W//SX 0 Xq ["_law_deal_here","_law_want","_law_names","_law_fuel","_law_op","_law_both","_law_inner","_law_name_here","_law_body"] "_law_own" W}:=⟨_,λhP T S hr=>by
  have nd:=W5.nd
  have hu:=Yg hr
  exact(Zd (Z5 (Ma (Qr (Zn (Yw hu) (Zw (Zb 1) Zf) Zj) (U6 (Zn (Yw hu) (Zw (Zb 1) Zf) Zj)))) (Zd (Zk (i:=4) nd (Zw (Z0 (Za Zj (Za Zj (Za Zj Zc)))) (cP hP (Zp S.zaa hr (by rfl) (Za (Zb 0) (Za Zf Zc))))))
   (Zd (Z5 (Zn (Yw hu) (Zw (Zb 1) Zf) Zj) (Zh (Zk (i:=4) nd (Zw (Z0 (Za Zj (Za Zj Zc))) (cP hP (Zp S.zaa hr (by rfl) (Za (Zb 0) (Za Zf Zc))))))) Zu)
   (Zd (Zk (i:=5) nd (cP hP (Zp S.zaj hr (by rfl) (Za (Zb 0) (Za (Z0 (Za (Zi (Za Zj Zc)) (Za (Zi (Za Zj Zc)) Zc))) (Za (Zb 2) (Za (Zb 3) Zc)))))))
   (Zh (Zo (Zi (Za (Zi (Za Zj (Za (Zb 4) (Za (Zw (Zb 5) Zf) (Za (Zw (Zb 5) Zf) Zc))))) (Za (Ys Jo (Z0 (Za (Zb 1) Zc)) (Zw (Zb 5) Zf)) Zc)))))))) Zu)
   (Py.2 hP T S hr))⟩
abbrev W3:Stmt:=top 30
def Uj:Z1 ["_law_deal_here","_law_want","_law_names","_law_fuel","_law_bound","_law_k","_law_name_here","_law_inner","_law_pairs","_law_rows","_law_kind_here","_law_one","_law_body"] ["_law_deal_here","_law_want","_law_names","_law_fuel"] (Zm W3):=by walk_at "sc"
def Oc:{W//SX 7 W3 ["_law_deal_here","_law_want","_law_names","_law_fuel","_law_bound","_law_k","_law_name_here","_law_inner","_law_pairs","_law_rows","_law_kind_here","_law_one","_law_body"] "_law_let" W}:=⟨_,λhP T S hr=>by
  have nd:=Uj.nd
  exact(Zd (Zk (i:=12) nd (cP hP (Zp S.zae hr (by rfl) (Za (Zb 0) (Za (Zb 1) (Za (Zb 7) (Za (Zb 3) Zc)))))))
   (Zh (Zo (Zi (Za (Zi (Za Zj (Za (Ga Mf (by rfl) T.zam Tq (Za (Zb 8) Zc)) (Za (Zw (Zb 12) Zf) Zc)))) (Za (Ys Jo (Zb 9) (Zw (Zb 12) Zf)) Zc))))))⟩
def Ob:{W//SX 2 W3 ["_law_deal_here","_law_want","_law_names","_law_fuel","_law_bound","_law_k","_law_name_here","_law_inner","_law_pairs","_law_rows","_law_kind_here","_law_one","_law_body"] "_law_let" W}:=⟨_,λhP T S hr=>by
  have nd:=Uj.nd
  exact(Zd (Zk (i:=7) nd (Ga Kj (by rfl) T.zap Ki (Za (Zb 2) Zc)))
   (Zd (Yo (zP (Zb 7) (Zb 4) ⟨rfl,rfl,rfl,rfl⟩))
   (Zd (Zk (i:=8) nd (Z0 Zc))
   (Zd (Zk (i:=9) nd (Z0 (Za (Zb 1) Zc)))
   (Zd (Sg PassesOwn.never rfl (Al (Zb 4)) (Ou (n:=2) rfl (J2 (Y9 (i:=6) nd) (J2 (Y9 (i:=10) nd) Ov)) (Yd (Yd V9)))
   (Zd (Zk (i:=11) nd (cP hP (Zp S.zae hr (by rfl) (Za (Zb 0) (Za (Zb 10) (Za (Zb 7) (Za (Zb 3) Zc)))))))
   (Zd (Yo (Hh XZ YB YA Js W6 (Zb 8) (Za (Zi (Za (Zb 6) (Za (Zw (Zb 11) Zf) Zc))) Zc)))
   (Zh (Zk (i:=9) nd (Ys Jo (Zb 9) (Zw (Zb 11) Zf)))))))
   (Oc.2 hP T S hr))))))⟩
def Na:{W//SX 0 W3 ["_law_deal_here","_law_want","_law_names","_law_fuel","_law_bound","_law_k","_law_name_here","_law_inner","_law_pairs","_law_rows","_law_kind_here","_law_one","_law_body"] "_law_let" W}:=⟨_,λhP T S hr=>by
  have nd:=Uj.nd
  have hu:=Yg hr
  exact(Zd (Zk (i:=4) nd Ur)
   (Zd (Sg PassesOwn.never rfl (rG (by rfl) T.za0 (Za (Ys Jo Zf (cP hP (Zp S.zaa hr (by rfl) (Za (Zb 0) (Za Zf Zc))))) Zc)) (Y9 (i:=5) nd)
   (Zd (Zk (i:=6) nd (cP hP (Zp S.zal hr (by rfl) (Za (Zb 0) Zc))))
   (Zh (Xe (cP hP (Zp S.zag hr (by rfl) (Za (Zb 0) (Za Zf Zc)))) (X1 hu (Zb 4) (Zb 6))))))
   (Ob.2 hP T S hr)))⟩
abbrev T4:Stmt:=top 31
def Nh:Z1 ["_law_deal_here","_law_want","_law_names","_law_fuel","_law_asked","_law_both","_law_chosen"] ["_law_deal_here","_law_want","_law_names","_law_fuel"] (Zm T4):=by walk_at "sc"
def Qv:{W//SX 0 T4 ["_law_deal_here","_law_want","_law_names","_law_fuel","_law_asked","_law_both","_law_chosen"] "_law_when" W}:=⟨_,λhP T S hr=>by
  have nd:=Nh.nd
  exact(Zd (Zk (i:=4) nd (cP hP (Zp S.zae hr (by rfl) (Za (Zb 0) (Za (Zi (Za Zj Zc)) (Za (Zb 2) (Za (Zb 3) Zc)))))))
   (Zd (Zk (i:=5) nd (cP hP (Zp S.zaj hr (by rfl) (Za (Zb 0) (Za (Z0 (Za (Zb 1) (Za (Zb 1) Zc))) (Za (Zb 2) (Za (Zb 3) Zc)))))))
   (Zd (Zk (i:=6) nd (Zi (Za (Zi (Za Zj (Za (Zi Zc) (Za (Zw (Zb 5) Zf) Zc)))) (Za (Zi (Za Zj (Za (Zi Zc) (Za (Zw (Zb 5) Zf) Zc)))) Zc))))
   (Zh (Zo (Zi (Za (Zi (Za Zj (Za (Zw (Zb 4) Zf) (Za (Zb 6) Zc)))) (Za (Ys Jo (Ys Jo (Z0 (Za (Zb 1) Zc)) (Zw (Zb 4) Zf)) (Zw (Zb 5) Zf)) Zc))))))))⟩
abbrev Jm:Stmt:=top 32
def J5:Z1 ["_law_deal_here","_law_way","_law_want","_law_names","_law_fuel","_law_one","_law_first","_law_last","_law_kinds","_law_asked","_law_rows","_law_chosen","_law_body","_law_inner"] ["_law_deal_here","_law_way","_law_want","_law_names","_law_fuel"] (Zm Jm):=by walk_at "sc"
def Wq:{W//SX 10 Jm ["_law_deal_here","_law_way","_law_want","_law_names","_law_fuel","_law_one","_law_first","_law_last","_law_kinds","_law_asked","_law_rows","_law_chosen","_law_body","_law_inner"] "_law_choose" W}:=⟨_,λhP T S hr=>by
  have nd:=J5.nd
  exact(Zd (Zk (i:=13) nd (Ga Kj (by rfl) T.zap Ki (Za (Zb 3) Zc)))
   (Zd (Yo (zP (Zb 13) (yS (Uc (Zb 6) (Zw (Zb 8) Zf) (Uc (Zb 7) (Zw (Zb 8) Zf) yP))) ⟨rfl,rfl,rfl,rfl⟩))
   (Zd (Zk (i:=12) nd (cP hP (Zp S.zae hr (by rfl) (Za (Zb 0) (Za (Zb 2) (Za (Zb 13) (Za (Zb 4) Zc)))))))
   (Zd (Yo (Hh XZ YB YA Js W6 (Zb 11) (Za (Zi (Za (Zw (Z0 (Za Zj (Za Zj Zc))) (Ys Tk (Zb 1) Zf)) (Za (Zi (Za (Zb 6) (Za (Zb 7) Zc))) (Za (Zw (Zb 12) Zf) Zc)))) Zc)))
   (Zh (Zo (Zi (Za (Zi (Za Zj (Za (Zw (Zb 9) Zf) (Za (Ga Mf (by rfl) T.zam Tq (Za (Zb 11) Zc)) Zc)))) (Za (Ys Jo (Zb 10) (Zw (Zb 12) Zf)) Zc)))))))))⟩
def Wp:{W//SX 6 Jm ["_law_deal_here","_law_way","_law_want","_law_names","_law_fuel","_law_one","_law_first","_law_last","_law_kinds","_law_asked","_law_rows","_law_chosen","_law_body","_law_inner"] "_law_choose" W}:=⟨_,λhP T S hr=>by
  have nd:=J5.nd
  have hu:=Yg hr
  exact(Zd (Zk (i:=9) nd (cP hP (Zp S.zae hr (by rfl) (Za (Zb 0) (Za (Zw (Z0 (Za (Zw (Zb 8) Zf) (Za (Zi (Za Zj (Za (Zw (Zb 8) Zf) (Za (Zw (Zb 8) Zf) Zc)))) Zc))) (Ys Tk (Zb 1) Zf)) (Za (Zb 3) (Za (Zb 4) Zc)))))))
   (Zd (Zk (i:=10) nd (Ys Jo (Z0 (Za (Zb 2) Zc)) (Zw (Zb 9) Zf)))
   (Zd (Zk (i:=11) nd (Z0 Zc))
   (Zd (Z5 (Zn (Yw hu) (Zb 1) Zf) (Zd (Zk (i:=12) nd (cP hP (Zp S.zae hr (by rfl) (Za (Zb 0) (Za (Zb 2) (Za (Zb 3) (Za (Zb 4) Zc)))))))
   (Zd (Zk (i:=11) nd (Z0 (Za (Zi (Za Zj (Za (Zi Zc) (Za (Zw (Zb 12) Zf) Zc)))) Zc)))
   (Zh (Zk (i:=10) nd (Ys Jo (Zb 10) (Zw (Zb 12) Zf)))))) Zu)
   (Wq.2 hP T S hr)))))⟩
def Wo:{W//SX 4 Jm ["_law_deal_here","_law_way","_law_want","_law_names","_law_fuel","_law_one","_law_first","_law_last","_law_kinds","_law_asked","_law_rows","_law_chosen","_law_body","_law_inner"] "_law_choose" W}:=⟨_,λhP T S hr=>by
  have nd:=J5.nd
  have hu:=Yg hr
  exact(Zd (Zk (i:=8) nd (Z0 (Za (Zb 5) (Za (Zi (Za Zj (Za (Zb 5) Zc))) Zc))))
   (Zd (Z5 (Zn (Yw hu) (Zb 1) Zf) (Zh (Zk (i:=8) nd (Z0 (Za (Zb 5) (Za (cP hP (Zp S.zag hr (by rfl) (Za (Zb 0) (Za Zf Zc)))) Zc))))) Zu)
   (Wp.2 hP T S hr)))⟩
def U9:{W//SX 0 Jm ["_law_deal_here","_law_way","_law_want","_law_names","_law_fuel","_law_one","_law_first","_law_last","_law_kinds","_law_asked","_law_rows","_law_chosen","_law_body","_law_inner"] "_law_choose" W}:=⟨_,λhP T S hr=>by
  have nd:=J5.nd
  have hu:=Yg hr
  exact(Zd (Zk (i:=5) nd (cP hP (Zp S.zag hr (by rfl) (Za (Zb 0) (Za Zf Zc)))))
   (Zd (Zk (i:=6) nd (cP hP (Zp S.zal hr (by rfl) (Za (Zb 0) Zc))))
   (Zd (Zk (i:=7) nd (cP hP (Zp S.zal hr (by rfl) (Za (Zb 0) Zc))))
   (Zd (Z5 (Zn (Yw hu) (Zb 6) (Zb 7)) (Zh (Zk (i:=7) nd (Zw (Z0 (Za Zj (Za Zj Zc))) (Ga ke (by rfl) T.zbl oB (Za (Fa (Yw hu) (Zb 6) Zj (Ii _)) Zc))))) Zu)
   (Wo.2 hP T S hr)))))⟩
abbrev Yz:Stmt:=top 33
def Vr:Z1 ["_law_deal_here","_law_want","_law_names","_law_fuel","_law_way","_law_arg","_law_both"] ["_law_deal_here","_law_want","_law_names","_law_fuel"] (Zm Yz):=by walk_at "sc"
def Q0:{W//SX 9 Yz ["_law_deal_here","_law_want","_law_names","_law_fuel","_law_way","_law_arg","_law_both"] "_law_term" W}:=⟨_,λhP T S hr=>by
  exact(Zh (Zo (cP hP (Zp S.za2 hr (by rfl) (Za (Zb 0) (Za (Zb 4) (Za (Zb 1) (Za (Zb 2) (Za (Ys Tk (Zb 3) Zf) Zc)))))))))⟩
def Qz:{W//SX 8 Yz ["_law_deal_here","_law_want","_law_names","_law_fuel","_law_way","_law_arg","_law_both"] "_law_term" W}:=⟨_,λhP T S hr=>by
  have nd:=Vr.nd
  have hu:=Yg hr
  exact(Zd (Z5 (Zn (Yw hu) (Zb 4) Zf) (Zd (Zk (i:=6) nd (cP hP (Zp S.zaj hr (by rfl) (Za (Zb 0) (Za (Z0 (Za (cP hP (Zp S.zag hr (by rfl) (Za (Zb 0) (Za Zf Zc)))) (Za (Zb 1) Zc))) (Za (Zb 2) (Za (Ys Tk (Zb 3) Zf) Zc)))))))
   (Zh (Zo (Zi (Za (Zi (Za Zj (Za (Zw (Zb 6) Zf) (Za (Zw (Zb 6) Zf) Zc)))) (Za (Ys Jo (Z0 (Za (Zb 1) Zc)) (Zw (Zb 6) Zf)) Zc)))))) Zu)
   (Q0.2 hP T S hr))⟩
def Qy:{W//SX 7 Yz ["_law_deal_here","_law_want","_law_names","_law_fuel","_law_way","_law_arg","_law_both"] "_law_term" W}:=⟨_,λhP T S hr=>by
  have hu:=Yg hr
  exact(Zd (Z5 (Zn (Yw hu) (Zb 4) Zf) (Zh (Zo (cP hP (Zp S.zbc hr (by rfl) (Za (Zb 0) (Za (Zb 1) (Za (Zb 2) (Za (Ys Tk (Zb 3) Zf) Zc)))))))) Zu)
   (Qz.2 hP T S hr))⟩
def Qx:{W//SX 6 Yz ["_law_deal_here","_law_want","_law_names","_law_fuel","_law_way","_law_arg","_law_both"] "_law_term" W}:=⟨_,λhP T S hr=>by
  have hu:=Yg hr
  exact(Zd (Z5 (Zn (Yw hu) (Zb 4) Zf) (Zh (Zo (cP hP (Zp S.zbd hr (by rfl) (Za (Zb 0) (Za (Zb 1) (Za (Zb 2) (Za (Ys Tk (Zb 3) Zf) Zc)))))))) Zu)
   (Qy.2 hP T S hr))⟩
def Uf:{W//SX 5 Yz ["_law_deal_here","_law_want","_law_names","_law_fuel","_law_way","_law_arg","_law_both"] "_law_term" W}:=⟨_,λhP T S hr=>by
  have nd:=Vr.nd
  have hu:=Yg hr
  exact(Zd (Z5 (Zn (Yw hu) (Zb 4) Zf) (Zd (Zk (i:=5) nd (cP hP (Zp S.zag hr (by rfl) (Za (Zb 0) (Za Zf Zc)))))
   (Zd (Zk (i:=6) nd (cP hP (Zp S.zaj hr (by rfl) (Za (Zb 0) (Za (Z0 (Za (Zi (Za Zj (Za (Zb 5) (Za (Zb 1) Zc)))) (Za (Zb 5) Zc))) (Za (Zb 2) (Za (Ys Tk (Zb 3) Zf) Zc)))))))
   (Zh (Zo (Zi (Za (Zi (Za Zj (Za (Zw (Zb 6) Zf) (Za (Zw (Zb 6) Zf) Zc)))) (Za (Ys Jo (Z0 (Za (Zb 1) Zc)) (Zw (Zb 6) Zf)) Zc))))))) Zu)
   (Qx.2 hP T S hr))⟩
def Qw:{W//SX 3 Yz ["_law_deal_here","_law_want","_law_names","_law_fuel","_law_way","_law_arg","_law_both"] "_law_term" W}:=⟨_,λhP T S hr=>by
  have hu:=Yg hr
  exact(Zd (Xe (Ys Tk (Wm hu (Zb 0) Zj (λ_ _=>rfl)) Zf) (X1 hu (Zb 0) Zj))
   (Zd (Z5 (Ma (Qr (Zn lB (Zb 4) Zf) (U6 (Zn (Yw hu) (Zb 4) Zf)))) (Zh (Zo (cP hP (Zp S.zbe hr (by rfl) (Za (Zb 0) (Za (Zb 1) (Za (Zb 2) (Za (Ys Tk (Zb 3) Zf) Zc)))))))) Zu)
   (Uf.2 hP T S hr)))⟩
def Ue:{W//SX 2 Yz ["_law_deal_here","_law_want","_law_names","_law_fuel","_law_way","_law_arg","_law_both"] "_law_term" W}:=⟨_,λhP T S hr=>by
  have hu:=Yg hr
  exact(Zd (Z5 (Zn (Yw hu) (Zb 4) Zf) (Zh (Zo (cP hP (Zp S.zbb hr (by rfl) (Za (Zb 0) (Za (Zb 1) (Za (Zb 2) Zc))))))) Zu)
   (Qw.2 hP T S hr))⟩
def Q1:{W//SX 0 Yz ["_law_deal_here","_law_want","_law_names","_law_fuel","_law_way","_law_arg","_law_both"] "_law_term" W}:=⟨_,λhP T S hr=>by
  have nd:=Vr.nd
  have hu:=Yg hr
  exact(Zd (Zk (i:=4) nd Zf)
   (Zd (Z5 (Ma (Hf (Zn j3 (Zb 3) Zf) (Kf (Zn j3 (Wm hu (Zb 0) Zj (λ_ _=>rfl)) Zf)))) (Zh (Zk (i:=4) nd (cP hP (Zp S.zaa hr (by rfl) (Za (Zb 0) (Za Zf Zc)))))) Zu)
   (Ue.2 hP T S hr)))⟩
abbrev Wc:Stmt:=top 34
def Th:Z1 ["_law_told","_law_own_here","_law_instead","_law_part","_law_other"] ["_law_told","_law_own_here","_law_instead"] (Zm Wc):=by walk_at "sc"
def Xl:{W//SX 0 Wc ["_law_told","_law_own_here","_law_instead","_law_part","_law_other"] "_law_comes_of" W}:=⟨_,λhP T S hr=>by
  have nd:=Th.nd
  have hu:=Yg hr
  exact(Zd (Z5 (Ma (Qr (Hg (M6 (rH (by rfl) T.zau (by rfl) T.zam Tq (by decide) (Zb 0)))) (U6 (Zn (Yw hu) (Ox Qt (by rfl) T.zak PySem.boot_len (Za (Zb 0) Zc)) Zf)))) (Zh (Zo De)) Zu)
   (Zd (Z5 (Zn (Yw hu) (Zw (Zb 0) Zf) Zj) (Zh (Zo (yT (Fa (Yw hu) (Ox Qt (by rfl) T.zak PySem.boot_len (Za (Zb 0) Zc)) Zf (Ii _)) (vG (Fa (Yw hu) (lY (Zb 2) (Zw (Zb 0) Zf) (Zb 1) ⟨rfl,rfl,rfl,rfl⟩) (Zb 1) (Ii _)))))) Zu)
   (Zd (Z5 (Ma (Qr (Zn (Ih hu) (Zw (Zb 0) Zf) (Zw (Zb 1) Zf)) (U6 (Zn (Ih hu) (Ox Qt (by rfl) T.zak PySem.boot_len (Za (Zb 0) Zc)) (Ox Qt (by rfl) T.zak PySem.boot_len (Za (Zb 1) Zc)))))) (Zh (Zo De)) Zu)
   (Zd (Sg PassesOwn.never rfl (zN (by rfl) T.zas (Za (Dd (Zb 0) (Xz Zf) Vt) (Za (Dd (Zb 1) (Xz Zf) Vt) Zc))) (Ou (n:=2) rfl (J2 (Y9 (i:=3) nd) (J2 (Y9 (i:=4) nd) Ov)) (Yd (Yd V9)))
   (Zh (Z5 (Hg (M6 (cP hP (Zp S.zao hr (by rfl) (Za (Zb 3) (Za (Zb 4) (Za (Zb 2) Zc))))))) (Zh (Zo De)) Zu)))
   (Zh (Zo De))))))⟩
abbrev U2:Stmt:=top 35
def Pp:Z1 ["_law_term_here","_law_own_here","_law_rows","_law_instead","_law_told","_law_due"] ["_law_term_here","_law_own_here"] (Zm U2):=by walk_at "sc"
def Su:{W//SX 0 U2 ["_law_term_here","_law_own_here","_law_rows","_law_instead","_law_told","_law_due"] "_law_right" W}:=⟨_,λhP T S hr=>by
  have nd:=Pp.nd
  have hu:=Yg hr
  exact(Zd (Zk (i:=2) nd (cP hP (Zp S.zaz hr (by rfl) (Za (Zb 0) Zc))))
   (Zd (Z5 (Ma (Qr (Hg (M6 (rH (by rfl) T.zau (by rfl) T.zat su (by decide) (Zb 2)))) (Qr (Zn (Ih hu) (Ox Qt (by rfl) T.zak PySem.boot_len (Za (Zb 2) Zc)) (Ox Qt (by rfl) T.zak PySem.boot_len (Za (Zb 1) Zc))) (U6 (Zn (Ih hu) (cP hP (Zp S.zbf hr (by rfl) (Za (Zb 0) Zc))) (Zw (Zb 2) Zf)))))) (Zh (Zo De)) Zu)
   (Zd (Zk (i:=3) nd Ur)
   (Zd (Sg PassesOwn.never rfl (zN (by rfl) T.zas (Za (Zb 2) (Za (Zb 1) Zc))) (Ou (n:=2) rfl (J2 (Y9 (i:=4) nd) (J2 (Y9 (i:=5) nd) Ov)) (Yd (Yd V9)))
   (Zh (Z5 (Hg (M6 (cP hP (Zp S.zao hr (by rfl) (Za (Zb 4) (Za (Zb 5) (Za (Zb 3) Zc))))))) (Zh (Zo De)) Zu)))
   (Zh (Zo De))))))⟩
abbrev On:Stmt:=top 36
def A9:Z1 ["_law_script","_law_deal_here","_law_fuel","_law_term_here","_law_own_here","_law_other","_law_others"] ["_law_script"] (Zm On):=by walk_at "sc"
def je:{W//SX 0 On ["_law_script","_law_deal_here","_law_fuel","_law_term_here","_law_own_here","_law_other","_law_others"] "law" W}:=⟨_,λhP T S hr=>by
  have nd:=A9.nd
  have hu:=Yg hr
  exact(Zd (Zk (i:=1) nd (cP hP (Zp S.zba hr (by rfl) (Za (Dd (Zb 0) (Xz Zf) (Xz Zf)) (Za (Fa (Yw hu) (Ys Nw (Ox (oJ rfl) (by rfl) T.zbk sr (Za (Dd (Zb 0) Vt (Xz Zf)) Zc)) Zf) Zf (Ii _)) Zc)))))
   (Zd (Zk (i:=2) nd (Zw (Z0 (Za Zf (Za Zf (Za Zf Zc)))) (cP hP (Zp S.zaa hr (by rfl) (Za (Zb 1) (Za Zf Zc))))))
   (Zd (Xe (cP hP (Zp S.zae hr (by rfl) (Za (Zb 1) (Za (cP hP (Zp S.zag hr (by rfl) (Za (Zb 1) (Za Zf Zc)))) (Za Ur (Za (Zb 2) Zc)))))) (Ou (n:=2) rfl (J2 (Y9 (i:=3) nd) (J2 (Y9 (i:=4) nd) Ov)) (Yd (Yd V9))))
   (Zd (Xe Zf (X1 hu (Zb 1) Zj))
   (Zd (Xe (cP hP (Zp S.zae hr (by rfl) (Za (Zb 1) (Za (cP hP (Zp S.zag hr (by rfl) (Za (Zb 1) (Za Zf Zc)))) (Za Ur (Za Zf Zc)))))) (Ou (n:=2) rfl (J2 (Y9 (i:=5) nd) (J2 (Y9 (i:=6) nd) Ov)) (Yd (Yd V9))))
   (Zh (Zo (yT (cP hP (Zp S.zan hr (by rfl) (Za (Zb 3) (Za (Zb 4) Zc)))) (yT (cP hP (Zp S.zan hr (by rfl) (Za (Zb 5) (Za (Zb 6) Zc)))) (vG (cP hP (Zp S.zan hr (by rfl) (Za (Zb 3) (Za (Zb 4) Zc))))))))))))))⟩
def Km:Calls->WS:=Hm.1
def Tz:Calls->WS:=Sr.1
def Ph:Calls->WS:=Px.1
def Az:Calls->WS:=yc.1
def Uv:Calls->WS:=U8.1
def X8:Calls->WS:=Ws.1
def Vd:Calls->WS:=Vm.1
def Ux:Calls->WS:=Ta.1
def V0:Calls->WS:=Uh.1
def Ve:Calls->WS:=Vn.1
def Xm:Calls->WS:=Xp.1
def X7:Calls->WS:=Wr.1
def Fl:Calls->WS:=Dt.1
def Mo:Calls->WS:=La.1
def Mn:Calls->WS:=M9.1
def Xj:Calls->WS:=Xk.1
def xt:Calls->WS:=Ro.1
def xr:Calls->WS:=Rm.1
def xq:Calls->WS:=Rk.1
def xp:Calls->WS:=Rj.1
def xo:Calls->WS:=Ri.1
def xn:Calls->WS:=Rh.1
def xm:Calls->WS:=Rg.1
def xk:Calls->WS:=Rf.1
def xj:Calls->WS:=Re.1
def Tv:Calls->WS:=So.1
def T0:Calls->WS:=Ss.1
def Wt:Calls->WS:=W0.1
def J3:Calls->WS:=J9.1
def Tu:Calls->WS:=Sn.1
def Tw:Calls->WS:=Sq.1
def Qc:Calls->WS:=Q9.1
def Qb:Calls->WS:=Q8.1
def Ry:Calls->WS:=Q2.1
def Qa:Calls->WS:=Q7.1
def Kp:Calls->WS:=Q5.1
def xG:Calls->WS:=Q4.1
def Ko:Calls->WS:=Q3.1
def Rz:Calls->WS:=Ug.1
def R9:Calls->WS:=Q6.1
def Oe:Calls->WS:=O8.1
def ug:Calls->WS:=Oa.1
def uf:Calls->WS:=Pz.1
def ue:Calls->WS:=Py.1
def Of:Calls->WS:=O9.1
def ui:Calls->WS:=Oc.1
def uh:Calls->WS:=Ob.1
def Og:Calls->WS:=Na.1
def Ru:Calls->WS:=Qv.1
def Te:Calls->WS:=Wq.1
def Td:Calls->WS:=Wp.1
def Tc:Calls->WS:=Wo.1
def Uw:Calls->WS:=U9.1
def xF:Calls->WS:=Q0.1
def xE:Calls->WS:=Qz.1
def xD:Calls->WS:=Qy.1
def xC:Calls->WS:=Qx.1
def Rw:Calls->WS:=Uf.1
def xB:Calls->WS:=Qw.1
def Rv:Calls->WS:=Ue.1
def Rx:Calls->WS:=Q1.1
def Jz:Calls->WS:=Xl.1
def T1:Calls->WS:=Su.1
def w_law:Calls->WS:=je.1
abbrev vg:Nat:=0
abbrev Eu:Nat:=1
abbrev ul:Nat:=2
abbrev pS:Nat:=3
abbrev Hx:Nat:=4
abbrev jE:Nat:=5
abbrev Ls:Nat:=6
abbrev Hz:Nat:=7
abbrev Iy:Nat:=8
abbrev Lu:Nat:=9
abbrev Os:Nat:=10
abbrev M3:Nat:=11
abbrev yH:Nat:=12
abbrev jD:Nat:=13
abbrev Gy:Nat:=14
abbrev Vk:Nat:=15
abbrev Es:Nat:=16
abbrev Ew:Nat:=17
abbrev Ps:Nat:=18
abbrev V8:Nat:=19
abbrev Nz:Nat:=20
abbrev Et:Nat:=21
abbrev Bv:Nat:=22
abbrev Bu:Nat:=23
abbrev Bs:Nat:=24
abbrev Li:Nat:=25
abbrev Bt:Nat:=26
abbrev Iw:Nat:=27
abbrev Ix:Nat:=28
abbrev zI:Nat:=29
abbrev Br:Nat:=30
abbrev Hy:Nat:=31
abbrev Qn:Nat:=32
abbrev Lr:Nat:=33
abbrev Ey:Nat:=34
abbrev lM:Nat:=35
abbrev Bp:Nat:=36
def pr:List Df:=[⟨2,1,Km⟩,⟨3,2,Tz⟩,⟨5,2,Ph⟩,⟨2,1,Az⟩,⟨5,3,Uv⟩,⟨1,1,X8⟩,⟨1,1,Vd⟩,⟨3,2,Ux⟩,⟨2,2,V0⟩,⟨2,2,Ve⟩,⟨7,3,Xm⟩,⟨5,3,X7⟩,⟨3,1,Fl⟩,⟨1,1,Mo⟩,⟨5,2,Mn⟩,⟨8,4,Xj⟩,⟨7,3,Tv⟩,⟨5,3,T0⟩,⟨5,3,Wt⟩,⟨6,3,J3⟩,⟨5,2,Tu⟩,⟨9,4,Tw⟩,⟨5,2,Qc⟩,⟨5,2,Qb⟩,⟨4,1,Ry⟩,⟨4,2,Qa⟩,⟨4,3,R9⟩,⟨6,4,Oe⟩,⟨9,4,Of⟩,⟨13,4,Og⟩,⟨7,4,Ru⟩,⟨14,5,Uw⟩,⟨7,4,Rx⟩,⟨5,3,Jz⟩,⟨6,2,T1⟩,⟨7,1,w_law⟩,⟨0,0,jg "Slots" 5⟩]
def ZUU (i a r:Nat)(w:Calls->WS):Prop:=∀{n:Nat}{vs:List T}{C:Hw}{Q:WK}{χ:WX},vs.length=a->w (Ya pr n) {nx:=λ_ C'=>Q .non C',rt:=Q,xc:=χ} (vs.map some++List.replicate r none) C->Ya pr (n+1) i vs C Q χ
def xJ:ZUU 0 1 1 Km:=λhl h=>⟨_,rfl,hl,h⟩
def Ft:ZUU 1 2 1 Tz:=λhl h=>⟨_,rfl,hl,h⟩
def uj:ZUU 2 2 3 Ph:=λhl h=>⟨_,rfl,hl,h⟩
def rZ:ZUU 3 1 1 Az:=λhl h=>⟨_,rfl,hl,h⟩
def Hs:ZUU 4 3 2 Uv:=λhl h=>⟨_,rfl,hl,h⟩
def Mq:ZUU 5 1 0 X8:=λhl h=>⟨_,rfl,hl,h⟩
def Lo:ZUU 6 1 0 Vd:=λhl h=>⟨_,rfl,hl,h⟩
def Hu:ZUU 7 2 1 Ux:=λhl h=>⟨_,rfl,hl,h⟩
def Kr:ZUU 8 2 0 V0:=λhl h=>⟨_,rfl,hl,h⟩
def Lp:ZUU 9 2 0 Ve:=λhl h=>⟨_,rfl,hl,h⟩
def Oj:ZUU 10 3 4 Xm:=λhl h=>⟨_,rfl,hl,h⟩
def Mp:ZUU 11 3 2 X7:=λhl h=>⟨_,rfl,hl,h⟩
def uy:ZUU 12 1 2 Fl:=λhl h=>⟨_,rfl,hl,h⟩
def jj:ZUU 13 1 0 Mo:=λhl h=>⟨_,rfl,hl,h⟩
def ji:ZUU 14 2 3 Mn:=λhl h=>⟨_,rfl,hl,h⟩
def Sv:ZUU 15 4 4 Xj:=λhl h=>⟨_,rfl,hl,h⟩
def Fq:ZUU 16 3 4 Tv:=λhl h=>⟨_,rfl,hl,h⟩
def Fu:ZUU 17 3 2 T0:=λhl h=>⟨_,rfl,hl,h⟩
def Pi:ZUU 18 3 2 Wt:=λhl h=>⟨_,rfl,hl,h⟩
def V2:ZUU 19 3 3 J3:=λhl h=>⟨_,rfl,hl,h⟩
def Fp:ZUU 20 2 3 Tu:=λhl h=>⟨_,rfl,hl,h⟩
def Fs:ZUU 21 4 5 Tw:=λhl h=>⟨_,rfl,hl,h⟩
def Cj:ZUU 22 2 3 Qc:=λhl h=>⟨_,rfl,hl,h⟩
def Ci:ZUU 23 2 3 Qb:=λhl h=>⟨_,rfl,hl,h⟩
def Cf:ZUU 24 1 3 Ry:=λhl h=>⟨_,rfl,hl,h⟩
def Ch:ZUU 25 2 2 Qa:=λhl h=>⟨_,rfl,hl,h⟩
def Cg:ZUU 26 3 1 R9:=λhl h=>⟨_,rfl,hl,h⟩
def A2:ZUU 27 4 2 Oe:=λhl h=>⟨_,rfl,hl,h⟩
def A3:ZUU 28 4 5 Of:=λhl h=>⟨_,rfl,hl,h⟩
def A4:ZUU 29 4 9 Og:=λhl h=>⟨_,rfl,hl,h⟩
def Cb:ZUU 30 4 3 Ru:=λhl h=>⟨_,rfl,hl,h⟩
def Ht:ZUU 31 5 9 Uw:=λhl h=>⟨_,rfl,hl,h⟩
def Ce:ZUU 32 4 3 Rx:=λhl h=>⟨_,rfl,hl,h⟩
def Ln:ZUU 33 3 2 Jz:=λhl h=>⟨_,rfl,hl,h⟩
def Fv:ZUU 34 2 4 T1:=λhl h=>⟨_,rfl,hl,h⟩
def nJ:ZUU 35 1 6 w_law:=λhl h=>⟨_,rfl,hl,h⟩
section
variable {n:Nat}{vs:List T}{C:Hw}{Q:WK}{χ:WX}
def D8 (hl:vs.length=0)(h:∀p,C p=none->Ya pr n 5 (.ref p::vs) (up C p (.ins "Slots" [])) (λv C2=>v=.non/\Q (.ref p) C2) χ):Ya pr (n+1) 36 vs C Q χ:=⟨_,rfl,hl,vs,YK _,h⟩
end
section
variable {Pg:Program}{w:World}{K:W.Frag}{mg:Str->Option Value}{base:Heap}{f:Addr}{fd:FuncData}{n i:Nat}{pr:List Df}{x q:Str}{N ps:List Str}{st:Stmt}
def Rp (D:{W//SX 0 st N q W})(T:Txt w K mg)(S:Cs Pg w K mg base n pr)(sc:Z1 N ps (Zm st))(hd:pr[i]?=some ⟨N.length,ps.length,D.1⟩)(F:ya K x q st f fd):Ud Pg w K mg base CX0 (n+1) f fd ps (spW K pr (n+1) i):=pY F sc hd rfl rfl λ_ _ _ _ _ _ hr=>D.2 rfl T S hr
end
def db {C:List Value->Prop}(h:C []):∀us:List Value,us.length=0->C us
 | [],_=>h
def rK {C:List Value->Prop}(h:∀a,C [a]):∀us:List Value,us.length=1->C us
 | [a],_=>h a
def vO {C:List Value->Prop}(h:∀a b,C [a,b]):∀us:List Value,us.length=2->C us
 | [a,b],_=>h a b
def sC {C:List Value->Prop}(h:∀a b c,C [a,b,c]):∀us:List Value,us.length=3->C us
 | [a,b,c],_=>h a b c
def oH {C:List Value->Prop}(h:∀a b c d,C [a,b,c,d]):∀us:List Value,us.length=4->C us
 | [a,b,c,d],_=>h a b c d
def eE {C:List Value->Prop}(h:∀a b c d e,C [a,b,c,d,e]):∀us:List Value,us.length=5->C us
 | [a,b,c,d,e],_=>h a b c d e
def da {C:List Value->Prop}(h:∀a b c d e f,C [a,b,c,d,e,f]):∀us:List Value,us.length=6->C us
 | [a,b,c,d,e,f],_=>h a b c d e f
def all_mk {l:W.OpenLaw}{w:World}{K:W.Frag}{h:Heap}{mg:Str->Option Value}{fa Aa:Addr}(X:K.In h)(G:h.Ns mainGlobals mg)(hfa:mg "law"=some (.ref fa))
  (Ac:W.nsIn K mainGlobals "Slots"=some (some (.ref Aa)))
  (Ad:W.plainGet K Aa Str.empty=true) (Ae:W.hasDictIn K Aa=true) (Af:W.plainOver K Aa=true) (Ag:W.findIn K (.ref Aa) "__setattr__"=some (some (.builtin "object.__setattr__"))) (Al:W.keepIn K (.ref Aa)=true)
  (Am:W.makesIn K Aa=true)
  (Ah:W.findIn K (.ref Aa) "forms"=some none)
  (Ai:W.findIn K (.ref Aa) "leads"=some none)
  (l0:Fg K "scopes" Mr)
  (l1:Fg K "let_scopes" U0)
  (l2:Fg K "rows_scopes" V4)
  (l3:Fg K "free" F9)
  (l4:Fg K "gather_free" V5)
  (l5:Fh K Aa "__init__" "Slots.__init__" Xx)
  (l6:Fh K Aa "unknown" "Slots.unknown" Wd)
  (l7:Fh K Aa "known" "Slots.known" V6)
  (l8:Fh K Aa "shared" "Slots.shared" Vg)
  (l9:Fh K Aa "form_of" "Slots.form_of" Wg)
  (A1:Fh K Aa "make_alike" "Slots.make_alike" Xd)
  (A2:Fh K Aa "join_two" "Slots.join_two" Xw)
  (A3:Fg K "paper" Ku)
  (A4:Fg K "kind_of" Oo)
  (A5:Fg K "rows_of" Om)
  (A6:Fg K "places_within" X9)
  (A7:Fg K "part_slots" Ye)
  (A8:Fg K "does_slots" U1)
  (AA:Fg K "shape_slots" V3)
  (AB:Fg K "choose_slots" Vf)
  (AC:Fg K "told_kinds" Uy)
  (AD:Fg K "make_ready" Uz)
  (AE:Fg K "_law_deal" T9)
  (AF:Fg K "_law_draw" T8)
  (AG:Fg K "_law_name" T6)
  (AH:Fg K "_law_kind" T7)
  (AI:Fg K "_law_leaf" Jt)
  (AJ:Fg K "_law_two" Qe)
  (AK:Fg K "_law_own" Xq)
  (AL:Fg K "_law_let" W3)
  (AM:Fg K "_law_when" T4)
  (AN:Fg K "_law_choose" Jm)
  (AO:Fg K "_law_term" Yz)
  (AQ:Fg K "_law_comes_of" Wc)
  (AR:Fg K "_law_right" U2)
  (A0:Fg K "law" On)
  (Au:W.nsIn K mainGlobals "any"=some none)
  (Ar:W.nsIn K mainGlobals "dict"=some none)
  (Av:W.nsIn K mainGlobals "int"=some none)
  (Aj:W.nsIn K mainGlobals "isinstance"=some none)
  (Aw:W.nsIn K mainGlobals "len"=some none)
  (At:W.nsIn K mainGlobals "list"=some none)
  (Ax:W.nsIn K mainGlobals "max"=some none)
  (Ap:W.nsIn K mainGlobals "range"=some none)
  (An:W.nsIn K mainGlobals "reversed"=some none)
  (Ao:W.nsIn K mainGlobals "sorted"=some none)
  (Ay:W.nsIn K mainGlobals "sum"=some none)
  (Aq:W.nsIn K mainGlobals "tuple"=some none)
  (Az:W.nsIn K mainGlobals "zip"=some none)
  :∃fd:FuncData,(∀(s:Shared) (v:Value),BindsTo s fd ⟨[v],[]⟩ [("_law_script",v)])/\∀base:Heap,K.In base->base.Ns mainGlobals mg->Ud l.prog w K mg base CX0 100 fa fd ["_law_script"] (spW K pr 100 35):=by
 have L35:=Jc (ps:=["_law_script"]) X G A0 λ_ _ _ _ _ _=>rK λ_=>rfl
 obtain⟨AU,_,AS,⟨oc,od,kV,dc,pm,an,cd,ct,sl,rfl,ll,lc⟩,lk⟩:=A0
 have AT:=pX (st:=On) ll lc lk
 have e:=hfa.symm.trans (W.mg_of X G AS)
 cases e
 have T:Txt w K mg:=⟨W.mg_none_of X G Au,W.mg_none_of X G Ar,W.mg_none_of X G Av,W.mg_none_of X G Aj,W.mg_none_of X G Aw,W.mg_none_of X G At,W.mg_none_of X G Ax,W.mg_none_of X G Ap,W.mg_none_of X G An,W.mg_none_of X G Ao,W.mg_none_of X G Ay,W.mg_none_of X G Aq,W.mg_none_of X G Az,⟨Aa,Ac,⟨Ad,Ae,Af,Ag⟩,Ah⟩,⟨Aa,Ac,⟨Ad,Ae,Af,Ag⟩,Ai⟩⟩
 have Ab:Kl K mg "Slots" Aa:=⟨Ac,W.mg_of X G Ac,⟨Ad,Ae,Af,Ag⟩⟩
 have L0:=Jc (ps:=["term"]) X G l0 λ_ _ _ _ _ _=>rK λ_=>rfl
 have L1:=Jc (ps:=["pairs","body"]) X G l1 λ_ _ _ _ _ _=>vO λ_ _=>rfl
 have L2:=Jc (ps:=["body","steps"]) X G l2 λ_ _ _ _ _ _=>vO λ_ _=>rfl
 have L3:=Jc (ps:=["term"]) X G l3 λ_ _ _ _ _ _=>rK λ_=>rfl
 have L4:=Jc (ps:=["term","bound","found"]) X G l4 λ_ _ _ _ _ _=>sC λ_ _ _=>rfl
 have L5:=Im (ps:=["self"]) l5 λ_ _ _ _ _ _=>rK λ_=>rfl
 have L6:=Im (ps:=["self"]) l6 λ_ _ _ _ _ _=>rK λ_=>rfl
 have L7:=Im (ps:=["self","form"]) l7 λ_ _ _ _ _ _=>vO λ_ _=>rfl
 have L8:=Im (ps:=["self","slot"]) l8 λ_ _ _ _ _ _=>vO λ_ _=>rfl
 have L9:=Im (ps:=["self","slot"]) l9 λ_ _ _ _ _ _=>vO λ_ _=>rfl
 have L10:=Im (ps:=["self","one","other"]) A1 λ_ _ _ _ _ _=>sC λ_ _ _=>rfl
 have L11:=Im (ps:=["self","left","right"]) A2 λ_ _ _ _ _ _=>sC λ_ _ _=>rfl
 have L12:=Jc (ps:=["term"]) X G A3 λ_ _ _ _ _ _=>rK λ_=>rfl
 have L13:=Jc (ps:=["term"]) X G A4 λ_ _ _ _ _ _=>rK λ_=>rfl
 have L14:=Jc (ps:=["slots","term"]) X G A5 λ_ _ _ _ _ _=>vO λ_ _=>rfl
 have L15:=Jc (ps:=["slots","term","bound","slot"]) X G A6 λ_ _ _ _ _ _=>oH λ_ _ _ _=>rfl
 have L16:=Jc (ps:=["slots","term","slot"]) X G A7 λ_ _ _ _ _ _=>sC λ_ _ _=>rfl
 have L17:=Jc (ps:=["slots","op","slot"]) X G A8 λ_ _ _ _ _ _=>sC λ_ _ _=>rfl
 have L18:=Jc (ps:=["slots","shape","slot"]) X G AA λ_ _ _ _ _ _=>sC λ_ _ _=>rfl
 have L19:=Jc (ps:=["slots","shape","slot"]) X G AB λ_ _ _ _ _ _=>sC λ_ _ _=>rfl
 have L20:=Jc (ps:=["slots","rows"]) X G AC λ_ _ _ _ _ _=>vO λ_ _=>rfl
 have L21:=Jc (ps:=["slots","slot","ready","opened"]) X G AD λ_ _ _ _ _ _=>oH λ_ _ _ _=>rfl
 have L22:=Jc (ps:=["_law_cells","_law_mixed"]) X G AE λ_ _ _ _ _ _=>vO λ_ _=>rfl
 have L23:=Jc (ps:=["_law_deal_here","_law_many"]) X G AF λ_ _ _ _ _ _=>vO λ_ _=>rfl
 have L24:=Jc (ps:=["_law_deal_here"]) X G AG λ_ _ _ _ _ _=>rK λ_=>rfl
 have L25:=Jc (ps:=["_law_deal_here","_law_fuel"]) X G AH λ_ _ _ _ _ _=>vO λ_ _=>rfl
 have L26:=Jc (ps:=["_law_deal_here","_law_want","_law_names"]) X G AI λ_ _ _ _ _ _=>sC λ_ _ _=>rfl
 have L27:=Jc (ps:=["_law_deal_here","_law_both","_law_names","_law_fuel"]) X G AJ λ_ _ _ _ _ _=>oH λ_ _ _ _=>rfl
 have L28:=Jc (ps:=["_law_deal_here","_law_want","_law_names","_law_fuel"]) X G AK λ_ _ _ _ _ _=>oH λ_ _ _ _=>rfl
 have L29:=Jc (ps:=["_law_deal_here","_law_want","_law_names","_law_fuel"]) X G AL λ_ _ _ _ _ _=>oH λ_ _ _ _=>rfl
 have L30:=Jc (ps:=["_law_deal_here","_law_want","_law_names","_law_fuel"]) X G AM λ_ _ _ _ _ _=>oH λ_ _ _ _=>rfl
 have L31:=Jc (ps:=["_law_deal_here","_law_way","_law_want","_law_names","_law_fuel"]) X G AN λ_ _ _ _ _ _=>eE λ_ _ _ _ _=>rfl
 have L32:=Jc (ps:=["_law_deal_here","_law_want","_law_names","_law_fuel"]) X G AO λ_ _ _ _ _ _=>oH λ_ _ _ _=>rfl
 have L33:=Jc (ps:=["_law_told","_law_own_here","_law_instead"]) X G AQ λ_ _ _ _ _ _=>sC λ_ _ _=>rfl
 have L34:=Jc (ps:=["_law_term_here","_law_own_here"]) X G AR λ_ _ _ _ _ _=>vO λ_ _=>rfl
 refine⟨W.fnOf "law" "law" (Sh On) (Ww On) (Zm On) .none kV dc pm an cd ct,λs v=>.of_eq rfl,λbase _ _=>?_⟩
 have CS:∀n,Cs l.prog w K mg base n pr:=λn=>by
  induction n with
  | zero=>exact⟨Ny L0,Ny L1,Ny L2,Ny L3,Ny L4,Ny L12,Ny L13,Ny L14,Ny L15,Ny L16,Ny L17,Ny L18,Ny L19,Ny L20,Ny L21,Ny L22,Ny L23,Ny L24,Ny L25,Ny L26,Ny L27,Ny L28,Ny L29,Ny L30,Ny L31,Ny L32,Ny L33,Ny L34,Ny L35,pC Ab L5,pC Ab L6,pC Ab L7,pC Ab L8,pC Ab L9,pC Ab L10,pC Ab L11,fV (j:=36) rfl Ab Am Al L5⟩
  | succ n ih=>exact⟨Nx L0 (Rp Hm T ih Gp rfl),Nx L1 (Rp Sr T ih Pn rfl),Nx L2 (Rp Px T ih Ky rfl),Nx L3 (Rp yc T ih yk rfl),Nx L4 (Rp U8 T ih Qg rfl),Nx L12 (Rp Dt T ih Cq rfl),Nx L13 (Rp La T ih za rfl),Nx L14 (Rp M9 T ih Kz rfl),Nx L15 (Rp Xk T ih Tg rfl),Nx L16 (Rp So T ih Xg rfl),Nx L17 (Rp Ss T ih Po rfl),Nx L18 (Rp W0 T ih Qf rfl),Nx L19 (Rp J9 T ih Sy rfl),Nx L20 (Rp Sn T ih Pj rfl),Nx L21 (Rp Sq T ih Pm rfl),Nx L22 (Rp Q9 T ih Nm rfl),Nx L23 (Rp Q8 T ih Nl rfl),Nx L24 (Rp Q2 T ih Ni rfl),Nx L25 (Rp Q7 T ih Nk rfl),Nx L26 (Rp Q6 T ih Nj rfl),Nx L27 (Rp O8 T ih Lb rfl),Nx L28 (Rp O9 T ih W5 rfl),Nx L29 (Rp Na T ih Uj rfl),Nx L30 (Rp Qv T ih Nh rfl),Nx L31 (Rp U9 T ih J5 rfl),Nx L32 (Rp Q1 T ih Vr rfl),Nx L33 (Rp Xl T ih Th rfl),Nx L34 (Rp Su T ih Pp rfl),Nx L35 (Rp je T ih A9 rfl),pB Ab L5 (Rp Ws T ih Nn rfl),pB Ab L6 (Rp Vm T ih Mt rfl),pB Ab L7 (Rp Ta T ih Qh rfl),pB Ab L8 (Rp Uh T ih Sz rfl),pB Ab L9 (Rp Vn T ih Mu rfl),pB Ab L10 (Rp Xp T ih Vo rfl),pB Ab L11 (Rp Wr T ih Uk rfl),si (j:=36) rfl Ab Am Al ih.zbo⟩
 exact Rp je T (CS (99)) A9 rfl AT
end K23
namespace Fn
open PySem WL
inductive Kd where
 | op (n:Nat) | k0 (g:Str) | k1 (g:Str) (a:Kd) | k2 (g:Str) (a b:Kd)
inductive Fm where
 | f0 (g:Str) | f1 (g:Str) (a:Nat) | f2 (g:Str) (a b:Nat)
def Fm.ev (σ:Nat->Kd):Fm->Kd
 | .f0 g=>.k0 g
 | .f1 g a=>.k1 g (σ a)
 | .f2 g a b=>.k2 g (σ a) (σ b)
def Fm.ps:Fm->List Nat
 | .f0 _=>[]
 | .f1 _ a=>[a]
 | .f2 _ a b=>[a,b]
def Fm.tag:Fm->Str
 | .f0 g=>g
 | .f1 g _=>g
 | .f2 g _ _=>g
def N3 {σ σ':Nat->Kd}{f:Fm}(h:∀p∈f.ps,σ p=σ' p):f.ev σ=f.ev σ':=by
 cases f with
 | f0 g=>rfl
 | f1 g a=>show Kd.k1 g _=Kd.k1 g _;rw[h a (by simp[Fm.ps])]
 | f2 g a b=>show Kd.k2 g _ _=Kd.k2 g _ _;rw[h a (by simp[Fm.ps]),h b (by simp[Fm.ps])]
structure Us where
 rt:Nat->Nat
 F:List (Option Fm)
structure Us.Ok (u:Us):Prop where
 lt:∀x,x<u.F.length->u.rt x<u.F.length
 id:∀x,x<u.F.length->u.rt (u.rt x)=u.rt x
 ps:∀(x:Nat) (f:Fm),u.F[x]?=some (some f)->∀p∈f.ps,p<u.F.length
def U7 (u:Us)(σ:Nat->Kd):Prop:=(∀x,x<u.F.length->σ x=σ (u.rt x))/\∀(x:Nat) (f:Fm),u.F[x]?=some (some f)->σ x=f.ev σ
def Vp (E:Nat->Nat->Prop):Fm->Fm->Prop
 | .f0 g,.f0 h=>g=h
 | .f1 g a,.f1 h c=>g=h/\E a c
 | .f2 g a b,.f2 h c d=>g=h/\E a c/\E b d
 | _,_=>False
def Vp.imp {E E':Nat->Nat->Prop}(h:∀a b,E a b->E' a b):∀{f g:Fm},Vp E f g->Vp E' f g
 | .f0 _,.f0 _,q=>q
 | .f1 _ _,.f1 _ _,q=>⟨q.1,h _ _ q.2⟩
 | .f2 _ _ _,.f2 _ _ _,q=>⟨q.1,h _ _ q.2.1,h _ _ q.2.2⟩
def Vp.refl {E:Nat->Nat->Prop}(h:∀a,E a a):∀f:Fm,Vp E f f
 | .f0 _=>rfl
 | .f1 _ _=>⟨rfl,h _⟩
 | .f2 _ _ _=>⟨rfl,h _,h _⟩
def Vp.trans {E:Nat->Nat->Prop}(h:∀a b c,E a b->E b c->E a c):∀{f g k:Fm},Vp E f g->Vp E g k->Vp E f k
 | .f0 _,.f0 _,.f0 _,p,q=>Eq.trans p q
 | .f1 _ _,.f1 _ _,.f1 _ _,p,q=>⟨p.1.trans q.1,h _ _ _ p.2 q.2⟩
 | .f2 _ _ _,.f2 _ _ _,.f2 _ _ _,p,q=>⟨p.1.trans q.1,h _ _ _ p.2.1 q.2.1,h _ _ _ p.2.2 q.2.2⟩
def Vp.symm {E:Nat->Nat->Prop}(h:∀a b,E a b->E b a):∀{f g:Fm},Vp E f g->Vp E g f
 | .f0 _,.f0 _,q=>Eq.symm q
 | .f1 _ _,.f1 _ _,q=>⟨q.1.symm,h _ _ q.2⟩
 | .f2 _ _ _,.f2 _ _ _,q=>⟨q.1.symm,h _ _ q.2.1,h _ _ q.2.2⟩
inductive Gg (u:Us)(pl:List (Nat×Nat)):Nat->Nat->Prop
 | rt {a b:Nat}:u.rt a=u.rt b->Gg u pl a b
 | pr {a b:Nat}:(a,b)∈pl->Gg u pl a b
 | sym {a b:Nat}:Gg u pl a b->Gg u pl b a
 | tr {a b c:Nat}:Gg u pl a b->Gg u pl b c->Gg u pl a c
def Gg.nil {u:Us}{a b:Nat}(h:Gg u [] a b):u.rt a=u.rt b:=by
 induction h with
 | rt e=>exact e
 | pr m=>cases m
 | sym _ ih=>exact ih.symm
 | tr _ _ i j=>exact i.trans j
def Gg.mono {u u':Us}{pl pl':List (Nat×Nat)}(h1:∀a b,u.rt a=u.rt b->Gg u' pl' a b)(h2:∀a b,(a,b)∈pl->Gg u' pl' a b){a b:Nat}(h:Gg u pl a b):Gg u' pl' a b:=by
 induction h with
 | rt e=>exact h1 _ _ e
 | pr m=>exact h2 _ _ m
 | sym _ ih=>exact .sym ih
 | tr _ _ i j=>exact .tr i j
def Vz (u:Us)(pl:List (Nat×Nat)):Prop:=∀(x:Nat) (f:Fm),u.F[x]?=some (some f)->∃g,u.F[u.rt x]?=some (some g)/\Vp (Gg u pl) f g
def Us.add (u:Us)(f:Option Fm):Us:={rt:=λx=>if x=u.F.length then x else u.rt x,F:=u.F++[f]}
def Us.join (u:Us)(a b:Nat):Us:={u with rt:=λx=>if u.rt x=a then b else u.rt x}
section
variable {u:Us}{a b x y:Nat}{σ:Nat->Kd}{pl:List (Nat×Nat)}
def Er (o:u.Ok)(ha:u.rt a=a)(hb:u.rt b=b)(hlb:b<u.F.length)(n:a≠b):(u.join a b).Ok where
 lt:=λx hx=>by
  show(if u.rt x=a then b else u.rt x)<_
  split
  ·exact hlb
  ·exact o.lt x hx
 id:=λx hx=>by
  show(if u.rt (if u.rt x=a then b else u.rt x)=a then b else u.rt (if u.rt x=a then b else u.rt x))=(if u.rt x=a then b else u.rt x)
  by_cases c:u.rt x=a
  ·rw[XY c,hb,XX (Ne.symm n)]
  ·rw[XX c,o.id x hx,XX c]
 ps:=o.ps
def Ep (e:u.rt x=u.rt y):(u.join a b).rt x=(u.join a b).rt y:=by
 show(if u.rt x=a then b else u.rt x)=(if u.rt y=a then b else u.rt y)
 rw[e]
def Ip (ha:u.rt a=a)(hb:u.rt b=b)(hla:a<u.F.length)(o:u.Ok):U7 (u.join a b) σ↔U7 u σ/\σ a=σ b:=by
 constructor
 ·rintro⟨h1,h2⟩
  have ea:σ a=σ b:=by
   have:=h1 a hla
   rw[show(u.join a b).rt a=b from XY ha] at this
   exact this
  refine⟨⟨λx hx=>?_,h2⟩,ea⟩
  have h:=h1 x hx
  by_cases c:u.rt x=a
  ·rw[show(u.join a b).rt x=b from XY c] at h
   rw[c,h,ea]
  ·rw[show(u.join a b).rt x=u.rt x from XX c] at h
   exact h
 ·rintro⟨⟨h1,h2⟩,ea⟩
  refine⟨λx hx=>?_,h2⟩
  have h:=h1 x hx
  by_cases c:u.rt x=a
  ·rw[show(u.join a b).rt x=b from XY c,h,c,ea]
  ·rw[show(u.join a b).rt x=u.rt x from XX c]
   exact h
def Us.cnt (u:Us):Nat:=((List.range u.F.length).filter λx=>u.rt x==x).length
def Da {p q:Nat->Bool}(h:∀x,p x=true->q x=true):∀l:List Nat,(l.filter p).length<=(l.filter q).length
 | []=>XE _
 | x::l=>by
  by_cases c:p x=true
  ·rw[List.filter_cons_of_pos c,List.filter_cons_of_pos (h x c)];exact Nat.succ_le_succ (Da h l)
  ·rw[List.filter_cons_of_neg c]
   by_cases d:q x=true
   ·rw[List.filter_cons_of_pos d];exact Nat.le_succ_of_le (Da h l)
   ·rw[List.filter_cons_of_neg d];exact Da h l
def E9 {p q:Nat->Bool}(h:∀x,p x=true->q x=true){a:Nat}(hp:p a=false)(hq:q a=true):∀l:List Nat,a∈l->(l.filter p).length<(l.filter q).length
 | [],m=>by cases m
 | x::l,m=>by
  by_cases e:x=a
  ·subst e
   rw[List.filter_cons_of_neg (by rw[hp];decide),List.filter_cons_of_pos hq]
   exact Nat.lt_succ_of_le (Da h l)
  ·have hm:a∈l:=(List.mem_cons.mp m).resolve_left λz=>e z.symm
   by_cases c:p x=true
   ·rw[List.filter_cons_of_pos c,List.filter_cons_of_pos (h x c)];exact Nat.succ_lt_succ (E9 h hp hq l hm)
   ·rw[List.filter_cons_of_neg c]
    by_cases d:q x=true
    ·rw[List.filter_cons_of_pos d];exact Nat.lt_succ_of_lt (E9 h hp hq l hm)
    ·rw[List.filter_cons_of_neg d];exact E9 h hp hq l hm
def Iq (ha:u.rt a=a)(hb:u.rt b=b)(hla:a<u.F.length)(n:a≠b):(u.join a b).cnt<u.cnt:=by
 refine E9 (p:=λx=>(u.join a b).rt x==x) (q:=λx=>u.rt x==x) (a:=a) (λx h=>?_) ?_ (beq_iff_eq.mpr ha) _ (List.mem_range.mpr hla)
 ·have h:(if u.rt x=a then b else u.rt x)=x:=beq_iff_eq.mp h
  by_cases c:u.rt x=a
  ·rw[XY c] at h
   subst h
   exact absurd (c.symm.trans hb) n
  ·rw[XX c] at h
   exact beq_iff_eq.mpr h
 ·refine beq_eq_false_iff_ne.mpr ?_
  show(if u.rt a=a then b else u.rt a)≠a
  rw[XY ha]
  exact Ne.symm n
def Vl {f:Option Fm}(o:u.Ok)(h:∀g,f=some g->∀p∈g.ps,p<u.F.length):(u.add f).Ok where
 lt:=λx hx=>by
  have hx:x<(u.F++[f]).length:=hx
  show(if x=u.F.length then x else u.rt x)<(u.F++[f]).length
  rw[List.length_append,List.length_singleton] at hx |-
  split
  ·exact hx
  ·have:=o.lt x (by omega);omega
 id:=λx hx=>by
  have hx:x<(u.F++[f]).length:=hx
  rw[List.length_append,List.length_singleton] at hx
  show(if (if x=u.F.length then x else u.rt x)=u.F.length then(if x=u.F.length then x else u.rt x) else u.rt (if x=u.F.length then x else u.rt x))=(if x=u.F.length then x else u.rt x)
  by_cases c:x=u.F.length
  ·rw[XY c,XY c]
  ·have:=o.lt x (by omega)
   rw[XX c,XX (by omega),o.id x (by omega)]
 ps:=λx g hx p hp=>by
  have hx:(u.F++[f])[x]?=some (some g):=hx
  show p<(u.F++[f]).length
  rw[List.length_append,List.length_singleton]
  by_cases c:x<u.F.length
  ·rw[List.getElem?_append_left c] at hx
   have:=o.ps x g hx p hp
   omega
  ·have e:x=u.F.length:=by
    have:=(List.getElem?_eq_some_iff.mp hx).1
    rw[List.length_append,List.length_singleton] at this
    omega
   subst e
   rw[List.getElem?_append_right (XE _),Nat.sub_self] at hx
   have:=h g (YH hx) p hp
   omega
def Mg {f:Option Fm}(h:x<u.F.length):(u.add f).rt x=u.rt x:=XX (by omega)
def yZ {f:Option Fm}:(u.add f).rt u.F.length=u.F.length:=XY rfl
def Z2 {f:Option Fm}:(u.add f).F.length=u.F.length+1:=by show(u.F++[f]).length=_;rw[List.length_append];rfl
def Kk {f:Option Fm}(h:x<u.F.length):(u.add f).F[x]?=u.F[x]?:=List.getElem?_append_left h
def vX {f:Option Fm}:(u.add f).F[u.F.length]?=some f:=by show(u.F++[f])[u.F.length]?=_;rw[List.getElem?_append_right (XE _),Nat.sub_self];rfl
def Wz {f:Option Fm}(o:u.Ok):U7 (u.add f) σ↔U7 u σ/\∀g,f=some g->σ u.F.length=g.ev σ:=by
 constructor
 ·rintro⟨h1,h2⟩
  refine⟨⟨λx hx=>?_,λx g hx=>?_⟩,λg e=>h2 _ g (by rw[vX,e])⟩
  ·have:=h1 x (by rw[Z2];omega)
   rw[Mg hx] at this
   exact this
  ·have hl:=(List.getElem?_eq_some_iff.mp hx).1
   exact h2 x g (by rw[Kk hl];exact hx)
 ·rintro⟨⟨h1,h2⟩,h3⟩
  refine⟨λx hx=>?_,λx g hx=>?_⟩
  ·rw[Z2] at hx
   by_cases c:x=u.F.length
   ·subst c;rw[yZ]
   ·rw[Mg (by omega)];exact h1 x (by omega)
  ·have hl:=(List.getElem?_eq_some_iff.mp hx).1
   rw[Z2] at hl
   by_cases c:x=u.F.length
   ·subst c;rw[vX] at hx;exact h3 g (YH hx)
   ·rw[Kk (by omega)] at hx;exact h2 x g hx
def Vv {f:Option Fm}(o:u.Ok)(h:Vz u []):Vz (u.add f) []:=λx g hx=>by
 have hl:=(List.getElem?_eq_some_iff.mp hx).1
 rw[Z2] at hl
 by_cases c:x=u.F.length
 ·subst c
  rw[yZ]
  exact⟨g,hx,Vp.refl (λa=>.rt rfl) g⟩
 ·rw[Kk (by omega)] at hx
  obtain⟨k,h1,h2⟩:=h x g hx
  have hr:=o.lt x (by omega)
  rw[Mg (by omega)]
  have hk:=o.ps _ k h1
  have hg:=o.ps _ g hx
  refine⟨k,by rw[Kk hr];exact h1,?_⟩
  have key:∀a b,a<u.F.length->b<u.F.length->Gg u [] a b->Gg (u.add f) [] a b:=λa b ha hb e=>.rt (by rw[Mg ha,Mg hb];exact e.nil)
  cases g with
  | f0 w=>cases k with
   | f0 v=>exact h2
   | f1 v c=>exact h2.elim
   | f2 v c d=>exact h2.elim
  | f1 w c=>cases k with
   | f0 v=>exact h2.elim
   | f1 v d=>exact⟨h2.1,key _ _ (hg _ (by simp[Fm.ps])) (hk _ (by simp[Fm.ps])) h2.2⟩
   | f2 v c d=>exact h2.elim
  | f2 w c d=>cases k with
   | f0 v=>exact h2.elim
   | f1 v d=>exact h2.elim
   | f2 v c' d'=>exact⟨h2.1,key _ _ (hg _ (by simp[Fm.ps])) (hk _ (by simp[Fm.ps])) h2.2.1,key _ _ (hg _ (by simp[Fm.ps])) (hk _ (by simp[Fm.ps])) h2.2.2⟩
def Du (f g:Fm):List (Nat×Nat):=f.ps.zip g.ps
def vM {p:Nat×Nat}(e:u.rt p.1=u.rt p.2)(h:Vz u (p::pl)):Vz u pl:=λx f hx=>by
 obtain⟨g,h1,h2⟩:=h x f hx
 refine⟨g,h1,h2.imp λc d q=>q.mono (λ_ _ z=>.rt z) λc d m=>?_⟩
 rcases List.mem_cons.mp m with z | m
 ·subst z;exact .rt e
 ·exact .pr m
def vL {p:Nat×Nat}(e1:u.rt p.1=a)(e2:u.rt p.2=b)(ha:u.F[a]?=some none)(h:Vz u (p::pl))(o:u.Ok)(hb:u.rt b=b)(n:a≠b):Vz (u.join a b) pl:=λx f hx=>by
 obtain⟨g,h1,h2⟩:=h x f hx
 have c:u.rt x≠a:=λz=>by rw[z,ha] at h1;cases h1
 refine⟨g,by rw[show(u.join a b).rt x=u.rt x from XX c];exact h1,h2.imp λc d q=>q.mono (λ_ _ z=>.rt (Ep z)) λc d m=>?_⟩
 rcases List.mem_cons.mp m with z | m
 ·subst z
  refine .rt ?_
  show(if u.rt c=a then b else u.rt c)=(if u.rt d=a then b else u.rt d)
  rw[XY e1,XX (by rw[e2];exact Ne.symm n),e2]
 ·exact .pr m
def jO {p:Nat×Nat}{f g:Fm}(e1:u.rt p.1=a)(e2:u.rt p.2=b)(ha:u.rt a=a)(hfa:u.F[a]?=some (some f))(hfb:u.F[b]?=some (some g))(al:f.tag=g.tag/\f.ps.length=g.ps.length)(h:Vz u (p::pl))(n:a≠b):
  Vz (u.join b a) (pl++Du f g):=λx k hx=>by
 obtain⟨k',h1,h2⟩:=h x k hx
 have mo:∀c d,Gg u (p::pl) c d->Gg (u.join b a) (pl++Du f g) c d:=λc d q=>q.mono (λ_ _ z=>.rt (Ep z)) λc d m=>by
  rcases List.mem_cons.mp m with z | m
  ·subst z
   refine .rt ?_
   show(if u.rt c=b then a else u.rt c)=(if u.rt d=b then a else u.rt d)
   rw[XX (by rw[e1];exact n),XY e2,e1]
  ·exact .pr (List.mem_append_left _ m)
 have fg:Vp (Gg (u.join b a) (pl++Du f g)) g f:=by
  refine Vp.symm (λ_ _ z=>.sym z) ?_
  have pr:∀c d,(c,d)∈Du f g->Gg (u.join b a) (pl++Du f g) c d:=λc d m=>.pr (XT _ m)
  cases f with
  | f0 w=>cases g with
   | f0 v=>exact al.1
   | f1 v c=>exact absurd al.2 (by simp[Fm.ps])
   | f2 v c d=>exact absurd al.2 (by simp[Fm.ps])
  | f1 w c=>cases g with
   | f0 v=>exact absurd al.2 (by simp[Fm.ps])
   | f1 v d=>exact⟨al.1,pr _ _ (by simp[Du,Fm.ps])⟩
   | f2 v c d=>exact absurd al.2 (by simp[Fm.ps])
  | f2 w c d=>cases g with
   | f0 v=>exact absurd al.2 (by simp[Fm.ps])
   | f1 v d=>exact absurd al.2 (by simp[Fm.ps])
   | f2 v c' d'=>exact⟨al.1,pr _ _ (by simp[Du,Fm.ps]),pr _ _ (by simp[Du,Fm.ps])⟩
 by_cases c:u.rt x=b
 ·rw[c,hfb] at h1
  cases h1
  exact⟨f,by rw[show(u.join b a).rt x=a from XY c];exact hfa,(h2.imp mo).trans (λ_ _ _ y z=>.tr y z) fg⟩
 ·exact⟨k',by rw[show(u.join b a).rt x=u.rt x from XX c];exact h1,h2.imp mo⟩
def zR {p:Nat×Nat}(e1:u.rt p.1=a)(e2:u.rt p.2=b)(hfb:u.F[b]?=some none)(h:Vz u (p::pl))(n:a≠b):Vz (u.join b a) pl:=λx f hx=>by
 obtain⟨g,h1,h2⟩:=h x f hx
 have c:u.rt x≠b:=λz=>by rw[z,hfb] at h1;cases h1
 refine⟨g,by rw[show(u.join b a).rt x=u.rt x from XX c];exact h1,h2.imp λc d q=>q.mono (λ_ _ z=>.rt (Ep z)) λc d m=>?_⟩
 rcases List.mem_cons.mp m with z | m
 ·subst z
  refine .rt ?_
  show(if u.rt c=b then a else u.rt c)=(if u.rt d=b then a else u.rt d)
  rw[XX (by rw[e1];exact n),XY e2,e1]
 ·exact .pr m
def Hd {f g:Fm}(h:f.ev σ=g.ev σ):(f.tag=g.tag/\f.ps.length=g.ps.length)/\∀p∈Du f g,σ p.1=σ p.2:=by
 cases f with
 | f0 w=>cases g with
  | f0 v=>injection h with h;exact⟨⟨h,rfl⟩,λp m=>by cases m⟩
  | f1 v c=>cases h
  | f2 v c d=>cases h
 | f1 w c=>cases g with
  | f0 v=>cases h
  | f1 v d=>injection h with h1 h2;exact⟨⟨h1,rfl⟩,λp m=>by simp[Du,Fm.ps] at m;subst m;exact h2⟩
  | f2 v c d=>cases h
 | f2 w c d=>cases g with
  | f0 v=>cases h
  | f1 v d=>cases h
  | f2 v c' d'=>injection h with h1 h2 h3;exact⟨⟨h1,rfl⟩,λp m=>by
    simp[Du,Fm.ps] at m
    rcases m with rfl | rfl
    ·exact h2
    ·exact h3⟩
end
end Fn
namespace WL
open PySem PySem.Spec PyProof.Rows L2
def Ex (C C':Hw):Prop:=∀a o,C a=some o->C' a=some o
def Ex.refl (C:Hw):Ex C C:=λ_ _ h=>h
def Ex.trans {C C1 C2:Hw}(a:Ex C C1)(b:Ex C1 C2):Ex C C2:=λc o h=>b c o (a c o h)
def cne {C:Hw}{a b:Addr}{o:O}(h:C a=some o)(h':C b=none):a≠b:=λe=>by subst e;rw[h] at h';cases h'
def Ex.new {C:Hw}{p:Addr}{o:O}(h:C p=none):Ex C (up C p o):=λa u e=>by rw[Zg (cne e h)];exact e
def Ex.up {C C':Hw}{p:Addr}{o:O}(e:Ex C C')(h:C p=none):Ex C (up C' p o):=λa u q=>by rw[Zg (cne q h)];exact e a u q
def xw {C:Hw}{p q:Addr}{o:O}(h:up C p o q=none):q≠p/\C q=none:=by
 have n:q≠p:=λz=>by subst z;rw[Ze] at h;cases h
 rw[Zg n] at h
 exact⟨n,h⟩
def Ex.free {C C':Hw}(e:Ex C C'){p:Addr}(h:C' p=none):C p=none:=by
 cases q:C p with
 | none=>rfl
 | some o=>rw[e p o q] at h;cases h
def dj (p:Addr)(C C':Hw):Prop:=∀a o,a≠p->C a=some o->C' a=some o
def G1:∀{xs:List T} {n:Nat},Yr xs n=true↔∀x∈xs,Y5 x n=true
 | [],n=>by unfold Yr;simp
 | x::xs,n=>by unfold Yr;rw[Bool.and_eq_true,G1];simp
def Ad {x:Str}{n:Nat}:Y5 (.str x) n=true:=by unfold Y5;rfl
def vp {x:Int}{n:Nat}:Y5 (.int x) n=true:=by unfold Y5;rfl
def tS {x:Bool}{n:Nat}:Y5 (.bl x) n=true:=by unfold Y5;rfl
def Ir {x:Str}:Yk (.str x)=True:=eq_true Ad
def Iu {x:Int}:Yk (.int x)=True:=eq_true vp
def Gx {x:Bool}:Yk (.bl x)=True:=eq_true tS
def zL {xs:List Str}{n:Nat}:Yr (xs.map T.str) n=true:=G1.mpr λx hx=>by obtain⟨y,_,rfl⟩:=XR.mp hx;exact Ad
section
variable {n:Bool}{C:Hw}{Q:WK}
def Wu {a b:Str}:Oi n (.str a) (.str b) C Q=Q (.bl (if n=true then !(a==b) else a==b)) C:=by
 show(Yk _/\Yk _/\Q (.bl (if n=true then !eqT (.str a) (.str b) else eqT (.str a) (.str b))) C)=_
 rw[Ir,Ir,true_and,true_and,show eqT (.str a) (.str b)=(a==b) by unfold eqT;rfl]
def Lx {a b:Int}:Oi n (.int a) (.int b) C Q=Q (.bl (if n=true then !(a==b) else a==b)) C:=by
 show(Yk _/\Yk _/\Q (.bl (if n=true then !eqT (.int a) (.int b) else eqT (.int a) (.int b))) C)=_
 rw[Iu,Iu,true_and,true_and,show eqT (.int a) (.int b)=(a==b) by unfold eqT;rfl]
def rY {a b:Bool}:Oi n (.bl a) (.bl b) C Q=Q (.bl (if n=true then !(a==b) else a==b)) C:=by
 show(Yk _/\Yk _/\Q (.bl (if n=true then !eqT (.bl a) (.bl b) else eqT (.bl a) (.bl b))) C)=_
 rw[Gx,Gx,true_and,true_and,show eqT (.bl a) (.bl b)=(a==b) by unfold eqT;rfl]
end
section
variable {α:Type}{a b c d e:α}{xs:List α}
def pZ:(a::xs).eraseIdx 0=xs:=rfl
def Zv:Pe (a::xs) 0=some a:=Vu (j:=0) rfl
def Ym:Pe (a::b::xs) 1=some b:=Vu (j:=1) rfl
def Vb:Pe (a::b::c::xs) 2=some c:=Vu (j:=2) rfl
def kn:Pe (a::b::c::d::xs) 3=some d:=Vu (j:=3) rfl
def km:Pe (a::b::c::d::e::xs) 4=some e:=Vu (j:=4) rfl
def oQ:Pe [a] (-1)=some a:=rfl
def oP:Pe [a,b] (-1)=some b:=rfl
def oO:Pe [a,b,c] (-1)=some c:=rfl
def oN:Pe [a,b,c,d] (-1)=some d:=rfl
end
def Uq {g:WG}{b:WS}{ok:Hw->Prop}{D:We}{xs:List T}(Pv:Nat->Sw->Hw->Prop){τ:Sw}{C:Hw}(h0:Pv 0 τ C)(hok:∀i τ C,i<=xs.length->Pv i τ C->ok C)
  (hs:∀i x τ C (N:Sw->Hw->Prop),xs[i]?=some x->Pv i τ C->(∀τ' C',Pv (i+1) τ' C'->N τ' C')->g x τ C (λτ2 C2=>b {D with nx:=N,ct:=N,bk:=D.nx} τ2 C2) D.xc)
  (hd:∀τ C,Pv xs.length τ C->D.nx τ C):Ac g b ok D xs τ C:=by
 have key:∀(k i:Nat) (τ:Sw) (C:Hw),xs.length-i=k->i<=xs.length->Pv i τ C->Ac g b ok D (xs.drop i) τ C:=by
  intro k
  induction k with
  | zero=>
   intro i τ C hk hi hp
   have e:i=xs.length:=by omega
   subst e
   rw[List.drop_length]
   exact⟨hok _ τ C (XE _) hp,hd τ C hp⟩
  | succ k ih=>
   intro i τ C hk hi hp
   have hlt:i<xs.length:=by omega
   rw[List.drop_eq_getElem_cons hlt]
   exact⟨hok i τ C hi hp,hs i _ τ C _ (by simp[hlt]) hp λτ' C' h=>ih (i+1) τ' C' (by omega) hlt h⟩
 exact key xs.length 0 τ C (by simp) (Nat.zero_le _) h0
def yq (lo:Int)(n:Nat):(rng lo n).length=n:=by unfold rng;simp
def uH {lo:Int}{n i:Nat}{x:T}(h:(rng lo n)[i]?=some x):i<n/\x=.int (lo+i):=by
 have hi:i<n:=by
  have:=(List.getElem?_eq_some_iff.mp h).1
  rw[yq] at this;exact this
 unfold rng at h
 rw[XM,List.getElem?_range hi] at h
 cases h
 exact⟨hi,rfl⟩
def yK {g:WG}{b:WS}{ok:Hw->Prop}{D:We}{lo:Int}{n:Nat}(Pv:Nat->Sw->Hw->Prop){τ:Sw}{C:Hw}(h0:Pv 0 τ C)(hok:∀C,ok C)
  (hs:∀i τ C (N:Sw->Hw->Prop),i<n->Pv i τ C->(∀τ' C',Pv (i+1) τ' C'->N τ' C')->g (.int (lo+i)) τ C (λτ2 C2=>b {D with nx:=N,ct:=N,bk:=D.nx} τ2 C2) D.xc)
  (hd:∀τ C,Pv n τ C->D.nx τ C):Ac g b ok D (rng lo n) τ C:=by
 refine Uq Pv h0 (λ_ _ C _ _=>hok C) (λi x τ C N hx hp hN=>?_) (λτ C h=>hd τ C (by rw[yq] at h;exact h))
 obtain⟨hi,rfl⟩:=uH hx
 exact hs i τ C N hi hp hN
def Tp {g:WG}{c:WT}{e:WE}{ok:Hw->Prop}{τ:Sw}{Q:List T->Hw->Prop}{χ:WX}{xs:List T}(Pv:Nat->List T->Hw->Prop){C:Hw}(h0:Pv 0 [] C)(hok:∀i acc C,i<=xs.length->Pv i acc C->ok C)
  (hs:∀i x acc C (N:List T->Hw->Prop),xs[i]?=some x->Pv i acc C->(∀acc' C',Pv (i+1) acc' C'->N acc' C')->
   g x τ C (λτ2 C2=>c τ2 C2 (λb C3=>if b=true then e τ2 C3 (λv C4=>acc.length<sizeLine/\N (acc++[v]) C4) χ else N acc C3) χ) χ)
  (hd:∀acc C,Pv xs.length acc C->Q acc C):Me g c e ok τ Q χ xs [] C:=by
 have key:∀(k i:Nat) (acc:List T) (C:Hw),xs.length-i=k->i<=xs.length->Pv i acc C->Me g c e ok τ Q χ (xs.drop i) acc C:=by
  intro k
  induction k with
  | zero=>
   intro i acc C hk hi hp
   have e:i=xs.length:=by omega
   subst e
   rw[List.drop_length]
   exact⟨hok _ acc C (XE _) hp,hd acc C hp⟩
  | succ k ih=>
   intro i acc C hk hi hp
   have hlt:i<xs.length:=by omega
   rw[List.drop_eq_getElem_cons hlt]
   exact⟨hok i acc C hi hp,hs i _ acc C _ (by simp[hlt]) hp λacc' C' h=>ih (i+1) acc' C' (by omega) hlt h⟩
 exact key xs.length 0 [] C (by simp) (Nat.zero_le _) h0
def tZ {g:WG}{c:WT}{e:WE}{ok:Hw->Prop}{τ:Sw}{Q:List T->Hw->Prop}{χ:WX}{xs:List T}(f:T->Option T){C:Hw}(hok:ok C)(hl:xs.length<=sizeLine)
  (hs:∀x∈xs,∀(R:WK) (N:Hw->Prop),(∀v,f x=some v->R v C)->(f x=none->N C)->g x τ C (λτ2 C2=>c τ2 C2 (λb C3=>if b=true then e τ2 C3 R χ else N C3) χ) χ) (hd:Q (xs.filterMap f) C):Me g c e ok τ Q χ xs [] C:=by
 refine Tp (λi acc C'=>C'=C/\acc=(xs.take i).filterMap f) ⟨rfl,rfl⟩ (λi acc C' _ h=>by rw[h.1];exact hok) (λi x acc C' N hx hp hN=>?_) (λacc C' h=>?_)
 ·obtain⟨rfl,rfl⟩:=hp
  have hi:i<xs.length:=(List.getElem?_eq_some_iff.mp hx).1
  refine hs x (List.mem_of_getElem? hx) _ _ (λv hv=>⟨?_,hN _ _ ⟨rfl,?_⟩⟩) (λhv=>hN _ _ ⟨rfl,?_⟩)
  ·have:=List.length_filterMap_le f (xs.take i)
   rw[YM] at this
   omega
  ·rw[YD,hx,List.filterMap_append]
   simp[hv]
  ·rw[YD,hx,List.filterMap_append]
   simp[hv]
 ·obtain⟨rfl,rfl⟩:=h
  rw[List.take_length];exact hd
def Xt {g:WG}{e:WE}{ok:Hw->Prop}{τ:Sw}{Q:List T->Hw->Prop}{χ:WX}{xs:List T}(f:T->T){C:Hw}(hok:ok C)(hl:xs.length<=sizeLine)
  (hs:∀x∈xs,∀R:WK,R (f x) C->g x τ C (λτ2 C2=>e τ2 C2 R χ) χ) (hd:Q (xs.map f) C):Me g qd e ok τ Q χ xs [] C:=by
 refine Tp (λi acc C'=>C'=C/\acc=(xs.take i).map f) ⟨rfl,rfl⟩ (λi acc C' _ h=>by rw[h.1];exact hok) (λi x acc C' N hx hp hN=>?_) (λacc C' h=>?_)
 ·obtain⟨rfl,rfl⟩:=hp
  have hi:i<xs.length:=(List.getElem?_eq_some_iff.mp hx).1
  refine hs x (List.mem_of_getElem? hx) _ ⟨?_,hN _ _ ⟨rfl,?_⟩⟩
  ·rw[XI,YM];omega
  ·rw[YD,hx,XL];rfl
 ·obtain⟨rfl,rfl⟩:=h
  rw[List.take_length];exact hd
def vf {z:Str}{zs:List Str}:inL (.str z) (zs.map T.str)=decide (z∈zs):=by
 unfold inL
 rw[List.any_map]
 induction zs with
 | nil=>rfl
 | cons y ys ih=>
  rw[List.any_cons,ih]
  have e:(((λy=>eqT y (.str z))∘T.str) y)=(y==z):=by show eqT (.str y) (.str z)=_;unfold eqT;rfl
  rw[e]
  by_cases h:y=z
  ·subst h;simp
  ·have h':z≠y:=λq=>h q.symm
   simp[h,h']
def Vq {n:Nat}(h:n<=100000):n<=sizeLine:=XN h (by decide)
def Yu {n:Nat}(h:n<=100000):n<sizeLine:=Nat.lt_of_le_of_lt h (by decide)
end WL
namespace K23
open PySem PySem.Spec PyProof.Rows L2 WL Fn
local macro_rules | `(tactic| walk_at "ws") => `(tactic| try simp (config := { decide := true }) only [Yj, eC, Jf, e9, Zq, Zr, N8, Ag, Qq, kG, h7, h9, ou, eA, iZ, qe, xu, ir, jn, ia, ot, Fo, Oh, A0, kX, Dx, nF, kS, kU, fm, kW, fq, nH, nG, Dy, gO, r6, kQ, gZ, kj, kh, gg, vQ, ki, lR, nK, Aa, Bx, M4, kF, gX, Rc, Ti, Cw, Eh, mJ, uk, Mx, i0, rh, ze, uF, pU, gW, fY, fZ, Dg, qd, yO, nL, fz, y8, lE, pA, A1, gF, gG, xI, Wu, Lx, pZ, Zv, Ym, Vb, kn, km, oQ, oP, oO, oN, rY,
  List.map_cons, List.map_nil, List.length_cons, List.length_nil, List.replicate, List.cons_append, List.nil_append, List.getElem?_cons_zero, List.getElem?_cons_succ, List.set_cons_zero, List.set_cons_succ, Option.some.injEq, T.int.injEq, T.str.injEq, T.bl.injEq, T.ref.injEq, T.tup.injEq, T.cl.injEq, exists_eq_left', exists_eq_left, exists_eq', exists_and_left, and_assoc, List.cons.injEq, and_true, true_and, reduceCtorEq, false_and, exists_false, List.append_nil, if_true, if_false, Bool.not_not, decide_eq_true_eq, Bool.not_eq_true', decide_eq_false_iff_not, Bool.false_eq_true, List.nil_eq, Option.bind_none, Option.bind_some, Option.join_some, Nat.reduceAdd, Nat.reduceSub, Nat.sub_self, Nat.zero_add, Nat.sub_zero, beq_iff_eq, Bool.not_false, Bool.not_true])
section
variable {A B:WS}{D:We}{τ:Sw}{C:Hw}{i k:Nat}{v:T}{r:List T}{s s' w:Str}{x y:Int}
def Bm (h:τ[0]?=some (some (.tup (v::r))))(q:B D (τ.set k (some v)) C):Ti (Mx (Jf Dy (Yj 0) (eC (.int 0))) (Aa k)) B D τ C:=⟨_,h,_,Zv,q⟩
def Bk (h:τ[i]?=some (some (.str w)))(hw:w=s)(q:A {D with nx:=B D} τ C):Ti (uk (xu (Jf A1 (Yj i) (eC (.str s)))) A Rc) B D τ C:=by
 refine⟨_,h,?_⟩
 simp only[eC]
 rw[A1,Wu,hw]
 refine⟨true,by simp,?_⟩
 rw[XY rfl];exact q
def Rq (h:τ[i]?=some (some (.str w)))(hw:w≠s)(q:B D τ C):Ti (uk (xu (Jf A1 (Yj i) (eC (.str s)))) A Rc) B D τ C:=by
 refine⟨_,h,?_⟩
 simp only[eC]
 rw[A1,Wu]
 refine⟨false,by simp[hw],?_⟩
 rw[XX (by decide)];exact q
def wZ (h:τ[i]?=some (some (.str w)))(hw:w=s\/w=s')(q:A {D with nx:=B D} τ C):Ti (uk (jn (xu (Jf A1 (Yj i) (eC (.str s)))) (xu (Jf A1 (Yj i) (eC (.str s'))))) A Rc) B D τ C:=by
 refine⟨_,h,?_⟩
 simp only[eC]
 rw[A1,Wu]
 by_cases c:w=s
 ·refine⟨true,by simp[c],?_⟩
  rw[XY rfl];exact q
 ·refine⟨false,by simp[c],?_⟩
  rw[XX (by decide)]
  refine⟨_,h,?_⟩
  simp only[eC]
  rw[Wu]
  have c':w=s':=hw.resolve_left c
  refine⟨true,by simp[c'],?_⟩
  rw[XY rfl];exact q
def Bl (h:τ[i]?=some (some (.str w)))(hw:w≠s)(hw':w≠s')(q:B D τ C):Ti (uk (jn (xu (Jf A1 (Yj i) (eC (.str s)))) (xu (Jf A1 (Yj i) (eC (.str s'))))) A Rc) B D τ C:=by
 refine⟨_,h,?_⟩
 simp only[eC]
 rw[A1,Wu]
 refine⟨false,by simp[hw],?_⟩
 rw[XX (by decide)]
 refine⟨_,h,?_⟩
 simp only[eC]
 rw[Wu]
 refine⟨false,by simp[hw'],?_⟩
 rw[XX (by decide)];exact q
end
def rc:List Str:=["does","call","first","fun","let","shape","choose","rows"]
inductive Sc:T->Option Nat->List (List T×T)->Prop
 | does {o A B:T}:Sc (.tup [.str "does",o,A,B]) none [([],A),([],B)]
 | call {A B:T}:Sc (.tup [.str "call",A,B]) none [([],A),([],B)]
 | first {A B:T}:Sc (.tup [.str "first",A,B]) none [([],A),([],B)]
 | fun_ {x B:T}:Sc (.tup [.str "fun",x,B]) none [([x],B)]
 | let_ {B:T} {xs:List (T×T)} (h:xs.length<=1000):Sc (.tup [.str "let",.tup (xs.map λx=>.tup [x.1,x.2]),B]) none (xs.map (λx=>(xs.map (·.1),x.2))++[(xs.map (·.1),B)])
 | shape {c:T} {ps:List T} (h:ps.length<=1000):Sc (.tup [.str "shape",c,.tup ps]) none (ps.map λx=>([],x))
 | choose {E:T} {ys:List (T×List T×T)} (h:ys.length<=1000):Sc (.tup [.str "choose",E,.tup (ys.map λy=>.tup [y.1,.tup y.2.1,y.2.2])]) none (([],E)::ys.map (·.2))
 | other {w:Str} {J1:List T} (h:w∉rc):Sc (.tup (.str w::J1)) none []
def rg (s:List T×T):T:=.tup [.tup s.1,s.2]
section
variable {C:Hw}{Q:WK}{χ:WX}{n:Nat}
def Ef {B:T}{xs:List (T×T)}(h:xs.length<=1000)(q:∀p C',Ex C C'->C p=none->C' p=some (.lst ((xs.map (λx=>(xs.map (·.1),x.2))++[(xs.map (·.1),B)]).map rg))->Q (.ref p) C'):
  Ya pr (n+1) Eu [.tup (xs.map λx=>.tup [x.1,x.2]),B] C Q χ:=by
 refine Ft rfl ?_
 unfold Tz Sr
 walk_at "ws"
 have hl:(xs.map λx:T×T=>T.tup [x.1,x.2]).length<=sizeLine:=by rw[XI];exact Vq (by omega)
 refine Xt (λt=>match t with | .tup [a,_]=>a | _=>.non) trivial hl (λx hx R hR=>?_) λp hp=>?_
 ·obtain⟨y,_,rfl⟩:=XR.mp hx
  walk_at "ws"
  exact hR
 refine⟨_,Ze,?_⟩
 have e:(xs.map λx:T×T=>T.tup [x.1,x.2]).map (λt=>match t with | .tup [a,_]=>a | _=>T.non)=xs.map (·.1):=by rw[YE];rfl
 rw[e]
 refine Xt (λt=>match t with | .tup [_,b]=>.tup [.tup (xs.map (·.1)),b] | _=>.non) trivial hl (λx hx R hR=>?_) λp2 hp2=>?_
 ·obtain⟨y,_,rfl⟩:=XR.mp hx
  walk_at "ws"
  exact hR
 intro p3 hp3
 obtain⟨n2,e2⟩:=xw hp2
 obtain⟨n32,h32⟩:=xw hp3
 obtain⟨n31,e3⟩:=xw h32
 refine⟨_,by rw[Zg n32.symm];exact Ze,_,Ze,?_,λp4 hp4=>?_⟩
 ·rw[XI,XI];exact Vq (by show xs.length+1<=100000;omega)
 ·obtain⟨n43,h43⟩:=xw hp4
  obtain⟨n42,h42⟩:=xw h43
  obtain⟨n41,e4⟩:=xw h42
  refine q p4 _ ((((Ex.new hp).up e2).up e3).up e4) e4 ?_
  rw[Ze,XL,YE,YE]
  rfl
def Cr {t:T}{e:Option Nat}{ss:List (List T×T)}(h:Sc t e ss)(q:∀p C',Ex C C'->C p=none->C' p=some (.lst (ss.map rg))->Q (.ref p) C'):Ya pr (n+2) vg [t] C Q χ:=by
 refine xJ rfl ?_
 unfold Km Hm
 cases h with
 | does=>refine Bm rfl (Bk rfl rfl ?_);walk_at "ws";exact λp hp=>q p _ (Ex.new hp) hp Ze
 | call=>refine Bm rfl (Rq rfl (by decide+kernel) (wZ rfl (.inl rfl) ?_));walk_at "ws";exact λp hp=>q p _ (Ex.new hp) hp Ze
 | first=>refine Bm rfl (Rq rfl (by decide+kernel) (wZ rfl (.inr rfl) ?_));walk_at "ws";exact λp hp=>q p _ (Ex.new hp) hp Ze
 | fun_=>refine Bm rfl (Rq rfl (by decide+kernel) (Bl rfl (by decide+kernel) (by decide+kernel) (Bk rfl rfl ?_)));walk_at "ws";exact λp hp=>q p _ (Ex.new hp) hp Ze
 | let_ h=>refine Bm rfl (Rq rfl (by decide+kernel) (Bl rfl (by decide+kernel) (by decide+kernel) (Rq rfl (by decide+kernel) (Bk rfl rfl ?_))));walk_at "ws";exact Ef h q
 | shape h=>
  refine Bm rfl (Rq rfl (by decide+kernel) (Bl rfl (by decide+kernel) (by decide+kernel) (Rq rfl (by decide+kernel) (Rq rfl (by decide+kernel) (Bk rfl rfl ?_)))))
  walk_at "ws"
  refine Xt (λt=>.tup [.tup [],t]) trivial (Vq (by omega)) (λx hx R hR=>?_) λp hp=>q p _ (Ex.new hp) hp ?_
  ·walk_at "ws"
   exact hR
  ·rw[Ze,YE];rfl
 | @choose E ys h=>
  refine Bm rfl (Rq rfl (by decide+kernel) (Bl rfl (by decide+kernel) (by decide+kernel) (Rq rfl (by decide+kernel) (Rq rfl (by decide+kernel) (Rq rfl (by decide+kernel) (Bk rfl rfl ?_))))))
  walk_at "ws"
  intro p hp
  refine Xt (λt=>match t with | .tup [_,a,b]=>.tup [a,b] | _=>.non) trivial (by rw[XI];exact Vq (by omega)) (λx hx R hR=>?_) λp2 hp2=>?_
  ·obtain⟨y,_,rfl⟩:=XR.mp hx
   walk_at "ws"
   exact hR
  obtain⟨n2,e2⟩:=xw hp2
  refine⟨_,by rw[Zg n2.symm];exact Ze,_,Ze,?_,λp3 hp3=>?_⟩
  ·rw[XI,XI];exact Vq (by show 1+_<=_;omega)
  ·obtain⟨n32,h32⟩:=xw hp3
   obtain⟨n31,e3⟩:=xw h32
   refine q p3 _ (((Ex.new hp).up e2).up e3) e3 ?_
   rw[Ze,YI,YE,YE];rfl
 | @other w J1 h=>
  have hw:∀s∈rc,w≠s:=λs hs z=>h (z▸hs)
  refine Bm rfl (Rq rfl (hw "does" (by decide)) (Bl rfl (hw "call" (by decide)) (hw "first" (by decide)) (Rq rfl (hw "fun" (by decide)) (Rq rfl (hw "let" (by decide)) (Rq rfl (hw "shape" (by decide)) (Rq rfl (hw "choose" (by decide)) (Rq rfl (hw "rows" (by decide)) ?_)))))))
  walk_at "ws"
  exact λp hp=>q p _ (Ex.new hp) hp Ze
end
section
variable {C:Hw}{Q:WK}{χ:WX}{τ:Sw}
def Yf {p q:Prop}(h:p):if true=true then p else q:=h
def Zl {p q:Prop}(h:q):if false=true then p else q:=h
def yE {p q:Prop}{b:Bool}(hb:b=true)(h:p):if b=true then p else q:=by rw[XY hb];exact h
def Lh {p q:Prop}{b:Bool}(hb:b=false)(h:q):if b=true then p else q:=by subst hb;exact h
def gY {a b:Str}{v:Bool}(h:(a==b)=v)(q:Q (.bl v) C):Oi false (.str a) (.str b) C Q:=by rw[Wu,XX (by decide),h];exact q
def iX {a b:Int}{v:Bool}(h:(a==b)=v)(q:Q (.bl v) C):Oi false (.int a) (.int b) C Q:=by rw[Lx,XX (by decide),h];exact q
def fR {a b:Str}{v:Bool}(h:(a==b)=v)(q:Q (.bl (!v)) C):Oi true (.str a) (.str b) C Q:=by rw[Wu,XY rfl,h];exact q
def gQ {a b:Int}{v:Bool}(h:(a==b)=v)(q:Q (.bl (!v)) C):Oi true (.int a) (.int b) C Q:=by rw[Lx,XY rfl,h];exact q
def Zx {a b:Str}{v:Bool}(h:(a==b)=v)(q:Q (.bl v) C):eC (.str b) τ C (λy C2=>A1 (.str a) y C2 Q) χ:=gY h q
def Qp {a b:Int}{v:Bool}(h:(a==b)=v)(q:Q (.bl v) C):eC (.int b) τ C (λy C2=>A1 (.int a) y C2 Q) χ:=iX h q
end
structure Sd where
 r:Addr
 f:Addr
 l:Addr
abbrev nT (x:Nat):T:=.int (x:Int)
def yM:Option Fm->T
 | none=>.non
 | some (.f0 g)=>.tup [.str g]
 | some (.f1 g a)=>.tup [.str g,nT a]
 | some (.f2 g a b)=>.tup [.str g,nT a,nT b]
structure LR (rk:Nat->Nat)(L:List Nat)(u:Us):Prop where
 len:L.length=u.F.length
 st:∀x y,L[x]?=some y->y<L.length/\(y=x->u.rt x=x)/\(y≠x->rk y<rk x/\u.rt y=u.rt x)
abbrev sF (A:Sd):List (Str×T):=[("forms",.ref A.f),("leads",.ref A.l)]
structure Sk (rk:Nat->Nat)(L:List Nat)(A:Sd)(C:Hw)(u:Us):Prop where
 r:C A.r=some (.ins "Slots" (sF A))
 f:C A.f=some (.lst (u.F.map yM))
 l:C A.l=some (.lst (L.map nT))
 lr:LR rk L u
 ne:A.f≠A.l
def Sl (A:Sd)(C:Hw)(u:Us):Prop:=∃rk L,Sk rk L A C u
def Fx (A:Sd)(C C':Hw):Prop:=∀b o,b≠A.f->b≠A.l->C b=some o->C' b=some o
def Fx.refl (A:Sd)(C:Hw):Fx A C C:=λ_ _ _ _ h=>h
def Fx.trans {A:Sd}{C C1 C2:Hw}(a:Fx A C C1)(b:Fx A C1 C2):Fx A C C2:=λc o n m h=>b c o n m (a c o n m h)
section
variable {rk:Nat->Nat}{L:List Nat}{A:Sd}{C C':Hw}{u:Us}{Q:WK}{χ:WX}{n x:Nat}{o:O}
def Sk.rf (S:Sk rk L A C u):A.r≠A.f:=λe=>by have h:=S.r;rw[e,S.f] at h;cases h
def Sk.rl (S:Sk rk L A C u):A.r≠A.l:=λe=>by have h:=S.r;rw[e,S.l] at h;cases h
def Fx.upl (h:Fx A C C'):Fx A C (up C' A.l o):=λb u n m e=>by rw[Zg m];exact h b u n m e
def Fx.upf (h:Fx A C C'):Fx A C (up C' A.f o):=λb u n m e=>by rw[Zg n];exact h b u n m e
def Fx.new {p:Addr}(h:Fx A C C')(hp:C p=none):Fx A C (up C' p o):=λb u n m e=>by
 rw[Zg λz=>by rw[z,hp] at e;cases e]
 exact h b u n m e
def Sk.lead {L':List Nat}{rk':Nat->Nat}{u':Us}(S:Sk rk L A C u)(h:LR rk' L' u')(e:u'.F=u.F):Sk rk' L' A (up C A.l (.lst (L'.map nT))) u':=
 ⟨by rw[Zg S.rl];exact S.r,by rw[Zg S.ne,e];exact S.f,Ze,h,S.ne⟩
def Sk.new {p:Addr}(S:Sk rk L A C u)(hp:C p=none):Sk rk L A (up C p o) u:=
 have k:∀{b:Addr} {w:O},C b=some w->up C p o b=some w:=λ{b w} h=>by rw[Zg λz=>by rw[z,hp] at h;cases h];exact h
 ⟨k S.r,k S.f,k S.l,S.lr,S.ne⟩
def Sk.other {p:Addr}(S:Sk rk L A C u)(h1:p≠A.r)(h2:p≠A.f)(h3:p≠A.l):Sk rk L A (up C p o) u:=
 ⟨by rw[Zg h1.symm];exact S.r,by rw[Zg h2.symm];exact S.f,by rw[Zg h3.symm];exact S.l,S.lr,S.ne⟩
def Do {xs:List Nat}{j y:Nat}(h:xs[j]?=some y):Pe (xs.map nT) (j:Int)=some (nT y):=Vu (by rw[XM,h];rfl)
def Ek {a b:Int}{v:Bool}(h:(a==b)=v)(q:Q (.bl (!v)) C):Oi true (.int a) (.int b) C Q:=by rw[Lx,XY rfl,h];exact q
def z7 {m j:Nat}(h:j<m):vb m (j:Int)=some j:=by
 unfold vb
 rw[XY (by omega),XY (by omega)]
 rfl
def Va:(sF A).lookup ("leads":Str)=some (.ref A.l:T):=rfl
def Qj:(sF A).lookup ("forms":Str)=some (.ref A.f:T):=rfl
def tI {y z w:Nat}(h:LR rk L u)(h1:L[y]?=some z)(n:z≠y)(h2:L[z]?=some w):LR rk (L.set y w) u/\(L.set y w)[y]?=some w/\w<L.length/\rk w<rk y/\u.rt w=u.rt y/\w≠y:=by
 obtain⟨a1,a2,a3⟩:=h.st y z h1
 obtain⟨b1,b2,b3⟩:=h.st z w h2
 have hy:y<L.length:=(List.getElem?_eq_some_iff.mp h1).1
 have hw:rk w<rk y/\u.rt w=u.rt y:=by
  by_cases c:w=z
  ·rw[c];exact a3 n
  ·exact⟨Nat.lt_trans (b3 c).1 (a3 n).1,(b3 c).2.trans (a3 n).2⟩
 have wy:w≠y:=λe=>by have:=hw.1;rw[e] at this;exact Nat.lt_irrefl _ this
 refine⟨⟨by rw[List.length_set];exact h.len,λx v e=>?_⟩,by rw[List.getElem?_set_self hy],b1,hw.1,hw.2,wy⟩
 rw[List.length_set]
 by_cases c:y=x
 ·subst c
  rw[List.getElem?_set_self hy] at e
  cases e
  exact⟨b1,λz=>absurd z wy,λ_=>hw⟩
 ·rw[List.getElem?_set_ne c] at e
  exact h.st x v e
def V7 (S:Sl A C u)(hx:x<u.F.length)(q:∀C',Sl A C' u->Fx A C C'->Q (nT (u.rt x)) C'):Ya pr (n+1) Iy [.ref A.r,nT x] C Q χ:=by
 obtain⟨rk,L,S⟩:=S
 refine Kr rfl ?_
 unfold V0 Uh
 refine Tb (λm τ C'=>∃y L',τ=[some (.ref A.r),some (nT y)]/\y<u.F.length/\u.rt y=u.rt x/\rk y=m/\Sk rk L' A C' u/\Fx A C C') (m:=rk x) ⟨x,L,rfl,hx,rfl,rfl,S,Fx.refl _ _⟩ ?_
 rintro m τ C' N ⟨y,L',rfl,hy,hr,rfl,S',F'⟩ hN
 have hl:=S'.lr.len
 obtain⟨z,hz⟩:∃z,L'[y]?=some z:=⟨_,List.getElem?_eq_getElem (by omega)⟩
 refine⟨_,rfl,_,_,_,_,rfl,S'.r,.head _,Va,_,rfl,_,_,S'.l,Do hz,_,rfl,?_⟩
 obtain⟨z1,z2,z3⟩:=S'.lr.st y z hz
 by_cases c:z=y
 ·refine Ek (v:=true) (by rw[c];exact XU _) ⟨_,rfl,?_⟩
  refine⟨_,rfl,?_⟩
  rw[show y=u.rt x by rw[<-hr];exact(z2 c).symm]
  exact q C' ⟨rk,L',S'⟩ F'
 ·refine Ek (v:=false) (beq_eq_false_iff_ne.mpr λe=>c (by omega)) ⟨_,rfl,?_⟩
  obtain⟨w,hw⟩:∃w,L'[z]?=some w:=⟨_,List.getElem?_eq_getElem z1⟩
  obtain⟨l1,l2,l3,l4,l5,l6⟩:=tI S'.lr hz c hw
  refine⟨_,rfl,_,_,_,_,rfl,S'.r,.head _,Va,_,rfl,_,_,_,_,rfl,S'.r,.head _,Va,_,rfl,_,_,S'.l,Do hz,_,_,S'.l,Do hw,?_⟩
  refine⟨_,rfl,_,_,_,_,rfl,S'.r,.head _,Va,_,rfl,_,_,_,y,rfl,rfl,S'.l,z7 (by rw[XI];omega),?_⟩
  have S2:=S'.lead l1 rfl
  have em:(L'.map nT).set y (nT w)=(L'.set y w).map nT:=List.map_set.symm
  rw[em]
  refine⟨_,rfl,_,_,_,_,rfl,S2.r,.head _,Va,_,rfl,_,_,S2.l,Do l2,?_⟩
  exact hN (rk w) _ _ l4 ⟨w,L'.set y w,rfl,by omega,l5.trans hr,rfl,S2,F'.upl⟩
def Mv {f:Option Fm}(S:Sl A C u)(o:u.Ok)(hx:x<u.F.length)(hf:u.F[u.rt x]?=some f)(q:∀C',Sl A C' u->Fx A C C'->Q (yM f) C'):Ya pr (n+2) Lu [.ref A.r,nT x] C Q χ:=by
 refine Lp rfl ?_
 unfold Ve Vn
 obtain⟨rk,L,S0⟩:=id S
 refine⟨_,rfl,_,_,_,_,rfl,S0.r,.head _,Qj,_,rfl,_,_,_,_,rfl,S0.r,rfl,rfl,_,rfl,?_⟩
 dsimp only[Zq]
 refine V7 (n:=n) S hx λC' S' F'=>?_
 obtain⟨rk',L',S1⟩:=id S'
 exact⟨_,_,S1.f,Vu (by rw[XM,hf];rfl),q C' S' F'⟩
def yo {f:Option Fm}(S:Sl A C u)(o:u.Ok)(hn:u.F.length<=90000)(q:∀C',Sl A C' (u.add f)->Fx A C C'->Q (nT u.F.length) C'):Ya pr (n+1) Hz [.ref A.r,yM f] C Q χ:=by
 refine Hu rfl ?_
 unfold Ux Ta
 obtain⟨rk,L,S⟩:=S
 refine⟨_,rfl,_,_,_,_,rfl,S.r,.head _,Qj,_,rfl,_,S.f,?_⟩
 refine⟨_,rfl,_,_,_,_,rfl,S.r,.head _,Qj,⟨_,_,rfl,S.f⟩,_,rfl,_,_,_,rfl,rfl,S.f,Yu (by rw[XI];omega),?_⟩
 have r1:up C A.f (.lst (u.F.map yM++[yM f])) A.r=some (.ins "Slots" (sF A)):=by rw[Zg S.rf];exact S.r
 have l1:up C A.f (.lst (u.F.map yM++[yM f])) A.l=some (.lst (L.map nT)):=by rw[Zg S.ne.symm];exact S.l
 refine⟨_,rfl,_,_,_,_,rfl,r1,.head _,Va,⟨_,_,rfl,l1⟩,_,rfl,_,_,_,rfl,rfl,l1,Yu (by rw[XI,S.lr.len];omega),?_⟩
 refine⟨_,rfl,?_⟩
 have ln:(((u.F.map yM).length:Nat):Int)=((u.F.length:Nat):Int):=by rw[XI]
 rw[ln]
 refine q _ ⟨rk,L++[u.F.length],?_⟩ (((Fx.refl _ _).upf).upl)
 refine⟨by rw[Zg S.rl];exact r1,?_,?_,⟨by show _=(u.F++[f]).length;rw[List.length_append,List.length_append,S.lr.len];rfl,λx y e=>?_⟩,S.ne⟩
 ·rw[Zg S.ne,Ze]
  show _=some (O.lst ((u.F++[f]).map yM))
  rw[XL];rfl
 ·rw[Ze,XL];rfl
 ·have hl:=S.lr.len
  rw[List.length_append,List.length_singleton]
  by_cases c:x<L.length
  ·rw[List.getElem?_append_left c] at e
   obtain⟨h1,h2,h3⟩:=S.lr.st x y e
   have nx:x≠u.F.length:=by omega
   have ny:y≠u.F.length:=by omega
   refine⟨by omega,λz=>?_,λz=>⟨(h3 z).1,?_⟩⟩
   ·show(if x=u.F.length then x else u.rt x)=x
    rw[XX nx];exact h2 z
   ·show(if y=u.F.length then y else u.rt y)=(if x=u.F.length then x else u.rt x)
    rw[XX nx,XX ny];exact(h3 z).2
  ·have hx:x=L.length:=by
    have:=(List.getElem?_eq_some_iff.mp e).1
    rw[List.length_append,List.length_singleton] at this
    omega
   subst hx
   rw[List.getElem?_append_right (XE _),Nat.sub_self] at e
   have e:u.F.length=y:=YH e
   refine⟨by omega,λz=>?_,λz=>absurd (by omega) z⟩
   show(if L.length=u.F.length then L.length else u.rt L.length)=L.length
   rw[XY hl]
def Gq (S:Sl A C u)(o:u.Ok)(hn:u.F.length<=90000)(q:∀C',Sl A C' (u.add none)->Fx A C C'->Q (nT u.F.length) C'):Ya pr (n+2) Ls [.ref A.r] C Q χ:=by
 refine Lo rfl ?_
 unfold Vd Vm
 obtain⟨rk,L,S0⟩:=id S
 refine⟨_,rfl,_,_,_,_,rfl,S0.r,rfl,rfl,?_⟩
 dsimp only[Zq,Zr,eC]
 exact yo (n:=n) (f:=none) S o hn q
end
section
variable {rk:Nat->Nat}{L:List Nat}{A:Sd}{C C':Hw}{u:Us}{Q:WK}{χ:WX}{n x a b:Nat}{o:O}
def y9 (h:LR rk L u)(ha:u.rt a=a)(hb:u.rt b=b)(hla:a<u.F.length)(hlb:b<u.F.length)(n:a≠b):∃rk',LR rk' (L.set a b) (u.join a b):=by
 refine⟨λx=>if u.rt x=a then rk x+rk b+1 else rk x,⟨by rw[List.length_set];exact h.len,λx y e=>?_⟩⟩
 have hl:=h.len
 have jr:∀z,(u.join a b).rt z=if u.rt z=a then b else u.rt z:=λ_=>rfl
 rw[List.length_set]
 by_cases c:a=x
 ·subst c
  rw[List.getElem?_set_self (by omega)] at e
  cases e
  refine⟨by omega,λz=>absurd z.symm n,λ_=>⟨?_,?_⟩⟩
  ·show(if u.rt b=a then rk b+rk b+1 else rk b)<(if u.rt a=a then rk a+rk b+1 else rk a)
   rw[XX (by rw[hb];exact n.symm),XY ha];omega
  ·rw[jr,jr,XX (by rw[hb];exact n.symm),XY ha,hb]
 ·rw[List.getElem?_set_ne c] at e
  obtain⟨h1,h2,h3⟩:=h.st x y e
  refine⟨h1,λz=>?_,λz=>⟨?_,?_⟩⟩
  ·have r:=h2 z
   rw[jr,XX (by rw[r];exact λw=>c w.symm),r]
  ·obtain⟨r1,r2⟩:=h3 z
   show(if u.rt y=a then rk y+rk b+1 else rk y)<(if u.rt x=a then rk x+rk b+1 else rk x)
   rw[r2]
   split<;>omega
  ·rw[jr,jr,(h3 z).2]
def pj {a b:Str}{v:Bool}(h:(a==b)=v)(q:Q (.bl (!v)) C):Oi true (.str a) (.str b) C Q:=by rw[Wu,XY rfl,h];exact q
abbrev pT (p:Nat×Nat):T:=.tup [nT p.1,nT p.2]
def E8 {f:Fm}:yM (some f)=.tup (.str f.tag::f.ps.map nT):=by cases f<;>rfl
def Sj {x:T}{xs:List T}:Fb (x::xs) (some 1) none=xs:=by
 unfold Fb HT.sIx
 simp
def Go {x:T}{xs:List T}:¬(HT.sIx (x::xs).length 0 (some 1)=0/\HT.sIx (x::xs).length (x::xs).length none=(x::xs).length):=by
 rintro⟨h,_⟩
 unfold HT.sIx at h
 simp at h
def iB {f g:Fm}:mU (f.ps.map nT) (g.ps.map nT)=(Du f g).map pT:=by
 unfold mU Du
 rw[List.zip_map,YE]
 rfl
inductive Jn (u:Us)(a b:Nat):Us->List (Nat×Nat)->Prop
 | op:u.F[a]?=some none->Jn u a b (u.join a b) []
 | k0 {f:Fm}:u.F[a]?=some (some f)->u.F[b]?=some none->Jn u a b (u.join b a) []
 | k2 {f g:Fm}:u.F[a]?=some (some f)->u.F[b]?=some (some g)->Jn u a b (u.join b a) (Du f g)
def vt {y:Nat}{f:Option Fm}(h:u.F[y]?=some f):Pe (u.F.map yM) (y:Int)=some (yM f):=Vu (by rw[XM,h];rfl)
def zc (S:Sl A C u)(ha:u.rt a=a)(hb:u.rt b=b)(hla:a<u.F.length)(hlb:b<u.F.length)(ne:a≠b)
  (hev:∀f g:Fm,u.F[a]?=some (some f)->u.F[b]?=some (some g)->f.tag=g.tag/\f.ps.length=g.ps.length)
  (q:∀C' p u' ps,Sl A C' u'->Fx A C C'->C p=none->C' p=some (.lst (ps.map pT))->Jn u a b u' ps->Q (.ref p) C'):Ya pr (n+1) M3 [.ref A.r,nT a,nT b] C Q χ:=by
 refine Mp rfl ?_
 unfold X7 Wr
 obtain⟨rk,L,S⟩:=S
 have hl:=S.lr.len
 obtain⟨fa,hfa⟩:∃f,u.F[a]?=some f:=⟨_,List.getElem?_eq_getElem hla⟩
 obtain⟨fb,hfb⟩:∃f,u.F[b]?=some f:=⟨_,List.getElem?_eq_getElem hlb⟩
 refine⟨_,rfl,_,_,_,_,rfl,S.r,.head _,Qj,_,rfl,_,_,S.f,vt hfa,?_⟩
 refine⟨_,rfl,_,_,_,_,rfl,S.r,.head _,Qj,_,rfl,_,_,S.f,vt hfb,?_⟩
 have nil:∀{C1:Hw} {u':Us},Sl A C1 u'->Fx A C C1->Jn u a b u' []->(∀p,C1 p=none->C p=none)->(([]:List T).length<=sizeLine/\∀p,C1 p=none->Q (.ref p) (up C1 p (.lst []))):=λ{C1 u'} S1 F1 j hn=>by
  obtain⟨rk1,L1,S1⟩:=S1
  exact⟨by decide,λp hp=>q _ p _ [] ⟨rk1,L1,S1.new hp⟩ (λc w m1 m2 e=>by rw[Zg λz=>by rw[z,hn p hp] at e;cases e];exact F1 c w m1 m2 e) (hn p hp) Ze j⟩
 have nn:∀{L':List Nat} (p:Addr),up C A.l (.lst (L'.map nT)) p=none->C p=none:=λ{L'} p hp=>by
  by_cases c:p=A.l
  ·rw[c,Ze] at hp;cases hp
  ·rw[Zg c] at hp;exact hp
 cases fa with
 | none=>
  refine⟨_,rfl,rfl,true,rfl,?_⟩
  obtain⟨rk',lr⟩:=y9 S.lr ha hb hla hlb ne
  have em:(L.map nT).set a (nT b)=(L.set a b).map nT:=List.map_set.symm
  refine⟨_,rfl,_,rfl,_,_,_,_,rfl,S.r,.head _,Va,_,rfl,_,_,_,a,rfl,rfl,S.l,z7 (by rw[XI];omega),?_⟩
  rw[em]
  exact nil ⟨rk',_,S.lead lr rfl⟩ (Fx.refl _ _).upl (.op hfa) nn
 | some f=>
  rw[E8]
  refine⟨_,rfl,rfl,false,rfl,?_⟩
  obtain⟨rk',lr⟩:=y9 S.lr hb ha hlb hla ne.symm
  have em:(L.map nT).set b (nT a)=(L.set b a).map nT:=List.map_set.symm
  refine⟨_,rfl,_,rfl,_,_,_,_,rfl,S.r,.head _,Va,_,rfl,_,_,_,b,rfl,rfl,S.l,z7 (by rw[XI];omega),?_⟩
  rw[em]
  have S1:=S.lead lr rfl
  cases fb with
  | none=>
   refine⟨_,rfl,rfl,true,rfl,?_⟩
   exact nil ⟨rk',_,S1⟩ (Fx.refl _ _).upl (.k0 hfa hfb) nn
  | some g=>
   rw[E8]
   refine⟨_,rfl,rfl,false,rfl,?_⟩
   obtain⟨e1,e2⟩:=hev f g hfa hfb
   refine⟨_,rfl,_,Zv,_,rfl,_,Zv,pj (v:=true) (by rw[e1];exact XU _) ⟨_,rfl,?_⟩⟩
   refine⟨_,rfl,_,rfl,Go,_,rfl,_,rfl,Go,_,_,rfl,?_,?_,λp hp=>?_⟩
   ·rw[Sj,Sj,XI,XI];exact e2
   ·rw[Sj,List.length_map];cases f<;>simp[Fm.ps]
   ·rw[Sj,Sj,iB]
    have hn:=nn p hp
    exact q _ p _ _ ⟨rk',_,S1.new hp⟩ (λc w m1 m2 e=>by rw[Zg λz=>by rw[z,hn] at e;cases e];exact(Fx.refl A C).upl c w m1 m2 e) hn Ze (.k2 hfa hfb)
end
section
variable {rk:Nat->Nat}{L:List Nat}{A:Sd}{C C':Hw}{u:Us}{Q:WK}{χ:WX}{n x a b:Nat}{o:O}{σ σ0:Nat->Kd}
def yV {pl pl':List (Nat×Nat)}(h:∀x∈pl,x∈pl')(q:Vz u pl):Vz u pl':=λx f hx=>by
 obtain⟨g,h1,h2⟩:=q x f hx
 exact⟨g,h1,h2.imp λc d e=>e.mono (λ_ _ z=>.rt z) λc d m=>.pr (h _ m)⟩
def vw:X4 [] []=true:=by unfold X4;rfl
def jK {x:T}{xs:List T}:X4 (x::xs) []=false:=by unfold X4;rfl
def Gz {k:Nat}:Yr [] k=true:=by unfold Yr;rfl
def Ej {p p':Addr}{xs:List T}(h1:C p=some (.lst xs))(h2:C p'=some (.lst []))(q:Q (.bl (!xs.isEmpty)) C):Oi true (.ref p) (.ref p') C Q:=by
 refine⟨xs,[],h1,h2,λe=>?_,?_⟩
 ·have:xs=[]:=List.length_eq_zero_iff.mp e
  subst this
  exact⟨Gz,Gz⟩
 ·rw[XY rfl]
  cases xs with
  | nil=>rw[vw];exact q
  | cons x xs=>rw[jK];exact q
structure eN (A:Sd)(C:Hw)(u:Us)(a b:Nat)(p:Addr)(C':Hw)(u':Us)(pl:List (Nat×Nat)):Prop where
 s:Sl A C' u'
 f:Fx A C C'
 p:C' p=some (.lst (pl.map pT))
 o:u'.Ok
 c:Vz u' pl
 F:u'.F=u.F
 lt:∀z∈pl,z.1<u.F.length/\z.2<u.F.length
 sol:∀σ,(U7 u' σ/\∀z∈pl,σ z.1=σ z.2)↔(U7 u σ/\σ a=σ b)
 m:3*u'.cnt+pl.length<=3*u.cnt+1
def o8:u.cnt<=u.F.length:=by
 unfold Us.cnt
 exact XN (List.length_filter_le _ _) (by rw[List.length_range];exact XE _)
def yu {f g:Fm}:(Du f g).length<=2:=by
 unfold Du
 rw[List.length_zip]
 cases f<;>simp[Fm.ps]<;>omega
def No (S:Sl A C u)(o:u.Ok)(cl:Vz u [])(ha:a<u.F.length)(hb:b<u.F.length)(hσ:U7 u σ0)(he:σ0 a=σ0 b)(hn:u.F.length<=9000)
  (q:∀C' u',Sl A C' u'->Fx A C C'->u'.Ok->Vz u' []->u'.F=u.F->(∀σ,U7 u' σ↔U7 u σ/\σ a=σ b)->Q .non C'):Ya pr (n+2) Os [.ref A.r,nT a,nT b] C Q χ:=by
 refine Oj rfl ?_
 unfold Xm Xp
 refine⟨_,rfl,_,rfl,ZNB rfl,ZNB rfl,λp hp=>?_⟩
 have cn:=o8 (u:=u)
 have sl1:(100000:Nat)<=sizeLine:=by decide
 have dis:∀{C1:Hw} {u1:Us},Sl A C u1->p≠A.r/\p≠A.f/\p≠A.l:=λ{C1 u1} h=>by
  obtain⟨_,_,h⟩:=h
  exact⟨λe=>(by rw[e,h.r] at hp;cases hp),λe=>(by rw[e,h.f] at hp;cases hp),λe=>(by rw[e,h.l] at hp;cases hp)⟩
 obtain⟨pr_,pf_,pl_⟩:=dis (C1:=C) S
 refine Tb (λm τ C'=>∃v4 v5 v6 u' pl,τ=[some (.ref A.r),some (nT a),some (nT b),some (.ref p),v4,v5,v6]/\eN A C u a b p C' u' pl/\m=3*u'.cnt+pl.length) (m:=3*u.cnt+1)
  ⟨none,none,none,u,[(a,b)],rfl,⟨?_,?_,?_,o,yV (λ_ h=>by cases h) cl,rfl,?_,?_,XE _⟩,rfl⟩ ?_
 ·obtain⟨rk,L,S⟩:=S;exact⟨rk,L,S.new hp⟩
 ·exact(Fx.refl _ _).new hp
 ·exact Ze
 ·intro z hz;rw[XQ.mp hz];exact⟨ha,hb⟩
 ·intro σ
  exact⟨λh=>⟨h.1,h.2 _ (XQ.mpr rfl)⟩,λh=>⟨h.1,λz hz=>by rw[XQ.mp hz];exact h.2⟩⟩
 rintro m τ C1 N ⟨v4,v5,v6,u1,pl,rfl,M,rfl⟩ hN
 refine⟨_,rfl,ZNB rfl,λp' hp'=>?_⟩
 have pp:p≠p':=λe=>by have:=M.p;rw[e,hp'] at this;cases this
 have M2p:up C1 p' (.lst []) p=some (.lst (pl.map pT)):=by rw[Zg pp];exact M.p
 refine Ej M2p Ze ⟨_,rfl,?_⟩
 have F2:Fx A C (up C1 p' (.lst [])):=λc w m1 m2 e=>by
  have h:=M.f c w m1 m2 e
  rw[Zg λz=>by rw[z,hp'] at h;cases h]
  exact h
 obtain⟨rk1,L1,S1⟩:=M.s
 have S2:Sk rk1 L1 A (up C1 p' (.lst [])) u1:=S1.new hp'
 rcases List.eq_nil_or_concat pl with rfl | ⟨pl,z,rfl⟩
 ·refine Zl ?_
  exact q _ u1 ⟨rk1,L1,S2⟩ F2 M.o M.c M.F λσ=>by
   have h:=M.sol σ
   exact⟨λk=>h.mp ⟨k,λz hz=>nomatch hz⟩,λk=>(h.mpr k).1⟩
 ·rw[List.concat_eq_append] at*
  have ne:(!((pl++[z]).map pT).isEmpty)=true:=by simp
  rw[ne]
  refine Yf ?_
  generalize hC2:up C1 p' (.lst [])=C2 at M2p F2 S2
  have last:((pl++[z]).map pT)[((pl++[z]).map pT).length-1]?=some (pT z):=by simp
  have dl:((pl++[z]).map pT).dropLast=pl.map pT:=by simp
  refine⟨_,rfl,⟨_,_,rfl,M2p⟩,_,_,_,rfl,rfl,M2p,last,?_⟩
  rw[dl]
  have S3:Sk rk1 L1 A (up C2 p (.lst (pl.map pT))) u1:=S2.other pr_ pf_ pl_
  have F3:Fx A C (up C2 p (.lst (pl.map pT))):=λc w m1 m2 e=>by rw[Zg λz=>by rw[z,hp] at e;cases e];exact F2 c w m1 m2 e
  have P3:up C2 p (.lst (pl.map pT)) p=some (.lst (pl.map pT)):=Ze
  generalize up C2 p (.lst (pl.map pT))=C3 at S3 F3 P3
  have hz:=M.lt z (by simp)
  have lF:u1.F.length=u.F.length:=by rw[M.F]
  refine⟨_,rfl,_,_,_,_,rfl,S3.r,rfl,rfl,_,rfl,_,Zv,?_⟩
  dsimp only[Zq]
  refine V7 (n:=n) ⟨rk1,L1,S3⟩ (by omega) λC4 S4 F4=>?_
  obtain⟨rk4,L4,S4⟩:=S4
  have P4:C4 p=some (.lst (pl.map pT)):=F4 _ _ pf_ pl_ P3
  refine⟨_,rfl,_,_,_,_,rfl,S4.r,rfl,rfl,_,rfl,_,Ym,?_⟩
  dsimp only[Zq]
  refine V7 (n:=n) ⟨rk4,L4,S4⟩ (by omega) λC5 S5 F5=>?_
  have P5:C5 p=some (.lst (pl.map pT)):=F5 _ _ pf_ pl_ P4
  have F6:Fx A C C5:=(F3.trans F4).trans F5
  refine⟨_,rfl,_,rfl,?_⟩
  have c1:Vz u1 (z::pl):=yV (λx h=>by rcases XS.mp h with h | h;exact XV _ h;rw[XQ.mp h];exact List.mem_cons_self ..) M.c
  have sz:∀σ,(U7 u1 σ/\(∀y∈pl,σ y.1=σ y.2)/\σ z.1=σ z.2)↔(U7 u σ/\σ a=σ b):=λσ=>by
   rw[<-M.sol σ]
   exact⟨λh=>⟨h.1,λy hy=>by rcases List.mem_append.mp hy with k | k;exact h.2.1 y k;rw[List.mem_singleton.mp k];exact h.2.2⟩,λh=>⟨h.1,λy hy=>h.2 y (List.mem_append_left _ hy),h.2 z (by simp)⟩⟩
  have mm:=M.m
  rw[List.length_append,List.length_singleton] at mm
  have lt':∀y∈pl,y.1<u.F.length/\y.2<u.F.length:=λy hy=>M.lt y (List.mem_append_left _ hy)
  by_cases e:u1.rt z.1=u1.rt z.2
  ·refine Ek (v:=true) (by rw[e];exact XU _) ⟨_,rfl,Zl ?_⟩
   refine hN (3*u1.cnt+pl.length) _ _ (by rw[List.length_append,List.length_singleton];omega) ⟨_,_,_,u1,pl,rfl,⟨S5,F6,P5,M.o,vM e c1,M.F,lt',λσ=>?_,by omega⟩,rfl⟩
   rw[<-sz σ]
   exact⟨λh=>⟨h.1,h.2,by rw[h.1.1 _ (by omega),h.1.1 z.2 (by omega),e]⟩,λh=>⟨h.1,h.2.1⟩⟩
  ·refine Ek (v:=false) (beq_eq_false_iff_ne.mpr λk=>e (by omega)) ⟨_,rfl,Yf ?_⟩
   obtain⟨rk5,L5,S5⟩:=S5
   refine⟨_,rfl,⟨_,_,rfl,P5⟩,_,rfl,_,_,_,_,rfl,S5.r,rfl,rfl,_,rfl,_,rfl,?_⟩
   dsimp only[Zq]
   obtain⟨hs0,ht0,hz0⟩:=(sz σ0).mpr ⟨hσ,he⟩
   have r1:=M.o.lt z.1 (by omega)
   have r2:=M.o.lt z.2 (by omega)
   have i1:=M.o.id z.1 (by omega)
   have i2:=M.o.id z.2 (by omega)
   have ev:∀f g:Fm,u1.F[u1.rt z.1]?=some (some f)->u1.F[u1.rt z.2]?=some (some g)->f.ev σ0=g.ev σ0:=λf g h1 h2=>by
    rw[<-hs0.2 _ f h1,<-hs0.2 _ g h2,<-hs0.1 _ (by omega),<-hs0.1 _ (by omega)];exact hz0
   refine zc (n:=n) ⟨rk5,L5,S5⟩ i1 i2 r1 r2 e (λf g h1 h2=>(Hd (ev f g h1 h2)).1) λC7 p7 u7 ps S7 F7 hp7 P7 j=>?_
   have P8:C7 p=some (.lst (pl.map pT)):=F7 _ _ pf_ pl_ P5
   have np:p7≠p:=λk=>by rw[k,P5] at hp7;cases hp7
   have zl:ps.length<=2:=by cases j<;>first | exact yu | exact XO _
   refine⟨_,_,_,_,rfl,rfl,P8,P7,by rw[XI,XI];omega,?_⟩
   rw[<-XL]
   obtain⟨rk7,L7,S7⟩:=S7
   have S8:Sk rk7 L7 A (up C7 p (.lst ((pl++ps).map pT))) u7:=S7.other pr_ pf_ pl_
   have F8:Fx A C (up C7 p (.lst ((pl++ps).map pT))):=λc w m1 m2 k=>by rw[Zg λz=>by rw[z,hp] at k;cases k];exact(F6.trans F7) c w m1 m2 k
   have eq2:∀σ,U7 u1 σ->(σ (u1.rt z.1)=σ (u1.rt z.2)↔σ z.1=σ z.2):=λσ h=>by rw[h.1 z.1 (by omega),h.1 z.2 (by omega)]
   cases j with
   | op h=>
    have ct:=Iq i1 i2 r1 e
    have jo:=Er M.o i1 i2 r2 e
    refine hN (3*(u1.join (u1.rt z.1) (u1.rt z.2)).cnt+(pl++[]).length) _ _ (by rw[List.length_append,List.length_append,List.length_singleton];simp;omega) ⟨_,_,_,_,pl++[],rfl,⟨⟨rk7,L7,S8⟩,F8,Ze,jo,?_,M.F,by simpa using lt',λσ=>?_,by simp;omega⟩,rfl⟩
    ·rw[YK];exact vL rfl rfl h c1 M.o i2 e
    ·rw[<-sz σ,Ip i1 i2 r1 M.o,YK]
     exact⟨λh=>⟨h.1.1,h.2,(eq2 σ h.1.1).mp h.1.2⟩,λh=>⟨⟨h.1,(eq2 σ h.1).mpr h.2.2⟩,h.2.1⟩⟩
   | k0 h1 h2=>
    have ct:=Iq i2 i1 r2 (Ne.symm e)
    have jo:=Er M.o i2 i1 r1 (Ne.symm e)
    refine hN (3*(u1.join (u1.rt z.2) (u1.rt z.1)).cnt+(pl++[]).length) _ _ (by rw[List.length_append,List.length_append,List.length_singleton];simp;omega) ⟨_,_,_,_,pl++[],rfl,⟨⟨rk7,L7,S8⟩,F8,Ze,jo,?_,M.F,by simpa using lt',λσ=>?_,by simp;omega⟩,rfl⟩
    ·rw[YK];exact zR rfl rfl h2 c1 e
    ·rw[<-sz σ,Ip i2 i1 r2 M.o,YK]
     exact⟨λh=>⟨h.1.1,h.2,(eq2 σ h.1.1).mp h.1.2.symm⟩,λh=>⟨⟨h.1,((eq2 σ h.1).mpr h.2.2).symm⟩,h.2.1⟩⟩
   | @k2 f g h1 h2=>
    have ct:=Iq i2 i1 r2 (Ne.symm e)
    have jo:=Er M.o i2 i1 r1 (Ne.symm e)
    have pl2:=yu (f:=f) (g:=g)
    refine hN (3*(u1.join (u1.rt z.2) (u1.rt z.1)).cnt+(pl++Du f g).length) _ _ (by rw[List.length_append,List.length_append,List.length_singleton];omega) ⟨_,_,_,_,pl++Du f g,rfl,⟨⟨rk7,L7,S8⟩,F8,Ze,jo,?_,M.F,λy hy=>?_,λσ=>?_,by rw[List.length_append];omega⟩,rfl⟩
    ·exact jO rfl rfl i1 h1 h2 (Hd (ev f g h1 h2)).1 c1 e
    ·rcases XS.mp hy with k | k
     ·exact lt' y k
     ·have:=List.of_mem_zip (show(y.1,y.2)∈f.ps.zip g.ps from k)
      rw[<-M.F]
      exact⟨M.o.ps _ f h1 _ this.1,M.o.ps _ g h2 _ this.2⟩
    ·rw[<-sz σ,Ip i2 i1 r2 M.o]
     refine⟨λh=>⟨h.1.1,λy hy=>h.2 y (List.mem_append_left _ hy),(eq2 σ h.1.1).mp h.1.2.symm⟩,λh=>⟨⟨h.1,((eq2 σ h.1).mpr h.2.2).symm⟩,λy hy=>?_⟩⟩
     rcases XS.mp hy with k | k
     ·exact h.2.1 y k
     ·refine(Hd (σ:=σ) (f:=f) (g:=g) ?_).2 y k
      rw[<-h.1.2 _ f h1,<-h.1.2 _ g h2]
      exact(eq2 σ h.1).mpr h.2.2
end
end K23
namespace Fn
open PySem WL
inductive Tr where
 | num (v:Int) | nm (x:Str) | stop (x:Str)
 | does (o:Str) (a b:Tr) | fn (x:Str) (b:Tr) | call (a b:Tr) | first (a b:Tr)
 | lt (n:Nat) (xs:Fin n->Str) (ts:Fin n->Tr) (b:Tr)
 | sh0 (c:Str) | sh2 (c:Str) (a b:Tr)
 | chT (a n y:Tr) | chL (a n:Tr) (x y:Str) (c:Tr) | chP (a:Tr) (x y:Str) (b:Tr)
def tt:Tr->T
 | .num v=>.tup [.str "number",.int v]
 | .nm x=>.tup [.str "name",.str x]
 | .stop x=>.tup [.str "stop",.str x]
 | .does o a b=>.tup [.str "does",.str o,tt a,tt b]
 | .fn x b=>.tup [.str "fun",.str x,tt b]
 | .call a b=>.tup [.str "call",tt a,tt b]
 | .first a b=>.tup [.str "first",tt a,tt b]
 | .lt n xs ts b=>.tup [.str "let",.tup ((List.finRange n).map λi=>.tup [.str (xs i),tt (ts i)]),tt b]
 | .sh0 c=>.tup [.str "shape",.str c,.tup []]
 | .sh2 c a b=>.tup [.str "shape",.str c,.tup [tt a,tt b]]
 | .chT a n y=>.tup [.str "choose",tt a,.tup [.tup [.str "No",.tup [],tt n],.tup [.str "Yes",.tup [],tt y]]]
 | .chL a n x y c=>.tup [.str "choose",tt a,.tup [.tup [.str "Nil",.tup [],tt n],.tup [.str "Cons",.tup [.str x,.str y],tt c]]]
 | .chP a x y b=>.tup [.str "choose",tt a,.tup [.tup [.str "Pair",.tup [.str x,.str y],tt b]]]
def bnd {α:Type}(xs:List Str)(ks:List α)(G:Str->Option α):Str->Option α:=λx=>match (xs.zip ks).reverse.lookup x with | some k=>some k | none=>G x
def sy {α β:Type}{f:α->β}{xs:List Str}{ks:List α}{G:Str->Option α}:bnd xs (ks.map f) (λx=>(G x).map f)=λx=>(bnd xs ks G x).map f:=by
 funext x
 unfold bnd
 have e:(xs.zip (ks.map f)).reverse=((xs.zip ks).reverse).map λp=>(p.1,f p.2):=by
  rw[List.zip_map_right,List.map_reverse];rfl
 have l:∀l:List (Str×α),(l.map λp=>(p.1,f p.2)).lookup x=(l.lookup x).map f:=by
  intro l
  induction l with
  | nil=>rfl
  | cons p l ih=>
   obtain⟨a,b⟩:=p
   simp only[List.map_cons,List.lookup_cons]
   cases x==a
   ·exact ih
   ·rfl
 rw[e,l]
 cases (xs.zip ks).reverse.lookup x<;>rfl
abbrev Ev:=Str->Option Kd
abbrev Vj:Kd:=.k0 "num"
abbrev Qm:Kd:=.k0 "truth"
abbrev Wj (p:Kd):Kd:=.k1 "list" p
abbrev z0 (p q:Kd):Kd:=.k2 "pair" p q
abbrev xv (p q:Kd):Kd:=.k2 "to" p q
def Bf (o:Str):Str:=if o="<"\/o="=" then "truth" else "num"
abbrev Ui {n:Nat}(xs:Fin n->Str):List Str:=(List.finRange n).map xs
inductive Jg:Tr->Ev->Kd->List (Ev×Tr×Kd)->Prop
 | num {v G}:Jg (.num v) G Vj []
 | nm {x G k}:G x=some k->Jg (.nm x) G k []
 | stop {w G k}:Jg (.stop w) G k []
 | does {o a b G}:Jg (.does o a b) G (.k0 (Bf o)) [(G,a,Vj),(G,b,Vj)]
 | fn {x b G p r}:Jg (.fn x b) G (xv p r) [(bnd [x] [p] G,b,r)]
 | call {a b G k p}:Jg (.call a b) G k [(G,a,xv p k),(G,b,p)]
 | first {a b G k p}:Jg (.first a b) G k [(G,a,p),(G,b,k)]
 | lt {n xs ts b G k} {ks:Fin n->Kd}:Jg (.lt n xs ts b) G k (((List.finRange n).map λi=>(bnd (Ui xs) ((List.finRange n).map ks) G,ts i,ks i))++[(bnd (Ui xs) ((List.finRange n).map ks) G,b,k)])
 | nil {G p}:Jg (.sh0 "Nil") G (Wj p) []
 | no {G}:Jg (.sh0 "No") G Qm []
 | yes {G}:Jg (.sh0 "Yes") G Qm []
 | cons {a b G p}:Jg (.sh2 "Cons" a b) G (Wj p) [(G,a,p),(G,b,Wj p)]
 | pair {a b G p q}:Jg (.sh2 "Pair" a b) G (z0 p q) [(G,a,p),(G,b,q)]
 | chT {a n y G k}:Jg (.chT a n y) G k [(G,a,Qm),(G,n,k),(G,y,k)]
 | chL {a n x y c G k p}:Jg (.chL a n x y c) G k [(G,a,Wj p),(G,n,k),(bnd [x,y] [p,Wj p] G,c,k)]
 | chP {a x y b G k p q}:Jg (.chP a x y b) G k [(G,a,z0 p q),(bnd [x,y] [p,q] G,b,k)]
mutual
inductive HT:Ev->Tr->Kd->List Kd->Prop
 | mk {G t k cs rs}:Jg t G k cs->HTs cs rs->HT G t k (k::rs)
inductive HTs:List (Ev×Tr×Kd)->List Kd->Prop
 | nil:HTs [] []
 | cons {G t k r cs rs}:HT G t k r->HTs cs rs->HTs ((G,t,k)::cs) (r++rs)
end
def HTs.app:∀{cs ds:List (Ev×Tr×Kd)} {r s:List Kd},HTs cs r->HTs ds s->HTs (cs++ds) (r++s)
 | [],_,_,_,h,q=>by cases h;exact q
 | _::_,_,_,_,h,q=>by
  cases h with
  | cons a b=>rw[YL];exact .cons a (HTs.app b q)
def HTs.split:∀{cs ds:List (Ev×Tr×Kd)} {r:List Kd},HTs (cs++ds) r->∃a b,r=a++b/\HTs cs a/\HTs ds b
 | [],_,r,h=>⟨[],r,rfl,.nil,h⟩
 | _::_,_,_,h=>by
  cases h with
  | cons a b=>
   obtain⟨x,y,rfl,h1,h2⟩:=HTs.split b
   exact⟨_,y,(YL ..).symm,.cons a h1,h2⟩
def HTs.take {G:Ev}{t:Tr}{k:Kd}{ds:List (Ev×Tr×Kd)}{r:List Kd}(h:HTs ((G,t,k)::ds) r):∃cs r',Jg t G k cs/\r=k::r'/\HTs (cs++ds) r':=by
 cases h with
 | cons a b=>
  cases a with
  | mk x y=>exact⟨_,_,x,rfl,y.app b⟩
def HTs.give {G:Ev}{t:Tr}{k:Kd}{cs ds:List (Ev×Tr×Kd)}{r:List Kd}(x:Jg t G k cs)(h:HTs (cs++ds) r):HTs ((G,t,k)::ds) (k::r):=by
 obtain⟨a,b,rfl,h1,h2⟩:=h.split
 exact .cons (.mk x h1) h2
abbrev Pl:=(Str->Option Nat)×Tr×Nat
def Pl.ev (σ:Nat->Kd)(p:Pl):Ev×Tr×Kd:=(λx=>(p.1 x).map σ,p.2.1,σ p.2.2)
def ni (n:Nat)(p:Pl):Prop:=p.2.2<n/\∀x i,p.1 x=some i->i<n
def mV {σ σ':Nat->Kd}{n:Nat}{p:Pl}(h:ni n p)(e:∀i,i<n->σ i=σ' i):Pl.ev σ p=Pl.ev σ' p:=by
 unfold Pl.ev
 rw[e _ h.1]
 congr 1
 funext x
 cases q:p.1 x with
 | none=>rfl
 | some i=>show some (σ i)=some (σ' i);rw[e i (h.2 x i q)]
def Tr.bg:Tr->Nat
 | .lt n _ _ _=>n
 | _=>3
structure vZ (u:Us)(p:Pl)(u':Us)(ps:List Pl):Prop where
 o:u'.Ok
 c:Vz u' []
 le:u.F.length<=u'.F.length
 big:u'.F.length<=u.F.length+p.2.1.bg
 ok:∀z∈ps,ni u'.F.length z
 co:∀σ cs,U7 u σ->Jg p.2.1 (Pl.ev σ p).1 (σ p.2.2) cs->∃σ',(∀i,i<u.F.length->σ' i=σ i)/\U7 u' σ'/\ps.map (Pl.ev σ')=cs
 so:∀σ,U7 u' σ->U7 u σ/\Jg p.2.1 (Pl.ev σ p).1 (σ p.2.2) (ps.map (Pl.ev σ))
def Tr.scs:Tr->List (List Str×Tr)
 | .does _ a b=>[([],a),([],b)]
 | .fn x b=>[([x],b)]
 | .call a b=>[([],a),([],b)]
 | .first a b=>[([],a),([],b)]
 | .lt _ xs ts b=>((List.finRange _).map λi=>(Ui xs,ts i))++[(Ui xs,b)]
 | .sh2 _ a b=>[([],a),([],b)]
 | .chT a n y=>[([],a),([],n),([],y)]
 | .chL a n x y c=>[([],a),([],n),([x,y],c)]
 | .chP a x y b=>[([],a),([x,y],b)]
 | _=>[]
abbrev As:=List (List Nat×Nat)
def Bj (t:Tr)(as:As)(σ:Nat->Kd)(G:Ev):List (Ev×Tr×Kd):=(t.scs.zip as).map λz=>(bnd z.1.1 (z.2.1.map σ) G,z.1.2,σ z.2.2)
structure Nc (u u':Us)(P:(Nat->Kd)->Prop):Prop where
 o:u'.Ok
 c:Vz u' []
 le:u.F.length<=u'.F.length
 sol:∀σ,U7 u' σ↔(U7 u σ/\P σ)
structure J0 (u:Us)(t:Tr)(s:Nat)(u':Us)(as:As):Prop where
 o:u'.Ok
 c:Vz u' []
 le:u.F.length<=u'.F.length
 big:u'.F.length<=u.F.length+t.bg
 n:as.map (λz=>z.1.length)=t.scs.map (λz=>z.1.length)
 ok:∀z∈as,z.2<u'.F.length/\∀i∈z.1,i<u'.F.length
 co:∀σ G cs,U7 u σ->Jg t G (σ s) cs->∃σ',(∀i,i<u.F.length->σ' i=σ i)/\U7 u' σ'/\Bj t as σ' G=cs
 so:∀σ G,U7 u' σ->U7 u σ/\Jg t G (σ s) (Bj t as σ G)
def ov (n:Nat)(σ:Nat->Kd)(ν:Nat->Kd):Nat->Kd:=λi=>if i<n then σ i else ν (i-n)
section
variable {u u1 u2:Us}{P:(Nat->Kd)->Prop}{σ σ' ν:Nat->Kd}{s n:Nat}{f:Fm}{t:Tr}{as:As}
def Xi {i:Nat}(h:i<n):ov n σ ν i=σ i:=XY h
def X3:ov n σ ν n=ν 0:=by unfold ov;rw[XX (Nat.lt_irrefl _),Nat.sub_self]
def Vh {k:Nat}:ov n σ ν (n+k)=ν k:=by unfold ov;rw[XX (by omega)];congr 1;omega
def Vw (o:u.Ok)(h:U7 u σ)(e:∀i,i<u.F.length->σ' i=σ i):U7 u σ':=by
 refine⟨λx hx=>by rw[e x hx,e _ (o.lt x hx)];exact h.1 x hx,λx f hx=>?_⟩
 rw[e x (List.getElem?_eq_some_iff.mp hx).1,h.2 x f hx]
 exact(N3 λp hp=>e p (o.ps x f hx p hp)).symm
def Nc.refl (o:u.Ok)(c:Vz u []):Nc u u λ_=>True:=⟨o,c,XE _,λσ=>⟨λh=>⟨h,trivial⟩,λh=>h.1⟩⟩
def Nc.new (e:Nc u u1 P):Nc u (u1.add none) P:=
 ⟨Vl e.o (λg h=>by cases h),Vv e.o e.c,by rw[Z2];exact Nat.le_succ_of_le e.le,λσ=>by
  rw[Wz e.o,e.sol]
  exact⟨λh=>h.1,λh=>⟨h,λg z=>by cases z⟩⟩⟩
def Nc.known (e:Nc u u1 P)(hf:∀p∈f.ps,p<u1.F.length):Nc u (u1.add (some f)) λσ=>P σ/\σ u1.F.length=f.ev σ:=
 ⟨Vl e.o (λg h=>by cases h;exact hf),Vv e.o e.c,by rw[Z2];exact Nat.le_succ_of_le e.le,λσ=>by
  rw[Wz e.o,e.sol,and_assoc]
  exact⟨λh=>⟨h.1,h.2.1,h.2.2 f rfl⟩,λh=>⟨h.1,h.2.1,λg z=>by cases z;exact h.2.2⟩⟩⟩
structure Ak (u:Us)(s:Nat)(f:Fm)(u2:Us):Prop where
 o:u2.Ok
 c:Vz u2 []
 F:u2.F=u.F++[some f]
 sol:∀σ,U7 u2 σ↔(U7 u σ/\σ u.F.length=f.ev σ/\σ s=σ u.F.length)
def Ak.len (a:Ak u s f u2):u2.F.length=u.F.length+1:=by rw[a.F,List.length_append];rfl
def Nc.ak (e:Nc u u1 P)(a:Ak u1 s f u2):Nc u u2 λσ=>P σ/\σ u1.F.length=f.ev σ/\σ s=σ u1.F.length:=
 ⟨a.o,a.c,by rw[a.len];exact Nat.le_succ_of_le e.le,λσ=>by rw[a.sol,e.sol,and_assoc]⟩
def X2 {u':Us}{B:Nat}(hB:B<=t.bg)(e:Nc u u' P)(o:u.Ok)(big:u'.F.length<=u.F.length+B)(n:as.map (λz=>z.1.length)=t.scs.map (λz=>z.1.length))(ok:∀z∈as,z.2<u'.F.length/\∀i∈z.1,i<u'.F.length)
  (co:∀σ G cs,Jg t G (σ s) cs->∃ν,P (ov u.F.length σ ν)/\Bj t as (ov u.F.length σ ν) G=cs) (so:∀σ G,P σ->Jg t G (σ s) (Bj t as σ G)):J0 u t s u' as:=
 ⟨e.o,e.c,e.le,XN big (Nat.add_le_add_left hB _),n,ok,λσ G cs h r=>by
  obtain⟨ν,h1,h2⟩:=co σ G cs r
  exact⟨_,λi hi=>Xi hi,(e.sol _).mpr ⟨Vw o h λi hi=>Xi hi,h1⟩,h2⟩,λσ G h=>by
  obtain⟨h1,h2⟩:=(e.sol σ).mp h
  exact⟨h1,so σ G h2⟩⟩
def Jl {α:Type}{ks:List α}{G:Str->Option α}:bnd [] ks G=G:=by funext x;rfl
variable {v:Int}{x y w oo:Str}{a b c d:Tr}
def sG (o:u.Ok)(hs:s<u.F.length)(k:Ak u s (.f0 "num") u2)(cl:Vz u []):J0 u (.num v) s u2 []:=by
 refine X2 (B:=3) (XE 3) ((Nc.refl o cl).ak k) o (by rw[k.len];omega) rfl (λz h=>by cases h) (λσ G cs r=>?_) λσ G h=>?_
 ·generalize hk:σ s=kk at r
  cases r
  exact⟨λ_=>Vj,⟨trivial,by rw[X3];rfl,by rw[Xi hs,X3,hk]⟩,rfl⟩
 ·rw[h.2.2,h.2.1];exact .num
def vS (o:u.Ok)(cl:Vz u []):J0 u (.stop w) s u []:=by
 refine X2 (B:=3) (XE 3) (Nc.refl o cl) o (by omega) rfl (λz h=>by cases h) (λσ G cs r=>?_) λσ G h=>.stop
 generalize hk:σ s=kk at r
 cases r
 exact⟨λ_=>Vj,trivial,rfl⟩
def jU {cc:Str}(hc:cc="No"\/cc="Yes")(o:u.Ok)(hs:s<u.F.length)(k:Ak u s (.f0 "truth") u2)(cl:Vz u []):J0 u (.sh0 cc) s u2 []:=by
 refine X2 (B:=3) (XE 3) ((Nc.refl o cl).ak k) o (by rw[k.len];omega) rfl (λz h=>by cases h) (λσ G cs r=>?_) λσ G h=>?_
 ·generalize hk:σ s=kk at r
  have e:kk=Qm/\cs=[]:=by
   rcases hc with rfl | rfl
   ·cases r with
    | no=>exact⟨rfl,rfl⟩
   ·cases r with
    | yes=>exact⟨rfl,rfl⟩
  obtain⟨rfl,rfl⟩:=e
  exact⟨λ_=>Qm,⟨trivial,by rw[X3];rfl,by rw[Xi hs,X3,hk]⟩,rfl⟩
 ·rw[h.2.2,h.2.1]
  rcases hc with rfl | rfl
  ·exact .no
  ·exact .yes
def vU (o:u.Ok)(hs:s<u.F.length)(k:Ak u s (.f0 (Bf oo)) u1)(cl:Vz u []):J0 u (.does oo a b) s (u1.add (some (.f0 "num"))) [([],u1.F.length),([],u1.F.length)]:=by
 have kl:=k.len
 refine X2 (B:=3) (XE 3) (((Nc.refl o cl).ak k).known (f:=.f0 "num") (λp h=>by cases h)) o (by rw[Z2];omega) rfl ?_ (λσ G cs r=>?_) λσ G h=>?_
 ·intro z hz
  rw[Z2]
  simp only[ZM,ZN,or_false] at hz
  rcases hz with rfl | rfl<;>exact⟨Nat.lt_succ_self _,λi h=>by cases h⟩
 ·generalize hk:σ s=kk at r
  cases r
  refine⟨λi=>if i=0 then .k0 (Bf oo) else Vj,⟨⟨trivial,by rw[X3];rfl,by rw[Xi hs,X3,hk];rfl⟩,by rw[kl,Vh];rfl⟩,?_⟩
  show[(bnd [] _ G,a,_),(bnd [] _ G,b,_)]=_
  simp only[Jl]
  rw[kl,Vh]
  rfl
 ·rw[h.1.2.2,h.1.2.1]
  show Jg _ _ _ [(bnd [] _ G,a,_),(bnd [] _ G,b,_)]
  simp only[Jl]
  rw[h.2]
  exact .does
def jV (o:u.Ok)(hs:s<u.F.length)(cl:Vz u []):J0 u (.first a b) s (u.add none) [([],u.F.length),([],s)]:=by
 refine X2 (B:=3) (XE 3) (Nc.refl o cl).new o (by rw[Z2];omega) rfl ?_ (λσ G cs r=>?_) λσ G h=>?_
 ·intro z hz
  rw[Z2]
  simp only[ZM,ZN,or_false] at hz
  rcases hz with rfl | rfl
  ·exact⟨Nat.lt_succ_self _,λi h=>by cases h⟩
  ·exact⟨by show s<_;omega,λi h=>by cases h⟩
 ·generalize hk:σ s=kk at r
  cases r with
  | @first _ _ _ _ p=>
   refine⟨λ_=>p,trivial,?_⟩
   show[(bnd [] _ G,a,_),(bnd [] _ G,b,_)]=_
   simp only[Jl]
   rw[X3,Xi hs,hk]
 ·show Jg _ _ _ [(bnd [] _ G,a,_),(bnd [] _ G,b,_)]
  simp only[Jl]
  exact .first
def vW (o:u.Ok)(hs:s<u.F.length)(cl:Vz u []):J0 u (.call a b) s ((u.add none).add (some (.f2 "to" u.F.length s))) [([],u.F.length+1),([],u.F.length)]:=by
 have l1:(u.add none).F.length=u.F.length+1:=Z2
 refine X2 (B:=3) (Nat.le_refl 3) ((Nc.refl o cl).new.known (f:=.f2 "to" u.F.length s) (λp h=>by simp only[Fm.ps,List.mem_cons,List.not_mem_nil,or_false] at h;rcases h with rfl | rfl<;>omega)) o (by rw[Z2,l1];omega) rfl ?_ (λσ G cs r=>?_) λσ G h=>?_
 ·intro z hz
  rw[Z2,l1]
  simp only[ZM,ZN,or_false] at hz
  rcases hz with rfl | rfl
  ·exact⟨by show u.F.length+1<_;omega,λi h=>by cases h⟩
  ·exact⟨by show u.F.length<_;omega,λi h=>by cases h⟩
 ·generalize hk:σ s=kk at r
  cases r with
  | @call _ _ _ _ p=>
   refine⟨λi=>if i=0 then p else xv p kk,⟨trivial,?_⟩,?_⟩
   ·rw[l1,Vh]
    show xv p kk=.k2 "to" (ov _ _ _ _) (ov _ _ _ s)
    rw[X3,Xi hs,hk];rfl
   ·show[(bnd [] _ G,a,_),(bnd [] _ G,b,_)]=_
    simp only[Jl]
    rw[X3,Vh];rfl
 ·show Jg _ _ _ [(bnd [] _ G,a,σ (u.F.length+1)),(bnd [] _ G,b,_)]
  have e:=h.2
  rw[l1] at e
  simp only[Jl]
  rw[e]
  exact .call
def oS (o:u.Ok)(hs:s<u.F.length)(cl:Vz u [])(k:Ak ((u.add none).add none) s (.f2 "to" u.F.length (u.F.length+1)) u2):J0 u (.fn x b) s u2 [([u.F.length],u.F.length+1)]:=by
 have l1:(u.add none).F.length=u.F.length+1:=Z2
 have l2:((u.add none).add none).F.length=u.F.length+2:=by rw[Z2,l1]
 have kl:=k.len
 refine X2 (B:=3) (XE 3) ((Nc.refl o cl).new.new.ak k) o (by omega) rfl ?_ (λσ G cs r=>?_) λσ G h=>?_
 ·intro z hz
  rw[kl,l2,XQ.mp hz]
  exact⟨by show u.F.length+1<_;omega,λi h=>by rw[XQ.mp h];omega⟩
 ·generalize hk:σ s=kk at r
  cases r with
  | @fn _ _ _ p rr=>
   refine⟨λi=>if i=0 then p else if i=1 then rr else xv p rr,⟨trivial,?_,?_⟩,?_⟩
   ·rw[l2,Vh]
    show xv p rr=.k2 "to" (ov _ _ _ _) (ov _ _ _ _)
    rw[X3,Vh];rfl
   ·rw[l2,Vh,Xi hs,hk];rfl
   ·show[(bnd [x] [ov _ _ _ _] G,b,ov _ _ _ _)]=_
    rw[X3,Vh];rfl
 ·rw[h.2.2,h.2.1]
  exact .fn
def sH (o:u.Ok)(hs:s<u.F.length)(cl:Vz u [])(k:Ak (u.add none) s (.f1 "list" u.F.length) u2):J0 u (.sh0 "Nil") s u2 []:=by
 have l1:(u.add none).F.length=u.F.length+1:=Z2
 have kl:=k.len
 refine X2 (B:=3) (XE 3) ((Nc.refl o cl).new.ak k) o (by omega) rfl (λz h=>by cases h) (λσ G cs r=>?_) λσ G h=>?_
 ·generalize hk:σ s=kk at r
  cases r with
  | @nil _ p=>
   refine⟨λi=>if i=0 then p else Wj p,⟨trivial,?_,?_⟩,rfl⟩
   ·rw[l1,Vh]
    show Wj p=.k1 "list" (ov _ _ _ _)
    rw[X3];rfl
   ·rw[l1,Vh,Xi hs,hk];rfl
 ·rw[h.2.2,h.2.1];exact .nil
def vV (o:u.Ok)(hs:s<u.F.length)(cl:Vz u [])(k:Ak (u.add none) s (.f1 "list" u.F.length) u2):J0 u (.sh2 "Cons" a b) s u2 [([],u.F.length),([],s)]:=by
 have l1:(u.add none).F.length=u.F.length+1:=Z2
 have kl:=k.len
 refine X2 (B:=3) (XE 3) ((Nc.refl o cl).new.ak k) o (by omega) rfl ?_ (λσ G cs r=>?_) λσ G h=>?_
 ·intro z hz
  rw[kl,l1]
  simp only[ZM,ZN,or_false] at hz
  rcases hz with rfl | rfl
  ·exact⟨by show u.F.length<_;omega,λi h=>by cases h⟩
  ·exact⟨by show s<_;omega,λi h=>by cases h⟩
 ·generalize hk:σ s=kk at r
  cases r with
  | @cons _ _ _ p=>
   refine⟨λi=>if i=0 then p else Wj p,⟨trivial,?_,?_⟩,?_⟩
   ·rw[l1,Vh]
    show Wj p=.k1 "list" (ov _ _ _ _)
    rw[X3];rfl
   ·rw[l1,Vh,Xi hs,hk];rfl
   ·show[(bnd [] _ G,a,_),(bnd [] _ G,b,_)]=_
    simp only[Jl]
    rw[X3,Xi hs,hk];rfl
 ·show Jg _ _ _ [(bnd [] _ G,a,_),(bnd [] _ G,b,_)]
  simp only[Jl]
  rw[h.2.2,h.2.1]
  exact .cons
def vT (o:u.Ok)(hs:s<u.F.length)(cl:Vz u [])(k:Ak ((u.add none).add none) s (.f2 "pair" u.F.length (u.F.length+1)) u2):J0 u (.sh2 "Pair" a b) s u2 [([],u.F.length),([],u.F.length+1)]:=by
 have l1:(u.add none).F.length=u.F.length+1:=Z2
 have l2:((u.add none).add none).F.length=u.F.length+2:=by rw[Z2,l1]
 have kl:=k.len
 refine X2 (B:=3) (XE 3) ((Nc.refl o cl).new.new.ak k) o (by omega) rfl ?_ (λσ G cs r=>?_) λσ G h=>?_
 ·intro z hz
  rw[kl,l2]
  simp only[ZM,ZN,or_false] at hz
  rcases hz with rfl | rfl
  ·exact⟨by show u.F.length<_;omega,λi h=>by cases h⟩
  ·exact⟨by show u.F.length+1<_;omega,λi h=>by cases h⟩
 ·generalize hk:σ s=kk at r
  cases r with
  | @pair _ _ _ p q=>
   refine⟨λi=>if i=0 then p else if i=1 then q else z0 p q,⟨trivial,?_,?_⟩,?_⟩
   ·rw[l2,Vh]
    show z0 p q=.k2 "pair" (ov _ _ _ _) (ov _ _ _ _)
    rw[X3,Vh];rfl
   ·rw[l2,Vh,Xi hs,hk];rfl
   ·show[(bnd [] _ G,a,_),(bnd [] _ G,b,_)]=_
    simp only[Jl]
    rw[X3,Vh];rfl
 ·show Jg _ _ _ [(bnd [] _ G,a,_),(bnd [] _ G,b,_)]
  simp only[Jl]
  rw[h.2.2,h.2.1]
  exact .pair
def sI (o:u.Ok)(hs:s<u.F.length)(cl:Vz u []):J0 u (.chT a b c) s (u.add (some (.f0 "truth"))) [([],u.F.length),([],s),([],s)]:=by
 refine X2 (B:=3) (XE 3) ((Nc.refl o cl).known (f:=.f0 "truth") (λp h=>by cases h)) o (by rw[Z2];omega) rfl ?_ (λσ G cs r=>?_) λσ G h=>?_
 ·intro z hz
  rw[Z2]
  simp only[ZM,ZN,or_false] at hz
  rcases hz with rfl | rfl | rfl
  ·exact⟨by show u.F.length<_;omega,λi h=>by cases h⟩
  ·exact⟨by show s<_;omega,λi h=>by cases h⟩
  ·exact⟨by show s<_;omega,λi h=>by cases h⟩
 ·generalize hk:σ s=kk at r
  cases r
  refine⟨λ_=>Qm,⟨trivial,by rw[X3];rfl⟩,?_⟩
  show[(bnd [] _ G,a,_),(bnd [] _ G,b,_),(bnd [] _ G,c,_)]=_
  simp only[Jl]
  rw[X3,Xi hs,hk]
 ·show Jg _ _ _ [(bnd [] _ G,a,_),(bnd [] _ G,b,_),(bnd [] _ G,c,_)]
  simp only[Jl]
  rw[h.2]
  exact .chT
def sK (o:u.Ok)(hs:s<u.F.length)(cl:Vz u []):J0 u (.chL a b x y c) s ((u.add none).add (some (.f1 "list" u.F.length))) [([],u.F.length+1),([],s),([u.F.length,u.F.length+1],s)]:=by
 have l1:(u.add none).F.length=u.F.length+1:=Z2
 refine X2 (B:=3) (XE 3) ((Nc.refl o cl).new.known (f:=.f1 "list" u.F.length) (λp h=>by rw[XQ.mp h];omega)) o (by rw[Z2,l1];omega) rfl ?_ (λσ G cs r=>?_) λσ G h=>?_
 ·intro z hz
  rw[Z2,l1]
  simp only[ZM,ZN,or_false] at hz
  rcases hz with rfl | rfl | rfl
  ·exact⟨by show u.F.length+1<_;omega,λi h=>by cases h⟩
  ·exact⟨by show s<_;omega,λi h=>by cases h⟩
  ·exact⟨by show s<_;omega,λi h=>by simp only[ZM,ZN,or_false] at h;omega⟩
 ·generalize hk:σ s=kk at r
  cases r with
  | @chL _ _ _ _ _ _ _ p=>
   refine⟨λi=>if i=0 then p else Wj p,⟨trivial,?_⟩,?_⟩
   ·rw[l1,Vh]
    show Wj p=.k1 "list" (ov _ _ _ _)
    rw[X3];rfl
   ·show[(bnd [] _ G,a,_),(bnd [] _ G,b,_),(bnd [x,y] [ov _ _ _ _,ov _ _ _ _] G,c,_)]=_
    simp only[Jl]
    rw[X3,Vh,Xi hs,hk];rfl
 ·show Jg _ _ _ [(bnd [] _ G,a,σ (u.F.length+1)),(bnd [] _ G,b,_),(bnd [x,y] [σ u.F.length,σ (u.F.length+1)] G,c,_)]
  have e:=h.2
  rw[l1] at e
  simp only[Jl]
  rw[e]
  exact .chL
def sJ (o:u.Ok)(hs:s<u.F.length)(cl:Vz u []):J0 u (.chP a x y b) s (((u.add none).add none).add (some (.f2 "pair" u.F.length (u.F.length+1)))) [([],u.F.length+2),([u.F.length,u.F.length+1],s)]:=by
 have l1:(u.add none).F.length=u.F.length+1:=Z2
 have l2:((u.add none).add none).F.length=u.F.length+2:=by rw[Z2,l1]
 refine X2 (B:=3) (Nat.le_refl 3) ((Nc.refl o cl).new.new.known (f:=.f2 "pair" u.F.length (u.F.length+1)) (λp h=>by simp only[Fm.ps,List.mem_cons,List.not_mem_nil,or_false] at h;omega)) o (by rw[Z2,l2];omega) rfl ?_ (λσ G cs r=>?_) λσ G h=>?_
 ·intro z hz
  rw[Z2,l2]
  simp only[ZM,ZN,or_false] at hz
  rcases hz with rfl | rfl
  ·exact⟨by show u.F.length+2<_;omega,λi h=>by cases h⟩
  ·exact⟨by show s<_;omega,λi h=>by simp only[ZM,ZN,or_false] at h;omega⟩
 ·generalize hk:σ s=kk at r
  cases r with
  | @chP _ _ _ _ _ _ p q=>
   refine⟨λi=>if i=0 then p else if i=1 then q else z0 p q,⟨trivial,?_⟩,?_⟩
   ·rw[l2,Vh]
    show z0 p q=.k2 "pair" (ov _ _ _ _) (ov _ _ _ _)
    rw[X3,Vh];rfl
   ·show[(bnd [] _ G,a,_),(bnd [x,y] [ov _ _ _ _,ov _ _ _ _] G,b,_)]=_
    simp only[Jl]
    rw[X3,Vh,Vh,Xi hs,hk];rfl
 ·show Jg _ _ _ [(bnd [] _ G,a,σ (u.F.length+2)),(bnd [x,y] [σ u.F.length,σ (u.F.length+1)] G,b,_)]
  have e:=h.2
  rw[l2] at e
  simp only[Jl]
  rw[e]
  exact .chP
def Us.addN (u:Us):Nat->Us
 | 0=>u
 | n+1=>(u.addN n).add none
def Qu:∀n,(u.addN n).F.length=u.F.length+n
 | 0=>rfl
 | n+1=>by show((u.addN n).add none).F.length=_;rw[Z2,Qu n];omega
def Nc.newN (e:Nc u u1 P):∀n,Nc u (u1.addN n) P
 | 0=>e
 | n+1=>(Nc.newN e n).new
abbrev Tj (u:Us)(n:Nat):List Nat:=(List.finRange n).map λi=>u.F.length+i.val
def yC {m:Nat}{xs:Fin m->Str}{ts:Fin m->Tr}{G:Ev}:Bj (.lt m xs ts b) (((Tj u m).map λo=>(Tj u m,o))++[(Tj u m,s)]) σ G=
  ((List.finRange m).map λi=>(bnd (Ui xs) ((List.finRange m).map λi=>σ (u.F.length+i.val)) G,ts i,σ (u.F.length+i.val)))++[(bnd (Ui xs) ((List.finRange m).map λi=>σ (u.F.length+i.val)) G,b,σ s)]:=by
 have e:(Tj u m).map σ=(List.finRange m).map λi=>σ (u.F.length+i.val):=by rw[YE];rfl
 unfold Bj Tr.scs
 rw[List.zip_append (by rw[XI,XI,XI]),XL,YE,List.zip_map',YE,<-e]
 rfl
def oR {m:Nat}{xs:Fin m->Str}{ts:Fin m->Tr}(hm:m<=10)(o:u.Ok)(hs:s<u.F.length)(cl:Vz u []):J0 u (.lt m xs ts b) s (u.addN m) (((Tj u m).map λo=>(Tj u m,o))++[(Tj u m,s)]):=by
 have lo:∀i∈Tj u m,i<(u.addN m).F.length:=λi hi=>by
  obtain⟨j,_,rfl⟩:=XR.mp hi
  rw[Qu];have:=j.isLt;omega
 refine X2 (B:=m) (Nat.le_refl m) ((Nc.refl o cl).newN m) o (by rw[Qu];omega) (by simp[Tr.scs,Function.comp_def]) ?_ (λσ G cs r=>?_) λσ G h=>?_
 ·intro z hz
  rcases XS.mp hz with hz | hz
  ·obtain⟨i,hi,rfl⟩:=XR.mp hz
   exact⟨lo i hi,lo⟩
  ·rw[XQ.mp hz]
   exact⟨by show s<_;rw[Qu];omega,lo⟩
 ·generalize hk:σ s=kk at r
  cases r with
  | @lt _ _ _ _ _ _ ks=>
   refine⟨λi=>if h:i<m then ks ⟨i,h⟩ else Vj,trivial,?_⟩
   rw[yC,Xi hs,hk]
   have e:∀i:Fin m,ov u.F.length σ (λi=>if h:i<m then ks ⟨i,h⟩ else Vj) (u.F.length+i.val)=ks i:=λi=>by
    rw[Vh,dif_pos i.isLt]
   simp only[e]
 ·rw[yC]
  exact .lt (ks:=λi=>σ (u.F.length+i.val))
end
end Fn
namespace K23
open PySem PySem.Spec PyProof.Rows L2 WL Fn
abbrev yX (z:List Nat×Nat):T:=.tup [.tup (z.1.map nT),nT z.2]
section
variable {A:Sd}{C C':Hw}{u:Us}{Q:WK}{χ:WX}{n x a b k s:Nat}{o:O}{σ σ0:Nat->Kd}{τ:Sw}{f:Fm}{t:Tr}
def Sf {C1:Hw}{u1:Us}{p:Addr}(S:Sl A C1 u1)(F:Fx A C C1)(h:C1 p=none):C p=none:=by
 obtain⟨_,_,S⟩:=S
 cases e:C p with
 | none=>rfl
 | some w=>
  by_cases c:p=A.f
  ·rw[c,S.f] at h;cases h
  ·by_cases d:p=A.l
   ·rw[d,S.l] at h;cases h
   ·rw[F p w c d e] at h;cases h
def Sl.new {p:Addr}(S:Sl A C u)(h:C p=none):Sl A (up C p o) u:=by
 obtain⟨rk,L,S⟩:=S
 exact⟨rk,L,S.new h⟩
def Ua {C1:Hw}{u1:Us}{p:Addr}(S:Sl A C1 u1)(F:Fx A C C1)(h:C1 p=none):Fx A C (up C1 p o):=λc w m1 m2 e=>by
 have q:=F c w m1 m2 e
 rw[Zg λz=>by rw[z,h] at q;cases q]
 exact q
def Pc {X:WE}(S:Sl A C u)(o:u.Ok)(hn:u.F.length<=8000)(h0:τ[0]?=some (some (.ref A.r)))(hX:∀{C:Hw} {Q:WK},Q (yM (some f)) C->X τ C Q χ)
  (q:∀C',Sl A C' (u.add (some f))->Fx A C C'->Q (nT u.F.length) C'):N9 (Ya pr (n+1)) [("Slots",7)] "known" (Yj 0) (Zr X Zq) τ C Q χ:=by
 obtain⟨rk,L,S0⟩:=id S
 refine⟨_,h0,_,_,_,_,rfl,S0.r,rfl,rfl,hX ?_⟩
 dsimp only[Zq]
 exact yo (n:=n) S o (by omega) q
def Ja (S:Sl A C u)(o:u.Ok)(hn:u.F.length<=8000)(h0:τ[0]?=some (some (.ref A.r)))(q:∀C',Sl A C' (u.add none)->Fx A C C'->Q (nT u.F.length) C'):
  N9 (Ya pr (n+2)) [("Slots",6)] "unknown" (Yj 0) Zq τ C Q χ:=by
 obtain⟨rk,L,S0⟩:=id S
 exact⟨_,h0,_,_,_,_,rfl,S0.r,rfl,rfl,Gq (n:=n) S o (by omega) q⟩
def zz {X:WE}(S:Sl A C u)(o:u.Ok)(cl:Vz u [])(hs:s<u.F.length)(hf:∀p∈f.ps,p<u.F.length)(w:∃σ0,U7 u σ0/\σ0 s=f.ev σ0)(hn:u.F.length<=8000)
  (h0:τ[0]?=some (some (.ref A.r))) (hk:τ[k]?=some (some (nT s))) (hX:∀{C:Hw} {Q:WK},Q (yM (some f)) C->X τ C Q χ) (q:∀C' u2,Sl A C' u2->Fx A C C'->Ak u s f u2->Q .non C'):
  N9 (Ya pr (n+2)) [("Slots",10)] "make_alike" (Yj 0) (Zr (Yj k) (Zr (N9 (Ya pr (n+2)) [("Slots",7)] "known" (Yj 0) (Zr X Zq)) Zq)) τ C Q χ:=by
 obtain⟨rk,L,S0⟩:=id S
 refine⟨_,h0,_,_,_,_,rfl,S0.r,rfl,rfl,_,hk,Pc (n:=n+1) S o hn h0 hX λC1 S1 F1=>?_⟩
 dsimp only[Zq]
 obtain⟨σ0,w1,w2⟩:=w
 have o1:(u.add (some f)).Ok:=Vl o (λg h=>by cases h;exact hf)
 have ag:∀i,i<u.F.length->ov u.F.length σ0 (λ_=>f.ev σ0) i=σ0 i:=λi hi=>Xi hi
 have fe:f.ev (ov u.F.length σ0 λ_=>f.ev σ0)=f.ev σ0:=N3 λp hp=>ag p (hf p hp)
 refine No (n:=n) (σ0:=ov u.F.length σ0 λ_=>f.ev σ0) S1 o1 (Vv o cl) (by rw[Z2];omega) (by rw[Z2];omega) ((Wz o).mpr ⟨Vw o w1 ag,λg h=>by cases h;rw[X3,fe]⟩) (by rw[ag s hs,X3,w2]) (by rw[Z2];omega)
  λC2 u2 S2 F2 o2 c2 e2 sol2=>q C2 u2 S2 (F1.trans F2) ⟨o2,c2,e2,λσ=>?_⟩
 rw[sol2,Wz o,and_assoc]
 exact⟨λh=>⟨h.1,h.2.1 f rfl,h.2.2⟩,λh=>⟨h.1,λg z=>by cases z;exact h.2.1,h.2.2⟩⟩
def Je {C1:Hw}{u1:Us}{as:As}(q:∀C' p u' as,Sl A C' u'->Fx A C C'->C p=none->C' p=some (.lst (as.map yX))->J0 u t s u' as->Q (.ref p) C')(S1:Sl A C1 u1)(F1:Fx A C C1)(h:J0 u t s u1 as)
  (p:Addr) (hp:C1 p=none):Q (.ref p) (up C1 p (.lst (as.map yX))):=q _ p u1 as (S1.new hp) (Ua S1 F1 hp) (Sf S1 F1 hp) Ze h
def Y3 {m:Nat}(h:m<=100000):m<=sizeLine:=XN h (by decide)
def Eg {oo:Str}{t1 t2:Tr}(S:Sl A C u)(o:u.Ok)(cl:Vz u [])(hs:s<u.F.length)(hn:u.F.length<=7000)(w:∃σ0 G cs,U7 u σ0/\Jg (.does oo t1 t2) G (σ0 s) cs)
  (q:∀C' p u' as,Sl A C' u'->Fx A C C'->C p=none->C' p=some (.lst (as.map yX))->J0 u (.does oo t1 t2) s u' as->Q (.ref p) C'):Ya pr (n+3) Ew [.ref A.r,.str oo,nT s] C Q χ:=by
 refine Fu rfl ?_
 unfold T0 Ss
 have key:∀(v:Str),v=Bf oo->∀D:We,D.rt=Q->D.xc=χ->(Ti (Cw (N9 (Ya pr (n+2)) [("Slots",10)] "make_alike" (Yj 0) (Zr (Yj 2) (Zr (N9 (Ya pr (n+2)) [("Slots",7)] "known" (Yj 0) (Zr (N8 (Zr (Yj 3) Zq)) Zq)) Zq))))
   (Ti (Mx (N9 (Ya pr (n+2)) [("Slots",7)] "known" (Yj 0) (Zr (N8 (Zr (eC (.str "num")) Zq)) Zq)) (Aa 4)) (Eh (Ag (Zr (N8 (Zr (N8 Zq) (Zr (Yj 4) Zq))) (Zr (N8 (Zr (N8 Zq) (Zr (Yj 4) Zq))) Zq)))))) D
   [some (.ref A.r),some (.str oo),some (nT s),some (.str v),none] C:=by
  rintro v rfl D rfl rfl
  obtain⟨σ0,G,cs,w1,w2⟩:=w
  have we:σ0 s=(Fm.f0 (Bf oo)).ev σ0:=by generalize σ0 s=kk at w2;cases w2;rfl
  refine zz (n:=n) (s:=s) (f:=.f0 (Bf oo)) S o cl hs (λp h=>by cases h) ⟨σ0,w1,we⟩ (by omega) rfl rfl (λ{C Q} h=>⟨_,rfl,Y3 (by show 1<=_;omega),h⟩) λC1 u1 S1 F1 ak=>?_
  have l1:=ak.len
  refine Pc (n:=n+1) (f:=.f0 "num") S1 ak.o (by omega) rfl (λ{C Q} h=>⟨Y3 (by show 1<=_;omega),h⟩) λC2 S2 F2=>?_
  refine⟨Y3 (by show 0<=_;omega),_,rfl,Y3 (by show 2<=_;omega),Y3 (by show 0<=_;omega),_,rfl,Y3 (by show 2<=_;omega),Y3 (by show 2<=_;omega),λp hp=>?_⟩
  exact Je q S2 (F1.trans F2) (vU o hs ak cl) p hp
 by_cases c1:oo="<"
 ·exact⟨_,rfl,Zx (v:=true) (by rw[c1];exact XU _) ⟨_,rfl,Yf (Yf (key _ (by unfold Bf;rw[XY (.inl c1)]) _ rfl rfl))⟩⟩
 ·refine⟨_,rfl,Zx (v:=false) (beq_eq_false_iff_ne.mpr c1) ⟨_,rfl,Zl ?_⟩⟩
  by_cases c2:oo="="
  ·exact⟨_,rfl,Zx (v:=true) (by rw[c2];exact XU _) ⟨_,rfl,Yf (key _ (by unfold Bf;rw[XY (.inr c2)]) _ rfl rfl)⟩⟩
  ·exact⟨_,rfl,Zx (v:=false) (beq_eq_false_iff_ne.mpr c2) ⟨_,rfl,Zl (key _ (by unfold Bf;rw[XX (by rintro(h | h);exact c1 h;exact c2 h)]) _ rfl rfl)⟩⟩
def wm {c:Str}(S:Sl A C u)(o:u.Ok)(cl:Vz u [])(hs:s<u.F.length)(hn:u.F.length<=7000)(w:∃σ0 G cs,U7 u σ0/\Jg (.sh0 c) G (σ0 s) cs)
  (q:∀C' p u' as,Sl A C' u'->Fx A C C'->C p=none->C' p=some (.lst (as.map yX))->J0 u (.sh0 c) s u' as->Q (.ref p) C'):Ya pr (n+3) Ps [.ref A.r,.str c,nT s] C Q χ:=by
 refine Pi rfl ?_
 unfold Wt W0
 obtain⟨σ0,G,cs,w1,w2⟩:=w
 have k7:∀cc:Str,(cc="No"\/cc="Yes")->c=cc->σ0 s=Qm->∀D:We,D.rt=Q->D.xc=χ->∀r:WS,Ti (Cw (N9 (Ya pr (n+2)) [("Slots",10)] "make_alike" (Yj 0) (Zr (Yj 2) (Zr (N9 (Ya pr (n+2)) [("Slots",7)] "known" (Yj 0) (Zr (N8 (Zr (eC (.str "truth")) Zq)) Zq)) Zq))))
   (Eh (Ag Zq)) D [some (.ref A.r),some (.str c),some (nT s),none,none] C:=by
  rintro cc hc rfl hk D rfl rfl r
  refine zz (n:=n) (s:=s) (f:=.f0 "truth") S o cl hs (λp h=>by cases h) ⟨σ0,w1,hk⟩ (by omega) rfl rfl (λ{C Q} h=>⟨Y3 (by show 1<=_;omega),h⟩) λC1 u1 S1 F1 ak=>?_
  exact⟨Y3 (by show 0<=_;omega),λp hp=>Je q S1 F1 (jU hc o hs ak cl) p hp⟩
 generalize hk:σ0 s=kk at w2
 cases w2 with
 | no=>exact⟨_,rfl,Zx (v:=true) (by decide+kernel) ⟨_,rfl,Yf (Yf (k7 "No" (.inl rfl) rfl hk _ rfl rfl Rc))⟩⟩
 | yes=>exact⟨_,rfl,Zx (v:=false) (by decide+kernel) ⟨_,rfl,Zl ⟨_,rfl,Zx (v:=true) (by decide+kernel) ⟨_,rfl,Yf (k7 "Yes" (.inr rfl) rfl hk _ rfl rfl Rc)⟩⟩⟩⟩
 | @nil _ p0=>
  refine⟨_,rfl,Zx (v:=false) (by decide+kernel) ⟨_,rfl,Zl ⟨_,rfl,Zx (v:=false) (by decide+kernel) ⟨_,rfl,Zl ?_⟩⟩⟩⟩
  refine Ja (n:=n) S o (by omega) rfl λC1 S1 F1=>?_
  refine⟨_,rfl,Zx (v:=false) (by decide+kernel) ⟨_,rfl,Zl ?_⟩⟩
  have l1:(u.add none).F.length=u.F.length+1:=Z2
  have o1:(u.add none).Ok:=Vl o (λg h=>by cases h)
  have ag:∀i,i<u.F.length->ov u.F.length σ0 (λ_=>p0) i=σ0 i:=λi hi=>Xi hi
  refine zz (n:=n) (s:=s) (f:=.f1 "list" u.F.length) S1 o1 (Vv o cl) (by omega) (λp h=>by rw[XQ.mp h];omega) ⟨ov u.F.length σ0 λ_=>p0,(Wz o).mpr ⟨Vw o w1 ag,λg h=>by cases h⟩,?_⟩ (by omega) rfl rfl (λ{C Q} h=>⟨_,rfl,Y3 (by show 2<=_;omega),h⟩) λC2 u2 S2 F2 ak=>?_
  ·show _=Kd.k1 "list" (ov _ _ _ _)
   rw[ag s hs,X3,hk]
  ·refine⟨_,rfl,Zx (v:=true) (by decide+kernel) ⟨_,rfl,Yf ?_⟩⟩
   exact⟨Y3 (by show 0<=_;omega),λp hp=>Je q S2 (F1.trans F2) (sH o hs cl ak) p hp⟩
def wj {c:Str}{t1 t2:Tr}(S:Sl A C u)(o:u.Ok)(cl:Vz u [])(hs:s<u.F.length)(hn:u.F.length<=7000)(w:∃σ0 G cs,U7 u σ0/\Jg (.sh2 c t1 t2) G (σ0 s) cs)
  (q:∀C' p u' as,Sl A C' u'->Fx A C C'->C p=none->C' p=some (.lst (as.map yX))->J0 u (.sh2 c t1 t2) s u' as->Q (.ref p) C'):Ya pr (n+3) Ps [.ref A.r,.str c,nT s] C Q χ:=by
 refine Pi rfl ?_
 unfold Wt W0
 obtain⟨σ0,G,cs,w1,w2⟩:=w
 have l1:(u.add none).F.length=u.F.length+1:=Z2
 have o1:(u.add none).Ok:=Vl o (λg h=>by cases h)
 generalize hk:σ0 s=kk at w2
 cases w2 with
 | @cons _ _ _ p0=>
  refine⟨_,rfl,Zx (v:=false) (by decide+kernel) ⟨_,rfl,Zl ⟨_,rfl,Zx (v:=false) (by decide+kernel) ⟨_,rfl,Zl ?_⟩⟩⟩⟩
  refine Ja (n:=n) S o (by omega) rfl λC1 S1 F1=>?_
  refine⟨_,rfl,Zx (v:=false) (by decide+kernel) ⟨_,rfl,Zl ?_⟩⟩
  have ag:∀i,i<u.F.length->ov u.F.length σ0 (λ_=>p0) i=σ0 i:=λi hi=>Xi hi
  refine zz (n:=n) (s:=s) (f:=.f1 "list" u.F.length) S1 o1 (Vv o cl) (by omega) (λp h=>by rw[XQ.mp h];omega) ⟨ov u.F.length σ0 λ_=>p0,(Wz o).mpr ⟨Vw o w1 ag,λg h=>by cases h⟩,?_⟩ (by omega) rfl rfl (λ{C Q} h=>⟨_,rfl,Y3 (by show 2<=_;omega),h⟩) λC2 u2 S2 F2 ak=>?_
  ·show _=Kd.k1 "list" (ov _ _ _ _)
   rw[ag s hs,X3,hk]
  ·refine⟨_,rfl,Zx (v:=false) (by decide+kernel) ⟨_,rfl,Zl ?_⟩⟩
   refine⟨Y3 (by show 0<=_;omega),_,rfl,Y3 (by show 2<=_;omega),Y3 (by show 0<=_;omega),_,rfl,Y3 (by show 2<=_;omega),Y3 (by show 2<=_;omega),λp hp=>?_⟩
   exact Je q S2 (F1.trans F2) (vV o hs cl ak) p hp
 | @pair _ _ _ p0 q0=>
  refine⟨_,rfl,Zx (v:=false) (by decide+kernel) ⟨_,rfl,Zl ⟨_,rfl,Zx (v:=false) (by decide+kernel) ⟨_,rfl,Zl ?_⟩⟩⟩⟩
  refine Ja (n:=n) S o (by omega) rfl λC1 S1 F1=>?_
  refine⟨_,rfl,Zx (v:=true) (by decide+kernel) ⟨_,rfl,Yf ?_⟩⟩
  refine Ja (n:=n) S1 o1 (by omega) rfl λC2 S2 F2=>?_
  have o2:((u.add none).add none).Ok:=Vl o1 (λg h=>by cases h)
  have l2:((u.add none).add none).F.length=u.F.length+2:=by rw[Z2,l1]
  have ag:∀i,i<u.F.length->ov u.F.length σ0 (λi=>if i=0 then p0 else q0) i=σ0 i:=λi hi=>Xi hi
  have S2':=S2
  rw[l1]
  refine zz (n:=n) (s:=s) (f:=.f2 "pair" u.F.length (u.F.length+1)) S2 o2 (Vv o1 (Vv o cl)) (by omega) (λp h=>by simp only[Fm.ps,List.mem_cons,List.not_mem_nil,or_false] at h;omega) ⟨ov u.F.length σ0 λi=>if i=0 then p0 else q0,(Wz o1).mpr ⟨(Wz o).mpr ⟨Vw o w1 ag,λg h=>by cases h⟩,λg h=>by cases h⟩,?_⟩ (by omega) rfl rfl (λ{C Q} h=>⟨_,rfl,_,rfl,Y3 (by show 3<=_;omega),h⟩) λC3 u3 S3 F3 ak=>?_
  ·show _=Kd.k2 "pair" (ov _ _ _ _) (ov _ _ _ _)
   rw[ag s hs,X3,Vh,hk];rfl
  ·refine⟨Y3 (by show 0<=_;omega),_,rfl,Y3 (by show 2<=_;omega),Y3 (by show 0<=_;omega),_,rfl,Y3 (by show 2<=_;omega),Y3 (by show 2<=_;omega),λp hp=>?_⟩
   exact Je q S3 ((F1.trans F2).trans F3) (vT o hs cl ak) p hp
end
def Tr.isNm:Tr->Bool
 | .nm _=>true
 | _=>false
section
variable {A:Sd}{C C':Hw}{u:Us}{Q:WK}{χ:WX}{n x a b k s:Nat}{o:O}{σ σ0:Nat->Kd}{τ:Sw}{f:Fm}{t:Tr}
def zx (S:Sl A C u)(o:u.Ok)(hn:u.F.length<=8000)(h0:τ[k]?=some (some (.ref A.r)))(q:∀C',Sl A C' (u.add none)->Fx A C C'->Q (nT u.F.length) C'):
  N9 (Ya pr (n+2)) [("Slots",6)] "unknown" (Yj k) Zq τ C Q χ:=by
 obtain⟨rk,L,S0⟩:=id S
 exact⟨_,h0,_,_,_,_,rfl,S0.r,rfl,rfl,Gq (n:=n) S o (by omega) q⟩
def ja (o:u.Ok):∀n,(u.addN n).Ok
 | 0=>o
 | n+1=>Vl (ja o n) (λg h=>by cases h)
def mE {t1 t2 t3:Tr}(S:Sl A C u)(o:u.Ok)(cl:Vz u [])(hs:s<u.F.length)(hn:u.F.length<=7000)
  (q:∀C' p u' as,Sl A C' u'->Fx A C C'->C p=none->C' p=some (.lst (as.map yX))->J0 u (.chT t1 t2 t3) s u' as->Q (.ref p) C'):Ya pr (n+3) V8 [.ref A.r,.str "No",nT s] C Q χ:=by
 refine V2 rfl ?_
 unfold J3 J9
 refine⟨_,rfl,Zx (v:=true) (by decide+kernel) ⟨_,rfl,Yf ?_⟩⟩
 refine⟨Y3 (by show 0<=_;omega),Pc (n:=n+1) (f:=.f0 "truth") S o (by omega) rfl (λ{C Q} h=>⟨Y3 (by show 1<=_;omega),h⟩) λC1 S1 F1=>?_⟩
 refine⟨Y3 (by show 2<=_;omega),Y3 (by show 0<=_;omega),_,rfl,Y3 (by show 2<=_;omega),Y3 (by show 0<=_;omega),_,rfl,Y3 (by show 2<=_;omega),Y3 (by show 3<=_;omega),λp hp=>?_⟩
 exact Je q S1 F1 (sI o hs cl) p hp
def mG {t1 t2 t3:Tr}{x y:Str}(S:Sl A C u)(o:u.Ok)(cl:Vz u [])(hs:s<u.F.length)(hn:u.F.length<=7000)
  (q:∀C' p u' as,Sl A C' u'->Fx A C C'->C p=none->C' p=some (.lst (as.map yX))->J0 u (.chL t1 t2 x y t3) s u' as->Q (.ref p) C'):Ya pr (n+3) V8 [.ref A.r,.str "Nil",nT s] C Q χ:=by
 refine V2 rfl ?_
 unfold J3 J9
 have l1:(u.add none).F.length=u.F.length+1:=Z2
 have o1:(u.add none).Ok:=Vl o (λg h=>by cases h)
 refine⟨_,rfl,Zx (v:=false) (by decide+kernel) ⟨_,rfl,Zl ?_⟩⟩
 refine Ja (n:=n) S o (by omega) rfl λC1 S1 F1=>?_
 refine⟨_,rfl,Zx (v:=false) (by decide+kernel) ⟨_,rfl,Zl ?_⟩⟩
 refine Pc (n:=n+1) (f:=.f1 "list" u.F.length) S1 o1 (by omega) rfl (λ{C Q} h=>⟨_,rfl,Y3 (by show 2<=_;omega),h⟩) λC2 S2 F2=>?_
 rw[l1]
 refine⟨Y3 (by show 0<=_;omega),_,rfl,Y3 (by show 2<=_;omega),Y3 (by show 0<=_;omega),_,rfl,Y3 (by show 2<=_;omega),_,rfl,_,rfl,Y3 (by show 2<=_;omega),_,rfl,Y3 (by show 2<=_;omega),Y3 (by show 3<=_;omega),λp hp=>?_⟩
 exact Je q S2 (F1.trans F2) (sK o hs cl) p hp
def mF {t1 t2:Tr}{x y:Str}(S:Sl A C u)(o:u.Ok)(cl:Vz u [])(hs:s<u.F.length)(hn:u.F.length<=7000)
  (q:∀C' p u' as,Sl A C' u'->Fx A C C'->C p=none->C' p=some (.lst (as.map yX))->J0 u (.chP t1 x y t2) s u' as->Q (.ref p) C'):Ya pr (n+3) V8 [.ref A.r,.str "Pair",nT s] C Q χ:=by
 refine V2 rfl ?_
 unfold J3 J9
 have l1:(u.add none).F.length=u.F.length+1:=Z2
 have o1:(u.add none).Ok:=Vl o (λg h=>by cases h)
 have l2:((u.add none).add none).F.length=u.F.length+2:=by rw[Z2,l1]
 have o2:((u.add none).add none).Ok:=Vl o1 (λg h=>by cases h)
 refine⟨_,rfl,Zx (v:=false) (by decide+kernel) ⟨_,rfl,Zl ?_⟩⟩
 refine Ja (n:=n) S o (by omega) rfl λC1 S1 F1=>?_
 refine⟨_,rfl,Zx (v:=true) (by decide+kernel) ⟨_,rfl,Yf ?_⟩⟩
 refine Ja (n:=n) S1 o1 (by omega) rfl λC2 S2 F2=>?_
 rw[l1]
 refine⟨Y3 (by show 0<=_;omega),Pc (n:=n+1) (f:=.f2 "pair" u.F.length (u.F.length+1)) S2 o2 (by omega) rfl (λ{C Q} h=>⟨_,rfl,_,rfl,Y3 (by show 3<=_;omega),h⟩) λC3 S3 F3=>?_⟩
 rw[l2]
 refine⟨Y3 (by show 2<=_;omega),_,rfl,_,rfl,Y3 (by show 2<=_;omega),_,rfl,Y3 (by show 2<=_;omega),Y3 (by show 2<=_;omega),λp hp=>?_⟩
 exact Je q S3 ((F1.trans F2).trans F3) (sJ o hs cl) p hp
def Ed (t:Tr)(ht:Tr.isNm t=false)(hl:∀m xs ts b,t=.lt m xs ts b->m<=10)(S:Sl A C u)(o:u.Ok)(cl:Vz u [])(hs:s<u.F.length)(hn:u.F.length<=7000)(w:∃σ0 G cs,U7 u σ0/\Jg t G (σ0 s) cs)
  (q:∀C' p u' as,Sl A C' u'->Fx A C C'->C p=none->C' p=some (.lst (as.map yX))->J0 u t s u' as->Q (.ref p) C'):Ya pr (n+4) Es [.ref A.r,tt t,nT s] C Q χ:=by
 refine Fq rfl ?_
 unfold Tv So
 have l1:(u.add none).F.length=u.F.length+1:=Z2
 have o1:(u.add none).Ok:=Vl o (λg h=>by cases h)
 cases t with
 | nm x=>cases ht
 | num v=>
  refine⟨_,rfl,_,Zv,?_⟩
  refine⟨_,rfl,Zx (v:=true) (by decide+kernel) ⟨_,rfl,Yf ?_⟩⟩
  obtain⟨σ0,G,cs,w1,w2⟩:=w
  have we:σ0 s=(Fm.f0 "num").ev σ0:=by generalize σ0 s=kk at w2;cases w2;rfl
  refine zz (n:=n+1) (s:=s) (f:=.f0 "num") S o cl hs (λp h=>by cases h) ⟨σ0,w1,we⟩ (by omega) rfl rfl (λ{C Q} h=>⟨Y3 (by show 1<=_;omega),h⟩) λC1 u1 S1 F1 ak=>?_
  exact⟨Y3 (by show 0<=_;omega),λp hp=>Je q S1 F1 (sG o hs ak cl) p hp⟩
 | does oo t1 t2=>
  refine⟨_,rfl,_,Zv,?_⟩
  refine⟨_,rfl,Zx (v:=false) (by decide+kernel) ⟨_,rfl,Zl ?_⟩⟩
  refine⟨_,rfl,Zx (v:=true) (by decide+kernel) ⟨_,rfl,Yf ?_⟩⟩
  refine⟨_,rfl,_,rfl,_,Ym,_,rfl,?_⟩
  dsimp only[Zq]
  exact Eg (n:=n) S o cl hs hn w q
 | fn x b=>
  refine⟨_,rfl,_,Zv,?_⟩
  refine⟨_,rfl,Zx (v:=false) (by decide+kernel) ⟨_,rfl,Zl ?_⟩⟩
  refine⟨_,rfl,Zx (v:=false) (by decide+kernel) ⟨_,rfl,Zl ?_⟩⟩
  refine⟨_,rfl,Zx (v:=true) (by decide+kernel) ⟨_,rfl,Yf ?_⟩⟩
  obtain⟨σ0,G,cs,w1,w2⟩:=w
  generalize hk:σ0 s=kk at w2
  cases w2 with
  | @fn _ _ _ p0 q0=>
  refine Ja (n:=n+1) S o (by omega) rfl λC1 S1 F1=>?_
  refine Ja (n:=n+1) S1 o1 (by omega) rfl λC2 S2 F2=>?_
  have o2:((u.add none).add none).Ok:=Vl o1 (λg h=>by cases h)
  have l2:((u.add none).add none).F.length=u.F.length+2:=by rw[Z2,l1]
  have ag:∀i,i<u.F.length->ov u.F.length σ0 (λi=>if i=0 then p0 else q0) i=σ0 i:=λi hi=>Xi hi
  rw[l1]
  refine zz (n:=n+1) (s:=s) (f:=.f2 "to" u.F.length (u.F.length+1)) S2 o2 (Vv o1 (Vv o cl)) (by omega) (λp h=>by simp only[Fm.ps,List.mem_cons,List.not_mem_nil,or_false] at h;omega) ⟨ov u.F.length σ0 λi=>if i=0 then p0 else q0,(Wz o1).mpr ⟨(Wz o).mpr ⟨Vw o w1 ag,λg h=>by cases h⟩,λg h=>by cases h⟩,?_⟩ (by omega) rfl rfl (λ{C Q} h=>⟨_,rfl,_,rfl,Y3 (by show 3<=_;omega),h⟩) λC3 u3 S3 F3 ak=>?_
  ·show _=Kd.k2 "to" (ov _ _ _ _) (ov _ _ _ _)
   rw[ag s hs,X3,Vh,hk];rfl
  ·refine⟨_,rfl,Y3 (by show 1<=_;omega),_,rfl,Y3 (by show 2<=_;omega),Y3 (by show 1<=_;omega),λp hp=>?_⟩
   exact Je q S3 ((F1.trans F2).trans F3) (oS o hs cl ak) p hp
 | call t1 t2=>
  refine⟨_,rfl,_,Zv,?_⟩
  refine⟨_,rfl,Zx (v:=false) (by decide+kernel) ⟨_,rfl,Zl ?_⟩⟩
  refine⟨_,rfl,Zx (v:=false) (by decide+kernel) ⟨_,rfl,Zl ?_⟩⟩
  refine⟨_,rfl,Zx (v:=false) (by decide+kernel) ⟨_,rfl,Zl ?_⟩⟩
  refine⟨_,rfl,Zx (v:=true) (by decide+kernel) ⟨_,rfl,Yf ?_⟩⟩
  refine Ja (n:=n+1) S o (by omega) rfl λC1 S1 F1=>?_
  refine⟨Y3 (by show 0<=_;omega),Pc (n:=n+2) (f:=.f2 "to" u.F.length s) S1 o1 (by omega) rfl (λ{C Q} h=>⟨_,rfl,_,rfl,Y3 (by show 3<=_;omega),h⟩) λC2 S2 F2=>?_⟩
  rw[l1]
  refine⟨Y3 (by show 2<=_;omega),Y3 (by show 0<=_;omega),_,rfl,Y3 (by show 2<=_;omega),Y3 (by show 2<=_;omega),λp hp=>?_⟩
  exact Je q S2 (F1.trans F2) (vW o hs cl) p hp
 | first t1 t2=>
  refine⟨_,rfl,_,Zv,?_⟩
  refine⟨_,rfl,Zx (v:=false) (by decide+kernel) ⟨_,rfl,Zl ?_⟩⟩
  refine⟨_,rfl,Zx (v:=false) (by decide+kernel) ⟨_,rfl,Zl ?_⟩⟩
  refine⟨_,rfl,Zx (v:=false) (by decide+kernel) ⟨_,rfl,Zl ?_⟩⟩
  refine⟨_,rfl,Zx (v:=false) (by decide+kernel) ⟨_,rfl,Zl ?_⟩⟩
  refine⟨_,rfl,Zx (v:=false) (by decide+kernel) ⟨_,rfl,Zl ?_⟩⟩
  refine⟨_,rfl,Zx (v:=false) (by decide+kernel) ⟨_,rfl,Zl ?_⟩⟩
  refine⟨_,rfl,Zx (v:=false) (by decide+kernel) ⟨_,rfl,Zl ?_⟩⟩
  refine⟨_,rfl,Zx (v:=true) (by decide+kernel) ⟨_,rfl,Yf ?_⟩⟩
  refine⟨Y3 (by show 0<=_;omega),Ja (n:=n+1) S o (by omega) rfl λC1 S1 F1=>?_⟩
  refine⟨Y3 (by show 2<=_;omega),Y3 (by show 0<=_;omega),_,rfl,Y3 (by show 2<=_;omega),Y3 (by show 2<=_;omega),λp hp=>?_⟩
  exact Je q S1 F1 (jV o hs cl) p hp
 | stop y=>
  refine⟨_,rfl,_,Zv,?_⟩
  refine⟨_,rfl,Zx (v:=false) (by decide+kernel) ⟨_,rfl,Zl ?_⟩⟩
  refine⟨_,rfl,Zx (v:=false) (by decide+kernel) ⟨_,rfl,Zl ?_⟩⟩
  refine⟨_,rfl,Zx (v:=false) (by decide+kernel) ⟨_,rfl,Zl ?_⟩⟩
  refine⟨_,rfl,Zx (v:=false) (by decide+kernel) ⟨_,rfl,Zl ?_⟩⟩
  refine⟨_,rfl,Zx (v:=false) (by decide+kernel) ⟨_,rfl,Zl ?_⟩⟩
  refine⟨_,rfl,Zx (v:=false) (by decide+kernel) ⟨_,rfl,Zl ?_⟩⟩
  refine⟨_,rfl,Zx (v:=false) (by decide+kernel) ⟨_,rfl,Zl ?_⟩⟩
  refine⟨_,rfl,Zx (v:=false) (by decide+kernel) ⟨_,rfl,Zl ?_⟩⟩
  refine⟨_,rfl,Zx (v:=true) (by decide+kernel) ⟨_,rfl,Yf ?_⟩⟩
  exact⟨Y3 (by show 0<=_;omega),λp hp=>Je q S (Fx.refl _ _) (vS o cl) p hp⟩
 | sh0 c=>
  refine⟨_,rfl,_,Zv,?_⟩
  refine⟨_,rfl,Zx (v:=false) (by decide+kernel) ⟨_,rfl,Zl ?_⟩⟩
  refine⟨_,rfl,Zx (v:=false) (by decide+kernel) ⟨_,rfl,Zl ?_⟩⟩
  refine⟨_,rfl,Zx (v:=false) (by decide+kernel) ⟨_,rfl,Zl ?_⟩⟩
  refine⟨_,rfl,Zx (v:=false) (by decide+kernel) ⟨_,rfl,Zl ?_⟩⟩
  refine⟨_,rfl,Zx (v:=false) (by decide+kernel) ⟨_,rfl,Zl ?_⟩⟩
  refine⟨_,rfl,Zx (v:=true) (by decide+kernel) ⟨_,rfl,Yf ?_⟩⟩
  refine⟨_,rfl,_,rfl,_,Ym,_,rfl,?_⟩
  dsimp only[Zq]
  exact wm (n:=n) S o cl hs hn w q
 | sh2 c t1 t2=>
  refine⟨_,rfl,_,Zv,?_⟩
  refine⟨_,rfl,Zx (v:=false) (by decide+kernel) ⟨_,rfl,Zl ?_⟩⟩
  refine⟨_,rfl,Zx (v:=false) (by decide+kernel) ⟨_,rfl,Zl ?_⟩⟩
  refine⟨_,rfl,Zx (v:=false) (by decide+kernel) ⟨_,rfl,Zl ?_⟩⟩
  refine⟨_,rfl,Zx (v:=false) (by decide+kernel) ⟨_,rfl,Zl ?_⟩⟩
  refine⟨_,rfl,Zx (v:=false) (by decide+kernel) ⟨_,rfl,Zl ?_⟩⟩
  refine⟨_,rfl,Zx (v:=true) (by decide+kernel) ⟨_,rfl,Yf ?_⟩⟩
  refine⟨_,rfl,_,rfl,_,Ym,_,rfl,?_⟩
  dsimp only[Zq]
  exact wj (n:=n) S o cl hs hn w q
 | chT t1 t2 t3=>
  refine⟨_,rfl,_,Zv,?_⟩
  refine⟨_,rfl,Zx (v:=false) (by decide+kernel) ⟨_,rfl,Zl ?_⟩⟩
  refine⟨_,rfl,Zx (v:=false) (by decide+kernel) ⟨_,rfl,Zl ?_⟩⟩
  refine⟨_,rfl,Zx (v:=false) (by decide+kernel) ⟨_,rfl,Zl ?_⟩⟩
  refine⟨_,rfl,Zx (v:=false) (by decide+kernel) ⟨_,rfl,Zl ?_⟩⟩
  refine⟨_,rfl,Zx (v:=false) (by decide+kernel) ⟨_,rfl,Zl ?_⟩⟩
  refine⟨_,rfl,Zx (v:=false) (by decide+kernel) ⟨_,rfl,Zl ?_⟩⟩
  refine⟨_,rfl,Zx (v:=true) (by decide+kernel) ⟨_,rfl,Yf ?_⟩⟩
  refine⟨_,rfl,_,rfl,_,Vb,_,Zv,_,Zv,_,rfl,?_⟩
  dsimp only[Zq]
  exact mE (n:=n) S o cl hs hn q
 | chL t1 t2 x y t3=>
  refine⟨_,rfl,_,Zv,?_⟩
  refine⟨_,rfl,Zx (v:=false) (by decide+kernel) ⟨_,rfl,Zl ?_⟩⟩
  refine⟨_,rfl,Zx (v:=false) (by decide+kernel) ⟨_,rfl,Zl ?_⟩⟩
  refine⟨_,rfl,Zx (v:=false) (by decide+kernel) ⟨_,rfl,Zl ?_⟩⟩
  refine⟨_,rfl,Zx (v:=false) (by decide+kernel) ⟨_,rfl,Zl ?_⟩⟩
  refine⟨_,rfl,Zx (v:=false) (by decide+kernel) ⟨_,rfl,Zl ?_⟩⟩
  refine⟨_,rfl,Zx (v:=false) (by decide+kernel) ⟨_,rfl,Zl ?_⟩⟩
  refine⟨_,rfl,Zx (v:=true) (by decide+kernel) ⟨_,rfl,Yf ?_⟩⟩
  refine⟨_,rfl,_,rfl,_,Vb,_,Zv,_,Zv,_,rfl,?_⟩
  dsimp only[Zq]
  exact mG (n:=n) S o cl hs hn q
 | chP t1 x y t2=>
  refine⟨_,rfl,_,Zv,?_⟩
  refine⟨_,rfl,Zx (v:=false) (by decide+kernel) ⟨_,rfl,Zl ?_⟩⟩
  refine⟨_,rfl,Zx (v:=false) (by decide+kernel) ⟨_,rfl,Zl ?_⟩⟩
  refine⟨_,rfl,Zx (v:=false) (by decide+kernel) ⟨_,rfl,Zl ?_⟩⟩
  refine⟨_,rfl,Zx (v:=false) (by decide+kernel) ⟨_,rfl,Zl ?_⟩⟩
  refine⟨_,rfl,Zx (v:=false) (by decide+kernel) ⟨_,rfl,Zl ?_⟩⟩
  refine⟨_,rfl,Zx (v:=false) (by decide+kernel) ⟨_,rfl,Zl ?_⟩⟩
  refine⟨_,rfl,Zx (v:=true) (by decide+kernel) ⟨_,rfl,Yf ?_⟩⟩
  refine⟨_,rfl,_,rfl,_,Vb,_,Zv,_,Zv,_,rfl,?_⟩
  dsimp only[Zq]
  exact mF (n:=n) S o cl hs hn q
 | lt m xs ts b=>
  refine⟨_,rfl,_,Zv,?_⟩
  refine⟨_,rfl,Zx (v:=false) (by decide+kernel) ⟨_,rfl,Zl ?_⟩⟩
  refine⟨_,rfl,Zx (v:=false) (by decide+kernel) ⟨_,rfl,Zl ?_⟩⟩
  refine⟨_,rfl,Zx (v:=false) (by decide+kernel) ⟨_,rfl,Zl ?_⟩⟩
  refine⟨_,rfl,Zx (v:=false) (by decide+kernel) ⟨_,rfl,Zl ?_⟩⟩
  refine⟨_,rfl,Zx (v:=true) (by decide+kernel) ⟨_,rfl,Yf ?_⟩⟩
  refine⟨_,rfl,_,Ym,?_⟩
  have hm:=hl m xs ts b rfl
  refine Tp (λi acc C'=>Sl A C' (u.addN i)/\Fx A C C'/\acc=(List.range i).map (λj=>nT (u.F.length+j))) ⟨S,Fx.refl _ _,rfl⟩ (λ_ _ _ _ _=>trivial) ?_ ?_
  ·rintro i x acc C1 N hx ⟨S1,F1,rfl⟩ hN
   have hi:i<m:=by
    have:=(List.getElem?_eq_some_iff.mp hx).1
    simpa using this
   have la:=Qu (u:=u) i
   refine Yf (q:=N ((List.range i).map λj=>nT (u.F.length+j)) C1) (zx (n:=n+1) S1 (ja o i) (by omega) rfl λC2 S2 F2=>⟨Yu (by simp;omega),hN _ _ ⟨S2,F1.trans F2,?_⟩⟩)
   rw[List.range_succ,XL,la];rfl
  ·rintro acc C1 ⟨S1,F1,rfl⟩ p hp
   refine⟨_,rfl,_,Ze,?_⟩
   have em:(List.finRange m).length=m:=List.length_finRange
   have lm:((List.finRange m).map λi=>T.tup [.str (xs i),tt (ts i)]).length=m:=by rw[XI,em]
   rw[lm] at S1 |-
   have eo:(List.range m).map (λj=>nT (u.F.length+j))=(Tj u m).map nT:=by
    rw[YE]
    have:List.range m=(List.finRange m).map Fin.val:=by
     apply List.ext_getElem
     ·simp
     ·intro i h1 h2;simp
    rw[this,YE]
    rfl
   rw[eo]
   have S2:Sl A (up C1 p (.lst ((Tj u m).map nT))) (u.addN m):=S1.new hp
   have F2:Fx A C (up C1 p (.lst ((Tj u m).map nT))):=Ua S1 F1 hp
   generalize up C1 p (.lst ((Tj u m).map nT))=C2 at S2 F2
   refine⟨_,rfl,?_⟩
   have lo:((Tj u m).map nT).length=m:=by rw[XI,XI,em]
   refine Xt (λt=>.tup [.tup ((Tj u m).map nT),t]) trivial (by rw[lo];exact Y3 (by omega)) (λx hx R hR=>?_) λp2 hp2=>?_
   ·exact⟨_,rfl,_,rfl,Y3 (by show 2<=_;omega),hR⟩
   refine⟨_,rfl,_,rfl,Y3 (by show 2<=_;omega),Y3 (by show 1<=_;omega),λp3 hp3=>?_⟩
   have S3:Sl A (up C2 p2 _) (u.addN m):=S2.new (o:=.lst (((Tj u m).map nT).map λt=>.tup [.tup ((Tj u m).map nT),t])) hp2
   have F3:Fx A C (up C2 p2 _):=Ua (o:=.lst (((Tj u m).map nT).map λt=>.tup [.tup ((Tj u m).map nT),t])) S2 F2 hp2
   have n23:p2≠p3:=λe=>by rw[<-e,Ze] at hp3;cases hp3
   refine⟨_,_,by rw[Zg n23];exact Ze,Ze,by rw[XI,lo];exact Y3 (by show m+1<=_;omega),λp4 hp4=>?_⟩
   have S4:Sl A (up (up C2 p2 _) p3 _) (u.addN m):=S3.new (o:=.lst [.tup [.tup ((Tj u m).map nT),nT s]]) hp3
   have F4:Fx A C (up (up C2 p2 _) p3 _):=Ua (o:=.lst [.tup [.tup ((Tj u m).map nT),nT s]]) S3 F3 hp3
   have fin:=Je q S4 F4 (oR (xs:=xs) (ts:=ts) (b:=b) hm o hs cl) p4 hp4
   have e:∀os:List Nat,((os.map λo=>(os,o))++[(os,s)]).map yX=((os.map nT).map λt=>T.tup [.tup (os.map nT),t])++[.tup [.tup (os.map nT),nT s]]:=λos=>by
    rw[XL,YE,YE];rfl
   rw[e] at fin
   exact fin
end
def I0 {kvs:List (Zz×T)}{kk j:Zz}{v:T}:Yl (Y0 kvs kk v) j=if j=kk then some v else Yl kvs j:=by
 have key:∀kvs:List (Zz×T),Yl (kvs.map λz=>if z.1=kk then(z.1,v) else z) j=if j=kk/\(kvs.any λz=>decide (z.1=kk))=true then some v else Yl kvs j:=by
  intro kvs
  induction kvs with
  | nil=>simp[Yl]
  | cons z r ih=>
   unfold Yl at ih |-
   rw[YI,List.find?_cons,List.find?_cons,List.any_cons]
   by_cases c:z.1=kk
   ·rw[XY c]
    by_cases d:j=kk
    ·subst d;simp[c]
    ·have:¬z.1=j:=λe=>d (e.symm.trans c)
     simp only[this,decide_false,d,false_and,if_false]
     rw[ih];simp[d]
   ·rw[XX c]
    by_cases d:z.1=j
    ·have:¬j=kk:=λe=>c (d.trans e)
     simp[d,this]
    ·simp only[d,decide_false,c,Bool.false_or]
     exact ih
 unfold Y0
 split
 next h=>rw[key];simp[h]
 next h=>
  unfold Yl
  rw[List.find?_append]
  by_cases d:j=kk
  ·subst d
   have:kvs.find? (λz=>decide (z.1=j))=none:=List.find?_eq_none.mpr λz hz e=>h (List.any_eq_true.mpr ⟨z,hz,e⟩)
   rw[this,if_pos rfl];simp
  ·rw[XX d]
   have:¬kk=j:=λe=>d e.symm
   cases kvs.find? (λz=>decide (z.1=j))<;>simp[this]
section
variable {kvs l more:List (Zz×T)}{kk j:Zz}{v:T}
def vm {a b:List (Zz×T)}:Yl (a++b) j=(Yl a j).or (Yl b j):=by
 unfold Yl
 rw[List.find?_append]
 cases a.find? λkv=>decide (kv.1=j)<;>rfl
def Hc:∀{l base:List (Zz×T)},Yl (l.foldl (λa kv=>Y0 a kv.1 kv.2) base) j=(Yl l.reverse j).or (Yl base j)
 | [],base=>rfl
 | p::l,base=>by
  rw[List.foldl_cons,Hc (l:=l),List.reverse_cons,vm,I0,Option.or_assoc]
  congr 1
  unfold Yl
  by_cases c:j=p.1
  ·subst c;simp
  ·rw[XX c]
   have:¬p.1=j:=λe=>c e.symm
   simp[this]
def Ic:(Y0 kvs kk v).map (·.1)=if (kvs.any λkv=>decide (kv.1=kk))=true then kvs.map (·.1) else kvs.map (·.1)++[kk]:=by
 unfold Y0
 split
 ·rw[YE]
  congr 1
  funext z
  show(if z.1=kk then(z.1,v) else z).1=z.1
  split<;>rfl
 ·rw[XL];rfl
def qx (h:(kvs.map (·.1)).Nodup):((Y0 kvs kk v).map (·.1)).Nodup:=by
 rw[Ic]
 split
 ·exact h
 ·rename_i c
  refine List.nodup_append.mpr ⟨h,List.nodup_cons.mpr ⟨List.not_mem_nil,List.nodup_nil⟩,λa ha b hb=>?_⟩
  rw[XQ.mp hb]
  rintro rfl
  obtain⟨z,hz,rfl⟩:=XR.mp ha
  exact c (List.any_eq_true.mpr ⟨z,hz,by simp⟩)
def yL:∀{l base:List (Zz×T)},(base.map (·.1)).Nodup->((l.foldl (λa kv=>Y0 a kv.1 kv.2) base).map (·.1)).Nodup
 | [],_,h=>h
 | p::l,base,h=>by rw[List.foldl_cons];exact yL (qx h)
def yI {l:List (Zz×T)}(h:(l.map (·.1)).Nodup):Yl l j=some v↔(j,v)∈l:=by
 induction l with
 | nil=>simp[Yl]
 | cons p l ih=>
  obtain⟨h1,h2⟩:=List.nodup_cons.mp h
  have ih:=ih h2
  unfold Yl at ih |-
  rw[List.find?_cons]
  by_cases c:p.1=j
  ·subst c
   simp only[decide_true,Option.map_some,Option.some.injEq,List.mem_cons]
   refine⟨λe=>.inl (by rw[<-e]),λe=>?_⟩
   rcases e with e | e
   ·rw[<-e]
   ·exact absurd (XR.mpr ⟨_,e,rfl⟩) h1
  ·simp only[c,decide_false,List.mem_cons]
   rw[ih]
   exact⟨λe=>.inr e,λe=>e.resolve_left λz=>c (by rw[<-z])⟩
def tP {l:List (Zz×T)}(h:(l.map (·.1)).Nodup):Yl l.reverse j=Yl l j:=by
 have hr:(l.reverse.map (·.1)).Nodup:=by rw[List.map_reverse];exact(List.reverse_perm _).nodup_iff.mpr h
 refine Option.ext λw=>?_
 rw[yI hr,yI h,List.mem_reverse]
def j7 {ks:List Zz}{ts:List T}:Yl (Yx kvs (G7 Y0 ks ts)) j=(Yl (ks.zip ts).reverse j).or (Yl kvs j):=by
 unfold Yx
 rw[Hc,tP]
 ·unfold G7
  rw[Hc]
  cases Yl (ks.zip ts).reverse j<;>rfl
 ·exact yL List.nodup_nil
def yt:(Y0 kvs kk v).length<=kvs.length+1:=by
 have h:=congrArg List.length (Ic (kvs:=kvs) (kk:=kk) (v:=v))
 rw[XI] at h
 rw[h]
 split
 ·rw[XI];omega
 ·rw[List.length_append,XI];exact XE _
def Qo:∀{l base:List (Zz×T)},(l.foldl (λa kv=>Y0 a kv.1 kv.2) base).length<=base.length+l.length
 | [],_=>XE _
 | p::l,base=>by
  rw[List.foldl_cons,YF]
  have:=Qo (l:=l) (base:=Y0 base p.1 p.2)
  have:=yt (kvs:=base) (kk:=p.1) (v:=p.2)
  omega
def xh (kvs:List (Zz×T))(E:Str->Option Nat):Prop:=∀x,Yl kvs (.inr x)=(E x).map nT
def uu {x:Str}:∀{xs:List Str} {ss:List Nat},Yl ((xs.map Sum.inr).zip (ss.map nT)).reverse (.inr x)=((xs.zip ss).reverse.lookup x).map nT:=by
 intro xs ss
 have gen:∀l:List (Str×Nat),Yl (l.map λp=>((Sum.inr p.1:Zz),nT p.2)) (.inr x)=(l.lookup x).map nT:=by
  intro l
  induction l with
  | nil=>rfl
  | cons p l ih=>
   obtain⟨a,b⟩:=p
   unfold Yl at ih |-
   rw[YI,List.find?_cons,List.lookup_cons]
   by_cases c:x=a
   ·subst c;simp
   ·have h1:(x==a)=false:=beq_eq_false_iff_ne.mpr c
    have h2:¬(Sum.inr a:Zz)=.inr x:=λe=>c (by cases e;rfl)
    simp only[h1,h2,decide_false]
    exact ih
 have e:(xs.map (Sum.inr:Str->Zz)).zip (ss.map nT)=(xs.zip ss).map λp=>((Sum.inr p.1:Zz),nT p.2):=by rw[List.zip_map];rfl
 rw[e,<-List.map_reverse]
 exact gen _
def tU {E:Str->Option Nat}{xs:List Str}{ss:List Nat}(h:xh kvs E):xh (Yx kvs (G7 Y0 (xs.map Sum.inr) (ss.map nT))) (bnd xs ss E):=λx=>by
 rw[j7,uu,h x]
 unfold bnd
 cases (xs.zip ss).reverse.lookup x<;>rfl
def rE {xs:List Str}{ss:List Nat}:(G7 Y0 (xs.map Sum.inr) (ss.map nT)).length<=xs.length:=by
 unfold G7
 refine XN Qo ?_
 rw[List.length_zip,XI,List.length_nil]
 omega
def j6 {xs:List Str}{ss:List Nat}:(Yx kvs (G7 Y0 (xs.map Sum.inr) (ss.map nT))).length<=kvs.length+xs.length:=by
 unfold Yx
 exact XN Qo (Nat.add_le_add_left rE _)
end
abbrev sS (z:List Str×Tr):List T×T:=(z.1.map T.str,tt z.2)
def re:∀t:Tr,(∀m xs ts b,t=.lt m xs ts b->m<=10)->∃e,Sc (tt t) e (t.scs.map sS)
 | .num v,_=>⟨_,.other (by decide)⟩
 | .nm v,_=>⟨_,.other (by decide)⟩
 | .stop v,_=>⟨_,.other (by decide)⟩
 | .does _ _ _,_=>⟨_,.does⟩
 | .fn _ _,_=>⟨_,.fun_⟩
 | .call _ _,_=>⟨_,.call⟩
 | .first _ _,_=>⟨_,.first⟩
 | .lt m xs ts b,h=>by
  have hm:=h m xs ts b rfl
  have e:=Sc.let_ (B:=tt b) (xs:=(List.finRange m).map λi=>(T.str (xs i),tt (ts i))) (by rw[XI,List.length_finRange];omega)
  refine⟨none,?_⟩
  show Sc (.tup [.str "let",.tup ((List.finRange m).map λi=>.tup [.str (xs i),tt (ts i)]),tt b]) none ((((List.finRange m).map λi=>(Ui xs,ts i))++[(Ui xs,b)]).map sS)
  have e1:((List.finRange m).map λi=>(T.str (xs i),tt (ts i))).map (·.1)=(Ui xs).map T.str:=by rw[YE,YE];rfl
  rw[e1,YE,YE] at e
  rw[XL,YE]
  exact e
 | .sh0 _,_=>⟨_,.shape (ZNB rfl)⟩
 | .sh2 _ _ _,_=>⟨_,.shape (ZNB rfl)⟩
 | .chT a n y,_=>⟨_,.choose (ys:=[(.str "No",[],tt n),(.str "Yes",[],tt y)]) (ZNB rfl)⟩
 | .chL a n x y c,_=>⟨_,.choose (ys:=[(.str "Nil",[],tt n),(.str "Cons",[.str x,.str y],tt c)]) (ZNB rfl)⟩
 | .chP a x y b,_=>⟨_,.choose (ys:=[(.str "Pair",[.str x,.str y],tt b)]) (ZNB rfl)⟩
def n5 (C:Hw)(N:Nat)(p:Pl)(v:T):Prop:=∃d kv,v=.tup [tt p.2.1,.ref d,nT p.2.2]/\C d=some (.dic kv)/\xh kv p.1/\kv.length<=N
def n5.mono {A:Sd}{C C':Hw}{N:Nat}{p:Pl}{v:T}(h:n5 C N p v)(S:∃u,Sl A C u)(F:Fx A C C'):n5 C' N p v:=by
 obtain⟨d,kv,h1,h2,h3,h4⟩:=h
 obtain⟨u,rk,L,S⟩:=S
 exact⟨d,kv,h1,F d _ (λe=>by rw[e,S.f] at h2;cases h2) (λe=>by rw[e,S.l] at h2;cases h2) h2,h3,h4⟩
abbrev Pt (C:Hw)(N:Nat)(ps:List Pl)(vs:List T):Prop:=Paired (n5 C N) ps vs
def Pt.mono {A:Sd}{C C':Hw}{N:Nat}{ps:List Pl}{vs:List T}(h:Pt C N ps vs)(S:∃u,Sl A C u)(F:Fx A C C'):Pt C' N ps vs:=by
 induction h with
 | nil=>exact .nil
 | cons a b ih=>exact .cons (a.mono S F) ih
def Pt.snoc {C:Hw}{N:Nat}{ps:List Pl}{vs:List T}{p:Pl}{v:T}(h:Pt C N ps vs)(q:n5 C N p v):Pt C N (ps++[p]) (vs++[v]):=by
 induction h with
 | nil=>exact .cons q .nil
 | cons a b ih=>exact .cons a ih
def Pt.keep {C C':Hw}{N:Nat}{ps:List Pl}{vs:List T}(h:Pt C N ps vs)(k:∀c kv,C c=some (.dic kv)->C' c=some (.dic kv)):Pt C' N ps vs:=by
 induction h with
 | nil=>exact .nil
 | cons a b ih=>
  obtain⟨d,kv,h1,h2,h3,h4⟩:=a
  exact .cons ⟨d,kv,h1,k d kv h2,h3,h4⟩ ih
def Sl.other {A:Sd}{C:Hw}{u:Us}{o:O}{p:Addr}(S:Sl A C u)(h:p≠A.r/\p≠A.f/\p≠A.l):Sl A (up C p o) u:=by
 obtain⟨rk,L,S⟩:=S
 exact⟨rk,L,S.other h.1 h.2.1 h.2.2⟩
def Jq {C:Hw}{a b:Addr}{o:O}(h:C a=some o)(h':C b=none):a≠b:=λe=>by rw[e,h'] at h;cases h
def Sl.off {A:Sd}{C:Hw}{u:Us}{p:Addr}(S:Sl A C u)(hp:C p=none):p≠A.r/\p≠A.f/\p≠A.l:=by
 obtain⟨_,_,h⟩:=S
 exact⟨λe=>(by rw[e,h.r] at hp;cases hp),λe=>(by rw[e,h.f] at hp;cases hp),λe=>(by rw[e,h.l] at hp;cases hp)⟩
def wU (E:Str->Option Nat)(t:Tr)(as:As):List Pl:=(t.scs.zip as).map λz=>(bnd z.1.1 z.2.1 E,z.1.2,z.2.2)
def px {E:Str->Option Nat}{t:Tr}{as:As}(h:as.length=t.scs.length):(wU E t as).map (λz=>z.2.1)=t.scs.map (λz=>z.2):=by
 unfold wU
 rw[YE]
 have:((λz:Pl=>z.2.1)∘λz:(List Str×Tr)×(List Nat×Nat)=>(bnd z.1.1 z.2.1 E,z.1.2,z.2.2))=(λz=>z.2)∘Prod.fst:=rfl
 rw[this,<-YE,List.map_fst_zip (by omega)]
def rC {E:Str->Option Nat}{t:Tr}{as:As}{σ:Nat->Kd}:(wU E t as).map (Pl.ev σ)=Bj t as σ (λx=>(E x).map σ):=by
 unfold wU Bj
 rw[YE]
 congr 1
 funext z
 show((λx=>(bnd z.1.1 z.2.1 E x).map σ),z.1.2,σ z.2.2)=_
 rw[<-sy]
def u9 {u u':Us}{E:Str->Option Nat}{t:Tr}{s:Nat}{as:As}(h:J0 u t s u' as)(hb:∀x i,E x=some i->i<u.F.length):vZ u (E,t,s) u' (wU E t as) where
 o:=h.o
 c:=h.c
 le:=h.le
 big:=h.big
 ok:=λz hz=>by
  obtain⟨y,hy,rfl⟩:=XR.mp hz
  obtain⟨h1,h2⟩:=h.ok y.2 (List.of_mem_zip hy).2
  refine⟨h1,λx i e=>?_⟩
  have e:bnd y.1.1 y.2.1 E x=some i:=e
  unfold bnd at e
  cases l:(y.1.1.zip y.2.1).reverse.lookup x with
  | none=>rw[l] at e;exact XG (hb x i e) h.le
  | some j=>
   rw[l] at e
   cases e
   have:=PySem.mem_of_lookup l
   exact h2 i (List.of_mem_zip (List.mem_reverse.mp this)).2
 co:=λσ cs h1 h2=>by
  obtain⟨σ',a,b,c⟩:=h.co σ _ cs h1 h2
  refine⟨σ',a,b,?_⟩
  rw[rC,<-c]
  congr 1
  funext x
  show(E x).map σ'=(E x).map σ
  cases e:E x with
  | none=>rfl
  | some i=>show some (σ' i)=some (σ i);rw[a i (hb x i e)]
 so:=λσ h1=>by
  obtain⟨a,b⟩:=h.so σ (λx=>(E x).map σ) h1
  exact⟨a,by rw[rC];exact b⟩
section
variable {A:Sd}{C C':Hw}{u:Us}{Q:WK}{χ:WX}{n s:Nat}{t:Tr}{d:Addr}{kv:List (Zz×T)}{E:Str->Option Nat}
def xY:∀(t:Tr),(∀m xs ts b,t=.lt m xs ts b->m<=10)->∀z∈t.scs,z.1.length<=10
 | .num _,_,z,h=>by cases h
 | .nm _,_,z,h=>by cases h
 | .stop _,_,z,h=>by cases h
 | .sh0 _,_,z,h=>by cases h
 | .does _ _ _,_,z,h=>by simp only[Tr.scs,List.mem_cons,List.not_mem_nil,or_false] at h;rcases h with rfl | rfl<;>exact Nat.zero_le _
 | .fn _ _,_,z,h=>by rw[XQ.mp h];exact ZNB rfl
 | .call _ _,_,z,h=>by simp only[Tr.scs,List.mem_cons,List.not_mem_nil,or_false] at h;rcases h with rfl | rfl<;>exact Nat.zero_le _
 | .first _ _,_,z,h=>by simp only[Tr.scs,List.mem_cons,List.not_mem_nil,or_false] at h;rcases h with rfl | rfl<;>exact Nat.zero_le _
 | .sh2 _ _ _,_,z,h=>by simp only[Tr.scs,List.mem_cons,List.not_mem_nil,or_false] at h;rcases h with rfl | rfl<;>exact Nat.zero_le _
 | .chT _ _ _,_,z,h=>by simp only[Tr.scs,List.mem_cons,List.not_mem_nil,or_false] at h;rcases h with rfl | rfl | rfl<;>exact Nat.zero_le _
 | .chL _ _ _ _ _,_,z,h=>by simp only[Tr.scs,List.mem_cons,List.not_mem_nil,or_false] at h;rcases h with rfl | rfl | rfl<;>exact ZNB rfl
 | .chP _ _ _ _,_,z,h=>by simp only[Tr.scs,List.mem_cons,List.not_mem_nil,or_false] at h;rcases h with rfl | rfl<;>exact ZNB rfl
 | .lt m xs ts b,hm,z,h=>by
  have hm:=hm m xs ts b rfl
  have e:(Ui xs).length<=10:=by rw[XI,List.length_finRange];exact hm
  rcases XS.mp h with h | h
  ·obtain⟨i,_,rfl⟩:=XR.mp h;exact e
  ·rw[XQ.mp h];exact e
def Cu {x:Str}(S:Sl A C u)(o:u.Ok)(cl:Vz u [])(hs:s<u.F.length)(hn:u.F.length<=7000)(hE:xh kv E)(hb:∀x i,E x=some i->i<u.F.length)(hd:C d=some (.dic kv))
  (w:∃σ0 cs,U7 u σ0/\Jg (.nm x) (λx=>(E x).map σ0) (σ0 s) cs)
  (q:∀C' p u' ps vs,Sl A C' u'->Fx A C C'->C p=none->C' p=some (.lst vs)->Pt C' (kv.length+10) ps vs->vZ u (E,.nm x,s) u' ps->ps.map (λz=>z.2.1)=(Tr.nm x).scs.map (λz=>z.2)->Q (.ref p) C'):Ya pr (n+5) Vk [.ref A.r,tt (.nm x),.ref d,nT s] C Q χ:=by
 refine Sv rfl ?_
 unfold Xj Xk
 refine⟨_,rfl,_,Zv,Zx (v:=true) (by decide+kernel) ⟨_,rfl,Yf ?_⟩⟩
 obtain⟨σ0,cs,w1,w2⟩:=w
 obtain⟨i,hi,he⟩:∃i,E x=some i/\σ0 i=σ0 s:=by
  generalize σ0 s=kk at w2
  cases w2 with
  | nm h=>
   have h:(E x).map σ0=some kk:=h
   cases e:E x with
   | none=>rw[e] at h;cases h
   | some i=>rw[e] at h;exact⟨i,rfl,YH h⟩
 obtain⟨rk,L,S0⟩:=id S
 refine⟨_,rfl,_,_,_,_,rfl,S0.r,rfl,rfl,_,rfl,_,rfl,_,rfl,_,Ym,_,_,_,_,rfl,rfl,.inl hd,by rw[hE x,hi];rfl,?_⟩
 dsimp only[Zq]
 refine No (n:=n+2) (σ0:=σ0) S o cl hs (hb x i hi) w1 he.symm (by omega) λC1 u1 S1 F1 o1 c1 e1 sol1=>?_
 refine⟨Y3 (by show 0<=_;omega),λp hp=>?_⟩
 refine q _ p u1 [] [] (S1.new hp) (Ua S1 F1 hp) (Sf S1 F1 hp) Ze .nil ⟨o1,c1,by rw[e1];exact XE _,by rw[e1];omega,λz hz=>(by cases hz),λσ cs h1 h2=>?_,λσ h1=>?_⟩ rfl
 ·have h2:Jg (.nm x) (λx=>(E x).map σ) (σ s) cs:=h2
  have z:cs=[]/\σ s=σ i:=by
   generalize σ s=kk at h2
   cases h2 with
   | nm h=>
    have h:(E x).map σ=some kk:=h
    rw[hi] at h
    exact⟨rfl,(YH h).symm⟩
  exact⟨σ,λ_ _=>rfl,(sol1 σ).mpr ⟨h1,z.2⟩,z.1.symm⟩
 ·obtain⟨a,b⟩:=(sol1 σ).mp h1
  exact⟨a,.nm (by show(E x).map σ=some (σ s);rw[hi,b];rfl)⟩
def Ct (ht:Tr.isNm t=false)(hl:∀m xs ts b,t=.lt m xs ts b->m<=10)(S:Sl A C u)(o:u.Ok)(cl:Vz u [])(hs:s<u.F.length)(hn:u.F.length<=7000)(hE:xh kv E)(hb:∀x i,E x=some i->i<u.F.length)(hd:C d=some (.dic kv))(hk:kv.length<=90000)
  (w:∃σ0 cs,U7 u σ0/\Jg t (λx=>(E x).map σ0) (σ0 s) cs)
  (q:∀C' p u' ps vs,Sl A C' u'->Fx A C C'->C p=none->C' p=some (.lst vs)->Pt C' (kv.length+10) ps vs->vZ u (E,t,s) u' ps->ps.map (λz=>z.2.1)=t.scs.map (λz=>z.2)->Q (.ref p) C'):Ya pr (n+5) Vk [.ref A.r,tt t,.ref d,nT s] C Q χ:=by
 refine Sv rfl ?_
 unfold Xj Xk
 obtain⟨wd,r,et,hw⟩:∃(wd:Str) (r:List T),tt t=.tup (.str wd::r)/\(wd=="name")=false:=by
  cases t with
  | nm x=>cases ht
  | _=>exact⟨_,_,rfl,by decide+kernel⟩
 have et':T.tup (.str wd::r)=tt t:=et.symm
 rw[et]
 refine⟨_,rfl,_,Zv,Zx (v:=false) hw ⟨_,rfl,Zl ?_⟩⟩
 refine⟨Y3 (by show 0<=_;omega),λp0 hp0=>?_⟩
 have S0:Sl A (up C p0 (.lst [])) u:=S.new hp0
 have F0:Fx A C (up C p0 (.lst [])):=Ua S (Fx.refl _ _) hp0
 have P0:up C p0 (.lst []) p0=some (.lst []):=Ze
 generalize up C p0 (.lst [])=C0 at S0 F0 P0
 obtain⟨e,sc⟩:=re t hl
 rw[et']
 refine⟨_,rfl,?_⟩
 dsimp only[Zq]
 refine Cr (n:=n+2) sc λk C1 x1 hk0 hk1=>?_
 have S1:Sl A C1 u:=by
  obtain⟨rk,L,S0⟩:=S0
  exact⟨rk,L,⟨x1 _ _ S0.r,x1 _ _ S0.f,x1 _ _ S0.l,S0.lr,S0.ne⟩⟩
 have F1:Fx A C0 C1:=λc w _ _ h=>x1 c w h
 refine⟨_,rfl,_,rfl,_,rfl,?_⟩
 dsimp only[Zq]
 obtain⟨σ0,cs,w1,w2⟩:=w
 refine Ed (n:=n) t ht hl S1 o cl hs hn ⟨σ0,_,cs,w1,w2⟩ λC2 l u2 as S2 F2 hl0 hl1 ask=>?_
 have fne:∀{c:Addr} {o:O} {Cx:Hw},Cx c=some o->(∃u,Sl A C1 u)->True:=λ_ _=>trivial
 have nofl:∀{Cx:Hw} {ux:Us} {c:Addr},Sl A Cx ux->Cx c=none->c≠A.f/\c≠A.l:=λ{Cx ux c} h hc=>by
  obtain⟨_,_,h⟩:=h
  exact⟨λe=>(by rw[e,h.f] at hc;cases hc),λe=>(by rw[e,h.l] at hc;cases hc)⟩
 have k1:=nofl S0 hk0
 have l1:=nofl S1 hl0
 have p1:=nofl S hp0
 have K2:C2 k=some (.lst ((t.scs.map sS).map rg)):=F2 _ _ k1.1 k1.2 hk1
 have P2:C2 p0=some (.lst []):=F2 _ _ p1.1 p1.2 (F1 _ _ p1.1 p1.2 P0)
 have F02:Fx A C C2:=(F0.trans F1).trans F2
 have ln:as.length=t.scs.length:=by have:=congrArg List.length ask.n;simpa using this
 refine .inr (.inr ⟨_,_,k,l,rfl,K2,hl1,by rw[XI,XI,XI];exact ln.symm,?_⟩)
 have lz:(Ml ((t.scs.map sS).map rg) (as.map yX)).length=t.scs.length:=by unfold Ml;rw[List.length_zipWith,XI,XI,XI];omega
 have dfl:d≠A.f/\d≠A.l:=by
  obtain⟨_,_,h⟩:=S
  exact⟨λe=>(by rw[e,h.f] at hd;cases hd),λe=>(by rw[e,h.l] at hd;cases hd)⟩
 have np0k:p0≠k:=λe=>by rw[e,hk0] at P0;cases P0
 have np0l:p0≠l:=λe=>by have:=F1 _ _ p1.1 p1.2 P0;rw[e,hl0] at this;cases this
 have np0d:p0≠d:=λe=>by rw[e,hd] at hp0;cases hp0
 refine Uq (λi τ C'=>∃v5 v6 v7 vs,τ=[some (.ref A.r),some (tt t),some (.ref d),some (nT s),some (.ref p0),v5,v6,v7]/\Sl A C' u2/\Fx A C C'/\C' p0=some (.lst vs)/\Pt C' (kv.length+10) ((wU E t as).take i) vs/\
  C' k=some (.lst ((t.scs.map sS).map rg))/\C' l=some (.lst (as.map yX))) ⟨_,_,_,[],rfl,S2,F02,P2,.nil,K2,hl1⟩ (λi τ C' _ h=>by obtain⟨_,_,_,_,_,_,_,_,_,h1,h2⟩:=h;exact⟨h1,h2⟩) ?_ ?_
 ·rintro i x τ C3 N hx ⟨v5,v6,v7,vs,rfl,S3,F3,P3,pl3,K3,L3⟩ hN
  have hi:i<t.scs.length:=by rw[<-lz];exact(List.getElem?_eq_some_iff.mp hx).1
  obtain⟨z,hz⟩:∃z,t.scs[i]?=some z:=⟨_,List.getElem?_eq_getElem hi⟩
  obtain⟨y,hy⟩:∃y,as[i]?=some y:=⟨_,List.getElem?_eq_getElem (by omega)⟩
  have hx':(Ml ((t.scs.map sS).map rg) (as.map yX))[i]?=some (.tup [rg (sS z),yX y]):=yg (by rw[XM,XM,hz];rfl) (by rw[XM,hy];rfl)
  rw[hx] at hx'
  cases hx'
  have zy:y.1.length=z.1.length:=by
   have h:=congrArg (λl:List Nat=>l[i]?) ask.n
   simp only[List.getElem?_map,hz,hy,Option.map_some] at h
   exact YH h
  have z10:z.1.length<=10:=xY t hl z (List.mem_of_getElem? hz)
  have d3:C3 d=some (.dic kv):=F3 _ _ dfl.1 dfl.2 hd
  refine⟨_,rfl,_,_,rfl,_,_,rfl,rfl,?_⟩
  refine⟨_,rfl,_,_,rfl,.inl d3,λp4 hp4=>?_⟩
  refine⟨_,rfl,⟨_,_,rfl,Ze⟩,_,rfl,_,Zv,_,rfl,_,Zv,z.1,y.1.map nT,rfl,by rw[XI];exact zy.symm,by omega,λp5 hp5=>?_⟩
  have n45:p4≠p5:=λe=>by rw[<-e,Ze] at hp5;cases hp5
  refine⟨_,_,_,_,rfl,rfl,n45,by rw[Zg n45];exact Ze,Ze,?_,?_⟩
  ·have:=rE (xs:=z.1) (ss:=y.1)
   exact Y3 (by omega)
  ·have n04:p0≠p4:=λe=>by rw[<-e,P3] at hp4;cases hp4
   have h5:C3 p5=none:=by rw[Zg n45.symm] at hp5;exact hp5
   have n05:p0≠p5:=λe=>by rw[<-e,P3] at h5;cases h5
   generalize hM:Yx kv (G7 Y0 (z.1.map Sum.inr) (y.1.map nT))=mg
   have P5:up (up (up C3 p4 (.dic kv)) p5 (.dic (G7 Y0 (z.1.map Sum.inr) (y.1.map nT)))) p4 (.dic mg) p0=some (.lst vs):=by rw[Zg n04,Zg n05,Zg n04];exact P3
   have lv:vs.length<=100000:=by
    have:=pl3.length
    rw[YM] at this
    have hs10:t.scs.length<=11:=by
     have:=ask.n
     cases t with
     | lt m xs ts b=>
      have hm:=hl m xs ts b rfl
      show(((List.finRange m).map λi=>(Ui xs,ts i))++[(Ui xs,b)]).length<=11
      rw[List.length_append,List.length_map,List.length_finRange];simp;omega
     | _=>exact ZNB rfl
    omega
   refine⟨_,rfl,⟨_,_,rfl,P5⟩,_,rfl,_,Ym,_,rfl,_,rfl,_,Ym,Y3 (by show 3<=_;omega),_,_,_,rfl,rfl,P5,Yu lv,?_⟩
   have S4:Sl A (up C3 p4 (.dic kv)) u2:=S3.new hp4
   have S5:=S4.new (o:=.dic (G7 Y0 (z.1.map Sum.inr) (y.1.map nT))) hp5
   have S6:=S5.other (o:=.dic mg) (S3.off hp4)
   have S7:=S6.other (o:=.lst (vs++[.tup [tt z.2,.ref p4,nT y.2]])) (S.off hp0)
   have c4:=Sf S3 F3 hp4
   have c5:=Sf S3 F3 h5
   refine hN _ _ ⟨_,_,_,_,rfl,S7,λc w m1 m2 h=>?_,Ze,?_,?_,?_⟩
   ·rw[Zg (Jq h hp0),Zg (Jq h c4),Zg (Jq h c5),Zg (Jq h c4)]
    exact F3 c w m1 m2 h
   ·have hm:(wU E t as)[i]?=some (bnd z.1 y.1 E,z.2,y.2):=by
     unfold wU
     rw[XM,show(t.scs.zip as)[i]?=some (z,y) from List.getElem?_zip_eq_some.mpr ⟨hz,hy⟩];rfl
    rw[YD,hm]
    refine Pt.snoc (pl3.keep λc kv' h=>?_) ⟨p4,mg,rfl,by rw[Zg n04.symm];exact Ze,?_,?_⟩
    ·rw[Zg (λe=>by rw[e,P3] at h;cases h),Zg (Jq h hp4),Zg (Jq h h5),Zg (Jq h hp4)]
     exact h
    ·rw[<-hM];exact tU hE
    ·have:=j6 (kvs:=kv) (xs:=z.1) (ss:=y.1)
     rw[hM] at this
     omega
   ·rw[Zg np0k.symm,Zg (Jq K3 hp4),Zg (Jq K3 h5),Zg (Jq K3 hp4)];exact K3
   ·rw[Zg np0l.symm,Zg (Jq L3 hp4),Zg (Jq L3 h5),Zg (Jq L3 hp4)];exact L3
 ·rintro τ C3 ⟨v5,v6,v7,vs,rfl,S3,F3,P3,pl3,K3,L3⟩
  rw[lz] at pl3
  refine⟨_,rfl,?_⟩
  have tk:(wU E t as).take t.scs.length=wU E t as:=List.take_of_length_le (by unfold wU;rw[XI,List.length_zip];omega)
  rw[tk] at pl3
  exact q C3 p0 u2 _ vs S3 F3 hp0 P3 pl3 (u9 ask hb) (px ln)
end
end K23
namespace Fn
open PySem WL
def Tr.size:Tr->Nat
 | .num _=>1
 | .nm _=>1
 | .stop _=>1
 | .sh0 _=>1
 | .does _ a b=>1+(a.size+b.size)
 | .fn _ b=>1+b.size
 | .call a b=>1+(a.size+b.size)
 | .first a b=>1+(a.size+b.size)
 | .lt n _ ts b=>1+(((List.finRange n).map λi=>(ts i).size).sum+b.size)
 | .sh2 _ a b=>1+(a.size+b.size)
 | .chT a b c=>1+(a.size+(b.size+c.size))
 | .chL a b _ _ c=>1+(a.size+(b.size+c.size))
 | .chP a _ _ b=>1+(a.size+b.size)
def Tr.lok:Tr->Prop
 | .num _=>True
 | .nm _=>True
 | .stop _=>True
 | .sh0 _=>True
 | .does _ a b=>a.lok/\b.lok
 | .fn _ b=>b.lok
 | .call a b=>a.lok/\b.lok
 | .first a b=>a.lok/\b.lok
 | .lt n _ ts b=>n<=10/\(∀i,(ts i).lok)/\b.lok
 | .sh2 _ a b=>a.lok/\b.lok
 | .chT a b c=>a.lok/\b.lok/\c.lok
 | .chL a b _ _ c=>a.lok/\b.lok/\c.lok
 | .chP a _ _ b=>a.lok/\b.lok
def Co (t:Tr):(t.scs.map λz=>z.2.size).sum+1=t.size:=by
 cases t with
 | lt n xs ts b=>
  show((((List.finRange n).map λi=>(Ui xs,ts i))++[(Ui xs,b)]).map λz=>z.2.size).sum+1=1+(((List.finRange n).map λi=>(ts i).size).sum+b.size)
  rw[XL,YE,List.sum_append]
  simp only[List.map_cons,List.map_nil,List.sum_cons,List.sum_nil,Nat.add_zero]
  have:((λz:List Str×Tr=>z.2.size)∘λi=>(Ui xs,ts i))=λi=>(ts i).size:=rfl
  rw[this]
  omega
 | _=>simp[Tr.scs,Tr.size]<;>omega
def Em {t:Tr}(h:t.lok):(∀m xs ts b,t=.lt m xs ts b->m<=10)/\∀z∈t.scs,z.2.lok:=by
 cases t with
 | lt n xs ts b=>
  refine⟨λm xs' ts' b' e=>(by cases e;exact h.1),λz hz=>?_⟩
  rcases XS.mp hz with hz | hz
  ·obtain⟨i,_,rfl⟩:=XR.mp hz;exact h.2.1 i
  ·rw[XQ.mp hz];exact h.2.2
 | num=>exact⟨λm xs' ts' b' e=>(by cases e),λz hz=>(by cases hz)⟩
 | nm=>exact⟨λm xs' ts' b' e=>(by cases e),λz hz=>(by cases hz)⟩
 | stop=>exact⟨λm xs' ts' b' e=>(by cases e),λz hz=>(by cases hz)⟩
 | sh0=>exact⟨λm xs' ts' b' e=>(by cases e),λz hz=>(by cases hz)⟩
 | fn=>exact⟨λm xs' ts' b' e=>(by cases e),λz hz=>(by rw[XQ.mp hz];exact h)⟩
 | does o a b=>exact⟨λm xs' ts' b' e=>(by cases e),λz hz=>(by simp only[Tr.scs,List.mem_cons,List.not_mem_nil,or_false] at hz;rcases hz with rfl | rfl;exact h.1;exact h.2)⟩
 | call a b=>exact⟨λm xs' ts' b' e=>(by cases e),λz hz=>(by simp only[Tr.scs,List.mem_cons,List.not_mem_nil,or_false] at hz;rcases hz with rfl | rfl;exact h.1;exact h.2)⟩
 | first a b=>exact⟨λm xs' ts' b' e=>(by cases e),λz hz=>(by simp only[Tr.scs,List.mem_cons,List.not_mem_nil,or_false] at hz;rcases hz with rfl | rfl;exact h.1;exact h.2)⟩
 | sh2 o a b=>exact⟨λm xs' ts' b' e=>(by cases e),λz hz=>(by simp only[Tr.scs,List.mem_cons,List.not_mem_nil,or_false] at hz;rcases hz with rfl | rfl;exact h.1;exact h.2)⟩
 | chP a x y b=>exact⟨λm xs' ts' b' e=>(by cases e),λz hz=>(by simp only[Tr.scs,List.mem_cons,List.not_mem_nil,or_false] at hz;rcases hz with rfl | rfl;exact h.1;exact h.2)⟩
 | chT a b c=>exact⟨λm xs' ts' b' e=>(by cases e),λz hz=>(by simp only[Tr.scs,List.mem_cons,List.not_mem_nil,or_false] at hz;rcases hz with rfl | rfl | rfl;exact h.1;exact h.2.1;exact h.2.2)⟩
 | chL a b x y c=>exact⟨λm xs' ts' b' e=>(by cases e),λz hz=>(by simp only[Tr.scs,List.mem_cons,List.not_mem_nil,or_false] at hz;rcases hz with rfl | rfl | rfl;exact h.1;exact h.2.1;exact h.2.2)⟩
def Tr.cost:Tr->Nat
 | .num _=>3
 | .nm _=>3
 | .stop _=>3
 | .sh0 _=>3
 | .does _ a b=>3+(a.cost+b.cost)
 | .fn _ b=>3+b.cost
 | .call a b=>3+(a.cost+b.cost)
 | .first a b=>3+(a.cost+b.cost)
 | .lt n _ ts b=>n+(((List.finRange n).map λi=>(ts i).cost).sum+b.cost)
 | .sh2 _ a b=>3+(a.cost+b.cost)
 | .chT a b c=>3+(a.cost+(b.cost+c.cost))
 | .chL a b _ _ c=>3+(a.cost+(b.cost+c.cost))
 | .chP a _ _ b=>3+(a.cost+b.cost)
def vK (t:Tr):(t.scs.map λz=>z.2.cost).sum+t.bg=t.cost:=by
 cases t with
 | lt n xs ts b=>
  show((((List.finRange n).map λi=>(Ui xs,ts i))++[(Ui xs,b)]).map λz=>z.2.cost).sum+n=n+(((List.finRange n).map λi=>(ts i).cost).sum+b.cost)
  rw[XL,YE,List.sum_append]
  simp only[List.map_cons,List.map_nil,List.sum_cons,List.sum_nil,Nat.add_zero]
  have:((λz:List Str×Tr=>z.2.cost)∘λi=>(Ui xs,ts i))=λi=>(ts i).cost:=rfl
  rw[this]
  omega
 | _=>simp[Tr.scs,Tr.cost,Tr.bg]<;>omega
def kD (ps:List Pl):Nat:=(ps.map λp=>p.2.1.cost).sum
def uM (ps:List Pl):Nat:=(ps.map λp=>p.2.1.size).sum
def G0:Ev:=λ_=>none
structure Kn (t:Tr)(u:Us)(rows:List Nat)(ps:List Pl):Prop where
 o:u.Ok
 c:Vz u []
 len:1<=u.F.length/\u.F.length+kD ps<=1+t.cost
 sz:rows.length+uM ps=t.size
 rl:∀i∈rows,i<u.F.length
 pk:∀p∈ps,ni u.F.length p/\p.2.1.lok
 co:∀k R,HT G0 t k R->∃σ R',U7 u σ/\R=rows.map σ++R'/\HTs (ps.map (Pl.ev σ)) R'
 so:∀σ R',U7 u σ->HTs (ps.map (Pl.ev σ)) R'->∃k,HT G0 t k (rows.map σ++R')
def Kn.step {t:Tr}{u u':Us}{rows:List Nat}{p:Pl}{ps qs:List Pl}(K:Kn t u rows (p::ps))(s:vZ u p u' qs)(hq:qs.map (λz=>z.2.1)=p.2.1.scs.map (λz=>z.2)):Kn t u' (rows++[p.2.2]) (qs++ps) where
 o:=s.o
 c:=s.c
 len:=⟨XN K.len.1 s.le,by
  have h1:=K.len.2
  have h2:=vK p.2.1
  have h3:=s.big
  have e:kD qs=(p.2.1.scs.map λz=>z.2.cost).sum:=by
   unfold kD
   have:=congrArg (λl:List Tr=>(l.map Tr.cost).sum) hq
   simp only[List.map_map] at this
   exact this
  unfold kD at h1 e |-
  rw[XL,List.sum_append,e]
  rw[YI,List.sum_cons] at h1
  omega⟩
 sz:=by
  have h1:=K.sz
  have h2:=Co p.2.1
  have e:uM qs=(p.2.1.scs.map λz=>z.2.size).sum:=by
   unfold uM
   have:=congrArg (λl:List Tr=>(l.map Tr.size).sum) hq
   simp only[List.map_map] at this
   exact this
  unfold uM at h1 e |-
  rw[List.length_append,XL,List.sum_append,e]
  rw[YI,List.sum_cons] at h1
  simp only[List.length_singleton]
  omega
 rl:=λi hi=>by
  rcases XS.mp hi with hi | hi
  ·exact XG (K.rl i hi) s.le
  ·rw[XQ.mp hi]
   exact XG (K.pk p (List.mem_cons_self ..)).1.1 s.le
 pk:=λz hz=>by
  rcases XS.mp hz with hz | hz
  ·refine⟨s.ok z hz,?_⟩
   have:z.2.1∈p.2.1.scs.map (λz=>z.2):=by rw[<-hq];exact XR.mpr ⟨z,hz,rfl⟩
   obtain⟨y,hy,e⟩:=XR.mp this
   rw[<-e]
   exact(Em (K.pk p (List.mem_cons_self ..)).2).2 y hy
  ·obtain⟨h1,h2⟩:=K.pk z (XV _ hz)
   exact⟨⟨XG h1.1 s.le,λx i e=>XG (h1.2 x i e) s.le⟩,h2⟩
 co:=λk R h=>by
  obtain⟨σ,R',h1,h2,h3⟩:=K.co k R h
  obtain⟨cs,r',r1,rfl,r3⟩:=h3.take
  obtain⟨σ',a,b,c⟩:=s.co σ cs h1 r1
  have ep:∀z∈ps,Pl.ev σ z=Pl.ev σ' z:=λz hz=>mV (K.pk z (XV _ hz)).1 λi hi=>(a i hi).symm
  refine⟨σ',r',b,?_,?_⟩
  ·rw[h2,XL,YL]
   have e1:rows.map σ=rows.map σ':=List.map_congr_left λi hi=>(a i (K.rl i hi)).symm
   rw[e1]
   show _=_++(σ' p.2.2::r')
   rw[a _ (K.pk p (List.mem_cons_self ..)).1.1]
  ·rw[XL,c,<-List.map_congr_left ep];exact r3
 so:=λσ R' h1 h2=>by
  obtain⟨a,b⟩:=s.so σ h1
  rw[XL] at h2
  have h3:=h2.give b
  obtain⟨k,h4⟩:=K.so σ (σ p.2.2::R') a h3
  exact⟨k,by rw[XL,YL];exact h4⟩
def Kn.start {t:Tr}(h:t.lok)(rt:Nat->Nat)(hr:rt 0=0):Kn t ⟨rt,[none]⟩ [] [(λ_=>none,t,0)] where
 o:=⟨λx hx=>(by have hx:x<1:=hx;have e:x=0:=(by omega);subst e;show rt 0<1;rw[hr];decide),λx hx=>(by have hx:x<1:=hx;have e:x=0:=(by omega);subst e;show rt (rt 0)=rt 0;rw[hr,hr]),λx f hx=>by
  have hx:([none]:List (Option Fm))[x]?=some (some f):=hx
  cases x with
  | zero=>cases hx
  | succ x=>simp at hx⟩
 c:=λx f hx=>by
  have hx:([none]:List (Option Fm))[x]?=some (some f):=hx
  cases x with
  | zero=>cases hx
  | succ x=>simp at hx
 len:=⟨XE _,by show 1+(t.cost+0)<=1+t.cost;omega⟩
 sz:=by show 0+(t.size+0)=_;omega
 rl:=λi hi=>by cases hi
 pk:=λp hp=>by rw[XQ.mp hp];exact⟨⟨Nat.lt_succ_self 0,λx i e=>by cases e⟩,h⟩
 co:=λk R h=>by
  refine⟨λ_=>k,R,⟨λx hx=>rfl,λx f hx=>?_⟩,rfl,?_⟩
  ·have hx:([none]:List (Option Fm))[x]?=some (some f):=hx
   cases x with
   | zero=>cases hx
   | succ x=>simp at hx
  ·have:HTs [(G0,t,k)] (R++[]):=.cons h .nil
   rw[YK] at this
   exact this
 so:=λσ R' h1 h2=>by
  have h2:HTs [(G0,t,σ 0)] R':=h2
  cases h2 with
  | cons a b=>
   cases b
   rw[YK]
   exact⟨_,a⟩
end Fn
namespace K23
open PySem PySem.Spec PyProof.Rows L2 WL Fn
section
variable {A:Sd}{C C':Hw}{u:Us}{Q:WK}{χ:WX}{n s:Nat}{t:Tr}{d:Addr}{kv:List (Zz×T)}{E:Str->Option Nat}
def wn (hl:∀m xs ts b,t=.lt m xs ts b->m<=10)(S:Sl A C u)(o:u.Ok)(cl:Vz u [])(hs:s<u.F.length)(hn:u.F.length<=7000)(hE:xh kv E)(hb:∀x i,E x=some i->i<u.F.length)(hd:C d=some (.dic kv))(hk:kv.length<=90000)
  (w:∃σ0 cs,U7 u σ0/\Jg t (λx=>(E x).map σ0) (σ0 s) cs)
  (q:∀C' p u' ps vs,Sl A C' u'->Fx A C C'->C p=none->C' p=some (.lst vs)->Pt C' (kv.length+10) ps vs->vZ u (E,t,s) u' ps->ps.map (λz=>z.2.1)=t.scs.map (λz=>z.2)->Q (.ref p) C'):Ya pr (n+5) Vk [.ref A.r,tt t,.ref d,nT s] C Q χ:=by
 cases e:Tr.isNm t with
 | false=>exact Ct e hl S o cl hs hn hE hb hd hk w q
 | true=>
  cases t with
  | nm x=>exact Cu S o cl hs hn hE hb hd w q
  | _=>cases e
def Pt.app {C:Hw}{N:Nat}{ps qs:List Pl}{vs ws:List T}(h:Pt C N ps vs)(q:Pt C N qs ws):Pt C N (ps++qs) (vs++ws):=by
 induction h with
 | nil=>exact q
 | cons a b ih=>exact .cons a ih
def Pt.rev {C:Hw}{N:Nat}{ps:List Pl}{vs:List T}(h:Pt C N ps vs):Pt C N ps.reverse vs.reverse:=by
 induction h with
 | nil=>exact .nil
 | cons a b ih=>rw[List.reverse_cons,List.reverse_cons];exact ih.app (.cons a .nil)
def Pt.more {C:Hw}{N M:Nat}{ps:List Pl}{vs:List T}(h:Pt C N ps vs)(k:N<=M):Pt C M ps vs:=by
 induction h with
 | nil=>exact .nil
 | cons a b ih=>
  obtain⟨d,kv,h1,h2,h3,h4⟩:=a
  exact .cons ⟨d,kv,h1,h2,h3,XN h4 k⟩ ih
def xV:∀t:Tr,1<=t.size:=λt=>by have:=Co t;omega
def En:∀ps:List Pl,ps.length<=uM ps
 | []=>XE _
 | p::ps=>by
  have h:=En ps
  have h2:=xV p.2.1
  unfold uM at h |-
  rw[YI,List.sum_cons,YF]
  omega
def Pt.last {C:Hw}{N:Nat}{ps:List Pl}{p:Pl}{vs:List T}(h:Pt C N (p::ps).reverse vs):∃ws v,vs=ws++[v]/\Pt C N ps.reverse ws/\n5 C N p v:=by
 have r:=h.rev
 rw[List.reverse_reverse] at r
 cases e:vs.reverse with
 | nil=>rw[e] at r;cases r
 | cons v w=>
  rw[e] at r
  cases r with
  | cons a b=>
   refine⟨w.reverse,v,?_,Pt.rev b,a⟩
   have:=congrArg List.reverse e
   rw[List.reverse_reverse,List.reverse_cons] at this
   exact this
def jv (hl:t.lok)(hz:t.size<=600)(hco:t.cost<=6000)(hw:∃k R,HT G0 t k R){rt:Nat->Nat}(S:Sl A C ⟨rt,[]⟩)
  (q:∀C' p u rows,Sl A C' u->Fx A C C'->C p=none->C' p=some (.lst (rows.map nT))->Kn t u rows []->Q (.ref p) C'):Ya pr (n+6) Gy [.ref A.r,tt t] C Q χ:=by
 refine ji rfl ?_
 unfold Mn M9
 refine⟨Y3 (by show 0<=_;omega),λpr_ hpr=>?_⟩
 have S0:=S.new (o:=.lst []) hpr
 have F0:Fx A C (up C pr_ (.lst [])):=Ua S (Fx.refl _ _) hpr
 have P0:up C pr_ (.lst []) pr_=some (.lst []):=Ze
 generalize up C pr_ (.lst [])=C0 at S0 F0 P0
 refine⟨_,rfl,λpd hpd=>?_⟩
 have S1:=S0.new (o:=.dic []) hpd
 have F1:Fx A C (up C0 pd (.dic [])):=Ua S0 F0 hpd
 have D1:up C0 pd (.dic []) pd=some (.dic []):=Ze
 have P1:up C0 pd (.dic []) pr_=some (.lst []):=by rw[Zg (Jq P0 hpd)];exact P0
 generalize up C0 pd (.dic [])=C1 at S1 F1 D1 P1
 have ok0:(⟨rt,[]⟩:Us).Ok:=⟨λx hx=>absurd hx (Nat.not_lt_zero _),λx hx=>absurd hx (Nat.not_lt_zero _),λx f hx=>by simp at hx⟩
 refine Ja (n:=n+3) S1 ok0 (XO _) rfl λC2 S2 F2=>?_
 refine⟨Y3 (by show 3<=_;omega),Y3 (by show 1<=_;omega),λpp hpp=>?_⟩
 have prf:=S.off hpr
 have P2:C2 pr_=some (.lst []):=F2 _ _ prf.2.1 prf.2.2 P1
 have pdf:=S0.off hpd
 have D2:C2 pd=some (.dic []):=F2 _ _ pdf.2.1 pdf.2.2 D1
 have F02:Fx A C C2:=F1.trans F2
 have ppf:=S2.off hpp
 have npp:pr_≠pp:=Jq P2 hpp
 have cpp:=Sf S2 F02 hpp
 refine Tb (λm τ C'=>∃v4 u rows ps vs,τ=[some (.ref A.r),some (tt t),some (.ref pr_),some (.ref pp),v4]/\Sl A C' u/\Fx A C C'/\C' pr_=some (.lst (rows.map nT))/\C' pp=some (.lst vs)/\Pt C' (10*rows.length) ps.reverse vs/\Kn t u rows ps/\m=uM ps) (m:=uM [((λ_=>none),t,0)])
  ⟨none,_,[],[((λ_=>none),t,0)],_,rfl,S2.new hpp,Ua S2 F02 hpp,by rw[Zg npp];exact P2,Ze,.cons ⟨pd,[],rfl,by rw[Zg (Jq D2 hpp)];exact D2,λx=>rfl,XO _⟩ .nil,Kn.start hl _ (XY rfl),rfl⟩ ?_
 rintro m τ C3 N ⟨v4,u3,rows,ps,vs,rfl,S3,F3,R3,P3,pl3,K3,rfl⟩ hN
 refine⟨_,rfl,Y3 (by show 0<=_;omega),λp' hp'=>?_⟩
 have P4:up C3 p' (.lst []) pp=some (.lst vs):=by rw[Zg (Jq P3 hp')];exact P3
 refine Ej P4 Ze ⟨_,rfl,?_⟩
 have S4:Sl A (up C3 p' (.lst [])) u3:=S3.new hp'
 have F4:Fx A C (up C3 p' (.lst [])):=Ua S3 F3 hp'
 have R4:up C3 p' (.lst []) pr_=some (.lst (rows.map nT)):=by rw[Zg (Jq R3 hp')];exact R3
 have pl4:Pt (up C3 p' (.lst [])) (10*rows.length) ps.reverse vs:=pl3.keep λc kv h=>by rw[Zg (Jq h hp')];exact h
 generalize up C3 p' (.lst [])=C4 at P4 S4 F4 R4 pl4
 cases ps with
 | nil=>
  have:vs=[]:=by have:=pl4.length;exact List.length_eq_zero_iff.mp this.symm
  subst this
  refine Zl ⟨_,rfl,?_⟩
  exact q C4 pr_ u3 rows S4 F4 hpr R4 K3
 | cons p ps=>
  obtain⟨ws,v,rfl,plw,d,kv,rfl,hd,hE,hkv⟩:=pl4.last
  have ne:(!(ws++[T.tup [tt p.2.1,.ref d,nT p.2.2]]).isEmpty)=true:=by simp
  rw[ne]
  refine Yf ?_
  have last:(ws++[T.tup [tt p.2.1,.ref d,nT p.2.2]])[(ws++[T.tup [tt p.2.1,.ref d,nT p.2.2]]).length-1]?=some (T.tup [tt p.2.1,.ref d,nT p.2.2]):=by simp
  have dl:(ws++[T.tup [tt p.2.1,.ref d,nT p.2.2]]).dropLast=ws:=by simp
  refine⟨_,rfl,⟨_,_,rfl,P4⟩,_,_,_,rfl,rfl,P4,last,?_⟩
  rw[dl]
  have sz:=K3.sz
  have lp:=En (p::ps)
  rw[YF] at lp
  have lw:ws.length=ps.length:=by have:=plw.length;rw[List.length_reverse] at this;omega
  have S5:=S4.other (o:=.lst ws) ppf
  have R5:up C4 pp (.lst ws) pr_=some (.lst (rows.map nT)):=by rw[Zg npp];exact R4
  have P5:up C4 pp (.lst ws) pp=some (.lst ws):=Ze
  have dpp:∀{c:Addr} {kv:List (Zz×T)},C4 c=some (.dic kv)->c≠pp:=λh e=>by rw[e,P4] at h;cases h
  have k5:∀c kv,C4 c=some (.dic kv)->up C4 pp (.lst ws) c=some (.dic kv):=λc kv h=>by rw[Zg (dpp h)];exact h
  have F5:Fx A C (up C4 pp (.lst ws)):=λc w m1 m2 h=>by rw[Zg (Jq h cpp)];exact F4 c w m1 m2 h
  have d5:=k5 _ _ hd
  have plw5:=plw.keep k5
  generalize up C4 pp (.lst ws)=C5 at S5 R5 P5 F5 d5 plw5
  refine⟨_,rfl,⟨_,_,rfl,R5⟩,_,rfl,_,Vb,_,_,_,rfl,rfl,R5,Yu (by rw[XI];omega),?_⟩
  have er:rows.map nT++[nT p.2.2]=(rows++[p.2.2]).map nT:=by rw[XL];rfl
  rw[er]
  have S6:=S5.other (o:=.lst ((rows++[p.2.2]).map nT)) prf
  have P6:up C5 pr_ (.lst ((rows++[p.2.2]).map nT)) pp=some (.lst ws):=by rw[Zg npp.symm];exact P5
  have R6:up C5 pr_ (.lst ((rows++[p.2.2]).map nT)) pr_=some (.lst ((rows++[p.2.2]).map nT)):=Ze
  have k6:∀c kv,C5 c=some (.dic kv)->up C5 pr_ (.lst ((rows++[p.2.2]).map nT)) c=some (.dic kv):=λc kv h=>by rw[Zg λe=>by rw[e,R5] at h;cases h];exact h
  have F6:Fx A C (up C5 pr_ (.lst ((rows++[p.2.2]).map nT))):=λc w m1 m2 h=>by rw[Zg (Jq h hpr)];exact F5 c w m1 m2 h
  have d6:=k6 _ _ d5
  have plw6:=plw5.keep k6
  generalize up C5 pr_ (.lst ((rows++[p.2.2]).map nT))=C6 at S6 P6 R6 F6 d6 plw6
  obtain⟨hok,hlok⟩:=K3.pk p (List.mem_cons_self ..)
  obtain⟨kk,RR,hT⟩:=hw
  obtain⟨σ0,R',w1,w2,w3⟩:=K3.co kk RR hT
  obtain⟨cs,r',w4,_,_⟩:=w3.take
  have ln:=K3.len
  refine⟨_,rfl,⟨_,_,rfl,P6⟩,_,rfl,_,rfl,_,Zv,_,rfl,_,Ym,_,rfl,_,Vb,?_⟩
  dsimp only[Zq]
  refine wn (n:=n) (t:=p.2.1) (E:=p.1) (s:=p.2.2) (Em hlok).1 S6 K3.o K3.c hok.1 (by omega) hE hok.2 d6 (by omega) ⟨σ0,cs,w1,w4⟩ λC7 p7 u7 qs v7 S7 F7 hp7 P7 pl7 st hq=>?_
  have P8:C7 pp=some (.lst ws):=F7 _ _ ppf.2.1 ppf.2.2 P6
  have R8:C7 pr_=some (.lst ((rows++[p.2.2]).map nT)):=F7 _ _ prf.2.1 prf.2.2 R6
  refine⟨_,_,rfl,P7,λp8 hp8=>?_⟩
  have K9:=K3.step st hq
  have lq:=En (qs++ps)
  have s9:=K9.sz
  rw[List.length_append] at lq
  have l7:v7.length=qs.length:=pl7.length.symm
  have P9:up C7 p8 (.lst v7.reverse) pp=some (.lst ws):=by rw[Zg (Jq P8 hp8)];exact P8
  refine⟨_,_,_,_,rfl,rfl,P9,Ze,by rw[List.length_reverse];exact Y3 (by omega),?_⟩
  have S8:=S7.new (o:=.lst v7.reverse) hp8
  have S9:=S8.other (o:=.lst (ws++v7.reverse)) ppf
  have F67:=F6.trans F7
  have c8:=Sf S7 F67 hp8
  have k9:∀c kv,C7 c=some (.dic kv)->up (up C7 p8 (.lst v7.reverse)) pp (.lst (ws++v7.reverse)) c=some (.dic kv):=λc kv h=>by
   rw[Zg (λe=>by rw[e,P8] at h;cases h),Zg (Jq h hp8)];exact h
  refine hN (uM (qs++ps)) _ _ (by rw[List.length_append,List.length_singleton] at s9;omega) ⟨_,u7,rows++[p.2.2],qs++ps,_,rfl,S9,λc w m1 m2 h=>?_,?_,Ze,?_,K9,rfl⟩
  ·rw[Zg (Jq h cpp),Zg (Jq h c8)];exact F67 c w m1 m2 h
  ·rw[Zg npp,Zg (Jq R8 hp8)];exact R8
  ·rw[List.reverse_append]
   have lr:(rows++[p.2.2]).length=rows.length+1:=by rw[List.length_append];rfl
   rw[lr]
   refine Pt.app ?_ ?_
   ·exact((Pt.mono plw6 ⟨_,S6⟩ F7).keep k9).more (by omega)
   ·exact(pl7.rev.keep k9).more (by omega)
end
end K23
namespace Fn
open PySem WL
def Kd.sz:Kd->Nat
 | .op _=>1
 | .k0 _=>1
 | .k1 _ a=>1+a.sz
 | .k2 _ a b=>1+(a.sz+b.sz)
def Kd.ops:Kd->List Nat
 | .op n=>[n]
 | .k0 _=>[]
 | .k1 _ a=>a.ops
 | .k2 _ a b=>a.ops++b.ops
def ext (acc l:List Nat):List Nat:=l.foldl (λa j=>if j∈a then a else a++[j]) acc
def yN {acc l m:List Nat}:ext acc (l++m)=ext (ext acc l) m:=List.foldl_append ..
def vv {acc:List Nat}:∀{l:List Nat},(∀j∈l,j∈acc)->ext acc l=acc
 | [],_=>rfl
 | j::l,h=>by
  show ext (if j∈acc then acc else acc++[j]) l=acc
  rw[XY (h j (List.mem_cons_self ..))]
  exact vv λi hi=>h i (XV _ hi)
structure Ms where
 P:List Nat
 M:Nat->Option Kd
 O:List Nat
 B:List Nat
def set (M:Nat->Option Kd)(r:Nat)(k:Kd):Nat->Option Kd:=λq=>if q=r then some k else M q
def vl (M:Nat->Option Kd)(q:Nat):Kd:=(M q).getD (.op 0)
def Us.within (u:Us)(f:Fm):List Nat:=f.ps.map u.rt
def Us.told (u:Us)(M:Nat->Option Kd)(f:Fm):Kd:=f.ev λp=>vl M (u.rt p)
inductive kq (u:Us):Ms->Ms->Prop
 | skip {r P M O B k}:M r=some k->kq u ⟨r::P,M,O,B⟩ ⟨P,M,O,B⟩
 | opn {r P M O B}:M r=none->u.F[r]?=some none->kq u ⟨r::P,M,O,B⟩ ⟨P,set M r (.op O.length),O++[r],B⟩
 | beg {r P M O B f}:M r=none->u.F[r]?=some (some f)->r∉B->(∀q∈u.within f,¬(q∈r::B/\M q=none))->kq u ⟨r::P,M,O,B⟩ ⟨u.within f++r::P,M,O,r::B⟩
 | fin {r P M O B f}:M r=none->u.F[r]?=some (some f)->r∈B->(∀q∈u.within f,M q≠none)->kq u ⟨r::P,M,O,B⟩ ⟨P,set M r (u.told M f),O,B⟩
inductive uc (u:Us):Ms->Nat->Ms->Prop
 | done {s}:uc u s 0 s
 | step {s s' s'' n}:kq u s s'->uc u s' n s''->uc u s (n+1) s''
def uc.app {u:Us}{s s' s'':Ms}{n m:Nat}(h:uc u s n s')(q:uc u s' m s''):uc u s (n+m) s'':=by
 induction h with
 | done=>rw[Nat.zero_add];exact q
 | step a b ih=>rw[Nat.add_right_comm];exact .step a (ih q)
structure xb (u:Us)(M:Nat->Option Kd)(O:List Nat):Prop where
 root:∀q k,M q=some k->q<u.F.length/\u.rt q=q
 opn:∀q k,M q=some k->u.F[q]?=some none->∃i,k=.op i/\O[i]?=some q
 frm:∀q k f,M q=some k->u.F[q]?=some (some f)->k=u.told M f/\∀p∈u.within f,M p≠none
 ops:∀q k,M q=some k->∀j∈k.ops,j<O.length
 num:∀i q,O[i]?=some q->M q=some (.op i)/\u.F[q]?=some none
structure gD (u:Us)(μ:Nat->Nat)(r:Nat)(M:Nat->Option Kd)(O B:List Nat)(M':Nat->Option Kd)(O' B':List Nat):Prop where
 rd:xb u M' O'
 keep:∀q k,M q=some k->M' q=some k
 low:∀q,M q=none->M' q≠none->μ q<=μ r
 here:∃k,M' r=some k/\ext (List.range O.length) k.ops=List.range O'.length
 beg:∀q∈B',q∈B\/M' q≠none
 sub:∀q∈B,q∈B'
section
variable {u:Us}{μ:Nat->Nat}{r:Nat}{M M':Nat->Option Kd}{O B:List Nat}
def J4 {k:Kd}:set M r k r=some k:=XY rfl
def Ju {q:Nat}{k:Kd}(h:q≠r):set M r k q=M q:=XX h
def Ol {f:Fm}(h:∀p∈u.within f,M p=M' p):u.told M f=u.told M' f:=N3 λp hp=>by
 unfold vl
 rw[h _ (XR.mpr ⟨p,hp,rfl⟩)]
def qt {f:Fm}(R:xb u M O)(hr:r<u.F.length/\u.rt r=r)(hn:M r=none)(hf:u.F[r]?=some (some f))(hw:∀q∈u.within f,M q≠none):xb u (set M r (u.told M f)) O:=by
 have ne:∀{q k},M q=some k->q≠r:=λh e=>by rw[e,hn] at h;cases h
 have nw:∀q,M q≠none->set M r (u.told M f) q=M q:=λq h=>Ju λe=>h (by rw[e];exact hn)
 refine⟨λq k h=>?_,λq k h ho=>?_,λq k g h hg=>?_,λq k h j hj=>?_,λi q h=>?_⟩
 ·by_cases c:q=r
  ·rw[c];exact hr
  ·rw[Ju c] at h;exact R.root q k h
 ·by_cases c:q=r
  ·rw[c,hf] at ho;cases ho
  ·rw[Ju c] at h;exact R.opn q k h ho
 ·by_cases c:q=r
  ·subst c
   rw[hf] at hg
   cases hg
   rw[J4] at h
   cases h
   exact⟨Ol λp hp=>(nw p (hw p hp)).symm,λp hp=>by rw[nw p (hw p hp)];exact hw p hp⟩
  ·rw[Ju c] at h
   obtain⟨h1,h2⟩:=R.frm q k g h hg
   exact⟨h1.trans (Ol λp hp=>(nw p (h2 p hp)).symm),λp hp=>by rw[nw p (h2 p hp)];exact h2 p hp⟩
 ·by_cases c:q=r
  ·subst c
   rw[J4] at h
   cases h
   have pv:∀p∈f.ps,∀j∈(vl M (u.rt p)).ops,j<O.length:=λp hp j hj=>by
    cases e:M (u.rt p) with
    | none=>exact absurd e (hw _ (XR.mpr ⟨p,hp,rfl⟩))
    | some k=>unfold vl at hj;rw[e] at hj;exact R.ops _ k e j hj
   cases f with
   | f0 g=>cases hj
   | f1 g a=>exact pv a (by simp[Fm.ps]) j hj
   | f2 g a b=>
    rcases XS.mp hj with hj | hj
    ·exact pv a (by simp[Fm.ps]) j hj
    ·exact pv b (by simp[Fm.ps]) j hj
  ·rw[Ju c] at h;exact R.ops q k h j hj
 ·obtain⟨h1,h2⟩:=R.num i q h
  exact⟨by rw[Ju (ne h1)];exact h1,h2⟩
def qr (R:xb u M O)(hr:r<u.F.length/\u.rt r=r)(hn:M r=none)(hf:u.F[r]?=some none):xb u (set M r (.op O.length)) (O++[r]):=by
 have nw:∀q,M q≠none->set M r (.op O.length) q=M q:=λq h=>Ju λe=>h (by rw[e];exact hn)
 refine⟨λq k h=>?_,λq k h ho=>?_,λq k g h hg=>?_,λq k h j hj=>?_,λi q h=>?_⟩
 ·by_cases c:q=r
  ·rw[c];exact hr
  ·rw[Ju c] at h;exact R.root q k h
 ·by_cases c:q=r
  ·subst c
   rw[J4] at h
   cases h
   exact⟨O.length,rfl,by rw[List.getElem?_append_right (XE _),Nat.sub_self];rfl⟩
  ·rw[Ju c] at h
   obtain⟨i,h1,h2⟩:=R.opn q k h ho
   exact⟨i,h1,by rw[List.getElem?_append_left (List.getElem?_eq_some_iff.mp h2).1];exact h2⟩
 ·by_cases c:q=r
  ·subst c;rw[hf] at hg;cases hg
  ·rw[Ju c] at h
   obtain⟨h1,h2⟩:=R.frm q k g h hg
   exact⟨h1.trans (Ol λp hp=>(nw p (h2 p hp)).symm),λp hp=>by rw[nw p (h2 p hp)];exact h2 p hp⟩
 ·rw[List.length_append,List.length_singleton]
  by_cases c:q=r
  ·subst c
   rw[J4] at h
   cases h
   rw[XQ.mp hj];omega
  ·rw[Ju c] at h;have:=R.ops q k h j hj;omega
 ·by_cases c:i<O.length
  ·rw[List.getElem?_append_left c] at h
   obtain⟨h1,h2⟩:=R.num i q h
   exact⟨by rw[nw q (by rw[h1];intro z;cases z)];exact h1,h2⟩
  ·have hi:i=O.length:=by
    have:=(List.getElem?_eq_some_iff.mp h).1
    rw[List.length_append,List.length_singleton] at this
    omega
   subst hi
   rw[List.getElem?_append_right (XE _),Nat.sub_self] at h
   cases h
   exact⟨J4,hf⟩
def qS {f:Fm}{g:Nat->Kd}:(f.ev g).ops=(f.ps.map λp=>(g p).ops).flatten:=by
 cases f with
 | f0 w=>rfl
 | f1 w a=>show(g a).ops=(g a).ops++[];rw[YK]
 | f2 w a b=>show(g a).ops++(g b).ops=(g a).ops++((g b).ops++[]);rw[YK]
def nr (u:Us)(μ:Nat->Nat)(n:Nat):Prop:=∀r P M O B,μ r<n->r<u.F.length->u.rt r=r->xb u M O->(∀q∈B,M q=none->μ r<μ q)->∃k M' O' B',uc u ⟨r::P,M,O,B⟩ k ⟨P,M',O',B'⟩/\gD u μ r M O B M' O' B'
def Cy {m:Nat}(ih:nr u μ m){P:List Nat}:∀(ws:List Nat) (M:Nat->Option Kd) (O B:List Nat),(∀w∈ws,w<u.F.length/\u.rt w=w/\μ w<m)->(∀q∈B,M q=none->m<=μ q)->xb u M O->
  ∃k M' O' B',uc u ⟨ws++P,M,O,B⟩ k ⟨P,M',O',B'⟩/\xb u M' O'/\(∀q k,M q=some k->M' q=some k)/\(∀q,M q=none->M' q≠none->μ q<m)/\(∀w∈ws,M' w≠none)/\
   ext (List.range O.length) (ws.map λw=>(vl M' w).ops).flatten=List.range O'.length/\(∀q∈B',q∈B\/M' q≠none)/\∀q∈B,q∈B'
 | [],M,O,B,_,_,R=>⟨0,M,O,B,.done,R,λ_ _ h=>h,λq h h'=>absurd h h',λw h=>(by cases h),rfl,λq h=>.inl h,λq h=>h⟩
 | w::ws,M,O,B,hw,hB,R=>by
  obtain⟨w1,w2,w3⟩:=hw w (List.mem_cons_self ..)
  obtain⟨k1,M1,O1,B1,r1,g1⟩:=ih w (ws++P) M O B w3 w1 w2 R λq hq h=>XG w3 (hB q hq h)
  have none1:∀q,M1 q=none->M q=none:=λq h=>by
   cases e:M q with
   | none=>rfl
   | some k=>rw[g1.keep q k e] at h;cases h
  obtain⟨k2,M2,O2,B2,r2,R2,kp2,lo2,in2,ex2,be2,su2⟩:=Cy ih ws M1 O1 B1 (λv hv=>hw v (XV _ hv)) (λq hq h=>hB q ((g1.beg q hq).resolve_right λz=>z h) (none1 q h)) g1.rd
  obtain⟨kk,h1,h2⟩:=g1.here
  have e2:M2 w=some kk:=kp2 w kk h1
  refine⟨k1+k2,M2,O2,B2,r1.app r2,R2,λq k h=>kp2 q k (g1.keep q k h),λq h h'=>?_,λv hv=>?_,?_,λq hq=>?_,λq hq=>su2 q (g1.sub q hq)⟩
  ·by_cases c:M1 q=none
   ·exact lo2 q c h'
   ·exact Nat.lt_of_le_of_lt (g1.low q h c) w3
  ·rcases List.mem_cons.mp hv with rfl | hv
   ·rw[e2];intro z;cases z
   ·exact in2 v hv
  ·rw[YI,List.flatten_cons,yN]
   have:vl M2 w=kk:=by unfold vl;rw[e2];rfl
   rw[this,h2]
   exact ex2
  ·rcases be2 q hq with h | h
   ·rcases g1.beg q h with h | h
    ·exact .inl h
    ·refine .inr λz=>h ?_
     cases e:M1 q with
     | none=>rfl
     | some k=>rw[kp2 q k e] at z;cases z
   ·exact .inr h
def pW (o:u.Ok)(hμ:∀r f,r<u.F.length->u.rt r=r->u.F[r]?=some (some f)->∀q∈u.within f,μ q<μ r):∀n,nr u μ n
 | 0=>λr P M O B h=>absurd h (Nat.not_lt_zero _)
 | n+1=>λr P M O B hn hr1 hr2 R hB=>by
  cases e:M r with
  | some k=>
   refine⟨1,M,O,B,.step (.skip e) .done,R,λ_ _ h=>h,λq h h'=>absurd h h',⟨k,e,vv λj hj=>List.mem_range.mpr (R.ops r k e j hj)⟩,λq h=>.inl h,λq h=>h⟩
  | none=>
   obtain⟨fo,hf⟩:∃f,u.F[r]?=some f:=⟨_,List.getElem?_eq_getElem hr1⟩
   cases fo with
   | none=>
    refine⟨1,_,_,B,.step (.opn e hf) .done,qr R ⟨hr1,hr2⟩ e hf,λq k h=>?_,λq h h'=>?_,⟨_,J4,?_⟩,λq h=>.inl h,λq h=>h⟩
    ·rw[Ju λz=>by rw[z,e] at h;cases h];exact h
    ·by_cases c:q=r
     ·rw[c];exact XE _
     ·rw[Ju c] at h';exact absurd h h'
    ·show(if O.length∈List.range O.length then List.range O.length else List.range O.length++[O.length])=_
     rw[if_neg (by simp),List.length_append,List.length_singleton,List.range_succ]
   | some f=>
    have hw:=hμ r f hr1 hr2 hf
    have rB:r∉B:=λh=>Nat.lt_irrefl _ (hB r h e)
    have wr:∀w∈u.within f,w<u.F.length/\u.rt w=w/\μ w<μ r:=λw h=>by
     obtain⟨p,hp,rfl⟩:=XR.mp h
     have:=o.ps r f hf p hp
     exact⟨o.lt p this,o.id p this,hw _ h⟩
    have nb:∀q∈u.within f,¬(q∈r::B/\M q=none):=λq h z=>by
     have l:=hw q h
     rcases List.mem_cons.mp z.1 with c | c
     ·rw[c] at l;exact Nat.lt_irrefl _ l
     ·exact Nat.lt_irrefl _ (Nat.lt_trans l (hB q c z.2))
    have ih:nr u μ (μ r):=λr' P' M' O' B' h=>pW o hμ n r' P' M' O' B' (by omega)
    obtain⟨k2,M2,O2,B2,r2,R2,kp2,lo2,in2,ex2,be2,su2⟩:=Cy ih (P:=r::P) (u.within f) M O (r::B) wr (λq hq h=>by
     rcases List.mem_cons.mp hq with c | c
     ·rw[c];exact XE _
     ·exact Nat.le_of_lt (hB q c h)) R
    have e2:M2 r=none:=by
     cases z:M2 r with
     | none=>rfl
     | some k=>exact absurd (lo2 r e (by rw[z];intro y;cases y)) (Nat.lt_irrefl _)
    refine⟨1+(k2+1),_,O2,B2,.app (.step (.beg e hf rB nb) .done) (r2.app (.step (.fin e2 hf (su2 r (List.mem_cons_self ..)) in2) .done)),qt R2 ⟨hr1,hr2⟩ e2 hf in2,λq k h=>?_,λq h h'=>?_,⟨_,J4,?_⟩,λq hq=>?_,λq hq=>su2 q (XV _ hq)⟩
    ·rw[Ju λz=>by rw[z,e] at h;cases h];exact kp2 q k h
    ·by_cases c:q=r
     ·rw[c];exact XE _
     ·rw[Ju c] at h';exact Nat.le_of_lt (lo2 q h h')
    ·rw[<-ex2]
     congr 1
     show(f.ev λp=>vl M2 (u.rt p)).ops=_
     rw[qS]
     unfold Us.within
     rw[YE]
     rfl
    ·rcases be2 q hq with h | h
     ·rcases List.mem_cons.mp h with c | c
      ·exact .inr (by rw[c,J4];intro z;cases z)
      ·exact .inl c
     ·exact .inr (by
       by_cases c:q=r
       ·rw[c,J4];intro z;cases z
       ·rw[Ju c];exact h)
end
end Fn
namespace K23
open PySem PySem.Spec PyProof.Rows L2 WL Fn
def Zy:Kd->T
 | .op n=>.tup [.str "open",nT n]
 | .k0 g=>.tup [.str g]
 | .k1 g a=>.tup [.str g,Zy a]
 | .k2 g a b=>.tup [.str g,Zy a,Zy b]
def pJ {f:Fm}{g:Nat->Kd}:Zy (f.ev g)=.tup (.str f.tag::f.ps.map λp=>Zy (g p)):=by cases f<;>rfl
abbrev ik (q:Nat):Zz:=.inl (q:Int)
def zH {a b:Nat}(h:ik a=ik b):a=b:=by injection h with h;omega
def Vx:∀(n:Nat) (l:List Nat),l.Nodup->(∀x∈l,x<n)->l.length<=n
 | 0,l,_,h=>by
  cases l with
  | nil=>exact XE _
  | cons x l=>exact absurd (h x (List.mem_cons_self ..)) (Nat.not_lt_zero _)
 | n+1,l,nd,h=>by
  by_cases c:n∈l
  ·have:=Vx n (l.erase n) (nd.erase n) λx hx=>by
    have h1:=h x (List.mem_of_mem_erase hx)
    have h2:x≠n:=λe=>by subst e;exact(List.Nodup.not_mem_erase nd) hx
    omega
   rw[List.length_erase_of_mem c] at this
   omega
  ·have:=Vx n l nd λx hx=>by
    have h1:=h x hx
    have h2:x≠n:=λe=>by subst e;exact c hx
    omega
   omega
structure KD (kv:List (Zz×T))(qs:List Nat)(m:Nat):Prop where
 keys:kv.map (·.1)=qs.map ik
 nd:qs.Nodup
 lt:∀q∈qs,q<m
section
variable {kv:List (Zz×T)}{qs:List Nat}{m r:Nat}{v:T}{M:Nat->Option Kd}{k:Kd}{B:List Nat}
def KD.len (h:KD kv qs m):kv.length<=m:=by
 have e:=congrArg List.length h.keys
 rw[XI,XI] at e
 rw[e]
 exact Vx m qs h.nd h.lt
def KD.mem (h:KD kv qs m):(Yl kv (ik r)).isSome=true↔r∈qs:=by
 unfold Yl
 rw[Option.isSome_map,List.find?_isSome]
 constructor
 ·rintro⟨z,hz,e⟩
  have:z.1∈qs.map ik:=by rw[<-h.keys];exact XR.mpr ⟨z,hz,rfl⟩
  obtain⟨q,hq,e2⟩:=XR.mp this
  have e3:z.1=ik r:=by simpa using e
  rw[<-zH (e2.trans e3)];exact hq
 ·intro hr
  have:ik r∈kv.map (·.1):=by rw[h.keys];exact XR.mpr ⟨r,hr,rfl⟩
  obtain⟨z,hz,e⟩:=XR.mp this
  exact⟨z,hz,by simpa using e⟩
def KD.put (h:KD kv qs m)(hn:r∉qs)(hr:r<m):KD (Y0 kv (ik r) v) (qs++[r]) m:=by
 refine⟨?_,List.nodup_append.mpr ⟨h.nd,List.nodup_cons.mpr ⟨List.not_mem_nil,List.nodup_nil⟩,λa ha b hb=>by rw[XQ.mp hb];exact λe=>hn (e▸ha)⟩,λq hq=>?_⟩
 ·rw[Ic,XX,h.keys,XL]
  ·rfl
  ·intro e
   obtain⟨z,hz,e⟩:=List.any_eq_true.mp e
   exact hn (h.mem.mp (by unfold Yl;rw[Option.isSome_map,List.find?_isSome];exact⟨z,hz,e⟩))
 ·rcases XS.mp hq with hq | hq
  ·exact h.lt q hq
  ·rw[XQ.mp hq];exact hr
def DM (kv:List (Zz×T))(M:Nat->Option Kd)(m:Nat):Prop:=(∀q,Yl kv (ik q)=(M q).map Zy)/\∃qs,KD kv qs m
def DB (kv:List (Zz×T))(B:List Nat)(m:Nat):Prop:=∃qs,KD kv qs m/\∀q,q∈qs↔q∈B
def DM.put (h:DM kv M m)(hn:M r=none)(hr:r<m):DM (Y0 kv (ik r) (Zy k)) (set M r k) m:=by
 obtain⟨h1,qs,h2⟩:=h
 refine⟨λq=>?_,_,h2.put (λz=>?_) hr⟩
 ·rw[I0]
  by_cases c:q=r
  ·subst c;rw[XY rfl,J4];rfl
  ·rw[XX λe=>c (zH e),Ju c];exact h1 q
 ·have:=h2.mem.mpr z
  rw[h1 r,hn] at this
  cases this
def DM.isS (h:DM kv M m)(q:Nat):(Yl kv (ik q)).isSome=(M q).isSome:=by rw[h.1 q,Option.isSome_map]
def DB.put (h:DB kv B m)(hn:r∉B)(hr:r<m):DB (Y0 kv (ik r) v) (r::B) m:=by
 obtain⟨qs,h1,h2⟩:=h
 refine⟨_,h1.put (λz=>hn ((h2 r).mp z)) hr,λq=>?_⟩
 rw[XS,XQ,List.mem_cons,h2 q]
 exact or_comm
def DB.isS (h:DB kv B m)(q:Nat):(Yl kv (ik q)).isSome=decide (q∈B):=by
 obtain⟨qs,h1,h2⟩:=h
 rw[Bool.eq_iff_iff,h1.mem,h2 q,decide_eq_true_iff]
end
def Fy (A:Sd)(ra oa:Addr)(C C':Hw):Prop:=∀b o,b≠A.f->b≠A.l->b≠ra->b≠oa->C b=some o->C' b=some o
structure Ds (A:Sd)(C0:Hw)(ra oa ba pa:Addr):Prop where
 ro:ra≠oa
 rb:ra≠ba
 rp:ra≠pa
 ob:oa≠ba
 op:oa≠pa
 bp:ba≠pa
 r:ra≠A.r/\ra≠A.f/\ra≠A.l
 o:oa≠A.r/\oa≠A.f/\oa≠A.l
 b:ba≠A.r/\ba≠A.f/\ba≠A.l
 p:pa≠A.r/\pa≠A.f/\pa≠A.l
 nb:C0 ba=none
 np:C0 pa=none
structure Hq (A:Sd)(C0:Hw)(u:Us)(ra oa ba pa:Addr)(C:Hw)(kv:List (Zz×T))(os:List T)(kb:List (Zz×T))(ps:List T):Prop where
 s:Sl A C u
 f:Fy A ra oa C0 C
 r:C ra=some (.dic kv)
 o:C oa=some (.lst os)
 b:C ba=some (.dic kb)
 p:C pa=some (.lst ps)
section
variable {A:Sd}{C0 C C':Hw}{u:Us}{ra oa ba pa:Addr}{kv kb kv':List (Zz×T)}{os ps os' ps':List T}{o:O}
def Hq.new {q:Addr}(H:Hq A C0 u ra oa ba pa C kv os kb ps)(h:C q=none):Hq A C0 u ra oa ba pa (up C q o) kv os kb ps:=
 have k:∀{c:Addr} {w:O},C c=some w->up C q o c=some w:=λe=>by rw[Zg (Jq e h)];exact e
 ⟨H.s.new h,λc w m1 m2 m3 m4 e=>k (H.f c w m1 m2 m3 m4 e),k H.r,k H.o,k H.b,k H.p⟩
def Hq.of (H:Hq A C0 u ra oa ba pa C kv os kb ps)(D:Ds A C0 ra oa ba pa)(S:Sl A C' u)(F:Fx A C C'):Hq A C0 u ra oa ba pa C' kv os kb ps:=
 ⟨S,λc w m1 m2 m3 m4 e=>F c w m1 m2 (H.f c w m1 m2 m3 m4 e),F _ _ D.r.2.1 D.r.2.2 H.r,F _ _ D.o.2.1 D.o.2.2 H.o,F _ _ D.b.2.1 D.b.2.2 H.b,F _ _ D.p.2.1 D.p.2.2 H.p⟩
def Hq.upP (H:Hq A C0 u ra oa ba pa C kv os kb ps)(D:Ds A C0 ra oa ba pa):Hq A C0 u ra oa ba pa (up C pa (.lst ps')) kv os kb ps':=
 ⟨H.s.other D.p,λc w m1 m2 m3 m4 e=>by rw[Zg (Jq e D.np)];exact H.f c w m1 m2 m3 m4 e,by rw[Zg D.rp];exact H.r,by rw[Zg D.op];exact H.o,by rw[Zg D.bp];exact H.b,Ze⟩
def Hq.upR (H:Hq A C0 u ra oa ba pa C kv os kb ps)(D:Ds A C0 ra oa ba pa):Hq A C0 u ra oa ba pa (up C ra (.dic kv')) kv' os kb ps:=
 ⟨H.s.other D.r,λc w m1 m2 m3 m4 e=>by rw[Zg m3];exact H.f c w m1 m2 m3 m4 e,Ze,by rw[Zg D.ro.symm];exact H.o,by rw[Zg D.rb.symm];exact H.b,by rw[Zg D.rp.symm];exact H.p⟩
def Hq.upO (H:Hq A C0 u ra oa ba pa C kv os kb ps)(D:Ds A C0 ra oa ba pa):Hq A C0 u ra oa ba pa (up C oa (.lst os')) kv os' kb ps:=
 ⟨H.s.other D.o,λc w m1 m2 m3 m4 e=>by rw[Zg m4];exact H.f c w m1 m2 m3 m4 e,by rw[Zg D.ro];exact H.r,Ze,by rw[Zg D.ob.symm];exact H.b,by rw[Zg D.op.symm];exact H.p⟩
def Hq.upB (H:Hq A C0 u ra oa ba pa C kv os kb ps)(D:Ds A C0 ra oa ba pa):Hq A C0 u ra oa ba pa (up C ba (.dic kv')) kv os kv' ps:=
 ⟨H.s.other D.b,λc w m1 m2 m3 m4 e=>by rw[Zg (Jq e D.nb)];exact H.f c w m1 m2 m3 m4 e,by rw[Zg D.rb];exact H.r,by rw[Zg D.ob];exact H.o,Ze,by rw[Zg D.bp.symm];exact H.p⟩
end
structure eO (A:Sd)(C0:Hw)(u:Us)(ra oa ba pa:Addr)(C:Hw)(w:Ms):Prop where
 h:∃kv kb,Hq A C0 u ra oa ba pa C kv (w.O.map nT) kb (w.P.reverse.map nT)/\DM kv w.M u.F.length/\DB kb w.B u.F.length
 ol:w.O.Nodup/\∀q∈w.O,q<u.F.length/\w.M q≠none
 bl:w.B.Nodup/\∀q∈w.B,q<u.F.length
 pl:w.P.length<=1+2*w.B.length
 pr:∀q∈w.P,q<u.F.length/\u.rt q=q
section
variable {A:Sd}{C C':Hw}{u:Us}{Q:WK}{χ:WX}{n r k:Nat}{ra oa:Addr}{kv:List (Zz×T)}{M M':Nat->Option Kd}{O O' B':List Nat}
def vJ {x:T}{xs:List T}:Fb (x::xs) none (some 1)=[x]:=by
 unfold Fb HT.sIx
 simp
def Ee (S:Sl A C u)(o:u.Ok)(hn:u.F.length<=7000)(hr:r<u.F.length)(hrt:u.rt r=r)(hra:C ra=some (.dic kv))(dm:DM kv M u.F.length)(hoa:C oa=some (.lst (O.map nT)))(oa1:oa≠A.f)(oa2:oa≠A.l)
  (ol:O.Nodup/\∀q∈O,q<u.F.length/\M q≠none) (run:uc u ⟨[r],M,O,[]⟩ k ⟨[],M',O',B'⟩)
  (q:∀C' kv',Sl A C' u->Fy A ra oa C C'->C' ra=some (.dic kv')->DM kv' M' u.F.length->C' oa=some (.lst (O'.map nT))->(O'.Nodup/\∀q∈O',q<u.F.length/\M' q≠none)->Q .non C'):Ya pr (n+3) Et [.ref A.r,nT r,.ref ra,.ref oa] C Q χ:=by
 refine Fs rfl ?_
 unfold Tw Sq
 intro ba hba
 refine⟨_,rfl,Y3 (by show 1<=_;omega),λpa hpa=>?_⟩
 have raf:ra≠A.r/\ra≠A.f/\ra≠A.l:=by
  obtain⟨_,_,h⟩:=id S
  exact⟨λe=>(by rw[e,h.r] at hra;cases hra),λe=>(by rw[e,h.f] at hra;cases hra),λe=>(by rw[e,h.l] at hra;cases hra)⟩
 have oaf:oa≠A.r:=by
  obtain⟨_,_,h⟩:=id S
  exact λe=>(by rw[e,h.r] at hoa;cases hoa)
 have nbp:ba≠pa:=λe=>by rw[<-e,Ze] at hpa;cases hpa
 have hpa0:C pa=none:=by rw[Zg nbp.symm] at hpa;exact hpa
 have D:Ds A C ra oa ba pa:=⟨λe=>(by rw[e,hoa] at hra;cases hra),Jq hra hba,Jq hra hpa0,Jq hoa hba,Jq hoa hpa0,nbp,raf,⟨oaf,oa1,oa2⟩,S.off hba,S.off hpa0,hba,hpa0⟩
 have H0:Hq A C u ra oa ba pa (up (up C ba (.dic [])) pa (.lst [nT r])) kv (O.map nT) [] [nT r]:=by
  refine⟨(S.new hba).new hpa,λc w m1 m2 m3 m4 e=>by rw[Zg (Jq e hpa0),Zg (Jq e hba)];exact e,by rw[Zg D.rp,Zg D.rb];exact hra,by rw[Zg D.op,Zg D.ob];exact hoa,by rw[Zg nbp];exact Ze,Ze⟩
 generalize up (up C ba (.dic [])) pa (.lst [nT r])=C1 at H0
 refine Tb (λm τ C'=>∃v6 v7 v8 w,τ=[some (.ref A.r),some (nT r),some (.ref ra),some (.ref oa),some (.ref ba),some (.ref pa),v6,v7,v8]/\eO A C u ra oa ba pa C' w/\uc u w m ⟨[],M',O',B'⟩) (m:=k)
  ⟨none,none,none,⟨[r],M,O,[]⟩,rfl,⟨⟨kv,[],H0,dm,[],⟨rfl,List.nodup_nil,λq h=>(by cases h)⟩,λq=>Iff.rfl⟩,ol,⟨List.nodup_nil,λq h=>(by cases h)⟩,XE _,λq h=>by rw[XQ.mp h];exact⟨hr,hrt⟩⟩,run⟩ ?_
 rintro m τ C2 N ⟨v6,v7,v8,w,rfl,⟨⟨kv2,kb2,H2,dm2,db2⟩,ol2,bl2,pl2,pr2⟩,run2⟩ hN
 refine⟨_,rfl,Y3 (by show 0<=_;omega),λp' hp'=>?_⟩
 have H3:=H2.new (o:=.lst []) hp'
 refine Ej H3.p Ze ⟨_,rfl,?_⟩
 generalize up C2 p' (.lst [])=C3 at H3
 have olen:w.O.length<=u.F.length:=Vx _ _ ol2.1 λx hx=>(ol2.2 x hx).1
 have blen:w.B.length<=u.F.length:=Vx _ _ bl2.1 bl2.2
 cases run2 with
 | done=>
  refine Zl ?_
  exact q C3 kv2 H3.s H3.f H3.r dm2 H3.o ol2
 | @step _ w' _ m' st J1=>
  obtain⟨r0,P,eP⟩:∃r0 P,w.P=r0::P:=by cases st<;>exact⟨_,_,rfl⟩
  obtain⟨Pw,Mw,Ow,Bw⟩:=w
  cases eP
  dsimp only at H3 dm2 db2 ol2 bl2 pl2 pr2 olen blen
  obtain⟨r1,r2⟩:=pr2 r0 (List.mem_cons_self ..)
  have pr3:∀q∈P,q<u.F.length/\u.rt q=q:=λq h=>pr2 q (XV _ h)
  have eP:(r0::P).reverse.map nT=P.reverse.map nT++[nT r0]:=by simp
  rw[eP] at H3
  refine yE (by show(!((r0::P).reverse.map nT).isEmpty)=true;rw[eP];simp) ?_
  have last:(P.reverse.map nT++[nT r0])[(P.reverse.map nT++[nT r0]).length-1]?=some (nT r0):=by simp
  refine⟨_,rfl,⟨_,_,rfl,H3.p⟩,_,_,_,rfl,rfl,H3.p,last,?_⟩
  rw[List.dropLast_concat]
  have H4:=H3.upP (ps':=P.reverse.map nT) D
  generalize up C3 pa (.lst (P.reverse.map nT))=C4 at H4
  have pl3:P.length+1<=1+2*Bw.length:=pl2
  refine⟨_,rfl,_,rfl,_,_,_,rfl,rfl,.inl H4.r,⟨_,rfl,?_⟩⟩
  have nxt:∀{fo:Option Fm},Mw r0=none->u.F[r0]?=some fo->∀{D':We} {X:WS} {τ:Sw} {b:Bool},b=false->True:=λ_ _ _ _ _ _ _=>trivial
  cases st with
  | skip e=>
   refine yE (by rw[XX (by decide),dm2.isS,e];rfl) ?_
   exact hN m' _ _ (Nat.lt_succ_self _) ⟨_,_,_,⟨P,Mw,Ow,Bw⟩,rfl,⟨⟨kv2,kb2,H4,dm2,db2⟩,ol2,bl2,by show P.length<=1+2*Bw.length;omega,pr3⟩,J1⟩
  | opn e hf=>
   refine Lh (by rw[XX (by decide),dm2.isS,e];rfl) ?_
   obtain⟨_,_,S4⟩:=id H4.s
   refine⟨_,rfl,_,_,_,_,rfl,S4.r,rfl,rfl,_,rfl,?_⟩
   dsimp only[Zq]
   refine Mv (n:=n) (f:=none) H4.s o r1 (by rw[r2];exact hf) λC5 S5 F5=>?_
   have H5:=H4.of D S5 F5
   refine⟨_,rfl,rfl,true,rfl,Yf ?_⟩
   refine⟨_,rfl,_,rfl,_,H5.o,Y3 (by show 2<=_;omega),_,rfl,_,rfl,_,_,_,rfl,rfl,H5.r,Yu (by obtain⟨_,_,kd⟩:=dm2;have:=kd.len;omega),?_⟩
   rw[XI]
   have H6:=H5.upR (kv':=Y0 kv2 (ik r0) (Zy (.op Ow.length))) D
   refine⟨_,rfl,⟨_,_,rfl,H6.o⟩,_,rfl,_,_,_,rfl,rfl,H6.o,Yu (by rw[XI];omega),?_⟩
   have H7:=H6.upO (os':=Ow.map nT++[nT r0]) D
   have eo:Ow.map nT++[nT r0]=(Ow++[r0]).map nT:=by rw[XL];rfl
   have n0:r0∉Ow:=λh=>(ol2.2 r0 h).2 e
   refine hN m' _ _ (Nat.lt_succ_self _) ⟨_,_,_,⟨P,set Mw r0 (.op Ow.length),Ow++[r0],Bw⟩,rfl,⟨⟨_,kb2,by rw[eo] at H7 |-;exact H7,dm2.put e r1,db2⟩,⟨?_,λx hx=>?_⟩,bl2,by show P.length<=1+2*Bw.length;omega,pr3⟩,J1⟩
   ·exact List.nodup_append.mpr ⟨ol2.1,List.nodup_cons.mpr ⟨List.not_mem_nil,List.nodup_nil⟩,λa ha b hb=>by rw[XQ.mp hb];exact λz=>n0 (z▸ha)⟩
   ·rcases XS.mp hx with hx | hx
    ·have:=ol2.2 x hx
     exact⟨this.1,by show set Mw r0 _ x≠none;rw[Ju λz=>n0 (by rw[<-z];exact hx)];exact this.2⟩
    ·rw[XQ.mp hx]
     exact⟨r1,by show set Mw r0 _ r0≠none;rw[J4];intro z;cases z⟩
  | @beg _ _ _ _ _ f e hf hB hw=>
   refine Lh (by rw[XX (by decide),dm2.isS,e];rfl) ?_
   obtain⟨_,_,S4⟩:=id H4.s
   refine⟨_,rfl,_,_,_,_,rfl,S4.r,rfl,rfl,_,rfl,?_⟩
   dsimp only[Zq]
   refine Mv (n:=n) (f:=some f) H4.s o r1 (by rw[r2];exact hf) λC5 S5 F5=>?_
   have H5:=H4.of D S5 F5
   rw[E8]
   refine⟨_,rfl,rfl,false,rfl,Zl ?_⟩
   refine⟨_,rfl,_,rfl,Go,?_⟩
   rw[Sj]
   have hps:∀p∈f.ps,p<u.F.length:=o.ps r0 f hf
   refine Tp (λi acc C'=>Hq A C u ra oa ba pa C' kv2 (Ow.map nT) kb2 (P.reverse.map nT)/\acc=((f.ps.take i).map u.rt).map nT) ⟨H5,rfl⟩ (λ_ _ _ _ _=>trivial) ?_ ?_
   ·rintro i x acc C6 N6 hx ⟨H6,rfl⟩ hN6
    rw[XM] at hx
    obtain⟨p,hp,rfl⟩:∃p,f.ps[i]?=some p/\nT p=x:=by
     cases z:f.ps[i]? with
     | none=>rw[z] at hx;cases hx
     | some p=>rw[z] at hx;exact⟨p,rfl,YH hx⟩
    obtain⟨_,_,S6⟩:=id H6.s
    have hi:i<f.ps.length:=(List.getElem?_eq_some_iff.mp hp).1
    have fl:f.ps.length<=2:=by cases f<;>simp[Fm.ps]
    refine Yf (q:=N6 (((f.ps.take i).map u.rt).map nT) C6) ⟨_,rfl,_,_,_,_,rfl,S6.r,rfl,rfl,_,rfl,?_⟩
    dsimp only[Zq]
    refine V7 (n:=n+1) H6.s (hps p (List.mem_of_getElem? hp)) λC7 S7 F7=>⟨Yu (by rw[XI,XI,YM];omega),hN6 _ _ ⟨H6.of D S7 F7,?_⟩⟩
    rw[YD,hp,XL,XL];rfl
   rintro acc C6 ⟨H6,rfl⟩ wa hwa
   rw[XI,List.take_length]
   have H7:=H6.new (o:=.lst ((u.within f).map nT)) hwa
   have W7:up C6 wa (.lst ((u.within f).map nT)) wa=some (.lst ((u.within f).map nT)):=Ze
   have wd:wa≠ra/\wa≠oa/\wa≠ba/\wa≠pa:=⟨(Jq H6.r hwa).symm,(Jq H6.o hwa).symm,(Jq H6.b hwa).symm,(Jq H6.p hwa).symm⟩
   show _
   generalize hC7:up C6 wa (.lst (((f.ps).map u.rt).map nT))=C7
   rw[show up C6 wa (.lst ((u.within f).map nT))=C7 from hC7] at H7 W7
   refine⟨_,rfl,_,rfl,_,_,_,rfl,rfl,.inl H7.b,⟨_,rfl,Lh (by rw[if_neg (by decide),db2.isS];simpa using hB) ?_⟩⟩
   refine⟨_,rfl,_,rfl,_,_,_,rfl,rfl,H7.b,Yu (by obtain⟨_,kd,_⟩:=db2;have:=kd.len;omega),?_⟩
   have db3:=db2.put (v:=.bl true) hB r1
   have H8:=H7.upB (kv':=Y0 kb2 (ik r0) (.bl true)) D
   have W8:up C7 ba (.dic (Y0 kb2 (ik r0) (.bl true))) wa=some (.lst ((u.within f).map nT)):=by rw[Zg wd.2.2.1];exact W7
   generalize up C7 ba (.dic (Y0 kb2 (ik r0) (.bl true)))=C8 at H8 W8
   have wl:(u.within f).length<=2:=by unfold Us.within;rw[List.length_map];cases f<;>simp[Fm.ps]
   refine⟨_,rfl,_,W8,?_⟩
   refine Xt (λ_=>.bl false) W8 (by rw[XI];exact Y3 (by omega)) (λx hx R hR=>?_) λp9 hp9=>?_
   ·obtain⟨q0,hq0,rfl⟩:=XR.mp hx
    refine⟨_,rfl,_,rfl,_,_,_,rfl,rfl,.inl H8.b,⟨_,rfl,?_⟩⟩
    by_cases c:q0∈r0::Bw
    ·refine yE (by rw[if_neg (by decide),db3.isS];simpa using c) ?_
     refine⟨_,rfl,_,rfl,_,_,_,rfl,rfl,.inl H8.r,?_⟩
     rw[XY rfl,dm2.isS]
     cases z:Mw q0 with
     | none=>exact absurd ⟨c,z⟩ (hw q0 hq0)
     | some k0=>exact hR
    ·exact Lh (by rw[if_neg (by decide),db3.isS];simpa using c) hR
   have nf:((u.within f).map nT).map (λ_=>T.bl false)=(List.replicate (u.within f).length false).map T.bl:=by
    rw[YE,List.map_replicate]
    exact List.map_const' ..
   have H9:=H8.new (o:=.lst (((u.within f).map nT).map λ_=>T.bl false)) hp9
   have W9:up C8 p9 (.lst (((u.within f).map nT).map λ_=>T.bl false)) wa=some (.lst ((u.within f).map nT)):=by rw[Zg (Jq W8 hp9)];exact W8
   refine⟨_,_,rfl,by rw[Ze,nf],⟨_,rfl,Lh (by simp) ?_⟩⟩
   generalize up C8 p9 (.lst (((u.within f).map nT).map λ_=>T.bl false))=C9 at H9 W9
   have lP:P.length<=20000:=by omega
   refine⟨_,rfl,⟨_,_,rfl,H9.p⟩,_,rfl,_,_,_,rfl,rfl,H9.p,Yu (by rw[XI,List.length_reverse];omega),?_⟩
   have H10:=H9.upP (ps':=P.reverse.map nT++[nT r0]) D
   have W10:up C9 pa (.lst (P.reverse.map nT++[nT r0])) wa=some (.lst ((u.within f).map nT)):=by rw[Zg wd.2.2.2];exact W9
   generalize up C9 pa (.lst (P.reverse.map nT++[nT r0]))=C10 at H10 W10
   refine⟨_,rfl,⟨_,_,rfl,H10.p⟩,_,rfl,_,_,rfl,W10,λp11 hp11=>?_⟩
   have H11:=H10.new (o:=.lst ((u.within f).map nT).reverse) hp11
   refine⟨_,_,_,_,rfl,rfl,H11.p,Ze,by rw[List.length_reverse,XI,List.length_append,XI,List.length_reverse];exact Y3 (by show P.length+1+_<=_;omega),?_⟩
   have H12:=H11.upP (ps':=P.reverse.map nT++[nT r0]++((u.within f).map nT).reverse) D
   have ep:P.reverse.map nT++[nT r0]++((u.within f).map nT).reverse=(u.within f++r0::P).reverse.map nT:=by simp
   rw[ep] at H12 |-
   refine hN m' _ _ (Nat.lt_succ_self _) ⟨_,_,_,⟨u.within f++r0::P,Mw,Ow,r0::Bw⟩,rfl,⟨⟨kv2,_,H12,dm2,db3⟩,ol2,⟨List.nodup_cons.mpr ⟨hB,bl2.1⟩,λx hx=>?_⟩,?_,λx hx=>?_⟩,J1⟩
   ·rcases List.mem_cons.mp hx with rfl | hx
    ·exact r1
    ·exact bl2.2 x hx
   ·show(u.within f++r0::P).length<=1+2*(r0::Bw).length
    rw[List.length_append,YF,YF];omega
   ·rcases XS.mp hx with hx | hx
    ·obtain⟨p,hp,rfl⟩:=XR.mp hx
     exact⟨o.lt p (hps p hp),o.id p (hps p hp)⟩
    ·rcases List.mem_cons.mp hx with rfl | hx
     ·exact⟨r1,r2⟩
     ·exact pr3 x hx
  | @fin _ _ _ _ _ f e hf hB hw=>
   refine Lh (by rw[XX (by decide),dm2.isS,e];rfl) ?_
   obtain⟨_,_,S4⟩:=id H4.s
   refine⟨_,rfl,_,_,_,_,rfl,S4.r,rfl,rfl,_,rfl,?_⟩
   dsimp only[Zq]
   refine Mv (n:=n) (f:=some f) H4.s o r1 (by rw[r2];exact hf) λC5 S5 F5=>?_
   have H5:=H4.of D S5 F5
   rw[E8]
   refine⟨_,rfl,rfl,false,rfl,Zl ?_⟩
   refine⟨_,rfl,_,rfl,Go,?_⟩
   rw[Sj]
   have hps:∀p∈f.ps,p<u.F.length:=o.ps r0 f hf
   refine Tp (λi acc C'=>Hq A C u ra oa ba pa C' kv2 (Ow.map nT) kb2 (P.reverse.map nT)/\acc=((f.ps.take i).map u.rt).map nT) ⟨H5,rfl⟩ (λ_ _ _ _ _=>trivial) ?_ ?_
   ·rintro i x acc C6 N6 hx ⟨H6,rfl⟩ hN6
    rw[XM] at hx
    obtain⟨p,hp,rfl⟩:∃p,f.ps[i]?=some p/\nT p=x:=by
     cases z:f.ps[i]? with
     | none=>rw[z] at hx;cases hx
     | some p=>rw[z] at hx;exact⟨p,rfl,YH hx⟩
    obtain⟨_,_,S6⟩:=id H6.s
    have hi:i<f.ps.length:=(List.getElem?_eq_some_iff.mp hp).1
    have fl:f.ps.length<=2:=by cases f<;>simp[Fm.ps]
    refine Yf (q:=N6 (((f.ps.take i).map u.rt).map nT) C6) ⟨_,rfl,_,_,_,_,rfl,S6.r,rfl,rfl,_,rfl,?_⟩
    dsimp only[Zq]
    refine V7 (n:=n+1) H6.s (hps p (List.mem_of_getElem? hp)) λC7 S7 F7=>⟨Yu (by rw[XI,XI,YM];omega),hN6 _ _ ⟨H6.of D S7 F7,?_⟩⟩
    rw[YD,hp,XL,XL];rfl
   rintro acc C6 ⟨H6,rfl⟩ wa hwa
   rw[XI,List.take_length]
   have H7:=H6.new (o:=.lst ((u.within f).map nT)) hwa
   have W7:up C6 wa (.lst ((u.within f).map nT)) wa=some (.lst ((u.within f).map nT)):=Ze
   have wd:wa≠ra/\wa≠oa/\wa≠ba/\wa≠pa:=⟨(Jq H6.r hwa).symm,(Jq H6.o hwa).symm,(Jq H6.b hwa).symm,(Jq H6.p hwa).symm⟩
   show _
   generalize hC7:up C6 wa (.lst (((f.ps).map u.rt).map nT))=C7
   rw[show up C6 wa (.lst ((u.within f).map nT))=C7 from hC7] at H7 W7
   refine⟨_,rfl,_,rfl,_,_,_,rfl,rfl,.inl H7.b,⟨_,rfl,yE (by rw[if_neg (by decide),db2.isS];simpa using hB) ?_⟩⟩
   refine⟨_,rfl,_,rfl,?_⟩
   refine⟨_,rfl,_,W7,?_⟩
   have wl:(u.within f).length<=2:=by unfold Us.within;rw[List.length_map];cases f<;>simp[Fm.ps]
   refine Xt (λt=>match t with | .int i=>Zy (vl Mw i.toNat) | _=>.non) W7 (by rw[XI];exact Y3 (by omega)) (λx hx R hR=>?_) λp8 hp8=>?_
   ·obtain⟨q0,hq0,rfl⟩:=XR.mp hx
    have hR:R (Zy (vl Mw q0)) C7:=by simpa using hR
    cases z:Mw q0 with
    | none=>exact absurd z (hw q0 hq0)
    | some k0=>
     have ev:vl Mw q0=k0:=by unfold vl;rw[z];rfl
     rw[ev] at hR
     exact⟨_,rfl,_,rfl,_,_,_,_,rfl,rfl,.inl H7.r,by rw[dm2.1 q0,z];rfl,hR⟩
   refine⟨_,rfl,_,Ze,?_⟩
   have H8:=H7.new (o:=.lst (((u.within f).map nT).map λt=>match t with | .int i=>Zy (vl Mw i.toNat) | _=>.non)) hp8
   refine⟨by rw[vJ,XI,XI];exact Y3 (by show 1+_<=_;omega),?_⟩
   refine⟨_,rfl,_,rfl,_,_,_,rfl,rfl,H8.r,Yu (by obtain⟨_,_,kd⟩:=dm2;have:=kd.len;omega),?_⟩
   have val:T.tup (Fb (T.str f.tag::f.ps.map nT) none (some 1)++((u.within f).map nT).map λt=>match t with | .int i=>Zy (vl Mw i.toNat) | _=>.non)=Zy (u.told Mw f):=by
    rw[vJ]
    unfold Us.told Us.within
    rw[pJ,YE,YE]
    show T.tup (T.str f.tag::_)=_
    congr 2
   rw[val]
   have H9:=H8.upR (kv':=Y0 kv2 (ik r0) (Zy (u.told Mw f))) D
   refine hN m' _ _ (Nat.lt_succ_self _) ⟨_,_,_,⟨P,set Mw r0 (u.told Mw f),Ow,Bw⟩,rfl,⟨⟨_,kb2,H9,dm2.put e r1,db2⟩,⟨ol2.1,λx hx=>?_⟩,bl2,by show P.length<=1+2*Bw.length;omega,pr3⟩,J1⟩
   have:=ol2.2 x hx
   exact⟨this.1,by show set Mw r0 _ x≠none;rw[Ju λz=>this.2 (by rw[z];exact e)];exact this.2⟩
end
end K23
namespace Fn
open PySem WL
def wS {u:Us}{σ0:Nat->Kd}(o:u.Ok)(h:U7 u σ0):∀r f,r<u.F.length->u.rt r=r->u.F[r]?=some (some f)->∀q∈u.within f,(σ0 q).sz<(σ0 r).sz:=λr f _ _ hf q hq=>by
 obtain⟨p,hp,rfl⟩:=XR.mp hq
 rw[<-h.1 p (o.ps r f hf p hp),h.2 r f hf]
 cases f with
 | f0 g=>cases hp
 | f1 g a=>rw[XQ.mp hp];show _<1+(σ0 a).sz;omega
 | f2 g a b=>
  simp only[Fm.ps,List.mem_cons,List.not_mem_nil,or_false] at hp
  show _<1+((σ0 a).sz+(σ0 b).sz)
  rcases hp with rfl | rfl<;>omega
structure sM (u:Us)(rows:List Nat)(M:Nat->Option Kd)(O:List Nat):Prop where
 rd:xb u M O
 all:∀i∈rows,M (u.rt i)≠none
 num:ext [] (rows.map λi=>(vl M (u.rt i)).ops).flatten=List.range O.length
def wx {u:Us}:xb u (λ_=>none) []:=⟨λq k h=>(by cases h),λq k h=>(by cases h),λq k f h=>(by cases h),λq k h=>(by cases h),λi q h=>by simp at h⟩
def Kd.put (θ:Nat->Kd):Kd->Kd
 | .op n=>θ n
 | .k0 g=>.k0 g
 | .k1 g a=>.k1 g (a.put θ)
 | .k2 g a b=>.k2 g (a.put θ) (b.put θ)
def qy {θ:Nat->Kd}{f:Fm}{g:Nat->Kd}:(f.ev g).put θ=f.ev λp=>(g p).put θ:=by cases f<;>rfl
structure Ax (t:Tr)(R:List Kd):Prop where
 is:∃k,HT G0 t k R
 wide:∀k' R',HT G0 t k' R'->∃θ,R'=R.map (Kd.put θ)
 num:∃n,ext [] (R.map Kd.ops).flatten=List.range n
section
variable {u:Us}{M:Nat->Option Kd}{O rows:List Nat}{σ σ0:Nat->Kd}{t:Tr}
def Fi (o:u.Ok)(h:U7 u σ0):∀(l:List Nat) (M:Nat->Option Kd) (O:List Nat),(∀i∈l,i<u.F.length)->xb u M O->∃M' O',xb u M' O'/\(∀q k,M q=some k->M' q=some k)/\∀i∈l,M' (u.rt i)≠none
 | [],M,O,_,R=>⟨M,O,R,λ_ _ h=>h,λi h=>(by cases h)⟩
 | i::l,M,O,hl,R=>by
  have il:=hl i (List.mem_cons_self ..)
  obtain⟨k,M1,O1,B1,_,g⟩:=pW (μ:=λq=>(σ0 q).sz) o (wS o h) ((σ0 (u.rt i)).sz+1) (u.rt i) [] M O [] (Nat.lt_succ_self _) (o.lt i il) (o.id i il) R (λq h=>by cases h)
  obtain⟨M2,O2,R2,k2,a2⟩:=Fi o h l M1 O1 (λj hj=>hl j (XV _ hj)) g.rd
  obtain⟨kk,g1,_⟩:=g.here
  refine⟨M2,O2,R2,λq k e=>k2 q k (g.keep q k e),λj hj=>?_⟩
  rcases List.mem_cons.mp hj with rfl | hj
  ·rw[k2 _ kk g1];intro z;cases z
  ·exact a2 j hj
def xN (o:u.Ok)(c:Vz u [])(h:U7 u σ0)(T:sM u rows M O):∃σ1,U7 u σ1/\∀i∈rows,σ1 i=vl M (u.rt i):=by
 obtain⟨M',O',R',kp,al⟩:=Fi o h (List.range u.F.length) M O (λi hi=>List.mem_range.mp hi) T.rd
 refine⟨λq=>vl M' (u.rt q),⟨λx hx=>by show vl M' (u.rt x)=vl M' (u.rt (u.rt x));rw[o.id x hx],λx f hx=>?_⟩,λi hi=>?_⟩
 ·have xl:=(List.getElem?_eq_some_iff.mp hx).1
  obtain⟨g,g1,g2⟩:=c x f hx
  cases e:M' (u.rt x) with
  | none=>exact absurd e (al x (List.mem_range.mpr xl))
  | some k=>
   obtain⟨h1,_⟩:=R'.frm _ k g e g1
   show vl M' (u.rt x)=_
   have ev:vl M' (u.rt x)=k:=by unfold vl;rw[e];rfl
   rw[ev,h1]
   show g.ev (λp=>vl M' (u.rt p))=f.ev λp=>vl M' (u.rt p)
   cases f with
   | f0 w=>cases g with
    | f0 v=>have:w=v:=g2;rw[this]
    | f1 v c=>exact g2.elim
    | f2 v c d=>exact g2.elim
   | f1 w a=>cases g with
    | f0 v=>exact g2.elim
    | f1 v c=>show Kd.k1 v (vl M' (u.rt c))=Kd.k1 w (vl M' (u.rt a));rw[g2.1,g2.2.nil]
    | f2 v c d=>exact g2.elim
   | f2 w a b=>cases g with
    | f0 v=>exact g2.elim
    | f1 v c=>exact g2.elim
    | f2 v c d=>show Kd.k2 v (vl M' (u.rt c)) (vl M' (u.rt d))=Kd.k2 w (vl M' (u.rt a)) (vl M' (u.rt b));rw[g2.1,g2.2.1.nil,g2.2.2.nil]
 ·show vl M' (u.rt i)=vl M (u.rt i)
  cases e:M (u.rt i) with
  | none=>exact absurd e (T.all i hi)
  | some k=>unfold vl;rw[kp _ k e,e]
def Gk (o:u.Ok)(h:U7 u σ)(R:xb u M O):∀(n:Nat) q k,(σ q).sz<n->M q=some k->σ q=k.put λi=>σ ((O[i]?).getD 0)
 | 0,q,k,hn,_=>absurd hn (Nat.not_lt_zero _)
 | n+1,q,k,hn,e=>by
  obtain⟨q1,q2⟩:=R.root q k e
  obtain⟨fo,hf⟩:∃f,u.F[q]?=some f:=⟨_,List.getElem?_eq_getElem q1⟩
  cases fo with
  | none=>
   obtain⟨i,rfl,hi⟩:=R.opn q k e hf
   show σ q=σ ((O[i]?).getD 0)
   rw[hi];rfl
  | some f=>
   obtain⟨h1,h2⟩:=R.frm q k f e hf
   rw[h1,h.2 q f hf]
   show f.ev σ=(f.ev λp=>vl M (u.rt p)).put _
   rw[qy]
   refine N3 λp hp=>?_
   have pw:u.rt p∈u.within f:=XR.mpr ⟨p,hp,rfl⟩
   cases z:M (u.rt p) with
   | none=>exact absurd z (h2 _ pw)
   | some k0=>
    have ev:vl M (u.rt p)=k0:=by unfold vl;rw[z];rfl
    show σ p=(vl M (u.rt p)).put _
    rw[ev,h.1 p (o.ps q f hf p hp)]
    have:=wS o h q f q1 q2 hf _ pw
    exact Gk o h R n (u.rt p) k0 (by omega) z
def jm (K:Kn t u rows [])(h:U7 u σ0)(T:sM u rows M O):Ax t (rows.map λi=>vl M (u.rt i)):=by
 refine⟨?_,λk' R' hR=>?_,⟨O.length,?_⟩⟩
 ·obtain⟨σ1,s1,e1⟩:=xN K.o K.c h T
  obtain⟨k,hk⟩:=K.so σ1 [] s1 .nil
  rw[YK,List.map_congr_left e1] at hk
  exact⟨k,hk⟩
 ·obtain⟨σ,R2,s1,e1,e2⟩:=K.co k' R' hR
  cases e2
  rw[YK] at e1
  refine⟨λi=>σ ((O[i]?).getD 0),?_⟩
  rw[e1,YE]
  refine List.map_congr_left λi hi=>?_
  have il:=K.rl i hi
  cases z:M (u.rt i) with
  | none=>exact absurd z (T.all i hi)
  | some k0=>
   have ev:vl M (u.rt i)=k0:=by unfold vl;rw[z];rfl
   show σ i=(vl M (u.rt i)).put _
   rw[ev,s1.1 i il]
   exact Gk K.o s1 T.rd ((σ (u.rt i)).sz+1) (u.rt i) k0 (Nat.lt_succ_self _) z
 ·rw[<-T.num,YE];rfl
end
def Nr {θ1 θ2:Nat->Kd}:∀(k:Kd),(k.put θ1).put θ2=k->∀i∈k.ops,∃j,θ1 i=.op j/\θ2 j=.op i
 | .op n,h,i,hi=>by
  rw[XQ.mp hi]
  have h:(θ1 n).put θ2=.op n:=h
  cases e:θ1 n with
  | op j=>rw[e] at h;exact⟨j,rfl,h⟩
  | k0 g=>rw[e] at h;cases h
  | k1 g a=>rw[e] at h;cases h
  | k2 g a b=>rw[e] at h;cases h
 | .k0 g,_,i,hi=>by cases hi
 | .k1 g a,h,i,hi=>by
  injection h with _ h
  exact Nr a h i hi
 | .k2 g a b,h,i,hi=>by
  injection h with _ h1 h2
  rcases XS.mp hi with hi | hi
  ·exact Nr a h1 i hi
  ·exact Nr b h2 i hi
def Ka {θ:Nat->Kd}{f:Nat->Nat}:∀(k:Kd),(∀i∈k.ops,θ i=.op (f i))->(k.put θ).ops=k.ops.map f
 | .op n,h=>by show(θ n).ops=[f n];rw[h n (by simp[Kd.ops])];rfl
 | .k0 g,_=>rfl
 | .k1 g a,h=>Ka a h
 | .k2 g a b,h=>by
  show(a.put θ).ops++(b.put θ).ops=(a.ops++b.ops).map f
  rw[Ka a λi hi=>h i (List.mem_append_left _ hi),Ka b λi hi=>h i (XT _ hi),XL]
def Ei {θ:Nat->Kd}:∀(k:Kd),(∀i∈k.ops,θ i=.op i)->k.put θ=k
 | .op n,h=>h n (by simp[Kd.ops])
 | .k0 g,_=>rfl
 | .k1 g a,h=>by show Kd.k1 g (a.put θ)=_;rw[Ei a h]
 | .k2 g a b,h=>by show Kd.k2 g (a.put θ) (b.put θ)=_;rw[Ei a λi hi=>h i (List.mem_append_left _ hi),Ei b λi hi=>h i (XT _ hi)]
def El {j:Nat}:∀{l acc:List Nat},j∈ext acc l↔j∈acc\/j∈l
 | [],acc=>by simp[ext]
 | i::l,acc=>by
  show j∈ext (if i∈acc then acc else acc++[i]) l↔_
  rw[El (l:=l)]
  by_cases c:i∈acc
  ·rw[XY c,List.mem_cons]
   constructor
   ·rintro(h | h)
    ·exact .inl h
    ·exact .inr (.inr h)
   ·rintro(h | h | h)
    ·exact .inl h
    ·rw[h];exact .inl c
    ·exact .inr h
  ·rw[XX c,XS,XQ,List.mem_cons,or_assoc]
def Db {f:Nat->Nat}:∀{l acc:List Nat},(∀a∈acc++l,∀b∈acc++l,f a=f b->a=b)->ext (acc.map f) (l.map f)=(ext acc l).map f
 | [],acc,_=>rfl
 | i::l,acc,h=>by
  show ext (if f i∈acc.map f then acc.map f else acc.map f++[f i]) (l.map f)=(ext (if i∈acc then acc else acc++[i]) l).map f
  by_cases c:i∈acc
  ·rw[XY c,XY (XR.mpr ⟨i,c,rfl⟩)]
   exact Db λa ha b hb=>h a (by rcases XS.mp ha with x | x;exact List.mem_append_left _ x;exact XT _ (XV _ x)) b (by rcases XS.mp hb with x | x;exact List.mem_append_left _ x;exact XT _ (XV _ x))
  ·have n:f i∉acc.map f:=λz=>by
    obtain⟨a,ha,e⟩:=XR.mp z
    exact c (h a (List.mem_append_left _ ha) i (XT _ (List.mem_cons_self ..)) e▸ha)
   rw[XX c,XX n,show acc.map f++[f i]=(acc++[i]).map f by rw[XL];rfl]
   exact Db λa ha b hb=>h a (by rw[YL] at ha;exact ha) b (by rw[YL] at hb;exact hb)
def vP {t:Tr}{R1 R2:List Kd}(h1:Ax t R1)(h2:Ax t R2):R1=R2:=by
 obtain⟨k1,i1⟩:=h1.is
 obtain⟨k2,i2⟩:=h2.is
 obtain⟨θ1,e1⟩:=h1.wide k2 R2 i2
 obtain⟨θ2,e2⟩:=h2.wide k1 R1 i1
 obtain⟨n1,m1⟩:=h1.num
 obtain⟨n2,m2⟩:=h2.num
 have back:∀k∈R1,(k.put θ1).put θ2=k:=λk hk=>by
  have e:R1=R1.map λk=>(k.put θ1).put θ2:=by
   have:=e2
   rw[e1,YE] at this
   exact this
  have g:∀(l m:List Kd) (F:Kd->Kd),l=m.map F->l=m->∀k∈m,F k=k:=by
   intro l m F a b
   subst b
   induction l with
   | nil=>intro k hk;cases hk
   | cons x l ih=>
    rw[YI] at a
    injection a with a1 a2
    intro k hk
    rcases List.mem_cons.mp hk with rfl | hk
    ·exact a1.symm
    ·exact ih a2 k hk
  exact g R1 R1 _ e rfl k hk
 let f:Nat->Nat:=λi=>match θ1 i with | .op j=>j | _=>0
 have fo:∀i∈(R1.map Kd.ops).flatten,θ1 i=.op (f i)/\θ2 (f i)=.op i:=λi hi=>by
  obtain⟨l,hl,hi⟩:=List.mem_flatten.mp hi
  obtain⟨k,hk,rfl⟩:=XR.mp hl
  obtain⟨j,a,b⟩:=Nr k (back k hk) i hi
  have:f i=j:=by show(match θ1 i with | .op j=>j | _=>0)=j;rw[a]
  rw[this]
  exact⟨a,b⟩
 have inj:∀a∈(R1.map Kd.ops).flatten,∀b∈(R1.map Kd.ops).flatten,f a=f b->a=b:=λa ha b hb e=>by
  have x:=(fo a ha).2
  rw[e,(fo b hb).2] at x
  injection x with x
  exact x.symm
 have l2:(R2.map Kd.ops).flatten=((R1.map Kd.ops).flatten).map f:=by
  rw[e1,YE,List.map_flatten,YE]
  congr 1
  refine List.map_congr_left λk hk=>?_
  exact Ka k λi hi=>(fo i (List.mem_flatten.mpr ⟨_,XR.mpr ⟨k,hk,rfl⟩,hi⟩)).1
 have rr:List.range n2=(List.range n1).map f:=by
  rw[<-m2,l2,<-m1]
  exact Db (acc:=[]) λa ha b hb=>inj a (by simpa using ha) b (by simpa using hb)
 have nn:n2=n1:=by have:=congrArg List.length rr;simpa using this
 subst nn
 have fid:∀i,i<n2->f i=i:=λi hi=>by
  have:=congrArg (λl:List Nat=>l[i]?) rr
  simp only[List.getElem?_map,List.getElem?_range hi,Option.map_some] at this
  exact(YH this).symm
 rw[e1]
 have id1:R1.map (Kd.put θ1)=R1.map id:=List.map_congr_left λk hk=>Ei k λi hi=>by
  have im:i∈(R1.map Kd.ops).flatten:=List.mem_flatten.mpr ⟨_,XR.mpr ⟨k,hk,rfl⟩,hi⟩
  have il:i<n2:=List.mem_range.mp (by rw[<-m1];exact El.mpr (.inr im))
  rw[(fo i im).1,fid i il]
 rw[id1,List.map_id]
end Fn
namespace K23
open PySem PySem.Spec PyProof.Rows L2 WL Fn
section
variable {A:Sd}{C C':Hw}{u:Us}{Q:WK}{χ:WX}{n:Nat}{rows:List Nat}{σ0:Nat->Kd}{pr_:Addr}
def Eb (S:Sl A C u)(o:u.Ok)(hn:u.F.length<=7000)(hσ:U7 u σ0)(hrow:C pr_=some (.lst (rows.map nT)))(pf:pr_≠A.f)(pl:pr_≠A.l)(hlt:∀i∈rows,i<u.F.length)(hlen:rows.length<=7000)
  (q:∀C' p M O,Sl A C' u->Fx A C C'->C p=none->C' p=some (.lst (rows.map λi=>Zy (vl M (u.rt i))))->sM u rows M O->O.length<=u.F.length->Q (.ref p) C'):Ya pr (n+4) Nz [.ref A.r,.ref pr_] C Q χ:=by
 refine Fp rfl ?_
 unfold Tu Sn
 intro ra hra
 have S0:=S.new (o:=.dic []) hra
 refine⟨Y3 (by show 0<=_;omega),λoa hoa=>?_⟩
 have nro:ra≠oa:=λe=>by rw[<-e,Ze] at hoa;cases hoa
 have hoa0:C oa=none:=by rw[Zg nro.symm] at hoa;exact hoa
 have S1:=S0.new (o:=.lst []) hoa
 have K1:∀{c:Addr} {w:O},C c=some w->up (up C ra (.dic [])) oa (.lst []) c=some w:=λe=>by rw[Zg (Jq e hoa0),Zg (Jq e hra)];exact e
 have R1:up (up C ra (.dic [])) oa (.lst []) ra=some (.dic []):=by rw[Zg nro];exact Ze
 have O1:up (up C ra (.dic [])) oa (.lst []) oa=some (.lst []):=Ze
 generalize up (up C ra (.dic [])) oa (.lst [])=C1 at S1 K1 R1 O1
 have oaf:=S.off hoa0
 have raf:=S.off hra
 have pro:pr_≠ra/\pr_≠oa:=⟨Jq hrow hra,Jq hrow hoa0⟩
 refine⟨_,rfl,_,K1 hrow,?_⟩
 refine Uq (λi τ C'=>∃v4 M O kv,τ=[some (.ref A.r),some (.ref pr_),some (.ref ra),some (.ref oa),v4]/\Sl A C' u/\(∀c w,c≠A.f->c≠A.l->C c=some w->C' c=some w)/\C' ra=some (.dic kv)/\DM kv M u.F.length/\C' oa=some (.lst (O.map nT))/\(O.Nodup/\∀q∈O,q<u.F.length/\M q≠none)/\
  sM u (rows.take i) M O) ⟨_,(λ_=>none),[],[],rfl,S1,λc w _ _ e=>K1 e,R1,⟨λq=>rfl,[],rfl,List.nodup_nil,λq h=>(by cases h)⟩,O1,⟨List.nodup_nil,λq h=>(by cases h)⟩,wx,λi h=>(by cases h),rfl⟩ (λi τ C' _ h=>by obtain⟨_,_,_,_,_,_,h,_⟩:=h;exact h _ _ pf pl hrow) ?_ ?_
 ·rintro i x τ C2 N hx ⟨v4,M,O,kv,rfl,S2,K2,R2,dm2,O2,ol2,T2⟩ hN
  rw[XM] at hx
  obtain⟨s,hs,rfl⟩:∃s,rows[i]?=some s/\nT s=x:=by
   cases z:rows[i]? with
   | none=>rw[z] at hx;cases hx
   | some p=>rw[z] at hx;exact⟨p,rfl,YH hx⟩
  have sl:=hlt s (List.mem_of_getElem? hs)
  obtain⟨_,_,S20⟩:=id S2
  refine⟨_,rfl,_,rfl,_,_,_,_,rfl,S20.r,rfl,rfl,_,rfl,?_⟩
  dsimp only[Zq]
  refine V7 (n:=n+2) S2 sl λC3 S3 F3=>?_
  refine⟨_,rfl,_,rfl,?_⟩
  dsimp only[Zq]
  have R3:=F3 _ _ raf.2.1 raf.2.2 R2
  have O3:=F3 _ _ oaf.2.1 oaf.2.2 O2
  obtain⟨k,M',O',B',run,gone⟩:=pW (μ:=λq=>(σ0 q).sz) o (wS o hσ) ((σ0 (u.rt s)).sz+1) (u.rt s) [] M O [] (Nat.lt_succ_self _) (o.lt s sl) (o.id s sl) T2.rd (λq h=>by cases h)
  refine Ee (n:=n) S3 o hn (o.lt s sl) (o.id s sl) R3 dm2 O3 oaf.2.1 oaf.2.2 ol2 run λC4 kv4 S4 F4 R4 dm4 O4 ol4=>?_
  obtain⟨kk,g1,g2⟩:=gone.here
  refine hN _ _ ⟨_,M',O',kv4,rfl,S4,λc w m1 m2 e=>?_,R4,dm4,O4,ol4,gone.rd,λj hj=>?_,?_⟩
  ·exact F4 c w m1 m2 (Jq e hra) (Jq e hoa0) (F3 c w m1 m2 (K2 c w m1 m2 e))
  ·rw[YD,hs] at hj
   rcases XS.mp hj with hj | hj
   ·cases z:M (u.rt j) with
    | none=>exact absurd z (T2.all j hj)
    | some k0=>rw[gone.keep _ k0 z];intro y;cases y
   ·rw[XQ.mp hj,g1];intro y;cases y
  ·rw[YD,hs]
   show ext [] ((rows.take i++[s]).map _).flatten=_
   rw[XL,List.flatten_append,yN]
   have e1:(rows.take i).map (λi=>(vl M' (u.rt i)).ops)=(rows.take i).map λi=>(vl M (u.rt i)).ops:=List.map_congr_left λj hj=>by
    cases z:M (u.rt j) with
    | none=>exact absurd z (T2.all j hj)
    | some k0=>unfold vl;rw[gone.keep _ k0 z,z]
   rw[e1,T2.num]
   have e2:vl M' (u.rt s)=kk:=by unfold vl;rw[g1];rfl
   show ext _ ([(vl M' (u.rt s)).ops].flatten)=_
   rw[e2,List.flatten_cons,List.flatten_nil,YK]
   exact g2
 ·rintro τ C2 ⟨v4,M,O,kv,rfl,S2,K2,R2,dm2,O2,ol2,T2⟩
  rw[XI,List.take_length] at T2
  have row2:=K2 _ _ pf pl hrow
  refine⟨_,rfl,_,row2,?_⟩
  refine Tp (λi acc C'=>Sl A C' u/\Fx A C2 C'/\acc=(rows.take i).map λi=>Zy (vl M (u.rt i))) ⟨S2,Fx.refl _ _,rfl⟩ (λi acc C' _ h=>h.2.1 _ _ pf pl row2) ?_ ?_
  ·rintro i x acc C3 N hx ⟨S3,F3,rfl⟩ hN
   rw[XM] at hx
   obtain⟨s,hs,rfl⟩:∃s,rows[i]?=some s/\nT s=x:=by
    cases z:rows[i]? with
    | none=>rw[z] at hx;cases hx
    | some p=>rw[z] at hx;exact⟨p,rfl,YH hx⟩
   have sm:=List.mem_of_getElem? hs
   have sl:=hlt s sm
   obtain⟨_,_,S30⟩:=id S3
   refine Yf (q:=N ((rows.take i).map λi=>Zy (vl M (u.rt i))) C3) ⟨_,rfl,_,rfl,_,_,_,_,rfl,S30.r,rfl,rfl,_,rfl,?_⟩
   dsimp only[Zq]
   refine V7 (n:=n+2) S3 sl λC4 S4 F4=>?_
   have hi:i<rows.length:=(List.getElem?_eq_some_iff.mp hs).1
   cases z:M (u.rt s) with
   | none=>exact absurd z (T2.all s sm)
   | some k0=>
    have ev:vl M (u.rt s)=k0:=by unfold vl;rw[z];rfl
    refine⟨_,_,_,_,rfl,rfl,.inl (F4 _ _ raf.2.1 raf.2.2 (F3 _ _ raf.2.1 raf.2.2 R2)),by rw[show Yl kv (Sum.inl ((u.rt s:Nat):Int))=_ from dm2.1 (u.rt s),z];rfl,⟨Yu (by rw[XI,YM];omega),hN _ _ ⟨S4,F3.trans F4,?_⟩⟩⟩
    rw[YD,hs,XL]
    show _=_++[Zy (vl M (u.rt s))]
    rw[ev]
  ·rintro acc C3 ⟨S3,F3,rfl⟩ p hp
   rw[XI,List.take_length]
   have FC:Fx A C C3:=λc w m1 m2 e=>F3 c w m1 m2 (K2 c w m1 m2 e)
   exact q _ p M O (S3.new hp) (Ua S3 FC hp) (Sf S3 FC hp) Ze T2 (Vx _ _ ol2.1 λx hx=>(ol2.2 x hx).1)
end
end K23
namespace Fn
open PySem WL
def iF (R:List Kd):List Nat:=ext [] (R.map Kd.ops).flatten
def fQ (R:List Kd):List Kd:=R.map (Kd.put λi=>.op ((iF R).idxOf i))
def tw {R:List Kd}{k:Kd}(h:k∈R){i:Nat}(hi:i∈k.ops):i∈iF R:=El.mpr (.inr (List.mem_flatten.mpr ⟨_,XR.mpr ⟨k,h,rfl⟩,hi⟩))
def Cd:Nat->List Str->Tr->Prop
 | 0,_,_=>False
 | m+1,bs,t=>(∀x,t=.nm x->x∈bs)/\∀z∈t.scs,Cd m (bs++z.1) z.2
end Fn
namespace K23
open PySem PySem.Spec PyProof.Rows L2 WL Fn
section
variable {C C':Hw}{Q:WK}{χ:WX}{d:Addr}{t:Tr}
def Cv:∀(m n:Nat) (bs:List Str) (t:Tr) (C:Hw) {Q:WK} {χ:WX},Cd m bs t->t.lok->bs.length+10*m<=10000->C d=some (.dic [])->(∀C',Ex C C'->Q .non C')->Ya pr (n+m+2) Hx [tt t,.tup (bs.map T.str),.ref d] C Q χ
 | 0,_,_,_,_,_,_,h,_,_,_,_=>h.elim
 | m+1,n,bs,t,C,Q,χ,hc,hl,hb,hd,q=>by
  refine Hs (n:=n+m+2) rfl ?_
  unfold Uv U8
  obtain⟨l1,l2⟩:=Em hl
  obtain⟨e,sc⟩:=re t l1
  have loop:∀D:We,D.nx=(λ_ C'=>Q .non C')->D.xc=χ->uF (pU (Qq (Ya pr (n+m+2)) 0 (Zr (Yj 0) Zq))) (kF (M4 (Aa 3) (M4 (Aa 4) Bx))) (Cw (Qq (Ya pr (n+m+2)) 4 (Zr (Yj 4) (Zr (Jf Fo (Yj 1) (Yj 3)) (Zr (Yj 2) Zq))))) D
    [some (tt t),some (.tup (bs.map T.str)),some (.ref d),none,none] C:=by
   intro D hnx hxc
   refine⟨_,rfl,?_⟩
   dsimp only[Zq]
   refine Cr (n:=n+m) sc λk C1 x1 hk0 hk1=>⟨_,hk1,?_⟩
   refine Uq (λi τ C'=>∃v3 v4,τ=[some (tt t),some (.tup (bs.map T.str)),some (.ref d),v3,v4]/\Ex C1 C') ⟨_,_,rfl,Ex.refl _⟩ (λi τ C' _ h=>by obtain⟨_,_,_,h⟩:=h;exact h _ _ hk1) ?_ ?_
   ·rintro i x τ C2 N hx ⟨v3,v4,rfl,x2⟩ hN
    rw[XM,XM] at hx
    obtain⟨z,hz,rfl⟩:∃z,t.scs[i]?=some z/\rg (sS z)=x:=by
     cases y:t.scs[i]? with
     | none=>rw[y] at hx;cases hx
     | some p=>rw[y] at hx;exact⟨p,rfl,YH hx⟩
    have zm:=List.mem_of_getElem? hz
    have z10:=xY t l1 z zm
    refine⟨_,rfl,_,_,rfl,_,_,rfl,rfl,?_⟩
    refine⟨_,rfl,_,rfl,_,rfl,by rw[XI,XI];exact Y3 (by omega),_,rfl,?_⟩
    dsimp only[Zq]
    rw[<-XL]
    rw[hxc]
    exact Cv m n (bs++z.1) z.2 C2 (hc.2 z zm) (l2 z zm) (by rw[List.length_append];omega) (x2 _ _ (x1 _ _ hd)) λC3 x3=>hN _ _ ⟨_,_,rfl,x2.trans x3⟩
   ·rintro τ C2 ⟨v3,v4,rfl,x2⟩
    rw[hnx]
    exact q C2 (x1.trans x2)
  cases hn:Tr.isNm t with
  | true=>
   cases t with
   | nm x=>
    have hx:=hc.1 x rfl
    refine⟨_,rfl,_,Zv,Zx (v:=true) (by decide+kernel) ⟨_,rfl,Yf ⟨_,rfl,_,Ym,_,rfl,by unfold Yk Y5;rfl,zL,⟨_,rfl,Lh (by rw[XY rfl,vf,decide_eq_true hx];rfl) ?_⟩⟩⟩⟩
    exact loop _ rfl rfl
   | _=>cases hn
  | false=>
   obtain⟨wd,r,et,hw⟩:∃(wd:Str) (r:List T),tt t=.tup (.str wd::r)/\(wd=="name")=false:=by
    cases t with
    | nm x=>cases hn
    | _=>exact⟨_,_,rfl,by decide+kernel⟩
   rw[et] at loop |-
   exact⟨_,rfl,_,Zv,Zx (v:=false) hw ⟨_,rfl,Zl (Zl (loop _ rfl rfl))⟩⟩
def qk {m N:Nat}(hN:m+3<=N)(hc:Cd m [] t)(hl:t.lok)(hm:m<=900)(q:∀p C',Ex C C'->C p=none->C' p=some (.lst [])->Q (.ref p) C'):Ya pr N pS [tt t] C Q χ:=by
 obtain⟨n,rfl⟩:∃n,N=n+m+3:=⟨N-m-3,by omega⟩
 refine rZ (n:=n+m+2) rfl ?_
 unfold Az yc
 intro d hd
 refine⟨_,rfl,Y3 (by show 0<=_;omega),_,rfl,?_⟩
 dsimp only[Zq]
 refine Cv m n [] t _ hc hl (by show 0+_<=_;omega) Ze λC1 x1=>?_
 refine⟨_,rfl,_,[],[],rfl,x1 _ _ Ze,rfl,by decide,λp ys hp pm _=>?_⟩
 have:ys=[]:=List.Perm.eq_nil pm
 subst this
 have x0:Ex C C1:=(Ex.new hd).trans x1
 exact q p _ (x0.trans (Ex.new hp)) (x0.free hp) Ze
def yn {m n:Nat}(hc:Cd m [] t)(hl:t.lok)(hm:m<=900)(hz:t.size<=600)(hco:t.cost<=6000)(hw:∃k R,HT G0 t k R)
  (q:∀C' p R,Ex C C'->C p=none->C' p=some (.lst (R.map Zy))->Ax t R->(∃n,ext [] (R.map Kd.ops).flatten=List.range n/\n<=1+t.cost)->Q (.ref p) C'):Ya pr (n+m+7) yH [tt t] C Q χ:=by
 refine uy (n:=n+m+6) rfl ?_
 unfold Fl Dt
 refine⟨_,rfl,?_⟩
 dsimp only[Zq]
 refine qk (m:=m) (by omega) hc hl hm λp1 C1 x1 hp1 e1=>?_
 refine⟨_,rfl,Y3 (by show 0<=_;omega),λp2 hp2=>?_⟩
 refine Ej (xs:=[]) (by rw[Zg (Jq e1 hp2)];exact e1) Ze ⟨_,rfl,Zl ?_⟩
 have x2:Ex C (up C1 p2 (.lst [])):=x1.trans (Ex.new hp2)
 generalize up C1 p2 (.lst [])=C2 at x2
 show Ya pr (n+m+5+1) Bp [] C2 (λx C1=>Eh (Qq (Ya pr (n+m+6)) Nz (Zr (Yj 2) (Zr (Qq (Ya pr (n+m+6)) Gy (Zr (Yj 2) (Zr (Yj 0) Zq))) Zq))) {nx:=λ_ C'=>Q .non C',rt:=Q,xc:=χ} [some (tt t),some (.ref p1),some x] C1) χ
 refine D8 (n:=n+m+5) (vs:=[]) rfl λsa hsa=>?_
 refine Mq (n:=n+m+4) rfl ?_
 unfold X8 Ws
 refine⟨Y3 (by show 0<=_;omega),λfa hfa=>?_⟩
 have nfs:sa≠fa:=λe=>by rw[<-e,Ze] at hfa;cases hfa
 have hfa0:C2 fa=none:=by rw[Zg nfs.symm] at hfa;exact hfa
 refine⟨_,rfl,_,_,_,rfl,by rw[Zg nfs];exact Ze,.head _,by decide,?_⟩
 refine⟨Y3 (by show 0<=_;omega),λla hla=>?_⟩
 have nls:sa≠la:=λe=>by rw[<-e,Ze] at hla;cases hla
 have nlf:fa≠la:=λe=>by rw[<-e,Zg nfs.symm,Ze] at hla;cases hla
 have hla0:C2 la=none:=by rw[Zg nls.symm,Zg nlf.symm,Zg nls.symm] at hla;exact hla
 refine⟨_,rfl,_,_,_,rfl,by rw[Zg nls];exact Ze,.head _,by show 1<1000;decide,?_⟩
 have S0:Sl ⟨sa,fa,la⟩ (up (up (up (up (up C2 sa (.ins "Slots" [])) fa (.lst [])) sa (.ins "Slots" (Ul "forms" (.ref fa) []))) la (.lst [])) sa (.ins "Slots" (Ul "leads" (.ref la) (Ul "forms" (.ref fa) [])))) ⟨id,[]⟩:=by
  refine⟨λ_=>0,[],⟨?_,?_,?_,⟨rfl,λx y h=>by simp at h⟩,nlf⟩⟩
  ·rw[Ze];rfl
  ·show up _ _ _ fa=_
   rw[Zg nfs.symm,Zg nlf,Zg nfs.symm,Ze];rfl
  ·show up _ _ _ la=_
   rw[Zg nls.symm,Ze];rfl
 have x3:Ex C2 (up (up (up (up (up C2 sa (.ins "Slots" [])) fa (.lst [])) sa (.ins "Slots" (Ul "forms" (.ref fa) []))) la (.lst [])) sa (.ins "Slots" (Ul "leads" (.ref la) (Ul "forms" (.ref fa) [])))):=λc w h=>by
  rw[Zg (Jq h hsa),Zg (Jq h hla0),Zg (Jq h hsa),Zg (Jq h hfa0),Zg (Jq h hsa)];exact h
 generalize up (up (up (up (up C2 sa (.ins "Slots" [])) fa (.lst [])) sa (.ins "Slots" (Ul "forms" (.ref fa) []))) la (.lst [])) sa (.ins "Slots" (Ul "leads" (.ref la) (Ul "forms" (.ref fa) [])))=C3 at S0 x3
 refine⟨rfl,?_⟩
 refine⟨_,rfl,_,rfl,_,rfl,?_⟩
 dsimp only[Zq]
 refine jv (n:=n+m) hl hz hco hw S0 λC4 p4 u4 rows S4 F4 hp4 P4 K4=>?_
 obtain⟨k0,R0,h0⟩:=hw
 obtain⟨σ0,_,s0,_,_⟩:=K4.co k0 R0 h0
 have pf:=S0.off hp4
 have ln:=K4.len
 have sz:=K4.sz
 refine Eb (n:=n+m+2) (σ0:=σ0) S4 K4.o (by omega) s0 P4 pf.2.1 pf.2.2 K4.rl (by omega) λC5 p5 M O S5 F5 hp5 P5 T5 oL=>?_
 have x4:Ex C C4:=λc w h=>by
  have h3:=x3 _ _ (x2 _ _ h)
  have nf:c≠fa:=Jq (x2 _ _ h) hfa0
  have nl:c≠la:=Jq (x2 _ _ h) hla0
  exact F4 c w nf nl h3
 have xx:Ex C C5:=λc w h=>F5 c w (Jq (x2 _ _ h) hfa0) (Jq (x2 _ _ h) hla0) (x4 c w h)
 exact q C5 p5 (rows.map λi=>vl M (u4.rt i)) xx (x4.free hp5) (by rw[YE];exact P5) (jm K4 s0 T5) ⟨O.length,by rw[<-T5.num,YE];rfl,by omega⟩
end
def yF {p q:Prop}{b:Bool}(h1:p)(h2:q):if b=true then p else q:=by cases b;exact h2;exact h1
def Xr {p q:Prop}{b:Bool}(h1:b=true->p)(h2:b=false->q):if b=true then p else q:=by cases b;exact h2 rfl;exact h1 rfl
def dk (mx:Bool)(sd nm:Int)(l:Addr)(m:Int):List (Zz×T):=[(.inr "mixed",.bl mx),(.inr "seed",.int sd),(.inr "number",.int nm),(.inr "left",.ref l),(.inr "inner",.int m)]
section
variable {mx:Bool}{sd nm v:Int}{l:Addr}{m:Int}
def iN:((Sum.inr ("mixed":Str):Zz)=Sum.inr ("seed":Str))=False:=eq_false (by decide+kernel)
def iM:((Sum.inr ("mixed":Str):Zz)=Sum.inr ("number":Str))=False:=eq_false (by decide+kernel)
def gS:((Sum.inr ("mixed":Str):Zz)=Sum.inr ("left":Str))=False:=eq_false (by decide+kernel)
def n04:((Sum.inr ("mixed":Str):Zz)=Sum.inr ("inner":Str))=False:=eq_false (by decide+kernel)
def iL:((Sum.inr ("seed":Str):Zz)=Sum.inr ("number":Str))=False:=eq_false (by decide+kernel)
def gR:((Sum.inr ("seed":Str):Zz)=Sum.inr ("left":Str))=False:=eq_false (by decide+kernel)
def iK:((Sum.inr ("seed":Str):Zz)=Sum.inr ("inner":Str))=False:=eq_false (by decide+kernel)
def n23:((Sum.inr ("number":Str):Zz)=Sum.inr ("left":Str))=False:=eq_false (by decide+kernel)
def iJ:((Sum.inr ("number":Str):Zz)=Sum.inr ("inner":Str))=False:=eq_false (by decide+kernel)
def iI:((Sum.inr ("left":Str):Zz)=Sum.inr ("inner":Str))=False:=eq_false (by decide+kernel)
def fS:((Sum.inr ("number":Str):Zz)=Sum.inr ("seed":Str))=False:=eq_false (by decide+kernel)
def n31:((Sum.inr ("left":Str):Zz)=Sum.inr ("seed":Str))=False:=eq_false (by decide+kernel)
def n41:((Sum.inr ("inner":Str):Zz)=Sum.inr ("seed":Str))=False:=eq_false (by decide+kernel)
def n32:((Sum.inr ("left":Str):Zz)=Sum.inr ("number":Str))=False:=eq_false (by decide+kernel)
def n42:((Sum.inr ("inner":Str):Zz)=Sum.inr ("number":Str))=False:=eq_false (by decide+kernel)
def tR:Yl (dk mx sd nm l m) (.inr "mixed")=some (.bl mx):=by simp only[Yl,dk,List.find?,decide_true,Option.map]
def zK:Yl (dk mx sd nm l m) (.inr "seed")=some (.int sd):=by simp only[Yl,dk,List.find?,iN,decide_false,decide_true,Option.map]
def Bz:Yl (dk mx sd nm l m) (.inr "number")=some (.int nm):=by simp only[Yl,dk,List.find?,iM,iL,decide_false,decide_true,Option.map]
def vn:Yl (dk mx sd nm l m) (.inr "left")=some (.ref l):=by simp only[Yl,dk,List.find?,gS,gR,n23,decide_false,decide_true,Option.map]
def yJ:Yl (dk mx sd nm l m) (.inr "inner")=some (.int m):=by simp only[Yl,dk,List.find?,n04,iK,iJ,iI,decide_false,decide_true,Option.map]
def qR:Y0 (dk mx sd nm l m) (.inr "seed") (.int v)=dk mx v nm l m:=by simp only[Y0,dk,List.any,List.map,iN,fS,n31,n41,decide_false,decide_true,Bool.or_true,Bool.true_or,if_true,if_false]
def Be:Y0 (dk mx sd nm l m) (.inr "number") (.int v)=dk mx sd v l m:=by simp only[Y0,dk,List.any,List.map,iM,iL,n32,n42,decide_false,decide_true,Bool.or_true,Bool.true_or,Bool.false_or,if_true,if_false]
def yy:Y0 (dk mx sd nm l m) (.inr "inner") (.int v)=dk mx sd nm l v:=by simp only[Y0,dk,List.any,List.map,n04,iK,iJ,iI,decide_false,decide_true,Bool.or_true,Bool.true_or,Bool.false_or,if_true,if_false]
end
def Dl (C:Hw)(a l:Addr)(m:Int):Prop:=∃mx sd nm,∃ls:List Int,C a=some (.dic (dk mx sd nm l m))/\C l=some (.lst (ls.map T.int))/\0<=nm/\(∀x∈ls,0<=x)/\(0<=sd/\sd<2147483647)/\a≠l
def E2 (a l:Addr)(C C':Hw):Prop:=∀c o,c≠a->c≠l->C c=some o->C' c=some o
def E2.refl {a l:Addr}{C:Hw}:E2 a l C C:=λ_ _ _ _ h=>h
def E2.trans {a l:Addr}{C C1 C2:Hw}(x:E2 a l C C1)(y:E2 a l C1 C2):E2 a l C C2:=λc o n1 n2 h=>y c o n1 n2 (x c o n1 n2 h)
def E2.new {a l p:Addr}{C C1:Hw}{o:O}(x:E2 a l C C1)(h:C1 p=none):E2 a l C (up C1 p o):=λc u n1 n2 e=>by
 have q:=x c u n1 n2 e
 rw[Zg (Jq q h)];exact q
def Dl.ne {C:Hw}{a l p:Addr}{m:Int}(h:Dl C a l m)(hp:C p=none):p≠a/\p≠l:=by
 obtain⟨_,_,_,_,h1,h2,_⟩:=h
 exact⟨λe=>(by rw[e,h1] at hp;cases hp),λe=>(by rw[e,h2] at hp;cases hp)⟩
def Dl.at {C C':Hw}{a l:Addr}{m:Int}(h:Dl C a l m)(ha:∀o,C a=some o->C' a=some o)(hl:∀o,C l=some o->C' l=some o):Dl C' a l m:=by
 obtain⟨mx,sd,nm,ls,h1,h2,r⟩:=h
 exact⟨mx,sd,nm,ls,ha _ h1,hl _ h2,r⟩
def Dl.ex {C C':Hw}{a l:Addr}{m:Int}(h:Dl C a l m)(x:Ex C C'):Dl C' a l m:=h.at (λo e=>x _ _ e) λo e=>x _ _ e
section
variable {C C':Hw}{Q:WK}{χ:WX}{n:Nat}{a l:Addr}{m:Int}
def J6 {many:Int}(h:Dl C a l m)(hm:0<many)(hl:many.natAbs.log2<9000)(q:∀r C',E2 a l C C'->Dl C' a l m->0<=r->r<many->Q (.int r) C'):Ya pr (n+1) Bu [.ref a,.int many] C Q χ:=by
 refine Ci rfl ?_
 unfold Qb Q8
 obtain⟨mx,sd,nm,ls,h1,h2,h3,h4,⟨h5,h6⟩,hal⟩:=h
 refine Tb (m:=ls.length) (λk τ C'=>∃(nm:Int) (ls:List Int),ls.length=k/\τ=[some (.ref a),some (.int many),none,none,none]/\E2 a l C C'/\C' a=some (.dic (dk mx sd nm l m))/\C' l=some (.lst (ls.map T.int))/\0<=nm/\(∀x∈ls,0<=x)) ⟨nm,ls,rfl,rfl,E2.refl,h1,h2,h3,h4⟩ ?_
 rintro k τ C1 N ⟨nm,ls,rfl,rfl,x1,g1,g2,g3,g4⟩ hN
 have J1:∀D:We,D.rt=Q->D.xc=χ->(Ti (Mx (Jf Dw (Yj 0) (eC (T.str "number"))) (Aa 2))
   (Ti (uk (xu (Jf kW (Yj 2) (eC (T.int 0)))) (Ti (Mx (Jf sU (Yj 2) (Yj 1)) (iW (Yj 0) (eC (T.str "number")))) (Eh (Jf Dx (Yj 2) (Yj 1)))) Rc)
    (Ti (Mx (Jf Dx (Jf Fo (Jf A0 (Jf Dw (Yj 0) (eC (T.str "seed"))) (eC (T.int 48271))) (eC (T.int 7919))) (eC (T.int 2147483647))) (Aa 3))
     (Ti (Mx (Jf Dx (Jf Fo (Jf A0 (Yj 3) (eC (T.int 40692))) (eC (T.int 104729))) (eC (T.int 2147483399))) (iW (Yj 0) (eC (T.str "seed"))))
      (Ti (Mx (Jf Dx (Jf A0 (Jf Dw (Yj 0) (eC (T.str "seed"))) (Jf Dw (Yj 0) (eC (T.str "seed")))) (eC (T.int 2147483563))) (Aa 4))
       (Eh (Jf Dx (Jf Fo (Jf A0 (Jf Dx (Jf A0 (Yj 3) (Yj 3)) (eC (T.int 2147483629))) (eC (T.int 2147483563))) (Yj 4)) (Yj 1)))))))) D [some (.ref a),some (.int many),none,none,none] C1:=by
  intro D hrt hxc
  refine⟨_,rfl,_,_,_,_,rfl,rfl,.inl g1,Bz,?_⟩
  refine⟨_,rfl,_,rfl,Xr (λc=>?_) (λc=>?_)⟩
  ·have c':0<nm:=of_decide_eq_true c
   refine⟨_,rfl,_,rfl,⟨hm,hl⟩,_,rfl,_,_,_,rfl,rfl,g1,ZNB rfl,?_⟩
   refine⟨_,rfl,_,rfl,hm,?_⟩
   rw[hrt,Be]
   exact q _ _ (λc o n1 n2 e=>by rw[Zg n1];exact x1 c o n1 n2 e) ⟨mx,sd,_,ls,Ze,by rw[Zg hal.symm];exact g2,Int.ediv_nonneg g3 (Int.le_of_lt hm),g4,⟨h5,h6⟩,hal⟩ (YO _ (by omega)) (Int.emod_lt_of_pos _ hm)
  ·refine⟨_,rfl,_,_,_,_,rfl,rfl,.inl g1,zK,.inr ⟨by decide,by decide⟩,by decide,?_⟩
   have s0:0<=(sd*48271+7919)%2147483647:=YO _ (by decide)
   have s1:(sd*48271+7919)%2147483647<2147483647:=Int.emod_lt_of_pos _ (by decide)
   generalize (sd*48271+7919)%2147483647=o1 at s0 s1
   refine⟨_,rfl,.inr ⟨by decide,by decide⟩,by decide,_,rfl,_,_,_,rfl,rfl,g1,ZNB rfl,?_⟩
   rw[qR]
   have s2:0<=(o1*40692+104729)%2147483399:=YO _ (by decide)
   have s3:(o1*40692+104729)%2147483399<2147483399:=Int.emod_lt_of_pos _ (by decide)
   generalize (o1*40692+104729)%2147483399=o2 at s2 s3
   refine⟨_,rfl,_,_,_,_,rfl,rfl,.inl Ze,zK,_,rfl,_,_,_,_,rfl,rfl,.inl Ze,zK,.inl ⟨by omega,by omega⟩,by decide,?_⟩
   refine⟨_,rfl,_,rfl,.inl ⟨by omega,by omega⟩,by decide,.inr ⟨by decide,by decide⟩,_,rfl,_,rfl,hm,?_⟩
   rw[hrt]
   exact q _ _ (λc o n1 n2 e=>by rw[Zg n1];exact x1 c o n1 n2 e) ⟨mx,o2,nm,ls,Ze,by rw[Zg hal.symm];exact g2,g3,g4,⟨s2,by omega⟩,hal⟩ (YO _ (by omega)) (Int.emod_lt_of_pos _ hm)
 refine⟨_,rfl,_,_,_,_,rfl,rfl,.inl g1,Bz,Qp rfl ⟨_,rfl,Xr (λc=>?_) (λc=>Zl (J1 _ rfl rfl))⟩⟩
 refine⟨_,rfl,_,_,_,_,rfl,rfl,.inl g1,vn,_,rfl,_,g2,_,rfl,Xr (λc2=>?_) (λc2=>Zl (J1 _ rfl rfl))⟩
 refine⟨_,rfl,_,_,_,_,rfl,rfl,.inl g1,tR,_,rfl,Xr (λc3=>?_) (λc3=>J1 _ rfl rfl)⟩
 rcases List.eq_nil_or_concat ls with rfl | ⟨ds,v,rfl⟩
 ·cases c2
 ·rw[List.concat_eq_append] at*
  have last:((ds++[v]).map T.int)[((ds++[v]).map T.int).length-1]?=some (.int v):=by simp
  have dl:((ds++[v]).map T.int).dropLast=ds.map T.int:=by simp
  refine⟨_,rfl,_,_,_,_,rfl,rfl,.inl g1,vn,⟨_,_,rfl,g2⟩,_,_,_,rfl,rfl,g2,last,?_⟩
  rw[dl]
  refine⟨_,rfl,_,_,_,rfl,rfl,by rw[Zg hal];exact g1,ZNB rfl,?_⟩
  rw[Be]
  refine hN ds.length _ _ (by rw[List.length_append];show _<_+1;omega) ⟨v,ds,rfl,rfl,λc o n1 n2 e=>by rw[Zg n1,Zg n2];exact x1 c o n1 n2 e,Ze,by rw[Zg hal.symm];exact Ze,g4 v (by simp),λx hx=>g4 x (List.mem_append_left _ hx)⟩
end
def vR {z:Str}{r:Int}{k:Nat}(hz:z.cps.toList.length=k)(h0:0<=r)(h1:r<k):∃c,Pe z.cps.toList r=some c:=by
 obtain⟨v,h,_⟩:=zT (xs:=z.cps.toList) h0 (by rw[hz];exact h1)
 exact⟨v,h⟩
def Qk {x:Int}(h:0<x)(h':x<=1000000000000000000):x.natAbs.log2<9000:=by
 have:x.natAbs.log2<64:=(Nat.log2_lt (by omega)).mpr (by omega)
 omega
def Pk:Nat->Kd->Prop
 | 0,_=>False
 | m+1,k=>k=Vj\/k=Qm\/(∃a,k=Wj a/\Pk m a)\/(∃a b,k=z0 a b/\Pk m a/\Pk m b)\/∃a b,k=xv a b/\Pk m a/\Pk m b
def Jr:∀{m m':Nat} {k:Kd},m<=m'->Pk m k->Pk m' k
 | 0,_,_,_,h=>h.elim
 | _+1,0,_,e,_=>absurd e (Nat.not_succ_le_zero _)
 | m+1,m'+1,k,e,h=>by
  have e':=Nat.le_of_succ_le_succ e
  rcases h with rfl | rfl | ⟨a,rfl,h⟩ | ⟨a,b,rfl,h1,h2⟩ | ⟨a,b,rfl,h1,h2⟩
  ·exact .inl rfl
  ·exact .inr (.inl rfl)
  ·exact .inr (.inr (.inl ⟨a,rfl,Jr e' h⟩))
  ·exact .inr (.inr (.inr (.inl ⟨a,b,rfl,Jr e' h1,Jr e' h2⟩)))
  ·exact .inr (.inr (.inr (.inr ⟨a,b,rfl,Jr e' h1,Jr e' h2⟩)))
section
variable {C C':Hw}{Q:WK}{χ:WX}{n:Nat}{a l:Addr}{m:Int}
def lJ {c:WT}{A B:WS}{D:We}{τ:Sw}(p:Bool->Prop)(hc:∀K χ,(∀k,p k->K k C)->c τ C K χ)(h1:p true->A {D with nx:=B D} τ C)(h2:p false->B D τ C):Ti (uk c A Rc) B D τ C:=
 hc _ _ λk hk=>by
  cases k
  ·exact Zl (h2 hk)
  ·exact Yf (h1 hk)
def K0 (h:Dl C a l m)(q:∀x C',E2 a l C C'->Dl C' a l m->Q (.str x) C'):Ya pr (n+2) Bs [.ref a] C Q χ:=by
 refine Cf rfl ?_
 unfold Ry Q2
 refine⟨_,rfl,?_⟩
 dsimp only[Zq,Zr,eC]
 refine J6 (n:=n) h (by decide) (Qk (by decide) (by decide)) λr C1 x1 D1 r0 r1=>iX rfl ⟨_,rfl,yF ?_ ?_⟩
 ·refine⟨_,rfl,_,rfl,?_⟩
  dsimp only[Zq,Zr,eC]
  refine J6 (n:=n) D1 (by decide) (Qk (by decide) (by decide)) λr C2 x2 D2 r0 r1=>?_
  obtain⟨c,hc⟩:=vR (z:="abcdefghijklmnopqrstuvwxyz") (k:=26) (by decide+kernel) r0 (by omega)
  exact⟨by decide,c,hc,q _ _ (x1.trans x2) D2⟩
 refine⟨_,rfl,_,rfl,?_⟩
 dsimp only[Zq,Zr,eC]
 refine J6 (n:=n) D1 (by decide) (Qk (by decide) (by decide)) λr C2 x2 D2 r0 r1=>?_
 obtain⟨c,hc⟩:=vR (z:="abcdefghijklmnopqrstuvwxyz") (k:=26) (by decide+kernel) r0 (by omega)
 refine⟨by decide,c,hc,?_⟩
 refine⟨_,rfl,?_⟩
 dsimp only[Zq,Zr,eC]
 refine J6 (n:=n) D2 (by decide) (Qk (by decide) (by decide)) λr C3 x3 D3 r0 r1=>?_
 refine⟨_,rfl,by omega,by omega,?_⟩
 refine yK (λi τ C'=>∃(y:Str) (x3:Option T),y.length<=1+i/\τ=[some (.ref a),some (.str "abcdefghijklmnopqrstuvwxyz"),some (.str y),x3]/\E2 a l C C'/\Dl C' a l m) ⟨⟨#[c]⟩,none,XE 1,rfl,(x1.trans x2).trans x3,D3⟩ (λ_=>trivial) ?_ ?_
 ·rintro i τ C4 N hi ⟨y,z3,hy,rfl,x4,D4⟩ hN
  refine⟨_,rfl,_,rfl,by decide+kernel,_,rfl,?_⟩
  dsimp only[Zq,Zr,eC]
  refine J6 (n:=n) D4 (by decide) (Qk (by decide) (by decide)) λr C5 x5 D5 r0 r1=>?_
  obtain⟨c,hc⟩:=vR (z:=("abcdefghijklmnopqrstuvwxyz":Str)++"0123456789") (k:=36) (by decide+kernel) r0 (by omega)
  refine⟨by decide+kernel,c,hc,Vq (by show y.length+1<=_;omega),?_⟩
  exact hN _ _ ⟨_,_,by have:=YC y ⟨#[c]⟩;have e:(⟨#[c]⟩:Str).length=1:=rfl;omega,rfl,x4.trans x5,D5⟩
 ·rintro τ C4 ⟨y,z3,hy,rfl,x4,D4⟩
  refine⟨_,rfl,ZNB rfl,λp hp=>?_⟩
  have x5:=x4.new (o:=.lst [.str "fun",.str "let",.str "choose",.str "first",.str "stop",.str "rows",.str "in",.str "when",.str "be"]) hp
  have D5:=D4.ex (Ex.new (o:=.lst [.str "fun",.str "let",.str "choose",.str "first",.str "stop",.str "rows",.str "in",.str "when",.str "be"]) hp)
  refine⟨_,Ze,by rfl,by rfl,_,rfl,yF ?_ ?_⟩
  ·refine⟨_,rfl,Vq (by show y.length+1<=_;omega),?_⟩
   exact⟨_,rfl,q _ _ x5 D5⟩
  ·exact⟨_,rfl,q _ _ x5 D5⟩
def Ia:∀(f n:Nat) {C:Hw} {Q:WK} {χ:WX},Dl C a l m->(∀k C',E2 a l C C'->Dl C' a l m->Pk (f+1) k->Q (Zy k) C')->Ya pr (n+f+2) Li [.ref a,.int f] C Q χ
 | f,n,C,Q,χ,h,q=>by
  refine Ch (n:=n+f+1) rfl ?_
  unfold Qa Q7
  refine⟨_,rfl,?_⟩
  dsimp only[Zq,Zr,eC]
  refine J6 (n:=n+f) h (by decide) (Qk (by decide) (by decide)) λr C1 x1 D1 r0 r1=>?_
  dsimp only[Aa]
  refine lJ (λk=>k=false->f≠0/\3<=r) (λK χ' h=>?_) (λ_=>?_) λh=>?_
  ·refine⟨_,rfl,Qp rfl ⟨_,rfl,Xr (λ_=>h true λe=>by cases e) (λc0=>?_)⟩⟩
   refine⟨_,rfl,_,rfl,h _ λe=>⟨λe=>?_,?_⟩⟩
   ·subst e;cases c0
   ·have:=of_decide_eq_false e;omega
  ·refine⟨ZNB rfl,ZNB rfl,ZNB rfl,ZNB rfl,λp hp=>?_⟩
   have x2:=x1.new (o:=.lst [Zy Vj,Zy Qm,Zy Vj]) hp
   have D2:=D1.ex (Ex.new (o:=.lst [Zy Vj,Zy Qm,Zy Vj]) hp)
   have e3:r%3=0\/r%3=1\/r%3=2:=by omega
   refine⟨_,rfl,by decide,?_⟩
   rcases e3 with e | e | e<;>rw[e]
   ·exact⟨_,_,Ze,Zv,q Vj _ x2 D2 (.inl rfl)⟩
   ·exact⟨_,_,Ze,Ym,q Qm _ x2 D2 (.inr (.inl rfl))⟩
   ·exact⟨_,_,Ze,Vb,q Vj _ x2 D2 (.inl rfl)⟩
  ·obtain⟨h0,h1⟩:=h rfl
   match f,h0,q with
   | f+1,_,q=>
    have hc:((f+1:Nat):Int)-1=(f:Int):=by omega
    refine⟨_,rfl,_,rfl,?_⟩
    dsimp only[Zq,Zr,eC,Oh]
    rw[hc]
    refine Ia f n D1 λk1 C2 x2 D2 p1=>?_
    refine⟨_,rfl,Qp rfl ⟨_,rfl,Xr (λc=>?_) (λc=>?_)⟩⟩
    ·exact⟨_,rfl,ZNB rfl,q (Wj k1) _ (x1.trans x2) D2 (.inr (.inr (.inl ⟨_,rfl,p1⟩)))⟩
    ·have h4:r-4=0\/r-4=1:=by
      have:r≠3:=λe=>by rw[e] at c;cases c
      omega
     refine⟨ZNB rfl,λp hp=>?_⟩
     have x3:=x2.new (o:=.lst [.str "pair",.str "to"]) hp
     have D3:=D2.ex (Ex.new (o:=.lst [.str "pair",.str "to"]) hp)
     refine⟨_,rfl,?_⟩
     dsimp only[Zq,Zr,eC,Oh]
     rcases h4 with e | e<;>rw[e]
     ·refine⟨_,_,Ze,Zv,_,rfl,_,rfl,_,rfl,?_⟩
      dsimp only[Zq,Zr,eC,Oh]
      rw[hc]
      exact Ia f n D3 λk2 C4 x4 D4 p2=>⟨ZNB rfl,q (z0 k1 k2) _ ((x1.trans x3).trans x4) D4 (.inr (.inr (.inr (.inl ⟨_,_,rfl,p1,p2⟩))))⟩
     ·refine⟨_,_,Ze,Ym,_,rfl,_,rfl,_,rfl,?_⟩
      dsimp only[Zq,Zr,eC,Oh]
      rw[hc]
      exact Ia f n D3 λk2 C4 x4 D4 p2=>⟨ZNB rfl,q (xv k1 k2) _ ((x1.trans x3).trans x4) D4 (.inr (.inr (.inr (.inr ⟨_,_,rfl,p1,p2⟩))))⟩
end
def Ez (a l:Addr)(C C':Hw):Prop:=∀c o,c≠a->c≠l->C c=some o->C' c=some o\/∃kv,o=.dic kv/\C' c=some (.fdic kv)
section
variable {a l p:Addr}{C C1 C2:Hw}{o:O}{m:Int}
def E2.ez (x:E2 a l C C1):Ez a l C C1:=λc o n1 n2 h=>.inl (x c o n1 n2 h)
def Ez.refl:Ez a l C C:=E2.refl.ez
def Ez.trans (x:Ez a l C C1)(y:Ez a l C1 C2):Ez a l C C2:=λc o n1 n2 h=>by
 rcases x c o n1 n2 h with h | ⟨kv,e,h1⟩
 ·exact y c o n1 n2 h
 ·rcases y c _ n1 n2 h1 with h2 | ⟨kv',e',h2⟩
  ·exact .inr ⟨kv,e,h2⟩
  ·cases e'
def Ez.new (x:Ez a l C C1)(h:C1 p=none):Ez a l C (up C1 p o):=x.trans (E2.refl.new h).ez
def Ez.lst (x:Ez a l C C1){xs:List T}(h:C p=some (.lst xs))(n1:p≠a)(n2:p≠l):C1 p=some (.lst xs):=by
 rcases x p _ n1 n2 h with h | ⟨kv,e,_⟩
 ·exact h
 ·cases e
def Ez.rd (x:Ez a l C C1){kv:List (Zz×T)}(h:uq C p kv)(n1:p≠a)(n2:p≠l):uq C1 p kv:=by
 rcases h with h | h
 ·rcases x p _ n1 n2 h with h | ⟨kv',e,h⟩
  ·exact .inl h
  ·cases e;exact .inr h
 ·rcases x p _ n1 n2 h with h | ⟨kv',e,h⟩
  ·exact .inr h
  ·cases e
def Ez.free (x:Ez a l C C1)(h:C1 p=none)(n1:p≠a)(n2:p≠l):C p=none:=by
 cases e:C p with
 | none=>rfl
 | some o=>rcases x p o n1 n2 e with h' | ⟨_,_,h'⟩<;>(rw[h'] at h;cases h)
def Ex.ez (x:Ex C C1):Ez a l C C1:=λc o _ _ h=>.inl (x c o h)
end
def sQ (kv:List (Zz×T))(G:Ev)(bs:List Str):Prop:=∀e∈kv,∃x k,e=(Sum.inr x,Zy k)/\G x=some k/\x∈bs/\Pk 40 k
def yz {kv:List (Zz×T)}{k:Zz}{v:T}{e:Zz×T}(h:e∈Y0 kv k v):e=(k,v)\/(e∈kv/\e.1≠k):=by
 unfold Y0 at h
 split at h
 ·obtain⟨z,hz,rfl⟩:=XR.mp h
  split
  ·rename_i c;left;rw[c]
  ·rename_i c;exact .inr ⟨hz,c⟩
 ·rename_i c
  rcases XS.mp h with h | h
  ·refine .inr ⟨h,λe'=>c ?_⟩
   exact List.any_eq_true.mpr ⟨e,h,decide_eq_true e'⟩
  ·exact .inl (XQ.mp h)
def Mz:∀{more kv:List (Zz×T)} {e:Zz×T},e∈Yx kv more->e∈more\/(e∈kv/\∀z∈more,z.1≠e.1)
 | [],kv,e,h=>.inr ⟨h,λz hz=>by cases hz⟩
 | z::more,kv,e,h=>by
  rcases Mz (more:=more) (kv:=Y0 kv z.1 z.2) h with h | ⟨h,h'⟩
  ·exact .inl (XV _ h)
  ·rcases yz h with rfl | ⟨h,hn⟩
   ·exact .inl (List.mem_cons_self ..)
   ·exact .inr ⟨h,λy hy=>by rcases List.mem_cons.mp hy with rfl | hy;exact hn.symm;exact h' y hy⟩
def Xy:∀{m n:Nat} {k:Kd},Pk m k->m<=n->Y5 (Zy k) n=true
 | 0,_,_,h,_=>h.elim
 | _+1,0,_,_,h=>absurd h (Nat.not_succ_le_zero _)
 | m+1,n+1,k,h,e=>by
  have e':=Nat.le_of_succ_le_succ e
  rcases h with rfl | rfl | ⟨a,rfl,h⟩ | ⟨a,b,rfl,h1,h2⟩ | ⟨a,b,rfl,h1,h2⟩
  ·rfl
  ·rfl
  ·have:=Xy h e';simp[Zy,Y5,Yr,this]
  ·have h1:=Xy h1 e';have h2:=Xy h2 e';simp[Zy,Y5,Yr,h1,h2]
  ·have h1:=Xy h1 e';have h2:=Xy h2 e';simp[Zy,Y5,Yr,h1,h2]
def Jk {xs ys:List T}:WL.eqT (.tup xs) (.tup ys)=X4 xs ys:=by rw[WL.eqT]
def Ke {x y:Str}:WL.eqT (.str x) (.str y)=(x==y):=by rw[WL.eqT]
def tT {x y:Int}:WL.eqT (.int x) (.int y)=(x==y):=by rw[WL.eqT]
def oi {x:Int}{ys:List T}:WL.eqT (.int x) (.tup ys)=false:=by rw[WL.eqT]<;>(intros;simp_all)
def oh {x:Int}{ys:List T}:WL.eqT (.tup ys) (.int x)=false:=by rw[WL.eqT]<;>(intros;simp_all)
def Kc:X4 [] []=true:=by rw[X4]
def Jj {x y:T}{xs ys:List T}:X4 (x::xs) (y::ys)=(WL.eqT x y&&X4 xs ys):=by rw[X4]
def N4 {y:T}{ys:List T}:X4 [] (y::ys)=false:=by rw[X4]<;>(intros;simp_all)
def N5 {y:T}{ys:List T}:X4 (y::ys) []=false:=by rw[X4]<;>(intros;simp_all)
def Eo (k:Kd):∃xs,Zy k=.tup xs:=by cases k<;>exact⟨_,rfl⟩
def G2:∀{k k':Kd},WL.eqT (Zy k) (Zy k')=true->k=k'
 | .op i,.op j,h=>by
  simp only[Zy,nT,Jk,Jj,Kc,Ke,tT,beq_self_eq_true,Bool.true_and,Bool.and_true,beq_iff_eq] at h
  have:i=j:=by omega
  rw[this]
 | .op i,.k0 g,h=>by simp only[Zy,Jk,Jj,N5,Bool.and_false] at h;cases h
 | .op i,.k1 g a,h=>by obtain⟨xs,e⟩:=Eo a;simp only[Zy,nT,e,Jk,Jj,oi,Bool.and_false,Bool.false_and] at h;cases h
 | .op i,.k2 g a b,h=>by simp only[Zy,Jk,Jj,N4,Bool.and_false] at h;cases h
 | .k0 g,.op i,h=>by simp only[Zy,Jk,Jj,N4,Bool.and_false] at h;cases h
 | .k0 g,.k0 g',h=>by simp only[Zy,Jk,Jj,Kc,Ke,Bool.and_true,beq_iff_eq] at h;rw[h]
 | .k0 g,.k1 g' a,h=>by simp only[Zy,Jk,Jj,N4,Bool.and_false] at h;cases h
 | .k0 g,.k2 g' a b,h=>by simp only[Zy,Jk,Jj,N4,Bool.and_false] at h;cases h
 | .k1 g a,.op i,h=>by obtain⟨xs,e⟩:=Eo a;simp only[Zy,nT,e,Jk,Jj,oh,Bool.and_false,Bool.false_and] at h;cases h
 | .k1 g a,.k0 g',h=>by simp only[Zy,Jk,Jj,N5,Bool.and_false] at h;cases h
 | .k1 g a,.k1 g' a',h=>by simp only[Zy,Jk,Jj,Kc,Ke,Bool.and_true,Bool.and_eq_true,beq_iff_eq] at h;rw[h.1,G2 h.2]
 | .k1 g a,.k2 g' a' b',h=>by simp only[Zy,Jk,Jj,N4,Bool.and_false] at h;cases h
 | .k2 g a b,.op i,h=>by simp only[Zy,Jk,Jj,N5,Bool.and_false] at h;cases h
 | .k2 g a b,.k0 g',h=>by simp only[Zy,Jk,Jj,N5,Bool.and_false] at h;cases h
 | .k2 g a b,.k1 g' a',h=>by simp only[Zy,Jk,Jj,N5,Bool.and_false] at h;cases h
 | .k2 g a b,.k2 g' a' b',h=>by simp only[Zy,Jk,Jj,Kc,Ke,Bool.and_true,Bool.and_eq_true,beq_iff_eq] at h;rw[h.1,G2 h.2.1,G2 h.2.2]
def Kq {k w:Kd}{C:Hw}{Q:WK}{v:Bool}(h:WL.eqT (Zy k) (Zy w)=v)(fk:Yk (Zy k))(fw:Yk (Zy w))(q:Q (.bl v) C):Oi false (Zy k) (Zy w) C Q:=by
 subst h
 cases k<;>cases w<;>exact⟨fk,fw,q⟩
def rA {c:WT}{A B:WS}{D:We}{τ:Sw}{C:Hw}(p:Bool->Hw->Prop)(hc:∀(K:Bool->Hw->Prop) χ,(∀k C',p k C'->K k C')->c τ C K χ)(h1:∀C',p true C'->A {D with nx:=B D} τ C')(h2:∀C',p false C'->B D τ C'):Ti (uk c A Rc) B D τ C:=
 hc _ _ λk C' hk=>by
  cases k
  ·exact Zl (h2 C' hk)
  ·exact Yf (h1 C' hk)
structure Wf (f:Nat)(bs:List Str)(t:Tr)(u:Int):Prop where
 l:t.lok
 c:Cd (f+1) bs t
 s:(t.size:Int)<=1+6*u
 k:t.cost<=5*t.size
section
variable {C C':Hw}{Q:WK}{χ:WX}{n:Nat}{a l nd:Addr}{m:Int}{kv:List (Zz×T)}{G:Ev}{bs:List Str}{w:Kd}{mw:Nat}
def qj {f:Nat}(h:Dl C a l m)(hw:Pk mw w)(hmw:mw<=40)(hn:uq C nd kv)(na:nd≠a)(nl:nd≠l)(hG:sQ kv G bs)(hl:kv.length<=10000)
  (q:∀t C' p,Ez a l C C'->Dl C' a l m->C p=none->C' p=some (.lst [Zy w])->HT G t w [w]->Wf f bs t 0->Q (.tup [tt t,.ref p]) C'):Ya pr (n+3) Bt [.ref a,Zy w,.ref nd] C Q χ:=by
 refine Cg rfl ?_
 unfold R9 Q6
 refine⟨_,rfl,_,_,rfl,hn,?_⟩
 have x1:Ez a l C (up C nd (.fdic kv)):=λc o n1 n2 e=>by
  by_cases hc:c=nd
  ·subst hc
   rcases hn with hn | hn
   ·rw[hn] at e;cases e;exact .inr ⟨kv,rfl,Ze⟩
   ·rw[hn] at e;cases e;exact .inl Ze
  ·rw[Zg hc];exact .inl e
 have D1:Dl (up C nd (.fdic kv)) a l m:=h.at (λo e=>by rw[Zg na.symm];exact e) λo e=>by rw[Zg nl.symm];exact e
 have N1:up C nd (.fdic kv) nd=some (.fdic kv):=Ze
 have xw:∀p,up C nd (.fdic kv) p=none->C p=none:=λp hp=>by
  by_cases hc:p=nd
  ·rw[hc,Ze] at hp;cases hp
  ·rw[Zg hc] at hp;exact hp
 generalize up C nd (.fdic kv)=C1 at x1 D1 N1 xw
 have hl2:(WL.rI kv).length<=10000:=by unfold WL.rI;rw[XI];exact hl
 refine tZ (f:=λt=>match t with | .tup [.str x,k]=>if WL.eqT k (Zy w)=true then some (.str x) else none | _=>none) N1 (Vq (by omega)) (λt ht R N h1 h2=>?_) ?_
 ·obtain⟨e,he,rfl⟩:=XR.mp ht
  obtain⟨x,k,rfl,g1,g2,g3⟩:=hG e he
  refine⟨_,rfl,_,_,rfl,_,_,rfl,rfl,_,rfl,_,rfl,Kq rfl (Xy g3 (by decide)) (Xy hw (by show mw<=100;omega)) ⟨_,rfl,?_⟩⟩
  refine Xr (λc=>⟨_,rfl,h1 _ ?_⟩) λc=>h2 ?_
  ·show(if WL.eqT (Zy k) (Zy w)=true then _ else _)=_
   rw[XY c];rfl
  ·show(if WL.eqT (Zy k) (Zy w)=true then _ else _)=_
   rw[XX (by rw[c];decide)]
 have hf:∃fs:List Str,((WL.rI kv).filterMap λt=>match t with | .tup [.str x,k]=>if WL.eqT k (Zy w)=true then some (.str x) else none | _=>none)=fs.map T.str/\(∀x∈fs,G x=some w/\x∈bs)/\fs.length<=10000:=by
  have key:∀kv:List (Zz×T),sQ kv G bs->∃fs:List Str,((WL.rI kv).filterMap λt=>match t with | .tup [.str x,k]=>if WL.eqT k (Zy w)=true then some (.str x) else none | _=>none)=fs.map T.str/\(∀x∈fs,G x=some w/\x∈bs)/\fs.length<=kv.length:=by
   intro kv
   induction kv with
   | nil=>exact λ_=>⟨[],rfl,λx h=>(by cases h),XE _⟩
   | cons e r ih=>
    intro hG
    obtain⟨fs,i1,i2,i3⟩:=ih λe he=>hG e (XV _ he)
    obtain⟨x,k,rfl,g1,g2,g3⟩:=hG e (List.mem_cons_self ..)
    by_cases c:WL.eqT (Zy k) (Zy w)=true
    ·refine⟨x::fs,?_,λy hy=>?_,by rw[YF,YF];omega⟩
     ·show List.filterMap _ (.tup [.str x,Zy k]::WL.rI r)=_
      rw[List.filterMap_cons_some (b:=.str x) (by show(if WL.eqT (Zy k) (Zy w)=true then _ else _)=_;rw[XY c]),i1];rfl
     ·rcases List.mem_cons.mp hy with rfl | hy
      ·exact⟨by rw[g1,G2 c],g2⟩
      ·exact i2 y hy
    ·refine⟨fs,?_,i2,by rw[YF];omega⟩
     show List.filterMap _ (.tup [.str x,Zy k]::WL.rI r)=_
     rw[List.filterMap_cons_none (by show(if WL.eqT (Zy k) (Zy w)=true then _ else _)=_;rw[XX c]),i1]
  obtain⟨fs,i1,i2,i3⟩:=key kv hG
  exact⟨fs,i1,i2,by omega⟩
 obtain⟨fs,e1,e2,e3⟩:=hf
 rw[e1]
 intro p1 hp1
 have x2:=x1.new (o:=.lst (fs.map T.str)) hp1
 have D2:=D1.ex (Ex.new (o:=.lst (fs.map T.str)) hp1)
 have P2:up C1 p1 (.lst (fs.map T.str)) p1=some (.lst (fs.map T.str)):=Ze
 obtain⟨n1a,n1l⟩:=D1.ne hp1
 have fr2:∀p,up C1 p1 (.lst (fs.map T.str)) p=none->C p=none:=λp hp=>xw p ((Ex.new hp1).free hp)
 generalize up C1 p1 (.lst (fs.map T.str))=C2 at x2 D2 P2 fr2
 have fin:∀(t:Tr) (C3:Hw),Ez a l C2 C3->Dl C3 a l m->HT G t w [w]->Wf f bs t 0->∀p,C3 p=none->Q (.tup [tt t,.ref p]) (up C3 p (.lst [Zy w])):=λt C3 y3 D3 ht wf p hp=>by
  obtain⟨n1,n2⟩:=D3.ne hp
  exact q t _ p ((x2.trans y3).new hp) (D3.ex (Ex.new hp)) (fr2 p (y3.free hp n1 n2)) Ze ht wf
 have wf0:∀t:Tr,t.lok->t.scs=[]->(∀x,t=.nm x->x∈bs)->t.size=1->t.cost<=5->Wf f bs t 0:=λt a b c d e=>⟨a,⟨c,λz hz=>by rw[b] at hz;cases hz⟩,by rw[d];decide,by rw[d];exact e⟩
 have t1:∀C3,Ez a l C2 C3->Dl C3 a l m->(∃k,w=Wj k)->Kp (Ya pr (n+2)) {nx:=λ_ C'=>Q .non C',rt:=Q,xc:=χ} [some (.ref a),some (Zy w),some (.ref nd),some (.ref p1)] C3:=λC3 y3 D3 hk=>by
  obtain⟨k,rfl⟩:=hk
  exact⟨XO _,ZNB rfl,_,rfl,ZNB rfl,λp hp=>⟨ZNB rfl,fin (.sh0 "Nil") C3 y3 D3 (.mk .nil .nil) (wf0 _ trivial rfl (λx e=>by cases e) rfl (by decide)) p hp⟩⟩
 have t3:∀C3,Ez a l C2 C3->Dl C3 a l m->(w=Vj\/w=Qm\/∃k,w=Wj k)->Ko (Ya pr (n+2)) {nx:=λ_ C'=>Q .non C',rt:=Q,xc:=χ} [some (.ref a),some (Zy w),some (.ref nd),some (.ref p1)] C3:=λC3 y3 D3 hk=>by
  have fw:Yk (Zy w):=Xy hw (by show mw<=100;omega)
  refine⟨_,rfl,ZNB rfl,Kq (w:=Vj) rfl fw (by rfl) ⟨_,rfl,Xr (λc=>?_) λc=>?_⟩⟩
  ·cases G2 c
   refine⟨_,rfl,⟨by decide,by decide,by decide⟩,?_⟩
   dsimp only[Zq,Zr,eC]
   refine J6 (n:=n+1) D3 (by decide) (Qk (by decide) (by decide)) λr C4 x4 D4 r0 r1=>?_
   exact⟨ZNB rfl,_,rfl,ZNB rfl,λp hp=>⟨ZNB rfl,fin (.num r) C4 (y3.trans x4.ez) D4 (.mk .num .nil) (wf0 _ trivial rfl (λx e=>by cases e) rfl (by show 3<=5;decide)) p hp⟩⟩
  ·refine⟨_,rfl,ZNB rfl,Kq (w:=Qm) rfl fw (by rfl) ⟨_,rfl,Xr (λc2=>?_) λc2=>?_⟩⟩
   ·cases G2 c2
    refine⟨ZNB rfl,λp3 hp3=>⟨_,rfl,?_⟩⟩
    dsimp only[Zq,Zr,eC]
    have D3':=D3.ex (Ex.new (o:=.lst [.str "No",.str "Yes"]) hp3)
    refine J6 (n:=n+1) D3' (by decide) (Qk (by decide) (by decide)) λr C4 x4 D4 r0 r1=>?_
    have P4:=x4 p3 _ (D3.ne hp3).1 (D3.ne hp3).2 Ze
    have y4:Ez a l C2 C4:=(y3.new hp3).trans x4.ez
    have hr:r=0\/r=1:=by omega
    rcases hr with rfl | rfl
    ·exact⟨_,_,P4,Zv,XO _,ZNB rfl,_,rfl,ZNB rfl,λp hp=>⟨ZNB rfl,fin (.sh0 "No") C4 y4 D4 (.mk .no .nil) (wf0 _ trivial rfl (λx e=>by cases e) rfl (by show 3<=5;decide)) p hp⟩⟩
    ·exact⟨_,_,P4,Ym,XO _,ZNB rfl,_,rfl,ZNB rfl,λp hp=>⟨ZNB rfl,fin (.sh0 "Yes") C4 y4 D4 (.mk .yes .nil) (wf0 _ trivial rfl (λx e=>by cases e) rfl (by show 3<=5;decide)) p hp⟩⟩
   ·refine t1 C3 y3 D3 ?_
    rcases hk with rfl | rfl | hk
    ·cases c
    ·cases c2
    ·exact hk
 have t4:∀C3,Ez a l C2 C3->Dl C3 a l m->Rz (Ya pr (n+2)) {nx:=λ_ C'=>Q .non C',rt:=Q,xc:=χ} [some (.ref a),some (Zy w),some (.ref nd),some (.ref p1)] C3:=λC3 y3 D3=>by
  unfold Rz Ug
  dsimp only
  refine rA (λk C'=>Ez a l C2 C'/\Dl C' a l m/\(k=false->w=Vj\/w=Qm\/∃k,w=Wj k)) (λK χ' hK=>?_) (λC4 ⟨y4,D4,_⟩=>?_) (λC4 ⟨y4,D4,h4⟩=>t3 C4 y4 D4 (h4 rfl))
  ·obtain⟨g,ws,e⟩:∃g ws,Zy w=.tup (.str g::ws):=by cases w<;>exact⟨_,_,rfl⟩
   have hin:WL.inL (.str g) [.str "to",.str "pair"]=false->w=Vj\/w=Qm\/∃k,w=Wj k:=λhh=>by
    match mw,hw with
    | mw+1,hw=>
     rcases hw with rfl | rfl | ⟨x,rfl,_⟩ | ⟨x,y,rfl,_,_⟩ | ⟨x,y,rfl,_,_⟩
     ·exact .inl rfl
     ·exact .inr (.inl rfl)
     ·exact .inr (.inr ⟨_,rfl⟩)
     ·cases e
      exact absurd hh (by decide+kernel)
     ·cases e
      exact absurd hh (by decide+kernel)
   rw[e]
   refine⟨_,rfl,_,Zv,ZNB rfl,λp2 hp2=>⟨_,Ze,by rfl,by rfl,_,rfl,Xr (λc=>hK true _ ⟨y3.new hp2,D3.ex (Ex.new hp2),λe=>by cases e⟩) (λc=>?_)⟩⟩
   refine⟨_,rfl,?_⟩
   dsimp only[Zq,Zr,eC]
   exact J6 (n:=n+1) (D3.ex (Ex.new hp2)) (by decide) (Qk (by decide) (by decide)) λr C4 x4 D4 r0 r1=>iX rfl ⟨_,rfl,hK _ _ ⟨(y3.new hp2).trans x4.ez,D4,λ_=>hin c⟩⟩
  ·refine⟨_,rfl,?_⟩
   dsimp only[Zq,Zr,eC]
   exact K0 (n:=n) D4 λx C5 x5 D5=>⟨ZNB rfl,_,rfl,ZNB rfl,λp hp=>⟨ZNB rfl,fin (.stop x) C5 (y4.trans x5.ez) D5 (.mk .stop .nil) (wf0 _ trivial rfl (λx e=>by cases e) rfl (by show 3<=5;decide)) p hp⟩⟩
 dsimp only[Aa]
 refine rA (λk C'=>Ez a l C2 C'/\Dl C' a l m/\(k=true->0<fs.length)) (λK χ' hK=>?_) (λC3 ⟨y3,D3,h3⟩=>?_) (λC3 ⟨y3,D3,_⟩=>t4 C3 y3 D3)
 ·refine⟨_,rfl,_,rfl,_,P2,_,rfl,Xr (λc=>?_) (λc=>hK false _ ⟨Ez.refl,D2,λe=>by cases e⟩)⟩
  refine⟨_,rfl,?_⟩
  dsimp only[Zq,Zr,eC]
  exact J6 (n:=n+1) D2 (by decide) (Qk (by decide) (by decide)) λr C4 x4 D4 r0 r1=>⟨_,rfl,hK _ _ ⟨x4.ez,D4,λ_=>by have:=of_decide_eq_true c;rw[XI] at this;omega⟩⟩
 ·have hlen:=h3 rfl
  have P3:=y3.lst P2 n1a n1l
  refine⟨_,rfl,_,rfl,_,rfl,_,rfl,_,P3,?_⟩
  dsimp only[Zq,Zr,eC]
  refine J6 (n:=n+1) D3 (by rw[XI];omega) (Qk (by rw[XI];omega) (by rw[XI];omega)) λr C4 x4 D4 r0 r1=>?_
  obtain⟨v,h1,h2⟩:=zT (xs:=fs.map T.str) (i:=r) r0 r1
  obtain⟨x,hx,rfl⟩:=XR.mp h2
  have P4:=x4 _ _ n1a n1l P3
  exact⟨_,_,P4,h1,ZNB rfl,_,rfl,ZNB rfl,λp hp=>⟨ZNB rfl,fin (.nm x) C4 (y3.trans x4.ez) D4 (.mk (.nm (e2 x hx).1) .nil) (wf0 _ trivial rfl (λy e=>by cases e;exact(e2 x hx).2) rfl (by show 3<=5;decide)) p hp⟩⟩
end
end K23
namespace Fn
open PySem WL
def HT.head {G:Ev}{t:Tr}{k:Kd}{R:List Kd}(h:HT G t k R):∃R',R=k::R':=by cases h;exact⟨_,rfl⟩
def HTs.mk2 {G H:Ev}{t s:Tr}{k l:Kd}{r q:List Kd}(a:HT G t k r)(b:HT H s l q):HTs [(G,t,k),(H,s,l)] (r++q):=by
 have:=HTs.cons a (HTs.cons b HTs.nil)
 rw[YK] at this
 exact this
def HTs.mk1 {G:Ev}{t:Tr}{k:Kd}{r:List Kd}(a:HT G t k r):HTs [(G,t,k)] r:=by
 have:=HTs.cons a HTs.nil
 rw[YK] at this
 exact this
def jt (θ1 θ2:Nat->Kd)(s:Kd):Nat->Kd:=λi=>if i<1000 then θ1 i else if i<2000 then θ2 (i-1000) else s
def fi (R:List Kd):Prop:=∀k∈R,∀i∈k.ops,i<1000
section
variable {θ1 θ2:Nat->Kd}{s:Kd}{R R1 R2:List Kd}{t1 t2:Tr}{m:Nat}{z:Str}
structure df (m:Nat)(t1 t2:Tr)(R1 R2:List Kd):Prop where
 c1:Cd m [] t1
 c2:Cd m [] t2
 b1:Ax t1 R1
 b2:Ax t2 R2
 l1:fi R1
 l2:fi R2
def eG (t:Tr)(R:List Kd):Prop:=(∃k,HT G0 t k R)/\∀k' R',HT G0 t k' R'->∃θ,R'=R.map (Kd.put θ)
end
end Fn
namespace K23
open PySem PySem.Spec PyProof.Rows L2 WL Fn
def jw {t:Tr}{G:Ev}{k:Kd}{cs:List (Ev×Tr×Kd)}(h:Jg t G k cs):t.size=1+(cs.map λc=>c.2.1.size).sum:=by
 cases h with
 | lt=>show 1+_=1+_;rw[List.map_append,List.sum_append,List.map_map];simp[Function.comp_def]
 | _=>simp[Tr.size]
mutual
def HT.len {G:Ev}{t:Tr}{k:Kd}{R:List Kd}:HT G t k R->R.length=t.size
 | .mk r h=>by rw[jw r,<-HTs.len h,YF];omega
def HTs.len {cs:List (Ev×Tr×Kd)}{R:List Kd}:HTs cs R->R.length=(cs.map λc=>c.2.1.size).sum
 | .nil=>rfl
 | .cons a b=>by rw[List.length_append,HT.len a,HTs.len b];rfl
end
def zj {f:Nat}{k:Kd}(h:Pk (30-f) k):Pk 30 k:=Jr (by omega) h
def nv {f:Nat}{k:Kd}(h:Pk (30-(f+1)) k):Pk (30-f) k:=Jr (by omega) h
def iD {f:Nat}{k:Kd}(hf:f<=22)(h:Pk 5 k):Pk (30-f) k:=Jr (by omega) h
def iC {f:Nat}{k w:Kd}(hf:f+1<=22)(h:Pk 5 k)(g:Pk (30-(f+1)) w):Pk (30-f) (xv k w):=by
 have e:30-f=(30-(f+1))+1:=by omega
 rw[e]
 exact .inr (.inr (.inr (.inr ⟨_,_,rfl,Jr (by omega) h,g⟩)))
def fO {f:Nat}{k:Kd}(hf:f<=22)(h:Pk 5 k):Pk (30-f) (Wj k):=Jr (m:=6) (by omega) (.inr (.inr (.inl ⟨_,rfl,h⟩)))
def fN {f:Nat}{k l:Kd}(hf:f<=22)(h:Pk 5 k)(g:Pk 5 l):Pk (30-f) (z0 k l):=Jr (m:=6) (by omega) (.inr (.inr (.inr (.inl ⟨_,_,rfl,h,g⟩))))
structure Sx (f:Nat)(C:Hw)(a l:Addr)(m:Int)(nd:Addr)(kv:List (Zz×T))(G:Ev)(bs:List Str):Prop where
 d:Dl C a l m
 m0:0<=m
 m40:m<=40
 rd:uq C nd kv
 na:nd≠a
 nl:nd≠l
 g:sQ kv G bs
 kl:kv.length+10*f<=5000
 f22:f<=22
structure Pu (C C':Hw)(a l:Addr)(m m':Int)(p:Addr)(R:List Kd):Prop where
 ez:Ez a l C C'
 d:Dl C' a l m'
 m0:0<=m'
 ml:m'<=m
 fr:C p=none
 p:C' p=some (.lst (R.map Zy))
 r:∀r∈R,Pk 30 r
section
variable {f n:Nat}{C C' C1:Hw}{Q:WK}{χ:WX}{a l nd p pb:Addr}{m m':Int}{kv:List (Zz×T)}{G:Ev}{bs:List Str}{w w1 w2:Kd}{R R1 R2:List Kd}{u u1 u2 u3:Int}{t t1 t2 t3 b:Tr}{x y:Str}
def Sx.on (s:Sx f C a l m nd kv G bs)(x:Ez a l C C')(d:Dl C' a l m')(h0:0<=m')(h1:m'<=m):Sx f C' a l m' nd kv G bs:=⟨d,h0,by have:=s.m40;omega,x.rd s.rd s.na s.nl,s.na,s.nl,s.g,s.kl,s.f22⟩
def Sx.ex (s:Sx f C a l m nd kv G bs)(x:Ex C C'):Sx f C' a l m nd kv G bs:=s.on (Ex.ez x) (s.d.ex x) s.m0 (XW _)
def Sx.dn (s:Sx (f+1) C a l m nd kv G bs):Sx f C a l m nd kv G bs:=⟨s.d,s.m0,s.m40,s.rd,s.na,s.nl,s.g,by have:=s.kl;omega,by have:=s.f22;omega⟩
def Pu.len (g:Pu C C' a l m m' p R)(h:HT G t w R)(hw:Wf f bs t (m-m'))(s:Sx f C1 a l m nd kv G bs):R.length<=241:=by
 have h1:=HT.len h
 have h2:=hw.s
 have h3:=s.m40
 have h4:=g.m0
 omega
def Pu.ne (g:Pu C C' a l m m' p R)(d:Dl C a l m):p≠a/\p≠l:=d.ne g.fr
def Ar (f:Nat):Prop:=∀{n:Nat} {C:Hw} {Q:WK} {χ:WX} {a l nd:Addr} {m:Int} {kv:List (Zz×T)} {G:Ev} {bs:List Str} {w:Kd},Sx f C a l m nd kv G bs->Pk (30-f) w->
 (∀t R C' p m',Pu C C' a l m m' p R->HT G t w R->Wf f bs t (m-m')->Q (.tup [tt t,.ref p]) C')->Ya pr (n+3*f+8) Qn [.ref a,Zy w,.ref nd,.int f] C Q χ
def nD {T:Tr}(h1:Wf f bs t1 u1)(h2:Wf f bs t2 u2)(hl:T.lok)(hs:T.scs=[([],t1),([],t2)])(hn:∀x,T≠.nm x)(hz:T.size=1+(t1.size+t2.size))(hc:T.cost=3+(t1.cost+t2.cost))(hu:u=u1+u2+1):Wf (f+1) bs T u:=by
 refine⟨hl,⟨λx e=>absurd e (hn x),λz hm=>?_⟩,?_,?_⟩
 ·rw[hs] at hm
  simp only[ZM,ZN,or_false] at hm
  rcases hm with rfl | rfl
  ·rw[YK];exact h1.c
  ·rw[YK];exact h2.c
 ·have:=h1.s;have:=h2.s;omega
 ·have:=h1.k;have:=h2.k;omega
def nC (h:Wf f (bs++[x]) b u1)(hu:u=u1+1):Wf (f+1) bs (.fn x b) u:=by
 refine⟨h.l,⟨λx e=>(by cases e),λz hm=>?_⟩,?_,?_⟩
 ·rw[XQ.mp hm];exact h.c
 ·have:=h.s;show((1+b.size:Nat):Int)<=_;omega
 ·have:=h.k;show 3+b.cost<=5*(1+b.size);omega
def rT (h1:Wf f bs t1 u1)(h2:Wf f bs t2 u2)(h3:Wf f bs t3 u3)(hu:u=u1+u2+u3+1):Wf (f+1) bs (.chT t1 t2 t3) u:=by
 refine⟨⟨h1.l,h2.l,h3.l⟩,⟨λx e=>(by cases e),λz hm=>?_⟩,?_,?_⟩
 ·simp only[Tr.scs,List.mem_cons,List.not_mem_nil,or_false] at hm
  rcases hm with rfl | rfl | rfl
  ·rw[YK];exact h1.c
  ·rw[YK];exact h2.c
  ·rw[YK];exact h3.c
 ·have:=h1.s;have:=h2.s;have:=h3.s;show((1+(t1.size+(t2.size+t3.size)):Nat):Int)<=_;omega
 ·have:=h1.k;have:=h2.k;have:=h3.k;show 3+(t1.cost+(t2.cost+t3.cost))<=5*(1+(t1.size+(t2.size+t3.size)));omega
def rV (h1:Wf f bs t1 u1)(h2:Wf f bs t2 u2)(h3:Wf f (bs++[x,y]) t3 u3)(hu:u=u1+u2+u3+1):Wf (f+1) bs (.chL t1 t2 x y t3) u:=by
 refine⟨⟨h1.l,h2.l,h3.l⟩,⟨λx e=>(by cases e),λz hm=>?_⟩,?_,?_⟩
 ·simp only[Tr.scs,List.mem_cons,List.not_mem_nil,or_false] at hm
  rcases hm with rfl | rfl | rfl
  ·rw[YK];exact h1.c
  ·rw[YK];exact h2.c
  ·exact h3.c
 ·have:=h1.s;have:=h2.s;have:=h3.s;show((1+(t1.size+(t2.size+t3.size)):Nat):Int)<=_;omega
 ·have:=h1.k;have:=h2.k;have:=h3.k;show 3+(t1.cost+(t2.cost+t3.cost))<=5*(1+(t1.size+(t2.size+t3.size)));omega
def rU (h1:Wf f bs t1 u1)(h2:Wf f (bs++[x,y]) t2 u2)(hu:u=u1+u2+1):Wf (f+1) bs (.chP t1 x y t2) u:=by
 refine⟨⟨h1.l,h2.l⟩,⟨λx e=>(by cases e),λz hm=>?_⟩,?_,?_⟩
 ·simp only[Tr.scs,List.mem_cons,List.not_mem_nil,or_false] at hm
  rcases hm with rfl | rfl
  ·rw[YK];exact h1.c
  ·exact h2.c
 ·have:=h1.s;have:=h2.s;show((1+(t1.size+t2.size):Nat):Int)<=_;omega
 ·have:=h1.k;have:=h2.k;show 3+(t1.cost+t2.cost)<=5*(1+(t1.size+t2.size));omega
def sB {k:Kd}:bnd [x] [k] G x=some k:=by
 unfold bnd
 have e:(([x]:List Str).zip [k]).reverse=[(x,k)]:=by simp
 rw[e,List.lookup_cons,XU]
def sw {k:Kd}(h:y≠x):bnd [x] [k] G y=G y:=by
 unfold bnd
 have e:(([x]:List Str).zip [k]).reverse=[(x,k)]:=by simp
 rw[e,List.lookup_cons,beq_eq_false_iff_ne.mpr h];rfl
def tE {k:Kd}(h:sQ kv G bs)(hk:Pk 40 k):sQ (Y0 kv (.inr x) (Zy k)) (bnd [x] [k] G) (bs++[x]):=λe he=>by
 rcases yz he with rfl | ⟨he,hn⟩
 ·exact⟨x,k,rfl,sB,by simp,hk⟩
 ·obtain⟨y,k',rfl,g1,g2,g3⟩:=h e he
  exact⟨y,k',rfl,by rw[sw λz=>hn (by rw[z])];exact g1,List.mem_append_left _ g2,g3⟩
def yl (ih:Ar f)(s:Sx f C a l m nd kv G bs)(h1:Pk (30-f) w1)(h2:Pk (30-f) w2)(hb:C pb=some (.lst [Zy w1,Zy w2]))(na:pb≠a)(nl:pb≠l)
  (q:∀t1 t2 R1 R2 C' p m' u1 u2,Pu C C' a l m m' p (R1++R2)->HT G t1 w1 R1->HT G t2 w2 R2->Wf f bs t1 u1->Wf f bs t2 u2->m-m'=u1+u2->R1.length+R2.length<=600->Q (.tup [tt t1,tt t2,.ref p]) C'):Ya pr (n+3*f+9) Iw [.ref a,.ref pb,.ref nd,.int f] C Q χ:=by
 refine A2 rfl ?_
 unfold Oe O8
 refine⟨_,rfl,_,rfl,_,_,hb,Zv,_,rfl,_,rfl,?_⟩
 dsimp only[Zq]
 refine ih s h1 λt1 R1 C1 p1 m1 g1 H1 W1=>?_
 have s1:=s.on g1.ez g1.d g1.m0 g1.ml
 refine⟨_,rfl,_,rfl,_,_,g1.ez.lst hb na nl,Ym,_,rfl,_,rfl,?_⟩
 dsimp only[Zq]
 refine ih s1 h2 λt2 R2 C2 p2 m2 g2 H2 W2=>?_
 obtain⟨n1,n2⟩:=g1.ne s.d
 have l1:=g1.len H1 W1 s
 have l2:=g2.len H2 W2 s1
 refine⟨_,rfl,_,Zv,_,rfl,_,Zv,_,rfl,_,Ym,_,rfl,_,Ym,_,_,g2.ez.lst g1.p n1 n2,g2.p,Y3 (by rw[XI,XI];omega),λp hp=>⟨ZNB rfl,?_⟩⟩
 obtain⟨n3,n4⟩:=g2.d.ne hp
 refine q t1 t2 R1 R2 _ p m2 (m-m1) (m1-m2) ⟨(g1.ez.trans g2.ez).new hp,g2.d.ex (Ex.new hp),g2.m0,Int.le_trans g2.ml g1.ml,g1.ez.free (g2.ez.free hp n3 n4) n3 n4,by rw[Ze,XL],λr hr=>?_⟩ H1 H2 W1 W2 (by omega) (by omega)
 rcases XS.mp hr with hr | hr
 ·exact g1.r r hr
 ·exact g2.r r hr
def Ar.at (ih:Ar f){N:Nat}(hN:3*f+8<=N)(s:Sx f C a l m nd kv G bs)(hw:Pk (30-f) w)(q:∀t R C' p m',Pu C C' a l m m' p R->HT G t w R->Wf f bs t (m-m')->Q (.tup [tt t,.ref p]) C'):Ya pr N Qn [.ref a,Zy w,.ref nd,.int f] C Q χ:=by
 obtain⟨n,rfl⟩:∃n,N=n+3*f+8:=⟨N-(3*f+8),by omega⟩
 exact ih s hw q
def Pu.back {m1:Int}(g:Pu C1 C' a l m1 m' p R)(x:Ez a l C C1)(d:Dl C1 a l m1)(hm:m1<=m):Pu C C' a l m m' p R:=by
 obtain⟨n1,n2⟩:=d.ne g.fr
 exact⟨x.trans g.ez,g.d,g.m0,Int.le_trans g.ml hm,x.free g.fr n1 n2,g.p,g.r⟩
def Ql {i j:Nat}{k:Int}{ts:List T}{pp:Addr}{τ:Sw}(hi:τ[i]?=some (some (Zy w)))(hj:τ[j]?=some (some (.tup ts)))(hk:Pe ts k=some (.ref pp))(g:Pu C C' a l m m' pp R)(hw:Pk 30 w)(hl:R.length<=5000)
  (q:∀C'' p,Pu C C'' a l m m' p (w::R)->Ex C' C''->Q (.ref p) C''):Jf Fo (Ag (Zr (Yj i) Zq)) (Jf Dy (Yj j) (eC (.int k))) τ C' Q χ:=by
 refine⟨_,hi,ZNB rfl,λp1 hp1=>⟨_,hj,_,hk,?_⟩⟩
 have x1:=Ex.new (o:=.lst [Zy w]) hp1
 refine⟨_,_,Ze,x1 _ _ g.p,Y3 (by rw[XI];show 1+_<=_;omega),λp2 hp2=>?_⟩
 have x2:=x1.trans (Ex.new (o:=.lst ([Zy w]++R.map Zy)) hp2)
 have hp2':C' p2=none:=x1.free hp2
 obtain⟨n1,n2⟩:=g.d.ne hp2'
 refine q _ p2 ⟨g.ez.trans (Ex.ez x2),g.d.ex x2,g.m0,g.ml,g.ez.free hp2' n1 n2,Ze,λr hr=>?_⟩ x2
 rcases List.mem_cons.mp hr with rfl | hr
 ·exact hw
 ·exact g.r r hr
def gP {t1 t2 t3:T}:¬(HT.sIx [t1,t2,t3].length 0 none=0/\HT.sIx [t1,t2,t3].length [t1,t2,t3].length (some 2)=[t1,t2,t3].length):=λh=>absurd h.2 (by show ¬(HT.sIx 3 3 (some 2)=3);decide)
def m6 (ih:Ar f)(s:Sx (f+1) C a l m nd kv G bs)(hw:Pk (30-(f+1)) w)(q:∀t R C' p m',Pu C C' a l m m' p R->HT G t w R->Wf (f+1) bs t (m-m'+1)->Q (.tup [tt t,.ref p]) C'):Ya pr (n+3*f+10) Ix [.ref a,Zy w,.ref nd,.int f] C Q χ:=by
 refine A3 (n:=n+3*f+9) rfl ?_
 unfold Of O9
 have h30:Pk 30 w:=zj hw
 have s0:=s.dn
 have f22:=s.f22
 have dz:∀(C1:Hw) (o:Str),Ez a l C C1->Dl C1 a l m->w=.k0 (Bf o)->∀{D:We} {x5 x6 x7 x8:Option T},D.rt=Q->D.xc=χ->(Ti (Mx (Qq (Ya pr (n+3*f+9)) 27 (Zr (Yj 0) (Zr (Ag (Zr (N8 (Zr (eC (T.str "num")) Zq)) (Zr (N8 (Zr (eC (T.str "num")) Zq)) Zq))) (Zr (Yj 2) (Zr (Yj 3) Zq))))) (Aa 5))
   (Eh (N8 (Zr (N8 (Zr (eC (T.str "does")) (Zr (Yj 4) (Zr (Jf Dy (Yj 5) (eC (T.int 0))) (Zr (Jf Dy (Yj 5) (eC (T.int 1))) Zq))))) (Zr (Jf Fo (Ag (Zr (Yj 1) Zq)) (Jf Dy (Yj 5) (eC (T.int 2)))) Zq))))) D [some (.ref a),some (Zy w),some (.ref nd),some (.int f),some (.str o),x5,x6,x7,x8] C1:=by
  intro C1 o y1 D1 ho D x5 x6 x7 x8 hrt hxc
  refine⟨_,rfl,ZNB rfl,ZNB rfl,ZNB rfl,λpb hpb=>⟨_,rfl,_,rfl,?_⟩⟩
  dsimp only[Zq]
  have y2:=y1.new (o:=.lst [Zy Vj,Zy Vj]) hpb
  have D2:=D1.ex (Ex.new (o:=.lst [Zy Vj,Zy Vj]) hpb)
  obtain⟨n1,n2⟩:=D1.ne hpb
  have hk:Pk (30-f) Vj:=Jr (m:=1) (by omega) (.inl rfl)
  refine yl (n:=n) ih (s0.on y2 D2 s.m0 (XW _)) hk hk Ze n1 n2 λt1 t2 R1 R2 C3 p3 m3 u1 u2 g3 H1 H2 W1 W2 hu hl=>?_
  refine⟨_,rfl,_,rfl,_,Zv,_,rfl,_,Ym,ZNB rfl,?_⟩
  refine Ql (w:=w) rfl rfl Vb (g3.back y2 D2 (XW _)) h30 (by rw[List.length_append];omega) λC4 p4 g4 _=>⟨ZNB rfl,?_⟩
  rw[hrt]
  refine q (.does o t1 t2) _ _ p4 m3 g4 ?_ (nD W1 W2 ⟨W1.l,W2.l⟩ rfl (λx e=>by cases e) rfl rfl (by omega))
  rw[ho]
  exact .mk .does (.mk2 H1 H2)
 match hm:30-(f+1),hw with
 | mw+1,hw=>
 have e30:30-f=mw+1+1:=by omega
 rcases hw with rfl | rfl | ⟨p0,rfl,h0⟩ | ⟨p0,q0,rfl,h0,h0'⟩ | ⟨p0,q0,rfl,h0,h0'⟩
 ·refine⟨_,rfl,_,Zv,Zx (v:=true) (by decide+kernel) ⟨_,rfl,Yf (Yf ?_)⟩⟩
  refine⟨ZNB rfl,λp1 hp1=>⟨_,rfl,?_⟩⟩
  dsimp only[Zq,Zr,eC]
  have D1:=s.d.ex (Ex.new (o:=.lst [.str "+",.str "-",.str "*"]) hp1)
  refine J6 (n:=n+3*f+8) D1 (by decide) (Qk (by decide) (by decide)) λr C2 x2 D2 r0 r1=>?_
  have P2:=x2 p1 _ (s.d.ne hp1).1 (s.d.ne hp1).2 Ze
  have y2:Ez a l C C2:=(Ez.refl.new hp1).trans x2.ez
  have hr:∃o,Pe [T.str "+",.str "-",.str "*"] r=some (.str o)/\Vj=.k0 (Bf o):=by
   have:r=0\/r=1\/r=2:=by omega
   rcases this with rfl | rfl | rfl
   ·exact⟨_,Zv,congrArg Kd.k0 (show("num":Str)=Bf "+" by decide+kernel)⟩
   ·exact⟨_,Ym,congrArg Kd.k0 (show("num":Str)=Bf "-" by decide+kernel)⟩
   ·exact⟨_,Vb,congrArg Kd.k0 (show("num":Str)=Bf "*" by decide+kernel)⟩
  obtain⟨o,ho,ho2⟩:=hr
  refine⟨_,_,P2,ho,?_⟩
  refine⟨_,rfl,_,Zv,Zx (v:=false) (by decide+kernel) ⟨_,rfl,Zl ?_⟩⟩
  exact dz C2 o y2 D2 ho2 rfl rfl
 ·refine⟨_,rfl,_,Zv,Zx (v:=false) (by decide+kernel) ⟨_,rfl,Zl ⟨_,rfl,_,Zv,Zx (v:=true) (by decide+kernel) ⟨_,rfl,Yf ?_⟩⟩⟩⟩
  refine⟨ZNB rfl,λp1 hp1=>⟨_,rfl,?_⟩⟩
  dsimp only[Zq,Zr,eC]
  have D1:=s.d.ex (Ex.new (o:=.lst [.str "+",.str "-",.str "*"]) hp1)
  refine J6 (n:=n+3*f+8) D1 (by decide) (Qk (by decide) (by decide)) λr C2 x2 D2 r0 r1=>?_
  have P2:=x2 p1 _ (s.d.ne hp1).1 (s.d.ne hp1).2 Ze
  have y2:Ez a l C C2:=(Ez.refl.new hp1).trans x2.ez
  obtain⟨v,ho,_⟩:=zT (xs:=[T.str "+",.str "-",.str "*"]) (i:=r) r0 r1
  refine⟨_,_,P2,ho,?_⟩
  refine⟨_,rfl,_,Zv,Zx (v:=true) (by decide+kernel) ⟨_,rfl,Yf ?_⟩⟩
  refine⟨ZNB rfl,λp3 hp3=>⟨_,rfl,?_⟩⟩
  dsimp only[Zq,Zr,eC]
  have D3:=D2.ex (Ex.new (o:=.lst [.str "<",.str "="]) hp3)
  refine J6 (n:=n+3*f+8) D3 (by decide) (Qk (by decide) (by decide)) λr C4 x4 D4 r0 r1=>?_
  have P4:=x4 p3 _ (D2.ne hp3).1 (D2.ne hp3).2 Ze
  have y4:Ez a l C C4:=(y2.new hp3).trans x4.ez
  have hr:∃o,Pe [T.str "<",.str "="] r=some (.str o)/\Qm=.k0 (Bf o):=by
   have:r=0\/r=1:=by omega
   rcases this with rfl | rfl
   ·exact⟨_,Zv,congrArg Kd.k0 (show("truth":Str)=Bf "<" by decide+kernel)⟩
   ·exact⟨_,Ym,congrArg Kd.k0 (show("truth":Str)=Bf "=" by decide+kernel)⟩
  obtain⟨o,ho,ho2⟩:=hr
  refine⟨_,_,P4,ho,?_⟩
  exact dz C4 o y4 D4 ho2 rfl rfl
 ·--a list
  refine⟨_,rfl,_,Zv,Zx (v:=false) (by decide+kernel) ⟨_,rfl,Zl ⟨_,rfl,_,Zv,Zx (v:=false) (by decide+kernel) ⟨_,rfl,Zl ?_⟩⟩⟩⟩
  refine⟨_,rfl,_,Zv,Zx (v:=false) (by decide+kernel) ⟨_,rfl,Zl ?_⟩⟩
  refine⟨_,rfl,_,Zv,Zx (v:=true) (by decide+kernel) ⟨_,rfl,Yf ?_⟩⟩
  refine⟨_,rfl,_,rfl,_,Ym,_,rfl,ZNB rfl,λpb hpb=>⟨_,rfl,_,rfl,?_⟩⟩
  dsimp only[Zq]
  have y2:=(Ez.refl (a:=a) (l:=l) (C:=C)).new (o:=.lst [Zy p0,Zy (Wj p0)]) hpb
  have D2:=s.d.ex (Ex.new (o:=.lst [Zy p0,Zy (Wj p0)]) hpb)
  obtain⟨n1,n2⟩:=s.d.ne hpb
  refine yl (n:=n) ih (s0.on y2 D2 s.m0 (XW _)) (by rw[e30];exact Jr (by omega) h0) (by rw[e30];exact Jr (m:=mw+1) (by omega) (.inr (.inr (.inl ⟨_,rfl,h0⟩)))) Ze n1 n2 λt1 t2 R1 R2 C3 p3 m3 u1 u2 g3 H1 H2 W1 W2 hu hl=>?_
  refine⟨_,rfl,_,rfl,gP,ZNB rfl,?_⟩
  refine Ql (w:=Wj p0) rfl rfl Vb (g3.back y2 D2 (XW _)) h30 (by rw[List.length_append];omega) λC4 p4 g4 _=>⟨ZNB rfl,?_⟩
  exact q (.sh2 "Cons" t1 t2) _ _ p4 m3 g4 (.mk .cons (.mk2 H1 H2)) (nD W1 W2 ⟨W1.l,W2.l⟩ rfl (λx e=>by cases e) rfl rfl (by omega))
 ·--a pair
  refine⟨_,rfl,_,Zv,Zx (v:=false) (by decide+kernel) ⟨_,rfl,Zl ⟨_,rfl,_,Zv,Zx (v:=false) (by decide+kernel) ⟨_,rfl,Zl ?_⟩⟩⟩⟩
  refine⟨_,rfl,_,Zv,Zx (v:=false) (by decide+kernel) ⟨_,rfl,Zl ?_⟩⟩
  refine⟨_,rfl,_,Zv,Zx (v:=false) (by decide+kernel) ⟨_,rfl,Zl ?_⟩⟩
  refine⟨_,rfl,_,rfl,_,Ym,_,rfl,_,Vb,ZNB rfl,λpb hpb=>⟨_,rfl,_,rfl,?_⟩⟩
  dsimp only[Zq]
  have y2:=(Ez.refl (a:=a) (l:=l) (C:=C)).new (o:=.lst [Zy p0,Zy q0]) hpb
  have D2:=s.d.ex (Ex.new (o:=.lst [Zy p0,Zy q0]) hpb)
  obtain⟨n1,n2⟩:=s.d.ne hpb
  refine yl (n:=n) ih (s0.on y2 D2 s.m0 (XW _)) (by rw[e30];exact Jr (by omega) h0) (by rw[e30];exact Jr (by omega) h0') Ze n1 n2 λt1 t2 R1 R2 C3 p3 m3 u1 u2 g3 H1 H2 W1 W2 hu hl=>?_
  refine⟨_,rfl,_,rfl,gP,ZNB rfl,?_⟩
  refine Ql (w:=z0 p0 q0) rfl rfl Vb (g3.back y2 D2 (XW _)) h30 (by rw[List.length_append];omega) λC4 p4 g4 _=>⟨ZNB rfl,?_⟩
  exact q (.sh2 "Pair" t1 t2) _ _ p4 m3 g4 (.mk .pair (.mk2 H1 H2)) (nD W1 W2 ⟨W1.l,W2.l⟩ rfl (λx e=>by cases e) rfl rfl (by omega))
 ·--a function
  refine⟨_,rfl,_,Zv,Zx (v:=false) (by decide+kernel) ⟨_,rfl,Zl ⟨_,rfl,_,Zv,Zx (v:=false) (by decide+kernel) ⟨_,rfl,Zl ?_⟩⟩⟩⟩
  refine⟨_,rfl,_,Zv,Zx (v:=true) (by decide+kernel) ⟨_,rfl,Yf ?_⟩⟩
  refine⟨_,rfl,_,_,rfl,s.rd,λpi hpi=>?_⟩
  have D1:=s.d.ex (Ex.new (o:=.dic kv) hpi)
  obtain⟨n1,n2⟩:=s.d.ne hpi
  refine⟨_,rfl,?_⟩
  dsimp only[Zq]
  refine K0 (n:=n+3*f+7) D1 λx C2 x2 D2=>?_
  have I2:=x2 pi _ n1 n2 Ze
  have y2:Ez a l C C2:=(Ez.refl.new hpi).trans x2.ez
  refine⟨_,rfl,_,Ym,_,rfl,_,rfl,_,_,_,rfl,rfl,I2,Yu (by have:=s.kl;omega),?_⟩
  have y3:Ez a l C (up C2 pi (.dic (Y0 kv (.inr x) (Zy p0)))):=λc o m1 m2 e=>by
   have hc:c≠pi:=λe'=>by rw[e',hpi] at e;cases e
   rw[Zg hc];exact y2 c o m1 m2 e
  have D3:Dl (up C2 pi (.dic (Y0 kv (.inr x) (Zy p0)))) a l m:=D2.at (λo e=>by rw[Zg n1.symm];exact e) λo e=>by rw[Zg n2.symm];exact e
  have h0'':Pk 40 p0:=Jr (by omega) h0
  have s3:Sx f (up C2 pi (.dic (Y0 kv (.inr x) (Zy p0)))) a l m pi (Y0 kv (.inr x) (Zy p0)) (bnd [x] [p0] G) (bs++[x]):=⟨D3,s.m0,s.m40,.inl Ze,n1,n2,tE s.g h0'',by have:=yt (kvs:=kv) (kk:=.inr x) (v:=Zy p0);have:=s.kl;omega,by omega⟩
  refine⟨_,rfl,_,rfl,_,Vb,_,rfl,_,rfl,?_⟩
  dsimp only[Zq]
  refine ih.at (by omega) s3 (by rw[e30];exact Jr (by omega) h0') λt R C4 p4 m4 g4 H4 W4=>?_
  have l4:=g4.len H4 W4 s3
  refine⟨_,rfl,_,rfl,_,Zv,ZNB rfl,?_⟩
  refine Ql (w:=xv p0 q0) rfl rfl Ym (g4.back y3 D3 (XW _)) h30 (by omega) λC5 p5 g5 _=>⟨ZNB rfl,?_⟩
  exact q (.fn x t) _ _ p5 m4 g5 (.mk .fn (.mk1 H4)) (nC W4 rfl)
end
section
variable {f n:Nat}{C C' C1 C2:Hw}{Q:WK}{χ:WX}{a l nd p pb:Addr}{m m' m1 m2:Int}{kv:List (Zz×T)}{G:Ev}{bs:List Str}{w w1 w2 k1 k2:Kd}{R R1 R2:List Kd}{u u1 u2 u3:Int}{t t1 t2 t3 b:Tr}{x y:Str}
def Pu.on (g:Pu C C1 a l m m1 p R)(hd:Dl C a l m)(x:Ez a l C1 C2)(d:Dl C2 a l m2)(h0:0<=m2)(h1:m2<=m1):Pu C C2 a l m m2 p R:=
 ⟨g.ez.trans x,d,h0,Int.le_trans h1 g.ml,g.fr,x.lst g.p (hd.ne g.fr).1 (hd.ne g.fr).2,g.r⟩
def Pu.app {p1 p2 p3:Addr}(g1:Pu C C1 a l m m1 p1 R1)(r2:∀r∈R2,Pk 30 r)(hp:C1 p3=none):Pu C (up C1 p3 (.lst (R1.map Zy++R2.map Zy))) a l m m1 p3 (R1++R2):=by
 obtain⟨n1,n2⟩:=g1.d.ne hp
 refine⟨g1.ez.new hp,g1.d.ex (Ex.new hp),g1.m0,g1.ml,g1.ez.free hp n1 n2,by rw[Ze,XL],λr hr=>?_⟩
 rcases XS.mp hr with hr | hr
 ·exact g1.r r hr
 ·exact r2 r hr
def zb (ih:Ar f){N:Nat}(hN:3*f+9<=N)(s:Sx f C a l m nd kv G bs)(h1:Pk (30-f) w1)(h2:Pk (30-f) w2)(hb:C pb=some (.lst [Zy w1,Zy w2]))(na:pb≠a)(nl:pb≠l)
  (q:∀t1 t2 R1 R2 C' p m' u1 u2,Pu C C' a l m m' p (R1++R2)->HT G t1 w1 R1->HT G t2 w2 R2->Wf f bs t1 u1->Wf f bs t2 u2->m-m'=u1+u2->R1.length+R2.length<=600->Q (.tup [tt t1,tt t2,.ref p]) C'):Ya pr N Iw [.ref a,.ref pb,.ref nd,.int f] C Q χ:=by
 obtain⟨n,rfl⟩:∃n,N=n+3*f+9:=⟨N-(3*f+9),by omega⟩
 exact yl ih s h1 h2 hb na nl q
def Pb {N:Nat}(hN:6<=N)(h:Dl C a l m)(q:∀k C',E2 a l C C'->Dl C' a l m->Pk 5 k->Q (Zy k) C'):Ya pr N Li [.ref a,.int 4] C Q χ:=by
 obtain⟨n,rfl⟩:∃n,N=n+4+2:=⟨N-6,by omega⟩
 exact Ia 4 n h q
def qi (ih:Ar f)(s:Sx (f+1) C a l m nd kv G bs)(hw:Pk (30-(f+1)) w)(q:∀t R C' p m',Pu C C' a l m m' p R->HT G t w R->Wf (f+1) bs t (m-m'+1)->Q (.tup [tt t,.ref p]) C'):Ya pr (n+3*f+10) Br [.ref a,Zy w,.ref nd,.int f] C Q χ:=by
 refine Cb (n:=n+3*f+9) rfl ?_
 unfold Ru Qv
 have s0:=s.dn
 have f22:=s.f22
 refine⟨_,rfl,ZNB rfl,_,rfl,_,rfl,?_⟩
 dsimp only[Zq]
 refine ih.at (w:=Qm) (by omega) s0 (Jr (m:=1) (by omega) (.inr (.inl rfl))) λta Ra C1 pa ma ga Ha Wa=>?_
 have s1:=s0.on ga.ez ga.d ga.m0 ga.ml
 refine⟨_,rfl,_,rfl,_,rfl,ZNB rfl,λpb hpb=>⟨_,rfl,_,rfl,?_⟩⟩
 dsimp only[Zq]
 have x2:=Ex.new (o:=.lst [Zy w,Zy w]) hpb
 obtain⟨n1,n2⟩:=ga.d.ne hpb
 refine zb ih (by omega) (s1.ex x2) (nv hw) (nv hw) Ze n1 n2 λt1 t2 R1 R2 C3 p3 m3 u1 u2 g3 H1 H2 W1 W2 hu hl=>?_
 refine⟨XO _,_,rfl,_,Zv,ZNB rfl,XO _,_,rfl,_,Ym,ZNB rfl,ZNB rfl,?_⟩
 refine⟨_,rfl,_,Zv,_,rfl,ZNB rfl,?_⟩
 have gA:Pu C C3 a l m m3 pa Ra:=ga.on s.d ((Ex.ez x2).trans g3.ez) g3.d g3.m0 g3.ml
 have lA:=ga.len Ha Wa s0
 refine Ql (w:=w) rfl rfl Ym gA (zj hw) (by omega) λC4 p4 g4 x4=>⟨_,rfl,_,Vb,_,_,g4.p,x4 _ _ g3.p,Y3 (by rw[XI,XI,YF,List.length_append];omega),λp5 hp5=>⟨ZNB rfl,?_⟩⟩
 exact q (.chT ta t1 t2) _ _ p5 m3 (g4.app (p2:=p5) g3.r hp5) (.mk .chT (.cons Ha (.mk2 H1 H2))) (rT Wa W1 W2 (by omega))
def fU {v1 v2:T}(h:x≠y):Yx [] [(.inr x,v1),(.inr y,v2)]=[(.inr x,v1),(.inr y,v2)]:=by
 have h':¬((Sum.inr x:Zz)=Sum.inr y):=λe=>h (Sum.inr.inj e)
 simp[Yx,Y0,h']
def oG (h:x≠y):bnd [x,y] [k1,k2] G x=some k1:=by
 unfold bnd
 have e:(([x,y]:List Str).zip [k1,k2]).reverse=[(y,k2),(x,k1)]:=by simp
 rw[e,List.lookup_cons,beq_eq_false_iff_ne.mpr h,List.lookup_cons,XU]
def oE:bnd [x,y] [k1,k2] G y=some k2:=by
 unfold bnd
 have e:(([x,y]:List Str).zip [k1,k2]).reverse=[(y,k2),(x,k1)]:=by simp
 rw[e,List.lookup_cons,XU]
def oF {z:Str}(h1:z≠x)(h2:z≠y):bnd [x,y] [k1,k2] G z=G z:=by
 unfold bnd
 have e:(([x,y]:List Str).zip [k1,k2]).reverse=[(y,k2),(x,k1)]:=by simp
 rw[e,List.lookup_cons,beq_eq_false_iff_ne.mpr h2,List.lookup_cons,beq_eq_false_iff_ne.mpr h1];rfl
def tD (h:sQ kv G bs)(hxy:x≠y)(h1:Pk 40 k1)(h2:Pk 40 k2):sQ (Yx kv [(.inr x,Zy k1),(.inr y,Zy k2)]) (bnd [x,y] [k1,k2] G) (bs++[x,y]):=λe he=>by
 rcases Mz he with he | ⟨he,hn⟩
 ·simp only[ZM,ZN,or_false] at he
  rcases he with rfl | rfl
  ·exact⟨x,k1,rfl,oG hxy,by simp,h1⟩
  ·exact⟨y,k2,rfl,oE,by simp,h2⟩
 ·obtain⟨z,k',rfl,g1,g2,g3⟩:=h e he
  have n1:=hn (.inr x,Zy k1) (by simp)
  have n2:=hn (.inr y,Zy k2) (by simp)
  exact⟨z,k',rfl,by rw[oF (λe=>n1 (by rw[e])) (λe=>n2 (by rw[e]))];exact g1,List.mem_append_left _ g2,g3⟩
def sW (ih:Ar f){way:Int}{c:Str}{pk pr' pc:Addr}{cs:List T}{ta:Tr}{va x5:T}{o12:Option T}{N:Nat}(hN:3*f+9<=N)(hway:way=6/\c="Cons"\/way=7/\c="Pair")(hd:Dl C a l m)(s:Sx (f+1) C1 a l m1 nd kv G bs)(hxy:x≠y)
  (K8:C1 pk=some (.lst [Zy k1,Zy k2])) (ka:pk≠a) (kl:pk≠l) (g:Pu C C1 a l m m1 pr' R) (P11:C1 pc=some (.lst cs)) (ca:pc≠a) (cl:pc≠l) (cr:pc≠pr') (cf:C pc=none) (hw:Pk (30-(f+1)) w) (hk1:Pk 40 k1) (hk2:Pk 40 k2) (hcs:cs.length<=3) (hR:R.length<=5000)
  (q:∀tb Rb C' p m',Pu C C' a l m m' p (R++Rb)->HT (bnd [x,y] [k1,k2] G) tb w Rb->Wf f (bs++[x,y]) tb (m1-m')->Q (.tup [.tup [.str "choose",tt ta,.tup (cs++[.tup [.str c,.tup [.str x,.str y],tt tb]])],.ref p]) C'):
  Te (Ya pr N) {nx:=λ_ C'=>Q .non C',rt:=Q,xc:=χ} [some (.ref a),some (.int way),some (Zy w),some (.ref nd),some (.int f),some x5,some (.str x),some (.str y),some (.ref pk),some (.tup [tt ta,va]),some (.ref pr'),some (.ref pc),o12,none] C1:=by
 unfold Te Wq
 refine⟨_,rfl,_,_,rfl,s.rd,λpi hpi=>?_⟩
 have x1:=Ex.new (o:=.dic kv) hpi
 obtain⟨n1,n2⟩:=s.d.ne hpi
 refine⟨_,rfl,⟨_,_,rfl,Ze⟩,λpd hpd=>?_⟩
 have x2:=x1.trans (Ex.new (o:=.dic []) hpd)
 have K2:=x2 _ _ K8
 have nid:pi≠pd:=λe=>by rw[e,Ze] at hpd;cases hpd
 refine⟨_,rfl,_,rfl,_,_,K2,Zv,_,rfl,_,rfl,_,_,K2,Ym,_,rfl,_,rfl,Ze,ZNB rfl,?_⟩
 rw[fU hxy]
 refine⟨_,_,_,_,rfl,rfl,nid,by rw[Zg nid,Zg nid];exact Ze,Ze,Y3 (by have:=s.kl;show kv.length+2<=_;omega),?_⟩
 generalize hC3:up (up (up (up C1 pi (.dic kv)) pd (.dic [])) pd (.dic [(.inr x,Zy k1),(.inr y,Zy k2)])) pi (.dic (Yx kv [(.inr x,Zy k1),(.inr y,Zy k2)]))=C3
 have hpd1:C1 pd=none:=x1.free hpd
 have e3:Ex C1 C3:=λc' o e=>by
  have h1:c'≠pi:=Jq e hpi
  have h2:c'≠pd:=Jq e hpd1
  rw[<-hC3,Zg h1,Zg h2,Zg h2,Zg h1];exact e
 have I3:C3 pi=some (.dic (Yx kv [(.inr x,Zy k1),(.inr y,Zy k2)])):=by rw[<-hC3];exact Ze
 have s3:Sx f C3 a l m1 pi (Yx kv [(.inr x,Zy k1),(.inr y,Zy k2)]) (bnd [x,y] [k1,k2] G) (bs++[x,y]):=⟨s.d.ex e3,s.m0,s.m40,.inl I3,n1,n2,tD s.g hxy hk1 hk2,by
  have:=Qo (l:=[(Sum.inr x,Zy k1),(Sum.inr y,Zy k2)]) (base:=kv)
  have:(Yx kv [(.inr x,Zy k1),(.inr y,Zy k2)]).length<=kv.length+2:=this
  have:=s.kl;omega,by have:=s.f22;omega⟩
 have P11':=e3 _ _ P11
 have g3:=g.on hd (Ex.ez e3) (s.d.ex e3) s.m0 (XW _)
 clear hC3 I3 x1 x2 K2
 refine⟨_,rfl,_,rfl,_,rfl,_,rfl,?_⟩
 dsimp only[Zq]
 refine ih.at (by omega) s3 (nv hw) λtb Rb C4 p4 m4 g4 H4 W4=>?_
 have P4:=g4.ez.lst P11' ca cl
 have G4:=g3.on hd g4.ez g4.d g4.m0 g4.ml
 have l4:=g4.len H4 W4 s3
 have n4:=g4.ne s3.d
 have npc4:pc≠p4:=λe=>by rw[e] at P11';rw[g4.fr] at P11';cases P11'
 have hi:∃i:Int,way-6=i/\Pe [T.str "Cons",.str "Pair"] i=some (.str c):=by
  rcases hway with⟨rfl,rfl⟩ | ⟨rfl,rfl⟩
  ·exact⟨0,by decide,Zv⟩
  ·exact⟨1,by decide,Ym⟩
 obtain⟨i,hi,hat⟩:=hi
 refine⟨_,rfl,⟨_,_,rfl,P4⟩,ZNB rfl,λp5 hp5=>⟨_,rfl,?_⟩⟩
 dsimp only[eC,Oh]
 rw[hi]
 have x5':=Ex.new (o:=.lst [T.str "Cons",.str "Pair"]) hp5
 refine⟨_,_,Ze,hat,_,rfl,_,rfl,ZNB rfl,_,rfl,_,Zv,ZNB rfl,_,_,_,rfl,rfl,x5' _ _ P4,Yu (by omega),?_⟩
 have hp5a:p5≠pc:=(Jq P4 hp5).symm
 refine⟨_,rfl,_,Zv,_,rfl,_,rfl,_,Ze,ZNB rfl,_,rfl,_,rfl,_,Ym,?_⟩
 have Pr6:up (up C4 p5 (.lst [T.str "Cons",.str "Pair"])) pc (.lst (cs++[.tup [.str c,.tup [.str x,.str y],tt tb]])) pr'=some (.lst (R.map Zy)):=by rw[Zg cr.symm];exact x5' _ _ G4.p
 have Pb6:up (up C4 p5 (.lst [T.str "Cons",.str "Pair"])) pc (.lst (cs++[.tup [.str c,.tup [.str x,.str y],tt tb]])) p4=some (.lst (Rb.map Zy)):=by rw[Zg npc4.symm];exact x5' _ _ g4.p
 refine⟨_,_,Pr6,Pb6,Y3 (by rw[XI,XI];omega),λp7 hp7=>⟨ZNB rfl,?_⟩⟩
 have G6:Pu C (up (up C4 p5 (.lst [T.str "Cons",.str "Pair"])) pc (.lst (cs++[.tup [.str c,.tup [.str x,.str y],tt tb]]))) a l m m4 pr' R:=by
  have G5:=G4.on hd (Ex.ez x5') (g4.d.ex x5') g4.m0 (XW _)
  refine⟨λc' o h1 h2 e=>?_,G5.d.at (λo e=>by rw[Zg ca.symm];exact e) (λo e=>by rw[Zg cl.symm];exact e),G5.m0,G5.ml,G5.fr,Pr6,G5.r⟩
  have hc:c'≠pc:=Jq e cf
  rw[Zg hc];exact G5.ez c' o h1 h2 e
 exact q tb Rb _ p7 m4 (G6.app (p2:=p7) g4.r hp7) H4 W4
def sV (ih:Ar f){way:Int}{pk:Addr}{x5:T}{N:Nat}(hN:3*f+9<=N)(hway:way=6/\k2=Wj k1\/way=7)(hd:Dl C a l m)(s:Sx (f+1) C1 a l m nd kv G bs)(e1:Ez a l C C1)(hxy:x≠y)(K8:C1 pk=some (.lst [Zy k1,Zy k2]))(ka:pk≠a)(kl:pk≠l)
  (hw:Pk (30-(f+1)) w) (hk1:Pk 5 k1) (hk2:way=7->Pk 5 k2) (q:∀t R C' p m',Pu C C' a l m m' p R->HT G t w R->Wf (f+1) bs t (m-m'+1)->Q (.tup [tt t,.ref p]) C'):
  Td (Ya pr N) {nx:=λ_ C'=>Q .non C',rt:=Q,xc:=χ} [some (.ref a),some (.int way),some (Zy w),some (.ref nd),some (.int f),some x5,some (.str x),some (.str y),some (.ref pk),none,none,none,none,none] C1:=by
 unfold Td Wp
 have f22:=s.f22
 obtain⟨i,wa,hi,hat,hpa⟩:∃(i:Int) (wa:Kd),way-6=i/\Pe [Zy k2,Zy (z0 k1 k2)] i=some (Zy wa)/\(Pk (30-f) wa/\(way=6/\wa=Wj k1/\k2=Wj k1\/way=7/\wa=z0 k1 k2)):=by
  rcases hway with⟨rfl,rfl⟩ | rfl
  ·exact⟨0,Wj k1,by decide,Zv,fO (by omega) hk1,.inl ⟨rfl,rfl,rfl⟩⟩
  ·exact⟨1,z0 k1 k2,by decide,Ym,fN (by omega) hk1 (hk2 rfl),.inr ⟨rfl,rfl⟩⟩
 obtain⟨hpa,hwa⟩:=hpa
 have k40:Pk 40 k2:=by
  rcases hway with⟨_,rfl⟩ | e
  ·exact Jr (m:=6) (by omega) (.inr (.inr (.inl ⟨_,rfl,hk1⟩)))
  ·exact Jr (by omega) (hk2 e)
 refine⟨_,rfl,_,rfl,_,_,K8,Ym,_,rfl,_,_,K8,Zv,_,rfl,_,_,K8,Ym,ZNB rfl,ZNB rfl,λpl hpl=>⟨_,rfl,?_⟩⟩
 dsimp only[eC,Oh]
 rw[hi]
 refine⟨_,_,Ze,hat,_,rfl,_,rfl,?_⟩
 dsimp only[Zq]
 have x2:=Ex.new (o:=.lst [Zy k2,Zy (z0 k1 k2)]) hpl
 have s2:=s.ex x2
 have e2:=e1.new (o:=.lst [Zy k2,Zy (z0 k1 k2)]) hpl
 have K2:=x2 _ _ K8
 show Ya pr N Qn [.ref a,Zy wa,.ref nd,.int f] _ _ _
 refine ih.at (by omega) s2.dn hpa λta Ra C5 pa m5 ga Ha Wa=>?_
 have K5:=ga.ez.lst K2 ka kl
 have la:=ga.len Ha Wa s2.dn
 have s5:=s2.on ga.ez ga.d ga.m0 ga.ml
 refine Ql (w:=w) rfl rfl Ym (ga.back e2 s2.d (XW _)) (zj hw) (by omega) λC6 p6 g6 x6=>?_
 refine⟨XO _,λpc hpc=>?_⟩
 have s6:=s5.ex x6
 have K6:=x6 _ _ K5
 have x7:=Ex.new (o:=.lst []) hpc
 have s7:=s6.ex x7
 have K7:=x7 _ _ K6
 obtain⟨c1,c2⟩:=s6.d.ne hpc
 have cf:C pc=none:=g6.ez.free hpc c1 c2
 have g7:=g6.on hd (Ex.ez x7) s7.d s7.m0 (XW _)
 have c6:pc≠p6:=(Jq g6.p hpc).symm
 have P7:up C6 pc (.lst []) pc=some (.lst []):=Ze
 rcases hwa with⟨rfl,rfl,rfl⟩ | ⟨rfl,rfl⟩
 ·refine⟨_,rfl,Qp (v:=true) rfl ⟨_,rfl,Yf ?_⟩⟩
  refine⟨_,rfl,_,rfl,_,rfl,_,rfl,?_⟩
  dsimp only[Zq]
  refine ih.at (by omega) s7.dn (nv hw) λtn Rn C8 pn m8 gn Hn Wn=>?_
  have ln:=gn.len Hn Wn s7.dn
  have g8:=g7.on hd gn.ez gn.d gn.m0 gn.ml
  have s8:=s7.on gn.ez gn.d gn.m0 gn.ml
  have K8':=gn.ez.lst K7 ka kl
  refine⟨XO _,_,rfl,_,Zv,ZNB rfl,ZNB rfl,λpd hpd=>?_⟩
  have x9:=Ex.new (o:=.lst [.tup [.str "Nil",.tup [],tt tn]]) hpd
  refine⟨_,rfl,_,rfl,_,Ym,_,_,x9 _ _ g8.p,x9 _ _ gn.p,Y3 (by rw[XI,XI,YF];omega),λp10 hp10=>?_⟩
  have g9:=g8.on hd (Ex.ez x9) (s8.d.ex x9) s8.m0 (XW _)
  have g10:=g9.app (p2:=p10) gn.r hp10
  have x10:=x9.trans (Ex.new (o:=.lst ((w::Ra).map Zy++Rn.map Zy)) hp10)
  obtain⟨d1,d2⟩:=s8.d.ne hpd
  have P10:up (up C8 pd (.lst [.tup [.str "Nil",.tup [],tt tn]])) p10 (.lst ((w::Ra).map Zy++Rn.map Zy)) pd=some (.lst [.tup [.str "Nil",.tup [],tt tn]]):=(Ex.new hp10) _ _ Ze
  have d10:pd≠p10:=λe=>by rw[e,Ze] at hp10;cases hp10
  refine sW (c:="Cons") ih hN (.inl ⟨rfl,rfl⟩) hd (s8.ex x10) hxy (x10 _ _ K8') ka kl g10 P10 d1 d2 d10 (g8.ez.free hpd d1 d2) hw (Jr (by omega) hk1) k40 (by show 1<=3;decide) (by rw[List.length_append,YF];omega) λtb Rb C' p m' gb Hb Wb=>?_
  have e:(w::Ra++Rn)++Rb=w::(Ra++(Rn++Rb)):=by simp
  rw[e] at gb
  exact q (.chL ta tn x y tb) _ C' p m' gb (.mk .chL (.cons Ha (.mk2 Hn Hb))) (rV Wa Wn Wb (by omega))
 ·refine⟨_,rfl,Qp (v:=false) rfl ⟨_,rfl,Zl ?_⟩⟩
  refine sW (c:="Pair") ih hN (.inr ⟨rfl,rfl⟩) hd s7 hxy K7 ka kl g7 P7 c1 c2 c6 cf hw (Jr (by omega) hk1) k40 (by show 0<=3;decide) (by rw[YF];omega) λtb Rb C' p m' gb Hb Wb=>?_
  exact q (.chP ta x y tb) _ C' p m' gb (.mk .chP (.mk2 Ha Hb)) (rU Wa Wb (by omega))
def wu (ih:Ar f){way:Int}(hway:way=6\/way=7)(s:Sx (f+1) C a l m nd kv G bs)(hw:Pk (30-(f+1)) w)(q:∀t R C' p m',Pu C C' a l m m' p R->HT G t w R->Wf (f+1) bs t (m-m'+1)->Q (.tup [tt t,.ref p]) C'):Ya pr (n+3*f+10) Hy [.ref a,.int way,Zy w,.ref nd,.int f] C Q χ:=by
 refine Ht (n:=n+3*f+9) rfl ?_
 unfold Uw U9
 have f22:=s.f22
 refine⟨_,rfl,?_⟩
 dsimp only[Zq,Zr,eC]
 refine Pb (by omega) s.d λk1 C1 x1 D1 hk1=>?_
 refine⟨_,rfl,?_⟩
 dsimp only[Zq,Zr,eC]
 refine K0 (n:=n+3*f+7) D1 λx C2 x2 D2=>?_
 refine⟨_,rfl,?_⟩
 dsimp only[Zq,Zr,eC]
 refine K0 (n:=n+3*f+7) D2 λy0 C3 x3 D3=>?_
 dsimp only[Aa]
 have e3:Ez a l C C3:=((x1.trans x2).trans x3).ez
 have J1:∀(C3:Hw) (y:Str),x≠y->Ez a l C C3->Dl C3 a l m->Tc (Ya pr (n+3*f+9)) {nx:=λ_ C'=>Q .non C',rt:=Q,xc:=χ} [some (.ref a),some (.int way),some (Zy w),some (.ref nd),some (.int f),some (Zy k1),some (.str x),some (.str y),none,none,none,none,none,none] C3:=by
  intro C3 y hxy e3 D3
  unfold Tc Wo
  have s3:=s.on e3 D3 s.m0 (XW _)
  refine⟨_,rfl,_,rfl,ZNB rfl,ZNB rfl,λpk hpk=>?_⟩
  have x4:=Ex.new (o:=.lst [Zy k1,Zy (Wj k1)]) hpk
  obtain⟨n1,n2⟩:=D3.ne hpk
  rcases hway with rfl | rfl
  ·refine⟨_,rfl,Qp (v:=false) rfl ⟨_,rfl,Zl ?_⟩⟩
   exact sV (k1:=k1) (k2:=Wj k1) ih (by omega) (.inl ⟨rfl,rfl⟩) s.d (s3.ex x4) (e3.new hpk) hxy Ze n1 n2 hw hk1 (λe=>by cases e) q
  ·refine⟨_,rfl,Qp (v:=true) rfl ⟨_,rfl,Yf ?_⟩⟩
   refine⟨_,rfl,_,rfl,?_⟩
   dsimp only[Zq,Zr,eC]
   refine Pb (by omega) (D3.ex x4) λk2 C5 x5 D5 hk2=>⟨ZNB rfl,λpk2 hpk2=>?_⟩
   obtain⟨n3,n4⟩:=D5.ne hpk2
   have e5:Ez a l C C5:=(e3.new hpk).trans x5.ez
   exact sV (k1:=k1) (k2:=k2) ih (by omega) (.inr rfl) s.d ((s.on e5 D5 s.m0 (XW _)).ex (Ex.new hpk2)) (e5.new hpk2) hxy Ze n3 n4 hw hk1 (λ_=>hk2) q
 refine⟨_,rfl,_,rfl,gY rfl ⟨_,rfl,Xr (λc=>?_) (λc=>J1 C3 y0 (λe=>by rw[e,XU] at c;cases c) e3 D3)⟩⟩
 refine⟨ZNB rfl,λpz hpz=>⟨_,rfl,Zx rfl (.inr ⟨_,rfl,?_⟩)⟩⟩
 have e4:=e3.new (o:=.lst [.str "z",.str "y"]) hpz
 have D4:=D3.ex (Ex.new (o:=.lst [.str "z",.str "y"]) hpz)
 by_cases hz:x="z"
 ·have hb:(x=="z")=true:=by rw[hz];exact XU _
  rw[hb]
  exact⟨_,_,Ze,Ym,J1 _ "y" (by rw[hz];decide+kernel) e4 D4⟩
 ·have hb:(x=="z")=false:=beq_eq_false_iff_ne.mpr hz
  rw[hb]
  exact⟨_,_,Ze,Zv,J1 _ "z" hz e4 D4⟩
end
def bz (zs:List (Str×Kd)):List (Zz×T):=zs.map λz=>(Sum.inr z.1,Zy z.2)
def o9 {zs:List (Str×Kd)}{x:Str}{k:Kd}(hn:(zs.map (·.1)).Nodup)(hp:∀z∈zs,Pk 5 z.2)(hk:Pk 5 k):∃zs',Y0 (bz zs) (.inr x) (Zy k)=bz zs'/\(zs'.map (·.1)).Nodup/\zs'.length<=zs.length+1/\∀z∈zs',Pk 5 z.2:=by
 by_cases c:x∈zs.map (·.1)
 ·refine⟨zs.map λz=>if z.1=x then(z.1,k) else z,?_,?_,by rw[XI];omega,λz hz=>?_⟩
  ·unfold Y0 bz
   rw[XY]
   ·rw[YE,YE]
    refine List.map_congr_left λz _=>?_
    show(if (Sum.inr z.1:Zz)=Sum.inr x then(Sum.inr z.1,Zy k) else(Sum.inr z.1,Zy z.2))=(Sum.inr (if z.1=x then(z.1,k) else z).1,Zy (if z.1=x then(z.1,k) else z).2)
    by_cases e:z.1=x
    ·rw[XY (by rw[e]),XY e]
    ·rw[XX λh=>e (Sum.inr.inj h),XX e]
   ·obtain⟨z,hz,e⟩:=XR.mp c
    exact List.any_eq_true.mpr ⟨(Sum.inr z.1,Zy z.2),XR.mpr ⟨z,hz,rfl⟩,decide_eq_true (by show(Sum.inr z.1:Zz)=Sum.inr x;rw[e])⟩
  ·have:(zs.map λz=>if z.1=x then(z.1,k) else z).map (·.1)=zs.map (·.1):=by
    rw[YE]
    refine List.map_congr_left λz _=>?_
    show(if z.1=x then(z.1,k) else z).1=z.1
    split<;>rfl
   rw[this];exact hn
  ·obtain⟨y,hy,rfl⟩:=XR.mp hz
   split
   ·exact hk
   ·exact hp y hy
 ·refine⟨zs++[(x,k)],?_,?_,by rw[List.length_append];exact XE _,λz hz=>?_⟩
  ·unfold Y0 bz
   rw[XX,XL];rfl
   intro h
   obtain⟨e,he,hd⟩:=List.any_eq_true.mp h
   obtain⟨z,hz,rfl⟩:=XR.mp he
   exact c (XR.mpr ⟨z,hz,Sum.inr.inj (of_decide_eq_true hd)⟩)
  ·rw[XL,List.nodup_append]
   exact⟨hn,by simp,λa ha b hb=>by rw[List.mem_singleton.mp hb];exact λe=>c (by have e':a=x:=e;rw[<-e'];exact ha)⟩
  ·rcases XS.mp hz with hz | hz
   ·exact hp z hz
   ·rw[XQ.mp hz];exact hk
def lH {L:List (Str×Kd)}:(L.map (·.1)).Nodup->∀{z:Str×Kd},z∈L->L.lookup z.1=some z.2:=by
 induction L with
 | nil=>intro _ z h;cases h
 | cons y r ih=>
  intro hn z hz
  rw[YI,List.nodup_cons] at hn
  rcases List.mem_cons.mp hz with rfl | hz
  ·rw[List.lookup_cons,XU]
  ·have:z.1≠y.1:=λe=>hn.1 (XR.mpr ⟨z,hz,e⟩)
   rw[List.lookup_cons,beq_eq_false_iff_ne.mpr this];exact ih hn.2 hz
def lG {L:List (Str×Kd)}{x:Str}:x∉L.map (·.1)->L.lookup x=none:=by
 induction L with
 | nil=>intro _;rfl
 | cons y r ih=>
  intro hn
  rw[YI,List.mem_cons,not_or] at hn
  rw[List.lookup_cons,beq_eq_false_iff_ne.mpr hn.1];exact ih hn.2
def nB (zs:List (Str×Kd)):(zs.map (·.1)).zip (zs.map (·.2))=zs:=by
 induction zs with
 | nil=>rfl
 | cons z r ih=>rw[YI,YI,List.zip_cons_cons,ih]
def sA {zs:List (Str×Kd)}{G:Ev}(hn:(zs.map (·.1)).Nodup){z:Str×Kd}(hz:z∈zs):bnd (zs.map (·.1)) (zs.map (·.2)) G z.1=some z.2:=by
 unfold bnd
 rw[nB,lH (by rw[List.map_reverse];exact((List.reverse_perm (zs.map (·.1))).nodup_iff).mpr hn) (List.mem_reverse.mpr hz)]
def sv {zs:List (Str×Kd)}{G:Ev}{x:Str}(h:x∉zs.map (·.1)):bnd (zs.map (·.1)) (zs.map (·.2)) G x=G x:=by
 unfold bnd
 rw[nB,lG (by rw[List.map_reverse,List.mem_reverse];exact h)]
def j4 {kv:List (Zz×T)}{G:Ev}{bs:List Str}{zs:List (Str×Kd)}(h:sQ kv G bs)(hn:(zs.map (·.1)).Nodup)(hp:∀z∈zs,Pk 5 z.2):sQ (Yx kv (bz zs)) (bnd (zs.map (·.1)) (zs.map (·.2)) G) (bs++zs.map (·.1)):=λe he=>by
 rcases Mz he with he | ⟨he,hne⟩
 ·obtain⟨z,hz,rfl⟩:=XR.mp he
  exact⟨z.1,z.2,rfl,sA hn hz,XT _ (XR.mpr ⟨z,hz,rfl⟩),Jr (by decide) (hp z hz)⟩
 ·obtain⟨x,k',rfl,g1,g2,g3⟩:=h e he
  refine⟨x,k',rfl,?_,List.mem_append_left _ g2,g3⟩
  rw[sv λhx=>?_]
  ·exact g1
  ·obtain⟨z,hz,e⟩:=XR.mp hx
   exact hne (Sum.inr z.1,Zy z.2) (XR.mpr ⟨z,hz,rfl⟩) (by show(Sum.inr z.1:Zz)=Sum.inr x;rw[e])
def Uo {α β:Type}(l:List α)(f:α->β):(List.finRange l.length).map (λi=>f (l[i]))=l.map f:=by
 refine List.ext_getElem (by simp) λi h1 h2=>?_
 simp
def ltL (ys:List (Str×Kd×Tr))(b:Tr):Tr:=.lt ys.length (λi=>(ys[i]).1) (λi=>(ys[i]).2.2) b
def qa {ys:List (Str×Kd×Tr)}{b:Tr}:tt (ltL ys b)=.tup [.str "let",.tup (ys.map λy=>.tup [.str y.1,tt y.2.2]),tt b]:=by
 unfold ltL
 rw[tt,<-Uo ys λy=>T.tup [.str y.1,tt y.2.2]]
section
variable {ys:List (Str×Kd×Tr)}{b:Tr}{G:Ev}{k:Kd}{R Rb:List Kd}{f:Nat}{bs:List Str}{u u1 u2:Int}
def pV (h:HTs (ys.map λy=>(bnd (ys.map (·.1)) (ys.map (·.2.1)) G,y.2.2,y.2.1)) R)(hb:HT (bnd (ys.map (·.1)) (ys.map (·.2.1)) G) b k Rb):HT G (ltL ys b) k (k::(R++Rb)):=by
 have r:Jg (ltL ys b) G k _:=Jg.lt (ks:=λi:_root_.Fin ys.length=>(ys[i]).2.1)
 have e1:Ui (λi:_root_.Fin ys.length=>(ys[i]).1)=ys.map (·.1):=Uo ys (·.1)
 have e2:(List.finRange ys.length).map (λi:_root_.Fin ys.length=>(ys[i]).2.1)=ys.map (·.2.1):=Uo ys (·.2.1)
 rw[e1,e2,Uo ys λy=>(bnd (ys.map (·.1)) (ys.map (·.2.1)) G,y.2.2,y.2.1)] at r
 exact .mk r (HTs.app h (.mk1 hb))
def rS (hl:ys.length<=5)(h:∀y∈ys,y.2.2.lok/\Cd (f+1) (bs++ys.map (·.1)) y.2.2)(hs:(((ys.map λy=>y.2.2.size).sum:Nat):Int)<=ys.length+6*u1)(hc:(ys.map λy=>y.2.2.cost).sum<=5*(ys.map λy=>y.2.2.size).sum)(hb:Wf f (bs++ys.map (·.1)) b u2)(hu:u=u1+u2+1):Wf (f+1) bs (ltL ys b) u:=by
 have e1:Ui (λi:_root_.Fin ys.length=>(ys[i]).1)=ys.map (·.1):=Uo ys (·.1)
 refine⟨⟨by omega,λi=>(h _ (YN _)).1,hb.l⟩,⟨λx e=>(by cases e),λz hz=>?_⟩,?_,?_⟩
 ·have hz:z∈((List.finRange ys.length).map λi=>(Ui (λi:_root_.Fin ys.length=>(ys[i]).1),(ys[i]).2.2))++[(Ui (λi:_root_.Fin ys.length=>(ys[i]).1),b)]:=hz
  rw[e1] at hz
  rcases XS.mp hz with hz | hz
  ·obtain⟨i,_,rfl⟩:=XR.mp hz;exact(h _ (YN _)).2
  ·rw[XQ.mp hz];exact hb.c
 ·show((1+(((List.finRange ys.length).map λi=>(ys[i]).2.2.size).sum+b.size):Nat):Int)<=_
  rw[Uo ys λy=>y.2.2.size]
  have:=hb.s
  omega
 ·show ys.length+(((List.finRange ys.length).map λi=>(ys[i]).2.2.cost).sum+b.cost)<=5*(1+(((List.finRange ys.length).map λi=>(ys[i]).2.2.size).sum+b.size))
  rw[Uo ys λy=>y.2.2.size,Uo ys λy=>y.2.2.cost]
  have:=hb.k
  omega
end
section
variable {f n:Nat}{C C' C1 C2:Hw}{Q:WK}{χ:WX}{a l nd p pb:Addr}{m m' m1 m2:Int}{kv:List (Zz×T)}{G:Ev}{bs:List Str}{w w1 w2 k1 k2:Kd}{R R1 R2:List Kd}{u u1 u2 u3:Int}{t t1 t2 t3 b:Tr}{x y:Str}
def Kt {α:Type}{g:α->Nat}{l:List α}{x:α}:((l++[x]).map g).sum=(l.map g).sum+g x:=by simp
def mD (ih:Ar f)(s:Sx (f+1) C a l m nd kv G bs)(hw:Pk (30-(f+1)) w)(q:∀t R C' p m',Pu C C' a l m m' p R->HT G t w R->Wf (f+1) bs t (m-m'+1)->Q (.tup [tt t,.ref p]) C'):Ya pr (n+3*f+10) zI [.ref a,Zy w,.ref nd,.int f] C Q χ:=by
 refine A4 (n:=n+3*f+9) rfl ?_
 unfold Og Na
 have f22:=s.f22
 intro pb hpb
 obtain⟨nb1,nb2⟩:=s.d.ne hpb
 have D1:=s.d.ex (Ex.new (o:=.dic []) hpb)
 refine⟨_,rfl,?_⟩
 dsimp only[Zq,Zr,eC]
 refine J6 (n:=n+3*f+8) D1 (by decide) (Qk (by decide) (by decide)) λr C2 x2 D2 r0 r1=>?_
 dsimp only[Fo]
 refine⟨_,rfl,by omega,by omega,?_⟩
 refine yK (λi τ C'=>∃(zs:List (Str×Kd)) (x5 x6:Option T),τ=[some (.ref a),some (Zy w),some (.ref nd),some (.int f),some (.ref pb),x5,x6,none,none,none,none,none,none]/\Ez a l C C'/\Dl C' a l m/\C' pb=some (.dic (bz zs))/\(zs.map (·.1)).Nodup/\zs.length<=i/\∀z∈zs,Pk 5 z.2)
  ⟨[],_,_,rfl,(Ez.refl.new hpb).trans x2.ez,D2,x2 pb _ nb1 nb2 Ze,by simp,Nat.le_refl _,λz h=>by cases h⟩ (λ_=>trivial) ?_ ?_
 ·rintro i τ C3 N hi ⟨zs,z5,z6,rfl,e3,D3,B3,n3,l3,k3⟩ hN
  refine⟨_,rfl,?_⟩
  dsimp only[Zq,Zr,eC]
  refine K0 (n:=n+3*f+7) D3 λx C4 x4 D4=>?_
  refine⟨_,rfl,?_⟩
  dsimp only[Zq,Zr,eC]
  refine Pb (by omega) D4 λk C5 x5 D5 hk=>?_
  have B5:=x5 pb _ nb1 nb2 (x4 pb _ nb1 nb2 B3)
  obtain⟨zs',e',n',l',k'⟩:=o9 (x:=x) n3 k3 hk
  refine⟨_,rfl,_,rfl,_,_,_,rfl,rfl,B5,Yu (by unfold bz;rw[XI];omega),?_⟩
  rw[e']
  refine hN _ _ ⟨zs',_,_,rfl,?_,D5.at (λo e=>by rw[Zg nb1.symm];exact e) (λo e=>by rw[Zg nb2.symm];exact e),Ze,n',by omega,k'⟩
  have e5:=(e3.trans x4.ez).trans x5.ez
  exact λc o h1 h2 e=>by rw[Zg (Jq e hpb)];exact e5 c o h1 h2 e
 rintro τ C3 ⟨zs,z5,z6,rfl,e3,D3,B3,n3,l3,k3⟩
 have l5:zs.length<=5:=by omega
 have s3:=s.on e3 D3 s.m0 (XW _)
 clear D1 D2 x2
 refine⟨_,rfl,_,_,rfl,s3.rd,λpi hpi=>?_⟩
 obtain⟨ni1,ni2⟩:=D3.ne hpi
 have nib:pi≠pb:=(Jq B3 hpi).symm
 refine⟨_,rfl,⟨_,_,rfl,Ze⟩,_,rfl,_,_,_,_,rfl,rfl,nib,Ze,by rw[Zg nib.symm];exact B3,Y3 (by have:=s.kl;show kv.length+(bz zs).length<=_;unfold bz;rw[XI];omega),?_⟩
 generalize hC4:up (up C3 pi (.dic kv)) pi (.dic (Yx kv (bz zs)))=C4
 have x4:Ex C3 C4:=λc o e=>by rw[<-hC4,Zg (Jq e hpi),Zg (Jq e hpi)];exact e
 have I4:C4 pi=some (.dic (Yx kv (bz zs))):=by rw[<-hC4];exact Ze
 have D4:=D3.ex x4
 have B4:=x4 _ _ B3
 have s4:Sx f C4 a l m pi (Yx kv (bz zs)) (bnd (zs.map (·.1)) (zs.map (·.2)) G) (bs++zs.map (·.1)):=⟨D4,s.m0,s.m40,.inl I4,ni1,ni2,j4 s.g n3 k3,by
  have h1:(Yx kv (bz zs)).length<=kv.length+(bz zs).length:=Qo
  have h2:(bz zs).length=zs.length:=XI ..
  have:=s.kl;omega,by omega⟩
 have e4:Ez a l C C4:=e3.trans (Ex.ez x4)
 clear hC4 x4 I4
 refine⟨XO _,λpp hpp=>?_⟩
 obtain⟨np1,np2⟩:=D4.ne hpp
 have npb:pp≠pb:=(Jq B4 hpp).symm
 have npi:pi≠pp:=by rcases s4.rd with h | h<;>exact Jq h hpp
 refine⟨_,rfl,ZNB rfl,λpr0 hpr=>?_⟩
 have x5:=Ex.new (o:=.lst []) hpp
 have x6:=x5.trans (Ex.new (o:=.lst [Zy w]) hpr)
 have P6:up (up C4 pp (.lst [])) pr0 (.lst [Zy w]) pp=some (.lst []):=(Ex.new hpr) _ _ Ze
 have R6:up (up C4 pp (.lst [])) pr0 (.lst [Zy w]) pr0=some (.lst ([w].map Zy)):=Ze
 have hpr4:C4 pr0=none:=x5.free hpr
 have n_pr:pp≠pr0:=Jq (show up C4 pp (.lst []) pp=some (.lst []) from Ze) hpr
 obtain⟨q1,q2⟩:=D4.ne hpr4
 generalize up (up C4 pp (.lst [])) pr0 (.lst [Zy w])=C6 at x6 P6 R6
 have s6:=s4.ex x6
 have B6:=x6 _ _ B4
 have e6:Ez a l C C6:=e4.trans (Ex.ez x6)
 have fpp:C pp=none:=e4.free hpp np1 np2
 have fpr:C pr0=none:=e4.free hpr4 q1 q2
 have fpb:C pb=none:=hpb
 refine⟨_,rfl,_,_,rfl,.inl B6,?_⟩
 have s7:Sx f (up C6 pb (.fdic (bz zs))) a l m pi (Yx kv (bz zs)) (bnd (zs.map (·.1)) (zs.map (·.2)) G) (bs++zs.map (·.1)):=
  ⟨s6.d.at (λo e=>by rw[Zg nb1.symm];exact e) (λo e=>by rw[Zg nb2.symm];exact e),s6.m0,s6.m40,(by rcases s6.rd with h | h;exact .inl (by rw[Zg nib];exact h);exact .inr (by rw[Zg nib];exact h)),ni1,ni2,s6.g,s6.kl,s6.f22⟩
 have e7:Ez a l C (up C6 pb (.fdic (bz zs))):=λc o h1 h2 e=>by rw[Zg (Jq e hpb)];exact e6 c o h1 h2 e
 have P7:up C6 pb (.fdic (bz zs)) pp=some (.lst []):=by rw[Zg npb];exact P6
 have npr:pr0≠pb:=(Jq B4 hpr4).symm
 have R7:up C6 pb (.fdic (bz zs)) pr0=some (.lst ([w].map Zy)):=by rw[Zg npr];exact R6
 have B7:up C6 pb (.fdic (bz zs)) pb=some (.fdic (bz zs)):=Ze
 generalize up C6 pb (.fdic (bz zs))=C7 at s7 e7 P7 R7 B7
 clear x5 x6 P6 R6 s6 B6 e6 hpr hpp hpi s4 D4 B4 e4 s3 D3 B3 e3
 refine Uq (λi τ C'=>∃(ys:List (Str×Kd×Tr)) (Rs:List Kd) (pr':Addr) (m':Int) (x5 x6 x10 x11:Option T),τ=[some (.ref a),some (Zy w),some (.ref nd),some (.int f),some (.ref pb),x5,x6,some (.ref pi),some (.ref pp),some (.ref pr'),x10,x11,none]/\
   Sx f C' a l m' pi (Yx kv (bz zs)) (bnd (zs.map (·.1)) (zs.map (·.2)) G) (bs++zs.map (·.1))/\Pu C C' a l m m' pr' (w::Rs)/\C' pp=some (.lst (ys.map λy=>.tup [.str y.1,tt y.2.2]))/\C' pb=some (.fdic (bz zs))/\pp≠pr'/\
   (ys.map λy=>(y.1,y.2.1))=zs.take i/\HTs (ys.map λy=>(bnd (zs.map (·.1)) (zs.map (·.2)) G,y.2.2,y.2.1)) Rs/\(∀y∈ys,y.2.2.lok/\Cd (f+1) (bs++zs.map (·.1)) y.2.2)/\
   (((ys.map λy=>y.2.2.size).sum:Nat):Int)<=ys.length+6*(m-m')/\(ys.map λy=>y.2.2.cost).sum<=5*(ys.map λy=>y.2.2.size).sum/\Rs.length<=250*i)
  ⟨[],[],pr0,m,_,_,_,_,rfl,s7,⟨e7,s7.d,s7.m0,XW _,fpr,R7,λr hr=>by rw[XQ.mp hr];exact zj hw⟩,P7,B7,n_pr,rfl,.nil,λy h=>(by cases h),(by show(0:Int)<=0+6*(m-m);omega),XE _,XE _⟩ ?_ ?_ ?_
 ·rintro i τ C' _ ⟨ys,Rs,pr',m',_,_,_,_,_,_,_,_,h,_⟩;exact h
 ·rintro i v τ C8 N hv ⟨ys,Rs,pr',m',y5,y6,y10,y11,rfl,s8,g8,P8,B8,hne,hys,hH,hok,hsz,hco,hRs⟩ hN
  have hv':∃z,zs[i]?=some z/\v=.tup [.str z.1,Zy z.2]:=by
   unfold WL.rI bz at hv
   rw[YE,XM] at hv
   cases e:zs[i]? with
   | none=>rw[e] at hv;cases hv
   | some z=>rw[e] at hv;exact⟨z,rfl,(YH hv).symm⟩
  obtain⟨z,hz,rfl⟩:=hv'
  have hi:i<zs.length:=(List.getElem?_eq_some_iff.mp hz).1
  refine⟨_,rfl,_,_,rfl,_,_,rfl,rfl,?_⟩
  refine⟨_,rfl,_,rfl,_,rfl,_,rfl,?_⟩
  dsimp only[Zq]
  refine ih.at (by omega) s8 (Jr (by omega) (k3 z (List.mem_of_getElem? hz))) λt Rt C9 p9 m9 g9 H9 W9=>?_
  have l9:=g9.len H9 W9 s8
  have P9:=g9.ez.lst P8 np1 np2
  have G9:=g8.on s.d g9.ez g9.d g9.m0 g9.ml
  have s9:=s8.on g9.ez g9.d g9.m0 g9.ml
  have np9:pp≠p9:=λe=>by rw[e,g9.fr] at P8;cases P8
  have B9:C9 pb=some (.fdic (bz zs)):=by
   rcases g9.ez pb _ nb1 nb2 B8 with h | ⟨_,e,_⟩
   ·exact h
   ·cases e
  refine⟨_,rfl,⟨_,_,rfl,P9⟩,_,rfl,_,rfl,_,Zv,ZNB rfl,_,_,_,rfl,rfl,P9,Yu (by rw[XI];have:=congrArg List.length hys;rw[XI,YM] at this;omega),?_⟩
  have C10a:∀o,up C9 pp o pr'=some (.lst ((w::Rs).map Zy)):=λo=>by rw[Zg hne.symm];exact G9.p
  have C10b:∀o,up C9 pp o p9=some (.lst (Rt.map Zy)):=λo=>by rw[Zg np9.symm];exact g9.p
  refine⟨_,rfl,_,rfl,_,Ym,_,_,C10a _,C10b _,Y3 (by rw[XI,XI,YF];omega),λp11 hp11=>?_⟩
  have eM:(ys.map λy=>T.tup [.str y.1,tt y.2.2])++[.tup [.str z.1,tt t]]=(ys++[(z.1,z.2,t)]).map λy=>T.tup [.str y.1,tt y.2.2]:=by rw[XL];rfl
  rw[eM] at hp11 |-
  have G10:Pu C (up C9 pp (.lst ((ys++[(z.1,z.2,t)]).map λy=>.tup [.str y.1,tt y.2.2]))) a l m m9 pr' (w::Rs):=
   ⟨λc o h1 h2 e=>by rw[Zg (Jq e fpp)];exact G9.ez c o h1 h2 e,G9.d.at (λo e=>by rw[Zg np1.symm];exact e) (λo e=>by rw[Zg np2.symm];exact e),G9.m0,G9.ml,G9.fr,C10a _,G9.r⟩
  have s10:Sx f (up C9 pp (.lst ((ys++[(z.1,z.2,t)]).map λy=>.tup [.str y.1,tt y.2.2]))) a l m9 pi (Yx kv (bz zs)) (bnd (zs.map (·.1)) (zs.map (·.2)) G) (bs++zs.map (·.1)):=
   ⟨G10.d,s9.m0,s9.m40,(by rcases s9.rd with h | h;exact .inl (by rw[Zg npi];exact h);exact .inr (by rw[Zg npi];exact h)),ni1,ni2,s9.g,s9.kl,s9.f22⟩
  have P10:up C9 pp (.lst ((ys++[(z.1,z.2,t)]).map λy=>.tup [.str y.1,tt y.2.2])) pp=some (.lst ((ys++[(z.1,z.2,t)]).map λy=>.tup [.str y.1,tt y.2.2])):=Ze
  have B10:up C9 pp (.lst ((ys++[(z.1,z.2,t)]).map λy=>.tup [.str y.1,tt y.2.2])) pb=some (.fdic (bz zs)):=by rw[Zg npb.symm];exact B9
  have x11:=Ex.new (o:=.lst ((w::Rs).map Zy++Rt.map Zy)) hp11
  refine hN _ _ ⟨ys++[(z.1,z.2,t)],Rs++Rt,p11,m9,_,_,_,_,rfl,s10.ex x11,G10.app (p2:=p11) g9.r hp11,x11 _ _ P10,x11 _ _ B10,Jq P10 hp11,?_,?_,?_,?_,?_,?_⟩
  ·rw[XL,hys,YD,hz];rfl
  ·rw[XL];exact HTs.app hH (.mk1 H9)
  ·intro y hy
   rcases XS.mp hy with hy | hy
   ·exact hok y hy
   ·rw[XQ.mp hy];exact⟨W9.l,W9.c⟩
  ·rw[Kt,List.length_append]
   have:=W9.s
   show((_+t.size:Nat):Int)<=((ys.length+1:Nat):Int)+_
   omega
  ·rw[Kt,Kt]
   have:=W9.k
   show _+t.cost<=5*(_+t.size)
   omega
  ·rw[List.length_append];omega
 ·rintro τ C8 ⟨ys,Rs,pr',m',y5,y6,y10,y11,rfl,s8,g8,P8,B8,hne,hys,hH,hok,hsz,hco,hRs⟩
  have hz2:(WL.rI (bz zs)).length=zs.length:=by unfold WL.rI bz;rw[XI,XI]
  rw[hz2] at hys hRs
  rw[List.take_length] at hys
  subst hys
  have f1:(ys.map λy=>(y.1,y.2.1)).map (·.1)=ys.map (·.1):=by rw[YE];rfl
  have f2:(ys.map λy=>(y.1,y.2.1)).map (·.2)=ys.map (·.2.1):=by rw[YE];rfl
  rw[f1,f2] at s8 hH
  rw[f1] at hok
  refine⟨_,rfl,_,rfl,_,rfl,_,rfl,?_⟩
  dsimp only[Zq]
  refine ih.at (by omega) s8 (nv hw) λtb Rb C9 p9 m9 g9 H9 W9=>?_
  have l9:=g9.len H9 W9 s8
  have P9:=g9.ez.lst P8 np1 np2
  have G9:=g8.on s.d g9.ez g9.d g9.m0 g9.ml
  rw[XI] at l5 hRs
  refine⟨_,rfl,_,rfl,_,P9,_,rfl,_,Zv,ZNB rfl,_,rfl,_,rfl,_,Ym,_,_,G9.p,g9.p,Y3 (by rw[XI,XI,YF];omega),λp10 hp10=>⟨ZNB rfl,?_⟩⟩
  rw[<-qa]
  exact q (ltL ys tb) _ _ p10 m9 (G9.app (p2:=p10) g9.r hp10) (pV hH H9) (rS l5 hok hsz hco W9 (by omega))
def nN (ih:Ar f){r:Int}(r0:0<r)(r1:r<10)(s:Sx (f+1) C a l m nd kv G bs)(hw:Pk (30-(f+1)) w)(q:∀t R C' p m',Pu C C' a l m m' p R->HT G t w R->Wf (f+1) bs t (m-m'+1)->Q (.tup [tt t,.ref p]) C'):
  (Ti (uk (jn (xu (Jf kU (Yj 4) (eC (T.int 3)))) (xu (Jf A1 (Yj 4) (eC (T.int 9))))) (Eh (Qq (Ya pr (n+3*f+10)) Ix (Zr (Yj 0) (Zr (Yj 1) (Zr (Yj 2) (Zr (Jf Oh (Yj 3) (eC (T.int 1))) Zq)))))) Rc) (Rw (Ya pr (n+3*f+10))))
   {nx:=λ_ C'=>Q .non C',rt:=Q,xc:=χ} [some (.ref a),some (Zy w),some (.ref nd),some (.int ((f+1:Nat):Int)),some (.int r),none,none] C:=by
 have hc:((f+1:Nat):Int)-1=(f:Int):=by omega
 have f22:=s.f22
 refine lJ (λk=>k=false->3<=r/\r≠9) (λK χ' h=>?_) (λ_=>?_) λh=>?_
 ·refine⟨_,rfl,_,rfl,Xr (λ_=>h true λe=>by cases e) (λc0=>?_)⟩
  refine⟨_,rfl,Qp rfl ⟨_,rfl,h _ λe=>⟨?_,λe'=>?_⟩⟩⟩
  ·have:=of_decide_eq_false c0;omega
  ·rw[e'] at e;cases e
 ·refine⟨_,rfl,_,rfl,_,rfl,_,rfl,?_⟩
  dsimp only[Zq,eC,Oh]
  rw[hc]
  exact m6 ih s hw q
 obtain⟨r3,r9⟩:=h rfl
 unfold Rw Uf
 refine⟨_,rfl,Qp rfl ⟨_,rfl,Xr (λc3=>?_) (λc3=>?_)⟩⟩
 ·refine⟨_,rfl,?_⟩
  dsimp only[Zq,Zr,eC]
  refine Pb (by omega) s.d λka C1 x1 D1 hk=>?_
  refine⟨_,rfl,_,rfl,_,rfl,ZNB rfl,_,rfl,ZNB rfl,λpb hpb=>⟨_,rfl,_,rfl,?_⟩⟩
  dsimp only[Zq,eC,Oh]
  rw[hc]
  have x2:=Ex.new (o:=.lst [Zy (xv ka w),Zy ka]) hpb
  obtain⟨n1,n2⟩:=D1.ne hpb
  have s1:=(s.on x1.ez D1 s.m0 (XW _)).ex x2
  refine zb (w1:=xv ka w) (w2:=ka) ih (by omega) s1.dn (iC f22 hk hw) (iD (by omega) hk) Ze n1 n2 λt1 t2 R1 R2 C3 p3 m3 u1 u2 g3 H1 H2 W1 W2 hu hl=>?_
  refine⟨_,rfl,_,Zv,_,rfl,_,Ym,ZNB rfl,?_⟩
  refine Ql (w:=w) rfl rfl Vb (g3.back (x1.ez.new hpb) s1.d (XW _)) (zj hw) (by rw[List.length_append];omega) λC4 p4 g4 _=>⟨ZNB rfl,?_⟩
  exact q (.call t1 t2) _ _ p4 m3 g4 (.mk .call (.mk2 H1 H2)) (nD W1 W2 ⟨W1.l,W2.l⟩ rfl (λx e=>by cases e) rfl rfl (by omega))
 refine⟨_,rfl,Qp rfl ⟨_,rfl,Xr (λc4=>?_) (λc4=>?_)⟩⟩
 ·refine⟨_,rfl,_,rfl,_,rfl,_,rfl,?_⟩
  dsimp only[Zq,eC,Oh]
  rw[hc]
  exact mD ih s hw q
 refine⟨_,rfl,Qp rfl ⟨_,rfl,Xr (λc5=>?_) (λc5=>?_)⟩⟩
 ·refine⟨_,rfl,_,rfl,_,rfl,_,rfl,?_⟩
  dsimp only[Zq,eC,Oh]
  rw[hc]
  exact qi ih s hw q
 refine⟨_,rfl,Qp rfl ⟨_,rfl,Xr (λc8=>?_) (λc8=>?_)⟩⟩
 ·refine⟨_,rfl,_,rfl,?_⟩
  dsimp only[Zq,Zr,eC]
  refine Pb (by omega) s.d λka C1 x1 D1 hk=>⟨_,rfl,ZNB rfl,λpb hpb=>⟨_,rfl,_,rfl,?_⟩⟩
  dsimp only[Zq,eC,Oh]
  rw[hc]
  have x2:=Ex.new (o:=.lst [Zy ka,Zy w]) hpb
  obtain⟨n1,n2⟩:=D1.ne hpb
  have s1:=(s.on x1.ez D1 s.m0 (XW _)).ex x2
  refine zb (w1:=ka) (w2:=w) ih (by omega) s1.dn (iD (by omega) hk) (nv hw) Ze n1 n2 λt1 t2 R1 R2 C3 p3 m3 u1 u2 g3 H1 H2 W1 W2 hu hl=>?_
  refine⟨_,rfl,_,Zv,_,rfl,_,Ym,ZNB rfl,?_⟩
  refine Ql (w:=w) rfl rfl Vb (g3.back (x1.ez.new hpb) s1.d (XW _)) (zj hw) (by rw[List.length_append];omega) λC4 p4 g4 _=>⟨ZNB rfl,?_⟩
  exact q (.first t1 t2) _ _ p4 m3 g4 (.mk .first (.mk2 H1 H2)) (nD W1 W2 ⟨W1.l,W2.l⟩ rfl (λx e=>by cases e) rfl rfl (by omega))
 refine⟨_,rfl,_,rfl,_,rfl,_,rfl,_,rfl,?_⟩
 dsimp only[Zq,eC,Oh]
 rw[hc]
 refine wu ih ?_ s hw q
 have h3:r≠3:=λe=>by rw[e] at c3;cases c3
 have h4:r≠4:=λe=>by rw[e] at c4;cases c4
 have h5:r≠5:=λe=>by rw[e] at c5;cases c5
 have h8:r≠8:=λe=>by rw[e] at c8;cases c8
 omega
def ym (ih:∀f',f=f'+1->Ar f'):Ar f:=λ{n C Q χ a l nd m kv G bs w} s hw q=>by
  refine Ce (n:=n+3*f+7) rfl ?_
  unfold Rx Q1
  have f22:=s.f22
  have t7:∀(C1:Hw) (r:Int),Ez a l C C1->Dl C1 a l m->0<=r->r<10->(r≠0->f≠0/\0<m)->Rv (Ya pr (n+3*f+7)) {nx:=λ_ C'=>Q .non C',rt:=Q,xc:=χ} [some (.ref a),some (Zy w),some (.ref nd),some (.int f),some (.int r),none,none] C1:=by
   intro C1 r e1 D1 r0 r1 hr
   unfold Rv Ue
   have s1:=s.on e1 D1 s.m0 (XW _)
   refine⟨_,rfl,Qp rfl ⟨_,rfl,Xr (λc=>?_) (λc=>?_)⟩⟩
   ·refine⟨_,rfl,_,rfl,_,rfl,?_⟩
    dsimp only[Zq]
    refine qj (n:=n+3*f+4) (f:=f) D1 hw (by omega) s1.rd s.na s.nl s.g (by have:=s.kl;omega) λt C2 p e2 D2 hp P2 H2 W2=>?_
    have g:Pu C1 C2 a l m m p [w]:=⟨e2,D2,s.m0,XW _,hp,P2,λr hr=>by rw[XQ.mp hr];exact zj hw⟩
    exact q t [w] C2 p m (g.back e1 D1 (XW _)) H2 (by have e:m-m=0:=(by omega);rw[e];exact W2)
   ·have hr0:r≠0:=λe=>by rw[e] at c;cases c
    obtain⟨hf,hm⟩:=hr hr0
    obtain⟨f',hf'⟩:∃f',f=f'+1:=⟨f-1,by omega⟩
    have ih':Ar f':=ih f' hf'
    subst hf'
    have hN:n+3*(f'+1)+7=n+3*f'+10:=by omega
    rw[hN]
    ·obtain⟨mx,sd,nm,ls,h1,h2,h3,h4,h5,hal⟩:=D1
     refine⟨_,rfl,_,_,_,_,rfl,rfl,.inl h1,yJ,_,rfl,_,_,_,rfl,rfl,h1,ZNB rfl,?_⟩
     rw[yy]
     have e2:Ez a l C1 (up C1 a (.dic (dk mx sd nm l (m-1)))):=λc o n1 n2 e=>by rw[Zg n1];exact .inl e
     have D2:Dl (up C1 a (.dic (dk mx sd nm l (m-1)))) a l (m-1):=⟨mx,sd,nm,ls,Ze,by rw[Zg hal.symm];exact h2,h3,h4,h5,hal⟩
     have s2:=s1.on e2 D2 (by omega) (by omega)
     refine nN (n:=n) ih' (by omega) r1 s2 hw λt R C' p m' g H W=>?_
     refine q t R C' p m' (g.back (e1.trans e2) D2 (by omega)) H ?_
     have e:m-1-m'+1=m-m':=by omega
     rw[e] at W;exact W
  have hD:=s.d
  obtain⟨mx,sd,nm,ls,h1,h2,h3,h4,h5,hal⟩:=s.d
  refine⟨_,rfl,_,rfl,Xr (λc=>?_) (λc=>Zl (t7 C 0 Ez.refl hD (by decide) (by decide) λe=>absurd rfl e))⟩
  refine⟨_,rfl,_,_,_,_,rfl,rfl,.inl h1,yJ,_,rfl,Xr (λc2=>?_) (λc2=>t7 C 0 Ez.refl hD (by decide) (by decide) λe=>absurd rfl e)⟩
  refine⟨_,rfl,?_⟩
  dsimp only[Zq,Zr,eC]
  refine J6 (n:=n+3*f+6) hD (by decide) (Qk (by decide) (by decide)) λr C2 x2 D2 r0 r1=>?_
  exact t7 C2 r x2.ez D2 r0 r1 λ_=>⟨λe=>(by have:=of_decide_eq_true c;omega),of_decide_eq_true c2⟩
def xZ (f:Nat):Ar f:=by
 induction f with
 | zero=>exact ym λf' e=>by omega
 | succ f ih=>exact ym λf' e=>by cases e;exact ih
end
def E1 (d:Addr)(C C':Hw):Prop:=∀c w,c≠d->C c=some w->C' c=some w
def E1.refl (d:Addr)(C:Hw):E1 d C C:=λ_ _ _ h=>h
def E1.trans {d:Addr}{C C1 C2:Hw}(a:E1 d C C1)(b:E1 d C1 C2):E1 d C C2:=λc w n h=>b c w n (a c w n h)
def CD (kv:List (Zz×T))(θ:Nat->Kd)(N:Nat):Prop:=(∀i v,Yl kv (ik i)=some v->v=Zy (θ i))/\∃qs,KD kv qs N
def vA {k:Kd}{m:Nat}(h:Pk m k):WL.eqT (Zy k) (Zy k)=true:=N7 _ (Xy h (XE _))
section
variable {d:Addr}{θ:Nat->Kd}{N:Nat}
def yp:∀(m n:Nat) (k:Kd) (kv:List (Zz×T)) (C:Hw) {Q:WK} {χ:WX},Pk m (k.put θ)->m<=40->(∀i∈k.ops,i<N)->N<=9000->CD kv θ N->C d=some (.dic kv)->
  (∀C' kv',E1 d C C'->C' d=some (.dic kv')->CD kv' θ N->Q (.bl true) C')->Ya pr (n+m) Lr [Zy k,Zy (k.put θ),.ref d] C Q χ
 | 0,_,_,_,_,_,_,h,_,_,_,_,_,_=>h.elim
 | m+1,n,k,kv,C,Q,χ,hp,hm,hk,hN,hc,hd,q=>by
  refine Ln (n:=n+m) rfl ?_
  have many:∀(g:Str) (ps:List Kd),(g=="open")=false->ps.length<=2->(∀a∈ps,Pk m (a.put θ))->(∀a∈ps,∀i∈a.ops,i<N)->Zy k=.tup (.str g::ps.map Zy)->Zy (k.put θ)=.tup (.str g::ps.map λa=>Zy (a.put θ))->
    Jz (Ya pr (n+m)) {nx:=λ_ C'=>Q .non C',rt:=Q,xc:=χ} [some (Zy k),some (Zy (k.put θ)),some (.ref d),none,none] C:=by
   intro g ps hg hl hps hops e1 e2
   unfold Jz Xl
   rw[e1,e2]
   refine⟨_,rfl,"tuple",rfl,_,rfl,Zl ?_⟩
   refine⟨_,rfl,_,rfl,Qp rfl ⟨_,rfl,Lh ?_ ?_⟩⟩
   ·exact beq_eq_false_iff_ne.mpr (by rw[YF];omega)
   refine⟨_,rfl,_,Zv,Zx (v:=false) hg ⟨_,rfl,Zl ?_⟩⟩
   refine⟨_,rfl,_,Zv,_,rfl,_,Zv,fR (v:=true) (XU _) ⟨_,rfl,Zl ?_⟩⟩
   refine⟨_,rfl,_,rfl,_,rfl,_,rfl,gQ (v:=true) (by rw[YF,YF,XI,XI];exact XU _) ⟨_,rfl,Zl ?_⟩⟩
   refine⟨_,rfl,_,rfl,Go,_,rfl,_,rfl,Go,?_⟩
   rw[Sj,Sj]
   refine .inl ⟨_,_,rfl,by rw[XI,XI],?_⟩
   refine Uq (λi τ C'=>∃(kv':List (Zz×T)) (x3 x4:Option T),τ=[some (.tup (.str g::ps.map Zy)),some (.tup (.str g::ps.map λa=>Zy (a.put θ))),some (.ref d),x3,x4]/\E1 d C C'/\C' d=some (.dic kv')/\CD kv' θ N) ⟨kv,_,_,rfl,E1.refl _ _,hd,hc⟩ (λ_ _ _ _ _=>trivial) ?_ ?_
   ·rintro i v τ C2 M hv ⟨kv2,z3,z4,rfl,x2,d2,c2⟩ hM
    obtain⟨b,hb,rfl⟩:∃b,ps[i]?=some b/\v=.tup [Zy b,Zy (b.put θ)]:=by
     unfold Ml at hv
     rw[List.getElem?_zipWith,XM,XM] at hv
     cases e:ps[i]? with
     | none=>rw[e] at hv;cases hv
     | some b=>rw[e] at hv;exact⟨b,rfl,(YH hv).symm⟩
    refine⟨_,rfl,_,_,rfl,_,_,rfl,rfl,?_⟩
    refine⟨_,rfl,_,rfl,_,rfl,?_⟩
    dsimp only[Zq]
    exact yp m n b kv2 C2 (hps b (List.mem_of_getElem? hb)) (by omega) (hops b (List.mem_of_getElem? hb)) hN c2 d2 λC3 kv3 x3 d3 c3=>⟨true,rfl,Zl (hM _ _ ⟨kv3,_,_,rfl,x2.trans x3,d3,c3⟩)⟩
   ·rintro τ C2 ⟨kv2,z3,z4,rfl,x2,d2,c2⟩
    exact q C2 kv2 x2 d2 c2
  have tag:∀g ps,k.put θ=.k0 g/\ps=([]:List Kd)\/(∃a,k.put θ=.k1 g a/\ps=[a])\/(∃a b,k.put θ=.k2 g a b/\ps=[a,b])->(g=="open")=false/\∀a∈ps,Pk m a:=by
   intro g ps h
   rcases hp with e | e | ⟨x,e,h1⟩ | ⟨x,y,e,h1,h2⟩ | ⟨x,y,e,h1,h2⟩<;>rw[e] at h
   ·rcases h with⟨e,rfl⟩ | ⟨_,e,_⟩ | ⟨_,_,e,_⟩<;>cases e
    exact⟨by decide+kernel,λa h=>by cases h⟩
   ·rcases h with⟨e,rfl⟩ | ⟨_,e,_⟩ | ⟨_,_,e,_⟩<;>cases e
    exact⟨by decide+kernel,λa h=>by cases h⟩
   ·rcases h with⟨e,_⟩ | ⟨_,e,rfl⟩ | ⟨_,_,e,_⟩<;>cases e
    exact⟨by decide+kernel,λa h=>by rw[XQ.mp h];exact h1⟩
   ·rcases h with⟨e,_⟩ | ⟨_,e,_⟩ | ⟨_,_,e,rfl⟩<;>cases e
    exact⟨by decide+kernel,λa h=>by simp only[ZM,ZN,or_false] at h;rcases h with rfl | rfl;exact h1;exact h2⟩
   ·rcases h with⟨e,_⟩ | ⟨_,e,_⟩ | ⟨_,_,e,rfl⟩<;>cases e
    exact⟨by decide+kernel,λa h=>by simp only[ZM,ZN,or_false] at h;rcases h with rfl | rfl;exact h1;exact h2⟩
  cases k with
  | op i=>
   have hp':Pk (m+1) (θ i):=hp
   have fl:Yk (Zy (θ i)):=Xy hp' (by show m+1<=100;omega)
   unfold Jz Xl
   refine⟨_,rfl,"tuple",rfl,_,rfl,Zl ?_⟩
   refine⟨_,rfl,_,rfl,Qp (v:=false) rfl ⟨_,rfl,Zl ?_⟩⟩
   refine⟨_,rfl,_,Zv,Zx (v:=true) (by decide+kernel) ⟨_,rfl,Yf ?_⟩⟩
   refine⟨_,rfl,_,rfl,Qp (v:=true) rfl ⟨_,rfl,Yf ?_⟩⟩
   obtain⟨c1,qs,c2⟩:=hc
   have hl:=c2.len
   refine⟨_,rfl,⟨_,_,rfl,hd⟩,_,rfl,_,Ym,_,rfl,?_⟩
   refine⟨_,_,_,rfl,rfl,hd,Yu (by omega),λv hv=>?_,λhv=>?_⟩
   ·have e:v=Zy (θ i):=c1 i v hv
    subst e
    exact⟨_,rfl,Kq (vA hp') fl fl (q C kv (E1.refl _ _) hd ⟨c1,qs,c2⟩)⟩
   ·refine⟨_,rfl,Kq (vA hp') fl fl (q _ _ (λc w n h=>by rw[Zg n];exact h) Ze ⟨λj v hj=>?_,qs++[i],c2.put (λh=>?_) (hk i (by simp[Kd.ops]))⟩)⟩
    ·rw[I0] at hj
     split at hj
     ·rename_i e;cases hj;rw[zH e];rfl
     ·exact c1 j v hj
    ·have:=c2.mem.mpr h
     have hv':Yl kv (ik i)=none:=hv
     rw[hv'] at this;cases this
  | k0 g=>
   obtain⟨t1,t2⟩:=tag g [] (.inl ⟨rfl,rfl⟩)
   exact many g [] t1 (by decide) (λa h=>by cases h) (λa h=>by cases h) rfl rfl
  | k1 g a=>
   obtain⟨t1,t2⟩:=tag g [a.put θ] (.inr (.inl ⟨_,rfl,rfl⟩))
   exact many g [a] t1 (ZNB rfl) (λb h=>by rw[XQ.mp h];exact t2 _ (XQ.mpr rfl)) (λb h i hi=>by rw[XQ.mp h] at hi;exact hk i hi) rfl rfl
  | k2 g a b=>
   obtain⟨t1,t2⟩:=tag g [a.put θ,b.put θ] (.inr (.inr ⟨_,_,rfl,rfl⟩))
   refine many g [a,b] t1 (ZNB rfl) (λc h=>?_) (λc h i hi=>?_) rfl rfl
   ·simp only[ZM,ZN,or_false] at h
    rcases h with rfl | rfl
    ·exact t2 _ (by simp)
    ·exact t2 _ (by simp)
   ·simp only[ZM,ZN,or_false] at h
    rcases h with rfl | rfl
    ·exact hk i (by simp[Kd.ops,hi])
    ·exact hk i (by simp[Kd.ops,hi])
end
def M5 {xs:List T}{n:Nat}(h:Y5 (.tup xs) n=true):∃n',n=n'+1/\Yr xs n'=true:=by
 cases n with
 | zero=>unfold Y5 at h;cases h
 | succ n=>unfold Y5 at h;exact⟨n,rfl,h⟩
def N2 {θ:Nat->Kd}:∀{n:Nat} {k:Kd},Y5 (Zy (k.put θ)) n=true->Y5 (Zy k) n=true
 | n,.op i,h=>by
  obtain⟨xs,e⟩:=Eo (θ i)
  have h:Y5 (Zy (θ i)) n=true:=h
  rw[e] at h
  obtain⟨n',rfl,_⟩:=M5 h
  simp[Zy,Y5,Yr]
 | n,.k0 g,h=>h
 | n,.k1 g a,h=>by
  obtain⟨n',rfl,h'⟩:=M5 (xs:=[.str g,Zy (a.put θ)]) h
  simp only[Yr,Bool.and_eq_true,Bool.and_true] at h'
  have:=N2 h'.2
  simp[Zy,Y5,Yr,this]
 | n,.k2 g a b,h=>by
  obtain⟨n',rfl,h'⟩:=M5 (xs:=[.str g,Zy (a.put θ),Zy (b.put θ)]) h
  simp only[Yr,Bool.and_eq_true,Bool.and_true] at h'
  have h1:=N2 h'.2.1
  have h2:=N2 h'.2.2
  simp[Zy,Y5,Yr,h1,h2]
def rW {k:Kd}{C:Hw}{Q:WK}(fk:Yk (Zy k))(q:Q (.bl false) C):Oi true (Zy k) (Zy k) C Q:=by
 have e:=N7 _ fk
 cases k<;>(refine⟨fk,fk,?_⟩;show Q (.bl (!_)) C;rw[e];exact q)
section
variable {C C':Hw}{Q:WK}{χ:WX}{n f:Nat}{t:Tr}{w:Kd}{R:List Kd}{po:Addr}{u:Int}{a l:Addr}{m:Int}
def wq {m:Nat}{N:Nat}(hN:m+8<=N)(hc:Cd m [] t)(hl:t.lok)(hm:m<=900)(hz:t.size<=600)(hco:t.cost<=6000)(hw:∃k R,HT G0 t k R)
  (q:∀C' k R,Ex C C'->Ax t (k::R)->Q (Zy k) C'):Ya pr N jD [tt t] C Q χ:=by
 obtain⟨n,rfl⟩:∃n,N=n+m+7+1:=⟨N-(m+8),by omega⟩
 refine jj rfl ?_
 unfold Mo La
 refine⟨_,rfl,?_⟩
 dsimp only[Zq]
 refine yn (n:=n) hc hl hm hz hco hw λC1 p R x1 f1 e1 b1 _=>?_
 obtain⟨k,hk⟩:=b1.is
 obtain⟨R',rfl⟩:=hk.head
 exact⟨_,_,e1,Zv,q C1 k R' x1 b1⟩
def Ec {N:Nat}(hN:f+50<=N)(hf:f<=30)(ho:C po=some (.lst (R.map Zy)))(hR:∀r∈R,Pk 30 r)(h:HT G0 t w R)(hw:Wf f [] t u)(hu:u<=40)(q:∀C',Ex C C'->Q (.bl true) C'):Ya pr N Ey [tt t,.ref po] C Q χ:=by
 obtain⟨n,rfl⟩:∃n,N=n+f+49+1:=⟨N-(f+50),by omega⟩
 refine Fv rfl ?_
 unfold T1 Su
 have hz:t.size<=241:=by have:=hw.s;omega
 have hk:=hw.k
 refine⟨_,rfl,?_⟩
 dsimp only[Zq]
 have e50:n+f+49=(n+41)+(f+1)+7:=by omega
 have pp:∀{C:Hw} {Q:WK},(∀C' p R,Ex C C'->C p=none->C' p=some (.lst (R.map Zy))->Ax t R->(∃n,ext [] (R.map Kd.ops).flatten=List.range n/\n<=1+t.cost)->Q (.ref p) C')->Ya pr (n+f+49) yH [tt t] C Q χ:=λ{C Q} q=>by
  rw[e50]
  exact yn hw.c hw.l (by omega) (by omega) (by omega) ⟨_,_,h⟩ q
 refine pp λC1 p1 R1 x1 f1 P1 b1 n1=>?_
 obtain⟨nn,en,ln⟩:=n1
 obtain⟨θ,rfl⟩:=b1.wide w R h
 obtain⟨k1,hk1⟩:=b1.is
 obtain⟨R1',rfl⟩:=hk1.head
 have fl:∀k∈k1::R1',Yk (Zy k):=λk hk=>N2 (θ:=θ) (Xy (hR _ (XR.mpr ⟨k,hk,rfl⟩)) (by decide))
 have o1:=x1 _ _ ho
 have hlen:=HT.len hk1
 refine⟨_,rfl,"list",.inl ⟨rfl,_,P1⟩,_,rfl,Zl ?_⟩
 refine⟨_,rfl,_,rfl,_,P1,_,rfl,_,rfl,_,o1,gQ (v:=true) (by rw[XI,XI,XI];exact XU _) ⟨_,rfl,Zl ?_⟩⟩
 refine⟨_,rfl,?_⟩
 dsimp only[Zq]
 refine wq (m:=f+1) (by omega) hw.c hw.l (by omega) (by omega) (by omega) ⟨_,_,h⟩ λC2 k2 R2 x2 b2=>?_
 have P2:=x2 _ _ P1
 have e2:=vP b2 b1
 cases e2
 refine⟨_,rfl,_,_,P2,Zv,rW (fl k1 (List.mem_cons_self ..)) ⟨_,rfl,Zl ?_⟩⟩
 intro d hd
 have x3:=Ex.new (o:=.dic []) hd
 have P3:=x3 _ _ P2
 have o3:=x3 _ _ (x2 _ _ o1)
 have nd1:p1≠d:=Jq P2 hd
 have nd2:po≠d:=Jq (x2 _ _ o1) hd
 have d3:up C2 d (.dic []) d=some (.dic []):=Ze
 have fd:∀c o,C c=some o->c≠d:=λc o e=>Jq (x2 _ _ (x1 _ _ e)) hd
 have x03:Ex C (up C2 d (.dic [])):=(x1.trans x2).trans x3
 generalize up C2 d (.dic [])=C3 at x3 P3 o3 d3 x03
 have hops:∀k∈k1::R1',∀i∈k.ops,i<nn:=λk hk i hi=>by
  have:=tw hk hi
  have e:iF (k1::R1')=List.range nn:=en
  rw[e] at this
  exact List.mem_range.mp this
 refine⟨_,rfl,_,rfl,.inr (.inr ⟨_,_,_,_,rfl,P3,o3,by rw[XI,XI,XI],?_⟩)⟩
 refine Uq (λi τ C'=>∃(kv':List (Zz×T)) (x4 x5:Option T),τ=[some (tt t),some (.ref po),some (.ref p1),some (.ref d),x4,x5]/\E1 d C3 C'/\C' d=some (.dic kv')/\CD kv' θ nn) ⟨[],_,_,rfl,E1.refl _ _,d3,⟨λi v h=>(by cases h),[],rfl,List.nodup_nil,λq h=>(by cases h)⟩⟩ (λi τ C' _ h=>by obtain⟨_,_,_,_,h,_⟩:=h;exact⟨h _ _ nd1 P3,h _ _ nd2 o3⟩) ?_ ?_
 ·rintro i v τ C4 M hv ⟨kv4,z4,z5,rfl,x4,d4,c4⟩ hM
  obtain⟨b,hb,rfl⟩:∃b,(k1::R1')[i]?=some b/\v=.tup [Zy b,Zy (b.put θ)]:=by
   unfold Ml at hv
   rw[List.getElem?_zipWith,XM,YE,XM] at hv
   cases e:(k1::R1')[i]? with
   | none=>rw[e] at hv;cases hv
   | some b=>rw[e] at hv;exact⟨b,rfl,(YH hv).symm⟩
  have hm:=List.mem_of_getElem? hb
  refine⟨_,rfl,_,_,rfl,_,_,rfl,rfl,?_⟩
  refine⟨_,rfl,_,rfl,_,rfl,?_⟩
  dsimp only[Zq]
  have e30:n+f+49=(n+f+19)+30:=by omega
  rw[e30]
  exact yp 30 (n+f+19) b kv4 C4 (hR _ (XR.mpr ⟨b,hm,rfl⟩)) (by decide) (hops b hm) (by omega) c4 d4 λC5 kv5 x5 d5 c5=>⟨true,rfl,Zl (hM _ _ ⟨kv5,_,_,rfl,x4.trans x5,d5,c5⟩)⟩
 ·rintro τ C4 ⟨kv4,z4,z5,rfl,x4,d4,c4⟩
  exact q C4 λc o e=>x4 c o (fd c o e) (x03 c o e)
def fT {v1 v2 v3 v4 v5:T}:Yx [] [(.inr "mixed",v1),(.inr "seed",v2),(.inr "number",v3),(.inr "left",v4),(.inr "inner",v5)]=[(.inr "mixed",v1),(.inr "seed",v2),(.inr "number",v3),(.inr "left",v4),(.inr "inner",v5)]:=by
 simp only[Yx,List.foldl,Y0,List.any,iN,iM,gS,n04,iL,gR,iK,n23,iJ,iI,decide_false,Bool.or_false,Bool.false_eq_true,if_false,List.nil_append,List.cons_append]
def ql {cs:List Int}{pc:Addr}{mx:Bool}(hc:C pc=some (.lst (cs.map T.int)))(hl:cs.length<=1000)(q:∀a l C',Ex C C'->C a=none->Dl C' a l 40->Q (.ref a) C'):Ya pr (n+1) Bv [.ref pc,.bl mx] C Q χ:=by
 refine Cj rfl ?_
 unfold Qc Q9
 refine⟨_,rfl,_,hc,?_⟩
 refine Uq (λi τ C'=>∃(v:Int) (x3:Option T),τ=[some (.ref pc),some (.bl mx),some (.int v),x3,none]/\C'=C/\0<=v/\v<2147483647) ⟨7919,_,rfl,rfl,by decide,by decide⟩ (λi τ C' _ h=>by obtain⟨_,_,_,rfl,_⟩:=h;exact hc) ?_ ?_
 ·rintro i y τ C' N hy ⟨v,x3,rfl,rfl,v0,v1⟩ hN
  rw[XM] at hy
  obtain⟨c,hc',rfl⟩:∃c,cs[i]?=some c/\y=.int c:=by
   cases e:cs[i]? with
   | none=>rw[e] at hy;cases hy
   | some c=>rw[e] at hy;exact⟨c,rfl,(YH hy).symm⟩
  refine⟨_,rfl,.inr ⟨by decide,by decide⟩,_,rfl,by decide,?_⟩
  exact hN _ _ ⟨_,_,rfl,rfl,YO _ (by decide),Int.emod_lt_of_pos _ (by decide)⟩
 ·rintro τ C' ⟨v,x3,rfl,rfl,v0,v1⟩
  refine⟨_,rfl,_,_,rfl,hc,?_⟩
  refine Xt (λt=>match t with | .int c=>.int (if 0-c>c then 0-c else c) | _=>.non) hc (by rw[List.length_reverse,XI];exact Vq (by omega)) (λx hx R hR=>?_) λpl hpl=>?_
  ·rw[List.mem_reverse] at hx
   obtain⟨c,_,rfl⟩:=XR.mp hx
   exact⟨_,rfl,_,rfl,_,_,rfl,hR⟩
  have e:((cs.map T.int).reverse.map λt=>match t with | .int c=>T.int (if 0-c>c then 0-c else c) | _=>.non)=(cs.reverse.map λc=>if 0-c>c then 0-c else c).map T.int:=by
   rw[<-List.map_reverse,YE,YE];rfl
  rw[e]
  intro pa hpa
  have x1:=Ex.new (o:=.lst ((cs.reverse.map λc=>if 0-c>c then 0-c else c).map T.int)) hpl
  have L2:up (up C' pl (.lst ((cs.reverse.map λc=>if 0-c>c then 0-c else c).map T.int))) pa (.dic []) pl=_:=(Ex.new hpa) _ _ Ze
  have nal:pa≠pl:=λe=>by rw[e,Ze] at hpa;cases hpa
  refine⟨_,rfl,_,rfl,_,rfl,_,rfl,_,rfl,_,rfl,_,rfl,_,rfl,Ze,ZNB rfl,?_⟩
  rw[fT]
  refine q pa pl _ (λc o e=>?_) (x1.free hpa) ⟨mx,v,0,_,Ze,by rw[Zg nal.symm];exact L2,by decide,λy hy=>?_,⟨v0,v1⟩,nal⟩
  ·have h1:c≠pa:=Jq (x1 _ _ e) hpa
   rw[Zg h1,Zg h1];exact x1 _ _ e
  ·obtain⟨c,_,rfl⟩:=XR.mp hy
   split<;>omega
end
def yU {α β:Type}{xs:List α}{f:α->β}{lo hi:Option Int}:Fb (xs.map f) lo hi=(Fb xs lo hi).map f:=by
 unfold Fb
 rw[XI,List.map_take,List.map_drop]
def tY {α:Type}{xs:List α}{lo hi:Option Int}:(Fb xs lo hi).length<=xs.length:=by
 unfold Fb
 rw[YM,List.length_drop];omega
def law_true (ns:List Int)(h63:ns.length<=63):Ya pr 100 lM [.cl (ns.map T.int)] (λ_=>none) (λv _=>v=.bl true) (λ_ _=>False):=by
 refine nJ rfl ?_
 unfold w_law je
 refine⟨_,rfl,_,rfl,_,rfl,λpc hpc=>?_⟩
 rw[yU]
 have lc:=tY (xs:=ns) (lo:=some 1) (hi:=some 63)
 generalize Fb ns (some 1) (some 63)=cs at lc
 have C1:up (λ_=>none) pc (.lst (cs.map T.int)) pc=some (.lst (cs.map T.int)):=Ze
 generalize up (λ_=>none) pc (.lst (cs.map T.int))=H1 at C1
 refine⟨_,rfl,_,rfl,λp2 hp2=>?_⟩
 rw[yU]
 refine⟨_,_,rfl,Ze,by decide,Qp rfl ?_⟩
 dsimp only[Zq]
 refine ql (n:=98) ((Ex.new hp2) _ _ C1) (by omega) λa l H3 x3 f3 D3=>?_
 refine⟨ZNB rfl,λp4 hp4=>⟨_,rfl,?_⟩⟩
 dsimp only[Zq,Zr,eC]
 have D4:=D3.ex (Ex.new (o:=.lst [.int 9,.int 22,.int 9]) hp4)
 refine J6 (n:=98) D4 (by decide) (Qk (by decide) (by decide)) λr H5 x5 D5 r0 r1=>?_
 have P5:=x5 p4 _ (D3.ne hp4).1 (D3.ne hp4).2 Ze
 have hf:∃f:Nat,Pe [T.int 9,.int 22,.int 9] r=some (.int f)/\f<=22:=by
  have:r=0\/r=1\/r=2:=by omega
  rcases this with rfl | rfl | rfl
  ·exact⟨9,Zv,by decide⟩
  ·exact⟨22,Ym,by decide⟩
  ·exact⟨9,Vb,by decide⟩
 obtain⟨f,hf1,hf⟩:=hf
 refine⟨_,_,P5,hf1,?_⟩
 refine⟨_,rfl,_,rfl,?_⟩
 dsimp only[Zq,Zr,eC]
 refine Pb (by decide) D5 λk H6 x6 D6 hk=>?_
 intro nd hnd
 have D7:=D6.ex (Ex.new (o:=.dic []) hnd)
 refine⟨_,rfl,?_⟩
 dsimp only[Zq]
 have sx:Sx f (up H6 nd (.dic [])) a l 40 nd [] G0 []:=⟨D7,by decide,by decide,.inl Ze,(D6.ne hnd).1,(D6.ne hnd).2,λe h=>(by cases h),(by show 0+10*f<=5000;omega),hf⟩
 refine Ar.at (xZ f) (by omega) sx (iD hf hk) λt R H8 p m' g8 HT8 W8=>?_
 refine⟨_,rfl,_,_,rfl,_,_,rfl,rfl,?_⟩
 have np:=g8.ne D7
 obtain⟨mx,sd,nm,ls,h1,h2,h3,h4,h5,hal⟩:=g8.d
 refine⟨_,rfl,_,_,_,rfl,rfl,h1,ZNB rfl,?_⟩
 rw[yy]
 have D9:Dl (up H8 a (.dic (dk mx sd nm l 6))) a l 6:=⟨mx,sd,nm,ls,Ze,by rw[Zg hal.symm];exact h2,h3,h4,h5,hal⟩
 have P9:up H8 a (.dic (dk mx sd nm l 6)) p=some (.lst (R.map Zy)):=by rw[Zg np.1];exact g8.p
 generalize up H8 a (.dic (dk mx sd nm l 6))=H9 at D9 P9
 refine⟨_,rfl,_,rfl,?_⟩
 dsimp only[Zq,Zr,eC]
 refine Ia 2 95 D9 λk2 H10 x10 D10 hk2=>?_
 intro nd2 hnd2
 have D11:=D10.ex (Ex.new (o:=.dic []) hnd2)
 have sx2:Sx 4 (up H10 nd2 (.dic [])) a l 6 nd2 [] G0 []:=⟨D11,by decide,by decide,.inl Ze,(D10.ne hnd2).1,(D10.ne hnd2).2,λe h=>(by cases h),by decide,by decide⟩
 have P11:=(Ex.new (o:=.dic []) hnd2) _ _ (x10 p _ np.1 np.2 P9)
 refine Ar.at (xZ 4) (by decide) sx2 (Jr (by decide) hk2) λt2 R2 H12 p12 m12 g12 HT12 W12=>?_
 refine⟨_,rfl,_,_,rfl,_,_,rfl,rfl,?_⟩
 have P12:=g12.ez.lst P11 np.1 np.2
 have u1:40-m'<=40:=by have:=g8.m0;omega
 have u2:6-m12<=40:=by have:=g12.m0;omega
 refine⟨_,rfl,_,rfl,?_⟩
 dsimp only[Zq]
 refine Ec (by omega) (by omega) P12 g8.r HT8 W8 u1 λH13 x13=>⟨_,rfl,Yf ?_⟩
 refine⟨_,rfl,_,rfl,?_⟩
 dsimp only[Zq]
 refine Ec (by decide) (by decide) (x13 _ _ g12.p) g12.r HT12 W12 u2 λH14 x14=>⟨_,rfl,Yf ?_⟩
 refine⟨_,rfl,_,rfl,?_⟩
 dsimp only[Zq]
 exact Ec (by omega) (by omega) (x14 _ _ (x13 _ _ P12)) g8.r HT8 W8 u1 λH15 x15=>rfl
end K23
open PySem PySem.W PyProof.Rows
def PySem.W.Fast.tw1739121093862111663:=True
def PySem.W.Fast.tw11919963171055012599:=True
def PySem.W.Fast.tw5343428762082256170:=True
def PySem.W.Fast.tw15977029702278872328:PySem.Program:=PySem.Challenge.pw_idlegraph_k23_whole_no_kind_too_narrow
def PySem.W.Fast.te15977029702278872328:PySem.Challenge.pw_idlegraph_k23_whole_no_kind_too_narrow=PySem.W.Fast.tw15977029702278872328:=rfl
def PySem.W.Fast.tw3624780822689422314:=True
def PySem.W.Fast.tw17117780565829681195:=True
def PySem.W.Fast.tw16930566776915109524:=True
def PySem.W.Fast.tw8809117140480582020:=True
def PySem.W.Fast.tw14423353188571530249:=True
def PySem.W.Fast.tw2520789331201992428:=True
def PySem.W.Fast.tw4834622586846965676:=True
def PySem.W.Fast.tw9926046806138810147:=True
def PySem.W.Fast.tw9666155464185597587:=True
def PySem.W.Fast.tw5620846555007856354:=True
def PySem.W.Fast.tw15021632743841104751:=True
def PySem.W.Fast.tw1901531127659369091:=True
def PySem.W.Fast.tw335211920439657599:=True
def PySem.W.Fast.tw11757130074286252373:=True
def PySem.W.Fast.tw13978466597687648683:=True
def PySem.W.Fast.tw1726317605223121333:=True
def PySem.W.Fast.tw7423772629699307386:=True
def PySem.W.Fast.tw18143327466689082736:=True
def PySem.W.Fast.tw16359284021942522015:=True
def PySem.W.Fast.tw13857439845110842009:=True
def PySem.W.Fast.tw13316613811347306194:=True
def PySem.W.Fast.tw14485696511046392835:=True
def PySem.W.Fast.tw422911440211693850:=True
def PySem.W.Fast.tw395531733674879128:=True
def PySem.W.Fast.tw2711314145531354427:=True
def PySem.W.Fast.tw14220267468948440304:=True
def PySem.W.Fast.tw11461827729770111907:=True
def PySem.W.Fast.tw14471458442763022742:=True
def PySem.W.Fast.tw130176542942188344:=True
def PySem.W.Fast.tw18091780344584174276:=True
def PySem.W.Fast.tw13789820110401825032:=True
def PySem.W.Fast.tw10475951040898059930:=True
def PySem.W.Fast.tw3600496703992427392:=True
def PySem.W.Fast.tw16785833809517552108:=True
def PySem.W.Fast.tw184015888813371097:=True
def PySem.W.Fast.tw9474749927691351451:=True
def PySem.W.Fast.tw5210872217834664486:=True
def PySem.W.Fast.tw767908803574149044:=True
def PySem.W.Fast.tw18348898842490372840:=True
def PySem.W.Fast.tw12861042789718122264:=True
def PySem.W.Fast.tw12986504394020883700:=True
def PySem.W.Fast.tw15716464849019737373:=True
def PySem.W.Fast.tw6255954248751542668:=True
def PySem.W.Fast.tw4008632397674591918:=True
def PySem.W.Fast.tw9920683710566685714:=True
def PySem.W.Fast.tw7979872636358741017:=True
def PySem.W.Fast.tw6025829793623532186:=True
def PySem.W.Fast.tw719031682067256573:=True
def PySem.W.Fast.tw5176202669865501800:=True
def PySem.W.Fast.tw14085538337914422458:=True
def PySem.W.Fast.tw10087439615885768774:=True
def PySem.W.Fast.tw15759223155281661684:=True
def PySem.W.Fast.tw9596338395511820826:=True
def PySem.W.Fast.tw2780636798620865556:=True
def PySem.W.Fast.tw4455289045954818914:=True
def PySem.W.Fast.tw13227759177837967071:=True
def PySem.W.Fast.tw9601797969431812764:=True
def PySem.W.Fast.tw12541479173545095143:=True
def PySem.W.Fast.tw8229563879506512505:=True
def PySem.W.Fast.tw13563562420114665617:=True
def PySem.W.Fast.tw13277957034204596892:=True
def PySem.W.Fast.tw11455302394069659956:=True
def PySem.W.Fast.tw4070149232429994140:=True
def PySem.W.Fast.tw8412943542850580250:=True
def PySem.W.Fast.tw3792453642444831344:=True
def PySem.W.Fast.tw4703670488813491103:=True
def PySem.W.Fast.tw10968378617910267556:=True
def PySem.W.Fast.tw5837010441490852978:=True
def PySem.W.Fast.tw2296560128488175809:=True
def PySem.W.Fast.tw1932772724861049262:=True
def PySem.W.Fast.tw10427022364225649323:=True
def PySem.W.Fast.tw18253638812819431314:=True
def PySem.W.Fast.tw7672784150453692827:=True
def PySem.W.Fast.tw2148896536604494189:=True
def PySem.W.Fast.tw5127984543782228718:=True
def PySem.W.Fast.tw1021689158782628346:=True
def PySem.W.Fast.tw3432541646984514740:=True
def PySem.W.Fast.tw3756700833760879769:=True
set_option maxRecDepth 100000 in
set_option maxHeartbeats 0 in
theorem PySem.Challenge.cw_idlegraph_k23_whole_no_kind_too_narrow_holds : PySem.Challenge.rw_idlegraph_k23_whole_no_kind_too_narrow.Holds := by
 w_on;o_law;k_head;(case hw=>w_witness2)
 k_fill
 refine L2.walk_ofK (l:=PySem.Challenge.rw_idlegraph_k23_whole_no_kind_too_narrow) (n:=63) (k:=100) (x:="_law_script") (CX:=L2.CX0) (sp:=λK=>WL.spW K K23.pr 100 35) rfl (by decide) rfl ⟨rfl,by decide,by decide⟩ (λw h Y=>PySem.W.kIn_of Y) ?F (λK H a ns hl hO hS=>WL.law_sp hO hS (K23.law_true ns hl)) (λ_ _ _ _ z=>z)
 case F=>
  intro w mg fa h KX G hmg
  refine' K23.all_mk KX G hmg ?aC_Slots ?pg_Slots ?hd_Slots ?po_Slots ?sa_Slots ?kc_Slots ?mk_Slots ?nf_Slots_forms ?nf_Slots_leads ?gg0_l0 ?gg0_l1 ?gg0_l2 ?gg0_l3 ?gg0_l4 ?mm_l5 ?mm_l6 ?mm_l7 ?mm_l8 ?mm_l9 ?mm_l10 ?mm_l11 ?gg0_l12 ?gg0_l13 ?gg0_l14 ?gg0_l15 ?gg0_l16 ?gg0_l17 ?gg0_l18 ?gg0_l19 ?gg0_l20 ?gg0_l21 ?gg0_l22 ?gg0_l23 ?gg0_l24 ?gg0_l25 ?gg0_l26 ?gg0_l27 ?gg0_l28 ?gg0_l29 ?gg0_l30 ?gg0_l31 ?gg0_l32 ?gg0_l33 ?gg0_l34 ?gg0_l35 ?z_any ?z_dict ?z_int ?z_isinstance ?z_len ?z_list ?z_max ?z_range ?z_reversed ?z_sorted ?z_sum ?z_tuple ?z_zip
  case aC_Slots | pg_Slots | hd_Slots | po_Slots | sa_Slots | kc_Slots | mk_Slots | nf_Slots_forms | nf_Slots_leads | z_any | z_dict | z_int | z_isinstance | z_len | z_list | z_max | z_range | z_reversed | z_sorted | z_sum | z_tuple | z_zip=>k_is
  case gg0_l0 | gg0_l1 | gg0_l2 | gg0_l3 | gg0_l4 | gg0_l12 | gg0_l13 | gg0_l14 | gg0_l15 | gg0_l16 | gg0_l17 | gg0_l18 | gg0_l19 | gg0_l20 | gg0_l21 | gg0_l22 | gg0_l23 | gg0_l24 | gg0_l25 | gg0_l26 | gg0_l27 | gg0_l28 | gg0_l29 | gg0_l30 | gg0_l31 | gg0_l32 | gg0_l33 | gg0_l34 | gg0_l35=>exact⟨_,_,by k_is,⟨_,_,_,_,_,_,_,_,_,rfl,by k_is,by k_is⟩,by k_is⟩
  case mm_l5 | mm_l6 | mm_l7 | mm_l8 | mm_l9 | mm_l10 | mm_l11=>exact⟨_,_,⟨by k_is,by k_is,by k_is⟩,⟨_,_,_,_,_,_,_,_,_,rfl,by k_is,by k_is⟩,by k_is⟩
