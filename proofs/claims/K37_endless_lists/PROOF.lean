import PyProof.Rows.All
import Wide.All
import OpenK.AllK
import Wide.FinOn
import Lean
import PyProof.EqAt
import PyProof.EqKinds
import PyProof.TupleCall
import KE.KRevIter
import KE.KDictList
import PyProof.ZipIter
import PyProof.Draws
import PyProof.DictWalks
import PyProof.AttrMiss
import PyProof.FactsAll.zip_1
import KE.KDictOf
import PyProof.Rows.FStr
import PyProof.AutoSeq1
import PyProof.EnumMake
import PyProof.CallType
import PyProof.Rows.CallKwBuiltin
import PyProof.Rows.StrIntSpec
import PySem.Challenge.RW_idlegraph_k37_endless_lists
set_option Elab.async false
set_option linter.all false
set_option maxRecDepth 100000
set_option maxHeartbeats 4000000
def XA:=@PySem.wpAny_bind
def XB:=@PySem.wpAny_pure
def XC:=@PySem.Heap.get?_push_of_some
def XD:=@PySem.Heap.lt_size
def XE:=@Nat.le_refl
def XF:=@PySem.Heap.get?_push_size
def XG:=@Nat.lt_of_lt_of_le
def XH:=@Nat.ne_of_lt
def XI:=@List.length_map
def XJ:=@List.size_toArray
def XL:=@List.map_append
def XM:=@List.getElem?_map
def XN:=@Nat.le_trans
def XO:=@Nat.zero_le
def XQ:=@List.mem_singleton
def XR:=@List.mem_map
def XS:=@List.mem_append
def XT:=@List.mem_append_right
def XU:=@beq_self_eq_true
def XV:=@List.mem_cons_of_mem
def XW:=@Int.le_refl
def XX:=@if_neg
def XY:=@if_pos
def XZ:=@PySem.F.plainAttrs_list
def YA:=@PySem.F.type_list_append
def YB:=@PySem.F.slot_list_append
def YC:=@PySem.Str.length_append
def YD:=@List.take_add_one
def YE:=@List.map_map
def YF:=@List.length_cons
def YG:=@decide_eq_false
def YH:=@Option.some.inj
def YI:=@List.map_cons
def YJ:=@Bool.false_ne_true
def YK:=@List.append_nil
def YL:=@List.append_assoc
def YM:=@List.length_take
def YN:=@List.getElem_mem
def YO:=@Int.emod_nonneg
theorem ZNB {a b:Nat} (h:Nat.ble a b=true):a≤b:=Nat.le_of_ble_eq_true h
theorem ZM {α:Type}{x a:α}{l:List α}:x∈a::l↔x=a∨x∈l:=List.mem_cons
theorem ZN {α:Type}{x:α}:x∈([]:List α)↔False:=⟨List.not_mem_nil,False.elim⟩
namespace L2
open PySem PySem.Spec PyProof.Rows
abbrev Key:=Sum Int Str
def Zko:Key→Value→Bool
 | .inl k,v=>Value.isInt k v
 | .inr x,v=>Value.isStrOf x v
def keyH (w:World):Key→Int
 | .inl k=>hashInt k
 | .inr x=>hashStr w x
theorem J3:∀{k:Key} {v:Value},Zko k v=true→(∃i t,k=Sum.inl i∧v=Value.int i t)∨(∃x t,k=Sum.inr x∧v=Value.str x t)
 | .inl i,v,h=>by
  obtain⟨t,e⟩:=Value.isInt_shape (k:=i) (v:=v) h
  exact .inl ⟨i,t,rfl,e⟩
 | .inr x,v,h=>by
  obtain⟨t,e⟩:=Value.isStrOf_shape (x:=x) (v:=v) h
  exact .inr ⟨x,t,rfl,e⟩
theorem Zrz (i:Int)(t:Tok):Zko (.inl i) (.int i t)=true:=by simp[Zko,Value.isInt]
theorem Zry (x:Str)(t:Tok):Zko (.inr x) (.str x t)=true:=by simp[Zko,Value.isStrOf]
theorem Z1d (a b:Int):decide ((Sum.inl a:Key)=Sum.inl b)=(a==b):=by
 by_cases e:a=b
 ·subst e;simp
 ·have h:¬(Sum.inl a:Key)=Sum.inl b:=fun q=>e (Sum.inl.inj q)
  rw[YG h]
  exact(beq_eq_false_iff_ne.mpr e).symm
theorem Z1a (a b:Str):decide ((Sum.inr a:Key)=Sum.inr b)=decide (a=b):=by
 by_cases e:a=b
 ·subst e;simp
 ·have h:¬(Sum.inr a:Key)=Sum.inr b:=fun q=>e (Sum.inr.inj q)
  rw[YG h,YG e]
theorem Z1c (a:Int)(b:Str):decide ((Sum.inl a:Key)=Sum.inr b)=false:=YG (fun q=>nomatch q)
theorem Z1b (a:Str)(b:Int):decide ((Sum.inr a:Key)=Sum.inl b)=false:=YG (fun q=>nomatch q)
def Y9 (prog:Program)(w:World):PySem.KeyKind prog w Key where
 is:=Zko
 hash:=keyH w
 inj:=fun v a b ha hb=>by
  rcases J3 ha with⟨i,t,rfl,rfl⟩ | ⟨x,t,rfl,rfl⟩
  ·rcases J3 hb with⟨j,u,rfl,e⟩ | ⟨y,u,rfl,e⟩
   ·injection e with e1 _;rw[e1]
   ·exact nomatch e
  ·rcases J3 hb with⟨j,u,rfl,e⟩ | ⟨y,u,rfl,e⟩
   ·exact nomatch e
   ·injection e with e1 _;rw[e1]
 byValue:=fun k v h=>by
  rcases J3 h with⟨i,t,rfl,rfl⟩ | ⟨x,t,rfl,rfl⟩<;>rfl
 pyHash:=fun hv h=>by
  rcases J3 hv with⟨i,t,rfl,rfl⟩ | ⟨x,t,rfl,rfl⟩
  ·exact wpAny_pyHash_int h
  ·exact wpAny_pyHash_str h
 eqBool:=fun hu hv h=>by
  rcases J3 hu with⟨i,t,rfl,rfl⟩ | ⟨x,t,rfl,rfl⟩
  ·rcases J3 hv with⟨j,u,rfl,rfl⟩ | ⟨y,u,rfl,rfl⟩
   ·rw[Z1d] at h;exact wpAny_eqBool_int h
   ·rw[Z1c] at h;exact SeqAt.EqAt.int_str i t y u _ _ _ _ h
  ·rcases J3 hv with⟨j,u,rfl,rfl⟩ | ⟨y,u,rfl,rfl⟩
   ·rw[Z1b] at h;exact SeqAt.EqAt.str_int x t j u _ _ _ _ h
   ·rw[Z1a] at h;exact wpAny_eqBool_str h
 «strs»:=fun k x t v h=>by
  rcases J3 h with⟨i,u,rfl,e⟩ | ⟨y,u,rfl,e⟩
  ·exact nomatch e
  ·injection e with e1 _
   subst e1
   cases v<;>rfl
theorem Zni (prog:Program)(w:World)(i:Int)(t:Tok):(Y9 prog w).is (.inl i) (.int i t)=true:=Zrz i t
theorem Znh (prog:Program)(w:World)(x:Str)(t:Tok):(Y9 prog w).is (.inr x) (.str x t)=true:=Zry x t
inductive V where
 | non | bl (b:Bool) | int (i:Int) | str (x:Str) | byt (b:Array UInt8) | flt (b:UInt64) | ref (a:Addr) | ty (n:String)
 deriving DecidableEq
def Z3:V→Value→Prop
 | .non,u=>u=Value.none
 | .bl b,u=>u=Value.bool b
 | .int i,u=>∃t,u=Value.int i t
 | .str x,u=>∃t,u=Value.str x t
 | .byt b,u=>∃t,u=Value.bytes b t
 | .flt b,u=>∃t,u=Value.float b t
 | .ref a,u=>u=Value.ref a
 | .ty n,u=>u=Value.type n
abbrev Vals:List V→List Value→Prop:=Paired Z3
theorem Vals.length {xs:List V}{us:List Value}(r:Vals xs us):xs.length=us.length:=Paired.length r
theorem Vals.get:∀{xs:List V} {us:List Value} {i:Nat} {x:V},Vals xs us→xs[i]?=some x→∃u,us[i]?=some u∧Z3 x u
 | _,_,_,_,.nil,e=>by simp at e
 | _,_,0,_,.cons r _,e=>by simp at e;subst e;exact⟨_,rfl,r⟩
 | _,_,i+1,x,.cons _ t,e=>by
  obtain⟨u,h1,h2⟩:=Vals.get (i:=i) (x:=x) t (by simpa using e)
  exact⟨u,by simpa using h1,h2⟩
theorem Vals.append:∀{xs ys:List V} {us ws:List Value},Vals xs us→Vals ys ws→Vals (xs++ys) (us++ws)
 | _,_,_,_,.nil,s=>s
 | _,_,_,_,.cons r t,s=>.cons r (Vals.append t s)
theorem Vals.take:∀{xs:List V} {us:List Value} (n:Nat),Vals xs us→Vals (xs.take n) (us.take n)
 | _,_,0,_=>.nil
 | _,_,_+1,.nil=>.nil
 | _,_,n+1,.cons r t=>.cons r (Vals.take n t)
theorem Vals.drop:∀{xs:List V} {us:List Value} (n:Nat),Vals xs us→Vals (xs.drop n) (us.drop n)
 | _,_,0,r=>r
 | _,_,_+1,.nil=>.nil
 | _,_,n+1,.cons _ t=>Vals.drop n t
def RelO:Option V→Option Value→Prop
 | some v,some u=>Z3 v u
 | none,none=>True
 | _,_=>False
def KV {κ:Type}:List (κ×V)→List (κ×Value)→Prop:=Paired fun (p:κ×V) (q:κ×Value)=>p.1=q.1∧Z3 p.2 q.2
def kV:Key→V
 | .inl i=>.int i
 | .inr x=>.str x
inductive HO where
  | lst (xs:List V)
  | tup (xs:List V)
  | dK (kvs:List (Key×V)) | dT (kvs:List (List Key×V))
  | set (S:Int→Bool) (n:Nat)
  | ins (C dx:Addr) (fs:List (Str×V))
  | own (x:Addr)
  | xd (fs:List (Str×V))
  | met (f x:Addr)
  | rng (lo hi:Int)
  | frz (o:Obj) (u:HO)
  | tbl (ps:Array Value)
  | ext (φ:Heap→Prop)
abbrev Hp:=Addr→Option HO
def upd (H:Hp)(a:Addr)(o:HO):Hp:=fun b=>if b=a then some o else H b
theorem Yh {H:Hp}{a:Addr}{o:HO}:upd H a o a=some o:=by unfold upd;rw[XY rfl]
theorem Z4 {H:Hp}{a b:Addr}{o:HO}(h:b≠a):upd H a o b=H b:=by unfold upd;rw[XX h]
theorem ne_of {H:Hp}{a b:Addr}{o u:HO}(h:H a=some o)(h':H b=some u)(d:o≠u):a≠b:=by
 intro e;subst e;rw[h] at h';exact d (YH h')
theorem J9 {H:Hp}{a b:Addr}{o:HO}(h:H a=some o)(h':H b=none):a≠b:=by
 intro e;subst e;rw[h] at h';cases h'
section
variable (P:Program)(w:World)
def Xb (H:Hp)(h:Heap)(a:Addr):HO→Prop
 | .lst xs=>xs.length≤sizeLine∧∃(its:List Value) (n:Nat),Vals xs its∧h.get? a=some {cls:=.type "list",data:=.seq its.toArray n}
 | .tup xs=>xs.length≤sizeLine∧∃its:List Value,Vals xs its∧IsTup h a its.toArray
 | .dK kvs=>kvs.length≤sizeLine∧(a==sysModules)=false∧∃vs,KV kvs vs∧h.DictOf (Y9 P w) a vs
 | .dT kvs=>kvs.length≤sizeLine∧(a==sysModules)=false∧∃xs:List (List Key×Addr×Value),
   Paired (fun (p:List Key×V) (q:List Key×Addr×Value)=>p.1=q.1∧H q.2.1=some (.tup (p.1.map kV))∧Z3 p.2 q.2.2) kvs xs∧
   ∃o es ep,h.get? a=some o∧o.ExactDict∧o.data=.dict es ep∧es.toList=xs.map (entryOfKey (tupleKind (Y9 P w)))∧(xs.map (·.1)).Nodup
 | .set S n=>h.SetOf (intKind P w) a S n
 | .ins C dx fs=>H dx=some (.own a)∧fs.length≤1000∧dx≠a∧h.get? a=some (W.instObj C dx)∧
   ∃mA,h.Ns1 dx mA∧(∀f,RelO (fs.lookup f) (mA f))∧PySem.Within mA (fs.map (·.1))
 | .own _=>∃o,h.get? a=some o
 | .xd fs=>∃mA,h.Ns1 a mA∧∀f,RelO (fs.lookup f) (mA f)
 | .rng lo hi=>∃t u v,h.get? a=some {cls:=.type "range",data:=.fields #[.int lo t,.int hi u,.int 1 v]}
 | .frz o u=>h.get? a=some o∧Xb H h a u
 | .tbl ps=>h.get? a=some {cls:=.none,data:=.fields ps}
 | .met f x=>h.get? a=some (W.methodObj (.ref f) (.ref x))
 | .ext φ=>φ h∧(∃o,h.get? a=some o)∧∀h1 h2:Heap,φ h1→(∀o,h1.get? a=some o→h2.get? a=some o)→φ h2
def HOk (H:Hp)(h:Heap):Prop:=∀a o,H a=some o→Xb P w H h a o
end
section
variable {P:Program}{w:World}{H H':Hp}{h h':Heap}{a:Addr}{o:HO}
theorem Xb.lt (x:Xb P w H h a o):a<h.objs.size:=by
 cases o with
 | lst xs=>obtain⟨_,_,_,_,e⟩:=x;exact XD e
 | tup xs=>obtain⟨_,_,_,p⟩:=x;exact p.lt
 | dK kvs=>obtain⟨_,_,_,_,o,_,_,e,_⟩:=x;exact XD e
 | dT kvs=>obtain⟨_,_,_,_,o,_,_,e,_⟩:=x;exact XD e
 | set S n=>obtain⟨o,_,_,_,e,_⟩:=x;exact XD e
 | ins C dx fs=>obtain⟨_,_,_,e,_⟩:=x;exact XD e
 | own y=>obtain⟨_,e⟩:=x;exact XD e
 | xd fs=>obtain⟨_,⟨_,_,_,e,_⟩,_⟩:=x;exact XD e
 | rng lo hi=>obtain⟨_,_,_,e⟩:=x;exact XD e
 | frz ob u=>obtain⟨e,_⟩:=x;exact XD e
 | tbl ps=>exact XD (show h.get? a=some _ from x)
 | met f y=>exact XD (show h.get? a=some _ from x)
 | ext φ=>obtain⟨_,⟨_,e⟩,_⟩:=x;exact XD e
theorem Paired.mapP {α β:Type}{F G:α→β→Prop}:∀{l₁:List α} {l₂:List β},Paired F l₁ l₂→(∀a b,F a b→G a b)→Paired G l₁ l₂
 | _,_,.nil,_=>.nil
 | _,_,.cons r t,f=>.cons (f _ _ r) (Paired.mapP t f)
theorem Xb.stay (x:Xb P w H h a o)(k:∀b u,(b=a∨H b=some (.own a))→h.get? b=some u→h'.get? b=some u)
  (ho:∀b,H b=some (.own a)→H' b=some (.own a)) (ht:∀b xs,H b=some (.tup xs)→H' b=some (.tup xs)):Xb P w H' h' a o:=by
 induction o with
 | lst xs=>obtain⟨z,its,n,r,e⟩:=x;exact⟨z,its,n,r,k _ _ (.inl rfl) e⟩
 | tup xs=>obtain⟨z,its,r,ob,e,c⟩:=x;exact⟨z,its,r,ob,k _ _ (.inl rfl) e,c⟩
 | dK kvs=>obtain⟨z,y,vs,r,ob,es,ep,e,c⟩:=x;exact⟨z,y,vs,r,ob,es,ep,k _ _ (.inl rfl) e,c⟩
 | dT kvs=>
  obtain⟨z,y,xs,r,ob,es,ep,e,c⟩:=x
  exact⟨z,y,xs,Paired.mapP r fun p q z=>⟨z.1,ht _ _ z.2.1,z.2.2⟩,ob,es,ep,k _ _ (.inl rfl) e,c⟩
 | set S n=>obtain⟨ob,es,ep,t,e,c⟩:=x;exact⟨ob,es,ep,t,k _ _ (.inl rfl) e,c⟩
 | ins C dx fs=>
  obtain⟨d,z,ne,e,mA,⟨od,es,ep,e2,c⟩,r⟩:=x
  exact⟨ho _ d,z,ne,k _ _ (.inl rfl) e,mA,⟨od,es,ep,k _ _ (.inr d) e2,c⟩,r⟩
 | own y=>obtain⟨ob,e⟩:=x;exact⟨ob,k _ _ (.inl rfl) e⟩
 | xd fs=>obtain⟨mA,⟨od,es,ep,e,c⟩,r⟩:=x;exact⟨mA,⟨od,es,ep,k _ _ (.inl rfl) e,c⟩,r⟩
 | rng lo hi=>obtain⟨t,u,v,e⟩:=x;exact⟨t,u,v,k _ _ (.inl rfl) e⟩
 | frz ob u ih=>obtain⟨e,q⟩:=x;exact⟨k _ _ (.inl rfl) e,ih q⟩
 | tbl ps=>
  have e:h.get? a=some {cls:=.none,data:=.fields ps}:=x
  show h'.get? a=some {cls:=.none,data:=.fields ps}
  exact k a _ (.inl rfl) e
 | met f y=>
  have e:h.get? a=some (W.methodObj (.ref f) (.ref y)):=x
  show h'.get? a=some (W.methodObj (.ref f) (.ref y))
  exact k a _ (.inl rfl) e
 | ext φ=>obtain⟨p,⟨o,e⟩,st⟩:=x;exact⟨st _ _ p fun o q=>k _ _ (.inl rfl) q,⟨o,k _ _ (.inl rfl) e⟩,st⟩
theorem HOk.lt (x:HOk P w H h)(e:H a=some o):a<h.objs.size:=(x a o e).lt
theorem HOk.fresh (x:HOk P w H h)(e:h.objs.size≤a):H a=none:=by
 cases q:H a with
 | none=>rfl
 | some u=>exact absurd (XG (x.lt q) e) (Nat.lt_irrefl _)
theorem HOk.kept (x:HOk P w H h)(k:∀b u,h.get? b=some u→h'.get? b=some u):HOk P w H h':=fun a o e=>
 (x a o e).stay (fun b u _ q=>k b u q) (fun _ q=>q) fun _ _ q=>q
theorem HOk.laid (x:HOk P w H h)(k:∀b u,h.get? b=some u→h'.get? b=some u)(hp:h.objs.size≤a)(new:Xb P w (upd H a o) h' a o):HOk P w (upd H a o) h':=fun b u e=>by
 have hn:=x.fresh hp
 by_cases hb:b=a
 ·subst hb;rw[Yh] at e;cases e;exact new
 ·rw[Z4 hb] at e
  exact(x b u e).stay (fun c v _ q=>k c v q) (fun c q=>by rw[Z4 (J9 q hn)];exact q) fun c xs q=>by rw[Z4 (J9 q hn)];exact q
end
def Rd (H:Hp)(a:Addr)(u:HO):Prop:=H a=some u∨∃o,H a=some (.frz o u)
theorem Rd.ok {P:Program}{w:World}{H:Hp}{h:Heap}{a:Addr}{u:HO}(r:Rd H a u)(x:HOk P w H h):Xb P w H h a u:=by
 rcases r with r | ⟨o,r⟩
 ·exact x a u r
 ·obtain⟨_,q⟩:=x a _ r
  exact q
def Mut:Option HO→Prop
 | some (.lst _)=>True
 | some (.dK _)=>True
 | some (.dT _)=>True
 | some (.set _ _)=>True
 | some (.ins _ _ _)=>True
 | some (.ext _)=>True
 | _=>False
section
variable {P:Program}{w:World}{H:Hp}{h h':Heap}{x e:Addr}{o':HO}
theorem HOk.write (ok:HOk P w H h)(mu:Mut (H x))(he:e=x∨H e=some (.own x))(k:∀b u,b≠e→h.get? b=some u→h'.get? b=some u)(heo:∃u,h'.get? e=some u)
  (new:Xb P w (upd H x o') h' x o'):HOk P w (upd H x o') h':=fun b u q=>by
 have nown:∀c y,H c=some (.own y)→c≠x:=fun c y r z=>by subst z;rw[r] at mu;exact mu
 have ntup:∀c xs,H c=some (.tup xs)→c≠x:=fun c xs r z=>by subst z;rw[r] at mu;exact mu
 by_cases hb:b=x
 ·subst hb;rw[Yh] at q;cases q;exact new
 ·rw[Z4 hb] at q
  by_cases hbe:b=e
  ·have q':H b=some (.own x):=by
    rcases he with z | z
    ·exact absurd (hbe.trans z) hb
    ·rw[hbe];exact z
   rw[q] at q';cases q'
   obtain⟨v,hv⟩:=heo
   exact⟨v,by rw[hbe];exact hv⟩
  ·refine(ok b u q).stay (fun c v hc r=>k c v ?_ r) (fun c r=>by rw[Z4 (nown c b r)];exact r) fun c xs r=>by rw[Z4 (ntup c xs r)];exact r
   rcases hc with rfl | hc
   ·exact hbe
   ·rintro rfl
    rcases he with z | z
    ·exact nown c b hc z
    ·rw[hc] at z;cases z;exact hb rfl
end
structure Un (fs ex:List Addr)(H H':Hp)(h h':Heap):Prop where
 keep:∀b o,h.get? b=some o→H b=none→b∉fs→b∉ex→h'.get? b=some o
 slot:∀b o,h.get? b=some o→H b=none→b∈fs→b∉ex→∃sl,h'.get? b=some {o with slots:=sl}
 free:∀b o,h.get? b=some o→H b=none→b∉ex→H' b=none
 there:∀b o,h.get? b=some o→b∉ex→∃o',h'.get? b=some o'
 tups:∀b xs,H b=some (.tup xs)→H' b=some (.tup xs)
 frzs:∀b o u,H b=some (.frz o u)→H' b=some (.frz o u)
 tbls:∀b ps,H b=some (.tbl ps)→∃more,H' b=some (.tbl (ps++more))
section
variable {fs fs' ex ex':List Addr}{H H1 H2:Hp}{h h1 h2 h':Heap}{a x e:Addr}{o:HO}
theorem Un.any (u:Un fs ex H H1 h h1){b:Addr}{ob:Obj}(q:h.get? b=some ob)(n:H b=none)(hx:b∉ex):∃sl,h1.get? b=some {ob with slots:=sl}:=by
 by_cases hb:b∈fs
 ·exact u.slot b ob q n hb hx
 ·exact⟨ob.slots,u.keep b ob q n hb hx⟩
theorem Un.kept (k:∀b u,h.get? b=some u→h'.get? b=some u):Un fs ex H H h h':=
 ⟨fun b ob q _ _ _=>k b ob q,fun b ob q _ _ _=>⟨ob.slots,k b ob q⟩,fun _ _ _ n _=>n,fun b ob q _=>⟨ob,k b ob q⟩,fun _ _ q=>q,fun _ _ _ q=>q,fun _ ps q=>⟨#[],by rw[q];simp⟩⟩
theorem Un.refl:Un fs ex H H h h:=Un.kept fun _ _ q=>q
theorem Un.laid (k:∀b u,h.get? b=some u→h'.get? b=some u)(hp:h.objs.size≤a)(hn:H a=none):Un fs ex H (upd H a o) h h' where
 keep:=fun b u q _ _ _=>k b u q
 slot:=fun b u q _ _ _=>⟨u.slots,k b u q⟩
 free:=fun b u q n _=>by rw[Z4 (XH (XG (XD q) hp))];exact n
 there:=fun b u q _=>⟨u,k b u q⟩
 tups:=fun b xs q=>by rw[Z4 (J9 q hn)];exact q
 frzs:=fun b u xs q=>by rw[Z4 (J9 q hn)];exact q
 tbls:=fun b ps q=>⟨#[],by rw[Z4 (J9 q hn),q];simp⟩
theorem Un.write (mu:Mut (H x))(he:e=x∨H e=some (.own x))(k:∀b u,b≠e→h.get? b=some u→h'.get? b=some u)(heo:∃u,h'.get? e=some u):Un fs ex H (upd H x o) h h':=by
 have hx:∀b,H b=none→b≠x:=fun b n z=>by subst z;rw[n] at mu;exact mu
 have hb:∀b,H b=none→b≠e:=fun b n z=>by
  subst z
  rcases he with r | r
  ·exact hx b n r
  ·rw[n] at r;cases r
 have hm:∀b u,H b=some u→¬Mut (some u)→b≠x:=fun b u q nm z=>by subst z;rw[q] at mu;exact nm mu
 refine⟨fun b u q n _ _=>k b u (hb b n) q,fun b u q n _ _=>⟨u.slots,k b u (hb b n) q⟩,fun b u q n _=>by rw[Z4 (hx b n)];exact n,fun b u q _=>?_,
  fun b xs q=>by rw[Z4 (hm b _ q fun z=>z)];exact q,fun b u xs q=>by rw[Z4 (hm b _ q fun z=>z)];exact q,fun b ps q=>⟨#[],by rw[Z4 (hm b _ q fun z=>z),q];simp⟩⟩
 by_cases hbe:b=e
 ·subst hbe;exact heo
 ·exact⟨u,k b u hbe q⟩
end
def trk (h:Heap)(H:Hp):List Addr:=(List.range h.objs.size).filter fun a=>(H a).isSome
def hidT (h:Heap)(H:Hp):Heap:=W.hideAll h (trk h H)
theorem Zr5 (h:Heap)(H:Hp):(hidT h H).objs.size=h.objs.size:=W.hideAll_size _ _
theorem Zu0 {h:Heap}{H:Hp}{b:Addr}{o:Obj}(e:h.get? b=some o)(n:H b=none):(hidT h H).get? b=some o:=
 W.hideAll_get _ e fun hm=>by
  have q:(H b).isSome=true:=(List.mem_filter.mp hm).2
  rw[n] at q;simp at q
theorem Zxm {h:Heap}{H:Hp}{b:Addr}{o:Obj}(e:(hidT h H).get? b=some o):h.get? b=some o∧H b=none:=by
 have e':h.get? b=some o:=W.of_hideAll (trk h H) e
 refine⟨e',?_⟩
 cases q:H b with
 | none=>rfl
 | some x=>
  have hm:b∈trk h H:=List.mem_filter.mpr ⟨List.mem_range.mpr (Heap.lt_size e'),by simp[q]⟩
  have z:(hidT h H).get? b=none:=W.hideAll_none (trk h H) hm
  rw[z] at e;cases e
def Zyp (g h:Heap)(L:Addr):List (Addr×Obj):=(List.range h.objs.size).filterMap fun a=>if a=L∨(g.get? a).isSome=true then none else(h.get? a).map fun o=>(a,o)
def rest (g h:Heap)(L d:Addr):List (Addr×Obj):=(Zyp g h L).filter fun p=>decide (p.1≠d)
structure Mod (K:W.Frag)(mg:Str→Option Value)(base:Heap):Prop where
 kin:K.In base
 glob:base.Ns mainGlobals mg
 blt:∃mb,base.Ns builtinsNs mb∧∀x:Str,x≠"__name__"→mb x=bootBuiltins x
 nolimit:base.NoLimit
structure Cx where
 prog:Program
 w:World
 K:W.Frag
 mg:Str→Option Value
 base:Heap
 A:Around
 N:List Str
 s₀:Shared
 H₀:Hp
 env:Env
 outer:List Env
 stack:List Env
 ex:List Addr
 fn:Str→Bool
 calm:Bool
 pn:List (Addr×Obj)
 xe:Value→Shared→Prop
def frs (l:List Env):List Addr:=l.filterMap (·.frame)
abbrev Cx.fs (X:Cx):List Addr:=frs X.outer
def Vis (sc:Scope)(x:Str):Prop:=sc.names.lookup x=some .local∨sc.names.lookup x=some .cell∨sc.names.lookup x=some .free
def Loc (sc:Scope)(x:Str):Prop:=sc.names.lookup x=some .local∨sc.names.lookup x=some .cell
def Look (env:Env)(h:Heap)(m:Str→Option Value)(x:Str)(u:Value):Prop:=
 (env.kindOf x=some .local∧m x=some u)∨((env.kindOf x=some .cell∨env.kindOf x=some .free)∧∃c,env.cells.lookup x=some c∧h.IsCell c (some u))
structure Cx.Ok (X:Cx):Prop where
 mod:Mod X.K X.mg X.base
 kind:X.env.scope.kind=.function
 glob:X.env.globals=mainGlobals
 blt:X.env.builtins=builtinsNs
 above:X.s₀.heap.objs.size≤X.env.locals
 inj:∀x y c,X.env.cells.lookup x=some c→X.env.cells.lookup y=some c→x=y
 has:∀x,(X.env.kindOf x=some .cell∨X.env.kindOf x=some .free)→∃c,X.env.cells.lookup x=some c
 cab:∀x c,X.fn x=true→X.env.cells.lookup x=some c→X.s₀.heap.objs.size≤c
 hd:X.calm=true→X.A.handled=none
 frames:X.A.frames=some X.stack
 stk:X.stack=X.outer∨(X.stack=X.env::X.outer∧X.env.frame=some X.env.locals)
 exf:∀b∈X.ex,b≠X.env.locals∧∀x c,X.env.cells.lookup x=some c→c≠b
 bs:∀b o,X.base.get? b=some o→X.s₀.heap.get? b=some o∧X.H₀ b=none
 bsz:X.base.objs.size≤X.s₀.heap.objs.size
 noex:∀b o,X.base.get? b=some o→b∉X.ex
 exfs:∀b∈X.ex,b∉X.fs
 funs:X.s₀.heap.FunFrames X.base X.outer
 frf:∀b∈X.fs,X.H₀ b=none
structure Inv (X:Cx)(pins:List (Addr×Obj))(σ:List (Option V))(H:Hp)(s:Shared):Prop where
 ok:X.Ok
 os:s.os=X.s₀.os
 bare:AllBare s.gens
 base:Un X.fs X.ex X.H₀ H X.s₀.heap s.heap
 loc:∃m,s.heap.Ns X.env.locals m∧∀(i:Nat) (x:Str) (v:V),X.N[i]?=some x→σ[i]?=some (some v)→Vis X.env.scope x→∃u,Z3 v u∧Look X.env s.heap m x u
 cell:∀x c,X.env.cells.lookup x=some c→∃v,s.heap.IsCell c v
 free:H X.env.locals=none
 freeC:∀x c,X.env.cells.lookup x=some c→H c=none
 pin:∀p∈X.pn++pins,s.heap.get? p.1=some p.2∧H p.1=none∧p.1≠X.env.locals∧p.1∉X.fs∧∀v,p.2.data≠.cell v
 hok:HOk X.prog X.w H s.heap
 len:σ.length=X.N.length
section
variable {X:Cx}{pins:List (Addr×Obj)}{σ:List (Option V)}{H H':Hp}{s:Shared}{h':Heap}
theorem Cx.Ok.nofr (ok:X.Ok){b:Addr}{o:Obj}(e:X.base.get? b=some o):b∉X.fs:=fun hb=>by
 have:=(ok.funs.mem hb).1
 rw[e] at this;cases this
theorem Inv.bs (I:Inv X pins σ H s):∀b o,X.base.get? b=some o→s.heap.get? b=some o∧H b=none:=fun b o e=>
 ⟨I.base.keep b o (I.ok.bs b o e).1 (I.ok.bs b o e).2 (I.ok.nofr e) (I.ok.noex b o e),I.base.free b o (I.ok.bs b o e).1 (I.ok.bs b o e).2 (I.ok.noex b o e)⟩
theorem Inv.bk (I:Inv X pins σ H s):∀b o,X.base.get? b=some o→s.heap.get? b=some o:=fun b o e=>(I.bs b o e).1
theorem Inv.mod (I:Inv X pins σ H s):Mod X.K X.mg X.base:=I.ok.mod
theorem Inv.kIn (I:Inv X pins σ H s):X.K.In s.heap:=I.ok.mod.kin.keeps I.bk
theorem Inv.lt (I:Inv X pins σ H s):X.env.locals<s.heap.objs.size:=let ⟨_,hn,_⟩:=I.loc;hn.lt
theorem Inv.sz (I:Inv X pins σ H s):X.s₀.heap.objs.size≤s.heap.objs.size:=XN I.ok.above (Nat.le_of_lt I.lt)
theorem Inv.nofs (I:Inv X pins σ H s){a:Addr}(h:s.heap.objs.size≤a):a∉X.fs:=fun hb=>by
 obtain⟨_,o,ho,_⟩:=I.ok.funs.mem hb
 exact absurd (XG (XD ho) (XN I.sz h)) (Nat.lt_irrefl _)
theorem Inv.cne (I:Inv X pins σ H s):∀x c,X.env.cells.lookup x=some c→c≠X.env.locals:=fun x c e z=>by
 obtain⟨v,o,ho,hd⟩:=I.cell x c e
 obtain⟨m,⟨o',es,ep,ho',hd',_⟩,_⟩:=I.loc
 rw[z,ho'] at ho;cases ho;rw[hd'] at hd;cases hd
theorem Inv.funs (I:Inv X pins σ H s):s.heap.FunFrames X.base X.outer:=by
 have all:∀(l:List Env),(∀b∈frs l,b∈X.fs)→X.s₀.heap.FunFrames X.base l→s.heap.FunFrames X.base l:=by
  intro l
  induction l with
  | nil=>intro _ _;trivial
  | cons env r ih=>
   intro hs hl
   obtain⟨hk,⟨L,o,hf,hn,ho,hd⟩,hr⟩:=hl
   have hL:L∈X.fs:=hs L (by unfold frs;rw[List.filterMap_cons,hf];exact List.mem_cons_self)
   obtain⟨sl,e⟩:=I.base.slot L o ho (I.ok.frf L hL) hL fun z=>I.ok.exfs L z hL
   exact⟨hk,⟨L,_,hf,hn,e,hd⟩,ih (fun b hb=>hs b (by unfold frs;rw[List.filterMap_cons,hf];exact XV _ hb)) hr⟩
 exact all X.outer (fun _ hb=>hb) I.ok.funs
theorem Inv.stack (I:Inv X pins σ H s):s.heap.FunFrames X.base X.stack:=by
 rcases I.ok.stk with e | ⟨e,hf⟩
 ·rw[e];exact I.funs
 ·rw[e]
  obtain⟨m,hn,_⟩:=I.loc
  refine .cons (by rw[I.ok.kind];decide) hf hn ?_ I.funs
  exact Heap.get?_none_of_le (XN I.ok.bsz I.ok.above)
theorem Inv.stkSub (I:Inv X pins σ H s):∀b∈frs X.stack,b∈X.env.locals::X.fs:=fun b hb=>by
 rcases I.ok.stk with e | ⟨e,hf⟩
 ·rw[e] at hb;exact XV _ hb
 ·rw[e] at hb
  unfold frs at hb
  rw[List.filterMap_cons,hf] at hb
  exact hb
theorem Inv.stkFree (I:Inv X pins σ H s):∀b∈frs X.stack,H b=none:=fun b hb=>by
 rcases List.mem_cons.mp (I.stkSub b hb) with e | hb
 ·rw[e];exact I.free
 ·obtain⟨_,o,ho,_⟩:=I.ok.funs.mem hb
  exact I.base.free b o ho (I.ok.frf b hb) fun z=>I.ok.exfs b z hb
theorem Inv.step {g':Array GenState}{t':Nat}{d':Drawn}{ch:List Addr}(I:Inv X pins σ H s)
  (hch:∀b∈ch,(b∈X.ex∨X.s₀.heap.objs.size≤b)∧b≠X.env.locals∧(∀x c,X.env.cells.lookup x=some c→c≠b)∧∀p∈X.pn++pins,p.1≠b)
  (keep:∀b o,b≠X.env.locals→b∉X.fs→b∉ch→s.heap.get? b=some o→H b=none→h'.get? b=some o)
  (slot:∀b o,b≠X.env.locals→b∈X.fs→b∉ch→s.heap.get? b=some o→H b=none→∃sl,h'.get? b=some {o with slots:=sl}) (free:∀b o,b∉ch→s.heap.get? b=some o→H b=none→H' b=none)
  (there:∀b o,b∉ch→s.heap.get? b=some o→∃o',h'.get? b=some o')
  (tups:∀b xs,H b=some (.tup xs)→H' b=some (.tup xs)) (frzs:∀b o u,H b=some (.frz o u)→H' b=some (.frz o u)) (tbls:∀b ps,H b=some (.tbl ps)→∃more,H' b=some (.tbl (ps++more)))
  (ns:∀m,s.heap.Ns X.env.locals m→h'.Ns X.env.locals m) (hok:HOk X.prog X.w H' h') (hg:AllBare g'):
  Inv X pins σ H' {s with heap:=h',gens:=g',drawn:=d',toks:=t'}:=by
 have neL:∀b o,X.s₀.heap.get? b=some o→b≠X.env.locals:=fun b o e=>XH (XG (XD e) I.ok.above)
 have neC:∀b o,X.s₀.heap.get? b=some o→b∉X.ex→b∉ch:=fun b o e hx hb=>by
  rcases (hch b hb).1 with z | z
  ·exact hx z
  ·exact absurd (XG (XD e) z) (Nat.lt_irrefl _)
 have cellK:∀x c,X.env.cells.lookup x=some c→∀v,s.heap.IsCell c v→h'.IsCell c v:=fun x c e v ⟨o,ho,hd⟩=>by
  have nch:c∉ch:=fun z=>(hch c z).2.2.1 x c e rfl
  by_cases hc:c∈X.fs
  ·obtain⟨sl,q⟩:=slot c o (I.cne x c e) hc nch ho (I.freeC x c e)
   exact⟨_,q,hd⟩
  ·exact⟨o,keep c o (I.cne x c e) hc nch ho (I.freeC x c e),hd⟩
 refine⟨I.ok,I.os,hg,⟨fun b o e n hb hx=>?_,fun b o e n hb hx=>?_,fun b o e n hx=>?_,fun b o e hx=>?_,fun b xs e=>tups b xs (I.base.tups b xs e),fun b o xs e=>frzs b o xs (I.base.frzs b o xs e),fun b ps e=>?_⟩,?_,fun x c e=>?_,?_,fun x c e=>?_,fun p hp=>?_,hok,I.len⟩
 ·exact keep b o (neL b o e) hb (neC b o e hx) (I.base.keep b o e n hb hx) (I.base.free b o e n hx)
 ·obtain⟨sl,e1⟩:=I.base.slot b o e n hb hx
  obtain⟨sl',e2⟩:=slot b _ (neL b o e) hb (neC b o e hx) e1 (I.base.free b o e n hx)
  exact⟨sl',e2⟩
 ·obtain⟨o',e1⟩:=I.base.there b o e hx
  exact free b o' (neC b o e hx) e1 (I.base.free b o e n hx)
 ·obtain⟨o',e1⟩:=I.base.there b o e hx
  exact there b o' (neC b o e hx) e1
 ·obtain⟨m1,e1⟩:=I.base.tbls b ps e
  obtain⟨m2,e2⟩:=tbls b _ e1
  exact⟨m1++m2,by rw[e2,Array.append_assoc]⟩
 ·obtain⟨m,hn,hl⟩:=I.loc
  refine⟨m,ns m hn,fun i x v e1 e2 e3=>?_⟩
  obtain⟨u,r,l⟩:=hl i x v e1 e2 e3
  refine⟨u,r,?_⟩
  rcases l with l | ⟨k,c,e,z⟩
  ·exact .inl l
  ·exact .inr ⟨k,c,e,cellK x c e _ z⟩
 ·obtain⟨v,z⟩:=I.cell x c e
  exact⟨v,cellK x c e v z⟩
 ·obtain⟨m,⟨o,_,_,ho,_⟩,_⟩:=I.loc
  exact free _ o (fun z=>(hch _ z).2.1 rfl) ho I.free
 ·obtain⟨v,o,ho,hd⟩:=I.cell x c e
  exact free c o (fun z=>(hch c z).2.2.1 x c e rfl) ho (I.freeC x c e)
 ·obtain⟨e,n,ne,nf,d⟩:=I.pin p hp
  have nch:p.1∉ch:=fun z=>(hch p.1 z).2.2.2 p hp rfl
  exact⟨keep p.1 p.2 ne nf nch e n,free p.1 p.2 nch e n,ne,nf,d⟩
theorem Inv.un {t':Nat}(I:Inv X pins σ H s)(u:Un X.fs [] H H' s.heap h')(hok:HOk X.prog X.w H' h'):Inv X pins σ H' {s with heap:=h',toks:=t'}:=by
 obtain⟨m,⟨o,es,ep,ho,r⟩,_⟩:=id I.loc
 obtain⟨sl,hL⟩:=u.any ho I.free (by simp)
 exact I.step (g':=s.gens) (d':=s.drawn) (ch:=[]) (fun _ z=>nomatch z) (fun b o _ hb _ e n=>u.keep b o e n hb (by simp)) (fun b o _ hb _ e n=>u.slot b o e n hb (by simp)) (fun b o _ e n=>u.free b o e n (by simp)) (fun b o _ e=>u.there b o e (by simp)) u.tups u.frzs u.tbls (fun m' hm=>by
  obtain⟨o',es',ep',ho',r'⟩:=hm
  rw[ho] at ho';cases ho'
  exact⟨_,es',ep',hL,r'⟩) hok I.bare
theorem Inv.call {g':Array GenState}{t':Nat}{d':Drawn}{ch:List Addr}(I:Inv X pins σ H s)(u:Un (frs X.stack) ch H H' s.heap h')(hok:HOk X.prog X.w H' h')(hg:AllBare g')
  (hch:∀b∈ch,(b∈X.ex∨X.s₀.heap.objs.size≤b)∧b≠X.env.locals∧(∀x c,X.env.cells.lookup x=some c→c≠b)∧∀p∈X.pn++pins,p.1≠b):
  Inv X pins σ H' {s with heap:=h',gens:=g',drawn:=d',toks:=t'}:=by
 obtain⟨m,⟨o,es,ep,ho,r⟩,_⟩:=id I.loc
 obtain⟨sl,hL⟩:=u.any ho I.free fun z=>(hch _ z).2.1 rfl
 exact I.step (ch:=ch) hch (fun b o hL hb hc e n=>u.keep b o e n (fun z=>(List.mem_cons.mp (I.stkSub b z)).elim hL hb) hc) (fun b o _ _ hc e n=>u.any e n hc) (fun b o hc e n=>u.free b o e n hc) (fun b o hc e=>u.there b o e hc) u.tups u.frzs u.tbls (fun m' hm=>by
  obtain⟨o',es',ep',ho',r'⟩:=hm
  rw[ho] at ho';cases ho'
  exact⟨_,es',ep',hL,r'⟩) hok hg
theorem Inv.turned {t':Nat}{it:Addr}(I:Inv X pins σ H s)(k:∀b o,b≠it→s.heap.get? b=some o→h'.get? b=some o)(hn:H it=none)(hL:it≠X.env.locals)
  (h1:it∈X.ex∨X.s₀.heap.objs.size≤it) (h2:∀x c,X.env.cells.lookup x=some c→c≠it) (h3:∀p∈X.pn++pins,p.1≠it):Inv X pins σ H {s with heap:=h',toks:=t'}:=by
 have nit:∀b u,H b=some u→b≠it:=fun b u e z=>by rw[z,hn] at e;cases e
 refine I.step (g':=s.gens) (d':=s.drawn) (ch:=[it]) (fun b hb=>?_) (fun b o _ _ hc e _=>k b o (fun z=>hc (by simp[z])) e) (fun b o _ _ hc e _=>⟨o.slots,k b o (fun z=>hc (by simp[z])) e⟩) (fun _ _ _ _ n=>n)
  (fun b o hc e=>⟨o,k b o (fun z=>hc (by simp[z])) e⟩) (fun _ _ e=>e) (fun _ _ _ e=>e) (fun b ps e=>⟨#[],by rw[e];simp⟩) (fun m hm=>?_) (fun b u e=>?_) I.bare
 ·have e:b=it:=by simpa using hb
  subst e
  exact⟨h1,hL,h2,h3⟩
 ·obtain⟨o,es,ep,ho,r⟩:=hm
  exact⟨o,es,ep,k _ o (Ne.symm hL) ho,r⟩
 ·refine(I.hok b u e).stay (fun c v hc q=>k c v ?_ q) (fun _ q=>q) fun _ _ q=>q
  rcases hc with z | z
  ·rw[z];exact nit b u e
  ·exact nit c _ z
theorem Inv.tok (I:Inv X pins σ H s)(t:Nat):Inv X pins σ H {s with toks:=t}:=I.un (h':=s.heap) (t':=t) Un.refl I.hok
theorem Inv.kept {t':Nat}(I:Inv X pins σ H s)(k:∀b u,s.heap.get? b=some u→h'.get? b=some u):Inv X pins σ H {s with heap:=h',toks:=t'}:=I.un (Un.kept k) (I.hok.kept k)
theorem Inv.laid {a:Addr}{o:HO}{t':Nat}(I:Inv X pins σ H s)(k:∀b u,s.heap.get? b=some u→h'.get? b=some u)(hp:s.heap.objs.size≤a)(new:Xb X.prog X.w (upd H a o) h' a o):
  Inv X pins σ (upd H a o) {s with heap:=h',toks:=t'}:=I.un (Un.laid k hp (I.hok.fresh hp)) (I.hok.laid k hp new)
theorem Inv.write {x e:Addr}{o:HO}{t':Nat}(I:Inv X pins σ H s)(mu:Mut (H x))(he:e=x∨H e=some (.own x))(k:∀b u,b≠e→s.heap.get? b=some u→h'.get? b=some u)(heo:∃u,h'.get? e=some u)
  (new:Xb X.prog X.w (upd H x o) h' x o):Inv X pins σ (upd H x o) {s with heap:=h',toks:=t'}:=I.un (Un.write mu he k heo) (I.hok.write mu he k heo new)
theorem Inv.weak {σ':List (Option V)}(I:Inv X pins σ H s)(hl:σ'.length=σ.length)(w:∀(i:Nat) v,σ'[i]?=some (some v)→σ[i]?=some (some v)):Inv X pins σ' H s:=
 ⟨I.ok,I.os,I.bare,I.base,let ⟨m,hn,hl'⟩:=I.loc;⟨m,hn,fun i x v e1 e2 e3=>hl' i x v e1 (w i v e2) e3⟩,I.cell,I.free,I.freeC,I.pin,I.hok,hl.trans I.len⟩
theorem Inv.pins_of {pins':List (Addr×Obj)}(I:Inv X pins σ H s)(h:∀p∈pins',s.heap.get? p.1=some p.2∧H p.1=none∧p.1≠X.env.locals∧p.1∉X.fs∧∀v,p.2.data≠.cell v):Inv X pins' σ H s:=
 ⟨I.ok,I.os,I.bare,I.base,I.loc,I.cell,I.free,I.freeC,fun p hp=>(XS.mp hp).elim (fun z=>I.pin p (List.mem_append_left _ z)) (h p),I.hok,I.len⟩
theorem Zng {N:List Str}(hN:N.Nodup){i j:Nat}{x:Str}(a:N[i]?=some x)(b:N[j]?=some x):i=j:=by
 obtain⟨h1,e1⟩:=List.getElem?_eq_some_iff.mp a
 obtain⟨h2,e2⟩:=List.getElem?_eq_some_iff.mp b
 exact(List.getElem_inj hN).mp (e1.trans e2.symm)
theorem Zj9 {M:Model}{A:Around}{E:Value→Shared→Prop}{i:Nat}{x:Str}{v:V}{u:Value}{Q:Unit→Shared→Prop}(I:Inv X pins σ H s)(hN:X.N.Nodup)(hi:X.N[i]?=some x)(hx:Loc X.env.scope x)(r:Z3 v u)
  (h:∀s',Inv X pins (σ.set i (some v)) H s'→(∃a,Heap.SameBut a s.heap s'.heap∧(a=X.env.locals∨X.env.cells.lookup x=some a))→Q () s') (hf:X.fn x=true∨X.env.scope.names.lookup x=some .local:=by first | exact .inl rfl | exact .inr rfl | assumption):wpAny M A (storeName X.env x u) Q E s:=by
 obtain⟨m,hn,hl⟩:=id I.loc
 have hcls:(X.env.scope.kind==.class||(X.env.scope.kind==.module&&X.env.locals !=X.env.globals))=false:=by rw[I.ok.kind];rfl
 have hiσ:i<σ.length:=by rw[I.len];exact(List.getElem?_eq_some_iff.mp hi).1
 have cne:=I.cne
 have tracked:∀{a:Addr} {h':Heap},(∃o,s.heap.get? a=some o∧H a=none)→Heap.SameBut a s.heap h'→HOk X.prog X.w H h':=fun {a h'} ha hs b ob e=>by
  obtain⟨_,_,hfree⟩:=ha
  refine(I.hok b ob e).stay (fun c w' hc q=>(hs.2 c ?_).trans q) (fun _ q=>q) fun _ _ q=>q
  rintro rfl
  rcases hc with rfl | hc
  ·rw[hfree] at e;cases e
  ·rw[hfree] at hc;cases hc
 rcases hx with hk | hk
 ·refine wpAny_storeName_local hk hn (fun h' hn' hs=>?_) hcls
  obtain⟨oL,_,_,hoL,_⟩:=id hn
  refine h _ ⟨I.ok,I.os,I.bare,⟨fun b o e n hb hx=>?_,fun b o e n hb hx=>?_,I.base.free,fun b o e hx=>?_,I.base.tups,I.base.frzs,I.base.tbls⟩,⟨_,hn',fun j y v' e1 e2 e3=>?_⟩,fun y c e=>?_,I.free,I.freeC,fun p hp=>?_,tracked ⟨oL,hoL,I.free⟩ hs,by simpa using I.len⟩ ⟨_,hs,.inl rfl⟩
  ·exact(hs.2 b (XH (XG (XD e) I.ok.above))).trans (I.base.keep b o e n hb hx)
  ·obtain⟨sl,e1⟩:=I.base.slot b o e n hb hx
   exact⟨sl,(hs.2 b (XH (XG (XD e) I.ok.above))).trans e1⟩
  ·obtain⟨o',e1⟩:=I.base.there b o e hx
   exact⟨o',(hs.2 b (XH (XG (XD e) I.ok.above))).trans e1⟩
  ·by_cases hj:j=i
   ·subst hj
    rw[hi] at e1;cases e1
    rw[List.getElem?_set_self hiσ] at e2
    cases e2
    exact⟨u,r,.inl ⟨hk,by simp⟩⟩
   ·rw[List.getElem?_set_ne (Ne.symm hj)] at e2
    obtain⟨u',r',q⟩:=hl j y v' e1 e2 e3
    refine⟨u',r',?_⟩
    rcases q with⟨k,e⟩ | ⟨k,c,e,z⟩
    ·refine .inl ⟨k,?_⟩
     have:y≠x:=fun e=>hj (Zng hN e1 (e▸hi))
     simp[this,e]
    ·exact .inr ⟨k,c,e,z.sameBut hs (cne y c e)⟩
  ·obtain⟨w',z⟩:=I.cell y c e
   exact⟨w',z.sameBut hs (cne y c e)⟩
  ·obtain⟨e,n,ne,nf,d⟩:=I.pin p hp
   exact⟨(hs.2 p.1 ne).trans e,n,ne,nf,d⟩
 ·have hfn:X.fn x=true:=by
   rcases hf with z | z
   ·exact z
   ·rw[z] at hk;cases hk
  obtain⟨c,hc⟩:=I.ok.has x (.inl hk)
  obtain⟨w',z⟩:=I.cell x c hc
  refine wpAny_storeName_cell I.ok.kind hk hc z (fun h' hc' hs=>?_)
  obtain⟨oc,hoc,hocd⟩:=id z
  refine h {s with heap:=h'} ⟨I.ok,I.os,I.bare,⟨fun b o e n hb hx=>?_,fun b o e n hb hx=>?_,I.base.free,fun b o e hx=>?_,I.base.tups,I.base.frzs,I.base.tbls⟩,⟨m,hn.sameBut hs (Ne.symm (cne x c hc)),fun j y v' e1 e2 e3=>?_⟩,fun y c' e=>?_,I.free,I.freeC,fun p hp=>?_,tracked ⟨oc,hoc,I.freeC x c hc⟩ hs,by simpa using I.len⟩ ⟨c,hs,.inr hc⟩
  ·exact(hs.2 b (XH (XG (XD e) (I.ok.cab x c hfn hc)))).trans (I.base.keep b o e n hb hx)
  ·obtain⟨sl,e1⟩:=I.base.slot b o e n hb hx
   exact⟨sl,(hs.2 b (XH (XG (XD e) (I.ok.cab x c hfn hc)))).trans e1⟩
  ·obtain⟨o',e1⟩:=I.base.there b o e hx
   exact⟨o',(hs.2 b (XH (XG (XD e) (I.ok.cab x c hfn hc)))).trans e1⟩
  ·by_cases hj:j=i
   ·subst hj
    rw[hi] at e1;cases e1
    rw[List.getElem?_set_self hiσ] at e2
    cases e2
    exact⟨u,r,.inr ⟨.inl hk,c,hc,hc'⟩⟩
   ·rw[List.getElem?_set_ne (Ne.symm hj)] at e2
    obtain⟨u',r',q⟩:=hl j y v' e1 e2 e3
    refine⟨u',r',?_⟩
    rcases q with q | ⟨k,c',e,z'⟩
    ·exact .inl q
    ·refine .inr ⟨k,c',e,z'.sameBut hs ?_⟩
     rintro rfl
     exact hj (Zng hN e1 (I.ok.inj _ _ _ e hc▸hi))
  ·by_cases hcc:c'=c
   ·subst hcc;exact⟨_,hc'⟩
   ·obtain⟨w2,z2⟩:=I.cell y c' e
    exact⟨w2,z2.sameBut hs hcc⟩
  ·obtain⟨e,n,ne,nf,d⟩:=I.pin p hp
   refine⟨(hs.2 p.1 ?_).trans e,n,ne,nf,d⟩
   intro q
   rw[q,hoc] at e
   have q':oc=p.2:=YH e
   exact d w' (by rw[←q'];exact hocd)
theorem Zmz {M:Model}{A:Around}{E:Value→Shared→Prop}{i:Nat}{x:Str}{v:V}{u:Value}{Q:Unit→Shared→Prop}(I:Inv X pins σ H s)(hN:X.N.Nodup)(hi:X.N[i]?=some x)(hx:Loc X.env.scope x)(r:Z3 v u)
  (h:∀s',Inv X pins (σ.set i (some v)) H s'→Q () s') (hf:X.fn x=true∨X.env.scope.names.lookup x=some .local:=by first | exact .inl rfl | exact .inr rfl | assumption):wpAny M A (storeName X.env x u) Q E s:=
 Zj9 I hN hi hx r (fun s' I' _=>h s' I') hf
theorem Inv.call' {s':Shared}{ch:List Addr}(I:Inv X pins σ H s)(ho:s'.os=s.os)(u:Un (frs X.stack) ch H H' s.heap s'.heap)(hok:HOk X.prog X.w H' s'.heap)(hg:AllBare s'.gens)
  (hch:∀b∈ch,(b∈X.ex∨X.s₀.heap.objs.size≤b)∧b≠X.env.locals∧(∀x c,X.env.cells.lookup x=some c→c≠b)∧∀p∈X.pn++pins,p.1≠b):Inv X pins σ H' s':=by
 obtain⟨h',g',d',t',o'⟩:=s'
 have e:o'=s.os:=ho
 subst e
 exact I.call (g':=g') (t':=t') (d':=d') u hok hg hch
end
abbrev XK:=Value→Option Addr→Hp→Prop
abbrev St:=List (Option V)
abbrev VK:=V→Hp→Prop
abbrev TE:=St→Hp→VK→Prop
abbrev TT:=St→Hp→(Bool→Hp→Prop)→Prop
abbrev TA:=St→Hp→(List V→Hp→Prop)→Prop
structure Ends where
 nx:St→Hp→Prop
 rt:VK
 bk:St→Hp→Prop:=fun _ _=>False
 ct:St→Hp→Prop:=fun _ _=>False
abbrev TS:=Ends→St→Hp→Prop
def EP (X:Cx)(pins:List (Addr×Obj))(σ:St)(Q:VK)(u:Value)(s':Shared):Prop:=∃v H',Inv X pins σ H' s'∧Z3 v u∧Q v H'
def TP (X:Cx)(pins:List (Addr×Obj))(σ:St)(Q:Bool→Hp→Prop)(b:Bool)(s':Shared):Prop:=∃H',Inv X pins σ H' s'∧Q b H'
def AP (X:Cx)(pins:List (Addr×Obj))(σ:St)(Q:List V→Hp→Prop)(us:List Value)(s':Shared):Prop:=∃vs H',Inv X pins σ H' s'∧Vals vs us∧Q vs H'
def SP (X:Cx)(pins:List (Addr×Obj))(D:Ends)(f:Flow)(s':Shared):Prop:=
 match f with
 | .next=>∃σ' H',Inv X pins σ' H' s'∧D.nx σ' H'
 | .brk=>∃σ' H',Inv X pins σ' H' s'∧D.bk σ' H'
 | .cont=>∃σ' H',Inv X pins σ' H' s'∧D.ct σ' H'
 | .ret u=>∃v σ' H',Inv X pins σ' H' s'∧Z3 v u∧D.rt v H'
def PE (X:Cx)(e:Expr)(t:TE):Prop:=
 ∀(pins:List (Addr×Obj)) (s:Shared) (σ:St) (H:Hp) (Q:VK),Inv X pins σ H s→t σ H Q→wpAny (model X.prog X.w) X.A (eval e X.env) (EP X pins σ Q) X.xe s
def PT (X:Cx)(e:Expr)(t:TT):Prop:=
 ∀(pins:List (Addr×Obj)) (s:Shared) (σ:St) (H:Hp) (Q:Bool→Hp→Prop),Inv X pins σ H s→t σ H Q→wpAny (model X.prog X.w) X.A (isTrue e X.env (eval e X.env)) (TP X pins σ Q) X.xe s
def PW (X:Cx)(e:Expr)(t:TT):Prop:=
 ∀(whole:Sem Value) (pins:List (Addr×Obj)) (s:Shared) (σ:St) (H:Hp) (Q:Bool→Hp→Prop),Inv X pins σ H s→t σ H Q→wpAny (model X.prog X.w) X.A (isTrue e X.env whole) (TP X pins σ Q) X.xe s
theorem PW.pt {X:Cx}{e:Expr}{t:TT}(h:PW X e t):PT X e t:=h _
def PA (X:Cx)(es:List Expr)(t:TA):Prop:=
 ∀(pos:Pos) (pins:List (Addr×Obj)) (s:Shared) (σ:St) (H:Hp) (Q:List V→Hp→Prop),Inv X pins σ H s→t σ H Q→wpAny (model X.prog X.w) X.A (spliced (backTo pos (starEach es X.env))) (AP X pins σ Q) X.xe s
def PS (X:Cx)(st:Stmt)(t:TS):Prop:=
 ∀(pins:List (Addr×Obj)) (s:Shared) (σ:St) (H:Hp) (D:Ends),Inv X pins σ H s→t D σ H→wpAny (model X.prog X.w) X.A (exec st X.env) (SP X pins D) X.xe s
def PSs (X:Cx)(st:List Stmt)(t:TS):Prop:=
 ∀(pins:List (Addr×Obj)) (s:Shared) (σ:St) (H:Hp) (D:Ends),Inv X pins σ H s→t D σ H→wpAny (model X.prog X.w) X.A (execs st X.env) (SP X pins D) X.xe s
theorem thn {α:Type}{t:Sem α}{Q Q':α→Shared→Prop}{M:Model}{A:Around}{E:Value→Shared→Prop}{s:Shared}(h:wpAny M A t Q E s)(hQ:∀a s,Q a s→Q' a s):wpAny M A t Q' E s:=wpAny_mono h hQ fun _ _ x=>x
section
variable {X:Cx}
def tVar (i:Nat):TE:=fun σ H Q=>∃v,σ[i]?=some (some v)∧Q v H
def tC (v:V):TE:=fun _ H Q=>Q v H
theorem Z0j {i:Nat}{x:Str}{pos:Pos}(hN:X.N[i]?=some x)(hv:Vis X.env.scope x)(hd:(x==("__debug__":Str))=false:=by decide)(hcd:(x==("__classdict__":Str))=false:=by decide):PE X (.Name x pos) (tVar i):=by
 intro pins s σ H Q I h
 obtain⟨v,e,h⟩:=h
 obtain⟨m,hn,hl⟩:=I.loc
 obtain⟨u,r,l⟩:=hl i x v hN e hv
 have fin:EP X pins σ Q u s:=⟨v,H,I,r,h⟩
 rcases l with⟨hk,hm⟩ | ⟨hk,c,hc,hcell⟩
 ·exact wpAny_Name (wpAny_loadName_local I.ok.kind hk hn hm fin) hd
 ·rcases hk with hk | hk
  ·exact wpAny_Name (wpAny_loadName_cell I.ok.kind hk hc hcell fin) hd
  ·exact wpAny_Name (wpAny_loadName_free I.ok.kind hk hc hcell fin hcd) hd
theorem Ztu {i j pos}:PE X (.Constant (.int i) j pos) (tC (.int i)):=fun _ _ _ H _ I h=>wpAny_Constant_int ⟨.int i,H,I.tok _,⟨_,rfl⟩,h⟩
theorem pe_bl {b j pos}:PE X (.Constant (.bool b) j pos) (tC (.bl b)):=fun _ _ _ H _ I h=>Constant_bool ⟨.bl b,H,I,rfl,h⟩
theorem Z0n {j pos}:PE X (.Constant .none j pos) (tC .non):=fun _ _ _ H _ I h=>Constant_none ⟨.non,H,I,rfl,h⟩
theorem Z0l {x j pos}:PE X (.Constant (.str x) j pos) (tC (.str x)):=fun _ _ _ H _ I h=>Calls.Constant_str ⟨.str x,H,I.tok _,⟨_,rfl⟩,h⟩
def Gl (X:Cx)(x:Str):Prop:=X.env.kindOf x=some .globalImplicit
theorem Zhv {E:Value→Shared→Prop}{pins:List (Addr×Obj)}{s:Shared}{σ:St}{H:Hp}{x:Str}{u:Value}{pos:Pos}{Q:Value→Shared→Prop}(I:Inv X pins σ H s)(hg:Gl X x)(hm:X.mg x=some u)(h:Q u s)
  (hd:(x==("__debug__":Str))=false:=by decide):wpAny (model X.prog X.w) X.A (eval (.Name x pos) X.env) Q E s:=
 Calls.Name_function_global I.ok.kind hg (Calls.loadGlobal_global (by rw[I.ok.glob];exact I.mod.glob.keeps I.bk) hm h) hd
theorem Zb6 {E:Value→Shared→Prop}{pins:List (Addr×Obj)}{s:Shared}{σ:St}{H:Hp}{x:Str}{u:Value}{pos:Pos}{Q:Value→Shared→Prop}(I:Inv X pins σ H s)(hg:Gl X x)(hm:X.mg x=none)(hv:bootBuiltins x=some u)(h:Q u s)
  (hn:x≠"__name__":=by decide) (hd:(x==("__debug__":Str))=false:=by decide):wpAny (model X.prog X.w) X.A (eval (.Name x pos) X.env) Q E s:=by
 obtain⟨mb,h1,h2⟩:=I.mod.blt
 exact Calls.Name_function_global I.ok.kind hg (Calls.loadGlobal_builtin (by rw[I.ok.glob];exact I.mod.glob.keeps I.bk) hm (by rw[I.ok.blt];exact h1.keeps I.bk) ((h2 x hn).trans hv) h) hd
theorem Zxc {x:Str}{v:V}{u:Value}{pos:Pos}(hg:Gl X x)(hm:X.mg x=some u)(r:Z3 v u)(hd:(x==("__debug__":Str))=false:=by decide):PE X (.Name x pos) (tC v):=
 fun _ _ _ H _ I h=>Zhv I hg hm ⟨v,H,I,r,h⟩ hd
theorem Zxh {x:Str}{v:V}{u:Value}{pos:Pos}(hg:Gl X x)(hm:X.mg x=none)(hv:bootBuiltins x=some u)(r:Z3 v u)(hn:x≠"__name__":=by decide)(hd:(x==("__debug__":Str))=false:=by decide):PE X (.Name x pos) (tC v):=
 fun _ _ _ H _ I h=>Zb6 I hg hm hv ⟨v,H,I,r,h⟩ hn hd
def t2I (ta tb:TE)(k:Int→Int→Hp→Prop):St→Hp→Prop:=fun σ H=>ta σ H fun x H1=>tb σ H1 fun y H2=>∃i j,x=.int i∧y=.int j∧k i j H2
def tMul (ta tb:TE):TE:=fun σ H Q=>t2I ta tb (fun i j H2=>(-(2^64)<i∧i<2^64)∧Q (.int (i*j)) H2) σ H
variable {a b:Expr}{ta tb:TE}{pos:Pos}
def tIsN (ta:TE):TE:=fun σ H Q=>ta σ H fun x H1=>Q (.bl (decide (x=.non))) H1
def tB (t:TE):TT:=fun σ H Q=>t σ H fun x H1=>∃c,x=.bl c∧Q c H1
variable {tA tB':TT}{rest:List Expr}
def tAnd (t u:TT):TT:=fun σ H Q=>t σ H fun c H1=>if c=true then u σ H1 Q else Q false H1
def tOr (t u:TT):TT:=fun σ H Q=>t σ H fun c H1=>if c=true then Q true H1 else u σ H1 Q
def tNot (t:TT):TT:=fun σ H Q=>t σ H fun c H1=>Q (!c) H1
theorem Zwt (ha:PT X a tA):PW X (.BoolOp .And [a] pos) tA:=by
 intro wh pins s σ H Q I h
 refine isTrue_and (thn (ha pins s σ H Q I h) fun c s1 e=>?_)
 cases c with
 | true=>exact isTrue_and_nil e
 | false=>exact e
theorem Zz5 (ha:PT X a tA):PW X (.BoolOp .Or [a] pos) tA:=by
 intro wh pins s σ H Q I h
 refine isTrue_or (thn (ha pins s σ H Q I h) fun c s1 e=>?_)
 cases c with
 | false=>exact isTrue_or_nil e
 | true=>exact e
theorem Zz6 (ha:PT X a tA)(hb:PW X (.BoolOp .And (b::rest) pos) tB'):PW X (.BoolOp .And (a::b::rest) pos) (tAnd tA tB'):=by
 intro wh pins s σ H Q I h
 refine isTrue_and (thn (ha pins s σ H _ I h) fun c s1 ⟨H1,I1,q1⟩=>?_)
 cases c with
 | true=>exact hb wh pins s1 σ H1 Q I1 q1
 | false=>exact⟨H1,I1,q1⟩
theorem pw_or (ha:PT X a tA)(hb:PW X (.BoolOp .Or (b::rest) pos) tB'):PW X (.BoolOp .Or (a::b::rest) pos) (tOr tA tB'):=by
 intro wh pins s σ H Q I h
 refine isTrue_or (thn (ha pins s σ H _ I h) fun c s1 ⟨H1,I1,q1⟩=>?_)
 cases c with
 | true=>exact⟨H1,I1,q1⟩
 | false=>exact hb wh pins s1 σ H1 Q I1 q1
theorem Zz7 (ha:PT X a tA):PT X (.UnaryOp .Not a pos) (tNot tA):=by
 intro pins s σ H Q I h
 exact isTrue_not (ha pins s σ H (fun c H1=>Q (!c) H1) I h)
def Zyv (ta tb:TE):TE:=fun σ H Q=>ta σ H fun x H1=>∃c,x=.bl c∧if c=true then tb σ H1 Q else Q (.bl false) H1
theorem Z0m {op}{t:TE}(h:PE X a t):PE X (.BoolOp op [a] pos) t:=fun pins s σ H Q I hw=>BoolOp_one (h pins s σ H Q I hw)
theorem Z0r (ha:PE X a ta)(hb:PE X (.BoolOp .And (b::rest) pos) tb):PE X (.BoolOp .And (a::b::rest) pos) (Zyv ta tb):=by
 intro pins s σ H Q I h
 refine BoolOp_and (thn (ha pins s σ H _ I h) fun v s1 ⟨x,H1,I1,r1,q1⟩=>?_)
 obtain⟨c,rfl,q1⟩:=q1
 cases r1
 refine wpAny_truthy_bool ?_
 cases c with
 | true=>exact hb pins s1 σ H1 Q I1 q1
 | false=>exact⟨.bl false,H1,I1,rfl,q1⟩
def tIf (t:TT)(ta tb:TE):TE:=fun σ H Q=>t σ H fun c H1=>if c=true then ta σ H1 Q else tb σ H1 Q
theorem Ztv {c:Expr}(hc:PT X c tA)(ha:PE X a ta)(hb:PE X b tb):PE X (.IfExp c a b pos) (tIf tA ta tb):=by
 intro pins s σ H Q I h
 refine wpAny_IfExp (thn (hc pins s σ H _ I h) fun d s1 ⟨H1,I1,q1⟩=>?_)
 cases d with
 | true=>exact ha pins s1 σ H1 Q I1 q1
 | false=>exact hb pins s1 σ H1 Q I1 q1
end
def SqL (K:W.Frag)(H:Hp)(a:Addr)(xs:List V):Prop:=
 Rd H a (.lst xs)∨
  ∃(o:Obj) (its:Array Value) (n:Nat),K.lookup a=some o∧o.cls=.type "list"∧o.dict=none∧o.data=.seq its n∧its.size≤sizeLine∧Vals xs its.toList
def SqT (K:W.Frag)(H:Hp)(a:Addr)(xs:List V):Prop:=
 Rd H a (.tup xs)∨
  ∃(o:Obj) (its:Array Value) (n:Nat),K.lookup a=some o∧o.cls=.type "tuple"∧o.data=.seq its n∧its.size≤sizeLine∧Vals xs its.toList
def absV:Value→Option V
 | .none=>some .non
 | .bool b=>some (.bl b)
 | .int i _=>some (.int i)
 | .str x _=>some (.str x)
 | .bytes b _=>some (.byt b)
 | .float b _=>some (.flt b)
 | .ref a=>some (.ref a)
 | .type n=>some (.ty n)
 | _=>none
theorem Z3.abs {x:V}{u:Value}(r:Z3 x u):absV u=some x:=by
 cases x with
 | non=>cases r;rfl
 | bl _=>cases r;rfl
 | int _=>obtain⟨t,rfl⟩:=r;rfl
 | str _=>obtain⟨t,rfl⟩:=r;rfl
 | byt _=>obtain⟨t,rfl⟩:=r;rfl
 | flt _=>obtain⟨t,rfl⟩:=r;rfl
 | ref _=>cases r;rfl
 | ty _=>cases r;rfl
theorem Z3.inj {x y:V}{u:Value}(r:Z3 x u)(q:Z3 y u):x=y:=YH (r.abs.symm.trans q.abs)
theorem Vals.inj:∀{xs ys:List V} {us:List Value},Vals xs us→Vals ys us→xs=ys
 | _,_,_,.nil,.nil=>rfl
 | _,_,_,.cons r t,.cons r' t'=>by rw[r.inj r',Vals.inj t t']
section
variable {X:Cx}{pins:List (Addr×Obj)}{σ:St}{H:Hp}{s:Shared}{a:Addr}{xs ys:List V}
theorem SqL.of {K:W.Frag}(h:H a=some (.lst xs)):SqL K H a xs:=.inl (.inl h)
theorem SqT.of {K:W.Frag}(h:H a=some (.tup xs)):SqT K H a xs:=.inl (.inl h)
theorem Inv.list (I:Inv X pins σ H s)(h:SqL X.K H a xs):∃its:List Value,Vals xs its∧PlainL s.heap a its.toArray∧xs.length≤sizeLine:=by
 rcases h with h | ⟨o,its,n,hk,hc,hd,hs,hz,r⟩
 ·obtain⟨z,its,n,r,e⟩:=h.ok I.hok
  exact⟨its,r,⟨_,n,e,rfl,rfl,rfl⟩,z⟩
 ·refine⟨its.toList,r,⟨o,n,I.kIn a o hk,hc,hd,by simpa using hs⟩,?_⟩
  have e:=r.length
  simp only[Array.length_toList] at e
  omega
theorem Inv.tuple (I:Inv X pins σ H s)(h:SqT X.K H a xs):∃its:List Value,Vals xs its∧IsTup s.heap a its.toArray∧xs.length≤sizeLine:=by
 rcases h with h | ⟨o,its,n,hk,hc,hs,hz,r⟩
 ·obtain⟨z,its,r,p⟩:=h.ok I.hok
  exact⟨its,r,p,z⟩
 ·refine⟨its.toList,r,⟨o,I.kIn a o hk,hc,n,by simpa using hs⟩,?_⟩
  have e:=r.length
  simp only[Array.length_toList] at e
  omega
theorem Inv.list_inj (I:Inv X pins σ H s)(h:SqL X.K H a xs)(h':SqL X.K H a ys):xs=ys:=by
 obtain⟨its,r,⟨o,n,e,_,_,d⟩,_⟩:=I.list h
 obtain⟨its',r',⟨o',n',e',_,_,d'⟩,_⟩:=I.list h'
 rw[e] at e';cases e'
 rw[d] at d'
 injection d' with d1 _
 have:its=its':=by simpa using congrArg Array.toList d1
 subst this
 exact r.inj r'
theorem Inv.tuple_inj (I:Inv X pins σ H s)(h:SqT X.K H a xs)(h':SqT X.K H a ys):xs=ys:=by
 obtain⟨its,r,⟨o,e,_,n,d⟩,_⟩:=I.tuple h
 obtain⟨its',r',⟨o',e',_,n',d'⟩,_⟩:=I.tuple h'
 rw[e] at e';cases e'
 rw[d] at d'
 injection d' with d1 _
 have:its=its':=by simpa using congrArg Array.toList d1
 subst this
 exact r.inj r'
end
abbrev Cx.wish (X:Cx)(E:Value→Shared→Prop):Cx:={X with xe:=E}
abbrev Cx.nox (X:Cx):Cx:=X.wish fun _ _=>False
theorem Cx.Ok.wish {X:Cx}(ok:X.Ok)(E:Value→Shared→Prop):(X.wish E).Ok:=
 ⟨ok.mod,ok.kind,ok.glob,ok.blt,ok.above,ok.inj,ok.has,ok.cab,ok.hd,ok.frames,ok.stk,ok.exf,ok.bs,ok.bsz,ok.noex,ok.exfs,ok.funs,ok.frf⟩
theorem Cx.Ok.unwish {X:Cx}{E:Value→Shared→Prop}(ok:(X.wish E).Ok):X.Ok:=
 ⟨ok.mod,ok.kind,ok.glob,ok.blt,ok.above,ok.inj,ok.has,ok.cab,ok.hd,ok.frames,ok.stk,ok.exf,ok.bs,ok.bsz,ok.noex,ok.exfs,ok.funs,ok.frf⟩
section
variable {X:Cx}{pins:List (Addr×Obj)}{σ:St}{H:Hp}{s:Shared}{E:Value→Shared→Prop}
theorem Inv.wish (I:Inv X pins σ H s)(E:Value→Shared→Prop):Inv (X.wish E) pins σ H s:=⟨I.ok.wish E,I.os,I.bare,I.base,I.loc,I.cell,I.free,I.freeC,I.pin,I.hok,I.len⟩
theorem Inv.unwish (I:Inv (X.wish E) pins σ H s):Inv X pins σ H s:=⟨I.ok.unwish,I.os,I.bare,I.base,I.loc,I.cell,I.free,I.freeC,I.pin,I.hok,I.len⟩
theorem SP.unwish {D:Ends}{f:Flow}{s':Shared}(h:SP (X.wish E) pins D f s'):SP X pins D f s':=by
 cases f with
 | next=>obtain⟨σ',H',I,q⟩:=h;exact⟨σ',H',I.unwish,q⟩
 | brk=>obtain⟨σ',H',I,q⟩:=h;exact⟨σ',H',I.unwish,q⟩
 | cont=>obtain⟨σ',H',I,q⟩:=h;exact⟨σ',H',I.unwish,q⟩
 | ret u=>obtain⟨v,σ',H',I,r,q⟩:=h;exact⟨v,σ',H',I.unwish,r,q⟩
theorem PSs.nox {st:List Stmt}{t:TS}(h:PSs X.nox st t):PSs X st t:=fun pins s σ H D I hw=>
 wpAny_mono (h pins s σ H D (I.wish _) hw) (fun _ _ q=>q.unwish) fun _ _ z=>False.elim z
end
section
variable {X:Cx}{st:Stmt}{rest:List Stmt}{t u:TS}{e:Expr}{te:TE}{pos:Pos}
def tNext:TS:=fun D σ H=>D.nx σ H
def tSeq (t u:TS):TS:=fun D σ H=>t {D with nx:=u D} σ H
theorem Zwy:PSs X [] tNext:=fun _ _ σ H _ I h=>wpAny_execs_nil ⟨σ,H,I,h⟩
theorem Ztl (h1:PS X st t)(h2:PSs X rest u):PSs X (st::rest) (tSeq t u):=by
 intro pins s σ H D I h
 refine wpAny_execs_cons (thn (h1 pins s σ H {D with nx:=u D} I h) fun f s1 q=>?_)
 cases f with
 | next=>
  obtain⟨σ',H',I',q⟩:=q
  exact h2 pins s1 σ' H' D I' q
 | ret v=>exact q
 | brk=>exact q
 | cont=>exact q
theorem Zwx (h1:PS X st t):PSs X [st] t:=by
 intro pins s σ H D I h
 refine wpAny_execs_cons (thn (h1 pins s σ H D I h) fun f s1 q=>?_)
 cases f with
 | next=>exact wpAny_execs_nil q
 | ret v=>exact q
 | brk=>exact q
 | cont=>exact q
theorem Inv.quiet {pins:List (Addr×Obj)}{σ:St}{H:Hp}{s:Shared}(I:Inv X pins σ H s):interactive X.env=false:=by simp[interactive,I.ok.kind]
def tDrop (te:TE):TS:=fun D σ H=>te σ H fun _ H1=>D.nx σ H1
theorem Zw0 (he:PE X e te)(hs:swapsWith e none pos.line X.env=pure false:=by rfl):PS X (.Expr e pos) (tDrop te):=by
 intro pins s σ H D I h
 exact wpAny_Expr_any (thn (he pins s σ H _ I h) fun v s1 ⟨x,H1,I1,r1,q1⟩=>⟨σ,H1,I1,q1⟩) I.quiet hs
def tRet (te:TE):TS:=fun D σ H=>te σ H D.rt
theorem Zz9 (he:PE X e te):PS X (.Return (some e) pos) (tRet te):=by
 intro pins s σ H D I h
 exact wpAny_Return_some (thn (he pins s σ H _ I h) fun v s1 ⟨x,H1,I1,r1,q1⟩=>⟨x,σ,H1,I1,r1,q1⟩)
def tRetN:TS:=fun D _ H=>D.rt .non H
theorem Zwz:PS X (.Return none pos) tRetN:=fun _ _ σ H _ I h=>wpAny_Return_none ⟨.non,σ,H,I,rfl,h⟩
def tIfS (c:TT)(t u:TS):TS:=fun D σ H=>c σ H fun b H1=>if b=true then t D σ H1 else u D σ H1
theorem ps_if {c:Expr}{a b:List Stmt}{tc:TT}(hc:PT X c tc)(ha:PSs X a t)(hb:PSs X b u):PS X (.If c a b pos) (tIfS tc t u):=by
 intro pins s σ H D I h
 refine wpAny_If (thn (hc pins s σ H _ I h) fun d s1 ⟨H1,I1,q1⟩=>?_)
 cases d with
 | true=>exact ha pins s1 σ H1 D I1 q1
 | false=>exact hb pins s1 σ H1 D I1 q1
def tNever:TS:=fun _ _ _=>False
end
abbrev TG:=V→St→Hp→(St→Hp→Prop)→Prop
abbrev TGs:=List V→St→Hp→(St→Hp→Prop)→Prop
def PG (X:Cx)(target:Expr)(t:TG):Prop:=
 ∀(pins:List (Addr×Obj)) (s:Shared) (σ:St) (H:Hp) (v:V) (u:Value) (Q:St→Hp→Prop),Inv X pins σ H s→Z3 v u→t v σ H Q→
  wpAny (model X.prog X.w) X.A (assign target X.env u) (fun _ s'=>∃σ' H',Inv X pins σ' H' s'∧Q σ' H') X.xe s
def PGs (X:Cx)(ts:List Expr)(t:TGs):Prop:=
 ∀(pins:List (Addr×Obj)) (s:Shared) (σ:St) (H:Hp) (vs:List V) (us:List Value) (Q:St→Hp→Prop),Inv X pins σ H s→Vals vs us→t vs σ H Q→
  wpAny (model X.prog X.w) X.A (assignInOrder ((assignEach ts X.env).map (·.2)) us) (fun _ s'=>∃σ' H',Inv X pins σ' H' s'∧Q σ' H') X.xe s
abbrev TSet:=V→V→V→Hp→(Hp→Prop)→Prop
def PSet (X:Cx)(t:TSet):Prop:=
 ∀(pins:List (Addr×Obj)) (s:Shared) (σ:St) (H:Hp) (o i v:V) (ov iv u:Value) (Q:Hp→Prop),Inv X pins σ H s→Z3 o ov→Z3 i iv→Z3 v u→t o i v H Q→
  wpAny (model X.prog X.w) X.A (setItem ov iv u) (fun _ s'=>∃H',Inv X pins σ H' s'∧Q H') X.xe s
abbrev TIp:=V→V→Hp→VK→Prop
section
variable {X:Cx}{pos:Pos}
def Zao (i:Nat):TG:=fun v σ H Q=>Q (σ.set i (some v)) H
theorem Xg {i:Nat}{x:Str}(hN:X.N.Nodup)(hi:X.N[i]?=some x)(hx:Loc X.env.scope x)(hf:X.fn x=true∨X.env.scope.names.lookup x=some .local:=by first | exact .inl rfl | exact .inr rfl | assumption):PG X (.Name x pos) (Zao i):=by
 intro pins s σ H v u Q I r h
 exact wpAny_assign_Name (Zmz I hN hi hx r (fun s' I'=>⟨_,H,I',h⟩) hf)
def gNil:TGs:=fun vs σ H Q=>vs=[]∧Q σ H
def Zc2 (t:TG)(u:TGs):TGs:=fun vs σ H Q=>∃v r,vs=v::r∧t v σ H fun σ' H'=>u r σ' H' Q
theorem Zfr:PGs X [] gNil:=by
 intro pins s σ H vs us Q I r h
 obtain⟨e,h⟩:=h
 subst e
 cases r
 exact assignInOrder_nil ⟨σ,H,I,h⟩
theorem Zae {e:Expr}{es:List Expr}{t:TG}{u:TGs}(h1:PG X e t)(h2:PGs X es u)
  (hs:(assignEach (e::es) X.env).map (·.2)=assign e X.env::(assignEach es X.env).map (·.2):=by rfl):PGs X (e::es) (Zc2 t u):=by
 intro pins s σ H vs us Q I r h
 obtain⟨v,vr,e1,h⟩:=h
 subst e1
 cases r with
 | cons r rr=>
  rw[hs]
  refine assignInOrder_cons (thn (h1 pins s σ H _ _ _ I r h) fun _ s1 ⟨σ1,H1,I1,q1⟩=>?_)
  exact h2 pins s1 σ1 H1 _ _ Q I1 rr q1
def gTup (K:W.Frag)(n:Nat)(t:TGs):TG:=fun v σ H Q=>∃a xs,v=.ref a∧SqT K H a xs∧xs.length=n∧t xs σ H Q
theorem Zik {es:List Expr}{k:Nat}{t:TGs}{n:Nat}(hc:X.calm=true)(h:PGs X es t)
  (hn:(assignEach es X.env).length=n:=by rfl) (hst:(assignEach es X.env).findIdx? (·.1)=none:=by rfl):PG X (.Tuple es k pos) (gTup X.K n t):=by
 intro pins s σ H v u Q I r hw
 obtain⟨a,xs,e1,hq,hl,hw⟩:=hw
 subst e1
 cases r
 obtain⟨its,rv,ht,hz⟩:=I.tuple hq
 refine assign_Tuple_tuple (I.ok.hd hc) ht (by simp[hn,←hl,rv.length]) hst fun h' hx=>?_
 have I1:Inv X pins σ H {s with heap:=h'}:=I.kept (t':=s.toks) fun b o e=>hx b o (XH (XD e)) e
 exact h pins _ σ H xs _ Q I1 (by simpa using rv) hw
def gSub (to ti:TE)(t:TSet):TG:=fun v σ H Q=>to σ H fun o H1=>ti σ H1 fun i H2=>t o i v H2 fun H3=>Q σ H3
theorem Z0i {o i:Expr}{to ti:TE}{t:TSet}(ho:PE X o to)(hi:PE X i ti)(hs:PSet X t)
  (ha:∀v,assign (.Subscript o i pos) X.env v=(do
   let ov ←holding [v] (eval o X.env)
   let iv ←holding [v,ov] (eval i X.env)
   standAt pos
   holding [v,ov,iv] (setItem ov iv v)
   release [v,ov,iv] []):=by intro _;rfl):PG X (.Subscript o i pos) (gSub to ti t):=by
 intro pins s σ H v u Q I r h
 rw[ha]
 refine XA (wpAny_holding (thn (ho pins s σ H _ I h) fun ov s1 ⟨x,H1,I1,r1,q1⟩=>?_))
 refine XA (wpAny_holding (thn (hi pins s1 σ H1 _ I1 q1) fun iv s2 ⟨y,H2,I2,r2,q2⟩=>?_))
 refine XA (wpAny_standAt (XA (wpAny_holding (thn (hs pins s2 σ H2 x y v ov iv u _ I2 r1 r2 r q2) fun _ s3 ⟨H3,I3,q3⟩=>?_))))
 exact wpAny_release ⟨σ,H3,I3,q3⟩
def tAsg (te:TE)(g:TG):TS:=fun D σ H=>te σ H fun x H1=>g x σ H1 D.nx
theorem Z0c {tg e:Expr}{te:TE}{g:TG}(he:PE X e te)(hg:PG X tg g)(hs:swapsWithSole [tg] e pos.line X.env=pure false:=by rfl)(hw:swappedStores [tg] e X.env=pure none:=by rfl)
  (h1:(assignEach [tg] X.env).map (·.2)=[assign tg X.env]:=by rfl):PS X (.Assign [tg] e pos) (tAsg te g):=by
 intro pins s σ H D I h
 refine wpAny_Assign_stores (thn (he pins s σ H _ I h) fun v s1 ⟨x,H1,I1,r1,q1⟩=>?_) hs hw
 rw[h1]
 exact thn (hg pins s1 σ H1 x v _ I1 r1 q1) fun _ s2 q=>q
theorem Zz8 {i:Nat}{x:Str}{e:Expr}{te:TE}{pos':Pos}(hN:X.N.Nodup)(hi:X.N[i]?=some x)(hx:Loc X.env.scope x)(he:PE X e te)(hs:swapsWith e (some (.Name x pos')) pos.line X.env=pure false:=by rfl)(hf:X.fn x=true∨X.env.scope.names.lookup x=some .local:=by first | exact .inl rfl | exact .inr rfl | assumption):
  PS X (.Assign [.Name x pos'] e pos) (tAsg te (Zao i)):=by
 intro pins s σ H D I h
 refine wpAny_Assign_Name (thn (he pins s σ H _ I h) fun v s1 ⟨y,H1,I1,r1,q1⟩=>?_) hs
 exact Zmz I1 hN hi hx r1 (fun s2 I2=>⟨_,H1,I2,q1⟩) hf
def tPar (i j:Nat)(ta:TA):TS:=fun D σ H=>ta σ H fun vs H1=>∃v w,vs=[v,w]∧D.nx ((σ.set i (some v)).set j (some w)) H1
def tAug (i:Nat)(te:TE)(ti:TIp):TS:=fun D σ H=>∃x,σ[i]?=some (some x)∧te σ H fun y H1=>ti x y H1 fun z H2=>D.nx (σ.set i (some z)) H2
def tAugS (to ti te:TE)(tget:V→V→Hp→VK→Prop)(tip:TIp)(tset:TSet):TS:=fun D σ H=>to σ H fun o H1=>ti σ H1 fun i H2=>tget o i H2 fun x H3=>te σ H3 fun y H4=>tip x y H4 fun z H5=>tset o i z H5 fun H6=>D.nx σ H6
def PGet (X:Cx)(t:V→V→Hp→VK→Prop):Prop:=
 ∀(pins:List (Addr×Obj)) (s:Shared) (σ:St) (H:Hp) (o i:V) (ov iv:Value) (Q:VK),Inv X pins σ H s→Z3 o ov→Z3 i iv→t o i H Q→
  wpAny (model X.prog X.w) X.A (getItem ov iv) (EP X pins σ Q) X.xe s
def ipI (f:Int→Int→Int):TIp:=fun x y H Q=>∃i j,x=.int i∧y=.int j∧Q (.int (f i j)) H
def Zss (c:TT)(tb:TS):TS:=fun D σ H=>∃W:Nat→St→Hp→Prop,(∃m,W m σ H)∧∀m σ H,W m σ H→
 c σ H fun b H1=>if b=true then ∃N:St→Hp→Prop,(∀σ' H',N σ' H'→∃m',m'<m∧W m' σ' H')∧tb {D with nx:=N,ct:=N,bk:=D.nx} σ H1 else D.nx σ H1
theorem Ztm {c:Expr}{body:List Stmt}{tc:TT}{tb:TS}(hp:PassesOwn (model X.prog X.w) X.A X.env X.xe)(hc:PT X c tc)(hb:PSs X body tb):PS X (.While c body [] pos) (Zss tc tb):=by
 intro pins s σ H D I h
 obtain⟨W,⟨m0,w0⟩,turn⟩:=h
 refine wpAny_While (codeAny_whileLoop (fun n s'=>∃σ' H',Inv X pins σ' H' s'∧W n σ' H') ?_ m0 ⟨σ,H,I,w0⟩)
 rintro n s1 ⟨σ1,H1,I1,w1⟩
 refine wpAny_passesOwn hp (thn (hc pins s1 σ1 H1 _ I1 (turn n σ1 H1 w1)) fun b s2 ⟨H2,I2,q2⟩=>?_)
 cases b with
 | true=>
  obtain⟨N,hN,q2⟩:=q2
  rw[XY rfl]
  refine wpAny_passesOwn hp (thn (hb pins s2 σ1 H2 _ I2 q2) fun f s3 q3=>?_)
  cases f with
  | next=>
   obtain⟨σ3,H3,I3,n3⟩:=q3
   obtain⟨m',hm,w3⟩:=hN σ3 H3 n3
   exact⟨m',hm,σ3,H3,I3,w3⟩
  | cont=>
   obtain⟨σ3,H3,I3,n3⟩:=q3
   obtain⟨m',hm,w3⟩:=hN σ3 H3 n3
   exact⟨m',hm,σ3,H3,I3,w3⟩
  | brk=>exact q3
  | ret v=>exact q3
 | false=>
  rw[XX YJ]
  exact wpAny_execs_nil ⟨σ1,H2,I2,q2⟩
end
structure It where
 go:Nat→Hp→Prop
 yld:Nat→Hp→V→Hp→Prop
 stop:Nat→Hp→Prop
def FpOk (X:Cx)(pins:List (Addr×Obj))(H:Hp)(b:Addr):Prop:=
 H b=none∧b≠X.env.locals∧b∉X.fs∧(b∈X.ex∨X.s₀.heap.objs.size≤b)∧(∀x c,X.env.cells.lookup x=some c→c≠b)∧∀p∈X.pn++pins,p.1≠b
theorem Inv.fpOk {X:Cx}{pins:List (Addr×Obj)}{σ:St}{H H':Hp}{s:Shared}{b:Addr}(I:Inv X pins σ H s)(hb:s.heap.objs.size≤b)(hn:H' b=none):FpOk X pins H' b:=by
 refine⟨hn,Nat.ne_of_gt (XG I.lt hb),I.nofs hb,.inr (XN I.sz hb),fun x c e z=>?_,fun p hp z=>?_⟩
 ·obtain⟨v,q⟩:=I.cell x c e
  exact absurd (XG q.lt (by rw[z];exact hb)) (Nat.lt_irrefl _)
 ·exact absurd (XG (XD (I.pin p hp).1) (by rw[z];exact hb)) (Nat.lt_irrefl _)
structure Turn (P:Program)(w:World)(K:W.Frag)(tg:Expr)(J:It)(fp:List Addr)(it:Addr)(tn:Nat→Heap→Prop):Prop where
 mem:it∈fp
 obj:∀i h,tn i h→∀b∈fp,∃o,h.get? b=some o∧∀v,o.data≠.cell v
 keep:∀i h h',tn i h→(∀b∈fp,∀o,h.get? b=some o→h'.get? b=some o)→tn i h'
 item:∀(X:Cx),X.prog=P→X.w=w→X.K=K→X.calm=true→∀(i:Nat) (pins:List (Addr×Obj)) (s:Shared) (σ:St) (H:Hp) (E:Value→Shared→Prop),Inv X pins σ H s→(∀b∈fp,FpOk X pins H b)→tn i s.heap→J.go i H→
  wpAny (model P w) X.A (pyNext (.ref it)) (fun r s1=>∃u,r=some u∧
   wpAny (model P w) X.A (letOwnedTupleGo tg (.ref it) u) (fun _ s2=>∃x H',Inv X pins σ H' s2∧Z3 x u∧J.yld i H x H'∧tn (i+1) s2.heap∧∀b∈fp,H' b=none) E s1) E s
 done:∀(X:Cx),X.prog=P→X.w=w→X.K=K→X.calm=true→∀(i:Nat) (pins:List (Addr×Obj)) (s:Shared) (σ:St) (H:Hp) (E:Value→Shared→Prop),Inv X pins σ H s→(∀b∈fp,FpOk X pins H b)→tn i s.heap→J.stop i H→
  wpAny (model P w) X.A (pyNext (.ref it)) (fun r s1=>r=none∧Inv X pins σ H s1) E s
 self:∀(A:Around) (i:Nat) (s:Shared) (Q:Value→Shared→Prop) (E:Value→Shared→Prop),tn i s.heap→Q (.ref it) s→wpAny (model P w) A (pyIter (.ref it)) Q E s
abbrev TI:=St→Hp→(It→Hp→Prop)→Prop
def PIE (X:Cx)(pins:List (Addr×Obj))(σ:St)(tg:Expr)(R:It→Hp→Prop)(itv:Value)(s2:Shared):Prop:=
 ∃(it:Addr) (fp:List Addr) (tn:Nat→Heap→Prop) (J:It) (H':Hp),itv=.ref it∧Inv X pins σ H' s2∧Turn X.prog X.w X.K tg J fp it tn∧tn 0 s2.heap∧(∀b∈fp,FpOk X pins H' b)∧R J H'
def PI (X:Cx)(tg iter:Expr)(wi:TI):Prop:=
 ∀(pins:List (Addr×Obj)) (s:Shared) (σ:St) (H:Hp) (R:It→Hp→Prop),Inv X pins σ H s→wi σ H R→
  wpAny (model X.prog X.w) X.A (eval iter X.env) (fun v s1=>wpAny (model X.prog X.w) X.A (pyIter v) (PIE X pins σ tg R) X.xe s1) X.xe s
theorem Znx {M:Model}{A:Around}{E:Value→Shared→Prop}{s:Shared}{tg:Expr}{it:Addr}{u:Value}{o:Obj}{n:String}{vs:Array Value}{Q:Unit→Shared→Prop}(ho:s.heap.get? it=some o)(hc:o.cls=.type n)(hd:o.data=.fields vs)
  (hn:["enumerate","zip","dict_itemiterator","dict_reverseitemiterator","odict_iterator","itertools.zip_longest","itertools.pairwise"].contains n=false) (hQ:Q () s):wpAny M A (letOwnedTupleGo tg (.ref it) u) Q E s:=by
 unfold letOwnedTupleGo
 cases tg<;>first
  | exact XB hQ
  | (cases u<;>first
    | exact XB hQ
    | (refine XA (wpAny_load ho ?_)
       rw[hc,hd]
       show wpAny M A (if (["enumerate","zip","dict_itemiterator","dict_reverseitemiterator","odict_iterator","itertools.zip_longest","itertools.pairwise"].contains n&&vs[0]?==some (rawInt _))=true then _ else _) Q E s
       rw[XX (by intro h;rw[hn,Bool.false_and] at h;cases h)]
       exact XB hQ))
def Itl (K:W.Frag)(a:Addr):It:=
 ⟨fun i H=>∃xs x,SqL K H a xs∧xs[i]?=some x,fun i H x H'=>H'=H∧∀xs,SqL K H a xs→xs[i]?=some x,fun i H=>∃xs,SqL K H a xs∧xs.length≤i⟩
def Itt (K:W.Frag)(a:Addr):It:=
 ⟨fun i H=>∃xs x,SqT K H a xs∧xs[i]?=some x,fun i H x H'=>H'=H∧∀xs,SqT K H a xs→xs[i]?=some x,fun i H=>∃xs,SqT K H a xs∧xs.length≤i⟩
def Itr (lo:Int)(n:Nat):It:=⟨fun i _=>i<n,fun i H x H'=>H'=H∧x=.int (lo+i),fun i _=>n≤i⟩
theorem Zq7 {P:Program}{w:World}{K:W.Frag}{tg:Expr}(a it:Addr):Turn P w K tg (Itl K a) [it] it (fun i h=>h.IsListIter it a i) where
 mem:=by simp
 obj:=fun i h st b hb=>by
  have e:b=it:=by simpa using hb
  subst e
  obtain⟨o,e,c,d⟩:=st
  exact⟨o,e,fun v z=>by rw[d] at z;cases z⟩
 keep:=fun i h h' st k=>st.at fun o e=>k it (by simp) o e
 item:=by
  intro X hP hw hK hc i pins s σ H E I hf st hg
  subst hP hw hK
  obtain⟨xs,x,hq,hx⟩:=hg
  obtain⟨its,rv,p,hz⟩:=I.list hq
  obtain⟨u,hu,ru⟩:=rv.get hx
  obtain⟨f0,f1,f2,f3,f4,f5⟩:=hf it (by simp)
  refine wpAny_pyNext_list_item st p.isList (x:=u) (by simpa using hu) fun h' st' sb=>?_
  have I1:Inv X pins σ H {s with heap:=h'}:=I.turned (t':=s.toks) (fun b o hb e=>(sb.2 b hb).trans e) f0 f1 f3 f4 f5
  obtain⟨o,e,c,d⟩:=id st'
  exact⟨u,rfl,Znx (s:={s with heap:=h'}) e c d (by decide) ⟨x,H,I1,ru,⟨rfl,fun ys hy=>by rw[I.list_inj hy hq];exact hx⟩,st',fun b hb=>(hf b hb).1⟩⟩
 done:=by
  intro X hP hw hK hc i pins s σ H E I hf st hg
  subst hP hw hK
  obtain⟨xs,hq,hx⟩:=hg
  obtain⟨its,rv,p,hz⟩:=I.list hq
  obtain⟨f0,f1,f2,f3,f4,f5⟩:=hf it (by simp)
  have hl:=rv.length
  exact wpAny_pyNext_list_end (I.ok.hd hc) st p.isList (by simp;omega) fun h' eb=>⟨rfl,I.turned (t':=s.toks) (fun b o hb e=>eb b o hb e) f0 f1 f3 f4 f5⟩
 self:=fun _ _ _ _ _ st h=>wpAny_pyIter_listiter st h
theorem Zon {P:Program}{w:World}{K:W.Frag}{tg:Expr}(a it:Addr):Turn P w K tg (Itt K a) [it] it (fun i h=>h.IsTupleIter it a i) where
 mem:=by simp
 obj:=fun i h st b hb=>by
  have e:b=it:=by simpa using hb
  subst e
  obtain⟨o,e,c,d⟩:=st
  exact⟨o,e,fun v z=>by rw[d] at z;cases z⟩
 keep:=fun i h h' st k=>st.at fun o e=>k it (by simp) o e
 item:=by
  intro X hP hw hK hc i pins s σ H E I hf st hg
  subst hP hw hK
  obtain⟨xs,x,hq,hx⟩:=hg
  obtain⟨its,rv,p,hz⟩:=I.tuple hq
  obtain⟨u,hu,ru⟩:=rv.get hx
  obtain⟨f0,f1,f2,f3,f4,f5⟩:=hf it (by simp)
  refine wpAny_pyNext_tuple_item st (show s.heap.IsTuple a its.toArray from p) (x:=u) (by simpa using hu) fun h' st' sb=>?_
  have I1:Inv X pins σ H {s with heap:=h'}:=I.turned (t':=s.toks) (fun b o hb e=>(sb.2 b hb).trans e) f0 f1 f3 f4 f5
  obtain⟨o,e,c,d⟩:=id st'
  exact⟨u,rfl,Znx (s:={s with heap:=h'}) e c d (by decide) ⟨x,H,I1,ru,⟨rfl,fun ys hy=>by rw[I.tuple_inj hy hq];exact hx⟩,st',fun b hb=>(hf b hb).1⟩⟩
 done:=by
  intro X hP hw hK hc i pins s σ H E I hf st hg
  subst hP hw hK
  obtain⟨xs,hq,hx⟩:=hg
  obtain⟨its,rv,p,hz⟩:=I.tuple hq
  obtain⟨f0,f1,f2,f3,f4,f5⟩:=hf it (by simp)
  have hl:=rv.length
  exact wpAny_pyNext_tuple_end (I.ok.hd hc) st (show s.heap.IsTuple a its.toArray from p) (by simp;omega) fun h' eb=>⟨rfl,I.turned (t':=s.toks) (fun b o hb e=>eb b o hb e) f0 f1 f3 f4 f5⟩
 self:=fun _ _ _ _ _ st h=>wpAny_pyIter_tupleiter st h
theorem Zoo {P:Program}{w:World}{K:W.Frag}{tg:Expr}(it:Addr)(lo:Int)(n:Nat):Turn P w K tg (Itr lo n) [it] it (fun i h=>IsRangeIter h it (lo+(i:Nat)*1) ((n:Int)-(i:Nat)) 1) where
 mem:=by simp
 obj:=fun i h st b hb=>by
  have e:b=it:=by simpa using hb
  subst e
  exact⟨_,st,fun v z=>by
   have z':Data.fields _=Data.cell v:=z
   cases z'⟩
 keep:=fun i h h' st k=>k it (by simp) _ st
 item:=by
  intro X hP hw hK hc i pins s σ H E I hf st hg
  subst hP hw hK
  obtain⟨f0,f1,f2,f3,f4,f5⟩:=hf it (by simp)
  have W:=Walks.range (prog:=X.prog) (w:=X.w) (I.ok.hd hc) it lo 1 n
  refine W.item i s _ _ hg st fun v h' tk hv st' kk=>?_
  obtain⟨t,rfl⟩:=hv
  have I1:Inv X pins σ H {s with heap:=h',toks:=tk}:=I.turned (fun b o hb e=>kk b o (by simpa using hb) e) f0 f1 f3 f4 f5
  refine⟨_,rfl,Znx (s:={s with heap:=h',toks:=tk}) (n:="range_iterator") st' rfl rfl (by decide) ⟨.int (lo+i),H,I1,⟨t,?_⟩,⟨rfl,rfl⟩,st',fun b hb=>(hf b hb).1⟩⟩
  rw[Int.mul_one]
 done:=by
  intro X hP hw hK hc i pins s σ H E I hf st hg
  subst hP hw hK
  obtain⟨f0,f1,f2,f3,f4,f5⟩:=hf it (by simp)
  exact wpAny_pyNext_range_end (I.ok.hd hc) st (by have:n≤i:=hg;omega) fun h' eb=>⟨rfl,I.turned (t':=s.toks) (fun b o hb e=>eb b o hb e) f0 f1 f3 f4 f5⟩
 self:=fun _ _ _ _ _ st h=>wpAny_pyIter_rangeiter st h
section
variable {X:Cx}{tg:Expr}
theorem Zth {pins:List (Addr×Obj)}{σ:St}{H:Hp}{s:Shared}{R:It→Hp→Prop}{E:Value→Shared→Prop}{lo hi:Int}{t u v:Tok}{tk:Nat}(I:Inv X pins σ H s)(h1: -(2^62)≤lo)(h2:lo<2^62)(h3: -(2^62)≤hi)(h4:hi<2^62)
  (q:R (Itr lo (hi-lo).toNat) H):wpAny (model X.prog X.w) X.A (pyIter (.ref s.heap.objs.size)) (PIE X pins σ tg R) E {s with heap:=s.heap.push {cls:=.type "range",data:=.fields #[.int lo t,.int hi u,.int 1 v]},toks:=tk}:=by
 refine wpAny_pyIter_range (IsRange.new ..) (small_one h1 h2 h3 h4) ?_
 have I1:Inv X pins σ H {s with heap:=s.heap.push {cls:=.type "range",data:=.fields #[.int lo t,.int hi u,.int 1 v]},toks:=tk}:=I.kept fun b o e=>XC _ e
 refine⟨(s.heap.push {cls:=.type "range",data:=.fields #[.int lo t,.int hi u,.int 1 v]}).objs.size,[(s.heap.push {cls:=.type "range",data:=.fields #[.int lo t,.int hi u,.int 1 v]}).objs.size],_,_,H,rfl,
  I1.kept (t':=tk) fun b o e=>XC _ e,Zoo _ lo (hi-lo).toNat,?_,fun b hb=>?_,q⟩
 ·have e1:lo+((0:Nat):Int)*1=lo:=by simp
  have e2:(((hi-lo).toNat:Nat):Int)-((0:Nat):Int)=Builtin.Range.rangeSize lo hi 1:=by rw[rangeSize_one];split<;>omega
  show IsRangeIter _ _ (lo+((0:Nat):Int)*1) ((((hi-lo).toNat:Nat):Int)-((0:Nat):Int)) 1
  rw[e1,e2]
  exact XF _ rfl
 ·have e:b=(s.heap.push {cls:=.type "range",data:=.fields #[.int lo t,.int hi u,.int 1 v]}).objs.size:=by simpa using hb
  subst e
  exact I1.fpOk (XE _) (I1.hok.fresh (XE _))
def iRng1 (ta:TA):TI:=fun σ H R=>ta σ H fun vs H1=>∃j:Int,vs=[.int j]∧ -(2^62)≤j∧j<2^62∧R (Itr 0 j.toNat) H1
theorem Zri {a:Expr}{ta:TA}{p pos:Pos}(hg:Gl X "range")(hm:X.mg "range"=none)(ha:PA X [a] ta)(hs:starEach [a] X.env=[(false,eval a X.env)]:=by rfl):PI X tg (.Call (.Name "range" p) [a] [] pos) (iRng1 ta):=by
 intro pins s σ H R I h
 refine Call_ (Zb6 I hg hm boot_range (PyProof.Rows.callWith_type1 (thn (ha pos pins s σ H _ I h) fun us s1 ⟨vs,H1,I1,r1,q1⟩=>?_) hs rfl))
 obtain⟨j,e,q1,q2,q⟩:=q1
 subst e
 cases r1 with
 | cons r rr=>
  cases rr
  obtain⟨t,rfl⟩:=r
  exact call_range_1 (Zth I1 (by omega) (by omega) q1 q2 (by simpa using q))
def tFor (wi:TI)(g:TG)(tb:TS):TS:=fun D σ H=>wi σ H fun J H1=>∃W:Nat→Nat→St→Hp→Prop,(∃m,W 0 m σ H1)∧∀i m σ H,W i m σ H→
 (J.stop i H∧D.nx σ H)∨(J.go i H∧∃N:St→Hp→Prop,(∀σ' H',N σ' H'→∃m',m'<m∧W (i+1) m' σ' H')∧∀x H',J.yld i H x H'→g x σ H' fun σ2 H2=>tb {D with nx:=N,ct:=N,bk:=D.nx} σ2 H2)
def Zij (fp:List Addr)(h:Heap):List (Addr×Obj):=fp.filterMap fun b=>(h.get? b).map fun o=>(b,o)
theorem Zda {fp:List Addr}{h:Heap}{b:Addr}{o:Obj}(hb:b∈fp)(e:h.get? b=some o):(b,o)∈Zij fp h:=List.mem_filterMap.mpr ⟨b,hb,by rw[e];rfl⟩
theorem Zrp {fp:List Addr}{h:Heap}{p:Addr×Obj}(hp:p∈Zij fp h):p.1∈fp∧h.get? p.1=some p.2:=by
 obtain⟨b,hb,e⟩:=List.mem_filterMap.mp hp
 cases q:h.get? b with
 | none=>rw[q] at e;cases e
 | some o=>
  rw[q] at e
  have e':(b,o)=p:=YH e
  subst e'
  exact⟨hb,q⟩
theorem Inv.pinned {pins:List (Addr×Obj)}{σ:St}{H:Hp}{s:Shared}{fp:List Addr}(I:Inv X pins σ H s)(hf:∀b∈fp,FpOk X pins H b)(ho:∀b∈fp,∃o,s.heap.get? b=some o∧∀v,o.data≠.cell v):Inv X (pins++Zij fp s.heap) σ H s:=
 I.pins_of fun p hp=>(XS.mp hp).elim (fun z=>I.pin p (XT _ z)) fun z=>by
  obtain⟨hb,e⟩:=Zrp z
  obtain⟨f0,f1,f2,_⟩:=hf p.1 hb
  obtain⟨o,e',d⟩:=ho p.1 hb
  rw[e] at e';cases e'
  exact⟨e,f0,f1,f2,d⟩
theorem Inv.unpinned {pins pl:List (Addr×Obj)}{σ:St}{H:Hp}{s:Shared}(I:Inv X (pins++pl) σ H s):Inv X pins σ H s:=I.pins_of fun p hp=>I.pin p (XT _ (List.mem_append_left _ hp))
theorem Z0a {iter:Expr}{body:List Stmt}{wi:TI}{g:TG}{tb:TS}{pos:Pos}(hp:PassesOwn (model X.prog X.w) X.A X.env X.xe)(hc:X.calm=true)(hi:PI X tg iter wi)(hg:PG X tg g)(hb:PSs X body tb)
  (hs:∀x,foldedSetIterable iter X.env x=pure x:=by intro _;rfl):PS X (.For tg iter body [] pos) (tFor wi g tb):=by
 intro pins s σ H D I h
 refine wpAny_For (thn (hi pins s σ H _ I h) fun v s1 h1=>thn h1 fun itv s2 h2=>?_) hs
 obtain⟨it,fp,tn,J,H2,e,I2,T,st2,f2,W,⟨m0,w0⟩,turn⟩:=h2
 subst e
 have stat:∀{H':Hp},(∀b∈fp,H' b=none)→∀b∈fp,FpOk X pins H' b:=fun hn b hb=>⟨hn b hb,(f2 b hb).2⟩
 refine codeAny_forLoop_any (fun n s'=>∃i σ' H',Inv X pins σ' H' s'∧tn i s'.heap∧(∀b∈fp,H' b=none)∧W i n σ' H') ?_ m0 ⟨0,σ,H2,I2,st2,fun b hb=>(f2 b hb).1,w0⟩
 rintro n s3 ⟨i,σ3,H3,I3,st3,fr3,w3⟩
 rcases turn i n σ3 H3 w3 with⟨stop,qn⟩ | ⟨go,N,hN,step⟩
 ·refine wpAny_passesOwn hp (thn (T.done X rfl rfl rfl hc i pins s3 σ3 H3 X.xe I3 (stat fr3) st3 stop) fun r s4 ⟨hr,I4⟩=>?_)
  subst hr
  exact wpAny_execs_nil ⟨σ3,H3,I4,qn⟩
 ·refine wpAny_passesOwn hp (thn (T.item X rfl rfl rfl hc i pins s3 σ3 H3 X.xe I3 (stat fr3) st3 go) fun r s4 ⟨u,hr,h4⟩=>?_)
  subst hr
  refine wpAny_passesOwn hp (thn h4 fun _ s5 ⟨x,H5,I5,r5,y5,st5,fr5⟩=>?_)
  have I5':=I5.pinned (stat fr5) (T.obj _ _ st5)
  refine wpAny_passesOwn hp (thn (hg _ s5 σ3 H5 x u _ I5' r5 (step x H5 y5)) fun _ s6 ⟨σ6,H6,I6,q6⟩=>?_)
  refine wpAny_passesOwn hp (thn (hb _ s6 σ6 H6 _ I6 q6) fun f s7 q7=>?_)
  have again:∀{σ7:St} {H7:Hp},Inv X (pins++Zij fp s5.heap) σ7 H7 s7→N σ7 H7→∃m,m<n∧∃i σ' H',Inv X pins σ' H' s7∧tn i s7.heap∧(∀b∈fp,H' b=none)∧W i m σ' H':=fun {σ7 H7} I7 n7=>by
   obtain⟨m',hm,w7⟩:=hN σ7 H7 n7
   refine⟨m',hm,i+1,σ7,H7,I7.unpinned,T.keep _ _ _ st5 fun b hb o e=>(I7.pin (b,o) (XT _ (XT _ (Zda hb e)))).1,fun b hb=>?_,w7⟩
   obtain⟨o,e,d⟩:=T.obj _ _ st5 b hb
   exact(I7.pin (b,o) (XT _ (XT _ (Zda hb e)))).2.1
  cases f with
  | next=>obtain⟨σ7,H7,I7,n7⟩:=q7;exact again I7 n7
  | cont=>obtain⟨σ7,H7,I7,n7⟩:=q7;exact again I7 n7
  | brk=>obtain⟨σ7,H7,I7,q7⟩:=q7;exact⟨σ7,H7,I7.unpinned,q7⟩
  | ret v=>obtain⟨x7,σ7,H7,I7,r7,q7⟩:=q7;exact⟨x7,σ7,H7,I7.unpinned,r7,q7⟩
end
abbrev R2:=V→V→Hp→VK→Prop
def OpR (X:Cx)(f:Value→Value→Sem Value)(r:R2):Prop:=
 ∀(pins:List (Addr×Obj)) (s:Shared) (σ:St) (H:Hp) (x y:V) (v u:Value) (Q:VK),Inv X pins σ H s→Z3 x v→Z3 y u→r x y H Q→
  wpAny (model X.prog X.w) X.A (f v u) (EP X pins σ Q) X.xe s
def UnR (X:Cx)(f:Value→Sem Value)(r:V→Hp→VK→Prop):Prop:=
 ∀(pins:List (Addr×Obj)) (s:Shared) (σ:St) (H:Hp) (x:V) (v:Value) (Q:VK),Inv X pins σ H s→Z3 x v→r x H Q→
  wpAny (model X.prog X.w) X.A (f v) (EP X pins σ Q) X.xe s
def Zbn (X:Cx)(f:Value)(r:List V→Hp→VK→Prop):Prop:=
 ∀(pins:List (Addr×Obj)) (s:Shared) (σ:St) (H:Hp) (xs:List V) (us:List Value) (Q:VK),Inv X pins σ H s→Vals xs us→r xs H Q→
  wpAny (model X.prog X.w) X.A (call f us) (EP X pins σ Q) X.xe s
def TruR (X:Cx)(r:V→Hp→(Bool→Hp→Prop)→Prop):Prop:=
 ∀(pins:List (Addr×Obj)) (s:Shared) (σ:St) (H:Hp) (x:V) (v:Value) (Q:Bool→Hp→Prop),Inv X pins σ H s→Z3 x v→r x H Q→
  wpAny (model X.prog X.w) X.A (truthy v) (TP X pins σ Q) X.xe s
def tOp (r:R2)(ta tb:TE):TE:=fun σ H Q=>ta σ H fun x H1=>tb σ H1 fun y H2=>r x y H2 Q
def tUn (r:V→Hp→VK→Prop)(ta:TE):TE:=fun σ H Q=>ta σ H fun x H1=>r x H1 Q
def rI (C:Int→Int→Prop)(g:Int→Int→V):R2:=fun x y H Q=>∃i j,x=.int i∧y=.int j∧C i j∧Q (g i j) H
def rI0 (g:Int→Int→V):R2:=fun x y H Q=>∃i j,x=.int i∧y=.int j∧Q (g i j) H
def rU (g:Int→V):V→Hp→VK→Prop:=fun x H Q=>∃i,x=.int i∧Q (g i) H
section
variable {X:Cx}{a b c:Expr}{ta tb tc:TE}{pos:Pos}
theorem binT (ha:PE X a ta)(hb:PE X b tb){pins:List (Addr×Obj)}{s:Shared}{σ:St}{H:Hp}{R:V→V→Hp→Prop}(I:Inv X pins σ H s)
  (h:ta σ H fun x H1=>tb σ H1 fun y H2=>R x y H2) {Q:Value→Shared→Prop} {f:Value→Value→Sem Value}
  (hf:∀v u s2 x y H2,Inv X pins σ H2 s2→Z3 x v→Z3 y u→R x y H2→wpAny (model X.prog X.w) X.A (f v u) Q X.xe s2):
  wpAny (model X.prog X.w) X.A (eval a X.env) (fun v s₁=>wpAny (model X.prog X.w) X.A (eval b X.env) (fun u s₂=>wpAny (model X.prog X.w) X.A (f v u) Q X.xe s₂) X.xe s₁) X.xe s:=by
 refine thn (ha pins s σ H _ I h) fun v s1 ⟨x,H1,I1,r1,q1⟩=>?_
 refine thn (hb pins s1 σ H1 _ I1 q1) fun u s2 ⟨y,H2,I2,r2,q2⟩=>?_
 exact hf v u s2 x y H2 I2 r1 r2 q2
theorem pe_op {op:Operator}{r:R2}(ho:OpR X (binaryOp op) r)(ha:PE X a ta)(hb:PE X b tb):PE X (.BinOp a op b pos) (tOp r ta tb):=by
 intro pins s σ H Q I h
 exact wpAny_BinOp (binT ha hb I h fun v u s2 x y H2 I2 rx ry q=>ho pins s2 σ H2 x y v u Q I2 rx ry q)
theorem pe_un {op:UnaryOp}{r:V→Hp→VK→Prop}(ho:UnR X (unaryOp op) r)(ha:PE X a ta):PE X (.UnaryOp op a pos) (tUn r ta):=by
 intro pins s σ H Q I h
 exact UnaryOp_ (thn (ha pins s σ H _ I h) fun v s1 ⟨x,H1,I1,r1,q1⟩=>ho pins s1 σ H1 x v Q I1 r1 q1)
theorem opI {f:Value→Value→Sem Value}{C:Int→Int→Prop}{g:Int→Int→Int}
  (rule:∀(i j:Int) (t u:Tok) (s:Shared) (Q:Value→Shared→Prop) (E:Value→Shared→Prop),C i j→Q (.int (g i j) s.toks) {s with toks:=s.toks+1}→wpAny (model X.prog X.w) X.A (f (.int i t) (.int j u)) Q E s):
  OpR X f (rI C fun i j=>.int (g i j)):=by
 intro pins s σ H x y v u Q I rx ry h
 obtain⟨i,j,rfl,rfl,hc,q⟩:=h
 obtain⟨t,rfl⟩:=rx
 obtain⟨t',rfl⟩:=ry
 exact rule i j t t' s _ _ hc ⟨.int (g i j),H,I.tok _,⟨_,rfl⟩,q⟩
theorem opI0 {f:Value→Value→Sem Value}{g:Int→Int→Int}
  (rule:∀(i j:Int) (t u:Tok) (s:Shared) (Q:Value→Shared→Prop) (E:Value→Shared→Prop),Q (.int (g i j) s.toks) {s with toks:=s.toks+1}→wpAny (model X.prog X.w) X.A (f (.int i t) (.int j u)) Q E s):
  OpR X f (rI0 fun i j=>.int (g i j)):=by
 intro pins s σ H x y v u Q I rx ry h
 obtain⟨i,j,rfl,rfl,q⟩:=h
 obtain⟨t,rfl⟩:=rx
 obtain⟨t',rfl⟩:=ry
 exact rule i j t t' s _ _ ⟨.int (g i j),H,I.tok _,⟨_,rfl⟩,q⟩
theorem opB0 {f:Value→Value→Sem Value}{g:Int→Int→Bool}
  (rule:∀(i j:Int) (t u:Tok) (s:Shared) (Q:Value→Shared→Prop) (E:Value→Shared→Prop),Q (.bool (g i j)) s→wpAny (model X.prog X.w) X.A (f (.int i t) (.int j u)) Q E s):
  OpR X f (rI0 fun i j=>.bl (g i j)):=by
 intro pins s σ H x y v u Q I rx ry h
 obtain⟨i,j,rfl,rfl,q⟩:=h
 obtain⟨t,rfl⟩:=rx
 obtain⟨t',rfl⟩:=ry
 exact rule i j t t' s _ _ ⟨.bl (g i j),H,I,rfl,q⟩
def CDiv (i j:Int):Prop:=0<j∧j<1073741824
def CPow (i j:Int):Prop:=0≤j∧j≤1000000∧i.natAbs<2^64
def CMul (i j:Int):Prop:=(-(2^64)<i∧i<2^64)∨(-(2^64)<j∧j<2^64)
theorem CMul.ok {i j:Int}(h:CMul i j):IntMulOk i j:=by
 rcases h with⟨h1,h2⟩ | ⟨h1,h2⟩
 ·exact .of_left (intBits_le_64 h1 h2)
 ·exact .of_right (intBits_le_64 h1 h2)
theorem Zo3:OpR X (binaryOp .Add) (rI0 fun i j=>.int (i+j)):=opI0 fun _ _ _ _ _ _ _ q=>add_int q
theorem Z0s:OpR X (binaryOp .Sub) (rI0 fun i j=>.int (i-j)):=opI0 fun _ _ _ _ _ _ _ q=>sub_int q
theorem Z0u:OpR X (binaryOp .Mult) (rI CMul fun i j=>.int (i*j)):=opI fun _ _ _ _ _ _ _ hc q=>mul_int q hc.ok
theorem Zxj:OpR X (binaryOp .FloorDiv) (rI CDiv fun i j=>.int (i/j)):=opI fun i j _ _ _ _ _ hc q=>by
 have h1:(0:Int)<j:=hc.1
 have h2:j<1073741824:=hc.2
 exact floordiv_int (by omega) (by rw[Int.fdiv_eq_ediv_of_nonneg i (by omega)];exact q) (.inl (PyProof.noPylong_small (by omega)))
theorem Z0v:OpR X (binaryOp .Mod) (rI (fun _ j=>0<j) fun i j=>.int (i%j)):=opI fun i j _ _ _ _ _ hc q=>by
 have h1:(0:Int)<j:=hc
 exact mod_int' (by omega) (by rw[Int.fmod_eq_emod_of_nonneg i (by omega)];exact q)
theorem Z0t:OpR X (binaryOp .Pow) (rI CPow fun i j=>.int (i^j.toNat)):=opI fun _ _ _ _ _ _ _ hc q=>pow_int_small hc.1 hc.2.1 hc.2.2 q
theorem unI {f:Value→Sem Value}{g:Int→Int}
  (rule:∀(i:Int) (t:Tok) (s:Shared) (Q:Value→Shared→Prop) (E:Value→Shared→Prop),Q (.int (g i) s.toks) {s with toks:=s.toks+1}→wpAny (model X.prog X.w) X.A (f (.int i t)) Q E s):
  UnR X f (rU fun i=>.int (g i)):=by
 intro pins s σ H x v Q I rx h
 obtain⟨i,rfl,q⟩:=h
 obtain⟨t,rfl⟩:=rx
 exact rule i t s _ _ ⟨.int (g i),H,I.tok _,⟨_,rfl⟩,q⟩
theorem Zzn:UnR X (unaryOp .USub) (rU fun i=>.int (-i)):=unI fun _ _ _ _ _ q=>neg_int q
end
def scal:V→V→Bool
 | .non,.non=>true | .non,.int _=>true | .int _,.non=>true | .non,.bl _=>true | .bl _,.non=>true | .non,.str _=>true | .str _,.non=>true
 | .int _,.int _=>true | .bl _,.bl _=>true | .str _,.str _=>true | .byt _,.byt _=>true
 | .int _,.str _=>true | .str _,.int _=>true | .bl _,.str _=>true | .str _,.bl _=>true
 | _,_=>false
section
variable {X:Cx}{a b c:Expr}{ta tb tc:TE}{pos:Pos}
theorem Zpn {pins:List (Addr×Obj)}{σ:St}{H:Hp}{s:Shared}{Q:VK}{k k':Bool}(I:Inv X pins σ H s)(q:Q (.bl k) H)(e:k=k'):EP X pins σ Q (.bool k') s:=by
 subst e
 exact⟨.bl k,H,I,rfl,q⟩
theorem op_lt:OpR X (compareOp .Lt) (rI0 fun i j=>.bl (decide (i<j))):=opB0 fun _ _ _ _ _ _ _ q=>lt_int q
theorem op_le:OpR X (compareOp .LtE) (rI0 fun i j=>.bl (decide (i≤j))):=opB0 fun _ _ _ _ _ _ _ q=>le_int q
theorem op_gt:OpR X (compareOp .Gt) (rI0 fun i j=>.bl (decide (j<i))):=opB0 fun _ _ _ _ _ _ _ q=>gt_int q
theorem Zrm:OpR X (compareOp .Lt) (fun x y H Q=>∃i j,x=.str i∧y=.str j∧Q (.bl (decide (i.cps.toList<j.cps.toList))) H):=by
 intro pins s σ H x y v u Q I rx ry h
 obtain⟨i,j,rfl,rfl,q⟩:=h
 obtain⟨t,rfl⟩:=rx
 obtain⟨t',rfl⟩:=ry
 exact lt_str (Zpn I q rfl)
theorem Z0w:OpR X (compareOp .Is) (fun x y H Q=>y=.non∧Q (.bl (decide (x=.non))) H):=by
 intro pins s σ H x y v u Q I rx ry h
 obtain⟨rfl,q⟩:=h
 cases ry
 refine is_none_gen (Zpn I q ?_)
 cases x<;>first
  | (cases rx;rfl)
  | (obtain⟨t,rfl⟩:=rx;rfl)
theorem Zxi:OpR X (compareOp .IsNot) (fun x y H Q=>y=.non∧Q (.bl (!decide (x=.non))) H):=by
 intro pins s σ H x y v u Q I rx ry h
 obtain⟨rfl,q⟩:=h
 cases ry
 refine isnot_none_gen (Zpn I q ?_)
 cases x<;>first
  | (cases rx;rfl)
  | (obtain⟨t,rfl⟩:=rx;rfl)
def isObj:HO→Bool
 | .lst _=>true
 | .ins _ _ _=>true
 | _=>false
theorem OpR.or {f:Value→Value→Sem Value}{r r':R2}(h:OpR X f r)(h':OpR X f r'):OpR X f (fun x y H Q=>r x y H Q∨r' x y H Q):=by
 intro pins s σ H x y v u Q I rx ry q
 rcases q with q | q
 ·exact h pins s σ H x y v u Q I rx ry q
 ·exact h' pins s σ H x y v u Q I rx ry q
theorem Za4 (b:Expr){op:CmpOp}(h:op≠.In:=by decide)(h2:op≠.NotIn:=by decide):behindInMarks op b=false:=by
 have e1:(op==CmpOp.In)=false:=by cases op<;>first | rfl | exact absurd rfl h
 have e2:(op==CmpOp.NotIn)=false:=by cases op<;>first | rfl | exact absurd rfl h2
 cases b<;>simp[behindInMarks,e1,e2]
theorem Zxg {op:CmpOp}{r:R2}(ho:OpR X (compareOp op) r)(ha:PE X a ta)(hb:PE X b tb)(hm:behindInMarks op b=false):PE X (.Compare a [op] [b] pos) (tOp r ta tb):=by
 intro pins s σ H Q I h
 exact wpAny_Compare1 (binT ha hb I h fun v u s2 x y H2 I2 rx ry q=>ho pins s2 σ H2 x y v u Q I2 rx ry q) hm
def Zyt (t:TE):TT:=fun σ H Q=>t σ H fun x H'=>∃k,x=.bl k∧Q k H'
theorem Zww {op:CmpOp}{r:R2}(ho:OpR X (compareOp op) r)(ha:PE X a ta)(hb:PE X b tb)(hm:behindInMarks op b=false):PT X (.Compare a [op] [b] pos) (Zyt (tOp r ta tb)):=by
 intro pins s σ H Q I h
 refine wpAny_isTrue_Compare1 (thn (ha pins s σ H _ I h) fun v s1 ⟨x,H1,I1,r1,q1⟩=>thn (hb pins s1 σ H1 _ I1 q1) fun u s2 ⟨y,H2,I2,r2,q2⟩=>
  thn (ho pins s2 σ H2 x y v u _ I2 r1 r2 q2) fun c s3 ⟨z,H3,I3,r3,k,e,q3⟩=>?_) hm
 subst e
 cases r3
 exact wpAny_truthy_bool ⟨H3,I3,q3⟩
def tChain (r r':R2)(ta tb tc:TE):TE:=fun σ H Q=>ta σ H fun x H1=>tb σ H1 fun y H2=>r x y H2 fun z H3=>∃k,z=.bl k∧
 (if k=true then tc σ H3 fun w' H4=>r' y w' H4 Q else Q (.bl false) H3)
def TruV (K:W.Frag)(x:V)(H:Hp)(k:Bool):Prop:=
 match x with
 | .non=>k=false
 | .bl b=>k=b
 | .int i=>k=(i !=0)
 | .str y=>y.length≤sizeLine∧k=((y.length:Int) !=0)
 | .byt y=>y.size≤sizeLine∧k=((y.size:Int) !=0)
 | .ref p=>(∃xs,SqL K H p xs∧k=!xs.isEmpty)∨(∃xs,SqT K H p xs∧k=!xs.isEmpty)∨∃kvs,H p=some (.dK kvs)∧k=!kvs.isEmpty
 | _=>False
theorem Zph {κ:Type}{kvs:List (κ×V)}{vs:List (κ×Value)}(r:KV kvs vs):(!vs.isEmpty)=!kvs.isEmpty:=by
 cases r<;>rfl
theorem Zi5 {xs:List V}{its:List Value}(r:Vals xs its):(!its.toArray.isEmpty)=!xs.isEmpty:=by
 cases r<;>simp
theorem line63:(sizeLine:Nat)<2^63:=by rw[sizeLine_eq];decide
theorem Zzq:TruR X (fun x H Q=>∃k,TruV X.K x H k∧Q k H):=by
 intro pins s σ H x v Q I rx h
 obtain⟨k,e,q⟩:=h
 have hl:=line63
 have hs:sizeLine=16777216:=sizeLine_eq
 cases x with
 | non=>
  cases rx
  have e':k=false:=e
  subst e'
  exact truthy_none ⟨H,I,q⟩
 | bl b=>
  cases rx
  have e':k=b:=e
  subst e'
  exact wpAny_truthy_bool ⟨H,I,q⟩
 | int i=>
  obtain⟨t,rfl⟩:=rx
  have e':k=(i !=0):=e
  subst e'
  exact PySem.P.truthy_int ⟨H,I,q⟩
 | str y=>
  obtain⟨t,rfl⟩:=rx
  obtain⟨hy,e'⟩:y.length≤sizeLine∧k=((y.length:Int) !=0):=e
  subst e'
  exact PySem.P.truthy_str (by omega) ⟨H,I.tok _,q⟩
 | byt y=>
  obtain⟨t,rfl⟩:=rx
  obtain⟨hy,e'⟩:y.size≤sizeLine∧k=((y.size:Int) !=0):=e
  subst e'
  exact W.truthy_bytes (by omega) ⟨H,I.tok _,q⟩
 | ref p=>
  cases rx
  have e':(∃xs,SqL X.K H p xs∧k=!xs.isEmpty)∨(∃xs,SqT X.K H p xs∧k=!xs.isEmpty)∨∃kvs,H p=some (.dK kvs)∧k=!kvs.isEmpty:=e
  rcases e' with⟨xs,hx,e'⟩ | ⟨xs,hx,e'⟩ | ⟨kvs,hx,e'⟩
  ·subst e'
   obtain⟨its,r,pl,hz⟩:=I.list hx
   have hlen:=r.length
   exact wpAny_truthy_list pl.isList (by simp only[List.size_toArray];omega) ⟨H,I.tok _,by rw[Zi5 r];exact q⟩
  ·subst e'
   obtain⟨its,r,pl,hz⟩:=I.tuple hx
   have hlen:=r.length
   exact truthy_tuple pl (by simp only[List.size_toArray];omega) ⟨H,I.tok _,by rw[Zi5 r];exact q⟩
  ·subst e'
   obtain⟨hz,hS,vs,r,m⟩:kvs.length≤sizeLine∧(p==sysModules)=false∧∃vs,KV kvs vs∧s.heap.DictOf (Y9 X.prog X.w) p vs:=I.hok p _ hx
   have hlen:kvs.length=vs.length:=Paired.length r
   exact wpAny_truthy_dict hS m (by omega) ⟨H,I.tok _,by rw[Zph r];exact q⟩
 | _=>exact(show False from e).elim
theorem Zti (ha:PE X a ta)(he:∀whole,isTrue a X.env whole=(do let v ←whole;standAt a.pos;holding [v] (truthy v))):
  PT X a (fun σ H Q=>ta σ H fun x H'=>∃k,TruV X.K x H' k∧Q k H'):=by
 intro pins s σ H Q I h
 exact isTrue_plain (thn (ha pins s σ H _ I h) fun v s1 ⟨x,H1,I1,r1,q1⟩=>Zzq pins s1 σ H1 x v Q I1 r1 q1) (he _)
theorem Zo2:OpR X (binaryOp .Add) (fun x y H Q=>∃i j,x=.str i∧y=.str j∧i.length+j.length≤sizeLine∧Q (.str (i++j)) H):=by
 intro pins s σ H x y v u Q I rx ry h
 obtain⟨i,j,rfl,rfl,hz,q⟩:=h
 obtain⟨t,rfl⟩:=rx
 obtain⟨t',rfl⟩:=ry
 exact add_str (fun t' tk=>⟨.str (i++j),H,I.tok _,⟨_,rfl⟩,q⟩) hz
theorem vals1 {x:V}{us:List Value}(r:Vals [x] us):∃u,us=[u]∧Z3 x u:=by
 cases r with
 | cons r1 r2=>cases r2;exact⟨_,rfl,r1⟩
theorem vals2 {x y:V}{us:List Value}(r:Vals [x,y] us):∃u w',us=[u,w']∧Z3 x u∧Z3 y w':=by
 cases r with
 | cons r1 r2=>
  cases r2 with
  | cons r3 r4=>cases r4;exact⟨_,_,rfl,r1,r3⟩
theorem Zsc (hc:X.calm=true):Zbn X (.builtin "max") (fun xs H Q=>∃i j,xs=[.int i,.int j]∧Q (.int (if j>i then j else i)) H):=by
 intro pins s σ H xs us Q I r h
 obtain⟨i,j,rfl,q⟩:=h
 obtain⟨u,w',rfl,⟨t,rfl⟩,⟨t',rfl⟩⟩:=vals2 r
 refine max_two_ints (I.ok.hd hc) fun h' tk k=>⟨_,H,I.kept k,?_,q⟩
 by_cases hj:j>i
 ·rw[XY hj,XY hj];exact⟨_,rfl⟩
 ·rw[XX hj,XX hj];exact⟨_,rfl⟩
theorem Zme:Zbn X (.type "str") (fun xs H Q=>∃i,xs=[.int i]∧i.natAbs.log2<1920∧Q (.str (toString i)) H):=by
 intro pins s σ H xs us Q I r h
 obtain⟨i,rfl,hz,q⟩:=h
 obtain⟨u,rfl,t,rfl⟩:=vals1 r
 exact PySem.P.str_of_int hz ⟨.str _,H,I.tok _,⟨_,rfl⟩,q⟩
def LenV (K:W.Frag)(x:V)(H:Hp)(n:Nat):Prop:=
 match x with
 | .str y=>y.length≤sizeLine∧n=y.length
 | .byt y=>y.size≤sizeLine∧n=y.size
 | .ref p=>(∃xs,SqL K H p xs∧n=xs.length)∨∃xs,SqT K H p xs∧n=xs.length
 | _=>False
end
structure ObjM (h:Heap)(x dx C:Addr)(mA:Str→Option Value):Prop where
 obj:h.get? x=some (W.instObj C dx)
 ns:h.Ns1 dx mA
 ne:dx≠x
theorem Zru {h:Heap}{dx:Addr}{mA:Str→Option Value}(n:h.Ns1 dx mA):∃od,h.get? dx=some od∧∀name,W.lookIn name od=some (mA name):=by
 obtain⟨o,es,ep,ho,hd,hk,_,hm⟩:=n
 refine⟨o,ho,fun name=>?_⟩
 have e:=hm name
 unfold nsFind findBy at e
 rw[←Array.find?_toList] at e
 unfold W.lookIn
 rw[hd]
 dsimp only
 split
 ·rename_i y q
  rw[q] at e
  exact congrArg some e
 ·rename_i q
  rw[q] at e
  have a:es.toList.any (·.refKey)=false:=by
   rw[List.any_eq_false]
   intro y hy
   obtain⟨z,t,hkey⟩:=hk y (Array.mem_toList_iff.mp hy)
   simp[DictEntry.refKey,hkey]
  have a':¬es.toList.any (·.refKey)=true:=by rw[a];exact YJ
  rw[XX a']
  exact congrArg some e
theorem ObjM.look {h:Heap}{x dx C:Addr}{mA:Str→Option Value}(I:ObjM h x dx C mA):∃od,W.InstAt h x (W.instObj C dx) C (some od)∧∀name,W.lookIn name od=some (mA name):=
 let ⟨od,ho,hl⟩:=Zru I.ns
 ⟨od,⟨I.obj,rfl,rfl,ho⟩,hl⟩
section
variable {prog:Program}{w:World}{A:Around}{E:Value→Shared→Prop}{s:Shared}{K:W.Frag}{x dx C f:Addr}{mA:Str→Option Value}{name:Str}{v:Value}
theorem Zx1 {expr:Bool}{Q:Value→Shared→Prop}(X:K.In s.heap)(I:ObjM s.heap x dx C mA)(hg:W.plainGet K C name=true)(hh:W.hasDictIn K C=true)
  (ha:W.findIn K (.ref C) name=some none) (hv:mA name=some v) (hv':W.handedIn v=true) (h:Q v {s with toks:=s.toks+1}):
  wpAny (model prog w) A (getAttr (.ref x) name expr) Q E s:=by
 obtain⟨od,J,hl⟩:=I.look
 exact W.get_value X J (W.plainGet_of hg).1 (W.findObj_own hh ha rfl (by rw[hl,hv])) hv' h
theorem Zu2 {pl:Sem Bool}{Q:Value×List Value→Shared→Prop}(X:K.In s.heap)(I:ObjM s.heap x dx C mA)(hg:W.plainGet K C name=true)
  (hf:W.findIn K (.ref C) name=some (some (.ref f))) (ht:W.isFn K (.ref f)=true) (hv:mA name=none) (h:Q (.ref f,[.ref x]) s):
  wpAny (model prog w) A (getMethod (.ref x) name pl) Q E s:=by
 obtain⟨od,J,hl⟩:=I.look
 exact W.method_fn X J (W.plainGet_of hg).1 (W.plainGet_of hg).2 hf (beq_iff_eq.mp ht) (by show(W.lookIn name od).map (·.isSome)=some false;rw[hl,hv];rfl) h
theorem Zwn {ns:List Str}{Q:Unit→Shared→Prop}(X:K.In s.heap)(I:ObjM s.heap x dx C mA)
  (hs:W.findIn K (.ref C) "__setattr__"=some (some (.builtin "object.__setattr__"))) (hp:W.plainOver K C=true) (ht:W.takerIn K C name=some none) (hh:W.hasDictIn K C=true)
  (hw:PySem.Within mA ns) (hsz:ns.length≤sizeLine)
  (h:∀h',ObjM h' x dx C (fun y=>if y=name then some v else mA y)→Heap.SameBut dx s.heap h'→Q () {s with heap:=h',toks:=s.toks+2}):
  wpAny (model prog w) A (setAttr (.ref x) name v) Q E s:=by
 obtain⟨od,J,hl⟩:=I.look
 refine W.set_plain X J hs (W.osa_open (s:={s with toks:=s.toks+1}) (r:=none) X J hp ht fun b=>?_)
 obtain⟨cd,hc,hd'⟩:=W.any_some hh
 have hx:s.heap.get? x=some ⟨.ref C,some dx,.plain,#[]⟩:=I.obj
 refine XA (XB (XA (XA (wpAny_loadPart hx (XA (W.Looks.here (s:={s with toks:=s.toks+1}) (W.looks_clsIn X hc) ?_))))))
 rw[hd']
 refine XB (a:=some dx) (XA (XB (XA ?_)))
 refine wpAny_nsSet1 (s:={s with toks:=s.toks+1}) I.ns fun h' hn2 hs2=>?_
 obtain⟨oD,esD,epD,hoD,hdD,hcD⟩:=hn2.count (PySem.Within.cons name v hw)
 refine XA (wpAny_lookBehind hoD (by rw[hdD];exact pastItsLine_dict (XN hcD (by rw[YF];omega))) ?_)
 exact XB (h _ ⟨(hs2.2 _ (Ne.symm I.ne)).trans I.obj,hn2,I.ne⟩ hs2)
theorem Zud {R:Result→Shared→Prop}{vs:List Value}{kw:List (Str×Value)}(X:K.In s.heap)(hm:W.makesIn K C=true)
  (hi:W.findIn K (.ref C) "__init__"=some (some (.ref f))) (hf:W.typeIn K (.ref f)=some (.type "function"))
  (h:codeAny (model prog w) (A.under (.builtin "type.__call__" ⟨.ref C::vs,kw⟩)) (.call (.ref f) ⟨.ref (s.heap.objs.size+1)::vs,kw⟩) (W.InitBack (s.heap.objs.size+1) R)
   {s with heap:=(s.heap.push W.emptyDict).push (W.instObj C s.heap.objs.size)}):
  codeAny (model prog w) A (.call (.ref C) ⟨vs,kw⟩) R s:=by
 obtain⟨hh,g,d,t,os⟩:=s
 exact W.make_core (W.makes_of X hm) (W.looks_findIn X hi) (fun self=>W.bind_fn X self hf) (.inl rfl) h
end
def putF (f:Str)(v:V):List (Str×V)→List (Str×V)
 | []=>[(f,v)]
 | (g,x)::r=>if g=f then(g,v)::r else(g,x)::putF f v r
theorem Zg8 (f g:Str)(v:V):∀fs:List (Str×V),(putF f v fs).lookup g=if g=f then some v else fs.lookup g
 | []=>by
  show List.lookup g [(f,v)]=_
  by_cases h:g=f
  ·have hb:(g==f)=true:=beq_iff_eq.mpr h
   simp only[List.lookup,hb,if_pos h]
  ·have hb:(g==f)=false:=beq_eq_false_iff_ne.mpr h
   simp only[List.lookup,hb,if_neg h]
 | (k,x)::r=>by
  have ih:=Zg8 f g v r
  rw[show putF f v ((k,x)::r)=(if k=f then(k,v)::r else(k,x)::putF f v r) from rfl]
  by_cases hk:k=f
  ·rw[XY hk]
   by_cases h:g=k
   ·have hb:(g==k)=true:=beq_iff_eq.mpr h
    simp only[List.lookup,hb,if_pos (h.trans hk)]
   ·have hb:(g==k)=false:=beq_eq_false_iff_ne.mpr h
    simp only[List.lookup,hb,if_neg (fun e:g=f=>h (e.trans hk.symm))]
  ·rw[XX hk]
   by_cases h:g=k
   ·have hb:(g==k)=true:=beq_iff_eq.mpr h
    simp only[List.lookup,hb,if_neg (fun e:g=f=>hk (h.symm.trans e))]
   ·have hb:(g==k)=false:=beq_eq_false_iff_ne.mpr h
    simp only[List.lookup,hb]
    exact ih
theorem Zgv (f:Str)(v:V):∀fs:List (Str×V),f∈(putF f v fs).map (·.1)∧∀g,g∈fs.map (·.1)→g∈(putF f v fs).map (·.1)
 | []=>⟨by simp[putF],fun g h=>by simp at h⟩
 | (k,x)::r=>by
  obtain⟨i1,i2⟩:=Zgv f v r
  rw[show putF f v ((k,x)::r)=(if k=f then(k,v)::r else(k,x)::putF f v r) from rfl]
  by_cases hk:k=f
  ·rw[XY hk]
   subst hk
   exact⟨by simp,fun g h=>by simpa using h⟩
  ·rw[XX hk]
   refine⟨?_,fun g h=>?_⟩
   ·rw[YI]
    exact XV _ i1
   ·rw[YI] at h ⊢
    rcases List.mem_cons.mp h with e | e
    ·exact List.mem_cons.mpr (.inl e)
    ·exact XV _ (i2 g e)
theorem Zha (f:Str)(v:V):∀fs:List (Str×V),(putF f v fs).length≤fs.length+1
 | []=>by simp[putF]
 | (k,x)::r=>by
  have ih:=Zha f v r
  rw[show putF f v ((k,x)::r)=(if k=f then(k,v)::r else(k,x)::putF f v r) from rfl]
  by_cases hk:k=f
  ·rw[XY hk,YF,YF];omega
  ·rw[XX hk,YF,YF];omega
theorem RelO.some_of {v:V}{o:Option Value}(r:RelO (some v) o):∃u,o=some u∧Z3 v u:=by
 cases o with
 | none=>exact(show False from r).elim
 | some u=>exact⟨u,rfl,r⟩
theorem RelO.none_of {o:Option Value}(r:RelO none o):o=none:=by
 cases o with
 | none=>rfl
 | some u=>exact(show False from r).elim
theorem Zr6 {v:V}{u:Value}(r:Z3 v u):W.handedIn u=true:=by
 cases v with
 | non=>cases (show u=Value.none from r);rfl
 | bl b=>cases (show u=Value.bool b from r);rfl
 | int i=>obtain⟨t,e⟩:=(show ∃t,u=Value.int i t from r);cases e;rfl
 | str x=>obtain⟨t,e⟩:=(show ∃t,u=Value.str x t from r);cases e;rfl
 | byt b=>obtain⟨t,e⟩:=(show ∃t,u=Value.bytes b t from r);cases e;rfl
 | flt b=>obtain⟨t,e⟩:=(show ∃t,u=Value.float b t from r);cases e;rfl
 | ref a=>cases (show u=Value.ref a from r);rfl
 | ty n=>cases (show u=Value.type n from r);rfl
section
variable {P:Program}{w:World}{H H':Hp}{h h':Heap}{a C dx:Addr}{fs fs':List (Str×V)}
theorem Zhx (hok:HOk P w H h)(e:H a=some (.ins C dx fs)):∃mA,ObjM h a dx C mA∧(∀f,RelO (fs.lookup f) (mA f))∧PySem.Within mA (fs.map (·.1))∧fs.length≤1000∧H dx=some (.own a):=by
 obtain⟨d,z,ne,ob,mA,n,r,q⟩:=(show Xb P w H h a (.ins C dx fs) from hok a _ e)
 exact⟨mA,⟨ob,n,ne⟩,r,q,z,d⟩
end
structure Cls (K:W.Frag)(C:Addr):Prop where
 pg:W.plainGet K C Str.empty=true
 hd:W.hasDictIn K C=true
 po:W.plainOver K C=true
 sa:W.findIn K (.ref C) "__setattr__"=some (some (.builtin "object.__setattr__"))
theorem Cls.get {K:W.Frag}{C:Addr}(c:Cls K C)(f:Str):W.plainGet K C f=true:=c.pg
def Zdd (K:W.Frag)(C:Addr)(f:Str):Prop:=W.findIn K (.ref C) f=some none
theorem Zdd.taker {K:W.Frag}{C:Addr}{f:Str}(n:Zdd K C f):W.takerIn K C f=some none:=by
 unfold W.takerIn
 rw[show W.findIn K (.ref C) f=some none from n]
 rfl
structure Con (K:W.Frag)(C:Addr)(f:Str)(v:V)(u:Value):Prop where
 at_:W.findIn K (.ref C) f=some (some u)
 rel:Z3 v u
 get:W.specialIn K u "__get__"=some none
 cp:W.copiedNames.contains f=false
structure Meth (K:W.Frag)(C:Addr)(m:Str)(f:Addr):Prop where
 at_:W.findIn K (.ref C) m=some (some (.ref f))
 fn:W.isFn K (.ref f)=true
 kp:W.keepIn K (.ref f)=true
section
variable {X:Cx}{pins:List (Addr×Obj)}{σ:St}{H:Hp}{s:Shared}{a C dx:Addr}{fs:List (Str×V)}{f:Str}{v:V}{A:Around}{E:Value→Shared→Prop}
theorem Zpm {b:Bool}{Q:Value→Shared→Prop}(I:Inv X pins σ H s)(e:H a=some (.ins C dx fs))(c:Cls X.K C)(n:Zdd X.K C f)(l:fs.lookup f=some v)
  (h:∀u s',Inv X pins σ H s'→Z3 v u→Q u s'):wpAny (model X.prog X.w) A (getAttr (.ref a) f b) Q E s:=by
 obtain⟨mA,O,r,_,_,_⟩:=Zhx I.hok e
 obtain⟨u,hu,ru⟩:=RelO.some_of (v:=v) (o:=mA f) (by rw[←l];exact r f)
 exact Zx1 I.kIn O (c.get f) c.hd n hu (Zr6 ru) (h u _ (I.tok _) ru)
theorem Zi7 {m:Str}{g:Addr}{pl:Sem Bool}{Q:Value×List Value→Shared→Prop}(I:Inv X pins σ H s)(e:H a=some (.ins C dx fs))(c:Cls X.K C)(k:Meth X.K C m g)(l:fs.lookup m=none)
  (h:Q (.ref g,[.ref a]) s):wpAny (model X.prog X.w) A (getMethod (.ref a) m pl) Q E s:=by
 obtain⟨mA,O,r,_,_,_⟩:=Zhx I.hok e
 have hn:mA m=none:=RelO.none_of (by rw[←l];exact r m)
 exact Zu2 I.kIn O (c.get m) k.at_ k.fn hn h
theorem Zoq {y:V}{u:Value}{Q:Unit→Shared→Prop}(I:Inv X pins σ H s)(e:H a=some (.ins C dx fs))(c:Cls X.K C)(n:Zdd X.K C f)(hl:fs.length<1000)(ry:Z3 y u)
  (h:∀s',Inv X pins σ (upd H a (.ins C dx (putF f y fs))) s'→Q () s'):wpAny (model X.prog X.w) A (setAttr (.ref a) f u) Q E s:=by
 obtain⟨mA,O,r,wi,_,ho⟩:=Zhx I.hok e
 have hz:(fs.map (·.1)).length≤sizeLine:=by rw[XI,sizeLine_eq];omega
 refine Zwn I.kIn O c.sa c.po n.taker c.hd wi hz fun h' O' sb=>h _ ?_
 have hd:∃o,h'.get? dx=some o:=let ⟨o,_,_,e',_⟩:=O'.ns;⟨o,e'⟩
 refine I.write (x:=a) (e:=dx) (by rw[e];exact True.intro) (.inr ho) (fun b q hb z=>(sb.2 b hb).trans z) hd ?_
 refine⟨by rw[Z4 O.ne];exact ho,?_,O.ne,O'.obj,_,O'.ns,fun g=>?_,fun g hg=>?_⟩
 ·have:=Zha f y fs;omega
 ·show RelO ((putF f y fs).lookup g) (if g=f then some u else mA g)
  rw[Zg8]
  by_cases q:g=f
  ·rw[XY q,XY q];exact ry
  ·rw[XX q,XX q];exact r g
 ·by_cases q:g=f
  ·rw[q];exact(Zgv f y fs).1
  ·refine(Zgv f y fs).2 g (wi g fun z=>hg ?_)
   show(if g=f then some u else mA g)=none
   rw[XX q];exact z
theorem Inv.made (I:Inv X pins σ H s):Inv X pins σ (upd (upd H s.heap.objs.size (.own (s.heap.objs.size+1))) (s.heap.objs.size+1) (.ins C s.heap.objs.size []))
  {s with heap:=(s.heap.push W.emptyDict).push (W.instObj C s.heap.objs.size)}:=by
 have e1:(s.heap.push W.emptyDict).get? s.heap.objs.size=some W.emptyDict:=XF s.heap rfl
 have e2:((s.heap.push W.emptyDict).push (W.instObj C s.heap.objs.size)).get? (s.heap.objs.size+1)=some (W.instObj C s.heap.objs.size):=by
  have:=XF (s.heap.push W.emptyDict) (o:=W.instObj C s.heap.objs.size) rfl
  rwa [Heap.size_push] at this
 have e3:(s.heap.push W.emptyDict).Ns s.heap.objs.size (fun _=>none):=⟨W.emptyDict,#[],_,e1,rfl,(fun e he=>absurd he (by simp)),fun _=>rfl⟩
 have I1:=I.laid (a:=s.heap.objs.size) (o:=.own (s.heap.objs.size+1)) (h':=s.heap.push W.emptyDict) (t':=s.toks) (fun b u q=>XC _ q) (XE _) ⟨_,e1⟩
 refine I1.laid (a:=s.heap.objs.size+1) (o:=.ins C s.heap.objs.size []) (t':=s.toks) (fun b u q=>XC _ q) (Nat.le_of_eq (Heap.size_push _ _)) ?_
 have ne:s.heap.objs.size≠s.heap.objs.size+1:=XH (Nat.lt_succ_self _)
 refine⟨by rw[Z4 ne,Yh],XO _,ne,e2,fun _=>none,(Heap.Ns1.of_empty e3).at fun o q=>XC _ q,fun _=>True.intro,fun y hy=>absurd rfl hy⟩
theorem Zyo {prog:Program}{w:World}{env:Env}{e:Expr}{f:Str}{pos:Pos}{s:Shared}{Q:Value→Shared→Prop}(hb:attributeBase e f env (eval e env)=eval e env)
  (h:wpAny (model prog w) A (eval e env) (fun o s₁=>wpAny (model prog w) A (getAttr o f true) Q E s₁) E s):wpAny (model prog w) A (eval (.Attribute e f pos) env) Q E s:=
 Attribute_any_ h (by rw[arm_eval_Attribute,hb])
end
def tFld (K:W.Frag)(ta:TE)(f:Str):TE:=fun σ H Q=>ta σ H fun x H1=>∃a C dx fs v,x=.ref a∧H1 a=some (.ins C dx fs)∧Cls K C∧Zdd K C f∧fs.lookup f=some v∧Q v H1
def tCon (K:W.Frag)(ta:TE)(f:Str):TE:=fun σ H Q=>ta σ H fun x H1=>∃a C dx fs v u,x=.ref a∧H1 a=some (.ins C dx fs)∧Cls K C∧Con K C f v u∧fs.lookup f=none∧Q v H1
def sFld (K:W.Frag)(ta tv:TE)(f:Str):TS:=fun D σ H=>tv σ H fun y H1=>ta σ H1 fun x H2=>∃a C dx fs,x=.ref a∧H2 a=some (.ins C dx fs)∧Cls K C∧Zdd K C f∧fs.length<1000∧
 D.nx σ (upd H2 a (.ins C dx (putF f y fs)))
def InOp (X:Cx)(op:Operator)(rd:V→V→Hp→VK→Prop):Prop:=
 ∀(pins:List (Addr×Obj)) (s:Shared) (σ:St) (H:Hp) (x y:V) (u v:Value) (Q:VK),Inv X pins σ H s→Z3 x u→Z3 y v→rd x y H Q→wpAny (model X.prog X.w) X.A (inplaceOp op u v) (EP X pins σ Q) X.xe s
def sFldAug (K:W.Frag)(ta tv:TE)(rd:V→V→Hp→VK→Prop)(f:Str):TS:=fun D σ H=>ta σ H fun x H1=>∃a C dx fs v,x=.ref a∧H1 a=some (.ins C dx fs)∧Cls K C∧Zdd K C f∧fs.lookup f=some v∧
 tv σ H1 fun y H2=>rd v y H2 fun z H3=>∃dx' fs',H3 a=some (.ins C dx' fs')∧fs'.length<1000∧D.nx σ (upd H3 a (.ins C dx' (putF f z fs')))
section
variable {X:Cx}{o e value:Expr}{f:Str}{pos pos' tpos:Pos}{ta tv:TE}
theorem Z0p (he:PE X e ta)(hb:attributeBase e f X.env (eval e X.env)=eval e X.env):PE X (.Attribute e f pos) (tFld X.K ta f):=by
 intro pins s σ H Q I h
 refine Zyo hb (thn (he pins s σ H _ I h) fun u s1 ⟨x,H1,I1,rx,a,C,dx,fs,v,ex,ea,c,n,l,q⟩=>?_)
 subst ex
 obtain rfl:u=Value.ref a:=rx
 exact Zpm I1 ea c n l fun u' s2 I2 ru=>⟨v,H1,I2,ru,q⟩
theorem Z0b (ha:PE X o ta)(hv:PE X value tv)(hs:swapsWith value (some (.Attribute o f pos')) pos.line X.env=pure false):PS X (.Assign [.Attribute o f pos'] value pos) (sFld X.K ta tv f):=by
 intro pins s σ H D I h
 refine plainObj_wpAny_Assign_Attribute (thn (hv pins s σ H _ I h) fun u s1 ⟨y,H1,I1,ry,q⟩=>thn (ha pins s1 σ H1 _ I1 q) fun ov s2 ⟨x,H2,I2,rx,a,C,dx,fs,ex,ea,c,n,l,q2⟩=>?_) hs
 subst ex
 obtain rfl:ov=Value.ref a:=rx
 exact Zoq I2 ea c n l ry fun s3 I3=>⟨σ,_,I3,q2⟩
end
section
variable {X:Cx}{pins:List (Addr×Obj)}{σ:St}{H:Hp}{s:Shared}{A:Around}{E:Value→Shared→Prop}{Q:Value→Shared→Prop}{c:Value}{b:Bool}
inductive TyOf (K:W.Frag)(H:Hp):V→Value→Prop where
 | non:TyOf K H .non (.type "NoneType")
 | bl (x:Bool):TyOf K H (.bl x) (.type "bool")
 | int (i:Int):TyOf K H (.int i) (.type "int")
 | str (x:Str):TyOf K H (.str x) (.type "str")
 | flt (x:UInt64):TyOf K H (.flt x) (.type "float")
 | lst {a:Addr} {xs:List V} (e:H a=some (.lst xs)):TyOf K H (.ref a) (.type "list")
 | frz {a:Addr} {o:Obj} {xs:List V} (e:H a=some (.frz o (.lst xs))):TyOf K H (.ref a) (.type "list")
 | tup {a:Addr} {xs:List V} (e:H a=some (.tup xs)):TyOf K H (.ref a) (.type "tuple")
 | dK {a:Addr} {kvs:List (Key×V)} (e:H a=some (.dK kvs)):TyOf K H (.ref a) (.type "dict")
 | dT {a:Addr} {kvs:List (List Key×V)} (e:H a=some (.dT kvs)):TyOf K H (.ref a) (.type "dict")
 | ins {a C dx:Addr} {fs:List (Str×V)} (e:H a=some (.ins C dx fs)) (cl:Cls K C) (ha:W.findIn K (.ref C) "__class__"=some (some (.builtin "object.__class__")))
   (hn:W.specialIn K (.builtin "object.__class__") "__get__"=some (some (.builtin "getset_descriptor.__get__"))) (htk:W.takesIn K (.builtin "object.__class__")=some true)
   (hm:W.mroIn K C (.type "object")=some true):TyOf K H (.ref a) (.ref C)
theorem Zb0 {x:V}{u t:Value}(I:Inv X pins σ H s)(rx:Z3 x u)(ty:TyOf X.K H x t)(e:W.kitOne X.K t c=some b)(h:∀tk,Q (.bool b) {s with toks:=tk}):
  wpAny (model X.prog X.w) A (call (.builtin "isinstance") [u,c]) Q E s:=by
 cases ty with
 | non=>cases (show u=Value.none from rx);exact W.kia_one W.kitx_none I.kIn True.intro e (fun z=>nomatch z) h
 | bl y=>cases (show u=Value.bool y from rx);exact W.kia_one W.kitx_bool I.kIn True.intro e (fun z=>nomatch z) h
 | int i=>obtain⟨t,q⟩:=(show ∃t,u=Value.int i t from rx);cases q;exact W.kia_one W.kitx_int I.kIn True.intro e (fun z=>nomatch z) h
 | str y=>obtain⟨t,q⟩:=(show ∃t,u=Value.str y t from rx);cases q;exact W.kia_one W.kitx_str I.kIn True.intro e (fun z=>nomatch z) h
 | flt y=>obtain⟨t,q⟩:=(show ∃t,u=Value.float y t from rx);cases q;exact W.kia_one W.kitx_float I.kIn True.intro e (fun z=>nomatch z) h
 | @lst a xs ea=>
  cases (show u=Value.ref a from rx)
  obtain⟨_,_,n,_,h1⟩:=(show Xb X.prog X.w H s.heap a (.lst xs) from I.hok a _ ea)
  exact W.kia_one W.kitx_list I.kIn ⟨_,h1,rfl⟩ e (fun z=>nomatch z) h
 | @frz a ob xs ea=>
  cases (show u=Value.ref a from rx)
  obtain⟨_,_,_,n,_,h1⟩:=(show Xb X.prog X.w H s.heap a (.frz ob (.lst xs)) from I.hok a _ ea)
  exact W.kia_one W.kitx_list I.kIn ⟨_,h1,rfl⟩ e (fun z=>nomatch z) h
 | @tup a xs ea=>
  cases (show u=Value.ref a from rx)
  obtain⟨_,_,_,p⟩:=(show Xb X.prog X.w H s.heap a (.tup xs) from I.hok a _ ea)
  obtain⟨o,h1,h2,_⟩:=p
  exact W.kia_one W.kitx_tuple I.kIn ⟨o,h1,h2⟩ e (fun z=>nomatch z) h
 | @dK a kvs ea=>
  cases (show u=Value.ref a from rx)
  obtain⟨_,_,vs,_,p⟩:=(show Xb X.prog X.w H s.heap a (.dK kvs) from I.hok a _ ea)
  obtain⟨o,es,ep,h1,h2,_⟩:=p
  exact W.kia_one W.kitx_dict I.kIn ⟨o,h1,h2.1⟩ e (fun z=>nomatch z) h
 | @dT a kvs ea=>
  cases (show u=Value.ref a from rx)
  obtain⟨_,_,xs,_,o,es,ep,h1,h2,_⟩:=(show Xb X.prog X.w H s.heap a (.dT kvs) from I.hok a _ ea)
  exact W.kia_one W.kitx_dict I.kIn ⟨o,h1,h2.1⟩ e (fun z=>nomatch z) h
 | @ins a C dx fs ea cl ha hn htk hm=>
  cases (show u=Value.ref a from rx)
  obtain⟨mA,O,_⟩:=Zhx I.hok ea
  obtain⟨od,J,_⟩:=O.look
  exact W.kia_one (W.kitx_own (cl.get _) cl.hd ha hn htk hm) I.kIn J e (fun z=>nomatch z) h
end
structure Room (k:Nat)(A:Around):Prop where
 hd:A.handled=none
 dp:A.depth+3*k+5<recursionLimit
 un:A.units+16*k+200<cLine
theorem Room.deeper {k:Nat}{A:Around}(r:Room (k+1) A)(env:Env):Room k (A.deeper env):=
 ⟨r.hd,by have:=r.dp;show A.depth+1+3*k+5<_;omega,by have:=r.un;show A.units+3+16*k+200<_;omega⟩
theorem Zpb {A:Around}{C:Addr}{us:List Value}{kw:List (Str×Value)}:(A.under (.builtin "type.__call__" ⟨.ref C::us,kw⟩)).depth=A.depth+1:=by
 first | rfl | simp[Around.under,Code.weight,Code.isCreation,Code.isGuard,Code.isCaller,Code.frames,Code.isFrame,guardIds]
theorem Zpa {A:Around}{C:Addr}{us:List Value}{kw:List (Str×Value)}:(A.under (.builtin "type.__call__" ⟨.ref C::us,kw⟩)).units=A.units+1:=by
 first | rfl | simp[Around.under,Code.cUnits,Code.frames,Code.isFrame]
theorem Room.make {k:Nat}{A:Around}(r:Room (k+1) A)(C:Addr)(us:List Value)(kw:List (Str×Value)):Room k (A.under (.builtin "type.__call__" ⟨.ref C::us,kw⟩)):=
 ⟨r.hd,by have:=r.dp;rw[Zpb];omega,by have:=r.un;rw[Zpa];omega⟩
theorem Room.depth {k:Nat}{A:Around}(r:Room k A):A.depth<recursionLimit:=by have:=r.dp;omega
def tNil:TA:=fun _ H Q=>Q [] H
def Zsv (ta:TE)(tr:TA):TA:=fun σ H Q=>ta σ H fun x H1=>tr σ H1 fun xs H2=>Q (x::xs) H2
section
variable {X:Cx}{e:Expr}{es:List Expr}{te:TE}{t:TA}{pos:Pos}
theorem Zo1:PA X [] tNil:=fun _ _ _ _ H Q I h=>Calls.spliced_nil ⟨[],H,I,.nil,h⟩
theorem Zhs (ha:PE X e te)(hr:PA X es t)(hs:starEach (e::es) X.env=(false,eval e X.env)::starEach es X.env:=by rfl):PA X (e::es) (Zsv te t):=by
 intro pos pins s σ H Q I h
 rw[hs]
 show wpAny _ _ (spliced ((false,eval e X.env)::backTo pos (starEach es X.env))) _ _ s
 refine Calls.spliced_cons (thn (ha pins s σ H _ I h) fun u s1 ⟨x,H1,I1,r1,q1⟩=>?_)
 exact thn (hr pos pins s1 σ H1 _ I1 q1) fun us s2 ⟨xs,H2,I2,r2,q2⟩=>⟨x::xs,H2,I2,.cons r1 r2,q2⟩
def tTup (t:TA):TE:=fun σ H Q=>t σ H fun xs H1=>xs.length≤sizeLine∧∀p,H1 p=none→Q (.ref p) (upd H1 p (.tup xs))
def tLst (t:TA):TE:=fun σ H Q=>t σ H fun xs H1=>xs.length≤sizeLine∧∀p,H1 p=none→Q (.ref p) (upd H1 p (.lst xs))
theorem Z0k {x1}(h:PA X es t):PE X (.Tuple es x1 pos) (tTup t):=by
 intro pins s σ H Q I hq
 refine wpAny_Tuple_spliced (thn (h pos pins s σ H _ I hq) fun us s1 ⟨xs,H1,I1,r,z,q⟩=>⟨by rw[←r.length];exact z,?_⟩)
 have hf:H1 s1.heap.objs.size=none:=I1.hok.fresh (XE _)
 refine⟨.ref s1.heap.objs.size,upd H1 s1.heap.objs.size (.tup xs),I1.laid (t':=s1.toks) (fun b u e=>XC _ e) (XE _) ?_,rfl,q _ hf⟩
 exact⟨z,us,r,⟨_,XF _ rfl,rfl,_,rfl⟩⟩
theorem Z0o (h:PA X es t):PE X (.List es pos) (tLst t):=by
 intro pins s σ H Q I hq
 refine wpAny_List_spliced (thn (h pos pins s σ H _ I hq) fun us s1 ⟨xs,H1,I1,r,z,q⟩=>⟨by rw[←r.length];exact z,?_⟩)
 have hf:H1 s1.heap.objs.size=none:=I1.hok.fresh (XE _)
 refine⟨.ref s1.heap.objs.size,upd H1 s1.heap.objs.size (.lst xs),I1.laid (t':=s1.toks) (fun b u e=>XC _ e) (XE _) ?_,rfl,q _ hf⟩
 exact⟨z,us,0,r,XF _ rfl⟩
end
abbrev Sp:=List V→Hp→VK→XK→Prop
abbrev CXT:=List Env→Hp→Shared→XK→Value→Shared→Prop
structure Env0 (P:Program)(w:World)(K:W.Frag)(mg:Str→Option Value)(base:Heap)(A:Around)(outer:List Env)(s:Shared)(H:Hp):Prop where
 frames:A.frames=some outer
 mod:Mod K mg base
 bs:∀b o,base.get? b=some o→s.heap.get? b=some o∧H b=none
 bsz:base.objs.size≤s.heap.objs.size
 funs:s.heap.FunFrames base outer
 frf:∀b∈frs outer,H b=none
 hok:HOk P w H s.heap
 bare:AllBare s.gens
def CE (outer:List Env)(P:Program)(w:World)(H:Hp)(s:Shared)(Q:VK)(u:Value)(s':Shared):Prop:=
 ∃v H',s'.os=s.os∧AllBare s'.gens∧Un (frs outer) [] H H' s.heap s'.heap∧HOk P w H' s'.heap∧Z3 v u∧Q v H'
def CR (CX:CXT)(outer:List Env)(P:Program)(w:World)(H:Hp)(s:Shared)(Q:VK)(E:XK)(r:Result)(s':Shared):Prop:=
 match r with
 | .ok (.ret u)=>CE outer P w H s Q u s'
 | .ok _=>False
 | .error e=>CX outer H s E e s'
structure FnOk (P:Program)(w:World)(K:W.Frag)(mg:Str→Option Value)(base:Heap)(CX:CXT)(k:Nat)(f:Addr)(fd:FuncData)(ps:List Str)(sp:Sp):Prop where
 len:∀vs H Q E,sp vs H Q E→vs.length=ps.length
 run:∀(A:Around) (outer:List Env) (s:Shared) (H:Hp) (args:Args) (us:List Value) (vs:List V) (Q:VK) (E:XK),Room k A→Env0 P w K mg base A outer s H→BindsTo s fd args (ps.zip us)→Vals vs us→sp vs H Q E→
  codeAny (model P w) A (.call (.ref f) args) (CR CX outer P w H s Q E) s
theorem Env0.make {P:Program}{w:World}{K:W.Frag}{mg:Str→Option Value}{base:Heap}{A:Around}{outer:List Env}{s:Shared}{H:Hp}(e:Env0 P w K mg base A outer s H)(C:Addr)(us:List Value)(kw:List (Str×Value)):
  Env0 P w K mg base (A.under (.builtin "type.__call__" ⟨.ref C::us,kw⟩)) outer s H:=⟨by first | exact e.frames | (simpa[Around.under,Code.envs,Code.isFrame,pushEnvs] using e.frames),e.mod,e.bs,e.bsz,e.funs,e.frf,e.hok,e.bare⟩
section
variable {X:Cx}{pins:List (Addr×Obj)}{σ:St}{H:Hp}{s s':Shared}
theorem Inv.env0 (I:Inv X pins σ H s):Env0 X.prog X.w X.K X.mg X.base X.A X.stack s H:=
 ⟨I.ok.frames,I.ok.mod,I.bs,XN I.ok.bsz I.sz,I.stack,I.stkFree,I.hok,I.bare⟩
theorem Inv.after {Q:VK}{u:Value}(I:Inv X pins σ H s)(h:CE X.stack X.prog X.w H s Q u s'):EP X pins σ Q u s':=by
 obtain⟨v,H',os,bare,un,hok,r,q⟩:=h
 obtain⟨hh,g,d,t,os'⟩:=s'
 obtain rfl:os'=s.os:=os
 exact⟨v,H',I.call (h':=hh) (g':=g) (d':=d) (t':=t) (ch:=[]) un hok bare (fun b z=>absurd z (by simp)),r,q⟩
end
def Zyu (sp:Sp)(dvs:List V)(E:XK)(t:TA):TE:=fun σ H Q=>t σ H fun vs H1=>sp (vs++dvs) H1 Q E
def tMeth (C:Addr)(m:Str)(sp:Sp)(dvs:List V)(E:XK)(ta:TE)(t:TA):TE:=fun σ H Q=>ta σ H fun x H1=>∃a dx fs,x=.ref a∧H1 a=some (.ins C dx fs)∧fs.lookup m=none∧
 t σ H1 fun vs H2=>sp (x::(vs++dvs)) H2 Q E
def tMake (C:Addr)(sp:Sp)(dvs:List V)(E:XK)(t:TA):TE:=fun σ H Q=>t σ H fun vs H1=>∀x dx,H1 x=none→H1 dx=none→dx≠x→
 sp (.ref x::(vs++dvs)) (upd (upd H1 dx (.own x)) x (.ins C dx [])) (fun v H2=>v=.non∧Q (.ref x) H2) E
def Binds (K:W.Frag)(fd:FuncData)(ps:List Str)(ds:List Value):Prop:=
 ∀(s:Shared) (us:List Value),K.In s.heap→(us++ds).length=ps.length→BindsTo s fd ⟨us,[]⟩ (ps.zip (us++ds))
theorem Binds.all {K:W.Frag}{fd:FuncData}{ps:List Str}(h:∀us:List Value,us.length=ps.length→bindArgs fd ⟨us,[]⟩=pure (ps.zip us)):Binds K fd ps []:=fun s us _ hl=>by
 rw[YK] at hl ⊢
 exact .of_eq (h us hl)
def Passes (CX:CXT)(X:Cx)(E:XK):Prop:=∀(pins:List (Addr×Obj)) (σ:St) (H:Hp) (s:Shared) (e:Value) (s':Shared),Inv X pins σ H s→CX X.stack H s E e s'→X.xe e s'
section
variable {X:Cx}{CX:CXT}{k:Nat}{f C:Addr}{fd:FuncData}{ps:List Str}{sp:Sp}{dvs:List V}{ds:List Value}{E:XK}{x m:Str}{p pos apos:Pos}{e o:Expr}{es:List Expr}{ta:TE}{t:TA}
theorem Zov {pins:List (Addr×Obj)}{σ:St}{H:Hp}{s:Shared}{Q:VK}{us:List Value}{vs:List V}(F:FnOk X.prog X.w X.K X.mg X.base CX k f fd ps sp)(hr:Room k X.A)(hb:Binds X.K fd ps ds)(hd:Vals dvs ds)(hx:Passes CX X E)
  (I:Inv X pins σ H s) (r:Vals vs us) (h:sp (vs++dvs) H Q E):wpAny (model X.prog X.w) X.A (call (.ref f) us) (EP X pins σ Q) X.xe s:=by
 have r2:Vals (vs++dvs) (us++ds):=r.append hd
 have hl:(us++ds).length=ps.length:=by rw[←r2.length];exact F.len _ _ _ _ h
 refine wpAny_call (codeAny_mono (F.run X.A X.stack s H ⟨us,[]⟩ (us++ds) (vs++dvs) Q E hr I.env0 (hb s us I.kIn hl) r2 h) fun r s' hq=>?_)
 cases r with
 | error e=>exact hx pins σ H s e s' I hq
 | ok fl=>
  cases fl with
  | ret u=>exact I.after hq
  | next=>exact False.elim hq
  | brk=>exact False.elim hq
  | cont=>exact False.elim hq
theorem Zp9 (F:FnOk X.prog X.w X.K X.mg X.base CX k f fd ps sp)(hr:Room k X.A)(hg:Gl X x)(hm:X.mg x=some (.ref f))(hk:W.keepIn X.K (.ref f)=true)(hb:Binds X.K fd ps ds)(hd:Vals dvs ds)(hx:Passes CX X E)
  (ha:PA X (e::es) t) (hdb:(x==("__debug__":Str))=false:=by decide) (he:starEach (e::es) X.env=(false,eval e X.env)::starEach es X.env:=by rfl) (hpl:(backTo pos (starEach es X.env)).any (·.1)=false:=by rfl):
  PE X (.Call (.Name x p) (e::es) [] pos) (Zyu sp dvs E t):=by
 intro pins s σ H Q I h
 refine wpAny_Call_Name_kw (Zhv I hg hm ?_ hdb)
 refine W.callWith_K (h₀:=X.base) I.ok.mod.kin hk (thn (ha pos pins s σ H _ I h) fun us s1 ⟨vs,H1,I1,r,q⟩=>⟨I1.kIn,?_⟩) he hpl
 exact Zov F hr hb hd hx I1 r q
structure Mk (K:W.Frag)(C f:Addr):Prop where
 makes:W.makesIn K C=true
 init:W.findIn K (.ref C) "__init__"=some (some (.ref f))
 fn:W.isFn K (.ref f)=true
 kp:W.keepIn K (.ref C)=true
theorem Ztf {pins:List (Addr×Obj)}{σ:St}{H:Hp}{s:Shared}{Q:VK}{us:List Value}{vs:List V}(M:Mk X.K C f)(F:FnOk X.prog X.w X.K X.mg X.base CX k f fd ps sp)(hr:Room (k+1) X.A)(hb:Binds X.K fd ps ds)(hd:Vals dvs ds)
  (hx:Passes CX X E) (I:Inv X pins σ H s) (r:Vals vs us)
  (h:∀x dx,H x=none→H dx=none→dx≠x→sp (.ref x::(vs++dvs)) (upd (upd H dx (.own x)) x (.ins C dx [])) (fun v H2=>v=.non∧Q (.ref x) H2) E):
  wpAny (model X.prog X.w) X.A (call (.ref C) us) (EP X pins σ Q) X.xe s:=by
 have hq:=h (s.heap.objs.size+1) s.heap.objs.size (I.hok.fresh (Nat.le_succ _)) (I.hok.fresh (XE _)) (XH (Nat.lt_succ_self _))
 have I2:=Inv.made (C:=C) I
 have r2:Vals (V.ref (s.heap.objs.size+1)::(vs++dvs)) (Value.ref (s.heap.objs.size+1)::(us++ds)):=.cons rfl (r.append hd)
 have hl:(Value.ref (s.heap.objs.size+1)::us++ds).length=ps.length:=by
  have e:=r2.length
  rw[F.len _ _ _ _ hq] at e
  exact e.symm
 refine wpAny_call (Zud (f:=f) I.kIn M.makes M.init (beq_iff_eq.mp M.fn) (codeAny_mono (F.run _ X.stack _ _ ⟨Value.ref (s.heap.objs.size+1)::us,[]⟩ (Value.ref (s.heap.objs.size+1)::(us++ds)) _ _ E (hr.make C us [])
  (I2.env0.make C us []) (hb _ (Value.ref (s.heap.objs.size+1)::us) I2.kIn hl) r2 hq) fun r s' hq'=>?_))
 cases r with
 | error e=>exact hx pins σ _ _ e s' I2 hq'
 | ok fl=>
  cases fl with
  | ret u=>
   obtain⟨v,H',I3,rv,ev,q3⟩:=I2.after hq'
   subst ev
   exact⟨rv,⟨V.ref (s.heap.objs.size+1),H',I3,rfl,q3⟩⟩
  | next=>exact False.elim hq'
  | brk=>exact False.elim hq'
  | cont=>exact False.elim hq'
theorem Zxb (M:Mk X.K C f)(F:FnOk X.prog X.w X.K X.mg X.base CX k f fd ps sp)(hr:Room (k+1) X.A)(hg:Gl X x)(hm:X.mg x=some (.ref C))(hb:Binds X.K fd ps ds)(hd:Vals dvs ds)(hx:Passes CX X E)
  (ha:PA X (e::es) t) (hdb:(x==("__debug__":Str))=false:=by decide) (he:starEach (e::es) X.env=(false,eval e X.env)::starEach es X.env:=by rfl) (hpl:(backTo pos (starEach es X.env)).any (·.1)=false:=by rfl):
  PE X (.Call (.Name x p) (e::es) [] pos) (tMake C sp dvs E t):=by
 intro pins s σ H Q I h
 refine wpAny_Call_Name_kw (Zhv I hg hm ?_ hdb)
 refine W.callWith_K (h₀:=X.base) I.ok.mod.kin M.kp (thn (ha pos pins s σ H _ I h) fun us s1 ⟨vs,H1,I1,r,q⟩=>⟨I1.kIn,?_⟩) he hpl
 exact Ztf M F hr hb hd hx I1 r q
end
def PK (X:Cx)(kws:List Keyword)(t:TA):Prop:=
 ∀(pos:Pos) (pins:List (Addr×Obj)) (s:Shared) (σ:St) (H:Hp) (Q:List V→Hp→Prop),Inv X pins σ H s→t σ H Q→wpAny (model X.prog X.w) X.A (evalAll ((backToKw pos (keywordEach kws X.env)).map (·.2))) (AP X pins σ Q) X.xe s
section
variable {X:Cx}{CX:CXT}{k:Nat}{f C:Addr}{fd:FuncData}{ps ks:List Str}{sp:Sp}{E:XK}{x m:Str}{p pos apos kpos:Pos}{e o:Expr}{es:List Expr}{kws:List Keyword}{te ta:TE}{t tk:TA}{nm:Option Str}
structure KBinds (K:W.Frag)(fd:FuncData)(ps ks:List Str)(g:List Value→List Value→List Value)(gV:List V→List V→List V):Prop where
 to:∀(s:Shared) (us ws:List Value),K.In s.heap→(g us ws).length=ps.length→BindsTo s fd ⟨us,ks.zip ws⟩ (ps.zip (g us ws))
 rel:∀{vs:List V} {us:List Value} {zs:List V} {ws:List Value},Vals vs us→Vals zs ws→Vals (gV vs zs) (g us ws)
variable {g:List Value→List Value→List Value}{gV:List V→List V→List V}
end
structure FnScope (N P:List Str)(sc:Scope):Prop where
 kind:sc.kind=.function
 co:sc.isCoroutine=false
 gen:sc.isGenerator=false
 nd:N.Nodup
 pre:N.take P.length=P
 par:∀x∈P,sc.names.lookup x=some .local∨sc.names.lookup x=some .cell
 nofree:∀y∈sc.names,y.2≠.free
theorem Zku {kindOf:Str→Option NameKind}{x:Str}:∀{binds:List (Str×Value)} {m:Str→Option Value},(∀v,(x,v)∉binds)→bindL kindOf binds m x=m x
 | [],_,_=>rfl
 | (n,v)::r,m,h=>by
  unfold bindL
  rw[Zku fun w hw=>h w (XV _ hw)]
  split
  ·have:x≠n:=by rintro rfl;exact h v List.mem_cons_self
   simp[this]
  ·rfl
theorem Zkw {kindOf:Str→Option NameKind}{x:Str}:∀{binds:List (Str×Value)} {m:Str→Option Value},(∀v,(x,v)∉binds)→bindC kindOf binds m x=m x
 | [],_,_=>rfl
 | (n,v)::r,m,h=>by
  unfold bindC
  rw[Zkw fun w hw=>h w (XV _ hw)]
  split
  ·rfl
  ·have:x≠n:=by rintro rfl;exact h v List.mem_cons_self
   simp[this]
theorem Zkv {kindOf:Str→Option NameKind}{x:Str}{v:Value}:∀{P:List Str} {vs:List Value} {i:Nat} {m:Str→Option Value},P.Nodup→P[i]?=some x→vs[i]?=some v→kindOf x=some .local→
  bindL kindOf (P.zip vs) m x=some v
 | [],_,_,_,_,h,_,_=>by simp at h
 | _::_,[],_,_,_,_,h,_=>by simp at h
 | p::P,w::vs,0,m,nd,h1,h2,hk=>by
  simp at h1 h2;subst h1;subst h2
  show bindL kindOf ((p,w)::P.zip vs) m p=_
  unfold bindL
  rw[Zku fun v hv=>(List.nodup_cons.mp nd).1 (List.of_mem_zip hv).1,XY hk]
  simp
 | p::P,w::vs,i+1,m,nd,h1,h2,hk=>by
  show bindL kindOf ((p,w)::P.zip vs) m x=_
  unfold bindL
  exact Zkv (i:=i) (List.nodup_cons.mp nd).2 (by simpa using h1) (by simpa using h2) hk
theorem Zkx {kindOf:Str→Option NameKind}{x:Str}{v:Value}:∀{P:List Str} {vs:List Value} {i:Nat} {m:Str→Option Value},P.Nodup→P[i]?=some x→vs[i]?=some v→kindOf x≠some .local→
  bindC kindOf (P.zip vs) m x=some v
 | [],_,_,_,_,h,_,_=>by simp at h
 | _::_,[],_,_,_,_,h,_=>by simp at h
 | p::P,w::vs,0,m,nd,h1,h2,hk=>by
  simp at h1 h2;subst h1;subst h2
  show bindC kindOf ((p,w)::P.zip vs) m p=_
  unfold bindC
  rw[Zkw fun v hv=>(List.nodup_cons.mp nd).1 (List.of_mem_zip hv).1,XX hk]
  simp
 | p::P,w::vs,i+1,m,nd,h1,h2,hk=>by
  show bindC kindOf ((p,w)::P.zip vs) m x=_
  unfold bindC
  exact Zkx (i:=i) (List.nodup_cons.mp nd).2 (by simpa using h1) (by simpa using h2) hk
def start (N:List Str)(vs:List V):St:=vs.map some++List.replicate (N.length-vs.length) none
def cxOf (CX:CXT)(P:Program)(w:World)(K:W.Frag)(mg:Str→Option Value)(base:Heap)(N:List Str)(qual:Str)(scope:Scope)(f:Addr)(cd:Value)(A:Around)(outer:List Env)(s:Shared)(H:Hp)(E:XK):Cx where
 prog:=P
 w:=w
 K:=K
 mg:=mg
 base:=base
 A:=A.deeper (envOfC qual scope s.heap.objs.size f cd)
 N:=N
 s₀:=s
 H₀:=H
 env:=envOfC qual scope s.heap.objs.size f cd
 outer:=outer
 stack:=envOfC qual scope s.heap.objs.size f cd::outer
 ex:=[]
 calm:=true
 fn:=fun _=>true
 pn:=[]
 xe:=fun e s'=>wpAny (model P w) (A.deeper (envOfC qual scope s.heap.objs.size f cd)) (leaving (envOfC qual scope s.heap.objs.size f cd) e) (fun _ s''=>CX outer H s E e s'') (fun e' s''=>CX outer H s E e' s'') s'
theorem Zoc {sc:Scope}{n:Nat}{x:Str}(h:sc.names.lookup x=some .cell):∃c,(cellsFrom n sc.names []).lookup x=some c:=by
 have q:=W.cellsFrom_some sc.names n [] (.inl h)
 exact Option.isSome_iff_exists.mp q
theorem Zr1 {CX:CXT}{P:Program}{w:World}{K:W.Frag}{mg:Str→Option Value}{base:Heap}{N ps:List Str}{qual:Str}{scope:Scope}{f:Addr}{cd:Value}{A:Around}{outer:List Env}{s s1:Shared}{H:Hp}{E:XK}{us:List Value}{vs:List V}
  (S:FnScope N ps scope) (hd:A.handled=none) (e0:Env0 P w K mg base A outer s H) (hl:vs.length=ps.length) (r:Vals vs us)
  (x:InCallC s s.heap.objs.size (bindL (envOfC qual scope s.heap.objs.size f cd).kindOf (ps.zip us) fun _=>none) (cellsFrom (s.heap.objs.size+1) scope.names []) (bindC (envOfC qual scope s.heap.objs.size f cd).kindOf (ps.zip us) fun _=>none) s1):
  Inv (cxOf CX P w K mg base N qual scope f cd A outer s H E) [] (start N vs) H s1:=by
 have hpl:ps.length≤N.length:=by have:=congrArg List.length S.pre;rw[YM] at this;omega
 obtain⟨h1,tk,rfl,hk⟩:=x.done
 have noA:∀b:Addr,b∉(cxOf CX P w K mg base N qual scope f cd A outer s H E).ex:=fun b z=>absurd (show b∈([]:List Addr) from z) (by simp)
 refine⟨⟨e0.mod,S.kind,rfl,rfl,XE _,fun y z c h1 h2=>?_,fun y hy=>?_,fun y c _ h=>?_,fun _=>hd,Around.frames_deeper e0.frames,.inr ⟨rfl,rfl⟩,fun b z=>absurd z (noA b),e0.bs,e0.bsz,fun b _ _=>noA b,fun b z=>absurd z (noA b),e0.funs,e0.frf⟩,
  rfl,e0.bare,Un.kept hk,⟨_,x.toInCall.ns,fun i y v h1 h2 h3=>?_⟩,fun y c h=>⟨_,x.cell y c h⟩,e0.hok.fresh (Nat.le_refl _),fun y c h=>?_,fun p hp=>absurd (show p∈([]:List (Addr×Obj)) from hp) (by simp),e0.hok.kept hk,?_⟩
 ·exact name_of_addr x.apart (PySem.mem_of_lookup h1) (PySem.mem_of_lookup h2)
 ·have hy:scope.names.lookup y=some .cell∨scope.names.lookup y=some .free:=hy
  rcases hy with hy | hy
  ·exact Zoc hy
  ·exact absurd rfl (S.nofree _ (PySem.mem_of_lookup hy))
 ·exact Nat.le_of_lt (x.above y c (PySem.mem_of_lookup h))
 ·have hi:i<vs.length:=by
   unfold start at h2
   by_cases hi:i<vs.length
   ·exact hi
   ·rw[List.getElem?_append_right (by simpa using hi)] at h2
    rw[List.getElem?_replicate] at h2
    split at h2<;>cases h2
  have ha:vs[i]?=some v:=by
   unfold start at h2
   rw[List.getElem?_append_left (by simpa using hi),List.getElem?_map] at h2
   cases e:vs[i]? with
   | none=>rw[e] at h2;cases h2
   | some a=>rw[e] at h2;cases h2;rfl
  obtain⟨u,hu,rv⟩:=r.get ha
  have hp:ps[i]?=some y:=by
   rw[←S.pre,List.getElem?_take_of_lt (by omega)];exact h1
  have ndP:ps.Nodup:=by rw[←S.pre];exact S.nd.sublist (List.take_sublist _ _)
  refine⟨u,rv,?_⟩
  rcases S.par y (List.mem_of_getElem? hp) with k | k
  ·exact .inl ⟨k,Zkv ndP hp hu k⟩
  ·obtain⟨c,e⟩:=Zoc (n:=s.heap.objs.size+1) k
   refine .inr ⟨.inl k,c,e,?_⟩
   have q:=x.cell y c e
   rw[Zkx ndP hp hu (by show scope.names.lookup y≠_;rw[k];decide)] at q
   exact q
 ·exact e0.hok.fresh (Nat.le_of_lt (x.above y c (PySem.mem_of_lookup h)))
 ·unfold start
  show _=N.length
  rw[List.length_append,XI,List.length_replicate]
  omega
theorem Zy5 {CX:CXT}{P:Program}{w:World}{K:W.Frag}{mg:Str→Option Value}{base:Heap}{k:Nat}{f:Addr}{name qual:Str}{params:Arguments}{body:List Stmt}{scope:Scope}{dV kV doc pm cdv ct oc:Value}{an od:Option Addr}
  {osl:Array (Option Value)} {N ps:List Str} {sp:Sp} (lk:K.lookup f=some ⟨oc,od,.func (W.fnOf name qual params body scope dV kV doc pm an cdv ct),osl⟩) (hcd:W.codeIn K cdv qual=true) (S:FnScope N ps scope)
  (len:∀vs H Q E,sp vs H Q E→vs.length=ps.length)
  (hbody:∀(A:Around) (outer:List Env) (s:Shared) (H:Hp) (vs:List V) (Q:VK) (E:XK),Room k (A.deeper (envOfC qual scope s.heap.objs.size f cdv))→sp vs H Q E→
   ∃t,PSs (cxOf CX P w K mg base N qual scope f cdv A outer s H E) body t∧t {nx:=fun _ H'=>Q .non H',rt:=Q} (start N vs) H):
  FnOk P w K mg base CX (k+1) f (W.fnOf name qual params body scope dV kV doc pm an cdv ct) ps sp:=by
 refine⟨len,fun A outer s H args us vs Q E hr e0 hb r hsp=>?_⟩
 have hl:=len _ _ _ _ hsp
 have KX:K.In s.heap:=e0.mod.kin.keeps fun b o e=>(e0.bs b o e).1
 have lim:s.heap.NoLimit:=e0.mod.nolimit.keeps fun b o e=>(e0.bs b o e).1
 have hkind:∀y∈ps.zip us,scope.names.lookup y.1=some .local∨(scope.names.lookup y.1=some .cell∧((cellsFrom (s.heap.objs.size+1) scope.names []).lookup y.1).isSome=true):=fun ⟨n,v⟩ hy=>by
  rcases S.par n (List.of_mem_zip hy).1 with q | q
  ·exact .inl q
  ·exact .inr ⟨q,W.cellsFrom_some _ _ _ (.inl q)⟩
 refine codeAny_call_function hr.depth (KX _ _ lk) rfl S.co S.gen rfl (W.codeRec_of KX hcd) (hb _ _ _ _ ?_)
 refine wpAny_newFunctionEnv_cells S.kind hkind fun env he s1 x=>?_
 subst he
 refine⟨lim.keeps x.toInCall.keep,codeAny_func ?_⟩
 obtain⟨t,ht,hq⟩:=hbody A outer s H vs Q E (hr.deeper _) hsp
 have I:Inv (cxOf CX P w K mg base N qual scope f cdv A outer s H E) [] (start N vs) H s1:=Zr1 S hr.hd e0 hl r x
 refine wpAny_mono (ht [] s1 (start N vs) H _ I hq) (fun fl s' hs=>?_) fun e s' hs=>hs
 have fin:∀{σ':St} {H':Hp} {v:V} {u:Value},Inv (cxOf CX P w K mg base N qual scope f cdv A outer s H E) [] σ' H' s'→Z3 v u→Q v H'→CE outer P w H s Q u s':=
  fun {σ' H' v u} J rv q=>⟨v,H',J.os,J.bare,J.base,J.hok,rv,q⟩
 cases fl with
 | ret u=>
  obtain⟨v,σ',H',J,rv,q⟩:=hs
  exact fin J rv q
 | next=>
  obtain⟨σ',H',J,q⟩:=hs
  exact fin (v:=V.non) (u:=Value.none) J rfl q
 | brk=>
  obtain⟨_,_,_,q⟩:=hs
  exact False.elim q
 | cont=>
  obtain⟨_,_,_,q⟩:=hs
  exact False.elim q
section
variable {X:Cx}{x:Str}{p pos:Pos}{e:Expr}{es:List Expr}{t:TA}{id T:String}{r:List V→Hp→VK→Prop}
def tCB (r:List V→Hp→VK→Prop)(t:TA):TE:=fun σ H Q=>t σ H fun vs H1=>r vs H1 Q
theorem Znc (hc:Zbn X (.builtin id) r)(hg:Gl X x)(hm:X.mg x=none)(hv:bootBuiltins x=some (.builtin id))(ha:PA X (e::es) t)(hn:x≠"__name__":=by decide)(hdb:(x==("__debug__":Str))=false:=by decide)
  (he:starEach (e::es) X.env=(false,eval e X.env)::starEach es X.env:=by rfl) (hpl:(backTo pos (starEach es X.env)).any (·.1)=false:=by rfl):PE X (.Call (.Name x p) (e::es) [] pos) (tCB r t):=by
 intro pins s σ H Q I h
 refine wpAny_Call_Name_kw (Zb6 I hg hm hv ?_ hn hdb)
 exact PyProof.Rows.callWith_builtin1 (thn (ha pos pins s σ H _ I h) fun us s1 ⟨vs,H1,I1,r1,q1⟩=>hc pins s1 σ H1 vs us Q I1 r1 q1) he hpl
theorem Zrl (hc:Zbn X (.type T) r)(hg:Gl X x)(hm:X.mg x=none)(hv:bootBuiltins x=some (.type T))(ha:PA X (e::es) t)(hn:x≠"__name__":=by decide)(hdb:(x==("__debug__":Str))=false:=by decide)
  (he:starEach (e::es) X.env=(false,eval e X.env)::starEach es X.env:=by rfl) (hpl:(backTo pos (starEach es X.env)).any (·.1)=false:=by rfl):PE X (.Call (.Name x p) (e::es) [] pos) (tCB r t):=by
 intro pins s σ H Q I h
 refine wpAny_Call_Name_kw (Zb6 I hg hm hv ?_ hn hdb)
 exact PyProof.Rows.callWith_type1 (thn (ha pos pins s σ H _ I h) fun us s1 ⟨vs,H1,I1,r1,q1⟩=>hc pins s1 σ H1 vs us Q I1 r1 q1) he hpl
end
end L2
namespace HT
open PySem PyProof.Rows
def lexLt:List Int→List Int→Bool
 | [],[]=>false
 | [],_::_=>true
 | _::_,[]=>false
 | x::xs,y::ys=>if x=y then lexLt xs ys else decide (x<y)
section
open PySem.SeqAt
open PySem.AutoSeq1 (wpAny_loadPart')
open PySem.MeetsSeq PySem.MeetsSeq2 PySem.MeetsSeq3
end
section
variable {prog:Program}{w:World}{A:Around}{E:Value→Shared→Prop}{s:Shared}
theorem cat_tup {t b:Addr}{vs ws:List Value}{Q:Value→Shared→Prop}(ht:IsTup s.heap t vs.toArray)(hb:IsTup s.heap b ws.toArray)(hv:vs≠[])
  (h1:ws=[]→Q (.ref t) s) (h2:ws≠[]→Q (.ref s.heap.objs.size) {s with heap:=s.heap.push {cls:=.type "tuple",data:=.seq (vs++ws).toArray}})
  (hsz:vs.length+ws.length≤sizeLine):wpAny (model prog w) A (binaryOp .Add (.ref t) (.ref b)) Q E s:=by
 obtain⟨⟨cls,dd,data,sl⟩,ho,hc,n,hd⟩:=id ht
 obtain⟨⟨cls2,dd2,data2,sl2⟩,ho2,hc2,n2,hd2⟩:=id hb
 simp only at hc hd hc2 hd2
 subst hc hd hc2 hd2
 have e:vs.toArray++ws.toArray=(vs++ws).toArray:=by simp
 by_cases hw:ws=[]
 ·exact concat_meets ⟨_,ho,rfl⟩ ⟨_,ho2,rfl⟩ noFill_tuple_add seq_tuple_add PySem.F.slot_tuple_add PySem.F.entry_tuple_add (PySem.F.args_tuple_add_2 _ _)
   (tuple_addW1 t b vs.toArray ws.toArray n n2 dd dd2 sl sl2 (by simpa using hv) (by simp[hw])) ⟨ho,ho2,h1 hw⟩
 ·refine concat_meets ⟨_,ho,rfl⟩ ⟨_,ho2,rfl⟩ noFill_tuple_add seq_tuple_add PySem.F.slot_tuple_add PySem.F.entry_tuple_add (PySem.F.args_tuple_add_2 _ _)
   (tuple_addW2 t b vs.toArray ws.toArray n n2 dd dd2 sl sl2 (by simpa using hv) (by simpa using hw) (by rw[List.size_toArray,List.size_toArray];exact hsz)) ⟨ho,ho2,?_⟩
  rw[e]
  exact h2 hw
def sIx (n d:Nat):Option Int→Nat
 | none=>d
 | some v=>if v<0 then(v+(n:Int)).toNat else min v.toNat n
theorem Zz1 (n d:Nat)(hd:d≤n)(o:Option Int):sIx n d o≤n:=by
 cases o with
 | none=>exact hd
 | some v=>
  show(if v<0 then(v+(n:Int)).toNat else min v.toNat n)≤n
  by_cases hv:v<0
  ·rw[XY hv];omega
  ·rw[XX hv];exact Nat.min_le_right _ _
theorem Zqx (v:Int)(n d:Nat):(if v<0 then max (v+(n:Int)) 0 else min v (n:Int))=((sIx n d (some v):Nat):Int):=by
 show(if v<0 then max (v+(n:Int)) 0 else min v (n:Int))=(((if v<0 then(v+(n:Int)).toNat else min v.toNat n):Nat):Int)
 by_cases hv:v<0
 ·simp only[if_pos hv];omega
 ·simp only[if_neg hv];omega
theorem Zpw (lo hi:Option Int)(n:Nat):Builtin.Slice.sliceAdjust lo hi 1 (n:Int)=(((sIx n 0 lo:Nat):Int),((sIx n n hi:Nat):Int)):=by
 have h1:¬((1:Int)<0):=by omega
 unfold Builtin.Slice.sliceAdjust
 simp only[h1,if_false]
 refine Prod.ext ?_ ?_
 ·cases lo with
  | none=>rfl
  | some v=>exact Zqx v n 0
 ·cases hi with
  | none=>rfl
  | some v=>exact Zqx v n n
theorem Zoy (i j:Nat):Builtin.Slice.slicePlaces (i:Int) (j:Int) 1=j-i:=by
 unfold Builtin.Slice.slicePlaces
 have h1:(1:Int)>0:=by omega
 simp only[h1,if_true,Int.ediv_one]
 split<;>omega
theorem Zh6 {v:Value}{o:Option Int}{Q:Option Int→Shared→Prop}(p:IsPart v o)(h:Q o s):wpAny (model prog w) A (Builtin.Slice.slicePartIndex v) Q E s:=by
 cases p with
 | none=>exact slicePart_none h
 | int i t=>exact slicePart_int h
theorem Zgk {sl:Addr}{vl vu:Value}{lo hi:Option Int}{n:Nat}{Q:Int×Int×Nat→Shared→Prop}(hs:s.heap.IsSliceOf sl vl vu .none)(pl:IsPart vl lo)(pu:IsPart vu hi)
  (h:Q (((sIx n 0 lo:Nat):Int),1,sIx n n hi-sIx n 0 lo) s):wpAny (model prog w) A (Builtin.Slice.sliceApplied (.ref sl) (pure (n:Int))) Q E s:=by
 obtain⟨os,hos,hcs,hds⟩:=id hs
 unfold Builtin.Slice.sliceApplied Builtin.Slice.sliceFields
 refine XA (XA (wpAny_field hos hds (x:=vl) rfl (XA (wpAny_field hos hds (x:=vu) rfl (XA (wpAny_field hos hds (x:=.none) rfl (XB ?_)))))))
 refine XA (slicePart_none ?_)
 show wpAny _ _ (if ((1:Int)==0)=true then _ else _) _ _ s
 rw[XX (by decide)]
 refine XA (Zh6 pl (XA (Zh6 pu (XA (XB ?_)))))
 show wpAny _ _ (match Builtin.Slice.sliceAdjust lo hi 1 (n:Int) with | (lo,hi)=>pure (lo,(1:Int),Builtin.Slice.slicePlaces lo hi 1)) _ _ s
 rw[Zpw lo hi n]
 show wpAny _ _ (pure (((sIx n 0 lo:Nat):Int),(1:Int),Builtin.Slice.slicePlaces ((sIx n 0 lo:Nat):Int) ((sIx n n hi:Nat):Int) 1)) _ _ s
 rw[Zoy]
 exact XB h
theorem Ztr (xs:Array Value)(i k:Nat):((List.range k).filterMap fun (m:Nat)=>xs[((i:Int)+(m:Int)*1).toNat]?).toArray=((xs.toList.drop i).take k).toArray:=by
 have e:(fun (m:Nat)=>xs[((i:Int)+(m:Int)*1).toNat]?)=fun m=>xs[i+m]?:=by
  funext m
  have:((i:Int)+(m:Int)*1).toNat=i+m:=by omega
  rw[this]
 rw[e]
 have:=pick_run xs i k
 rw[List.filterMap_map] at this
 have e2:((fun x=>xs[x]?)∘fun x=>i+x)=fun m=>xs[i+m]?:=rfl
 rw[e2] at this
 rw[this]
theorem getItem_tuple_cut {t sl:Addr}{items:Array Value}{vl vu:Value}{lo hi:Option Int}{Q:Value→Shared→Prop}(ht:IsTup s.heap t items)(hs:s.heap.IsSliceOf sl vl vu .none)(pl:IsPart vl lo)(pu:IsPart vu hi)
  (hw:¬(sIx items.size 0 lo=0∧sIx items.size items.size hi=items.size))
  (h:Q (.ref s.heap.objs.size) {s with heap:=s.heap.push {cls:=.type "tuple",data:=.seq ((items.toList.drop (sIx items.size 0 lo)).take (sIx items.size items.size hi-sIx items.size 0 lo)).toArray}})
  (hsz:items.size≤sizeLine):wpAny (model prog w) A (getItem (.ref t) (.ref sl)) Q E s:=by
 have htake:sizeOk (.seq ((items.toList.drop (sIx items.size 0 lo)).take (sIx items.size items.size hi-sIx items.size 0 lo)).toArray):=by
  show((items.toList.drop (sIx items.size 0 lo)).take (sIx items.size items.size hi-sIx items.size 0 lo)).toArray.size≤sizeLine
  rw[XJ,YM,List.length_drop,Array.length_toList]
  omega
 have hj:sIx items.size items.size hi≤items.size:=Zz1 _ _ (XE _) hi
 obtain⟨os,hos,hcs,hds⟩:=id hs
 have hTs:s.TypeIs (.ref sl) "slice":=⟨os,hos,hcs⟩
 unfold getItem
 try with_reducible refine wpAny_holding ?_
 first | refine XA (XB ?_) | skip
 refine XA (wpAny_sequenceKey ht.typeIs (by decide) ?_)
 refine XA (wpAny_callSpecial?_slot (name:=Str.ofString "__getitem__") ht.typeIs PyProof.Rows.slot_tuple_getitem
  (wpAny_call_entry PyProof.Rows.slot_tuple_getitem ht.typeIs entry_tuple_getitem ?_ (args_tuple_getitem _ _)))
 show wpAny _ _ (Builtin.Tuple.tupleItemsOf (.ref t)>>=_) _ _ s
 refine XA (tupleItemsOf_ ht ?_)
 refine XA (wpAny_typeOf hTs ?_)
 rw[XY (by decide)]
 refine XA (Zgk hs pl pu ?_)
 have hno:¬((((sIx items.size 0 lo:Nat):Int)==0&&(1:Int)==1&&(sIx items.size items.size hi-sIx items.size 0 lo)==items.size)=true):=by
  intro q
  rw[Bool.and_eq_true,Bool.and_eq_true] at q
  have q1:((sIx items.size 0 lo:Nat):Int)=0:=eq_of_beq q.1.1
  have q2:sIx items.size items.size hi-sIx items.size 0 lo=items.size:=eq_of_beq q.2
  exact hw ⟨by omega,by omega⟩
 show wpAny _ _ (if (((sIx items.size 0 lo:Nat):Int)==0&&(1:Int)==1&&(sIx items.size items.size hi-sIx items.size 0 lo)==items.size)=true then _ else _) _ _ s
 rw[XX hno,Ztr]
 first
  | exact XA (m:=Builtin.Tuple.tupleExact _) (wpAny_newObj_type (XB ⟨_,rfl,XB h⟩) htake)
  | exact XA (m:=Builtin.Tuple.tupleExact _) (wpAny_newObj_type (XA (XB (XB ⟨_,rfl,XB h⟩))) htake)
  | exact XA (XA (m:=Builtin.Tuple.tupleExact _) (wpAny_newObj_type (XB (XB ⟨_,rfl,XB h⟩)) htake))
  | exact XA (XA (m:=Builtin.Tuple.tupleExact _) (wpAny_newObj_type (XB ⟨_,rfl,XB h⟩) htake))
end
end HT
namespace L2
open PySem PySem.Spec PyProof.Rows
abbrev TO:=St→Hp→(Option Int→Hp→Prop)→Prop
def PO (X:Cx)(e:Option Expr)(t:TO):Prop:=
 ∀(pins:List (Addr×Obj)) (s:Shared) (σ:St) (H:Hp) (Q:Option Int→Hp→Prop),Inv X pins σ H s→t σ H Q→
  wpAny (model X.prog X.w) X.A (evalPart e X.env) (fun u s'=>∃o H',Inv X pins σ H' s'∧IsPart u o∧Q o H') X.xe s
def Zwg:TO:=fun _ H Q=>Q none H
def tPart (t:TE):TO:=fun σ H Q=>t σ H fun x H1=>∃i,x=.int i∧Q (some i) H1
section
variable {X:Cx}{e:Expr}{te:TE}{lo hi:Option Expr}{tl th:TO}{pos p2:Pos}
theorem Zw9:PO X none Zwg:=by
 intro pins s σ H Q I h
 rw[evalPart_none]
 exact XB ⟨none,H,I,.none,h⟩
theorem Zw8 (h:PE X e te):PO X (some e) (tPart te):=by
 intro pins s σ H Q I hw
 rw[evalPart_some]
 refine thn (h pins s σ H _ I hw) fun u s1 ⟨x,H1,I1,r1,q1⟩=>?_
 obtain⟨i,rfl,q⟩:=q1
 obtain⟨t,rfl⟩:=r1
 exact⟨some i,H1,I1,.int i t,q⟩
def SlR (X:Cx)(r:V→Option Int→Option Int→Hp→VK→Prop):Prop:=
 ∀(pins:List (Addr×Obj)) (s:Shared) (σ:St) (H:Hp) (x:V) (v vl vu:Value) (lo hi:Option Int) (sl:Addr) (Q:VK),Inv X pins σ H s→Z3 x v→s.heap.IsSliceOf sl vl vu .none→IsPart vl lo→IsPart vu hi→r x lo hi H Q→
  ∃T id,typeLookup (.type T) "__getitem__"=pure (some (.builtin id))∧s.TypeIs v T∧wpAny (model X.prog X.w) X.A (getItem v (.ref sl)) (EP X pins σ Q) X.xe s
theorem SlR.or {r r':V→Option Int→Option Int→Hp→VK→Prop}(h:SlR X r)(h':SlR X r'):SlR X (fun x lo hi H Q=>r x lo hi H Q∨r' x lo hi H Q):=by
 intro pins s σ H x v vl vu lo hi sl Q I rx hs pl pu q
 rcases q with q | q
 ·exact h pins s σ H x v vl vu lo hi sl Q I rx hs pl pu q
 ·exact h' pins s σ H x v vl vu lo hi sl Q I rx hs pl pu q
def tSl (r:V→Option Int→Option Int→Hp→VK→Prop)(te:TE)(tl th:TO):TE:=fun σ H Q=>te σ H fun x H1=>tl σ H1 fun l H2=>th σ H2 fun u H3=>r x l u H3 Q
theorem Zts {r:V→Option Int→Option Int→Hp→VK→Prop}(hr:SlR X r)(he:PE X e te)(hl:PO X lo tl)(hu:PO X hi th):PE X (.Subscript e (.Slice lo hi none p2) pos) (tSl r te tl th):=by
 intro pins s σ H Q I h
 refine Subscript_ (thn (he pins s σ H _ I h) fun v s1 ⟨x,H1,I1,r1,q1⟩=>?_)
 refine wpAny_Slice (thn (hl pins s1 σ H1 _ I1 q1) fun vl s2 ⟨l,H2,I2,pl,q2⟩=>thn (hu pins s2 σ H2 _ I2 q2) fun vu s3 ⟨u,H3,I3,pu,q3⟩=>?_)
 rw[evalPart_none]
 refine XB ?_
 have I4:Inv X pins σ H3 {s3 with heap:=s3.heap.push {cls:=.type "slice",data:=.fields #[vl,vu,.none]}}:=I3.kept (t':=s3.toks) fun b ob q=>XC _ q
 obtain⟨T,id,hT,ht,hg⟩:=hr pins {s3 with heap:=s3.heap.push {cls:=.type "slice",data:=.fields #[vl,vu,.none]}} σ H3 x v vl vu l u s3.heap.objs.size Q I4 r1 (Heap.IsSliceOf.new ..) pl pu q3
 show wpAny (model X.prog X.w) X.A (subscriptTail e (.Slice lo hi none p2) v (.ref s3.heap.objs.size)) (EP X pins σ Q) X.xe {s3 with heap:=s3.heap.push {cls:=.type "slice",data:=.fields #[vl,vu,.none]}}
 exact tail_any (ops:=[.ref s3.heap.objs.size,v]) ht hT hg (by with_unfolding_all rfl)
def cutV (xs:List V)(lo hi:Option Int):List V:=(xs.drop (HT.sIx xs.length 0 lo)).take (HT.sIx xs.length xs.length hi-HT.sIx xs.length 0 lo)
theorem Zhc (xs:List V)(lo hi:Option Int):(cutV xs lo hi).length≤xs.length:=by
 unfold cutV
 rw[YM,List.length_drop]
 omega
def rSlT (K:W.Frag):V→Option Int→Option Int→Hp→VK→Prop:=fun x lo hi H Q=>∃a xs,x=.ref a∧SqT K H a xs∧
 ¬(HT.sIx xs.length 0 lo=0∧HT.sIx xs.length xs.length hi=xs.length)∧∀p,H p=none→Q (.ref p) (upd H p (.tup (cutV xs lo hi)))
theorem Zzv:SlR X (rSlT X.K):=by
 intro pins s σ H x v vl vu lo hi sl Q I rx hs pl pu h
 obtain⟨a,xs,rfl,hx,hw,q⟩:=h
 cases rx
 obtain⟨its,r,ht,hz⟩:=I.tuple hx
 have hlen:its.toArray.size=xs.length:=by rw[XJ];exact r.length.symm
 refine⟨"tuple",_,PyProof.Rows.slot_tuple_getitem.lookup,ht.typeIs,?_⟩
 refine HT.getItem_tuple_cut ht hs pl pu (by rw[hlen];exact hw) ?_ (by rw[hlen];exact hz)
 rw[hlen]
 refine⟨.ref s.heap.objs.size,_,I.laid (t':=s.toks) (o:=.tup (cutV xs lo hi)) (fun b ob q=>XC _ q) (XE _) ?_,rfl,q _ (I.hok.fresh (XE _))⟩
 exact⟨XN (Zhc xs lo hi) hz,_,(r.drop (HT.sIx xs.length 0 lo)).take (HT.sIx xs.length xs.length hi-HT.sIx xs.length 0 lo),IsTup.new _ _⟩
def rCatT (K:W.Frag):R2:=fun x y H Q=>∃a b xs ys,x=.ref a∧y=.ref b∧SqT K H a xs∧SqT K H b ys∧xs≠[]∧xs.length+ys.length≤sizeLine∧
 (ys=[]→Q (.ref a) H)∧(ys≠[]→∀p,H p=none→Q (.ref p) (upd H p (.tup (xs++ys))))
theorem Vals.nil_iff {xs:List V}{us:List Value}(r:Vals xs us):us=[]↔xs=[]:=by
 cases r with
 | nil=>simp
 | cons _ _=>simp
theorem Zxk:OpR X (binaryOp .Add) (rCatT X.K):=by
 intro pins s σ H x y v u Q I rx ry h
 obtain⟨a,b,xs,ys,rfl,rfl,ha,hb,hx,hz,q1,q2⟩:=h
 cases rx
 cases ry
 obtain⟨its,r1,p1,_⟩:=I.tuple ha
 obtain⟨its2,r2,p2,_⟩:=I.tuple hb
 refine HT.cat_tup p1 p2 (fun z=>hx (r1.nil_iff.mp z)) (fun z=>⟨.ref a,H,I,rfl,q1 (r2.nil_iff.mp z)⟩) (fun z=>?_) (by rw[←r1.length,←r2.length];exact hz)
 refine⟨.ref s.heap.objs.size,_,I.laid (t':=s.toks) (o:=.tup (xs++ys)) (fun b ob q=>XC _ q) (XE _) ?_,rfl,q2 (fun w=>z (r2.nil_iff.mpr w)) _ (I.hok.fresh (XE _))⟩
 exact⟨by rw[List.length_append];exact hz,_,r1.append r2,IsTup.new _ _⟩
end
def ixN (n:Nat)(i:Int):Option Nat:=if 0≤i then(if i<n then some i.toNat else none) else if-(n:Int)≤i then some (i+n).toNat else none
def atI {α:Type}(xs:List α)(i:Int):Option α:=(ixN xs.length i).bind fun j=>xs[j]?
theorem Zxx {n:Nat}{i:Int}{j:Nat}(h:ixN n i=some j):seqIndex? i n=some j∧j<n∧ -(n:Int)≤i∧i<n:=by
 unfold ixN at h
 by_cases h0:0≤i
 ·rw[XY h0] at h
  by_cases h1:i<n
  ·rw[XY h1] at h
   have e:i.toNat=j:=YH h
   exact⟨by rw[seqIndex_of h0 h1,e],by omega,by omega,h1⟩
  ·rw[XX h1] at h;cases h
 ·rw[XX h0] at h
  by_cases h1: -(n:Int)≤i
  ·rw[XY h1] at h
   have e:(i+n).toNat=j:=YH h
   exact⟨by rw[seqIndex_neg (by omega) h1,e],by omega,h1,by omega⟩
  ·rw[XX h1] at h;cases h
theorem Zml {α:Type}{xs:List α}{i:Int}{v:α}(h:atI xs i=some v):∃j,seqIndex? i xs.length=some j∧xs[j]?=some v∧j<xs.length∧ -(xs.length:Int)≤i∧i<xs.length:=by
 unfold atI at h
 cases e:ixN xs.length i with
 | none=>rw[e] at h;cases h
 | some j=>
  rw[e] at h
  obtain⟨h1,h2,h3,h4⟩:=Zxx e
  exact⟨j,h1,h,h2,h3,h4⟩
theorem Zee {α:Type}{xs:List α}{j:Nat}{v:α}(h:xs[j]?=some v):atI xs (j:Int)=some v:=by
 have hj:j<xs.length:=(List.getElem?_eq_some_iff.mp h).1
 have e:ixN xs.length (j:Int)=some j:=by
  unfold ixN
  rw[if_pos (by omega),if_pos (by omega)];simp
 unfold atI;rw[e];exact h
def Zq1 (b:Expr):Prop:=∀o i,subscripted b false o i=operate [o,i] (getItem o i)
def IxR (X:Cx)(r:R2):Prop:=
 ∀(value slice:Expr) (pins:List (Addr×Obj)) (s:Shared) (σ:St) (H:Hp) (x y:V) (v u:Value) (Q:VK),Inv X pins σ H s→Z3 x v→Z3 y u→r x y H Q→
  subscripted slice false v u=operate [v,u] (getItem v u)→wpAny (model X.prog X.w) X.A (subscriptTail value slice v u) (EP X pins σ Q) X.xe s
def MtR (X:Cx)(id:String)(r:V→List V→Hp→VK→Prop):Prop:=
 ∀(pins:List (Addr×Obj)) (s:Shared) (σ:St) (H:Hp) (x:V) (xs:List V) (v:Value) (us:List Value) (Q:VK),Inv X pins σ H s→Z3 x v→Vals xs us→r x xs H Q→
  wpAny (model X.prog X.w) X.A (call (.builtin id) (v::us)) (EP X pins σ Q) X.xe s
section
variable {X:Cx}{a b:Expr}{ta tb:TE}{pos:Pos}
theorem IxR.or {r r':R2}(h:IxR X r)(h':IxR X r'):IxR X (fun x y H Q=>r x y H Q∨r' x y H Q):=by
 intro value slice pins s σ H x y v u Q I rx ry q hs
 rcases q with q | q
 ·exact h value slice pins s σ H x y v u Q I rx ry q hs
 ·exact h' value slice pins s σ H x y v u Q I rx ry q hs
theorem pe_ix {r:R2}(hr:IxR X r)(ha:PE X a ta)(hb:PE X b tb)(hs:Zq1 b):PE X (.Subscript a b pos) (tOp r ta tb):=by
 intro pins s σ H Q I h
 exact Subscript_ (binT ha hb I h fun v u s2 x y H2 I2 rx ry q=>hr a b pins s2 σ H2 x y v u Q I2 rx ry q (hs _ _))
def rIxL (K:W.Frag):R2:=fun x y H Q=>∃p xs i v,x=.ref p∧y=.int i∧SqL K H p xs∧atI xs i=some v∧Q v H
def rIxT (K:W.Frag):R2:=fun x y H Q=>∃p xs i v,x=.ref p∧y=.int i∧SqT K H p xs∧atI xs i=some v∧Q v H
def rIxS:R2:=fun x y H Q=>∃z i c,x=.str z∧y=.int i∧z.length≤sizeLine∧atI z.cps.toList i=some c∧Q (.str ⟨#[c]⟩) H
theorem Zxw:IxR X (rIxL X.K):=by
 intro value slice pins s σ H x y v u Q I rx ry h hs
 obtain⟨p,xs,i,z,rfl,rfl,hq,he,q⟩:=h
 cases rx
 obtain⟨t,rfl⟩:=ry
 obtain⟨its,r,pl,hz⟩:=I.list hq
 obtain⟨j,h1,h2,h3,h4,h5⟩:=Zml he
 obtain⟨w,ew,rw'⟩:=r.get h2
 have hl:=r.length
 have hn:=line63
 have fin:EP X pins σ Q w s:=⟨z,H,I,rw',q⟩
 by_cases h0:0≤i
 ·have hj:i.toNat=j:=by
   rw[seqIndex_of h0 h5] at h1
   exact YH h1
  exact item_listR pl.isList h0 (by omega) (by rw[hj];simpa using ew) fin hs
 ·have hj:(i+(its.toArray.size:Int)).toNat=j:=by
   rw[seqIndex_neg (by omega) h4] at h1
   rw[XJ,←hl]
   exact YH h1
  exact subscriptTail_builtinR (x:=w) pl.isList.typeIs slot_list_getitem.lookup
   (wpAny_getItem_list_neg (Q:=fun r s'=>r=w∧EP X pins σ Q r s') pl.isList (by omega) (by rw[List.size_toArray]<;>omega) (by omega) (by rw[hj];simpa using ew) ⟨rfl,fin⟩) hs
theorem Z1e:IxR X (rIxT X.K):=by
 intro value slice pins s σ H x y v u Q I rx ry h hs
 obtain⟨p,xs,i,z,rfl,rfl,hq,he,q⟩:=h
 cases rx
 obtain⟨t,rfl⟩:=ry
 obtain⟨its,r,pl,hz⟩:=I.tuple hq
 obtain⟨j,h1,h2,h3,h4,h5⟩:=Zml he
 obtain⟨w,ew,rw'⟩:=r.get h2
 have hl:=r.length
 have hn:=line63
 have fin:EP X pins σ Q w s:=⟨z,H,I,rw',q⟩
 exact subscriptTail_builtinR (x:=w) pl.typeIs slot_tuple_getitem.lookup
  (getItem_tuple (j:=j) (Q:=fun r s'=>r=w∧EP X pins σ Q r s') pl (by omega) (by omega) (by rw[List.size_toArray,←hl];exact h1) (by simpa using ew) ⟨rfl,fin⟩) hs
theorem Z1f:IxR X rIxS:=by
 intro value slice pins s σ H x y v u Q I rx ry h hs
 obtain⟨z,i,c,rfl,rfl,hz,he,q⟩:=h
 obtain⟨t,rfl⟩:=rx
 obtain⟨t',rfl⟩:=ry
 obtain⟨j,h1,h2,h3,h4,h5⟩:=Zml he
 have hl:z.cps.toList.length=z.length:=by simp[Str.length]
 rw[hl] at h1 h4 h5
 have hn:=line63
 exact tail_any (typeIs_str s z t) slot_str_getitem.lookup (getItem_str (c:=c) (by
  have e1:decide (i< -(2^63:Int))=false:=YG (by omega)
  have e2:decide (i≥2^63)=false:=YG (by omega)
  rw[e1,e2,Bool.or_false]) (by rw[h1];simpa using h2) ⟨.str ⟨#[c]⟩,H,I.tok _,⟨_,rfl⟩,q⟩) hs
def rIx (K:W.Frag):R2:=fun x y H Q=>rIxL K x y H Q∨rIxT K x y H Q∨rIxS x y H Q
theorem Z1g:IxR X (rIx X.K):=Zxw.or (Z1e.or Z1f)
theorem Inv.lst {pins:List (Addr×Obj)}{σ:St}{H:Hp}{s:Shared}{p:Addr}{xs:List V}(I:Inv X pins σ H s)(h:H p=some (.lst xs)):
  ∃(its:List Value) (n:Nat),Vals xs its∧s.heap.get? p=some {cls:=.type "list",data:=.seq its.toArray n}∧xs.length≤sizeLine:=by
 obtain⟨z,its,n,r,e⟩:=I.hok p _ h
 exact⟨its,n,r,e,z⟩
theorem Zlb (lo hi:Option Int)(n:Nat):(sliceBounds lo hi none n).1=((HT.sIx n 0 lo:Nat):Int)∧(sliceBounds lo hi none n).2.1=((HT.sIx n n hi:Nat):Int)∧(sliceBounds lo hi none n).2.2=1:=by
 refine⟨?_,?_,rfl⟩
 ·cases lo with
  | none=>simp[sliceBounds,HT.sIx]
  | some i=>
   simp only[sliceBounds,HT.sIx,Option.getD_none,show(1:Int)>0 by decide,if_true]
   by_cases h:i<0
   ·simp only[h,if_true]<;>omega
   ·simp only[h,if_false]<;>omega
 ·cases hi with
  | none=>simp[sliceBounds,HT.sIx]
  | some i=>
   simp only[sliceBounds,HT.sIx,Option.getD_none,show(1:Int)>0 by decide,if_true]
   by_cases h:i<0
   ·simp only[h,if_true]<;>omega
   ·simp only[h,if_false]<;>omega
theorem Zjr (its:List Value)(lo hi:Option Int):slicePick its.toArray lo hi none=((its.drop (HT.sIx its.length 0 lo)).take (HT.sIx its.length its.length hi-HT.sIx its.length 0 lo)).toArray:=by
 obtain⟨h1,h2,h3⟩:=Zlb lo hi its.toArray.size
 unfold slicePick
 rw[h1,h2,h3]
 simp only[sliceRange_one,pick_run,List.size_toArray]<;>rfl
def rSlL (K:W.Frag):V→Option Int→Option Int→Hp→VK→Prop:=fun x lo hi H Q=>∃a xs,x=.ref a∧SqL K H a xs∧∀p,H p=none→Q (.ref p) (upd H p (.lst (cutV xs lo hi)))
theorem Zwl:SlR X (rSlL X.K):=by
 intro pins s σ H x v vl vu lo hi sl Q I rx hs pl pu h
 obtain⟨a,xs,rfl,hx,q⟩:=h
 cases rx
 obtain⟨its,r,ht,hz⟩:=I.list hx
 have hlen:=r.length
 refine⟨"list",_,slot_list_getitem.lookup,ht.isList.typeIs,?_⟩
 refine wpAny_getItem_list_slice ht.isList hs pl pu .none (by simp) ?_ (by rw[List.size_toArray]<;>omega)
 rw[Zjr,←hlen]
 refine⟨.ref s.heap.objs.size,_,I.laid (t':=s.toks) (o:=.lst (cutV xs lo hi)) (fun b ob q=>XC _ q) (XE _) ?_,rfl,q _ (I.hok.fresh (XE _))⟩
 exact⟨XN (Zhc xs lo hi) hz,_,0,(r.drop (HT.sIx xs.length 0 lo)).take (HT.sIx xs.length xs.length hi-HT.sIx xs.length 0 lo),XF _ rfl⟩
def Zny:V→Bool
 | .non=>true
 | .bl _=>true
 | .int _=>true
 | .str _=>true
 | _=>false
def eqV:V→V→Bool
 | .non,.non=>true
 | .bl a,.bl b=>a==b
 | .bl a,.int b=>(if a then 1 else 0)==b
 | .int a,.bl b=>a==(if b then 1 else 0)
 | .int a,.int b=>a==b
 | .str a,.str b=>a==b
 | _,_=>false
theorem Zve {A:Around}{s:Shared}{y x:V}{u v:Value}(ry:Z3 y u)(rx:Z3 x v)(fy:Zny y=true)(fx:Zny x=true):SeqAt.EqAt A s u v (eqV y x):=by
 cases y with
 | non=>
  cases ry
  cases x with
  | non=>cases rx;exact SeqAt.EqAt.same _
  | bl b=>cases rx;exact SeqAt.EqAt.none_bool b
  | int b=>obtain⟨t,rfl⟩:=rx;exact SeqAt.EqAt.none_int b t
  | str b=>obtain⟨t,rfl⟩:=rx;exact SeqAt.EqAt.none_str b t
  | _=>exact absurd (show false=true from fx) YJ
 | bl a=>
  cases ry
  cases x with
  | non=>cases rx;exact SeqAt.EqAt.bool_none a
  | bl b=>cases rx;exact SeqAt.EqAt.bool_bool a b
  | int b=>obtain⟨t,rfl⟩:=rx;exact SeqAt.EqAt.bool_int a b t
  | str b=>obtain⟨t,rfl⟩:=rx;exact SeqAt.EqAt.bool_str a b t
  | _=>exact absurd (show false=true from fx) YJ
 | int a=>
  obtain⟨t',rfl⟩:=ry
  cases x with
  | non=>cases rx;exact SeqAt.EqAt.int_none a t'
  | bl b=>cases rx;exact SeqAt.EqAt.int_bool a t' b
  | int b=>obtain⟨t,rfl⟩:=rx;exact SeqAt.EqAt.int_int a t' b t
  | str b=>obtain⟨t,rfl⟩:=rx;exact SeqAt.EqAt.int_str a t' b t
  | _=>exact absurd (show false=true from fx) YJ
 | str a=>
  obtain⟨t',rfl⟩:=ry
  cases x with
  | non=>cases rx;exact SeqAt.EqAt.str_none a t'
  | bl b=>cases rx;exact SeqAt.EqAt.str_bool a t' b
  | int b=>obtain⟨t,rfl⟩:=rx;exact SeqAt.EqAt.str_int a t' b t
  | str b=>obtain⟨t,rfl⟩:=rx;exact SeqAt.EqAt.str_str a t' b t
  | _=>exact absurd (show false=true from fx) YJ
 | _=>exact absurd (show false=true from fy) YJ
def eqU (x:V)(u:Value):Bool:=match u with
 | .none=>eqV .non x
 | .bool b=>eqV (.bl b) x
 | .int i _=>eqV (.int i) x
 | .str z _=>eqV (.str z) x
 | _=>false
def inV (x:V)(xs:List V):Bool:=xs.any fun y=>eqV y x
def rIn (K:W.Frag)(neg:Bool):R2:=fun x y H Q=>∃p xs,y=.ref p∧(SqL K H p xs∨SqT K H p xs)∧Zny x=true∧xs.all Zny=true∧Q (.bl (if neg then !inV x xs else inV x xs)) H
theorem Zmi:Zbn X (.builtin "len") (fun xs H Q=>∃p ys,xs=[.ref p]∧(SqL X.K H p ys∨SqT X.K H p ys)∧Q (.int ys.length) H):=by
 intro pins s σ H xs us Q I r h
 obtain⟨p,ys,rfl,hq,q⟩:=h
 obtain⟨u,rfl,rx⟩:=vals1 r
 cases rx
 have hn:=line63
 rcases hq with hq | hq
 ·obtain⟨its,r',pl,hz⟩:=I.list hq
  have hlen:=r'.length
  exact Calls.call_len_list pl.isList (by simp only[List.size_toArray]<;>omega) ⟨.int ys.length,H,I.tok _,⟨s.toks+1,by rw[List.size_toArray,hlen]⟩,q⟩
 ·obtain⟨its,r',pl,hz⟩:=I.tuple hq
  have hlen:=r'.length
  exact len_tuple pl (by simp only[List.size_toArray]<;>omega) ⟨.int ys.length,H,I.tok _,⟨s.toks+1,by rw[List.size_toArray,hlen]⟩,q⟩
theorem Zmh:Zbn X (.builtin "len") (fun xs H Q=>∃z,xs=[.str z]∧z.length≤sizeLine∧Q (.int z.length) H):=by
 intro pins s σ H xs us Q I r h
 obtain⟨z,rfl,hz,q⟩:=h
 obtain⟨u,rfl,t,rfl⟩:=vals1 r
 have hn:=line63
 exact len_str (by omega) ⟨.int z.length,H,I.tok _,⟨_,rfl⟩,q⟩
theorem Zbn.or {f:Value}{r r':List V→Hp→VK→Prop}(h:Zbn X f r)(h':Zbn X f r'):Zbn X f (fun xs H Q=>r xs H Q∨r' xs H Q):=by
 intro pins s σ H xs us Q I rs q
 rcases q with q | q
 ·exact h pins s σ H xs us Q I rs q
 ·exact h' pins s σ H xs us Q I rs q
theorem Zmg:Zbn X (.type "list") (fun xs H Q=>∃p ys,xs=[.ref p]∧(SqL X.K H p ys∨SqT X.K H p ys)∧∀l,H l=none→Q (.ref l) (upd H l (.lst ys))):=by
 intro pins s σ H xs us Q I r h
 obtain⟨p,ys,rfl,hq,q⟩:=h
 obtain⟨u,rfl,rx⟩:=vals1 r
 cases rx
 have fin:∀(its:List Value),Vals ys its→ys.length≤sizeLine→∀(h':Heap) (c':Nat),(∀b o',s.heap.get? b=some o'→h'.get? b=some o')→
   h'.get? s.heap.objs.size=some {cls:=.type "list",dict:=none,data:=.seq its.toArray c',slots:=#[]}→EP X pins σ Q (.ref s.heap.objs.size) {s with heap:=h'}:=fun its r' hz h' c' kp e=>
  ⟨.ref s.heap.objs.size,_,I.laid (t':=s.toks) kp (XE _) (show Xb X.prog X.w _ h' _ (.lst ys) from⟨hz,its,c',r',e⟩),rfl,q _ (I.hok.fresh (XE _))⟩
 rcases hq with hq | hq
 ·obtain⟨its,r',pl,hz⟩:=I.list hq
  have hlen:=r'.length
  obtain⟨o,ho,hc,n,hd⟩:=pl.isList
  exact call_list_seq p (.inl rfl) ho hc hd (fun h' c' kp e=>fin its r' hz h' c' kp e) (by simp only[List.size_toArray]<;>omega)
 ·obtain⟨its,r',pl,hz⟩:=I.tuple hq
  have hlen:=r'.length
  obtain⟨o,ho,hc,n,hd⟩:=pl
  exact call_list_seq p (.inr rfl) ho hc hd (fun h' c' kp e=>fin its r' hz h' c' kp e) (by simp only[List.size_toArray]<;>omega)
theorem Zj3:Zbn X (.type "tuple") (fun xs H Q=>∃p ys,xs=[.ref p]∧((SqL X.K H p ys∧∀l,H l=none→Q (.ref l) (upd H l (.tup ys)))∨(SqT X.K H p ys∧Q (.ref p) H))):=by
 intro pins s σ H xs us Q I r h
 obtain⟨p,ys,rfl,h⟩:=h
 obtain⟨u,rfl,rx⟩:=vals1 r
 cases rx
 rcases h with⟨hq,q⟩ | ⟨hq,q⟩
 ·obtain⟨its,r',pl,hz⟩:=I.list hq
  have hlen:=r'.length
  refine call_tuple_list pl.isList (fun h' kp=>?_) (by simp only[List.size_toArray]<;>omega)
  have I1:Inv X pins σ H {s with heap:=h'}:=I.kept (t':=s.toks) kp
  have I2:Inv X pins σ (upd H h'.objs.size (.tup ys)) {s with heap:=h'.push {cls:=.type "tuple",data:=.seq its.toArray}}:=
   I1.laid (t':=s.toks) (fun b o e=>XC _ e) (XE _) (show Xb X.prog X.w _ _ _ (.tup ys) from⟨hz,its,r',IsTup.new _ _⟩)
  exact⟨.ref h'.objs.size,_,I2,rfl,q _ (I1.hok.fresh (XE _))⟩
 ·obtain⟨its,r',pl,hz⟩:=I.tuple hq
  exact call_tuple_same pl ⟨.ref p,H,I,rfl,q⟩
def tyV (K:W.Frag)(T:String)(x:V)(H:Hp):Prop:=match x with
 | .str _=>T="str"
 | .int _=>T="int"
 | .ref p=>(T="list"∧∃xs,SqL K H p xs)∨(T="tuple"∧∃o,K.lookup p=some o∧o.cls=.type "tuple"∧o.dict=none)∨
   (T="dict"∧((∃kvs,H p=some (.dK kvs))∨∃kvs,H p=some (.dT kvs)))∨(T="set"∧∃S n,H p=some (.set S n))
 | _=>False
theorem Zsm {pins:List (Addr×Obj)}{σ:St}{H:Hp}{s:Shared}{T:String}{x:V}{v:Value}(I:Inv X pins σ H s)(r:Z3 x v)(ty:tyV X.K T x H):
  s.TypeIs v T∧∀a,v=.ref a→∃ob,s.heap.get? a=some ob∧ob.dict=none:=by
 cases x with
 | str z=>
  obtain⟨t,rfl⟩:=r
  cases (show T="str" from ty)
  exact⟨typeIs_str s z t,fun _ e=>nomatch e⟩
 | int i=>
  obtain⟨t,rfl⟩:=r
  cases (show T="int" from ty)
  exact⟨typeIs_int s i t,fun _ e=>nomatch e⟩
 | ref p=>
  cases r
  rcases ty with⟨rfl,xs,hq⟩ | ⟨rfl,o,hk,hc,hd⟩ | ⟨rfl,hk⟩ | ⟨rfl,S,n,hk⟩
  ·obtain⟨its,_,pl,_⟩:=I.list hq
   refine⟨pl.isList.typeIs,fun a e=>?_⟩
   cases e
   obtain⟨o,n,e,c,hd,_⟩:=pl
   exact⟨o,e,hd⟩
  ·refine⟨⟨o,I.kIn p o hk,hc⟩,fun a e=>?_⟩
   cases e
   exact⟨o,I.kIn _ o hk,hd⟩
  ·have z:∃o,s.heap.get? p=some o∧o.ExactDict:=by
    rcases hk with⟨kvs,hk⟩ | ⟨kvs,hk⟩
    ·obtain⟨_,_,_,_,o,_,_,e,ex,_⟩:=I.hok p _ hk
     exact⟨o,e,ex⟩
    ·obtain⟨_,_,_,_,o,_,_,e,ex,_⟩:=I.hok p _ hk
     exact⟨o,e,ex⟩
   obtain⟨o,e,ex⟩:=z
   refine⟨⟨o,e,ex.1⟩,fun a e2=>?_⟩
   cases e2
   exact⟨o,e,ex.2.1⟩
  ·obtain⟨o,_,_,_,e,ex,_⟩:=I.hok p _ hk
   refine⟨⟨o,e,ex.1⟩,fun a e2=>?_⟩
   cases e2
   exact⟨o,e,ex.2.1⟩
 | _=>exact False.elim ty
def tBM0 (K:W.Frag)(T:String)(r:V→List V→Hp→VK→Prop)(to:TE):TE:=fun σ H Q=>to σ H fun x H1=>tyV K T x H1∧r x [] H1 Q
def tBM (K:W.Frag)(T:String)(r:V→List V→Hp→VK→Prop)(to:TE)(t:TA):TE:=fun σ H Q=>to σ H fun x H1=>tyV K T x H1∧t σ H1 fun xs H2=>r x xs H2 Q
variable {o e:Expr}{es:List Expr}{to:TE}{t:TA}{name:Str}{apos cpos:Pos}{T id:String}{r:V→List V→Hp→VK→Prop}
theorem Z0q (pa:PlainAttrs T)(slot:Slot T name id)(hty:typeOf (.builtin id)=pure (.type "method_descriptor"))(hm:MtR X id r)(ho:PE X o to)
  (hbase:attributeBase o name X.env (eval o X.env)=eval o X.env:=by rfl) (hline:(apos.endLine==cpos.line)=true:=by rfl):PE X (.Call (.Attribute o name apos) [] [] cpos) (tBM0 X.K T r to):=by
 intro pins s σ H Q I h
 refine wpAny_Call_method0_late hbase hline (thn (ho pins s σ H _ I h) fun v s1 ⟨x,H1,I1,r1,ty,q1⟩=>?_)
 obtain⟨h1,h2⟩:=Zsm I1 r1 ty
 exact⟨T,id,pa,slot,hty,h1,h2,Calls.callWith_builtin rfl (PySem.evalArgs_none (hm pins s1 σ H1 x [] v [] Q I1 r1 .nil q1))⟩
theorem pe_bm (pa:PlainAttrs T)(slot:Slot T name id)(hty:typeOf (.builtin id)=pure (.type "method_descriptor"))(hm:MtR X id r)(ho:PE X o to)(ha:PA X (e::es) t)
  (hbase:attributeBase o name X.env (eval o X.env)=eval o X.env:=by rfl)
  (hfew:((backTo cpos (starEach (e::es) X.env)).all (fun x=>!x.1)&&(backToKw cpos (keywordEach [] X.env)).all (fun x=>x.1.isSome)
   &&decide ((e::es).length+([]:List Keyword).length+(if ([]:List Keyword).isEmpty then 0 else 1)<30))=true:=by rfl)
  (hline:(apos.endLine==cpos.line)=true:=by rfl) (hs:starEach (e::es) X.env=(false,eval e X.env)::starEach es X.env:=by rfl) (hplain:(backTo cpos (starEach es X.env)).any (·.1)=false:=by rfl):
  PE X (.Call (.Attribute o name apos) (e::es) [] cpos) (tBM X.K T r to t):=by
 intro pins s σ H Q I h
 refine wpAny_Call_method_late hbase hfew hline rfl (thn (ho pins s σ H _ I h) fun v s1 ⟨x,H1,I1,r1,ty,q1⟩=>?_)
 obtain⟨h1,h2⟩:=Zsm I1 r1 ty
 refine⟨T,id,pa,slot,hty,h1,h2,?_⟩
 have hA:=ha cpos pins s1 σ H1 _ I1 q1
 rw[hs] at hA ⊢
 refine Calls.callWith_builtin (by show(false||(backTo cpos (starEach es X.env)).any (·.1))=false;rw[hplain]<;>rfl) (Calls.evalArgs_plain ?_)
 exact thn hA fun us s2 ⟨vs,H2,I2,r2,q2⟩=>hm pins s2 σ H2 x vs v us Q I2 r1 r2 q2
/-xs.append(e),list.index on a module's tuple .. are MtR facts of 06m-/
end
def MtM (X:Cx)(id:String)(r:V→List V→Hp→VK→Prop):Prop:=
 ∀(pins:List (Addr×Obj)) (s:Shared) (σ:St) (H:Hp) (x:V) (xs:List V) (v:Value) (us:List Value) (Q:VK),Inv X pins σ H s→Z3 x v→Vals xs us→r x xs H Q→
  wpAny (model X.prog X.w) X.A (call (.builtin id) (v::us)) (EP X pins σ Q) X.xe s
theorem Vals.one:∀{x:V} {us:List Value},Vals [x] us→∃u,us=[u]∧Z3 x u
 | _,_,.cons r .nil=>⟨_,rfl,r⟩
theorem Vals.two:∀{x y:V} {us:List Value},Vals [x,y] us→∃u v,us=[u,v]∧Z3 x u∧Z3 y v
 | _,_,_,.cons r (.cons q .nil)=>⟨_,_,rfl,r,q⟩
theorem Vals.zero:∀{us:List Value},Vals [] us→us=[]
 | _,.nil=>rfl
theorem Vals.dropLast {xs:List V}{us:List Value}(h:Vals xs us):Vals xs.dropLast us.dropLast:=by
 induction h with
 | nil=>exact .nil
 | cons r t ih=>
  cases t with
  | nil=>exact .nil
  | cons q t'=>exact .cons r ih
theorem Zpo {α:Type}(l:List α):l.eraseIdx (l.length-1)=l.dropLast:=by
 induction l with
 | nil=>rfl
 | cons a r ih=>
  cases r with
  | nil=>rfl
  | cons b r=>
   have e:(a::b::r).length-1=((b::r).length-1)+1:=by
    have h1:(a::b::r).length=r.length+2:=rfl
    have h2:(b::r).length=r.length+1:=rfl
    omega
   rw[e,List.eraseIdx_cons_succ,ih]
   all_goals rfl
section
variable {X:Cx}{pins:List (Addr×Obj)}{σ:St}{H:Hp}{s:Shared}{l b:Addr}{xs ys zs:List V}
theorem Inv.lset {its its':List Value}{n:Nat}{f:Array Value→Array Value}{t':Nat}(I:Inv X pins σ H s)(hH:H l=some (.lst xs))
  (e:s.heap.get? l=some {cls:=.type "list",data:=.seq its.toArray n}) (hf:f its.toArray=its'.toArray) (hv:Vals ys its') (hz:ys.length≤sizeLine):
  Inv X pins σ (upd H l (.lst ys)) {s with heap:=s.heap.update l (Obj.mapSeq f),toks:=t'}:=by
 have q:=PySem.IsL.update e f
 rw[hf] at q
 refine I.write (x:=l) (e:=l) (by rw[hH];exact trivial) (.inl rfl) (fun b' u hb hu=>(Heap.get?_update_other s.heap (Obj.mapSeq f) (Ne.symm hb)).trans hu) ⟨_,q⟩ ?_
 exact⟨hz,its',_,hv,q⟩
theorem Inv.lnew {its:List Value}{t':Nat}(I:Inv X pins σ H s)(hv:Vals ys its)(hz:ys.length≤sizeLine):
  Inv X pins σ (upd H s.heap.objs.size (.lst ys)) {s with heap:=s.heap.push {cls:=.type "list",data:=.seq its.toArray},toks:=t'}:=
 I.laid (fun _ _ q=>XC _ q) (XE _) ⟨hz,its,0,hv,XF _ rfl⟩
theorem Inv.fresh (I:Inv X pins σ H s):H s.heap.objs.size=none:=I.hok.fresh (XE _)
theorem Inv.lstM (I:Inv X pins σ H s)(hH:H l=some (.lst xs)):xs.length≤sizeLine∧∃(its:List Value) (n:Nat),Vals xs its∧xs.length=its.length∧s.heap.get? l=some {cls:=.type "list",data:=.seq its.toArray n}:=by
 obtain⟨z,its,n,r,e⟩:=I.hok l _ hH
 exact⟨z,its,n,r,r.length,e⟩
theorem Zua {n:Nat}(h:n≤sizeLine):Builtin.List.listTooLong n=false:=by
 unfold Builtin.List.listTooLong
 exact YG (by omega)
end
section
variable {X:Cx}
def Zws:V→List V→Hp→VK→Prop:=fun x vs H Q=>∃l xs y,x=.ref l∧vs=[y]∧H l=some (.lst xs)∧xs.length<sizeLine∧Q .non (upd H l (.lst (xs++[y])))
theorem Zkh:MtM X "list.append" Zws:=by
 intro pins s σ H x vs v us Q I rx rv h
 obtain⟨l,xs,y,rfl,rfl,hH,hz,q⟩:=h
 cases rx
 obtain⟨u,rfl,ru⟩:=rv.one
 obtain⟨z,its,n,r,hl,e⟩:=I.lstM hH
 refine call_meets F.slot_list_append ⟨_,e,rfl⟩ F.entry_list_append (F.args_list_append_2 _ _) (PySem.list_append l its.toArray n u (by rw[XJ];omega)) ⟨e,?_⟩
 refine⟨.non,_,I.lset (its':=its++[u]) hH e (by simp) (r.append (.cons ru .nil)) ?_,rfl,q⟩
 rw[List.length_append,List.length_singleton]
 omega
def Zwr:V→List V→Hp→VK→Prop:=fun x vs H Q=>∃l b xs zs,x=.ref l∧vs=[.ref b]∧H l=some (.lst xs)∧H b=some (.lst zs)∧xs.length+zs.length≤sizeLine∧Q .non (upd H l (.lst (xs++zs)))
theorem Zrr:MtM X "list.extend" Zwr:=by
 intro pins s σ H x vs v us Q I rx rv h
 obtain⟨l,b,xs,zs,rfl,rfl,hH,hB,hz,q⟩:=h
 cases rx
 obtain⟨u,rfl,ru⟩:=rv.one
 cases ru
 obtain⟨z,its,n,r,hl,e⟩:=I.lstM hH
 obtain⟨z2,its2,n2,r2,hl2,e2⟩:=I.lstM hB
 have hsz:its.toArray.size+its2.toArray.size≤sizeLine:=by rw[XJ,XJ];omega
 have hlong:¬(!its.toArray.isEmpty&&Builtin.List.listTooLong (its.toArray.size+its2.toArray.size))=true:=by
  rw[Zua hsz,Bool.and_false]
  exact YJ
 refine call_meets F.slot_list_extend ⟨_,e,rfl⟩ F.entry_list_extend (F.args_list_extend_2 _ _)
  (AutoSeq1.list_extend_list_list_0 l its.toArray n b its2.toArray n2 hlong (by rw[XJ];omega) (by omega)) ⟨e,e2,?_⟩
 refine⟨.non,_,I.lset (its':=its++its2) hH e (by simp) (r.append r2) ?_,rfl,q⟩
 rw[List.length_append]
 omega
def rPop:V→List V→Hp→VK→Prop:=fun x vs H Q=>∃l xs y,x=.ref l∧vs=[]∧H l=some (.lst xs)∧xs[xs.length-1]?=some y∧Q y (upd H l (.lst xs.dropLast))
theorem Z03:MtM X "list.pop" rPop:=by
 intro pins s σ H x vs v us Q I rx rv h
 obtain⟨l,xs,y,rfl,rfl,hH,hy,q⟩:=h
 cases rx
 have hus:=rv.zero
 subst hus
 obtain⟨z,its,n,r,hl,e⟩:=I.lstM hH
 obtain⟨u,hu,ru⟩:=r.get hy
 have hy':its.toArray[its.toArray.size-1]?=some u:=by
  show its.toArray[its.length-1]?=some u
  rw[←Array.getElem?_toList,←hl]
  exact hu
 refine call_meets F.slot_list_pop ⟨_,e,rfl⟩ F.entry_list_pop (F.args_list_pop_1 _) (MeetsSeq.list_pop_last l its.toArray n u hy' (by rw[XJ];omega)) ⟨e,?_⟩
 refine⟨y,_,I.lset (its':=its.dropLast) hH e ?_ r.dropLast ?_,ru,q⟩
 ·show its.toArray.eraseIdxIfInBounds (its.toArray.size-1)=its.dropLast.toArray
  rw[XJ,List.eraseIdxIfInBounds_toArray,Zpo]
 ·rw[List.length_dropLast]
  omega
def rCat:R2:=fun x y H Q=>∃l b xs zs,x=.ref l∧y=.ref b∧H l=some (.lst xs)∧H b=some (.lst zs)∧xs.length+zs.length≤sizeLine∧∀p,H p=none→Q (.ref p) (upd H p (.lst (xs++zs)))
theorem Z0x:OpR X (binaryOp .Add) rCat:=by
 intro pins s σ H x y v u Q I rx ry h
 obtain⟨l,b,xs,zs,rfl,rfl,hH,hB,hz,q⟩:=h
 cases rx
 cases ry
 obtain⟨z,its,n,r,hl,e⟩:=I.lstM hH
 obtain⟨z2,its2,n2,r2,hl2,e2⟩:=I.lstM hB
 refine PySem.P.add_list e e2 ?_ (by rw[XJ,XJ];omega)
 have ea:its.toArray++its2.toArray=(its++its2).toArray:=by simp
 rw[ea]
 exact⟨.ref _,_,I.lnew (t':=s.toks) (r.append r2) (by rw[List.length_append];omega),rfl,q _ I.fresh⟩
def rRep:R2:=fun x y H Q=>∃l k xs,x=.ref l∧y=.int k∧H l=some (.lst xs)∧ -(2^63)≤k∧k<2^63∧xs.length*k.toNat≤sizeLine∧
 ∀p,H p=none→Q (.ref p) (upd H p (.lst (List.replicate k.toNat xs).flatten))
end
section
variable {prog:Program}{w:World}{A:Around}{E:Value→Shared→Prop}{s:Shared}
end
section
variable {X:Cx}
end
end L2
namespace Att
open PySem PySem.W PySem.Calls PyProof.Rows
theorem Zhk {P:Params}{h:Heap}:∀(ns:List Int) (vs:List Value),WellAll P h vs (ns.map WData.int)→IntsAre vs ns:=by
 intro ns
 induction ns with
 | nil=>
  intro vs w
  rw[List.map_nil] at w
  cases w
  exact .nil
 | cons n ns ih=>
  intro vs w
  rw[YI] at w
  cases w with
  | cons a b=>
   cases a
   exact .cons _ _ (ih _ b)
theorem Zq9 {l:OpenLaw}{n:Nat}(hn:l.most=some n){P:Params}{h:Heap}{args:List WData}{vals:List Value}
  (hpre:l.row.toRowW.claim.pre args=true) (hwl:WellAll P h vals args):
  ∃a vs ns,vals=[Value.ref a]∧args=[WData.list (ns.map WData.int)]∧h.get? a=some {cls:=.type "list",data:=.seq vs.toArray}∧IntsAre vs ns∧ns.length≤n:=by
 have hsh:WShape.hasAll [] args [.list .int]=true:=(pre_splitW hpre).1
 have hc:l.pre.holds [] {args:=args}=true:=(pre_splitW hpre).2
 obtain⟨d,r,rfl,h1,h2⟩:=hasAllW_cons hsh
 obtain rfl:=hasAllW_nil h2
 obtain⟨xs,rfl,h3⟩:=hasW_list h1
 obtain⟨ns,rfl⟩:=items_int h3
 have hlen:ns.length≤n:=by
  unfold OpenLaw.pre at hc
  have h4:(WTm.not (.lt (.lit (.int (n:Int))) (.len (.arg 0)))).holds [] {args:=[.list (ns.map .int)]}=true:=by
   have h4:=(holds_andW hc).1
   rw[hn] at h4
   exact h4
  have h5:=condW_of h4 (w_not (w_lt w_lit (w_len_list (w_arg rfl))))
  rw[XI] at h5
  refine Nat.le_of_not_lt fun q=>?_
  have q':(n:Int)<((ns.length:Nat):Int):=by omega
  first
   | (rw[decide_eq_true q'] at h5;exact absurd h5 (by decide))
   | (simp at h5;omega)
 cases hwl with
 | cons w1 w2=>
  cases w2
  cases w1 with
  | list ho hall=>exact⟨_,_,ns,rfl,rfl,ho,Zhk ns _ hall,hlen⟩
theorem Zrh (l:OpenLaw)(args:List WData):l.row.toRowW.claim.post args (.bool true) args=true:=
 postW_of (r:=l.row.toRowW) (X:=(true==true))
  (show WShape.has [] (.bool true) .bool=true by first | rfl | decide | simp[WShape.has,WShape.arms,WShape.armsAll])
  (show(WTm.eq .res (.lit (.bool true))).value [] {args:=args,res:=some (.bool true),after:=args}=some (.bool (true==true)) from w_eq_bool (w_res rfl) w_lit) rfl
theorem attach_call {l:OpenLaw}{n:Nat}{q:Program}{loose:List Str}{XP:(Str→Option Value)→Heap→Prop}{YP:World→Heap→Prop}{d:DefRec}
  (hn:l.most=some n) (hdf:d.params.defaults=[])
  (call:∀(w:World) (s₀ s₁:Shared) (mg mb:Str→Option Value) (fa:Addr) (o:Obj) (pm cd doc:Value) (a:Addr) (vs:List Value) (ns:List Int),
   Ground q loose [] XP w s₀ mg mb s₁.heap→YP w s₁.heap→
   s₁.heap.get? fa=some o→o.data=.func (docDef d.name d.params d.body d.scope pm cd doc)→s₁.heap.CodeRec cd d.name→mg d.name=some (.ref fa)→
   s₁.heap.get? a=some {cls:=.type "list",data:=.seq vs.toArray}→IntsAre vs ns→ns.length≤n→s₁.gens=#[]→
   codeAny (model l.prog w) callerA (.call (.ref fa) ⟨[.ref a],[]⟩) (fun r s'=>r=.ok (.ret (.bool true))∧OldK s₁.heap s'.heap∧s'.os=s₁.os∧AllBare s'.gens) s₁):
  WalkO q loose XP YP l.row.toRowW d [] (fun f vs=>PySem.call f vs):=by
 intro w s₀ s₁ mg mb G Y fa o pm cd doc dV kV ho hd hcd hD hmg hg args vals as hpre hlay hrd hwl hlo
 obtain rfl:dV=.none:=Dflts.none hD hdf
 obtain rfl:kV=.none:=Dflts.noKw hD
 obtain⟨a,vs,ns,rfl,rfl,hobj,hints,hlen⟩:=Zq9 hn hpre hwl
 refine enter_call (codeAny_mono (call w s₀ s₁ mg mb fa o pm cd doc a vs ns G Y ho (fd_plain hd) hcd hmg hobj hints hlen hg) fun r s' hq=>?_)
 obtain⟨rfl,h2,h3,h4⟩:=hq
 exact⟨.inl ⟨.bool true,.bool true,[],rfl,fun _=>rfl,.bool true,Zrh l _,fun _=>⟨List.Pairwise.nil,fun _ hm=>(nomatch hm)⟩⟩,h2,h3,h4⟩
section
variable {prog:Program}{w:World}{A:Around}{E:Value→Shared→Prop}{s:Shared}{K:Frag}
def ledger (h:Heap)(L d:Addr):List (Addr×Obj):=(List.range h.objs.size).filterMap fun a=>if a=L∨a=d then none else(h.get? a).map fun o=>(a,o)
end
end Att
namespace L2
open PySem PySem.Spec PyProof.Rows
theorem Zj6:∀{vs:List Value} {ns:List Int},IntsAre vs ns→Vals (ns.map V.int) vs
 | _,_,.nil=>.nil
 | _,_,.cons n t h=>.cons ⟨t,rfl⟩ (Zj6 h)
def Only (H:Hp):Prop:=∀b,H b=none∨∃o xs,H b=some (.frz o (.lst xs))
theorem Zum {P:Program}{w:World}{K:W.Frag}{mg mb:Str→Option Value}{CX:CXT}{k:Nat}{fa a:Addr}{fd:FuncData}{x:Str}{sp:Sp}{s₁:Shared}{vs:List Value}{ns:List Int}
  (KX:K.In s₁.heap) (hns:s₁.heap.Ns mainGlobals mg) (hb:s₁.heap.Ns builtinsNs mb) (hbb:∀x:Str,x≠"__name__"→mb x=bootBuiltins x) (hlim:s₁.heap.NoLimit) (hg:s₁.gens=#[])
  (ha:s₁.heap.get? a=some {cls:=.type "list",data:=.seq vs.toArray}) (hi:IntsAre vs ns) (hl:ns.length≤sizeLine) (hr:Room k callerA)
  (F:∀base:Heap,K.In base→base.Ns mainGlobals mg→FnOk P w K mg base CX k fa fd [x] sp) (hbind:∀(s:Shared) (u:Value),BindsTo s fd ⟨[u],[]⟩ [(x,u)])
  (hsp:∀H:Hp,Only H→SqL K H a (ns.map V.int)→sp [.ref a] H (fun v _=>v=.bl true) fun _ _ _=>False)
  (hCX:∀H e s',CX [] H s₁ (fun _ _ _=>False) e s'→False):
  codeAny (model P w) callerA (.call (.ref fa) ⟨[.ref a],[]⟩) (fun r s'=>r=.ok (.ret (.bool true))∧OldK s₁.heap s'.heap∧s'.os=s₁.os∧AllBare s'.gens) s₁:=by
 have rv:=Zj6 hi
 have lenV:=hi.length
 have core:∀H:Hp,Only H→SqL K H a (ns.map V.int)→HOk P w H s₁.heap→(∀b,H b≠none→b=a)→(H a≠none→K.lookup a=none)→
   codeAny (model P w) callerA (.call (.ref fa) ⟨[.ref a],[]⟩) (fun r s'=>r=.ok (.ret (.bool true))∧OldK s₁.heap s'.heap∧s'.os=s₁.os∧AllBare s'.gens) s₁:=by
  intro H hO hS hok hA hK
  have base_of:∀{b:Addr} {o:Obj},s₁.heap.get? b=some o→H b=none→(hidT s₁.heap H).get? b=some o:=fun e n=>Zu0 e n
  have noA:∀{b:Addr} {o:Obj} {es:Array DictEntry} {ep:Nat},s₁.heap.get? b=some o→o.data=.dict es ep→H b=none:=fun {b o es ep} e d=>by
   cases q:H b with
   | none=>rfl
   | some u=>
    have e':b=a:=hA b (by rw[q];simp)
    subst e'
    rw[ha] at e;cases e
    have d':Data.seq vs.toArray _=Data.dict es ep:=d
    cases d'
  have nsK:∀{b:Addr} {m:Str→Option Value},s₁.heap.Ns b m→(hidT s₁.heap H).Ns b m:=fun {b m} ⟨o,es,ep,e,d,r⟩=>⟨o,es,ep,base_of e (noA e d),d,r⟩
  have hKb:K.In (hidT s₁.heap H):=fun b o e=>base_of (KX b o e) (by
   cases q:H b with
   | none=>rfl
   | some u=>
    have e':b=a:=hA b (by rw[q];simp)
    subst e'
    rw[hK (by rw[q];simp)] at e;cases e)
  have hM:Mod K mg (hidT s₁.heap H):=⟨hKb,nsK hns,⟨mb,nsK hb,hbb⟩,let ⟨mc,h1,h2⟩:=hlim;⟨mc,nsK h1,h2⟩⟩
  have e0:Env0 P w K mg (hidT s₁.heap H) callerA [] s₁ H:=⟨rfl,hM,fun b o e=>Zxm e,Nat.le_of_eq (Zr5 _ _),trivial,fun b hb=>absurd (show b∈([]:List Addr) from hb) (by simp),hok,.of_eq hg⟩
  refine codeAny_mono ((F _ hKb (nsK hns)).run callerA [] s₁ H ⟨[.ref a],[]⟩ [.ref a] [.ref a] _ _ hr e0 (hbind s₁ (.ref a)) (.cons rfl .nil) (hsp H hO hS)) fun r s' h=>?_
  cases r with
  | error e=>exact(hCX H e s' h).elim
  | ok fl=>
   cases fl with
   | next=>exact False.elim h
   | brk=>exact False.elim h
   | cont=>exact False.elim h
   | ret u=>
    obtain⟨v,H',os,bare,un,hok',r',q⟩:=h
    have q':v=.bl true:=q
    subst q'
    obtain rfl:u=Value.bool true:=r'
    refine⟨rfl,OldK.of_keep fun b o e=>?_,os,bare⟩
    cases q:H b with
    | none=>exact un.keep b o e q (by intro z;exact absurd (show b∈([]:List Addr) from z) (by simp)) (by simp)
    | some u=>
     rcases hO b with z | ⟨ob,xs,z⟩
     ·rw[q] at z;cases z
     ·have z2:=un.frzs b ob _ z
      obtain⟨e1,_⟩:=hok b _ z
      obtain⟨e2,_⟩:=hok' b _ z2
      rw[e] at e1;cases e1
      exact e2
 cases hk:K.lookup a with
 | some o=>
  have e:=KX a o hk
  rw[ha] at e
  cases e
  refine core (fun _=>none) (fun _=>.inl rfl) (.inr ⟨_,vs.toArray,_,hk,rfl,rfl,rfl,by rw[List.size_toArray,lenV];exact hl,by simpa using rv⟩) (fun b u z=>by have z':(none:Option HO)=some u:=z;cases z') (fun b z=>absurd rfl z) fun z=>absurd rfl z
 | none=>
  refine core (fun b=>if b=a then some (.frz {cls:=.type "list",data:=.seq vs.toArray} (.lst (ns.map V.int))) else none) (fun b=>?_) (.inl (.inr ⟨{cls:=.type "list",data:=.seq vs.toArray},XY rfl⟩)) (fun b u z=>?_) (fun b z=>?_) fun _=>hk
  ·by_cases hb:b=a
   ·exact .inr ⟨_,_,XY hb⟩
   ·exact .inl (XX hb)
  ·by_cases hb:b=a
   ·have z':=(XY hb).symm.trans z
    cases z'
    subst hb
    exact⟨ha,by rw[XI];exact hl,vs,_,rv,ha⟩
   ·have z':=(XX hb).symm.trans z
    cases z'
  ·by_cases hb:b=a
   ·exact hb
   ·exact absurd (XX hb) z
abbrev KOf {K:W.Frag}{h:Heap}(_:K.In h):W.Frag:=K
theorem walk_of {l:W.OpenLaw}{n k:Nat}{q:Program}{loose:List Str}{XP:(Str→Option Value)→Heap→Prop}{YP:World→Heap→Prop}{d:DefRec}{K:Params→W.Frag}{CX:World→CXT}{sp:World→Sp}{x:Str}
  (hn:l.most=some n) (hn2:n≤sizeLine) (hdf:d.params.defaults=[]) (hr:Room k callerA)
  (hY:∀(w:World) (h:Heap),YP w h→(K w.params).In h)
  (F:∀(w:World) (mg:Str→Option Value) (fa:Addr) (h:Heap),(K w.params).In h→h.Ns mainGlobals mg→mg d.name=some (.ref fa)→
   ∃fd:FuncData,(∀(s:Shared) (u:Value),BindsTo s fd ⟨[u],[]⟩ [(x,u)])∧
    ∀base:Heap,(K w.params).In base→base.Ns mainGlobals mg→FnOk l.prog w (K w.params) mg base (CX w) k fa fd [x] (sp w))
  (hsp:∀(w:World) (H:Hp) (a:Addr) (ns:List Int),ns.length≤n→Only H→SqL (K w.params) H a (ns.map V.int)→sp w [.ref a] H (fun v _=>v=.bl true) fun _ _ _=>False)
  (hCX:∀(w:World) (H:Hp) (s:Shared) (e:Value) (s':Shared),CX w [] H s (fun _ _ _=>False) e s'→False):
  W.WalkO q loose XP YP l.row.toRowW d [] (fun f vs=>PySem.call f vs):=by
 refine Att.attach_call hn hdf fun w s₀ s₁ mg mb fa o pm cd doc a vs ns G Y ho hd hcd hmg hobj hints hlen hg=>?_
 have KX:=hY w _ Y
 obtain⟨fd,hb,hF⟩:=F w mg fa _ KX G.T.g hmg
 exact Zum KX G.T.g G.T.b G.T.builtins G.T.nolimit hg hobj hints (XN hlen hn2) hr hF hb (fun H hO hS=>hsp w H a ns hlen hO hS) fun H e s'=>hCX w H s₁ e s'
theorem walk_ofK {l:W.OpenLaw}{n k:Nat}{q:Program}{loose:List Str}{XP:(Str→Option Value)→Heap→Prop}{YP:World→Heap→Prop}{d:DefRec}{K:Params→W.Frag}{CX:CXT}{sp:W.Frag→Sp}{x:Str}
  (hn:l.most=some n) (hn2:n≤sizeLine) (hdf:d.params.defaults=[]) (hr:Room k callerA)
  (hY:∀(w:World) (h:Heap),YP w h→(K w.params).In h)
  (F:∀(w:World) (mg:Str→Option Value) (fa:Addr) (h:Heap),(K w.params).In h→h.Ns mainGlobals mg→mg d.name=some (.ref fa)→
   ∃fd:FuncData,(∀(s:Shared) (u:Value),BindsTo s fd ⟨[u],[]⟩ [(x,u)])∧
    ∀base:Heap,(K w.params).In base→base.Ns mainGlobals mg→FnOk l.prog w (K w.params) mg base CX k fa fd [x] (sp (K w.params)))
  (hsp:∀(K:W.Frag) (H:Hp) (a:Addr) (ns:List Int),ns.length≤n→Only H→SqL K H a (ns.map V.int)→sp K [.ref a] H (fun v _=>v=.bl true) fun _ _ _=>False)
  (hCX:∀(H:Hp) (s:Shared) (e:Value) (s':Shared),CX [] H s (fun _ _ _=>False) e s'→False):
  W.WalkO q loose XP YP l.row.toRowW d [] (fun f vs=>PySem.call f vs):=
 walk_of (K:=K) (CX:=fun _=>CX) (sp:=fun w=>sp (K w.params)) hn hn2 hdf hr hY F (fun w H a ns h1 h2 h3=>hsp (K w.params) H a ns h1 h2 h3) fun _ H s e s'=>hCX H s e s'
end L2
/-THE LAST THEOREM (shape;LID,My.*are yours):
  My.Adr:a structure of the addresses that your layer names (classes,functions);My.Txt K t:a structure (Prop) of the equations over K;
  My.txt_mk:{K} {implicit addresses ..} (e1:nsIn K mainGlobals "law"=some (some (.ref f))) (e2:K.lookup f=some ⟨oc,od,.func (fnOf "law" "law" params body scope dV kV doc pm an cdv ct),sl⟩) (e3:codeIn K cdv "law"=true) ..:∃t,My.Txt K t
set_option maxRecDepth 100000 in
set_option maxHeartbeats 0 in
theorem PySem.Challenge.cw_LID_holds:PySem.Challenge.rw_LID.Holds:=by
 w_on;o_law;k_head;(case hw=>w_witness2)
 k_fill
 refine L2.walk_of (l:=PySem.Challenge.rw_LID) (n:=63) (k:=40) (x:="script") (CX:=fun w=>..) (sp:=fun _=>My.sp_law) rfl (by decide) rfl ⟨rfl,by decide,by decide⟩ (fun w h Y=>W.kIn_of Y) ?F ?S ?C
 case F=>
  intro w mg fa h KX G hmg
  have T:∃t,My.Txt (L2.KOf KX) t:=by
   dsimp only[L2.KOf]--K must stand as «<heap const>w.params» for k_is
   refine' My.txt_mk ?e1 ?e2 ?e3 ..
   (case e1=>W.k_is)--in the order:a name->its address->its object->its parts
   (case e2=>W.k_is)
   ..
  obtain⟨t,T⟩:=T
  have e0:=hmg.symm.trans (W.mg_of KX G T.law)
  cases e0--fa is the law's own address
  exact⟨_,fun s u=>.of_eq rfl,fun base kb nb=>My.law_fn T kb nb⟩--if «.of_eq rfl» comes too early:refine' ⟨_,?b,fun base kb nb=>My.law_fn T kb nb⟩;exact fun s u=>.of_eq rfl
 case S=>exact fun w H a ns hl hO hS=>..
 case C=>exact ..
(the tactic k_is has no namespace:write k_is)-/
namespace L2
open PySem PySem.Spec PyProof.Rows
def Jk (s:Stmt)(j:Nat):Stmt:=match s with
 | .ClassDef _ _ _ body _ _ _ _ _ _ _=>body.getD j (.Pass ⟨0,0,0,0⟩)
 | _=>.Pass ⟨0,0,0,0⟩
def Zu (s:Stmt):Arguments:=match s with
 | .FunctionDef _ a _ _ _ _ _ _ _ _=>a
 | _=>{posonlyargs:=[],args:=[],vararg:=none,kwonlyargs:=[],kw_defaults:=[],kwarg:=none,defaults:=[]}
def Zl (s:Stmt):List Stmt:=match s with
 | .FunctionDef _ _ b _ _ _ _ _ _ _=>b
 | _=>[]
def Zh (s:Stmt):Scope:=match s with
 | .FunctionDef _ _ _ _ _ _ sc _ _ _=>sc
 | _=>{kind:=.function,names:=[],isGenerator:=false,isCoroutine:=false}
abbrev CX0:CXT:=fun _ _ _ _ _ _=>False
abbrev E0:XK:=fun _ _ _=>False
theorem pass0 {X:Cx}:Passes CX0 X E0:=fun _ _ _ _ _ _ _ h=>h.elim
structure Fun (K:W.Frag)(x qual:Str)(st:Stmt)(f:Addr)(fd:FuncData):Prop where
 ex:∃(oc:Value) (od:Option Addr) (kV doc pm:Value) (an:Option Addr) (cdv ct:Value) (osl:Array (Option Value)),
  fd=W.fnOf x qual (Zu st) (Zl st) (Zh st) .none kV doc pm an cdv ct∧K.lookup f=some ⟨oc,od,.func fd,osl⟩∧W.codeIn K cdv qual=true
 kp:W.keepIn K (.ref f)=true
section
variable {P:Program}{w:World}{K:W.Frag}{mg:Str→Option Value}{base:Heap}
theorem Fun.ok {x qual:Str}{st:Stmt}{f:Addr}{fd:FuncData}{N ps:List Str}{k:Nat}{sp:Sp}(F:Fun K x qual st f fd)(S:FnScope N ps (Zh st))(len:∀vs H Q E,sp vs H Q E→vs.length=ps.length)
  (hbody:∀(cdv:Value) (A:Around) (outer:List Env) (s:Shared) (H:Hp) (vs:List V) (Q:VK) (E:XK),Room k (A.deeper (envOfC qual (Zh st) s.heap.objs.size f cdv))→sp vs H Q E→
   ∃t,PSs (cxOf CX0 P w K mg base N qual (Zh st) f cdv A outer s H E).nox (Zl st) t∧t {nx:=fun _ H'=>Q .non H',rt:=Q} (start N vs) H):FnOk P w K mg base CX0 (k+1) f fd ps sp:=by
 obtain⟨oc,od,kV,doc,pm,an,cdv,ct,osl,rfl,lk,hcd⟩:=F.ex
 refine Zy5 lk hcd S len fun A outer s H vs Q E hr hsp=>?_
 obtain⟨t,h,q⟩:=hbody cdv A outer s H vs Q E hr hsp
 exact⟨t,h.nox,q⟩
theorem Fun.binds {x qual:Str}{st:Stmt}{f:Addr}{fd:FuncData}{ps:List Str}(F:Fun K x qual st f fd)
  (h:∀(kV doc pm:Value) (an:Option Addr) (cdv ct:Value) (us:List Value),us.length=ps.length→bindArgs (W.fnOf x qual (Zu st) (Zl st) (Zh st) .none kV doc pm an cdv ct) ⟨us,[]⟩=pure (ps.zip us)):Binds K fd ps []:=by
 obtain⟨oc,od,kV,doc,pm,an,cdv,ct,osl,rfl,lk,hcd⟩:=F.ex
 exact .all (h kV doc pm an cdv ct)
theorem Z5 {x qual:Str}{st:Stmt}{f:Addr}{oc:Value}{od an:Option Addr}{osl:Array (Option Value)}{kV doc pm cdv ct:Value}(l:K.lookup f=some ⟨oc,od,.func (W.fnOf x qual (Zu st) (Zl st) (Zh st) .none kV doc pm an cdv ct),osl⟩)
  (c:W.codeIn K cdv qual=true) (k:W.keepIn K (.ref f)=true):Fun K x qual st f (W.fnOf x qual (Zu st) (Zl st) (Zh st) .none kV doc pm an cdv ct):=⟨⟨oc,od,kV,doc,pm,an,cdv,ct,osl,rfl,l,c⟩,k⟩
end
theorem small1000 {n:Nat}(h:n≤1000):n<sizeLine:=Nat.lt_of_le_of_lt h (by decide)
section
variable {X:Cx}
end
theorem ite2 {c A B:Prop}[Decidable c](h1:c→A)(h2:¬c→B):if c then A else B:=by
 by_cases h:c
 ·rw[XY h]
  exact h1 h
 ·rw[XX h]
  exact h2 h
def Same (H H':Hp):Prop:=∀b o,H b=some o→H' b=some o
section
variable {X:Cx}
def capS (cap:List (Option Nat))(σ:St):St:=cap.map fun o=>o.bind fun i=>(σ[i]?).join
def Jc (X:Cx)(cN:List Str)(scope:Scope)(cl:List (Str×Addr))(fp:List Addr)(s:Shared)(H:Hp):Cx:=
 {X with N:=cN,s₀:=s,H₀:=H,env:=compEnvC scope cl s.heap.objs.size X.env,outer:=X.stack,ex:=fp,fn:=fun _=>false,pn:=[],xe:=fun _ _=>False}
def PIfs (X:Cx)(ifs:List Expr)(c:TT):Prop:=
 ∀(pins:List (Addr×Obj)) (s:Shared) (σ:St) (H:Hp) (Q:Bool→Hp→Prop),Inv X pins σ H s→c σ H Q→
  wpAny (model X.prog X.w) X.A (forIn ifs true fun c r=>if r=true then do let ok ←isTrue c X.env (eval c X.env);pure (ForInStep.yield ok) else pure (ForInStep.yield r)) (TP X pins σ Q) X.xe s
def tNoIf:TT:=fun _ H Q=>Q true H
theorem Zxa:PIfs X [] tNoIf:=fun _ _ _ H _ I h=>wpAny_tests_nil ⟨H,I,h⟩
def Zk0 (js:List Nat)(g:TG):Prop:=∀x σ H Q,g x σ H Q→g x σ H fun σ' H'=>Q σ' H'∧σ'.length=σ.length∧∀i,i∉js→σ'[i]?=σ[i]?
def Zmn (js:List Nat)(g:TGs):Prop:=∀x σ H Q,g x σ H Q→g x σ H fun σ' H'=>Q σ' H'∧σ'.length=σ.length∧∀i,i∉js→σ'[i]?=σ[i]?
theorem Xt {i:Nat}:Zk0 [i] (Zao i):=fun x σ H Q h=>⟨h,by simp,fun j hj=>by
 rw[List.getElem?_set_ne]
 intro e;exact hj (by simp[e])⟩
theorem Zl1:Zmn [] gNil:=fun x σ H Q h=>⟨h.1,h.2,rfl,fun _ _=>rfl⟩
def Zff (g:TG):Prop:=∀x σ H (Q Q':St→Hp→Prop),(∀σ' H',Q σ' H'→Q' σ' H')→g x σ H Q→g x σ H Q'
def Zgd (g:TGs):Prop:=∀x σ H (Q Q':St→Hp→Prop),(∀σ' H',Q σ' H'→Q' σ' H')→g x σ H Q→g x σ H Q'
theorem Yd {i:Nat}:Zff (Zao i):=fun x σ H Q Q' h q=>h _ _ q
theorem Za5:Zgd gNil:=fun x σ H Q Q' h q=>⟨q.1,h _ _ q.2⟩
theorem Xs {g:TG}{u:TGs}(a:Zff g)(b:Zgd u):Zgd (Zc2 g u):=fun x σ H Q Q' h q=>by
 obtain⟨v,r,e,q⟩:=q
 exact⟨v,r,e,a _ _ _ _ _ (fun σ' H' z=>b _ _ _ _ _ h z) q⟩
theorem Zbw {g:TG}{u:TGs}{js ks:List Nat}(a:Zk0 js g)(am:Zff g)(b:Zmn ks u)(bm:Zgd u):Zmn (js++ks) (Zc2 g u):=fun x σ H Q q=>by
 obtain⟨v,r,e,q⟩:=q
 refine⟨v,r,e,am _ _ _ _ _ (fun σ' H' z=>?_) (a _ _ _ _ q)⟩
 obtain⟨z,l1,k1⟩:=z
 refine bm _ _ _ _ _ (fun σ2 H2 z2=>?_) (b _ _ _ _ z)
 obtain⟨z2,l2,k2⟩:=z2
 exact⟨z2,l2.trans l1,fun i hi=>(k2 i fun z=>hi (XT _ z)).trans (k1 i fun z=>hi (List.mem_append_left _ z))⟩
theorem Zl0 {K:W.Frag}{n:Nat}{u:TGs}{js:List Nat}(b:Zmn js u):Zk0 js (gTup K n u):=fun x σ H Q q=>by
 obtain⟨a,xs,e,hq,hl,q⟩:=q
 exact⟨a,xs,e,hq,hl,b _ _ _ _ q⟩
def tGo (cap:List (Option Nat))(g:TG)(c:TT)(te:TE)(σ:St)(Q:Addr→Hp→Prop)(J:It)(H1:Hp):Prop:=∀p,H1 p=none→∃W:Nat→Nat→Hp→Prop,(∃m,W 0 m (upd H1 p (.lst [])))∧∀i m H,W i m H→
 (J.stop i H∧Q p H)∨(J.go i H∧∃N:Hp→Prop,(∀H',N H'→∃m',m'<m∧W (i+1) m' H')∧∀x H',J.yld i H x H'→g x (capS cap σ) H' fun σ2 H2=>c σ2 H2 fun b H3=>
  if b=true then te σ2 H3 fun v H4=>∃xs,H4 p=some (.lst xs)∧xs.length<sizeLine∧N (upd H4 p (.lst (xs++[v]))) else N H3)
def Zk9 (cap:List (Option Nat))(wi:TI)(g:TG)(c:TT)(te:TE):St→Hp→(Addr→Hp→Prop)→Prop:=fun σ H Q=>wi σ H fun J H1=>tGo cap g c te σ Q J H1
structure CompOk (X:Cx)(cN:List Str)(cap:List (Option Nat))(scope:Scope)(cl:List (Str×Addr)):Prop where
 clos:closureFor scope X.env=pure cl
 sub:∀n a,cl.lookup n=some a→X.env.cells.lookup n=some a
 cell:∀y∈scope.names,y.2≠.cell
 kind:scope.kind=.function
 names:∀x∈scope.names,x.2=.local→scope.names.lookup x.1=some .local
 len:cap.length=cN.length
 has:∀x,((relabel scope X.env).names.lookup x=some .cell∨(relabel scope X.env).names.lookup x=some .free)→∃a,cl.lookup x=some a
 capd:∀(i j:Nat) (x:Str),cap[i]?=some (some j)→cN[i]?=some x→X.N[j]?=some x∧Vis X.env.scope x∧X.env.scope.names.lookup x≠some .local∧((relabel scope X.env).names.lookup x=some .cell∨(relabel scope X.env).names.lookup x=some .free)
theorem Zvx {cap:List (Option Nat)}{σ:St}:(capS cap σ).length=cap.length:=XI _
theorem Zod {cap:List (Option Nat)}{σ:St}{i:Nat}{v:V}(h:(capS cap σ)[i]?=some (some v)):∃j,cap[i]?=some (some j)∧σ[j]?=some (some v):=by
 unfold capS at h
 rw[XM] at h
 cases e:cap[i]? with
 | none=>rw[e] at h;cases h
 | some o=>
  rw[e] at h
  cases o with
  | none=>cases h
  | some j=>
   refine⟨j,rfl,?_⟩
   simp only[Option.map_some,Option.bind_some,Option.some.injEq] at h
   cases q:σ[j]? with
   | none=>rw[q] at h;cases h
   | some u=>rw[q] at h;simp only[Option.join_some] at h;rw[h]
theorem Zps {cN:List Str}{cap:List (Option Nat)}{scope:Scope}{cl:List (Str×Addr)}{fp:List Addr}{pins:List (Addr×Obj)}{σ:St}{H:Hp}{s:Shared}{h':Heap}{m:Str→Option Value}{tk:Nat}
  (C:CompOk X cN cap scope cl) (I:Inv X pins σ H s) (f:∀b∈fp,FpOk X pins H b) (fl:∀b∈fp,b<s.heap.objs.size) (hn:h'.Ns s.heap.objs.size m) (k:∀b o,s.heap.get? b=some o→h'.get? b=some o):
  Inv (Jc X cN scope cl fp s H) [] (capS cap σ) H {s with heap:=h',toks:=tk}:=by
 have hfs:∀b∈fp,b∉frs X.stack:=fun b hb z=>by
  rcases List.mem_cons.mp (I.stkSub b z) with e | z
  ·exact(f b hb).2.1 e
  ·exact(f b hb).2.2.1 z
 have hcl:∀x c,cl.lookup x=some c→∃v,s.heap.IsCell c v:=fun x c e=>I.cell x c (C.sub x c e)
 refine⟨⟨I.ok.mod,?_,I.ok.glob,I.ok.blt,XE _,fun x y c e1 e2=>I.ok.inj x y c (C.sub x c e1) (C.sub y c e2),C.has,fun _ _ z=>(nomatch z),I.ok.hd,I.ok.frames,.inl rfl,fun b hb=>⟨XH (fl b hb),fun x c e=>(f b hb).2.2.2.2.1 x c (C.sub x c e)⟩,
   I.bs,Nat.le_trans I.ok.bsz I.sz,fun b o e z=>?_,hfs,I.stack,I.stkFree⟩,rfl,I.bare,Un.kept k,⟨m,hn,fun i x v h1 h2 h3=>?_⟩,fun x c e=>?_,I.fresh,fun x c e=>I.freeC x c (C.sub x c e),fun p hp=>absurd hp (by simp[Jc]),I.hok.kept k,?_⟩
 ·exact C.kind
 ·rcases (f b z).2.2.2.1 with q | q
  ·exact I.ok.noex b o e q
  ·exact absurd (XG (XD (I.ok.bs b o e).1) q) (Nat.lt_irrefl _)
 ·obtain⟨j,hj,hσ⟩:=Zod h2
  obtain⟨n1,n2,n3,n4⟩:=C.capd i j x hj h1
  obtain⟨mo,hno,hlo⟩:=I.loc
  obtain⟨u,ru,lk⟩:=hlo j x v n1 hσ n2
  refine⟨u,ru,?_⟩
  rcases lk with⟨k1,_⟩ | ⟨_,c,e,z⟩
  ·exact absurd k1 n3
  ·obtain⟨a,ha⟩:=C.has x n4
   have ea:=C.sub x a ha
   rw[e] at ea;cases ea
   obtain⟨o,ho,hd⟩:=z
   exact .inr ⟨n4,c,ha,⟨o,k _ _ ho,hd⟩⟩
 ·obtain⟨v,o,ho,hd⟩:=hcl x c e
  exact⟨v,o,k _ _ ho,hd⟩
 ·show(capS cap σ).length=cN.length
  rw[Zvx,C.len]
theorem Zob {cN:List Str}{scope:Scope}{cl:List (Str×Addr)}{fp:List Addr}{pins pins':List (Addr×Obj)}{σ σ':St}{H H':Hp}{s s':Shared}{h':Heap}
  (I:Inv X pins σ H s) (f:∀b∈fp,FpOk X pins H b) (J:Inv (Jc X cN scope cl fp s H) pins' σ' H' s') (sb:Heap.SameBut s.heap.objs.size s'.heap h'):Inv X pins σ H' {s' with heap:=h'}:=by
 have ne:∀b o,s.heap.get? b=some o→b≠s.heap.objs.size:=fun b o e=>XH (XD e)
 have B:Un (frs X.stack) fp H H' s.heap s'.heap:=J.base
 refine I.call' (s':={s' with heap:=h'}) (ch:=fp) J.os ⟨fun b o e n hb hx=>?_,fun b o e n hb hx=>?_,B.free,fun b o e hx=>?_,B.tups,B.frzs,B.tbls⟩ (fun b o e=>?_) J.bare fun b hb=>?_
 ·exact(sb.2 b (ne b o e)).trans (B.keep b o e n hb hx)
 ·obtain⟨sl,q⟩:=B.slot b o e n hb hx
  exact⟨sl,(sb.2 b (ne b o e)).trans q⟩
 ·obtain⟨o',q⟩:=B.there b o e hx
  exact⟨o',(sb.2 b (ne b o e)).trans q⟩
 ·have hf:H' s.heap.objs.size=none:=J.free
  refine(J.hok b o e).stay (fun c w' hc q=>(sb.2 c ?_).trans q) (fun _ q=>q) fun _ _ q=>q
  rintro rfl
  rcases hc with rfl | hc
  ·rw[hf] at e;cases e
  ·rw[hf] at hc;cases hc
 ·obtain⟨f0,f1,f2,f3,f4,f5⟩:=f b hb
  exact⟨f3,f1,f4,f5⟩
theorem Zk2 {α:Type}{t:Sem α}{Q:α→Shared→Prop}{M:Model}{A:Around}{E:Value→Shared→Prop}{s:Shared}(h:wpAny M A t Q (fun _ _=>False) s):wpAny M A t Q E s:=wpAny_mono h (fun _ _ q=>q) fun _ _ f=>f.elim
theorem Zsb {tg iter elt:Expr}{ifs:List Expr}{scope:Scope}{pos:Pos}{cN:List Str}{cap:List (Option Nat)}{cl:List (Str×Addr)}{js:List Nat}{g:TG}{c:TT}{te:TE}{fp:List Addr}{it D:Addr}{tn:Nat→Heap→Prop}{J:It}
  {σ:St} {H:Hp} {s s':Shared} {Q:Addr→Hp→Prop} {R:Result→Shared→Prop} {H₀:Hp} (X:Cx)
  (hc:X.calm=true) (hg:PG (Jc X cN scope cl fp s H₀) tg g) (gm:Zff g) (gk:Zk0 js g) (hjs:∀j∈js,(cap[j]?).join=none) (ht:PIfs (Jc X cN scope cl fp s H₀) ifs c) (tm:∀σ H (Q Q':Bool→Hp→Prop),(∀b H',Q b H'→Q' b H')→c σ H Q→c σ H Q') (he:PE (Jc X cN scope cl fp s H₀) elt te)
  (T:Turn X.prog X.w X.K tg J fp it tn) (W:Nat→Nat→Hp→Prop)
  (turn:∀i m H,W i m H→(J.stop i H∧Q D H)∨(J.go i H∧∃N:Hp→Prop,(∀H',N H'→∃m',m'<m∧W (i+1) m' H')∧∀x H',J.yld i H x H'→g x (capS cap σ) H' fun σ2 H2=>c σ2 H2 fun b H3=>
   if b=true then te σ2 H3 fun v H4=>∃xs,H4 D=some (.lst xs)∧xs.length<sizeLine∧N (upd H4 D (.lst (xs++[v]))) else N H3))
  (m:Nat) (w0:W 0 m H) (I:Inv (Jc X cN scope cl fp s H₀) [] (capS cap σ) H s') (st:tn 0 s'.heap) (f:∀b∈fp,FpOk (Jc X cN scope cl fp s H₀) [] H b)
  (hR:∀σ' H' s',Inv (Jc X cN scope cl fp s H₀) [] σ' H' s'→Q D H'→R (.ok .next) s'):
  codeAny (model X.prog X.w) X.A (.compLoop (.ListComp elt [⟨tg,iter,ifs,0⟩] scope pos) 0 (.ref it) (.ref D) (Jc X cN scope cl fp s H₀).env) R s':=by
 have stat:∀{H':Hp},(∀b∈fp,H' b=none)→∀b∈fp,FpOk (Jc X cN scope cl fp s H₀) [] H' b:=fun hn b hb=>⟨hn b hb,(f b hb).2⟩
 refine codeAny_loop rfl (fun n s'=>∃i H',Inv (Jc X cN scope cl fp s H₀) [] (capS cap σ) H' s'∧tn i s'.heap∧(∀b∈fp,H' b=none)∧W i n H') ?_ m ⟨0,H,I,st,fun b hb=>(f b hb).1,w0⟩
 rintro n s3 ⟨i,H3,I3,st3,fr3,w3⟩
 show wpAny _ X.A ((compTurn (.ListComp elt [⟨tg,iter,ifs,0⟩] scope pos) 0 (.ref it) (.ref D) (Jc X cN scope cl fp s H₀).env).onRaise (fun x=>do noteFrame x (Jc X cN scope cl fp s H₀).env;theTreesLotGoes x)) _ _ s3
 refine wpAny_noted (Zk2 ?_)
 rw[compTurn_list]
 refine XA (wpAny_standAt (XA ?_))
 rcases turn i n H3 w3 with⟨stop,qn⟩ | ⟨go,N,hN,step⟩
 ·refine thn (T.done (Jc X cN scope cl fp s H₀) rfl rfl rfl hc i [] s3 _ H3 _ I3 (stat fr3) st3 stop) fun r s4 ⟨hr,I4⟩=>?_
  subst hr
  exact XB (hR _ _ _ I4 qn)
 ·refine thn (T.item (Jc X cN scope cl fp s H₀) rfl rfl rfl hc i [] s3 _ H3 _ I3 (stat fr3) st3 go) fun r s4 ⟨u,hr,h4⟩=>?_
  subst hr
  refine XA (thn h4 fun _ s5 ⟨x,H5,I5,r5,y5,st5,fr5⟩=>?_)
  have I5':=I5.pinned (stat fr5) (T.obj _ _ st5)
  refine XA (thn (hg _ s5 _ H5 x u _ I5' r5 (gk _ _ _ _ (step x H5 y5))) fun _ s6 ⟨σ6,H6,I6,q6,l6,k6⟩=>?_)
  have back:∀{H7:Hp} {s7:Shared},Inv (Jc X cN scope cl fp s H₀) ([]++Zij fp s5.heap) σ6 H7 s7→N H7→∃m,m<n∧∃i H',Inv (Jc X cN scope cl fp s H₀) [] (capS cap σ) H' s7∧tn i s7.heap∧(∀b∈fp,H' b=none)∧W i m H':=fun {H7 s7} I7 n7=>by
   obtain⟨m',hm,w7⟩:=hN H7 n7
   refine⟨m',hm,i+1,H7,I7.unpinned.weak l6.symm fun j v hj=>?_,T.keep _ _ _ st5 fun b hb o e=>(I7.pin (b,o) (XT _ (XT _ (Zda hb e)))).1,fun b hb=>?_,w7⟩
   ·by_cases hjj:j∈js
    ·obtain⟨z,hz,_⟩:=Zod hj
     have:=hjs j hjj
     rw[hz] at this;cases this
    ·rw[k6 j hjj];exact hj
   ·obtain⟨o,e,d⟩:=T.obj _ _ st5 b hb
    exact(I7.pin (b,o) (XT _ (XT _ (Zda hb e)))).2.1
  refine XA (thn (ht _ s6 σ6 H6 _ I6 q6) fun b s7 ⟨H7,I7,q7⟩=>?_)
  cases b with
  | false=>
   rw[XX YJ] at q7
   exact XB ⟨rfl,back I7 q7⟩
  | true=>
   rw[XY rfl] at q7
   refine XA (XA (thn (he _ s7 σ6 H7 _ I7 q7) fun y s8 ⟨v,H8,I8,r8,xs,e8,z8,n8⟩=>?_))
   refine XA (thn (Zkh _ s8 σ6 H8 (.ref D) [v] (.ref D) [y] (fun _ H9=>N H9) I8 rfl (.cons r8 .nil) ⟨D,xs,v,rfl,rfl,e8,z8,n8⟩) fun _ s9 ⟨_,H9,I9,_,q9⟩=>?_)
   exact XB (XB ⟨rfl,back I9 q9⟩)
section
variable {X:Cx}{tg iter elt:Expr}{ifs:List Expr}{scope:Scope}{pos:Pos}{cN:List Str}{cap:List (Option Nat)}{cl:List (Str×Addr)}{js:List Nat}{wi:TI}{g:TG}{c:TT}{te:TE}
structure CompP (X:Cx)(tg iter elt:Expr)(ifs:List Expr)(scope:Scope)(cN:List Str)(cap:List (Option Nat))(cl:List (Str×Addr))(js:List Nat)(wi:TI)(g:TG)(c:TT)(te:TE):Prop where
 calm:X.calm=true
 ok:X.Ok→CompOk X cN cap scope cl
 it:PI X tg iter wi
 tgt:∀fp s H,PG (Jc X cN scope cl fp s H) tg g
 gm:Zff g
 gk:Zk0 js g
 js0:∀j∈js,(cap[j]?).join=none
 ts:∀fp s H,PIfs (Jc X cN scope cl fp s H) ifs c
 tm:∀σ H (Q Q':Bool→Hp→Prop),(∀b H',Q b H'→Q' b H')→c σ H Q→c σ H Q'
 el:∀fp s H,PE (Jc X cN scope cl fp s H) elt te
 fold:∀x,foldedSetIterable iter X.env x=pure x
theorem Zjg {pins:List (Addr×Obj)}{σ:St}{H:Hp}{s:Shared}{Q:Addr→Hp→Prop}{RR:Value→Addr→Result→Shared→Prop}(C:CompP X tg iter elt ifs scope cN cap cl js wi g c te)(I:Inv X pins σ H s)(h:Zk9 cap wi g c te σ H Q)
  (hRR:∀(D:Addr) (fp:List Addr) (s3:Shared) (H3:Hp) (σ':St) (H':Hp) (s':Shared),Inv X pins σ H3 s3→(∀b∈fp,FpOk X pins H3 b)→Inv (Jc X cN scope cl fp s3 H3) [] σ' H' s'→Q D H'→RR (.ref D) s3.heap.objs.size (.ok .next) s'):
  wpAny (model X.prog X.w) X.A (eval iter X.env) (fun x s₁=>wpAny (model X.prog X.w) X.A (pyIter x) (fun it s₂=>wpAny (model X.prog X.w) X.A (newList []) (fun acc s₃=>
   wpAny (model X.prog X.w) X.A (newFunctionEnv scope X.env.globals cl [] X.env.qual none .none (some X.env)) (fun cenv s₄=>
    codeAny (model X.prog X.w) X.A (.compStart (.ListComp elt [⟨tg,iter,ifs,0⟩] scope pos) 0 it acc {cenv with scope:=relabel scope X.env}) (RR acc cenv.locals) s₄) X.xe s₃) X.xe s₂) X.xe s₁) X.xe s:=by
 refine thn (C.it pins s σ H _ I h) fun v s1 h1=>thn h1 fun itv s2 h2=>?_
 obtain⟨it,fp,tn,J,H2,e,I2,T,st2,f2,R2⟩:=h2
 subst e
 obtain⟨W,⟨m,w0⟩,turn⟩:=R2 s2.heap.objs.size I2.fresh
 have I3:Inv X pins σ (upd H2 s2.heap.objs.size (.lst [])) {s2 with heap:=s2.heap.push {cls:=.type "list",data:=.seq ([]:List Value).toArray},toks:=s2.toks}:=I2.lnew (ys:=[]) (its:=[]) .nil (XO _)
 have fl:∀b∈fp,b<s2.heap.objs.size:=fun b hb=>by
  obtain⟨o,e,_⟩:=T.obj _ _ st2 b hb
  exact XD e
 have f3:∀b∈fp,FpOk X pins (upd H2 s2.heap.objs.size (.lst [])) b:=fun b hb=>⟨by rw[Z4 (XH (fl b hb))];exact(f2 b hb).1,(f2 b hb).2⟩
 refine wpAny_newObj_type (wpAny_newFunctionEnv (C.ok I.ok).cell (by intro y hy;simp at hy) (fun h₁ hns₁ hsb₁=>?_) (C.ok I.ok).kind)
 dsimp only at hns₁ hsb₁ ⊢
 generalize hs3:({s2 with heap:=s2.heap.push {cls:=.type "list",data:=.seq ([]:List Value).toArray},toks:=s2.toks}:Shared)=s3 at I3
 have hh3:s3.heap=s2.heap.push {cls:=.type "list",data:=.seq ([]:List Value).toArray}:=by rw[←hs3]
 rw[←hh3] at hns₁ hsb₁ ⊢
 have fl3:∀b∈fp,b<s3.heap.objs.size:=fun b hb=>by rw[hh3,Heap.size_push];exact Nat.lt_succ_of_lt (fl b hb)
 have k1:∀b o,s3.heap.get? b=some o→h₁.get? b=some o:=fun b o e=>(hsb₁.2 b (XH (XD e))).trans (XC _ e)
 have I4:=Zps (tk:=s2.toks+([]:List (Str×Value)).length) (C.ok I.ok) I3 f3 fl3 hns₁ k1
 have e4:({s3 with heap:=h₁,toks:=s2.toks+([]:List (Str×Value)).length}:Shared)={s2 with heap:=h₁,toks:=s2.toks+([]:List (Str×Value)).length}:=by rw[←hs3]
 rw[e4] at I4
 have st4:tn 0 h₁:=T.keep _ _ _ st2 fun b hb o e=>k1 b o (by rw[hh3];exact XC _ e)
 have f4:∀b∈fp,FpOk (Jc X cN scope cl fp s3 (upd H2 s2.heap.objs.size (.lst []))) [] (upd H2 s2.heap.objs.size (.lst [])) b:=fun b hb=>by
  obtain⟨g0,g1,g2,g3,g4,g5⟩:=f3 b hb
  refine⟨g0,Nat.ne_of_lt (fl3 b hb),fun z=>?_,.inl hb,fun x c e=>g4 x c ((C.ok I.ok).sub x c e),fun p hp=>absurd hp (by simp[Jc])⟩
  rcases List.mem_cons.mp (I3.stkSub b z) with e | z
  ·exact g1 e
  ·exact g2 z
 have loop:codeAny (model X.prog X.w) X.A (.compLoop (.ListComp elt [⟨tg,iter,ifs,0⟩] scope pos) 0 (.ref it) (.ref s2.heap.objs.size) (Jc X cN scope cl fp s3 (upd H2 s2.heap.objs.size (.lst []))).env) (RR (.ref s2.heap.objs.size) s3.heap.objs.size)
   {s2 with heap:=h₁,toks:=s2.toks+([]:List (Str×Value)).length}:=
  Zsb X C.calm (C.tgt _ _ _) C.gm C.gk C.js0 (C.ts _ _ _) C.tm (C.el _ _ _) T W turn m w0 I4 st4 f4 fun σ' H' s' I' q=>hRR _ fp s3 _ σ' H' s' I3 f3 I' q
 exact codeAny_compStart_list loop (T.self _ 0 _ _ _ st4 loop)
def tComp (cap:List (Option Nat))(wi:TI)(g:TG)(c:TT)(te:TE):TE:=fun σ H Q=>Zk9 cap wi g c te σ H fun p H'=>Q (.ref p) H'
theorem Zxf (C:CompP X tg iter elt ifs scope cN cap cl js wi g c te):PE X (.ListComp elt [⟨tg,iter,ifs,0⟩] scope pos) (tComp cap wi g c te):=by
 intro pins s σ H Q I h
 rw[eval_ListComp]
 refine wpAny_comprehension_free (use:=none) rfl C.fold (C.ok I.ok).clos (C.ok I.ok).kind (C.ok I.ok).names (Zjg (RR:=fun acc C'=>compPost (model X.prog X.w) X.A X.xe none (EP X pins σ Q) acc C') C I h ?_)
 intro D fp s3 H3 σ' H' s' I3 f3 J q
 obtain⟨m,hn,_⟩:=J.loc
 exact⟨m,hn,fun h' sb=>⟨.ref D,H',Zob I3 f3 J sb,rfl,q⟩⟩
def Zst (i:Nat)(cap:List (Option Nat))(wi:TI)(g:TG)(c:TT)(te:TE):TS:=fun D σ H=>Zk9 cap wi g c te σ H fun p H'=>D.nx (σ.set i (some (.ref p))) H'
theorem Zox {i:Nat}{y:Str}{py spos:Pos}(hN:X.N.Nodup)(hi:X.N[i]?=some y)(hy:X.env.scope.names.lookup y=some .local)
  (hsw:swapsWith (.ListComp elt [⟨tg,iter,ifs,0⟩] scope pos) (some (.Name y py)) spos.line X.env=pure true)
  (C:CompP X tg iter elt ifs scope cN cap cl js wi g c te):PS X (.Assign [.Name y py] (.ListComp elt [⟨tg,iter,ifs,0⟩] scope pos) spos) (Zst i cap wi g c te):=by
 intro pins s σ H D I h
 rw[exec_Assign_Name_used _ _ _ _ hsw]
 refine XA (wpAny_standAt (XA ?_))
 show wpAny _ X.A (do let _ ←comprehension (.ListComp elt [⟨tg,iter,ifs,0⟩] scope pos) scope X.env _ (newList []) false (eval iter X.env) (some (assign (.Name y py) X.env))) _ _ s
 refine XA (wpAny_mono (wpAny_comprehension_free (use:=some (assign (.Name y py) X.env)) (Q:=fun _ s'=>SP X pins D .next s') rfl C.fold (C.ok I.ok).clos (C.ok I.ok).kind (C.ok I.ok).names
  (Zjg (RR:=fun acc C'=>compPost (model X.prog X.w) X.A X.xe (some (assign (.Name y py) X.env)) (fun _ s'=>SP X pins D .next s') acc C') C I h ?_)) (fun _ s' hq=>XB (XB hq)) fun _ _ e=>e)
 intro D' fp s3 H3 σ' H' s' I3 f3 J q
 obtain⟨m,hn,_⟩:=id J.loc
 have I4:Inv X pins σ H' s':=Zob I3 f3 J (Heap.SameBut.refl ..)
 show wpAny _ X.A (assign (.Name y py) X.env (.ref D')) _ _ _
 refine wpAny_assign_Name (Zj9 (v:=.ref D') I4 hN hi (.inl hy) rfl (fun s5 I5 hch=>?_) (.inr hy))
 obtain⟨a,sb,ha⟩:=hch
 have hf:H' s3.heap.objs.size=none:=J.free
 have hCL:s3.heap.objs.size≠X.env.locals:=Nat.ne_of_gt I3.lt
 have hcells:∀x c,X.env.cells.lookup x=some c→c≠s3.heap.objs.size:=fun x c e=>by
  obtain⟨v,o,ho,_⟩:=I3.cell x c e
  exact XH (XD ho)
 have haC:s3.heap.objs.size≠a:=by
  rcases ha with z | z
  ·rw[z];exact hCL
  ·exact Ne.symm (hcells _ _ z)
 refine⟨m,hn.sameBut sb haC,fun h6 sb6=>⟨_,H',?_,q⟩⟩
 exact I5.turned (h':=h6) (t':=s5.toks) (fun b o hb e=>(sb6.2 b hb).trans e) hf hCL (.inr I3.sz) (fun x c e=>hcells x c e) fun p hp z=>by
  have:=XD (I3.pin p hp).1
  rw[z] at this;exact Nat.lt_irrefl _ this
end
end
def Its (z:Str):It:=⟨fun i _=>i<z.cps.size,fun i H x H'=>H'=H∧∃c,z.cps[i]?=some c∧x=.str ⟨#[c]⟩,fun i _=>i=z.cps.size⟩
theorem Zh5 {P:Program}{w:World}{K:W.Frag}{tg:Expr}{ty:String}{it:Addr}{z:Str}{t:Tok}(hty:["enumerate","zip","dict_itemiterator","dict_reverseitemiterator","odict_iterator","itertools.zip_longest","itertools.pairwise"].contains ty=false)
  (W:∀A:Around,A.handled=none→Walks P w A it [it] [it] z.cps.size (SignAt z) (fun i h=>h.IsStrIter it ty z t i))
  (self:∀(A:Around) (i:Nat) (s:Shared) (Q:Value→Shared→Prop) (E:Value→Shared→Prop),s.heap.IsStrIter it ty z t i→Q (.ref it) s→wpAny (model P w) A (pyIter (.ref it)) Q E s):
  Turn P w K tg (Its z) [it] it (fun i h=>h.IsStrIter it ty z t i) where
 mem:=by simp
 obj:=fun i h st b hb=>by
  have e:b=it:=by simpa using hb
  subst e
  obtain⟨o,e,c,d⟩:=st
  exact⟨o,e,fun v z=>by rw[d] at z;cases z⟩
 keep:=fun i h h' st k=>let ⟨o,e,r⟩:=st;⟨o,k it (by simp) o e,r⟩
 item:=by
  intro X hP hw hK hc i pins s σ H E I hf st hg
  subst hP hw hK
  obtain⟨f0,f1,f2,f3,f4,f5⟩:=hf it (by simp)
  refine(W X.A (I.ok.hd hc)).item i s _ _ hg st fun v h' tk hv st' kk=>?_
  obtain⟨c,u,hcp,rfl⟩:=hv
  have I1:Inv X pins σ H {s with heap:=h',toks:=tk}:=I.turned (fun b o hb e=>kk b o (by simpa using hb) e) f0 f1 f3 f4 f5
  obtain⟨o,e,c',d⟩:=id st'
  exact⟨_,rfl,Znx (s:={s with heap:=h',toks:=tk}) e c' d hty ⟨.str ⟨#[c]⟩,H,I1,⟨u,rfl⟩,⟨rfl,c,hcp,rfl⟩,st',fun b hb=>(hf b hb).1⟩⟩
 done:=by
  intro X hP hw hK hc i pins s σ H E I hf st hg
  subst hP hw hK
  obtain⟨f0,f1,f2,f3,f4,f5⟩:=hf it (by simp)
  have e:i=z.cps.size:=hg
  subst e
  exact(W X.A (I.ok.hd hc)).done s _ _ st fun h' tk kk=>⟨rfl,I.turned (fun b o hb e=>kk b o (by simpa using hb) e) f0 f1 f3 f4 f5⟩
 self:=self
section
variable {X:Cx}{tg:Expr}
end
section
variable {X:Cx}{elts:List Expr}{ek:Nat}{epos:Pos}
end
section
variable {X:Cx}
def Zz4 (K:W.Frag):R2:=fun x y H Q=>∃a b ys,x=.ref a∧y=.ref b∧SqT K H a []∧SqT K H b ys∧Q (.ref b) H
theorem Zt0:OpR X (binaryOp .Add) (Zz4 X.K):=by
 intro pins s σ H x y v u Q I rx ry h
 obtain⟨a,b,ys,rfl,rfl,ha,hb,q⟩:=h
 cases rx
 cases ry
 obtain⟨its,r1,p1,_⟩:=I.tuple ha
 obtain⟨its2,r2,p2,_⟩:=I.tuple hb
 cases r1
 obtain⟨⟨cls,dd,data,sl⟩,ho,hc,n,hd⟩:=id p1
 obtain⟨⟨cls2,dd2,data2,sl2⟩,ho2,hc2,n2,hd2⟩:=id p2
 simp only at hc hd hc2 hd2
 subst hc hd hc2 hd2
 exact concat_meets ⟨_,ho,rfl⟩ ⟨_,ho2,rfl⟩ noFill_tuple_add seq_tuple_add PySem.F.slot_tuple_add PySem.F.entry_tuple_add (PySem.F.args_tuple_add_2 _ _)
  (tuple_addW0 a b _ _ n n2 dd dd2 sl sl2 (by simp)) ⟨ho,ho2,⟨.ref b,H,I,rfl,q⟩⟩
theorem Zqa {v:Value}{o:Option Int}(h:IsPart v o):∃l:Option (Int×Tok),v=partValue l∧l.map (·.1)=o:=by
 cases h with
 | none=>exact⟨none,rfl,rfl⟩
 | int i t=>exact⟨some (i,t),rfl,rfl⟩
def rSlS:V→Option Int→Option Int→Hp→VK→Prop:=fun x lo hi H Q=>∃z,x=.str z∧z.length≤sizeLine∧Q (.str (Txt.slice z lo hi)) H
theorem Zzw:SlR X rSlS:=by
 intro pins s σ H x v vl vu lo hi sl Q I rx hs pl pu h
 obtain⟨z,rfl,hz,q⟩:=h
 obtain⟨t,rfl⟩:=rx
 obtain⟨l,rfl,rfl⟩:=Zqa pl
 obtain⟨u,rfl,rfl⟩:=Zqa pu
 refine⟨"str",_,PySem.F.slot_str_getitem.lookup,typeIs_str _ _ _,?_⟩
 obtain⟨o,ho,hc,hd⟩:=hs
 refine wpAny_getItem_str_slice (l:=l) (u:=u) (st:=none) ⟨o,ho,hc,hd⟩ rfl ?_
 have hle:=Txt.slice_le z (l.map (·.1)) (u.map (·.1))
 unfold sliceMade
 unfold Txt.slice at q hle
 show Made.post (if ((1:Int)==1&&(PySem.Builtin.Str.strSliceIndices (l.map (·.1)) (u.map (·.1)) 1 z.length).length==z.length)=true then _ else Made.str ⟨((PySem.Builtin.Str.strSliceIndices (l.map (·.1)) (u.map (·.1)) 1 z.length).filterMap (z.cps[·]?)).toArray⟩) _ s
 split
 ·rename_i hif
  rw[XY hif] at q
  exact⟨.str z,H,I,⟨t,rfl⟩,q⟩
 ·rename_i hif
  rw[XX hif] at q
  rw[XX hif] at hle
  exact⟨XN hle hz,.str _,H,I.tok _,⟨_,rfl⟩,q⟩
end
theorem Zvy:bootBuiltins "max"=some (.builtin "max"):=by decide+kernel
theorem Zj4:bootBuiltins "isinstance"=some (.builtin "isinstance"):=by decide+kernel
theorem Zmk:bootBuiltins "str"=some (.type "str"):=by decide+kernel
theorem Zyk:bootBuiltins "list"=some (.type "list"):=by decide+kernel
theorem Zgc:bootBuiltins "tuple"=some (.type "tuple"):=by decide+kernel
section
variable {X:Cx}
structure Ca (P:Program)(w:World)(K:W.Frag)(mg:Str→Option Value)(base:Heap)(k:Nat)(x:Str)(ps:List Str)(sp:Sp):Prop where
 ex:∃(f:Addr) (fd:FuncData),FnOk P w K mg base CX0 k f fd ps sp∧Binds K fd ps []∧W.keepIn K (.ref f)=true∧mg x=some (.ref f)
theorem pe_ca {k:Nat}{x:Str}{ps:List Str}{sp:Sp}{p pos:Pos}{e:Expr}{es:List Expr}{t:TA}(C:Ca X.prog X.w X.K X.mg X.base k x ps sp)(hr:Room k X.A)(hg:Gl X x)(ha:PA X (e::es) t)
  (hdb:(x==("__debug__":Str))=false:=by decide) (he:starEach (e::es) X.env=(false,eval e X.env)::starEach es X.env:=by rfl) (hpl:(backTo pos (starEach es X.env)).any (·.1)=false:=by rfl):
  PE X (.Call (.Name x p) (e::es) [] pos) (Zyu sp [] E0 t):=by
 obtain⟨f,fd,F,B,kp,m⟩:=C.ex
 exact Zp9 F hr hg m kp B .nil pass0 ha hdb he hpl
theorem Zlz {K:W.Frag}{n:Nat}{u:TGs}(b:Zgd u):Zff (gTup K n u):=fun x σ H Q Q' h q=>by
 obtain⟨a,xs,e,hq,hl,q⟩:=q
 exact⟨a,xs,e,hq,hl,b _ _ _ _ _ h q⟩
theorem Zcg {scope:Scope}{env:Env}{x:Str}{k:NameKind}(h:(relabel scope env).names.lookup x=some k):∃k',(x,k')∈scope.names∧(k'=k∨k'=.free):=by
 have m:=PySem.mem_of_lookup h
 unfold relabel at m
 obtain⟨⟨n,k'⟩,hm,e⟩:=XR.mp m
 dsimp only at e
 split at e
 ·rename_i hc
  cases e
  refine⟨k',hm,.inr ?_⟩
  simp only[Bool.and_eq_true,beq_iff_eq] at hc
  exact hc.1.1
 ·cases e
  exact⟨_,hm,.inl rfl⟩
theorem Zh1 {cN:List Str}{cap:List (Option Nat)}{scope:Scope}(hk:scope.kind=.function)(h1:scope.names.all (fun y=>y.2 !=.free&&y.2 !=.cell)=true)(h2:scope.names.all (fun y=>y.2 !=.local||scope.names.lookup y.1==some .local)=true)
  (hl:cap.length=cN.length) (hc:cap.all (fun o=>o.isNone)=true):CompOk X cN cap scope [] where
 clos:=closureFor_none fun y hy=>by
  have:=List.all_eq_true.mp h1 y hy
  simp only[Bool.and_eq_true,bne_iff_ne,ne_eq] at this
  exact this.1
 sub:=fun n a h=>by cases h
 cell:=fun y hy=>by
  have:=List.all_eq_true.mp h1 y hy
  simp only[Bool.and_eq_true,bne_iff_ne,ne_eq] at this
  exact this.2
 kind:=hk
 names:=fun y hy e=>by
  have:=List.all_eq_true.mp h2 y hy
  simp only[Bool.or_eq_true,bne_iff_ne,ne_eq,beq_iff_eq] at this
  rcases this with q | q
  ·exact absurd e q
  ·exact q
 len:=hl
 has:=fun x h=>by
  exfalso
  have no:∀k',(x,k')∈scope.names→k'≠.free∧k'≠.cell:=fun k' hy=>by
   have:=List.all_eq_true.mp h1 _ hy
   simpa only[Bool.and_eq_true,bne_iff_ne,ne_eq] using this
  rcases h with h | h
  ·obtain⟨k',hm,e⟩:=Zcg h
   rcases e with e | e
   ·exact(no k' hm).2 e
   ·exact(no k' hm).1 e
  ·obtain⟨k',hm,e⟩:=Zcg h
   rcases e with e | e
   ·exact(no k' hm).1 e
   ·exact(no k' hm).1 e
 capd:=fun i j x h _=>by
  have:=List.all_eq_true.mp hc _ (List.mem_of_getElem? h)
  cases this
def Zay (cells:List (Str×Addr)):List (Str×NameKind)→List (Str×Addr)→List (Str×Addr)
 | [],cs=>cs
 | (n,k)::r,cs=>Zay cells r (if k==.free then(n,(cells.lookup n).getD 0)::cs else cs)
theorem Zfe {cells:List (Str×Addr)}:∀{names:List (Str×NameKind)} {cs:List (Str×Addr)} {p:Str×Addr},p∈Zay cells names cs↔p∈cs∨((p.1,NameKind.free)∈names∧p.2=(cells.lookup p.1).getD 0)
 | [],cs,p=>by simp[Zay]
 | (n,k)::r,cs,p=>by
  unfold Zay
  rw[Zfe]
  by_cases hk:k=.free
  ·subst hk
   simp only[beq_self_eq_true,if_true,List.mem_cons,Prod.mk.injEq,and_true]
   constructor
   ·rintro((h | h) | h)
    ·subst h;exact .inr ⟨.inl rfl,rfl⟩
    ·exact .inl h
    ·exact .inr ⟨.inr h.1,h.2⟩
   ·rintro(h | ⟨h | h,e⟩)
    ·exact .inl (.inr h)
    ·refine .inl (.inl ?_)
     obtain⟨a,b⟩:=p
     simp only at h e
     subst h;subst e;rfl
    ·exact .inr ⟨h,e⟩
  ·have hb:(k==NameKind.free)=false:=by simpa using hk
   simp only[hb,Bool.false_eq_true,if_false,List.mem_cons,Prod.mk.injEq]
   constructor
   ·rintro(h | h)
    ·exact .inl h
    ·exact .inr ⟨.inr h.1,h.2⟩
   ·rintro(h | ⟨h | h,e⟩)
    ·exact .inl h
    ·exact absurd h.2.symm hk
    ·exact .inr ⟨h,e⟩
theorem Zj2 {scope:Scope}{env:Env}(h:∀n,(n,NameKind.free)∈scope.names→∃c,env.cells.lookup n=some c):closureFor scope env=pure (Zay env.cells scope.names []):=by
 have key:∀(names:List (Str×NameKind)) (cs:List (Str×Addr)),(∀n,(n,NameKind.free)∈names→∃c,env.cells.lookup n=some c)→
   (forIn names cs fun x r=>(match x with | (name,kind)=>if (kind==NameKind.free)=true then(do let y ←cellOf env name;pure (ForInStep.yield ((name,y)::r))) else pure (ForInStep.yield r):Sem (ForInStep (List (Str×Addr)))))=pure (Zay env.cells names cs):=by
  intro names
  induction names with
  | nil=>intro cs _;rfl
  | cons y r ih=>
   obtain⟨n,k⟩:=y
   intro cs hn
   rw[List.forIn_cons]
   unfold Zay
   by_cases hk:k=.free
   ·subst hk
    obtain⟨c,hc⟩:=hn n (List.mem_cons_self)
    simp only[beq_self_eq_true,if_true,cellOf,hc,Option.getD_some]
    exact ih _ fun m hm=>hn m (XV _ hm)
   ·have hb:(k==NameKind.free)=false:=by simpa using hk
    simp only[hb,Bool.false_eq_true,if_false]
    exact ih _ fun m hm=>hn m (XV _ hm)
 unfold closureFor
 have:=key scope.names [] h
 first
  | exact this
  | (simp only[bind_pure];exact this)
  | (show(forIn scope.names [] _>>=fun r=>pure r)=_;rw[bind_pure];exact this)
theorem Ziy {f:Str→NameKind→NameKind}:∀{names:List (Str×NameKind)} {x:Str},(names.map fun y=>(y.1,f y.1 y.2)).lookup x=(names.lookup x).map (f x)
 | [],x=>rfl
 | (n,k)::r,x=>by
  have ih:=@Ziy f r x
  rw[YI,List.lookup_cons,List.lookup_cons]
  by_cases hx:x=n
  ·subst hx;simp
  ·have hb:(x==n)=false:=beq_eq_false_iff_ne.mpr hx
   simp only[hb];exact ih
theorem Ziz {scope:Scope}{env:Env}{x:Str}:(relabel scope env).names.lookup x=
   (scope.names.lookup x).map fun k=>if (k==NameKind.free&&env.scope.kind==.function&&env.kindOf x==some .cell) then NameKind.cell else k:=by
 rw[←Ziy (f:=fun n k=>if (k==NameKind.free&&env.scope.kind==.function&&env.kindOf n==some .cell) then NameKind.cell else k)]
 unfold relabel
 congr 1
 refine List.map_congr_left fun y _=>?_
 obtain⟨n,k⟩:=y
 dsimp only
 split<;>rfl
def Zji (N:List Str)(outer inner:List (Str×NameKind)):List (Option Nat)→List Str→Bool
 | [],_=>true
 | _,[]=>true
 | none::r,_::xs=>Zji N outer inner r xs
 | some j::r,x::xs=>N[j]?==some x&&outer.lookup x==some .cell&&inner.lookup x==some .free&&Zji N outer inner r xs
theorem Zg2 {N:List Str}{outer inner:List (Str×NameKind)}:∀{cap:List (Option Nat)} {cN:List Str},Zji N outer inner cap cN=true→∀(i j:Nat) (x:Str),cap[i]?=some (some j)→cN[i]?=some x→N[j]?=some x∧outer.lookup x=some .cell∧inner.lookup x=some .free
 | [],_,_,i,j,x,h1,_=>by simp at h1
 | _::_,[],_,i,j,x,_,h2=>by simp at h2
 | none::r,y::xs,h,0,j,x,h1,_=>by simp at h1
 | none::r,y::xs,h,i+1,j,x,h1,h2=>Zg2 (cap:=r) (cN:=xs) (by simpa[Zji] using h) i j x (by simpa using h1) (by simpa using h2)
 | some k::r,y::xs,h,0,j,x,h1,h2=>by
  simp only[Zji,Bool.and_eq_true,beq_iff_eq] at h
  simp at h1 h2
  subst h1 h2
  exact⟨h.1.1.1,h.1.1.2,h.1.2⟩
 | some k::r,y::xs,h,i+1,j,x,h1,h2=>by
  simp only[Zji,Bool.and_eq_true,beq_iff_eq] at h
  exact Zg2 (cap:=r) (cN:=xs) h.2 i j x (by simpa using h1) (by simpa using h2)
theorem Zew {α β:Type}[BEq α][LawfulBEq α]{x:α}:∀{l:List (α×β)} {b:β},(x,b)∈l→∃c,l.lookup x=some c
 | [],_,h=>by cases h
 | (y,c)::r,b,h=>by
  rw[List.lookup_cons]
  by_cases hx:x=y
  ·subst hx;simp
  ·have hb:(x==y)=false:=beq_eq_false_iff_ne.mpr hx
   rw[hb]
   rcases List.mem_cons.mp h with e | h
   ·cases e;exact absurd rfl hx
   ·exact Zew h
theorem Zed {cN:List Str}{cap:List (Option Nat)}{scope:Scope}(ok:X.Ok)(hk:scope.kind=.function)(h1:scope.names.all (fun y=>y.2 !=.cell)=true)(h2:scope.names.all (fun y=>y.2 !=.local||scope.names.lookup y.1==some .local)=true)
  (hl:cap.length=cN.length) (hf:(scope.names.all fun y=>y.2 !=.free||X.env.scope.names.lookup y.1==some .cell)=true) (hc:Zji X.N X.env.scope.names scope.names cap cN=true):CompOk X cN cap scope (Zay X.env.cells scope.names []):=by
 have hfr:∀n,(n,NameKind.free)∈scope.names→∃c,X.env.cells.lookup n=some c:=fun n hn=>by
  have:=List.all_eq_true.mp hf _ hn
  simp only[bne_self_eq_false,Bool.false_or,beq_iff_eq] at this
  exact ok.has n (.inl this)
 refine⟨Zj2 hfr,fun n a h=>?_,fun y hy=>?_,hk,fun y hy e=>?_,hl,fun x h=>?_,fun i j x h1' h2'=>?_⟩
 ·have m:=PySem.mem_of_lookup h
  rw[Zfe] at m
  rcases m with m | ⟨m,e⟩
  ·cases m
  ·obtain⟨c,hc⟩:=hfr n m
   simp only[hc,Option.getD_some] at e
   rw[hc,e]
 ·have:=List.all_eq_true.mp h1 y hy
  simpa using this
 ·have:=List.all_eq_true.mp h2 y hy
  simp only[Bool.or_eq_true,bne_iff_ne,ne_eq,beq_iff_eq] at this
  rcases this with q | q
  ·exact absurd e q
  ·exact q
 ·have nc:∀k',(x,k')∈scope.names→k'≠.cell:=fun k' hy=>by
   have:=List.all_eq_true.mp h1 _ hy
   simpa using this
  have m:(x,NameKind.free)∈scope.names:=by
   rcases h with h | h
   ·obtain⟨k',hm,e⟩:=Zcg h
    rcases e with e | e
    ·exact absurd e (nc k' hm)
    ·subst e;exact hm
   ·obtain⟨k',hm,e⟩:=Zcg h
    rcases e with e | e<;>(subst e;exact hm)
  exact Zew (b:=(X.env.cells.lookup x).getD 0) (Zfe.mpr (.inr ⟨m,rfl⟩))
 ·obtain⟨q1,q2,q3⟩:=Zg2 hc i j x h1' h2'
  refine⟨q1,.inr (.inl q2),(by rw[q2];simp),?_⟩
  rw[Ziz,q3]
  simp only[Option.map_some,beq_self_eq_true,Bool.true_and]
  split
  ·exact .inl rfl
  ·exact .inr rfl
end
def CN (p:Addr)(Pv:Nat→List V→Hp→Prop)(i:Nat)(H:Hp):Prop:=∃ys,H p=some (.lst ys)∧ys.length≤i∧Pv i ys H
section
variable {K:W.Frag}{cap:List (Option Nat)}{g:TG}{c:TT}{te:TE}{σ:St}{Q:Addr→Hp→Prop}{H:Hp}
end
def tForGo (g:TG)(tb:TS)(D:Ends)(σ:St)(J:It)(H1:Hp):Prop:=∃W:Nat→Nat→St→Hp→Prop,(∃m,W 0 m σ H1)∧∀i m σ H,W i m σ H→
 (J.stop i H∧D.nx σ H)∨(J.go i H∧∃N:St→Hp→Prop,(∀σ' H',N σ' H'→∃m',m'<m∧W (i+1) m' σ' H')∧∀x H',J.yld i H x H'→g x σ H' fun σ2 H2=>tb {D with nx:=N,ct:=N,bk:=D.nx} σ2 H2)
section
variable {K:W.Frag}{a:Addr}{xs:List V}{g:TG}{tb:TS}{D:Ends}{σ:St}{H:Hp}{z:Str}
end
theorem tyL {K:W.Frag}{H:Hp}{r:Addr}{xs:List V}(h:H r=some (.lst xs)):tyV K "list" (.ref r) H:=by
 unfold tyV
 exact .inl ⟨rfl,xs,SqL.of h⟩
theorem Z2f {α:Type}{xs:List α}{i:Int}(h0:0≤i)(h1:i<(xs.length:Int)):∃v,atI xs i=some v∧v∈xs:=by
 have hk:i.toNat<xs.length:=by omega
 have ek:((i.toNat:Nat):Int)=i:=by omega
 have q:atI xs ((i.toNat:Nat):Int)=some xs[i.toNat]:=Zee (by simp[hk])
 rw[ek] at q
 exact⟨xs[i.toNat],q,YN hk⟩
end L2
namespace WL
open PySem PySem.Spec PyProof.Rows L2
inductive T where
 | non | bl (b:Bool) | int (i:Int) | str (x:Str) | tup (xs:List T)
  | ref (a:Addr)
  | cl (xs:List T)
inductive O where
 | lst (xs:List T)
 | dic (kvs:List (Key×T))
 | ins (cn:Str) (fs:List (Str×T))
  | fdic (kvs:List (Key×T))
abbrev Hw:=Addr→Option O
def up (C:Hw)(a:Addr)(o:O):Hw:=fun b=>if b=a then some o else C b
theorem Zn {C:Hw}{a:Addr}{o:O}:up C a o a=some o:=by unfold up;rw[XY rfl]
theorem Zx {C:Hw}{a b:Addr}{o:O}(h:b≠a):up C a o b=C b:=by unfold up;rw[XX h]
theorem up_up {C:Hw}{a:Addr}{o u:O}:up (up C a o) a u=up C a u:=by
 funext b;unfold up;split<;>rfl
def SqC (K:W.Frag)(H:Hp)(a:Addr)(xs:List V):Prop:=
 (∃o,H a=some (.frz o (.lst xs)))∨
  ∃(o:Obj) (its:Array Value) (n:Nat),K.lookup a=some o∧o.cls=.type "list"∧o.dict=none∧o.data=.seq its n∧its.size≤sizeLine∧Vals xs its.toList
theorem SqC.sq {K:W.Frag}{H:Hp}{a:Addr}{xs:List V}(h:SqC K H a xs):SqL K H a xs:=by
 rcases h with⟨o,h⟩ | h
 ·exact .inl (.inr ⟨o,h⟩)
 ·exact .inr h
mutual
def Rep (K:W.Frag)(H:Hp)(x:V):T→Prop
 | .non=>x=.non
 | .bl b=>x=.bl b
 | .int i=>x=.int i
 | .str z=>x=.str z
 | .ref a=>x=.ref a
 | .tup ts=>∃a ys,x=.ref a∧SqT K H a ys∧Reps K H ys ts
 | .cl ts=>∃a ys,x=.ref a∧SqC K H a ys∧Reps K H ys ts
def Reps (K:W.Frag)(H:Hp)(ys:List V):List T→Prop
 | []=>ys=[]
 | t::ts=>∃y r,ys=y::r∧Rep K H y t∧Reps K H r ts
end
def Stb:HO→Prop
 | .tup _=>True
 | .frz _ _=>True
 | _=>False
def Tx (H H':Hp):Prop:=∀b o,H b=some o→Stb o→H' b=some o
theorem Tx.refl (H:Hp):Tx H H:=fun _ _ h _=>h
theorem Tx.trans {H H1 H2:Hp}(a:Tx H H1)(b:Tx H1 H2):Tx H H2:=fun c o h n=>b c o (a c o h n) n
theorem Tx.new {H:Hp}{p:Addr}{o:HO}(h:H p=none):Tx H (upd H p o):=fun b u q _=>by rw[Z4 (J9 q h)];exact q
theorem Tx.put {H:Hp}{p:Addr}{o u:HO}(h:H p=some o)(n:¬Stb o):Tx H (upd H p u):=fun b v q s=>by
 by_cases e:b=p
 ·subst e;rw[h] at q;cases q;exact absurd s n
 ·rw[Z4 e];exact q
theorem Tx.sqt {K:W.Frag}{H H':Hp}(t:Tx H H'){a:Addr}{xs:List V}(h:SqT K H a xs):SqT K H' a xs:=by
 rcases h with(h | ⟨o,h⟩) | h
 ·exact .inl (.inl (t _ _ h trivial))
 ·exact .inl (.inr ⟨o,t _ _ h trivial⟩)
 ·exact .inr h
theorem Tx.sqc {K:W.Frag}{H H':Hp}(t:Tx H H'){a:Addr}{xs:List V}(h:SqC K H a xs):SqC K H' a xs:=by
 rcases h with⟨o,h⟩ | h
 ·exact .inl ⟨o,t _ _ h trivial⟩
 ·exact .inr h
mutual
theorem Rep.tx {K:W.Frag}{H H':Hp}(t:Tx H H'){x:V}:∀{v:T},Rep K H x v→Rep K H' x v
 | .non,h=>by simpa[Rep] using h
 | .bl b,h=>by simpa[Rep] using h
 | .int i,h=>by simpa[Rep] using h
 | .str z,h=>by simpa[Rep] using h
 | .ref a,h=>by simpa[Rep] using h
 | .tup ts,h=>by
  unfold Rep at h ⊢
  obtain⟨a,ys,e,q,r⟩:=h
  exact⟨a,ys,e,t.sqt q,Reps.tx t r⟩
 | .cl ts,h=>by
  unfold Rep at h ⊢
  obtain⟨a,ys,e,q,r⟩:=h
  exact⟨a,ys,e,t.sqc q,Reps.tx t r⟩
theorem Reps.tx {K:W.Frag}{H H':Hp}(t:Tx H H'){ys:List V}:∀{vs:List T},Reps K H ys vs→Reps K H' ys vs
 | [],h=>by simpa[Reps] using h
 | v::vs,h=>by
  unfold Reps at h ⊢
  obtain⟨y,r,e,q,s⟩:=h
  exact⟨y,r,e,Rep.tx t q,Reps.tx t s⟩
end
section
variable {K:W.Frag}{H:Hp}
theorem Xf {i:Int}:Rep K H (.int i) (.int i):=by unfold Rep;rfl
theorem J2 {i:Str}:Rep K H (.str i) (.str i):=by unfold Rep;rfl
theorem Jn {i:Bool}:Rep K H (.bl i) (.bl i):=by unfold Rep;rfl
theorem Zc8:Rep K H .non .non:=by unfold Rep;rfl
theorem J0 {a:Addr}:Rep K H (.ref a) (.ref a):=by unfold Rep;rfl
theorem Zab {a:Addr}{ys:List V}{ts:List T}(h:SqT K H a ys)(r:Reps K H ys ts):Rep K H (.ref a) (.tup ts):=by unfold Rep;exact⟨a,ys,rfl,h,r⟩
theorem Yg {x:V}{i:Int}(h:Rep K H x (.int i)):x=.int i:=by unfold Rep at h;exact h
theorem Jo {x:V}{i:Str}(h:Rep K H x (.str i)):x=.str i:=by unfold Rep at h;exact h
theorem Zev {x:V}{i:Bool}(h:Rep K H x (.bl i)):x=.bl i:=by unfold Rep at h;exact h
theorem Zc9 {x:V}(h:Rep K H x .non):x=.non:=by unfold Rep at h;exact h
theorem Z1 {x:V}{a:Addr}(h:Rep K H x (.ref a)):x=.ref a:=by unfold Rep at h;exact h
theorem Yf {x:V}{ts:List T}(h:Rep K H x (.tup ts)):∃a ys,x=.ref a∧SqT K H a ys∧Reps K H ys ts:=by unfold Rep at h;exact h
theorem Zdw {x:V}{ts:List T}(h:Rep K H x (.cl ts)):∃a ys,x=.ref a∧SqC K H a ys∧Reps K H ys ts:=by unfold Rep at h;exact h
theorem Jx:Reps K H [] []:=by unfold Reps;rfl
theorem Yp {y:V}{ys:List V}{t:T}{ts:List T}(a:Rep K H y t)(b:Reps K H ys ts):Reps K H (y::ys) (t::ts):=by unfold Reps;exact⟨y,ys,rfl,a,b⟩
theorem Zan {ys:List V}(h:Reps K H ys []):ys=[]:=by unfold Reps at h;exact h
theorem Jp {ys:List V}{t:T}{ts:List T}(h:Reps K H ys (t::ts)):∃y r,ys=y::r∧Rep K H y t∧Reps K H r ts:=by unfold Reps at h;exact h
theorem Reps.length:∀{vs:List T} {ys:List V},Reps K H ys vs→ys.length=vs.length
 | [],_,h=>by rw[Zan h];rfl
 | _::_,_,h=>by obtain⟨y,r,rfl,_,q⟩:=Jp h;rw[YF,YF,q.length]
theorem Reps.get:∀{vs:List T} {ys:List V} {i:Nat} {v:T},Reps K H ys vs→vs[i]?=some v→∃y,ys[i]?=some y∧Rep K H y v
 | [],_,_,_,_,e=>by simp at e
 | _::_,_,0,_,h,e=>by obtain⟨y,r,rfl,a,_⟩:=Jp h;simp at e;subst e;exact⟨y,rfl,a⟩
 | _::_,_,i+1,v,h,e=>by
  obtain⟨y,r,rfl,_,q⟩:=Jp h
  obtain⟨z,h1,h2⟩:=Reps.get (i:=i) (v:=v) q (by simpa using e)
  exact⟨z,by simpa using h1,h2⟩
theorem Reps.get':∀{vs:List T} {ys:List V} {i:Nat} {y:V},Reps K H ys vs→ys[i]?=some y→∃v,vs[i]?=some v∧Rep K H y v:=fun {vs ys i y} h e=>by
 have hl:=h.length
 have hi:i<ys.length:=(List.getElem?_eq_some_iff.mp e).1
 have hv:vs[i]?=some (vs[i]'(by omega)):=by simp[hl▸hi]
 obtain⟨z,h1,h2⟩:=h.get hv
 rw[e] at h1;cases h1
 exact⟨_,hv,h2⟩
theorem Reps.app:∀{vs ws:List T} {ys zs:List V},Reps K H ys vs→Reps K H zs ws→Reps K H (ys++zs) (vs++ws)
 | [],_,_,_,h,q=>by rw[Zan h];exact q
 | _::_,_,_,_,h,q=>by obtain⟨y,r,rfl,a,b⟩:=Jp h;exact Yp a (b.app q)
theorem Reps.take:∀(n:Nat) {vs:List T} {ys:List V},Reps K H ys vs→Reps K H (ys.take n) (vs.take n)
 | 0,_,_,_=>by simpa using Jx
 | _+1,[],_,h=>by rw[Zan h];exact Jx
 | n+1,_::_,_,h=>by obtain⟨y,r,rfl,a,b⟩:=Jp h;exact Yp a (b.take n)
theorem Reps.drop:∀(n:Nat) {vs:List T} {ys:List V},Reps K H ys vs→Reps K H (ys.drop n) (vs.drop n)
 | 0,_,_,h=>h
 | _+1,[],_,h=>by rw[Zan h];exact Jx
 | n+1,_::_,_,h=>by obtain⟨y,r,rfl,a,b⟩:=Jp h;exact b.drop n
theorem Reps.dropLast {vs:List T}{ys:List V}(h:Reps K H ys vs):Reps K H ys.dropLast vs.dropLast:=by
 rw[List.dropLast_eq_take,List.dropLast_eq_take,h.length];exact h.take _
theorem Reps.snoc {vs:List T}{ys:List V}{y:V}{v:T}(h:Reps K H ys vs)(q:Rep K H y v):Reps K H (ys++[y]) (vs++[v]):=h.app (Yp q Jx)
theorem Reps.reverse:∀{vs:List T} {ys:List V},Reps K H ys vs→Reps K H ys.reverse vs.reverse
 | [],_,h=>by rw[Zan h];exact Jx
 | _::_,_,h=>by obtain⟨y,r,rfl,a,b⟩:=Jp h;rw[List.reverse_cons,List.reverse_cons];exact b.reverse.snoc a
theorem Reps.at {vs:List T}{ys:List V}{i:Int}{v:T}(h:Reps K H ys vs)(e:atI vs i=some v):∃y,atI ys i=some y∧Rep K H y v:=by
 unfold atI at e ⊢
 rw[h.length]
 cases q:ixN vs.length i with
 | none=>rw[q] at e;cases e
 | some j=>
  rw[q] at e
  exact h.get e
theorem Zgl:∀ns:List Int,Reps K H (ns.map V.int) (ns.map T.int)
 | []=>Jx
 | n::r=>Yp Xf (Zgl r)
end
abbrev PR (K:W.Frag)(H:Hp){κ:Type}(kvs:List (κ×V))(kws:List (κ×T)):Prop:=PySem.Paired (fun p q=>p.1=q.1∧Rep K H p.2 q.2) kvs kws
def ORel (K:W.Frag)(H:Hp)(a:Addr):O→Prop
 | .lst xs=>∃ys,H a=some (.lst ys)∧Reps K H ys xs
 | .dic kvs=>∃ks,H a=some (.dK ks)∧PR K H ks kvs
 | .ins cn fs=>∃Cl dx ks,W.nsIn K mainGlobals cn=some (some (.ref Cl))∧H a=some (.ins Cl dx ks)∧PR K H ks fs
 | .fdic kvs=>∃ks,Rd H a (.dK ks)∧PR K H ks kvs
def O.wr:O→Prop
 | .fdic _=>False
 | _=>True
structure Rl (K:W.Frag)(F H:Hp)(C:Hw):Prop where
 obj:∀a o,C a=some o→ORel K H a o
 frm:∀a o,F a=some o→H a=some o∧C a=none
theorem Zih {K:W.Frag}{H H':Hp}(t:Tx H H'){κ:Type}{ks:List (κ×V)}{kvs:List (κ×T)}(h:PR K H ks kvs):PR K H' ks kvs:=L2.Paired.mapP h fun _ _ z=>⟨z.1,z.2.tx t⟩
theorem ORel.stay {K:W.Frag}{H H':Hp}{a:Addr}{o:O}(h:ORel K H a o)(t:Tx H H')(e:H' a=H a):ORel K H' a o:=by
 cases o with
 | lst xs=>obtain⟨ys,q,r⟩:=h;exact⟨ys,e.trans q,r.tx t⟩
 | dic kvs=>obtain⟨ys,q,r⟩:=h;exact⟨ys,e.trans q,Zih t r⟩
 | ins C fs=>obtain⟨Cl,dx,ys,n,q,r⟩:=h;exact⟨Cl,dx,ys,n,e.trans q,Zih t r⟩
 | fdic kvs=>
  obtain⟨ys,q,r⟩:=h
  refine⟨ys,?_,Zih t r⟩
  rcases q with q | ⟨o,q⟩
  ·exact .inl (e.trans q)
  ·exact .inr ⟨o,e.trans q⟩
theorem ORel.some {K:W.Frag}{H:Hp}{a:Addr}{o:O}(h:ORel K H a o)(wr:o.wr):∃u,H a=some u∧¬Stb u:=by
 cases o with
 | fdic kvs=>exact wr.elim
 | lst xs=>obtain⟨ys,q,r⟩:=h;exact⟨_,q,fun z=>z⟩
 | dic kvs=>obtain⟨ys,q,r⟩:=h;exact⟨_,q,fun z=>z⟩
 | ins C fs=>obtain⟨Cl,dx,ys,n,q,r⟩:=h;exact⟨_,q,fun z=>z⟩
theorem ORel.here {K:W.Frag}{H:Hp}{a:Addr}{o:O}(h:ORel K H a o):∃u,H a=Option.some u:=by
 cases o with
 | fdic kvs=>
  obtain⟨ys,q,r⟩:=h
  rcases q with q | ⟨o,q⟩
  ·exact⟨_,q⟩
  ·exact⟨_,q⟩
 | lst xs=>obtain⟨ys,q,r⟩:=h;exact⟨_,q⟩
 | dic kvs=>obtain⟨ys,q,r⟩:=h;exact⟨_,q⟩
 | ins C fs=>obtain⟨Cl,dx,ys,n,q,r⟩:=h;exact⟨_,q⟩
section
variable {K:W.Frag}{F H:Hp}{C:Hw}
theorem Rl.free (R:Rl K F H C){p:Addr}(h:H p=none):C p=none:=by
 cases e:C p with
 | none=>rfl
 | some o=>obtain⟨u,q⟩:=(R.obj p o e).here;rw[h] at q;cases q
theorem Rl.lst (R:Rl K F H C){a:Addr}{xs:List T}(h:C a=some (.lst xs)):∃ys,H a=some (.lst ys)∧Reps K H ys xs:=R.obj a _ h
theorem Rl.new (R:Rl K F H C){p:Addr}{u:HO}{o:O}(h:H p=none)(r:ORel K (upd H p u) p o):Rl K F (upd H p u) (up C p o) where
 obj:=fun a v e=>by
  by_cases q:a=p
  ·subst q;rw[Zn] at e;cases e;exact r
  ·rw[Zx q] at e
   exact(R.obj a v e).stay (Tx.new h) (Z4 q)
 frm:=fun a v e=>by
  have z:=R.frm a v e
  have q:a≠p:=J9 z.1 h
  rw[Z4 q,Zx q];exact z
theorem Rl.hid (R:Rl K F H C){p:Addr}{u:HO}(h:H p=none):Rl K F (upd H p u) C where
 obj:=fun a v e=>by
  obtain⟨w,q⟩:=(R.obj a v e).here
  exact(R.obj a v e).stay (Tx.new h) (Z4 (J9 q h))
 frm:=fun a v e=>by
  have z:=R.frm a v e
  rw[Z4 (J9 z.1 h)];exact z
theorem Rl.put (R:Rl K F H C){p:Addr}{u:HO}{o o':O}(h:C p=some o)(r:ORel K (upd H p u) p o')(wr:o.wr:=by trivial):Rl K F (upd H p u) (up C p o')∧Tx H (upd H p u):=by
 obtain⟨w,hw,ns⟩:=(R.obj p o h).some wr
 have t:Tx H (upd H p u):=Tx.put hw ns
 refine⟨⟨fun a v e=>?_,fun a v e=>?_⟩,t⟩
 ·by_cases q:a=p
  ·subst q;rw[Zn] at e;cases e;exact r
  ·rw[Zx q] at e
   exact(R.obj a v e).stay t (Z4 q)
 ·have z:=R.frm a v e
  have q:a≠p:=fun y=>by subst y;rw[h] at z;cases z.2
  rw[Z4 q,Zx q];exact z
theorem Rl.putL (R:Rl K F H C){p:Addr}{xs xs':List T}{ys':List V}(h:C p=some (.lst xs))(r:Reps K H ys' xs'):Rl K F (upd H p (.lst ys')) (up C p (.lst xs'))∧Tx H (upd H p (.lst ys')):=by
 obtain⟨w,hw,ns⟩:=(R.obj p _ h).some trivial
 exact R.put h ⟨ys',Yh,r.tx (Tx.put hw ns)⟩
theorem Rl.newL (R:Rl K F H C){p:Addr}{xs:List T}{ys:List V}(h:H p=none)(r:Reps K H ys xs):Rl K F (upd H p (.lst ys)) (up C p (.lst xs)):=R.new h ⟨ys,Yh,r.tx (Tx.new h)⟩
end
abbrev Sw:=List (Option T)
abbrev WK:=T→Hw→Prop
structure Xn where
 cls:Str
 fs:List (Str×T)
abbrev WX:=Xn→Hw→Prop
abbrev WE:=Sw→Hw→WK→WX→Prop
abbrev WT:=Sw→Hw→(Bool→Hw→Prop)→WX→Prop
abbrev WA:=Sw→Hw→(List T→Hw→Prop)→WX→Prop
structure We where
 nx:Sw→Hw→Prop
 rt:WK
 bk:Sw→Hw→Prop:=fun _ _=>False
 ct:Sw→Hw→Prop:=fun _ _=>False
 xc:WX:=fun _ _=>False
abbrev ZUD (Q:WK)(χ:WX):We:={nx:=fun _ C'=>Q .non C',rt:=Q,xc:=χ}
abbrev WS:=We→Sw→Hw→Prop
abbrev WG:=T→Sw→Hw→(Sw→Hw→Prop)→WX→Prop
abbrev WGs:=List T→Sw→Hw→(Sw→Hw→Prop)→WX→Prop
abbrev WI:=Sw→Hw→(List T→(Hw→Prop)→Hw→Prop)→WX→Prop
abbrev W2:=T→T→Hw→WK→Prop
abbrev Calls:=Nat→List T→Hw→WK→WX→Prop
def Zd (i:Nat):WE:=fun τ C Q _=>∃v,τ[i]?=some (some v)∧Q v C
def eC (v:T):WE:=fun _ C Q _=>Q v C
def Zf (r:W2)(a b:WE):WE:=fun τ C Q χ=>a τ C (fun x C1=>b τ C1 (fun y C2=>r x y C2 Q) χ) χ
def eUn (r:T→Hw→WK→Prop)(a:WE):WE:=fun τ C Q χ=>a τ C (fun x C1=>r x C1 Q) χ
def Zg:WA:=fun _ C Q _=>Q [] C
def Zb (a:WE)(r:WA):WA:=fun τ C Q χ=>a τ C (fun x C1=>r τ C1 (fun xs C2=>Q (x::xs) C2) χ) χ
def Zy (a:WA):WE:=fun τ C Q χ=>a τ C (fun xs C1=>xs.length≤sizeLine∧Q (.tup xs) C1) χ
def eLst (a:WA):WE:=fun τ C Q χ=>a τ C (fun xs C1=>xs.length≤sizeLine∧∀p,C1 p=none→Q (.ref p) (up C1 p (.lst xs))) χ
def Z7 (P:Calls)(i:Nat)(a:WA):WE:=fun τ C Q χ=>a τ C (fun xs C1=>P i xs C1 Q χ) χ
def eBi (r:List T→Hw→WK→Prop)(a:WA):WE:=fun τ C Q χ=>a τ C (fun xs C1=>r xs C1 Q) χ
def eMt (ty:T→Hw→Prop)(r:T→List T→Hw→WK→Prop)(o:WE)(a:WA):WE:=fun τ C Q χ=>o τ C (fun x C1=>ty x C1∧a τ C1 (fun xs C2=>r x xs C2 Q) χ) χ
def eIf (c:WT)(a b:WE):WE:=fun τ C Q χ=>c τ C (fun k C1=>if k=true then a τ C1 Q χ else b τ C1 Q χ) χ
def eAnd (a b:WE):WE:=fun τ C Q χ=>a τ C (fun x C1=>∃k,x=.bl k∧if k=true then b τ C1 Q χ else Q (.bl false) C1) χ
def eOr (a b:WE):WE:=fun τ C Q χ=>a τ C (fun x C1=>∃k,x=.bl k∧if k=true then Q (.bl true) C1 else b τ C1 Q χ) χ
def eNot (a:WE):WE:=fun τ C Q χ=>a τ C (fun x C1=>∃k,x=.bl k∧Q (.bl (!k)) C1) χ
def tru:T→Hw→Bool→Prop
 | .non,_,k=>k=false
 | .bl b,_,k=>k=b
 | .int i,_,k=>k=(i !=0)
 | .str y,_,k=>y.length≤sizeLine∧k=((y.length:Int) !=0)
 | .tup xs,_,k=>k=!xs.isEmpty
 | .cl xs,_,k=>k=!xs.isEmpty
 | .ref a,C,k=>(∃xs,C a=some (.lst xs)∧k=!xs.isEmpty)∨∃kvs,C a=some (.dic kvs)∧k=!kvs.isEmpty
def tTru (a:WE):WT:=fun τ C Q χ=>a τ C (fun x C1=>∃k,tru x C1 k∧Q k C1) χ
def tBl (a:WE):WT:=fun τ C Q χ=>a τ C (fun x C1=>∃k,x=.bl k∧Q k C1) χ
def tAn (a b:WT):WT:=fun τ C Q χ=>a τ C (fun k C1=>if k=true then b τ C1 Q χ else Q false C1) χ
def tOr' (a b:WT):WT:=fun τ C Q χ=>a τ C (fun k C1=>if k=true then Q true C1 else b τ C1 Q χ) χ
def tNo (a:WT):WT:=fun τ C Q χ=>a τ C (fun k C1=>Q (!k) C1) χ
def Z1v (r r':W2)(a b c:WE):WE:=fun τ C Q χ=>a τ C (fun x C1=>b τ C1 (fun y C2=>r x y C2 fun z C3=>∃k,z=.bl k∧(if k=true then c τ C3 (fun w C4=>r' y w C4 Q) χ else Q (.bl false) C3)) χ) χ
def wAdd:W2
 | .int i,.int j,C,Q=>Q (.int (i+j)) C
 | .str i,.str j,C,Q=>i.length+j.length≤sizeLine∧Q (.str (i++j)) C
 | .tup xs,.tup ys,C,Q=>xs.length+ys.length≤sizeLine∧Q (.tup (xs++ys)) C
 | .ref a,.ref b,C,Q=>∃xs ys,C a=some (.lst xs)∧C b=some (.lst ys)∧xs.length+ys.length≤sizeLine∧∀p,C p=none→Q (.ref p) (up C p (.lst (xs++ys)))
 | _,_,_,_=>False
def wSub:W2
 | .int i,.int j,C,Q=>Q (.int (i-j)) C
 | _,_,_,_=>False
def wMul:W2
 | .int i,.int j,C,Q=>CMul i j∧Q (.int (i*j)) C
 | _,_,_,_=>False
def wDiv:W2
 | .int i,.int j,C,Q=>CDiv i j∧Q (.int (i/j)) C
 | _,_,_,_=>False
def wMod:W2
 | .int i,.int j,C,Q=>0<j∧Q (.int (i%j)) C
 | _,_,_,_=>False
def wPow:W2
 | .int i,.int j,C,Q=>CPow i j∧Q (.int (i^j.toNat)) C
 | _,_,_,_=>False
def wNeg:T→Hw→WK→Prop
 | .int i,C,Q=>Q (.int (-i)) C
 | _,_,_=>False
def wLt:W2
 | .int i,.int j,C,Q=>Q (.bl (decide (i<j))) C
 | .str i,.str j,C,Q=>Q (.bl (decide (i.cps.toList<j.cps.toList))) C
 | _,_,_,_=>False
def wLe:W2
 | .int i,.int j,C,Q=>Q (.bl (decide (i≤j))) C
 | _,_,_,_=>False
def wGt:W2
 | .int i,.int j,C,Q=>Q (.bl (decide (j<i))) C
 | _,_,_,_=>False
def wGe:W2
 | .int i,.int j,C,Q=>Q (.bl (decide (j≤i))) C
 | _,_,_,_=>False
mutual
def eqT:T→T→Bool
 | .non,.non=>true
 | .bl a,.bl b=>a==b
 | .bl a,.int b=>(if a then 1 else 0)==b
 | .int a,.bl b=>a==(if b then 1 else 0)
 | .int a,.int b=>a==b
 | .str a,.str b=>a==b
 | .tup xs,.tup ys=>eqTs xs ys
 | _,_=>false
def eqTs:List T→List T→Bool
 | [],[]=>true
 | x::xs,y::ys=>eqT x y&&eqTs xs ys
 | _,_=>false
end
mutual
def flat:T→Nat→Bool
 | .tup xs,n+1=>flats xs n
 | .tup _,0=>false
 | .ref _,_=>false
 | .cl _,_=>false
 | _,_=>true
def flats:List T→Nat→Bool
 | [],_=>true
 | x::xs,n=>flat x n&&flats xs n
end
def Zcn:Nat:=100
def Ji (x:T):Prop:=flat x Zcn=true
def wEqG (neg:Bool):W2
 | .ref a,.ref b,C,Q=>∃xs ys,C a=some (.lst xs)∧C b=some (.lst ys)∧(xs.length=ys.length→flats xs Zcn=true∧flats ys Zcn=true)∧Q (.bl (if neg then !eqTs xs ys else eqTs xs ys)) C
 | .ref a,y,C,Q=>(∃xs,C a=some (.lst xs))∧Ji y∧Q (.bl neg) C
 | x,.ref b,C,Q=>(∃ys,C b=some (.lst ys))∧Ji x∧Q (.bl neg) C
 | x,y,C,Q=>Ji x∧Ji y∧Q (.bl (if neg then !eqT x y else eqT x y)) C
abbrev wEq:W2:=wEqG false
abbrev wNe:W2:=wEqG true
def wIsN:W2:=fun x y C Q=>y=.non∧Q (.bl (match x with | .non=>true | _=>false)) C
def Zmr:W2:=fun x y C Q=>y=.non∧Q (.bl (match x with | .non=>false | _=>true)) C
def inL (x:T)(xs:List T):Bool:=xs.any fun y=>eqT y x
def wInG (neg:Bool):W2
 | .str i,.str j,C,Q=>Q (.bl (if neg then(!(!(Builtin.Str.occurrences j i 0 j.length 1).isEmpty)) else(!(Builtin.Str.occurrences j i 0 j.length 1).isEmpty))) C
 | x,.tup ys,C,Q=>Ji x∧flats ys Zcn=true∧Q (.bl (if neg then !inL x ys else inL x ys)) C
 | x,.cl ys,C,Q=>Ji x∧flats ys Zcn=true∧Q (.bl (if neg then !inL x ys else inL x ys)) C
 | x,.ref a,C,Q=>∃ys,C a=some (.lst ys)∧Ji x∧flats ys Zcn=true∧Q (.bl (if neg then !inL x ys else inL x ys)) C
 | _,_,_,_=>False
abbrev wIn:W2:=wInG false
abbrev Zzl:W2:=wInG true
def cut {α:Type}(xs:List α)(lo hi:Option Int):List α:=(xs.drop (HT.sIx xs.length 0 lo)).take (HT.sIx xs.length xs.length hi-HT.sIx xs.length 0 lo)
def Zq:W2
 | .tup xs,.int i,C,Q=>∃v,atI xs i=some v∧Q v C
 | .cl xs,.int i,C,Q=>∃v,atI xs i=some v∧Q v C
 | .str z,.int i,C,Q=>z.length≤sizeLine∧∃c,atI z.cps.toList i=some c∧Q (.str ⟨#[c]⟩) C
 | .ref a,.int i,C,Q=>∃xs v,C a=some (.lst xs)∧atI xs i=some v∧Q v C
 | _,_,_,_=>False
def oNo:Sw→Hw→(Option Int→Hw→Prop)→WX→Prop:=fun _ C Q _=>Q none C
def Zg7 (a:WE):Sw→Hw→(Option Int→Hw→Prop)→WX→Prop:=fun τ C Q χ=>a τ C (fun x C1=>∃i,x=.int i∧Q (some i) C1) χ
def wSl:T→Option Int→Option Int→Hw→WK→Prop
 | .tup xs,lo,hi,C,Q=>¬(HT.sIx xs.length 0 lo=0∧HT.sIx xs.length xs.length hi=xs.length)∧Q (.tup (cut xs lo hi)) C
 | .cl xs,lo,hi,C,Q=>∀p,C p=none→Q (.ref p) (up C p (.lst (cut xs lo hi)))
 | .str z,lo,hi,C,Q=>z.length≤sizeLine∧Q (.str (Txt.slice z lo hi)) C
 | .ref a,lo,hi,C,Q=>∃xs,C a=some (.lst xs)∧∀p,C p=none→Q (.ref p) (up C p (.lst (cut xs lo hi)))
 | _,_,_,_,_=>False
def eSl (a:WE)(lo hi:Sw→Hw→(Option Int→Hw→Prop)→WX→Prop):WE:=fun τ C Q χ=>a τ C (fun x C1=>lo τ C1 (fun l C2=>hi τ C2 (fun h C3=>wSl x l h C3 Q) χ) χ) χ
def bLen:List T→Hw→WK→Prop:=fun vs C Q=>∃x,vs=[x]∧match x with
 | .str z=>z.length≤sizeLine∧Q (.int z.length) C
 | .tup xs=>Q (.int xs.length) C
 | .cl xs=>Q (.int xs.length) C
 | .ref a=>∃xs,C a=some (.lst xs)∧Q (.int xs.length) C
 | _=>False
def bMax:List T→Hw→WK→Prop:=fun vs C Q=>∃i j,vs=[.int i,.int j]∧Q (.int (if j>i then j else i)) C
def bMin:List T→Hw→WK→Prop:=fun vs C Q=>∃i j,vs=[.int i,.int j]∧Q (.int (if j<i then j else i)) C
def Zg3:List T→Hw→WK→Prop:=fun vs C Q=>∃x,vs=[x]∧match x with
 | .tup xs=>Q (.tup xs) C
 | .cl xs=>Q (.tup xs) C
 | .ref a=>∃xs,C a=some (.lst xs)∧Q (.tup xs) C
 | _=>False
def Zqy:List T→Hw→WK→Prop:=fun vs C Q=>∃x,vs=[x]∧match x with
 | .tup xs=>∀p,C p=none→Q (.ref p) (up C p (.lst xs))
 | .cl xs=>∀p,C p=none→Q (.ref p) (up C p (.lst xs))
 | .ref a=>∃xs,C a=some (.lst xs)∧∀p,C p=none→Q (.ref p) (up C p (.lst xs))
 | _=>False
def tyN:T→Hw→String→Prop
 | .non,_,n=>n="NoneType"
 | .bl _,_,n=>n="bool"
 | .int _,_,n=>n="int"
 | .str _,_,n=>n="str"
 | .tup _,_,n=>n="tuple"
 | .cl _,_,n=>n="list"
 | .ref a,C,n=>(n="list"∧∃xs,C a=some (.lst xs))∨(n="dict"∧∃kvs,C a=some (.dic kvs))
def Zhb (n c:String):Bool:=n==c||(n=="bool"&&c=="int")
def eIsi (a:WE)(c:String):WE:=fun τ C Q χ=>a τ C (fun x C1=>∃n,tyN x C1 n∧Q (.bl (Zhb n c)) C1) χ
def tyL':T→Hw→Prop:=fun x C=>∃a xs,x=.ref a∧C a=some (.lst xs)
def tyS:T→Hw→Prop:=fun x _=>∃z,x=.str z
def Zaj:T→List T→Hw→WK→Prop:=fun x vs C Q=>∃a xs y,x=.ref a∧vs=[y]∧C a=some (.lst xs)∧xs.length<sizeLine∧Q .non (up C a (.lst (xs++[y])))
def mPop:T→List T→Hw→WK→Prop:=fun x vs C Q=>∃a xs y,x=.ref a∧vs=[]∧C a=some (.lst xs)∧xs[xs.length-1]?=some y∧Q y (up C a (.lst xs.dropLast))
def Z08:T→List T→Hw→WK→Prop:=fun x vs C Q=>∃a xs i k y,x=.ref a∧vs=[.int i]∧C a=some (.lst xs)∧ -(2^63)≤i∧i<2^63∧seqIndex? i xs.length=some k∧xs[k]?=some y∧Q y (up C a (.lst (xs.eraseIdx k)))
def gNm (i:Nat):WG:=fun v τ C Q _=>Q (τ.set i (some v)) C
def Zdg:WGs:=fun vs τ C Q _=>vs=[]∧Q τ C
def Xa (g:WG)(gs:WGs):WGs:=fun vs τ C Q χ=>∃v r,vs=v::r∧g v τ C (fun τ' C'=>gs r τ' C' Q χ) χ
def gTp (gs:WGs):WG:=fun v τ C Q χ=>∃xs,v=.tup xs∧gs xs τ C Q χ
def gSb (o i:WE):WG:=fun v τ C Q χ=>o τ C (fun x C1=>i τ C1 (fun y C2=>∃a xs k j,x=.ref a∧y=.int k∧C2 a=some (.lst xs)∧ixN xs.length k=some j∧Q τ (up C2 a (.lst (xs.set j v)))) χ) χ
def Yb:WS:=fun D τ C=>D.nx τ C
def Zr (a b:WS):WS:=fun D τ C=>a {D with nx:=b D} τ C
def Y7 (e:WE):WS:=fun D τ C=>e τ C (fun _ C1=>D.nx τ C1) D.xc
def Ym (e:WE):WS:=fun D τ C=>e τ C D.rt D.xc
def Zm8:WS:=fun D _ C=>D.rt .non C
def sIf (c:WT)(a b:WS):WS:=fun D τ C=>c τ C (fun k C1=>if k=true then a D τ C1 else b D τ C1) D.xc
def Z0 (e:WE)(g:WG):WS:=fun D τ C=>e τ C (fun x C1=>g x τ C1 D.nx D.xc) D.xc
def sBrk:WS:=fun D τ C=>D.bk τ C
def sCont:WS:=fun D τ C=>D.ct τ C
def Zou:WS:=fun _ _ _=>False
def forW (g:WG)(b:WS)(ok:Hw→Prop)(D:We):List T→Sw→Hw→Prop
 | [],τ,C=>ok C∧D.nx τ C
 | x::xs,τ,C=>ok C∧g x τ C (fun τ2 C2=>b {D with nx:=forW g b ok D xs,ct:=forW g b ok D xs,bk:=D.nx} τ2 C2) D.xc
def sFor (i:WI)(g:WG)(b:WS):WS:=fun D τ C=>i τ C (fun xs ok C1=>forW g b ok D xs τ C1) D.xc
def iSeq (e:WE):WI:=fun τ C R χ=>e τ C (fun v C1=>match v with
 | .tup xs=>R xs (fun _=>True) C1
 | .cl xs=>R xs (fun _=>True) C1
 | .str z=>R (z.cps.toList.map fun c=>T.str ⟨#[c]⟩) (fun _=>True) C1
 | .ref a=>∃xs,C1 a=some (.lst xs)∧R xs (fun C2=>C2 a=some (.lst xs)) C1
 | _=>False) χ
def rng (lo:Int)(n:Nat):List T:=(List.range n).map fun k:Nat=>T.int (lo+k)
def iR1 (a:WA):WI:=fun τ C R χ=>a τ C (fun vs C1=>∃j:Int,vs=[.int j]∧ -(2^62)≤j∧j<2^62∧R (rng 0 j.toNat) (fun _=>True) C1) χ
def iR2 (a:WA):WI:=fun τ C R χ=>a τ C (fun vs C1=>∃i j:Int,vs=[.int i,.int j]∧(-(2^62)≤i∧i<2^62∧ -(2^62)≤j∧j<2^62)∧R (rng i (j-i).toNat) (fun _=>True) C1) χ
def iEn (a:WA):WI:=fun τ C R χ=>a τ C (fun vs C1=>∃z,vs=[.str z]∧R (z.cps.toList.zipIdx.map fun c=>T.tup [.int c.2,.str ⟨#[c.1]⟩]) (fun _=>True) C1) χ
def capW (cap:List (Option Nat))(τ:Sw):Sw:=cap.map fun o=>o.bind fun i=>(τ[i]?).join
def tYes:WT:=fun _ C Q _=>Q true C
def Zgb (g:WG)(c:WT)(e:WE)(ok:Hw→Prop)(τ:Sw)(Q:List T→Hw→Prop)(χ:WX):List T→List T→Hw→Prop
 | [],acc,C=>ok C∧Q acc C
 | x::xs,acc,C=>ok C∧g x τ C (fun τ2 C2=>c τ2 C2 (fun b C3=>if b=true then e τ2 C3 (fun v C4=>acc.length<sizeLine∧Zgb g c e ok τ Q χ xs (acc++[v]) C4) χ else Zgb g c e ok τ Q χ xs acc C3) χ) χ
def Zci (cap:List (Option Nat))(i:WI)(g:WG)(c:WT)(e:WE):WE:=fun τ C Q χ=>i τ C (fun xs ok C1=>Zgb g c e ok (capW cap τ) (fun vs C2=>∀p,C2 p=none→Q (.ref p) (up C2 p (.lst vs))) χ xs [] C1) χ
structure Df where
 n:Nat
 ar:Nat
 body:Calls→WS
def wpc (pr:List Df):Nat→Calls
 | 0=>fun _ _ _ _ _=>False
 | n+1=>fun i vs C Q χ=>∃d,pr[i]?=some d∧vs.length=d.ar∧d.body (wpc pr n) (ZUD Q χ) (vs.map some++List.replicate (d.n-d.ar) none) C
section
variable {X:Cx}{pins:List (Addr×Obj)}{σ:L2.St}{H:Hp}{s:Shared}
def sc:T→Option V
 | .non=>some .non
 | .bl b=>some (.bl b)
 | .int i=>some (.int i)
 | .str z=>some (.str z)
 | _=>none
theorem Za3 {K:W.Frag}{H:Hp}{x z:V}{v:T}(h:sc v=some z)(r:Rep K H x v):x=z∧Zny z=true:=by
 cases v with
 | non=>cases h;exact⟨Zc9 r,rfl⟩
 | bl b=>cases h;exact⟨Zev r,rfl⟩
 | int i=>cases h;exact⟨Yg r,rfl⟩
 | str z=>cases h;exact⟨Jo r,rfl⟩
 | _=>cases h
theorem Zvd {v w:T}{a b:V}(h:sc v=some a)(h':sc w=some b):eqT v w=eqV a b:=by
 cases v<;>cases w<;>cases h<;>cases h'<;>unfold eqT<;>rfl
mutual
theorem Zd3:∀(v:T) {n:Nat},flat v n=true→eqT v v=true
 | .non,_,_=>by unfold eqT;rfl
 | .bl b,_,_=>by unfold eqT;simp
 | .int b,_,_=>by unfold eqT;simp
 | .str b,_,_=>by unfold eqT;simp
 | .tup xs,0,h=>by unfold flat at h;cases h
 | .tup xs,n+1,h=>by unfold flat at h;unfold eqT;exact Zks xs h
 | .ref a,_,h=>by unfold flat at h;cases h
 | .cl a,_,h=>by unfold flat at h;cases h
theorem Zks:∀(v:List T) {n:Nat},flats v n=true→eqTs v v=true
 | [],_,_=>by unfold eqTs;rfl
 | x::xs,n,h=>by
  unfold flats at h
  rw[Bool.and_eq_true] at h
  unfold eqTs
  rw[Zd3 x h.1,Zks xs h.2];rfl
end
theorem Zaa {v:T}{n:Nat}(h:flat v n=true)(e:sc v=none):∃ts m,v=.tup ts∧n=m+1∧flats ts m=true:=by
 cases v with
 | tup ts=>
  cases n with
  | zero=>unfold flat at h;cases h
  | succ m=>unfold flat at h;exact⟨ts,m,rfl,rfl,h⟩
 | ref a=>unfold flat at h;cases h
 | cl a=>unfold flat at h;cases h
 | non=>cases e
 | bl b=>cases e
 | int b=>cases e
 | str b=>cases e
theorem Zap:∀{vs:List T} {n i:Nat} {v:T},flats vs n=true→vs[i]?=some v→flat v n=true
 | [],_,_,_,_,e=>by simp at e
 | x::xs,n,0,v,h,e=>by
  unfold flats at h
  rw[Bool.and_eq_true] at h
  simp at e;subst e;exact h.1
 | x::xs,n,i+1,v,h,e=>by
  unfold flats at h
  rw[Bool.and_eq_true] at h
  exact Zap h.2 (by simpa using e)
theorem Zhq (I:Inv X pins σ H s):∀(n:Nat) {v w:T} {x:V},flat v n=true→flat w n=true→Rep X.K H x v→Rep X.K H x w→v=w:=by
 intro n
 induction n with
 | zero=>
  intro v w x fv fw rv rw'
  cases ev:sc v with
  | none=>obtain⟨_,_,_,h,_⟩:=Zaa fv ev;cases h
  | some a=>
   cases ew:sc w with
   | none=>obtain⟨_,_,_,h,_⟩:=Zaa fw ew;cases h
   | some b=>
    obtain⟨e1,_⟩:=Za3 ev rv
    obtain⟨e2,_⟩:=Za3 ew rw'
    have e:a=b:=e1.symm.trans e2
    subst e
    cases v<;>cases ev<;>cases w<;>cases ew<;>rfl
 | succ n ih=>
  intro v w x fv fw rv rw'
  have lists:∀{ys:List V} {vs ws:List T},flats vs n=true→flats ws n=true→Reps X.K H ys vs→Reps X.K H ys ws→vs=ws:=by
   intro ys vs
   induction vs generalizing ys with
   | nil=>
    intro ws _ _ a b
    have:=Zan a
    subst this
    cases ws with
    | nil=>rfl
    | cons w ws=>obtain⟨_,_,e,_⟩:=Jp b;cases e
   | cons v vs ihv=>
    intro ws fa fb a b
    obtain⟨y,r,rfl,a1,a2⟩:=Jp a
    cases ws with
    | nil=>have:=Zan b;cases this
    | cons w ws=>
     obtain⟨y',r',e,b1,b2⟩:=Jp b
     cases e
     unfold flats at fa fb
     rw[Bool.and_eq_true] at fa fb
     rw[ih fa.1 fb.1 a1 b1,ihv fa.2 fb.2 a2 b2]
  cases ev:sc v with
  | none=>
   obtain⟨ts,m,rfl,em,ft⟩:=Zaa fv ev
   cases em
   obtain⟨a,ys,rfl,hq,r⟩:=Yf rv
   cases ew:sc w with
   | none=>
    obtain⟨us,m',rfl,em,fu⟩:=Zaa fw ew
    cases em
    obtain⟨b,zs,e,hq',r'⟩:=Yf rw'
    cases e
    have e:=I.tuple_inj hq hq'
    subst e
    rw[lists ft fu r r']
   | some b=>
    obtain⟨e2,f⟩:=Za3 ew rw'
    subst e2
    cases f
  | some a=>
   obtain⟨e1,f⟩:=Za3 ev rv
   cases ew:sc w with
   | none=>
    obtain⟨us,m',rfl,em,fu⟩:=Zaa fw ew
    obtain⟨b,zs,e,hq',r'⟩:=Yf rw'
    subst e1
    subst e
    cases f
   | some b=>
    obtain⟨e2,_⟩:=Za3 ew rw'
    have e:a=b:=e1.symm.trans e2
    subst e
    cases v<;>cases ev<;>cases w<;>cases ew<;>rfl
def eqJ (ts us:List T)(j:Nat):Bool:=match ts[j]?,us[j]? with
 | some a,some b=>eqT a b
 | _,_=>true
theorem Zb7:∀(vs ws:List T),((List.range (min vs.length ws.length)).all (eqJ vs ws)&&vs.length==ws.length)=eqTs vs ws
 | [],[]=>by unfold eqTs;rfl
 | [],_::_=>by unfold eqTs;simp
 | _::_,[]=>by unfold eqTs;simp
 | v::vs,w::ws=>by
  unfold eqTs
  rw[←Zb7 vs ws]
  rw[YF,YF,show min (vs.length+1) (ws.length+1)=min vs.length ws.length+1 by omega,List.range_succ_eq_map,List.all_cons,List.all_map]
  have e1:eqJ (v::vs) (w::ws) 0=eqT v w:=rfl
  have e2:(eqJ (v::vs) (w::ws)∘Nat.succ)=eqJ vs ws:=by funext j;simp[Function.comp_def,eqJ]
  rw[e1,e2]
  simp[Bool.and_assoc]
theorem Zn0 (I:Inv X pins σ H s):∀(n:Nat) {v w:T} {x y:V} {u u':Value} {A:Around},flat v n=true→flat w n=true→Rep X.K H x v→Rep X.K H y w→Z3 x u→Z3 y u'→A.units+n<cLine→
  SeqAt.EqAt A s u u' (eqT v w):=by
 intro n
 induction n with
 | zero=>
  intro v w x y u u' A fv fw rv rw' ru ru' hu
  cases ev:sc v with
  | none=>obtain⟨_,_,_,h,_⟩:=Zaa fv ev;cases h
  | some a=>
   cases ew:sc w with
   | none=>obtain⟨_,_,_,h,_⟩:=Zaa fw ew;cases h
   | some b=>
    obtain⟨rfl,f1⟩:=Za3 ev rv
    obtain⟨rfl,f2⟩:=Za3 ew rw'
    rw[Zvd ev ew]
    exact Zve ru ru' f1 f2
 | succ n ih=>
  intro v w x y u u' A fv fw rv rw' ru ru' hu
  have hu0:A.units<cLine:=by omega
  cases ev:sc v with
  | some a=>
   obtain⟨rfl,f1⟩:=Za3 ev rv
   cases ew:sc w with
   | some b=>
    obtain⟨rfl,f2⟩:=Za3 ew rw'
    rw[Zvd ev ew]
    exact Zve ru ru' f1 f2
   | none=>
    obtain⟨ts,m,rfl,em,ft⟩:=Zaa fw ew
    obtain⟨b,zs,rfl,hq,r⟩:=Yf rw'
    cases ru'
    obtain⟨its,_,p,_⟩:=I.tuple hq
    cases v with
    | non=>cases ev;cases ru;unfold eqT;exact SeqAt.EqAt.none_tuple p hu0
    | bl c=>cases ev;cases ru;unfold eqT;exact SeqAt.EqAt.bool_tuple c p hu0
    | int i=>cases ev;obtain⟨t,rfl⟩:=ru;unfold eqT;exact SeqAt.EqAt.int_tuple i t p hu0
    | str i=>cases ev;obtain⟨t,rfl⟩:=ru;unfold eqT;exact SeqAt.EqAt.str_tuple i t p hu0
    | _=>cases ev
  | none=>
   obtain⟨ts,m,rfl,em,ft⟩:=Zaa fv ev
   cases em
   obtain⟨a,ys,rfl,hq,r⟩:=Yf rv
   cases ru
   obtain⟨its,rI,p,_⟩:=I.tuple hq
   cases ew:sc w with
   | some b=>
    obtain⟨rfl,f2⟩:=Za3 ew rw'
    cases w with
    | non=>cases ew;cases ru';unfold eqT;exact SeqAt.EqAt.tuple_none p hu0
    | bl c=>cases ew;cases ru';unfold eqT;exact SeqAt.EqAt.tuple_bool c p hu0
    | int i=>cases ew;obtain⟨t,rfl⟩:=ru';unfold eqT;exact SeqAt.EqAt.tuple_int i t p hu0
    | str i=>cases ew;obtain⟨t,rfl⟩:=ru';unfold eqT;exact SeqAt.EqAt.tuple_str i t p hu0
    | _=>cases ew
   | none=>
    obtain⟨us,m',rfl,em,fu⟩:=Zaa fw ew
    cases em
    obtain⟨b,zs,rfl,hq',r'⟩:=Yf rw'
    cases ru'
    obtain⟨its',rI',p',_⟩:=I.tuple hq'
    by_cases hne:a=b
    ·subst hne
     have e:=Zhq I (n+1) fv fw (Zab hq r) (Zab hq' r')
     rw[e,Zd3 _ fw]
     exact SeqAt.EqAt.same _
    ·have l1:its.toArray.size=ts.length:=by rw[XJ,←rI.length,r.length]
     have l2:its'.toArray.size=us.length:=by rw[XJ,←rI'.length,r'.length]
     have key:=SeqAt.EqAt.of_refs hne (SeqAt.RcAt.tuples (A:=A) (e:=eqJ ts us) p p' hu0 (fun j h1 h2=>by
      have i1:ts[j]?=some (ts[j]'(by omega)):=by simp[l1▸h1]
      have i2:us[j]?=some (us[j]'(by omega)):=by simp[l2▸h2]
      obtain⟨x1,g1,q1⟩:=r.get i1
      obtain⟨x2,g2,q2⟩:=r'.get i2
      obtain⟨u1,k1,z1⟩:=rI.get g1
      obtain⟨u2,k2,z2⟩:=rI'.get g2
      have e1:its.toArray[j]=u1:=by
       have:its[j]?=some its.toArray[j]:=by simp
       rw[k1] at this;exact(YH this).symm
      have e2:its'.toArray[j]=u2:=by
       have:its'[j]?=some its'.toArray[j]:=by simp
       rw[k2] at this;exact(YH this).symm
      rw[e1,e2]
      unfold eqJ
      simp only[i1,i2]
      exact ih (Zap ft i1) (Zap fu i2) q1 q2 z1 z2 (by show A.units+1+n<cLine;omega)))
     rw[l1,l2,Zb7] at key
     unfold eqT
     exact key
end
def RepS (K:W.Frag)(H:Hp)(σ:L2.St)(τ:Sw):Prop:=σ.length=τ.length∧∀(i:Nat) (v:T),τ[i]?=some (some v)→∃x,σ[i]?=some (some x)∧Rep K H x v
theorem RepS.tx {K:W.Frag}{H H':Hp}{σ:L2.St}{τ:Sw}(h:RepS K H σ τ)(t:Tx H H'):RepS K H' σ τ:=⟨h.1,fun i v e=>let ⟨x,a,b⟩:=h.2 i v e;⟨x,a,b.tx t⟩⟩
theorem RepS.set {K:W.Frag}{H:Hp}{σ:L2.St}{τ:Sw}(h:RepS K H σ τ){i:Nat}{x:V}{v:T}(r:Rep K H x v):RepS K H (σ.set i (some x)) (τ.set i (some v)):=by
 refine⟨by rw[List.length_set,List.length_set];exact h.1,fun j w e=>?_⟩
 by_cases hj:i=j
 ·subst hj
  by_cases hi:i<τ.length
  ·rw[List.getElem?_set_self hi] at e
   cases e
   exact⟨x,List.getElem?_set_self (by rw[h.1];exact hi),r⟩
  ·rw[List.getElem?_eq_none (by rw[List.length_set];omega)] at e
   cases e
 ·rw[List.getElem?_set_ne hj] at e ⊢
  exact h.2 j w e
abbrev QE (K:W.Frag)(F H:Hp)(Q:VK)(Q':WK):Prop:=∀x v H' C',Rl K F H' C'→Tx H H'→Rep K H' x v→Q' v C'→Q x H'
abbrev QT (K:W.Frag)(F H:Hp)(Q:Bool→Hp→Prop)(Q':Bool→Hw→Prop):Prop:=∀b H' C',Rl K F H' C'→Tx H H'→Q' b C'→Q b H'
abbrev QA (K:W.Frag)(F H:Hp)(Q:List V→Hp→Prop)(Q':List T→Hw→Prop):Prop:=∀xs vs H' C',Rl K F H' C'→Tx H H'→Reps K H' xs vs→Q' vs C'→Q xs H'
theorem QE.at {K:W.Frag}{F H H1:Hp}{Q:VK}{Q':WK}(q:QE K F H Q Q')(t:Tx H H1):QE K F H1 Q Q':=fun x v H' C' R t'=>q x v H' C' R (t.trans t')
def SimE (K:W.Frag)(te:TE)(we:WE):Prop:=∀(F H:Hp) (C:Hw) (σ:L2.St) (τ:Sw) (Q:VK) (Q':WK) (χ:WX),Rl K F H C→RepS K H σ τ→we τ C Q' χ→QE K F H Q Q'→te σ H Q
def SimT (K:W.Frag)(te:TT)(we:WT):Prop:=∀(F H:Hp) (C:Hw) (σ:L2.St) (τ:Sw) (Q:Bool→Hp→Prop) (Q':Bool→Hw→Prop) (χ:WX),Rl K F H C→RepS K H σ τ→we τ C Q' χ→QT K F H Q Q'→te σ H Q
def SimA (K:W.Frag)(te:TA)(we:WA):Prop:=∀(F H:Hp) (C:Hw) (σ:L2.St) (τ:Sw) (Q:List V→Hp→Prop) (Q':List T→Hw→Prop) (χ:WX),Rl K F H C→RepS K H σ τ→we τ C Q' χ→QA K F H Q Q'→te σ H Q
def SimR (K:W.Frag)(r:R2)(w:W2):Prop:=∀(F H:Hp) (C:Hw) (x y:V) (v u:T) (Q:VK) (Q':WK),Rl K F H C→Rep K H x v→Rep K H y u→w v u C Q'→QE K F H Q Q'→r x y H Q
def SimB (K:W.Frag)(r:List V→Hp→VK→Prop)(w:List T→Hw→WK→Prop):Prop:=∀(F H:Hp) (C:Hw) (xs:List V) (vs:List T) (Q:VK) (Q':WK),Rl K F H C→Reps K H xs vs→w vs C Q'→QE K F H Q Q'→r xs H Q
def SimM (K:W.Frag)(r:V→List V→Hp→VK→Prop)(w:T→List T→Hw→WK→Prop):Prop:=∀(F H:Hp) (C:Hw) (x:V) (v:T) (xs:List V) (vs:List T) (Q:VK) (Q':WK),Rl K F H C→Rep K H x v→Reps K H xs vs→w v vs C Q'→QE K F H Q Q'→r x xs H Q
def SimU (K:W.Frag)(r:V→Hp→VK→Prop)(w:T→Hw→WK→Prop):Prop:=∀(F H:Hp) (C:Hw) (x:V) (v:T) (Q:VK) (Q':WK),Rl K F H C→Rep K H x v→w v C Q'→QE K F H Q Q'→r x H Q
def SdE (X:Cx)(e:Expr)(w:WE):Prop:=∃t,PE X e t∧SimE X.K t w
def SdT (X:Cx)(e:Expr)(w:WT):Prop:=∃t,PT X e t∧SimT X.K t w
def SdW (X:Cx)(e:Expr)(w:WT):Prop:=∃t,PW X e t∧SimT X.K t w
def SdA (X:Cx)(es:List Expr)(w:WA):Prop:=∃t,PA X es t∧SimA X.K t w
def OpS (X:Cx)(f:Value→Value→Sem Value)(w:W2):Prop:=∃r,OpR X f r∧SimR X.K r w
def IxS (X:Cx)(w:W2):Prop:=∃r,IxR X r∧SimR X.K r w
def Zgf (X:Cx)(f:Value)(w:List T→Hw→WK→Prop):Prop:=∃r,Zbn X f r∧SimB X.K r w
def MtS (X:Cx)(id:String)(w:T→List T→Hw→WK→Prop):Prop:=∃r,MtR X id r∧SimM X.K r w
section
variable {K:W.Frag}{ta tb tc:TE}{wa wb wc:WE}{r r':R2}{w w':W2}
theorem s_var {i:Nat}:SimE K (tVar i) (Zd i):=fun F H C σ τ Q Q' χ R S h q=>by
 obtain⟨v,e,h⟩:=h
 obtain⟨x,ex,rx⟩:=S.2 i v e
 exact⟨x,ex,q x v H C R (Tx.refl H) rx h⟩
theorem s_c {x:V}{v:T}(h:∀H,Rep K H x v):SimE K (tC x) (eC v):=fun F H C σ τ Q Q' χ R S w q=>q x v H C R (Tx.refl H) (h H) w
theorem s_op (ha:SimE K ta wa)(hb:SimE K tb wb)(hr:SimR K r w):SimE K (tOp r ta tb) (Zf w wa wb):=fun F H C σ τ Q Q' χ R S h q=>by
 refine ha F H C σ τ _ _ χ R S h fun x v H1 C1 R1 t1 rx h1=>?_
 refine hb F H1 C1 σ τ _ _ χ R1 (S.tx t1) h1 fun y u H2 C2 R2 t2 ry h2=>?_
 exact hr F H2 C2 x y v u Q Q' R2 (rx.tx t2) ry h2 (QE.at q (t1.trans t2))
theorem s_un {r:V→Hp→VK→Prop}{w:T→Hw→WK→Prop}(ha:SimE K ta wa)(hr:SimU K r w):SimE K (tUn r ta) (eUn w wa):=fun F H C σ τ Q Q' χ R S h q=>by
 refine ha F H C σ τ _ _ χ R S h fun x v H1 C1 R1 t1 rx h1=>?_
 exact hr F H1 C1 x v Q Q' R1 rx h1 (QE.at q t1)
theorem s_nil:SimA K tNil Zg:=fun F H C σ τ Q Q' χ R S h q=>q [] [] H C R (Tx.refl H) Jx h
theorem Zzz {t:TA}{wt:WA}(ha:SimE K ta wa)(hb:SimA K t wt):SimA K (Zsv ta t) (Zb wa wt):=fun F H C σ τ Q Q' χ R S h q=>by
 refine ha F H C σ τ _ _ χ R S h fun x v H1 C1 R1 t1 rx h1=>?_
 exact hb F H1 C1 σ τ _ _ χ R1 (S.tx t1) h1 fun xs vs H2 C2 R2 t2 rs h2=>q (x::xs) (v::vs) H2 C2 R2 (t1.trans t2) (Yp (rx.tx t2) rs) h2
theorem s_tup {t:TA}{wt:WA}(ha:SimA K t wt):SimE K (tTup t) (Zy wt):=fun F H C σ τ Q Q' χ R S h q=>by
 refine ha F H C σ τ _ _ χ R S h fun xs vs H1 C1 R1 t1 rs h1=>⟨by rw[rs.length];exact h1.1,fun p hp=>?_⟩
 exact q _ _ _ C1 (R1.hid hp) (t1.trans (Tx.new hp)) (Zab (SqT.of Yh) (rs.tx (Tx.new hp))) h1.2
theorem s_lst {t:TA}{wt:WA}(ha:SimA K t wt):SimE K (tLst t) (eLst wt):=fun F H C σ τ Q Q' χ R S h q=>by
 refine ha F H C σ τ _ _ χ R S h fun xs vs H1 C1 R1 t1 rs h1=>⟨by rw[rs.length];exact h1.1,fun p hp=>?_⟩
 exact q _ _ _ _ (R1.newL hp rs) (t1.trans (Tx.new hp)) J0 (h1.2 p (R1.free hp))
theorem s_bi {r:List V→Hp→VK→Prop}{w:List T→Hw→WK→Prop}{t:TA}{wt:WA}(hr:SimB K r w)(ha:SimA K t wt):SimE K (tCB r t) (eBi w wt):=fun F H C σ τ Q Q' χ R S h q=>by
 refine ha F H C σ τ _ _ χ R S h fun xs vs H1 C1 R1 t1 rs h1=>?_
 exact hr F H1 C1 xs vs Q Q' R1 rs h1 (QE.at q t1)
theorem s_if {tt:TT}{wt:WT}(hc:SimT K tt wt)(ha:SimE K ta wa)(hb:SimE K tb wb):SimE K (tIf tt ta tb) (eIf wt wa wb):=fun F H C σ τ Q Q' χ R S h q=>by
 refine hc F H C σ τ _ _ χ R S h fun k H1 C1 R1 t1 h1=>?_
 cases k with
 | true=>exact ha F H1 C1 σ τ Q Q' χ R1 (S.tx t1) h1 (QE.at q t1)
 | false=>exact hb F H1 C1 σ τ Q Q' χ R1 (S.tx t1) h1 (QE.at q t1)
theorem s_and (ha:SimE K ta wa)(hb:SimE K tb wb):SimE K (Zyv ta tb) (eAnd wa wb):=fun F H C σ τ Q Q' χ R S h q=>by
 refine ha F H C σ τ _ _ χ R S h fun x v H1 C1 R1 t1 rx h1=>?_
 obtain⟨k,rfl,h1⟩:=h1
 refine⟨k,Zev rx,?_⟩
 cases k with
 | true=>exact hb F H1 C1 σ τ Q Q' χ R1 (S.tx t1) h1 (QE.at q t1)
 | false=>exact q _ _ H1 C1 R1 t1 Jn h1
theorem s_bl (ha:SimE K ta wa):SimT K (Zyt ta) (tBl wa):=fun F H C σ τ Q Q' χ R S h q=>by
 refine ha F H C σ τ _ _ χ R S h fun x v H1 C1 R1 t1 rx h1=>?_
 obtain⟨k,rfl,h1⟩:=h1
 exact⟨k,Zev rx,q k H1 C1 R1 t1 h1⟩
theorem s_tru (ha:SimE K ta wa):SimT K (fun σ H Q=>ta σ H fun x H'=>∃k,TruV K x H' k∧Q k H') (tTru wa):=fun F H C σ τ Q Q' χ R S h q=>by
 refine ha F H C σ τ _ _ χ R S h fun x v H1 C1 R1 t1 rx h1=>?_
 obtain⟨k,hk,h1⟩:=h1
 refine⟨k,?_,q k H1 C1 R1 t1 h1⟩
 have emp:∀{ys:List V} {xs:List T},Reps K H1 ys xs→ys.isEmpty=xs.isEmpty:=fun {ys xs} r=>by
  have:=r.length
  cases ys<;>cases xs<;>simp_all
 cases v with
 | non=>cases Zc9 rx;exact hk
 | bl b=>cases Zev rx;exact hk
 | int i=>cases Yg rx;exact hk
 | str z=>cases Jo rx;exact hk
 | tup xs=>
  obtain⟨a,ys,rfl,hq,r⟩:=Yf rx
  refine .inr (.inl ⟨ys,hq,?_⟩)
  rw[emp r];exact hk
 | cl xs=>
  obtain⟨a,ys,rfl,hq,r⟩:=Zdw rx
  refine .inl ⟨ys,hq.sq,?_⟩
  rw[emp r];exact hk
 | ref a=>
  cases Z1 rx
  rcases hk with⟨xs,hx,e⟩ | ⟨kvs,hx,e⟩
  ·obtain⟨ys,hy,r⟩:=R1.lst hx
   refine .inl ⟨ys,SqL.of hy,?_⟩
   rw[emp r];exact e
  ·obtain⟨ks,hy,r⟩:=R1.obj a _ hx
   refine .inr (.inr ⟨ks,hy,?_⟩)
   have:=Paired.length r
   rw[e]
   cases ks<;>cases kvs<;>simp_all
theorem s_an {t u:TT}{w w':WT}(ha:SimT K t w)(hb:SimT K u w'):SimT K (tAnd t u) (tAn w w'):=fun F H C σ τ Q Q' χ R S h q=>by
 refine ha F H C σ τ _ _ χ R S h fun k H1 C1 R1 t1 h1=>?_
 cases k with
 | true=>exact hb F H1 C1 σ τ Q Q' χ R1 (S.tx t1) h1 fun b H' C' R' t'=>q b H' C' R' (t1.trans t')
 | false=>exact q _ H1 C1 R1 t1 h1
theorem s_or' {t u:TT}{w w':WT}(ha:SimT K t w)(hb:SimT K u w'):SimT K (tOr t u) (tOr' w w'):=fun F H C σ τ Q Q' χ R S h q=>by
 refine ha F H C σ τ _ _ χ R S h fun k H1 C1 R1 t1 h1=>?_
 cases k with
 | true=>exact q _ H1 C1 R1 t1 h1
 | false=>exact hb F H1 C1 σ τ Q Q' χ R1 (S.tx t1) h1 fun b H' C' R' t'=>q b H' C' R' (t1.trans t')
theorem s_no {t:TT}{w:WT}(ha:SimT K t w):SimT K (tNot t) (tNo w):=fun F H C σ τ Q Q' χ R S h q=>by
 refine ha F H C σ τ _ _ χ R S h fun k H1 C1 R1 t1 h1=>?_
 exact q _ H1 C1 R1 t1 h1
end
section
variable {X:Cx}
theorem Zaf:OpS X (binaryOp .Add) wAdd:=⟨_,Zo3.or (Zo2.or (Z0x.or (Zt0.or Zxk))),fun F H C x y v u Q Q' R rx ry h q=>by
 cases v<;>cases u<;>first | exact False.elim h | skip
 case int.int i j=>cases Yg rx;cases Yg ry;exact .inl ⟨i,j,rfl,rfl,q _ _ H C R (Tx.refl H) Xf h⟩
 case str.str i j=>cases Jo rx;cases Jo ry;exact .inr (.inl ⟨i,j,rfl,rfl,h.1,q _ _ H C R (Tx.refl H) J2 h.2⟩)
 case ref.ref a b=>
  cases Z1 rx;cases Z1 ry
  obtain⟨xs,ys,ha,hb,hl,h⟩:=h
  obtain⟨zs,hz,rz⟩:=R.lst ha
  obtain⟨ws,hw,rw'⟩:=R.lst hb
  exact .inr (.inr (.inl ⟨a,b,zs,ws,rfl,rfl,hz,hw,by rw[rz.length,rw'.length];exact hl,fun p hp=>q _ _ _ _ (R.newL hp (rz.app rw')) (Tx.new hp) J0 (h p (R.free hp))⟩))
 case tup.tup xs ys=>
  obtain⟨a,zs,rfl,hz,rz⟩:=Yf rx
  obtain⟨b,ws,rfl,hw,rw'⟩:=Yf ry
  by_cases e:zs=[]
  ·subst e
   have e2:xs=[]:=by
    have:=rz.length
    cases xs with
    | nil=>rfl
    | cons _ _=>cases this
   subst e2
   exact .inr (.inr (.inr (.inl ⟨a,b,ws,rfl,rfl,hz,hw,q _ _ H C R (Tx.refl H) (Zab hw rw') h.2⟩)))
  ·refine .inr (.inr (.inr (.inr ⟨a,b,zs,ws,rfl,rfl,hz,hw,e,by rw[rz.length,rw'.length];exact h.1,fun e2=>?_,fun e2 p hp=>?_⟩)))
   ·subst e2
    have e3:ys=[]:=by
     have:=rw'.length
     cases ys with
     | nil=>rfl
     | cons _ _=>cases this
    subst e3
    refine q _ _ H C R (Tx.refl H) (Zab hz rz) ?_
    have:=h.2
    rw[YK] at this
    exact this
   ·exact q _ _ _ C (R.hid hp) (Tx.new hp) (Zab (SqT.of Yh) ((rz.app rw').tx (Tx.new hp))) h.2⟩
theorem Zkf:OpS X (binaryOp .Sub) wSub:=⟨_,Z0s,fun F H C x y v u Q Q' R rx ry h q=>by
 cases v<;>cases u<;>first | exact False.elim h | skip
 case int.int i j=>cases Yg rx;cases Yg ry;exact⟨i,j,rfl,rfl,q _ _ H C R (Tx.refl H) Xf h⟩⟩
theorem Znf:OpS X (binaryOp .Mult) wMul:=⟨_,Z0u,fun F H C x y v u Q Q' R rx ry h q=>by
 cases v<;>cases u<;>first | exact False.elim h | skip
 case int.int i j=>cases Yg rx;cases Yg ry;exact⟨i,j,rfl,rfl,h.1,q _ _ H C R (Tx.refl H) Xf h.2⟩⟩
theorem Zkg:OpS X (binaryOp .FloorDiv) wDiv:=⟨_,Zxj,fun F H C x y v u Q Q' R rx ry h q=>by
 cases v<;>cases u<;>first | exact False.elim h | skip
 case int.int i j=>cases Yg rx;cases Yg ry;exact⟨i,j,rfl,rfl,h.1,q _ _ H C R (Tx.refl H) Xf h.2⟩⟩
theorem X1:OpS X (binaryOp .Mod) wMod:=⟨_,Z0v,fun F H C x y v u Q Q' R rx ry h q=>by
 cases v<;>cases u<;>first | exact False.elim h | skip
 case int.int i j=>cases Yg rx;cases Yg ry;exact⟨i,j,rfl,rfl,h.1,q _ _ H C R (Tx.refl H) Xf h.2⟩⟩
theorem Zg6:OpS X (binaryOp .Pow) wPow:=⟨_,Z0t,fun F H C x y v u Q Q' R rx ry h q=>by
 cases v<;>cases u<;>first | exact False.elim h | skip
 case int.int i j=>cases Yg rx;cases Yg ry;exact⟨i,j,rfl,rfl,h.1,q _ _ H C R (Tx.refl H) Xf h.2⟩⟩
theorem o_lt:OpS X (compareOp .Lt) wLt:=⟨_,op_lt.or Zrm,fun F H C x y v u Q Q' R rx ry h q=>by
 cases v<;>cases u<;>first | exact False.elim h | skip
 case int.int i j=>cases Yg rx;cases Yg ry;exact .inl ⟨i,j,rfl,rfl,q _ _ H C R (Tx.refl H) Jn h⟩
 case str.str i j=>cases Jo rx;cases Jo ry;exact .inr ⟨i,j,rfl,rfl,q _ _ H C R (Tx.refl H) Jn h⟩⟩
theorem o_le:OpS X (compareOp .LtE) wLe:=⟨_,op_le,fun F H C x y v u Q Q' R rx ry h q=>by
 cases v<;>cases u<;>first | exact False.elim h | skip
 case int.int i j=>cases Yg rx;cases Yg ry;exact⟨i,j,rfl,rfl,q _ _ H C R (Tx.refl H) Jn h⟩⟩
theorem o_gt:OpS X (compareOp .Gt) wGt:=⟨_,op_gt,fun F H C x y v u Q Q' R rx ry h q=>by
 cases v<;>cases u<;>first | exact False.elim h | skip
 case int.int i j=>cases Yg rx;cases Yg ry;exact⟨i,j,rfl,rfl,q _ _ H C R (Tx.refl H) Jn h⟩⟩
def rDir (X:Cx)(f:Value→Value→Sem Value):R2:=fun x y H Q=>∀(pins:List (Addr×Obj)) (s:Shared) (σ:L2.St) (v u:Value),Inv X pins σ H s→Z3 x v→Z3 y u→wpAny (model X.prog X.w) X.A (f v u) (EP X pins σ Q) X.xe s
theorem Zil {f:Value→Value→Sem Value}:OpR X f (rDir X f):=fun pins s σ H x y v u Q I rx ry h=>h pins s σ v u I rx ry
theorem Zns {pins:List (Addr×Obj)}{σ:L2.St}{H:Hp}{s:Shared}{A:Around}{n:Nat}{ts us:List T}{ys zs:List V}{its its':List Value}(I:Inv X pins σ H s)(r:Reps X.K H ys ts)(r':Reps X.K H zs us)(rI:Vals ys its)(rI':Vals zs its')
  (f:flats ts n=true) (f':flats us n=true) (hu:A.units+n<cLine):
  ∀j (h1:j<its.toArray.size) (h2:j<its'.toArray.size),SeqAt.EqAt A s its.toArray[j] its'.toArray[j] (eqJ ts us j):=fun j h1 h2=>by
 have l1:its.toArray.size=ts.length:=by rw[XJ,←rI.length,r.length]
 have l2:its'.toArray.size=us.length:=by rw[XJ,←rI'.length,r'.length]
 have i1:ts[j]?=some (ts[j]'(by omega)):=by simp[l1▸h1]
 have i2:us[j]?=some (us[j]'(by omega)):=by simp[l2▸h2]
 obtain⟨x1,g1,q1⟩:=r.get i1
 obtain⟨x2,g2,q2⟩:=r'.get i2
 obtain⟨u1,k1,z1⟩:=rI.get g1
 obtain⟨u2,k2,z2⟩:=rI'.get g2
 have e1:its.toArray[j]=u1:=by
  have:its[j]?=some its.toArray[j]:=by simp
  rw[k1] at this;exact(YH this).symm
 have e2:its'.toArray[j]=u2:=by
  have:its'[j]?=some its'.toArray[j]:=by simp
  rw[k2] at this;exact(YH this).symm
 rw[e1,e2]
 unfold eqJ
 simp only[i1,i2]
 exact Zn0 I n (Zap f i1) (Zap f' i2) q1 q2 z1 z2 hu
theorem Zvc {vs ws:List T}(h:vs.length≠ws.length):eqTs vs ws=false:=by
 rw[←Zb7,show(vs.length==ws.length)=false from beq_eq_false_iff_ne.mpr h,Bool.and_false]
theorem Zr8 {vs ws:List T}(h:vs.length=ws.length):(List.range vs.length).all (eqJ vs ws)=eqTs vs ws:=by
 rw[←Zb7,h,Nat.min_self,XU,Bool.and_true]
theorem rcT {pins:List (Addr×Obj)}{σ:L2.St}{H:Hp}{s:Shared}{v w:T}{x y:V}{u u':Value}{A:Around}{n:Nat}(I:Inv X pins σ H s)(fv:flat v n=true)(fw:flat w n=true)(rv:Rep X.K H x v)(rw':Rep X.K H y w)
  (ru:Z3 x u) (ru':Z3 y u') (hu:A.units+n+1<cLine):SeqAt.RcAt A s u u' (eqT v w)∧SeqAt.RcNeAt A s u u' (!eqT v w):=by
 have hu0:A.units<cLine:=by omega
 cases ev:sc v with
 | some a=>
  obtain⟨rfl,f1⟩:=Za3 ev rv
  cases ew:sc w with
  | some b=>
   obtain⟨rfl,f2⟩:=Za3 ew rw'
   cases v with
   | non=>
    cases ev;cases ru
    cases w with
    | non=>cases ew;cases ru';unfold eqT;exact⟨.none_none,.none_none⟩
    | bl c=>cases ew;cases ru';unfold eqT;exact⟨.none_bool c,.none_bool c⟩
    | int c=>cases ew;obtain⟨t,rfl⟩:=ru';unfold eqT;exact⟨.none_int c t,.none_int c t⟩
    | str c=>cases ew;obtain⟨t,rfl⟩:=ru';unfold eqT;exact⟨.none_str c t,.none_str c t⟩
    | _=>cases ew
   | bl d=>
    cases ev;cases ru
    cases w with
    | non=>cases ew;cases ru';unfold eqT;exact⟨.bool_none d,.bool_none d⟩
    | bl c=>cases ew;cases ru';unfold eqT;exact⟨.bool_bool d c,.bool_bool d c⟩
    | int c=>cases ew;obtain⟨t,rfl⟩:=ru';unfold eqT;exact⟨.bool_int d c t,.bool_int d c t⟩
    | str c=>cases ew;obtain⟨t,rfl⟩:=ru';unfold eqT;exact⟨.bool_str d c t,.bool_str d c t⟩
    | _=>cases ew
   | int d=>
    cases ev;obtain⟨t',rfl⟩:=ru
    cases w with
    | non=>cases ew;cases ru';unfold eqT;exact⟨.int_none d t',.int_none d t'⟩
    | bl c=>cases ew;cases ru';unfold eqT;exact⟨.int_bool d t' c,.int_bool d t' c⟩
    | int c=>cases ew;obtain⟨t,rfl⟩:=ru';unfold eqT;exact⟨.int_int d t' c t,.int_int d t' c t⟩
    | str c=>cases ew;obtain⟨t,rfl⟩:=ru';unfold eqT;exact⟨.int_str d t' c t,.int_str d t' c t⟩
    | _=>cases ew
   | str d=>
    cases ev;obtain⟨t',rfl⟩:=ru
    cases w with
    | non=>cases ew;cases ru';unfold eqT;exact⟨.str_none d t',.str_none d t'⟩
    | bl c=>cases ew;cases ru';unfold eqT;exact⟨.str_bool d t' c,.str_bool d t' c⟩
    | int c=>cases ew;obtain⟨t,rfl⟩:=ru';unfold eqT;exact⟨.str_int d t' c t,.str_int d t' c t⟩
    | str c=>cases ew;obtain⟨t,rfl⟩:=ru';unfold eqT;exact⟨.str_str d t' c t,.str_str d t' c t⟩
    | _=>cases ew
   | _=>cases ev
  | none=>
   obtain⟨ts,m,rfl,em,ft⟩:=Zaa fw ew
   obtain⟨b,zs,rfl,hq,r⟩:=Yf rw'
   cases ru'
   obtain⟨its,_,p,_⟩:=I.tuple hq
   cases v with
   | non=>cases ev;cases ru;unfold eqT;exact⟨.none_tuple p hu0,.none_tuple p hu0⟩
   | bl c=>cases ev;cases ru;unfold eqT;exact⟨.bool_tuple c p hu0,.bool_tuple c p hu0⟩
   | int i=>cases ev;obtain⟨t,rfl⟩:=ru;unfold eqT;exact⟨.int_tuple i t p hu0,.int_tuple i t p hu0⟩
   | str i=>cases ev;obtain⟨t,rfl⟩:=ru;unfold eqT;exact⟨.str_tuple i t p hu0,.str_tuple i t p hu0⟩
   | _=>cases ev
 | none=>
  obtain⟨ts,m,rfl,em,ft⟩:=Zaa fv ev
  subst em
  obtain⟨a,ys,rfl,hq,r⟩:=Yf rv
  cases ru
  obtain⟨its,rI,p,_⟩:=I.tuple hq
  cases ew:sc w with
  | some b=>
   obtain⟨rfl,f2⟩:=Za3 ew rw'
   cases w with
   | non=>cases ew;cases ru';unfold eqT;exact⟨.tuple_none p hu0,.tuple_none p hu0⟩
   | bl c=>cases ew;cases ru';unfold eqT;exact⟨.tuple_bool c p hu0,.tuple_bool c p hu0⟩
   | int i=>cases ew;obtain⟨t,rfl⟩:=ru';unfold eqT;exact⟨.tuple_int i t p hu0,.tuple_int i t p hu0⟩
   | str i=>cases ew;obtain⟨t,rfl⟩:=ru';unfold eqT;exact⟨.tuple_str i t p hu0,.tuple_str i t p hu0⟩
   | _=>cases ew
  | none=>
   obtain⟨us,m',rfl,em,fu⟩:=Zaa fw ew
   cases em
   obtain⟨b,zs,rfl,hq',r'⟩:=Yf rw'
   cases ru'
   obtain⟨its',rI',p',_⟩:=I.tuple hq'
   have l1:its.toArray.size=ts.length:=by rw[XJ,←rI.length,r.length]
   have l2:its'.toArray.size=us.length:=by rw[XJ,←rI'.length,r'.length]
   have hi:=Zns (A:=A.in1) I r r' rI rI' ft fu (by show A.units+1+m<cLine;omega)
   have k1:=SeqAt.RcAt.tuples (A:=A) p p' hu0 hi
   have k2:=SeqAt.RcNeAt.tuples (A:=A) p p' hu0 hi
   rw[l1,l2,Zb7] at k1 k2
   unfold eqT
   exact⟨k1,k2⟩
theorem Zqe {pins:List (Addr×Obj)}{σ:L2.St}{H:Hp}{s:Shared}{w:T}{y:V}{u':Value}{A:Around}{n:Nat}{a:Addr}{its:List Value}(I:Inv X pins σ H s)(fw:flat w n=true)(rw':Rep X.K H y w)(ru':Z3 y u')(hu0:A.units<cLine)
  (p:s.heap.IsList a its.toArray):(SeqAt.RcAt A s (.ref a) u' false∧SeqAt.RcNeAt A s (.ref a) u' true)∧(SeqAt.RcAt A s u' (.ref a) false∧SeqAt.RcNeAt A s u' (.ref a) true):=by
 cases w with
 | non=>cases Zc9 rw';cases ru';exact⟨⟨.list_none p hu0,.list_none p hu0⟩,.none_list p hu0,.none_list p hu0⟩
 | bl c=>cases Zev rw';cases ru';exact⟨⟨.list_bool c p hu0,.list_bool c p hu0⟩,.bool_list c p hu0,.bool_list c p hu0⟩
 | int c=>cases Yg rw';obtain⟨t,rfl⟩:=ru';exact⟨⟨.list_int c t p hu0,.list_int c t p hu0⟩,.int_list c t p hu0,.int_list c t p hu0⟩
 | str c=>cases Jo rw';obtain⟨t,rfl⟩:=ru';exact⟨⟨.list_str c t p hu0,.list_str c t p hu0⟩,.str_list c t p hu0,.str_list c t p hu0⟩
 | tup ts=>
  obtain⟨b,zs,rfl,hq,r⟩:=Yf rw'
  cases ru'
  obtain⟨its',_,p',_⟩:=I.tuple hq
  exact⟨⟨.list_tuple p p' hu0,.list_tuple p p' hu0⟩,.tuple_list p' p hu0,.tuple_list p' p hu0⟩
 | ref b=>unfold flat at fw;cases fw
 | cl b=>unfold flat at fw;cases fw
theorem Zyz (neg:Bool)(hu:X.A.units+150<cLine):OpS X (compareOp (if neg then .NotEq else .Eq)) (wEqG neg):=⟨_,Zil,fun F H C x y v u Q Q' R rx ry h q pins s σ v' u' I r1 r2=>by
 have fin:∀{k:Bool},SeqAt.RcAt X.A s v' u' k∧SeqAt.RcNeAt X.A s v' u' (!k)→Q (.bl (if neg then !k else k)) H→wpAny (model X.prog X.w) X.A (compareOp (if neg then .NotEq else .Eq) v' u') (EP X pins σ Q) X.xe s:=fun {k} e hq=>by
  cases neg with
  | true=>exact EqBoolInt.of_rcne e.2 ⟨.bl (!k),H,I,rfl,hq⟩
  | false=>exact EqBoolInt.of_rc e.1 ⟨.bl k,H,I,rfl,hq⟩
 have two:∀{v u:T},Rep X.K H x v→Rep X.K H y u→Ji v∧Ji u∧Q' (.bl (if neg then !eqT v u else eqT v u)) C→wpAny (model X.prog X.w) X.A (compareOp (if neg then .NotEq else .Eq) v' u') (EP X pins σ Q) X.xe s:=fun {v u} rx ry h=>
  fin (rcT I h.1 h.2.1 rx ry r1 r2 (show X.A.units+100+1<cLine by omega)) (q _ _ H C R (Tx.refl H) Jn h.2.2)
 have hn:(if neg then !false else false)=neg:=by cases neg<;>rfl
 have lft:∀{a:Addr} {u:T},v'=.ref a→Rep X.K H y u→(∃xs,C a=some (.lst xs))∧Ji u∧Q' (.bl neg) C→wpAny (model X.prog X.w) X.A (compareOp (if neg then .NotEq else .Eq) v' u') (EP X pins σ Q) X.xe s:=fun {a u} ev ry h=>by
  obtain⟨⟨xs,hx⟩,f,hq⟩:=h
  obtain⟨ys,hy,r⟩:=R.lst hx
  obtain⟨its,_,p,_⟩:=I.list (SqL.of hy)
  have z:=(Zqe (A:=X.A) I f ry r2 (by omega) p.isList).1
  subst ev
  refine fin (k:=false) z ?_
  rw[hn]
  exact q _ _ H C R (Tx.refl H) Jn hq
 have rgt:∀{b:Addr} {v:T},u'=.ref b→Rep X.K H x v→(∃xs,C b=some (.lst xs))∧Ji v∧Q' (.bl neg) C→wpAny (model X.prog X.w) X.A (compareOp (if neg then .NotEq else .Eq) v' u') (EP X pins σ Q) X.xe s:=fun {b v} eu rx h=>by
  obtain⟨⟨xs,hx⟩,f,hq⟩:=h
  obtain⟨ys,hy,r⟩:=R.lst hx
  obtain⟨its,_,p,_⟩:=I.list (SqL.of hy)
  have z:=(Zqe (A:=X.A) I f rx r1 (by omega) p.isList).2
  subst eu
  refine fin (k:=false) z ?_
  rw[hn]
  exact q _ _ H C R (Tx.refl H) Jn hq
 cases v with
 | ref a=>
  have ev:v'=.ref a:=by cases Z1 rx;exact r1
  cases u with
  | ref b=>
   have eu:u'=.ref b:=by cases Z1 ry;exact r2
   obtain⟨xs,ys,ha,hb,hf,hq⟩:=h
   obtain⟨zs,hz,rz⟩:=R.lst ha
   obtain⟨ws,hw,rw'⟩:=R.lst hb
   obtain⟨its,rI,p,_⟩:=I.list (SqL.of hz)
   obtain⟨its',rI',p',_⟩:=I.list (SqL.of hw)
   have l1:its.toArray.size=xs.length:=by rw[XJ,←rI.length,rz.length]
   have l2:its'.toArray.size=ys.length:=by rw[XJ,←rI'.length,rw'.length]
   subst ev
   subst eu
   refine fin ?_ (q _ _ H C R (Tx.refl H) Jn hq)
   by_cases hl:xs.length=ys.length
   ·obtain⟨f1,f2⟩:=hf hl
    have hi:=Zns (A:=X.A.in1) I rz rw' rI rI' f1 f2 (by show X.A.units+1+100<cLine;omega)
    have k1:=SeqAt.RcAt.lists (A:=X.A) p.isList p'.isList (by rw[l1,l2,hl]) (by omega) hi
    have k2:=SeqAt.RcNeAt.lists (A:=X.A) p.isList p'.isList (by rw[l1,l2,hl]) (by omega) hi
    rw[l1,Zr8 hl] at k1 k2
    exact⟨k1,k2⟩
   ·rw[Zvc hl]
    have hne:(its.toArray.size !=its'.toArray.size)=true:=by rw[l1,l2];exact bne_iff_ne.mpr hl
    exact⟨SeqAt.RcAt.lists_lengths p.isList p'.isList hne (by omega),SeqAt.RcNeAt.lists_lengths p.isList p'.isList hne (by omega)⟩
  | non=>exact lft ev ry h
  | bl b=>exact lft ev ry h
  | int b=>exact lft ev ry h
  | str b=>exact lft ev ry h
  | tup b=>exact lft ev ry h
  | cl b=>exact lft ev ry h
 | non=>
  cases u with
  | ref b=>exact rgt (by cases Z1 ry;exact r2) rx h
  | _=>exact two rx ry h
 | bl _=>
  cases u with
  | ref b=>exact rgt (by cases Z1 ry;exact r2) rx h
  | _=>exact two rx ry h
 | int _=>
  cases u with
  | ref b=>exact rgt (by cases Z1 ry;exact r2) rx h
  | _=>exact two rx ry h
 | str _=>
  cases u with
  | ref b=>exact rgt (by cases Z1 ry;exact r2) rx h
  | _=>exact two rx ry h
 | tup _=>
  cases u with
  | ref b=>exact rgt (by cases Z1 ry;exact r2) rx h
  | _=>exact two rx ry h
 | cl _=>
  cases u with
  | ref b=>exact rgt (by cases Z1 ry;exact r2) rx h
  | _=>exact two rx ry h⟩
theorem Y8 (hu:X.A.units+150<cLine):OpS X (compareOp .Eq) wEq:=Zyz false hu
theorem o_ne (hu:X.A.units+150<cLine):OpS X (compareOp .NotEq) wNe:=Zyz true hu
theorem Ziv:OpS X (compareOp .Is) wIsN:=⟨_,Z0w,fun F H C x y v u Q Q' R rx ry h q=>by
 obtain⟨rfl,h⟩:=h
 refine⟨Zc9 ry,?_⟩
 have z:=q (.bl _) _ H C R (Tx.refl H) Jn h
 cases v with
 | non=>cases Zc9 rx;exact z
 | bl _=>cases Zev rx;exact z
 | int _=>cases Yg rx;exact z
 | str _=>cases Jo rx;exact z
 | ref _=>cases Z1 rx;exact z
 | tup _=>obtain⟨a,ys,rfl,_⟩:=Yf rx;exact z
 | cl _=>obtain⟨a,ys,rfl,_⟩:=Zdw rx;exact z⟩
theorem Zt7:OpS X (compareOp .IsNot) Zmr:=⟨_,Zxi,fun F H C x y v u Q Q' R rx ry h q=>by
 obtain⟨rfl,h⟩:=h
 refine⟨Zc9 ry,?_⟩
 have z:=q (.bl _) _ H C R (Tx.refl H) Jn h
 cases v with
 | non=>cases Zc9 rx;exact z
 | bl _=>cases Zev rx;exact z
 | int _=>cases Yg rx;exact z
 | str _=>cases Jo rx;exact z
 | ref _=>cases Z1 rx;exact z
 | tup _=>obtain⟨a,ys,rfl,_⟩:=Yf rx;exact z
 | cl _=>obtain⟨a,ys,rfl,_⟩:=Zdw rx;exact z⟩
open Classical in
noncomputable def eqAns (v:T) (us:List Value) (ts:List T) (u:Value):Bool:=match (us.zip ts).find? fun p=>decide (p.1=u) with
 | some p=>eqT p.2 v
 | none=>false
open Classical in
theorem Zn1 {pins:List (Addr×Obj)}{σ:L2.St}{H:Hp}{s:Shared}{n:Nat}{v:T}{ts:List T}{ys:List V}{us:List Value}(I:Inv X pins σ H s)(r:Reps X.K H ys ts)(rI:Vals ys us)(f:flats ts n=true){j:Nat}{u:Value}{t:T}(hu:us[j]?=some u)(ht:ts[j]?=some t):
  eqAns v us ts u=eqT t v:=by
 unfold eqAns
 have hm:(u,t)∈us.zip ts:=by
  refine List.mem_iff_getElem?.mpr ⟨j,?_⟩
  rw[List.getElem?_zip_eq_some]
  exact⟨hu,ht⟩
 cases e:(us.zip ts).find? fun p=>decide (p.1=u) with
 | none=>
  have:=List.find?_eq_none.mp e (u,t) hm
  simp at this
 | some p=>
  have h1:=List.find?_some e
  have h2:=List.mem_of_find?_eq_some e
  simp only[decide_eq_true_eq] at h1
  obtain⟨i,hi⟩:=List.mem_iff_getElem?.mp h2
  obtain⟨g1,g2⟩:=List.getElem?_zip_eq_some.mp hi
  obtain⟨x1,k1,q1⟩:=r.get g2
  obtain⟨x2,k2,q2⟩:=r.get ht
  obtain⟨u1,m1,z1⟩:=rI.get k1
  obtain⟨u2,m2,z2⟩:=rI.get k2
  rw[g1] at m1;cases m1
  rw[hu] at m2;cases m2
  rw[h1] at z1
  have e2:=z1.inj z2
  subst e2
  show eqT p.2 v=eqT t v
  rw[Zhq I n (Zap f g2) (Zap f ht) q1 q2]
theorem Zqz {pins:List (Addr×Obj)}{σ:L2.St}{H:Hp}{s:Shared}{n:Nat}{v:T}{ts:List T}{ys:List V}{us:List Value}(I:Inv X pins σ H s)(r:Reps X.K H ys ts)(rI:Vals ys us)(f:flats ts n=true):us.any (eqAns v us ts)=inL v ts:=by
 have hl:us.length=ts.length:=by rw[←rI.length,r.length]
 have hat:∀j,us[j]?.map (eqAns v us ts)=ts[j]?.map fun t=>eqT t v:=fun j=>by
  by_cases hj:j<us.length
  ·have e1:us[j]?=some us[j]:=by simp[hj]
   have e2:ts[j]?=some (ts[j]'(by omega)):=by simp[hl▸hj]
   rw[e1,e2,Option.map_some,Option.map_some,Zn1 I r rI f e1 e2]
  ·rw[List.getElem?_eq_none (by omega),List.getElem?_eq_none (by omega)];rfl
 have hm:us.map (eqAns v us ts)=ts.map fun t=>eqT t v:=by
  refine List.ext_getElem? fun j=>?_
  rw[XM,XM]
  exact hat j
 unfold inL
 have a1:us.any (eqAns v us ts)=(us.map (eqAns v us ts)).any id:=by rw[List.any_map];rfl
 have a2:(ts.any fun y=>eqT y v)=(ts.map fun t=>eqT t v).any id:=by rw[List.any_map];rfl
 rw[a1,a2,hm]
theorem o_inG (neg:Bool)(hu:X.A.units+150<cLine):OpS X (compareOp (if neg then .NotIn else .In)) (wInG neg):=⟨_,Zil,fun F H C x y v u Q Q' R rx ry h q pins s σ v' u' I r1 r2=>by
 have sq:∀{p:Addr} {ys:List V} {ts:List T},u'=.ref p→(SqL X.K H p ys∨SqT X.K H p ys)→Reps X.K H ys ts→Ji v→flats ts Zcn=true→Q' (.bl (if neg then !inL v ts else inL v ts)) C→
   wpAny (model X.prog X.w) X.A (compareOp (if neg then .NotIn else .In) v' u') (EP X pins σ Q) X.xe s:=fun {p ys ts} eu hq r fv ft hq'=>by
  subst eu
  have at1:∀{its:List Value},Vals ys its→∀w,w∈its.toArray→SeqAt.EqAt X.A.in1 s w v' (eqAns v its ts w):=fun {its} rI w hw=>by
   have hw':w∈its:=by simpa using hw
   obtain⟨j,hj⟩:=List.mem_iff_getElem?.mp hw'
   have hlt:j<its.length:=(List.getElem?_eq_some_iff.mp hj).1
   have hl:its.length=ts.length:=by rw[←rI.length,r.length]
   have e2:ts[j]?=some (ts[j]'(by omega)):=by simp[hl▸hlt]
   rw[Zn1 I r rI ft hj e2]
   obtain⟨x2,k2,q2⟩:=r.get e2
   obtain⟨u2,m2,z2⟩:=rI.get k2
   rw[hj] at m2;cases m2
   exact Zn0 I 100 (Zap ft e2) fv q2 rx z2 r1 (by show X.A.units+1+100<cLine;omega)
  rcases hq with hq | hq
  ·obtain⟨its,rI,p,_⟩:=I.list hq
   have e:its.toArray.any (eqAns v its ts)=inL v ts:=by rw[←Zqz I r rI ft];simp
   cases neg with
   | true=>refine SeqAt.notIn_listAt (eqAns v its ts) p.isList (at1 rI) ⟨.bl _,H,I,rfl,?_⟩;rw[e];exact q _ _ H C R (Tx.refl H) Jn hq'
   | false=>refine SeqAt.in_listAt (eqAns v its ts) p.isList (at1 rI) ⟨.bl _,H,I,rfl,?_⟩;rw[e];exact q _ _ H C R (Tx.refl H) Jn hq'
  ·obtain⟨its,rI,p,_⟩:=I.tuple hq
   have e:its.toArray.any (eqAns v its ts)=inL v ts:=by rw[←Zqz I r rI ft];simp
   cases neg with
   | true=>refine SeqAt.notIn_tupleAt (eqAns v its ts) p (at1 rI) ⟨.bl _,H,I,rfl,?_⟩;rw[e];exact q _ _ H C R (Tx.refl H) Jn hq'
   | false=>refine SeqAt.in_tupleAt (eqAns v its ts) p (at1 rI) ⟨.bl _,H,I,rfl,?_⟩;rw[e];exact q _ _ H C R (Tx.refl H) Jn hq'
 have tpl:∀{ts:List T},Rep X.K H y (.tup ts)→Ji v∧flats ts Zcn=true∧Q' (.bl (if neg then !inL v ts else inL v ts)) C→wpAny (model X.prog X.w) X.A (compareOp (if neg then .NotIn else .In) v' u') (EP X pins σ Q) X.xe s:=fun {ts} ry h=>by
  obtain⟨a,ys,rfl,hq,r⟩:=Yf ry
  exact sq r2 (.inr hq) r h.1 h.2.1 h.2.2
 have cls:∀{ts:List T},Rep X.K H y (.cl ts)→Ji v∧flats ts Zcn=true∧Q' (.bl (if neg then !inL v ts else inL v ts)) C→wpAny (model X.prog X.w) X.A (compareOp (if neg then .NotIn else .In) v' u') (EP X pins σ Q) X.xe s:=fun {ts} ry h=>by
  obtain⟨a,ys,rfl,hq,r⟩:=Zdw ry
  exact sq r2 (.inl hq.sq) r h.1 h.2.1 h.2.2
 have rf:∀{a:Addr},Rep X.K H y (.ref a)→(∃ys,C a=some (.lst ys)∧Ji v∧flats ys Zcn=true∧Q' (.bl (if neg then !inL v ys else inL v ys)) C)→wpAny (model X.prog X.w) X.A (compareOp (if neg then .NotIn else .In) v' u') (EP X pins σ Q) X.xe s:=fun {a} ry h=>by
  obtain⟨ts,ht,h1,h2,h3⟩:=h
  obtain⟨zs,hz,rz⟩:=R.lst ht
  cases Z1 ry
  exact sq r2 (.inl (SqL.of hz)) rz h1 h2 h3
 cases u with
 | tup ts=>cases v<;>exact tpl ry h
 | cl ts=>cases v<;>exact cls ry h
 | ref a=>cases v<;>exact rf ry h
 | str j=>
  cases v with
  | str i=>
   cases Jo rx;cases Jo ry
   obtain⟨t,rfl⟩:=r1
   obtain⟨t',rfl⟩:=r2
   cases neg with
   | true=>exact notIn_str ⟨.bl _,H,I,rfl,q _ _ H C R (Tx.refl H) Jn h⟩
   | false=>exact in_str ⟨.bl _,H,I,rfl,q _ _ H C R (Tx.refl H) Jn h⟩
  | _=>exact False.elim h
 | non=>cases v<;>exact False.elim h
 | bl _=>cases v<;>exact False.elim h
 | int _=>cases v<;>exact False.elim h⟩
theorem o_in (hu:X.A.units+150<cLine):OpS X (compareOp .In) wIn:=o_inG false hu
theorem o_ix:IxS X Zq:=⟨_,Z1g,fun F H C x y v u Q Q' R rx ry h q=>by
 cases v<;>cases u<;>first | exact False.elim h | skip
 case tup.int xs i=>
  obtain⟨a,ys,rfl,hq,r⟩:=Yf rx
  cases Yg ry
  obtain⟨v,hv,h⟩:=h
  obtain⟨z,hz,rz⟩:=r.at hv
  exact .inr (.inl ⟨a,ys,i,z,rfl,rfl,hq,hz,q _ _ H C R (Tx.refl H) rz h⟩)
 case cl.int xs i=>
  obtain⟨a,ys,rfl,hq,r⟩:=Zdw rx
  cases Yg ry
  obtain⟨v,hv,h⟩:=h
  obtain⟨z,hz,rz⟩:=r.at hv
  exact .inl ⟨a,ys,i,z,rfl,rfl,hq.sq,hz,q _ _ H C R (Tx.refl H) rz h⟩
 case ref.int a i=>
  cases Z1 rx
  cases Yg ry
  obtain⟨xs,v,hx,hv,h⟩:=h
  obtain⟨ys,hy,r⟩:=R.lst hx
  obtain⟨z,hz,rz⟩:=r.at hv
  exact .inl ⟨a,ys,i,z,rfl,rfl,SqL.of hy,hz,q _ _ H C R (Tx.refl H) rz h⟩
 case str.int z i=>
  cases Jo rx
  cases Yg ry
  obtain⟨hl,c,hc,h⟩:=h
  exact .inr (.inr ⟨z,i,c,rfl,rfl,hl,hc,q _ _ H C R (Tx.refl H) J2 h⟩)⟩
def SlS (X:Cx)(w:T→Option Int→Option Int→Hw→WK→Prop):Prop:=∃r,SlR X r∧∀(F H:Hp) (C:Hw) (x:V) (v:T) (lo hi:Option Int) (Q:VK) (Q':WK),Rl X.K F H C→Rep X.K H x v→w v lo hi C Q'→QE X.K F H Q Q'→r x lo hi H Q
theorem Zje {K:W.Frag}{H:Hp}{ys:List V}{xs:List T}(r:Reps K H ys xs)(lo hi:Option Int):Reps K H (cutV ys lo hi) (cut xs lo hi):=by
 unfold cutV cut
 rw[r.length]
 exact(r.drop _).take _
theorem o_sl:SlS X wSl:=⟨_,Zzv.or (Zwl.or Zzw),fun F H C x v lo hi Q Q' R rx h q=>by
 cases v with
 | tup xs=>
  obtain⟨a,ys,rfl,hq,r⟩:=Yf rx
  exact .inl ⟨a,ys,rfl,hq,by rw[r.length];exact h.1,fun p hp=>q _ _ _ C (R.hid hp) (Tx.new hp) (Zab (SqT.of Yh) ((Zje r lo hi).tx (Tx.new hp))) h.2⟩
 | cl xs=>
  obtain⟨a,ys,rfl,hq,r⟩:=Zdw rx
  exact .inr (.inl ⟨a,ys,rfl,hq.sq,fun p hp=>q _ _ _ _ (R.newL hp (Zje r lo hi)) (Tx.new hp) J0 (h p (R.free hp))⟩)
 | ref a=>
  cases Z1 rx
  obtain⟨xs,hx,h⟩:=h
  obtain⟨ys,hy,r⟩:=R.lst hx
  exact .inr (.inl ⟨a,ys,rfl,SqL.of hy,fun p hp=>q _ _ _ _ (R.newL hp (Zje r lo hi)) (Tx.new hp) J0 (h p (R.free hp))⟩)
 | str z=>cases Jo rx;exact .inr (.inr ⟨z,rfl,h.1,q _ _ H C R (Tx.refl H) J2 h.2⟩)
 | _=>exact False.elim h⟩
theorem Zaw {K:W.Frag}{H:Hp}{xs:List V}{v:T}(h:Reps K H xs [v]):∃x,xs=[x]∧Rep K H x v:=by
 obtain⟨y,r,rfl,a,b⟩:=Jp h
 cases Zan b
 exact⟨y,rfl,a⟩
theorem Zo7 {K:W.Frag}{H:Hp}{xs:List V}{v w:T}(h:Reps K H xs [v,w]):∃x y,xs=[x,y]∧Rep K H x v∧Rep K H y w:=by
 obtain⟨y,r,rfl,a,b⟩:=Jp h
 obtain⟨z,rfl,c⟩:=Zaw b
 exact⟨y,z,rfl,a,c⟩
theorem Zkz:Zgf X (.builtin "len") bLen:=⟨_,Zmi.or Zmh,fun F H C xs vs Q Q' R rs h q=>by
 obtain⟨v,rfl,h⟩:=h
 obtain⟨x,rfl,rx⟩:=Zaw rs
 cases v with
 | str z=>cases Jo rx;exact .inr ⟨z,rfl,h.1,q _ _ H C R (Tx.refl H) Xf h.2⟩
 | tup xs=>
  obtain⟨a,ys,rfl,hq,r⟩:=Yf rx
  exact .inl ⟨a,ys,rfl,.inr hq,by rw[r.length];exact q _ _ H C R (Tx.refl H) Xf h⟩
 | cl xs=>
  obtain⟨a,ys,rfl,hq,r⟩:=Zdw rx
  exact .inl ⟨a,ys,rfl,.inl hq.sq,by rw[r.length];exact q _ _ H C R (Tx.refl H) Xf h⟩
 | ref a=>
  cases Z1 rx
  obtain⟨xs,hx,h⟩:=h
  obtain⟨ys,hy,r⟩:=R.lst hx
  exact .inl ⟨a,ys,rfl,.inl (SqL.of hy),by rw[r.length];exact q _ _ H C R (Tx.refl H) Xf h⟩
 | _=>exact False.elim h⟩
theorem Zze (hc:X.calm=true):Zgf X (.builtin "max") bMax:=⟨_,Zsc hc,fun F H C xs vs Q Q' R rs h q=>by
 obtain⟨i,j,rfl,h⟩:=h
 obtain⟨x,y,rfl,rx,ry⟩:=Zo7 rs
 cases Yg rx;cases Yg ry
 exact⟨i,j,rfl,q _ _ H C R (Tx.refl H) Xf h⟩⟩
theorem Zna {K:W.Frag}{H:Hp}:∀{bs:List Bool} {ys:List V},Reps K H ys (bs.map T.bl)→ys=bs.map V.bl
 | [],_,h=>Zan h
 | b::bs,_,h=>by obtain⟨y,r,rfl,a,c⟩:=Jp h;cases Zev a;rw[Zna c];rfl
theorem Zh2:Zgf X (.type "tuple") Zg3:=⟨_,Zj3,fun F H C xs vs Q Q' R rs h q=>by
 obtain⟨v,rfl,h⟩:=h
 obtain⟨x,rfl,rx⟩:=Zaw rs
 cases v with
 | tup xs=>
  obtain⟨a,ys,rfl,hq,r⟩:=Yf rx
  exact⟨a,ys,rfl,.inr ⟨hq,q _ _ H C R (Tx.refl H) (Zab hq r) h⟩⟩
 | cl xs=>
  obtain⟨a,ys,rfl,hq,r⟩:=Zdw rx
  exact⟨a,ys,rfl,.inl ⟨hq.sq,fun p hp=>q _ _ _ C (R.hid hp) (Tx.new hp) (Zab (SqT.of Yh) (r.tx (Tx.new hp))) h⟩⟩
 | ref a=>
  cases Z1 rx
  obtain⟨xs,hx,h⟩:=h
  obtain⟨ys,hy,r⟩:=R.lst hx
  exact⟨a,ys,rfl,.inl ⟨SqL.of hy,fun p hp=>q _ _ _ C (R.hid hp) (Tx.new hp) (Zab (SqT.of Yh) (r.tx (Tx.new hp))) h⟩⟩
 | _=>exact False.elim h⟩
theorem Z2a:Zgf X (.type "list") Zqy:=⟨_,Zmg,fun F H C xs vs Q Q' R rs h q=>by
 obtain⟨v,rfl,h⟩:=h
 obtain⟨x,rfl,rx⟩:=Zaw rs
 cases v with
 | tup xs=>
  obtain⟨a,ys,rfl,hq,r⟩:=Yf rx
  exact⟨a,ys,rfl,.inr hq,fun p hp=>q _ _ _ _ (R.newL hp r) (Tx.new hp) J0 (h p (R.free hp))⟩
 | cl xs=>
  obtain⟨a,ys,rfl,hq,r⟩:=Zdw rx
  exact⟨a,ys,rfl,.inl hq.sq,fun p hp=>q _ _ _ _ (R.newL hp r) (Tx.new hp) J0 (h p (R.free hp))⟩
 | ref a=>
  cases Z1 rx
  obtain⟨xs,hx,h⟩:=h
  obtain⟨ys,hy,r⟩:=R.lst hx
  exact⟨a,ys,rfl,.inl (SqL.of hy),fun p hp=>q _ _ _ _ (R.newL hp r) (Tx.new hp) J0 (h p (R.free hp))⟩
 | _=>exact False.elim h⟩
theorem Zbl:MtS X "list.append" Zaj:=⟨_,Zkh,fun F H C x v xs vs Q Q' R rx rs h q=>by
 obtain⟨a,ts,y,rfl,rfl,hx,hl,h⟩:=h
 cases Z1 rx
 obtain⟨z,rfl,rz⟩:=Zaw rs
 obtain⟨ys,hy,r⟩:=R.lst hx
 obtain⟨R',t⟩:=R.putL hx (r.snoc rz)
 exact⟨a,ys,z,rfl,rfl,hy,by rw[r.length];exact hl,q _ _ _ _ R' t Zc8 h⟩⟩
theorem Zy0:MtS X "list.pop" mPop:=⟨_,Z03,fun F H C x v xs vs Q Q' R rx rs h q=>by
 obtain⟨a,ts,y,rfl,rfl,hx,hy,h⟩:=h
 cases Z1 rx
 cases Zan rs
 obtain⟨ys,hys,r⟩:=R.lst hx
 obtain⟨z,hz,rz⟩:=r.get hy
 obtain⟨R',t⟩:=R.putL hx r.dropLast
 exact⟨a,ys,z,rfl,rfl,hys,by rw[r.length];exact hz,q _ _ _ _ R' t (rz.tx t) h⟩⟩
end
section
variable {X:Cx}{a b c e:Expr}{es:List Expr}{wa wb wc:WE}{wt wt':WT}{wA:WA}{w w':W2}{pos p apos cpos:Pos}{rest:List Expr}
theorem Zc (i:Nat){x:Str}(hN:X.N[i]?=some x:=by rfl)(hv:Vis X.env.scope x:=by first | exact Or.inl rfl | exact Or.inr (Or.inl rfl) | exact Or.inr (Or.inr rfl))(hd:(x==("__debug__":Str))=false:=by decide)
  (hcd:(x==("__classdict__":Str))=false:=by decide):SdE X (.Name x pos) (Zd i):=⟨_,Z0j hN hv hd hcd,s_var⟩
theorem Zj {i j}:SdE X (.Constant (.int i) j pos) (eC (.int i)):=⟨_,Ztu,s_c fun _=>Xf⟩
theorem Zm {i j}:SdE X (.Constant (.str i) j pos) (eC (.str i)):=⟨_,Z0l,s_c fun _=>J2⟩
theorem d_bl {i j}:SdE X (.Constant (.bool i) j pos) (eC (.bl i)):=⟨_,pe_bl,s_c fun _=>Jn⟩
theorem Zaz {j}:SdE X (.Constant .none j pos) (eC .non):=⟨_,Z0n,s_c fun _=>Zc8⟩
def Glb (K:W.Frag)(mg:Str→Option Value)(x:Str)(v:T):Prop:=∃z u,mg x=some u∧Z3 z u∧∀H,Rep K H z v
theorem d_gl {x:Str}{v:T}(hg:Gl X x)(h:Glb X.K X.mg x v)(hd:(x==("__debug__":Str))=false:=by decide):SdE X (.Name x pos) (eC v):=by
 obtain⟨z,u,h1,h2,h3⟩:=h
 exact⟨_,Zxc hg h1 h2 hd,s_c h3⟩
theorem Yn {op:Operator}(ho:OpS X (binaryOp op) w)(ha:SdE X a wa)(hb:SdE X b wb):SdE X (.BinOp a op b pos) (Zf w wa wb):=by
 obtain⟨r,h1,h2⟩:=ho
 obtain⟨ta,p1,s1⟩:=ha
 obtain⟨tb,p2,s2⟩:=hb
 exact⟨_,pe_op h1 p1 p2,s_op s1 s2 h2⟩
theorem Zn9 (ha:SdE X a wa):SdE X (.UnaryOp .USub a pos) (eUn wNeg wa):=by
 obtain⟨ta,p1,s1⟩:=ha
 exact⟨_,pe_un Zzn p1,s_un s1 fun F H C x v Q Q' R rx h q=>by
  cases v with
  | int i=>cases Yg rx;exact⟨i,rfl,q _ _ H C R (Tx.refl H) Xf h⟩
  | _=>exact False.elim h⟩
theorem Zb9 {op:CmpOp}(ho:OpS X (compareOp op) w)(ha:SdE X a wa)(hb:SdE X b wb)(hm:behindInMarks op b=false):SdE X (.Compare a [op] [b] pos) (Zf w wa wb):=by
 obtain⟨r,h1,h2⟩:=ho
 obtain⟨ta,p1,s1⟩:=ha
 obtain⟨tb,p2,s2⟩:=hb
 exact⟨_,Zxg h1 p1 p2 hm,s_op s1 s2 h2⟩
theorem Zvu (ha:SdE X a wa)(hb:SdE X (.BoolOp .And (b::rest) pos) wb):SdE X (.BoolOp .And (a::b::rest) pos) (eAnd wa wb):=by
 obtain⟨ta,p1,s1⟩:=ha
 obtain⟨tb,p2,s2⟩:=hb
 exact⟨_,Z0r p1 p2,s_and s1 s2⟩
theorem Zvr {op}(ha:SdE X a wa):SdE X (.BoolOp op [a] pos) wa:=by
 obtain⟨ta,p1,s1⟩:=ha
 exact⟨_,Z0m p1,s1⟩
theorem Zjd (hc:SdT X c wt)(ha:SdE X a wa)(hb:SdE X b wb):SdE X (.IfExp c a b pos) (eIf wt wa wb):=by
 obtain⟨ta,p1,s1⟩:=ha
 obtain⟨tb,p2,s2⟩:=hb
 obtain⟨tc,p3,s3⟩:=hc
 exact⟨_,Ztv p3 p1 p2,s_if s3 s1 s2⟩
theorem Ze:SdA X [] Zg:=⟨_,Zo1,s_nil⟩
theorem Za (ha:SdE X a wa)(hb:SdA X es wA)(hs:starEach (a::es) X.env=(false,eval a X.env)::starEach es X.env:=by rfl):SdA X (a::es) (Zb wa wA):=by
 obtain⟨ta,p1,s1⟩:=ha
 obtain⟨tb,p2,s2⟩:=hb
 exact⟨_,Zhs p1 p2 hs,Zzz s1 s2⟩
theorem Zp {x1}(h:SdA X es wA):SdE X (.Tuple es x1 pos) (Zy wA):=by
 obtain⟨t,p,s⟩:=h
 exact⟨_,Z0k p,s_tup s⟩
theorem X3 (h:SdA X es wA):SdE X (.List es pos) (eLst wA):=by
 obtain⟨t,p,s⟩:=h
 exact⟨_,Z0o p,s_lst s⟩
theorem Zw (ha:SdE X a wa)(hb:SdE X b wb)(hs:Zq1 b:=by exact fun _ _=>rfl):SdE X (.Subscript a b pos) (Zf Zq wa wb):=by
 obtain⟨r,h1,h2⟩:=o_ix (X:=X)
 obtain⟨ta,p1,s1⟩:=ha
 obtain⟨tb,p2,s2⟩:=hb
 exact⟨_,pe_ix h1 p1 p2 hs,s_op s1 s2 h2⟩
def SdO (X:Cx)(e:Option Expr)(w:Sw→Hw→(Option Int→Hw→Prop)→WX→Prop):Prop:=∃t,PO X e t∧∀(F H:Hp) (C:Hw) (σ:L2.St) (τ:Sw) (Q:Option Int→Hp→Prop) (Q':Option Int→Hw→Prop) (χ:WX),Rl X.K F H C→RepS X.K H σ τ→w τ C Q' χ→
 (∀o H' C',Rl X.K F H' C'→Tx H H'→Q' o C'→Q o H')→t σ H Q
theorem Zeb:SdO X none oNo:=⟨_,Zw9,fun F H C σ τ Q Q' χ R S h q=>q none H C R (Tx.refl H) h⟩
theorem Zea (ha:SdE X a wa):SdO X (some a) (Zg7 wa):=by
 obtain⟨ta,p1,s1⟩:=ha
 refine⟨_,Zw8 p1,fun F H C σ τ Q Q' χ R S h q=>?_⟩
 refine s1 F H C σ τ _ _ χ R S h fun x v H1 C1 R1 t1 rx h1=>?_
 obtain⟨i,rfl,h1⟩:=h1
 exact⟨i,Yg rx,q (some i) H1 C1 R1 t1 h1⟩
theorem d_sl {lo hi:Option Expr}{wl wh:Sw→Hw→(Option Int→Hw→Prop)→WX→Prop}{p2:Pos}(ha:SdE X a wa)(hl:SdO X lo wl)(hh:SdO X hi wh):SdE X (.Subscript a (.Slice lo hi none p2) pos) (eSl wa wl wh):=by
 obtain⟨r,h1,h2⟩:=o_sl (X:=X)
 obtain⟨ta,p1,s1⟩:=ha
 obtain⟨tl,p3,s3⟩:=hl
 obtain⟨th,p4,s4⟩:=hh
 refine⟨_,Zts h1 p1 p3 p4,fun F H C σ τ Q Q' χ R S h q=>?_⟩
 refine s1 F H C σ τ _ _ χ R S h fun x v H1 C1 R1 t1 rx h1=>?_
 refine s3 F H1 C1 σ τ _ _ χ R1 (S.tx t1) h1 fun l H2 C2 R2 t2 h2'=>?_
 refine s4 F H2 C2 σ τ _ _ χ R2 (S.tx (t1.trans t2)) h2' fun u H3 C3 R3 t3 h3=>?_
 exact h2 F H3 C3 x v l u Q Q' R3 ((rx.tx t2).tx t3) h3 (QE.at q ((t1.trans t2).trans t3))
theorem d_bi {x:Str}{id:String}{r:List T→Hw→WK→Prop}(hc:Zgf X (.builtin id) r)(hg:Gl X x)(hm:X.mg x=none)(hv:bootBuiltins x=some (.builtin id))(ha:SdA X (e::es) wA)(hn:x≠"__name__":=by decide)(hdb:(x==("__debug__":Str))=false:=by decide)
  (he:starEach (e::es) X.env=(false,eval e X.env)::starEach es X.env:=by rfl) (hpl:(backTo pos (starEach es X.env)).any (·.1)=false:=by rfl):SdE X (.Call (.Name x p) (e::es) [] pos) (eBi r wA):=by
 obtain⟨r,h1,h2⟩:=hc
 obtain⟨t,p1,s1⟩:=ha
 exact⟨_,Znc h1 hg hm hv p1 hn hdb he hpl,s_bi h2 s1⟩
theorem d_ty {x:Str}{id:String}{r:List T→Hw→WK→Prop}(hc:Zgf X (.type id) r)(hg:Gl X x)(hm:X.mg x=none)(hv:bootBuiltins x=some (.type id))(ha:SdA X (e::es) wA)(hn:x≠"__name__":=by decide)(hdb:(x==("__debug__":Str))=false:=by decide)
  (he:starEach (e::es) X.env=(false,eval e X.env)::starEach es X.env:=by rfl) (hpl:(backTo pos (starEach es X.env)).any (·.1)=false:=by rfl):SdE X (.Call (.Name x p) (e::es) [] pos) (eBi r wA):=by
 obtain⟨r,h1,h2⟩:=hc
 obtain⟨t,p1,s1⟩:=ha
 exact⟨_,Zrl h1 hg hm hv p1 hn hdb he hpl,s_bi h2 s1⟩
def TyS (X:Cx)(Tn:String)(ty:T→Hw→Prop):Prop:=∀(F H:Hp) (C:Hw) (x:V) (v:T),Rl X.K F H C→Rep X.K H x v→ty v C→tyV X.K Tn x H
theorem Zai:TyS X "list" tyL':=fun F H C x v R rx h=>by
 obtain⟨a,xs,rfl,hx⟩:=h
 cases Z1 rx
 obtain⟨ys,hy,r⟩:=R.lst hx
 exact L2.tyL hy
theorem Zzp:TyS X "str" tyS:=fun F H C x v R rx h=>by
 obtain⟨z,rfl⟩:=h
 cases Jo rx
 unfold tyV
 rfl
theorem d_mt {o:Expr}{wo:WE}{name:Str}{Tn id:String}{ty:T→Hw→Prop}{r:T→List T→Hw→WK→Prop}(pa:PlainAttrs Tn)(slot:Slot Tn name id)(hty:typeOf (.builtin id)=pure (.type "method_descriptor"))(hT:TyS X Tn ty)(hm:MtS X id r)(ho:SdE X o wo)(ha:SdA X (e::es) wA)
  (hbase:attributeBase o name X.env (eval o X.env)=eval o X.env:=by rfl)
  (hfew:((backTo cpos (starEach (e::es) X.env)).all (fun x=>!x.1)&&(backToKw cpos (keywordEach [] X.env)).all (fun x=>x.1.isSome)
   &&decide ((e::es).length+([]:List Keyword).length+(if ([]:List Keyword).isEmpty then 0 else 1)<30))=true:=by rfl)
  (hline:(apos.endLine==cpos.line)=true:=by rfl) (hs:starEach (e::es) X.env=(false,eval e X.env)::starEach es X.env:=by rfl) (hplain:(backTo cpos (starEach es X.env)).any (·.1)=false:=by rfl):
  SdE X (.Call (.Attribute o name apos) (e::es) [] cpos) (eMt ty r wo wA):=by
 obtain⟨rr,h1,h2⟩:=hm
 obtain⟨to,p1,s1⟩:=ho
 obtain⟨ta,p2,s2⟩:=ha
 refine⟨_,pe_bm pa slot hty h1 p1 p2 hbase hfew hline hs hplain,fun F H C σ τ Q Q' χ R S h q=>?_⟩
 refine s1 F H C σ τ _ _ χ R S h fun x v H1 C1 R1 t1 rx h1'=>⟨hT F H1 C1 x v R1 rx h1'.1,?_⟩
 refine s2 F H1 C1 σ τ _ _ χ R1 (S.tx t1) h1'.2 fun xs vs H2 C2 R2 t2 rs h2'=>?_
 exact h2 F H2 C2 x v xs vs Q Q' R2 (rx.tx t2) rs h2' (QE.at q (t1.trans t2))
theorem Zzd {o:Expr}{wo:WE}{name:Str}{Tn id:String}{ty:T→Hw→Prop}{r:T→List T→Hw→WK→Prop}(pa:PlainAttrs Tn)(slot:Slot Tn name id)(hty:typeOf (.builtin id)=pure (.type "method_descriptor"))(hT:TyS X Tn ty)(hm:MtS X id r)(ho:SdE X o wo)
  (hbase:attributeBase o name X.env (eval o X.env)=eval o X.env:=by rfl) (hline:(apos.endLine==cpos.line)=true:=by rfl):
  SdE X (.Call (.Attribute o name apos) [] [] cpos) (eMt ty r wo Zg):=by
 obtain⟨rr,h1,h2⟩:=hm
 obtain⟨to,p1,s1⟩:=ho
 refine⟨_,Z0q pa slot hty h1 p1 hbase hline,fun F H C σ τ Q Q' χ R S h q=>?_⟩
 refine s1 F H C σ τ _ _ χ R S h fun x v H1 C1 R1 t1 rx h1'=>⟨hT F H1 C1 x v R1 rx h1'.1,?_⟩
 exact h2 F H1 C1 x v [] [] Q Q' R1 rx Jx h1'.2 (QE.at q t1)
theorem Zxu {K:W.Frag}{n c:String}(hn:n∈["NoneType","bool","int","str","tuple","list","dict"])(hc:c∈["bool","int","str","tuple","list","dict"]):W.kitOne K (.type n) (.type c)=some (Zhb n c):=by
 simp only[ZM,ZN,or_false] at hn hc
 rcases hn with rfl | rfl | rfl | rfl | rfl | rfl | rfl<;>rcases hc with rfl | rfl | rfl | rfl | rfl | rfl<;>rfl
theorem Zwe {v:T}{C:Hw}{n:String}(h:tyN v C n):n∈["NoneType","bool","int","str","tuple","list","dict"]:=by
 cases v with
 | non=>cases h;decide
 | bl _=>cases h;decide
 | int _=>cases h;decide
 | str _=>cases h;decide
 | tup _=>cases h;decide
 | cl _=>cases h;decide
 | ref _=>rcases h with⟨rfl,_⟩ | ⟨rfl,_⟩<;>decide
theorem Z1m {pins:List (Addr×Obj)}{σ:L2.St}{F H:Hp}{C:Hw}{s:Shared}{x:V}{v:T}{u:Value}{n c:String}{Q:Value→Shared→Prop}(I:Inv X pins σ H s)(R:Rl X.K F H C)(rx:Rep X.K H x v)(ru:Z3 x u)(hn:tyN v C n)(hc:c∈["bool","int","str","tuple","list","dict"])
  (h:∀tk,Q (.bool (Zhb n c)) {s with toks:=tk}):wpAny (model X.prog X.w) X.A (call (.builtin "isinstance") [u,.type c]) Q X.xe s:=by
 have e:=Zxu (K:=X.K) (Zwe hn) hc
 cases v with
 | non=>cases hn;cases Zc9 rx;exact Zb0 I ru .non e h
 | bl b=>cases hn;cases Zev rx;exact Zb0 I ru (.bl b) e h
 | int b=>cases hn;cases Yg rx;exact Zb0 I ru (.int b) e h
 | str b=>cases hn;cases Jo rx;exact Zb0 I ru (.str b) e h
 | tup xs=>
  cases hn
  obtain⟨a,ys,rfl,hq,r⟩:=Yf rx
  cases ru
  obtain⟨its,_,⟨o,h1,h2,_⟩,_⟩:=I.tuple hq
  exact W.kia_one W.kitx_tuple I.kIn ⟨o,h1,h2⟩ e (fun z=>nomatch z) h
 | cl xs=>
  cases hn
  obtain⟨a,ys,rfl,hq,r⟩:=Zdw rx
  cases ru
  obtain⟨its,_,p,_⟩:=I.list hq.sq
  obtain⟨o,h1,h2,_⟩:=p.isList
  exact W.kia_one W.kitx_list I.kIn ⟨o,h1,h2⟩ e (fun z=>nomatch z) h
 | ref a=>
  cases Z1 rx
  rcases hn with⟨rfl,xs,hx⟩ | ⟨rfl,kvs,hx⟩
  ·obtain⟨ys,hy,r⟩:=R.lst hx
   exact Zb0 I ru (.lst hy) e h
  ·obtain⟨ks,hy,r⟩:=R.obj a _ hx
   exact Zb0 I ru (.dK hy) e h
theorem d_isi {x:Str}{q2:Pos}{c:String}(hg:Gl X "isinstance")(hm:X.mg "isinstance"=none)(hgx:Gl X x)(hmx:X.mg x=none)(hvx:bootBuiltins x=some (.type c))(hc:c∈["bool","int","str","tuple","list","dict"])(ha:SdE X a wa)
  (hnx:x≠"__name__":=by decide) (hdx:(x==("__debug__":Str))=false:=by decide) (he:starEach [a,.Name x q2] X.env=[(false,eval a X.env),(false,eval (.Name x q2) X.env)]:=by rfl):SdE X (.Call (.Name "isinstance" p) [a,.Name x q2] [] pos) (eIsi wa c):=by
 obtain⟨ta,p1,s1⟩:=ha
 let r:List V→Hp→VK→Prop:=fun xs H Q=>∃y F C v n,xs=[y,.ty c]∧Rl X.K F H C∧Rep X.K H y v∧tyN v C n∧Q (.bl (Zhb n c)) H
 have hr:Zbn X (.builtin "isinstance") r:=by
  intro pins s σ H xs us Q I rs h
  obtain⟨y,F,C,v,n,rfl,R,ry,hn,q⟩:=h
  obtain⟨u,u2,rfl,ru,ru2⟩:=rs.two
  cases ru2
  exact Z1m I R ry ru hn hc fun tk=>⟨.bl _,H,I.tok tk,rfl,q⟩
 refine⟨_,Znc hr hg hm Zj4 (Zhs p1 (Zhs (Zxh (v:=.ty c) hgx hmx hvx rfl hnx hdx) Zo1 (by rw[show starEach [Expr.Name x q2] X.env=[(false,eval (.Name x q2) X.env)] from rfl];rfl)) ?_) (by decide) (by decide) ?_ ?_,?_⟩
 ·rw[he];rfl
 ·rw[he];rfl
 ·rfl
 ·intro F H C σ τ Q Q' χ R S h q
  refine s1 F H C σ τ _ _ χ R S h fun y v H1 C1 R1 t1 ry h1=>?_
  obtain⟨n,hn,h1⟩:=h1
  exact⟨y,F,C1,v,n,rfl,R1,ry,hn,q _ _ H1 C1 R1 t1 Jn h1⟩
theorem Zs {op:CmpOp}(ho:OpS X (compareOp op) w)(ha:SdE X a wa)(hb:SdE X b wb)(hm:behindInMarks op b=false:=by exact Za4 _):SdT X (.Compare a [op] [b] pos) (tBl (Zf w wa wb)):=by
 obtain⟨r,h1,h2⟩:=ho
 obtain⟨ta,p1,s1⟩:=ha
 obtain⟨tb,p2,s2⟩:=hb
 exact⟨_,Zww h1 p1 p2 hm,s_bl (s_op s1 s2 h2)⟩
theorem Zd4 (ha:SdE X a wa)(he:∀whole,isTrue a X.env whole=(do let v ←whole;standAt a.pos;holding [v] (truthy v)):=by intro _;rfl):SdT X a (tTru wa):=by
 obtain⟨ta,p1,s1⟩:=ha
 exact⟨_,Zti p1 he,s_tru s1⟩
theorem Zx9 (ha:SdT X a wt):SdW X (.BoolOp .And [a] pos) wt:=by
 obtain⟨t,p,s⟩:=ha
 exact⟨_,Zwt p,s⟩
theorem Zja (ha:SdT X a wt):SdW X (.BoolOp .Or [a] pos) wt:=by
 obtain⟨t,p,s⟩:=ha
 exact⟨_,Zz5 p,s⟩
theorem Z1x (ha:SdT X a wt)(hb:SdW X (.BoolOp .And (b::rest) pos) wt'):SdW X (.BoolOp .And (a::b::rest) pos) (tAn wt wt'):=by
 obtain⟨t,p,s⟩:=ha
 obtain⟨t',p',s'⟩:=hb
 exact⟨_,Zz6 p p',s_an s s'⟩
theorem Zn2 (ha:SdT X a wt)(hb:SdW X (.BoolOp .Or (b::rest) pos) wt'):SdW X (.BoolOp .Or (a::b::rest) pos) (tOr' wt wt'):=by
 obtain⟨t,p,s⟩:=ha
 obtain⟨t',p',s'⟩:=hb
 exact⟨_,pw_or p p',s_or' s s'⟩
theorem dt_w (h:SdW X a wt):SdT X a wt:=by
 obtain⟨t,p,s⟩:=h
 exact⟨_,p.pt,s⟩
theorem Zvj (ha:SdT X a wt):SdT X (.UnaryOp .Not a pos) (tNo wt):=by
 obtain⟨t,p,s⟩:=ha
 exact⟨_,Zz7 p,s_no s⟩
end
structure DRel (K:W.Frag)(F H:Hp)(D:Ends)(D':We):Prop where
 nx:∀σ τ H' C',Rl K F H' C'→Tx H H'→RepS K H' σ τ→D'.nx τ C'→D.nx σ H'
 rt:∀x v H' C',Rl K F H' C'→Tx H H'→Rep K H' x v→D'.rt v C'→D.rt x H'
 bk:∀σ τ H' C',Rl K F H' C'→Tx H H'→RepS K H' σ τ→D'.bk τ C'→D.bk σ H'
 ct:∀σ τ H' C',Rl K F H' C'→Tx H H'→RepS K H' σ τ→D'.ct τ C'→D.ct σ H'
theorem DRel.at {K:W.Frag}{F H H1:Hp}{D:Ends}{D':We}(h:DRel K F H D D')(t:Tx H H1):DRel K F H1 D D':=
 ⟨fun σ τ H' C' R t'=>h.nx σ τ H' C' R (t.trans t'),fun x v H' C' R t'=>h.rt x v H' C' R (t.trans t'),fun σ τ H' C' R t'=>h.bk σ τ H' C' R (t.trans t'),fun σ τ H' C' R t'=>h.ct σ τ H' C' R (t.trans t')⟩
def SimS (K:W.Frag)(t:TS)(w:WS):Prop:=∀(F H:Hp) (C:Hw) (σ:L2.St) (τ:Sw) (D:Ends) (D':We),Rl K F H C→RepS K H σ τ→w D' τ C→DRel K F H D D'→t D σ H
def SimG (K:W.Frag)(t:TG)(w:WG):Prop:=∀(F H:Hp) (C:Hw) (σ:L2.St) (τ:Sw) (x:V) (v:T) (Q:L2.St→Hp→Prop) (Q':Sw→Hw→Prop) (χ:WX),Rl K F H C→RepS K H σ τ→Rep K H x v→w v τ C Q' χ→
 (∀σ' τ' H' C',Rl K F H' C'→Tx H H'→RepS K H' σ' τ'→Q' τ' C'→Q σ' H')→t x σ H Q
def Zok (K:W.Frag)(t:TGs)(w:WGs):Prop:=∀(F H:Hp) (C:Hw) (σ:L2.St) (τ:Sw) (x:List V) (v:List T) (Q:L2.St→Hp→Prop) (Q':Sw→Hw→Prop) (χ:WX),Rl K F H C→RepS K H σ τ→Reps K H x v→w v τ C Q' χ→
 (∀σ' τ' H' C',Rl K F H' C'→Tx H H'→RepS K H' σ' τ'→Q' τ' C'→Q σ' H')→t x σ H Q
def SdS (X:Cx)(st:Stmt)(w:WS):Prop:=∃t,PS X st t∧SimS X.K t w
def SdB (X:Cx)(st:List Stmt)(w:WS):Prop:=∃t,PSs X st t∧SimS X.K t w
def SdG (X:Cx)(e:Expr)(w:WG):Prop:=∃t,PG X e t∧SimG X.K t w
def SdGs (X:Cx)(e:List Expr)(w:WGs):Prop:=∃t,PGs X e t∧Zok X.K t w
section
variable {X:Cx}{st:Stmt}{rest:List Stmt}{w u:WS}{e tg:Expr}{we:WE}{wt:WT}{g:WG}{gs:WGs}{pos:Pos}
theorem J1 {K:W.Frag}{i:Nat}:SimG K (Zao i) (gNm i):=fun F H C σ τ x v Q Q' χ R S r h q=>q _ _ H C R (Tx.refl H) (S.set r) h
theorem Zh8 {K:W.Frag}:Zok K gNil Zdg:=fun F H C σ τ x v Q Q' χ R S r h q=>by
 obtain⟨rfl,h⟩:=h
 exact⟨Zan r,q _ _ H C R (Tx.refl H) S h⟩
theorem Zbd {K:W.Frag}{t:TG}{u:TGs}{g:WG}{gs:WGs}(a:SimG K t g)(b:Zok K u gs):Zok K (Zc2 t u) (Xa g gs):=fun F H C σ τ x v Q Q' χ R S r h q=>by
 obtain⟨v1,vs,rfl,h⟩:=h
 obtain⟨y,ys,rfl,r1,r2⟩:=Jp r
 refine⟨y,ys,rfl,a F H C σ τ y v1 _ _ χ R S r1 h fun σ' τ' H' C' R' t' S' h'=>?_⟩
 exact b F H' C' σ' τ' ys vs Q Q' χ R' S' (r2.tx t') h' fun σ2 τ2 H2 C2 R2 t2=>q σ2 τ2 H2 C2 R2 (t'.trans t2)
theorem Zh7 {K:W.Frag}{u:TGs}{gs:WGs}{n:Nat}(b:Zok K u gs)(hn:∀vs τ C Q χ,gs vs τ C Q χ→vs.length=n):SimG K (gTup K n u) (gTp gs):=fun F H C σ τ x v Q Q' χ R S r h q=>by
 obtain⟨vs,rfl,h⟩:=h
 obtain⟨a,ys,rfl,hq,rs⟩:=Yf r
 exact⟨a,ys,rfl,hq,by rw[rs.length];exact hn _ _ _ _ _ h,b F H C σ τ ys vs Q Q' χ R S rs h q⟩
def Zq2 (n:Nat)(gs:WGs):Prop:=∀vs τ C Q χ,gs vs τ C Q χ→vs.length=n
theorem Zd0:Zq2 0 Zdg:=fun vs τ C Q χ h=>by rw[h.1];rfl
theorem Jj {n i:Nat}{gs:WGs}(b:Zq2 n gs):Zq2 (n+1) (Xa (gNm i) gs):=fun vs τ C Q χ h=>by
 obtain⟨v,r,rfl,h⟩:=h
 rw[YF,b r _ _ _ _ h]
theorem X2 {i:Nat}{x:Str}(hN:X.N.Nodup)(hi:X.N[i]?=some x:=by rfl)(hx:Loc X.env.scope x:=by first | exact Or.inl rfl | exact Or.inr rfl)(hf:X.fn x=true∨X.env.scope.names.lookup x=some .local:=by first | exact .inl rfl | exact .inr rfl | assumption):SdG X (.Name x pos) (gNm i):=⟨_,Xg hN hi hx hf,J1⟩
theorem Zma:SdGs X [] Zdg:=⟨_,Zfr,Zh8⟩
theorem Zcj {es:List Expr}(a:SdG X e g)(b:SdGs X es gs)(hs:(assignEach (e::es) X.env).map (·.2)=assign e X.env::(assignEach es X.env).map (·.2):=by rfl):SdGs X (e::es) (Xa g gs):=by
 obtain⟨t,p,s⟩:=a
 obtain⟨t',p',s'⟩:=b
 exact⟨_,Zae p p' hs,Zbd s s'⟩
theorem Zl9 {es:List Expr}{k n:Nat}(hc:X.calm=true)(b:SdGs X es gs)(hl:Zq2 n gs)(hn:(assignEach es X.env).length=n:=by rfl)(hst:(assignEach es X.env).findIdx? (·.1)=none:=by rfl):SdG X (.Tuple es k pos) (gTp gs):=by
 obtain⟨t,p,s⟩:=b
 exact⟨_,Zik hc p hn hst,Zh7 s hl⟩
theorem Z8:SdB X [] Yb:=⟨_,Zwy,fun F H C σ τ D D' R S h d=>d.nx σ τ H C R (Tx.refl H) S h⟩
theorem Zk (a:SdS X st w):SdB X [st] w:=by
 obtain⟨t,p,s⟩:=a
 exact⟨_,Zwx p,s⟩
theorem Zi (a:SdS X st w)(b:SdB X rest u):SdB X (st::rest) (Zr w u):=by
 obtain⟨t,p,s⟩:=a
 obtain⟨t',p',s'⟩:=b
 refine⟨_,Ztl p p',fun F H C σ τ D D' R S h d=>?_⟩
 exact s F H C σ τ _ _ R S h ⟨fun σ' τ' H' C' R' t' S' h'=>s' F H' C' σ' τ' D D' R' S' h' (d.at t'),d.rt,d.bk,d.ct⟩
theorem Z9 (a:SdE X e we)(hs:swapsWith e none pos.line X.env=pure false:=by rfl):SdS X (.Expr e pos) (Y7 we):=by
 obtain⟨t,p,s⟩:=a
 refine⟨_,Zw0 p hs,fun F H C σ τ D D' R S h d=>?_⟩
 exact s F H C σ τ _ _ D'.xc R S h fun x v H1 C1 R1 t1 rx h1=>d.nx σ τ H1 C1 R1 t1 (S.tx t1) h1
theorem Zv (a:SdE X e we):SdS X (.Return (some e) pos) (Ym we):=by
 obtain⟨t,p,s⟩:=a
 refine⟨_,Zz9 p,fun F H C σ τ D D' R S h d=>?_⟩
 exact s F H C σ τ _ _ D'.xc R S h d.rt
theorem Zl6:SdS X (.Return none pos) Zm8:=⟨_,Zwz,fun F H C σ τ D D' R S h d=>d.rt .non .non H C R (Tx.refl H) Zc8 h⟩
theorem Z2 {c:Expr}{a b:List Stmt}{wa wb:WS}(hc:SdT X c wt)(ha:SdB X a wa)(hb:SdB X b wb):SdS X (.If c a b pos) (sIf wt wa wb):=by
 obtain⟨t,p,s⟩:=hc
 obtain⟨t1,p1,s1⟩:=ha
 obtain⟨t2,p2,s2⟩:=hb
 refine⟨_,ps_if p p1 p2,fun F H C σ τ D D' R S h d=>?_⟩
 refine s F H C σ τ _ _ D'.xc R S h fun k H1 C1 R1 t1 h1=>?_
 cases k with
 | true=>exact s1 F H1 C1 σ τ D D' R1 (S.tx t1) h1 (d.at t1)
 | false=>exact s2 F H1 C1 σ τ D D' R1 (S.tx t1) h1 (d.at t1)
theorem Zvk (he:SdE X e we)(hg:SdG X tg g)(hs:swapsWithSole [tg] e pos.line X.env=pure false:=by rfl)(hw:swappedStores [tg] e X.env=pure none:=by rfl)
  (h1:(assignEach [tg] X.env).map (·.2)=[assign tg X.env]:=by rfl):SdS X (.Assign [tg] e pos) (Z0 we g):=by
 obtain⟨t,p,s⟩:=he
 obtain⟨t',p',s'⟩:=hg
 refine⟨_,Z0c p p' hs hw h1,fun F H C σ τ D D' R S h d=>?_⟩
 refine s F H C σ τ _ _ D'.xc R S h fun x v H1 C1 R1 t1 rx h1=>?_
 exact s' F H1 C1 σ τ x v _ _ D'.xc R1 (S.tx t1) rx h1 fun σ' τ' H' C' R' t'=>d.nx σ' τ' H' C' R' (t1.trans t')
theorem Zz {i:Nat}{x:Str}{pos':Pos}(hN:X.N.Nodup)(he:SdE X e we)(hi:X.N[i]?=some x:=by rfl)(hx:Loc X.env.scope x:=by first | exact Or.inl rfl | exact Or.inr rfl)(hs:swapsWith e (some (.Name x pos')) pos.line X.env=pure false:=by rfl)
  (hf:X.fn x=true∨X.env.scope.names.lookup x=some .local:=by first | exact .inl rfl | exact .inr rfl | assumption):SdS X (.Assign [.Name x pos'] e pos) (Z0 we (gNm i)):=by
 obtain⟨t,p,s⟩:=he
 refine⟨_,Zz8 hN hi hx p hs hf,fun F H C σ τ D D' R S h d=>?_⟩
 refine s F H C σ τ _ _ D'.xc R S h fun x v H1 C1 R1 t1 rx h1=>?_
 exact J1 F H1 C1 σ τ x v _ _ D'.xc R1 (S.tx t1) rx h1 fun σ' τ' H' C' R' t'=>d.nx σ' τ' H' C' R' (t1.trans t')
end
def Zge (K:W.Frag)(F H0:Hp)(J:It)(xs:List T)(ok:Hw→Prop):Prop:=∀(i:Nat) (H:Hp) (C:Hw),Rl K F H C→Tx H0 H→ok C→
 (i<xs.length→J.go i H∧∀x H',J.yld i H x H'→∃v,xs[i]?=some v∧Rl K F H' C∧Tx H H'∧Rep K H' x v)∧(i=xs.length→J.stop i H)
def SimI (K:W.Frag)(wi:TI)(w:WI):Prop:=∀(F H:Hp) (C:Hw) (σ:L2.St) (τ:Sw) (R:It→Hp→Prop) (R':List T→(Hw→Prop)→Hw→Prop) (χ:WX),Rl K F H C→RepS K H σ τ→w τ C R' χ→
 (∀J H' xs ok C',Rl K F H' C'→Tx H H'→(∀F',Zge K F' H' J xs ok)→R' xs ok C'→R J H')→wi σ H R
def SdI (X:Cx)(tg e:Expr)(w:WI):Prop:=∃t,PI X tg e t∧SimI X.K t w
section
variable {X:Cx}{tg e a b:Expr}{we:WE}{wA:WA}{pos p:Pos}
theorem Zxy {K:W.Frag}{F H0:Hp}{l:Addr}{xs:List T}:Zge K F H0 (Itl K l) xs (fun C=>C l=some (.lst xs)):=fun i H C R t ok=>by
 obtain⟨ys,hy,r⟩:=R.lst ok
 refine⟨fun hi=>?_,fun hi=>⟨ys,SqL.of hy,by rw[r.length];omega⟩⟩
 have ev:xs[i]?=some xs[i]:=by simp[hi]
 obtain⟨y,ey,ry⟩:=r.get ev
 refine⟨⟨ys,y,SqL.of hy,ey⟩,fun x H' h=>?_⟩
 obtain⟨rfl,h⟩:=h
 have e2:=h ys (SqL.of hy)
 rw[ey] at e2;cases e2
 exact⟨_,ev,R,Tx.refl _,ry⟩
theorem it_cl {K:W.Frag}{F H0:Hp}{l:Addr}{ys:List V}{xs:List T}(h0:SqC K H0 l ys)(r0:Reps K H0 ys xs):Zge K F H0 (Itl K l) xs (fun _=>True):=fun i H C R t ok=>by
 have hy:=(t.sqc h0).sq
 have r:=r0.tx t
 refine⟨fun hi=>?_,fun hi=>⟨ys,hy,by rw[r.length];omega⟩⟩
 have ev:xs[i]?=some xs[i]:=by simp[hi]
 obtain⟨y,ey,ry⟩:=r.get ev
 refine⟨⟨ys,y,hy,ey⟩,fun x H' h=>?_⟩
 obtain⟨rfl,h⟩:=h
 have e2:=h ys hy
 rw[ey] at e2;cases e2
 exact⟨_,ev,R,Tx.refl _,ry⟩
theorem Z1h {K:W.Frag}{F H0:Hp}{l:Addr}{ys:List V}{xs:List T}(h0:SqT K H0 l ys)(r0:Reps K H0 ys xs):Zge K F H0 (Itt K l) xs (fun _=>True):=fun i H C R t ok=>by
 have hy:=t.sqt h0
 have r:=r0.tx t
 refine⟨fun hi=>?_,fun hi=>⟨ys,hy,by rw[r.length];omega⟩⟩
 have ev:xs[i]?=some xs[i]:=by simp[hi]
 obtain⟨y,ey,ry⟩:=r.get ev
 refine⟨⟨ys,y,hy,ey⟩,fun x H' h=>?_⟩
 obtain⟨rfl,h⟩:=h
 have e2:=h ys hy
 rw[ey] at e2;cases e2
 exact⟨_,ev,R,Tx.refl _,ry⟩
theorem Z1i {K:W.Frag}{F H0:Hp}{z:Str}:Zge K F H0 (Its z) (z.cps.toList.map fun c=>T.str ⟨#[c]⟩) (fun _=>True):=fun i H C R t ok=>by
 refine⟨fun hi=>⟨by show i<z.cps.size;simpa using hi,fun x H' h=>?_⟩,fun hi=>by show i=z.cps.size;simpa using hi⟩
 obtain⟨rfl,c,hc,rfl⟩:=h
 refine⟨.str ⟨#[c]⟩,?_,R,Tx.refl _,J2⟩
 rw[XM,Array.getElem?_toList,hc];rfl
theorem Z1j {K:W.Frag}{F H0:Hp}{lo:Int}{n:Nat}:Zge K F H0 (Itr lo n) (rng lo n) (fun _=>True):=fun i H C R t ok=>by
 have hl:(rng lo n).length=n:=by unfold rng;simp
 refine⟨fun hi=>⟨by rw[hl] at hi;exact hi,fun x H' h=>?_⟩,fun hi=>by show n≤i;omega⟩
 obtain⟨rfl,rfl⟩:=h
 refine⟨.int (lo+i),?_,R,Tx.refl _,Xf⟩
 unfold rng
 rw[hl] at hi
 rw[XM,List.getElem?_range hi];rfl
theorem Zsw {pins:List (Addr×Obj)}{σ:L2.St}{H1:Hp}{s1:Shared}{R:It→Hp→Prop}{z:Str}{v:Value}(I1:Inv X pins σ H1 s1)(r1:Z3 (.str z) v)(q:R (Its z) H1):wpAny (model X.prog X.w) X.A (pyIter v) (PIE X pins σ tg R) X.xe s1:=by
 obtain⟨t,rfl⟩:=r1
 have fin:∀b∈[s1.heap.objs.size],FpOk X pins H1 b:=fun b hb=>by
  have e:b=s1.heap.objs.size:=by simpa using hb
  subst e
  exact I1.fpOk (XE _) I1.fresh
 cases ha:z.cps.all (·<128)
 ·refine wpAny_pyIter_wide ha ⟨s1.heap.objs.size,[s1.heap.objs.size],_,_,H1,rfl,I1.kept (t':=s1.toks) fun b o e=>XC _ e,Zh5 (ty:="str_iterator") (by decide) (fun A hA=>Walks.strWide hA _ z t) fun _ _ _ _ _ st h=>wpAny_pyIter_striter_wide st h,⟨_,XF _ rfl,rfl,rfl⟩,fin,q⟩
 ·refine wpAny_pyIter_ascii ha ⟨s1.heap.objs.size,[s1.heap.objs.size],_,_,H1,rfl,I1.kept (t':=s1.toks) fun b o e=>XC _ e,Zh5 (ty:="str_ascii_iterator") (by decide) (fun A hA=>Walks.strAscii hA _ z t) fun _ _ _ _ _ st h=>wpAny_pyIter_striter_ascii st h,⟨_,XF _ rfl,rfl,rfl⟩,fin,q⟩
def iDyn (K:W.Frag)(tl:TE):TI:=fun σ H R=>tl σ H fun x H1=>(∃a,x=.ref a∧(∃xs,SqL K H1 a xs)∧R (Itl K a) H1)∨(∃a,x=.ref a∧(∃xs,SqT K H1 a xs)∧R (Itt K a) H1)∨∃z,x=.str z∧R (Its z) H1
theorem Z0h {tl:TE}(hl:PE X e tl):PI X tg e (iDyn X.K tl):=by
 intro pins s σ H R I h
 refine thn (hl pins s σ H _ I h) fun v s1 ⟨x,H1,I1,r1,q1⟩=>?_
 rcases q1 with⟨a,rfl,⟨xs,hq⟩,q⟩ | ⟨a,rfl,⟨xs,hq⟩,q⟩ | ⟨z,rfl,q⟩
 ·cases r1
  obtain⟨its,rv,p,hz⟩:=I1.list hq
  refine wpAny_pyIter_list p.isList ?_
  refine⟨s1.heap.objs.size,[s1.heap.objs.size],_,_,H1,rfl,I1.kept (t':=s1.toks) fun b o e=>XC _ e,Zq7 a _,⟨_,XF _ rfl,rfl,rfl⟩,fun b hb=>?_,q⟩
  have e:b=s1.heap.objs.size:=by simpa using hb
  subst e
  exact I1.fpOk (XE _) (I1.hok.fresh (XE _))
 ·cases r1
  obtain⟨its,rv,p,hz⟩:=I1.tuple hq
  refine wpAny_pyIter_tuple (show s1.heap.IsTuple a its.toArray from p) ?_
  refine⟨s1.heap.objs.size,[s1.heap.objs.size],_,_,H1,rfl,I1.kept (t':=s1.toks) fun b o e=>XC _ e,Zon a _,⟨_,XF _ rfl,rfl,rfl⟩,fun b hb=>?_,q⟩
  have e:b=s1.heap.objs.size:=by simpa using hb
  subst e
  exact I1.fpOk (XE _) (I1.hok.fresh (XE _))
 ·exact Zsw I1 r1 q
theorem Zb8 (h:SdE X e we):SdI X tg e (iSeq we):=by
 obtain⟨t,p,s⟩:=h
 refine⟨_,Z0h p,fun F H C σ τ R R' χ Rr S h q=>?_⟩
 refine s F H C σ τ _ _ χ Rr S h fun x v H1 C1 R1 t1 rx h1=>?_
 cases v with
 | tup xs=>
  obtain⟨a,ys,rfl,hq,r⟩:=Yf rx
  exact .inr (.inl ⟨a,rfl,⟨ys,hq⟩,q _ H1 xs _ C1 R1 t1 (fun _=>Z1h hq r) h1⟩)
 | cl xs=>
  obtain⟨a,ys,rfl,hq,r⟩:=Zdw rx
  exact .inl ⟨a,rfl,⟨ys,hq.sq⟩,q _ H1 xs _ C1 R1 t1 (fun _=>it_cl hq r) h1⟩
 | str z=>cases Jo rx;exact .inr (.inr ⟨z,rfl,q _ H1 _ _ C1 R1 t1 (fun _=>Z1i) h1⟩)
 | ref a=>
  cases Z1 rx
  obtain⟨xs,hx,h1⟩:=h1
  obtain⟨ys,hy,r⟩:=R1.lst hx
  exact .inl ⟨a,rfl,⟨ys,SqL.of hy⟩,q _ H1 xs _ C1 R1 t1 (fun _=>Zxy) h1⟩
 | _=>exact False.elim h1
theorem Zn8 (hg:Gl X "range")(hm:X.mg "range"=none)(ha:SdA X [a] wA)(hs:starEach [a] X.env=[(false,eval a X.env)]:=by rfl):SdI X tg (.Call (.Name "range" p) [a] [] pos) (iR1 wA):=by
 obtain⟨t,p1,s⟩:=ha
 refine⟨_,Zri hg hm p1 hs,fun F H C σ τ R R' χ Rr S h q=>?_⟩
 refine s F H C σ τ _ _ χ Rr S h fun xs vs H1 C1 R1 t1 rs h1=>?_
 obtain⟨j,rfl,h2,h3,h1⟩:=h1
 obtain⟨x,rfl,rx⟩:=Zaw rs
 cases Yg rx
 exact⟨j,rfl,h2,h3,q _ H1 _ _ C1 R1 t1 (fun _=>Z1j) h1⟩
end
theorem Zwm {K:W.Frag}{wi:TI}{g:TG}{tb:TS}{i:WI}{g':WG}{b:WS}(hi:SimI K wi i)(hg:SimG K g g')(hb:SimS K tb b):SimS K (tFor wi g tb) (sFor i g' b):=fun F H C σ τ D D' R S h d=>by
 refine hi F H C σ τ _ _ D'.xc R S h fun J H1 xs ok C1 R1 t1 it h1=>?_
 have it1:=it F
 refine⟨fun i m σ H=>m=xs.length-i∧i≤xs.length∧∃τ C,Rl K F H C∧Tx H1 H∧RepS K H σ τ∧forW g' b ok D' (xs.drop i) τ C,⟨xs.length,by simp,Nat.zero_le _,τ,C1,R1,Tx.refl _,S.tx t1,h1⟩,?_⟩
 rintro i m σ2 H2 ⟨rfl,hle,τ2,C2,R2,t2,S2,h2⟩
 by_cases hlt:i<xs.length
 ·right
  have ed:xs.drop i=xs[i]::xs.drop (i+1):=List.drop_eq_getElem_cons hlt
  rw[ed] at h2
  obtain⟨hok,h2⟩:=h2
  obtain⟨hgo,hy⟩:=(it1 i H2 C2 R2 t2 hok).1 hlt
  refine⟨hgo,fun σ' H'=>∃τ' C',Rl K F H' C'∧Tx H1 H'∧RepS K H' σ' τ'∧forW g' b ok D' (xs.drop (i+1)) τ' C',fun σ' H' q=>⟨xs.length-(i+1),by omega,rfl,hlt,q⟩,fun x H' hx=>?_⟩
  obtain⟨v,ev,R3,t3,rv⟩:=hy x H' hx
  have:v=xs[i]:=by
   have e:xs[i]?=some xs[i]:=by simp[hlt]
   rw[e] at ev;exact(YH ev).symm
  subst this
  refine hg F H' C2 σ2 τ2 x _ _ _ D'.xc R3 (S2.tx t3) rv h2 fun σ4 τ4 H4 C4 R4 t4 S4 h4=>?_
  have tt:Tx H1 H4:=(t2.trans t3).trans t4
  exact hb F H4 C4 σ4 τ4 _ _ R4 S4 h4 ⟨fun σ5 τ5 H5 C5 R5 t5 S5 h5=>⟨τ5,C5,R5,tt.trans t5,S5,h5⟩,fun x v H5 C5 R5 t5=>d.rt x v H5 C5 R5 ((t1.trans tt).trans t5),fun σ5 τ5 H5 C5 R5 t5 S5 h5=>d.nx σ5 τ5 H5 C5 R5 ((t1.trans tt).trans t5) S5 h5,
   fun σ5 τ5 H5 C5 R5 t5 S5 h5=>⟨τ5,C5,R5,tt.trans t5,S5,h5⟩⟩
 ·left
  have e:i=xs.length:=by omega
  subst e
  rw[List.drop_length] at h2
  obtain⟨hok,h2⟩:=h2
  exact⟨(it1 _ H2 C2 R2 t2 hok).2 rfl,d.nx σ2 τ2 H2 C2 R2 (t1.trans t2) S2 h2⟩
theorem Zcp {X:Cx}{tg iter:Expr}{body:List Stmt}{i:WI}{g:WG}{b:WS}{pos:Pos}(hp:PassesOwn (model X.prog X.w) X.A X.env X.xe)(hc:X.calm=true)(hi:SdI X tg iter i)(hg:SdG X tg g)(hb:SdB X body b)
  (hs:∀x,foldedSetIterable iter X.env x=pure x:=by intro _;rfl):SdS X (.For tg iter body [] pos) (sFor i g b):=by
 obtain⟨t,p,s⟩:=hi
 obtain⟨t',p',s'⟩:=hg
 obtain⟨t2,p2,s2⟩:=hb
 exact⟨_,Z0a hp hc p p' p2 hs,Zwm s s' s2⟩
def tOf (K:W.Frag)(we:WE):TE:=fun σ H Q=>∃(F:Hp) (C:Hw) (τ:Sw) (Q':WK) (χ:WX),Rl K F H C∧RepS K H σ τ∧we τ C Q' χ∧QE K F H Q Q'
def ttOf (K:W.Frag)(wt:WT):TT:=fun σ H Q=>∃(F:Hp) (C:Hw) (τ:Sw) (Q':Bool→Hw→Prop) (χ:WX),Rl K F H C∧RepS K H σ τ∧wt τ C Q' χ∧QT K F H Q Q'
theorem SdE.pe {X:Cx}{e:Expr}{we:WE}(h:SdE X e we):PE X e (tOf X.K we):=by
 obtain⟨t,p,s⟩:=h
 intro pins st σ H Q I hq
 obtain⟨F,C,τ,Q',χ,R,S,hw,q⟩:=hq
 exact p pins st σ H Q I (s F H C σ τ Q Q' χ R S hw q)
def SdIf (X:Cx)(ifs:List Expr)(w:WT):Prop:=∃t,PIfs X ifs t∧SimT X.K t w
theorem Zbf {X:Cx}:SdIf X [] tYes:=⟨_,Zxa,fun F H C σ τ Q Q' χ R S h q=>q true H C R (Tx.refl H) h⟩
theorem SdIf.pif {X:Cx}{ifs:List Expr}{w:WT}(h:SdIf X ifs w):PIfs X ifs (ttOf X.K w):=by
 obtain⟨t,p,s⟩:=h
 intro pins st σ H Q I hq
 obtain⟨F,C,τ,Q',χ,R,S,hw,q⟩:=hq
 exact p pins st σ H Q I (s F H C σ τ Q Q' χ R S hw q)
theorem RepS.cap {K:W.Frag}{H:Hp}{σ:L2.St}{τ:Sw}(h:RepS K H σ τ)(cap:List (Option Nat)):RepS K H (capS cap σ) (capW cap τ):=by
 refine⟨by unfold capS capW;rw[XI,XI],fun i v e=>?_⟩
 unfold capW at e
 unfold capS
 rw[XM] at e ⊢
 cases ho:cap[i]? with
 | none=>rw[ho] at e;cases e
 | some o=>
  rw[ho] at e
  cases o with
  | none=>simp at e
  | some j=>
   have e':(τ[j]?).join=some v:=by simpa using e
   have e2:τ[j]?=some (some v):=by
    cases hj:τ[j]? with
    | none=>rw[hj] at e';cases e'
    | some z=>rw[hj] at e';rw[show z=some v from e']
   obtain⟨x,hx,r⟩:=h.2 j v e2
   exact⟨x,by simp[hx],r⟩
def frP (F:Hp)(p:Addr)(ys:List V):Hp:=fun b=>if b=p then some (.lst ys) else F b
theorem Zf6 {F:Hp}{p:Addr}{ys:List V}:frP F p ys p=some (.lst ys):=by unfold frP;rw[XY rfl]
theorem Zl2 {F:Hp}{p b:Addr}{ys:List V}(h:b≠p):frP F p ys b=F b:=by unfold frP;rw[XX h]
theorem Zm0 {K:W.Frag}{cap:List (Option Nat)}{wi:TI}{g:TG}{i:WI}{wg:WG}{wc:WT}{we:WE}(hi:SimI K wi i)(hg:SimG K g wg){F H:Hp}{C:Hw}{σ:L2.St}{τ:Sw}{Q:Addr→Hp→Prop}{Q':WK}{χ:WX}
  (R:Rl K F H C) (S:RepS K H σ τ) (h:Zci cap i wg wc we τ C Q' χ) (q:∀p H' C',Rl K F H' C'→Tx H H'→Q' (.ref p) C'→Q p H'):Zk9 cap wi g (ttOf K wc) (tOf K we) σ H Q:=by
 refine hi F H C σ τ _ _ χ R S h fun J H1 xs ok C1 R1 t1 it h1=>?_
 intro p hp
 have hn:∀a o,F a=some o→a≠p:=fun a o e=>J9 (R1.frm a o e).1 hp
 refine⟨fun i m H2=>m=xs.length-i∧i≤xs.length∧∃C2 ys acc,Rl K (frP F p ys) H2 C2∧Tx H1 H2∧Reps K H2 ys acc∧Zgb wg wc we ok (capW cap τ) (fun vs C2=>∀p,C2 p=none→Q' (.ref p) (up C2 p (.lst vs))) χ (xs.drop i) acc C2,
  ⟨xs.length,by simp,Nat.zero_le _,C1,[],[],?_,Tx.new hp,Jx,h1⟩,?_⟩
 ·refine⟨(R1.hid hp).obj,fun a o e=>?_⟩
  by_cases ea:a=p
  ·subst ea
   rw[Zf6] at e;cases e
   exact⟨Yh,R1.free hp⟩
  ·rw[Zl2 ea] at e
   exact(R1.hid hp).frm a o e
 rintro i m H2 ⟨rfl,hle,C2,ys,acc,R2,t2,ra,h2⟩
 by_cases hlt:i<xs.length
 ·right
  have ed:xs.drop i=xs[i]::xs.drop (i+1):=List.drop_eq_getElem_cons hlt
  rw[ed] at h2
  obtain⟨hok,h2⟩:=h2
  obtain⟨hgo,hy⟩:=(it (frP F p ys) i H2 C2 R2 t2 hok).1 hlt
  refine⟨hgo,fun H'=>∃C2 ys acc,Rl K (frP F p ys) H' C2∧Tx H1 H'∧Reps K H' ys acc∧Zgb wg wc we ok (capW cap τ) (fun vs C2=>∀p,C2 p=none→Q' (.ref p) (up C2 p (.lst vs))) χ (xs.drop (i+1)) acc C2,
   fun H' z=>⟨xs.length-(i+1),by omega,rfl,hlt,z⟩,fun x H' hx=>?_⟩
  obtain⟨v,ev,R3,t3,rv⟩:=hy x H' hx
  have:v=xs[i]:=by
   have e:xs[i]?=some xs[i]:=by simp[hlt]
   rw[e] at ev;exact(YH ev).symm
  subst this
  have S3:RepS K H' (capS cap σ) (capW cap τ):=(S.tx ((t1.trans t2).trans t3)).cap cap
  refine hg (frP F p ys) H' C2 (capS cap σ) (capW cap τ) x _ _ _ χ R3 S3 rv h2 fun σ4 τ4 H4 C4 R4 t4 S4 h4=>?_
  refine⟨frP F p ys,C4,τ4,_,χ,R4,S4,h4,fun b H5 C5 R5 t5 h5=>?_⟩
  have t15:Tx H2 H5:=(t3.trans t4).trans t5
  cases b with
  | true=>
   refine⟨frP F p ys,C5,τ4,_,χ,R5,S4.tx t5,h5,fun y vy H6 C6 R6 t6 ry h6=>?_⟩
   obtain⟨e6,n6⟩:=R6.frm p _ Zf6
   have tp:Tx H6 (upd H6 p (.lst (ys++[y]))):=Tx.put e6 (fun z=>z)
   refine⟨ys,e6,by rw[ra.length];exact h6.1,C6,ys++[y],acc++[vy],⟨fun a o e=>?_,fun a o e=>?_⟩,(t2.trans (t15.trans t6)).trans tp,((ra.tx (t15.trans t6)).snoc ry).tx tp,h6.2⟩
   ·have ea:a≠p:=fun z=>by subst z;rw[n6] at e;cases e
    exact(R6.obj a o e).stay tp (Z4 ea)
   ·by_cases ea:a=p
    ·subst ea
     rw[Zf6] at e;cases e
     exact⟨Yh,n6⟩
    ·rw[Zl2 ea] at e
     rw[Z4 ea]
     exact R6.frm a o (by rw[Zl2 ea];exact e)
  | false=>exact⟨C5,ys,acc,R5,t2.trans t15,ra.tx t15,h5⟩
 ·left
  have e:i=xs.length:=by omega
  subst e
  rw[List.drop_length] at h2
  obtain⟨hok,h2⟩:=h2
  refine⟨(it (frP F p ys) _ H2 C2 R2 t2 hok).2 rfl,?_⟩
  obtain⟨e6,n6⟩:=R2.frm p _ Zf6
  refine q p H2 (up C2 p (.lst acc)) ⟨fun a o e=>?_,fun a o e=>?_⟩ (t1.trans t2) (h2 p n6)
  ·by_cases ea:a=p
   ·subst ea
    rw[Zn] at e;cases e
    exact⟨ys,e6,ra⟩
   ·rw[Zx ea] at e
    exact R2.obj a o e
  ·have ea:=hn a o e
   rw[Zx ea]
   exact R2.frm a o (by rw[Zl2 ea];exact e)
section
variable {X:Cx}{tg iter elt:Expr}{ifs:List Expr}{scope:Scope}{pos:Pos}{cN:List Str}{cap:List (Option Nat)}{cl:List (Str×Addr)}{js:List Nat}{i:WI}{g:TG}{wg:WG}{wc:WT}{we:WE}
theorem Zj8 {K:W.Frag}{w:WT}:∀(σ:L2.St) (H:Hp) (Q Q':Bool→Hp→Prop),(∀b H',Q b H'→Q' b H')→ttOf K w σ H Q→ttOf K w σ H Q':=fun σ H Q Q' m h=>by
 obtain⟨F,C,τ,R',χ,R,S,hw,q⟩:=h
 exact⟨F,C,τ,R',χ,R,S,hw,fun b H' C' r t h=>m _ _ (q b H' C' r t h)⟩
structure CompD (X:Cx)(tg iter elt:Expr)(ifs:List Expr)(scope:Scope)(cN:List Str)(cap:List (Option Nat))(cl:List (Str×Addr))(js:List Nat)(i:WI)(g:TG)(wg:WG)(wc:WT)(we:WE):Prop where
 calm:X.calm=true
 ok:X.Ok→CompOk X cN cap scope cl
 it:SdI X tg iter i
 tgt:∀fp s H,PG (Jc X cN scope cl fp s H) tg g
 gm:Zff g
 gk:Zk0 js g
 sg:SimG X.K g wg
 js0:∀j∈js,(cap[j]?).join=none
 ts:∀fp s H,SdIf (Jc X cN scope cl fp s H) ifs wc
 el:∀fp s H,SdE (Jc X cN scope cl fp s H) elt we
 fold:∀x,foldedSetIterable iter X.env x=pure x
theorem Zg1 (D:CompD X tg iter elt ifs scope cN cap cl js i g wg wc we):SdE X (.ListComp elt [⟨tg,iter,ifs,0⟩] scope pos) (Zci cap i wg wc we):=by
 obtain⟨wi,p,s⟩:=D.it
 have P:CompP X tg iter elt ifs scope cN cap cl js wi g (ttOf X.K wc) (tOf X.K we):=⟨D.calm,D.ok,p,D.tgt,D.gm,D.gk,D.js0,fun fp s H=>(D.ts fp s H).pif,Zj8,fun fp s H=>(D.el fp s H).pe,D.fold⟩
 exact⟨_,Zxf P,fun F H C σ τ Q Q' χ R S h q=>Zm0 s D.sg R S h fun p H' C' R' t' h'=>q _ _ H' C' R' t' J0 h'⟩
theorem Zdc {k:Nat}{y:Str}{py spos:Pos}(hN:X.N.Nodup)(hi:X.N[k]?=some y)(hy:X.env.scope.names.lookup y=some .local)
  (hsw:swapsWith (.ListComp elt [⟨tg,iter,ifs,0⟩] scope pos) (some (.Name y py)) spos.line X.env=pure true)
  (D:CompD X tg iter elt ifs scope cN cap cl js i g wg wc we):SdS X (.Assign [.Name y py] (.ListComp elt [⟨tg,iter,ifs,0⟩] scope pos) spos) (Z0 (Zci cap i wg wc we) (gNm k)):=by
 obtain⟨wi,p,s⟩:=D.it
 have P:CompP X tg iter elt ifs scope cN cap cl js wi g (ttOf X.K wc) (tOf X.K we):=⟨D.calm,D.ok,p,D.tgt,D.gm,D.gk,D.js0,fun fp s H=>(D.ts fp s H).pif,Zj8,fun fp s H=>(D.el fp s H).pe,D.fold⟩
 exact⟨_,Zox hN hi hy hsw P,fun F H C σ τ E E' R S h d=>Zm0 s D.sg R S h fun p H' C' R' t' h'=>d.nx _ _ H' C' R' t' ((S.tx t').set J0) h'⟩
end
theorem hu150 {A:Around}{k:Nat}(hr:Room k A):A.units+150<cLine:=by have:=hr.un;omega
def spW (K:W.Frag)(pr:List Df)(n i:Nat):Sp:=fun vs H Q _=>∃(F:Hp) (C:Hw) (vs':List T) (Q':WK) (χ:WX),Rl K F H C∧Reps K H vs vs'∧wpc pr n i vs' C Q' χ∧QE K F H Q Q'
theorem Ya {X:Cx}{k i:Nat}{x:Str}{ps:List Str}{pr:List Df}{p pos:Pos}{e:Expr}{es:List Expr}{wA:WA}(Cc:Ca X.prog X.w X.K X.mg X.base k x ps (spW X.K pr k i))(hr:Room k X.A)(hg:Gl X x)(ha:SdA X (e::es) wA)
  (hdb:(x==("__debug__":Str))=false:=by decide) (he:starEach (e::es) X.env=(false,eval e X.env)::starEach es X.env:=by rfl) (hpl:(backTo pos (starEach es X.env)).any (·.1)=false:=by rfl):
  SdE X (.Call (.Name x p) (e::es) [] pos) (Z7 (wpc pr k) i wA):=by
 obtain⟨t,p1,s⟩:=ha
 refine⟨_,pe_ca Cc hr hg p1 hdb he hpl,fun F H C σ τ Q Q' χ R S h q=>?_⟩
 refine s F H C σ τ _ _ χ R S h fun xs vs H1 C1 R1 t1 rs h1=>?_
 refine⟨F,C1,vs,Q',χ,R1,?_,h1,QE.at q t1⟩
 rw[YK];exact rs
theorem RepS.start {K:W.Frag}{H:Hp}{vs:List V}{vs':List T}(h:Reps K H vs vs')(N:List Str)(m:Nat)(e:m=N.length-vs.length):RepS K H (start N vs) (vs'.map some++List.replicate m none):=by
 refine⟨?_,fun i v hv=>?_⟩
 ·unfold L2.start
  rw[List.length_append,List.length_append,XI,XI,List.length_replicate,List.length_replicate,h.length,e,h.length]
 ·unfold L2.start
  by_cases hi:i<vs'.length
  ·rw[List.getElem?_append_left (by rw[XI];exact hi),XM] at hv
   cases hg:vs'[i]? with
   | none=>rw[hg] at hv;cases hv
   | some z=>
    rw[hg] at hv
    cases hv
    obtain⟨x,hx,r⟩:=h.get hg
    refine⟨x,?_,r⟩
    rw[List.getElem?_append_left (by rw[XI,h.length];exact hi),XM,hx]
    rfl
  ·rw[List.getElem?_append_right (by rw[XI];omega),List.getElem?_replicate] at hv
   split at hv
   ·cases hv
   ·cases hv
theorem Yx {P:Program}{w:World}{K:W.Frag}{mg:Str→Option Value}{base:Heap}{x:Str}{st:Stmt}{f:Addr}{fd:FuncData}{ps:List Str}{pr:List Df}{i:Nat}(F:Fun K x x st f fd)(hb:Binds K fd ps [])(hm:mg x=some (.ref f)):Ca P w K mg base 0 x ps (spW K pr 0 i):=
 ⟨f,fd,⟨fun vs H Q E h=>by obtain⟨_,_,_,_,_,_,_,z,_⟩:=h;exact z.elim,fun A outer s H args us vs Q E _ _ _ _ h=>by obtain⟨_,_,_,_,_,_,_,z,_⟩:=h;exact z.elim⟩,hb,F.kp,hm⟩
theorem Yy {P:Program}{w:World}{K:W.Frag}{mg:Str→Option Value}{base:Heap}{x:Str}{st:Stmt}{f:Addr}{fd:FuncData}{ps:List Str}{sp:Sp}{n:Nat}(F:Fun K x x st f fd)(hb:Binds K fd ps [])(hm:mg x=some (.ref f))(G:FnOk P w K mg base CX0 n f fd ps sp):Ca P w K mg base n x ps sp:=
 ⟨f,fd,G,hb,F.kp,hm⟩
theorem law_sp {K:W.Frag}{pr:List Df}{n i:Nat}{H:Hp}{a:Addr}{ns:List Int}(hO:Only H)(hS:SqL K H a (ns.map V.int))(h:wpc pr n i [.cl (ns.map T.int)] (fun _=>none) (fun v _=>v=.bl true) (fun _ _=>False)):
  spW K pr n i [.ref a] H (fun v _=>v=.bl true) (fun _ _ _=>False):=by
 have hq:SqC K H a (ns.map V.int):=by
  rcases hS with(h | ⟨o,h⟩) | h
  ·rcases hO a with e | ⟨o,xs,e⟩
   ·rw[e] at h;cases h
   ·rw[e] at h;cases h
  ·exact .inl ⟨o,h⟩
  ·exact .inr h
 refine⟨fun _=>none,fun _=>none,[.cl (ns.map T.int)],_,_,⟨(fun _ _ e=>by cases e),(fun _ _ e=>by cases e)⟩,Yp ?_ Jx,h,fun x v H' C' R t r e=>?_⟩
 ·unfold Rep
  exact⟨a,_,rfl,hq,Zgl ns⟩
 ·subst e;exact Zev r
end WL
namespace L2
open PySem PySem.Spec PyProof.Rows
section
variable {κ:Type}[DecidableEq κ]
def valV (kvs:List (κ×V))(k:κ):Option V:=(kvs.find? fun kv=>decide (kv.1=k)).map (·.2)
def putK (kvs:List (κ×V))(k:κ)(v:V):List (κ×V):=
 if (kvs.any fun kv=>decide (kv.1=k))=true then kvs.map (fun kv=>if kv.1=k then(kv.1,v) else kv) else kvs++[(k,v)]
def Zf9 (kvs:List (κ×V))(k:κ):List (κ×V):=kvs.filter fun kv=>decide (kv.1≠k)
theorem Zfi {p:κ×V}{r:List (κ×V)}{k:κ}(e:p.1=k):valV (p::r) k=some p.2:=by simp[valV,List.find?_cons,e]
theorem Zfj {p:κ×V}{r:List (κ×V)}{k:κ}(e:¬p.1=k):valV (p::r) k=valV r k:=by simp[valV,List.find?_cons,e]
theorem Zmu (k:κ):∀kvs:List (κ×V),(kvs.any fun kv=>decide (kv.1=k))=(valV kvs k).isSome
 | []=>rfl
 | p::r=>by
  rw[List.any_cons]
  by_cases e:p.1=k
  ·simp only[Zfi e,decide_eq_true e,Bool.true_or,Option.isSome_some]
  ·rw[Zfj e,YG e,Bool.false_or];exact Zmu k r
theorem Zdy (kvs:List (κ×V))(k:κ)(v:V):(putK kvs k v).length≤kvs.length+1:=by
 unfold putK
 split
 ·rw[XI];omega
 ·rw[List.length_append,YF,List.length_nil];omega
theorem RelO.isSome_eq {o:Option V}{u:Option Value}(r:RelO o u):o.isSome=u.isSome:=by
 cases o with
 | none=>cases u with
  | none=>rfl
  | some _=>exact(show False from r).elim
 | some _=>cases u with
  | none=>exact(show False from r).elim
  | some _=>rfl
theorem RelO.getD {o:Option V}{u:Option Value}{d:V}{d':Value}(r:RelO o u)(rd:Z3 d d'):Z3 (o.getD d) (u.getD d'):=by
 cases o with
 | none=>cases u with
  | none=>exact rd
  | some _=>exact(show False from r).elim
 | some _=>cases u with
  | none=>exact(show False from r).elim
  | some _=>exact r
theorem KV.val {kvs:List (κ×V)}{vs:List (κ×Value)}(r:KV kvs vs)(k:κ):RelO (valV kvs k) (valueAt vs k):=by
 unfold KV at r
 induction r with
 | nil=>exact True.intro
 | @cons p q ps qs h t ih=>
  obtain⟨h1,h2⟩:=h
  by_cases e:p.1=k
  ·have e':q.1=k:=h1.symm.trans e
   have b:valueAt (q::qs) k=some q.2:=by simp[valueAt,List.find?_cons,e']
   rw[Zfi e,b];exact h2
  ·have e':¬q.1=k:=fun z=>e (h1.trans z)
   have b:valueAt (q::qs) k=valueAt qs k:=by simp[valueAt,List.find?_cons,e']
   rw[Zfj e,b];exact ih
theorem KV.any {kvs:List (κ×V)}{vs:List (κ×Value)}(r:KV kvs vs)(k:κ):(kvs.any fun kv=>decide (kv.1=k))=vs.any fun kv=>decide (kv.1=k):=by
 unfold KV at r
 induction r with
 | nil=>rfl
 | cons h t ih=>rw[List.any_cons,List.any_cons,ih,h.1]
theorem KV.repl {kvs:List (κ×V)}{vs:List (κ×Value)}(r:KV kvs vs)(k:κ){y:V}{u:Value}(ry:Z3 y u):
  KV (kvs.map fun kv=>if kv.1=k then(kv.1,y) else kv) (vs.map fun kv=>if kv.1=k then(kv.1,u) else kv):=by
 unfold KV at r ⊢
 induction r with
 | nil=>exact .nil
 | @cons p q ps qs h t ih=>
  rw[YI,YI]
  refine .cons ?_ ih
  obtain⟨h1,h2⟩:=h
  by_cases e:p.1=k
  ·rw[XY e,XY (h1.symm.trans e)];exact⟨h1,ry⟩
  ·rw[XX e,XX (fun z=>e (h1.trans z))];exact⟨h1,h2⟩
theorem KV.put {kvs:List (κ×V)}{vs:List (κ×Value)}(r:KV kvs vs)(k:κ){y:V}{u:Value}(ry:Z3 y u):KV (putK kvs k y) (stored vs k u):=by
 unfold putK stored
 rw[r.any k]
 by_cases e:(vs.any fun kv=>decide (kv.1=k))=true
 ·rw[XY e,XY e];exact r.repl k ry
 ·rw[XX e,XX e];exact Paired.snoc r ⟨rfl,ry⟩
theorem KV.drop {kvs:List (κ×V)}{vs:List (κ×Value)}(r:KV kvs vs)(k:κ):KV (Zf9 kvs k) (without vs k):=by
 unfold KV at r ⊢
 unfold Zf9 without
 induction r with
 | nil=>exact .nil
 | @cons p q ps qs h t ih=>
  obtain⟨h1,h2⟩:=h
  rw[List.filter_cons,List.filter_cons]
  by_cases e:p.1=k
  ·have a:¬decide (p.1≠k)=true:=by simp[e]
   have b:¬decide (q.1≠k)=true:=by simp[h1.symm.trans e]
   rw[XX a,XX b];exact ih
  ·have e':¬q.1=k:=fun z=>e (h1.trans z)
   have a:decide (p.1≠k)=true:=by simp[e]
   have b:decide (q.1≠k)=true:=by simp[e']
   rw[XY a,XY b];exact .cons ⟨h1,h2⟩ ih
theorem KV.length {kvs:List (κ×V)}{vs:List (κ×Value)}(r:KV kvs vs):kvs.length=vs.length:=Paired.length r
theorem Zvl (kvs:List (κ×V))(k:κ):(Zf9 kvs k).length≤kvs.length:=List.length_filter_le _ _
end
theorem Zez {P:Program}{w:World}{k:Key}{u:Value}(r:Z3 (kV k) u):(Y9 P w).is k u=true:=by
 cases k with
 | inl i=>obtain⟨t,e⟩:=(show ∃t,u=Value.int i t from r);subst e;exact Zni P w i t
 | inr x=>obtain⟨t,e⟩:=(show ∃t,u=Value.str x t from r);subst e;exact Znh P w x t
theorem Zkp {P:Program}{w:World}:∀{ks:List Key} {us:List Value},Vals (ks.map kV) us→ItemsAre (Y9 P w) ks us
 | [],_,r=>by rw[List.map_nil] at r;cases r;exact .nil
 | k::ks,_,r=>by
  rw[YI] at r
  cases r with
  | cons h t=>exact .cons (Zez h) (Zkp t)
abbrev KT (H:Hp):List (List Key×V)→List (List Key×Addr×Value)→Prop:=Paired fun p q=>p.1=q.1∧H q.2.1=some (.tup (p.1.map kV))∧Z3 p.2 q.2.2
theorem KT.val {H:Hp}{kvs:List (List Key×V)}{xs:List (List Key×Addr×Value)}(r:KT H kvs xs)(k:List Key):RelO (valV kvs k) ((atKey xs k).map (·.2)):=by
 induction r with
 | nil=>exact True.intro
 | @cons p q ps qs h t ih=>
  obtain⟨h1,_,h2⟩:=h
  by_cases e:p.1=k
  ·have e':q.1=k:=h1.symm.trans e
   have b:atKey (q::qs) k=some q.2:=by simp[atKey,List.find?_cons,e']
   rw[Zfi e,b];exact h2
  ·have e':¬q.1=k:=fun z=>e (h1.trans z)
   have b:atKey (q::qs) k=atKey qs k:=by simp[atKey,List.find?_cons,e']
   rw[Zfj e,b];exact ih
theorem KT.repl {H:Hp}{kvs:List (List Key×V)}{xs:List (List Key×Addr×Value)}(r:KT H kvs xs)(k:List Key){y:V}{u:Value}(ry:Z3 y u):
  KT H (kvs.map fun kv=>if kv.1=k then(kv.1,y) else kv) (xs.map (putAt k u)):=by
 induction r with
 | nil=>exact .nil
 | @cons p q ps qs h t ih=>
  rw[YI,YI]
  refine .cons ?_ ih
  obtain⟨h1,h2,h3⟩:=h
  unfold putAt
  by_cases e:p.1=k
  ·rw[XY e,XY (h1.symm.trans e)];exact⟨h1,h2,ry⟩
  ·rw[XX e,XX (fun z=>e (h1.trans z))];exact⟨h1,h2,h3⟩
theorem KT.put {H:Hp}{kvs:List (List Key×V)}{xs:List (List Key×Addr×Value)}(r:KT H kvs xs)(k:List Key){b:Addr}{y:V}{u:Value}(hb:H b=some (.tup (k.map kV)))(ry:Z3 y u):
  KT H (putK kvs k y) (storedH xs k b u):=by
 have e:(kvs.any fun kv=>decide (kv.1=k))=(atKey xs k).isSome:=by
  rw[Zmu,(r.val k).isSome_eq,Option.isSome_map]
 unfold putK storedH
 rw[e]
 by_cases q:(atKey xs k).isSome=true
 ·rw[XY q,XY q];exact r.repl k ry
 ·rw[XX q,XX q];exact Paired.snoc r ⟨rfl,hb,ry⟩
theorem KT.keeps {H H':Hp}{kvs:List (List Key×V)}{xs:List (List Key×Addr×Value)}(r:KT H kvs xs)(ht:∀b ys,H b=some (.tup ys)→H' b=some (.tup ys)):KT H' kvs xs:=
 Paired.mapP r fun _ _ z=>⟨z.1,ht _ _ z.2.1,z.2.2⟩
section
variable {P:Program}{w:World}{H:Hp}{h:Heap}{a:Addr}
theorem Zyx {u:HO}(ok:HOk P w H h)(e:Rd H a u):Xb P w H h a u:=e.ok ok
theorem Ze0 {kvs:List (Key×V)}(ok:HOk P w H h)(e:Rd H a (.dK kvs)):kvs.length≤sizeLine∧(a==sysModules)=false∧∃vs,KV kvs vs∧h.DictOf (Y9 P w) a vs:=
 show Xb P w H h a (.dK kvs) from Zyx ok e
theorem Zqu {kvs:List (Key×V)}(ok:HOk P w H h)(e:H a=some (.dK kvs)):kvs.length≤sizeLine∧(a==sysModules)=false∧∃vs,KV kvs vs∧h.DictOf (Y9 P w) a vs:=Ze0 ok (.inl e)
theorem Zgw {ks:List Key}(ok:HOk P w H h)(e:H a=some (.tup (ks.map kV))):(tupleKind (Y9 P w)).is h ks a:=by
 obtain⟨_,its,r,o,h1,h2,n,h3⟩:=(show Xb P w H h a (.tup (ks.map kV)) from ok a _ e)
 exact⟨o,its.toArray,n,h1,h2,h3,by simpa using Zkp r⟩
theorem Zjb {kvs:List (List Key×V)}(ok:HOk P w H h)(e:Rd H a (.dT kvs)):kvs.length≤sizeLine∧(a==sysModules)=false∧
  ∃xs,KT H kvs xs∧h.DictOfH (tupleKind (Y9 P w)) a xs:=by
 obtain⟨z,y,xs,r,o,es,ep,h1,h2,h3,h4,h5⟩:=(show Xb P w H h a (.dT kvs) from Zyx ok e)
 refine⟨z,y,xs,r,o,es,ep,h1,h2,h3,h4,fun x hx=>?_,h5⟩
 have all:∀{l:List (List Key×V)} {m:List (List Key×Addr×Value)},KT H l m→∀x∈m,(tupleKind (Y9 P w)).is h x.1 x.2.1:=by
  intro l m q
  induction q with
  | nil=>intro x hx;exact nomatch hx
  | @cons p q ps qs hq t ih=>
   intro x hx
   rcases List.mem_cons.mp hx with e | hx
   ·subst e
    exact Zgw ok (by rw[←hq.1];exact hq.2.1)
   ·exact ih x hx
 exact all r x hx
theorem dt_of {kvs:List (List Key×V)}(ok:HOk P w H h)(e:H a=some (.dT kvs)):kvs.length≤sizeLine∧(a==sysModules)=false∧
  ∃xs,KT H kvs xs∧h.DictOfH (tupleKind (Y9 P w)) a xs:=Zjb ok (.inl e)
end
def DGet (H:Hp)(a:Addr)(y:V)(r:Option V):Prop:=
 (∃kvs k,Rd H a (.dK kvs)∧y=kV k∧r=valV kvs k)∨∃kvs k b,Rd H a (.dT kvs)∧y=.ref b∧H b=some (.tup (k.map kV))∧r=valV kvs k
def DPut (H:Hp)(a:Addr)(y v:V)(H':Hp):Prop:=
 (∃kvs k,H a=some (.dK kvs)∧y=kV k∧kvs.length<sizeLine∧H'=upd H a (.dK (putK kvs k v)))∨
 ∃kvs k b,H a=some (.dT kvs)∧y=.ref b∧H b=some (.tup (k.map kV))∧kvs.length<sizeLine∧H'=upd H a (.dT (putK kvs k v))
theorem DPut.k {H:Hp}{a:Addr}{kvs:List (Key×V)}{k:Key}{v:V}(e:H a=some (.dK kvs))(hl:kvs.length<sizeLine):DPut H a (kV k) v (upd H a (.dK (putK kvs k v))):=.inl ⟨kvs,k,e,rfl,hl,rfl⟩
section
variable {X:Cx}{pins:List (Addr×Obj)}{σ:St}{H:Hp}{s:Shared}{a:Addr}{y v:V}{u r:Value}{o:Option V}{A:Around}{E:Value→Shared→Prop}
theorem Inv.big (I:Inv X pins σ H s):sysModules<s.heap.objs.size:=by
 have h:mainGlobals<s.heap.objs.size:=(I.mod.glob.keeps I.bk).lt
 exact Nat.lt_trans (by decide) h
theorem Zsa {Q:Value→Shared→Prop}(hu:A.units+1<cLine)(I:Inv X pins σ H s)(g:DGet H a y (some v))(ry:Z3 y u)(h:∀w' s',Inv X pins σ H s'→Z3 v w'→Q w' s'):
  wpAny (model X.prog X.w) A (getItem (.ref a) u) Q E s:=by
 rcases g with⟨kvs,k,e,ey,l⟩ | ⟨kvs,k,b,e,ey,eb,l⟩
 ·subst ey
  obtain⟨z,hd,vs,rel,dd⟩:=Ze0 I.hok e
  obtain⟨w',hw,rw'⟩:=RelO.some_of (v:=v) (o:=valueAt vs k) (by rw[l];exact rel.val k)
  exact wpAny_getItem_of (Zez ry) dd.mapOf hw (h w' _ (I.tok _) rw')
 ·subst ey
  cases (show u=Value.ref b from ry)
  obtain⟨z,hd,xs,rel,dd⟩:=Zjb I.hok e
  obtain⟨w',hw,rw'⟩:=RelO.some_of (v:=v) (o:=(atKey xs k).map (·.2)) (by rw[l];exact rel.val k)
  obtain⟨p,hp,hp2⟩:=Option.map_eq_some_iff.mp hw
  refine wpAny_getItem_heap (tupleKind_room_in1 hu) (Zgw I.hok eb) dd hp ?_
  rw[hp2]
  exact h w' _ (I.tok _) rw'
theorem d_in {Q:Value→Shared→Prop}(hu:A.units+1<cLine)(I:Inv X pins σ H s)(g:DGet H a y o)(ry:Z3 y u)(h:∀s',Inv X pins σ H s'→Q (.bool o.isSome) s'):
  wpAny (model X.prog X.w) A (compareOp .In u (.ref a)) Q E s:=by
 rcases g with⟨kvs,k,e,ey,l⟩ | ⟨kvs,k,b,e,ey,eb,l⟩
 ·subst ey
  obtain⟨z,hd,vs,rel,dd⟩:=Ze0 I.hok e
  refine wpAny_in_of (Zez ry) hd dd.mapOf ?_
  rw[←(rel.val k).isSome_eq,←l]
  exact h _ (I.tok _)
 ·subst ey
  cases (show u=Value.ref b from ry)
  obtain⟨z,hd,xs,rel,dd⟩:=Zjb I.hok e
  refine wpAny_in_heap (tupleKind_room_in1 hu) (Zgw I.hok eb) hd dd ?_
  have q:=(rel.val k).isSome_eq
  rw[Option.isSome_map] at q
  rw[←q,←l]
  exact h _ (I.tok _)
theorem Zye {Q:Value→Shared→Prop}(hu:A.units+1<cLine)(I:Inv X pins σ H s)(g:DGet H a y o)(ry:Z3 y u)(h:∀s',Inv X pins σ H s'→Q (.bool (!o.isSome)) s'):
  wpAny (model X.prog X.w) A (compareOp .NotIn u (.ref a)) Q E s:=by
 rcases g with⟨kvs,k,e,ey,l⟩ | ⟨kvs,k,b,e,ey,eb,l⟩
 ·subst ey
  obtain⟨z,hd,vs,rel,dd⟩:=Ze0 I.hok e
  refine wpAny_notIn_of (Zez ry) hd dd.mapOf ?_
  rw[←(rel.val k).isSome_eq,←l]
  exact h _ (I.tok _)
 ·subst ey
  cases (show u=Value.ref b from ry)
  obtain⟨z,hd,xs,rel,dd⟩:=Zjb I.hok e
  refine wpAny_notIn_heap (tupleKind_room_in1 hu) (Zgw I.hok eb) hd dd ?_
  have q:=(rel.val k).isSome_eq
  rw[Option.isSome_map] at q
  rw[←q,←l]
  exact h _ (I.tok _)
theorem Zh0 {h':Heap}{t':Nat}{ob:HO}(I:Inv X pins σ H s)(mu:Mut (H a))(hs:Heap.SameBut a s.heap h')(he:∃q,h'.get? a=some q)(new:Xb X.prog X.w (upd H a ob) h' a ob):
  Inv X pins σ (upd H a ob) {s with heap:=h',toks:=t'}:=
 I.write (x:=a) (e:=a) mu (.inl rfl) (fun b q hb z=>(hs.2 b hb).trans z) he new
theorem Zjc {P:Program}{w:World}{H':Hp}{h':Heap}{kvs:List (Key×V)}{vs:List (Key×Value)}(z:kvs.length≤sizeLine)(hd:(a==sysModules)=false)(rel:KV kvs vs)(dd:h'.DictOf (Y9 P w) a vs):
  Xb P w H' h' a (.dK kvs):=⟨z,hd,vs,rel,dd⟩
theorem Zr9 {H':Hp}{Q:Unit→Shared→Prop}(hu:A.units+1<cLine)(I:Inv X pins σ H s)(g:DPut H a y v H')(ry:Z3 y u)(rv:Z3 v r)(h:∀s',Inv X pins σ H' s'→Q () s'):
  wpAny (model X.prog X.w) A (setItem (.ref a) u r) Q E s:=by
 rcases g with⟨kvs,k,e,ey,l,eH⟩ | ⟨kvs,k,b,e,ey,eb,l,eH⟩
 ·subst ey eH
  obtain⟨z,hd,vs,rel,dd⟩:=Zqu I.hok e
  have hz:vs.length≤sizeLine:=by rw[←rel.length];exact z
  have hl:(putK kvs k v).length≤sizeLine:=by have:=Zdy kvs k v;omega
  refine wpAny_setItem_pairs (hsz:=hz) (Zez ry) dd fun h' dd' hs=>h _ ?_
  have he:∃q,h'.get? a=some q:=let ⟨q,_,_,hq,_⟩:=dd';⟨q,hq⟩
  exact Zh0 I (by rw[e];exact True.intro) hs he (Zjc hl hd (rel.put k rv) dd')
 ·subst ey eH
  cases (show u=Value.ref b from ry)
  obtain⟨z,hd,xs,rel,dd⟩:=dt_of I.hok e
  have hz:xs.length≤sizeLine:=by rw[←Paired.length rel];exact z
  have hl:(putK kvs k v).length≤sizeLine:=by have:=Zdy kvs k v;omega
  refine wpAny_setItem_heap (hsz:=hz) (tupleKind_room_in1 hu) (Zgw I.hok eb) dd fun h' dd' hs=>h _ ?_
  obtain⟨q,es,ep,hq,h2,h3,h4,_,h5⟩:=dd'
  refine Zh0 I (by rw[e];exact True.intro) hs ⟨q,hq⟩ ⟨hl,hd,_,(rel.put k eb rv).keeps fun c ys ec=>?_,q,es,ep,hq,h2,h3,h4,h5⟩
  rw[Z4 (ne_of ec e (fun z=>nomatch z))]
  exact ec
end
section
variable {X:Cx}{pins:List (Addr×Obj)}{σ:St}{H:Hp}{s:Shared}{a:Addr}{kvs:List (Key×V)}{k:Key}{u:Value}{A:Around}{E:Value→Shared→Prop}
theorem d_pop {v:V}{more:List Value}{Q:Value→Shared→Prop}(I:Inv X pins σ H s)(e:H a=some (.dK kvs))(ry:Z3 (kV k) u)(l:valV kvs k=some v)(hm:more=[]∨∃x,more=[x])
  (h:∀w' s',Inv X pins σ (upd H a (.dK (Zf9 kvs k))) s'→Z3 v w'→Q w' s'):wpAny (model X.prog X.w) A (call (.builtin "dict.pop") (.ref a::u::more)) Q E s:=by
 obtain⟨z,hd,vs,rel,dd⟩:=Zqu I.hok e
 obtain⟨w',hw,rw'⟩:=RelO.some_of (v:=v) (o:=valueAt vs k) (by rw[←l];exact rel.val k)
 have hp:(keyPart u).isSome=true:=by
  cases k with
  | inl i=>obtain⟨t,q⟩:=(show ∃t,u=Value.int i t from ry);subst q;rfl
  | inr x=>obtain⟨t,q⟩:=(show ∃t,u=Value.str x t from ry);subst q;rfl
 have ha:argsOk "dict.pop" ⟨.ref a::u::more,[]⟩:=by
  rcases hm with q | ⟨x,q⟩
  ·subst q;exact PySem.F.args_dict_pop_2 _ _
  ·subst q;exact PySem.F.args_dict_pop_3 _ _ _
 refine call_meetsIn PySem.F.slot_dict_pop dd.typeIs PySem.F.entry_dict_pop ha (meets_dict_pop_there (Y9 X.prog X.w) a (Zez ry) more hm hp)
  ⟨vs,w',dd,by rw[←rel.length];exact z,hw,fun h' dd' hs=>h w' _ ?_ rw'⟩
 have he:∃q,h'.get? a=some q:=let ⟨q,_,_,hq,_⟩:=dd';⟨q,hq⟩
 exact Zh0 I (by rw[e];exact True.intro) hs he (Zjc (XN (Zvl kvs k) z) hd (rel.drop k) dd')
theorem Z12 {r:Value}{Q:Value→Shared→Prop}(I:Inv X pins σ H s)(e:H a=some (.dK kvs))(ry:Z3 (kV k) u)(l:valV kvs k=none)(h:∀s',Inv X pins σ H s'→Q r s'):
  wpAny (model X.prog X.w) A (call (.builtin "dict.pop") [.ref a,u,r]) Q E s:=by
 obtain⟨z,hd,vs,rel,dd⟩:=Zqu I.hok e
 have hn:valueAt vs k=none:=RelO.none_of (by rw[←l];exact rel.val k)
 have hp:(keyPart u).isSome=true:=by
  cases k with
  | inl i=>obtain⟨t,q⟩:=(show ∃t,u=Value.int i t from ry);subst q;rfl
  | inr x=>obtain⟨t,q⟩:=(show ∃t,u=Value.str x t from ry);subst q;rfl
 exact call_meetsIn PySem.F.slot_dict_pop dd.typeIs PySem.F.entry_dict_pop (PySem.F.args_dict_pop_3 _ _ _) (meets_dict_pop_default (Y9 X.prog X.w) a (Zez ry) hd hp r) ⟨vs,dd,hn,h _ (I.tok _)⟩
end
def NoSl (i:Expr):Prop:=∀ov iv,subscripted i false ov iv=operate [ov,iv] (getItem ov iv)
theorem Zwh {prog:Program}{w:World}{A:Around}{E:Value→Shared→Prop}{s:Shared}{env:Env}{value slice:Expr}{pos:Pos}{T id:String}{Q:Value→Shared→Prop}
  (hl:typeLookup (.type T) "__getitem__"=pure (some (.builtin id))) (hs:NoSl slice)
  (h:wpAny (model prog w) A (eval value env) (fun o s₁=>wpAny (model prog w) A (eval slice env) (fun i s₂=>s₂.TypeIs o T∧wpAny (model prog w) A (getItem o i) Q E s₂) E s₁) E s):
  wpAny (model prog w) A (eval (.Subscript value slice pos) env) Q E s:=by
 refine Subscript_ (wpAny_mono h (fun o s₁ h₁=>wpAny_mono h₁ (fun i s₂ h₂=>?_) fun _ _ x=>x) fun _ _ x=>x)
 obtain⟨hT,h₂⟩:=h₂
 unfold subscriptTail
 refine XA ?_
 rw[getitemInPython_of_ne hT.not_modules]
 refine XA (wpAny_specialOf hT hl ?_)
 have fin:wpAny (model prog w) A (subscripted slice false o i) (fun r s₃=>wpAny (model prog w) A (letTemporaryGo value o r>>=fun _=>pure r) Q E s₃) E s₂:=by
  rw[hs o i]
  exact wpAny_operating (wpAny_mono h₂ (fun r s₃ h₃=>XA (wpAny_letTemporaryGo (XB h₃))) fun _ _ x=>x)
 first
  | exact XB (XA fin)
  | exact XA (XB (XA fin))
  | exact XA fin
theorem Zn7 {X:Cx}{pins:List (Addr×Obj)}{σ:St}{H:Hp}{s:Shared}{a:Addr}{y:V}{o:Option V}(I:Inv X pins σ H s)(g:DGet H a y o):s.TypeIs (.ref a) "dict":=by
 rcases g with⟨kvs,k,e,_,_⟩ | ⟨kvs,k,b,e,_,_,_⟩
 ·obtain⟨_,_,vs,_,dd⟩:=Ze0 I.hok e
  exact dd.typeIs
 ·obtain⟨_,_,xs,_,dd⟩:=Zjb I.hok e
  exact dd.typeIs
def tDGet (td ty:TE):TE:=fun σ H Q=>td σ H fun x H1=>ty σ H1 fun y H2=>∃a v,x=.ref a∧DGet H2 a y (some v)∧Q v H2
def tDIn (ty td:TE):TE:=fun σ H Q=>ty σ H fun y H1=>td σ H1 fun x H2=>∃a o,x=.ref a∧DGet H2 a y o∧Q (.bl o.isSome) H2
def sDPut (td ty tv:TE):TS:=fun D σ H=>tv σ H fun v H1=>td σ H1 fun x H2=>ty σ H2 fun y H3=>∃a H4,x=.ref a∧DPut H3 a y v H4∧D.nx σ H4
def sDAug (td ty tv:TE)(rd:V→V→Hp→VK→Prop):TS:=fun D σ H=>td σ H fun x H1=>ty σ H1 fun y H2=>∃a v,x=.ref a∧DGet H2 a y (some v)∧
 tv σ H2 fun y2 H3=>rd v y2 H3 fun z H4=>∃H5,DPut H4 a y z H5∧D.nx σ H5
def sDDel (td ty:TE):TS:=fun D σ H=>td σ H fun x H1=>ty σ H1 fun y H2=>∃a kvs k,x=.ref a∧H2 a=some (.dK kvs)∧y=kV k∧(valV kvs k).isSome=true∧D.nx σ (upd H2 a (.dK (Zf9 kvs k)))
section
variable {X:Cx}{o i e value:Expr}{pos pos' tpos:Pos}{td ty tv:TE}
theorem Zxe (hu:X.A.units+1<cLine)(ho:PE X o td)(hi:PE X i ty)(hs:NoSl i):PE X (.Subscript o i pos) (tDGet td ty):=by
 intro pins s σ H Q I h
 refine Zwh PySem.F.slot_dict_getitem.lookup hs (thn (ho pins s σ H _ I h) fun u s1 ⟨x,H1,I1,rx,q1⟩=>thn (hi pins s1 σ H1 _ I1 q1) fun iv s2 ⟨y,H2,I2,ry,a,v,ex,g,q2⟩=>?_)
 subst ex
 obtain rfl:u=Value.ref a:=rx
 exact⟨Zn7 I2 g,Zsa hu I2 g ry fun w' s3 I3 rw'=>⟨v,H2,I3,rw',q2⟩⟩
end
theorem Zn6 {P:Program}{w:World}{H:Hp}(h:Heap)(hb:sysModules<h.objs.size):Xb P w H (h.push {cls:=.type "dict",data:=.dict #[]}) h.objs.size (.dK []):=
 ⟨XO _,beq_eq_false_iff_ne.mpr (Ne.symm (XH hb)),[],.nil,Heap.DictOf.new h⟩
def Zzt:TE:=fun _ H Q=>∀p,H p=none→Q (.ref p) (upd H p (.dK []))
section
variable {X:Cx}{pos:Pos}
theorem Ztx:PE X (.Dict [] [] pos) Zzt:=fun pins s σ H Q I h=>
 wpAny_Dict_empty ⟨.ref s.heap.objs.size,_,I.laid (a:=s.heap.objs.size) (o:=.dK []) (t':=s.toks) (fun _ _ q=>XC _ q) (XE _) (Zn6 s.heap I.big),rfl,h _ (I.hok.fresh (XE _))⟩
end
def Zop:List (TE×TE)→St→Hp→(List (V×V)→Hp→Prop)→Prop
 | [],_,H,Q=>Q [] H
 | (tk,tv)::r,σ,H,Q=>tk σ H fun x H1=>tv σ H1 fun y H2=>Zop r σ H2 fun ps H3=>Q ((x,y)::ps) H3
abbrev VV:List (V×V)→List (Value×Value)→Prop:=Paired fun p q=>Z3 p.1 q.1∧Z3 p.2 q.2
def PPs (X:Cx)(pos:Pos)(keys:List (Option Expr))(values:List Expr)(trs:List (TE×TE)):Prop:=
 ∀(pins:List (Addr×Obj)) (s:Shared) (σ:St) (H:Hp) (Q:List (V×V)→Hp→Prop),Inv X pins σ H s→Zop trs σ H Q→
  wpAny (model X.prog X.w) X.A (evalPairs (pairTrees keys values X.env pos)) (fun vs s'=>∃ps H',Inv X pins σ H' s'∧VV ps vs∧Q ps H') X.xe s
theorem Zw7 {X:Cx}{pos:Pos}:PPs X pos [] [] []:=fun pins s σ H Q I h=>pairTrees_nil_walk ⟨[],H,I,.nil,h⟩
theorem Ztq {X:Cx}{pos:Pos}{k v:Expr}{ks:List (Option Expr)}{vs:List Expr}{tk tv:TE}{trs:List (TE×TE)}(hk:PE X k tk)(hv:PE X v tv)(hr:PPs X pos ks vs trs):
  PPs X pos (some k::ks) (v::vs) ((tk,tv)::trs):=fun pins s σ H Q I h=>
 pairTrees_cons_walk (thn (hk pins s σ H _ I h) fun u s1 ⟨x,H1,I1,rx,q1⟩=>thn (hv pins s1 σ H1 _ I1 q1) fun w2 s2 ⟨y,H2,I2,ry,q2⟩=>
  thn (hr pins s2 σ H2 _ I2 q2) fun ws s3 ⟨ps,H3,I3,rel,q3⟩=>⟨(x,y)::ps,H3,I3,.cons ⟨rx,ry⟩ rel,q3⟩)
def Ziw (kvs more:List (Key×V)):List (Key×V):=more.foldl (fun acc kv=>putK acc kv.1 kv.2) kvs
theorem KV.merge:∀{more:List (Key×V)} {rs:List (Key×Value)} {kvs:List (Key×V)} {vs:List (Key×Value)},KV more rs→KV kvs vs→KV (Ziw kvs more) (merged vs rs):=by
 intro more rs kvs vs r
 unfold KV at r
 induction r generalizing kvs vs with
 | nil=>intro q;exact q
 | @cons p q ps qs h t ih=>
  intro r0
  have e:KV (putK kvs p.1 p.2) (stored vs q.1 q.2):=by
   have:=r0.put p.1 h.2
   rw[←h.1];exact this
  exact ih e
theorem Zex:∀(more kvs:List (Key×V)),(Ziw kvs more).length≤kvs.length+more.length
 | [],kvs=>by show kvs.length≤kvs.length+0;omega
 | p::r,kvs=>by
  have h1:=Zex r (putK kvs p.1 p.2)
  have h2:=Zdy kvs p.1 p.2
  show(Ziw (putK kvs p.1 p.2) r).length≤_
  rw[YF];omega
theorem Zjh {P:Program}{w:World}:∀{kvs:List (Key×V)} {ws:List (Value×Value)},VV (kvs.map fun kv=>(kV kv.1,kv.2)) ws→∃rs,Carries (Y9 P w) ws rs∧KV kvs rs
 | [],_,r=>by rw[List.map_nil] at r;cases r;exact⟨[],True.intro,.nil⟩
 | p::kvs,_,r=>by
  rw[YI] at r
  cases r with
  | @cons a b as bs h t=>
   obtain⟨rs,c,q⟩:=Zjh (P:=P) (w:=w) t
   obtain⟨b1,b2⟩:=b
   exact⟨(p.1,b2)::rs,⟨Zez h.1,rfl,c⟩,.cons ⟨rfl,h.2⟩ q⟩
def tDisp (trs:List (TE×TE)):TE:=fun σ H Q=>∀p,H p=none→Zop trs σ (upd H p (.dK [])) fun ps H2=>H2 p=some (.dK [])∧∃kvs:List (Key×V),ps=kvs.map (fun kv=>(kV kv.1,kv.2))∧kvs.length≤15∧Q (.ref p) (upd H2 p (.dK (Ziw [] kvs)))
theorem Zxd {X:Cx}{pos:Pos}{keys:List (Option Expr)}{values:List Expr}{trs:List (TE×TE)}(h:PPs X pos keys values trs)(hall:keys.all (·.isSome)=true)(hl:keys.length=values.length)(h0:keys≠[])
  (h15:keys.length≤15):PE X (.Dict keys values pos) (tDisp trs):=by
 intro pins s σ H Q I q
 have hn:=I.hok.fresh (XE s.heap.objs.size)
 have I1:=I.laid (a:=s.heap.objs.size) (o:=.dK []) (h':=s.heap.push {cls:=.type "dict",data:=.dict #[]}) (t':=s.toks) (fun _ _ q=>XC _ q) (XE _) (Zn6 s.heap I.big)
 refine wpAny_Dict_walk (knd:=Y9 X.prog X.w) hall hl h0 h15 (thn (h pins _ σ _ _ I1 (q _ hn)) fun ws s2 ⟨ps,H2,I2,rel,e,kvs,ep,lk,q2⟩=>?_)
 subst ep
 obtain⟨rs,c,rk⟩:=Zjh (P:=X.prog) (w:=X.w) rel
 obtain⟨z,hd,vs0,r0,dd⟩:=Zqu I2.hok e
 cases r0
 refine⟨rs,c,dd,fun h' dd' hs=>⟨.ref s.heap.objs.size,_,?_,rfl,q2⟩⟩
 have hz:(Ziw [] kvs).length≤sizeLine:=by
  have h1:=Zex kvs []
  rw[List.length_nil] at h1
  rw[sizeLine_eq];omega
 have he:∃q,h'.get? s.heap.objs.size=some q:=let ⟨q,_,_,hq,_⟩:=dd';⟨q,hq⟩
 exact Zh0 I2 (by rw[e];exact True.intro) hs he (Zjc hz hd (rk.merge .nil) dd')
structure M1 (X:Cx)(o:Expr)(m:Str)(apos:Pos)(e:Expr)(cpos:Pos):Prop where
 base:attributeBase o m X.env (eval o X.env)=eval o X.env
 few:((backTo cpos (starEach [e] X.env)).all (fun x=>!x.1)&&(backToKw cpos (keywordEach [] X.env)).all (fun x=>x.1.isSome)
  &&decide (([e]:List Expr).length+([]:List Keyword).length+(if ([]:List Keyword).isEmpty then 0 else 1)<30))=true
 line:(apos.endLine==cpos.line)=true
 trees:backTo cpos (starEach [e] X.env)=[(false,eval e X.env)]
structure M2 (X:Cx)(o:Expr)(m:Str)(apos:Pos)(e f:Expr)(cpos:Pos):Prop where
 base:attributeBase o m X.env (eval o X.env)=eval o X.env
 few:((backTo cpos (starEach [e,f] X.env)).all (fun x=>!x.1)&&(backToKw cpos (keywordEach [] X.env)).all (fun x=>x.1.isSome)
  &&decide (([e,f]:List Expr).length+([]:List Keyword).length+(if ([]:List Keyword).isEmpty then 0 else 1)<30))=true
 line:(apos.endLine==cpos.line)=true
 trees:backTo cpos (starEach [e,f] X.env)=[(false,eval e X.env),(false,eval f X.env)]
def IsD (H:Hp)(a:Addr):Prop:=(∃kvs,Rd H a (.dK kvs))∨∃kvs,Rd H a (.dT kvs)
theorem Zuu {X:Cx}{pins:List (Addr×Obj)}{σ:St}{H:Hp}{s:Shared}{a:Addr}(I:Inv X pins σ H s)(d:IsD H a):
  s.TypeIs (.ref a) "dict"∧(∀b,Value.ref a=.ref b→∃ob,s.heap.get? b=some ob∧ob.dict=none)∧(a==sysModules)=false:=by
 rcases d with⟨kvs,e⟩ | ⟨kvs,e⟩
 ·obtain⟨_,hd,vs,_,dd⟩:=Ze0 I.hok e
  refine⟨dd.typeIs,fun b q=>?_,hd⟩
  cases q
  obtain⟨ob,_,_,h1,h2,_⟩:=dd
  exact⟨ob,h1,h2.2.1⟩
 ·obtain⟨_,hd,xs,_,dd⟩:=Zjb I.hok e
  refine⟨dd.typeIs,fun b q=>?_,hd⟩
  cases q
  obtain⟨ob,_,_,h1,h2,_⟩:=dd
  exact⟨ob,h1,h2.2.1⟩
section
variable {X:Cx}{pins:List (Addr×Obj)}{σ:St}{H:Hp}{s:Shared}{a:Addr}{y d:V}{u r:Value}{o:Option V}{A:Around}{E:Value→Shared→Prop}
theorem Z14 {Q:Value→Shared→Prop}(hu:A.units+1<cLine)(I:Inv X pins σ H s)(g:DGet H a y o)(ry:Z3 y u)(h:∀w' s',Inv X pins σ H s'→Z3 (o.getD .non) w'→Q w' s'):
  wpAny (model X.prog X.w) A (call (.builtin "dict.get") [.ref a,u]) Q E s:=by
 rcases g with⟨kvs,k,e,ey,l⟩ | ⟨kvs,k,b,e,ey,eb,l⟩
 ·subst ey
  obtain⟨z,hd,vs,rel,dd⟩:=Ze0 I.hok e
  refine call_meetsIn PySem.F.slot_dict_get dd.typeIs PySem.F.entry_dict_get (PySem.F.args_dict_get_2 _ _) (meets_dict_get (Y9 X.prog X.w) a (Zez ry) hd) ⟨_,dd.mapOf,h _ _ (I.tok _) ?_⟩
  rw[l]
  exact(rel.val k).getD rfl
 ·subst ey
  cases (show u=Value.ref b from ry)
  obtain⟨z,hd,xs,rel,dd⟩:=Zjb I.hok e
  refine call_meetsIn PySem.F.slot_dict_get dd.typeIs PySem.F.entry_dict_get (PySem.F.args_dict_get_2 _ _) (meetsH_dict_get (tupleKind (Y9 X.prog X.w)) a b hd) ⟨tupleKind_room_in1 hu,k,xs,Zgw I.hok eb,dd,h _ _ (I.tok _) ?_⟩
  rw[l]
  exact(rel.val k).getD rfl
end
def Zzu (td ty:TE):TE:=fun σ H Q=>td σ H fun x H1=>∃a,x=.ref a∧IsD H1 a∧ty σ H1 fun y H2=>∃o,DGet H2 a y o∧Q (o.getD .non) H2
def tDPop1 (td ty:TE):TE:=fun σ H Q=>td σ H fun x H1=>∃a,x=.ref a∧IsD H1 a∧ty σ H1 fun y H2=>∃kvs k v,H2 a=some (.dK kvs)∧y=kV k∧valV kvs k=some v∧Q v (upd H2 a (.dK (Zf9 kvs k)))
def Zzs (td ty tx:TE):TE:=fun σ H Q=>td σ H fun x H1=>∃a,x=.ref a∧IsD H1 a∧ty σ H1 fun y H2=>tx σ H2 fun z H3=>∃kvs k,H3 a=some (.dK kvs)∧y=kV k∧
 (∀v,valV kvs k=some v→Q v (upd H3 a (.dK (Zf9 kvs k))))∧(valV kvs k=none→Q z H3)
section
variable {X:Cx}{o e f:Expr}{apos cpos:Pos}{td ty tx:TE}
theorem Zty (hu:X.A.units+1<cLine)(ho:PE X o td)(he:PE X e ty)(m:M1 X o "get" apos e cpos):PE X (.Call (.Attribute o "get" apos) [e] [] cpos) (Zzu td ty):=by
 intro pins s σ H Q I h
 refine wpAny_Call_method m.base m.few m.line PySem.F.plainAttrs_dict PySem.F.slot_dict_get PySem.F.type_dict_get (thn (ho pins s σ H _ I h) fun u s1 ⟨x,H1,I1,rx,a,ex,d,q1⟩=>?_)
 subst ex
 obtain rfl:u=Value.ref a:=rx
 obtain⟨t1,t2,_⟩:=Zuu I1 d
 refine⟨t1,t2,?_⟩
 rw[m.trees]
 refine Calls.callWith_builtin rfl (Calls.evalArgs_plain (Calls.spliced_cons (thn (he pins s1 σ H1 _ I1 q1) fun iv s2 ⟨y,H2,I2,ry,ov,g,q2⟩=>Calls.spliced_nil ?_)))
 exact Z14 hu I2 g ry fun w' s3 I3 rw'=>⟨_,H2,I3,rw',q2⟩
theorem Ztw (ho:PE X o td)(he:PE X e ty)(hf:PE X f tx)(m:M2 X o "pop" apos e f cpos):PE X (.Call (.Attribute o "pop" apos) [e,f] [] cpos) (Zzs td ty tx):=by
 intro pins s σ H Q I h
 refine wpAny_Call_method m.base m.few m.line PySem.F.plainAttrs_dict PySem.F.slot_dict_pop PySem.F.type_dict_pop (thn (ho pins s σ H _ I h) fun u s1 ⟨x,H1,I1,rx,a,ex,d,q1⟩=>?_)
 subst ex
 obtain rfl:u=Value.ref a:=rx
 obtain⟨t1,t2,_⟩:=Zuu I1 d
 refine⟨t1,t2,?_⟩
 rw[m.trees]
 refine Calls.callWith_builtin rfl (Calls.evalArgs_plain (Calls.spliced_cons (thn (he pins s1 σ H1 _ I1 q1) fun iv s2 ⟨y,H2,I2,ry,q2⟩=>
  Calls.spliced_cons (thn (hf pins s2 σ H2 _ I2 q2) fun fv s3 ⟨z,H3,I3,rz,kvs,k,ea,ey,q3,q4⟩=>Calls.spliced_nil ?_))))
 subst ey
 cases l:valV kvs k with
 | some v=>exact d_pop I3 ea ry l (.inr ⟨fv,rfl⟩) fun w' s4 I4 rw'=>⟨v,_,I4,rw',q3 v l⟩
 | none=>exact Z12 I3 ea ry l fun s4 I4=>⟨z,H3,I4,rz,q4 l⟩
end
section
variable {X:Cx}{pins:List (Addr×Obj)}{σ:St}{H:Hp}{s:Shared}{a:Addr}{kvs:List (Key×V)}{A:Around}{E:Value→Shared→Prop}
theorem Zvt {Q:Value→Shared→Prop}(I:Inv X pins σ H s)(e:Rd H a (.dK kvs))(h:∀p s',H p=none→Inv X pins σ (upd H p (.dK kvs)) s'→Q (.ref p) s'):wpAny (model X.prog X.w) A (call (.type "dict") [.ref a]) Q E s:=by
 obtain⟨z,hd,vs,rel,dd⟩:=Ze0 I.hok e
 refine kt_call_dict hd dd (by rw[←rel.length];exact z) fun h' dd' hs=>?_
 refine h _ _ (I.hok.fresh (XE _)) (I.laid (a:=s.heap.objs.size) (o:=.dK kvs) (t':=s.toks) (fun b q hq=>?_) (XE _) (Zjc z (beq_eq_false_iff_ne.mpr (Ne.symm (XH I.big))) rel dd'))
 exact(hs.2 b (XH (XD hq))).trans (XC _ hq)
end
section
variable {X:Cx}{pins:List (Addr×Obj)}{σ:St}{H:Hp}{s:Shared}{a:Addr}{y:V}{u:Value}{A:Around}{E:Value→Shared→Prop}
end
end L2
namespace WL
open PySem PySem.Spec PyProof.Rows L2
def Zgg (c:WT)(b:WS)(D:We):Nat→Sw→Hw→Prop
 | 0,_,_=>False
 | n+1,τ,C=>c τ C (fun k C1=>if k=true then b {D with nx:=Zgg c b D n,ct:=Zgg c b D n,bk:=D.nx} τ C1 else D.nx τ C1) D.xc
def Zif (c:WT)(b:WS):WS:=fun D τ C=>∃n,Zgg c b D n τ C
theorem Zq8 {K:W.Frag}{c:TT}{tb:TS}{c':WT}{b':WS}(hc:SimT K c c')(hb:SimS K tb b'):SimS K (Zss c tb) (Zif c' b'):=fun F H C σ τ D D' R S h d=>by
 obtain⟨n,h⟩:=h
 refine⟨fun m σ H2=>∃τ C,Rl K F H2 C∧Tx H H2∧RepS K H2 σ τ∧Zgg c' b' D' m τ C,⟨n,τ,C,R,Tx.refl _,S,h⟩,?_⟩
 rintro m σ2 H2 ⟨τ2,C2,R2,t2,S2,h2⟩
 cases m with
 | zero=>exact h2.elim
 | succ m=>
  refine hc F H2 C2 σ2 τ2 _ _ D'.xc R2 S2 h2 fun k H3 C3 R3 t3 h3=>?_
  cases k with
  | true=>
   refine⟨fun σ' H'=>∃τ' C',Rl K F H' C'∧Tx H H'∧RepS K H' σ' τ'∧Zgg c' b' D' m τ' C',fun σ' H' z=>⟨m,Nat.lt_succ_self m,z⟩,?_⟩
   have t13:=t2.trans t3
   exact hb F H3 C3 σ2 τ2 _ _ R3 (S2.tx t3) h3 ⟨fun σ' τ' H' C' R' t' S' h'=>⟨τ',C',R',t13.trans t',S',h'⟩,fun x v H' C' R' t'=>d.rt x v H' C' R' (t13.trans t'),fun σ' τ' H' C' R' t' S' h'=>d.nx σ' τ' H' C' R' (t13.trans t') S' h',fun σ' τ' H' C' R' t' S' h'=>⟨τ',C',R',t13.trans t',S',h'⟩⟩
  | false=>exact d.nx σ2 τ2 H3 C3 R3 (t2.trans t3) (S2.tx t3) h3
theorem Zn3 {X:Cx}{c:Expr}{body:List Stmt}{wc:WT}{b:WS}{pos:Pos}(hp:PassesOwn (model X.prog X.w) X.A X.env X.xe)(hc:SdT X c wc)(hb:SdB X body b):SdS X (.While c body [] pos) (Zif wc b):=by
 obtain⟨t,p,s⟩:=hc
 obtain⟨t',p',s'⟩:=hb
 exact⟨_,Ztm hp p p',Zq8 s s'⟩
theorem Zj5 {c:WT}{b:WS}{D:We}(Pv:Nat→Sw→Hw→Prop){τ:Sw}{C:Hw}{m:Nat}(h0:Pv m τ C)
  (hs:∀m τ C (N:Sw→Hw→Prop),Pv m τ C→(∀m' τ' C',m'<m→Pv m' τ' C'→N τ' C')→c τ C (fun k C1=>if k=true then b {D with nx:=N,ct:=N,bk:=D.nx} τ C1 else D.nx τ C1) D.xc):Zif c b D τ C:=by
 have key:∀(n m:Nat) (τ:Sw) (C:Hw),m<n→Pv m τ C→Zgg c b D n τ C:=by
  intro n
  induction n with
  | zero=>intro m τ C h _;omega
  | succ n ih=>intro m τ C hm hp;exact hs m τ C _ hp fun m' τ' C' hlt hp'=>ih m' τ' C' (by omega) hp'
 exact⟨m+1,key (m+1) m τ C (Nat.lt_succ_self m) h0⟩
section
variable {X:Cx}{a b c e o i:Expr}{es:List Expr}{wa wb wc wo wi:WE}{wA:WA}{pos p p2 apos cpos:Pos}
end
def kT:T→Option Key
 | .int i=>some (.inl i)
 | .str x=>some (.inr x)
 | _=>none
def Xw (kvs:List (Key×T))(k:Key):Option T:=(kvs.find? fun kv=>decide (kv.1=k)).map (·.2)
def putT (kvs:List (Key×T))(k:Key)(v:T):List (Key×T):=
 if (kvs.any fun kv=>decide (kv.1=k))=true then kvs.map (fun kv=>if kv.1=k then(kv.1,v) else kv) else kvs++[(k,v)]
theorem Zd6 {K:W.Frag}{H:Hp}{x:V}{v:T}{k:Key}(h:kT v=some k)(r:Rep K H x v):x=kV k:=by
 cases v with
 | int i=>cases h;exact Yg r
 | str z=>cases h;exact Jo r
 | _=>cases h
theorem PR.get {K:W.Frag}{H:Hp}:∀{ks:List (Key×V)} {kvs:List (Key×T)} (_:PR K H ks kvs) (k:Key),(Xw kvs k=none→valV ks k=none)∧∀v,Xw kvs k=some v→∃x,valV ks k=some x∧Rep K H x v
 | _,_,.nil,k=>⟨fun _=>rfl,fun v h=>by cases h⟩
 | p::r,q::s,.cons h t,k=>by
  obtain⟨e,rp⟩:=h
  have ih:=PR.get t k
  by_cases c:q.1=k
  ·have c':p.1=k:=e.trans c
   rw[Zfi c']
   unfold Xw
   rw[List.find?_cons_of_pos (by simpa using c)]
   exact⟨(fun z=>by cases z),(fun v z=>by cases z;exact⟨p.2,rfl,rp⟩)⟩
  ·have c':¬p.1=k:=fun z=>c (e.symm.trans z)
   rw[Zfj c']
   unfold Xw
   rw[List.find?_cons_of_neg (by simpa using c)]
   exact ih
theorem PR.any {K:W.Frag}{H:Hp}:∀{ks:List (Key×V)} {kvs:List (Key×T)} (_:PR K H ks kvs) (k:Key),(ks.any fun kv=>decide (kv.1=k))=kvs.any fun kv=>decide (kv.1=k)
 | _,_,.nil,k=>rfl
 | p::r,q::s,.cons h t,k=>by rw[List.any_cons,List.any_cons,PR.any t k,h.1]
theorem PR.mapK {K:W.Frag}{H:Hp}{k:Key}{x:V}{v:T}(rx:Rep K H x v):∀{ks:List (Key×V)} {kvs:List (Key×T)} (_:PR K H ks kvs),PR K H (ks.map fun kv=>if kv.1=k then(kv.1,x) else kv) (kvs.map fun kv=>if kv.1=k then(kv.1,v) else kv)
 | _,_,.nil=>.nil
 | p::r,q::s,.cons h t=>by
  refine .cons ?_ (PR.mapK rx t)
  obtain⟨e,rp⟩:=h
  by_cases c:q.1=k
  ·have c':p.1=k:=e.trans c
   dsimp only
   rw[XY c,XY c'];exact⟨e,rx⟩
  ·have c':¬p.1=k:=fun z=>c (e.symm.trans z)
   dsimp only
   rw[XX c,XX c'];exact⟨e,rp⟩
theorem PR.put {K:W.Frag}{H:Hp}{ks:List (Key×V)}{kvs:List (Key×T)}(h:PR K H ks kvs){k:Key}{x:V}{v:T}(rx:Rep K H x v):PR K H (putK ks k x) (putT kvs k v):=by
 unfold putK putT
 rw[PR.any h k]
 split
 ·exact PR.mapK rx h
 ·exact h.snoc ⟨rfl,rx⟩
theorem PR.length {K:W.Frag}{H:Hp}{ks:List (Key×V)}{kvs:List (Key×T)}(h:PR K H ks kvs):ks.length=kvs.length:=Paired.length h
section
variable {K:W.Frag}{F H:Hp}{C:Hw}
theorem Rl.dic (R:Rl K F H C){a:Addr}{kvs:List (Key×T)}(h:C a=some (.dic kvs)):∃ks,H a=some (.dK ks)∧PR K H ks kvs:=R.obj a _ h
theorem Rl.putD (R:Rl K F H C){p:Addr}{kvs kvs':List (Key×T)}{ks':List (Key×V)}(h:C p=some (.dic kvs))(r:PR K H ks' kvs'):Rl K F (upd H p (.dK ks')) (up C p (.dic kvs'))∧Tx H (upd H p (.dK ks')):=by
 obtain⟨w,hw,ns⟩:=(R.obj p _ h).some trivial
 exact R.put h ⟨ks',Yh,Zih (Tx.put hw ns) r⟩
theorem Rl.newD (R:Rl K F H C){p:Addr}{kvs:List (Key×T)}{ks:List (Key×V)}(h:H p=none)(r:PR K H ks kvs):Rl K F (upd H p (.dK ks)) (up C p (.dic kvs)):=R.new h ⟨ks,Yh,Zih (Tx.new h) r⟩
end
def Zg0:WE:=fun _ C Q _=>∀p,C p=none→Q (.ref p) (up C p (.dic []))
def gSd (o i:WE):WG:=fun v τ C Q χ=>o τ C (fun x C1=>i τ C1 (fun y C2=>∃a kvs k,x=.ref a∧kT y=some k∧C2 a=some (.dic kvs)∧kvs.length<sizeLine∧Q τ (up C2 a (.dic (putT kvs k v)))) χ) χ
section
variable {X:Cx}{a b c e o i f:Expr}{es:List Expr}{wa wb wc wo wi wd:WE}{wA:WA}{pos p p2 apos cpos:Pos}
theorem Zmb:SdE X (.Dict [] [] pos) Zg0:=⟨_,Ztx,fun F H C σ τ Q Q' χ R S h q p hp=>q _ _ _ _ (R.newD hp .nil) (Tx.new hp) J0 (h p (R.free hp))⟩
def rSetD:V→V→V→Hp→(Hp→Prop)→Prop:=fun o i v H Q=>∃p ks k,o=.ref p∧i=kV k∧H p=some (.dK ks)∧ks.length<sizeLine∧Q (upd H p (.dK (putK ks k v)))
theorem Zs0 (hu:X.A.units+150<cLine):PSet X rSetD:=by
 intro pins s σ H o i v ov iv u Q I ro ri rv h
 obtain⟨p,ks,k,rfl,rfl,hp,hl,q⟩:=h
 cases ro
 exact Zr9 (by omega) I (DPut.k hp hl) ri rv fun s' I'=>⟨_,I',q⟩
theorem Zqv (hu:X.A.units+150<cLine)(ho:SdE X o wo)(hi:SdE X i wi)
  (ha:∀v,assign (.Subscript o i pos) X.env v=(do
   let ov ←holding [v] (eval o X.env)
   let iv ←holding [v,ov] (eval i X.env)
   standAt pos
   holding [v,ov,iv] (setItem ov iv v)
   release [v,ov,iv] []):=by intro _;rfl):SdG X (.Subscript o i pos) (gSd wo wi):=by
 obtain⟨t,p,s⟩:=ho
 obtain⟨t',p',s'⟩:=hi
 refine⟨_,Z0i p p' (Zs0 hu) ha,fun F H C σ τ x v Q Q' χ R S r h q=>?_⟩
 refine s F H C σ τ _ _ χ R S h fun y vy H1 C1 R1 t1 ry h1=>?_
 refine s' F H1 C1 σ τ _ _ χ R1 (S.tx t1) h1 fun z vz H2 C2 R2 t2 rz h2=>?_
 obtain⟨l,kvs,k,rfl,hk,hC,hl,h2⟩:=h2
 cases Z1 ry
 obtain⟨ks,hH,pr⟩:=R2.dic hC
 have t12:=t1.trans t2
 obtain⟨R',t'⟩:=R2.putD hC (PR.put pr (k:=k) (r.tx t12))
 exact⟨l,ks,k,rfl,Zd6 hk rz,hH,by rw[PR.length pr];exact hl,q _ _ _ _ R' (t12.trans t') (S.tx (t12.trans t')) h2⟩
theorem Zu3 {K:W.Frag}{H:Hp}{ks:List (Key×V)}{kvs:List (Key×T)}(pr:PR K H ks kvs)(k:Key){x:V}{v:T}(rx:Rep K H x v):Rep K H ((valV ks k).getD x) ((Xw kvs k).getD v):=by
 cases hg:Xw kvs k with
 | none=>rw[(PR.get pr k).1 hg];exact rx
 | some w=>obtain⟨z,hz,rz⟩:=(PR.get pr k).2 w hg;rw[hz];exact rz
end
end WL
namespace L2
open PySem PySem.Spec PyProof.Rows
def byTx (w:World):Bool:=w.params.followText "set-order"
def txOf (e:Int×Value):Str:=strOf e.2
structure TxSet (P:Program)(w:World)(h:Heap)(a:Addr)(es:Array (Int×Value))(ep:Nat)(t:SetTable):Prop where
 get:h.get? a=some {cls:=.type "set",dict:=none,data:=.set es ep t,slots:=#[]}
 els:ElemsOf (PySem.strKind P w) es.toList
 fit:t.fits es.size=true
 bnd:es.size<scanBound
 pln:es.size≠0→t.plain=false
 led:t.led=!byTx w
 nod:(es.toList.map txOf).Nodup
section
variable {prog:Program}{w:World}{A:Around}{E:Value→Shared→Prop}{s:Shared}
end
section
variable {prog:Program}{w:World}{A:Around}{R:Result→Shared→Prop}{I:Addr}{fp wr:List Addr}{G:Array GenState→Array GenState→Prop}{n:Nat}{P:Nat→Value→Prop}{St:Nat→Shared→Prop}
end
section
variable {prog:Program}{w:World}{A:Around}{E:Value→Shared→Prop}{s:Shared}
end
section
variable {X:Cx}{pins:List (Addr×Obj)}{s:Shared}{σ:St}{H:Hp}
def setO (P:Program)(w:World)(a:Addr)(xs:List Str):HO:=.ext fun h=>∃es ep t,TxSet P w h a es ep t∧∀y,y∈es.toList.map txOf↔y∈xs
end
end L2
namespace WL
open PySem PySem.Spec PyProof.Rows L2
section
variable {X:Cx}{e:Expr}{we:WE}{pos p p2 pos2:Pos}
end
end WL
namespace L2
open PySem PySem.Spec PyProof.Rows
def Itv (K:W.Frag)(a:Addr)(n:Nat):It:=
 ⟨fun i H=>i<n∧∃xs x,SqL K H a xs∧xs[n-1-i]?=some x,fun i H x H'=>H'=H∧∀xs,SqL K H a xs→xs[n-1-i]?=some x,fun i H=>i=n⟩
theorem Zso {P:Program}{w:World}{K:W.Frag}{tg:Expr}(a it:Addr)(n:Nat):Turn P w K tg (Itv K a n) [it] it (fun i h=>i≤n∧h.IsRevIter it a ((n:Int)-1-(i:Int))) where
 mem:=by simp
 obj:=fun i h st b hb=>by
  have e:b=it:=by simpa using hb
  subst e
  obtain⟨_,o,e,c,d⟩:=st
  exact⟨o,e,fun v z=>by rw[d] at z;cases z⟩
 keep:=fun i h h' st k=>⟨st.1,st.2.at fun o e=>k it (by simp) o e⟩
 item:=by
  intro X hP hw hK hc i pins s σ H E I hf st hg
  subst hP hw hK
  obtain⟨hi,xs,x,hq,hx⟩:=hg
  obtain⟨its,rv,p,hz⟩:=I.list hq
  obtain⟨u,hu,ru⟩:=rv.get hx
  obtain⟨f0,f1,f2,f3,f4,f5⟩:=hf it (by simp)
  have e1:(n:Int)-1-(i:Int)=((n-1-i:Nat):Int):=by omega
  have hit:=st.2
  rw[e1] at hit
  refine wpAny_pyNext_rev_item hit p.isList (x:=u) (by simpa using hu) fun h' st' sb=>?_
  have I1:Inv X pins σ H {s with heap:=h'}:=I.turned (t':=s.toks) (fun b o hb e=>(sb.2 b hb).trans e) f0 f1 f3 f4 f5
  have e2:((n-1-i:Nat):Int)-1=(n:Int)-1-((i+1:Nat):Int):=by omega
  rw[e2] at st'
  obtain⟨o,e,c,d⟩:=id st'
  exact⟨u,rfl,Znx (s:={s with heap:=h'}) e c d (by decide) ⟨x,H,I1,ru,⟨rfl,fun ys hy=>by rw[I.list_inj hy hq];exact hx⟩,⟨hi,st'⟩,fun b hb=>(hf b hb).1⟩⟩
 done:=by
  intro X hP hw hK hc i pins s σ H E I hf st hg
  subst hP hw hK
  have e:i=n:=hg
  subst e
  obtain⟨f0,f1,f2,f3,f4,f5⟩:=hf it (by simp)
  have hit:=st.2
  rw[show(i:Int)-1-(i:Int)= -1 by omega] at hit
  exact wpAny_pyNext_rev_end (I.ok.hd hc) hit fun h' eb=>⟨rfl,I.turned (t':=s.toks) (fun b o hb e=>eb b o hb e) f0 f1 f3 f4 f5⟩
 self:=fun _ _ _ _ _ st h=>wpAny_pyIter_revIter st.2 h
section
variable {X:Cx}{tg:Expr}
def iRev (K:W.Frag)(ta:TA):TI:=fun σ H R=>ta σ H fun vs H1=>∃a xs,vs=[.ref a]∧SqL K H1 a xs∧R (Itv K a xs.length) H1
theorem Z0f {a:Expr}{ta:TA}{p pos:Pos}(hg:Gl X "reversed")(hm:X.mg "reversed"=none)(ha:PA X [a] ta)(hs:starEach [a] X.env=[(false,eval a X.env)]:=by rfl)(hb:bootBuiltins "reversed"=some (.type "reversed"):=by decide+kernel):
  PI X tg (.Call (.Name "reversed" p) [a] [] pos) (iRev X.K ta):=by
 intro pins s σ H R I h
 refine Call_ (Zb6 I hg hm hb (PyProof.Rows.callWith_type1 (thn (ha pos pins s σ H _ I h) fun us s1 ⟨vs,H1,I1,r1,q1⟩=>?_) hs rfl))
 obtain⟨l,xs,e,hq,q⟩:=q1
 subst e
 obtain⟨u,rfl,ru⟩:=vals1 r1
 cases ru
 obtain⟨its,rv,pl,hz⟩:=I1.list hq
 have hl:its.length=xs.length:=by have:=rv.length;omega
 refine call_reversed_list pl.isList ?_
 have hit:(s1.heap.push (revObj l ((its.toArray.size:Int)-1))).IsRevIter s1.heap.objs.size l ((xs.length:Int)-1-((0:Nat):Int)):=by
  refine⟨_,XF _ rfl,rfl,?_⟩
  rw[List.size_toArray,hl];simp[revObj]
 refine wpAny_pyIter_revIter (s:={s1 with heap:=s1.heap.push (revObj l ((its.toArray.size:Int)-1))}) hit ?_
 refine⟨s1.heap.objs.size,[s1.heap.objs.size],_,_,H1,rfl,I1.kept (t':=s1.toks) fun b o e=>XC _ e,Zso l _ xs.length,⟨XO _,hit⟩,fun b hb=>?_,q⟩
 have e:b=s1.heap.objs.size:=by simpa using hb
 subst e
 exact I1.fpOk (XE _) (I1.hok.fresh (XE _))
end
end L2
namespace WL
open PySem PySem.Spec PyProof.Rows L2
def iRv (a:WA):WI:=fun τ C R χ=>a τ C (fun vs C1=>∃l xs,vs=[.ref l]∧C1 l=some (.lst xs)∧R xs.reverse (fun C2=>C2 l=some (.lst xs)) C1) χ
theorem Z1k {K:W.Frag}{F H0:Hp}{l:Addr}{xs:List T}:Zge K F H0 (Itv K l xs.length) xs.reverse (fun C=>C l=some (.lst xs)):=fun i H C R t ok=>by
 obtain⟨ys,hy,r⟩:=R.lst ok
 refine⟨fun hi=>?_,fun hi=>by show i=xs.length;rw[hi,List.length_reverse]⟩
 rw[List.length_reverse] at hi
 have ev:xs[xs.length-1-i]?=some (xs[xs.length-1-i]'(by omega)):=List.getElem?_eq_getElem (by omega)
 obtain⟨y,ey,ry⟩:=r.get ev
 refine⟨⟨hi,ys,y,SqL.of hy,ey⟩,fun x H' h=>?_⟩
 obtain⟨rfl,h⟩:=h
 have e2:=h ys (SqL.of hy)
 rw[ey] at e2;cases e2
 exact⟨_,by rw[List.getElem?_reverse hi];exact ev,R,Tx.refl _,ry⟩
section
variable {X:Cx}{tg a:Expr}{wA:WA}{pos p:Pos}
theorem Zvo (hg:Gl X "reversed")(hm:X.mg "reversed"=none)(ha:SdA X [a] wA)(hs:starEach [a] X.env=[(false,eval a X.env)]:=by rfl):SdI X tg (.Call (.Name "reversed" p) [a] [] pos) (iRv wA):=by
 obtain⟨t,p1,s1⟩:=ha
 refine⟨_,Z0f hg hm p1 hs,fun F H C σ τ R R' χ Rr S h q=>?_⟩
 refine s1 F H C σ τ _ _ χ Rr S h fun xs vs H1 C1 R1 t1 rs h1=>?_
 obtain⟨l,us,rfl,hC,h1⟩:=h1
 obtain⟨x,rfl,rx⟩:=Zaw rs
 cases Z1 rx
 obtain⟨ys,hy,r⟩:=R1.lst hC
 refine⟨l,ys,rfl,SqL.of hy,?_⟩
 rw[r.length]
 exact q _ H1 us.reverse _ C1 R1 t1 (fun _=>Z1k) h1
end
end WL
namespace L2
open PySem PySem.Spec PyProof.Rows
section
variable {X:Cx}
theorem Zp0:∀{zs:List Str} {us:List Value},Vals (zs.map V.str) us→StrsAre us zs
 | [],us,h=>by rw[h.zero];exact .nil
 | z::zs,us,h=>by
  cases h with
  | cons a b=>obtain⟨t,rfl⟩:=a;exact .cons z t (Zp0 b)
def rJoin (K:W.Frag):V→List V→Hp→VK→Prop:=fun x vs H Q=>∃z p zs,x=.str z∧vs=[.ref p]∧SqL K H p (zs.map V.str)∧z.length≤16∧(zs.map (·.length)).sum+zs.length≤1048576∧Q (.str (Txt.join z zs)) H
theorem Zxn:MtR X "str.join" (rJoin X.K):=by
 intro pins s σ H x vs v us Q I rx rv h
 obtain⟨z,p,zs,rfl,rfl,hq,h1,h2,q⟩:=h
 obtain⟨t,rfl⟩:=rx
 obtain⟨u,rfl,ru⟩:=vals1 rv
 cases ru
 obtain⟨its,rI,pl,hz⟩:=I.list hq
 exact join_listW pl.isList (Zp0 rI) h1 h2 fun t' k=>⟨.str _,H,I.tok _,⟨_,rfl⟩,q⟩
end
end L2
namespace WL
open PySem PySem.Spec PyProof.Rows L2
section
variable {X:Cx}
theorem Zig {K:W.Frag}{H:Hp}:∀{bs:List Str} {ys:List V},Reps K H ys (bs.map T.str)→ys=bs.map V.str
 | [],_,h=>Zan h
 | b::bs,_,h=>by obtain⟨y,r,rfl,a,c⟩:=Jp h;cases Jo a;rw[Zig c];rfl
def Zy1:T→List T→Hw→WK→Prop:=fun x vs C Q=>∃z p zs,x=.str z∧vs=[.ref p]∧C p=some (.lst (zs.map T.str))∧z.length≤16∧(zs.map (·.length)).sum+zs.length≤1048576∧Q (.str (Txt.join z zs)) C
theorem Z06:MtS X "str.join" Zy1:=⟨_,Zxn,fun F H C x v xs vs Q Q' R rx rs h q=>by
 obtain⟨z,p,zs,rfl,rfl,hx,h1,h2,h⟩:=h
 cases Jo rx
 obtain⟨y,rfl,ry⟩:=Zaw rs
 cases Z1 ry
 obtain⟨ys,hy,r⟩:=R.lst hx
 cases Zig r
 exact⟨z,p,zs,rfl,rfl,SqL.of hy,h1,h2,q _ _ H C R (Tx.refl H) J2 h⟩⟩
end
end WL
namespace L2
open PySem PySem.Spec PyProof.Rows
theorem Zz2:typeLookup (.type "list_reverseiterator") "__len__"=pure none:=by
 rw[typeLookup_type];rw[builtinLookup_eq_fast];kernel_rfl
theorem Zwq:typeLookup (.type "list_reverseiterator") "__length_hint__"=pure (some (.builtin "list_reverseiterator.__length_hint__")):=by
 rw[typeLookup_type];rw[builtinLookup_eq_fast];kernel_rfl
section
variable {prog:Program}{w:World}{A:Around}{E:Value→Shared→Prop}{s:Shared}{it l:Addr}{i:Int}
theorem Zuz {Q:Bool→Shared→Prop}(hit:s.heap.IsRevIter it l i)(h:Q false s):wpAny (model prog w) A (Builtin.List.listLengthHint (.ref it)) Q E s:=by
 have hT:=hit.typeIs
 unfold Builtin.List.listLengthHint
 refine XA (wpAny_specialOf hT Zz2 ?_)
 show wpAny _ A (specialOf (Value.ref it) (Str.ofString "__length_hint__")>>=_) _ _ _
 refine XA (wpAny_specialOf hT Zwq ?_)
 generalize hid:("list_reverseiterator.__length_hint__":String)=id0
 wp_delta
 rw[show splitId id0=some ("list_reverseiterator","__length_hint__") from by subst hid;decide+kernel]
 subst hid
 refine XA (wpAny_isInstance (T:="list_reverseiterator") (b:=true) hT (by rw[isSubtype_type];kernel_rfl) ?_)
 refine wpAny_ite_split (fun z=>absurd z (by decide)) (fun _=>?_)
 refine wpAny_ite_split (fun _=>?_) (fun z=>absurd (by decide+kernel) z)
 refine wpAny_ite_split (fun z=>absurd z (by decide+kernel)) (fun _=>?_)
 exact XB h
theorem Zuv {R:Result→Shared→Prop}{items:Array Value}(hh:A.handled=none)(n:Nat)(hn:items.size=n)(hsz:n≤sizeLine)(S:Addr)(hSi:S≠it)(hSl:S≠l)(hil:l≠it)
  (hit:s.heap.IsRevIter it l ((n:Int)-1)) (hl:s.heap.IsList l items) (hS:s.heap.get? S=some {cls:=.type "list",data:=.seq #[]})
  (hR:∀s' acc' c',Moved [S,it] (fun a b=>b=a) s s'→s'.heap.get? S=some {cls:=.type "list",dict:=none,data:=.seq acc' c',slots:=#[]}→ItemsOf (fun i v=>items[items.size-1-i]?=some v) acc' n→R (.ok (.ret .none)) s'):
  wpAny (model prog w) A.in1 (Builtin.«list.__init__» ⟨[.ref S,.ref it],[]⟩)
   (fun fin s2=>match fin with | .done f=>R (.ok f) s2 | .again c2=>c2.quiet=true∧codeAny (model prog w) A c2 R s2) (fun e s2=>R (.error e) s2) s:=by
 have W:=(Walks.listRev (prog:=prog) (w:=w) (A:=A.in1) hh it l hil items).toS
 rw[hn] at W
 have hSf:S∉[it,l]:=by simp[hSi,hSl]
 show wpAny _ A.in1 (Builtin.List.listItems (.ref S)>>=fun old=>Builtin.List.listUpdate (.ref S) (fun _=>#[])>>=fun _=>letGo old.toList.reverse>>=fun _=>Builtin.List.listExtendWith (.ref S) (.ref it) .none) _ _ s
 unfold Builtin.List.listItems
 refine XA ?_
 refine XA (wpAny_seqItems hS rfl (XB ?_))
 show wpAny _ A.in1 (updateSeq S (fun _=>#[])>>=fun _=>letGo (#[]:Array Value).toList.reverse>>=fun _=>Builtin.List.listExtendWith (.ref S) (.ref it) .none) _ _ s
 refine XA (wpAny_updateSeq hS rfl ?_)
 have hS2:=Heap.get?_update_self (Obj.mapSeq (fun _=>(#[]:Array Value))) hS rfl
 have oth:∀b o,b≠S→s.heap.get? b=some o→(s.heap.update S (Obj.mapSeq (fun _=>(#[]:Array Value)))).get? b=some o:=fun b o hb e=>
  (Heap.get?_update_other _ _ (Ne.symm hb)).trans e
 refine XA (wpAny_letGo ?_)
 unfold Builtin.List.listExtendWith
 have hit2:(s.heap.update S (Obj.mapSeq (fun _=>(#[]:Array Value)))).IsRevIter it l ((n:Int)-1):=hit.at fun o e=>oth it o hSi.symm e
 have hl2:(s.heap.update S (Obj.mapSeq (fun _=>(#[]:Array Value)))).IsList l items:=hl.at fun o e=>oth l o hSl.symm e
 refine XA (wpAny_typeOf (T:="list_reverseiterator") (Heap.IsRevIter.typeIs (s:={s with heap:=_}) hit2) ?_)
 have h1:Builtin.List.listSameRef (.ref S) (.ref it)=false:=by simp[Builtin.List.listSameRef,hSi]
 have h2:(Value.type "list_reverseiterator"==Value.type "list")=false:=by decide
 have h3:(Value.type "list_reverseiterator"==Value.type "tuple")=false:=by decide
 simp only[h1,h2,h3,Bool.or_false,Bool.false_eq_true,if_false]
 refine XA (wpAny_pyIter_revIter hit2 ?_)
 refine XA (wpAny_holding (Zuz hit2 ?_))
 have st:(fun i (h:Heap)=>i≤n∧h.IsRevIter it l ((n:Int)-1-(i:Int))∧h.IsList l items) 0 (s.heap.update S (Obj.mapSeq (fun _=>(#[]:Array Value)))):=⟨Nat.zero_le _,by simpa using hit2,hl2⟩
 refine wpAny_ite_split (fun z=>absurd z (by decide+kernel)) (fun _=>?_)
 refine XB ⟨plainId_quiet PySem.F.plain_extend_loop _,?_⟩
 refine codeAny_extend_loopS W hsz S hSf .none n 0 _ #[] _ rfl (XO _) st hS2 (ItemsOf.nil _) fun s3 acc3 c3 hm hS3 hacc=>?_
 refine hR s3 acc3 c3 ⟨fun b o hb e=>?_,hm.gens,hm.drawn,hm.os,hm.toks⟩ hS3 (by rw[hn];exact hacc)
 exact hm.heap b o hb (oth b o (fun z=>hb (by rw[z];simp)) e)
theorem Zmf {Q:Value→Shared→Prop}{items:Array Value}(hh:A.handled=none)(hsz:items.size≤sizeLine)(hil:l≠it)(hit:s.heap.IsRevIter it l ((items.size:Int)-1))(hl:s.heap.IsList l items)
  (hQ:∀h2 t2 acc2 c2,(∀b o,b≠it→s.heap.get? b=some o→h2.get? b=some o)→h2.get? s.heap.objs.size=some {cls:=.type "list",dict:=none,data:=.seq acc2 c2,slots:=#[]}→ItemsOf (fun i v=>items[items.size-1-i]?=some v) acc2 items.size→Q (.ref s.heap.objs.size) {s with heap:=h2,toks:=t2}):
  wpAny (model prog w) A (call (.type "list") [.ref it]) Q E s:=by
 refine callType_codes (Q₁:=fun ob s1=>ob=.ref s.heap.objs.size∧s1={s with heap:=s.heap.push {cls:=.type "list",data:=.seq #[]}}) PySem.F.called_list (PySem.F.typeCall_list_1 _) PySem.F.entry_list_init (code_list_new _ ⟨rfl,rfl⟩) fun ob s1 h1=>?_
 obtain⟨rfl,rfl⟩:=h1
 have hS:(s.heap.push {cls:=.type "list",data:=.seq #[]}).get? s.heap.objs.size=some {cls:=.type "list",data:=.seq #[]}:=XF _ rfl
 have ltI:it<s.heap.objs.size:=by obtain⟨_,e,_⟩:=hit;exact XD e
 have ltL:l<s.heap.objs.size:=by obtain⟨_,e,_⟩:=hl;exact XD e
 refine⟨⟨_,hS,rfl⟩,PySem.F.args_list_init_2 _ _,Zuv (A:=A.in1) hh items.size rfl hsz _ (Nat.ne_of_gt ltI) (Nat.ne_of_gt ltL) hil (hit.at fun o e=>XC _ e) (hl.at fun o e=>XC _ e) hS fun s3 acc3 c3 hm hS3 hacc=>⟨rfl,?_⟩⟩
 rw[Moved.eq_with hm]
 exact hQ s3.heap s3.toks acc3 c3 (fun b o hb e=>hm.heap b o (by simp only[List.mem_cons,List.not_mem_nil,or_false,not_or];exact⟨Nat.ne_of_lt (Heap.lt_size e),hb⟩) (Heap.get?_push_of_some _ e)) hS3 hacc
end
section
variable {X:Cx}
theorem Zms:∀{xs:List V} {us:List Value},Vals xs us→Vals xs.reverse us.reverse
 | _,_,.nil=>.nil
 | _,_,.cons r t=>by rw[List.reverse_cons,List.reverse_cons];exact(Zms t).append (.cons r .nil)
theorem Zr0 {its:List Value}{acc:Array Value}(h:ItemsOf (fun i v=>its.toArray[its.toArray.size-1-i]?=some v) acc its.toArray.size):acc.toList=its.reverse:=by
 obtain⟨h1,h2⟩:=h
 have hl:its.toArray.size=its.length:=by simp
 refine List.ext_getElem? fun j=>?_
 by_cases c:j<acc.size
 ·have e:acc[j]?=some acc[j]:=by simp[c]
  have h3:=h2 j _ e
  rw[Array.getElem?_toList,e,←h3,hl]
  rw[List.getElem?_reverse (by omega)]
  simp
 ·rw[List.getElem?_eq_none (by simp;omega),List.getElem?_eq_none (by simp;omega)]
def tLRev (K:W.Frag)(ta:TE):TE:=fun σ H Q=>ta σ H fun x H1=>∃a xs,x=.ref a∧SqL K H1 a xs∧∀p,H1 p=none→Q (.ref p) (upd H1 p (.lst xs.reverse))
theorem Zoz {a:Expr}{ta:TE}{p pos p2 pos2:Pos}(hc:X.calm=true)(hg:Gl X "list")(hm:X.mg "list"=none)(hg2:Gl X "reversed")(hm2:X.mg "reversed"=none)(ha:PE X a ta)(hs:starEach [a] X.env=[(false,eval a X.env)]:=by rfl)
  (hs2:starEach [.Call (.Name "reversed" p2) [a] [] pos2] X.env=[(false,eval (.Call (.Name "reversed" p2) [a] [] pos2) X.env)]:=by rfl) (hb:bootBuiltins "reversed"=some (.type "reversed"):=by decide+kernel) (hb2:bootBuiltins "list"=some (.type "list"):=by decide+kernel):
  PE X (.Call (.Name "list" p) [.Call (.Name "reversed" p2) [a] [] pos2] [] pos) (tLRev X.K ta):=by
 intro pins s σ H Q I h
 refine Call_ (Zb6 I hg hm hb2 (PyProof.Rows.callWith_type1 ?_ hs2 rfl))
 rw[hs2]
 show wpAny _ _ (spliced ((false,eval (.Call (.Name "reversed" p2) [a] [] pos2) X.env)::backTo pos [])) _ _ s
 refine Calls.spliced_cons (Call_ (Zb6 I hg2 hm2 hb (PyProof.Rows.callWith_type1 ?_ hs rfl)))
 have pa:PA X [a] (Zsv ta tNil):=Zhs ha Zo1 hs
 refine thn (pa pos2 pins s σ H (fun xs H1=>match xs with | [x]=>∃a ys,x=.ref a∧SqL X.K H1 a ys∧∀p,H1 p=none→Q (.ref p) (upd H1 p (.lst ys.reverse)) | _=>False) I h) fun us s1 ⟨vs,H1,I1,r1,q1⟩=>?_
 have one:∃x,vs=[x]:=by
  match vs,q1 with
  | [x],_=>exact⟨x,rfl⟩
  | [],q1=>exact q1.elim
  | _::_::_,q1=>exact q1.elim
 obtain⟨x,rfl⟩:=one
 obtain⟨l,ys,rfl,hq,q⟩:=q1
 obtain⟨u,rfl,ru⟩:=vals1 r1
 cases ru
 obtain⟨its,rv,pl,hz⟩:=I1.list hq
 have hlen:=rv.length
 refine call_reversed_list pl.isList ?_
 have ltL:l<s1.heap.objs.size:=by obtain⟨_,e,_⟩:=pl.isList;exact XD e
 refine Calls.spliced_nil ?_
 have hit:(s1.heap.push (revObj l ((its.toArray.size:Int)-1))).IsRevIter s1.heap.objs.size l ((its.toArray.size:Int)-1):=⟨_,XF _ rfl,rfl,rfl⟩
 have hl2:(s1.heap.push (revObj l ((its.toArray.size:Int)-1))).IsList l its.toArray:=pl.isList.at fun o e=>XC _ e
 refine Zmf (s:={s1 with heap:=s1.heap.push (revObj l ((its.toArray.size:Int)-1))}) (I.ok.hd hc) (by simp only[List.size_toArray];omega) (Nat.ne_of_lt ltL) hit hl2 fun h2 t2 acc c2 kp hN hI=>?_
 have hp:s1.heap.objs.size≤(s1.heap.push (revObj l ((its.toArray.size:Int)-1))).objs.size:=by rw[Heap.size_push];omega
 refine⟨.ref _,_,I1.laid (h':=h2) (t':=t2) (fun b o e=>kp b o (XH (XD e)) (XC _ e)) hp (show Xb X.prog X.w _ h2 _ (.lst ys.reverse) from⟨by rw[List.length_reverse];exact hz,its.reverse,c2,Zms rv,?_⟩),rfl,q _ (I1.hok.fresh hp)⟩
 rw[←Zr0 hI]
 exact hN
def PEp (X:Cx)(e:Expr)(t:TE):Prop:=
 ∀(pins:List (Addr×Obj)) (s:Shared) (σ:St) (H:Hp) (Q:VK),Inv X pins σ H s→t σ H Q→wpAny (model X.prog X.w) X.A (eval e X.env) (fun v s'=>1≤s'.toks∧EP X pins σ Q v s') X.xe s
variable {o e:Expr}{es:List Expr}{to:TE}{t:TA}{apos cpos:Pos}{z y:Str}{k k1 k2:Nat}{lp lp1 lp2:Pos}
end
end L2
namespace WL
open PySem PySem.Spec PyProof.Rows L2
section
variable {X:Cx}{e o:Expr}{we wo:WE}{p p2 pos pos2 apos cpos:Pos}
def Zlr:T→List T→Hw→WK→Prop:=fun x vs C Q=>∃a b xs zs,x=.ref a∧vs=[.ref b]∧C a=some (.lst xs)∧C b=some (.lst zs)∧xs.length+zs.length≤sizeLine∧Q .non (up C a (.lst (xs++zs)))
theorem Znp:MtS X "list.extend" Zlr:=⟨_,Zrr,fun F H C x v xs vs Q Q' R rx rs h q=>by
 obtain⟨a,b,ts,us,rfl,rfl,ha,hb,hl,h⟩:=h
 cases Z1 rx
 obtain⟨y,rfl,ry⟩:=Zaw rs
 cases Z1 ry
 obtain⟨ys,hy,r⟩:=R.lst ha
 obtain⟨zs,hz,r2⟩:=R.lst hb
 obtain⟨R',t⟩:=R.putL ha (r.app r2)
 exact⟨a,b,ys,zs,rfl,rfl,hy,hz,by rw[r.length,r2.length];exact hl,q _ _ _ _ R' t Zc8 h⟩⟩
def Zzb (e:WE):WE:=fun τ C Q χ=>e τ C (fun x C1=>∃a xs,x=.ref a∧C1 a=some (.lst xs)∧∀p,C1 p=none→Q (.ref p) (up C1 p (.lst xs.reverse))) χ
theorem Z13 (hc:X.calm=true)(hg:Gl X "list")(hm:X.mg "list"=none)(hg2:Gl X "reversed")(hm2:X.mg "reversed"=none)(he:SdE X e we)(hs:starEach [e] X.env=[(false,eval e X.env)]:=by rfl)
  (hs2:starEach [.Call (.Name "reversed" p2) [e] [] pos2] X.env=[(false,eval (.Call (.Name "reversed" p2) [e] [] pos2) X.env)]:=by rfl):
  SdE X (.Call (.Name "list" p) [.Call (.Name "reversed" p2) [e] [] pos2] [] pos) (Zzb we):=by
 obtain⟨t,p1,sm⟩:=he
 refine⟨_,Zoz hc hg hm hg2 hm2 p1 hs hs2,fun F H C σ τ Q Q' χ R S h q=>?_⟩
 refine sm F H C σ τ _ _ χ R S h fun x v H1 C1 R1 t1 rx h1=>?_
 obtain⟨a,xs,rfl,hC,h1⟩:=h1
 cases Z1 rx
 obtain⟨ys,hH,rs⟩:=R1.lst hC
 exact⟨a,ys,rfl,SqL.of hH,fun b hb=>q _ _ _ _ (R1.newL hb rs.reverse) (t1.trans (Tx.new hb)) J0 (h1 b (R1.free hb))⟩
theorem Zmd:Zbn X (.type "str") (fun xs H Q=>∃z,xs=[.str z]∧Q (.str z) H):=by
 intro pins s σ H xs us Q I r h
 obtain⟨z,rfl,q⟩:=h
 obtain⟨u,rfl,t,rfl⟩:=vals1 r
 exact PySem.P.str_of_str ⟨.str z,H,I,⟨_,rfl⟩,q⟩
def Zoh:List T→Hw→WK→Prop:=fun vs C Q=>(∃i:Int,vs=[.int i]∧i.natAbs.log2<1920∧Q (.str (toString i)) C)∨∃z,vs=[.str z]∧Q (.str z) C
theorem Zpv:Zgf X (.type "str") Zoh:=⟨_,Zme.or Zmd,fun F H C xs vs Q Q' R rs h q=>by
 rcases h with⟨j,rfl,hl,h⟩ | ⟨z,rfl,h⟩
 ·obtain⟨x,rfl,rx⟩:=Zaw rs
  cases Yg rx
  exact .inl ⟨j,rfl,hl,q _ _ H C R (Tx.refl H) J2 h⟩
 ·obtain⟨x,rfl,rx⟩:=Zaw rs
  cases Jo rx
  exact .inr ⟨z,rfl,q _ _ H C R (Tx.refl H) J2 h⟩⟩
def SdP (X:Cx)(e:Expr)(w:WE):Prop:=∃t,PEp X e t∧SimE X.K t w
def eRepl (y z:Str)(o:WE):WE:=fun τ C Q χ=>o τ C (fun x C1=>∃u,x=.str u∧u.length≤1048576∧Q (.str (Txt.replace u y z)) C1) χ
end
end WL
namespace L2
open PySem PySem.Spec PyProof.Rows
section
variable {prog:Program}{w:World}{A:Around}{E:Value→Shared→Prop}{s:Shared}{a b:Addr}{oa ob:Obj}{ea eb:Array DictEntry}{pa pb:Nat}
theorem shows {d:Addr}{Q:Unit→Shared→Prop}(hd:(d==sysModules)=false)(h:Q () s):wpAny (model prog w) A (Builtin.Dict.showsAll d) Q E s:=by
 unfold Builtin.Dict.showsAll
 rw[XX (by rw[hd];exact YJ)]
 exact XB h
theorem Zwk {id:String}{Q:Bool→Shared→Prop}(sa:(a==sysModules)=false)(sb:(b==sysModules)=false)(ha:s.heap.get? a=some oa)(da:oa.data=.dict ea pa)(hb:s.heap.get? b=some ob)(db:ob.data=.dict eb pb)
  (hne:(ea.size !=eb.size)=true) (q:Q false s):wpAny (model prog w) A (Builtin.Dict.samePairs id a b) Q E s:=by
 unfold Builtin.Dict.samePairs
 refine XA (shows sa (XA (shows sb ?_)))
 refine XA (wpAny_dictEntries ha da ?_)
 refine XA (wpAny_dictEntries hb db ?_)
 rw[XY hne]
 exact XA (wpAny_rule (XB q))
theorem Zwj {K:Type}[DecidableEq K]{knd:KeyKind prog w K}{id:String}{Q:Bool→Shared→Prop}(sa:(a==sysModules)=false)(sb:(b==sysModules)=false)(ha:s.heap.get? a=some oa)(da:oa.data=.dict ea pa)(hb:s.heap.get? b=some ob)(db:ob.data=.dict eb pb)
  (hk:KeysOf knd eb) (hsz:ea.size=eb.size)
  (hv:∀i (h1:i<ea.size) (h2:i<eb.size),∃k,knd.is k ea[i].key=true∧ea[i].hash=knd.hash k∧(eb.findIdx? fun e=>knd.is k e.key)=some i∧SeqAt.EqAt A s ea[i].val eb[i].val true) (q:Q true s):
  wpAny (model prog w) A (Builtin.Dict.samePairs id a b) Q E s:=by
 unfold Builtin.Dict.samePairs
 refine XA (shows sa (XA (shows sb ?_)))
 refine XA (wpAny_dictEntries ha da ?_)
 refine XA (wpAny_dictEntries hb db ?_)
 rw[if_neg (by simp[hsz])]
 refine XA (wpAny_dictEpoch ha da ?_)
 refine XA ?_
 rw[Std.Legacy.Range.forIn_eq_forIn_range']
 simp only[Std.Legacy.Range.size,Nat.sub_zero,Nat.add_sub_cancel,Nat.div_one]
 refine wpAny_forIn_list _ (fun rest r s2=>∃i,rest=List.range' i (ea.size-i)∧i≤ea.size∧r.1=none∧s2=s) _ ?_ ?_ _ _ ⟨0,by simp,Nat.zero_le _,rfl,rfl⟩
 ·rintro x rest r s2 ⟨i,hr,hi,hr1,rfl⟩
  have hlt:i<ea.size:=by
   rcases Nat.lt_or_ge i ea.size with h | h
   ·exact h
   ·rw[Nat.sub_eq_zero_of_le h] at hr;simp at hr
  obtain⟨rfl,hrest⟩:x=i∧rest=List.range' (i+1) (ea.size-(i+1)):=by
   have e:ea.size-i=(ea.size-(i+1))+1:=by omega
   rw[e,List.range'_succ] at hr
   injection hr with h1 h2
   exact⟨h1,h2⟩
  have hltb:x<eb.size:=by omega
  obtain⟨k,k1,k2,k3,k4⟩:=hv x hlt hltb
  refine XA (wpAny_dictEntries ha da ?_)
  rw[Array.getElem?_eq_getElem hlt]
  refine XA (wpAny_holding ?_)
  rw[k2]
  refine XA (wpAny_dictFind_of k1 hb db hk ?_)
  rw[k3]
  refine XA (wpAny_dictEntries hb db ?_)
  rw[Array.getElem?_eq_getElem hltb]
  refine wpAny_holding (k4 prog w _ _ ?_)
  rw[XX (by decide)]
  refine XA (wpAny_dictEpoch ha da ?_)
  rw[if_neg (by simp)]
  exact XB ⟨x+1,hrest,hlt,rfl,rfl⟩
 ·rintro r s2 ⟨i,hr,hi,hr1,rfl⟩
  rw[hr1]
  exact XB q
theorem Zqq (wanted:Bool){k:Bool}{R:Result→Shared→Prop}(ha:s.TypeIs (.ref a) "dict")(hb:s.TypeIs (.ref b) "dict")
  (hs:∀(id:String) (Q:Bool→Shared→Prop),Q k s→wpAny (model prog w) A.in1 (Builtin.Dict.samePairs id a b) Q (fun e s2=>R (.error e) s2) s) (h:R (.ok (.ret (.bool (k==wanted)))) s):
  wpAny (model prog w) A.in1 ((if wanted then Builtin.«dict.__eq__» else Builtin.«dict.__ne__») ⟨[.ref a,.ref b],[]⟩)
   (fun fin s2=>match fin with | .done f=>R (.ok f) s2 | .again c2=>c2.quiet=true∧codeAny (model prog w) A c2 R s2) (fun e s2=>R (.error e) s2) s:=by
 cases wanted
 ·rw[XX (by decide)]
  unfold Builtin.«dict.__ne__»
  wp_delta
  unfold Builtin.Dict.dictSlotArgs
  refine XA (XA (wpAny_notOrdered_dict ha ?_))
  refine XA (wpAny_of_eq (a:=(Value.ref a,[Value.ref b])) rfl (XB ?_))
  refine XA (wpAny_isInstance (T:="dict") (b:=true) hb (by rw[isSubtype_type];kernel_rfl) ?_)
  rw[XX (by decide)]
  refine XA (XB (XA (XB (XA (hs _ _ ?_)))))
  exact XB h
 ·rw[XY rfl]
  unfold Builtin.«dict.__eq__»
  wp_delta
  unfold Builtin.Dict.dictSlotArgs
  refine XA (XA (wpAny_notOrdered_dict ha ?_))
  refine XA (wpAny_of_eq (a:=(Value.ref a,[Value.ref b])) rfl (XB ?_))
  refine XA (wpAny_isInstance (T:="dict") (b:=true) hb (by rw[isSubtype_type];kernel_rfl) ?_)
  rw[XX (by decide)]
  refine XA (XB (XA (XB (XA (hs _ _ ?_)))))
  exact XB h
theorem Zyc {k:Bool}{Q:Value→Shared→Prop}(hu:A.units<cLine)(ha:s.TypeIs (.ref a) "dict")(hb:s.TypeIs (.ref b) "dict")
  (hs:∀(E:Value→Shared→Prop) (id:String) (Q:Bool→Shared→Prop),Q k s→wpAny (model prog w) A.in1 (Builtin.Dict.samePairs id a b) Q E s) (h:Q (.bool (k==true)) s):wpAny (model prog w) A (richCompare .Eq (.ref a) (.ref b)) Q E s:=
 wpAny_richCompare_same_room ha hb PySem.F.slot_dict_eq (wpAny_call (codeAny_call_builtin PySem.F.slot_dict_eq.plain PySem.F.entry_dict_eq (PySem.F.slot_dict_eq.check _ _ _ _ _ _ _ _ ha (PySem.F.args_dict_eq_2 _ _)
  (Zqq (R:=fun r s2=>match r with | .ok (.ret v)=>v≠.notImplemented∧Q v s2 | .ok _=>False | .error e=>E e s2) true ha hb (fun id Q q=>hs _ id Q q) ⟨(fun z=>nomatch z),h⟩)))) hu
theorem Zyb {k:Bool}{Q:Value→Shared→Prop}(hu:A.units<cLine)(ha:s.TypeIs (.ref a) "dict")(hb:s.TypeIs (.ref b) "dict")
  (hs:∀(E:Value→Shared→Prop) (id:String) (Q:Bool→Shared→Prop),Q k s→wpAny (model prog w) A.in1 (Builtin.Dict.samePairs id a b) Q E s) (h:Q (.bool (k==false)) s):wpAny (model prog w) A (richCompare .NotEq (.ref a) (.ref b)) Q E s:=
 wpAny_richCompare_same_room ha hb PySem.F.slot_dict_ne (wpAny_call (codeAny_call_builtin PySem.F.slot_dict_ne.plain PySem.F.entry_dict_ne (PySem.F.slot_dict_ne.check _ _ _ _ _ _ _ _ ha (PySem.F.args_dict_ne_2 _ _)
  (Zqq (R:=fun r s2=>match r with | .ok (.ret v)=>v≠.notImplemented∧Q v s2 | .ok _=>False | .error e=>E e s2) false ha hb (fun id Q q=>hs _ id Q q) ⟨(fun z=>nomatch z),h⟩)))) hu
end
section
variable {prog:Program}{w:World}{A:Around}{E:Value→Shared→Prop}{s:Shared}
theorem Zwf {jt q:Addr}{i:Nat}{its:Array Value}{x:Value}{Q:Value→Shared→Prop}(hj:s.heap.IsTupleIter jt q i)(hq:s.heap.IsTuple q its)(hx:its[i]?=some x)
  (hQ:∀h2,h2.IsTupleIter jt q (i+1)→Heap.SameBut jt s.heap h2→Q x {s with heap:=h2}):wpAny (model prog w) A (Builtin.SmallTypes.nextOf (.ref jt)) Q E s:=by
 obtain⟨ob,hob,hcl,hda⟩:=id hj
 obtain⟨oq,hoq,_,nq,hdq⟩:=hq
 unfold Builtin.SmallTypes.nextOf
 refine XA (wpAny_callSpecial?_slot (name:=Str.ofString "__next__") hj.typeIs F.slot_tuple_iterator_next (wpAny_call_entry F.slot_tuple_iterator_next hj.typeIs F.entry_tuple_iterator_next ?_ (F.args_tuple_iterator_next_1 _)))
 show wpAny _ _ (field (.ref jt) 0>>=_) _ _ s
 refine XA (wpAny_field hob hda (x:=.ref q) rfl ?_)
 show wpAny _ _ (if (Value.ref q==Value.none)=true then _ else _) _ _ s
 rw[XX (show ¬((Value.ref q==Value.none)=true) from YJ)]
 show wpAny _ _ (field (.ref jt) 1>>=_) _ _ s
 refine XA (wpAny_field hob hda (x:=.int i 0) rfl ?_)
 show wpAny _ _ (seqItems? (.ref q)>>=_) _ _ s
 refine XA (wpAny_seqItems hoq hdq ?_)
 simp only[Int.toNat_natCast,hx]
 refine wpAny_bind (wpAny_setField hob hda (by simp) (wpAny_pure ⟨x,rfl,wpAny_pure (hQ _ ?_ (Heap.SameBut.update ..))⟩))
 refine⟨_,Heap.get?_update_self _ hob (Obj.isFreed_of_fields (Obj.data_mapFields hda _)),(Obj.cls_mapFields ..).trans hcl,?_⟩
 rw[Obj.data_mapFields hda];simp[rawInt]
theorem Zzr {jt q:Addr}{i:Nat}{its:Array Value}{Q:Value→Shared→Prop}(hh:A.handled=none)(hj:s.heap.IsTupleIter jt q i)(hq:s.heap.IsTuple q its)(hx:its[i]?=none)
  (hE:∀h2 ex,Heap.ExtBut jt s.heap h2→(∃o,h2.get? ex=some o∧o.cls=.type "StopIteration")→E (.ref ex) {s with heap:=h2}):wpAny (model prog w) A (Builtin.SmallTypes.nextOf (.ref jt)) Q E s:=by
 obtain⟨ob,hob,hcl,hda⟩:=id hj
 obtain⟨oq,hoq,_,nq,hdq⟩:=hq
 unfold Builtin.SmallTypes.nextOf
 refine XA (wpAny_callSpecial?_slot (name:=Str.ofString "__next__") hj.typeIs F.slot_tuple_iterator_next (wpAny_call_entry F.slot_tuple_iterator_next hj.typeIs F.entry_tuple_iterator_next ?_ (F.args_tuple_iterator_next_1 _)))
 show wpAny _ _ (field (.ref jt) 0>>=_) _ _ s
 refine XA (wpAny_field hob hda (x:=.ref q) rfl ?_)
 show wpAny _ _ (if (Value.ref q==Value.none)=true then _ else _) _ _ s
 rw[XX (show ¬((Value.ref q==Value.none)=true) from YJ)]
 show wpAny _ _ (field (.ref jt) 1>>=_) _ _ s
 refine XA (wpAny_field hob hda (x:=.int i 0) rfl ?_)
 show wpAny _ _ (seqItems? (.ref q)>>=_) _ _ s
 refine XA (wpAny_seqItems hoq hdq ?_)
 simp only[Int.toNat_natCast,hx]
 refine wpAny_bind (wpAny_rule (wpAny_bind (wpAny_setField hob hda (by simp) ?_)))
 refine XA ?_
 simp only[newExc,newTuple]
 refine XA (wpAny_newObj_type ?_ (by size_fits))
 refine wpAny_bind (m:=firstArgMember _ _) (wpAny_of_eq (a:=Value.none) (by first | rfl | (simp only[firstArgMember]<;>rfl)) ?_)
 refine wpAny_newObj_type ?_ (by size_fits)
 simp only[raiseNew]
 refine XA (wpAny_handled ?_)
 rw[show A.in1.handled=none from hh]
 exact XA (XB (wpAny_throw (hE _ _ (((Heap.SameBut.update ..).extBut.push _).push _) ⟨_,XF _ rfl,rfl⟩)))
end
theorem Zaq {prog:Program}{w:World}{A:Around}(hh:A.handled=none)(jt q:Addr)(hne:q≠jt)(its:Array Value):
  Draws prog w A jt [jt,q] its.size (fun i v=>its[i]?=some v) (fun i h=>h.IsTupleIter jt q i∧h.IsTuple q its) where
 live:=fun _ _ st=>let ⟨o,ho,_⟩:=st.1;⟨o,ho⟩
 frame:=fun _ _ _ st k=>⟨st.1.at fun o e=>k jt (by simp) o e,st.2.at fun o e=>k q (by simp) o e⟩
 item:=fun i s Q E hi st hQ=>Zwf st.1 st.2 (x:=its[i]) (by simp[hi]) fun h2 a b=>hQ _ h2 s.toks (by simp[hi]) ⟨a,st.2.extBut b.extBut hne⟩ b
 done:=fun s Q E st hE=>Zzr hh st.1 st.2 (by simp) hE
structure ZAp (z TI TO i1 i2:Addr)(f1 f2:List Addr):Prop where
 m1:i1∈f1
 m2:i2∈f2
 z1:z∉f1
 z2:z∉f2
 o1:TO∉f1
 o2:TO∉f2
 a12:i1∉f2
 a21:i2∉f1
 tz:TI≠z
 oz:TO≠z
 io:TI≠TO
 t1:TI≠i1
 t2:TI≠i2
section
variable {prog:Program}{w:World}{A:Around}{E:Value→Shared→Prop}{s:Shared}{z TI TO i1 i2:Addr}{f1 f2:List Addr}{n:Nat}{P1 P2:Nat→Value→Prop}{S1 S2:Nat→Heap→Prop}
theorem Zpx {i:Nat}{u v:Value}{Q:Value→Shared→Prop}(D1:Draws prog w A i1 f1 n P1 S1)(D2:Draws prog w A i2 f2 n P2 S2)(Z:ZAp z TI TO i1 i2 f1 f2)(hi:i<n)
  (hz:IsZip s.heap z TI TO .none) (hTI:IsPair s.heap TI (.ref i1) (.ref i2)) (hTO:IsPair s.heap TO u v) (s1:S1 i s.heap) (s2:S2 i s.heap)
  (hQ:∀x y h2 t2,P1 i x→P2 i y→IsZip h2 z TI TO (rawInt s.heap.objs.size)→IsPair h2 TO x y→S1 (i+1) h2→S2 (i+1) h2→IsPair h2 s.heap.objs.size x y→
   (∀c o,c≠z→c≠TO→c≠i1→c≠i2→s.heap.get? c=some o→h2.get? c=some o)→Q (.ref s.heap.objs.size) {s with heap:=h2,toks:=t2}):
  wpAny (model prog w) A (Builtin.«zip.__next__» ⟨[.ref z],[]⟩) (fun fin s2=>∃r,fin=.done (.ret r)∧Q r s2) E s:=by
 show wpAny _ _ (field (.ref z) 2>>=_) _ E s
 refine XA (wpAny_field hz rfl (x:=.bool false) rfl ?_)
 show wpAny _ _ (field (.ref z) 3>>=_) _ E s
 refine XA (wpAny_field hz rfl (x:=.ref TI) rfl ?_)
 refine XA (wpAny_seqItems hTI rfl ?_)
 show wpAny _ _ (Builtin.SmallTypes.ownedTupleIsFree (.ref z)>>=_) _ E s
 refine XA ?_
 unfold Builtin.SmallTypes.ownedTupleIsFree
 refine XA (wpAny_field hz rfl (x:=.none) rfl (XB ?_))
 simp only[if_true]
 refine XA (wpAny_rule ?_)
 refine XA (wpAny_field hz rfl (x:=.ref TO) rfl ?_)
 refine wpAny_bind (wpAny_setField_rec hz (by simp) fun ha hza sa=>?_)
 replace hza:IsZip ha z TI TO .ellipsis:=hza
 refine XA ?_
 simp only[List.zipIdx_cons,List.zipIdx_nil,List.forIn_cons,List.forIn_nil]
 have ne:∀{b c:Addr} {l:List Addr},b∈l→c∉l→b≠c:=fun hb hc e=>hc (e▸hb)
 have a1:S1 i ha:=D1.frame i _ _ s1 fun b hb o e=>sa.extBut _ _ (ne hb Z.z1) e
 have a2:S2 i ha:=D2.frame i _ _ s2 fun b hb o e=>sa.extBut _ _ (ne hb Z.z2) e
 refine XA (XA (wpAny_onRaise ?_))
 show wpAny _ _ (Builtin.SmallTypes.nextOf (.ref i1)>>=_) _ _ _
 refine XA (D1.item i {s with heap:=ha} _ _ hi a1 fun x hb tb hx b1 sb=>XB ?_)
 have b2:S2 i hb:=D2.frame i _ _ a2 fun b hm o e=>sb.extBut _ _ (ne hm Z.a12) e
 have Oi1:TO≠i1:=fun e=>Z.o1 (e▸Z.m1)
 have Oi2:TO≠i2:=fun e=>Z.o2 (e▸Z.m2)
 have zi1:z≠i1:=fun e=>Z.z1 (e▸Z.m1)
 have zi2:z≠i2:=fun e=>Z.z2 (e▸Z.m2)
 have tob:IsPair hb TO u v:=sb.extBut _ _ Oi1 (sa.extBut _ _ Z.oz hTO)
 refine XA (wpAny_seqItems tob rfl ?_)
 refine XA (wpAny_updateSeq_pair tob fun hc toc sc=>?_)
 replace toc:IsPair hc TO x v:=toc
 refine XA (wpAny_letGo (XB ?_))
 have c1:S1 (i+1) hc:=D1.frame _ _ _ b1 fun b hm o e=>sc.extBut _ _ (ne hm Z.o1) e
 have c2:S2 i hc:=D2.frame _ _ _ b2 fun b hm o e=>sc.extBut _ _ (ne hm Z.o2) e
 refine XA (XA (wpAny_onRaise ?_))
 show wpAny _ _ (Builtin.SmallTypes.nextOf (.ref i2)>>=_) _ _ _
 refine XA (D2.item i {s with heap:=hc,toks:=tb} _ _ hi c2 fun y hd td hy d2 sd=>XB ?_)
 have d1:S1 (i+1) hd:=D1.frame _ _ _ c1 fun b hm o e=>sd.extBut _ _ (ne hm Z.a21) e
 have tod:IsPair hd TO x v:=sd.extBut _ _ Oi2 toc
 refine XA (wpAny_seqItems tod rfl ?_)
 refine XA (wpAny_updateSeq_pair tod fun he toe se=>?_)
 replace toe:IsPair he TO x y:=toe
 refine XA (wpAny_letGo (XB (XB ?_)))
 have e1:S1 (i+1) he:=D1.frame _ _ _ d1 fun b hm o e=>se.extBut _ _ (ne hm Z.o1) e
 have e2:S2 (i+1) he:=D2.frame _ _ _ d2 fun b hm o e=>se.extBut _ _ (ne hm Z.o2) e
 refine XA (wpAny_seqItems toe rfl ?_)
 refine XA (wpAny_newTuple ?_)
 have hsz:he.objs.size=s.heap.objs.size:=by rw[se.1,sd.1,sc.1,sb.1,sa.1]
 have hze:IsZip he z TI TO .ellipsis:=se.extBut _ _ Z.oz.symm (sd.extBut _ _ zi2 (sc.extBut _ _ Z.oz.symm (sb.extBut _ _ zi1 hza)))
 have hke:∀c o,c≠z→c≠TO→c≠i1→c≠i2→s.heap.get? c=some o→he.get? c=some o:=fun c o n1 n2 n3 n4 e=>se.extBut _ _ n2 (sd.extBut _ _ n4 (sc.extBut _ _ n2 (sb.extBut _ _ n3 (sa.extBut _ _ n1 e))))
 have hzlt:z<he.objs.size:=XD hze
 show wpAny _ _ (Builtin.SmallTypes.ownedTupleHandOut (.ref z) (.ref he.objs.size)>>=_) _ _ _
 refine XA ?_
 unfold Builtin.SmallTypes.ownedTupleHandOut
 have hzf:IsZip (he.push {cls:=.type "tuple",data:=.seq #[x,y]}) z TI TO .ellipsis:=XC _ hze
 refine wpAny_bind (wpAny_setField_rec hzf (by simp) fun hg hzg sg=>?_)
 replace hzg:IsZip hg z TI TO (rawInt he.objs.size):=hzg
 refine wpAny_setField_rec hzg (by simp) fun hk hzk sk=>?_
 replace hzk:IsZip hk z TI TO (rawInt he.objs.size):=hzk
 have up:∀c o,c≠z→he.get? c=some o→hk.get? c=some o:=fun c o n1 e=>sk.extBut _ _ n1 (sg.extBut _ _ n1 (XC _ e))
 have hT:IsPair hk he.objs.size x y:=sk.extBut _ _ (Nat.ne_of_gt hzlt) (sg.extBut _ _ (Nat.ne_of_gt hzlt) (XF _ rfl))
 rw[hsz] at hzk hT
 refine XB ⟨_,rfl,?_⟩
 show Q (.ref he.objs.size) _
 rw[hsz]
 exact hQ x y hk td hx hy hzk (up _ _ Z.oz toe) (D1.frame _ _ _ e1 fun b hm o e=>up _ o (ne hm Z.z1) e) (D2.frame _ _ _ e2 fun b hm o e=>up _ o (ne hm Z.z2) e) hT fun c o n1 n2 n3 n4 e=>up c o n1 (hke c o n1 n2 n3 n4 e)
theorem Zse {u v:Value}{Q:Fin→Shared→Prop}(D1:Draws prog w A i1 f1 n P1 S1)(Z:ZAp z TI TO i1 i2 f1 f2)
  (hz:IsZip s.heap z TI TO .none) (hTI:IsPair s.heap TI (.ref i1) (.ref i2)) (hTO:IsPair s.heap TO u v) (s1:S1 n s.heap)
  (hE:∀h2 ex,(∀c o,c≠z→c≠TO→c≠i1→c≠i2→s.heap.get? c=some o→h2.get? c=some o)→(∃o,h2.get? ex=some o∧o.cls=.type "StopIteration")→E (.ref ex) {s with heap:=h2}):
  wpAny (model prog w) A (Builtin.«zip.__next__» ⟨[.ref z],[]⟩) Q E s:=by
 show wpAny _ _ (field (.ref z) 2>>=_) _ E s
 refine XA (wpAny_field hz rfl (x:=.bool false) rfl ?_)
 show wpAny _ _ (field (.ref z) 3>>=_) _ E s
 refine XA (wpAny_field hz rfl (x:=.ref TI) rfl ?_)
 refine XA (wpAny_seqItems hTI rfl ?_)
 show wpAny _ _ (Builtin.SmallTypes.ownedTupleIsFree (.ref z)>>=_) _ E s
 refine XA ?_
 unfold Builtin.SmallTypes.ownedTupleIsFree
 refine XA (wpAny_field hz rfl (x:=.none) rfl (XB ?_))
 simp only[if_true]
 refine XA (wpAny_rule ?_)
 refine XA (wpAny_field hz rfl (x:=.ref TO) rfl ?_)
 refine wpAny_bind (wpAny_setField_rec hz (by simp) fun ha hza sa=>?_)
 replace hza:IsZip ha z TI TO .ellipsis:=hza
 refine XA ?_
 simp only[List.zipIdx_cons,List.zipIdx_nil,List.forIn_cons,List.forIn_nil]
 have ne:∀{b c:Addr} {l:List Addr},b∈l→c∉l→b≠c:=fun hb hc e=>hc (e▸hb)
 have a1:S1 n ha:=D1.frame n _ _ s1 fun b hb o e=>sa.extBut _ _ (ne hb Z.z1) e
 refine XA (XA (wpAny_onRaise ?_))
 show wpAny _ _ (Builtin.SmallTypes.nextOf (.ref i1)>>=_) _ _ _
 refine XA (D1.done {s with heap:=ha} _ _ a1 fun hb ex sb he=>?_)
 obtain⟨oe,hoe,hce⟩:=he
 have hzb:IsZip hb z TI TO .ellipsis:=sb _ _ (fun e=>Z.z1 (e▸Z.m1)) hza
 have hez:ex≠z:=fun e=>by subst e;rw[hzb] at hoe;cases hoe;simp at hce
 exact wpAny_setField_rec hzb (by simp) fun hc _ sc=>hE hc ex (fun c o n1 _ n3 _ e=>sc.extBut _ _ n1 (sb _ _ n3 (sa.extBut _ _ n1 e))) ⟨oe,sc.extBut _ _ hez hoe,hce⟩
theorem Zmp (D1:Draws prog w A.in1 i1 f1 n P1 S1)(D2:Draws prog w A.in1 i2 f2 n P2 S2)(Z:ZAp z TI TO i1 i2 f1 f2):
  WalksT prog w A z (z::TI::TO::(f1++f2)) [z,TO,i1,i2] n (fun i vals=>∃x y,P1 i x∧P2 i y∧vals=#[x,y])
   (fun i h=>IsZip h z TI TO .none∧IsPair h TI (.ref i1) (.ref i2)∧(∃a b,IsPair h TO a b)∧S1 i h∧S2 i h)
   (fun i T h=>IsZip h z TI TO (rawInt T)∧IsPair h TI (.ref i1) (.ref i2)∧(∃a b,IsPair h TO a b)∧S1 (i+1) h∧S2 (i+1) h∧T∉[z,TO,i1,i2]) where
 sub:=fun c hc=>by
  simp only[ZM,ZN,or_false] at hc
  rcases hc with rfl | rfl | rfl | rfl
  ·simp
  ·simp
  ·simp[Z.m1]
  ·simp[Z.m2]
 frame:=fun i h h2 st k=>by
  obtain⟨a,b,⟨u,v,c⟩,d,e⟩:=st
  exact⟨k z (by simp) _ a,k TI (by simp) _ b,⟨u,v,k TO (by simp) _ c⟩,D1.frame _ _ _ d fun x hx o q=>k x (by simp[hx]) o q,D2.frame _ _ _ e fun x hx o q=>k x (by simp[hx]) o q⟩
 item:=fun i s Q E hi st hQ=>by
  obtain⟨a,b,⟨u,v,c⟩,d,e⟩:=st
  have hT:s.TypeIs (.ref z) "zip":=⟨_,a,rfl⟩
  unfold pyNext
  refine XA (wpAny_attempt (wpAny_callSpecial?_slot (name:=Str.ofString "__next__") hT F.slot_zip_next (wpAny_call_entry F.slot_zip_next hT F.entry_zip_next
   (Zpx D1 D2 Z hi a b c d e fun x y h2 t2 hx hy z1 z2 z3 z4 z5 z6=>XB ?_) (F.args_zip_next_1 _))))
  have lt:∀{c o},s.heap.get? c=some o→s.heap.objs.size≠c:=fun e=>Nat.ne_of_gt (XD e)
  obtain⟨o1,l1⟩:=D1.live _ _ d
  obtain⟨o2,l2⟩:=D2.live _ _ e
  refine hQ s.heap.objs.size #[x,y] h2 t2 ⟨x,y,hx,hy,rfl⟩ (Nat.le_refl _) ⟨_,z5,rfl,_,rfl⟩ ⟨z1,z6 _ _ Z.tz Z.io Z.t1 Z.t2 b,⟨_,_,z2⟩,z3,z4,?_⟩ fun c o hc q=>z6 c o (fun x=>hc (by simp[x])) (fun x=>hc (by simp[x])) (fun x=>hc (by simp[x])) (fun x=>hc (by simp[x])) q
  simp only[List.mem_cons,List.not_mem_nil,or_false,not_or]
  exact⟨lt a,lt c,lt l1,lt l2⟩
 go:=fun elts k pos i T s Q E hm hQ=>by
  obtain⟨a,b,⟨u,v,c⟩,d,e,_⟩:=hm
  refine wpAny_letOwnedTupleGo_zip a fun h2 hz2 s2=>hQ h2 ⟨hz2,s2.extBut _ _ Z.tz b,⟨u,v,s2.extBut _ _ Z.oz c⟩,?_,?_⟩ fun c o hc q=>s2.extBut _ _ (fun x=>hc (by simp[x])) q
  ·exact D1.frame _ _ _ d fun x hx o q=>s2.extBut _ _ (fun z'=>Z.z1 (z'▸hx)) q
  ·exact D2.frame _ _ _ e fun x hx o q=>s2.extBut _ _ (fun z'=>Z.z2 (z'▸hx)) q
 apart:=fun i T h hm=>hm.2.2.2.2.2
 done:=fun s Q E st hQ=>by
  obtain⟨a,b,⟨u,v,c⟩,d,e⟩:=st
  have hT:s.TypeIs (.ref z) "zip":=⟨_,a,rfl⟩
  unfold pyNext
  refine XA (wpAny_attempt (wpAny_callSpecial?_slot (name:=Str.ofString "__next__") hT F.slot_zip_next (wpAny_call_entry F.slot_zip_next hT F.entry_zip_next (Zse D1 Z a b c d fun h2 ex hk he=>?_) (F.args_zip_next_1 _))))
  obtain⟨o,ho,hc⟩:=he
  refine XA (wpAny_isInstance (T:="StopIteration") (b:=true) ⟨o,ho,hc⟩ isSubtype_stop ?_)
  exact wpAny_pure (hQ h2 s.toks fun c o hc q=>hk c o (fun x=>hc (by simp[x])) (fun x=>hc (by simp[x])) (fun x=>hc (by simp[x])) (fun x=>hc (by simp[x])) q)
 self:=fun i s Q E st h=>wpAny_pyIter_zip st.1 h
end
abbrev itOb (c:String)(l:Addr):Obj:={cls:=.type c,data:=.fields #[.ref l,.int 0 0]}
abbrev zA (h:Heap)(c1:String)(l1:Addr):Heap:=h.push (itOb c1 l1)
abbrev zB (h:Heap)(c1:String)(l1:Addr)(c2:String)(l2:Addr):Heap:=(zA h c1 l1).push (itOb c2 l2)
abbrev zC (h:Heap)(c1:String)(l1:Addr)(c2:String)(l2:Addr):Heap:=(zB h c1 l1 c2 l2).push {cls:=.type "tuple",data:=.seq #[.ref h.objs.size,.ref (zA h c1 l1).objs.size]}
abbrev zD (h:Heap)(c1:String)(l1:Addr)(c2:String)(l2:Addr):Heap:=(zC h c1 l1 c2 l2).push {cls:=.type "tuple",data:=.seq #[.none,.none]}
abbrev zE (h:Heap)(c1:String)(l1:Addr)(c2:String)(l2:Addr):Heap:=(zD h c1 l1 c2 l2).push {cls:=.type "zip",data:=.fields #[.none,.bool false,.bool false,.ref (zB h c1 l1 c2 l2).objs.size,.ref (zC h c1 l1 c2 l2).objs.size]}
theorem mz_tl (l1 l2:Addr)(xs ys:Array Value):Meets (Builtin.«zip.__new__» ⟨[.type "zip",.ref l1,.ref l2],[]⟩) (fun _ R s=>s.heap.IsTuple l1 xs∧s.heap.IsList l2 ys∧
  R (.ok (.ret (.ref (zD s.heap "tuple_iterator" l1 "list_iterator" l2).objs.size))) {s with heap:=zE s.heap "tuple_iterator" l1 "list_iterator" l2}):=
 .of_wp fun prog w A R s h=>by
  obtain⟨hp,g,d,tk,os⟩:=s;obtain⟨hl1,hl2,h⟩:=h
  have hsub:=sub_zip
  have hL1:Heap.IsTuple (Shared.heap ⟨hp,g,d,tk,os⟩) l1 xs:=hl1
  have hL2:Heap.IsList (Shared.heap ⟨hp.push {cls:=.type "tuple_iterator",data:=.fields #[.ref l1,.int 0 0]},g,d,tk,os⟩) l2 ys:=Heap.IsList.push hl2 _
  wp_walk using wpAny_pyIter_tuple hL1,wpAny_pyIter_list hL2
  exact⟨_,rfl,h⟩
theorem mz_tt (l1 l2:Addr)(xs ys:Array Value):Meets (Builtin.«zip.__new__» ⟨[.type "zip",.ref l1,.ref l2],[]⟩) (fun _ R s=>s.heap.IsTuple l1 xs∧s.heap.IsTuple l2 ys∧
  R (.ok (.ret (.ref (zD s.heap "tuple_iterator" l1 "tuple_iterator" l2).objs.size))) {s with heap:=zE s.heap "tuple_iterator" l1 "tuple_iterator" l2}):=
 .of_wp fun prog w A R s h=>by
  obtain⟨hp,g,d,tk,os⟩:=s;obtain⟨hl1,hl2,h⟩:=h
  have hsub:=sub_zip
  have hL1:Heap.IsTuple (Shared.heap ⟨hp,g,d,tk,os⟩) l1 xs:=hl1
  have hL2:Heap.IsTuple (Shared.heap ⟨hp.push {cls:=.type "tuple_iterator",data:=.fields #[.ref l1,.int 0 0]},g,d,tk,os⟩) l2 ys:=Heap.IsTuple.push hl2 _
  wp_walk using wpAny_pyIter_tuple hL1,wpAny_pyIter_tuple hL2
  exact⟨_,rfl,h⟩
structure ZNew (h h2:Heap)(c1:String)(l1:Addr)(c2:String)(l2:Addr):Prop where
 zip:IsZip h2 (h.objs.size+4) (h.objs.size+2) (h.objs.size+3) .none
 its:IsPair h2 (h.objs.size+2) (.ref h.objs.size) (.ref (h.objs.size+1))
 own:IsPair h2 (h.objs.size+3) .none .none
 i1:h2.get? h.objs.size=some (itOb c1 l1)
 i2:h2.get? (h.objs.size+1)=some (itOb c2 l2)
 keep:∀c o,h.get? c=some o→h2.get? c=some o
theorem znew (h:Heap)(c1:String)(l1:Addr)(c2:String)(l2:Addr):ZNew h (zE h c1 l1 c2 l2) c1 l1 c2 l2∧(zD h c1 l1 c2 l2).objs.size=h.objs.size+4:=by
 have z1:(zA h c1 l1).objs.size=h.objs.size+1:=Heap.size_push ..
 have z2:(zB h c1 l1 c2 l2).objs.size=h.objs.size+2:=by rw[Heap.size_push,z1]
 have z3:(zC h c1 l1 c2 l2).objs.size=h.objs.size+3:=by rw[Heap.size_push,z2]
 have z4:(zD h c1 l1 c2 l2).objs.size=h.objs.size+4:=by rw[Heap.size_push,z3]
 have g5:(zE h c1 l1 c2 l2).get? (zD h c1 l1 c2 l2).objs.size=some _:=XF _ rfl
 have g4:(zE h c1 l1 c2 l2).get? (zC h c1 l1 c2 l2).objs.size=some _:=XC _ (XF _ rfl)
 have g3:(zE h c1 l1 c2 l2).get? (zB h c1 l1 c2 l2).objs.size=some _:=XC _ (XC _ (XF _ rfl))
 have g2:(zE h c1 l1 c2 l2).get? (zA h c1 l1).objs.size=some _:=XC _ (XC _ (XC _ (XF _ rfl)))
 have g1:(zE h c1 l1 c2 l2).get? h.objs.size=some _:=XC _ (XC _ (XC _ (XC _ (XF _ rfl))))
 rw[z2,z3,z4] at g5
 rw[z1,z2] at g3
 rw[z3] at g4
 rw[z1] at g2
 exact⟨⟨g5,g3,g4,g1,g2,fun c o x=>XC _ (XC _ (XC _ (XC _ (XC _ x))))⟩,z4⟩
section
variable {prog:Program}{w:World}{A:Around}{E:Value→Shared→Prop}{s:Shared}
theorem Zoe {l1 l2:Addr}{xs ys:Array Value}{Q:Value→Shared→Prop}(hl1:s.heap.IsTuple l1 xs)(hl2:s.heap.IsList l2 ys)
  (h:∀h2,ZNew s.heap h2 "tuple_iterator" l1 "list_iterator" l2→Q (.ref (s.heap.objs.size+4)) {s with heap:=h2}):wpAny (model prog w) A (call (.type "zip") [.ref l1,.ref l2]) Q E s:=by
 refine callType_new PySem.F.called_zip (by decide) (PySem.F.typeCall_zip_2 _ _) (PySem.F.newCall_zip_2 _ _) (fun obj=>PySem.F.args_object_init_3 obj _ _) PySem.F.entry_zip_new (mz_tl l1 l2 xs ys) ⟨hl1,hl2,?_⟩
 obtain⟨N,e⟩:=znew s.heap "tuple_iterator" l1 "list_iterator" l2
 show _∧_
 rw[e]
 exact⟨⟨_,N.zip,rfl⟩,h _ N⟩
theorem Zhe {l1 l2:Addr}{xs ys:Array Value}{Q:Value→Shared→Prop}(hl1:s.heap.IsTuple l1 xs)(hl2:s.heap.IsTuple l2 ys)
  (h:∀h2,ZNew s.heap h2 "tuple_iterator" l1 "tuple_iterator" l2→Q (.ref (s.heap.objs.size+4)) {s with heap:=h2}):wpAny (model prog w) A (call (.type "zip") [.ref l1,.ref l2]) Q E s:=by
 refine callType_new PySem.F.called_zip (by decide) (PySem.F.typeCall_zip_2 _ _) (PySem.F.newCall_zip_2 _ _) (fun obj=>PySem.F.args_object_init_3 obj _ _) PySem.F.entry_zip_new (mz_tt l1 l2 xs ys) ⟨hl1,hl2,?_⟩
 obtain⟨N,e⟩:=znew s.heap "tuple_iterator" l1 "tuple_iterator" l2
 show _∧_
 rw[e]
 exact⟨⟨_,N.zip,rfl⟩,h _ N⟩
theorem Zk1 {k l1 l2:Addr}(h1:l1<k)(h2:l2<k):ZAp (k+4) (k+2) (k+3) k (k+1) [k,l1] [k+1,l2]:=by
 have e:∀{a b:Nat},a≠b→∀{l:List Nat},a∉l→a∉b::l:=fun h _ h'=>by simp[h,h']
 have n:∀a:Nat,a∉([]:List Nat):=fun a=>by simp
 have L1:(l1:Nat)<k:=h1
 have L2:(l2:Nat)<k:=h2
 have d:∀{a b:Nat},a<b∨b<a→a≠b:=fun h e=>by omega
 exact⟨by simp,by simp,e (d (.inr (Nat.lt_add_of_pos_right (by decide)))) (e (d (.inr (Nat.lt_of_lt_of_le L1 (Nat.le_add_right _ _)))) (n _)),e (d (.inr (Nat.add_lt_add_left (by decide) k))) (e (d (.inr (Nat.lt_of_lt_of_le L2 (Nat.le_add_right _ _)))) (n _)),
  e (d (.inr (Nat.lt_add_of_pos_right (by decide)))) (e (d (.inr (XG L1 (Nat.le_add_right _ _)))) (n _)),e (d (.inr (Nat.add_lt_add_left (by decide) k))) (e (d (.inr (XG L2 (Nat.le_add_right _ _)))) (n _)),
  e (d (.inl (Nat.lt_add_of_pos_right (by decide)))) (e (d (.inr L2)) (n _)),e (d (.inr (Nat.lt_add_of_pos_right (by decide)))) (e (d (.inr (XG L1 (Nat.le_add_right _ _)))) (n _)),
  d (.inl (Nat.add_lt_add_left (by decide) k)),d (.inl (Nat.add_lt_add_left (by decide) k)),d (.inl (Nat.add_lt_add_left (by decide) k)),d (.inr (Nat.lt_add_of_pos_right (by decide))),d (.inr (Nat.add_lt_add_left (by decide) k))⟩
end
def SqX (b:Bool)(K:W.Frag)(H:Hp)(a:Addr)(xs:List V):Prop:=if b then SqL K H a xs else SqT K H a xs
def ItX (b:Bool)(h:Heap)(it l:Addr)(i:Nat):Prop:=if b then h.IsListIter it l i else h.IsTupleIter it l i
def SrX (b:Bool)(h:Heap)(l:Addr)(its:Array Value):Prop:=if b then h.IsList l its else h.IsTuple l its
def cX (b:Bool):String:=if b then "list_iterator" else "tuple_iterator"
theorem Zqs {prog:Program}{w:World}{A:Around}(b:Bool)(hh:A.handled=none)(it l:Addr)(hne:l≠it)(its:Array Value):
  Draws prog w A it [it,l] its.size (fun i v=>its[i]?=some v) (fun i h=>ItX b h it l i∧SrX b h l its):=by
 cases b
 ·exact Zaq hh it l hne its
 ·exact Draws.list hh it l hne its
section
variable {X:Cx}{pins:List (Addr×Obj)}{σ:St}{H:Hp}{s:Shared}
theorem Inv.sqX {b:Bool}{a:Addr}{xs:List V}(I:Inv X pins σ H s)(h:SqX b X.K H a xs):∃its:List Value,Vals xs its∧SrX b s.heap a its.toArray:=by
 cases b
 ·obtain⟨its,r,p,_⟩:=I.tuple h;exact⟨its,r,p⟩
 ·obtain⟨its,r,p,_⟩:=I.list h;exact⟨its,r,p.isList⟩
theorem Inv.sqX_inj {b:Bool}{a:Addr}{xs ys:List V}(I:Inv X pins σ H s)(h:SqX b X.K H a xs)(h':SqX b X.K H a ys):xs=ys:=by
 cases b
 ·exact I.tuple_inj h h'
 ·exact I.list_inj h h'
end
def Itz (b:Bool)(K:W.Frag)(l1 l2:Addr):It:=
 ⟨fun i H=>∃xs ys,SqT K H l1 xs∧SqX b K H l2 ys∧xs.length=ys.length∧i<xs.length,
  fun i H x H'=>∃u v T,(∀xs,SqT K H l1 xs→xs[i]?=some u)∧(∀ys,SqX b K H l2 ys→ys[i]?=some v)∧x=.ref T∧H T=none∧H'=upd H T (.tup [u,v]),
  fun i H=>∃xs ys,SqT K H l1 xs∧SqX b K H l2 ys∧xs.length=ys.length∧i=xs.length⟩
theorem Zsn {P:Program}{w:World}{K:W.Frag}{elts:List Expr}{ek:Nat}{epos:Pos}(b:Bool){k l1 l2:Addr}(h1:l1<k)(h2:l2<k):
  Turn P w K (.Tuple elts ek epos) (Itz b K l1 l2) [k+4,k+2,k+3,k,k+1] (k+4)
   (fun i h=>IsZip h (k+4) (k+2) (k+3) .none∧IsPair h (k+2) (.ref k) (.ref (k+1))∧(∃a c,IsPair h (k+3) a c)∧h.IsTupleIter k l1 i∧ItX b h (k+1) l2 i) where
 mem:=by simp
 obj:=fun i h st c hc=>by
  obtain⟨a1,a2,⟨u,v,a3⟩,a4,a5⟩:=st
  simp only[ZM,ZN,or_false] at hc
  rcases hc with rfl | rfl | rfl | rfl | rfl
  ·exact⟨_,a1,fun v z=>by have z':Data.fields _=Data.cell v:=z;cases z'⟩
  ·exact⟨_,a2,fun v z=>by have z':Data.seq _ _=Data.cell v:=z;cases z'⟩
  ·exact⟨_,a3,fun v z=>by have z':Data.seq _ _=Data.cell v:=z;cases z'⟩
  ·obtain⟨o,e,c,d⟩:=a4;exact⟨o,e,fun v z=>by rw[d] at z;cases z⟩
  ·cases b
   ·obtain⟨o,e,c,d⟩:=a5;exact⟨o,e,fun v z=>by rw[d] at z;cases z⟩
   ·obtain⟨o,e,c,d⟩:=a5;exact⟨o,e,fun v z=>by rw[d] at z;cases z⟩
 keep:=fun i h h' st kp=>by
  obtain⟨a1,a2,⟨u,v,a3⟩,a4,a5⟩:=st
  refine⟨kp _ (by simp) _ a1,kp _ (by simp) _ a2,⟨u,v,kp _ (by simp) _ a3⟩,a4.at fun o e=>kp _ (by simp) o e,?_⟩
  cases b
  ·exact Heap.IsTupleIter.at a5 fun o e=>kp _ (by simp) o e
  ·exact Heap.IsListIter.at a5 fun o e=>kp _ (by simp) o e
 item:=by
  intro X hP hw hK hc i pins s σ H E I hf st hg
  subst hP hw hK
  obtain⟨xs,ys,hq1,hq2,hlen,hi⟩:=hg
  obtain⟨its1,rv1,p1,_⟩:=I.tuple hq1
  obtain⟨its2,rv2,p2⟩:=I.sqX hq2
  obtain⟨a1,a2,a3,a4,a5⟩:=st
  have hn1:its1.toArray.size=xs.length:=by rw[XJ,rv1.length]
  have hn2:its2.toArray.size=xs.length:=by rw[XJ,←rv2.length,hlen]
  have D1:=Zaq (prog:=X.prog) (w:=X.w) (A:=X.A.in1) (I.ok.hd hc) k l1 (XH h1) its1.toArray
  have D2:=Zqs (prog:=X.prog) (w:=X.w) (A:=X.A.in1) b (I.ok.hd hc) (k+1) l2 (XH (Nat.lt_succ_of_lt h2)) its2.toArray
  rw[hn1] at D1
  rw[hn2] at D2
  have W:=Zmp D1 D2 (Zk1 h1 h2)
  refine W.item i s _ _ hi ⟨a1,a2,a3,⟨a4,p1⟩,⟨a5,p2⟩⟩ fun T vals h' tk hv hT htup hm kk=>?_
  obtain⟨x,y,hx,hy,rfl⟩:=hv
  refine⟨_,rfl,W.go elts ek epos i T {s with heap:=h',toks:=tk} _ _ hm fun h2 st2 kk2=>?_⟩
  have hu:xs[i]?=some xs[i]:=by simp[hi]
  have hv:ys[i]?=some (ys[i]'(by omega)):=by simp[show i<ys.length by omega]
  obtain⟨u1,e1,r1⟩:=rv1.get hu
  obtain⟨u2,e2,r2⟩:=rv2.get hv
  have ex:x=u1:=by
   have:its1[i]?=some x:=by simpa using hx
   rw[e1] at this;exact(YH this).symm
  have ey:y=u2:=by
   have:its2[i]?=some y:=by simpa using hy
   rw[e2] at this;exact(YH this).symm
  subst ex ey
  have hTn:H T=none:=I.hok.fresh hT
  have hTw:T∉[k+4,k+3,k,k+1]:=W.apart i T h' hm
  have sub:∀c,c∈[k+4,k+3,k,k+1]→c∈[k+4,k+2,k+3,k,k+1]:=fun c hc=>by
   simp only[ZM,ZN,or_false] at hc ⊢
   rcases hc with z | z | z | z<;>simp[z]
  have k2:∀c o,c∉[k+4,k+3,k,k+1]→s.heap.get? c=some o→h2.get? c=some o:=fun c o hb q=>kk2 c o hb (kk c o hb q)
  have htup2:IsTup h2 T #[x,y]:=by
   obtain⟨o,ho,r⟩:=htup
   exact⟨o,kk2 T o hTw ho,r⟩
  have hfp:∀c∈[k+4,k+3,k,k+1],H c=none:=fun c hb=>(hf c (sub c hb)).1
  have hne:∀c,c<s.heap.objs.size→c≠T:=fun c hb=>XH (XG hb hT)
  have tracked:∀c u,H c=some u→c≠T∧c∉[k+4,k+3,k,k+1]:=fun c u q=>⟨hne c (I.hok.lt q),fun z=>by rw[hfp c z] at q;cases q⟩
  have I1:Inv X pins σ (upd H T (.tup [xs[i],ys[i]'(by omega)])) {s with heap:=h2,gens:=s.gens,drawn:=s.drawn,toks:=tk}:=by
   refine I.step (ch:=[k+4,k+3,k,k+1]) (fun c hb=>?_) (fun c o _ _ hc q _=>k2 c o hc q) (fun c o _ _ hc q _=>⟨o.slots,k2 c o hc q⟩) (fun c o hc q n=>by rw[Z4 (hne c (XD q))];exact n) (fun c o hc q=>⟨o,k2 c o hc q⟩)
    (fun c xs q=>by rw[Z4 (tracked c _ q).1];exact q) (fun c o u q=>by rw[Z4 (tracked c _ q).1];exact q) (fun c ps q=>⟨#[],by rw[Z4 (tracked c _ q).1,q];simp⟩) (fun m hm=>?_) (fun c u q=>?_) I.bare
   ·obtain⟨f0,f1,f2,f3,f4,f5⟩:=hf c (sub c hb)
    exact⟨f3,f1,f4,f5⟩
   ·obtain⟨o,es,ep,ho,r⟩:=hm
    exact⟨o,es,ep,k2 _ o (fun z=>(hf _ (sub _ z)).2.1 rfl) ho,r⟩
   ·by_cases hb:c=T
    ·subst hb
     rw[Yh] at q;cases q
     exact⟨XN (by decide:2≤1000) (Nat.le_of_lt (small1000 (XE _))),[x,y],.cons r1 (.cons r2 .nil),htup2⟩
    ·rw[Z4 hb] at q
     refine(I.hok c u q).stay (fun d v hd r=>k2 d v ?_ r) (fun d r=>by rw[Z4 (tracked d _ r).1];exact r) fun d xs r=>by rw[Z4 (tracked d _ r).1];exact r
     rcases hd with rfl | hd
     ·exact(tracked d _ q).2
     ·exact(tracked d _ hd).2
  obtain⟨b1,b2,b3,⟨b4,_⟩,⟨b5,_⟩⟩:=st2
  refine⟨.ref T,_,I1,rfl,⟨_,_,T,fun zs hz=>by rw[I.tuple_inj hz hq1];exact hu,fun zs hz=>by rw[I.sqX_inj hz hq2];exact hv,rfl,hTn,rfl⟩,⟨b1,b2,b3,b4,b5⟩,fun c hb=>?_⟩
  have hbT:c≠T:=by
   obtain⟨o,ho⟩:∃o,s.heap.get? c=some o:=by
    obtain⟨u,v,a3⟩:=a3
    simp only[ZM,ZN,or_false] at hb
    rcases hb with rfl | rfl | rfl | rfl | rfl
    ·exact⟨_,a1⟩
    ·exact⟨_,a2⟩
    ·exact⟨_,a3⟩
    ·obtain⟨o,e,_⟩:=a4;exact⟨o,e⟩
    ·cases b
     ·obtain⟨o,e,_⟩:=a5;exact⟨o,e⟩
     ·obtain⟨o,e,_⟩:=a5;exact⟨o,e⟩
   exact hne c (XD ho)
  rw[Z4 hbT];exact(hf c hb).1
 done:=by
  intro X hP hw hK hc i pins s σ H E I hf st hg
  subst hP hw hK
  obtain⟨xs,ys,hq1,hq2,hlen,hi⟩:=hg
  obtain⟨its1,rv1,p1,_⟩:=I.tuple hq1
  obtain⟨its2,rv2,p2⟩:=I.sqX hq2
  obtain⟨a1,a2,a3,a4,a5⟩:=st
  have hn1:its1.toArray.size=xs.length:=by rw[XJ,rv1.length]
  have hn2:its2.toArray.size=xs.length:=by rw[XJ,←rv2.length,hlen]
  have D1:=Zaq (prog:=X.prog) (w:=X.w) (A:=X.A.in1) (I.ok.hd hc) k l1 (XH h1) its1.toArray
  have D2:=Zqs (prog:=X.prog) (w:=X.w) (A:=X.A.in1) b (I.ok.hd hc) (k+1) l2 (XH (Nat.lt_succ_of_lt h2)) its2.toArray
  rw[hn1] at D1
  rw[hn2] at D2
  subst hi
  have W:=Zmp D1 D2 (Zk1 h1 h2)
  have sub:∀c,c∈[k+4,k+3,k,k+1]→c∈[k+4,k+2,k+3,k,k+1]:=fun c hc=>by
   simp only[ZM,ZN,or_false] at hc ⊢
   rcases hc with z | z | z | z<;>simp[z]
  refine W.done s _ _ ⟨a1,a2,a3,⟨a4,p1⟩,⟨a5,p2⟩⟩ fun h' tk kk=>⟨rfl,?_⟩
  exact I.step (g':=s.gens) (d':=s.drawn) (ch:=[k+4,k+3,k,k+1]) (fun c hb=>let ⟨f0,f1,f2,f3,f4,f5⟩:=hf c (sub c hb);⟨f3,f1,f4,f5⟩) (fun c o _ _ hc q _=>kk c o hc q) (fun c o _ _ hc q _=>⟨o.slots,kk c o hc q⟩) (fun c o _ _ n=>n) (fun c o hc q=>⟨o,kk c o hc q⟩)
    (fun _ _ q=>q) (fun _ _ _ q=>q) (fun c ps q=>⟨#[],by rw[q];simp⟩) (fun m hm=>let ⟨o,es,ep,ho,r⟩:=hm;⟨o,es,ep,kk _ o (fun z=>(hf _ (sub _ z)).2.1 rfl) ho,r⟩)
    (fun c u q=>(I.hok c u q).stay (fun d v hd r=>kk d v (fun z=>by
     rcases hd with rfl | hd
     ·rw[(hf _ (sub _ z)).1] at q;cases q
     ·rw[(hf _ (sub _ z)).1] at hd;cases hd) r) (fun _ r=>r) fun _ _ r=>r) I.bare
 self:=fun A i s Q E st h=>wpAny_pyIter_zip st.1 h
section
variable {X:Cx}{elts:List Expr}{ek:Nat}{epos:Pos}
def iZip (K:W.Frag)(ta:TA):TI:=fun σ H R=>ta σ H fun vs H1=>∃(b:Bool) (l1 l2:Addr) (xs ys:List V),vs=[.ref l1,.ref l2]∧SqT K H1 l1 xs∧SqX b K H1 l2 ys∧R (Itz b K l1 l2) H1
theorem Z0e {a c:Expr}{ta:TA}{p pos:Pos}(hg:Gl X "zip")(hm:X.mg "zip"=none)(ha:PA X [a,c] ta)(hs:starEach [a,c] X.env=(false,eval a X.env)::starEach [c] X.env:=by rfl)(hp:(backTo pos (starEach [c] X.env)).any (·.1)=false:=by rfl)(hb:bootBuiltins "zip"=some (.type "zip"):=by decide+kernel):
  PI X (.Tuple elts ek epos) (.Call (.Name "zip" p) [a,c] [] pos) (iZip X.K ta):=by
 intro pins s σ H R I h
 refine Call_ (Zb6 I hg hm hb (PyProof.Rows.callWith_type1 (thn (ha pos pins s σ H _ I h) fun us s1 ⟨vs,H1,I1,r1,q1⟩=>?_) hs hp))
 obtain⟨b,l1,l2,xs,ys,rfl,hq1,hq2,q⟩:=q1
 obtain⟨u,v,rfl,ru,rv⟩:=r1.two
 cases ru
 cases rv
 obtain⟨its1,rv1,p1,_⟩:=I1.tuple hq1
 obtain⟨its2,rv2,p2⟩:=I1.sqX hq2
 have lt1:l1<s1.heap.objs.size:=by obtain⟨_,e,_⟩:=p1;exact XD e
 have lt2:l2<s1.heap.objs.size:=by
  cases b
  ·obtain⟨_,e,_⟩:=p2;exact XD e
  ·obtain⟨_,e,_⟩:=p2;exact XD e
 have fin:∀h2,ZNew s1.heap h2 "tuple_iterator" l1 (cX b) l2→wpAny (model X.prog X.w) X.A (pyIter (.ref (s1.heap.objs.size+4))) (PIE X pins σ (.Tuple elts ek epos) R) X.xe {s1 with heap:=h2}:=fun h2 N=>by
  refine wpAny_pyIter_zip (s:={s1 with heap:=h2}) N.zip ?_
  refine⟨_,_,_,_,H1,rfl,I1.kept (t':=s1.toks) N.keep,Zsn b lt1 lt2,⟨N.zip,N.its,⟨_,_,N.own⟩,⟨_,N.i1,rfl,rfl⟩,?_⟩,fun c hc=>?_,q⟩
  ·cases b
   ·exact⟨_,N.i2,rfl,rfl⟩
   ·exact⟨_,N.i2,rfl,rfl⟩
  ·have e:s1.heap.objs.size≤c:=by
    simp only[ZM,ZN,or_false] at hc
    rcases hc with rfl | rfl | rfl | rfl | rfl
    ·exact Nat.le_add_right _ _
    ·exact Nat.le_add_right _ _
    ·exact Nat.le_add_right _ _
    ·exact XE _
    ·exact Nat.le_add_right _ _
   exact I1.fpOk e (I1.hok.fresh e)
 cases b
 ·exact Zhe p1 p2 fin
 ·exact Zoe p1 p2 fin
end
section
variable {X:Cx}
theorem Zow (bs:List Bool):((List.range bs.length).any fun i=>(bs[i]?).getD false)=bs.any id:=by
 rw[Bool.eq_iff_iff,List.any_eq_true,List.any_eq_true]
 constructor
 ·rintro⟨i,hi,h⟩
  have hi':=List.mem_range.mp hi
  exact⟨bs[i],List.getElem_mem hi',by simpa[hi'] using h⟩
 ·rintro⟨x,hx,h⟩
  obtain⟨i,hi,rfl⟩:=List.mem_iff_getElem.mp hx
  exact⟨i,List.mem_range.mpr hi,by simpa[hi] using h⟩
theorem Zsd (hc:X.calm=true):Zbn X (.builtin "any") (fun xs H Q=>∃(p:Addr) (bs:List Bool),xs=[.ref p]∧SqL X.K H p (bs.map V.bl)∧Q (.bl (bs.any id)) H):=by
 intro pins s σ H xs us Q I r h
 obtain⟨p,bs,rfl,hq,q⟩:=h
 obtain⟨u,rfl,ru⟩:=vals1 r
 cases ru
 obtain⟨its,rv,pl,hz⟩:=I.list hq
 have hl:=pl.isList
 have hlt:p<s.heap.objs.size:=by obtain⟨_,e,_⟩:=hl;exact XD e
 have hlen:its.length=bs.length:=by have:=rv.length;simp at this;omega
 refine call_any_walk (wpAny_pyIter_list hl ?_)
 refine⟨s.heap.objs.size,[s.heap.objs.size,p],[s.heap.objs.size],its.toArray.size,_,_,fun i=>(bs[i]?).getD false,rfl,Walks.list (A:=X.A.in1) (I.ok.hd hc) _ p (XH hlt) its.toArray,
  ⟨⟨_,XF _ rfl,rfl,rfl⟩,hl.push _⟩,fun i v s' Q' E' hP hQ=>?_,fun h' tk hk=>?_⟩
 ·have hv:its[i]?=some v:=by simpa using hP
  have hi:i<its.length:=(List.getElem?_eq_some_iff.mp hv).1
  have hb:(bs.map V.bl)[i]?=some (.bl bs[i]):=by simp[show i<bs.length by omega]
  obtain⟨u,hu,ru⟩:=rv.get hb
  rw[hv] at hu;cases hu
  cases ru
  have e:(bs[i]?).getD false=bs[i]:=by simp[show i<bs.length by omega]
  have hQ2:Q' ((bs[i]?).getD false) s':=hQ
  rw[e] at hQ2
  exact wpAny_truthy_bool hQ2
 ·have e:((List.range its.toArray.size).any fun i=>(bs[i]?).getD false)=bs.any id:=by
   rw[XJ,hlen];exact Zow bs
  rw[e]
  refine⟨.bl (bs.any id),H,I.kept fun b o x=>hk b o (fun hm=>?_) (XC _ x),rfl,q⟩
  have:=XQ.mp hm
  subst this
  exact Nat.lt_irrefl _ (XD x)
end
section
variable {prog:Program}{w:World}{K:Type}[DecidableEq K]{knd:KeyKind prog w K}
theorem Zfs:∀{es:List DictEntry} {kvs:List (K×Value)} {i:Nat} {e:DictEntry},Pairs knd es kvs→es[i]?=some e→∃kv,kvs[i]?=some kv∧knd.is kv.1 e.key=true∧e.val=kv.2
 | _,_,_,_,.nil,h=>by simp at h
 | _,_,0,_,.cons a b _,h=>by simp at h;subst h;exact⟨_,rfl,a,b⟩
 | _,_,i+1,e,.cons _ _ t,h=>by
  obtain⟨kv,h1,h2⟩:=Zfs (i:=i) (e:=e) t (by simpa using h)
  exact⟨kv,by simpa using h1,h2⟩
theorem Zx5 {es:Array DictEntry}{kvs:List (K×Value)}(hp:Pairs knd es.toList kvs)(hn:(kvs.map (·.1)).Nodup){i:Nat}{kv:K×Value}(hi:kvs[i]?=some kv)(hl:i<es.size):(es.findIdx? fun e=>knd.is kv.1 e.key)=some i:=by
 rw[Array.findIdx?_eq_some_iff_getElem]
 have at_:∀j (hj:j<es.size),∃kv',kvs[j]?=some kv'∧knd.is kv'.1 es[j].key=true:=fun j hj=>by
  obtain⟨kv',h1,h2,_⟩:=Zfs (i:=j) (e:=es[j]) hp (by simp[hj])
  exact⟨kv',h1,h2⟩
 refine⟨hl,?_,fun j hj=>?_⟩
 ·obtain⟨kv',h1,h2⟩:=at_ i hl
  rw[hi] at h1;cases h1;exact h2
 ·obtain⟨kv',h1,h2⟩:=at_ j (by omega)
  rw[KeyKind.is_eq_decide h2]
  intro z
  have hk:kv.1=kv'.1:=by simpa using z
  have e1:(kvs.map (·.1))[i]?=some kv.1:=by rw[XM,hi];rfl
  have e2:(kvs.map (·.1))[j]?=some kv.1:=by rw[XM,h1,hk];rfl
  have:=(List.getElem?_inj (by rw[XI];exact(List.getElem?_eq_some_iff.mp hi).1) hn).mp (e1.trans e2.symm)
  omega
end
end L2
namespace WL
open PySem PySem.Spec PyProof.Rows L2
section
variable {X:Cx}{e o a b f:Expr}{we wo wa wb wi wd:WE}{wA:WA}{p p2 pos pos2 apos cpos:Pos}
theorem Z19:bootBuiltins "any"=some (.builtin "any"):=by decide+kernel
theorem Zyl:bootBuiltins "dict"=some (.type "dict"):=by decide+kernel
def bAny:List T→Hw→WK→Prop:=fun vs C Q=>∃(a:Addr) (bs:List Bool),vs=[.ref a]∧C a=some (.lst (bs.map T.bl))∧Q (.bl (bs.any id)) C
theorem b_any (hc:X.calm=true):Zgf X (.builtin "any") bAny:=⟨_,Zsd hc,fun F H C xs vs Q Q' R rs h q=>by
 obtain⟨a,bs,rfl,hx,h⟩:=h
 obtain⟨x,rfl,rx⟩:=Zaw rs
 cases Z1 rx
 obtain⟨ys,hy,r⟩:=R.lst hx
 cases Zna r
 exact⟨a,bs,rfl,SqL.of hy,q _ _ H C R (Tx.refl H) Jn h⟩⟩
def Zn4 (kvs:List (Key×T))(k:Key):List (Key×T):=kvs.filter fun kv=>decide (kv.1≠k)
theorem PR.drop {K:W.Frag}{H:Hp}{k:Key}:∀{ks:List (Key×V)} {kvs:List (Key×T)},PR K H ks kvs→PR K H (Zf9 ks k) (Zn4 kvs k)
 | _,_,.nil=>.nil
 | p::r,q::s,.cons h t=>by
  have ih:=PR.drop (k:=k) t
  unfold Zf9 Zn4 at ih ⊢
  by_cases c:q.1=k
  ·have c':p.1=k:=h.1.trans c
   rw[List.filter_cons_of_neg (by simp[c']),List.filter_cons_of_neg (by simp[c])]
   exact ih
  ·have c':¬p.1=k:=fun z=>c (h.1.symm.trans z)
   rw[List.filter_cons_of_pos (by simp[c']),List.filter_cons_of_pos (by simp[c])]
   exact .cons h ih
def Zpr (o i d:WE):WE:=fun τ C Q χ=>o τ C (fun x C1=>(∃a kvs,x=.ref a∧C1 a=some (.dic kvs))∧i τ C1 (fun y C2=>d τ C2 (fun z C3=>∃a kvs k,x=.ref a∧kT y=some k∧C3 a=some (.dic kvs)∧
 (∀v,Xw kvs k=some v→Q v (up C3 a (.dic (Zn4 kvs k))))∧(Xw kvs k=none→Q z C3)) χ) χ) χ
theorem Zyf (ho:SdE X o wo)(he:SdE X e wi)(hf:SdE X f wd)(m:M2 X o "pop" apos e f cpos):SdE X (.Call (.Attribute o "pop" apos) [e,f] [] cpos) (Zpr wo wi wd):=by
 obtain⟨ta,p1,s1⟩:=ho
 obtain⟨tb,p2,s2⟩:=he
 obtain⟨tc,p3,s3⟩:=hf
 refine⟨_,Ztw p1 p2 p3 m,fun F H C σ τ Q Q' χ R S h q=>?_⟩
 refine s1 F H C σ τ _ _ χ R S h fun x v H1 C1 R1 t1 rx h1=>?_
 obtain⟨⟨l,kvs0,rfl,hC0⟩,h1⟩:=h1
 cases Z1 rx
 obtain⟨ks0,hH0,_⟩:=R1.dic hC0
 refine⟨l,rfl,.inl ⟨ks0,.inl hH0⟩,?_⟩
 refine s2 F H1 C1 σ τ _ _ χ R1 (S.tx t1) h1 fun y u H2 C2 R2 t2 ry h2=>?_
 refine s3 F H2 C2 σ τ _ _ χ R2 (S.tx (t1.trans t2)) h2 fun z w H3 C3 R3 t3 rz h3=>?_
 obtain⟨l',kvs,k,e',hk,hC,h4,h5⟩:=h3
 cases e'
 obtain⟨ks,hH,pr⟩:=R3.dic hC
 have t:=(t1.trans t2).trans t3
 refine⟨ks,k,hH,Zd6 hk (ry.tx t3),fun v hv=>?_,fun hv=>?_⟩
 ·cases hg:Xw kvs k with
  | none=>rw[(PR.get pr k).1 hg] at hv;cases hv
  | some w=>
   obtain⟨z',hz,rz'⟩:=(PR.get pr k).2 w hg
   rw[hz] at hv;cases hv
   obtain⟨R',t'⟩:=R3.putD hC (PR.drop (k:=k) pr)
   exact q _ _ _ _ R' (t.trans t') (rz'.tx t') (h4 w hg)
 ·have hn:Xw kvs k=none:=by
   cases hg:Xw kvs k with
   | none=>rfl
   | some w=>obtain⟨z',hz,_⟩:=(PR.get pr k).2 w hg;rw[hz] at hv;cases hv
  exact q _ _ H3 C3 R3 t rz (h5 hn)
theorem Zto {K:W.Frag}{H:Hp}:∀{ks:List (Key×V)} {kvs:List (Key×T)} {i:Nat} {p:Key×V},PR K H ks kvs→ks[i]?=some p→∃q,kvs[i]?=some q∧p.1=q.1∧Rep K H p.2 q.2
 | _,_,_,_,.nil,h=>by simp at h
 | _,_,0,_,.cons a _,h=>by simp at h;subst h;exact⟨_,rfl,a.1,a.2⟩
 | _,_,i+1,p,.cons _ t,h=>by
  obtain⟨q,h1,h2⟩:=Zto (i:=i) (p:=p) t (by simpa using h)
  exact⟨q,by simpa using h1,h2⟩
theorem Zun:∀{ks:List (Key×V)} {vs:List (Key×Value)} {i:Nat} {p:Key×Value},KV ks vs→vs[i]?=some p→∃q,ks[i]?=some q∧q.1=p.1∧Z3 q.2 p.2
 | _,_,_,_,.nil,h=>by simp at h
 | _,_,0,_,.cons a _,h=>by simp at h;subst h;exact⟨_,rfl,a.1,a.2⟩
 | _,_,i+1,p,.cons _ t,h=>by
  obtain⟨q,h1,h2⟩:=Zun (i:=i) (p:=p) t (by simpa using h)
  exact⟨q,by simpa using h1,h2⟩
def zipT (xs ys:List T):List T:=List.zipWith (fun x y=>T.tup [x,y]) xs ys
def iZp (a:WA):WI:=fun τ C R χ=>a τ C (fun vs C1=>(∃xs ys,vs=[.tup xs,.tup ys]∧xs.length=ys.length∧R (zipT xs ys) (fun _=>True) C1)∨
 ∃xs ys l,vs=[.tup xs,.ref l]∧C1 l=some (.lst ys)∧xs.length=ys.length∧R (zipT xs ys) (fun C2=>C2 l=some (.lst ys)) C1) χ
theorem Zwa {xs ys:List T}{i:Nat}{x y:T}(hx:xs[i]?=some x)(hy:ys[i]?=some y):(zipT xs ys)[i]?=some (.tup [x,y]):=by
 unfold zipT;rw[List.getElem?_zipWith,hx,hy]
theorem Zus {K:W.Frag}{F H0:Hp}(b:Bool){l1 l2:Addr}{ys1:List V}{xs ys:List T}{ok:Hw→Prop}(h1:SqT K H0 l1 ys1)(r1:Reps K H0 ys1 xs)(hl:xs.length=ys.length)
  (h2:∀H C,Rl K F H C→Tx H0 H→ok C→∃ys2,SqX b K H l2 ys2∧Reps K H ys2 ys):Zge K F H0 (Itz b K l1 l2) (zipT xs ys) ok:=fun i H C R t hok=>by
 have q1:=t.sqt h1
 have r1':=r1.tx t
 obtain⟨ys2,q2,r2⟩:=h2 H C R t hok
 have hlz:(zipT xs ys).length=xs.length:=by unfold zipT;simp;omega
 have e1:=r1'.length
 have e2:=r2.length
 refine⟨fun hi=>?_,fun hi=>⟨ys1,ys2,q1,q2,by omega,by omega⟩⟩
 rw[hlz] at hi
 refine⟨⟨ys1,ys2,q1,q2,by omega,by omega⟩,fun x H' h=>?_⟩
 obtain⟨u,v,Tt,hu,hv,rfl,hT,rfl⟩:=h
 obtain⟨x,hx,rx⟩:=r1'.get' (hu ys1 q1)
 obtain⟨y,hy,ry⟩:=r2.get' (hv ys2 q2)
 exact⟨_,Zwa hx hy,R.hid hT,Tx.new hT,Zab (SqT.of Yh) (Yp (rx.tx (Tx.new hT)) (Yp (ry.tx (Tx.new hT)) Jx))⟩
theorem Z10 {elts:List Expr}{ek:Nat}{epos:Pos}(hg:Gl X "zip")(hm:X.mg "zip"=none)(ha:SdA X [a,b] wA)(hs:starEach [a,b] X.env=(false,eval a X.env)::starEach [b] X.env:=by rfl)(hp:(backTo pos (starEach [b] X.env)).any (·.1)=false:=by rfl):
  SdI X (.Tuple elts ek epos) (.Call (.Name "zip" p) [a,b] [] pos) (iZp wA):=by
 obtain⟨t,p1,s⟩:=ha
 refine⟨_,Z0e hg hm p1 hs hp,fun F H C σ τ R R' χ Rr S h q=>?_⟩
 refine s F H C σ τ _ _ χ Rr S h fun xs vs H1 C1 R1 t1 rs h1=>?_
 rcases h1 with⟨ts,us,rfl,hl,h1⟩ | ⟨ts,us,l,rfl,hC,hl,h1⟩
 ·obtain⟨x,y,rfl,rx,ry⟩:=Zo7 rs
  obtain⟨l1,y1,rfl,q1,r1⟩:=Yf rx
  obtain⟨l2,y2,rfl,q2,r2⟩:=Yf ry
  exact⟨false,l1,l2,y1,y2,rfl,q1,q2,q _ H1 _ _ C1 R1 t1 (fun F'=>Zus false q1 r1 hl fun H C _ t _=>⟨y2,t.sqt q2,r2.tx t⟩) h1⟩
 ·obtain⟨x,y,rfl,rx,ry⟩:=Zo7 rs
  obtain⟨l1,y1,rfl,q1,r1⟩:=Yf rx
  cases Z1 ry
  obtain⟨y2,hy,r2⟩:=R1.lst hC
  refine⟨true,l1,l,y1,y2,rfl,q1,SqL.of hy,q _ H1 _ _ C1 R1 t1 (fun F'=>Zus true q1 r1 hl fun H C R' t hok=>?_) h1⟩
  obtain⟨y3,hy3,r3⟩:=R'.lst hok
  exact⟨y3,SqL.of hy3,r3⟩
end
end WL
namespace L2
open PySem PySem.Spec PyProof.Rows
section
variable {X:Cx}{pins:List (Addr×Obj)}{σ:St}{H:Hp}{s:Shared}
end
def Itd (o:Obj)(d:Addr)(ks:List (Key×V)):It:=
 ⟨fun i H=>H d=some (.frz o (.dK ks))∧i<ks.length,fun i H x H'=>H'=H∧∃kv,ks[i]?=some kv∧x=kV kv.1,fun i H=>H d=some (.frz o (.dK ks))∧i=ks.length⟩
section
variable {X:Cx}{tg e:Expr}
def iDic (td:TE):TI:=fun σ H R=>td σ H fun x H1=>∃d ks,x=.ref d∧Rd H1 d (.dK ks)∧∀o,(∀o',H1 d=some (.frz o' (.dK ks))→o'=o)→R (Itd o d ks) (upd H1 d (.frz o (.dK ks)))
end
end L2
namespace WL
open PySem PySem.Spec PyProof.Rows L2
def RdC (C:Hw)(a:Addr)(kvs:List (Key×T)):Prop:=C a=some (.dic kvs)∨C a=some (.fdic kvs)
theorem Rl.rd {K:W.Frag}{F H:Hp}{C:Hw}(R:Rl K F H C){a:Addr}{kvs:List (Key×T)}(h:RdC C a kvs):∃ks,Rd H a (.dK ks)∧PR K H ks kvs:=by
 rcases h with h | h
 ·obtain⟨ks,hH,pr⟩:=R.dic h;exact⟨ks,.inl hH,pr⟩
 ·exact R.obj a _ h
section
variable {X:Cx}{e o a b c f i:Expr}{we wo wa wb wi wd:WE}{wA:WA}{p p2 pos pos2 apos cpos:Pos}{tg:Expr}
def Zsh:W2:=fun x y C Q=>∃a kvs k v,x=.ref a∧kT y=some k∧RdC C a kvs∧Xw kvs k=some v∧Q v C
def Zyq (neg:Bool):W2:=fun y x C Q=>∃a kvs k,x=.ref a∧kT y=some k∧RdC C a kvs∧Q (.bl (if neg then !(Xw kvs k).isSome else(Xw kvs k).isSome)) C
abbrev wRin:W2:=Zyq false
theorem Zvq (hu:X.A.units+150<cLine)(ha:SdE X a wa)(hb:SdE X b wb)(hs:NoSl b):SdE X (.Subscript a b pos) (Zf Zsh wa wb):=by
 obtain⟨ta,p1,s1⟩:=ha
 obtain⟨tb,p2,s2⟩:=hb
 refine⟨_,Zxe (by omega) p1 p2 hs,fun F H C σ τ Q Q' χ R S h q=>?_⟩
 refine s1 F H C σ τ _ _ χ R S h fun x v H1 C1 R1 t1 rx h1=>?_
 refine s2 F H1 C1 σ τ _ _ χ R1 (S.tx t1) h1 fun y u H2 C2 R2 t2 ry h2=>?_
 obtain⟨l,kvs,k,w,rfl,hk,hC,hg,h2⟩:=h2
 cases Z1 rx
 obtain⟨ks,hH,pr⟩:=R2.rd hC
 obtain⟨z,hz,rz⟩:=(PR.get pr k).2 w hg
 cases Zd6 hk ry
 exact⟨l,z,rfl,.inl ⟨ks,k,hH,rfl,hz.symm⟩,q _ _ H2 C2 R2 (t1.trans t2) rz h2⟩
theorem Z01 (neg:Bool)(hu:X.A.units+150<cLine):OpS X (compareOp (if neg then .NotIn else .In)) (Zyq neg):=⟨_,Zil,fun F H C y x u v Q Q' R ry rx h q pins s σ u' v' I r1 r2=>by
 obtain⟨l,kvs,k,rfl,hk,hC,h⟩:=h
 cases Z1 rx
 cases r2
 obtain⟨ks,hH,pr⟩:=R.rd hC
 cases Zd6 hk ry
 have e:(valV ks k).isSome=(Xw kvs k).isSome:=by
  cases hg:Xw kvs k with
  | none=>rw[(PR.get pr k).1 hg];rfl
  | some w=>obtain⟨z,hz,_⟩:=(PR.get pr k).2 w hg;rw[hz];rfl
 have fin:=q _ _ H C R (Tx.refl H) Jn h
 rw[←e] at fin
 have g:DGet H l (kV k) (valV ks k):=.inl ⟨ks,k,hH,rfl,rfl⟩
 cases neg with
 | true=>exact Zye (by omega) I g r1 fun s' I'=>⟨.bl _,H,I',rfl,fin⟩
 | false=>exact d_in (by omega) I g r1 fun s' I'=>⟨.bl _,H,I',rfl,fin⟩⟩
theorem o_rin (hu:X.A.units+150<cLine):OpS X (compareOp .In) wRin:=Z01 false hu
theorem Zpu:Zbn X (.type "dict") (fun xs H Q=>∃(p:Addr) (kvs:List (Key×V)),xs=[.ref p]∧Rd H p (.dK kvs)∧∀r,H r=none→Q (.ref r) (upd H r (.dK kvs))):=by
 intro pins s σ H xs us Q I r h
 obtain⟨p,kvs,rfl,hp,q⟩:=h
 obtain⟨u,rfl,ru⟩:=vals1 r
 cases ru
 exact Zvt I hp fun r s2 hr I2=>⟨.ref r,_,I2,rfl,q r hr⟩
def Zvz:List T→Hw→WK→Prop:=fun vs C Q=>∃(a:Addr) (kvs:List (Key×T)),vs=[.ref a]∧RdC C a kvs∧∀p,C p=none→Q (.ref p) (up C p (.dic kvs))
theorem Zyn:Zgf X (.type "dict") Zvz:=⟨_,Zpu,fun F H C xs vs Q Q' R rs h q=>by
 obtain⟨a,kvs,rfl,hC,h⟩:=h
 obtain⟨x,rfl,rx⟩:=Zaw rs
 cases Z1 rx
 obtain⟨ks,hH,pr⟩:=R.rd hC
 exact⟨a,ks,rfl,hH,fun r hr=>q _ _ _ _ (R.newD hr pr) (Tx.new hr) J0 (h r (R.free hr))⟩⟩
def Zyr (neg:Bool):W2:=fun x y C Q=>∃a b ka kb,x=.ref a∧y=.ref b∧RdC C a ka∧RdC C b kb∧
 ((ka.length≠kb.length∧Q (.bl neg) C)∨(ka=kb∧(∀kv∈ka,Ji kv.2)∧Q (.bl (!neg)) C))
abbrev wReq:W2:=Zyr false
theorem Z02 (neg:Bool)(hu:X.A.units+150<cLine):OpS X (compareOp (if neg then .NotEq else .Eq)) (Zyr neg):=⟨_,Zil,fun F H C x y u v Q Q' R rx ry h q pins s σ u' v' I r1 r2=>by
 obtain⟨a,b,ka,kb,rfl,rfl,ha,hb,h⟩:=h
 cases Z1 rx
 cases Z1 ry
 cases r1
 cases r2
 obtain⟨ks,hH,pr⟩:=R.rd ha
 obtain⟨ls,hL,pl⟩:=R.rd hb
 obtain⟨z1,sa,va,rela,oa,ea,pa,hoa,xa,da,kka,pra,na⟩:=Ze0 I.hok hH
 obtain⟨z2,sb,vb,relb,ob,eb,pb,hob,xb,db,kkb,prb,nb⟩:=Ze0 I.hok hL
 have hsa:ea.size=ka.length:=by rw[←PR.length pr,rela.length,←Pairs.length pra];simp
 have hsb:eb.size=kb.length:=by rw[←PR.length pl,relb.length,←Pairs.length prb];simp
 have Ta:s.TypeIs (.ref a) "dict":=⟨_,hoa,xa.1⟩
 have Tb:s.TypeIs (.ref b) "dict":=⟨_,hob,xb.1⟩
 have fin:∀k:Bool,(∀(E:Value→Shared→Prop) (id:String) (Q:Bool→Shared→Prop),Q k s→wpAny (model X.prog X.w) X.A.in1 (Builtin.Dict.samePairs id a b) Q E s)→Q (.bl (if neg then !k else k)) H→
   wpAny (model X.prog X.w) X.A (compareOp (if neg then .NotEq else .Eq) (.ref a) (.ref b)) (EP X pins σ Q) X.xe s:=fun k hs hq=>by
  cases neg with
  | true=>exact Zyb (k:=k) (by omega) Ta Tb hs ⟨.bl (!k),H,I,by cases k<;>rfl,hq⟩
  | false=>exact Zyc (k:=k) (by omega) Ta Tb hs ⟨.bl k,H,I,by cases k<;>rfl,hq⟩
 rcases h with⟨hne,h⟩ | ⟨rfl,hfl,h⟩
 ·refine fin false (fun E id Q' q'=>Zwk sa sb hoa da hob db (by simp[hsa,hsb,hne]) q') ?_
  have:=q _ _ H C R (Tx.refl H) Jn h
  cases neg<;>exact this
 ·refine fin true (fun E id Q' q'=>Zwj sa sb hoa da hob db kkb (by rw[hsa,hsb]) (fun i h1 h2=>?_) q') ?_
  ·obtain⟨kva,e1,e2,e3⟩:=Zfs (i:=i) (e:=ea[i]) pra (by simp[h1])
   obtain⟨kvb,f1,f2,f3⟩:=Zfs (i:=i) (e:=eb[i]) prb (by simp[h2])
   obtain⟨qa,g1,g2,g3⟩:=Zun rela e1
   obtain⟨qb,g4,g5,g6⟩:=Zun relb f1
   obtain⟨ta,j1,j2,j3⟩:=Zto pr g1
   obtain⟨tb,j4,j5,j6⟩:=Zto pl g4
   rw[j1] at j4
   cases j4
   have ek:kva.1=kvb.1:=by rw[←g2,←g5,j2,j5]
   obtain⟨k',hk1,hk2⟩:=kka ea[i] (Array.getElem_mem h1)
   have:=(Y9 X.prog X.w).inj _ _ _ hk1 e2
   subst this
   refine⟨kva.1,e2,hk2,by rw[ek];exact Zx5 prb nb f1 h2,?_⟩
   have hf:=hfl ta (List.mem_of_getElem? j1)
   have:=Zn0 I 100 (A:=X.A.in1) hf hf j3 j6 g3 g6 (show X.A.units+1+100<cLine by omega)
   rw[Zd3 ta.2 hf] at this
   rw[e3,f3];exact this
  ·have:=q _ _ H C R (Tx.refl H) Jn h
   cases neg<;>exact this⟩
theorem o_req (hu:X.A.units+150<cLine):OpS X (compareOp .Eq) wReq:=Z02 false hu
end
section
variable {X:Cx}{e o:Expr}{we wo wi:WE}{apos cpos:Pos}
def Zpq (o i:WE):WE:=fun τ C Q χ=>o τ C (fun x C1=>(∃a kvs,x=.ref a∧RdC C1 a kvs)∧i τ C1 (fun y C2=>∃a kvs k,x=.ref a∧kT y=some k∧RdC C2 a kvs∧Q ((Xw kvs k).getD .non) C2) χ) χ
theorem Zyd (hu:X.A.units+150<cLine)(ho:SdE X o wo)(he:SdE X e wi)(m:M1 X o "get" apos e cpos):SdE X (.Call (.Attribute o "get" apos) [e] [] cpos) (Zpq wo wi):=by
 obtain⟨ta,p1,s1⟩:=ho
 obtain⟨tb,p2,s2⟩:=he
 refine⟨_,Zty (by omega) p1 p2 m,fun F H C σ τ Q Q' χ R S h q=>?_⟩
 refine s1 F H C σ τ _ _ χ R S h fun x v H1 C1 R1 t1 rx h1=>?_
 obtain⟨⟨l,kvs0,rfl,hC0⟩,h1⟩:=h1
 cases Z1 rx
 obtain⟨ks0,hH0,_⟩:=R1.rd hC0
 refine⟨l,rfl,.inl ⟨ks0,hH0⟩,?_⟩
 refine s2 F H1 C1 σ τ _ _ χ R1 (S.tx t1) h1 fun y u H2 C2 R2 t2 ry h2=>?_
 obtain⟨l',kvs,k,e',hk,hC,h2⟩:=h2
 cases e'
 obtain⟨ks,hH,pr⟩:=R2.rd hC
 cases Zd6 hk ry
 exact⟨_,.inl ⟨ks,k,hH,rfl,rfl⟩,q _ _ H2 C2 R2 (t1.trans t2) (Zu3 pr k Zc8) h2⟩
end
def Zad (f:Str)(v:T):List (Str×T)→List (Str×T)
 | []=>[(f,v)]
 | (g,x)::r=>if g=f then(g,v)::r else(g,x)::Zad f v r
section
variable {K:W.Frag}{H:Hp}
theorem Zp8 {f:Str}{y:V}{v:T}(q:Rep K H y v):∀{ks:List (Str×V)} {fs:List (Str×T)},PR K H ks fs→PR K H (putF f y ks) (Zad f v fs)
 | [],[],_=>.cons ⟨rfl,q⟩ .nil
 | (k,x)::ks,(g,z)::fs,.cons h r=>by
  obtain⟨e,q'⟩:=h
  cases e
  show PR K H (if k=f then(k,y)::ks else(k,x)::putF f y ks) (if k=f then(k,v)::fs else(k,z)::Zad f v fs)
  by_cases c:k=f
  ·rw[XY c,XY c];exact .cons ⟨rfl,q⟩ r
  ·rw[XX c,XX c];exact .cons ⟨rfl,q'⟩ (Zp8 q r)
theorem Zhr {f:Str}:∀{ks:List (Str×V)} {fs:List (Str×T)},PR K H ks fs→(∀v,fs.lookup f=some v→∃y,ks.lookup f=some y∧Rep K H y v)∧(fs.lookup f=none→ks.lookup f=none)
 | [],[],_=>⟨fun v h=>by simp at h,fun _=>rfl⟩
 | (k,x)::ks,(g,z)::fs,.cons h r=>by
  obtain⟨e,q'⟩:=h
  cases e
  by_cases c:f=k
  ·have hb:(f==k)=true:=beq_iff_eq.mpr c
   simp only[List.lookup,hb]
   exact⟨fun v h=>by cases h;exact⟨x,rfl,q'⟩,fun h=>by cases h⟩
  ·have hb:(f==k)=false:=beq_eq_false_iff_ne.mpr c
   simp only[List.lookup,hb]
   exact Zhr r
theorem Ztn:∀{κ:Type} {ks:List (κ×V)} {fs:List (κ×T)},PR K H ks fs→ks.length=fs.length
 | _,[],[],_=>rfl
 | _,_::_,_::_,.cons _ r=>by rw[YF,YF,Ztn r]
end
abbrev Zjk (K:W.Frag)(cn:Str)(Cl:Addr):Prop:=W.nsIn K mainGlobals cn=some (some (.ref Cl))
structure KF (K:W.Frag)(f cn:Str):Prop where
 ex:∃Cl,Zjk K cn Cl∧Cls K Cl∧Zdd K Cl f
theorem KF.at {K:W.Frag}{f cn:Str}(h:KF K f cn){Cl:Addr}(c:Zjk K cn Cl):Cls K Cl∧Zdd K Cl f:=by
 obtain⟨C2,h1,h2⟩:=h.ex
 have e:some (some (Value.ref C2))=some (some (Value.ref Cl)):=h1.symm.trans c
 cases e
 exact h2
def Jy (cs:List Str)(f:Str)(o:WE):WE:=fun τ C Q χ=>o τ C (fun x C1=>∃a cn fs v,x=.ref a∧C1 a=some (.ins cn fs)∧cn∈cs∧fs.lookup f=some v∧Q v C1) χ
def gFd (cs:List Str)(f:Str)(o:WE):WG:=fun v τ C Q χ=>o τ C (fun x C1=>∃a cn fs,x=.ref a∧C1 a=some (.ins cn fs)∧cn∈cs∧fs.length<1000∧Q τ (up C1 a (.ins cn (Zad f v fs)))) χ
theorem Rl.ins {K:W.Frag}{F H:Hp}{C:Hw}(R:Rl K F H C){a:Addr}{cn:Str}{fs:List (Str×T)}(h:C a=some (.ins cn fs)):∃Cl dx ks,Zjk K cn Cl∧H a=some (.ins Cl dx ks)∧PR K H ks fs:=R.obj a _ h
section
variable {X:Cx}{e o value:Expr}{we wo wv:WE}{f:Str}{cs:List Str}{pos pos' apos cpos:Pos}
theorem Yz (hk:∀cn∈cs,KF X.K f cn)(he:SdE X e we)(hb:attributeBase e f X.env (eval e X.env)=eval e X.env:=by rfl):SdE X (.Attribute e f pos) (Jy cs f we):=by
 obtain⟨ta,p1,s1⟩:=he
 refine⟨_,Z0p p1 hb,fun F H C σ τ Q Q' χ R S h q=>?_⟩
 refine s1 F H C σ τ _ _ χ R S h fun x v H1 C1 R1 t1 rx h1=>?_
 obtain⟨a,cn,fs,v',rfl,hC,hcn,hl,h1⟩:=h1
 cases Z1 rx
 obtain⟨Cl,dx,ks,hc,hH,pr⟩:=R1.ins hC
 obtain⟨y,hy,ry⟩:=(Zhr pr).1 v' hl
 obtain⟨c1,c2⟩:=(hk cn hcn).at hc
 exact⟨a,Cl,dx,ks,y,rfl,hH,c1,c2,hy,q _ _ H1 C1 R1 t1 ry h1⟩
theorem Jb (hk:∀cn∈cs,KF X.K f cn)(ho:SdE X o wo)(hv:SdE X value wv)(hs:swapsWith value (some (.Attribute o f pos')) pos.line X.env=pure false:=by rfl):SdS X (.Assign [.Attribute o f pos'] value pos) (Z0 wv (gFd cs f wo)):=by
 obtain⟨ta,p1,s1⟩:=ho
 obtain⟨tv,p2,s2⟩:=hv
 refine⟨_,Z0b p1 p2 hs,fun F H C σ τ D D' R S h d=>?_⟩
 refine s2 F H C σ τ _ _ D'.xc R S h fun y v H1 C1 R1 t1 ry h1=>?_
 refine s1 F H1 C1 σ τ _ _ D'.xc R1 (S.tx t1) h1 fun x u H2 C2 R2 t2 rx h2=>?_
 obtain⟨a,cn,fs,rfl,hC,hcn,hl,h2⟩:=h2
 cases Z1 rx
 obtain⟨Cl,dx,ks,hc,hH,pr⟩:=R2.ins hC
 obtain⟨c1,c2⟩:=(hk cn hcn).at hc
 have tp:Tx H2 (upd H2 a (.ins Cl dx (putF f y ks))):=Tx.put hH (fun z=>z)
 obtain⟨R3,t3⟩:=R2.put (u:=.ins Cl dx (putF f y ks)) (o':=.ins cn (Zad f v fs)) hC ⟨Cl,dx,_,hc,Yh,Zih tp (Zp8 (ry.tx t2) pr)⟩
 exact⟨a,Cl,dx,ks,rfl,hH,c1,c2,by rw[Ztn pr];exact hl,d.nx _ _ _ _ R3 ((t1.trans t2).trans t3) (S.tx ((t1.trans t2).trans t3)) h2⟩
end
def Zsu (MT:Addr→L2.Sp→Prop)(m:Str)(E:XK)(ta:TE)(t:TA):TE:=fun σ H Q=>ta σ H fun x H1=>∃a C dx fs sp,x=.ref a∧H1 a=some (.ins C dx fs)∧MT C sp∧fs.lookup m=none∧t σ H1 fun vs H2=>sp (x::vs) H2 Q E
section
variable {X:Cx}{k:Nat}{E:XK}{m:Str}{p pos apos:Pos}{e o:Expr}{es:List Expr}{ta:TE}{t:TA}{MT:Addr→L2.Sp→Prop}
def MOk (X:Cx)(k:Nat)(m:Str)(MT:Addr→L2.Sp→Prop):Prop:=∀C sp,MT C sp→∃f fd ps,Cls X.K C∧Meth X.K C m f∧FnOk X.prog X.w X.K X.mg X.base CX0 k f fd ps sp∧Binds X.K fd ps []
theorem Ztt {pl:Sem Bool}(he:PE X o ta)(hM:MOk X k m MT)(hr:Room k X.A)(ha:PA X (e::es) t)
  (hst:starEach (e::es) X.env=(false,eval e X.env)::starEach es X.env:=by rfl) (hpl:(backTo pos (starEach es X.env)).any (·.1)=false:=by rfl)
  (ht:eval (.Call (.Attribute o m apos) (e::es) [] pos) X.env=(do
   let ov ←eval o X.env
   standAt apos.atName
   let (f,first) ←holding [ov] (getMethod ov m pl)
   callWith pos f first (backTo pos (starEach (e::es) X.env)) (backToKw pos (keywordEach [] X.env))):=by rfl):
  PE X (.Call (.Attribute o m apos) (e::es) [] pos) (Zsu MT m E0 ta t):=by
 intro pins s σ H Q I h
 refine W.methodCall_KW (pl:=pl) (thn (he pins s σ H _ I h) fun u s1 ⟨x,H1,I1,rx,a,C,dx,fs,sp,ex,ea,hmt,l,q⟩=>?_) ht
 subst ex
 obtain rfl:u=Value.ref a:=rx
 obtain⟨f,fd,ps,c,hm,F,hb⟩:=hM C sp hmt
 refine Zi7 I1 ea c hm l ?_
 refine W.callWith_K (first:=[.ref a]) (h₀:=X.base) I.ok.mod.kin hm.kp (thn (ha pos pins s1 σ H1 _ I1 q) fun us s2 ⟨vs,H2,I2,r,q2⟩=>⟨I2.kIn,?_⟩) hst hpl
 exact Zov (us:=.ref a::us) (vs:=.ref a::vs) (dvs:=[]) F hr hb .nil pass0 I2 (.cons rfl r) (by rw[YK];exact q2)
theorem Zrj {pl:Sem Bool}(he:PE X o ta)(hM:MOk X k m MT)(hr:Room k X.A)
  (ht:eval (.Call (.Attribute o m apos) [] [] pos) X.env=(do
   let ov ←eval o X.env
   standAt apos.atName
   let (f,first) ←holding [ov] (getMethod ov m pl)
   callWith pos f first (backTo pos (starEach [] X.env)) (backToKw pos (keywordEach [] X.env))):=by rfl):
  PE X (.Call (.Attribute o m apos) [] [] pos) (Zsu MT m E0 ta tNil):=by
 intro pins s σ H Q I h
 refine W.methodCall_KW (pl:=pl) (thn (he pins s σ H _ I h) fun u s1 ⟨x,H1,I1,rx,a,C,dx,fs,sp,ex,ea,hmt,l,q⟩=>?_) ht
 subst ex
 obtain rfl:u=Value.ref a:=rx
 obtain⟨f,fd,ps,c,hm,F,hb⟩:=hM C sp hmt
 refine Zi7 I1 ea c hm l ?_
 exact W.callWith_K0 (first:=[.ref a]) I1.kIn hm.kp (Zov (us:=[.ref a]) (vs:=[.ref a]) (dvs:=[]) F hr hb .nil pass0 I1 (.cons rfl .nil) q)
end
def Cm (P:Program)(w:World)(K:W.Frag)(mg:Str→Option Value)(base:Heap)(n:Nat)(cn m:Str)(ps:List Str)(sp:L2.Sp):Prop:=
 ∃Cl f fd,Zjk K cn Cl∧Cls K Cl∧Meth K Cl m f∧FnOk P w K mg base CX0 n f fd ps sp∧Binds K fd ps []
def MTb (P:Program)(w:World)(K:W.Frag)(mg:Str→Option Value)(base:Heap)(n:Nat)(pr:List Df)(m:Str)(tb:List (Str×Nat)):Prop:=∀cn i,tb.lookup cn=some i→∃ps,Cm P w K mg base n cn m ps (spW K pr n i)
section
variable {P:Program}{w:World}{K:W.Frag}{mg:Str→Option Value}{base:Heap}{n:Nat}{pr:List Df}{m:Str}{tb:List (Str×Nat)}
theorem Yw:MTb P w K mg base n pr m []:=fun cn i h=>by simp at h
theorem Yc {cn:Str}{i:Nat}{ps:List Str}(h:Cm P w K mg base n cn m ps (spW K pr n i))(r:MTb P w K mg base n pr m tb):MTb P w K mg base n pr m ((cn,i)::tb):=fun c j e=>by
 by_cases q:c=cn
 ·have hb:(c==cn)=true:=beq_iff_eq.mpr q
  simp only[List.lookup,hb] at e
  cases e;subst q;exact⟨ps,h⟩
 ·have hb:(c==cn)=false:=beq_eq_false_iff_ne.mpr q
  simp only[List.lookup,hb] at e
  exact r c j e
end
def eMth (P:Calls)(tb:List (Str×Nat))(m:Str)(o:WE)(a:WA):WE:=fun τ C Q χ=>o τ C (fun x C1=>∃ad cn fs i,x=.ref ad∧C1 ad=some (.ins cn fs)∧tb.lookup cn=some i∧fs.lookup m=none∧a τ C1 (fun vs C2=>P i (x::vs) C2 Q χ) χ) χ
section
variable {X:Cx}{k:Nat}{m:Str}{p pos apos:Pos}{e o:Expr}{es:List Expr}{wo:WE}{wA:WA}{tb:List (Str×Nat)}{pr:List Df}
theorem Zub (T:MTb X.prog X.w X.K X.mg X.base k pr m tb):MOk X k m (fun C sp=>∃cn i,Zjk X.K cn C∧tb.lookup cn=some i∧sp=spW X.K pr k i):=fun C sp h=>by
 obtain⟨cn,i,hc,hl,rfl⟩:=h
 obtain⟨ps,Cl,f,fd,h1,h2,h3,h4,h5⟩:=T cn i hl
 have ee:some (some (Value.ref Cl))=some (some (Value.ref C)):=h1.symm.trans hc
 cases ee
 exact⟨f,fd,ps,h2,h3,h4,h5⟩
theorem Jz {pl:Sem Bool}(T:MTb X.prog X.w X.K X.mg X.base k pr m tb)(hr:Room k X.A)(ho:SdE X o wo)(ha:SdA X (e::es) wA)
  (hst:starEach (e::es) X.env=(false,eval e X.env)::starEach es X.env:=by rfl) (hpl:(backTo pos (starEach es X.env)).any (·.1)=false:=by rfl)
  (ht:eval (.Call (.Attribute o m apos) (e::es) [] pos) X.env=(do
   let ov ←eval o X.env
   standAt apos.atName
   let (f,first) ←holding [ov] (getMethod ov m pl)
   callWith pos f first (backTo pos (starEach (e::es) X.env)) (backToKw pos (keywordEach [] X.env))):=by rfl):
  SdE X (.Call (.Attribute o m apos) (e::es) [] pos) (eMth (wpc pr k) tb m wo wA):=by
 obtain⟨to,p1,s1⟩:=ho
 obtain⟨ta,p2,s2⟩:=ha
 refine⟨_,Ztt (pl:=pl) p1 (Zub T) hr p2 hst hpl ht,fun F H C σ τ Q Q' χ R S h q=>?_⟩
 refine s1 F H C σ τ _ _ χ R S h fun x v H1 C1 R1 t1 rx h1=>?_
 obtain⟨a,cn,fs,i,rfl,hC,hl,hm,h1⟩:=h1
 cases Z1 rx
 obtain⟨Cl,dx,ks,hc,hH,prr⟩:=R1.ins hC
 refine⟨a,Cl,dx,ks,_,rfl,hH,⟨cn,i,hc,hl,rfl⟩,(Zhr prr).2 hm,?_⟩
 refine s2 F H1 C1 σ τ _ _ χ R1 (S.tx t1) h1 fun xs vs H2 C2 R2 t2 rs h2=>?_
 exact⟨F,C2,.ref a::vs,Q',χ,R2,Yp J0 rs,h2,QE.at q (t1.trans t2)⟩
theorem Zck {pl:Sem Bool}(T:MTb X.prog X.w X.K X.mg X.base k pr m tb)(hr:Room k X.A)(ho:SdE X o wo)
  (ht:eval (.Call (.Attribute o m apos) [] [] pos) X.env=(do
   let ov ←eval o X.env
   standAt apos.atName
   let (f,first) ←holding [ov] (getMethod ov m pl)
   callWith pos f first (backTo pos (starEach [] X.env)) (backToKw pos (keywordEach [] X.env))):=by rfl):
  SdE X (.Call (.Attribute o m apos) [] [] pos) (eMth (wpc pr k) tb m wo Zg):=by
 obtain⟨to,p1,s1⟩:=ho
 refine⟨_,Zrj (pl:=pl) p1 (Zub T) hr ht,fun F H C σ τ Q Q' χ R S h q=>?_⟩
 refine s1 F H C σ τ _ _ χ R S h fun x v H1 C1 R1 t1 rx h1=>?_
 obtain⟨a,cn,fs,i,rfl,hC,hl,hm,h1⟩:=h1
 cases Z1 rx
 obtain⟨Cl,dx,ks,hc,hH,prr⟩:=R1.ins hC
 refine⟨a,Cl,dx,ks,_,rfl,hH,⟨cn,i,hc,hl,rfl⟩,(Zhr prr).2 hm,?_⟩
 exact⟨F,C1,[.ref a],Q',χ,R1,Yp J0 Jx,h1,QE.at q t1⟩
end
def wNew (cn:Str)(i:Nat)(P:Calls):WS:=fun D τ C=>∃vs,τ=vs.map some∧∀p,C p=none→P i (.ref p::vs) (up C p (.ins cn [])) (fun v C2=>v=.non∧D.rt (.ref p) C2) D.xc
def Cn (P:Program)(w:World)(K:W.Frag)(mg:Str→Option Value)(base:Heap)(n:Nat)(pr:List Df)(cn:Str)(i j:Nat):Prop:=
 (∃ar,pr[j]?=some ⟨ar,ar,wNew cn i⟩)∧∃Cl f,Zjk K cn Cl∧mg cn=some (.ref Cl)∧L2.Mk K Cl f∧(n=0∨∃k fd ps,n=k+1∧FnOk P w K mg base CX0 k f fd ps (spW K pr k i)∧Binds K fd ps [])
section
variable {X:Cx}{k i j:Nat}{cn:Str}{p pos:Pos}{e:Expr}{es:List Expr}{wA:WA}{pr:List Df}
theorem d_new (Cc:Cn X.prog X.w X.K X.mg X.base k pr cn i j)(hr:Room k X.A)(hg:Gl X cn)(ha:SdA X (e::es) wA)
  (hdb:(cn==("__debug__":Str))=false:=by decide) (he:starEach (e::es) X.env=(false,eval e X.env)::starEach es X.env:=by rfl) (hpl:(backTo pos (starEach es X.env)).any (·.1)=false:=by rfl):
  SdE X (.Call (.Name cn p) (e::es) [] pos) (Z7 (wpc pr k) j wA):=by
 obtain⟨⟨ar,hj⟩,Cl,f,hc,hm,M,h0 | ⟨k',fd,ps,rfl,F,hb⟩⟩:=Cc
 ·subst h0
  obtain⟨ta,p2,s2⟩:=ha
  refine⟨fun σ H Q=>ta σ H fun _ _=>False,fun pins s σ H Q I h=>?_,fun F H C σ τ Q Q' χ R S h q=>?_⟩
  ·refine wpAny_Call_Name_kw (Zhv I hg hm ?_ hdb)
   exact W.callWith_K (h₀:=X.base) I.ok.mod.kin M.kp (thn (p2 pos pins s σ H _ I h) fun us s1 ⟨vs,H1,I1,r,q⟩=>q.elim) he hpl
  ·exact s2 F H C σ τ _ _ χ R S h fun xs vs H2 C2 R2 t2 rs h2=>h2.elim
 ·obtain⟨ta,p2,s2⟩:=ha
  refine⟨_,Zxb (dvs:=[]) M F hr hg hm hb .nil pass0 p2 hdb he hpl,fun F' H C σ τ Q Q' χ R S h q=>?_⟩
  refine s2 F' H C σ τ _ _ χ R S h fun xs vs H2 C2 R2 t2 rs h2=>?_
  intro x dx hx hdx hne
  obtain⟨d',e1,e2,h2⟩:=h2
  rw[hj] at e1
  cases e1
  obtain⟨vs',ev,h2⟩:=h2
  have evs:vs=vs':=by
   have:ar-ar=0:=Nat.sub_self _
   rw[this,List.replicate_zero,YK] at ev
   exact(List.map_inj_right fun a b z=>by cases z;rfl).mp ev
  subst evs
  have hCx:C2 x=none:=R2.free hx
  have R3:Rl X.K F' (upd H2 dx (.own x)) C2:=R2.hid hdx
  have hx3:upd H2 dx (.own x) x=none:=by rw[Z4 hne.symm];exact hx
  have R4:Rl X.K F' (upd (upd H2 dx (.own x)) x (.ins Cl dx [])) (up C2 x (.ins cn [])):=R3.new hx3 ⟨Cl,dx,[],hc,Yh,.nil⟩
  have t4:Tx H2 (upd (upd H2 dx (.own x)) x (.ins Cl dx [])):=(Tx.new hdx).trans (Tx.new hx3)
  refine⟨F',_,.ref x::vs,_,χ,R4,?_,h2 x hCx,?_⟩
  ·rw[YK];exact Yp J0 (rs.tx t4)
  ·intro y v H5 C5 R5 t5 ry h5
   obtain⟨rfl,h5⟩:=h5
   exact⟨Zc9 ry,q _ _ H5 C5 R5 ((t2.trans t4).trans t5) J0 h5⟩
end
theorem Z6 {P:Program}{w:World}{K:W.Frag}{mg:Str→Option Value}{base:Heap}{x qual:Str}{st:Stmt}{f:Addr}{fd:FuncData}{N ps:List Str}{pr:List Df}{n i:Nat}{d:Df}(F:Fun K x qual st f fd)(S:FnScope N ps (Zh st))(hd:pr[i]?=some d)(hn:d.n=N.length)(har:d.ar=ps.length)
  (hb:∀(cdv:Value) (A:Around) (outer:List Env) (s:Shared) (H:Hp) (E:XK),Room n (A.deeper (envOfC qual (Zh st) s.heap.objs.size f cdv))→SdB (cxOf CX0 P w K mg base N qual (Zh st) f cdv A outer s H E).nox (Zl st) (d.body (wpc pr n))):
  FnOk P w K mg base CX0 (n+1) f fd ps (spW K pr (n+1) i):=by
 refine F.ok S (fun vs H Q E h=>?_) (fun cdv A outer s H vs Q E hr h=>?_)
 ·obtain⟨F',C,vs',Q',χ,R,rs,⟨d',e1,e2,_⟩,_⟩:=h
  rw[hd] at e1;cases e1
  rw[rs.length,e2,har]
 ·obtain⟨F',C,vs',Q',χ,R,rs,⟨d',e1,e2,h⟩,q⟩:=h
  rw[hd] at e1;cases e1
  obtain⟨t,p,sm⟩:=hb cdv A outer s H E hr
  refine⟨t,p,sm F' H C _ _ _ _ R (RepS.start rs N _ (by rw[rs.length,e2,hn])) h ⟨fun σ τ H' C' R' t' _ h'=>q .non .non H' C' R' t' Zc8 h',q,fun _ _ _ _ _ _ _ z=>z.elim,fun _ _ _ _ _ _ _ z=>z.elim⟩⟩
theorem Ye {P:Program}{w:World}{K:W.Frag}{mg:Str→Option Value}{base:Heap}{f:Addr}{fd:FuncData}{ps:List Str}{pr:List Df}{i:Nat}:FnOk P w K mg base CX0 0 f fd ps (spW K pr 0 i):=
 ⟨fun vs H Q E h=>by obtain⟨_,_,_,_,_,_,_,z,_⟩:=h;exact z.elim,fun A outer s H args us vs Q E _ _ _ _ h=>by obtain⟨_,_,_,_,_,_,_,z,_⟩:=h;exact z.elim⟩
structure Kl (K:W.Frag)(mg:Str→Option Value)(cn:Str)(Cl:Addr):Prop where
 at_:Zjk K cn Cl
 mg:mg cn=some (.ref Cl)
 cls:Cls K Cl
theorem Y0 {P:Program}{w:World}{K:W.Frag}{mg:Str→Option Value}{base:Heap}{n:Nat}{cn m:Str}{ps:List Str}{sp:L2.Sp}{Cl f:Addr}{fd:FuncData}(k:Kl K mg cn Cl)(m':Meth K Cl m f)(G:FnOk P w K mg base CX0 n f fd ps sp)(hb:Binds K fd ps []):Cm P w K mg base n cn m ps sp:=
 ⟨Cl,f,fd,k.at_,k.cls,m',G,hb⟩
theorem Zyh {P:Program}{w:World}{K:W.Frag}{mg:Str→Option Value}{base:Heap}{pr:List Df}{cn:Str}{i j ar:Nat}{Cl f:Addr}(hj:pr[j]?=some ⟨ar,ar,wNew cn i⟩)(k:Kl K mg cn Cl)(M:L2.Mk K Cl f):Cn P w K mg base 0 pr cn i j:=⟨⟨ar,hj⟩,Cl,f,k.at_,k.mg,M,.inl rfl⟩
theorem Zyi {P:Program}{w:World}{K:W.Frag}{mg:Str→Option Value}{base:Heap}{pr:List Df}{cn:Str}{n i j ar:Nat}{Cl f:Addr}{fd:FuncData}{ps:List Str}(hj:pr[j]?=some ⟨ar,ar,wNew cn i⟩)(k:Kl K mg cn Cl)(M:L2.Mk K Cl f)(G:FnOk P w K mg base CX0 n f fd ps (spW K pr n i))(hb:Binds K fd ps []):Cn P w K mg base (n+1) pr cn i j:=
 ⟨⟨ar,hj⟩,Cl,f,k.at_,k.mg,M,.inr ⟨n,fd,ps,rfl,G,hb⟩⟩
theorem Zyj {P:Program}{w:World}{K:W.Frag}{mg:Str→Option Value}{base:Heap}{pr:List Df}{cn:Str}{n i j ar:Nat}{Cl:Addr}{ps:List Str}(hj:pr[j]?=some ⟨ar,ar,wNew cn i⟩)(k:Kl K mg cn Cl)(mk:W.makesIn K Cl=true)(kc:W.keepIn K (.ref Cl)=true)
  (h:Cm P w K mg base n cn "__init__" ps (spW K pr n i)):Cn P w K mg base (n+1) pr cn i j:=by
 obtain⟨C2,f,fd,h1,h2,h3,h4,h5⟩:=h
 have e:some (some (Value.ref C2))=some (some (Value.ref Cl)):=h1.symm.trans k.at_
 cases e
 exact Zyi hj k ⟨mk,h3.at_,h3.fn,kc⟩ h4 h5
theorem Zt {K:W.Frag}{f:Str}:∀cn∈([]:List Str),KF K f cn:=fun _ h=>by cases h
theorem Zo {K:W.Frag}{f cn:Str}{cs:List Str}(a:KF K f cn)(r:∀c∈cs,KF K f c):∀c∈cn::cs,KF K f c:=fun c h=>by
 rcases List.mem_cons.mp h with rfl | h
 ·exact a
 ·exact r c h
theorem Znb {K:W.Frag}{H:Hp}{a:Addr}{its:Array Value}{n:Nat}{sl:Array (Option Value)}{od:Option Addr}{xs:List V}{ts:List T}(l:K.lookup a=some ⟨.type "tuple",od,.seq its n,sl⟩)(hz:its.size≤sizeLine)(v:Vals xs its.toList)(r:Reps K H xs ts):Rep K H (.ref a) (.tup ts):=
 Zab (.inr ⟨_,its,n,l,rfl,rfl,hz,v⟩) r
theorem Zvp {X:Cx}{body:List Stmt}:SdB X body Zou:=⟨fun _ _ _=>False,fun _ _ _ _ _ _ h=>h.elim,fun _ _ _ _ _ _ _ _ _ h _=>h.elim⟩
def EqH (C:Hw):Nat→T→T→Bool→Prop
 | 0,v,w,b=>flat v 0=true∧flat w 0=true∧b=eqT v w
 | n+1,v,w,b=>(flat v n=true∧flat w n=true∧b=eqT v w)∨
   (∃(xs ys:List T) (e:Nat→Bool),v=.tup xs∧w=.tup ys∧(∀j x y,xs[j]?=some x→ys[j]?=some y→EqH C n x y (e j))∧b=((List.range (min xs.length ys.length)).all e&&xs.length==ys.length))∨
   (∃(a a':Addr) (xs ys:List T) (e:Nat→Bool),v=.ref a∧w=.ref a'∧C a=some (.lst xs)∧C a'=some (.lst ys)∧(xs.length=ys.length→∀j x y,xs[j]?=some x→ys[j]?=some y→EqH C n x y (e j))∧
    b=(if xs.length=ys.length then(List.range xs.length).all e else false))
section
variable {X:Cx}{pins:List (Addr×Obj)}{σ:L2.St}{F H:Hp}{s:Shared}{C:Hw}
theorem Zoj {e:Nat→Bool}{n:Nat}(h:∀j,j<n→e j=true):(List.range n).all e=true:=by
 rw[List.all_eq_true];intro j hj;exact h j (List.mem_range.mp hj)
theorem Znz (I:Inv X pins σ H s)(R:Rl X.K F H C):∀(n:Nat) {v w:T} {x:V} {b:Bool},EqH C n v w b→Rep X.K H x v→Rep X.K H x w→b=true:=by
 intro n
 induction n with
 | zero=>
  intro v w x b h rv rw'
  obtain⟨f1,f2,rfl⟩:=h
  rw[Zhq I 0 f1 f2 rv rw']
  exact Zd3 _ f2
 | succ n ih=>
  intro v w x b h rv rw'
  have lists:∀{zs:List V} {xs ys:List T} {e:Nat→Bool},Reps X.K H zs xs→Reps X.K H zs ys→(∀j x y,xs[j]?=some x→ys[j]?=some y→EqH C n x y (e j))→xs.length=ys.length∧∀j,j<xs.length→e j=true:=by
   intro zs xs ys e r1 r2 he
   have l1:=r1.length
   have l2:=r2.length
   refine⟨by omega,fun j hj=>?_⟩
   have i1:xs[j]?=some (xs[j]'hj):=by simp[hj]
   have i2:ys[j]?=some (ys[j]'(by omega)):=by simp
   obtain⟨u1,g1,q1⟩:=r1.get i1
   obtain⟨u2,g2,q2⟩:=r2.get i2
   rw[g1] at g2;cases g2
   exact ih (he j _ _ i1 i2) q1 q2
  rcases h with⟨f1,f2,rfl⟩ | ⟨xs,ys,e,rfl,rfl,he,rfl⟩ | ⟨a,a',xs,ys,e,rfl,rfl,h1,h2,he,rfl⟩
  ·rw[Zhq I n f1 f2 rv rw']
   exact Zd3 _ f2
  ·obtain⟨a,zs,rfl,hq,r⟩:=Yf rv
   obtain⟨b,zs',eb,hq',r'⟩:=Yf rw'
   cases eb
   have:=I.tuple_inj hq hq'
   subst this
   obtain⟨hl,ha⟩:=lists r r' he
   rw[hl,Nat.min_self,XU,Bool.and_true]
   exact Zoj fun j hj=>ha j (by omega)
  ·cases Z1 rv
   cases Z1 rw'
   rw[h1] at h2;cases h2
   obtain⟨zs,hz,r⟩:=R.lst h1
   obtain⟨hl,ha⟩:=lists r r (he rfl)
   rw[XY rfl]
   exact Zoj ha
theorem Zlv {ts us:List T}{ys zs:List V}{its its':List Value}{A:Around}{e:Nat→Bool}(r:Reps X.K H ys ts)(r':Reps X.K H zs us)(rI:Vals ys its)(rI':Vals zs its')
  (he:∀j x y,ts[j]?=some x→us[j]?=some y→∀{x1 x2:V} {u u':Value},Rep X.K H x1 x→Rep X.K H x2 y→Z3 x1 u→Z3 x2 u'→SeqAt.EqAt A s u u' (e j)):
  ∀j (h1:j<its.toArray.size) (h2:j<its'.toArray.size),SeqAt.EqAt A s its.toArray[j] its'.toArray[j] (e j):=fun j h1 h2=>by
 have l1:its.toArray.size=ts.length:=by rw[XJ,←rI.length,r.length]
 have l2:its'.toArray.size=us.length:=by rw[XJ,←rI'.length,r'.length]
 have i1:ts[j]?=some (ts[j]'(by omega)):=by simp[l1▸h1]
 have i2:us[j]?=some (us[j]'(by omega)):=by simp[l2▸h2]
 obtain⟨x1,g1,q1⟩:=r.get i1
 obtain⟨x2,g2,q2⟩:=r'.get i2
 obtain⟨u1,k1,z1⟩:=rI.get g1
 obtain⟨u2,k2,z2⟩:=rI'.get g2
 have e1:its.toArray[j]=u1:=by
  have:its[j]?=some its.toArray[j]:=by simp
  rw[k1] at this;exact(YH this).symm
 have e2:its'.toArray[j]=u2:=by
  have:its'[j]?=some its'.toArray[j]:=by simp
  rw[k2] at this;exact(YH this).symm
 rw[e1,e2]
 exact he j _ _ i1 i2 q1 q2 z1 z2
theorem Zy6 (I:Inv X pins σ H s)(R:Rl X.K F H C):∀(n:Nat) {v w:T} {x y:V} {u u':Value} {A:Around} {b:Bool},EqH C n v w b→Rep X.K H x v→Rep X.K H y w→Z3 x u→Z3 y u'→A.units+n<cLine→SeqAt.EqAt A s u u' b:=by
 intro n
 induction n with
 | zero=>
  intro v w x y u u' A b h rv rw' ru ru' hu
  obtain⟨f1,f2,rfl⟩:=h
  exact Zn0 I 0 f1 f2 rv rw' ru ru' hu
 | succ n ih=>
  intro v w x y u u' A b h rv rw' ru ru' hu
  have hu0:A.units<cLine:=by omega
  have h0:=h
  rcases h with⟨f1,f2,rfl⟩ | ⟨xs,ys,e,rfl,rfl,he,rfl⟩ | ⟨a,a',xs,ys,e,rfl,rfl,h1,h2,he,rfl⟩
  ·exact Zn0 I n f1 f2 rv rw' ru ru' (by omega)
  ·obtain⟨a,zs,rfl,hq,r⟩:=Yf rv
   obtain⟨b,zs',rfl,hq',r'⟩:=Yf rw'
   cases ru
   cases ru'
   by_cases hne:a=b
   ·subst hne
    have:=Znz I R (n+1) h0 rv rw'
    rw[this]
    exact SeqAt.EqAt.same _
   ·obtain⟨its,rI,p,_⟩:=I.tuple hq
    obtain⟨its',rI',p',_⟩:=I.tuple hq'
    have l1:its.toArray.size=xs.length:=by rw[XJ,←rI.length,r.length]
    have l2:its'.toArray.size=ys.length:=by rw[XJ,←rI'.length,r'.length]
    have key:=SeqAt.EqAt.of_refs hne (SeqAt.RcAt.tuples (A:=A) p p' hu0 (Zlv (A:=A.in1) r r' rI rI' fun j x y hx hy {x1 x2 u u'} q1 q2 z1 z2=>ih (he j x y hx hy) q1 q2 z1 z2 (by show A.units+1+n<cLine;omega)))
    rw[l1,l2] at key
    exact key
  ·cases Z1 rv
   cases Z1 rw'
   cases ru
   cases ru'
   by_cases hne:a=a'
   ·subst hne
    have:=Znz I R (n+1) h0 rv rw'
    rw[this]
    exact SeqAt.EqAt.same _
   ·obtain⟨zs,hz,r⟩:=R.lst h1
    obtain⟨zs',hz',r'⟩:=R.lst h2
    obtain⟨its,rI,p,_⟩:=I.list (SqL.of hz)
    obtain⟨its',rI',p',_⟩:=I.list (SqL.of hz')
    have l1:its.toArray.size=xs.length:=by rw[XJ,←rI.length,r.length]
    have l2:its'.toArray.size=ys.length:=by rw[XJ,←rI'.length,r'.length]
    by_cases hl:xs.length=ys.length
    ·rw[XY hl]
     have key:=SeqAt.EqAt.of_refs hne (SeqAt.RcAt.lists (A:=A) p.isList p'.isList (by rw[l1,l2,hl]) hu0 (Zlv (A:=A.in1) r r' rI rI' fun j x y hx hy {x1 x2 u u'} q1 q2 z1 z2=>ih (he hl j x y hx hy) q1 q2 z1 z2 (by show A.units+1+n<cLine;omega)))
     rw[l1] at key
     exact key
    ·rw[XX hl]
     exact SeqAt.EqAt.of_refs hne (SeqAt.RcAt.lists_lengths p.isList p'.isList (by rw[l1,l2];exact bne_iff_ne.mpr hl) hu0)
theorem rcH (I:Inv X pins σ H s)(R:Rl X.K F H C){n:Nat}{v w:T}{x y:V}{u u':Value}{A:Around}{b:Bool}(h:EqH C n v w b)(rv:Rep X.K H x v)(rw':Rep X.K H y w)(ru:Z3 x u)(ru':Z3 y u')(hu:A.units+n+1<cLine):
  SeqAt.RcAt A s u u' b∧SeqAt.RcNeAt A s u u' (!b):=by
 have hu0:A.units<cLine:=by omega
 cases n with
 | zero=>
  obtain⟨f1,f2,rfl⟩:=h
  exact rcT I f1 f2 rv rw' ru ru' hu
 | succ n=>
  rcases h with⟨f1,f2,rfl⟩ | ⟨xs,ys,e,rfl,rfl,he,rfl⟩ | ⟨a,a',xs,ys,e,rfl,rfl,h1,h2,he,rfl⟩
  ·exact rcT I f1 f2 rv rw' ru ru' (by omega)
  ·obtain⟨a,zs,rfl,hq,r⟩:=Yf rv
   obtain⟨b,zs',rfl,hq',r'⟩:=Yf rw'
   cases ru
   cases ru'
   obtain⟨its,rI,p,_⟩:=I.tuple hq
   obtain⟨its',rI',p',_⟩:=I.tuple hq'
   have l1:its.toArray.size=xs.length:=by rw[XJ,←rI.length,r.length]
   have l2:its'.toArray.size=ys.length:=by rw[XJ,←rI'.length,r'.length]
   have hi:=Zlv (s:=s) (A:=A.in1) (e:=e) r r' rI rI' fun j x y hx hy {x1 x2 u u'} q1 q2 z1 z2=>Zy6 I R n (he j x y hx hy) q1 q2 z1 z2 (by show A.units+1+n<cLine;omega)
   have k1:=SeqAt.RcAt.tuples (A:=A) p p' hu0 hi
   have k2:=SeqAt.RcNeAt.tuples (A:=A) p p' hu0 hi
   rw[l1,l2] at k1 k2
   exact⟨k1,k2⟩
  ·cases Z1 rv
   cases Z1 rw'
   cases ru
   cases ru'
   obtain⟨zs,hz,r⟩:=R.lst h1
   obtain⟨zs',hz',r'⟩:=R.lst h2
   obtain⟨its,rI,p,_⟩:=I.list (SqL.of hz)
   obtain⟨its',rI',p',_⟩:=I.list (SqL.of hz')
   have l1:its.toArray.size=xs.length:=by rw[XJ,←rI.length,r.length]
   have l2:its'.toArray.size=ys.length:=by rw[XJ,←rI'.length,r'.length]
   by_cases hl:xs.length=ys.length
   ·rw[XY hl]
    have hi:=Zlv (s:=s) (A:=A.in1) (e:=e) r r' rI rI' fun j x y hx hy {x1 x2 u u'} q1 q2 z1 z2=>Zy6 I R n (he hl j x y hx hy) q1 q2 z1 z2 (by show A.units+1+n<cLine;omega)
    have k1:=SeqAt.RcAt.lists (A:=A) p.isList p'.isList (by rw[l1,l2,hl]) hu0 hi
    have k2:=SeqAt.RcNeAt.lists (A:=A) p.isList p'.isList (by rw[l1,l2,hl]) hu0 hi
    rw[l1] at k1 k2
    exact⟨k1,k2⟩
   ·rw[XX hl]
    have hne:(its.toArray.size !=its'.toArray.size)=true:=by rw[l1,l2];exact bne_iff_ne.mpr hl
    exact⟨SeqAt.RcAt.lists_lengths p.isList p'.isList hne hu0,SeqAt.RcNeAt.lists_lengths p.isList p'.isList hne hu0⟩
end
def Zsi (neg:Bool):W2:=fun x y C Q=>∃b,EqH C 100 x y b∧Q (.bl (if neg then !b else b)) C
abbrev wEqD:W2:=Zsi false
abbrev wNeD:W2:=Zsi true
section
variable {X:Cx}
theorem Zt8 (neg:Bool)(hu:X.A.units+150<cLine):OpS X (compareOp (if neg then .NotEq else .Eq)) (Zsi neg):=⟨_,Zil,fun F H C x y v u Q Q' R rx ry h q pins s σ v' u' I r1 r2=>by
 obtain⟨b,he,hq⟩:=h
 have key:=rcH (A:=X.A) I R he rx ry r1 r2 (by omega)
 have hq':=q _ _ H C R (Tx.refl H) Jn hq
 cases neg with
 | true=>exact EqBoolInt.of_rcne key.2 ⟨.bl (!b),H,I,rfl,hq'⟩
 | false=>exact EqBoolInt.of_rc key.1 ⟨.bl b,H,I,rfl,hq'⟩⟩
theorem Zt9 (hu:X.A.units+150<cLine):OpS X (compareOp .Eq) wEqD:=Zt8 false hu
theorem Zyy (hu:X.A.units+150<cLine):OpS X (compareOp .NotEq) wNeD:=Zt8 true hu
end
structure FunD (K:W.Frag)(x qual:Str)(st:Stmt)(f:Addr)(fd:FuncData):Prop where
 ex:∃(oc:Value) (od:Option Addr) (dV kV doc pm:Value) (an:Option Addr) (cdv ct:Value) (osl:Array (Option Value)),
  fd=W.fnOf x qual (Zu st) (Zl st) (Zh st) dV kV doc pm an cdv ct∧K.lookup f=some ⟨oc,od,.func fd,osl⟩∧W.codeIn K cdv qual=true
 kp:W.keepIn K (.ref f)=true
theorem Z1p {P:Program}{w:World}{K:W.Frag}{mg:Str→Option Value}{base:Heap}{x qual:Str}{st:Stmt}{f:Addr}{fd:FuncData}{N ps:List Str}{pr:List Df}{n i:Nat}{d:Df}(F:FunD K x qual st f fd)(S:FnScope N ps (Zh st))(hd:pr[i]?=some d)(hn:d.n=N.length)(har:d.ar=ps.length)
  (hb:∀(cdv:Value) (A:Around) (outer:List Env) (s:Shared) (H:Hp) (E:XK),Room n (A.deeper (envOfC qual (Zh st) s.heap.objs.size f cdv))→SdB (cxOf CX0 P w K mg base N qual (Zh st) f cdv A outer s H E).nox (Zl st) (d.body (wpc pr n))):
  FnOk P w K mg base CX0 (n+1) f fd ps (spW K pr (n+1) i):=by
 obtain⟨oc,od,dV,kV,doc,pm,an,cdv,ct,osl,rfl,lk,hcd⟩:=F.ex
 refine Zy5 lk hcd S (fun vs H Q E h=>?_) fun A outer s H vs Q E hr h=>?_
 ·obtain⟨F',C,vs',Q',χ,R,rs,⟨d',e1,e2,_⟩,_⟩:=h
  rw[hd] at e1;cases e1
  rw[rs.length,e2,har]
 ·obtain⟨F',C,vs',Q',χ,R,rs,⟨d',e1,e2,h⟩,q⟩:=h
  rw[hd] at e1;cases e1
  obtain⟨t,p,sm⟩:=hb cdv A outer s H E hr
  exact⟨t,p.nox,sm F' H C _ _ _ _ R (RepS.start rs N _ (by rw[rs.length,e2,hn])) h ⟨fun σ τ H' C' R' t' _ h'=>q .non .non H' C' R' t' Zc8 h',q,fun _ _ _ _ _ _ _ z=>z.elim,fun _ _ _ _ _ _ _ z=>z.elim⟩⟩
def CaD (P:Program)(w:World)(K:W.Frag)(mg:Str→Option Value)(base:Heap)(n:Nat)(x:Str)(ps:List Str)(ds:List Int)(sp:L2.Sp):Prop:=
 ∃f fd,FnOk P w K mg base CX0 n f fd ps sp∧(∃us:List Value,Vals (ds.map V.int) us∧∀j,j≤ds.length→Binds K fd ps (us.drop j))∧W.keepIn K (.ref f)=true∧mg x=some (.ref f)
def aApp (ws:List T)(a:WA):WA:=fun τ C Q χ=>a τ C (fun vs C1=>Q (vs++ws) C1) χ
theorem Zmt:∀{vs:List V} {us:List Value},Vals vs us→∀j,Vals (vs.drop j) (us.drop j)
 | _,_,h,0=>by simpa using h
 | _,_,.nil,j+1=>.nil
 | _,_,.cons _ r,j+1=>Zmt r j
theorem Zec {X:Cx}{k i:Nat}{x:Str}{ps:List Str}{ds:List Int}{pr:List Df}{p pos:Pos}{e:Expr}{es:List Expr}{wA:WA}{ws:List T}(j:Nat)(Cc:CaD X.prog X.w X.K X.mg X.base k x ps ds (spW X.K pr k i))(hr:Room k X.A)(hg:Gl X x)(ha:SdA X (e::es) wA)(hj:j≤ds.length:=by decide)(hws:(ds.drop j).map T.int=ws:=by rfl)
  (hdb:(x==("__debug__":Str))=false:=by decide) (he:starEach (e::es) X.env=(false,eval e X.env)::starEach es X.env:=by rfl) (hpl:(backTo pos (starEach es X.env)).any (·.1)=false:=by rfl):
  SdE X (.Call (.Name x p) (e::es) [] pos) (Z7 (wpc pr k) i (aApp ws wA)):=by
 subst hws
 obtain⟨t,p1,s⟩:=ha
 obtain⟨f,fd,G,⟨us,hv,hb⟩,hk,hm⟩:=Cc
 have hv2:Vals ((ds.drop j).map V.int) (us.drop j):=by
  rw[List.map_drop]
  exact Zmt hv j
 refine⟨_,Zp9 (dvs:=(ds.drop j).map V.int) G hr hg hm hk (hb j hj) hv2 pass0 p1 hdb he hpl,fun F H C σ τ Q Q' χ R S h q=>?_⟩
 refine s F H C σ τ _ _ χ R S h fun xs vs H1 C1 R1 t1 rs h1=>?_
 exact⟨F,C1,vs++(ds.drop j).map T.int,Q',χ,R1,rs.app (Zgl _),h1,QE.at q t1⟩
end WL
namespace PySem
open Sem (wp)
namespace F
theorem lz_entry_ga:entryFor table "zip.__getattribute__"=some Builtin.«object.__getattribute__»:=
 entryFor_alias (id':="object.__getattribute__") (by kernel_rfl) (by first | rfl | decide+kernel) (by decide+kernel) (by kernel_rfl)
theorem lz_getattr_none:typeLookup (.type "zip") "__getattr__"=pure none:=by rw[typeLookup_type,builtinLookup_eq_fast];kernel_rfl
theorem lz_keys_none:typeLookup (.type "zip") "keys"=pure none:=by rw[typeLookup_type,builtinLookup_eq_fast];kernel_rfl
end F
section
variable {z:Addr}
theorem Zuj (fs:Array Value)(u:Tok):
  Meets (Builtin.«object.__getattribute__» ⟨[.ref z,.str "keys" u],[]⟩) (fun A R s=>s.heap.get? z=some {cls:=.type "zip",dict:=none,data:=.fields fs,slots:=#[]}∧raisesAttr (.ref z) "keys" A R s):=
 Meets.of_wp fun prog w A R s hs=>by
  obtain⟨ho,hs⟩:=hs
  obtain⟨hp,g,d,tk,os⟩:=s
  have hT:(⟨hp,g,d,tk,os⟩:Shared).TypeIs (.ref z) "zip":=⟨_,ho,rfl⟩
  have f1:=F.lz_keys_none
  unfold Builtin.«object.__getattribute__»
  repeat (any_goals (first | assumption | wp_step))
  exact wpAny_raiseAttrError hs.1 hs.2 (attrMsg_fits (by decide+kernel) (by decide+kernel))
theorem Zxr {prog:Program}{w:World}{A:Around}{E:Value→Shared→Prop}{s:Shared}{fs:Array Value}{Q:Option Value→Shared→Prop}(ho:s.heap.get? z=some {cls:=.type "zip",dict:=none,data:=.fields fs,slots:=#[]})(hA:A.handled=none)
  (h:∀h' tk,(∀b ob,s.heap.get? b=some ob→h'.get? b=some ob)→Q none {s with heap:=h',toks:=tk}):wpAny (model prog w) A (getAttr? (.ref z) "keys") Q E s:=by
 obtain⟨hp,g,d,tk,os⟩:=s
 have hT:(⟨hp,g,d,tk,os⟩:Shared).TypeIs (.ref z) "zip":=⟨_,ho,rfl⟩
 have f1:=sub_AttributeError
 have f3:=F.slot_zip_getattribute.lookup
 have f4:=F.slot_zip_getattribute.bind (.ref z)
 have f5:=F.lz_getattr_none
 unfold getAttr? getAttrBy? getAttrBy
 repeat (any_goals (first | assumption | ((with_reducible show wpAny _ _ (call (Value.builtin "zip.__getattribute__") _ _) _ _ _);refine call_meets F.slot_zip_getattribute ⟨_,ho,rfl⟩ F.lz_entry_ga (F.args_zip_getattribute_2 _ _) (Zuj fs _) ⟨ho,hA,fun h' tk' e hx=>?_⟩) | wp_step))
 obtain⟨t',u',he⟩:=hx.there
 show wpAny _ _ (getattributeRaised _ _ _ _ _ _ _) _ _ _
 unfold getattributeRaised
 repeat (any_goals (first | assumption | wp_step))
 exact h h' tk' fun b ob q=>hx.keeps b ob q
end
end PySem
namespace L2
open PySem PySem.Spec PyProof.Rows
abbrev Zfg (h:Heap)(z TI TO T:Addr)(b:Bool):Prop:=
 h.get? z=some {cls:=.type "zip",dict:=none,data:=.fields #[rawInt T,.bool b,.bool false,.ref TI,.ref TO],slots:=#[]}
section
variable {prog:Program}{w:World}{A:Around}{E:Value→Shared→Prop}{s:Shared}{z TI TO i1 i2:Addr}{f1 f2:List Addr}{n:Nat}{P1 P2:Nat→Value→Prop}{S1 S2:Nat→Heap→Prop}
theorem Zq4 {M:Model}{a:Addr}{Q:Option Obj→Shared→Prop}(h:Q (s.heap.get? a) s):wpAny M A (loadIfAlive a) Q E s:=fun Γ p hΓ=>by
 unfold loadIfAlive
 rw[Sem.wp_loadIfAlive]
 exact(XB (M:=M) (A:=A) (E:=E) h) Γ p hΓ
theorem Zpy {T:Addr}{b:Bool}{Q:Bool→Shared→Prop}(hz:Zfg s.heap z TI TO T b)(hT:∃o,s.heap.get? T=some o)(hQ:∀h2,Zfg h2 z TI TO T true→Heap.SameBut z s.heap h2→Q false {s with heap:=h2}):
  wpAny (model prog w) A (Builtin.SmallTypes.ownedTupleIsFree (.ref z)) Q E s:=by
 obtain⟨oT,hoT⟩:=hT
 unfold Builtin.SmallTypes.ownedTupleIsFree
 refine XA (wpAny_field hz rfl (x:=rawInt T) rfl ?_)
 show wpAny _ _ (loadIfAlive (T:Int).toNat>>=_) _ _ s
 refine XA (Zq4 ?_)
 rw[Int.toNat_natCast,hoT]
 simp only[Option.isNone_some,Bool.false_eq_true,if_false]
 refine XA (wpAny_field hz rfl (x:=.bool b) rfl ?_)
 cases b with
 | false=>
  rw[XY (by decide)]
  refine wpAny_bind (wpAny_setField_rec hz (by simp) fun ha hza sa=>?_)
  exact XB (hQ ha hza sa)
 | true=>
  rw[XX (by decide)]
  exact XB (hQ s.heap hz (Heap.SameBut.refl _ _))
theorem Zwb {i:Nat}{T:Addr}{b:Bool}{u v:Value}{Q:Value→Shared→Prop}(D1:Draws prog w A i1 f1 n P1 S1)(D2:Draws prog w A i2 f2 n P2 S2)(Z:ZAp z TI TO i1 i2 f1 f2)(hi:i<n)
  (hz:Zfg s.heap z TI TO T b) (hT:∃o,s.heap.get? T=some o) (hTI:IsPair s.heap TI (.ref i1) (.ref i2)) (s1:S1 i s.heap) (s2:S2 i s.heap)
  (hQ:∀x y h2 t2 b,P1 i x→P2 i y→Zfg h2 z TI TO T b→S1 (i+1) h2→S2 (i+1) h2→IsPair h2 s.heap.objs.size x y→
   (∀c o,c≠z→c≠i1→c≠i2→s.heap.get? c=some o→h2.get? c=some o)→Q (.ref s.heap.objs.size) {s with heap:=h2,toks:=t2}):
  wpAny (model prog w) A (Builtin.«zip.__next__» ⟨[.ref z],[]⟩) (fun fin s2=>∃r,fin=.done (.ret r)∧Q r s2) E s:=by
 show wpAny _ _ (field (.ref z) 2>>=_) _ E s
 refine XA (wpAny_field hz rfl (x:=.bool false) rfl ?_)
 show wpAny _ _ (field (.ref z) 3>>=_) _ E s
 refine XA (wpAny_field hz rfl (x:=.ref TI) rfl ?_)
 refine XA (wpAny_seqItems hTI rfl ?_)
 show wpAny _ _ (Builtin.SmallTypes.ownedTupleIsFree (.ref z)>>=_) _ E s
 refine XA (Zpy hz hT fun ha hza sa=>?_)
 simp only[Bool.false_eq_true,if_false]
 have ne:∀{b c:Addr} {l:List Addr},b∈l→c∉l→b≠c:=fun hb hc e=>hc (e▸hb)
 have a1:S1 i ha:=D1.frame i _ _ s1 fun b hb o e=>sa.extBut _ _ (ne hb Z.z1) e
 have a2:S2 i ha:=D2.frame i _ _ s2 fun b hb o e=>sa.extBut _ _ (ne hb Z.z2) e
 have zi1:z≠i1:=fun e=>Z.z1 (e▸Z.m1)
 have zi2:z≠i2:=fun e=>Z.z2 (e▸Z.m2)
 rw[←Array.forIn_toList]
 simp only[List.forIn_cons,List.forIn_nil]
 refine XA (XA (XA (wpAny_holding ?_)))
 show wpAny _ _ (Builtin.SmallTypes.nextOf (.ref i1)>>=_) _ _ _
 refine XA (D1.item i {s with heap:=ha} _ _ hi a1 fun x hb tb hx b1 sb=>XB ?_)
 have b2:S2 i hb:=D2.frame i _ _ a2 fun b hm o e=>sb.extBut _ _ (ne hm Z.a12) e
 refine XB ?_
 refine XA (XA (wpAny_holding ?_))
 show wpAny _ _ (Builtin.SmallTypes.nextOf (.ref i2)>>=_) _ _ _
 refine XA (D2.item i {s with heap:=hb,toks:=tb} _ _ hi b2 fun y hd td hy d2 sd=>XB ?_)
 have d1:S1 (i+1) hd:=D1.frame _ _ _ b1 fun b hm o e=>sd.extBut _ _ (ne hm Z.a21) e
 refine XB ?_
 refine XB ?_
 refine XA (wpAny_newTuple ?_ (show(2:Nat)≤sizeLine by decide))
 have hsz:hd.objs.size=s.heap.objs.size:=by rw[sd.1,sb.1,sa.1]
 have hzd:Zfg hd z TI TO T true:=sd.extBut _ _ zi2 (sb.extBut _ _ zi1 hza)
 have up:∀c o,hd.get? c=some o→(hd.push {cls:=.type "tuple",data:=.seq #[x,y]}).get? c=some o:=fun c o e=>XC _ e
 refine XB ⟨_,rfl,?_⟩
 show Q (.ref hd.objs.size) _
 have hTn:IsPair (hd.push {cls:=.type "tuple",data:=.seq #[x,y]}) hd.objs.size x y:=XF _ rfl
 rw[hsz] at hTn ⊢
 exact hQ x y _ td true hx hy (up _ _ hzd) (D1.frame _ _ _ d1 fun b hm o e=>up _ o e) (D2.frame _ _ _ d2 fun b hm o e=>up _ o e) hTn fun c o n1 n3 n4 e=>up c o (sd.extBut _ _ n4 (sb.extBut _ _ n3 (sa.extBut _ _ n1 e)))
theorem Zzh {T:Addr}{b:Bool}{Q:Fin→Shared→Prop}(D1:Draws prog w A i1 f1 n P1 S1)(Z:ZAp z TI TO i1 i2 f1 f2)
  (hz:Zfg s.heap z TI TO T b) (hT:∃o,s.heap.get? T=some o) (hTI:IsPair s.heap TI (.ref i1) (.ref i2)) (s1:S1 n s.heap)
  (hE:∀h2 ex,(∀c o,c≠z→c≠i1→c≠i2→s.heap.get? c=some o→h2.get? c=some o)→(∃o,h2.get? ex=some o∧o.cls=.type "StopIteration")→E (.ref ex) {s with heap:=h2}):
  wpAny (model prog w) A (Builtin.«zip.__next__» ⟨[.ref z],[]⟩) Q E s:=by
 show wpAny _ _ (field (.ref z) 2>>=_) _ E s
 refine XA (wpAny_field hz rfl (x:=.bool false) rfl ?_)
 show wpAny _ _ (field (.ref z) 3>>=_) _ E s
 refine XA (wpAny_field hz rfl (x:=.ref TI) rfl ?_)
 refine XA (wpAny_seqItems hTI rfl ?_)
 show wpAny _ _ (Builtin.SmallTypes.ownedTupleIsFree (.ref z)>>=_) _ E s
 refine XA (Zpy hz hT fun ha hza sa=>?_)
 simp only[Bool.false_eq_true,if_false]
 have ne:∀{b c:Addr} {l:List Addr},b∈l→c∉l→b≠c:=fun hb hc e=>hc (e▸hb)
 have a1:S1 n ha:=D1.frame n _ _ s1 fun b hb o e=>sa.extBut _ _ (ne hb Z.z1) e
 rw[←Array.forIn_toList]
 simp only[List.forIn_cons,List.forIn_nil]
 refine XA (XA (XA (wpAny_holding ?_)))
 show wpAny _ _ (Builtin.SmallTypes.nextOf (.ref i1)>>=_) _ _ _
 refine XA (D1.done {s with heap:=ha} _ _ a1 fun hb ex sb he=>?_)
 exact hE hb ex (fun c o n1 n3 n4 e=>sb _ _ n3 (sa.extBut _ _ n1 e)) he
end
end L2
namespace PySem.F
theorem lz_entry_loop:entryFor table "dict.update.loop"=some Builtin.«dict.update.loop»:=entryFor_of_tree (by kernel_rfl)
end PySem.F
namespace L2
open PySem PySem.Spec PyProof.Rows
structure ZS (z TI TO i1 i2 l1 l2:Addr)(xs ys:Array Value)(i:Nat)(h:Heap):Prop where
 zip:IsZip h z TI TO .none∨∃T b,Zfg h z TI TO T b∧(∃o,h.get? T=some o)∧T≠z∧T≠TO∧T≠i1∧T≠i2
 its:IsPair h TI (.ref i1) (.ref i2)
 own:∃a b,IsPair h TO a b
 s1:h.IsTupleIter i1 l1 i∧h.IsTuple l1 xs
 s2:h.IsTupleIter i2 l2 i∧h.IsTuple l2 ys
theorem ZS.frame {z TI TO i1 i2 l1 l2:Addr}{xs ys:Array Value}{i:Nat}{h h':Heap}(Z:ZS z TI TO i1 i2 l1 l2 xs ys i h)(k:∀b∈[z,TI,TO,i1,i2,l1,l2],∀o,h.get? b=some o→h'.get? b=some o)(al:∀b,(∃o,h.get? b=some o)→∃o,h'.get? b=some o):ZS z TI TO i1 i2 l1 l2 xs ys i h':=by
 obtain⟨a,b,⟨u,v,c⟩,d,e⟩:=Z
 refine⟨?_,k _ (by simp) _ b,⟨u,v,k _ (by simp) _ c⟩,⟨d.1.at fun o q=>k _ (by simp) o q,d.2.at fun o q=>k _ (by simp) o q⟩,⟨e.1.at fun o q=>k _ (by simp) o q,e.2.at fun o q=>k _ (by simp) o q⟩⟩
 rcases a with a | ⟨T,b,a,hT,r⟩
 ·exact .inl (k _ (by simp) _ a)
 ·exact .inr ⟨T,b,k _ (by simp) _ a,al _ hT,r⟩
section
variable {prog:Program}{w:World}{A:Around}{E:Value→Shared→Prop}{s:Shared}{z TI TO i1 i2 l1 l2:Addr}{xs ys:Array Value}
theorem Zv7 {i:Nat}{Q:Option Value→Shared→Prop}(hh:A.handled=none)(Z:ZAp z TI TO i1 i2 [i1,l1] [i2,l2])(h1:l1≠i1)(h2:l2≠i2)(hn:xs.size=ys.size)(hi:i<xs.size)(st:ZS z TI TO i1 i2 l1 l2 xs ys i s.heap)
  (hQ:∀T x y h' tk,xs[i]?=some x→ys[i]?=some y→s.heap.objs.size≤T→IsPair h' T x y→ZS z TI TO i1 i2 l1 l2 xs ys (i+1) h'→(∀b o,b∉[z,TO,i1,i2]→s.heap.get? b=some o→h'.get? b=some o)→Q (some (.ref T)) {s with heap:=h',toks:=tk}):
  wpAny (model prog w) A (pyNext (.ref z)) Q E s:=by
 have D1:=Zaq (prog:=prog) (w:=w) (A:=A.in1) hh i1 l1 h1 xs
 have D2:=Zaq (prog:=prog) (w:=w) (A:=A.in1) hh i2 l2 h2 ys
 rw[←hn] at D2
 obtain⟨a,b,⟨u,v,c⟩,d,e⟩:=st
 have al:∀{h h':Heap},True:=fun {_ _}=>trivial
 have lt:∀{c o},s.heap.get? c=some o→s.heap.objs.size≠c:=fun e=>Nat.ne_of_gt (XD e)
 obtain⟨o1,l1'⟩:=D1.live _ _ d
 obtain⟨o2,l2'⟩:=D2.live _ _ e
 rcases a with a | ⟨T,bb,a,hT,t1,t2,t3,t4⟩
 ·have hTy:s.TypeIs (.ref z) "zip":=⟨_,a,rfl⟩
  unfold pyNext
  refine XA (wpAny_attempt (wpAny_callSpecial?_slot (name:=Str.ofString "__next__") hTy F.slot_zip_next (wpAny_call_entry F.slot_zip_next hTy F.entry_zip_next
   (Zpx D1 D2 Z hi a b c d e fun x y h2 t2 hx hy z1 z2 z3 z4 z5 z6=>XB ?_) (F.args_zip_next_1 _))))
  refine hQ _ x y h2 t2 hx hy (XE _) z5 ⟨.inr ⟨_,false,z1,⟨_,z5⟩,lt a,lt c,lt l1',lt l2'⟩,z6 _ _ Z.tz Z.io Z.t1 Z.t2 b,⟨_,_,z2⟩,z3,z4⟩ fun c o hc q=>?_
  simp only[List.mem_cons,List.not_mem_nil,or_false,not_or] at hc
  exact z6 c o hc.1 hc.2.1 hc.2.2.1 hc.2.2.2 q
 ·have hTy:s.TypeIs (.ref z) "zip":=⟨_,a,rfl⟩
  unfold pyNext
  refine XA (wpAny_attempt (wpAny_callSpecial?_slot (name:=Str.ofString "__next__") hTy F.slot_zip_next (wpAny_call_entry F.slot_zip_next hTy F.entry_zip_next
   (Zwb (u:=u) (v:=v) D1 D2 Z hi a hT b d e fun x y h2 tk b2 hx hy z1 z3 z4 z5 z6=>XB ?_) (F.args_zip_next_1 _))))
  obtain⟨oT,hoT⟩:=hT
  have Oi1:TO≠i1:=fun e=>Z.o1 (e▸Z.m1)
  have Oi2:TO≠i2:=fun e=>Z.o2 (e▸Z.m2)
  refine hQ _ x y h2 tk hx hy (XE _) z5 ⟨.inr ⟨T,b2,z1,⟨oT,z6 _ _ t1 t3 t4 hoT⟩,t1,t2,t3,t4⟩,z6 _ _ Z.tz Z.t1 Z.t2 b,⟨_,_,z6 _ _ Z.oz Oi1 Oi2 c⟩,z3,z4⟩ fun c o hc q=>?_
  simp only[List.mem_cons,List.not_mem_nil,or_false,not_or] at hc
  exact z6 c o hc.1 hc.2.2.1 hc.2.2.2 q
theorem Zzf {Q:Option Value→Shared→Prop}(hh:A.handled=none)(Z:ZAp z TI TO i1 i2 [i1,l1] [i2,l2])(h1:l1≠i1)(st:ZS z TI TO i1 i2 l1 l2 xs ys xs.size s.heap)
  (hQ:∀h' tk,(∀b o,b∉[z,TO,i1,i2]→s.heap.get? b=some o→h'.get? b=some o)→Q none {s with heap:=h',toks:=tk}):
  wpAny (model prog w) A (pyNext (.ref z)) Q E s:=by
 have D1:=Zaq (prog:=prog) (w:=w) (A:=A.in1) hh i1 l1 h1 xs
 obtain⟨a,b,⟨u,v,c⟩,d,e⟩:=st
 rcases a with a | ⟨T,bb,a,hT,t1,t2,t3,t4⟩
 ·have hTy:s.TypeIs (.ref z) "zip":=⟨_,a,rfl⟩
  unfold pyNext
  refine XA (wpAny_attempt (wpAny_callSpecial?_slot (name:=Str.ofString "__next__") hTy F.slot_zip_next (wpAny_call_entry F.slot_zip_next hTy F.entry_zip_next (Zse D1 Z a b c d fun h2 ex hk he=>?_) (F.args_zip_next_1 _))))
  obtain⟨o,ho,hc⟩:=he
  refine XA (wpAny_isInstance (T:="StopIteration") (b:=true) ⟨o,ho,hc⟩ isSubtype_stop ?_)
  refine XB (hQ h2 s.toks fun c o hc q=>?_)
  simp only[List.mem_cons,List.not_mem_nil,or_false,not_or] at hc
  exact hk c o hc.1 hc.2.1 hc.2.2.1 hc.2.2.2 q
 ·have hTy:s.TypeIs (.ref z) "zip":=⟨_,a,rfl⟩
  unfold pyNext
  refine XA (wpAny_attempt (wpAny_callSpecial?_slot (name:=Str.ofString "__next__") hTy F.slot_zip_next (wpAny_call_entry F.slot_zip_next hTy F.entry_zip_next (Zzh D1 Z a hT b d fun h2 ex hk he=>?_) (F.args_zip_next_1 _))))
  obtain⟨o,ho,hc⟩:=he
  refine XA (wpAny_isInstance (T:="StopIteration") (b:=true) ⟨o,ho,hc⟩ isSubtype_stop ?_)
  refine XB (hQ h2 s.toks fun c o hc q=>?_)
  simp only[List.mem_cons,List.not_mem_nil,or_false,not_or] at hc
  exact hk c o hc.1 hc.2.2.1 hc.2.2.2 q
theorem Zx8 {knd:KeyKind prog w Key}{d:Addr}(hh:A.handled=none)(Z:ZAp z TI TO i1 i2 [i1,l1] [i2,l2])(h1:l1≠i1)(h2:l2≠i2)(hn:xs.size=ys.size)(hd:d∉[z,TI,TO,i1,i2,l1,l2])(kk:Nat→Key)(hk:∀i x,xs[i]?=some x→knd.is (kk i) x=true)(hsz:xs.size≤1000)
  {R:Result→Shared→Prop} (h₀:Heap) (hlt:∀b o,h₀.get? b=some o→b≠d∧b∉[z,TO,i1,i2])
  (hR:∀h' tk vs,(∀b o,h₀.get? b=some o→h'.get? b=some o)→h'.DictOf knd d vs→vs=((List.range xs.size).foldl (fun a j=>stored a (kk j) ((ys[j]?).getD .none)) [])→R (.ok (.ret .none)) {s with heap:=h',toks:=tk}):
  ∀(m i:Nat) (h:Heap) (tk:Nat) (vs:List (Key×Value)),xs.size-i=m→i≤xs.size→ZS z TI TO i1 i2 l1 l2 xs ys i h→(∀b o,h₀.get? b=some o→h.get? b=some o)→h.DictOf knd d vs→vs.length≤i→vs=((List.range i).foldl (fun a j=>stored a (kk j) ((ys[j]?).getD .none)) [])→ 
   codeAny (model prog w) A (.builtin "dict.update.loop" ⟨[.ref d,.ref z,rawInt i,.none],[]⟩) R {s with heap:=h,toks:=tk}:=by
 intro m
 induction m with
 | zero=>
  intro i h tk vs hm hi st keep dd hl hv
  have ei:i=xs.size:=by omega
  subst ei
  refine codeAny_builtin PySem.F.lz_entry_loop ?_
  show wpAny _ _ (pyNext (.ref z)>>=_) _ _ _
  refine XA (Zzf (A:=A.under _) hh Z h1 st fun h' tk' kp=>?_)
  show wpAny _ _ (Builtin.Dict.addKeywords d []>>=_) _ _ _
  refine XA (XB (XB ?_))
  refine hR h' tk' vs (fun b o q=>kp b o (hlt b o q).2 (keep b o q)) (dd.at fun o q=>kp _ o ?_ q) hv
  intro hm
  exact hd (by simp only[ZM,ZN,or_false] at hm ⊢;rcases hm with h | h | h | h<;>simp[h])
 | succ m ih=>
  intro i h tk vs hm hi st keep dd hl hv
  refine codeAny_builtin PySem.F.lz_entry_loop ?_
  show wpAny _ _ (pyNext (.ref z)>>=_) _ _ _
  have hdw:d∉[z,TO,i1,i2]:=fun hm=>hd (by simp only[ZM,ZN,or_false] at hm ⊢;rcases hm with h | h | h | h<;>simp[h])
  refine XA (Zv7 (A:=A.under _) hh Z h1 h2 hn (by omega) st fun T x y h' tk' hx hy hT hp st' kp=>?_)
  have dd':h'.DictOf knd d vs:=dd.at fun o q=>kp _ o hdw q
  show wpAny _ _ (holding [.ref T] _>>=_) _ _ _
  refine XA (wpAny_holding ?_)
  refine XA (wpAny_tryCatch ?_)
  unfold Builtin.Dict.pairItems
  refine XA (wpAny_typeOf (T:="tuple") ⟨_,hp,rfl⟩ ?_)
  rw[XY (by decide)]
  refine XA (wpAny_seqItems hp rfl (XB ?_))
  show wpAny _ _ (holding [x,y] (dictSet d x y)) _ _ _
  refine wpAny_holding ?_
  unfold dictSet
  refine wpAny_holding (XA (knd.pyHash (hk i x hx) ?_))
  refine wpAny_dictSetHashed_pairs (hk i x hx) dd' (fun h2 dd2 sb=>?_) (XN (show vs.length≤1000 by omega) (by decide))
  refine XB ⟨Code.quiet_builtin _ (by decide+kernel),?_⟩
  have nd:∀b∈[z,TI,TO,i1,i2,l1,l2],b≠d:=fun b hb e=>hd (e▸hb)
  have ei:(rawInt ((i:Int)+1))=rawInt ((i+1:Nat):Int):=by congr 1
  rw[ei]
  refine ih (i+1) h2 _ (stored vs (kk i) y) (by omega) (by omega) (st'.frame (fun b hb o q=>sb.extBut _ _ (nd b hb) q) fun b hb=>?_) (fun b o q=>sb.extBut _ _ (hlt b o q).1 (kp b o (hlt b o q).2 (keep b o q))) dd2 ?_ ?_
  ·obtain⟨o,q⟩:=hb
   by_cases e:b=d
   ·subst e;obtain⟨o',_,_,q',_⟩:=dd2;exact⟨o',q'⟩
   ·exact⟨o,sb.extBut _ _ e q⟩
  ·unfold stored
   split
   ·rw[XI];omega
   ·rw[List.length_append,List.length_singleton];omega
  ·rw[List.range_succ,List.foldl_append,←hv]
   simp[hy]
theorem Zmj {knd:KeyKind prog w Key}{Q:Value→Shared→Prop}(hh:A.handled=none)(Z:ZAp z TI TO i1 i2 [i1,l1] [i2,l2])(h1:l1≠i1)(h2:l2≠i2)(hn:xs.size=ys.size)(kk:Nat→Key)(hk:∀i x,xs[i]?=some x→knd.is (kk i) x=true)(hsz:xs.size≤1000)
  (h₀:Heap) (hlt:∀b o,h₀.get? b=some o→b∉[z,TO,i1,i2]) (keep:∀b o,h₀.get? b=some o→s.heap.get? b=some o) (hz0:IsZip s.heap z TI TO .none) (st:ZS z TI TO i1 i2 l1 l2 xs ys 0 s.heap)
  (hQ:∀h' tk,(∀b o,h₀.get? b=some o→h'.get? b=some o)→h'.DictOf knd s.heap.objs.size ((List.range xs.size).foldl (fun a j=>stored a (kk j) ((ys[j]?).getD .none)) [])→Q (.ref s.heap.objs.size) {s with heap:=h',toks:=tk}):
  wpAny (model prog w) A (call (.type "dict") [.ref z]) Q E s:=by
 refine callType_codes (Q₁:=fun obj s₁=>obj=.ref s.heap.objs.size∧s₁={s with heap:=s.heap.push {cls:=.type "dict",data:=.dict #[]}}) PySem.F.kt_called_dict (PySem.F.kt_typeCall_dict_1 _) PySem.F.entry_dict_init (kt_code_dict_new _ ⟨rfl,rfl⟩) ?_
 rintro obj s₁ ⟨rfl,rfl⟩
 have hnew:(s.heap.push {cls:=.type "dict",data:=.dict #[]}).DictOf knd s.heap.objs.size []:=Heap.DictOf.new s.heap
 have hps:∀b o,s.heap.get? b=some o→(s.heap.push {cls:=.type "dict",data:=.dict #[]}).get? b=some o:=fun b o q=>XC _ q
 have st1:ZS z TI TO i1 i2 l1 l2 xs ys 0 (s.heap.push {cls:=.type "dict",data:=.dict #[]}):=st.frame (fun b _ o q=>hps b o q) fun b ⟨o,q⟩=>⟨o,hps b o q⟩
 refine⟨hnew.typeIs,PySem.F.args_dict_init_2 _ _,?_⟩
 unfold Builtin.«dict.__init__»
 refine XA ?_
 unfold Builtin.Dict.selfAndRest
 refine XA (wpAny_notOrdered_dict hnew.typeIs ?_)
 show wpAny _ _ (pure (s.heap.objs.size,[Value.ref z])) _ _ _
 refine XB ?_
 show wpAny _ _ (Builtin.Dict.updateFrom "dict.__init__" s.heap.objs.size (.ref z) [] .none) _ _ _
 have hz:=hps _ _ hz0
 unfold Builtin.Dict.updateFrom
 refine XA (wpAny_typeOf (T:="zip") ⟨_,hz,rfl⟩ ?_)
 rw[XY (by decide)]
 refine XA (Zxr hz hh fun h' tk' kp=>?_)
 rw[XY (by decide)]
 have st2:ZS z TI TO i1 i2 l1 l2 xs ys 0 h':=st1.frame (fun b _ o q=>kp b o q) fun b ⟨o,q⟩=>⟨o,kp b o q⟩
 refine XA (wpAny_rule ?_)
 refine XA (wpAny_pyIter_zip (kp _ _ hz) ?_)
 refine XB ⟨Code.quiet_builtin _ (by decide+kernel),?_⟩
 have sd:∀b o,s.heap.get? b=some o→b≠s.heap.objs.size:=fun b o q=>XH (XD q)
 have hd:s.heap.objs.size∉[z,TI,TO,i1,i2,l1,l2]:=by
  obtain⟨_,b,⟨u,v,c⟩,d,e⟩:=st
  obtain⟨o1,e1,_⟩:=d.1
  obtain⟨o2,e2,_⟩:=e.1
  obtain⟨o3,e3,_⟩:=d.2
  obtain⟨o4,e4,_⟩:=e.2
  simp only[List.mem_cons,List.not_mem_nil,or_false,not_or]
  exact⟨(sd _ _ hz0).symm,(sd _ _ b).symm,(sd _ _ c).symm,(sd _ _ e1).symm,(sd _ _ e2).symm,(sd _ _ e3).symm,(sd _ _ e4).symm⟩
 refine Zx8 (A:=A.in1) (s:=s) (knd:=knd) hh Z h1 h2 hn hd kk hk hsz h₀ (fun b o q=>⟨sd b o (keep b o q),hlt b o q⟩) (fun h3 tk3 vs k3 d3 hv=>?_) xs.size 0 h' tk' [] rfl (XO _) st2 (fun b o q=>kp b o (hps b o (keep b o q))) (hnew.at fun o q=>kp _ o q) (XE _) rfl
 subst hv
 exact⟨rfl,hQ h3 tk3 k3 d3⟩
end
def dzK {α:Type}(put:List (Key×α)→Key→α→List (Key×α))(ks:List Key)(ys:List α):List (Key×α):=(ks.zip ys).foldl (fun a kv=>put a kv.1 kv.2) []
theorem Z1w {α:Type}{put:List (Key×α)→Key→α→List (Key×α)}(hp:∀a k v,(put a k v).length≤a.length+1)(ks:List Key)(ys:List α):(dzK put ks ys).length≤ks.length:=by
 have key:∀(l:List (Key×α)) (acc:List (Key×α)),(l.foldl (fun a kv=>put a kv.1 kv.2) acc).length≤acc.length+l.length:=by
  intro l
  induction l with
  | nil=>intro acc;simp
  | cons x l ih=>intro acc;have h1:=ih (put acc x.1 x.2);have h2:=hp acc x.1 x.2;rw[List.foldl_cons,YF];omega
 have h:=key (ks.zip ys) []
 rw[List.length_zip] at h
 unfold dzK
 simp only[List.length_nil] at h
 omega
def tDz (K:W.Frag)(ta:TA):TE:=fun σ H Q=>ta σ H fun vs H1=>∃(l1 l2:Addr) (ks:List Key) (ys:List V),vs=[.ref l1,.ref l2]∧SqT K H1 l1 (ks.map kV)∧SqT K H1 l2 ys∧ks.length=ys.length∧ks.length≤1000∧
 ∀p,H1 p=none→Q (.ref p) (upd H1 p (.dK (dzK putK ks ys)))
theorem dz_kv {ks:List Key}{ys:List V}{us:List Value}(hl:ks.length=ys.length)(rv:Vals ys us):KV (dzK putK ks ys) ((List.range ks.length).foldl (fun a j=>stored a ((ks[j]?).getD (.inl 0)) ((us.toArray[j]?).getD .none)) []):=by
 have key:∀i,i≤ks.length→KV (((ks.zip ys).take i).foldl (fun a kv=>putK a kv.1 kv.2) []) ((List.range i).foldl (fun a j=>stored a ((ks[j]?).getD (.inl 0)) ((us.toArray[j]?).getD .none)) []):=by
  intro i
  induction i with
  | zero=>intro _;exact .nil
  | succ i ih=>
   intro hi
   have hk:ks[i]?=some ks[i]:=by simp[show i<ks.length by omega]
   have hy:ys[i]?=some (ys[i]'(by omega)):=by simp[show i<ys.length by omega]
   obtain⟨u,hu,ru⟩:=rv.get hy
   have hz:(ks.zip ys)[i]?=some (ks[i],ys[i]'(by omega)):=by rw[List.getElem?_zip_eq_some];exact⟨hk,hy⟩
   have hu':us.toArray[i]?=some u:=by simpa using hu
   rw[List.range_succ,List.foldl_append,YD,hz,Option.toList_some,List.foldl_append]
   simp only[List.foldl_cons,List.foldl_nil,hk,hu',Option.getD_some]
   exact(ih (by omega)).put _ ru
 have h:=key ks.length (XE _)
 rw[List.take_of_length_le (by rw[List.length_zip];omega)] at h
 exact h
section
variable {X:Cx}
theorem Zo0 {a c:Expr}{ta:TA}{p pos p2 pos2:Pos}(hc:X.calm=true)(hg:Gl X "dict")(hm:X.mg "dict"=none)(hg2:Gl X "zip")(hm2:X.mg "zip"=none)(ha:PA X [a,c] ta)(hs:starEach [a,c] X.env=(false,eval a X.env)::starEach [c] X.env:=by rfl)(hp:(backTo pos2 (starEach [c] X.env)).any (·.1)=false:=by rfl)
  (hs2:starEach [.Call (.Name "zip" p2) [a,c] [] pos2] X.env=[(false,eval (.Call (.Name "zip" p2) [a,c] [] pos2) X.env)]:=by rfl) (hb:bootBuiltins "zip"=some (.type "zip"):=by decide+kernel) (hb2:bootBuiltins "dict"=some (.type "dict"):=by decide+kernel):
  PE X (.Call (.Name "dict" p) [.Call (.Name "zip" p2) [a,c] [] pos2] [] pos) (tDz X.K ta):=by
 intro pins s σ H Q I h
 refine Call_ (Zb6 I hg hm hb2 (PyProof.Rows.callWith_type1 ?_ hs2 rfl))
 rw[hs2]
 show wpAny _ _ (spliced ((false,eval (.Call (.Name "zip" p2) [a,c] [] pos2) X.env)::backTo pos [])) _ _ s
 refine Calls.spliced_cons (Call_ (Zb6 I hg2 hm2 hb (PyProof.Rows.callWith_type1 (thn (ha pos2 pins s σ H _ I h) fun us s1 ⟨vs,H1,I1,r1,q1⟩=>?_) hs hp)))
 obtain⟨l1,l2,ks,ys,rfl,hq1,hq2,hlen,hsz,q⟩:=q1
 obtain⟨u,v,rfl,ru,rv⟩:=r1.two
 cases ru
 cases rv
 obtain⟨its1,rv1,p1,_⟩:=I1.tuple hq1
 obtain⟨its2,rv2,p2',_⟩:=I1.tuple hq2
 have lt1:l1<s1.heap.objs.size:=by obtain⟨_,e,_⟩:=p1;exact XD e
 have lt2:l2<s1.heap.objs.size:=by obtain⟨_,e,_⟩:=p2';exact XD e
 have n1:its1.toArray.size=ks.length:=by rw[XJ,←rv1.length,XI]
 have n2:its2.toArray.size=ys.length:=by rw[XJ,←rv2.length]
 refine Zhe p1 p2' fun h2 N=>?_
 refine Calls.spliced_nil ?_
 generalize hk:s1.heap.objs.size=k at N lt1 lt2
 have Z:=Zk1 lt1 lt2
 have st:ZS (k+4) (k+2) (k+3) k (k+1) l1 l2 its1.toArray its2.toArray 0 h2:=by
  refine⟨.inl (hk▸N.zip),hk▸N.its,⟨_,_,hk▸N.own⟩,⟨⟨_,hk▸N.i1,rfl,rfl⟩,Heap.IsTuple.at (show s1.heap.IsTuple l1 its1.toArray from p1) fun o q=>N.keep _ o q⟩,⟨⟨_,hk▸N.i2,rfl,rfl⟩,Heap.IsTuple.at (show s1.heap.IsTuple l2 its2.toArray from p2') fun o q=>N.keep _ o q⟩⟩
 have hkk:∀i x,its1.toArray[i]?=some x→(Y9 X.prog X.w).is ((ks[i]?).getD (.inl 0)) x=true:=fun i x hx=>by
  have hi:i<ks.length:=by
   have:=(Array.getElem?_eq_some_iff.mp hx).1
   omega
  have hk':ks[i]?=some ks[i]:=by simp[hi]
  have hm':(ks.map kV)[i]?=some (kV ks[i]):=by rw[XM,hk'];rfl
  obtain⟨u,hu,ru⟩:=rv1.get hm'
  have:u=x:=by
   have e:its1[i]?=some x:=by simpa using hx
   rw[hu] at e;exact YH e
  subst this
  rw[hk']
  exact Zez ru
 have old:∀b o,s1.heap.get? b=some o→b∉[k+4,k+3,k,k+1]:=fun b o q hb=>by
  have:b<k:=hk▸XD q
  simp only[ZM,ZN,or_false] at hb
  rcases hb with e | e | e | e
  ·rw[e] at this;exact Nat.not_lt_of_le (Nat.le_add_right k 4) this
  ·rw[e] at this;exact Nat.not_lt_of_le (Nat.le_add_right k 3) this
  ·rw[e] at this;exact Nat.lt_irrefl k this
  ·rw[e] at this;exact Nat.not_lt_of_le (Nat.le_add_right k 1) this
 refine Zmj (s:={s1 with heap:=h2}) (knd:=Y9 X.prog X.w) (I.ok.hd hc) Z (XH lt1) (XH (Nat.lt_succ_of_lt lt2)) (by omega) (fun j=>(ks[j]?).getD (.inl 0)) hkk (by omega) s1.heap old N.keep (hk▸N.zip) st fun h3 tk3 keep dd=>?_
 have hp3:s1.heap.objs.size≤h2.objs.size:=by
  have:=XD (hk▸N.zip:IsZip h2 (k+4) (k+2) (k+3) .none)
  rw[hk];exact XN (Nat.le_add_right _ _) (Nat.le_of_lt this)
 rw[n1] at dd
 have big:(h2.objs.size==sysModules)=false:=beq_eq_false_iff_ne.mpr (Ne.symm (XH (XG I1.big hp3)))
 have zl:(dzK putK ks ys).length≤sizeLine:=by
  have:=Z1w (α:=V) (put:=putK) (fun a k v=>by unfold putK;split<;>simp) ks ys
  exact XN (XN this hsz) (by decide)
 exact⟨.ref _,_,I1.laid (h':=h3) (t':=tk3) keep hp3 (Zjc zl big (dz_kv hlen rv2) dd),rfl,q _ (I1.hok.fresh hp3)⟩
end
end L2
namespace WL
open PySem PySem.Spec PyProof.Rows L2
def eDz (a:WA):WE:=fun τ C Q χ=>a τ C (fun vs C1=>∃(zs:List Str) (ts:List T),vs=[.tup (zs.map T.str),.tup ts]∧zs.length=ts.length∧zs.length≤1000∧∀p,C1 p=none→Q (.ref p) (up C1 p (.dic (dzK putT (zs.map Sum.inr) ts)))) χ
theorem Zke {K:W.Frag}{H:Hp}:∀{zs:List Str} {ys:List V},Reps K H ys (zs.map T.str)→ys=(zs.map (Sum.inr:Str→Key)).map kV
 | [],_,h=>by rw[Zan h];rfl
 | z::zs,_,h=>by obtain⟨y,r,rfl,a,b⟩:=Jp h;rw[Jo a,Zke b];rfl
theorem pr_dz {K:W.Frag}{H:Hp}{ks:List Key}{ys:List V}{ts:List T}(r:Reps K H ys ts):PR K H (dzK putK ks ys) (dzK putT ks ts):=by
 unfold dzK
 have key:∀(ks:List Key) (ys:List V) (ts:List T) (a:List (Key×V)) (b:List (Key×T)),Reps K H ys ts→PR K H a b→PR K H ((ks.zip ys).foldl (fun a kv=>putK a kv.1 kv.2) a) ((ks.zip ts).foldl (fun a kv=>putT a kv.1 kv.2) b):=by
  intro ks
  induction ks with
  | nil=>intro ys ts a b r h;exact h
  | cons k ks ih=>
   intro ys ts a b r h
   cases ts with
   | nil=>rw[Zan r];exact h
   | cons t ts=>
    obtain⟨y,r',rfl,q,q'⟩:=Jp r
    simp only[List.zip_cons_cons,List.foldl_cons]
    exact ih _ _ _ _ q' (PR.put h q)
 exact key ks ys ts [] [] r .nil
section
variable {X:Cx}{a c:Expr}{wA:WA}{p pos p2 pos2:Pos}
theorem d_dz (hc:X.calm=true)(hg:Gl X "dict")(hm:X.mg "dict"=none)(hg2:Gl X "zip")(hm2:X.mg "zip"=none)(ha:SdA X [a,c] wA)(hs:starEach [a,c] X.env=(false,eval a X.env)::starEach [c] X.env:=by rfl)(hp:(backTo pos2 (starEach [c] X.env)).any (·.1)=false:=by rfl)
  (hs2:starEach [.Call (.Name "zip" p2) [a,c] [] pos2] X.env=[(false,eval (.Call (.Name "zip" p2) [a,c] [] pos2) X.env)]:=by rfl):SdE X (.Call (.Name "dict" p) [.Call (.Name "zip" p2) [a,c] [] pos2] [] pos) (eDz wA):=by
 obtain⟨t,p1,s⟩:=ha
 refine⟨_,Zo0 hc hg hm hg2 hm2 p1 hs hp hs2,fun F H C σ τ Q Q' χ R S h q=>?_⟩
 refine s F H C σ τ _ _ χ R S h fun xs vs H1 C1 R1 t1 rs h1=>?_
 obtain⟨zs,ts,rfl,hl,hz,h1⟩:=h1
 obtain⟨x1,r1,rfl,q1,rs⟩:=Jp rs
 obtain⟨x2,r2,rfl,q2,rs⟩:=Jp rs
 cases Zan rs
 obtain⟨a1,ys1,rfl,sq1,e1⟩:=Yf q1
 obtain⟨a2,ys2,rfl,sq2,e2⟩:=Yf q2
 cases Zke e1
 refine⟨a1,a2,zs.map Sum.inr,ys2,rfl,sq1,sq2,by rw[XI,e2.length];exact hl,by rw[XI];exact hz,fun pp hpp=>?_⟩
 have tn:Tx H1 (upd H1 pp (.dK (dzK putK (zs.map Sum.inr) ys2))):=Tx.new hpp
 exact q _ _ _ _ (R1.new (o:=.dic (dzK putT (zs.map Sum.inr) ts)) hpp ⟨_,Yh,Zih tn (pr_dz e2)⟩) (t1.trans tn) J0 (h1 pp (R1.free hpp))
end
end WL
namespace L2
open PySem PySem.Spec PyProof.Rows
section
variable {X:Cx}
def tFv (te:TE):TE:=fun σ H Q=>te σ H fun x H1=>(∃z:Str,x=.str z∧z.length≤sizeLine∧Q (.str z) H1)∨∃i:Int,x=.int i∧i.natAbs.log2<1920∧Q (.str (toString i)) H1
theorem pe_fv {e:Expr}{te:TE}{pos:Pos}(h:PE X e te):PE X (.FormattedValue e (-1) none pos) (tFv te):=by
 intro pins s σ H Q I q
 refine FormattedValue_plain (thn (h pins s σ H _ I q) fun u s1 ⟨x,H1,I1,rx,q1⟩=>?_)
 rcases q1 with⟨z,rfl,hz,q1⟩ | ⟨i,rfl,hi,q1⟩
 ·obtain⟨t,rfl⟩:=rx
  exact formatField_str (fun t' tk=>⟨.str z,H1,I1.tok _,⟨t',rfl⟩,q1⟩) hz
 ·obtain⟨t,rfl⟩:=rx
  exact formatField_int_small hi ⟨.str (toString i),H1,I1.tok _,⟨_,rfl⟩,q1⟩
def tJ:List TE→Str→TE
 | [],out=>fun _ H Q=>Q (.str out) H
 | t::ts,out=>fun σ H Q=>t σ H fun x H1=>∃z:Str,x=.str z∧(out++z).length≤sizeLine∧tJ ts (out++z) σ H1 Q
inductive PEs (X:Cx):List Expr→List TE→Prop
 | nil:PEs X [] []
 | cons {e:Expr} {es:List Expr} {t:TE} {ts:List TE} (h:PE X e t) (r:PEs X es ts):PEs X (e::es) (t::ts)
theorem pj {es:List Expr}{ts:List TE}(h:PEs X es ts):∀{pins:List (Addr×Obj)} {s:Shared} {σ:St} {H:Hp} {Q:VK} {out:Str},out.length≤sizeLine→Inv X pins σ H s→tJ ts out σ H Q→wpAny (model X.prog X.w) X.A (joinParts out (evalEach es X.env)) (EP X pins σ Q) X.xe s:=by
 induction h with
 | nil=>
  intro pins s σ H Q out ho I q
  exact joinParts_nil ⟨.str out,H,I.tok _,⟨_,rfl⟩,q⟩ ho
 | @cons e es t ts h r ih=>
  intro pins s σ H Q out ho I q
  show wpAny _ _ (joinParts out (eval e X.env::evalEach es X.env)) _ _ s
  refine joinParts_cons (thn (h pins s σ H _ I q) fun u s1 ⟨x,H1,I1,rx,z,ex,hz,q1⟩=>?_)
  subst ex
  obtain⟨t',rfl⟩:=rx
  exact⟨hz,ih hz I1 q1⟩
theorem Zrk {v1 v2:Expr}{rest:List Expr}{ts:List TE}{pos:Pos}(h:PEs X (v1::v2::rest) ts):PE X (.JoinedStr (v1::v2::rest) pos) (tJ ts Str.empty):=by
 intro pins s σ H Q I q
 exact JoinedStr_many (pj h (XO _) I q)
end
end L2
namespace WL
open PySem PySem.Spec PyProof.Rows L2
def eFv (e:WE):WE:=fun τ C Q χ=>e τ C (fun x C1=>(∃z:Str,x=.str z∧z.length≤sizeLine∧Q (.str z) C1)∨∃i:Int,x=.int i∧i.natAbs.log2<1920∧Q (.str (toString i)) C1) χ
def eJ:List WE→Str→WE
 | [],out=>fun _ C Q _=>Q (.str out) C
 | w::ws,out=>fun τ C Q χ=>w τ C (fun v C1=>∃z:Str,v=.str z∧(out++z).length≤sizeLine∧eJ ws (out++z) τ C1 Q χ) χ
section
variable {X:Cx}{e k v:Expr}{we wk wv:WE}{pos:Pos}
theorem d_fv (he:SdE X e we):SdE X (.FormattedValue e (-1) none pos) (eFv we):=by
 obtain⟨t,p,s⟩:=he
 refine⟨_,pe_fv p,fun F H C σ τ Q Q' χ R S h q=>?_⟩
 refine s F H C σ τ _ _ χ R S h fun x u H1 C1 R1 t1 rx h1=>?_
 rcases h1 with⟨z,rfl,hz,h1⟩ | ⟨i,rfl,hi,h1⟩
 ·cases Jo rx
  exact .inl ⟨z,rfl,hz,q _ _ H1 C1 R1 t1 J2 h1⟩
 ·cases Yg rx
  exact .inr ⟨i,rfl,hi,q _ _ H1 C1 R1 t1 J2 h1⟩
def SdJ (X:Cx)(es:List Expr)(ws:List WE):Prop:=∃ts,PEs X es ts∧∀(out:Str),SimE X.K (tJ ts out) (eJ ws out)
theorem Z1z:SdJ X [] []:=⟨[],.nil,fun out F H C σ τ Q Q' χ R S h q=>q _ _ H C R (Tx.refl H) J2 h⟩
theorem Zl8 {es:List Expr}{ws:List WE}(he:SdE X e we)(hr:SdJ X es ws):SdJ X (e::es) (we::ws):=by
 obtain⟨t,p,s⟩:=he
 obtain⟨ts,ps,ss⟩:=hr
 refine⟨t::ts,.cons p ps,fun out F H C σ τ Q Q' χ R S h q=>?_⟩
 refine s F H C σ τ _ _ χ R S h fun x u H1 C1 R1 t1 rx h1=>?_
 obtain⟨z,rfl,hz,h1⟩:=h1
 cases Jo rx
 exact⟨z,rfl,hz,ss (out++z) F H1 C1 σ τ _ _ χ R1 (S.tx t1) h1 (QE.at q t1)⟩
theorem Zvs {v1 v2:Expr}{rest:List Expr}{ws:List WE}(h:SdJ X (v1::v2::rest) ws):SdE X (.JoinedStr (v1::v2::rest) pos) (eJ ws Str.empty):=by
 obtain⟨ts,ps,ss⟩:=h
 exact⟨_,Zrk ps,ss _⟩
def Zvi (k v:WE):WE:=fun τ C Q χ=>∀p,C p=none→k τ (up C p (.dic [])) (fun x C1=>v τ C1 (fun y C2=>∃kk,kT x=some kk∧C2 p=some (.dic [])∧Q (.ref p) (up C2 p (.dic [(kk,y)]))) χ) χ
theorem Zyg (hk:SdE X k wk)(hv:SdE X v wv):SdE X (.Dict [some k] [v] pos) (Zvi wk wv):=by
 obtain⟨tk,p1,s1⟩:=hk
 obtain⟨tv,p2,s2⟩:=hv
 refine⟨_,Zxd (Ztq p1 p2 Zw7) rfl rfl (by simp) (by simp),fun F H C σ τ Q Q' χ R S h q=>?_⟩
 intro p hp
 have tn:Tx H (upd H p (.dK [])):=Tx.new hp
 have R0:Rl X.K F (upd H p (.dK [])) (up C p (.dic [])):=R.new hp ⟨[],Yh,.nil⟩
 refine s1 F _ _ σ τ _ _ χ R0 (S.tx tn) (h p (R.free hp)) fun x u H1 C1 R1 t1 rx h1=>?_
 refine s2 F H1 C1 σ τ _ _ χ R1 (S.tx (tn.trans t1)) h1 fun y u2 H2 C2 R2 t2 ry h2=>?_
 obtain⟨kk,hk,hC,h2⟩:=h2
 obtain⟨ks,hH,pr⟩:=R2.dic hC
 cases pr
 have ex:x=kV kk:=Zd6 hk rx
 subst ex
 have tp:Tx H2 (upd H2 p (.dK [(kk,y)])):=Tx.put hH (fun z=>z)
 obtain⟨R3,t3⟩:=R2.put (u:=.dK [(kk,y)]) (o':=.dic [(kk,u2)]) hC ⟨_,Yh,.cons ⟨rfl,ry.tx tp⟩ .nil⟩
 exact⟨hH,[(kk,y)],rfl,by simp,q _ _ _ _ R3 (((tn.trans t1).trans t2).trans t3) J0 h2⟩
end
end WL
namespace L2
open PySem PySem.Spec PyProof.Rows
section
variable {X:Cx}
end
end L2
namespace WL
open PySem PySem.Spec PyProof.Rows L2
section
variable {X:Cx}
end
end WL
namespace L2
open PySem PySem.Spec PyProof.Rows
open AutoSeq1 (wpAny_loadPart')
theorem Znj (l:Addr)(items:Array Value)(t:Tok):
  Meets (Builtin.«enumerate.__new__» ⟨[.type "enumerate",.ref l],[("start",.int 1 t)]⟩) (fun _ R s=>s.heap.IsTuple l items∧
   R (.ok (.ret (.ref (s.heap.push {cls:=.type "tuple_iterator",data:=.fields #[.ref l,.int 0 0]}).objs.size)))
    {s with heap:=(s.heap.push {cls:=.type "tuple_iterator",data:=.fields #[.ref l,.int 0 0]}).push {cls:=.type "enumerate",data:=.fields #[.none,.bool false,.ref s.heap.objs.size,rawInt 1,.none,.none]}}):=
 .of_wp fun prog w A R s h=>by
  obtain⟨hp,g,d,tk,os⟩:=s;obtain⟨hL,h⟩:=h
  have hsub:=sub_enumerate
  wp_walk
  refine wpAny_stack_any fun st=>XB ?_
  split
  ·rename_i c _ _ _ _ _
   cases (c==Value.type "enumerate")
   ·wp_walk using wpAny_pyIter_tuple hL
    exact⟨_,rfl,h⟩
   ·wp_walk using wpAny_pyIter_tuple hL
    exact⟨_,rfl,h⟩
  ·wp_walk using wpAny_pyIter_tuple hL
   exact⟨_,rfl,h⟩
theorem Zvv (a:Value)(t:Tok):checkTypeCall "enumerate" ⟨[a],[("start",.int 1 t)]⟩=pure ():=by kernel_rfl
theorem Zvw (a:Value)(t:Tok):checkBuiltinCall "enumerate.__new__" ⟨[.type "enumerate",a],[("start",.int 1 t)]⟩=pure ():=by kernel_rfl
theorem Zpi {self a:Value}{t:Tok}:Meets (Builtin.«object.__init__» ⟨[self,a],[("start",.int 1 t)]⟩) (fun _ R s=>s.TypeIs self "enumerate"∧R (.ok (.ret .none)) s):=by
 refine Meets.of_wp fun prog w A R s hs=>?_
 obtain⟨hT,hq⟩:=hs
 have hl:=F.called_enumerate.init.lookup
 have hm:=F.called_enumerate.made
 have hne:(some "enumerate.__new__" !=some "object.__new__")=true:=by decide
 repeat (any_goals (first | assumption | wp_step))
 exact⟨_,rfl,hq⟩
section
variable {prog:Program}{w:World}{A:Around}{E:Value→Shared→Prop}{s:Shared}
theorem Zv3 (obj a:Value)(t:Tok):argsOk "object.__init__" ⟨[obj,a],[("start",.int 1 t)]⟩:=by
 unfold argsOk;rw[signature?_of (id:="object.__init__") (n:=['_','_','t','i','n','i','_','_']) (o:=['t','c','e','j','b','o']) (by kernel_rfl) F.owner_object];kernel_rfl
theorem Zof {a:Value}{t:Tok}{S:PySem.Spec}{Q:Value→Shared→Prop}(g:Meets (Builtin.«enumerate.__new__» ⟨[.type "enumerate",a],[("start",.int 1 t)]⟩) S)
  (h:S A.in1 (wants (fun obj s₁=>s₁.TypeIs obj "enumerate"∧Q obj s₁) E) s):wpAny (model prog w) A (call (.type "enumerate") [a] [("start",.int 1 t)]) Q E s:=by
 have ft:=F.called_enumerate
 obtain⟨c,tl,hmro⟩:=ft.mro
 have hmade:=ft.made
 have hsub:=ft.sub
 have hct:=Zvv a t
 refine wpAny_call (codeAny_of_tree ?_)
 show wpAny _ _ (callAny (.type "enumerate") _) _ _ _
 refine XB ⟨Code.quiet_builtin _ (by decide+kernel),codeAny_builtin F.entry_type_call ?_⟩
 rw[Around.under_plain (weight_type_call_type "enumerate" [a] [("start",.int 1 t)]) (units_type_call_type "enumerate" [a] [("start",.int 1 t)])]
 have h1:=ft.notType
 have h2:=ft.canCreate
 repeat (any_goals (first | assumption | wp_step))
 refine codeAny_mono (codeAny_call_builtin ft.plain F.entry_enumerate_new (wpAny_of_eq (Zvw a t) (g prog w A.in1 _ s h))) fun r s₁ hr=>?_
 cases r with
 | error e=>exact hr
 | ok fl=>
  cases fl with
  | ret obj=>
   have hT:=hr.1
   have hli:=ft.init.lookup
   have hbi:=ft.init.bind obj
   repeat (any_goals (first | assumption | wp_step))
   refine codeAny_mono (codeAny_call_builtin ft.init.plain F.entry_object_init (ft.init.check _ _ _ _ _ _ _ _ hT (Zv3 obj a t) (Zpi prog w A.in1 (wants (fun r s₂=>r=.none∧Q obj s₂) E) s₁ ⟨hT,rfl,hr.2⟩))) fun r₂ s₂ hr₂=>?_
   cases r₂ with
   | error e=>exact hr₂
   | ok fl₂=>
    cases fl₂ with
    | ret r=>
     obtain⟨rfl,hq⟩:=hr₂
     repeat (any_goals (first | assumption | wp_step))
    | _=>exact hr₂.elim
  | _=>exact hr.elim
theorem Zpt {l:Addr}{items:Array Value}{t:Tok}{Q:Value→Shared→Prop}(hL:s.heap.IsTuple l items)
  (h:∀h',IsEnum h' (s.heap.objs.size+1) s.heap.objs.size 1 .none→h'.IsTupleIter s.heap.objs.size l 0→h'.objs.size=s.heap.objs.size+2→
   (∀b o,s.heap.get? b=some o→h'.get? b=some o)→Q (.ref (s.heap.objs.size+1)) {s with heap:=h'}):
  wpAny (model prog w) A (call (.type "enumerate") [.ref l] [("start",.int 1 t)]) Q E s:=by
 refine Zof (Znj l items t) ⟨hL,?_⟩
 have hz:(s.heap.push {cls:=.type "tuple_iterator",data:=.fields #[.ref l,.int 0 0]}).objs.size=s.heap.objs.size+1:=Heap.size_push ..
 show _∧_
 rw[hz]
 have he:IsEnum ((s.heap.push {cls:=.type "tuple_iterator",data:=.fields #[.ref l,.int 0 0]}).push
   {cls:=.type "enumerate",data:=.fields #[.none,.bool false,.ref s.heap.objs.size,rawInt 1,.none,.none]}) (s.heap.objs.size+1) s.heap.objs.size 1 .none:=by
  have:=XF (s.heap.push {cls:=.type "tuple_iterator",data:=.fields #[.ref l,.int 0 0]})
   (o:={cls:=.type "enumerate",data:=.fields #[.none,.bool false,.ref s.heap.objs.size,rawInt 1,.none,.none]}) rfl
  rw[hz] at this;exact this
 refine⟨⟨_,he,rfl⟩,h _ he ⟨_,XC _ (XF _ rfl),rfl,rfl⟩ (by rw[Heap.size_push,hz]) fun b o x=>XC _ (XC _ x)⟩
theorem Zn5 {it:Addr}{fp:List Addr}{n:Nat}{P:Nat→Value→Prop}{St:Nat→Heap→Prop}(D:Draws prog w A it fp n P St):
  Draws prog w A it fp (n+1) (fun i v=>∃j,i=j+1∧P j v) (fun i h=>∃j,i=j+1∧St j h) where
 live:=fun _ _ ⟨_,_,st⟩=>D.live _ _ st
 frame:=fun _ _ _ ⟨j,e,st⟩ k=>⟨j,e,D.frame _ _ _ st k⟩
 item:=fun i s Q E hi ⟨j,e,st⟩ hQ=>by
  subst e
  exact D.item j s Q E (by omega) st fun x h' tk hp st' hs=>hQ x h' tk ⟨j,rfl,hp⟩ ⟨j+1,rfl,st'⟩ hs
 done:=fun s Q E ⟨j,e,st⟩ hE=>by
  have:j=n:=by omega
  subst this
  exact D.done s Q E st hE
end
def It1 (K:W.Frag)(l:Addr):It:=
 ⟨fun i H=>∃xs,SqT K H l xs∧i<xs.length,
  fun i H x H'=>∃u T,(∀xs,SqT K H l xs→xs[i]?=some u)∧x=.ref T∧H T=none∧H'=upd H T (.tup [.int ((i+1:Nat):Int),u]),
  fun i H=>∃xs,SqT K H l xs∧i=xs.length⟩
theorem nin1 {k l:Addr}(h1:l<k):k+1∉[k,l]:=fun z=>by
 simp only[ZM,ZN,or_false] at z
 rcases z with z | z
 ·exact Nat.succ_ne_self k z
 ·exact Nat.lt_asymm h1 (z▸Nat.lt_succ_self k)
theorem Zsp {P:Program}{w:World}{K:W.Frag}{elts:List Expr}{ek:Nat}{epos:Pos}{k l:Addr}(h1:l<k):
  Turn P w K (.Tuple elts ek epos) (It1 K l) [k+1,k] (k+1) (fun i h=>(∃old,IsEnum h (k+1) k ((i+1:Nat):Int) old)∧h.IsTupleIter k l i) where
 mem:=by simp
 obj:=fun i h st c hc=>by
  obtain⟨⟨old,a1⟩,a4⟩:=st
  simp only[ZM,ZN,or_false] at hc
  rcases hc with rfl | rfl
  ·exact⟨_,a1,fun v z=>by have z':Data.fields _=Data.cell v:=z;cases z'⟩
  ·obtain⟨o,e,c,d⟩:=a4;exact⟨o,e,fun v z=>by rw[d] at z;cases z⟩
 keep:=fun i h h' st kp=>by
  obtain⟨⟨old,a1⟩,a4⟩:=st
  exact⟨⟨old,kp _ (by simp) _ a1⟩,a4.at fun o e=>kp _ (by simp) o e⟩
 item:=by
  intro X hP hw hK hc i pins s σ H E I hf st hg
  subst hP hw hK
  obtain⟨xs,hq1,hi⟩:=hg
  obtain⟨its1,rv1,p1,_⟩:=I.tuple hq1
  obtain⟨a1,a4⟩:=st
  have hn1:its1.toArray.size=xs.length:=by rw[XJ,rv1.length]
  have D1:=Zaq (prog:=X.prog) (w:=X.w) (A:=X.A.in1) (I.ok.hd hc) k l (XH h1) its1.toArray
  rw[hn1] at D1
  have W:=WalksT.enumerateD (Zn5 D1) (k+1) (Nat.succ_ne_self k) (nin1 h1) (by simp)
  refine W.item (i+1) s _ _ (by omega) ⟨a1,i,rfl,a4,p1⟩ fun T vals h' tk hv hT htup hm kk=>?_
  obtain⟨t,x,⟨j,ej,hx⟩,rfl⟩:=hv
  have ej':j=i:=by omega
  subst ej'
  refine⟨_,rfl,W.go elts ek epos (j+1) T {s with heap:=h',toks:=tk} _ _ hm fun h2 st2 kk2=>?_⟩
  have hu:xs[j]?=some xs[j]:=by simp[hi]
  obtain⟨u1,e1,r1⟩:=rv1.get hu
  have ex:x=u1:=by
   have:its1[j]?=some x:=by simpa using hx
   rw[e1] at this;exact(YH this).symm
  subst ex
  have hTn:H T=none:=I.hok.fresh hT
  have hTw:T∉[k+1,k]:=W.apart (j+1) T h' hm
  have k2:∀c o,c∉[k+1,k]→s.heap.get? c=some o→h2.get? c=some o:=fun c o hb q=>kk2 c o hb (kk c o hb q)
  have htup2:IsTup h2 T #[.int ((j+1:Nat):Int) t,x]:=by
   obtain⟨o,ho,r⟩:=htup
   exact⟨o,kk2 T o hTw ho,r⟩
  have hfp:∀c∈[k+1,k],H c=none:=fun c hb=>(hf c hb).1
  have hne:∀c,c<s.heap.objs.size→c≠T:=fun c hb=>XH (XG hb hT)
  have tracked:∀c u,H c=some u→c≠T∧c∉[k+1,k]:=fun c u q=>⟨hne c (I.hok.lt q),fun z=>by rw[hfp c z] at q;cases q⟩
  have I1:Inv X pins σ (upd H T (.tup [.int ((j+1:Nat):Int),xs[j]])) {s with heap:=h2,gens:=s.gens,drawn:=s.drawn,toks:=tk}:=by
   refine I.step (ch:=[k+1,k]) (fun c hb=>?_) (fun c o _ _ hc q _=>k2 c o hc q) (fun c o _ _ hc q _=>⟨o.slots,k2 c o hc q⟩) (fun c o hc q n=>by rw[Z4 (hne c (XD q))];exact n) (fun c o hc q=>⟨o,k2 c o hc q⟩)
    (fun c xs q=>by rw[Z4 (tracked c _ q).1];exact q) (fun c o u q=>by rw[Z4 (tracked c _ q).1];exact q) (fun c ps q=>⟨#[],by rw[Z4 (tracked c _ q).1,q];simp⟩) (fun m hm=>?_) (fun c u q=>?_) I.bare
   ·obtain⟨f0,f1,f2,f3,f4,f5⟩:=hf c hb
    exact⟨f3,f1,f4,f5⟩
   ·obtain⟨o,es,ep,ho,r⟩:=hm
    exact⟨o,es,ep,k2 _ o (fun z=>(hf _ z).2.1 rfl) ho,r⟩
   ·by_cases hb:c=T
    ·subst hb
     rw[Yh] at q;cases q
     exact⟨XN (by decide:2≤1000) (Nat.le_of_lt (small1000 (XE _))),[.int ((j+1:Nat):Int) t,x],.cons ⟨t,rfl⟩ (.cons r1 .nil),htup2⟩
    ·rw[Z4 hb] at q
     refine(I.hok c u q).stay (fun d v hd r=>k2 d v ?_ r) (fun d r=>by rw[Z4 (tracked d _ r).1];exact r) fun d xs r=>by rw[Z4 (tracked d _ r).1];exact r
     rcases hd with rfl | hd
     ·exact(tracked d _ q).2
     ·exact(tracked d _ hd).2
  obtain⟨b1,j2,ej2,b4,_⟩:=st2
  have ej3:j2=j+1:=by omega
  subst ej3
  refine⟨.ref T,_,I1,rfl,⟨_,T,fun zs hz=>by rw[I.tuple_inj hz hq1];exact hu,rfl,hTn,rfl⟩,⟨b1,b4⟩,fun c hb=>?_⟩
  have hbT:c≠T:=fun z=>hTw (by rw[←z];exact hb)
  rw[Z4 hbT];exact hfp c hb
 done:=by
  intro X hP hw hK hc i pins s σ H E I hf st hg
  subst hP hw hK
  obtain⟨xs,hq1,hi⟩:=hg
  obtain⟨its1,rv1,p1,_⟩:=I.tuple hq1
  obtain⟨a1,a4⟩:=st
  have hn1:its1.toArray.size=xs.length:=by rw[XJ,rv1.length]
  have D1:=Zaq (prog:=X.prog) (w:=X.w) (A:=X.A.in1) (I.ok.hd hc) k l (XH h1) its1.toArray
  rw[hn1] at D1
  subst hi
  have W:=WalksT.enumerateD (Zn5 D1) (k+1) (Nat.succ_ne_self k) (nin1 h1) (by simp)
  refine W.done s _ _ ⟨a1,_,rfl,a4,p1⟩ fun h' tk kk=>⟨rfl,?_⟩
  exact I.step (g':=s.gens) (d':=s.drawn) (ch:=[k+1,k]) (fun b hb=>let ⟨f0,f1,f2,f3,f4,f5⟩:=hf b hb;⟨f3,f1,f4,f5⟩) (fun b o _ _ hc q _=>kk b o hc q) (fun b o _ _ hc q _=>⟨o.slots,kk b o hc q⟩) (fun b o _ _ n=>n) (fun b o hc q=>⟨o,kk b o hc q⟩)
    (fun _ _ q=>q) (fun _ _ _ q=>q) (fun b ps q=>⟨#[],by rw[q];simp⟩) (fun m hm=>let ⟨o,es,ep,ho,r⟩:=hm;⟨o,es,ep,kk _ o (fun z=>(hf _ z).2.1 rfl) ho,r⟩)
    (fun b u q=>(I.hok b u q).stay (fun d v hd r=>kk d v (fun z=>by
     rcases hd with rfl | hd
     ·rw[(hf _ z).1] at q;cases q
     ·rw[(hf _ z).1] at hd;cases hd) r) (fun _ r=>r) fun _ _ r=>r) I.bare
 self:=fun A i s Q E st h=>by
  obtain⟨⟨old,he⟩,_⟩:=st
  exact wpAny_pyIter_enum he h
theorem Zjj {M:Model}{A:Around}{E:Value→Shared→Prop}{s:Shared}{pos:Pos}{T:String}{args:List (Bool×Sem Value)}{keywords:List (Option Str×Sem Value)}{Q:Value→Shared→Prop}
  (hplain:args.any (·.1)=false) (hkw:keywords.any (·.1.isNone)=false)
  (h:wpAny M A (evalArgs (.type T) true args keywords) (fun a s₁=>wpAny M A (call (.type T) a.pos a.kw) Q E s₁) E s):
  wpAny M A (callWith pos (.type T) [] args keywords) Q E s:=by
 unfold callWith
 refine XA (wpAny_holding (wpAny_mono h (fun a s₁ h₁=>XA (wpAny_standAt ?_)) fun _ _ x=>x))
 simp only[hplain,hkw,Bool.or_false]
 refine XA (XB ?_)
 exact XA (wpAny_mono h₁ (fun r s₂ hr=>XA (wpAny_holding (wpAny_point (XB hr)))) fun _ _ x=>x)
section
variable {X:Cx}{elts:List Expr}{ek:Nat}{epos:Pos}
def iEn1 (K:W.Frag)(ta:TA):TI:=fun σ H R=>ta σ H fun vs H1=>∃(l:Addr) (xs:List V),vs=[.ref l]∧SqT K H1 l xs∧R (It1 K l) H1
theorem Z0g {a:Expr}{ta:TA}{p pos kp kc:Pos}{j:Nat}(hg:Gl X "enumerate")(hm:X.mg "enumerate"=none)(ha:PA X [a] ta)
  (hs:starEach [a] X.env=[(false,eval a X.env)]:=by rfl) (hb:bootBuiltins "enumerate"=some (.type "enumerate"):=by decide+kernel)
  (he:eval (.Call (.Name "enumerate" p) [a] [⟨some "start",.Constant (.int 1) j kc,kp⟩] pos) X.env=(do callWith pos (←eval (.Name "enumerate" p) X.env) [] (backTo pos (starEach [a] X.env)) (backToKw pos (keywordEach [⟨some "start",.Constant (.int 1) j kc,kp⟩] X.env))):=by rfl):
  PI X (.Tuple elts ek epos) (.Call (.Name "enumerate" p) [a] [⟨some "start",.Constant (.int 1) j kc,kp⟩] pos) (iEn1 X.K ta):=by
 intro pins s σ H R I h
 rw[he]
 refine XA (Zb6 I hg hm hb ?_)
 refine Zjj (by rw[hs];rfl) rfl ?_
 have hargs:backTo pos (starEach [a] X.env)=(false,eval a X.env)::backTo pos []∨True:=.inr trivial
 have key:wpAny (model X.prog X.w) X.A (spliced (backTo pos (starEach [a] X.env))) (fun vs s₁=>wpAny (model X.prog X.w) X.A (evalAll ((backToKw pos (keywordEach [⟨some "start",.Constant (.int 1) j kc,kp⟩] X.env)).map (·.2)))
   (fun kvs s₂=>wpAny (model X.prog X.w) X.A (call (.type "enumerate") vs ((backToKw pos (keywordEach [⟨some "start",.Constant (.int 1) j kc,kp⟩] X.env)).filterMap (·.1)|>.zip kvs)) (fun v s1=>wpAny (model X.prog X.w) X.A (pyIter v) (PIE X pins σ (.Tuple elts ek epos) R) X.xe s1) X.xe s₂) X.xe s₁) X.xe s:=by
  refine thn (ha pos pins s σ H _ I h) fun us s1 ⟨vs,H1,I1,r1,q1⟩=>?_
  refine kws_cons ?_
  refine thn (Ztu (X:=X) pins s1 σ H1 (fun v H2=>v=.int 1∧H2=H1) I1 ⟨rfl,rfl⟩) fun u s2 ⟨v,H2,I2,r2,ev,eH⟩=>?_
  subst ev eH
  obtain⟨t,rfl⟩:=r2
  refine kws_nil ?_
  obtain⟨l,xs,rfl,hq,q⟩:=q1
  obtain⟨w,rfl,rw'⟩:=r1.one
  cases rw'
  obtain⟨its,rv,pt,_⟩:=I2.tuple hq
  have lt:l<s2.heap.objs.size:=by obtain⟨_,e,_⟩:=pt;exact XD e
  show wpAny _ _ (call (.type "enumerate") [.ref l] [("start",.int 1 t)]) _ _ s2
  refine Zpt pt fun h' he hit hsz kk=>?_
  have I3:Inv X pins σ H2 {s2 with heap:=h',toks:=s2.toks}:=I2.kept kk
  refine wpAny_pyIter_enum (s:={s2 with heap:=h'}) he ?_
  have fin:∀b∈[s2.heap.objs.size+1,s2.heap.objs.size],FpOk X pins H2 b:=fun b hb=>by
   have e:s2.heap.objs.size≤b:=by
    rcases List.mem_cons.mp hb with e | hb
    ·omega
    ·have e:b=s2.heap.objs.size:=by simpa using hb
     omega
   exact I2.fpOk e (I2.hok.fresh e)
  exact⟨_,_,_,_,H2,rfl,I3,Zsp lt,⟨⟨_,he⟩,hit⟩,fin,q⟩
 rw[hs] at key ⊢
 exact evalArgs_kwB rfl key
end
end L2
namespace WL
open PySem PySem.Spec PyProof.Rows L2
def num1 (xs:List T):List T:=xs.zipIdx.map fun c=>T.tup [.int ((c.2+1:Nat):Int),c.1]
theorem Zfx {xs:List T}:(num1 xs).length=xs.length:=by unfold num1;simp
theorem Zqc {xs:List T}{i:Nat}{x:T}(h:xs[i]?=some x):(num1 xs)[i]?=some (.tup [.int ((i+1:Nat):Int),x]):=by
 unfold num1
 simp[h]
def iEn1 (a:WA):WI:=fun τ C R χ=>a τ C (fun vs C1=>∃xs,vs=[.tup xs]∧R (num1 xs) (fun _=>True) C1) χ
section
variable {X:Cx}{a:Expr}{wA:WA}{p pos kp kc:Pos}{j:Nat}
theorem Z1l {K:W.Frag}{F H0:Hp}{l1:Addr}{xs:List T}{ys1:List V}(q1:SqT K H0 l1 ys1)(r1:Reps K H0 ys1 xs):Zge K F H0 (L2.It1 K l1) (num1 xs) (fun _=>True):=fun i H C R t hok=>by
 have q1:=t.sqt q1
 have r1':=r1.tx t
 have e1:=r1'.length
 refine⟨fun hi=>?_,fun hi=>⟨ys1,q1,by rw[Zfx] at hi;omega⟩⟩
 rw[Zfx] at hi
 refine⟨⟨ys1,q1,by omega⟩,fun x H' h=>?_⟩
 obtain⟨u,Tt,hu,rfl,hT,rfl⟩:=h
 obtain⟨x,hx,rx⟩:=r1'.get' (hu ys1 q1)
 exact⟨_,Zqc hx,R.hid hT,Tx.new hT,Zab (SqT.of Yh) (Yp Xf (Yp (rx.tx (Tx.new hT)) Jx))⟩
theorem Z11 {elts:List Expr}{ek:Nat}{epos:Pos}(hg:Gl X "enumerate")(hm:X.mg "enumerate"=none)(ha:SdA X [a] wA)(hs:starEach [a] X.env=[(false,eval a X.env)]:=by rfl)
  (he:eval (.Call (.Name "enumerate" p) [a] [⟨some "start",.Constant (.int 1) j kc,kp⟩] pos) X.env=(do callWith pos (←eval (.Name "enumerate" p) X.env) [] (backTo pos (starEach [a] X.env)) (backToKw pos (keywordEach [⟨some "start",.Constant (.int 1) j kc,kp⟩] X.env))):=by rfl):
  SdI X (.Tuple elts ek epos) (.Call (.Name "enumerate" p) [a] [⟨some "start",.Constant (.int 1) j kc,kp⟩] pos) (iEn1 wA):=by
 obtain⟨t,p1,s⟩:=ha
 refine⟨_,Z0g hg hm p1 hs (by decide+kernel) he,fun F H C σ τ R R' χ Rr S h q=>?_⟩
 refine s F H C σ τ _ _ χ Rr S h fun xs vs H1 C1 R1 t1 rs h1=>?_
 obtain⟨ts,rfl,h1⟩:=h1
 obtain⟨x,rfl,rx⟩:=Zaw rs
 obtain⟨l1,y1,rfl,q1,r1⟩:=Yf rx
 exact⟨l1,y1,rfl,q1,q _ H1 _ _ C1 R1 t1 (fun F'=>Z1l q1 r1) h1⟩
end
section
variable {X:Cx}
end
end WL
namespace K37
open PySem PySem.Spec PyProof.Rows L2 WL
def g_MARKS:T:=.tup [.str "at",.str "shut",.str "ring"]
def g_VALUES:T:=.tup [.str "number",.str "fun",.str "made"]
def Y2 (P:Calls):WS:=
  (Zr (Z0 (Zf Zq (Zd 0) (eC (.int 0))) (gNm 2))
  (Zr (sIf (tBl (Zf wEq (Zd 2) (eC (.str "does")))) (Ym (Zy (Zb (eC (.str "does")) (Zb (Zf Zq (Zd 0) (eC (.int 1))) (Zb (Zf Zq (Zd 1) (eC (.int 0))) (Zb (Zf Zq (Zd 1) (eC (.int 1))) Zg)))))) Yb)
  (Zr (sIf (tOr' (tBl (Zf wEq (Zd 2) (eC (.str "call")))) (tBl (Zf wEq (Zd 2) (eC (.str "first"))))) (Ym (Zy (Zb (Zd 2) (Zb (Zf Zq (Zd 1) (eC (.int 0))) (Zb (Zf Zq (Zd 1) (eC (.int 1))) Zg))))) Yb)
  (Zr (sIf (tBl (Zf wEq (Zd 2) (eC (.str "fun")))) (Ym (Zy (Zb (eC (.str "fun")) (Zb (Zf Zq (Zd 0) (eC (.int 1))) (Zb (Zf Zq (Zd 1) (eC (.int 0))) Zg))))) Yb)
  (Zr (sIf (tBl (Zf wEq (Zd 2) (eC (.str "let")))) (Ym (Zy (Zb (eC (.str "let")) (Zb (Z7 P 1 (Zb (Zf Zq (Zd 0) (eC (.int 1))) (Zb (eSl (Zd 1) oNo (Zg7 (eUn wNeg (eC (.int 1))))) Zg))) (Zb (Zf Zq (Zd 1) (eUn wNeg (eC (.int 1)))) Zg))))) Yb)
  (Zr (sIf (tBl (Zf wEq (Zd 2) (eC (.str "shape")))) (Ym (Zy (Zb (eC (.str "shape")) (Zb (Zf Zq (Zd 0) (eC (.int 1))) (Zb (eBi Zg3 (Zb (Zd 1) Zg)) Zg))))) Yb)
  (Zr (sIf (tBl (Zf wEq (Zd 2) (eC (.str "choose")))) (Ym (Zy (Zb (eC (.str "choose")) (Zb (Zf Zq (Zd 1) (eC (.int 0))) (Zb (Z7 P 1 (Zb (Zf Zq (Zd 0) (eC (.int 2))) (Zb (eSl (Zd 1) (Zg7 (eC (.int 1))) oNo) Zg))) Zg))))) Yb)
  (Zr (sIf (tBl (Zf wEq (Zd 2) (eC (.str "rows")))) (Ym (Zy (Zb (eC (.str "rows")) (Zb (Zf Zq (Zd 1) (eC (.int 0))) (Zb (Z7 P 1 (Zb (Zf Zq (Zd 0) (eC (.int 2))) (Zb (eSl (Zd 1) (Zg7 (eC (.int 1))) oNo) Zg))) Zg))))) Yb)
  (Ym (Zd 0))))))))))
def Zar (P:Calls):WS:=
  (Ym (eBi Zg3 (Zb (Zci [none,none] (iZp (Zb (Zd 0) (Zb (Zd 1) Zg))) (gTp (Xa (gNm 0) (Xa (gNm 1) Zdg))) tYes (Zf wAdd (eSl (Zd 0) oNo (Zg7 (eUn wNeg (eC (.int 1))))) (Zy (Zb (Zd 1) Zg)))) Zg)))
def Zdh (P:Calls):WS:=
  (Zr (Z0 (Zf Zq (Zd 0) (eC (.int 0))) (gNm 1))
  (Zr (sIf (tBl (Zf wEq (Zd 1) (eC (.str "does")))) (Ym (eLst (Zb (Zy (Zb (Zy Zg) (Zb (Zf Zq (Zd 0) (eC (.int 2))) Zg))) (Zb (Zy (Zb (Zy Zg) (Zb (Zf Zq (Zd 0) (eC (.int 3))) Zg))) Zg)))) Yb)
  (Zr (sIf (tOr' (tBl (Zf wEq (Zd 1) (eC (.str "call")))) (tBl (Zf wEq (Zd 1) (eC (.str "first"))))) (Ym (eLst (Zb (Zy (Zb (Zy Zg) (Zb (Zf Zq (Zd 0) (eC (.int 1))) Zg))) (Zb (Zy (Zb (Zy Zg) (Zb (Zf Zq (Zd 0) (eC (.int 2))) Zg))) Zg)))) Yb)
  (Zr (sIf (tBl (Zf wEq (Zd 1) (eC (.str "fun")))) (Ym (eLst (Zb (Zy (Zb (Zy (Zb (Zf Zq (Zd 0) (eC (.int 1))) Zg)) (Zb (Zf Zq (Zd 0) (eC (.int 2))) Zg))) Zg))) Yb)
  (Zr (sIf (tBl (Zf wEq (Zd 1) (eC (.str "let")))) (Ym (Z7 P 3 (Zb (Zf Zq (Zd 0) (eC (.int 1))) (Zb (Zf Zq (Zd 0) (eC (.int 2))) Zg)))) Yb)
  (Zr (sIf (tBl (Zf wEq (Zd 1) (eC (.str "shape")))) (Ym (Zci [none] (iSeq (Zf Zq (Zd 0) (eC (.int 2)))) (gNm 0) tYes (Zy (Zb (Zy Zg) (Zb (Zd 0) Zg))))) Yb)
  (Zr (sIf (tBl (Zf wEq (Zd 1) (eC (.str "choose")))) (Ym (Zf wAdd (eLst (Zb (Zy (Zb (Zy Zg) (Zb (Zf Zq (Zd 0) (eC (.int 1))) Zg))) Zg)) (Zci [none,none,none] (iSeq (Zf Zq (Zd 0) (eC (.int 2)))) (gTp (Xa (gNm 0) (Xa (gNm 1) (Xa (gNm 2) Zdg)))) tYes (Zy (Zb (Zd 1) (Zb (Zd 2) Zg)))))) Yb)
  (Zr (sIf (tBl (Zf wEq (Zd 1) (eC (.str "rows")))) (Ym (Z7 P 4 (Zb (Zf Zq (Zd 0) (eC (.int 1))) (Zb (Zf Zq (Zd 0) (eC (.int 2))) Zg)))) Yb)
  (Ym (eLst Zg))))))))))
def Zas (P:Calls):WS:=
  (Zr (Z0 (eBi Zg3 (Zb (Zci [none,none] (iSeq (Zd 0)) (gTp (Xa (gNm 0) (Xa (gNm 1) Zdg))) tYes (Zd 0)) Zg)) (gNm 2))
  (Ym (Zf wAdd (Zci [none,none,some 2] (iSeq (Zd 0)) (gTp (Xa (gNm 0) (Xa (gNm 1) Zdg))) tYes (Zy (Zb (Zd 2) (Zb (Zd 1) Zg)))) (eLst (Zb (Zy (Zb (Zd 2) (Zb (Zd 1) Zg))) Zg)))))
def Za7 (P:Calls):WS:=
  Zou
def Zmq (P:Calls):WS:=
  (Zr (Z0 (Z7 P 6 (Zb (Zd 0) (Zb (Zd 1) Zg))) (gNm 2))
  (Ym (eIf (tBl (Zf wIsN (Zd 2) (eC (.non)))) (Zd 0) (Zd 2))))
def Zc6 (P:Calls):WS:=
  (Ym (eIf (tTru (Zd 2)) (eC (.non)) (Z7 P 0 (Zb (Zd 0) (Zb (Zd 3) Zg)))))
def Zc5 (P:Calls):WS:=
  (Zr (Z0 (eC (.bl true)) (gNm 2))
  (Zr (Z0 (eLst Zg) (gNm 3))
  (Zr (sFor (iSeq (Z7 P 2 (Zb (Zd 0) Zg))) (gTp (Xa (gNm 4) (Xa (gNm 5) Zdg)))
  (Zr (Z0 (eIf (tBl (Zf wEq (Zd 4) (Zy Zg))) (Zd 1) (Z7 P 7 (Zb (Zd 1) (Zb (Zd 4) Zg)))) (gNm 6))
  (Zr (Z0 (eIf (tBl (Zf wReq (Zd 6) Zg0)) (eC (.non)) (Z7 P 6 (Zb (Zd 5) (Zb (Zd 6) Zg)))) (gNm 7))
  (Zr (sIf (tBl (Zf Zmr (Zd 7) (eC (.non)))) (Z0 (eC (.bl false)) (gNm 2)) Yb)
  (Y7 (eMt tyL' Zaj (Zd 3) (Zb (eIf (tBl (Zf wIsN (Zd 7) (eC (.non)))) (Zd 5) (Zd 7)) Zg)))))))
  (Zc6 P))))
def Zbx (P:Calls):WS:=
  (Zr (sIf (tBl (Zf wEq (Zf Zq (Zd 0) (eC (.int 0))) (eC (.str "name")))) (Ym (Zpq (Zd 1) (Zf Zq (Zd 0) (eC (.int 1))))) Yb)
  (Zc5 P))
def Zcq (P:Calls):WS:=
  (Zr (sIf (tNo (tTru (eBi bAny (Zb (Zci [none,some 0] (iSeq (Zd 1)) (gNm 0) tYes (Zf wRin (Zd 0) (Zd 1))) Zg)))) (Ym (Zd 0)) Yb)
  (Zr (Z0 (eBi Zvz (Zb (Zd 0) Zg)) (gNm 2))
  (Zr (sFor (iSeq (Zd 1)) (gNm 3)
  (Y7 (Zpr (Zd 2) (Zd 3) (eC (.non)))))
  (Ym (Zd 2)))))
def Zd5 (P:Calls):WS:=
  (Ym (Zf wIn (Zf Zq (Zd 0) (eC (.int 0))) (eC g_MARKS)))
def Zc4 (P:Calls):WS:=
  (Ym (Zf wIn (Zf Zq (Zd 0) (eC (.int 0))) (eC g_VALUES)))
def Zc3 (P:Calls):WS:=
  (Zr (sIf (tBl (Zf wEq (Zd 0) (eC (.str "<")))) (Ym (Z7 P 11 (Zb (Zf wLt (Zd 1) (Zd 2)) Zg))) Yb)
  (Zr (sIf (tBl (Zf wEq (Zd 0) (eC (.str "=")))) (Ym (Z7 P 11 (Zb (Zf wEq (Zd 1) (Zd 2)) Zg))) Yb)
  (Zr (sIf (tBl (Zf wEq (Zd 0) (eC (.str "+")))) (Z0 (Zf wAdd (Zd 1) (Zd 2)) (gNm 3)) (sIf (tBl (Zf wEq (Zd 0) (eC (.str "-")))) (Z0 (Zf wSub (Zd 1) (Zd 2)) (gNm 3)) (Z0 (Zf wMul (Zd 1) (Zd 2)) (gNm 3))))
  (Ym (Zy (Zb (eC (.str "number")) (Zb (Zf wMod (Zd 3) (Zf wPow (eC (.int 10)) (eC (.int 18)))) Zg)))))))
def Zhp (P:Calls):WS:=
  (Ym (Zy (Zb (eC (.str "made")) (Zb (eIf (tTru (Zd 0)) (eC (.str "Yes")) (eC (.str "No"))) (Zb (Zy Zg) Zg)))))
def Zfh (P:Calls):WS:=
  (Zr (Z0 (Z7 P 13 (Zb (Zd 0) (Zb (Zd 1) Zg))) (gNm 2))
  (Zr (sIf (tBl (Zf wIsN (Zd 2) (eC (.non)))) (Ym (eC (.non))) Yb)
  (Ym (Z7 P 5 (Zb (Zf Zq (Zd 2) (eC (.int 2))) (Zb (eDz (Zb (Zf Zq (Zd 2) (eC (.int 1))) (Zb (Zf Zq (Zd 0) (eC (.int 2))) Zg))) Zg))))))
def X6 (P:Calls):WS:=
  (Zr (sIf (tBl (Zf wNe (Zf Zq (Zd 0) (eC (.int 0))) (eC (.str "made")))) (Ym (eC (.non))) Yb)
  (Zr (sFor (iSeq (Zd 1)) (gNm 2)
  (sIf (tBl (Zf wEq (Zf Zq (Zd 2) (eC (.int 0))) (Zf Zq (Zd 0) (eC (.int 1))))) (Ym (Zd 2)) Yb))
  (Ym (eC (.non)))))
def Zk3 (P:Calls):WS:=
  (Zr (sIf (tBl (Zf wEq (Zf Zq (Zd 1) (eC (.int 0))) (eC (.str "give")))) (Ym (Zf wEq (Zf Zq (Zd 0) (eC (.int 0))) (eC (.str "fun")))) Yb)
  (Zr (sIf (tBl (Zf wEq (Zf Zq (Zd 1) (eC (.int 0))) (eC (.str "pick")))) (Ym (Zf Zmr (Z7 P 13 (Zb (Zd 0) (Zb (Zf Zq (Zd 1) (eC (.int 1))) Zg))) (eC (.non)))) Yb)
  (Zr (sIf (tOr' (tBl (Zf wEq (Zf Zq (Zd 1) (eC (.int 0))) (eC (.str "left")))) (tBl (Zf wEq (Zf Zq (Zd 1) (eC (.int 0))) (eC (.str "right"))))) (Ym (Zf wEq (Zf Zq (Zd 0) (eC (.int 0))) (eC (.str "number")))) Yb)
  (Ym (eC (.bl true))))))
def X0 (P:Calls):WS:=
  (Zr (Z0 (eC (.non)) (gFd ["Runner"] "hand" (Zd 0)))
  (Zr (Z0 (eC (.int 0)) (gFd ["Runner"] "wanted" (Zd 0)))
  (Zr (Z0 (eLst Zg) (gFd ["Runner"] "pile" (Zd 0)))
  (Zr (Z0 (eLst (Zb (Zy (Zb (Zd 2) (Zb (Zd 1) Zg))) Zg)) (gFd ["Runner"] "still" (Zd 0)))
  (Zr (Z0 (eLst Zg) (gFd ["Runner"] "told" (Zd 0)))
  (Zr (Z0 Zg0 (gFd ["Runner"] "things" (Zd 0)))
  (Zr (Z0 (eLst Zg) (gFd ["Runner"] "labels" (Zd 0)))
  (Zr (Z0 (eLst Zg) (gFd ["Runner"] "log" (Zd 0)))
  (Zr (Z0 (eC (.int 0)) (gFd ["Runner"] "steps" (Zd 0)))
  (Zr (Z0 (eC (.int 0)) (gFd ["Runner"] "cells" (Zd 0)))
  (Zr (Z0 (eC (.int 0)) (gFd ["Runner"] "firsts" (Zd 0)))
  (Z0 (eC (.non)) (gFd ["Runner"] "ending" (Zd 0))))))))))))))
def Zcb (P:Calls):WS:=
  (Zr (Y7 (eMth P [("Runner",17)] "advance" (Zd 0) (Zb (Zd 1) Zg)))
  (Ym (eMth P [("Runner",18)] "outcome" (Zd 0) Zg)))
def X9 (P:Calls):WS:=
  (Zr (Y7 (eMth P [("Runner",19)] "settle" (Zd 0) Zg))
  (Zif (tAn (tBl (Zf wIsN (Jy ["Runner"] "ending" (Zd 0)) (eC (.non)))) (tBl (Zf wLt (Jy ["Runner"] "steps" (Zd 0)) (Zd 1))))
  (Zr (Z0 (Zf wAdd (Jy ["Runner"] "steps" (Zd 0)) (eC (.int 1))) (gFd ["Runner"] "steps" (Zd 0)))
  (Zr (Y7 (eMth P [("Runner",22)] "take_step" (Zd 0) Zg))
  (Y7 (eMth P [("Runner",19)] "settle" (Zd 0) Zg))))))
def X7 (P:Calls):WS:=
  (Zr (Z0 (eIf (tBl (Zf wIsN (Jy ["Runner"] "ending" (Zd 0)) (eC (.non)))) (Zy (Zb (eC (.str "spent")) (Zb (eC (.str "")) Zg))) (Jy ["Runner"] "ending" (Zd 0))) (gNm 1))
  (Ym (Zy (Zb (Zf Zq (Zd 1) (eC (.int 0))) (Zb (Zf Zq (Zd 1) (eC (.int 1))) (Zb (Zy (Zb (Jy ["Runner"] "steps" (Zd 0)) (Zb (Jy ["Runner"] "cells" (Zd 0)) (Zb (Jy ["Runner"] "firsts" (Zd 0)) Zg)))) (Zb (eBi Zqy (Zb (Jy ["Runner"] "log" (Zd 0)) Zg)) Zg)))))))
def Zah (P:Calls):WS:=
  (Zif (tBl (Zf wIsN (Jy ["Runner"] "ending" (Zd 0)) (eC (.non))))
  (sIf (tBl (Zf wIsN (Jy ["Runner"] "hand" (Zd 0)) (eC (.non)))) (Y7 (eMth P [("Runner",20)] "tell_next" (Zd 0) Zg)) (sIf (tBl (Zf wEq (Zf Zq (Jy ["Runner"] "hand" (Zd 0)) (eC (.int 0))) (eC (.str "stop")))) (Z0 (Zy (Zb (eC (.str "stop")) (Zb (Zf Zq (Jy ["Runner"] "hand" (Zd 0)) (eC (.int 1))) Zg))) (gFd ["Runner"] "ending" (Zd 0))) (sIf (tNo (tTru (Z7 P 9 (Zb (Jy ["Runner"] "hand" (Zd 0)) Zg)))) Zm8 (sIf (tBl (Zf wEq (Jy ["Runner"] "pile" (Zd 0)) (eLst Zg))) (Y7 (eMth P [("Runner",21)] "tell_value" (Zd 0) Zg)) (sIf (tBl (Zf wEq (Zf Zq (Zf Zq (Jy ["Runner"] "pile" (Zd 0)) (eUn wNeg (eC (.int 1)))) (eC (.int 0))) (eC (.str "back")))) (Y7 (eMth P [("Runner",34)] "come_back" (Zd 0) (Zb (Zf Zq (eMth P [("Runner",26)] "take_frame" (Zd 0) Zg) (eC (.int 1))) Zg))) (sIf (tTru (Z7 P 14 (Zb (Jy ["Runner"] "hand" (Zd 0)) (Zb (Zf Zq (Jy ["Runner"] "pile" (Zd 0)) (eUn wNeg (eC (.int 1)))) Zg)))) Zm8 (Z0 (Zy (Zb (eC (.str "stuck")) (Zb (eC (.str "")) Zg))) (gFd ["Runner"] "ending" (Zd 0))))))))))
def Xk (P:Calls):WS:=
  (Zr (sIf (tBl (Zf wEq (Jy ["Runner"] "still" (Zd 0)) (eLst Zg))) (Zr (Z0 (Zy (Zb (eC (.str "told")) (Zb (eMt tyS Zy1 (eC (.str "")) (Zb (Jy ["Runner"] "told" (Zd 0)) Zg)) Zg))) (gFd ["Runner"] "ending" (Zd 0)))
  Zm8) Yb)
  (Zr (Z0 (eMt tyL' mPop (Jy ["Runner"] "still" (Zd 0)) Zg) (gNm 1))
  (sIf (tTru (eIsi (Zd 1) "str")) (Y7 (eMt tyL' Zaj (Jy ["Runner"] "told" (Zd 0)) (Zb (Zd 1) Zg))) (sIf (tBl (Zf wLe (Zf Zq (Zd 1) (eC (.int 0))) (eC (.int 0)))) (Y7 (eMt tyL' Zaj (Jy ["Runner"] "told" (Zd 0)) (Zb (eC (.str "?")) Zg))) (Zr (Z0 (Zf Zq (Zd 1) (eC (.int 0))) (gFd ["Runner"] "wanted" (Zd 0)))
  (Z0 (Zf Zq (Zd 1) (eC (.int 1))) (gFd ["Runner"] "hand" (Zd 0))))))))
def Xc (P:Calls):WS:=
  (Zr (Y7 (eMt tyL' Zlr (Jy ["Runner"] "still" (Zd 0)) (Zb (Zzb (Z7 P 35 (Zb (Jy ["Runner"] "hand" (Zd 0)) (Zb (Zf wSub (Jy ["Runner"] "wanted" (Zd 0)) (eC (.int 1))) Zg)))) Zg)))
  (Z0 (eC (.non)) (gFd ["Runner"] "hand" (Zd 0))))
def Xl (P:Calls):WS:=
  (sIf (tTru (Z7 P 9 (Zb (Jy ["Runner"] "hand" (Zd 0)) Zg))) (Y7 (eMth P [("Runner",24)] "use_value" (Zd 0) (Zb (Jy ["Runner"] "hand" (Zd 0)) (Zb (eMth P [("Runner",26)] "take_frame" (Zd 0) Zg) Zg)))) (Y7 (eMth P [("Runner",23)] "take_apart" (Zd 0) (Zb (Jy ["Runner"] "hand" (Zd 0)) Zg))))
def Xe (P:Calls):WS:=
  (Zr (Z0 (Zf Zq (Zd 1) (eC (.int 0))) (gNm 2))
  (sIf (tBl (Zf wEq (Zd 2) (eC (.str "call")))) (Y7 (eMth P [("Runner",25)] "go_into" (Zd 0) (Zb (Zf Zq (Zd 1) (eC (.int 1))) (Zb (Zy (Zb (eC (.str "give")) (Zb (Zf Zq (Zd 1) (eC (.int 2))) Zg))) Zg)))) (sIf (tBl (Zf wEq (Zd 2) (eC (.str "does")))) (Y7 (eMth P [("Runner",25)] "go_into" (Zd 0) (Zb (Zf Zq (Zd 1) (eC (.int 2))) (Zb (Zy (Zb (eC (.str "left")) (Zb (Zf Zq (Zd 1) (eC (.int 1))) (Zb (Zf Zq (Zd 1) (eC (.int 3))) Zg)))) Zg)))) (sIf (tBl (Zf wEq (Zd 2) (eC (.str "choose")))) (Y7 (eMth P [("Runner",25)] "go_into" (Zd 0) (Zb (Zf Zq (Zd 1) (eC (.int 1))) (Zb (Zy (Zb (eC (.str "pick")) (Zb (Zf Zq (Zd 1) (eC (.int 2))) Zg))) Zg)))) (sIf (tBl (Zf wEq (Zd 2) (eC (.str "first")))) (Zr (Z0 (Zf wAdd (Jy ["Runner"] "firsts" (Zd 0)) (eC (.int 1))) (gFd ["Runner"] "firsts" (Zd 0)))
  (Y7 (eMth P [("Runner",25)] "go_into" (Zd 0) (Zb (Zf Zq (Zd 1) (eC (.int 1))) (Zb (Zy (Zb (eC (.str "first")) (Zb (Zf Zq (Zd 1) (eC (.int 2))) Zg))) Zg))))) (sIf (tBl (Zf wEq (Zd 2) (eC (.str "let")))) (Y7 (eMth P [("Runner",27)] "bind" (Zd 0) (Zb (Zf Zq (Zd 1) (eC (.int 1))) (Zb (Zf Zq (Zd 1) (eC (.int 2))) Zg)))) (sIf (tBl (Zf wEq (Zd 2) (eC (.str "shape")))) (Y7 (eMth P [("Runner",28)] "make" (Zd 0) (Zb (Zf Zq (Zd 1) (eC (.int 1))) (Zb (Zf Zq (Zd 1) (eC (.int 2))) Zg)))) (Y7 (eMth P [("Runner",33)] "enter" (Zd 0) (Zb (Zf Zq (Zd 1) (eC (.int 1))) Zg))))))))))
def Xj (P:Calls):WS:=
  (sIf (tBl (Zf wEq (Zf Zq (Zd 2) (eC (.int 0))) (eC (.str "give")))) (Zr (Z0 (eMth P [("Runner",29)] "mark_for" (Zd 0) (Zb (Zf Zq (Zd 1) (eC (.int 1))) (Zb (Zf Zq (Zd 2) (eC (.int 1))) Zg))) (gNm 3))
  (Z0 (Z7 P 5 (Zb (Zf Zq (Zd 1) (eC (.int 2))) (Zb (Zvi (Zf Zq (Zd 1) (eC (.int 1))) (Zd 3)) Zg))) (gFd ["Runner"] "hand" (Zd 0)))) (sIf (tBl (Zf wEq (Zf Zq (Zd 2) (eC (.int 0))) (eC (.str "pick")))) (Z0 (Z7 P 12 (Zb (Zd 1) (Zb (Zf Zq (Zd 2) (eC (.int 1))) Zg))) (gFd ["Runner"] "hand" (Zd 0))) (sIf (tBl (Zf wEq (Zf Zq (Zd 2) (eC (.int 0))) (eC (.str "left")))) (Y7 (eMth P [("Runner",25)] "go_into" (Zd 0) (Zb (Zf Zq (Zd 2) (eC (.int 2))) (Zb (Zy (Zb (eC (.str "right")) (Zb (Zf Zq (Zd 2) (eC (.int 1))) (Zb (Zf Zq (Zd 1) (eC (.int 1))) Zg)))) Zg)))) (sIf (tBl (Zf wEq (Zf Zq (Zd 2) (eC (.int 0))) (eC (.str "right")))) (Z0 (Z7 P 10 (Zb (Zf Zq (Zd 2) (eC (.int 1))) (Zb (Zf Zq (Zd 2) (eC (.int 2))) (Zb (Zf Zq (Zd 1) (eC (.int 1))) Zg)))) (gFd ["Runner"] "hand" (Zd 0))) (Z0 (Zf Zq (Zd 2) (eC (.int 1))) (gFd ["Runner"] "hand" (Zd 0)))))))
def X8 (P:Calls):WS:=
  (Zr (Y7 (eMt tyL' Zaj (Jy ["Runner"] "pile" (Zd 0)) (Zb (Zd 2) Zg)))
  (Z0 (Zd 1) (gFd ["Runner"] "hand" (Zd 0))))
def Xd (P:Calls):WS:=
  (Ym (eMt tyL' mPop (Jy ["Runner"] "pile" (Zd 0)) Zg))
def Zbb (P:Calls):WS:=
  (Zr (Z0 Zg0 (gNm 3))
  (Zr (sFor (iSeq (Zd 1)) (gTp (Xa (gNm 4) (Xa (gNm 5) Zdg)))
  (Z0 (eMth P [("Runner",30)] "bear" (Zd 0) (Zb (Zd 4) Zg)) (gSd (Zd 3) (Zd 4))))
  (Zr (sFor (iSeq (Zd 1)) (gTp (Xa (gNm 4) (Xa (gNm 5) Zdg)))
  (Y7 (eMth P [("Runner",32)] "keep" (Zd 0) (Zb (Zf Zq (Zf Zsh (Zd 3) (Zd 4)) (eC (.int 1))) (Zb (Z7 P 5 (Zb (Zd 5) (Zb (Zd 3) Zg))) Zg)))))
  (Z0 (Z7 P 5 (Zb (Zd 2) (Zb (Zd 3) Zg))) (gFd ["Runner"] "hand" (Zd 0))))))
def Zcr (P:Calls):WS:=
  (Z0 (Zy (Zb (eC (.str "made")) (Zb (Zd 1) (Zb (eBi Zg3 (Zb (Zd 3) Zg)) Zg)))) (gFd ["Runner"] "hand" (Zd 0)))
def Za0 (P:Calls):WS:=
  (Zr (Z0 (eLst Zg) (gNm 3))
  (Zr (sFor (WL.iEn1 (Zb (Zd 2) Zg)) (gTp (Xa (gNm 4) (Xa (gNm 5) Zdg)))
  (Y7 (eMt tyL' Zaj (Zd 3) (Zb (eMth P [("Runner",29)] "mark_for" (Zd 0) (Zb (eJ [(eFv (Zd 1)),(eC (.str ".")),(eFv (Zd 4))] Str.empty) (Zb (Zd 5) Zg))) Zg))))
  (Zcr P)))
def Za9 (P:Calls):WS:=
  (Zr (sIf (tBl (Zf wEq (Zd 1) (eC (.str "Cons")))) (Z0 (Zf wAdd (Jy ["Runner"] "cells" (Zd 0)) (eC (.int 1))) (gFd ["Runner"] "cells" (Zd 0))) Yb)
  (Za0 P))
def Xz (P:Calls):WS:=
  (Zr (sIf (tTru (Z7 P 8 (Zb (Zd 2) Zg))) (Ym (Zd 2)) Yb)
  (Zr (Z0 (eMth P [("Runner",30)] "bear" (Zd 0) (Zb (Zd 1) Zg)) (gNm 3))
  (Zr (Y7 (eMth P [("Runner",32)] "keep" (Zd 0) (Zb (Zf Zq (Zd 3) (eC (.int 1))) (Zb (Zd 2) Zg))))
  (Ym (Zd 3)))))
def Zbc (P:Calls):WS:=
  (Zr (Z0 (eBi bLen (Zb (Jy ["Runner"] "labels" (Zd 0)) Zg)) (gNm 2))
  (Zr (Y7 (eMt tyL' Zaj (Jy ["Runner"] "labels" (Zd 0)) (Zb (Zd 1) Zg)))
  (Zr (Y7 (eMth P [("Runner",31)] "note" (Zd 0) (Zb (eC (.str "born")) (Zb (Zd 2) Zg))))
  (Ym (Zy (Zb (eC (.str "at")) (Zb (Zd 2) Zg)))))))
def Za8 (P:Calls):WS:=
  (Y7 (eMt tyL' Zaj (Jy ["Runner"] "log" (Zd 0)) (Zb (Zy (Zb (Zd 1) (Zb (Zd 2) (Zb (Zf Zq (Jy ["Runner"] "labels" (Zd 0)) (Zd 2)) (Zb (Jy ["Runner"] "steps" (Zd 0)) Zg))))) Zg)))
def Zba (P:Calls):WS:=
  (Z0 (Zd 2) (gSd (Jy ["Runner"] "things" (Zd 0)) (Zd 1)))
def Zau (P:Calls):WS:=
  (Zr (Y7 (eMth P [("Runner",31)] "note" (Zd 0) (Zb (eC (.str "enter")) (Zb (Zd 1) Zg))))
  (Y7 (eMth P [("Runner",25)] "go_into" (Zd 0) (Zb (Zf Zsh (Jy ["Runner"] "things" (Zd 0)) (Zd 1)) (Zb (Zy (Zb (eC (.str "back")) (Zb (Zd 1) Zg))) Zg)))))
def Xm (P:Calls):WS:=
  (Y7 (eMth P [("Runner",31)] "note" (Zd 0) (Zb (eC (.str "back")) (Zb (Zd 1) Zg))))
def Zca (P:Calls):WS:=
  (Zr (sIf (tBl (Zf wEq (Zf Zq (Zd 0) (eC (.int 0))) (eC (.str "number")))) (Ym (eLst (Zb (eBi Zoh (Zb (Zf Zq (Zd 0) (eC (.int 1))) Zg)) Zg))) Yb)
  (Zr (sIf (tBl (Zf wEq (Zf Zq (Zd 0) (eC (.int 0))) (eC (.str "fun")))) (Ym (eLst (Zb (eC (.str "fun")) Zg))) Yb)
  (Zr (sIf (tBl (Zf wEq (Zf Zq (Zd 0) (eC (.int 2))) (Zy Zg))) (Ym (eLst (Zb (Zf Zq (Zd 0) (eC (.int 1))) Zg))) Yb)
  (Zr (Z0 (eLst (Zb (Zf wAdd (eC (.str "(")) (Zf Zq (Zd 0) (eC (.int 1)))) Zg)) (gNm 2))
  (Zr (sFor (iSeq (Zf Zq (Zd 0) (eC (.int 2)))) (gNm 3)
  (Y7 (eMt tyL' Zlr (Zd 2) (Zb (eLst (Zb (eC (.str " ")) (Zb (Zy (Zb (Zd 1) (Zb (Zd 3) Zg))) Zg))) Zg))))
  (Ym (Zf wAdd (Zd 2) (eLst (Zb (eC (.str ")")) Zg)))))))))
def Zpz (P:Calls):WS:=
  (Ym (eMth P [("Runner",16)] "go" (Z7 P 45 (Zb (Zd 0) (Zb (Zd 1) Zg))) (Zb (Zd 2) Zg)))
def Zat (P:Calls):WS:=
  (Zr (Z0 (eLst Zg) (gNm 2))
  (Zr (sFor (iR1 (Zb (Zd 1) Zg)) (gNm 3)
  (Zr (Z0 (eC (.int 0)) (gNm 4))
  (Zr (sIf (tBl (Zf wGt (eBi bLen (Zb (Zd 0) Zg)) (eC (.int 0)))) (Z0 (Zf wMod (Zf Zq (Zd 0) (Zf wMod (Zd 3) (eBi bLen (Zb (Zd 0) Zg)))) (Zf wPow (eC (.int 10)) (eC (.int 18)))) (gNm 4)) Yb)
  (Y7 (eMt tyL' Zaj (Zd 2) (Zb (Zf wAdd (Zd 4) (Zf wMul (eC (.int 7919)) (Zf wDiv (Zd 3) (eBi bMax (Zb (eC (.int 1)) (Zb (eBi bLen (Zb (Zd 0) Zg)) Zg)))))) Zg))))))
  (Ym (Zd 2))))
def Zac (P:Calls):WS:=
  (Ym (Zf Zq (eLst (Zb (Zf wMod (Zd 0) (eC (.int 7))) (Zb (Zf wMod (Zf wMul (Zd 0) (eC (.int 982451653))) (Zf wPow (eC (.int 10)) (eC (.int 18)))) (Zb (Zf wSub (Zf wSub (Zf wPow (eC (.int 10)) (eC (.int 18))) (eC (.int 1))) (Zf wMod (Zd 0) (eC (.int 9)))) Zg)))) (Zf wMod (Zf wDiv (Zd 0) (eC (.int 7))) (eC (.int 3)))))
def Xv (P:Calls):WS:=
  (Zr (Z0 (eC (.str "(Cons ? ?)")) (gNm 2))
  (Zr (sFor (iRv (Zb (eSl (Zd 0) oNo (Zg7 (eBi bMax (Zb (eC (.int 0)) (Zb (Zf wSub (Zd 1) (eC (.int 1))) Zg))))) Zg)) (gNm 3)
  (Z0 (Zf wAdd (Zf wAdd (Zf wAdd (Zf wAdd (eC (.str "(Cons ")) (eBi Zoh (Zb (Zd 3) Zg))) (eC (.str " "))) (Zd 2)) (eC (.str ")"))) (gNm 2)))
  (Zr (sIf (tBl (Zf wGt (Zd 1) (eC (.int 0)))) (Ym (Zd 2)) Yb)
  (Ym (eC (.str "?"))))))
def Zbg (P:Calls):WS:=
  (Zr (Z0 (Zd 1) (gNm 2))
  (Zr (sFor (iRv (Zb (Zd 0) Zg)) (gNm 3)
  (Z0 (Zy (Zb (eC (.str "shape")) (Zb (eC (.str "Cons")) (Zb (Zy (Zb (Zy (Zb (eC (.str "number")) (Zb (Zd 3) Zg))) (Zb (Zd 2) Zg))) Zg)))) (gNm 2)))
  (Ym (Zd 2))))
def Jm (P:Calls):WS:=
  (Zr (Z0 (Zy (Zb (eC (.str "does")) (Zb (eC (.str "+")) (Zb (Zy (Zb (eC (.str "name")) (Zb (eC (.str "n")) Zg))) (Zb (Zy (Zb (eC (.str "number")) (Zb (Zd 2) Zg))) Zg))))) (gNm 4))
  (Zr (Z0 (Zy (Zb (eC (.str "fun")) (Zb (eC (.str "n")) (Zb (Zy (Zb (eC (.str "shape")) (Zb (eC (.str "Cons")) (Zb (Zy (Zb (Zy (Zb (eC (.str "name")) (Zb (eC (.str "n")) Zg))) (Zb (Zy (Zb (eC (.str "call")) (Zb (Zy (Zb (eC (.str "name")) (Zb (eC (.str "go")) Zg))) (Zb (Zd 4) Zg)))) Zg))) Zg)))) Zg)))) (gNm 5))
  (Zr (Z0 (Zy (Zb (eC (.str "does")) (Zb (Zd 0) (Zb (Zy (Zb (eC (.str "name")) (Zb (eC (.str "h")) Zg))) (Zb (Zy (Zb (eC (.str "number")) (Zb (Zd 1) Zg))) Zg))))) (gNm 6))
  (Zr (Z0 (Zy (Zb (eC (.str "shape")) (Zb (eC (.str "Cons")) (Zb (Zy (Zb (Zd 6) (Zb (Zy (Zb (eC (.str "call")) (Zb (Zy (Zb (eC (.str "name")) (Zb (eC (.str "each")) Zg))) (Zb (Zy (Zb (eC (.str "name")) (Zb (eC (.str "t")) Zg))) Zg)))) Zg))) Zg)))) (gNm 7))
  (Zr (Z0 (Zy (Zb (Zy (Zb (eC (.str "Nil")) (Zb (Zy Zg) (Zb (Zy (Zb (eC (.str "shape")) (Zb (eC (.str "Nil")) (Zb (Zy Zg) Zg)))) Zg)))) (Zb (Zy (Zb (eC (.str "Cons")) (Zb (Zy (Zb (eC (.str "h")) (Zb (eC (.str "t")) Zg))) (Zb (Zd 7) Zg)))) Zg))) (gNm 8))
  (Zr (Z0 (Zy (Zb (eC (.str "fun")) (Zb (eC (.str "l")) (Zb (Zy (Zb (eC (.str "choose")) (Zb (Zy (Zb (eC (.str "name")) (Zb (eC (.str "l")) Zg))) (Zb (Zd 8) Zg)))) Zg)))) (gNm 9))
  (Zr (Z0 (Zy (Zb (eC (.str "call")) (Zb (Zy (Zb (eC (.str "name")) (Zb (eC (.str "each")) Zg))) (Zb (Zy (Zb (eC (.str "call")) (Zb (Zy (Zb (eC (.str "name")) (Zb (eC (.str "go")) Zg))) (Zb (Zd 3) Zg)))) Zg)))) (gNm 10))
  (Ym (Zy (Zb (eC (.str "let")) (Zb (Zy (Zb (Zy (Zb (eC (.str "go")) (Zb (Zd 5) Zg))) (Zb (Zy (Zb (eC (.str "each")) (Zb (Zd 9) Zg))) Zg))) (Zb (Zd 10) Zg))))))))))))
def Xu (P:Calls):WS:=
  (Zr (sIf (tBl (Zf wEq (Zd 0) (eC (.str "+")))) (Ym (Zf wMod (Zf wAdd (Zd 1) (Zd 2)) (Zf wPow (eC (.int 10)) (eC (.int 18))))) Yb)
  (Zr (sIf (tBl (Zf wEq (Zd 0) (eC (.str "-")))) (Ym (Zf wMod (Zf wSub (Zd 1) (Zd 2)) (Zf wPow (eC (.int 10)) (eC (.int 18))))) Yb)
  (Ym (Zf wMod (Zf wMul (Zd 1) (Zd 2)) (Zf wPow (eC (.int 10)) (eC (.int 18)))))))
def Zb2 (P:Calls):WS:=
  (Ym (Zf wEqD (Z7 P 36 (aApp [.int 400] (Zb (Z7 P 40 (Zb (Zd 1) (Zb (Zy (Zb (eC (.str "stop")) (Zb (eC (.str "behind")) Zg))) Zg))) (Zb (eC (.int 3)) Zg)))) (Z7 P 36 (aApp [] (Zb (Z7 P 40 (Zb (Zd 1) (Zb (Zy (Zb (eC (.str "stop")) (Zb (eC (.str "behind")) Zg))) Zg))) (Zb (eC (.int 3)) (Zb (eC (.int 400)) Zg)))))))
def Zb1 (P:Calls):WS:=
  (Zr (Z0 (Z7 P 36 (aApp [.int 8,.int 400] (Zb (Zy (Zb (eC (.str "let")) (Zb (Zy (Zb (Zy (Zb (eC (.str "a")) (Zb (Zy (Zb (eC (.str "name")) (Zb (eC (.str "a")) Zg))) Zg))) Zg)) (Zb (Zy (Zb (eC (.str "name")) (Zb (eC (.str "a")) Zg))) Zg)))) Zg))) (gNm 2))
  (Zr (sIf (tOr' (tBl (Zf wNeD (eSl (Zd 2) oNo (Zg7 (eC (.int 3)))) (Zy (Zb (eC (.str "spent")) (Zb (eC (.str "")) (Zb (Zy (Zb (eC (.int 400)) (Zb (eC (.int 0)) (Zb (eC (.int 0)) Zg)))) Zg)))))) (tBl (Zf wNe (eBi bLen (Zb (Zf Zq (Zd 2) (eC (.int 3))) Zg)) (eC (.int 400))))) (Ym (eC (.bl false))) Yb)
  (Zb2 P)))
def Zag (P:Calls):WS:=
  (Zr (Z0 (Zci [none,some 0] (iR1 (Zb (eC (.int 11)) Zg)) (gNm 0) tYes (Z7 P 38 (Zb (Zf Zq (Zd 1) (Zf wAdd (eC (.int 1)) (Zd 0))) Zg))) (gNm 1))
  (Zr (Z0 (Z7 P 36 (aApp [.int 8,.int 400] (Zb (Z7 P 40 (Zb (Zd 1) (Zb (Zy (Zb (eC (.str "stop")) (Zb (eC (.str "behind")) Zg))) Zg))) Zg))) (gNm 2))
  (Zr (sIf (tOr' (tBl (Zf wNe (Zf Zq (Zd 2) (eC (.int 0))) (eC (.str "told")))) (tBl (Zf wNeD (Zf Zq (Zd 2) (eC (.int 1))) (Z7 P 39 (Zb (Zd 1) (Zb (eC (.int 8)) Zg)))))) (Ym (eC (.bl false))) Yb)
  (Zb1 P))))
def w_law_t1 (P:Calls):WS:=
  (Zr (Z0 (Zci [none,some 7,some 8,some 3,some 9] (iR1 (Zb (eC (.int 6)) Zg)) (gNm 0) tYes (Z7 P 42 (Zb (Zd 1) (Zb (Zf wMod (Zf wAdd (Zd 3) (Zf wMul (Zd 0) (Zd 4))) (Zf wPow (eC (.int 10)) (eC (.int 18)))) (Zb (Zd 2) Zg))))) (gNm 4))
  (Zr (Z0 (Z7 P 36 (aApp [] (Zb (Zd 11) (Zb (Zd 2) (Zb (eC (.int 200)) Zg))))) (gNm 6))
  (Ym (eAnd (Zf wEq (Zf Zq (Zd 6) (eC (.int 0))) (eC (.str "told"))) (Zf wEqD (Zf Zq (Zd 6) (eC (.int 1))) (Z7 P 39 (Zb (Zd 4) (Zb (Zd 2) Zg))))))))
def w_law_t2 (P:Calls):WS:=
  (Zr (Z0 (Z7 P 41 (Zb (Zd 7) (Zb (Zd 8) (Zb (Zd 9) (Zb (Zd 10) Zg))))) (gNm 11))
  (Zr (sIf (tBl (Zf wEq (Zf wMod (Zf wDiv (Zf Zq (Zd 1) (eC (.int 2))) (eC (.int 2))) (eC (.int 2))) (eC (.int 0)))) (Zr (Z0 (Zf Zq (eLst (Zb (Zy (Zb (eC (.str "stop")) (Zb (eC (.str "never")) Zg))) (Zb (Zy (Zb (eC (.str "name")) (Zb (eC (.str "b")) Zg))) Zg))) (Zf wMod (Zf wDiv (Zf Zq (Zd 1) (eC (.int 2))) (eC (.int 4))) (eC (.int 2)))) (gNm 12))
  (Z0 (Zy (Zb (eC (.str "let")) (Zb (Zy (Zb (Zy (Zb (eC (.str "b")) (Zb (Zd 12) Zg))) (Zb (Zy (Zb (eC (.str "a")) (Zb (Zy (Zb (eC (.str "number")) (Zb (Zd 3) Zg))) Zg))) Zg))) (Zb (Zd 11) Zg)))) (gNm 11))) Yb)
  (w_law_t1 P)))
def w_law_t3 (P:Calls):WS:=
  (Zr (Z0 (Zf Zq (eC (.str "+-*")) (Zf wMod (Zf Zq (Zd 1) (eC (.int 3))) (eC (.int 3)))) (gNm 7))
  (Zr (Z0 (Z7 P 38 (Zb (Zf Zq (Zd 1) (eC (.int 4))) Zg)) (gNm 8))
  (Zr (Z0 (Z7 P 38 (Zb (Zf Zq (Zd 1) (eC (.int 5))) Zg)) (gNm 9))
  (Zr (Z0 (Zy (Zb (eC (.str "number")) (Zb (Zd 3) Zg))) (gNm 10))
  (Zr (sIf (tBl (Zf wEq (Zf wMod (Zf wDiv (Zf Zq (Zd 1) (eC (.int 2))) (eC (.int 2))) (eC (.int 2))) (eC (.int 0)))) (Z0 (Zy (Zb (eC (.str "name")) (Zb (eC (.str "a")) Zg))) (gNm 10)) Yb)
  (w_law_t2 P))))))
def w_law_t4 (P:Calls):WS:=
  (Zr (Z0 (Z7 P 38 (Zb (Zf Zq (Zd 1) (eC (.int 1))) Zg)) (gNm 3))
  (Zr (sIf (tBl (Zf wEq (Zf wMod (Zf Zq (Zd 1) (eC (.int 2))) (eC (.int 2))) (eC (.int 0)))) (Zr (Z0 (Zci [none,some 1] (iR1 (Zb (Zf wMod (Zf Zq (Zd 1) (eC (.int 3))) (eC (.int 5))) Zg)) (gNm 0) tYes (Z7 P 38 (Zb (Zf Zq (Zd 1) (Zf wAdd (eC (.int 5)) (Zd 0))) Zg))) (gNm 4))
  (Zr (sIf (tBl (Zf wEq (Zf wMod (Zf wDiv (Zf Zq (Zd 1) (eC (.int 2))) (eC (.int 2))) (eC (.int 3))) (eC (.int 0)))) (Zr (Z0 (Zci [none,some 1] (iR1 (Zb (Zf wMod (Zf Zq (Zd 1) (eC (.int 3))) (eC (.int 23))) Zg)) (gNm 0) tYes (Z7 P 38 (Zb (Zf wAdd (Zf Zq (Zd 1) (Zf wAdd (eC (.int 5)) (Zf wMod (Zd 0) (eC (.int 7))))) (Zd 0)) Zg))) (gNm 4))
  (Z0 (Zf wMod (Zf Zq (Zd 1) (eC (.int 0))) (eC (.int 41))) (gNm 2))) Yb)
  (Zr (Z0 (Zf wAdd (eC (.str "w")) (eBi Zoh (Zb (Zf wMod (Zf Zq (Zd 1) (eC (.int 4))) (eC (.int 1000))) Zg))) (gNm 5))
  (Zr (Z0 (Z7 P 36 (aApp [] (Zb (Z7 P 40 (Zb (Zd 4) (Zb (Zy (Zb (eC (.str "stop")) (Zb (Zd 5) Zg))) Zg))) (Zb (Zd 2) (Zb (eC (.int 130)) Zg))))) (gNm 6))
  (Zr (sIf (tBl (Zf wGt (Zd 2) (eBi bLen (Zb (Zd 4) Zg)))) (Ym (eAnd (Zf wEq (Zf Zq (Zd 6) (eC (.int 0))) (eC (.str "stop"))) (Zf wEq (Zf Zq (Zd 6) (eC (.int 1))) (Zd 5)))) Yb)
  (Ym (eAnd (Zf wEq (Zf Zq (Zd 6) (eC (.int 0))) (eC (.str "told"))) (Zf wEqD (Zf Zq (Zd 6) (eC (.int 1))) (Z7 P 39 (Zb (Zd 4) (Zb (Zd 2) Zg))))))))))) Yb)
  (w_law_t3 P)))
def w_law (P:Calls):WS:=
  (Zr (Z0 (Z7 P 37 (Zb (Zd 0) (Zb (eC (.int 12)) Zg))) (gNm 1))
  (Zr (Z0 (Zf wMod (Zf Zq (Zd 1) (eC (.int 0))) (eC (.int 6))) (gNm 2))
  (Zr (sIf (tBl (Zf wEq (Zf wMod (Zf Zq (Zd 1) (eC (.int 2))) (eC (.int 7))) (eC (.int 6)))) (Ym (Z7 P 43 (Zb (Zd 1) Zg))) Yb)
  (w_law_t4 P))))
abbrev Zlw:Nat:=0
abbrev Zf3:Nat:=1
abbrev Zux:Nat:=2
abbrev Zlx:Nat:=3
abbrev Zv6:Nat:=4
abbrev i_put:Nat:=5
abbrev Zr4:Nat:=6
abbrev Zr2:Nat:=7
abbrev Zr3:Nat:=8
abbrev Zpk:Nat:=9
abbrev Zpj:Nat:=10
abbrev Zxz:Nat:=11
abbrev Zuy:Nat:=12
abbrev Zc0:Nat:=13
abbrev Z1o:Nat:=14
abbrev Zqj:Nat:=15
abbrev Zy3:Nat:=16
abbrev Zgz:Nat:=17
abbrev Zgx:Nat:=18
abbrev Zho:Nat:=19
abbrev Ze9:Nat:=20
abbrev Zeo:Nat:=21
abbrev Zfa:Nat:=22
abbrev Zeq:Nat:=23
abbrev Ze8:Nat:=24
abbrev Zgy:Nat:=25
abbrev Zep:Nat:=26
abbrev Zj0:Nat:=27
abbrev Zjy:Nat:=28
abbrev Zf4:Nat:=29
abbrev Zj1:Nat:=30
abbrev Zjx:Nat:=31
abbrev Zjz:Nat:=32
abbrev Zi6:Nat:=33
abbrev Zfb:Nat:=34
abbrev Znu:Nat:=35
abbrev i_run:Nat:=36
abbrev Zly:Nat:=37
abbrev Zjw:Nat:=38
abbrev Zhn:Nat:=39
abbrev Znv:Nat:=40
abbrev Zen:Nat:=41
abbrev Zhl:Nat:=42
abbrev Zhm:Nat:=43
abbrev i_law:Nat:=44
abbrev Zx0:Nat:=45
def pr:List Df:=[⟨3,2,Y2⟩,⟨2,2,Zar⟩,⟨2,1,Zdh⟩,⟨3,2,Zas⟩,⟨5,2,Za7⟩,⟨3,2,Zmq⟩,⟨8,2,Zbx⟩,⟨4,2,Zcq⟩,⟨1,1,Zd5⟩,⟨1,1,Zc4⟩,⟨4,3,Zc3⟩,⟨1,1,Zhp⟩,⟨3,2,Zfh⟩,⟨3,2,X6⟩,⟨2,2,Zk3⟩,⟨3,3,X0⟩,⟨2,2,Zcb⟩,⟨2,2,X9⟩,⟨2,1,X7⟩,⟨1,1,Zah⟩,⟨2,1,Xk⟩,⟨1,1,Xc⟩,⟨1,1,Xl⟩,⟨3,2,Xe⟩,⟨4,3,Xj⟩,⟨3,3,X8⟩,⟨1,1,Xd⟩,⟨6,3,Zbb⟩,⟨6,3,Za9⟩,⟨4,3,Xz⟩,⟨3,2,Zbc⟩,⟨3,3,Za8⟩,⟨3,3,Zba⟩,⟨2,2,Zau⟩,⟨2,2,Xm⟩,⟨4,2,Zca⟩,⟨3,3,Zpz⟩,⟨5,2,Zat⟩,⟨1,1,Zac⟩,⟨4,2,Xv⟩,⟨4,2,Zbg⟩,⟨11,4,Jm⟩,⟨3,3,Xu⟩,⟨3,1,Zag⟩,⟨13,1,w_law⟩,⟨2,2,wNew "Runner" 15⟩]
section
variable {n:Nat}{vs:List T}{C:Hw}{Q:WK}{χ:WX}
theorem Xo (hl:vs.length=2)(h:Y2 (wpc pr n) (ZUD Q χ) (vs.map some++List.replicate 1 none) C):wpc pr (n+1) 0 vs C Q χ:=⟨_,rfl,hl,h⟩
theorem Zk5 (hl:vs.length=2)(h:Zar (wpc pr n) (ZUD Q χ) (vs.map some++List.replicate 0 none) C):wpc pr (n+1) 1 vs C Q χ:=⟨_,rfl,hl,h⟩
theorem Zsk (hl:vs.length=1)(h:Zdh (wpc pr n) (ZUD Q χ) (vs.map some++List.replicate 1 none) C):wpc pr (n+1) 2 vs C Q χ:=⟨_,rfl,hl,h⟩
theorem Zk7 (hl:vs.length=2)(h:Zas (wpc pr n) (ZUD Q χ) (vs.map some++List.replicate 1 none) C):wpc pr (n+1) 3 vs C Q χ:=⟨_,rfl,hl,h⟩
theorem Zv5 (hl:vs.length=2)(h:Za7 (wpc pr n) (ZUD Q χ) (vs.map some++List.replicate 3 none) C):wpc pr (n+1) 4 vs C Q χ:=⟨_,rfl,hl,h⟩
theorem u_put (hl:vs.length=2)(h:Zmq (wpc pr n) (ZUD Q χ) (vs.map some++List.replicate 1 none) C):wpc pr (n+1) 5 vs C Q χ:=⟨_,rfl,hl,h⟩
theorem Zj7 (hl:vs.length=2)(h:Zbx (wpc pr n) (ZUD Q χ) (vs.map some++List.replicate 6 none) C):wpc pr (n+1) 6 vs C Q χ:=⟨_,rfl,hl,h⟩
theorem Zq5 (hl:vs.length=2)(h:Zcq (wpc pr n) (ZUD Q χ) (vs.map some++List.replicate 2 none) C):wpc pr (n+1) 7 vs C Q χ:=⟨_,rfl,hl,h⟩
theorem Zq6 (hl:vs.length=1)(h:Zd5 (wpc pr n) (ZUD Q χ) (vs.map some++List.replicate 0 none) C):wpc pr (n+1) 8 vs C Q χ:=⟨_,rfl,hl,h⟩
theorem Zom (hl:vs.length=1)(h:Zc4 (wpc pr n) (ZUD Q χ) (vs.map some++List.replicate 0 none) C):wpc pr (n+1) 9 vs C Q χ:=⟨_,rfl,hl,h⟩
theorem Zol (hl:vs.length=3)(h:Zc3 (wpc pr n) (ZUD Q χ) (vs.map some++List.replicate 1 none) C):wpc pr (n+1) 10 vs C Q χ:=⟨_,rfl,hl,h⟩
theorem Zwd (hl:vs.length=1)(h:Zhp (wpc pr n) (ZUD Q χ) (vs.map some++List.replicate 0 none) C):wpc pr (n+1) 11 vs C Q χ:=⟨_,rfl,hl,h⟩
theorem Zsl (hl:vs.length=2)(h:Zfh (wpc pr n) (ZUD Q χ) (vs.map some++List.replicate 1 none) C):wpc pr (n+1) 12 vs C Q χ:=⟨_,rfl,hl,h⟩
theorem Zcs (hl:vs.length=2)(h:X6 (wpc pr n) (ZUD Q χ) (vs.map some++List.replicate 1 none) C):wpc pr (n+1) 13 vs C Q χ:=⟨_,rfl,hl,h⟩
theorem Zzo (hl:vs.length=2)(h:Zk3 (wpc pr n) (ZUD Q χ) (vs.map some++List.replicate 0 none) C):wpc pr (n+1) 14 vs C Q χ:=⟨_,rfl,hl,h⟩
theorem Zfl (hl:vs.length=3)(h:X0 (wpc pr n) (ZUD Q χ) (vs.map some++List.replicate 0 none) C):wpc pr (n+1) 15 vs C Q χ:=⟨_,rfl,hl,h⟩
theorem Zmx (hl:vs.length=2)(h:Zcb (wpc pr n) (ZUD Q χ) (vs.map some++List.replicate 0 none) C):wpc pr (n+1) 16 vs C Q χ:=⟨_,rfl,hl,h⟩
theorem Zgj (hl:vs.length=2)(h:X9 (wpc pr n) (ZUD Q χ) (vs.map some++List.replicate 0 none) C):wpc pr (n+1) 17 vs C Q χ:=⟨_,rfl,hl,h⟩
theorem Zgh (hl:vs.length=1)(h:X7 (wpc pr n) (ZUD Q χ) (vs.map some++List.replicate 1 none) C):wpc pr (n+1) 18 vs C Q χ:=⟨_,rfl,hl,h⟩
theorem Zhi (hl:vs.length=1)(h:Zah (wpc pr n) (ZUD Q χ) (vs.map some++List.replicate 0 none) C):wpc pr (n+1) 19 vs C Q χ:=⟨_,rfl,hl,h⟩
theorem Ze2 (hl:vs.length=1)(h:Xk (wpc pr n) (ZUD Q χ) (vs.map some++List.replicate 1 none) C):wpc pr (n+1) 20 vs C Q χ:=⟨_,rfl,hl,h⟩
theorem Zeg (hl:vs.length=1)(h:Xc (wpc pr n) (ZUD Q χ) (vs.map some++List.replicate 0 none) C):wpc pr (n+1) 21 vs C Q χ:=⟨_,rfl,hl,h⟩
theorem Ze3 (hl:vs.length=1)(h:Xl (wpc pr n) (ZUD Q χ) (vs.map some++List.replicate 0 none) C):wpc pr (n+1) 22 vs C Q χ:=⟨_,rfl,hl,h⟩
theorem Zei (hl:vs.length=2)(h:Xe (wpc pr n) (ZUD Q χ) (vs.map some++List.replicate 1 none) C):wpc pr (n+1) 23 vs C Q χ:=⟨_,rfl,hl,h⟩
theorem Ze1 (hl:vs.length=3)(h:Xj (wpc pr n) (ZUD Q χ) (vs.map some++List.replicate 1 none) C):wpc pr (n+1) 24 vs C Q χ:=⟨_,rfl,hl,h⟩
theorem Zgi (hl:vs.length=3)(h:X8 (wpc pr n) (ZUD Q χ) (vs.map some++List.replicate 0 none) C):wpc pr (n+1) 25 vs C Q χ:=⟨_,rfl,hl,h⟩
theorem Zeh (hl:vs.length=1)(h:Xd (wpc pr n) (ZUD Q χ) (vs.map some++List.replicate 0 none) C):wpc pr (n+1) 26 vs C Q χ:=⟨_,rfl,hl,h⟩
theorem Zjp (hl:vs.length=3)(h:Zbb (wpc pr n) (ZUD Q χ) (vs.map some++List.replicate 3 none) C):wpc pr (n+1) 27 vs C Q χ:=⟨_,rfl,hl,h⟩
theorem Zjn (hl:vs.length=3)(h:Za9 (wpc pr n) (ZUD Q χ) (vs.map some++List.replicate 3 none) C):wpc pr (n+1) 28 vs C Q χ:=⟨_,rfl,hl,h⟩
theorem Zfk (hl:vs.length=3)(h:Xz (wpc pr n) (ZUD Q χ) (vs.map some++List.replicate 1 none) C):wpc pr (n+1) 29 vs C Q χ:=⟨_,rfl,hl,h⟩
theorem Zjq (hl:vs.length=2)(h:Zbc (wpc pr n) (ZUD Q χ) (vs.map some++List.replicate 1 none) C):wpc pr (n+1) 30 vs C Q χ:=⟨_,rfl,hl,h⟩
theorem Zjm (hl:vs.length=3)(h:Za8 (wpc pr n) (ZUD Q χ) (vs.map some++List.replicate 0 none) C):wpc pr (n+1) 31 vs C Q χ:=⟨_,rfl,hl,h⟩
theorem Zjo (hl:vs.length=3)(h:Zba (wpc pr n) (ZUD Q χ) (vs.map some++List.replicate 0 none) C):wpc pr (n+1) 32 vs C Q χ:=⟨_,rfl,hl,h⟩
theorem Zh4 (hl:vs.length=2)(h:Zau (wpc pr n) (ZUD Q χ) (vs.map some++List.replicate 0 none) C):wpc pr (n+1) 33 vs C Q χ:=⟨_,rfl,hl,h⟩
theorem Ze4 (hl:vs.length=2)(h:Xm (wpc pr n) (ZUD Q χ) (vs.map some++List.replicate 0 none) C):wpc pr (n+1) 34 vs C Q χ:=⟨_,rfl,hl,h⟩
theorem Zmv (hl:vs.length=2)(h:Zca (wpc pr n) (ZUD Q χ) (vs.map some++List.replicate 2 none) C):wpc pr (n+1) 35 vs C Q χ:=⟨_,rfl,hl,h⟩
theorem u_run (hl:vs.length=3)(h:Zpz (wpc pr n) (ZUD Q χ) (vs.map some++List.replicate 0 none) C):wpc pr (n+1) 36 vs C Q χ:=⟨_,rfl,hl,h⟩
theorem Zk8 (hl:vs.length=2)(h:Zat (wpc pr n) (ZUD Q χ) (vs.map some++List.replicate 3 none) C):wpc pr (n+1) 37 vs C Q χ:=⟨_,rfl,hl,h⟩
theorem Zjl (hl:vs.length=1)(h:Zac (wpc pr n) (ZUD Q χ) (vs.map some++List.replicate 0 none) C):wpc pr (n+1) 38 vs C Q χ:=⟨_,rfl,hl,h⟩
theorem Zhh (hl:vs.length=2)(h:Xv (wpc pr n) (ZUD Q χ) (vs.map some++List.replicate 2 none) C):wpc pr (n+1) 39 vs C Q χ:=⟨_,rfl,hl,h⟩
theorem Zmw (hl:vs.length=2)(h:Zbg (wpc pr n) (ZUD Q χ) (vs.map some++List.replicate 2 none) C):wpc pr (n+1) 40 vs C Q χ:=⟨_,rfl,hl,h⟩
theorem Zef (hl:vs.length=4)(h:Jm (wpc pr n) (ZUD Q χ) (vs.map some++List.replicate 7 none) C):wpc pr (n+1) 41 vs C Q χ:=⟨_,rfl,hl,h⟩
theorem Zhf (hl:vs.length=3)(h:Xu (wpc pr n) (ZUD Q χ) (vs.map some++List.replicate 0 none) C):wpc pr (n+1) 42 vs C Q χ:=⟨_,rfl,hl,h⟩
theorem Zhg (hl:vs.length=1)(h:Zag (wpc pr n) (ZUD Q χ) (vs.map some++List.replicate 2 none) C):wpc pr (n+1) 43 vs C Q χ:=⟨_,rfl,hl,h⟩
theorem u_law (hl:vs.length=1)(h:w_law (wpc pr n) (ZUD Q χ) (vs.map some++List.replicate 12 none) C):wpc pr (n+1) 44 vs C Q χ:=⟨_,rfl,hl,h⟩
theorem Zk6 (hl:vs.length=2)(h:∀p,C p=none→wpc pr n 15 (.ref p::vs) (up C p (.ins "Runner" [])) (fun v C2=>v=.non∧Q (.ref p) C2) χ):wpc pr (n+1) 45 vs C Q χ:=⟨_,rfl,hl,vs,YK _,h⟩
end
def top (i:Nat):Stmt:=PySem.Challenge.pw_idlegraph_k37_endless_lists.main.body.getD i (.Pass ⟨0,0,0,0⟩)
structure Txt (w:World)(K:W.Frag)(mg:Str→Option Value):Prop where
 zb7:mg "any"=none
 zbs:mg "dict"=none
 zbv:mg "enumerate"=none
 zbq:mg "isinstance"=none
 zaz:mg "len"=none
 zbp:mg "list"=none
 zbw:mg "max"=none
 zat:mg "range"=none
 zax:mg "reversed"=none
 za3:mg "str"=none
 za0:mg "tuple"=none
 zby:mg "zip"=none
 zb5:Glb K mg "MARKS" g_MARKS
 zb3:Glb K mg "VALUES" g_VALUES
 zai:KF K "cells" "Runner"
 zab:KF K "ending" "Runner"
 zag:KF K "firsts" "Runner"
 zaa:KF K "hand" "Runner"
 zah:KF K "labels" "Runner"
 zas:KF K "log" "Runner"
 zae:KF K "pile" "Runner"
 zad:KF K "steps" "Runner"
 zaj:KF K "still" "Runner"
 zan:KF K "things" "Runner"
 zak:KF K "told" "Runner"
 zam:KF K "wanted" "Runner"
structure Cs (Pg:Program)(w:World)(K:W.Frag)(mg:Str→Option Value)(base:Heap)(n:Nat):Prop where
 zbn:Ca Pg w K mg base n "with_parts" ["term","given"] (spW K pr n 0)
 zar:Ca Pg w K mg base n "with_lasts" ["tuples","lasts"] (spW K pr n 1)
 zb4:Ca Pg w K mg base n "scopes" ["term"] (spW K pr n 2)
 zbo:Ca Pg w K mg base n "let_scopes" ["pairs","body"] (spW K pr n 3)
 zbl:Ca Pg w K mg base n "rows_scopes" ["body","steps"] (spW K pr n 4)
 za5:Ca Pg w K mg base n "put" ["term","marks"] (spW K pr n 5)
 zba:Ca Pg w K mg base n "changed" ["term","marks"] (spW K pr n 6)
 zb0:Ca Pg w K mg base n "without" ["marks","names"] (spW K pr n 7)
 zbz:Ca Pg w K mg base n "is_mark" ["term"] (spW K pr n 8)
 za4:Ca Pg w K mg base n "is_value" ["term"] (spW K pr n 9)
 zbx:Ca Pg w K mg base n "reckoned" ["op","one","other"] (spW K pr n 10)
 zbi:Ca Pg w K mg base n "truth" ["holds"] (spW K pr n 11)
 zb2:Ca Pg w K mg base n "picked" ["value","alternatives"] (spW K pr n 12)
 zav:Ca Pg w K mg base n "alternative_of" ["value","alternatives"] (spW K pr n 13)
 zb6:Ca Pg w K mg base n "fits" ["value","frame"] (spW K pr n 14)
 zbu:Ca Pg w K mg base n "pieces_of" ["value","depth"] (spW K pr n 35)
 zaw:CaD Pg w K mg base n "run" ["term","depth","most"] [8,400] (spW K pr n 36)
 zbr:Ca Pg w K mg base n "_law_draws" ["_law_script","_law_many"] (spW K pr n 37)
 zaf:Ca Pg w K mg base n "_law_number" ["_law_draw"] (spW K pr n 38)
 zal:Ca Pg w K mg base n "_law_cut_text" ["_law_numbers","_law_deep"] (spW K pr n 39)
 zao:Ca Pg w K mg base n "_law_list" ["_law_numbers","_law_tail"] (spW K pr n 40)
 za8:Ca Pg w K mg base n "_law_gone_through" ["_law_op","_law_by","_law_more","_law_start"] (spW K pr n 41)
 zbh:Ca Pg w K mg base n "_law_reckoned" ["_law_op","_law_one","_law_by"] (spW K pr n 42)
 zbg:Ca Pg w K mg base n "_law_left_out" ["_law_draws_here"] (spW K pr n 43)
 zb8:Ca Pg w K mg base n "law" ["_law_script"] (spW K pr n 44)
 zb9:Cm Pg w K mg base n "Runner" "__init__" ["self","term","depth"] (spW K pr n 15)
 zbt:Cm Pg w K mg base n "Runner" "go" ["self","most"] (spW K pr n 16)
 zbe:Cm Pg w K mg base n "Runner" "advance" ["self","most"] (spW K pr n 17)
 zbf:Cm Pg w K mg base n "Runner" "outcome" ["self"] (spW K pr n 18)
 zay:Cm Pg w K mg base n "Runner" "settle" ["self"] (spW K pr n 19)
 zbd:Cm Pg w K mg base n "Runner" "tell_next" ["self"] (spW K pr n 20)
 za6:Cm Pg w K mg base n "Runner" "tell_value" ["self"] (spW K pr n 21)
 zbc:Cm Pg w K mg base n "Runner" "take_step" ["self"] (spW K pr n 22)
 za7:Cm Pg w K mg base n "Runner" "take_apart" ["self","term"] (spW K pr n 23)
 zbb:Cm Pg w K mg base n "Runner" "use_value" ["self","value","frame"] (spW K pr n 24)
 zac:Cm Pg w K mg base n "Runner" "go_into" ["self","term","frame"] (spW K pr n 25)
 zaq:Cm Pg w K mg base n "Runner" "take_frame" ["self"] (spW K pr n 26)
 zbk:Cm Pg w K mg base n "Runner" "bind" ["self","pairs","body"] (spW K pr n 27)
 zbm:Cm Pg w K mg base n "Runner" "make" ["self","shape","given"] (spW K pr n 28)
 zau:Cm Pg w K mg base n "Runner" "mark_for" ["self","label","text"] (spW K pr n 29)
 za2:Cm Pg w K mg base n "Runner" "bear" ["self","label"] (spW K pr n 30)
 zap:Cm Pg w K mg base n "Runner" "note" ["self","event","number"] (spW K pr n 31)
 za1:Cm Pg w K mg base n "Runner" "keep" ["self","number","text"] (spW K pr n 32)
 zbj:Cm Pg w K mg base n "Runner" "enter" ["self","number"] (spW K pr n 33)
 za9:Cm Pg w K mg base n "Runner" "come_back" ["self","number"] (spW K pr n 34)
 zb1:Cn Pg w K mg base n pr "Runner" 15 45
section
variable {Pg:Program}{w:World}{K:W.Frag}{mg:Str→Option Value}{base:Heap}{f:Addr}{fd:FuncData}{n:Nat}
def ZFK (Pg:Program)(w:World)(K:W.Frag)(mg:Str→Option Value)(base:Heap)(n:Nat)(x q:Str)(st:Stmt)(ps:List Str)(i:Nat):Prop:=∀{f:Addr} {fd:FuncData},Txt w K mg→Cs Pg w K mg base n→Fun K x q st f fd→FnOk Pg w K mg base CX0 (n+1) f fd ps (spW K pr (n+1) i)
local macro_rules | `(tactic| walk_at "sc") => `(tactic| exact ⟨rfl, rfl, rfl, by decide +kernel, rfl, by decide +kernel, by decide +kernel⟩)
abbrev J5:Stmt:=top 1
theorem Zer:FnScope ["term","given","sort"] ["term","given"] (Zh J5):=by walk_at "sc"
theorem Zjs:ZFK Pg w K mg base n "with_parts" "with_parts" J5 ["term","given"] 0:=fun T S F=>Z6 F Zer rfl rfl rfl fun _ _ _ _ _ _ hr=>by
  have nd:=Zer.nd
  have hu:=hu150 hr
  show SdB _ (Zl J5) (Y2 (wpc pr n))
  unfold Y2
  exact(Zi (Zz (i:=2) nd (Zw (Zc 0) Zj))
   (Zi (Z2 (Zs (Y8 hu) (Zc 2) Zm) (Zk (Zv (Zp (Za Zm (Za (Zw (Zc 0) Zj) (Za (Zw (Zc 1) Zj) (Za (Zw (Zc 1) Zj) Ze))))))) Z8)
   (Zi (Z2 (dt_w (Zn2 (Zs (Y8 hu) (Zc 2) Zm) (Zja (Zs (Y8 hu) (Zc 2) Zm)))) (Zk (Zv (Zp (Za (Zc 2) (Za (Zw (Zc 1) Zj) (Za (Zw (Zc 1) Zj) Ze)))))) Z8)
   (Zi (Z2 (Zs (Y8 hu) (Zc 2) Zm) (Zk (Zv (Zp (Za Zm (Za (Zw (Zc 0) Zj) (Za (Zw (Zc 1) Zj) Ze)))))) Z8)
   (Zi (Z2 (Zs (Y8 hu) (Zc 2) Zm) (Zk (Zv (Zp (Za Zm (Za (Ya S.zar hr (by rfl) (Za (Zw (Zc 0) Zj) (Za (d_sl (Zc 1) Zeb (Zea (Zn9 Zj))) Ze))) (Za (Zw (Zc 1) (Zn9 Zj)) Ze)))))) Z8)
   (Zi (Z2 (Zs (Y8 hu) (Zc 2) Zm) (Zk (Zv (Zp (Za Zm (Za (Zw (Zc 0) Zj) (Za (d_ty Zh2 (by rfl) T.za0 Zgc (Za (Zc 1) Ze)) Ze)))))) Z8)
   (Zi (Z2 (Zs (Y8 hu) (Zc 2) Zm) (Zk (Zv (Zp (Za Zm (Za (Zw (Zc 1) Zj) (Za (Ya S.zar hr (by rfl) (Za (Zw (Zc 0) Zj) (Za (d_sl (Zc 1) (Zea Zj) Zeb) Ze))) Ze)))))) Z8)
   (Zi (Z2 (Zs (Y8 hu) (Zc 2) Zm) (Zk (Zv (Zp (Za Zm (Za (Zw (Zc 1) Zj) (Za (Ya S.zar hr (by rfl) (Za (Zw (Zc 0) Zj) (Za (d_sl (Zc 1) (Zea Zj) Zeb) Ze))) Ze)))))) Z8)
   (Zk (Zv (Zc 0)))))))))))
abbrev J6:Stmt:=top 2
theorem Zes:FnScope ["tuples","lasts"] ["tuples","lasts"] (Zh J6):=by walk_at "sc"
theorem Zjt:ZFK Pg w K mg base n "with_lasts" "with_lasts" J6 ["tuples","lasts"] 1:=fun T S F=>Z6 F Zes rfl rfl rfl fun _ _ _ _ _ _ hr=>by
  show SdB _ (Zl J6) (Zar (wpc pr n))
  unfold Zar
  exact(Zk (Zv (d_ty Zh2 (by rfl) T.za0 Zgc (Za (Zg1 (cN:=["one","last"]) (cap:=[none,none]) (cl:=[]) (js:=([0]++([1]++[]))) (g:=(gTup _ 2 (Zc2 (Zao 0) (Zc2 (Zao 1) gNil)))) ⟨rfl,(fun _=>Zh1 rfl (by decide+kernel) (by decide+kernel) rfl (by decide)),(Z10 (by rfl) T.zby (Za (Zc 0) (Za (Zc 1) Ze))),(fun _ _ _=>Zik (n:=2) rfl (Zae (Xg (i:=0) (show(["one","last"]:List Str).Nodup by decide+kernel) rfl (Or.inl rfl)) (Zae (Xg (i:=1) (show(["one","last"]:List Str).Nodup by decide+kernel) rfl (Or.inl rfl)) Zfr))),(Zlz (Xs Yd (Xs Yd Za5))),(Zl0 (Zbw Xt Yd (Zbw Xt Yd Zl1 Za5) (Xs Yd Za5))),(Zh7 (Zbd J1 (Zbd J1 Zh8)) (Jj (Jj Zd0))),by decide+kernel,fun _ _ _=>Zbf,fun _ _ _=>(Yn Zaf (d_sl (Zc 0) Zeb (Zea (Zn9 Zj))) (Zp (Za (Zc 1) Ze))),fun _=>rfl⟩) Ze))))
abbrev Za1:Stmt:=top 4
theorem Zkb:FnScope ["term","sort"] ["term"] (Zh Za1):=by walk_at "sc"
theorem Zrn:ZFK Pg w K mg base n "scopes" "scopes" Za1 ["term"] 2:=fun T S F=>Z6 F Zkb rfl rfl rfl fun _ _ _ _ _ _ hr=>by
  have nd:=Zkb.nd
  have hu:=hu150 hr
  show SdB _ (Zl Za1) (Zdh (wpc pr n))
  unfold Zdh
  exact(Zi (Zz (i:=1) nd (Zw (Zc 0) Zj))
   (Zi (Z2 (Zs (Y8 hu) (Zc 1) Zm) (Zk (Zv (X3 (Za (Zp (Za (Zp Ze) (Za (Zw (Zc 0) Zj) Ze))) (Za (Zp (Za (Zp Ze) (Za (Zw (Zc 0) Zj) Ze))) Ze))))) Z8)
   (Zi (Z2 (dt_w (Zn2 (Zs (Y8 hu) (Zc 1) Zm) (Zja (Zs (Y8 hu) (Zc 1) Zm)))) (Zk (Zv (X3 (Za (Zp (Za (Zp Ze) (Za (Zw (Zc 0) Zj) Ze))) (Za (Zp (Za (Zp Ze) (Za (Zw (Zc 0) Zj) Ze))) Ze))))) Z8)
   (Zi (Z2 (Zs (Y8 hu) (Zc 1) Zm) (Zk (Zv (X3 (Za (Zp (Za (Zp (Za (Zw (Zc 0) Zj) Ze)) (Za (Zw (Zc 0) Zj) Ze))) Ze)))) Z8)
   (Zi (Z2 (Zs (Y8 hu) (Zc 1) Zm) (Zk (Zv (Ya S.zbo hr (by rfl) (Za (Zw (Zc 0) Zj) (Za (Zw (Zc 0) Zj) Ze))))) Z8)
   (Zi (Z2 (Zs (Y8 hu) (Zc 1) Zm) (Zk (Zv (Zg1 (cN:=["part"]) (cap:=[none]) (cl:=[]) (js:=[0]) (g:=(Zao 0)) ⟨rfl,(fun _=>Zh1 rfl (by decide+kernel) (by decide+kernel) rfl (by decide)),(Zb8 (Zw (Zc 0) Zj)),(fun _ _ _=>Xg (i:=0) (show(["part"]:List Str).Nodup by decide+kernel) rfl (Or.inl rfl)),Yd,Xt,J1,by decide+kernel,fun _ _ _=>Zbf,fun _ _ _=>(Zp (Za (Zp Ze) (Za (Zc 0) Ze))),fun _=>rfl⟩))) Z8)
   (Zi (Z2 (Zs (Y8 hu) (Zc 1) Zm) (Zk (Zv (Yn Zaf (X3 (Za (Zp (Za (Zp Ze) (Za (Zw (Zc 0) Zj) Ze))) Ze)) (Zg1 (cN:=["shape","names","body"]) (cap:=[none,none,none]) (cl:=[]) (js:=([0]++([1]++([2]++[])))) (g:=(gTup _ 3 (Zc2 (Zao 0) (Zc2 (Zao 1) (Zc2 (Zao 2) gNil))))) ⟨rfl,(fun _=>Zh1 rfl (by decide+kernel) (by decide+kernel) rfl (by decide)),(Zb8 (Zw (Zc 0) Zj)),(fun _ _ _=>Zik (n:=3) rfl (Zae (Xg (i:=0) (show(["shape","names","body"]:List Str).Nodup by decide+kernel) rfl (Or.inl rfl)) (Zae (Xg (i:=1) (show(["shape","names","body"]:List Str).Nodup by decide+kernel) rfl (Or.inl rfl)) (Zae (Xg (i:=2) (show(["shape","names","body"]:List Str).Nodup by decide+kernel) rfl (Or.inl rfl)) Zfr)))),(Zlz (Xs Yd (Xs Yd (Xs Yd Za5)))),(Zl0 (Zbw Xt Yd (Zbw Xt Yd (Zbw Xt Yd Zl1 Za5) (Xs Yd Za5)) (Xs Yd (Xs Yd Za5)))),(Zh7 (Zbd J1 (Zbd J1 (Zbd J1 Zh8))) (Jj (Jj (Jj Zd0)))),by decide+kernel,fun _ _ _=>Zbf,fun _ _ _=>(Zp (Za (Zc 1) (Za (Zc 2) Ze))),fun _=>rfl⟩)))) Z8)
   (Zi (Z2 (Zs (Y8 hu) (Zc 1) Zm) (Zk (Zv (Ya S.zbl hr (by rfl) (Za (Zw (Zc 0) Zj) (Za (Zw (Zc 0) Zj) Ze))))) Z8)
   (Zk (Zv (X3 Ze)))))))))))
abbrev J7:Stmt:=top 5
theorem Zet:FnScope ["pairs","body","names"] ["pairs","body"] (Zh J7):=by walk_at "sc"
theorem Zju:ZFK Pg w K mg base n "let_scopes" "let_scopes" J7 ["pairs","body"] 3:=fun T S F=>Z6 F Zet rfl rfl rfl fun _ _ _ _ _ _ hr=>by
  have nd:=Zet.nd
  show SdB _ (Zl J7) (Zas (wpc pr n))
  unfold Zas
  exact(Zi (Zz (i:=2) nd (d_ty Zh2 (by rfl) T.za0 Zgc (Za (Zg1 (cN:=["name","part"]) (cap:=[none,none]) (cl:=[]) (js:=([0]++([1]++[]))) (g:=(gTup _ 2 (Zc2 (Zao 0) (Zc2 (Zao 1) gNil)))) ⟨rfl,(fun _=>Zh1 rfl (by decide+kernel) (by decide+kernel) rfl (by decide)),(Zb8 (Zc 0)),(fun _ _ _=>Zik (n:=2) rfl (Zae (Xg (i:=0) (show(["name","part"]:List Str).Nodup by decide+kernel) rfl (Or.inl rfl)) (Zae (Xg (i:=1) (show(["name","part"]:List Str).Nodup by decide+kernel) rfl (Or.inl rfl)) Zfr))),(Zlz (Xs Yd (Xs Yd Za5))),(Zl0 (Zbw Xt Yd (Zbw Xt Yd Zl1 Za5) (Xs Yd Za5))),(Zh7 (Zbd J1 (Zbd J1 Zh8)) (Jj (Jj Zd0))),by decide+kernel,fun _ _ _=>Zbf,fun _ _ _=>(Zc 0),fun _=>rfl⟩) Ze)))
   (Zk (Zv (Yn Zaf (Zg1 (cN:=["name","part","names"]) (cap:=[none,none,some 2]) (cl:=(Zay _ _ [])) (js:=([0]++([1]++[]))) (g:=(gTup _ 2 (Zc2 (Zao 0) (Zc2 (Zao 1) gNil)))) ⟨rfl,(fun ok=>Zed ok rfl (by decide+kernel) (by decide+kernel) rfl rfl rfl),(Zb8 (Zc 0)),(fun _ _ _=>Zik (n:=2) rfl (Zae (Xg (i:=0) (show(["name","part","names"]:List Str).Nodup by decide+kernel) rfl (Or.inl rfl)) (Zae (Xg (i:=1) (show(["name","part","names"]:List Str).Nodup by decide+kernel) rfl (Or.inl rfl)) Zfr))),(Zlz (Xs Yd (Xs Yd Za5))),(Zl0 (Zbw Xt Yd (Zbw Xt Yd Zl1 Za5) (Xs Yd Za5))),(Zh7 (Zbd J1 (Zbd J1 Zh8)) (Jj (Jj Zd0))),by decide+kernel,fun _ _ _=>Zbf,fun _ _ _=>(Zp (Za (Zc 2) (Za (Zc 1) Ze))),fun _=>rfl⟩) (X3 (Za (Zp (Za (Zc 2) (Za (Zc 1) Ze))) Ze))))))
abbrev Jq:Stmt:=top 6
theorem Zdj:FnScope ["body","steps","bound","behind","step"] ["body","steps"] (Zh Jq):=by walk_at "sc"
theorem Zio:ZFK Pg w K mg base n "rows_scopes" "rows_scopes" Jq ["body","steps"] 4:=fun T S F=>Z6 F Zdj rfl rfl rfl fun _ _ _ _ _ _ hr=>by
  show SdB _ (Zl Jq) (Za7 (wpc pr n))
  unfold Za7
  exact Zvp
abbrev Ze5:Stmt:=top 8
theorem Zs2:FnScope ["term","marks","given"] ["term","marks"] (Zh Ze5):=by walk_at "sc"
theorem Z00:ZFK Pg w K mg base n "put" "put" Ze5 ["term","marks"] 5:=fun T S F=>Z6 F Zs2 rfl rfl rfl fun _ _ _ _ _ _ hr=>by
  have nd:=Zs2.nd
  show SdB _ (Zl Ze5) (Zmq (wpc pr n))
  unfold Zmq
  exact(Zi (Zz (i:=2) nd (Ya S.zba hr (by rfl) (Za (Zc 0) (Za (Zc 1) Ze))))
   (Zk (Zv (Zjd (Zs Ziv (Zc 2) Zaz) (Zc 0) (Zc 2)))))
abbrev Zam:Stmt:=top 9
theorem Zic:FnScope ["term","marks","stays","given","names","part","left","one"] ["term","marks"] (Zh Zam):=by walk_at "sc"
theorem Zo6:ZFK Pg w K mg base n "changed" "changed" Zam ["term","marks"] 6:=fun T S F=>Z6 F Zic rfl rfl rfl fun _ _ _ _ _ _ hr=>by
  have nd:=Zic.nd
  have hu:=hu150 hr
  show SdB _ (Zl Zam) (Zbx (wpc pr n))
  unfold Zbx Zc5 Zc6
  exact(Zi (Z2 (Zs (Y8 hu) (Zw (Zc 0) Zj) Zm) (Zk (Zv (Zyd hu (Zc 1) (Zw (Zc 0) Zj) ⟨rfl,rfl,rfl,rfl⟩))) Z8)
   (Zi (Zz (i:=2) nd d_bl)
   (Zi (Zz (i:=3) nd (X3 Ze))
   (Zi (Zcp PassesOwn.never rfl (Zb8 (Ya S.zb4 hr (by rfl) (Za (Zc 0) Ze))) (Zl9 (n:=2) rfl (Zcj (X2 (i:=4) nd) (Zcj (X2 (i:=5) nd) Zma)) (Jj (Jj Zd0)))
   (Zi (Zz (i:=6) nd (Zjd (Zs (Y8 hu) (Zc 4) (Zp Ze)) (Zc 1) (Ya S.zb0 hr (by rfl) (Za (Zc 1) (Za (Zc 4) Ze)))))
   (Zi (Zz (i:=7) nd (Zjd (Zs (o_req hu) (Zc 6) Zmb) Zaz (Ya S.zba hr (by rfl) (Za (Zc 5) (Za (Zc 6) Ze)))))
   (Zi (Z2 (Zs Zt7 (Zc 7) Zaz) (Zk (Zz (i:=2) nd d_bl)) Z8)
   (Zk (Z9 (d_mt XZ YB YA Zai Zbl (Zc 3) (Za (Zjd (Zs Ziv (Zc 7) Zaz) (Zc 5) (Zc 7)) Ze))))))))
   (Zk (Zv (Zjd (Zd4 (Zc 2)) Zaz (Ya S.zbn hr (by rfl) (Za (Zc 0) (Za (Zc 3) Ze))))))))))
abbrev Zak:Stmt:=top 10
theorem Zia:FnScope ["marks","names","left","name"] ["marks","names"] (Zh Zak):=by walk_at "sc"
theorem Zo4:ZFK Pg w K mg base n "without" "without" Zak ["marks","names"] 7:=fun T S F=>Z6 F Zia rfl rfl rfl fun _ _ _ _ _ _ hr=>by
  have nd:=Zia.nd
  have hu:=hu150 hr
  show SdB _ (Zl Zak) (Zcq (wpc pr n))
  unfold Zcq
  exact(Zi (Z2 (Zvj (Zd4 (d_bi (b_any rfl) (by rfl) T.zb7 Z19 (Za (Zg1 (cN:=["name","marks"]) (cap:=[none,some 0]) (cl:=(Zay _ _ [])) (js:=[0]) (g:=(Zao 0)) ⟨rfl,(fun ok=>Zed ok rfl (by decide+kernel) (by decide+kernel) rfl rfl rfl),(Zb8 (Zc 1)),(fun _ _ _=>Xg (i:=0) (show(["name","marks"]:List Str).Nodup by decide+kernel) rfl (Or.inl rfl)),Yd,Xt,J1,by decide+kernel,fun _ _ _=>Zbf,fun _ _ _=>(Zb9 (o_rin hu) (Zc 0) (Zc 1) (by rfl)),fun _=>rfl⟩) Ze)))) (Zk (Zv (Zc 0))) Z8)
   (Zi (Zz (i:=2) nd (d_ty Zyn (by rfl) T.zbs Zyl (Za (Zc 0) Ze)))
   (Zi (Zcp PassesOwn.never rfl (Zb8 (Zc 1)) (X2 (i:=3) nd)
   (Zk (Z9 (Zyf (Zc 2) (Zc 3) Zaz ⟨rfl,rfl,rfl,rfl⟩))))
   (Zk (Zv (Zc 2))))))
abbrev Zal:Stmt:=top 14
theorem Zib:FnScope ["term"] ["term"] (Zh Zal):=by walk_at "sc"
theorem Zo5:ZFK Pg w K mg base n "is_mark" "is_mark" Zal ["term"] 8:=fun T S F=>Z6 F Zib rfl rfl rfl fun _ _ _ _ _ _ hr=>by
  have hu:=hu150 hr
  show SdB _ (Zl Zal) (Zd5 (wpc pr n))
  unfold Zd5
  exact(Zk (Zv (Zb9 (o_in hu) (Zw (Zc 0) Zj) (d_gl (by rfl) T.zb5) (by rfl))))
abbrev X5:Stmt:=top 15
theorem Zg5:FnScope ["term"] ["term"] (Zh X5):=by walk_at "sc"
theorem Zne:ZFK Pg w K mg base n "is_value" "is_value" X5 ["term"] 9:=fun T S F=>Z6 F Zg5 rfl rfl rfl fun _ _ _ _ _ _ hr=>by
  have hu:=hu150 hr
  show SdB _ (Zl X5) (Zc4 (wpc pr n))
  unfold Zc4
  exact(Zk (Zv (Zb9 (o_in hu) (Zw (Zc 0) Zj) (d_gl (by rfl) T.zb3) (by rfl))))
abbrev X4:Stmt:=top 16
theorem Zg4:FnScope ["op","one","other","outcome"] ["op","one","other"] (Zh X4):=by walk_at "sc"
theorem Znd:ZFK Pg w K mg base n "reckoned" "reckoned" X4 ["op","one","other"] 10:=fun T S F=>Z6 F Zg4 rfl rfl rfl fun _ _ _ _ _ _ hr=>by
  have nd:=Zg4.nd
  have hu:=hu150 hr
  show SdB _ (Zl X4) (Zc3 (wpc pr n))
  unfold Zc3
  exact(Zi (Z2 (Zs (Y8 hu) (Zc 0) Zm) (Zk (Zv (Ya S.zbi hr (by rfl) (Za (Zb9 o_lt (Zc 1) (Zc 2) (Za4 _)) Ze)))) Z8)
   (Zi (Z2 (Zs (Y8 hu) (Zc 0) Zm) (Zk (Zv (Ya S.zbi hr (by rfl) (Za (Zb9 (Y8 hu) (Zc 1) (Zc 2) (Za4 _)) Ze)))) Z8)
   (Zi (Z2 (Zs (Y8 hu) (Zc 0) Zm) (Zk (Zz (i:=3) nd (Yn Zaf (Zc 1) (Zc 2)))) (Zk (Z2 (Zs (Y8 hu) (Zc 0) Zm) (Zk (Zz (i:=3) nd (Yn Zkf (Zc 1) (Zc 2)))) (Zk (Zz (i:=3) nd (Yn Znf (Zc 1) (Zc 2)))))))
   (Zk (Zv (Zp (Za Zm (Za (Yn X1 (Zc 3) (Yn Zg6 Zj Zj)) Ze))))))))
abbrev Zb3:Stmt:=top 17
theorem Zm1:FnScope ["holds"] ["holds"] (Zh Zb3):=by walk_at "sc"
theorem Zt5:ZFK Pg w K mg base n "truth" "truth" Zb3 ["holds"] 11:=fun T S F=>Z6 F Zm1 rfl rfl rfl fun _ _ _ _ _ _ hr=>by
  show SdB _ (Zl Zb3) (Zhp (wpc pr n))
  unfold Zhp
  exact(Zk (Zv (Zp (Za Zm (Za (Zjd (Zd4 (Zc 0)) Zm Zm) (Za (Zp Ze) Ze))))))
abbrev Za2:Stmt:=top 18
theorem Zkc:FnScope ["value","alternatives","found"] ["value","alternatives"] (Zh Za2):=by walk_at "sc"
theorem Zro:ZFK Pg w K mg base n "picked" "picked" Za2 ["value","alternatives"] 12:=fun T S F=>Z6 F Zkc rfl rfl rfl fun _ _ _ _ _ _ hr=>by
  have nd:=Zkc.nd
  show SdB _ (Zl Za2) (Zfh (wpc pr n))
  unfold Zfh
  exact(Zi (Zz (i:=2) nd (Ya S.zav hr (by rfl) (Za (Zc 0) (Za (Zc 1) Ze))))
   (Zi (Z2 (Zs Ziv (Zc 2) Zaz) (Zk (Zv Zaz)) Z8)
   (Zk (Zv (Ya S.za5 hr (by rfl) (Za (Zw (Zc 2) Zj) (Za (d_dz rfl (by rfl) T.zbs (by rfl) T.zby (Za (Zw (Zc 2) Zj) (Za (Zw (Zc 0) Zj) Ze))) Ze)))))))
abbrev Y3:Stmt:=top 19
theorem Zcc:FnScope ["value","alternatives","alternative"] ["value","alternatives"] (Zh Y3):=by walk_at "sc"
theorem Zft:ZFK Pg w K mg base n "alternative_of" "alternative_of" Y3 ["value","alternatives"] 13:=fun T S F=>Z6 F Zcc rfl rfl rfl fun _ _ _ _ _ _ hr=>by
  have nd:=Zcc.nd
  have hu:=hu150 hr
  show SdB _ (Zl Y3) (X6 (wpc pr n))
  unfold X6
  exact(Zi (Z2 (Zs (o_ne hu) (Zw (Zc 0) Zj) Zm) (Zk (Zv Zaz)) Z8)
   (Zi (Zcp PassesOwn.never rfl (Zb8 (Zc 1)) (X2 (i:=2) nd)
   (Zk (Z2 (Zs (Y8 hu) (Zw (Zc 2) Zj) (Zw (Zc 0) Zj)) (Zk (Zv (Zc 2))) Z8)))
   (Zk (Zv Zaz))))
abbrev Zc7:Stmt:=top 20
theorem Zp2:FnScope ["value","frame"] ["value","frame"] (Zh Zc7):=by walk_at "sc"
theorem Zxl:ZFK Pg w K mg base n "fits" "fits" Zc7 ["value","frame"] 14:=fun T S F=>Z6 F Zp2 rfl rfl rfl fun _ _ _ _ _ _ hr=>by
  have hu:=hu150 hr
  show SdB _ (Zl Zc7) (Zk3 (wpc pr n))
  unfold Zk3
  exact(Zi (Z2 (Zs (Y8 hu) (Zw (Zc 1) Zj) Zm) (Zk (Zv (Zb9 (Y8 hu) (Zw (Zc 0) Zj) Zm (Za4 _)))) Z8)
   (Zi (Z2 (Zs (Y8 hu) (Zw (Zc 1) Zj) Zm) (Zk (Zv (Zb9 Zt7 (Ya S.zav hr (by rfl) (Za (Zc 0) (Za (Zw (Zc 1) Zj) Ze))) Zaz (Za4 _)))) Z8)
   (Zi (Z2 (dt_w (Zn2 (Zs (Y8 hu) (Zw (Zc 1) Zj) Zm) (Zja (Zs (Y8 hu) (Zw (Zc 1) Zj) Zm)))) (Zk (Zv (Zb9 (Y8 hu) (Zw (Zc 0) Zj) Zm (Za4 _)))) Z8)
   (Zk (Zv d_bl)))))
abbrev Yv:Stmt:=Jk (top 22) 0
theorem Zb5:FnScope ["self","term","depth"] ["self","term","depth"] (Zh Yv):=by walk_at "sc"
theorem Ze7:ZFK Pg w K mg base n "__init__" "Runner.__init__" Yv ["self","term","depth"] 15:=fun T S F=>Z6 F Zb5 rfl rfl rfl fun _ _ _ _ _ _ hr=>by
  show SdB _ (Zl Yv) (X0 (wpc pr n))
  unfold X0
  exact(Zi (Jb (Zo T.zaa Zt) (Zc 0) Zaz)
   (Zi (Jb (Zo T.zam Zt) (Zc 0) Zj)
   (Zi (Jb (Zo T.zae Zt) (Zc 0) (X3 Ze))
   (Zi (Jb (Zo T.zaj Zt) (Zc 0) (X3 (Za (Zp (Za (Zc 2) (Za (Zc 1) Ze))) Ze)))
   (Zi (Jb (Zo T.zak Zt) (Zc 0) (X3 Ze))
   (Zi (Jb (Zo T.zan Zt) (Zc 0) Zmb)
   (Zi (Jb (Zo T.zah Zt) (Zc 0) (X3 Ze))
   (Zi (Jb (Zo T.zas Zt) (Zc 0) (X3 Ze))
   (Zi (Jb (Zo T.zad Zt) (Zc 0) Zj)
   (Zi (Jb (Zo T.zai Zt) (Zc 0) Zj)
   (Zi (Jb (Zo T.zag Zt) (Zc 0) Zj)
   (Zk (Jb (Zo T.zab Zt) (Zc 0) Zaz)))))))))))))
abbrev Xr:Stmt:=Jk (top 22) 1
theorem Zfo:FnScope ["self","most"] ["self","most"] (Zh Xr):=by walk_at "sc"
theorem Zlk:ZFK Pg w K mg base n "go" "Runner.go" Xr ["self","most"] 16:=fun T S F=>Z6 F Zfo rfl rfl rfl fun _ _ _ _ _ _ hr=>by
  show SdB _ (Zl Xr) (Zcb (wpc pr n))
  unfold Zcb
  exact(Zi (Z9 (Jz (pr:=pr) (pl:=_) (Yc S.zbe Yw) hr (Zc 0) (Za (Zc 1) Ze)))
   (Zk (Zv (Zck (pr:=pr) (pl:=_) (Yc S.zbf Yw) hr (Zc 0)))))
abbrev Y6:Stmt:=Jk (top 22) 2
theorem Zcf:FnScope ["self","most"] ["self","most"] (Zh Y6):=by walk_at "sc"
theorem Zfw:ZFK Pg w K mg base n "advance" "Runner.advance" Y6 ["self","most"] 17:=fun T S F=>Z6 F Zcf rfl rfl rfl fun _ _ _ _ _ _ hr=>by
  show SdB _ (Zl Y6) (X9 (wpc pr n))
  unfold X9
  exact(Zi (Z9 (Zck (pr:=pr) (pl:=_) (Yc S.zay Yw) hr (Zc 0)))
   (Zk (Zn3 PassesOwn.never (dt_w (Z1x (Zs Ziv (Yz (Zo T.zab Zt) (Zc 0)) Zaz) (Zx9 (Zs o_lt (Yz (Zo T.zad Zt) (Zc 0)) (Zc 1)))))
   (Zi (Jb (Zo T.zad Zt) (Zc 0) (Yn Zaf (Yz (Zo T.zad Zt) (Zc 0)) Zj))
   (Zi (Z9 (Zck (pr:=pr) (pl:=_) (Yc S.zbc Yw) hr (Zc 0)))
   (Zk (Z9 (Zck (pr:=pr) (pl:=_) (Yc S.zay Yw) hr (Zc 0)))))))))
abbrev Y4:Stmt:=Jk (top 22) 3
theorem Zcd:FnScope ["self","ending"] ["self"] (Zh Y4):=by walk_at "sc"
theorem Zfu:ZFK Pg w K mg base n "outcome" "Runner.outcome" Y4 ["self"] 18:=fun T S F=>Z6 F Zcd rfl rfl rfl fun _ _ _ _ _ _ hr=>by
  have nd:=Zcd.nd
  show SdB _ (Zl Y4) (X7 (wpc pr n))
  unfold X7
  exact(Zi (Zz (i:=1) nd (Zjd (Zs Ziv (Yz (Zo T.zab Zt) (Zc 0)) Zaz) (Zp (Za Zm (Za Zm Ze))) (Yz (Zo T.zab Zt) (Zc 0))))
   (Zk (Zv (Zp (Za (Zw (Zc 1) Zj) (Za (Zw (Zc 1) Zj) (Za (Zp (Za (Yz (Zo T.zad Zt) (Zc 0)) (Za (Yz (Zo T.zai Zt) (Zc 0)) (Za (Yz (Zo T.zag Zt) (Zc 0)) Ze)))) (Za (d_ty Z2a (by rfl) T.zbp Zyk (Za (Yz (Zo T.zas Zt) (Zc 0)) Ze)) Ze))))))))
abbrev Jh:Stmt:=Jk (top 22) 4
theorem Zcx:FnScope ["self"] ["self"] (Zh Jh):=by walk_at "sc"
theorem Zgs:ZFK Pg w K mg base n "settle" "Runner.settle" Jh ["self"] 19:=fun T S F=>Z6 F Zcx rfl rfl rfl fun _ _ _ _ _ _ hr=>by
  have hu:=hu150 hr
  show SdB _ (Zl Jh) (Zah (wpc pr n))
  unfold Zah
  exact(Zk (Zn3 PassesOwn.never (Zs Ziv (Yz (Zo T.zab Zt) (Zc 0)) Zaz)
   (Zk (Z2 (Zs Ziv (Yz (Zo T.zaa Zt) (Zc 0)) Zaz) (Zk (Z9 (Zck (pr:=pr) (pl:=_) (Yc S.zbd Yw) hr (Zc 0)))) (Zk (Z2 (Zs (Y8 hu) (Zw (Yz (Zo T.zaa Zt) (Zc 0)) Zj) Zm) (Zk (Jb (Zo T.zab Zt) (Zc 0) (Zp (Za Zm (Za (Zw (Yz (Zo T.zaa Zt) (Zc 0)) Zj) Ze))))) (Zk (Z2 (Zvj (Zd4 (Ya S.za4 hr (by rfl) (Za (Yz (Zo T.zaa Zt) (Zc 0)) Ze)))) (Zk Zl6) (Zk (Z2 (Zs (Y8 hu) (Yz (Zo T.zae Zt) (Zc 0)) (X3 Ze)) (Zk (Z9 (Zck (pr:=pr) (pl:=_) (Yc S.za6 Yw) hr (Zc 0)))) (Zk (Z2 (Zs (Y8 hu) (Zw (Zw (Yz (Zo T.zae Zt) (Zc 0)) (Zn9 Zj)) Zj) Zm) (Zk (Z9 (Jz (pr:=pr) (pl:=_) (Yc S.za9 Yw) hr (Zc 0) (Za (Zw (Zck (pr:=pr) (pl:=_) (Yc S.zaq Yw) hr (Zc 0)) Zj) Ze)))) (Zk (Z2 (Zd4 (Ya S.zb6 hr (by rfl) (Za (Yz (Zo T.zaa Zt) (Zc 0)) (Za (Zw (Yz (Zo T.zae Zt) (Zc 0)) (Zn9 Zj)) Ze)))) (Zk Zl6) (Zk (Jb (Zo T.zab Zt) (Zc 0) (Zp (Za Zm (Za Zm Ze)))))))))))))))))))
abbrev Yr:Stmt:=Jk (top 22) 5
theorem Zbp:FnScope ["self","piece"] ["self"] (Zh Yr):=by walk_at "sc"
theorem Zek:ZFK Pg w K mg base n "tell_next" "Runner.tell_next" Yr ["self"] 20:=fun T S F=>Z6 F Zbp rfl rfl rfl fun _ _ _ _ _ _ hr=>by
  have nd:=Zbp.nd
  have hu:=hu150 hr
  show SdB _ (Zl Yr) (Xk (wpc pr n))
  unfold Xk
  exact(Zi (Z2 (Zs (Y8 hu) (Yz (Zo T.zaj Zt) (Zc 0)) (X3 Ze)) (Zi (Jb (Zo T.zab Zt) (Zc 0) (Zp (Za Zm (Za (d_mt PySem.F.plainAttrs_str PySem.F.slot_str_join PySem.F.type_str_join Zzp Z06 Zm (Za (Yz (Zo T.zak Zt) (Zc 0)) Ze)) Ze))))
   (Zk Zl6)) Z8)
   (Zi (Zz (i:=1) nd (Zzd XZ PySem.F.slot_list_pop PySem.F.type_list_pop Zai Zy0 (Yz (Zo T.zaj Zt) (Zc 0))))
   (Zk (Z2 (Zd4 (d_isi (by rfl) T.zbq (by rfl) T.za3 Zmk (by decide) (Zc 1))) (Zk (Z9 (d_mt XZ YB YA Zai Zbl (Yz (Zo T.zak Zt) (Zc 0)) (Za (Zc 1) Ze)))) (Zk (Z2 (Zs o_le (Zw (Zc 1) Zj) Zj) (Zk (Z9 (d_mt XZ YB YA Zai Zbl (Yz (Zo T.zak Zt) (Zc 0)) (Za Zm Ze)))) (Zi (Jb (Zo T.zam Zt) (Zc 0) (Zw (Zc 1) Zj))
   (Zk (Jb (Zo T.zaa Zt) (Zc 0) (Zw (Zc 1) Zj))))))))))
abbrev Yj:Stmt:=Jk (top 22) 6
theorem Zbi:FnScope ["self"] ["self"] (Zh Yj):=by walk_at "sc"
theorem Zdt:ZFK Pg w K mg base n "tell_value" "Runner.tell_value" Yj ["self"] 21:=fun T S F=>Z6 F Zbi rfl rfl rfl fun _ _ _ _ _ _ hr=>by
  show SdB _ (Zl Yj) (Xc (wpc pr n))
  unfold Xc
  exact(Zi (Z9 (d_mt XZ PySem.F.slot_list_extend PySem.F.type_list_extend Zai Znp (Yz (Zo T.zaj Zt) (Zc 0)) (Za (Z13 rfl (by rfl) T.zbp (by rfl) T.zax (Ya S.zbu hr (by rfl) (Za (Yz (Zo T.zaa Zt) (Zc 0)) (Za (Yn Zkf (Yz (Zo T.zam Zt) (Zc 0)) Zj) Ze)))) Ze)))
   (Zk (Jb (Zo T.zaa Zt) (Zc 0) Zaz)))
abbrev Ys:Stmt:=Jk (top 22) 7
theorem Zbq:FnScope ["self"] ["self"] (Zh Ys):=by walk_at "sc"
theorem Zel:ZFK Pg w K mg base n "take_step" "Runner.take_step" Ys ["self"] 22:=fun T S F=>Z6 F Zbq rfl rfl rfl fun _ _ _ _ _ _ hr=>by
  show SdB _ (Zl Ys) (Xl (wpc pr n))
  unfold Xl
  exact(Zk (Z2 (Zd4 (Ya S.za4 hr (by rfl) (Za (Yz (Zo T.zaa Zt) (Zc 0)) Ze))) (Zk (Z9 (Jz (pr:=pr) (pl:=_) (Yc S.zbb Yw) hr (Zc 0) (Za (Yz (Zo T.zaa Zt) (Zc 0)) (Za (Zck (pr:=pr) (pl:=_) (Yc S.zaq Yw) hr (Zc 0)) Ze))))) (Zk (Z9 (Jz (pr:=pr) (pl:=_) (Yc S.za7 Yw) hr (Zc 0) (Za (Yz (Zo T.zaa Zt) (Zc 0)) Ze))))))
abbrev Yl:Stmt:=Jk (top 22) 8
theorem Zbk:FnScope ["self","term","sort"] ["self","term"] (Zh Yl):=by walk_at "sc"
theorem Zdv:ZFK Pg w K mg base n "take_apart" "Runner.take_apart" Yl ["self","term"] 23:=fun T S F=>Z6 F Zbk rfl rfl rfl fun _ _ _ _ _ _ hr=>by
  have nd:=Zbk.nd
  have hu:=hu150 hr
  show SdB _ (Zl Yl) (Xe (wpc pr n))
  unfold Xe
  exact(Zi (Zz (i:=2) nd (Zw (Zc 1) Zj))
   (Zk (Z2 (Zs (Y8 hu) (Zc 2) Zm) (Zk (Z9 (Jz (pr:=pr) (pl:=_) (Yc S.zac Yw) hr (Zc 0) (Za (Zw (Zc 1) Zj) (Za (Zp (Za Zm (Za (Zw (Zc 1) Zj) Ze))) Ze))))) (Zk (Z2 (Zs (Y8 hu) (Zc 2) Zm) (Zk (Z9 (Jz (pr:=pr) (pl:=_) (Yc S.zac Yw) hr (Zc 0) (Za (Zw (Zc 1) Zj) (Za (Zp (Za Zm (Za (Zw (Zc 1) Zj) (Za (Zw (Zc 1) Zj) Ze)))) Ze))))) (Zk (Z2 (Zs (Y8 hu) (Zc 2) Zm) (Zk (Z9 (Jz (pr:=pr) (pl:=_) (Yc S.zac Yw) hr (Zc 0) (Za (Zw (Zc 1) Zj) (Za (Zp (Za Zm (Za (Zw (Zc 1) Zj) Ze))) Ze))))) (Zk (Z2 (Zs (Y8 hu) (Zc 2) Zm) (Zi (Jb (Zo T.zag Zt) (Zc 0) (Yn Zaf (Yz (Zo T.zag Zt) (Zc 0)) Zj))
   (Zk (Z9 (Jz (pr:=pr) (pl:=_) (Yc S.zac Yw) hr (Zc 0) (Za (Zw (Zc 1) Zj) (Za (Zp (Za Zm (Za (Zw (Zc 1) Zj) Ze))) Ze)))))) (Zk (Z2 (Zs (Y8 hu) (Zc 2) Zm) (Zk (Z9 (Jz (pr:=pr) (pl:=_) (Yc S.zbk Yw) hr (Zc 0) (Za (Zw (Zc 1) Zj) (Za (Zw (Zc 1) Zj) Ze))))) (Zk (Z2 (Zs (Y8 hu) (Zc 2) Zm) (Zk (Z9 (Jz (pr:=pr) (pl:=_) (Yc S.zbm Yw) hr (Zc 0) (Za (Zw (Zc 1) Zj) (Za (Zw (Zc 1) Zj) Ze))))) (Zk (Z9 (Jz (pr:=pr) (pl:=_) (Yc S.zbj Yw) hr (Zc 0) (Za (Zw (Zc 1) Zj) Ze)))))))))))))))))
abbrev Yq:Stmt:=Jk (top 22) 9
theorem Zbo:FnScope ["self","value","frame","mark"] ["self","value","frame"] (Zh Yq):=by walk_at "sc"
theorem Zej:ZFK Pg w K mg base n "use_value" "Runner.use_value" Yq ["self","value","frame"] 24:=fun T S F=>Z6 F Zbo rfl rfl rfl fun _ _ _ _ _ _ hr=>by
  have nd:=Zbo.nd
  have hu:=hu150 hr
  show SdB _ (Zl Yq) (Xj (wpc pr n))
  unfold Xj
  exact(Zk (Z2 (Zs (Y8 hu) (Zw (Zc 2) Zj) Zm) (Zi (Zz (i:=3) nd (Jz (pr:=pr) (pl:=_) (Yc S.zau Yw) hr (Zc 0) (Za (Zw (Zc 1) Zj) (Za (Zw (Zc 2) Zj) Ze))))
   (Zk (Jb (Zo T.zaa Zt) (Zc 0) (Ya S.za5 hr (by rfl) (Za (Zw (Zc 1) Zj) (Za (Zyg (Zw (Zc 1) Zj) (Zc 3)) Ze)))))) (Zk (Z2 (Zs (Y8 hu) (Zw (Zc 2) Zj) Zm) (Zk (Jb (Zo T.zaa Zt) (Zc 0) (Ya S.zb2 hr (by rfl) (Za (Zc 1) (Za (Zw (Zc 2) Zj) Ze))))) (Zk (Z2 (Zs (Y8 hu) (Zw (Zc 2) Zj) Zm) (Zk (Z9 (Jz (pr:=pr) (pl:=_) (Yc S.zac Yw) hr (Zc 0) (Za (Zw (Zc 2) Zj) (Za (Zp (Za Zm (Za (Zw (Zc 2) Zj) (Za (Zw (Zc 1) Zj) Ze)))) Ze))))) (Zk (Z2 (Zs (Y8 hu) (Zw (Zc 2) Zj) Zm) (Zk (Jb (Zo T.zaa Zt) (Zc 0) (Ya S.zbx hr (by rfl) (Za (Zw (Zc 2) Zj) (Za (Zw (Zc 2) Zj) (Za (Zw (Zc 1) Zj) Ze)))))) (Zk (Jb (Zo T.zaa Zt) (Zc 0) (Zw (Zc 2) Zj)))))))))))
abbrev Y5:Stmt:=Jk (top 22) 10
theorem Zce:FnScope ["self","term","frame"] ["self","term","frame"] (Zh Y5):=by walk_at "sc"
theorem Zfv:ZFK Pg w K mg base n "go_into" "Runner.go_into" Y5 ["self","term","frame"] 25:=fun T S F=>Z6 F Zce rfl rfl rfl fun _ _ _ _ _ _ hr=>by
  show SdB _ (Zl Y5) (X8 (wpc pr n))
  unfold X8
  exact(Zi (Z9 (d_mt XZ YB YA Zai Zbl (Yz (Zo T.zae Zt) (Zc 0)) (Za (Zc 2) Ze)))
   (Zk (Jb (Zo T.zaa Zt) (Zc 0) (Zc 1))))
abbrev Yk:Stmt:=Jk (top 22) 11
theorem Zbj:FnScope ["self"] ["self"] (Zh Yk):=by walk_at "sc"
theorem Zdu:ZFK Pg w K mg base n "take_frame" "Runner.take_frame" Yk ["self"] 26:=fun T S F=>Z6 F Zbj rfl rfl rfl fun _ _ _ _ _ _ hr=>by
  show SdB _ (Zl Yk) (Xd (wpc pr n))
  unfold Xd
  exact(Zk (Zv (Zzd XZ PySem.F.slot_list_pop PySem.F.type_list_pop Zai Zy0 (Yz (Zo T.zae Zt) (Zc 0)))))
abbrev Jv:Stmt:=Jk (top 22) 12
theorem Zdo:FnScope ["self","pairs","body","marks","name","text"] ["self","pairs","body"] (Zh Jv):=by walk_at "sc"
theorem Zit:ZFK Pg w K mg base n "bind" "Runner.bind" Jv ["self","pairs","body"] 27:=fun T S F=>Z6 F Zdo rfl rfl rfl fun _ _ _ _ _ _ hr=>by
  have nd:=Zdo.nd
  have hu:=hu150 hr
  show SdB _ (Zl Jv) (Zbb (wpc pr n))
  unfold Zbb
  exact(Zi (Zz (i:=3) nd Zmb)
   (Zi (Zcp PassesOwn.never rfl (Zb8 (Zc 1)) (Zl9 (n:=2) rfl (Zcj (X2 (i:=4) nd) (Zcj (X2 (i:=5) nd) Zma)) (Jj (Jj Zd0)))
   (Zk (Zvk (Jz (pr:=pr) (pl:=_) (Yc S.za2 Yw) hr (Zc 0) (Za (Zc 4) Ze)) (Zqv hu (Zc 3) (Zc 4)))))
   (Zi (Zcp PassesOwn.never rfl (Zb8 (Zc 1)) (Zl9 (n:=2) rfl (Zcj (X2 (i:=4) nd) (Zcj (X2 (i:=5) nd) Zma)) (Jj (Jj Zd0)))
   (Zk (Z9 (Jz (pr:=pr) (pl:=_) (Yc S.za1 Yw) hr (Zc 0) (Za (Zw (Zvq hu (Zc 3) (Zc 4) (fun _ _=>rfl)) Zj) (Za (Ya S.za5 hr (by rfl) (Za (Zc 5) (Za (Zc 3) Ze))) Ze))))))
   (Zk (Jb (Zo T.zaa Zt) (Zc 0) (Ya S.za5 hr (by rfl) (Za (Zc 2) (Za (Zc 3) Ze))))))))
abbrev Jt:Stmt:=Jk (top 22) 13
theorem Zdm:FnScope ["self","shape","given","marks","place","part"] ["self","shape","given"] (Zh Jt):=by walk_at "sc"
theorem Zir:ZFK Pg w K mg base n "make" "Runner.make" Jt ["self","shape","given"] 28:=fun T S F=>Z6 F Zdm rfl rfl rfl fun _ _ _ _ _ _ hr=>by
  have nd:=Zdm.nd
  have hu:=hu150 hr
  show SdB _ (Zl Jt) (Za9 (wpc pr n))
  unfold Za9 Za0 Zcr
  exact(Zi (Z2 (Zs (Y8 hu) (Zc 1) Zm) (Zk (Jb (Zo T.zai Zt) (Zc 0) (Yn Zaf (Yz (Zo T.zai Zt) (Zc 0)) Zj))) Z8)
   (Zi (Zz (i:=3) nd (X3 Ze))
   (Zi (Zcp PassesOwn.never rfl (Z11 (by rfl) T.zbv (Za (Zc 2) Ze)) (Zl9 (n:=2) rfl (Zcj (X2 (i:=4) nd) (Zcj (X2 (i:=5) nd) Zma)) (Jj (Jj Zd0)))
   (Zk (Z9 (d_mt XZ YB YA Zai Zbl (Zc 3) (Za (Jz (pr:=pr) (pl:=_) (Yc S.zau Yw) hr (Zc 0) (Za (Zvs (Zl8 (d_fv (Zc 1)) (Zl8 Zm (Zl8 (d_fv (Zc 4)) Z1z)))) (Za (Zc 5) Ze))) Ze)))))
   (Zk (Jb (Zo T.zaa Zt) (Zc 0) (Zp (Za Zm (Za (Zc 1) (Za (d_ty Zh2 (by rfl) T.za0 Zgc (Za (Zc 3) Ze)) Ze)))))))))
abbrev Yu:Stmt:=Jk (top 22) 14
theorem Zb4:FnScope ["self","label","text","mark"] ["self","label","text"] (Zh Yu):=by walk_at "sc"
theorem Ze6:ZFK Pg w K mg base n "mark_for" "Runner.mark_for" Yu ["self","label","text"] 29:=fun T S F=>Z6 F Zb4 rfl rfl rfl fun _ _ _ _ _ _ hr=>by
  have nd:=Zb4.nd
  show SdB _ (Zl Yu) (Xz (wpc pr n))
  unfold Xz
  exact(Zi (Z2 (Zd4 (Ya S.zbz hr (by rfl) (Za (Zc 2) Ze))) (Zk (Zv (Zc 2))) Z8)
   (Zi (Zz (i:=3) nd (Jz (pr:=pr) (pl:=_) (Yc S.za2 Yw) hr (Zc 0) (Za (Zc 1) Ze)))
   (Zi (Z9 (Jz (pr:=pr) (pl:=_) (Yc S.za1 Yw) hr (Zc 0) (Za (Zw (Zc 3) Zj) (Za (Zc 2) Ze))))
   (Zk (Zv (Zc 3))))))
abbrev Jw:Stmt:=Jk (top 22) 15
theorem Zdp:FnScope ["self","label","number"] ["self","label"] (Zh Jw):=by walk_at "sc"
theorem Ziu:ZFK Pg w K mg base n "bear" "Runner.bear" Jw ["self","label"] 30:=fun T S F=>Z6 F Zdp rfl rfl rfl fun _ _ _ _ _ _ hr=>by
  have nd:=Zdp.nd
  show SdB _ (Zl Jw) (Zbc (wpc pr n))
  unfold Zbc
  exact(Zi (Zz (i:=2) nd (d_bi Zkz (by rfl) T.zaz PySem.boot_len (Za (Yz (Zo T.zah Zt) (Zc 0)) Ze)))
   (Zi (Z9 (d_mt XZ YB YA Zai Zbl (Yz (Zo T.zah Zt) (Zc 0)) (Za (Zc 1) Ze)))
   (Zi (Z9 (Jz (pr:=pr) (pl:=_) (Yc S.zap Yw) hr (Zc 0) (Za Zm (Za (Zc 2) Ze))))
   (Zk (Zv (Zp (Za Zm (Za (Zc 2) Ze))))))))
abbrev Js:Stmt:=Jk (top 22) 16
theorem Zdl:FnScope ["self","event","number"] ["self","event","number"] (Zh Js):=by walk_at "sc"
theorem Ziq:ZFK Pg w K mg base n "note" "Runner.note" Js ["self","event","number"] 31:=fun T S F=>Z6 F Zdl rfl rfl rfl fun _ _ _ _ _ _ hr=>by
  show SdB _ (Zl Js) (Za8 (wpc pr n))
  unfold Za8
  exact(Zk (Z9 (d_mt XZ YB YA Zai Zbl (Yz (Zo T.zas Zt) (Zc 0)) (Za (Zp (Za (Zc 1) (Za (Zc 2) (Za (Zw (Yz (Zo T.zah Zt) (Zc 0)) (Zc 2)) (Za (Yz (Zo T.zad Zt) (Zc 0)) Ze))))) Ze))))
abbrev Ju:Stmt:=Jk (top 22) 17
theorem Zdn:FnScope ["self","number","text"] ["self","number","text"] (Zh Ju):=by walk_at "sc"
theorem Zis:ZFK Pg w K mg base n "keep" "Runner.keep" Ju ["self","number","text"] 32:=fun T S F=>Z6 F Zdn rfl rfl rfl fun _ _ _ _ _ _ hr=>by
  have hu:=hu150 hr
  show SdB _ (Zl Ju) (Zba (wpc pr n))
  unfold Zba
  exact(Zk (Zvk (Zc 2) (Zqv hu (Yz (Zo T.zan Zt) (Zc 0)) (Zc 1))))
abbrev Jl:Stmt:=Jk (top 22) 18
theorem Zde:FnScope ["self","number"] ["self","number"] (Zh Jl):=by walk_at "sc"
theorem Zhj:ZFK Pg w K mg base n "enter" "Runner.enter" Jl ["self","number"] 33:=fun T S F=>Z6 F Zde rfl rfl rfl fun _ _ _ _ _ _ hr=>by
  have hu:=hu150 hr
  show SdB _ (Zl Jl) (Zau (wpc pr n))
  unfold Zau
  exact(Zi (Z9 (Jz (pr:=pr) (pl:=_) (Yc S.zap Yw) hr (Zc 0) (Za Zm (Za (Zc 1) Ze))))
   (Zk (Z9 (Jz (pr:=pr) (pl:=_) (Yc S.zac Yw) hr (Zc 0) (Za (Zvq hu (Yz (Zo T.zan Zt) (Zc 0)) (Zc 1) (fun _ _=>rfl)) (Za (Zp (Za Zm (Za (Zc 1) Ze))) Ze))))))
abbrev Yt:Stmt:=Jk (top 22) 19
theorem Zbr:FnScope ["self","number"] ["self","number"] (Zh Yt):=by walk_at "sc"
theorem Zem:ZFK Pg w K mg base n "come_back" "Runner.come_back" Yt ["self","number"] 34:=fun T S F=>Z6 F Zbr rfl rfl rfl fun _ _ _ _ _ _ hr=>by
  show SdB _ (Zl Yt) (Xm (wpc pr n))
  unfold Xm
  exact(Zk (Z9 (Jz (pr:=pr) (pl:=_) (Yc S.zap Yw) hr (Zc 0) (Za Zm (Za (Zc 1) Ze)))))
abbrev Xp:Stmt:=top 23
theorem Zfm:FnScope ["value","depth","pieces","mark"] ["value","depth"] (Zh Xp):=by walk_at "sc"
theorem Zli:ZFK Pg w K mg base n "pieces_of" "pieces_of" Xp ["value","depth"] 35:=fun T S F=>Z6 F Zfm rfl rfl rfl fun _ _ _ _ _ _ hr=>by
  have nd:=Zfm.nd
  have hu:=hu150 hr
  show SdB _ (Zl Xp) (Zca (wpc pr n))
  unfold Zca
  exact(Zi (Z2 (Zs (Y8 hu) (Zw (Zc 0) Zj) Zm) (Zk (Zv (X3 (Za (d_ty Zpv (by rfl) T.za3 Zmk (Za (Zw (Zc 0) Zj) Ze)) Ze)))) Z8)
   (Zi (Z2 (Zs (Y8 hu) (Zw (Zc 0) Zj) Zm) (Zk (Zv (X3 (Za Zm Ze)))) Z8)
   (Zi (Z2 (Zs (Y8 hu) (Zw (Zc 0) Zj) (Zp Ze)) (Zk (Zv (X3 (Za (Zw (Zc 0) Zj) Ze)))) Z8)
   (Zi (Zz (i:=2) nd (X3 (Za (Yn Zaf Zm (Zw (Zc 0) Zj)) Ze)))
   (Zi (Zcp PassesOwn.never rfl (Zb8 (Zw (Zc 0) Zj)) (X2 (i:=3) nd)
   (Zk (Z9 (d_mt XZ PySem.F.slot_list_extend PySem.F.type_list_extend Zai Znp (Zc 2) (Za (X3 (Za Zm (Za (Zp (Za (Zc 1) (Za (Zc 3) Ze))) Ze))) Ze)))))
   (Zk (Zv (Yn Zaf (Zc 2) (X3 (Za Zm Ze))))))))))
abbrev Zcl:Stmt:=top 25
theorem Zs1:FnScope ["term","depth","most"] ["term","depth","most"] (Zh Zcl):=by walk_at "sc"
theorem Z0z (T:Txt w K mg)(S:Cs Pg w K mg base n)(F:FunD K "run" "run" Zcl f fd):FnOk Pg w K mg base CX0 (n+1) f fd ["term","depth","most"] (spW K pr (n+1) 36):=Z1p F Zs1 rfl rfl rfl fun cdv A outer s H E hr=>by
  show SdB _ (Zl Zcl) (Zpz (wpc pr n))
  unfold Zpz
  exact(Zk (Zv (Jz (pr:=pr) (pl:=_) (Yc S.zbt Yw) hr (d_new S.zb1 hr (by rfl) (Za (Zc 0) (Za (Zc 1) Ze))) (Za (Zc 2) Ze))))
abbrev J8:Stmt:=top 27
theorem Zeu:FnScope ["_law_script","_law_many","_law_found","_law_k","_law_cell"] ["_law_script","_law_many"] (Zh J8):=by walk_at "sc"
theorem Zjv:ZFK Pg w K mg base n "_law_draws" "_law_draws" J8 ["_law_script","_law_many"] 37:=fun T S F=>Z6 F Zeu rfl rfl rfl fun _ _ _ _ _ _ hr=>by
  have nd:=Zeu.nd
  show SdB _ (Zl J8) (Zat (wpc pr n))
  unfold Zat
  exact(Zi (Zz (i:=2) nd (X3 Ze))
   (Zi (Zcp PassesOwn.never rfl (Zn8 (by rfl) T.zat (Za (Zc 1) Ze)) (X2 (i:=3) nd)
   (Zi (Zz (i:=4) nd Zj)
   (Zi (Z2 (Zs o_gt (d_bi Zkz (by rfl) T.zaz PySem.boot_len (Za (Zc 0) Ze)) Zj) (Zk (Zz (i:=4) nd (Yn X1 (Zw (Zc 0) (Yn X1 (Zc 3) (d_bi Zkz (by rfl) T.zaz PySem.boot_len (Za (Zc 0) Ze)))) (Yn Zg6 Zj Zj)))) Z8)
   (Zk (Z9 (d_mt XZ YB YA Zai Zbl (Zc 2) (Za (Yn Zaf (Zc 4) (Yn Znf Zj (Yn Zkg (Zc 3) (d_bi (Zze rfl) (by rfl) T.zbw Zvy (Za Zj (Za (d_bi Zkz (by rfl) T.zaz PySem.boot_len (Za (Zc 0) Ze)) Ze)))))) Ze)))))))
   (Zk (Zv (Zc 2)))))
abbrev Jr:Stmt:=top 28
theorem Zdk:FnScope ["_law_draw"] ["_law_draw"] (Zh Jr):=by walk_at "sc"
theorem Zip:ZFK Pg w K mg base n "_law_number" "_law_number" Jr ["_law_draw"] 38:=fun T S F=>Z6 F Zdk rfl rfl rfl fun _ _ _ _ _ _ hr=>by
  show SdB _ (Zl Jr) (Zac (wpc pr n))
  unfold Zac
  exact(Zk (Zv (Zw (X3 (Za (Yn X1 (Zc 0) Zj) (Za (Yn X1 (Yn Znf (Zc 0) Zj) (Yn Zg6 Zj Zj)) (Za (Yn Zkf (Yn Zkf (Yn Zg6 Zj Zj) Zj) (Yn X1 (Zc 0) Zj)) Ze)))) (Yn X1 (Yn Zkg (Zc 0) Zj) Zj))))
abbrev Jg:Stmt:=top 29
theorem Zcw:FnScope ["_law_numbers","_law_deep","_law_text","_law_number_here"] ["_law_numbers","_law_deep"] (Zh Jg):=by walk_at "sc"
theorem Zgr:ZFK Pg w K mg base n "_law_cut_text" "_law_cut_text" Jg ["_law_numbers","_law_deep"] 39:=fun T S F=>Z6 F Zcw rfl rfl rfl fun _ _ _ _ _ _ hr=>by
  have nd:=Zcw.nd
  show SdB _ (Zl Jg) (Xv (wpc pr n))
  unfold Xv
  exact(Zi (Zz (i:=2) nd Zm)
   (Zi (Zcp PassesOwn.never rfl (Zvo (by rfl) T.zax (Za (d_sl (Zc 0) Zeb (Zea (d_bi (Zze rfl) (by rfl) T.zbw Zvy (Za Zj (Za (Yn Zkf (Zc 1) Zj) Ze))))) Ze)) (X2 (i:=3) nd)
   (Zk (Zz (i:=2) nd (Yn Zaf (Yn Zaf (Yn Zaf (Yn Zaf Zm (d_ty Zpv (by rfl) T.za3 Zmk (Za (Zc 3) Ze))) Zm) (Zc 2)) Zm))))
   (Zi (Z2 (Zs o_gt (Zc 1) Zj) (Zk (Zv (Zc 2))) Z8)
   (Zk (Zv Zm)))))
abbrev Xq:Stmt:=top 30
theorem Zfn:FnScope ["_law_numbers","_law_tail","_law_term","_law_number_here"] ["_law_numbers","_law_tail"] (Zh Xq):=by walk_at "sc"
theorem Zlj:ZFK Pg w K mg base n "_law_list" "_law_list" Xq ["_law_numbers","_law_tail"] 40:=fun T S F=>Z6 F Zfn rfl rfl rfl fun _ _ _ _ _ _ hr=>by
  have nd:=Zfn.nd
  show SdB _ (Zl Xq) (Zbg (wpc pr n))
  unfold Zbg
  exact(Zi (Zz (i:=2) nd (Zc 1))
   (Zi (Zcp PassesOwn.never rfl (Zvo (by rfl) T.zax (Za (Zc 0) Ze)) (X2 (i:=3) nd)
   (Zk (Zz (i:=2) nd (Zp (Za Zm (Za Zm (Za (Zp (Za (Zp (Za Zm (Za (Zc 3) Ze))) (Za (Zc 2) Ze))) Ze)))))))
   (Zk (Zv (Zc 2)))))
abbrev Yi:Stmt:=top 31
theorem Zbh:FnScope ["_law_op","_law_by","_law_more","_law_start","_law_one","_law_first_fun","_law_head","_law_cell","_law_picks","_law_second_fun","_law_body"] ["_law_op","_law_by","_law_more","_law_start"] (Zh Yi):=by walk_at "sc"
theorem Zds:ZFK Pg w K mg base n "_law_gone_through" "_law_gone_through" Yi ["_law_op","_law_by","_law_more","_law_start"] 41:=fun T S F=>Z6 F Zbh rfl rfl rfl fun _ _ _ _ _ _ hr=>by
  have nd:=Zbh.nd
  show SdB _ (Zl Yi) (Jm (wpc pr n))
  unfold Jm
  exact(Zi (Zz (i:=4) nd (Zp (Za Zm (Za Zm (Za (Zp (Za Zm (Za Zm Ze))) (Za (Zp (Za Zm (Za (Zc 2) Ze))) Ze))))))
   (Zi (Zz (i:=5) nd (Zp (Za Zm (Za Zm (Za (Zp (Za Zm (Za Zm (Za (Zp (Za (Zp (Za Zm (Za Zm Ze))) (Za (Zp (Za Zm (Za (Zp (Za Zm (Za Zm Ze))) (Za (Zc 4) Ze)))) Ze))) Ze)))) Ze)))))
   (Zi (Zz (i:=6) nd (Zp (Za Zm (Za (Zc 0) (Za (Zp (Za Zm (Za Zm Ze))) (Za (Zp (Za Zm (Za (Zc 1) Ze))) Ze))))))
   (Zi (Zz (i:=7) nd (Zp (Za Zm (Za Zm (Za (Zp (Za (Zc 6) (Za (Zp (Za Zm (Za (Zp (Za Zm (Za Zm Ze))) (Za (Zp (Za Zm (Za Zm Ze))) Ze)))) Ze))) Ze)))))
   (Zi (Zz (i:=8) nd (Zp (Za (Zp (Za Zm (Za (Zp Ze) (Za (Zp (Za Zm (Za Zm (Za (Zp Ze) Ze)))) Ze)))) (Za (Zp (Za Zm (Za (Zp (Za Zm (Za Zm Ze))) (Za (Zc 7) Ze)))) Ze))))
   (Zi (Zz (i:=9) nd (Zp (Za Zm (Za Zm (Za (Zp (Za Zm (Za (Zp (Za Zm (Za Zm Ze))) (Za (Zc 8) Ze)))) Ze)))))
   (Zi (Zz (i:=10) nd (Zp (Za Zm (Za (Zp (Za Zm (Za Zm Ze))) (Za (Zp (Za Zm (Za (Zp (Za Zm (Za Zm Ze))) (Za (Zc 3) Ze)))) Ze)))))
   (Zk (Zv (Zp (Za Zm (Za (Zp (Za (Zp (Za Zm (Za (Zc 5) Ze))) (Za (Zp (Za Zm (Za (Zc 9) Ze))) Ze))) (Za (Zc 10) Ze)))))))))))))
abbrev Je:Stmt:=top 32
theorem Zcu:FnScope ["_law_op","_law_one","_law_by"] ["_law_op","_law_one","_law_by"] (Zh Je):=by walk_at "sc"
theorem Zgp:ZFK Pg w K mg base n "_law_reckoned" "_law_reckoned" Je ["_law_op","_law_one","_law_by"] 42:=fun T S F=>Z6 F Zcu rfl rfl rfl fun _ _ _ _ _ _ hr=>by
  have hu:=hu150 hr
  show SdB _ (Zl Je) (Xu (wpc pr n))
  unfold Xu
  exact(Zi (Z2 (Zs (Y8 hu) (Zc 0) Zm) (Zk (Zv (Yn X1 (Yn Zaf (Zc 1) (Zc 2)) (Yn Zg6 Zj Zj)))) Z8)
   (Zi (Z2 (Zs (Y8 hu) (Zc 0) Zm) (Zk (Zv (Yn X1 (Yn Zkf (Zc 1) (Zc 2)) (Yn Zg6 Zj Zj)))) Z8)
   (Zk (Zv (Yn X1 (Yn Znf (Zc 1) (Zc 2)) (Yn Zg6 Zj Zj))))))
abbrev Jf:Stmt:=top 33
theorem Zcv:FnScope ["_law_draws_here","_law_numbers","_law_found"] ["_law_draws_here"] (Zh Jf):=by walk_at "sc"
theorem Zgq:ZFK Pg w K mg base n "_law_left_out" "_law_left_out" Jf ["_law_draws_here"] 43:=fun T S F=>Z6 F Zcv rfl rfl rfl fun _ _ _ _ _ _ hr=>by
  have nd:=Zcv.nd
  have hu:=hu150 hr
  show SdB _ (Zl Jf) (Zag (wpc pr n))
  unfold Zag Zb1 Zb2
  exact(Zi (Zdc (k:=1) (cN:=["_law_k","_law_draws_here"]) (cap:=[none,some 0]) (cl:=(Zay _ _ [])) (js:=[0]) (g:=(Zao 0)) nd rfl rfl rfl ⟨rfl,(fun ok=>Zed ok rfl (by decide+kernel) (by decide+kernel) rfl rfl rfl),(Zn8 (by rfl) T.zat (Za Zj Ze)),(fun _ _ _=>Xg (i:=0) (show(["_law_k","_law_draws_here"]:List Str).Nodup by decide+kernel) rfl (Or.inl rfl)),Yd,Xt,J1,by decide+kernel,fun _ _ _=>Zbf,fun _ _ _=>(Ya S.zaf hr (by rfl) (Za (Zw (Zc 1) (Yn Zaf Zj (Zc 0))) Ze)),fun _=>rfl⟩)
   (Zi (Zz (i:=2) nd (Zec 0 S.zaw hr (by rfl) (Za (Ya S.zao hr (by rfl) (Za (Zc 1) (Za (Zp (Za Zm (Za Zm Ze))) Ze))) Ze)))
   (Zi (Z2 (dt_w (Zn2 (Zs (o_ne hu) (Zw (Zc 2) Zj) Zm) (Zja (Zs (Zyy hu) (Zw (Zc 2) Zj) (Ya S.zal hr (by rfl) (Za (Zc 1) (Za Zj Ze))))))) (Zk (Zv d_bl)) Z8)
   (Zi (Zz (i:=2) nd (Zec 0 S.zaw hr (by rfl) (Za (Zp (Za Zm (Za (Zp (Za (Zp (Za Zm (Za (Zp (Za Zm (Za Zm Ze))) Ze))) Ze)) (Za (Zp (Za Zm (Za Zm Ze))) Ze)))) Ze)))
   (Zi (Z2 (dt_w (Zn2 (Zs (Zyy hu) (d_sl (Zc 2) Zeb (Zea Zj)) (Zp (Za Zm (Za Zm (Za (Zp (Za Zj (Za Zj (Za Zj Ze)))) Ze))))) (Zja (Zs (o_ne hu) (d_bi Zkz (by rfl) T.zaz PySem.boot_len (Za (Zw (Zc 2) Zj) Ze)) Zj)))) (Zk (Zv d_bl)) Z8)
   (Zk (Zv (Zb9 (Zt9 hu) (Zec 1 S.zaw hr (by rfl) (Za (Ya S.zao hr (by rfl) (Za (Zc 1) (Za (Zp (Za Zm (Za Zm Ze))) Ze))) (Za Zj Ze))) (Zec 2 S.zaw hr (by rfl) (Za (Ya S.zao hr (by rfl) (Za (Zc 1) (Za (Zp (Za Zm (Za Zm Ze))) Ze))) (Za Zj (Za Zj Ze)))) (Za4 _)))))))))
abbrev Zcm:Stmt:=top 34
theorem Zs3:FnScope ["_law_script","_law_draws_here","_law_deep","_law_start","_law_numbers","_law_word","_law_found","_law_op","_law_by","_law_more","_law_given_one","_law_term","_law_idle_one"] ["_law_script"] (Zh Zcm):=by walk_at "sc"
theorem Zt6:ZFK Pg w K mg base n "law" "law" Zcm ["_law_script"] 44:=fun T S F=>Z6 F Zs3 rfl rfl rfl fun _ _ _ _ _ _ hr=>by
  have nd:=Zs3.nd
  have hu:=hu150 hr
  show SdB _ (Zl Zcm) (w_law (wpc pr n))
  unfold w_law w_law_t4 w_law_t3 w_law_t2 w_law_t1
  exact(Zi (Zz (i:=1) nd (Ya S.zbr hr (by rfl) (Za (Zc 0) (Za Zj Ze))))
   (Zi (Zz (i:=2) nd (Yn X1 (Zw (Zc 1) Zj) Zj))
   (Zi (Z2 (Zs (Y8 hu) (Yn X1 (Zw (Zc 1) Zj) Zj) Zj) (Zk (Zv (Ya S.zbg hr (by rfl) (Za (Zc 1) Ze)))) Z8)
   (Zi (Zz (i:=3) nd (Ya S.zaf hr (by rfl) (Za (Zw (Zc 1) Zj) Ze)))
   (Zi (Z2 (Zs (Y8 hu) (Yn X1 (Zw (Zc 1) Zj) Zj) Zj) (Zi (Zdc (k:=4) (cN:=["_law_k","_law_draws_here"]) (cap:=[none,some 1]) (cl:=(Zay _ _ [])) (js:=[0]) (g:=(Zao 0)) nd rfl rfl rfl ⟨rfl,(fun ok=>Zed ok rfl (by decide+kernel) (by decide+kernel) rfl rfl rfl),(Zn8 (by rfl) T.zat (Za (Yn X1 (Zw (Zc 1) Zj) Zj) Ze)),(fun _ _ _=>Xg (i:=0) (show(["_law_k","_law_draws_here"]:List Str).Nodup by decide+kernel) rfl (Or.inl rfl)),Yd,Xt,J1,by decide+kernel,fun _ _ _=>Zbf,fun _ _ _=>(Ya S.zaf hr (by rfl) (Za (Zw (Zc 1) (Yn Zaf Zj (Zc 0))) Ze)),fun _=>rfl⟩)
   (Zi (Z2 (Zs (Y8 hu) (Yn X1 (Yn Zkg (Zw (Zc 1) Zj) Zj) Zj) Zj) (Zi (Zdc (k:=4) (cN:=["_law_k","_law_draws_here"]) (cap:=[none,some 1]) (cl:=(Zay _ _ [])) (js:=[0]) (g:=(Zao 0)) nd rfl rfl rfl ⟨rfl,(fun ok=>Zed ok rfl (by decide+kernel) (by decide+kernel) rfl rfl rfl),(Zn8 (by rfl) T.zat (Za (Yn X1 (Zw (Zc 1) Zj) Zj) Ze)),(fun _ _ _=>Xg (i:=0) (show(["_law_k","_law_draws_here"]:List Str).Nodup by decide+kernel) rfl (Or.inl rfl)),Yd,Xt,J1,by decide+kernel,fun _ _ _=>Zbf,fun _ _ _=>(Ya S.zaf hr (by rfl) (Za (Yn Zaf (Zw (Zc 1) (Yn Zaf Zj (Yn X1 (Zc 0) Zj))) (Zc 0)) Ze)),fun _=>rfl⟩)
   (Zk (Zz (i:=2) nd (Yn X1 (Zw (Zc 1) Zj) Zj)))) Z8)
   (Zi (Zz (i:=5) nd (Yn Zaf Zm (d_ty Zpv (by rfl) T.za3 Zmk (Za (Yn X1 (Zw (Zc 1) Zj) Zj) Ze))))
   (Zi (Zz (i:=6) nd (Zec 2 S.zaw hr (by rfl) (Za (Ya S.zao hr (by rfl) (Za (Zc 4) (Za (Zp (Za Zm (Za (Zc 5) Ze))) Ze))) (Za (Zc 2) (Za Zj Ze)))))
   (Zi (Z2 (Zs o_gt (Zc 2) (d_bi Zkz (by rfl) T.zaz PySem.boot_len (Za (Zc 4) Ze))) (Zk (Zv (Zvu (Zb9 (Y8 hu) (Zw (Zc 6) Zj) Zm (Za4 _)) (Zvr (Zb9 (Y8 hu) (Zw (Zc 6) Zj) (Zc 5) (Za4 _)))))) Z8)
   (Zk (Zv (Zvu (Zb9 (Y8 hu) (Zw (Zc 6) Zj) Zm (Za4 _)) (Zvr (Zb9 (Zt9 hu) (Zw (Zc 6) Zj) (Ya S.zal hr (by rfl) (Za (Zc 4) (Za (Zc 2) Ze))) (Za4 _))))))))))) Z8)
   (Zi (Zz (i:=7) nd (Zw Zm (Yn X1 (Zw (Zc 1) Zj) Zj)))
   (Zi (Zz (i:=8) nd (Ya S.zaf hr (by rfl) (Za (Zw (Zc 1) Zj) Ze)))
   (Zi (Zz (i:=9) nd (Ya S.zaf hr (by rfl) (Za (Zw (Zc 1) Zj) Ze)))
   (Zi (Zz (i:=10) nd (Zp (Za Zm (Za (Zc 3) Ze))))
   (Zi (Z2 (Zs (Y8 hu) (Yn X1 (Yn Zkg (Zw (Zc 1) Zj) Zj) Zj) Zj) (Zk (Zz (i:=10) nd (Zp (Za Zm (Za Zm Ze))))) Z8)
   (Zi (Zz (i:=11) nd (Ya S.za8 hr (by rfl) (Za (Zc 7) (Za (Zc 8) (Za (Zc 9) (Za (Zc 10) Ze))))))
   (Zi (Z2 (Zs (Y8 hu) (Yn X1 (Yn Zkg (Zw (Zc 1) Zj) Zj) Zj) Zj) (Zi (Zz (i:=12) nd (Zw (X3 (Za (Zp (Za Zm (Za Zm Ze))) (Za (Zp (Za Zm (Za Zm Ze))) Ze))) (Yn X1 (Yn Zkg (Zw (Zc 1) Zj) Zj) Zj)))
   (Zk (Zz (i:=11) nd (Zp (Za Zm (Za (Zp (Za (Zp (Za Zm (Za (Zc 12) Ze))) (Za (Zp (Za Zm (Za (Zp (Za Zm (Za (Zc 3) Ze))) Ze))) Ze))) (Za (Zc 11) Ze))))))) Z8)
   (Zi (Zdc (k:=4) (cN:=["_law_k","_law_op","_law_by","_law_start","_law_more"]) (cap:=[none,some 7,some 8,some 3,some 9]) (cl:=(Zay _ _ [])) (js:=[0]) (g:=(Zao 0)) nd rfl rfl rfl ⟨rfl,(fun ok=>Zed ok rfl (by decide+kernel) (by decide+kernel) rfl rfl rfl),(Zn8 (by rfl) T.zat (Za Zj Ze)),(fun _ _ _=>Xg (i:=0) (show(["_law_k","_law_op","_law_by","_law_start","_law_more"]:List Str).Nodup by decide+kernel) rfl (Or.inl rfl)),Yd,Xt,J1,by decide+kernel,fun _ _ _=>Zbf,fun _ _ _=>(Ya S.zbh hr (by rfl) (Za (Zc 1) (Za (Yn X1 (Yn Zaf (Zc 3) (Yn Znf (Zc 0) (Zc 4))) (Yn Zg6 Zj Zj)) (Za (Zc 2) Ze)))),fun _=>rfl⟩)
   (Zi (Zz (i:=6) nd (Zec 2 S.zaw hr (by rfl) (Za (Zc 11) (Za (Zc 2) (Za Zj Ze)))))
   (Zk (Zv (Zvu (Zb9 (Y8 hu) (Zw (Zc 6) Zj) Zm (Za4 _)) (Zvr (Zb9 (Zt9 hu) (Zw (Zc 6) Zj) (Ya S.zal hr (by rfl) (Za (Zc 4) (Za (Zc 2) Ze))) (Za4 _))))))))))))))))))))
end
theorem all_mk {l:W.OpenLaw}{w:World}{K:W.Frag}{h:Heap}{mg:Str→Option Value}{fa f0 f1 f2 f3 f4 f5 f6 f7 f8 f9 f10 f11 f12 f13 f14 f15 f16 f17 f18 f19 f20 f21 f22 f23 f24 f25 f26 f27 f28 f29 f30 f31 f32 f33 f34 f35 f36 f37 f38 f39 f40 f41 f42 f43 f44 Aa:Addr}(X:K.In h)(G:h.Ns mainGlobals mg)(hfa:mg "law"=some (.ref fa))
  {od0 an0 od1 an1 od2 an2 od3 an3 od4 an4 od5 an5 od6 an6 od7 an7 od8 an8 od9 an9 BT BU BV BW BX BY BZ Cd Ce Cf Cg Ch Ci Cj Ck Co Cp Cq Cr Ct Cu Cv Cw Cy Cz C0 CA CB CC CD CF CG CI CJ CK CL CM CO CP CQ CT CU CV CW CY CZ Da Db Dc Dd De Dg Dh AX Dj Dk Dl Dm Dn Do Dp Dq Dr Ds Dt Du Dv Dw Dx AY:Option Addr} {sl0 sl1 sl2 sl3 sl4 sl5 sl6 sl7 sl8 sl9 Dy Dz D3 D4 D5 D6 D7 D8 D9 DA DB DC DE DF DG DH DI DJ DK DL DM DN DO DP DQ DR DS DT DU DV DW DX DY DZ Ea:Array (Option Value)} {oc0 kV0 dc0 pm0 cd0 ct0 oc1 kV1 dc1 pm1 cd1 ct1 oc2 kV2 dc2 pm2 cd2 ct2 oc3 kV3 dc3 pm3 cd3 ct3 oc4 kV4 dc4 pm4 cd4 ct4 oc5 kV5 dc5 pm5 cd5 ct5 oc6 kV6 dc6 pm6 cd6 ct6 oc7 kV7 dc7 pm7 cd7 ct7 oc8 kV8 dc8 pm8 cd8 ct8 oc9 kV9 dc9 pm9 cd9 ct9 Eb Ec Ed Ee AZ Ef Eg Eh Ei Ej Ba Ek El Em Eo Ep Bb Er Es Et Eu Ew Bc Ey Ez E9 EA EB Bd EC ED EE EF EG Be EH EI EJ EK EL Bf EM EN EO EQ ER Bg ES ET EU EV EW Bh EX EY EZ Fa Fb Bi Fc Fd Fe Ff Fg Bj Fh Fi Fj Fk Fl Bk Fn Fo Fp Fq Ft Bl Fu Fv Fw Fx Fy Bm Fz FA FB FC FD Bn FE FF FG FH FI Bo FJ FK FL FM FN Bp FO FP FQ FR FS Bq FT FU FV FW FX Br FY FZ Ga Gb Gc Bs Ge Gf Gg Gh Gi Bt Gj Gk Gm Gn Go Bu Gp Gq Gr Gs Gu Bv Gv Gw Gx Gy Gz Bw G0 G3 G4 G5 G6 Bx G7 G8 G9 GA GB By GC GD Bz BA BB AT BC GE GF GG GH BD GI GJ GK GL GM BE GN GO GP GQ GR BF GS GT GU GV GW BG GX GY GZ Ha Hb BH Hc He Hf Hg Hh BI Hi Hj Hk Hl Hm BJ Hn Ho BK BL BM AU BN:Value}
  (Ac:W.nsIn K mainGlobals "Runner"=some (some (.ref Aa)))
  (Ae:W.plainGet K Aa Str.empty=true) (Af:W.hasDictIn K Aa=true) (Ag:W.plainOver K Aa=true) (Ah:W.findIn K (.ref Aa) "__setattr__"=some (some (.builtin "object.__setattr__"))) (AH:W.keepIn K (.ref Aa)=true)
  (AI:W.makesIn K Aa=true)
  (AA:W.findIn K (.ref Aa) "cells"=some none)
  (A5:W.findIn K (.ref Aa) "ending"=some none)
  (A6:W.findIn K (.ref Aa) "firsts"=some none)
  (AD:W.findIn K (.ref Aa) "hand"=some none)
  (A7:W.findIn K (.ref Aa) "labels"=some none)
  (AG:W.findIn K (.ref Aa) "log"=some none)
  (AE:W.findIn K (.ref Aa) "pile"=some none)
  (AB:W.findIn K (.ref Aa) "steps"=some none)
  (AC:W.findIn K (.ref Aa) "still"=some none)
  (A8:W.findIn K (.ref Aa) "things"=some none)
  (AF:W.findIn K (.ref Aa) "told"=some none)
  (A9:W.findIn K (.ref Aa) "wanted"=some none)
  (Ai:W.findIn K (.ref Aa) "__init__"=some (some (.ref f15)))
  (A3:W.findIn K (.ref Aa) "go"=some (some (.ref f16)))
  (As:W.findIn K (.ref Aa) "advance"=some (some (.ref f17)))
  (At:W.findIn K (.ref Aa) "outcome"=some (some (.ref f18)))
  (Av:W.findIn K (.ref Aa) "settle"=some (some (.ref f19)))
  (An:W.findIn K (.ref Aa) "tell_next"=some (some (.ref f20)))
  (Aj:W.findIn K (.ref Aa) "tell_value"=some (some (.ref f21)))
  (Ao:W.findIn K (.ref Aa) "take_step"=some (some (.ref f22)))
  (Ak:W.findIn K (.ref Aa) "take_apart"=some (some (.ref f23)))
  (Ap:W.findIn K (.ref Aa) "use_value"=some (some (.ref f24)))
  (Au:W.findIn K (.ref Aa) "go_into"=some (some (.ref f25)))
  (Am:W.findIn K (.ref Aa) "take_frame"=some (some (.ref f26)))
  (Ax:W.findIn K (.ref Aa) "bind"=some (some (.ref f27)))
  (Ay:W.findIn K (.ref Aa) "make"=some (some (.ref f28)))
  (Ar:W.findIn K (.ref Aa) "mark_for"=some (some (.ref f29)))
  (Az:W.findIn K (.ref Aa) "bear"=some (some (.ref f30)))
  (A0:W.findIn K (.ref Aa) "note"=some (some (.ref f31)))
  (A1:W.findIn K (.ref Aa) "keep"=some (some (.ref f32)))
  (Aw:W.findIn K (.ref Aa) "enter"=some (some (.ref f33)))
  (Aq:W.findIn K (.ref Aa) "come_back"=some (some (.ref f34)))
  (a0:W.nsIn K mainGlobals "with_parts"=some (some (.ref f0)))
  (l0:K.lookup f0=some ⟨oc0,od0,.func (W.fnOf "with_parts" "with_parts" (Zu J5) (Zl J5) (Zh J5) .none kV0 dc0 pm0 an0 cd0 ct0),sl0⟩) (c0:W.codeIn K cd0 "with_parts"=true) (k0:W.keepIn K (.ref f0)=true)
  (a1:W.nsIn K mainGlobals "with_lasts"=some (some (.ref f1)))
  (l1:K.lookup f1=some ⟨oc1,od1,.func (W.fnOf "with_lasts" "with_lasts" (Zu J6) (Zl J6) (Zh J6) .none kV1 dc1 pm1 an1 cd1 ct1),sl1⟩) (c1:W.codeIn K cd1 "with_lasts"=true) (k1:W.keepIn K (.ref f1)=true)
  (a2:W.nsIn K mainGlobals "scopes"=some (some (.ref f2)))
  (l2:K.lookup f2=some ⟨oc2,od2,.func (W.fnOf "scopes" "scopes" (Zu Za1) (Zl Za1) (Zh Za1) .none kV2 dc2 pm2 an2 cd2 ct2),sl2⟩) (c2:W.codeIn K cd2 "scopes"=true) (k2:W.keepIn K (.ref f2)=true)
  (a3:W.nsIn K mainGlobals "let_scopes"=some (some (.ref f3)))
  (l3:K.lookup f3=some ⟨oc3,od3,.func (W.fnOf "let_scopes" "let_scopes" (Zu J7) (Zl J7) (Zh J7) .none kV3 dc3 pm3 an3 cd3 ct3),sl3⟩) (c3:W.codeIn K cd3 "let_scopes"=true) (k3:W.keepIn K (.ref f3)=true)
  (a4:W.nsIn K mainGlobals "rows_scopes"=some (some (.ref f4)))
  (l4:K.lookup f4=some ⟨oc4,od4,.func (W.fnOf "rows_scopes" "rows_scopes" (Zu Jq) (Zl Jq) (Zh Jq) .none kV4 dc4 pm4 an4 cd4 ct4),sl4⟩) (c4:W.codeIn K cd4 "rows_scopes"=true) (k4:W.keepIn K (.ref f4)=true)
  (a5:W.nsIn K mainGlobals "put"=some (some (.ref f5)))
  (l5:K.lookup f5=some ⟨oc5,od5,.func (W.fnOf "put" "put" (Zu Ze5) (Zl Ze5) (Zh Ze5) .none kV5 dc5 pm5 an5 cd5 ct5),sl5⟩) (c5:W.codeIn K cd5 "put"=true) (k5:W.keepIn K (.ref f5)=true)
  (a6:W.nsIn K mainGlobals "changed"=some (some (.ref f6)))
  (l6:K.lookup f6=some ⟨oc6,od6,.func (W.fnOf "changed" "changed" (Zu Zam) (Zl Zam) (Zh Zam) .none kV6 dc6 pm6 an6 cd6 ct6),sl6⟩) (c6:W.codeIn K cd6 "changed"=true) (k6:W.keepIn K (.ref f6)=true)
  (a7:W.nsIn K mainGlobals "without"=some (some (.ref f7)))
  (l7:K.lookup f7=some ⟨oc7,od7,.func (W.fnOf "without" "without" (Zu Zak) (Zl Zak) (Zh Zak) .none kV7 dc7 pm7 an7 cd7 ct7),sl7⟩) (c7:W.codeIn K cd7 "without"=true) (k7:W.keepIn K (.ref f7)=true)
  (a8:W.nsIn K mainGlobals "is_mark"=some (some (.ref f8)))
  (l8:K.lookup f8=some ⟨oc8,od8,.func (W.fnOf "is_mark" "is_mark" (Zu Zal) (Zl Zal) (Zh Zal) .none kV8 dc8 pm8 an8 cd8 ct8),sl8⟩) (c8:W.codeIn K cd8 "is_mark"=true) (k8:W.keepIn K (.ref f8)=true)
  (a9:W.nsIn K mainGlobals "is_value"=some (some (.ref f9)))
  (l9:K.lookup f9=some ⟨oc9,od9,.func (W.fnOf "is_value" "is_value" (Zu X5) (Zl X5) (Zh X5) .none kV9 dc9 pm9 an9 cd9 ct9),sl9⟩) (c9:W.codeIn K cd9 "is_value"=true) (k9:W.keepIn K (.ref f9)=true)
  (a10:W.nsIn K mainGlobals "reckoned"=some (some (.ref f10)))
  (l10:K.lookup f10=some ⟨Eb,BT,.func (W.fnOf "reckoned" "reckoned" (Zu X4) (Zl X4) (Zh X4) .none Ec Ed Ee BU AZ Ef),Dy⟩) (c10:W.codeIn K AZ "reckoned"=true) (k10:W.keepIn K (.ref f10)=true)
  (a11:W.nsIn K mainGlobals "truth"=some (some (.ref f11)))
  (l11:K.lookup f11=some ⟨Eg,BV,.func (W.fnOf "truth" "truth" (Zu Zb3) (Zl Zb3) (Zh Zb3) .none Eh Ei Ej BW Ba Ek),Dz⟩) (c11:W.codeIn K Ba "truth"=true) (k11:W.keepIn K (.ref f11)=true)
  (a12:W.nsIn K mainGlobals "picked"=some (some (.ref f12)))
  (l12:K.lookup f12=some ⟨El,BX,.func (W.fnOf "picked" "picked" (Zu Za2) (Zl Za2) (Zh Za2) .none Em Eo Ep BY Bb Er),D3⟩) (c12:W.codeIn K Bb "picked"=true) (k12:W.keepIn K (.ref f12)=true)
  (a13:W.nsIn K mainGlobals "alternative_of"=some (some (.ref f13)))
  (l13:K.lookup f13=some ⟨Es,BZ,.func (W.fnOf "alternative_of" "alternative_of" (Zu Y3) (Zl Y3) (Zh Y3) .none Et Eu Ew Cd Bc Ey),D4⟩) (c13:W.codeIn K Bc "alternative_of"=true) (k13:W.keepIn K (.ref f13)=true)
  (a14:W.nsIn K mainGlobals "fits"=some (some (.ref f14)))
  (l14:K.lookup f14=some ⟨Ez,Ce,.func (W.fnOf "fits" "fits" (Zu Zc7) (Zl Zc7) (Zh Zc7) .none E9 EA EB Cf Bd EC),D5⟩) (c14:W.codeIn K Bd "fits"=true) (k14:W.keepIn K (.ref f14)=true)
  (im15:W.isFn K (.ref f15)=true)
  (l15:K.lookup f15=some ⟨ED,Cg,.func (W.fnOf "__init__" "Runner.__init__" (Zu Yv) (Zl Yv) (Zh Yv) .none EE EF EG Ch Be EH),D6⟩) (c15:W.codeIn K Be "Runner.__init__"=true) (k15:W.keepIn K (.ref f15)=true)
  (im16:W.isFn K (.ref f16)=true)
  (l16:K.lookup f16=some ⟨EI,Ci,.func (W.fnOf "go" "Runner.go" (Zu Xr) (Zl Xr) (Zh Xr) .none EJ EK EL Cj Bf EM),D7⟩) (c16:W.codeIn K Bf "Runner.go"=true) (k16:W.keepIn K (.ref f16)=true)
  (im17:W.isFn K (.ref f17)=true)
  (l17:K.lookup f17=some ⟨EN,Ck,.func (W.fnOf "advance" "Runner.advance" (Zu Y6) (Zl Y6) (Zh Y6) .none EO EQ ER Co Bg ES),D8⟩) (c17:W.codeIn K Bg "Runner.advance"=true) (k17:W.keepIn K (.ref f17)=true)
  (im18:W.isFn K (.ref f18)=true)
  (l18:K.lookup f18=some ⟨ET,Cp,.func (W.fnOf "outcome" "Runner.outcome" (Zu Y4) (Zl Y4) (Zh Y4) .none EU EV EW Cq Bh EX),D9⟩) (c18:W.codeIn K Bh "Runner.outcome"=true) (k18:W.keepIn K (.ref f18)=true)
  (im19:W.isFn K (.ref f19)=true)
  (l19:K.lookup f19=some ⟨EY,Cr,.func (W.fnOf "settle" "Runner.settle" (Zu Jh) (Zl Jh) (Zh Jh) .none EZ Fa Fb Ct Bi Fc),DA⟩) (c19:W.codeIn K Bi "Runner.settle"=true) (k19:W.keepIn K (.ref f19)=true)
  (im20:W.isFn K (.ref f20)=true)
  (l20:K.lookup f20=some ⟨Fd,Cu,.func (W.fnOf "tell_next" "Runner.tell_next" (Zu Yr) (Zl Yr) (Zh Yr) .none Fe Ff Fg Cv Bj Fh),DB⟩) (c20:W.codeIn K Bj "Runner.tell_next"=true) (k20:W.keepIn K (.ref f20)=true)
  (im21:W.isFn K (.ref f21)=true)
  (l21:K.lookup f21=some ⟨Fi,Cw,.func (W.fnOf "tell_value" "Runner.tell_value" (Zu Yj) (Zl Yj) (Zh Yj) .none Fj Fk Fl Cy Bk Fn),DC⟩) (c21:W.codeIn K Bk "Runner.tell_value"=true) (k21:W.keepIn K (.ref f21)=true)
  (im22:W.isFn K (.ref f22)=true)
  (l22:K.lookup f22=some ⟨Fo,Cz,.func (W.fnOf "take_step" "Runner.take_step" (Zu Ys) (Zl Ys) (Zh Ys) .none Fp Fq Ft C0 Bl Fu),DE⟩) (c22:W.codeIn K Bl "Runner.take_step"=true) (k22:W.keepIn K (.ref f22)=true)
  (im23:W.isFn K (.ref f23)=true)
  (l23:K.lookup f23=some ⟨Fv,CA,.func (W.fnOf "take_apart" "Runner.take_apart" (Zu Yl) (Zl Yl) (Zh Yl) .none Fw Fx Fy CB Bm Fz),DF⟩) (c23:W.codeIn K Bm "Runner.take_apart"=true) (k23:W.keepIn K (.ref f23)=true)
  (im24:W.isFn K (.ref f24)=true)
  (l24:K.lookup f24=some ⟨FA,CC,.func (W.fnOf "use_value" "Runner.use_value" (Zu Yq) (Zl Yq) (Zh Yq) .none FB FC FD CD Bn FE),DG⟩) (c24:W.codeIn K Bn "Runner.use_value"=true) (k24:W.keepIn K (.ref f24)=true)
  (im25:W.isFn K (.ref f25)=true)
  (l25:K.lookup f25=some ⟨FF,CF,.func (W.fnOf "go_into" "Runner.go_into" (Zu Y5) (Zl Y5) (Zh Y5) .none FG FH FI CG Bo FJ),DH⟩) (c25:W.codeIn K Bo "Runner.go_into"=true) (k25:W.keepIn K (.ref f25)=true)
  (im26:W.isFn K (.ref f26)=true)
  (l26:K.lookup f26=some ⟨FK,CI,.func (W.fnOf "take_frame" "Runner.take_frame" (Zu Yk) (Zl Yk) (Zh Yk) .none FL FM FN CJ Bp FO),DI⟩) (c26:W.codeIn K Bp "Runner.take_frame"=true) (k26:W.keepIn K (.ref f26)=true)
  (im27:W.isFn K (.ref f27)=true)
  (l27:K.lookup f27=some ⟨FP,CK,.func (W.fnOf "bind" "Runner.bind" (Zu Jv) (Zl Jv) (Zh Jv) .none FQ FR FS CL Bq FT),DJ⟩) (c27:W.codeIn K Bq "Runner.bind"=true) (k27:W.keepIn K (.ref f27)=true)
  (im28:W.isFn K (.ref f28)=true)
  (l28:K.lookup f28=some ⟨FU,CM,.func (W.fnOf "make" "Runner.make" (Zu Jt) (Zl Jt) (Zh Jt) .none FV FW FX CO Br FY),DK⟩) (c28:W.codeIn K Br "Runner.make"=true) (k28:W.keepIn K (.ref f28)=true)
  (im29:W.isFn K (.ref f29)=true)
  (l29:K.lookup f29=some ⟨FZ,CP,.func (W.fnOf "mark_for" "Runner.mark_for" (Zu Yu) (Zl Yu) (Zh Yu) .none Ga Gb Gc CQ Bs Ge),DL⟩) (c29:W.codeIn K Bs "Runner.mark_for"=true) (k29:W.keepIn K (.ref f29)=true)
  (im30:W.isFn K (.ref f30)=true)
  (l30:K.lookup f30=some ⟨Gf,CT,.func (W.fnOf "bear" "Runner.bear" (Zu Jw) (Zl Jw) (Zh Jw) .none Gg Gh Gi CU Bt Gj),DM⟩) (c30:W.codeIn K Bt "Runner.bear"=true) (k30:W.keepIn K (.ref f30)=true)
  (im31:W.isFn K (.ref f31)=true)
  (l31:K.lookup f31=some ⟨Gk,CV,.func (W.fnOf "note" "Runner.note" (Zu Js) (Zl Js) (Zh Js) .none Gm Gn Go CW Bu Gp),DN⟩) (c31:W.codeIn K Bu "Runner.note"=true) (k31:W.keepIn K (.ref f31)=true)
  (im32:W.isFn K (.ref f32)=true)
  (l32:K.lookup f32=some ⟨Gq,CY,.func (W.fnOf "keep" "Runner.keep" (Zu Ju) (Zl Ju) (Zh Ju) .none Gr Gs Gu CZ Bv Gv),DO⟩) (c32:W.codeIn K Bv "Runner.keep"=true) (k32:W.keepIn K (.ref f32)=true)
  (im33:W.isFn K (.ref f33)=true)
  (l33:K.lookup f33=some ⟨Gw,Da,.func (W.fnOf "enter" "Runner.enter" (Zu Jl) (Zl Jl) (Zh Jl) .none Gx Gy Gz Db Bw G0),DP⟩) (c33:W.codeIn K Bw "Runner.enter"=true) (k33:W.keepIn K (.ref f33)=true)
  (im34:W.isFn K (.ref f34)=true)
  (l34:K.lookup f34=some ⟨G3,Dc,.func (W.fnOf "come_back" "Runner.come_back" (Zu Yt) (Zl Yt) (Zh Yt) .none G4 G5 G6 Dd Bx G7),DQ⟩) (c34:W.codeIn K Bx "Runner.come_back"=true) (k34:W.keepIn K (.ref f34)=true)
  (a35:W.nsIn K mainGlobals "pieces_of"=some (some (.ref f35)))
  (l35:K.lookup f35=some ⟨G8,De,.func (W.fnOf "pieces_of" "pieces_of" (Zu Xp) (Zl Xp) (Zh Xp) .none G9 GA GB Dg By GC),DR⟩) (c35:W.codeIn K By "pieces_of"=true) (k35:W.keepIn K (.ref f35)=true)
  {T_run:Addr} {dc_run:Value} {dd_run:Option Addr} {dn_run:Nat} {ds_run:Array (Option Value)} {dt_run_0 dt_run_1:Tok}
  (a36:W.nsIn K mainGlobals "run"=some (some (.ref f36)))
  (l36:K.lookup f36=some ⟨GD,Dh,.func (W.fnOf "run" "run" (Zu Zcl) (Zl Zcl) (Zh Zcl) (.ref T_run) Bz BA BB AX AT BC),DS⟩) (c36:W.codeIn K AT "run"=true) (k36:W.keepIn K (.ref f36)=true)
  (dl_run:K.lookup T_run=some ⟨dc_run,dd_run,.seq #[.int 8 dt_run_0,.int 400 dt_run_1] dn_run,ds_run⟩)
  (a37:W.nsIn K mainGlobals "_law_draws"=some (some (.ref f37)))
  (l37:K.lookup f37=some ⟨GE,Dj,.func (W.fnOf "_law_draws" "_law_draws" (Zu J8) (Zl J8) (Zh J8) .none GF GG GH Dk BD GI),DT⟩) (c37:W.codeIn K BD "_law_draws"=true) (k37:W.keepIn K (.ref f37)=true)
  (a38:W.nsIn K mainGlobals "_law_number"=some (some (.ref f38)))
  (l38:K.lookup f38=some ⟨GJ,Dl,.func (W.fnOf "_law_number" "_law_number" (Zu Jr) (Zl Jr) (Zh Jr) .none GK GL GM Dm BE GN),DU⟩) (c38:W.codeIn K BE "_law_number"=true) (k38:W.keepIn K (.ref f38)=true)
  (a39:W.nsIn K mainGlobals "_law_cut_text"=some (some (.ref f39)))
  (l39:K.lookup f39=some ⟨GO,Dn,.func (W.fnOf "_law_cut_text" "_law_cut_text" (Zu Jg) (Zl Jg) (Zh Jg) .none GP GQ GR Do BF GS),DV⟩) (c39:W.codeIn K BF "_law_cut_text"=true) (k39:W.keepIn K (.ref f39)=true)
  (a40:W.nsIn K mainGlobals "_law_list"=some (some (.ref f40)))
  (l40:K.lookup f40=some ⟨GT,Dp,.func (W.fnOf "_law_list" "_law_list" (Zu Xq) (Zl Xq) (Zh Xq) .none GU GV GW Dq BG GX),DW⟩) (c40:W.codeIn K BG "_law_list"=true) (k40:W.keepIn K (.ref f40)=true)
  (a41:W.nsIn K mainGlobals "_law_gone_through"=some (some (.ref f41)))
  (l41:K.lookup f41=some ⟨GY,Dr,.func (W.fnOf "_law_gone_through" "_law_gone_through" (Zu Yi) (Zl Yi) (Zh Yi) .none GZ Ha Hb Ds BH Hc),DX⟩) (c41:W.codeIn K BH "_law_gone_through"=true) (k41:W.keepIn K (.ref f41)=true)
  (a42:W.nsIn K mainGlobals "_law_reckoned"=some (some (.ref f42)))
  (l42:K.lookup f42=some ⟨He,Dt,.func (W.fnOf "_law_reckoned" "_law_reckoned" (Zu Je) (Zl Je) (Zh Je) .none Hf Hg Hh Du BI Hi),DY⟩) (c42:W.codeIn K BI "_law_reckoned"=true) (k42:W.keepIn K (.ref f42)=true)
  (a43:W.nsIn K mainGlobals "_law_left_out"=some (some (.ref f43)))
  (l43:K.lookup f43=some ⟨Hj,Dv,.func (W.fnOf "_law_left_out" "_law_left_out" (Zu Jf) (Zl Jf) (Zh Jf) .none Hk Hl Hm Dw BJ Hn),DZ⟩) (c43:W.codeIn K BJ "_law_left_out"=true) (k43:W.keepIn K (.ref f43)=true)
  (a44:W.nsIn K mainGlobals "law"=some (some (.ref f44)))
  (l44:K.lookup f44=some ⟨Ho,Dx,.func (W.fnOf "law" "law" (Zu Zcm) (Zl Zcm) (Zh Zcm) .none BK BL BM AY AU BN),Ea⟩) (c44:W.codeIn K AU "law"=true) (k44:W.keepIn K (.ref f44)=true)
  (BO:W.nsIn K mainGlobals "any"=some none)
  (AV:W.nsIn K mainGlobals "dict"=some none)
  (AK:W.nsIn K mainGlobals "enumerate"=some none)
  (AJ:W.nsIn K mainGlobals "isinstance"=some none)
  (BP:W.nsIn K mainGlobals "len"=some none)
  (AW:W.nsIn K mainGlobals "list"=some none)
  (BQ:W.nsIn K mainGlobals "max"=some none)
  (AR:W.nsIn K mainGlobals "range"=some none)
  (AL:W.nsIn K mainGlobals "reversed"=some none)
  (BR:W.nsIn K mainGlobals "str"=some none)
  (AS:W.nsIn K mainGlobals "tuple"=some none)
  (BS:W.nsIn K mainGlobals "zip"=some none)
  {gt_MARKS_0:Tok}
  {gt_MARKS_1:Tok}
  {gt_MARKS_2:Tok}
  {A4:Addr} {gn_MARKS:Nat} {gs_MARKS:Array (Option Value)} (AO:K.lookup A4=some ⟨.type "tuple",none,.seq #[.str "at" gt_MARKS_0,.str "shut" gt_MARKS_1,.str "ring" gt_MARKS_2] gn_MARKS,gs_MARKS⟩)
  (AQ:W.nsIn K mainGlobals "MARKS"=some (some (.ref A4)))
  {gt_VALUES_0:Tok}
  {gt_VALUES_1:Tok}
  {gt_VALUES_2:Tok}
  {A2:Addr} {gn_VALUES:Nat} {gs_VALUES:Array (Option Value)} (AM:K.lookup A2=some ⟨.type "tuple",none,.seq #[.str "number" gt_VALUES_0,.str "fun" gt_VALUES_1,.str "made" gt_VALUES_2] gn_VALUES,gs_VALUES⟩)
  (AN:W.nsIn K mainGlobals "VALUES"=some (some (.ref A2)))
  :∃fd:FuncData,(∀(s:Shared) (v:Value),BindsTo s fd ⟨[v],[]⟩ [("_law_script",v)])∧∀base:Heap,K.In base→base.Ns mainGlobals mg→FnOk l.prog w K mg base CX0 60 fa fd ["_law_script"] (spW K pr 60 44):=by
 have e:=hfa.symm.trans (W.mg_of X G a44)
 cases e
 have T:Txt w K mg:=⟨W.mg_none_of X G BO,W.mg_none_of X G AV,W.mg_none_of X G AK,W.mg_none_of X G AJ,W.mg_none_of X G BP,W.mg_none_of X G AW,W.mg_none_of X G BQ,W.mg_none_of X G AR,W.mg_none_of X G AL,W.mg_none_of X G BR,W.mg_none_of X G AS,W.mg_none_of X G BS,⟨.ref A4,.ref A4,W.mg_of X G AQ,rfl,fun H=>(Znb (xs:=[V.str "at",V.str "shut",V.str "ring"]) AO (show 3≤sizeLine by decide) (.cons ⟨_,rfl⟩ (.cons ⟨_,rfl⟩ (.cons ⟨_,rfl⟩ .nil))) (Yp J2 (Yp J2 (Yp J2 Jx))))⟩,⟨.ref A2,.ref A2,W.mg_of X G AN,rfl,fun H=>(Znb (xs:=[V.str "number",V.str "fun",V.str "made"]) AM (show 3≤sizeLine by decide) (.cons ⟨_,rfl⟩ (.cons ⟨_,rfl⟩ (.cons ⟨_,rfl⟩ .nil))) (Yp J2 (Yp J2 (Yp J2 Jx))))⟩,⟨Aa,Ac,⟨Ae,Af,Ag,Ah⟩,AA⟩,⟨Aa,Ac,⟨Ae,Af,Ag,Ah⟩,A5⟩,⟨Aa,Ac,⟨Ae,Af,Ag,Ah⟩,A6⟩,⟨Aa,Ac,⟨Ae,Af,Ag,Ah⟩,AD⟩,⟨Aa,Ac,⟨Ae,Af,Ag,Ah⟩,A7⟩,⟨Aa,Ac,⟨Ae,Af,Ag,Ah⟩,AG⟩,⟨Aa,Ac,⟨Ae,Af,Ag,Ah⟩,AE⟩,⟨Aa,Ac,⟨Ae,Af,Ag,Ah⟩,AB⟩,⟨Aa,Ac,⟨Ae,Af,Ag,Ah⟩,AC⟩,⟨Aa,Ac,⟨Ae,Af,Ag,Ah⟩,A8⟩,⟨Aa,Ac,⟨Ae,Af,Ag,Ah⟩,AF⟩,⟨Aa,Ac,⟨Ae,Af,Ag,Ah⟩,A9⟩⟩
 have Ab:Kl K mg "Runner" Aa:=⟨Ac,W.mg_of X G Ac,⟨Ae,Af,Ag,Ah⟩⟩
 have F0:=Z5 (st:=J5) l0 c0 k0
 have B0:Binds K _ ["term","given"] []:=F0.binds (fun _ _ _ _ _ _ us hl=>match us,hl with | [_,_],_=>rfl)
 have M0:=W.mg_of X G a0
 have F1:=Z5 (st:=J6) l1 c1 k1
 have B1:Binds K _ ["tuples","lasts"] []:=F1.binds (fun _ _ _ _ _ _ us hl=>match us,hl with | [_,_],_=>rfl)
 have M1:=W.mg_of X G a1
 have F2:=Z5 (st:=Za1) l2 c2 k2
 have B2:Binds K _ ["term"] []:=F2.binds (fun _ _ _ _ _ _ us hl=>match us,hl with | [_],_=>rfl)
 have M2:=W.mg_of X G a2
 have F3:=Z5 (st:=J7) l3 c3 k3
 have B3:Binds K _ ["pairs","body"] []:=F3.binds (fun _ _ _ _ _ _ us hl=>match us,hl with | [_,_],_=>rfl)
 have M3:=W.mg_of X G a3
 have F4:=Z5 (st:=Jq) l4 c4 k4
 have B4:Binds K _ ["body","steps"] []:=F4.binds (fun _ _ _ _ _ _ us hl=>match us,hl with | [_,_],_=>rfl)
 have M4:=W.mg_of X G a4
 have F5:=Z5 (st:=Ze5) l5 c5 k5
 have B5:Binds K _ ["term","marks"] []:=F5.binds (fun _ _ _ _ _ _ us hl=>match us,hl with | [_,_],_=>rfl)
 have M5:=W.mg_of X G a5
 have F6:=Z5 (st:=Zam) l6 c6 k6
 have B6:Binds K _ ["term","marks"] []:=F6.binds (fun _ _ _ _ _ _ us hl=>match us,hl with | [_,_],_=>rfl)
 have M6:=W.mg_of X G a6
 have F7:=Z5 (st:=Zak) l7 c7 k7
 have B7:Binds K _ ["marks","names"] []:=F7.binds (fun _ _ _ _ _ _ us hl=>match us,hl with | [_,_],_=>rfl)
 have M7:=W.mg_of X G a7
 have F8:=Z5 (st:=Zal) l8 c8 k8
 have B8:Binds K _ ["term"] []:=F8.binds (fun _ _ _ _ _ _ us hl=>match us,hl with | [_],_=>rfl)
 have M8:=W.mg_of X G a8
 have F9:=Z5 (st:=X5) l9 c9 k9
 have B9:Binds K _ ["term"] []:=F9.binds (fun _ _ _ _ _ _ us hl=>match us,hl with | [_],_=>rfl)
 have M9:=W.mg_of X G a9
 have F10:=Z5 (st:=X4) l10 c10 k10
 have B10:Binds K _ ["op","one","other"] []:=F10.binds (fun _ _ _ _ _ _ us hl=>match us,hl with | [_,_,_],_=>rfl)
 have M10:=W.mg_of X G a10
 have F11:=Z5 (st:=Zb3) l11 c11 k11
 have B11:Binds K _ ["holds"] []:=F11.binds (fun _ _ _ _ _ _ us hl=>match us,hl with | [_],_=>rfl)
 have M11:=W.mg_of X G a11
 have F12:=Z5 (st:=Za2) l12 c12 k12
 have B12:Binds K _ ["value","alternatives"] []:=F12.binds (fun _ _ _ _ _ _ us hl=>match us,hl with | [_,_],_=>rfl)
 have M12:=W.mg_of X G a12
 have F13:=Z5 (st:=Y3) l13 c13 k13
 have B13:Binds K _ ["value","alternatives"] []:=F13.binds (fun _ _ _ _ _ _ us hl=>match us,hl with | [_,_],_=>rfl)
 have M13:=W.mg_of X G a13
 have F14:=Z5 (st:=Zc7) l14 c14 k14
 have B14:Binds K _ ["value","frame"] []:=F14.binds (fun _ _ _ _ _ _ us hl=>match us,hl with | [_,_],_=>rfl)
 have M14:=W.mg_of X G a14
 have F15:=Z5 (st:=Yv) l15 c15 k15
 have B15:Binds K _ ["self","term","depth"] []:=F15.binds (fun _ _ _ _ _ _ us hl=>match us,hl with | [_,_,_],_=>rfl)
 have F16:=Z5 (st:=Xr) l16 c16 k16
 have B16:Binds K _ ["self","most"] []:=F16.binds (fun _ _ _ _ _ _ us hl=>match us,hl with | [_,_],_=>rfl)
 have F17:=Z5 (st:=Y6) l17 c17 k17
 have B17:Binds K _ ["self","most"] []:=F17.binds (fun _ _ _ _ _ _ us hl=>match us,hl with | [_,_],_=>rfl)
 have F18:=Z5 (st:=Y4) l18 c18 k18
 have B18:Binds K _ ["self"] []:=F18.binds (fun _ _ _ _ _ _ us hl=>match us,hl with | [_],_=>rfl)
 have F19:=Z5 (st:=Jh) l19 c19 k19
 have B19:Binds K _ ["self"] []:=F19.binds (fun _ _ _ _ _ _ us hl=>match us,hl with | [_],_=>rfl)
 have F20:=Z5 (st:=Yr) l20 c20 k20
 have B20:Binds K _ ["self"] []:=F20.binds (fun _ _ _ _ _ _ us hl=>match us,hl with | [_],_=>rfl)
 have F21:=Z5 (st:=Yj) l21 c21 k21
 have B21:Binds K _ ["self"] []:=F21.binds (fun _ _ _ _ _ _ us hl=>match us,hl with | [_],_=>rfl)
 have F22:=Z5 (st:=Ys) l22 c22 k22
 have B22:Binds K _ ["self"] []:=F22.binds (fun _ _ _ _ _ _ us hl=>match us,hl with | [_],_=>rfl)
 have F23:=Z5 (st:=Yl) l23 c23 k23
 have B23:Binds K _ ["self","term"] []:=F23.binds (fun _ _ _ _ _ _ us hl=>match us,hl with | [_,_],_=>rfl)
 have F24:=Z5 (st:=Yq) l24 c24 k24
 have B24:Binds K _ ["self","value","frame"] []:=F24.binds (fun _ _ _ _ _ _ us hl=>match us,hl with | [_,_,_],_=>rfl)
 have F25:=Z5 (st:=Y5) l25 c25 k25
 have B25:Binds K _ ["self","term","frame"] []:=F25.binds (fun _ _ _ _ _ _ us hl=>match us,hl with | [_,_,_],_=>rfl)
 have F26:=Z5 (st:=Yk) l26 c26 k26
 have B26:Binds K _ ["self"] []:=F26.binds (fun _ _ _ _ _ _ us hl=>match us,hl with | [_],_=>rfl)
 have F27:=Z5 (st:=Jv) l27 c27 k27
 have B27:Binds K _ ["self","pairs","body"] []:=F27.binds (fun _ _ _ _ _ _ us hl=>match us,hl with | [_,_,_],_=>rfl)
 have F28:=Z5 (st:=Jt) l28 c28 k28
 have B28:Binds K _ ["self","shape","given"] []:=F28.binds (fun _ _ _ _ _ _ us hl=>match us,hl with | [_,_,_],_=>rfl)
 have F29:=Z5 (st:=Yu) l29 c29 k29
 have B29:Binds K _ ["self","label","text"] []:=F29.binds (fun _ _ _ _ _ _ us hl=>match us,hl with | [_,_,_],_=>rfl)
 have F30:=Z5 (st:=Jw) l30 c30 k30
 have B30:Binds K _ ["self","label"] []:=F30.binds (fun _ _ _ _ _ _ us hl=>match us,hl with | [_,_],_=>rfl)
 have F31:=Z5 (st:=Js) l31 c31 k31
 have B31:Binds K _ ["self","event","number"] []:=F31.binds (fun _ _ _ _ _ _ us hl=>match us,hl with | [_,_,_],_=>rfl)
 have F32:=Z5 (st:=Ju) l32 c32 k32
 have B32:Binds K _ ["self","number","text"] []:=F32.binds (fun _ _ _ _ _ _ us hl=>match us,hl with | [_,_,_],_=>rfl)
 have F33:=Z5 (st:=Jl) l33 c33 k33
 have B33:Binds K _ ["self","number"] []:=F33.binds (fun _ _ _ _ _ _ us hl=>match us,hl with | [_,_],_=>rfl)
 have F34:=Z5 (st:=Yt) l34 c34 k34
 have B34:Binds K _ ["self","number"] []:=F34.binds (fun _ _ _ _ _ _ us hl=>match us,hl with | [_,_],_=>rfl)
 have F35:=Z5 (st:=Xp) l35 c35 k35
 have B35:Binds K _ ["value","depth"] []:=F35.binds (fun _ _ _ _ _ _ us hl=>match us,hl with | [_,_],_=>rfl)
 have M35:=W.mg_of X G a35
 have F36:FunD K "run" "run" Zcl f36 _:=⟨⟨_,_,_,_,_,_,_,_,_,_,rfl,l36,c36⟩,k36⟩
 have B36:∃us:List Value,Vals (([8,400]:List Int).map V.int) us∧∀j,j≤2→Binds K (W.fnOf "run" "run" (Zu Zcl) (Zl Zcl) (Zh Zcl) (.ref T_run) Bz BA BB AX AT BC) ["term","depth","most"] (us.drop j):=⟨[.int 8 dt_run_0,.int 400 dt_run_1],.cons ⟨_,rfl⟩ (.cons ⟨_,rfl⟩ (.nil)),fun j hj=>match j,hj with | 0,_=>(fun s us kin hl=>(match us,(show us.length=1 by simpa using hl) with | [_],_=>W.binds_K kin rfl dl_run rfl rfl rfl)) | 1,_=>(fun s us kin hl=>(match us,(show us.length=2 by simpa using hl) with | [_,_],_=>W.binds_K kin rfl dl_run rfl rfl rfl)) | 2,_=>(fun s us kin hl=>(match us,(show us.length=3 by simpa using hl) with | [_,_,_],_=>W.binds_K kin rfl dl_run rfl rfl rfl)) | (j+3),h=>absurd h (by omega)⟩
 have M36:=W.mg_of X G a36
 have F37:=Z5 (st:=J8) l37 c37 k37
 have B37:Binds K _ ["_law_script","_law_many"] []:=F37.binds (fun _ _ _ _ _ _ us hl=>match us,hl with | [_,_],_=>rfl)
 have M37:=W.mg_of X G a37
 have F38:=Z5 (st:=Jr) l38 c38 k38
 have B38:Binds K _ ["_law_draw"] []:=F38.binds (fun _ _ _ _ _ _ us hl=>match us,hl with | [_],_=>rfl)
 have M38:=W.mg_of X G a38
 have F39:=Z5 (st:=Jg) l39 c39 k39
 have B39:Binds K _ ["_law_numbers","_law_deep"] []:=F39.binds (fun _ _ _ _ _ _ us hl=>match us,hl with | [_,_],_=>rfl)
 have M39:=W.mg_of X G a39
 have F40:=Z5 (st:=Xq) l40 c40 k40
 have B40:Binds K _ ["_law_numbers","_law_tail"] []:=F40.binds (fun _ _ _ _ _ _ us hl=>match us,hl with | [_,_],_=>rfl)
 have M40:=W.mg_of X G a40
 have F41:=Z5 (st:=Yi) l41 c41 k41
 have B41:Binds K _ ["_law_op","_law_by","_law_more","_law_start"] []:=F41.binds (fun _ _ _ _ _ _ us hl=>match us,hl with | [_,_,_,_],_=>rfl)
 have M41:=W.mg_of X G a41
 have F42:=Z5 (st:=Je) l42 c42 k42
 have B42:Binds K _ ["_law_op","_law_one","_law_by"] []:=F42.binds (fun _ _ _ _ _ _ us hl=>match us,hl with | [_,_,_],_=>rfl)
 have M42:=W.mg_of X G a42
 have F43:=Z5 (st:=Jf) l43 c43 k43
 have B43:Binds K _ ["_law_draws_here"] []:=F43.binds (fun _ _ _ _ _ _ us hl=>match us,hl with | [_],_=>rfl)
 have M43:=W.mg_of X G a43
 have F44:=Z5 (st:=Zcm) l44 c44 k44
 have B44:Binds K _ ["_law_script"] []:=F44.binds (fun _ _ _ _ _ _ us hl=>match us,hl with | [_],_=>rfl)
 have M44:=W.mg_of X G a44
 refine⟨W.fnOf "law" "law" (Zu Zcm) (Zl Zcm) (Zh Zcm) .none BK BL BM AY AU BN,fun s v=>.of_eq rfl,fun base _ _=>?_⟩
 have CS:∀n,Cs l.prog w K mg base n:=fun n=>by
  induction n with
  | zero=>exact⟨Yx F0 B0 M0,Yx F1 B1 M1,Yx F2 B2 M2,Yx F3 B3 M3,Yx F4 B4 M4,Yx F5 B5 M5,Yx F6 B6 M6,Yx F7 B7 M7,Yx F8 B8 M8,Yx F9 B9 M9,Yx F10 B10 M10,Yx F11 B11 M11,Yx F12 B12 M12,Yx F13 B13 M13,Yx F14 B14 M14,Yx F35 B35 M35,⟨_,_,Ye,B36,k36,M36⟩,Yx F37 B37 M37,Yx F38 B38 M38,Yx F39 B39 M39,Yx F40 B40 M40,Yx F41 B41 M41,Yx F42 B42 M42,Yx F43 B43 M43,Yx F44 B44 M44,Y0 Ab ⟨Ai,im15,k15⟩ Ye B15,Y0 Ab ⟨A3,im16,k16⟩ Ye B16,Y0 Ab ⟨As,im17,k17⟩ Ye B17,Y0 Ab ⟨At,im18,k18⟩ Ye B18,Y0 Ab ⟨Av,im19,k19⟩ Ye B19,Y0 Ab ⟨An,im20,k20⟩ Ye B20,Y0 Ab ⟨Aj,im21,k21⟩ Ye B21,Y0 Ab ⟨Ao,im22,k22⟩ Ye B22,Y0 Ab ⟨Ak,im23,k23⟩ Ye B23,Y0 Ab ⟨Ap,im24,k24⟩ Ye B24,Y0 Ab ⟨Au,im25,k25⟩ Ye B25,Y0 Ab ⟨Am,im26,k26⟩ Ye B26,Y0 Ab ⟨Ax,im27,k27⟩ Ye B27,Y0 Ab ⟨Ay,im28,k28⟩ Ye B28,Y0 Ab ⟨Ar,im29,k29⟩ Ye B29,Y0 Ab ⟨Az,im30,k30⟩ Ye B30,Y0 Ab ⟨A0,im31,k31⟩ Ye B31,Y0 Ab ⟨A1,im32,k32⟩ Ye B32,Y0 Ab ⟨Aw,im33,k33⟩ Ye B33,Y0 Ab ⟨Aq,im34,k34⟩ Ye B34,Zyh (j:=45) rfl Ab ⟨AI,Ai,im15,AH⟩⟩
  | succ n ih=>exact⟨Yy F0 B0 M0 (Zjs T ih F0),Yy F1 B1 M1 (Zjt T ih F1),Yy F2 B2 M2 (Zrn T ih F2),Yy F3 B3 M3 (Zju T ih F3),Yy F4 B4 M4 (Zio T ih F4),Yy F5 B5 M5 (Z00 T ih F5),Yy F6 B6 M6 (Zo6 T ih F6),Yy F7 B7 M7 (Zo4 T ih F7),Yy F8 B8 M8 (Zo5 T ih F8),Yy F9 B9 M9 (Zne T ih F9),Yy F10 B10 M10 (Znd T ih F10),Yy F11 B11 M11 (Zt5 T ih F11),Yy F12 B12 M12 (Zro T ih F12),Yy F13 B13 M13 (Zft T ih F13),Yy F14 B14 M14 (Zxl T ih F14),Yy F35 B35 M35 (Zli T ih F35),⟨_,_,Z0z T ih F36,B36,k36,M36⟩,Yy F37 B37 M37 (Zjv T ih F37),Yy F38 B38 M38 (Zip T ih F38),Yy F39 B39 M39 (Zgr T ih F39),Yy F40 B40 M40 (Zlj T ih F40),Yy F41 B41 M41 (Zds T ih F41),Yy F42 B42 M42 (Zgp T ih F42),Yy F43 B43 M43 (Zgq T ih F43),Yy F44 B44 M44 (Zt6 T ih F44),Y0 Ab ⟨Ai,im15,k15⟩ (Ze7 T ih F15) B15,Y0 Ab ⟨A3,im16,k16⟩ (Zlk T ih F16) B16,Y0 Ab ⟨As,im17,k17⟩ (Zfw T ih F17) B17,Y0 Ab ⟨At,im18,k18⟩ (Zfu T ih F18) B18,Y0 Ab ⟨Av,im19,k19⟩ (Zgs T ih F19) B19,Y0 Ab ⟨An,im20,k20⟩ (Zek T ih F20) B20,Y0 Ab ⟨Aj,im21,k21⟩ (Zdt T ih F21) B21,Y0 Ab ⟨Ao,im22,k22⟩ (Zel T ih F22) B22,Y0 Ab ⟨Ak,im23,k23⟩ (Zdv T ih F23) B23,Y0 Ab ⟨Ap,im24,k24⟩ (Zej T ih F24) B24,Y0 Ab ⟨Au,im25,k25⟩ (Zfv T ih F25) B25,Y0 Ab ⟨Am,im26,k26⟩ (Zdu T ih F26) B26,Y0 Ab ⟨Ax,im27,k27⟩ (Zit T ih F27) B27,Y0 Ab ⟨Ay,im28,k28⟩ (Zir T ih F28) B28,Y0 Ab ⟨Ar,im29,k29⟩ (Ze6 T ih F29) B29,Y0 Ab ⟨Az,im30,k30⟩ (Ziu T ih F30) B30,Y0 Ab ⟨A0,im31,k31⟩ (Ziq T ih F31) B31,Y0 Ab ⟨A1,im32,k32⟩ (Zis T ih F32) B32,Y0 Ab ⟨Aw,im33,k33⟩ (Zhj T ih F33) B33,Y0 Ab ⟨Aq,im34,k34⟩ (Zem T ih F34) B34,Zyj (j:=45) rfl Ab AI AH ih.zb9⟩
 exact Zt6 T (CS (59)) F44
end K37
namespace WL
open PySem PySem.Spec PyProof.Rows L2
def Ex (C C':Hw):Prop:=∀a o,C a=some o→C' a=some o
theorem Ex.refl (C:Hw):Ex C C:=fun _ _ h=>h
theorem Ex.trans {C C1 C2:Hw}(a:Ex C C1)(b:Ex C1 C2):Ex C C2:=fun c o h=>b c o (a c o h)
theorem cne {C:Hw}{a b:Addr}{o:O}(h:C a=some o)(h':C b=none):a≠b:=fun e=>by subst e;rw[h] at h';cases h'
theorem Ex.new {C:Hw}{p:Addr}{o:O}(h:C p=none):Ex C (up C p o):=fun a u e=>by rw[Zx (cne e h)];exact e
theorem Ex.up {C C':Hw}{p:Addr}{o:O}(e:Ex C C')(h:C p=none):Ex C (up C' p o):=fun a u q=>by rw[Zx (cne q h)];exact e a u q
theorem fr1 {C:Hw}{p q:Addr}{o:O}(h:up C p o q=none):q≠p∧C q=none:=by
 have n:q≠p:=fun z=>by subst z;rw[Zn] at h;cases h
 rw[Zx n] at h
 exact⟨n,h⟩
theorem Ex.free {C C':Hw}(e:Ex C C'){p:Addr}(h:C' p=none):C p=none:=by
 cases q:C p with
 | none=>rfl
 | some o=>rw[e p o q] at h;cases h
def ExB (p:Addr)(C C':Hw):Prop:=∀a o,a≠p→C a=some o→C' a=some o
theorem ExB.trans {p:Addr}{C C1 C2:Hw}(a:ExB p C C1)(b:ExB p C1 C2):ExB p C C2:=fun c o n h=>b c o n (a c o n h)
theorem Zkr:∀{xs:List T} {n:Nat},flats xs n=true↔∀x∈xs,flat x n=true
 | [],n=>by unfold flats;simp
 | x::xs,n=>by unfold flats;rw[Bool.and_eq_true,Zkr];simp
theorem Zd1 {xs:List T}{n:Nat}(h:∀x∈xs,flat x n=true):flat (.tup xs) (n+1)=true:=by unfold flat;exact Zkr.mpr h
theorem Xi {x:Str}{n:Nat}:flat (.str x) n=true:=by unfold flat;rfl
theorem Zd2 {x:Int}{n:Nat}:flat (.int x) n=true:=by unfold flat;rfl
theorem Zx3 {x:Bool}{n:Nat}:flat (.bl x) n=true:=by unfold flat;rfl
theorem Zi3 {x:Str}:Ji (.str x)=True:=eq_true Xi
theorem Zi4 {x:Int}:Ji (.int x)=True:=eq_true Zd2
theorem Zkq {x:Bool}:Ji (.bl x)=True:=eq_true Zx3
section
variable {n:Bool}{C:Hw}{Q:WK}
theorem Zav {a b:Str}:wEqG n (.str a) (.str b) C Q=Q (.bl (if n=true then !(a==b) else a==b)) C:=by
 show(Ji _∧Ji _∧Q (.bl (if n=true then !eqT (.str a) (.str b) else eqT (.str a) (.str b))) C)=_
 rw[Zi3,Zi3,true_and,true_and,show eqT (.str a) (.str b)=(a==b) by unfold eqT;rfl]
theorem Zk4 {a b:Int}:wEqG n (.int a) (.int b) C Q=Q (.bl (if n=true then !(a==b) else a==b)) C:=by
 show(Ji _∧Ji _∧Q (.bl (if n=true then !eqT (.int a) (.int b) else eqT (.int a) (.int b))) C)=_
 rw[Zi4,Zi4,true_and,true_and,show eqT (.int a) (.int b)=(a==b) by unfold eqT;rfl]
theorem Zzm {a b:Bool}:wEqG n (.bl a) (.bl b) C Q=Q (.bl (if n=true then !(a==b) else a==b)) C:=by
 show(Ji _∧Ji _∧Q (.bl (if n=true then !eqT (.bl a) (.bl b) else eqT (.bl a) (.bl b))) C)=_
 rw[Zkq,Zkq,true_and,true_and,show eqT (.bl a) (.bl b)=(a==b) by unfold eqT;rfl]
end
section
variable {α:Type}{a b c d e:α}{xs:List α}
theorem erase0:(a::xs).eraseIdx 0=xs:=rfl
theorem Yo:atI (a::xs) 0=some a:=Zee (j:=0) rfl
theorem Ja:atI (a::b::xs) 1=some b:=Zee (j:=1) rfl
theorem Zbt:atI (a::b::c::xs) 2=some c:=Zee (j:=2) rfl
theorem Zv2:atI (a::b::c::d::xs) 3=some d:=Zee (j:=3) rfl
theorem atI_4:atI (a::b::c::d::e::xs) 4=some e:=Zee (j:=4) rfl
theorem Z2e:atI [a] (-1)=some a:=rfl
theorem Z2d:atI [a,b] (-1)=some b:=rfl
theorem Z2c:atI [a,b,c] (-1)=some c:=rfl
theorem Z2b:atI [a,b,c,d] (-1)=some d:=rfl
end
theorem Zbe {g:WG}{b:WS}{ok:Hw→Prop}{D:We}{xs:List T}(Pv:Nat→Sw→Hw→Prop){τ:Sw}{C:Hw}(h0:Pv 0 τ C)(hok:∀i τ C,i≤xs.length→Pv i τ C→ok C)
  (hs:∀i x τ C (N:Sw→Hw→Prop),xs[i]?=some x→Pv i τ C→(∀τ' C',Pv (i+1) τ' C'→N τ' C')→g x τ C (fun τ2 C2=>b {D with nx:=N,ct:=N,bk:=D.nx} τ2 C2) D.xc)
  (hd:∀τ C,Pv xs.length τ C→D.nx τ C):forW g b ok D xs τ C:=by
 have key:∀(k i:Nat) (τ:Sw) (C:Hw),xs.length-i=k→i≤xs.length→Pv i τ C→forW g b ok D (xs.drop i) τ C:=by
  intro k
  induction k with
  | zero=>
   intro i τ C hk hi hp
   have e:i=xs.length:=by omega
   subst e
   rw[List.drop_length]
   exact⟨hok _ τ C (XE _) hp,hd τ C hp⟩
  | succ k ih=>
   intro i τ C hk hi hp
   have hlt:i<xs.length:=by omega
   rw[List.drop_eq_getElem_cons hlt]
   exact⟨hok i τ C hi hp,hs i _ τ C _ (by simp[hlt]) hp fun τ' C' h=>ih (i+1) τ' C' (by omega) hlt h⟩
 exact key xs.length 0 τ C (by simp) (Nat.zero_le _) h0
theorem Zbu (lo:Int)(n:Nat):(rng lo n).length=n:=by unfold rng;simp
theorem Zfq {lo:Int}{n i:Nat}{x:T}(h:(rng lo n)[i]?=some x):i<n∧x=.int (lo+i):=by
 have hi:i<n:=by
  have:=(List.getElem?_eq_some_iff.mp h).1
  rw[Zbu] at this;exact this
 unfold rng at h
 rw[XM,List.getElem?_range hi] at h
 cases h
 exact⟨hi,rfl⟩
theorem Zx2 {g:WG}{b:WS}{ok:Hw→Prop}{D:We}{lo:Int}{n:Nat}(Pv:Nat→Sw→Hw→Prop){τ:Sw}{C:Hw}(h0:Pv 0 τ C)(hok:∀C,ok C)
  (hs:∀i τ C (N:Sw→Hw→Prop),i<n→Pv i τ C→(∀τ' C',Pv (i+1) τ' C'→N τ' C')→g (.int (lo+i)) τ C (fun τ2 C2=>b {D with nx:=N,ct:=N,bk:=D.nx} τ2 C2) D.xc)
  (hd:∀τ C,Pv n τ C→D.nx τ C):forW g b ok D (rng lo n) τ C:=by
 refine Zbe Pv h0 (fun _ _ C _ _=>hok C) (fun i x τ C N hx hp hN=>?_) (fun τ C h=>hd τ C (by rw[Zbu] at h;exact h))
 obtain⟨hi,rfl⟩:=Zfq hx
 exact hs i τ C N hi hp hN
theorem Zoa {g:WG}{c:WT}{e:WE}{ok:Hw→Prop}{τ:Sw}{Q:List T→Hw→Prop}{χ:WX}{xs:List T}(Pv:Nat→List T→Hw→Prop){C:Hw}(h0:Pv 0 [] C)(hok:∀i acc C,i≤xs.length→Pv i acc C→ok C)
  (hs:∀i x acc C (N:List T→Hw→Prop),xs[i]?=some x→Pv i acc C→(∀acc' C',Pv (i+1) acc' C'→N acc' C')→
   g x τ C (fun τ2 C2=>c τ2 C2 (fun b C3=>if b=true then e τ2 C3 (fun v C4=>acc.length<sizeLine∧N (acc++[v]) C4) χ else N acc C3) χ) χ)
  (hd:∀acc C,Pv xs.length acc C→Q acc C):Zgb g c e ok τ Q χ xs [] C:=by
 have key:∀(k i:Nat) (acc:List T) (C:Hw),xs.length-i=k→i≤xs.length→Pv i acc C→Zgb g c e ok τ Q χ (xs.drop i) acc C:=by
  intro k
  induction k with
  | zero=>
   intro i acc C hk hi hp
   have e:i=xs.length:=by omega
   subst e
   rw[List.drop_length]
   exact⟨hok _ acc C (XE _) hp,hd acc C hp⟩
  | succ k ih=>
   intro i acc C hk hi hp
   have hlt:i<xs.length:=by omega
   rw[List.drop_eq_getElem_cons hlt]
   exact⟨hok i acc C hi hp,hs i _ acc C _ (by simp[hlt]) hp fun acc' C' h=>ih (i+1) acc' C' (by omega) hlt h⟩
 exact key xs.length 0 [] C (by simp) (Nat.zero_le _) h0
theorem Za6 {g:WG}{e:WE}{ok:Hw→Prop}{τ:Sw}{Q:List T→Hw→Prop}{χ:WX}{xs:List T}(f:T→T){C:Hw}(hok:ok C)(hl:xs.length≤sizeLine)
  (hs:∀x∈xs,∀R:WK,R (f x) C→g x τ C (fun τ2 C2=>e τ2 C2 R χ) χ) (hd:Q (xs.map f) C):Zgb g tYes e ok τ Q χ xs [] C:=by
 refine Zoa (fun i acc C'=>C'=C∧acc=(xs.take i).map f) ⟨rfl,rfl⟩ (fun i acc C' _ h=>by rw[h.1];exact hok) (fun i x acc C' N hx hp hN=>?_) (fun acc C' h=>?_)
 ·obtain⟨rfl,rfl⟩:=hp
  have hi:i<xs.length:=(List.getElem?_eq_some_iff.mp hx).1
  refine hs x (List.mem_of_getElem? hx) _ ⟨?_,hN _ _ ⟨rfl,?_⟩⟩
  ·rw[XI,YM];omega
  ·rw[YD,hx,XL];rfl
 ·obtain⟨rfl,rfl⟩:=h
  rw[List.take_length];exact hd
theorem Zv1 {ds:List Int}{i:Int}(h0:0≤i)(h1:i<(ds.length:Int)):∃d,atI (ds.map T.int) i=some (.int d)∧d∈ds:=by
 obtain⟨v,h,m⟩:=Z2f (xs:=ds.map T.int) h0 (by simpa using h1)
 obtain⟨d,hd,rfl⟩:=XR.mp m
 exact⟨d,h,hd⟩
theorem small63 {n:Nat}(h:n≤100000):n≤sizeLine:=XN h (by decide)
theorem small63' {n:Nat}(h:n≤100000):n<sizeLine:=Nat.lt_of_le_of_lt h (by decide)
end WL
namespace K37
open PySem PySem.Spec PyProof.Rows L2 WL
local macro_rules | `(tactic| walk_at "ws") => `(tactic| try simp (config := { decide := true }) only [Zd, eC, Zf, eUn, Zg, Zb, Zy, eLst, Z7, eBi, eMt, eIf, eAnd, eOr, eNot, tTru, tBl, tAn, tOr', tNo, Z1v, wAdd, wSub, wMul, wDiv, wMod, wPow, wNeg, wLt, wLe, wGt, wGe, wIsN, Zmr, Zq, oNo, Zg7, wSl, eSl, bLen, bMax, bMin, Zg3, Zqy, eIsi, tyN, gNm, Zdg, Xa, gTp, gSb, Yb, Zr, Y7, Ym, Zm8, sIf, Z0, sBrk, sCont, Zou, sFor, iSeq, iR1, iR2, iEn, capW, tYes, Zci, tyL', tyS, Zaj, mPop, Z08, wEq, wNe, wIn, Zzl, Zav, Zk4, erase0, Yo, Ja, Zbt, Zv2, atI_4, Z2e, Z2d, Z2c, Z2b, Zzm,
  List.map_cons, List.map_nil, List.length_cons, List.length_nil, List.replicate, List.cons_append, List.nil_append, List.getElem?_cons_zero, List.getElem?_cons_succ, List.set_cons_zero, List.set_cons_succ, Option.some.injEq, T.int.injEq, T.str.injEq, T.bl.injEq, T.ref.injEq, T.tup.injEq, T.cl.injEq, exists_eq_left', exists_eq_left, exists_eq', exists_and_left, and_assoc, List.cons.injEq, and_true, true_and, reduceCtorEq, false_and, exists_false, List.append_nil, if_true, if_false, Bool.not_not, decide_eq_true_eq, Bool.not_eq_true', decide_eq_false_iff_not, Bool.false_eq_true, List.nil_eq, Option.bind_none, Option.bind_some, Option.join_some, Nat.reduceAdd, Nat.reduceSub, Nat.sub_self, Nat.zero_add, Nat.sub_zero, beq_iff_eq, Bool.not_false, Bool.not_true])
section
variable {A B:WS}{D:We}{τ:Sw}{C:Hw}{i k:Nat}{v:T}{r:List T}{s s' w:Str}{x y:Int}
theorem k_a0 (h:τ[0]?=some (some (.tup (v::r))))(q:B D (τ.set k (some v)) C):Zr (Z0 (Zf Zq (Zd 0) (eC (.int 0))) (gNm k)) B D τ C:=⟨_,h,_,Yo,q⟩
theorem Zdf (h:τ[i]?=some (some (.str w)))(hw:w=s)(q:A {D with nx:=B D} τ C):Zr (sIf (tBl (Zf wEq (Zd i) (eC (.str s)))) A Yb) B D τ C:=by
 refine⟨_,h,?_⟩
 simp only[eC]
 rw[wEq,Zav,hw]
 refine⟨true,by simp,?_⟩
 rw[XY rfl];exact q
theorem Xy (h:τ[i]?=some (some (.str w)))(hw:w≠s)(q:B D τ C):Zr (sIf (tBl (Zf wEq (Zd i) (eC (.str s)))) A Yb) B D τ C:=by
 refine⟨_,h,?_⟩
 simp only[eC]
 rw[wEq,Zav]
 refine⟨false,by simp[hw],?_⟩
 rw[XX (by decide)];exact q
theorem Zpf (h:τ[i]?=some (some (.str w)))(hw:w=s∨w=s')(q:A {D with nx:=B D} τ C):Zr (sIf (tOr' (tBl (Zf wEq (Zd i) (eC (.str s)))) (tBl (Zf wEq (Zd i) (eC (.str s'))))) A Yb) B D τ C:=by
 refine⟨_,h,?_⟩
 simp only[eC]
 rw[wEq,Zav]
 by_cases c:w=s
 ·refine⟨true,by simp[c],?_⟩
  rw[XY rfl];exact q
 ·refine⟨false,by simp[c],?_⟩
  rw[XX (by decide)]
  refine⟨_,h,?_⟩
  simp only[eC]
  rw[Zav]
  have c':w=s':=hw.resolve_left c
  refine⟨true,by simp[c'],?_⟩
  rw[XY rfl];exact q
theorem Zey (h:τ[i]?=some (some (.str w)))(hw:w≠s)(hw':w≠s')(q:B D τ C):Zr (sIf (tOr' (tBl (Zf wEq (Zd i) (eC (.str s)))) (tBl (Zf wEq (Zd i) (eC (.str s'))))) A Yb) B D τ C:=by
 refine⟨_,h,?_⟩
 simp only[eC]
 rw[wEq,Zav]
 refine⟨false,by simp[hw],?_⟩
 rw[XX (by decide)]
 refine⟨_,h,?_⟩
 simp only[eC]
 rw[Zav]
 refine⟨false,by simp[hw'],?_⟩
 rw[XX (by decide)];exact q
theorem Zup (h:τ[0]?=some (some (.tup (.str w::r))))(hw:w=s)(q:A {D with nx:=B D} τ C):Zr (sIf (tBl (Zf wEq (Zf Zq (Zd 0) (eC (.int 0))) (eC (.str s)))) A Yb) B D τ C:=by
 refine⟨_,h,_,Yo,?_⟩
 simp only[eC]
 rw[wEq,Zav,hw]
 refine⟨true,by simp,?_⟩
 rw[XY rfl];exact q
theorem Zuq (h:τ[0]?=some (some (.tup (.str w::r))))(hw:w≠s)(q:B D τ C):Zr (sIf (tBl (Zf wEq (Zf Zq (Zd 0) (eC (.int 0))) (eC (.str s)))) A Yb) B D τ C:=by
 refine⟨_,h,_,Yo,?_⟩
 simp only[eC]
 rw[wEq,Zav]
 refine⟨false,by simp[hw],?_⟩
 rw[XX (by decide)];exact q
end
def sorts:List Str:=["does","call","first","fun","let","shape","choose","rows"]
inductive Sc:T→Option Nat→List (List T×T)→Prop
 | does {o A B:T}:Sc (.tup [.str "does",o,A,B]) none [([],A),([],B)]
 | call {A B:T}:Sc (.tup [.str "call",A,B]) none [([],A),([],B)]
 | first {A B:T}:Sc (.tup [.str "first",A,B]) none [([],A),([],B)]
 | fun_ {x B:T}:Sc (.tup [.str "fun",x,B]) none [([x],B)]
 | let_ {B:T} {xs:List (T×T)} (h:xs.length≤1000):Sc (.tup [.str "let",.tup (xs.map fun x=>.tup [x.1,x.2]),B]) none (xs.map (fun x=>(xs.map (·.1),x.2))++[(xs.map (·.1),B)])
 | shape {c:T} {ps:List T} (h:ps.length≤1000):Sc (.tup [.str "shape",c,.tup ps]) none (ps.map fun x=>([],x))
 | choose {E:T} {ys:List (T×List T×T)} (h:ys.length≤1000):Sc (.tup [.str "choose",E,.tup (ys.map fun y=>.tup [y.1,.tup y.2.1,y.2.2])]) none (([],E)::ys.map (·.2))
 | other {w:Str} {rest:List T} (h:w∉sorts):Sc (.tup (.str w::rest)) none []
def scT (s:List T×T):T:=.tup [.tup s.1,s.2]
section
variable {C:Hw}{Q:WK}{χ:WX}{n:Nat}
theorem Zlg {B:T}{xs:List (T×T)}(h:xs.length≤1000)(q:∀p C',Ex C C'→C p=none→C' p=some (.lst ((xs.map (fun x=>(xs.map (·.1),x.2))++[(xs.map (·.1),B)]).map scT))→Q (.ref p) C'):
  wpc pr (n+1) Zlx [.tup (xs.map fun x=>.tup [x.1,x.2]),B] C Q χ:=by
 refine Zk7 rfl ?_
 unfold Zas
 walk_at "ws"
 have hl:(xs.map fun x:T×T=>T.tup [x.1,x.2]).length≤sizeLine:=by rw[XI];exact small63 (by omega)
 refine Za6 (fun t=>match t with | .tup [a,_]=>a | _=>.non) trivial hl (fun x hx R hR=>?_) fun p hp=>?_
 ·obtain⟨y,_,rfl⟩:=XR.mp hx
  walk_at "ws"
  exact hR
 refine⟨_,Zn,?_⟩
 have e:(xs.map fun x:T×T=>T.tup [x.1,x.2]).map (fun t=>match t with | .tup [a,_]=>a | _=>T.non)=xs.map (·.1):=by rw[YE];rfl
 rw[e]
 refine Za6 (fun t=>match t with | .tup [_,b]=>.tup [.tup (xs.map (·.1)),b] | _=>.non) trivial hl (fun x hx R hR=>?_) fun p2 hp2=>?_
 ·obtain⟨y,_,rfl⟩:=XR.mp hx
  walk_at "ws"
  exact hR
 intro p3 hp3
 obtain⟨n2,e2⟩:=fr1 hp2
 obtain⟨n32,h32⟩:=fr1 hp3
 obtain⟨n31,e3⟩:=fr1 h32
 refine⟨_,by rw[Zx n32.symm];exact Zn,_,Zn,?_,fun p4 hp4=>?_⟩
 ·rw[XI,XI];exact small63 (by show xs.length+1≤100000;omega)
 ·obtain⟨n43,h43⟩:=fr1 hp4
  obtain⟨n42,h42⟩:=fr1 h43
  obtain⟨n41,e4⟩:=fr1 h42
  refine q p4 _ ((((Ex.new hp).up e2).up e3).up e4) e4 ?_
  rw[Zn,XL,YE,YE]
  rfl
theorem Zs4 {t:T}{e:Option Nat}{ss:List (List T×T)}(h:Sc t e ss)(q:∀p C',Ex C C'→C p=none→C' p=some (.lst (ss.map scT))→Q (.ref p) C'):wpc pr (n+2) Zux [t] C Q χ:=by
 refine Zsk rfl ?_
 unfold Zdh
 cases h with
 | does=>refine k_a0 rfl (Zdf rfl rfl ?_);walk_at "ws";exact fun p hp=>q p _ (Ex.new hp) hp Zn
 | call=>refine k_a0 rfl (Xy rfl (by decide+kernel) (Zpf rfl (.inl rfl) ?_));walk_at "ws";exact fun p hp=>q p _ (Ex.new hp) hp Zn
 | first=>refine k_a0 rfl (Xy rfl (by decide+kernel) (Zpf rfl (.inr rfl) ?_));walk_at "ws";exact fun p hp=>q p _ (Ex.new hp) hp Zn
 | fun_=>refine k_a0 rfl (Xy rfl (by decide+kernel) (Zey rfl (by decide+kernel) (by decide+kernel) (Zdf rfl rfl ?_)));walk_at "ws";exact fun p hp=>q p _ (Ex.new hp) hp Zn
 | let_ h=>refine k_a0 rfl (Xy rfl (by decide+kernel) (Zey rfl (by decide+kernel) (by decide+kernel) (Xy rfl (by decide+kernel) (Zdf rfl rfl ?_))));walk_at "ws";exact Zlg h q
 | shape h=>
  refine k_a0 rfl (Xy rfl (by decide+kernel) (Zey rfl (by decide+kernel) (by decide+kernel) (Xy rfl (by decide+kernel) (Xy rfl (by decide+kernel) (Zdf rfl rfl ?_)))))
  walk_at "ws"
  refine Za6 (fun t=>.tup [.tup [],t]) trivial (small63 (by omega)) (fun x hx R hR=>?_) fun p hp=>q p _ (Ex.new hp) hp ?_
  ·walk_at "ws"
   exact hR
  ·rw[Zn,YE];rfl
 | @choose E ys h=>
  refine k_a0 rfl (Xy rfl (by decide+kernel) (Zey rfl (by decide+kernel) (by decide+kernel) (Xy rfl (by decide+kernel) (Xy rfl (by decide+kernel) (Xy rfl (by decide+kernel) (Zdf rfl rfl ?_))))))
  walk_at "ws"
  intro p hp
  refine Za6 (fun t=>match t with | .tup [_,a,b]=>.tup [a,b] | _=>.non) trivial (by rw[XI];exact small63 (by omega)) (fun x hx R hR=>?_) fun p2 hp2=>?_
  ·obtain⟨y,_,rfl⟩:=XR.mp hx
   walk_at "ws"
   exact hR
  obtain⟨n2,e2⟩:=fr1 hp2
  refine⟨_,by rw[Zx n2.symm];exact Zn,_,Zn,?_,fun p3 hp3=>?_⟩
  ·rw[XI,XI];exact small63 (by show 1+_≤_;omega)
  ·obtain⟨n32,h32⟩:=fr1 hp3
   obtain⟨n31,e3⟩:=fr1 h32
   refine q p3 _ (((Ex.new hp).up e2).up e3) e3 ?_
   rw[Zn,YI,YE,YE];rfl
 | @other w rest h=>
  have hw:∀s∈sorts,w≠s:=fun s hs z=>h (z▸hs)
  refine k_a0 rfl (Xy rfl (hw "does" (by decide)) (Zey rfl (hw "call" (by decide)) (hw "first" (by decide)) (Xy rfl (hw "fun" (by decide)) (Xy rfl (hw "let" (by decide)) (Xy rfl (hw "shape" (by decide)) (Xy rfl (hw "choose" (by decide)) (Xy rfl (hw "rows" (by decide)) ?_)))))))
  walk_at "ws"
  exact fun p hp=>q p _ (Ex.new hp) hp Zn
end
section
variable {C:Hw}{Q:WK}{χ:WX}{τ:Sw}
theorem J4 {p q:Prop}(h:p):if true=true then p else q:=h
theorem Jd {p q:Prop}(h:q):if false=true then p else q:=h
theorem Zqf {p q:Prop}{b:Bool}(hb:b=true)(h:p):if b=true then p else q:=by rw[XY hb];exact h
theorem Zqg {p q:Prop}{b:Bool}(hb:b=false)(h:q):if b=true then p else q:=by subst hb;exact h
theorem eqS {a b:Str}{v:Bool}(h:(a==b)=v)(q:Q (.bl v) C):wEqG false (.str a) (.str b) C Q:=by rw[Zav,XX (by decide),h];exact q
theorem eqI {a b:Int}{v:Bool}(h:(a==b)=v)(q:Q (.bl v) C):wEqG false (.int a) (.int b) C Q:=by rw[Zk4,XX (by decide),h];exact q
theorem neS {a b:Str}{v:Bool}(h:(a==b)=v)(q:Q (.bl (!v)) C):wEqG true (.str a) (.str b) C Q:=by rw[Zav,XY rfl,h];exact q
theorem neI {a b:Int}{v:Bool}(h:(a==b)=v)(q:Q (.bl (!v)) C):wEqG true (.int a) (.int b) C Q:=by rw[Zk4,XY rfl,h];exact q
theorem eqSc {a b:Str}{v:Bool}(h:(a==b)=v)(q:Q (.bl v) C):eC (.str b) τ C (fun y C2=>wEq (.str a) y C2 Q) χ:=eqS h q
theorem eqIc {a b:Int}{v:Bool}(h:(a==b)=v)(q:Q (.bl v) C):eC (.int b) τ C (fun y C2=>wEq (.int a) y C2 Q) χ:=eqI h q
theorem neSc {a b:Str}{v:Bool}(h:(a==b)=v)(q:Q (.bl (!v)) C):eC (.str b) τ C (fun y C2=>wNe (.str a) y C2 Q) χ:=neS h q
theorem neIc {a b:Int}{v:Bool}(h:(a==b)=v)(q:Q (.bl (!v)) C):eC (.int b) τ C (fun y C2=>wNe (.int a) y C2 Q) χ:=neI h q
end
open PySem PySem.Spec PyProof.Rows L2 WL
abbrev Ms:=List (Str×T)
def dm (M:Ms):List (Key×T):=M.map fun kv=>((Sum.inr kv.1:Key),kv.2)
def less (M:Ms)(ns:List Str):Ms:=M.filter fun kv=>decide (kv.1∉ns)
theorem Zax {M:Ms}:less M []=M:=by unfold less;simp
theorem Zrx {M:Ms}{a b:List Str}:less (less M a) b=less M (a++b):=by
 unfold less
 rw[List.filter_filter]
 refine List.filter_congr fun kv _=>?_
 simp only[List.mem_append,not_or]
 by_cases h1:kv.1∈a<;>by_cases h2:kv.1∈b<;>simp[h1,h2]
theorem Zl7 {M:Ms}{x:Str}:Xw (dm M) (.inr x)=(M.find? fun kv=>decide (kv.1=x)).map (·.2):=by
 unfold Xw dm
 rw[List.find?_map,Option.map_map]
 congr 1
 congr 1
 funext kv
 simp
theorem Zqt {M:Ms}{x:Str}:Xw (dm M) (.inr x)=none↔x∉M.map (·.1):=by
 rw[Zl7,Option.map_eq_none_iff,List.find?_eq_none]
 constructor
 ·intro h hx
  obtain⟨kv,h1,rfl⟩:=XR.mp hx
  exact h kv h1 (by simp)
 ·intro h kv h1 h2
  exact h (List.mem_map.mpr ⟨kv,h1,by simpa using h2⟩)
theorem Zzc:∀{M:Ms} {i:Nat} {kv:Str×T},(M.map (·.1)).Nodup→M[i]?=some kv→Xw (dm M) (.inr kv.1)=some kv.2
 | [],_,_,_,h=>by simp at h
 | z::M,0,kv,_,h=>by simp at h;subst h;rw[Zl7];simp
 | z::M,i+1,kv,hn,h=>by
  rw[YI,List.nodup_cons] at hn
  have h':M[i]?=some kv:=by simpa using h
  have ne:¬z.1=kv.1:=fun e=>hn.1 (e▸XR.mpr ⟨kv,List.mem_of_getElem? h',rfl⟩)
  have ih:=Zzc hn.2 h'
  rw[Zl7] at ih ⊢
  rw[List.find?_cons_of_neg (by simpa using ne)]
  exact ih
theorem Zya {M:Ms}{x:Str}:Zn4 (dm M) (.inr x)=dm (less M [x]):=by
 unfold Zn4 dm less
 rw[List.filter_map]
 congr 1
 refine List.filter_congr fun kv _=>?_
 simp
theorem Zkn {M:Ms}{ns:List Str}(h:∀x∈ns,x∉M.map (·.1)):less M ns=M:=by
 unfold less
 rw[List.filter_eq_self]
 intro kv hk
 simp only[decide_eq_true_eq]
 exact fun hn=>h _ hn (XR.mpr ⟨kv,hk,rfl⟩)
theorem Zvm {L:Ms}{x:Str}{v:T}(h:x∉L.map (·.1)):putT (dm L) (.inr x) v=dm (L++[(x,v)]):=by
 unfold putT
 rw[XX]
 ·unfold dm;rw[XL];rfl
 ·rw[List.any_eq_true]
  rintro⟨kv,hk,e⟩
  unfold dm at hk
  obtain⟨z,hz,rfl⟩:=XR.mp hk
  exact h (List.mem_map.mpr ⟨z,hz,by simpa using e⟩)
theorem Zvn {M:Ms}:(dm M).length=M.length:=by unfold dm;simp
theorem Z1y {M:Ms}:(dm M).length=0↔M=[]:=by rw[Zvn,List.length_eq_zero_iff]
theorem _root_.WL.RdC.ex {C C':Hw}{a:Addr}{k:List (Key×T)}(h:RdC C a k)(e:Ex C C'):RdC C' a k:=h.imp (e _ _) (e _ _)
section
variable {C:Hw}{Q:WK}{χ:WX}{n:Nat}
theorem Zra {a:Addr}{M:Ms}{ns:List Str}(h5:ns.length≤1000)(ha:RdC C a (dm M))(q:∀p C',Ex C C'→RdC C' p (dm (less M ns))→Q (.ref p) C'):
  wpc pr (n+1) Zr2 [.ref a,.tup (ns.map T.str)] C Q χ:=by
 refine Zq5 rfl ?_
 unfold Zcq
 walk_at "ws"
 refine Za6 (fun t=>match t with | .str x=>.bl (Xw (dm M) (.inr x)).isSome | _=>.non) trivial (by rw[XI];exact small63 (by omega)) (fun x hx R hR=>?_) fun p hp=>?_
 ·obtain⟨y,_,rfl⟩:=XR.mp hx
  walk_at "ws"
  exact⟨a,dm M,.inr y,rfl,rfl,ha,hR⟩
 have e:(ns.map T.str).map (fun t=>match t with | .str x=>T.bl (Xw (dm M) (.inr x)).isSome | _=>T.non)=(ns.map fun x=>(Xw (dm M) (.inr x)).isSome).map T.bl:=by rw[YE,YE];rfl
 rw[e]
 refine⟨p,_,rfl,Zn,_,rfl,?_⟩
 have ha1:=ha.ex (Ex.new (o:=.lst ((ns.map fun x=>(Xw (dm M) (.inr x)).isSome).map T.bl)) hp)
 by_cases c:((ns.map fun x=>(Xw (dm M) (.inr x)).isSome).any id)=true
 ·rw[if_neg (by rw[c];simp)]
  refine⟨a,dm M,rfl,ha1,fun r hr=>?_⟩
  obtain⟨nr,hr0⟩:=fr1 hr
  walk_at "ws"
  refine Zbe (fun i τ C'=>∃x3,τ=[some (.ref a),some (.tup (ns.map T.str)),some (.ref r),x3]∧Ex C C'∧C' r=some (.dic (dm (less M (ns.take i))))) ⟨none,rfl,(Ex.new hp).up hr0,by rw[List.take_zero,Zax];exact Zn⟩ (fun _ _ _ _ _=>trivial) ?_ ?_
  ·rintro i x τ C' N hx ⟨x3,rfl,hE,hr'⟩ hN
   rw[XM] at hx
   cases hz:ns[i]? with
   | none=>rw[hz] at hx;cases hx
   | some y=>
    rw[hz] at hx
    cases hx
    walk_at "ws"
    simp only[Zpr]
    walk_at "ws"
    have et:less M (ns.take (i+1))=less (less M (ns.take i)) [y]:=by rw[Zrx,YD,hz];rfl
    refine⟨⟨_,hr'⟩,_,.inr y,rfl,hr',fun v hv=>hN _ _ ⟨_,rfl,hE.up hr0,?_⟩,fun hv=>hN _ _ ⟨_,rfl,hE,?_⟩⟩
    ·rw[Zn,Zya,et]
    ·rw[et,Zkn (M:=less M (ns.take i)) (ns:=[y])]
     ·exact hr'
     ·intro x hx
      rw[XQ] at hx
      subst hx
      exact Zqt.mp hv
  ·rintro τ C' ⟨x3,rfl,hE,hr'⟩
   rw[XI,List.take_length] at hr'
   walk_at "ws"
   exact q r C' hE (.inl hr')
 ·rw[XY (by rw[Bool.eq_false_iff.mpr c])]
  refine q a _ (Ex.new hp) ?_
  rw[Zkn]
  ·exact ha1
  ·intro x hx
   refine Zqt.mp ?_
   cases hg:Xw (dm M) (.inr x) with
   | none=>rfl
   | some v=>
    refine absurd ?_ c
    rw[List.any_eq_true]
    exact⟨true,XR.mpr ⟨x,hx,by rw[hg];rfl⟩,rfl⟩
theorem Zlc {b:Addr}{xs:List (List T)}{ys:List T}(hb:C b=some (.lst ys))(hl:xs.length=ys.length)(h1:xs.length≤1000)(hx:∀x∈xs,x≠[]∧x.length≤1000)(q:∀C',Ex C C'→Q (.tup ((xs.zip ys).map fun z=>.tup (z.1.dropLast++[z.2]))) C'):
  wpc pr (n+1) Zf3 [.tup (xs.map T.tup),.ref b] C Q χ:=by
 refine Zk5 rfl ?_
 unfold Zar
 walk_at "ws"
 simp only[iZp]
 walk_at "ws"
 refine .inr ⟨ys,hb,by rw[XI];exact hl,?_⟩
 have ez:zipT (xs.map T.tup) ys=(xs.zip ys).map fun z=>.tup [.tup z.1,z.2]:=by
  unfold zipT
  rw[List.zipWith_map_left,List.zip,List.map_zipWith]
 rw[ez]
 refine Za6 (fun t=>match t with | .tup [.tup x,y]=>.tup (x.dropLast++[y]) | _=>.non) hb (by rw[XI,List.length_zip];exact small63 (by omega)) (fun x hx' R hR=>?_) fun p hp=>?_
 ·obtain⟨z,hz,rfl⟩:=XR.mp hx'
  obtain⟨hz1,hz2⟩:=hx z.1 (List.of_mem_zip hz).1
  walk_at "ws"
  have hpos:0<z.1.length:=List.length_pos_iff.mpr hz1
  have e:HT.sIx z.1.length z.1.length (some (-1))=z.1.length-1:=by unfold HT.sIx;simp;omega
  have e2:cut z.1 none (some (-1))=z.1.dropLast:=by
   unfold cut
   rw[e,List.dropLast_eq_take]
   simp[HT.sIx]
  refine⟨fun h=>?_,?_,?_⟩
  ·have:=h.2;rw[e] at this;omega
  ·rw[e2];rw[List.length_dropLast];exact small63 (by show _+1≤_;omega)
  ·rw[e2];exact hR
 ·refine⟨_,Zn,?_⟩
  rw[YE]
  exact q _ (Ex.new hp)
end
open PySem PySem.Spec PyProof.Rows L2 WL
def PT (f:Nat)(t:T)(M:Ms)(t':T):Prop:=∀{n:Nat} {C:Hw} {Q:WK} {χ:WX} {a:Addr},RdC C a (dm M)→(∀o C',Ex C C'→(o=t'∨(o=.non∧t'=t))→Q o C')→wpc pr (n+f+4) Zr4 [t,.ref a] C Q χ
def WPt (t:T)(ts:List T)(t':T):Prop:=∀{n:Nat} {C:Hw} {Q:WK} {χ:WX} {b:Addr},C b=some (.lst ts)→(∀C',Ex C C'→Q t' C')→wpc pr (n+2) Zlw [t,.ref b] C Q χ
theorem PT.mono {f g:Nat}{t t':T}{M:Ms}(h:PT f t M t')(hl:f≤g):PT g t M t':=by
 intro n C Q χ a ha q
 rw[show n+g+4=(n+(g-f))+f+4 by omega]
 exact h ha q
theorem PT.put {f:Nat}{t t':T}{M:Ms}(h:PT f t M t')(ht:∃l,t'=.tup l){n:Nat}{C:Hw}{Q:WK}{χ:WX}{a:Addr}(ha:RdC C a (dm M))(q:∀C',Ex C C'→Q t' C'):wpc pr (n+f+5) i_put [t,.ref a] C Q χ:=by
 refine u_put rfl ?_
 unfold Zmq
 walk_at "ws"
 refine h (n:=n) ha fun o C' hE ho=>?_
 obtain⟨l,rfl⟩:=ht
 rcases ho with rfl | ⟨rfl,rfl⟩
 ·walk_at "ws"
  exact q _ hE
 ·walk_at "ws"
  exact q _ hE
abbrev Sp:=List Str×T
def scS (z:Sp):List T×T:=(z.1.map T.str,z.2)
theorem Zqn {l:List Str}:Ji (.tup (l.map T.str)):=Zd1 fun x hx=>by obtain⟨y,_,rfl⟩:=XR.mp hx;exact Xi
theorem Zdr {f:Nat}{w:Str}{rest:List T}{e:Option Nat}{ss:List Sp}{us:List T}{t':T}{M:Ms}(h:Sc (.tup (.str w::rest)) e (ss.map scS))(hw:w≠"name")(h5:∀z∈ss,z.1.length≤1000)(hl:ss.length≤1000)(hu:us.length=ss.length)
  (hP:∀(i:Nat) (z:Sp) (u:T),ss[i]?=some z→us[i]?=some u→(less M z.1≠[]→PT f z.2 (less M z.1) u)∧(less M z.1=[]→u=z.2)∧∃l,u=.tup l) (hwp:WPt (.tup (.str w::rest)) us t')
  (hst:us=ss.map (·.2)→t'=.tup (.str w::rest)):PT (f+1) (.tup (.str w::rest)) M t':=by
 intro n C Q χ a ha q
 refine Zj7 rfl ?_
 unfold Zbx
 walk_at "ws"
 rw[XX hw]
 unfold Zc5
 walk_at "ws"
 intro p hp
 refine Zs4 (n:=n+f+2) h fun b C1 hE hb0 hb1=>?_
 have hE0:Ex C C1:=(Ex.new hp).trans hE
 have hp1:=hE _ _ (Zn (C:=C) (a:=p))
 have bp:b≠p:=(fr1 hb0).1
 refine⟨_,hb1,?_⟩
 refine Zbe (fun i τ C'=>∃x4 x5 x6 x7,∃st:Bool,τ=[some (.tup (.str w::rest)),some (.ref a),some (.bl st),some (.ref p),x4,x5,x6,x7]∧Ex C C'∧C' b=some (.lst ((ss.map scS).map scT))∧C' p=some (.lst (us.take i))∧(st=true→us.take i=(ss.take i).map (·.2)))
  ⟨none,none,none,none,true,rfl,hE0,hb1,hp1,fun _=>rfl⟩ (fun i τ C' _ ⟨_,_,_,_,_,_,_,h,_⟩=>h) ?_ ?_
 ·rintro i x τ C' N hx ⟨x4,x5,x6,x7,st,rfl,hE',hb',hp',hs'⟩ hN
  rw[YE,XM] at hx
  cases hz:ss[i]? with
  | none=>rw[hz] at hx;cases hx
  | some z=>
   rw[hz] at hx
   cases hx
   have mz:=List.mem_of_getElem? hz
   have hi:i<ss.length:=(List.getElem?_eq_some_iff.mp hz).1
   have hui:us[i]?=some (us[i]'(by omega)):=by simp[show i<us.length by omega]
   generalize us[i]'(by omega)=u at hui
   have hPz:=hP i z u hz hui
   show gTp _ (.tup [.tup (z.1.map T.str),z.2]) _ _ _ _
   have fin:∀C4,Ex C' C4→∀x4 x5 x6 x7 (s2:Bool),(s2=true→st=true∧u=z.2)→∃xs,C4 p=some (.lst xs)∧xs.length<sizeLine∧N [some (.tup (.str w::rest)),some (.ref a),some (.bl s2),some (.ref p),x4,x5,x6,x7] (up C4 p (.lst (xs++[u]))):=fun C4 hE5 x4 x5 x6 x7 s2 h2=>by
    refine⟨_,hE5 _ _ hp',?_,hN _ _ ⟨x4,x5,x6,x7,s2,rfl,?_,?_,?_,fun e=>?_⟩⟩
    ·rw[YM];exact small63' (by omega)
    ·exact(hE'.trans hE5).up hp
    ·rw[Zx bp];exact hE5 _ _ hb'
    ·rw[Zn,YD,hui];rfl
    ·rw[YD,YD,hz,hui,XL,hs' (h2 e).1,(h2 e).2];rfl
   have hr:∀(l:Addr) (C2:Hw),Ex C' C2→RdC C2 l (dm (less M z.1))→∀(D:We),D.nx=N→ 
     Zr (Z0 (eIf (tBl (Zf wReq (Zd 6) Zg0)) (eC (.non)) (Z7 (wpc pr (n+(f+1)+3)) 6 (Zb (Zd 5) (Zb (Zd 6) Zg)))) (gNm 7))
     (Zr (sIf (tBl (Zf Zmr (Zd 7) (eC (.non)))) (Z0 (eC (.bl false)) (gNm 2)) Yb)
     (Y7 (eMt tyL' Zaj (Zd 3) (Zb (eIf (tBl (Zf wIsN (Zd 7) (eC (.non)))) (Zd 5) (Zd 7)) Zg)))) D
     [some (.tup (.str w::rest)),some (.ref a),some (.bl st),some (.ref p),some (.tup (z.1.map T.str)),some z.2,some (.ref l),x7] C2:=by
    intro l C2 hE2 hl2 D hD
    walk_at "ws"
    intro p3 hp3
    have hE3:Ex C2 (up C2 p3 (.dic [])):=Ex.new hp3
    refine⟨l,p3,_,[],rfl,rfl,hl2.ex hE3,.inl Zn,?_⟩
    rw[hD]
    by_cases c:less M z.1=[]
    ·refine .inr ⟨by rw[c];rfl,by rw[c];simp[dm],_,rfl,?_⟩
     rw[XY (by decide)]
     have hg:=hPz.2.1 c
     obtain⟨xs,h1,h2,h3⟩:=fin _ (hE2.trans hE3) (some (.tup (z.1.map T.str))) (some z.2) (some (.ref l)) (some .non) st fun e=>⟨e,hg⟩
     rw[hg] at h3
     exact⟨⟨_,h1⟩,_,h1,h2,h3⟩
    ·refine .inl ⟨fun hh=>c (Z1y.mp hh),_,rfl,?_⟩
     rw[XX (by decide)]
     refine hPz.1 c (n:=n) (hl2.ex hE3) fun o C4 hE4 ho=>?_
     obtain⟨lt,hlt⟩:=hPz.2.2
     rcases ho with ho | ⟨rfl,hg⟩
     ·have ho':=ho.symm
      subst ho'
      have:=fin C4 (hE2.trans (hE3.trans hE4)) (some (.tup (z.1.map T.str))) (some z.2) (some (.ref l)) (some u) false (by simp)
      rw[hlt] at this ⊢
      obtain⟨xs,h1,h2,h3⟩:=this
      walk_at "ws"
      exact⟨⟨_,h1⟩,_,h1,h2,h3⟩
     ·obtain⟨xs,h1,h2,h3⟩:=fin C4 (hE2.trans (hE3.trans hE4)) (some (.tup (z.1.map T.str))) (some z.2) (some (.ref l)) (some .non) st fun e=>⟨e,hg⟩
      rw[hg] at h3
      walk_at "ws"
      exact⟨⟨_,h1⟩,_,h1,h2,h3⟩
   have key:∀(K:WK) (χ:WX),(∀l C2,Ex C' C2→RdC C2 l (dm (less M z.1))→K (.ref l) C2)→eIf (tBl (Zf wEq (Zd 4) (Zy Zg))) (Zd 1) (Z7 (wpc pr (n+(f+1)+3)) 7 (Zb (Zd 1) (Zb (Zd 4) Zg)))
     [some (.tup (.str w::rest)),some (.ref a),some (.bl st),some (.ref p),some (.tup (z.1.map T.str)),some z.2,x6,x7] C' K χ:=by
    intro K χ hK
    walk_at "ws"
    refine⟨Zqn,Zqn (l:=[]),_,rfl,?_⟩
    cases hz1:z.1 with
    | nil=>
     rw[hz1] at hK
     rw[Zax] at hK
     exact hK a C' (Ex.refl _) (ha.ex hE')
    | cons y ys=>
     rw[←hz1]
     rw[if_neg (by rw[hz1];simp[WL.eqT,eqTs])]
     exact Zra (n:=n+f+3) (h5 z mz) (ha.ex hE') hK
   refine⟨_,rfl,_,_,rfl,_,_,rfl,rfl,?_⟩
   refine key _ _ ?_
   intro l C2 hE2 hl2
   exact hr l C2 hE2 hl2 _ rfl
 ·rintro τ C' ⟨x4,x5,x6,x7,st,rfl,hE',hb',hp',hs'⟩
  rw[XI,XI,←hu,List.take_length] at hp'
  rw[XI,XI,List.take_length,←hu,List.take_length] at hs'
  unfold Zc6
  walk_at "ws"
  cases st with
  | true=>
   refine⟨true,rfl,?_⟩
   rw[XY rfl]
   exact q _ _ hE' (.inr ⟨rfl,hst (hs' rfl)⟩)
  | false=>
   refine⟨false,rfl,?_⟩
   rw[XX (by decide)]
   exact hwp (n:=n+f+2) hp' fun C5 hE5=>q _ C5 (hE'.trans hE5) (.inl rfl)
theorem Zp7 {x:Str}{M:Ms}:PT 0 (.tup [.str "name",.str x]) M ((Xw (dm M) (.inr x)).getD (.tup [.str "name",.str x])):=by
 intro n C Q χ a ha q
 refine Zj7 rfl ?_
 unfold Zbx
 walk_at "ws"
 simp only[Zpq]
 walk_at "ws"
 refine⟨⟨_,ha⟩,_,.inr x,rfl,ha,q _ _ (Ex.refl _) ?_⟩
 cases Xw (dm M) (.inr x) with
 | none=>exact .inr ⟨rfl,rfl⟩
 | some v=>exact .inl rfl
section
variable {C:Hw}{Q:WK}{χ:WX}{n:Nat}
theorem s_wl {α:Type}{Z:List α}{pre:α→List T}{o nw:α→T}{b:Addr}(hb:C b=some (.lst (Z.map nw)))(h1:Z.length≤1000)(hx:∀z∈Z,(pre z).length≤100)(q:∀C',Ex C C'→Q (.tup (Z.map fun z=>.tup (pre z++[nw z]))) C'):
  wpc pr (n+1) Zf3 [.tup (Z.map fun z=>.tup (pre z++[o z])),.ref b] C Q χ:=by
 have e:(Z.map fun z=>T.tup (pre z++[o z]))=(Z.map fun z=>pre z++[o z]).map T.tup:=by rw[YE];rfl
 rw[e]
 refine Zlc hb (by simp) (by simpa using h1) (fun x hx'=>?_) fun C' hE=>?_
 ·obtain⟨z,hz,rfl⟩:=XR.mp hx'
  have:=hx z hz
  exact⟨by simp,by rw[List.length_append,List.length_singleton];omega⟩
 ·have e2:(((Z.map fun z=>pre z++[o z]).zip (Z.map nw)).map fun z=>T.tup (z.1.dropLast++[z.2]))=Z.map fun z=>T.tup (pre z++[nw z]):=by
   rw[List.zip_map',YE]
   refine List.map_congr_left fun z _=>?_
   simp only[Function.comp,List.dropLast_concat]
  rw[e2]
  exact q C' hE
end
theorem Zwc {o A B A' B':T}:WPt (.tup [.str "does",o,A,B]) [A',B'] (.tup [.str "does",o,A',B']):=by
 intro n C Q χ b hb q
 refine Xo rfl ?_
 unfold Y2
 refine k_a0 rfl (Zdf rfl rfl ?_)
 walk_at "ws"
 exact⟨_,hb,_,Yo,_,hb,_,Ja,q _ (Ex.refl _)⟩
theorem Zzi {w:Str}{A B A' B':T}(h:w="call"∨w="first"):WPt (.tup [.str w,A,B]) [A',B'] (.tup [.str w,A',B']):=by
 intro n C Q χ b hb q
 refine Xo rfl ?_
 unfold Y2
 refine k_a0 rfl (Xy rfl (by rcases h with rfl | rfl<;>decide+kernel) (Zpf rfl h ?_))
 walk_at "ws"
 exact⟨_,hb,_,Yo,_,hb,_,Ja,q _ (Ex.refl _)⟩
theorem Zzk {x A A':T}:WPt (.tup [.str "fun",x,A]) [A'] (.tup [.str "fun",x,A']):=by
 intro n C Q χ b hb q
 refine Xo rfl ?_
 unfold Y2
 refine k_a0 rfl (Xy rfl (by decide+kernel) (Zey rfl (by decide+kernel) (by decide+kernel) (Zdf rfl rfl ?_)))
 walk_at "ws"
 exact⟨_,hb,_,Yo,q _ (Ex.refl _)⟩
theorem Zmo {c:T}{ps ps':List T}:WPt (.tup [.str "shape",c,.tup ps]) ps' (.tup [.str "shape",c,.tup ps']):=by
 intro n C Q χ b hb q
 refine Xo rfl ?_
 unfold Y2
 refine k_a0 rfl (Xy rfl (by decide+kernel) (Zey rfl (by decide+kernel) (by decide+kernel) (Xy rfl (by decide+kernel) (Xy rfl (by decide+kernel) (Zdf rfl rfl ?_)))))
 walk_at "ws"
 exact⟨_,hb,q _ (Ex.refl _)⟩
theorem Zsg {w:Str}{rest ts:List T}(h:w∉sorts):WPt (.tup (.str w::rest)) ts (.tup (.str w::rest)):=by
 intro n C Q χ b hb q
 refine Xo rfl ?_
 unfold Y2
 have hw:∀s∈sorts,w≠s:=fun s hs z=>h (z▸hs)
 refine k_a0 rfl (Xy rfl (hw "does" (by decide)) (Zey rfl (hw "call" (by decide)) (hw "first" (by decide)) (Xy rfl (hw "fun" (by decide)) (Xy rfl (hw "let" (by decide)) (Xy rfl (hw "shape" (by decide)) (Xy rfl (hw "choose" (by decide)) (Xy rfl (hw "rows" (by decide)) ?_)))))))
 walk_at "ws"
 exact q _ (Ex.refl _)
theorem cutA {α:Type}{a:α}{r:List α}:cut (a::r) (some 1) none=r:=by
 unfold cut
 have e1:HT.sIx (a::r).length 0 (some 1)=1:=by unfold HT.sIx;simp
 have e2:HT.sIx (a::r).length (a::r).length none=(a::r).length:=by unfold HT.sIx;simp
 rw[e1,e2];simp
theorem cutZ {α:Type}{a:α}{r:List α}:cut (r++[a]) none (some (-1))=r:=by
 unfold cut
 have e1:HT.sIx (r++[a]).length 0 none=0:=by unfold HT.sIx;simp
 have e2:HT.sIx (r++[a]).length (r++[a]).length (some (-1))=r.length:=by unfold HT.sIx;simp;omega
 rw[e1,e2];simp
theorem atZ {a:T}{r:List T}:atI (r++[a]) (-1)=some a:=by
 unfold atI ixN
 rw[if_neg (by decide),if_pos (by simp;omega)]
 have e:((-1:Int)+((r++[a]).length:Nat)).toNat=r.length:=by simp;omega
 rw[e]
 simp
theorem Zzj {α:Type}{Z:List α}{x:α→Str}{o nw:α→T}{B B':T}(h1:Z.length≤1000):WPt (.tup [.str "let",.tup (Z.map fun z=>.tup [.str (x z),o z]),B]) (Z.map nw++[B']) (.tup [.str "let",.tup (Z.map fun z=>.tup [.str (x z),nw z]),B']):=by
 intro n C Q χ b hb q
 refine Xo rfl ?_
 unfold Y2
 refine k_a0 rfl (Xy rfl (by decide+kernel) (Zey rfl (by decide+kernel) (by decide+kernel) (Xy rfl (by decide+kernel) (Zdf rfl rfl ?_))))
 walk_at "ws"
 refine⟨_,hb,fun p hp=>?_⟩
 simp only[cutZ]
 refine s_wl (n:=n) (pre:=fun z=>[T.str (x z)]) (o:=o) (nw:=nw) Zn h1 (by simp) fun C' hE=>?_
 refine⟨_,hE _ _ ((Ex.new hp) _ _ hb),_,atZ,?_⟩
 exact q _ ((Ex.new hp).trans hE)
theorem Zq3 {α:Type}{Z:List α}{c:α→Str}{ns:α→List Str}{o nw:α→T}{E E':T}(h1:Z.length≤1000):
  WPt (.tup [.str "choose",E,.tup (Z.map fun z=>.tup [.str (c z),.tup ((ns z).map T.str),o z])]) (E'::Z.map nw) (.tup [.str "choose",E',.tup (Z.map fun z=>.tup [.str (c z),.tup ((ns z).map T.str),nw z])]):=by
 intro n C Q χ b hb q
 refine Xo rfl ?_
 unfold Y2
 refine k_a0 rfl (Xy rfl (by decide+kernel) (Zey rfl (by decide+kernel) (by decide+kernel) (Xy rfl (by decide+kernel) (Xy rfl (by decide+kernel) (Xy rfl (by decide+kernel) (Zdf rfl rfl ?_))))))
 walk_at "ws"
 refine⟨_,hb,_,Yo,_,hb,fun p hp=>?_⟩
 simp only[cutA]
 refine s_wl (n:=n) (pre:=fun z=>[T.str (c z),.tup ((ns z).map T.str)]) (o:=o) (nw:=nw) Zn h1 (by simp) fun C' hE=>?_
 exact q _ ((Ex.new hp).trans hE)
open PySem PySem.Spec PyProof.Rows L2 WL
def Pq (f:Nat)(A:T)(M:Ms)(A':T):Prop:=PT f A M A'∧(M=[]→A'=A)∧∃l,A'=.tup l
abbrev nmT (x:Str):T:=.tup [.str "name",.str x]
section
variable {f:Nat}{M:Ms}{A B A' B':T}
theorem Pq.mono {g:Nat}(h:Pq f A M A')(hl:f≤g):Pq g A M A':=⟨PT.mono h.1 hl,h.2.1,h.2.2⟩
theorem Zlt {ns:List Str}(h:M=[]):less M ns=[]:=by subst h;rfl
theorem hp1 {ns:List Str}(hA:Pq f A (less M ns) A'):∀(i:Nat) (z:Sp) (u:T),[(ns,A)][i]?=some z→[A'][i]?=some u→(less M z.1≠[]→PT f z.2 (less M z.1) u)∧(less M z.1=[]→u=z.2)∧∃l,u=.tup l:=by
 intro i z u hz hu
 match i with
 | 0=>simp at hz hu;subst hz;subst hu;exact⟨fun _=>hA.1,hA.2⟩
 | i+1=>simp at hz
theorem hp2 {ns ms:List Str}(hA:Pq f A (less M ns) A')(hB:Pq f B (less M ms) B'):∀(i:Nat) (z:Sp) (u:T),[(ns,A),(ms,B)][i]?=some z→[A',B'][i]?=some u→(less M z.1≠[]→PT f z.2 (less M z.1) u)∧(less M z.1=[]→u=z.2)∧∃l,u=.tup l:=by
 intro i z u hz hu
 match i with
 | 0=>simp at hz hu;subst hz;subst hu;exact⟨fun _=>hA.1,hA.2⟩
 | 1=>simp at hz hu;subst hz;subst hu;exact⟨fun _=>hB.1,hB.2⟩
 | i+2=>simp at hz
theorem Zw6 {o:T}(hA:Pq f A M A')(hB:Pq f B M B'):Pq (f+1) (.tup [.str "does",o,A,B]) M (.tup [.str "does",o,A',B']):=
 ⟨Zdr (ss:=[([],A),([],B)]) (us:=[A',B']) .does (by decide+kernel) (by simp) (by simp) rfl (hp2 (by rw[Zax];exact hA) (by rw[Zax];exact hB)) Zwc (fun h=>by simp at h;rw[h.1,h.2]),fun h=>by rw[hA.2.1 h,hB.2.1 h],_,rfl⟩
theorem Ztp {w:Str}(hw:w="call"∨w="first")(hA:Pq f A M A')(hB:Pq f B M B'):Pq (f+1) (.tup [.str w,A,B]) M (.tup [.str w,A',B']):=
 ⟨Zdr (ss:=[([],A),([],B)]) (us:=[A',B']) (e:=none) (by rcases hw with rfl | rfl;exact .call;exact .first) (by rcases hw with rfl | rfl<;>decide+kernel) (by simp) (by simp) rfl (hp2 (by rw[Zax];exact hA) (by rw[Zax];exact hB)) (Zzi hw) (fun h=>by simp at h;rw[h.1,h.2]),fun h=>by rw[hA.2.1 h,hB.2.1 h],_,rfl⟩
theorem Z0d {x:Str}(hA:Pq f A (less M [x]) A'):Pq (f+1) (.tup [.str "fun",.str x,A]) M (.tup [.str "fun",.str x,A']):=
 ⟨Zdr (ss:=[([x],A)]) (us:=[A']) .fun_ (by decide+kernel) (by simp) (by simp) rfl (hp1 hA) Zzk (fun h=>by simp at h;rw[h]),fun h=>by rw[hA.2.1 (Zlt h)],_,rfl⟩
theorem Zw3 {c:Str}(hA:Pq f A M A')(hB:Pq f B M B'):Pq (f+1) (.tup [.str "shape",.str c,.tup [A,B]]) M (.tup [.str "shape",.str c,.tup [A',B']]):=
 ⟨Zdr (ss:=[([],A),([],B)]) (us:=[A',B']) (.shape (ps:=[A,B]) (by simp)) (by decide+kernel) (by simp) (by simp) rfl (hp2 (by rw[Zax];exact hA) (by rw[Zax];exact hB)) (Zmo (ps:=[A,B])) (fun h=>by simp at h;rw[h.1,h.2]),fun h=>by rw[hA.2.1 h,hB.2.1 h],_,rfl⟩
theorem Zii {w:Str}{rest:List T}(hn:w≠"name")(hw:w∉sorts):Pq 1 (.tup (.str w::rest)) M (.tup (.str w::rest)):=
 ⟨Zdr (f:=0) (ss:=[]) (us:=[]) (.other hw) hn (by simp) (by simp) rfl (by simp) (Zsg hw) (fun _=>rfl),fun _=>rfl,_,rfl⟩
theorem Zw1 {x:Str}{m:List T}(h:Xw (dm M) (.inr x)=some (.tup m)):Pq 0 (nmT x) M (.tup m):=by
 refine⟨?_,fun e=>?_,_,rfl⟩
 ·have:=@Zp7 x M
  rw[h] at this
  exact @this
 ·subst e;simp[dm,Xw] at h
theorem Zw4 {x:Str}(h:Xw (dm M) (.inr x)=none):Pq 0 (nmT x) M (nmT x):=by
 refine⟨?_,fun e=>rfl,_,rfl⟩
 have:=@Zp7 x M
 rw[h] at this
 exact @this
end
abbrev atT (i:Nat):T:=.tup [.str "at",.int (i:Int)]
abbrev big:Int:=1000000000000000000
open PySem PySem.Spec PyProof.Rows L2 WL
section
variable {f:Nat}{M:Ms}{A B A' B' E E':T}
def Gd (f:Nat)(M:Ms)(z:Sp)(u:T):Prop:=(less M z.1≠[]→PT f z.2 (less M z.1) u)∧(less M z.1=[]→u=z.2)∧∃l,u=.tup l
theorem Zy4 {α:Type}{Z:List α}{s:α→Sp}{u:α→T}(h:∀z∈Z,Gd f M (s z) (u z)):∀(i:Nat) (z:Sp) (v:T),(Z.map s)[i]?=some z→(Z.map u)[i]?=some v→(less M z.1≠[]→PT f z.2 (less M z.1) v)∧(less M z.1=[]→v=z.2)∧∃l,v=.tup l:=by
 intro i z v hz hv
 rw[XM] at hz hv
 cases e:Z[i]? with
 | none=>rw[e] at hz;cases hz
 | some x=>
  rw[e] at hz hv
  cases hz;cases hv
  exact h x (List.mem_of_getElem? e)
theorem Zw5 {α:Type}{Z:List α}{x:α→Str}{o g:α→T}(h5:Z.length≤5)(hz:∀z∈Z,Pq f (o z) (less M (Z.map x)) (g z))(hB:Pq f B (less M (Z.map x)) B'):
  Pq (f+1) (.tup [.str "let",.tup (Z.map fun z=>.tup [.str (x z),o z]),B]) M (.tup [.str "let",.tup (Z.map fun z=>.tup [.str (x z),g z]),B']):=by
 have e0:(Z.map fun z=>T.tup [.str (x z),o z])=(Z.map fun z=>((T.str (x z),o z):T×T)).map fun x=>.tup [x.1,x.2]:=by rw[YE];rfl
 have hS:Sc (.tup [.str "let",.tup (Z.map fun z=>.tup [.str (x z),o z]),B]) none ((Z.map (fun z=>((Z.map x,o z):Sp))++[(Z.map x,B)]).map scS):=by
  have:=Sc.let_ (B:=B) (xs:=Z.map fun z=>(T.str (x z),o z)) (by rw[XI];omega)
  rw[←e0] at this
  have e1:(Z.map (fun z=>((Z.map x,o z):Sp))++[(Z.map x,B)]).map scS=(Z.map fun z=>((T.str (x z),o z):T×T)).map (fun y=>((Z.map fun z=>((T.str (x z),o z):T×T)).map (·.1),y.2))++[((Z.map fun z=>((T.str (x z),o z):T×T)).map (·.1),B)]:=by
   simp only[List.map_append,List.map_map,List.map_cons,List.map_nil,Function.comp_def,scS]
  rw[e1];exact this
 refine⟨?_,fun h=>?_,_,rfl⟩
 ·refine Zdr (us:=Z.map g++[B']) hS (by decide+kernel) (fun z hz'=>?_) (by simp;omega) (by simp) ?_ (Zzj (Z:=Z) (x:=x) (o:=o) (nw:=g) (by omega)) ?_
  ·simp only[List.mem_append,List.mem_map,List.mem_singleton] at hz'
   rcases hz' with⟨y,_,rfl⟩ | rfl<;>simp<;>omega
  ·have:=Zy4 (f:=f) (M:=M) (Z:=Z.map some++[none]) (s:=fun u=>match u with | some z=>((Z.map x,o z):Sp) | none=>(Z.map x,B)) (u:=fun u=>match u with | some z=>g z | none=>B') (fun u hu=>by
    simp only[List.mem_append,List.mem_map,List.mem_singleton] at hu
    rcases hu with⟨y,hy,rfl⟩ | rfl
    ·exact⟨fun _=>(hz y hy).1,(hz y hy).2⟩
    ·exact⟨fun _=>hB.1,hB.2⟩)
   simp only[List.map_append,List.map_map,List.map_cons,List.map_nil] at this
   exact this
  ·intro h
   rw[XL,YE] at h
   have h':=List.append_inj h (by simp)
   have hb:B'=B:=by simpa using h'.2
   have hg:∀z∈Z,g z=o z:=fun z hz'=>List.map_inj_left.mp h'.1 z hz'
   rw[hb]
   congr 4
   exact List.map_congr_left fun z hz'=>by rw[hg z hz']
 ·have hg:∀z∈Z,g z=o z:=fun z hz'=>(hz z hz').2.1 (Zlt h)
  rw[hB.2.1 (Zlt h)]
  congr 4
  exact List.map_congr_left fun z hz'=>by rw[hg z hz']
theorem Zrg {α:Type}{Z:List α}{c:α→Str}{ns:α→List Str}{o g:α→T}(h5:Z.length≤5)(h2:∀a∈Z,(ns a).length≤2)(hE:Pq f E M E')(hz:∀a∈Z,Pq f (o a) (less M (ns a)) (g a)):
  Pq (f+1) (.tup [.str "choose",E,.tup (Z.map fun a=>.tup [.str (c a),.tup ((ns a).map T.str),o a])]) M (.tup [.str "choose",E',.tup (Z.map fun a=>.tup [.str (c a),.tup ((ns a).map T.str),g a])]):=by
 have e0:(Z.map fun a=>T.tup [.str (c a),.tup ((ns a).map T.str),o a])=(Z.map fun a=>((T.str (c a),(ns a).map T.str,o a):T×List T×T)).map fun y=>.tup [y.1,.tup y.2.1,y.2.2]:=by rw[YE];rfl
 have hS:Sc (.tup [.str "choose",E,.tup (Z.map fun a=>.tup [.str (c a),.tup ((ns a).map T.str),o a])]) none (((([],E):Sp)::Z.map (fun a=>((ns a,o a):Sp))).map scS):=by
  have:=Sc.choose (E:=E) (ys:=Z.map fun a=>(T.str (c a),(ns a).map T.str,o a)) (by rw[XI];omega)
  rw[←e0] at this
  have e1:((([],E):Sp)::Z.map (fun a=>((ns a,o a):Sp))).map scS=([],E)::(Z.map fun a=>((T.str (c a),(ns a).map T.str,o a):T×List T×T)).map (·.2):=by
   simp only[List.map_map,List.map_cons,scS]
   rfl
  rw[e1];exact this
 refine⟨?_,fun h=>?_,_,rfl⟩
 ·refine Zdr (us:=E'::Z.map g) hS (by decide+kernel) (fun z hz'=>?_) (by simp;omega) (by simp) ?_ (Zq3 (Z:=Z) (c:=c) (ns:=ns) (o:=o) (nw:=g) (by omega)) ?_
  ·simp only[List.mem_cons,List.mem_map] at hz'
   rcases hz' with rfl | ⟨y,hy,rfl⟩
   ·simp
   ·have:=h2 y hy;show(ns y).length≤_;omega
  ·have:=Zy4 (f:=f) (M:=M) (Z:=none::Z.map some) (s:=fun u=>match u with | some a=>((ns a,o a):Sp) | none=>([],E)) (u:=fun u=>match u with | some a=>g a | none=>E') (fun u hu=>by
    simp only[List.mem_cons,List.mem_map] at hu
    rcases hu with rfl | ⟨y,hy,rfl⟩
    ·show Gd f M ([],E) E'
     unfold Gd
     rw[Zax];exact⟨fun _=>hE.1,hE.2⟩
    ·exact⟨fun _=>(hz y hy).1,(hz y hy).2⟩)
   simp only[List.map_map,List.map_cons] at this
   exact this
  ·intro h
   rw[YI,YE] at h
   injection h with h1 h2'
   have hg:∀a∈Z,g a=o a:=fun z hz'=>List.map_inj_left.mp h2' z hz'
   rw[h1]
   congr 5
   exact List.map_congr_left fun z hz'=>by rw[hg z hz']
 ·have hg:∀z∈Z,g z=o z:=fun z hz'=>(hz z hz').2.1 (Zlt h)
  rw[hE.2.1 h]
  congr 5
  exact List.map_congr_left fun z hz'=>by rw[hg z hz']
theorem Zw2 {c:Str}:Pq 1 (.tup [.str "shape",.str c,.tup []]) M (.tup [.str "shape",.str c,.tup []]):=
 ⟨Zdr (f:=0) (ss:=[]) (us:=[]) (.shape (ps:=[]) (by simp)) (by decide+kernel) (by simp) (by simp) rfl (by simp) (Zmo (ps:=[])) (fun _=>rfl),fun _=>rfl,_,rfl⟩
end
open PySem PySem.Spec PyProof.Rows L2 WL
inductive Tm where
 | nm (x:Str) | num (v:Int) | stop (x:Str) | at_ (i:Nat)
 | shp0 (c:Str) | shp2 (c:Str) (a b:Tm)
 | does (o:Str) (a b:Tm) | call (a b:Tm) | first (a b:Tm) | fn (x:Str) (b:Tm)
 | lt (n:Nat) (xs:Fin n→Str) (ts:Fin n→Tm) (b:Tm)
 | ch (e:Tm) (n:Nat) (cs:Fin n→Str) (ns:Fin n→List Str) (bs:Fin n→Tm)
def tt:Tm→T
 | .nm x=>.tup [.str "name",.str x]
 | .num v=>.tup [.str "number",.int v]
 | .stop x=>.tup [.str "stop",.str x]
 | .at_ i=>.tup [.str "at",.int (i:Int)]
 | .shp0 c=>.tup [.str "shape",.str c,.tup []]
 | .shp2 c a b=>.tup [.str "shape",.str c,.tup [tt a,tt b]]
 | .does o a b=>.tup [.str "does",.str o,tt a,tt b]
 | .call a b=>.tup [.str "call",tt a,tt b]
 | .first a b=>.tup [.str "first",tt a,tt b]
 | .fn x b=>.tup [.str "fun",.str x,tt b]
 | .lt n xs ts b=>.tup [.str "let",.tup ((List.finRange n).map fun i=>.tup [.str (xs i),tt (ts i)]),tt b]
 | .ch e n cs ns bs=>.tup [.str "choose",tt e,.tup ((List.finRange n).map fun i=>.tup [.str (cs i),.tup ((ns i).map T.str),tt (bs i)])]
abbrev nms {n:Nat}(xs:Fin n→Str):List Str:=(List.finRange n).map xs
def del (M:Str→Option Nat)(ns:List Str):Str→Option Nat:=fun x=>if x∈ns then none else M x
def pu (M:Str→Option Nat):Tm→Tm
 | .nm x=>match M x with | some i=>.at_ i | none=>.nm x
 | .num v=>.num v
 | .stop x=>.stop x
 | .at_ i=>.at_ i
 | .shp0 c=>.shp0 c
 | .shp2 c a b=>.shp2 c (pu M a) (pu M b)
 | .does o a b=>.does o (pu M a) (pu M b)
 | .call a b=>.call (pu M a) (pu M b)
 | .first a b=>.first (pu M a) (pu M b)
 | .fn x b=>.fn x (pu (del M [x]) b)
 | .lt n xs ts b=>.lt n xs (fun i=>pu (del M (nms xs)) (ts i)) (pu (del M (nms xs)) b)
 | .ch e n cs ns bs=>.ch (pu M e) n cs ns (fun i=>pu (del M (ns i)) (bs i))
def ar (c:Str):Nat:=if c="Cons"∨c="Pair" then 2 else 0
theorem Zoi (c:Str):ar c≤2:=by unfold ar;split<;>omega
abbrev cl (c:Str):Prop:=1≤c.length∧c.length≤4
def gl (x:Str):Prop:=1≤x.length∧x.length≤100
def ok (L:Nat):Nat→List Str→Tm→Prop
 | _,Γ,.nm x=>x∈Γ
 | _,_,.num v=>0≤v∧v<big
 | _,_,.stop x=>gl x
 | _,_,.at_ i=>i<L
 | _,_,.shp0 c=>cl c∧ar c=0
 | d,Γ,.shp2 c a b=>1≤d∧(cl c∧ar c=2)∧ok L (d-1) Γ a∧ok L (d-1) Γ b
 | d,Γ,.does _ a b=>1≤d∧ok L (d-1) Γ a∧ok L (d-1) Γ b
 | d,Γ,.call a b=>1≤d∧ok L (d-1) Γ a∧ok L (d-1) Γ b
 | d,Γ,.first a b=>1≤d∧ok L (d-1) Γ a∧ok L (d-1) Γ b
 | d,Γ,.fn x b=>1≤d∧gl x∧ok L (d-1) (x::Γ) b
 | d,Γ,.lt n xs ts b=>1≤d∧(1≤n∧n≤5∧(nms xs).Nodup∧∀i,gl (xs i))∧(∀i,ok L (d-1) (nms xs++Γ) (ts i))∧ok L (d-1) (nms xs++Γ) b
 | d,Γ,.ch e n cs ns bs=>1≤d∧(n≤5∧∀i,(ns i).length=ar (cs i)∧(ns i).Nodup)∧ok L (d-1) Γ e∧∀i,ok L (d-1) (ns i++Γ) (bs i)
theorem Xh {L L':Nat}(hL:L≤L'):∀{t:Tm} {d d':Nat} {Γ:List Str},ok L d Γ t→d≤d'→ok L' d' Γ t:=by
 intro t
 induction t with
 | nm x=>intro d d' Γ h _;exact h
 | num v=>intro d d' Γ h _;exact h
 | stop x=>intro d d' Γ h _;exact h
 | at_ i=>intro d d' Γ h _;exact XG h hL
 | shp0 c=>intro d d' Γ h _;exact h
 | shp2 c a b iha ihb=>intro d d' Γ h hd;exact⟨by have:=h.1;omega,h.2.1,iha h.2.2.1 (by omega),ihb h.2.2.2 (by omega)⟩
 | does o a b iha ihb=>intro d d' Γ h hd;exact⟨by have:=h.1;omega,iha h.2.1 (by omega),ihb h.2.2 (by omega)⟩
 | call a b iha ihb=>intro d d' Γ h hd;exact⟨by have:=h.1;omega,iha h.2.1 (by omega),ihb h.2.2 (by omega)⟩
 | first a b iha ihb=>intro d d' Γ h hd;exact⟨by have:=h.1;omega,iha h.2.1 (by omega),ihb h.2.2 (by omega)⟩
 | fn x b ih=>intro d d' Γ h hd;exact⟨by have:=h.1;omega,h.2.1,ih h.2.2 (by omega)⟩
 | lt n xs ts b iht ihb=>intro d d' Γ h hd;exact⟨by have:=h.1;omega,h.2.1,fun i=>iht i (h.2.2.1 i) (by omega),ihb h.2.2.2 (by omega)⟩
 | ch e n cs ns bs ihe ihb=>intro d d' Γ h hd;exact⟨by have:=h.1;omega,h.2.1,ihe h.2.2.1 (by omega),fun i=>ihb i (h.2.2.2 i) (by omega)⟩
theorem Zhz {M:Str→Option Nat}{ns Γ Γ':List Str}(h:∀x∈Γ,M x≠none∨x∈Γ'):∀x∈ns++Γ,del M ns x≠none∨x∈ns++Γ':=fun x hx=>by
 by_cases c:x∈ns
 ·exact .inr (List.mem_append_left _ c)
 ·rcases XS.mp hx with hx | hx
  ·exact absurd hx c
  ·rcases h x hx with h | h
   ·exact .inl (by unfold del;rw[XX c];exact h)
   ·exact .inr (XT _ h)
theorem Zga {M:Str→Option Nat}{ns:List Str}{x:Str}{i:Nat}(h:del M ns x=some i):M x=some i:=by
 unfold del at h
 split at h
 ·cases h
 ·exact h
theorem Zp6 {L:Nat}:∀{t:Tm} {d:Nat} {Γ Γ':List Str} {M:Str→Option Nat},ok L d Γ t→(∀x i,M x=some i→i<L)→(∀x∈Γ,M x≠none∨x∈Γ')→ok L d Γ' (pu M t):=by
 intro t
 induction t with
 | nm x=>
  intro d Γ Γ' M h hM hΓ
  unfold pu
  cases e:M x with
  | some i=>exact hM x i e
  | none=>exact(hΓ x h).resolve_left fun z=>z e
 | num v=>intro d Γ Γ' M h hM hΓ;exact h
 | stop x=>intro d Γ Γ' M h hM hΓ;exact h
 | at_ i=>intro d Γ Γ' M h hM hΓ;exact h
 | shp0 c=>intro d Γ Γ' M h hM hΓ;exact h
 | shp2 c a b iha ihb=>intro d Γ Γ' M h hM hΓ;exact⟨h.1,h.2.1,iha h.2.2.1 hM hΓ,ihb h.2.2.2 hM hΓ⟩
 | does o a b iha ihb=>intro d Γ Γ' M h hM hΓ;exact⟨h.1,iha h.2.1 hM hΓ,ihb h.2.2 hM hΓ⟩
 | call a b iha ihb=>intro d Γ Γ' M h hM hΓ;exact⟨h.1,iha h.2.1 hM hΓ,ihb h.2.2 hM hΓ⟩
 | first a b iha ihb=>intro d Γ Γ' M h hM hΓ;exact⟨h.1,iha h.2.1 hM hΓ,ihb h.2.2 hM hΓ⟩
 | fn x b ih=>intro d Γ Γ' M h hM hΓ;exact⟨h.1,h.2.1,ih h.2.2 (fun y i e=>hM y i (Zga e)) (Zhz (ns:=[x]) hΓ)⟩
 | lt n xs ts b iht ihb=>intro d Γ Γ' M h hM hΓ;exact⟨h.1,h.2.1,fun i=>iht i (h.2.2.1 i) (fun y i e=>hM y i (Zga e)) (Zhz hΓ),ihb h.2.2.2 (fun y i e=>hM y i (Zga e)) (Zhz hΓ)⟩
 | ch e n cs ns bs ihe ihb=>intro d Γ Γ' M h hM hΓ;exact⟨h.1,h.2.1,ihe h.2.2.1 hM hΓ,fun i=>ihb i (h.2.2.2 i) (fun y i e=>hM y i (Zga e)) (Zhz hΓ)⟩
def isVt:Tm→Bool
 | .num _=>true
 | .fn _ _=>true
 | _=>false
abbrev Mn:=List (Str×Nat)
def mT (M:Mn):Ms:=M.map fun z=>(z.1,atT z.2)
def mo (M:Mn):Str→Option Nat:=fun x=>(M.find? fun z=>decide (z.1=x)).map (·.2)
def Zg9 (M:Mn)(ns:List Str):Mn:=M.filter fun z=>decide (z.1∉ns)
theorem Zhu {M:Mn}{ns:List Str}:less (mT M) ns=mT (Zg9 M ns):=by
 unfold less mT Zg9
 rw[List.filter_map];rfl
theorem Zht {M:Mn}{ns:List Str}:mo (Zg9 M ns)=del (mo M) ns:=by
 funext x
 unfold mo Zg9 del
 rw[List.find?_filter]
 by_cases c:x∈ns
 ·rw[XY c]
  rw[List.find?_eq_none.mpr]
  ·rfl
  ·intro z _ h
   simp at h
   exact h.1 (h.2▸c)
 ·rw[XX c]
  congr 1
  congr 1
  funext z
  by_cases e:z.1=x
  ·simp[e,c]
  ·simp[e]
theorem Zuh {M:Mn}{x:Str}:Xw (dm (mT M)) (.inr x)=(mo M x).map atT:=by
 rw[Zl7]
 unfold mT mo
 rw[List.find?_map]
 simp only[Option.map_map]
 rfl
theorem Zsq (t:Tm):∃w r,tt t=.tup (.str w::r):=by cases t<;>exact⟨_,_,rfl⟩
theorem Zlh {L:Nat}:∀{t:Tm} {d:Nat} {Γ:List Str} {M:Mn},ok L d Γ t→Pq (d+1) (tt t) (mT M) (tt (pu (mo M) t)):=by
 intro t
 induction t with
 | nm x=>
  intro d Γ M h
  unfold pu
  cases e:mo M x with
  | some i=>exact(Zw1 (by rw[Zuh,e];rfl)).mono (by omega)
  | none=>exact(Zw4 (by rw[Zuh,e];rfl)).mono (by omega)
 | num v=>intro d Γ M h;exact(Zii (by decide+kernel) (by decide+kernel)).mono (by omega)
 | stop x=>intro d Γ M h;exact(Zii (by decide+kernel) (by decide+kernel)).mono (by omega)
 | at_ i=>intro d Γ M h;exact(Zii (by decide+kernel) (by decide+kernel)).mono (by omega)
 | shp0 c=>intro d Γ M h;exact Zw2.mono (by omega)
 | shp2 c a b iha ihb=>intro d Γ M h;have h1:=h.1;exact(Zw3 (iha h.2.2.1) (ihb h.2.2.2)).mono (by omega)
 | does o a b iha ihb=>intro d Γ M h;have h1:=h.1;exact(Zw6 (iha h.2.1) (ihb h.2.2)).mono (by omega)
 | call a b iha ihb=>intro d Γ M h;have h1:=h.1;exact(Ztp (.inl rfl) (iha h.2.1) (ihb h.2.2)).mono (by omega)
 | first a b iha ihb=>intro d Γ M h;have h1:=h.1;exact(Ztp (.inr rfl) (iha h.2.1) (ihb h.2.2)).mono (by omega)
 | fn x b ih=>
  intro d Γ M h
  have h1:=h.1
  have:=ih (M:=Zg9 M [x]) h.2.2
  rw[←Zhu,Zht] at this
  exact(Z0d this).mono (by omega)
 | lt n xs ts b iht ihb=>
  intro d Γ M h
  have h1:=h.1
  have hb:=ihb (M:=Zg9 M (nms xs)) h.2.2.2
  rw[←Zhu,Zht] at hb
  refine(Zw5 (Z:=List.finRange n) (x:=xs) (o:=fun i=>tt (ts i)) (g:=fun i=>tt (pu (del (mo M) (nms xs)) (ts i))) (by rw[List.length_finRange];exact h.2.1.2.1) (fun i _=>?_) hb).mono (by omega)
  have:=iht i (M:=Zg9 M (nms xs)) (h.2.2.1 i)
  rw[←Zhu,Zht] at this
  exact this
 | ch e n cs ns bs ihe ihb=>
  intro d Γ M h
  have h1:=h.1
  refine(Zrg (Z:=List.finRange n) (c:=cs) (ns:=ns) (o:=fun i=>tt (bs i)) (g:=fun i=>tt (pu (del (mo M) (ns i)) (bs i))) (by rw[List.length_finRange];exact h.2.1.1) (fun i _=>?_) (ihe h.2.2.1) (fun i _=>?_)).mono (by omega)
  ·rw[(h.2.1.2 i).1];exact Zoi _
  ·have:=ihb i (M:=Zg9 M (ns i)) (h.2.2.2 i)
   rw[←Zhu,Zht] at this
   exact this
open PySem PySem.Spec PyProof.Rows L2 WL
abbrev Ad:=Fin 7→Addr
abbrev Al:=Str×List Str×Tm
def alT (a:Al):T:=.tup [.str a.1,.tup (a.2.1.map T.str),tt a.2.2]
inductive Fm where
 | give (t:Tm)
 | pick (al:List Al)
 | left (o:Str) (t:Tm)
 | right (o:Str) (x:Int)
 | first (t:Tm)
 | back (i:Nat)
def fmT:Fm→T
 | .give t=>.tup [.str "give",tt t]
 | .pick al=>.tup [.str "pick",.tup (al.map alT)]
 | .left o t=>.tup [.str "left",.str o,tt t]
 | .right o x=>.tup [.str "right",.str o,.int x]
 | .first t=>.tup [.str "first",tt t]
 | .back i=>.tup [.str "back",.int (i:Int)]
inductive Pc where
 | word (x:Str)
 | part (d:Int) (t:Tm)
def pcT:Pc→T
 | .word x=>.str x
 | .part d t=>.tup [.int d,tt t]
inductive Hd where
 | no
 | tm (t:Tm)
 | made (c:Str) (ms:List Nat)
def hT:Hd→T
 | .no=>.non
 | .tm t=>tt t
 | .made c ms=>.tup [.str "made",.str c,.tup (ms.map atT)]
inductive En where
 | no | told (x:Str) | stop (x:Str) | stuck
def eT:En→T
 | .no=>.non
 | .told x=>.tup [.str "told",.str x]
 | .stop x=>.tup [.str "stop",.str x]
 | .stuck=>.tup [.str "stuck",.str ""]
structure Ev where
 ev:Str
 i:Nat
 l:Str
 k:Int
def evT (e:Ev):T:=.tup [.str e.ev,.int (e.i:Int),.str e.l,.int e.k]
structure St where
 h:Hd
 w:Int
 P:List Fm
 S:List Pc
 U:List Str
 D:List Tm
 L:List Str
 G:List Ev
 k:Int
 c:Int
 f:Int
 e:En
def Fs (A:Ad)(s:St):List (Str×T):=[("hand",hT s.h),("wanted",.int s.w),("pile",.ref (A 1)),("still",.ref (A 2)),("told",.ref (A 3)),("things",.ref (A 4)),("labels",.ref (A 5)),("log",.ref (A 6)),("steps",.int s.k),("cells",.int s.c),("firsts",.int s.f),("ending",eT s.e)]
def dD (D:List Tm):List (Key×T):=D.zipIdx.map fun x=>((Sum.inl (x.2:Int):Key),tt x.1)
structure Rn (A:Ad)(C:Hw)(s:St):Prop where
 r:C (A 0)=some (.ins "Runner" (Fs A s))
 pp:C (A 1)=some (.lst (s.P.map fmT))
 ps:C (A 2)=some (.lst (s.S.map pcT))
 pt:C (A 3)=some (.lst (s.U.map T.str))
 pd:C (A 4)=some (.dic (dD s.D))
 pl:C (A 5)=some (.lst (s.L.map T.str))
 pg:C (A 6)=some (.lst (s.G.map evT))
def Di (A:Ad):Prop:=∀i j:Fin 7,i≠j→A i≠A j
def Fr (A:Ad)(C C':Hw):Prop:=∀a o,(∀i,a≠A i)→C a=some o→C' a=some o
section
variable {A:Ad}{s:St}
theorem Zch:(Fs A s).lookup ("hand":Str)=some (hT s.h):=rfl
theorem Zrw:(Fs A s).lookup ("wanted":Str)=some (.int s.w:T):=rfl
theorem Zf1:(Fs A s).lookup ("pile":Str)=some (.ref (A 1):T):=rfl
theorem Zi0:(Fs A s).lookup ("still":Str)=some (.ref (A 2):T):=rfl
theorem Zls:(Fs A s).lookup ("told":Str)=some (.ref (A 3):T):=rfl
theorem Zkj:(Fs A s).lookup ("things":Str)=some (.ref (A 4):T):=rfl
theorem Zgt:(Fs A s).lookup ("labels":Str)=some (.ref (A 5):T):=rfl
theorem Zuk:(Fs A s).lookup ("log":Str)=some (.ref (A 6):T):=rfl
theorem Zf0:(Fs A s).lookup ("steps":Str)=some (.int s.k:T):=rfl
theorem Znr:(Fs A s).lookup ("cells":Str)=some (.int s.c:T):=rfl
theorem Zkk:(Fs A s).lookup ("firsts":Str)=some (.int s.f:T):=rfl
theorem Zd9:(Fs A s).lookup ("ending":Str)=some (eT s.e):=rfl
theorem Zbv {h:Hd}:Zad "hand" (hT h) (Fs A s)=Fs A {s with h:=h}:=rfl
theorem Zre {x:Int}:Zad "wanted" (.int x) (Fs A s)=Fs A {s with w:=x}:=rfl
theorem Zgm {e:En}:Zad "ending" (eT e) (Fs A s)=Fs A {s with e:=e}:=rfl
theorem Ztj {x:Int}:Zad "steps" (.int x) (Fs A s)=Fs A {s with k:=x}:=rfl
theorem Ztk {x:Int}:Zad "cells" (.int x) (Fs A s)=Fs A {s with c:=x}:=rfl
theorem Zrf {x:Int}:Zad "firsts" (.int x) (Fs A s)=Fs A {s with f:=x}:=rfl
theorem tb1 {i:Nat}:List.lookup ("Runner":Str) [("Runner",i)]=some i:=rfl
theorem fs_lt:(Fs A s).length<1000:=ZNB rfl
end
section
variable {A:Ad}{C C' C2:Hw}{s s':St}{o:O}
theorem Fr.refl (A:Ad)(C:Hw):Fr A C C:=fun _ _ _ h=>h
theorem Fr.trans (a:Fr A C C')(b:Fr A C' C2):Fr A C C2:=fun c o h1 h=>b c o h1 (a c o h1 h)
theorem Fr.up (f:Fr A C C')(i:Fin 7):Fr A C (up C' (A i) o):=fun c u h1 h=>by rw[Zx (h1 i)];exact f c u h1 h
theorem Fr.ex (f:Fr A C C')(e:Ex C' C2):Fr A C C2:=fun c u h1 h=>e _ _ (f c u h1 h)
theorem Ex.fr (f:Ex C C'):Fr A C C':=fun c u _ h=>f c u h
theorem Rn.ex (R:Rn A C s)(f:Ex C C'):Rn A C' s:=⟨f _ _ R.r,f _ _ R.pp,f _ _ R.ps,f _ _ R.pt,f _ _ R.pd,f _ _ R.pl,f _ _ R.pg⟩
theorem Rn.s0 (R:Rn A C s)(d:Di A)(s':St)(h1:s'.P=s.P:=by rfl)(h2:s'.S=s.S:=by rfl)(h3:s'.U=s.U:=by rfl)(h4:s'.D=s.D:=by rfl)(h5:s'.L=s.L:=by rfl)(h6:s'.G=s.G:=by rfl):Rn A (up C (A 0) (.ins "Runner" (Fs A s'))) s':=
 ⟨Zn,by rw[Zx (d 1 0 (by decide)),h1];exact R.pp,by rw[Zx (d 2 0 (by decide)),h2];exact R.ps,by rw[Zx (d 3 0 (by decide)),h3];exact R.pt,by rw[Zx (d 4 0 (by decide)),h4];exact R.pd,by rw[Zx (d 5 0 (by decide)),h5];exact R.pl,by rw[Zx (d 6 0 (by decide)),h6];exact R.pg⟩
theorem Rn.s1 (R:Rn A C s)(d:Di A)(P:List Fm):Rn A (up C (A 1) (.lst (P.map fmT))) {s with P:=P}:=
 ⟨by rw[Zx (d 0 1 (by decide))];exact R.r,Zn,by rw[Zx (d 2 1 (by decide))];exact R.ps,by rw[Zx (d 3 1 (by decide))];exact R.pt,by rw[Zx (d 4 1 (by decide))];exact R.pd,by rw[Zx (d 5 1 (by decide))];exact R.pl,by rw[Zx (d 6 1 (by decide))];exact R.pg⟩
theorem Rn.s2 (R:Rn A C s)(d:Di A)(S:List Pc):Rn A (up C (A 2) (.lst (S.map pcT))) {s with S:=S}:=
 ⟨by rw[Zx (d 0 2 (by decide))];exact R.r,by rw[Zx (d 1 2 (by decide))];exact R.pp,Zn,by rw[Zx (d 3 2 (by decide))];exact R.pt,by rw[Zx (d 4 2 (by decide))];exact R.pd,by rw[Zx (d 5 2 (by decide))];exact R.pl,by rw[Zx (d 6 2 (by decide))];exact R.pg⟩
theorem Rn.s3 (R:Rn A C s)(d:Di A)(U:List Str):Rn A (up C (A 3) (.lst (U.map T.str))) {s with U:=U}:=
 ⟨by rw[Zx (d 0 3 (by decide))];exact R.r,by rw[Zx (d 1 3 (by decide))];exact R.pp,by rw[Zx (d 2 3 (by decide))];exact R.ps,Zn,by rw[Zx (d 4 3 (by decide))];exact R.pd,by rw[Zx (d 5 3 (by decide))];exact R.pl,by rw[Zx (d 6 3 (by decide))];exact R.pg⟩
theorem Rn.s4 (R:Rn A C s)(d:Di A)(D:List Tm):Rn A (up C (A 4) (.dic (dD D))) {s with D:=D}:=
 ⟨by rw[Zx (d 0 4 (by decide))];exact R.r,by rw[Zx (d 1 4 (by decide))];exact R.pp,by rw[Zx (d 2 4 (by decide))];exact R.ps,by rw[Zx (d 3 4 (by decide))];exact R.pt,Zn,by rw[Zx (d 5 4 (by decide))];exact R.pl,by rw[Zx (d 6 4 (by decide))];exact R.pg⟩
theorem Rn.s5 (R:Rn A C s)(d:Di A)(L:List Str):Rn A (up C (A 5) (.lst (L.map T.str))) {s with L:=L}:=
 ⟨by rw[Zx (d 0 5 (by decide))];exact R.r,by rw[Zx (d 1 5 (by decide))];exact R.pp,by rw[Zx (d 2 5 (by decide))];exact R.ps,by rw[Zx (d 3 5 (by decide))];exact R.pt,by rw[Zx (d 4 5 (by decide))];exact R.pd,Zn,by rw[Zx (d 6 5 (by decide))];exact R.pg⟩
theorem Rn.s6 (R:Rn A C s)(d:Di A)(G:List Ev):Rn A (up C (A 6) (.lst (G.map evT))) {s with G:=G}:=
 ⟨by rw[Zx (d 0 6 (by decide))];exact R.r,by rw[Zx (d 1 6 (by decide))];exact R.pp,by rw[Zx (d 2 6 (by decide))];exact R.ps,by rw[Zx (d 3 6 (by decide))];exact R.pt,by rw[Zx (d 4 6 (by decide))];exact R.pd,by rw[Zx (d 5 6 (by decide))];exact R.pl,Zn⟩
end
theorem Z17 {D:List Tm}{i:Nat}:Xw (dD D) (.inl (i:Int))=(D[i]?).map tt:=by
 have key:∀(D:List Tm) (b i:Nat),Xw ((D.zipIdx b).map fun x=>((Sum.inl (x.2:Int):Key),tt x.1)) (.inl ((b+i:Nat):Int))=(D[i]?).map tt:=by
  intro D
  induction D with
  | nil=>intro b i;rfl
  | cons t D ih=>
   intro b i
   rw[List.zipIdx_cons,YI]
   unfold Xw
   cases i with
   | zero=>rw[List.find?_cons_of_pos (by simp)];simp
   | succ i=>
    rw[List.find?_cons_of_neg (by simp;omega)]
    have:=ih (b+1) i
    unfold Xw at this
    rw[show b+1+i=b+(i+1) by omega] at this
    simpa using this
 have:=key D 0 i
 rw[Nat.zero_add] at this
 exact this
theorem Z15 {D:List Tm}{t:Tm}:putT (dD D) (.inl (D.length:Int)) (tt t)=dD (D++[t]):=by
 unfold putT
 rw[XX]
 ·unfold dD;rw[List.zipIdx_append,List.map_append];simp
 ·rw[List.any_eq_true]
  rintro⟨kv,hk,e⟩
  unfold dD at hk
  obtain⟨z,hz,rfl⟩:=XR.mp hk
  have:=List.mem_zipIdx hz
  simp at e
  omega
theorem Z16 {D:List Tm}:(dD D).length=D.length:=by unfold dD;simp
section
variable {A:Ad}{C:Hw}{s:St}{Q:WK}{χ:WX}{n i:Nat}{τ:Sw}{f m:Str}{b:WS}{D:We}{Pc:Calls}{Qg:Sw→Hw→Prop}{v:T}
theorem gs {s':St}(hp:Zad f v (Fs A s)=Fs A s')(R:Rn A C s)(q:Qg (some (.ref (A 0))::τ) (up C (A 0) (.ins "Runner" (Fs A s')))):gFd ["Runner"] f (Zd 0) v (some (.ref (A 0))::τ) C Qg χ:=
 ⟨_,rfl,_,_,_,rfl,R.r,.head _,fs_lt,hp▸q⟩
theorem Zpc:(Fs A s).lookup ("note":Str)=none:=rfl
theorem Zug:(Fs A s).lookup ("bear":Str)=none:=rfl
theorem Zuf:(Fs A s).lookup ("keep":Str)=none:=rfl
theorem Zxq:(Fs A s).lookup ("enter":Str)=none:=rfl
theorem Znq:(Fs A s).lookup ("come_back":Str)=none:=rfl
theorem Zix:(Fs A s).lookup ("mark_for":Str)=none:=rfl
theorem Zue:(Fs A s).lookup ("make":Str)=none:=rfl
theorem Z07:(Fs A s).lookup ("bind":Str)=none:=rfl
theorem Zfz:(Fs A s).lookup ("take_frame":Str)=none:=rfl
theorem Zbz:(Fs A s).lookup ("go_into":Str)=none:=rfl
theorem Znl:(Fs A s).lookup ("use_value":Str)=none:=rfl
theorem Zlp:(Fs A s).lookup ("take_apart":Str)=none:=rfl
theorem Znn:(Fs A s).lookup ("take_step":Str)=none:=rfl
theorem Zlo:(Fs A s).lookup ("tell_value":Str)=none:=rfl
theorem Znm:(Fs A s).lookup ("tell_next":Str)=none:=rfl
theorem Zno:(Fs A s).lookup ("settle":Str)=none:=rfl
theorem Zrt:(Fs A s).lookup ("advance":Str)=none:=rfl
theorem Zrs:(Fs A s).lookup ("outcome":Str)=none:=rfl
theorem m_go:(Fs A s).lookup ("go":Str)=none:=rfl
def nt (s:St)(ev:Str)(i:Nat)(l:Str):Ev:=⟨ev,i,l,s.k⟩
theorem atN {xs:List T}{i:Nat}{x:T}(h:xs[i]?=some x):atI xs (i:Int)=some x:=by
 unfold atI
 have hi:i<xs.length:=(List.getElem?_eq_some_iff.mp h).1
 simp[ixN,hi]
 exact(List.getElem?_eq_some_iff.mp h).2
theorem Zot {ev l:Str}{j:Nat}(d:Di A)(R:Rn A C s)(hj:s.L[j]?=some l)(hg:s.G.length≤100000)(q:Q .non (up C (A 6) (.lst ((s.G++[nt s ev j l]).map evT)))):wpc pr (n+1) Zjx [.ref (A 0),.str ev,.int (j:Int)] C Q χ:=by
 refine Zjm rfl ?_
 refine⟨_,rfl,_,_,_,_,rfl,R.r,.head _,Zuk,⟨_,_,rfl,R.pg⟩,?_⟩
 refine⟨_,rfl,_,rfl,_,rfl,_,_,_,_,rfl,R.r,.head _,Zgt,_,rfl,?_⟩
 have e:s.G.map evT++[evT (nt s ev j l)]=(s.G++[nt s ev j l]).map evT:=by rw[XL];rfl
 rw[←e] at q
 refine⟨_,_,R.pl,atN (x:=.str l) (by rw[XM,hj];rfl),_,rfl,_,_,_,_,rfl,R.r,.head _,Zf0,ZNB rfl,_,_,_,rfl,rfl,R.pg,small63' (by rw[XI];exact hg),q⟩
end
open PySem PySem.Spec PyProof.Rows L2 WL
def Zky (s:St)(l:Str):St:={s with L:=s.L++[l],G:=s.G++[nt s "born" s.L.length l]}
def Zuo (s:St)(t:Tm):St:={s with D:=s.D++[t]}
def isM:Tm→Bool
 | .at_ _=>true
 | _=>false
def isV:Hd→Bool
 | .no=>false
 | .tm t=>isVt t
 | .made _ _=>true
def mkS (s:St)(l:Str)(t:Tm):St:=if isM t=true then s else Zuo (Zky s l) t
def mkN (s:St):Tm→Nat
 | .at_ i=>i
 | _=>s.L.length
theorem Z04 {s:St}{t:Tm}(h:isM t=true):tt t=atT (mkN s t):=by cases t<;>first | rfl | cases h
theorem Zln {s:St}{t:Tm}(h:isM t=false):mkN s t=s.L.length:=by cases t<;>first | rfl | cases h
theorem inM {t:Tm}{w:Str}{r:List T}(e:tt t=.tup (.str w::r)):inL (.str w) [.str "at",.str "shut",.str "ring"]=isM t:=by
 cases t<;>(unfold tt at e;injection e with e;injection e with e _;injection e with e;subst e;first | (show _=false;decide+kernel) | (show _=true;decide+kernel))
theorem inV {h:Hd}{w:Str}{r:List T}(e:hT h=.tup (.str w::r)):inL (.str w) [.str "number",.str "fun",.str "made"]=isV h:=by
 cases h with
 | no=>cases e
 | made c ms=>unfold hT at e;injection e with e;injection e with e _;injection e with e;subst e;show _=true;decide+kernel
 | tm t=>cases t<;>(unfold hT tt at e;injection e with e;injection e with e _;injection e with e;subst e;first | (show _=false;decide+kernel) | (show _=true;decide+kernel))
theorem Zpl {h:Hd}(n:h≠.no):∃w r,hT h=.tup (.str w::r):=by
 cases h with
 | no=>exact absurd rfl n
 | made c ms=>exact⟨_,_,rfl⟩
 | tm t=>exact Zsq t
section
variable {A:Ad}{C:Hw}{s:St}{Q:WK}{χ:WX}{n:Nat}
theorem Zrc {t:Tm}(q:Q (.bl (isM t)) C):wpc pr (n+1) Zr3 [tt t] C Q χ:=by
 obtain⟨w,r,e⟩:=Zsq t
 rw[←inM e] at q
 rw[e]
 exact Zq6 rfl ⟨_,rfl,_,Yo,Xi,by decide,q⟩
theorem Zie {h:Hd}(hn:h≠.no)(q:Q (.bl (isV h)) C):wpc pr (n+1) Zpk [hT h] C Q χ:=by
 obtain⟨w,r,e⟩:=Zpl hn
 rw[←inV e] at q
 rw[e]
 exact Zom rfl ⟨_,rfl,_,Yo,Xi,by decide,q⟩
theorem Ztb {l:Str}(d:Di A)(R:Rn A C s)(hL:s.L.length≤100000)(hg:s.G.length≤100000)(q:∀C',Fr A C C'→Rn A C' (Zky s l)→Q (atT s.L.length) C'):wpc pr (n+2) Zj1 [.ref (A 0),.str l] C Q χ:=by
 refine Zjq rfl ?_
 refine⟨_,rfl,_,_,_,_,rfl,R.r,.head _,Zgt,_,rfl,_,R.pl,?_⟩
 refine⟨_,rfl,_,_,_,_,rfl,R.r,.head _,Zgt,⟨_,_,rfl,R.pl⟩,_,rfl,_,_,_,rfl,rfl,R.pl,small63' (by rw[XI];exact hL),?_⟩
 have e:s.L.map T.str++[.str l]=(s.L++[l]).map T.str:=by rw[XL];rfl
 have el:((s.L.map T.str).length:Int)=((s.L.length:Nat):Int):=by rw[XI]
 rw[e,el]
 have R1:=R.s5 d (s.L++[l])
 refine⟨_,rfl,_,_,_,_,rfl,R1.r,tb1,Zpc,_,rfl,?_⟩
 dsimp only[Zg]
 refine Zot (n:=n) (j:=s.L.length) (l:=l) d R1 (by simp) hg ?_
 exact⟨_,rfl,ZNB rfl,q _ (((Fr.refl _ _).up 5).up 6) (R1.s6 d _)⟩
theorem Zs8 {t:Tm}(d:Di A)(R:Rn A C s)(hD:s.D.length≤100000)(q:∀C',Fr A C C'→Rn A C' (Zuo s t)→Q .non C'):wpc pr (n+1) Zjz [.ref (A 0),.int (s.D.length:Int),tt t] C Q χ:=by
 refine Zjo rfl ?_
 refine⟨_,rfl,_,rfl,_,_,_,_,rfl,R.r,.head _,Zkj,_,rfl,_,_,_,rfl,rfl,R.pd,small63' (by rw[Z16];exact hD),?_⟩
 rw[Z15]
 exact q _ ((Fr.refl _ _).up 4) (R.s4 d _)
theorem Zby {h:Hd}{f:Fm}(d:Di A)(R:Rn A C s)(hl:s.P.length≤100000)(q:∀C',Fr A C C'→Rn A C' {s with P:=s.P++[f],h:=h}→Q .non C'):wpc pr (n+1) Zgy [.ref (A 0),hT h,fmT f] C Q χ:=by
 refine Zgi rfl ?_
 refine⟨_,rfl,_,_,_,_,rfl,R.r,.head _,Zf1,⟨_,_,rfl,R.pp⟩,_,rfl,_,_,_,rfl,rfl,R.pp,small63' (by rw[XI];exact hl),?_⟩
 have e:s.P.map fmT++[fmT f]=(s.P++[f]).map fmT:=by rw[XL];rfl
 rw[e]
 have R1:=R.s1 d (s.P++[f])
 refine⟨_,rfl,gs (χ:=χ) Zbv R1 ?_⟩
 exact q _ (((Fr.refl _ _).up 1).up 0) (R1.s0 d _)
theorem Zfp {P:List Fm}{f:Fm}(d:Di A)(R:Rn A C s)(hP:s.P=P++[f])(q:∀C',Fr A C C'→Rn A C' {s with P:=P}→Q (fmT f) C'):wpc pr (n+1) Zep [.ref (A 0)] C Q χ:=by
 refine Zeh rfl ?_
 have hpp:=R.pp
 rw[hP,XL] at hpp
 refine⟨_,rfl,_,_,_,_,rfl,R.r,.head _,Zf1,⟨_,_,rfl,hpp⟩,_,_,_,rfl,rfl,hpp,(by simp:(P.map fmT++[f].map fmT)[(P.map fmT++[f].map fmT).length-1]?=some (fmT f)),?_⟩
 have e:(P.map fmT++[f].map fmT).dropLast=P.map fmT:=by simp
 rw[e]
 exact q _ ((Fr.refl _ _).up 1) (R.s1 d P)
theorem Zwo {j:Nat}{l:Str}{t:Tm}(d:Di A)(R:Rn A C s)(hj:s.L[j]?=some l)(ht:s.D[j]?=some t)(hg:s.G.length≤100000)(hl:s.P.length≤100000)(q:∀C',Fr A C C'→Rn A C' {s with P:=s.P++[.back j],h:=.tm t,G:=s.G++[nt s "enter" j l]}→Q .non C'):wpc pr (n+2) Zi6 [.ref (A 0),.int (j:Int)] C Q χ:=by
 refine Zh4 rfl ?_
 refine⟨_,rfl,_,_,_,_,rfl,R.r,tb1,Zpc,_,rfl,?_⟩
 dsimp only[Zg]
 refine Zot (n:=n) (ev:="enter") d R hj hg ?_
 have R1:=R.s6 d (s.G++[nt s "enter" j l])
 refine⟨_,rfl,_,_,_,_,rfl,R1.r,tb1,Zbz,_,rfl,_,_,_,_,rfl,R1.r,.head _,Zkj,_,rfl,?_⟩
 refine⟨_,_,_,tt t,rfl,rfl,.inl R1.pd,by rw[Z17];exact congrArg (Option.map tt) ht,_,rfl,ZNB rfl,?_⟩
 dsimp only[Zg]
 exact Zby (n:=n) (h:=.tm t) (f:=.back j) d R1 hl fun C' hF R'=>q C' (((Fr.refl _ _).up 6).trans hF) R'
theorem Zm6 {j:Nat}{l:Str}(d:Di A)(R:Rn A C s)(hj:s.L[j]?=some l)(hg:s.G.length≤100000)(q:∀C',Fr A C C'→Rn A C' {s with G:=s.G++[nt s "back" j l]}→Q .non C'):wpc pr (n+2) Zfb [.ref (A 0),.int (j:Int)] C Q χ:=by
 refine Ze4 rfl ?_
 refine⟨_,rfl,_,_,_,_,rfl,R.r,tb1,Zpc,_,rfl,?_⟩
 dsimp only[Zg]
 exact Zot (n:=n) (ev:="back") d R hj hg (q _ ((Fr.refl _ _).up 6) (R.s6 d _))
theorem Zid {l:Str}{t:Tm}(d:Di A)(R:Rn A C s)(hDL:s.D.length=s.L.length)(hL:s.L.length≤100000)(hg:s.G.length≤100000)(q:∀C',Fr A C C'→Rn A C' (mkS s l t)→Q (atT (mkN s t)) C'):wpc pr (n+3) Zf4 [.ref (A 0),.str l,tt t] C Q χ:=by
 refine Zfk rfl ⟨_,rfl,?_⟩
 dsimp only[Zg]
 refine Zrc (n:=n+1) ⟨_,rfl,?_⟩
 cases c:isM t with
 | true=>
  refine J4 ⟨_,rfl,?_⟩
  have:=q C (Fr.refl _ _)
  unfold mkS at this
  rw[XY c,←Z04 c] at this
  exact this R
 | false=>
  refine Jd ?_
  refine⟨_,rfl,_,_,_,_,rfl,R.r,tb1,Zug,_,rfl,?_⟩
  dsimp only[Zg]
  refine Ztb (n:=n) d R hL hg fun C1 hF1 R1=>?_
  refine⟨_,rfl,_,_,_,_,rfl,R1.r,tb1,Zuf,_,rfl,_,Ja,_,rfl,?_⟩
  have e:((s.L.length:Nat):Int)=(((Zky s l).D.length:Nat):Int):=by show _=((s.D.length:Nat):Int);rw[hDL]
  dsimp only[Zg]
  rw[e]
  refine Zs8 (n:=n+1) d R1 (by show s.D.length≤_;omega) fun C2 hF2 R2=>⟨_,rfl,?_⟩
  have:=q C2 (hF1.trans hF2)
  unfold mkS at this
  rw[XX (by rw[c];decide),Zln c] at this
  exact this R2
end
open PySem PySem.Spec PyProof.Rows L2 WL
theorem Rn.fresh {A:Ad}{C:Hw}{s:St}{p:Addr}(R:Rn A C s)(h:C p=none):∀i,p≠A i:=fun i e=>by
 subst e
 match i with
 | 0=>rw[R.r] at h;cases h
 | 1=>rw[R.pp] at h;cases h
 | 2=>rw[R.ps] at h;cases h
 | 3=>rw[R.pt] at h;cases h
 | 4=>rw[R.pd] at h;cases h
 | 5=>rw[R.pl] at h;cases h
 | 6=>rw[R.pg] at h;cases h
theorem Rn.off {A:Ad}{C:Hw}{s:St}{p:Addr}{o:O}(R:Rn A C s)(h:∀i,p≠A i):Rn A (up C p o) s:=
 ⟨by rw[Zx (h 0).symm];exact R.r,by rw[Zx (h 1).symm];exact R.pp,by rw[Zx (h 2).symm];exact R.ps,by rw[Zx (h 3).symm];exact R.pt,by rw[Zx (h 4).symm];exact R.pd,by rw[Zx (h 5).symm];exact R.pl,by rw[Zx (h 6).symm];exact R.pg⟩
def lab (c:Str)(i:Nat):Str:=Str.empty++c++(".":Str)++Str.ofString (toString ((i:Nat):Int))
def sA (s:St)(c:Str)(ts:List Tm):Nat→St
 | 0=>s
 | i+1=>match ts[i]? with | some t=>mkS (sA s c ts i) (lab c (i+1)) t | none=>sA s c ts i
def mA (s:St)(c:Str)(ts:List Tm):Nat→List Nat
 | 0=>[]
 | i+1=>match ts[i]? with | some t=>mA s c ts i++[mkN (sA s c ts i) t] | none=>mA s c ts i
theorem Zxo {s:St}{l:Str}{t:Tm}(h:s.D.length=s.L.length):(mkS s l t).D.length=(mkS s l t).L.length∧(mkS s l t).L.length≤s.L.length+1∧(mkS s l t).G.length≤s.G.length+1:=by
 unfold mkS
 split
 ·exact⟨h,by omega,by omega⟩
 ·simp only[Zuo,Zky,List.length_append,List.length_cons,List.length_nil];omega
theorem Ztd {s:St}{c:Str}{ts:List Tm}(h:s.D.length=s.L.length):∀i,(sA s c ts i).D.length=(sA s c ts i).L.length∧(sA s c ts i).L.length≤s.L.length+i∧(sA s c ts i).G.length≤s.G.length+i
 | 0=>⟨h,XE _,XE _⟩
 | i+1=>by
  obtain⟨a,b,e⟩:=Ztd h i
  unfold sA
  cases ts[i]? with
  | none=>exact⟨a,by simp only;omega,by simp only;omega⟩
  | some t=>
   obtain⟨a',b',e'⟩:=Zxo (l:=lab c (i+1)) (t:=t) a
   exact⟨a',by simp only;omega,by simp only;omega⟩
theorem Z09 {s:St}{c:Str}{ts:List Tm}(h:ts.length≤2):∀i,(mA s c ts i).length≤1000:=fun i=>by
 have key:∀i,(mA s c ts i).length≤min i ts.length:=fun i=>by
  induction i with
  | zero=>simp[mA]
  | succ i ih=>
   unfold mA
   cases e:ts[i]? with
   | none=>simp only;omega
   | some t=>
    have:=(List.getElem?_eq_some_iff.mp e).1
    simp only[List.length_append,List.length_cons,List.length_nil];omega
 have:=key i
 omega
def Y1 (s:St)(c:Str):St:=if c="Cons" then {s with c:=s.c+1} else s
def Zfy (s:St)(c:Str)(ts:List Tm):St:={sA (Y1 s c) c ts ts.length with h:=.made c (mA (Y1 s c) c ts ts.length)}
theorem Zrv {i:Nat}(h:i≤100):((i:Nat):Int).natAbs.log2<1920:=by
 by_cases h0:i=0
 ·subst h0;decide
 ·exact(Nat.log2_lt (by omega)).mpr (XG (show i<2^7 by omega) (Nat.pow_le_pow_right (by decide) (by decide)))
theorem Zxt {c:Str}{i:Nat}(hc:c.length≤4)(hi:i=1∨i=2):(Str.empty++c).length≤4∧(Str.empty++c++(".":Str)).length≤5∧(lab c i).length≤6:=by
 have h0:(Str.empty++c).length=Str.empty.length+c.length:=YC _ _
 have h1:(Str.empty++c++(".":Str)).length=(Str.empty++c).length+(".":Str).length:=YC _ _
 have h2:(lab c i).length=(Str.empty++c++(".":Str)).length+(Str.ofString (toString ((i:Nat):Int))).length:=YC _ _
 have e0:Str.empty.length=0:=by decide
 have e1:(".":Str).length=1:=by decide+kernel
 have e2:(Str.ofString (toString ((i:Nat):Int))).length=1:=by rcases hi with rfl | rfl<;>decide+kernel
 omega
section
variable {A:Ad}{C:Hw}{s:St}{Q:WK}{χ:WX}{n:Nat}
theorem Zs7 {c:Str}{ts:List Tm}(d:Di A)(R:Rn A C s)(hc:c.length≤4)(h2:ts.length≤2)(hDL:s.D.length=s.L.length)(hL:s.L.length≤90000)(hg:s.G.length≤90000)
  (q:∀C',Fr A C C'→Rn A C' (Zfy s c ts)→Q .non C'):wpc pr (n+4) Zjy [.ref (A 0),.str c,.tup (ts.map tt)] C Q χ:=by
 refine Zjn rfl ?_
 have fin:∀C1,Fr A C C1→Rn A C1 (Y1 s c)→Za0 (wpc pr (n+3)) (ZUD Q χ) [some (.ref (A 0)),some (.str c),some (.tup (ts.map tt)),none,none,none] C1:=by
  intro C1 hF1 R1
  have hDL':(Y1 s c).D.length=(Y1 s c).L.length:=by unfold Y1;split<;>exact hDL
  have hL':(Y1 s c).L.length≤90000:=by unfold Y1;split<;>exact hL
  have hg':(Y1 s c).G.length≤90000:=by unfold Y1;split<;>exact hg
  have emk:Zfy s c ts={sA (Y1 s c) c ts ts.length with h:=.made c (mA (Y1 s c) c ts ts.length)}:=rfl
  rw[emk] at q
  generalize Y1 s c=s1 at R1 hDL' hL' hg' q
  refine⟨ZNB rfl,fun a ha=>?_⟩
  have hfr:=R1.fresh ha
  have R1':=R1.ex (Ex.new (o:=.lst []) ha)
  refine⟨_,rfl,_,rfl,?_⟩
  refine Zbe (fun i τ C'=>∃x4 x5,τ=[some (.ref (A 0)),some (.str c),some (.tup (ts.map tt)),some (.ref a),x4,x5]∧Fr A C C'∧Rn A C' (sA s1 c ts i)∧C' a=some (.lst ((mA s1 c ts i).map atT))) ⟨none,none,rfl,hF1.ex (Ex.new ha),R1',Zn⟩ (fun _ _ _ _ _=>trivial) ?_ ?_
  ·rintro i x τ C' N hx ⟨x4,x5,rfl,hF,R2,hC⟩ hN
   have hi:i<ts.length:=by have:=(List.getElem?_eq_some_iff.mp hx).1;rw[Zfx,XI] at this;exact this
   have hti:ts[i]?=some (ts[i]'hi):=by simp[hi]
   generalize ts[i]'hi=t at hti
   rw[Zqc (x:=tt t) (by rw[XM,hti];rfl)] at hx
   cases hx
   obtain⟨l1,l2,l3⟩:=Ztd (c:=c) (ts:=ts) hDL' i
   obtain⟨k1,k2,k3⟩:=Zxt (i:=i+1) hc (by omega)
   refine⟨_,rfl,_,_,rfl,_,_,rfl,rfl,?_⟩
   refine⟨_,rfl,⟨_,_,rfl,hC⟩,_,rfl,_,_,_,_,rfl,R2.r,tb1,Zix,?_⟩
   refine⟨_,rfl,.inl ⟨_,rfl,small63 (by omega),_,rfl,small63 (by omega),_,rfl,small63 (by omega),_,rfl,.inr ⟨_,rfl,Zrv (by omega),_,rfl,small63 (by exact XN k3 (by omega)),?_⟩⟩⟩
   refine⟨_,rfl,?_⟩
   dsimp only[Zg]
   have hm:=Zid (A:=A) (C:=C') (s:=sA s1 c ts i) (l:=lab c (i+1)) (t:=t) (n:=n) (χ:=χ) (Q:=fun v C2=>∃a_1 xs y,(T.ref a)=.ref a_1∧[v]=[y]∧C2 a_1=some (.lst xs)∧xs.length<sizeLine∧N [some (.ref (A 0)),some (.str c),some (.tup (ts.map tt)),some (.ref a),some (.int ((i+1:Nat):Int)),some (tt t)] (up C2 a_1 (.lst (xs++[y])))) d R2 l1 (by omega) (by omega) fun C2 hF2 R3=>?_
   ·exact hm
   ·have hC2:=hF2 _ _ hfr hC
    have hlm:(mA s1 c ts i).length≤1000:=Z09 h2 i
    refine⟨_,_,_,rfl,rfl,hC2,small63' (by rw[XI];omega),hN _ _ ⟨_,_,rfl,?_,?_,?_⟩⟩
    ·exact fun b o h1 h=>by
      have:b≠a:=fun e=>by subst e;have z:=hF1 _ _ h1 h;rw[ha] at z;cases z
      rw[Zx this];exact hF2 _ _ h1 (hF _ _ h1 h)
    ·have e:sA s1 c ts (i+1)=mkS (sA s1 c ts i) (lab c (i+1)) t:=by rw[sA,hti]
     rw[e];exact R3.off hfr
    ·have e:mA s1 c ts (i+1)=mA s1 c ts i++[mkN (sA s1 c ts i) t]:=by rw[mA,hti]
     rw[e,XL];exact Zn
  ·rintro τ C' ⟨x4,x5,rfl,hF,R2,hC⟩
   rw[Zfx,XI] at R2 hC
   refine⟨_,rfl,_,rfl,_,rfl,_,hC,ZNB rfl,?_⟩
   exact gs (χ:=χ) (Zbv (h:=.made c (mA s1 c ts ts.length))) R2 (q _ (hF.up 0) (R2.s0 d _))
 refine⟨_,rfl,?_⟩
 by_cases hcs:c="Cons"
 ·refine eqSc (v:=true) (by rw[hcs];exact XU _) ⟨true,rfl,J4 ?_⟩
  refine⟨_,rfl,_,_,_,_,rfl,R.r,.head _,Znr,?_⟩
  refine gs (χ:=χ) Ztk R ?_
  refine fin _ ((Fr.refl _ _).up 0) ?_
  have e:Y1 s c={s with c:=s.c+1}:=by unfold Y1;rw[XY hcs]
  rw[e]
  exact R.s0 d _
 ·refine eqSc (v:=false) (by simpa using hcs) ⟨false,rfl,Jd ?_⟩
  refine fin _ (Fr.refl _ _) ?_
  have e:Y1 s c=s:=by unfold Y1;rw[XX hcs]
  rw[e];exact R
end
open PySem PySem.Spec PyProof.Rows L2 WL
def bA (s:St)(ns:List Str):Nat→St
 | 0=>s
 | i+1=>match ns[i]? with | some x=>Zky (bA s ns i) x | none=>bA s ns i
def mB (b:Nat)(ns:List Str):Nat→Mn
 | 0=>[]
 | i+1=>match ns[i]? with | some x=>mB b ns i++[(x,b+i)] | none=>mB b ns i
theorem bA_f {s:St}{ns:List Str}:∀i,i≤ns.length→(bA s ns i).L.length=s.L.length+i∧(bA s ns i).G.length=s.G.length+i∧(bA s ns i).D=s.D∧(bA s ns i).P=s.P∧(bA s ns i).S=s.S∧(bA s ns i).U=s.U∧(bA s ns i).k=s.k∧(bA s ns i).w=s.w∧(bA s ns i).c=s.c∧(bA s ns i).f=s.f∧(bA s ns i).e=s.e
 | 0,_=>⟨rfl,rfl,rfl,rfl,rfl,rfl,rfl,rfl,rfl,rfl,rfl⟩
 | i+1,h=>by
  obtain⟨h1,h2,h3⟩:=bA_f (s:=s) (ns:=ns) i (by omega)
  have e:ns[i]?=some (ns[i]'(by omega)):=by simp[show i<ns.length by omega]
  unfold bA
  rw[e]
  refine⟨?_,?_,h3⟩
  ·show((bA s ns i).L++[_]).length=_
   rw[List.length_append,h1];rfl
  ·show((bA s ns i).G++[_]).length=_
   rw[List.length_append,h2];rfl
theorem Zd8 {b:Nat}{ns:List Str}:∀i,i≤ns.length→(mB b ns i).map (·.1)=ns.take i
 | 0,_=>by simp[mB]
 | i+1,h=>by
  have e:ns[i]?=some (ns[i]'(by omega)):=by simp[show i<ns.length by omega]
  rw[mB,e,XL,Zd8 i (by omega),YD,e];rfl
theorem Zy2 {b:Nat}{ns:List Str}:∀{i j:Nat} {x:Str},i≤ns.length→j<i→ns[j]?=some x→(mB b ns i)[j]?=some (x,b+j)
 | 0,_,_,_,h,_=>by omega
 | i+1,j,x,hi,hj,hx=>by
  have e:ns[i]?=some (ns[i]'(by omega)):=by simp[show i<ns.length by omega]
  have hl:(mB b ns i).length=i:=by have:=congrArg List.length (Zd8 (b:=b) (ns:=ns) i (by omega));rw[XI,YM] at this;omega
  rw[mB,e]
  by_cases c:j=i
  ·subst c
   rw[e] at hx;cases hx
   simp[hl]
  ·simp only
   rw[List.getElem?_append_left (by omega)]
   exact Zy2 (by omega) (by omega) hx
theorem Zui {b:Nat}{ns:List Str}:∀{i:Nat},i≤ns.length→∀kv∈mB b ns i,kv.2<b+i
 | 0,_,kv,h=>by simp[mB] at h
 | i+1,hi,kv,h=>by
  have e:ns[i]?=some (ns[i]'(by omega)):=by simp[show i<ns.length by omega]
  rw[mB,e] at h
  simp only[List.mem_append,List.mem_singleton] at h
  rcases h with h | rfl
  ·have:=Zui (i:=i) (by omega) kv h
   omega
  ·show b+i<_;omega
def mkM (s:St)(ns:List Str):Mn:=mB s.L.length ns ns.length
def Zog (s:St)(ns:List Str)(ts:List Tm)(B':Tm):St:={bA s ns ns.length with D:=s.D++ts,h:=.tm B'}
theorem Zlq {M:Mn}:(mT M).map (·.1)=M.map (·.1):=by unfold mT;rw[YE];rfl
section
variable {A:Ad}{C:Hw}{s:St}{Q:WK}{χ:WX}{n f:Nat}
theorem Zz0 {α:Type}{Z:List α}{x:α→Str}{o g:α→Tm}{B B':Tm}(d:Di A)(R:Rn A C s)(h5:Z.length≤5)(hn:(Z.map x).Nodup)(hDL:s.D.length=s.L.length)(hL:s.L.length≤90000)(hg:s.G.length≤90000)
  (hz:∀z∈Z,Pq f (tt (o z)) (mT (mkM s (Z.map x))) (tt (g z))) (hB:Pq f (tt B) (mT (mkM s (Z.map x))) (tt B')) (q:∀C',Fr A C C'→Rn A C' (Zog s (Z.map x) (Z.map g) B')→Q .non C'):wpc pr (n+f+6) Zj0 [.ref (A 0),.tup (Z.map fun z=>.tup [.str (x z),tt (o z)]),tt B] C Q χ:=by
 refine Zjp rfl ?_
 refine fun a ha=>?_
 have hfr:=R.fresh ha
 have R0:=R.ex (Ex.new (o:=.dic []) ha)
 have hnl:(Z.map x).length=Z.length:=XI _
 refine⟨_,rfl,?_⟩
 refine Zbe (fun i τ C'=>∃x4 x5,τ=[some (.ref (A 0)),some (.tup (Z.map fun z=>.tup [.str (x z),tt (o z)])),some (tt B),some (.ref a),x4,x5]∧Fr A C C'∧Rn A C' (bA s (Z.map x) i)∧C' a=some (.dic (dm (mT (mB s.L.length (Z.map x) i))))) ⟨none,none,rfl,(Fr.refl _ _).ex (Ex.new ha),R0,Zn⟩ (fun _ _ _ _ _=>trivial) ?_ ?_
 ·rintro i y τ C' N hx ⟨x4,x5,rfl,hF,R2,hC⟩ hN
  rw[XM] at hx
  cases hzi:Z[i]? with
  | none=>rw[hzi] at hx;cases hx
  | some z=>
   rw[hzi] at hx
   cases hx
   have hi:i<Z.length:=(List.getElem?_eq_some_iff.mp hzi).1
   have hni:(Z.map x)[i]?=some (x z):=by rw[XM,hzi];rfl
   obtain⟨b1,b2,b3⟩:=bA_f (s:=s) (ns:=Z.map x) i (by omega)
   have hkey:(x z)∉(mB s.L.length (Z.map x) i).map (·.1):=fun hm=>by
    rw[Zd8 i (by omega)] at hm
    obtain⟨j,hj⟩:=List.getElem?_of_mem hm
    rw[List.getElem?_take] at hj
    split at hj
    ·rename_i hji
     have:=(List.getElem?_inj (i:=j) (j:=i) (by omega) hn).mp (by rw[hj,hni])
     omega
    ·cases hj
   refine⟨_,rfl,_,_,rfl,_,_,rfl,rfl,?_⟩
   refine⟨_,rfl,_,_,_,_,rfl,R2.r,tb1,Zug,_,rfl,?_⟩
   dsimp only[Zg]
   refine Ztb (n:=n+f+3) (l:=(x z)) d R2 (by omega) (by omega) fun C2 hF2 R3=>?_
   have hC2:=hF2 _ _ hfr hC
   refine⟨_,rfl,_,rfl,_,_,_,rfl,rfl,hC2,?_,?_⟩
   ·have hl:=congrArg List.length (Zd8 (b:=s.L.length) (ns:=Z.map x) i (by omega))
    rw[XI,YM] at hl
    rw[Zvn];unfold mT;rw[XI];exact small63' (by omega)
   ·rw[Zvm (by rw[Zlq];exact hkey),b1]
    refine hN _ _ ⟨_,_,rfl,?_,?_,?_⟩
    ·exact fun b o h1' h=>by
      have:b≠a:=fun e=>by subst e;rw[ha] at h;cases h
      rw[Zx this];exact hF2 _ _ h1' (hF _ _ h1' h)
    ·have e:bA s (Z.map x) (i+1)=Zky (bA s (Z.map x) i) (x z):=by rw[bA,hni]
     rw[e];exact R3.off hfr
    ·have e:mT (mB s.L.length (Z.map x) (i+1))=mT (mB s.L.length (Z.map x) i)++[((x z),atT (s.L.length+i))]:=by rw[mB,hni];unfold mT;rw[XL];rfl
     rw[e];exact Zn
 ·rintro τ C' ⟨x4,x5,rfl,hF,R2,hC⟩
  rw[XI] at R2 hC
  have eM:mB s.L.length (Z.map x) Z.length=mkM s (Z.map x):=by unfold mkM;rw[hnl]
  rw[eM] at hC
  obtain⟨b1,b2,b3,b4,b5,b6,b7,b8,b9,b10,b11⟩:=bA_f (s:=s) (ns:=Z.map x) Z.length (by omega)
  generalize hs2:bA s (Z.map x) Z.length=s2 at R2 b1 b2 b3 b4 b5 b6 b7 b8 b9 b10 b11
  refine⟨_,rfl,?_⟩
  refine Zbe (fun i τ C'=>∃x4 x5,τ=[some (.ref (A 0)),some (.tup (Z.map fun z=>.tup [.str (x z),tt (o z)])),some (tt B),some (.ref a),x4,x5]∧Fr A C C'∧Rn A C' {s2 with D:=s.D++(Z.take i).map g}∧C' a=some (.dic (dm (mT (mkM s (Z.map x)))))) ⟨x4,x5,rfl,hF,by rw[List.take_zero,List.map_nil,YK,←b3];exact R2,hC⟩ (fun _ _ _ _ _=>trivial) ?_ ?_
  ·rintro i y τ C' N hx ⟨x4,x5,rfl,hF,R3,hC⟩ hN
   rw[XM] at hx
   cases hzi:Z[i]? with
   | none=>rw[hzi] at hx;cases hx
   | some z=>
    rw[hzi] at hx
    cases hx
    have hi:i<Z.length:=(List.getElem?_eq_some_iff.mp hzi).1
    have hni:(Z.map x)[i]?=some (x z):=by rw[XM,hzi];rfl
    have hget:Xw (dm (mT (mkM s (Z.map x)))) (.inr (x z))=some (atT (s.L.length+i)):=by
     have hk:((mT (mkM s (Z.map x))).map (·.1)).Nodup:=by rw[Zlq];unfold mkM;rw[Zd8 _ (by omega),List.take_of_length_le (by omega)];exact hn
     exact Zzc (kv:=((x z),atT (s.L.length+i))) (i:=i) hk (by unfold mT mkM;rw[XM,Zy2 (x:=x z) (by omega) (by omega) hni];rfl)
    have hzm:=List.mem_of_getElem? hzi
    refine⟨_,rfl,_,_,rfl,_,_,rfl,rfl,?_⟩
    refine⟨_,rfl,_,_,_,_,rfl,R3.r,tb1,Zuf,?_⟩
    refine⟨_,rfl,_,rfl,_,_,_,_,rfl,rfl,.inl hC,hget,_,Ja,?_⟩
    refine⟨_,rfl,_,rfl,?_⟩
    dsimp only[Zg]
    refine PT.put (hz z hzm).1 (hz z hzm).2.2 (n:=n) (.inl hC) fun C2 hE2=>?_
    have R4:=R3.ex hE2
    have eD:((s.L.length+i:Nat):Int)=((({s2 with D:=s.D++(Z.take i).map g}:St).D.length:Nat):Int):=by
     show _=(((s.D++(Z.take i).map g).length:Nat):Int)
     rw[List.length_append,XI,YM,hDL]
     congr 2;omega
    rw[eD]
    refine Zs8 (n:=n+f+4) d R4 (by show(s.D++(Z.take i).map g).length≤_;rw[List.length_append,XI,YM];omega) fun C3 hF3 R5=>?_
    refine hN _ _ ⟨_,_,rfl,(hF.ex hE2).trans hF3,?_,hF3 _ _ hfr (hE2 _ _ hC)⟩
    have e:s.D++(Z.take (i+1)).map g=s.D++(Z.take i).map g++[g z]:=by rw[YD,hzi,XL,YL];rfl
    rw[e];exact R5
  ·rintro τ C' ⟨x4,x5,rfl,hF,R3,hC⟩
   rw[XI,List.take_length] at R3
   refine⟨_,rfl,_,rfl,?_⟩
   dsimp only[Zg]
   refine PT.put hB.1 hB.2.2 (n:=n) (.inl hC) fun C2 hE2=>?_
   have R4:=R3.ex hE2
   refine gs (χ:=χ) (Zbv (h:=.tm B')) R4 ?_
   have:=q (up C2 (A 0) (.ins "Runner" (Fs A {s2 with D:=s.D++Z.map g,h:=.tm B'}))) ((hF.ex hE2).up 0)
   unfold Zog at this
   rw[hnl,hs2] at this
   exact this (R4.s0 d _)
end
open PySem PySem.Spec PyProof.Rows L2 WL
def Zdq (o:Str)(x y:Int):Hd:=
 if o="<" then .made (if decide (x<y)=true then "Yes" else "No") [] else if o="=" then .made (if (x==y)=true then "Yes" else "No") []
 else .tm (.num ((if o="+" then x+y else if o="-" then x-y else x*y)%big))
def altF (sh:Str)(al:List Al):Option Al:=al.find? fun a=>decide (a.1=sh)
section
variable {C:Hw}{Q:WK}{χ:WX}{n f:Nat}
theorem Zp3 {b:Bool}(q:Q (.tup [.str "made",.str (if b=true then "Yes" else "No"),.tup []]) C):wpc pr (n+1) Zxz [.bl b] C Q χ:=by
 refine Zwd rfl ⟨_,rfl,_,rfl,?_⟩
 cases b
 ·exact Jd ⟨ZNB rfl,ZNB rfl,q⟩
 ·exact J4 ⟨ZNB rfl,ZNB rfl,q⟩
theorem Zos {op:Str}{x y:Int}(hx:0≤x)(hx':x<big)(q:Q (hT (Zdq op x y)) C):wpc pr (n+2) Zpj [.str op,.int x,.int y] C Q χ:=by
 refine Zol rfl ?_
 have p:CPow 10 18:=⟨by decide,by decide,by decide⟩
 have hx'':x<1000000000000000000:=hx'
 unfold Zdq at q
 by_cases c1:op="<"
 ·rw[XY c1] at q
  refine Zdf rfl c1 ⟨_,rfl,_,rfl,?_⟩
  dsimp only[wLt,Zg]
  exact Zp3 q
 rw[XX c1] at q
 refine Xy rfl c1 ?_
 by_cases c2:op="="
 ·rw[XY c2] at q
  refine Zdf rfl c2 ⟨_,rfl,_,rfl,eqI rfl ?_⟩
  dsimp only[Zg]
  exact Zp3 q
 rw[XX c2] at q
 refine Xy rfl c2 ?_
 by_cases c3:op="+"
 ·rw[XY c3] at q
  exact⟨_,rfl,eqSc (v:=true) (by rw[c3];exact XU _) ⟨true,rfl,J4 ⟨_,rfl,_,rfl,_,rfl,p,by decide,ZNB rfl,q⟩⟩⟩
 rw[XX c3] at q
 by_cases c4:op="-"
 ·rw[XY c4] at q
  exact⟨_,rfl,eqSc (v:=false) (by simpa using c3) ⟨false,rfl,Jd ⟨_,rfl,eqSc (v:=true) (by rw[c4];exact beq_self_eq_true _) ⟨true,rfl,J4 ⟨_,rfl,_,rfl,_,rfl,p,by decide,ZNB rfl,q⟩⟩⟩⟩⟩
 rw[XX c4] at q
 exact⟨_,rfl,eqSc (v:=false) (by simpa using c3) ⟨false,rfl,Jd ⟨_,rfl,eqSc (v:=false) (by simpa using c4) ⟨false,rfl,Jd ⟨_,rfl,_,rfl,.inl ⟨by omega,by omega⟩,_,rfl,p,by decide,ZNB rfl,q⟩⟩⟩⟩⟩
theorem Ztc {w:Str}{rest:List T}{al:T}(hw:w≠"made")(q:Q .non C):wpc pr (n+1) Zc0 [.tup (.str w::rest),al] C Q χ:=
 Zcs rfl ⟨_,rfl,_,Yo,neSc (v:=false) (by simpa using hw) ⟨_,rfl,J4 q⟩⟩
theorem Zm7 {sh:Str}{ms:T}{al:List Al}(q:Q (match altF sh al with | some a=>alT a | none=>.non) C):wpc pr (n+1) Zc0 [.tup [.str "made",.str sh,ms],.tup (al.map alT)] C Q χ:=by
 refine Zcs rfl ⟨_,rfl,_,Yo,neSc (v:=true) (XU _) ⟨_,rfl,Jd ⟨_,rfl,?_⟩⟩⟩
 unfold altF at q
 refine Zbe (fun i τ C'=>∃x2,τ=[some (.tup [.str "made",.str sh,ms]),some (.tup (al.map alT)),x2]∧C'=C∧(al.take i).find? (fun a=>decide (a.1=sh))=none) ⟨none,rfl,rfl,rfl⟩ (fun _ _ _ _ _=>trivial) ?_ ?_
 ·rintro i t τ C' N ht ⟨x2,rfl,rfl,hf⟩ hN
  rw[XM] at ht
  cases hz:al[i]? with
  | none=>rw[hz] at ht;cases ht
  | some z=>
   rw[hz] at ht
   cases ht
   have hsplit:al=al.take i++z::al.drop (i+1):=by
    obtain⟨hi,hz'⟩:=List.getElem?_eq_some_iff.mp hz
    rw[←hz',←List.drop_eq_getElem_cons hi,List.take_append_drop]
   have et:al.take (i+1)=al.take i++[z]:=by rw[YD,hz];rfl
   refine⟨_,rfl,_,Yo,_,rfl,_,Ja,?_⟩
   by_cases c:z.1=sh
   ·have:al.find? (fun a=>decide (a.1=sh))=some z:=by rw[hsplit,List.find?_append,hf];simp[c]
    rw[this] at q
    exact eqS (v:=true) (by rw[c];exact XU _) ⟨true,rfl,J4 ⟨_,rfl,q⟩⟩
   ·refine eqS (v:=false) (by simpa using c) ⟨false,rfl,Jd (hN _ _ ⟨_,rfl,rfl,?_⟩)⟩
    rw[et,List.find?_append,hf];simp[c]
 ·rintro τ C' ⟨x2,rfl,rfl,hf⟩
  rw[XI,List.take_length] at hf
  rw[hf] at q
  exact q
theorem Zzg {ns:List Str}{ms:List Nat}(hl:ns.length=ms.length)(hn:ns.Nodup):dzK putT (ns.map Sum.inr) (ms.map atT)=dm (mT (ns.zip ms)):=by
 have key:∀(ns:List Str) (ms:List Nat) (M:Mn),ns.Nodup→(∀x∈ns,x∉M.map (·.1))→((ns.map (Sum.inr:Str→Key)).zip (ms.map atT)).foldl (fun a kv=>putT a kv.1 kv.2) (dm (mT M))=dm (mT (M++ns.zip ms)):=by
  intro ns
  induction ns with
  | nil=>intro ms M _ _;simp
  | cons x ns ih=>
   intro ms M hn hd
   cases ms with
   | nil=>simp
   | cons m ms=>
    rw[YI,YI,List.zip_cons_cons,List.foldl_cons,List.zip_cons_cons]
    have e:putT (dm (mT M)) (.inr x) (atT m)=dm (mT (M++[(x,m)])):=by
     rw[Zvm (by rw[Zlq];exact hd x (by simp))];unfold mT;rw[List.map_append];rfl
    show List.foldl _ (putT (dm (mT M)) (.inr x) (atT m)) _=_
    rw[e,ih ms (M++[(x,m)]) (List.nodup_cons.mp hn).2 (fun y hy=>?_),YL]
    ·rfl
    ·rw[XL,XS,not_or]
     refine⟨hd y (by simp[hy]),?_⟩
     intro h
     simp at h
     subst h
     exact(List.nodup_cons.mp hn).1 hy
 have:=key ns ms [] hn (by simp)
 exact this
theorem Zs6 {sh:Str}{ms:List Nat}{al:List Al}{a:Al}{B':T}(ha:altF sh al=some a)(hl:a.2.1.length=ms.length)(h5:a.2.1.length≤100)(hn:a.2.1.Nodup)(hB:PT f (tt a.2.2) (mT (a.2.1.zip ms)) B')(ht:∃l,B'=.tup l)(q:∀C',Ex C C'→Q B' C'):
  wpc pr (n+f+6) Zuy [hT (.made sh ms),.tup (al.map alT)] C Q χ:=by
 refine Zsl rfl ⟨_,rfl,_,rfl,?_⟩
 dsimp only[Zg]
 refine Zm7 (n:=n+f+4) ?_
 rw[ha]
 refine⟨_,rfl,rfl,false,rfl,Jd ⟨_,rfl,_,Zbt,?_⟩⟩
 refine⟨_,rfl,_,Ja,_,rfl,_,Zbt,?_⟩
 refine⟨a.2.1,ms.map atT,rfl,by rw[XI];exact hl,by omega,fun p hp=>?_⟩
 rw[Zzg hl hn]
 dsimp only[Zg]
 exact PT.put (n:=n) (t':=B') hB ht (.inl Zn) fun C' hE=>q C' ((Ex.new hp).trans hE)
def isFn:Hd→Bool
 | .tm (.fn _ _)=>true
 | _=>false
def isNm:Hd→Bool
 | .tm (.num _)=>true
 | _=>false
def fitF (h:Hd):Fm→Bool
 | .give _=>isFn h
 | .pick al=>match h with | .made c _=>(altF c al).isSome | _=>false
 | .left _ _=>isNm h
 | .right _ _=>isNm h
 | .first _=>true
 | .back _=>true
theorem Z1n {h:Hd}{w:Str}{r:List T}(e:hT h=.tup (.str w::r)):(w=="fun")=isFn h:=by
 cases h with
 | no=>cases e
 | made c ms=>unfold hT at e;injection e with e;injection e with e _;injection e with e;subst e;show _=false;decide+kernel
 | tm t=>cases t<;>(unfold hT tt at e;injection e with e;injection e with e _;injection e with e;subst e;first | (show _=false;decide+kernel) | (show _=true;decide+kernel))
theorem Zut {h:Hd}{w:Str}{r:List T}(e:hT h=.tup (.str w::r)):(w=="number")=isNm h:=by
 cases h with
 | no=>cases e
 | made c ms=>unfold hT at e;injection e with e;injection e with e _;injection e with e;subst e;show _=false;decide+kernel
 | tm t=>cases t<;>(unfold hT tt at e;injection e with e;injection e with e _;injection e with e;subst e;first | (show _=false;decide+kernel) | (show _=true;decide+kernel))
theorem Zmy {t:Tm}{w:Str}{r:List T}(e:tt t=.tup (.str w::r)):w≠"made":=by
 cases t<;>(unfold tt at e;injection e with e;injection e with e _;injection e with e;subst e;decide+kernel)
theorem Zu4 {a:Str}{r:List T}{v:T}{X:WE}{B:WS}{D:We}{τ:Sw}(q:X [some v,some (.tup (.str a::r))] C D.rt D.xc):Zr (sIf (tBl (Zf wEq (Zf Zq (Zd 1) (eC (.int 0))) (eC (.str a)))) (Ym X) Yb) B D [some v,some (.tup (.str a::r))] C:=
 ⟨_,rfl,_,Yo,eqSc (v:=true) (XU _) ⟨true,rfl,J4 q⟩⟩
theorem Zf5 {a z:Str}{r:List T}{v:T}{X B:WS}{D:We}(h:(z==a)=false)(q:B D [some v,some (.tup (.str z::r))] C):Zr (sIf (tBl (Zf wEq (Zf Zq (Zd 1) (eC (.int 0))) (eC (.str a)))) X Yb) B D [some v,some (.tup (.str z::r))] C:=
 ⟨_,rfl,_,Yo,eqSc (v:=false) h ⟨false,rfl,Jd q⟩⟩
theorem Zzy {h:Hd}{fr:Fm}(hn:h≠.no)(q:Q (.bl (fitF h fr)) C):wpc pr (n+2) Z1o [hT h,fmT fr] C Q χ:=by
 refine Zzo rfl ?_
 obtain⟨w,r,e⟩:=Zpl hn
 cases fr with
 | give t=>
  have q':Q (.bl (isFn h)) C:=q
  rw[←Z1n e] at q'
  rw[e]
  exact Zu4 (τ:=[]) ⟨_,rfl,_,Yo,eqSc rfl q'⟩
 | pick al=>
  refine Zf5 (by decide+kernel) (Zu4 (τ:=[]) ⟨_,rfl,_,rfl,_,Ja,?_⟩)
  dsimp only[Zg]
  cases h with
  | no=>exact absurd rfl hn
  | made c ms=>
   refine Zm7 (n:=n) ?_
   have q':Q (.bl (altF c al).isSome) C:=q
   cases ha:altF c al with
   | none=>rw[ha] at q';exact⟨rfl,q'⟩
   | some a=>rw[ha] at q';exact⟨rfl,q'⟩
  | tm t=>
   have hw:=Zmy e
   rw[e]
   exact Ztc hw ⟨rfl,q⟩
 | left o t=>
  have q':Q (.bl (isNm h)) C:=q
  rw[←Zut e] at q'
  rw[e]
  exact Zf5 (by decide+kernel) (Zf5 (by decide+kernel) ⟨_,rfl,_,Yo,eqSc (v:=true) (XU _) ⟨true,rfl,J4 (J4 ⟨_,rfl,_,Yo,eqSc rfl q'⟩)⟩⟩)
 | right o x=>
  have q':Q (.bl (isNm h)) C:=q
  rw[←Zut e] at q'
  rw[e]
  exact Zf5 (by decide+kernel) (Zf5 (by decide+kernel) ⟨_,rfl,_,Yo,eqSc (v:=false) (by decide+kernel) ⟨false,rfl,Jd ⟨_,rfl,_,Yo,eqSc (v:=true) (XU _) ⟨true,rfl,J4 ⟨_,rfl,_,Yo,eqSc rfl q'⟩⟩⟩⟩⟩)
 | first t=>exact Zf5 (by decide+kernel) (Zf5 (by decide+kernel) ⟨_,rfl,_,Yo,eqSc (v:=false) (by decide+kernel) ⟨false,rfl,Jd ⟨_,rfl,_,Yo,eqSc (v:=false) (by decide+kernel) ⟨false,rfl,Jd q⟩⟩⟩⟩)
 | back i=>exact Zf5 (by decide+kernel) (Zf5 (by decide+kernel) ⟨_,rfl,_,Yo,eqSc (v:=false) (by decide+kernel) ⟨false,rfl,Jd ⟨_,rfl,_,Yo,eqSc (v:=false) (by decide+kernel) ⟨false,rfl,Jd q⟩⟩⟩⟩)
end
open PySem PySem.Spec PyProof.Rows L2 WL
abbrev Xx (v:Int):Str:=Str.ofString (toString v)
def pcs:Hd→Int→List Pc
 | .tm (.num v),_=>[.word (Xx v)]
 | .tm (.fn _ _),_=>[.word "fun"]
 | .made c [],_=>[.word c]
 | .made c ms,D=>.word ("("++c)::(ms.flatMap fun i=>[.word " ",.part D (.at_ i)])++[.word ")"]
 | _,_=>[]
def tnS (s:St):St:=match s.S.getLast? with
 | none=>{s with e:=.told (Txt.join "" s.U)}
 | some (.word x)=>{s with S:=s.S.dropLast,U:=s.U++[x]}
 | some (.part D t)=>if D≤0 then {s with S:=s.S.dropLast,U:=s.U++[("?":Str)]} else {s with S:=s.S.dropLast,w:=D,h:=.tm t}
def tvS (s:St):St:={s with S:=s.S++(pcs s.h (s.w-1)).reverse,h:=.no}
def lbl (s:St)(i:Nat):Str:=(s.L[i]?).getD ""
def bkS (s:St)(i:Nat):St:={s with P:=s.P.dropLast,G:=s.G++[nt s "back" i (lbl s i)]}
def isSt:Hd→Option Str
 | .tm (.stop x)=>some x
 | _=>none
def isBk:Fm→Option Nat
 | .back i=>some i
 | _=>none
def enB:En→Bool
 | .no=>true
 | _=>false
def noB:Hd→Bool
 | .no=>true
 | _=>false
def one (s:St):Option St:=
 if enB s.e=true then
  if noB s.h=true then some (tnS s)
  else match isSt s.h with
  | some x=>some {s with e:=.stop x}
  | none=>if isV s.h=true then
    match s.P.getLast? with
    | none=>some (tvS s)
    | some f=>match isBk f with
     | some i=>some (bkS s i)
     | none=>if fitF s.h f=true then none else some {s with e:=.stuck}
   else none
 else none
def mu (s:St):Nat:=if enB s.e=true then(if noB s.h=true then s.S.length+2 else if isV s.h=true then s.P.length+s.S.length+12 else 1) else 0
def stl:Nat→St→St
 | 0,s=>s
 | m+1,s=>match one s with | some s'=>stl m s' | none=>s
def settled (s:St):St:=stl (mu s) s
def goS (s:St)(h:Hd)(f:Fm):St:={s with P:=s.P++[f],h:=h}
def apS (s:St):Tm→St
 | .call a b=>goS s (.tm a) (.give b)
 | .does o a b=>goS s (.tm a) (.left o b)
 | .ch e n cs ns bs=>goS s (.tm e) (.pick ((List.finRange n).map fun i=>(cs i,ns i,bs i)))
 | .first a b=>goS {s with f:=s.f+1} (.tm a) (.first b)
 | .lt n xs ts b=>Zog s (nms xs) ((List.finRange n).map fun i=>pu (mo (mkM s (nms xs))) (ts i)) (pu (mo (mkM s (nms xs))) b)
 | .shp0 c=>Zfy s c []
 | .shp2 c a b=>Zfy s c [a,b]
 | .at_ i=>{s with P:=s.P++[.back i],h:=.tm ((s.D[i]?).getD (.nm "")),G:=s.G++[nt s "enter" i (lbl s i)]}
 | _=>s
def usS (s:St)(h:Hd):Fm→St
 | .give t=>match h with | .tm (.fn x b)=>{mkS s x t with h:=.tm (pu (mo [(x,mkN s t)]) b)} | _=>s
 | .pick al=>match h with | .made c ms=>(match altF c al with | some a=>{s with h:=.tm (pu (mo (a.2.1.zip ms)) a.2.2)} | none=>s) | _=>s
 | .left o t=>match h with | .tm (.num v)=>goS s (.tm t) (.right o v) | _=>s
 | .right o x=>match h with | .tm (.num v)=>{s with h:=Zdq o x v} | _=>s
 | .first t=>{s with h:=.tm t}
 | .back _=>s
def stp (s:St):St:=if isV s.h=true then(match s.P.getLast? with | some f=>usS {s with P:=s.P.dropLast} s.h f | none=>s) else(match s.h with | .tm t=>apS s t | _=>s)
def adv (m:Int):Nat→St→St
 | 0,s=>s
 | n+1,s=>if enB s.e=true∧s.k<m then adv m n (settled (stp {s with k:=s.k+1})) else s
def HOk (L d:Nat):Hd→Prop
 | .no=>True
 | .tm t=>ok L d [] t
 | .made c ms=>cl c∧ms.length=ar c∧∀i∈ms,i<L
def AOk (L d:Nat)(a:Al):Prop:=a.2.1.length=ar a.1∧a.2.1.Nodup∧ok L d a.2.1 a.2.2
def FOk (L d:Nat):Fm→Prop
 | .give t=>ok L d [] t
 | .pick al=>∀a∈al,AOk L d a
 | .left _ t=>ok L d [] t
 | .right _ x=>0≤x∧x<big
 | .first t=>ok L d [] t
 | .back i=>i<L
def POk (L d:Nat):Pc→Prop
 | .word x=>x.length≤100
 | .part _ t=>ok L d [] t∧isVt t=false
structure Ok (d:Nat)(s:St):Prop where
 h:HOk s.L.length d s.h
 hp:s.h=.no→s.P=[]
 P:∀f∈s.P,FOk s.L.length d f
 S:∀p∈s.S,POk s.L.length d p
 U:∀x∈s.U,x.length≤100
 D:s.D.length=s.L.length
 D':∀t∈s.D,ok s.L.length d [] t
 k0:0≤s.k∧s.k≤1000
 nL:(s.L.length:Int)≤5*s.k
 nG:(s.G.length:Int)+(s.P.length:Int)≤6*s.k
 nU:(s.U.length:Int)+(s.S.length:Int)+(if isV s.h=true then 6 else 0)≤6*s.k+8
theorem FOk.lift {L L' d:Nat}(hL:L≤L'){f:Fm}(q:FOk L d f):FOk L' d f:=by
 cases f with
 | give t=>exact Xh hL q (XE _)
 | pick al=>exact fun a ha=>⟨(q a ha).1,(q a ha).2.1,Xh hL (q a ha).2.2 (XE _)⟩
 | left o t=>exact Xh hL q (XE _)
 | right o x=>exact q
 | first t=>exact Xh hL q (XE _)
 | back i=>exact XG q hL
theorem POk.lift {L L' d:Nat}(hL:L≤L'){p:Pc}(q:POk L d p):POk L' d p:=by
 cases p with
 | word x=>exact q
 | part D t=>exact⟨Xh hL q.1 (XE _),q.2⟩
theorem Zdz {α:Type}{l:List α}{x:α}(h:l.getLast?=some x):x∈l:=List.mem_of_getLast? h
theorem Zdb {α:Type}{l:List α}{x:α}(h:l.getLast?=some x):l=l.dropLast++[x]:=by
 have hn:l≠[]:=fun e=>by subst e;cases h
 rw[List.getLast?_eq_some_getLast hn] at h
 cases h
 exact(List.dropLast_concat_getLast hn).symm
theorem Zgu {α:Type}{l:List α}(h:l.getLast?=none):l=[]:=List.getLast?_eq_none_iff.mp h
theorem Zi1 {α:Type}{l:List α}{x:α}(h:l.getLast?=some x):l.length=l.dropLast.length+1:=by
 have:=congrArg List.length (Zdb h)
 rw[List.length_append] at this
 exact this
theorem Zdx {α:Type}{l:List α}{x:α}(h:x∈l.dropLast):x∈l:=(List.dropLast_sublist l).subset h
theorem Zll {v:Int}(h0:0≤v)(h1:v<big):(Xx v).length≤100:=by
 obtain⟨m,rfl⟩:∃m:Nat,v=m:=⟨v.toNat,by omega⟩
 show(Str.ofString (toString (Int.ofNat m))).length≤100
 rw[text_ofNat]
 show((Nat.toDigits 10 m).map Char.toNat).toArray.size≤100
 rw[XJ,XI]
 have:(Nat.toDigits 10 m).length≤18:=digits10_le (by decide) (by simp only[big] at h1;omega)
 omega
theorem Ztz {L d:Nat}{h:Hd}{D:Int}(q:HOk L d h):(∀p∈pcs h D,POk L d p)∧(pcs h D).length≤6:=by
 have h1:("(":Str).length=1:=by decide+kernel
 have h2:(" ":Str).length=1:=by decide+kernel
 have h3:(")":Str).length=1:=by decide+kernel
 have h4:("fun":Str).length=3:=by decide+kernel
 cases h with
 | no=>exact⟨fun p hp=>(by cases hp),by show 0≤6;omega⟩
 | tm t=>
  cases t with
  | num v=>exact⟨fun p hp=>by rw[XQ.mp hp];exact Zll q.1 q.2,by show 1≤6;omega⟩
  | fn x b=>exact⟨fun p hp=>by rw[XQ.mp hp];show("fun":Str).length≤100;omega,by show 1≤6;omega⟩
  | _=>exact⟨fun p hp=>(by cases hp),by show 0≤6;omega⟩
 | made c ms=>
  obtain⟨⟨q0,q1⟩,q2,q3⟩:=q
  have hl:ms.length≤2:=by rw[q2];exact Zoi c
  have hc:("("++c:Str).length=("(":Str).length+c.length:=YC _ _
  match ms,q2,q3,hl with
  | [],_,_,_=>exact⟨fun p hp=>by rw[XQ.mp hp];show c.length≤100;omega,by show 1≤6;omega⟩
  | [a],_,q3,_=>
   refine⟨fun p hp=>?_,by show 4≤6;omega⟩
   simp only[pcs,List.flatMap_cons,List.flatMap_nil,List.append_nil,List.cons_append,List.nil_append,List.mem_cons,List.not_mem_nil,or_false] at hp
   rcases hp with rfl | rfl | rfl | rfl
   ·show("("++c:Str).length≤100;omega
   ·show(" ":Str).length≤100;omega
   ·exact⟨q3 a (by simp),rfl⟩
   ·show(")":Str).length≤100;omega
  | [a,b],_,q3,_=>
   refine⟨fun p hp=>?_,by show 6≤6;omega⟩
   simp only[pcs,List.flatMap_cons,List.flatMap_nil,List.append_nil,List.cons_append,List.nil_append,List.mem_cons,List.not_mem_nil,or_false] at hp
   rcases hp with rfl | rfl | rfl | rfl | rfl | rfl
   ·show("("++c:Str).length≤100;omega
   ·show(" ":Str).length≤100;omega
   ·exact⟨q3 a (by simp),rfl⟩
   ·show(" ":Str).length≤100;omega
   ·exact⟨q3 b (by simp),rfl⟩
   ·show(")":Str).length≤100;omega
theorem Zim {d:Nat}{s s':St}(q:Ok d s)(h:one s=some s'):Ok d s'∧mu s'<mu s∧s'.k=s.k:=by
 unfold one at h
 split at h
 next he=>
  have hm:mu s=if noB s.h=true then s.S.length+2 else if isV s.h=true then s.P.length+s.S.length+12 else 1:=by unfold mu;rw[XY he]
  split at h
  next hno=>
   cases h
   have hh:s.h=.no:=by revert hno;cases s.h<;>simp[noB]
   have hP:=q.hp hh
   rw[XY hno] at hm
   have hv:isV s.h=false:=by rw[hh];rfl
   have hU:=q.nU
   rw[XX (by rw[hv];decide)] at hU
   unfold tnS
   cases hl:s.S.getLast? with
   | none=>exact⟨⟨q.h,q.hp,q.P,q.S,q.U,q.D,q.D',q.k0,q.nL,q.nG,q.nU⟩,by rw[hm];show 0<_;omega,rfl⟩
   | some p=>
    have hlen:=Zi1 hl
    have hp:=q.S p (Zdz hl)
    cases p with
    | word x=>
     refine⟨⟨q.h,q.hp,q.P,fun y hy=>q.S y (Zdx hy),fun y hy=>?_,q.D,q.D',q.k0,q.nL,q.nG,?_⟩,?_,rfl⟩
     ·rcases XS.mp hy with hy | hy
      ·exact q.U y hy
      ·rw[XQ.mp hy];exact hp
     ·show(((s.U++[x]).length:Nat):Int)+_+(if isV s.h=true then 6 else 0)≤_
      rw[XX (by rw[hv];decide),List.length_append]
      simp only[List.length_cons,List.length_nil]
      omega
     ·rw[hm];unfold mu;show(if enB s.e=true then(if noB s.h=true then s.S.dropLast.length+2 else _) else _)<_;rw[XY he,XY hno];omega
    | part D t=>
     simp only
     split
     ·refine⟨⟨q.h,q.hp,q.P,fun y hy=>q.S y (Zdx hy),fun y hy=>?_,q.D,q.D',q.k0,q.nL,q.nG,?_⟩,?_,rfl⟩
      ·rcases XS.mp hy with hy | hy
       ·exact q.U y hy
       ·rw[XQ.mp hy];exact XN (Nat.le_of_eq (by decide+kernel:("?":Str).length=1)) (by omega)
      ·show(((s.U++[("?":Str)]).length:Nat):Int)+_+(if isV s.h=true then 6 else 0)≤_
       rw[XX (by rw[hv];decide),List.length_append]
       simp only[List.length_cons,List.length_nil]
       omega
      ·rw[hm];unfold mu;show(if enB s.e=true then(if noB s.h=true then s.S.dropLast.length+2 else _) else _)<_;rw[XY he,XY hno];omega
     ·have hvt:isV (.tm t)=false:=hp.2
      refine⟨⟨hp.1,fun z=>(by cases z),q.P,fun y hy=>q.S y (Zdx hy),q.U,q.D,q.D',q.k0,q.nL,q.nG,?_⟩,?_,rfl⟩
      ·show _+_+(if isV (.tm t)=true then 6 else 0)≤_
       rw[XX (by rw[hvt];decide)]
       simp only
       omega
      ·rw[hm];unfold mu;show(if enB s.e=true then(if false=true then _ else if isV (.tm t)=true then _ else 1) else _)<_;rw[XY he,XX (by decide),XX (by rw[hvt];decide)];omega
  next hno=>
   rw[XX hno] at hm
   have hnh:s.h≠.no:=fun e=>hno (by rw[e];rfl)
   split at h
   next x hx=>
    cases h
    exact⟨⟨q.h,q.hp,q.P,q.S,q.U,q.D,q.D',q.k0,q.nL,q.nG,q.nU⟩,by rw[hm];show 0<_;split<;>omega,rfl⟩
   next hx=>
    split at h
    next hv=>
     rw[XY hv] at hm
     have hU:=q.nU
     rw[XY hv] at hU
     split at h
     next hl=>
      cases h
      have hP:=Zgu hl
      obtain⟨c1,c2⟩:=Ztz (D:=s.w-1) q.h
      refine⟨⟨trivial,fun _=>hP,q.P,fun y hy=>?_,q.U,q.D,q.D',q.k0,q.nL,q.nG,?_⟩,?_,rfl⟩
      ·rcases XS.mp hy with hy | hy
       ·exact q.S y hy
       ·exact c1 y (List.mem_reverse.mp hy)
      ·show _+(((s.S++(pcs s.h (s.w-1)).reverse).length:Nat):Int)+(if false=true then 6 else 0)≤_
       rw[XX (by decide),List.length_append,List.length_reverse]
       simp only[tvS]
       omega
      ·rw[hm];unfold mu tvS;show(if enB s.e=true then(s.S++(pcs s.h (s.w-1)).reverse).length+2 else _)<_;rw[XY he,List.length_append,List.length_reverse];omega
     next f hl=>
      have hlen:=Zi1 hl
      have hf:=q.P f (Zdz hl)
      split at h
      next i hi=>
       cases h
       have hG:=q.nG
       refine⟨⟨q.h,fun z=>absurd z hnh,fun y hy=>q.P y (Zdx hy),q.S,q.U,q.D,q.D',q.k0,q.nL,?_,q.nU⟩,?_,rfl⟩
       ·show(((s.G++[nt s "back" i (lbl s i)]).length:Nat):Int)+((s.P.dropLast.length:Nat):Int)≤6*s.k
        rw[List.length_append]
        simp only[List.length_cons,List.length_nil]
        omega
       ·rw[hm];unfold mu bkS;show(if enB s.e=true then(if noB s.h=true then _ else if isV s.h=true then s.P.dropLast.length+s.S.length+12 else 1) else _)<_;rw[XY he,XX hno,XY hv];omega
      next hi=>
       split at h
       ·cases h
       ·cases h
        exact⟨⟨q.h,q.hp,q.P,q.S,q.U,q.D,q.D',q.k0,q.nL,q.nG,q.nU⟩,by rw[hm];show 0<_;omega,rfl⟩
    next=>cases h
 next=>cases h
theorem Zla {d:Nat}:∀(m:Nat) {s:St},Ok d s→mu s≤m→Ok d (stl m s)∧one (stl m s)=none∧(stl m s).k=s.k
 | 0,s,q,hm=>by
  cases h:one s with
  | none=>exact⟨q,h,rfl⟩
  | some s'=>have:=(Zim q h).2.1;omega
 | m+1,s,q,hm=>by
  cases h:one s with
  | none=>unfold stl;rw[h];exact⟨q,h,rfl⟩
  | some s'=>
   obtain⟨q',hl,hk⟩:=Zim q h
   have:=Zla m q' (by omega)
   unfold stl;rw[h]
   exact⟨this.1,this.2.1,this.2.2.trans hk⟩
open PySem PySem.Spec PyProof.Rows L2 WL
theorem due {s:St}(he:enB s.e=true)(h:one s=none):noB s.h=false∧isSt s.h=none∧(isV s.h=true→∃f,s.P.getLast?=some f∧isBk f=none∧fitF s.h f=true):=by
 unfold one at h
 rw[XY he] at h
 split at h
 ·cases h
 next hno=>
  refine⟨by simpa using hno,?_⟩
  split at h
  ·cases h
  next hs=>
   refine⟨hs,fun hv=>?_⟩
   rw[XY hv] at h
   split at h
   ·cases h
   next f hl=>
    split at h
    ·cases h
    next hb=>
     split at h
     next hf=>exact⟨f,hl,hb,hf⟩
     ·cases h
structure Pre (d:Nat)(s:St):Prop where
 h:HOk s.L.length d s.h
 P:∀f∈s.P,FOk s.L.length d f
 S:∀p∈s.S,POk s.L.length d p
 U:∀x∈s.U,x.length≤100
 D:s.D.length=s.L.length
 D':∀t∈s.D,ok s.L.length d [] t
 k0:0≤s.k∧s.k≤1000
 nL:(s.L.length:Int)+5≤5*s.k
 nG:(s.G.length:Int)+(s.P.length:Int)+6≤6*s.k
 nU:(s.U.length:Int)+(s.S.length:Int)+6≤6*s.k+8
theorem Ok.pre {d:Nat}{s:St}(q:Ok d s)(hk:s.k<1000):Pre d {s with k:=s.k+1}:=by
 have h1:=q.k0
 have h2:=q.nL
 have h3:=q.nG
 have h4:=q.nU
 refine⟨q.h,q.P,q.S,q.U,q.D,q.D',⟨?_,?_⟩,?_,?_,?_⟩
 ·show 0≤s.k+1;omega
 ·show s.k+1≤1000;omega
 ·show _≤5*(s.k+1);simp only;omega
 ·show _≤6*(s.k+1);simp only;omega
 ·show _≤6*(s.k+1)+8
  simp only
  split at h4<;>omega
theorem Zgn {d:Nat}{s s':St}(p:Pre d s)(new:List Tm)(ha:new.length≤5)(hL:s'.L.length=s.L.length+new.length)(hD:s'.D=s.D++new)(hok:∀t∈new,ok s'.L.length d [] t)(hP:∀f∈s'.P,FOk s'.L.length d f)
  (hS:s'.S=s.S) (hU:s'.U=s.U) (hk:s'.k=s.k) (hG:s'.G.length+s'.P.length≤s.G.length+s.P.length+6) (hh:HOk s'.L.length d s'.h) (hne:s'.h≠.no):Ok d s':=by
 have h2:=p.nL
 have h3:=p.nG
 have h4:=p.nU
 have hle:s.L.length≤s'.L.length:=by omega
 refine⟨hh,fun z=>absurd z hne,hP,fun y hy=>(p.S y (hS▸hy)).lift hle,fun y hy=>p.U y (hU▸hy),?_,fun t ht=>?_,by rw[hk];exact p.k0,?_,?_,?_⟩
 ·rw[hD,List.length_append,hL,p.D]
 ·rw[hD] at ht
  rcases XS.mp ht with ht | ht
  ·exact Xh hle (p.D' t ht) (XE _)
  ·exact hok t ht
 ·rw[hk];omega
 ·rw[hk];omega
 ·rw[hS,hU,hk];split<;>omega
theorem Zo9 {M:Mn}{x:Str}(h:x∈M.map (·.1)):mo M x≠none:=by
 unfold mo
 intro e
 rw[Option.map_eq_none_iff,List.find?_eq_none] at e
 obtain⟨z,hz,rfl⟩:=XR.mp h
 exact e z hz (by simp)
theorem Zo8 {M:Mn}{x:Str}{i:Nat}(h:mo M x=some i):∃z∈M,z.2=i:=by
 unfold mo at h
 obtain⟨z,hz,rfl⟩:=Option.map_eq_some_iff.mp h
 exact⟨z,List.mem_of_find?_eq_some hz,rfl⟩
theorem Zuc {s:St}{ns:List Str}:(mkM s ns).map (·.1)=ns:=by unfold mkM;rw[Zd8 _ (XE _),List.take_length]
theorem Zxp {s:St}{ns:List Str}{x:Str}{i:Nat}(h:mo (mkM s ns) x=some i):i<s.L.length+ns.length:=by
 obtain⟨z,hz,rfl⟩:=Zo8 h
 exact Zui (XE _) z hz
theorem Znw {d:Nat}{s:St}{h:Hd}{f:Fm}(p:Pre d s)(hh:HOk s.L.length d h)(hne:h≠.no)(hf:FOk s.L.length d f):Ok d (goS s h f):=by
 refine Zgn p [] (by simp) rfl (by simp[goS]) (fun t ht=>by cases ht) (fun y hy=>?_) rfl rfl rfl ?_ hh hne
 ·rcases XS.mp hy with hy | hy
  ·exact p.P y hy
  ·rw[XQ.mp hy];exact hf
 ·show s.G.length+(s.P++[f]).length≤_
  rw[List.length_append];simp only[List.length_cons,List.length_nil];omega
theorem Zbs {L d:Nat}{Γ:List Str}{t:Tm}(h:ok L (d-1) Γ t):ok L d Γ t:=Xh (XE _) h (by omega)
theorem Zym {d n:Nat}{s:St}{xs:Fin n→Str}{ts:Fin n→Tm}{b:Tm}(p:Pre d s)(h:ok s.L.length d [] (.lt n xs ts b)):Ok d (apS s (.lt n xs ts b)):=by
 obtain⟨h1,⟨h2,h3,h4,h5⟩,h6,h7⟩:=h
 have hl:(nms xs).length=n:=by simp
 obtain⟨b1,b2,b3,b4,b5,b6,b7,b8,b9,b10,b11⟩:=bA_f (s:=s) (ns:=nms xs) (nms xs).length (XE _)
 have hcov:∀x∈nms xs++[],mo (mkM s (nms xs)) x≠none∨x∈([]:List Str):=fun x hx=>.inl (Zo9 (by rw[Zuc];simpa using hx))
 have hval:∀x i,mo (mkM s (nms xs)) x=some i→i<s.L.length+n:=fun x i e=>by have:=Zxp e;rw[hl] at this;exact this
 have hL:(apS s (.lt n xs ts b)).L.length=s.L.length+n:=by show(bA s (nms xs) (nms xs).length).L.length=_;rw[b1,hl]
 refine Zgn p ((List.finRange n).map fun i=>pu (mo (mkM s (nms xs))) (ts i)) (by simp;omega) (by rw[hL];simp) rfl (fun t ht=>?_) (fun y hy=>?_) b5 b6 b7 ?_ ?_ (by intro z;cases z)
 ·obtain⟨i,_,rfl⟩:=XR.mp ht
  rw[hL]
  exact Zp6 (Xh (by omega) (Zbs (h6 i)) (XE _)) hval hcov
 ·rw[hL]
  have hy':y∈s.P:=by have:(apS s (.lt n xs ts b)).P=s.P:=b4;rw[this] at hy;exact hy
  exact(p.P y hy').lift (by omega)
 ·show(bA s (nms xs) (nms xs).length).G.length+(bA s (nms xs) (nms xs).length).P.length≤_
  rw[b2,b4,hl];omega
 ·rw[hL]
  exact Zp6 (Xh (by omega) (Zbs h7) (XE _)) hval hcov
theorem mk_f {s:St}{l:Str}{t:Tm}:∃new,(mkS s l t).D=s.D++new∧(mkS s l t).L.length=s.L.length+new.length∧new.length≤1∧(∀u∈new,u=t)∧(mkS s l t).G.length=s.G.length+new.length∧(mkS s l t).P=s.P∧(mkS s l t).S=s.S∧(mkS s l t).U=s.U∧(mkS s l t).k=s.k∧((∀i,t=.at_ i→i<s.L.length)→mkN s t<(mkS s l t).L.length):=by
 unfold mkS
 cases c:isM t with
 | true=>
  rw[XY rfl]
  refine⟨[],by simp,by simp,by simp,by simp,by simp,rfl,rfl,rfl,rfl,fun h=>?_⟩
  cases t<;>first | exact h _ rfl | cases c
 | false=>
  rw[XX (by decide)]
  refine⟨[t],rfl,?_,by simp,by simp,?_,rfl,rfl,rfl,rfl,fun h=>?_⟩
  ·show(s.L++[l]).length=_;simp
  ·show(s.G++[_]).length=_;simp
  ·rw[Zln c];show _<(s.L++[l]).length;simp
theorem sA_f {s:St}{c:Str}{ts:List Tm}(hts:∀t∈ts,∀i,t=.at_ i→i<s.L.length):∀i,i≤ts.length→∃new,(sA s c ts i).D=s.D++new∧(sA s c ts i).L.length=s.L.length+new.length∧new.length≤i∧(∀u∈new,u∈ts)∧(sA s c ts i).G.length=s.G.length+new.length∧(sA s c ts i).P=s.P∧(sA s c ts i).S=s.S∧(sA s c ts i).U=s.U∧(sA s c ts i).k=s.k∧(mA s c ts i).length=i∧∀j∈mA s c ts i,j<(sA s c ts i).L.length
 | 0,_=>⟨[],by simp[sA],by simp[sA],by simp,by simp,by simp[sA],rfl,rfl,rfl,rfl,rfl,fun j hj=>by cases hj⟩
 | i+1,hi=>by
  obtain⟨new,a1,a2,a3,a4,a5,a6,a7,a8,a9,a10,a11⟩:=sA_f (c:=c) hts i (by omega)
  have e:ts[i]?=some (ts[i]'(by omega)):=by simp[show i<ts.length by omega]
  have hm:ts[i]'(by omega)∈ts:=YN _
  generalize ts[i]'(by omega)=t at e hm
  obtain⟨nw,b1,b2,b3,b4,b5,b6,b7,b8,b9,b10⟩:=mk_f (s:=sA s c ts i) (l:=lab c (i+1)) (t:=t)
  have es:sA s c ts (i+1)=mkS (sA s c ts i) (lab c (i+1)) t:=by rw[sA,e]
  have em:mA s c ts (i+1)=mA s c ts i++[mkN (sA s c ts i) t]:=by rw[mA,e]
  rw[es,em]
  refine⟨new++nw,by rw[b1,a1,YL],by rw[b2,a2,List.length_append];omega,by rw[List.length_append];omega,fun u hu=>?_,by rw[b5,a5,List.length_append];omega,b6.trans a6,b7.trans a7,b8.trans a8,b9.trans a9,by rw[List.length_append,a10];rfl,fun j hj=>?_⟩
  ·rcases XS.mp hu with hu | hu
   ·exact a4 u hu
   ·rw[b4 u hu];exact hm
  ·rcases XS.mp hj with hj | hj
   ·have:=a11 j hj;rw[b2];omega
   ·rw[XQ.mp hj]
    exact b10 fun k hk=>by have:=hts t hm k hk;rw[a2];omega
theorem Zqd {d:Nat}{s:St}{c:Str}{ts:List Tm}(p:Pre d s)(hc:cl c)(ha:ts.length=ar c)(h:∀t∈ts,ok s.L.length d [] t):Ok d (Zfy s c ts):=by
 have h2:ts.length≤2:=by rw[ha];exact Zoi c
 have e1:(Y1 s c).L=s.L:=by unfold Y1;split<;>rfl
 have e2:(Y1 s c).D=s.D:=by unfold Y1;split<;>rfl
 have e3:(Y1 s c).G=s.G:=by unfold Y1;split<;>rfl
 have e4:(Y1 s c).P=s.P:=by unfold Y1;split<;>rfl
 have e5:(Y1 s c).S=s.S:=by unfold Y1;split<;>rfl
 have e6:(Y1 s c).U=s.U:=by unfold Y1;split<;>rfl
 have e7:(Y1 s c).k=s.k:=by unfold Y1;split<;>rfl
 obtain⟨new,a1,a2,a3,a4,a5,a6,a7,a8,a9,a10,a11⟩:=sA_f (s:=Y1 s c) (c:=c) (ts:=ts) (fun t ht i e=>by rw[e1];have:=h t ht;rw[e] at this;exact this) ts.length (XE _)
 rw[e1] at a2
 rw[e2] at a1
 rw[e3] at a5
 rw[e4] at a6
 have hL:(Zfy s c ts).L.length=s.L.length+new.length:=a2
 refine Zgn p new (by omega) hL a1 (fun t ht=>?_) (fun y hy=>?_) (a7.trans e5) (a8.trans e6) (a9.trans e7) ?_ ?_ (by intro z;cases z)
 ·rw[hL];exact Xh (by omega) (h t (a4 t ht)) (XE _)
 ·rw[hL]
  have hy':y∈s.P:=by have:(Zfy s c ts).P=s.P:=a6;rw[this] at hy;exact hy
  exact(p.P y hy').lift (by omega)
 ·show(sA (Y1 s c) c ts ts.length).G.length+(sA (Y1 s c) c ts ts.length).P.length≤_
  rw[a5,a6];omega
 ·exact⟨hc,a10.trans ha,a11⟩
theorem ap_ok {d:Nat}{s:St}{t:Tm}(p:Pre d s)(h:ok s.L.length d [] t)(hv:isVt t=false)(hs:isSt (.tm t)=none):Ok d (apS s t):=by
 cases t with
 | nm x=>cases h
 | num v=>cases hv
 | stop x=>cases hs
 | fn x b=>cases hv
 | at_ i=>
  have hi:i<s.D.length:=by rw[p.D];exact h
  have e:s.D[i]?=some (s.D[i]'hi):=by simp[hi]
  refine Zgn p [] (by simp) rfl (by simp[apS]) (fun t ht=>by cases ht) (fun y hy=>?_) rfl rfl rfl ?_ ?_ (by intro z;cases z)
  ·rcases XS.mp hy with hy | hy
   ·exact p.P y hy
   ·rw[XQ.mp hy];exact h
  ·show(s.G++[_]).length+(s.P++[_]).length≤_
   rw[List.length_append,List.length_append];simp only[List.length_cons,List.length_nil];omega
  ·show ok s.L.length d [] ((s.D[i]?).getD (.nm ""))
   rw[e];exact p.D' _ (YN hi)
 | shp0 c=>exact Zqd p h.1 h.2.symm (fun t ht=>by cases ht)
 | shp2 c a b=>
  refine Zqd p h.2.1.1 h.2.1.2.symm (fun t ht=>?_)
  simp only[ZM,ZN,or_false] at ht
  rcases ht with rfl | rfl
  ·exact Zbs h.2.2.1
  ·exact Zbs h.2.2.2
 | does o a b=>exact Znw p (Zbs h.2.1) (by intro z;cases z) (Zbs h.2.2)
 | call a b=>exact Znw p (Zbs h.2.1) (by intro z;cases z) (Zbs h.2.2)
 | first a b=>exact Znw (s:={s with f:=s.f+1}) ⟨p.h,p.P,p.S,p.U,p.D,p.D',p.k0,p.nL,p.nG,p.nU⟩ (Zbs h.2.1) (by intro z;cases z) (Zbs h.2.2)
 | lt n xs ts b=>exact Zym p h
 | ch e n cs ns bs=>
  refine Znw p (Zbs h.2.2.1) (by intro z;cases z) ?_
  intro a ha
  obtain⟨i,_,rfl⟩:=XR.mp ha
  have:=Zbs (h.2.2.2 i)
  rw[YK] at this
  exact⟨(h.2.1.2 i).1,(h.2.1.2 i).2,this⟩
theorem Pre.pop {d:Nat}{s:St}{f:Fm}(p:Pre d s)(h:s.P.getLast?=some f):Pre d {s with P:=s.P.dropLast}:=by
 have hl:=Zi1 h
 have:=p.nG
 exact⟨p.h,fun y hy=>p.P y (Zdx hy),p.S,p.U,p.D,p.D',p.k0,p.nL,by show _+((s.P.dropLast.length:Nat):Int)+6≤_;simp only;omega,p.nU⟩
theorem Zp5 {L d:Nat}{o:Str}{x y:Int}:HOk L d (Zdq o x y)∧Zdq o x y≠.no:=by
 unfold Zdq
 have a1:cl "Yes"∧ar "Yes"=0:=by decide+kernel
 have a2:cl "No"∧ar "No"=0:=by decide+kernel
 split
 ·refine⟨?_,by intro z;cases z⟩
  split
  ·exact⟨a1.1,a1.2.symm,fun i hi=>by cases hi⟩
  ·exact⟨a2.1,a2.2.symm,fun i hi=>by cases hi⟩
 ·split
  ·refine⟨?_,by intro z;cases z⟩
   split
   ·exact⟨a1.1,a1.2.symm,fun i hi=>by cases hi⟩
   ·exact⟨a2.1,a2.2.symm,fun i hi=>by cases hi⟩
  ·exact⟨⟨YO _ (by decide),Int.emod_lt_of_pos _ (by decide)⟩,by intro z;cases z⟩
theorem Zq0 {c:Str}{al:List Al}{a:Al}(h:altF c al=some a):a∈al∧a.1=c:=by
 unfold altF at h
 exact⟨List.mem_of_find?_eq_some h,by simpa using List.find?_some h⟩
theorem Zv9 {ns:List Str}{ms:List Nat}(hl:ns.length=ms.length){x:Str}(h:x∈ns):mo (ns.zip ms) x≠none:=Zo9 (by rw[List.map_fst_zip (by omega)];exact h)
theorem Zv8 {ns:List Str}{ms:List Nat}{L:Nat}(h:∀i∈ms,i<L){x:Str}{i:Nat}(e:mo (ns.zip ms) x=some i):i<L:=by
 obtain⟨z,hz,rfl⟩:=Zo8 e
 exact h _ (List.of_mem_zip hz).2
theorem Zor {d:Nat}{s:St}{h:Hd}(p:Pre d s)(hh:HOk s.L.length d h)(hne:h≠.no):Ok d {s with h:=h}:=
 Zgn p [] (by simp) rfl (by simp) (fun t ht=>by cases ht) p.P rfl rfl rfl (by show s.G.length+s.P.length≤_;omega) hh hne
theorem Zqi {h:Hd}(e:isFn h=true):∃x b,h=.tm (.fn x b):=by
 cases h with
 | no=>cases e
 | made c ms=>cases e
 | tm t=>cases t<;>first | exact⟨_,_,rfl⟩ | cases e
theorem Zhw {h:Hd}(e:isNm h=true):∃v,h=.tm (.num v):=by
 cases h with
 | no=>cases e
 | made c ms=>cases e
 | tm t=>cases t<;>first | exact⟨_,rfl⟩ | cases e
theorem Zqh {h:Hd}{al:List Al}(e:fitF h (.pick al)=true):∃c ms a,h=.made c ms∧altF c al=some a:=by
 cases h with
 | no=>cases e
 | tm t=>cases e
 | made c ms=>
  have e':(altF c al).isSome=true:=e
  cases ha:altF c al with
  | none=>rw[ha] at e';cases e'
  | some a=>exact⟨c,ms,a,rfl,ha⟩
theorem us_ok {d:Nat}{s:St}{f:Fm}(p:Pre d s)(hf:FOk s.L.length d f)(hb:isBk f=none)(hft:fitF s.h f=true):Ok d (usS s s.h f):=by
 have hh:=p.h
 cases f with
 | give t=>
  obtain⟨x,b,hs⟩:=Zqi hft
  rw[hs] at hh ⊢
  ·obtain⟨new,a1,a2,a3,a4,a5,a6,a7,a8,a9,a10⟩:=mk_f (s:=s) (l:=x) (t:=t)
   have hN:=a10 fun i e=>by have:ok s.L.length d [] t:=hf;rw[e] at this;exact this
   have hL:(usS s (.tm (.fn x b)) (.give t)).L.length=s.L.length+new.length:=a2
   refine Zgn p new (by omega) hL a1 (fun u hu=>?_) (fun y hy=>?_) a7 a8 a9 ?_ ?_ (by intro z;cases z)
   ·rw[hL,a4 u hu];exact Xh (by omega) hf (XE _)
   ·rw[hL]
    have hy':y∈s.P:=by have:(usS s (.tm (.fn x b)) (.give t)).P=s.P:=a6;rw[this] at hy;exact hy
    exact(p.P y hy').lift (by omega)
   ·show(mkS s x t).G.length+(mkS s x t).P.length≤_
    rw[a5,a6];omega
   ·refine Zp6 (Xh (by show _≤(mkS s x t).L.length;omega) (Zbs hh.2.2) (XE _)) (fun y i e=>?_) (fun y hy=>.inl ?_)
    ·obtain⟨z,hz,rfl⟩:=Zo8 e
     rw[XQ.mp hz];exact hN
    ·exact Zo9 (by simpa using hy)
 | pick al=>
  obtain⟨c,ms,a,hs,ha⟩:=Zqh hft
  rw[hs] at hh ⊢
  obtain⟨m1,m2⟩:=Zq0 ha
  obtain⟨o1,o2,o3⟩:=hf a m1
  have hl:a.2.1.length=ms.length:=by rw[o1,m2,hh.2.1]
  show Ok d (match altF c al with | some a=>{s with h:=.tm (pu (mo (a.2.1.zip ms)) a.2.2)} | none=>s)
  rw[ha]
  exact Zor p (Zp6 o3 (fun x i e=>Zv8 hh.2.2 e) (fun x hx=>.inl (Zv9 hl hx))) (by intro z;cases z)
 | left o t=>
  obtain⟨v,hs⟩:=Zhw hft
  rw[hs] at hh ⊢
  exact Znw p hf (by intro z;cases z) hh
 | right o x=>
  obtain⟨v,hs⟩:=Zhw hft
  rw[hs] at hh ⊢
  exact Zor p Zp5.1 (Zp5 (L:=0) (d:=0)).2
 | first t=>exact Zor p hf (by intro z;cases z)
 | back i=>cases hb
theorem Zsy {d:Nat}{s:St}(q:Ok d s)(he:enB s.e=true)(h1:one s=none)(hk:s.k<1000):Ok d (stp {s with k:=s.k+1}):=by
 obtain⟨d1,d2,d3⟩:=due he h1
 have p:=q.pre hk
 have e:stp {s with k:=s.k+1}=(if isV s.h=true then(match s.P.getLast? with | some f=>usS {s with k:=s.k+1,P:=s.P.dropLast} s.h f | none=>{s with k:=s.k+1}) else(match s.h with | .tm t=>apS {s with k:=s.k+1} t | _=>{s with k:=s.k+1})):=rfl
 rw[e]
 by_cases hv:isV s.h=true
 ·obtain⟨f,f1,f2,f3⟩:=d3 hv
  rw[XY hv,f1]
  exact us_ok (p.pop f1) (q.P f (Zdz f1)) f2 f3
 ·rw[XX hv]
  have hh:=q.h
  obtain⟨t,hs,hvt⟩:∃t,s.h=.tm t∧isVt t=false:=by
   revert d1 hv
   cases s.h with
   | no=>intro d1;cases d1
   | made c ms=>intro _ hv;exact absurd rfl hv
   | tm t=>
    intro _ hv
    exact⟨t,rfl,by simpa[isV] using hv⟩
  have e2:(match s.h with | .tm t=>apS {s with k:=s.k+1} t | _=>{s with k:=s.k+1})=apS {s with k:=s.k+1} t:=by rw[hs]
  rw[e2]
  rw[hs] at hh d2
  exact ap_ok p hh hvt d2
theorem Zyw {s:St}{f:Fm}(hv:isV s.h=true)(hl:s.P.getLast?=some f):stp s=usS {s with P:=s.P.dropLast} s.h f:=by unfold stp;rw[XY hv,hl]
theorem Zsx {s:St}{t:Tm}(hs:s.h=.tm t)(hv:isVt t=false):stp s=apS s t:=by
 unfold stp;rw[hs,XX (by show ¬isVt t=true;rw[hv];decide)]
structure Gro (s s':St):Prop where
 g:∃n,s'.G=s.G++n∧∀r∈n,r.k=s.k
 c:s.c≤s'.c
 f:s.f≤s'.f
 k:s'.k=s.k
theorem Gro.refl (s:St):Gro s s:=⟨⟨[],by simp,fun r hr=>by cases hr⟩,Int.le_refl _,Int.le_refl _,rfl⟩
theorem Gro.trans {s s' s'':St}(a:Gro s s')(b:Gro s' s''):Gro s s'':=by
 obtain⟨n,a1,a2⟩:=a.g
 obtain⟨m,b1,b2⟩:=b.g
 refine⟨⟨n++m,by rw[b1,a1,YL],fun r hr=>?_⟩,Int.le_trans a.c b.c,Int.le_trans a.f b.f,b.k.trans a.k⟩
 rcases XS.mp hr with hr | hr
 ·exact a2 r hr
 ·rw[b2 r hr,a.k]
theorem Zfc {s s':St}(hG:s'.G=s.G)(hc:s'.c=s.c)(hf:s'.f=s.f)(hk:s'.k=s.k):Gro s s':=⟨⟨[],by rw[hG,YK],fun r hr=>by cases hr⟩,by omega,by omega,hk⟩
theorem Zlm {s:St}{l:Str}{t:Tm}:Gro s (mkS s l t)∧(mkS s l t).e=s.e:=by
 unfold mkS
 split
 ·exact⟨Gro.refl s,rfl⟩
 ·exact⟨⟨⟨_,rfl,fun r hr=>by rw[XQ.mp hr];rfl⟩,XW _,XW _,rfl⟩,rfl⟩
theorem Zte {s:St}{c:Str}{ts:List Tm}:∀i,Gro s (sA s c ts i)∧(sA s c ts i).e=s.e
 | 0=>⟨Gro.refl s,rfl⟩
 | i+1=>by
  obtain⟨a,b⟩:=Zte (s:=s) (c:=c) (ts:=ts) i
  unfold sA
  cases ts[i]? with
  | none=>exact⟨a,b⟩
  | some t=>exact⟨a.trans Zlm.1,Zlm.2.trans b⟩
theorem Zv0 {s:St}{ns:List Str}:∀i,Gro s (bA s ns i)∧(bA s ns i).e=s.e
 | 0=>⟨Gro.refl s,rfl⟩
 | i+1=>by
  obtain⟨a,b⟩:=Zv0 (s:=s) (ns:=ns) i
  unfold bA
  cases ns[i]? with
  | none=>exact⟨a,b⟩
  | some t=>exact⟨a.trans ⟨⟨_,rfl,fun r hr=>by rw[XQ.mp hr];rfl⟩,XW _,XW _,rfl⟩,b⟩
theorem Gro.to {s s' s'':St}(a:Gro s s')(hG:s''.G=s'.G)(hc:s''.c=s'.c)(hf:s''.f=s'.f)(hk:s''.k=s'.k):Gro s s'':=a.trans (Zfc hG hc hf hk)
theorem Znk {s:St}{c:Str}{ts:List Tm}:Gro s (Zfy s c ts)∧(Zfy s c ts).e=s.e:=by
 have h0:Gro s (Y1 s c)∧(Y1 s c).e=s.e:=by
  unfold Y1
  split
  ·exact⟨⟨⟨[],by simp,fun r hr=>by cases hr⟩,by show s.c≤s.c+1;omega,Int.le_refl _,rfl⟩,rfl⟩
  ·exact⟨Gro.refl s,rfl⟩
 obtain⟨a,b⟩:=Zte (s:=Y1 s c) (c:=c) (ts:=ts) ts.length
 exact⟨(h0.1.trans a).to rfl rfl rfl rfl,b.trans h0.2⟩
theorem Z2g {s:St}{t:Tm}:Gro s (apS s t)∧(apS s t).e=s.e:=by
 cases t with
 | lt n xs ts b=>
  obtain⟨a,b'⟩:=Zv0 (s:=s) (ns:=nms xs) (nms xs).length
  exact⟨a.to rfl rfl rfl rfl,b'⟩
 | shp0 c=>exact Znk
 | shp2 c a b=>exact Znk
 | at_ i=>exact⟨⟨⟨_,rfl,fun r hr=>by rw[XQ.mp hr];rfl⟩,XW _,XW _,rfl⟩,rfl⟩
 | first a b=>exact⟨⟨⟨[],by simp[apS,goS],fun r hr=>by cases hr⟩,Int.le_refl _,by show s.f≤s.f+1;omega,rfl⟩,rfl⟩
 | _=>exact⟨Zfc rfl rfl rfl rfl,rfl⟩
theorem Zsj {s:St}{h:Hd}{f:Fm}:Gro s (usS s h f)∧(usS s h f).e=s.e:=by
 cases f with
 | give t=>
  cases h with
  | no=>exact⟨Gro.refl s,rfl⟩
  | made c ms=>exact⟨Gro.refl s,rfl⟩
  | tm u=>
   cases u with
   | fn x b=>exact⟨Zlm.1.to rfl rfl rfl rfl,Zlm.2⟩
   | _=>exact⟨Gro.refl s,rfl⟩
 | pick al=>
  cases h with
  | no=>exact⟨Gro.refl s,rfl⟩
  | tm u=>exact⟨Gro.refl s,rfl⟩
  | made c ms=>
   have e:usS s (.made c ms) (.pick al)=(match altF c al with | some a=>{s with h:=.tm (pu (mo (a.2.1.zip ms)) a.2.2)} | none=>s):=rfl
   rw[e]
   cases altF c al with
   | some a=>exact⟨Zfc rfl rfl rfl rfl,rfl⟩
   | none=>exact⟨Gro.refl s,rfl⟩
 | left o t=>
  cases h with
  | no=>exact⟨Gro.refl s,rfl⟩
  | made c ms=>exact⟨Gro.refl s,rfl⟩
  | tm u=>
   cases u with
   | num v=>exact⟨Zfc rfl rfl rfl rfl,rfl⟩
   | _=>exact⟨Gro.refl s,rfl⟩
 | right o x=>
  cases h with
  | no=>exact⟨Gro.refl s,rfl⟩
  | made c ms=>exact⟨Gro.refl s,rfl⟩
  | tm u=>
   cases u with
   | num v=>exact⟨Zfc rfl rfl rfl rfl,rfl⟩
   | _=>exact⟨Gro.refl s,rfl⟩
 | first t=>exact⟨Zfc rfl rfl rfl rfl,rfl⟩
 | back i=>exact⟨Gro.refl s,rfl⟩
theorem Zp1 {s:St}:Gro s (stp s)∧(stp s).e=s.e:=by
 unfold stp
 split
 ·split
  ·exact⟨(Zfc (s:=s) (s':={s with P:=s.P.dropLast}) rfl rfl rfl rfl).trans Zsj.1,Zsj.2⟩
  ·exact⟨Gro.refl s,rfl⟩
 ·split
  ·exact Z2g
  ·exact⟨Gro.refl s,rfl⟩
open PySem PySem.Spec PyProof.Rows L2 WL
theorem lg {v:Int}(h0:0≤v)(h1:v<big):v.natAbs.log2<1920:=by
 have h2:v.natAbs<2^64:=by simp only[big] at h1;omega
 have:v.natAbs.log2<64:=by
  by_cases c:v.natAbs=0
  ·rw[c];decide
  ·exact(Nat.log2_lt c).mpr h2
 omega
theorem Zx4 {i n:Nat}:flat (atT i) (n+1)=true:=Zd1 fun x hx=>by
 simp only[ZM,ZN,or_false] at hx
 rcases hx with rfl | rfl
 ·exact Xi
 ·exact Zd2
theorem Zql {ms:List Nat}:Ji (.tup (ms.map atT)):=Zd1 fun x hx=>by obtain⟨i,_,rfl⟩:=XR.mp hx;exact Zx4
theorem Zva {ms:List Nat}{C:Hw}{Q:WK}{b:Bool}(hb:ms.isEmpty=b)(q:Q (.bl b) C):wEqG false (.tup (ms.map atT)) (.tup []) C Q:=by
 refine⟨Zql,Zql (ms:=[]),?_⟩
 have e:WL.eqT (.tup (ms.map atT)) (.tup [])=b:=by
  subst hb
  unfold WL.eqT
  cases ms with
  | nil=>unfold eqTs;rfl
  | cons a r=>rw[YI];unfold eqTs;rfl
 rw[e];exact q
section
variable {A:Ad}{C:Hw}{s:St}{Q:WK}{χ:WX}{n d:Nat}
theorem Zs5 {L:Nat}{h:Hd}{D:Int}(hv:isV h=true)(ho:HOk L d h)(q:∀p C',C p=none→Ex C C'→C' p=some (.lst ((pcs h D).map pcT))→Q (.ref p) C'):wpc pr (n+1) Znu [hT h,.int D] C Q χ:=by
 refine Zmv rfl ?_
 cases h with
 | no=>cases hv
 | tm t=>
  cases t with
  | num v=>
   refine Zup rfl rfl ?_
   exact⟨_,rfl,_,Ja,.inl ⟨v,rfl,lg ho.1 ho.2,ZNB rfl,fun p hp=>q p _ hp (Ex.new hp) Zn⟩⟩
  | fn x b=>
   refine Zuq rfl (by decide+kernel) (Zup rfl rfl ?_)
   exact⟨ZNB rfl,fun p hp=>q p _ hp (Ex.new hp) Zn⟩
  | _=>cases hv
 | made c ms=>
  refine Zuq rfl (by decide+kernel) (Zuq rfl (by decide+kernel) ?_)
  refine⟨_,rfl,_,Zbt,XO _,?_⟩
  obtain⟨⟨o0,o1⟩,o2,o3⟩:=ho
  have hl:ms.length≤2:=by rw[o2];exact Zoi c
  have hc1:("(":Str).length=1:=by decide+kernel
  cases hm:ms with
  | nil=>
   refine Zva (ms:=[]) rfl ⟨true,rfl,J4 ?_⟩
   rw[hm] at q
   exact⟨_,rfl,_,Ja,ZNB rfl,fun p hp=>q p _ hp (Ex.new hp) Zn⟩
  | cons a r=>
   rw[←hm]
   refine Zva (ms:=ms) (by rw[hm];rfl) ⟨false,rfl,Jd ?_⟩
   refine⟨_,rfl,_,Ja,small63 (by omega),ZNB rfl,fun p hp=>?_⟩
   refine⟨_,rfl,_,Zbt,?_⟩
   have ep:pcs (.made c ms) D=.word ("("++c)::(ms.flatMap fun i=>[.word " ",.part D (.at_ i)])++[.word ")"]:=by rw[hm];rfl
   rw[ep] at q
   refine Zbe (fun i τ C'=>∃x3,τ=[some (.tup [.str "made",.str c,.tup (ms.map atT)]),some (.int D),some (.ref p),x3]∧Ex C C'∧C' p=some (.lst ((.word ("("++c)::((ms.take i).flatMap fun i=>[.word " ",.part D (.at_ i)])).map pcT))) ⟨none,rfl,Ex.new hp,Zn⟩ (fun _ _ _ _ _=>trivial) ?_ ?_
   ·rintro i y τ C' N hy ⟨x3,rfl,hE,hC⟩ hN
    rw[XM] at hy
    cases hi:ms[i]? with
    | none=>rw[hi] at hy;cases hy
    | some m=>
     rw[hi] at hy
     cases hy
     have hil:i<ms.length:=(List.getElem?_eq_some_iff.mp hi).1
     refine⟨_,rfl,⟨_,_,rfl,hC⟩,_,rfl,_,rfl,ZNB rfl,ZNB rfl,fun p2 hp2=>?_⟩
     have hne:p≠p2:=cne hC hp2
     refine⟨_,_,_,_,rfl,rfl,by rw[Zx hne];exact hC,Zn,small63 ?_,hN _ _ ⟨_,rfl,?_,?_⟩⟩
     ·have:((ms.take i).flatMap fun i=>[Pc.word " ",.part D (.at_ i)]).length≤2*2:=by
       match ms,hl with
       | [],_=>simp
       | [a],_=>cases i<;>simp
       | [a,b],_=>match i with | 0=>simp | 1=>simp | k+2=>simp
      simp only[List.length_map,List.length_cons,List.length_nil]
      omega
     ·exact(hE.trans (Ex.new hp2)).up hp
     ·rw[Zn,YD,hi,List.flatMap_append,←List.cons_append,XL]
      rfl
   ·rintro τ C' ⟨x3,rfl,hE,hC⟩
    rw[XI,List.take_length] at hC
    refine⟨_,rfl,ZNB rfl,fun p2 hp2=>?_⟩
    have hne:p≠p2:=cne hC hp2
    refine⟨_,_,by rw[Zx hne];exact hC,Zn,small63 ?_,fun p3 hp3=>?_⟩
    ·have:(ms.flatMap fun i=>[Pc.word " ",.part D (.at_ i)]).length≤2*2:=by
      match ms,hl with
      | [],_=>simp
      | [a],_=>simp
      | [a,b],_=>simp
     simp only[List.length_map,List.length_cons,List.length_nil]
     omega
    ·obtain⟨n32,hp3'⟩:=fr1 hp3
     refine q p3 _ (hE.free hp3') ((hE.trans (Ex.new hp2)).trans (Ex.new hp3)) ?_
     rw[Zn,XL]
     rfl
theorem Zld (di:Di A)(R:Rn A C s)(hv:isV s.h=true)(ho:HOk s.L.length d s.h)(hS:s.S.length≤90000)(q:∀C',Fr A C C'→Rn A C' (tvS s)→Q .non C'):wpc pr (n+2) Zeo [.ref (A 0)] C Q χ:=by
 refine Zeg rfl ?_
 refine⟨_,rfl,_,_,_,_,rfl,R.r,.head _,Zi0,⟨_,_,rfl,R.ps⟩,_,rfl,_,_,_,_,rfl,R.r,.head _,Zch,?_⟩
 refine⟨_,rfl,_,_,_,_,rfl,R.r,.head _,Zrw,?_⟩
 dsimp only[wSub,eC,Zg]
 refine Zs5 (n:=n) hv ho fun p C1 hp hE hp1=>?_
 have R1:=R.ex hE
 have hl6:=(Ztz (D:=s.w-1) ho).2
 refine⟨_,_,rfl,hp1,fun p2 hp2=>?_⟩
 have R2:=R1.ex (Ex.new (o:=.lst ((pcs s.h (s.w-1)).map pcT).reverse) hp2)
 refine⟨_,_,_,_,rfl,rfl,R2.ps,Zn,small63 (by rw[XI,List.length_reverse,XI];omega),?_⟩
 have e:s.S.map pcT++((pcs s.h (s.w-1)).map pcT).reverse=(s.S++(pcs s.h (s.w-1)).reverse).map pcT:=by rw[XL,List.map_reverse]
 rw[e]
 have R3:=R2.s2 di (s.S++(pcs s.h (s.w-1)).reverse)
 refine gs (χ:=χ) (Zbv (h:=.no)) R3 ?_
 exact q _ (((Ex.fr (hE.trans (Ex.new hp2))).up 2).up 0) (R3.s0 di _)
theorem isSS:Zhb "str" "str"=true:=by decide+kernel
theorem isTS:Zhb "tuple" "str"=false:=by decide+kernel
theorem trS {c:Hw}:tru (.bl (Zhb "str" "str")) c true:=by rw[isSS];rfl
theorem trT {c:Hw}:tru (.bl (Zhb "tuple" "str")) c false:=by rw[isTS];rfl
theorem Zhy {a p:Addr}{c:Hw}{Q:WK}{xs:List T}{b:Bool}(hb:xs.isEmpty=b)(h1:c a=some (.lst xs))(h2:c p=some (.lst []))(q:Q (.bl b) c):wEqG false (.ref a) (.ref p) c Q:=by
 refine⟨_,_,h1,h2,fun h=>?_,?_⟩
 ·have:xs=[]:=List.length_eq_zero_iff.mp h
  subst this
  exact⟨by unfold flats;rfl,by unfold flats;rfl⟩
 ·have e:eqTs xs []=b:=by
   subst hb
   cases xs with
   | nil=>unfold eqTs;rfl
   | cons a r=>unfold eqTs;rfl
  rw[e];exact q
theorem Zxv {xs:List Str}(h:∀x∈xs,x.length≤100):(xs.map (·.length)).sum≤100*xs.length:=by
 induction xs with
 | nil=>simp
 | cons a r ih=>
  have h1:=h a (by simp)
  have h2:=ih fun x hx=>h x (by simp[hx])
  rw[YI,List.sum_cons,YF]
  omega
theorem Zm3 (di:Di A)(R:Rn A C s)(hU:∀x∈s.U,x.length≤100)(hl:s.U.length≤9000)(q:∀C',Fr A C C'→Rn A C' (tnS s)→Q .non C'):wpc pr (n+1) Ze9 [.ref (A 0)] C Q χ:=by
 refine Ze2 rfl ?_
 refine⟨_,rfl,_,_,_,_,rfl,R.r,.head _,Zi0,XO _,fun p hp=>?_⟩
 have R1:=R.ex (Ex.new (o:=.lst []) hp)
 have F1:Fr A C (up C p (.lst [])):=Ex.fr (Ex.new hp)
 cases hs:s.S.getLast? with
 | none=>
  have e0:=Zgu hs
  have et:tnS s={s with e:=.told (Txt.join "" s.U)}:=by unfold tnS;rw[hs]
  rw[et] at q
  refine Zhy (b:=true) (by rw[e0];rfl) R1.ps Zn ⟨true,rfl,J4 ?_⟩
  have hj:=Zxv hU
  refine⟨⟨_,rfl⟩,_,rfl,_,_,_,_,rfl,R1.r,.head _,Zls,_,_,s.U,rfl,rfl,R1.pt,XO _,by omega,ZNB rfl,?_⟩
  refine gs (χ:=χ) (Zgm (e:=.told (Txt.join "" s.U))) R1 ?_
  exact q _ (F1.up 0) (R1.s0 di _)
 | some y=>
  have sp:=Zdb hs
  generalize s.S.dropLast=S' at sp
  have eS:s.S.map pcT=S'.map pcT++[pcT y]:=by rw[sp,XL];rfl
  have hne:(s.S.map pcT).isEmpty=false:=by rw[eS];simp
  refine Zhy hne R1.ps Zn ⟨false,rfl,Jd ?_⟩
  have hps:=R1.ps
  rw[eS] at hps
  refine⟨_,rfl,_,_,_,_,rfl,R1.r,.head _,Zi0,⟨_,_,rfl,hps⟩,_,_,_,rfl,rfl,hps,(by simp:(S'.map pcT++[pcT y])[(S'.map pcT++[pcT y]).length-1]?=some (pcT y)),?_⟩
  have ed:(S'.map pcT++[pcT y]).dropLast=S'.map pcT:=by simp
  rw[ed]
  have R2:=R1.s2 di S'
  have F2:=F1.up 2 (o:=.lst (S'.map pcT))
  have edl:s.S.dropLast=S':=by rw[sp];simp
  cases y with
  | word x=>
   have et:tnS s={s with S:=S',U:=s.U++[x]}:=by unfold tnS;rw[hs];simp only;rw[edl]
   rw[et] at q
   refine⟨_,rfl,_,rfl,true,trS,J4 ?_⟩
   refine⟨_,rfl,_,_,_,_,rfl,R2.r,.head _,Zls,⟨_,_,rfl,R2.pt⟩,_,rfl,_,_,_,rfl,rfl,R2.pt,small63' (by rw[XI];show s.U.length≤_;omega),?_⟩
   have e:s.U.map T.str++[.str x]=(s.U++[x]).map T.str:=by rw[XL];rfl
   have:=q _ (F2.up 3) (R2.s3 di (s.U++[x]))
   rw[←e] at this
   exact this
  | part D t=>
   refine⟨_,rfl,_,rfl,false,trT,Jd ?_⟩
   refine⟨_,rfl,_,Yo,decide (D≤0),rfl,?_⟩
   by_cases c:D≤0
   ·have et:tnS s={s with S:=S',U:=s.U++[("?":Str)]}:=by unfold tnS;rw[hs];simp only;rw[if_pos c,edl]
    rw[et] at q
    refine Zqf (decide_eq_true c) ?_
    refine⟨_,rfl,_,_,_,_,rfl,R2.r,.head _,Zls,⟨_,_,rfl,R2.pt⟩,_,_,_,rfl,rfl,R2.pt,small63' (by rw[XI];show s.U.length≤_;omega),?_⟩
    have e:s.U.map T.str++[.str "?"]=(s.U++[("?":Str)]).map T.str:=by rw[XL];rfl
    have:=q _ (F2.up 3) (R2.s3 di (s.U++[("?":Str)]))
    rw[←e] at this
    exact this
   ·have et:tnS s={s with S:=S',w:=D,h:=.tm t}:=by unfold tnS;rw[hs];simp only;rw[if_neg c,edl]
    rw[et] at q
    refine Zqg (YG c) ?_
    refine⟨_,rfl,_,Yo,?_⟩
    refine gs (χ:=χ) (Zre (x:=D)) R2 ?_
    have R3:=R2.s0 di {s with S:=S',w:=D}
    refine⟨_,rfl,_,Ja,?_⟩
    refine gs (χ:=χ) (Zbv (h:=.tm t)) R3 ?_
    exact q _ ((F2.up 0).up 0) (R3.s0 di _)
theorem en_t {τ:Sw}{K:Bool→Hw→Prop}{χ:WX}(R:Rn A C s)(q:K (enB s.e) C):tBl (Zf wIsN (Jy ["Runner"] "ending" (Zd 0)) (eC (.non))) (some (.ref (A 0))::τ) C K χ:=by
 refine⟨_,rfl,_,_,_,_,rfl,R.r,.head _,Zd9,rfl,_,rfl,?_⟩
 have e:(match eT s.e with | .non=>true | _=>false)=enB s.e:=by cases s.e<;>rfl
 rw[←e] at q
 exact q
theorem hn_t {τ:Sw}{K:Bool→Hw→Prop}{χ:WX}(R:Rn A C s)(q:K (noB s.h) C):tBl (Zf wIsN (Jy ["Runner"] "hand" (Zd 0)) (eC (.non))) (some (.ref (A 0))::τ) C K χ:=by
 refine⟨_,rfl,_,_,_,_,rfl,R.r,.head _,Zch,rfl,_,rfl,?_⟩
 have e:(match hT s.h with | .non=>true | _=>false)=noB s.h:=by
  cases s.h with
  | no=>rfl
  | made c ms=>rfl
  | tm t=>cases t<;>rfl
 rw[←e] at q
 exact q
theorem st_w {h:Hd}{w:Str}{r:List T}(e:hT h=.tup (.str w::r)):(w=="stop")=(isSt h).isSome:=by
 cases h with
 | no=>cases e
 | made c ms=>unfold hT at e;injection e with e;injection e with e _;injection e with e;subst e;show _=false;decide+kernel
 | tm t=>cases t<;>(unfold hT tt at e;injection e with e;injection e with e _;injection e with e;subst e;first | (show _=false;decide+kernel) | (show _=true;decide+kernel))
theorem bk_w {f:Fm}:∃w r,fmT f=.tup (.str w::r)∧(w=="back")=(isBk f).isSome:=by
 cases f<;>exact⟨_,_,rfl,by first | (show _=false;decide+kernel) | (show _=true;decide+kernel)⟩
theorem Zsf {m:Str}{i:Nat}{P:Calls}{τ:Sw}{D:We}(R:Rn A C s)(hm:(Fs A s).lookup m=none)(q:P i [.ref (A 0)] C (fun _ C1=>D.nx (some (.ref (A 0))::τ) C1) D.xc):Y7 (eMth P [("Runner",i)] m (Zd 0) Zg) D (some (.ref (A 0))::τ) C:=
 ⟨_,rfl,_,_,_,_,rfl,R.r,tb1,hm,q⟩
theorem Zgo (he:enB s.e=true)(hno:noB s.h=true):one s=some (tnS s):=by unfold one;rw[XY he,XY hno]
theorem Zt2 {x:Str}(he:enB s.e=true)(hno:noB s.h=false)(hst:isSt s.h=some x):one s=some {s with e:=.stop x}:=by
 unfold one;rw[XY he,XX (by rw[hno];decide),hst]
theorem Zin (he:enB s.e=true)(hno:noB s.h=false)(hst:isSt s.h=none)(hv:isV s.h=false):one s=none:=by
 unfold one;rw[XY he,XX (by rw[hno];decide),hst];exact XX (by rw[hv];decide)
theorem Zqb (he:enB s.e=true)(hno:noB s.h=false)(hst:isSt s.h=none)(hv:isV s.h=true):one s=(match s.P.getLast? with | none=>some (tvS s) | some f=>match isBk f with | some i=>some (bkS s i) | none=>if fitF s.h f=true then none else some {s with e:=.stuck}):=by
 unfold one;rw[XY he,XX (by rw[hno];decide),hst];exact XY hv
theorem Zt1 (h1:one s=(match s.P.getLast? with | none=>some (tvS s) | some f=>match isBk f with | some i=>some (bkS s i) | none=>if fitF s.h f=true then none else some {s with e:=.stuck}))(hl:s.P.getLast?=none):one s=some (tvS s):=by rw[h1,hl]
theorem Zt4 {f:Fm}{i:Nat}(h1:one s=(match s.P.getLast? with | none=>some (tvS s) | some f=>match isBk f with | some i=>some (bkS s i) | none=>if fitF s.h f=true then none else some {s with e:=.stuck}))(hl:s.P.getLast?=some f)(hb:isBk f=some i):one s=some (bkS s i):=by
 rw[h1,hl];show(match isBk f with | some i=>_ | none=>_)=_;rw[hb]
theorem Zt3 {f:Fm}(h1:one s=(match s.P.getLast? with | none=>some (tvS s) | some f=>match isBk f with | some i=>some (bkS s i) | none=>if fitF s.h f=true then none else some {s with e:=.stuck}))(hl:s.P.getLast?=some f)(hb:isBk f=none)(hf:fitF s.h f=true):one s=none:=by
 rw[h1,hl];show(match isBk f with | some i=>_ | none=>_)=_;rw[hb];exact XY hf
theorem Z0y {f:Fm}(h1:one s=(match s.P.getLast? with | none=>some (tvS s) | some f=>match isBk f with | some i=>some (bkS s i) | none=>if fitF s.h f=true then none else some {s with e:=.stuck}))(hl:s.P.getLast?=some f)(hb:isBk f=none)(hf:fitF s.h f=false):one s=some {s with e:=.stuck}:=by
 rw[h1,hl];show(match isBk f with | some i=>_ | none=>_)=_;rw[hb];exact XX (by rw[hf];decide)
theorem Zm5 (di:Di A)(R:Rn A C s)(o:Ok d s)(q:∀C',Fr A C C'→Rn A C' (settled s)→Q .non C'):wpc pr (n+4) Zho [.ref (A 0)] C Q χ:=by
 refine Zhi rfl ?_
 unfold settled at q
 generalize hX:stl (mu s) s=X at q
 refine Zj5 (fun m τ C'=>τ=[some (.ref (A 0))]∧∃s',Rn A C' s'∧Ok d s'∧Fr A C C'∧mu s'≤m∧stl m s'=X) (m:=mu s) ⟨rfl,s,R,o,Fr.refl _ _,XE _,hX⟩ ?_
 rintro m τ C' N ⟨rfl,s',R',o',hF,hm,hx⟩ hN
 have nxt:∀s2 C2,one s'=some s2→Rn A C2 s2→Fr A C' C2→N [some (.ref (A 0))] C2:=fun s2 C2 h1 R2 F2=>by
  obtain⟨o2,l2,_⟩:=Zim o' h1
  obtain⟨m1,rfl⟩:∃m1,m=m1+1:=⟨m-1,by omega⟩
  refine hN m1 _ _ (by omega) ⟨rfl,s2,R2,o2,hF.trans F2,by omega,?_⟩
  unfold stl at hx
  rw[h1] at hx
  exact hx
 have fin:∀C2,one s'=none→Ex C' C2→Q .non C2:=fun C2 h1 E2=>by
  have e:stl m s'=s':=by cases m with | zero=>rfl | succ m1=>unfold stl;rw[h1]
  rw[e] at hx
  subst hx
  exact q C2 (hF.ex E2) (R'.ex E2)
 have b1:=o'.nU
 have b2:=o'.k0
 have b3:=o'.nG
 have hS9:s'.S.length≤90000:=by split at b1<;>omega
 have hU9:s'.U.length≤9000:=by split at b1<;>omega
 have hG9:s'.G.length≤90000:=by omega
 refine en_t R' ?_
 cases he:enB s'.e with
 | false=>
  refine Jd (fin C' ?_ (Ex.refl _))
  unfold one;rw[XX (by rw[he];decide)]
 | true=>
  refine J4 (hn_t R' ?_)
  cases hno:noB s'.h with
  | true=>
   refine J4 (Zsf R' Znm ?_)
   exact Zm3 (n:=n+2) di R' o'.U hU9 fun C2 F2 R2=>nxt _ C2 (Zgo he hno) R2 F2
  | false=>
   refine Jd ?_
   have hnh:s'.h≠.no:=fun e=>by rw[e] at hno;cases hno
   obtain⟨w,r,ew⟩:=Zpl hnh
   have lk':(Fs A s').lookup ("hand":Str)=some (.tup (.str w::r)):=by rw[←ew];rfl
   refine⟨_,rfl,_,_,_,_,rfl,R'.r,.head _,lk',_,Yo,eqSc (st_w ew) ⟨_,rfl,?_⟩⟩
   cases hst:isSt s'.h with
   | some x=>
    refine J4 ?_
    have eh:s'.h=.tm (.stop x):=by
     revert hst
     cases s'.h with
     | no=>intro z;cases z
     | made c ms=>intro z;cases z
     | tm t=>cases t<;>intro z<;>first | (cases z;rfl) | cases z
    have lk2:(Fs A s').lookup ("hand":Str)=some (.tup [.str "stop",.str x]):=by rw[Zch,eh];rfl
    refine⟨_,rfl,_,_,_,_,rfl,R'.r,.head _,lk2,_,Ja,ZNB rfl,?_⟩
    refine gs (χ:=χ) (Zgm (e:=.stop x)) R' ?_
    exact nxt _ _ (Zt2 he hno hst) (R'.s0 di _) ((Fr.refl _ _).up 0)
   | none=>
    refine Jd ?_
    refine⟨_,rfl,_,_,_,_,rfl,R'.r,.head _,Zch,?_⟩
    dsimp only[Zg]
    refine Zie (n:=n+2) hnh ⟨_,rfl,?_⟩
    cases hv:isV s'.h with
    | false=>
     exact J4 (fin C' (Zin he hno hst hv) (Ex.refl _))
    | true=>
     refine Jd ?_
     refine⟨_,rfl,_,_,_,_,rfl,R'.r,.head _,Zf1,XO _,fun p hp=>?_⟩
     have E1:Ex C' (up C' p (.lst [])):=Ex.new hp
     have R1:=R'.ex E1
     have one1:=Zqb he hno hst hv
     cases hl:s'.P.getLast? with
     | none=>
      have e0:=Zgu hl
      refine Zhy (b:=true) (by rw[e0];rfl) R1.pp Zn ⟨true,rfl,J4 ?_⟩
      refine Zsf R1 Zlo ?_
      exact Zld (n:=n+1) di R1 hv o'.h hS9 fun C2 F2 R2=>nxt _ C2 (Zt1 one1 hl) R2 ((Ex.fr E1).trans F2)
     | some f=>
      have sp:=Zdb hl
      generalize hP':s'.P.dropLast=P' at sp
      have eP:s'.P.map fmT=P'.map fmT++[fmT f]:=by rw[sp,XL];rfl
      refine Zhy (b:=false) (by rw[eP];simp) R1.pp Zn ⟨false,rfl,Jd ?_⟩
      have hpp:=R1.pp
      rw[eP] at hpp
      have atL:atI (P'.map fmT++[fmT f]) (-1)=some (fmT f):=atZ
      obtain⟨wf,rf,ef,hbk⟩:=bk_w (f:=f)
      refine⟨_,rfl,_,_,_,_,rfl,R1.r,.head _,Zf1,_,_,hpp,atL,?_⟩
      rw[ef]
      refine⟨_,Yo,eqSc hbk ⟨_,rfl,?_⟩⟩
      cases hb:isBk f with
      | some i=>
       refine J4 ?_
       have eb:f=.back i:=by
        revert hb
        cases f<;>intro z<;>first | (cases z;rfl) | cases z
       subst eb
       have hfo:=o'.P _ (Zdz hl)
       have hil:i<s'.L.length:=hfo
       have hj:s'.L[i]?=some (lbl s' i):=by unfold lbl;simp[hil]
       refine⟨_,rfl,_,_,_,_,rfl,R1.r,tb1,Znq,_,rfl,_,_,_,_,rfl,R1.r,tb1,Zfz,?_⟩
       dsimp only[Zg]
       refine Zfp (n:=n+2) (P:=P') (f:=.back i) di R1 sp fun C2 F2 R2=>⟨_,Ja,?_⟩
       refine Zm6 (n:=n+1) (j:=i) (l:=lbl s' i) di R2 hj (by show s'.G.length≤_;omega) fun C3 F3 R3=>?_
       refine nxt (bkS s' i) C3 (Zt4 one1 hl rfl) ?_ ((Ex.fr E1).trans (F2.trans F3))
       unfold bkS
       rw[hP']
       exact R3
      | none=>
       refine Jd ?_
       refine⟨_,rfl,_,_,_,_,rfl,R1.r,.head _,Zch,_,rfl,_,_,_,_,rfl,R1.r,.head _,Zf1,_,_,hpp,atL,?_⟩
       dsimp only[Zg]
       refine Zzy (n:=n+1) hnh ⟨_,rfl,?_⟩
       cases hft:fitF s'.h f with
       | true=>
        exact J4 (fin _ (Zt3 one1 hl hb hft) E1)
       | false=>
        refine Jd ?_
        refine⟨ZNB rfl,?_⟩
        refine gs (χ:=χ) (Zgm (e:=.stuck)) R1 ?_
        exact nxt _ _ (Z0y one1 hl hb hft) (R1.s0 di _) ((Ex.fr E1).up 0)
end
open PySem PySem.Spec PyProof.Rows L2 WL
section
variable {A:Ad}{C:Hw}{s:St}{Q:WK}{χ:WX}{n d:Nat}
theorem uv_y {a:Str}{r:List T}{X Y:WS}{D:We}{τ:Sw}(h2:τ[2]?=some (some (.tup (.str a::r))))(q:X D τ C):sIf (tBl (Zf wEq (Zf Zq (Zd 2) (eC (.int 0))) (eC (.str a)))) X Y D τ C:=⟨_,h2,_,Yo,eqSc (v:=true) (XU _) ⟨true,rfl,J4 q⟩⟩
theorem uv_n {a z:Str}{r:List T}{X Y:WS}{D:We}{τ:Sw}(h2:τ[2]?=some (some (.tup (.str z::r))))(hn:(z==a)=false)(q:Y D τ C):sIf (tBl (Zf wEq (Zf Zq (Zd 2) (eC (.int 0))) (eC (.str a)))) X Y D τ C:=⟨_,h2,_,Yo,eqSc (v:=false) hn ⟨false,rfl,Jd q⟩⟩
theorem ta_y {a:Str}{X Y:WS}{D:We}{τ:Sw}(h2:τ[2]?=some (some (.str a)))(q:X D τ C):sIf (tBl (Zf wEq (Zd 2) (eC (.str a)))) X Y D τ C:=⟨_,h2,eqSc (v:=true) (XU _) ⟨true,rfl,J4 q⟩⟩
theorem ta_n {a z:Str}{X Y:WS}{D:We}{τ:Sw}(h2:τ[2]?=some (some (.str z)))(hn:(z==a)=false)(q:Y D τ C):sIf (tBl (Zf wEq (Zd 2) (eC (.str a)))) X Y D τ C:=⟨_,h2,eqSc (v:=false) hn ⟨false,rfl,Jd q⟩⟩
theorem Zm2 {f:Fm}(di:Di A)(R:Rn A C s)(p:Pre d s)(hf:FOk s.L.length d f)(hb:isBk f=none)(hft:fitF s.h f=true)(q:∀C',Fr A C C'→Rn A C' (usS s s.h f)→Q .non C'):wpc pr (n+d+8) Ze8 [.ref (A 0),hT s.h,fmT f] C Q χ:=by
 refine Ze1 rfl ?_
 have hh:=p.h
 have b1:=p.k0
 have b2:=p.nL
 have b3:=p.nG
 have hL9:s.L.length≤90000:=by omega
 have hG9:s.G.length≤90000:=by omega
 have hP9:s.P.length≤90000:=by omega
 cases f with
 | give t=>
  obtain⟨x,b,hs⟩:=Zqi hft
  rw[hs] at hh q ⊢
  ·skip
   refine uv_y rfl ?_
   refine⟨_,rfl,_,_,_,_,rfl,R.r,tb1,Zix,_,rfl,_,Ja,_,rfl,_,Ja,?_⟩
   dsimp only[Zg]
   refine Zid (n:=n+d+4) (l:=x) (t:=t) di R p.D (by omega) (by omega) fun C1 F1 R1=>?_
   refine⟨_,rfl,_,Zbt,fun a ha=>⟨_,rfl,_,Ja,_,rfl,_,rfl,Zn,?_⟩⟩
   dsimp only[Zg]
   have E2:∀o,Ex C1 (up (up C1 a (.dic [])) a o):=fun o=>(Ex.new ha).up ha
   have hpu:=Zlh (M:=[(x,mkN s t)]) (Zbs hh.2.2)
   refine PT.put (n:=n) (f:=d+2) (M:=mT [(x,mkN s t)]) (t':=tt (pu (mo [(x,mkN s t)]) b)) (hpu.mono (Nat.le_succ _)).1 hpu.2.2 (.inl Zn) fun C3 E3=>?_
   have R3:=(R1.ex (E2 _)).ex E3
   refine gs (χ:=χ) (Zbv (h:=.tm (pu (mo [(x,mkN s t)]) b))) R3 ?_
   exact q _ (((F1.ex (E2 _)).ex E3).up 0) (R3.s0 di _)
 | pick al=>
  obtain⟨c,ms,a,hs,ha⟩:=Zqh hft
  rw[hs] at hh q ⊢
  ··skip
    obtain⟨m1,m2⟩:=Zq0 ha
    obtain⟨o1,o2,o3⟩:=hf a m1
    have hl:a.2.1.length=ms.length:=by rw[o1,m2,hh.2.1]
    have eu:usS s (.made c ms) (.pick al)={s with h:=.tm (pu (mo (a.2.1.zip ms)) a.2.2)}:=by
     show(match altF c al with | some a=>{s with h:=.tm (pu (mo (a.2.1.zip ms)) a.2.2)} | none=>s)=_
     rw[ha]
    rw[eu] at q
    refine uv_n rfl (by decide+kernel) (uv_y rfl ?_)
    refine⟨_,rfl,_,rfl,_,Ja,?_⟩
    dsimp only[Zg]
    have hpu:=Zlh (M:=a.2.1.zip ms) o3
    refine Zs6 (n:=n) (f:=d+1) (B':=tt (pu (mo (a.2.1.zip ms)) a.2.2)) ha hl (by have:=Zoi a.1;omega) o2 hpu.1 hpu.2.2 fun C3 E3=>?_
    have R3:=R.ex E3
    refine gs (χ:=χ) (Zbv (h:=.tm (pu (mo (a.2.1.zip ms)) a.2.2))) R3 ?_
    exact q _ ((Ex.fr E3).up 0) (R3.s0 di _)
 | left o t=>
  obtain⟨v,hs⟩:=Zhw hft
  rw[hs] at hh q ⊢
  ·skip
   refine uv_n rfl (by decide+kernel) (uv_n rfl (by decide+kernel) (uv_y rfl ?_))
   refine⟨_,rfl,_,_,_,_,rfl,R.r,tb1,Zbz,_,rfl,_,Zbt,_,rfl,_,Ja,_,rfl,_,Ja,ZNB rfl,?_⟩
   dsimp only[Zg]
   exact Zby (n:=n+d+6) (h:=.tm t) (f:=.right o v) di R (by omega) q
 | right o x=>
  obtain⟨v,hs⟩:=Zhw hft
  rw[hs] at hh q ⊢
  ·skip
   refine uv_n rfl (by decide+kernel) (uv_n rfl (by decide+kernel) (uv_n rfl (by decide+kernel) (uv_y rfl ?_)))
   refine⟨_,rfl,_,Ja,_,rfl,_,Zbt,_,rfl,_,Ja,?_⟩
   dsimp only[Zg]
   refine Zos (n:=n+d+5) hf.1 hf.2 ?_
   refine gs (χ:=χ) (Zbv (h:=Zdq o x v)) R ?_
   exact q _ ((Fr.refl _ _).up 0) (R.s0 di _)
 | first t=>
  refine uv_n rfl (by decide+kernel) (uv_n rfl (by decide+kernel) (uv_n rfl (by decide+kernel) (uv_n rfl (by decide+kernel) ?_)))
  refine⟨_,rfl,_,Ja,?_⟩
  refine gs (χ:=χ) (Zbv (h:=.tm t)) R ?_
  exact q _ ((Fr.refl _ _).up 0) (R.s0 di _)
 | back i=>cases hb
theorem Zle {t:Tm}(di:Di A)(R:Rn A C s)(p:Pre d s)(h:ok s.L.length d [] t)(hv:isVt t=false)(hs:isSt (.tm t)=none)(q:∀C',Fr A C C'→Rn A C' (apS s t)→Q .non C'):wpc pr (n+d+8) Zeq [.ref (A 0),tt t] C Q χ:=by
 refine Zei rfl ?_
 have b1:=p.k0
 have b2:=p.nL
 have b3:=p.nG
 have hL9:s.L.length≤90000:=by omega
 have hG9:s.G.length≤90000:=by omega
 have hP9:s.P.length≤90000:=by omega
 cases t with
 | nm x=>cases h
 | num v=>cases hv
 | stop x=>cases hs
 | fn x b=>cases hv
 | call a b=>
  refine⟨_,rfl,_,Yo,ta_y rfl ?_⟩
  refine⟨_,rfl,_,_,_,_,rfl,R.r,tb1,Zbz,_,rfl,_,Ja,_,rfl,_,Zbt,ZNB rfl,?_⟩
  dsimp only[Zg]
  exact Zby (n:=n+d+6) (h:=.tm a) (f:=.give b) di R (by omega) q
 | does o a b=>
  refine⟨_,rfl,_,Yo,ta_n rfl (by decide+kernel) (ta_y rfl ?_)⟩
  refine⟨_,rfl,_,_,_,_,rfl,R.r,tb1,Zbz,_,rfl,_,Zbt,_,rfl,_,Ja,_,rfl,_,Zv2,ZNB rfl,?_⟩
  dsimp only[Zg]
  exact Zby (n:=n+d+6) (h:=.tm a) (f:=.left o b) di R (by omega) q
 | ch e m cs ns bs=>
  refine⟨_,rfl,_,Yo,ta_n rfl (by decide+kernel) (ta_n rfl (by decide+kernel) (ta_y rfl ?_))⟩
  refine⟨_,rfl,_,_,_,_,rfl,R.r,tb1,Zbz,_,rfl,_,Ja,_,rfl,_,Zbt,ZNB rfl,?_⟩
  dsimp only[Zg]
  have ef:fmT (.pick ((List.finRange m).map fun i=>(cs i,ns i,bs i)))=.tup [.str "pick",.tup ((List.finRange m).map fun i=>.tup [.str (cs i),.tup ((ns i).map T.str),tt (bs i)])]:=by
   show T.tup [.str "pick",.tup (List.map alT (List.map (fun i=>(cs i,ns i,bs i)) (List.finRange m)))]=_
   rw[YE];rfl
  have:=Zby (Q:=fun _ C1=>Q .non C1) (χ:=χ) (n:=n+d+6) (h:=.tm e) (f:=.pick ((List.finRange m).map fun i=>(cs i,ns i,bs i))) di R (by omega) q
  rw[ef] at this
  exact this
 | first a b=>
  refine⟨_,rfl,_,Yo,ta_n rfl (by decide+kernel) (ta_n rfl (by decide+kernel) (ta_n rfl (by decide+kernel) (ta_y rfl ?_)))⟩
  refine⟨_,rfl,_,_,_,_,rfl,R.r,.head _,Zkk,?_⟩
  refine gs (χ:=χ) (Zrf (x:=s.f+1)) R ?_
  have R1:=R.s0 di {s with f:=s.f+1}
  refine⟨_,rfl,_,_,_,_,rfl,R1.r,tb1,Zbz,_,rfl,_,Ja,_,rfl,_,Zbt,ZNB rfl,?_⟩
  dsimp only[Zg]
  exact Zby (n:=n+d+6) (h:=.tm a) (f:=.first b) di R1 (by show s.P.length≤_;omega) fun C' F R'=>q C' (((Fr.refl _ _).up 0).trans F) R'
 | lt m xs ts b=>
  refine⟨_,rfl,_,Yo,ta_n rfl (by decide+kernel) (ta_n rfl (by decide+kernel) (ta_n rfl (by decide+kernel) (ta_n rfl (by decide+kernel) (ta_y rfl ?_))))⟩
  refine⟨_,rfl,_,_,_,_,rfl,R.r,tb1,Z07,_,rfl,_,Ja,_,rfl,_,Zbt,?_⟩
  dsimp only[Zg]
  obtain⟨h1,⟨h2,h3,h4,h5⟩,h6,h7⟩:=h
  refine Zz0 (n:=n) (f:=d+1) (Z:=List.finRange m) (x:=xs) (o:=ts) (g:=fun i=>pu (mo (mkM s (nms xs))) (ts i)) (B:=b) (B':=pu (mo (mkM s (nms xs))) b) di R (by rw[List.length_finRange];exact h3) h4 p.D hL9 hG9 (fun i _=>?_) ?_ q
  ·exact Zlh (Zbs (h6 i))
  ·exact Zlh (Zbs h7)
 | shp0 c=>
  refine⟨_,rfl,_,Yo,ta_n rfl (by decide+kernel) (ta_n rfl (by decide+kernel) (ta_n rfl (by decide+kernel) (ta_n rfl (by decide+kernel) (ta_n rfl (by decide+kernel) (ta_y rfl ?_)))))⟩
  refine⟨_,rfl,_,_,_,_,rfl,R.r,tb1,Zue,_,rfl,_,Ja,_,rfl,_,Zbt,?_⟩
  dsimp only[Zg]
  exact Zs7 (n:=n+d+3) (c:=c) (ts:=[]) di R h.1.2 (by simp) p.D hL9 hG9 q
 | shp2 c a b=>
  refine⟨_,rfl,_,Yo,ta_n rfl (by decide+kernel) (ta_n rfl (by decide+kernel) (ta_n rfl (by decide+kernel) (ta_n rfl (by decide+kernel) (ta_n rfl (by decide+kernel) (ta_y rfl ?_)))))⟩
  refine⟨_,rfl,_,_,_,_,rfl,R.r,tb1,Zue,_,rfl,_,Ja,_,rfl,_,Zbt,?_⟩
  dsimp only[Zg]
  exact Zs7 (n:=n+d+3) (c:=c) (ts:=[a,b]) di R h.2.1.1.2 (by simp) p.D hL9 hG9 q
 | at_ i=>
  refine⟨_,rfl,_,Yo,ta_n rfl (by decide+kernel) (ta_n rfl (by decide+kernel) (ta_n rfl (by decide+kernel) (ta_n rfl (by decide+kernel) (ta_n rfl (by decide+kernel) (ta_n rfl (by decide+kernel) ?_)))))⟩
  refine⟨_,rfl,_,_,_,_,rfl,R.r,tb1,Zxq,_,rfl,_,Ja,?_⟩
  dsimp only[Zg]
  have hi:i<s.L.length:=h
  have hd:i<s.D.length:=by rw[p.D];exact h
  exact Zwo (n:=n+d+5) (j:=i) (l:=lbl s i) (t:=(s.D[i]?).getD (.nm "")) di R (by unfold lbl;simp[hi]) (by simp[hd]) (by omega) (by omega) q
theorem Zm4 (di:Di A)(R:Rn A C s)(p:Pre d s)(hno:noB s.h=false)(hst:isSt s.h=none)(hd:isV s.h=true→∃f,s.P.getLast?=some f∧isBk f=none∧fitF s.h f=true)(q:∀C',Fr A C C'→Rn A C' (stp s)→Q .non C'):wpc pr (n+d+9) Zfa [.ref (A 0)] C Q χ:=by
 refine Ze3 rfl ?_
 have hnh:s.h≠.no:=fun e=>by rw[e] at hno;cases hno
 refine⟨_,rfl,_,_,_,_,rfl,R.r,.head _,Zch,?_⟩
 dsimp only[Zg]
 refine Zie (n:=n+d+7) hnh ⟨_,rfl,?_⟩
 cases hv:isV s.h with
 | true=>
  refine J4 ?_
  obtain⟨f,f1,f2,f3⟩:=hd hv
  rw[Zyw hv f1] at q
  refine⟨_,rfl,_,_,_,_,rfl,R.r,tb1,Znl,_,rfl,_,_,_,_,rfl,R.r,.head _,Zch,_,rfl,_,_,_,_,rfl,R.r,tb1,Zfz,?_⟩
  dsimp only[Zg]
  refine Zfp (n:=n+d+7) (P:=s.P.dropLast) (f:=f) di R (Zdb f1) fun C1 F1 R1=>?_
  exact Zm2 (n:=n) (s:={s with P:=s.P.dropLast}) di R1 (p.pop f1) (p.P f (Zdz f1)) f2 f3 fun C' F R'=>q C' (F1.trans F) R'
 | false=>
  refine Jd ?_
  have hh:=p.h
  obtain⟨t,hs,hvt⟩:∃t,s.h=.tm t∧isVt t=false:=by
   revert hno hv
   cases s.h with
   | no=>intro d1;cases d1
   | made c ms=>intro _ hv;cases hv
   | tm t=>intro _ hv;exact⟨t,rfl,hv⟩
  have lk':(Fs A s).lookup ("hand":Str)=some (tt t):=by rw[Zch,hs];rfl
  refine⟨_,rfl,_,_,_,_,rfl,R.r,tb1,Zlp,_,rfl,_,_,_,_,rfl,R.r,.head _,lk',?_⟩
  dsimp only[Zg]
  rw[Zsx hs hvt] at q
  rw[hs] at hh hst
  exact Zle (n:=n) di R p hh hvt hst q
theorem Zmm {m:Int}{s:St}{j:Nat}(h:¬(enB s.e=true∧s.k<m)):adv m j s=s:=by
 cases j with
 | zero=>rfl
 | succ j=>unfold adv;rw[XX h]
theorem Zrd {m:Int}(di:Di A)(R:Rn A C s)(o:Ok d s)(hm:m≤1000)(q:∀C',Fr A C C'→Rn A C' (adv m (m-s.k).toNat (settled s))→Q .non C'):wpc pr (n+d+10) Zgz [.ref (A 0),.int m] C Q χ:=by
 refine Zgj rfl ?_
 refine⟨_,rfl,_,_,_,_,rfl,R.r,tb1,Zno,?_⟩
 dsimp only[Zg]
 refine Zm5 (n:=n+d+5) di R o fun C1 F1 R1=>?_
 obtain⟨o1,n1,k1⟩:=Zla (mu s) o (XE _)
 generalize hX:adv m (m-s.k).toNat (settled s)=X at q
 refine Zj5 (fun j τ C'=>τ=[some (.ref (A 0)),some (.int m)]∧∃s',Rn A C' s'∧Ok d s'∧one s'=none∧Fr A C C'∧j=(m-s'.k).toNat∧adv m j s'=X) (m:=(m-s.k).toNat) ⟨rfl,settled s,R1,o1,n1,F1,by show _=(m-(stl (mu s) s).k).toNat;rw[k1],hX⟩ ?_
 rintro j τ C' N ⟨rfl,s',R',o',n',hF,hj,hx⟩ hN
 refine en_t R' ?_
 cases he:enB s'.e with
 | false=>
  refine Jd (Jd ?_)
  rw[Zmm (fun z=>by rw[he] at z;cases z.1)] at hx
  subst hx
  exact q C' hF R'
 | true=>
  refine J4 ?_
  refine⟨_,rfl,_,_,_,_,rfl,R'.r,.head _,Zf0,_,rfl,decide (s'.k<m),rfl,?_⟩
  by_cases c:s'.k<m
  ·refine Zqf (decide_eq_true c) ?_
   refine⟨_,rfl,_,_,_,_,rfl,R'.r,.head _,Zf0,?_⟩
   refine gs (χ:=χ) (Ztj (x:=s'.k+1)) R' ?_
   have R2:=R'.s0 di {s' with k:=s'.k+1}
   obtain⟨d1,d2,d3⟩:=due he n'
   refine⟨_,rfl,_,_,_,_,rfl,R2.r,tb1,Znn,?_⟩
   dsimp only[Zg]
   refine Zm4 (n:=n) (s:={s' with k:=s'.k+1}) di R2 (o'.pre (by omega)) d1 d2 d3 fun C3 F3 R3=>?_
   have o3:=Zsy o' he n' (by omega)
   refine⟨_,rfl,_,_,_,_,rfl,R3.r,tb1,Zno,?_⟩
   dsimp only[Zg]
   refine Zm5 (n:=n+d+5) di R3 o3 fun C4 F4 R4=>?_
   obtain⟨o4,n4,k4⟩:=Zla (mu (stp {s' with k:=s'.k+1})) o3 (XE _)
   have k3:(stp {s' with k:=s'.k+1}).k=s'.k+1:=Zp1.1.k
   obtain⟨j1,rfl⟩:∃j1,j=j1+1:=⟨j-1,by omega⟩
   refine hN j1 _ _ (by omega) ⟨rfl,_,R4,o4,n4,((hF.trans ((Fr.refl _ _).up 0)).trans F3).trans F4,?_,?_⟩
   ·show j1=(m-(stl _ _).k).toNat
    rw[k4,k3];omega
   ·unfold adv at hx
    rw[XY ⟨he,c⟩] at hx
    exact hx
  ·refine Zqg (YG c) ?_
   rw[Zmm (fun z=>c z.2)] at hx
   subst hx
   exact q C' hF R'
def ew:En→Str
 | .no=>"spent"
 | .told _=>"told"
 | .stop _=>"stop"
 | .stuck=>"stuck"
def ex:En→Str
 | .no=>""
 | .told x=>x
 | .stop x=>x
 | .stuck=>""
def outT (s:St)(p:Addr):T:=.tup [.str (ew s.e),.str (ex s.e),.tup [.int s.k,.int s.c,.int s.f],.ref p]
theorem Zrb (R:Rn A C s)(q:∀p C',Ex C C'→C p=none→C' p=some (.lst (s.G.map evT))→Q (outT s p) C'):wpc pr (n+1) Zgx [.ref (A 0)] C Q χ:=by
 refine Zgh rfl ?_
 have key:Zy (Zb (Zf Zq (Zd 1) (eC (.int 0))) (Zb (Zf Zq (Zd 1) (eC (.int 1))) (Zb (Zy (Zb (Jy ["Runner"] "steps" (Zd 0)) (Zb (Jy ["Runner"] "cells" (Zd 0)) (Zb (Jy ["Runner"] "firsts" (Zd 0)) Zg)))) (Zb (eBi Zqy (Zb (Jy ["Runner"] "log" (Zd 0)) Zg)) Zg)))) [some (.ref (A 0)),some (.tup [.str (ew s.e),.str (ex s.e)])] C Q χ:=by
  refine⟨_,rfl,_,Yo,?_⟩
  refine⟨_,rfl,_,Ja,?_⟩
  refine⟨_,rfl,_,_,_,_,rfl,R.r,.head _,Zf0,?_⟩
  refine⟨_,rfl,_,_,_,_,rfl,R.r,.head _,Znr,?_⟩
  refine⟨_,rfl,_,_,_,_,rfl,R.r,.head _,Zkk,?_⟩
  refine⟨ZNB rfl,?_⟩
  refine⟨_,rfl,_,_,_,_,rfl,R.r,.head _,Zuk,?_⟩
  refine⟨_,rfl,_,R.pg,fun p hp=>⟨ZNB rfl,?_⟩⟩
  exact q p _ (Ex.new hp) hp Zn
 refine en_t R ?_
 cases he:s.e with
 | no=>
  rw[he] at key
  exact J4 ⟨ZNB rfl,key⟩
 | told x=>
  rw[he] at key
  exact Jd ⟨_,rfl,_,_,_,_,rfl,R.r,.head _,by rw[Zd9,he];rfl,key⟩
 | stop x=>
  rw[he] at key
  exact Jd ⟨_,rfl,_,_,_,_,rfl,R.r,.head _,by rw[Zd9,he];rfl,key⟩
 | stuck=>
  rw[he] at key
  exact Jd ⟨_,rfl,_,_,_,_,rfl,R.r,.head _,by rw[Zd9,he];rfl,key⟩
end
open PySem PySem.Spec PyProof.Rows L2 WL
def ini (t:Tm)(D:Int):St:=⟨.no,0,[],[.part D t],[],[],[],[],0,0,0,.no⟩
def fin (t:Tm)(D m:Int):St:=adv m m.toNat (settled (ini t D))
theorem Zuw {d:Nat}{t:Tm}{D:Int}(h:ok 0 d [] t)(hv:isVt t=false):Ok d (ini t D):=
 ⟨trivial,fun _=>rfl,fun f hf=>(by cases hf),fun p hp=>by rw[XQ.mp hp];exact⟨h,hv⟩,fun x hx=>(by cases hx),rfl,fun t ht=>(by cases ht),⟨XW _,by show(0:Int)≤1000;decide⟩,by show(0:Int)≤5*0;decide,by show(0:Int)+0≤6*0;decide,by show(0:Int)+1+0≤6*0+8;decide⟩
section
variable {C:Hw}{Q:WK}{χ:WX}{n d:Nat}
theorem Zd7 {f:Str}{v:T}:∀{fs:List (Str×T)} {m:Nat},fs.length≤m→(Zad f v fs).length≤m+1
 | [],m,_=>by simp[Zad]
 | (g,x)::fs,m,h=>by
  rw[YF] at h
  unfold Zad
  split
  ·rw[YF];omega
  ·have:=Zd7 (f:=f) (v:=v) (fs:=fs) (m:=fs.length) (XE _)
   rw[YF];omega
theorem ia {m:Nat}{f:Str}{v:T}{B:WS}{D:We}{τ:Sw}{r:Addr}{fs:List (Str×T)}(hr:C r=some (.ins "Runner" fs))(h0:τ[0]?=some (some (.ref r)))(hl:fs.length≤m)(hm:m<1000)(q:∀C',C' r=some (.ins "Runner" (Zad f v fs))→(Zad f v fs).length≤m+1→ExB r C C'→B D τ C'):Zr (Z0 (eC v) (gFd ["Runner"] f (Zd 0))) B D τ C:=
 ⟨_,h0,r,_,_,rfl,hr,by simp,by omega,q _ Zn (Zd7 hl) fun a o h e=>by rw[Zx h];exact e⟩
theorem il {m:Nat}{f:Str}{a:WA}{xs:List T}{B:WS}{D:We}{τ:Sw}{r:Addr}{fs:List (Str×T)}(hr:C r=some (.ins "Runner" fs))(h0:τ[0]?=some (some (.ref r)))(hl:fs.length≤m)(hm:m<1000)(ha:∀Q:List T→Hw→Prop,Q xs C→a τ C Q D.xc)(hx:xs.length≤1000)
  (q:∀p C',C p=none→p≠r→C' p=some (.lst xs)→C' r=some (.ins "Runner" (Zad f (.ref p) fs))→(Zad f (.ref p) fs).length≤m+1→ExB r C C'→B D τ C'):Zr (Z0 (eLst a) (gFd ["Runner"] f (Zd 0))) B D τ C:=by
 refine ha _ ⟨small63 (by omega),fun p hp=>?_⟩
 have hne:r≠p:=cne hr hp
 refine⟨_,h0,r,_,_,rfl,by rw[Zx hne];exact hr,by simp,by omega,q p _ hp hne.symm (by rw[Zx hne.symm];exact Zn) Zn (Zd7 hl) fun a o h e=>?_⟩
 rw[Zx h,Zx (cne e hp)];exact e
theorem id0 {m:Nat}{f:Str}{B:WS}{D:We}{τ:Sw}{r:Addr}{fs:List (Str×T)}(hr:C r=some (.ins "Runner" fs))(h0:τ[0]?=some (some (.ref r)))(hl:fs.length≤m)(hm:m<1000)
  (q:∀p C',C p=none→p≠r→C' p=some (.dic [])→C' r=some (.ins "Runner" (Zad f (.ref p) fs))→(Zad f (.ref p) fs).length≤m+1→ExB r C C'→B D τ C'):Zr (Z0 Zg0 (gFd ["Runner"] f (Zd 0))) B D τ C:=by
 intro p hp
 have hne:r≠p:=cne hr hp
 refine⟨_,h0,r,_,_,rfl,by rw[Zx hne];exact hr,by simp,by omega,q p _ hp hne.symm (by rw[Zx hne.symm];exact Zn) Zn (Zd7 hl) fun a o h e=>?_⟩
 rw[Zx h,Zx (cne e hp)];exact e
def mkA (r0 p1 p2 p3 p4 p5 p6:Addr):Ad:=fun i=>match i with | 0=>r0 | 1=>p1 | 2=>p2 | 3=>p3 | 4=>p4 | 5=>p5 | 6=>p6
theorem Z05 {r0 p1 p2 p3 p4 p5 p6:Addr}(h:[r0,p1,p2,p3,p4,p5,p6].Nodup):Di (mkA r0 p1 p2 p3 p4 p5 p6):=by
 intro i j hij e
 have hi:∀k:Fin 7,[r0,p1,p2,p3,p4,p5,p6][k.val]?=some (mkA r0 p1 p2 p3 p4 p5 p6 k):=fun k=>by
  match k with
  | 0=>rfl | 1=>rfl | 2=>rfl | 3=>rfl | 4=>rfl | 5=>rfl | 6=>rfl
 exact hij (Fin.ext ((List.getElem?_inj (by exact i.isLt) h).mp (by rw[hi i,hi j,e])))
theorem Zkd {t:Tm}{D m:Int}(ho:ok 0 d [] t)(hv:isVt t=false)(hm:m≤1000)
  (q:∀(p:Addr) (C':Hw),Ex C C'→C p=none→C' p=some (.lst ((fin t D m).G.map evT))→Q (outT (fin t D m) p) C'):wpc pr (n+d+12) i_run [tt t,.int D,.int m] C Q χ:=by
 refine u_run rfl ?_
 refine⟨_,rfl,_,rfl,?_⟩
 dsimp only[Zg]
 refine Zk6 rfl fun r0 hr0=>?_
 refine Zfl rfl ?_
 refine ia (m:=0) Zn rfl (by simp) (by decide) fun C1 r1 l1 x1=>?_
 refine ia r1 rfl l1 (by decide) fun C2 r2 l2 x2=>?_
 refine il (xs:=[]) r2 rfl l2 (by decide) (fun Q h=>h) (by decide) fun pp C3 n3 ne3 p3 r3 l3 x3=>?_
 refine il (xs:=[.tup [.int D,tt t]]) r3 rfl l3 (by decide) (fun Q h=>⟨_,rfl,_,rfl,small63 (by simp),h⟩) (by simp) fun ps C4 n4 ne4 p4 r4 l4 x4=>?_
 refine il (xs:=[]) r4 rfl l4 (by decide) (fun Q h=>h) (by decide) fun pt C5 n5 ne5 p5 r5 l5 x5=>?_
 refine id0 r5 rfl l5 (by decide) fun pd C6 n6 ne6 p6 r6 l6 x6=>?_
 refine il (xs:=[]) r6 rfl l6 (by decide) (fun Q h=>h) (by decide) fun pl C7 n7 ne7 p7 r7 l7 x7=>?_
 refine il (xs:=[]) r7 rfl l7 (by decide) (fun Q h=>h) (by decide) fun pg C8 n8 ne8 p8 r8 l8 x8=>?_
 refine ia r8 rfl l8 (by decide) fun C9 r9 l9 x9=>?_
 refine ia r9 rfl l9 (by decide) fun Ca ra la xa=>?_
 refine ia ra rfl la (by decide) fun Cb rb lb xb=>?_
 refine⟨_,rfl,r0,_,_,rfl,rb,by simp,by omega,?_⟩
 generalize hCc:up Cb r0 _=Cc
 have xc:ExB r0 Cb Cc:=hCc▸fun a o h e=>by rw[Zx h];exact e
 have rc:Cc r0=some (.ins "Runner" (Fs (mkA r0 pp ps pt pd pl pg) (ini t D))):=hCc▸Zn
 clear hCc
 have g8:ExB r0 C8 Cc:=((x9.trans xa).trans xb).trans xc
 have g7:=x8.trans g8
 have g6:=x7.trans g7
 have g5:=x6.trans g6
 have g4:=x5.trans g5
 have g3:=x4.trans g4
 have a4:C4 pp=_:=x4 _ _ ne3 p3
 have a5:C5 pp=_:=x5 _ _ ne3 a4
 have a6:C6 pp=_:=x6 _ _ ne3 a5
 have a7:C7 pp=_:=x7 _ _ ne3 a6
 have b5:C5 ps=_:=x5 _ _ ne4 p4
 have b6:C6 ps=_:=x6 _ _ ne4 b5
 have b7:C7 ps=_:=x7 _ _ ne4 b6
 have c6:C6 pt=_:=x6 _ _ ne5 p5
 have c7:C7 pt=_:=x7 _ _ ne5 c6
 have e7:C7 pd=_:=x7 _ _ ne6 p6
 have hnd:[r0,pp,ps,pt,pd,pl,pg].Nodup:=by
  simp only[List.nodup_cons,List.mem_cons,List.not_mem_nil,or_false,not_or,not_false_eq_true,List.nodup_nil,and_true]
  exact⟨⟨ne3.symm,ne4.symm,ne5.symm,ne6.symm,ne7.symm,ne8.symm⟩,⟨cne p3 n4,cne a4 n5,cne a5 n6,cne a6 n7,cne a7 n8⟩,⟨cne p4 n5,cne b5 n6,cne b6 n7,cne b7 n8⟩,⟨cne p5 n6,cne c6 n7,cne c7 n8⟩,⟨cne p6 n7,cne e7 n8⟩,cne p7 n8⟩
 have di:=Z05 hnd
 have R:Rn (mkA r0 pp ps pt pd pl pg) Cc (ini t D):=⟨rc,g3 _ _ ne3 p3,g4 _ _ ne4 p4,g5 _ _ ne5 p5,g6 _ _ ne6 p6,g7 _ _ ne7 p7,g8 _ _ ne8 p8⟩
 have fr:∀C',Fr (mkA r0 pp ps pt pd pl pg) Cc C'→Ex C C':=fun C' f a o h=>by
  have hne:=cne h hr0
  have h1:C1 a=some o:=x1 _ _ hne (by rw[Zx hne];exact h)
  have h2:C2 a=some o:=x2 _ _ hne h1
  have h3:=x3 _ _ hne h2
  have h4:=x4 _ _ hne h3
  have h5:=x5 _ _ hne h4
  have h6:=x6 _ _ hne h5
  have h7:=x7 _ _ hne h6
  refine f a o (fun i=>?_) (g7 _ _ hne h7)
  match i with
  | 0=>exact hne
  | 1=>exact cne h2 n3
  | 2=>exact cne h3 n4
  | 3=>exact cne h4 n5
  | 4=>exact cne h5 n6
  | 5=>exact cne h6 n7
  | 6=>exact cne h7 n8
 clear l1 l2 l3 l4 l5 l6 l7 l8 l9 la lb r1 r2 r3 r4 r5 r6 r7 r8 r9 ra rb x1 x2 x3 x4 x5 x6 x7 x8 x9 xa xb xc g3 g4 g5 g6 g7 g8 p3 p4 p5 p6 p7 p8 n3 n4 n5 n6 n7 n8 ne3 ne4 ne5 ne6 ne7 ne8 a4 a5 a6 a7 b5 b6 b7 c6 c7 e7
 refine⟨rfl,_,_,_,_,rfl,rc,tb1,m_go (s:=ini t D),_,rfl,?_⟩
 dsimp only[Zg]
 refine Zmx rfl ?_
 refine⟨_,rfl,_,_,_,_,rfl,rc,tb1,Zrt (s:=ini t D),_,rfl,?_⟩
 dsimp only[Zg]
 refine Zrd (n:=n) di R (Zuw ho hv) hm fun C' F R'=>?_
 have ef:adv m (m-(ini t D).k).toNat (settled (ini t D))=fin t D m:=by show adv m (m-0).toNat _=_;rw[Int.sub_zero];rfl
 rw[ef] at R'
 refine⟨_,rfl,_,_,_,_,rfl,R'.r,tb1,Zrs,?_⟩
 dsimp only[Zg]
 refine Zrb (n:=n+d+9) R' fun p C2 hE hp hG=>?_
 exact q p C2 ((fr C' F).trans hE) ((fr C' F).free hp) hG
end
open PySem PySem.Spec PyProof.Rows L2 WL
theorem Zct {s:St}(h:one s=none):∀j,stl j s=s
 | 0=>rfl
 | j+1=>by unfold stl;rw[h]
theorem Zsz {d:Nat}:∀(i j:Nat) {s:St},Ok d s→mu s≤i→mu s≤j→stl i s=stl j s
 | 0,j,s,q,h,_=>by
  have:one s=none:=(Zla 0 q h).2.1
  rw[Zct this,Zct this]
 | i+1,j,s,q,h,h'=>by
  cases e:one s with
  | none=>rw[Zct e,Zct e]
  | some s'=>
   obtain⟨q',hl,_⟩:=Zim q e
   obtain⟨j',rfl⟩:∃j',j=j'+1:=⟨j-1,by omega⟩
   have:=Zsz i j' q' (by omega) (by omega)
   unfold stl
   rw[e]
   exact this
def Ends (m:Int)(s r:St):Prop:=∀d,Ok d s→adv m (m-s.k).toNat (settled s)=r
theorem Zbm {m:Int}{s s' r:St}(h:one s=some s')(e:Ends m s' r):Ends m s r:=fun d q=>by
 obtain⟨q',hl,hk⟩:=Zim q h
 have hs:settled s=settled s':=by
  obtain⟨j,hj⟩:∃j,mu s=j+1:=⟨mu s-1,by omega⟩
  have:stl (j+1) s=stl j s':=by show(match one s with | some s'=>stl j s' | none=>s)=_;rw[h]
  show stl (mu s) s=stl (mu s') s'
  rw[hj,this]
  exact Zsz _ _ q' (by omega) (by omega)
 rw[hs,←hk]
 exact e d q'
theorem Zf7 {m:Int}{s r:St}(h:one s=none)(he:enB s.e=true)(hk:s.k<m)(hm:m≤1000)(e:Ends m (stp {s with k:=s.k+1}) r):Ends m s r:=fun d q=>by
 have hs:settled s=s:=Zct h _
 rw[hs]
 obtain⟨j,hj⟩:∃j,(m-s.k).toNat=j+1:=⟨(m-s.k).toNat-1,by omega⟩
 rw[hj]
 show(if enB s.e=true∧s.k<m then adv m j (settled (stp {s with k:=s.k+1})) else s)=r
 rw[XY ⟨he,hk⟩]
 have hk':(stp {s with k:=s.k+1}).k=s.k+1:=(Zp1 (s:={s with k:=s.k+1})).1.k
 have:=e d (Zsy q he h (by omega))
 rw[hk',show(m-(s.k+1)).toNat=j by omega] at this
 exact this
theorem Zi8 {m:Int}{s:St}(h:one s=none)(he:¬(enB s.e=true∧s.k<m)):Ends m s s:=fun d q=>by
 have hs:settled s=s:=Zct h _
 rw[hs,Zmm he]
theorem Zu6 {d:Nat}{t:Tm}{D m:Int}{r:St}(ho:ok 0 d [] t)(hv:isVt t=false)(e:Ends m (ini t D) r):fin t D m=r:=by
 have:=e d (Zuw ho hv)
 rw[show m-(ini t D).k=m from Int.sub_zero m] at this
 exact this
def E (m:Int)(h:Hd)(w:Int)(P:List Fm)(S:List Pc)(U:List Str)(D:List Tm)(k:Int)(e:En):Prop:=∀L G c f,D.length=L.length→∃r,Ends m ⟨h,w,P,S,U,D,L,G,k,c,f,.no⟩ r∧r.e=e
section
variable {m w k:Int}{h:Hd}{P:List Fm}{S:List Pc}{U:List Str}{D:List Tm}{e:En}{x c o:Str}{t a b:Tm}{q:Int}{i j:Nat}{v y:Int}
theorem Zi9 (hq:0<q)(H:E m (.tm t) q P S U D k e):E m .no w P (S++[.part q t]) U D k e:=fun L G c f hL=>by
 obtain⟨r,hr,he⟩:=H L G c f hL
 refine⟨r,Zbm (Zgo rfl rfl) ?_,he⟩
 unfold tnS
 simp only[List.getLast?_concat,List.dropLast_concat]
 rw[XX (by omega)]
 exact hr
theorem e_q (hq:q≤0)(H:E m .no w P S (U++[("?":Str)]) D k e):E m .no w P (S++[.part q t]) U D k e:=fun L G c f hL=>by
 obtain⟨r,hr,he⟩:=H L G c f hL
 refine⟨r,Zbm (Zgo rfl rfl) ?_,he⟩
 unfold tnS
 simp only[List.getLast?_concat,List.dropLast_concat]
 rw[XY hq]
 exact hr
theorem Zco (H:E m .no w P S (U++[x]) D k e):E m .no w P (S++[.word x]) U D k e:=fun L G c f hL=>by
 obtain⟨r,hr,he⟩:=H L G c f hL
 refine⟨r,Zbm (Zgo rfl rfl) ?_,he⟩
 unfold tnS
 simp only[List.getLast?_concat,List.dropLast_concat]
 exact hr
theorem Zl4:E m .no w P [] U D k (.told (Txt.join "" U)):=fun L G c f hL=>
 ⟨_,Zbm (Zgo rfl rfl) (Zi8 (by rfl) (by rintro⟨z,_⟩;cases z)),rfl⟩
theorem Z1r:E m (.tm (.stop x)) w P S U D k (.stop x):=fun L G c f hL=>
 ⟨_,Zbm (Zt2 rfl rfl rfl) (Zi8 (by rfl) (by rintro⟨z,_⟩;cases z)),rfl⟩
theorem nst (hv:isV h=true):noB h=false∧isSt h=none:=by
 cases h with
 | no=>cases hv
 | tm t=>cases t<;>first | exact⟨rfl,rfl⟩ | cases hv
 | made c ms=>exact⟨rfl,rfl⟩
theorem Zy7 (hv:isV h=true)(H:E m .no w [] (S++(pcs h (w-1)).reverse) U D k e):E m h w [] S U D k e:=fun L G c f hL=>by
 obtain⟨r,hr,he⟩:=H L G c f hL
 exact⟨r,Zbm (Zt1 (Zqb rfl (nst hv).1 (nst hv).2 hv) rfl) hr,he⟩
theorem Zfd (hv:isV h=true)(H:E m h w P S U D k e):E m h w (P++[.back i]) S U D k e:=fun L G c f hL=>by
 obtain⟨r,hr,he⟩:=H L (G++[⟨"back",i,(L[i]?).getD "",k⟩]) c f hL
 refine⟨r,Zbm (Zt4 (Zqb rfl (nst hv).1 (nst hv).2 hv) List.getLast?_concat rfl) ?_,he⟩
 unfold bkS
 simp only[List.dropLast_concat]
 exact hr
theorem e_ap (hk:k<m)(hm:m≤1000)(hv:isVt t=false)(hs:isSt (.tm t)=none)(H:∀L G c f,D.length=L.length→∃r,Ends m (apS ⟨.tm t,w,P,S,U,D,L,G,k+1,c,f,.no⟩ t) r∧r.e=e):E m (.tm t) w P S U D k e:=fun L G c f hL=>by
 obtain⟨r,hr,he⟩:=H L G c f hL
 refine⟨r,Zf7 (Zin rfl rfl hs hv) rfl hk hm ?_,he⟩
 rw[Zsx rfl hv]
 exact hr
theorem Zvh (hk:k<m)(hm:m≤1000)(H:E m (.tm a) w (P++[.give b]) S U D (k+1) e):E m (.tm (.call a b)) w P S U D k e:=e_ap hk hm rfl rfl fun L G c f hL=>H L G c f hL
theorem Z1u (hk:k<m)(hm:m≤1000)(H:E m (.tm a) w (P++[.left o b]) S U D (k+1) e):E m (.tm (.does o a b)) w P S U D k e:=e_ap hk hm rfl rfl fun L G c f hL=>H L G c f hL
theorem e_ch {n:Nat}{cs:Fin n→Str}{ns:Fin n→List Str}{bs:Fin n→Tm}(hk:k<m)(hm:m≤1000)(H:E m (.tm a) w (P++[.pick ((List.finRange n).map fun i=>(cs i,ns i,bs i))]) S U D (k+1) e):E m (.tm (.ch a n cs ns bs)) w P S U D k e:=e_ap hk hm rfl rfl fun L G c f hL=>H L G c f hL
theorem e_at (hk:k<m)(hm:m≤1000)(hi:D[i]?=some t)(H:E m (.tm t) w (P++[.back i]) S U D (k+1) e):E m (.tm (.at_ i)) w P S U D k e:=e_ap hk hm rfl rfl fun L G c f hL=>by
 obtain⟨r,hr,he⟩:=H L (G++[⟨"enter",i,(L[i]?).getD "",k+1⟩]) c f hL
 refine⟨r,?_,he⟩
 unfold apS
 simp only[hi]
 exact hr
def kp (D:List Tm)(t:Tm):List Tm:=if isM t=true then D else D++[t]
def ix (D:List Tm):Tm→Nat
 | .at_ i=>i
 | _=>D.length
theorem mk_e {s:St}{l:Str}{t:Tm}(h:s.D.length=s.L.length):∃L G,mkS s l t={s with D:=kp s.D t,L:=L,G:=G}∧mkN s t=ix s.D t∧(kp s.D t).length=L.length:=by
 unfold mkS kp
 cases hm:isM t with
 | true=>exact⟨s.L,s.G,by simp,by(cases t<;>first | rfl | (cases hm)),by simpa using h⟩
 | false=>refine⟨s.L++[l],s.G++[nt s "born" s.L.length l],rfl,by(rw[Zln hm,←h];cases t<;>first | rfl | (cases hm)),by show(s.D++[t]).length=(s.L++[l]).length;rw[List.length_append,List.length_append,h];rfl⟩
theorem Zqr (hk:k<m)(hm:m≤1000)(H:E m (.made c [ix D a,ix (kp D a) b]) w P S U (kp (kp D a) b) (k+1) e):E m (.tm (.shp2 c a b)) w P S U D k e:=e_ap hk hm rfl rfl fun L G c' f hL=>by
 obtain⟨s0,hs0,hD⟩:∃s0:St,s0=Y1 ⟨.tm (.shp2 c a b),w,P,S,U,D,L,G,k+1,c',f,.no⟩ c∧∃c'',s0=⟨.tm (.shp2 c a b),w,P,S,U,D,L,G,k+1,c'',f,.no⟩:=⟨_,rfl,by unfold Y1;split<;>exact⟨_,rfl⟩⟩
 obtain⟨c'',hD⟩:=hD
 obtain⟨L1,G1,h1,n1,l1⟩:=mk_e (s:=s0) (l:=lab c 1) (t:=a) (by rw[hD];exact hL)
 obtain⟨L2,G2,h2,n2,l2⟩:=mk_e (s:=mkS s0 (lab c 1) a) (l:=lab c 2) (t:=b) (by rw[h1];exact l1)
 have e1:(mkS s0 (lab c 1) a).D=kp D a:=by rw[h1,hD]
 rw[e1] at l2 n2
 have n1':mkN s0 a=ix D a:=by rw[n1,hD]
 obtain⟨r,hr,he⟩:=H L2 G2 c'' f l2
 refine⟨r,?_,he⟩
 have:apS ⟨.tm (.shp2 c a b),w,P,S,U,D,L,G,k+1,c',f,.no⟩ (.shp2 c a b)={mkS (mkS s0 (lab c 1) a) (lab c 2) b with h:=.made c [mkN s0 a,mkN (mkS s0 (lab c 1) a) b]}:=by rw[hs0];rfl
 rw[this,n2,n1',h2,e1,h1,hD]
 exact hr
theorem e_us {fr:Fm}(hk:k<m)(hm:m≤1000)(hv:isV h=true)(hb:isBk fr=none)(hf:fitF h fr=true)(H:∀L G c f,D.length=L.length→∃r,Ends m (usS ⟨h,w,P,S,U,D,L,G,k+1,c,f,.no⟩ h fr) r∧r.e=e):E m h w (P++[fr]) S U D k e:=fun L G c f hL=>by
 obtain⟨r,hr,he⟩:=H L G c f hL
 refine⟨r,Zf7 (Zt3 (Zqb rfl (nst hv).1 (nst hv).2 hv) List.getLast?_concat hb hf) rfl hk hm ?_,he⟩
 rw[Zyw hv List.getLast?_concat]
 simp only[List.dropLast_concat]
 exact hr
theorem Zvg (hk:k<m)(hm:m≤1000)(H:E m (.tm (pu (mo [(x,ix D t)]) b)) w P S U (kp D t) (k+1) e):E m (.tm (.fn x b)) w (P++[.give t]) S U D k e:=e_us hk hm rfl rfl rfl fun L G c f hL=>by
 obtain⟨L1,G1,h1,n1,l1⟩:=mk_e (s:=⟨.tm (.fn x b),w,P,S,U,D,L,G,k+1,c,f,.no⟩) (l:=x) (t:=t) hL
 obtain⟨r,hr,he⟩:=H L1 G1 c f l1
 refine⟨r,?_,he⟩
 show Ends m {mkS _ x t with h:=.tm (pu (mo [(x,mkN _ t)]) b)} r
 rw[n1,h1]
 exact hr
theorem Z1s {ms:List Nat}{al:List Al}{z:Al}(hz:altF c al=some z)(hk:k<m)(hm:m≤1000)(H:E m (.tm (pu (mo (z.2.1.zip ms)) z.2.2)) w P S U D (k+1) e):E m (.made c ms) w (P++[.pick al]) S U D k e:=e_us hk hm rfl rfl (by show(altF c al).isSome=true;rw[hz];rfl) fun L G c' f hL=>by
 obtain⟨r,hr,he⟩:=H L G c' f hL
 refine⟨r,?_,he⟩
 show Ends m (match altF c al with | some a=>_ | none=>_) r
 rw[hz]
 exact hr
theorem Z1t (hk:k<m)(hm:m≤1000)(H:E m (.tm t) w (P++[.right o v]) S U D (k+1) e):E m (.tm (.num v)) w (P++[.left o t]) S U D k e:=e_us hk hm rfl rfl rfl fun L G c f hL=>H L G c f hL
theorem Zx6 (hk:k<m)(hm:m≤1000)(H:E m (Zdq o y v) w P S U D (k+1) e):E m (.tm (.num v)) w (P++[.right o y]) S U D k e:=e_us hk hm rfl rfl rfl fun L G c f hL=>H L G c f hL
theorem Zy9 {n:Nat}{xs:Fin n→Str}{ts:Fin n→Tm}(hk:k<m)(hm:m≤1000)(H:E m (.tm (pu (mo (mB D.length (nms xs) (nms xs).length)) b)) w P S U (D++(List.finRange n).map fun i=>pu (mo (mB D.length (nms xs) (nms xs).length)) (ts i)) (k+1) e):E m (.tm (.lt n xs ts b)) w P S U D k e:=e_ap hk hm rfl rfl fun L G c f hL=>by
 obtain⟨hl,_,hD,hP,hS,hU,hkk,hw,hc,hf,he'⟩:=bA_f (s:=⟨.tm (.lt n xs ts b),w,P,S,U,D,L,G,k+1,c,f,.no⟩) (ns:=nms xs) (nms xs).length (XE _)
 obtain⟨r,hr,he⟩:=H (bA ⟨.tm (.lt n xs ts b),w,P,S,U,D,L,G,k+1,c,f,.no⟩ (nms xs) (nms xs).length).L (bA ⟨.tm (.lt n xs ts b),w,P,S,U,D,L,G,k+1,c,f,.no⟩ (nms xs) (nms xs).length).G c f (by rw[hl];simp[hL])
 refine⟨r,?_,he⟩
 show Ends m (Zog _ _ _ _) r
 unfold Zog mkM
 dsimp only
 rw[hw,hP,hS,hU,hkk,hc,hf,he',←hL]
 exact hr
theorem Zy8 (H:E m .no w [] S (U++[Xx v]) D k e):E m (.tm (.num v)) w [] S U D k e:=Zy7 rfl (Zco H)
theorem Zvf (H:E m .no w [] S (U++[Xx v]) D k e):E m (.tm (.num v)) w [.back i] S U D k e:=Zfd (P:=[]) rfl (Zy8 H)
end
open PySem PySem.Spec PyProof.Rows L2 WL
section
variable {m w k:Int}{h:Hd}{P:List Fm}{S:List Pc}{U:List Str}{D:List Tm}{e:En}{x c o wd:Str}{t a b:Tm}{q:Int}{i j:Nat}{v y:Int}
theorem Zlu (hb:isM a=false):kp D a=D++[a]:=by unfold kp;rw[XX (by rw[hb];decide)]
theorem Zpg (hb:isM a=false):ix D a=D.length:=by cases a<;>first | rfl | cases hb
def Top (P:List Fm):Prop:=P=[]∨∃i,P=[.back i]
theorem e_top (hv:isV h=true)(hP:Top P)(H:E m h w [] S U D k e):E m h w P S U D k e:=by
 rcases hP with rfl | ⟨i,rfl⟩
 ·exact H
 ·exact Zfd (P:=[]) hv H
theorem Zl5 (hk:k<m)(hm:m≤1000)(ha:isM a=false)(hb:isM b=false)(hP:Top P)
  (H:E m .no w [] (S++[.word ")",.part (w-1) (.at_ (D.length+1)),.word " ",.part (w-1) (.at_ D.length),.word " ",.word ("("++"Cons")]) U (D++[a,b]) (k+1) e):E m (.tm (.shp2 "Cons" a b)) w P S U D k e:=by
 refine Zqr hk hm (e_top rfl hP (Zy7 rfl ?_))
 rw[Zpg ha,Zpg hb,Zlu ha,Zlu hb,List.length_append,YL]
 exact H
theorem app6 {α:Type}{S:List α}{a b c d e f:α}:S++[a,b,c,d,e,f]=S++[a,b,c,d,e]++[f]:=by simp
theorem app5 {α:Type}{S:List α}{a b c d e:α}:S++[a,b,c,d,e]=S++[a,b,c,d]++[e]:=by simp
theorem app4 {α:Type}{S:List α}{a b c d:α}:S++[a,b,c,d]=S++[a,b,c]++[d]:=by simp
theorem app3 {α:Type}{S:List α}{a b c:α}:S++[a,b,c]=S++[a,b]++[c]:=by simp
theorem app2 {α:Type}{S:List α}{a b:α}:S++[a,b]=S++[a]++[b]:=by simp
def qPcs:List Str:=[("(":Str)++("Cons":Str),(" ":Str),("?":Str),(" ":Str),("?":Str),(")":Str)]
theorem e_qq (hq:q≤0)(H:E m .no w [] S (U++qPcs) D k e):E m .no w [] (S++[.word ")",.part q a,.word " ",.part q b,.word " ",.word ("("++"Cons")]) U D k e:=by
 rw[app6];refine Zco ?_
 rw[app5];refine Zco ?_
 rw[app4];refine e_q hq ?_
 rw[app3];refine Zco ?_
 rw[app2];refine e_q hq ?_
 refine Zco ?_
 simp only[List.append_assoc,List.cons_append,List.nil_append]
 exact H
theorem e_hd (hq:0<q)(H:E m (.tm b) q [] (S++[.word ")",.part q a,.word " "]) (U++[("("++"Cons":Str),(" ":Str)]) D k e):E m .no w [] (S++[.word ")",.part q a,.word " ",.part q b,.word " ",.word ("("++"Cons")]) U D k e:=by
 rw[app6];refine Zco ?_
 rw[app5];refine Zco ?_
 rw[app4];refine Zi9 hq ?_
 simp only[List.append_assoc,List.cons_append,List.nil_append]
 exact H
theorem e_tl (hq:0<q)(H:E m (.tm a) q [] (S++[.word ")"]) (U++[(" ":Str)]) D k e):E m .no w [] (S++[.word ")",.part q a,.word " "]) U D k e:=by
 rw[app3];refine Zco ?_
 rw[app2];exact Zi9 hq H
def cutp:List Int→Nat→List Str
 | v::vs,n+1=>[("(":Str)++("Cons":Str),(" ":Str),Xx v,(" ":Str)]++cutp vs n++[(")":Str)]
 | _,_=>qPcs
def lstT (wd:Str):List Int→Tm
 | []=>.stop wd
 | v::vs=>.shp2 "Cons" (.num v) (lstT wd vs)
theorem Zpe (vs:List Int):isM (lstT wd vs)=false:=by cases vs<;>rfl
theorem at0 {x y:Tm}:(D++[x,y])[D.length]?=some x:=by rw[List.getElem?_append_right (XE _),Nat.sub_self];rfl
theorem at1 {x y:Tm}:(D++[x,y])[D.length+1]?=some y:=by rw[List.getElem?_append_right (by omega),Nat.add_sub_cancel_left];rfl
theorem Zkl (hm:m≤1000):∀(n:Nat) (vs:List Int) {k w:Int} {P:List Fm} {S:List Pc} {U:List Str} {D:List Tm},n<vs.length→w=(n:Int)+1→Top P→k+3*n+1≤m→(∀w D' k',E m .no w [] S (U++cutp vs n) D' k' e)→E m (.tm (lstT wd vs)) w P S U D k e
 | n,[],k,w,P,S,U,D,hn,_,_,_,_=>by simp at hn
 | 0,v::vs,k,w,P,S,U,D,_,hw,hP,hk,H=>by
  refine Zl5 (by omega) hm rfl (Zpe vs) hP (e_qq (by omega) (H _ _ _))
 | n+1,v::vs,k,w,P,S,U,D,hn,hw,hP,hk,H=>by
  refine Zl5 (by omega) hm rfl (Zpe vs) hP (e_hd (by omega) (e_at (by omega) hm at0 (Zvf (e_tl (by omega) (e_at (by omega) hm at1 ?_)))))
  refine Zkl hm n vs (by simpa using hn) (by omega) (.inr ⟨_,rfl⟩) (by omega) fun w D' k'=>Zco ?_
  have:=H w D' k'
  simp only[cutp,List.append_assoc,List.cons_append,List.nil_append] at this ⊢
  exact this
theorem Zkm (hm:m≤1000):∀(n:Nat) (vs:List Int) {k w:Int} {P:List Fm} {S:List Pc} {U:List Str} {D:List Tm},vs.length≤n→w=(n:Int)+1→Top P→k+3*vs.length≤m→E m (.tm (lstT wd vs)) w P S U D k (.stop wd)
 | n,[],k,w,P,S,U,D,hn,_,_,_=>Z1r
 | 0,v::vs,k,w,P,S,U,D,hn,_,_,_=>by simp at hn
 | n+1,v::vs,k,w,P,S,U,D,hn,hw,hP,hk=>by
  have hk':k+3*(vs.length+1:Nat)≤m:=hk
  refine Zl5 (by omega) hm rfl (Zpe vs) hP (e_hd (by omega) (e_at (by omega) hm at0 (Zvf (e_tl (by omega) (e_at (by omega) hm at1 ?_)))))
  exact Zkm hm n vs (by simpa using hn) (by omega) (.inr ⟨_,rfl⟩) (by omega)
end
open PySem PySem.Spec PyProof.Rows L2 WL
def f2 {α:Type}(a b:α):Fin 2→α:=fun i=>match i with | 0=>a | 1=>b
theorem f2_e {α β:Type}{a b:α}{f:Fin 2→α→β}:(fun i=>f i (f2 a b i))=f2 (f 0 a) (f 1 b):=by
 funext i
 match i with
 | 0=>rfl
 | 1=>rfl
theorem Zu9 {α β:Type}{f:Fin 2→β}:(List.finRange 2).map f=[f 0,f 1]:=rfl
def goT (g:Tm)(more:Int):Tm:=.fn "n" (.shp2 "Cons" (.nm "n") (.call g (.does "+" (.nm "n") (.num more))))
def Zhd (e:Tm)(o:Str)(z:Int):Tm:=.shp2 "Cons" (.does o (.nm "h") (.num z)) (.call e (.nm "t"))
def Zf8 (e:Tm)(o:Str)(z:Int):Tm:=.fn "l" (.ch (.nm "l") 2 (f2 "Nil" "Cons") (f2 [] ["h","t"]) (f2 (.shp0 "Nil") (Zhd e o z)))
def Zc1 (o:Str)(z more:Int)(st:Tm):Tm:=.lt 2 (f2 "go" "each") (f2 (goT (.nm "go") more) (Zf8 (.nm "each") o z)) (.call (.nm "each") (.call (.nm "go") st))
section
variable {g e i j:Nat}{more z:Int}{o:Str}
theorem pu_go:pu (mo [("go",g),("each",e)]) (goT (.nm "go") more)=goT (.at_ g) more:=rfl
theorem Zwv:pu (mo [("go",g),("each",e)]) (Zf8 (.nm "each") o z)=Zf8 (.at_ e) o z:=by
 show Tm.fn "l" (.ch (.nm "l") 2 (f2 "Nil" "Cons") (f2 [] ["h","t"]) (fun i=>pu (del (del (mo [("go",g),("each",e)]) ["l"]) (f2 [] ["h","t"] i)) (f2 (.shp0 "Nil") (Zhd (.nm "each") o z) i)))=_
 rw[f2_e (f:=fun i t=>pu (del (del (mo [("go",g),("each",e)]) ["l"]) (f2 [] ["h","t"] i)) t)]
 rfl
theorem pu_n:pu (mo [("n",i)]) (.shp2 "Cons" (.nm "n") (.call (.at_ g) (.does "+" (.nm "n") (.num more))))=.shp2 "Cons" (.at_ i) (.call (.at_ g) (.does "+" (.at_ i) (.num more))):=rfl
theorem pu_l:pu (mo [("l",i)]) (.ch (.nm "l") 2 (f2 "Nil" "Cons") (f2 [] ["h","t"]) (f2 (.shp0 "Nil") (Zhd (.at_ e) o z)))=.ch (.at_ i) 2 (f2 "Nil" "Cons") (f2 [] ["h","t"]) (f2 (.shp0 "Nil") (Zhd (.at_ e) o z)):=by
 show Tm.ch (.at_ i) 2 (f2 "Nil" "Cons") (f2 [] ["h","t"]) (fun j=>pu (del (mo [("l",i)]) (f2 [] ["h","t"] j)) (f2 (.shp0 "Nil") (Zhd (.at_ e) o z) j))=_
 rw[f2_e (f:=fun j t=>pu (del (mo [("l",i)]) (f2 [] ["h","t"] j)) t)]
 rfl
theorem pu_ht:pu (mo ((["h","t"]:List Str).zip [i,j])) (Zhd (.at_ e) o z)=.shp2 "Cons" (.does o (.at_ i) (.num z)) (.call (.at_ e) (.at_ j)):=rfl
theorem Zv4 {t u:Tm}:altF "Cons" ((List.finRange 2).map fun i=>(f2 ("Nil":Str) "Cons" i,f2 [] [("h":Str),("t":Str)] i,f2 t u i))=some (("Cons":Str),[("h":Str),("t":Str)],u):=rfl
end
section
variable {m w k k':Int}{h:Hd}{P:List Fm}{S:List Pc}{U:List Str}{D:List Tm}{e:En}{x c o wd:Str}{t a b X Y:Tm}{q:Int}{i j g ea:Nat}{v y z more:Int}
theorem E.ek (H:E m h w P S U D k e)(hk:k=k'):E m h w P S U D k' e:=hk▸H
theorem Zi2 (hi:D[i]?=some t):(kp D a)[i]?=some t:=by
 unfold kp
 split
 ·exact hi
 ·rw[List.getElem?_append_left (List.getElem?_eq_some_iff.mp hi).1];exact hi
theorem Zh3 {R:List Tm}(hi:D[i]?=some t):(D++R)[i]?=some t:=by rw[List.getElem?_append_left (List.getElem?_eq_some_iff.mp hi).1];exact hi
theorem Zza {D1 D2:List Tm}{N T:Nat}(hm:m≤1000)(hk:k+11≤m)(hg:D[g]?=some (goT (.at_ g) more))(he:D[ea]?=some (Zf8 (.at_ ea) o z))(hP:Top P)(h1:D1=kp D X)(hT:D1[ix D X]?=some (.call (.at_ g) Y))(h2:D2=kp D1 Y)(hN:N=ix D1 Y)(hT':T=D2.length)
  (H:E m .no w [] (S++[.word ")",.part (w-1) (.at_ (T+2)),.word " ",.part (w-1) (.at_ (T+1)),.word " ",.word ("("++"Cons")]) U (D2++[.call (.at_ g) (.does "+" (.at_ N) (.num more)),.does o (.at_ N) (.num z),.call (.at_ ea) (.at_ T)]) (k+11) e):E m (.tm (.call (.at_ ea) X)) w P S U D k e:=by
 subst h1 h2 hN hT'
 refine Zvh (by omega) hm (e_at (by omega) hm he (Zfd rfl (Zvg (by omega) hm ?_)))
 rw[pu_l]
 refine e_ch (by omega) hm (e_at (by omega) hm hT (Zvh (by omega) hm (e_at (by omega) hm (Zi2 hg) (Zfd rfl (Zvg (by omega) hm ?_)))))
 rw[pu_n]
 refine Zqr (by omega) hm (Zfd rfl (Z1s Zv4 (by omega) hm ?_))
 show E m (.tm (pu (mo ((["h","t"]:List Str).zip _)) (Zhd (.at_ ea) o z))) _ _ _ _ _ _ _
 rw[pu_ht]
 refine Zl5 (by omega) hm rfl rfl hP ?_
 refine E.ek (k:=k+11) ?_ (by omega)
 have e1:kp (kp (kp (kp D X) Y) (.at_ (ix (kp D X) Y))) (.call (.at_ g) (.does "+" (.at_ (ix (kp D X) Y)) (.num more)))=kp (kp D X) Y++[.call (.at_ g) (.does "+" (.at_ (ix (kp D X) Y)) (.num more))]:=rfl
 rw[e1,List.length_append,YL]
 exact H
inductive CH (D:List Tm):Nat→Int→Nat→Prop
 | num {i:Nat} {v:Int} (h:D[i]?=some (.num v)):CH D i v 1
 | op {i j n:Nat} {o:Str} {x y v:Int} (h:D[i]?=some (.does o (.at_ j) (.num y))) (hj:CH D j x n) (hr:Zdq o x y=.tm (.num v)):CH D i v (n+4)
theorem CH.app {R:List Tm}{n:Nat}(hc:CH D i v n):CH (D++R) i v n:=by
 induction hc with
 | num h=>exact .num (Zh3 h)
 | op h _ hr ih=>exact .op (Zh3 h) ih hr
theorem Zx7 {n:Nat}(hm:m≤1000)(hc:CH D i v n):∀{k:Int} {P:List Fm},k+n≤m→E m (.tm (.num v)) w P S U D (k+n) e→E m (.tm (.at_ i)) w P S U D k e:=by
 induction hc with
 | num h=>exact fun hk H=>e_at (by omega) hm h (Zfd rfl H)
 | op h hj hr ih=>
  intro k P hk H
  refine e_at (by omega) hm h (Z1u (by omega) hm (ih (by omega) (Z1t (by omega) hm (Zx6 (by omega) hm ?_))))
  rw[hr]
  exact Zfd rfl (E.ek H (by omega))
def rk (o:Str)(x y:Int):Int:=(if o="+" then x+y else if o="-" then x-y else x*y)%big
def Op (o:Str):Prop:=o≠"<"∧o≠"="
theorem rk_f {x y:Int}(h:Op o):Zdq o x y=.tm (.num (rk o x y)):=by unfold Zdq rk;rw[XX h.1,XX h.2]
theorem Zo3:Op "+":=⟨by decide+kernel,by decide+kernel⟩
theorem Zz3 {x y:Int}:rk "+" x y=(x+y)%big:=by unfold rk;rw[XY rfl]
def seqv (o:Str)(z more:Int):Int→Nat→List Int
 | _,0=>[]
 | cur,n+1=>rk o cur z::seqv o z more ((cur+more)%big) n
def cst:Nat→Nat→Nat
 | 0,_=>11
 | n+1,y=>16+y+cst n (y+4)
theorem Zkt (hm:m≤1000)(ho:Op o):∀(n:Nat) {ny:Nat} {cur k w:Int} {P:List Fm} {S:List Pc} {U:List Str} {D:List Tm} {X Y:Tm},w=(n:Int)+1→Top P→D[g]?=some (goT (.at_ g) more)→D[ea]?=some (Zf8 (.at_ ea) o z)→(kp D X)[ix D X]?=some (.call (.at_ g) Y)→CH (kp (kp D X) Y) (ix (kp D X) Y) cur ny→k+cst n ny≤m→(∀w D' k',E m .no w [] S (U++cutp (seqv o z more cur n) n) D' k' e)→E m (.tm (.call (.at_ ea) X)) w P S U D k e
 | 0,ny,cur,k,w,P,S,U,D,X,Y,hw,hP,hg,he,hT,hC,hk,H=>by
  refine Zza hm hk hg he hP rfl hT rfl rfl rfl (e_qq (by omega) (H _ _ _))
 | n+1,ny,cur,k,w,P,S,U,D,X,Y,hw,hP,hg,he,hT,hC,hk,H=>by
  have hk':k+(16+ny+cst n (ny+4):Nat)≤m:=hk
  refine Zza hm (by omega) hg he hP rfl hT rfl rfl rfl (e_hd (by omega) (Zx7 (v:=rk o cur z) (n:=ny+4) hm (.op (j:=ix (kp D X) Y) (o:=o) (y:=z) (by simp) hC.app (rk_f ho)) (by omega) (Zy8 (e_tl (by omega) (e_at (by omega) hm (t:=.call (.at_ ea) (.at_ (kp (kp D X) Y).length)) (by simp) ?_)))))
  refine Zkt hm ho n (cur:=(cur+more)%big) (ny:=ny+4) (Y:=.does "+" (.at_ (ix (kp D X) Y)) (.num more)) (by omega) (.inr ⟨_,rfl⟩) (Zh3 (Zi2 (Zi2 hg))) (Zh3 (Zi2 (Zi2 he))) ?_ ?_ (by omega) fun w D' k'=>Zco ?_
  ·show(_++_)[_]?=_
   simp[ix]
  ·refine .op (j:=ix (kp D X) Y) (o:="+") (y:=more) (x:=cur) ?_ ?_ (by rw[rk_f Zo3,Zz3])
   ·exact List.getElem?_concat_length
   ·exact hC.app.app
  ·have:=H w D' k'
   simp only[seqv,cutp,List.append_assoc,List.cons_append,List.nil_append] at this ⊢
   exact this
end
open PySem PySem.Spec PyProof.Rows L2 WL
theorem Zmc (x y:Str):(x++y).cps.toList=x.cps.toList++y.cps.toList:=by rw[Str.cps_append,Array.toList_append]
theorem Zwi {a b:Str}(h:a.cps.toList=b.cps.toList):a=b:=Str.ext' (Array.toList_inj.mp h)
theorem Zur (ws:List Str):(Txt.join ("":Str) ws).cps.toList=ws.flatMap fun w=>w.cps.toList:=by
 show(PySem.Builtin.Str.glued ("":Str) ws).cps.toList=_
 rw[PySem.StrLaws.glued_eq_join]
 induction ws with
 | nil=>rfl
 | cons w r ih=>
  cases r with
  | nil=>show w.cps.toList=w.cps.toList++[];rw[YK]
  | cons v r=>
   show(w++("":Str)++Str.join ("":Str) (v::r)).cps.toList=_
   rw[Zmc,Zmc,ih]
   show w.cps.toList++[]++_=w.cps.toList++_
   rw[YK]
   rfl
def ctx:List Int→Str
 | []=>"(Cons ? ?)"
 | v::vs=>("(Cons ":Str)++Xx v++(" ":Str)++ctx vs++(")":Str)
theorem Zf2:∀(vs:List Int) (n:Nat),Txt.join ("":Str) (cutp vs n)=ctx (vs.take n)
 | [],n=>by cases n<;>(unfold cutp;rw[List.take_nil];exact(by decide+kernel:Txt.join ("":Str) qPcs="(Cons ? ?)"))
 | v::vs,0=>(by decide+kernel:Txt.join ("":Str) qPcs="(Cons ? ?)")
 | v::vs,n+1=>by
  have ih:=Zf2 vs n
  refine Zwi ?_
  rw[Zur,List.take_succ_cons]
  unfold cutp ctx
  rw[←ih]
  simp only[Zmc,Zur,List.flatMap_append,List.flatMap_cons,List.flatMap_nil,List.append_nil,List.append_assoc]
  rfl
section
variable {D m:Int}{t:Tm}{e:En}{d:Nat}{wd o:Str}{vs:List Int}{z more st:Int}
theorem Zqo (ho:ok 0 d [] t)(hv:isVt t=false)(H:E m .no 0 [] [.part D t] [] [] 0 e):(fin t D m).e=e:=by
 obtain⟨r,hr,he⟩:=H [] [] 0 0 rfl
 rw[Zu6 ho hv hr,he]
theorem Zu5 (ho:ok 0 d [] t)(hv:isVt t=false)(hD:D≤0):(fin t D m).e=.told "?":=Zqo ho hv (e_q (S:=[]) hD Zl4)
theorem Zpd (hw:gl wd):∀(vs:List Int),(∀v∈vs,0≤v∧v<big)→ok 0 vs.length [] (lstT wd vs)
 | [],_=>hw
 | v::vs,h=>by
  refine⟨by simp,⟨⟨by decide+kernel,by decide+kernel⟩,by decide+kernel⟩,h v (by simp),?_⟩
  exact Zpd hw vs fun x hx=>h x (by simp[hx])
theorem Zki:isVt (lstT wd vs)=false:=by cases vs<;>rfl
theorem Zu7 (ho:ok 0 d [] (lstT wd vs))(hl:vs.length≤22)(hm:70≤m)(hm':m≤1000):(fin (lstT wd vs) D m).e=if D>vs.length then .stop wd else .told (if D>0 then ctx (vs.take (D-1).toNat) else "?"):=by
 by_cases hD:D≤0
 ·rw[Zu5 ho Zki hD,XX (by omega),XX (by omega)]
 ·obtain⟨n,rfl⟩:∃n:Nat,D=(n:Int)+1:=⟨(D-1).toNat,by omega⟩
  refine Zqo ho Zki (Zi9 (S:=[]) (by omega) ?_)
  by_cases c:vs.length≤n
  ·rw[XY (by omega)]
   exact Zkm hm' n vs c rfl (.inl rfl) (by omega)
  ·rw[XX (by omega),XY (by omega),show((n:Int)+1-1).toNat=n by omega,←Zf2]
   exact Zkl hm' n vs (by omega) rfl (.inl rfl) (by omega) fun w D' k'=>Zl4
theorem Zh9:∀(n:Nat) (c:Int),(seqv o z more c n).length=n
 | 0,_=>rfl
 | n+1,c=>by unfold seqv;rw[YF,Zh9 n]
theorem Zu1 {S:List Pc}{D0:List Tm}{w k:Int}{n:Nat}{s0:Tm}{U:List Str}(hm:m≤1000)(ho:Op o)(hw:w=(n:Int)+1)(hk:k+1+cst n 1≤m)(hs:pu (mo [("go",D0.length),("each",D0.length+1)]) s0=s0)
  (hc':∀R,CH (kp (D0++R) s0) (ix (D0++R) s0) st 1) (H:∀w D' k',E m .no w [] S (U++cutp (seqv o z more st n) n) D' k' e):E m (.tm (Zc1 o z more s0)) w [] S U D0 k e:=by
 refine Zy9 (by omega) hm ?_
 have e0:mB D0.length (nms (f2 "go" "each")) (nms (f2 "go" "each")).length=[(("go":Str),D0.length),(("each":Str),D0.length+1)]:=rfl
 rw[e0,Zu9 (α:=Str)]
 show E m (.tm (.call (.at_ (D0.length+1)) (.call (.at_ D0.length) (pu _ s0)))) w [] S U (D0++[pu _ (goT (.nm "go") more),pu _ (Zf8 (.nm "each") o z)]) (k+1) e
 rw[hs,pu_go,Zwv]
 refine Zkt hm ho n (cur:=st) (ny:=1) (Y:=s0) hw (.inl rfl) at0 at1 ?_ ?_ hk H
 ·rw[Zlu rfl,Zpg rfl]
  exact List.getElem?_concat_length
 ·rw[Zlu (a:=.call (.at_ D0.length) s0) rfl,YL]
  exact hc' _
theorem cst5 {n:Nat}(h:n≤4):cst n 1≤103:=by
 match n,h with
 | 0,_=>decide
 | 1,_=>decide
 | 2,_=>decide
 | 3,_=>decide
 | 4,_=>decide
theorem Zka:∀n:Nat,(seqv o z more st n).take n=seqv o z more st n:=fun n=>List.take_of_length_le (by rw[Zh9];exact XE _)
theorem Zu8 (ho:Op o)(hok:ok 0 d [] (Zc1 o z more (.num st)))(hD:D≤5):(fin (Zc1 o z more (.num st)) D 200).e=.told (if D>0 then ctx (seqv o z more st (D-1).toNat) else "?"):=by
 by_cases h0:D≤0
 ·rw[Zu5 hok rfl h0,XX (by omega)]
 ·obtain⟨n,rfl⟩:∃n:Nat,D=(n:Int)+1:=⟨(D-1).toNat,by omega⟩
  have hc:=cst5 (n:=n) (by omega)
  refine Zqo hok rfl (Zi9 (S:=[]) (by omega) ?_)
  rw[XY (by omega),show((n:Int)+1-1).toNat=n by omega]
  refine Zu1 (st:=st) (by decide) ho rfl (by omega) rfl (fun R=>?_) fun w D' k'=>?_
  ·exact .num List.getElem?_concat_length
  ·have:ctx (seqv o z more st n)=Txt.join ("":Str) (cutp (seqv o z more st n) n):=by rw[Zf2,Zka]
   rw[this]
   exact Zl4
def letT (i:Tm)(st:Int)(b:Tm):Tm:=.lt 2 (f2 "b" "a") (f2 i (.num st)) b
theorem Zwu {i j:Nat}:pu (mo [("b",i),("a",j)]) (Zc1 o z more (.nm "a"))=Zc1 o z more (.at_ j):=by
 show Tm.lt 2 (f2 "go" "each") (fun k=>pu (del (mo [("b",i),("a",j)]) ["go","each"]) (f2 (goT (.nm "go") more) (Zf8 (.nm "each") o z) k)) (.call (.nm "each") (.call (.nm "go") (.at_ j)))=_
 rw[f2_e (f:=fun k t=>pu (del (mo [("b",i),("a",j)]) ["go","each"]) t)]
 have e1:pu (del (mo [("b",i),("a",j)]) ["go","each"]) (goT (.nm "go") more)=goT (.nm "go") more:=rfl
 have e2:pu (del (mo [("b",i),("a",j)]) ["go","each"]) (Zf8 (.nm "each") o z)=Zf8 (.nm "each") o z:=by
  show Tm.fn "l" (.ch (.nm "l") 2 (f2 "Nil" "Cons") (f2 [] ["h","t"]) (fun k=>pu (del (del (del (mo [("b",i),("a",j)]) ["go","each"]) ["l"]) (f2 [] ["h","t"] k)) (f2 (.shp0 "Nil") (Zhd (.nm "each") o z) k)))=_
  rw[f2_e (f:=fun k t=>pu (del (del (del (mo [("b",i),("a",j)]) ["go","each"]) ["l"]) (f2 [] ["h","t"] k)) t)]
  rfl
 rw[e1,e2]
 rfl
theorem Zr7 {il:Tm}(ho:Op o)(hok:ok 0 d [] (letT il st (Zc1 o z more (.nm "a"))))(hD:D≤5):(fin (letT il st (Zc1 o z more (.nm "a"))) D 200).e=.told (if D>0 then ctx (seqv o z more st (D-1).toNat) else "?"):=by
 by_cases h0:D≤0
 ·rw[Zu5 hok rfl h0,XX (by omega)]
 ·obtain⟨n,rfl⟩:∃n:Nat,D=(n:Int)+1:=⟨(D-1).toNat,by omega⟩
  have hc:=cst5 (n:=n) (by omega)
  refine Zqo hok rfl (Zi9 (S:=[]) (by omega) (Zy9 (by decide) (by decide) ?_))
  have e0:mB ([]:List Tm).length (nms (f2 "b" "a")) (nms (f2 "b" "a")).length=[(("b":Str),0),(("a":Str),1)]:=rfl
  rw[e0,Zu9 (α:=Str),Zwu]
  show E 200 _ _ [] [] [] [pu _ il,.num st] _ _
  rw[XY (by omega),show((n:Int)+1-1).toNat=n by omega]
  refine Zu1 (st:=st) (by decide) ho rfl (by omega) rfl (fun R=>?_) fun w D' k'=>?_
  ·exact .num rfl
  ·have:ctx (seqv o z more st n)=Txt.join ("":Str) (cutp (seqv o z more st n) n):=by rw[Zf2,Zka]
   rw[this]
   exact Zl4
theorem Zdi:∀(n:Nat) (c:Int),0≤c→c<big→seqv o z more c n=(List.range n).map fun k:Nat=>rk o ((c+(k:Int)*more)%big) z
 | 0,_,_,_=>rfl
 | n+1,c,h0,h1=>by
  have hb:(0:Int)<big:=by decide
  unfold seqv
  rw[Zdi n _ (YO _ (by omega)) (Int.emod_lt_of_pos _ hb),List.range_succ_eq_map,YI,YE]
  congr 1
  ·rw[show c+((0:Nat):Int)*more=c by simp,Int.emod_eq_of_lt h0 h1]
  ·refine List.map_congr_left fun k _=>?_
   show rk o (((c+more)%big+(k:Int)*more)%big) z=rk o ((c+((k+1:Nat):Int)*more)%big) z
   rw[Int.emod_add_emod,show c+more+(k:Int)*more=c+((k+1:Nat):Int)*more by rw[Int.natCast_add,Int.add_mul];simp;omega]
theorem all2 {p:Fin 2→Prop}(h0:p 0)(h1:p 1):∀i,p i:=fun i=>match i with | 0=>h0 | 1=>h1
theorem Zqk {Γ:List Str}{s0:Tm}(hz:0≤z∧z<big)(hm:0≤more∧more<big)(hs:ok 0 8 ([("go":Str),("each":Str)]++Γ) s0):ok 0 11 Γ (Zc1 o z more s0):=by
 refine⟨by decide,⟨by decide,by decide,by decide+kernel,all2 (by decide+kernel:1≤("go":Str).length∧("go":Str).length≤100) (by decide+kernel:1≤("each":Str).length∧("each":Str).length≤100)⟩,all2 ?_ ?_,?_⟩
 ·refine⟨by decide,(by decide+kernel:1≤("n":Str).length∧("n":Str).length≤100),by decide,⟨⟨by decide+kernel,by decide+kernel⟩,by decide+kernel⟩,?_,by decide,?_,by decide,?_,hm⟩
  ·show _∈_;simp
  ·show _∈_;simp[nms,f2]
  ·show _∈_;simp
 ·refine⟨by decide,(by decide+kernel:1≤("l":Str).length∧("l":Str).length≤100),by decide,⟨by decide,all2 (by decide+kernel:([]:List Str).length=ar "Nil"∧([]:List Str).Nodup) (by decide+kernel:(["h","t"]:List Str).length=ar "Cons"∧(["h","t"]:List Str).Nodup)⟩,?_,all2 ?_ ?_⟩
  ·show _∈_;simp
  ·exact⟨⟨by decide+kernel,by decide+kernel⟩,by decide+kernel⟩
  ·refine⟨by decide,⟨⟨by decide+kernel,by decide+kernel⟩,by decide+kernel⟩,⟨by decide,?_,hz⟩,by decide,?_,?_⟩
   ·show _∈_;simp[f2]
   ·show _∈_;simp[nms,f2]
   ·show _∈_;simp[f2]
 ·refine⟨by decide,?_,by decide,?_,?_⟩
  ·show _∈_;simp[nms,f2]
  ·show _∈_;simp[nms,f2]
  ·exact Xh (XE _) hs (by decide)
theorem Zxs {il:Tm}(hi:il=.stop "never"∨il=.nm "b")(hst:0≤st∧st<big)(hz:0≤z∧z<big)(hm:0≤more∧more<big):ok 0 12 [] (letT il st (Zc1 o z more (.nm "a"))):=by
 refine⟨by decide,⟨by decide,by decide,by decide+kernel,all2 (by decide+kernel:1≤("b":Str).length∧("b":Str).length≤100) (by decide+kernel:1≤("a":Str).length∧("a":Str).length≤100)⟩,all2 ?_ hst,Zqk hz hm ?_⟩
 ·rcases hi with rfl | rfl
  ·exact(by decide+kernel:1≤("never":Str).length∧("never":Str).length≤100)
  ·show _∈_;simp[nms,f2]
 ·show _∈_;simp[nms,f2]
end
def Zcz:Tm:=.lt 1 (fun _=>"a") (fun _=>.nm "a") (.nm "a")
theorem Zm9 {S:List Pc}{U L:List Str}{w:Int}:∀(n:Nat) (P:List Fm) (G:List Ev) (k:Int),k+n=400→∃r,Ends 400 ⟨.tm (.at_ 0),w,P,S,U,[.at_ 0],L,G,k,0,0,.no⟩ r∧r.e=.no∧r.k=400∧r.c=0∧r.f=0∧r.G.length=G.length+n
 | 0,P,G,k,hk=>⟨_,Zi8 (Zin rfl rfl rfl rfl) (by rintro⟨_,z⟩;have:k<400:=z;omega),rfl,by show k=400;omega,rfl,rfl,rfl⟩
 | n+1,P,G,k,hk=>by
  obtain⟨r,h1,h2,h3,h4,h5,h6⟩:=Zm9 n (P++[.back 0]) (G++[⟨"enter",0,(L[0]?).getD "",k+1⟩]) (k+1) (by omega)
  refine⟨r,Zf7 (Zin rfl rfl rfl rfl) rfl (by show k<400;omega) (by decide) ?_,h2,h3,h4,h5,by rw[h6,List.length_append];show G.length+1+n=_;omega⟩
  rw[Zsx rfl rfl]
  exact h1
theorem Zp4:ok 0 1 [] Zcz:=⟨by decide,⟨by decide,by decide,by decide+kernel,fun _=>(by decide+kernel:1≤("a":Str).length∧("a":Str).length≤100)⟩,fun _=>by show _∈_;decide+kernel,by show _∈_;decide+kernel⟩
theorem Ztg:(fin Zcz 8 400).e=.no∧(fin Zcz 8 400).k=400∧(fin Zcz 8 400).c=0∧(fin Zcz 8 400).f=0∧(fin Zcz 8 400).G.length=400:=by
 obtain⟨r,h1,h2,h3,h4,h5,h6⟩:=Zm9 (S:=[]) (U:=[]) (L:=["a"]) (w:=8) 399 [] [⟨"born",0,"a",1⟩] 1 (by omega)
 have:fin Zcz 8 400=r:=by
  refine Zu6 Zp4 rfl (Zbm (Zgo rfl rfl) (Zf7 (Zin rfl rfl rfl rfl) rfl (by decide) (by decide) ?_))
  exact h1
 rw[this]
 exact⟨h2,h3,h4,h5,h6⟩
open PySem PySem.Spec PyProof.Rows L2 WL
section
variable {C:Hw}{Q:WK}{χ:WX}{n:Nat}
theorem Zcy {d:Int}(hd:0≤d)(q:∀v C',Ex C C'→0≤v→v<big→Q (.int v) C'):wpc pr (n+1) Zjw [.int d] C Q χ:=by
 refine Zjl rfl ?_
 unfold Zac
 walk_at "ws"
 refine⟨.inr ⟨by decide,by decide⟩,⟨by decide,by decide,by decide⟩,⟨by decide,by decide,by decide⟩,fun p hp=>⟨⟨by decide,by decide⟩,_,Zn,?_⟩⟩
 have hb:(10:Int)^Int.toNat 18=big:=by decide+kernel
 rw[hb]
 have hb2:big=1000000000000000000:=rfl
 have h3:d/7%3=0∨d/7%3=1∨d/7%3=2:=by omega
 rcases h3 with h | h | h<;>rw[h]
 ·exact⟨_,Yo,q _ _ (Ex.new hp) (by omega) (by omega)⟩
 ·exact⟨_,Ja,q _ _ (Ex.new hp) (YO _ (by rw[hb2];decide)) (Int.emod_lt_of_pos _ (by rw[hb2];decide))⟩
 ·exact⟨_,Zbt,q _ _ (Ex.new hp) (by omega) (by omega)⟩
theorem Zqw:∀(vs:List Int),(∀v∈vs,0≤v∧v<big)→(ctx vs).length≤10+108*vs.length
 | [],_=>by decide+kernel
 | v::vs,h=>by
  have ih:=Zqw vs fun x hx=>h x (by simp[hx])
  have hv:=h v (by simp)
  have h1:=Zll hv.1 hv.2
  have c1:("(Cons ":Str).length=6:=by decide+kernel
  have c2:(" ":Str).length=1:=by decide+kernel
  have c3:(")":Str).length=1:=by decide+kernel
  unfold ctx
  rw[YC,YC,YC,YC,YF]
  omega
theorem Z18 {α:Type}{xs:List α}{D:Int}:cut xs none (some (if D-1>0 then D-1 else 0))=xs.take (D-1).toNat:=by
 unfold cut
 show(xs.drop 0).take (HT.sIx xs.length xs.length (some (if D-1>0 then D-1 else 0))-0)=_
 rw[List.drop_zero,Nat.sub_zero]
 have e:HT.sIx xs.length xs.length (some (if D-1>0 then D-1 else 0))=min (D-1).toNat xs.length:=by
  by_cases c:D-1>0
  ·rw[XY c]
   unfold HT.sIx
   show(if D-1<0 then _ else min (D-1).toNat xs.length)=_
   rw[XX (by omega)]
  ·rw[XX c]
   unfold HT.sIx
   show min 0 xs.length=_
   omega
 rw[e]
 exact List.take_eq_take_iff.mpr (by omega)
theorem Zta {p:Addr}{vs:List Int}{D:Int}(hp:C p=some (.lst (vs.map T.int)))(hl:vs.length≤30)(hv:∀v∈vs,0≤v∧v<big)(q:∀C',Ex C C'→Q (.str (if D>0 then ctx (vs.take (D-1).toNat) else "?")) C'):wpc pr (n+1) Zhn [.ref p,.int D] C Q χ:=by
 refine Zhh rfl ?_
 unfold Xv
 walk_at "ws"
 unfold iRv
 walk_at "ws"
 refine⟨_,hp,fun p1 h1=>⟨_,Zn,?_⟩⟩
 rw[Z18,←List.map_take,←List.map_reverse]
 have hE:Ex C (up C p1 (.lst ((vs.take (D-1).toNat).map T.int))):=Ex.new h1
 have hv':∀v∈vs.take (D-1).toNat,0≤v∧v<big:=fun v h=>hv v (List.mem_of_mem_take h)
 have hl':(vs.take (D-1).toNat).length≤30:=by rw[YM];omega
 generalize hus:vs.take (D-1).toNat=us at hE hv' hl'
 rw[hus] at q
 generalize hC:up C p1 (.lst (us.map T.int))=C1 at hE
 have hp1:C1 p1=some (.lst (us.map T.int)):=hC▸Zn
 refine Zbe (fun i τ C'=>C'=C1∧∃x3,τ=[some (.ref p),some (.int D),some (.str (ctx (us.drop (us.length-i)))),x3]) ⟨rfl,none,by rw[Nat.sub_zero,List.drop_length];rfl⟩ (fun i τ C' _ h=>by rw[h.1];exact hp1) (fun i x τ C' N hx hP hN=>?_) (fun τ C' hP=>?_)
 ·obtain⟨rfl,x3,rfl⟩:=hP
  rw[XM] at hx
  obtain⟨v,hv1,rfl⟩:=Option.map_eq_some_iff.mp hx
  have hi:i<us.length:=by have:=(List.getElem?_eq_some_iff.mp hv1).1;rwa [List.length_reverse] at this
  rw[List.getElem?_reverse hi] at hv1
  have hd:us.drop (us.length-(i+1))=v::us.drop (us.length-i):=by
   obtain⟨h1,h2⟩:=List.getElem?_eq_some_iff.mp hv1
   rw[show us.length-(i+1)=us.length-1-i by omega,List.drop_eq_getElem_cons h1,h2,show us.length-1-i+1=us.length-i by omega]
  have hvb:=hv' v (List.mem_of_getElem? hv1)
  have c1:("(Cons ":Str).length=6:=by decide+kernel
  have c2:(" ":Str).length=1:=by decide+kernel
  have c3:(")":Str).length=1:=by decide+kernel
  have nl:=Zll hvb.1 hvb.2
  have cl:=Zqw (us.drop (us.length-i)) fun x hx=>hv' x (List.mem_of_mem_drop hx)
  rw[List.length_drop] at cl
  have fin:=hN [some (.ref p),some (.int D),some (.str (ctx (us.drop (us.length-(i+1))))),some (.int v)] _ ⟨rfl,_,rfl⟩
  rw[hd] at fin
  walk_at "ws"
  have l1:(("(Cons ":Str)++Xx v).length≤106:=by rw[YC];omega
  have l2:(("(Cons ":Str)++Xx v++(" ":Str)).length≤107:=by rw[YC];omega
  have l3:(("(Cons ":Str)++Xx v++(" ":Str)++ctx (us.drop (us.length-i))).length≤50000:=by rw[YC];omega
  refine .inl ⟨v,rfl,lg hvb.1 hvb.2,?_,?_,?_,?_,fin⟩
  ·show("(Cons ":Str).length+(Xx v).length≤sizeLine
   refine Nat.le_of_lt (small63' ?_)
   omega
  ·show(("(Cons ":Str)++Xx v).length+(" ":Str).length≤sizeLine
   refine Nat.le_of_lt (small63' ?_)
   omega
  ·show(("(Cons ":Str)++Xx v++(" ":Str)).length+_≤sizeLine
   refine Nat.le_of_lt (small63' ?_)
   omega
  ·show(("(Cons ":Str)++Xx v++(" ":Str)++ctx (us.drop (us.length-i))).length+(")":Str).length≤sizeLine
   refine Nat.le_of_lt (small63' ?_)
   omega
 ·obtain⟨rfl,x3,rfl⟩:=hP
  rw[XI,List.length_reverse,Nat.sub_self,List.drop_zero]
  have:=q _ hE
  walk_at "ws"
  refine ite2 (fun c=>?_) fun c=>?_
  ·rw[XY c] at this;exact this
  ·rw[XX c] at this;exact this
theorem Zlf {p:Addr}{vs:List Int}{wd:Str}(hp:C p=some (.lst (vs.map T.int)))(q:Q (tt (lstT wd vs)) C):wpc pr (n+1) Znv [.ref p,.tup [.str "stop",.str wd]] C Q χ:=by
 refine Zmw rfl ?_
 unfold Zbg
 walk_at "ws"
 unfold iRv
 walk_at "ws"
 refine⟨_,hp,?_⟩
 rw[←List.map_reverse]
 refine Zbe (fun i τ C'=>C'=C∧∃x3,τ=[some (.ref p),some (.tup [.str "stop",.str wd]),some (tt (lstT wd (vs.drop (vs.length-i)))),x3]) ⟨rfl,none,by rw[Nat.sub_zero,List.drop_length];rfl⟩ (fun i τ C' _ h=>by rw[h.1];exact hp) (fun i x τ C' N hx hP hN=>?_) (fun τ C' hP=>?_)
 ·obtain⟨rfl,x3,rfl⟩:=hP
  rw[XM] at hx
  obtain⟨v,hv1,rfl⟩:=Option.map_eq_some_iff.mp hx
  have hi:i<vs.length:=by have:=(List.getElem?_eq_some_iff.mp hv1).1;rwa [List.length_reverse] at this
  rw[List.getElem?_reverse hi] at hv1
  have hd:vs.drop (vs.length-(i+1))=v::vs.drop (vs.length-i):=by
   obtain⟨h1,h2⟩:=List.getElem?_eq_some_iff.mp hv1
   rw[show vs.length-(i+1)=vs.length-1-i by omega,List.drop_eq_getElem_cons h1,h2,show vs.length-1-i+1=vs.length-i by omega]
  have fin:=hN [some (.ref p),some (.tup [.str "stop",.str wd]),some (tt (lstT wd (vs.drop (vs.length-(i+1))))),some (.int v)] _ ⟨rfl,_,rfl⟩
  rw[hd] at fin
  walk_at "ws"
  exact fin
 ·obtain⟨rfl,x3,rfl⟩:=hP
  rw[XI,List.length_reverse,Nat.sub_self,List.drop_zero]
  walk_at "ws"
  exact q
theorem Zs9 {o:Str}{z more:Int}{s0:Tm}(q:Q (tt (Zc1 o z more s0)) C):wpc pr (n+1) Zen [.str o,.int z,.int more,tt s0] C Q χ:=by
 refine Zef rfl ?_
 unfold Jm
 walk_at "ws"
 exact q
theorem Zzx {o:Str}{x z:Int}(hx:0≤x)(hx':x<big)(q:Q (.int (rk o x z)) C):wpc pr (n+1) Zhl [.str o,.int x,.int z] C Q χ:=by
 refine Zhf rfl ?_
 unfold Xu
 walk_at "ws"
 have hb:(10:Int)^Int.toNat 18=big:=by decide+kernel
 have hb2:big=1000000000000000000:=rfl
 rw[hb]
 unfold rk at q
 refine ite2 (fun c=>?_) fun c=>ite2 (fun c'=>?_) fun c'=>?_
 ·rw[XY c] at q;exact⟨⟨by decide,by decide,by decide⟩,q⟩
 ·rw[XX c,XY c'] at q;exact⟨⟨by decide,by decide,by decide⟩,q⟩
 ·rw[XX c,XX c'] at q;exact⟨.inl ⟨by omega,by rw[hb2] at hx';exact Int.lt_trans hx' (by decide)⟩,⟨by decide,by decide,by decide⟩,q⟩
end
open PySem PySem.Spec PyProof.Rows L2 WL
section
variable {C:Hw}{Q:WK}{χ:WX}{n:Nat}
theorem Zwp {ns:List Int}{m:Nat}(h63:ns.length≤63)(hm:m≤100)(q:∀p (ds:List Int),C p=none→ds.length=m→(∀d∈ds,0≤d)→Q (.ref p) (up C p (.lst (ds.map T.int)))):
  wpc pr (n+1) Zly [.cl (ns.map T.int),.int m] C Q χ:=by
 refine Zk8 rfl ?_
 unfold Zat
 refine⟨XO _,fun p hp=>?_⟩
 refine⟨_,rfl,_,rfl,by omega,by omega,?_⟩
 refine Zx2 (fun i τ C'=>∃x3 x4,∃ds:List Int,τ=[some (.cl (ns.map T.int)),some (.int m),some (.ref p),x3,x4]∧C'=up C p (.lst (ds.map T.int))∧ds.length=i∧∀d∈ds,0≤d) ⟨none,none,[],rfl,rfl,rfl,by simp⟩ (fun _=>trivial) ?_ ?_
 ·rintro i τ C' N hi ⟨x3,x4,ds,rfl,rfl,hd,hn⟩ hN
  have hlen:((ns.map T.int).length:Int)=(ns.length:Int):=by rw[XI]
  have fin:∀(u:Int) (D':We),0≤u→D'.nx=N→Y7 (eMt tyL' Zaj (Zd 2) (Zb (Zf wAdd (Zd 4) (Zf wMul (eC (.int 7919)) (Zf wDiv (Zd 3) (eBi bMax (Zb (eC (.int 1)) (Zb (eBi bLen (Zb (Zd 0) Zg)) Zg)))))) Zg)) D' [some (.cl (ns.map T.int)),some (.int m),some (.ref p),some (.int (0+i)),some (.int u)] (up C p (.lst (ds.map T.int))):=fun u D' hu hD=>by
   refine⟨_,rfl,⟨_,_,rfl,Zn⟩,_,rfl,_,rfl,_,rfl,_,rfl,_,_,rfl,⟨by split<;>omega,by split<;>omega⟩,.inl ⟨by decide,by decide⟩,_,_,_,rfl,rfl,Zn,small63' (by rw[XI];omega),?_⟩
   have hdv:(0:Int)≤(0+(i:Int))/(if ((ns.map T.int).length:Int)>1 then((ns.map T.int).length:Int) else 1):=Int.ediv_nonneg (by omega) (by split<;>omega)
   rw[hD]
   generalize (0+(i:Int))/(if ((ns.map T.int).length:Int)>1 then((ns.map T.int).length:Int) else 1)=t at hdv ⊢
   refine hN _ _ ⟨_,_,ds++[u+7919*t],rfl,?_,by rw[List.length_append,hd];rfl,?_⟩
   ·rw[up_up,XL];rfl
   ·intro x hx
    rcases XS.mp hx with hx | hx
    ·exact hn x hx
    ·rw[XQ.mp hx];omega
  refine⟨_,rfl,_,rfl,decide (((ns.map T.int).length:Int)>0),rfl,?_⟩
  by_cases c:((ns.map T.int).length:Int)>0
  ·refine Zqf (decide_eq_true c) ?_
   obtain⟨d,h1,h2⟩:=Zv1 (ds:=ns) (i:=(0+(i:Int))%((ns.map T.int).length:Int)) (YO _ (by omega)) (by rw[hlen];exact Int.emod_lt_of_pos _ (by omega))
   exact⟨_,rfl,_,rfl,_,rfl,_,rfl,c,_,h1,⟨by decide,by decide,by decide⟩,by decide,fin _ _ (YO d (b:=10^Int.toNat 18) (by decide)) rfl⟩
  ·exact Zqg (YG c) (fin 0 _ (XW _) rfl)
 ·rintro τ C' ⟨x3,x4,ds,rfl,rfl,hd,hn⟩
  exact⟨_,rfl,q p ds hp hd hn⟩
theorem Znt {p q:Prop}{b:Bool}(h1:b=true→p)(h2:b=false→q):if b=true then p else q:=by cases b;exact h2 rfl;exact h1 rfl
theorem d_at {ds:List Int}(hn:∀d∈ds,0≤d){i:Int}(h0:0≤i)(h:i<ds.length):∃y,atI (ds.map T.int) i=some (.int y)∧0≤y:=by
 obtain⟨j,rfl⟩:∃j:Nat,i=j:=⟨i.toNat,by omega⟩
 have hj:j<ds.length:=by omega
 exact⟨ds[j],atN (by rw[XM,List.getElem?_eq_getElem hj];rfl),hn _ (YN hj)⟩
theorem Zjf {g:WG}{e:WE}{ok:Hw→Prop}{τ:Sw}{Q:List T→Hw→Prop}{xs:List T}(hok:∀C',Ex C C'→ok C')(hl:xs.length≤30)
  (hs:∀(i:Nat) (x:T),xs[i]?=some x→∀C1 (R:WK),Ex C C1→(∀v C2,Ex C1 C2→0≤v→v<big→R (.int v) C2)→g x τ C1 (fun τ2 C2=>e τ2 C2 R χ) χ)
  (hd:∀(vs:List Int) C',Ex C C'→vs.length=xs.length→(∀v∈vs,0≤v∧v<big)→Q (vs.map T.int) C'):Zgb g tYes e ok τ Q χ xs [] C:=by
 refine Zoa (fun i acc C'=>Ex C C'∧∃vs:List Int,acc=vs.map T.int∧vs.length=i∧∀v∈vs,0≤v∧v<big) ⟨Ex.refl C,[],rfl,rfl,by simp⟩ (fun i acc C' _ h=>hok _ h.1) (fun i x acc C' N hx hp hN=>?_) (fun acc C' h=>?_)
 ·obtain⟨hE,vs,rfl,hi,hv⟩:=hp
  have hix:i<xs.length:=(List.getElem?_eq_some_iff.mp hx).1
  refine hs i x hx C' _ hE fun v C2 E2 v0 v1=>⟨small63' (by rw[XI];omega),hN _ _ ⟨hE.trans E2,vs++[v],by rw[XL];rfl,by rw[List.length_append,hi];rfl,fun z hz=>?_⟩⟩
  rcases XS.mp hz with hz | hz
  ·exact hv z hz
  ·rw[XQ.mp hz];exact⟨v0,v1⟩
 ·obtain⟨hE,vs,rfl,hi,hv⟩:=h
  exact hd vs C' hE hi hv
end
theorem Zrq {v:Int}(h0:0≤v)(h1:v<big):(Xx v).length≤18:=by
 obtain⟨m,rfl⟩:∃m:Nat,v=m:=⟨v.toNat,by omega⟩
 show(Str.ofString (toString (Int.ofNat m))).length≤18
 rw[text_ofNat]
 show((Nat.toDigits 10 m).map Char.toNat).toArray.size≤18
 rw[XJ,XI]
 exact digits10_le (by decide) (by simp only[big] at h1;omega)
theorem Zqp {wd:Str}{vs:List Int}{D m:Int}{d:Nat}(ho:ok 0 d [] (lstT wd vs))(hl:vs.length≤22)(hm:70≤m)(hm':m≤1000):
  (D>vs.length→ew (fin (lstT wd vs) D m).e="stop"∧ex (fin (lstT wd vs) D m).e=wd)∧(¬D>vs.length→ew (fin (lstT wd vs) D m).e="told"∧ex (fin (lstT wd vs) D m).e=if D>0 then ctx (vs.take (D-1).toNat) else "?"):=by
 rw[Zu7 ho hl hm hm']
 refine⟨fun c=>?_,fun c=>?_⟩
 ·rw[XY c];exact⟨rfl,rfl⟩
 ·rw[XX c];exact⟨rfl,rfl⟩
theorem Zl3 {C:Hw}{x:Str}:EqH C 100 (.str x) (.str x) true:=.inl ⟨Xi,Xi,by unfold WL.eqT;exact(XU _).symm⟩
theorem Zqm {r:Ev}{n:Nat}:flat (evT r) (n+1)=true:=Zd1 fun x hx=>by
 simp only[ZM,ZN,or_false] at hx
 rcases hx with rfl | rfl | rfl | rfl
 ·exact Xi
 ·exact Zd2
 ·exact Xi
 ·exact Zd2
theorem Zpp {x:Str}:WL.eqT (.str x) (.str x)=true:=by unfold WL.eqT;exact XU _
theorem Zvb {x:Int}:WL.eqT (.int x) (.int x)=true:=by unfold WL.eqT;exact XU _
theorem eq_ev {r:Ev}:WL.eqT (evT r) (evT r)=true:=by
 unfold evT
 unfold WL.eqT
 simp only[eqTs,Zpp,Zvb,Bool.and_true]
theorem all_t {n:Nat}:(List.range n).all (fun _=>true)=true:=List.all_eq_true.mpr fun _ _=>rfl
theorem Z1q {C:Hw}{s:St}{p p':Addr}(h:C p=some (.lst (s.G.map evT)))(h':C p'=some (.lst (s.G.map evT))):EqH C 100 (outT s p) (outT s p') true:=by
 refine .inr (.inl ⟨_,_,fun _=>true,rfl,rfl,fun j x y hx hy=>?_,rfl⟩)
 match j with
 | 0=>cases hx;cases hy;exact .inl ⟨Xi,Xi,Zpp.symm⟩
 | 1=>cases hx;cases hy;exact .inl ⟨Xi,Xi,Zpp.symm⟩
 | 2=>
  cases hx;cases hy
  have hf:flat (.tup [.int s.k,.int s.c,.int s.f]) 98=true:=Zd1 fun x hx=>by
   simp only[ZM,ZN,or_false] at hx
   rcases hx with rfl | rfl | rfl<;>exact Zd2
  refine .inl ⟨hf,hf,?_⟩
  unfold WL.eqT
  simp only[eqTs,Zvb,Bool.and_true]
 | 3=>
  cases hx;cases hy
  refine .inr (.inr ⟨_,_,_,_,fun _=>true,rfl,rfl,h,h',fun _ j x y hx hy=>?_,?_⟩)
  ·rw[hx] at hy
   cases hy
   obtain⟨r,_,rfl⟩:=XR.mp (List.mem_of_getElem? hx)
   exact .inl ⟨Zqm,Zqm,eq_ev.symm⟩
  ·rw[XY rfl,all_t]
 | j+4=>cases hx
section
variable {C:Hw}{x0 x3 x7 x8 x9 x10 x11 x12:Option T}{D y4:Int}{vs ds:List Int}{p pn:Addr}{DD:We}
theorem Zsr (hD:DD.rt=fun v _=>v=T.bl true)(hp:C p=some (.lst (ds.map T.int)))(hn:C pn=some (.lst (vs.map T.int)))(a4:atI (ds.map T.int) 4=some (.int y4))(h4:0≤y4)(hl:vs.length≤22)(hv:∀v∈vs,0≤v∧v<big):
  Zr (Z0 (Zf wAdd (eC (.str "w")) (eBi Zoh (Zb (Zf wMod (Zf Zq (Zd 1) (eC (.int 4))) (eC (.int 1000))) Zg))) (gNm 5))
  (Zr (Z0 (Z7 (wpc pr 59) 36 (aApp [] (Zb (Z7 (wpc pr 59) 40 (Zb (Zd 4) (Zb (Zy (Zb (eC (.str "stop")) (Zb (Zd 5) Zg))) Zg))) (Zb (Zd 2) (Zb (eC (.int 130)) Zg))))) (gNm 6))
  (Zr (sIf (tBl (Zf wGt (Zd 2) (eBi bLen (Zb (Zd 4) Zg)))) (Ym (eAnd (Zf wEq (Zf Zq (Zd 6) (eC (.int 0))) (eC (.str "stop"))) (Zf wEq (Zf Zq (Zd 6) (eC (.int 1))) (Zd 5)))) Yb)
  (Ym (eAnd (Zf wEq (Zf Zq (Zd 6) (eC (.int 0))) (eC (.str "told"))) (Zf wEqD (Zf Zq (Zd 6) (eC (.int 1))) (Z7 (wpc pr 59) 39 (Zb (Zd 4) (Zb (Zd 2) Zg))))))))
  DD [x0,some (.ref p),some (.int D),x3,some (.ref pn),none,none,x7,x8,x9,x10,x11,x12] C:=by
 have w0:0≤y4%1000:=by omega
 have w1:y4%1000<big:=by have hb2:big=1000000000000000000:=rfl;omega
 have nl:=Zrq w0 w1
 have c1:("w":Str).length=1:=by decide+kernel
 refine⟨_,rfl,_,_,hp,a4,by decide,.inl ⟨_,rfl,lg w0 w1,Nat.le_of_lt (small63' (by rw[c1];show 1+(Xx (y4%1000)).length≤_;omega)),?_⟩⟩
 have hg:gl (("w":Str)++Xx (y4%1000)):=by unfold gl;rw[YC,c1];omega
 show Zr _ _ _ [x0,some (.ref p),some (.int D),x3,some (.ref pn),some (.str (("w":Str)++Xx (y4%1000))),none,x7,x8,x9,x10,x11,x12] C
 generalize ("w":Str)++Xx (y4%1000)=wd at hg
 refine⟨_,rfl,_,rfl,ZNB rfl,?_⟩
 dsimp only[Zg]
 refine Zlf (n:=58) hn ?_
 refine⟨_,rfl,?_⟩
 have ho:ok 0 22 [] (lstT wd vs):=Xh (XE _) (Zpd hg vs hv) hl
 dsimp only[Zg,Zb,eC,List.cons_append,List.nil_append]
 refine Zkd (n:=25) (d:=22) ho Zki (by decide) fun pg C1 E1 _ _=>?_
 obtain⟨r1,r2⟩:=Zqp (D:=D) (m:=130) ho hl (by decide) (by decide)
 have hn1:=E1 _ _ hn
 refine⟨_,rfl,_,rfl,_,rfl,_,hn1,_,rfl,Znt (fun c=>?_) (fun c=>?_)⟩
 ·rw[XI] at c
  obtain⟨q1,q2⟩:=r1 (of_decide_eq_true c)
  refine⟨_,rfl,_,Yo,eqSc (v:=true) (by rw[q1];decide+kernel) ⟨_,rfl,J4 ?_⟩⟩
  refine⟨_,rfl,_,Ja,_,rfl,eqS (v:=true) (by rw[q2];exact XU _) ?_⟩
  rw[hD]
 ·rw[XI] at c
  obtain⟨q1,q2⟩:=r2 (of_decide_eq_false c)
  refine⟨_,rfl,_,Yo,eqSc (v:=true) (by rw[q1];decide+kernel) ⟨_,rfl,J4 ?_⟩⟩
  refine⟨_,rfl,_,Ja,_,rfl,_,rfl,?_⟩
  dsimp only[Zg]
  refine Zta (n:=58) hn1 (by omega) hv fun C2 E2=>?_
  rw[q2]
  refine⟨true,Zl3,?_⟩
  rw[hD]
  rfl
end
section
variable {C:Hw}{x0 x1 x4 x5 x10 x12:Option T}{D st z more:Int}{o:Str}{t:Tm}{DD:We}
theorem Zys (hD:DD.rt=fun v _=>v=T.bl true)(ho:ok 0 12 [] t)(hv:isVt t=false)(hD5:D≤5)(h0:0≤st)(h1:st<big)(hop:Op o)(he:(fin t D 200).e=.told (if D>0 then ctx (seqv o z more st (D-1).toNat) else "?")):
  w_law_t1 (wpc pr 59) DD [x0,x1,some (.int D),some (.int st),x4,x5,none,some (.str o),some (.int z),some (.int more),x10,some (tt t),x12] C:=by
 have hb:(0:Int)<big:=by decide
 have hb18:(10:Int)^Int.toNat 18=big:=by decide+kernel
 refine⟨_,rfl,by decide,by decide,?_⟩
 refine Za6 (f:=fun t=>match t with | .int k=>.int (rk o ((st+k*more)%big) z) | t=>t) trivial (by rw[Zbu];exact Nat.le_of_lt (small63' (by decide))) (fun x hx R h=>?_) ?_
 ·obtain⟨i,hi⟩:=List.getElem?_of_mem hx
  obtain⟨hi6,rfl⟩:=Zfq hi
  have hi6':i<6:=hi6
  refine⟨_,rfl,_,rfl,_,rfl,_,rfl,.inl ⟨by omega,Int.lt_trans (show(0:Int)+i<6 by omega) (by decide)⟩,⟨by decide,by decide,by decide⟩,by decide,_,rfl,?_⟩
  dsimp only[Zg]
  rw[hb18]
  exact Zzx (n:=58) (YO _ (by omega)) (Int.emod_lt_of_pos _ hb) h
 ·intro pn hpn
  have el:(rng 0 (Int.toNat 6)).map (fun t=>match t with | .int k=>.int (rk o ((st+k*more)%big) z) | t=>t)=(seqv o z more st 6).map T.int:=by
   rw[Zdi 6 st h0 h1,YE]
   unfold rng
   rw[YE]
   refine List.map_congr_left fun k _=>?_
   show T.int (rk o ((st+(0+(k:Int))*more)%big) z)=T.int (rk o ((st+(k:Int)*more)%big) z)
   rw[Int.zero_add]
  rw[el]
  generalize hC1:up C pn (.lst ((seqv o z more st 6).map T.int))=C1
  have hn1:C1 pn=some (.lst ((seqv o z more st 6).map T.int)):=hC1▸Zn
  refine⟨_,rfl,_,rfl,?_⟩
  dsimp only[Zg,Zb,eC,List.cons_append,List.nil_append]
  refine Zkd (n:=35) (d:=12) ho hv (by decide) fun pg C2 E2 _ _=>?_
  have q1:ew (fin t D 200).e="told":=by rw[he];rfl
  have q2:ex (fin t D 200).e=if D>0 then ctx (seqv o z more st (D-1).toNat) else "?":=by rw[he];rfl
  refine⟨_,rfl,_,Yo,eqSc (v:=true) (by rw[q1];decide+kernel) ⟨_,rfl,J4 ?_⟩⟩
  refine⟨_,rfl,_,Ja,_,rfl,_,rfl,?_⟩
  dsimp only[Zg]
  have hbnd:∀v∈seqv o z more st 6,0≤v∧v<big:=fun v hv=>by
   rw[Zdi 6 st h0 h1] at hv
   obtain⟨k,_,rfl⟩:=XR.mp hv
   unfold rk
   exact⟨YO _ (by omega),Int.emod_lt_of_pos _ hb⟩
  refine Zta (n:=58) (E2 _ _ hn1) (by rw[Zh9];decide) hbnd fun C3 E3=>?_
  have e6:(seqv o z more st 6).take (D-1).toNat=seqv o z more st (D-1).toNat:=by
   rw[Zdi 6 st h0 h1,Zdi _ st h0 h1,←List.map_take,List.take_range,show min (D-1).toNat 6=(D-1).toNat by omega]
  rw[q2,e6]
  refine⟨true,Zl3,?_⟩
  rw[hD]
  rfl
theorem op3 {x:Int}:∃op:Str,(∃ch,atI (Str.ofString "+-*").cps.toList (x%3)=some ch∧(⟨#[ch]⟩:Str)=op)∧Op op:=by
 have hc:x%3=0∨x%3=1∨x%3=2:=by omega
 rcases hc with e | e | e<;>rw[e]
 ·exact⟨"+",⟨_,rfl,rfl⟩,by decide+kernel,by decide+kernel⟩
 ·exact⟨"-",⟨_,rfl,rfl⟩,by decide+kernel,by decide+kernel⟩
 ·exact⟨"*",⟨_,rfl,rfl⟩,by decide+kernel,by decide+kernel⟩
end
theorem Zul {C:Hw}{p:Addr}{ds:List Int}(hp:C p=some (.lst (ds.map T.int)))(hl:ds.length=12)(hn:∀d∈ds,0≤d):wpc pr 59 Zhm [.ref p] C (fun v _=>v=.bl true) (fun _ _=>False):=by
 refine Zhg rfl ?_
 refine⟨_,rfl,by decide,by decide,?_⟩
 refine Zjf (fun _ _=>trivial) (by rw[Zbu];decide) (fun i x hx C2 R E2 h=>?_) (fun vs C2 E2 hvl hv=>?_)
 ·obtain⟨hi,rfl⟩:=Zfq hx
  have hi':i<11:=hi
  obtain⟨y,ya,yb⟩:=d_at hn (i:=1+(0+(i:Int))) (by omega) (by rw[hl];omega)
  refine⟨_,rfl,_,rfl,_,_,E2 _ _ hp,ya,?_⟩
  dsimp only[Zg]
  exact Zcy (n:=57) yb h
 ·intro pn hpn
  have hvl':vs.length=11:=by rw[hvl,Zbu];rfl
  generalize hC3:up C2 pn (.lst (vs.map T.int))=C3
  have hn3:C3 pn=some (.lst (vs.map T.int)):=hC3▸Zn
  have ho:ok 0 22 [] (lstT "behind" vs):=Xh (XE _) (Zpd (by decide+kernel:1≤("behind":Str).length∧("behind":Str).length≤100) vs hv) (by omega)
  refine⟨_,rfl,ZNB rfl,?_⟩
  dsimp only[Zg]
  refine Zlf (n:=57) hn3 ?_
  dsimp only[List.cons_append,List.nil_append]
  refine Zkd (n:=24) (d:=22) ho Zki (by decide) fun pg C4 E4 _ _=>?_
  have hn4:=E4 _ _ hn3
  obtain⟨q1,q2⟩:=(Zqp (D:=8) (m:=400) ho (by omega) (by decide) (by decide)).2 (by omega)
  refine⟨_,rfl,_,Yo,neSc (v:=true) (by rw[q1];decide+kernel) ⟨_,rfl,Jd ?_⟩⟩
  refine⟨_,rfl,_,Ja,_,rfl,?_⟩
  dsimp only[Zg,Zb,eC]
  refine Zta (n:=57) hn4 (by omega) hv fun C5 E5=>?_
  rw[q2]
  refine⟨true,Zl3,_,rfl,Jd ?_⟩
  have hn5:=E5 _ _ hn4
  refine⟨ZNB rfl,ZNB rfl,ZNB rfl,ZNB rfl,ZNB rfl,?_⟩
  dsimp only[Zg,List.cons_append,List.nil_append]
  refine Zkd (n:=45) (d:=1) (t:=Zcz) Zp4 rfl (by decide) fun ph C6 E6 _ hph=>?_
  have hn6:=E6 _ _ hn5
  obtain⟨g1,g2,g3,g4,g5⟩:=Ztg
  refine⟨_,rfl,_,rfl,show ¬(HT.sIx 4 0 none=0∧HT.sIx 4 4 (some 3)=4) by decide,ZNB rfl,ZNB rfl,true,?_,_,rfl,Jd ?_⟩
  ·show EqH C6 100 (.tup [.str (ew (fin Zcz 8 400).e),.str (ex (fin Zcz 8 400).e),.tup [.int (fin Zcz 8 400).k,.int (fin Zcz 8 400).c,.int (fin Zcz 8 400).f]]) _ true
   rw[g1,g2,g3,g4]
   refine .inl ⟨?_,?_,?_⟩
   ·decide+kernel
   ·decide+kernel
   ·decide+kernel
  refine⟨_,rfl,_,Zv2,_,rfl,_,hph,neIc (v:=true) (by rw[XI,g5];rfl) ⟨_,rfl,Jd ?_⟩⟩
  refine⟨_,rfl,ZNB rfl,?_⟩
  dsimp only[Zg]
  refine Zlf (n:=57) hn6 ?_
  dsimp only[Zg,Zb,eC,List.cons_append,List.nil_append]
  refine Zkd (n:=24) (d:=22) ho Zki (by decide) fun pi C7 E7 _ h7=>?_
  refine⟨_,rfl,ZNB rfl,?_⟩
  dsimp only[Zg]
  refine Zlf (n:=57) (E7 _ _ hn6) ?_
  dsimp only[Zg,Zb,eC,List.cons_append,List.nil_append]
  refine Zkd (n:=24) (d:=22) ho Zki (by decide) fun pj C8 E8 _ h8=>?_
  exact⟨true,Z1q (E8 _ _ h7) h8,rfl⟩
theorem law_true (ns:List Int)(h63:ns.length≤63):wpc pr 60 i_law [.cl (ns.map T.int)] (fun _=>none) (fun v _=>v=.bl true) (fun _ _=>False):=by
 refine u_law rfl ?_
 refine⟨_,rfl,?_⟩
 dsimp only[Zg,Zb,eC]
 refine Zwp (n:=58) (m:=12) h63 (by decide) fun p ds hp hl hn=>?_
 generalize hC:up _ p _=C
 have hpC:C p=some (.lst (ds.map T.int)):=hC▸Zn
 obtain⟨y0,a0,b0⟩:=d_at hn (i:=0) (by decide) (by rw[hl];decide)
 obtain⟨y1,a1,b1⟩:=d_at hn (i:=1) (by decide) (by rw[hl];decide)
 obtain⟨y2,a2,b2⟩:=d_at hn (i:=2) (by decide) (by rw[hl];decide)
 obtain⟨y3,a3,b3⟩:=d_at hn (i:=3) (by decide) (by rw[hl];decide)
 obtain⟨y4,a4,b4⟩:=d_at hn (i:=4) (by decide) (by rw[hl];decide)
 obtain⟨y5,a5,b5⟩:=d_at hn (i:=5) (by decide) (by rw[hl];decide)
 refine⟨_,rfl,_,_,hpC,a0,by decide,?_⟩
 refine⟨_,rfl,_,_,hpC,a2,by decide,eqIc rfl ⟨_,rfl,Znt (fun h6=>?_) (fun h6=>?_)⟩⟩
 ·refine⟨_,rfl,?_⟩
  dsimp only[Zg]
  exact Zul hpC hl hn
 ·refine⟨_,rfl,_,_,hpC,a1,?_⟩
  dsimp only[Zg]
  refine Zcy (n:=58) b1 fun st C1 E1 st0 st1=>?_
  have hp1:=E1 _ _ hpC
  refine⟨_,rfl,_,_,hp1,a2,by decide,eqIc rfl ⟨_,rfl,Znt (fun hev=>?_) (fun hev=>?_)⟩⟩
  ·refine⟨_,rfl,_,_,hp1,a3,by decide,_,rfl,by omega,by omega,?_⟩
   refine Zjf (fun _ _=>trivial) (by rw[Zbu];omega) (fun i x hx C2 R E2 h=>?_) (fun vs C2 E2 hvl hv=>?_)
   ·obtain⟨hi,rfl⟩:=Zfq hx
    obtain⟨y,ya,yb⟩:=d_at hn (i:=5+(0+(i:Int))) (by omega) (by rw[hl];omega)
    refine⟨_,rfl,_,rfl,_,_,E2 _ _ hp1,ya,?_⟩
    dsimp only[Zg]
    exact Zcy (n:=58) yb h
   ·intro pn hpn
    have hE3:Ex C2 (up C2 pn (.lst (vs.map T.int))):=Ex.new hpn
    generalize hC3:up C2 pn (.lst (vs.map T.int))=C3 at hE3
    have hpn3:C3 pn=some (.lst (vs.map T.int)):=hC3▸Zn
    have hp3:=hE3 _ _ (E2 _ _ hp1)
    refine⟨_,rfl,_,_,hp3,a2,⟨by decide,by decide⟩,by decide,eqIc rfl ⟨_,rfl,Znt (fun h3=>?_) (fun h3=>?_)⟩⟩
    ·refine⟨_,rfl,_,_,hp3,a3,by decide,_,rfl,by omega,by omega,?_⟩
     refine Zjf (fun _ _=>trivial) (by rw[Zbu];omega) (fun i x hx C4 R E4 h=>?_) (fun us C4 E4 hul hu=>?_)
     ·obtain⟨hi,rfl⟩:=Zfq hx
      obtain⟨y,ya,yb⟩:=d_at hn (i:=5+(0+(i:Int))%7) (by omega) (by rw[hl];omega)
      refine⟨_,rfl,_,rfl,by decide,_,_,E4 _ _ hp3,ya,_,rfl,?_⟩
      dsimp only[Zg]
      exact Zcy (n:=58) (by omega) h
     ·intro pm hpm
      have hE5:Ex C4 (up C4 pm (.lst (us.map T.int))):=Ex.new hpm
      generalize hC5:up C4 pm (.lst (us.map T.int))=C5 at hE5
      have hpm5:C5 pm=some (.lst (us.map T.int)):=hC5▸Zn
      have hp5:=hE5 _ _ (E4 _ _ hp3)
      refine⟨_,rfl,_,_,hp5,a0,by decide,?_⟩
      exact Zsr rfl hp5 hpm5 a4 b4 (by rw[hul,Zbu];omega) hu
    ·exact Zsr rfl hp3 hpn3 a4 b4 (by rw[hvl,Zbu];omega) hv
  ·obtain⟨o,⟨ch,hch,rfl⟩,hop⟩:=op3 (x:=y3)
   refine⟨_,rfl,_,_,hp1,a3,by decide,by decide,ch,hch,?_⟩
   generalize (⟨#[ch]⟩:Str)=o at hop
   refine⟨_,rfl,_,_,hp1,a4,?_⟩
   dsimp only[Zg]
   refine Zcy (n:=58) b4 fun z C2 E2 z0 z1=>?_
   have hp2:=E2 _ _ hp1
   refine⟨_,rfl,_,_,hp2,a5,?_⟩
   dsimp only[Zg]
   refine Zcy (n:=58) b5 fun more C3 E3 m0 m1=>?_
   have hp3:=E3 _ _ hp2
   refine⟨_,rfl,ZNB rfl,?_⟩
   refine⟨_,rfl,_,_,hp3,a2,⟨by decide,by decide⟩,by decide,eqIc rfl ⟨_,rfl,Znt (fun h2=>?_) (fun h2=>?_)⟩⟩
   ·refine⟨ZNB rfl,?_⟩
    refine⟨_,rfl,_,rfl,_,rfl,_,rfl,?_⟩
    dsimp only[Zg]
    refine Zs9 (n:=58) (s0:=.nm "a") ?_
    refine⟨_,rfl,_,_,hp3,a2,⟨by decide,by decide⟩,by decide,eqIc rfl ⟨_,rfl,Zqf h2 ?_⟩⟩
    refine⟨ZNB rfl,ZNB rfl,ZNB rfl,fun pl hpl=>?_⟩
    have E4:Ex C3 (up C3 pl (.lst [.tup [.str "stop",.str "never"],.tup [.str "name",.str "b"]])):=Ex.new hpl
    obtain⟨il,hil,hio⟩:∃il:Tm,atI [.tup [.str "stop",.str "never"],.tup [.str "name",.str "b"]] (y2/4%2)=some (tt il)∧(il=.stop "never"∨il=.nm "b"):=by
     have hc:y2/4%2=0∨y2/4%2=1:=by omega
     rcases hc with e | e<;>rw[e]
     ·exact⟨.stop "never",Yo,.inl rfl⟩
     ·exact⟨.nm "b",Ja,.inr rfl⟩
    refine⟨_,rfl,_,_,E4 _ _ hp3,a2,⟨by decide,by decide⟩,by decide,_,_,Zn,hil,?_⟩
    refine⟨_,rfl,ZNB rfl,_,rfl,ZNB rfl,ZNB rfl,ZNB rfl,_,rfl,ZNB rfl,?_⟩
    have hok:ok 0 12 [] (letT il st (Zc1 o z more (.nm "a"))):=Zxs hio ⟨st0,st1⟩ ⟨z0,z1⟩ ⟨m0,m1⟩
    exact Zys (t:=letT il st (Zc1 o z more (.nm "a"))) rfl hok rfl (by omega) st0 st1 hop (Zr7 hop hok (by omega))
   ·refine⟨_,rfl,_,rfl,_,rfl,_,rfl,?_⟩
    dsimp only[Zg]
    refine Zs9 (n:=58) (s0:=.num st) ?_
    refine⟨_,rfl,_,_,hp3,a2,⟨by decide,by decide⟩,by decide,eqIc rfl ⟨_,rfl,Zqg h2 ?_⟩⟩
    have hok:ok 0 12 [] (Zc1 o z more (.num st)):=Xh (XE _) (Zqk ⟨z0,z1⟩ ⟨m0,m1⟩ ⟨st0,st1⟩) (by decide)
    exact Zys rfl hok rfl (by omega) st0 st1 hop (Zu8 hop hok (by omega))
end K37
open PySem PySem.W PyProof.Rows
def PySem.W.Fast.tw14442852746359133553:Unit:=()
def PySem.W.Fast.tw4957660788950134502:Unit:=()
def PySem.W.Fast.tw9617336808295805627:PySem.Program:=PySem.Challenge.pw_idlegraph_k37_endless_lists
theorem PySem.W.Fast.te9617336808295805627:PySem.Challenge.pw_idlegraph_k37_endless_lists=PySem.W.Fast.tw9617336808295805627:=rfl
def PySem.W.Fast.tw3003837388048806796:Unit:=()
def PySem.W.Fast.tw8085838144177262664:Unit:=()
def PySem.W.Fast.tw6284239559556979859:Unit:=()
def PySem.W.Fast.tw9406299213735175465:Unit:=()
def PySem.W.Fast.tw6995054572821483873:Unit:=()
def PySem.W.Fast.tw1808549949502113276:Unit:=()
def PySem.W.Fast.tw6989065130201314440:Unit:=()
def PySem.W.Fast.tw10483158937037592807:Unit:=()
def PySem.W.Fast.tw8746349649524331161:Unit:=()
def PySem.W.Fast.tw7820829956691025166:Unit:=()
def PySem.W.Fast.tw3230217687826844269:Unit:=()
def PySem.W.Fast.tw1678800334000839280:Unit:=()
def PySem.W.Fast.tw3765480830644312835:Unit:=()
def PySem.W.Fast.tw6154475792275785962:Unit:=()
def PySem.W.Fast.tw18088580604246665429:Unit:=()
set_option maxRecDepth 100000 in
set_option maxHeartbeats 0 in
theorem PySem.Challenge.cw_idlegraph_k37_endless_lists_holds : PySem.Challenge.rw_idlegraph_k37_endless_lists.Holds := by
 w_on;o_law;k_head;(case hw=>w_witness2)
 k_fill
 refine L2.walk_ofK (l:=PySem.Challenge.rw_idlegraph_k37_endless_lists) (n:=63) (k:=60) (x:="_law_script") (CX:=L2.CX0) (sp:=fun K=>WL.spW K K37.pr 60 44) rfl (by decide) rfl ⟨rfl,by decide,by decide⟩ (fun w h Y=>PySem.W.kIn_of Y) ?F (fun K H a ns hl hO hS=>WL.law_sp hO hS (K37.law_true ns hl)) (fun _ _ _ _ z=>z)
 case F=>
  intro w mg fa h KX G hmg
  refine' K37.all_mk KX G hmg ?Qa ?Qb ?Qc ?Qd ?Qe ?Qf ?Qg ?Qh ?Qi ?Qj ?Qk ?Ql ?Qm ?Qn ?Qo ?Qp ?Qq ?Qr ?Qs ?Qt ?Qu ?Qv ?Qw ?Qx ?Qy ?Qz ?Q0 ?Q1 ?Q2 ?Q3 ?Q4 ?Q5 ?Q6 ?Q7 ?Q8 ?Q9 ?Ra ?Rb ?Rc ?Rd ?Re ?Rf ?Rg ?Rh ?Ri ?Rj ?Rk ?Rl ?Rm ?Rn ?Ro ?Rp ?Rq ?Rr ?Rs ?Rt ?Ru ?Rv ?Rw ?Rx ?Ry ?Rz ?R0 ?R1 ?R2 ?R3 ?R4 ?R5 ?R6 ?R7 ?R8 ?R9 ?Sa ?Sb ?Sc ?Sd ?Se ?Sf ?Sg ?Sh ?Si ?Sj ?Sk ?Sl ?Sm ?Sn ?So ?Sp ?Sq ?Sr ?Ss ?St ?Su ?Sv ?Sw ?Sx ?Sy ?Sz ?S0 ?S1 ?S2 ?S3 ?S4 ?S5 ?S6 ?S7 ?S8 ?S9 ?Ta ?Tb ?Tc ?Td ?Te ?Tf ?Tg ?Th ?Ti ?Tj ?Tk ?Tl ?Tm ?Tn ?To ?Tp ?Tq ?Tr ?Ts ?Tt ?Tu ?Tv ?Tw ?Tx ?Ty ?Tz ?T0 ?T1 ?T2 ?T3 ?T4 ?T5 ?T6 ?T7 ?T8 ?T9 ?Ua ?Ub ?Uc ?Ud ?Ue ?Uf ?Ug ?Uh ?Ui ?Uj ?Uk ?Ul ?Um ?Un ?Uo ?Up ?Uq ?Ur ?Us ?Ut ?Uu ?Uv ?Uw ?Ux ?Uy ?Uz ?U0 ?U1 ?U2 ?U3 ?U4 ?U5 ?U6 ?U7 ?U8 ?U9 ?Va ?Vb ?Vc ?Vd ?Ve ?Vf ?Vg ?Vh ?Vi ?Vj ?Vk ?Vl ?Vm ?Vn ?Vo ?Vp ?Vq ?Vr ?Vs ?Vt ?Vu ?Vv ?Vw ?Vx ?Vy ?Vz ?V0 ?V1 ?V2 ?V3 ?V4 ?V5 ?V6 ?V7 ?V8 ?V9 ?Wa ?Wb ?Wc ?Wd ?We ?Wf ?Wg ?Wh ?Wi ?Wj ?Wk ?Wl ?Wm ?Wn ?Wo ?Wp ?Wt ?Wq ?Ws ?Wr
  (case Qa=>k_is)
  (case Qb=>k_is)
  (case Qc=>k_is)
  (case Qd=>k_is)
  (case Qe=>k_is)
  (case Qf=>k_is)
  (case Qg=>k_is)
  (case Qh=>k_is)
  (case Qi=>k_is)
  (case Qj=>k_is)
  (case Qk=>k_is)
  (case Ql=>k_is)
  (case Qm=>k_is)
  (case Qn=>k_is)
  (case Qo=>k_is)
  (case Qp=>k_is)
  (case Qq=>k_is)
  (case Qr=>k_is)
  (case Qs=>k_is)
  (case Qt=>k_is)
  (case Qu=>k_is)
  (case Qv=>k_is)
  (case Qw=>k_is)
  (case Qx=>k_is)
  (case Qy=>k_is)
  (case Qz=>k_is)
  (case Q0=>k_is)
  (case Q1=>k_is)
  (case Q2=>k_is)
  (case Q3=>k_is)
  (case Q4=>k_is)
  (case Q5=>k_is)
  (case Q6=>k_is)
  (case Q7=>k_is)
  (case Q8=>k_is)
  (case Q9=>k_is)
  (case Ra=>k_is)
  (case Rb=>k_is)
  (case Rc=>k_is)
  (case Rd=>k_is)
  (case Re=>k_is)
  (case Rf=>k_is)
  (case Rg=>k_is)
  (case Rh=>k_is)
  (case Ri=>k_is)
  (case Rj=>k_is)
  (case Rk=>k_is)
  (case Rl=>k_is)
  (case Rm=>k_is)
  (case Rn=>k_is)
  (case Ro=>k_is)
  (case Rp=>k_is)
  (case Rq=>k_is)
  (case Rr=>k_is)
  (case Rs=>k_is)
  (case Rt=>k_is)
  (case Ru=>k_is)
  (case Rv=>k_is)
  (case Rw=>k_is)
  (case Rx=>k_is)
  (case Ry=>k_is)
  (case Rz=>k_is)
  (case R0=>k_is)
  (case R1=>k_is)
  (case R2=>k_is)
  (case R3=>k_is)
  (case R4=>k_is)
  (case R5=>k_is)
  (case R6=>k_is)
  (case R7=>k_is)
  (case R8=>k_is)
  (case R9=>k_is)
  (case Sa=>k_is)
  (case Sb=>k_is)
  (case Sc=>k_is)
  (case Sd=>k_is)
  (case Se=>k_is)
  (case Sf=>k_is)
  (case Sg=>k_is)
  (case Sh=>k_is)
  (case Si=>k_is)
  (case Sj=>k_is)
  (case Sk=>k_is)
  (case Sl=>k_is)
  (case Sm=>k_is)
  (case Sn=>k_is)
  (case So=>k_is)
  (case Sp=>k_is)
  (case Sq=>k_is)
  (case Sr=>k_is)
  (case Ss=>k_is)
  (case St=>k_is)
  (case Su=>k_is)
  (case Sv=>k_is)
  (case Sw=>k_is)
  (case Sx=>k_is)
  (case Sy=>k_is)
  (case Sz=>k_is)
  (case S0=>k_is)
  (case S1=>k_is)
  (case S2=>k_is)
  (case S3=>k_is)
  (case S4=>k_is)
  (case S5=>k_is)
  (case S6=>k_is)
  (case S7=>k_is)
  (case S8=>k_is)
  (case S9=>k_is)
  (case Ta=>k_is)
  (case Tb=>k_is)
  (case Tc=>k_is)
  (case Td=>k_is)
  (case Te=>k_is)
  (case Tf=>k_is)
  (case Tg=>k_is)
  (case Th=>k_is)
  (case Ti=>k_is)
  (case Tj=>k_is)
  (case Tk=>k_is)
  (case Tl=>k_is)
  (case Tm=>k_is)
  (case Tn=>k_is)
  (case To=>k_is)
  (case Tp=>k_is)
  (case Tq=>k_is)
  (case Tr=>k_is)
  (case Ts=>k_is)
  (case Tt=>k_is)
  (case Tu=>k_is)
  (case Tv=>k_is)
  (case Tw=>k_is)
  (case Tx=>k_is)
  (case Ty=>k_is)
  (case Tz=>k_is)
  (case T0=>k_is)
  (case T1=>k_is)
  (case T2=>k_is)
  (case T3=>k_is)
  (case T4=>k_is)
  (case T5=>k_is)
  (case T6=>k_is)
  (case T7=>k_is)
  (case T8=>k_is)
  (case T9=>k_is)
  (case Ua=>k_is)
  (case Ub=>k_is)
  (case Uc=>k_is)
  (case Ud=>k_is)
  (case Ue=>k_is)
  (case Uf=>k_is)
  (case Ug=>k_is)
  (case Uh=>k_is)
  (case Ui=>k_is)
  (case Uj=>k_is)
  (case Uk=>k_is)
  (case Ul=>k_is)
  (case Um=>k_is)
  (case Un=>k_is)
  (case Uo=>k_is)
  (case Up=>k_is)
  (case Uq=>k_is)
  (case Ur=>k_is)
  (case Us=>k_is)
  (case Ut=>k_is)
  (case Uu=>k_is)
  (case Uv=>k_is)
  (case Uw=>k_is)
  (case Ux=>k_is)
  (case Uy=>k_is)
  (case Uz=>k_is)
  (case U0=>k_is)
  (case U1=>k_is)
  (case U2=>k_is)
  (case U3=>k_is)
  (case U4=>k_is)
  (case U5=>k_is)
  (case U6=>k_is)
  (case U7=>k_is)
  (case U8=>k_is)
  (case U9=>k_is)
  (case Va=>k_is)
  (case Vb=>k_is)
  (case Vc=>k_is)
  (case Vd=>k_is)
  (case Ve=>k_is)
  (case Vf=>k_is)
  (case Vg=>k_is)
  (case Vh=>k_is)
  (case Vi=>k_is)
  (case Vj=>k_is)
  (case Vk=>k_is)
  (case Vl=>k_is)
  (case Vm=>k_is)
  (case Vn=>k_is)
  (case Vo=>k_is)
  (case Vp=>k_is)
  (case Vq=>k_is)
  (case Vr=>k_is)
  (case Vs=>k_is)
  (case Vt=>k_is)
  (case Vu=>k_is)
  (case Vv=>k_is)
  (case Vw=>k_is)
  (case Vx=>k_is)
  (case Vy=>k_is)
  (case Vz=>k_is)
  (case V0=>k_is)
  (case V1=>k_is)
  (case V2=>k_is)
  (case V3=>k_is)
  (case V4=>k_is)
  (case V5=>k_is)
  (case V6=>k_is)
  (case V7=>k_is)
  (case V8=>k_is)
  (case V9=>k_is)
  (case Wa=>k_is)
  (case Wb=>k_is)
  (case Wc=>k_is)
  (case Wd=>k_is)
  (case We=>k_is)
  (case Wf=>k_is)
  (case Wg=>k_is)
  (case Wh=>k_is)
  (case Wi=>k_is)
  (case Wj=>k_is)
  (case Wk=>k_is)
  (case Wl=>k_is)
  (case Wm=>k_is)
  (case Wn=>k_is)
  (case Wo=>k_is)
  (case Wp=>k_is)
  (case Wq=>k_is)
  (case Wr=>k_is)
  (case Ws=>k_is)
  (case Wt=>k_is)
