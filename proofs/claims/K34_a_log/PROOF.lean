import PyProof.Rows.All
import Wide.All
import OpenK.AllK
import Wide.FinOn
import Lean
import PyProof.EqAt
import PyProof.EqKinds
import PyProof.TupleCall
import KE.KRevIter
import KE.KDictList
import PyProof.ZipIter
import PyProof.Draws
import PyProof.DictWalks
import PyProof.AttrMiss
import PyProof.FactsAll.zip_1
import KE.KDictOf
import PyProof.Rows.FStr
import PyProof.AutoSeq1
import PyProof.EnumMake
import PyProof.CallType
import PyProof.Rows.CallKwBuiltin
import PyProof.Rows.StrIntSpec
import PySem.Challenge.RW_idlegraph_k34_a_log
set_option Elab.async false
set_option linter.all false
set_option maxRecDepth 100000
set_option maxHeartbeats 4000000
def XA:=@PySem.wpAny_bind
def XB:=@PySem.wpAny_pure
def XC:=@PySem.Heap.get?_push_of_some
def XD:=@PySem.Heap.lt_size
def XE:=@Nat.le_refl
def XF:=@PySem.Heap.get?_push_size
def XG:=@Nat.lt_of_lt_of_le
def XH:=@Nat.ne_of_lt
def XI:=@List.length_map
def XJ:=@List.size_toArray
def XL:=@List.map_append
def XM:=@List.getElem?_map
def XN:=@Nat.le_trans
def XO:=@Nat.zero_le
def XQ:=@List.mem_singleton
def XR:=@List.mem_map
def XS:=@List.mem_append
def XT:=@List.mem_append_right
def XU:=@beq_self_eq_true
def XV:=@List.mem_cons_of_mem
def XW:=@Int.le_refl
def XX:=@if_neg
def XY:=@if_pos
def XZ:=@PySem.F.plainAttrs_list
def YA:=@PySem.F.type_list_append
def YB:=@PySem.F.slot_list_append
def YC:=@PySem.Str.length_append
def YD:=@List.take_add_one
def YE:=@List.map_map
def YF:=@List.length_cons
def YG:=@decide_eq_false
def YH:=@Option.some.inj
def YI:=@List.map_cons
def YJ:=@Bool.false_ne_true
def YK:=@List.append_nil
def YL:=@List.append_assoc
def YM:=@List.length_take
def YN:=@List.getElem_mem
def YO:=@Int.emod_nonneg
theorem ZNB {a b:Nat} (h:Nat.ble a b=true):a≤b:=Nat.le_of_ble_eq_true h
theorem ZM {α:Type}{x a:α}{l:List α}:x∈a::l↔x=a∨x∈l:=List.mem_cons
theorem ZN {α:Type}{x:α}:x∈([]:List α)↔False:=⟨List.not_mem_nil,False.elim⟩
namespace L2
open PySem PySem.Spec PyProof.Rows
abbrev Key:=Sum Int Str
def Zlo:Key→Value→Bool
 | .inl k,v=>Value.isInt k v
 | .inr x,v=>Value.isStrOf x v
def keyH (w:World):Key→Int
 | .inl k=>hashInt k
 | .inr x=>hashStr w x
theorem Xd:∀{k:Key} {v:Value},Zlo k v=true→(∃i t,k=Sum.inl i∧v=Value.int i t)∨(∃x t,k=Sum.inr x∧v=Value.str x t)
 | .inl i,v,h=>by
  obtain⟨t,e⟩:=Value.isInt_shape (k:=i) (v:=v) h
  exact .inl ⟨i,t,rfl,e⟩
 | .inr x,v,h=>by
  obtain⟨t,e⟩:=Value.isStrOf_shape (x:=x) (v:=v) h
  exact .inr ⟨x,t,rfl,e⟩
theorem Ztr (i:Int)(t:Tok):Zlo (.inl i) (.int i t)=true:=by simp[Zlo,Value.isInt]
theorem Ztq (x:Str)(t:Tok):Zlo (.inr x) (.str x t)=true:=by simp[Zlo,Value.isStrOf]
theorem Z3q (a b:Int):decide ((Sum.inl a:Key)=Sum.inl b)=(a==b):=by
 by_cases e:a=b
 ·subst e;simp
 ·have h:¬(Sum.inl a:Key)=Sum.inl b:=fun q=>e (Sum.inl.inj q)
  rw[YG h]
  exact(beq_eq_false_iff_ne.mpr e).symm
theorem Z3n (a b:Str):decide ((Sum.inr a:Key)=Sum.inr b)=decide (a=b):=by
 by_cases e:a=b
 ·subst e;simp
 ·have h:¬(Sum.inr a:Key)=Sum.inr b:=fun q=>e (Sum.inr.inj q)
  rw[YG h,YG e]
theorem Z3p (a:Int)(b:Str):decide ((Sum.inl a:Key)=Sum.inr b)=false:=YG (fun q=>nomatch q)
theorem Z3o (a:Str)(b:Int):decide ((Sum.inr a:Key)=Sum.inl b)=false:=YG (fun q=>nomatch q)
def Jf (prog:Program)(w:World):PySem.KeyKind prog w Key where
 is:=Zlo
 hash:=keyH w
 inj:=fun v a b ha hb=>by
  rcases Xd ha with⟨i,t,rfl,rfl⟩ | ⟨x,t,rfl,rfl⟩
  ·rcases Xd hb with⟨j,u,rfl,e⟩ | ⟨y,u,rfl,e⟩
   ·injection e with e1 _;rw[e1]
   ·exact nomatch e
  ·rcases Xd hb with⟨j,u,rfl,e⟩ | ⟨y,u,rfl,e⟩
   ·exact nomatch e
   ·injection e with e1 _;rw[e1]
 byValue:=fun k v h=>by
  rcases Xd h with⟨i,t,rfl,rfl⟩ | ⟨x,t,rfl,rfl⟩<;>rfl
 pyHash:=fun hv h=>by
  rcases Xd hv with⟨i,t,rfl,rfl⟩ | ⟨x,t,rfl,rfl⟩
  ·exact wpAny_pyHash_int h
  ·exact wpAny_pyHash_str h
 eqBool:=fun hu hv h=>by
  rcases Xd hu with⟨i,t,rfl,rfl⟩ | ⟨x,t,rfl,rfl⟩
  ·rcases Xd hv with⟨j,u,rfl,rfl⟩ | ⟨y,u,rfl,rfl⟩
   ·rw[Z3q] at h;exact wpAny_eqBool_int h
   ·rw[Z3p] at h;exact SeqAt.EqAt.int_str i t y u _ _ _ _ h
  ·rcases Xd hv with⟨j,u,rfl,rfl⟩ | ⟨y,u,rfl,rfl⟩
   ·rw[Z3o] at h;exact SeqAt.EqAt.str_int x t j u _ _ _ _ h
   ·rw[Z3n] at h;exact wpAny_eqBool_str h
 «strs»:=fun k x t v h=>by
  rcases Xd h with⟨i,u,rfl,e⟩ | ⟨y,u,rfl,e⟩
  ·exact nomatch e
  ·injection e with e1 _
   subst e1
   cases v<;>rfl
theorem Zo1 (prog:Program)(w:World)(i:Int)(t:Tok):(Jf prog w).is (.inl i) (.int i t)=true:=Ztr i t
theorem Zo0 (prog:Program)(w:World)(x:Str)(t:Tok):(Jf prog w).is (.inr x) (.str x t)=true:=Ztq x t
inductive V where
 | non | bl (b:Bool) | int (i:Int) | str (x:Str) | byt (b:Array UInt8) | flt (b:UInt64) | ref (a:Addr) | ty (n:String)
 deriving DecidableEq
def Yg:V→Value→Prop
 | .non,u=>u=Value.none
 | .bl b,u=>u=Value.bool b
 | .int i,u=>∃t,u=Value.int i t
 | .str x,u=>∃t,u=Value.str x t
 | .byt b,u=>∃t,u=Value.bytes b t
 | .flt b,u=>∃t,u=Value.float b t
 | .ref a,u=>u=Value.ref a
 | .ty n,u=>u=Value.type n
abbrev Vals:List V→List Value→Prop:=Paired Yg
theorem Vals.length {xs:List V}{us:List Value}(r:Vals xs us):xs.length=us.length:=Paired.length r
theorem Vals.get:∀{xs:List V} {us:List Value} {i:Nat} {x:V},Vals xs us→xs[i]?=some x→∃u,us[i]?=some u∧Yg x u
 | _,_,_,_,.nil,e=>by simp at e
 | _,_,0,_,.cons r _,e=>by simp at e;subst e;exact⟨_,rfl,r⟩
 | _,_,i+1,x,.cons _ t,e=>by
  obtain⟨u,h1,h2⟩:=Vals.get (i:=i) (x:=x) t (by simpa using e)
  exact⟨u,by simpa using h1,h2⟩
theorem Vals.append:∀{xs ys:List V} {us ws:List Value},Vals xs us→Vals ys ws→Vals (xs++ys) (us++ws)
 | _,_,_,_,.nil,s=>s
 | _,_,_,_,.cons r t,s=>.cons r (Vals.append t s)
theorem Vals.take:∀{xs:List V} {us:List Value} (n:Nat),Vals xs us→Vals (xs.take n) (us.take n)
 | _,_,0,_=>.nil
 | _,_,_+1,.nil=>.nil
 | _,_,n+1,.cons r t=>.cons r (Vals.take n t)
theorem Vals.drop:∀{xs:List V} {us:List Value} (n:Nat),Vals xs us→Vals (xs.drop n) (us.drop n)
 | _,_,0,r=>r
 | _,_,_+1,.nil=>.nil
 | _,_,n+1,.cons _ t=>Vals.drop n t
def RelO:Option V→Option Value→Prop
 | some v,some u=>Yg v u
 | none,none=>True
 | _,_=>False
def KV {κ:Type}:List (κ×V)→List (κ×Value)→Prop:=Paired fun (p:κ×V) (q:κ×Value)=>p.1=q.1∧Yg p.2 q.2
def kV:Key→V
 | .inl i=>.int i
 | .inr x=>.str x
inductive HO where
  | lst (xs:List V)
  | tup (xs:List V)
  | dK (kvs:List (Key×V)) | dT (kvs:List (List Key×V))
  | set (S:Int→Bool) (n:Nat)
  | ins (C dx:Addr) (fs:List (Str×V))
  | own (x:Addr)
  | xd (fs:List (Str×V))
  | met (f x:Addr)
  | rng (lo hi:Int)
  | frz (o:Obj) (u:HO)
  | tbl (ps:Array Value)
  | ext (φ:Heap→Prop)
abbrev Hp:=Addr→Option HO
def upd (H:Hp)(a:Addr)(o:HO):Hp:=fun b=>if b=a then some o else H b
theorem Yo {H:Hp}{a:Addr}{o:HO}:upd H a o a=some o:=by unfold upd;rw[XY rfl]
theorem Yc {H:Hp}{a b:Addr}{o:HO}(h:b≠a):upd H a o b=H b:=by unfold upd;rw[XX h]
theorem ne_of {H:Hp}{a b:Addr}{o u:HO}(h:H a=some o)(h':H b=some u)(d:o≠u):a≠b:=by
 intro e;subst e;rw[h] at h';exact d (YH h')
theorem Xk {H:Hp}{a b:Addr}{o:HO}(h:H a=some o)(h':H b=none):a≠b:=by
 intro e;subst e;rw[h] at h';cases h'
section
variable (P:Program)(w:World)
def Xl (H:Hp)(h:Heap)(a:Addr):HO→Prop
 | .lst xs=>xs.length≤sizeLine∧∃(its:List Value) (n:Nat),Vals xs its∧h.get? a=some {cls:=.type "list",data:=.seq its.toArray n}
 | .tup xs=>xs.length≤sizeLine∧∃its:List Value,Vals xs its∧IsTup h a its.toArray
 | .dK kvs=>kvs.length≤sizeLine∧(a==sysModules)=false∧∃vs,KV kvs vs∧h.DictOf (Jf P w) a vs
 | .dT kvs=>kvs.length≤sizeLine∧(a==sysModules)=false∧∃xs:List (List Key×Addr×Value),
   Paired (fun (p:List Key×V) (q:List Key×Addr×Value)=>p.1=q.1∧H q.2.1=some (.tup (p.1.map kV))∧Yg p.2 q.2.2) kvs xs∧
   ∃o es ep,h.get? a=some o∧o.ExactDict∧o.data=.dict es ep∧es.toList=xs.map (entryOfKey (tupleKind (Jf P w)))∧(xs.map (·.1)).Nodup
 | .set S n=>h.SetOf (intKind P w) a S n
 | .ins C dx fs=>H dx=some (.own a)∧fs.length≤1000∧dx≠a∧h.get? a=some (W.instObj C dx)∧
   ∃mA,h.Ns1 dx mA∧(∀f,RelO (fs.lookup f) (mA f))∧PySem.Within mA (fs.map (·.1))
 | .own _=>∃o,h.get? a=some o
 | .xd fs=>∃mA,h.Ns1 a mA∧∀f,RelO (fs.lookup f) (mA f)
 | .rng lo hi=>∃t u v,h.get? a=some {cls:=.type "range",data:=.fields #[.int lo t,.int hi u,.int 1 v]}
 | .frz o u=>h.get? a=some o∧Xl H h a u
 | .tbl ps=>h.get? a=some {cls:=.none,data:=.fields ps}
 | .met f x=>h.get? a=some (W.methodObj (.ref f) (.ref x))
 | .ext φ=>φ h∧(∃o,h.get? a=some o)∧∀h1 h2:Heap,φ h1→(∀o,h1.get? a=some o→h2.get? a=some o)→φ h2
def HOk (H:Hp)(h:Heap):Prop:=∀a o,H a=some o→Xl P w H h a o
end
section
variable {P:Program}{w:World}{H H':Hp}{h h':Heap}{a:Addr}{o:HO}
theorem Xl.lt (x:Xl P w H h a o):a<h.objs.size:=by
 cases o with
 | lst xs=>obtain⟨_,_,_,_,e⟩:=x;exact XD e
 | tup xs=>obtain⟨_,_,_,p⟩:=x;exact p.lt
 | dK kvs=>obtain⟨_,_,_,_,o,_,_,e,_⟩:=x;exact XD e
 | dT kvs=>obtain⟨_,_,_,_,o,_,_,e,_⟩:=x;exact XD e
 | set S n=>obtain⟨o,_,_,_,e,_⟩:=x;exact XD e
 | ins C dx fs=>obtain⟨_,_,_,e,_⟩:=x;exact XD e
 | own y=>obtain⟨_,e⟩:=x;exact XD e
 | xd fs=>obtain⟨_,⟨_,_,_,e,_⟩,_⟩:=x;exact XD e
 | rng lo hi=>obtain⟨_,_,_,e⟩:=x;exact XD e
 | frz ob u=>obtain⟨e,_⟩:=x;exact XD e
 | tbl ps=>exact XD (show h.get? a=some _ from x)
 | met f y=>exact XD (show h.get? a=some _ from x)
 | ext φ=>obtain⟨_,⟨_,e⟩,_⟩:=x;exact XD e
theorem Paired.mapP {α β:Type}{F G:α→β→Prop}:∀{l₁:List α} {l₂:List β},Paired F l₁ l₂→(∀a b,F a b→G a b)→Paired G l₁ l₂
 | _,_,.nil,_=>.nil
 | _,_,.cons r t,f=>.cons (f _ _ r) (Paired.mapP t f)
theorem Xl.stay (x:Xl P w H h a o)(k:∀b u,(b=a∨H b=some (.own a))→h.get? b=some u→h'.get? b=some u)
  (ho:∀b,H b=some (.own a)→H' b=some (.own a)) (ht:∀b xs,H b=some (.tup xs)→H' b=some (.tup xs)):Xl P w H' h' a o:=by
 induction o with
 | lst xs=>obtain⟨z,its,n,r,e⟩:=x;exact⟨z,its,n,r,k _ _ (.inl rfl) e⟩
 | tup xs=>obtain⟨z,its,r,ob,e,c⟩:=x;exact⟨z,its,r,ob,k _ _ (.inl rfl) e,c⟩
 | dK kvs=>obtain⟨z,y,vs,r,ob,es,ep,e,c⟩:=x;exact⟨z,y,vs,r,ob,es,ep,k _ _ (.inl rfl) e,c⟩
 | dT kvs=>
  obtain⟨z,y,xs,r,ob,es,ep,e,c⟩:=x
  exact⟨z,y,xs,Paired.mapP r fun p q z=>⟨z.1,ht _ _ z.2.1,z.2.2⟩,ob,es,ep,k _ _ (.inl rfl) e,c⟩
 | set S n=>obtain⟨ob,es,ep,t,e,c⟩:=x;exact⟨ob,es,ep,t,k _ _ (.inl rfl) e,c⟩
 | ins C dx fs=>
  obtain⟨d,z,ne,e,mA,⟨od,es,ep,e2,c⟩,r⟩:=x
  exact⟨ho _ d,z,ne,k _ _ (.inl rfl) e,mA,⟨od,es,ep,k _ _ (.inr d) e2,c⟩,r⟩
 | own y=>obtain⟨ob,e⟩:=x;exact⟨ob,k _ _ (.inl rfl) e⟩
 | xd fs=>obtain⟨mA,⟨od,es,ep,e,c⟩,r⟩:=x;exact⟨mA,⟨od,es,ep,k _ _ (.inl rfl) e,c⟩,r⟩
 | rng lo hi=>obtain⟨t,u,v,e⟩:=x;exact⟨t,u,v,k _ _ (.inl rfl) e⟩
 | frz ob u ih=>obtain⟨e,q⟩:=x;exact⟨k _ _ (.inl rfl) e,ih q⟩
 | tbl ps=>
  have e:h.get? a=some {cls:=.none,data:=.fields ps}:=x
  show h'.get? a=some {cls:=.none,data:=.fields ps}
  exact k a _ (.inl rfl) e
 | met f y=>
  have e:h.get? a=some (W.methodObj (.ref f) (.ref y)):=x
  show h'.get? a=some (W.methodObj (.ref f) (.ref y))
  exact k a _ (.inl rfl) e
 | ext φ=>obtain⟨p,⟨o,e⟩,st⟩:=x;exact⟨st _ _ p fun o q=>k _ _ (.inl rfl) q,⟨o,k _ _ (.inl rfl) e⟩,st⟩
theorem HOk.lt (x:HOk P w H h)(e:H a=some o):a<h.objs.size:=(x a o e).lt
theorem HOk.fresh (x:HOk P w H h)(e:h.objs.size≤a):H a=none:=by
 cases q:H a with
 | none=>rfl
 | some u=>exact absurd (XG (x.lt q) e) (Nat.lt_irrefl _)
theorem HOk.kept (x:HOk P w H h)(k:∀b u,h.get? b=some u→h'.get? b=some u):HOk P w H h':=fun a o e=>
 (x a o e).stay (fun b u _ q=>k b u q) (fun _ q=>q) fun _ _ q=>q
theorem HOk.laid (x:HOk P w H h)(k:∀b u,h.get? b=some u→h'.get? b=some u)(hp:h.objs.size≤a)(new:Xl P w (upd H a o) h' a o):HOk P w (upd H a o) h':=fun b u e=>by
 have hn:=x.fresh hp
 by_cases hb:b=a
 ·subst hb;rw[Yo] at e;cases e;exact new
 ·rw[Yc hb] at e
  exact(x b u e).stay (fun c v _ q=>k c v q) (fun c q=>by rw[Yc (Xk q hn)];exact q) fun c xs q=>by rw[Yc (Xk q hn)];exact q
end
def Rd (H:Hp)(a:Addr)(u:HO):Prop:=H a=some u∨∃o,H a=some (.frz o u)
theorem Rd.ok {P:Program}{w:World}{H:Hp}{h:Heap}{a:Addr}{u:HO}(r:Rd H a u)(x:HOk P w H h):Xl P w H h a u:=by
 rcases r with r | ⟨o,r⟩
 ·exact x a u r
 ·obtain⟨_,q⟩:=x a _ r
  exact q
def Mut:Option HO→Prop
 | some (.lst _)=>True
 | some (.dK _)=>True
 | some (.dT _)=>True
 | some (.set _ _)=>True
 | some (.ins _ _ _)=>True
 | some (.ext _)=>True
 | _=>False
section
variable {P:Program}{w:World}{H:Hp}{h h':Heap}{x e:Addr}{o':HO}
theorem HOk.write (ok:HOk P w H h)(mu:Mut (H x))(he:e=x∨H e=some (.own x))(k:∀b u,b≠e→h.get? b=some u→h'.get? b=some u)(heo:∃u,h'.get? e=some u)
  (new:Xl P w (upd H x o') h' x o'):HOk P w (upd H x o') h':=fun b u q=>by
 have nown:∀c y,H c=some (.own y)→c≠x:=fun c y r z=>by subst z;rw[r] at mu;exact mu
 have ntup:∀c xs,H c=some (.tup xs)→c≠x:=fun c xs r z=>by subst z;rw[r] at mu;exact mu
 by_cases hb:b=x
 ·subst hb;rw[Yo] at q;cases q;exact new
 ·rw[Yc hb] at q
  by_cases hbe:b=e
  ·have q':H b=some (.own x):=by
    rcases he with z | z
    ·exact absurd (hbe.trans z) hb
    ·rw[hbe];exact z
   rw[q] at q';cases q'
   obtain⟨v,hv⟩:=heo
   exact⟨v,by rw[hbe];exact hv⟩
  ·refine(ok b u q).stay (fun c v hc r=>k c v ?_ r) (fun c r=>by rw[Yc (nown c b r)];exact r) fun c xs r=>by rw[Yc (ntup c xs r)];exact r
   rcases hc with rfl | hc
   ·exact hbe
   ·rintro rfl
    rcases he with z | z
    ·exact nown c b hc z
    ·rw[hc] at z;cases z;exact hb rfl
end
structure Un (fs ex:List Addr)(H H':Hp)(h h':Heap):Prop where
 keep:∀b o,h.get? b=some o→H b=none→b∉fs→b∉ex→h'.get? b=some o
 slot:∀b o,h.get? b=some o→H b=none→b∈fs→b∉ex→∃sl,h'.get? b=some {o with slots:=sl}
 free:∀b o,h.get? b=some o→H b=none→b∉ex→H' b=none
 there:∀b o,h.get? b=some o→b∉ex→∃o',h'.get? b=some o'
 tups:∀b xs,H b=some (.tup xs)→H' b=some (.tup xs)
 frzs:∀b o u,H b=some (.frz o u)→H' b=some (.frz o u)
 tbls:∀b ps,H b=some (.tbl ps)→∃more,H' b=some (.tbl (ps++more))
section
variable {fs fs' ex ex':List Addr}{H H1 H2:Hp}{h h1 h2 h':Heap}{a x e:Addr}{o:HO}
theorem Un.any (u:Un fs ex H H1 h h1){b:Addr}{ob:Obj}(q:h.get? b=some ob)(n:H b=none)(hx:b∉ex):∃sl,h1.get? b=some {ob with slots:=sl}:=by
 by_cases hb:b∈fs
 ·exact u.slot b ob q n hb hx
 ·exact⟨ob.slots,u.keep b ob q n hb hx⟩
theorem Un.kept (k:∀b u,h.get? b=some u→h'.get? b=some u):Un fs ex H H h h':=
 ⟨fun b ob q _ _ _=>k b ob q,fun b ob q _ _ _=>⟨ob.slots,k b ob q⟩,fun _ _ _ n _=>n,fun b ob q _=>⟨ob,k b ob q⟩,fun _ _ q=>q,fun _ _ _ q=>q,fun _ ps q=>⟨#[],by rw[q];simp⟩⟩
theorem Un.refl:Un fs ex H H h h:=Un.kept fun _ _ q=>q
theorem Un.laid (k:∀b u,h.get? b=some u→h'.get? b=some u)(hp:h.objs.size≤a)(hn:H a=none):Un fs ex H (upd H a o) h h' where
 keep:=fun b u q _ _ _=>k b u q
 slot:=fun b u q _ _ _=>⟨u.slots,k b u q⟩
 free:=fun b u q n _=>by rw[Yc (XH (XG (XD q) hp))];exact n
 there:=fun b u q _=>⟨u,k b u q⟩
 tups:=fun b xs q=>by rw[Yc (Xk q hn)];exact q
 frzs:=fun b u xs q=>by rw[Yc (Xk q hn)];exact q
 tbls:=fun b ps q=>⟨#[],by rw[Yc (Xk q hn),q];simp⟩
theorem Un.write (mu:Mut (H x))(he:e=x∨H e=some (.own x))(k:∀b u,b≠e→h.get? b=some u→h'.get? b=some u)(heo:∃u,h'.get? e=some u):Un fs ex H (upd H x o) h h':=by
 have hx:∀b,H b=none→b≠x:=fun b n z=>by subst z;rw[n] at mu;exact mu
 have hb:∀b,H b=none→b≠e:=fun b n z=>by
  subst z
  rcases he with r | r
  ·exact hx b n r
  ·rw[n] at r;cases r
 have hm:∀b u,H b=some u→¬Mut (some u)→b≠x:=fun b u q nm z=>by subst z;rw[q] at mu;exact nm mu
 refine⟨fun b u q n _ _=>k b u (hb b n) q,fun b u q n _ _=>⟨u.slots,k b u (hb b n) q⟩,fun b u q n _=>by rw[Yc (hx b n)];exact n,fun b u q _=>?_,
  fun b xs q=>by rw[Yc (hm b _ q fun z=>z)];exact q,fun b u xs q=>by rw[Yc (hm b _ q fun z=>z)];exact q,fun b ps q=>⟨#[],by rw[Yc (hm b _ q fun z=>z),q];simp⟩⟩
 by_cases hbe:b=e
 ·subst hbe;exact heo
 ·exact⟨u,k b u hbe q⟩
end
def trk (h:Heap)(H:Hp):List Addr:=(List.range h.objs.size).filter fun a=>(H a).isSome
def hidT (h:Heap)(H:Hp):Heap:=W.hideAll h (trk h H)
theorem Ztx (h:Heap)(H:Hp):(hidT h H).objs.size=h.objs.size:=W.hideAll_size _ _
theorem Zw0 {h:Heap}{H:Hp}{b:Addr}{o:Obj}(e:h.get? b=some o)(n:H b=none):(hidT h H).get? b=some o:=
 W.hideAll_get _ e fun hm=>by
  have q:(H b).isSome=true:=(List.mem_filter.mp hm).2
  rw[n] at q;simp at q
theorem Zzk {h:Heap}{H:Hp}{b:Addr}{o:Obj}(e:(hidT h H).get? b=some o):h.get? b=some o∧H b=none:=by
 have e':h.get? b=some o:=W.of_hideAll (trk h H) e
 refine⟨e',?_⟩
 cases q:H b with
 | none=>rfl
 | some x=>
  have hm:b∈trk h H:=List.mem_filter.mpr ⟨List.mem_range.mpr (Heap.lt_size e'),by simp[q]⟩
  have z:(hidT h H).get? b=none:=W.hideAll_none (trk h H) hm
  rw[z] at e;cases e
def Z0v (g h:Heap)(L:Addr):List (Addr×Obj):=(List.range h.objs.size).filterMap fun a=>if a=L∨(g.get? a).isSome=true then none else(h.get? a).map fun o=>(a,o)
def rest (g h:Heap)(L d:Addr):List (Addr×Obj):=(Z0v g h L).filter fun p=>decide (p.1≠d)
structure Mod (K:W.Frag)(mg:Str→Option Value)(base:Heap):Prop where
 kin:K.In base
 glob:base.Ns mainGlobals mg
 blt:∃mb,base.Ns builtinsNs mb∧∀x:Str,x≠"__name__"→mb x=bootBuiltins x
 nolimit:base.NoLimit
structure Cx where
 prog:Program
 w:World
 K:W.Frag
 mg:Str→Option Value
 base:Heap
 A:Around
 N:List Str
 s₀:Shared
 H₀:Hp
 env:Env
 outer:List Env
 stack:List Env
 ex:List Addr
 fn:Str→Bool
 calm:Bool
 pn:List (Addr×Obj)
 xe:Value→Shared→Prop
def frs (l:List Env):List Addr:=l.filterMap (·.frame)
abbrev Cx.fs (X:Cx):List Addr:=frs X.outer
def Vis (sc:Scope)(x:Str):Prop:=sc.names.lookup x=some .local∨sc.names.lookup x=some .cell∨sc.names.lookup x=some .free
def Loc (sc:Scope)(x:Str):Prop:=sc.names.lookup x=some .local∨sc.names.lookup x=some .cell
def Look (env:Env)(h:Heap)(m:Str→Option Value)(x:Str)(u:Value):Prop:=
 (env.kindOf x=some .local∧m x=some u)∨((env.kindOf x=some .cell∨env.kindOf x=some .free)∧∃c,env.cells.lookup x=some c∧h.IsCell c (some u))
structure Cx.Ok (X:Cx):Prop where
 mod:Mod X.K X.mg X.base
 kind:X.env.scope.kind=.function
 glob:X.env.globals=mainGlobals
 blt:X.env.builtins=builtinsNs
 above:X.s₀.heap.objs.size≤X.env.locals
 inj:∀x y c,X.env.cells.lookup x=some c→X.env.cells.lookup y=some c→x=y
 has:∀x,(X.env.kindOf x=some .cell∨X.env.kindOf x=some .free)→∃c,X.env.cells.lookup x=some c
 cab:∀x c,X.fn x=true→X.env.cells.lookup x=some c→X.s₀.heap.objs.size≤c
 hd:X.calm=true→X.A.handled=none
 frames:X.A.frames=some X.stack
 stk:X.stack=X.outer∨(X.stack=X.env::X.outer∧X.env.frame=some X.env.locals)
 exf:∀b∈X.ex,b≠X.env.locals∧∀x c,X.env.cells.lookup x=some c→c≠b
 bs:∀b o,X.base.get? b=some o→X.s₀.heap.get? b=some o∧X.H₀ b=none
 bsz:X.base.objs.size≤X.s₀.heap.objs.size
 noex:∀b o,X.base.get? b=some o→b∉X.ex
 exfs:∀b∈X.ex,b∉X.fs
 funs:X.s₀.heap.FunFrames X.base X.outer
 frf:∀b∈X.fs,X.H₀ b=none
structure Inv (X:Cx)(pins:List (Addr×Obj))(σ:List (Option V))(H:Hp)(s:Shared):Prop where
 ok:X.Ok
 os:s.os=X.s₀.os
 bare:AllBare s.gens
 base:Un X.fs X.ex X.H₀ H X.s₀.heap s.heap
 loc:∃m,s.heap.Ns X.env.locals m∧∀(i:Nat) (x:Str) (v:V),X.N[i]?=some x→σ[i]?=some (some v)→Vis X.env.scope x→∃u,Yg v u∧Look X.env s.heap m x u
 cell:∀x c,X.env.cells.lookup x=some c→∃v,s.heap.IsCell c v
 free:H X.env.locals=none
 freeC:∀x c,X.env.cells.lookup x=some c→H c=none
 pin:∀p∈X.pn++pins,s.heap.get? p.1=some p.2∧H p.1=none∧p.1≠X.env.locals∧p.1∉X.fs∧∀v,p.2.data≠.cell v
 hok:HOk X.prog X.w H s.heap
 len:σ.length=X.N.length
section
variable {X:Cx}{pins:List (Addr×Obj)}{σ:List (Option V)}{H H':Hp}{s:Shared}{h':Heap}
theorem Cx.Ok.nofr (ok:X.Ok){b:Addr}{o:Obj}(e:X.base.get? b=some o):b∉X.fs:=fun hb=>by
 have:=(ok.funs.mem hb).1
 rw[e] at this;cases this
theorem Inv.bs (I:Inv X pins σ H s):∀b o,X.base.get? b=some o→s.heap.get? b=some o∧H b=none:=fun b o e=>
 ⟨I.base.keep b o (I.ok.bs b o e).1 (I.ok.bs b o e).2 (I.ok.nofr e) (I.ok.noex b o e),I.base.free b o (I.ok.bs b o e).1 (I.ok.bs b o e).2 (I.ok.noex b o e)⟩
theorem Inv.bk (I:Inv X pins σ H s):∀b o,X.base.get? b=some o→s.heap.get? b=some o:=fun b o e=>(I.bs b o e).1
theorem Inv.mod (I:Inv X pins σ H s):Mod X.K X.mg X.base:=I.ok.mod
theorem Inv.kIn (I:Inv X pins σ H s):X.K.In s.heap:=I.ok.mod.kin.keeps I.bk
theorem Inv.lt (I:Inv X pins σ H s):X.env.locals<s.heap.objs.size:=let ⟨_,hn,_⟩:=I.loc;hn.lt
theorem Inv.sz (I:Inv X pins σ H s):X.s₀.heap.objs.size≤s.heap.objs.size:=XN I.ok.above (Nat.le_of_lt I.lt)
theorem Inv.nofs (I:Inv X pins σ H s){a:Addr}(h:s.heap.objs.size≤a):a∉X.fs:=fun hb=>by
 obtain⟨_,o,ho,_⟩:=I.ok.funs.mem hb
 exact absurd (XG (XD ho) (XN I.sz h)) (Nat.lt_irrefl _)
theorem Inv.cne (I:Inv X pins σ H s):∀x c,X.env.cells.lookup x=some c→c≠X.env.locals:=fun x c e z=>by
 obtain⟨v,o,ho,hd⟩:=I.cell x c e
 obtain⟨m,⟨o',es,ep,ho',hd',_⟩,_⟩:=I.loc
 rw[z,ho'] at ho;cases ho;rw[hd'] at hd;cases hd
theorem Inv.funs (I:Inv X pins σ H s):s.heap.FunFrames X.base X.outer:=by
 have all:∀(l:List Env),(∀b∈frs l,b∈X.fs)→X.s₀.heap.FunFrames X.base l→s.heap.FunFrames X.base l:=by
  intro l
  induction l with
  | nil=>intro _ _;trivial
  | cons env r ih=>
   intro hs hl
   obtain⟨hk,⟨L,o,hf,hn,ho,hd⟩,hr⟩:=hl
   have hL:L∈X.fs:=hs L (by unfold frs;rw[List.filterMap_cons,hf];exact List.mem_cons_self)
   obtain⟨sl,e⟩:=I.base.slot L o ho (I.ok.frf L hL) hL fun z=>I.ok.exfs L z hL
   exact⟨hk,⟨L,_,hf,hn,e,hd⟩,ih (fun b hb=>hs b (by unfold frs;rw[List.filterMap_cons,hf];exact XV _ hb)) hr⟩
 exact all X.outer (fun _ hb=>hb) I.ok.funs
theorem Inv.stack (I:Inv X pins σ H s):s.heap.FunFrames X.base X.stack:=by
 rcases I.ok.stk with e | ⟨e,hf⟩
 ·rw[e];exact I.funs
 ·rw[e]
  obtain⟨m,hn,_⟩:=I.loc
  refine .cons (by rw[I.ok.kind];decide) hf hn ?_ I.funs
  exact Heap.get?_none_of_le (XN I.ok.bsz I.ok.above)
theorem Inv.stkSub (I:Inv X pins σ H s):∀b∈frs X.stack,b∈X.env.locals::X.fs:=fun b hb=>by
 rcases I.ok.stk with e | ⟨e,hf⟩
 ·rw[e] at hb;exact XV _ hb
 ·rw[e] at hb
  unfold frs at hb
  rw[List.filterMap_cons,hf] at hb
  exact hb
theorem Inv.stkFree (I:Inv X pins σ H s):∀b∈frs X.stack,H b=none:=fun b hb=>by
 rcases List.mem_cons.mp (I.stkSub b hb) with e | hb
 ·rw[e];exact I.free
 ·obtain⟨_,o,ho,_⟩:=I.ok.funs.mem hb
  exact I.base.free b o ho (I.ok.frf b hb) fun z=>I.ok.exfs b z hb
theorem Inv.step {g':Array GenState}{t':Nat}{d':Drawn}{ch:List Addr}(I:Inv X pins σ H s)
  (hch:∀b∈ch,(b∈X.ex∨X.s₀.heap.objs.size≤b)∧b≠X.env.locals∧(∀x c,X.env.cells.lookup x=some c→c≠b)∧∀p∈X.pn++pins,p.1≠b)
  (keep:∀b o,b≠X.env.locals→b∉X.fs→b∉ch→s.heap.get? b=some o→H b=none→h'.get? b=some o)
  (slot:∀b o,b≠X.env.locals→b∈X.fs→b∉ch→s.heap.get? b=some o→H b=none→∃sl,h'.get? b=some {o with slots:=sl}) (free:∀b o,b∉ch→s.heap.get? b=some o→H b=none→H' b=none)
  (there:∀b o,b∉ch→s.heap.get? b=some o→∃o',h'.get? b=some o')
  (tups:∀b xs,H b=some (.tup xs)→H' b=some (.tup xs)) (frzs:∀b o u,H b=some (.frz o u)→H' b=some (.frz o u)) (tbls:∀b ps,H b=some (.tbl ps)→∃more,H' b=some (.tbl (ps++more)))
  (ns:∀m,s.heap.Ns X.env.locals m→h'.Ns X.env.locals m) (hok:HOk X.prog X.w H' h') (hg:AllBare g'):
  Inv X pins σ H' {s with heap:=h',gens:=g',drawn:=d',toks:=t'}:=by
 have neL:∀b o,X.s₀.heap.get? b=some o→b≠X.env.locals:=fun b o e=>XH (XG (XD e) I.ok.above)
 have neC:∀b o,X.s₀.heap.get? b=some o→b∉X.ex→b∉ch:=fun b o e hx hb=>by
  rcases (hch b hb).1 with z | z
  ·exact hx z
  ·exact absurd (XG (XD e) z) (Nat.lt_irrefl _)
 have cellK:∀x c,X.env.cells.lookup x=some c→∀v,s.heap.IsCell c v→h'.IsCell c v:=fun x c e v ⟨o,ho,hd⟩=>by
  have nch:c∉ch:=fun z=>(hch c z).2.2.1 x c e rfl
  by_cases hc:c∈X.fs
  ·obtain⟨sl,q⟩:=slot c o (I.cne x c e) hc nch ho (I.freeC x c e)
   exact⟨_,q,hd⟩
  ·exact⟨o,keep c o (I.cne x c e) hc nch ho (I.freeC x c e),hd⟩
 refine⟨I.ok,I.os,hg,⟨fun b o e n hb hx=>?_,fun b o e n hb hx=>?_,fun b o e n hx=>?_,fun b o e hx=>?_,fun b xs e=>tups b xs (I.base.tups b xs e),fun b o xs e=>frzs b o xs (I.base.frzs b o xs e),fun b ps e=>?_⟩,?_,fun x c e=>?_,?_,fun x c e=>?_,fun p hp=>?_,hok,I.len⟩
 ·exact keep b o (neL b o e) hb (neC b o e hx) (I.base.keep b o e n hb hx) (I.base.free b o e n hx)
 ·obtain⟨sl,e1⟩:=I.base.slot b o e n hb hx
  obtain⟨sl',e2⟩:=slot b _ (neL b o e) hb (neC b o e hx) e1 (I.base.free b o e n hx)
  exact⟨sl',e2⟩
 ·obtain⟨o',e1⟩:=I.base.there b o e hx
  exact free b o' (neC b o e hx) e1 (I.base.free b o e n hx)
 ·obtain⟨o',e1⟩:=I.base.there b o e hx
  exact there b o' (neC b o e hx) e1
 ·obtain⟨m1,e1⟩:=I.base.tbls b ps e
  obtain⟨m2,e2⟩:=tbls b _ e1
  exact⟨m1++m2,by rw[e2,Array.append_assoc]⟩
 ·obtain⟨m,hn,hl⟩:=I.loc
  refine⟨m,ns m hn,fun i x v e1 e2 e3=>?_⟩
  obtain⟨u,r,l⟩:=hl i x v e1 e2 e3
  refine⟨u,r,?_⟩
  rcases l with l | ⟨k,c,e,z⟩
  ·exact .inl l
  ·exact .inr ⟨k,c,e,cellK x c e _ z⟩
 ·obtain⟨v,z⟩:=I.cell x c e
  exact⟨v,cellK x c e v z⟩
 ·obtain⟨m,⟨o,_,_,ho,_⟩,_⟩:=I.loc
  exact free _ o (fun z=>(hch _ z).2.1 rfl) ho I.free
 ·obtain⟨v,o,ho,hd⟩:=I.cell x c e
  exact free c o (fun z=>(hch c z).2.2.1 x c e rfl) ho (I.freeC x c e)
 ·obtain⟨e,n,ne,nf,d⟩:=I.pin p hp
  have nch:p.1∉ch:=fun z=>(hch p.1 z).2.2.2 p hp rfl
  exact⟨keep p.1 p.2 ne nf nch e n,free p.1 p.2 nch e n,ne,nf,d⟩
theorem Inv.un {t':Nat}(I:Inv X pins σ H s)(u:Un X.fs [] H H' s.heap h')(hok:HOk X.prog X.w H' h'):Inv X pins σ H' {s with heap:=h',toks:=t'}:=by
 obtain⟨m,⟨o,es,ep,ho,r⟩,_⟩:=id I.loc
 obtain⟨sl,hL⟩:=u.any ho I.free (by simp)
 exact I.step (g':=s.gens) (d':=s.drawn) (ch:=[]) (fun _ z=>nomatch z) (fun b o _ hb _ e n=>u.keep b o e n hb (by simp)) (fun b o _ hb _ e n=>u.slot b o e n hb (by simp)) (fun b o _ e n=>u.free b o e n (by simp)) (fun b o _ e=>u.there b o e (by simp)) u.tups u.frzs u.tbls (fun m' hm=>by
  obtain⟨o',es',ep',ho',r'⟩:=hm
  rw[ho] at ho';cases ho'
  exact⟨_,es',ep',hL,r'⟩) hok I.bare
theorem Inv.call {g':Array GenState}{t':Nat}{d':Drawn}{ch:List Addr}(I:Inv X pins σ H s)(u:Un (frs X.stack) ch H H' s.heap h')(hok:HOk X.prog X.w H' h')(hg:AllBare g')
  (hch:∀b∈ch,(b∈X.ex∨X.s₀.heap.objs.size≤b)∧b≠X.env.locals∧(∀x c,X.env.cells.lookup x=some c→c≠b)∧∀p∈X.pn++pins,p.1≠b):
  Inv X pins σ H' {s with heap:=h',gens:=g',drawn:=d',toks:=t'}:=by
 obtain⟨m,⟨o,es,ep,ho,r⟩,_⟩:=id I.loc
 obtain⟨sl,hL⟩:=u.any ho I.free fun z=>(hch _ z).2.1 rfl
 exact I.step (ch:=ch) hch (fun b o hL hb hc e n=>u.keep b o e n (fun z=>(List.mem_cons.mp (I.stkSub b z)).elim hL hb) hc) (fun b o _ _ hc e n=>u.any e n hc) (fun b o hc e n=>u.free b o e n hc) (fun b o hc e=>u.there b o e hc) u.tups u.frzs u.tbls (fun m' hm=>by
  obtain⟨o',es',ep',ho',r'⟩:=hm
  rw[ho] at ho';cases ho'
  exact⟨_,es',ep',hL,r'⟩) hok hg
theorem Inv.turned {t':Nat}{it:Addr}(I:Inv X pins σ H s)(k:∀b o,b≠it→s.heap.get? b=some o→h'.get? b=some o)(hn:H it=none)(hL:it≠X.env.locals)
  (h1:it∈X.ex∨X.s₀.heap.objs.size≤it) (h2:∀x c,X.env.cells.lookup x=some c→c≠it) (h3:∀p∈X.pn++pins,p.1≠it):Inv X pins σ H {s with heap:=h',toks:=t'}:=by
 have nit:∀b u,H b=some u→b≠it:=fun b u e z=>by rw[z,hn] at e;cases e
 refine I.step (g':=s.gens) (d':=s.drawn) (ch:=[it]) (fun b hb=>?_) (fun b o _ _ hc e _=>k b o (fun z=>hc (by simp[z])) e) (fun b o _ _ hc e _=>⟨o.slots,k b o (fun z=>hc (by simp[z])) e⟩) (fun _ _ _ _ n=>n)
  (fun b o hc e=>⟨o,k b o (fun z=>hc (by simp[z])) e⟩) (fun _ _ e=>e) (fun _ _ _ e=>e) (fun b ps e=>⟨#[],by rw[e];simp⟩) (fun m hm=>?_) (fun b u e=>?_) I.bare
 ·have e:b=it:=by simpa using hb
  subst e
  exact⟨h1,hL,h2,h3⟩
 ·obtain⟨o,es,ep,ho,r⟩:=hm
  exact⟨o,es,ep,k _ o (Ne.symm hL) ho,r⟩
 ·refine(I.hok b u e).stay (fun c v hc q=>k c v ?_ q) (fun _ q=>q) fun _ _ q=>q
  rcases hc with z | z
  ·rw[z];exact nit b u e
  ·exact nit c _ z
theorem Inv.tok (I:Inv X pins σ H s)(t:Nat):Inv X pins σ H {s with toks:=t}:=I.un (h':=s.heap) (t':=t) Un.refl I.hok
theorem Inv.kept {t':Nat}(I:Inv X pins σ H s)(k:∀b u,s.heap.get? b=some u→h'.get? b=some u):Inv X pins σ H {s with heap:=h',toks:=t'}:=I.un (Un.kept k) (I.hok.kept k)
theorem Inv.laid {a:Addr}{o:HO}{t':Nat}(I:Inv X pins σ H s)(k:∀b u,s.heap.get? b=some u→h'.get? b=some u)(hp:s.heap.objs.size≤a)(new:Xl X.prog X.w (upd H a o) h' a o):
  Inv X pins σ (upd H a o) {s with heap:=h',toks:=t'}:=I.un (Un.laid k hp (I.hok.fresh hp)) (I.hok.laid k hp new)
theorem Inv.write {x e:Addr}{o:HO}{t':Nat}(I:Inv X pins σ H s)(mu:Mut (H x))(he:e=x∨H e=some (.own x))(k:∀b u,b≠e→s.heap.get? b=some u→h'.get? b=some u)(heo:∃u,h'.get? e=some u)
  (new:Xl X.prog X.w (upd H x o) h' x o):Inv X pins σ (upd H x o) {s with heap:=h',toks:=t'}:=I.un (Un.write mu he k heo) (I.hok.write mu he k heo new)
theorem Inv.weak {σ':List (Option V)}(I:Inv X pins σ H s)(hl:σ'.length=σ.length)(w:∀(i:Nat) v,σ'[i]?=some (some v)→σ[i]?=some (some v)):Inv X pins σ' H s:=
 ⟨I.ok,I.os,I.bare,I.base,let ⟨m,hn,hl'⟩:=I.loc;⟨m,hn,fun i x v e1 e2 e3=>hl' i x v e1 (w i v e2) e3⟩,I.cell,I.free,I.freeC,I.pin,I.hok,hl.trans I.len⟩
theorem Inv.pins_of {pins':List (Addr×Obj)}(I:Inv X pins σ H s)(h:∀p∈pins',s.heap.get? p.1=some p.2∧H p.1=none∧p.1≠X.env.locals∧p.1∉X.fs∧∀v,p.2.data≠.cell v):Inv X pins' σ H s:=
 ⟨I.ok,I.os,I.bare,I.base,I.loc,I.cell,I.free,I.freeC,fun p hp=>(XS.mp hp).elim (fun z=>I.pin p (List.mem_append_left _ z)) (h p),I.hok,I.len⟩
theorem Zoz {N:List Str}(hN:N.Nodup){i j:Nat}{x:Str}(a:N[i]?=some x)(b:N[j]?=some x):i=j:=by
 obtain⟨h1,e1⟩:=List.getElem?_eq_some_iff.mp a
 obtain⟨h2,e2⟩:=List.getElem?_eq_some_iff.mp b
 exact(List.getElem_inj hN).mp (e1.trans e2.symm)
theorem Zlf {M:Model}{A:Around}{E:Value→Shared→Prop}{i:Nat}{x:Str}{v:V}{u:Value}{Q:Unit→Shared→Prop}(I:Inv X pins σ H s)(hN:X.N.Nodup)(hi:X.N[i]?=some x)(hx:Loc X.env.scope x)(r:Yg v u)
  (h:∀s',Inv X pins (σ.set i (some v)) H s'→(∃a,Heap.SameBut a s.heap s'.heap∧(a=X.env.locals∨X.env.cells.lookup x=some a))→Q () s') (hf:X.fn x=true∨X.env.scope.names.lookup x=some .local:=by first | exact .inl rfl | exact .inr rfl | assumption):wpAny M A (storeName X.env x u) Q E s:=by
 obtain⟨m,hn,hl⟩:=id I.loc
 have hcls:(X.env.scope.kind==.class||(X.env.scope.kind==.module&&X.env.locals !=X.env.globals))=false:=by rw[I.ok.kind];rfl
 have hiσ:i<σ.length:=by rw[I.len];exact(List.getElem?_eq_some_iff.mp hi).1
 have cne:=I.cne
 have tracked:∀{a:Addr} {h':Heap},(∃o,s.heap.get? a=some o∧H a=none)→Heap.SameBut a s.heap h'→HOk X.prog X.w H h':=fun {a h'} ha hs b ob e=>by
  obtain⟨_,_,hfree⟩:=ha
  refine(I.hok b ob e).stay (fun c w' hc q=>(hs.2 c ?_).trans q) (fun _ q=>q) fun _ _ q=>q
  rintro rfl
  rcases hc with rfl | hc
  ·rw[hfree] at e;cases e
  ·rw[hfree] at hc;cases hc
 rcases hx with hk | hk
 ·refine wpAny_storeName_local hk hn (fun h' hn' hs=>?_) hcls
  obtain⟨oL,_,_,hoL,_⟩:=id hn
  refine h _ ⟨I.ok,I.os,I.bare,⟨fun b o e n hb hx=>?_,fun b o e n hb hx=>?_,I.base.free,fun b o e hx=>?_,I.base.tups,I.base.frzs,I.base.tbls⟩,⟨_,hn',fun j y v' e1 e2 e3=>?_⟩,fun y c e=>?_,I.free,I.freeC,fun p hp=>?_,tracked ⟨oL,hoL,I.free⟩ hs,by simpa using I.len⟩ ⟨_,hs,.inl rfl⟩
  ·exact(hs.2 b (XH (XG (XD e) I.ok.above))).trans (I.base.keep b o e n hb hx)
  ·obtain⟨sl,e1⟩:=I.base.slot b o e n hb hx
   exact⟨sl,(hs.2 b (XH (XG (XD e) I.ok.above))).trans e1⟩
  ·obtain⟨o',e1⟩:=I.base.there b o e hx
   exact⟨o',(hs.2 b (XH (XG (XD e) I.ok.above))).trans e1⟩
  ·by_cases hj:j=i
   ·subst hj
    rw[hi] at e1;cases e1
    rw[List.getElem?_set_self hiσ] at e2
    cases e2
    exact⟨u,r,.inl ⟨hk,by simp⟩⟩
   ·rw[List.getElem?_set_ne (Ne.symm hj)] at e2
    obtain⟨u',r',q⟩:=hl j y v' e1 e2 e3
    refine⟨u',r',?_⟩
    rcases q with⟨k,e⟩ | ⟨k,c,e,z⟩
    ·refine .inl ⟨k,?_⟩
     have:y≠x:=fun e=>hj (Zoz hN e1 (e▸hi))
     simp[this,e]
    ·exact .inr ⟨k,c,e,z.sameBut hs (cne y c e)⟩
  ·obtain⟨w',z⟩:=I.cell y c e
   exact⟨w',z.sameBut hs (cne y c e)⟩
  ·obtain⟨e,n,ne,nf,d⟩:=I.pin p hp
   exact⟨(hs.2 p.1 ne).trans e,n,ne,nf,d⟩
 ·have hfn:X.fn x=true:=by
   rcases hf with z | z
   ·exact z
   ·rw[z] at hk;cases hk
  obtain⟨c,hc⟩:=I.ok.has x (.inl hk)
  obtain⟨w',z⟩:=I.cell x c hc
  refine wpAny_storeName_cell I.ok.kind hk hc z (fun h' hc' hs=>?_)
  obtain⟨oc,hoc,hocd⟩:=id z
  refine h {s with heap:=h'} ⟨I.ok,I.os,I.bare,⟨fun b o e n hb hx=>?_,fun b o e n hb hx=>?_,I.base.free,fun b o e hx=>?_,I.base.tups,I.base.frzs,I.base.tbls⟩,⟨m,hn.sameBut hs (Ne.symm (cne x c hc)),fun j y v' e1 e2 e3=>?_⟩,fun y c' e=>?_,I.free,I.freeC,fun p hp=>?_,tracked ⟨oc,hoc,I.freeC x c hc⟩ hs,by simpa using I.len⟩ ⟨c,hs,.inr hc⟩
  ·exact(hs.2 b (XH (XG (XD e) (I.ok.cab x c hfn hc)))).trans (I.base.keep b o e n hb hx)
  ·obtain⟨sl,e1⟩:=I.base.slot b o e n hb hx
   exact⟨sl,(hs.2 b (XH (XG (XD e) (I.ok.cab x c hfn hc)))).trans e1⟩
  ·obtain⟨o',e1⟩:=I.base.there b o e hx
   exact⟨o',(hs.2 b (XH (XG (XD e) (I.ok.cab x c hfn hc)))).trans e1⟩
  ·by_cases hj:j=i
   ·subst hj
    rw[hi] at e1;cases e1
    rw[List.getElem?_set_self hiσ] at e2
    cases e2
    exact⟨u,r,.inr ⟨.inl hk,c,hc,hc'⟩⟩
   ·rw[List.getElem?_set_ne (Ne.symm hj)] at e2
    obtain⟨u',r',q⟩:=hl j y v' e1 e2 e3
    refine⟨u',r',?_⟩
    rcases q with q | ⟨k,c',e,z'⟩
    ·exact .inl q
    ·refine .inr ⟨k,c',e,z'.sameBut hs ?_⟩
     rintro rfl
     exact hj (Zoz hN e1 (I.ok.inj _ _ _ e hc▸hi))
  ·by_cases hcc:c'=c
   ·subst hcc;exact⟨_,hc'⟩
   ·obtain⟨w2,z2⟩:=I.cell y c' e
    exact⟨w2,z2.sameBut hs hcc⟩
  ·obtain⟨e,n,ne,nf,d⟩:=I.pin p hp
   refine⟨(hs.2 p.1 ?_).trans e,n,ne,nf,d⟩
   intro q
   rw[q,hoc] at e
   have q':oc=p.2:=YH e
   exact d w' (by rw[←q'];exact hocd)
theorem Zog {M:Model}{A:Around}{E:Value→Shared→Prop}{i:Nat}{x:Str}{v:V}{u:Value}{Q:Unit→Shared→Prop}(I:Inv X pins σ H s)(hN:X.N.Nodup)(hi:X.N[i]?=some x)(hx:Loc X.env.scope x)(r:Yg v u)
  (h:∀s',Inv X pins (σ.set i (some v)) H s'→Q () s') (hf:X.fn x=true∨X.env.scope.names.lookup x=some .local:=by first | exact .inl rfl | exact .inr rfl | assumption):wpAny M A (storeName X.env x u) Q E s:=
 Zlf I hN hi hx r (fun s' I' _=>h s' I') hf
theorem Inv.call' {s':Shared}{ch:List Addr}(I:Inv X pins σ H s)(ho:s'.os=s.os)(u:Un (frs X.stack) ch H H' s.heap s'.heap)(hok:HOk X.prog X.w H' s'.heap)(hg:AllBare s'.gens)
  (hch:∀b∈ch,(b∈X.ex∨X.s₀.heap.objs.size≤b)∧b≠X.env.locals∧(∀x c,X.env.cells.lookup x=some c→c≠b)∧∀p∈X.pn++pins,p.1≠b):Inv X pins σ H' s':=by
 obtain⟨h',g',d',t',o'⟩:=s'
 have e:o'=s.os:=ho
 subst e
 exact I.call (g':=g') (t':=t') (d':=d') u hok hg hch
end
abbrev XK:=Value→Option Addr→Hp→Prop
abbrev St:=List (Option V)
abbrev VK:=V→Hp→Prop
abbrev TE:=St→Hp→VK→Prop
abbrev TT:=St→Hp→(Bool→Hp→Prop)→Prop
abbrev TA:=St→Hp→(List V→Hp→Prop)→Prop
structure Ends where
 nx:St→Hp→Prop
 rt:VK
 bk:St→Hp→Prop:=fun _ _=>False
 ct:St→Hp→Prop:=fun _ _=>False
abbrev TS:=Ends→St→Hp→Prop
def EP (X:Cx)(pins:List (Addr×Obj))(σ:St)(Q:VK)(u:Value)(s':Shared):Prop:=∃v H',Inv X pins σ H' s'∧Yg v u∧Q v H'
def TP (X:Cx)(pins:List (Addr×Obj))(σ:St)(Q:Bool→Hp→Prop)(b:Bool)(s':Shared):Prop:=∃H',Inv X pins σ H' s'∧Q b H'
def AP (X:Cx)(pins:List (Addr×Obj))(σ:St)(Q:List V→Hp→Prop)(us:List Value)(s':Shared):Prop:=∃vs H',Inv X pins σ H' s'∧Vals vs us∧Q vs H'
def SP (X:Cx)(pins:List (Addr×Obj))(D:Ends)(f:Flow)(s':Shared):Prop:=
 match f with
 | .next=>∃σ' H',Inv X pins σ' H' s'∧D.nx σ' H'
 | .brk=>∃σ' H',Inv X pins σ' H' s'∧D.bk σ' H'
 | .cont=>∃σ' H',Inv X pins σ' H' s'∧D.ct σ' H'
 | .ret u=>∃v σ' H',Inv X pins σ' H' s'∧Yg v u∧D.rt v H'
def PE (X:Cx)(e:Expr)(t:TE):Prop:=
 ∀(pins:List (Addr×Obj)) (s:Shared) (σ:St) (H:Hp) (Q:VK),Inv X pins σ H s→t σ H Q→wpAny (model X.prog X.w) X.A (eval e X.env) (EP X pins σ Q) X.xe s
def PT (X:Cx)(e:Expr)(t:TT):Prop:=
 ∀(pins:List (Addr×Obj)) (s:Shared) (σ:St) (H:Hp) (Q:Bool→Hp→Prop),Inv X pins σ H s→t σ H Q→wpAny (model X.prog X.w) X.A (isTrue e X.env (eval e X.env)) (TP X pins σ Q) X.xe s
def PW (X:Cx)(e:Expr)(t:TT):Prop:=
 ∀(whole:Sem Value) (pins:List (Addr×Obj)) (s:Shared) (σ:St) (H:Hp) (Q:Bool→Hp→Prop),Inv X pins σ H s→t σ H Q→wpAny (model X.prog X.w) X.A (isTrue e X.env whole) (TP X pins σ Q) X.xe s
theorem PW.pt {X:Cx}{e:Expr}{t:TT}(h:PW X e t):PT X e t:=h _
def PA (X:Cx)(es:List Expr)(t:TA):Prop:=
 ∀(pos:Pos) (pins:List (Addr×Obj)) (s:Shared) (σ:St) (H:Hp) (Q:List V→Hp→Prop),Inv X pins σ H s→t σ H Q→wpAny (model X.prog X.w) X.A (spliced (backTo pos (starEach es X.env))) (AP X pins σ Q) X.xe s
def PS (X:Cx)(st:Stmt)(t:TS):Prop:=
 ∀(pins:List (Addr×Obj)) (s:Shared) (σ:St) (H:Hp) (D:Ends),Inv X pins σ H s→t D σ H→wpAny (model X.prog X.w) X.A (exec st X.env) (SP X pins D) X.xe s
def PSs (X:Cx)(st:List Stmt)(t:TS):Prop:=
 ∀(pins:List (Addr×Obj)) (s:Shared) (σ:St) (H:Hp) (D:Ends),Inv X pins σ H s→t D σ H→wpAny (model X.prog X.w) X.A (execs st X.env) (SP X pins D) X.xe s
theorem thn {α:Type}{t:Sem α}{Q Q':α→Shared→Prop}{M:Model}{A:Around}{E:Value→Shared→Prop}{s:Shared}(h:wpAny M A t Q E s)(hQ:∀a s,Q a s→Q' a s):wpAny M A t Q' E s:=wpAny_mono h hQ fun _ _ x=>x
section
variable {X:Cx}
def tVar (i:Nat):TE:=fun σ H Q=>∃v,σ[i]?=some (some v)∧Q v H
def tC (v:V):TE:=fun _ H Q=>Q v H
theorem Z2i {i:Nat}{x:Str}{pos:Pos}(hN:X.N[i]?=some x)(hv:Vis X.env.scope x)(hd:(x==("__debug__":Str))=false:=by decide)(hcd:(x==("__classdict__":Str))=false:=by decide):PE X (.Name x pos) (tVar i):=by
 intro pins s σ H Q I h
 obtain⟨v,e,h⟩:=h
 obtain⟨m,hn,hl⟩:=I.loc
 obtain⟨u,r,l⟩:=hl i x v hN e hv
 have fin:EP X pins σ Q u s:=⟨v,H,I,r,h⟩
 rcases l with⟨hk,hm⟩ | ⟨hk,c,hc,hcell⟩
 ·exact wpAny_Name (wpAny_loadName_local I.ok.kind hk hn hm fin) hd
 ·rcases hk with hk | hk
  ·exact wpAny_Name (wpAny_loadName_cell I.ok.kind hk hc hcell fin) hd
  ·exact wpAny_Name (wpAny_loadName_free I.ok.kind hk hc hcell fin hcd) hd
theorem Zvv {i j pos}:PE X (.Constant (.int i) j pos) (tC (.int i)):=fun _ _ _ H _ I h=>wpAny_Constant_int ⟨.int i,H,I.tok _,⟨_,rfl⟩,h⟩
theorem pe_bl {b j pos}:PE X (.Constant (.bool b) j pos) (tC (.bl b)):=fun _ _ _ H _ I h=>Constant_bool ⟨.bl b,H,I,rfl,h⟩
theorem Z2n {j pos}:PE X (.Constant .none j pos) (tC .non):=fun _ _ _ H _ I h=>Constant_none ⟨.non,H,I,rfl,h⟩
theorem Z2k {x j pos}:PE X (.Constant (.str x) j pos) (tC (.str x)):=fun _ _ _ H _ I h=>Calls.Constant_str ⟨.str x,H,I.tok _,⟨_,rfl⟩,h⟩
def Gl (X:Cx)(x:Str):Prop:=X.env.kindOf x=some .globalImplicit
theorem Zhe {E:Value→Shared→Prop}{pins:List (Addr×Obj)}{s:Shared}{σ:St}{H:Hp}{x:Str}{u:Value}{pos:Pos}{Q:Value→Shared→Prop}(I:Inv X pins σ H s)(hg:Gl X x)(hm:X.mg x=some u)(h:Q u s)
  (hd:(x==("__debug__":Str))=false:=by decide):wpAny (model X.prog X.w) X.A (eval (.Name x pos) X.env) Q E s:=
 Calls.Name_function_global I.ok.kind hg (Calls.loadGlobal_global (by rw[I.ok.glob];exact I.mod.glob.keeps I.bk) hm h) hd
theorem Zdo {E:Value→Shared→Prop}{pins:List (Addr×Obj)}{s:Shared}{σ:St}{H:Hp}{x:Str}{u:Value}{pos:Pos}{Q:Value→Shared→Prop}(I:Inv X pins σ H s)(hg:Gl X x)(hm:X.mg x=none)(hv:bootBuiltins x=some u)(h:Q u s)
  (hn:x≠"__name__":=by decide) (hd:(x==("__debug__":Str))=false:=by decide):wpAny (model X.prog X.w) X.A (eval (.Name x pos) X.env) Q E s:=by
 obtain⟨mb,h1,h2⟩:=I.mod.blt
 exact Calls.Name_function_global I.ok.kind hg (Calls.loadGlobal_builtin (by rw[I.ok.glob];exact I.mod.glob.keeps I.bk) hm (by rw[I.ok.blt];exact h1.keeps I.bk) ((h2 x hn).trans hv) h) hd
theorem Zy9 {x:Str}{v:V}{u:Value}{pos:Pos}(hg:Gl X x)(hm:X.mg x=some u)(r:Yg v u)(hd:(x==("__debug__":Str))=false:=by decide):PE X (.Name x pos) (tC v):=
 fun _ _ _ H _ I h=>Zhe I hg hm ⟨v,H,I,r,h⟩ hd
theorem Zze {x:Str}{v:V}{u:Value}{pos:Pos}(hg:Gl X x)(hm:X.mg x=none)(hv:bootBuiltins x=some u)(r:Yg v u)(hn:x≠"__name__":=by decide)(hd:(x==("__debug__":Str))=false:=by decide):PE X (.Name x pos) (tC v):=
 fun _ _ _ H _ I h=>Zdo I hg hm hv ⟨v,H,I,r,h⟩ hn hd
def t2I (ta tb:TE)(k:Int→Int→Hp→Prop):St→Hp→Prop:=fun σ H=>ta σ H fun x H1=>tb σ H1 fun y H2=>∃i j,x=.int i∧y=.int j∧k i j H2
def tMul (ta tb:TE):TE:=fun σ H Q=>t2I ta tb (fun i j H2=>(-(2^64)<i∧i<2^64)∧Q (.int (i*j)) H2) σ H
variable {a b:Expr}{ta tb:TE}{pos:Pos}
def tIsN (ta:TE):TE:=fun σ H Q=>ta σ H fun x H1=>Q (.bl (decide (x=.non))) H1
def tB (t:TE):TT:=fun σ H Q=>t σ H fun x H1=>∃c,x=.bl c∧Q c H1
variable {tA tB':TT}{rest:List Expr}
def tAnd (t u:TT):TT:=fun σ H Q=>t σ H fun c H1=>if c=true then u σ H1 Q else Q false H1
def tOr (t u:TT):TT:=fun σ H Q=>t σ H fun c H1=>if c=true then Q true H1 else u σ H1 Q
def tNot (t:TT):TT:=fun σ H Q=>t σ H fun c H1=>Q (!c) H1
theorem Zyr (ha:PT X a tA):PW X (.BoolOp .And [a] pos) tA:=by
 intro wh pins s σ H Q I h
 refine isTrue_and (thn (ha pins s σ H Q I h) fun c s1 e=>?_)
 cases c with
 | true=>exact isTrue_and_nil e
 | false=>exact e
theorem Z15 (ha:PT X a tA):PW X (.BoolOp .Or [a] pos) tA:=by
 intro wh pins s σ H Q I h
 refine isTrue_or (thn (ha pins s σ H Q I h) fun c s1 e=>?_)
 cases c with
 | false=>exact isTrue_or_nil e
 | true=>exact e
theorem Z16 (ha:PT X a tA)(hb:PW X (.BoolOp .And (b::rest) pos) tB'):PW X (.BoolOp .And (a::b::rest) pos) (tAnd tA tB'):=by
 intro wh pins s σ H Q I h
 refine isTrue_and (thn (ha pins s σ H _ I h) fun c s1 ⟨H1,I1,q1⟩=>?_)
 cases c with
 | true=>exact hb wh pins s1 σ H1 Q I1 q1
 | false=>exact⟨H1,I1,q1⟩
theorem pw_or (ha:PT X a tA)(hb:PW X (.BoolOp .Or (b::rest) pos) tB'):PW X (.BoolOp .Or (a::b::rest) pos) (tOr tA tB'):=by
 intro wh pins s σ H Q I h
 refine isTrue_or (thn (ha pins s σ H _ I h) fun c s1 ⟨H1,I1,q1⟩=>?_)
 cases c with
 | true=>exact⟨H1,I1,q1⟩
 | false=>exact hb wh pins s1 σ H1 Q I1 q1
theorem Z17 (ha:PT X a tA):PT X (.UnaryOp .Not a pos) (tNot tA):=by
 intro pins s σ H Q I h
 exact isTrue_not (ha pins s σ H (fun c H1=>Q (!c) H1) I h)
def Z00 (ta tb:TE):TE:=fun σ H Q=>ta σ H fun x H1=>∃c,x=.bl c∧if c=true then tb σ H1 Q else Q (.bl false) H1
def Z0z (ta:TE):TE:=fun σ H Q=>ta σ H fun x H1=>∃c,x=.bl c∧Q (.bl (!c)) H1
theorem Z2l {op}{t:TE}(h:PE X a t):PE X (.BoolOp op [a] pos) t:=fun pins s σ H Q I hw=>BoolOp_one (h pins s σ H Q I hw)
theorem Z2r (ha:PE X a ta)(hb:PE X (.BoolOp .And (b::rest) pos) tb):PE X (.BoolOp .And (a::b::rest) pos) (Z00 ta tb):=by
 intro pins s σ H Q I h
 refine BoolOp_and (thn (ha pins s σ H _ I h) fun v s1 ⟨x,H1,I1,r1,q1⟩=>?_)
 obtain⟨c,rfl,q1⟩:=q1
 cases r1
 refine wpAny_truthy_bool ?_
 cases c with
 | true=>exact hb pins s1 σ H1 Q I1 q1
 | false=>exact⟨.bl false,H1,I1,rfl,q1⟩
theorem Z2m (ha:PE X a ta):PE X (.UnaryOp .Not a pos) (Z0z ta):=by
 intro pins s σ H Q I h
 refine UnaryOp_ (thn (ha pins s σ H _ I h) fun v s1 ⟨x,H1,I1,r1,q1⟩=>?_)
 obtain⟨c,rfl,q1⟩:=q1
 cases r1
 exact not_of (wpAny_truthy_bool ⟨.bl (!c),H1,I1,rfl,q1⟩)
def tIf (t:TT)(ta tb:TE):TE:=fun σ H Q=>t σ H fun c H1=>if c=true then ta σ H1 Q else tb σ H1 Q
theorem Zvw {c:Expr}(hc:PT X c tA)(ha:PE X a ta)(hb:PE X b tb):PE X (.IfExp c a b pos) (tIf tA ta tb):=by
 intro pins s σ H Q I h
 refine wpAny_IfExp (thn (hc pins s σ H _ I h) fun d s1 ⟨H1,I1,q1⟩=>?_)
 cases d with
 | true=>exact ha pins s1 σ H1 Q I1 q1
 | false=>exact hb pins s1 σ H1 Q I1 q1
end
def SqL (K:W.Frag)(H:Hp)(a:Addr)(xs:List V):Prop:=
 Rd H a (.lst xs)∨
  ∃(o:Obj) (its:Array Value) (n:Nat),K.lookup a=some o∧o.cls=.type "list"∧o.dict=none∧o.data=.seq its n∧its.size≤sizeLine∧Vals xs its.toList
def SqT (K:W.Frag)(H:Hp)(a:Addr)(xs:List V):Prop:=
 Rd H a (.tup xs)∨
  ∃(o:Obj) (its:Array Value) (n:Nat),K.lookup a=some o∧o.cls=.type "tuple"∧o.data=.seq its n∧its.size≤sizeLine∧Vals xs its.toList
def absV:Value→Option V
 | .none=>some .non
 | .bool b=>some (.bl b)
 | .int i _=>some (.int i)
 | .str x _=>some (.str x)
 | .bytes b _=>some (.byt b)
 | .float b _=>some (.flt b)
 | .ref a=>some (.ref a)
 | .type n=>some (.ty n)
 | _=>none
theorem Yg.abs {x:V}{u:Value}(r:Yg x u):absV u=some x:=by
 cases x with
 | non=>cases r;rfl
 | bl _=>cases r;rfl
 | int _=>obtain⟨t,rfl⟩:=r;rfl
 | str _=>obtain⟨t,rfl⟩:=r;rfl
 | byt _=>obtain⟨t,rfl⟩:=r;rfl
 | flt _=>obtain⟨t,rfl⟩:=r;rfl
 | ref _=>cases r;rfl
 | ty _=>cases r;rfl
theorem Yg.inj {x y:V}{u:Value}(r:Yg x u)(q:Yg y u):x=y:=YH (r.abs.symm.trans q.abs)
theorem Vals.inj:∀{xs ys:List V} {us:List Value},Vals xs us→Vals ys us→xs=ys
 | _,_,_,.nil,.nil=>rfl
 | _,_,_,.cons r t,.cons r' t'=>by rw[r.inj r',Vals.inj t t']
section
variable {X:Cx}{pins:List (Addr×Obj)}{σ:St}{H:Hp}{s:Shared}{a:Addr}{xs ys:List V}
theorem SqL.of {K:W.Frag}(h:H a=some (.lst xs)):SqL K H a xs:=.inl (.inl h)
theorem SqT.of {K:W.Frag}(h:H a=some (.tup xs)):SqT K H a xs:=.inl (.inl h)
theorem Inv.list (I:Inv X pins σ H s)(h:SqL X.K H a xs):∃its:List Value,Vals xs its∧PlainL s.heap a its.toArray∧xs.length≤sizeLine:=by
 rcases h with h | ⟨o,its,n,hk,hc,hd,hs,hz,r⟩
 ·obtain⟨z,its,n,r,e⟩:=h.ok I.hok
  exact⟨its,r,⟨_,n,e,rfl,rfl,rfl⟩,z⟩
 ·refine⟨its.toList,r,⟨o,n,I.kIn a o hk,hc,hd,by simpa using hs⟩,?_⟩
  have e:=r.length
  simp only[Array.length_toList] at e
  omega
theorem Inv.tuple (I:Inv X pins σ H s)(h:SqT X.K H a xs):∃its:List Value,Vals xs its∧IsTup s.heap a its.toArray∧xs.length≤sizeLine:=by
 rcases h with h | ⟨o,its,n,hk,hc,hs,hz,r⟩
 ·obtain⟨z,its,r,p⟩:=h.ok I.hok
  exact⟨its,r,p,z⟩
 ·refine⟨its.toList,r,⟨o,I.kIn a o hk,hc,n,by simpa using hs⟩,?_⟩
  have e:=r.length
  simp only[Array.length_toList] at e
  omega
theorem Inv.list_inj (I:Inv X pins σ H s)(h:SqL X.K H a xs)(h':SqL X.K H a ys):xs=ys:=by
 obtain⟨its,r,⟨o,n,e,_,_,d⟩,_⟩:=I.list h
 obtain⟨its',r',⟨o',n',e',_,_,d'⟩,_⟩:=I.list h'
 rw[e] at e';cases e'
 rw[d] at d'
 injection d' with d1 _
 have:its=its':=by simpa using congrArg Array.toList d1
 subst this
 exact r.inj r'
theorem Inv.tuple_inj (I:Inv X pins σ H s)(h:SqT X.K H a xs)(h':SqT X.K H a ys):xs=ys:=by
 obtain⟨its,r,⟨o,e,_,n,d⟩,_⟩:=I.tuple h
 obtain⟨its',r',⟨o',e',_,n',d'⟩,_⟩:=I.tuple h'
 rw[e] at e';cases e'
 rw[d] at d'
 injection d' with d1 _
 have:its=its':=by simpa using congrArg Array.toList d1
 subst this
 exact r.inj r'
end
abbrev Cx.wish (X:Cx)(E:Value→Shared→Prop):Cx:={X with xe:=E}
abbrev Cx.nox (X:Cx):Cx:=X.wish fun _ _=>False
theorem Cx.Ok.wish {X:Cx}(ok:X.Ok)(E:Value→Shared→Prop):(X.wish E).Ok:=
 ⟨ok.mod,ok.kind,ok.glob,ok.blt,ok.above,ok.inj,ok.has,ok.cab,ok.hd,ok.frames,ok.stk,ok.exf,ok.bs,ok.bsz,ok.noex,ok.exfs,ok.funs,ok.frf⟩
theorem Cx.Ok.unwish {X:Cx}{E:Value→Shared→Prop}(ok:(X.wish E).Ok):X.Ok:=
 ⟨ok.mod,ok.kind,ok.glob,ok.blt,ok.above,ok.inj,ok.has,ok.cab,ok.hd,ok.frames,ok.stk,ok.exf,ok.bs,ok.bsz,ok.noex,ok.exfs,ok.funs,ok.frf⟩
section
variable {X:Cx}{pins:List (Addr×Obj)}{σ:St}{H:Hp}{s:Shared}{E:Value→Shared→Prop}
theorem Inv.wish (I:Inv X pins σ H s)(E:Value→Shared→Prop):Inv (X.wish E) pins σ H s:=⟨I.ok.wish E,I.os,I.bare,I.base,I.loc,I.cell,I.free,I.freeC,I.pin,I.hok,I.len⟩
theorem Inv.unwish (I:Inv (X.wish E) pins σ H s):Inv X pins σ H s:=⟨I.ok.unwish,I.os,I.bare,I.base,I.loc,I.cell,I.free,I.freeC,I.pin,I.hok,I.len⟩
theorem SP.unwish {D:Ends}{f:Flow}{s':Shared}(h:SP (X.wish E) pins D f s'):SP X pins D f s':=by
 cases f with
 | next=>obtain⟨σ',H',I,q⟩:=h;exact⟨σ',H',I.unwish,q⟩
 | brk=>obtain⟨σ',H',I,q⟩:=h;exact⟨σ',H',I.unwish,q⟩
 | cont=>obtain⟨σ',H',I,q⟩:=h;exact⟨σ',H',I.unwish,q⟩
 | ret u=>obtain⟨v,σ',H',I,r,q⟩:=h;exact⟨v,σ',H',I.unwish,r,q⟩
theorem PSs.nox {st:List Stmt}{t:TS}(h:PSs X.nox st t):PSs X st t:=fun pins s σ H D I hw=>
 wpAny_mono (h pins s σ H D (I.wish _) hw) (fun _ _ q=>q.unwish) fun _ _ z=>False.elim z
end
section
variable {X:Cx}{st:Stmt}{rest:List Stmt}{t u:TS}{e:Expr}{te:TE}{pos:Pos}
def tNext:TS:=fun D σ H=>D.nx σ H
def tSeq (t u:TS):TS:=fun D σ H=>t {D with nx:=u D} σ H
theorem Zyu:PSs X [] tNext:=fun _ _ σ H _ I h=>wpAny_execs_nil ⟨σ,H,I,h⟩
theorem Zvm (h1:PS X st t)(h2:PSs X rest u):PSs X (st::rest) (tSeq t u):=by
 intro pins s σ H D I h
 refine wpAny_execs_cons (thn (h1 pins s σ H {D with nx:=u D} I h) fun f s1 q=>?_)
 cases f with
 | next=>
  obtain⟨σ',H',I',q⟩:=q
  exact h2 pins s1 σ' H' D I' q
 | ret v=>exact q
 | brk=>exact q
 | cont=>exact q
theorem Zyt (h1:PS X st t):PSs X [st] t:=by
 intro pins s σ H D I h
 refine wpAny_execs_cons (thn (h1 pins s σ H D I h) fun f s1 q=>?_)
 cases f with
 | next=>exact wpAny_execs_nil q
 | ret v=>exact q
 | brk=>exact q
 | cont=>exact q
def tCont:TS:=fun D σ H=>D.ct σ H
theorem Zos:PS X (.Continue pos) tCont:=fun _ _ σ H _ I h=>wpAny_Continue ⟨σ,H,I,h⟩
theorem Inv.quiet {pins:List (Addr×Obj)}{σ:St}{H:Hp}{s:Shared}(I:Inv X pins σ H s):interactive X.env=false:=by simp[interactive,I.ok.kind]
def tDrop (te:TE):TS:=fun D σ H=>te σ H fun _ H1=>D.nx σ H1
theorem Zyw (he:PE X e te)(hs:swapsWith e none pos.line X.env=pure false:=by rfl):PS X (.Expr e pos) (tDrop te):=by
 intro pins s σ H D I h
 exact wpAny_Expr_any (thn (he pins s σ H _ I h) fun v s1 ⟨x,H1,I1,r1,q1⟩=>⟨σ,H1,I1,q1⟩) I.quiet hs
def tRet (te:TE):TS:=fun D σ H=>te σ H D.rt
theorem Z19 (he:PE X e te):PS X (.Return (some e) pos) (tRet te):=by
 intro pins s σ H D I h
 exact wpAny_Return_some (thn (he pins s σ H _ I h) fun v s1 ⟨x,H1,I1,r1,q1⟩=>⟨x,σ,H1,I1,r1,q1⟩)
def tRetN:TS:=fun D _ H=>D.rt .non H
theorem Zyv:PS X (.Return none pos) tRetN:=fun _ _ σ H _ I h=>wpAny_Return_none ⟨.non,σ,H,I,rfl,h⟩
def tIfS (c:TT)(t u:TS):TS:=fun D σ H=>c σ H fun b H1=>if b=true then t D σ H1 else u D σ H1
theorem ps_if {c:Expr}{a b:List Stmt}{tc:TT}(hc:PT X c tc)(ha:PSs X a t)(hb:PSs X b u):PS X (.If c a b pos) (tIfS tc t u):=by
 intro pins s σ H D I h
 refine wpAny_If (thn (hc pins s σ H _ I h) fun d s1 ⟨H1,I1,q1⟩=>?_)
 cases d with
 | true=>exact ha pins s1 σ H1 D I1 q1
 | false=>exact hb pins s1 σ H1 D I1 q1
def tNever:TS:=fun _ _ _=>False
end
abbrev TG:=V→St→Hp→(St→Hp→Prop)→Prop
abbrev TGs:=List V→St→Hp→(St→Hp→Prop)→Prop
def PG (X:Cx)(target:Expr)(t:TG):Prop:=
 ∀(pins:List (Addr×Obj)) (s:Shared) (σ:St) (H:Hp) (v:V) (u:Value) (Q:St→Hp→Prop),Inv X pins σ H s→Yg v u→t v σ H Q→
  wpAny (model X.prog X.w) X.A (assign target X.env u) (fun _ s'=>∃σ' H',Inv X pins σ' H' s'∧Q σ' H') X.xe s
def PGs (X:Cx)(ts:List Expr)(t:TGs):Prop:=
 ∀(pins:List (Addr×Obj)) (s:Shared) (σ:St) (H:Hp) (vs:List V) (us:List Value) (Q:St→Hp→Prop),Inv X pins σ H s→Vals vs us→t vs σ H Q→
  wpAny (model X.prog X.w) X.A (assignInOrder ((assignEach ts X.env).map (·.2)) us) (fun _ s'=>∃σ' H',Inv X pins σ' H' s'∧Q σ' H') X.xe s
abbrev TSet:=V→V→V→Hp→(Hp→Prop)→Prop
def PSet (X:Cx)(t:TSet):Prop:=
 ∀(pins:List (Addr×Obj)) (s:Shared) (σ:St) (H:Hp) (o i v:V) (ov iv u:Value) (Q:Hp→Prop),Inv X pins σ H s→Yg o ov→Yg i iv→Yg v u→t o i v H Q→
  wpAny (model X.prog X.w) X.A (setItem ov iv u) (fun _ s'=>∃H',Inv X pins σ H' s'∧Q H') X.xe s
abbrev TIp:=V→V→Hp→VK→Prop
section
variable {X:Cx}{pos:Pos}
def Zax (i:Nat):TG:=fun v σ H Q=>Q (σ.set i (some v)) H
theorem Xb {i:Nat}{x:Str}(hN:X.N.Nodup)(hi:X.N[i]?=some x)(hx:Loc X.env.scope x)(hf:X.fn x=true∨X.env.scope.names.lookup x=some .local:=by first | exact .inl rfl | exact .inr rfl | assumption):PG X (.Name x pos) (Zax i):=by
 intro pins s σ H v u Q I r h
 exact wpAny_assign_Name (Zog I hN hi hx r (fun s' I'=>⟨_,H,I',h⟩) hf)
def gNil:TGs:=fun vs σ H Q=>vs=[]∧Q σ H
def Zdz (t:TG)(u:TGs):TGs:=fun vs σ H Q=>∃v r,vs=v::r∧t v σ H fun σ' H'=>u r σ' H' Q
theorem Zg4:PGs X [] gNil:=by
 intro pins s σ H vs us Q I r h
 obtain⟨e,h⟩:=h
 subst e
 cases r
 exact assignInOrder_nil ⟨σ,H,I,h⟩
theorem Zav {e:Expr}{es:List Expr}{t:TG}{u:TGs}(h1:PG X e t)(h2:PGs X es u)
  (hs:(assignEach (e::es) X.env).map (·.2)=assign e X.env::(assignEach es X.env).map (·.2):=by rfl):PGs X (e::es) (Zdz t u):=by
 intro pins s σ H vs us Q I r h
 obtain⟨v,vr,e1,h⟩:=h
 subst e1
 cases r with
 | cons r rr=>
  rw[hs]
  refine assignInOrder_cons (thn (h1 pins s σ H _ _ _ I r h) fun _ s1 ⟨σ1,H1,I1,q1⟩=>?_)
  exact h2 pins s1 σ1 H1 _ _ Q I1 rr q1
def gTup (K:W.Frag)(n:Nat)(t:TGs):TG:=fun v σ H Q=>∃a xs,v=.ref a∧SqT K H a xs∧xs.length=n∧t xs σ H Q
theorem Zjj {es:List Expr}{k:Nat}{t:TGs}{n:Nat}(hc:X.calm=true)(h:PGs X es t)
  (hn:(assignEach es X.env).length=n:=by rfl) (hst:(assignEach es X.env).findIdx? (·.1)=none:=by rfl):PG X (.Tuple es k pos) (gTup X.K n t):=by
 intro pins s σ H v u Q I r hw
 obtain⟨a,xs,e1,hq,hl,hw⟩:=hw
 subst e1
 cases r
 obtain⟨its,rv,ht,hz⟩:=I.tuple hq
 refine assign_Tuple_tuple (I.ok.hd hc) ht (by simp[hn,←hl,rv.length]) hst fun h' hx=>?_
 have I1:Inv X pins σ H {s with heap:=h'}:=I.kept (t':=s.toks) fun b o e=>hx b o (XH (XD e)) e
 exact h pins _ σ H xs _ Q I1 (by simpa using rv) hw
def gSub (to ti:TE)(t:TSet):TG:=fun v σ H Q=>to σ H fun o H1=>ti σ H1 fun i H2=>t o i v H2 fun H3=>Q σ H3
theorem Z2h {o i:Expr}{to ti:TE}{t:TSet}(ho:PE X o to)(hi:PE X i ti)(hs:PSet X t)
  (ha:∀v,assign (.Subscript o i pos) X.env v=(do
   let ov ←holding [v] (eval o X.env)
   let iv ←holding [v,ov] (eval i X.env)
   standAt pos
   holding [v,ov,iv] (setItem ov iv v)
   release [v,ov,iv] []):=by intro _;rfl):PG X (.Subscript o i pos) (gSub to ti t):=by
 intro pins s σ H v u Q I r h
 rw[ha]
 refine XA (wpAny_holding (thn (ho pins s σ H _ I h) fun ov s1 ⟨x,H1,I1,r1,q1⟩=>?_))
 refine XA (wpAny_holding (thn (hi pins s1 σ H1 _ I1 q1) fun iv s2 ⟨y,H2,I2,r2,q2⟩=>?_))
 refine XA (wpAny_standAt (XA (wpAny_holding (thn (hs pins s2 σ H2 x y v ov iv u _ I2 r1 r2 r q2) fun _ s3 ⟨H3,I3,q3⟩=>?_))))
 exact wpAny_release ⟨σ,H3,I3,q3⟩
def tAsg (te:TE)(g:TG):TS:=fun D σ H=>te σ H fun x H1=>g x σ H1 D.nx
theorem Z2c {tg e:Expr}{te:TE}{g:TG}(he:PE X e te)(hg:PG X tg g)(hs:swapsWithSole [tg] e pos.line X.env=pure false:=by rfl)(hw:swappedStores [tg] e X.env=pure none:=by rfl)
  (h1:(assignEach [tg] X.env).map (·.2)=[assign tg X.env]:=by rfl):PS X (.Assign [tg] e pos) (tAsg te g):=by
 intro pins s σ H D I h
 refine wpAny_Assign_stores (thn (he pins s σ H _ I h) fun v s1 ⟨x,H1,I1,r1,q1⟩=>?_) hs hw
 rw[h1]
 exact thn (hg pins s1 σ H1 x v _ I1 r1 q1) fun _ s2 q=>q
theorem Z18 {i:Nat}{x:Str}{e:Expr}{te:TE}{pos':Pos}(hN:X.N.Nodup)(hi:X.N[i]?=some x)(hx:Loc X.env.scope x)(he:PE X e te)(hs:swapsWith e (some (.Name x pos')) pos.line X.env=pure false:=by rfl)(hf:X.fn x=true∨X.env.scope.names.lookup x=some .local:=by first | exact .inl rfl | exact .inr rfl | assumption):
  PS X (.Assign [.Name x pos'] e pos) (tAsg te (Zax i)):=by
 intro pins s σ H D I h
 refine wpAny_Assign_Name (thn (he pins s σ H _ I h) fun v s1 ⟨y,H1,I1,r1,q1⟩=>?_) hs
 exact Zog I1 hN hi hx r1 (fun s2 I2=>⟨_,H1,I2,q1⟩) hf
def tPar (i j:Nat)(ta:TA):TS:=fun D σ H=>ta σ H fun vs H1=>∃v w,vs=[v,w]∧D.nx ((σ.set i (some v)).set j (some w)) H1
def tAug (i:Nat)(te:TE)(ti:TIp):TS:=fun D σ H=>∃x,σ[i]?=some (some x)∧te σ H fun y H1=>ti x y H1 fun z H2=>D.nx (σ.set i (some z)) H2
def tAugS (to ti te:TE)(tget:V→V→Hp→VK→Prop)(tip:TIp)(tset:TSet):TS:=fun D σ H=>to σ H fun o H1=>ti σ H1 fun i H2=>tget o i H2 fun x H3=>te σ H3 fun y H4=>tip x y H4 fun z H5=>tset o i z H5 fun H6=>D.nx σ H6
def PGet (X:Cx)(t:V→V→Hp→VK→Prop):Prop:=
 ∀(pins:List (Addr×Obj)) (s:Shared) (σ:St) (H:Hp) (o i:V) (ov iv:Value) (Q:VK),Inv X pins σ H s→Yg o ov→Yg i iv→t o i H Q→
  wpAny (model X.prog X.w) X.A (getItem ov iv) (EP X pins σ Q) X.xe s
def ipI (f:Int→Int→Int):TIp:=fun x y H Q=>∃i j,x=.int i∧y=.int j∧Q (.int (f i j)) H
def Zul (c:TT)(tb:TS):TS:=fun D σ H=>∃W:Nat→St→Hp→Prop,(∃m,W m σ H)∧∀m σ H,W m σ H→
 c σ H fun b H1=>if b=true then ∃N:St→Hp→Prop,(∀σ' H',N σ' H'→∃m',m'<m∧W m' σ' H')∧tb {D with nx:=N,ct:=N,bk:=D.nx} σ H1 else D.nx σ H1
theorem Zvn {c:Expr}{body:List Stmt}{tc:TT}{tb:TS}(hp:PassesOwn (model X.prog X.w) X.A X.env X.xe)(hc:PT X c tc)(hb:PSs X body tb):PS X (.While c body [] pos) (Zul tc tb):=by
 intro pins s σ H D I h
 obtain⟨W,⟨m0,w0⟩,turn⟩:=h
 refine wpAny_While (codeAny_whileLoop (fun n s'=>∃σ' H',Inv X pins σ' H' s'∧W n σ' H') ?_ m0 ⟨σ,H,I,w0⟩)
 rintro n s1 ⟨σ1,H1,I1,w1⟩
 refine wpAny_passesOwn hp (thn (hc pins s1 σ1 H1 _ I1 (turn n σ1 H1 w1)) fun b s2 ⟨H2,I2,q2⟩=>?_)
 cases b with
 | true=>
  obtain⟨N,hN,q2⟩:=q2
  rw[XY rfl]
  refine wpAny_passesOwn hp (thn (hb pins s2 σ1 H2 _ I2 q2) fun f s3 q3=>?_)
  cases f with
  | next=>
   obtain⟨σ3,H3,I3,n3⟩:=q3
   obtain⟨m',hm,w3⟩:=hN σ3 H3 n3
   exact⟨m',hm,σ3,H3,I3,w3⟩
  | cont=>
   obtain⟨σ3,H3,I3,n3⟩:=q3
   obtain⟨m',hm,w3⟩:=hN σ3 H3 n3
   exact⟨m',hm,σ3,H3,I3,w3⟩
  | brk=>exact q3
  | ret v=>exact q3
 | false=>
  rw[XX YJ]
  exact wpAny_execs_nil ⟨σ1,H2,I2,q2⟩
end
structure It where
 go:Nat→Hp→Prop
 yld:Nat→Hp→V→Hp→Prop
 stop:Nat→Hp→Prop
def FpOk (X:Cx)(pins:List (Addr×Obj))(H:Hp)(b:Addr):Prop:=
 H b=none∧b≠X.env.locals∧b∉X.fs∧(b∈X.ex∨X.s₀.heap.objs.size≤b)∧(∀x c,X.env.cells.lookup x=some c→c≠b)∧∀p∈X.pn++pins,p.1≠b
theorem Inv.fpOk {X:Cx}{pins:List (Addr×Obj)}{σ:St}{H H':Hp}{s:Shared}{b:Addr}(I:Inv X pins σ H s)(hb:s.heap.objs.size≤b)(hn:H' b=none):FpOk X pins H' b:=by
 refine⟨hn,Nat.ne_of_gt (XG I.lt hb),I.nofs hb,.inr (XN I.sz hb),fun x c e z=>?_,fun p hp z=>?_⟩
 ·obtain⟨v,q⟩:=I.cell x c e
  exact absurd (XG q.lt (by rw[z];exact hb)) (Nat.lt_irrefl _)
 ·exact absurd (XG (XD (I.pin p hp).1) (by rw[z];exact hb)) (Nat.lt_irrefl _)
structure Turn (P:Program)(w:World)(K:W.Frag)(tg:Expr)(J:It)(fp:List Addr)(it:Addr)(tn:Nat→Heap→Prop):Prop where
 mem:it∈fp
 obj:∀i h,tn i h→∀b∈fp,∃o,h.get? b=some o∧∀v,o.data≠.cell v
 keep:∀i h h',tn i h→(∀b∈fp,∀o,h.get? b=some o→h'.get? b=some o)→tn i h'
 item:∀(X:Cx),X.prog=P→X.w=w→X.K=K→X.calm=true→∀(i:Nat) (pins:List (Addr×Obj)) (s:Shared) (σ:St) (H:Hp) (E:Value→Shared→Prop),Inv X pins σ H s→(∀b∈fp,FpOk X pins H b)→tn i s.heap→J.go i H→
  wpAny (model P w) X.A (pyNext (.ref it)) (fun r s1=>∃u,r=some u∧
   wpAny (model P w) X.A (letOwnedTupleGo tg (.ref it) u) (fun _ s2=>∃x H',Inv X pins σ H' s2∧Yg x u∧J.yld i H x H'∧tn (i+1) s2.heap∧∀b∈fp,H' b=none) E s1) E s
 done:∀(X:Cx),X.prog=P→X.w=w→X.K=K→X.calm=true→∀(i:Nat) (pins:List (Addr×Obj)) (s:Shared) (σ:St) (H:Hp) (E:Value→Shared→Prop),Inv X pins σ H s→(∀b∈fp,FpOk X pins H b)→tn i s.heap→J.stop i H→
  wpAny (model P w) X.A (pyNext (.ref it)) (fun r s1=>r=none∧Inv X pins σ H s1) E s
 self:∀(A:Around) (i:Nat) (s:Shared) (Q:Value→Shared→Prop) (E:Value→Shared→Prop),tn i s.heap→Q (.ref it) s→wpAny (model P w) A (pyIter (.ref it)) Q E s
abbrev TI:=St→Hp→(It→Hp→Prop)→Prop
def PIE (X:Cx)(pins:List (Addr×Obj))(σ:St)(tg:Expr)(R:It→Hp→Prop)(itv:Value)(s2:Shared):Prop:=
 ∃(it:Addr) (fp:List Addr) (tn:Nat→Heap→Prop) (J:It) (H':Hp),itv=.ref it∧Inv X pins σ H' s2∧Turn X.prog X.w X.K tg J fp it tn∧tn 0 s2.heap∧(∀b∈fp,FpOk X pins H' b)∧R J H'
def PI (X:Cx)(tg iter:Expr)(wi:TI):Prop:=
 ∀(pins:List (Addr×Obj)) (s:Shared) (σ:St) (H:Hp) (R:It→Hp→Prop),Inv X pins σ H s→wi σ H R→
  wpAny (model X.prog X.w) X.A (eval iter X.env) (fun v s1=>wpAny (model X.prog X.w) X.A (pyIter v) (PIE X pins σ tg R) X.xe s1) X.xe s
theorem Zsa {M:Model}{A:Around}{E:Value→Shared→Prop}{s:Shared}{tg:Expr}{it:Addr}{u:Value}{o:Obj}{n:String}{vs:Array Value}{Q:Unit→Shared→Prop}(ho:s.heap.get? it=some o)(hc:o.cls=.type n)(hd:o.data=.fields vs)
  (hn:["enumerate","zip","dict_itemiterator","dict_reverseitemiterator","odict_iterator","itertools.zip_longest","itertools.pairwise"].contains n=false) (hQ:Q () s):wpAny M A (letOwnedTupleGo tg (.ref it) u) Q E s:=by
 unfold letOwnedTupleGo
 cases tg<;>first
  | exact XB hQ
  | (cases u<;>first
    | exact XB hQ
    | (refine XA (wpAny_load ho ?_)
       rw[hc,hd]
       show wpAny M A (if (["enumerate","zip","dict_itemiterator","dict_reverseitemiterator","odict_iterator","itertools.zip_longest","itertools.pairwise"].contains n&&vs[0]?==some (rawInt _))=true then _ else _) Q E s
       rw[XX (by intro h;rw[hn,Bool.false_and] at h;cases h)]
       exact XB hQ))
def Itl (K:W.Frag)(a:Addr):It:=
 ⟨fun i H=>∃xs x,SqL K H a xs∧xs[i]?=some x,fun i H x H'=>H'=H∧∀xs,SqL K H a xs→xs[i]?=some x,fun i H=>∃xs,SqL K H a xs∧xs.length≤i⟩
def Itt (K:W.Frag)(a:Addr):It:=
 ⟨fun i H=>∃xs x,SqT K H a xs∧xs[i]?=some x,fun i H x H'=>H'=H∧∀xs,SqT K H a xs→xs[i]?=some x,fun i H=>∃xs,SqT K H a xs∧xs.length≤i⟩
def Itr (lo:Int)(n:Nat):It:=⟨fun i _=>i<n,fun i H x H'=>H'=H∧x=.int (lo+i),fun i _=>n≤i⟩
theorem Zsz {P:Program}{w:World}{K:W.Frag}{tg:Expr}(a it:Addr):Turn P w K tg (Itl K a) [it] it (fun i h=>h.IsListIter it a i) where
 mem:=by simp
 obj:=fun i h st b hb=>by
  have e:b=it:=by simpa using hb
  subst e
  obtain⟨o,e,c,d⟩:=st
  exact⟨o,e,fun v z=>by rw[d] at z;cases z⟩
 keep:=fun i h h' st k=>st.at fun o e=>k it (by simp) o e
 item:=by
  intro X hP hw hK hc i pins s σ H E I hf st hg
  subst hP hw hK
  obtain⟨xs,x,hq,hx⟩:=hg
  obtain⟨its,rv,p,hz⟩:=I.list hq
  obtain⟨u,hu,ru⟩:=rv.get hx
  obtain⟨f0,f1,f2,f3,f4,f5⟩:=hf it (by simp)
  refine wpAny_pyNext_list_item st p.isList (x:=u) (by simpa using hu) fun h' st' sb=>?_
  have I1:Inv X pins σ H {s with heap:=h'}:=I.turned (t':=s.toks) (fun b o hb e=>(sb.2 b hb).trans e) f0 f1 f3 f4 f5
  obtain⟨o,e,c,d⟩:=id st'
  exact⟨u,rfl,Zsa (s:={s with heap:=h'}) e c d (by decide) ⟨x,H,I1,ru,⟨rfl,fun ys hy=>by rw[I.list_inj hy hq];exact hx⟩,st',fun b hb=>(hf b hb).1⟩⟩
 done:=by
  intro X hP hw hK hc i pins s σ H E I hf st hg
  subst hP hw hK
  obtain⟨xs,hq,hx⟩:=hg
  obtain⟨its,rv,p,hz⟩:=I.list hq
  obtain⟨f0,f1,f2,f3,f4,f5⟩:=hf it (by simp)
  have hl:=rv.length
  exact wpAny_pyNext_list_end (I.ok.hd hc) st p.isList (by simp;omega) fun h' eb=>⟨rfl,I.turned (t':=s.toks) (fun b o hb e=>eb b o hb e) f0 f1 f3 f4 f5⟩
 self:=fun _ _ _ _ _ st h=>wpAny_pyIter_listiter st h
theorem Zp8 {P:Program}{w:World}{K:W.Frag}{tg:Expr}(a it:Addr):Turn P w K tg (Itt K a) [it] it (fun i h=>h.IsTupleIter it a i) where
 mem:=by simp
 obj:=fun i h st b hb=>by
  have e:b=it:=by simpa using hb
  subst e
  obtain⟨o,e,c,d⟩:=st
  exact⟨o,e,fun v z=>by rw[d] at z;cases z⟩
 keep:=fun i h h' st k=>st.at fun o e=>k it (by simp) o e
 item:=by
  intro X hP hw hK hc i pins s σ H E I hf st hg
  subst hP hw hK
  obtain⟨xs,x,hq,hx⟩:=hg
  obtain⟨its,rv,p,hz⟩:=I.tuple hq
  obtain⟨u,hu,ru⟩:=rv.get hx
  obtain⟨f0,f1,f2,f3,f4,f5⟩:=hf it (by simp)
  refine wpAny_pyNext_tuple_item st (show s.heap.IsTuple a its.toArray from p) (x:=u) (by simpa using hu) fun h' st' sb=>?_
  have I1:Inv X pins σ H {s with heap:=h'}:=I.turned (t':=s.toks) (fun b o hb e=>(sb.2 b hb).trans e) f0 f1 f3 f4 f5
  obtain⟨o,e,c,d⟩:=id st'
  exact⟨u,rfl,Zsa (s:={s with heap:=h'}) e c d (by decide) ⟨x,H,I1,ru,⟨rfl,fun ys hy=>by rw[I.tuple_inj hy hq];exact hx⟩,st',fun b hb=>(hf b hb).1⟩⟩
 done:=by
  intro X hP hw hK hc i pins s σ H E I hf st hg
  subst hP hw hK
  obtain⟨xs,hq,hx⟩:=hg
  obtain⟨its,rv,p,hz⟩:=I.tuple hq
  obtain⟨f0,f1,f2,f3,f4,f5⟩:=hf it (by simp)
  have hl:=rv.length
  exact wpAny_pyNext_tuple_end (I.ok.hd hc) st (show s.heap.IsTuple a its.toArray from p) (by simp;omega) fun h' eb=>⟨rfl,I.turned (t':=s.toks) (fun b o hb e=>eb b o hb e) f0 f1 f3 f4 f5⟩
 self:=fun _ _ _ _ _ st h=>wpAny_pyIter_tupleiter st h
theorem Zp9 {P:Program}{w:World}{K:W.Frag}{tg:Expr}(it:Addr)(lo:Int)(n:Nat):Turn P w K tg (Itr lo n) [it] it (fun i h=>IsRangeIter h it (lo+(i:Nat)*1) ((n:Int)-(i:Nat)) 1) where
 mem:=by simp
 obj:=fun i h st b hb=>by
  have e:b=it:=by simpa using hb
  subst e
  exact⟨_,st,fun v z=>by
   have z':Data.fields _=Data.cell v:=z
   cases z'⟩
 keep:=fun i h h' st k=>k it (by simp) _ st
 item:=by
  intro X hP hw hK hc i pins s σ H E I hf st hg
  subst hP hw hK
  obtain⟨f0,f1,f2,f3,f4,f5⟩:=hf it (by simp)
  have W:=Walks.range (prog:=X.prog) (w:=X.w) (I.ok.hd hc) it lo 1 n
  refine W.item i s _ _ hg st fun v h' tk hv st' kk=>?_
  obtain⟨t,rfl⟩:=hv
  have I1:Inv X pins σ H {s with heap:=h',toks:=tk}:=I.turned (fun b o hb e=>kk b o (by simpa using hb) e) f0 f1 f3 f4 f5
  refine⟨_,rfl,Zsa (s:={s with heap:=h',toks:=tk}) (n:="range_iterator") st' rfl rfl (by decide) ⟨.int (lo+i),H,I1,⟨t,?_⟩,⟨rfl,rfl⟩,st',fun b hb=>(hf b hb).1⟩⟩
  rw[Int.mul_one]
 done:=by
  intro X hP hw hK hc i pins s σ H E I hf st hg
  subst hP hw hK
  obtain⟨f0,f1,f2,f3,f4,f5⟩:=hf it (by simp)
  exact wpAny_pyNext_range_end (I.ok.hd hc) st (by have:n≤i:=hg;omega) fun h' eb=>⟨rfl,I.turned (t':=s.toks) (fun b o hb e=>eb b o hb e) f0 f1 f3 f4 f5⟩
 self:=fun _ _ _ _ _ st h=>wpAny_pyIter_rangeiter st h
section
variable {X:Cx}{tg:Expr}
theorem Zvh {pins:List (Addr×Obj)}{σ:St}{H:Hp}{s:Shared}{R:It→Hp→Prop}{E:Value→Shared→Prop}{lo hi:Int}{t u v:Tok}{tk:Nat}(I:Inv X pins σ H s)(h1: -(2^62)≤lo)(h2:lo<2^62)(h3: -(2^62)≤hi)(h4:hi<2^62)
  (q:R (Itr lo (hi-lo).toNat) H):wpAny (model X.prog X.w) X.A (pyIter (.ref s.heap.objs.size)) (PIE X pins σ tg R) E {s with heap:=s.heap.push {cls:=.type "range",data:=.fields #[.int lo t,.int hi u,.int 1 v]},toks:=tk}:=by
 refine wpAny_pyIter_range (IsRange.new ..) (small_one h1 h2 h3 h4) ?_
 have I1:Inv X pins σ H {s with heap:=s.heap.push {cls:=.type "range",data:=.fields #[.int lo t,.int hi u,.int 1 v]},toks:=tk}:=I.kept fun b o e=>XC _ e
 refine⟨(s.heap.push {cls:=.type "range",data:=.fields #[.int lo t,.int hi u,.int 1 v]}).objs.size,[(s.heap.push {cls:=.type "range",data:=.fields #[.int lo t,.int hi u,.int 1 v]}).objs.size],_,_,H,rfl,
  I1.kept (t':=tk) fun b o e=>XC _ e,Zp9 _ lo (hi-lo).toNat,?_,fun b hb=>?_,q⟩
 ·have e1:lo+((0:Nat):Int)*1=lo:=by simp
  have e2:(((hi-lo).toNat:Nat):Int)-((0:Nat):Int)=Builtin.Range.rangeSize lo hi 1:=by rw[rangeSize_one];split<;>omega
  show IsRangeIter _ _ (lo+((0:Nat):Int)*1) ((((hi-lo).toNat:Nat):Int)-((0:Nat):Int)) 1
  rw[e1,e2]
  exact XF _ rfl
 ·have e:b=(s.heap.push {cls:=.type "range",data:=.fields #[.int lo t,.int hi u,.int 1 v]}).objs.size:=by simpa using hb
  subst e
  exact I1.fpOk (XE _) (I1.hok.fresh (XE _))
def iRng1 (ta:TA):TI:=fun σ H R=>ta σ H fun vs H1=>∃j:Int,vs=[.int j]∧ -(2^62)≤j∧j<2^62∧R (Itr 0 j.toNat) H1
theorem Zta {a:Expr}{ta:TA}{p pos:Pos}(hg:Gl X "range")(hm:X.mg "range"=none)(ha:PA X [a] ta)(hs:starEach [a] X.env=[(false,eval a X.env)]:=by rfl):PI X tg (.Call (.Name "range" p) [a] [] pos) (iRng1 ta):=by
 intro pins s σ H R I h
 refine Call_ (Zdo I hg hm boot_range (PyProof.Rows.callWith_type1 (thn (ha pos pins s σ H _ I h) fun us s1 ⟨vs,H1,I1,r1,q1⟩=>?_) hs rfl))
 obtain⟨j,e,q1,q2,q⟩:=q1
 subst e
 cases r1 with
 | cons r rr=>
  cases rr
  obtain⟨t,rfl⟩:=r
  exact call_range_1 (Zvh I1 (by omega) (by omega) q1 q2 (by simpa using q))
def tFor (wi:TI)(g:TG)(tb:TS):TS:=fun D σ H=>wi σ H fun J H1=>∃W:Nat→Nat→St→Hp→Prop,(∃m,W 0 m σ H1)∧∀i m σ H,W i m σ H→
 (J.stop i H∧D.nx σ H)∨(J.go i H∧∃N:St→Hp→Prop,(∀σ' H',N σ' H'→∃m',m'<m∧W (i+1) m' σ' H')∧∀x H',J.yld i H x H'→g x σ H' fun σ2 H2=>tb {D with nx:=N,ct:=N,bk:=D.nx} σ2 H2)
def Zji (fp:List Addr)(h:Heap):List (Addr×Obj):=fp.filterMap fun b=>(h.get? b).map fun o=>(b,o)
theorem Zd7 {fp:List Addr}{h:Heap}{b:Addr}{o:Obj}(hb:b∈fp)(e:h.get? b=some o):(b,o)∈Zji fp h:=List.mem_filterMap.mpr ⟨b,hb,by rw[e];rfl⟩
theorem Zth {fp:List Addr}{h:Heap}{p:Addr×Obj}(hp:p∈Zji fp h):p.1∈fp∧h.get? p.1=some p.2:=by
 obtain⟨b,hb,e⟩:=List.mem_filterMap.mp hp
 cases q:h.get? b with
 | none=>rw[q] at e;cases e
 | some o=>
  rw[q] at e
  have e':(b,o)=p:=YH e
  subst e'
  exact⟨hb,q⟩
theorem Inv.pinned {pins:List (Addr×Obj)}{σ:St}{H:Hp}{s:Shared}{fp:List Addr}(I:Inv X pins σ H s)(hf:∀b∈fp,FpOk X pins H b)(ho:∀b∈fp,∃o,s.heap.get? b=some o∧∀v,o.data≠.cell v):Inv X (pins++Zji fp s.heap) σ H s:=
 I.pins_of fun p hp=>(XS.mp hp).elim (fun z=>I.pin p (XT _ z)) fun z=>by
  obtain⟨hb,e⟩:=Zth z
  obtain⟨f0,f1,f2,_⟩:=hf p.1 hb
  obtain⟨o,e',d⟩:=ho p.1 hb
  rw[e] at e';cases e'
  exact⟨e,f0,f1,f2,d⟩
theorem Inv.unpinned {pins pl:List (Addr×Obj)}{σ:St}{H:Hp}{s:Shared}(I:Inv X (pins++pl) σ H s):Inv X pins σ H s:=I.pins_of fun p hp=>I.pin p (XT _ (List.mem_append_left _ hp))
theorem Z2a {iter:Expr}{body:List Stmt}{wi:TI}{g:TG}{tb:TS}{pos:Pos}(hp:PassesOwn (model X.prog X.w) X.A X.env X.xe)(hc:X.calm=true)(hi:PI X tg iter wi)(hg:PG X tg g)(hb:PSs X body tb)
  (hs:∀x,foldedSetIterable iter X.env x=pure x:=by intro _;rfl):PS X (.For tg iter body [] pos) (tFor wi g tb):=by
 intro pins s σ H D I h
 refine wpAny_For (thn (hi pins s σ H _ I h) fun v s1 h1=>thn h1 fun itv s2 h2=>?_) hs
 obtain⟨it,fp,tn,J,H2,e,I2,T,st2,f2,W,⟨m0,w0⟩,turn⟩:=h2
 subst e
 have stat:∀{H':Hp},(∀b∈fp,H' b=none)→∀b∈fp,FpOk X pins H' b:=fun hn b hb=>⟨hn b hb,(f2 b hb).2⟩
 refine codeAny_forLoop_any (fun n s'=>∃i σ' H',Inv X pins σ' H' s'∧tn i s'.heap∧(∀b∈fp,H' b=none)∧W i n σ' H') ?_ m0 ⟨0,σ,H2,I2,st2,fun b hb=>(f2 b hb).1,w0⟩
 rintro n s3 ⟨i,σ3,H3,I3,st3,fr3,w3⟩
 rcases turn i n σ3 H3 w3 with⟨stop,qn⟩ | ⟨go,N,hN,step⟩
 ·refine wpAny_passesOwn hp (thn (T.done X rfl rfl rfl hc i pins s3 σ3 H3 X.xe I3 (stat fr3) st3 stop) fun r s4 ⟨hr,I4⟩=>?_)
  subst hr
  exact wpAny_execs_nil ⟨σ3,H3,I4,qn⟩
 ·refine wpAny_passesOwn hp (thn (T.item X rfl rfl rfl hc i pins s3 σ3 H3 X.xe I3 (stat fr3) st3 go) fun r s4 ⟨u,hr,h4⟩=>?_)
  subst hr
  refine wpAny_passesOwn hp (thn h4 fun _ s5 ⟨x,H5,I5,r5,y5,st5,fr5⟩=>?_)
  have I5':=I5.pinned (stat fr5) (T.obj _ _ st5)
  refine wpAny_passesOwn hp (thn (hg _ s5 σ3 H5 x u _ I5' r5 (step x H5 y5)) fun _ s6 ⟨σ6,H6,I6,q6⟩=>?_)
  refine wpAny_passesOwn hp (thn (hb _ s6 σ6 H6 _ I6 q6) fun f s7 q7=>?_)
  have again:∀{σ7:St} {H7:Hp},Inv X (pins++Zji fp s5.heap) σ7 H7 s7→N σ7 H7→∃m,m<n∧∃i σ' H',Inv X pins σ' H' s7∧tn i s7.heap∧(∀b∈fp,H' b=none)∧W i m σ' H':=fun {σ7 H7} I7 n7=>by
   obtain⟨m',hm,w7⟩:=hN σ7 H7 n7
   refine⟨m',hm,i+1,σ7,H7,I7.unpinned,T.keep _ _ _ st5 fun b hb o e=>(I7.pin (b,o) (XT _ (XT _ (Zd7 hb e)))).1,fun b hb=>?_,w7⟩
   obtain⟨o,e,d⟩:=T.obj _ _ st5 b hb
   exact(I7.pin (b,o) (XT _ (XT _ (Zd7 hb e)))).2.1
  cases f with
  | next=>obtain⟨σ7,H7,I7,n7⟩:=q7;exact again I7 n7
  | cont=>obtain⟨σ7,H7,I7,n7⟩:=q7;exact again I7 n7
  | brk=>obtain⟨σ7,H7,I7,q7⟩:=q7;exact⟨σ7,H7,I7.unpinned,q7⟩
  | ret v=>obtain⟨x7,σ7,H7,I7,r7,q7⟩:=q7;exact⟨x7,σ7,H7,I7.unpinned,r7,q7⟩
end
abbrev R2:=V→V→Hp→VK→Prop
def OpR (X:Cx)(f:Value→Value→Sem Value)(r:R2):Prop:=
 ∀(pins:List (Addr×Obj)) (s:Shared) (σ:St) (H:Hp) (x y:V) (v u:Value) (Q:VK),Inv X pins σ H s→Yg x v→Yg y u→r x y H Q→
  wpAny (model X.prog X.w) X.A (f v u) (EP X pins σ Q) X.xe s
def UnR (X:Cx)(f:Value→Sem Value)(r:V→Hp→VK→Prop):Prop:=
 ∀(pins:List (Addr×Obj)) (s:Shared) (σ:St) (H:Hp) (x:V) (v:Value) (Q:VK),Inv X pins σ H s→Yg x v→r x H Q→
  wpAny (model X.prog X.w) X.A (f v) (EP X pins σ Q) X.xe s
def Zbi (X:Cx)(f:Value)(r:List V→Hp→VK→Prop):Prop:=
 ∀(pins:List (Addr×Obj)) (s:Shared) (σ:St) (H:Hp) (xs:List V) (us:List Value) (Q:VK),Inv X pins σ H s→Vals xs us→r xs H Q→
  wpAny (model X.prog X.w) X.A (call f us) (EP X pins σ Q) X.xe s
def TruR (X:Cx)(r:V→Hp→(Bool→Hp→Prop)→Prop):Prop:=
 ∀(pins:List (Addr×Obj)) (s:Shared) (σ:St) (H:Hp) (x:V) (v:Value) (Q:Bool→Hp→Prop),Inv X pins σ H s→Yg x v→r x H Q→
  wpAny (model X.prog X.w) X.A (truthy v) (TP X pins σ Q) X.xe s
def tOp (r:R2)(ta tb:TE):TE:=fun σ H Q=>ta σ H fun x H1=>tb σ H1 fun y H2=>r x y H2 Q
def tUn (r:V→Hp→VK→Prop)(ta:TE):TE:=fun σ H Q=>ta σ H fun x H1=>r x H1 Q
def rI (C:Int→Int→Prop)(g:Int→Int→V):R2:=fun x y H Q=>∃i j,x=.int i∧y=.int j∧C i j∧Q (g i j) H
def rI0 (g:Int→Int→V):R2:=fun x y H Q=>∃i j,x=.int i∧y=.int j∧Q (g i j) H
def rU (g:Int→V):V→Hp→VK→Prop:=fun x H Q=>∃i,x=.int i∧Q (g i) H
section
variable {X:Cx}{a b c:Expr}{ta tb tc:TE}{pos:Pos}
theorem binT (ha:PE X a ta)(hb:PE X b tb){pins:List (Addr×Obj)}{s:Shared}{σ:St}{H:Hp}{R:V→V→Hp→Prop}(I:Inv X pins σ H s)
  (h:ta σ H fun x H1=>tb σ H1 fun y H2=>R x y H2) {Q:Value→Shared→Prop} {f:Value→Value→Sem Value}
  (hf:∀v u s2 x y H2,Inv X pins σ H2 s2→Yg x v→Yg y u→R x y H2→wpAny (model X.prog X.w) X.A (f v u) Q X.xe s2):
  wpAny (model X.prog X.w) X.A (eval a X.env) (fun v s₁=>wpAny (model X.prog X.w) X.A (eval b X.env) (fun u s₂=>wpAny (model X.prog X.w) X.A (f v u) Q X.xe s₂) X.xe s₁) X.xe s:=by
 refine thn (ha pins s σ H _ I h) fun v s1 ⟨x,H1,I1,r1,q1⟩=>?_
 refine thn (hb pins s1 σ H1 _ I1 q1) fun u s2 ⟨y,H2,I2,r2,q2⟩=>?_
 exact hf v u s2 x y H2 I2 r1 r2 q2
theorem pe_op {op:Operator}{r:R2}(ho:OpR X (binaryOp op) r)(ha:PE X a ta)(hb:PE X b tb):PE X (.BinOp a op b pos) (tOp r ta tb):=by
 intro pins s σ H Q I h
 exact wpAny_BinOp (binT ha hb I h fun v u s2 x y H2 I2 rx ry q=>ho pins s2 σ H2 x y v u Q I2 rx ry q)
theorem pe_un {op:UnaryOp}{r:V→Hp→VK→Prop}(ho:UnR X (unaryOp op) r)(ha:PE X a ta):PE X (.UnaryOp op a pos) (tUn r ta):=by
 intro pins s σ H Q I h
 exact UnaryOp_ (thn (ha pins s σ H _ I h) fun v s1 ⟨x,H1,I1,r1,q1⟩=>ho pins s1 σ H1 x v Q I1 r1 q1)
theorem opI {f:Value→Value→Sem Value}{C:Int→Int→Prop}{g:Int→Int→Int}
  (rule:∀(i j:Int) (t u:Tok) (s:Shared) (Q:Value→Shared→Prop) (E:Value→Shared→Prop),C i j→Q (.int (g i j) s.toks) {s with toks:=s.toks+1}→wpAny (model X.prog X.w) X.A (f (.int i t) (.int j u)) Q E s):
  OpR X f (rI C fun i j=>.int (g i j)):=by
 intro pins s σ H x y v u Q I rx ry h
 obtain⟨i,j,rfl,rfl,hc,q⟩:=h
 obtain⟨t,rfl⟩:=rx
 obtain⟨t',rfl⟩:=ry
 exact rule i j t t' s _ _ hc ⟨.int (g i j),H,I.tok _,⟨_,rfl⟩,q⟩
theorem opI0 {f:Value→Value→Sem Value}{g:Int→Int→Int}
  (rule:∀(i j:Int) (t u:Tok) (s:Shared) (Q:Value→Shared→Prop) (E:Value→Shared→Prop),Q (.int (g i j) s.toks) {s with toks:=s.toks+1}→wpAny (model X.prog X.w) X.A (f (.int i t) (.int j u)) Q E s):
  OpR X f (rI0 fun i j=>.int (g i j)):=by
 intro pins s σ H x y v u Q I rx ry h
 obtain⟨i,j,rfl,rfl,q⟩:=h
 obtain⟨t,rfl⟩:=rx
 obtain⟨t',rfl⟩:=ry
 exact rule i j t t' s _ _ ⟨.int (g i j),H,I.tok _,⟨_,rfl⟩,q⟩
theorem opB0 {f:Value→Value→Sem Value}{g:Int→Int→Bool}
  (rule:∀(i j:Int) (t u:Tok) (s:Shared) (Q:Value→Shared→Prop) (E:Value→Shared→Prop),Q (.bool (g i j)) s→wpAny (model X.prog X.w) X.A (f (.int i t) (.int j u)) Q E s):
  OpR X f (rI0 fun i j=>.bl (g i j)):=by
 intro pins s σ H x y v u Q I rx ry h
 obtain⟨i,j,rfl,rfl,q⟩:=h
 obtain⟨t,rfl⟩:=rx
 obtain⟨t',rfl⟩:=ry
 exact rule i j t t' s _ _ ⟨.bl (g i j),H,I,rfl,q⟩
def CDiv (i j:Int):Prop:=0<j∧j<1073741824
def CPow (i j:Int):Prop:=0≤j∧j≤1000000∧i.natAbs<2^64
def CMul (i j:Int):Prop:=(-(2^64)<i∧i<2^64)∨(-(2^64)<j∧j<2^64)
theorem CMul.ok {i j:Int}(h:CMul i j):IntMulOk i j:=by
 rcases h with⟨h1,h2⟩ | ⟨h1,h2⟩
 ·exact .of_left (intBits_le_64 h1 h2)
 ·exact .of_right (intBits_le_64 h1 h2)
theorem Z20:OpR X (binaryOp .Add) (rI0 fun i j=>.int (i+j)):=opI0 fun _ _ _ _ _ _ _ q=>add_int q
theorem Z2t:OpR X (binaryOp .Sub) (rI0 fun i j=>.int (i-j)):=opI0 fun _ _ _ _ _ _ _ q=>sub_int q
theorem Z2w:OpR X (binaryOp .Mult) (rI CMul fun i j=>.int (i*j)):=opI fun _ _ _ _ _ _ _ hc q=>mul_int q hc.ok
theorem Zzg:OpR X (binaryOp .FloorDiv) (rI CDiv fun i j=>.int (i/j)):=opI fun i j _ _ _ _ _ hc q=>by
 have h1:(0:Int)<j:=hc.1
 have h2:j<1073741824:=hc.2
 exact floordiv_int (by omega) (by rw[Int.fdiv_eq_ediv_of_nonneg i (by omega)];exact q) (.inl (PyProof.noPylong_small (by omega)))
theorem Z2x:OpR X (binaryOp .Mod) (rI (fun _ j=>0<j) fun i j=>.int (i%j)):=opI fun i j _ _ _ _ _ hc q=>by
 have h1:(0:Int)<j:=hc
 exact mod_int' (by omega) (by rw[Int.fmod_eq_emod_of_nonneg i (by omega)];exact q)
theorem Z2v:OpR X (binaryOp .Pow) (rI CPow fun i j=>.int (i^j.toNat)):=opI fun _ _ _ _ _ _ _ hc q=>pow_int_small hc.1 hc.2.1 hc.2.2 q
theorem unI {f:Value→Sem Value}{g:Int→Int}
  (rule:∀(i:Int) (t:Tok) (s:Shared) (Q:Value→Shared→Prop) (E:Value→Shared→Prop),Q (.int (g i) s.toks) {s with toks:=s.toks+1}→wpAny (model X.prog X.w) X.A (f (.int i t)) Q E s):
  UnR X f (rU fun i=>.int (g i)):=by
 intro pins s σ H x v Q I rx h
 obtain⟨i,rfl,q⟩:=h
 obtain⟨t,rfl⟩:=rx
 exact rule i t s _ _ ⟨.int (g i),H,I.tok _,⟨_,rfl⟩,q⟩
theorem Z1k:UnR X (unaryOp .USub) (rU fun i=>.int (-i)):=unI fun _ _ _ _ _ q=>neg_int q
end
def scal:V→V→Bool
 | .non,.non=>true | .non,.int _=>true | .int _,.non=>true | .non,.bl _=>true | .bl _,.non=>true | .non,.str _=>true | .str _,.non=>true
 | .int _,.int _=>true | .bl _,.bl _=>true | .str _,.str _=>true | .byt _,.byt _=>true
 | .int _,.str _=>true | .str _,.int _=>true | .bl _,.str _=>true | .str _,.bl _=>true
 | _,_=>false
section
variable {X:Cx}{a b c:Expr}{ta tb tc:TE}{pos:Pos}
theorem Zrb {pins:List (Addr×Obj)}{σ:St}{H:Hp}{s:Shared}{Q:VK}{k k':Bool}(I:Inv X pins σ H s)(q:Q (.bl k) H)(e:k=k'):EP X pins σ Q (.bool k') s:=by
 subst e
 exact⟨.bl k,H,I,rfl,q⟩
theorem op_lt:OpR X (compareOp .Lt) (rI0 fun i j=>.bl (decide (i<j))):=opB0 fun _ _ _ _ _ _ _ q=>lt_int q
theorem op_le:OpR X (compareOp .LtE) (rI0 fun i j=>.bl (decide (i≤j))):=opB0 fun _ _ _ _ _ _ _ q=>le_int q
theorem op_gt:OpR X (compareOp .Gt) (rI0 fun i j=>.bl (decide (j<i))):=opB0 fun _ _ _ _ _ _ _ q=>gt_int q
theorem Zte:OpR X (compareOp .Lt) (fun x y H Q=>∃i j,x=.str i∧y=.str j∧Q (.bl (decide (i.cps.toList<j.cps.toList))) H):=by
 intro pins s σ H x y v u Q I rx ry h
 obtain⟨i,j,rfl,rfl,q⟩:=h
 obtain⟨t,rfl⟩:=rx
 obtain⟨t',rfl⟩:=ry
 exact lt_str (Zrb I q rfl)
theorem Z2y:OpR X (compareOp .Is) (fun x y H Q=>y=.non∧Q (.bl (decide (x=.non))) H):=by
 intro pins s σ H x y v u Q I rx ry h
 obtain⟨rfl,q⟩:=h
 cases ry
 refine is_none_gen (Zrb I q ?_)
 cases x<;>first
  | (cases rx;rfl)
  | (obtain⟨t,rfl⟩:=rx;rfl)
theorem Zzf:OpR X (compareOp .IsNot) (fun x y H Q=>y=.non∧Q (.bl (!decide (x=.non))) H):=by
 intro pins s σ H x y v u Q I rx ry h
 obtain⟨rfl,q⟩:=h
 cases ry
 refine isnot_none_gen (Zrb I q ?_)
 cases x<;>first
  | (cases rx;rfl)
  | (obtain⟨t,rfl⟩:=rx;rfl)
def isObj:HO→Bool
 | .lst _=>true
 | .ins _ _ _=>true
 | _=>false
theorem OpR.or {f:Value→Value→Sem Value}{r r':R2}(h:OpR X f r)(h':OpR X f r'):OpR X f (fun x y H Q=>r x y H Q∨r' x y H Q):=by
 intro pins s σ H x y v u Q I rx ry q
 rcases q with q | q
 ·exact h pins s σ H x y v u Q I rx ry q
 ·exact h' pins s σ H x y v u Q I rx ry q
theorem Zbe (b:Expr){op:CmpOp}(h:op≠.In:=by decide)(h2:op≠.NotIn:=by decide):behindInMarks op b=false:=by
 have e1:(op==CmpOp.In)=false:=by cases op<;>first | rfl | exact absurd rfl h
 have e2:(op==CmpOp.NotIn)=false:=by cases op<;>first | rfl | exact absurd rfl h2
 cases b<;>simp[behindInMarks,e1,e2]
theorem Zzd {op:CmpOp}{r:R2}(ho:OpR X (compareOp op) r)(ha:PE X a ta)(hb:PE X b tb)(hm:behindInMarks op b=false):PE X (.Compare a [op] [b] pos) (tOp r ta tb):=by
 intro pins s σ H Q I h
 exact wpAny_Compare1 (binT ha hb I h fun v u s2 x y H2 I2 rx ry q=>ho pins s2 σ H2 x y v u Q I2 rx ry q) hm
def Zum (t:TE):TT:=fun σ H Q=>t σ H fun x H'=>∃k,x=.bl k∧Q k H'
theorem Zys {op:CmpOp}{r:R2}(ho:OpR X (compareOp op) r)(ha:PE X a ta)(hb:PE X b tb)(hm:behindInMarks op b=false):PT X (.Compare a [op] [b] pos) (Zum (tOp r ta tb)):=by
 intro pins s σ H Q I h
 refine wpAny_isTrue_Compare1 (thn (ha pins s σ H _ I h) fun v s1 ⟨x,H1,I1,r1,q1⟩=>thn (hb pins s1 σ H1 _ I1 q1) fun u s2 ⟨y,H2,I2,r2,q2⟩=>
  thn (ho pins s2 σ H2 x y v u _ I2 r1 r2 q2) fun c s3 ⟨z,H3,I3,r3,k,e,q3⟩=>?_) hm
 subst e
 cases r3
 exact wpAny_truthy_bool ⟨H3,I3,q3⟩
def Zuq (r r':R2)(ta tb tc:TE):TE:=fun σ H Q=>ta σ H fun x H1=>tb σ H1 fun y H2=>r x y H2 fun z H3=>∃k,z=.bl k∧
 (if k=true then tc σ H3 fun w' H4=>r' y w' H4 Q else Q (.bl false) H3)
theorem Zvk {op op':CmpOp}{r r':R2}(ho:OpR X (compareOp op) r)(ho':OpR X (compareOp op') r')(ha:PE X a ta)(hb:PE X b tb)(hc:PE X c tc)
  (hm:lastMarks [op,op'] [b,c]=false:=by with_unfolding_all rfl):PT X (.Compare a [op,op'] [b,c] pos) (Zum (Zuq r r' ta tb tc)):=by
 intro pins s σ H Q I h
 refine isTrue_chain (thn (ha pins s σ H _ I h) fun v s1 ⟨x,H1,I1,r1,q1⟩=>test_link (thn (hb pins s1 σ H1 _ I1 q1) fun u s2 ⟨y,H2,I2,r2,q2⟩=>
  thn (ho pins s2 σ H2 x y v u _ I2 r1 r2 q2) fun d s3 ⟨z,H3,I3,r3,k,e,q3⟩=>?_)) hm
 subst e
 cases r3
 refine wpAny_truthy_bool ?_
 cases k with
 | false=>
  obtain⟨k',e',q'⟩:=q3
  cases e'
  exact ite_ff ⟨H3,I3,q'⟩
 | true=>
  refine ite_tt (test_last (thn (hc pins s3 σ H3 _ I3 q3) fun w' s4 ⟨z',H4,I4,r4,q4⟩=>thn (ho' pins s4 σ H4 y z' u w' _ I4 r2 r4 q4) fun d' s5 ⟨z2,H5,I5,r5,k2,e2,q5⟩=>?_))
  subst e2
  cases r5
  exact wpAny_truthy_bool ⟨H5,I5,q5⟩
def TruV (K:W.Frag)(x:V)(H:Hp)(k:Bool):Prop:=
 match x with
 | .non=>k=false
 | .bl b=>k=b
 | .int i=>k=(i !=0)
 | .str y=>y.length≤sizeLine∧k=((y.length:Int) !=0)
 | .byt y=>y.size≤sizeLine∧k=((y.size:Int) !=0)
 | .ref p=>(∃xs,SqL K H p xs∧k=!xs.isEmpty)∨(∃xs,SqT K H p xs∧k=!xs.isEmpty)∨∃kvs,H p=some (.dK kvs)∧k=!kvs.isEmpty
 | _=>False
theorem Zq3 {κ:Type}{kvs:List (κ×V)}{vs:List (κ×Value)}(r:KV kvs vs):(!vs.isEmpty)=!kvs.isEmpty:=by
 cases r<;>rfl
theorem Zj2 {xs:List V}{its:List Value}(r:Vals xs its):(!its.toArray.isEmpty)=!xs.isEmpty:=by
 cases r<;>simp
theorem line63:(sizeLine:Nat)<2^63:=by rw[sizeLine_eq];decide
theorem Z1n:TruR X (fun x H Q=>∃k,TruV X.K x H k∧Q k H):=by
 intro pins s σ H x v Q I rx h
 obtain⟨k,e,q⟩:=h
 have hl:=line63
 have hs:sizeLine=16777216:=sizeLine_eq
 cases x with
 | non=>
  cases rx
  have e':k=false:=e
  subst e'
  exact truthy_none ⟨H,I,q⟩
 | bl b=>
  cases rx
  have e':k=b:=e
  subst e'
  exact wpAny_truthy_bool ⟨H,I,q⟩
 | int i=>
  obtain⟨t,rfl⟩:=rx
  have e':k=(i !=0):=e
  subst e'
  exact PySem.P.truthy_int ⟨H,I,q⟩
 | str y=>
  obtain⟨t,rfl⟩:=rx
  obtain⟨hy,e'⟩:y.length≤sizeLine∧k=((y.length:Int) !=0):=e
  subst e'
  exact PySem.P.truthy_str (by omega) ⟨H,I.tok _,q⟩
 | byt y=>
  obtain⟨t,rfl⟩:=rx
  obtain⟨hy,e'⟩:y.size≤sizeLine∧k=((y.size:Int) !=0):=e
  subst e'
  exact W.truthy_bytes (by omega) ⟨H,I.tok _,q⟩
 | ref p=>
  cases rx
  have e':(∃xs,SqL X.K H p xs∧k=!xs.isEmpty)∨(∃xs,SqT X.K H p xs∧k=!xs.isEmpty)∨∃kvs,H p=some (.dK kvs)∧k=!kvs.isEmpty:=e
  rcases e' with⟨xs,hx,e'⟩ | ⟨xs,hx,e'⟩ | ⟨kvs,hx,e'⟩
  ·subst e'
   obtain⟨its,r,pl,hz⟩:=I.list hx
   have hlen:=r.length
   exact wpAny_truthy_list pl.isList (by simp only[List.size_toArray];omega) ⟨H,I.tok _,by rw[Zj2 r];exact q⟩
  ·subst e'
   obtain⟨its,r,pl,hz⟩:=I.tuple hx
   have hlen:=r.length
   exact truthy_tuple pl (by simp only[List.size_toArray];omega) ⟨H,I.tok _,by rw[Zj2 r];exact q⟩
  ·subst e'
   obtain⟨hz,hS,vs,r,m⟩:kvs.length≤sizeLine∧(p==sysModules)=false∧∃vs,KV kvs vs∧s.heap.DictOf (Jf X.prog X.w) p vs:=I.hok p _ hx
   have hlen:kvs.length=vs.length:=Paired.length r
   exact wpAny_truthy_dict hS m (by omega) ⟨H,I.tok _,by rw[Zq3 r];exact q⟩
 | _=>exact(show False from e).elim
theorem Zvi (ha:PE X a ta)(he:∀whole,isTrue a X.env whole=(do let v ←whole;standAt a.pos;holding [v] (truthy v))):
  PT X a (fun σ H Q=>ta σ H fun x H'=>∃k,TruV X.K x H' k∧Q k H'):=by
 intro pins s σ H Q I h
 exact isTrue_plain (thn (ha pins s σ H _ I h) fun v s1 ⟨x,H1,I1,r1,q1⟩=>Z1n pins s1 σ H1 x v Q I1 r1 q1) (he _)
theorem Zqp:OpR X (binaryOp .Add) (fun x y H Q=>∃i j,x=.str i∧y=.str j∧i.length+j.length≤sizeLine∧Q (.str (i++j)) H):=by
 intro pins s σ H x y v u Q I rx ry h
 obtain⟨i,j,rfl,rfl,hz,q⟩:=h
 obtain⟨t,rfl⟩:=rx
 obtain⟨t',rfl⟩:=ry
 exact add_str (fun t' tk=>⟨.str (i++j),H,I.tok _,⟨_,rfl⟩,q⟩) hz
theorem vals1 {x:V}{us:List Value}(r:Vals [x] us):∃u,us=[u]∧Yg x u:=by
 cases r with
 | cons r1 r2=>cases r2;exact⟨_,rfl,r1⟩
theorem vals2 {x y:V}{us:List Value}(r:Vals [x,y] us):∃u w',us=[u,w']∧Yg x u∧Yg y w':=by
 cases r with
 | cons r1 r2=>
  cases r2 with
  | cons r3 r4=>cases r4;exact⟨_,_,rfl,r1,r3⟩
theorem Zt3 (hc:X.calm=true):Zbi X (.builtin "max") (fun xs H Q=>∃i j,xs=[.int i,.int j]∧Q (.int (if j>i then j else i)) H):=by
 intro pins s σ H xs us Q I r h
 obtain⟨i,j,rfl,q⟩:=h
 obtain⟨u,w',rfl,⟨t,rfl⟩,⟨t',rfl⟩⟩:=vals2 r
 refine max_two_ints (I.ok.hd hc) fun h' tk k=>⟨_,H,I.kept k,?_,q⟩
 by_cases hj:j>i
 ·rw[XY hj,XY hj];exact⟨_,rfl⟩
 ·rw[XX hj,XX hj];exact⟨_,rfl⟩
theorem Zt4:Zbi X (.type "int") (fun xs H Q=>(∃i,xs=[.int i]∧Q (.int i) H)∨∃k,xs=[.bl k]∧Q (.int (if k then 1 else 0)) H):=by
 intro pins s σ H xs us Q I r h
 rcases h with⟨i,rfl,q⟩ | ⟨k,rfl,q⟩
 ·obtain⟨u,rfl,t,rfl⟩:=vals1 r
  exact call_int_int ⟨.int i,H,I,⟨_,rfl⟩,q⟩
 ·obtain⟨u,rfl,r1⟩:=vals1 r
  cases r1
  exact call_int_bool ⟨.int (if k then 1 else 0),H,I.tok _,⟨_,rfl⟩,q⟩
theorem Znt:Zbi X (.type "str") (fun xs H Q=>∃i,xs=[.int i]∧i.natAbs.log2<1920∧Q (.str (toString i)) H):=by
 intro pins s σ H xs us Q I r h
 obtain⟨i,rfl,hz,q⟩:=h
 obtain⟨u,rfl,t,rfl⟩:=vals1 r
 exact PySem.P.str_of_int hz ⟨.str _,H,I.tok _,⟨_,rfl⟩,q⟩
def LenV (K:W.Frag)(x:V)(H:Hp)(n:Nat):Prop:=
 match x with
 | .str y=>y.length≤sizeLine∧n=y.length
 | .byt y=>y.size≤sizeLine∧n=y.size
 | .ref p=>(∃xs,SqL K H p xs∧n=xs.length)∨∃xs,SqT K H p xs∧n=xs.length
 | _=>False
end
structure ObjM (h:Heap)(x dx C:Addr)(mA:Str→Option Value):Prop where
 obj:h.get? x=some (W.instObj C dx)
 ns:h.Ns1 dx mA
 ne:dx≠x
theorem Ztm {h:Heap}{dx:Addr}{mA:Str→Option Value}(n:h.Ns1 dx mA):∃od,h.get? dx=some od∧∀name,W.lookIn name od=some (mA name):=by
 obtain⟨o,es,ep,ho,hd,hk,_,hm⟩:=n
 refine⟨o,ho,fun name=>?_⟩
 have e:=hm name
 unfold nsFind findBy at e
 rw[←Array.find?_toList] at e
 unfold W.lookIn
 rw[hd]
 dsimp only
 split
 ·rename_i y q
  rw[q] at e
  exact congrArg some e
 ·rename_i q
  rw[q] at e
  have a:es.toList.any (·.refKey)=false:=by
   rw[List.any_eq_false]
   intro y hy
   obtain⟨z,t,hkey⟩:=hk y (Array.mem_toList_iff.mp hy)
   simp[DictEntry.refKey,hkey]
  have a':¬es.toList.any (·.refKey)=true:=by rw[a];exact YJ
  rw[XX a']
  exact congrArg some e
theorem ObjM.look {h:Heap}{x dx C:Addr}{mA:Str→Option Value}(I:ObjM h x dx C mA):∃od,W.InstAt h x (W.instObj C dx) C (some od)∧∀name,W.lookIn name od=some (mA name):=
 let ⟨od,ho,hl⟩:=Ztm I.ns
 ⟨od,⟨I.obj,rfl,rfl,ho⟩,hl⟩
section
variable {prog:Program}{w:World}{A:Around}{E:Value→Shared→Prop}{s:Shared}{K:W.Frag}{x dx C f:Addr}{mA:Str→Option Value}{name:Str}{v:Value}
theorem Zz5 {expr:Bool}{Q:Value→Shared→Prop}(X:K.In s.heap)(I:ObjM s.heap x dx C mA)(hg:W.plainGet K C name=true)(hh:W.hasDictIn K C=true)
  (ha:W.findIn K (.ref C) name=some none) (hv:mA name=some v) (hv':W.handedIn v=true) (h:Q v {s with toks:=s.toks+1}):
  wpAny (model prog w) A (getAttr (.ref x) name expr) Q E s:=by
 obtain⟨od,J,hl⟩:=I.look
 exact W.get_value X J (W.plainGet_of hg).1 (W.findObj_own hh ha rfl (by rw[hl,hv])) hv' h
theorem Zw1 {pl:Sem Bool}{Q:Value×List Value→Shared→Prop}(X:K.In s.heap)(I:ObjM s.heap x dx C mA)(hg:W.plainGet K C name=true)
  (hf:W.findIn K (.ref C) name=some (some (.ref f))) (ht:W.isFn K (.ref f)=true) (hv:mA name=none) (h:Q (.ref f,[.ref x]) s):
  wpAny (model prog w) A (getMethod (.ref x) name pl) Q E s:=by
 obtain⟨od,J,hl⟩:=I.look
 exact W.method_fn X J (W.plainGet_of hg).1 (W.plainGet_of hg).2 hf (beq_iff_eq.mp ht) (by show(W.lookIn name od).map (·.isSome)=some false;rw[hl,hv];rfl) h
theorem Zyg {ns:List Str}{Q:Unit→Shared→Prop}(X:K.In s.heap)(I:ObjM s.heap x dx C mA)
  (hs:W.findIn K (.ref C) "__setattr__"=some (some (.builtin "object.__setattr__"))) (hp:W.plainOver K C=true) (ht:W.takerIn K C name=some none) (hh:W.hasDictIn K C=true)
  (hw:PySem.Within mA ns) (hsz:ns.length≤sizeLine)
  (h:∀h',ObjM h' x dx C (fun y=>if y=name then some v else mA y)→Heap.SameBut dx s.heap h'→Q () {s with heap:=h',toks:=s.toks+2}):
  wpAny (model prog w) A (setAttr (.ref x) name v) Q E s:=by
 obtain⟨od,J,hl⟩:=I.look
 refine W.set_plain X J hs (W.osa_open (s:={s with toks:=s.toks+1}) (r:=none) X J hp ht fun b=>?_)
 obtain⟨cd,hc,hd'⟩:=W.any_some hh
 have hx:s.heap.get? x=some ⟨.ref C,some dx,.plain,#[]⟩:=I.obj
 refine XA (XB (XA (XA (wpAny_loadPart hx (XA (W.Looks.here (s:={s with toks:=s.toks+1}) (W.looks_clsIn X hc) ?_))))))
 rw[hd']
 refine XB (a:=some dx) (XA (XB (XA ?_)))
 refine wpAny_nsSet1 (s:={s with toks:=s.toks+1}) I.ns fun h' hn2 hs2=>?_
 obtain⟨oD,esD,epD,hoD,hdD,hcD⟩:=hn2.count (PySem.Within.cons name v hw)
 refine XA (wpAny_lookBehind hoD (by rw[hdD];exact pastItsLine_dict (XN hcD (by rw[YF];omega))) ?_)
 exact XB (h _ ⟨(hs2.2 _ (Ne.symm I.ne)).trans I.obj,hn2,I.ne⟩ hs2)
theorem Zwd {R:Result→Shared→Prop}{vs:List Value}{kw:List (Str×Value)}(X:K.In s.heap)(hm:W.makesIn K C=true)
  (hi:W.findIn K (.ref C) "__init__"=some (some (.ref f))) (hf:W.typeIn K (.ref f)=some (.type "function"))
  (h:codeAny (model prog w) (A.under (.builtin "type.__call__" ⟨.ref C::vs,kw⟩)) (.call (.ref f) ⟨.ref (s.heap.objs.size+1)::vs,kw⟩) (W.InitBack (s.heap.objs.size+1) R)
   {s with heap:=(s.heap.push W.emptyDict).push (W.instObj C s.heap.objs.size)}):
  codeAny (model prog w) A (.call (.ref C) ⟨vs,kw⟩) R s:=by
 obtain⟨hh,g,d,t,os⟩:=s
 exact W.make_core (W.makes_of X hm) (W.looks_findIn X hi) (fun self=>W.bind_fn X self hf) (.inl rfl) h
end
def putF (f:Str)(v:V):List (Str×V)→List (Str×V)
 | []=>[(f,v)]
 | (g,x)::r=>if g=f then(g,v)::r else(g,x)::putF f v r
theorem Zii (f g:Str)(v:V):∀fs:List (Str×V),(putF f v fs).lookup g=if g=f then some v else fs.lookup g
 | []=>by
  show List.lookup g [(f,v)]=_
  by_cases h:g=f
  ·have hb:(g==f)=true:=beq_iff_eq.mpr h
   simp only[List.lookup,hb,if_pos h]
  ·have hb:(g==f)=false:=beq_eq_false_iff_ne.mpr h
   simp only[List.lookup,hb,if_neg h]
 | (k,x)::r=>by
  have ih:=Zii f g v r
  rw[show putF f v ((k,x)::r)=(if k=f then(k,v)::r else(k,x)::putF f v r) from rfl]
  by_cases hk:k=f
  ·rw[XY hk]
   by_cases h:g=k
   ·have hb:(g==k)=true:=beq_iff_eq.mpr h
    simp only[List.lookup,hb,if_pos (h.trans hk)]
   ·have hb:(g==k)=false:=beq_eq_false_iff_ne.mpr h
    simp only[List.lookup,hb,if_neg (fun e:g=f=>h (e.trans hk.symm))]
  ·rw[XX hk]
   by_cases h:g=k
   ·have hb:(g==k)=true:=beq_iff_eq.mpr h
    simp only[List.lookup,hb,if_neg (fun e:g=f=>hk (h.symm.trans e))]
   ·have hb:(g==k)=false:=beq_eq_false_iff_ne.mpr h
    simp only[List.lookup,hb]
    exact ih
theorem Zh3 (f:Str)(v:V):∀fs:List (Str×V),f∈(putF f v fs).map (·.1)∧∀g,g∈fs.map (·.1)→g∈(putF f v fs).map (·.1)
 | []=>⟨by simp[putF],fun g h=>by simp at h⟩
 | (k,x)::r=>by
  obtain⟨i1,i2⟩:=Zh3 f v r
  rw[show putF f v ((k,x)::r)=(if k=f then(k,v)::r else(k,x)::putF f v r) from rfl]
  by_cases hk:k=f
  ·rw[XY hk]
   subst hk
   exact⟨by simp,fun g h=>by simpa using h⟩
  ·rw[XX hk]
   refine⟨?_,fun g h=>?_⟩
   ·rw[YI]
    exact XV _ i1
   ·rw[YI] at h ⊢
    rcases List.mem_cons.mp h with e | e
    ·exact List.mem_cons.mpr (.inl e)
    ·exact XV _ (i2 g e)
theorem Zik (f:Str)(v:V):∀fs:List (Str×V),(putF f v fs).length≤fs.length+1
 | []=>by simp[putF]
 | (k,x)::r=>by
  have ih:=Zik f v r
  rw[show putF f v ((k,x)::r)=(if k=f then(k,v)::r else(k,x)::putF f v r) from rfl]
  by_cases hk:k=f
  ·rw[XY hk,YF,YF];omega
  ·rw[XX hk,YF,YF];omega
theorem RelO.some_of {v:V}{o:Option Value}(r:RelO (some v) o):∃u,o=some u∧Yg v u:=by
 cases o with
 | none=>exact(show False from r).elim
 | some u=>exact⟨u,rfl,r⟩
theorem RelO.none_of {o:Option Value}(r:RelO none o):o=none:=by
 cases o with
 | none=>rfl
 | some u=>exact(show False from r).elim
theorem Zty {v:V}{u:Value}(r:Yg v u):W.handedIn u=true:=by
 cases v with
 | non=>cases (show u=Value.none from r);rfl
 | bl b=>cases (show u=Value.bool b from r);rfl
 | int i=>obtain⟨t,e⟩:=(show ∃t,u=Value.int i t from r);cases e;rfl
 | str x=>obtain⟨t,e⟩:=(show ∃t,u=Value.str x t from r);cases e;rfl
 | byt b=>obtain⟨t,e⟩:=(show ∃t,u=Value.bytes b t from r);cases e;rfl
 | flt b=>obtain⟨t,e⟩:=(show ∃t,u=Value.float b t from r);cases e;rfl
 | ref a=>cases (show u=Value.ref a from r);rfl
 | ty n=>cases (show u=Value.type n from r);rfl
section
variable {P:Program}{w:World}{H H':Hp}{h h':Heap}{a C dx:Addr}{fs fs':List (Str×V)}
theorem Zix (hok:HOk P w H h)(e:H a=some (.ins C dx fs)):∃mA,ObjM h a dx C mA∧(∀f,RelO (fs.lookup f) (mA f))∧PySem.Within mA (fs.map (·.1))∧fs.length≤1000∧H dx=some (.own a):=by
 obtain⟨d,z,ne,ob,mA,n,r,q⟩:=(show Xl P w H h a (.ins C dx fs) from hok a _ e)
 exact⟨mA,⟨ob,n,ne⟩,r,q,z,d⟩
end
structure Cls (K:W.Frag)(C:Addr):Prop where
 pg:W.plainGet K C Str.empty=true
 hd:W.hasDictIn K C=true
 po:W.plainOver K C=true
 sa:W.findIn K (.ref C) "__setattr__"=some (some (.builtin "object.__setattr__"))
theorem Cls.get {K:W.Frag}{C:Addr}(c:Cls K C)(f:Str):W.plainGet K C f=true:=c.pg
def Zec (K:W.Frag)(C:Addr)(f:Str):Prop:=W.findIn K (.ref C) f=some none
theorem Zec.taker {K:W.Frag}{C:Addr}{f:Str}(n:Zec K C f):W.takerIn K C f=some none:=by
 unfold W.takerIn
 rw[show W.findIn K (.ref C) f=some none from n]
 rfl
structure Con (K:W.Frag)(C:Addr)(f:Str)(v:V)(u:Value):Prop where
 at_:W.findIn K (.ref C) f=some (some u)
 rel:Yg v u
 get:W.specialIn K u "__get__"=some none
 cp:W.copiedNames.contains f=false
structure Meth (K:W.Frag)(C:Addr)(m:Str)(f:Addr):Prop where
 at_:W.findIn K (.ref C) m=some (some (.ref f))
 fn:W.isFn K (.ref f)=true
 kp:W.keepIn K (.ref f)=true
section
variable {X:Cx}{pins:List (Addr×Obj)}{σ:St}{H:Hp}{s:Shared}{a C dx:Addr}{fs:List (Str×V)}{f:Str}{v:V}{A:Around}{E:Value→Shared→Prop}
theorem Zq9 {b:Bool}{Q:Value→Shared→Prop}(I:Inv X pins σ H s)(e:H a=some (.ins C dx fs))(c:Cls X.K C)(n:Zec X.K C f)(l:fs.lookup f=some v)
  (h:∀u s',Inv X pins σ H s'→Yg v u→Q u s'):wpAny (model X.prog X.w) A (getAttr (.ref a) f b) Q E s:=by
 obtain⟨mA,O,r,_,_,_⟩:=Zix I.hok e
 obtain⟨u,hu,ru⟩:=RelO.some_of (v:=v) (o:=mA f) (by rw[←l];exact r f)
 exact Zz5 I.kIn O (c.get f) c.hd n hu (Zty ru) (h u _ (I.tok _) ru)
theorem Zj4 {m:Str}{g:Addr}{pl:Sem Bool}{Q:Value×List Value→Shared→Prop}(I:Inv X pins σ H s)(e:H a=some (.ins C dx fs))(c:Cls X.K C)(k:Meth X.K C m g)(l:fs.lookup m=none)
  (h:Q (.ref g,[.ref a]) s):wpAny (model X.prog X.w) A (getMethod (.ref a) m pl) Q E s:=by
 obtain⟨mA,O,r,_,_,_⟩:=Zix I.hok e
 have hn:mA m=none:=RelO.none_of (by rw[←l];exact r m)
 exact Zw1 I.kIn O (c.get m) k.at_ k.fn hn h
theorem Zqb {y:V}{u:Value}{Q:Unit→Shared→Prop}(I:Inv X pins σ H s)(e:H a=some (.ins C dx fs))(c:Cls X.K C)(n:Zec X.K C f)(hl:fs.length<1000)(ry:Yg y u)
  (h:∀s',Inv X pins σ (upd H a (.ins C dx (putF f y fs))) s'→Q () s'):wpAny (model X.prog X.w) A (setAttr (.ref a) f u) Q E s:=by
 obtain⟨mA,O,r,wi,_,ho⟩:=Zix I.hok e
 have hz:(fs.map (·.1)).length≤sizeLine:=by rw[XI,sizeLine_eq];omega
 refine Zyg I.kIn O c.sa c.po n.taker c.hd wi hz fun h' O' sb=>h _ ?_
 have hd:∃o,h'.get? dx=some o:=let ⟨o,_,_,e',_⟩:=O'.ns;⟨o,e'⟩
 refine I.write (x:=a) (e:=dx) (by rw[e];exact True.intro) (.inr ho) (fun b q hb z=>(sb.2 b hb).trans z) hd ?_
 refine⟨by rw[Yc O.ne];exact ho,?_,O.ne,O'.obj,_,O'.ns,fun g=>?_,fun g hg=>?_⟩
 ·have:=Zik f y fs;omega
 ·show RelO ((putF f y fs).lookup g) (if g=f then some u else mA g)
  rw[Zii]
  by_cases q:g=f
  ·rw[XY q,XY q];exact ry
  ·rw[XX q,XX q];exact r g
 ·by_cases q:g=f
  ·rw[q];exact(Zh3 f y fs).1
  ·refine(Zh3 f y fs).2 g (wi g fun z=>hg ?_)
   show(if g=f then some u else mA g)=none
   rw[XX q];exact z
theorem Inv.made (I:Inv X pins σ H s):Inv X pins σ (upd (upd H s.heap.objs.size (.own (s.heap.objs.size+1))) (s.heap.objs.size+1) (.ins C s.heap.objs.size []))
  {s with heap:=(s.heap.push W.emptyDict).push (W.instObj C s.heap.objs.size)}:=by
 have e1:(s.heap.push W.emptyDict).get? s.heap.objs.size=some W.emptyDict:=XF s.heap rfl
 have e2:((s.heap.push W.emptyDict).push (W.instObj C s.heap.objs.size)).get? (s.heap.objs.size+1)=some (W.instObj C s.heap.objs.size):=by
  have:=XF (s.heap.push W.emptyDict) (o:=W.instObj C s.heap.objs.size) rfl
  rwa [Heap.size_push] at this
 have e3:(s.heap.push W.emptyDict).Ns s.heap.objs.size (fun _=>none):=⟨W.emptyDict,#[],_,e1,rfl,(fun e he=>absurd he (by simp)),fun _=>rfl⟩
 have I1:=I.laid (a:=s.heap.objs.size) (o:=.own (s.heap.objs.size+1)) (h':=s.heap.push W.emptyDict) (t':=s.toks) (fun b u q=>XC _ q) (XE _) ⟨_,e1⟩
 refine I1.laid (a:=s.heap.objs.size+1) (o:=.ins C s.heap.objs.size []) (t':=s.toks) (fun b u q=>XC _ q) (Nat.le_of_eq (Heap.size_push _ _)) ?_
 have ne:s.heap.objs.size≠s.heap.objs.size+1:=XH (Nat.lt_succ_self _)
 refine⟨by rw[Yc ne,Yo],XO _,ne,e2,fun _=>none,(Heap.Ns1.of_empty e3).at fun o q=>XC _ q,fun _=>True.intro,fun y hy=>absurd rfl hy⟩
theorem Z0u {prog:Program}{w:World}{env:Env}{e:Expr}{f:Str}{pos:Pos}{s:Shared}{Q:Value→Shared→Prop}(hb:attributeBase e f env (eval e env)=eval e env)
  (h:wpAny (model prog w) A (eval e env) (fun o s₁=>wpAny (model prog w) A (getAttr o f true) Q E s₁) E s):wpAny (model prog w) A (eval (.Attribute e f pos) env) Q E s:=
 Attribute_any_ h (by rw[arm_eval_Attribute,hb])
end
def tFld (K:W.Frag)(ta:TE)(f:Str):TE:=fun σ H Q=>ta σ H fun x H1=>∃a C dx fs v,x=.ref a∧H1 a=some (.ins C dx fs)∧Cls K C∧Zec K C f∧fs.lookup f=some v∧Q v H1
def tCon (K:W.Frag)(ta:TE)(f:Str):TE:=fun σ H Q=>ta σ H fun x H1=>∃a C dx fs v u,x=.ref a∧H1 a=some (.ins C dx fs)∧Cls K C∧Con K C f v u∧fs.lookup f=none∧Q v H1
def sFld (K:W.Frag)(ta tv:TE)(f:Str):TS:=fun D σ H=>tv σ H fun y H1=>ta σ H1 fun x H2=>∃a C dx fs,x=.ref a∧H2 a=some (.ins C dx fs)∧Cls K C∧Zec K C f∧fs.length<1000∧
 D.nx σ (upd H2 a (.ins C dx (putF f y fs)))
def InOp (X:Cx)(op:Operator)(rd:V→V→Hp→VK→Prop):Prop:=
 ∀(pins:List (Addr×Obj)) (s:Shared) (σ:St) (H:Hp) (x y:V) (u v:Value) (Q:VK),Inv X pins σ H s→Yg x u→Yg y v→rd x y H Q→wpAny (model X.prog X.w) X.A (inplaceOp op u v) (EP X pins σ Q) X.xe s
def sFldAug (K:W.Frag)(ta tv:TE)(rd:V→V→Hp→VK→Prop)(f:Str):TS:=fun D σ H=>ta σ H fun x H1=>∃a C dx fs v,x=.ref a∧H1 a=some (.ins C dx fs)∧Cls K C∧Zec K C f∧fs.lookup f=some v∧
 tv σ H1 fun y H2=>rd v y H2 fun z H3=>∃dx' fs',H3 a=some (.ins C dx' fs')∧fs'.length<1000∧D.nx σ (upd H3 a (.ins C dx' (putF f z fs')))
section
variable {X:Cx}{o e value:Expr}{f:Str}{pos pos' tpos:Pos}{ta tv:TE}
theorem Z2p (he:PE X e ta)(hb:attributeBase e f X.env (eval e X.env)=eval e X.env):PE X (.Attribute e f pos) (tFld X.K ta f):=by
 intro pins s σ H Q I h
 refine Z0u hb (thn (he pins s σ H _ I h) fun u s1 ⟨x,H1,I1,rx,a,C,dx,fs,v,ex,ea,c,n,l,q⟩=>?_)
 subst ex
 obtain rfl:u=Value.ref a:=rx
 exact Zq9 I1 ea c n l fun u' s2 I2 ru=>⟨v,H1,I2,ru,q⟩
theorem Z2b (ha:PE X o ta)(hv:PE X value tv)(hs:swapsWith value (some (.Attribute o f pos')) pos.line X.env=pure false):PS X (.Assign [.Attribute o f pos'] value pos) (sFld X.K ta tv f):=by
 intro pins s σ H D I h
 refine plainObj_wpAny_Assign_Attribute (thn (hv pins s σ H _ I h) fun u s1 ⟨y,H1,I1,ry,q⟩=>thn (ha pins s1 σ H1 _ I1 q) fun ov s2 ⟨x,H2,I2,rx,a,C,dx,fs,ex,ea,c,n,l,q2⟩=>?_) hs
 subst ex
 obtain rfl:ov=Value.ref a:=rx
 exact Zqb I2 ea c n l ry fun s3 I3=>⟨σ,_,I3,q2⟩
end
section
variable {X:Cx}{pins:List (Addr×Obj)}{σ:St}{H:Hp}{s:Shared}{A:Around}{E:Value→Shared→Prop}{Q:Value→Shared→Prop}{c:Value}{b:Bool}
inductive TyOf (K:W.Frag)(H:Hp):V→Value→Prop where
 | non:TyOf K H .non (.type "NoneType")
 | bl (x:Bool):TyOf K H (.bl x) (.type "bool")
 | int (i:Int):TyOf K H (.int i) (.type "int")
 | str (x:Str):TyOf K H (.str x) (.type "str")
 | flt (x:UInt64):TyOf K H (.flt x) (.type "float")
 | lst {a:Addr} {xs:List V} (e:H a=some (.lst xs)):TyOf K H (.ref a) (.type "list")
 | frz {a:Addr} {o:Obj} {xs:List V} (e:H a=some (.frz o (.lst xs))):TyOf K H (.ref a) (.type "list")
 | tup {a:Addr} {xs:List V} (e:H a=some (.tup xs)):TyOf K H (.ref a) (.type "tuple")
 | dK {a:Addr} {kvs:List (Key×V)} (e:H a=some (.dK kvs)):TyOf K H (.ref a) (.type "dict")
 | dT {a:Addr} {kvs:List (List Key×V)} (e:H a=some (.dT kvs)):TyOf K H (.ref a) (.type "dict")
 | ins {a C dx:Addr} {fs:List (Str×V)} (e:H a=some (.ins C dx fs)) (cl:Cls K C) (ha:W.findIn K (.ref C) "__class__"=some (some (.builtin "object.__class__")))
   (hn:W.specialIn K (.builtin "object.__class__") "__get__"=some (some (.builtin "getset_descriptor.__get__"))) (htk:W.takesIn K (.builtin "object.__class__")=some true)
   (hm:W.mroIn K C (.type "object")=some true):TyOf K H (.ref a) (.ref C)
theorem Zcn {x:V}{u t:Value}(I:Inv X pins σ H s)(rx:Yg x u)(ty:TyOf X.K H x t)(e:W.kitOne X.K t c=some b)(h:∀tk,Q (.bool b) {s with toks:=tk}):
  wpAny (model X.prog X.w) A (call (.builtin "isinstance") [u,c]) Q E s:=by
 cases ty with
 | non=>cases (show u=Value.none from rx);exact W.kia_one W.kitx_none I.kIn True.intro e (fun z=>nomatch z) h
 | bl y=>cases (show u=Value.bool y from rx);exact W.kia_one W.kitx_bool I.kIn True.intro e (fun z=>nomatch z) h
 | int i=>obtain⟨t,q⟩:=(show ∃t,u=Value.int i t from rx);cases q;exact W.kia_one W.kitx_int I.kIn True.intro e (fun z=>nomatch z) h
 | str y=>obtain⟨t,q⟩:=(show ∃t,u=Value.str y t from rx);cases q;exact W.kia_one W.kitx_str I.kIn True.intro e (fun z=>nomatch z) h
 | flt y=>obtain⟨t,q⟩:=(show ∃t,u=Value.float y t from rx);cases q;exact W.kia_one W.kitx_float I.kIn True.intro e (fun z=>nomatch z) h
 | @lst a xs ea=>
  cases (show u=Value.ref a from rx)
  obtain⟨_,_,n,_,h1⟩:=(show Xl X.prog X.w H s.heap a (.lst xs) from I.hok a _ ea)
  exact W.kia_one W.kitx_list I.kIn ⟨_,h1,rfl⟩ e (fun z=>nomatch z) h
 | @frz a ob xs ea=>
  cases (show u=Value.ref a from rx)
  obtain⟨_,_,_,n,_,h1⟩:=(show Xl X.prog X.w H s.heap a (.frz ob (.lst xs)) from I.hok a _ ea)
  exact W.kia_one W.kitx_list I.kIn ⟨_,h1,rfl⟩ e (fun z=>nomatch z) h
 | @tup a xs ea=>
  cases (show u=Value.ref a from rx)
  obtain⟨_,_,_,p⟩:=(show Xl X.prog X.w H s.heap a (.tup xs) from I.hok a _ ea)
  obtain⟨o,h1,h2,_⟩:=p
  exact W.kia_one W.kitx_tuple I.kIn ⟨o,h1,h2⟩ e (fun z=>nomatch z) h
 | @dK a kvs ea=>
  cases (show u=Value.ref a from rx)
  obtain⟨_,_,vs,_,p⟩:=(show Xl X.prog X.w H s.heap a (.dK kvs) from I.hok a _ ea)
  obtain⟨o,es,ep,h1,h2,_⟩:=p
  exact W.kia_one W.kitx_dict I.kIn ⟨o,h1,h2.1⟩ e (fun z=>nomatch z) h
 | @dT a kvs ea=>
  cases (show u=Value.ref a from rx)
  obtain⟨_,_,xs,_,o,es,ep,h1,h2,_⟩:=(show Xl X.prog X.w H s.heap a (.dT kvs) from I.hok a _ ea)
  exact W.kia_one W.kitx_dict I.kIn ⟨o,h1,h2.1⟩ e (fun z=>nomatch z) h
 | @ins a C dx fs ea cl ha hn htk hm=>
  cases (show u=Value.ref a from rx)
  obtain⟨mA,O,_⟩:=Zix I.hok ea
  obtain⟨od,J,_⟩:=O.look
  exact W.kia_one (W.kitx_own (cl.get _) cl.hd ha hn htk hm) I.kIn J e (fun z=>nomatch z) h
end
structure Room (k:Nat)(A:Around):Prop where
 hd:A.handled=none
 dp:A.depth+3*k+5<recursionLimit
 un:A.units+16*k+200<cLine
theorem Room.deeper {k:Nat}{A:Around}(r:Room (k+1) A)(env:Env):Room k (A.deeper env):=
 ⟨r.hd,by have:=r.dp;show A.depth+1+3*k+5<_;omega,by have:=r.un;show A.units+3+16*k+200<_;omega⟩
theorem Zqy {A:Around}{C:Addr}{us:List Value}{kw:List (Str×Value)}:(A.under (.builtin "type.__call__" ⟨.ref C::us,kw⟩)).depth=A.depth+1:=by
 first | rfl | simp[Around.under,Code.weight,Code.isCreation,Code.isGuard,Code.isCaller,Code.frames,Code.isFrame,guardIds]
theorem Zqx {A:Around}{C:Addr}{us:List Value}{kw:List (Str×Value)}:(A.under (.builtin "type.__call__" ⟨.ref C::us,kw⟩)).units=A.units+1:=by
 first | rfl | simp[Around.under,Code.cUnits,Code.frames,Code.isFrame]
theorem Room.make {k:Nat}{A:Around}(r:Room (k+1) A)(C:Addr)(us:List Value)(kw:List (Str×Value)):Room k (A.under (.builtin "type.__call__" ⟨.ref C::us,kw⟩)):=
 ⟨r.hd,by have:=r.dp;rw[Zqy];omega,by have:=r.un;rw[Zqx];omega⟩
theorem Room.depth {k:Nat}{A:Around}(r:Room k A):A.depth<recursionLimit:=by have:=r.dp;omega
def tNil:TA:=fun _ H Q=>Q [] H
def Zup (ta:TE)(tr:TA):TA:=fun σ H Q=>ta σ H fun x H1=>tr σ H1 fun xs H2=>Q (x::xs) H2
section
variable {X:Cx}{e:Expr}{es:List Expr}{te:TE}{t:TA}{pos:Pos}
theorem Zqo:PA X [] tNil:=fun _ _ _ _ H Q I h=>Calls.spliced_nil ⟨[],H,I,.nil,h⟩
theorem Ziu (ha:PE X e te)(hr:PA X es t)(hs:starEach (e::es) X.env=(false,eval e X.env)::starEach es X.env:=by rfl):PA X (e::es) (Zup te t):=by
 intro pos pins s σ H Q I h
 rw[hs]
 show wpAny _ _ (spliced ((false,eval e X.env)::backTo pos (starEach es X.env))) _ _ s
 refine Calls.spliced_cons (thn (ha pins s σ H _ I h) fun u s1 ⟨x,H1,I1,r1,q1⟩=>?_)
 exact thn (hr pos pins s1 σ H1 _ I1 q1) fun us s2 ⟨xs,H2,I2,r2,q2⟩=>⟨x::xs,H2,I2,.cons r1 r2,q2⟩
def tTup (t:TA):TE:=fun σ H Q=>t σ H fun xs H1=>xs.length≤sizeLine∧∀p,H1 p=none→Q (.ref p) (upd H1 p (.tup xs))
def tLst (t:TA):TE:=fun σ H Q=>t σ H fun xs H1=>xs.length≤sizeLine∧∀p,H1 p=none→Q (.ref p) (upd H1 p (.lst xs))
theorem Z2j {x1}(h:PA X es t):PE X (.Tuple es x1 pos) (tTup t):=by
 intro pins s σ H Q I hq
 refine wpAny_Tuple_spliced (thn (h pos pins s σ H _ I hq) fun us s1 ⟨xs,H1,I1,r,z,q⟩=>⟨by rw[←r.length];exact z,?_⟩)
 have hf:H1 s1.heap.objs.size=none:=I1.hok.fresh (XE _)
 refine⟨.ref s1.heap.objs.size,upd H1 s1.heap.objs.size (.tup xs),I1.laid (t':=s1.toks) (fun b u e=>XC _ e) (XE _) ?_,rfl,q _ hf⟩
 exact⟨z,us,r,⟨_,XF _ rfl,rfl,_,rfl⟩⟩
theorem Z2o (h:PA X es t):PE X (.List es pos) (tLst t):=by
 intro pins s σ H Q I hq
 refine wpAny_List_spliced (thn (h pos pins s σ H _ I hq) fun us s1 ⟨xs,H1,I1,r,z,q⟩=>⟨by rw[←r.length];exact z,?_⟩)
 have hf:H1 s1.heap.objs.size=none:=I1.hok.fresh (XE _)
 refine⟨.ref s1.heap.objs.size,upd H1 s1.heap.objs.size (.lst xs),I1.laid (t':=s1.toks) (fun b u e=>XC _ e) (XE _) ?_,rfl,q _ hf⟩
 exact⟨z,us,0,r,XF _ rfl⟩
end
abbrev Sp:=List V→Hp→VK→XK→Prop
abbrev CXT:=List Env→Hp→Shared→XK→Value→Shared→Prop
structure Env0 (P:Program)(w:World)(K:W.Frag)(mg:Str→Option Value)(base:Heap)(A:Around)(outer:List Env)(s:Shared)(H:Hp):Prop where
 frames:A.frames=some outer
 mod:Mod K mg base
 bs:∀b o,base.get? b=some o→s.heap.get? b=some o∧H b=none
 bsz:base.objs.size≤s.heap.objs.size
 funs:s.heap.FunFrames base outer
 frf:∀b∈frs outer,H b=none
 hok:HOk P w H s.heap
 bare:AllBare s.gens
def CE (outer:List Env)(P:Program)(w:World)(H:Hp)(s:Shared)(Q:VK)(u:Value)(s':Shared):Prop:=
 ∃v H',s'.os=s.os∧AllBare s'.gens∧Un (frs outer) [] H H' s.heap s'.heap∧HOk P w H' s'.heap∧Yg v u∧Q v H'
def CR (CX:CXT)(outer:List Env)(P:Program)(w:World)(H:Hp)(s:Shared)(Q:VK)(E:XK)(r:Result)(s':Shared):Prop:=
 match r with
 | .ok (.ret u)=>CE outer P w H s Q u s'
 | .ok _=>False
 | .error e=>CX outer H s E e s'
structure FnOk (P:Program)(w:World)(K:W.Frag)(mg:Str→Option Value)(base:Heap)(CX:CXT)(k:Nat)(f:Addr)(fd:FuncData)(ps:List Str)(sp:Sp):Prop where
 len:∀vs H Q E,sp vs H Q E→vs.length=ps.length
 run:∀(A:Around) (outer:List Env) (s:Shared) (H:Hp) (args:Args) (us:List Value) (vs:List V) (Q:VK) (E:XK),Room k A→Env0 P w K mg base A outer s H→BindsTo s fd args (ps.zip us)→Vals vs us→sp vs H Q E→
  codeAny (model P w) A (.call (.ref f) args) (CR CX outer P w H s Q E) s
theorem Env0.make {P:Program}{w:World}{K:W.Frag}{mg:Str→Option Value}{base:Heap}{A:Around}{outer:List Env}{s:Shared}{H:Hp}(e:Env0 P w K mg base A outer s H)(C:Addr)(us:List Value)(kw:List (Str×Value)):
  Env0 P w K mg base (A.under (.builtin "type.__call__" ⟨.ref C::us,kw⟩)) outer s H:=⟨by first | exact e.frames | (simpa[Around.under,Code.envs,Code.isFrame,pushEnvs] using e.frames),e.mod,e.bs,e.bsz,e.funs,e.frf,e.hok,e.bare⟩
section
variable {X:Cx}{pins:List (Addr×Obj)}{σ:St}{H:Hp}{s s':Shared}
theorem Inv.env0 (I:Inv X pins σ H s):Env0 X.prog X.w X.K X.mg X.base X.A X.stack s H:=
 ⟨I.ok.frames,I.ok.mod,I.bs,XN I.ok.bsz I.sz,I.stack,I.stkFree,I.hok,I.bare⟩
theorem Inv.after {Q:VK}{u:Value}(I:Inv X pins σ H s)(h:CE X.stack X.prog X.w H s Q u s'):EP X pins σ Q u s':=by
 obtain⟨v,H',os,bare,un,hok,r,q⟩:=h
 obtain⟨hh,g,d,t,os'⟩:=s'
 obtain rfl:os'=s.os:=os
 exact⟨v,H',I.call (h':=hh) (g':=g) (d':=d) (t':=t) (ch:=[]) un hok bare (fun b z=>absurd z (by simp)),r,q⟩
end
def Zur (sp:Sp)(dvs:List V)(E:XK)(t:TA):TE:=fun σ H Q=>t σ H fun vs H1=>sp (vs++dvs) H1 Q E
def tMeth (C:Addr)(m:Str)(sp:Sp)(dvs:List V)(E:XK)(ta:TE)(t:TA):TE:=fun σ H Q=>ta σ H fun x H1=>∃a dx fs,x=.ref a∧H1 a=some (.ins C dx fs)∧fs.lookup m=none∧
 t σ H1 fun vs H2=>sp (x::(vs++dvs)) H2 Q E
def tMake (C:Addr)(sp:Sp)(dvs:List V)(E:XK)(t:TA):TE:=fun σ H Q=>t σ H fun vs H1=>∀x dx,H1 x=none→H1 dx=none→dx≠x→
 sp (.ref x::(vs++dvs)) (upd (upd H1 dx (.own x)) x (.ins C dx [])) (fun v H2=>v=.non∧Q (.ref x) H2) E
def Binds (K:W.Frag)(fd:FuncData)(ps:List Str)(ds:List Value):Prop:=
 ∀(s:Shared) (us:List Value),K.In s.heap→(us++ds).length=ps.length→BindsTo s fd ⟨us,[]⟩ (ps.zip (us++ds))
theorem Binds.all {K:W.Frag}{fd:FuncData}{ps:List Str}(h:∀us:List Value,us.length=ps.length→bindArgs fd ⟨us,[]⟩=pure (ps.zip us)):Binds K fd ps []:=fun s us _ hl=>by
 rw[YK] at hl ⊢
 exact .of_eq (h us hl)
def Passes (CX:CXT)(X:Cx)(E:XK):Prop:=∀(pins:List (Addr×Obj)) (σ:St) (H:Hp) (s:Shared) (e:Value) (s':Shared),Inv X pins σ H s→CX X.stack H s E e s'→X.xe e s'
section
variable {X:Cx}{CX:CXT}{k:Nat}{f C:Addr}{fd:FuncData}{ps:List Str}{sp:Sp}{dvs:List V}{ds:List Value}{E:XK}{x m:Str}{p pos apos:Pos}{e o:Expr}{es:List Expr}{ta:TE}{t:TA}
theorem Zmm {pins:List (Addr×Obj)}{σ:St}{H:Hp}{s:Shared}{Q:VK}{us:List Value}{vs:List V}(F:FnOk X.prog X.w X.K X.mg X.base CX k f fd ps sp)(hr:Room k X.A)(hb:Binds X.K fd ps ds)(hd:Vals dvs ds)(hx:Passes CX X E)
  (I:Inv X pins σ H s) (r:Vals vs us) (h:sp (vs++dvs) H Q E):wpAny (model X.prog X.w) X.A (call (.ref f) us) (EP X pins σ Q) X.xe s:=by
 have r2:Vals (vs++dvs) (us++ds):=r.append hd
 have hl:(us++ds).length=ps.length:=by rw[←r2.length];exact F.len _ _ _ _ h
 refine wpAny_call (codeAny_mono (F.run X.A X.stack s H ⟨us,[]⟩ (us++ds) (vs++dvs) Q E hr I.env0 (hb s us I.kIn hl) r2 h) fun r s' hq=>?_)
 cases r with
 | error e=>exact hx pins σ H s e s' I hq
 | ok fl=>
  cases fl with
  | ret u=>exact I.after hq
  | next=>exact False.elim hq
  | brk=>exact False.elim hq
  | cont=>exact False.elim hq
theorem Zrz (F:FnOk X.prog X.w X.K X.mg X.base CX k f fd ps sp)(hr:Room k X.A)(hg:Gl X x)(hm:X.mg x=some (.ref f))(hk:W.keepIn X.K (.ref f)=true)(hb:Binds X.K fd ps ds)(hd:Vals dvs ds)(hx:Passes CX X E)
  (ha:PA X (e::es) t) (hdb:(x==("__debug__":Str))=false:=by decide) (he:starEach (e::es) X.env=(false,eval e X.env)::starEach es X.env:=by rfl) (hpl:(backTo pos (starEach es X.env)).any (·.1)=false:=by rfl):
  PE X (.Call (.Name x p) (e::es) [] pos) (Zur sp dvs E t):=by
 intro pins s σ H Q I h
 refine wpAny_Call_Name_kw (Zhe I hg hm ?_ hdb)
 refine W.callWith_K (h₀:=X.base) I.ok.mod.kin hk (thn (ha pos pins s σ H _ I h) fun us s1 ⟨vs,H1,I1,r,q⟩=>⟨I1.kIn,?_⟩) he hpl
 exact Zmm F hr hb hd hx I1 r q
theorem Zv0 (F:FnOk X.prog X.w X.K X.mg X.base CX k f fd ps sp)(hr:Room k X.A)(hg:Gl X x)(hm:X.mg x=some (.ref f))(hk:W.keepIn X.K (.ref f)=true)(hb:Binds X.K fd ps ds)(hd:Vals dvs ds)(hx:Passes CX X E)
  (hdb:(x==("__debug__":Str))=false:=by decide):PE X (.Call (.Name x p) [] [] pos) (Zur sp dvs E tNil):=by
 intro pins s σ H Q I h
 refine wpAny_Call_Name_kw (Zhe I hg hm ?_ hdb)
 exact W.callWith_K0 I.kIn hk (Zmm (us:=[]) F hr hb hd hx I .nil h)
structure Mk (K:W.Frag)(C f:Addr):Prop where
 makes:W.makesIn K C=true
 init:W.findIn K (.ref C) "__init__"=some (some (.ref f))
 fn:W.isFn K (.ref f)=true
 kp:W.keepIn K (.ref C)=true
theorem Zvg {pins:List (Addr×Obj)}{σ:St}{H:Hp}{s:Shared}{Q:VK}{us:List Value}{vs:List V}(M:Mk X.K C f)(F:FnOk X.prog X.w X.K X.mg X.base CX k f fd ps sp)(hr:Room (k+1) X.A)(hb:Binds X.K fd ps ds)(hd:Vals dvs ds)
  (hx:Passes CX X E) (I:Inv X pins σ H s) (r:Vals vs us)
  (h:∀x dx,H x=none→H dx=none→dx≠x→sp (.ref x::(vs++dvs)) (upd (upd H dx (.own x)) x (.ins C dx [])) (fun v H2=>v=.non∧Q (.ref x) H2) E):
  wpAny (model X.prog X.w) X.A (call (.ref C) us) (EP X pins σ Q) X.xe s:=by
 have hq:=h (s.heap.objs.size+1) s.heap.objs.size (I.hok.fresh (Nat.le_succ _)) (I.hok.fresh (XE _)) (XH (Nat.lt_succ_self _))
 have I2:=Inv.made (C:=C) I
 have r2:Vals (V.ref (s.heap.objs.size+1)::(vs++dvs)) (Value.ref (s.heap.objs.size+1)::(us++ds)):=.cons rfl (r.append hd)
 have hl:(Value.ref (s.heap.objs.size+1)::us++ds).length=ps.length:=by
  have e:=r2.length
  rw[F.len _ _ _ _ hq] at e
  exact e.symm
 refine wpAny_call (Zwd (f:=f) I.kIn M.makes M.init (beq_iff_eq.mp M.fn) (codeAny_mono (F.run _ X.stack _ _ ⟨Value.ref (s.heap.objs.size+1)::us,[]⟩ (Value.ref (s.heap.objs.size+1)::(us++ds)) _ _ E (hr.make C us [])
  (I2.env0.make C us []) (hb _ (Value.ref (s.heap.objs.size+1)::us) I2.kIn hl) r2 hq) fun r s' hq'=>?_))
 cases r with
 | error e=>exact hx pins σ _ _ e s' I2 hq'
 | ok fl=>
  cases fl with
  | ret u=>
   obtain⟨v,H',I3,rv,ev,q3⟩:=I2.after hq'
   subst ev
   exact⟨rv,⟨V.ref (s.heap.objs.size+1),H',I3,rfl,q3⟩⟩
  | next=>exact False.elim hq'
  | brk=>exact False.elim hq'
  | cont=>exact False.elim hq'
theorem Zy8 (M:Mk X.K C f)(F:FnOk X.prog X.w X.K X.mg X.base CX k f fd ps sp)(hr:Room (k+1) X.A)(hg:Gl X x)(hm:X.mg x=some (.ref C))(hb:Binds X.K fd ps ds)(hd:Vals dvs ds)(hx:Passes CX X E)
  (ha:PA X (e::es) t) (hdb:(x==("__debug__":Str))=false:=by decide) (he:starEach (e::es) X.env=(false,eval e X.env)::starEach es X.env:=by rfl) (hpl:(backTo pos (starEach es X.env)).any (·.1)=false:=by rfl):
  PE X (.Call (.Name x p) (e::es) [] pos) (tMake C sp dvs E t):=by
 intro pins s σ H Q I h
 refine wpAny_Call_Name_kw (Zhe I hg hm ?_ hdb)
 refine W.callWith_K (h₀:=X.base) I.ok.mod.kin M.kp (thn (ha pos pins s σ H _ I h) fun us s1 ⟨vs,H1,I1,r,q⟩=>⟨I1.kIn,?_⟩) he hpl
 exact Zvg M F hr hb hd hx I1 r q
end
def PK (X:Cx)(kws:List Keyword)(t:TA):Prop:=
 ∀(pos:Pos) (pins:List (Addr×Obj)) (s:Shared) (σ:St) (H:Hp) (Q:List V→Hp→Prop),Inv X pins σ H s→t σ H Q→wpAny (model X.prog X.w) X.A (evalAll ((backToKw pos (keywordEach kws X.env)).map (·.2))) (AP X pins σ Q) X.xe s
section
variable {X:Cx}{CX:CXT}{k:Nat}{f C:Addr}{fd:FuncData}{ps ks:List Str}{sp:Sp}{E:XK}{x m:Str}{p pos apos kpos:Pos}{e o:Expr}{es:List Expr}{kws:List Keyword}{te ta:TE}{t tk:TA}{nm:Option Str}
structure KBinds (K:W.Frag)(fd:FuncData)(ps ks:List Str)(g:List Value→List Value→List Value)(gV:List V→List V→List V):Prop where
 to:∀(s:Shared) (us ws:List Value),K.In s.heap→(g us ws).length=ps.length→BindsTo s fd ⟨us,ks.zip ws⟩ (ps.zip (g us ws))
 rel:∀{vs:List V} {us:List Value} {zs:List V} {ws:List Value},Vals vs us→Vals zs ws→Vals (gV vs zs) (g us ws)
variable {g:List Value→List Value→List Value}{gV:List V→List V→List V}
end
structure FnScope (N P:List Str)(sc:Scope):Prop where
 kind:sc.kind=.function
 co:sc.isCoroutine=false
 gen:sc.isGenerator=false
 nd:N.Nodup
 pre:N.take P.length=P
 par:∀x∈P,sc.names.lookup x=some .local∨sc.names.lookup x=some .cell
 nofree:∀y∈sc.names,y.2≠.free
theorem Zlw {kindOf:Str→Option NameKind}{x:Str}:∀{binds:List (Str×Value)} {m:Str→Option Value},(∀v,(x,v)∉binds)→bindL kindOf binds m x=m x
 | [],_,_=>rfl
 | (n,v)::r,m,h=>by
  unfold bindL
  rw[Zlw fun w hw=>h w (XV _ hw)]
  split
  ·have:x≠n:=by rintro rfl;exact h v List.mem_cons_self
   simp[this]
  ·rfl
theorem Zly {kindOf:Str→Option NameKind}{x:Str}:∀{binds:List (Str×Value)} {m:Str→Option Value},(∀v,(x,v)∉binds)→bindC kindOf binds m x=m x
 | [],_,_=>rfl
 | (n,v)::r,m,h=>by
  unfold bindC
  rw[Zly fun w hw=>h w (XV _ hw)]
  split
  ·rfl
  ·have:x≠n:=by rintro rfl;exact h v List.mem_cons_self
   simp[this]
theorem Zlx {kindOf:Str→Option NameKind}{x:Str}{v:Value}:∀{P:List Str} {vs:List Value} {i:Nat} {m:Str→Option Value},P.Nodup→P[i]?=some x→vs[i]?=some v→kindOf x=some .local→
  bindL kindOf (P.zip vs) m x=some v
 | [],_,_,_,_,h,_,_=>by simp at h
 | _::_,[],_,_,_,_,h,_=>by simp at h
 | p::P,w::vs,0,m,nd,h1,h2,hk=>by
  simp at h1 h2;subst h1;subst h2
  show bindL kindOf ((p,w)::P.zip vs) m p=_
  unfold bindL
  rw[Zlw fun v hv=>(List.nodup_cons.mp nd).1 (List.of_mem_zip hv).1,XY hk]
  simp
 | p::P,w::vs,i+1,m,nd,h1,h2,hk=>by
  show bindL kindOf ((p,w)::P.zip vs) m x=_
  unfold bindL
  exact Zlx (i:=i) (List.nodup_cons.mp nd).2 (by simpa using h1) (by simpa using h2) hk
theorem Zlz {kindOf:Str→Option NameKind}{x:Str}{v:Value}:∀{P:List Str} {vs:List Value} {i:Nat} {m:Str→Option Value},P.Nodup→P[i]?=some x→vs[i]?=some v→kindOf x≠some .local→
  bindC kindOf (P.zip vs) m x=some v
 | [],_,_,_,_,h,_,_=>by simp at h
 | _::_,[],_,_,_,_,h,_=>by simp at h
 | p::P,w::vs,0,m,nd,h1,h2,hk=>by
  simp at h1 h2;subst h1;subst h2
  show bindC kindOf ((p,w)::P.zip vs) m p=_
  unfold bindC
  rw[Zly fun v hv=>(List.nodup_cons.mp nd).1 (List.of_mem_zip hv).1,XX hk]
  simp
 | p::P,w::vs,i+1,m,nd,h1,h2,hk=>by
  show bindC kindOf ((p,w)::P.zip vs) m x=_
  unfold bindC
  exact Zlz (i:=i) (List.nodup_cons.mp nd).2 (by simpa using h1) (by simpa using h2) hk
def start (N:List Str)(vs:List V):St:=vs.map some++List.replicate (N.length-vs.length) none
def cxOf (CX:CXT)(P:Program)(w:World)(K:W.Frag)(mg:Str→Option Value)(base:Heap)(N:List Str)(qual:Str)(scope:Scope)(f:Addr)(cd:Value)(A:Around)(outer:List Env)(s:Shared)(H:Hp)(E:XK):Cx where
 prog:=P
 w:=w
 K:=K
 mg:=mg
 base:=base
 A:=A.deeper (envOfC qual scope s.heap.objs.size f cd)
 N:=N
 s₀:=s
 H₀:=H
 env:=envOfC qual scope s.heap.objs.size f cd
 outer:=outer
 stack:=envOfC qual scope s.heap.objs.size f cd::outer
 ex:=[]
 calm:=true
 fn:=fun _=>true
 pn:=[]
 xe:=fun e s'=>wpAny (model P w) (A.deeper (envOfC qual scope s.heap.objs.size f cd)) (leaving (envOfC qual scope s.heap.objs.size f cd) e) (fun _ s''=>CX outer H s E e s'') (fun e' s''=>CX outer H s E e' s'') s'
theorem Zpw {sc:Scope}{n:Nat}{x:Str}(h:sc.names.lookup x=some .cell):∃c,(cellsFrom n sc.names []).lookup x=some c:=by
 have q:=W.cellsFrom_some sc.names n [] (.inl h)
 exact Option.isSome_iff_exists.mp q
theorem Ztt {CX:CXT}{P:Program}{w:World}{K:W.Frag}{mg:Str→Option Value}{base:Heap}{N ps:List Str}{qual:Str}{scope:Scope}{f:Addr}{cd:Value}{A:Around}{outer:List Env}{s s1:Shared}{H:Hp}{E:XK}{us:List Value}{vs:List V}
  (S:FnScope N ps scope) (hd:A.handled=none) (e0:Env0 P w K mg base A outer s H) (hl:vs.length=ps.length) (r:Vals vs us)
  (x:InCallC s s.heap.objs.size (bindL (envOfC qual scope s.heap.objs.size f cd).kindOf (ps.zip us) fun _=>none) (cellsFrom (s.heap.objs.size+1) scope.names []) (bindC (envOfC qual scope s.heap.objs.size f cd).kindOf (ps.zip us) fun _=>none) s1):
  Inv (cxOf CX P w K mg base N qual scope f cd A outer s H E) [] (start N vs) H s1:=by
 have hpl:ps.length≤N.length:=by have:=congrArg List.length S.pre;rw[YM] at this;omega
 obtain⟨h1,tk,rfl,hk⟩:=x.done
 have noA:∀b:Addr,b∉(cxOf CX P w K mg base N qual scope f cd A outer s H E).ex:=fun b z=>absurd (show b∈([]:List Addr) from z) (by simp)
 refine⟨⟨e0.mod,S.kind,rfl,rfl,XE _,fun y z c h1 h2=>?_,fun y hy=>?_,fun y c _ h=>?_,fun _=>hd,Around.frames_deeper e0.frames,.inr ⟨rfl,rfl⟩,fun b z=>absurd z (noA b),e0.bs,e0.bsz,fun b _ _=>noA b,fun b z=>absurd z (noA b),e0.funs,e0.frf⟩,
  rfl,e0.bare,Un.kept hk,⟨_,x.toInCall.ns,fun i y v h1 h2 h3=>?_⟩,fun y c h=>⟨_,x.cell y c h⟩,e0.hok.fresh (Nat.le_refl _),fun y c h=>?_,fun p hp=>absurd (show p∈([]:List (Addr×Obj)) from hp) (by simp),e0.hok.kept hk,?_⟩
 ·exact name_of_addr x.apart (PySem.mem_of_lookup h1) (PySem.mem_of_lookup h2)
 ·have hy:scope.names.lookup y=some .cell∨scope.names.lookup y=some .free:=hy
  rcases hy with hy | hy
  ·exact Zpw hy
  ·exact absurd rfl (S.nofree _ (PySem.mem_of_lookup hy))
 ·exact Nat.le_of_lt (x.above y c (PySem.mem_of_lookup h))
 ·have hi:i<vs.length:=by
   unfold start at h2
   by_cases hi:i<vs.length
   ·exact hi
   ·rw[List.getElem?_append_right (by simpa using hi)] at h2
    rw[List.getElem?_replicate] at h2
    split at h2<;>cases h2
  have ha:vs[i]?=some v:=by
   unfold start at h2
   rw[List.getElem?_append_left (by simpa using hi),List.getElem?_map] at h2
   cases e:vs[i]? with
   | none=>rw[e] at h2;cases h2
   | some a=>rw[e] at h2;cases h2;rfl
  obtain⟨u,hu,rv⟩:=r.get ha
  have hp:ps[i]?=some y:=by
   rw[←S.pre,List.getElem?_take_of_lt (by omega)];exact h1
  have ndP:ps.Nodup:=by rw[←S.pre];exact S.nd.sublist (List.take_sublist _ _)
  refine⟨u,rv,?_⟩
  rcases S.par y (List.mem_of_getElem? hp) with k | k
  ·exact .inl ⟨k,Zlx ndP hp hu k⟩
  ·obtain⟨c,e⟩:=Zpw (n:=s.heap.objs.size+1) k
   refine .inr ⟨.inl k,c,e,?_⟩
   have q:=x.cell y c e
   rw[Zlz ndP hp hu (by show scope.names.lookup y≠_;rw[k];decide)] at q
   exact q
 ·exact e0.hok.fresh (Nat.le_of_lt (x.above y c (PySem.mem_of_lookup h)))
 ·unfold start
  show _=N.length
  rw[List.length_append,XI,List.length_replicate]
  omega
theorem Z1a {CX:CXT}{P:Program}{w:World}{K:W.Frag}{mg:Str→Option Value}{base:Heap}{k:Nat}{f:Addr}{name qual:Str}{params:Arguments}{body:List Stmt}{scope:Scope}{dV kV doc pm cdv ct oc:Value}{an od:Option Addr}
  {osl:Array (Option Value)} {N ps:List Str} {sp:Sp} (lk:K.lookup f=some ⟨oc,od,.func (W.fnOf name qual params body scope dV kV doc pm an cdv ct),osl⟩) (hcd:W.codeIn K cdv qual=true) (S:FnScope N ps scope)
  (len:∀vs H Q E,sp vs H Q E→vs.length=ps.length)
  (hbody:∀(A:Around) (outer:List Env) (s:Shared) (H:Hp) (vs:List V) (Q:VK) (E:XK),Room k (A.deeper (envOfC qual scope s.heap.objs.size f cdv))→sp vs H Q E→
   ∃t,PSs (cxOf CX P w K mg base N qual scope f cdv A outer s H E) body t∧t {nx:=fun _ H'=>Q .non H',rt:=Q} (start N vs) H):
  FnOk P w K mg base CX (k+1) f (W.fnOf name qual params body scope dV kV doc pm an cdv ct) ps sp:=by
 refine⟨len,fun A outer s H args us vs Q E hr e0 hb r hsp=>?_⟩
 have hl:=len _ _ _ _ hsp
 have KX:K.In s.heap:=e0.mod.kin.keeps fun b o e=>(e0.bs b o e).1
 have lim:s.heap.NoLimit:=e0.mod.nolimit.keeps fun b o e=>(e0.bs b o e).1
 have hkind:∀y∈ps.zip us,scope.names.lookup y.1=some .local∨(scope.names.lookup y.1=some .cell∧((cellsFrom (s.heap.objs.size+1) scope.names []).lookup y.1).isSome=true):=fun ⟨n,v⟩ hy=>by
  rcases S.par n (List.of_mem_zip hy).1 with q | q
  ·exact .inl q
  ·exact .inr ⟨q,W.cellsFrom_some _ _ _ (.inl q)⟩
 refine codeAny_call_function hr.depth (KX _ _ lk) rfl S.co S.gen rfl (W.codeRec_of KX hcd) (hb _ _ _ _ ?_)
 refine wpAny_newFunctionEnv_cells S.kind hkind fun env he s1 x=>?_
 subst he
 refine⟨lim.keeps x.toInCall.keep,codeAny_func ?_⟩
 obtain⟨t,ht,hq⟩:=hbody A outer s H vs Q E (hr.deeper _) hsp
 have I:Inv (cxOf CX P w K mg base N qual scope f cdv A outer s H E) [] (start N vs) H s1:=Ztt S hr.hd e0 hl r x
 refine wpAny_mono (ht [] s1 (start N vs) H _ I hq) (fun fl s' hs=>?_) fun e s' hs=>hs
 have fin:∀{σ':St} {H':Hp} {v:V} {u:Value},Inv (cxOf CX P w K mg base N qual scope f cdv A outer s H E) [] σ' H' s'→Yg v u→Q v H'→CE outer P w H s Q u s':=
  fun {σ' H' v u} J rv q=>⟨v,H',J.os,J.bare,J.base,J.hok,rv,q⟩
 cases fl with
 | ret u=>
  obtain⟨v,σ',H',J,rv,q⟩:=hs
  exact fin J rv q
 | next=>
  obtain⟨σ',H',J,q⟩:=hs
  exact fin (v:=V.non) (u:=Value.none) J rfl q
 | brk=>
  obtain⟨_,_,_,q⟩:=hs
  exact False.elim q
 | cont=>
  obtain⟨_,_,_,q⟩:=hs
  exact False.elim q
section
variable {X:Cx}{x:Str}{p pos:Pos}{e:Expr}{es:List Expr}{t:TA}{id T:String}{r:List V→Hp→VK→Prop}
def tCB (r:List V→Hp→VK→Prop)(t:TA):TE:=fun σ H Q=>t σ H fun vs H1=>r vs H1 Q
theorem Zot (hc:Zbi X (.builtin id) r)(hg:Gl X x)(hm:X.mg x=none)(hv:bootBuiltins x=some (.builtin id))(ha:PA X (e::es) t)(hn:x≠"__name__":=by decide)(hdb:(x==("__debug__":Str))=false:=by decide)
  (he:starEach (e::es) X.env=(false,eval e X.env)::starEach es X.env:=by rfl) (hpl:(backTo pos (starEach es X.env)).any (·.1)=false:=by rfl):PE X (.Call (.Name x p) (e::es) [] pos) (tCB r t):=by
 intro pins s σ H Q I h
 refine wpAny_Call_Name_kw (Zdo I hg hm hv ?_ hn hdb)
 exact PyProof.Rows.callWith_builtin1 (thn (ha pos pins s σ H _ I h) fun us s1 ⟨vs,H1,I1,r1,q1⟩=>hc pins s1 σ H1 vs us Q I1 r1 q1) he hpl
theorem Ztd (hc:Zbi X (.type T) r)(hg:Gl X x)(hm:X.mg x=none)(hv:bootBuiltins x=some (.type T))(ha:PA X (e::es) t)(hn:x≠"__name__":=by decide)(hdb:(x==("__debug__":Str))=false:=by decide)
  (he:starEach (e::es) X.env=(false,eval e X.env)::starEach es X.env:=by rfl) (hpl:(backTo pos (starEach es X.env)).any (·.1)=false:=by rfl):PE X (.Call (.Name x p) (e::es) [] pos) (tCB r t):=by
 intro pins s σ H Q I h
 refine wpAny_Call_Name_kw (Zdo I hg hm hv ?_ hn hdb)
 exact PyProof.Rows.callWith_type1 (thn (ha pos pins s σ H _ I h) fun us s1 ⟨vs,H1,I1,r1,q1⟩=>hc pins s1 σ H1 vs us Q I1 r1 q1) he hpl
end
end L2
namespace HT
open PySem PyProof.Rows
def lexLt:List Int→List Int→Bool
 | [],[]=>false
 | [],_::_=>true
 | _::_,[]=>false
 | x::xs,y::ys=>if x=y then lexLt xs ys else decide (x<y)
section
open PySem.SeqAt
open PySem.AutoSeq1 (wpAny_loadPart')
open PySem.MeetsSeq PySem.MeetsSeq2 PySem.MeetsSeq3
end
section
variable {prog:Program}{w:World}{A:Around}{E:Value→Shared→Prop}{s:Shared}
theorem cat_tup {t b:Addr}{vs ws:List Value}{Q:Value→Shared→Prop}(ht:IsTup s.heap t vs.toArray)(hb:IsTup s.heap b ws.toArray)(hv:vs≠[])
  (h1:ws=[]→Q (.ref t) s) (h2:ws≠[]→Q (.ref s.heap.objs.size) {s with heap:=s.heap.push {cls:=.type "tuple",data:=.seq (vs++ws).toArray}})
  (hsz:vs.length+ws.length≤sizeLine):wpAny (model prog w) A (binaryOp .Add (.ref t) (.ref b)) Q E s:=by
 obtain⟨⟨cls,dd,data,sl⟩,ho,hc,n,hd⟩:=id ht
 obtain⟨⟨cls2,dd2,data2,sl2⟩,ho2,hc2,n2,hd2⟩:=id hb
 simp only at hc hd hc2 hd2
 subst hc hd hc2 hd2
 have e:vs.toArray++ws.toArray=(vs++ws).toArray:=by simp
 by_cases hw:ws=[]
 ·exact concat_meets ⟨_,ho,rfl⟩ ⟨_,ho2,rfl⟩ noFill_tuple_add seq_tuple_add PySem.F.slot_tuple_add PySem.F.entry_tuple_add (PySem.F.args_tuple_add_2 _ _)
   (tuple_addW1 t b vs.toArray ws.toArray n n2 dd dd2 sl sl2 (by simpa using hv) (by simp[hw])) ⟨ho,ho2,h1 hw⟩
 ·refine concat_meets ⟨_,ho,rfl⟩ ⟨_,ho2,rfl⟩ noFill_tuple_add seq_tuple_add PySem.F.slot_tuple_add PySem.F.entry_tuple_add (PySem.F.args_tuple_add_2 _ _)
   (tuple_addW2 t b vs.toArray ws.toArray n n2 dd dd2 sl sl2 (by simpa using hv) (by simpa using hw) (by rw[List.size_toArray,List.size_toArray];exact hsz)) ⟨ho,ho2,?_⟩
  rw[e]
  exact h2 hw
def sIx (n d:Nat):Option Int→Nat
 | none=>d
 | some v=>if v<0 then(v+(n:Int)).toNat else min v.toNat n
theorem Z11 (n d:Nat)(hd:d≤n)(o:Option Int):sIx n d o≤n:=by
 cases o with
 | none=>exact hd
 | some v=>
  show(if v<0 then(v+(n:Int)).toNat else min v.toNat n)≤n
  by_cases hv:v<0
  ·rw[XY hv];omega
  ·rw[XX hv];exact Nat.min_le_right _ _
theorem Zsk (v:Int)(n d:Nat):(if v<0 then max (v+(n:Int)) 0 else min v (n:Int))=((sIx n d (some v):Nat):Int):=by
 show(if v<0 then max (v+(n:Int)) 0 else min v (n:Int))=(((if v<0 then(v+(n:Int)).toNat else min v.toNat n):Nat):Int)
 by_cases hv:v<0
 ·simp only[if_pos hv];omega
 ·simp only[if_neg hv];omega
theorem Zrk (lo hi:Option Int)(n:Nat):Builtin.Slice.sliceAdjust lo hi 1 (n:Int)=(((sIx n 0 lo:Nat):Int),((sIx n n hi:Nat):Int)):=by
 have h1:¬((1:Int)<0):=by omega
 unfold Builtin.Slice.sliceAdjust
 simp only[h1,if_false]
 refine Prod.ext ?_ ?_
 ·cases lo with
  | none=>rfl
  | some v=>exact Zsk v n 0
 ·cases hi with
  | none=>rfl
  | some v=>exact Zsk v n n
theorem Zqk (i j:Nat):Builtin.Slice.slicePlaces (i:Int) (j:Int) 1=j-i:=by
 unfold Builtin.Slice.slicePlaces
 have h1:(1:Int)>0:=by omega
 simp only[h1,if_true,Int.ediv_one]
 split<;>omega
theorem Zi5 {v:Value}{o:Option Int}{Q:Option Int→Shared→Prop}(p:IsPart v o)(h:Q o s):wpAny (model prog w) A (Builtin.Slice.slicePartIndex v) Q E s:=by
 cases p with
 | none=>exact slicePart_none h
 | int i t=>exact slicePart_int h
theorem Zhx {sl:Addr}{vl vu:Value}{lo hi:Option Int}{n:Nat}{Q:Int×Int×Nat→Shared→Prop}(hs:s.heap.IsSliceOf sl vl vu .none)(pl:IsPart vl lo)(pu:IsPart vu hi)
  (h:Q (((sIx n 0 lo:Nat):Int),1,sIx n n hi-sIx n 0 lo) s):wpAny (model prog w) A (Builtin.Slice.sliceApplied (.ref sl) (pure (n:Int))) Q E s:=by
 obtain⟨os,hos,hcs,hds⟩:=id hs
 unfold Builtin.Slice.sliceApplied Builtin.Slice.sliceFields
 refine XA (XA (wpAny_field hos hds (x:=vl) rfl (XA (wpAny_field hos hds (x:=vu) rfl (XA (wpAny_field hos hds (x:=.none) rfl (XB ?_)))))))
 refine XA (slicePart_none ?_)
 show wpAny _ _ (if ((1:Int)==0)=true then _ else _) _ _ s
 rw[XX (by decide)]
 refine XA (Zi5 pl (XA (Zi5 pu (XA (XB ?_)))))
 show wpAny _ _ (match Builtin.Slice.sliceAdjust lo hi 1 (n:Int) with | (lo,hi)=>pure (lo,(1:Int),Builtin.Slice.slicePlaces lo hi 1)) _ _ s
 rw[Zrk lo hi n]
 show wpAny _ _ (pure (((sIx n 0 lo:Nat):Int),(1:Int),Builtin.Slice.slicePlaces ((sIx n 0 lo:Nat):Int) ((sIx n n hi:Nat):Int) 1)) _ _ s
 rw[Zqk]
 exact XB h
theorem Zvs (xs:Array Value)(i k:Nat):((List.range k).filterMap fun (m:Nat)=>xs[((i:Int)+(m:Int)*1).toNat]?).toArray=((xs.toList.drop i).take k).toArray:=by
 have e:(fun (m:Nat)=>xs[((i:Int)+(m:Int)*1).toNat]?)=fun m=>xs[i+m]?:=by
  funext m
  have:((i:Int)+(m:Int)*1).toNat=i+m:=by omega
  rw[this]
 rw[e]
 have:=pick_run xs i k
 rw[List.filterMap_map] at this
 have e2:((fun x=>xs[x]?)∘fun x=>i+x)=fun m=>xs[i+m]?:=rfl
 rw[e2] at this
 rw[this]
theorem getItem_tuple_cut {t sl:Addr}{items:Array Value}{vl vu:Value}{lo hi:Option Int}{Q:Value→Shared→Prop}(ht:IsTup s.heap t items)(hs:s.heap.IsSliceOf sl vl vu .none)(pl:IsPart vl lo)(pu:IsPart vu hi)
  (hw:¬(sIx items.size 0 lo=0∧sIx items.size items.size hi=items.size))
  (h:Q (.ref s.heap.objs.size) {s with heap:=s.heap.push {cls:=.type "tuple",data:=.seq ((items.toList.drop (sIx items.size 0 lo)).take (sIx items.size items.size hi-sIx items.size 0 lo)).toArray}})
  (hsz:items.size≤sizeLine):wpAny (model prog w) A (getItem (.ref t) (.ref sl)) Q E s:=by
 have htake:sizeOk (.seq ((items.toList.drop (sIx items.size 0 lo)).take (sIx items.size items.size hi-sIx items.size 0 lo)).toArray):=by
  show((items.toList.drop (sIx items.size 0 lo)).take (sIx items.size items.size hi-sIx items.size 0 lo)).toArray.size≤sizeLine
  rw[XJ,YM,List.length_drop,Array.length_toList]
  omega
 have hj:sIx items.size items.size hi≤items.size:=Z11 _ _ (XE _) hi
 obtain⟨os,hos,hcs,hds⟩:=id hs
 have hTs:s.TypeIs (.ref sl) "slice":=⟨os,hos,hcs⟩
 unfold getItem
 try with_reducible refine wpAny_holding ?_
 first | refine XA (XB ?_) | skip
 refine XA (wpAny_sequenceKey ht.typeIs (by decide) ?_)
 refine XA (wpAny_callSpecial?_slot (name:=Str.ofString "__getitem__") ht.typeIs PyProof.Rows.slot_tuple_getitem
  (wpAny_call_entry PyProof.Rows.slot_tuple_getitem ht.typeIs entry_tuple_getitem ?_ (args_tuple_getitem _ _)))
 show wpAny _ _ (Builtin.Tuple.tupleItemsOf (.ref t)>>=_) _ _ s
 refine XA (tupleItemsOf_ ht ?_)
 refine XA (wpAny_typeOf hTs ?_)
 rw[XY (by decide)]
 refine XA (Zhx hs pl pu ?_)
 have hno:¬((((sIx items.size 0 lo:Nat):Int)==0&&(1:Int)==1&&(sIx items.size items.size hi-sIx items.size 0 lo)==items.size)=true):=by
  intro q
  rw[Bool.and_eq_true,Bool.and_eq_true] at q
  have q1:((sIx items.size 0 lo:Nat):Int)=0:=eq_of_beq q.1.1
  have q2:sIx items.size items.size hi-sIx items.size 0 lo=items.size:=eq_of_beq q.2
  exact hw ⟨by omega,by omega⟩
 show wpAny _ _ (if (((sIx items.size 0 lo:Nat):Int)==0&&(1:Int)==1&&(sIx items.size items.size hi-sIx items.size 0 lo)==items.size)=true then _ else _) _ _ s
 rw[XX hno,Zvs]
 first
  | exact XA (m:=Builtin.Tuple.tupleExact _) (wpAny_newObj_type (XB ⟨_,rfl,XB h⟩) htake)
  | exact XA (m:=Builtin.Tuple.tupleExact _) (wpAny_newObj_type (XA (XB (XB ⟨_,rfl,XB h⟩))) htake)
  | exact XA (XA (m:=Builtin.Tuple.tupleExact _) (wpAny_newObj_type (XB (XB ⟨_,rfl,XB h⟩)) htake))
  | exact XA (XA (m:=Builtin.Tuple.tupleExact _) (wpAny_newObj_type (XB ⟨_,rfl,XB h⟩) htake))
end
end HT
namespace L2
open PySem PySem.Spec PyProof.Rows
abbrev TO:=St→Hp→(Option Int→Hp→Prop)→Prop
def PO (X:Cx)(e:Option Expr)(t:TO):Prop:=
 ∀(pins:List (Addr×Obj)) (s:Shared) (σ:St) (H:Hp) (Q:Option Int→Hp→Prop),Inv X pins σ H s→t σ H Q→
  wpAny (model X.prog X.w) X.A (evalPart e X.env) (fun u s'=>∃o H',Inv X pins σ H' s'∧IsPart u o∧Q o H') X.xe s
def Zya:TO:=fun _ H Q=>Q none H
def tPart (t:TE):TO:=fun σ H Q=>t σ H fun x H1=>∃i,x=.int i∧Q (some i) H1
section
variable {X:Cx}{e:Expr}{te:TE}{lo hi:Option Expr}{tl th:TO}{pos p2:Pos}
theorem Zy5:PO X none Zya:=by
 intro pins s σ H Q I h
 rw[evalPart_none]
 exact XB ⟨none,H,I,.none,h⟩
theorem Zy4 (h:PE X e te):PO X (some e) (tPart te):=by
 intro pins s σ H Q I hw
 rw[evalPart_some]
 refine thn (h pins s σ H _ I hw) fun u s1 ⟨x,H1,I1,r1,q1⟩=>?_
 obtain⟨i,rfl,q⟩:=q1
 obtain⟨t,rfl⟩:=r1
 exact⟨some i,H1,I1,.int i t,q⟩
def SlR (X:Cx)(r:V→Option Int→Option Int→Hp→VK→Prop):Prop:=
 ∀(pins:List (Addr×Obj)) (s:Shared) (σ:St) (H:Hp) (x:V) (v vl vu:Value) (lo hi:Option Int) (sl:Addr) (Q:VK),Inv X pins σ H s→Yg x v→s.heap.IsSliceOf sl vl vu .none→IsPart vl lo→IsPart vu hi→r x lo hi H Q→
  ∃T id,typeLookup (.type T) "__getitem__"=pure (some (.builtin id))∧s.TypeIs v T∧wpAny (model X.prog X.w) X.A (getItem v (.ref sl)) (EP X pins σ Q) X.xe s
theorem SlR.or {r r':V→Option Int→Option Int→Hp→VK→Prop}(h:SlR X r)(h':SlR X r'):SlR X (fun x lo hi H Q=>r x lo hi H Q∨r' x lo hi H Q):=by
 intro pins s σ H x v vl vu lo hi sl Q I rx hs pl pu q
 rcases q with q | q
 ·exact h pins s σ H x v vl vu lo hi sl Q I rx hs pl pu q
 ·exact h' pins s σ H x v vl vu lo hi sl Q I rx hs pl pu q
def tSl (r:V→Option Int→Option Int→Hp→VK→Prop)(te:TE)(tl th:TO):TE:=fun σ H Q=>te σ H fun x H1=>tl σ H1 fun l H2=>th σ H2 fun u H3=>r x l u H3 Q
theorem Zvt {r:V→Option Int→Option Int→Hp→VK→Prop}(hr:SlR X r)(he:PE X e te)(hl:PO X lo tl)(hu:PO X hi th):PE X (.Subscript e (.Slice lo hi none p2) pos) (tSl r te tl th):=by
 intro pins s σ H Q I h
 refine Subscript_ (thn (he pins s σ H _ I h) fun v s1 ⟨x,H1,I1,r1,q1⟩=>?_)
 refine wpAny_Slice (thn (hl pins s1 σ H1 _ I1 q1) fun vl s2 ⟨l,H2,I2,pl,q2⟩=>thn (hu pins s2 σ H2 _ I2 q2) fun vu s3 ⟨u,H3,I3,pu,q3⟩=>?_)
 rw[evalPart_none]
 refine XB ?_
 have I4:Inv X pins σ H3 {s3 with heap:=s3.heap.push {cls:=.type "slice",data:=.fields #[vl,vu,.none]}}:=I3.kept (t':=s3.toks) fun b ob q=>XC _ q
 obtain⟨T,id,hT,ht,hg⟩:=hr pins {s3 with heap:=s3.heap.push {cls:=.type "slice",data:=.fields #[vl,vu,.none]}} σ H3 x v vl vu l u s3.heap.objs.size Q I4 r1 (Heap.IsSliceOf.new ..) pl pu q3
 show wpAny (model X.prog X.w) X.A (subscriptTail e (.Slice lo hi none p2) v (.ref s3.heap.objs.size)) (EP X pins σ Q) X.xe {s3 with heap:=s3.heap.push {cls:=.type "slice",data:=.fields #[vl,vu,.none]}}
 exact tail_any (ops:=[.ref s3.heap.objs.size,v]) ht hT hg (by with_unfolding_all rfl)
def cutV (xs:List V)(lo hi:Option Int):List V:=(xs.drop (HT.sIx xs.length 0 lo)).take (HT.sIx xs.length xs.length hi-HT.sIx xs.length 0 lo)
theorem Zil (xs:List V)(lo hi:Option Int):(cutV xs lo hi).length≤xs.length:=by
 unfold cutV
 rw[YM,List.length_drop]
 omega
def rSlT (K:W.Frag):V→Option Int→Option Int→Hp→VK→Prop:=fun x lo hi H Q=>∃a xs,x=.ref a∧SqT K H a xs∧
 ¬(HT.sIx xs.length 0 lo=0∧HT.sIx xs.length xs.length hi=xs.length)∧∀p,H p=none→Q (.ref p) (upd H p (.tup (cutV xs lo hi)))
theorem Z1t:SlR X (rSlT X.K):=by
 intro pins s σ H x v vl vu lo hi sl Q I rx hs pl pu h
 obtain⟨a,xs,rfl,hx,hw,q⟩:=h
 cases rx
 obtain⟨its,r,ht,hz⟩:=I.tuple hx
 have hlen:its.toArray.size=xs.length:=by rw[XJ];exact r.length.symm
 refine⟨"tuple",_,PyProof.Rows.slot_tuple_getitem.lookup,ht.typeIs,?_⟩
 refine HT.getItem_tuple_cut ht hs pl pu (by rw[hlen];exact hw) ?_ (by rw[hlen];exact hz)
 rw[hlen]
 refine⟨.ref s.heap.objs.size,_,I.laid (t':=s.toks) (o:=.tup (cutV xs lo hi)) (fun b ob q=>XC _ q) (XE _) ?_,rfl,q _ (I.hok.fresh (XE _))⟩
 exact⟨XN (Zil xs lo hi) hz,_,(r.drop (HT.sIx xs.length 0 lo)).take (HT.sIx xs.length xs.length hi-HT.sIx xs.length 0 lo),IsTup.new _ _⟩
def rCatT (K:W.Frag):R2:=fun x y H Q=>∃a b xs ys,x=.ref a∧y=.ref b∧SqT K H a xs∧SqT K H b ys∧xs≠[]∧xs.length+ys.length≤sizeLine∧
 (ys=[]→Q (.ref a) H)∧(ys≠[]→∀p,H p=none→Q (.ref p) (upd H p (.tup (xs++ys))))
theorem Vals.nil_iff {xs:List V}{us:List Value}(r:Vals xs us):us=[]↔xs=[]:=by
 cases r with
 | nil=>simp
 | cons _ _=>simp
theorem Zzh:OpR X (binaryOp .Add) (rCatT X.K):=by
 intro pins s σ H x y v u Q I rx ry h
 obtain⟨a,b,xs,ys,rfl,rfl,ha,hb,hx,hz,q1,q2⟩:=h
 cases rx
 cases ry
 obtain⟨its,r1,p1,_⟩:=I.tuple ha
 obtain⟨its2,r2,p2,_⟩:=I.tuple hb
 refine HT.cat_tup p1 p2 (fun z=>hx (r1.nil_iff.mp z)) (fun z=>⟨.ref a,H,I,rfl,q1 (r2.nil_iff.mp z)⟩) (fun z=>?_) (by rw[←r1.length,←r2.length];exact hz)
 refine⟨.ref s.heap.objs.size,_,I.laid (t':=s.toks) (o:=.tup (xs++ys)) (fun b ob q=>XC _ q) (XE _) ?_,rfl,q2 (fun w=>z (r2.nil_iff.mpr w)) _ (I.hok.fresh (XE _))⟩
 exact⟨by rw[List.length_append];exact hz,_,r1.append r2,IsTup.new _ _⟩
end
def ixN (n:Nat)(i:Int):Option Nat:=if 0≤i then(if i<n then some i.toNat else none) else if-(n:Int)≤i then some (i+n).toNat else none
def atI {α:Type}(xs:List α)(i:Int):Option α:=(ixN xs.length i).bind fun j=>xs[j]?
theorem Zr7 {n:Nat}{i:Int}{j:Nat}(h:ixN n i=some j):seqIndex? i n=some j∧j<n∧ -(n:Int)≤i∧i<n:=by
 unfold ixN at h
 by_cases h0:0≤i
 ·rw[XY h0] at h
  by_cases h1:i<n
  ·rw[XY h1] at h
   have e:i.toNat=j:=YH h
   exact⟨by rw[seqIndex_of h0 h1,e],by omega,by omega,h1⟩
  ·rw[XX h1] at h;cases h
 ·rw[XX h0] at h
  by_cases h1: -(n:Int)≤i
  ·rw[XY h1] at h
   have e:(i+n).toNat=j:=YH h
   exact⟨by rw[seqIndex_neg (by omega) h1,e],by omega,h1,by omega⟩
  ·rw[XX h1] at h;cases h
theorem Znz {α:Type}{xs:List α}{i:Int}{v:α}(h:atI xs i=some v):∃j,seqIndex? i xs.length=some j∧xs[j]?=some v∧j<xs.length∧ -(xs.length:Int)≤i∧i<xs.length:=by
 unfold atI at h
 cases e:ixN xs.length i with
 | none=>rw[e] at h;cases h
 | some j=>
  rw[e] at h
  obtain⟨h1,h2,h3,h4⟩:=Zr7 e
  exact⟨j,h1,h,h2,h3,h4⟩
theorem Zfk {α:Type}{xs:List α}{j:Nat}{v:α}(h:xs[j]?=some v):atI xs (j:Int)=some v:=by
 have hj:j<xs.length:=(List.getElem?_eq_some_iff.mp h).1
 have e:ixN xs.length (j:Int)=some j:=by
  unfold ixN
  rw[if_pos (by omega),if_pos (by omega)];simp
 unfold atI;rw[e];exact h
def Zst (b:Expr):Prop:=∀o i,subscripted b false o i=operate [o,i] (getItem o i)
def IxR (X:Cx)(r:R2):Prop:=
 ∀(value slice:Expr) (pins:List (Addr×Obj)) (s:Shared) (σ:St) (H:Hp) (x y:V) (v u:Value) (Q:VK),Inv X pins σ H s→Yg x v→Yg y u→r x y H Q→
  subscripted slice false v u=operate [v,u] (getItem v u)→wpAny (model X.prog X.w) X.A (subscriptTail value slice v u) (EP X pins σ Q) X.xe s
def MtR (X:Cx)(id:String)(r:V→List V→Hp→VK→Prop):Prop:=
 ∀(pins:List (Addr×Obj)) (s:Shared) (σ:St) (H:Hp) (x:V) (xs:List V) (v:Value) (us:List Value) (Q:VK),Inv X pins σ H s→Yg x v→Vals xs us→r x xs H Q→
  wpAny (model X.prog X.w) X.A (call (.builtin id) (v::us)) (EP X pins σ Q) X.xe s
section
variable {X:Cx}{a b:Expr}{ta tb:TE}{pos:Pos}
theorem IxR.or {r r':R2}(h:IxR X r)(h':IxR X r'):IxR X (fun x y H Q=>r x y H Q∨r' x y H Q):=by
 intro value slice pins s σ H x y v u Q I rx ry q hs
 rcases q with q | q
 ·exact h value slice pins s σ H x y v u Q I rx ry q hs
 ·exact h' value slice pins s σ H x y v u Q I rx ry q hs
theorem pe_ix {r:R2}(hr:IxR X r)(ha:PE X a ta)(hb:PE X b tb)(hs:Zst b):PE X (.Subscript a b pos) (tOp r ta tb):=by
 intro pins s σ H Q I h
 exact Subscript_ (binT ha hb I h fun v u s2 x y H2 I2 rx ry q=>hr a b pins s2 σ H2 x y v u Q I2 rx ry q (hs _ _))
def rIxL (K:W.Frag):R2:=fun x y H Q=>∃p xs i v,x=.ref p∧y=.int i∧SqL K H p xs∧atI xs i=some v∧Q v H
def rIxT (K:W.Frag):R2:=fun x y H Q=>∃p xs i v,x=.ref p∧y=.int i∧SqT K H p xs∧atI xs i=some v∧Q v H
def rIxS:R2:=fun x y H Q=>∃z i c,x=.str z∧y=.int i∧z.length≤sizeLine∧atI z.cps.toList i=some c∧Q (.str ⟨#[c]⟩) H
theorem Zz1:IxR X (rIxL X.K):=by
 intro value slice pins s σ H x y v u Q I rx ry h hs
 obtain⟨p,xs,i,z,rfl,rfl,hq,he,q⟩:=h
 cases rx
 obtain⟨t,rfl⟩:=ry
 obtain⟨its,r,pl,hz⟩:=I.list hq
 obtain⟨j,h1,h2,h3,h4,h5⟩:=Znz he
 obtain⟨w,ew,rw'⟩:=r.get h2
 have hl:=r.length
 have hn:=line63
 have fin:EP X pins σ Q w s:=⟨z,H,I,rw',q⟩
 by_cases h0:0≤i
 ·have hj:i.toNat=j:=by
   rw[seqIndex_of h0 h5] at h1
   exact YH h1
  exact item_listR pl.isList h0 (by omega) (by rw[hj];simpa using ew) fin hs
 ·have hj:(i+(its.toArray.size:Int)).toNat=j:=by
   rw[seqIndex_neg (by omega) h4] at h1
   rw[XJ,←hl]
   exact YH h1
  exact subscriptTail_builtinR (x:=w) pl.isList.typeIs slot_list_getitem.lookup
   (wpAny_getItem_list_neg (Q:=fun r s'=>r=w∧EP X pins σ Q r s') pl.isList (by omega) (by rw[List.size_toArray]<;>omega) (by omega) (by rw[hj];simpa using ew) ⟨rfl,fin⟩) hs
theorem Z3t:IxR X (rIxT X.K):=by
 intro value slice pins s σ H x y v u Q I rx ry h hs
 obtain⟨p,xs,i,z,rfl,rfl,hq,he,q⟩:=h
 cases rx
 obtain⟨t,rfl⟩:=ry
 obtain⟨its,r,pl,hz⟩:=I.tuple hq
 obtain⟨j,h1,h2,h3,h4,h5⟩:=Znz he
 obtain⟨w,ew,rw'⟩:=r.get h2
 have hl:=r.length
 have hn:=line63
 have fin:EP X pins σ Q w s:=⟨z,H,I,rw',q⟩
 exact subscriptTail_builtinR (x:=w) pl.typeIs slot_tuple_getitem.lookup
  (getItem_tuple (j:=j) (Q:=fun r s'=>r=w∧EP X pins σ Q r s') pl (by omega) (by omega) (by rw[List.size_toArray,←hl];exact h1) (by simpa using ew) ⟨rfl,fin⟩) hs
theorem Z3u:IxR X rIxS:=by
 intro value slice pins s σ H x y v u Q I rx ry h hs
 obtain⟨z,i,c,rfl,rfl,hz,he,q⟩:=h
 obtain⟨t,rfl⟩:=rx
 obtain⟨t',rfl⟩:=ry
 obtain⟨j,h1,h2,h3,h4,h5⟩:=Znz he
 have hl:z.cps.toList.length=z.length:=by simp[Str.length]
 rw[hl] at h1 h4 h5
 have hn:=line63
 exact tail_any (typeIs_str s z t) slot_str_getitem.lookup (getItem_str (c:=c) (by
  have e1:decide (i< -(2^63:Int))=false:=YG (by omega)
  have e2:decide (i≥2^63)=false:=YG (by omega)
  rw[e1,e2,Bool.or_false]) (by rw[h1];simpa using h2) ⟨.str ⟨#[c]⟩,H,I.tok _,⟨_,rfl⟩,q⟩) hs
def rIx (K:W.Frag):R2:=fun x y H Q=>rIxL K x y H Q∨rIxT K x y H Q∨rIxS x y H Q
theorem Z3v:IxR X (rIx X.K):=Zz1.or (Z3t.or Z3u)
theorem Inv.lst {pins:List (Addr×Obj)}{σ:St}{H:Hp}{s:Shared}{p:Addr}{xs:List V}(I:Inv X pins σ H s)(h:H p=some (.lst xs)):
  ∃(its:List Value) (n:Nat),Vals xs its∧s.heap.get? p=some {cls:=.type "list",data:=.seq its.toArray n}∧xs.length≤sizeLine:=by
 obtain⟨z,its,n,r,e⟩:=I.hok p _ h
 exact⟨its,n,r,e,z⟩
theorem Zmg (lo hi:Option Int)(n:Nat):(sliceBounds lo hi none n).1=((HT.sIx n 0 lo:Nat):Int)∧(sliceBounds lo hi none n).2.1=((HT.sIx n n hi:Nat):Int)∧(sliceBounds lo hi none n).2.2=1:=by
 refine⟨?_,?_,rfl⟩
 ·cases lo with
  | none=>simp[sliceBounds,HT.sIx]
  | some i=>
   simp only[sliceBounds,HT.sIx,Option.getD_none,show(1:Int)>0 by decide,if_true]
   by_cases h:i<0
   ·simp only[h,if_true]<;>omega
   ·simp only[h,if_false]<;>omega
 ·cases hi with
  | none=>simp[sliceBounds,HT.sIx]
  | some i=>
   simp only[sliceBounds,HT.sIx,Option.getD_none,show(1:Int)>0 by decide,if_true]
   by_cases h:i<0
   ·simp only[h,if_true]<;>omega
   ·simp only[h,if_false]<;>omega
theorem Zku (its:List Value)(lo hi:Option Int):slicePick its.toArray lo hi none=((its.drop (HT.sIx its.length 0 lo)).take (HT.sIx its.length its.length hi-HT.sIx its.length 0 lo)).toArray:=by
 obtain⟨h1,h2,h3⟩:=Zmg lo hi its.toArray.size
 unfold slicePick
 rw[h1,h2,h3]
 simp only[sliceRange_one,pick_run,List.size_toArray]<;>rfl
def rSlL (K:W.Frag):V→Option Int→Option Int→Hp→VK→Prop:=fun x lo hi H Q=>∃a xs,x=.ref a∧SqL K H a xs∧∀p,H p=none→Q (.ref p) (upd H p (.lst (cutV xs lo hi)))
theorem Zye:SlR X (rSlL X.K):=by
 intro pins s σ H x v vl vu lo hi sl Q I rx hs pl pu h
 obtain⟨a,xs,rfl,hx,q⟩:=h
 cases rx
 obtain⟨its,r,ht,hz⟩:=I.list hx
 have hlen:=r.length
 refine⟨"list",_,slot_list_getitem.lookup,ht.isList.typeIs,?_⟩
 refine wpAny_getItem_list_slice ht.isList hs pl pu .none (by simp) ?_ (by rw[List.size_toArray]<;>omega)
 rw[Zku,←hlen]
 refine⟨.ref s.heap.objs.size,_,I.laid (t':=s.toks) (o:=.lst (cutV xs lo hi)) (fun b ob q=>XC _ q) (XE _) ?_,rfl,q _ (I.hok.fresh (XE _))⟩
 exact⟨XN (Zil xs lo hi) hz,_,0,(r.drop (HT.sIx xs.length 0 lo)).take (HT.sIx xs.length xs.length hi-HT.sIx xs.length 0 lo),XF _ rfl⟩
def Zpm:V→Bool
 | .non=>true
 | .bl _=>true
 | .int _=>true
 | .str _=>true
 | _=>false
def eqV:V→V→Bool
 | .non,.non=>true
 | .bl a,.bl b=>a==b
 | .bl a,.int b=>(if a then 1 else 0)==b
 | .int a,.bl b=>a==(if b then 1 else 0)
 | .int a,.int b=>a==b
 | .str a,.str b=>a==b
 | _,_=>false
theorem Zw9 {A:Around}{s:Shared}{y x:V}{u v:Value}(ry:Yg y u)(rx:Yg x v)(fy:Zpm y=true)(fx:Zpm x=true):SeqAt.EqAt A s u v (eqV y x):=by
 cases y with
 | non=>
  cases ry
  cases x with
  | non=>cases rx;exact SeqAt.EqAt.same _
  | bl b=>cases rx;exact SeqAt.EqAt.none_bool b
  | int b=>obtain⟨t,rfl⟩:=rx;exact SeqAt.EqAt.none_int b t
  | str b=>obtain⟨t,rfl⟩:=rx;exact SeqAt.EqAt.none_str b t
  | _=>exact absurd (show false=true from fx) YJ
 | bl a=>
  cases ry
  cases x with
  | non=>cases rx;exact SeqAt.EqAt.bool_none a
  | bl b=>cases rx;exact SeqAt.EqAt.bool_bool a b
  | int b=>obtain⟨t,rfl⟩:=rx;exact SeqAt.EqAt.bool_int a b t
  | str b=>obtain⟨t,rfl⟩:=rx;exact SeqAt.EqAt.bool_str a b t
  | _=>exact absurd (show false=true from fx) YJ
 | int a=>
  obtain⟨t',rfl⟩:=ry
  cases x with
  | non=>cases rx;exact SeqAt.EqAt.int_none a t'
  | bl b=>cases rx;exact SeqAt.EqAt.int_bool a t' b
  | int b=>obtain⟨t,rfl⟩:=rx;exact SeqAt.EqAt.int_int a t' b t
  | str b=>obtain⟨t,rfl⟩:=rx;exact SeqAt.EqAt.int_str a t' b t
  | _=>exact absurd (show false=true from fx) YJ
 | str a=>
  obtain⟨t',rfl⟩:=ry
  cases x with
  | non=>cases rx;exact SeqAt.EqAt.str_none a t'
  | bl b=>cases rx;exact SeqAt.EqAt.str_bool a t' b
  | int b=>obtain⟨t,rfl⟩:=rx;exact SeqAt.EqAt.str_int a t' b t
  | str b=>obtain⟨t,rfl⟩:=rx;exact SeqAt.EqAt.str_str a t' b t
  | _=>exact absurd (show false=true from fx) YJ
 | _=>exact absurd (show false=true from fy) YJ
def eqU (x:V)(u:Value):Bool:=match u with
 | .none=>eqV .non x
 | .bool b=>eqV (.bl b) x
 | .int i _=>eqV (.int i) x
 | .str z _=>eqV (.str z) x
 | _=>false
def inV (x:V)(xs:List V):Bool:=xs.any fun y=>eqV y x
def rIn (K:W.Frag)(neg:Bool):R2:=fun x y H Q=>∃p xs,y=.ref p∧(SqL K H p xs∨SqT K H p xs)∧Zpm x=true∧xs.all Zpm=true∧Q (.bl (if neg then !inV x xs else inV x xs)) H
theorem Znx:Zbi X (.builtin "len") (fun xs H Q=>∃p ys,xs=[.ref p]∧(SqL X.K H p ys∨SqT X.K H p ys)∧Q (.int ys.length) H):=by
 intro pins s σ H xs us Q I r h
 obtain⟨p,ys,rfl,hq,q⟩:=h
 obtain⟨u,rfl,rx⟩:=vals1 r
 cases rx
 have hn:=line63
 rcases hq with hq | hq
 ·obtain⟨its,r',pl,hz⟩:=I.list hq
  have hlen:=r'.length
  exact Calls.call_len_list pl.isList (by simp only[List.size_toArray]<;>omega) ⟨.int ys.length,H,I.tok _,⟨s.toks+1,by rw[List.size_toArray,hlen]⟩,q⟩
 ·obtain⟨its,r',pl,hz⟩:=I.tuple hq
  have hlen:=r'.length
  exact len_tuple pl (by simp only[List.size_toArray]<;>omega) ⟨.int ys.length,H,I.tok _,⟨s.toks+1,by rw[List.size_toArray,hlen]⟩,q⟩
theorem Znw:Zbi X (.builtin "len") (fun xs H Q=>∃z,xs=[.str z]∧z.length≤sizeLine∧Q (.int z.length) H):=by
 intro pins s σ H xs us Q I r h
 obtain⟨z,rfl,hz,q⟩:=h
 obtain⟨u,rfl,t,rfl⟩:=vals1 r
 have hn:=line63
 exact len_str (by omega) ⟨.int z.length,H,I.tok _,⟨_,rfl⟩,q⟩
theorem Zbi.or {f:Value}{r r':List V→Hp→VK→Prop}(h:Zbi X f r)(h':Zbi X f r'):Zbi X f (fun xs H Q=>r xs H Q∨r' xs H Q):=by
 intro pins s σ H xs us Q I rs q
 rcases q with q | q
 ·exact h pins s σ H xs us Q I rs q
 ·exact h' pins s σ H xs us Q I rs q
theorem Znv:Zbi X (.type "list") (fun xs H Q=>∃p ys,xs=[.ref p]∧(SqL X.K H p ys∨SqT X.K H p ys)∧∀l,H l=none→Q (.ref l) (upd H l (.lst ys))):=by
 intro pins s σ H xs us Q I r h
 obtain⟨p,ys,rfl,hq,q⟩:=h
 obtain⟨u,rfl,rx⟩:=vals1 r
 cases rx
 have fin:∀(its:List Value),Vals ys its→ys.length≤sizeLine→∀(h':Heap) (c':Nat),(∀b o',s.heap.get? b=some o'→h'.get? b=some o')→
   h'.get? s.heap.objs.size=some {cls:=.type "list",dict:=none,data:=.seq its.toArray c',slots:=#[]}→EP X pins σ Q (.ref s.heap.objs.size) {s with heap:=h'}:=fun its r' hz h' c' kp e=>
  ⟨.ref s.heap.objs.size,_,I.laid (t':=s.toks) kp (XE _) (show Xl X.prog X.w _ h' _ (.lst ys) from⟨hz,its,c',r',e⟩),rfl,q _ (I.hok.fresh (XE _))⟩
 rcases hq with hq | hq
 ·obtain⟨its,r',pl,hz⟩:=I.list hq
  have hlen:=r'.length
  obtain⟨o,ho,hc,n,hd⟩:=pl.isList
  exact call_list_seq p (.inl rfl) ho hc hd (fun h' c' kp e=>fin its r' hz h' c' kp e) (by simp only[List.size_toArray]<;>omega)
 ·obtain⟨its,r',pl,hz⟩:=I.tuple hq
  have hlen:=r'.length
  obtain⟨o,ho,hc,n,hd⟩:=pl
  exact call_list_seq p (.inr rfl) ho hc hd (fun h' c' kp e=>fin its r' hz h' c' kp e) (by simp only[List.size_toArray]<;>omega)
theorem Zk9:Zbi X (.type "tuple") (fun xs H Q=>∃p ys,xs=[.ref p]∧((SqL X.K H p ys∧∀l,H l=none→Q (.ref l) (upd H l (.tup ys)))∨(SqT X.K H p ys∧Q (.ref p) H))):=by
 intro pins s σ H xs us Q I r h
 obtain⟨p,ys,rfl,h⟩:=h
 obtain⟨u,rfl,rx⟩:=vals1 r
 cases rx
 rcases h with⟨hq,q⟩ | ⟨hq,q⟩
 ·obtain⟨its,r',pl,hz⟩:=I.list hq
  have hlen:=r'.length
  refine call_tuple_list pl.isList (fun h' kp=>?_) (by simp only[List.size_toArray]<;>omega)
  have I1:Inv X pins σ H {s with heap:=h'}:=I.kept (t':=s.toks) kp
  have I2:Inv X pins σ (upd H h'.objs.size (.tup ys)) {s with heap:=h'.push {cls:=.type "tuple",data:=.seq its.toArray}}:=
   I1.laid (t':=s.toks) (fun b o e=>XC _ e) (XE _) (show Xl X.prog X.w _ _ _ (.tup ys) from⟨hz,its,r',IsTup.new _ _⟩)
  exact⟨.ref h'.objs.size,_,I2,rfl,q _ (I1.hok.fresh (XE _))⟩
 ·obtain⟨its,r',pl,hz⟩:=I.tuple hq
  exact call_tuple_same pl ⟨.ref p,H,I,rfl,q⟩
def tyV (K:W.Frag)(T:String)(x:V)(H:Hp):Prop:=match x with
 | .str _=>T="str"
 | .int _=>T="int"
 | .ref p=>(T="list"∧∃xs,SqL K H p xs)∨(T="tuple"∧∃o,K.lookup p=some o∧o.cls=.type "tuple"∧o.dict=none)∨
   (T="dict"∧((∃kvs,H p=some (.dK kvs))∨∃kvs,H p=some (.dT kvs)))∨(T="set"∧∃S n,H p=some (.set S n))
 | _=>False
theorem Zue {pins:List (Addr×Obj)}{σ:St}{H:Hp}{s:Shared}{T:String}{x:V}{v:Value}(I:Inv X pins σ H s)(r:Yg x v)(ty:tyV X.K T x H):
  s.TypeIs v T∧∀a,v=.ref a→∃ob,s.heap.get? a=some ob∧ob.dict=none:=by
 cases x with
 | str z=>
  obtain⟨t,rfl⟩:=r
  cases (show T="str" from ty)
  exact⟨typeIs_str s z t,fun _ e=>nomatch e⟩
 | int i=>
  obtain⟨t,rfl⟩:=r
  cases (show T="int" from ty)
  exact⟨typeIs_int s i t,fun _ e=>nomatch e⟩
 | ref p=>
  cases r
  rcases ty with⟨rfl,xs,hq⟩ | ⟨rfl,o,hk,hc,hd⟩ | ⟨rfl,hk⟩ | ⟨rfl,S,n,hk⟩
  ·obtain⟨its,_,pl,_⟩:=I.list hq
   refine⟨pl.isList.typeIs,fun a e=>?_⟩
   cases e
   obtain⟨o,n,e,c,hd,_⟩:=pl
   exact⟨o,e,hd⟩
  ·refine⟨⟨o,I.kIn p o hk,hc⟩,fun a e=>?_⟩
   cases e
   exact⟨o,I.kIn _ o hk,hd⟩
  ·have z:∃o,s.heap.get? p=some o∧o.ExactDict:=by
    rcases hk with⟨kvs,hk⟩ | ⟨kvs,hk⟩
    ·obtain⟨_,_,_,_,o,_,_,e,ex,_⟩:=I.hok p _ hk
     exact⟨o,e,ex⟩
    ·obtain⟨_,_,_,_,o,_,_,e,ex,_⟩:=I.hok p _ hk
     exact⟨o,e,ex⟩
   obtain⟨o,e,ex⟩:=z
   refine⟨⟨o,e,ex.1⟩,fun a e2=>?_⟩
   cases e2
   exact⟨o,e,ex.2.1⟩
  ·obtain⟨o,_,_,_,e,ex,_⟩:=I.hok p _ hk
   refine⟨⟨o,e,ex.1⟩,fun a e2=>?_⟩
   cases e2
   exact⟨o,e,ex.2.1⟩
 | _=>exact False.elim ty
def tBM0 (K:W.Frag)(T:String)(r:V→List V→Hp→VK→Prop)(to:TE):TE:=fun σ H Q=>to σ H fun x H1=>tyV K T x H1∧r x [] H1 Q
def tBM (K:W.Frag)(T:String)(r:V→List V→Hp→VK→Prop)(to:TE)(t:TA):TE:=fun σ H Q=>to σ H fun x H1=>tyV K T x H1∧t σ H1 fun xs H2=>r x xs H2 Q
variable {o e:Expr}{es:List Expr}{to:TE}{t:TA}{name:Str}{apos cpos:Pos}{T id:String}{r:V→List V→Hp→VK→Prop}
theorem Z2q (pa:PlainAttrs T)(slot:Slot T name id)(hty:typeOf (.builtin id)=pure (.type "method_descriptor"))(hm:MtR X id r)(ho:PE X o to)
  (hbase:attributeBase o name X.env (eval o X.env)=eval o X.env:=by rfl) (hline:(apos.endLine==cpos.line)=true:=by rfl):PE X (.Call (.Attribute o name apos) [] [] cpos) (tBM0 X.K T r to):=by
 intro pins s σ H Q I h
 refine wpAny_Call_method0_late hbase hline (thn (ho pins s σ H _ I h) fun v s1 ⟨x,H1,I1,r1,ty,q1⟩=>?_)
 obtain⟨h1,h2⟩:=Zue I1 r1 ty
 exact⟨T,id,pa,slot,hty,h1,h2,Calls.callWith_builtin rfl (PySem.evalArgs_none (hm pins s1 σ H1 x [] v [] Q I1 r1 .nil q1))⟩
theorem pe_bm (pa:PlainAttrs T)(slot:Slot T name id)(hty:typeOf (.builtin id)=pure (.type "method_descriptor"))(hm:MtR X id r)(ho:PE X o to)(ha:PA X (e::es) t)
  (hbase:attributeBase o name X.env (eval o X.env)=eval o X.env:=by rfl)
  (hfew:((backTo cpos (starEach (e::es) X.env)).all (fun x=>!x.1)&&(backToKw cpos (keywordEach [] X.env)).all (fun x=>x.1.isSome)
   &&decide ((e::es).length+([]:List Keyword).length+(if ([]:List Keyword).isEmpty then 0 else 1)<30))=true:=by rfl)
  (hline:(apos.endLine==cpos.line)=true:=by rfl) (hs:starEach (e::es) X.env=(false,eval e X.env)::starEach es X.env:=by rfl) (hplain:(backTo cpos (starEach es X.env)).any (·.1)=false:=by rfl):
  PE X (.Call (.Attribute o name apos) (e::es) [] cpos) (tBM X.K T r to t):=by
 intro pins s σ H Q I h
 refine wpAny_Call_method_late hbase hfew hline rfl (thn (ho pins s σ H _ I h) fun v s1 ⟨x,H1,I1,r1,ty,q1⟩=>?_)
 obtain⟨h1,h2⟩:=Zue I1 r1 ty
 refine⟨T,id,pa,slot,hty,h1,h2,?_⟩
 have hA:=ha cpos pins s1 σ H1 _ I1 q1
 rw[hs] at hA ⊢
 refine Calls.callWith_builtin (by show(false||(backTo cpos (starEach es X.env)).any (·.1))=false;rw[hplain]<;>rfl) (Calls.evalArgs_plain ?_)
 exact thn hA fun us s2 ⟨vs,H2,I2,r2,q2⟩=>hm pins s2 σ H2 x vs v us Q I2 r1 r2 q2
/-xs.append(e),list.index on a module's tuple .. are MtR facts of 06m-/
end
def MtM (X:Cx)(id:String)(r:V→List V→Hp→VK→Prop):Prop:=
 ∀(pins:List (Addr×Obj)) (s:Shared) (σ:St) (H:Hp) (x:V) (xs:List V) (v:Value) (us:List Value) (Q:VK),Inv X pins σ H s→Yg x v→Vals xs us→r x xs H Q→
  wpAny (model X.prog X.w) X.A (call (.builtin id) (v::us)) (EP X pins σ Q) X.xe s
theorem Vals.one:∀{x:V} {us:List Value},Vals [x] us→∃u,us=[u]∧Yg x u
 | _,_,.cons r .nil=>⟨_,rfl,r⟩
theorem Vals.two:∀{x y:V} {us:List Value},Vals [x,y] us→∃u v,us=[u,v]∧Yg x u∧Yg y v
 | _,_,_,.cons r (.cons q .nil)=>⟨_,_,rfl,r,q⟩
theorem Vals.zero:∀{us:List Value},Vals [] us→us=[]
 | _,.nil=>rfl
theorem Vals.dropLast {xs:List V}{us:List Value}(h:Vals xs us):Vals xs.dropLast us.dropLast:=by
 induction h with
 | nil=>exact .nil
 | cons r t ih=>
  cases t with
  | nil=>exact .nil
  | cons q t'=>exact .cons r ih
theorem Vals.eraseIdx:∀{xs:List V} {us:List Value} (i:Nat),Vals xs us→Vals (xs.eraseIdx i) (us.eraseIdx i)
 | _,_,_,.nil=>.nil
 | _,_,0,.cons _ t=>t
 | _,_,i+1,.cons r t=>.cons r (Vals.eraseIdx i t)
theorem Vals.rep {xs:List V}{us:List Value}(h:Vals xs us):∀k:Nat,Vals (List.replicate k xs).flatten (List.replicate k us).flatten
 | 0=>.nil
 | k+1=>by
  rw[List.replicate_succ,List.replicate_succ,List.flatten_cons,List.flatten_cons]
  exact Vals.append h (Vals.rep h k)
theorem Zrc {α:Type}(l:List α):l.eraseIdx (l.length-1)=l.dropLast:=by
 induction l with
 | nil=>rfl
 | cons a r ih=>
  cases r with
  | nil=>rfl
  | cons b r=>
   have e:(a::b::r).length-1=((b::r).length-1)+1:=by
    have h1:(a::b::r).length=r.length+2:=rfl
    have h2:(b::r).length=r.length+1:=rfl
    omega
   rw[e,List.eraseIdx_cons_succ,ih]
   all_goals rfl
theorem Zln {α:Type}:∀(l:List α) (i:Nat),(l.eraseIdx i).length≤l.length
 | [],_=>XE _
 | _::_,0=>Nat.le_succ _
 | _::r,i+1=>Nat.succ_le_succ (Zln r i)
theorem Zls (its:List Value):∀(k:Nat) (acc:List Value),
  List.foldl (fun x1 x2=>x1++x2) acc.toArray (List.replicate k its.toArray)=(acc++(List.replicate k its).flatten).toArray
 | 0,acc=>by simp
 | k+1,acc=>by
  have e:acc.toArray++its.toArray=(acc++its).toArray:=by simp
  have e2:(acc++its)++(List.replicate k its).flatten=acc++(List.replicate (k+1) its).flatten:=by
   rw[List.replicate_succ,List.flatten_cons,YL]
  rw[←e2,←Zls its k (acc++its),←e,List.replicate_succ,List.foldl_cons]
section
variable {X:Cx}{pins:List (Addr×Obj)}{σ:St}{H:Hp}{s:Shared}{l b:Addr}{xs ys zs:List V}
theorem Inv.lset {its its':List Value}{n:Nat}{f:Array Value→Array Value}{t':Nat}(I:Inv X pins σ H s)(hH:H l=some (.lst xs))
  (e:s.heap.get? l=some {cls:=.type "list",data:=.seq its.toArray n}) (hf:f its.toArray=its'.toArray) (hv:Vals ys its') (hz:ys.length≤sizeLine):
  Inv X pins σ (upd H l (.lst ys)) {s with heap:=s.heap.update l (Obj.mapSeq f),toks:=t'}:=by
 have q:=PySem.IsL.update e f
 rw[hf] at q
 refine I.write (x:=l) (e:=l) (by rw[hH];exact trivial) (.inl rfl) (fun b' u hb hu=>(Heap.get?_update_other s.heap (Obj.mapSeq f) (Ne.symm hb)).trans hu) ⟨_,q⟩ ?_
 exact⟨hz,its',_,hv,q⟩
theorem Inv.lnew {its:List Value}{t':Nat}(I:Inv X pins σ H s)(hv:Vals ys its)(hz:ys.length≤sizeLine):
  Inv X pins σ (upd H s.heap.objs.size (.lst ys)) {s with heap:=s.heap.push {cls:=.type "list",data:=.seq its.toArray},toks:=t'}:=
 I.laid (fun _ _ q=>XC _ q) (XE _) ⟨hz,its,0,hv,XF _ rfl⟩
theorem Inv.fresh (I:Inv X pins σ H s):H s.heap.objs.size=none:=I.hok.fresh (XE _)
theorem Inv.lstM (I:Inv X pins σ H s)(hH:H l=some (.lst xs)):xs.length≤sizeLine∧∃(its:List Value) (n:Nat),Vals xs its∧xs.length=its.length∧s.heap.get? l=some {cls:=.type "list",data:=.seq its.toArray n}:=by
 obtain⟨z,its,n,r,e⟩:=I.hok l _ hH
 exact⟨z,its,n,r,r.length,e⟩
theorem Zoy {n:Nat}(h:n≤sizeLine):Builtin.List.listTooLong n=false:=by
 unfold Builtin.List.listTooLong
 exact YG (by omega)
end
section
variable {X:Cx}
def Zyq:V→List V→Hp→VK→Prop:=fun x vs H Q=>∃l xs y,x=.ref l∧vs=[y]∧H l=some (.lst xs)∧xs.length<sizeLine∧Q .non (upd H l (.lst (xs++[y])))
theorem Zlj:MtM X "list.append" Zyq:=by
 intro pins s σ H x vs v us Q I rx rv h
 obtain⟨l,xs,y,rfl,rfl,hH,hz,q⟩:=h
 cases rx
 obtain⟨u,rfl,ru⟩:=rv.one
 obtain⟨z,its,n,r,hl,e⟩:=I.lstM hH
 refine call_meets F.slot_list_append ⟨_,e,rfl⟩ F.entry_list_append (F.args_list_append_2 _ _) (PySem.list_append l its.toArray n u (by rw[XJ];omega)) ⟨e,?_⟩
 refine⟨.non,_,I.lset (its':=its++[u]) hH e (by simp) (r.append (.cons ru .nil)) ?_,rfl,q⟩
 rw[List.length_append,List.length_singleton]
 omega
def Zyp:V→List V→Hp→VK→Prop:=fun x vs H Q=>∃l b xs zs,x=.ref l∧vs=[.ref b]∧H l=some (.lst xs)∧H b=some (.lst zs)∧xs.length+zs.length≤sizeLine∧Q .non (upd H l (.lst (xs++zs)))
theorem Ztj:MtM X "list.extend" Zyp:=by
 intro pins s σ H x vs v us Q I rx rv h
 obtain⟨l,b,xs,zs,rfl,rfl,hH,hB,hz,q⟩:=h
 cases rx
 obtain⟨u,rfl,ru⟩:=rv.one
 cases ru
 obtain⟨z,its,n,r,hl,e⟩:=I.lstM hH
 obtain⟨z2,its2,n2,r2,hl2,e2⟩:=I.lstM hB
 have hsz:its.toArray.size+its2.toArray.size≤sizeLine:=by rw[XJ,XJ];omega
 have hlong:¬(!its.toArray.isEmpty&&Builtin.List.listTooLong (its.toArray.size+its2.toArray.size))=true:=by
  rw[Zoy hsz,Bool.and_false]
  exact YJ
 refine call_meets F.slot_list_extend ⟨_,e,rfl⟩ F.entry_list_extend (F.args_list_extend_2 _ _)
  (AutoSeq1.list_extend_list_list_0 l its.toArray n b its2.toArray n2 hlong (by rw[XJ];omega) (by omega)) ⟨e,e2,?_⟩
 refine⟨.non,_,I.lset (its':=its++its2) hH e (by simp) (r.append r2) ?_,rfl,q⟩
 rw[List.length_append]
 omega
def rPop:V→List V→Hp→VK→Prop:=fun x vs H Q=>∃l xs y,x=.ref l∧vs=[]∧H l=some (.lst xs)∧xs[xs.length-1]?=some y∧Q y (upd H l (.lst xs.dropLast))
theorem Z3f:MtM X "list.pop" rPop:=by
 intro pins s σ H x vs v us Q I rx rv h
 obtain⟨l,xs,y,rfl,rfl,hH,hy,q⟩:=h
 cases rx
 have hus:=rv.zero
 subst hus
 obtain⟨z,its,n,r,hl,e⟩:=I.lstM hH
 obtain⟨u,hu,ru⟩:=r.get hy
 have hy':its.toArray[its.toArray.size-1]?=some u:=by
  show its.toArray[its.length-1]?=some u
  rw[←Array.getElem?_toList,←hl]
  exact hu
 refine call_meets F.slot_list_pop ⟨_,e,rfl⟩ F.entry_list_pop (F.args_list_pop_1 _) (MeetsSeq.list_pop_last l its.toArray n u hy' (by rw[XJ];omega)) ⟨e,?_⟩
 refine⟨y,_,I.lset (its':=its.dropLast) hH e ?_ r.dropLast ?_,ru,q⟩
 ·show its.toArray.eraseIdxIfInBounds (its.toArray.size-1)=its.dropLast.toArray
  rw[XJ,List.eraseIdxIfInBounds_toArray,Zrc]
 ·rw[List.length_dropLast]
  omega
def Z13:V→List V→Hp→VK→Prop:=fun x vs H Q=>∃l xs i k y,x=.ref l∧vs=[.int i]∧H l=some (.lst xs)∧ -(2^63)≤i∧i<2^63∧seqIndex? i xs.length=some k∧xs[k]?=some y∧Q y (upd H l (.lst (xs.eraseIdx k)))
theorem Zwa:MtM X "list.pop" Z13:=by
 intro pins s σ H x vs v us Q I rx rv h
 obtain⟨l,xs,i,k,y,rfl,rfl,hH,h1,h2,hk,hy,q⟩:=h
 cases rx
 obtain⟨u,rfl,ru⟩:=rv.one
 obtain⟨t,rfl⟩:=ru
 obtain⟨z,its,n,r,hl,e⟩:=I.lstM hH
 obtain⟨w,hw,rw'⟩:=r.get hy
 refine call_meets F.slot_list_pop ⟨_,e,rfl⟩ F.entry_list_pop (F.args_list_pop_2 _ _)
  (MeetsSeq.list_pop_at l its.toArray n i t k w (fitsIndex_both h1 h2) (by rw[XJ,←hl];exact hk) (by rw[←Array.getElem?_toList];exact hw) (by rw[XJ];omega)) ⟨e,?_⟩
 refine⟨y,_,I.lset (its':=its.eraseIdx k) hH e ?_ (r.eraseIdx k) ?_,rw',q⟩
 ·show its.toArray.eraseIdxIfInBounds k=(its.eraseIdx k).toArray
  rw[List.eraseIdxIfInBounds_toArray]
 ·have:=Zln xs k
  omega
def rCat:R2:=fun x y H Q=>∃l b xs zs,x=.ref l∧y=.ref b∧H l=some (.lst xs)∧H b=some (.lst zs)∧xs.length+zs.length≤sizeLine∧∀p,H p=none→Q (.ref p) (upd H p (.lst (xs++zs)))
theorem Z2z:OpR X (binaryOp .Add) rCat:=by
 intro pins s σ H x y v u Q I rx ry h
 obtain⟨l,b,xs,zs,rfl,rfl,hH,hB,hz,q⟩:=h
 cases rx
 cases ry
 obtain⟨z,its,n,r,hl,e⟩:=I.lstM hH
 obtain⟨z2,its2,n2,r2,hl2,e2⟩:=I.lstM hB
 refine PySem.P.add_list e e2 ?_ (by rw[XJ,XJ];omega)
 have ea:its.toArray++its2.toArray=(its++its2).toArray:=by simp
 rw[ea]
 exact⟨.ref _,_,I.lnew (t':=s.toks) (r.append r2) (by rw[List.length_append];omega),rfl,q _ I.fresh⟩
def rRep:R2:=fun x y H Q=>∃l k xs,x=.ref l∧y=.int k∧H l=some (.lst xs)∧ -(2^63)≤k∧k<2^63∧xs.length*k.toNat≤sizeLine∧
 ∀p,H p=none→Q (.ref p) (upd H p (.lst (List.replicate k.toNat xs).flatten))
theorem Zzv {α:Type}(xs:List α)(k:Nat):(List.replicate k xs).flatten.length=k*xs.length:=by
 induction k with
 | zero=>simp
 | succ k ih=>rw[List.replicate_succ,List.flatten_cons,List.length_append,ih,Nat.succ_mul,Nat.add_comm]
theorem Z2u:OpR X (binaryOp .Mult) rRep:=by
 intro pins s σ H x y v u Q I rx ry h
 obtain⟨l,k,xs,rfl,rfl,hH,h1,h2,hz,q⟩:=h
 cases rx
 obtain⟨t,rfl⟩:=ry
 obtain⟨z,its,n,r,hl,e⟩:=I.lstM hH
 have hlen:its.toArray.size*k.toNat≤sizeLine:=by rw[XJ,←hl];exact hz
 have hcap:¬its.toArray.size*k.toNat>(2^63-1)/8:=by
  have:(sizeLine:Nat)≤(2^63-1)/8:=by decide
  omega
 have hfit:¬(!Builtin.List.listFitsIndex k)=true:=by
  rw[fitsIndex_both h1 h2]
  exact YJ
 have hlong:¬Builtin.List.listTooLong (its.toArray.size*k.toNat)=true:=by
  rw[Zoy hlen]
  exact YJ
 have hnew:List.foldl (fun x1 x2=>x1++x2) #[] (List.replicate (if its.toArray.isEmpty=true then 0 else k.toNat) its.toArray)=(List.replicate k.toNat its).flatten.toArray:=by
  have f0:∀m:Nat,List.foldl (fun x1 x2=>x1++x2) #[] (List.replicate m its.toArray)=(List.replicate m its).flatten.toArray:=fun m=>by
   have:=Zls its m []
   rw[List.nil_append] at this
   exact this
  rw[f0]
  cases its with
  | nil=>simp
  | cons a r'=>rw[if_neg (by simp)]
 refine wpAny_binaryOp_repeat_ref (T:="list") (U:="int") (by decide) ⟨_,e,rfl⟩ (fun s'=>typeIs_int s' k t) noFill_list_mul F.fills_int_mul F.slot_int_rmul repeat_list F.slot_int_index.lookup
  (call_meets F.slot_int_rmul (typeIs_int s k t) F.entry_int_rmul (F.args_int_rmul_2 _ _) (int___rmul___int_list k t l its.toArray n)
   ⟨e,rfl,⟨_,e,rfl⟩,call_meets F.slot_list_mul ⟨_,e,rfl⟩ F.entry_list_mul (F.args_list_mul_2 _ _) (AutoListH.list___mul___list_int_3 l its.toArray n k t hfit hcap hlong) ⟨e,?_⟩⟩)
 rw[hnew]
 exact⟨.ref _,_,I.lnew (t':=s.toks) (r.rep k.toNat) (by rw[Zzv,Nat.mul_comm];exact hz),rfl,q _ I.fresh⟩
end
section
variable {prog:Program}{w:World}{A:Around}{E:Value→Shared→Prop}{s:Shared}
end
section
variable {X:Cx}
end
end L2
namespace Att
open PySem PySem.W PySem.Calls PyProof.Rows
theorem Ziq {P:Params}{h:Heap}:∀(ns:List Int) (vs:List Value),WellAll P h vs (ns.map WData.int)→IntsAre vs ns:=by
 intro ns
 induction ns with
 | nil=>
  intro vs w
  rw[List.map_nil] at w
  cases w
  exact .nil
 | cons n ns ih=>
  intro vs w
  rw[YI] at w
  cases w with
  | cons a b=>
   cases a
   exact .cons _ _ (ih _ b)
theorem Zs1 {l:OpenLaw}{n:Nat}(hn:l.most=some n){P:Params}{h:Heap}{args:List WData}{vals:List Value}
  (hpre:l.row.toRowW.claim.pre args=true) (hwl:WellAll P h vals args):
  ∃a vs ns,vals=[Value.ref a]∧args=[WData.list (ns.map WData.int)]∧h.get? a=some {cls:=.type "list",data:=.seq vs.toArray}∧IntsAre vs ns∧ns.length≤n:=by
 have hsh:WShape.hasAll [] args [.list .int]=true:=(pre_splitW hpre).1
 have hc:l.pre.holds [] {args:=args}=true:=(pre_splitW hpre).2
 obtain⟨d,r,rfl,h1,h2⟩:=hasAllW_cons hsh
 obtain rfl:=hasAllW_nil h2
 obtain⟨xs,rfl,h3⟩:=hasW_list h1
 obtain⟨ns,rfl⟩:=items_int h3
 have hlen:ns.length≤n:=by
  unfold OpenLaw.pre at hc
  have h4:(WTm.not (.lt (.lit (.int (n:Int))) (.len (.arg 0)))).holds [] {args:=[.list (ns.map .int)]}=true:=by
   have h4:=(holds_andW hc).1
   rw[hn] at h4
   exact h4
  have h5:=condW_of h4 (w_not (w_lt w_lit (w_len_list (w_arg rfl))))
  rw[XI] at h5
  refine Nat.le_of_not_lt fun q=>?_
  have q':(n:Int)<((ns.length:Nat):Int):=by omega
  first
   | (rw[decide_eq_true q'] at h5;exact absurd h5 (by decide))
   | (simp at h5;omega)
 cases hwl with
 | cons w1 w2=>
  cases w2
  cases w1 with
  | list ho hall=>exact⟨_,_,ns,rfl,rfl,ho,Ziq ns _ hall,hlen⟩
theorem Zs9 (l:OpenLaw)(args:List WData):l.row.toRowW.claim.post args (.bool true) args=true:=
 postW_of (r:=l.row.toRowW) (X:=(true==true))
  (show WShape.has [] (.bool true) .bool=true by first | rfl | decide | simp[WShape.has,WShape.arms,WShape.armsAll])
  (show(WTm.eq .res (.lit (.bool true))).value [] {args:=args,res:=some (.bool true),after:=args}=some (.bool (true==true)) from w_eq_bool (w_res rfl) w_lit) rfl
theorem attach_call {l:OpenLaw}{n:Nat}{q:Program}{loose:List Str}{XP:(Str→Option Value)→Heap→Prop}{YP:World→Heap→Prop}{d:DefRec}
  (hn:l.most=some n) (hdf:d.params.defaults=[])
  (call:∀(w:World) (s₀ s₁:Shared) (mg mb:Str→Option Value) (fa:Addr) (o:Obj) (pm cd doc:Value) (a:Addr) (vs:List Value) (ns:List Int),
   Ground q loose [] XP w s₀ mg mb s₁.heap→YP w s₁.heap→
   s₁.heap.get? fa=some o→o.data=.func (docDef d.name d.params d.body d.scope pm cd doc)→s₁.heap.CodeRec cd d.name→mg d.name=some (.ref fa)→
   s₁.heap.get? a=some {cls:=.type "list",data:=.seq vs.toArray}→IntsAre vs ns→ns.length≤n→s₁.gens=#[]→
   codeAny (model l.prog w) callerA (.call (.ref fa) ⟨[.ref a],[]⟩) (fun r s'=>r=.ok (.ret (.bool true))∧OldK s₁.heap s'.heap∧s'.os=s₁.os∧AllBare s'.gens) s₁):
  WalkO q loose XP YP l.row.toRowW d [] (fun f vs=>PySem.call f vs):=by
 intro w s₀ s₁ mg mb G Y fa o pm cd doc dV kV ho hd hcd hD hmg hg args vals as hpre hlay hrd hwl hlo
 obtain rfl:dV=.none:=Dflts.none hD hdf
 obtain rfl:kV=.none:=Dflts.noKw hD
 obtain⟨a,vs,ns,rfl,rfl,hobj,hints,hlen⟩:=Zs1 hn hpre hwl
 refine enter_call (codeAny_mono (call w s₀ s₁ mg mb fa o pm cd doc a vs ns G Y ho (fd_plain hd) hcd hmg hobj hints hlen hg) fun r s' hq=>?_)
 obtain⟨rfl,h2,h3,h4⟩:=hq
 exact⟨.inl ⟨.bool true,.bool true,[],rfl,fun _=>rfl,.bool true,Zs9 l _,fun _=>⟨List.Pairwise.nil,fun _ hm=>(nomatch hm)⟩⟩,h2,h3,h4⟩
section
variable {prog:Program}{w:World}{A:Around}{E:Value→Shared→Prop}{s:Shared}{K:Frag}
def ledger (h:Heap)(L d:Addr):List (Addr×Obj):=(List.range h.objs.size).filterMap fun a=>if a=L∨a=d then none else(h.get? a).map fun o=>(a,o)
end
end Att
namespace L2
open PySem PySem.Spec PyProof.Rows
theorem Zlc:∀{vs:List Value} {ns:List Int},IntsAre vs ns→Vals (ns.map V.int) vs
 | _,_,.nil=>.nil
 | _,_,.cons n t h=>.cons ⟨t,rfl⟩ (Zlc h)
def Only (H:Hp):Prop:=∀b,H b=none∨∃o xs,H b=some (.frz o (.lst xs))
theorem Zwm {P:Program}{w:World}{K:W.Frag}{mg mb:Str→Option Value}{CX:CXT}{k:Nat}{fa a:Addr}{fd:FuncData}{x:Str}{sp:Sp}{s₁:Shared}{vs:List Value}{ns:List Int}
  (KX:K.In s₁.heap) (hns:s₁.heap.Ns mainGlobals mg) (hb:s₁.heap.Ns builtinsNs mb) (hbb:∀x:Str,x≠"__name__"→mb x=bootBuiltins x) (hlim:s₁.heap.NoLimit) (hg:s₁.gens=#[])
  (ha:s₁.heap.get? a=some {cls:=.type "list",data:=.seq vs.toArray}) (hi:IntsAre vs ns) (hl:ns.length≤sizeLine) (hr:Room k callerA)
  (F:∀base:Heap,K.In base→base.Ns mainGlobals mg→FnOk P w K mg base CX k fa fd [x] sp) (hbind:∀(s:Shared) (u:Value),BindsTo s fd ⟨[u],[]⟩ [(x,u)])
  (hsp:∀H:Hp,Only H→SqL K H a (ns.map V.int)→sp [.ref a] H (fun v _=>v=.bl true) fun _ _ _=>False)
  (hCX:∀H e s',CX [] H s₁ (fun _ _ _=>False) e s'→False):
  codeAny (model P w) callerA (.call (.ref fa) ⟨[.ref a],[]⟩) (fun r s'=>r=.ok (.ret (.bool true))∧OldK s₁.heap s'.heap∧s'.os=s₁.os∧AllBare s'.gens) s₁:=by
 have rv:=Zlc hi
 have lenV:=hi.length
 have core:∀H:Hp,Only H→SqL K H a (ns.map V.int)→HOk P w H s₁.heap→(∀b,H b≠none→b=a)→(H a≠none→K.lookup a=none)→
   codeAny (model P w) callerA (.call (.ref fa) ⟨[.ref a],[]⟩) (fun r s'=>r=.ok (.ret (.bool true))∧OldK s₁.heap s'.heap∧s'.os=s₁.os∧AllBare s'.gens) s₁:=by
  intro H hO hS hok hA hK
  have base_of:∀{b:Addr} {o:Obj},s₁.heap.get? b=some o→H b=none→(hidT s₁.heap H).get? b=some o:=fun e n=>Zw0 e n
  have noA:∀{b:Addr} {o:Obj} {es:Array DictEntry} {ep:Nat},s₁.heap.get? b=some o→o.data=.dict es ep→H b=none:=fun {b o es ep} e d=>by
   cases q:H b with
   | none=>rfl
   | some u=>
    have e':b=a:=hA b (by rw[q];simp)
    subst e'
    rw[ha] at e;cases e
    have d':Data.seq vs.toArray _=Data.dict es ep:=d
    cases d'
  have nsK:∀{b:Addr} {m:Str→Option Value},s₁.heap.Ns b m→(hidT s₁.heap H).Ns b m:=fun {b m} ⟨o,es,ep,e,d,r⟩=>⟨o,es,ep,base_of e (noA e d),d,r⟩
  have hKb:K.In (hidT s₁.heap H):=fun b o e=>base_of (KX b o e) (by
   cases q:H b with
   | none=>rfl
   | some u=>
    have e':b=a:=hA b (by rw[q];simp)
    subst e'
    rw[hK (by rw[q];simp)] at e;cases e)
  have hM:Mod K mg (hidT s₁.heap H):=⟨hKb,nsK hns,⟨mb,nsK hb,hbb⟩,let ⟨mc,h1,h2⟩:=hlim;⟨mc,nsK h1,h2⟩⟩
  have e0:Env0 P w K mg (hidT s₁.heap H) callerA [] s₁ H:=⟨rfl,hM,fun b o e=>Zzk e,Nat.le_of_eq (Ztx _ _),trivial,fun b hb=>absurd (show b∈([]:List Addr) from hb) (by simp),hok,.of_eq hg⟩
  refine codeAny_mono ((F _ hKb (nsK hns)).run callerA [] s₁ H ⟨[.ref a],[]⟩ [.ref a] [.ref a] _ _ hr e0 (hbind s₁ (.ref a)) (.cons rfl .nil) (hsp H hO hS)) fun r s' h=>?_
  cases r with
  | error e=>exact(hCX H e s' h).elim
  | ok fl=>
   cases fl with
   | next=>exact False.elim h
   | brk=>exact False.elim h
   | cont=>exact False.elim h
   | ret u=>
    obtain⟨v,H',os,bare,un,hok',r',q⟩:=h
    have q':v=.bl true:=q
    subst q'
    obtain rfl:u=Value.bool true:=r'
    refine⟨rfl,OldK.of_keep fun b o e=>?_,os,bare⟩
    cases q:H b with
    | none=>exact un.keep b o e q (by intro z;exact absurd (show b∈([]:List Addr) from z) (by simp)) (by simp)
    | some u=>
     rcases hO b with z | ⟨ob,xs,z⟩
     ·rw[q] at z;cases z
     ·have z2:=un.frzs b ob _ z
      obtain⟨e1,_⟩:=hok b _ z
      obtain⟨e2,_⟩:=hok' b _ z2
      rw[e] at e1;cases e1
      exact e2
 cases hk:K.lookup a with
 | some o=>
  have e:=KX a o hk
  rw[ha] at e
  cases e
  refine core (fun _=>none) (fun _=>.inl rfl) (.inr ⟨_,vs.toArray,_,hk,rfl,rfl,rfl,by rw[List.size_toArray,lenV];exact hl,by simpa using rv⟩) (fun b u z=>by have z':(none:Option HO)=some u:=z;cases z') (fun b z=>absurd rfl z) fun z=>absurd rfl z
 | none=>
  refine core (fun b=>if b=a then some (.frz {cls:=.type "list",data:=.seq vs.toArray} (.lst (ns.map V.int))) else none) (fun b=>?_) (.inl (.inr ⟨{cls:=.type "list",data:=.seq vs.toArray},XY rfl⟩)) (fun b u z=>?_) (fun b z=>?_) fun _=>hk
  ·by_cases hb:b=a
   ·exact .inr ⟨_,_,XY hb⟩
   ·exact .inl (XX hb)
  ·by_cases hb:b=a
   ·have z':=(XY hb).symm.trans z
    cases z'
    subst hb
    exact⟨ha,by rw[XI];exact hl,vs,_,rv,ha⟩
   ·have z':=(XX hb).symm.trans z
    cases z'
  ·by_cases hb:b=a
   ·exact hb
   ·exact absurd (XX hb) z
abbrev KOf {K:W.Frag}{h:Heap}(_:K.In h):W.Frag:=K
theorem walk_of {l:W.OpenLaw}{n k:Nat}{q:Program}{loose:List Str}{XP:(Str→Option Value)→Heap→Prop}{YP:World→Heap→Prop}{d:DefRec}{K:Params→W.Frag}{CX:World→CXT}{sp:World→Sp}{x:Str}
  (hn:l.most=some n) (hn2:n≤sizeLine) (hdf:d.params.defaults=[]) (hr:Room k callerA)
  (hY:∀(w:World) (h:Heap),YP w h→(K w.params).In h)
  (F:∀(w:World) (mg:Str→Option Value) (fa:Addr) (h:Heap),(K w.params).In h→h.Ns mainGlobals mg→mg d.name=some (.ref fa)→
   ∃fd:FuncData,(∀(s:Shared) (u:Value),BindsTo s fd ⟨[u],[]⟩ [(x,u)])∧
    ∀base:Heap,(K w.params).In base→base.Ns mainGlobals mg→FnOk l.prog w (K w.params) mg base (CX w) k fa fd [x] (sp w))
  (hsp:∀(w:World) (H:Hp) (a:Addr) (ns:List Int),ns.length≤n→Only H→SqL (K w.params) H a (ns.map V.int)→sp w [.ref a] H (fun v _=>v=.bl true) fun _ _ _=>False)
  (hCX:∀(w:World) (H:Hp) (s:Shared) (e:Value) (s':Shared),CX w [] H s (fun _ _ _=>False) e s'→False):
  W.WalkO q loose XP YP l.row.toRowW d [] (fun f vs=>PySem.call f vs):=by
 refine Att.attach_call hn hdf fun w s₀ s₁ mg mb fa o pm cd doc a vs ns G Y ho hd hcd hmg hobj hints hlen hg=>?_
 have KX:=hY w _ Y
 obtain⟨fd,hb,hF⟩:=F w mg fa _ KX G.T.g hmg
 exact Zwm KX G.T.g G.T.b G.T.builtins G.T.nolimit hg hobj hints (XN hlen hn2) hr hF hb (fun H hO hS=>hsp w H a ns hlen hO hS) fun H e s'=>hCX w H s₁ e s'
theorem walk_ofK {l:W.OpenLaw}{n k:Nat}{q:Program}{loose:List Str}{XP:(Str→Option Value)→Heap→Prop}{YP:World→Heap→Prop}{d:DefRec}{K:Params→W.Frag}{CX:CXT}{sp:W.Frag→Sp}{x:Str}
  (hn:l.most=some n) (hn2:n≤sizeLine) (hdf:d.params.defaults=[]) (hr:Room k callerA)
  (hY:∀(w:World) (h:Heap),YP w h→(K w.params).In h)
  (F:∀(w:World) (mg:Str→Option Value) (fa:Addr) (h:Heap),(K w.params).In h→h.Ns mainGlobals mg→mg d.name=some (.ref fa)→
   ∃fd:FuncData,(∀(s:Shared) (u:Value),BindsTo s fd ⟨[u],[]⟩ [(x,u)])∧
    ∀base:Heap,(K w.params).In base→base.Ns mainGlobals mg→FnOk l.prog w (K w.params) mg base CX k fa fd [x] (sp (K w.params)))
  (hsp:∀(K:W.Frag) (H:Hp) (a:Addr) (ns:List Int),ns.length≤n→Only H→SqL K H a (ns.map V.int)→sp K [.ref a] H (fun v _=>v=.bl true) fun _ _ _=>False)
  (hCX:∀(H:Hp) (s:Shared) (e:Value) (s':Shared),CX [] H s (fun _ _ _=>False) e s'→False):
  W.WalkO q loose XP YP l.row.toRowW d [] (fun f vs=>PySem.call f vs):=
 walk_of (K:=K) (CX:=fun _=>CX) (sp:=fun w=>sp (K w.params)) hn hn2 hdf hr hY F (fun w H a ns h1 h2 h3=>hsp (K w.params) H a ns h1 h2 h3) fun _ H s e s'=>hCX H s e s'
end L2
/-THE LAST THEOREM (shape;LID,My.*are yours):
  My.Adr:a structure of the addresses that your layer names (classes,functions);My.Txt K t:a structure (Prop) of the equations over K;
  My.txt_mk:{K} {implicit addresses ..} (e1:nsIn K mainGlobals "law"=some (some (.ref f))) (e2:K.lookup f=some ⟨oc,od,.func (fnOf "law" "law" params body scope dV kV doc pm an cdv ct),sl⟩) (e3:codeIn K cdv "law"=true) ..:∃t,My.Txt K t
set_option maxRecDepth 100000 in
set_option maxHeartbeats 0 in
theorem PySem.Challenge.cw_LID_holds:PySem.Challenge.rw_LID.Holds:=by
 w_on;o_law;k_head;(case hw=>w_witness2)
 k_fill
 refine L2.walk_of (l:=PySem.Challenge.rw_LID) (n:=63) (k:=40) (x:="script") (CX:=fun w=>..) (sp:=fun _=>My.sp_law) rfl (by decide) rfl ⟨rfl,by decide,by decide⟩ (fun w h Y=>W.kIn_of Y) ?F ?S ?C
 case F=>
  intro w mg fa h KX G hmg
  have T:∃t,My.Txt (L2.KOf KX) t:=by
   dsimp only[L2.KOf]--K must stand as «<heap const>w.params» for k_is
   refine' My.txt_mk ?e1 ?e2 ?e3 ..
   (case e1=>W.k_is)--in the order:a name->its address->its object->its parts
   (case e2=>W.k_is)
   ..
  obtain⟨t,T⟩:=T
  have e0:=hmg.symm.trans (W.mg_of KX G T.law)
  cases e0--fa is the law's own address
  exact⟨_,fun s u=>.of_eq rfl,fun base kb nb=>My.law_fn T kb nb⟩--if «.of_eq rfl» comes too early:refine' ⟨_,?b,fun base kb nb=>My.law_fn T kb nb⟩;exact fun s u=>.of_eq rfl
 case S=>exact fun w H a ns hl hO hS=>..
 case C=>exact ..
(the tactic k_is has no namespace:write k_is)-/
namespace L2
open PySem PySem.Spec PyProof.Rows
def Jp (s:Stmt)(j:Nat):Stmt:=match s with
 | .ClassDef _ _ _ body _ _ _ _ _ _ _=>body.getD j (.Pass ⟨0,0,0,0⟩)
 | _=>.Pass ⟨0,0,0,0⟩
def Zy (s:Stmt):Arguments:=match s with
 | .FunctionDef _ a _ _ _ _ _ _ _ _=>a
 | _=>{posonlyargs:=[],args:=[],vararg:=none,kwonlyargs:=[],kw_defaults:=[],kwarg:=none,defaults:=[]}
def Zm (s:Stmt):List Stmt:=match s with
 | .FunctionDef _ _ b _ _ _ _ _ _ _=>b
 | _=>[]
def Zl (s:Stmt):Scope:=match s with
 | .FunctionDef _ _ _ _ _ _ sc _ _ _=>sc
 | _=>{kind:=.function,names:=[],isGenerator:=false,isCoroutine:=false}
abbrev CX0:CXT:=fun _ _ _ _ _ _=>False
abbrev E0:XK:=fun _ _ _=>False
theorem pass0 {X:Cx}:Passes CX0 X E0:=fun _ _ _ _ _ _ _ h=>h.elim
structure Fun (K:W.Frag)(x qual:Str)(st:Stmt)(f:Addr)(fd:FuncData):Prop where
 ex:∃(oc:Value) (od:Option Addr) (kV doc pm:Value) (an:Option Addr) (cdv ct:Value) (osl:Array (Option Value)),
  fd=W.fnOf x qual (Zy st) (Zm st) (Zl st) .none kV doc pm an cdv ct∧K.lookup f=some ⟨oc,od,.func fd,osl⟩∧W.codeIn K cdv qual=true
 kp:W.keepIn K (.ref f)=true
section
variable {P:Program}{w:World}{K:W.Frag}{mg:Str→Option Value}{base:Heap}
theorem Fun.ok {x qual:Str}{st:Stmt}{f:Addr}{fd:FuncData}{N ps:List Str}{k:Nat}{sp:Sp}(F:Fun K x qual st f fd)(S:FnScope N ps (Zl st))(len:∀vs H Q E,sp vs H Q E→vs.length=ps.length)
  (hbody:∀(cdv:Value) (A:Around) (outer:List Env) (s:Shared) (H:Hp) (vs:List V) (Q:VK) (E:XK),Room k (A.deeper (envOfC qual (Zl st) s.heap.objs.size f cdv))→sp vs H Q E→
   ∃t,PSs (cxOf CX0 P w K mg base N qual (Zl st) f cdv A outer s H E).nox (Zm st) t∧t {nx:=fun _ H'=>Q .non H',rt:=Q} (start N vs) H):FnOk P w K mg base CX0 (k+1) f fd ps sp:=by
 obtain⟨oc,od,kV,doc,pm,an,cdv,ct,osl,rfl,lk,hcd⟩:=F.ex
 refine Z1a lk hcd S len fun A outer s H vs Q E hr hsp=>?_
 obtain⟨t,h,q⟩:=hbody cdv A outer s H vs Q E hr hsp
 exact⟨t,h.nox,q⟩
theorem Fun.binds {x qual:Str}{st:Stmt}{f:Addr}{fd:FuncData}{ps:List Str}(F:Fun K x qual st f fd)
  (h:∀(kV doc pm:Value) (an:Option Addr) (cdv ct:Value) (us:List Value),us.length=ps.length→bindArgs (W.fnOf x qual (Zy st) (Zm st) (Zl st) .none kV doc pm an cdv ct) ⟨us,[]⟩=pure (ps.zip us)):Binds K fd ps []:=by
 obtain⟨oc,od,kV,doc,pm,an,cdv,ct,osl,rfl,lk,hcd⟩:=F.ex
 exact .all (h kV doc pm an cdv ct)
theorem Z7 {x qual:Str}{st:Stmt}{f:Addr}{oc:Value}{od an:Option Addr}{osl:Array (Option Value)}{kV doc pm cdv ct:Value}(l:K.lookup f=some ⟨oc,od,.func (W.fnOf x qual (Zy st) (Zm st) (Zl st) .none kV doc pm an cdv ct),osl⟩)
  (c:W.codeIn K cdv qual=true) (k:W.keepIn K (.ref f)=true):Fun K x qual st f (W.fnOf x qual (Zy st) (Zm st) (Zl st) .none kV doc pm an cdv ct):=⟨⟨oc,od,kV,doc,pm,an,cdv,ct,osl,rfl,l,c⟩,k⟩
end
theorem small1000 {n:Nat}(h:n≤1000):n<sizeLine:=Nat.lt_of_le_of_lt h (by decide)
section
variable {X:Cx}
end
def Same (H H':Hp):Prop:=∀b o,H b=some o→H' b=some o
section
variable {X:Cx}
def capS (cap:List (Option Nat))(σ:St):St:=cap.map fun o=>o.bind fun i=>(σ[i]?).join
def Jh (X:Cx)(cN:List Str)(scope:Scope)(cl:List (Str×Addr))(fp:List Addr)(s:Shared)(H:Hp):Cx:=
 {X with N:=cN,s₀:=s,H₀:=H,env:=compEnvC scope cl s.heap.objs.size X.env,outer:=X.stack,ex:=fp,fn:=fun _=>false,pn:=[],xe:=fun _ _=>False}
def PIfs (X:Cx)(ifs:List Expr)(c:TT):Prop:=
 ∀(pins:List (Addr×Obj)) (s:Shared) (σ:St) (H:Hp) (Q:Bool→Hp→Prop),Inv X pins σ H s→c σ H Q→
  wpAny (model X.prog X.w) X.A (forIn ifs true fun c r=>if r=true then do let ok ←isTrue c X.env (eval c X.env);pure (ForInStep.yield ok) else pure (ForInStep.yield r)) (TP X pins σ Q) X.xe s
def tNoIf:TT:=fun _ H Q=>Q true H
theorem Zy7:PIfs X [] tNoIf:=fun _ _ _ H _ I h=>wpAny_tests_nil ⟨H,I,h⟩
theorem Zy6 {e:Expr}{t:TT}(h:PT X e t):PIfs X [e] t:=fun pins s σ H Q I q=>wpAny_tests_one (h pins s σ H Q I q)
def Zl1 (js:List Nat)(g:TG):Prop:=∀x σ H Q,g x σ H Q→g x σ H fun σ' H'=>Q σ' H'∧σ'.length=σ.length∧∀i,i∉js→σ'[i]?=σ[i]?
def Zn1 (js:List Nat)(g:TGs):Prop:=∀x σ H Q,g x σ H Q→g x σ H fun σ' H'=>Q σ' H'∧σ'.length=σ.length∧∀i,i∉js→σ'[i]?=σ[i]?
theorem Xq {i:Nat}:Zl1 [i] (Zax i):=fun x σ H Q h=>⟨h,by simp,fun j hj=>by
 rw[List.getElem?_set_ne]
 intro e;exact hj (by simp[e])⟩
theorem Znj:Zn1 [] gNil:=fun x σ H Q h=>⟨h.1,h.2,rfl,fun _ _=>rfl⟩
def Zgp (g:TG):Prop:=∀x σ H (Q Q':St→Hp→Prop),(∀σ' H',Q σ' H'→Q' σ' H')→g x σ H Q→g x σ H Q'
def Zhs (g:TGs):Prop:=∀x σ H (Q Q':St→Hp→Prop),(∀σ' H',Q σ' H'→Q' σ' H')→g x σ H Q→g x σ H Q'
theorem Yj {i:Nat}:Zgp (Zax i):=fun x σ H Q Q' h q=>h _ _ q
theorem Zbo:Zhs gNil:=fun x σ H Q Q' h q=>⟨q.1,h _ _ q.2⟩
theorem Zaa {g:TG}{u:TGs}(a:Zgp g)(b:Zhs u):Zhs (Zdz g u):=fun x σ H Q Q' h q=>by
 obtain⟨v,r,e,q⟩:=q
 exact⟨v,r,e,a _ _ _ _ _ (fun σ' H' z=>b _ _ _ _ _ h z) q⟩
theorem Zci {g:TG}{u:TGs}{js ks:List Nat}(a:Zl1 js g)(am:Zgp g)(b:Zn1 ks u)(bm:Zhs u):Zn1 (js++ks) (Zdz g u):=fun x σ H Q q=>by
 obtain⟨v,r,e,q⟩:=q
 refine⟨v,r,e,am _ _ _ _ _ (fun σ' H' z=>?_) (a _ _ _ _ q)⟩
 obtain⟨z,l1,k1⟩:=z
 refine bm _ _ _ _ _ (fun σ2 H2 z2=>?_) (b _ _ _ _ z)
 obtain⟨z2,l2,k2⟩:=z2
 exact⟨z2,l2.trans l1,fun i hi=>(k2 i fun z=>hi (XT _ z)).trans (k1 i fun z=>hi (List.mem_append_left _ z))⟩
theorem Zni {K:W.Frag}{n:Nat}{u:TGs}{js:List Nat}(b:Zn1 js u):Zl1 js (gTup K n u):=fun x σ H Q q=>by
 obtain⟨a,xs,e,hq,hl,q⟩:=q
 exact⟨a,xs,e,hq,hl,b _ _ _ _ q⟩
def tGo (cap:List (Option Nat))(g:TG)(c:TT)(te:TE)(σ:St)(Q:Addr→Hp→Prop)(J:It)(H1:Hp):Prop:=∀p,H1 p=none→∃W:Nat→Nat→Hp→Prop,(∃m,W 0 m (upd H1 p (.lst [])))∧∀i m H,W i m H→
 (J.stop i H∧Q p H)∨(J.go i H∧∃N:Hp→Prop,(∀H',N H'→∃m',m'<m∧W (i+1) m' H')∧∀x H',J.yld i H x H'→g x (capS cap σ) H' fun σ2 H2=>c σ2 H2 fun b H3=>
  if b=true then te σ2 H3 fun v H4=>∃xs,H4 p=some (.lst xs)∧xs.length<sizeLine∧N (upd H4 p (.lst (xs++[v]))) else N H3)
def Zmd (cap:List (Option Nat))(wi:TI)(g:TG)(c:TT)(te:TE):St→Hp→(Addr→Hp→Prop)→Prop:=fun σ H Q=>wi σ H fun J H1=>tGo cap g c te σ Q J H1
structure CompOk (X:Cx)(cN:List Str)(cap:List (Option Nat))(scope:Scope)(cl:List (Str×Addr)):Prop where
 clos:closureFor scope X.env=pure cl
 sub:∀n a,cl.lookup n=some a→X.env.cells.lookup n=some a
 cell:∀y∈scope.names,y.2≠.cell
 kind:scope.kind=.function
 names:∀x∈scope.names,x.2=.local→scope.names.lookup x.1=some .local
 len:cap.length=cN.length
 has:∀x,((relabel scope X.env).names.lookup x=some .cell∨(relabel scope X.env).names.lookup x=some .free)→∃a,cl.lookup x=some a
 capd:∀(i j:Nat) (x:Str),cap[i]?=some (some j)→cN[i]?=some x→X.N[j]?=some x∧Vis X.env.scope x∧X.env.scope.names.lookup x≠some .local∧((relabel scope X.env).names.lookup x=some .cell∨(relabel scope X.env).names.lookup x=some .free)
theorem Zxq {cap:List (Option Nat)}{σ:St}:(capS cap σ).length=cap.length:=XI _
theorem Zpx {cap:List (Option Nat)}{σ:St}{i:Nat}{v:V}(h:(capS cap σ)[i]?=some (some v)):∃j,cap[i]?=some (some j)∧σ[j]?=some (some v):=by
 unfold capS at h
 rw[XM] at h
 cases e:cap[i]? with
 | none=>rw[e] at h;cases h
 | some o=>
  rw[e] at h
  cases o with
  | none=>cases h
  | some j=>
   refine⟨j,rfl,?_⟩
   simp only[Option.map_some,Option.bind_some,Option.some.injEq] at h
   cases q:σ[j]? with
   | none=>rw[q] at h;cases h
   | some u=>rw[q] at h;simp only[Option.join_some] at h;rw[h]
theorem Zrg {cN:List Str}{cap:List (Option Nat)}{scope:Scope}{cl:List (Str×Addr)}{fp:List Addr}{pins:List (Addr×Obj)}{σ:St}{H:Hp}{s:Shared}{h':Heap}{m:Str→Option Value}{tk:Nat}
  (C:CompOk X cN cap scope cl) (I:Inv X pins σ H s) (f:∀b∈fp,FpOk X pins H b) (fl:∀b∈fp,b<s.heap.objs.size) (hn:h'.Ns s.heap.objs.size m) (k:∀b o,s.heap.get? b=some o→h'.get? b=some o):
  Inv (Jh X cN scope cl fp s H) [] (capS cap σ) H {s with heap:=h',toks:=tk}:=by
 have hfs:∀b∈fp,b∉frs X.stack:=fun b hb z=>by
  rcases List.mem_cons.mp (I.stkSub b z) with e | z
  ·exact(f b hb).2.1 e
  ·exact(f b hb).2.2.1 z
 have hcl:∀x c,cl.lookup x=some c→∃v,s.heap.IsCell c v:=fun x c e=>I.cell x c (C.sub x c e)
 refine⟨⟨I.ok.mod,?_,I.ok.glob,I.ok.blt,XE _,fun x y c e1 e2=>I.ok.inj x y c (C.sub x c e1) (C.sub y c e2),C.has,fun _ _ z=>(nomatch z),I.ok.hd,I.ok.frames,.inl rfl,fun b hb=>⟨XH (fl b hb),fun x c e=>(f b hb).2.2.2.2.1 x c (C.sub x c e)⟩,
   I.bs,Nat.le_trans I.ok.bsz I.sz,fun b o e z=>?_,hfs,I.stack,I.stkFree⟩,rfl,I.bare,Un.kept k,⟨m,hn,fun i x v h1 h2 h3=>?_⟩,fun x c e=>?_,I.fresh,fun x c e=>I.freeC x c (C.sub x c e),fun p hp=>absurd hp (by simp[Jh]),I.hok.kept k,?_⟩
 ·exact C.kind
 ·rcases (f b z).2.2.2.1 with q | q
  ·exact I.ok.noex b o e q
  ·exact absurd (XG (XD (I.ok.bs b o e).1) q) (Nat.lt_irrefl _)
 ·obtain⟨j,hj,hσ⟩:=Zpx h2
  obtain⟨n1,n2,n3,n4⟩:=C.capd i j x hj h1
  obtain⟨mo,hno,hlo⟩:=I.loc
  obtain⟨u,ru,lk⟩:=hlo j x v n1 hσ n2
  refine⟨u,ru,?_⟩
  rcases lk with⟨k1,_⟩ | ⟨_,c,e,z⟩
  ·exact absurd k1 n3
  ·obtain⟨a,ha⟩:=C.has x n4
   have ea:=C.sub x a ha
   rw[e] at ea;cases ea
   obtain⟨o,ho,hd⟩:=z
   exact .inr ⟨n4,c,ha,⟨o,k _ _ ho,hd⟩⟩
 ·obtain⟨v,o,ho,hd⟩:=hcl x c e
  exact⟨v,o,k _ _ ho,hd⟩
 ·show(capS cap σ).length=cN.length
  rw[Zxq,C.len]
theorem Zpv {cN:List Str}{scope:Scope}{cl:List (Str×Addr)}{fp:List Addr}{pins pins':List (Addr×Obj)}{σ σ':St}{H H':Hp}{s s':Shared}{h':Heap}
  (I:Inv X pins σ H s) (f:∀b∈fp,FpOk X pins H b) (J:Inv (Jh X cN scope cl fp s H) pins' σ' H' s') (sb:Heap.SameBut s.heap.objs.size s'.heap h'):Inv X pins σ H' {s' with heap:=h'}:=by
 have ne:∀b o,s.heap.get? b=some o→b≠s.heap.objs.size:=fun b o e=>XH (XD e)
 have B:Un (frs X.stack) fp H H' s.heap s'.heap:=J.base
 refine I.call' (s':={s' with heap:=h'}) (ch:=fp) J.os ⟨fun b o e n hb hx=>?_,fun b o e n hb hx=>?_,B.free,fun b o e hx=>?_,B.tups,B.frzs,B.tbls⟩ (fun b o e=>?_) J.bare fun b hb=>?_
 ·exact(sb.2 b (ne b o e)).trans (B.keep b o e n hb hx)
 ·obtain⟨sl,q⟩:=B.slot b o e n hb hx
  exact⟨sl,(sb.2 b (ne b o e)).trans q⟩
 ·obtain⟨o',q⟩:=B.there b o e hx
  exact⟨o',(sb.2 b (ne b o e)).trans q⟩
 ·have hf:H' s.heap.objs.size=none:=J.free
  refine(J.hok b o e).stay (fun c w' hc q=>(sb.2 c ?_).trans q) (fun _ q=>q) fun _ _ q=>q
  rintro rfl
  rcases hc with rfl | hc
  ·rw[hf] at e;cases e
  ·rw[hf] at hc;cases hc
 ·obtain⟨f0,f1,f2,f3,f4,f5⟩:=f b hb
  exact⟨f3,f1,f4,f5⟩
theorem Zl3 {α:Type}{t:Sem α}{Q:α→Shared→Prop}{M:Model}{A:Around}{E:Value→Shared→Prop}{s:Shared}(h:wpAny M A t Q (fun _ _=>False) s):wpAny M A t Q E s:=wpAny_mono h (fun _ _ q=>q) fun _ _ f=>f.elim
theorem Zt2 {tg iter elt:Expr}{ifs:List Expr}{scope:Scope}{pos:Pos}{cN:List Str}{cap:List (Option Nat)}{cl:List (Str×Addr)}{js:List Nat}{g:TG}{c:TT}{te:TE}{fp:List Addr}{it D:Addr}{tn:Nat→Heap→Prop}{J:It}
  {σ:St} {H:Hp} {s s':Shared} {Q:Addr→Hp→Prop} {R:Result→Shared→Prop} {H₀:Hp} (X:Cx)
  (hc:X.calm=true) (hg:PG (Jh X cN scope cl fp s H₀) tg g) (gm:Zgp g) (gk:Zl1 js g) (hjs:∀j∈js,(cap[j]?).join=none) (ht:PIfs (Jh X cN scope cl fp s H₀) ifs c) (tm:∀σ H (Q Q':Bool→Hp→Prop),(∀b H',Q b H'→Q' b H')→c σ H Q→c σ H Q') (he:PE (Jh X cN scope cl fp s H₀) elt te)
  (T:Turn X.prog X.w X.K tg J fp it tn) (W:Nat→Nat→Hp→Prop)
  (turn:∀i m H,W i m H→(J.stop i H∧Q D H)∨(J.go i H∧∃N:Hp→Prop,(∀H',N H'→∃m',m'<m∧W (i+1) m' H')∧∀x H',J.yld i H x H'→g x (capS cap σ) H' fun σ2 H2=>c σ2 H2 fun b H3=>
   if b=true then te σ2 H3 fun v H4=>∃xs,H4 D=some (.lst xs)∧xs.length<sizeLine∧N (upd H4 D (.lst (xs++[v]))) else N H3))
  (m:Nat) (w0:W 0 m H) (I:Inv (Jh X cN scope cl fp s H₀) [] (capS cap σ) H s') (st:tn 0 s'.heap) (f:∀b∈fp,FpOk (Jh X cN scope cl fp s H₀) [] H b)
  (hR:∀σ' H' s',Inv (Jh X cN scope cl fp s H₀) [] σ' H' s'→Q D H'→R (.ok .next) s'):
  codeAny (model X.prog X.w) X.A (.compLoop (.ListComp elt [⟨tg,iter,ifs,0⟩] scope pos) 0 (.ref it) (.ref D) (Jh X cN scope cl fp s H₀).env) R s':=by
 have stat:∀{H':Hp},(∀b∈fp,H' b=none)→∀b∈fp,FpOk (Jh X cN scope cl fp s H₀) [] H' b:=fun hn b hb=>⟨hn b hb,(f b hb).2⟩
 refine codeAny_loop rfl (fun n s'=>∃i H',Inv (Jh X cN scope cl fp s H₀) [] (capS cap σ) H' s'∧tn i s'.heap∧(∀b∈fp,H' b=none)∧W i n H') ?_ m ⟨0,H,I,st,fun b hb=>(f b hb).1,w0⟩
 rintro n s3 ⟨i,H3,I3,st3,fr3,w3⟩
 show wpAny _ X.A ((compTurn (.ListComp elt [⟨tg,iter,ifs,0⟩] scope pos) 0 (.ref it) (.ref D) (Jh X cN scope cl fp s H₀).env).onRaise (fun x=>do noteFrame x (Jh X cN scope cl fp s H₀).env;theTreesLotGoes x)) _ _ s3
 refine wpAny_noted (Zl3 ?_)
 rw[compTurn_list]
 refine XA (wpAny_standAt (XA ?_))
 rcases turn i n H3 w3 with⟨stop,qn⟩ | ⟨go,N,hN,step⟩
 ·refine thn (T.done (Jh X cN scope cl fp s H₀) rfl rfl rfl hc i [] s3 _ H3 _ I3 (stat fr3) st3 stop) fun r s4 ⟨hr,I4⟩=>?_
  subst hr
  exact XB (hR _ _ _ I4 qn)
 ·refine thn (T.item (Jh X cN scope cl fp s H₀) rfl rfl rfl hc i [] s3 _ H3 _ I3 (stat fr3) st3 go) fun r s4 ⟨u,hr,h4⟩=>?_
  subst hr
  refine XA (thn h4 fun _ s5 ⟨x,H5,I5,r5,y5,st5,fr5⟩=>?_)
  have I5':=I5.pinned (stat fr5) (T.obj _ _ st5)
  refine XA (thn (hg _ s5 _ H5 x u _ I5' r5 (gk _ _ _ _ (step x H5 y5))) fun _ s6 ⟨σ6,H6,I6,q6,l6,k6⟩=>?_)
  have back:∀{H7:Hp} {s7:Shared},Inv (Jh X cN scope cl fp s H₀) ([]++Zji fp s5.heap) σ6 H7 s7→N H7→∃m,m<n∧∃i H',Inv (Jh X cN scope cl fp s H₀) [] (capS cap σ) H' s7∧tn i s7.heap∧(∀b∈fp,H' b=none)∧W i m H':=fun {H7 s7} I7 n7=>by
   obtain⟨m',hm,w7⟩:=hN H7 n7
   refine⟨m',hm,i+1,H7,I7.unpinned.weak l6.symm fun j v hj=>?_,T.keep _ _ _ st5 fun b hb o e=>(I7.pin (b,o) (XT _ (XT _ (Zd7 hb e)))).1,fun b hb=>?_,w7⟩
   ·by_cases hjj:j∈js
    ·obtain⟨z,hz,_⟩:=Zpx hj
     have:=hjs j hjj
     rw[hz] at this;cases this
    ·rw[k6 j hjj];exact hj
   ·obtain⟨o,e,d⟩:=T.obj _ _ st5 b hb
    exact(I7.pin (b,o) (XT _ (XT _ (Zd7 hb e)))).2.1
  refine XA (thn (ht _ s6 σ6 H6 _ I6 q6) fun b s7 ⟨H7,I7,q7⟩=>?_)
  cases b with
  | false=>
   rw[XX YJ] at q7
   exact XB ⟨rfl,back I7 q7⟩
  | true=>
   rw[XY rfl] at q7
   refine XA (XA (thn (he _ s7 σ6 H7 _ I7 q7) fun y s8 ⟨v,H8,I8,r8,xs,e8,z8,n8⟩=>?_))
   refine XA (thn (Zlj _ s8 σ6 H8 (.ref D) [v] (.ref D) [y] (fun _ H9=>N H9) I8 rfl (.cons r8 .nil) ⟨D,xs,v,rfl,rfl,e8,z8,n8⟩) fun _ s9 ⟨_,H9,I9,_,q9⟩=>?_)
   exact XB (XB ⟨rfl,back I9 q9⟩)
section
variable {X:Cx}{tg iter elt:Expr}{ifs:List Expr}{scope:Scope}{pos:Pos}{cN:List Str}{cap:List (Option Nat)}{cl:List (Str×Addr)}{js:List Nat}{wi:TI}{g:TG}{c:TT}{te:TE}
structure CompP (X:Cx)(tg iter elt:Expr)(ifs:List Expr)(scope:Scope)(cN:List Str)(cap:List (Option Nat))(cl:List (Str×Addr))(js:List Nat)(wi:TI)(g:TG)(c:TT)(te:TE):Prop where
 calm:X.calm=true
 ok:X.Ok→CompOk X cN cap scope cl
 it:PI X tg iter wi
 tgt:∀fp s H,PG (Jh X cN scope cl fp s H) tg g
 gm:Zgp g
 gk:Zl1 js g
 js0:∀j∈js,(cap[j]?).join=none
 ts:∀fp s H,PIfs (Jh X cN scope cl fp s H) ifs c
 tm:∀σ H (Q Q':Bool→Hp→Prop),(∀b H',Q b H'→Q' b H')→c σ H Q→c σ H Q'
 el:∀fp s H,PE (Jh X cN scope cl fp s H) elt te
 fold:∀x,foldedSetIterable iter X.env x=pure x
theorem Zkg {pins:List (Addr×Obj)}{σ:St}{H:Hp}{s:Shared}{Q:Addr→Hp→Prop}{RR:Value→Addr→Result→Shared→Prop}(C:CompP X tg iter elt ifs scope cN cap cl js wi g c te)(I:Inv X pins σ H s)(h:Zmd cap wi g c te σ H Q)
  (hRR:∀(D:Addr) (fp:List Addr) (s3:Shared) (H3:Hp) (σ':St) (H':Hp) (s':Shared),Inv X pins σ H3 s3→(∀b∈fp,FpOk X pins H3 b)→Inv (Jh X cN scope cl fp s3 H3) [] σ' H' s'→Q D H'→RR (.ref D) s3.heap.objs.size (.ok .next) s'):
  wpAny (model X.prog X.w) X.A (eval iter X.env) (fun x s₁=>wpAny (model X.prog X.w) X.A (pyIter x) (fun it s₂=>wpAny (model X.prog X.w) X.A (newList []) (fun acc s₃=>
   wpAny (model X.prog X.w) X.A (newFunctionEnv scope X.env.globals cl [] X.env.qual none .none (some X.env)) (fun cenv s₄=>
    codeAny (model X.prog X.w) X.A (.compStart (.ListComp elt [⟨tg,iter,ifs,0⟩] scope pos) 0 it acc {cenv with scope:=relabel scope X.env}) (RR acc cenv.locals) s₄) X.xe s₃) X.xe s₂) X.xe s₁) X.xe s:=by
 refine thn (C.it pins s σ H _ I h) fun v s1 h1=>thn h1 fun itv s2 h2=>?_
 obtain⟨it,fp,tn,J,H2,e,I2,T,st2,f2,R2⟩:=h2
 subst e
 obtain⟨W,⟨m,w0⟩,turn⟩:=R2 s2.heap.objs.size I2.fresh
 have I3:Inv X pins σ (upd H2 s2.heap.objs.size (.lst [])) {s2 with heap:=s2.heap.push {cls:=.type "list",data:=.seq ([]:List Value).toArray},toks:=s2.toks}:=I2.lnew (ys:=[]) (its:=[]) .nil (XO _)
 have fl:∀b∈fp,b<s2.heap.objs.size:=fun b hb=>by
  obtain⟨o,e,_⟩:=T.obj _ _ st2 b hb
  exact XD e
 have f3:∀b∈fp,FpOk X pins (upd H2 s2.heap.objs.size (.lst [])) b:=fun b hb=>⟨by rw[Yc (XH (fl b hb))];exact(f2 b hb).1,(f2 b hb).2⟩
 refine wpAny_newObj_type (wpAny_newFunctionEnv (C.ok I.ok).cell (by intro y hy;simp at hy) (fun h₁ hns₁ hsb₁=>?_) (C.ok I.ok).kind)
 dsimp only at hns₁ hsb₁ ⊢
 generalize hs3:({s2 with heap:=s2.heap.push {cls:=.type "list",data:=.seq ([]:List Value).toArray},toks:=s2.toks}:Shared)=s3 at I3
 have hh3:s3.heap=s2.heap.push {cls:=.type "list",data:=.seq ([]:List Value).toArray}:=by rw[←hs3]
 rw[←hh3] at hns₁ hsb₁ ⊢
 have fl3:∀b∈fp,b<s3.heap.objs.size:=fun b hb=>by rw[hh3,Heap.size_push];exact Nat.lt_succ_of_lt (fl b hb)
 have k1:∀b o,s3.heap.get? b=some o→h₁.get? b=some o:=fun b o e=>(hsb₁.2 b (XH (XD e))).trans (XC _ e)
 have I4:=Zrg (tk:=s2.toks+([]:List (Str×Value)).length) (C.ok I.ok) I3 f3 fl3 hns₁ k1
 have e4:({s3 with heap:=h₁,toks:=s2.toks+([]:List (Str×Value)).length}:Shared)={s2 with heap:=h₁,toks:=s2.toks+([]:List (Str×Value)).length}:=by rw[←hs3]
 rw[e4] at I4
 have st4:tn 0 h₁:=T.keep _ _ _ st2 fun b hb o e=>k1 b o (by rw[hh3];exact XC _ e)
 have f4:∀b∈fp,FpOk (Jh X cN scope cl fp s3 (upd H2 s2.heap.objs.size (.lst []))) [] (upd H2 s2.heap.objs.size (.lst [])) b:=fun b hb=>by
  obtain⟨g0,g1,g2,g3,g4,g5⟩:=f3 b hb
  refine⟨g0,Nat.ne_of_lt (fl3 b hb),fun z=>?_,.inl hb,fun x c e=>g4 x c ((C.ok I.ok).sub x c e),fun p hp=>absurd hp (by simp[Jh])⟩
  rcases List.mem_cons.mp (I3.stkSub b z) with e | z
  ·exact g1 e
  ·exact g2 z
 have loop:codeAny (model X.prog X.w) X.A (.compLoop (.ListComp elt [⟨tg,iter,ifs,0⟩] scope pos) 0 (.ref it) (.ref s2.heap.objs.size) (Jh X cN scope cl fp s3 (upd H2 s2.heap.objs.size (.lst []))).env) (RR (.ref s2.heap.objs.size) s3.heap.objs.size)
   {s2 with heap:=h₁,toks:=s2.toks+([]:List (Str×Value)).length}:=
  Zt2 X C.calm (C.tgt _ _ _) C.gm C.gk C.js0 (C.ts _ _ _) C.tm (C.el _ _ _) T W turn m w0 I4 st4 f4 fun σ' H' s' I' q=>hRR _ fp s3 _ σ' H' s' I3 f3 I' q
 exact codeAny_compStart_list loop (T.self _ 0 _ _ _ st4 loop)
def tComp (cap:List (Option Nat))(wi:TI)(g:TG)(c:TT)(te:TE):TE:=fun σ H Q=>Zmd cap wi g c te σ H fun p H'=>Q (.ref p) H'
theorem Zzc (C:CompP X tg iter elt ifs scope cN cap cl js wi g c te):PE X (.ListComp elt [⟨tg,iter,ifs,0⟩] scope pos) (tComp cap wi g c te):=by
 intro pins s σ H Q I h
 rw[eval_ListComp]
 refine wpAny_comprehension_free (use:=none) rfl C.fold (C.ok I.ok).clos (C.ok I.ok).kind (C.ok I.ok).names (Zkg (RR:=fun acc C'=>compPost (model X.prog X.w) X.A X.xe none (EP X pins σ Q) acc C') C I h ?_)
 intro D fp s3 H3 σ' H' s' I3 f3 J q
 obtain⟨m,hn,_⟩:=J.loc
 exact⟨m,hn,fun h' sb=>⟨.ref D,H',Zpv I3 f3 J sb,rfl,q⟩⟩
def Zun (i:Nat)(cap:List (Option Nat))(wi:TI)(g:TG)(c:TT)(te:TE):TS:=fun D σ H=>Zmd cap wi g c te σ H fun p H'=>D.nx (σ.set i (some (.ref p))) H'
theorem Zqj {i:Nat}{y:Str}{py spos:Pos}(hN:X.N.Nodup)(hi:X.N[i]?=some y)(hy:X.env.scope.names.lookup y=some .local)
  (hsw:swapsWith (.ListComp elt [⟨tg,iter,ifs,0⟩] scope pos) (some (.Name y py)) spos.line X.env=pure true)
  (C:CompP X tg iter elt ifs scope cN cap cl js wi g c te):PS X (.Assign [.Name y py] (.ListComp elt [⟨tg,iter,ifs,0⟩] scope pos) spos) (Zun i cap wi g c te):=by
 intro pins s σ H D I h
 rw[exec_Assign_Name_used _ _ _ _ hsw]
 refine XA (wpAny_standAt (XA ?_))
 show wpAny _ X.A (do let _ ←comprehension (.ListComp elt [⟨tg,iter,ifs,0⟩] scope pos) scope X.env _ (newList []) false (eval iter X.env) (some (assign (.Name y py) X.env))) _ _ s
 refine XA (wpAny_mono (wpAny_comprehension_free (use:=some (assign (.Name y py) X.env)) (Q:=fun _ s'=>SP X pins D .next s') rfl C.fold (C.ok I.ok).clos (C.ok I.ok).kind (C.ok I.ok).names
  (Zkg (RR:=fun acc C'=>compPost (model X.prog X.w) X.A X.xe (some (assign (.Name y py) X.env)) (fun _ s'=>SP X pins D .next s') acc C') C I h ?_)) (fun _ s' hq=>XB (XB hq)) fun _ _ e=>e)
 intro D' fp s3 H3 σ' H' s' I3 f3 J q
 obtain⟨m,hn,_⟩:=id J.loc
 have I4:Inv X pins σ H' s':=Zpv I3 f3 J (Heap.SameBut.refl ..)
 show wpAny _ X.A (assign (.Name y py) X.env (.ref D')) _ _ _
 refine wpAny_assign_Name (Zlf (v:=.ref D') I4 hN hi (.inl hy) rfl (fun s5 I5 hch=>?_) (.inr hy))
 obtain⟨a,sb,ha⟩:=hch
 have hf:H' s3.heap.objs.size=none:=J.free
 have hCL:s3.heap.objs.size≠X.env.locals:=Nat.ne_of_gt I3.lt
 have hcells:∀x c,X.env.cells.lookup x=some c→c≠s3.heap.objs.size:=fun x c e=>by
  obtain⟨v,o,ho,_⟩:=I3.cell x c e
  exact XH (XD ho)
 have haC:s3.heap.objs.size≠a:=by
  rcases ha with z | z
  ·rw[z];exact hCL
  ·exact Ne.symm (hcells _ _ z)
 refine⟨m,hn.sameBut sb haC,fun h6 sb6=>⟨_,H',?_,q⟩⟩
 exact I5.turned (h':=h6) (t':=s5.toks) (fun b o hb e=>(sb6.2 b hb).trans e) hf hCL (.inr I3.sz) (fun x c e=>hcells x c e) fun p hp z=>by
  have:=XD (I3.pin p hp).1
  rw[z] at this;exact Nat.lt_irrefl _ this
end
end
def Its (z:Str):It:=⟨fun i _=>i<z.cps.size,fun i H x H'=>H'=H∧∃c,z.cps[i]?=some c∧x=.str ⟨#[c]⟩,fun i _=>i=z.cps.size⟩
theorem Zi4 {P:Program}{w:World}{K:W.Frag}{tg:Expr}{ty:String}{it:Addr}{z:Str}{t:Tok}(hty:["enumerate","zip","dict_itemiterator","dict_reverseitemiterator","odict_iterator","itertools.zip_longest","itertools.pairwise"].contains ty=false)
  (W:∀A:Around,A.handled=none→Walks P w A it [it] [it] z.cps.size (SignAt z) (fun i h=>h.IsStrIter it ty z t i))
  (self:∀(A:Around) (i:Nat) (s:Shared) (Q:Value→Shared→Prop) (E:Value→Shared→Prop),s.heap.IsStrIter it ty z t i→Q (.ref it) s→wpAny (model P w) A (pyIter (.ref it)) Q E s):
  Turn P w K tg (Its z) [it] it (fun i h=>h.IsStrIter it ty z t i) where
 mem:=by simp
 obj:=fun i h st b hb=>by
  have e:b=it:=by simpa using hb
  subst e
  obtain⟨o,e,c,d⟩:=st
  exact⟨o,e,fun v z=>by rw[d] at z;cases z⟩
 keep:=fun i h h' st k=>let ⟨o,e,r⟩:=st;⟨o,k it (by simp) o e,r⟩
 item:=by
  intro X hP hw hK hc i pins s σ H E I hf st hg
  subst hP hw hK
  obtain⟨f0,f1,f2,f3,f4,f5⟩:=hf it (by simp)
  refine(W X.A (I.ok.hd hc)).item i s _ _ hg st fun v h' tk hv st' kk=>?_
  obtain⟨c,u,hcp,rfl⟩:=hv
  have I1:Inv X pins σ H {s with heap:=h',toks:=tk}:=I.turned (fun b o hb e=>kk b o (by simpa using hb) e) f0 f1 f3 f4 f5
  obtain⟨o,e,c',d⟩:=id st'
  exact⟨_,rfl,Zsa (s:={s with heap:=h',toks:=tk}) e c' d hty ⟨.str ⟨#[c]⟩,H,I1,⟨u,rfl⟩,⟨rfl,c,hcp,rfl⟩,st',fun b hb=>(hf b hb).1⟩⟩
 done:=by
  intro X hP hw hK hc i pins s σ H E I hf st hg
  subst hP hw hK
  obtain⟨f0,f1,f2,f3,f4,f5⟩:=hf it (by simp)
  have e:i=z.cps.size:=hg
  subst e
  exact(W X.A (I.ok.hd hc)).done s _ _ st fun h' tk kk=>⟨rfl,I.turned (fun b o hb e=>kk b o (by simpa using hb) e) f0 f1 f3 f4 f5⟩
 self:=self
section
variable {X:Cx}{tg:Expr}
end
section
variable {X:Cx}{elts:List Expr}{ek:Nat}{epos:Pos}
end
section
variable {X:Cx}
def Z14 (K:W.Frag):R2:=fun x y H Q=>∃a b ys,x=.ref a∧y=.ref b∧SqT K H a []∧SqT K H b ys∧Q (.ref b) H
theorem Zv2:OpR X (binaryOp .Add) (Z14 X.K):=by
 intro pins s σ H x y v u Q I rx ry h
 obtain⟨a,b,ys,rfl,rfl,ha,hb,q⟩:=h
 cases rx
 cases ry
 obtain⟨its,r1,p1,_⟩:=I.tuple ha
 obtain⟨its2,r2,p2,_⟩:=I.tuple hb
 cases r1
 obtain⟨⟨cls,dd,data,sl⟩,ho,hc,n,hd⟩:=id p1
 obtain⟨⟨cls2,dd2,data2,sl2⟩,ho2,hc2,n2,hd2⟩:=id p2
 simp only at hc hd hc2 hd2
 subst hc hd hc2 hd2
 exact concat_meets ⟨_,ho,rfl⟩ ⟨_,ho2,rfl⟩ noFill_tuple_add seq_tuple_add PySem.F.slot_tuple_add PySem.F.entry_tuple_add (PySem.F.args_tuple_add_2 _ _)
  (tuple_addW0 a b _ _ n n2 dd dd2 sl sl2 (by simp)) ⟨ho,ho2,⟨.ref b,H,I,rfl,q⟩⟩
theorem Zr0 {v:Value}{o:Option Int}(h:IsPart v o):∃l:Option (Int×Tok),v=partValue l∧l.map (·.1)=o:=by
 cases h with
 | none=>exact⟨none,rfl,rfl⟩
 | int i t=>exact⟨some (i,t),rfl,rfl⟩
def rSlS:V→Option Int→Option Int→Hp→VK→Prop:=fun x lo hi H Q=>∃z,x=.str z∧z.length≤sizeLine∧Q (.str (Txt.slice z lo hi)) H
theorem Z1u:SlR X rSlS:=by
 intro pins s σ H x v vl vu lo hi sl Q I rx hs pl pu h
 obtain⟨z,rfl,hz,q⟩:=h
 obtain⟨t,rfl⟩:=rx
 obtain⟨l,rfl,rfl⟩:=Zr0 pl
 obtain⟨u,rfl,rfl⟩:=Zr0 pu
 refine⟨"str",_,PySem.F.slot_str_getitem.lookup,typeIs_str _ _ _,?_⟩
 obtain⟨o,ho,hc,hd⟩:=hs
 refine wpAny_getItem_str_slice (l:=l) (u:=u) (st:=none) ⟨o,ho,hc,hd⟩ rfl ?_
 have hle:=Txt.slice_le z (l.map (·.1)) (u.map (·.1))
 unfold sliceMade
 unfold Txt.slice at q hle
 show Made.post (if ((1:Int)==1&&(PySem.Builtin.Str.strSliceIndices (l.map (·.1)) (u.map (·.1)) 1 z.length).length==z.length)=true then _ else Made.str ⟨((PySem.Builtin.Str.strSliceIndices (l.map (·.1)) (u.map (·.1)) 1 z.length).filterMap (z.cps[·]?)).toArray⟩) _ s
 split
 ·rename_i hif
  rw[XY hif] at q
  exact⟨.str z,H,I,⟨t,rfl⟩,q⟩
 ·rename_i hif
  rw[XX hif] at q
  rw[XX hif] at hle
  exact⟨XN hle hz,.str _,H,I.tok _,⟨_,rfl⟩,q⟩
end
theorem Z4g:bootBuiltins "max"=some (.builtin "max"):=by decide+kernel
theorem Zla:bootBuiltins "isinstance"=some (.builtin "isinstance"):=by decide+kernel
theorem Z0q:bootBuiltins "bool"=some (.type "bool"):=by decide+kernel
theorem Zxr:bootBuiltins "int"=some (.type "int"):=by decide+kernel
theorem Zib:bootBuiltins "str"=some (.type "str"):=by decide+kernel
theorem Zsl:bootBuiltins "list"=some (.type "list"):=by decide+kernel
theorem Zb6:bootBuiltins "tuple"=some (.type "tuple"):=by decide+kernel
section
variable {X:Cx}
structure Ca (P:Program)(w:World)(K:W.Frag)(mg:Str→Option Value)(base:Heap)(k:Nat)(x:Str)(ps:List Str)(sp:Sp):Prop where
 ex:∃(f:Addr) (fd:FuncData),FnOk P w K mg base CX0 k f fd ps sp∧Binds K fd ps []∧W.keepIn K (.ref f)=true∧mg x=some (.ref f)
theorem pe_ca {k:Nat}{x:Str}{ps:List Str}{sp:Sp}{p pos:Pos}{e:Expr}{es:List Expr}{t:TA}(C:Ca X.prog X.w X.K X.mg X.base k x ps sp)(hr:Room k X.A)(hg:Gl X x)(ha:PA X (e::es) t)
  (hdb:(x==("__debug__":Str))=false:=by decide) (he:starEach (e::es) X.env=(false,eval e X.env)::starEach es X.env:=by rfl) (hpl:(backTo pos (starEach es X.env)).any (·.1)=false:=by rfl):
  PE X (.Call (.Name x p) (e::es) [] pos) (Zur sp [] E0 t):=by
 obtain⟨f,fd,F,B,kp,m⟩:=C.ex
 exact Zrz F hr hg m kp B .nil pass0 ha hdb he hpl
theorem Znh {K:W.Frag}{n:Nat}{u:TGs}(b:Zhs u):Zgp (gTup K n u):=fun x σ H Q Q' h q=>by
 obtain⟨a,xs,e,hq,hl,q⟩:=q
 exact⟨a,xs,e,hq,hl,b _ _ _ _ _ h q⟩
theorem Zde {scope:Scope}{env:Env}{x:Str}{k:NameKind}(h:(relabel scope env).names.lookup x=some k):∃k',(x,k')∈scope.names∧(k'=k∨k'=.free):=by
 have m:=PySem.mem_of_lookup h
 unfold relabel at m
 obtain⟨⟨n,k'⟩,hm,e⟩:=XR.mp m
 dsimp only at e
 split at e
 ·rename_i hc
  cases e
  refine⟨k',hm,.inr ?_⟩
  simp only[Bool.and_eq_true,beq_iff_eq] at hc
  exact hc.1.1
 ·cases e
  exact⟨_,hm,.inl rfl⟩
theorem Zho {cN:List Str}{cap:List (Option Nat)}{scope:Scope}(hk:scope.kind=.function)(h1:scope.names.all (fun y=>y.2 !=.free&&y.2 !=.cell)=true)(h2:scope.names.all (fun y=>y.2 !=.local||scope.names.lookup y.1==some .local)=true)
  (hl:cap.length=cN.length) (hc:cap.all (fun o=>o.isNone)=true):CompOk X cN cap scope [] where
 clos:=closureFor_none fun y hy=>by
  have:=List.all_eq_true.mp h1 y hy
  simp only[Bool.and_eq_true,bne_iff_ne,ne_eq] at this
  exact this.1
 sub:=fun n a h=>by cases h
 cell:=fun y hy=>by
  have:=List.all_eq_true.mp h1 y hy
  simp only[Bool.and_eq_true,bne_iff_ne,ne_eq] at this
  exact this.2
 kind:=hk
 names:=fun y hy e=>by
  have:=List.all_eq_true.mp h2 y hy
  simp only[Bool.or_eq_true,bne_iff_ne,ne_eq,beq_iff_eq] at this
  rcases this with q | q
  ·exact absurd e q
  ·exact q
 len:=hl
 has:=fun x h=>by
  exfalso
  have no:∀k',(x,k')∈scope.names→k'≠.free∧k'≠.cell:=fun k' hy=>by
   have:=List.all_eq_true.mp h1 _ hy
   simpa only[Bool.and_eq_true,bne_iff_ne,ne_eq] using this
  rcases h with h | h
  ·obtain⟨k',hm,e⟩:=Zde h
   rcases e with e | e
   ·exact(no k' hm).2 e
   ·exact(no k' hm).1 e
  ·obtain⟨k',hm,e⟩:=Zde h
   rcases e with e | e
   ·exact(no k' hm).1 e
   ·exact(no k' hm).1 e
 capd:=fun i j x h _=>by
  have:=List.all_eq_true.mp hc _ (List.mem_of_getElem? h)
  cases this
def Zbg (cells:List (Str×Addr)):List (Str×NameKind)→List (Str×Addr)→List (Str×Addr)
 | [],cs=>cs
 | (n,k)::r,cs=>Zbg cells r (if k==.free then(n,(cells.lookup n).getD 0)::cs else cs)
theorem Zgn {cells:List (Str×Addr)}:∀{names:List (Str×NameKind)} {cs:List (Str×Addr)} {p:Str×Addr},p∈Zbg cells names cs↔p∈cs∨((p.1,NameKind.free)∈names∧p.2=(cells.lookup p.1).getD 0)
 | [],cs,p=>by simp[Zbg]
 | (n,k)::r,cs,p=>by
  unfold Zbg
  rw[Zgn]
  by_cases hk:k=.free
  ·subst hk
   simp only[beq_self_eq_true,if_true,List.mem_cons,Prod.mk.injEq,and_true]
   constructor
   ·rintro((h | h) | h)
    ·subst h;exact .inr ⟨.inl rfl,rfl⟩
    ·exact .inl h
    ·exact .inr ⟨.inr h.1,h.2⟩
   ·rintro(h | ⟨h | h,e⟩)
    ·exact .inl (.inr h)
    ·refine .inl (.inl ?_)
     obtain⟨a,b⟩:=p
     simp only at h e
     subst h;subst e;rfl
    ·exact .inr ⟨h,e⟩
  ·have hb:(k==NameKind.free)=false:=by simpa using hk
   simp only[hb,Bool.false_eq_true,if_false,List.mem_cons,Prod.mk.injEq]
   constructor
   ·rintro(h | h)
    ·exact .inl h
    ·exact .inr ⟨.inr h.1,h.2⟩
   ·rintro(h | ⟨h | h,e⟩)
    ·exact .inl h
    ·exact absurd h.2.symm hk
    ·exact .inr ⟨h,e⟩
theorem Zk8 {scope:Scope}{env:Env}(h:∀n,(n,NameKind.free)∈scope.names→∃c,env.cells.lookup n=some c):closureFor scope env=pure (Zbg env.cells scope.names []):=by
 have key:∀(names:List (Str×NameKind)) (cs:List (Str×Addr)),(∀n,(n,NameKind.free)∈names→∃c,env.cells.lookup n=some c)→
   (forIn names cs fun x r=>(match x with | (name,kind)=>if (kind==NameKind.free)=true then(do let y ←cellOf env name;pure (ForInStep.yield ((name,y)::r))) else pure (ForInStep.yield r):Sem (ForInStep (List (Str×Addr)))))=pure (Zbg env.cells names cs):=by
  intro names
  induction names with
  | nil=>intro cs _;rfl
  | cons y r ih=>
   obtain⟨n,k⟩:=y
   intro cs hn
   rw[List.forIn_cons]
   unfold Zbg
   by_cases hk:k=.free
   ·subst hk
    obtain⟨c,hc⟩:=hn n (List.mem_cons_self)
    simp only[beq_self_eq_true,if_true,cellOf,hc,Option.getD_some]
    exact ih _ fun m hm=>hn m (XV _ hm)
   ·have hb:(k==NameKind.free)=false:=by simpa using hk
    simp only[hb,Bool.false_eq_true,if_false]
    exact ih _ fun m hm=>hn m (XV _ hm)
 unfold closureFor
 have:=key scope.names [] h
 first
  | exact this
  | (simp only[bind_pure];exact this)
  | (show(forIn scope.names [] _>>=fun r=>pure r)=_;rw[bind_pure];exact this)
theorem Zjw {f:Str→NameKind→NameKind}:∀{names:List (Str×NameKind)} {x:Str},(names.map fun y=>(y.1,f y.1 y.2)).lookup x=(names.lookup x).map (f x)
 | [],x=>rfl
 | (n,k)::r,x=>by
  have ih:=@Zjw f r x
  rw[YI,List.lookup_cons,List.lookup_cons]
  by_cases hx:x=n
  ·subst hx;simp
  ·have hb:(x==n)=false:=beq_eq_false_iff_ne.mpr hx
   simp only[hb];exact ih
theorem Zjx {scope:Scope}{env:Env}{x:Str}:(relabel scope env).names.lookup x=
   (scope.names.lookup x).map fun k=>if (k==NameKind.free&&env.scope.kind==.function&&env.kindOf x==some .cell) then NameKind.cell else k:=by
 rw[←Zjw (f:=fun n k=>if (k==NameKind.free&&env.scope.kind==.function&&env.kindOf n==some .cell) then NameKind.cell else k)]
 unfold relabel
 congr 1
 refine List.map_congr_left fun y _=>?_
 obtain⟨n,k⟩:=y
 dsimp only
 split<;>rfl
def Zki (N:List Str)(outer inner:List (Str×NameKind)):List (Option Nat)→List Str→Bool
 | [],_=>true
 | _,[]=>true
 | none::r,_::xs=>Zki N outer inner r xs
 | some j::r,x::xs=>N[j]?==some x&&outer.lookup x==some .cell&&inner.lookup x==some .free&&Zki N outer inner r xs
theorem Zia {N:List Str}{outer inner:List (Str×NameKind)}:∀{cap:List (Option Nat)} {cN:List Str},Zki N outer inner cap cN=true→∀(i j:Nat) (x:Str),cap[i]?=some (some j)→cN[i]?=some x→N[j]?=some x∧outer.lookup x=some .cell∧inner.lookup x=some .free
 | [],_,_,i,j,x,h1,_=>by simp at h1
 | _::_,[],_,i,j,x,_,h2=>by simp at h2
 | none::r,y::xs,h,0,j,x,h1,_=>by simp at h1
 | none::r,y::xs,h,i+1,j,x,h1,h2=>Zia (cap:=r) (cN:=xs) (by simpa[Zki] using h) i j x (by simpa using h1) (by simpa using h2)
 | some k::r,y::xs,h,0,j,x,h1,h2=>by
  simp only[Zki,Bool.and_eq_true,beq_iff_eq] at h
  simp at h1 h2
  subst h1 h2
  exact⟨h.1.1.1,h.1.1.2,h.1.2⟩
 | some k::r,y::xs,h,i+1,j,x,h1,h2=>by
  simp only[Zki,Bool.and_eq_true,beq_iff_eq] at h
  exact Zia (cap:=r) (cN:=xs) h.2 i j x (by simpa using h1) (by simpa using h2)
theorem Zf2 {α β:Type}[BEq α][LawfulBEq α]{x:α}:∀{l:List (α×β)} {b:β},(x,b)∈l→∃c,l.lookup x=some c
 | [],_,h=>by cases h
 | (y,c)::r,b,h=>by
  rw[List.lookup_cons]
  by_cases hx:x=y
  ·subst hx;simp
  ·have hb:(x==y)=false:=beq_eq_false_iff_ne.mpr hx
   rw[hb]
   rcases List.mem_cons.mp h with e | h
   ·cases e;exact absurd rfl hx
   ·exact Zf2 h
theorem Zfi {cN:List Str}{cap:List (Option Nat)}{scope:Scope}(ok:X.Ok)(hk:scope.kind=.function)(h1:scope.names.all (fun y=>y.2 !=.cell)=true)(h2:scope.names.all (fun y=>y.2 !=.local||scope.names.lookup y.1==some .local)=true)
  (hl:cap.length=cN.length) (hf:(scope.names.all fun y=>y.2 !=.free||X.env.scope.names.lookup y.1==some .cell)=true) (hc:Zki X.N X.env.scope.names scope.names cap cN=true):CompOk X cN cap scope (Zbg X.env.cells scope.names []):=by
 have hfr:∀n,(n,NameKind.free)∈scope.names→∃c,X.env.cells.lookup n=some c:=fun n hn=>by
  have:=List.all_eq_true.mp hf _ hn
  simp only[bne_self_eq_false,Bool.false_or,beq_iff_eq] at this
  exact ok.has n (.inl this)
 refine⟨Zk8 hfr,fun n a h=>?_,fun y hy=>?_,hk,fun y hy e=>?_,hl,fun x h=>?_,fun i j x h1' h2'=>?_⟩
 ·have m:=PySem.mem_of_lookup h
  rw[Zgn] at m
  rcases m with m | ⟨m,e⟩
  ·cases m
  ·obtain⟨c,hc⟩:=hfr n m
   simp only[hc,Option.getD_some] at e
   rw[hc,e]
 ·have:=List.all_eq_true.mp h1 y hy
  simpa using this
 ·have:=List.all_eq_true.mp h2 y hy
  simp only[Bool.or_eq_true,bne_iff_ne,ne_eq,beq_iff_eq] at this
  rcases this with q | q
  ·exact absurd e q
  ·exact q
 ·have nc:∀k',(x,k')∈scope.names→k'≠.cell:=fun k' hy=>by
   have:=List.all_eq_true.mp h1 _ hy
   simpa using this
  have m:(x,NameKind.free)∈scope.names:=by
   rcases h with h | h
   ·obtain⟨k',hm,e⟩:=Zde h
    rcases e with e | e
    ·exact absurd e (nc k' hm)
    ·subst e;exact hm
   ·obtain⟨k',hm,e⟩:=Zde h
    rcases e with e | e<;>(subst e;exact hm)
  exact Zf2 (b:=(X.env.cells.lookup x).getD 0) (Zgn.mpr (.inr ⟨m,rfl⟩))
 ·obtain⟨q1,q2,q3⟩:=Zia hc i j x h1' h2'
  refine⟨q1,.inr (.inl q2),(by rw[q2];simp),?_⟩
  rw[Zjx,q3]
  simp only[Option.map_some,beq_self_eq_true,Bool.true_and]
  split
  ·exact .inl rfl
  ·exact .inr rfl
end
def CN (p:Addr)(Pv:Nat→List V→Hp→Prop)(i:Nat)(H:Hp):Prop:=∃ys,H p=some (.lst ys)∧ys.length≤i∧Pv i ys H
section
variable {K:W.Frag}{cap:List (Option Nat)}{g:TG}{c:TT}{te:TE}{σ:St}{Q:Addr→Hp→Prop}{H:Hp}
end
def tForGo (g:TG)(tb:TS)(D:Ends)(σ:St)(J:It)(H1:Hp):Prop:=∃W:Nat→Nat→St→Hp→Prop,(∃m,W 0 m σ H1)∧∀i m σ H,W i m σ H→
 (J.stop i H∧D.nx σ H)∨(J.go i H∧∃N:St→Hp→Prop,(∀σ' H',N σ' H'→∃m',m'<m∧W (i+1) m' σ' H')∧∀x H',J.yld i H x H'→g x σ H' fun σ2 H2=>tb {D with nx:=N,ct:=N,bk:=D.nx} σ2 H2)
section
variable {K:W.Frag}{a:Addr}{xs:List V}{g:TG}{tb:TS}{D:Ends}{σ:St}{H:Hp}{z:Str}
end
theorem tyL {K:W.Frag}{H:Hp}{r:Addr}{xs:List V}(h:H r=some (.lst xs)):tyV K "list" (.ref r) H:=by
 unfold tyV
 exact .inl ⟨rfl,xs,SqL.of h⟩
theorem Zic {α:Type}{xs:List α}{i:Int}(h0:0≤i)(h1:i<(xs.length:Int)):∃v,atI xs i=some v∧v∈xs:=by
 have hk:i.toNat<xs.length:=by omega
 have ek:((i.toNat:Nat):Int)=i:=by omega
 have q:atI xs ((i.toNat:Nat):Int)=some xs[i.toNat]:=Zfk (by simp[hk])
 rw[ek] at q
 exact⟨xs[i.toNat],q,YN hk⟩
end L2
namespace WL
open PySem PySem.Spec PyProof.Rows L2
inductive T where
 | non | bl (b:Bool) | int (i:Int) | str (x:Str) | tup (xs:List T)
  | ref (a:Addr)
  | cl (xs:List T)
inductive O where
 | lst (xs:List T)
 | dic (kvs:List (Key×T))
 | ins (cn:Str) (fs:List (Str×T))
  | fdic (kvs:List (Key×T))
abbrev Hw:=Addr→Option O
def up (C:Hw)(a:Addr)(o:O):Hw:=fun b=>if b=a then some o else C b
theorem Zn {C:Hw}{a:Addr}{o:O}:up C a o a=some o:=by unfold up;rw[XY rfl]
theorem Zw {C:Hw}{a b:Addr}{o:O}(h:b≠a):up C a o b=C b:=by unfold up;rw[XX h]
theorem Zub {C:Hw}{a:Addr}{o u:O}:up (up C a o) a u=up C a u:=by
 funext b;unfold up;split<;>rfl
def SqC (K:W.Frag)(H:Hp)(a:Addr)(xs:List V):Prop:=
 (∃o,H a=some (.frz o (.lst xs)))∨
  ∃(o:Obj) (its:Array Value) (n:Nat),K.lookup a=some o∧o.cls=.type "list"∧o.dict=none∧o.data=.seq its n∧its.size≤sizeLine∧Vals xs its.toList
theorem SqC.sq {K:W.Frag}{H:Hp}{a:Addr}{xs:List V}(h:SqC K H a xs):SqL K H a xs:=by
 rcases h with⟨o,h⟩ | h
 ·exact .inl (.inr ⟨o,h⟩)
 ·exact .inr h
mutual
def Rep (K:W.Frag)(H:Hp)(x:V):T→Prop
 | .non=>x=.non
 | .bl b=>x=.bl b
 | .int i=>x=.int i
 | .str z=>x=.str z
 | .ref a=>x=.ref a
 | .tup ts=>∃a ys,x=.ref a∧SqT K H a ys∧Reps K H ys ts
 | .cl ts=>∃a ys,x=.ref a∧SqC K H a ys∧Reps K H ys ts
def Reps (K:W.Frag)(H:Hp)(ys:List V):List T→Prop
 | []=>ys=[]
 | t::ts=>∃y r,ys=y::r∧Rep K H y t∧Reps K H r ts
end
def Stb:HO→Prop
 | .tup _=>True
 | .frz _ _=>True
 | _=>False
def Tx (H H':Hp):Prop:=∀b o,H b=some o→Stb o→H' b=some o
theorem Tx.refl (H:Hp):Tx H H:=fun _ _ h _=>h
theorem Tx.trans {H H1 H2:Hp}(a:Tx H H1)(b:Tx H1 H2):Tx H H2:=fun c o h n=>b c o (a c o h n) n
theorem Tx.new {H:Hp}{p:Addr}{o:HO}(h:H p=none):Tx H (upd H p o):=fun b u q _=>by rw[Yc (Xk q h)];exact q
theorem Tx.put {H:Hp}{p:Addr}{o u:HO}(h:H p=some o)(n:¬Stb o):Tx H (upd H p u):=fun b v q s=>by
 by_cases e:b=p
 ·subst e;rw[h] at q;cases q;exact absurd s n
 ·rw[Yc e];exact q
theorem Tx.sqt {K:W.Frag}{H H':Hp}(t:Tx H H'){a:Addr}{xs:List V}(h:SqT K H a xs):SqT K H' a xs:=by
 rcases h with(h | ⟨o,h⟩) | h
 ·exact .inl (.inl (t _ _ h trivial))
 ·exact .inl (.inr ⟨o,t _ _ h trivial⟩)
 ·exact .inr h
theorem Tx.sqc {K:W.Frag}{H H':Hp}(t:Tx H H'){a:Addr}{xs:List V}(h:SqC K H a xs):SqC K H' a xs:=by
 rcases h with⟨o,h⟩ | h
 ·exact .inl ⟨o,t _ _ h trivial⟩
 ·exact .inr h
mutual
theorem Rep.tx {K:W.Frag}{H H':Hp}(t:Tx H H'){x:V}:∀{v:T},Rep K H x v→Rep K H' x v
 | .non,h=>by simpa[Rep] using h
 | .bl b,h=>by simpa[Rep] using h
 | .int i,h=>by simpa[Rep] using h
 | .str z,h=>by simpa[Rep] using h
 | .ref a,h=>by simpa[Rep] using h
 | .tup ts,h=>by
  unfold Rep at h ⊢
  obtain⟨a,ys,e,q,r⟩:=h
  exact⟨a,ys,e,t.sqt q,Reps.tx t r⟩
 | .cl ts,h=>by
  unfold Rep at h ⊢
  obtain⟨a,ys,e,q,r⟩:=h
  exact⟨a,ys,e,t.sqc q,Reps.tx t r⟩
theorem Reps.tx {K:W.Frag}{H H':Hp}(t:Tx H H'){ys:List V}:∀{vs:List T},Reps K H ys vs→Reps K H' ys vs
 | [],h=>by simpa[Reps] using h
 | v::vs,h=>by
  unfold Reps at h ⊢
  obtain⟨y,r,e,q,s⟩:=h
  exact⟨y,r,e,Rep.tx t q,Reps.tx t s⟩
end
section
variable {K:W.Frag}{H:Hp}
theorem J9 {i:Int}:Rep K H (.int i) (.int i):=by unfold Rep;rfl
theorem Xa {i:Str}:Rep K H (.str i) (.str i):=by unfold Rep;rfl
theorem Jr {i:Bool}:Rep K H (.bl i) (.bl i):=by unfold Rep;rfl
theorem Zdc:Rep K H .non .non:=by unfold Rep;rfl
theorem Ju {a:Addr}:Rep K H (.ref a) (.ref a):=by unfold Rep;rfl
theorem Zap {a:Addr}{ys:List V}{ts:List T}(h:SqT K H a ys)(r:Reps K H ys ts):Rep K H (.ref a) (.tup ts):=by unfold Rep;exact⟨a,ys,rfl,h,r⟩
theorem Yh {x:V}{i:Int}(h:Rep K H x (.int i)):x=.int i:=by unfold Rep at h;exact h
theorem Jv {x:V}{i:Str}(h:Rep K H x (.str i)):x=.str i:=by unfold Rep at h;exact h
theorem Zdv {x:V}{i:Bool}(h:Rep K H x (.bl i)):x=.bl i:=by unfold Rep at h;exact h
theorem Zd6 {x:V}(h:Rep K H x .non):x=.non:=by unfold Rep at h;exact h
theorem Yd {x:V}{a:Addr}(h:Rep K H x (.ref a)):x=.ref a:=by unfold Rep at h;exact h
theorem Y6 {x:V}{ts:List T}(h:Rep K H x (.tup ts)):∃a ys,x=.ref a∧SqT K H a ys∧Reps K H ys ts:=by unfold Rep at h;exact h
theorem Ze3 {x:V}{ts:List T}(h:Rep K H x (.cl ts)):∃a ys,x=.ref a∧SqC K H a ys∧Reps K H ys ts:=by unfold Rep at h;exact h
theorem Ji:Reps K H [] []:=by unfold Reps;rfl
theorem Yk {y:V}{ys:List V}{t:T}{ts:List T}(a:Rep K H y t)(b:Reps K H ys ts):Reps K H (y::ys) (t::ts):=by unfold Reps;exact⟨y,ys,rfl,a,b⟩
theorem Zas {ys:List V}(h:Reps K H ys []):ys=[]:=by unfold Reps at h;exact h
theorem Jo {ys:List V}{t:T}{ts:List T}(h:Reps K H ys (t::ts)):∃y r,ys=y::r∧Rep K H y t∧Reps K H r ts:=by unfold Reps at h;exact h
theorem Reps.length:∀{vs:List T} {ys:List V},Reps K H ys vs→ys.length=vs.length
 | [],_,h=>by rw[Zas h];rfl
 | _::_,_,h=>by obtain⟨y,r,rfl,_,q⟩:=Jo h;rw[YF,YF,q.length]
theorem Reps.get:∀{vs:List T} {ys:List V} {i:Nat} {v:T},Reps K H ys vs→vs[i]?=some v→∃y,ys[i]?=some y∧Rep K H y v
 | [],_,_,_,_,e=>by simp at e
 | _::_,_,0,_,h,e=>by obtain⟨y,r,rfl,a,_⟩:=Jo h;simp at e;subst e;exact⟨y,rfl,a⟩
 | _::_,_,i+1,v,h,e=>by
  obtain⟨y,r,rfl,_,q⟩:=Jo h
  obtain⟨z,h1,h2⟩:=Reps.get (i:=i) (v:=v) q (by simpa using e)
  exact⟨z,by simpa using h1,h2⟩
theorem Reps.get':∀{vs:List T} {ys:List V} {i:Nat} {y:V},Reps K H ys vs→ys[i]?=some y→∃v,vs[i]?=some v∧Rep K H y v:=fun {vs ys i y} h e=>by
 have hl:=h.length
 have hi:i<ys.length:=(List.getElem?_eq_some_iff.mp e).1
 have hv:vs[i]?=some (vs[i]'(by omega)):=by simp[hl▸hi]
 obtain⟨z,h1,h2⟩:=h.get hv
 rw[e] at h1;cases h1
 exact⟨_,hv,h2⟩
theorem Reps.app:∀{vs ws:List T} {ys zs:List V},Reps K H ys vs→Reps K H zs ws→Reps K H (ys++zs) (vs++ws)
 | [],_,_,_,h,q=>by rw[Zas h];exact q
 | _::_,_,_,_,h,q=>by obtain⟨y,r,rfl,a,b⟩:=Jo h;exact Yk a (b.app q)
theorem Reps.take:∀(n:Nat) {vs:List T} {ys:List V},Reps K H ys vs→Reps K H (ys.take n) (vs.take n)
 | 0,_,_,_=>by simpa using Ji
 | _+1,[],_,h=>by rw[Zas h];exact Ji
 | n+1,_::_,_,h=>by obtain⟨y,r,rfl,a,b⟩:=Jo h;exact Yk a (b.take n)
theorem Reps.drop:∀(n:Nat) {vs:List T} {ys:List V},Reps K H ys vs→Reps K H (ys.drop n) (vs.drop n)
 | 0,_,_,h=>h
 | _+1,[],_,h=>by rw[Zas h];exact Ji
 | n+1,_::_,_,h=>by obtain⟨y,r,rfl,a,b⟩:=Jo h;exact b.drop n
theorem Reps.erase:∀(n:Nat) {vs:List T} {ys:List V},Reps K H ys vs→Reps K H (ys.eraseIdx n) (vs.eraseIdx n)
 | _,[],_,h=>by rw[Zas h];exact Ji
 | 0,_::_,_,h=>by obtain⟨y,r,rfl,a,b⟩:=Jo h;exact b
 | n+1,_::_,_,h=>by obtain⟨y,r,rfl,a,b⟩:=Jo h;exact Yk a (b.erase n)
theorem Reps.dropLast {vs:List T}{ys:List V}(h:Reps K H ys vs):Reps K H ys.dropLast vs.dropLast:=by
 rw[List.dropLast_eq_take,List.dropLast_eq_take,h.length];exact h.take _
theorem Reps.snoc {vs:List T}{ys:List V}{y:V}{v:T}(h:Reps K H ys vs)(q:Rep K H y v):Reps K H (ys++[y]) (vs++[v]):=h.app (Yk q Ji)
theorem Reps.reverse:∀{vs:List T} {ys:List V},Reps K H ys vs→Reps K H ys.reverse vs.reverse
 | [],_,h=>by rw[Zas h];exact Ji
 | _::_,_,h=>by obtain⟨y,r,rfl,a,b⟩:=Jo h;rw[List.reverse_cons,List.reverse_cons];exact b.reverse.snoc a
theorem Reps.at {vs:List T}{ys:List V}{i:Int}{v:T}(h:Reps K H ys vs)(e:atI vs i=some v):∃y,atI ys i=some y∧Rep K H y v:=by
 unfold atI at e ⊢
 rw[h.length]
 cases q:ixN vs.length i with
 | none=>rw[q] at e;cases e
 | some j=>
  rw[q] at e
  exact h.get e
theorem Zhy:∀ns:List Int,Reps K H (ns.map V.int) (ns.map T.int)
 | []=>Ji
 | n::r=>Yk J9 (Zhy r)
end
abbrev PR (K:W.Frag)(H:Hp){κ:Type}(kvs:List (κ×V))(kws:List (κ×T)):Prop:=PySem.Paired (fun p q=>p.1=q.1∧Rep K H p.2 q.2) kvs kws
def ORel (K:W.Frag)(H:Hp)(a:Addr):O→Prop
 | .lst xs=>∃ys,H a=some (.lst ys)∧Reps K H ys xs
 | .dic kvs=>∃ks,H a=some (.dK ks)∧PR K H ks kvs
 | .ins cn fs=>∃Cl dx ks,W.nsIn K mainGlobals cn=some (some (.ref Cl))∧H a=some (.ins Cl dx ks)∧PR K H ks fs
 | .fdic kvs=>∃ks,Rd H a (.dK ks)∧PR K H ks kvs
def O.wr:O→Prop
 | .fdic _=>False
 | _=>True
structure Rl (K:W.Frag)(F H:Hp)(C:Hw):Prop where
 obj:∀a o,C a=some o→ORel K H a o
 frm:∀a o,F a=some o→H a=some o∧C a=none
theorem Zjg {K:W.Frag}{H H':Hp}(t:Tx H H'){κ:Type}{ks:List (κ×V)}{kvs:List (κ×T)}(h:PR K H ks kvs):PR K H' ks kvs:=L2.Paired.mapP h fun _ _ z=>⟨z.1,z.2.tx t⟩
theorem ORel.stay {K:W.Frag}{H H':Hp}{a:Addr}{o:O}(h:ORel K H a o)(t:Tx H H')(e:H' a=H a):ORel K H' a o:=by
 cases o with
 | lst xs=>obtain⟨ys,q,r⟩:=h;exact⟨ys,e.trans q,r.tx t⟩
 | dic kvs=>obtain⟨ys,q,r⟩:=h;exact⟨ys,e.trans q,Zjg t r⟩
 | ins C fs=>obtain⟨Cl,dx,ys,n,q,r⟩:=h;exact⟨Cl,dx,ys,n,e.trans q,Zjg t r⟩
 | fdic kvs=>
  obtain⟨ys,q,r⟩:=h
  refine⟨ys,?_,Zjg t r⟩
  rcases q with q | ⟨o,q⟩
  ·exact .inl (e.trans q)
  ·exact .inr ⟨o,e.trans q⟩
theorem ORel.some {K:W.Frag}{H:Hp}{a:Addr}{o:O}(h:ORel K H a o)(wr:o.wr):∃u,H a=some u∧¬Stb u:=by
 cases o with
 | fdic kvs=>exact wr.elim
 | lst xs=>obtain⟨ys,q,r⟩:=h;exact⟨_,q,fun z=>z⟩
 | dic kvs=>obtain⟨ys,q,r⟩:=h;exact⟨_,q,fun z=>z⟩
 | ins C fs=>obtain⟨Cl,dx,ys,n,q,r⟩:=h;exact⟨_,q,fun z=>z⟩
theorem ORel.here {K:W.Frag}{H:Hp}{a:Addr}{o:O}(h:ORel K H a o):∃u,H a=Option.some u:=by
 cases o with
 | fdic kvs=>
  obtain⟨ys,q,r⟩:=h
  rcases q with q | ⟨o,q⟩
  ·exact⟨_,q⟩
  ·exact⟨_,q⟩
 | lst xs=>obtain⟨ys,q,r⟩:=h;exact⟨_,q⟩
 | dic kvs=>obtain⟨ys,q,r⟩:=h;exact⟨_,q⟩
 | ins C fs=>obtain⟨Cl,dx,ys,n,q,r⟩:=h;exact⟨_,q⟩
section
variable {K:W.Frag}{F H:Hp}{C:Hw}
theorem Rl.free (R:Rl K F H C){p:Addr}(h:H p=none):C p=none:=by
 cases e:C p with
 | none=>rfl
 | some o=>obtain⟨u,q⟩:=(R.obj p o e).here;rw[h] at q;cases q
theorem Rl.lst (R:Rl K F H C){a:Addr}{xs:List T}(h:C a=some (.lst xs)):∃ys,H a=some (.lst ys)∧Reps K H ys xs:=R.obj a _ h
theorem Rl.new (R:Rl K F H C){p:Addr}{u:HO}{o:O}(h:H p=none)(r:ORel K (upd H p u) p o):Rl K F (upd H p u) (up C p o) where
 obj:=fun a v e=>by
  by_cases q:a=p
  ·subst q;rw[Zn] at e;cases e;exact r
  ·rw[Zw q] at e
   exact(R.obj a v e).stay (Tx.new h) (Yc q)
 frm:=fun a v e=>by
  have z:=R.frm a v e
  have q:a≠p:=Xk z.1 h
  rw[Yc q,Zw q];exact z
theorem Rl.hid (R:Rl K F H C){p:Addr}{u:HO}(h:H p=none):Rl K F (upd H p u) C where
 obj:=fun a v e=>by
  obtain⟨w,q⟩:=(R.obj a v e).here
  exact(R.obj a v e).stay (Tx.new h) (Yc (Xk q h))
 frm:=fun a v e=>by
  have z:=R.frm a v e
  rw[Yc (Xk z.1 h)];exact z
theorem Rl.put (R:Rl K F H C){p:Addr}{u:HO}{o o':O}(h:C p=some o)(r:ORel K (upd H p u) p o')(wr:o.wr:=by trivial):Rl K F (upd H p u) (up C p o')∧Tx H (upd H p u):=by
 obtain⟨w,hw,ns⟩:=(R.obj p o h).some wr
 have t:Tx H (upd H p u):=Tx.put hw ns
 refine⟨⟨fun a v e=>?_,fun a v e=>?_⟩,t⟩
 ·by_cases q:a=p
  ·subst q;rw[Zn] at e;cases e;exact r
  ·rw[Zw q] at e
   exact(R.obj a v e).stay t (Yc q)
 ·have z:=R.frm a v e
  have q:a≠p:=fun y=>by subst y;rw[h] at z;cases z.2
  rw[Yc q,Zw q];exact z
theorem Rl.putL (R:Rl K F H C){p:Addr}{xs xs':List T}{ys':List V}(h:C p=some (.lst xs))(r:Reps K H ys' xs'):Rl K F (upd H p (.lst ys')) (up C p (.lst xs'))∧Tx H (upd H p (.lst ys')):=by
 obtain⟨w,hw,ns⟩:=(R.obj p _ h).some trivial
 exact R.put h ⟨ys',Yo,r.tx (Tx.put hw ns)⟩
theorem Rl.newL (R:Rl K F H C){p:Addr}{xs:List T}{ys:List V}(h:H p=none)(r:Reps K H ys xs):Rl K F (upd H p (.lst ys)) (up C p (.lst xs)):=R.new h ⟨ys,Yo,r.tx (Tx.new h)⟩
end
abbrev Sw:=List (Option T)
abbrev WK:=T→Hw→Prop
structure Xn where
 cls:Str
 fs:List (Str×T)
abbrev WX:=Xn→Hw→Prop
abbrev WE:=Sw→Hw→WK→WX→Prop
abbrev WT:=Sw→Hw→(Bool→Hw→Prop)→WX→Prop
abbrev WA:=Sw→Hw→(List T→Hw→Prop)→WX→Prop
structure We where
 nx:Sw→Hw→Prop
 rt:WK
 bk:Sw→Hw→Prop:=fun _ _=>False
 ct:Sw→Hw→Prop:=fun _ _=>False
 xc:WX:=fun _ _=>False
abbrev ZUD (Q:WK)(χ:WX):We:={nx:=fun _ C'=>Q .non C',rt:=Q,xc:=χ}
abbrev WS:=We→Sw→Hw→Prop
abbrev WG:=T→Sw→Hw→(Sw→Hw→Prop)→WX→Prop
abbrev WGs:=List T→Sw→Hw→(Sw→Hw→Prop)→WX→Prop
abbrev WI:=Sw→Hw→(List T→(Hw→Prop)→Hw→Prop)→WX→Prop
abbrev W2:=T→T→Hw→WK→Prop
abbrev Calls:=Nat→List T→Hw→WK→WX→Prop
def Zd (i:Nat):WE:=fun τ C Q _=>∃v,τ[i]?=some (some v)∧Q v C
def eC (v:T):WE:=fun _ C Q _=>Q v C
def Zh (r:W2)(a b:WE):WE:=fun τ C Q χ=>a τ C (fun x C1=>b τ C1 (fun y C2=>r x y C2 Q) χ) χ
def eUn (r:T→Hw→WK→Prop)(a:WE):WE:=fun τ C Q χ=>a τ C (fun x C1=>r x C1 Q) χ
def Zf:WA:=fun _ C Q _=>Q [] C
def Zb (a:WE)(r:WA):WA:=fun τ C Q χ=>a τ C (fun x C1=>r τ C1 (fun xs C2=>Q (x::xs) C2) χ) χ
def Zv (a:WA):WE:=fun τ C Q χ=>a τ C (fun xs C1=>xs.length≤sizeLine∧Q (.tup xs) C1) χ
def Xs (a:WA):WE:=fun τ C Q χ=>a τ C (fun xs C1=>xs.length≤sizeLine∧∀p,C1 p=none→Q (.ref p) (up C1 p (.lst xs))) χ
def Z5 (P:Calls)(i:Nat)(a:WA):WE:=fun τ C Q χ=>a τ C (fun xs C1=>P i xs C1 Q χ) χ
def eBi (r:List T→Hw→WK→Prop)(a:WA):WE:=fun τ C Q χ=>a τ C (fun xs C1=>r xs C1 Q) χ
def eMt (ty:T→Hw→Prop)(r:T→List T→Hw→WK→Prop)(o:WE)(a:WA):WE:=fun τ C Q χ=>o τ C (fun x C1=>ty x C1∧a τ C1 (fun xs C2=>r x xs C2 Q) χ) χ
def eIf (c:WT)(a b:WE):WE:=fun τ C Q χ=>c τ C (fun k C1=>if k=true then a τ C1 Q χ else b τ C1 Q χ) χ
def eAnd (a b:WE):WE:=fun τ C Q χ=>a τ C (fun x C1=>∃k,x=.bl k∧if k=true then b τ C1 Q χ else Q (.bl false) C1) χ
def eOr (a b:WE):WE:=fun τ C Q χ=>a τ C (fun x C1=>∃k,x=.bl k∧if k=true then Q (.bl true) C1 else b τ C1 Q χ) χ
def eNot (a:WE):WE:=fun τ C Q χ=>a τ C (fun x C1=>∃k,x=.bl k∧Q (.bl (!k)) C1) χ
def tru:T→Hw→Bool→Prop
 | .non,_,k=>k=false
 | .bl b,_,k=>k=b
 | .int i,_,k=>k=(i !=0)
 | .str y,_,k=>y.length≤sizeLine∧k=((y.length:Int) !=0)
 | .tup xs,_,k=>k=!xs.isEmpty
 | .cl xs,_,k=>k=!xs.isEmpty
 | .ref a,C,k=>(∃xs,C a=some (.lst xs)∧k=!xs.isEmpty)∨∃kvs,C a=some (.dic kvs)∧k=!kvs.isEmpty
def tTru (a:WE):WT:=fun τ C Q χ=>a τ C (fun x C1=>∃k,tru x C1 k∧Q k C1) χ
def tBl (a:WE):WT:=fun τ C Q χ=>a τ C (fun x C1=>∃k,x=.bl k∧Q k C1) χ
def tAn (a b:WT):WT:=fun τ C Q χ=>a τ C (fun k C1=>if k=true then b τ C1 Q χ else Q false C1) χ
def tOr' (a b:WT):WT:=fun τ C Q χ=>a τ C (fun k C1=>if k=true then Q true C1 else b τ C1 Q χ) χ
def tNo (a:WT):WT:=fun τ C Q χ=>a τ C (fun k C1=>Q (!k) C1) χ
def Zh9 (r r':W2)(a b c:WE):WE:=fun τ C Q χ=>a τ C (fun x C1=>b τ C1 (fun y C2=>r x y C2 fun z C3=>∃k,z=.bl k∧(if k=true then c τ C3 (fun w C4=>r' y w C4 Q) χ else Q (.bl false) C3)) χ) χ
def wAdd:W2
 | .int i,.int j,C,Q=>Q (.int (i+j)) C
 | .str i,.str j,C,Q=>i.length+j.length≤sizeLine∧Q (.str (i++j)) C
 | .tup xs,.tup ys,C,Q=>xs.length+ys.length≤sizeLine∧Q (.tup (xs++ys)) C
 | .ref a,.ref b,C,Q=>∃xs ys,C a=some (.lst xs)∧C b=some (.lst ys)∧xs.length+ys.length≤sizeLine∧∀p,C p=none→Q (.ref p) (up C p (.lst (xs++ys)))
 | _,_,_,_=>False
def Jl:W2
 | .int i,.int j,C,Q=>Q (.int (i-j)) C
 | _,_,_,_=>False
def wMul:W2
 | .int i,.int j,C,Q=>CMul i j∧Q (.int (i*j)) C
 | _,_,_,_=>False
def wDiv:W2
 | .int i,.int j,C,Q=>CDiv i j∧Q (.int (i/j)) C
 | _,_,_,_=>False
def Jt:W2
 | .int i,.int j,C,Q=>0<j∧Q (.int (i%j)) C
 | _,_,_,_=>False
def wPow:W2
 | .int i,.int j,C,Q=>CPow i j∧Q (.int (i^j.toNat)) C
 | _,_,_,_=>False
def wNeg:T→Hw→WK→Prop
 | .int i,C,Q=>Q (.int (-i)) C
 | _,_,_=>False
def wLt:W2
 | .int i,.int j,C,Q=>Q (.bl (decide (i<j))) C
 | .str i,.str j,C,Q=>Q (.bl (decide (i.cps.toList<j.cps.toList))) C
 | _,_,_,_=>False
def wLe:W2
 | .int i,.int j,C,Q=>Q (.bl (decide (i≤j))) C
 | _,_,_,_=>False
def wGt:W2
 | .int i,.int j,C,Q=>Q (.bl (decide (j<i))) C
 | _,_,_,_=>False
def wGe:W2
 | .int i,.int j,C,Q=>Q (.bl (decide (j≤i))) C
 | _,_,_,_=>False
mutual
def eqT:T→T→Bool
 | .non,.non=>true
 | .bl a,.bl b=>a==b
 | .bl a,.int b=>(if a then 1 else 0)==b
 | .int a,.bl b=>a==(if b then 1 else 0)
 | .int a,.int b=>a==b
 | .str a,.str b=>a==b
 | .tup xs,.tup ys=>eqTs xs ys
 | _,_=>false
def eqTs:List T→List T→Bool
 | [],[]=>true
 | x::xs,y::ys=>eqT x y&&eqTs xs ys
 | _,_=>false
end
mutual
def flat:T→Nat→Bool
 | .tup xs,n+1=>flats xs n
 | .tup _,0=>false
 | .ref _,_=>false
 | .cl _,_=>false
 | _,_=>true
def flats:List T→Nat→Bool
 | [],_=>true
 | x::xs,n=>flat x n&&flats xs n
end
def Zc0:Nat:=100
def Jn (x:T):Prop:=flat x Zc0=true
def wEqG (neg:Bool):W2
 | .ref a,.ref b,C,Q=>∃xs ys,C a=some (.lst xs)∧C b=some (.lst ys)∧(xs.length=ys.length→flats xs Zc0=true∧flats ys Zc0=true)∧Q (.bl (if neg then !eqTs xs ys else eqTs xs ys)) C
 | .ref a,y,C,Q=>(∃xs,C a=some (.lst xs))∧Jn y∧Q (.bl neg) C
 | x,.ref b,C,Q=>(∃ys,C b=some (.lst ys))∧Jn x∧Q (.bl neg) C
 | x,y,C,Q=>Jn x∧Jn y∧Q (.bl (if neg then !eqT x y else eqT x y)) C
abbrev wEq:W2:=wEqG false
abbrev wNe:W2:=wEqG true
def wIsN:W2:=fun x y C Q=>y=.non∧Q (.bl (match x with | .non=>true | _=>false)) C
def Zn5:W2:=fun x y C Q=>y=.non∧Q (.bl (match x with | .non=>false | _=>true)) C
def inL (x:T)(xs:List T):Bool:=xs.any fun y=>eqT y x
def wInG (neg:Bool):W2
 | .str i,.str j,C,Q=>Q (.bl (if neg then(!(!(Builtin.Str.occurrences j i 0 j.length 1).isEmpty)) else(!(Builtin.Str.occurrences j i 0 j.length 1).isEmpty))) C
 | x,.tup ys,C,Q=>Jn x∧flats ys Zc0=true∧Q (.bl (if neg then !inL x ys else inL x ys)) C
 | x,.cl ys,C,Q=>Jn x∧flats ys Zc0=true∧Q (.bl (if neg then !inL x ys else inL x ys)) C
 | x,.ref a,C,Q=>∃ys,C a=some (.lst ys)∧Jn x∧flats ys Zc0=true∧Q (.bl (if neg then !inL x ys else inL x ys)) C
 | _,_,_,_=>False
abbrev wIn:W2:=wInG false
abbrev Zp3:W2:=wInG true
def cut {α:Type}(xs:List α)(lo hi:Option Int):List α:=(xs.drop (HT.sIx xs.length 0 lo)).take (HT.sIx xs.length xs.length hi-HT.sIx xs.length 0 lo)
def Zu:W2
 | .tup xs,.int i,C,Q=>∃v,atI xs i=some v∧Q v C
 | .cl xs,.int i,C,Q=>∃v,atI xs i=some v∧Q v C
 | .str z,.int i,C,Q=>z.length≤sizeLine∧∃c,atI z.cps.toList i=some c∧Q (.str ⟨#[c]⟩) C
 | .ref a,.int i,C,Q=>∃xs v,C a=some (.lst xs)∧atI xs i=some v∧Q v C
 | _,_,_,_=>False
def oNo:Sw→Hw→(Option Int→Hw→Prop)→WX→Prop:=fun _ C Q _=>Q none C
def Zdd (a:WE):Sw→Hw→(Option Int→Hw→Prop)→WX→Prop:=fun τ C Q χ=>a τ C (fun x C1=>∃i,x=.int i∧Q (some i) C1) χ
def wSl:T→Option Int→Option Int→Hw→WK→Prop
 | .tup xs,lo,hi,C,Q=>¬(HT.sIx xs.length 0 lo=0∧HT.sIx xs.length xs.length hi=xs.length)∧Q (.tup (cut xs lo hi)) C
 | .cl xs,lo,hi,C,Q=>∀p,C p=none→Q (.ref p) (up C p (.lst (cut xs lo hi)))
 | .str z,lo,hi,C,Q=>z.length≤sizeLine∧Q (.str (Txt.slice z lo hi)) C
 | .ref a,lo,hi,C,Q=>∃xs,C a=some (.lst xs)∧∀p,C p=none→Q (.ref p) (up C p (.lst (cut xs lo hi)))
 | _,_,_,_,_=>False
def eSl (a:WE)(lo hi:Sw→Hw→(Option Int→Hw→Prop)→WX→Prop):WE:=fun τ C Q χ=>a τ C (fun x C1=>lo τ C1 (fun l C2=>hi τ C2 (fun h C3=>wSl x l h C3 Q) χ) χ) χ
def bLen:List T→Hw→WK→Prop:=fun vs C Q=>∃x,vs=[x]∧match x with
 | .str z=>z.length≤sizeLine∧Q (.int z.length) C
 | .tup xs=>Q (.int xs.length) C
 | .cl xs=>Q (.int xs.length) C
 | .ref a=>∃xs,C a=some (.lst xs)∧Q (.int xs.length) C
 | _=>False
def bMax:List T→Hw→WK→Prop:=fun vs C Q=>∃i j,vs=[.int i,.int j]∧Q (.int (if j>i then j else i)) C
def bMin:List T→Hw→WK→Prop:=fun vs C Q=>∃i j,vs=[.int i,.int j]∧Q (.int (if j<i then j else i)) C
def Zgo:List T→Hw→WK→Prop:=fun vs C Q=>∃x,vs=[x]∧match x with
 | .tup xs=>Q (.tup xs) C
 | .cl xs=>Q (.tup xs) C
 | .ref a=>∃xs,C a=some (.lst xs)∧Q (.tup xs) C
 | _=>False
def Zsn:List T→Hw→WK→Prop:=fun vs C Q=>∃x,vs=[x]∧match x with
 | .tup xs=>∀p,C p=none→Q (.ref p) (up C p (.lst xs))
 | .cl xs=>∀p,C p=none→Q (.ref p) (up C p (.lst xs))
 | .ref a=>∃xs,C a=some (.lst xs)∧∀p,C p=none→Q (.ref p) (up C p (.lst xs))
 | _=>False
def tyN:T→Hw→String→Prop
 | .non,_,n=>n="NoneType"
 | .bl _,_,n=>n="bool"
 | .int _,_,n=>n="int"
 | .str _,_,n=>n="str"
 | .tup _,_,n=>n="tuple"
 | .cl _,_,n=>n="list"
 | .ref a,C,n=>(n="list"∧∃xs,C a=some (.lst xs))∨(n="dict"∧∃kvs,C a=some (.dic kvs))
def Zcy (n c:String):Bool:=n==c||(n=="bool"&&c=="int")
def eIsi (a:WE)(c:String):WE:=fun τ C Q χ=>a τ C (fun x C1=>∃n,tyN x C1 n∧Q (.bl (Zcy n c)) C1) χ
def tyL':T→Hw→Prop:=fun x C=>∃a xs,x=.ref a∧C a=some (.lst xs)
def tyS:T→Hw→Prop:=fun x _=>∃z,x=.str z
def Xc:T→List T→Hw→WK→Prop:=fun x vs C Q=>∃a xs y,x=.ref a∧vs=[y]∧C a=some (.lst xs)∧xs.length<sizeLine∧Q .non (up C a (.lst (xs++[y])))
def mPop:T→List T→Hw→WK→Prop:=fun x vs C Q=>∃a xs y,x=.ref a∧vs=[]∧C a=some (.lst xs)∧xs[xs.length-1]?=some y∧Q y (up C a (.lst xs.dropLast))
def Zq0:T→List T→Hw→WK→Prop:=fun x vs C Q=>∃a xs i k y,x=.ref a∧vs=[.int i]∧C a=some (.lst xs)∧ -(2^63)≤i∧i<2^63∧seqIndex? i xs.length=some k∧xs[k]?=some y∧Q y (up C a (.lst (xs.eraseIdx k)))
def gNm (i:Nat):WG:=fun v τ C Q _=>Q (τ.set i (some v)) C
def Zdy:WGs:=fun vs τ C Q _=>vs=[]∧Q τ C
def Js (g:WG)(gs:WGs):WGs:=fun vs τ C Q χ=>∃v r,vs=v::r∧g v τ C (fun τ' C'=>gs r τ' C' Q χ) χ
def gTp (gs:WGs):WG:=fun v τ C Q χ=>∃xs,v=.tup xs∧gs xs τ C Q χ
def gSb (o i:WE):WG:=fun v τ C Q χ=>o τ C (fun x C1=>i τ C1 (fun y C2=>∃a xs k j,x=.ref a∧y=.int k∧C2 a=some (.lst xs)∧ixN xs.length k=some j∧Q τ (up C2 a (.lst (xs.set j v)))) χ) χ
def Z6:WS:=fun D τ C=>D.nx τ C
def Zq (a b:WS):WS:=fun D τ C=>a {D with nx:=b D} τ C
def Yt (e:WE):WS:=fun D τ C=>e τ C (fun _ C1=>D.nx τ C1) D.xc
def Ya (e:WE):WS:=fun D τ C=>e τ C D.rt D.xc
def Zop:WS:=fun D _ C=>D.rt .non C
def sIf (c:WT)(a b:WS):WS:=fun D τ C=>c τ C (fun k C1=>if k=true then a D τ C1 else b D τ C1) D.xc
def Z3 (e:WE)(g:WG):WS:=fun D τ C=>e τ C (fun x C1=>g x τ C1 D.nx D.xc) D.xc
def sBrk:WS:=fun D τ C=>D.bk τ C
def Zvd:WS:=fun D τ C=>D.ct τ C
def Zqh:WS:=fun _ _ _=>False
def forW (g:WG)(b:WS)(ok:Hw→Prop)(D:We):List T→Sw→Hw→Prop
 | [],τ,C=>ok C∧D.nx τ C
 | x::xs,τ,C=>ok C∧g x τ C (fun τ2 C2=>b {D with nx:=forW g b ok D xs,ct:=forW g b ok D xs,bk:=D.nx} τ2 C2) D.xc
def sFor (i:WI)(g:WG)(b:WS):WS:=fun D τ C=>i τ C (fun xs ok C1=>forW g b ok D xs τ C1) D.xc
def iSeq (e:WE):WI:=fun τ C R χ=>e τ C (fun v C1=>match v with
 | .tup xs=>R xs (fun _=>True) C1
 | .cl xs=>R xs (fun _=>True) C1
 | .str z=>R (z.cps.toList.map fun c=>T.str ⟨#[c]⟩) (fun _=>True) C1
 | .ref a=>∃xs,C1 a=some (.lst xs)∧R xs (fun C2=>C2 a=some (.lst xs)) C1
 | _=>False) χ
def rng (lo:Int)(n:Nat):List T:=(List.range n).map fun k:Nat=>T.int (lo+k)
def iR1 (a:WA):WI:=fun τ C R χ=>a τ C (fun vs C1=>∃j:Int,vs=[.int j]∧ -(2^62)≤j∧j<2^62∧R (rng 0 j.toNat) (fun _=>True) C1) χ
def iR2 (a:WA):WI:=fun τ C R χ=>a τ C (fun vs C1=>∃i j:Int,vs=[.int i,.int j]∧(-(2^62)≤i∧i<2^62∧ -(2^62)≤j∧j<2^62)∧R (rng i (j-i).toNat) (fun _=>True) C1) χ
def iEn (a:WA):WI:=fun τ C R χ=>a τ C (fun vs C1=>∃z,vs=[.str z]∧R (z.cps.toList.zipIdx.map fun c=>T.tup [.int c.2,.str ⟨#[c.1]⟩]) (fun _=>True) C1) χ
def capW (cap:List (Option Nat))(τ:Sw):Sw:=cap.map fun o=>o.bind fun i=>(τ[i]?).join
def tYes:WT:=fun _ C Q _=>Q true C
def Zhn (g:WG)(c:WT)(e:WE)(ok:Hw→Prop)(τ:Sw)(Q:List T→Hw→Prop)(χ:WX):List T→List T→Hw→Prop
 | [],acc,C=>ok C∧Q acc C
 | x::xs,acc,C=>ok C∧g x τ C (fun τ2 C2=>c τ2 C2 (fun b C3=>if b=true then e τ2 C3 (fun v C4=>acc.length<sizeLine∧Zhn g c e ok τ Q χ xs (acc++[v]) C4) χ else Zhn g c e ok τ Q χ xs acc C3) χ) χ
def Za6 (cap:List (Option Nat))(i:WI)(g:WG)(c:WT)(e:WE):WE:=fun τ C Q χ=>i τ C (fun xs ok C1=>Zhn g c e ok (capW cap τ) (fun vs C2=>∀p,C2 p=none→Q (.ref p) (up C2 p (.lst vs))) χ xs [] C1) χ
structure Df where
 n:Nat
 ar:Nat
 body:Calls→WS
def wpc (pr:List Df):Nat→Calls
 | 0=>fun _ _ _ _ _=>False
 | n+1=>fun i vs C Q χ=>∃d,pr[i]?=some d∧vs.length=d.ar∧d.body (wpc pr n) (ZUD Q χ) (vs.map some++List.replicate (d.n-d.ar) none) C
section
variable {X:Cx}{pins:List (Addr×Obj)}{σ:L2.St}{H:Hp}{s:Shared}
def sc:T→Option V
 | .non=>some .non
 | .bl b=>some (.bl b)
 | .int i=>some (.int i)
 | .str z=>some (.str z)
 | _=>none
theorem Zbm {K:W.Frag}{H:Hp}{x z:V}{v:T}(h:sc v=some z)(r:Rep K H x v):x=z∧Zpm z=true:=by
 cases v with
 | non=>cases h;exact⟨Zd6 r,rfl⟩
 | bl b=>cases h;exact⟨Zdv r,rfl⟩
 | int i=>cases h;exact⟨Yh r,rfl⟩
 | str z=>cases h;exact⟨Jv r,rfl⟩
 | _=>cases h
theorem Zw8 {v w:T}{a b:V}(h:sc v=some a)(h':sc w=some b):eqT v w=eqV a b:=by
 cases v<;>cases w<;>cases h<;>cases h'<;>unfold eqT<;>rfl
mutual
theorem Zj6:∀(v:T) {n:Nat},flat v n=true→eqT v v=true
 | .non,_,_=>by unfold eqT;rfl
 | .bl b,_,_=>by unfold eqT;simp
 | .int b,_,_=>by unfold eqT;simp
 | .str b,_,_=>by unfold eqT;simp
 | .tup xs,0,h=>by unfold flat at h;cases h
 | .tup xs,n+1,h=>by unfold flat at h;unfold eqT;exact Zlt xs h
 | .ref a,_,h=>by unfold flat at h;cases h
 | .cl a,_,h=>by unfold flat at h;cases h
theorem Zlt:∀(v:List T) {n:Nat},flats v n=true→eqTs v v=true
 | [],_,_=>by unfold eqTs;rfl
 | x::xs,n,h=>by
  unfold flats at h
  rw[Bool.and_eq_true] at h
  unfold eqTs
  rw[Zj6 x h.1,Zlt xs h.2];rfl
end
theorem Zao {v:T}{n:Nat}(h:flat v n=true)(e:sc v=none):∃ts m,v=.tup ts∧n=m+1∧flats ts m=true:=by
 cases v with
 | tup ts=>
  cases n with
  | zero=>unfold flat at h;cases h
  | succ m=>unfold flat at h;exact⟨ts,m,rfl,rfl,h⟩
 | ref a=>unfold flat at h;cases h
 | cl a=>unfold flat at h;cases h
 | non=>cases e
 | bl b=>cases e
 | int b=>cases e
 | str b=>cases e
theorem Za5:∀{vs:List T} {n i:Nat} {v:T},flats vs n=true→vs[i]?=some v→flat v n=true
 | [],_,_,_,_,e=>by simp at e
 | x::xs,n,0,v,h,e=>by
  unfold flats at h
  rw[Bool.and_eq_true] at h
  simp at e;subst e;exact h.1
 | x::xs,n,i+1,v,h,e=>by
  unfold flats at h
  rw[Bool.and_eq_true] at h
  exact Za5 h.2 (by simpa using e)
theorem Zrv (I:Inv X pins σ H s):∀(n:Nat) {v w:T} {x:V},flat v n=true→flat w n=true→Rep X.K H x v→Rep X.K H x w→v=w:=by
 intro n
 induction n with
 | zero=>
  intro v w x fv fw rv rw'
  cases ev:sc v with
  | none=>obtain⟨_,_,_,h,_⟩:=Zao fv ev;cases h
  | some a=>
   cases ew:sc w with
   | none=>obtain⟨_,_,_,h,_⟩:=Zao fw ew;cases h
   | some b=>
    obtain⟨e1,_⟩:=Zbm ev rv
    obtain⟨e2,_⟩:=Zbm ew rw'
    have e:a=b:=e1.symm.trans e2
    subst e
    cases v<;>cases ev<;>cases w<;>cases ew<;>rfl
 | succ n ih=>
  intro v w x fv fw rv rw'
  have lists:∀{ys:List V} {vs ws:List T},flats vs n=true→flats ws n=true→Reps X.K H ys vs→Reps X.K H ys ws→vs=ws:=by
   intro ys vs
   induction vs generalizing ys with
   | nil=>
    intro ws _ _ a b
    have:=Zas a
    subst this
    cases ws with
    | nil=>rfl
    | cons w ws=>obtain⟨_,_,e,_⟩:=Jo b;cases e
   | cons v vs ihv=>
    intro ws fa fb a b
    obtain⟨y,r,rfl,a1,a2⟩:=Jo a
    cases ws with
    | nil=>have:=Zas b;cases this
    | cons w ws=>
     obtain⟨y',r',e,b1,b2⟩:=Jo b
     cases e
     unfold flats at fa fb
     rw[Bool.and_eq_true] at fa fb
     rw[ih fa.1 fb.1 a1 b1,ihv fa.2 fb.2 a2 b2]
  cases ev:sc v with
  | none=>
   obtain⟨ts,m,rfl,em,ft⟩:=Zao fv ev
   cases em
   obtain⟨a,ys,rfl,hq,r⟩:=Y6 rv
   cases ew:sc w with
   | none=>
    obtain⟨us,m',rfl,em,fu⟩:=Zao fw ew
    cases em
    obtain⟨b,zs,e,hq',r'⟩:=Y6 rw'
    cases e
    have e:=I.tuple_inj hq hq'
    subst e
    rw[lists ft fu r r']
   | some b=>
    obtain⟨e2,f⟩:=Zbm ew rw'
    subst e2
    cases f
  | some a=>
   obtain⟨e1,f⟩:=Zbm ev rv
   cases ew:sc w with
   | none=>
    obtain⟨us,m',rfl,em,fu⟩:=Zao fw ew
    obtain⟨b,zs,e,hq',r'⟩:=Y6 rw'
    subst e1
    subst e
    cases f
   | some b=>
    obtain⟨e2,_⟩:=Zbm ew rw'
    have e:a=b:=e1.symm.trans e2
    subst e
    cases v<;>cases ev<;>cases w<;>cases ew<;>rfl
def eqJ (ts us:List T)(j:Nat):Bool:=match ts[j]?,us[j]? with
 | some a,some b=>eqT a b
 | _,_=>true
theorem Zcz:∀(vs ws:List T),((List.range (min vs.length ws.length)).all (eqJ vs ws)&&vs.length==ws.length)=eqTs vs ws
 | [],[]=>by unfold eqTs;rfl
 | [],_::_=>by unfold eqTs;simp
 | _::_,[]=>by unfold eqTs;simp
 | v::vs,w::ws=>by
  unfold eqTs
  rw[←Zcz vs ws]
  rw[YF,YF,show min (vs.length+1) (ws.length+1)=min vs.length ws.length+1 by omega,List.range_succ_eq_map,List.all_cons,List.all_map]
  have e1:eqJ (v::vs) (w::ws) 0=eqT v w:=rfl
  have e2:(eqJ (v::vs) (w::ws)∘Nat.succ)=eqJ vs ws:=by funext j;simp[Function.comp_def,eqJ]
  rw[e1,e2]
  simp[Bool.and_assoc]
theorem Zxa (I:Inv X pins σ H s):∀(n:Nat) {v w:T} {x y:V} {u u':Value} {A:Around},flat v n=true→flat w n=true→Rep X.K H x v→Rep X.K H y w→Yg x u→Yg y u'→A.units+n<cLine→
  SeqAt.EqAt A s u u' (eqT v w):=by
 intro n
 induction n with
 | zero=>
  intro v w x y u u' A fv fw rv rw' ru ru' hu
  cases ev:sc v with
  | none=>obtain⟨_,_,_,h,_⟩:=Zao fv ev;cases h
  | some a=>
   cases ew:sc w with
   | none=>obtain⟨_,_,_,h,_⟩:=Zao fw ew;cases h
   | some b=>
    obtain⟨rfl,f1⟩:=Zbm ev rv
    obtain⟨rfl,f2⟩:=Zbm ew rw'
    rw[Zw8 ev ew]
    exact Zw9 ru ru' f1 f2
 | succ n ih=>
  intro v w x y u u' A fv fw rv rw' ru ru' hu
  have hu0:A.units<cLine:=by omega
  cases ev:sc v with
  | some a=>
   obtain⟨rfl,f1⟩:=Zbm ev rv
   cases ew:sc w with
   | some b=>
    obtain⟨rfl,f2⟩:=Zbm ew rw'
    rw[Zw8 ev ew]
    exact Zw9 ru ru' f1 f2
   | none=>
    obtain⟨ts,m,rfl,em,ft⟩:=Zao fw ew
    obtain⟨b,zs,rfl,hq,r⟩:=Y6 rw'
    cases ru'
    obtain⟨its,_,p,_⟩:=I.tuple hq
    cases v with
    | non=>cases ev;cases ru;unfold eqT;exact SeqAt.EqAt.none_tuple p hu0
    | bl c=>cases ev;cases ru;unfold eqT;exact SeqAt.EqAt.bool_tuple c p hu0
    | int i=>cases ev;obtain⟨t,rfl⟩:=ru;unfold eqT;exact SeqAt.EqAt.int_tuple i t p hu0
    | str i=>cases ev;obtain⟨t,rfl⟩:=ru;unfold eqT;exact SeqAt.EqAt.str_tuple i t p hu0
    | _=>cases ev
  | none=>
   obtain⟨ts,m,rfl,em,ft⟩:=Zao fv ev
   cases em
   obtain⟨a,ys,rfl,hq,r⟩:=Y6 rv
   cases ru
   obtain⟨its,rI,p,_⟩:=I.tuple hq
   cases ew:sc w with
   | some b=>
    obtain⟨rfl,f2⟩:=Zbm ew rw'
    cases w with
    | non=>cases ew;cases ru';unfold eqT;exact SeqAt.EqAt.tuple_none p hu0
    | bl c=>cases ew;cases ru';unfold eqT;exact SeqAt.EqAt.tuple_bool c p hu0
    | int i=>cases ew;obtain⟨t,rfl⟩:=ru';unfold eqT;exact SeqAt.EqAt.tuple_int i t p hu0
    | str i=>cases ew;obtain⟨t,rfl⟩:=ru';unfold eqT;exact SeqAt.EqAt.tuple_str i t p hu0
    | _=>cases ew
   | none=>
    obtain⟨us,m',rfl,em,fu⟩:=Zao fw ew
    cases em
    obtain⟨b,zs,rfl,hq',r'⟩:=Y6 rw'
    cases ru'
    obtain⟨its',rI',p',_⟩:=I.tuple hq'
    by_cases hne:a=b
    ·subst hne
     have e:=Zrv I (n+1) fv fw (Zap hq r) (Zap hq' r')
     rw[e,Zj6 _ fw]
     exact SeqAt.EqAt.same _
    ·have l1:its.toArray.size=ts.length:=by rw[XJ,←rI.length,r.length]
     have l2:its'.toArray.size=us.length:=by rw[XJ,←rI'.length,r'.length]
     have key:=SeqAt.EqAt.of_refs hne (SeqAt.RcAt.tuples (A:=A) (e:=eqJ ts us) p p' hu0 (fun j h1 h2=>by
      have i1:ts[j]?=some (ts[j]'(by omega)):=by simp[l1▸h1]
      have i2:us[j]?=some (us[j]'(by omega)):=by simp[l2▸h2]
      obtain⟨x1,g1,q1⟩:=r.get i1
      obtain⟨x2,g2,q2⟩:=r'.get i2
      obtain⟨u1,k1,z1⟩:=rI.get g1
      obtain⟨u2,k2,z2⟩:=rI'.get g2
      have e1:its.toArray[j]=u1:=by
       have:its[j]?=some its.toArray[j]:=by simp
       rw[k1] at this;exact(YH this).symm
      have e2:its'.toArray[j]=u2:=by
       have:its'[j]?=some its'.toArray[j]:=by simp
       rw[k2] at this;exact(YH this).symm
      rw[e1,e2]
      unfold eqJ
      simp only[i1,i2]
      exact ih (Za5 ft i1) (Za5 fu i2) q1 q2 z1 z2 (by show A.units+1+n<cLine;omega)))
     rw[l1,l2,Zcz] at key
     unfold eqT
     exact key
end
def RepS (K:W.Frag)(H:Hp)(σ:L2.St)(τ:Sw):Prop:=σ.length=τ.length∧∀(i:Nat) (v:T),τ[i]?=some (some v)→∃x,σ[i]?=some (some x)∧Rep K H x v
theorem RepS.tx {K:W.Frag}{H H':Hp}{σ:L2.St}{τ:Sw}(h:RepS K H σ τ)(t:Tx H H'):RepS K H' σ τ:=⟨h.1,fun i v e=>let ⟨x,a,b⟩:=h.2 i v e;⟨x,a,b.tx t⟩⟩
theorem RepS.set {K:W.Frag}{H:Hp}{σ:L2.St}{τ:Sw}(h:RepS K H σ τ){i:Nat}{x:V}{v:T}(r:Rep K H x v):RepS K H (σ.set i (some x)) (τ.set i (some v)):=by
 refine⟨by rw[List.length_set,List.length_set];exact h.1,fun j w e=>?_⟩
 by_cases hj:i=j
 ·subst hj
  by_cases hi:i<τ.length
  ·rw[List.getElem?_set_self hi] at e
   cases e
   exact⟨x,List.getElem?_set_self (by rw[h.1];exact hi),r⟩
  ·rw[List.getElem?_eq_none (by rw[List.length_set];omega)] at e
   cases e
 ·rw[List.getElem?_set_ne hj] at e ⊢
  exact h.2 j w e
abbrev QE (K:W.Frag)(F H:Hp)(Q:VK)(Q':WK):Prop:=∀x v H' C',Rl K F H' C'→Tx H H'→Rep K H' x v→Q' v C'→Q x H'
abbrev QT (K:W.Frag)(F H:Hp)(Q:Bool→Hp→Prop)(Q':Bool→Hw→Prop):Prop:=∀b H' C',Rl K F H' C'→Tx H H'→Q' b C'→Q b H'
abbrev QA (K:W.Frag)(F H:Hp)(Q:List V→Hp→Prop)(Q':List T→Hw→Prop):Prop:=∀xs vs H' C',Rl K F H' C'→Tx H H'→Reps K H' xs vs→Q' vs C'→Q xs H'
theorem QE.at {K:W.Frag}{F H H1:Hp}{Q:VK}{Q':WK}(q:QE K F H Q Q')(t:Tx H H1):QE K F H1 Q Q':=fun x v H' C' R t'=>q x v H' C' R (t.trans t')
def SimE (K:W.Frag)(te:TE)(we:WE):Prop:=∀(F H:Hp) (C:Hw) (σ:L2.St) (τ:Sw) (Q:VK) (Q':WK) (χ:WX),Rl K F H C→RepS K H σ τ→we τ C Q' χ→QE K F H Q Q'→te σ H Q
def SimT (K:W.Frag)(te:TT)(we:WT):Prop:=∀(F H:Hp) (C:Hw) (σ:L2.St) (τ:Sw) (Q:Bool→Hp→Prop) (Q':Bool→Hw→Prop) (χ:WX),Rl K F H C→RepS K H σ τ→we τ C Q' χ→QT K F H Q Q'→te σ H Q
def SimA (K:W.Frag)(te:TA)(we:WA):Prop:=∀(F H:Hp) (C:Hw) (σ:L2.St) (τ:Sw) (Q:List V→Hp→Prop) (Q':List T→Hw→Prop) (χ:WX),Rl K F H C→RepS K H σ τ→we τ C Q' χ→QA K F H Q Q'→te σ H Q
def SimR (K:W.Frag)(r:R2)(w:W2):Prop:=∀(F H:Hp) (C:Hw) (x y:V) (v u:T) (Q:VK) (Q':WK),Rl K F H C→Rep K H x v→Rep K H y u→w v u C Q'→QE K F H Q Q'→r x y H Q
def SimB (K:W.Frag)(r:List V→Hp→VK→Prop)(w:List T→Hw→WK→Prop):Prop:=∀(F H:Hp) (C:Hw) (xs:List V) (vs:List T) (Q:VK) (Q':WK),Rl K F H C→Reps K H xs vs→w vs C Q'→QE K F H Q Q'→r xs H Q
def SimM (K:W.Frag)(r:V→List V→Hp→VK→Prop)(w:T→List T→Hw→WK→Prop):Prop:=∀(F H:Hp) (C:Hw) (x:V) (v:T) (xs:List V) (vs:List T) (Q:VK) (Q':WK),Rl K F H C→Rep K H x v→Reps K H xs vs→w v vs C Q'→QE K F H Q Q'→r x xs H Q
def SimU (K:W.Frag)(r:V→Hp→VK→Prop)(w:T→Hw→WK→Prop):Prop:=∀(F H:Hp) (C:Hw) (x:V) (v:T) (Q:VK) (Q':WK),Rl K F H C→Rep K H x v→w v C Q'→QE K F H Q Q'→r x H Q
def SdE (X:Cx)(e:Expr)(w:WE):Prop:=∃t,PE X e t∧SimE X.K t w
def SdT (X:Cx)(e:Expr)(w:WT):Prop:=∃t,PT X e t∧SimT X.K t w
def SdW (X:Cx)(e:Expr)(w:WT):Prop:=∃t,PW X e t∧SimT X.K t w
def SdA (X:Cx)(es:List Expr)(w:WA):Prop:=∃t,PA X es t∧SimA X.K t w
def OpS (X:Cx)(f:Value→Value→Sem Value)(w:W2):Prop:=∃r,OpR X f r∧SimR X.K r w
def IxS (X:Cx)(w:W2):Prop:=∃r,IxR X r∧SimR X.K r w
def Zf8 (X:Cx)(f:Value)(w:List T→Hw→WK→Prop):Prop:=∃r,Zbi X f r∧SimB X.K r w
def MtS (X:Cx)(id:String)(w:T→List T→Hw→WK→Prop):Prop:=∃r,MtR X id r∧SimM X.K r w
section
variable {K:W.Frag}{ta tb tc:TE}{wa wb wc:WE}{r r':R2}{w w':W2}
theorem s_var {i:Nat}:SimE K (tVar i) (Zd i):=fun F H C σ τ Q Q' χ R S h q=>by
 obtain⟨v,e,h⟩:=h
 obtain⟨x,ex,rx⟩:=S.2 i v e
 exact⟨x,ex,q x v H C R (Tx.refl H) rx h⟩
theorem s_c {x:V}{v:T}(h:∀H,Rep K H x v):SimE K (tC x) (eC v):=fun F H C σ τ Q Q' χ R S w q=>q x v H C R (Tx.refl H) (h H) w
theorem s_op (ha:SimE K ta wa)(hb:SimE K tb wb)(hr:SimR K r w):SimE K (tOp r ta tb) (Zh w wa wb):=fun F H C σ τ Q Q' χ R S h q=>by
 refine ha F H C σ τ _ _ χ R S h fun x v H1 C1 R1 t1 rx h1=>?_
 refine hb F H1 C1 σ τ _ _ χ R1 (S.tx t1) h1 fun y u H2 C2 R2 t2 ry h2=>?_
 exact hr F H2 C2 x y v u Q Q' R2 (rx.tx t2) ry h2 (QE.at q (t1.trans t2))
theorem s_un {r:V→Hp→VK→Prop}{w:T→Hw→WK→Prop}(ha:SimE K ta wa)(hr:SimU K r w):SimE K (tUn r ta) (eUn w wa):=fun F H C σ τ Q Q' χ R S h q=>by
 refine ha F H C σ τ _ _ χ R S h fun x v H1 C1 R1 t1 rx h1=>?_
 exact hr F H1 C1 x v Q Q' R1 rx h1 (QE.at q t1)
theorem s_nil:SimA K tNil Zf:=fun F H C σ τ Q Q' χ R S h q=>q [] [] H C R (Tx.refl H) Ji h
theorem Z1z {t:TA}{wt:WA}(ha:SimE K ta wa)(hb:SimA K t wt):SimA K (Zup ta t) (Zb wa wt):=fun F H C σ τ Q Q' χ R S h q=>by
 refine ha F H C σ τ _ _ χ R S h fun x v H1 C1 R1 t1 rx h1=>?_
 exact hb F H1 C1 σ τ _ _ χ R1 (S.tx t1) h1 fun xs vs H2 C2 R2 t2 rs h2=>q (x::xs) (v::vs) H2 C2 R2 (t1.trans t2) (Yk (rx.tx t2) rs) h2
theorem s_tup {t:TA}{wt:WA}(ha:SimA K t wt):SimE K (tTup t) (Zv wt):=fun F H C σ τ Q Q' χ R S h q=>by
 refine ha F H C σ τ _ _ χ R S h fun xs vs H1 C1 R1 t1 rs h1=>⟨by rw[rs.length];exact h1.1,fun p hp=>?_⟩
 exact q _ _ _ C1 (R1.hid hp) (t1.trans (Tx.new hp)) (Zap (SqT.of Yo) (rs.tx (Tx.new hp))) h1.2
theorem s_lst {t:TA}{wt:WA}(ha:SimA K t wt):SimE K (tLst t) (Xs wt):=fun F H C σ τ Q Q' χ R S h q=>by
 refine ha F H C σ τ _ _ χ R S h fun xs vs H1 C1 R1 t1 rs h1=>⟨by rw[rs.length];exact h1.1,fun p hp=>?_⟩
 exact q _ _ _ _ (R1.newL hp rs) (t1.trans (Tx.new hp)) Ju (h1.2 p (R1.free hp))
theorem s_bi {r:List V→Hp→VK→Prop}{w:List T→Hw→WK→Prop}{t:TA}{wt:WA}(hr:SimB K r w)(ha:SimA K t wt):SimE K (tCB r t) (eBi w wt):=fun F H C σ τ Q Q' χ R S h q=>by
 refine ha F H C σ τ _ _ χ R S h fun xs vs H1 C1 R1 t1 rs h1=>?_
 exact hr F H1 C1 xs vs Q Q' R1 rs h1 (QE.at q t1)
theorem s_if {tt:TT}{wt:WT}(hc:SimT K tt wt)(ha:SimE K ta wa)(hb:SimE K tb wb):SimE K (tIf tt ta tb) (eIf wt wa wb):=fun F H C σ τ Q Q' χ R S h q=>by
 refine hc F H C σ τ _ _ χ R S h fun k H1 C1 R1 t1 h1=>?_
 cases k with
 | true=>exact ha F H1 C1 σ τ Q Q' χ R1 (S.tx t1) h1 (QE.at q t1)
 | false=>exact hb F H1 C1 σ τ Q Q' χ R1 (S.tx t1) h1 (QE.at q t1)
theorem s_and (ha:SimE K ta wa)(hb:SimE K tb wb):SimE K (Z00 ta tb) (eAnd wa wb):=fun F H C σ τ Q Q' χ R S h q=>by
 refine ha F H C σ τ _ _ χ R S h fun x v H1 C1 R1 t1 rx h1=>?_
 obtain⟨k,rfl,h1⟩:=h1
 refine⟨k,Zdv rx,?_⟩
 cases k with
 | true=>exact hb F H1 C1 σ τ Q Q' χ R1 (S.tx t1) h1 (QE.at q t1)
 | false=>exact q _ _ H1 C1 R1 t1 Jr h1
theorem s_not (ha:SimE K ta wa):SimE K (Z0z ta) (eNot wa):=fun F H C σ τ Q Q' χ R S h q=>by
 refine ha F H C σ τ _ _ χ R S h fun x v H1 C1 R1 t1 rx h1=>?_
 obtain⟨k,rfl,h1⟩:=h1
 exact⟨k,Zdv rx,q _ _ H1 C1 R1 t1 Jr h1⟩
theorem Zyl (ha:SimE K ta wa)(hb:SimE K tb wb)(hc:SimE K tc wc)(hr:SimR K r w)(hr':SimR K r' w'):SimE K (Zuq r r' ta tb tc) (Zh9 w w' wa wb wc):=fun F H C σ τ Q Q' χ R S h q=>by
 refine ha F H C σ τ _ _ χ R S h fun x v H1 C1 R1 t1 rx h1=>?_
 refine hb F H1 C1 σ τ _ _ χ R1 (S.tx t1) h1 fun y u H2 C2 R2 t2 ry h2=>?_
 refine hr F H2 C2 x y v u _ _ R2 (rx.tx t2) ry h2 fun z z' H3 C3 R3 t3 rz h3=>?_
 obtain⟨k,rfl,h3⟩:=h3
 refine⟨k,Zdv rz,?_⟩
 cases k with
 | true=>
  refine hc F H3 C3 σ τ _ _ χ R3 (S.tx ((t1.trans t2).trans t3)) h3 fun a b H4 C4 R4 t4 rb h4=>?_
  exact hr' F H4 C4 y a u b Q Q' R4 ((ry.tx t3).tx t4) rb h4 (QE.at q (((t1.trans t2).trans t3).trans t4))
 | false=>exact q _ _ H3 C3 R3 ((t1.trans t2).trans t3) Jr h3
theorem s_bl (ha:SimE K ta wa):SimT K (Zum ta) (tBl wa):=fun F H C σ τ Q Q' χ R S h q=>by
 refine ha F H C σ τ _ _ χ R S h fun x v H1 C1 R1 t1 rx h1=>?_
 obtain⟨k,rfl,h1⟩:=h1
 exact⟨k,Zdv rx,q k H1 C1 R1 t1 h1⟩
theorem s_tru (ha:SimE K ta wa):SimT K (fun σ H Q=>ta σ H fun x H'=>∃k,TruV K x H' k∧Q k H') (tTru wa):=fun F H C σ τ Q Q' χ R S h q=>by
 refine ha F H C σ τ _ _ χ R S h fun x v H1 C1 R1 t1 rx h1=>?_
 obtain⟨k,hk,h1⟩:=h1
 refine⟨k,?_,q k H1 C1 R1 t1 h1⟩
 have emp:∀{ys:List V} {xs:List T},Reps K H1 ys xs→ys.isEmpty=xs.isEmpty:=fun {ys xs} r=>by
  have:=r.length
  cases ys<;>cases xs<;>simp_all
 cases v with
 | non=>cases Zd6 rx;exact hk
 | bl b=>cases Zdv rx;exact hk
 | int i=>cases Yh rx;exact hk
 | str z=>cases Jv rx;exact hk
 | tup xs=>
  obtain⟨a,ys,rfl,hq,r⟩:=Y6 rx
  refine .inr (.inl ⟨ys,hq,?_⟩)
  rw[emp r];exact hk
 | cl xs=>
  obtain⟨a,ys,rfl,hq,r⟩:=Ze3 rx
  refine .inl ⟨ys,hq.sq,?_⟩
  rw[emp r];exact hk
 | ref a=>
  cases Yd rx
  rcases hk with⟨xs,hx,e⟩ | ⟨kvs,hx,e⟩
  ·obtain⟨ys,hy,r⟩:=R1.lst hx
   refine .inl ⟨ys,SqL.of hy,?_⟩
   rw[emp r];exact e
  ·obtain⟨ks,hy,r⟩:=R1.obj a _ hx
   refine .inr (.inr ⟨ks,hy,?_⟩)
   have:=Paired.length r
   rw[e]
   cases ks<;>cases kvs<;>simp_all
theorem s_an {t u:TT}{w w':WT}(ha:SimT K t w)(hb:SimT K u w'):SimT K (tAnd t u) (tAn w w'):=fun F H C σ τ Q Q' χ R S h q=>by
 refine ha F H C σ τ _ _ χ R S h fun k H1 C1 R1 t1 h1=>?_
 cases k with
 | true=>exact hb F H1 C1 σ τ Q Q' χ R1 (S.tx t1) h1 fun b H' C' R' t'=>q b H' C' R' (t1.trans t')
 | false=>exact q _ H1 C1 R1 t1 h1
theorem s_or' {t u:TT}{w w':WT}(ha:SimT K t w)(hb:SimT K u w'):SimT K (tOr t u) (tOr' w w'):=fun F H C σ τ Q Q' χ R S h q=>by
 refine ha F H C σ τ _ _ χ R S h fun k H1 C1 R1 t1 h1=>?_
 cases k with
 | true=>exact q _ H1 C1 R1 t1 h1
 | false=>exact hb F H1 C1 σ τ Q Q' χ R1 (S.tx t1) h1 fun b H' C' R' t'=>q b H' C' R' (t1.trans t')
theorem s_no {t:TT}{w:WT}(ha:SimT K t w):SimT K (tNot t) (tNo w):=fun F H C σ τ Q Q' χ R S h q=>by
 refine ha F H C σ τ _ _ χ R S h fun k H1 C1 R1 t1 h1=>?_
 exact q _ H1 C1 R1 t1 h1
end
section
variable {X:Cx}
theorem Zaw:OpS X (binaryOp .Add) wAdd:=⟨_,Z20.or (Zqp.or (Z2z.or (Zv2.or Zzh))),fun F H C x y v u Q Q' R rx ry h q=>by
 cases v<;>cases u<;>first | exact False.elim h | skip
 case int.int i j=>cases Yh rx;cases Yh ry;exact .inl ⟨i,j,rfl,rfl,q _ _ H C R (Tx.refl H) J9 h⟩
 case str.str i j=>cases Jv rx;cases Jv ry;exact .inr (.inl ⟨i,j,rfl,rfl,h.1,q _ _ H C R (Tx.refl H) Xa h.2⟩)
 case ref.ref a b=>
  cases Yd rx;cases Yd ry
  obtain⟨xs,ys,ha,hb,hl,h⟩:=h
  obtain⟨zs,hz,rz⟩:=R.lst ha
  obtain⟨ws,hw,rw'⟩:=R.lst hb
  exact .inr (.inr (.inl ⟨a,b,zs,ws,rfl,rfl,hz,hw,by rw[rz.length,rw'.length];exact hl,fun p hp=>q _ _ _ _ (R.newL hp (rz.app rw')) (Tx.new hp) Ju (h p (R.free hp))⟩))
 case tup.tup xs ys=>
  obtain⟨a,zs,rfl,hz,rz⟩:=Y6 rx
  obtain⟨b,ws,rfl,hw,rw'⟩:=Y6 ry
  by_cases e:zs=[]
  ·subst e
   have e2:xs=[]:=by
    have:=rz.length
    cases xs with
    | nil=>rfl
    | cons _ _=>cases this
   subst e2
   exact .inr (.inr (.inr (.inl ⟨a,b,ws,rfl,rfl,hz,hw,q _ _ H C R (Tx.refl H) (Zap hw rw') h.2⟩)))
  ·refine .inr (.inr (.inr (.inr ⟨a,b,zs,ws,rfl,rfl,hz,hw,e,by rw[rz.length,rw'.length];exact h.1,fun e2=>?_,fun e2 p hp=>?_⟩)))
   ·subst e2
    have e3:ys=[]:=by
     have:=rw'.length
     cases ys with
     | nil=>rfl
     | cons _ _=>cases this
    subst e3
    refine q _ _ H C R (Tx.refl H) (Zap hz rz) ?_
    have:=h.2
    rw[YK] at this
    exact this
   ·exact q _ _ _ C (R.hid hp) (Tx.new hp) (Zap (SqT.of Yo) ((rz.app rw').tx (Tx.new hp))) h.2⟩
theorem Xr:OpS X (binaryOp .Sub) Jl:=⟨_,Z2t,fun F H C x y v u Q Q' R rx ry h q=>by
 cases v<;>cases u<;>first | exact False.elim h | skip
 case int.int i j=>cases Yh rx;cases Yh ry;exact⟨i,j,rfl,rfl,q _ _ H C R (Tx.refl H) J9 h⟩⟩
theorem Zox:OpS X (binaryOp .Mult) wMul:=⟨_,Z2w,fun F H C x y v u Q Q' R rx ry h q=>by
 cases v<;>cases u<;>first | exact False.elim h | skip
 case int.int i j=>cases Yh rx;cases Yh ry;exact⟨i,j,rfl,rfl,h.1,q _ _ H C R (Tx.refl H) J9 h.2⟩⟩
theorem Xt:OpS X (binaryOp .FloorDiv) wDiv:=⟨_,Zzg,fun F H C x y v u Q Q' R rx ry h q=>by
 cases v<;>cases u<;>first | exact False.elim h | skip
 case int.int i j=>cases Yh rx;cases Yh ry;exact⟨i,j,rfl,rfl,h.1,q _ _ H C R (Tx.refl H) J9 h.2⟩⟩
theorem Ys:OpS X (binaryOp .Mod) Jt:=⟨_,Z2x,fun F H C x y v u Q Q' R rx ry h q=>by
 cases v<;>cases u<;>first | exact False.elim h | skip
 case int.int i j=>cases Yh rx;cases Yh ry;exact⟨i,j,rfl,rfl,h.1,q _ _ H C R (Tx.refl H) J9 h.2⟩⟩
theorem Zr1:OpS X (binaryOp .Pow) wPow:=⟨_,Z2v,fun F H C x y v u Q Q' R rx ry h q=>by
 cases v<;>cases u<;>first | exact False.elim h | skip
 case int.int i j=>cases Yh rx;cases Yh ry;exact⟨i,j,rfl,rfl,h.1,q _ _ H C R (Tx.refl H) J9 h.2⟩⟩
theorem o_lt:OpS X (compareOp .Lt) wLt:=⟨_,op_lt.or Zte,fun F H C x y v u Q Q' R rx ry h q=>by
 cases v<;>cases u<;>first | exact False.elim h | skip
 case int.int i j=>cases Yh rx;cases Yh ry;exact .inl ⟨i,j,rfl,rfl,q _ _ H C R (Tx.refl H) Jr h⟩
 case str.str i j=>cases Jv rx;cases Jv ry;exact .inr ⟨i,j,rfl,rfl,q _ _ H C R (Tx.refl H) Jr h⟩⟩
theorem o_le:OpS X (compareOp .LtE) wLe:=⟨_,op_le,fun F H C x y v u Q Q' R rx ry h q=>by
 cases v<;>cases u<;>first | exact False.elim h | skip
 case int.int i j=>cases Yh rx;cases Yh ry;exact⟨i,j,rfl,rfl,q _ _ H C R (Tx.refl H) Jr h⟩⟩
theorem o_gt:OpS X (compareOp .Gt) wGt:=⟨_,op_gt,fun F H C x y v u Q Q' R rx ry h q=>by
 cases v<;>cases u<;>first | exact False.elim h | skip
 case int.int i j=>cases Yh rx;cases Yh ry;exact⟨i,j,rfl,rfl,q _ _ H C R (Tx.refl H) Jr h⟩⟩
def rDir (X:Cx)(f:Value→Value→Sem Value):R2:=fun x y H Q=>∀(pins:List (Addr×Obj)) (s:Shared) (σ:L2.St) (v u:Value),Inv X pins σ H s→Yg x v→Yg y u→wpAny (model X.prog X.w) X.A (f v u) (EP X pins σ Q) X.xe s
theorem Zmq {f:Value→Value→Sem Value}:OpR X f (rDir X f):=fun pins s σ H x y v u Q I rx ry h=>h pins s σ v u I rx ry
theorem Zpc {pins:List (Addr×Obj)}{σ:L2.St}{H:Hp}{s:Shared}{A:Around}{n:Nat}{ts us:List T}{ys zs:List V}{its its':List Value}(I:Inv X pins σ H s)(r:Reps X.K H ys ts)(r':Reps X.K H zs us)(rI:Vals ys its)(rI':Vals zs its')
  (f:flats ts n=true) (f':flats us n=true) (hu:A.units+n<cLine):
  ∀j (h1:j<its.toArray.size) (h2:j<its'.toArray.size),SeqAt.EqAt A s its.toArray[j] its'.toArray[j] (eqJ ts us j):=fun j h1 h2=>by
 have l1:its.toArray.size=ts.length:=by rw[XJ,←rI.length,r.length]
 have l2:its'.toArray.size=us.length:=by rw[XJ,←rI'.length,r'.length]
 have i1:ts[j]?=some (ts[j]'(by omega)):=by simp[l1▸h1]
 have i2:us[j]?=some (us[j]'(by omega)):=by simp[l2▸h2]
 obtain⟨x1,g1,q1⟩:=r.get i1
 obtain⟨x2,g2,q2⟩:=r'.get i2
 obtain⟨u1,k1,z1⟩:=rI.get g1
 obtain⟨u2,k2,z2⟩:=rI'.get g2
 have e1:its.toArray[j]=u1:=by
  have:its[j]?=some its.toArray[j]:=by simp
  rw[k1] at this;exact(YH this).symm
 have e2:its'.toArray[j]=u2:=by
  have:its'[j]?=some its'.toArray[j]:=by simp
  rw[k2] at this;exact(YH this).symm
 rw[e1,e2]
 unfold eqJ
 simp only[i1,i2]
 exact Zxa I n (Za5 f i1) (Za5 f' i2) q1 q2 z1 z2 hu
theorem Zw7 {vs ws:List T}(h:vs.length≠ws.length):eqTs vs ws=false:=by
 rw[←Zcz,show(vs.length==ws.length)=false from beq_eq_false_iff_ne.mpr h,Bool.and_false]
theorem Ztz {vs ws:List T}(h:vs.length=ws.length):(List.range vs.length).all (eqJ vs ws)=eqTs vs ws:=by
 rw[←Zcz,h,Nat.min_self,XU,Bool.and_true]
theorem rcT {pins:List (Addr×Obj)}{σ:L2.St}{H:Hp}{s:Shared}{v w:T}{x y:V}{u u':Value}{A:Around}{n:Nat}(I:Inv X pins σ H s)(fv:flat v n=true)(fw:flat w n=true)(rv:Rep X.K H x v)(rw':Rep X.K H y w)
  (ru:Yg x u) (ru':Yg y u') (hu:A.units+n+1<cLine):SeqAt.RcAt A s u u' (eqT v w)∧SeqAt.RcNeAt A s u u' (!eqT v w):=by
 have hu0:A.units<cLine:=by omega
 cases ev:sc v with
 | some a=>
  obtain⟨rfl,f1⟩:=Zbm ev rv
  cases ew:sc w with
  | some b=>
   obtain⟨rfl,f2⟩:=Zbm ew rw'
   cases v with
   | non=>
    cases ev;cases ru
    cases w with
    | non=>cases ew;cases ru';unfold eqT;exact⟨.none_none,.none_none⟩
    | bl c=>cases ew;cases ru';unfold eqT;exact⟨.none_bool c,.none_bool c⟩
    | int c=>cases ew;obtain⟨t,rfl⟩:=ru';unfold eqT;exact⟨.none_int c t,.none_int c t⟩
    | str c=>cases ew;obtain⟨t,rfl⟩:=ru';unfold eqT;exact⟨.none_str c t,.none_str c t⟩
    | _=>cases ew
   | bl d=>
    cases ev;cases ru
    cases w with
    | non=>cases ew;cases ru';unfold eqT;exact⟨.bool_none d,.bool_none d⟩
    | bl c=>cases ew;cases ru';unfold eqT;exact⟨.bool_bool d c,.bool_bool d c⟩
    | int c=>cases ew;obtain⟨t,rfl⟩:=ru';unfold eqT;exact⟨.bool_int d c t,.bool_int d c t⟩
    | str c=>cases ew;obtain⟨t,rfl⟩:=ru';unfold eqT;exact⟨.bool_str d c t,.bool_str d c t⟩
    | _=>cases ew
   | int d=>
    cases ev;obtain⟨t',rfl⟩:=ru
    cases w with
    | non=>cases ew;cases ru';unfold eqT;exact⟨.int_none d t',.int_none d t'⟩
    | bl c=>cases ew;cases ru';unfold eqT;exact⟨.int_bool d t' c,.int_bool d t' c⟩
    | int c=>cases ew;obtain⟨t,rfl⟩:=ru';unfold eqT;exact⟨.int_int d t' c t,.int_int d t' c t⟩
    | str c=>cases ew;obtain⟨t,rfl⟩:=ru';unfold eqT;exact⟨.int_str d t' c t,.int_str d t' c t⟩
    | _=>cases ew
   | str d=>
    cases ev;obtain⟨t',rfl⟩:=ru
    cases w with
    | non=>cases ew;cases ru';unfold eqT;exact⟨.str_none d t',.str_none d t'⟩
    | bl c=>cases ew;cases ru';unfold eqT;exact⟨.str_bool d t' c,.str_bool d t' c⟩
    | int c=>cases ew;obtain⟨t,rfl⟩:=ru';unfold eqT;exact⟨.str_int d t' c t,.str_int d t' c t⟩
    | str c=>cases ew;obtain⟨t,rfl⟩:=ru';unfold eqT;exact⟨.str_str d t' c t,.str_str d t' c t⟩
    | _=>cases ew
   | _=>cases ev
  | none=>
   obtain⟨ts,m,rfl,em,ft⟩:=Zao fw ew
   obtain⟨b,zs,rfl,hq,r⟩:=Y6 rw'
   cases ru'
   obtain⟨its,_,p,_⟩:=I.tuple hq
   cases v with
   | non=>cases ev;cases ru;unfold eqT;exact⟨.none_tuple p hu0,.none_tuple p hu0⟩
   | bl c=>cases ev;cases ru;unfold eqT;exact⟨.bool_tuple c p hu0,.bool_tuple c p hu0⟩
   | int i=>cases ev;obtain⟨t,rfl⟩:=ru;unfold eqT;exact⟨.int_tuple i t p hu0,.int_tuple i t p hu0⟩
   | str i=>cases ev;obtain⟨t,rfl⟩:=ru;unfold eqT;exact⟨.str_tuple i t p hu0,.str_tuple i t p hu0⟩
   | _=>cases ev
 | none=>
  obtain⟨ts,m,rfl,em,ft⟩:=Zao fv ev
  subst em
  obtain⟨a,ys,rfl,hq,r⟩:=Y6 rv
  cases ru
  obtain⟨its,rI,p,_⟩:=I.tuple hq
  cases ew:sc w with
  | some b=>
   obtain⟨rfl,f2⟩:=Zbm ew rw'
   cases w with
   | non=>cases ew;cases ru';unfold eqT;exact⟨.tuple_none p hu0,.tuple_none p hu0⟩
   | bl c=>cases ew;cases ru';unfold eqT;exact⟨.tuple_bool c p hu0,.tuple_bool c p hu0⟩
   | int i=>cases ew;obtain⟨t,rfl⟩:=ru';unfold eqT;exact⟨.tuple_int i t p hu0,.tuple_int i t p hu0⟩
   | str i=>cases ew;obtain⟨t,rfl⟩:=ru';unfold eqT;exact⟨.tuple_str i t p hu0,.tuple_str i t p hu0⟩
   | _=>cases ew
  | none=>
   obtain⟨us,m',rfl,em,fu⟩:=Zao fw ew
   cases em
   obtain⟨b,zs,rfl,hq',r'⟩:=Y6 rw'
   cases ru'
   obtain⟨its',rI',p',_⟩:=I.tuple hq'
   have l1:its.toArray.size=ts.length:=by rw[XJ,←rI.length,r.length]
   have l2:its'.toArray.size=us.length:=by rw[XJ,←rI'.length,r'.length]
   have hi:=Zpc (A:=A.in1) I r r' rI rI' ft fu (by show A.units+1+m<cLine;omega)
   have k1:=SeqAt.RcAt.tuples (A:=A) p p' hu0 hi
   have k2:=SeqAt.RcNeAt.tuples (A:=A) p p' hu0 hi
   rw[l1,l2,Zcz] at k1 k2
   unfold eqT
   exact⟨k1,k2⟩
theorem Zr6 {pins:List (Addr×Obj)}{σ:L2.St}{H:Hp}{s:Shared}{w:T}{y:V}{u':Value}{A:Around}{n:Nat}{a:Addr}{its:List Value}(I:Inv X pins σ H s)(fw:flat w n=true)(rw':Rep X.K H y w)(ru':Yg y u')(hu0:A.units<cLine)
  (p:s.heap.IsList a its.toArray):(SeqAt.RcAt A s (.ref a) u' false∧SeqAt.RcNeAt A s (.ref a) u' true)∧(SeqAt.RcAt A s u' (.ref a) false∧SeqAt.RcNeAt A s u' (.ref a) true):=by
 cases w with
 | non=>cases Zd6 rw';cases ru';exact⟨⟨.list_none p hu0,.list_none p hu0⟩,.none_list p hu0,.none_list p hu0⟩
 | bl c=>cases Zdv rw';cases ru';exact⟨⟨.list_bool c p hu0,.list_bool c p hu0⟩,.bool_list c p hu0,.bool_list c p hu0⟩
 | int c=>cases Yh rw';obtain⟨t,rfl⟩:=ru';exact⟨⟨.list_int c t p hu0,.list_int c t p hu0⟩,.int_list c t p hu0,.int_list c t p hu0⟩
 | str c=>cases Jv rw';obtain⟨t,rfl⟩:=ru';exact⟨⟨.list_str c t p hu0,.list_str c t p hu0⟩,.str_list c t p hu0,.str_list c t p hu0⟩
 | tup ts=>
  obtain⟨b,zs,rfl,hq,r⟩:=Y6 rw'
  cases ru'
  obtain⟨its',_,p',_⟩:=I.tuple hq
  exact⟨⟨.list_tuple p p' hu0,.list_tuple p p' hu0⟩,.tuple_list p' p hu0,.tuple_list p' p hu0⟩
 | ref b=>unfold flat at fw;cases fw
 | cl b=>unfold flat at fw;cases fw
theorem Z04 (neg:Bool)(hu:X.A.units+150<cLine):OpS X (compareOp (if neg then .NotEq else .Eq)) (wEqG neg):=⟨_,Zmq,fun F H C x y v u Q Q' R rx ry h q pins s σ v' u' I r1 r2=>by
 have fin:∀{k:Bool},SeqAt.RcAt X.A s v' u' k∧SeqAt.RcNeAt X.A s v' u' (!k)→Q (.bl (if neg then !k else k)) H→wpAny (model X.prog X.w) X.A (compareOp (if neg then .NotEq else .Eq) v' u') (EP X pins σ Q) X.xe s:=fun {k} e hq=>by
  cases neg with
  | true=>exact EqBoolInt.of_rcne e.2 ⟨.bl (!k),H,I,rfl,hq⟩
  | false=>exact EqBoolInt.of_rc e.1 ⟨.bl k,H,I,rfl,hq⟩
 have two:∀{v u:T},Rep X.K H x v→Rep X.K H y u→Jn v∧Jn u∧Q' (.bl (if neg then !eqT v u else eqT v u)) C→wpAny (model X.prog X.w) X.A (compareOp (if neg then .NotEq else .Eq) v' u') (EP X pins σ Q) X.xe s:=fun {v u} rx ry h=>
  fin (rcT I h.1 h.2.1 rx ry r1 r2 (show X.A.units+100+1<cLine by omega)) (q _ _ H C R (Tx.refl H) Jr h.2.2)
 have hn:(if neg then !false else false)=neg:=by cases neg<;>rfl
 have lft:∀{a:Addr} {u:T},v'=.ref a→Rep X.K H y u→(∃xs,C a=some (.lst xs))∧Jn u∧Q' (.bl neg) C→wpAny (model X.prog X.w) X.A (compareOp (if neg then .NotEq else .Eq) v' u') (EP X pins σ Q) X.xe s:=fun {a u} ev ry h=>by
  obtain⟨⟨xs,hx⟩,f,hq⟩:=h
  obtain⟨ys,hy,r⟩:=R.lst hx
  obtain⟨its,_,p,_⟩:=I.list (SqL.of hy)
  have z:=(Zr6 (A:=X.A) I f ry r2 (by omega) p.isList).1
  subst ev
  refine fin (k:=false) z ?_
  rw[hn]
  exact q _ _ H C R (Tx.refl H) Jr hq
 have rgt:∀{b:Addr} {v:T},u'=.ref b→Rep X.K H x v→(∃xs,C b=some (.lst xs))∧Jn v∧Q' (.bl neg) C→wpAny (model X.prog X.w) X.A (compareOp (if neg then .NotEq else .Eq) v' u') (EP X pins σ Q) X.xe s:=fun {b v} eu rx h=>by
  obtain⟨⟨xs,hx⟩,f,hq⟩:=h
  obtain⟨ys,hy,r⟩:=R.lst hx
  obtain⟨its,_,p,_⟩:=I.list (SqL.of hy)
  have z:=(Zr6 (A:=X.A) I f rx r1 (by omega) p.isList).2
  subst eu
  refine fin (k:=false) z ?_
  rw[hn]
  exact q _ _ H C R (Tx.refl H) Jr hq
 cases v with
 | ref a=>
  have ev:v'=.ref a:=by cases Yd rx;exact r1
  cases u with
  | ref b=>
   have eu:u'=.ref b:=by cases Yd ry;exact r2
   obtain⟨xs,ys,ha,hb,hf,hq⟩:=h
   obtain⟨zs,hz,rz⟩:=R.lst ha
   obtain⟨ws,hw,rw'⟩:=R.lst hb
   obtain⟨its,rI,p,_⟩:=I.list (SqL.of hz)
   obtain⟨its',rI',p',_⟩:=I.list (SqL.of hw)
   have l1:its.toArray.size=xs.length:=by rw[XJ,←rI.length,rz.length]
   have l2:its'.toArray.size=ys.length:=by rw[XJ,←rI'.length,rw'.length]
   subst ev
   subst eu
   refine fin ?_ (q _ _ H C R (Tx.refl H) Jr hq)
   by_cases hl:xs.length=ys.length
   ·obtain⟨f1,f2⟩:=hf hl
    have hi:=Zpc (A:=X.A.in1) I rz rw' rI rI' f1 f2 (by show X.A.units+1+100<cLine;omega)
    have k1:=SeqAt.RcAt.lists (A:=X.A) p.isList p'.isList (by rw[l1,l2,hl]) (by omega) hi
    have k2:=SeqAt.RcNeAt.lists (A:=X.A) p.isList p'.isList (by rw[l1,l2,hl]) (by omega) hi
    rw[l1,Ztz hl] at k1 k2
    exact⟨k1,k2⟩
   ·rw[Zw7 hl]
    have hne:(its.toArray.size !=its'.toArray.size)=true:=by rw[l1,l2];exact bne_iff_ne.mpr hl
    exact⟨SeqAt.RcAt.lists_lengths p.isList p'.isList hne (by omega),SeqAt.RcNeAt.lists_lengths p.isList p'.isList hne (by omega)⟩
  | non=>exact lft ev ry h
  | bl b=>exact lft ev ry h
  | int b=>exact lft ev ry h
  | str b=>exact lft ev ry h
  | tup b=>exact lft ev ry h
  | cl b=>exact lft ev ry h
 | non=>
  cases u with
  | ref b=>exact rgt (by cases Yd ry;exact r2) rx h
  | _=>exact two rx ry h
 | bl _=>
  cases u with
  | ref b=>exact rgt (by cases Yd ry;exact r2) rx h
  | _=>exact two rx ry h
 | int _=>
  cases u with
  | ref b=>exact rgt (by cases Yd ry;exact r2) rx h
  | _=>exact two rx ry h
 | str _=>
  cases u with
  | ref b=>exact rgt (by cases Yd ry;exact r2) rx h
  | _=>exact two rx ry h
 | tup _=>
  cases u with
  | ref b=>exact rgt (by cases Yd ry;exact r2) rx h
  | _=>exact two rx ry h
 | cl _=>
  cases u with
  | ref b=>exact rgt (by cases Yd ry;exact r2) rx h
  | _=>exact two rx ry h⟩
theorem Yf (hu:X.A.units+150<cLine):OpS X (compareOp .Eq) wEq:=Z04 false hu
theorem o_ne (hu:X.A.units+150<cLine):OpS X (compareOp .NotEq) wNe:=Z04 true hu
theorem Zih:OpS X (compareOp .Is) wIsN:=⟨_,Z2y,fun F H C x y v u Q Q' R rx ry h q=>by
 obtain⟨rfl,h⟩:=h
 refine⟨Zd6 ry,?_⟩
 have z:=q (.bl _) _ H C R (Tx.refl H) Jr h
 cases v with
 | non=>cases Zd6 rx;exact z
 | bl _=>cases Zdv rx;exact z
 | int _=>cases Yh rx;exact z
 | str _=>cases Jv rx;exact z
 | ref _=>cases Yd rx;exact z
 | tup _=>obtain⟨a,ys,rfl,_⟩:=Y6 rx;exact z
 | cl _=>obtain⟨a,ys,rfl,_⟩:=Ze3 rx;exact z⟩
theorem Zv6:OpS X (compareOp .IsNot) Zn5:=⟨_,Zzf,fun F H C x y v u Q Q' R rx ry h q=>by
 obtain⟨rfl,h⟩:=h
 refine⟨Zd6 ry,?_⟩
 have z:=q (.bl _) _ H C R (Tx.refl H) Jr h
 cases v with
 | non=>cases Zd6 rx;exact z
 | bl _=>cases Zdv rx;exact z
 | int _=>cases Yh rx;exact z
 | str _=>cases Jv rx;exact z
 | ref _=>cases Yd rx;exact z
 | tup _=>obtain⟨a,ys,rfl,_⟩:=Y6 rx;exact z
 | cl _=>obtain⟨a,ys,rfl,_⟩:=Ze3 rx;exact z⟩
open Classical in
noncomputable def eqAns (v:T) (us:List Value) (ts:List T) (u:Value):Bool:=match (us.zip ts).find? fun p=>decide (p.1=u) with
 | some p=>eqT p.2 v
 | none=>false
open Classical in
theorem Zpn {pins:List (Addr×Obj)}{σ:L2.St}{H:Hp}{s:Shared}{n:Nat}{v:T}{ts:List T}{ys:List V}{us:List Value}(I:Inv X pins σ H s)(r:Reps X.K H ys ts)(rI:Vals ys us)(f:flats ts n=true){j:Nat}{u:Value}{t:T}(hu:us[j]?=some u)(ht:ts[j]?=some t):
  eqAns v us ts u=eqT t v:=by
 unfold eqAns
 have hm:(u,t)∈us.zip ts:=by
  refine List.mem_iff_getElem?.mpr ⟨j,?_⟩
  rw[List.getElem?_zip_eq_some]
  exact⟨hu,ht⟩
 cases e:(us.zip ts).find? fun p=>decide (p.1=u) with
 | none=>
  have:=List.find?_eq_none.mp e (u,t) hm
  simp at this
 | some p=>
  have h1:=List.find?_some e
  have h2:=List.mem_of_find?_eq_some e
  simp only[decide_eq_true_eq] at h1
  obtain⟨i,hi⟩:=List.mem_iff_getElem?.mp h2
  obtain⟨g1,g2⟩:=List.getElem?_zip_eq_some.mp hi
  obtain⟨x1,k1,q1⟩:=r.get g2
  obtain⟨x2,k2,q2⟩:=r.get ht
  obtain⟨u1,m1,z1⟩:=rI.get k1
  obtain⟨u2,m2,z2⟩:=rI.get k2
  rw[g1] at m1;cases m1
  rw[hu] at m2;cases m2
  rw[h1] at z1
  have e2:=z1.inj z2
  subst e2
  show eqT p.2 v=eqT t v
  rw[Zrv I n (Za5 f g2) (Za5 f ht) q1 q2]
theorem Zso {pins:List (Addr×Obj)}{σ:L2.St}{H:Hp}{s:Shared}{n:Nat}{v:T}{ts:List T}{ys:List V}{us:List Value}(I:Inv X pins σ H s)(r:Reps X.K H ys ts)(rI:Vals ys us)(f:flats ts n=true):us.any (eqAns v us ts)=inL v ts:=by
 have hl:us.length=ts.length:=by rw[←rI.length,r.length]
 have hat:∀j,us[j]?.map (eqAns v us ts)=ts[j]?.map fun t=>eqT t v:=fun j=>by
  by_cases hj:j<us.length
  ·have e1:us[j]?=some us[j]:=by simp[hj]
   have e2:ts[j]?=some (ts[j]'(by omega)):=by simp[hl▸hj]
   rw[e1,e2,Option.map_some,Option.map_some,Zpn I r rI f e1 e2]
  ·rw[List.getElem?_eq_none (by omega),List.getElem?_eq_none (by omega)];rfl
 have hm:us.map (eqAns v us ts)=ts.map fun t=>eqT t v:=by
  refine List.ext_getElem? fun j=>?_
  rw[XM,XM]
  exact hat j
 unfold inL
 have a1:us.any (eqAns v us ts)=(us.map (eqAns v us ts)).any id:=by rw[List.any_map];rfl
 have a2:(ts.any fun y=>eqT y v)=(ts.map fun t=>eqT t v).any id:=by rw[List.any_map];rfl
 rw[a1,a2,hm]
theorem Z03 (neg:Bool)(hu:X.A.units+150<cLine):OpS X (compareOp (if neg then .NotIn else .In)) (wInG neg):=⟨_,Zmq,fun F H C x y v u Q Q' R rx ry h q pins s σ v' u' I r1 r2=>by
 have sq:∀{p:Addr} {ys:List V} {ts:List T},u'=.ref p→(SqL X.K H p ys∨SqT X.K H p ys)→Reps X.K H ys ts→Jn v→flats ts Zc0=true→Q' (.bl (if neg then !inL v ts else inL v ts)) C→
   wpAny (model X.prog X.w) X.A (compareOp (if neg then .NotIn else .In) v' u') (EP X pins σ Q) X.xe s:=fun {p ys ts} eu hq r fv ft hq'=>by
  subst eu
  have at1:∀{its:List Value},Vals ys its→∀w,w∈its.toArray→SeqAt.EqAt X.A.in1 s w v' (eqAns v its ts w):=fun {its} rI w hw=>by
   have hw':w∈its:=by simpa using hw
   obtain⟨j,hj⟩:=List.mem_iff_getElem?.mp hw'
   have hlt:j<its.length:=(List.getElem?_eq_some_iff.mp hj).1
   have hl:its.length=ts.length:=by rw[←rI.length,r.length]
   have e2:ts[j]?=some (ts[j]'(by omega)):=by simp[hl▸hlt]
   rw[Zpn I r rI ft hj e2]
   obtain⟨x2,k2,q2⟩:=r.get e2
   obtain⟨u2,m2,z2⟩:=rI.get k2
   rw[hj] at m2;cases m2
   exact Zxa I 100 (Za5 ft e2) fv q2 rx z2 r1 (by show X.A.units+1+100<cLine;omega)
  rcases hq with hq | hq
  ·obtain⟨its,rI,p,_⟩:=I.list hq
   have e:its.toArray.any (eqAns v its ts)=inL v ts:=by rw[←Zso I r rI ft];simp
   cases neg with
   | true=>refine SeqAt.notIn_listAt (eqAns v its ts) p.isList (at1 rI) ⟨.bl _,H,I,rfl,?_⟩;rw[e];exact q _ _ H C R (Tx.refl H) Jr hq'
   | false=>refine SeqAt.in_listAt (eqAns v its ts) p.isList (at1 rI) ⟨.bl _,H,I,rfl,?_⟩;rw[e];exact q _ _ H C R (Tx.refl H) Jr hq'
  ·obtain⟨its,rI,p,_⟩:=I.tuple hq
   have e:its.toArray.any (eqAns v its ts)=inL v ts:=by rw[←Zso I r rI ft];simp
   cases neg with
   | true=>refine SeqAt.notIn_tupleAt (eqAns v its ts) p (at1 rI) ⟨.bl _,H,I,rfl,?_⟩;rw[e];exact q _ _ H C R (Tx.refl H) Jr hq'
   | false=>refine SeqAt.in_tupleAt (eqAns v its ts) p (at1 rI) ⟨.bl _,H,I,rfl,?_⟩;rw[e];exact q _ _ H C R (Tx.refl H) Jr hq'
 have tpl:∀{ts:List T},Rep X.K H y (.tup ts)→Jn v∧flats ts Zc0=true∧Q' (.bl (if neg then !inL v ts else inL v ts)) C→wpAny (model X.prog X.w) X.A (compareOp (if neg then .NotIn else .In) v' u') (EP X pins σ Q) X.xe s:=fun {ts} ry h=>by
  obtain⟨a,ys,rfl,hq,r⟩:=Y6 ry
  exact sq r2 (.inr hq) r h.1 h.2.1 h.2.2
 have cls:∀{ts:List T},Rep X.K H y (.cl ts)→Jn v∧flats ts Zc0=true∧Q' (.bl (if neg then !inL v ts else inL v ts)) C→wpAny (model X.prog X.w) X.A (compareOp (if neg then .NotIn else .In) v' u') (EP X pins σ Q) X.xe s:=fun {ts} ry h=>by
  obtain⟨a,ys,rfl,hq,r⟩:=Ze3 ry
  exact sq r2 (.inl hq.sq) r h.1 h.2.1 h.2.2
 have rf:∀{a:Addr},Rep X.K H y (.ref a)→(∃ys,C a=some (.lst ys)∧Jn v∧flats ys Zc0=true∧Q' (.bl (if neg then !inL v ys else inL v ys)) C)→wpAny (model X.prog X.w) X.A (compareOp (if neg then .NotIn else .In) v' u') (EP X pins σ Q) X.xe s:=fun {a} ry h=>by
  obtain⟨ts,ht,h1,h2,h3⟩:=h
  obtain⟨zs,hz,rz⟩:=R.lst ht
  cases Yd ry
  exact sq r2 (.inl (SqL.of hz)) rz h1 h2 h3
 cases u with
 | tup ts=>cases v<;>exact tpl ry h
 | cl ts=>cases v<;>exact cls ry h
 | ref a=>cases v<;>exact rf ry h
 | str j=>
  cases v with
  | str i=>
   cases Jv rx;cases Jv ry
   obtain⟨t,rfl⟩:=r1
   obtain⟨t',rfl⟩:=r2
   cases neg with
   | true=>exact notIn_str ⟨.bl _,H,I,rfl,q _ _ H C R (Tx.refl H) Jr h⟩
   | false=>exact in_str ⟨.bl _,H,I,rfl,q _ _ H C R (Tx.refl H) Jr h⟩
  | _=>exact False.elim h
 | non=>cases v<;>exact False.elim h
 | bl _=>cases v<;>exact False.elim h
 | int _=>cases v<;>exact False.elim h⟩
theorem o_in (hu:X.A.units+150<cLine):OpS X (compareOp .In) wIn:=Z03 false hu
theorem Zzl (hu:X.A.units+150<cLine):OpS X (compareOp .NotIn) Zp3:=Z03 true hu
theorem o_ix:IxS X Zu:=⟨_,Z3v,fun F H C x y v u Q Q' R rx ry h q=>by
 cases v<;>cases u<;>first | exact False.elim h | skip
 case tup.int xs i=>
  obtain⟨a,ys,rfl,hq,r⟩:=Y6 rx
  cases Yh ry
  obtain⟨v,hv,h⟩:=h
  obtain⟨z,hz,rz⟩:=r.at hv
  exact .inr (.inl ⟨a,ys,i,z,rfl,rfl,hq,hz,q _ _ H C R (Tx.refl H) rz h⟩)
 case cl.int xs i=>
  obtain⟨a,ys,rfl,hq,r⟩:=Ze3 rx
  cases Yh ry
  obtain⟨v,hv,h⟩:=h
  obtain⟨z,hz,rz⟩:=r.at hv
  exact .inl ⟨a,ys,i,z,rfl,rfl,hq.sq,hz,q _ _ H C R (Tx.refl H) rz h⟩
 case ref.int a i=>
  cases Yd rx
  cases Yh ry
  obtain⟨xs,v,hx,hv,h⟩:=h
  obtain⟨ys,hy,r⟩:=R.lst hx
  obtain⟨z,hz,rz⟩:=r.at hv
  exact .inl ⟨a,ys,i,z,rfl,rfl,SqL.of hy,hz,q _ _ H C R (Tx.refl H) rz h⟩
 case str.int z i=>
  cases Jv rx
  cases Yh ry
  obtain⟨hl,c,hc,h⟩:=h
  exact .inr (.inr ⟨z,i,c,rfl,rfl,hl,hc,q _ _ H C R (Tx.refl H) Xa h⟩)⟩
def SlS (X:Cx)(w:T→Option Int→Option Int→Hw→WK→Prop):Prop:=∃r,SlR X r∧∀(F H:Hp) (C:Hw) (x:V) (v:T) (lo hi:Option Int) (Q:VK) (Q':WK),Rl X.K F H C→Rep X.K H x v→w v lo hi C Q'→QE X.K F H Q Q'→r x lo hi H Q
theorem Zkf {K:W.Frag}{H:Hp}{ys:List V}{xs:List T}(r:Reps K H ys xs)(lo hi:Option Int):Reps K H (cutV ys lo hi) (cut xs lo hi):=by
 unfold cutV cut
 rw[r.length]
 exact(r.drop _).take _
theorem o_sl:SlS X wSl:=⟨_,Z1t.or (Zye.or Z1u),fun F H C x v lo hi Q Q' R rx h q=>by
 cases v with
 | tup xs=>
  obtain⟨a,ys,rfl,hq,r⟩:=Y6 rx
  exact .inl ⟨a,ys,rfl,hq,by rw[r.length];exact h.1,fun p hp=>q _ _ _ C (R.hid hp) (Tx.new hp) (Zap (SqT.of Yo) ((Zkf r lo hi).tx (Tx.new hp))) h.2⟩
 | cl xs=>
  obtain⟨a,ys,rfl,hq,r⟩:=Ze3 rx
  exact .inr (.inl ⟨a,ys,rfl,hq.sq,fun p hp=>q _ _ _ _ (R.newL hp (Zkf r lo hi)) (Tx.new hp) Ju (h p (R.free hp))⟩)
 | ref a=>
  cases Yd rx
  obtain⟨xs,hx,h⟩:=h
  obtain⟨ys,hy,r⟩:=R.lst hx
  exact .inr (.inl ⟨a,ys,rfl,SqL.of hy,fun p hp=>q _ _ _ _ (R.newL hp (Zkf r lo hi)) (Tx.new hp) Ju (h p (R.free hp))⟩)
 | str z=>cases Jv rx;exact .inr (.inr ⟨z,rfl,h.1,q _ _ H C R (Tx.refl H) Xa h.2⟩)
 | _=>exact False.elim h⟩
theorem Zar {K:W.Frag}{H:Hp}{xs:List V}{v:T}(h:Reps K H xs [v]):∃x,xs=[x]∧Rep K H x v:=by
 obtain⟨y,r,rfl,a,b⟩:=Jo h
 cases Zas b
 exact⟨y,rfl,a⟩
theorem Zm0 {K:W.Frag}{H:Hp}{xs:List V}{v w:T}(h:Reps K H xs [v,w]):∃x y,xs=[x,y]∧Rep K H x v∧Rep K H y w:=by
 obtain⟨y,r,rfl,a,b⟩:=Jo h
 obtain⟨z,rfl,c⟩:=Zar b
 exact⟨y,z,rfl,a,c⟩
theorem Zbh:Zf8 X (.builtin "len") bLen:=⟨_,Znx.or Znw,fun F H C xs vs Q Q' R rs h q=>by
 obtain⟨v,rfl,h⟩:=h
 obtain⟨x,rfl,rx⟩:=Zar rs
 cases v with
 | str z=>cases Jv rx;exact .inr ⟨z,rfl,h.1,q _ _ H C R (Tx.refl H) J9 h.2⟩
 | tup xs=>
  obtain⟨a,ys,rfl,hq,r⟩:=Y6 rx
  exact .inl ⟨a,ys,rfl,.inr hq,by rw[r.length];exact q _ _ H C R (Tx.refl H) J9 h⟩
 | cl xs=>
  obtain⟨a,ys,rfl,hq,r⟩:=Ze3 rx
  exact .inl ⟨a,ys,rfl,.inl hq.sq,by rw[r.length];exact q _ _ H C R (Tx.refl H) J9 h⟩
 | ref a=>
  cases Yd rx
  obtain⟨xs,hx,h⟩:=h
  obtain⟨ys,hy,r⟩:=R.lst hx
  exact .inl ⟨a,ys,rfl,.inl (SqL.of hy),by rw[r.length];exact q _ _ H C R (Tx.refl H) J9 h⟩
 | _=>exact False.elim h⟩
theorem b_max (hc:X.calm=true):Zf8 X (.builtin "max") bMax:=⟨_,Zt3 hc,fun F H C xs vs Q Q' R rs h q=>by
 obtain⟨i,j,rfl,h⟩:=h
 obtain⟨x,y,rfl,rx,ry⟩:=Zm0 rs
 cases Yh rx;cases Yh ry
 exact⟨i,j,rfl,q _ _ H C R (Tx.refl H) J9 h⟩⟩
theorem Zoq {K:W.Frag}{H:Hp}:∀{bs:List Bool} {ys:List V},Reps K H ys (bs.map T.bl)→ys=bs.map V.bl
 | [],_,h=>Zas h
 | b::bs,_,h=>by obtain⟨y,r,rfl,a,c⟩:=Jo h;cases Zdv a;rw[Zoq c];rfl
theorem Zhq:Zf8 X (.type "tuple") Zgo:=⟨_,Zk9,fun F H C xs vs Q Q' R rs h q=>by
 obtain⟨v,rfl,h⟩:=h
 obtain⟨x,rfl,rx⟩:=Zar rs
 cases v with
 | tup xs=>
  obtain⟨a,ys,rfl,hq,r⟩:=Y6 rx
  exact⟨a,ys,rfl,.inr ⟨hq,q _ _ H C R (Tx.refl H) (Zap hq r) h⟩⟩
 | cl xs=>
  obtain⟨a,ys,rfl,hq,r⟩:=Ze3 rx
  exact⟨a,ys,rfl,.inl ⟨hq.sq,fun p hp=>q _ _ _ C (R.hid hp) (Tx.new hp) (Zap (SqT.of Yo) (r.tx (Tx.new hp))) h⟩⟩
 | ref a=>
  cases Yd rx
  obtain⟨xs,hx,h⟩:=h
  obtain⟨ys,hy,r⟩:=R.lst hx
  exact⟨a,ys,rfl,.inl ⟨SqL.of hy,fun p hp=>q _ _ _ C (R.hid hp) (Tx.new hp) (Zap (SqT.of Yo) (r.tx (Tx.new hp))) h⟩⟩
 | _=>exact False.elim h⟩
theorem Z4i:Zf8 X (.type "list") Zsn:=⟨_,Znv,fun F H C xs vs Q Q' R rs h q=>by
 obtain⟨v,rfl,h⟩:=h
 obtain⟨x,rfl,rx⟩:=Zar rs
 cases v with
 | tup xs=>
  obtain⟨a,ys,rfl,hq,r⟩:=Y6 rx
  exact⟨a,ys,rfl,.inr hq,fun p hp=>q _ _ _ _ (R.newL hp r) (Tx.new hp) Ju (h p (R.free hp))⟩
 | cl xs=>
  obtain⟨a,ys,rfl,hq,r⟩:=Ze3 rx
  exact⟨a,ys,rfl,.inl hq.sq,fun p hp=>q _ _ _ _ (R.newL hp r) (Tx.new hp) Ju (h p (R.free hp))⟩
 | ref a=>
  cases Yd rx
  obtain⟨xs,hx,h⟩:=h
  obtain⟨ys,hy,r⟩:=R.lst hx
  exact⟨a,ys,rfl,.inl (SqL.of hy),fun p hp=>q _ _ _ _ (R.newL hp r) (Tx.new hp) Ju (h p (R.free hp))⟩
 | _=>exact False.elim h⟩
theorem Zah:MtS X "list.append" Xc:=⟨_,Zlj,fun F H C x v xs vs Q Q' R rx rs h q=>by
 obtain⟨a,ts,y,rfl,rfl,hx,hl,h⟩:=h
 cases Yd rx
 obtain⟨z,rfl,rz⟩:=Zar rs
 obtain⟨ys,hy,r⟩:=R.lst hx
 obtain⟨R',t⟩:=R.putL hx (r.snoc rz)
 exact⟨a,ys,z,rfl,rfl,hy,by rw[r.length];exact hl,q _ _ _ _ R' t Zdc h⟩⟩
theorem Zju:MtS X "list.pop" mPop:=⟨_,Z3f,fun F H C x v xs vs Q Q' R rx rs h q=>by
 obtain⟨a,ts,y,rfl,rfl,hx,hy,h⟩:=h
 cases Yd rx
 cases Zas rs
 obtain⟨ys,hys,r⟩:=R.lst hx
 obtain⟨z,hz,rz⟩:=r.get hy
 obtain⟨R',t⟩:=R.putL hx r.dropLast
 exact⟨a,ys,z,rfl,rfl,hys,by rw[r.length];exact hz,q _ _ _ _ R' t (rz.tx t) h⟩⟩
theorem Zzs:MtS X "list.pop" Zq0:=⟨_,Zwa,fun F H C x v xs vs Q Q' R rx rs h q=>by
 obtain⟨a,ts,i,k,y,rfl,rfl,hx,h1,h2,hk,hy,h⟩:=h
 cases Yd rx
 obtain⟨z,rfl,rz⟩:=Zar rs
 cases Yh rz
 obtain⟨ys,hys,r⟩:=R.lst hx
 obtain⟨z,hz,rz⟩:=r.get hy
 obtain⟨R',t⟩:=R.putL hx (r.erase k)
 exact⟨a,ys,i,k,z,rfl,rfl,hys,h1,h2,by rw[r.length];exact hk,hz,q _ _ _ _ R' t (rz.tx t) h⟩⟩
end
section
variable {X:Cx}{a b c e:Expr}{es:List Expr}{wa wb wc:WE}{wt wt':WT}{wA:WA}{w w':W2}{pos p apos cpos:Pos}{rest:List Expr}
theorem Zc (i:Nat){x:Str}(hN:X.N[i]?=some x:=by rfl)(hv:Vis X.env.scope x:=by first | exact Or.inl rfl | exact Or.inr (Or.inl rfl) | exact Or.inr (Or.inr rfl))(hd:(x==("__debug__":Str))=false:=by decide)
  (hcd:(x==("__classdict__":Str))=false:=by decide):SdE X (.Name x pos) (Zd i):=⟨_,Z2i hN hv hd hcd,s_var⟩
theorem Zi {i j}:SdE X (.Constant (.int i) j pos) (eC (.int i)):=⟨_,Zvv,s_c fun _=>J9⟩
theorem Zj {i j}:SdE X (.Constant (.str i) j pos) (eC (.str i)):=⟨_,Z2k,s_c fun _=>Xa⟩
theorem d_bl {i j}:SdE X (.Constant (.bool i) j pos) (eC (.bl i)):=⟨_,pe_bl,s_c fun _=>Jr⟩
theorem Zad {j}:SdE X (.Constant .none j pos) (eC .non):=⟨_,Z2n,s_c fun _=>Zdc⟩
def Glb (K:W.Frag)(mg:Str→Option Value)(x:Str)(v:T):Prop:=∃z u,mg x=some u∧Yg z u∧∀H,Rep K H z v
theorem d_gl {x:Str}{v:T}(hg:Gl X x)(h:Glb X.K X.mg x v)(hd:(x==("__debug__":Str))=false:=by decide):SdE X (.Name x pos) (eC v):=by
 obtain⟨z,u,h1,h2,h3⟩:=h
 exact⟨_,Zy9 hg h1 h2 hd,s_c h3⟩
theorem Z4 {op:Operator}(ho:OpS X (binaryOp op) w)(ha:SdE X a wa)(hb:SdE X b wb):SdE X (.BinOp a op b pos) (Zh w wa wb):=by
 obtain⟨r,h1,h2⟩:=ho
 obtain⟨ta,p1,s1⟩:=ha
 obtain⟨tb,p2,s2⟩:=hb
 exact⟨_,pe_op h1 p1 p2,s_op s1 s2 h2⟩
theorem Zpt (ha:SdE X a wa):SdE X (.UnaryOp .USub a pos) (eUn wNeg wa):=by
 obtain⟨ta,p1,s1⟩:=ha
 exact⟨_,pe_un Z1k p1,s_un s1 fun F H C x v Q Q' R rx h q=>by
  cases v with
  | int i=>cases Yh rx;exact⟨i,rfl,q _ _ H C R (Tx.refl H) J9 h⟩
  | _=>exact False.elim h⟩
theorem Zce {op:CmpOp}(ho:OpS X (compareOp op) w)(ha:SdE X a wa)(hb:SdE X b wb)(hm:behindInMarks op b=false):SdE X (.Compare a [op] [b] pos) (Zh w wa wb):=by
 obtain⟨r,h1,h2⟩:=ho
 obtain⟨ta,p1,s1⟩:=ha
 obtain⟨tb,p2,s2⟩:=hb
 exact⟨_,Zzd h1 p1 p2 hm,s_op s1 s2 h2⟩
theorem Zxl (ha:SdE X a wa)(hb:SdE X (.BoolOp .And (b::rest) pos) wb):SdE X (.BoolOp .And (a::b::rest) pos) (eAnd wa wb):=by
 obtain⟨ta,p1,s1⟩:=ha
 obtain⟨tb,p2,s2⟩:=hb
 exact⟨_,Z2r p1 p2,s_and s1 s2⟩
theorem Zxi {op}(ha:SdE X a wa):SdE X (.BoolOp op [a] pos) wa:=by
 obtain⟨ta,p1,s1⟩:=ha
 exact⟨_,Z2l p1,s1⟩
theorem d_not (ha:SdE X a wa):SdE X (.UnaryOp .Not a pos) (eNot wa):=by
 obtain⟨ta,p1,s1⟩:=ha
 exact⟨_,Z2m p1,s_not s1⟩
theorem Zke (hc:SdT X c wt)(ha:SdE X a wa)(hb:SdE X b wb):SdE X (.IfExp c a b pos) (eIf wt wa wb):=by
 obtain⟨ta,p1,s1⟩:=ha
 obtain⟨tb,p2,s2⟩:=hb
 obtain⟨tc,p3,s3⟩:=hc
 exact⟨_,Zvw p3 p1 p2,s_if s3 s1 s2⟩
theorem Ze:SdA X [] Zf:=⟨_,Zqo,s_nil⟩
theorem Za (ha:SdE X a wa)(hb:SdA X es wA)(hs:starEach (a::es) X.env=(false,eval a X.env)::starEach es X.env:=by rfl):SdA X (a::es) (Zb wa wA):=by
 obtain⟨ta,p1,s1⟩:=ha
 obtain⟨tb,p2,s2⟩:=hb
 exact⟨_,Ziu p1 p2 hs,Z1z s1 s2⟩
theorem Zo {x1}(h:SdA X es wA):SdE X (.Tuple es x1 pos) (Zv wA):=by
 obtain⟨t,p,s⟩:=h
 exact⟨_,Z2j p,s_tup s⟩
theorem Jk (h:SdA X es wA):SdE X (.List es pos) (Xs wA):=by
 obtain⟨t,p,s⟩:=h
 exact⟨_,Z2o p,s_lst s⟩
theorem Zx (ha:SdE X a wa)(hb:SdE X b wb)(hs:Zst b:=by exact fun _ _=>rfl):SdE X (.Subscript a b pos) (Zh Zu wa wb):=by
 obtain⟨r,h1,h2⟩:=o_ix (X:=X)
 obtain⟨ta,p1,s1⟩:=ha
 obtain⟨tb,p2,s2⟩:=hb
 exact⟨_,pe_ix h1 p1 p2 hs,s_op s1 s2 h2⟩
def SdO (X:Cx)(e:Option Expr)(w:Sw→Hw→(Option Int→Hw→Prop)→WX→Prop):Prop:=∃t,PO X e t∧∀(F H:Hp) (C:Hw) (σ:L2.St) (τ:Sw) (Q:Option Int→Hp→Prop) (Q':Option Int→Hw→Prop) (χ:WX),Rl X.K F H C→RepS X.K H σ τ→w τ C Q' χ→
 (∀o H' C',Rl X.K F H' C'→Tx H H'→Q' o C'→Q o H')→t σ H Q
theorem Zfh:SdO X none oNo:=⟨_,Zy5,fun F H C σ τ Q Q' χ R S h q=>q none H C R (Tx.refl H) h⟩
theorem Zaz (ha:SdE X a wa):SdO X (some a) (Zdd wa):=by
 obtain⟨ta,p1,s1⟩:=ha
 refine⟨_,Zy4 p1,fun F H C σ τ Q Q' χ R S h q=>?_⟩
 refine s1 F H C σ τ _ _ χ R S h fun x v H1 C1 R1 t1 rx h1=>?_
 obtain⟨i,rfl,h1⟩:=h1
 exact⟨i,Yh rx,q (some i) H1 C1 R1 t1 h1⟩
theorem d_sl {lo hi:Option Expr}{wl wh:Sw→Hw→(Option Int→Hw→Prop)→WX→Prop}{p2:Pos}(ha:SdE X a wa)(hl:SdO X lo wl)(hh:SdO X hi wh):SdE X (.Subscript a (.Slice lo hi none p2) pos) (eSl wa wl wh):=by
 obtain⟨r,h1,h2⟩:=o_sl (X:=X)
 obtain⟨ta,p1,s1⟩:=ha
 obtain⟨tl,p3,s3⟩:=hl
 obtain⟨th,p4,s4⟩:=hh
 refine⟨_,Zvt h1 p1 p3 p4,fun F H C σ τ Q Q' χ R S h q=>?_⟩
 refine s1 F H C σ τ _ _ χ R S h fun x v H1 C1 R1 t1 rx h1=>?_
 refine s3 F H1 C1 σ τ _ _ χ R1 (S.tx t1) h1 fun l H2 C2 R2 t2 h2'=>?_
 refine s4 F H2 C2 σ τ _ _ χ R2 (S.tx (t1.trans t2)) h2' fun u H3 C3 R3 t3 h3=>?_
 exact h2 F H3 C3 x v l u Q Q' R3 ((rx.tx t2).tx t3) h3 (QE.at q ((t1.trans t2).trans t3))
theorem d_bi {x:Str}{id:String}{r:List T→Hw→WK→Prop}(hc:Zf8 X (.builtin id) r)(hg:Gl X x)(hm:X.mg x=none)(hv:bootBuiltins x=some (.builtin id))(ha:SdA X (e::es) wA)(hn:x≠"__name__":=by decide)(hdb:(x==("__debug__":Str))=false:=by decide)
  (he:starEach (e::es) X.env=(false,eval e X.env)::starEach es X.env:=by rfl) (hpl:(backTo pos (starEach es X.env)).any (·.1)=false:=by rfl):SdE X (.Call (.Name x p) (e::es) [] pos) (eBi r wA):=by
 obtain⟨r,h1,h2⟩:=hc
 obtain⟨t,p1,s1⟩:=ha
 exact⟨_,Zot h1 hg hm hv p1 hn hdb he hpl,s_bi h2 s1⟩
theorem d_ty {x:Str}{id:String}{r:List T→Hw→WK→Prop}(hc:Zf8 X (.type id) r)(hg:Gl X x)(hm:X.mg x=none)(hv:bootBuiltins x=some (.type id))(ha:SdA X (e::es) wA)(hn:x≠"__name__":=by decide)(hdb:(x==("__debug__":Str))=false:=by decide)
  (he:starEach (e::es) X.env=(false,eval e X.env)::starEach es X.env:=by rfl) (hpl:(backTo pos (starEach es X.env)).any (·.1)=false:=by rfl):SdE X (.Call (.Name x p) (e::es) [] pos) (eBi r wA):=by
 obtain⟨r,h1,h2⟩:=hc
 obtain⟨t,p1,s1⟩:=ha
 exact⟨_,Ztd h1 hg hm hv p1 hn hdb he hpl,s_bi h2 s1⟩
def TyS (X:Cx)(Tn:String)(ty:T→Hw→Prop):Prop:=∀(F H:Hp) (C:Hw) (x:V) (v:T),Rl X.K F H C→Rep X.K H x v→ty v C→tyV X.K Tn x H
theorem Ja:TyS X "list" tyL':=fun F H C x v R rx h=>by
 obtain⟨a,xs,rfl,hx⟩:=h
 cases Yd rx
 obtain⟨ys,hy,r⟩:=R.lst hx
 exact L2.tyL hy
theorem Z1m:TyS X "str" tyS:=fun F H C x v R rx h=>by
 obtain⟨z,rfl⟩:=h
 cases Jv rx
 unfold tyV
 rfl
theorem d_mt {o:Expr}{wo:WE}{name:Str}{Tn id:String}{ty:T→Hw→Prop}{r:T→List T→Hw→WK→Prop}(pa:PlainAttrs Tn)(slot:Slot Tn name id)(hty:typeOf (.builtin id)=pure (.type "method_descriptor"))(hT:TyS X Tn ty)(hm:MtS X id r)(ho:SdE X o wo)(ha:SdA X (e::es) wA)
  (hbase:attributeBase o name X.env (eval o X.env)=eval o X.env:=by rfl)
  (hfew:((backTo cpos (starEach (e::es) X.env)).all (fun x=>!x.1)&&(backToKw cpos (keywordEach [] X.env)).all (fun x=>x.1.isSome)
   &&decide ((e::es).length+([]:List Keyword).length+(if ([]:List Keyword).isEmpty then 0 else 1)<30))=true:=by rfl)
  (hline:(apos.endLine==cpos.line)=true:=by rfl) (hs:starEach (e::es) X.env=(false,eval e X.env)::starEach es X.env:=by rfl) (hplain:(backTo cpos (starEach es X.env)).any (·.1)=false:=by rfl):
  SdE X (.Call (.Attribute o name apos) (e::es) [] cpos) (eMt ty r wo wA):=by
 obtain⟨rr,h1,h2⟩:=hm
 obtain⟨to,p1,s1⟩:=ho
 obtain⟨ta,p2,s2⟩:=ha
 refine⟨_,pe_bm pa slot hty h1 p1 p2 hbase hfew hline hs hplain,fun F H C σ τ Q Q' χ R S h q=>?_⟩
 refine s1 F H C σ τ _ _ χ R S h fun x v H1 C1 R1 t1 rx h1'=>⟨hT F H1 C1 x v R1 rx h1'.1,?_⟩
 refine s2 F H1 C1 σ τ _ _ χ R1 (S.tx t1) h1'.2 fun xs vs H2 C2 R2 t2 rs h2'=>?_
 exact h2 F H2 C2 x v xs vs Q Q' R2 (rx.tx t2) rs h2' (QE.at q (t1.trans t2))
theorem Zkd {o:Expr}{wo:WE}{name:Str}{Tn id:String}{ty:T→Hw→Prop}{r:T→List T→Hw→WK→Prop}(pa:PlainAttrs Tn)(slot:Slot Tn name id)(hty:typeOf (.builtin id)=pure (.type "method_descriptor"))(hT:TyS X Tn ty)(hm:MtS X id r)(ho:SdE X o wo)
  (hbase:attributeBase o name X.env (eval o X.env)=eval o X.env:=by rfl) (hline:(apos.endLine==cpos.line)=true:=by rfl):
  SdE X (.Call (.Attribute o name apos) [] [] cpos) (eMt ty r wo Zf):=by
 obtain⟨rr,h1,h2⟩:=hm
 obtain⟨to,p1,s1⟩:=ho
 refine⟨_,Z2q pa slot hty h1 p1 hbase hline,fun F H C σ τ Q Q' χ R S h q=>?_⟩
 refine s1 F H C σ τ _ _ χ R S h fun x v H1 C1 R1 t1 rx h1'=>⟨hT F H1 C1 x v R1 rx h1'.1,?_⟩
 exact h2 F H1 C1 x v [] [] Q Q' R1 rx Ji h1'.2 (QE.at q t1)
theorem Zzx {K:W.Frag}{n c:String}(hn:n∈["NoneType","bool","int","str","tuple","list","dict"])(hc:c∈["bool","int","str","tuple","list","dict"]):W.kitOne K (.type n) (.type c)=some (Zcy n c):=by
 simp only[ZM,ZN,or_false] at hn hc
 rcases hn with rfl | rfl | rfl | rfl | rfl | rfl | rfl<;>rcases hc with rfl | rfl | rfl | rfl | rfl | rfl<;>rfl
theorem Zx8 {v:T}{C:Hw}{n:String}(h:tyN v C n):n∈["NoneType","bool","int","str","tuple","list","dict"]:=by
 cases v with
 | non=>cases h;decide
 | bl _=>cases h;decide
 | int _=>cases h;decide
 | str _=>cases h;decide
 | tup _=>cases h;decide
 | cl _=>cases h;decide
 | ref _=>rcases h with⟨rfl,_⟩ | ⟨rfl,_⟩<;>decide
theorem Z30 {pins:List (Addr×Obj)}{σ:L2.St}{F H:Hp}{C:Hw}{s:Shared}{x:V}{v:T}{u:Value}{n c:String}{Q:Value→Shared→Prop}(I:Inv X pins σ H s)(R:Rl X.K F H C)(rx:Rep X.K H x v)(ru:Yg x u)(hn:tyN v C n)(hc:c∈["bool","int","str","tuple","list","dict"])
  (h:∀tk,Q (.bool (Zcy n c)) {s with toks:=tk}):wpAny (model X.prog X.w) X.A (call (.builtin "isinstance") [u,.type c]) Q X.xe s:=by
 have e:=Zzx (K:=X.K) (Zx8 hn) hc
 cases v with
 | non=>cases hn;cases Zd6 rx;exact Zcn I ru .non e h
 | bl b=>cases hn;cases Zdv rx;exact Zcn I ru (.bl b) e h
 | int b=>cases hn;cases Yh rx;exact Zcn I ru (.int b) e h
 | str b=>cases hn;cases Jv rx;exact Zcn I ru (.str b) e h
 | tup xs=>
  cases hn
  obtain⟨a,ys,rfl,hq,r⟩:=Y6 rx
  cases ru
  obtain⟨its,_,⟨o,h1,h2,_⟩,_⟩:=I.tuple hq
  exact W.kia_one W.kitx_tuple I.kIn ⟨o,h1,h2⟩ e (fun z=>nomatch z) h
 | cl xs=>
  cases hn
  obtain⟨a,ys,rfl,hq,r⟩:=Ze3 rx
  cases ru
  obtain⟨its,_,p,_⟩:=I.list hq.sq
  obtain⟨o,h1,h2,_⟩:=p.isList
  exact W.kia_one W.kitx_list I.kIn ⟨o,h1,h2⟩ e (fun z=>nomatch z) h
 | ref a=>
  cases Yd rx
  rcases hn with⟨rfl,xs,hx⟩ | ⟨rfl,kvs,hx⟩
  ·obtain⟨ys,hy,r⟩:=R.lst hx
   exact Zcn I ru (.lst hy) e h
  ·obtain⟨ks,hy,r⟩:=R.obj a _ hx
   exact Zcn I ru (.dK hy) e h
theorem Zhm {x:Str}{q2:Pos}{c:String}(hg:Gl X "isinstance")(hm:X.mg "isinstance"=none)(hgx:Gl X x)(hmx:X.mg x=none)(hvx:bootBuiltins x=some (.type c))(hc:c∈["bool","int","str","tuple","list","dict"])(ha:SdE X a wa)
  (hnx:x≠"__name__":=by decide) (hdx:(x==("__debug__":Str))=false:=by decide) (he:starEach [a,.Name x q2] X.env=[(false,eval a X.env),(false,eval (.Name x q2) X.env)]:=by rfl):SdE X (.Call (.Name "isinstance" p) [a,.Name x q2] [] pos) (eIsi wa c):=by
 obtain⟨ta,p1,s1⟩:=ha
 let r:List V→Hp→VK→Prop:=fun xs H Q=>∃y F C v n,xs=[y,.ty c]∧Rl X.K F H C∧Rep X.K H y v∧tyN v C n∧Q (.bl (Zcy n c)) H
 have hr:Zbi X (.builtin "isinstance") r:=by
  intro pins s σ H xs us Q I rs h
  obtain⟨y,F,C,v,n,rfl,R,ry,hn,q⟩:=h
  obtain⟨u,u2,rfl,ru,ru2⟩:=rs.two
  cases ru2
  exact Z30 I R ry ru hn hc fun tk=>⟨.bl _,H,I.tok tk,rfl,q⟩
 refine⟨_,Zot hr hg hm Zla (Ziu p1 (Ziu (Zze (v:=.ty c) hgx hmx hvx rfl hnx hdx) Zqo (by rw[show starEach [Expr.Name x q2] X.env=[(false,eval (.Name x q2) X.env)] from rfl];rfl)) ?_) (by decide) (by decide) ?_ ?_,?_⟩
 ·rw[he];rfl
 ·rw[he];rfl
 ·rfl
 ·intro F H C σ τ Q Q' χ R S h q
  refine s1 F H C σ τ _ _ χ R S h fun y v H1 C1 R1 t1 ry h1=>?_
  obtain⟨n,hn,h1⟩:=h1
  exact⟨y,F,C1,v,n,rfl,R1,ry,hn,q _ _ H1 C1 R1 t1 Jr h1⟩
theorem Zp {op:CmpOp}(ho:OpS X (compareOp op) w)(ha:SdE X a wa)(hb:SdE X b wb)(hm:behindInMarks op b=false:=by exact Zbe _):SdT X (.Compare a [op] [b] pos) (tBl (Zh w wa wb)):=by
 obtain⟨r,h1,h2⟩:=ho
 obtain⟨ta,p1,s1⟩:=ha
 obtain⟨tb,p2,s2⟩:=hb
 exact⟨_,Zys h1 p1 p2 hm,s_bl (s_op s1 s2 h2)⟩
theorem Zj8 {op op':CmpOp}(ho:OpS X (compareOp op) w)(ho':OpS X (compareOp op') w')(ha:SdE X a wa)(hb:SdE X b wb)(hc:SdE X c wc)(hm:lastMarks [op,op'] [b,c]=false:=by with_unfolding_all rfl):
  SdT X (.Compare a [op,op'] [b,c] pos) (tBl (Zh9 w w' wa wb wc)):=by
 obtain⟨r,h1,h2⟩:=ho
 obtain⟨r',h1',h2'⟩:=ho'
 obtain⟨ta,p1,s1⟩:=ha
 obtain⟨tb,p2,s2⟩:=hb
 obtain⟨tc,p3,s3⟩:=hc
 exact⟨_,Zvk h1 h1' p1 p2 p3 hm,s_bl (Zyl s1 s2 s3 h2 h2')⟩
theorem Zat (ha:SdE X a wa)(he:∀whole,isTrue a X.env whole=(do let v ←whole;standAt a.pos;holding [v] (truthy v)):=by intro _;rfl):SdT X a (tTru wa):=by
 obtain⟨ta,p1,s1⟩:=ha
 exact⟨_,Zvi p1 he,s_tru s1⟩
theorem Zd9 (ha:SdT X a wt):SdW X (.BoolOp .And [a] pos) wt:=by
 obtain⟨t,p,s⟩:=ha
 exact⟨_,Zyr p,s⟩
theorem Zbp (ha:SdT X a wt):SdW X (.BoolOp .Or [a] pos) wt:=by
 obtain⟨t,p,s⟩:=ha
 exact⟨_,Z15 p,s⟩
theorem Ze7 (ha:SdT X a wt)(hb:SdW X (.BoolOp .And (b::rest) pos) wt'):SdW X (.BoolOp .And (a::b::rest) pos) (tAn wt wt'):=by
 obtain⟨t,p,s⟩:=ha
 obtain⟨t',p',s'⟩:=hb
 exact⟨_,Z16 p p',s_an s s'⟩
theorem Za7 (ha:SdT X a wt)(hb:SdW X (.BoolOp .Or (b::rest) pos) wt'):SdW X (.BoolOp .Or (a::b::rest) pos) (tOr' wt wt'):=by
 obtain⟨t,p,s⟩:=ha
 obtain⟨t',p',s'⟩:=hb
 exact⟨_,pw_or p p',s_or' s s'⟩
theorem dt_w (h:SdW X a wt):SdT X a wt:=by
 obtain⟨t,p,s⟩:=h
 exact⟨_,p.pt,s⟩
theorem Zb7 (ha:SdT X a wt):SdT X (.UnaryOp .Not a pos) (tNo wt):=by
 obtain⟨t,p,s⟩:=ha
 exact⟨_,Z17 p,s_no s⟩
end
structure DRel (K:W.Frag)(F H:Hp)(D:Ends)(D':We):Prop where
 nx:∀σ τ H' C',Rl K F H' C'→Tx H H'→RepS K H' σ τ→D'.nx τ C'→D.nx σ H'
 rt:∀x v H' C',Rl K F H' C'→Tx H H'→Rep K H' x v→D'.rt v C'→D.rt x H'
 bk:∀σ τ H' C',Rl K F H' C'→Tx H H'→RepS K H' σ τ→D'.bk τ C'→D.bk σ H'
 ct:∀σ τ H' C',Rl K F H' C'→Tx H H'→RepS K H' σ τ→D'.ct τ C'→D.ct σ H'
theorem DRel.at {K:W.Frag}{F H H1:Hp}{D:Ends}{D':We}(h:DRel K F H D D')(t:Tx H H1):DRel K F H1 D D':=
 ⟨fun σ τ H' C' R t'=>h.nx σ τ H' C' R (t.trans t'),fun x v H' C' R t'=>h.rt x v H' C' R (t.trans t'),fun σ τ H' C' R t'=>h.bk σ τ H' C' R (t.trans t'),fun σ τ H' C' R t'=>h.ct σ τ H' C' R (t.trans t')⟩
def SimS (K:W.Frag)(t:TS)(w:WS):Prop:=∀(F H:Hp) (C:Hw) (σ:L2.St) (τ:Sw) (D:Ends) (D':We),Rl K F H C→RepS K H σ τ→w D' τ C→DRel K F H D D'→t D σ H
def SimG (K:W.Frag)(t:TG)(w:WG):Prop:=∀(F H:Hp) (C:Hw) (σ:L2.St) (τ:Sw) (x:V) (v:T) (Q:L2.St→Hp→Prop) (Q':Sw→Hw→Prop) (χ:WX),Rl K F H C→RepS K H σ τ→Rep K H x v→w v τ C Q' χ→
 (∀σ' τ' H' C',Rl K F H' C'→Tx H H'→RepS K H' σ' τ'→Q' τ' C'→Q σ' H')→t x σ H Q
def Zp2 (K:W.Frag)(t:TGs)(w:WGs):Prop:=∀(F H:Hp) (C:Hw) (σ:L2.St) (τ:Sw) (x:List V) (v:List T) (Q:L2.St→Hp→Prop) (Q':Sw→Hw→Prop) (χ:WX),Rl K F H C→RepS K H σ τ→Reps K H x v→w v τ C Q' χ→
 (∀σ' τ' H' C',Rl K F H' C'→Tx H H'→RepS K H' σ' τ'→Q' τ' C'→Q σ' H')→t x σ H Q
def SdS (X:Cx)(st:Stmt)(w:WS):Prop:=∃t,PS X st t∧SimS X.K t w
def SdB (X:Cx)(st:List Stmt)(w:WS):Prop:=∃t,PSs X st t∧SimS X.K t w
def SdG (X:Cx)(e:Expr)(w:WG):Prop:=∃t,PG X e t∧SimG X.K t w
def SdGs (X:Cx)(e:List Expr)(w:WGs):Prop:=∃t,PGs X e t∧Zp2 X.K t w
section
variable {X:Cx}{st:Stmt}{rest:List Stmt}{w u:WS}{e tg:Expr}{we:WE}{wt:WT}{g:WG}{gs:WGs}{pos:Pos}
theorem J8 {K:W.Frag}{i:Nat}:SimG K (Zax i) (gNm i):=fun F H C σ τ x v Q Q' χ R S r h q=>q _ _ H C R (Tx.refl H) (S.set r) h
theorem Zi7 {K:W.Frag}:Zp2 K gNil Zdy:=fun F H C σ τ x v Q Q' χ R S r h q=>by
 obtain⟨rfl,h⟩:=h
 exact⟨Zas r,q _ _ H C R (Tx.refl H) S h⟩
theorem Zbz {K:W.Frag}{t:TG}{u:TGs}{g:WG}{gs:WGs}(a:SimG K t g)(b:Zp2 K u gs):Zp2 K (Zdz t u) (Js g gs):=fun F H C σ τ x v Q Q' χ R S r h q=>by
 obtain⟨v1,vs,rfl,h⟩:=h
 obtain⟨y,ys,rfl,r1,r2⟩:=Jo r
 refine⟨y,ys,rfl,a F H C σ τ y v1 _ _ χ R S r1 h fun σ' τ' H' C' R' t' S' h'=>?_⟩
 exact b F H' C' σ' τ' ys vs Q Q' χ R' S' (r2.tx t') h' fun σ2 τ2 H2 C2 R2 t2=>q σ2 τ2 H2 C2 R2 (t'.trans t2)
theorem Zi6 {K:W.Frag}{u:TGs}{gs:WGs}{n:Nat}(b:Zp2 K u gs)(hn:∀vs τ C Q χ,gs vs τ C Q χ→vs.length=n):SimG K (gTup K n u) (gTp gs):=fun F H C σ τ x v Q Q' χ R S r h q=>by
 obtain⟨vs,rfl,h⟩:=h
 obtain⟨a,ys,rfl,hq,rs⟩:=Y6 r
 exact⟨a,ys,rfl,hq,by rw[rs.length];exact hn _ _ _ _ _ h,b F H C σ τ ys vs Q Q' χ R S rs h q⟩
def Zsu (n:Nat)(gs:WGs):Prop:=∀vs τ C Q χ,gs vs τ C Q χ→vs.length=n
theorem Zd8:Zsu 0 Zdy:=fun vs τ C Q χ h=>by rw[h.1];rfl
theorem Y0 {n i:Nat}{gs:WGs}(b:Zsu n gs):Zsu (n+1) (Js (gNm i) gs):=fun vs τ C Q χ h=>by
 obtain⟨v,r,rfl,h⟩:=h
 rw[YF,b r _ _ _ _ h]
theorem Jw {i:Nat}{x:Str}(hN:X.N.Nodup)(hi:X.N[i]?=some x:=by rfl)(hx:Loc X.env.scope x:=by first | exact Or.inl rfl | exact Or.inr rfl)(hf:X.fn x=true∨X.env.scope.names.lookup x=some .local:=by first | exact .inl rfl | exact .inr rfl | assumption):SdG X (.Name x pos) (gNm i):=⟨_,Xb hN hi hx hf,J8⟩
theorem Zkc:SdGs X [] Zdy:=⟨_,Zg4,Zi7⟩
theorem Za0 {es:List Expr}(a:SdG X e g)(b:SdGs X es gs)(hs:(assignEach (e::es) X.env).map (·.2)=assign e X.env::(assignEach es X.env).map (·.2):=by rfl):SdGs X (e::es) (Js g gs):=by
 obtain⟨t,p,s⟩:=a
 obtain⟨t',p',s'⟩:=b
 exact⟨_,Zav p p' hs,Zbz s s'⟩
theorem Zkb {es:List Expr}{k n:Nat}(hc:X.calm=true)(b:SdGs X es gs)(hl:Zsu n gs)(hn:(assignEach es X.env).length=n:=by rfl)(hst:(assignEach es X.env).findIdx? (·.1)=none:=by rfl):SdG X (.Tuple es k pos) (gTp gs):=by
 obtain⟨t,p,s⟩:=b
 exact⟨_,Zjj hc p hn hst,Zi6 s hl⟩
theorem Zz:SdB X [] Z6:=⟨_,Zyu,fun F H C σ τ D D' R S h d=>d.nx σ τ H C R (Tx.refl H) S h⟩
theorem Z0c:SdS X (.Continue pos) Zvd:=⟨_,Zos,fun F H C σ τ D D' R S h d=>d.ct σ τ H C R (Tx.refl H) S h⟩
theorem Zk (a:SdS X st w):SdB X [st] w:=by
 obtain⟨t,p,s⟩:=a
 exact⟨_,Zyt p,s⟩
theorem Zg (a:SdS X st w)(b:SdB X rest u):SdB X (st::rest) (Zq w u):=by
 obtain⟨t,p,s⟩:=a
 obtain⟨t',p',s'⟩:=b
 refine⟨_,Zvm p p',fun F H C σ τ D D' R S h d=>?_⟩
 exact s F H C σ τ _ _ R S h ⟨fun σ' τ' H' C' R' t' S' h'=>s' F H' C' σ' τ' D D' R' S' h' (d.at t'),d.rt,d.bk,d.ct⟩
theorem Z9 (a:SdE X e we)(hs:swapsWith e none pos.line X.env=pure false:=by rfl):SdS X (.Expr e pos) (Yt we):=by
 obtain⟨t,p,s⟩:=a
 refine⟨_,Zyw p hs,fun F H C σ τ D D' R S h d=>?_⟩
 exact s F H C σ τ _ _ D'.xc R S h fun x v H1 C1 R1 t1 rx h1=>d.nx σ τ H1 C1 R1 t1 (S.tx t1) h1
theorem Zr (a:SdE X e we):SdS X (.Return (some e) pos) (Ya we):=by
 obtain⟨t,p,s⟩:=a
 refine⟨_,Z19 p,fun F H C σ τ D D' R S h d=>?_⟩
 exact s F H C σ τ _ _ D'.xc R S h d.rt
theorem Znm:SdS X (.Return none pos) Zop:=⟨_,Zyv,fun F H C σ τ D D' R S h d=>d.rt .non .non H C R (Tx.refl H) Zdc h⟩
theorem Z2 {c:Expr}{a b:List Stmt}{wa wb:WS}(hc:SdT X c wt)(ha:SdB X a wa)(hb:SdB X b wb):SdS X (.If c a b pos) (sIf wt wa wb):=by
 obtain⟨t,p,s⟩:=hc
 obtain⟨t1,p1,s1⟩:=ha
 obtain⟨t2,p2,s2⟩:=hb
 refine⟨_,ps_if p p1 p2,fun F H C σ τ D D' R S h d=>?_⟩
 refine s F H C σ τ _ _ D'.xc R S h fun k H1 C1 R1 t1 h1=>?_
 cases k with
 | true=>exact s1 F H1 C1 σ τ D D' R1 (S.tx t1) h1 (d.at t1)
 | false=>exact s2 F H1 C1 σ τ D D' R1 (S.tx t1) h1 (d.at t1)
theorem Zrf (he:SdE X e we)(hg:SdG X tg g)(hs:swapsWithSole [tg] e pos.line X.env=pure false:=by rfl)(hw:swappedStores [tg] e X.env=pure none:=by rfl)
  (h1:(assignEach [tg] X.env).map (·.2)=[assign tg X.env]:=by rfl):SdS X (.Assign [tg] e pos) (Z3 we g):=by
 obtain⟨t,p,s⟩:=he
 obtain⟨t',p',s'⟩:=hg
 refine⟨_,Z2c p p' hs hw h1,fun F H C σ τ D D' R S h d=>?_⟩
 refine s F H C σ τ _ _ D'.xc R S h fun x v H1 C1 R1 t1 rx h1=>?_
 exact s' F H1 C1 σ τ x v _ _ D'.xc R1 (S.tx t1) rx h1 fun σ' τ' H' C' R' t'=>d.nx σ' τ' H' C' R' (t1.trans t')
theorem Zs {i:Nat}{x:Str}{pos':Pos}(hN:X.N.Nodup)(he:SdE X e we)(hi:X.N[i]?=some x:=by rfl)(hx:Loc X.env.scope x:=by first | exact Or.inl rfl | exact Or.inr rfl)(hs:swapsWith e (some (.Name x pos')) pos.line X.env=pure false:=by rfl)
  (hf:X.fn x=true∨X.env.scope.names.lookup x=some .local:=by first | exact .inl rfl | exact .inr rfl | assumption):SdS X (.Assign [.Name x pos'] e pos) (Z3 we (gNm i)):=by
 obtain⟨t,p,s⟩:=he
 refine⟨_,Z18 hN hi hx p hs hf,fun F H C σ τ D D' R S h d=>?_⟩
 refine s F H C σ τ _ _ D'.xc R S h fun x v H1 C1 R1 t1 rx h1=>?_
 exact J8 F H1 C1 σ τ x v _ _ D'.xc R1 (S.tx t1) rx h1 fun σ' τ' H' C' R' t'=>d.nx σ' τ' H' C' R' (t1.trans t')
end
def Zin (K:W.Frag)(F H0:Hp)(J:It)(xs:List T)(ok:Hw→Prop):Prop:=∀(i:Nat) (H:Hp) (C:Hw),Rl K F H C→Tx H0 H→ok C→
 (i<xs.length→J.go i H∧∀x H',J.yld i H x H'→∃v,xs[i]?=some v∧Rl K F H' C∧Tx H H'∧Rep K H' x v)∧(i=xs.length→J.stop i H)
def SimI (K:W.Frag)(wi:TI)(w:WI):Prop:=∀(F H:Hp) (C:Hw) (σ:L2.St) (τ:Sw) (R:It→Hp→Prop) (R':List T→(Hw→Prop)→Hw→Prop) (χ:WX),Rl K F H C→RepS K H σ τ→w τ C R' χ→
 (∀J H' xs ok C',Rl K F H' C'→Tx H H'→(∀F',Zin K F' H' J xs ok)→R' xs ok C'→R J H')→wi σ H R
def SdI (X:Cx)(tg e:Expr)(w:WI):Prop:=∃t,PI X tg e t∧SimI X.K t w
section
variable {X:Cx}{tg e a b:Expr}{we:WE}{wA:WA}{pos p:Pos}
theorem Zz2 {K:W.Frag}{F H0:Hp}{l:Addr}{xs:List T}:Zin K F H0 (Itl K l) xs (fun C=>C l=some (.lst xs)):=fun i H C R t ok=>by
 obtain⟨ys,hy,r⟩:=R.lst ok
 refine⟨fun hi=>?_,fun hi=>⟨ys,SqL.of hy,by rw[r.length];omega⟩⟩
 have ev:xs[i]?=some xs[i]:=by simp[hi]
 obtain⟨y,ey,ry⟩:=r.get ev
 refine⟨⟨ys,y,SqL.of hy,ey⟩,fun x H' h=>?_⟩
 obtain⟨rfl,h⟩:=h
 have e2:=h ys (SqL.of hy)
 rw[ey] at e2;cases e2
 exact⟨_,ev,R,Tx.refl _,ry⟩
theorem it_cl {K:W.Frag}{F H0:Hp}{l:Addr}{ys:List V}{xs:List T}(h0:SqC K H0 l ys)(r0:Reps K H0 ys xs):Zin K F H0 (Itl K l) xs (fun _=>True):=fun i H C R t ok=>by
 have hy:=(t.sqc h0).sq
 have r:=r0.tx t
 refine⟨fun hi=>?_,fun hi=>⟨ys,hy,by rw[r.length];omega⟩⟩
 have ev:xs[i]?=some xs[i]:=by simp[hi]
 obtain⟨y,ey,ry⟩:=r.get ev
 refine⟨⟨ys,y,hy,ey⟩,fun x H' h=>?_⟩
 obtain⟨rfl,h⟩:=h
 have e2:=h ys hy
 rw[ey] at e2;cases e2
 exact⟨_,ev,R,Tx.refl _,ry⟩
theorem Z3w {K:W.Frag}{F H0:Hp}{l:Addr}{ys:List V}{xs:List T}(h0:SqT K H0 l ys)(r0:Reps K H0 ys xs):Zin K F H0 (Itt K l) xs (fun _=>True):=fun i H C R t ok=>by
 have hy:=t.sqt h0
 have r:=r0.tx t
 refine⟨fun hi=>?_,fun hi=>⟨ys,hy,by rw[r.length];omega⟩⟩
 have ev:xs[i]?=some xs[i]:=by simp[hi]
 obtain⟨y,ey,ry⟩:=r.get ev
 refine⟨⟨ys,y,hy,ey⟩,fun x H' h=>?_⟩
 obtain⟨rfl,h⟩:=h
 have e2:=h ys hy
 rw[ey] at e2;cases e2
 exact⟨_,ev,R,Tx.refl _,ry⟩
theorem Z3x {K:W.Frag}{F H0:Hp}{z:Str}:Zin K F H0 (Its z) (z.cps.toList.map fun c=>T.str ⟨#[c]⟩) (fun _=>True):=fun i H C R t ok=>by
 refine⟨fun hi=>⟨by show i<z.cps.size;simpa using hi,fun x H' h=>?_⟩,fun hi=>by show i=z.cps.size;simpa using hi⟩
 obtain⟨rfl,c,hc,rfl⟩:=h
 refine⟨.str ⟨#[c]⟩,?_,R,Tx.refl _,Xa⟩
 rw[XM,Array.getElem?_toList,hc];rfl
theorem Z3y {K:W.Frag}{F H0:Hp}{lo:Int}{n:Nat}:Zin K F H0 (Itr lo n) (rng lo n) (fun _=>True):=fun i H C R t ok=>by
 have hl:(rng lo n).length=n:=by unfold rng;simp
 refine⟨fun hi=>⟨by rw[hl] at hi;exact hi,fun x H' h=>?_⟩,fun hi=>by show n≤i;omega⟩
 obtain⟨rfl,rfl⟩:=h
 refine⟨.int (lo+i),?_,R,Tx.refl _,J9⟩
 unfold rng
 rw[hl] at hi
 rw[XM,List.getElem?_range hi];rfl
theorem Zus {pins:List (Addr×Obj)}{σ:L2.St}{H1:Hp}{s1:Shared}{R:It→Hp→Prop}{z:Str}{v:Value}(I1:Inv X pins σ H1 s1)(r1:Yg (.str z) v)(q:R (Its z) H1):wpAny (model X.prog X.w) X.A (pyIter v) (PIE X pins σ tg R) X.xe s1:=by
 obtain⟨t,rfl⟩:=r1
 have fin:∀b∈[s1.heap.objs.size],FpOk X pins H1 b:=fun b hb=>by
  have e:b=s1.heap.objs.size:=by simpa using hb
  subst e
  exact I1.fpOk (XE _) I1.fresh
 cases ha:z.cps.all (·<128)
 ·refine wpAny_pyIter_wide ha ⟨s1.heap.objs.size,[s1.heap.objs.size],_,_,H1,rfl,I1.kept (t':=s1.toks) fun b o e=>XC _ e,Zi4 (ty:="str_iterator") (by decide) (fun A hA=>Walks.strWide hA _ z t) fun _ _ _ _ _ st h=>wpAny_pyIter_striter_wide st h,⟨_,XF _ rfl,rfl,rfl⟩,fin,q⟩
 ·refine wpAny_pyIter_ascii ha ⟨s1.heap.objs.size,[s1.heap.objs.size],_,_,H1,rfl,I1.kept (t':=s1.toks) fun b o e=>XC _ e,Zi4 (ty:="str_ascii_iterator") (by decide) (fun A hA=>Walks.strAscii hA _ z t) fun _ _ _ _ _ st h=>wpAny_pyIter_striter_ascii st h,⟨_,XF _ rfl,rfl,rfl⟩,fin,q⟩
def iDyn (K:W.Frag)(tl:TE):TI:=fun σ H R=>tl σ H fun x H1=>(∃a,x=.ref a∧(∃xs,SqL K H1 a xs)∧R (Itl K a) H1)∨(∃a,x=.ref a∧(∃xs,SqT K H1 a xs)∧R (Itt K a) H1)∨∃z,x=.str z∧R (Its z) H1
theorem Z2g {tl:TE}(hl:PE X e tl):PI X tg e (iDyn X.K tl):=by
 intro pins s σ H R I h
 refine thn (hl pins s σ H _ I h) fun v s1 ⟨x,H1,I1,r1,q1⟩=>?_
 rcases q1 with⟨a,rfl,⟨xs,hq⟩,q⟩ | ⟨a,rfl,⟨xs,hq⟩,q⟩ | ⟨z,rfl,q⟩
 ·cases r1
  obtain⟨its,rv,p,hz⟩:=I1.list hq
  refine wpAny_pyIter_list p.isList ?_
  refine⟨s1.heap.objs.size,[s1.heap.objs.size],_,_,H1,rfl,I1.kept (t':=s1.toks) fun b o e=>XC _ e,Zsz a _,⟨_,XF _ rfl,rfl,rfl⟩,fun b hb=>?_,q⟩
  have e:b=s1.heap.objs.size:=by simpa using hb
  subst e
  exact I1.fpOk (XE _) (I1.hok.fresh (XE _))
 ·cases r1
  obtain⟨its,rv,p,hz⟩:=I1.tuple hq
  refine wpAny_pyIter_tuple (show s1.heap.IsTuple a its.toArray from p) ?_
  refine⟨s1.heap.objs.size,[s1.heap.objs.size],_,_,H1,rfl,I1.kept (t':=s1.toks) fun b o e=>XC _ e,Zp8 a _,⟨_,XF _ rfl,rfl,rfl⟩,fun b hb=>?_,q⟩
  have e:b=s1.heap.objs.size:=by simpa using hb
  subst e
  exact I1.fpOk (XE _) (I1.hok.fresh (XE _))
 ·exact Zus I1 r1 q
theorem Zai (h:SdE X e we):SdI X tg e (iSeq we):=by
 obtain⟨t,p,s⟩:=h
 refine⟨_,Z2g p,fun F H C σ τ R R' χ Rr S h q=>?_⟩
 refine s F H C σ τ _ _ χ Rr S h fun x v H1 C1 R1 t1 rx h1=>?_
 cases v with
 | tup xs=>
  obtain⟨a,ys,rfl,hq,r⟩:=Y6 rx
  exact .inr (.inl ⟨a,rfl,⟨ys,hq⟩,q _ H1 xs _ C1 R1 t1 (fun _=>Z3w hq r) h1⟩)
 | cl xs=>
  obtain⟨a,ys,rfl,hq,r⟩:=Ze3 rx
  exact .inl ⟨a,rfl,⟨ys,hq.sq⟩,q _ H1 xs _ C1 R1 t1 (fun _=>it_cl hq r) h1⟩
 | str z=>cases Jv rx;exact .inr (.inr ⟨z,rfl,q _ H1 _ _ C1 R1 t1 (fun _=>Z3x) h1⟩)
 | ref a=>
  cases Yd rx
  obtain⟨xs,hx,h1⟩:=h1
  obtain⟨ys,hy,r⟩:=R1.lst hx
  exact .inl ⟨a,rfl,⟨ys,SqL.of hy⟩,q _ H1 xs _ C1 R1 t1 (fun _=>Zz2) h1⟩
 | _=>exact False.elim h1
theorem Zxf (hg:Gl X "range")(hm:X.mg "range"=none)(ha:SdA X [a] wA)(hs:starEach [a] X.env=[(false,eval a X.env)]:=by rfl):SdI X tg (.Call (.Name "range" p) [a] [] pos) (iR1 wA):=by
 obtain⟨t,p1,s⟩:=ha
 refine⟨_,Zta hg hm p1 hs,fun F H C σ τ R R' χ Rr S h q=>?_⟩
 refine s F H C σ τ _ _ χ Rr S h fun xs vs H1 C1 R1 t1 rs h1=>?_
 obtain⟨j,rfl,h2,h3,h1⟩:=h1
 obtain⟨x,rfl,rx⟩:=Zar rs
 cases Yh rx
 exact⟨j,rfl,h2,h3,q _ H1 _ _ C1 R1 t1 (fun _=>Z3y) h1⟩
end
theorem Zyf {K:W.Frag}{wi:TI}{g:TG}{tb:TS}{i:WI}{g':WG}{b:WS}(hi:SimI K wi i)(hg:SimG K g g')(hb:SimS K tb b):SimS K (tFor wi g tb) (sFor i g' b):=fun F H C σ τ D D' R S h d=>by
 refine hi F H C σ τ _ _ D'.xc R S h fun J H1 xs ok C1 R1 t1 it h1=>?_
 have it1:=it F
 refine⟨fun i m σ H=>m=xs.length-i∧i≤xs.length∧∃τ C,Rl K F H C∧Tx H1 H∧RepS K H σ τ∧forW g' b ok D' (xs.drop i) τ C,⟨xs.length,by simp,Nat.zero_le _,τ,C1,R1,Tx.refl _,S.tx t1,h1⟩,?_⟩
 rintro i m σ2 H2 ⟨rfl,hle,τ2,C2,R2,t2,S2,h2⟩
 by_cases hlt:i<xs.length
 ·right
  have ed:xs.drop i=xs[i]::xs.drop (i+1):=List.drop_eq_getElem_cons hlt
  rw[ed] at h2
  obtain⟨hok,h2⟩:=h2
  obtain⟨hgo,hy⟩:=(it1 i H2 C2 R2 t2 hok).1 hlt
  refine⟨hgo,fun σ' H'=>∃τ' C',Rl K F H' C'∧Tx H1 H'∧RepS K H' σ' τ'∧forW g' b ok D' (xs.drop (i+1)) τ' C',fun σ' H' q=>⟨xs.length-(i+1),by omega,rfl,hlt,q⟩,fun x H' hx=>?_⟩
  obtain⟨v,ev,R3,t3,rv⟩:=hy x H' hx
  have:v=xs[i]:=by
   have e:xs[i]?=some xs[i]:=by simp[hlt]
   rw[e] at ev;exact(YH ev).symm
  subst this
  refine hg F H' C2 σ2 τ2 x _ _ _ D'.xc R3 (S2.tx t3) rv h2 fun σ4 τ4 H4 C4 R4 t4 S4 h4=>?_
  have tt:Tx H1 H4:=(t2.trans t3).trans t4
  exact hb F H4 C4 σ4 τ4 _ _ R4 S4 h4 ⟨fun σ5 τ5 H5 C5 R5 t5 S5 h5=>⟨τ5,C5,R5,tt.trans t5,S5,h5⟩,fun x v H5 C5 R5 t5=>d.rt x v H5 C5 R5 ((t1.trans tt).trans t5),fun σ5 τ5 H5 C5 R5 t5 S5 h5=>d.nx σ5 τ5 H5 C5 R5 ((t1.trans tt).trans t5) S5 h5,
   fun σ5 τ5 H5 C5 R5 t5 S5 h5=>⟨τ5,C5,R5,tt.trans t5,S5,h5⟩⟩
 ·left
  have e:i=xs.length:=by omega
  subst e
  rw[List.drop_length] at h2
  obtain⟨hok,h2⟩:=h2
  exact⟨(it1 _ H2 C2 R2 t2 hok).2 rfl,d.nx σ2 τ2 H2 C2 R2 (t1.trans t2) S2 h2⟩
theorem Zc1 {X:Cx}{tg iter:Expr}{body:List Stmt}{i:WI}{g:WG}{b:WS}{pos:Pos}(hp:PassesOwn (model X.prog X.w) X.A X.env X.xe)(hc:X.calm=true)(hi:SdI X tg iter i)(hg:SdG X tg g)(hb:SdB X body b)
  (hs:∀x,foldedSetIterable iter X.env x=pure x:=by intro _;rfl):SdS X (.For tg iter body [] pos) (sFor i g b):=by
 obtain⟨t,p,s⟩:=hi
 obtain⟨t',p',s'⟩:=hg
 obtain⟨t2,p2,s2⟩:=hb
 exact⟨_,Z2a hp hc p p' p2 hs,Zyf s s' s2⟩
def tOf (K:W.Frag)(we:WE):TE:=fun σ H Q=>∃(F:Hp) (C:Hw) (τ:Sw) (Q':WK) (χ:WX),Rl K F H C∧RepS K H σ τ∧we τ C Q' χ∧QE K F H Q Q'
def ttOf (K:W.Frag)(wt:WT):TT:=fun σ H Q=>∃(F:Hp) (C:Hw) (τ:Sw) (Q':Bool→Hw→Prop) (χ:WX),Rl K F H C∧RepS K H σ τ∧wt τ C Q' χ∧QT K F H Q Q'
theorem SdE.pe {X:Cx}{e:Expr}{we:WE}(h:SdE X e we):PE X e (tOf X.K we):=by
 obtain⟨t,p,s⟩:=h
 intro pins st σ H Q I hq
 obtain⟨F,C,τ,Q',χ,R,S,hw,q⟩:=hq
 exact p pins st σ H Q I (s F H C σ τ Q Q' χ R S hw q)
def SdIf (X:Cx)(ifs:List Expr)(w:WT):Prop:=∃t,PIfs X ifs t∧SimT X.K t w
theorem Zea {X:Cx}:SdIf X [] tYes:=⟨_,Zy7,fun F H C σ τ Q Q' χ R S h q=>q true H C R (Tx.refl H) h⟩
theorem Ziz {X:Cx}{e:Expr}{wt:WT}(h:SdT X e wt):SdIf X [e] wt:=by
 obtain⟨t,p,s⟩:=h
 exact⟨t,Zy6 p,s⟩
theorem SdIf.pif {X:Cx}{ifs:List Expr}{w:WT}(h:SdIf X ifs w):PIfs X ifs (ttOf X.K w):=by
 obtain⟨t,p,s⟩:=h
 intro pins st σ H Q I hq
 obtain⟨F,C,τ,Q',χ,R,S,hw,q⟩:=hq
 exact p pins st σ H Q I (s F H C σ τ Q Q' χ R S hw q)
theorem RepS.cap {K:W.Frag}{H:Hp}{σ:L2.St}{τ:Sw}(h:RepS K H σ τ)(cap:List (Option Nat)):RepS K H (capS cap σ) (capW cap τ):=by
 refine⟨by unfold capS capW;rw[XI,XI],fun i v e=>?_⟩
 unfold capW at e
 unfold capS
 rw[XM] at e ⊢
 cases ho:cap[i]? with
 | none=>rw[ho] at e;cases e
 | some o=>
  rw[ho] at e
  cases o with
  | none=>simp at e
  | some j=>
   have e':(τ[j]?).join=some v:=by simpa using e
   have e2:τ[j]?=some (some v):=by
    cases hj:τ[j]? with
    | none=>rw[hj] at e';cases e'
    | some z=>rw[hj] at e';rw[show z=some v from e']
   obtain⟨x,hx,r⟩:=h.2 j v e2
   exact⟨x,by simp[hx],r⟩
def frP (F:Hp)(p:Addr)(ys:List V):Hp:=fun b=>if b=p then some (.lst ys) else F b
theorem Zhj {F:Hp}{p:Addr}{ys:List V}:frP F p ys p=some (.lst ys):=by unfold frP;rw[XY rfl]
theorem Znk {F:Hp}{p b:Addr}{ys:List V}(h:b≠p):frP F p ys b=F b:=by unfold frP;rw[XX h]
theorem Zoh {K:W.Frag}{cap:List (Option Nat)}{wi:TI}{g:TG}{i:WI}{wg:WG}{wc:WT}{we:WE}(hi:SimI K wi i)(hg:SimG K g wg){F H:Hp}{C:Hw}{σ:L2.St}{τ:Sw}{Q:Addr→Hp→Prop}{Q':WK}{χ:WX}
  (R:Rl K F H C) (S:RepS K H σ τ) (h:Za6 cap i wg wc we τ C Q' χ) (q:∀p H' C',Rl K F H' C'→Tx H H'→Q' (.ref p) C'→Q p H'):Zmd cap wi g (ttOf K wc) (tOf K we) σ H Q:=by
 refine hi F H C σ τ _ _ χ R S h fun J H1 xs ok C1 R1 t1 it h1=>?_
 intro p hp
 have hn:∀a o,F a=some o→a≠p:=fun a o e=>Xk (R1.frm a o e).1 hp
 refine⟨fun i m H2=>m=xs.length-i∧i≤xs.length∧∃C2 ys acc,Rl K (frP F p ys) H2 C2∧Tx H1 H2∧Reps K H2 ys acc∧Zhn wg wc we ok (capW cap τ) (fun vs C2=>∀p,C2 p=none→Q' (.ref p) (up C2 p (.lst vs))) χ (xs.drop i) acc C2,
  ⟨xs.length,by simp,Nat.zero_le _,C1,[],[],?_,Tx.new hp,Ji,h1⟩,?_⟩
 ·refine⟨(R1.hid hp).obj,fun a o e=>?_⟩
  by_cases ea:a=p
  ·subst ea
   rw[Zhj] at e;cases e
   exact⟨Yo,R1.free hp⟩
  ·rw[Znk ea] at e
   exact(R1.hid hp).frm a o e
 rintro i m H2 ⟨rfl,hle,C2,ys,acc,R2,t2,ra,h2⟩
 by_cases hlt:i<xs.length
 ·right
  have ed:xs.drop i=xs[i]::xs.drop (i+1):=List.drop_eq_getElem_cons hlt
  rw[ed] at h2
  obtain⟨hok,h2⟩:=h2
  obtain⟨hgo,hy⟩:=(it (frP F p ys) i H2 C2 R2 t2 hok).1 hlt
  refine⟨hgo,fun H'=>∃C2 ys acc,Rl K (frP F p ys) H' C2∧Tx H1 H'∧Reps K H' ys acc∧Zhn wg wc we ok (capW cap τ) (fun vs C2=>∀p,C2 p=none→Q' (.ref p) (up C2 p (.lst vs))) χ (xs.drop (i+1)) acc C2,
   fun H' z=>⟨xs.length-(i+1),by omega,rfl,hlt,z⟩,fun x H' hx=>?_⟩
  obtain⟨v,ev,R3,t3,rv⟩:=hy x H' hx
  have:v=xs[i]:=by
   have e:xs[i]?=some xs[i]:=by simp[hlt]
   rw[e] at ev;exact(YH ev).symm
  subst this
  have S3:RepS K H' (capS cap σ) (capW cap τ):=(S.tx ((t1.trans t2).trans t3)).cap cap
  refine hg (frP F p ys) H' C2 (capS cap σ) (capW cap τ) x _ _ _ χ R3 S3 rv h2 fun σ4 τ4 H4 C4 R4 t4 S4 h4=>?_
  refine⟨frP F p ys,C4,τ4,_,χ,R4,S4,h4,fun b H5 C5 R5 t5 h5=>?_⟩
  have t15:Tx H2 H5:=(t3.trans t4).trans t5
  cases b with
  | true=>
   refine⟨frP F p ys,C5,τ4,_,χ,R5,S4.tx t5,h5,fun y vy H6 C6 R6 t6 ry h6=>?_⟩
   obtain⟨e6,n6⟩:=R6.frm p _ Zhj
   have tp:Tx H6 (upd H6 p (.lst (ys++[y]))):=Tx.put e6 (fun z=>z)
   refine⟨ys,e6,by rw[ra.length];exact h6.1,C6,ys++[y],acc++[vy],⟨fun a o e=>?_,fun a o e=>?_⟩,(t2.trans (t15.trans t6)).trans tp,((ra.tx (t15.trans t6)).snoc ry).tx tp,h6.2⟩
   ·have ea:a≠p:=fun z=>by subst z;rw[n6] at e;cases e
    exact(R6.obj a o e).stay tp (Yc ea)
   ·by_cases ea:a=p
    ·subst ea
     rw[Zhj] at e;cases e
     exact⟨Yo,n6⟩
    ·rw[Znk ea] at e
     rw[Yc ea]
     exact R6.frm a o (by rw[Znk ea];exact e)
  | false=>exact⟨C5,ys,acc,R5,t2.trans t15,ra.tx t15,h5⟩
 ·left
  have e:i=xs.length:=by omega
  subst e
  rw[List.drop_length] at h2
  obtain⟨hok,h2⟩:=h2
  refine⟨(it (frP F p ys) _ H2 C2 R2 t2 hok).2 rfl,?_⟩
  obtain⟨e6,n6⟩:=R2.frm p _ Zhj
  refine q p H2 (up C2 p (.lst acc)) ⟨fun a o e=>?_,fun a o e=>?_⟩ (t1.trans t2) (h2 p n6)
  ·by_cases ea:a=p
   ·subst ea
    rw[Zn] at e;cases e
    exact⟨ys,e6,ra⟩
   ·rw[Zw ea] at e
    exact R2.obj a o e
  ·have ea:=hn a o e
   rw[Zw ea]
   exact R2.frm a o (by rw[Znk ea];exact e)
section
variable {X:Cx}{tg iter elt:Expr}{ifs:List Expr}{scope:Scope}{pos:Pos}{cN:List Str}{cap:List (Option Nat)}{cl:List (Str×Addr)}{js:List Nat}{i:WI}{g:TG}{wg:WG}{wc:WT}{we:WE}
theorem Zle {K:W.Frag}{w:WT}:∀(σ:L2.St) (H:Hp) (Q Q':Bool→Hp→Prop),(∀b H',Q b H'→Q' b H')→ttOf K w σ H Q→ttOf K w σ H Q':=fun σ H Q Q' m h=>by
 obtain⟨F,C,τ,R',χ,R,S,hw,q⟩:=h
 exact⟨F,C,τ,R',χ,R,S,hw,fun b H' C' r t h=>m _ _ (q b H' C' r t h)⟩
structure CompD (X:Cx)(tg iter elt:Expr)(ifs:List Expr)(scope:Scope)(cN:List Str)(cap:List (Option Nat))(cl:List (Str×Addr))(js:List Nat)(i:WI)(g:TG)(wg:WG)(wc:WT)(we:WE):Prop where
 calm:X.calm=true
 ok:X.Ok→CompOk X cN cap scope cl
 it:SdI X tg iter i
 tgt:∀fp s H,PG (Jh X cN scope cl fp s H) tg g
 gm:Zgp g
 gk:Zl1 js g
 sg:SimG X.K g wg
 js0:∀j∈js,(cap[j]?).join=none
 ts:∀fp s H,SdIf (Jh X cN scope cl fp s H) ifs wc
 el:∀fp s H,SdE (Jh X cN scope cl fp s H) elt we
 fold:∀x,foldedSetIterable iter X.env x=pure x
theorem Zeb (D:CompD X tg iter elt ifs scope cN cap cl js i g wg wc we):SdE X (.ListComp elt [⟨tg,iter,ifs,0⟩] scope pos) (Za6 cap i wg wc we):=by
 obtain⟨wi,p,s⟩:=D.it
 have P:CompP X tg iter elt ifs scope cN cap cl js wi g (ttOf X.K wc) (tOf X.K we):=⟨D.calm,D.ok,p,D.tgt,D.gm,D.gk,D.js0,fun fp s H=>(D.ts fp s H).pif,Zle,fun fp s H=>(D.el fp s H).pe,D.fold⟩
 exact⟨_,Zzc P,fun F H C σ τ Q Q' χ R S h q=>Zoh s D.sg R S h fun p H' C' R' t' h'=>q _ _ H' C' R' t' Ju h'⟩
theorem Zj9 {k:Nat}{y:Str}{py spos:Pos}(hN:X.N.Nodup)(hi:X.N[k]?=some y)(hy:X.env.scope.names.lookup y=some .local)
  (hsw:swapsWith (.ListComp elt [⟨tg,iter,ifs,0⟩] scope pos) (some (.Name y py)) spos.line X.env=pure true)
  (D:CompD X tg iter elt ifs scope cN cap cl js i g wg wc we):SdS X (.Assign [.Name y py] (.ListComp elt [⟨tg,iter,ifs,0⟩] scope pos) spos) (Z3 (Za6 cap i wg wc we) (gNm k)):=by
 obtain⟨wi,p,s⟩:=D.it
 have P:CompP X tg iter elt ifs scope cN cap cl js wi g (ttOf X.K wc) (tOf X.K we):=⟨D.calm,D.ok,p,D.tgt,D.gm,D.gk,D.js0,fun fp s H=>(D.ts fp s H).pif,Zle,fun fp s H=>(D.el fp s H).pe,D.fold⟩
 exact⟨_,Zqj hN hi hy hsw P,fun F H C σ τ E E' R S h d=>Zoh s D.sg R S h fun p H' C' R' t' h'=>d.nx _ _ H' C' R' t' ((S.tx t').set Ju) h'⟩
end
theorem hu150 {A:Around}{k:Nat}(hr:Room k A):A.units+150<cLine:=by have:=hr.un;omega
def spW (K:W.Frag)(pr:List Df)(n i:Nat):Sp:=fun vs H Q _=>∃(F:Hp) (C:Hw) (vs':List T) (Q':WK) (χ:WX),Rl K F H C∧Reps K H vs vs'∧wpc pr n i vs' C Q' χ∧QE K F H Q Q'
theorem Z0 {X:Cx}{k i:Nat}{x:Str}{ps:List Str}{pr:List Df}{p pos:Pos}{e:Expr}{es:List Expr}{wA:WA}(Cc:Ca X.prog X.w X.K X.mg X.base k x ps (spW X.K pr k i))(hr:Room k X.A)(hg:Gl X x)(ha:SdA X (e::es) wA)
  (hdb:(x==("__debug__":Str))=false:=by decide) (he:starEach (e::es) X.env=(false,eval e X.env)::starEach es X.env:=by rfl) (hpl:(backTo pos (starEach es X.env)).any (·.1)=false:=by rfl):
  SdE X (.Call (.Name x p) (e::es) [] pos) (Z5 (wpc pr k) i wA):=by
 obtain⟨t,p1,s⟩:=ha
 refine⟨_,pe_ca Cc hr hg p1 hdb he hpl,fun F H C σ τ Q Q' χ R S h q=>?_⟩
 refine s F H C σ τ _ _ χ R S h fun xs vs H1 C1 R1 t1 rs h1=>?_
 refine⟨F,C1,vs,Q',χ,R1,?_,h1,QE.at q t1⟩
 rw[YK];exact rs
theorem RepS.start {K:W.Frag}{H:Hp}{vs:List V}{vs':List T}(h:Reps K H vs vs')(N:List Str)(m:Nat)(e:m=N.length-vs.length):RepS K H (start N vs) (vs'.map some++List.replicate m none):=by
 refine⟨?_,fun i v hv=>?_⟩
 ·unfold L2.start
  rw[List.length_append,List.length_append,XI,XI,List.length_replicate,List.length_replicate,h.length,e,h.length]
 ·unfold L2.start
  by_cases hi:i<vs'.length
  ·rw[List.getElem?_append_left (by rw[XI];exact hi),XM] at hv
   cases hg:vs'[i]? with
   | none=>rw[hg] at hv;cases hv
   | some z=>
    rw[hg] at hv
    cases hv
    obtain⟨x,hx,r⟩:=h.get hg
    refine⟨x,?_,r⟩
    rw[List.getElem?_append_left (by rw[XI,h.length];exact hi),XM,hx]
    rfl
  ·rw[List.getElem?_append_right (by rw[XI];omega),List.getElem?_replicate] at hv
   split at hv
   ·cases hv
   ·cases hv
theorem Ym {P:Program}{w:World}{K:W.Frag}{mg:Str→Option Value}{base:Heap}{x:Str}{st:Stmt}{f:Addr}{fd:FuncData}{ps:List Str}{pr:List Df}{i:Nat}(F:Fun K x x st f fd)(hb:Binds K fd ps [])(hm:mg x=some (.ref f)):Ca P w K mg base 0 x ps (spW K pr 0 i):=
 ⟨f,fd,⟨fun vs H Q E h=>by obtain⟨_,_,_,_,_,_,_,z,_⟩:=h;exact z.elim,fun A outer s H args us vs Q E _ _ _ _ h=>by obtain⟨_,_,_,_,_,_,_,z,_⟩:=h;exact z.elim⟩,hb,F.kp,hm⟩
theorem Yn {P:Program}{w:World}{K:W.Frag}{mg:Str→Option Value}{base:Heap}{x:Str}{st:Stmt}{f:Addr}{fd:FuncData}{ps:List Str}{sp:Sp}{n:Nat}(F:Fun K x x st f fd)(hb:Binds K fd ps [])(hm:mg x=some (.ref f))(G:FnOk P w K mg base CX0 n f fd ps sp):Ca P w K mg base n x ps sp:=
 ⟨f,fd,G,hb,F.kp,hm⟩
theorem law_sp {K:W.Frag}{pr:List Df}{n i:Nat}{H:Hp}{a:Addr}{ns:List Int}(hO:Only H)(hS:SqL K H a (ns.map V.int))(h:wpc pr n i [.cl (ns.map T.int)] (fun _=>none) (fun v _=>v=.bl true) (fun _ _=>False)):
  spW K pr n i [.ref a] H (fun v _=>v=.bl true) (fun _ _ _=>False):=by
 have hq:SqC K H a (ns.map V.int):=by
  rcases hS with(h | ⟨o,h⟩) | h
  ·rcases hO a with e | ⟨o,xs,e⟩
   ·rw[e] at h;cases h
   ·rw[e] at h;cases h
  ·exact .inl ⟨o,h⟩
  ·exact .inr h
 refine⟨fun _=>none,fun _=>none,[.cl (ns.map T.int)],_,_,⟨(fun _ _ e=>by cases e),(fun _ _ e=>by cases e)⟩,Yk ?_ Ji,h,fun x v H' C' R t r e=>?_⟩
 ·unfold Rep
  exact⟨a,_,rfl,hq,Zhy ns⟩
 ·subst e;exact Zdv r
end WL
namespace L2
open PySem PySem.Spec PyProof.Rows
section
variable {κ:Type}[DecidableEq κ]
def valV (kvs:List (κ×V))(k:κ):Option V:=(kvs.find? fun kv=>decide (kv.1=k)).map (·.2)
def putK (kvs:List (κ×V))(k:κ)(v:V):List (κ×V):=
 if (kvs.any fun kv=>decide (kv.1=k))=true then kvs.map (fun kv=>if kv.1=k then(kv.1,v) else kv) else kvs++[(k,v)]
def Zhk (kvs:List (κ×V))(k:κ):List (κ×V):=kvs.filter fun kv=>decide (kv.1≠k)
theorem Zgs {p:κ×V}{r:List (κ×V)}{k:κ}(e:p.1=k):valV (p::r) k=some p.2:=by simp[valV,List.find?_cons,e]
theorem Zgt {p:κ×V}{r:List (κ×V)}{k:κ}(e:¬p.1=k):valV (p::r) k=valV r k:=by simp[valV,List.find?_cons,e]
theorem Zn8 (k:κ):∀kvs:List (κ×V),(kvs.any fun kv=>decide (kv.1=k))=(valV kvs k).isSome
 | []=>rfl
 | p::r=>by
  rw[List.any_cons]
  by_cases e:p.1=k
  ·simp only[Zgs e,decide_eq_true e,Bool.true_or,Option.isSome_some]
  ·rw[Zgt e,YG e,Bool.false_or];exact Zn8 k r
theorem Ze5 (kvs:List (κ×V))(k:κ)(v:V):(putK kvs k v).length≤kvs.length+1:=by
 unfold putK
 split
 ·rw[XI];omega
 ·rw[List.length_append,YF,List.length_nil];omega
theorem RelO.isSome_eq {o:Option V}{u:Option Value}(r:RelO o u):o.isSome=u.isSome:=by
 cases o with
 | none=>cases u with
  | none=>rfl
  | some _=>exact(show False from r).elim
 | some _=>cases u with
  | none=>exact(show False from r).elim
  | some _=>rfl
theorem RelO.getD {o:Option V}{u:Option Value}{d:V}{d':Value}(r:RelO o u)(rd:Yg d d'):Yg (o.getD d) (u.getD d'):=by
 cases o with
 | none=>cases u with
  | none=>exact rd
  | some _=>exact(show False from r).elim
 | some _=>cases u with
  | none=>exact(show False from r).elim
  | some _=>exact r
theorem KV.val {kvs:List (κ×V)}{vs:List (κ×Value)}(r:KV kvs vs)(k:κ):RelO (valV kvs k) (valueAt vs k):=by
 unfold KV at r
 induction r with
 | nil=>exact True.intro
 | @cons p q ps qs h t ih=>
  obtain⟨h1,h2⟩:=h
  by_cases e:p.1=k
  ·have e':q.1=k:=h1.symm.trans e
   have b:valueAt (q::qs) k=some q.2:=by simp[valueAt,List.find?_cons,e']
   rw[Zgs e,b];exact h2
  ·have e':¬q.1=k:=fun z=>e (h1.trans z)
   have b:valueAt (q::qs) k=valueAt qs k:=by simp[valueAt,List.find?_cons,e']
   rw[Zgt e,b];exact ih
theorem KV.any {kvs:List (κ×V)}{vs:List (κ×Value)}(r:KV kvs vs)(k:κ):(kvs.any fun kv=>decide (kv.1=k))=vs.any fun kv=>decide (kv.1=k):=by
 unfold KV at r
 induction r with
 | nil=>rfl
 | cons h t ih=>rw[List.any_cons,List.any_cons,ih,h.1]
theorem KV.repl {kvs:List (κ×V)}{vs:List (κ×Value)}(r:KV kvs vs)(k:κ){y:V}{u:Value}(ry:Yg y u):
  KV (kvs.map fun kv=>if kv.1=k then(kv.1,y) else kv) (vs.map fun kv=>if kv.1=k then(kv.1,u) else kv):=by
 unfold KV at r ⊢
 induction r with
 | nil=>exact .nil
 | @cons p q ps qs h t ih=>
  rw[YI,YI]
  refine .cons ?_ ih
  obtain⟨h1,h2⟩:=h
  by_cases e:p.1=k
  ·rw[XY e,XY (h1.symm.trans e)];exact⟨h1,ry⟩
  ·rw[XX e,XX (fun z=>e (h1.trans z))];exact⟨h1,h2⟩
theorem KV.put {kvs:List (κ×V)}{vs:List (κ×Value)}(r:KV kvs vs)(k:κ){y:V}{u:Value}(ry:Yg y u):KV (putK kvs k y) (stored vs k u):=by
 unfold putK stored
 rw[r.any k]
 by_cases e:(vs.any fun kv=>decide (kv.1=k))=true
 ·rw[XY e,XY e];exact r.repl k ry
 ·rw[XX e,XX e];exact Paired.snoc r ⟨rfl,ry⟩
theorem KV.drop {kvs:List (κ×V)}{vs:List (κ×Value)}(r:KV kvs vs)(k:κ):KV (Zhk kvs k) (without vs k):=by
 unfold KV at r ⊢
 unfold Zhk without
 induction r with
 | nil=>exact .nil
 | @cons p q ps qs h t ih=>
  obtain⟨h1,h2⟩:=h
  rw[List.filter_cons,List.filter_cons]
  by_cases e:p.1=k
  ·have a:¬decide (p.1≠k)=true:=by simp[e]
   have b:¬decide (q.1≠k)=true:=by simp[h1.symm.trans e]
   rw[XX a,XX b];exact ih
  ·have e':¬q.1=k:=fun z=>e (h1.trans z)
   have a:decide (p.1≠k)=true:=by simp[e]
   have b:decide (q.1≠k)=true:=by simp[e']
   rw[XY a,XY b];exact .cons ⟨h1,h2⟩ ih
theorem KV.length {kvs:List (κ×V)}{vs:List (κ×Value)}(r:KV kvs vs):kvs.length=vs.length:=Paired.length r
theorem Zxc (kvs:List (κ×V))(k:κ):(Zhk kvs k).length≤kvs.length:=List.length_filter_le _ _
end
theorem Zf5 {P:Program}{w:World}{k:Key}{u:Value}(r:Yg (kV k) u):(Jf P w).is k u=true:=by
 cases k with
 | inl i=>obtain⟨t,e⟩:=(show ∃t,u=Value.int i t from r);subst e;exact Zo1 P w i t
 | inr x=>obtain⟨t,e⟩:=(show ∃t,u=Value.str x t from r);subst e;exact Zo0 P w x t
theorem Zlp {P:Program}{w:World}:∀{ks:List Key} {us:List Value},Vals (ks.map kV) us→ItemsAre (Jf P w) ks us
 | [],_,r=>by rw[List.map_nil] at r;cases r;exact .nil
 | k::ks,_,r=>by
  rw[YI] at r
  cases r with
  | cons h t=>exact .cons (Zf5 h) (Zlp t)
abbrev KT (H:Hp):List (List Key×V)→List (List Key×Addr×Value)→Prop:=Paired fun p q=>p.1=q.1∧H q.2.1=some (.tup (p.1.map kV))∧Yg p.2 q.2.2
theorem KT.val {H:Hp}{kvs:List (List Key×V)}{xs:List (List Key×Addr×Value)}(r:KT H kvs xs)(k:List Key):RelO (valV kvs k) ((atKey xs k).map (·.2)):=by
 induction r with
 | nil=>exact True.intro
 | @cons p q ps qs h t ih=>
  obtain⟨h1,_,h2⟩:=h
  by_cases e:p.1=k
  ·have e':q.1=k:=h1.symm.trans e
   have b:atKey (q::qs) k=some q.2:=by simp[atKey,List.find?_cons,e']
   rw[Zgs e,b];exact h2
  ·have e':¬q.1=k:=fun z=>e (h1.trans z)
   have b:atKey (q::qs) k=atKey qs k:=by simp[atKey,List.find?_cons,e']
   rw[Zgt e,b];exact ih
theorem KT.repl {H:Hp}{kvs:List (List Key×V)}{xs:List (List Key×Addr×Value)}(r:KT H kvs xs)(k:List Key){y:V}{u:Value}(ry:Yg y u):
  KT H (kvs.map fun kv=>if kv.1=k then(kv.1,y) else kv) (xs.map (putAt k u)):=by
 induction r with
 | nil=>exact .nil
 | @cons p q ps qs h t ih=>
  rw[YI,YI]
  refine .cons ?_ ih
  obtain⟨h1,h2,h3⟩:=h
  unfold putAt
  by_cases e:p.1=k
  ·rw[XY e,XY (h1.symm.trans e)];exact⟨h1,h2,ry⟩
  ·rw[XX e,XX (fun z=>e (h1.trans z))];exact⟨h1,h2,h3⟩
theorem KT.put {H:Hp}{kvs:List (List Key×V)}{xs:List (List Key×Addr×Value)}(r:KT H kvs xs)(k:List Key){b:Addr}{y:V}{u:Value}(hb:H b=some (.tup (k.map kV)))(ry:Yg y u):
  KT H (putK kvs k y) (storedH xs k b u):=by
 have e:(kvs.any fun kv=>decide (kv.1=k))=(atKey xs k).isSome:=by
  rw[Zn8,(r.val k).isSome_eq,Option.isSome_map]
 unfold putK storedH
 rw[e]
 by_cases q:(atKey xs k).isSome=true
 ·rw[XY q,XY q];exact r.repl k ry
 ·rw[XX q,XX q];exact Paired.snoc r ⟨rfl,hb,ry⟩
theorem KT.keeps {H H':Hp}{kvs:List (List Key×V)}{xs:List (List Key×Addr×Value)}(r:KT H kvs xs)(ht:∀b ys,H b=some (.tup ys)→H' b=some (.tup ys)):KT H' kvs xs:=
 Paired.mapP r fun _ _ z=>⟨z.1,ht _ _ z.2.1,z.2.2⟩
section
variable {P:Program}{w:World}{H:Hp}{h:Heap}{a:Addr}
theorem Z02 {u:HO}(ok:HOk P w H h)(e:Rd H a u):Xl P w H h a u:=e.ok ok
theorem Zf7 {kvs:List (Key×V)}(ok:HOk P w H h)(e:Rd H a (.dK kvs)):kvs.length≤sizeLine∧(a==sysModules)=false∧∃vs,KV kvs vs∧h.DictOf (Jf P w) a vs:=
 show Xl P w H h a (.dK kvs) from Z02 ok e
theorem Zsi {kvs:List (Key×V)}(ok:HOk P w H h)(e:H a=some (.dK kvs)):kvs.length≤sizeLine∧(a==sysModules)=false∧∃vs,KV kvs vs∧h.DictOf (Jf P w) a vs:=Zf7 ok (.inl e)
theorem Zh4 {ks:List Key}(ok:HOk P w H h)(e:H a=some (.tup (ks.map kV))):(tupleKind (Jf P w)).is h ks a:=by
 obtain⟨_,its,r,o,h1,h2,n,h3⟩:=(show Xl P w H h a (.tup (ks.map kV)) from ok a _ e)
 exact⟨o,its.toArray,n,h1,h2,h3,by simpa using Zlp r⟩
theorem Zj7 {kvs:List (List Key×V)}(ok:HOk P w H h)(e:Rd H a (.dT kvs)):kvs.length≤sizeLine∧(a==sysModules)=false∧
  ∃xs,KT H kvs xs∧h.DictOfH (tupleKind (Jf P w)) a xs:=by
 obtain⟨z,y,xs,r,o,es,ep,h1,h2,h3,h4,h5⟩:=(show Xl P w H h a (.dT kvs) from Z02 ok e)
 refine⟨z,y,xs,r,o,es,ep,h1,h2,h3,h4,fun x hx=>?_,h5⟩
 have all:∀{l:List (List Key×V)} {m:List (List Key×Addr×Value)},KT H l m→∀x∈m,(tupleKind (Jf P w)).is h x.1 x.2.1:=by
  intro l m q
  induction q with
  | nil=>intro x hx;exact nomatch hx
  | @cons p q ps qs hq t ih=>
   intro x hx
   rcases List.mem_cons.mp hx with e | hx
   ·subst e
    exact Zh4 ok (by rw[←hq.1];exact hq.2.1)
   ·exact ih x hx
 exact all r x hx
theorem dt_of {kvs:List (List Key×V)}(ok:HOk P w H h)(e:H a=some (.dT kvs)):kvs.length≤sizeLine∧(a==sysModules)=false∧
  ∃xs,KT H kvs xs∧h.DictOfH (tupleKind (Jf P w)) a xs:=Zj7 ok (.inl e)
end
def DGet (H:Hp)(a:Addr)(y:V)(r:Option V):Prop:=
 (∃kvs k,Rd H a (.dK kvs)∧y=kV k∧r=valV kvs k)∨∃kvs k b,Rd H a (.dT kvs)∧y=.ref b∧H b=some (.tup (k.map kV))∧r=valV kvs k
def DPut (H:Hp)(a:Addr)(y v:V)(H':Hp):Prop:=
 (∃kvs k,H a=some (.dK kvs)∧y=kV k∧kvs.length<sizeLine∧H'=upd H a (.dK (putK kvs k v)))∨
 ∃kvs k b,H a=some (.dT kvs)∧y=.ref b∧H b=some (.tup (k.map kV))∧kvs.length<sizeLine∧H'=upd H a (.dT (putK kvs k v))
theorem DPut.k {H:Hp}{a:Addr}{kvs:List (Key×V)}{k:Key}{v:V}(e:H a=some (.dK kvs))(hl:kvs.length<sizeLine):DPut H a (kV k) v (upd H a (.dK (putK kvs k v))):=.inl ⟨kvs,k,e,rfl,hl,rfl⟩
section
variable {X:Cx}{pins:List (Addr×Obj)}{σ:St}{H:Hp}{s:Shared}{a:Addr}{y v:V}{u r:Value}{o:Option V}{A:Around}{E:Value→Shared→Prop}
theorem Inv.big (I:Inv X pins σ H s):sysModules<s.heap.objs.size:=by
 have h:mainGlobals<s.heap.objs.size:=(I.mod.glob.keeps I.bk).lt
 exact Nat.lt_trans (by decide) h
theorem Zt1 {Q:Value→Shared→Prop}(hu:A.units+1<cLine)(I:Inv X pins σ H s)(g:DGet H a y (some v))(ry:Yg y u)(h:∀w' s',Inv X pins σ H s'→Yg v w'→Q w' s'):
  wpAny (model X.prog X.w) A (getItem (.ref a) u) Q E s:=by
 rcases g with⟨kvs,k,e,ey,l⟩ | ⟨kvs,k,b,e,ey,eb,l⟩
 ·subst ey
  obtain⟨z,hd,vs,rel,dd⟩:=Zf7 I.hok e
  obtain⟨w',hw,rw'⟩:=RelO.some_of (v:=v) (o:=valueAt vs k) (by rw[l];exact rel.val k)
  exact wpAny_getItem_of (Zf5 ry) dd.mapOf hw (h w' _ (I.tok _) rw')
 ·subst ey
  cases (show u=Value.ref b from ry)
  obtain⟨z,hd,xs,rel,dd⟩:=Zj7 I.hok e
  obtain⟨w',hw,rw'⟩:=RelO.some_of (v:=v) (o:=(atKey xs k).map (·.2)) (by rw[l];exact rel.val k)
  obtain⟨p,hp,hp2⟩:=Option.map_eq_some_iff.mp hw
  refine wpAny_getItem_heap (tupleKind_room_in1 hu) (Zh4 I.hok eb) dd hp ?_
  rw[hp2]
  exact h w' _ (I.tok _) rw'
theorem d_in {Q:Value→Shared→Prop}(hu:A.units+1<cLine)(I:Inv X pins σ H s)(g:DGet H a y o)(ry:Yg y u)(h:∀s',Inv X pins σ H s'→Q (.bool o.isSome) s'):
  wpAny (model X.prog X.w) A (compareOp .In u (.ref a)) Q E s:=by
 rcases g with⟨kvs,k,e,ey,l⟩ | ⟨kvs,k,b,e,ey,eb,l⟩
 ·subst ey
  obtain⟨z,hd,vs,rel,dd⟩:=Zf7 I.hok e
  refine wpAny_in_of (Zf5 ry) hd dd.mapOf ?_
  rw[←(rel.val k).isSome_eq,←l]
  exact h _ (I.tok _)
 ·subst ey
  cases (show u=Value.ref b from ry)
  obtain⟨z,hd,xs,rel,dd⟩:=Zj7 I.hok e
  refine wpAny_in_heap (tupleKind_room_in1 hu) (Zh4 I.hok eb) hd dd ?_
  have q:=(rel.val k).isSome_eq
  rw[Option.isSome_map] at q
  rw[←q,←l]
  exact h _ (I.tok _)
theorem Z0h {Q:Value→Shared→Prop}(hu:A.units+1<cLine)(I:Inv X pins σ H s)(g:DGet H a y o)(ry:Yg y u)(h:∀s',Inv X pins σ H s'→Q (.bool (!o.isSome)) s'):
  wpAny (model X.prog X.w) A (compareOp .NotIn u (.ref a)) Q E s:=by
 rcases g with⟨kvs,k,e,ey,l⟩ | ⟨kvs,k,b,e,ey,eb,l⟩
 ·subst ey
  obtain⟨z,hd,vs,rel,dd⟩:=Zf7 I.hok e
  refine wpAny_notIn_of (Zf5 ry) hd dd.mapOf ?_
  rw[←(rel.val k).isSome_eq,←l]
  exact h _ (I.tok _)
 ·subst ey
  cases (show u=Value.ref b from ry)
  obtain⟨z,hd,xs,rel,dd⟩:=Zj7 I.hok e
  refine wpAny_notIn_heap (tupleKind_room_in1 hu) (Zh4 I.hok eb) hd dd ?_
  have q:=(rel.val k).isSome_eq
  rw[Option.isSome_map] at q
  rw[←q,←l]
  exact h _ (I.tok _)
theorem Zi1 {h':Heap}{t':Nat}{ob:HO}(I:Inv X pins σ H s)(mu:Mut (H a))(hs:Heap.SameBut a s.heap h')(he:∃q,h'.get? a=some q)(new:Xl X.prog X.w (upd H a ob) h' a ob):
  Inv X pins σ (upd H a ob) {s with heap:=h',toks:=t'}:=
 I.write (x:=a) (e:=a) mu (.inl rfl) (fun b q hb z=>(hs.2 b hb).trans z) he new
theorem Zka {P:Program}{w:World}{H':Hp}{h':Heap}{kvs:List (Key×V)}{vs:List (Key×Value)}(z:kvs.length≤sizeLine)(hd:(a==sysModules)=false)(rel:KV kvs vs)(dd:h'.DictOf (Jf P w) a vs):
  Xl P w H' h' a (.dK kvs):=⟨z,hd,vs,rel,dd⟩
theorem Zt0 {H':Hp}{Q:Unit→Shared→Prop}(hu:A.units+1<cLine)(I:Inv X pins σ H s)(g:DPut H a y v H')(ry:Yg y u)(rv:Yg v r)(h:∀s',Inv X pins σ H' s'→Q () s'):
  wpAny (model X.prog X.w) A (setItem (.ref a) u r) Q E s:=by
 rcases g with⟨kvs,k,e,ey,l,eH⟩ | ⟨kvs,k,b,e,ey,eb,l,eH⟩
 ·subst ey eH
  obtain⟨z,hd,vs,rel,dd⟩:=Zsi I.hok e
  have hz:vs.length≤sizeLine:=by rw[←rel.length];exact z
  have hl:(putK kvs k v).length≤sizeLine:=by have:=Ze5 kvs k v;omega
  refine wpAny_setItem_pairs (hsz:=hz) (Zf5 ry) dd fun h' dd' hs=>h _ ?_
  have he:∃q,h'.get? a=some q:=let ⟨q,_,_,hq,_⟩:=dd';⟨q,hq⟩
  exact Zi1 I (by rw[e];exact True.intro) hs he (Zka hl hd (rel.put k rv) dd')
 ·subst ey eH
  cases (show u=Value.ref b from ry)
  obtain⟨z,hd,xs,rel,dd⟩:=dt_of I.hok e
  have hz:xs.length≤sizeLine:=by rw[←Paired.length rel];exact z
  have hl:(putK kvs k v).length≤sizeLine:=by have:=Ze5 kvs k v;omega
  refine wpAny_setItem_heap (hsz:=hz) (tupleKind_room_in1 hu) (Zh4 I.hok eb) dd fun h' dd' hs=>h _ ?_
  obtain⟨q,es,ep,hq,h2,h3,h4,_,h5⟩:=dd'
  refine Zi1 I (by rw[e];exact True.intro) hs ⟨q,hq⟩ ⟨hl,hd,_,(rel.put k eb rv).keeps fun c ys ec=>?_,q,es,ep,hq,h2,h3,h4,h5⟩
  rw[Yc (ne_of ec e (fun z=>nomatch z))]
  exact ec
end
section
variable {X:Cx}{pins:List (Addr×Obj)}{σ:St}{H:Hp}{s:Shared}{a:Addr}{kvs:List (Key×V)}{k:Key}{u:Value}{A:Around}{E:Value→Shared→Prop}
theorem d_pop {v:V}{more:List Value}{Q:Value→Shared→Prop}(I:Inv X pins σ H s)(e:H a=some (.dK kvs))(ry:Yg (kV k) u)(l:valV kvs k=some v)(hm:more=[]∨∃x,more=[x])
  (h:∀w' s',Inv X pins σ (upd H a (.dK (Zhk kvs k))) s'→Yg v w'→Q w' s'):wpAny (model X.prog X.w) A (call (.builtin "dict.pop") (.ref a::u::more)) Q E s:=by
 obtain⟨z,hd,vs,rel,dd⟩:=Zsi I.hok e
 obtain⟨w',hw,rw'⟩:=RelO.some_of (v:=v) (o:=valueAt vs k) (by rw[←l];exact rel.val k)
 have hp:(keyPart u).isSome=true:=by
  cases k with
  | inl i=>obtain⟨t,q⟩:=(show ∃t,u=Value.int i t from ry);subst q;rfl
  | inr x=>obtain⟨t,q⟩:=(show ∃t,u=Value.str x t from ry);subst q;rfl
 have ha:argsOk "dict.pop" ⟨.ref a::u::more,[]⟩:=by
  rcases hm with q | ⟨x,q⟩
  ·subst q;exact PySem.F.args_dict_pop_2 _ _
  ·subst q;exact PySem.F.args_dict_pop_3 _ _ _
 refine call_meetsIn PySem.F.slot_dict_pop dd.typeIs PySem.F.entry_dict_pop ha (meets_dict_pop_there (Jf X.prog X.w) a (Zf5 ry) more hm hp)
  ⟨vs,w',dd,by rw[←rel.length];exact z,hw,fun h' dd' hs=>h w' _ ?_ rw'⟩
 have he:∃q,h'.get? a=some q:=let ⟨q,_,_,hq,_⟩:=dd';⟨q,hq⟩
 exact Zi1 I (by rw[e];exact True.intro) hs he (Zka (XN (Zxc kvs k) z) hd (rel.drop k) dd')
theorem Z4a {r:Value}{Q:Value→Shared→Prop}(I:Inv X pins σ H s)(e:H a=some (.dK kvs))(ry:Yg (kV k) u)(l:valV kvs k=none)(h:∀s',Inv X pins σ H s'→Q r s'):
  wpAny (model X.prog X.w) A (call (.builtin "dict.pop") [.ref a,u,r]) Q E s:=by
 obtain⟨z,hd,vs,rel,dd⟩:=Zsi I.hok e
 have hn:valueAt vs k=none:=RelO.none_of (by rw[←l];exact rel.val k)
 have hp:(keyPart u).isSome=true:=by
  cases k with
  | inl i=>obtain⟨t,q⟩:=(show ∃t,u=Value.int i t from ry);subst q;rfl
  | inr x=>obtain⟨t,q⟩:=(show ∃t,u=Value.str x t from ry);subst q;rfl
 exact call_meetsIn PySem.F.slot_dict_pop dd.typeIs PySem.F.entry_dict_pop (PySem.F.args_dict_pop_3 _ _ _) (meets_dict_pop_default (Jf X.prog X.w) a (Zf5 ry) hd hp r) ⟨vs,dd,hn,h _ (I.tok _)⟩
end
def NoSl (i:Expr):Prop:=∀ov iv,subscripted i false ov iv=operate [ov,iv] (getItem ov iv)
theorem Zyb {prog:Program}{w:World}{A:Around}{E:Value→Shared→Prop}{s:Shared}{env:Env}{value slice:Expr}{pos:Pos}{T id:String}{Q:Value→Shared→Prop}
  (hl:typeLookup (.type T) "__getitem__"=pure (some (.builtin id))) (hs:NoSl slice)
  (h:wpAny (model prog w) A (eval value env) (fun o s₁=>wpAny (model prog w) A (eval slice env) (fun i s₂=>s₂.TypeIs o T∧wpAny (model prog w) A (getItem o i) Q E s₂) E s₁) E s):
  wpAny (model prog w) A (eval (.Subscript value slice pos) env) Q E s:=by
 refine Subscript_ (wpAny_mono h (fun o s₁ h₁=>wpAny_mono h₁ (fun i s₂ h₂=>?_) fun _ _ x=>x) fun _ _ x=>x)
 obtain⟨hT,h₂⟩:=h₂
 unfold subscriptTail
 refine XA ?_
 rw[getitemInPython_of_ne hT.not_modules]
 refine XA (wpAny_specialOf hT hl ?_)
 have fin:wpAny (model prog w) A (subscripted slice false o i) (fun r s₃=>wpAny (model prog w) A (letTemporaryGo value o r>>=fun _=>pure r) Q E s₃) E s₂:=by
  rw[hs o i]
  exact wpAny_operating (wpAny_mono h₂ (fun r s₃ h₃=>XA (wpAny_letTemporaryGo (XB h₃))) fun _ _ x=>x)
 first
  | exact XB (XA fin)
  | exact XA (XB (XA fin))
  | exact XA fin
theorem Zps {X:Cx}{pins:List (Addr×Obj)}{σ:St}{H:Hp}{s:Shared}{a:Addr}{y:V}{o:Option V}(I:Inv X pins σ H s)(g:DGet H a y o):s.TypeIs (.ref a) "dict":=by
 rcases g with⟨kvs,k,e,_,_⟩ | ⟨kvs,k,b,e,_,_,_⟩
 ·obtain⟨_,_,vs,_,dd⟩:=Zf7 I.hok e
  exact dd.typeIs
 ·obtain⟨_,_,xs,_,dd⟩:=Zj7 I.hok e
  exact dd.typeIs
def tDGet (td ty:TE):TE:=fun σ H Q=>td σ H fun x H1=>ty σ H1 fun y H2=>∃a v,x=.ref a∧DGet H2 a y (some v)∧Q v H2
def tDIn (ty td:TE):TE:=fun σ H Q=>ty σ H fun y H1=>td σ H1 fun x H2=>∃a o,x=.ref a∧DGet H2 a y o∧Q (.bl o.isSome) H2
def sDPut (td ty tv:TE):TS:=fun D σ H=>tv σ H fun v H1=>td σ H1 fun x H2=>ty σ H2 fun y H3=>∃a H4,x=.ref a∧DPut H3 a y v H4∧D.nx σ H4
def sDAug (td ty tv:TE)(rd:V→V→Hp→VK→Prop):TS:=fun D σ H=>td σ H fun x H1=>ty σ H1 fun y H2=>∃a v,x=.ref a∧DGet H2 a y (some v)∧
 tv σ H2 fun y2 H3=>rd v y2 H3 fun z H4=>∃H5,DPut H4 a y z H5∧D.nx σ H5
def sDDel (td ty:TE):TS:=fun D σ H=>td σ H fun x H1=>ty σ H1 fun y H2=>∃a kvs k,x=.ref a∧H2 a=some (.dK kvs)∧y=kV k∧(valV kvs k).isSome=true∧D.nx σ (upd H2 a (.dK (Zhk kvs k)))
section
variable {X:Cx}{o i e value:Expr}{pos pos' tpos:Pos}{td ty tv:TE}
theorem Zzb (hu:X.A.units+1<cLine)(ho:PE X o td)(hi:PE X i ty)(hs:NoSl i):PE X (.Subscript o i pos) (tDGet td ty):=by
 intro pins s σ H Q I h
 refine Zyb PySem.F.slot_dict_getitem.lookup hs (thn (ho pins s σ H _ I h) fun u s1 ⟨x,H1,I1,rx,q1⟩=>thn (hi pins s1 σ H1 _ I1 q1) fun iv s2 ⟨y,H2,I2,ry,a,v,ex,g,q2⟩=>?_)
 subst ex
 obtain rfl:u=Value.ref a:=rx
 exact⟨Zps I2 g,Zt1 hu I2 g ry fun w' s3 I3 rw'=>⟨v,H2,I3,rw',q2⟩⟩
end
theorem Zpr {P:Program}{w:World}{H:Hp}(h:Heap)(hb:sysModules<h.objs.size):Xl P w H (h.push {cls:=.type "dict",data:=.dict #[]}) h.objs.size (.dK []):=
 ⟨XO _,beq_eq_false_iff_ne.mpr (Ne.symm (XH hb)),[],.nil,Heap.DictOf.new h⟩
def Z1q:TE:=fun _ H Q=>∀p,H p=none→Q (.ref p) (upd H p (.dK []))
section
variable {X:Cx}{pos:Pos}
theorem Zvy:PE X (.Dict [] [] pos) Z1q:=fun pins s σ H Q I h=>
 wpAny_Dict_empty ⟨.ref s.heap.objs.size,_,I.laid (a:=s.heap.objs.size) (o:=.dK []) (t':=s.toks) (fun _ _ q=>XC _ q) (XE _) (Zpr s.heap I.big),rfl,h _ (I.hok.fresh (XE _))⟩
end
def Zqa:List (TE×TE)→St→Hp→(List (V×V)→Hp→Prop)→Prop
 | [],_,H,Q=>Q [] H
 | (tk,tv)::r,σ,H,Q=>tk σ H fun x H1=>tv σ H1 fun y H2=>Zqa r σ H2 fun ps H3=>Q ((x,y)::ps) H3
abbrev VV:List (V×V)→List (Value×Value)→Prop:=Paired fun p q=>Yg p.1 q.1∧Yg p.2 q.2
def PPs (X:Cx)(pos:Pos)(keys:List (Option Expr))(values:List Expr)(trs:List (TE×TE)):Prop:=
 ∀(pins:List (Addr×Obj)) (s:Shared) (σ:St) (H:Hp) (Q:List (V×V)→Hp→Prop),Inv X pins σ H s→Zqa trs σ H Q→
  wpAny (model X.prog X.w) X.A (evalPairs (pairTrees keys values X.env pos)) (fun vs s'=>∃ps H',Inv X pins σ H' s'∧VV ps vs∧Q ps H') X.xe s
theorem Zy3 {X:Cx}{pos:Pos}:PPs X pos [] [] []:=fun pins s σ H Q I h=>pairTrees_nil_walk ⟨[],H,I,.nil,h⟩
theorem Zvr {X:Cx}{pos:Pos}{k v:Expr}{ks:List (Option Expr)}{vs:List Expr}{tk tv:TE}{trs:List (TE×TE)}(hk:PE X k tk)(hv:PE X v tv)(hr:PPs X pos ks vs trs):
  PPs X pos (some k::ks) (v::vs) ((tk,tv)::trs):=fun pins s σ H Q I h=>
 pairTrees_cons_walk (thn (hk pins s σ H _ I h) fun u s1 ⟨x,H1,I1,rx,q1⟩=>thn (hv pins s1 σ H1 _ I1 q1) fun w2 s2 ⟨y,H2,I2,ry,q2⟩=>
  thn (hr pins s2 σ H2 _ I2 q2) fun ws s3 ⟨ps,H3,I3,rel,q3⟩=>⟨(x,y)::ps,H3,I3,.cons ⟨rx,ry⟩ rel,q3⟩)
def Zjt (kvs more:List (Key×V)):List (Key×V):=more.foldl (fun acc kv=>putK acc kv.1 kv.2) kvs
theorem KV.merge:∀{more:List (Key×V)} {rs:List (Key×Value)} {kvs:List (Key×V)} {vs:List (Key×Value)},KV more rs→KV kvs vs→KV (Zjt kvs more) (merged vs rs):=by
 intro more rs kvs vs r
 unfold KV at r
 induction r generalizing kvs vs with
 | nil=>intro q;exact q
 | @cons p q ps qs h t ih=>
  intro r0
  have e:KV (putK kvs p.1 p.2) (stored vs q.1 q.2):=by
   have:=r0.put p.1 h.2
   rw[←h.1];exact this
  exact ih e
theorem Zf3:∀(more kvs:List (Key×V)),(Zjt kvs more).length≤kvs.length+more.length
 | [],kvs=>by show kvs.length≤kvs.length+0;omega
 | p::r,kvs=>by
  have h1:=Zf3 r (putK kvs p.1 p.2)
  have h2:=Ze5 kvs p.1 p.2
  show(Zjt (putK kvs p.1 p.2) r).length≤_
  rw[YF];omega
theorem Zkh {P:Program}{w:World}:∀{kvs:List (Key×V)} {ws:List (Value×Value)},VV (kvs.map fun kv=>(kV kv.1,kv.2)) ws→∃rs,Carries (Jf P w) ws rs∧KV kvs rs
 | [],_,r=>by rw[List.map_nil] at r;cases r;exact⟨[],True.intro,.nil⟩
 | p::kvs,_,r=>by
  rw[YI] at r
  cases r with
  | @cons a b as bs h t=>
   obtain⟨rs,c,q⟩:=Zkh (P:=P) (w:=w) t
   obtain⟨b1,b2⟩:=b
   exact⟨(p.1,b2)::rs,⟨Zf5 h.1,rfl,c⟩,.cons ⟨rfl,h.2⟩ q⟩
def tDisp (trs:List (TE×TE)):TE:=fun σ H Q=>∀p,H p=none→Zqa trs σ (upd H p (.dK [])) fun ps H2=>H2 p=some (.dK [])∧∃kvs:List (Key×V),ps=kvs.map (fun kv=>(kV kv.1,kv.2))∧kvs.length≤15∧Q (.ref p) (upd H2 p (.dK (Zjt [] kvs)))
theorem Zza {X:Cx}{pos:Pos}{keys:List (Option Expr)}{values:List Expr}{trs:List (TE×TE)}(h:PPs X pos keys values trs)(hall:keys.all (·.isSome)=true)(hl:keys.length=values.length)(h0:keys≠[])
  (h15:keys.length≤15):PE X (.Dict keys values pos) (tDisp trs):=by
 intro pins s σ H Q I q
 have hn:=I.hok.fresh (XE s.heap.objs.size)
 have I1:=I.laid (a:=s.heap.objs.size) (o:=.dK []) (h':=s.heap.push {cls:=.type "dict",data:=.dict #[]}) (t':=s.toks) (fun _ _ q=>XC _ q) (XE _) (Zpr s.heap I.big)
 refine wpAny_Dict_walk (knd:=Jf X.prog X.w) hall hl h0 h15 (thn (h pins _ σ _ _ I1 (q _ hn)) fun ws s2 ⟨ps,H2,I2,rel,e,kvs,ep,lk,q2⟩=>?_)
 subst ep
 obtain⟨rs,c,rk⟩:=Zkh (P:=X.prog) (w:=X.w) rel
 obtain⟨z,hd,vs0,r0,dd⟩:=Zsi I2.hok e
 cases r0
 refine⟨rs,c,dd,fun h' dd' hs=>⟨.ref s.heap.objs.size,_,?_,rfl,q2⟩⟩
 have hz:(Zjt [] kvs).length≤sizeLine:=by
  have h1:=Zf3 kvs []
  rw[List.length_nil] at h1
  rw[sizeLine_eq];omega
 have he:∃q,h'.get? s.heap.objs.size=some q:=let ⟨q,_,_,hq,_⟩:=dd';⟨q,hq⟩
 exact Zi1 I2 (by rw[e];exact True.intro) hs he (Zka hz hd (rk.merge .nil) dd')
structure M1 (X:Cx)(o:Expr)(m:Str)(apos:Pos)(e:Expr)(cpos:Pos):Prop where
 base:attributeBase o m X.env (eval o X.env)=eval o X.env
 few:((backTo cpos (starEach [e] X.env)).all (fun x=>!x.1)&&(backToKw cpos (keywordEach [] X.env)).all (fun x=>x.1.isSome)
  &&decide (([e]:List Expr).length+([]:List Keyword).length+(if ([]:List Keyword).isEmpty then 0 else 1)<30))=true
 line:(apos.endLine==cpos.line)=true
 trees:backTo cpos (starEach [e] X.env)=[(false,eval e X.env)]
structure M2 (X:Cx)(o:Expr)(m:Str)(apos:Pos)(e f:Expr)(cpos:Pos):Prop where
 base:attributeBase o m X.env (eval o X.env)=eval o X.env
 few:((backTo cpos (starEach [e,f] X.env)).all (fun x=>!x.1)&&(backToKw cpos (keywordEach [] X.env)).all (fun x=>x.1.isSome)
  &&decide (([e,f]:List Expr).length+([]:List Keyword).length+(if ([]:List Keyword).isEmpty then 0 else 1)<30))=true
 line:(apos.endLine==cpos.line)=true
 trees:backTo cpos (starEach [e,f] X.env)=[(false,eval e X.env),(false,eval f X.env)]
def IsD (H:Hp)(a:Addr):Prop:=(∃kvs,Rd H a (.dK kvs))∨∃kvs,Rd H a (.dT kvs)
theorem Zwt {X:Cx}{pins:List (Addr×Obj)}{σ:St}{H:Hp}{s:Shared}{a:Addr}(I:Inv X pins σ H s)(d:IsD H a):
  s.TypeIs (.ref a) "dict"∧(∀b,Value.ref a=.ref b→∃ob,s.heap.get? b=some ob∧ob.dict=none)∧(a==sysModules)=false:=by
 rcases d with⟨kvs,e⟩ | ⟨kvs,e⟩
 ·obtain⟨_,hd,vs,_,dd⟩:=Zf7 I.hok e
  refine⟨dd.typeIs,fun b q=>?_,hd⟩
  cases q
  obtain⟨ob,_,_,h1,h2,_⟩:=dd
  exact⟨ob,h1,h2.2.1⟩
 ·obtain⟨_,hd,xs,_,dd⟩:=Zj7 I.hok e
  refine⟨dd.typeIs,fun b q=>?_,hd⟩
  cases q
  obtain⟨ob,_,_,h1,h2,_⟩:=dd
  exact⟨ob,h1,h2.2.1⟩
section
variable {X:Cx}{pins:List (Addr×Obj)}{σ:St}{H:Hp}{s:Shared}{a:Addr}{y d:V}{u r:Value}{o:Option V}{A:Around}{E:Value→Shared→Prop}
theorem Z4c {Q:Value→Shared→Prop}(hu:A.units+1<cLine)(I:Inv X pins σ H s)(g:DGet H a y o)(ry:Yg y u)(h:∀w' s',Inv X pins σ H s'→Yg (o.getD .non) w'→Q w' s'):
  wpAny (model X.prog X.w) A (call (.builtin "dict.get") [.ref a,u]) Q E s:=by
 rcases g with⟨kvs,k,e,ey,l⟩ | ⟨kvs,k,b,e,ey,eb,l⟩
 ·subst ey
  obtain⟨z,hd,vs,rel,dd⟩:=Zf7 I.hok e
  refine call_meetsIn PySem.F.slot_dict_get dd.typeIs PySem.F.entry_dict_get (PySem.F.args_dict_get_2 _ _) (meets_dict_get (Jf X.prog X.w) a (Zf5 ry) hd) ⟨_,dd.mapOf,h _ _ (I.tok _) ?_⟩
  rw[l]
  exact(rel.val k).getD rfl
 ·subst ey
  cases (show u=Value.ref b from ry)
  obtain⟨z,hd,xs,rel,dd⟩:=Zj7 I.hok e
  refine call_meetsIn PySem.F.slot_dict_get dd.typeIs PySem.F.entry_dict_get (PySem.F.args_dict_get_2 _ _) (meetsH_dict_get (tupleKind (Jf X.prog X.w)) a b hd) ⟨tupleKind_room_in1 hu,k,xs,Zh4 I.hok eb,dd,h _ _ (I.tok _) ?_⟩
  rw[l]
  exact(rel.val k).getD rfl
end
def Z1r (td ty:TE):TE:=fun σ H Q=>td σ H fun x H1=>∃a,x=.ref a∧IsD H1 a∧ty σ H1 fun y H2=>∃o,DGet H2 a y o∧Q (o.getD .non) H2
def tDPop1 (td ty:TE):TE:=fun σ H Q=>td σ H fun x H1=>∃a,x=.ref a∧IsD H1 a∧ty σ H1 fun y H2=>∃kvs k v,H2 a=some (.dK kvs)∧y=kV k∧valV kvs k=some v∧Q v (upd H2 a (.dK (Zhk kvs k)))
def Z1p (td ty tx:TE):TE:=fun σ H Q=>td σ H fun x H1=>∃a,x=.ref a∧IsD H1 a∧ty σ H1 fun y H2=>tx σ H2 fun z H3=>∃kvs k,H3 a=some (.dK kvs)∧y=kV k∧
 (∀v,valV kvs k=some v→Q v (upd H3 a (.dK (Zhk kvs k))))∧(valV kvs k=none→Q z H3)
section
variable {X:Cx}{o e f:Expr}{apos cpos:Pos}{td ty tx:TE}
theorem Zvz (hu:X.A.units+1<cLine)(ho:PE X o td)(he:PE X e ty)(m:M1 X o "get" apos e cpos):PE X (.Call (.Attribute o "get" apos) [e] [] cpos) (Z1r td ty):=by
 intro pins s σ H Q I h
 refine wpAny_Call_method m.base m.few m.line PySem.F.plainAttrs_dict PySem.F.slot_dict_get PySem.F.type_dict_get (thn (ho pins s σ H _ I h) fun u s1 ⟨x,H1,I1,rx,a,ex,d,q1⟩=>?_)
 subst ex
 obtain rfl:u=Value.ref a:=rx
 obtain⟨t1,t2,_⟩:=Zwt I1 d
 refine⟨t1,t2,?_⟩
 rw[m.trees]
 refine Calls.callWith_builtin rfl (Calls.evalArgs_plain (Calls.spliced_cons (thn (he pins s1 σ H1 _ I1 q1) fun iv s2 ⟨y,H2,I2,ry,ov,g,q2⟩=>Calls.spliced_nil ?_)))
 exact Z4c hu I2 g ry fun w' s3 I3 rw'=>⟨_,H2,I3,rw',q2⟩
theorem Zvx (ho:PE X o td)(he:PE X e ty)(hf:PE X f tx)(m:M2 X o "pop" apos e f cpos):PE X (.Call (.Attribute o "pop" apos) [e,f] [] cpos) (Z1p td ty tx):=by
 intro pins s σ H Q I h
 refine wpAny_Call_method m.base m.few m.line PySem.F.plainAttrs_dict PySem.F.slot_dict_pop PySem.F.type_dict_pop (thn (ho pins s σ H _ I h) fun u s1 ⟨x,H1,I1,rx,a,ex,d,q1⟩=>?_)
 subst ex
 obtain rfl:u=Value.ref a:=rx
 obtain⟨t1,t2,_⟩:=Zwt I1 d
 refine⟨t1,t2,?_⟩
 rw[m.trees]
 refine Calls.callWith_builtin rfl (Calls.evalArgs_plain (Calls.spliced_cons (thn (he pins s1 σ H1 _ I1 q1) fun iv s2 ⟨y,H2,I2,ry,q2⟩=>
  Calls.spliced_cons (thn (hf pins s2 σ H2 _ I2 q2) fun fv s3 ⟨z,H3,I3,rz,kvs,k,ea,ey,q3,q4⟩=>Calls.spliced_nil ?_))))
 subst ey
 cases l:valV kvs k with
 | some v=>exact d_pop I3 ea ry l (.inr ⟨fv,rfl⟩) fun w' s4 I4 rw'=>⟨v,_,I4,rw',q3 v l⟩
 | none=>exact Z4a I3 ea ry l fun s4 I4=>⟨z,H3,I4,rz,q4 l⟩
end
section
variable {X:Cx}{pins:List (Addr×Obj)}{σ:St}{H:Hp}{s:Shared}{a:Addr}{kvs:List (Key×V)}{A:Around}{E:Value→Shared→Prop}
theorem Zxk {Q:Value→Shared→Prop}(I:Inv X pins σ H s)(e:Rd H a (.dK kvs))(h:∀p s',H p=none→Inv X pins σ (upd H p (.dK kvs)) s'→Q (.ref p) s'):wpAny (model X.prog X.w) A (call (.type "dict") [.ref a]) Q E s:=by
 obtain⟨z,hd,vs,rel,dd⟩:=Zf7 I.hok e
 refine kt_call_dict hd dd (by rw[←rel.length];exact z) fun h' dd' hs=>?_
 refine h _ _ (I.hok.fresh (XE _)) (I.laid (a:=s.heap.objs.size) (o:=.dK kvs) (t':=s.toks) (fun b q hq=>?_) (XE _) (Zka z (beq_eq_false_iff_ne.mpr (Ne.symm (XH I.big))) rel dd'))
 exact(hs.2 b (XH (XD hq))).trans (XC _ hq)
end
section
variable {X:Cx}{pins:List (Addr×Obj)}{σ:St}{H:Hp}{s:Shared}{a:Addr}{y:V}{u:Value}{A:Around}{E:Value→Shared→Prop}
end
end L2
namespace WL
open PySem PySem.Spec PyProof.Rows L2
def Zht (c:WT)(b:WS)(D:We):Nat→Sw→Hw→Prop
 | 0,_,_=>False
 | n+1,τ,C=>c τ C (fun k C1=>if k=true then b {D with nx:=Zht c b D n,ct:=Zht c b D n,bk:=D.nx} τ C1 else D.nx τ C1) D.xc
def Zjd (c:WT)(b:WS):WS:=fun D τ C=>∃n,Zht c b D n τ C
theorem Zs0 {K:W.Frag}{c:TT}{tb:TS}{c':WT}{b':WS}(hc:SimT K c c')(hb:SimS K tb b'):SimS K (Zul c tb) (Zjd c' b'):=fun F H C σ τ D D' R S h d=>by
 obtain⟨n,h⟩:=h
 refine⟨fun m σ H2=>∃τ C,Rl K F H2 C∧Tx H H2∧RepS K H2 σ τ∧Zht c' b' D' m τ C,⟨n,τ,C,R,Tx.refl _,S,h⟩,?_⟩
 rintro m σ2 H2 ⟨τ2,C2,R2,t2,S2,h2⟩
 cases m with
 | zero=>exact h2.elim
 | succ m=>
  refine hc F H2 C2 σ2 τ2 _ _ D'.xc R2 S2 h2 fun k H3 C3 R3 t3 h3=>?_
  cases k with
  | true=>
   refine⟨fun σ' H'=>∃τ' C',Rl K F H' C'∧Tx H H'∧RepS K H' σ' τ'∧Zht c' b' D' m τ' C',fun σ' H' z=>⟨m,Nat.lt_succ_self m,z⟩,?_⟩
   have t13:=t2.trans t3
   exact hb F H3 C3 σ2 τ2 _ _ R3 (S2.tx t3) h3 ⟨fun σ' τ' H' C' R' t' S' h'=>⟨τ',C',R',t13.trans t',S',h'⟩,fun x v H' C' R' t'=>d.rt x v H' C' R' (t13.trans t'),fun σ' τ' H' C' R' t' S' h'=>d.nx σ' τ' H' C' R' (t13.trans t') S' h',fun σ' τ' H' C' R' t' S' h'=>⟨τ',C',R',t13.trans t',S',h'⟩⟩
  | false=>exact d.nx σ2 τ2 H3 C3 R3 (t2.trans t3) (S2.tx t3) h3
theorem Zpo {X:Cx}{c:Expr}{body:List Stmt}{wc:WT}{b:WS}{pos:Pos}(hp:PassesOwn (model X.prog X.w) X.A X.env X.xe)(hc:SdT X c wc)(hb:SdB X body b):SdS X (.While c body [] pos) (Zjd wc b):=by
 obtain⟨t,p,s⟩:=hc
 obtain⟨t',p',s'⟩:=hb
 exact⟨_,Zvn hp p p',Zs0 s s'⟩
theorem Zlb {c:WT}{b:WS}{D:We}(Pv:Nat→Sw→Hw→Prop){τ:Sw}{C:Hw}{m:Nat}(h0:Pv m τ C)
  (hs:∀m τ C (N:Sw→Hw→Prop),Pv m τ C→(∀m' τ' C',m'<m→Pv m' τ' C'→N τ' C')→c τ C (fun k C1=>if k=true then b {D with nx:=N,ct:=N,bk:=D.nx} τ C1 else D.nx τ C1) D.xc):Zjd c b D τ C:=by
 have key:∀(n m:Nat) (τ:Sw) (C:Hw),m<n→Pv m τ C→Zht c b D n τ C:=by
  intro n
  induction n with
  | zero=>intro m τ C h _;omega
  | succ n ih=>intro m τ C hm hp;exact hs m τ C _ hp fun m' τ' C' hlt hp'=>ih m' τ' C' (by omega) hp'
 exact⟨m+1,key (m+1) m τ C (Nat.lt_succ_self m) h0⟩
section
variable {X:Cx}{a b c e o i:Expr}{es:List Expr}{wa wb wc wo wi:WE}{wA:WA}{pos p p2 apos cpos:Pos}
def bInt:List T→Hw→WK→Prop:=fun vs C Q=>(∃i:Int,vs=[.int i]∧Q (.int i) C)∨∃k:Bool,vs=[.bl k]∧Q (.int (if k then 1 else 0)) C
theorem b_int:Zf8 X (.type "int") bInt:=⟨_,Zt4,fun F H C xs vs Q Q' R rs h q=>by
 rcases h with⟨j,rfl,h⟩ | ⟨j,rfl,h⟩
 ·obtain⟨x,rfl,rx⟩:=Zar rs
  cases Yh rx
  exact .inl ⟨j,rfl,q _ _ H C R (Tx.refl H) J9 h⟩
 ·obtain⟨x,rfl,rx⟩:=Zar rs
  cases Zdv rx
  exact .inr ⟨j,rfl,q _ _ H C R (Tx.refl H) J9 h⟩⟩
end
def kT:T→Option Key
 | .int i=>some (.inl i)
 | .str x=>some (.inr x)
 | _=>none
def getT (kvs:List (Key×T))(k:Key):Option T:=(kvs.find? fun kv=>decide (kv.1=k)).map (·.2)
def putT (kvs:List (Key×T))(k:Key)(v:T):List (Key×T):=
 if (kvs.any fun kv=>decide (kv.1=k))=true then kvs.map (fun kv=>if kv.1=k then(kv.1,v) else kv) else kvs++[(k,v)]
theorem Zfa {K:W.Frag}{H:Hp}{x:V}{v:T}{k:Key}(h:kT v=some k)(r:Rep K H x v):x=kV k:=by
 cases v with
 | int i=>cases h;exact Yh r
 | str z=>cases h;exact Jv r
 | _=>cases h
theorem PR.get {K:W.Frag}{H:Hp}:∀{ks:List (Key×V)} {kvs:List (Key×T)} (_:PR K H ks kvs) (k:Key),(getT kvs k=none→valV ks k=none)∧∀v,getT kvs k=some v→∃x,valV ks k=some x∧Rep K H x v
 | _,_,.nil,k=>⟨fun _=>rfl,fun v h=>by cases h⟩
 | p::r,q::s,.cons h t,k=>by
  obtain⟨e,rp⟩:=h
  have ih:=PR.get t k
  by_cases c:q.1=k
  ·have c':p.1=k:=e.trans c
   rw[Zgs c']
   unfold getT
   rw[List.find?_cons_of_pos (by simpa using c)]
   exact⟨(fun z=>by cases z),(fun v z=>by cases z;exact⟨p.2,rfl,rp⟩)⟩
  ·have c':¬p.1=k:=fun z=>c (e.symm.trans z)
   rw[Zgt c']
   unfold getT
   rw[List.find?_cons_of_neg (by simpa using c)]
   exact ih
theorem PR.any {K:W.Frag}{H:Hp}:∀{ks:List (Key×V)} {kvs:List (Key×T)} (_:PR K H ks kvs) (k:Key),(ks.any fun kv=>decide (kv.1=k))=kvs.any fun kv=>decide (kv.1=k)
 | _,_,.nil,k=>rfl
 | p::r,q::s,.cons h t,k=>by rw[List.any_cons,List.any_cons,PR.any t k,h.1]
theorem PR.mapK {K:W.Frag}{H:Hp}{k:Key}{x:V}{v:T}(rx:Rep K H x v):∀{ks:List (Key×V)} {kvs:List (Key×T)} (_:PR K H ks kvs),PR K H (ks.map fun kv=>if kv.1=k then(kv.1,x) else kv) (kvs.map fun kv=>if kv.1=k then(kv.1,v) else kv)
 | _,_,.nil=>.nil
 | p::r,q::s,.cons h t=>by
  refine .cons ?_ (PR.mapK rx t)
  obtain⟨e,rp⟩:=h
  by_cases c:q.1=k
  ·have c':p.1=k:=e.trans c
   dsimp only
   rw[XY c,XY c'];exact⟨e,rx⟩
  ·have c':¬p.1=k:=fun z=>c (e.symm.trans z)
   dsimp only
   rw[XX c,XX c'];exact⟨e,rp⟩
theorem PR.put {K:W.Frag}{H:Hp}{ks:List (Key×V)}{kvs:List (Key×T)}(h:PR K H ks kvs){k:Key}{x:V}{v:T}(rx:Rep K H x v):PR K H (putK ks k x) (putT kvs k v):=by
 unfold putK putT
 rw[PR.any h k]
 split
 ·exact PR.mapK rx h
 ·exact h.snoc ⟨rfl,rx⟩
theorem PR.length {K:W.Frag}{H:Hp}{ks:List (Key×V)}{kvs:List (Key×T)}(h:PR K H ks kvs):ks.length=kvs.length:=Paired.length h
section
variable {K:W.Frag}{F H:Hp}{C:Hw}
theorem Rl.dic (R:Rl K F H C){a:Addr}{kvs:List (Key×T)}(h:C a=some (.dic kvs)):∃ks,H a=some (.dK ks)∧PR K H ks kvs:=R.obj a _ h
theorem Rl.putD (R:Rl K F H C){p:Addr}{kvs kvs':List (Key×T)}{ks':List (Key×V)}(h:C p=some (.dic kvs))(r:PR K H ks' kvs'):Rl K F (upd H p (.dK ks')) (up C p (.dic kvs'))∧Tx H (upd H p (.dK ks')):=by
 obtain⟨w,hw,ns⟩:=(R.obj p _ h).some trivial
 exact R.put h ⟨ks',Yo,Zjg (Tx.put hw ns) r⟩
theorem Rl.newD (R:Rl K F H C){p:Addr}{kvs:List (Key×T)}{ks:List (Key×V)}(h:H p=none)(r:PR K H ks kvs):Rl K F (upd H p (.dK ks)) (up C p (.dic kvs)):=R.new h ⟨ks,Yo,Zjg (Tx.new h) r⟩
end
def Zh8:WE:=fun _ C Q _=>∀p,C p=none→Q (.ref p) (up C p (.dic []))
def gSd (o i:WE):WG:=fun v τ C Q χ=>o τ C (fun x C1=>i τ C1 (fun y C2=>∃a kvs k,x=.ref a∧kT y=some k∧C2 a=some (.dic kvs)∧kvs.length<sizeLine∧Q τ (up C2 a (.dic (putT kvs k v)))) χ) χ
section
variable {X:Cx}{a b c e o i f:Expr}{es:List Expr}{wa wb wc wo wi wd:WE}{wA:WA}{pos p p2 apos cpos:Pos}
theorem Znp:SdE X (.Dict [] [] pos) Zh8:=⟨_,Zvy,fun F H C σ τ Q Q' χ R S h q p hp=>q _ _ _ _ (R.newD hp .nil) (Tx.new hp) Ju (h p (R.free hp))⟩
def rSetD:V→V→V→Hp→(Hp→Prop)→Prop:=fun o i v H Q=>∃p ks k,o=.ref p∧i=kV k∧H p=some (.dK ks)∧ks.length<sizeLine∧Q (upd H p (.dK (putK ks k v)))
theorem Zuz (hu:X.A.units+150<cLine):PSet X rSetD:=by
 intro pins s σ H o i v ov iv u Q I ro ri rv h
 obtain⟨p,ks,k,rfl,rfl,hp,hl,q⟩:=h
 cases ro
 exact Zt0 (by omega) I (DPut.k hp hl) ri rv fun s' I'=>⟨_,I',q⟩
theorem Zsj (hu:X.A.units+150<cLine)(ho:SdE X o wo)(hi:SdE X i wi)
  (ha:∀v,assign (.Subscript o i pos) X.env v=(do
   let ov ←holding [v] (eval o X.env)
   let iv ←holding [v,ov] (eval i X.env)
   standAt pos
   holding [v,ov,iv] (setItem ov iv v)
   release [v,ov,iv] []):=by intro _;rfl):SdG X (.Subscript o i pos) (gSd wo wi):=by
 obtain⟨t,p,s⟩:=ho
 obtain⟨t',p',s'⟩:=hi
 refine⟨_,Z2h p p' (Zuz hu) ha,fun F H C σ τ x v Q Q' χ R S r h q=>?_⟩
 refine s F H C σ τ _ _ χ R S h fun y vy H1 C1 R1 t1 ry h1=>?_
 refine s' F H1 C1 σ τ _ _ χ R1 (S.tx t1) h1 fun z vz H2 C2 R2 t2 rz h2=>?_
 obtain⟨l,kvs,k,rfl,hk,hC,hl,h2⟩:=h2
 cases Yd ry
 obtain⟨ks,hH,pr⟩:=R2.dic hC
 have t12:=t1.trans t2
 obtain⟨R',t'⟩:=R2.putD hC (PR.put pr (k:=k) (r.tx t12))
 exact⟨l,ks,k,rfl,Zfa hk rz,hH,by rw[PR.length pr];exact hl,q _ _ _ _ R' (t12.trans t') (S.tx (t12.trans t')) h2⟩
theorem Zw2 {K:W.Frag}{H:Hp}{ks:List (Key×V)}{kvs:List (Key×T)}(pr:PR K H ks kvs)(k:Key){x:V}{v:T}(rx:Rep K H x v):Rep K H ((valV ks k).getD x) ((getT kvs k).getD v):=by
 cases hg:getT kvs k with
 | none=>rw[(PR.get pr k).1 hg];exact rx
 | some w=>obtain⟨z,hz,rz⟩:=(PR.get pr k).2 w hg;rw[hz];exact rz
end
end WL
namespace L2
open PySem PySem.Spec PyProof.Rows
def byTx (w:World):Bool:=w.params.followText "set-order"
def txOf (e:Int×Value):Str:=strOf e.2
structure TxSet (P:Program)(w:World)(h:Heap)(a:Addr)(es:Array (Int×Value))(ep:Nat)(t:SetTable):Prop where
 get:h.get? a=some {cls:=.type "set",dict:=none,data:=.set es ep t,slots:=#[]}
 els:ElemsOf (PySem.strKind P w) es.toList
 fit:t.fits es.size=true
 bnd:es.size<scanBound
 pln:es.size≠0→t.plain=false
 led:t.led=!byTx w
 nod:(es.toList.map txOf).Nodup
section
variable {prog:Program}{w:World}{A:Around}{E:Value→Shared→Prop}{s:Shared}
end
section
variable {prog:Program}{w:World}{A:Around}{R:Result→Shared→Prop}{I:Addr}{fp wr:List Addr}{G:Array GenState→Array GenState→Prop}{n:Nat}{P:Nat→Value→Prop}{St:Nat→Shared→Prop}
end
section
variable {prog:Program}{w:World}{A:Around}{E:Value→Shared→Prop}{s:Shared}
end
section
variable {X:Cx}{pins:List (Addr×Obj)}{s:Shared}{σ:St}{H:Hp}
def setO (P:Program)(w:World)(a:Addr)(xs:List Str):HO:=.ext fun h=>∃es ep t,TxSet P w h a es ep t∧∀y,y∈es.toList.map txOf↔y∈xs
end
end L2
namespace WL
open PySem PySem.Spec PyProof.Rows L2
section
variable {X:Cx}{e:Expr}{we:WE}{pos p p2 pos2:Pos}
end
end WL
namespace L2
open PySem PySem.Spec PyProof.Rows
section
variable {X:Cx}{tg:Expr}
end
end L2
namespace WL
open PySem PySem.Spec PyProof.Rows L2
section
variable {X:Cx}{tg a:Expr}{wA:WA}{pos p:Pos}
end
end WL
namespace L2
open PySem PySem.Spec PyProof.Rows
section
variable {X:Cx}
theorem Zro:∀{zs:List Str} {us:List Value},Vals (zs.map V.str) us→StrsAre us zs
 | [],us,h=>by rw[h.zero];exact .nil
 | z::zs,us,h=>by
  cases h with
  | cons a b=>obtain⟨t,rfl⟩:=a;exact .cons z t (Zro b)
def rJoin (K:W.Frag):V→List V→Hp→VK→Prop:=fun x vs H Q=>∃z p zs,x=.str z∧vs=[.ref p]∧SqL K H p (zs.map V.str)∧z.length≤16∧(zs.map (·.length)).sum+zs.length≤1048576∧Q (.str (Txt.join z zs)) H
theorem Zzp:MtR X "str.join" (rJoin X.K):=by
 intro pins s σ H x vs v us Q I rx rv h
 obtain⟨z,p,zs,rfl,rfl,hq,h1,h2,q⟩:=h
 obtain⟨t,rfl⟩:=rx
 obtain⟨u,rfl,ru⟩:=vals1 rv
 cases ru
 obtain⟨its,rI,pl,hz⟩:=I.list hq
 exact join_listW pl.isList (Zro rI) h1 h2 fun t' k=>⟨.str _,H,I.tok _,⟨_,rfl⟩,q⟩
end
end L2
namespace WL
open PySem PySem.Spec PyProof.Rows L2
section
variable {X:Cx}
theorem Zje {K:W.Frag}{H:Hp}:∀{bs:List Str} {ys:List V},Reps K H ys (bs.map T.str)→ys=bs.map V.str
 | [],_,h=>Zas h
 | b::bs,_,h=>by obtain⟨y,r,rfl,a,c⟩:=Jo h;cases Jv a;rw[Zje c];rfl
def Z06:T→List T→Hw→WK→Prop:=fun x vs C Q=>∃z p zs,x=.str z∧vs=[.ref p]∧C p=some (.lst (zs.map T.str))∧z.length≤16∧(zs.map (·.length)).sum+zs.length≤1048576∧Q (.str (Txt.join z zs)) C
theorem Z3i:MtS X "str.join" Z06:=⟨_,Zzp,fun F H C x v xs vs Q Q' R rx rs h q=>by
 obtain⟨z,p,zs,rfl,rfl,hx,h1,h2,h⟩:=h
 cases Jv rx
 obtain⟨y,rfl,ry⟩:=Zar rs
 cases Yd ry
 obtain⟨ys,hy,r⟩:=R.lst hx
 cases Zje r
 exact⟨z,p,zs,rfl,rfl,SqL.of hy,h1,h2,q _ _ H C R (Tx.refl H) Xa h⟩⟩
end
end WL
namespace L2
open PySem PySem.Spec PyProof.Rows
theorem Z12:typeLookup (.type "list_reverseiterator") "__len__"=pure none:=by
 rw[typeLookup_type];rw[builtinLookup_eq_fast];kernel_rfl
theorem Zym:typeLookup (.type "list_reverseiterator") "__length_hint__"=pure (some (.builtin "list_reverseiterator.__length_hint__")):=by
 rw[typeLookup_type];rw[builtinLookup_eq_fast];kernel_rfl
section
variable {prog:Program}{w:World}{A:Around}{E:Value→Shared→Prop}{s:Shared}{it l:Addr}{i:Int}
theorem Zwz {Q:Bool→Shared→Prop}(hit:s.heap.IsRevIter it l i)(h:Q false s):wpAny (model prog w) A (Builtin.List.listLengthHint (.ref it)) Q E s:=by
 have hT:=hit.typeIs
 unfold Builtin.List.listLengthHint
 refine XA (wpAny_specialOf hT Z12 ?_)
 show wpAny _ A (specialOf (Value.ref it) (Str.ofString "__length_hint__")>>=_) _ _ _
 refine XA (wpAny_specialOf hT Zym ?_)
 generalize hid:("list_reverseiterator.__length_hint__":String)=id0
 wp_delta
 rw[show splitId id0=some ("list_reverseiterator","__length_hint__") from by subst hid;decide+kernel]
 subst hid
 refine XA (wpAny_isInstance (T:="list_reverseiterator") (b:=true) hT (by rw[isSubtype_type];kernel_rfl) ?_)
 refine wpAny_ite_split (fun z=>absurd z (by decide)) (fun _=>?_)
 refine wpAny_ite_split (fun _=>?_) (fun z=>absurd (by decide+kernel) z)
 refine wpAny_ite_split (fun z=>absurd z (by decide+kernel)) (fun _=>?_)
 exact XB h
theorem Zwu {R:Result→Shared→Prop}{items:Array Value}(hh:A.handled=none)(n:Nat)(hn:items.size=n)(hsz:n≤sizeLine)(S:Addr)(hSi:S≠it)(hSl:S≠l)(hil:l≠it)
  (hit:s.heap.IsRevIter it l ((n:Int)-1)) (hl:s.heap.IsList l items) (hS:s.heap.get? S=some {cls:=.type "list",data:=.seq #[]})
  (hR:∀s' acc' c',Moved [S,it] (fun a b=>b=a) s s'→s'.heap.get? S=some {cls:=.type "list",dict:=none,data:=.seq acc' c',slots:=#[]}→ItemsOf (fun i v=>items[items.size-1-i]?=some v) acc' n→R (.ok (.ret .none)) s'):
  wpAny (model prog w) A.in1 (Builtin.«list.__init__» ⟨[.ref S,.ref it],[]⟩)
   (fun fin s2=>match fin with | .done f=>R (.ok f) s2 | .again c2=>c2.quiet=true∧codeAny (model prog w) A c2 R s2) (fun e s2=>R (.error e) s2) s:=by
 have W:=(Walks.listRev (prog:=prog) (w:=w) (A:=A.in1) hh it l hil items).toS
 rw[hn] at W
 have hSf:S∉[it,l]:=by simp[hSi,hSl]
 show wpAny _ A.in1 (Builtin.List.listItems (.ref S)>>=fun old=>Builtin.List.listUpdate (.ref S) (fun _=>#[])>>=fun _=>letGo old.toList.reverse>>=fun _=>Builtin.List.listExtendWith (.ref S) (.ref it) .none) _ _ s
 unfold Builtin.List.listItems
 refine XA ?_
 refine XA (wpAny_seqItems hS rfl (XB ?_))
 show wpAny _ A.in1 (updateSeq S (fun _=>#[])>>=fun _=>letGo (#[]:Array Value).toList.reverse>>=fun _=>Builtin.List.listExtendWith (.ref S) (.ref it) .none) _ _ s
 refine XA (wpAny_updateSeq hS rfl ?_)
 have hS2:=Heap.get?_update_self (Obj.mapSeq (fun _=>(#[]:Array Value))) hS rfl
 have oth:∀b o,b≠S→s.heap.get? b=some o→(s.heap.update S (Obj.mapSeq (fun _=>(#[]:Array Value)))).get? b=some o:=fun b o hb e=>
  (Heap.get?_update_other _ _ (Ne.symm hb)).trans e
 refine XA (wpAny_letGo ?_)
 unfold Builtin.List.listExtendWith
 have hit2:(s.heap.update S (Obj.mapSeq (fun _=>(#[]:Array Value)))).IsRevIter it l ((n:Int)-1):=hit.at fun o e=>oth it o hSi.symm e
 have hl2:(s.heap.update S (Obj.mapSeq (fun _=>(#[]:Array Value)))).IsList l items:=hl.at fun o e=>oth l o hSl.symm e
 refine XA (wpAny_typeOf (T:="list_reverseiterator") (Heap.IsRevIter.typeIs (s:={s with heap:=_}) hit2) ?_)
 have h1:Builtin.List.listSameRef (.ref S) (.ref it)=false:=by simp[Builtin.List.listSameRef,hSi]
 have h2:(Value.type "list_reverseiterator"==Value.type "list")=false:=by decide
 have h3:(Value.type "list_reverseiterator"==Value.type "tuple")=false:=by decide
 simp only[h1,h2,h3,Bool.or_false,Bool.false_eq_true,if_false]
 refine XA (wpAny_pyIter_revIter hit2 ?_)
 refine XA (wpAny_holding (Zwz hit2 ?_))
 have st:(fun i (h:Heap)=>i≤n∧h.IsRevIter it l ((n:Int)-1-(i:Int))∧h.IsList l items) 0 (s.heap.update S (Obj.mapSeq (fun _=>(#[]:Array Value)))):=⟨Nat.zero_le _,by simpa using hit2,hl2⟩
 refine wpAny_ite_split (fun z=>absurd z (by decide+kernel)) (fun _=>?_)
 refine XB ⟨plainId_quiet PySem.F.plain_extend_loop _,?_⟩
 refine codeAny_extend_loopS W hsz S hSf .none n 0 _ #[] _ rfl (XO _) st hS2 (ItemsOf.nil _) fun s3 acc3 c3 hm hS3 hacc=>?_
 refine hR s3 acc3 c3 ⟨fun b o hb e=>?_,hm.gens,hm.drawn,hm.os,hm.toks⟩ hS3 (by rw[hn];exact hacc)
 exact hm.heap b o hb (oth b o (fun z=>hb (by rw[z];simp)) e)
theorem Znu {Q:Value→Shared→Prop}{items:Array Value}(hh:A.handled=none)(hsz:items.size≤sizeLine)(hil:l≠it)(hit:s.heap.IsRevIter it l ((items.size:Int)-1))(hl:s.heap.IsList l items)
  (hQ:∀h2 t2 acc2 c2,(∀b o,b≠it→s.heap.get? b=some o→h2.get? b=some o)→h2.get? s.heap.objs.size=some {cls:=.type "list",dict:=none,data:=.seq acc2 c2,slots:=#[]}→ItemsOf (fun i v=>items[items.size-1-i]?=some v) acc2 items.size→Q (.ref s.heap.objs.size) {s with heap:=h2,toks:=t2}):
  wpAny (model prog w) A (call (.type "list") [.ref it]) Q E s:=by
 refine callType_codes (Q₁:=fun ob s1=>ob=.ref s.heap.objs.size∧s1={s with heap:=s.heap.push {cls:=.type "list",data:=.seq #[]}}) PySem.F.called_list (PySem.F.typeCall_list_1 _) PySem.F.entry_list_init (code_list_new _ ⟨rfl,rfl⟩) fun ob s1 h1=>?_
 obtain⟨rfl,rfl⟩:=h1
 have hS:(s.heap.push {cls:=.type "list",data:=.seq #[]}).get? s.heap.objs.size=some {cls:=.type "list",data:=.seq #[]}:=XF _ rfl
 have ltI:it<s.heap.objs.size:=by obtain⟨_,e,_⟩:=hit;exact XD e
 have ltL:l<s.heap.objs.size:=by obtain⟨_,e,_⟩:=hl;exact XD e
 refine⟨⟨_,hS,rfl⟩,PySem.F.args_list_init_2 _ _,Zwu (A:=A.in1) hh items.size rfl hsz _ (Nat.ne_of_gt ltI) (Nat.ne_of_gt ltL) hil (hit.at fun o e=>XC _ e) (hl.at fun o e=>XC _ e) hS fun s3 acc3 c3 hm hS3 hacc=>⟨rfl,?_⟩⟩
 rw[Moved.eq_with hm]
 exact hQ s3.heap s3.toks acc3 c3 (fun b o hb e=>hm.heap b o (by simp only[List.mem_cons,List.not_mem_nil,or_false,not_or];exact⟨Nat.ne_of_lt (Heap.lt_size e),hb⟩) (Heap.get?_push_of_some _ e)) hS3 hacc
end
section
variable {X:Cx}
theorem Zn6:∀{xs:List V} {us:List Value},Vals xs us→Vals xs.reverse us.reverse
 | _,_,.nil=>.nil
 | _,_,.cons r t=>by rw[List.reverse_cons,List.reverse_cons];exact(Zn6 t).append (.cons r .nil)
theorem Zts {its:List Value}{acc:Array Value}(h:ItemsOf (fun i v=>its.toArray[its.toArray.size-1-i]?=some v) acc its.toArray.size):acc.toList=its.reverse:=by
 obtain⟨h1,h2⟩:=h
 have hl:its.toArray.size=its.length:=by simp
 refine List.ext_getElem? fun j=>?_
 by_cases c:j<acc.size
 ·have e:acc[j]?=some acc[j]:=by simp[c]
  have h3:=h2 j _ e
  rw[Array.getElem?_toList,e,←h3,hl]
  rw[List.getElem?_reverse (by omega)]
  simp
 ·rw[List.getElem?_eq_none (by simp;omega),List.getElem?_eq_none (by simp;omega)]
def tLRev (K:W.Frag)(ta:TE):TE:=fun σ H Q=>ta σ H fun x H1=>∃a xs,x=.ref a∧SqL K H1 a xs∧∀p,H1 p=none→Q (.ref p) (upd H1 p (.lst xs.reverse))
theorem Zqm {a:Expr}{ta:TE}{p pos p2 pos2:Pos}(hc:X.calm=true)(hg:Gl X "list")(hm:X.mg "list"=none)(hg2:Gl X "reversed")(hm2:X.mg "reversed"=none)(ha:PE X a ta)(hs:starEach [a] X.env=[(false,eval a X.env)]:=by rfl)
  (hs2:starEach [.Call (.Name "reversed" p2) [a] [] pos2] X.env=[(false,eval (.Call (.Name "reversed" p2) [a] [] pos2) X.env)]:=by rfl) (hb:bootBuiltins "reversed"=some (.type "reversed"):=by decide+kernel) (hb2:bootBuiltins "list"=some (.type "list"):=by decide+kernel):
  PE X (.Call (.Name "list" p) [.Call (.Name "reversed" p2) [a] [] pos2] [] pos) (tLRev X.K ta):=by
 intro pins s σ H Q I h
 refine Call_ (Zdo I hg hm hb2 (PyProof.Rows.callWith_type1 ?_ hs2 rfl))
 rw[hs2]
 show wpAny _ _ (spliced ((false,eval (.Call (.Name "reversed" p2) [a] [] pos2) X.env)::backTo pos [])) _ _ s
 refine Calls.spliced_cons (Call_ (Zdo I hg2 hm2 hb (PyProof.Rows.callWith_type1 ?_ hs rfl)))
 have pa:PA X [a] (Zup ta tNil):=Ziu ha Zqo hs
 refine thn (pa pos2 pins s σ H (fun xs H1=>match xs with | [x]=>∃a ys,x=.ref a∧SqL X.K H1 a ys∧∀p,H1 p=none→Q (.ref p) (upd H1 p (.lst ys.reverse)) | _=>False) I h) fun us s1 ⟨vs,H1,I1,r1,q1⟩=>?_
 have one:∃x,vs=[x]:=by
  match vs,q1 with
  | [x],_=>exact⟨x,rfl⟩
  | [],q1=>exact q1.elim
  | _::_::_,q1=>exact q1.elim
 obtain⟨x,rfl⟩:=one
 obtain⟨l,ys,rfl,hq,q⟩:=q1
 obtain⟨u,rfl,ru⟩:=vals1 r1
 cases ru
 obtain⟨its,rv,pl,hz⟩:=I1.list hq
 have hlen:=rv.length
 refine call_reversed_list pl.isList ?_
 have ltL:l<s1.heap.objs.size:=by obtain⟨_,e,_⟩:=pl.isList;exact XD e
 refine Calls.spliced_nil ?_
 have hit:(s1.heap.push (revObj l ((its.toArray.size:Int)-1))).IsRevIter s1.heap.objs.size l ((its.toArray.size:Int)-1):=⟨_,XF _ rfl,rfl,rfl⟩
 have hl2:(s1.heap.push (revObj l ((its.toArray.size:Int)-1))).IsList l its.toArray:=pl.isList.at fun o e=>XC _ e
 refine Znu (s:={s1 with heap:=s1.heap.push (revObj l ((its.toArray.size:Int)-1))}) (I.ok.hd hc) (by simp only[List.size_toArray];omega) (Nat.ne_of_lt ltL) hit hl2 fun h2 t2 acc c2 kp hN hI=>?_
 have hp:s1.heap.objs.size≤(s1.heap.push (revObj l ((its.toArray.size:Int)-1))).objs.size:=by rw[Heap.size_push];omega
 refine⟨.ref _,_,I1.laid (h':=h2) (t':=t2) (fun b o e=>kp b o (XH (XD e)) (XC _ e)) hp (show Xl X.prog X.w _ h2 _ (.lst ys.reverse) from⟨by rw[List.length_reverse];exact hz,its.reverse,c2,Zn6 rv,?_⟩),rfl,q _ (I1.hok.fresh hp)⟩
 rw[←Zts hI]
 exact hN
def PEp (X:Cx)(e:Expr)(t:TE):Prop:=
 ∀(pins:List (Addr×Obj)) (s:Shared) (σ:St) (H:Hp) (Q:VK),Inv X pins σ H s→t σ H Q→wpAny (model X.prog X.w) X.A (eval e X.env) (fun v s'=>1≤s'.toks∧EP X pins σ Q v s') X.xe s
variable {o e:Expr}{es:List Expr}{to:TE}{t:TA}{apos cpos:Pos}{z y:Str}{k k1 k2:Nat}{lp lp1 lp2:Pos}
end
end L2
namespace WL
open PySem PySem.Spec PyProof.Rows L2
section
variable {X:Cx}{e o:Expr}{we wo:WE}{p p2 pos pos2 apos cpos:Pos}
def Zm7:T→List T→Hw→WK→Prop:=fun x vs C Q=>∃a b xs zs,x=.ref a∧vs=[.ref b]∧C a=some (.lst xs)∧C b=some (.lst zs)∧xs.length+zs.length≤sizeLine∧Q .non (up C a (.lst (xs++zs)))
theorem Zo9:MtS X "list.extend" Zm7:=⟨_,Ztj,fun F H C x v xs vs Q Q' R rx rs h q=>by
 obtain⟨a,b,ts,us,rfl,rfl,ha,hb,hl,h⟩:=h
 cases Yd rx
 obtain⟨y,rfl,ry⟩:=Zar rs
 cases Yd ry
 obtain⟨ys,hy,r⟩:=R.lst ha
 obtain⟨zs,hz,r2⟩:=R.lst hb
 obtain⟨R',t⟩:=R.putL ha (r.app r2)
 exact⟨a,b,ys,zs,rfl,rfl,hy,hz,by rw[r.length,r2.length];exact hl,q _ _ _ _ R' t Zdc h⟩⟩
def Z1b (e:WE):WE:=fun τ C Q χ=>e τ C (fun x C1=>∃a xs,x=.ref a∧C1 a=some (.lst xs)∧∀p,C1 p=none→Q (.ref p) (up C1 p (.lst xs.reverse))) χ
theorem Z4b (hc:X.calm=true)(hg:Gl X "list")(hm:X.mg "list"=none)(hg2:Gl X "reversed")(hm2:X.mg "reversed"=none)(he:SdE X e we)(hs:starEach [e] X.env=[(false,eval e X.env)]:=by rfl)
  (hs2:starEach [.Call (.Name "reversed" p2) [e] [] pos2] X.env=[(false,eval (.Call (.Name "reversed" p2) [e] [] pos2) X.env)]:=by rfl):
  SdE X (.Call (.Name "list" p) [.Call (.Name "reversed" p2) [e] [] pos2] [] pos) (Z1b we):=by
 obtain⟨t,p1,sm⟩:=he
 refine⟨_,Zqm hc hg hm hg2 hm2 p1 hs hs2,fun F H C σ τ Q Q' χ R S h q=>?_⟩
 refine sm F H C σ τ _ _ χ R S h fun x v H1 C1 R1 t1 rx h1=>?_
 obtain⟨a,xs,rfl,hC,h1⟩:=h1
 cases Yd rx
 obtain⟨ys,hH,rs⟩:=R1.lst hC
 exact⟨a,ys,rfl,SqL.of hH,fun b hb=>q _ _ _ _ (R1.newL hb rs.reverse) (t1.trans (Tx.new hb)) Ju (h1 b (R1.free hb))⟩
theorem Zns:Zbi X (.type "str") (fun xs H Q=>∃z,xs=[.str z]∧Q (.str z) H):=by
 intro pins s σ H xs us Q I r h
 obtain⟨z,rfl,q⟩:=h
 obtain⟨u,rfl,t,rfl⟩:=vals1 r
 exact PySem.P.str_of_str ⟨.str z,H,I,⟨_,rfl⟩,q⟩
def Zp0:List T→Hw→WK→Prop:=fun vs C Q=>(∃i:Int,vs=[.int i]∧i.natAbs.log2<1920∧Q (.str (toString i)) C)∨∃z,vs=[.str z]∧Q (.str z) C
theorem Zrj:Zf8 X (.type "str") Zp0:=⟨_,Znt.or Zns,fun F H C xs vs Q Q' R rs h q=>by
 rcases h with⟨j,rfl,hl,h⟩ | ⟨z,rfl,h⟩
 ·obtain⟨x,rfl,rx⟩:=Zar rs
  cases Yh rx
  exact .inl ⟨j,rfl,hl,q _ _ H C R (Tx.refl H) Xa h⟩
 ·obtain⟨x,rfl,rx⟩:=Zar rs
  cases Jv rx
  exact .inr ⟨z,rfl,q _ _ H C R (Tx.refl H) Xa h⟩⟩
def SdP (X:Cx)(e:Expr)(w:WE):Prop:=∃t,PEp X e t∧SimE X.K t w
def eRepl (y z:Str)(o:WE):WE:=fun τ C Q χ=>o τ C (fun x C1=>∃u,x=.str u∧u.length≤1048576∧Q (.str (Txt.replace u y z)) C1) χ
end
end WL
namespace L2
open PySem PySem.Spec PyProof.Rows
section
variable {prog:Program}{w:World}{A:Around}{E:Value→Shared→Prop}{s:Shared}{a b:Addr}{oa ob:Obj}{ea eb:Array DictEntry}{pa pb:Nat}
theorem shows {d:Addr}{Q:Unit→Shared→Prop}(hd:(d==sysModules)=false)(h:Q () s):wpAny (model prog w) A (Builtin.Dict.showsAll d) Q E s:=by
 unfold Builtin.Dict.showsAll
 rw[XX (by rw[hd];exact YJ)]
 exact XB h
theorem Zyd {id:String}{Q:Bool→Shared→Prop}(sa:(a==sysModules)=false)(sb:(b==sysModules)=false)(ha:s.heap.get? a=some oa)(da:oa.data=.dict ea pa)(hb:s.heap.get? b=some ob)(db:ob.data=.dict eb pb)
  (hne:(ea.size !=eb.size)=true) (q:Q false s):wpAny (model prog w) A (Builtin.Dict.samePairs id a b) Q E s:=by
 unfold Builtin.Dict.samePairs
 refine XA (shows sa (XA (shows sb ?_)))
 refine XA (wpAny_dictEntries ha da ?_)
 refine XA (wpAny_dictEntries hb db ?_)
 rw[XY hne]
 exact XA (wpAny_rule (XB q))
theorem Zyc {K:Type}[DecidableEq K]{knd:KeyKind prog w K}{id:String}{Q:Bool→Shared→Prop}(sa:(a==sysModules)=false)(sb:(b==sysModules)=false)(ha:s.heap.get? a=some oa)(da:oa.data=.dict ea pa)(hb:s.heap.get? b=some ob)(db:ob.data=.dict eb pb)
  (hk:KeysOf knd eb) (hsz:ea.size=eb.size)
  (hv:∀i (h1:i<ea.size) (h2:i<eb.size),∃k,knd.is k ea[i].key=true∧ea[i].hash=knd.hash k∧(eb.findIdx? fun e=>knd.is k e.key)=some i∧SeqAt.EqAt A s ea[i].val eb[i].val true) (q:Q true s):
  wpAny (model prog w) A (Builtin.Dict.samePairs id a b) Q E s:=by
 unfold Builtin.Dict.samePairs
 refine XA (shows sa (XA (shows sb ?_)))
 refine XA (wpAny_dictEntries ha da ?_)
 refine XA (wpAny_dictEntries hb db ?_)
 rw[if_neg (by simp[hsz])]
 refine XA (wpAny_dictEpoch ha da ?_)
 refine XA ?_
 rw[Std.Legacy.Range.forIn_eq_forIn_range']
 simp only[Std.Legacy.Range.size,Nat.sub_zero,Nat.add_sub_cancel,Nat.div_one]
 refine wpAny_forIn_list _ (fun rest r s2=>∃i,rest=List.range' i (ea.size-i)∧i≤ea.size∧r.1=none∧s2=s) _ ?_ ?_ _ _ ⟨0,by simp,Nat.zero_le _,rfl,rfl⟩
 ·rintro x rest r s2 ⟨i,hr,hi,hr1,rfl⟩
  have hlt:i<ea.size:=by
   rcases Nat.lt_or_ge i ea.size with h | h
   ·exact h
   ·rw[Nat.sub_eq_zero_of_le h] at hr;simp at hr
  obtain⟨rfl,hrest⟩:x=i∧rest=List.range' (i+1) (ea.size-(i+1)):=by
   have e:ea.size-i=(ea.size-(i+1))+1:=by omega
   rw[e,List.range'_succ] at hr
   injection hr with h1 h2
   exact⟨h1,h2⟩
  have hltb:x<eb.size:=by omega
  obtain⟨k,k1,k2,k3,k4⟩:=hv x hlt hltb
  refine XA (wpAny_dictEntries ha da ?_)
  rw[Array.getElem?_eq_getElem hlt]
  refine XA (wpAny_holding ?_)
  rw[k2]
  refine XA (wpAny_dictFind_of k1 hb db hk ?_)
  rw[k3]
  refine XA (wpAny_dictEntries hb db ?_)
  rw[Array.getElem?_eq_getElem hltb]
  refine wpAny_holding (k4 prog w _ _ ?_)
  rw[XX (by decide)]
  refine XA (wpAny_dictEpoch ha da ?_)
  rw[if_neg (by simp)]
  exact XB ⟨x+1,hrest,hlt,rfl,rfl⟩
 ·rintro r s2 ⟨i,hr,hi,hr1,rfl⟩
  rw[hr1]
  exact XB q
theorem Zse (wanted:Bool){k:Bool}{R:Result→Shared→Prop}(ha:s.TypeIs (.ref a) "dict")(hb:s.TypeIs (.ref b) "dict")
  (hs:∀(id:String) (Q:Bool→Shared→Prop),Q k s→wpAny (model prog w) A.in1 (Builtin.Dict.samePairs id a b) Q (fun e s2=>R (.error e) s2) s) (h:R (.ok (.ret (.bool (k==wanted)))) s):
  wpAny (model prog w) A.in1 ((if wanted then Builtin.«dict.__eq__» else Builtin.«dict.__ne__») ⟨[.ref a,.ref b],[]⟩)
   (fun fin s2=>match fin with | .done f=>R (.ok f) s2 | .again c2=>c2.quiet=true∧codeAny (model prog w) A c2 R s2) (fun e s2=>R (.error e) s2) s:=by
 cases wanted
 ·rw[XX (by decide)]
  unfold Builtin.«dict.__ne__»
  wp_delta
  unfold Builtin.Dict.dictSlotArgs
  refine XA (XA (wpAny_notOrdered_dict ha ?_))
  refine XA (wpAny_of_eq (a:=(Value.ref a,[Value.ref b])) rfl (XB ?_))
  refine XA (wpAny_isInstance (T:="dict") (b:=true) hb (by rw[isSubtype_type];kernel_rfl) ?_)
  rw[XX (by decide)]
  refine XA (XB (XA (XB (XA (hs _ _ ?_)))))
  exact XB h
 ·rw[XY rfl]
  unfold Builtin.«dict.__eq__»
  wp_delta
  unfold Builtin.Dict.dictSlotArgs
  refine XA (XA (wpAny_notOrdered_dict ha ?_))
  refine XA (wpAny_of_eq (a:=(Value.ref a,[Value.ref b])) rfl (XB ?_))
  refine XA (wpAny_isInstance (T:="dict") (b:=true) hb (by rw[isSubtype_type];kernel_rfl) ?_)
  rw[XX (by decide)]
  refine XA (XB (XA (XB (XA (hs _ _ ?_)))))
  exact XB h
theorem Z0f {k:Bool}{Q:Value→Shared→Prop}(hu:A.units<cLine)(ha:s.TypeIs (.ref a) "dict")(hb:s.TypeIs (.ref b) "dict")
  (hs:∀(E:Value→Shared→Prop) (id:String) (Q:Bool→Shared→Prop),Q k s→wpAny (model prog w) A.in1 (Builtin.Dict.samePairs id a b) Q E s) (h:Q (.bool (k==true)) s):wpAny (model prog w) A (richCompare .Eq (.ref a) (.ref b)) Q E s:=
 wpAny_richCompare_same_room ha hb PySem.F.slot_dict_eq (wpAny_call (codeAny_call_builtin PySem.F.slot_dict_eq.plain PySem.F.entry_dict_eq (PySem.F.slot_dict_eq.check _ _ _ _ _ _ _ _ ha (PySem.F.args_dict_eq_2 _ _)
  (Zse (R:=fun r s2=>match r with | .ok (.ret v)=>v≠.notImplemented∧Q v s2 | .ok _=>False | .error e=>E e s2) true ha hb (fun id Q q=>hs _ id Q q) ⟨(fun z=>nomatch z),h⟩)))) hu
theorem Z0e {k:Bool}{Q:Value→Shared→Prop}(hu:A.units<cLine)(ha:s.TypeIs (.ref a) "dict")(hb:s.TypeIs (.ref b) "dict")
  (hs:∀(E:Value→Shared→Prop) (id:String) (Q:Bool→Shared→Prop),Q k s→wpAny (model prog w) A.in1 (Builtin.Dict.samePairs id a b) Q E s) (h:Q (.bool (k==false)) s):wpAny (model prog w) A (richCompare .NotEq (.ref a) (.ref b)) Q E s:=
 wpAny_richCompare_same_room ha hb PySem.F.slot_dict_ne (wpAny_call (codeAny_call_builtin PySem.F.slot_dict_ne.plain PySem.F.entry_dict_ne (PySem.F.slot_dict_ne.check _ _ _ _ _ _ _ _ ha (PySem.F.args_dict_ne_2 _ _)
  (Zse (R:=fun r s2=>match r with | .ok (.ret v)=>v≠.notImplemented∧Q v s2 | .ok _=>False | .error e=>E e s2) false ha hb (fun id Q q=>hs _ id Q q) ⟨(fun z=>nomatch z),h⟩)))) hu
end
section
variable {prog:Program}{w:World}{A:Around}{E:Value→Shared→Prop}{s:Shared}
theorem Zx9 {jt q:Addr}{i:Nat}{its:Array Value}{x:Value}{Q:Value→Shared→Prop}(hj:s.heap.IsTupleIter jt q i)(hq:s.heap.IsTuple q its)(hx:its[i]?=some x)
  (hQ:∀h2,h2.IsTupleIter jt q (i+1)→Heap.SameBut jt s.heap h2→Q x {s with heap:=h2}):wpAny (model prog w) A (Builtin.SmallTypes.nextOf (.ref jt)) Q E s:=by
 obtain⟨ob,hob,hcl,hda⟩:=id hj
 obtain⟨oq,hoq,_,nq,hdq⟩:=hq
 unfold Builtin.SmallTypes.nextOf
 refine XA (wpAny_callSpecial?_slot (name:=Str.ofString "__next__") hj.typeIs F.slot_tuple_iterator_next (wpAny_call_entry F.slot_tuple_iterator_next hj.typeIs F.entry_tuple_iterator_next ?_ (F.args_tuple_iterator_next_1 _)))
 show wpAny _ _ (field (.ref jt) 0>>=_) _ _ s
 refine XA (wpAny_field hob hda (x:=.ref q) rfl ?_)
 show wpAny _ _ (if (Value.ref q==Value.none)=true then _ else _) _ _ s
 rw[XX (show ¬((Value.ref q==Value.none)=true) from YJ)]
 show wpAny _ _ (field (.ref jt) 1>>=_) _ _ s
 refine XA (wpAny_field hob hda (x:=.int i 0) rfl ?_)
 show wpAny _ _ (seqItems? (.ref q)>>=_) _ _ s
 refine XA (wpAny_seqItems hoq hdq ?_)
 simp only[Int.toNat_natCast,hx]
 refine wpAny_bind (wpAny_setField hob hda (by simp) (wpAny_pure ⟨x,rfl,wpAny_pure (hQ _ ?_ (Heap.SameBut.update ..))⟩))
 refine⟨_,Heap.get?_update_self _ hob (Obj.isFreed_of_fields (Obj.data_mapFields hda _)),(Obj.cls_mapFields ..).trans hcl,?_⟩
 rw[Obj.data_mapFields hda];simp[rawInt]
theorem Z1o {jt q:Addr}{i:Nat}{its:Array Value}{Q:Value→Shared→Prop}(hh:A.handled=none)(hj:s.heap.IsTupleIter jt q i)(hq:s.heap.IsTuple q its)(hx:its[i]?=none)
  (hE:∀h2 ex,Heap.ExtBut jt s.heap h2→(∃o,h2.get? ex=some o∧o.cls=.type "StopIteration")→E (.ref ex) {s with heap:=h2}):wpAny (model prog w) A (Builtin.SmallTypes.nextOf (.ref jt)) Q E s:=by
 obtain⟨ob,hob,hcl,hda⟩:=id hj
 obtain⟨oq,hoq,_,nq,hdq⟩:=hq
 unfold Builtin.SmallTypes.nextOf
 refine XA (wpAny_callSpecial?_slot (name:=Str.ofString "__next__") hj.typeIs F.slot_tuple_iterator_next (wpAny_call_entry F.slot_tuple_iterator_next hj.typeIs F.entry_tuple_iterator_next ?_ (F.args_tuple_iterator_next_1 _)))
 show wpAny _ _ (field (.ref jt) 0>>=_) _ _ s
 refine XA (wpAny_field hob hda (x:=.ref q) rfl ?_)
 show wpAny _ _ (if (Value.ref q==Value.none)=true then _ else _) _ _ s
 rw[XX (show ¬((Value.ref q==Value.none)=true) from YJ)]
 show wpAny _ _ (field (.ref jt) 1>>=_) _ _ s
 refine XA (wpAny_field hob hda (x:=.int i 0) rfl ?_)
 show wpAny _ _ (seqItems? (.ref q)>>=_) _ _ s
 refine XA (wpAny_seqItems hoq hdq ?_)
 simp only[Int.toNat_natCast,hx]
 refine wpAny_bind (wpAny_rule (wpAny_bind (wpAny_setField hob hda (by simp) ?_)))
 refine XA ?_
 simp only[newExc,newTuple]
 refine XA (wpAny_newObj_type ?_ (by size_fits))
 refine wpAny_bind (m:=firstArgMember _ _) (wpAny_of_eq (a:=Value.none) (by first | rfl | (simp only[firstArgMember]<;>rfl)) ?_)
 refine wpAny_newObj_type ?_ (by size_fits)
 simp only[raiseNew]
 refine XA (wpAny_handled ?_)
 rw[show A.in1.handled=none from hh]
 exact XA (XB (wpAny_throw (hE _ _ (((Heap.SameBut.update ..).extBut.push _).push _) ⟨_,XF _ rfl,rfl⟩)))
end
theorem Za8 {prog:Program}{w:World}{A:Around}(hh:A.handled=none)(jt q:Addr)(hne:q≠jt)(its:Array Value):
  Draws prog w A jt [jt,q] its.size (fun i v=>its[i]?=some v) (fun i h=>h.IsTupleIter jt q i∧h.IsTuple q its) where
 live:=fun _ _ st=>let ⟨o,ho,_⟩:=st.1;⟨o,ho⟩
 frame:=fun _ _ _ st k=>⟨st.1.at fun o e=>k jt (by simp) o e,st.2.at fun o e=>k q (by simp) o e⟩
 item:=fun i s Q E hi st hQ=>Zx9 st.1 st.2 (x:=its[i]) (by simp[hi]) fun h2 a b=>hQ _ h2 s.toks (by simp[hi]) ⟨a,st.2.extBut b.extBut hne⟩ b
 done:=fun s Q E st hE=>Z1o hh st.1 st.2 (by simp) hE
structure ZAp (z TI TO i1 i2:Addr)(f1 f2:List Addr):Prop where
 m1:i1∈f1
 m2:i2∈f2
 z1:z∉f1
 z2:z∉f2
 o1:TO∉f1
 o2:TO∉f2
 a12:i1∉f2
 a21:i2∉f1
 tz:TI≠z
 oz:TO≠z
 io:TI≠TO
 t1:TI≠i1
 t2:TI≠i2
section
variable {prog:Program}{w:World}{A:Around}{E:Value→Shared→Prop}{s:Shared}{z TI TO i1 i2:Addr}{f1 f2:List Addr}{n:Nat}{P1 P2:Nat→Value→Prop}{S1 S2:Nat→Heap→Prop}
theorem Zrl {i:Nat}{u v:Value}{Q:Value→Shared→Prop}(D1:Draws prog w A i1 f1 n P1 S1)(D2:Draws prog w A i2 f2 n P2 S2)(Z:ZAp z TI TO i1 i2 f1 f2)(hi:i<n)
  (hz:IsZip s.heap z TI TO .none) (hTI:IsPair s.heap TI (.ref i1) (.ref i2)) (hTO:IsPair s.heap TO u v) (s1:S1 i s.heap) (s2:S2 i s.heap)
  (hQ:∀x y h2 t2,P1 i x→P2 i y→IsZip h2 z TI TO (rawInt s.heap.objs.size)→IsPair h2 TO x y→S1 (i+1) h2→S2 (i+1) h2→IsPair h2 s.heap.objs.size x y→
   (∀c o,c≠z→c≠TO→c≠i1→c≠i2→s.heap.get? c=some o→h2.get? c=some o)→Q (.ref s.heap.objs.size) {s with heap:=h2,toks:=t2}):
  wpAny (model prog w) A (Builtin.«zip.__next__» ⟨[.ref z],[]⟩) (fun fin s2=>∃r,fin=.done (.ret r)∧Q r s2) E s:=by
 show wpAny _ _ (field (.ref z) 2>>=_) _ E s
 refine XA (wpAny_field hz rfl (x:=.bool false) rfl ?_)
 show wpAny _ _ (field (.ref z) 3>>=_) _ E s
 refine XA (wpAny_field hz rfl (x:=.ref TI) rfl ?_)
 refine XA (wpAny_seqItems hTI rfl ?_)
 show wpAny _ _ (Builtin.SmallTypes.ownedTupleIsFree (.ref z)>>=_) _ E s
 refine XA ?_
 unfold Builtin.SmallTypes.ownedTupleIsFree
 refine XA (wpAny_field hz rfl (x:=.none) rfl (XB ?_))
 simp only[if_true]
 refine XA (wpAny_rule ?_)
 refine XA (wpAny_field hz rfl (x:=.ref TO) rfl ?_)
 refine wpAny_bind (wpAny_setField_rec hz (by simp) fun ha hza sa=>?_)
 replace hza:IsZip ha z TI TO .ellipsis:=hza
 refine XA ?_
 simp only[List.zipIdx_cons,List.zipIdx_nil,List.forIn_cons,List.forIn_nil]
 have ne:∀{b c:Addr} {l:List Addr},b∈l→c∉l→b≠c:=fun hb hc e=>hc (e▸hb)
 have a1:S1 i ha:=D1.frame i _ _ s1 fun b hb o e=>sa.extBut _ _ (ne hb Z.z1) e
 have a2:S2 i ha:=D2.frame i _ _ s2 fun b hb o e=>sa.extBut _ _ (ne hb Z.z2) e
 refine XA (XA (wpAny_onRaise ?_))
 show wpAny _ _ (Builtin.SmallTypes.nextOf (.ref i1)>>=_) _ _ _
 refine XA (D1.item i {s with heap:=ha} _ _ hi a1 fun x hb tb hx b1 sb=>XB ?_)
 have b2:S2 i hb:=D2.frame i _ _ a2 fun b hm o e=>sb.extBut _ _ (ne hm Z.a12) e
 have Oi1:TO≠i1:=fun e=>Z.o1 (e▸Z.m1)
 have Oi2:TO≠i2:=fun e=>Z.o2 (e▸Z.m2)
 have zi1:z≠i1:=fun e=>Z.z1 (e▸Z.m1)
 have zi2:z≠i2:=fun e=>Z.z2 (e▸Z.m2)
 have tob:IsPair hb TO u v:=sb.extBut _ _ Oi1 (sa.extBut _ _ Z.oz hTO)
 refine XA (wpAny_seqItems tob rfl ?_)
 refine XA (wpAny_updateSeq_pair tob fun hc toc sc=>?_)
 replace toc:IsPair hc TO x v:=toc
 refine XA (wpAny_letGo (XB ?_))
 have c1:S1 (i+1) hc:=D1.frame _ _ _ b1 fun b hm o e=>sc.extBut _ _ (ne hm Z.o1) e
 have c2:S2 i hc:=D2.frame _ _ _ b2 fun b hm o e=>sc.extBut _ _ (ne hm Z.o2) e
 refine XA (XA (wpAny_onRaise ?_))
 show wpAny _ _ (Builtin.SmallTypes.nextOf (.ref i2)>>=_) _ _ _
 refine XA (D2.item i {s with heap:=hc,toks:=tb} _ _ hi c2 fun y hd td hy d2 sd=>XB ?_)
 have d1:S1 (i+1) hd:=D1.frame _ _ _ c1 fun b hm o e=>sd.extBut _ _ (ne hm Z.a21) e
 have tod:IsPair hd TO x v:=sd.extBut _ _ Oi2 toc
 refine XA (wpAny_seqItems tod rfl ?_)
 refine XA (wpAny_updateSeq_pair tod fun he toe se=>?_)
 replace toe:IsPair he TO x y:=toe
 refine XA (wpAny_letGo (XB (XB ?_)))
 have e1:S1 (i+1) he:=D1.frame _ _ _ d1 fun b hm o e=>se.extBut _ _ (ne hm Z.o1) e
 have e2:S2 (i+1) he:=D2.frame _ _ _ d2 fun b hm o e=>se.extBut _ _ (ne hm Z.o2) e
 refine XA (wpAny_seqItems toe rfl ?_)
 refine XA (wpAny_newTuple ?_)
 have hsz:he.objs.size=s.heap.objs.size:=by rw[se.1,sd.1,sc.1,sb.1,sa.1]
 have hze:IsZip he z TI TO .ellipsis:=se.extBut _ _ Z.oz.symm (sd.extBut _ _ zi2 (sc.extBut _ _ Z.oz.symm (sb.extBut _ _ zi1 hza)))
 have hke:∀c o,c≠z→c≠TO→c≠i1→c≠i2→s.heap.get? c=some o→he.get? c=some o:=fun c o n1 n2 n3 n4 e=>se.extBut _ _ n2 (sd.extBut _ _ n4 (sc.extBut _ _ n2 (sb.extBut _ _ n3 (sa.extBut _ _ n1 e))))
 have hzlt:z<he.objs.size:=XD hze
 show wpAny _ _ (Builtin.SmallTypes.ownedTupleHandOut (.ref z) (.ref he.objs.size)>>=_) _ _ _
 refine XA ?_
 unfold Builtin.SmallTypes.ownedTupleHandOut
 have hzf:IsZip (he.push {cls:=.type "tuple",data:=.seq #[x,y]}) z TI TO .ellipsis:=XC _ hze
 refine wpAny_bind (wpAny_setField_rec hzf (by simp) fun hg hzg sg=>?_)
 replace hzg:IsZip hg z TI TO (rawInt he.objs.size):=hzg
 refine wpAny_setField_rec hzg (by simp) fun hk hzk sk=>?_
 replace hzk:IsZip hk z TI TO (rawInt he.objs.size):=hzk
 have up:∀c o,c≠z→he.get? c=some o→hk.get? c=some o:=fun c o n1 e=>sk.extBut _ _ n1 (sg.extBut _ _ n1 (XC _ e))
 have hT:IsPair hk he.objs.size x y:=sk.extBut _ _ (Nat.ne_of_gt hzlt) (sg.extBut _ _ (Nat.ne_of_gt hzlt) (XF _ rfl))
 rw[hsz] at hzk hT
 refine XB ⟨_,rfl,?_⟩
 show Q (.ref he.objs.size) _
 rw[hsz]
 exact hQ x y hk td hx hy hzk (up _ _ Z.oz toe) (D1.frame _ _ _ e1 fun b hm o e=>up _ o (ne hm Z.z1) e) (D2.frame _ _ _ e2 fun b hm o e=>up _ o (ne hm Z.z2) e) hT fun c o n1 n2 n3 n4 e=>up c o n1 (hke c o n1 n2 n3 n4 e)
theorem Zt6 {u v:Value}{Q:Fin→Shared→Prop}(D1:Draws prog w A i1 f1 n P1 S1)(Z:ZAp z TI TO i1 i2 f1 f2)
  (hz:IsZip s.heap z TI TO .none) (hTI:IsPair s.heap TI (.ref i1) (.ref i2)) (hTO:IsPair s.heap TO u v) (s1:S1 n s.heap)
  (hE:∀h2 ex,(∀c o,c≠z→c≠TO→c≠i1→c≠i2→s.heap.get? c=some o→h2.get? c=some o)→(∃o,h2.get? ex=some o∧o.cls=.type "StopIteration")→E (.ref ex) {s with heap:=h2}):
  wpAny (model prog w) A (Builtin.«zip.__next__» ⟨[.ref z],[]⟩) Q E s:=by
 show wpAny _ _ (field (.ref z) 2>>=_) _ E s
 refine XA (wpAny_field hz rfl (x:=.bool false) rfl ?_)
 show wpAny _ _ (field (.ref z) 3>>=_) _ E s
 refine XA (wpAny_field hz rfl (x:=.ref TI) rfl ?_)
 refine XA (wpAny_seqItems hTI rfl ?_)
 show wpAny _ _ (Builtin.SmallTypes.ownedTupleIsFree (.ref z)>>=_) _ E s
 refine XA ?_
 unfold Builtin.SmallTypes.ownedTupleIsFree
 refine XA (wpAny_field hz rfl (x:=.none) rfl (XB ?_))
 simp only[if_true]
 refine XA (wpAny_rule ?_)
 refine XA (wpAny_field hz rfl (x:=.ref TO) rfl ?_)
 refine wpAny_bind (wpAny_setField_rec hz (by simp) fun ha hza sa=>?_)
 replace hza:IsZip ha z TI TO .ellipsis:=hza
 refine XA ?_
 simp only[List.zipIdx_cons,List.zipIdx_nil,List.forIn_cons,List.forIn_nil]
 have ne:∀{b c:Addr} {l:List Addr},b∈l→c∉l→b≠c:=fun hb hc e=>hc (e▸hb)
 have a1:S1 n ha:=D1.frame n _ _ s1 fun b hb o e=>sa.extBut _ _ (ne hb Z.z1) e
 refine XA (XA (wpAny_onRaise ?_))
 show wpAny _ _ (Builtin.SmallTypes.nextOf (.ref i1)>>=_) _ _ _
 refine XA (D1.done {s with heap:=ha} _ _ a1 fun hb ex sb he=>?_)
 obtain⟨oe,hoe,hce⟩:=he
 have hzb:IsZip hb z TI TO .ellipsis:=sb _ _ (fun e=>Z.z1 (e▸Z.m1)) hza
 have hez:ex≠z:=fun e=>by subst e;rw[hzb] at hoe;cases hoe;simp at hce
 exact wpAny_setField_rec hzb (by simp) fun hc _ sc=>hE hc ex (fun c o n1 _ n3 _ e=>sc.extBut _ _ n1 (sb _ _ n3 (sa.extBut _ _ n1 e))) ⟨oe,sc.extBut _ _ hez hoe,hce⟩
theorem Zn3 (D1:Draws prog w A.in1 i1 f1 n P1 S1)(D2:Draws prog w A.in1 i2 f2 n P2 S2)(Z:ZAp z TI TO i1 i2 f1 f2):
  WalksT prog w A z (z::TI::TO::(f1++f2)) [z,TO,i1,i2] n (fun i vals=>∃x y,P1 i x∧P2 i y∧vals=#[x,y])
   (fun i h=>IsZip h z TI TO .none∧IsPair h TI (.ref i1) (.ref i2)∧(∃a b,IsPair h TO a b)∧S1 i h∧S2 i h)
   (fun i T h=>IsZip h z TI TO (rawInt T)∧IsPair h TI (.ref i1) (.ref i2)∧(∃a b,IsPair h TO a b)∧S1 (i+1) h∧S2 (i+1) h∧T∉[z,TO,i1,i2]) where
 sub:=fun c hc=>by
  simp only[ZM,ZN,or_false] at hc
  rcases hc with rfl | rfl | rfl | rfl
  ·simp
  ·simp
  ·simp[Z.m1]
  ·simp[Z.m2]
 frame:=fun i h h2 st k=>by
  obtain⟨a,b,⟨u,v,c⟩,d,e⟩:=st
  exact⟨k z (by simp) _ a,k TI (by simp) _ b,⟨u,v,k TO (by simp) _ c⟩,D1.frame _ _ _ d fun x hx o q=>k x (by simp[hx]) o q,D2.frame _ _ _ e fun x hx o q=>k x (by simp[hx]) o q⟩
 item:=fun i s Q E hi st hQ=>by
  obtain⟨a,b,⟨u,v,c⟩,d,e⟩:=st
  have hT:s.TypeIs (.ref z) "zip":=⟨_,a,rfl⟩
  unfold pyNext
  refine XA (wpAny_attempt (wpAny_callSpecial?_slot (name:=Str.ofString "__next__") hT F.slot_zip_next (wpAny_call_entry F.slot_zip_next hT F.entry_zip_next
   (Zrl D1 D2 Z hi a b c d e fun x y h2 t2 hx hy z1 z2 z3 z4 z5 z6=>XB ?_) (F.args_zip_next_1 _))))
  have lt:∀{c o},s.heap.get? c=some o→s.heap.objs.size≠c:=fun e=>Nat.ne_of_gt (XD e)
  obtain⟨o1,l1⟩:=D1.live _ _ d
  obtain⟨o2,l2⟩:=D2.live _ _ e
  refine hQ s.heap.objs.size #[x,y] h2 t2 ⟨x,y,hx,hy,rfl⟩ (Nat.le_refl _) ⟨_,z5,rfl,_,rfl⟩ ⟨z1,z6 _ _ Z.tz Z.io Z.t1 Z.t2 b,⟨_,_,z2⟩,z3,z4,?_⟩ fun c o hc q=>z6 c o (fun x=>hc (by simp[x])) (fun x=>hc (by simp[x])) (fun x=>hc (by simp[x])) (fun x=>hc (by simp[x])) q
  simp only[List.mem_cons,List.not_mem_nil,or_false,not_or]
  exact⟨lt a,lt c,lt l1,lt l2⟩
 go:=fun elts k pos i T s Q E hm hQ=>by
  obtain⟨a,b,⟨u,v,c⟩,d,e,_⟩:=hm
  refine wpAny_letOwnedTupleGo_zip a fun h2 hz2 s2=>hQ h2 ⟨hz2,s2.extBut _ _ Z.tz b,⟨u,v,s2.extBut _ _ Z.oz c⟩,?_,?_⟩ fun c o hc q=>s2.extBut _ _ (fun x=>hc (by simp[x])) q
  ·exact D1.frame _ _ _ d fun x hx o q=>s2.extBut _ _ (fun z'=>Z.z1 (z'▸hx)) q
  ·exact D2.frame _ _ _ e fun x hx o q=>s2.extBut _ _ (fun z'=>Z.z2 (z'▸hx)) q
 apart:=fun i T h hm=>hm.2.2.2.2.2
 done:=fun s Q E st hQ=>by
  obtain⟨a,b,⟨u,v,c⟩,d,e⟩:=st
  have hT:s.TypeIs (.ref z) "zip":=⟨_,a,rfl⟩
  unfold pyNext
  refine XA (wpAny_attempt (wpAny_callSpecial?_slot (name:=Str.ofString "__next__") hT F.slot_zip_next (wpAny_call_entry F.slot_zip_next hT F.entry_zip_next (Zt6 D1 Z a b c d fun h2 ex hk he=>?_) (F.args_zip_next_1 _))))
  obtain⟨o,ho,hc⟩:=he
  refine XA (wpAny_isInstance (T:="StopIteration") (b:=true) ⟨o,ho,hc⟩ isSubtype_stop ?_)
  exact wpAny_pure (hQ h2 s.toks fun c o hc q=>hk c o (fun x=>hc (by simp[x])) (fun x=>hc (by simp[x])) (fun x=>hc (by simp[x])) (fun x=>hc (by simp[x])) q)
 self:=fun i s Q E st h=>wpAny_pyIter_zip st.1 h
end
abbrev itOb (c:String)(l:Addr):Obj:={cls:=.type c,data:=.fields #[.ref l,.int 0 0]}
abbrev zA (h:Heap)(c1:String)(l1:Addr):Heap:=h.push (itOb c1 l1)
abbrev zB (h:Heap)(c1:String)(l1:Addr)(c2:String)(l2:Addr):Heap:=(zA h c1 l1).push (itOb c2 l2)
abbrev zC (h:Heap)(c1:String)(l1:Addr)(c2:String)(l2:Addr):Heap:=(zB h c1 l1 c2 l2).push {cls:=.type "tuple",data:=.seq #[.ref h.objs.size,.ref (zA h c1 l1).objs.size]}
abbrev zD (h:Heap)(c1:String)(l1:Addr)(c2:String)(l2:Addr):Heap:=(zC h c1 l1 c2 l2).push {cls:=.type "tuple",data:=.seq #[.none,.none]}
abbrev zE (h:Heap)(c1:String)(l1:Addr)(c2:String)(l2:Addr):Heap:=(zD h c1 l1 c2 l2).push {cls:=.type "zip",data:=.fields #[.none,.bool false,.bool false,.ref (zB h c1 l1 c2 l2).objs.size,.ref (zC h c1 l1 c2 l2).objs.size]}
theorem mz_tl (l1 l2:Addr)(xs ys:Array Value):Meets (Builtin.«zip.__new__» ⟨[.type "zip",.ref l1,.ref l2],[]⟩) (fun _ R s=>s.heap.IsTuple l1 xs∧s.heap.IsList l2 ys∧
  R (.ok (.ret (.ref (zD s.heap "tuple_iterator" l1 "list_iterator" l2).objs.size))) {s with heap:=zE s.heap "tuple_iterator" l1 "list_iterator" l2}):=
 .of_wp fun prog w A R s h=>by
  obtain⟨hp,g,d,tk,os⟩:=s;obtain⟨hl1,hl2,h⟩:=h
  have hsub:=sub_zip
  have hL1:Heap.IsTuple (Shared.heap ⟨hp,g,d,tk,os⟩) l1 xs:=hl1
  have hL2:Heap.IsList (Shared.heap ⟨hp.push {cls:=.type "tuple_iterator",data:=.fields #[.ref l1,.int 0 0]},g,d,tk,os⟩) l2 ys:=Heap.IsList.push hl2 _
  wp_walk using wpAny_pyIter_tuple hL1,wpAny_pyIter_list hL2
  exact⟨_,rfl,h⟩
theorem mz_tt (l1 l2:Addr)(xs ys:Array Value):Meets (Builtin.«zip.__new__» ⟨[.type "zip",.ref l1,.ref l2],[]⟩) (fun _ R s=>s.heap.IsTuple l1 xs∧s.heap.IsTuple l2 ys∧
  R (.ok (.ret (.ref (zD s.heap "tuple_iterator" l1 "tuple_iterator" l2).objs.size))) {s with heap:=zE s.heap "tuple_iterator" l1 "tuple_iterator" l2}):=
 .of_wp fun prog w A R s h=>by
  obtain⟨hp,g,d,tk,os⟩:=s;obtain⟨hl1,hl2,h⟩:=h
  have hsub:=sub_zip
  have hL1:Heap.IsTuple (Shared.heap ⟨hp,g,d,tk,os⟩) l1 xs:=hl1
  have hL2:Heap.IsTuple (Shared.heap ⟨hp.push {cls:=.type "tuple_iterator",data:=.fields #[.ref l1,.int 0 0]},g,d,tk,os⟩) l2 ys:=Heap.IsTuple.push hl2 _
  wp_walk using wpAny_pyIter_tuple hL1,wpAny_pyIter_tuple hL2
  exact⟨_,rfl,h⟩
structure ZNew (h h2:Heap)(c1:String)(l1:Addr)(c2:String)(l2:Addr):Prop where
 zip:IsZip h2 (h.objs.size+4) (h.objs.size+2) (h.objs.size+3) .none
 its:IsPair h2 (h.objs.size+2) (.ref h.objs.size) (.ref (h.objs.size+1))
 own:IsPair h2 (h.objs.size+3) .none .none
 i1:h2.get? h.objs.size=some (itOb c1 l1)
 i2:h2.get? (h.objs.size+1)=some (itOb c2 l2)
 keep:∀c o,h.get? c=some o→h2.get? c=some o
theorem znew (h:Heap)(c1:String)(l1:Addr)(c2:String)(l2:Addr):ZNew h (zE h c1 l1 c2 l2) c1 l1 c2 l2∧(zD h c1 l1 c2 l2).objs.size=h.objs.size+4:=by
 have z1:(zA h c1 l1).objs.size=h.objs.size+1:=Heap.size_push ..
 have z2:(zB h c1 l1 c2 l2).objs.size=h.objs.size+2:=by rw[Heap.size_push,z1]
 have z3:(zC h c1 l1 c2 l2).objs.size=h.objs.size+3:=by rw[Heap.size_push,z2]
 have z4:(zD h c1 l1 c2 l2).objs.size=h.objs.size+4:=by rw[Heap.size_push,z3]
 have g5:(zE h c1 l1 c2 l2).get? (zD h c1 l1 c2 l2).objs.size=some _:=XF _ rfl
 have g4:(zE h c1 l1 c2 l2).get? (zC h c1 l1 c2 l2).objs.size=some _:=XC _ (XF _ rfl)
 have g3:(zE h c1 l1 c2 l2).get? (zB h c1 l1 c2 l2).objs.size=some _:=XC _ (XC _ (XF _ rfl))
 have g2:(zE h c1 l1 c2 l2).get? (zA h c1 l1).objs.size=some _:=XC _ (XC _ (XC _ (XF _ rfl)))
 have g1:(zE h c1 l1 c2 l2).get? h.objs.size=some _:=XC _ (XC _ (XC _ (XC _ (XF _ rfl))))
 rw[z2,z3,z4] at g5
 rw[z1,z2] at g3
 rw[z3] at g4
 rw[z1] at g2
 exact⟨⟨g5,g3,g4,g1,g2,fun c o x=>XC _ (XC _ (XC _ (XC _ (XC _ x))))⟩,z4⟩
section
variable {prog:Program}{w:World}{A:Around}{E:Value→Shared→Prop}{s:Shared}
theorem Zpy {l1 l2:Addr}{xs ys:Array Value}{Q:Value→Shared→Prop}(hl1:s.heap.IsTuple l1 xs)(hl2:s.heap.IsList l2 ys)
  (h:∀h2,ZNew s.heap h2 "tuple_iterator" l1 "list_iterator" l2→Q (.ref (s.heap.objs.size+4)) {s with heap:=h2}):wpAny (model prog w) A (call (.type "zip") [.ref l1,.ref l2]) Q E s:=by
 refine callType_new PySem.F.called_zip (by decide) (PySem.F.typeCall_zip_2 _ _) (PySem.F.newCall_zip_2 _ _) (fun obj=>PySem.F.args_object_init_3 obj _ _) PySem.F.entry_zip_new (mz_tl l1 l2 xs ys) ⟨hl1,hl2,?_⟩
 obtain⟨N,e⟩:=znew s.heap "tuple_iterator" l1 "list_iterator" l2
 show _∧_
 rw[e]
 exact⟨⟨_,N.zip,rfl⟩,h _ N⟩
theorem Zim {l1 l2:Addr}{xs ys:Array Value}{Q:Value→Shared→Prop}(hl1:s.heap.IsTuple l1 xs)(hl2:s.heap.IsTuple l2 ys)
  (h:∀h2,ZNew s.heap h2 "tuple_iterator" l1 "tuple_iterator" l2→Q (.ref (s.heap.objs.size+4)) {s with heap:=h2}):wpAny (model prog w) A (call (.type "zip") [.ref l1,.ref l2]) Q E s:=by
 refine callType_new PySem.F.called_zip (by decide) (PySem.F.typeCall_zip_2 _ _) (PySem.F.newCall_zip_2 _ _) (fun obj=>PySem.F.args_object_init_3 obj _ _) PySem.F.entry_zip_new (mz_tt l1 l2 xs ys) ⟨hl1,hl2,?_⟩
 obtain⟨N,e⟩:=znew s.heap "tuple_iterator" l1 "tuple_iterator" l2
 show _∧_
 rw[e]
 exact⟨⟨_,N.zip,rfl⟩,h _ N⟩
theorem Zl2 {k l1 l2:Addr}(h1:l1<k)(h2:l2<k):ZAp (k+4) (k+2) (k+3) k (k+1) [k,l1] [k+1,l2]:=by
 have e:∀{a b:Nat},a≠b→∀{l:List Nat},a∉l→a∉b::l:=fun h _ h'=>by simp[h,h']
 have n:∀a:Nat,a∉([]:List Nat):=fun a=>by simp
 have L1:(l1:Nat)<k:=h1
 have L2:(l2:Nat)<k:=h2
 have d:∀{a b:Nat},a<b∨b<a→a≠b:=fun h e=>by omega
 exact⟨by simp,by simp,e (d (.inr (Nat.lt_add_of_pos_right (by decide)))) (e (d (.inr (Nat.lt_of_lt_of_le L1 (Nat.le_add_right _ _)))) (n _)),e (d (.inr (Nat.add_lt_add_left (by decide) k))) (e (d (.inr (Nat.lt_of_lt_of_le L2 (Nat.le_add_right _ _)))) (n _)),
  e (d (.inr (Nat.lt_add_of_pos_right (by decide)))) (e (d (.inr (XG L1 (Nat.le_add_right _ _)))) (n _)),e (d (.inr (Nat.add_lt_add_left (by decide) k))) (e (d (.inr (XG L2 (Nat.le_add_right _ _)))) (n _)),
  e (d (.inl (Nat.lt_add_of_pos_right (by decide)))) (e (d (.inr L2)) (n _)),e (d (.inr (Nat.lt_add_of_pos_right (by decide)))) (e (d (.inr (XG L1 (Nat.le_add_right _ _)))) (n _)),
  d (.inl (Nat.add_lt_add_left (by decide) k)),d (.inl (Nat.add_lt_add_left (by decide) k)),d (.inl (Nat.add_lt_add_left (by decide) k)),d (.inr (Nat.lt_add_of_pos_right (by decide))),d (.inr (Nat.add_lt_add_left (by decide) k))⟩
end
def SqX (b:Bool)(K:W.Frag)(H:Hp)(a:Addr)(xs:List V):Prop:=if b then SqL K H a xs else SqT K H a xs
def ItX (b:Bool)(h:Heap)(it l:Addr)(i:Nat):Prop:=if b then h.IsListIter it l i else h.IsTupleIter it l i
def SrX (b:Bool)(h:Heap)(l:Addr)(its:Array Value):Prop:=if b then h.IsList l its else h.IsTuple l its
def cX (b:Bool):String:=if b then "list_iterator" else "tuple_iterator"
theorem Zsg {prog:Program}{w:World}{A:Around}(b:Bool)(hh:A.handled=none)(it l:Addr)(hne:l≠it)(its:Array Value):
  Draws prog w A it [it,l] its.size (fun i v=>its[i]?=some v) (fun i h=>ItX b h it l i∧SrX b h l its):=by
 cases b
 ·exact Za8 hh it l hne its
 ·exact Draws.list hh it l hne its
section
variable {X:Cx}{pins:List (Addr×Obj)}{σ:St}{H:Hp}{s:Shared}
theorem Inv.sqX {b:Bool}{a:Addr}{xs:List V}(I:Inv X pins σ H s)(h:SqX b X.K H a xs):∃its:List Value,Vals xs its∧SrX b s.heap a its.toArray:=by
 cases b
 ·obtain⟨its,r,p,_⟩:=I.tuple h;exact⟨its,r,p⟩
 ·obtain⟨its,r,p,_⟩:=I.list h;exact⟨its,r,p.isList⟩
theorem Inv.sqX_inj {b:Bool}{a:Addr}{xs ys:List V}(I:Inv X pins σ H s)(h:SqX b X.K H a xs)(h':SqX b X.K H a ys):xs=ys:=by
 cases b
 ·exact I.tuple_inj h h'
 ·exact I.list_inj h h'
end
def Itz (b:Bool)(K:W.Frag)(l1 l2:Addr):It:=
 ⟨fun i H=>∃xs ys,SqT K H l1 xs∧SqX b K H l2 ys∧xs.length=ys.length∧i<xs.length,
  fun i H x H'=>∃u v T,(∀xs,SqT K H l1 xs→xs[i]?=some u)∧(∀ys,SqX b K H l2 ys→ys[i]?=some v)∧x=.ref T∧H T=none∧H'=upd H T (.tup [u,v]),
  fun i H=>∃xs ys,SqT K H l1 xs∧SqX b K H l2 ys∧xs.length=ys.length∧i=xs.length⟩
theorem Zuf {P:Program}{w:World}{K:W.Frag}{elts:List Expr}{ek:Nat}{epos:Pos}(b:Bool){k l1 l2:Addr}(h1:l1<k)(h2:l2<k):
  Turn P w K (.Tuple elts ek epos) (Itz b K l1 l2) [k+4,k+2,k+3,k,k+1] (k+4)
   (fun i h=>IsZip h (k+4) (k+2) (k+3) .none∧IsPair h (k+2) (.ref k) (.ref (k+1))∧(∃a c,IsPair h (k+3) a c)∧h.IsTupleIter k l1 i∧ItX b h (k+1) l2 i) where
 mem:=by simp
 obj:=fun i h st c hc=>by
  obtain⟨a1,a2,⟨u,v,a3⟩,a4,a5⟩:=st
  simp only[ZM,ZN,or_false] at hc
  rcases hc with rfl | rfl | rfl | rfl | rfl
  ·exact⟨_,a1,fun v z=>by have z':Data.fields _=Data.cell v:=z;cases z'⟩
  ·exact⟨_,a2,fun v z=>by have z':Data.seq _ _=Data.cell v:=z;cases z'⟩
  ·exact⟨_,a3,fun v z=>by have z':Data.seq _ _=Data.cell v:=z;cases z'⟩
  ·obtain⟨o,e,c,d⟩:=a4;exact⟨o,e,fun v z=>by rw[d] at z;cases z⟩
  ·cases b
   ·obtain⟨o,e,c,d⟩:=a5;exact⟨o,e,fun v z=>by rw[d] at z;cases z⟩
   ·obtain⟨o,e,c,d⟩:=a5;exact⟨o,e,fun v z=>by rw[d] at z;cases z⟩
 keep:=fun i h h' st kp=>by
  obtain⟨a1,a2,⟨u,v,a3⟩,a4,a5⟩:=st
  refine⟨kp _ (by simp) _ a1,kp _ (by simp) _ a2,⟨u,v,kp _ (by simp) _ a3⟩,a4.at fun o e=>kp _ (by simp) o e,?_⟩
  cases b
  ·exact Heap.IsTupleIter.at a5 fun o e=>kp _ (by simp) o e
  ·exact Heap.IsListIter.at a5 fun o e=>kp _ (by simp) o e
 item:=by
  intro X hP hw hK hc i pins s σ H E I hf st hg
  subst hP hw hK
  obtain⟨xs,ys,hq1,hq2,hlen,hi⟩:=hg
  obtain⟨its1,rv1,p1,_⟩:=I.tuple hq1
  obtain⟨its2,rv2,p2⟩:=I.sqX hq2
  obtain⟨a1,a2,a3,a4,a5⟩:=st
  have hn1:its1.toArray.size=xs.length:=by rw[XJ,rv1.length]
  have hn2:its2.toArray.size=xs.length:=by rw[XJ,←rv2.length,hlen]
  have D1:=Za8 (prog:=X.prog) (w:=X.w) (A:=X.A.in1) (I.ok.hd hc) k l1 (XH h1) its1.toArray
  have D2:=Zsg (prog:=X.prog) (w:=X.w) (A:=X.A.in1) b (I.ok.hd hc) (k+1) l2 (XH (Nat.lt_succ_of_lt h2)) its2.toArray
  rw[hn1] at D1
  rw[hn2] at D2
  have W:=Zn3 D1 D2 (Zl2 h1 h2)
  refine W.item i s _ _ hi ⟨a1,a2,a3,⟨a4,p1⟩,⟨a5,p2⟩⟩ fun T vals h' tk hv hT htup hm kk=>?_
  obtain⟨x,y,hx,hy,rfl⟩:=hv
  refine⟨_,rfl,W.go elts ek epos i T {s with heap:=h',toks:=tk} _ _ hm fun h2 st2 kk2=>?_⟩
  have hu:xs[i]?=some xs[i]:=by simp[hi]
  have hv:ys[i]?=some (ys[i]'(by omega)):=by simp[show i<ys.length by omega]
  obtain⟨u1,e1,r1⟩:=rv1.get hu
  obtain⟨u2,e2,r2⟩:=rv2.get hv
  have ex:x=u1:=by
   have:its1[i]?=some x:=by simpa using hx
   rw[e1] at this;exact(YH this).symm
  have ey:y=u2:=by
   have:its2[i]?=some y:=by simpa using hy
   rw[e2] at this;exact(YH this).symm
  subst ex ey
  have hTn:H T=none:=I.hok.fresh hT
  have hTw:T∉[k+4,k+3,k,k+1]:=W.apart i T h' hm
  have sub:∀c,c∈[k+4,k+3,k,k+1]→c∈[k+4,k+2,k+3,k,k+1]:=fun c hc=>by
   simp only[ZM,ZN,or_false] at hc ⊢
   rcases hc with z | z | z | z<;>simp[z]
  have k2:∀c o,c∉[k+4,k+3,k,k+1]→s.heap.get? c=some o→h2.get? c=some o:=fun c o hb q=>kk2 c o hb (kk c o hb q)
  have htup2:IsTup h2 T #[x,y]:=by
   obtain⟨o,ho,r⟩:=htup
   exact⟨o,kk2 T o hTw ho,r⟩
  have hfp:∀c∈[k+4,k+3,k,k+1],H c=none:=fun c hb=>(hf c (sub c hb)).1
  have hne:∀c,c<s.heap.objs.size→c≠T:=fun c hb=>XH (XG hb hT)
  have tracked:∀c u,H c=some u→c≠T∧c∉[k+4,k+3,k,k+1]:=fun c u q=>⟨hne c (I.hok.lt q),fun z=>by rw[hfp c z] at q;cases q⟩
  have I1:Inv X pins σ (upd H T (.tup [xs[i],ys[i]'(by omega)])) {s with heap:=h2,gens:=s.gens,drawn:=s.drawn,toks:=tk}:=by
   refine I.step (ch:=[k+4,k+3,k,k+1]) (fun c hb=>?_) (fun c o _ _ hc q _=>k2 c o hc q) (fun c o _ _ hc q _=>⟨o.slots,k2 c o hc q⟩) (fun c o hc q n=>by rw[Yc (hne c (XD q))];exact n) (fun c o hc q=>⟨o,k2 c o hc q⟩)
    (fun c xs q=>by rw[Yc (tracked c _ q).1];exact q) (fun c o u q=>by rw[Yc (tracked c _ q).1];exact q) (fun c ps q=>⟨#[],by rw[Yc (tracked c _ q).1,q];simp⟩) (fun m hm=>?_) (fun c u q=>?_) I.bare
   ·obtain⟨f0,f1,f2,f3,f4,f5⟩:=hf c (sub c hb)
    exact⟨f3,f1,f4,f5⟩
   ·obtain⟨o,es,ep,ho,r⟩:=hm
    exact⟨o,es,ep,k2 _ o (fun z=>(hf _ (sub _ z)).2.1 rfl) ho,r⟩
   ·by_cases hb:c=T
    ·subst hb
     rw[Yo] at q;cases q
     exact⟨XN (by decide:2≤1000) (Nat.le_of_lt (small1000 (XE _))),[x,y],.cons r1 (.cons r2 .nil),htup2⟩
    ·rw[Yc hb] at q
     refine(I.hok c u q).stay (fun d v hd r=>k2 d v ?_ r) (fun d r=>by rw[Yc (tracked d _ r).1];exact r) fun d xs r=>by rw[Yc (tracked d _ r).1];exact r
     rcases hd with rfl | hd
     ·exact(tracked d _ q).2
     ·exact(tracked d _ hd).2
  obtain⟨b1,b2,b3,⟨b4,_⟩,⟨b5,_⟩⟩:=st2
  refine⟨.ref T,_,I1,rfl,⟨_,_,T,fun zs hz=>by rw[I.tuple_inj hz hq1];exact hu,fun zs hz=>by rw[I.sqX_inj hz hq2];exact hv,rfl,hTn,rfl⟩,⟨b1,b2,b3,b4,b5⟩,fun c hb=>?_⟩
  have hbT:c≠T:=by
   obtain⟨o,ho⟩:∃o,s.heap.get? c=some o:=by
    obtain⟨u,v,a3⟩:=a3
    simp only[ZM,ZN,or_false] at hb
    rcases hb with rfl | rfl | rfl | rfl | rfl
    ·exact⟨_,a1⟩
    ·exact⟨_,a2⟩
    ·exact⟨_,a3⟩
    ·obtain⟨o,e,_⟩:=a4;exact⟨o,e⟩
    ·cases b
     ·obtain⟨o,e,_⟩:=a5;exact⟨o,e⟩
     ·obtain⟨o,e,_⟩:=a5;exact⟨o,e⟩
   exact hne c (XD ho)
  rw[Yc hbT];exact(hf c hb).1
 done:=by
  intro X hP hw hK hc i pins s σ H E I hf st hg
  subst hP hw hK
  obtain⟨xs,ys,hq1,hq2,hlen,hi⟩:=hg
  obtain⟨its1,rv1,p1,_⟩:=I.tuple hq1
  obtain⟨its2,rv2,p2⟩:=I.sqX hq2
  obtain⟨a1,a2,a3,a4,a5⟩:=st
  have hn1:its1.toArray.size=xs.length:=by rw[XJ,rv1.length]
  have hn2:its2.toArray.size=xs.length:=by rw[XJ,←rv2.length,hlen]
  have D1:=Za8 (prog:=X.prog) (w:=X.w) (A:=X.A.in1) (I.ok.hd hc) k l1 (XH h1) its1.toArray
  have D2:=Zsg (prog:=X.prog) (w:=X.w) (A:=X.A.in1) b (I.ok.hd hc) (k+1) l2 (XH (Nat.lt_succ_of_lt h2)) its2.toArray
  rw[hn1] at D1
  rw[hn2] at D2
  subst hi
  have W:=Zn3 D1 D2 (Zl2 h1 h2)
  have sub:∀c,c∈[k+4,k+3,k,k+1]→c∈[k+4,k+2,k+3,k,k+1]:=fun c hc=>by
   simp only[ZM,ZN,or_false] at hc ⊢
   rcases hc with z | z | z | z<;>simp[z]
  refine W.done s _ _ ⟨a1,a2,a3,⟨a4,p1⟩,⟨a5,p2⟩⟩ fun h' tk kk=>⟨rfl,?_⟩
  exact I.step (g':=s.gens) (d':=s.drawn) (ch:=[k+4,k+3,k,k+1]) (fun c hb=>let ⟨f0,f1,f2,f3,f4,f5⟩:=hf c (sub c hb);⟨f3,f1,f4,f5⟩) (fun c o _ _ hc q _=>kk c o hc q) (fun c o _ _ hc q _=>⟨o.slots,kk c o hc q⟩) (fun c o _ _ n=>n) (fun c o hc q=>⟨o,kk c o hc q⟩)
    (fun _ _ q=>q) (fun _ _ _ q=>q) (fun c ps q=>⟨#[],by rw[q];simp⟩) (fun m hm=>let ⟨o,es,ep,ho,r⟩:=hm;⟨o,es,ep,kk _ o (fun z=>(hf _ (sub _ z)).2.1 rfl) ho,r⟩)
    (fun c u q=>(I.hok c u q).stay (fun d v hd r=>kk d v (fun z=>by
     rcases hd with rfl | hd
     ·rw[(hf _ (sub _ z)).1] at q;cases q
     ·rw[(hf _ (sub _ z)).1] at hd;cases hd) r) (fun _ r=>r) fun _ _ r=>r) I.bare
 self:=fun A i s Q E st h=>wpAny_pyIter_zip st.1 h
section
variable {X:Cx}{elts:List Expr}{ek:Nat}{epos:Pos}
def iZip (K:W.Frag)(ta:TA):TI:=fun σ H R=>ta σ H fun vs H1=>∃(b:Bool) (l1 l2:Addr) (xs ys:List V),vs=[.ref l1,.ref l2]∧SqT K H1 l1 xs∧SqX b K H1 l2 ys∧R (Itz b K l1 l2) H1
theorem Z2e {a c:Expr}{ta:TA}{p pos:Pos}(hg:Gl X "zip")(hm:X.mg "zip"=none)(ha:PA X [a,c] ta)(hs:starEach [a,c] X.env=(false,eval a X.env)::starEach [c] X.env:=by rfl)(hp:(backTo pos (starEach [c] X.env)).any (·.1)=false:=by rfl)(hb:bootBuiltins "zip"=some (.type "zip"):=by decide+kernel):
  PI X (.Tuple elts ek epos) (.Call (.Name "zip" p) [a,c] [] pos) (iZip X.K ta):=by
 intro pins s σ H R I h
 refine Call_ (Zdo I hg hm hb (PyProof.Rows.callWith_type1 (thn (ha pos pins s σ H _ I h) fun us s1 ⟨vs,H1,I1,r1,q1⟩=>?_) hs hp))
 obtain⟨b,l1,l2,xs,ys,rfl,hq1,hq2,q⟩:=q1
 obtain⟨u,v,rfl,ru,rv⟩:=r1.two
 cases ru
 cases rv
 obtain⟨its1,rv1,p1,_⟩:=I1.tuple hq1
 obtain⟨its2,rv2,p2⟩:=I1.sqX hq2
 have lt1:l1<s1.heap.objs.size:=by obtain⟨_,e,_⟩:=p1;exact XD e
 have lt2:l2<s1.heap.objs.size:=by
  cases b
  ·obtain⟨_,e,_⟩:=p2;exact XD e
  ·obtain⟨_,e,_⟩:=p2;exact XD e
 have fin:∀h2,ZNew s1.heap h2 "tuple_iterator" l1 (cX b) l2→wpAny (model X.prog X.w) X.A (pyIter (.ref (s1.heap.objs.size+4))) (PIE X pins σ (.Tuple elts ek epos) R) X.xe {s1 with heap:=h2}:=fun h2 N=>by
  refine wpAny_pyIter_zip (s:={s1 with heap:=h2}) N.zip ?_
  refine⟨_,_,_,_,H1,rfl,I1.kept (t':=s1.toks) N.keep,Zuf b lt1 lt2,⟨N.zip,N.its,⟨_,_,N.own⟩,⟨_,N.i1,rfl,rfl⟩,?_⟩,fun c hc=>?_,q⟩
  ·cases b
   ·exact⟨_,N.i2,rfl,rfl⟩
   ·exact⟨_,N.i2,rfl,rfl⟩
  ·have e:s1.heap.objs.size≤c:=by
    simp only[ZM,ZN,or_false] at hc
    rcases hc with rfl | rfl | rfl | rfl | rfl
    ·exact Nat.le_add_right _ _
    ·exact Nat.le_add_right _ _
    ·exact Nat.le_add_right _ _
    ·exact XE _
    ·exact Nat.le_add_right _ _
   exact I1.fpOk e (I1.hok.fresh e)
 cases b
 ·exact Zim p1 p2 fin
 ·exact Zpy p1 p2 fin
end
section
variable {X:Cx}
theorem Zqi (bs:List Bool):((List.range bs.length).any fun i=>(bs[i]?).getD false)=bs.any id:=by
 rw[Bool.eq_iff_iff,List.any_eq_true,List.any_eq_true]
 constructor
 ·rintro⟨i,hi,h⟩
  have hi':=List.mem_range.mp hi
  exact⟨bs[i],List.getElem_mem hi',by simpa[hi'] using h⟩
 ·rintro⟨x,hx,h⟩
  obtain⟨i,hi,rfl⟩:=List.mem_iff_getElem.mp hx
  exact⟨i,List.mem_range.mpr hi,by simpa[hi] using h⟩
theorem Zt5 (hc:X.calm=true):Zbi X (.builtin "any") (fun xs H Q=>∃(p:Addr) (bs:List Bool),xs=[.ref p]∧SqL X.K H p (bs.map V.bl)∧Q (.bl (bs.any id)) H):=by
 intro pins s σ H xs us Q I r h
 obtain⟨p,bs,rfl,hq,q⟩:=h
 obtain⟨u,rfl,ru⟩:=vals1 r
 cases ru
 obtain⟨its,rv,pl,hz⟩:=I.list hq
 have hl:=pl.isList
 have hlt:p<s.heap.objs.size:=by obtain⟨_,e,_⟩:=hl;exact XD e
 have hlen:its.length=bs.length:=by have:=rv.length;simp at this;omega
 refine call_any_walk (wpAny_pyIter_list hl ?_)
 refine⟨s.heap.objs.size,[s.heap.objs.size,p],[s.heap.objs.size],its.toArray.size,_,_,fun i=>(bs[i]?).getD false,rfl,Walks.list (A:=X.A.in1) (I.ok.hd hc) _ p (XH hlt) its.toArray,
  ⟨⟨_,XF _ rfl,rfl,rfl⟩,hl.push _⟩,fun i v s' Q' E' hP hQ=>?_,fun h' tk hk=>?_⟩
 ·have hv:its[i]?=some v:=by simpa using hP
  have hi:i<its.length:=(List.getElem?_eq_some_iff.mp hv).1
  have hb:(bs.map V.bl)[i]?=some (.bl bs[i]):=by simp[show i<bs.length by omega]
  obtain⟨u,hu,ru⟩:=rv.get hb
  rw[hv] at hu;cases hu
  cases ru
  have e:(bs[i]?).getD false=bs[i]:=by simp[show i<bs.length by omega]
  have hQ2:Q' ((bs[i]?).getD false) s':=hQ
  rw[e] at hQ2
  exact wpAny_truthy_bool hQ2
 ·have e:((List.range its.toArray.size).any fun i=>(bs[i]?).getD false)=bs.any id:=by
   rw[XJ,hlen];exact Zqi bs
  rw[e]
  refine⟨.bl (bs.any id),H,I.kept fun b o x=>hk b o (fun hm=>?_) (XC _ x),rfl,q⟩
  have:=XQ.mp hm
  subst this
  exact Nat.lt_irrefl _ (XD x)
end
section
variable {prog:Program}{w:World}{K:Type}[DecidableEq K]{knd:KeyKind prog w K}
theorem Zg5:∀{es:List DictEntry} {kvs:List (K×Value)} {i:Nat} {e:DictEntry},Pairs knd es kvs→es[i]?=some e→∃kv,kvs[i]?=some kv∧knd.is kv.1 e.key=true∧e.val=kv.2
 | _,_,_,_,.nil,h=>by simp at h
 | _,_,0,_,.cons a b _,h=>by simp at h;subst h;exact⟨_,rfl,a,b⟩
 | _,_,i+1,e,.cons _ _ t,h=>by
  obtain⟨kv,h1,h2⟩:=Zg5 (i:=i) (e:=e) t (by simpa using h)
  exact⟨kv,by simpa using h1,h2⟩
theorem Zz7 {es:Array DictEntry}{kvs:List (K×Value)}(hp:Pairs knd es.toList kvs)(hn:(kvs.map (·.1)).Nodup){i:Nat}{kv:K×Value}(hi:kvs[i]?=some kv)(hl:i<es.size):(es.findIdx? fun e=>knd.is kv.1 e.key)=some i:=by
 rw[Array.findIdx?_eq_some_iff_getElem]
 have at_:∀j (hj:j<es.size),∃kv',kvs[j]?=some kv'∧knd.is kv'.1 es[j].key=true:=fun j hj=>by
  obtain⟨kv',h1,h2,_⟩:=Zg5 (i:=j) (e:=es[j]) hp (by simp[hj])
  exact⟨kv',h1,h2⟩
 refine⟨hl,?_,fun j hj=>?_⟩
 ·obtain⟨kv',h1,h2⟩:=at_ i hl
  rw[hi] at h1;cases h1;exact h2
 ·obtain⟨kv',h1,h2⟩:=at_ j (by omega)
  rw[KeyKind.is_eq_decide h2]
  intro z
  have hk:kv.1=kv'.1:=by simpa using z
  have e1:(kvs.map (·.1))[i]?=some kv.1:=by rw[XM,hi];rfl
  have e2:(kvs.map (·.1))[j]?=some kv.1:=by rw[XM,h1,hk];rfl
  have:=(List.getElem?_inj (by rw[XI];exact(List.getElem?_eq_some_iff.mp hi).1) hn).mp (e1.trans e2.symm)
  omega
end
end L2
namespace WL
open PySem PySem.Spec PyProof.Rows L2
section
variable {X:Cx}{e o a b f:Expr}{we wo wa wb wi wd:WE}{wA:WA}{p p2 pos pos2 apos cpos:Pos}
theorem Z4h:bootBuiltins "any"=some (.builtin "any"):=by decide+kernel
theorem Z0p:bootBuiltins "dict"=some (.type "dict"):=by decide+kernel
def bAny:List T→Hw→WK→Prop:=fun vs C Q=>∃(a:Addr) (bs:List Bool),vs=[.ref a]∧C a=some (.lst (bs.map T.bl))∧Q (.bl (bs.any id)) C
theorem b_any (hc:X.calm=true):Zf8 X (.builtin "any") bAny:=⟨_,Zt5 hc,fun F H C xs vs Q Q' R rs h q=>by
 obtain⟨a,bs,rfl,hx,h⟩:=h
 obtain⟨x,rfl,rx⟩:=Zar rs
 cases Yd rx
 obtain⟨ys,hy,r⟩:=R.lst hx
 cases Zoq r
 exact⟨a,bs,rfl,SqL.of hy,q _ _ H C R (Tx.refl H) Jr h⟩⟩
def Zpp (kvs:List (Key×T))(k:Key):List (Key×T):=kvs.filter fun kv=>decide (kv.1≠k)
theorem PR.drop {K:W.Frag}{H:Hp}{k:Key}:∀{ks:List (Key×V)} {kvs:List (Key×T)},PR K H ks kvs→PR K H (Zhk ks k) (Zpp kvs k)
 | _,_,.nil=>.nil
 | p::r,q::s,.cons h t=>by
  have ih:=PR.drop (k:=k) t
  unfold Zhk Zpp at ih ⊢
  by_cases c:q.1=k
  ·have c':p.1=k:=h.1.trans c
   rw[List.filter_cons_of_neg (by simp[c']),List.filter_cons_of_neg (by simp[c])]
   exact ih
  ·have c':¬p.1=k:=fun z=>c (h.1.symm.trans z)
   rw[List.filter_cons_of_pos (by simp[c']),List.filter_cons_of_pos (by simp[c])]
   exact .cons h ih
def Zre (o i d:WE):WE:=fun τ C Q χ=>o τ C (fun x C1=>(∃a kvs,x=.ref a∧C1 a=some (.dic kvs))∧i τ C1 (fun y C2=>d τ C2 (fun z C3=>∃a kvs k,x=.ref a∧kT y=some k∧C3 a=some (.dic kvs)∧
 (∀v,getT kvs k=some v→Q v (up C3 a (.dic (Zpp kvs k))))∧(getT kvs k=none→Q z C3)) χ) χ) χ
theorem Z0i (ho:SdE X o wo)(he:SdE X e wi)(hf:SdE X f wd)(m:M2 X o "pop" apos e f cpos):SdE X (.Call (.Attribute o "pop" apos) [e,f] [] cpos) (Zre wo wi wd):=by
 obtain⟨ta,p1,s1⟩:=ho
 obtain⟨tb,p2,s2⟩:=he
 obtain⟨tc,p3,s3⟩:=hf
 refine⟨_,Zvx p1 p2 p3 m,fun F H C σ τ Q Q' χ R S h q=>?_⟩
 refine s1 F H C σ τ _ _ χ R S h fun x v H1 C1 R1 t1 rx h1=>?_
 obtain⟨⟨l,kvs0,rfl,hC0⟩,h1⟩:=h1
 cases Yd rx
 obtain⟨ks0,hH0,_⟩:=R1.dic hC0
 refine⟨l,rfl,.inl ⟨ks0,.inl hH0⟩,?_⟩
 refine s2 F H1 C1 σ τ _ _ χ R1 (S.tx t1) h1 fun y u H2 C2 R2 t2 ry h2=>?_
 refine s3 F H2 C2 σ τ _ _ χ R2 (S.tx (t1.trans t2)) h2 fun z w H3 C3 R3 t3 rz h3=>?_
 obtain⟨l',kvs,k,e',hk,hC,h4,h5⟩:=h3
 cases e'
 obtain⟨ks,hH,pr⟩:=R3.dic hC
 have t:=(t1.trans t2).trans t3
 refine⟨ks,k,hH,Zfa hk (ry.tx t3),fun v hv=>?_,fun hv=>?_⟩
 ·cases hg:getT kvs k with
  | none=>rw[(PR.get pr k).1 hg] at hv;cases hv
  | some w=>
   obtain⟨z',hz,rz'⟩:=(PR.get pr k).2 w hg
   rw[hz] at hv;cases hv
   obtain⟨R',t'⟩:=R3.putD hC (PR.drop (k:=k) pr)
   exact q _ _ _ _ R' (t.trans t') (rz'.tx t') (h4 w hg)
 ·have hn:getT kvs k=none:=by
   cases hg:getT kvs k with
   | none=>rfl
   | some w=>obtain⟨z',hz,_⟩:=(PR.get pr k).2 w hg;rw[hz] at hv;cases hv
  exact q _ _ H3 C3 R3 t rz (h5 hn)
theorem Zvp {K:W.Frag}{H:Hp}:∀{ks:List (Key×V)} {kvs:List (Key×T)} {i:Nat} {p:Key×V},PR K H ks kvs→ks[i]?=some p→∃q,kvs[i]?=some q∧p.1=q.1∧Rep K H p.2 q.2
 | _,_,_,_,.nil,h=>by simp at h
 | _,_,0,_,.cons a _,h=>by simp at h;subst h;exact⟨_,rfl,a.1,a.2⟩
 | _,_,i+1,p,.cons _ t,h=>by
  obtain⟨q,h1,h2⟩:=Zvp (i:=i) (p:=p) t (by simpa using h)
  exact⟨q,by simpa using h1,h2⟩
theorem Zwn:∀{ks:List (Key×V)} {vs:List (Key×Value)} {i:Nat} {p:Key×Value},KV ks vs→vs[i]?=some p→∃q,ks[i]?=some q∧q.1=p.1∧Yg q.2 p.2
 | _,_,_,_,.nil,h=>by simp at h
 | _,_,0,_,.cons a _,h=>by simp at h;subst h;exact⟨_,rfl,a.1,a.2⟩
 | _,_,i+1,p,.cons _ t,h=>by
  obtain⟨q,h1,h2⟩:=Zwn (i:=i) (p:=p) t (by simpa using h)
  exact⟨q,by simpa using h1,h2⟩
def zipT (xs ys:List T):List T:=List.zipWith (fun x y=>T.tup [x,y]) xs ys
def iZp (a:WA):WI:=fun τ C R χ=>a τ C (fun vs C1=>(∃xs ys,vs=[.tup xs,.tup ys]∧xs.length=ys.length∧R (zipT xs ys) (fun _=>True) C1)∨
 ∃xs ys l,vs=[.tup xs,.ref l]∧C1 l=some (.lst ys)∧xs.length=ys.length∧R (zipT xs ys) (fun C2=>C2 l=some (.lst ys)) C1) χ
theorem Zx3 {xs ys:List T}{i:Nat}{x y:T}(hx:xs[i]?=some x)(hy:ys[i]?=some y):(zipT xs ys)[i]?=some (.tup [x,y]):=by
 unfold zipT;rw[List.getElem?_zipWith,hx,hy]
theorem Zwr {K:W.Frag}{F H0:Hp}(b:Bool){l1 l2:Addr}{ys1:List V}{xs ys:List T}{ok:Hw→Prop}(h1:SqT K H0 l1 ys1)(r1:Reps K H0 ys1 xs)(hl:xs.length=ys.length)
  (h2:∀H C,Rl K F H C→Tx H0 H→ok C→∃ys2,SqX b K H l2 ys2∧Reps K H ys2 ys):Zin K F H0 (Itz b K l1 l2) (zipT xs ys) ok:=fun i H C R t hok=>by
 have q1:=t.sqt h1
 have r1':=r1.tx t
 obtain⟨ys2,q2,r2⟩:=h2 H C R t hok
 have hlz:(zipT xs ys).length=xs.length:=by unfold zipT;simp;omega
 have e1:=r1'.length
 have e2:=r2.length
 refine⟨fun hi=>?_,fun hi=>⟨ys1,ys2,q1,q2,by omega,by omega⟩⟩
 rw[hlz] at hi
 refine⟨⟨ys1,ys2,q1,q2,by omega,by omega⟩,fun x H' h=>?_⟩
 obtain⟨u,v,Tt,hu,hv,rfl,hT,rfl⟩:=h
 obtain⟨x,hx,rx⟩:=r1'.get' (hu ys1 q1)
 obtain⟨y,hy,ry⟩:=r2.get' (hv ys2 q2)
 exact⟨_,Zx3 hx hy,R.hid hT,Tx.new hT,Zap (SqT.of Yo) (Yk (rx.tx (Tx.new hT)) (Yk (ry.tx (Tx.new hT)) Ji))⟩
theorem Z38 {elts:List Expr}{ek:Nat}{epos:Pos}(hg:Gl X "zip")(hm:X.mg "zip"=none)(ha:SdA X [a,b] wA)(hs:starEach [a,b] X.env=(false,eval a X.env)::starEach [b] X.env:=by rfl)(hp:(backTo pos (starEach [b] X.env)).any (·.1)=false:=by rfl):
  SdI X (.Tuple elts ek epos) (.Call (.Name "zip" p) [a,b] [] pos) (iZp wA):=by
 obtain⟨t,p1,s⟩:=ha
 refine⟨_,Z2e hg hm p1 hs hp,fun F H C σ τ R R' χ Rr S h q=>?_⟩
 refine s F H C σ τ _ _ χ Rr S h fun xs vs H1 C1 R1 t1 rs h1=>?_
 rcases h1 with⟨ts,us,rfl,hl,h1⟩ | ⟨ts,us,l,rfl,hC,hl,h1⟩
 ·obtain⟨x,y,rfl,rx,ry⟩:=Zm0 rs
  obtain⟨l1,y1,rfl,q1,r1⟩:=Y6 rx
  obtain⟨l2,y2,rfl,q2,r2⟩:=Y6 ry
  exact⟨false,l1,l2,y1,y2,rfl,q1,q2,q _ H1 _ _ C1 R1 t1 (fun F'=>Zwr false q1 r1 hl fun H C _ t _=>⟨y2,t.sqt q2,r2.tx t⟩) h1⟩
 ·obtain⟨x,y,rfl,rx,ry⟩:=Zm0 rs
  obtain⟨l1,y1,rfl,q1,r1⟩:=Y6 rx
  cases Yd ry
  obtain⟨y2,hy,r2⟩:=R1.lst hC
  refine⟨true,l1,l,y1,y2,rfl,q1,SqL.of hy,q _ H1 _ _ C1 R1 t1 (fun F'=>Zwr true q1 r1 hl fun H C R' t hok=>?_) h1⟩
  obtain⟨y3,hy3,r3⟩:=R'.lst hok
  exact⟨y3,SqL.of hy3,r3⟩
end
end WL
namespace L2
open PySem PySem.Spec PyProof.Rows
section
variable {X:Cx}{pins:List (Addr×Obj)}{σ:St}{H:Hp}{s:Shared}
end
def Itd (o:Obj)(d:Addr)(ks:List (Key×V)):It:=
 ⟨fun i H=>H d=some (.frz o (.dK ks))∧i<ks.length,fun i H x H'=>H'=H∧∃kv,ks[i]?=some kv∧x=kV kv.1,fun i H=>H d=some (.frz o (.dK ks))∧i=ks.length⟩
section
variable {X:Cx}{tg e:Expr}
def iDic (td:TE):TI:=fun σ H R=>td σ H fun x H1=>∃d ks,x=.ref d∧Rd H1 d (.dK ks)∧∀o,(∀o',H1 d=some (.frz o' (.dK ks))→o'=o)→R (Itd o d ks) (upd H1 d (.frz o (.dK ks)))
end
end L2
namespace WL
open PySem PySem.Spec PyProof.Rows L2
def RdC (C:Hw)(a:Addr)(kvs:List (Key×T)):Prop:=C a=some (.dic kvs)∨C a=some (.fdic kvs)
theorem Rl.rd {K:W.Frag}{F H:Hp}{C:Hw}(R:Rl K F H C){a:Addr}{kvs:List (Key×T)}(h:RdC C a kvs):∃ks,Rd H a (.dK ks)∧PR K H ks kvs:=by
 rcases h with h | h
 ·obtain⟨ks,hH,pr⟩:=R.dic h;exact⟨ks,.inl hH,pr⟩
 ·exact R.obj a _ h
section
variable {X:Cx}{e o a b c f i:Expr}{we wo wa wb wi wd:WE}{wA:WA}{p p2 pos pos2 apos cpos:Pos}{tg:Expr}
def Zt9:W2:=fun x y C Q=>∃a kvs k v,x=.ref a∧kT y=some k∧RdC C a kvs∧getT kvs k=some v∧Q v C
def Z0w (neg:Bool):W2:=fun y x C Q=>∃a kvs k,x=.ref a∧kT y=some k∧RdC C a kvs∧Q (.bl (if neg then !(getT kvs k).isSome else(getT kvs k).isSome)) C
abbrev wRin:W2:=Z0w false
theorem Zxh (hu:X.A.units+150<cLine)(ha:SdE X a wa)(hb:SdE X b wb)(hs:NoSl b):SdE X (.Subscript a b pos) (Zh Zt9 wa wb):=by
 obtain⟨ta,p1,s1⟩:=ha
 obtain⟨tb,p2,s2⟩:=hb
 refine⟨_,Zzb (by omega) p1 p2 hs,fun F H C σ τ Q Q' χ R S h q=>?_⟩
 refine s1 F H C σ τ _ _ χ R S h fun x v H1 C1 R1 t1 rx h1=>?_
 refine s2 F H1 C1 σ τ _ _ χ R1 (S.tx t1) h1 fun y u H2 C2 R2 t2 ry h2=>?_
 obtain⟨l,kvs,k,w,rfl,hk,hC,hg,h2⟩:=h2
 cases Yd rx
 obtain⟨ks,hH,pr⟩:=R2.rd hC
 obtain⟨z,hz,rz⟩:=(PR.get pr k).2 w hg
 cases Zfa hk ry
 exact⟨l,z,rfl,.inl ⟨ks,k,hH,rfl,hz.symm⟩,q _ _ H2 C2 R2 (t1.trans t2) rz h2⟩
theorem Z3a (neg:Bool)(hu:X.A.units+150<cLine):OpS X (compareOp (if neg then .NotIn else .In)) (Z0w neg):=⟨_,Zmq,fun F H C y x u v Q Q' R ry rx h q pins s σ u' v' I r1 r2=>by
 obtain⟨l,kvs,k,rfl,hk,hC,h⟩:=h
 cases Yd rx
 cases r2
 obtain⟨ks,hH,pr⟩:=R.rd hC
 cases Zfa hk ry
 have e:(valV ks k).isSome=(getT kvs k).isSome:=by
  cases hg:getT kvs k with
  | none=>rw[(PR.get pr k).1 hg];rfl
  | some w=>obtain⟨z,hz,_⟩:=(PR.get pr k).2 w hg;rw[hz];rfl
 have fin:=q _ _ H C R (Tx.refl H) Jr h
 rw[←e] at fin
 have g:DGet H l (kV k) (valV ks k):=.inl ⟨ks,k,hH,rfl,rfl⟩
 cases neg with
 | true=>exact Z0h (by omega) I g r1 fun s' I'=>⟨.bl _,H,I',rfl,fin⟩
 | false=>exact d_in (by omega) I g r1 fun s' I'=>⟨.bl _,H,I',rfl,fin⟩⟩
theorem o_rin (hu:X.A.units+150<cLine):OpS X (compareOp .In) wRin:=Z3a false hu
theorem Zri:Zbi X (.type "dict") (fun xs H Q=>∃(p:Addr) (kvs:List (Key×V)),xs=[.ref p]∧Rd H p (.dK kvs)∧∀r,H r=none→Q (.ref r) (upd H r (.dK kvs))):=by
 intro pins s σ H xs us Q I r h
 obtain⟨p,kvs,rfl,hp,q⟩:=h
 obtain⟨u,rfl,ru⟩:=vals1 r
 cases ru
 exact Zxk I hp fun r s2 hr I2=>⟨.ref r,_,I2,rfl,q r hr⟩
def Zxt:List T→Hw→WK→Prop:=fun vs C Q=>∃(a:Addr) (kvs:List (Key×T)),vs=[.ref a]∧RdC C a kvs∧∀p,C p=none→Q (.ref p) (up C p (.dic kvs))
theorem Z0t:Zf8 X (.type "dict") Zxt:=⟨_,Zri,fun F H C xs vs Q Q' R rs h q=>by
 obtain⟨a,kvs,rfl,hC,h⟩:=h
 obtain⟨x,rfl,rx⟩:=Zar rs
 cases Yd rx
 obtain⟨ks,hH,pr⟩:=R.rd hC
 exact⟨a,ks,rfl,hH,fun r hr=>q _ _ _ _ (R.newD hr pr) (Tx.new hr) Ju (h r (R.free hr))⟩⟩
def Z0x (neg:Bool):W2:=fun x y C Q=>∃a b ka kb,x=.ref a∧y=.ref b∧RdC C a ka∧RdC C b kb∧
 ((ka.length≠kb.length∧Q (.bl neg) C)∨(ka=kb∧(∀kv∈ka,Jn kv.2)∧Q (.bl (!neg)) C))
abbrev wReq:W2:=Z0x false
theorem Z3b (neg:Bool)(hu:X.A.units+150<cLine):OpS X (compareOp (if neg then .NotEq else .Eq)) (Z0x neg):=⟨_,Zmq,fun F H C x y u v Q Q' R rx ry h q pins s σ u' v' I r1 r2=>by
 obtain⟨a,b,ka,kb,rfl,rfl,ha,hb,h⟩:=h
 cases Yd rx
 cases Yd ry
 cases r1
 cases r2
 obtain⟨ks,hH,pr⟩:=R.rd ha
 obtain⟨ls,hL,pl⟩:=R.rd hb
 obtain⟨z1,sa,va,rela,oa,ea,pa,hoa,xa,da,kka,pra,na⟩:=Zf7 I.hok hH
 obtain⟨z2,sb,vb,relb,ob,eb,pb,hob,xb,db,kkb,prb,nb⟩:=Zf7 I.hok hL
 have hsa:ea.size=ka.length:=by rw[←PR.length pr,rela.length,←Pairs.length pra];simp
 have hsb:eb.size=kb.length:=by rw[←PR.length pl,relb.length,←Pairs.length prb];simp
 have Ta:s.TypeIs (.ref a) "dict":=⟨_,hoa,xa.1⟩
 have Tb:s.TypeIs (.ref b) "dict":=⟨_,hob,xb.1⟩
 have fin:∀k:Bool,(∀(E:Value→Shared→Prop) (id:String) (Q:Bool→Shared→Prop),Q k s→wpAny (model X.prog X.w) X.A.in1 (Builtin.Dict.samePairs id a b) Q E s)→Q (.bl (if neg then !k else k)) H→
   wpAny (model X.prog X.w) X.A (compareOp (if neg then .NotEq else .Eq) (.ref a) (.ref b)) (EP X pins σ Q) X.xe s:=fun k hs hq=>by
  cases neg with
  | true=>exact Z0e (k:=k) (by omega) Ta Tb hs ⟨.bl (!k),H,I,by cases k<;>rfl,hq⟩
  | false=>exact Z0f (k:=k) (by omega) Ta Tb hs ⟨.bl k,H,I,by cases k<;>rfl,hq⟩
 rcases h with⟨hne,h⟩ | ⟨rfl,hfl,h⟩
 ·refine fin false (fun E id Q' q'=>Zyd sa sb hoa da hob db (by simp[hsa,hsb,hne]) q') ?_
  have:=q _ _ H C R (Tx.refl H) Jr h
  cases neg<;>exact this
 ·refine fin true (fun E id Q' q'=>Zyc sa sb hoa da hob db kkb (by rw[hsa,hsb]) (fun i h1 h2=>?_) q') ?_
  ·obtain⟨kva,e1,e2,e3⟩:=Zg5 (i:=i) (e:=ea[i]) pra (by simp[h1])
   obtain⟨kvb,f1,f2,f3⟩:=Zg5 (i:=i) (e:=eb[i]) prb (by simp[h2])
   obtain⟨qa,g1,g2,g3⟩:=Zwn rela e1
   obtain⟨qb,g4,g5,g6⟩:=Zwn relb f1
   obtain⟨ta,j1,j2,j3⟩:=Zvp pr g1
   obtain⟨tb,j4,j5,j6⟩:=Zvp pl g4
   rw[j1] at j4
   cases j4
   have ek:kva.1=kvb.1:=by rw[←g2,←g5,j2,j5]
   obtain⟨k',hk1,hk2⟩:=kka ea[i] (Array.getElem_mem h1)
   have:=(Jf X.prog X.w).inj _ _ _ hk1 e2
   subst this
   refine⟨kva.1,e2,hk2,by rw[ek];exact Zz7 prb nb f1 h2,?_⟩
   have hf:=hfl ta (List.mem_of_getElem? j1)
   have:=Zxa I 100 (A:=X.A.in1) hf hf j3 j6 g3 g6 (show X.A.units+1+100<cLine by omega)
   rw[Zj6 ta.2 hf] at this
   rw[e3,f3];exact this
  ·have:=q _ _ H C R (Tx.refl H) Jr h
   cases neg<;>exact this⟩
theorem o_req (hu:X.A.units+150<cLine):OpS X (compareOp .Eq) wReq:=Z3b false hu
end
section
variable {X:Cx}{e o:Expr}{we wo wi:WE}{apos cpos:Pos}
def Zrd (o i:WE):WE:=fun τ C Q χ=>o τ C (fun x C1=>(∃a kvs,x=.ref a∧RdC C1 a kvs)∧i τ C1 (fun y C2=>∃a kvs k,x=.ref a∧kT y=some k∧RdC C2 a kvs∧Q ((getT kvs k).getD .non) C2) χ) χ
theorem Z0g (hu:X.A.units+150<cLine)(ho:SdE X o wo)(he:SdE X e wi)(m:M1 X o "get" apos e cpos):SdE X (.Call (.Attribute o "get" apos) [e] [] cpos) (Zrd wo wi):=by
 obtain⟨ta,p1,s1⟩:=ho
 obtain⟨tb,p2,s2⟩:=he
 refine⟨_,Zvz (by omega) p1 p2 m,fun F H C σ τ Q Q' χ R S h q=>?_⟩
 refine s1 F H C σ τ _ _ χ R S h fun x v H1 C1 R1 t1 rx h1=>?_
 obtain⟨⟨l,kvs0,rfl,hC0⟩,h1⟩:=h1
 cases Yd rx
 obtain⟨ks0,hH0,_⟩:=R1.rd hC0
 refine⟨l,rfl,.inl ⟨ks0,hH0⟩,?_⟩
 refine s2 F H1 C1 σ τ _ _ χ R1 (S.tx t1) h1 fun y u H2 C2 R2 t2 ry h2=>?_
 obtain⟨l',kvs,k,e',hk,hC,h2⟩:=h2
 cases e'
 obtain⟨ks,hH,pr⟩:=R2.rd hC
 cases Zfa hk ry
 exact⟨_,.inl ⟨ks,k,hH,rfl,rfl⟩,q _ _ H2 C2 R2 (t1.trans t2) (Zw2 pr k Zdc) h2⟩
end
def Zau (f:Str)(v:T):List (Str×T)→List (Str×T)
 | []=>[(f,v)]
 | (g,x)::r=>if g=f then(g,v)::r else(g,x)::Zau f v r
section
variable {K:W.Frag}{H:Hp}
theorem Zry {f:Str}{y:V}{v:T}(q:Rep K H y v):∀{ks:List (Str×V)} {fs:List (Str×T)},PR K H ks fs→PR K H (putF f y ks) (Zau f v fs)
 | [],[],_=>.cons ⟨rfl,q⟩ .nil
 | (k,x)::ks,(g,z)::fs,.cons h r=>by
  obtain⟨e,q'⟩:=h
  cases e
  show PR K H (if k=f then(k,y)::ks else(k,x)::putF f y ks) (if k=f then(k,v)::fs else(k,z)::Zau f v fs)
  by_cases c:k=f
  ·rw[XY c,XY c];exact .cons ⟨rfl,q⟩ r
  ·rw[XX c,XX c];exact .cons ⟨rfl,q'⟩ (Zry q r)
theorem Zit {f:Str}:∀{ks:List (Str×V)} {fs:List (Str×T)},PR K H ks fs→(∀v,fs.lookup f=some v→∃y,ks.lookup f=some y∧Rep K H y v)∧(fs.lookup f=none→ks.lookup f=none)
 | [],[],_=>⟨fun v h=>by simp at h,fun _=>rfl⟩
 | (k,x)::ks,(g,z)::fs,.cons h r=>by
  obtain⟨e,q'⟩:=h
  cases e
  by_cases c:f=k
  ·have hb:(f==k)=true:=beq_iff_eq.mpr c
   simp only[List.lookup,hb]
   exact⟨fun v h=>by cases h;exact⟨x,rfl,q'⟩,fun h=>by cases h⟩
  ·have hb:(f==k)=false:=beq_eq_false_iff_ne.mpr c
   simp only[List.lookup,hb]
   exact Zit r
theorem Zvo:∀{κ:Type} {ks:List (κ×V)} {fs:List (κ×T)},PR K H ks fs→ks.length=fs.length
 | _,[],[],_=>rfl
 | _,_::_,_::_,.cons _ r=>by rw[YF,YF,Zvo r]
end
abbrev Zkm (K:W.Frag)(cn:Str)(Cl:Addr):Prop:=W.nsIn K mainGlobals cn=some (some (.ref Cl))
structure KF (K:W.Frag)(f cn:Str):Prop where
 ex:∃Cl,Zkm K cn Cl∧Cls K Cl∧Zec K Cl f
theorem KF.at {K:W.Frag}{f cn:Str}(h:KF K f cn){Cl:Addr}(c:Zkm K cn Cl):Cls K Cl∧Zec K Cl f:=by
 obtain⟨C2,h1,h2⟩:=h.ex
 have e:some (some (Value.ref C2))=some (some (Value.ref Cl)):=h1.symm.trans c
 cases e
 exact h2
def J6 (cs:List Str)(f:Str)(o:WE):WE:=fun τ C Q χ=>o τ C (fun x C1=>∃a cn fs v,x=.ref a∧C1 a=some (.ins cn fs)∧cn∈cs∧fs.lookup f=some v∧Q v C1) χ
def gFd (cs:List Str)(f:Str)(o:WE):WG:=fun v τ C Q χ=>o τ C (fun x C1=>∃a cn fs,x=.ref a∧C1 a=some (.ins cn fs)∧cn∈cs∧fs.length<1000∧Q τ (up C1 a (.ins cn (Zau f v fs)))) χ
theorem Rl.ins {K:W.Frag}{F H:Hp}{C:Hw}(R:Rl K F H C){a:Addr}{cn:Str}{fs:List (Str×T)}(h:C a=some (.ins cn fs)):∃Cl dx ks,Zkm K cn Cl∧H a=some (.ins Cl dx ks)∧PR K H ks fs:=R.obj a _ h
section
variable {X:Cx}{e o value:Expr}{we wo wv:WE}{f:Str}{cs:List Str}{pos pos' apos cpos:Pos}
theorem Y7 (hk:∀cn∈cs,KF X.K f cn)(he:SdE X e we)(hb:attributeBase e f X.env (eval e X.env)=eval e X.env:=by rfl):SdE X (.Attribute e f pos) (J6 cs f we):=by
 obtain⟨ta,p1,s1⟩:=he
 refine⟨_,Z2p p1 hb,fun F H C σ τ Q Q' χ R S h q=>?_⟩
 refine s1 F H C σ τ _ _ χ R S h fun x v H1 C1 R1 t1 rx h1=>?_
 obtain⟨a,cn,fs,v',rfl,hC,hcn,hl,h1⟩:=h1
 cases Yd rx
 obtain⟨Cl,dx,ks,hc,hH,pr⟩:=R1.ins hC
 obtain⟨y,hy,ry⟩:=(Zit pr).1 v' hl
 obtain⟨c1,c2⟩:=(hk cn hcn).at hc
 exact⟨a,Cl,dx,ks,y,rfl,hH,c1,c2,hy,q _ _ H1 C1 R1 t1 ry h1⟩
theorem Jg (hk:∀cn∈cs,KF X.K f cn)(ho:SdE X o wo)(hv:SdE X value wv)(hs:swapsWith value (some (.Attribute o f pos')) pos.line X.env=pure false:=by rfl):SdS X (.Assign [.Attribute o f pos'] value pos) (Z3 wv (gFd cs f wo)):=by
 obtain⟨ta,p1,s1⟩:=ho
 obtain⟨tv,p2,s2⟩:=hv
 refine⟨_,Z2b p1 p2 hs,fun F H C σ τ D D' R S h d=>?_⟩
 refine s2 F H C σ τ _ _ D'.xc R S h fun y v H1 C1 R1 t1 ry h1=>?_
 refine s1 F H1 C1 σ τ _ _ D'.xc R1 (S.tx t1) h1 fun x u H2 C2 R2 t2 rx h2=>?_
 obtain⟨a,cn,fs,rfl,hC,hcn,hl,h2⟩:=h2
 cases Yd rx
 obtain⟨Cl,dx,ks,hc,hH,pr⟩:=R2.ins hC
 obtain⟨c1,c2⟩:=(hk cn hcn).at hc
 have tp:Tx H2 (upd H2 a (.ins Cl dx (putF f y ks))):=Tx.put hH (fun z=>z)
 obtain⟨R3,t3⟩:=R2.put (u:=.ins Cl dx (putF f y ks)) (o':=.ins cn (Zau f v fs)) hC ⟨Cl,dx,_,hc,Yo,Zjg tp (Zry (ry.tx t2) pr)⟩
 exact⟨a,Cl,dx,ks,rfl,hH,c1,c2,by rw[Zvo pr];exact hl,d.nx _ _ _ _ R3 ((t1.trans t2).trans t3) (S.tx ((t1.trans t2).trans t3)) h2⟩
end
def Zuo (MT:Addr→L2.Sp→Prop)(m:Str)(E:XK)(ta:TE)(t:TA):TE:=fun σ H Q=>ta σ H fun x H1=>∃a C dx fs sp,x=.ref a∧H1 a=some (.ins C dx fs)∧MT C sp∧fs.lookup m=none∧t σ H1 fun vs H2=>sp (x::vs) H2 Q E
section
variable {X:Cx}{k:Nat}{E:XK}{m:Str}{p pos apos:Pos}{e o:Expr}{es:List Expr}{ta:TE}{t:TA}{MT:Addr→L2.Sp→Prop}
def MOk (X:Cx)(k:Nat)(m:Str)(MT:Addr→L2.Sp→Prop):Prop:=∀C sp,MT C sp→∃f fd ps,Cls X.K C∧Meth X.K C m f∧FnOk X.prog X.w X.K X.mg X.base CX0 k f fd ps sp∧Binds X.K fd ps []
theorem Zvu {pl:Sem Bool}(he:PE X o ta)(hM:MOk X k m MT)(hr:Room k X.A)(ha:PA X (e::es) t)
  (hst:starEach (e::es) X.env=(false,eval e X.env)::starEach es X.env:=by rfl) (hpl:(backTo pos (starEach es X.env)).any (·.1)=false:=by rfl)
  (ht:eval (.Call (.Attribute o m apos) (e::es) [] pos) X.env=(do
   let ov ←eval o X.env
   standAt apos.atName
   let (f,first) ←holding [ov] (getMethod ov m pl)
   callWith pos f first (backTo pos (starEach (e::es) X.env)) (backToKw pos (keywordEach [] X.env))):=by rfl):
  PE X (.Call (.Attribute o m apos) (e::es) [] pos) (Zuo MT m E0 ta t):=by
 intro pins s σ H Q I h
 refine W.methodCall_KW (pl:=pl) (thn (he pins s σ H _ I h) fun u s1 ⟨x,H1,I1,rx,a,C,dx,fs,sp,ex,ea,hmt,l,q⟩=>?_) ht
 subst ex
 obtain rfl:u=Value.ref a:=rx
 obtain⟨f,fd,ps,c,hm,F,hb⟩:=hM C sp hmt
 refine Zj4 I1 ea c hm l ?_
 refine W.callWith_K (first:=[.ref a]) (h₀:=X.base) I.ok.mod.kin hm.kp (thn (ha pos pins s1 σ H1 _ I1 q) fun us s2 ⟨vs,H2,I2,r,q2⟩=>⟨I2.kIn,?_⟩) hst hpl
 exact Zmm (us:=.ref a::us) (vs:=.ref a::vs) (dvs:=[]) F hr hb .nil pass0 I2 (.cons rfl r) (by rw[YK];exact q2)
theorem Ztb {pl:Sem Bool}(he:PE X o ta)(hM:MOk X k m MT)(hr:Room k X.A)
  (ht:eval (.Call (.Attribute o m apos) [] [] pos) X.env=(do
   let ov ←eval o X.env
   standAt apos.atName
   let (f,first) ←holding [ov] (getMethod ov m pl)
   callWith pos f first (backTo pos (starEach [] X.env)) (backToKw pos (keywordEach [] X.env))):=by rfl):
  PE X (.Call (.Attribute o m apos) [] [] pos) (Zuo MT m E0 ta tNil):=by
 intro pins s σ H Q I h
 refine W.methodCall_KW (pl:=pl) (thn (he pins s σ H _ I h) fun u s1 ⟨x,H1,I1,rx,a,C,dx,fs,sp,ex,ea,hmt,l,q⟩=>?_) ht
 subst ex
 obtain rfl:u=Value.ref a:=rx
 obtain⟨f,fd,ps,c,hm,F,hb⟩:=hM C sp hmt
 refine Zj4 I1 ea c hm l ?_
 exact W.callWith_K0 (first:=[.ref a]) I1.kIn hm.kp (Zmm (us:=[.ref a]) (vs:=[.ref a]) (dvs:=[]) F hr hb .nil pass0 I1 (.cons rfl .nil) q)
end
def Cm (P:Program)(w:World)(K:W.Frag)(mg:Str→Option Value)(base:Heap)(n:Nat)(cn m:Str)(ps:List Str)(sp:L2.Sp):Prop:=
 ∃Cl f fd,Zkm K cn Cl∧Cls K Cl∧Meth K Cl m f∧FnOk P w K mg base CX0 n f fd ps sp∧Binds K fd ps []
def MTb (P:Program)(w:World)(K:W.Frag)(mg:Str→Option Value)(base:Heap)(n:Nat)(pr:List Df)(m:Str)(tb:List (Str×Nat)):Prop:=∀cn i,tb.lookup cn=some i→∃ps,Cm P w K mg base n cn m ps (spW K pr n i)
section
variable {P:Program}{w:World}{K:W.Frag}{mg:Str→Option Value}{base:Heap}{n:Nat}{pr:List Df}{m:Str}{tb:List (Str×Nat)}
theorem Y5:MTb P w K mg base n pr m []:=fun cn i h=>by simp at h
theorem Yi {cn:Str}{i:Nat}{ps:List Str}(h:Cm P w K mg base n cn m ps (spW K pr n i))(r:MTb P w K mg base n pr m tb):MTb P w K mg base n pr m ((cn,i)::tb):=fun c j e=>by
 by_cases q:c=cn
 ·have hb:(c==cn)=true:=beq_iff_eq.mpr q
  simp only[List.lookup,hb] at e
  cases e;subst q;exact⟨ps,h⟩
 ·have hb:(c==cn)=false:=beq_eq_false_iff_ne.mpr q
  simp only[List.lookup,hb] at e
  exact r c j e
end
def eMth (P:Calls)(tb:List (Str×Nat))(m:Str)(o:WE)(a:WA):WE:=fun τ C Q χ=>o τ C (fun x C1=>∃ad cn fs i,x=.ref ad∧C1 ad=some (.ins cn fs)∧tb.lookup cn=some i∧fs.lookup m=none∧a τ C1 (fun vs C2=>P i (x::vs) C2 Q χ) χ) χ
section
variable {X:Cx}{k:Nat}{m:Str}{p pos apos:Pos}{e o:Expr}{es:List Expr}{wo:WE}{wA:WA}{tb:List (Str×Nat)}{pr:List Df}
theorem Zwb (T:MTb X.prog X.w X.K X.mg X.base k pr m tb):MOk X k m (fun C sp=>∃cn i,Zkm X.K cn C∧tb.lookup cn=some i∧sp=spW X.K pr k i):=fun C sp h=>by
 obtain⟨cn,i,hc,hl,rfl⟩:=h
 obtain⟨ps,Cl,f,fd,h1,h2,h3,h4,h5⟩:=T cn i hl
 have ee:some (some (Value.ref Cl))=some (some (Value.ref C)):=h1.symm.trans hc
 cases ee
 exact⟨f,fd,ps,h2,h3,h4,h5⟩
theorem J7 {pl:Sem Bool}(T:MTb X.prog X.w X.K X.mg X.base k pr m tb)(hr:Room k X.A)(ho:SdE X o wo)(ha:SdA X (e::es) wA)
  (hst:starEach (e::es) X.env=(false,eval e X.env)::starEach es X.env:=by rfl) (hpl:(backTo pos (starEach es X.env)).any (·.1)=false:=by rfl)
  (ht:eval (.Call (.Attribute o m apos) (e::es) [] pos) X.env=(do
   let ov ←eval o X.env
   standAt apos.atName
   let (f,first) ←holding [ov] (getMethod ov m pl)
   callWith pos f first (backTo pos (starEach (e::es) X.env)) (backToKw pos (keywordEach [] X.env))):=by rfl):
  SdE X (.Call (.Attribute o m apos) (e::es) [] pos) (eMth (wpc pr k) tb m wo wA):=by
 obtain⟨to,p1,s1⟩:=ho
 obtain⟨ta,p2,s2⟩:=ha
 refine⟨_,Zvu (pl:=pl) p1 (Zwb T) hr p2 hst hpl ht,fun F H C σ τ Q Q' χ R S h q=>?_⟩
 refine s1 F H C σ τ _ _ χ R S h fun x v H1 C1 R1 t1 rx h1=>?_
 obtain⟨a,cn,fs,i,rfl,hC,hl,hm,h1⟩:=h1
 cases Yd rx
 obtain⟨Cl,dx,ks,hc,hH,prr⟩:=R1.ins hC
 refine⟨a,Cl,dx,ks,_,rfl,hH,⟨cn,i,hc,hl,rfl⟩,(Zit prr).2 hm,?_⟩
 refine s2 F H1 C1 σ τ _ _ χ R1 (S.tx t1) h1 fun xs vs H2 C2 R2 t2 rs h2=>?_
 exact⟨F,C2,.ref a::vs,Q',χ,R2,Yk Ju rs,h2,QE.at q (t1.trans t2)⟩
theorem Zdg {pl:Sem Bool}(T:MTb X.prog X.w X.K X.mg X.base k pr m tb)(hr:Room k X.A)(ho:SdE X o wo)
  (ht:eval (.Call (.Attribute o m apos) [] [] pos) X.env=(do
   let ov ←eval o X.env
   standAt apos.atName
   let (f,first) ←holding [ov] (getMethod ov m pl)
   callWith pos f first (backTo pos (starEach [] X.env)) (backToKw pos (keywordEach [] X.env))):=by rfl):
  SdE X (.Call (.Attribute o m apos) [] [] pos) (eMth (wpc pr k) tb m wo Zf):=by
 obtain⟨to,p1,s1⟩:=ho
 refine⟨_,Ztb (pl:=pl) p1 (Zwb T) hr ht,fun F H C σ τ Q Q' χ R S h q=>?_⟩
 refine s1 F H C σ τ _ _ χ R S h fun x v H1 C1 R1 t1 rx h1=>?_
 obtain⟨a,cn,fs,i,rfl,hC,hl,hm,h1⟩:=h1
 cases Yd rx
 obtain⟨Cl,dx,ks,hc,hH,prr⟩:=R1.ins hC
 refine⟨a,Cl,dx,ks,_,rfl,hH,⟨cn,i,hc,hl,rfl⟩,(Zit prr).2 hm,?_⟩
 exact⟨F,C1,[.ref a],Q',χ,R1,Yk Ju Ji,h1,QE.at q t1⟩
end
def wNew (cn:Str)(i:Nat)(P:Calls):WS:=fun D τ C=>∃vs,τ=vs.map some∧∀p,C p=none→P i (.ref p::vs) (up C p (.ins cn [])) (fun v C2=>v=.non∧D.rt (.ref p) C2) D.xc
def Cn (P:Program)(w:World)(K:W.Frag)(mg:Str→Option Value)(base:Heap)(n:Nat)(pr:List Df)(cn:Str)(i j:Nat):Prop:=
 (∃ar,pr[j]?=some ⟨ar,ar,wNew cn i⟩)∧∃Cl f,Zkm K cn Cl∧mg cn=some (.ref Cl)∧L2.Mk K Cl f∧(n=0∨∃k fd ps,n=k+1∧FnOk P w K mg base CX0 k f fd ps (spW K pr k i)∧Binds K fd ps [])
section
variable {X:Cx}{k i j:Nat}{cn:Str}{p pos:Pos}{e:Expr}{es:List Expr}{wA:WA}{pr:List Df}
theorem d_new (Cc:Cn X.prog X.w X.K X.mg X.base k pr cn i j)(hr:Room k X.A)(hg:Gl X cn)(ha:SdA X (e::es) wA)
  (hdb:(cn==("__debug__":Str))=false:=by decide) (he:starEach (e::es) X.env=(false,eval e X.env)::starEach es X.env:=by rfl) (hpl:(backTo pos (starEach es X.env)).any (·.1)=false:=by rfl):
  SdE X (.Call (.Name cn p) (e::es) [] pos) (Z5 (wpc pr k) j wA):=by
 obtain⟨⟨ar,hj⟩,Cl,f,hc,hm,M,h0 | ⟨k',fd,ps,rfl,F,hb⟩⟩:=Cc
 ·subst h0
  obtain⟨ta,p2,s2⟩:=ha
  refine⟨fun σ H Q=>ta σ H fun _ _=>False,fun pins s σ H Q I h=>?_,fun F H C σ τ Q Q' χ R S h q=>?_⟩
  ·refine wpAny_Call_Name_kw (Zhe I hg hm ?_ hdb)
   exact W.callWith_K (h₀:=X.base) I.ok.mod.kin M.kp (thn (p2 pos pins s σ H _ I h) fun us s1 ⟨vs,H1,I1,r,q⟩=>q.elim) he hpl
  ·exact s2 F H C σ τ _ _ χ R S h fun xs vs H2 C2 R2 t2 rs h2=>h2.elim
 ·obtain⟨ta,p2,s2⟩:=ha
  refine⟨_,Zy8 (dvs:=[]) M F hr hg hm hb .nil pass0 p2 hdb he hpl,fun F' H C σ τ Q Q' χ R S h q=>?_⟩
  refine s2 F' H C σ τ _ _ χ R S h fun xs vs H2 C2 R2 t2 rs h2=>?_
  intro x dx hx hdx hne
  obtain⟨d',e1,e2,h2⟩:=h2
  rw[hj] at e1
  cases e1
  obtain⟨vs',ev,h2⟩:=h2
  have evs:vs=vs':=by
   have:ar-ar=0:=Nat.sub_self _
   rw[this,List.replicate_zero,YK] at ev
   exact(List.map_inj_right fun a b z=>by cases z;rfl).mp ev
  subst evs
  have hCx:C2 x=none:=R2.free hx
  have R3:Rl X.K F' (upd H2 dx (.own x)) C2:=R2.hid hdx
  have hx3:upd H2 dx (.own x) x=none:=by rw[Yc hne.symm];exact hx
  have R4:Rl X.K F' (upd (upd H2 dx (.own x)) x (.ins Cl dx [])) (up C2 x (.ins cn [])):=R3.new hx3 ⟨Cl,dx,[],hc,Yo,.nil⟩
  have t4:Tx H2 (upd (upd H2 dx (.own x)) x (.ins Cl dx [])):=(Tx.new hdx).trans (Tx.new hx3)
  refine⟨F',_,.ref x::vs,_,χ,R4,?_,h2 x hCx,?_⟩
  ·rw[YK];exact Yk Ju (rs.tx t4)
  ·intro y v H5 C5 R5 t5 ry h5
   obtain⟨rfl,h5⟩:=h5
   exact⟨Zd6 ry,q _ _ H5 C5 R5 ((t2.trans t4).trans t5) Ju h5⟩
end
theorem Z8 {P:Program}{w:World}{K:W.Frag}{mg:Str→Option Value}{base:Heap}{x qual:Str}{st:Stmt}{f:Addr}{fd:FuncData}{N ps:List Str}{pr:List Df}{n i:Nat}{d:Df}(F:Fun K x qual st f fd)(S:FnScope N ps (Zl st))(hd:pr[i]?=some d)(hn:d.n=N.length)(har:d.ar=ps.length)
  (hb:∀(cdv:Value) (A:Around) (outer:List Env) (s:Shared) (H:Hp) (E:XK),Room n (A.deeper (envOfC qual (Zl st) s.heap.objs.size f cdv))→SdB (cxOf CX0 P w K mg base N qual (Zl st) f cdv A outer s H E).nox (Zm st) (d.body (wpc pr n))):
  FnOk P w K mg base CX0 (n+1) f fd ps (spW K pr (n+1) i):=by
 refine F.ok S (fun vs H Q E h=>?_) (fun cdv A outer s H vs Q E hr h=>?_)
 ·obtain⟨F',C,vs',Q',χ,R,rs,⟨d',e1,e2,_⟩,_⟩:=h
  rw[hd] at e1;cases e1
  rw[rs.length,e2,har]
 ·obtain⟨F',C,vs',Q',χ,R,rs,⟨d',e1,e2,h⟩,q⟩:=h
  rw[hd] at e1;cases e1
  obtain⟨t,p,sm⟩:=hb cdv A outer s H E hr
  refine⟨t,p,sm F' H C _ _ _ _ R (RepS.start rs N _ (by rw[rs.length,e2,hn])) h ⟨fun σ τ H' C' R' t' _ h'=>q .non .non H' C' R' t' Zdc h',q,fun _ _ _ _ _ _ _ z=>z.elim,fun _ _ _ _ _ _ _ z=>z.elim⟩⟩
theorem Yl {P:Program}{w:World}{K:W.Frag}{mg:Str→Option Value}{base:Heap}{f:Addr}{fd:FuncData}{ps:List Str}{pr:List Df}{i:Nat}:FnOk P w K mg base CX0 0 f fd ps (spW K pr 0 i):=
 ⟨fun vs H Q E h=>by obtain⟨_,_,_,_,_,_,_,z,_⟩:=h;exact z.elim,fun A outer s H args us vs Q E _ _ _ _ h=>by obtain⟨_,_,_,_,_,_,_,z,_⟩:=h;exact z.elim⟩
structure Kl (K:W.Frag)(mg:Str→Option Value)(cn:Str)(Cl:Addr):Prop where
 at_:Zkm K cn Cl
 mg:mg cn=some (.ref Cl)
 cls:Cls K Cl
theorem Y8 {P:Program}{w:World}{K:W.Frag}{mg:Str→Option Value}{base:Heap}{n:Nat}{cn m:Str}{ps:List Str}{sp:L2.Sp}{Cl f:Addr}{fd:FuncData}(k:Kl K mg cn Cl)(m':Meth K Cl m f)(G:FnOk P w K mg base CX0 n f fd ps sp)(hb:Binds K fd ps []):Cm P w K mg base n cn m ps sp:=
 ⟨Cl,f,fd,k.at_,k.cls,m',G,hb⟩
theorem Z0m {P:Program}{w:World}{K:W.Frag}{mg:Str→Option Value}{base:Heap}{pr:List Df}{cn:Str}{i j ar:Nat}{Cl f:Addr}(hj:pr[j]?=some ⟨ar,ar,wNew cn i⟩)(k:Kl K mg cn Cl)(M:L2.Mk K Cl f):Cn P w K mg base 0 pr cn i j:=⟨⟨ar,hj⟩,Cl,f,k.at_,k.mg,M,.inl rfl⟩
theorem Z0n {P:Program}{w:World}{K:W.Frag}{mg:Str→Option Value}{base:Heap}{pr:List Df}{cn:Str}{n i j ar:Nat}{Cl f:Addr}{fd:FuncData}{ps:List Str}(hj:pr[j]?=some ⟨ar,ar,wNew cn i⟩)(k:Kl K mg cn Cl)(M:L2.Mk K Cl f)(G:FnOk P w K mg base CX0 n f fd ps (spW K pr n i))(hb:Binds K fd ps []):Cn P w K mg base (n+1) pr cn i j:=
 ⟨⟨ar,hj⟩,Cl,f,k.at_,k.mg,M,.inr ⟨n,fd,ps,rfl,G,hb⟩⟩
theorem Z0o {P:Program}{w:World}{K:W.Frag}{mg:Str→Option Value}{base:Heap}{pr:List Df}{cn:Str}{n i j ar:Nat}{Cl:Addr}{ps:List Str}(hj:pr[j]?=some ⟨ar,ar,wNew cn i⟩)(k:Kl K mg cn Cl)(mk:W.makesIn K Cl=true)(kc:W.keepIn K (.ref Cl)=true)
  (h:Cm P w K mg base n cn "__init__" ps (spW K pr n i)):Cn P w K mg base (n+1) pr cn i j:=by
 obtain⟨C2,f,fd,h1,h2,h3,h4,h5⟩:=h
 have e:some (some (Value.ref C2))=some (some (Value.ref Cl)):=h1.symm.trans k.at_
 cases e
 exact Z0n hj k ⟨mk,h3.at_,h3.fn,kc⟩ h4 h5
theorem Z1 {K:W.Frag}{f:Str}:∀cn∈([]:List Str),KF K f cn:=fun _ h=>by cases h
theorem Zt {K:W.Frag}{f cn:Str}{cs:List Str}(a:KF K f cn)(r:∀c∈cs,KF K f c):∀c∈cn::cs,KF K f c:=fun c h=>by
 rcases List.mem_cons.mp h with rfl | h
 ·exact a
 ·exact r c h
theorem Zor {K:W.Frag}{H:Hp}{a:Addr}{its:Array Value}{n:Nat}{sl:Array (Option Value)}{od:Option Addr}{xs:List V}{ts:List T}(l:K.lookup a=some ⟨.type "tuple",od,.seq its n,sl⟩)(hz:its.size≤sizeLine)(v:Vals xs its.toList)(r:Reps K H xs ts):Rep K H (.ref a) (.tup ts):=
 Zap (.inr ⟨_,its,n,l,rfl,rfl,hz,v⟩) r
theorem Zxg {X:Cx}{body:List Stmt}:SdB X body Zqh:=⟨fun _ _ _=>False,fun _ _ _ _ _ _ h=>h.elim,fun _ _ _ _ _ _ _ _ _ h _=>h.elim⟩
def EqH (C:Hw):Nat→T→T→Bool→Prop
 | 0,v,w,b=>flat v 0=true∧flat w 0=true∧b=eqT v w
 | n+1,v,w,b=>(flat v n=true∧flat w n=true∧b=eqT v w)∨
   (∃(xs ys:List T) (e:Nat→Bool),v=.tup xs∧w=.tup ys∧(∀j x y,xs[j]?=some x→ys[j]?=some y→EqH C n x y (e j))∧b=((List.range (min xs.length ys.length)).all e&&xs.length==ys.length))∨
   (∃(a a':Addr) (xs ys:List T) (e:Nat→Bool),v=.ref a∧w=.ref a'∧C a=some (.lst xs)∧C a'=some (.lst ys)∧(xs.length=ys.length→∀j x y,xs[j]?=some x→ys[j]?=some y→EqH C n x y (e j))∧
    b=(if xs.length=ys.length then(List.range xs.length).all e else false))
section
variable {X:Cx}{pins:List (Addr×Obj)}{σ:L2.St}{F H:Hp}{s:Shared}{C:Hw}
end
section
variable {X:Cx}
end
structure FunD (K:W.Frag)(x qual:Str)(st:Stmt)(f:Addr)(fd:FuncData):Prop where
 ex:∃(oc:Value) (od:Option Addr) (dV kV doc pm:Value) (an:Option Addr) (cdv ct:Value) (osl:Array (Option Value)),
  fd=W.fnOf x qual (Zy st) (Zm st) (Zl st) dV kV doc pm an cdv ct∧K.lookup f=some ⟨oc,od,.func fd,osl⟩∧W.codeIn K cdv qual=true
 kp:W.keepIn K (.ref f)=true
theorem Z34 {P:Program}{w:World}{K:W.Frag}{mg:Str→Option Value}{base:Heap}{x qual:Str}{st:Stmt}{f:Addr}{fd:FuncData}{N ps:List Str}{pr:List Df}{n i:Nat}{d:Df}(F:FunD K x qual st f fd)(S:FnScope N ps (Zl st))(hd:pr[i]?=some d)(hn:d.n=N.length)(har:d.ar=ps.length)
  (hb:∀(cdv:Value) (A:Around) (outer:List Env) (s:Shared) (H:Hp) (E:XK),Room n (A.deeper (envOfC qual (Zl st) s.heap.objs.size f cdv))→SdB (cxOf CX0 P w K mg base N qual (Zl st) f cdv A outer s H E).nox (Zm st) (d.body (wpc pr n))):
  FnOk P w K mg base CX0 (n+1) f fd ps (spW K pr (n+1) i):=by
 obtain⟨oc,od,dV,kV,doc,pm,an,cdv,ct,osl,rfl,lk,hcd⟩:=F.ex
 refine Z1a lk hcd S (fun vs H Q E h=>?_) fun A outer s H vs Q E hr h=>?_
 ·obtain⟨F',C,vs',Q',χ,R,rs,⟨d',e1,e2,_⟩,_⟩:=h
  rw[hd] at e1;cases e1
  rw[rs.length,e2,har]
 ·obtain⟨F',C,vs',Q',χ,R,rs,⟨d',e1,e2,h⟩,q⟩:=h
  rw[hd] at e1;cases e1
  obtain⟨t,p,sm⟩:=hb cdv A outer s H E hr
  exact⟨t,p.nox,sm F' H C _ _ _ _ R (RepS.start rs N _ (by rw[rs.length,e2,hn])) h ⟨fun σ τ H' C' R' t' _ h'=>q .non .non H' C' R' t' Zdc h',q,fun _ _ _ _ _ _ _ z=>z.elim,fun _ _ _ _ _ _ _ z=>z.elim⟩⟩
def CaD (P:Program)(w:World)(K:W.Frag)(mg:Str→Option Value)(base:Heap)(n:Nat)(x:Str)(ps:List Str)(ds:List Int)(sp:L2.Sp):Prop:=
 ∃f fd,FnOk P w K mg base CX0 n f fd ps sp∧(∃us:List Value,Vals (ds.map V.int) us∧∀j,j≤ds.length→Binds K fd ps (us.drop j))∧W.keepIn K (.ref f)=true∧mg x=some (.ref f)
def aApp (ws:List T)(a:WA):WA:=fun τ C Q χ=>a τ C (fun vs C1=>Q (vs++ws) C1) χ
theorem Zn7:∀{vs:List V} {us:List Value},Vals vs us→∀j,Vals (vs.drop j) (us.drop j)
 | _,_,h,0=>by simpa using h
 | _,_,.nil,j+1=>.nil
 | _,_,.cons _ r,j+1=>Zn7 r j
theorem Z0k {X:Cx}{k i:Nat}{x:Str}{ps:List Str}{ds:List Int}{pr:List Df}{p pos:Pos}{e:Expr}{es:List Expr}{wA:WA}{ws:List T}(j:Nat)(Cc:CaD X.prog X.w X.K X.mg X.base k x ps ds (spW X.K pr k i))(hr:Room k X.A)(hg:Gl X x)(ha:SdA X (e::es) wA)(hj:j≤ds.length:=by decide)(hws:(ds.drop j).map T.int=ws:=by rfl)
  (hdb:(x==("__debug__":Str))=false:=by decide) (he:starEach (e::es) X.env=(false,eval e X.env)::starEach es X.env:=by rfl) (hpl:(backTo pos (starEach es X.env)).any (·.1)=false:=by rfl):
  SdE X (.Call (.Name x p) (e::es) [] pos) (Z5 (wpc pr k) i (aApp ws wA)):=by
 subst hws
 obtain⟨t,p1,s⟩:=ha
 obtain⟨f,fd,G,⟨us,hv,hb⟩,hk,hm⟩:=Cc
 have hv2:Vals ((ds.drop j).map V.int) (us.drop j):=by
  rw[List.map_drop]
  exact Zn7 hv j
 refine⟨_,Zrz (dvs:=(ds.drop j).map V.int) G hr hg hm hk (hb j hj) hv2 pass0 p1 hdb he hpl,fun F H C σ τ Q Q' χ R S h q=>?_⟩
 refine s F H C σ τ _ _ χ R S h fun xs vs H1 C1 R1 t1 rs h1=>?_
 exact⟨F,C1,vs++(ds.drop j).map T.int,Q',χ,R1,rs.app (Zhy _),h1,QE.at q t1⟩
end WL
namespace PySem
open Sem (wp)
namespace F
theorem lz_entry_ga:entryFor table "zip.__getattribute__"=some Builtin.«object.__getattribute__»:=
 entryFor_alias (id':="object.__getattribute__") (by kernel_rfl) (by first | rfl | decide+kernel) (by decide+kernel) (by kernel_rfl)
theorem lz_getattr_none:typeLookup (.type "zip") "__getattr__"=pure none:=by rw[typeLookup_type,builtinLookup_eq_fast];kernel_rfl
theorem lz_keys_none:typeLookup (.type "zip") "keys"=pure none:=by rw[typeLookup_type,builtinLookup_eq_fast];kernel_rfl
end F
section
variable {z:Addr}
theorem Zwj (fs:Array Value)(u:Tok):
  Meets (Builtin.«object.__getattribute__» ⟨[.ref z,.str "keys" u],[]⟩) (fun A R s=>s.heap.get? z=some {cls:=.type "zip",dict:=none,data:=.fields fs,slots:=#[]}∧raisesAttr (.ref z) "keys" A R s):=
 Meets.of_wp fun prog w A R s hs=>by
  obtain⟨ho,hs⟩:=hs
  obtain⟨hp,g,d,tk,os⟩:=s
  have hT:(⟨hp,g,d,tk,os⟩:Shared).TypeIs (.ref z) "zip":=⟨_,ho,rfl⟩
  have f1:=F.lz_keys_none
  unfold Builtin.«object.__getattribute__»
  repeat (any_goals (first | assumption | wp_step))
  exact wpAny_raiseAttrError hs.1 hs.2 (attrMsg_fits (by decide+kernel) (by decide+kernel))
theorem Zzu {prog:Program}{w:World}{A:Around}{E:Value→Shared→Prop}{s:Shared}{fs:Array Value}{Q:Option Value→Shared→Prop}(ho:s.heap.get? z=some {cls:=.type "zip",dict:=none,data:=.fields fs,slots:=#[]})(hA:A.handled=none)
  (h:∀h' tk,(∀b ob,s.heap.get? b=some ob→h'.get? b=some ob)→Q none {s with heap:=h',toks:=tk}):wpAny (model prog w) A (getAttr? (.ref z) "keys") Q E s:=by
 obtain⟨hp,g,d,tk,os⟩:=s
 have hT:(⟨hp,g,d,tk,os⟩:Shared).TypeIs (.ref z) "zip":=⟨_,ho,rfl⟩
 have f1:=sub_AttributeError
 have f3:=F.slot_zip_getattribute.lookup
 have f4:=F.slot_zip_getattribute.bind (.ref z)
 have f5:=F.lz_getattr_none
 unfold getAttr? getAttrBy? getAttrBy
 repeat (any_goals (first | assumption | ((with_reducible show wpAny _ _ (call (Value.builtin "zip.__getattribute__") _ _) _ _ _);refine call_meets F.slot_zip_getattribute ⟨_,ho,rfl⟩ F.lz_entry_ga (F.args_zip_getattribute_2 _ _) (Zwj fs _) ⟨ho,hA,fun h' tk' e hx=>?_⟩) | wp_step))
 obtain⟨t',u',he⟩:=hx.there
 show wpAny _ _ (getattributeRaised _ _ _ _ _ _ _) _ _ _
 unfold getattributeRaised
 repeat (any_goals (first | assumption | wp_step))
 exact h h' tk' fun b ob q=>hx.keeps b ob q
end
end PySem
namespace L2
open PySem PySem.Spec PyProof.Rows
abbrev Zgq (h:Heap)(z TI TO T:Addr)(b:Bool):Prop:=
 h.get? z=some {cls:=.type "zip",dict:=none,data:=.fields #[rawInt T,.bool b,.bool false,.ref TI,.ref TO],slots:=#[]}
section
variable {prog:Program}{w:World}{A:Around}{E:Value→Shared→Prop}{s:Shared}{z TI TO i1 i2:Addr}{f1 f2:List Addr}{n:Nat}{P1 P2:Nat→Value→Prop}{S1 S2:Nat→Heap→Prop}
theorem Zsw {M:Model}{a:Addr}{Q:Option Obj→Shared→Prop}(h:Q (s.heap.get? a) s):wpAny M A (loadIfAlive a) Q E s:=fun Γ p hΓ=>by
 unfold loadIfAlive
 rw[Sem.wp_loadIfAlive]
 exact(XB (M:=M) (A:=A) (E:=E) h) Γ p hΓ
theorem Zrm {T:Addr}{b:Bool}{Q:Bool→Shared→Prop}(hz:Zgq s.heap z TI TO T b)(hT:∃o,s.heap.get? T=some o)(hQ:∀h2,Zgq h2 z TI TO T true→Heap.SameBut z s.heap h2→Q false {s with heap:=h2}):
  wpAny (model prog w) A (Builtin.SmallTypes.ownedTupleIsFree (.ref z)) Q E s:=by
 obtain⟨oT,hoT⟩:=hT
 unfold Builtin.SmallTypes.ownedTupleIsFree
 refine XA (wpAny_field hz rfl (x:=rawInt T) rfl ?_)
 show wpAny _ _ (loadIfAlive (T:Int).toNat>>=_) _ _ s
 refine XA (Zsw ?_)
 rw[Int.toNat_natCast,hoT]
 simp only[Option.isNone_some,Bool.false_eq_true,if_false]
 refine XA (wpAny_field hz rfl (x:=.bool b) rfl ?_)
 cases b with
 | false=>
  rw[XY (by decide)]
  refine wpAny_bind (wpAny_setField_rec hz (by simp) fun ha hza sa=>?_)
  exact XB (hQ ha hza sa)
 | true=>
  rw[XX (by decide)]
  exact XB (hQ s.heap hz (Heap.SameBut.refl _ _))
theorem Zx4 {i:Nat}{T:Addr}{b:Bool}{u v:Value}{Q:Value→Shared→Prop}(D1:Draws prog w A i1 f1 n P1 S1)(D2:Draws prog w A i2 f2 n P2 S2)(Z:ZAp z TI TO i1 i2 f1 f2)(hi:i<n)
  (hz:Zgq s.heap z TI TO T b) (hT:∃o,s.heap.get? T=some o) (hTI:IsPair s.heap TI (.ref i1) (.ref i2)) (s1:S1 i s.heap) (s2:S2 i s.heap)
  (hQ:∀x y h2 t2 b,P1 i x→P2 i y→Zgq h2 z TI TO T b→S1 (i+1) h2→S2 (i+1) h2→IsPair h2 s.heap.objs.size x y→
   (∀c o,c≠z→c≠i1→c≠i2→s.heap.get? c=some o→h2.get? c=some o)→Q (.ref s.heap.objs.size) {s with heap:=h2,toks:=t2}):
  wpAny (model prog w) A (Builtin.«zip.__next__» ⟨[.ref z],[]⟩) (fun fin s2=>∃r,fin=.done (.ret r)∧Q r s2) E s:=by
 show wpAny _ _ (field (.ref z) 2>>=_) _ E s
 refine XA (wpAny_field hz rfl (x:=.bool false) rfl ?_)
 show wpAny _ _ (field (.ref z) 3>>=_) _ E s
 refine XA (wpAny_field hz rfl (x:=.ref TI) rfl ?_)
 refine XA (wpAny_seqItems hTI rfl ?_)
 show wpAny _ _ (Builtin.SmallTypes.ownedTupleIsFree (.ref z)>>=_) _ E s
 refine XA (Zrm hz hT fun ha hza sa=>?_)
 simp only[Bool.false_eq_true,if_false]
 have ne:∀{b c:Addr} {l:List Addr},b∈l→c∉l→b≠c:=fun hb hc e=>hc (e▸hb)
 have a1:S1 i ha:=D1.frame i _ _ s1 fun b hb o e=>sa.extBut _ _ (ne hb Z.z1) e
 have a2:S2 i ha:=D2.frame i _ _ s2 fun b hb o e=>sa.extBut _ _ (ne hb Z.z2) e
 have zi1:z≠i1:=fun e=>Z.z1 (e▸Z.m1)
 have zi2:z≠i2:=fun e=>Z.z2 (e▸Z.m2)
 rw[←Array.forIn_toList]
 simp only[List.forIn_cons,List.forIn_nil]
 refine XA (XA (XA (wpAny_holding ?_)))
 show wpAny _ _ (Builtin.SmallTypes.nextOf (.ref i1)>>=_) _ _ _
 refine XA (D1.item i {s with heap:=ha} _ _ hi a1 fun x hb tb hx b1 sb=>XB ?_)
 have b2:S2 i hb:=D2.frame i _ _ a2 fun b hm o e=>sb.extBut _ _ (ne hm Z.a12) e
 refine XB ?_
 refine XA (XA (wpAny_holding ?_))
 show wpAny _ _ (Builtin.SmallTypes.nextOf (.ref i2)>>=_) _ _ _
 refine XA (D2.item i {s with heap:=hb,toks:=tb} _ _ hi b2 fun y hd td hy d2 sd=>XB ?_)
 have d1:S1 (i+1) hd:=D1.frame _ _ _ b1 fun b hm o e=>sd.extBut _ _ (ne hm Z.a21) e
 refine XB ?_
 refine XB ?_
 refine XA (wpAny_newTuple ?_ (show(2:Nat)≤sizeLine by decide))
 have hsz:hd.objs.size=s.heap.objs.size:=by rw[sd.1,sb.1,sa.1]
 have hzd:Zgq hd z TI TO T true:=sd.extBut _ _ zi2 (sb.extBut _ _ zi1 hza)
 have up:∀c o,hd.get? c=some o→(hd.push {cls:=.type "tuple",data:=.seq #[x,y]}).get? c=some o:=fun c o e=>XC _ e
 refine XB ⟨_,rfl,?_⟩
 show Q (.ref hd.objs.size) _
 have hTn:IsPair (hd.push {cls:=.type "tuple",data:=.seq #[x,y]}) hd.objs.size x y:=XF _ rfl
 rw[hsz] at hTn ⊢
 exact hQ x y _ td true hx hy (up _ _ hzd) (D1.frame _ _ _ d1 fun b hm o e=>up _ o e) (D2.frame _ _ _ d2 fun b hm o e=>up _ o e) hTn fun c o n1 n3 n4 e=>up c o (sd.extBut _ _ n4 (sb.extBut _ _ n3 (sa.extBut _ _ n1 e)))
theorem Z1g {T:Addr}{b:Bool}{Q:Fin→Shared→Prop}(D1:Draws prog w A i1 f1 n P1 S1)(Z:ZAp z TI TO i1 i2 f1 f2)
  (hz:Zgq s.heap z TI TO T b) (hT:∃o,s.heap.get? T=some o) (hTI:IsPair s.heap TI (.ref i1) (.ref i2)) (s1:S1 n s.heap)
  (hE:∀h2 ex,(∀c o,c≠z→c≠i1→c≠i2→s.heap.get? c=some o→h2.get? c=some o)→(∃o,h2.get? ex=some o∧o.cls=.type "StopIteration")→E (.ref ex) {s with heap:=h2}):
  wpAny (model prog w) A (Builtin.«zip.__next__» ⟨[.ref z],[]⟩) Q E s:=by
 show wpAny _ _ (field (.ref z) 2>>=_) _ E s
 refine XA (wpAny_field hz rfl (x:=.bool false) rfl ?_)
 show wpAny _ _ (field (.ref z) 3>>=_) _ E s
 refine XA (wpAny_field hz rfl (x:=.ref TI) rfl ?_)
 refine XA (wpAny_seqItems hTI rfl ?_)
 show wpAny _ _ (Builtin.SmallTypes.ownedTupleIsFree (.ref z)>>=_) _ E s
 refine XA (Zrm hz hT fun ha hza sa=>?_)
 simp only[Bool.false_eq_true,if_false]
 have ne:∀{b c:Addr} {l:List Addr},b∈l→c∉l→b≠c:=fun hb hc e=>hc (e▸hb)
 have a1:S1 n ha:=D1.frame n _ _ s1 fun b hb o e=>sa.extBut _ _ (ne hb Z.z1) e
 rw[←Array.forIn_toList]
 simp only[List.forIn_cons,List.forIn_nil]
 refine XA (XA (XA (wpAny_holding ?_)))
 show wpAny _ _ (Builtin.SmallTypes.nextOf (.ref i1)>>=_) _ _ _
 refine XA (D1.done {s with heap:=ha} _ _ a1 fun hb ex sb he=>?_)
 exact hE hb ex (fun c o n1 n3 n4 e=>sb _ _ n3 (sa.extBut _ _ n1 e)) he
end
end L2
namespace PySem.F
theorem lz_entry_loop:entryFor table "dict.update.loop"=some Builtin.«dict.update.loop»:=entryFor_of_tree (by kernel_rfl)
end PySem.F
namespace L2
open PySem PySem.Spec PyProof.Rows
structure ZS (z TI TO i1 i2 l1 l2:Addr)(xs ys:Array Value)(i:Nat)(h:Heap):Prop where
 zip:IsZip h z TI TO .none∨∃T b,Zgq h z TI TO T b∧(∃o,h.get? T=some o)∧T≠z∧T≠TO∧T≠i1∧T≠i2
 its:IsPair h TI (.ref i1) (.ref i2)
 own:∃a b,IsPair h TO a b
 s1:h.IsTupleIter i1 l1 i∧h.IsTuple l1 xs
 s2:h.IsTupleIter i2 l2 i∧h.IsTuple l2 ys
theorem ZS.frame {z TI TO i1 i2 l1 l2:Addr}{xs ys:Array Value}{i:Nat}{h h':Heap}(Z:ZS z TI TO i1 i2 l1 l2 xs ys i h)(k:∀b∈[z,TI,TO,i1,i2,l1,l2],∀o,h.get? b=some o→h'.get? b=some o)(al:∀b,(∃o,h.get? b=some o)→∃o,h'.get? b=some o):ZS z TI TO i1 i2 l1 l2 xs ys i h':=by
 obtain⟨a,b,⟨u,v,c⟩,d,e⟩:=Z
 refine⟨?_,k _ (by simp) _ b,⟨u,v,k _ (by simp) _ c⟩,⟨d.1.at fun o q=>k _ (by simp) o q,d.2.at fun o q=>k _ (by simp) o q⟩,⟨e.1.at fun o q=>k _ (by simp) o q,e.2.at fun o q=>k _ (by simp) o q⟩⟩
 rcases a with a | ⟨T,b,a,hT,r⟩
 ·exact .inl (k _ (by simp) _ a)
 ·exact .inr ⟨T,b,k _ (by simp) _ a,al _ hT,r⟩
section
variable {prog:Program}{w:World}{A:Around}{E:Value→Shared→Prop}{s:Shared}{z TI TO i1 i2 l1 l2:Addr}{xs ys:Array Value}
theorem Zx0 {i:Nat}{Q:Option Value→Shared→Prop}(hh:A.handled=none)(Z:ZAp z TI TO i1 i2 [i1,l1] [i2,l2])(h1:l1≠i1)(h2:l2≠i2)(hn:xs.size=ys.size)(hi:i<xs.size)(st:ZS z TI TO i1 i2 l1 l2 xs ys i s.heap)
  (hQ:∀T x y h' tk,xs[i]?=some x→ys[i]?=some y→s.heap.objs.size≤T→IsPair h' T x y→ZS z TI TO i1 i2 l1 l2 xs ys (i+1) h'→(∀b o,b∉[z,TO,i1,i2]→s.heap.get? b=some o→h'.get? b=some o)→Q (some (.ref T)) {s with heap:=h',toks:=tk}):
  wpAny (model prog w) A (pyNext (.ref z)) Q E s:=by
 have D1:=Za8 (prog:=prog) (w:=w) (A:=A.in1) hh i1 l1 h1 xs
 have D2:=Za8 (prog:=prog) (w:=w) (A:=A.in1) hh i2 l2 h2 ys
 rw[←hn] at D2
 obtain⟨a,b,⟨u,v,c⟩,d,e⟩:=st
 have al:∀{h h':Heap},True:=fun {_ _}=>trivial
 have lt:∀{c o},s.heap.get? c=some o→s.heap.objs.size≠c:=fun e=>Nat.ne_of_gt (XD e)
 obtain⟨o1,l1'⟩:=D1.live _ _ d
 obtain⟨o2,l2'⟩:=D2.live _ _ e
 rcases a with a | ⟨T,bb,a,hT,t1,t2,t3,t4⟩
 ·have hTy:s.TypeIs (.ref z) "zip":=⟨_,a,rfl⟩
  unfold pyNext
  refine XA (wpAny_attempt (wpAny_callSpecial?_slot (name:=Str.ofString "__next__") hTy F.slot_zip_next (wpAny_call_entry F.slot_zip_next hTy F.entry_zip_next
   (Zrl D1 D2 Z hi a b c d e fun x y h2 t2 hx hy z1 z2 z3 z4 z5 z6=>XB ?_) (F.args_zip_next_1 _))))
  refine hQ _ x y h2 t2 hx hy (XE _) z5 ⟨.inr ⟨_,false,z1,⟨_,z5⟩,lt a,lt c,lt l1',lt l2'⟩,z6 _ _ Z.tz Z.io Z.t1 Z.t2 b,⟨_,_,z2⟩,z3,z4⟩ fun c o hc q=>?_
  simp only[List.mem_cons,List.not_mem_nil,or_false,not_or] at hc
  exact z6 c o hc.1 hc.2.1 hc.2.2.1 hc.2.2.2 q
 ·have hTy:s.TypeIs (.ref z) "zip":=⟨_,a,rfl⟩
  unfold pyNext
  refine XA (wpAny_attempt (wpAny_callSpecial?_slot (name:=Str.ofString "__next__") hTy F.slot_zip_next (wpAny_call_entry F.slot_zip_next hTy F.entry_zip_next
   (Zx4 (u:=u) (v:=v) D1 D2 Z hi a hT b d e fun x y h2 tk b2 hx hy z1 z3 z4 z5 z6=>XB ?_) (F.args_zip_next_1 _))))
  obtain⟨oT,hoT⟩:=hT
  have Oi1:TO≠i1:=fun e=>Z.o1 (e▸Z.m1)
  have Oi2:TO≠i2:=fun e=>Z.o2 (e▸Z.m2)
  refine hQ _ x y h2 tk hx hy (XE _) z5 ⟨.inr ⟨T,b2,z1,⟨oT,z6 _ _ t1 t3 t4 hoT⟩,t1,t2,t3,t4⟩,z6 _ _ Z.tz Z.t1 Z.t2 b,⟨_,_,z6 _ _ Z.oz Oi1 Oi2 c⟩,z3,z4⟩ fun c o hc q=>?_
  simp only[List.mem_cons,List.not_mem_nil,or_false,not_or] at hc
  exact z6 c o hc.1 hc.2.2.1 hc.2.2.2 q
theorem Z1e {Q:Option Value→Shared→Prop}(hh:A.handled=none)(Z:ZAp z TI TO i1 i2 [i1,l1] [i2,l2])(h1:l1≠i1)(st:ZS z TI TO i1 i2 l1 l2 xs ys xs.size s.heap)
  (hQ:∀h' tk,(∀b o,b∉[z,TO,i1,i2]→s.heap.get? b=some o→h'.get? b=some o)→Q none {s with heap:=h',toks:=tk}):
  wpAny (model prog w) A (pyNext (.ref z)) Q E s:=by
 have D1:=Za8 (prog:=prog) (w:=w) (A:=A.in1) hh i1 l1 h1 xs
 obtain⟨a,b,⟨u,v,c⟩,d,e⟩:=st
 rcases a with a | ⟨T,bb,a,hT,t1,t2,t3,t4⟩
 ·have hTy:s.TypeIs (.ref z) "zip":=⟨_,a,rfl⟩
  unfold pyNext
  refine XA (wpAny_attempt (wpAny_callSpecial?_slot (name:=Str.ofString "__next__") hTy F.slot_zip_next (wpAny_call_entry F.slot_zip_next hTy F.entry_zip_next (Zt6 D1 Z a b c d fun h2 ex hk he=>?_) (F.args_zip_next_1 _))))
  obtain⟨o,ho,hc⟩:=he
  refine XA (wpAny_isInstance (T:="StopIteration") (b:=true) ⟨o,ho,hc⟩ isSubtype_stop ?_)
  refine XB (hQ h2 s.toks fun c o hc q=>?_)
  simp only[List.mem_cons,List.not_mem_nil,or_false,not_or] at hc
  exact hk c o hc.1 hc.2.1 hc.2.2.1 hc.2.2.2 q
 ·have hTy:s.TypeIs (.ref z) "zip":=⟨_,a,rfl⟩
  unfold pyNext
  refine XA (wpAny_attempt (wpAny_callSpecial?_slot (name:=Str.ofString "__next__") hTy F.slot_zip_next (wpAny_call_entry F.slot_zip_next hTy F.entry_zip_next (Z1g D1 Z a hT b d fun h2 ex hk he=>?_) (F.args_zip_next_1 _))))
  obtain⟨o,ho,hc⟩:=he
  refine XA (wpAny_isInstance (T:="StopIteration") (b:=true) ⟨o,ho,hc⟩ isSubtype_stop ?_)
  refine XB (hQ h2 s.toks fun c o hc q=>?_)
  simp only[List.mem_cons,List.not_mem_nil,or_false,not_or] at hc
  exact hk c o hc.1 hc.2.2.1 hc.2.2.2 q
theorem Z0b {knd:KeyKind prog w Key}{d:Addr}(hh:A.handled=none)(Z:ZAp z TI TO i1 i2 [i1,l1] [i2,l2])(h1:l1≠i1)(h2:l2≠i2)(hn:xs.size=ys.size)(hd:d∉[z,TI,TO,i1,i2,l1,l2])(kk:Nat→Key)(hk:∀i x,xs[i]?=some x→knd.is (kk i) x=true)(hsz:xs.size≤1000)
  {R:Result→Shared→Prop} (h₀:Heap) (hlt:∀b o,h₀.get? b=some o→b≠d∧b∉[z,TO,i1,i2])
  (hR:∀h' tk vs,(∀b o,h₀.get? b=some o→h'.get? b=some o)→h'.DictOf knd d vs→vs=((List.range xs.size).foldl (fun a j=>stored a (kk j) ((ys[j]?).getD .none)) [])→R (.ok (.ret .none)) {s with heap:=h',toks:=tk}):
  ∀(m i:Nat) (h:Heap) (tk:Nat) (vs:List (Key×Value)),xs.size-i=m→i≤xs.size→ZS z TI TO i1 i2 l1 l2 xs ys i h→(∀b o,h₀.get? b=some o→h.get? b=some o)→h.DictOf knd d vs→vs.length≤i→vs=((List.range i).foldl (fun a j=>stored a (kk j) ((ys[j]?).getD .none)) [])→ 
   codeAny (model prog w) A (.builtin "dict.update.loop" ⟨[.ref d,.ref z,rawInt i,.none],[]⟩) R {s with heap:=h,toks:=tk}:=by
 intro m
 induction m with
 | zero=>
  intro i h tk vs hm hi st keep dd hl hv
  have ei:i=xs.size:=by omega
  subst ei
  refine codeAny_builtin PySem.F.lz_entry_loop ?_
  show wpAny _ _ (pyNext (.ref z)>>=_) _ _ _
  refine XA (Z1e (A:=A.under _) hh Z h1 st fun h' tk' kp=>?_)
  show wpAny _ _ (Builtin.Dict.addKeywords d []>>=_) _ _ _
  refine XA (XB (XB ?_))
  refine hR h' tk' vs (fun b o q=>kp b o (hlt b o q).2 (keep b o q)) (dd.at fun o q=>kp _ o ?_ q) hv
  intro hm
  exact hd (by simp only[ZM,ZN,or_false] at hm ⊢;rcases hm with h | h | h | h<;>simp[h])
 | succ m ih=>
  intro i h tk vs hm hi st keep dd hl hv
  refine codeAny_builtin PySem.F.lz_entry_loop ?_
  show wpAny _ _ (pyNext (.ref z)>>=_) _ _ _
  have hdw:d∉[z,TO,i1,i2]:=fun hm=>hd (by simp only[ZM,ZN,or_false] at hm ⊢;rcases hm with h | h | h | h<;>simp[h])
  refine XA (Zx0 (A:=A.under _) hh Z h1 h2 hn (by omega) st fun T x y h' tk' hx hy hT hp st' kp=>?_)
  have dd':h'.DictOf knd d vs:=dd.at fun o q=>kp _ o hdw q
  show wpAny _ _ (holding [.ref T] _>>=_) _ _ _
  refine XA (wpAny_holding ?_)
  refine XA (wpAny_tryCatch ?_)
  unfold Builtin.Dict.pairItems
  refine XA (wpAny_typeOf (T:="tuple") ⟨_,hp,rfl⟩ ?_)
  rw[XY (by decide)]
  refine XA (wpAny_seqItems hp rfl (XB ?_))
  show wpAny _ _ (holding [x,y] (dictSet d x y)) _ _ _
  refine wpAny_holding ?_
  unfold dictSet
  refine wpAny_holding (XA (knd.pyHash (hk i x hx) ?_))
  refine wpAny_dictSetHashed_pairs (hk i x hx) dd' (fun h2 dd2 sb=>?_) (XN (show vs.length≤1000 by omega) (by decide))
  refine XB ⟨Code.quiet_builtin _ (by decide+kernel),?_⟩
  have nd:∀b∈[z,TI,TO,i1,i2,l1,l2],b≠d:=fun b hb e=>hd (e▸hb)
  have ei:(rawInt ((i:Int)+1))=rawInt ((i+1:Nat):Int):=by congr 1
  rw[ei]
  refine ih (i+1) h2 _ (stored vs (kk i) y) (by omega) (by omega) (st'.frame (fun b hb o q=>sb.extBut _ _ (nd b hb) q) fun b hb=>?_) (fun b o q=>sb.extBut _ _ (hlt b o q).1 (kp b o (hlt b o q).2 (keep b o q))) dd2 ?_ ?_
  ·obtain⟨o,q⟩:=hb
   by_cases e:b=d
   ·subst e;obtain⟨o',_,_,q',_⟩:=dd2;exact⟨o',q'⟩
   ·exact⟨o,sb.extBut _ _ e q⟩
  ·unfold stored
   split
   ·rw[XI];omega
   ·rw[List.length_append,List.length_singleton];omega
  ·rw[List.range_succ,List.foldl_append,←hv]
   simp[hy]
theorem Zny {knd:KeyKind prog w Key}{Q:Value→Shared→Prop}(hh:A.handled=none)(Z:ZAp z TI TO i1 i2 [i1,l1] [i2,l2])(h1:l1≠i1)(h2:l2≠i2)(hn:xs.size=ys.size)(kk:Nat→Key)(hk:∀i x,xs[i]?=some x→knd.is (kk i) x=true)(hsz:xs.size≤1000)
  (h₀:Heap) (hlt:∀b o,h₀.get? b=some o→b∉[z,TO,i1,i2]) (keep:∀b o,h₀.get? b=some o→s.heap.get? b=some o) (hz0:IsZip s.heap z TI TO .none) (st:ZS z TI TO i1 i2 l1 l2 xs ys 0 s.heap)
  (hQ:∀h' tk,(∀b o,h₀.get? b=some o→h'.get? b=some o)→h'.DictOf knd s.heap.objs.size ((List.range xs.size).foldl (fun a j=>stored a (kk j) ((ys[j]?).getD .none)) [])→Q (.ref s.heap.objs.size) {s with heap:=h',toks:=tk}):
  wpAny (model prog w) A (call (.type "dict") [.ref z]) Q E s:=by
 refine callType_codes (Q₁:=fun obj s₁=>obj=.ref s.heap.objs.size∧s₁={s with heap:=s.heap.push {cls:=.type "dict",data:=.dict #[]}}) PySem.F.kt_called_dict (PySem.F.kt_typeCall_dict_1 _) PySem.F.entry_dict_init (kt_code_dict_new _ ⟨rfl,rfl⟩) ?_
 rintro obj s₁ ⟨rfl,rfl⟩
 have hnew:(s.heap.push {cls:=.type "dict",data:=.dict #[]}).DictOf knd s.heap.objs.size []:=Heap.DictOf.new s.heap
 have hps:∀b o,s.heap.get? b=some o→(s.heap.push {cls:=.type "dict",data:=.dict #[]}).get? b=some o:=fun b o q=>XC _ q
 have st1:ZS z TI TO i1 i2 l1 l2 xs ys 0 (s.heap.push {cls:=.type "dict",data:=.dict #[]}):=st.frame (fun b _ o q=>hps b o q) fun b ⟨o,q⟩=>⟨o,hps b o q⟩
 refine⟨hnew.typeIs,PySem.F.args_dict_init_2 _ _,?_⟩
 unfold Builtin.«dict.__init__»
 refine XA ?_
 unfold Builtin.Dict.selfAndRest
 refine XA (wpAny_notOrdered_dict hnew.typeIs ?_)
 show wpAny _ _ (pure (s.heap.objs.size,[Value.ref z])) _ _ _
 refine XB ?_
 show wpAny _ _ (Builtin.Dict.updateFrom "dict.__init__" s.heap.objs.size (.ref z) [] .none) _ _ _
 have hz:=hps _ _ hz0
 unfold Builtin.Dict.updateFrom
 refine XA (wpAny_typeOf (T:="zip") ⟨_,hz,rfl⟩ ?_)
 rw[XY (by decide)]
 refine XA (Zzu hz hh fun h' tk' kp=>?_)
 rw[XY (by decide)]
 have st2:ZS z TI TO i1 i2 l1 l2 xs ys 0 h':=st1.frame (fun b _ o q=>kp b o q) fun b ⟨o,q⟩=>⟨o,kp b o q⟩
 refine XA (wpAny_rule ?_)
 refine XA (wpAny_pyIter_zip (kp _ _ hz) ?_)
 refine XB ⟨Code.quiet_builtin _ (by decide+kernel),?_⟩
 have sd:∀b o,s.heap.get? b=some o→b≠s.heap.objs.size:=fun b o q=>XH (XD q)
 have hd:s.heap.objs.size∉[z,TI,TO,i1,i2,l1,l2]:=by
  obtain⟨_,b,⟨u,v,c⟩,d,e⟩:=st
  obtain⟨o1,e1,_⟩:=d.1
  obtain⟨o2,e2,_⟩:=e.1
  obtain⟨o3,e3,_⟩:=d.2
  obtain⟨o4,e4,_⟩:=e.2
  simp only[List.mem_cons,List.not_mem_nil,or_false,not_or]
  exact⟨(sd _ _ hz0).symm,(sd _ _ b).symm,(sd _ _ c).symm,(sd _ _ e1).symm,(sd _ _ e2).symm,(sd _ _ e3).symm,(sd _ _ e4).symm⟩
 refine Z0b (A:=A.in1) (s:=s) (knd:=knd) hh Z h1 h2 hn hd kk hk hsz h₀ (fun b o q=>⟨sd b o (keep b o q),hlt b o q⟩) (fun h3 tk3 vs k3 d3 hv=>?_) xs.size 0 h' tk' [] rfl (XO _) st2 (fun b o q=>kp b o (hps b o (keep b o q))) (hnew.at fun o q=>kp _ o q) (XE _) rfl
 subst hv
 exact⟨rfl,hQ h3 tk3 k3 d3⟩
end
def dzK {α:Type}(put:List (Key×α)→Key→α→List (Key×α))(ks:List Key)(ys:List α):List (Key×α):=(ks.zip ys).foldl (fun a kv=>put a kv.1 kv.2) []
theorem Z35 {α:Type}{put:List (Key×α)→Key→α→List (Key×α)}(hp:∀a k v,(put a k v).length≤a.length+1)(ks:List Key)(ys:List α):(dzK put ks ys).length≤ks.length:=by
 have key:∀(l:List (Key×α)) (acc:List (Key×α)),(l.foldl (fun a kv=>put a kv.1 kv.2) acc).length≤acc.length+l.length:=by
  intro l
  induction l with
  | nil=>intro acc;simp
  | cons x l ih=>intro acc;have h1:=ih (put acc x.1 x.2);have h2:=hp acc x.1 x.2;rw[List.foldl_cons,YF];omega
 have h:=key (ks.zip ys) []
 rw[List.length_zip] at h
 unfold dzK
 simp only[List.length_nil] at h
 omega
def tDz (K:W.Frag)(ta:TA):TE:=fun σ H Q=>ta σ H fun vs H1=>∃(l1 l2:Addr) (ks:List Key) (ys:List V),vs=[.ref l1,.ref l2]∧SqT K H1 l1 (ks.map kV)∧SqT K H1 l2 ys∧ks.length=ys.length∧ks.length≤1000∧
 ∀p,H1 p=none→Q (.ref p) (upd H1 p (.dK (dzK putK ks ys)))
theorem dz_kv {ks:List Key}{ys:List V}{us:List Value}(hl:ks.length=ys.length)(rv:Vals ys us):KV (dzK putK ks ys) ((List.range ks.length).foldl (fun a j=>stored a ((ks[j]?).getD (.inl 0)) ((us.toArray[j]?).getD .none)) []):=by
 have key:∀i,i≤ks.length→KV (((ks.zip ys).take i).foldl (fun a kv=>putK a kv.1 kv.2) []) ((List.range i).foldl (fun a j=>stored a ((ks[j]?).getD (.inl 0)) ((us.toArray[j]?).getD .none)) []):=by
  intro i
  induction i with
  | zero=>intro _;exact .nil
  | succ i ih=>
   intro hi
   have hk:ks[i]?=some ks[i]:=by simp[show i<ks.length by omega]
   have hy:ys[i]?=some (ys[i]'(by omega)):=by simp[show i<ys.length by omega]
   obtain⟨u,hu,ru⟩:=rv.get hy
   have hz:(ks.zip ys)[i]?=some (ks[i],ys[i]'(by omega)):=by rw[List.getElem?_zip_eq_some];exact⟨hk,hy⟩
   have hu':us.toArray[i]?=some u:=by simpa using hu
   rw[List.range_succ,List.foldl_append,YD,hz,Option.toList_some,List.foldl_append]
   simp only[List.foldl_cons,List.foldl_nil,hk,hu',Option.getD_some]
   exact(ih (by omega)).put _ ru
 have h:=key ks.length (XE _)
 rw[List.take_of_length_le (by rw[List.length_zip];omega)] at h
 exact h
section
variable {X:Cx}
theorem Zqn {a c:Expr}{ta:TA}{p pos p2 pos2:Pos}(hc:X.calm=true)(hg:Gl X "dict")(hm:X.mg "dict"=none)(hg2:Gl X "zip")(hm2:X.mg "zip"=none)(ha:PA X [a,c] ta)(hs:starEach [a,c] X.env=(false,eval a X.env)::starEach [c] X.env:=by rfl)(hp:(backTo pos2 (starEach [c] X.env)).any (·.1)=false:=by rfl)
  (hs2:starEach [.Call (.Name "zip" p2) [a,c] [] pos2] X.env=[(false,eval (.Call (.Name "zip" p2) [a,c] [] pos2) X.env)]:=by rfl) (hb:bootBuiltins "zip"=some (.type "zip"):=by decide+kernel) (hb2:bootBuiltins "dict"=some (.type "dict"):=by decide+kernel):
  PE X (.Call (.Name "dict" p) [.Call (.Name "zip" p2) [a,c] [] pos2] [] pos) (tDz X.K ta):=by
 intro pins s σ H Q I h
 refine Call_ (Zdo I hg hm hb2 (PyProof.Rows.callWith_type1 ?_ hs2 rfl))
 rw[hs2]
 show wpAny _ _ (spliced ((false,eval (.Call (.Name "zip" p2) [a,c] [] pos2) X.env)::backTo pos [])) _ _ s
 refine Calls.spliced_cons (Call_ (Zdo I hg2 hm2 hb (PyProof.Rows.callWith_type1 (thn (ha pos2 pins s σ H _ I h) fun us s1 ⟨vs,H1,I1,r1,q1⟩=>?_) hs hp)))
 obtain⟨l1,l2,ks,ys,rfl,hq1,hq2,hlen,hsz,q⟩:=q1
 obtain⟨u,v,rfl,ru,rv⟩:=r1.two
 cases ru
 cases rv
 obtain⟨its1,rv1,p1,_⟩:=I1.tuple hq1
 obtain⟨its2,rv2,p2',_⟩:=I1.tuple hq2
 have lt1:l1<s1.heap.objs.size:=by obtain⟨_,e,_⟩:=p1;exact XD e
 have lt2:l2<s1.heap.objs.size:=by obtain⟨_,e,_⟩:=p2';exact XD e
 have n1:its1.toArray.size=ks.length:=by rw[XJ,←rv1.length,XI]
 have n2:its2.toArray.size=ys.length:=by rw[XJ,←rv2.length]
 refine Zim p1 p2' fun h2 N=>?_
 refine Calls.spliced_nil ?_
 generalize hk:s1.heap.objs.size=k at N lt1 lt2
 have Z:=Zl2 lt1 lt2
 have st:ZS (k+4) (k+2) (k+3) k (k+1) l1 l2 its1.toArray its2.toArray 0 h2:=by
  refine⟨.inl (hk▸N.zip),hk▸N.its,⟨_,_,hk▸N.own⟩,⟨⟨_,hk▸N.i1,rfl,rfl⟩,Heap.IsTuple.at (show s1.heap.IsTuple l1 its1.toArray from p1) fun o q=>N.keep _ o q⟩,⟨⟨_,hk▸N.i2,rfl,rfl⟩,Heap.IsTuple.at (show s1.heap.IsTuple l2 its2.toArray from p2') fun o q=>N.keep _ o q⟩⟩
 have hkk:∀i x,its1.toArray[i]?=some x→(Jf X.prog X.w).is ((ks[i]?).getD (.inl 0)) x=true:=fun i x hx=>by
  have hi:i<ks.length:=by
   have:=(Array.getElem?_eq_some_iff.mp hx).1
   omega
  have hk':ks[i]?=some ks[i]:=by simp[hi]
  have hm':(ks.map kV)[i]?=some (kV ks[i]):=by rw[XM,hk'];rfl
  obtain⟨u,hu,ru⟩:=rv1.get hm'
  have:u=x:=by
   have e:its1[i]?=some x:=by simpa using hx
   rw[hu] at e;exact YH e
  subst this
  rw[hk']
  exact Zf5 ru
 have old:∀b o,s1.heap.get? b=some o→b∉[k+4,k+3,k,k+1]:=fun b o q hb=>by
  have:b<k:=hk▸XD q
  simp only[ZM,ZN,or_false] at hb
  rcases hb with e | e | e | e
  ·rw[e] at this;exact Nat.not_lt_of_le (Nat.le_add_right k 4) this
  ·rw[e] at this;exact Nat.not_lt_of_le (Nat.le_add_right k 3) this
  ·rw[e] at this;exact Nat.lt_irrefl k this
  ·rw[e] at this;exact Nat.not_lt_of_le (Nat.le_add_right k 1) this
 refine Zny (s:={s1 with heap:=h2}) (knd:=Jf X.prog X.w) (I.ok.hd hc) Z (XH lt1) (XH (Nat.lt_succ_of_lt lt2)) (by omega) (fun j=>(ks[j]?).getD (.inl 0)) hkk (by omega) s1.heap old N.keep (hk▸N.zip) st fun h3 tk3 keep dd=>?_
 have hp3:s1.heap.objs.size≤h2.objs.size:=by
  have:=XD (hk▸N.zip:IsZip h2 (k+4) (k+2) (k+3) .none)
  rw[hk];exact XN (Nat.le_add_right _ _) (Nat.le_of_lt this)
 rw[n1] at dd
 have big:(h2.objs.size==sysModules)=false:=beq_eq_false_iff_ne.mpr (Ne.symm (XH (XG I1.big hp3)))
 have zl:(dzK putK ks ys).length≤sizeLine:=by
  have:=Z35 (α:=V) (put:=putK) (fun a k v=>by unfold putK;split<;>simp) ks ys
  exact XN (XN this hsz) (by decide)
 exact⟨.ref _,_,I1.laid (h':=h3) (t':=tk3) keep hp3 (Zka zl big (dz_kv hlen rv2) dd),rfl,q _ (I1.hok.fresh hp3)⟩
end
end L2
namespace WL
open PySem PySem.Spec PyProof.Rows L2
def eDz (a:WA):WE:=fun τ C Q χ=>a τ C (fun vs C1=>∃(zs:List Str) (ts:List T),vs=[.tup (zs.map T.str),.tup ts]∧zs.length=ts.length∧zs.length≤1000∧∀p,C1 p=none→Q (.ref p) (up C1 p (.dic (dzK putT (zs.map Sum.inr) ts)))) χ
theorem Zli {K:W.Frag}{H:Hp}:∀{zs:List Str} {ys:List V},Reps K H ys (zs.map T.str)→ys=(zs.map (Sum.inr:Str→Key)).map kV
 | [],_,h=>by rw[Zas h];rfl
 | z::zs,_,h=>by obtain⟨y,r,rfl,a,b⟩:=Jo h;rw[Jv a,Zli b];rfl
theorem pr_dz {K:W.Frag}{H:Hp}{ks:List Key}{ys:List V}{ts:List T}(r:Reps K H ys ts):PR K H (dzK putK ks ys) (dzK putT ks ts):=by
 unfold dzK
 have key:∀(ks:List Key) (ys:List V) (ts:List T) (a:List (Key×V)) (b:List (Key×T)),Reps K H ys ts→PR K H a b→PR K H ((ks.zip ys).foldl (fun a kv=>putK a kv.1 kv.2) a) ((ks.zip ts).foldl (fun a kv=>putT a kv.1 kv.2) b):=by
  intro ks
  induction ks with
  | nil=>intro ys ts a b r h;exact h
  | cons k ks ih=>
   intro ys ts a b r h
   cases ts with
   | nil=>rw[Zas r];exact h
   | cons t ts=>
    obtain⟨y,r',rfl,q,q'⟩:=Jo r
    simp only[List.zip_cons_cons,List.foldl_cons]
    exact ih _ _ _ _ q' (PR.put h q)
 exact key ks ys ts [] [] r .nil
section
variable {X:Cx}{a c:Expr}{wA:WA}{p pos p2 pos2:Pos}
theorem d_dz (hc:X.calm=true)(hg:Gl X "dict")(hm:X.mg "dict"=none)(hg2:Gl X "zip")(hm2:X.mg "zip"=none)(ha:SdA X [a,c] wA)(hs:starEach [a,c] X.env=(false,eval a X.env)::starEach [c] X.env:=by rfl)(hp:(backTo pos2 (starEach [c] X.env)).any (·.1)=false:=by rfl)
  (hs2:starEach [.Call (.Name "zip" p2) [a,c] [] pos2] X.env=[(false,eval (.Call (.Name "zip" p2) [a,c] [] pos2) X.env)]:=by rfl):SdE X (.Call (.Name "dict" p) [.Call (.Name "zip" p2) [a,c] [] pos2] [] pos) (eDz wA):=by
 obtain⟨t,p1,s⟩:=ha
 refine⟨_,Zqn hc hg hm hg2 hm2 p1 hs hp hs2,fun F H C σ τ Q Q' χ R S h q=>?_⟩
 refine s F H C σ τ _ _ χ R S h fun xs vs H1 C1 R1 t1 rs h1=>?_
 obtain⟨zs,ts,rfl,hl,hz,h1⟩:=h1
 obtain⟨x1,r1,rfl,q1,rs⟩:=Jo rs
 obtain⟨x2,r2,rfl,q2,rs⟩:=Jo rs
 cases Zas rs
 obtain⟨a1,ys1,rfl,sq1,e1⟩:=Y6 q1
 obtain⟨a2,ys2,rfl,sq2,e2⟩:=Y6 q2
 cases Zli e1
 refine⟨a1,a2,zs.map Sum.inr,ys2,rfl,sq1,sq2,by rw[XI,e2.length];exact hl,by rw[XI];exact hz,fun pp hpp=>?_⟩
 have tn:Tx H1 (upd H1 pp (.dK (dzK putK (zs.map Sum.inr) ys2))):=Tx.new hpp
 exact q _ _ _ _ (R1.new (o:=.dic (dzK putT (zs.map Sum.inr) ts)) hpp ⟨_,Yo,Zjg tn (pr_dz e2)⟩) (t1.trans tn) Ju (h1 pp (R1.free hpp))
end
end WL
namespace L2
open PySem PySem.Spec PyProof.Rows
section
variable {X:Cx}
def tFv (te:TE):TE:=fun σ H Q=>te σ H fun x H1=>(∃z:Str,x=.str z∧z.length≤sizeLine∧Q (.str z) H1)∨∃i:Int,x=.int i∧i.natAbs.log2<1920∧Q (.str (toString i)) H1
theorem pe_fv {e:Expr}{te:TE}{pos:Pos}(h:PE X e te):PE X (.FormattedValue e (-1) none pos) (tFv te):=by
 intro pins s σ H Q I q
 refine FormattedValue_plain (thn (h pins s σ H _ I q) fun u s1 ⟨x,H1,I1,rx,q1⟩=>?_)
 rcases q1 with⟨z,rfl,hz,q1⟩ | ⟨i,rfl,hi,q1⟩
 ·obtain⟨t,rfl⟩:=rx
  exact formatField_str (fun t' tk=>⟨.str z,H1,I1.tok _,⟨t',rfl⟩,q1⟩) hz
 ·obtain⟨t,rfl⟩:=rx
  exact formatField_int_small hi ⟨.str (toString i),H1,I1.tok _,⟨_,rfl⟩,q1⟩
def tJ:List TE→Str→TE
 | [],out=>fun _ H Q=>Q (.str out) H
 | t::ts,out=>fun σ H Q=>t σ H fun x H1=>∃z:Str,x=.str z∧(out++z).length≤sizeLine∧tJ ts (out++z) σ H1 Q
inductive PEs (X:Cx):List Expr→List TE→Prop
 | nil:PEs X [] []
 | cons {e:Expr} {es:List Expr} {t:TE} {ts:List TE} (h:PE X e t) (r:PEs X es ts):PEs X (e::es) (t::ts)
theorem pj {es:List Expr}{ts:List TE}(h:PEs X es ts):∀{pins:List (Addr×Obj)} {s:Shared} {σ:St} {H:Hp} {Q:VK} {out:Str},out.length≤sizeLine→Inv X pins σ H s→tJ ts out σ H Q→wpAny (model X.prog X.w) X.A (joinParts out (evalEach es X.env)) (EP X pins σ Q) X.xe s:=by
 induction h with
 | nil=>
  intro pins s σ H Q out ho I q
  exact joinParts_nil ⟨.str out,H,I.tok _,⟨_,rfl⟩,q⟩ ho
 | @cons e es t ts h r ih=>
  intro pins s σ H Q out ho I q
  show wpAny _ _ (joinParts out (eval e X.env::evalEach es X.env)) _ _ s
  refine joinParts_cons (thn (h pins s σ H _ I q) fun u s1 ⟨x,H1,I1,rx,z,ex,hz,q1⟩=>?_)
  subst ex
  obtain⟨t',rfl⟩:=rx
  exact⟨hz,ih hz I1 q1⟩
theorem Ztc {v1 v2:Expr}{rest:List Expr}{ts:List TE}{pos:Pos}(h:PEs X (v1::v2::rest) ts):PE X (.JoinedStr (v1::v2::rest) pos) (tJ ts Str.empty):=by
 intro pins s σ H Q I q
 exact JoinedStr_many (pj h (XO _) I q)
end
end L2
namespace WL
open PySem PySem.Spec PyProof.Rows L2
def eFv (e:WE):WE:=fun τ C Q χ=>e τ C (fun x C1=>(∃z:Str,x=.str z∧z.length≤sizeLine∧Q (.str z) C1)∨∃i:Int,x=.int i∧i.natAbs.log2<1920∧Q (.str (toString i)) C1) χ
def eJ:List WE→Str→WE
 | [],out=>fun _ C Q _=>Q (.str out) C
 | w::ws,out=>fun τ C Q χ=>w τ C (fun v C1=>∃z:Str,v=.str z∧(out++z).length≤sizeLine∧eJ ws (out++z) τ C1 Q χ) χ
section
variable {X:Cx}{e k v:Expr}{we wk wv:WE}{pos:Pos}
theorem d_fv (he:SdE X e we):SdE X (.FormattedValue e (-1) none pos) (eFv we):=by
 obtain⟨t,p,s⟩:=he
 refine⟨_,pe_fv p,fun F H C σ τ Q Q' χ R S h q=>?_⟩
 refine s F H C σ τ _ _ χ R S h fun x u H1 C1 R1 t1 rx h1=>?_
 rcases h1 with⟨z,rfl,hz,h1⟩ | ⟨i,rfl,hi,h1⟩
 ·cases Jv rx
  exact .inl ⟨z,rfl,hz,q _ _ H1 C1 R1 t1 Xa h1⟩
 ·cases Yh rx
  exact .inr ⟨i,rfl,hi,q _ _ H1 C1 R1 t1 Xa h1⟩
def SdJ (X:Cx)(es:List Expr)(ws:List WE):Prop:=∃ts,PEs X es ts∧∀(out:Str),SimE X.K (tJ ts out) (eJ ws out)
theorem Z37:SdJ X [] []:=⟨[],.nil,fun out F H C σ τ Q Q' χ R S h q=>q _ _ H C R (Tx.refl H) Xa h⟩
theorem Zno {es:List Expr}{ws:List WE}(he:SdE X e we)(hr:SdJ X es ws):SdJ X (e::es) (we::ws):=by
 obtain⟨t,p,s⟩:=he
 obtain⟨ts,ps,ss⟩:=hr
 refine⟨t::ts,.cons p ps,fun out F H C σ τ Q Q' χ R S h q=>?_⟩
 refine s F H C σ τ _ _ χ R S h fun x u H1 C1 R1 t1 rx h1=>?_
 obtain⟨z,rfl,hz,h1⟩:=h1
 cases Jv rx
 exact⟨z,rfl,hz,ss (out++z) F H1 C1 σ τ _ _ χ R1 (S.tx t1) h1 (QE.at q t1)⟩
theorem Zxj {v1 v2:Expr}{rest:List Expr}{ws:List WE}(h:SdJ X (v1::v2::rest) ws):SdE X (.JoinedStr (v1::v2::rest) pos) (eJ ws Str.empty):=by
 obtain⟨ts,ps,ss⟩:=h
 exact⟨_,Ztc ps,ss _⟩
def Zxb (k v:WE):WE:=fun τ C Q χ=>∀p,C p=none→k τ (up C p (.dic [])) (fun x C1=>v τ C1 (fun y C2=>∃kk,kT x=some kk∧C2 p=some (.dic [])∧Q (.ref p) (up C2 p (.dic [(kk,y)]))) χ) χ
theorem Z0j (hk:SdE X k wk)(hv:SdE X v wv):SdE X (.Dict [some k] [v] pos) (Zxb wk wv):=by
 obtain⟨tk,p1,s1⟩:=hk
 obtain⟨tv,p2,s2⟩:=hv
 refine⟨_,Zza (Zvr p1 p2 Zy3) rfl rfl (by simp) (by simp),fun F H C σ τ Q Q' χ R S h q=>?_⟩
 intro p hp
 have tn:Tx H (upd H p (.dK [])):=Tx.new hp
 have R0:Rl X.K F (upd H p (.dK [])) (up C p (.dic [])):=R.new hp ⟨[],Yo,.nil⟩
 refine s1 F _ _ σ τ _ _ χ R0 (S.tx tn) (h p (R.free hp)) fun x u H1 C1 R1 t1 rx h1=>?_
 refine s2 F H1 C1 σ τ _ _ χ R1 (S.tx (tn.trans t1)) h1 fun y u2 H2 C2 R2 t2 ry h2=>?_
 obtain⟨kk,hk,hC,h2⟩:=h2
 obtain⟨ks,hH,pr⟩:=R2.dic hC
 cases pr
 have ex:x=kV kk:=Zfa hk rx
 subst ex
 have tp:Tx H2 (upd H2 p (.dK [(kk,y)])):=Tx.put hH (fun z=>z)
 obtain⟨R3,t3⟩:=R2.put (u:=.dK [(kk,y)]) (o':=.dic [(kk,u2)]) hC ⟨_,Yo,.cons ⟨rfl,ry.tx tp⟩ .nil⟩
 exact⟨hH,[(kk,y)],rfl,by simp,q _ _ _ _ R3 (((tn.trans t1).trans t2).trans t3) Ju h2⟩
end
end WL
namespace L2
open PySem PySem.Spec PyProof.Rows
section
variable {X:Cx}
def Zyo:V→List V→Hp→VK→Prop:=fun x vs H Q=>∃l xs i y,x=.ref l∧vs=[.int i,y]∧H l=some (.lst xs)∧0≤i∧i.toNat≤xs.length∧xs.length<sizeLine∧Q .non (upd H l (.lst (xs.take i.toNat++y::xs.drop i.toNat)))
theorem Z32 {its:List Value}{w:Value}{i:Int}{k:Nat}(h0:0≤i)(hk:i.toNat=k)(hl:k≤its.length):
  (its.toArray.extract 0 (if i<0 then(i+(its.toArray.size:Int)).toNat else min i.toNat its.toArray.size)).push w++its.toArray.extract (if i<0 then(i+(its.toArray.size:Int)).toNat else min i.toNat its.toArray.size)=(its.take k++w::its.drop k).toArray:=by
 rw[XX (by omega),hk,XJ,Nat.min_eq_left hl]
 apply Array.toList_inj.mp
 simp
 exact List.take_of_length_le (by rw[List.length_drop];omega)
theorem Zti:MtM X "list.insert" Zyo:=by
 intro pins s σ H x vs v us Q I rx rv h
 obtain⟨l,xs,i,y,rfl,rfl,hH,h0,hk,hz,q⟩:=h
 cases rx
 obtain⟨u,w,rfl,ru,rw'⟩:=rv.two
 obtain⟨t,rfl⟩:=ru
 obtain⟨z,its,n,r,hl,e⟩:=I.lstM hH
 have hfit:Builtin.List.listFitsIndex i=true:=by
  have h1: -(2^63:Int)≤i:=by omega
  have h2:i<2^63:=by
   have:sizeLine<2^63:=by decide
   omega
  exact fitsIndex_both h1 h2
 refine call_meets F.slot_list_insert ⟨_,e,rfl⟩ F.entry_list_insert (F.args_list_insert_3 _ _ _) (PySem.AutoSeq1.list_insert_list_int_val_1 l its.toArray n i t w (by simp[hfit]) (by rw[List.size_toArray];omega)) ⟨e,?_⟩
 refine⟨.non,_,I.lset (its':=its.take i.toNat++w::its.drop i.toNat) hH e (Z32 h0 rfl (by omega)) ((r.take i.toNat).append (.cons rw' (r.drop i.toNat))) ?_,rfl,q⟩
 simp
 omega
end
end L2
namespace WL
open PySem PySem.Spec PyProof.Rows L2
section
variable {X:Cx}
def Zm6:T→List T→Hw→WK→Prop:=fun x vs C Q=>∃a xs i y,x=.ref a∧vs=[.int i,y]∧C a=some (.lst xs)∧0≤i∧i.toNat≤xs.length∧xs.length<sizeLine∧Q .non (up C a (.lst (xs.take i.toNat++y::xs.drop i.toNat)))
theorem Zo8:MtS X "list.insert" Zm6:=⟨_,Zti,fun F H C x v xs vs Q Q' R rx rs h q=>by
 obtain⟨a,ts,i,y,rfl,rfl,hx,h0,hk,hl,h⟩:=h
 cases Yd rx
 obtain⟨z1,z2,rfl,r1,r2⟩:=Zm0 rs
 cases Yh r1
 obtain⟨ys,hy,r⟩:=R.lst hx
 obtain⟨R',t⟩:=R.putL hx ((r.take i.toNat).app (Yk r2 (r.drop i.toNat)))
 exact⟨a,ys,i,z2,rfl,rfl,hy,h0,by rw[r.length];exact hk,by rw[r.length];exact hl,q _ _ _ _ R' t Zdc h⟩⟩
end
end WL
namespace L2
open PySem PySem.Spec PyProof.Rows
open AutoSeq1 (wpAny_loadPart')
theorem Zo2 (l:Addr)(items:Array Value)(t:Tok):
  Meets (Builtin.«enumerate.__new__» ⟨[.type "enumerate",.ref l],[("start",.int 1 t)]⟩) (fun _ R s=>s.heap.IsTuple l items∧
   R (.ok (.ret (.ref (s.heap.push {cls:=.type "tuple_iterator",data:=.fields #[.ref l,.int 0 0]}).objs.size)))
    {s with heap:=(s.heap.push {cls:=.type "tuple_iterator",data:=.fields #[.ref l,.int 0 0]}).push {cls:=.type "enumerate",data:=.fields #[.none,.bool false,.ref s.heap.objs.size,rawInt 1,.none,.none]}}):=
 .of_wp fun prog w A R s h=>by
  obtain⟨hp,g,d,tk,os⟩:=s;obtain⟨hL,h⟩:=h
  have hsub:=sub_enumerate
  wp_walk
  refine wpAny_stack_any fun st=>XB ?_
  split
  ·rename_i c _ _ _ _ _
   cases (c==Value.type "enumerate")
   ·wp_walk using wpAny_pyIter_tuple hL
    exact⟨_,rfl,h⟩
   ·wp_walk using wpAny_pyIter_tuple hL
    exact⟨_,rfl,h⟩
  ·wp_walk using wpAny_pyIter_tuple hL
   exact⟨_,rfl,h⟩
theorem Zxm (a:Value)(t:Tok):checkTypeCall "enumerate" ⟨[a],[("start",.int 1 t)]⟩=pure ():=by kernel_rfl
theorem Zxn (a:Value)(t:Tok):checkBuiltinCall "enumerate.__new__" ⟨[.type "enumerate",a],[("start",.int 1 t)]⟩=pure ():=by kernel_rfl
theorem Zq4 {self a:Value}{t:Tok}:Meets (Builtin.«object.__init__» ⟨[self,a],[("start",.int 1 t)]⟩) (fun _ R s=>s.TypeIs self "enumerate"∧R (.ok (.ret .none)) s):=by
 refine Meets.of_wp fun prog w A R s hs=>?_
 obtain⟨hT,hq⟩:=hs
 have hl:=F.called_enumerate.init.lookup
 have hm:=F.called_enumerate.made
 have hne:(some "enumerate.__new__" !=some "object.__new__")=true:=by decide
 repeat (any_goals (first | assumption | wp_step))
 exact⟨_,rfl,hq⟩
section
variable {prog:Program}{w:World}{A:Around}{E:Value→Shared→Prop}{s:Shared}
theorem Zxw (obj a:Value)(t:Tok):argsOk "object.__init__" ⟨[obj,a],[("start",.int 1 t)]⟩:=by
 unfold argsOk;rw[signature?_of (id:="object.__init__") (n:=['_','_','t','i','n','i','_','_']) (o:=['t','c','e','j','b','o']) (by kernel_rfl) F.owner_object];kernel_rfl
theorem Zpz {a:Value}{t:Tok}{S:PySem.Spec}{Q:Value→Shared→Prop}(g:Meets (Builtin.«enumerate.__new__» ⟨[.type "enumerate",a],[("start",.int 1 t)]⟩) S)
  (h:S A.in1 (wants (fun obj s₁=>s₁.TypeIs obj "enumerate"∧Q obj s₁) E) s):wpAny (model prog w) A (call (.type "enumerate") [a] [("start",.int 1 t)]) Q E s:=by
 have ft:=F.called_enumerate
 obtain⟨c,tl,hmro⟩:=ft.mro
 have hmade:=ft.made
 have hsub:=ft.sub
 have hct:=Zxm a t
 refine wpAny_call (codeAny_of_tree ?_)
 show wpAny _ _ (callAny (.type "enumerate") _) _ _ _
 refine XB ⟨Code.quiet_builtin _ (by decide+kernel),codeAny_builtin F.entry_type_call ?_⟩
 rw[Around.under_plain (weight_type_call_type "enumerate" [a] [("start",.int 1 t)]) (units_type_call_type "enumerate" [a] [("start",.int 1 t)])]
 have h1:=ft.notType
 have h2:=ft.canCreate
 repeat (any_goals (first | assumption | wp_step))
 refine codeAny_mono (codeAny_call_builtin ft.plain F.entry_enumerate_new (wpAny_of_eq (Zxn a t) (g prog w A.in1 _ s h))) fun r s₁ hr=>?_
 cases r with
 | error e=>exact hr
 | ok fl=>
  cases fl with
  | ret obj=>
   have hT:=hr.1
   have hli:=ft.init.lookup
   have hbi:=ft.init.bind obj
   repeat (any_goals (first | assumption | wp_step))
   refine codeAny_mono (codeAny_call_builtin ft.init.plain F.entry_object_init (ft.init.check _ _ _ _ _ _ _ _ hT (Zxw obj a t) (Zq4 prog w A.in1 (wants (fun r s₂=>r=.none∧Q obj s₂) E) s₁ ⟨hT,rfl,hr.2⟩))) fun r₂ s₂ hr₂=>?_
   cases r₂ with
   | error e=>exact hr₂
   | ok fl₂=>
    cases fl₂ with
    | ret r=>
     obtain⟨rfl,hq⟩:=hr₂
     repeat (any_goals (first | assumption | wp_step))
    | _=>exact hr₂.elim
  | _=>exact hr.elim
theorem Zrh {l:Addr}{items:Array Value}{t:Tok}{Q:Value→Shared→Prop}(hL:s.heap.IsTuple l items)
  (h:∀h',IsEnum h' (s.heap.objs.size+1) s.heap.objs.size 1 .none→h'.IsTupleIter s.heap.objs.size l 0→h'.objs.size=s.heap.objs.size+2→
   (∀b o,s.heap.get? b=some o→h'.get? b=some o)→Q (.ref (s.heap.objs.size+1)) {s with heap:=h'}):
  wpAny (model prog w) A (call (.type "enumerate") [.ref l] [("start",.int 1 t)]) Q E s:=by
 refine Zpz (Zo2 l items t) ⟨hL,?_⟩
 have hz:(s.heap.push {cls:=.type "tuple_iterator",data:=.fields #[.ref l,.int 0 0]}).objs.size=s.heap.objs.size+1:=Heap.size_push ..
 show _∧_
 rw[hz]
 have he:IsEnum ((s.heap.push {cls:=.type "tuple_iterator",data:=.fields #[.ref l,.int 0 0]}).push
   {cls:=.type "enumerate",data:=.fields #[.none,.bool false,.ref s.heap.objs.size,rawInt 1,.none,.none]}) (s.heap.objs.size+1) s.heap.objs.size 1 .none:=by
  have:=XF (s.heap.push {cls:=.type "tuple_iterator",data:=.fields #[.ref l,.int 0 0]})
   (o:={cls:=.type "enumerate",data:=.fields #[.none,.bool false,.ref s.heap.objs.size,rawInt 1,.none,.none]}) rfl
  rw[hz] at this;exact this
 refine⟨⟨_,he,rfl⟩,h _ he ⟨_,XC _ (XF _ rfl),rfl,rfl⟩ (by rw[Heap.size_push,hz]) fun b o x=>XC _ (XC _ x)⟩
theorem Zpq {it:Addr}{fp:List Addr}{n:Nat}{P:Nat→Value→Prop}{St:Nat→Heap→Prop}(D:Draws prog w A it fp n P St):
  Draws prog w A it fp (n+1) (fun i v=>∃j,i=j+1∧P j v) (fun i h=>∃j,i=j+1∧St j h) where
 live:=fun _ _ ⟨_,_,st⟩=>D.live _ _ st
 frame:=fun _ _ _ ⟨j,e,st⟩ k=>⟨j,e,D.frame _ _ _ st k⟩
 item:=fun i s Q E hi ⟨j,e,st⟩ hQ=>by
  subst e
  exact D.item j s Q E (by omega) st fun x h' tk hp st' hs=>hQ x h' tk ⟨j,rfl,hp⟩ ⟨j+1,rfl,st'⟩ hs
 done:=fun s Q E ⟨j,e,st⟩ hE=>by
  have:j=n:=by omega
  subst this
  exact D.done s Q E st hE
end
def It1 (K:W.Frag)(l:Addr):It:=
 ⟨fun i H=>∃xs,SqT K H l xs∧i<xs.length,
  fun i H x H'=>∃u T,(∀xs,SqT K H l xs→xs[i]?=some u)∧x=.ref T∧H T=none∧H'=upd H T (.tup [.int ((i+1:Nat):Int),u]),
  fun i H=>∃xs,SqT K H l xs∧i=xs.length⟩
theorem nin1 {k l:Addr}(h1:l<k):k+1∉[k,l]:=fun z=>by
 simp only[ZM,ZN,or_false] at z
 rcases z with z | z
 ·exact Nat.succ_ne_self k z
 ·exact Nat.lt_asymm h1 (z▸Nat.lt_succ_self k)
theorem Zug {P:Program}{w:World}{K:W.Frag}{elts:List Expr}{ek:Nat}{epos:Pos}{k l:Addr}(h1:l<k):
  Turn P w K (.Tuple elts ek epos) (It1 K l) [k+1,k] (k+1) (fun i h=>(∃old,IsEnum h (k+1) k ((i+1:Nat):Int) old)∧h.IsTupleIter k l i) where
 mem:=by simp
 obj:=fun i h st c hc=>by
  obtain⟨⟨old,a1⟩,a4⟩:=st
  simp only[ZM,ZN,or_false] at hc
  rcases hc with rfl | rfl
  ·exact⟨_,a1,fun v z=>by have z':Data.fields _=Data.cell v:=z;cases z'⟩
  ·obtain⟨o,e,c,d⟩:=a4;exact⟨o,e,fun v z=>by rw[d] at z;cases z⟩
 keep:=fun i h h' st kp=>by
  obtain⟨⟨old,a1⟩,a4⟩:=st
  exact⟨⟨old,kp _ (by simp) _ a1⟩,a4.at fun o e=>kp _ (by simp) o e⟩
 item:=by
  intro X hP hw hK hc i pins s σ H E I hf st hg
  subst hP hw hK
  obtain⟨xs,hq1,hi⟩:=hg
  obtain⟨its1,rv1,p1,_⟩:=I.tuple hq1
  obtain⟨a1,a4⟩:=st
  have hn1:its1.toArray.size=xs.length:=by rw[XJ,rv1.length]
  have D1:=Za8 (prog:=X.prog) (w:=X.w) (A:=X.A.in1) (I.ok.hd hc) k l (XH h1) its1.toArray
  rw[hn1] at D1
  have W:=WalksT.enumerateD (Zpq D1) (k+1) (Nat.succ_ne_self k) (nin1 h1) (by simp)
  refine W.item (i+1) s _ _ (by omega) ⟨a1,i,rfl,a4,p1⟩ fun T vals h' tk hv hT htup hm kk=>?_
  obtain⟨t,x,⟨j,ej,hx⟩,rfl⟩:=hv
  have ej':j=i:=by omega
  subst ej'
  refine⟨_,rfl,W.go elts ek epos (j+1) T {s with heap:=h',toks:=tk} _ _ hm fun h2 st2 kk2=>?_⟩
  have hu:xs[j]?=some xs[j]:=by simp[hi]
  obtain⟨u1,e1,r1⟩:=rv1.get hu
  have ex:x=u1:=by
   have:its1[j]?=some x:=by simpa using hx
   rw[e1] at this;exact(YH this).symm
  subst ex
  have hTn:H T=none:=I.hok.fresh hT
  have hTw:T∉[k+1,k]:=W.apart (j+1) T h' hm
  have k2:∀c o,c∉[k+1,k]→s.heap.get? c=some o→h2.get? c=some o:=fun c o hb q=>kk2 c o hb (kk c o hb q)
  have htup2:IsTup h2 T #[.int ((j+1:Nat):Int) t,x]:=by
   obtain⟨o,ho,r⟩:=htup
   exact⟨o,kk2 T o hTw ho,r⟩
  have hfp:∀c∈[k+1,k],H c=none:=fun c hb=>(hf c hb).1
  have hne:∀c,c<s.heap.objs.size→c≠T:=fun c hb=>XH (XG hb hT)
  have tracked:∀c u,H c=some u→c≠T∧c∉[k+1,k]:=fun c u q=>⟨hne c (I.hok.lt q),fun z=>by rw[hfp c z] at q;cases q⟩
  have I1:Inv X pins σ (upd H T (.tup [.int ((j+1:Nat):Int),xs[j]])) {s with heap:=h2,gens:=s.gens,drawn:=s.drawn,toks:=tk}:=by
   refine I.step (ch:=[k+1,k]) (fun c hb=>?_) (fun c o _ _ hc q _=>k2 c o hc q) (fun c o _ _ hc q _=>⟨o.slots,k2 c o hc q⟩) (fun c o hc q n=>by rw[Yc (hne c (XD q))];exact n) (fun c o hc q=>⟨o,k2 c o hc q⟩)
    (fun c xs q=>by rw[Yc (tracked c _ q).1];exact q) (fun c o u q=>by rw[Yc (tracked c _ q).1];exact q) (fun c ps q=>⟨#[],by rw[Yc (tracked c _ q).1,q];simp⟩) (fun m hm=>?_) (fun c u q=>?_) I.bare
   ·obtain⟨f0,f1,f2,f3,f4,f5⟩:=hf c hb
    exact⟨f3,f1,f4,f5⟩
   ·obtain⟨o,es,ep,ho,r⟩:=hm
    exact⟨o,es,ep,k2 _ o (fun z=>(hf _ z).2.1 rfl) ho,r⟩
   ·by_cases hb:c=T
    ·subst hb
     rw[Yo] at q;cases q
     exact⟨XN (by decide:2≤1000) (Nat.le_of_lt (small1000 (XE _))),[.int ((j+1:Nat):Int) t,x],.cons ⟨t,rfl⟩ (.cons r1 .nil),htup2⟩
    ·rw[Yc hb] at q
     refine(I.hok c u q).stay (fun d v hd r=>k2 d v ?_ r) (fun d r=>by rw[Yc (tracked d _ r).1];exact r) fun d xs r=>by rw[Yc (tracked d _ r).1];exact r
     rcases hd with rfl | hd
     ·exact(tracked d _ q).2
     ·exact(tracked d _ hd).2
  obtain⟨b1,j2,ej2,b4,_⟩:=st2
  have ej3:j2=j+1:=by omega
  subst ej3
  refine⟨.ref T,_,I1,rfl,⟨_,T,fun zs hz=>by rw[I.tuple_inj hz hq1];exact hu,rfl,hTn,rfl⟩,⟨b1,b4⟩,fun c hb=>?_⟩
  have hbT:c≠T:=fun z=>hTw (by rw[←z];exact hb)
  rw[Yc hbT];exact hfp c hb
 done:=by
  intro X hP hw hK hc i pins s σ H E I hf st hg
  subst hP hw hK
  obtain⟨xs,hq1,hi⟩:=hg
  obtain⟨its1,rv1,p1,_⟩:=I.tuple hq1
  obtain⟨a1,a4⟩:=st
  have hn1:its1.toArray.size=xs.length:=by rw[XJ,rv1.length]
  have D1:=Za8 (prog:=X.prog) (w:=X.w) (A:=X.A.in1) (I.ok.hd hc) k l (XH h1) its1.toArray
  rw[hn1] at D1
  subst hi
  have W:=WalksT.enumerateD (Zpq D1) (k+1) (Nat.succ_ne_self k) (nin1 h1) (by simp)
  refine W.done s _ _ ⟨a1,_,rfl,a4,p1⟩ fun h' tk kk=>⟨rfl,?_⟩
  exact I.step (g':=s.gens) (d':=s.drawn) (ch:=[k+1,k]) (fun b hb=>let ⟨f0,f1,f2,f3,f4,f5⟩:=hf b hb;⟨f3,f1,f4,f5⟩) (fun b o _ _ hc q _=>kk b o hc q) (fun b o _ _ hc q _=>⟨o.slots,kk b o hc q⟩) (fun b o _ _ n=>n) (fun b o hc q=>⟨o,kk b o hc q⟩)
    (fun _ _ q=>q) (fun _ _ _ q=>q) (fun b ps q=>⟨#[],by rw[q];simp⟩) (fun m hm=>let ⟨o,es,ep,ho,r⟩:=hm;⟨o,es,ep,kk _ o (fun z=>(hf _ z).2.1 rfl) ho,r⟩)
    (fun b u q=>(I.hok b u q).stay (fun d v hd r=>kk d v (fun z=>by
     rcases hd with rfl | hd
     ·rw[(hf _ z).1] at q;cases q
     ·rw[(hf _ z).1] at hd;cases hd) r) (fun _ r=>r) fun _ _ r=>r) I.bare
 self:=fun A i s Q E st h=>by
  obtain⟨⟨old,he⟩,_⟩:=st
  exact wpAny_pyIter_enum he h
theorem Zkj {M:Model}{A:Around}{E:Value→Shared→Prop}{s:Shared}{pos:Pos}{T:String}{args:List (Bool×Sem Value)}{keywords:List (Option Str×Sem Value)}{Q:Value→Shared→Prop}
  (hplain:args.any (·.1)=false) (hkw:keywords.any (·.1.isNone)=false)
  (h:wpAny M A (evalArgs (.type T) true args keywords) (fun a s₁=>wpAny M A (call (.type T) a.pos a.kw) Q E s₁) E s):
  wpAny M A (callWith pos (.type T) [] args keywords) Q E s:=by
 unfold callWith
 refine XA (wpAny_holding (wpAny_mono h (fun a s₁ h₁=>XA (wpAny_standAt ?_)) fun _ _ x=>x))
 simp only[hplain,hkw,Bool.or_false]
 refine XA (XB ?_)
 exact XA (wpAny_mono h₁ (fun r s₂ hr=>XA (wpAny_holding (wpAny_point (XB hr)))) fun _ _ x=>x)
section
variable {X:Cx}{elts:List Expr}{ek:Nat}{epos:Pos}
def iEn1 (K:W.Frag)(ta:TA):TI:=fun σ H R=>ta σ H fun vs H1=>∃(l:Addr) (xs:List V),vs=[.ref l]∧SqT K H1 l xs∧R (It1 K l) H1
theorem Z2f {a:Expr}{ta:TA}{p pos kp kc:Pos}{j:Nat}(hg:Gl X "enumerate")(hm:X.mg "enumerate"=none)(ha:PA X [a] ta)
  (hs:starEach [a] X.env=[(false,eval a X.env)]:=by rfl) (hb:bootBuiltins "enumerate"=some (.type "enumerate"):=by decide+kernel)
  (he:eval (.Call (.Name "enumerate" p) [a] [⟨some "start",.Constant (.int 1) j kc,kp⟩] pos) X.env=(do callWith pos (←eval (.Name "enumerate" p) X.env) [] (backTo pos (starEach [a] X.env)) (backToKw pos (keywordEach [⟨some "start",.Constant (.int 1) j kc,kp⟩] X.env))):=by rfl):
  PI X (.Tuple elts ek epos) (.Call (.Name "enumerate" p) [a] [⟨some "start",.Constant (.int 1) j kc,kp⟩] pos) (iEn1 X.K ta):=by
 intro pins s σ H R I h
 rw[he]
 refine XA (Zdo I hg hm hb ?_)
 refine Zkj (by rw[hs];rfl) rfl ?_
 have hargs:backTo pos (starEach [a] X.env)=(false,eval a X.env)::backTo pos []∨True:=.inr trivial
 have key:wpAny (model X.prog X.w) X.A (spliced (backTo pos (starEach [a] X.env))) (fun vs s₁=>wpAny (model X.prog X.w) X.A (evalAll ((backToKw pos (keywordEach [⟨some "start",.Constant (.int 1) j kc,kp⟩] X.env)).map (·.2)))
   (fun kvs s₂=>wpAny (model X.prog X.w) X.A (call (.type "enumerate") vs ((backToKw pos (keywordEach [⟨some "start",.Constant (.int 1) j kc,kp⟩] X.env)).filterMap (·.1)|>.zip kvs)) (fun v s1=>wpAny (model X.prog X.w) X.A (pyIter v) (PIE X pins σ (.Tuple elts ek epos) R) X.xe s1) X.xe s₂) X.xe s₁) X.xe s:=by
  refine thn (ha pos pins s σ H _ I h) fun us s1 ⟨vs,H1,I1,r1,q1⟩=>?_
  refine kws_cons ?_
  refine thn (Zvv (X:=X) pins s1 σ H1 (fun v H2=>v=.int 1∧H2=H1) I1 ⟨rfl,rfl⟩) fun u s2 ⟨v,H2,I2,r2,ev,eH⟩=>?_
  subst ev eH
  obtain⟨t,rfl⟩:=r2
  refine kws_nil ?_
  obtain⟨l,xs,rfl,hq,q⟩:=q1
  obtain⟨w,rfl,rw'⟩:=r1.one
  cases rw'
  obtain⟨its,rv,pt,_⟩:=I2.tuple hq
  have lt:l<s2.heap.objs.size:=by obtain⟨_,e,_⟩:=pt;exact XD e
  show wpAny _ _ (call (.type "enumerate") [.ref l] [("start",.int 1 t)]) _ _ s2
  refine Zrh pt fun h' he hit hsz kk=>?_
  have I3:Inv X pins σ H2 {s2 with heap:=h',toks:=s2.toks}:=I2.kept kk
  refine wpAny_pyIter_enum (s:={s2 with heap:=h'}) he ?_
  have fin:∀b∈[s2.heap.objs.size+1,s2.heap.objs.size],FpOk X pins H2 b:=fun b hb=>by
   have e:s2.heap.objs.size≤b:=by
    rcases List.mem_cons.mp hb with e | hb
    ·omega
    ·have e:b=s2.heap.objs.size:=by simpa using hb
     omega
   exact I2.fpOk e (I2.hok.fresh e)
  exact⟨_,_,_,_,H2,rfl,I3,Zug lt,⟨⟨_,he⟩,hit⟩,fin,q⟩
 rw[hs] at key ⊢
 exact evalArgs_kwB rfl key
end
end L2
namespace WL
open PySem PySem.Spec PyProof.Rows L2
def num1 (xs:List T):List T:=xs.zipIdx.map fun c=>T.tup [.int ((c.2+1:Nat):Int),c.1]
theorem Zha {xs:List T}:(num1 xs).length=xs.length:=by unfold num1;simp
theorem Zr2 {xs:List T}{i:Nat}{x:T}(h:xs[i]?=some x):(num1 xs)[i]?=some (.tup [.int ((i+1:Nat):Int),x]):=by
 unfold num1
 simp[h]
def iEn1 (a:WA):WI:=fun τ C R χ=>a τ C (fun vs C1=>∃xs,vs=[.tup xs]∧R (num1 xs) (fun _=>True) C1) χ
section
variable {X:Cx}{a:Expr}{wA:WA}{p pos kp kc:Pos}{j:Nat}
theorem Z3z {K:W.Frag}{F H0:Hp}{l1:Addr}{xs:List T}{ys1:List V}(q1:SqT K H0 l1 ys1)(r1:Reps K H0 ys1 xs):Zin K F H0 (L2.It1 K l1) (num1 xs) (fun _=>True):=fun i H C R t hok=>by
 have q1:=t.sqt q1
 have r1':=r1.tx t
 have e1:=r1'.length
 refine⟨fun hi=>?_,fun hi=>⟨ys1,q1,by rw[Zha] at hi;omega⟩⟩
 rw[Zha] at hi
 refine⟨⟨ys1,q1,by omega⟩,fun x H' h=>?_⟩
 obtain⟨u,Tt,hu,rfl,hT,rfl⟩:=h
 obtain⟨x,hx,rx⟩:=r1'.get' (hu ys1 q1)
 exact⟨_,Zr2 hx,R.hid hT,Tx.new hT,Zap (SqT.of Yo) (Yk J9 (Yk (rx.tx (Tx.new hT)) Ji))⟩
theorem Z39 {elts:List Expr}{ek:Nat}{epos:Pos}(hg:Gl X "enumerate")(hm:X.mg "enumerate"=none)(ha:SdA X [a] wA)(hs:starEach [a] X.env=[(false,eval a X.env)]:=by rfl)
  (he:eval (.Call (.Name "enumerate" p) [a] [⟨some "start",.Constant (.int 1) j kc,kp⟩] pos) X.env=(do callWith pos (←eval (.Name "enumerate" p) X.env) [] (backTo pos (starEach [a] X.env)) (backToKw pos (keywordEach [⟨some "start",.Constant (.int 1) j kc,kp⟩] X.env))):=by rfl):
  SdI X (.Tuple elts ek epos) (.Call (.Name "enumerate" p) [a] [⟨some "start",.Constant (.int 1) j kc,kp⟩] pos) (iEn1 wA):=by
 obtain⟨t,p1,s⟩:=ha
 refine⟨_,Z2f hg hm p1 hs (by decide+kernel) he,fun F H C σ τ R R' χ Rr S h q=>?_⟩
 refine s F H C σ τ _ _ χ Rr S h fun xs vs H1 C1 R1 t1 rs h1=>?_
 obtain⟨ts,rfl,h1⟩:=h1
 obtain⟨x,rfl,rx⟩:=Zar rs
 obtain⟨l1,y1,rfl,q1,r1⟩:=Y6 rx
 exact⟨l1,y1,rfl,q1,q _ H1 _ _ C1 R1 t1 (fun F'=>Z3z q1 r1) h1⟩
end
theorem Z0l {X:Cx}{k i:Nat}{x:Str}{ps:List Str}{pr:List Df}{p pos:Pos}(Cc:Ca X.prog X.w X.K X.mg X.base k x ps (spW X.K pr k i))(hr:Room k X.A)(hg:Gl X x)
  (hdb:(x==("__debug__":Str))=false:=by decide):SdE X (.Call (.Name x p) [] [] pos) (Z5 (wpc pr k) i Zf):=by
 obtain⟨f,fd,F,B,kp,m⟩:=Cc.ex
 refine⟨_,Zv0 F hr hg m kp B .nil pass0 hdb,fun F H C σ τ Q Q' χ R S h q=>?_⟩
 exact⟨F,C,[],Q',χ,R,Ji,h,q⟩
section
variable {X:Cx}
def Z0y:W2:=fun x y C Q=>∃a k xs,x=.ref a∧y=.int k∧C a=some (.lst xs)∧0≤k∧k≤1000∧xs.length*k.toNat≤sizeLine∧∀p,C p=none→Q (.ref p) (up C p (.lst (List.replicate k.toNat xs).flatten))
theorem Reps.rep {K:W.Frag}{H:Hp}{vs:List T}{ys:List V}(h:Reps K H ys vs):∀n:Nat,Reps K H (List.replicate n ys).flatten (List.replicate n vs).flatten
 | 0=>Ji
 | n+1=>by rw[List.replicate_succ,List.replicate_succ,List.flatten_cons,List.flatten_cons];exact h.app (Reps.rep h n)
theorem Z3c:OpS X (binaryOp .Mult) Z0y:=⟨_,Z2u,fun F H C x y v u Q Q' R rx ry h q=>by
 obtain⟨a,k,xs,rfl,rfl,ha,h0,h1,h2,h⟩:=h
 cases Yd rx;cases Yh ry
 obtain⟨zs,hz,rz⟩:=R.lst ha
 exact⟨a,k,zs,rfl,rfl,hz,by omega,by omega,by rw[rz.length];exact h2,fun p hp=>q _ _ _ _ (R.newL hp (rz.rep k.toNat)) (Tx.new hp) Ju (h p (R.free hp))⟩⟩
end
end WL
namespace K34
open PySem PySem.Spec PyProof.Rows L2 WL
def g_MARKS:T:=.tup [.str "at",.str "shut",.str "ring"]
def g_VALUES:T:=.tup [.str "number",.str "fun",.str "made"]
def Y9 (P:Calls):WS:=
  (Zq (Z3 (Zh Zu (Zd 0) (eC (.int 0))) (gNm 2))
  (Zq (sIf (tBl (Zh wEq (Zd 2) (eC (.str "does")))) (Ya (Zv (Zb (eC (.str "does")) (Zb (Zh Zu (Zd 0) (eC (.int 1))) (Zb (Zh Zu (Zd 1) (eC (.int 0))) (Zb (Zh Zu (Zd 1) (eC (.int 1))) Zf)))))) Z6)
  (Zq (sIf (tOr' (tBl (Zh wEq (Zd 2) (eC (.str "call")))) (tBl (Zh wEq (Zd 2) (eC (.str "first"))))) (Ya (Zv (Zb (Zd 2) (Zb (Zh Zu (Zd 1) (eC (.int 0))) (Zb (Zh Zu (Zd 1) (eC (.int 1))) Zf))))) Z6)
  (Zq (sIf (tBl (Zh wEq (Zd 2) (eC (.str "fun")))) (Ya (Zv (Zb (eC (.str "fun")) (Zb (Zh Zu (Zd 0) (eC (.int 1))) (Zb (Zh Zu (Zd 1) (eC (.int 0))) Zf))))) Z6)
  (Zq (sIf (tBl (Zh wEq (Zd 2) (eC (.str "let")))) (Ya (Zv (Zb (eC (.str "let")) (Zb (Z5 P 1 (Zb (Zh Zu (Zd 0) (eC (.int 1))) (Zb (eSl (Zd 1) oNo (Zdd (eUn wNeg (eC (.int 1))))) Zf))) (Zb (Zh Zu (Zd 1) (eUn wNeg (eC (.int 1)))) Zf))))) Z6)
  (Zq (sIf (tBl (Zh wEq (Zd 2) (eC (.str "shape")))) (Ya (Zv (Zb (eC (.str "shape")) (Zb (Zh Zu (Zd 0) (eC (.int 1))) (Zb (eBi Zgo (Zb (Zd 1) Zf)) Zf))))) Z6)
  (Zq (sIf (tBl (Zh wEq (Zd 2) (eC (.str "choose")))) (Ya (Zv (Zb (eC (.str "choose")) (Zb (Zh Zu (Zd 1) (eC (.int 0))) (Zb (Z5 P 1 (Zb (Zh Zu (Zd 0) (eC (.int 2))) (Zb (eSl (Zd 1) (Zdd (eC (.int 1))) oNo) Zf))) Zf))))) Z6)
  (Zq (sIf (tBl (Zh wEq (Zd 2) (eC (.str "rows")))) (Ya (Zv (Zb (eC (.str "rows")) (Zb (Zh Zu (Zd 1) (eC (.int 0))) (Zb (Z5 P 1 (Zb (Zh Zu (Zd 0) (eC (.int 2))) (Zb (eSl (Zd 1) (Zdd (eC (.int 1))) oNo) Zf))) Zf))))) Z6)
  (Ya (Zd 0))))))))))
def Za9 (P:Calls):WS:=
  (Ya (eBi Zgo (Zb (Za6 [none,none] (iZp (Zb (Zd 0) (Zb (Zd 1) Zf))) (gTp (Js (gNm 0) (Js (gNm 1) Zdy))) tYes (Zh wAdd (eSl (Zd 0) oNo (Zdd (eUn wNeg (eC (.int 1))))) (Zv (Zb (Zd 1) Zf)))) Zf)))
def Zef (P:Calls):WS:=
  (Zq (Z3 (Zh Zu (Zd 0) (eC (.int 0))) (gNm 1))
  (Zq (sIf (tBl (Zh wEq (Zd 1) (eC (.str "does")))) (Ya (Xs (Zb (Zv (Zb (Zv Zf) (Zb (Zh Zu (Zd 0) (eC (.int 2))) Zf))) (Zb (Zv (Zb (Zv Zf) (Zb (Zh Zu (Zd 0) (eC (.int 3))) Zf))) Zf)))) Z6)
  (Zq (sIf (tOr' (tBl (Zh wEq (Zd 1) (eC (.str "call")))) (tBl (Zh wEq (Zd 1) (eC (.str "first"))))) (Ya (Xs (Zb (Zv (Zb (Zv Zf) (Zb (Zh Zu (Zd 0) (eC (.int 1))) Zf))) (Zb (Zv (Zb (Zv Zf) (Zb (Zh Zu (Zd 0) (eC (.int 2))) Zf))) Zf)))) Z6)
  (Zq (sIf (tBl (Zh wEq (Zd 1) (eC (.str "fun")))) (Ya (Xs (Zb (Zv (Zb (Zv (Zb (Zh Zu (Zd 0) (eC (.int 1))) Zf)) (Zb (Zh Zu (Zd 0) (eC (.int 2))) Zf))) Zf))) Z6)
  (Zq (sIf (tBl (Zh wEq (Zd 1) (eC (.str "let")))) (Ya (Z5 P 3 (Zb (Zh Zu (Zd 0) (eC (.int 1))) (Zb (Zh Zu (Zd 0) (eC (.int 2))) Zf)))) Z6)
  (Zq (sIf (tBl (Zh wEq (Zd 1) (eC (.str "shape")))) (Ya (Za6 [none] (iSeq (Zh Zu (Zd 0) (eC (.int 2)))) (gNm 0) tYes (Zv (Zb (Zv Zf) (Zb (Zd 0) Zf))))) Z6)
  (Zq (sIf (tBl (Zh wEq (Zd 1) (eC (.str "choose")))) (Ya (Zh wAdd (Xs (Zb (Zv (Zb (Zv Zf) (Zb (Zh Zu (Zd 0) (eC (.int 1))) Zf))) Zf)) (Za6 [none,none,none] (iSeq (Zh Zu (Zd 0) (eC (.int 2)))) (gTp (Js (gNm 0) (Js (gNm 1) (Js (gNm 2) Zdy)))) tYes (Zv (Zb (Zd 1) (Zb (Zd 2) Zf)))))) Z6)
  (Zq (sIf (tBl (Zh wEq (Zd 1) (eC (.str "rows")))) (Ya (Z5 P 4 (Zb (Zh Zu (Zd 0) (eC (.int 1))) (Zb (Zh Zu (Zd 0) (eC (.int 2))) Zf)))) Z6)
  (Ya (Xs Zf))))))))))
def Zba (P:Calls):WS:=
  (Zq (Z3 (eBi Zgo (Zb (Za6 [none,none] (iSeq (Zd 0)) (gTp (Js (gNm 0) (Js (gNm 1) Zdy))) tYes (Zd 0)) Zf)) (gNm 2))
  (Ya (Zh wAdd (Za6 [none,none,some 2] (iSeq (Zd 0)) (gTp (Js (gNm 0) (Js (gNm 1) Zdy))) tYes (Zv (Zb (Zd 2) (Zb (Zd 1) Zf)))) (Xs (Zb (Zv (Zb (Zd 2) (Zb (Zd 1) Zf))) Zf)))))
def Zbr (P:Calls):WS:=
  Zqh
def Zn4 (P:Calls):WS:=
  (Zq (Z3 (Z5 P 6 (Zb (Zd 0) (Zb (Zd 1) Zf))) (gNm 2))
  (Ya (eIf (tBl (Zh wIsN (Zd 2) (eC (.non)))) (Zd 0) (Zd 2))))
def Zd3 (P:Calls):WS:=
  (Ya (eIf (tTru (Zd 2)) (eC (.non)) (Z5 P 0 (Zb (Zd 0) (Zb (Zd 3) Zf)))))
def Zd2 (P:Calls):WS:=
  (Zq (Z3 (eC (.bl true)) (gNm 2))
  (Zq (Z3 (Xs Zf) (gNm 3))
  (Zq (sFor (iSeq (Z5 P 2 (Zb (Zd 0) Zf))) (gTp (Js (gNm 4) (Js (gNm 5) Zdy)))
  (Zq (Z3 (eIf (tBl (Zh wEq (Zd 4) (Zv Zf))) (Zd 1) (Z5 P 7 (Zb (Zd 1) (Zb (Zd 4) Zf)))) (gNm 6))
  (Zq (Z3 (eIf (tBl (Zh wReq (Zd 6) Zh8)) (eC (.non)) (Z5 P 6 (Zb (Zd 5) (Zb (Zd 6) Zf)))) (gNm 7))
  (Zq (sIf (tBl (Zh Zn5 (Zd 7) (eC (.non)))) (Z3 (eC (.bl false)) (gNm 2)) Z6)
  (Yt (eMt tyL' Xc (Zd 3) (Zb (eIf (tBl (Zh wIsN (Zd 7) (eC (.non)))) (Zd 5) (Zd 7)) Zf)))))))
  (Zd3 P))))
def Zck (P:Calls):WS:=
  (Zq (sIf (tBl (Zh wEq (Zh Zu (Zd 0) (eC (.int 0))) (eC (.str "name")))) (Ya (Zrd (Zd 1) (Zh Zu (Zd 0) (eC (.int 1))))) Z6)
  (Zd2 P))
def Zdp (P:Calls):WS:=
  (Zq (sIf (tNo (tTru (eBi bAny (Zb (Za6 [none,some 0] (iSeq (Zd 1)) (gNm 0) tYes (Zh wRin (Zd 0) (Zd 1))) Zf)))) (Ya (Zd 0)) Z6)
  (Zq (Z3 (eBi Zxt (Zb (Zd 0) Zf)) (gNm 2))
  (Zq (sFor (iSeq (Zd 1)) (gNm 3)
  (Yt (Zre (Zd 2) (Zd 3) (eC (.non)))))
  (Ya (Zd 2)))))
def Ze8 (P:Calls):WS:=
  (Ya (Zh wIn (Zh Zu (Zd 0) (eC (.int 0))) (eC g_MARKS)))
def Zd1 (P:Calls):WS:=
  (Ya (Zh wIn (Zh Zu (Zd 0) (eC (.int 0))) (eC g_VALUES)))
def Zd0 (P:Calls):WS:=
  (Zq (sIf (tBl (Zh wEq (Zd 0) (eC (.str "<")))) (Ya (Z5 P 11 (Zb (Zh wLt (Zd 1) (Zd 2)) Zf))) Z6)
  (Zq (sIf (tBl (Zh wEq (Zd 0) (eC (.str "=")))) (Ya (Z5 P 11 (Zb (Zh wEq (Zd 1) (Zd 2)) Zf))) Z6)
  (Zq (sIf (tBl (Zh wEq (Zd 0) (eC (.str "+")))) (Z3 (Zh wAdd (Zd 1) (Zd 2)) (gNm 3)) (sIf (tBl (Zh wEq (Zd 0) (eC (.str "-")))) (Z3 (Zh Jl (Zd 1) (Zd 2)) (gNm 3)) (Z3 (Zh wMul (Zd 1) (Zd 2)) (gNm 3))))
  (Ya (Zv (Zb (eC (.str "number")) (Zb (Zh Jt (Zd 3) (Zh wPow (eC (.int 10)) (eC (.int 18)))) Zf)))))))
def Zis (P:Calls):WS:=
  (Ya (Zv (Zb (eC (.str "made")) (Zb (eIf (tTru (Zd 0)) (eC (.str "Yes")) (eC (.str "No"))) (Zb (Zv Zf) Zf)))))
def Zgr (P:Calls):WS:=
  (Zq (Z3 (Z5 P 13 (Zb (Zd 0) (Zb (Zd 1) Zf))) (gNm 2))
  (Zq (sIf (tBl (Zh wIsN (Zd 2) (eC (.non)))) (Ya (eC (.non))) Z6)
  (Ya (Z5 P 5 (Zb (Zh Zu (Zd 2) (eC (.int 2))) (Zb (eDz (Zb (Zh Zu (Zd 2) (eC (.int 1))) (Zb (Zh Zu (Zd 0) (eC (.int 2))) Zf))) Zf))))))
def Zak (P:Calls):WS:=
  (Zq (sIf (tBl (Zh wNe (Zh Zu (Zd 0) (eC (.int 0))) (eC (.str "made")))) (Ya (eC (.non))) Z6)
  (Zq (sFor (iSeq (Zd 1)) (gNm 2)
  (sIf (tBl (Zh wEq (Zh Zu (Zd 2) (eC (.int 0))) (Zh Zu (Zd 0) (eC (.int 1))))) (Ya (Zd 2)) Z6))
  (Ya (eC (.non)))))
def Zl4 (P:Calls):WS:=
  (Zq (sIf (tBl (Zh wEq (Zh Zu (Zd 1) (eC (.int 0))) (eC (.str "give")))) (Ya (Zh wEq (Zh Zu (Zd 0) (eC (.int 0))) (eC (.str "fun")))) Z6)
  (Zq (sIf (tBl (Zh wEq (Zh Zu (Zd 1) (eC (.int 0))) (eC (.str "pick")))) (Ya (Zh Zn5 (Z5 P 13 (Zb (Zd 0) (Zb (Zh Zu (Zd 1) (eC (.int 1))) Zf))) (eC (.non)))) Z6)
  (Zq (sIf (tOr' (tBl (Zh wEq (Zh Zu (Zd 1) (eC (.int 0))) (eC (.str "left")))) (tBl (Zh wEq (Zh Zu (Zd 1) (eC (.int 0))) (eC (.str "right"))))) (Ya (Zh wEq (Zh Zu (Zd 0) (eC (.int 0))) (eC (.str "number")))) Z6)
  (Ya (eC (.bl true))))))
def Zac (P:Calls):WS:=
  (Zq (Z3 (eC (.non)) (gFd ["Runner"] "hand" (Zd 0)))
  (Zq (Z3 (eC (.int 0)) (gFd ["Runner"] "wanted" (Zd 0)))
  (Zq (Z3 (Xs Zf) (gFd ["Runner"] "pile" (Zd 0)))
  (Zq (Z3 (Xs (Zb (Zv (Zb (Zd 2) (Zb (Zd 1) Zf))) Zf)) (gFd ["Runner"] "still" (Zd 0)))
  (Zq (Z3 (Xs Zf) (gFd ["Runner"] "told" (Zd 0)))
  (Zq (Z3 Zh8 (gFd ["Runner"] "things" (Zd 0)))
  (Zq (Z3 (Xs Zf) (gFd ["Runner"] "labels" (Zd 0)))
  (Zq (Z3 (Xs Zf) (gFd ["Runner"] "log" (Zd 0)))
  (Zq (Z3 (eC (.int 0)) (gFd ["Runner"] "steps" (Zd 0)))
  (Zq (Z3 (eC (.int 0)) (gFd ["Runner"] "cells" (Zd 0)))
  (Zq (Z3 (eC (.int 0)) (gFd ["Runner"] "firsts" (Zd 0)))
  (Z3 (eC (.non)) (gFd ["Runner"] "ending" (Zd 0))))))))))))))
def Zc7 (P:Calls):WS:=
  (Zq (Yt (eMth P [("Runner",17)] "advance" (Zd 0) (Zb (Zd 1) Zf)))
  (Ya (eMth P [("Runner",18)] "outcome" (Zd 0) Zf)))
def Zan (P:Calls):WS:=
  (Zq (Yt (eMth P [("Runner",19)] "settle" (Zd 0) Zf))
  (Zjd (tAn (tBl (Zh wIsN (J6 ["Runner"] "ending" (Zd 0)) (eC (.non)))) (tBl (Zh wLt (J6 ["Runner"] "steps" (Zd 0)) (Zd 1))))
  (Zq (Z3 (Zh wAdd (J6 ["Runner"] "steps" (Zd 0)) (eC (.int 1))) (gFd ["Runner"] "steps" (Zd 0)))
  (Zq (Yt (eMth P [("Runner",22)] "take_step" (Zd 0) Zf))
  (Yt (eMth P [("Runner",19)] "settle" (Zd 0) Zf))))))
def Zal (P:Calls):WS:=
  (Zq (Z3 (eIf (tBl (Zh wIsN (J6 ["Runner"] "ending" (Zd 0)) (eC (.non)))) (Zv (Zb (eC (.str "spent")) (Zb (eC (.str "")) Zf))) (J6 ["Runner"] "ending" (Zd 0))) (gNm 1))
  (Ya (Zv (Zb (Zh Zu (Zd 1) (eC (.int 0))) (Zb (Zh Zu (Zd 1) (eC (.int 1))) (Zb (Zv (Zb (J6 ["Runner"] "steps" (Zd 0)) (Zb (J6 ["Runner"] "cells" (Zd 0)) (Zb (J6 ["Runner"] "firsts" (Zd 0)) Zf)))) (Zb (eBi Zsn (Zb (J6 ["Runner"] "log" (Zd 0)) Zf)) Zf)))))))
def Zay (P:Calls):WS:=
  (Zjd (tBl (Zh wIsN (J6 ["Runner"] "ending" (Zd 0)) (eC (.non))))
  (sIf (tBl (Zh wIsN (J6 ["Runner"] "hand" (Zd 0)) (eC (.non)))) (Yt (eMth P [("Runner",20)] "tell_next" (Zd 0) Zf)) (sIf (tBl (Zh wEq (Zh Zu (J6 ["Runner"] "hand" (Zd 0)) (eC (.int 0))) (eC (.str "stop")))) (Z3 (Zv (Zb (eC (.str "stop")) (Zb (Zh Zu (J6 ["Runner"] "hand" (Zd 0)) (eC (.int 1))) Zf))) (gFd ["Runner"] "ending" (Zd 0))) (sIf (tNo (tTru (Z5 P 9 (Zb (J6 ["Runner"] "hand" (Zd 0)) Zf)))) Zop (sIf (tBl (Zh wEq (J6 ["Runner"] "pile" (Zd 0)) (Xs Zf))) (Yt (eMth P [("Runner",21)] "tell_value" (Zd 0) Zf)) (sIf (tBl (Zh wEq (Zh Zu (Zh Zu (J6 ["Runner"] "pile" (Zd 0)) (eUn wNeg (eC (.int 1)))) (eC (.int 0))) (eC (.str "back")))) (Yt (eMth P [("Runner",34)] "come_back" (Zd 0) (Zb (Zh Zu (eMth P [("Runner",26)] "take_frame" (Zd 0) Zf) (eC (.int 1))) Zf))) (sIf (tTru (Z5 P 14 (Zb (J6 ["Runner"] "hand" (Zd 0)) (Zb (Zh Zu (J6 ["Runner"] "pile" (Zd 0)) (eUn wNeg (eC (.int 1)))) Zf)))) Zop (Z3 (Zv (Zb (eC (.str "stuck")) (Zb (eC (.str "")) Zf))) (gFd ["Runner"] "ending" (Zd 0))))))))))
def Xw (P:Calls):WS:=
  (Zq (sIf (tBl (Zh wEq (J6 ["Runner"] "still" (Zd 0)) (Xs Zf))) (Zq (Z3 (Zv (Zb (eC (.str "told")) (Zb (eMt tyS Z06 (eC (.str "")) (Zb (J6 ["Runner"] "told" (Zd 0)) Zf)) Zf))) (gFd ["Runner"] "ending" (Zd 0)))
  Zop) Z6)
  (Zq (Z3 (eMt tyL' mPop (J6 ["Runner"] "still" (Zd 0)) Zf) (gNm 1))
  (sIf (tTru (eIsi (Zd 1) "str")) (Yt (eMt tyL' Xc (J6 ["Runner"] "told" (Zd 0)) (Zb (Zd 1) Zf))) (sIf (tBl (Zh wLe (Zh Zu (Zd 1) (eC (.int 0))) (eC (.int 0)))) (Yt (eMt tyL' Xc (J6 ["Runner"] "told" (Zd 0)) (Zb (eC (.str "?")) Zf))) (Zq (Z3 (Zh Zu (Zd 1) (eC (.int 0))) (gFd ["Runner"] "wanted" (Zd 0)))
  (Z3 (Zh Zu (Zd 1) (eC (.int 1))) (gFd ["Runner"] "hand" (Zd 0))))))))
def Xm (P:Calls):WS:=
  (Zq (Yt (eMt tyL' Zm7 (J6 ["Runner"] "still" (Zd 0)) (Zb (Z1b (Z5 P 35 (Zb (J6 ["Runner"] "hand" (Zd 0)) (Zb (Zh Jl (J6 ["Runner"] "wanted" (Zd 0)) (eC (.int 1))) Zf)))) Zf)))
  (Z3 (eC (.non)) (gFd ["Runner"] "hand" (Zd 0))))
def Xx (P:Calls):WS:=
  (sIf (tTru (Z5 P 9 (Zb (J6 ["Runner"] "hand" (Zd 0)) Zf))) (Yt (eMth P [("Runner",24)] "use_value" (Zd 0) (Zb (J6 ["Runner"] "hand" (Zd 0)) (Zb (eMth P [("Runner",26)] "take_frame" (Zd 0) Zf) Zf)))) (Yt (eMth P [("Runner",23)] "take_apart" (Zd 0) (Zb (J6 ["Runner"] "hand" (Zd 0)) Zf))))
def Xp (P:Calls):WS:=
  (Zq (Z3 (Zh Zu (Zd 1) (eC (.int 0))) (gNm 2))
  (sIf (tBl (Zh wEq (Zd 2) (eC (.str "call")))) (Yt (eMth P [("Runner",25)] "go_into" (Zd 0) (Zb (Zh Zu (Zd 1) (eC (.int 1))) (Zb (Zv (Zb (eC (.str "give")) (Zb (Zh Zu (Zd 1) (eC (.int 2))) Zf))) Zf)))) (sIf (tBl (Zh wEq (Zd 2) (eC (.str "does")))) (Yt (eMth P [("Runner",25)] "go_into" (Zd 0) (Zb (Zh Zu (Zd 1) (eC (.int 2))) (Zb (Zv (Zb (eC (.str "left")) (Zb (Zh Zu (Zd 1) (eC (.int 1))) (Zb (Zh Zu (Zd 1) (eC (.int 3))) Zf)))) Zf)))) (sIf (tBl (Zh wEq (Zd 2) (eC (.str "choose")))) (Yt (eMth P [("Runner",25)] "go_into" (Zd 0) (Zb (Zh Zu (Zd 1) (eC (.int 1))) (Zb (Zv (Zb (eC (.str "pick")) (Zb (Zh Zu (Zd 1) (eC (.int 2))) Zf))) Zf)))) (sIf (tBl (Zh wEq (Zd 2) (eC (.str "first")))) (Zq (Z3 (Zh wAdd (J6 ["Runner"] "firsts" (Zd 0)) (eC (.int 1))) (gFd ["Runner"] "firsts" (Zd 0)))
  (Yt (eMth P [("Runner",25)] "go_into" (Zd 0) (Zb (Zh Zu (Zd 1) (eC (.int 1))) (Zb (Zv (Zb (eC (.str "first")) (Zb (Zh Zu (Zd 1) (eC (.int 2))) Zf))) Zf))))) (sIf (tBl (Zh wEq (Zd 2) (eC (.str "let")))) (Yt (eMth P [("Runner",27)] "bind" (Zd 0) (Zb (Zh Zu (Zd 1) (eC (.int 1))) (Zb (Zh Zu (Zd 1) (eC (.int 2))) Zf)))) (sIf (tBl (Zh wEq (Zd 2) (eC (.str "shape")))) (Yt (eMth P [("Runner",28)] "make" (Zd 0) (Zb (Zh Zu (Zd 1) (eC (.int 1))) (Zb (Zh Zu (Zd 1) (eC (.int 2))) Zf)))) (Yt (eMth P [("Runner",33)] "enter" (Zd 0) (Zb (Zh Zu (Zd 1) (eC (.int 1))) Zf))))))))))
def Xv (P:Calls):WS:=
  (sIf (tBl (Zh wEq (Zh Zu (Zd 2) (eC (.int 0))) (eC (.str "give")))) (Zq (Z3 (eMth P [("Runner",29)] "mark_for" (Zd 0) (Zb (Zh Zu (Zd 1) (eC (.int 1))) (Zb (Zh Zu (Zd 2) (eC (.int 1))) Zf))) (gNm 3))
  (Z3 (Z5 P 5 (Zb (Zh Zu (Zd 1) (eC (.int 2))) (Zb (Zxb (Zh Zu (Zd 1) (eC (.int 1))) (Zd 3)) Zf))) (gFd ["Runner"] "hand" (Zd 0)))) (sIf (tBl (Zh wEq (Zh Zu (Zd 2) (eC (.int 0))) (eC (.str "pick")))) (Z3 (Z5 P 12 (Zb (Zd 1) (Zb (Zh Zu (Zd 2) (eC (.int 1))) Zf))) (gFd ["Runner"] "hand" (Zd 0))) (sIf (tBl (Zh wEq (Zh Zu (Zd 2) (eC (.int 0))) (eC (.str "left")))) (Yt (eMth P [("Runner",25)] "go_into" (Zd 0) (Zb (Zh Zu (Zd 2) (eC (.int 2))) (Zb (Zv (Zb (eC (.str "right")) (Zb (Zh Zu (Zd 2) (eC (.int 1))) (Zb (Zh Zu (Zd 1) (eC (.int 1))) Zf)))) Zf)))) (sIf (tBl (Zh wEq (Zh Zu (Zd 2) (eC (.int 0))) (eC (.str "right")))) (Z3 (Z5 P 10 (Zb (Zh Zu (Zd 2) (eC (.int 1))) (Zb (Zh Zu (Zd 2) (eC (.int 2))) (Zb (Zh Zu (Zd 1) (eC (.int 1))) Zf)))) (gFd ["Runner"] "hand" (Zd 0))) (Z3 (Zh Zu (Zd 2) (eC (.int 1))) (gFd ["Runner"] "hand" (Zd 0)))))))
def Zam (P:Calls):WS:=
  (Zq (Yt (eMt tyL' Xc (J6 ["Runner"] "pile" (Zd 0)) (Zb (Zd 2) Zf)))
  (Z3 (Zd 1) (gFd ["Runner"] "hand" (Zd 0))))
def Xo (P:Calls):WS:=
  (Ya (eMt tyL' mPop (J6 ["Runner"] "pile" (Zd 0)) Zf))
def Zbx (P:Calls):WS:=
  (Zq (Z3 Zh8 (gNm 3))
  (Zq (sFor (iSeq (Zd 1)) (gTp (Js (gNm 4) (Js (gNm 5) Zdy)))
  (Z3 (eMth P [("Runner",30)] "bear" (Zd 0) (Zb (Zd 4) Zf)) (gSd (Zd 3) (Zd 4))))
  (Zq (sFor (iSeq (Zd 1)) (gTp (Js (gNm 4) (Js (gNm 5) Zdy)))
  (Yt (eMth P [("Runner",32)] "keep" (Zd 0) (Zb (Zh Zu (Zh Zt9 (Zd 3) (Zd 4)) (eC (.int 1))) (Zb (Z5 P 5 (Zb (Zd 5) (Zb (Zd 3) Zf))) Zf)))))
  (Z3 (Z5 P 5 (Zb (Zd 2) (Zb (Zd 3) Zf))) (gFd ["Runner"] "hand" (Zd 0))))))
def Zds (P:Calls):WS:=
  (Z3 (Zv (Zb (eC (.str "made")) (Zb (Zd 1) (Zb (eBi Zgo (Zb (Zd 3) Zf)) Zf)))) (gFd ["Runner"] "hand" (Zd 0)))
def Zbj (P:Calls):WS:=
  (Zq (Z3 (Xs Zf) (gNm 3))
  (Zq (sFor (WL.iEn1 (Zb (Zd 2) Zf)) (gTp (Js (gNm 4) (Js (gNm 5) Zdy)))
  (Yt (eMt tyL' Xc (Zd 3) (Zb (eMth P [("Runner",29)] "mark_for" (Zd 0) (Zb (eJ [(eFv (Zd 1)),(eC (.str ".")),(eFv (Zd 4))] Str.empty) (Zb (Zd 5) Zf))) Zf))))
  (Zds P)))
def Zbv (P:Calls):WS:=
  (Zq (sIf (tBl (Zh wEq (Zd 1) (eC (.str "Cons")))) (Z3 (Zh wAdd (J6 ["Runner"] "cells" (Zd 0)) (eC (.int 1))) (gFd ["Runner"] "cells" (Zd 0))) Z6)
  (Zbj P))
def Zab (P:Calls):WS:=
  (Zq (sIf (tTru (Z5 P 8 (Zb (Zd 2) Zf))) (Ya (Zd 2)) Z6)
  (Zq (Z3 (eMth P [("Runner",30)] "bear" (Zd 0) (Zb (Zd 1) Zf)) (gNm 3))
  (Zq (Yt (eMth P [("Runner",32)] "keep" (Zd 0) (Zb (Zh Zu (Zd 3) (eC (.int 1))) (Zb (Zd 2) Zf))))
  (Ya (Zd 3)))))
def Zby (P:Calls):WS:=
  (Zq (Z3 (eBi bLen (Zb (J6 ["Runner"] "labels" (Zd 0)) Zf)) (gNm 2))
  (Zq (Yt (eMt tyL' Xc (J6 ["Runner"] "labels" (Zd 0)) (Zb (Zd 1) Zf)))
  (Zq (Yt (eMth P [("Runner",31)] "note" (Zd 0) (Zb (eC (.str "born")) (Zb (Zd 2) Zf))))
  (Ya (Zv (Zb (eC (.str "at")) (Zb (Zd 2) Zf)))))))
def Zbu (P:Calls):WS:=
  (Yt (eMt tyL' Xc (J6 ["Runner"] "log" (Zd 0)) (Zb (Zv (Zb (Zd 1) (Zb (Zd 2) (Zb (Zh Zu (J6 ["Runner"] "labels" (Zd 0)) (Zd 2)) (Zb (J6 ["Runner"] "steps" (Zd 0)) Zf))))) Zf)))
def Zbw (P:Calls):WS:=
  (Z3 (Zd 2) (gSd (J6 ["Runner"] "things" (Zd 0)) (Zd 1)))
def Zbc (P:Calls):WS:=
  (Zq (Yt (eMth P [("Runner",31)] "note" (Zd 0) (Zb (eC (.str "enter")) (Zb (Zd 1) Zf))))
  (Yt (eMth P [("Runner",25)] "go_into" (Zd 0) (Zb (Zh Zt9 (J6 ["Runner"] "things" (Zd 0)) (Zd 1)) (Zb (Zv (Zb (eC (.str "back")) (Zb (Zd 1) Zf))) Zf)))))
def Xy (P:Calls):WS:=
  (Yt (eMth P [("Runner",31)] "note" (Zd 0) (Zb (eC (.str "back")) (Zb (Zd 1) Zf))))
def Zc2 (P:Calls):WS:=
  (Zq (sIf (tBl (Zh wEq (Zh Zu (Zd 0) (eC (.int 0))) (eC (.str "number")))) (Ya (Xs (Zb (eBi Zp0 (Zb (Zh Zu (Zd 0) (eC (.int 1))) Zf)) Zf))) Z6)
  (Zq (sIf (tBl (Zh wEq (Zh Zu (Zd 0) (eC (.int 0))) (eC (.str "fun")))) (Ya (Xs (Zb (eC (.str "fun")) Zf))) Z6)
  (Zq (sIf (tBl (Zh wEq (Zh Zu (Zd 0) (eC (.int 2))) (Zv Zf))) (Ya (Xs (Zb (Zh Zu (Zd 0) (eC (.int 1))) Zf))) Z6)
  (Zq (Z3 (Xs (Zb (Zh wAdd (eC (.str "(")) (Zh Zu (Zd 0) (eC (.int 1)))) Zf)) (gNm 2))
  (Zq (sFor (iSeq (Zh Zu (Zd 0) (eC (.int 2)))) (gNm 3)
  (Yt (eMt tyL' Zm7 (Zd 2) (Zb (Xs (Zb (eC (.str " ")) (Zb (Zv (Zb (Zd 1) (Zb (Zd 3) Zf))) Zf))) Zf))))
  (Ya (Zh wAdd (Zd 2) (Xs (Zb (eC (.str ")")) Zf)))))))))
def Zrn (P:Calls):WS:=
  (Ya (eMth P [("Runner",16)] "go" (Z5 P 50 (Zb (Zd 0) (Zb (Zd 1) Zf))) (Zb (Zd 2) Zf)))
def Zbb (P:Calls):WS:=
  (Zq (Z3 (Xs Zf) (gNm 2))
  (Zq (sFor (iR1 (Zb (Zd 1) Zf)) (gNm 3)
  (Zq (Z3 (eC (.int 0)) (gNm 4))
  (Zq (sIf (tBl (Zh wGt (eBi bLen (Zb (Zd 0) Zf)) (eC (.int 0)))) (Z3 (Zh Jt (Zh Zu (Zd 0) (Zh Jt (Zd 3) (eBi bLen (Zb (Zd 0) Zf)))) (Zh wPow (eC (.int 10)) (eC (.int 18)))) (gNm 4)) Z6)
  (Yt (eMt tyL' Xc (Zd 2) (Zb (Zh wAdd (Zd 4) (Zh wMul (eC (.int 7919)) (Zh wDiv (Zd 3) (eBi bMax (Zb (eC (.int 1)) (Zb (eBi bLen (Zb (Zd 0) Zf)) Zf)))))) Zf))))))
  (Ya (Zd 2))))
def Zc4 (P:Calls):WS:=
  (Zq (Z3 (Xs Zf) (gNm 1))
  (Zq (Z3 (eC (.str "abcdeghijklmnopqrsuvwxyz0123456789")) (gNm 2))
  (Zq (sFor (iR1 (Zb (eC (.int 3)) Zf)) (gNm 3)
  (Zq (Z3 (eMt tyL' mPop (Zd 0) Zf) (gNm 4))
  (Zq (Z3 (Zh wAdd (Zh Zu (eC (.str "ab")) (Zh Jt (Zd 3) (eC (.int 2)))) (Zh Zu (Zd 2) (Zh Jt (Zd 4) (eC (.int 34))))) (gNm 5))
  (Zq (sFor (iR1 (Zb (Zh Jt (Zh wDiv (Zd 4) (eC (.int 34))) (eC (.int 7))) Zf)) (gNm 6)
  (Z3 (Zh wAdd (Zd 5) (Zh Zu (Zd 2) (Zh Jt (Zh wAdd (Zh wDiv (Zd 4) (eC (.int 238))) (Zh wMul (Zh wMul (eC (.int 5)) (Zd 6)) (Zd 6))) (eC (.int 34))))) (gNm 5)))
  (Zq (sIf (tOr' (tBl (Zh wIn (Zd 5) (Zd 1))) (tBl (Zh wEq (Zd 5) (eC (.str "be"))))) (Z3 (Zh wAdd (eC (.str "k")) (eBi Zp0 (Zb (Zd 3) Zf))) (gNm 5)) Z6)
  (Yt (eMt tyL' Xc (Zd 1) (Zb (Zd 5) Zf))))))))
  (Ya (Zd 1)))))
def Xu (P:Calls):WS:=
  (Zq (Z3 (Zv (Zb (eC (.str "shape")) (Zb (eC (.str "Nil")) (Zb (Zv Zf) Zf)))) (gNm 1))
  (Zq (Z3 (Xs (Zb (Zv (Zb (eC (.str "number")) (Zb (eC (.int 3)) Zf))) (Zb (Zv (Zb (eC (.str "shape")) (Zb (eC (.str "Yes")) (Zb (Zv Zf) Zf)))) (Zb (Zd 1) (Zb (Zv (Zb (eC (.str "fun")) (Zb (eC (.str "x")) (Zb (Zv (Zb (eC (.str "name")) (Zb (eC (.str "x")) Zf))) Zf)))) Zf))))) (gNm 2))
  (Zq (Z3 (Zh wAdd (Zd 2) (Xs (Zb (Zv (Zb (eC (.str "shape")) (Zb (eC (.str "Cons")) (Zb (Zv (Zb (Zv (Zb (eC (.str "number")) (Zb (eC (.int 3)) Zf))) (Zb (Zd 1) Zf))) Zf)))) (Zb (Zv (Zb (eC (.str "shape")) (Zb (eC (.str "Pair")) (Zb (Zv (Zb (Zv (Zb (eC (.str "number")) (Zb (eC (.int 3)) Zf))) (Zb (Zd 1) Zf))) Zf)))) Zf)))) (gNm 2))
  (Ya (Zh Zu (Zd 2) (Zd 0))))))
def Zeq (P:Calls):WS:=
  (Zq (Z3 (Zv (Zb (eC (.str "shape")) (Zb (eC (.str "Cons")) (Zb (Zv (Zb (Zv (Zb (eC (.str "number")) (Zb (Zh Jt (Zh wDiv (Zd 1) (eC (.int 768))) (eC (.int 8))) Zf))) (Zb (Zd 4) Zf))) Zf)))) (gNm 5))
  (Ya (Zh Zu (Xs (Zb (Zd 4) (Zb (Zd 5) (Zb (Zv (Zb (eC (.str "shape")) (Zb (eC (.str "Cons")) (Zb (Zv (Zb (Zv (Zb (eC (.str "number")) (Zb (Zh Jt (Zh wDiv (Zd 1) (eC (.int 96))) (eC (.int 8))) Zf))) (Zb (Zd 5) Zf))) Zf)))) Zf)))) (Zh Jt (Zh wDiv (Zd 1) (eC (.int 4))) (eC (.int 3))))))
def Zep (P:Calls):WS:=
  (Zq (Z3 (Zv (Zb (eC (.str "shape")) (Zb (eC (.str "Nil")) (Zb (Zv Zf) Zf)))) (gNm 4))
  (Zq (sIf (tBl (Zh wEq (Zd 0) (eC (.str "p")))) (Ya (Zv (Zb (eC (.str "shape")) (Zb (eC (.str "Pair")) (Zb (Zv (Zb (Zv (Zb (eC (.str "number")) (Zb (Zh Jt (Zd 1) (Zh wPow (eC (.int 10)) (eC (.int 18)))) Zf))) (Zb (Zd 4) Zf))) Zf))))) Z6)
  (Zeq P)))
def Zeo (P:Calls):WS:=
  (Zq (sIf (tBl (Zh wEq (Zd 0) (eC (.str "f")))) (Ya (Zv (Zb (eC (.str "fun")) (Zb (eC (.str "x")) (Zb (Zv (Zb (eC (.str "does")) (Zb (Zh Zu (eC (.str "+-*")) (Zh Jt (Zh wDiv (Zd 1) (eC (.int 4))) (eC (.int 3)))) (Zb (Zv (Zb (eC (.str "number")) (Zb (Zh Jt (Zh wDiv (Zd 1) (eC (.int 12))) (eC (.int 100))) Zf))) (Zb (Zv (Zb (eC (.str "name")) (Zb (eC (.str "x")) Zf))) Zf))))) Zf))))) Z6)
  (Zep P))
def Zen (P:Calls):WS:=
  (Zq (sIf (tBl (Zh wEq (Zd 0) (eC (.str "t")))) (Ya (Zv (Zb (eC (.str "shape")) (Zb (Zh Zu (Xs (Zb (eC (.str "No")) (Zb (eC (.str "Yes")) Zf))) (Zh Jt (Zh wDiv (Zd 1) (eC (.int 4))) (eC (.int 2)))) (Zb (Zv Zf) Zf))))) Z6)
  (Zeo P))
def Zct (P:Calls):WS:=
  (Zq (sIf (tBl (Zh wEq (Zd 0) (eC (.str "n")))) (Ya (Zv (Zb (eC (.str "number")) (Zb (Zh Zu (Xs (Zb (Zh Jt (Zh wDiv (Zd 1) (eC (.int 4))) (eC (.int 4))) (Zb (Zh Jt (Zh wMul (Zd 1) (eC (.int 982451653))) (Zh wPow (eC (.int 10)) (eC (.int 18)))) Zf))) (Zh Jt (Zh wDiv (Zd 1) (eC (.int 16))) (eC (.int 2)))) Zf)))) Z6)
  (Zen P))
def Zem (P:Calls):WS:=
  (Zq (sIf (tBl (Zh9 wLt wLt (eC (.int 4)) (Zh Jt (Zd 1) (eC (.int 149))) (eC (.int 11)))) (Ya (Z5 P 39 (Zb (Zh Jl (Zh Jt (Zd 1) (eC (.int 149))) (eC (.int 5))) Zf))) Z6)
  (Zct P))
def Zcs (P:Calls):WS:=
  (Zq (sIf (tBl (Zh wEq (Zh Jt (Zd 1) (eC (.int 31))) (eC (.int 8)))) (Ya (Zv (Zb (eC (.str "stop")) (Zb (Zh wAdd (eC (.str "boo")) (eBi Zp0 (Zb (Zh Jt (Zh wDiv (Zd 1) (eC (.int 31))) (eC (.int 100))) Zf))) Zf)))) Z6)
  (Zem P))
def Zcr (P:Calls):WS:=
  (Zq (sIf (tAn (tBl (Zh wEq (Zh Jt (Zd 1) (eC (.int 31))) (eC (.int 8)))) (tAn (tBl (Zh wEq (Zh Jt (Zh wDiv (Zd 1) (eC (.int 31))) (eC (.int 2))) (eC (.int 0)))) (tBl (Zh wGt (eBi bLen (Zb (Zd 2) Zf)) (eC (.int 0)))))) (Ya (Zv (Zb (eC (.str "stop")) (Zb (Zh Zu (Zh Zu (Zd 2) (Zh Jt (Zh wDiv (Zd 1) (eC (.int 62))) (eBi bLen (Zb (Zd 2) Zf)))) (eC (.int 0))) Zf)))) Z6)
  (Zcs P))
def Zc5 (P:Calls):WS:=
  (Zq (Z3 (Za6 [none,some 0] (iSeq (Zd 2)) (gNm 0) (tBl (Zh wEq (Zh Zu (Zd 0) (eC (.int 1))) (Zd 1))) (Zh Zu (Zd 0) (eC (.int 0)))) (gNm 3))
  (Zq (sIf (tAn (tBl (Zh wGt (eBi bLen (Zb (Zd 3) Zf)) (eC (.int 0)))) (tBl (Zh wGt (Zh Jt (Zd 1) (eC (.int 4))) (eC (.int 0))))) (Ya (Zv (Zb (eC (.str "name")) (Zb (Zh Zu (Zd 3) (Zh Jt (Zh wDiv (Zd 1) (eC (.int 4))) (eBi bLen (Zb (Zd 3) Zf)))) Zf)))) Z6)
  (Zcr P)))
def Zcg (P:Calls):WS:=
  (Ya (Zh wAdd (Za6 [none,some 1] (iSeq (Zd 0)) (gNm 0) (tBl (Zh wNe (Zh Zu (Zd 0) (eC (.int 0))) (Zd 1))) (Zd 0)) (Xs (Zb (Zv (Zb (Zd 1) (Zb (Zd 2) Zf))) Zf))))
def Zdl (P:Calls):WS:=
  (Zq (Z3 (Z5 P 44 (Zb (eC (.str "n")) (Zb (Zd 2) (Zb (Zd 3) (Zb (Zd 4) (Zb (Zh Jl (Zd 5) (eC (.int 1))) Zf)))))) (gNm 6))
  (Ya (Zv (Zb (eC (.str "shape")) (Zb (Zh Zu (Xs (Zb (eC (.str "Cons")) (Zb (eC (.str "Pair")) Zf))) (eBi bInt (Zb (Zh wEq (Zd 0) (eC (.str "p"))) Zf))) (Zb (Zv (Zb (Zd 6) (Zb (Z5 P 44 (Zb (eC (.str "l")) (Zb (Zd 2) (Zb (Zd 3) (Zb (Zd 4) (Zb (Zh Jl (Zd 5) (eC (.int 1))) Zf)))))) Zf))) Zf))))))
def Zdk (P:Calls):WS:=
  (Zq (sIf (tAn (tBl (Zh wEq (Zd 0) (eC (.str "l")))) (tBl (Zh wEq (Zh Jt (Zd 1) (eC (.int 4))) (eC (.int 1))))) (Zq (Z3 (Z5 P 44 (Zb (eC (.str "f")) (Zb (Zd 2) (Zb (Zd 3) (Zb (Zd 4) (Zb (Zh Jl (Zd 5) (eC (.int 1))) Zf)))))) (gNm 6))
  (Ya (Zv (Zb (eC (.str "call")) (Zb (Zv (Zb (eC (.str "call")) (Zb (Zv (Zb (eC (.str "name")) (Zb (eC (.str "each")) Zf))) (Zb (Zd 6) Zf)))) (Zb (Z5 P 44 (Zb (eC (.str "l")) (Zb (Zd 2) (Zb (Zd 3) (Zb (Zd 4) (Zb (Zh Jl (Zd 5) (eC (.int 1))) Zf)))))) Zf)))))) Z6)
  (Zdl P))
def Zdj (P:Calls):WS:=
  (Zq (sIf (tAn (tBl (Zh wEq (Zd 0) (eC (.str "l")))) (tBl (Zh wEq (Zh Jt (Zd 1) (eC (.int 4))) (eC (.int 0))))) (Ya (Zv (Zb (eC (.str "call")) (Zb (Zv (Zb (eC (.str "name")) (Zb (eC (.str "from")) Zf))) (Zb (Z5 P 44 (Zb (eC (.str "n")) (Zb (Zd 2) (Zb (Zd 3) (Zb (Zd 4) (Zb (Zh Jl (Zd 5) (eC (.int 1))) Zf)))))) Zf))))) Z6)
  (Zdk P))
def Zdi (P:Calls):WS:=
  (Zq (sIf (tBl (Zh wEq (Zd 0) (eC (.str "f")))) (Zq (Z3 (Zh Zu (Zd 4) (Zh Jt (Zd 1) (eBi bLen (Zb (Zd 4) Zf)))) (gNm 8))
  (Ya (Zv (Zb (eC (.str "fun")) (Zb (Zd 8) (Zb (Z5 P 44 (Zb (eC (.str "n")) (Zb (Zd 2) (Zb (Z5 P 41 (Zb (Zd 3) (Zb (Zd 8) (Zb (eC (.str "n")) Zf)))) (Zb (Zd 4) (Zb (Zh Jl (Zd 5) (eC (.int 1))) Zf)))))) Zf)))))) Z6)
  (Zdj P))
def Zdh (P:Calls):WS:=
  (Zq (sIf (tBl (Zh wIn (Zd 0) (eC (.str "nt")))) (Zq (Z3 (Z5 P 44 (Zb (eC (.str "n")) (Zb (Zd 2) (Zb (Zd 3) (Zb (Zd 4) (Zb (Zh Jl (Zd 5) (eC (.int 1))) Zf)))))) (gNm 6))
  (Zq (Z3 (Z5 P 44 (Zb (eC (.str "n")) (Zb (Zd 2) (Zb (Zd 3) (Zb (Zd 4) (Zb (Zh Jl (Zd 5) (eC (.int 1))) Zf)))))) (gNm 7))
  (Zq (sIf (tBl (Zh wEq (Zd 0) (eC (.str "n")))) (Ya (Zv (Zb (eC (.str "does")) (Zb (Zh Zu (eC (.str "+-*")) (Zh Jt (Zh wDiv (Zd 1) (eC (.int 3))) (eC (.int 3)))) (Zb (Zd 6) (Zb (Zd 7) Zf)))))) Z6)
  (Ya (Zv (Zb (eC (.str "does")) (Zb (Zh Zu (eC (.str "<=")) (Zh Jt (Zh wDiv (Zd 1) (eC (.int 3))) (eC (.int 2)))) (Zb (Zd 6) (Zb (Zd 7) Zf))))))))) Z6)
  (Zdi P))
def Zd4 (P:Calls):WS:=
  (Zq (sIf (tAn (tBl (Zh wEq (Zd 0) (eC (.str "n")))) (tBl (Zh wEq (Zh Jt (Zd 1) (eC (.int 3))) (eC (.int 0))))) (Zq (Z3 (Z5 P 44 (Zb (eC (.str "f")) (Zb (Zd 2) (Zb (Zd 3) (Zb (Zd 4) (Zb (Zh Jl (Zd 5) (eC (.int 1))) Zf)))))) (gNm 6))
  (Ya (Zv (Zb (eC (.str "call")) (Zb (Zd 6) (Zb (Z5 P 44 (Zb (eC (.str "n")) (Zb (Zd 2) (Zb (Zd 3) (Zb (Zd 4) (Zb (Zh Jl (Zd 5) (eC (.int 1))) Zf)))))) Zf)))))) Z6)
  (Zdh P))
def Zdr (P:Calls):WS:=
  (Ya (Zv (Zb (eC (.str "choose")) (Zb (Zd 6) (Zb (Zv (Zb (Zv (Zb (eC (.str "Nil")) (Zb (Zv Zf) (Zb (Z5 P 40 (Zb (Zd 0) (Zb (Zh wDiv (Zd 1) (eC (.int 9))) (Zb (Zd 3) Zf)))) Zf)))) (Zb (Zv (Zb (eC (.str "Cons")) (Zb (Zv (Zb (Zd 8) (Zb (Zd 9) Zf))) (Zb (Zd 11) Zf)))) Zf))) Zf)))))
def Zdq (P:Calls):WS:=
  (Zq (Z3 (Zh Zu (Zd 4) (Zh Jt (Zh wDiv (Zd 1) (eC (.int 3))) (eBi bLen (Zb (Zd 4) Zf)))) (gNm 8))
  (Zq (Z3 (Zh Zu (Za6 [none,some 8] (iSeq (Zd 4)) (gNm 0) (tBl (Zh wNe (Zd 0) (Zd 1))) (Zd 0)) (eC (.int 0))) (gNm 9))
  (Zq (Z3 (Z5 P 44 (Zb (Zh Zu (eC (.str "lp")) (Zh Jl (Zh Jt (Zd 1) (eC (.int 3))) (eC (.int 1)))) (Zb (Zd 2) (Zb (Zd 3) (Zb (Zd 4) (Zb (Zh Jl (Zd 5) (eC (.int 1))) Zf)))))) (gNm 6))
  (Zq (Z3 (Z5 P 41 (Zb (Z5 P 41 (Zb (Zd 3) (Zb (Zd 8) (Zb (eC (.str "n")) Zf)))) (Zb (Zd 9) (Zb (eC (.str "l")) Zf)))) (gNm 10))
  (Zq (Z3 (Z5 P 44 (Zb (Zd 0) (Zb (Zd 2) (Zb (Zd 10) (Zb (Zd 4) (Zb (Zh Jl (Zd 5) (eC (.int 1))) Zf)))))) (gNm 11))
  (Zq (sIf (tBl (Zh wEq (Zh Jt (Zd 1) (eC (.int 3))) (eC (.int 2)))) (Ya (Zv (Zb (eC (.str "choose")) (Zb (Zd 6) (Zb (Zv (Zb (Zv (Zb (eC (.str "Pair")) (Zb (Zv (Zb (Zd 8) (Zb (Zd 9) Zf))) (Zb (Zd 11) Zf)))) Zf)) Zf))))) Z6)
  (Zdr P)))))))
def Zbt (P:Calls):WS:=
  (Zq (sIf (tBl (Zh wEq (Zh Jt (Zd 1) (eC (.int 3))) (eC (.int 0)))) (Zq (Z3 (Z5 P 44 (Zb (eC (.str "t")) (Zb (Zd 2) (Zb (Zd 3) (Zb (Zd 4) (Zb (Zh Jl (Zd 5) (eC (.int 1))) Zf)))))) (gNm 6))
  (Zq (Z3 (Z5 P 44 (Zb (Zd 0) (Zb (Zd 2) (Zb (Zd 3) (Zb (Zd 4) (Zb (Zh Jl (Zd 5) (eC (.int 1))) Zf)))))) (gNm 7))
  (Ya (Zv (Zb (eC (.str "choose")) (Zb (Zd 6) (Zb (Zv (Zb (Zv (Zb (eC (.str "No")) (Zb (Zv Zf) (Zb (Zd 7) Zf)))) (Zb (Zv (Zb (eC (.str "Yes")) (Zb (Zv Zf) (Zb (Z5 P 44 (Zb (Zd 0) (Zb (Zd 2) (Zb (Zd 3) (Zb (Zd 4) (Zb (Zh Jl (Zd 5) (eC (.int 1))) Zf)))))) Zf)))) Zf))) Zf))))))) Z6)
  (Zdq P))
def Zcq (P:Calls):WS:=
  (Ya (Zv (Zb (eC (.str "let")) (Zb (eBi Zgo (Zb (Zd 12) Zf)) (Zb (Z5 P 44 (Zb (Zd 0) (Zb (Zd 1) (Zb (Zd 10) (Zb (Zd 3) (Zb (Zh Jl (Zd 4) (eC (.int 1))) Zf)))))) Zf)))))
def Zcp (P:Calls):WS:=
  (Zq (Z3 (Xs (Zb (Zv (Zb (Zd 9) (Zb (Z5 P 44 (Zb (Zd 7) (Zb (Zd 1) (Zb (Zd 10) (Zb (Zd 3) (Zb (Zh Jl (Zd 4) (eC (.int 1))) Zf)))))) Zf))) Zf)) (gNm 12))
  (Zq (Yt (eMt tyL' Zm6 (Zd 12) (Zb (Zh Jt (Zh wDiv (Zd 5) (eC (.int 50))) (eC (.int 2))) (Zb (Zv (Zb (Zh Zu (Zd 11) (eC (.int 0))) (Zb (Z5 P 44 (Zb (eC (.str "l")) (Zb (Zd 1) (Zb (Zd 10) (Zb (Zd 3) (Zb (Zh Jl (Zd 4) (eC (.int 1))) Zf)))))) Zf))) Zf))))
  (Zq (sIf (tBl (Zh wEq (Zh Jt (Zh wDiv (Zd 5) (eC (.int 25))) (eC (.int 2))) (eC (.int 0)))) (Yt (eMt tyL' Zm6 (Zd 12) (Zb (Zh Jt (Zh wDiv (Zd 5) (eC (.int 100))) (eC (.int 3))) (Zb (Zv (Zb (Zh Zu (Zd 11) (eC (.int 1))) (Zb (Z5 P 44 (Zb (eC (.str "n")) (Zb (Zd 1) (Zb (Zd 10) (Zb (Zd 3) (Zb (Zh Jl (Zd 4) (eC (.int 1))) Zf)))))) Zf))) Zf)))) Z6)
  (Zcq P))))
def Zek (P:Calls):WS:=
  (Zq (Z3 (Za6 [none,some 9] (iSeq (Zd 3)) (gNm 0) (tBl (Zh wNe (Zd 0) (Zd 1))) (Zd 0)) (gNm 11))
  (Zq (Z3 (Z5 P 41 (Zb (Zd 10) (Zb (Zh Zu (Zd 11) (eC (.int 0))) (Zb (eC (.str "l")) Zf)))) (gNm 10))
  (Zq (sIf (tBl (Zh wEq (Zh Jt (Zh wDiv (Zd 5) (eC (.int 25))) (eC (.int 2))) (eC (.int 0)))) (Z3 (Z5 P 41 (Zb (Zd 10) (Zb (Zh Zu (Zd 11) (eC (.int 1))) (Zb (eC (.str "n")) Zf)))) (gNm 10)) Z6)
  (Zcp P))))
def Zej (P:Calls):WS:=
  (Zq (Z3 (Zh Zu (Zd 3) (Zh Jt (Zh wDiv (Zd 5) (eC (.int 5))) (eBi bLen (Zb (Zd 3) Zf)))) (gNm 9))
  (Zq (Z3 (Z5 P 41 (Zb (Zd 2) (Zb (Zd 9) (Zb (Zd 7) Zf)))) (gNm 10))
  (Zq (sIf (tBl (Zh wEq (Zd 6) (eC (.int 6)))) (Zq (Z3 (Z5 P 44 (Zb (Zd 7) (Zb (Zd 1) (Zb (Zd 2) (Zb (Zd 3) (Zb (Zh Jl (Zd 4) (eC (.int 1))) Zf)))))) (gNm 8))
  (Ya (Zv (Zb (eC (.str "call")) (Zb (Zv (Zb (eC (.str "fun")) (Zb (Zd 9) (Zb (Z5 P 44 (Zb (Zd 0) (Zb (Zd 1) (Zb (Zd 10) (Zb (Zd 3) (Zb (Zh Jl (Zd 4) (eC (.int 1))) Zf)))))) Zf)))) (Zb (Zd 8) Zf)))))) Z6)
  (Zek P))))
def Zei (P:Calls):WS:=
  (Zq (Z3 (Zh Zu (eC (.str "nlftp")) (Zh Jt (Zd 5) (eC (.int 5)))) (gNm 7))
  (Zq (sIf (tBl (Zh wEq (Zd 6) (eC (.int 5)))) (Zq (Z3 (Z5 P 44 (Zb (Zd 7) (Zb (Zd 1) (Zb (Zd 2) (Zb (Zd 3) (Zb (Zh Jl (Zd 4) (eC (.int 1))) Zf)))))) (gNm 8))
  (Ya (Zv (Zb (eC (.str "first")) (Zb (Zd 8) (Zb (Z5 P 44 (Zb (Zd 0) (Zb (Zd 1) (Zb (Zd 2) (Zb (Zd 3) (Zb (Zh Jl (Zd 4) (eC (.int 1))) Zf)))))) Zf)))))) Z6)
  (Zej P)))
def Zeh (P:Calls):WS:=
  (Zq (sIf (tBl (Zh wEq (Zd 6) (eC (.int 4)))) (Ya (Z5 P 43 (Zb (Zd 0) (Zb (Zd 5) (Zb (Zd 1) (Zb (Zd 2) (Zb (Zd 3) (Zb (Zd 4) Zf)))))))) Z6)
  (Zei P))
def Zeg (P:Calls):WS:=
  (Zq (Z3 (Zh Jt (Zd 5) (eC (.int 8))) (gNm 6))
  (Zq (Z3 (Zh wDiv (Zd 5) (eC (.int 8))) (gNm 5))
  (Zq (sIf (tBl (Zh wLt (Zd 6) (eC (.int 4)))) (Ya (Z5 P 42 (Zb (Zd 0) (Zb (Zd 5) (Zb (Zd 1) (Zb (Zd 2) (Zb (Zd 3) (Zb (Zd 4) Zf)))))))) Z6)
  (Zeh P))))
def Zco (P:Calls):WS:=
  (Zq (sIf (tOr' (tBl (Zh wEq (Zd 4) (eC (.int 0)))) (tOr' (tBl (Zh wEq (eBi bLen (Zb (Zd 1) Zf)) (eC (.int 0)))) (tBl (Zh wEq (Zh Jt (Zd 5) (eC (.int 8))) (eC (.int 0)))))) (Ya (Z5 P 40 (Zb (Zd 0) (Zb (Zh wDiv (Zd 5) (eC (.int 8))) (Zb (Zd 2) Zf))))) Z6)
  (Zeg P))
def Zb0 (P:Calls):WS:=
  (Zq (Z3 (eC (.int 0)) (gNm 5))
  (Zq (sIf (tBl (Zh wGt (eBi bLen (Zb (Zd 1) Zf)) (eC (.int 0)))) (Z3 (eMt tyL' Zq0 (Zd 1) (Zb (eC (.int 0)) Zf)) (gNm 5)) Z6)
  (Zco P)))
def Zc6 (P:Calls):WS:=
  (Zq (Z3 (Zv (Zb (eC (.str "call")) (Zb (Zv (Zb (eC (.str "call")) (Zb (Zv (Zb (eC (.str "name")) (Zb (eC (.str "each")) Zf))) (Zb (Zv (Zb (eC (.str "name")) (Zb (eC (.str "f")) Zf))) Zf)))) (Zb (Zv (Zb (eC (.str "name")) (Zb (eC (.str "t")) Zf))) Zf)))) (gNm 0))
  (Zq (Z3 (Zv (Zb (eC (.str "shape")) (Zb (eC (.str "Cons")) (Zb (Zv (Zb (Zv (Zb (eC (.str "call")) (Zb (Zv (Zb (eC (.str "name")) (Zb (eC (.str "f")) Zf))) (Zb (Zv (Zb (eC (.str "name")) (Zb (eC (.str "h")) Zf))) Zf)))) (Zb (Zd 0) Zf))) Zf)))) (gNm 1))
  (Zq (Z3 (Zv (Zb (Zv (Zb (eC (.str "Nil")) (Zb (Zv Zf) (Zb (Zv (Zb (eC (.str "shape")) (Zb (eC (.str "Nil")) (Zb (Zv Zf) Zf)))) Zf)))) (Zb (Zv (Zb (eC (.str "Cons")) (Zb (Zv (Zb (eC (.str "h")) (Zb (eC (.str "t")) Zf))) (Zb (Zd 1) Zf)))) Zf))) (gNm 2))
  (Ya (Zv (Zb (eC (.str "fun")) (Zb (eC (.str "f")) (Zb (Zv (Zb (eC (.str "fun")) (Zb (eC (.str "l")) (Zb (Zv (Zb (eC (.str "choose")) (Zb (Zv (Zb (eC (.str "name")) (Zb (eC (.str "l")) Zf))) (Zb (Zd 2) Zf)))) Zf)))) Zf))))))))
def Zbs (P:Calls):WS:=
  (Zq (Z3 (Zh wAdd (Zh wAdd (eC (.str "c")) (eSl (Zh Zu (Zd 2) (eC (.int 0))) (Zdd (eC (.int 1))) (Zdd (eC (.int 5))))) (eC (.str "0"))) (gNm 4))
  (Zq (Z3 (Zh wAdd (Zh wAdd (eC (.str "d")) (eSl (Zh Zu (Zd 2) (eC (.int 1))) (Zdd (eC (.int 1))) (Zdd (eC (.int 5))))) (eC (.str "0"))) (gNm 5))
  (Zq (Z3 (Xs (Zb (Zv (Zb (Zd 4) (Zb (eC (.str "n")) Zf))) (Zb (Zv (Zb (Zd 5) (Zb (eC (.str "l")) Zf))) Zf))) (gNm 6))
  (Zq (Z3 (Zv (Zb (eC (.str "call")) (Zb (Zv (Zb (eC (.str "name")) (Zb (eC (.str "from")) Zf))) (Zb (Zv (Zb (eC (.str "does")) (Zb (eC (.str "+")) (Zb (Zv (Zb (eC (.str "name")) (Zb (eC (.str "n")) Zf))) (Zb (Zv (Zb (eC (.str "number")) (Zb (eC (.int 1)) Zf))) Zf))))) Zf)))) (gNm 7))
  (Zq (Z3 (Zv (Zb (eC (.str "fun")) (Zb (eC (.str "n")) (Zb (Zv (Zb (eC (.str "shape")) (Zb (eC (.str "Cons")) (Zb (Zv (Zb (Zv (Zb (eC (.str "name")) (Zb (eC (.str "n")) Zf))) (Zb (Zd 7) Zf))) Zf)))) Zf)))) (gNm 8))
  (Zq (Z3 (Z5 P 44 (Zb (eC (.str "n")) (Zb (eSl (Zd 1) oNo (Zdd (eC (.int 4)))) (Zb (Zd 6) (Zb (Zd 2) (Zb (eC (.int 2)) Zf)))))) (gNm 9))
  (Zq (Z3 (Z5 P 44 (Zb (eC (.str "l")) (Zb (eSl (Zd 1) (Zdd (eC (.int 4))) (Zdd (eC (.int 8)))) (Zb (Zd 6) (Zb (Zd 2) (Zb (eC (.int 2)) Zf)))))) (gNm 10))
  (Zq (Z3 (Zv (Zb (Zv (Zb (eC (.str "from")) (Zb (Zd 8) Zf))) (Zb (Zv (Zb (Zd 4) (Zb (Zd 9) Zf))) (Zb (Zv (Zb (eC (.str "each")) (Zb (Z5 P 45 Zf) Zf))) (Zb (Zv (Zb (Zd 5) (Zb (Zd 10) Zf))) Zf))))) (gNm 11))
  (Ya (Zv (Zb (eC (.str "let")) (Zb (Zd 11) (Zb (Z5 P 44 (Zb (Zd 0) (Zb (eSl (Zd 1) (Zdd (eC (.int 8))) oNo) (Zb (Zd 6) (Zb (Zd 2) (Zb (Zd 3) Zf)))))) Zf)))))))))))))
def Zcf (P:Calls):WS:=
  (Ya (eAnd (eIsi (Zd 0) "int") (eNot (eIsi (Zd 0) "bool"))))
def Zel (P:Calls):WS:=
  (Ya (Zd 3))
def Zc3 (P:Calls):WS:=
  (Zq (Z3 (Xs Zf) (gNm 2))
  (Zq (Z3 (Xs Zf) (gNm 3))
  (Zq (Z3 (eC (.int 0)) (gNm 4))
  (Zq (Z3 (eC (.int 0)) (gNm 5))
  (Zq (sFor (iSeq (Zd 0)) (gNm 6)
  (Zq (sIf (tOr' (tNo (tTru (eIsi (Zd 6) "tuple"))) (tOr' (tBl (Zh wNe (eBi bLen (Zb (Zd 6) Zf)) (eC (.int 4)))) (tOr' (tNo (tTru (Z5 P 47 (Zb (Zh Zu (Zd 6) (eC (.int 1))) Zf)))) (tNo (tTru (Z5 P 47 (Zb (Zh Zu (Zd 6) (eC (.int 3))) Zf))))))) (Ya (eC (.non))) Z6)
  (Zq (Z3 (Zd 6) (gTp (Js (gNm 7) (Js (gNm 8) (Js (gNm 9) (Js (gNm 10) Zdy))))))
  (Zq (sIf (tOr' (tBl (Zh wLt (Zd 10) (Zd 4))) (tOr' (tBl (Zh wGt (Zd 10) (Zd 1))) (tNo (tTru (eIsi (Zd 9) "str"))))) (Ya (eC (.non))) Z6)
  (Zq (Z3 (Zd 10) (gNm 4))
  (Zq (sIf (tBl (Zh wEq (Zd 7) (eC (.str "born")))) (Zq (sIf (tBl (Zh wNe (Zd 8) (eBi bLen (Zb (Zd 2) Zf)))) (Ya (eC (.non))) Z6)
  (Zq (Yt (eMt tyL' Xc (Zd 2) (Zb (Zd 9) Zf)))
  Zvd)) Z6)
  (Zq (sIf (tOr' (tNo (tBl (Zh9 wLe wLt (eC (.int 0)) (Zd 8) (eBi bLen (Zb (Zd 2) Zf))))) (tBl (Zh wNe (Zh Zu (Zd 2) (Zd 8)) (Zd 9)))) (Ya (eC (.non))) Z6)
  (sIf (tAn (tBl (Zh wEq (Zd 7) (eC (.str "enter")))) (tBl (Zh wGt (Zd 10) (Zd 5)))) (Zq (Z3 (Zd 10) (gNm 5))
  (Yt (eMt tyL' Xc (Zd 3) (Zb (Zd 8) Zf)))) (sIf (tOr' (tBl (Zh wNe (Zd 7) (eC (.str "back")))) (tOr' (tBl (Zh wEq (eBi bLen (Zb (Zd 3) Zf)) (eC (.int 0)))) (tBl (Zh wNe (eMt tyL' mPop (Zd 3) Zf) (Zd 8))))) (Ya (eC (.non))) Z6)))))))))
  (Zel P))))))
def w_law_t1 (P:Calls):WS:=
  (Ya (Zh wEq (Zh wEq (Zh Zu (Zd 7) (eC (.int 1))) (eC (.str ""))) (Zh wEq (Zh Zu (Zd 7) (eC (.int 0))) (eC (.str "stuck")))))
def w_law_t2 (P:Calls):WS:=
  (Zq (sIf (tBl (Zh wEq (Zh Zu (Zd 7) (eC (.int 0))) (eC (.str "spent")))) (Ya (eAnd (Zh wEq (Zh Zu (Zd 7) (eC (.int 1))) (eC (.str ""))) (Zh wEq (Zh Zu (Zh Zu (Zd 7) (eC (.int 2))) (eC (.int 0))) (Zd 4)))) Z6)
  (w_law_t1 P))
def w_law_t3 (P:Calls):WS:=
  (Zq (sIf (tBl (Zh wEq (Zh Zu (Zd 7) (eC (.int 0))) (eC (.str "told")))) (Ya (eAnd (Zh wEq (Zd 8) (Xs Zf)) (Zh wNe (Zh Zu (Zd 7) (eC (.int 1))) (eC (.str ""))))) Z6)
  (w_law_t2 P))
def w_law_t4 (P:Calls):WS:=
  (Zq (Z3 (Z5 P 48 (Zb (Zh Zu (Zd 7) (eC (.int 3))) (Zb (Zh Zu (Zh Zu (Zd 7) (eC (.int 2))) (eC (.int 0))) Zf))) (gNm 8))
  (Zq (sIf (tOr' (tBl (Zh wIsN (Zd 8) (eC (.non)))) (tBl (Zh Zp3 (Zh Zu (Zd 7) (eC (.int 0))) (Xs (Zb (eC (.str "told")) (Zb (eC (.str "stop")) (Zb (eC (.str "stuck")) (Zb (eC (.str "spent")) Zf)))))))) (Ya (eC (.bl false))) Z6)
  (w_law_t3 P)))
def w_law_t5 (P:Calls):WS:=
  (Zq (sIf (tOr' (tBl (Zh wNe (Za6 [none] (iSeq (Zh Zu (Zd 7) (eC (.int 2)))) (gNm 0) tYes (Z5 P 47 (Zb (Zd 0) Zf))) (Zh Z0y (Xs (Zb (eC (.bl true)) Zf)) (eC (.int 3))))) (tNo (tBl (Zh9 wLe wLe (eC (.int 0)) (Zh Zu (Zh Zu (Zd 7) (eC (.int 2))) (eC (.int 0))) (Zd 4))))) (Ya (eC (.bl false))) Z6)
  (w_law_t4 P))
def w_law_t6 (P:Calls):WS:=
  (Zq (sIf (tOr' (tNo (tTru (eIsi (Zh Zu (Zd 7) (eC (.int 2))) "tuple"))) (tOr' (tBl (Zh wNe (eBi bLen (Zb (Zh Zu (Zd 7) (eC (.int 2))) Zf)) (eC (.int 3)))) (tNo (tTru (eIsi (Zh Zu (Zd 7) (eC (.int 1))) "str"))))) (Ya (eC (.bl false))) Z6)
  (w_law_t5 P))
def w_law (P:Calls):WS:=
  (Zq (Z3 (Z5 P 37 (Zb (Zd 0) (Zb (eC (.int 26)) Zf))) (gNm 1))
  (Zq (Z3 (Z5 P 38 (Zb (Zd 1) Zf)) (gNm 2))
  (Zq (Z3 (Zh Jt (eMt tyL' mPop (Zd 1) Zf) (eC (.int 7))) (gNm 3))
  (Zq (Z3 (Zh Jt (eMt tyL' mPop (Zd 1) Zf) (eC (.int 71))) (gNm 4))
  (Zq (Z3 (Zh Zu (eC (.str "nlltpf")) (Zh Jt (eMt tyL' mPop (Zd 1) Zf) (eC (.int 6)))) (gNm 5))
  (Zq (Z3 (Z5 P 46 (Zb (Zd 5) (Zb (Zd 1) (Zb (Zd 2) (Zb (eC (.int 4)) Zf))))) (gNm 6))
  (Zq (Z3 (Z5 P 36 (aApp [] (Zb (Zd 6) (Zb (Zd 3) (Zb (Zd 4) Zf))))) (gNm 7))
  (Zq (sIf (tOr' (tNo (tTru (eIsi (Zd 7) "tuple"))) (tOr' (tBl (Zh wNe (eBi bLen (Zb (Zd 7) Zf)) (eC (.int 4)))) (tNo (tTru (eIsi (Zh Zu (Zd 7) (eC (.int 3))) "list"))))) (Ya (eC (.bl false))) Z6)
  (w_law_t6 P)))))))))
abbrev Znc:Nat:=0
abbrev Zhg:Nat:=1
abbrev Zwx:Nat:=2
abbrev Znd:Nat:=3
abbrev Zxz:Nat:=4
abbrev i_put:Nat:=5
abbrev Ztw:Nat:=6
abbrev Ztu:Nat:=7
abbrev Ztv:Nat:=8
abbrev Zq6:Nat:=9
abbrev Zq5:Nat:=10
abbrev Zz3:Nat:=11
abbrev Zwy:Nat:=12
abbrev Zdx:Nat:=13
abbrev Z33:Nat:=14
abbrev Zr9:Nat:=15
abbrev Z08:Nat:=16
abbrev Zh7:Nat:=17
abbrev Zh5:Nat:=18
abbrev Zir:Nat:=19
abbrev Zgk:Nat:=20
abbrev Zft:Nat:=21
abbrev Zgl:Nat:=22
abbrev Zfv:Nat:=23
abbrev Zgj:Nat:=24
abbrev Zh6:Nat:=25
abbrev Zfu:Nat:=26
abbrev Zk6:Nat:=27
abbrev Zk4:Nat:=28
abbrev Zhh:Nat:=29
abbrev Zk7:Nat:=30
abbrev Zk3:Nat:=31
abbrev Zk5:Nat:=32
abbrev Zj3:Nat:=33
abbrev Zgm:Nat:=34
abbrev Zpe:Nat:=35
abbrev i_run:Nat:=36
abbrev Znf:Nat:=37
abbrev Zpg:Nat:=38
abbrev Zgi:Nat:=39
abbrev Zph:Nat:=40
abbrev Zng:Nat:=41
abbrev Zq7:Nat:=42
abbrev Zk2:Nat:=43
abbrev Ze6:Nat:=44
abbrev Zpi:Nat:=45
abbrev Zk1:Nat:=46
abbrev Zne:Nat:=47
abbrev Zpf:Nat:=48
abbrev i_law:Nat:=49
abbrev Zz4:Nat:=50
def pr:List Df:=[⟨3,2,Y9⟩,⟨2,2,Za9⟩,⟨2,1,Zef⟩,⟨3,2,Zba⟩,⟨5,2,Zbr⟩,⟨3,2,Zn4⟩,⟨8,2,Zck⟩,⟨4,2,Zdp⟩,⟨1,1,Ze8⟩,⟨1,1,Zd1⟩,⟨4,3,Zd0⟩,⟨1,1,Zis⟩,⟨3,2,Zgr⟩,⟨3,2,Zak⟩,⟨2,2,Zl4⟩,⟨3,3,Zac⟩,⟨2,2,Zc7⟩,⟨2,2,Zan⟩,⟨2,1,Zal⟩,⟨1,1,Zay⟩,⟨2,1,Xw⟩,⟨1,1,Xm⟩,⟨1,1,Xx⟩,⟨3,2,Xp⟩,⟨4,3,Xv⟩,⟨3,3,Zam⟩,⟨1,1,Xo⟩,⟨6,3,Zbx⟩,⟨6,3,Zbv⟩,⟨4,3,Zab⟩,⟨3,2,Zby⟩,⟨3,3,Zbu⟩,⟨3,3,Zbw⟩,⟨2,2,Zbc⟩,⟨2,2,Xy⟩,⟨4,2,Zc2⟩,⟨3,3,Zrn⟩,⟨5,2,Zbb⟩,⟨7,1,Zc4⟩,⟨3,1,Xu⟩,⟨6,3,Zc5⟩,⟨3,3,Zcg⟩,⟨9,6,Zd4⟩,⟨12,6,Zbt⟩,⟨13,5,Zb0⟩,⟨3,0,Zc6⟩,⟨12,4,Zbs⟩,⟨1,1,Zcf⟩,⟨11,2,Zc3⟩,⟨9,1,w_law⟩,⟨2,2,wNew "Runner" 15⟩]
section
variable {n:Nat}{vs:List T}{C:Hw}{Q:WK}{χ:WX}
theorem Xz (hl:vs.length=2)(h:Y9 (wpc pr n) (ZUD Q χ) (vs.map some++List.replicate 1 none) C):wpc pr (n+1) 0 vs C Q χ:=⟨_,rfl,hl,h⟩
theorem Zl6 (hl:vs.length=2)(h:Za9 (wpc pr n) (ZUD Q χ) (vs.map some++List.replicate 0 none) C):wpc pr (n+1) 1 vs C Q χ:=⟨_,rfl,hl,h⟩
theorem Zuc (hl:vs.length=1)(h:Zef (wpc pr n) (ZUD Q χ) (vs.map some++List.replicate 1 none) C):wpc pr (n+1) 2 vs C Q χ:=⟨_,rfl,hl,h⟩
theorem Zl8 (hl:vs.length=2)(h:Zba (wpc pr n) (ZUD Q χ) (vs.map some++List.replicate 1 none) C):wpc pr (n+1) 3 vs C Q χ:=⟨_,rfl,hl,h⟩
theorem Zxy (hl:vs.length=2)(h:Zbr (wpc pr n) (ZUD Q χ) (vs.map some++List.replicate 3 none) C):wpc pr (n+1) 4 vs C Q χ:=⟨_,rfl,hl,h⟩
theorem u_put (hl:vs.length=2)(h:Zn4 (wpc pr n) (ZUD Q χ) (vs.map some++List.replicate 1 none) C):wpc pr (n+1) 5 vs C Q χ:=⟨_,rfl,hl,h⟩
theorem Zld (hl:vs.length=2)(h:Zck (wpc pr n) (ZUD Q χ) (vs.map some++List.replicate 6 none) C):wpc pr (n+1) 6 vs C Q χ:=⟨_,rfl,hl,h⟩
theorem Zsx (hl:vs.length=2)(h:Zdp (wpc pr n) (ZUD Q χ) (vs.map some++List.replicate 2 none) C):wpc pr (n+1) 7 vs C Q χ:=⟨_,rfl,hl,h⟩
theorem Zsy (hl:vs.length=1)(h:Ze8 (wpc pr n) (ZUD Q χ) (vs.map some++List.replicate 0 none) C):wpc pr (n+1) 8 vs C Q χ:=⟨_,rfl,hl,h⟩
theorem Zp6 (hl:vs.length=1)(h:Zd1 (wpc pr n) (ZUD Q χ) (vs.map some++List.replicate 0 none) C):wpc pr (n+1) 9 vs C Q χ:=⟨_,rfl,hl,h⟩
theorem Zp5 (hl:vs.length=3)(h:Zd0 (wpc pr n) (ZUD Q χ) (vs.map some++List.replicate 1 none) C):wpc pr (n+1) 10 vs C Q χ:=⟨_,rfl,hl,h⟩
theorem Zx7 (hl:vs.length=1)(h:Zis (wpc pr n) (ZUD Q χ) (vs.map some++List.replicate 0 none) C):wpc pr (n+1) 11 vs C Q χ:=⟨_,rfl,hl,h⟩
theorem Zud (hl:vs.length=2)(h:Zgr (wpc pr n) (ZUD Q χ) (vs.map some++List.replicate 1 none) C):wpc pr (n+1) 12 vs C Q χ:=⟨_,rfl,hl,h⟩
theorem Zdt (hl:vs.length=2)(h:Zak (wpc pr n) (ZUD Q χ) (vs.map some++List.replicate 1 none) C):wpc pr (n+1) 13 vs C Q χ:=⟨_,rfl,hl,h⟩
theorem Z1l (hl:vs.length=2)(h:Zl4 (wpc pr n) (ZUD Q χ) (vs.map some++List.replicate 0 none) C):wpc pr (n+1) 14 vs C Q χ:=⟨_,rfl,hl,h⟩
theorem Zgv (hl:vs.length=3)(h:Zac (wpc pr n) (ZUD Q χ) (vs.map some++List.replicate 0 none) C):wpc pr (n+1) 15 vs C Q χ:=⟨_,rfl,hl,h⟩
theorem Zoe (hl:vs.length=2)(h:Zc7 (wpc pr n) (ZUD Q χ) (vs.map some++List.replicate 0 none) C):wpc pr (n+1) 16 vs C Q χ:=⟨_,rfl,hl,h⟩
theorem Zhw (hl:vs.length=2)(h:Zan (wpc pr n) (ZUD Q χ) (vs.map some++List.replicate 0 none) C):wpc pr (n+1) 17 vs C Q χ:=⟨_,rfl,hl,h⟩
theorem Zhu (hl:vs.length=1)(h:Zal (wpc pr n) (ZUD Q χ) (vs.map some++List.replicate 1 none) C):wpc pr (n+1) 18 vs C Q χ:=⟨_,rfl,hl,h⟩
theorem Zio (hl:vs.length=1)(h:Zay (wpc pr n) (ZUD Q χ) (vs.map some++List.replicate 0 none) C):wpc pr (n+1) 19 vs C Q χ:=⟨_,rfl,hl,h⟩
theorem Zgb (hl:vs.length=1)(h:Xw (wpc pr n) (ZUD Q χ) (vs.map some++List.replicate 1 none) C):wpc pr (n+1) 20 vs C Q χ:=⟨_,rfl,hl,h⟩
theorem Zfl (hl:vs.length=1)(h:Xm (wpc pr n) (ZUD Q χ) (vs.map some++List.replicate 0 none) C):wpc pr (n+1) 21 vs C Q χ:=⟨_,rfl,hl,h⟩
theorem Zgc (hl:vs.length=1)(h:Xx (wpc pr n) (ZUD Q χ) (vs.map some++List.replicate 0 none) C):wpc pr (n+1) 22 vs C Q χ:=⟨_,rfl,hl,h⟩
theorem Zfn (hl:vs.length=2)(h:Xp (wpc pr n) (ZUD Q χ) (vs.map some++List.replicate 1 none) C):wpc pr (n+1) 23 vs C Q χ:=⟨_,rfl,hl,h⟩
theorem Zga (hl:vs.length=3)(h:Xv (wpc pr n) (ZUD Q χ) (vs.map some++List.replicate 1 none) C):wpc pr (n+1) 24 vs C Q χ:=⟨_,rfl,hl,h⟩
theorem Zhv (hl:vs.length=3)(h:Zam (wpc pr n) (ZUD Q χ) (vs.map some++List.replicate 0 none) C):wpc pr (n+1) 25 vs C Q χ:=⟨_,rfl,hl,h⟩
theorem Zfm (hl:vs.length=1)(h:Xo (wpc pr n) (ZUD Q χ) (vs.map some++List.replicate 0 none) C):wpc pr (n+1) 26 vs C Q χ:=⟨_,rfl,hl,h⟩
theorem Zks (hl:vs.length=3)(h:Zbx (wpc pr n) (ZUD Q χ) (vs.map some++List.replicate 3 none) C):wpc pr (n+1) 27 vs C Q χ:=⟨_,rfl,hl,h⟩
theorem Zkq (hl:vs.length=3)(h:Zbv (wpc pr n) (ZUD Q χ) (vs.map some++List.replicate 3 none) C):wpc pr (n+1) 28 vs C Q χ:=⟨_,rfl,hl,h⟩
theorem Zgu (hl:vs.length=3)(h:Zab (wpc pr n) (ZUD Q χ) (vs.map some++List.replicate 1 none) C):wpc pr (n+1) 29 vs C Q χ:=⟨_,rfl,hl,h⟩
theorem Zkt (hl:vs.length=2)(h:Zby (wpc pr n) (ZUD Q χ) (vs.map some++List.replicate 1 none) C):wpc pr (n+1) 30 vs C Q χ:=⟨_,rfl,hl,h⟩
theorem Zkp (hl:vs.length=3)(h:Zbu (wpc pr n) (ZUD Q χ) (vs.map some++List.replicate 0 none) C):wpc pr (n+1) 31 vs C Q χ:=⟨_,rfl,hl,h⟩
theorem Zkr (hl:vs.length=3)(h:Zbw (wpc pr n) (ZUD Q χ) (vs.map some++List.replicate 0 none) C):wpc pr (n+1) 32 vs C Q χ:=⟨_,rfl,hl,h⟩
theorem Zi3 (hl:vs.length=2)(h:Zbc (wpc pr n) (ZUD Q χ) (vs.map some++List.replicate 0 none) C):wpc pr (n+1) 33 vs C Q χ:=⟨_,rfl,hl,h⟩
theorem Zgd (hl:vs.length=2)(h:Xy (wpc pr n) (ZUD Q χ) (vs.map some++List.replicate 0 none) C):wpc pr (n+1) 34 vs C Q χ:=⟨_,rfl,hl,h⟩
theorem Zn9 (hl:vs.length=2)(h:Zc2 (wpc pr n) (ZUD Q χ) (vs.map some++List.replicate 2 none) C):wpc pr (n+1) 35 vs C Q χ:=⟨_,rfl,hl,h⟩
theorem u_run (hl:vs.length=3)(h:Zrn (wpc pr n) (ZUD Q χ) (vs.map some++List.replicate 0 none) C):wpc pr (n+1) 36 vs C Q χ:=⟨_,rfl,hl,h⟩
theorem Zma (hl:vs.length=2)(h:Zbb (wpc pr n) (ZUD Q χ) (vs.map some++List.replicate 3 none) C):wpc pr (n+1) 37 vs C Q χ:=⟨_,rfl,hl,h⟩
theorem Zob (hl:vs.length=1)(h:Zc4 (wpc pr n) (ZUD Q χ) (vs.map some++List.replicate 6 none) C):wpc pr (n+1) 38 vs C Q χ:=⟨_,rfl,hl,h⟩
theorem Zf9 (hl:vs.length=1)(h:Xu (wpc pr n) (ZUD Q χ) (vs.map some++List.replicate 2 none) C):wpc pr (n+1) 39 vs C Q χ:=⟨_,rfl,hl,h⟩
theorem Zoc (hl:vs.length=3)(h:Zc5 (wpc pr n) (ZUD Q χ) (vs.map some++List.replicate 3 none) C):wpc pr (n+1) 40 vs C Q χ:=⟨_,rfl,hl,h⟩
theorem Zmb (hl:vs.length=3)(h:Zcg (wpc pr n) (ZUD Q χ) (vs.map some++List.replicate 0 none) C):wpc pr (n+1) 41 vs C Q χ:=⟨_,rfl,hl,h⟩
theorem Zp7 (hl:vs.length=6)(h:Zd4 (wpc pr n) (ZUD Q χ) (vs.map some++List.replicate 3 none) C):wpc pr (n+1) 42 vs C Q χ:=⟨_,rfl,hl,h⟩
theorem Zko (hl:vs.length=6)(h:Zbt (wpc pr n) (ZUD Q χ) (vs.map some++List.replicate 6 none) C):wpc pr (n+1) 43 vs C Q χ:=⟨_,rfl,hl,h⟩
theorem Zid (hl:vs.length=5)(h:Zb0 (wpc pr n) (ZUD Q χ) (vs.map some++List.replicate 8 none) C):wpc pr (n+1) 44 vs C Q χ:=⟨_,rfl,hl,h⟩
theorem Zod (hl:vs.length=0)(h:Zc6 (wpc pr n) (ZUD Q χ) (vs.map some++List.replicate 3 none) C):wpc pr (n+1) 45 vs C Q χ:=⟨_,rfl,hl,h⟩
theorem Zkn (hl:vs.length=4)(h:Zbs (wpc pr n) (ZUD Q χ) (vs.map some++List.replicate 8 none) C):wpc pr (n+1) 46 vs C Q χ:=⟨_,rfl,hl,h⟩
theorem Zl9 (hl:vs.length=1)(h:Zcf (wpc pr n) (ZUD Q χ) (vs.map some++List.replicate 0 none) C):wpc pr (n+1) 47 vs C Q χ:=⟨_,rfl,hl,h⟩
theorem Zoa (hl:vs.length=2)(h:Zc3 (wpc pr n) (ZUD Q χ) (vs.map some++List.replicate 9 none) C):wpc pr (n+1) 48 vs C Q χ:=⟨_,rfl,hl,h⟩
theorem u_law (hl:vs.length=1)(h:w_law (wpc pr n) (ZUD Q χ) (vs.map some++List.replicate 8 none) C):wpc pr (n+1) 49 vs C Q χ:=⟨_,rfl,hl,h⟩
theorem Zl7 (hl:vs.length=2)(h:∀p,C p=none→wpc pr n 15 (.ref p::vs) (up C p (.ins "Runner" [])) (fun v C2=>v=.non∧Q (.ref p) C2) χ):wpc pr (n+1) 50 vs C Q χ:=⟨_,rfl,hl,vs,YK _,h⟩
end
def top (i:Nat):Stmt:=PySem.Challenge.pw_idlegraph_k34_a_log.main.body.getD i (.Pass ⟨0,0,0,0⟩)
structure Txt (w:World)(K:W.Frag)(mg:Str→Option Value):Prop where
 zcc:mg "any"=none
 zca:mg "bool"=none
 zbo:mg "dict"=none
 zbx:mg "enumerate"=none
 zbz:mg "int"=none
 zad:mg "isinstance"=none
 zaf:mg "len"=none
 zbd:mg "list"=none
 zcd:mg "max"=none
 za3:mg "range"=none
 zb0:mg "reversed"=none
 zaz:mg "str"=none
 zan:mg "tuple"=none
 zby:mg "zip"=none
 zb9:Glb K mg "MARKS" g_MARKS
 zb5:Glb K mg "VALUES" g_VALUES
 zal:KF K "cells" "Runner"
 zac:KF K "ending" "Runner"
 zaj:KF K "firsts" "Runner"
 zab:KF K "hand" "Runner"
 zak:KF K "labels" "Runner"
 zav:KF K "log" "Runner"
 zah:KF K "pile" "Runner"
 zag:KF K "steps" "Runner"
 zam:KF K "still" "Runner"
 zap:KF K "things" "Runner"
 zao:KF K "told" "Runner"
 zaq:KF K "wanted" "Runner"
structure Cs (Pg:Program)(w:World)(K:W.Frag)(mg:Str→Option Value)(base:Heap)(n:Nat):Prop where
 zbq:Ca Pg w K mg base n "with_parts" ["term","given"] (spW K pr n 0)
 zau:Ca Pg w K mg base n "with_lasts" ["tuples","lasts"] (spW K pr n 1)
 zb7:Ca Pg w K mg base n "scopes" ["term"] (spW K pr n 2)
 zbp:Ca Pg w K mg base n "let_scopes" ["pairs","body"] (spW K pr n 3)
 zbn:Ca Pg w K mg base n "rows_scopes" ["body","steps"] (spW K pr n 4)
 za4:Ca Pg w K mg base n "put" ["term","marks"] (spW K pr n 5)
 za8:Ca Pg w K mg base n "changed" ["term","marks"] (spW K pr n 6)
 zb4:Ca Pg w K mg base n "without" ["marks","names"] (spW K pr n 7)
 zb3:Ca Pg w K mg base n "is_mark" ["term"] (spW K pr n 8)
 za5:Ca Pg w K mg base n "is_value" ["term"] (spW K pr n 9)
 zb2:Ca Pg w K mg base n "reckoned" ["op","one","other"] (spW K pr n 10)
 zbh:Ca Pg w K mg base n "truth" ["holds"] (spW K pr n 11)
 zb6:Ca Pg w K mg base n "picked" ["value","alternatives"] (spW K pr n 12)
 zax:Ca Pg w K mg base n "alternative_of" ["value","alternatives"] (spW K pr n 13)
 zcb:Ca Pg w K mg base n "fits" ["value","frame"] (spW K pr n 14)
 zbw:Ca Pg w K mg base n "pieces_of" ["value","depth"] (spW K pr n 35)
 zce:CaD Pg w K mg base n "run" ["term","depth","most"] [8,400] (spW K pr n 36)
 zbr:Ca Pg w K mg base n "_law_draws" ["_law_script","_law_many"] (spW K pr n 37)
 zbt:Ca Pg w K mg base n "_law_pool" ["_law_draws_here"] (spW K pr n 38)
 za9:Ca Pg w K mg base n "_law_ill_matched" ["_law_k"] (spW K pr n 39)
 za2:Ca Pg w K mg base n "_law_leaf" ["_law_kind","_law_draw","_law_names"] (spW K pr n 40)
 zai:Ca Pg w K mg base n "_law_bound" ["_law_names","_law_name","_law_kind"] (spW K pr n 41)
 zb1:Ca Pg w K mg base n "_law_own" ["_law_kind","_law_draw","_law_draws_here","_law_names","_law_pool_here","_law_deep"] (spW K pr n 42)
 zbm:Ca Pg w K mg base n "_law_choice" ["_law_kind","_law_draw","_law_draws_here","_law_names","_law_pool_here","_law_deep"] (spW K pr n 43)
 zaa:Ca Pg w K mg base n "_law_term" ["_law_kind","_law_draws_here","_law_names","_law_pool_here","_law_deep"] (spW K pr n 44)
 zbv:Ca Pg w K mg base n "_law_each" [] (spW K pr n 45)
 zbl:Ca Pg w K mg base n "_law_closed" ["_law_kind","_law_draws_here","_law_pool_here","_law_deep"] (spW K pr n 46)
 zat:Ca Pg w K mg base n "_law_whole" ["_law_found"] (spW K pr n 47)
 zbs:Ca Pg w K mg base n "_law_rows" ["_law_log","_law_most"] (spW K pr n 48)
 zcg:Ca Pg w K mg base n "law" ["_law_script"] (spW K pr n 49)
 zcf:Cm Pg w K mg base n "Runner" "__init__" ["self","term","depth"] (spW K pr n 15)
 zbu:Cm Pg w K mg base n "Runner" "go" ["self","most"] (spW K pr n 16)
 zbg:Cm Pg w K mg base n "Runner" "advance" ["self","most"] (spW K pr n 17)
 zbf:Cm Pg w K mg base n "Runner" "outcome" ["self"] (spW K pr n 18)
 zay:Cm Pg w K mg base n "Runner" "settle" ["self"] (spW K pr n 19)
 zbe:Cm Pg w K mg base n "Runner" "tell_next" ["self"] (spW K pr n 20)
 za6:Cm Pg w K mg base n "Runner" "tell_value" ["self"] (spW K pr n 21)
 zbc:Cm Pg w K mg base n "Runner" "take_step" ["self"] (spW K pr n 22)
 za7:Cm Pg w K mg base n "Runner" "take_apart" ["self","term"] (spW K pr n 23)
 zba:Cm Pg w K mg base n "Runner" "use_value" ["self","value","frame"] (spW K pr n 24)
 zae:Cm Pg w K mg base n "Runner" "go_into" ["self","term","frame"] (spW K pr n 25)
 zas:Cm Pg w K mg base n "Runner" "take_frame" ["self"] (spW K pr n 26)
 zbk:Cm Pg w K mg base n "Runner" "bind" ["self","pairs","body"] (spW K pr n 27)
 zbj:Cm Pg w K mg base n "Runner" "make" ["self","shape","given"] (spW K pr n 28)
 zaw:Cm Pg w K mg base n "Runner" "mark_for" ["self","label","text"] (spW K pr n 29)
 za0:Cm Pg w K mg base n "Runner" "bear" ["self","label"] (spW K pr n 30)
 zar:Cm Pg w K mg base n "Runner" "note" ["self","event","number"] (spW K pr n 31)
 za1:Cm Pg w K mg base n "Runner" "keep" ["self","number","text"] (spW K pr n 32)
 zbi:Cm Pg w K mg base n "Runner" "enter" ["self","number"] (spW K pr n 33)
 zbb:Cm Pg w K mg base n "Runner" "come_back" ["self","number"] (spW K pr n 34)
 zb8:Cn Pg w K mg base n pr "Runner" 15 50
section
variable {Pg:Program}{w:World}{K:W.Frag}{mg:Str→Option Value}{base:Heap}{f:Addr}{fd:FuncData}{n:Nat}
def ZFK (Pg:Program)(w:World)(K:W.Frag)(mg:Str→Option Value)(base:Heap)(n:Nat)(x q:Str)(st:Stmt)(ps:List Str)(i:Nat):Prop:=∀{f:Addr} {fd:FuncData},Txt w K mg→Cs Pg w K mg base n→Fun K x q st f fd→FnOk Pg w K mg base CX0 (n+1) f fd ps (spW K pr (n+1) i)
local macro_rules | `(tactic| walk_at "sc") => `(tactic| exact ⟨rfl, rfl, rfl, by decide +kernel, rfl, by decide +kernel, by decide +kernel⟩)
abbrev Xe:Stmt:=top 1
theorem Zfw:FnScope ["term","given","sort"] ["term","given"] (Zl Xe):=by walk_at "sc"
theorem Zkv:ZFK Pg w K mg base n "with_parts" "with_parts" Xe ["term","given"] 0:=fun T S F=>Z8 F Zfw rfl rfl rfl fun _ _ _ _ _ _ hr=>by
  have nd:=Zfw.nd
  have hu:=hu150 hr
  show SdB _ (Zm Xe) (Y9 (wpc pr n))
  unfold Y9
  exact(Zg (Zs (i:=2) nd (Zx (Zc 0) Zi))
   (Zg (Z2 (Zp (Yf hu) (Zc 2) Zj) (Zk (Zr (Zo (Za Zj (Za (Zx (Zc 0) Zi) (Za (Zx (Zc 1) Zi) (Za (Zx (Zc 1) Zi) Ze))))))) Zz)
   (Zg (Z2 (dt_w (Za7 (Zp (Yf hu) (Zc 2) Zj) (Zbp (Zp (Yf hu) (Zc 2) Zj)))) (Zk (Zr (Zo (Za (Zc 2) (Za (Zx (Zc 1) Zi) (Za (Zx (Zc 1) Zi) Ze)))))) Zz)
   (Zg (Z2 (Zp (Yf hu) (Zc 2) Zj) (Zk (Zr (Zo (Za Zj (Za (Zx (Zc 0) Zi) (Za (Zx (Zc 1) Zi) Ze)))))) Zz)
   (Zg (Z2 (Zp (Yf hu) (Zc 2) Zj) (Zk (Zr (Zo (Za Zj (Za (Z0 S.zau hr (by rfl) (Za (Zx (Zc 0) Zi) (Za (d_sl (Zc 1) Zfh (Zaz (Zpt Zi))) Ze))) (Za (Zx (Zc 1) (Zpt Zi)) Ze)))))) Zz)
   (Zg (Z2 (Zp (Yf hu) (Zc 2) Zj) (Zk (Zr (Zo (Za Zj (Za (Zx (Zc 0) Zi) (Za (d_ty Zhq (by rfl) T.zan Zb6 (Za (Zc 1) Ze)) Ze)))))) Zz)
   (Zg (Z2 (Zp (Yf hu) (Zc 2) Zj) (Zk (Zr (Zo (Za Zj (Za (Zx (Zc 1) Zi) (Za (Z0 S.zau hr (by rfl) (Za (Zx (Zc 0) Zi) (Za (d_sl (Zc 1) (Zaz Zi) Zfh) Ze))) Ze)))))) Zz)
   (Zg (Z2 (Zp (Yf hu) (Zc 2) Zj) (Zk (Zr (Zo (Za Zj (Za (Zx (Zc 1) Zi) (Za (Z0 S.zau hr (by rfl) (Za (Zx (Zc 0) Zi) (Za (d_sl (Zc 1) (Zaz Zi) Zfh) Ze))) Ze)))))) Zz)
   (Zk (Zr (Zc 0)))))))))))
abbrev Xf:Stmt:=top 2
theorem Zfx:FnScope ["tuples","lasts"] ["tuples","lasts"] (Zl Xf):=by walk_at "sc"
theorem Zkw:ZFK Pg w K mg base n "with_lasts" "with_lasts" Xf ["tuples","lasts"] 1:=fun T S F=>Z8 F Zfx rfl rfl rfl fun _ _ _ _ _ _ hr=>by
  show SdB _ (Zm Xf) (Za9 (wpc pr n))
  unfold Za9
  exact(Zk (Zr (d_ty Zhq (by rfl) T.zan Zb6 (Za (Zeb (cN:=["one","last"]) (cap:=[none,none]) (cl:=[]) (js:=([0]++([1]++[]))) (g:=(gTup _ 2 (Zdz (Zax 0) (Zdz (Zax 1) gNil)))) ⟨rfl,(fun _=>Zho rfl (by decide+kernel) (by decide+kernel) rfl (by decide)),(Z38 (by rfl) T.zby (Za (Zc 0) (Za (Zc 1) Ze))),(fun _ _ _=>Zjj (n:=2) rfl (Zav (Xb (i:=0) (show(["one","last"]:List Str).Nodup by decide+kernel) rfl (Or.inl rfl)) (Zav (Xb (i:=1) (show(["one","last"]:List Str).Nodup by decide+kernel) rfl (Or.inl rfl)) Zg4))),(Znh (Zaa Yj (Zaa Yj Zbo))),(Zni (Zci Xq Yj (Zci Xq Yj Znj Zbo) (Zaa Yj Zbo))),(Zi6 (Zbz J8 (Zbz J8 Zi7)) (Y0 (Y0 Zd8))),by decide+kernel,fun _ _ _=>Zea,fun _ _ _=>(Z4 Zaw (d_sl (Zc 0) Zfh (Zaz (Zpt Zi))) (Zo (Za (Zc 1) Ze))),fun _=>rfl⟩) Ze))))
abbrev Zbk:Stmt:=top 4
theorem Zlg:FnScope ["term","sort"] ["term"] (Zl Zbk):=by walk_at "sc"
theorem Ztf:ZFK Pg w K mg base n "scopes" "scopes" Zbk ["term"] 2:=fun T S F=>Z8 F Zlg rfl rfl rfl fun _ _ _ _ _ _ hr=>by
  have nd:=Zlg.nd
  have hu:=hu150 hr
  show SdB _ (Zm Zbk) (Zef (wpc pr n))
  unfold Zef
  exact(Zg (Zs (i:=1) nd (Zx (Zc 0) Zi))
   (Zg (Z2 (Zp (Yf hu) (Zc 1) Zj) (Zk (Zr (Jk (Za (Zo (Za (Zo Ze) (Za (Zx (Zc 0) Zi) Ze))) (Za (Zo (Za (Zo Ze) (Za (Zx (Zc 0) Zi) Ze))) Ze))))) Zz)
   (Zg (Z2 (dt_w (Za7 (Zp (Yf hu) (Zc 1) Zj) (Zbp (Zp (Yf hu) (Zc 1) Zj)))) (Zk (Zr (Jk (Za (Zo (Za (Zo Ze) (Za (Zx (Zc 0) Zi) Ze))) (Za (Zo (Za (Zo Ze) (Za (Zx (Zc 0) Zi) Ze))) Ze))))) Zz)
   (Zg (Z2 (Zp (Yf hu) (Zc 1) Zj) (Zk (Zr (Jk (Za (Zo (Za (Zo (Za (Zx (Zc 0) Zi) Ze)) (Za (Zx (Zc 0) Zi) Ze))) Ze)))) Zz)
   (Zg (Z2 (Zp (Yf hu) (Zc 1) Zj) (Zk (Zr (Z0 S.zbp hr (by rfl) (Za (Zx (Zc 0) Zi) (Za (Zx (Zc 0) Zi) Ze))))) Zz)
   (Zg (Z2 (Zp (Yf hu) (Zc 1) Zj) (Zk (Zr (Zeb (cN:=["part"]) (cap:=[none]) (cl:=[]) (js:=[0]) (g:=(Zax 0)) ⟨rfl,(fun _=>Zho rfl (by decide+kernel) (by decide+kernel) rfl (by decide)),(Zai (Zx (Zc 0) Zi)),(fun _ _ _=>Xb (i:=0) (show(["part"]:List Str).Nodup by decide+kernel) rfl (Or.inl rfl)),Yj,Xq,J8,by decide+kernel,fun _ _ _=>Zea,fun _ _ _=>(Zo (Za (Zo Ze) (Za (Zc 0) Ze))),fun _=>rfl⟩))) Zz)
   (Zg (Z2 (Zp (Yf hu) (Zc 1) Zj) (Zk (Zr (Z4 Zaw (Jk (Za (Zo (Za (Zo Ze) (Za (Zx (Zc 0) Zi) Ze))) Ze)) (Zeb (cN:=["shape","names","body"]) (cap:=[none,none,none]) (cl:=[]) (js:=([0]++([1]++([2]++[])))) (g:=(gTup _ 3 (Zdz (Zax 0) (Zdz (Zax 1) (Zdz (Zax 2) gNil))))) ⟨rfl,(fun _=>Zho rfl (by decide+kernel) (by decide+kernel) rfl (by decide)),(Zai (Zx (Zc 0) Zi)),(fun _ _ _=>Zjj (n:=3) rfl (Zav (Xb (i:=0) (show(["shape","names","body"]:List Str).Nodup by decide+kernel) rfl (Or.inl rfl)) (Zav (Xb (i:=1) (show(["shape","names","body"]:List Str).Nodup by decide+kernel) rfl (Or.inl rfl)) (Zav (Xb (i:=2) (show(["shape","names","body"]:List Str).Nodup by decide+kernel) rfl (Or.inl rfl)) Zg4)))),(Znh (Zaa Yj (Zaa Yj (Zaa Yj Zbo)))),(Zni (Zci Xq Yj (Zci Xq Yj (Zci Xq Yj Znj Zbo) (Zaa Yj Zbo)) (Zaa Yj (Zaa Yj Zbo)))),(Zi6 (Zbz J8 (Zbz J8 (Zbz J8 Zi7))) (Y0 (Y0 (Y0 Zd8)))),by decide+kernel,fun _ _ _=>Zea,fun _ _ _=>(Zo (Za (Zc 1) (Za (Zc 2) Ze))),fun _=>rfl⟩)))) Zz)
   (Zg (Z2 (Zp (Yf hu) (Zc 1) Zj) (Zk (Zr (Z0 S.zbn hr (by rfl) (Za (Zx (Zc 0) Zi) (Za (Zx (Zc 0) Zi) Ze))))) Zz)
   (Zk (Zr (Jk Ze)))))))))))
abbrev Xg:Stmt:=top 5
theorem Zfy:FnScope ["pairs","body","names"] ["pairs","body"] (Zl Xg):=by walk_at "sc"
theorem Zkx:ZFK Pg w K mg base n "let_scopes" "let_scopes" Xg ["pairs","body"] 3:=fun T S F=>Z8 F Zfy rfl rfl rfl fun _ _ _ _ _ _ hr=>by
  have nd:=Zfy.nd
  show SdB _ (Zm Xg) (Zba (wpc pr n))
  unfold Zba
  exact(Zg (Zs (i:=2) nd (d_ty Zhq (by rfl) T.zan Zb6 (Za (Zeb (cN:=["name","part"]) (cap:=[none,none]) (cl:=[]) (js:=([0]++([1]++[]))) (g:=(gTup _ 2 (Zdz (Zax 0) (Zdz (Zax 1) gNil)))) ⟨rfl,(fun _=>Zho rfl (by decide+kernel) (by decide+kernel) rfl (by decide)),(Zai (Zc 0)),(fun _ _ _=>Zjj (n:=2) rfl (Zav (Xb (i:=0) (show(["name","part"]:List Str).Nodup by decide+kernel) rfl (Or.inl rfl)) (Zav (Xb (i:=1) (show(["name","part"]:List Str).Nodup by decide+kernel) rfl (Or.inl rfl)) Zg4))),(Znh (Zaa Yj (Zaa Yj Zbo))),(Zni (Zci Xq Yj (Zci Xq Yj Znj Zbo) (Zaa Yj Zbo))),(Zi6 (Zbz J8 (Zbz J8 Zi7)) (Y0 (Y0 Zd8))),by decide+kernel,fun _ _ _=>Zea,fun _ _ _=>(Zc 0),fun _=>rfl⟩) Ze)))
   (Zk (Zr (Z4 Zaw (Zeb (cN:=["name","part","names"]) (cap:=[none,none,some 2]) (cl:=(Zbg _ _ [])) (js:=([0]++([1]++[]))) (g:=(gTup _ 2 (Zdz (Zax 0) (Zdz (Zax 1) gNil)))) ⟨rfl,(fun ok=>Zfi ok rfl (by decide+kernel) (by decide+kernel) rfl rfl rfl),(Zai (Zc 0)),(fun _ _ _=>Zjj (n:=2) rfl (Zav (Xb (i:=0) (show(["name","part","names"]:List Str).Nodup by decide+kernel) rfl (Or.inl rfl)) (Zav (Xb (i:=1) (show(["name","part","names"]:List Str).Nodup by decide+kernel) rfl (Or.inl rfl)) Zg4))),(Znh (Zaa Yj (Zaa Yj Zbo))),(Zni (Zci Xq Yj (Zci Xq Yj Znj Zbo) (Zaa Yj Zbo))),(Zi6 (Zbz J8 (Zbz J8 Zi7)) (Y0 (Y0 Zd8))),by decide+kernel,fun _ _ _=>Zea,fun _ _ _=>(Zo (Za (Zc 2) (Za (Zc 1) Ze))),fun _=>rfl⟩) (Jk (Za (Zo (Za (Zc 2) (Za (Zc 1) Ze))) Ze))))))
abbrev Jx:Stmt:=top 6
theorem Zer:FnScope ["body","steps","bound","behind","step"] ["body","steps"] (Zl Jx):=by walk_at "sc"
theorem Zjl:ZFK Pg w K mg base n "rows_scopes" "rows_scopes" Jx ["body","steps"] 4:=fun T S F=>Z8 F Zer rfl rfl rfl fun _ _ _ _ _ _ hr=>by
  show SdB _ (Zm Jx) (Zbr (wpc pr n))
  unfold Zbr
  exact Zxg
abbrev Zgf:Stmt:=top 8
theorem Zu1:FnScope ["term","marks","given"] ["term","marks"] (Zl Zgf):=by walk_at "sc"
theorem Z29:ZFK Pg w K mg base n "put" "put" Zgf ["term","marks"] 5:=fun T S F=>Z8 F Zu1 rfl rfl rfl fun _ _ _ _ _ _ hr=>by
  have nd:=Zu1.nd
  show SdB _ (Zm Zgf) (Zn4 (wpc pr n))
  unfold Zn4
  exact(Zg (Zs (i:=2) nd (Z0 S.za8 hr (by rfl) (Za (Zc 0) (Za (Zc 1) Ze))))
   (Zk (Zr (Zke (Zp Zih (Zc 2) Zad) (Zc 0) (Zc 2)))))
abbrev Za3:Stmt:=top 9
theorem Zja:FnScope ["term","marks","stays","given","names","part","left","one"] ["term","marks"] (Zl Za3):=by walk_at "sc"
theorem Zqs:ZFK Pg w K mg base n "changed" "changed" Za3 ["term","marks"] 6:=fun T S F=>Z8 F Zja rfl rfl rfl fun _ _ _ _ _ _ hr=>by
  have nd:=Zja.nd
  have hu:=hu150 hr
  show SdB _ (Zm Za3) (Zck (wpc pr n))
  unfold Zck Zd2 Zd3
  exact(Zg (Z2 (Zp (Yf hu) (Zx (Zc 0) Zi) Zj) (Zk (Zr (Z0g hu (Zc 1) (Zx (Zc 0) Zi) ⟨rfl,rfl,rfl,rfl⟩))) Zz)
   (Zg (Zs (i:=2) nd d_bl)
   (Zg (Zs (i:=3) nd (Jk Ze))
   (Zg (Zc1 PassesOwn.never rfl (Zai (Z0 S.zb7 hr (by rfl) (Za (Zc 0) Ze))) (Zkb (n:=2) rfl (Za0 (Jw (i:=4) nd) (Za0 (Jw (i:=5) nd) Zkc)) (Y0 (Y0 Zd8)))
   (Zg (Zs (i:=6) nd (Zke (Zp (Yf hu) (Zc 4) (Zo Ze)) (Zc 1) (Z0 S.zb4 hr (by rfl) (Za (Zc 1) (Za (Zc 4) Ze)))))
   (Zg (Zs (i:=7) nd (Zke (Zp (o_req hu) (Zc 6) Znp) Zad (Z0 S.za8 hr (by rfl) (Za (Zc 5) (Za (Zc 6) Ze)))))
   (Zg (Z2 (Zp Zv6 (Zc 7) Zad) (Zk (Zs (i:=2) nd d_bl)) Zz)
   (Zk (Z9 (d_mt XZ YB YA Ja Zah (Zc 3) (Za (Zke (Zp Zih (Zc 7) Zad) (Zc 5) (Zc 7)) Ze))))))))
   (Zk (Zr (Zke (Zat (Zc 2)) Zad (Z0 S.zbq hr (by rfl) (Za (Zc 0) (Za (Zc 3) Ze))))))))))
abbrev Za1:Stmt:=top 10
theorem Zi8:FnScope ["marks","names","left","name"] ["marks","names"] (Zl Za1):=by walk_at "sc"
theorem Zqq:ZFK Pg w K mg base n "without" "without" Za1 ["marks","names"] 7:=fun T S F=>Z8 F Zi8 rfl rfl rfl fun _ _ _ _ _ _ hr=>by
  have nd:=Zi8.nd
  have hu:=hu150 hr
  show SdB _ (Zm Za1) (Zdp (wpc pr n))
  unfold Zdp
  exact(Zg (Z2 (Zb7 (Zat (d_bi (b_any rfl) (by rfl) T.zcc Z4h (Za (Zeb (cN:=["name","marks"]) (cap:=[none,some 0]) (cl:=(Zbg _ _ [])) (js:=[0]) (g:=(Zax 0)) ⟨rfl,(fun ok=>Zfi ok rfl (by decide+kernel) (by decide+kernel) rfl rfl rfl),(Zai (Zc 1)),(fun _ _ _=>Xb (i:=0) (show(["name","marks"]:List Str).Nodup by decide+kernel) rfl (Or.inl rfl)),Yj,Xq,J8,by decide+kernel,fun _ _ _=>Zea,fun _ _ _=>(Zce (o_rin hu) (Zc 0) (Zc 1) (by rfl)),fun _=>rfl⟩) Ze)))) (Zk (Zr (Zc 0))) Zz)
   (Zg (Zs (i:=2) nd (d_ty Z0t (by rfl) T.zbo Z0p (Za (Zc 0) Ze)))
   (Zg (Zc1 PassesOwn.never rfl (Zai (Zc 1)) (Jw (i:=3) nd)
   (Zk (Z9 (Z0i (Zc 2) (Zc 3) Zad ⟨rfl,rfl,rfl,rfl⟩))))
   (Zk (Zr (Zc 2))))))
abbrev Za2:Stmt:=top 14
theorem Zi9:FnScope ["term"] ["term"] (Zl Za2):=by walk_at "sc"
theorem Zqr:ZFK Pg w K mg base n "is_mark" "is_mark" Za2 ["term"] 8:=fun T S F=>Z8 F Zi9 rfl rfl rfl fun _ _ _ _ _ _ hr=>by
  have hu:=hu150 hr
  show SdB _ (Zm Za2) (Ze8 (wpc pr n))
  unfold Ze8
  exact(Zk (Zr (Zce (o_in hu) (Zx (Zc 0) Zi) (d_gl (by rfl) T.zb9) (by rfl))))
abbrev Zaf:Stmt:=top 15
theorem Zif:FnScope ["term"] ["term"] (Zl Zaf):=by walk_at "sc"
theorem Zov:ZFK Pg w K mg base n "is_value" "is_value" Zaf ["term"] 9:=fun T S F=>Z8 F Zif rfl rfl rfl fun _ _ _ _ _ _ hr=>by
  have hu:=hu150 hr
  show SdB _ (Zm Zaf) (Zd1 (wpc pr n))
  unfold Zd1
  exact(Zk (Zr (Zce (o_in hu) (Zx (Zc 0) Zi) (d_gl (by rfl) T.zb5) (by rfl))))
abbrev Zae:Stmt:=top 16
theorem Zie:FnScope ["op","one","other","outcome"] ["op","one","other"] (Zl Zae):=by walk_at "sc"
theorem Zou:ZFK Pg w K mg base n "reckoned" "reckoned" Zae ["op","one","other"] 10:=fun T S F=>Z8 F Zie rfl rfl rfl fun _ _ _ _ _ _ hr=>by
  have nd:=Zie.nd
  have hu:=hu150 hr
  show SdB _ (Zm Zae) (Zd0 (wpc pr n))
  unfold Zd0
  exact(Zg (Z2 (Zp (Yf hu) (Zc 0) Zj) (Zk (Zr (Z0 S.zbh hr (by rfl) (Za (Zce o_lt (Zc 1) (Zc 2) (Zbe _)) Ze)))) Zz)
   (Zg (Z2 (Zp (Yf hu) (Zc 0) Zj) (Zk (Zr (Z0 S.zbh hr (by rfl) (Za (Zce (Yf hu) (Zc 1) (Zc 2) (Zbe _)) Ze)))) Zz)
   (Zg (Z2 (Zp (Yf hu) (Zc 0) Zj) (Zk (Zs (i:=3) nd (Z4 Zaw (Zc 1) (Zc 2)))) (Zk (Z2 (Zp (Yf hu) (Zc 0) Zj) (Zk (Zs (i:=3) nd (Z4 Xr (Zc 1) (Zc 2)))) (Zk (Zs (i:=3) nd (Z4 Zox (Zc 1) (Zc 2)))))))
   (Zk (Zr (Zo (Za Zj (Za (Z4 Ys (Zc 3) (Z4 Zr1 Zi Zi)) Ze))))))))
abbrev Zcu:Stmt:=top 17
theorem Zoi:FnScope ["holds"] ["holds"] (Zl Zcu):=by walk_at "sc"
theorem Zv3:ZFK Pg w K mg base n "truth" "truth" Zcu ["holds"] 11:=fun T S F=>Z8 F Zoi rfl rfl rfl fun _ _ _ _ _ _ hr=>by
  show SdB _ (Zm Zcu) (Zis (wpc pr n))
  unfold Zis
  exact(Zk (Zr (Zo (Za Zj (Za (Zke (Zat (Zc 0)) Zj Zj) (Za (Zo Ze) Ze))))))
abbrev Zbl:Stmt:=top 18
theorem Zlh:FnScope ["value","alternatives","found"] ["value","alternatives"] (Zl Zbl):=by walk_at "sc"
theorem Ztg:ZFK Pg w K mg base n "picked" "picked" Zbl ["value","alternatives"] 12:=fun T S F=>Z8 F Zlh rfl rfl rfl fun _ _ _ _ _ _ hr=>by
  have nd:=Zlh.nd
  show SdB _ (Zm Zbl) (Zgr (wpc pr n))
  unfold Zgr
  exact(Zg (Zs (i:=2) nd (Z0 S.zax hr (by rfl) (Za (Zc 0) (Za (Zc 1) Ze))))
   (Zg (Z2 (Zp Zih (Zc 2) Zad) (Zk (Zr Zad)) Zz)
   (Zk (Zr (Z0 S.za4 hr (by rfl) (Za (Zx (Zc 2) Zi) (Za (d_dz rfl (by rfl) T.zbo (by rfl) T.zby (Za (Zx (Zc 2) Zi) (Za (Zx (Zc 0) Zi) Ze))) Ze)))))))
abbrev Jb:Stmt:=top 19
theorem Zc8:FnScope ["value","alternatives","alternative"] ["value","alternatives"] (Zl Jb):=by walk_at "sc"
theorem Zg6:ZFK Pg w K mg base n "alternative_of" "alternative_of" Jb ["value","alternatives"] 13:=fun T S F=>Z8 F Zc8 rfl rfl rfl fun _ _ _ _ _ _ hr=>by
  have nd:=Zc8.nd
  have hu:=hu150 hr
  show SdB _ (Zm Jb) (Zak (wpc pr n))
  unfold Zak
  exact(Zg (Z2 (Zp (o_ne hu) (Zx (Zc 0) Zi) Zj) (Zk (Zr Zad)) Zz)
   (Zg (Zc1 PassesOwn.never rfl (Zai (Zc 1)) (Jw (i:=2) nd)
   (Zk (Z2 (Zp (Yf hu) (Zx (Zc 2) Zi) (Zx (Zc 0) Zi)) (Zk (Zr (Zc 2))) Zz)))
   (Zk (Zr Zad))))
abbrev Zd5:Stmt:=top 20
theorem Zrr:FnScope ["value","frame"] ["value","frame"] (Zl Zd5):=by walk_at "sc"
theorem Zzj:ZFK Pg w K mg base n "fits" "fits" Zd5 ["value","frame"] 14:=fun T S F=>Z8 F Zrr rfl rfl rfl fun _ _ _ _ _ _ hr=>by
  have hu:=hu150 hr
  show SdB _ (Zm Zd5) (Zl4 (wpc pr n))
  unfold Zl4
  exact(Zg (Z2 (Zp (Yf hu) (Zx (Zc 1) Zi) Zj) (Zk (Zr (Zce (Yf hu) (Zx (Zc 0) Zi) Zj (Zbe _)))) Zz)
   (Zg (Z2 (Zp (Yf hu) (Zx (Zc 1) Zi) Zj) (Zk (Zr (Zce Zv6 (Z0 S.zax hr (by rfl) (Za (Zc 0) (Za (Zx (Zc 1) Zi) Ze))) Zad (Zbe _)))) Zz)
   (Zg (Z2 (dt_w (Za7 (Zp (Yf hu) (Zx (Zc 1) Zi) Zj) (Zbp (Zp (Yf hu) (Zx (Zc 1) Zi) Zj)))) (Zk (Zr (Zce (Yf hu) (Zx (Zc 0) Zi) Zj (Zbe _)))) Zz)
   (Zk (Zr d_bl)))))
abbrev Y4:Stmt:=Jp (top 22) 0
theorem Zcw:FnScope ["self","term","depth"] ["self","term","depth"] (Zl Y4):=by walk_at "sc"
theorem Zgh:ZFK Pg w K mg base n "__init__" "Runner.__init__" Y4 ["self","term","depth"] 15:=fun T S F=>Z8 F Zcw rfl rfl rfl fun _ _ _ _ _ _ hr=>by
  show SdB _ (Zm Y4) (Zac (wpc pr n))
  unfold Zac
  exact(Zg (Jg (Zt T.zab Z1) (Zc 0) Zad)
   (Zg (Jg (Zt T.zaq Z1) (Zc 0) Zi)
   (Zg (Jg (Zt T.zah Z1) (Zc 0) (Jk Ze))
   (Zg (Jg (Zt T.zam Z1) (Zc 0) (Jk (Za (Zo (Za (Zc 2) (Za (Zc 1) Ze))) Ze)))
   (Zg (Jg (Zt T.zao Z1) (Zc 0) (Jk Ze))
   (Zg (Jg (Zt T.zap Z1) (Zc 0) Znp)
   (Zg (Jg (Zt T.zak Z1) (Zc 0) (Jk Ze))
   (Zg (Jg (Zt T.zav Z1) (Zc 0) (Jk Ze))
   (Zg (Jg (Zt T.zag Z1) (Zc 0) Zi)
   (Zg (Jg (Zt T.zal Z1) (Zc 0) Zi)
   (Zg (Jg (Zt T.zaj Z1) (Zc 0) Zi)
   (Zk (Jg (Zt T.zac Z1) (Zc 0) Zad)))))))))))))
abbrev X8:Stmt:=Jp (top 22) 1
theorem Zg2:FnScope ["self","most"] ["self","most"] (Zl X8):=by walk_at "sc"
theorem Zmz:ZFK Pg w K mg base n "go" "Runner.go" X8 ["self","most"] 16:=fun T S F=>Z8 F Zg2 rfl rfl rfl fun _ _ _ _ _ _ hr=>by
  show SdB _ (Zm X8) (Zc7 (wpc pr n))
  unfold Zc7
  exact(Zg (Z9 (J7 (pr:=pr) (pl:=_) (Yi S.zbg Y5) hr (Zc 0) (Za (Zc 1) Ze)))
   (Zk (Zr (Zdg (pr:=pr) (pl:=_) (Yi S.zbf Y5) hr (Zc 0)))))
abbrev Je:Stmt:=Jp (top 22) 2
theorem Zdb:FnScope ["self","most"] ["self","most"] (Zl Je):=by walk_at "sc"
theorem Zg9:ZFK Pg w K mg base n "advance" "Runner.advance" Je ["self","most"] 17:=fun T S F=>Z8 F Zdb rfl rfl rfl fun _ _ _ _ _ _ hr=>by
  show SdB _ (Zm Je) (Zan (wpc pr n))
  unfold Zan
  exact(Zg (Z9 (Zdg (pr:=pr) (pl:=_) (Yi S.zay Y5) hr (Zc 0)))
   (Zk (Zpo PassesOwn.never (dt_w (Ze7 (Zp Zih (Y7 (Zt T.zac Z1) (Zc 0)) Zad) (Zd9 (Zp o_lt (Y7 (Zt T.zag Z1) (Zc 0)) (Zc 1)))))
   (Zg (Jg (Zt T.zag Z1) (Zc 0) (Z4 Zaw (Y7 (Zt T.zag Z1) (Zc 0)) Zi))
   (Zg (Z9 (Zdg (pr:=pr) (pl:=_) (Yi S.zbc Y5) hr (Zc 0)))
   (Zk (Z9 (Zdg (pr:=pr) (pl:=_) (Yi S.zay Y5) hr (Zc 0)))))))))
abbrev Jc:Stmt:=Jp (top 22) 3
theorem Zc9:FnScope ["self","ending"] ["self"] (Zl Jc):=by walk_at "sc"
theorem Zg7:ZFK Pg w K mg base n "outcome" "Runner.outcome" Jc ["self"] 18:=fun T S F=>Z8 F Zc9 rfl rfl rfl fun _ _ _ _ _ _ hr=>by
  have nd:=Zc9.nd
  show SdB _ (Zm Jc) (Zal (wpc pr n))
  unfold Zal
  exact(Zg (Zs (i:=1) nd (Zke (Zp Zih (Y7 (Zt T.zac Z1) (Zc 0)) Zad) (Zo (Za Zj (Za Zj Ze))) (Y7 (Zt T.zac Z1) (Zc 0))))
   (Zk (Zr (Zo (Za (Zx (Zc 1) Zi) (Za (Zx (Zc 1) Zi) (Za (Zo (Za (Y7 (Zt T.zag Z1) (Zc 0)) (Za (Y7 (Zt T.zal Z1) (Zc 0)) (Za (Y7 (Zt T.zaj Z1) (Zc 0)) Ze)))) (Za (d_ty Z4i (by rfl) T.zbd Zsl (Za (Y7 (Zt T.zav Z1) (Zc 0)) Ze)) Ze))))))))
abbrev Jm:Stmt:=Jp (top 22) 4
theorem Zdu:FnScope ["self"] ["self"] (Zl Jm):=by walk_at "sc"
theorem Zh1:ZFK Pg w K mg base n "settle" "Runner.settle" Jm ["self"] 19:=fun T S F=>Z8 F Zdu rfl rfl rfl fun _ _ _ _ _ _ hr=>by
  have hu:=hu150 hr
  show SdB _ (Zm Jm) (Zay (wpc pr n))
  unfold Zay
  exact(Zk (Zpo PassesOwn.never (Zp Zih (Y7 (Zt T.zac Z1) (Zc 0)) Zad)
   (Zk (Z2 (Zp Zih (Y7 (Zt T.zab Z1) (Zc 0)) Zad) (Zk (Z9 (Zdg (pr:=pr) (pl:=_) (Yi S.zbe Y5) hr (Zc 0)))) (Zk (Z2 (Zp (Yf hu) (Zx (Y7 (Zt T.zab Z1) (Zc 0)) Zi) Zj) (Zk (Jg (Zt T.zac Z1) (Zc 0) (Zo (Za Zj (Za (Zx (Y7 (Zt T.zab Z1) (Zc 0)) Zi) Ze))))) (Zk (Z2 (Zb7 (Zat (Z0 S.za5 hr (by rfl) (Za (Y7 (Zt T.zab Z1) (Zc 0)) Ze)))) (Zk Znm) (Zk (Z2 (Zp (Yf hu) (Y7 (Zt T.zah Z1) (Zc 0)) (Jk Ze)) (Zk (Z9 (Zdg (pr:=pr) (pl:=_) (Yi S.za6 Y5) hr (Zc 0)))) (Zk (Z2 (Zp (Yf hu) (Zx (Zx (Y7 (Zt T.zah Z1) (Zc 0)) (Zpt Zi)) Zi) Zj) (Zk (Z9 (J7 (pr:=pr) (pl:=_) (Yi S.zbb Y5) hr (Zc 0) (Za (Zx (Zdg (pr:=pr) (pl:=_) (Yi S.zas Y5) hr (Zc 0)) Zi) Ze)))) (Zk (Z2 (Zat (Z0 S.zcb hr (by rfl) (Za (Y7 (Zt T.zab Z1) (Zc 0)) (Za (Zx (Y7 (Zt T.zah Z1) (Zc 0)) (Zpt Zi)) Ze)))) (Zk Znm) (Zk (Jg (Zt T.zac Z1) (Zc 0) (Zo (Za Zj (Za Zj Ze)))))))))))))))))))
abbrev Yx:Stmt:=Jp (top 22) 5
theorem Zca:FnScope ["self","piece"] ["self"] (Zl Yx):=by walk_at "sc"
theorem Zfq:ZFK Pg w K mg base n "tell_next" "Runner.tell_next" Yx ["self"] 20:=fun T S F=>Z8 F Zca rfl rfl rfl fun _ _ _ _ _ _ hr=>by
  have nd:=Zca.nd
  have hu:=hu150 hr
  show SdB _ (Zm Yx) (Xw (wpc pr n))
  unfold Xw
  exact(Zg (Z2 (Zp (Yf hu) (Y7 (Zt T.zam Z1) (Zc 0)) (Jk Ze)) (Zg (Jg (Zt T.zac Z1) (Zc 0) (Zo (Za Zj (Za (d_mt PySem.F.plainAttrs_str PySem.F.slot_str_join PySem.F.type_str_join Z1m Z3i Zj (Za (Y7 (Zt T.zao Z1) (Zc 0)) Ze)) Ze))))
   (Zk Znm)) Zz)
   (Zg (Zs (i:=1) nd (Zkd XZ PySem.F.slot_list_pop PySem.F.type_list_pop Ja Zju (Y7 (Zt T.zam Z1) (Zc 0))))
   (Zk (Z2 (Zat (Zhm (by rfl) T.zad (by rfl) T.zaz Zib (by decide) (Zc 1))) (Zk (Z9 (d_mt XZ YB YA Ja Zah (Y7 (Zt T.zao Z1) (Zc 0)) (Za (Zc 1) Ze)))) (Zk (Z2 (Zp o_le (Zx (Zc 1) Zi) Zi) (Zk (Z9 (d_mt XZ YB YA Ja Zah (Y7 (Zt T.zao Z1) (Zc 0)) (Za Zj Ze)))) (Zg (Jg (Zt T.zaq Z1) (Zc 0) (Zx (Zc 1) Zi))
   (Zk (Jg (Zt T.zab Z1) (Zc 0) (Zx (Zc 1) Zi))))))))))
abbrev Yp:Stmt:=Jp (top 22) 6
theorem Zb1:FnScope ["self"] ["self"] (Zl Yp):=by walk_at "sc"
theorem Ze0:ZFK Pg w K mg base n "tell_value" "Runner.tell_value" Yp ["self"] 21:=fun T S F=>Z8 F Zb1 rfl rfl rfl fun _ _ _ _ _ _ hr=>by
  show SdB _ (Zm Yp) (Xm (wpc pr n))
  unfold Xm
  exact(Zg (Z9 (d_mt XZ PySem.F.slot_list_extend PySem.F.type_list_extend Ja Zo9 (Y7 (Zt T.zam Z1) (Zc 0)) (Za (Z4b rfl (by rfl) T.zbd (by rfl) T.zb0 (Z0 S.zbw hr (by rfl) (Za (Y7 (Zt T.zab Z1) (Zc 0)) (Za (Z4 Xr (Y7 (Zt T.zaq Z1) (Zc 0)) Zi) Ze)))) Ze)))
   (Zk (Jg (Zt T.zab Z1) (Zc 0) Zad)))
abbrev Yy:Stmt:=Jp (top 22) 7
theorem Zcb:FnScope ["self"] ["self"] (Zl Yy):=by walk_at "sc"
theorem Zfr:ZFK Pg w K mg base n "take_step" "Runner.take_step" Yy ["self"] 22:=fun T S F=>Z8 F Zcb rfl rfl rfl fun _ _ _ _ _ _ hr=>by
  show SdB _ (Zm Yy) (Xx (wpc pr n))
  unfold Xx
  exact(Zk (Z2 (Zat (Z0 S.za5 hr (by rfl) (Za (Y7 (Zt T.zab Z1) (Zc 0)) Ze))) (Zk (Z9 (J7 (pr:=pr) (pl:=_) (Yi S.zba Y5) hr (Zc 0) (Za (Y7 (Zt T.zab Z1) (Zc 0)) (Za (Zdg (pr:=pr) (pl:=_) (Yi S.zas Y5) hr (Zc 0)) Ze))))) (Zk (Z9 (J7 (pr:=pr) (pl:=_) (Yi S.za7 Y5) hr (Zc 0) (Za (Y7 (Zt T.zab Z1) (Zc 0)) Ze))))))
abbrev Yr:Stmt:=Jp (top 22) 8
theorem Zb3:FnScope ["self","term","sort"] ["self","term"] (Zl Yr):=by walk_at "sc"
theorem Ze2:ZFK Pg w K mg base n "take_apart" "Runner.take_apart" Yr ["self","term"] 23:=fun T S F=>Z8 F Zb3 rfl rfl rfl fun _ _ _ _ _ _ hr=>by
  have nd:=Zb3.nd
  have hu:=hu150 hr
  show SdB _ (Zm Yr) (Xp (wpc pr n))
  unfold Xp
  exact(Zg (Zs (i:=2) nd (Zx (Zc 1) Zi))
   (Zk (Z2 (Zp (Yf hu) (Zc 2) Zj) (Zk (Z9 (J7 (pr:=pr) (pl:=_) (Yi S.zae Y5) hr (Zc 0) (Za (Zx (Zc 1) Zi) (Za (Zo (Za Zj (Za (Zx (Zc 1) Zi) Ze))) Ze))))) (Zk (Z2 (Zp (Yf hu) (Zc 2) Zj) (Zk (Z9 (J7 (pr:=pr) (pl:=_) (Yi S.zae Y5) hr (Zc 0) (Za (Zx (Zc 1) Zi) (Za (Zo (Za Zj (Za (Zx (Zc 1) Zi) (Za (Zx (Zc 1) Zi) Ze)))) Ze))))) (Zk (Z2 (Zp (Yf hu) (Zc 2) Zj) (Zk (Z9 (J7 (pr:=pr) (pl:=_) (Yi S.zae Y5) hr (Zc 0) (Za (Zx (Zc 1) Zi) (Za (Zo (Za Zj (Za (Zx (Zc 1) Zi) Ze))) Ze))))) (Zk (Z2 (Zp (Yf hu) (Zc 2) Zj) (Zg (Jg (Zt T.zaj Z1) (Zc 0) (Z4 Zaw (Y7 (Zt T.zaj Z1) (Zc 0)) Zi))
   (Zk (Z9 (J7 (pr:=pr) (pl:=_) (Yi S.zae Y5) hr (Zc 0) (Za (Zx (Zc 1) Zi) (Za (Zo (Za Zj (Za (Zx (Zc 1) Zi) Ze))) Ze)))))) (Zk (Z2 (Zp (Yf hu) (Zc 2) Zj) (Zk (Z9 (J7 (pr:=pr) (pl:=_) (Yi S.zbk Y5) hr (Zc 0) (Za (Zx (Zc 1) Zi) (Za (Zx (Zc 1) Zi) Ze))))) (Zk (Z2 (Zp (Yf hu) (Zc 2) Zj) (Zk (Z9 (J7 (pr:=pr) (pl:=_) (Yi S.zbj Y5) hr (Zc 0) (Za (Zx (Zc 1) Zi) (Za (Zx (Zc 1) Zi) Ze))))) (Zk (Z9 (J7 (pr:=pr) (pl:=_) (Yi S.zbi Y5) hr (Zc 0) (Za (Zx (Zc 1) Zi) Ze)))))))))))))))))
abbrev Yw:Stmt:=Jp (top 22) 9
theorem Zb9:FnScope ["self","value","frame","mark"] ["self","value","frame"] (Zl Yw):=by walk_at "sc"
theorem Zfp:ZFK Pg w K mg base n "use_value" "Runner.use_value" Yw ["self","value","frame"] 24:=fun T S F=>Z8 F Zb9 rfl rfl rfl fun _ _ _ _ _ _ hr=>by
  have nd:=Zb9.nd
  have hu:=hu150 hr
  show SdB _ (Zm Yw) (Xv (wpc pr n))
  unfold Xv
  exact(Zk (Z2 (Zp (Yf hu) (Zx (Zc 2) Zi) Zj) (Zg (Zs (i:=3) nd (J7 (pr:=pr) (pl:=_) (Yi S.zaw Y5) hr (Zc 0) (Za (Zx (Zc 1) Zi) (Za (Zx (Zc 2) Zi) Ze))))
   (Zk (Jg (Zt T.zab Z1) (Zc 0) (Z0 S.za4 hr (by rfl) (Za (Zx (Zc 1) Zi) (Za (Z0j (Zx (Zc 1) Zi) (Zc 3)) Ze)))))) (Zk (Z2 (Zp (Yf hu) (Zx (Zc 2) Zi) Zj) (Zk (Jg (Zt T.zab Z1) (Zc 0) (Z0 S.zb6 hr (by rfl) (Za (Zc 1) (Za (Zx (Zc 2) Zi) Ze))))) (Zk (Z2 (Zp (Yf hu) (Zx (Zc 2) Zi) Zj) (Zk (Z9 (J7 (pr:=pr) (pl:=_) (Yi S.zae Y5) hr (Zc 0) (Za (Zx (Zc 2) Zi) (Za (Zo (Za Zj (Za (Zx (Zc 2) Zi) (Za (Zx (Zc 1) Zi) Ze)))) Ze))))) (Zk (Z2 (Zp (Yf hu) (Zx (Zc 2) Zi) Zj) (Zk (Jg (Zt T.zab Z1) (Zc 0) (Z0 S.zb2 hr (by rfl) (Za (Zx (Zc 2) Zi) (Za (Zx (Zc 2) Zi) (Za (Zx (Zc 1) Zi) Ze)))))) (Zk (Jg (Zt T.zab Z1) (Zc 0) (Zx (Zc 2) Zi)))))))))))
abbrev Jd:Stmt:=Jp (top 22) 10
theorem Zda:FnScope ["self","term","frame"] ["self","term","frame"] (Zl Jd):=by walk_at "sc"
theorem Zg8:ZFK Pg w K mg base n "go_into" "Runner.go_into" Jd ["self","term","frame"] 25:=fun T S F=>Z8 F Zda rfl rfl rfl fun _ _ _ _ _ _ hr=>by
  show SdB _ (Zm Jd) (Zam (wpc pr n))
  unfold Zam
  exact(Zg (Z9 (d_mt XZ YB YA Ja Zah (Y7 (Zt T.zah Z1) (Zc 0)) (Za (Zc 2) Ze)))
   (Zk (Jg (Zt T.zab Z1) (Zc 0) (Zc 1))))
abbrev Yq:Stmt:=Jp (top 22) 11
theorem Zb2:FnScope ["self"] ["self"] (Zl Yq):=by walk_at "sc"
theorem Ze1:ZFK Pg w K mg base n "take_frame" "Runner.take_frame" Yq ["self"] 26:=fun T S F=>Z8 F Zb2 rfl rfl rfl fun _ _ _ _ _ _ hr=>by
  show SdB _ (Zm Yq) (Xo (wpc pr n))
  unfold Xo
  exact(Zk (Zr (Zkd XZ PySem.F.slot_list_pop PySem.F.type_list_pop Ja Zju (Y7 (Zt T.zah Z1) (Zc 0)))))
abbrev J3:Stmt:=Jp (top 22) 12
theorem Zex:FnScope ["self","pairs","body","marks","name","text"] ["self","pairs","body"] (Zl J3):=by walk_at "sc"
theorem Zjr:ZFK Pg w K mg base n "bind" "Runner.bind" J3 ["self","pairs","body"] 27:=fun T S F=>Z8 F Zex rfl rfl rfl fun _ _ _ _ _ _ hr=>by
  have nd:=Zex.nd
  have hu:=hu150 hr
  show SdB _ (Zm J3) (Zbx (wpc pr n))
  unfold Zbx
  exact(Zg (Zs (i:=3) nd Znp)
   (Zg (Zc1 PassesOwn.never rfl (Zai (Zc 1)) (Zkb (n:=2) rfl (Za0 (Jw (i:=4) nd) (Za0 (Jw (i:=5) nd) Zkc)) (Y0 (Y0 Zd8)))
   (Zk (Zrf (J7 (pr:=pr) (pl:=_) (Yi S.za0 Y5) hr (Zc 0) (Za (Zc 4) Ze)) (Zsj hu (Zc 3) (Zc 4)))))
   (Zg (Zc1 PassesOwn.never rfl (Zai (Zc 1)) (Zkb (n:=2) rfl (Za0 (Jw (i:=4) nd) (Za0 (Jw (i:=5) nd) Zkc)) (Y0 (Y0 Zd8)))
   (Zk (Z9 (J7 (pr:=pr) (pl:=_) (Yi S.za1 Y5) hr (Zc 0) (Za (Zx (Zxh hu (Zc 3) (Zc 4) (fun _ _=>rfl)) Zi) (Za (Z0 S.za4 hr (by rfl) (Za (Zc 5) (Za (Zc 3) Ze))) Ze))))))
   (Zk (Jg (Zt T.zab Z1) (Zc 0) (Z0 S.za4 hr (by rfl) (Za (Zc 2) (Za (Zc 3) Ze))))))))
abbrev J1:Stmt:=Jp (top 22) 13
theorem Zev:FnScope ["self","shape","given","marks","place","part"] ["self","shape","given"] (Zl J1):=by walk_at "sc"
theorem Zjp:ZFK Pg w K mg base n "make" "Runner.make" J1 ["self","shape","given"] 28:=fun T S F=>Z8 F Zev rfl rfl rfl fun _ _ _ _ _ _ hr=>by
  have nd:=Zev.nd
  have hu:=hu150 hr
  show SdB _ (Zm J1) (Zbv (wpc pr n))
  unfold Zbv Zbj Zds
  exact(Zg (Z2 (Zp (Yf hu) (Zc 1) Zj) (Zk (Jg (Zt T.zal Z1) (Zc 0) (Z4 Zaw (Y7 (Zt T.zal Z1) (Zc 0)) Zi))) Zz)
   (Zg (Zs (i:=3) nd (Jk Ze))
   (Zg (Zc1 PassesOwn.never rfl (Z39 (by rfl) T.zbx (Za (Zc 2) Ze)) (Zkb (n:=2) rfl (Za0 (Jw (i:=4) nd) (Za0 (Jw (i:=5) nd) Zkc)) (Y0 (Y0 Zd8)))
   (Zk (Z9 (d_mt XZ YB YA Ja Zah (Zc 3) (Za (J7 (pr:=pr) (pl:=_) (Yi S.zaw Y5) hr (Zc 0) (Za (Zxj (Zno (d_fv (Zc 1)) (Zno Zj (Zno (d_fv (Zc 4)) Z37)))) (Za (Zc 5) Ze))) Ze)))))
   (Zk (Jg (Zt T.zab Z1) (Zc 0) (Zo (Za Zj (Za (Zc 1) (Za (d_ty Zhq (by rfl) T.zan Zb6 (Za (Zc 3) Ze)) Ze)))))))))
abbrev Y3:Stmt:=Jp (top 22) 14
theorem Zcv:FnScope ["self","label","text","mark"] ["self","label","text"] (Zl Y3):=by walk_at "sc"
theorem Zgg:ZFK Pg w K mg base n "mark_for" "Runner.mark_for" Y3 ["self","label","text"] 29:=fun T S F=>Z8 F Zcv rfl rfl rfl fun _ _ _ _ _ _ hr=>by
  have nd:=Zcv.nd
  show SdB _ (Zm Y3) (Zab (wpc pr n))
  unfold Zab
  exact(Zg (Z2 (Zat (Z0 S.zb3 hr (by rfl) (Za (Zc 2) Ze))) (Zk (Zr (Zc 2))) Zz)
   (Zg (Zs (i:=3) nd (J7 (pr:=pr) (pl:=_) (Yi S.za0 Y5) hr (Zc 0) (Za (Zc 1) Ze)))
   (Zg (Z9 (J7 (pr:=pr) (pl:=_) (Yi S.za1 Y5) hr (Zc 0) (Za (Zx (Zc 3) Zi) (Za (Zc 2) Ze))))
   (Zk (Zr (Zc 3))))))
abbrev J4:Stmt:=Jp (top 22) 15
theorem Zey:FnScope ["self","label","number"] ["self","label"] (Zl J4):=by walk_at "sc"
theorem Zjs:ZFK Pg w K mg base n "bear" "Runner.bear" J4 ["self","label"] 30:=fun T S F=>Z8 F Zey rfl rfl rfl fun _ _ _ _ _ _ hr=>by
  have nd:=Zey.nd
  show SdB _ (Zm J4) (Zby (wpc pr n))
  unfold Zby
  exact(Zg (Zs (i:=2) nd (d_bi Zbh (by rfl) T.zaf PySem.boot_len (Za (Y7 (Zt T.zak Z1) (Zc 0)) Ze)))
   (Zg (Z9 (d_mt XZ YB YA Ja Zah (Y7 (Zt T.zak Z1) (Zc 0)) (Za (Zc 1) Ze)))
   (Zg (Z9 (J7 (pr:=pr) (pl:=_) (Yi S.zar Y5) hr (Zc 0) (Za Zj (Za (Zc 2) Ze))))
   (Zk (Zr (Zo (Za Zj (Za (Zc 2) Ze))))))))
abbrev J0:Stmt:=Jp (top 22) 16
theorem Zeu:FnScope ["self","event","number"] ["self","event","number"] (Zl J0):=by walk_at "sc"
theorem Zjo:ZFK Pg w K mg base n "note" "Runner.note" J0 ["self","event","number"] 31:=fun T S F=>Z8 F Zeu rfl rfl rfl fun _ _ _ _ _ _ hr=>by
  show SdB _ (Zm J0) (Zbu (wpc pr n))
  unfold Zbu
  exact(Zk (Z9 (d_mt XZ YB YA Ja Zah (Y7 (Zt T.zav Z1) (Zc 0)) (Za (Zo (Za (Zc 1) (Za (Zc 2) (Za (Zx (Y7 (Zt T.zak Z1) (Zc 0)) (Zc 2)) (Za (Y7 (Zt T.zag Z1) (Zc 0)) Ze))))) Ze))))
abbrev J2:Stmt:=Jp (top 22) 17
theorem Zew:FnScope ["self","number","text"] ["self","number","text"] (Zl J2):=by walk_at "sc"
theorem Zjq:ZFK Pg w K mg base n "keep" "Runner.keep" J2 ["self","number","text"] 32:=fun T S F=>Z8 F Zew rfl rfl rfl fun _ _ _ _ _ _ hr=>by
  have hu:=hu150 hr
  show SdB _ (Zm J2) (Zbw (wpc pr n))
  unfold Zbw
  exact(Zk (Zrf (Zc 2) (Zsj hu (Y7 (Zt T.zap Z1) (Zc 0)) (Zc 1))))
abbrev Jq:Stmt:=Jp (top 22) 18
theorem Zed:FnScope ["self","number"] ["self","number"] (Zl Jq):=by walk_at "sc"
theorem Zip:ZFK Pg w K mg base n "enter" "Runner.enter" Jq ["self","number"] 33:=fun T S F=>Z8 F Zed rfl rfl rfl fun _ _ _ _ _ _ hr=>by
  have hu:=hu150 hr
  show SdB _ (Zm Jq) (Zbc (wpc pr n))
  unfold Zbc
  exact(Zg (Z9 (J7 (pr:=pr) (pl:=_) (Yi S.zar Y5) hr (Zc 0) (Za Zj (Za (Zc 1) Ze))))
   (Zk (Z9 (J7 (pr:=pr) (pl:=_) (Yi S.zae Y5) hr (Zc 0) (Za (Zxh hu (Y7 (Zt T.zap Z1) (Zc 0)) (Zc 1) (fun _ _=>rfl)) (Za (Zo (Za Zj (Za (Zc 1) Ze))) Ze))))))
abbrev Yz:Stmt:=Jp (top 22) 19
theorem Zcc:FnScope ["self","number"] ["self","number"] (Zl Yz):=by walk_at "sc"
theorem Zfs:ZFK Pg w K mg base n "come_back" "Runner.come_back" Yz ["self","number"] 34:=fun T S F=>Z8 F Zcc rfl rfl rfl fun _ _ _ _ _ _ hr=>by
  show SdB _ (Zm Yz) (Xy (wpc pr n))
  unfold Xy
  exact(Zk (Z9 (J7 (pr:=pr) (pl:=_) (Yi S.zar Y5) hr (Zc 0) (Za Zj (Za (Zc 1) Ze)))))
abbrev X0:Stmt:=top 23
theorem Zgw:FnScope ["value","depth","pieces","mark"] ["value","depth"] (Zl X0):=by walk_at "sc"
theorem Zms:ZFK Pg w K mg base n "pieces_of" "pieces_of" X0 ["value","depth"] 35:=fun T S F=>Z8 F Zgw rfl rfl rfl fun _ _ _ _ _ _ hr=>by
  have nd:=Zgw.nd
  have hu:=hu150 hr
  show SdB _ (Zm X0) (Zc2 (wpc pr n))
  unfold Zc2
  exact(Zg (Z2 (Zp (Yf hu) (Zx (Zc 0) Zi) Zj) (Zk (Zr (Jk (Za (d_ty Zrj (by rfl) T.zaz Zib (Za (Zx (Zc 0) Zi) Ze)) Ze)))) Zz)
   (Zg (Z2 (Zp (Yf hu) (Zx (Zc 0) Zi) Zj) (Zk (Zr (Jk (Za Zj Ze)))) Zz)
   (Zg (Z2 (Zp (Yf hu) (Zx (Zc 0) Zi) (Zo Ze)) (Zk (Zr (Jk (Za (Zx (Zc 0) Zi) Ze)))) Zz)
   (Zg (Zs (i:=2) nd (Jk (Za (Z4 Zaw Zj (Zx (Zc 0) Zi)) Ze)))
   (Zg (Zc1 PassesOwn.never rfl (Zai (Zx (Zc 0) Zi)) (Jw (i:=3) nd)
   (Zk (Z9 (d_mt XZ PySem.F.slot_list_extend PySem.F.type_list_extend Ja Zo9 (Zc 2) (Za (Jk (Za Zj (Za (Zo (Za (Zc 1) (Za (Zc 3) Ze))) Ze))) Ze)))))
   (Zk (Zr (Z4 Zaw (Zc 2) (Jk (Za Zj Ze))))))))))
abbrev Zdm:Stmt:=top 25
theorem Zu0:FnScope ["term","depth","most"] ["term","depth","most"] (Zl Zdm):=by walk_at "sc"
theorem Z28 (T:Txt w K mg)(S:Cs Pg w K mg base n)(F:FunD K "run" "run" Zdm f fd):FnOk Pg w K mg base CX0 (n+1) f fd ["term","depth","most"] (spW K pr (n+1) 36):=Z34 F Zu0 rfl rfl rfl fun cdv A outer s H E hr=>by
  show SdB _ (Zm Zdm) (Zrn (wpc pr n))
  unfold Zrn
  exact(Zk (Zr (J7 (pr:=pr) (pl:=_) (Yi S.zbu Y5) hr (d_new S.zb8 hr (by rfl) (Za (Zc 0) (Za (Zc 1) Ze))) (Za (Zc 2) Ze))))
abbrev Xi:Stmt:=top 27
theorem Zf0:FnScope ["_law_script","_law_many","_law_found","_law_k","_law_cell"] ["_law_script","_law_many"] (Zl Xi):=by walk_at "sc"
theorem Zkz:ZFK Pg w K mg base n "_law_draws" "_law_draws" Xi ["_law_script","_law_many"] 37:=fun T S F=>Z8 F Zf0 rfl rfl rfl fun _ _ _ _ _ _ hr=>by
  have nd:=Zf0.nd
  show SdB _ (Zm Xi) (Zbb (wpc pr n))
  unfold Zbb
  exact(Zg (Zs (i:=2) nd (Jk Ze))
   (Zg (Zc1 PassesOwn.never rfl (Zxf (by rfl) T.za3 (Za (Zc 1) Ze)) (Jw (i:=3) nd)
   (Zg (Zs (i:=4) nd Zi)
   (Zg (Z2 (Zp o_gt (d_bi Zbh (by rfl) T.zaf PySem.boot_len (Za (Zc 0) Ze)) Zi) (Zk (Zs (i:=4) nd (Z4 Ys (Zx (Zc 0) (Z4 Ys (Zc 3) (d_bi Zbh (by rfl) T.zaf PySem.boot_len (Za (Zc 0) Ze)))) (Z4 Zr1 Zi Zi)))) Zz)
   (Zk (Z9 (d_mt XZ YB YA Ja Zah (Zc 2) (Za (Z4 Zaw (Zc 4) (Z4 Zox Zi (Z4 Xt (Zc 3) (d_bi (b_max rfl) (by rfl) T.zcd Z4g (Za Zi (Za (d_bi Zbh (by rfl) T.zaf PySem.boot_len (Za (Zc 0) Ze)) Ze)))))) Ze)))))))
   (Zk (Zr (Zc 2)))))
abbrev X3:Stmt:=top 28
theorem Zgz:FnScope ["_law_draws_here","_law_pool_here","_law_signs","_law_k","_law_draw","_law_name","_law_j"] ["_law_draws_here"] (Zl X3):=by walk_at "sc"
theorem Zmw:ZFK Pg w K mg base n "_law_pool" "_law_pool" X3 ["_law_draws_here"] 38:=fun T S F=>Z8 F Zgz rfl rfl rfl fun _ _ _ _ _ _ hr=>by
  have nd:=Zgz.nd
  have hu:=hu150 hr
  show SdB _ (Zm X3) (Zc4 (wpc pr n))
  unfold Zc4
  exact(Zg (Zs (i:=1) nd (Jk Ze))
   (Zg (Zs (i:=2) nd Zj)
   (Zg (Zc1 PassesOwn.never rfl (Zxf (by rfl) T.za3 (Za Zi Ze)) (Jw (i:=3) nd)
   (Zg (Zs (i:=4) nd (Zkd XZ PySem.F.slot_list_pop PySem.F.type_list_pop Ja Zju (Zc 0)))
   (Zg (Zs (i:=5) nd (Z4 Zaw (Zx Zj (Z4 Ys (Zc 3) Zi)) (Zx (Zc 2) (Z4 Ys (Zc 4) Zi))))
   (Zg (Zc1 PassesOwn.never rfl (Zxf (by rfl) T.za3 (Za (Z4 Ys (Z4 Xt (Zc 4) Zi) Zi) Ze)) (Jw (i:=6) nd)
   (Zk (Zs (i:=5) nd (Z4 Zaw (Zc 5) (Zx (Zc 2) (Z4 Ys (Z4 Zaw (Z4 Xt (Zc 4) Zi) (Z4 Zox (Z4 Zox Zi (Zc 6)) (Zc 6))) Zi))))))
   (Zg (Z2 (dt_w (Za7 (Zp (o_in hu) (Zc 5) (Zc 1) (by rfl)) (Zbp (Zp (Yf hu) (Zc 5) Zj)))) (Zk (Zs (i:=5) nd (Z4 Zaw Zj (d_ty Zrj (by rfl) T.zaz Zib (Za (Zc 3) Ze))))) Zz)
   (Zk (Z9 (d_mt XZ YB YA Ja Zah (Zc 1) (Za (Zc 5) Ze)))))))))
   (Zk (Zr (Zc 1))))))
abbrev Yv:Stmt:=top 29
theorem Zb8:FnScope ["_law_k","_law_nil","_law_some"] ["_law_k"] (Zl Yv):=by walk_at "sc"
theorem Zfo:ZFK Pg w K mg base n "_law_ill_matched" "_law_ill_matched" Yv ["_law_k"] 39:=fun T S F=>Z8 F Zb8 rfl rfl rfl fun _ _ _ _ _ _ hr=>by
  have nd:=Zb8.nd
  show SdB _ (Zm Yv) (Xu (wpc pr n))
  unfold Xu
  exact(Zg (Zs (i:=1) nd (Zo (Za Zj (Za Zj (Za (Zo Ze) Ze)))))
   (Zg (Zs (i:=2) nd (Jk (Za (Zo (Za Zj (Za Zi Ze))) (Za (Zo (Za Zj (Za Zj (Za (Zo Ze) Ze)))) (Za (Zc 1) (Za (Zo (Za Zj (Za Zj (Za (Zo (Za Zj (Za Zj Ze))) Ze)))) Ze))))))
   (Zg (Zs (i:=2) nd (Z4 Zaw (Zc 2) (Jk (Za (Zo (Za Zj (Za Zj (Za (Zo (Za (Zo (Za Zj (Za Zi Ze))) (Za (Zc 1) Ze))) Ze)))) (Za (Zo (Za Zj (Za Zj (Za (Zo (Za (Zo (Za Zj (Za Zi Ze))) (Za (Zc 1) Ze))) Ze)))) Ze)))))
   (Zk (Zr (Zx (Zc 2) (Zc 0)))))))
abbrev X4:Stmt:=top 30
theorem Zg0:FnScope ["_law_kind","_law_draw","_law_names","_law_mine","_law_nil","_law_one"] ["_law_kind","_law_draw","_law_names"] (Zl X4):=by walk_at "sc"
theorem Zmx:ZFK Pg w K mg base n "_law_leaf" "_law_leaf" X4 ["_law_kind","_law_draw","_law_names"] 40:=fun T S F=>Z8 F Zg0 rfl rfl rfl fun _ _ _ _ _ _ hr=>by
  have nd:=Zg0.nd
  have hu:=hu150 hr
  show SdB _ (Zm X4) (Zc5 (wpc pr n))
  unfold Zc5 Zcr Zcs Zem Zct Zen Zeo Zep Zeq
  exact(Zg (Zj9 (k:=3) (cN:=["_law_pair","_law_kind"]) (cap:=[none,some 0]) (cl:=(Zbg _ _ [])) (js:=[0]) (g:=(Zax 0)) nd rfl rfl rfl ⟨rfl,(fun ok=>Zfi ok rfl (by decide+kernel) (by decide+kernel) rfl rfl rfl),(Zai (Zc 2)),(fun _ _ _=>Xb (i:=0) (show(["_law_pair","_law_kind"]:List Str).Nodup by decide+kernel) rfl (Or.inl rfl)),Yj,Xq,J8,by decide+kernel,fun _ _ _=>(Ziz (Zp (Yf hu) (Zx (Zc 0) Zi) (Zc 1))),fun _ _ _=>(Zx (Zc 0) Zi),fun _=>rfl⟩)
   (Zg (Z2 (dt_w (Ze7 (Zp o_gt (d_bi Zbh (by rfl) T.zaf PySem.boot_len (Za (Zc 3) Ze)) Zi) (Zd9 (Zp o_gt (Z4 Ys (Zc 1) Zi) Zi)))) (Zk (Zr (Zo (Za Zj (Za (Zx (Zc 3) (Z4 Ys (Z4 Xt (Zc 1) Zi) (d_bi Zbh (by rfl) T.zaf PySem.boot_len (Za (Zc 3) Ze)))) Ze))))) Zz)
   (Zg (Z2 (dt_w (Ze7 (Zp (Yf hu) (Z4 Ys (Zc 1) Zi) Zi) (Ze7 (Zp (Yf hu) (Z4 Ys (Z4 Xt (Zc 1) Zi) Zi) Zi) (Zd9 (Zp o_gt (d_bi Zbh (by rfl) T.zaf PySem.boot_len (Za (Zc 2) Ze)) Zi))))) (Zk (Zr (Zo (Za Zj (Za (Zx (Zx (Zc 2) (Z4 Ys (Z4 Xt (Zc 1) Zi) (d_bi Zbh (by rfl) T.zaf PySem.boot_len (Za (Zc 2) Ze)))) Zi) Ze))))) Zz)
   (Zg (Z2 (Zp (Yf hu) (Z4 Ys (Zc 1) Zi) Zi) (Zk (Zr (Zo (Za Zj (Za (Z4 Zaw Zj (d_ty Zrj (by rfl) T.zaz Zib (Za (Z4 Ys (Z4 Xt (Zc 1) Zi) Zi) Ze))) Ze))))) Zz)
   (Zg (Z2 (Zj8 o_lt o_lt Zi (Z4 Ys (Zc 1) Zi) Zi) (Zk (Zr (Z0 S.za9 hr (by rfl) (Za (Z4 Xr (Z4 Ys (Zc 1) Zi) Zi) Ze)))) Zz)
   (Zg (Z2 (Zp (Yf hu) (Zc 0) Zj) (Zk (Zr (Zo (Za Zj (Za (Zx (Jk (Za (Z4 Ys (Z4 Xt (Zc 1) Zi) Zi) (Za (Z4 Ys (Z4 Zox (Zc 1) Zi) (Z4 Zr1 Zi Zi)) Ze))) (Z4 Ys (Z4 Xt (Zc 1) Zi) Zi)) Ze))))) Zz)
   (Zg (Z2 (Zp (Yf hu) (Zc 0) Zj) (Zk (Zr (Zo (Za Zj (Za (Zx (Jk (Za Zj (Za Zj Ze))) (Z4 Ys (Z4 Xt (Zc 1) Zi) Zi)) (Za (Zo Ze) Ze)))))) Zz)
   (Zg (Z2 (Zp (Yf hu) (Zc 0) Zj) (Zk (Zr (Zo (Za Zj (Za Zj (Za (Zo (Za Zj (Za (Zx Zj (Z4 Ys (Z4 Xt (Zc 1) Zi) Zi)) (Za (Zo (Za Zj (Za (Z4 Ys (Z4 Xt (Zc 1) Zi) Zi) Ze))) (Za (Zo (Za Zj (Za Zj Ze))) Ze))))) Ze)))))) Zz)
   (Zg (Zs (i:=4) nd (Zo (Za Zj (Za Zj (Za (Zo Ze) Ze)))))
   (Zg (Z2 (Zp (Yf hu) (Zc 0) Zj) (Zk (Zr (Zo (Za Zj (Za Zj (Za (Zo (Za (Zo (Za Zj (Za (Z4 Ys (Zc 1) (Z4 Zr1 Zi Zi)) Ze))) (Za (Zc 4) Ze))) Ze)))))) Zz)
   (Zg (Zs (i:=5) nd (Zo (Za Zj (Za Zj (Za (Zo (Za (Zo (Za Zj (Za (Z4 Ys (Z4 Xt (Zc 1) Zi) Zi) Ze))) (Za (Zc 4) Ze))) Ze)))))
   (Zk (Zr (Zx (Jk (Za (Zc 4) (Za (Zc 5) (Za (Zo (Za Zj (Za Zj (Za (Zo (Za (Zo (Za Zj (Za (Z4 Ys (Z4 Xt (Zc 1) Zi) Zi) Ze))) (Za (Zc 5) Ze))) Ze)))) Ze)))) (Z4 Ys (Z4 Xt (Zc 1) Zi) Zi)))))))))))))))
abbrev Xj:Stmt:=top 31
theorem Zf1:FnScope ["_law_names","_law_name","_law_kind"] ["_law_names","_law_name","_law_kind"] (Zl Xj):=by walk_at "sc"
theorem Zk0:ZFK Pg w K mg base n "_law_bound" "_law_bound" Xj ["_law_names","_law_name","_law_kind"] 41:=fun T S F=>Z8 F Zf1 rfl rfl rfl fun _ _ _ _ _ _ hr=>by
  have hu:=hu150 hr
  show SdB _ (Zm Xj) (Zcg (wpc pr n))
  unfold Zcg
  exact(Zk (Zr (Z4 Zaw (Zeb (cN:=["_law_pair","_law_name"]) (cap:=[none,some 1]) (cl:=(Zbg _ _ [])) (js:=[0]) (g:=(Zax 0)) ⟨rfl,(fun ok=>Zfi ok rfl (by decide+kernel) (by decide+kernel) rfl rfl rfl),(Zai (Zc 0)),(fun _ _ _=>Xb (i:=0) (show(["_law_pair","_law_name"]:List Str).Nodup by decide+kernel) rfl (Or.inl rfl)),Yj,Xq,J8,by decide+kernel,fun _ _ _=>(Ziz (Zp (o_ne hu) (Zx (Zc 0) Zi) (Zc 1))),fun _ _ _=>(Zc 0),fun _=>rfl⟩) (Jk (Za (Zo (Za (Zc 1) (Za (Zc 2) Ze))) Ze)))))
abbrev Zag:Stmt:=top 32
theorem Zig:FnScope ["_law_kind","_law_draw","_law_draws_here","_law_names","_law_pool_here","_law_deep","_law_one","_law_other","_law_name"] ["_law_kind","_law_draw","_law_draws_here","_law_names","_law_pool_here","_law_deep"] (Zl Zag):=by walk_at "sc"
theorem Zow:ZFK Pg w K mg base n "_law_own" "_law_own" Zag ["_law_kind","_law_draw","_law_draws_here","_law_names","_law_pool_here","_law_deep"] 42:=fun T S F=>Z8 F Zig rfl rfl rfl fun _ _ _ _ _ _ hr=>by
  have nd:=Zig.nd
  have hu:=hu150 hr
  show SdB _ (Zm Zag) (Zd4 (wpc pr n))
  unfold Zd4 Zdh Zdi Zdj Zdk Zdl
  exact(Zg (Z2 (dt_w (Ze7 (Zp (Yf hu) (Zc 0) Zj) (Zd9 (Zp (Yf hu) (Z4 Ys (Zc 1) Zi) Zi)))) (Zg (Zs (i:=6) nd (Z0 S.zaa hr (by rfl) (Za Zj (Za (Zc 2) (Za (Zc 3) (Za (Zc 4) (Za (Z4 Xr (Zc 5) Zi) Ze)))))))
   (Zk (Zr (Zo (Za Zj (Za (Zc 6) (Za (Z0 S.zaa hr (by rfl) (Za Zj (Za (Zc 2) (Za (Zc 3) (Za (Zc 4) (Za (Z4 Xr (Zc 5) Zi) Ze)))))) Ze))))))) Zz)
   (Zg (Z2 (Zp (o_in hu) (Zc 0) Zj (by rfl)) (Zg (Zs (i:=6) nd (Z0 S.zaa hr (by rfl) (Za Zj (Za (Zc 2) (Za (Zc 3) (Za (Zc 4) (Za (Z4 Xr (Zc 5) Zi) Ze)))))))
   (Zg (Zs (i:=7) nd (Z0 S.zaa hr (by rfl) (Za Zj (Za (Zc 2) (Za (Zc 3) (Za (Zc 4) (Za (Z4 Xr (Zc 5) Zi) Ze)))))))
   (Zg (Z2 (Zp (Yf hu) (Zc 0) Zj) (Zk (Zr (Zo (Za Zj (Za (Zx Zj (Z4 Ys (Z4 Xt (Zc 1) Zi) Zi)) (Za (Zc 6) (Za (Zc 7) Ze))))))) Zz)
   (Zk (Zr (Zo (Za Zj (Za (Zx Zj (Z4 Ys (Z4 Xt (Zc 1) Zi) Zi)) (Za (Zc 6) (Za (Zc 7) Ze)))))))))) Zz)
   (Zg (Z2 (Zp (Yf hu) (Zc 0) Zj) (Zg (Zs (i:=8) nd (Zx (Zc 4) (Z4 Ys (Zc 1) (d_bi Zbh (by rfl) T.zaf PySem.boot_len (Za (Zc 4) Ze)))))
   (Zk (Zr (Zo (Za Zj (Za (Zc 8) (Za (Z0 S.zaa hr (by rfl) (Za Zj (Za (Zc 2) (Za (Z0 S.zai hr (by rfl) (Za (Zc 3) (Za (Zc 8) (Za Zj Ze)))) (Za (Zc 4) (Za (Z4 Xr (Zc 5) Zi) Ze)))))) Ze))))))) Zz)
   (Zg (Z2 (dt_w (Ze7 (Zp (Yf hu) (Zc 0) Zj) (Zd9 (Zp (Yf hu) (Z4 Ys (Zc 1) Zi) Zi)))) (Zk (Zr (Zo (Za Zj (Za (Zo (Za Zj (Za Zj Ze))) (Za (Z0 S.zaa hr (by rfl) (Za Zj (Za (Zc 2) (Za (Zc 3) (Za (Zc 4) (Za (Z4 Xr (Zc 5) Zi) Ze)))))) Ze)))))) Zz)
   (Zg (Z2 (dt_w (Ze7 (Zp (Yf hu) (Zc 0) Zj) (Zd9 (Zp (Yf hu) (Z4 Ys (Zc 1) Zi) Zi)))) (Zg (Zs (i:=6) nd (Z0 S.zaa hr (by rfl) (Za Zj (Za (Zc 2) (Za (Zc 3) (Za (Zc 4) (Za (Z4 Xr (Zc 5) Zi) Ze)))))))
   (Zk (Zr (Zo (Za Zj (Za (Zo (Za Zj (Za (Zo (Za Zj (Za Zj Ze))) (Za (Zc 6) Ze)))) (Za (Z0 S.zaa hr (by rfl) (Za Zj (Za (Zc 2) (Za (Zc 3) (Za (Zc 4) (Za (Z4 Xr (Zc 5) Zi) Ze)))))) Ze))))))) Zz)
   (Zg (Zs (i:=6) nd (Z0 S.zaa hr (by rfl) (Za Zj (Za (Zc 2) (Za (Zc 3) (Za (Zc 4) (Za (Z4 Xr (Zc 5) Zi) Ze)))))))
   (Zk (Zr (Zo (Za Zj (Za (Zx (Jk (Za Zj (Za Zj Ze))) (d_ty b_int (by rfl) T.zbz Zxr (Za (Zce (Yf hu) (Zc 0) Zj (Zbe _)) Ze))) (Za (Zo (Za (Zc 6) (Za (Z0 S.zaa hr (by rfl) (Za Zj (Za (Zc 2) (Za (Zc 3) (Za (Zc 4) (Za (Z4 Xr (Zc 5) Zi) Ze)))))) Ze))) Ze))))))))))))
abbrev Jz:Stmt:=top 33
theorem Zet:FnScope ["_law_kind","_law_draw","_law_draws_here","_law_names","_law_pool_here","_law_deep","_law_one","_law_no","_law_head","_law_tail","_law_inner","_law_body"] ["_law_kind","_law_draw","_law_draws_here","_law_names","_law_pool_here","_law_deep"] (Zl Jz):=by walk_at "sc"
theorem Zjn:ZFK Pg w K mg base n "_law_choice" "_law_choice" Jz ["_law_kind","_law_draw","_law_draws_here","_law_names","_law_pool_here","_law_deep"] 43:=fun T S F=>Z8 F Zet rfl rfl rfl fun _ _ _ _ _ _ hr=>by
  have nd:=Zet.nd
  have hu:=hu150 hr
  show SdB _ (Zm Jz) (Zbt (wpc pr n))
  unfold Zbt Zdq Zdr
  exact(Zg (Z2 (Zp (Yf hu) (Z4 Ys (Zc 1) Zi) Zi) (Zg (Zs (i:=6) nd (Z0 S.zaa hr (by rfl) (Za Zj (Za (Zc 2) (Za (Zc 3) (Za (Zc 4) (Za (Z4 Xr (Zc 5) Zi) Ze)))))))
   (Zg (Zs (i:=7) nd (Z0 S.zaa hr (by rfl) (Za (Zc 0) (Za (Zc 2) (Za (Zc 3) (Za (Zc 4) (Za (Z4 Xr (Zc 5) Zi) Ze)))))))
   (Zk (Zr (Zo (Za Zj (Za (Zc 6) (Za (Zo (Za (Zo (Za Zj (Za (Zo Ze) (Za (Zc 7) Ze)))) (Za (Zo (Za Zj (Za (Zo Ze) (Za (Z0 S.zaa hr (by rfl) (Za (Zc 0) (Za (Zc 2) (Za (Zc 3) (Za (Zc 4) (Za (Z4 Xr (Zc 5) Zi) Ze)))))) Ze)))) Ze))) Ze)))))))) Zz)
   (Zg (Zs (i:=8) nd (Zx (Zc 4) (Z4 Ys (Z4 Xt (Zc 1) Zi) (d_bi Zbh (by rfl) T.zaf PySem.boot_len (Za (Zc 4) Ze)))))
   (Zg (Zs (i:=9) nd (Zx (Zeb (cN:=["_law_name","_law_head"]) (cap:=[none,some 8]) (cl:=(Zbg _ _ [])) (js:=[0]) (g:=(Zax 0)) ⟨rfl,(fun ok=>Zfi ok rfl (by decide+kernel) (by decide+kernel) rfl rfl rfl),(Zai (Zc 4)),(fun _ _ _=>Xb (i:=0) (show(["_law_name","_law_head"]:List Str).Nodup by decide+kernel) rfl (Or.inl rfl)),Yj,Xq,J8,by decide+kernel,fun _ _ _=>(Ziz (Zp (o_ne hu) (Zc 0) (Zc 1))),fun _ _ _=>(Zc 0),fun _=>rfl⟩) Zi))
   (Zg (Zs (i:=6) nd (Z0 S.zaa hr (by rfl) (Za (Zx Zj (Z4 Xr (Z4 Ys (Zc 1) Zi) Zi)) (Za (Zc 2) (Za (Zc 3) (Za (Zc 4) (Za (Z4 Xr (Zc 5) Zi) Ze)))))))
   (Zg (Zs (i:=10) nd (Z0 S.zai hr (by rfl) (Za (Z0 S.zai hr (by rfl) (Za (Zc 3) (Za (Zc 8) (Za Zj Ze)))) (Za (Zc 9) (Za Zj Ze)))))
   (Zg (Zs (i:=11) nd (Z0 S.zaa hr (by rfl) (Za (Zc 0) (Za (Zc 2) (Za (Zc 10) (Za (Zc 4) (Za (Z4 Xr (Zc 5) Zi) Ze)))))))
   (Zg (Z2 (Zp (Yf hu) (Z4 Ys (Zc 1) Zi) Zi) (Zk (Zr (Zo (Za Zj (Za (Zc 6) (Za (Zo (Za (Zo (Za Zj (Za (Zo (Za (Zc 8) (Za (Zc 9) Ze))) (Za (Zc 11) Ze)))) Ze)) Ze)))))) Zz)
   (Zk (Zr (Zo (Za Zj (Za (Zc 6) (Za (Zo (Za (Zo (Za Zj (Za (Zo Ze) (Za (Z0 S.za2 hr (by rfl) (Za (Zc 0) (Za (Z4 Xt (Zc 1) Zi) (Za (Zc 3) Ze)))) Ze)))) (Za (Zo (Za Zj (Za (Zo (Za (Zc 8) (Za (Zc 9) Ze))) (Za (Zc 11) Ze)))) Ze))) Ze)))))))))))))
abbrev X1:Stmt:=top 34
theorem Zgx:FnScope ["_law_kind","_law_draws_here","_law_names","_law_pool_here","_law_deep","_law_draw","_law_way","_law_other","_law_one","_law_name","_law_inner","_law_rest","_law_pairs"] ["_law_kind","_law_draws_here","_law_names","_law_pool_here","_law_deep"] (Zl X1):=by walk_at "sc"
theorem Zmu:ZFK Pg w K mg base n "_law_term" "_law_term" X1 ["_law_kind","_law_draws_here","_law_names","_law_pool_here","_law_deep"] 44:=fun T S F=>Z8 F Zgx rfl rfl rfl fun _ _ _ _ _ _ hr=>by
  have nd:=Zgx.nd
  have hu:=hu150 hr
  show SdB _ (Zm X1) (Zb0 (wpc pr n))
  unfold Zb0 Zco Zeg Zeh Zei Zej Zek Zcp Zcq
  exact(Zg (Zs (i:=5) nd Zi)
   (Zg (Z2 (Zp o_gt (d_bi Zbh (by rfl) T.zaf PySem.boot_len (Za (Zc 1) Ze)) Zi) (Zk (Zs (i:=5) nd (d_mt XZ PySem.F.slot_list_pop PySem.F.type_list_pop Ja Zzs (Zc 1) (Za Zi Ze)))) Zz)
   (Zg (Z2 (dt_w (Za7 (Zp (Yf hu) (Zc 4) Zi) (Za7 (Zp (Yf hu) (d_bi Zbh (by rfl) T.zaf PySem.boot_len (Za (Zc 1) Ze)) Zi) (Zbp (Zp (Yf hu) (Z4 Ys (Zc 5) Zi) Zi))))) (Zk (Zr (Z0 S.za2 hr (by rfl) (Za (Zc 0) (Za (Z4 Xt (Zc 5) Zi) (Za (Zc 2) Ze)))))) Zz)
   (Zg (Zs (i:=6) nd (Z4 Ys (Zc 5) Zi))
   (Zg (Zs (i:=5) nd (Z4 Xt (Zc 5) Zi))
   (Zg (Z2 (Zp o_lt (Zc 6) Zi) (Zk (Zr (Z0 S.zb1 hr (by rfl) (Za (Zc 0) (Za (Zc 5) (Za (Zc 1) (Za (Zc 2) (Za (Zc 3) (Za (Zc 4) Ze))))))))) Zz)
   (Zg (Z2 (Zp (Yf hu) (Zc 6) Zi) (Zk (Zr (Z0 S.zbm hr (by rfl) (Za (Zc 0) (Za (Zc 5) (Za (Zc 1) (Za (Zc 2) (Za (Zc 3) (Za (Zc 4) Ze))))))))) Zz)
   (Zg (Zs (i:=7) nd (Zx Zj (Z4 Ys (Zc 5) Zi)))
   (Zg (Z2 (Zp (Yf hu) (Zc 6) Zi) (Zg (Zs (i:=8) nd (Z0 S.zaa hr (by rfl) (Za (Zc 7) (Za (Zc 1) (Za (Zc 2) (Za (Zc 3) (Za (Z4 Xr (Zc 4) Zi) Ze)))))))
   (Zk (Zr (Zo (Za Zj (Za (Zc 8) (Za (Z0 S.zaa hr (by rfl) (Za (Zc 0) (Za (Zc 1) (Za (Zc 2) (Za (Zc 3) (Za (Z4 Xr (Zc 4) Zi) Ze)))))) Ze))))))) Zz)
   (Zg (Zs (i:=9) nd (Zx (Zc 3) (Z4 Ys (Z4 Xt (Zc 5) Zi) (d_bi Zbh (by rfl) T.zaf PySem.boot_len (Za (Zc 3) Ze)))))
   (Zg (Zs (i:=10) nd (Z0 S.zai hr (by rfl) (Za (Zc 2) (Za (Zc 9) (Za (Zc 7) Ze)))))
   (Zg (Z2 (Zp (Yf hu) (Zc 6) Zi) (Zg (Zs (i:=8) nd (Z0 S.zaa hr (by rfl) (Za (Zc 7) (Za (Zc 1) (Za (Zc 2) (Za (Zc 3) (Za (Z4 Xr (Zc 4) Zi) Ze)))))))
   (Zk (Zr (Zo (Za Zj (Za (Zo (Za Zj (Za (Zc 9) (Za (Z0 S.zaa hr (by rfl) (Za (Zc 0) (Za (Zc 1) (Za (Zc 10) (Za (Zc 3) (Za (Z4 Xr (Zc 4) Zi) Ze)))))) Ze)))) (Za (Zc 8) Ze))))))) Zz)
   (Zg (Zj9 (k:=11) (cN:=["_law_one","_law_name"]) (cap:=[none,some 9]) (cl:=(Zbg _ _ [])) (js:=[0]) (g:=(Zax 0)) nd rfl rfl rfl ⟨rfl,(fun ok=>Zfi ok rfl (by decide+kernel) (by decide+kernel) rfl rfl rfl),(Zai (Zc 3)),(fun _ _ _=>Xb (i:=0) (show(["_law_one","_law_name"]:List Str).Nodup by decide+kernel) rfl (Or.inl rfl)),Yj,Xq,J8,by decide+kernel,fun _ _ _=>(Ziz (Zp (o_ne hu) (Zc 0) (Zc 1))),fun _ _ _=>(Zc 0),fun _=>rfl⟩)
   (Zg (Zs (i:=10) nd (Z0 S.zai hr (by rfl) (Za (Zc 10) (Za (Zx (Zc 11) Zi) (Za Zj Ze)))))
   (Zg (Z2 (Zp (Yf hu) (Z4 Ys (Z4 Xt (Zc 5) Zi) Zi) Zi) (Zk (Zs (i:=10) nd (Z0 S.zai hr (by rfl) (Za (Zc 10) (Za (Zx (Zc 11) Zi) (Za Zj Ze)))))) Zz)
   (Zg (Zs (i:=12) nd (Jk (Za (Zo (Za (Zc 9) (Za (Z0 S.zaa hr (by rfl) (Za (Zc 7) (Za (Zc 1) (Za (Zc 10) (Za (Zc 3) (Za (Z4 Xr (Zc 4) Zi) Ze)))))) Ze))) Ze)))
   (Zg (Z9 (d_mt XZ PySem.F.slot_list_insert PySem.F.type_list_insert Ja Zo8 (Zc 12) (Za (Z4 Ys (Z4 Xt (Zc 5) Zi) Zi) (Za (Zo (Za (Zx (Zc 11) Zi) (Za (Z0 S.zaa hr (by rfl) (Za Zj (Za (Zc 1) (Za (Zc 10) (Za (Zc 3) (Za (Z4 Xr (Zc 4) Zi) Ze)))))) Ze))) Ze))))
   (Zg (Z2 (Zp (Yf hu) (Z4 Ys (Z4 Xt (Zc 5) Zi) Zi) Zi) (Zk (Z9 (d_mt XZ PySem.F.slot_list_insert PySem.F.type_list_insert Ja Zo8 (Zc 12) (Za (Z4 Ys (Z4 Xt (Zc 5) Zi) Zi) (Za (Zo (Za (Zx (Zc 11) Zi) (Za (Z0 S.zaa hr (by rfl) (Za Zj (Za (Zc 1) (Za (Zc 10) (Za (Zc 3) (Za (Z4 Xr (Zc 4) Zi) Ze)))))) Ze))) Ze))))) Zz)
   (Zk (Zr (Zo (Za Zj (Za (d_ty Zhq (by rfl) T.zan Zb6 (Za (Zc 12) Ze)) (Za (Z0 S.zaa hr (by rfl) (Za (Zc 0) (Za (Zc 1) (Za (Zc 10) (Za (Zc 3) (Za (Z4 Xr (Zc 4) Zi) Ze)))))) Ze))))))))))))))))))))))))
abbrev X6:Stmt:=top 35
theorem Zg1:FnScope ["_law_go","_law_cell","_law_picks"] [] (Zl X6):=by walk_at "sc"
theorem Zmy:ZFK Pg w K mg base n "_law_each" "_law_each" X6 [] 45:=fun T S F=>Z8 F Zg1 rfl rfl rfl fun _ _ _ _ _ _ hr=>by
  have nd:=Zg1.nd
  show SdB _ (Zm X6) (Zc6 (wpc pr n))
  unfold Zc6
  exact(Zg (Zs (i:=0) nd (Zo (Za Zj (Za (Zo (Za Zj (Za (Zo (Za Zj (Za Zj Ze))) (Za (Zo (Za Zj (Za Zj Ze))) Ze)))) (Za (Zo (Za Zj (Za Zj Ze))) Ze)))))
   (Zg (Zs (i:=1) nd (Zo (Za Zj (Za Zj (Za (Zo (Za (Zo (Za Zj (Za (Zo (Za Zj (Za Zj Ze))) (Za (Zo (Za Zj (Za Zj Ze))) Ze)))) (Za (Zc 0) Ze))) Ze)))))
   (Zg (Zs (i:=2) nd (Zo (Za (Zo (Za Zj (Za (Zo Ze) (Za (Zo (Za Zj (Za Zj (Za (Zo Ze) Ze)))) Ze)))) (Za (Zo (Za Zj (Za (Zo (Za Zj (Za Zj Ze))) (Za (Zc 1) Ze)))) Ze))))
   (Zk (Zr (Zo (Za Zj (Za Zj (Za (Zo (Za Zj (Za Zj (Za (Zo (Za Zj (Za (Zo (Za Zj (Za Zj Ze))) (Za (Zc 2) Ze)))) Ze)))) Ze)))))))))
abbrev Jy:Stmt:=top 36
theorem Zes:FnScope ["_law_kind","_law_draws_here","_law_pool_here","_law_deep","_law_number_name","_law_list_name","_law_here","_law_more","_law_start","_law_one","_law_other","_law_pairs"] ["_law_kind","_law_draws_here","_law_pool_here","_law_deep"] (Zl Jy):=by walk_at "sc"
theorem Zjm:ZFK Pg w K mg base n "_law_closed" "_law_closed" Jy ["_law_kind","_law_draws_here","_law_pool_here","_law_deep"] 46:=fun T S F=>Z8 F Zes rfl rfl rfl fun _ _ _ _ _ _ hr=>by
  have nd:=Zes.nd
  show SdB _ (Zm Jy) (Zbs (wpc pr n))
  unfold Zbs
  exact(Zg (Zs (i:=4) nd (Z4 Zaw (Z4 Zaw Zj (d_sl (Zx (Zc 2) Zi) (Zaz Zi) (Zaz Zi))) Zj))
   (Zg (Zs (i:=5) nd (Z4 Zaw (Z4 Zaw Zj (d_sl (Zx (Zc 2) Zi) (Zaz Zi) (Zaz Zi))) Zj))
   (Zg (Zs (i:=6) nd (Jk (Za (Zo (Za (Zc 4) (Za Zj Ze))) (Za (Zo (Za (Zc 5) (Za Zj Ze))) Ze))))
   (Zg (Zs (i:=7) nd (Zo (Za Zj (Za (Zo (Za Zj (Za Zj Ze))) (Za (Zo (Za Zj (Za Zj (Za (Zo (Za Zj (Za Zj Ze))) (Za (Zo (Za Zj (Za Zi Ze))) Ze))))) Ze)))))
   (Zg (Zs (i:=8) nd (Zo (Za Zj (Za Zj (Za (Zo (Za Zj (Za Zj (Za (Zo (Za (Zo (Za Zj (Za Zj Ze))) (Za (Zc 7) Ze))) Ze)))) Ze)))))
   (Zg (Zs (i:=9) nd (Z0 S.zaa hr (by rfl) (Za Zj (Za (d_sl (Zc 1) Zfh (Zaz Zi)) (Za (Zc 6) (Za (Zc 2) (Za Zi Ze)))))))
   (Zg (Zs (i:=10) nd (Z0 S.zaa hr (by rfl) (Za Zj (Za (d_sl (Zc 1) (Zaz Zi) (Zaz Zi)) (Za (Zc 6) (Za (Zc 2) (Za Zi Ze)))))))
   (Zg (Zs (i:=11) nd (Zo (Za (Zo (Za Zj (Za (Zc 8) Ze))) (Za (Zo (Za (Zc 4) (Za (Zc 9) Ze))) (Za (Zo (Za Zj (Za (Z0l S.zbv hr (by rfl)) Ze))) (Za (Zo (Za (Zc 5) (Za (Zc 10) Ze))) Ze))))))
   (Zk (Zr (Zo (Za Zj (Za (Zc 11) (Za (Z0 S.zaa hr (by rfl) (Za (Zc 0) (Za (d_sl (Zc 1) (Zaz Zi) Zfh) (Za (Zc 6) (Za (Zc 2) (Za (Zc 3) Ze)))))) Ze))))))))))))))
abbrev Xh:Stmt:=top 37
theorem Zfz:FnScope ["_law_found"] ["_law_found"] (Zl Xh):=by walk_at "sc"
theorem Zky:ZFK Pg w K mg base n "_law_whole" "_law_whole" Xh ["_law_found"] 47:=fun T S F=>Z8 F Zfz rfl rfl rfl fun _ _ _ _ _ _ hr=>by
  show SdB _ (Zm Xh) (Zcf (wpc pr n))
  unfold Zcf
  exact(Zk (Zr (Zxl (Zhm (by rfl) T.zad (by rfl) T.zbz Zxr (by decide) (Zc 0)) (Zxi (d_not (Zhm (by rfl) T.zad (by rfl) T.zca Z0q (by decide) (Zc 0)))))))
abbrev X2:Stmt:=top 38
theorem Zgy:FnScope ["_law_log","_law_most","_law_labels","_law_within","_law_last","_law_entered","_law_row","_law_event","_law_number","_law_label","_law_steps"] ["_law_log","_law_most"] (Zl X2):=by walk_at "sc"
theorem Zmv:ZFK Pg w K mg base n "_law_rows" "_law_rows" X2 ["_law_log","_law_most"] 48:=fun T S F=>Z8 F Zgy rfl rfl rfl fun _ _ _ _ _ _ hr=>by
  have nd:=Zgy.nd
  have hu:=hu150 hr
  show SdB _ (Zm X2) (Zc3 (wpc pr n))
  unfold Zc3 Zel
  exact(Zg (Zs (i:=2) nd (Jk Ze))
   (Zg (Zs (i:=3) nd (Jk Ze))
   (Zg (Zs (i:=4) nd Zi)
   (Zg (Zs (i:=5) nd Zi)
   (Zg (Zc1 PassesOwn.never rfl (Zai (Zc 0)) (Jw (i:=6) nd)
   (Zg (Z2 (dt_w (Za7 (Zb7 (Zat (Zhm (by rfl) T.zad (by rfl) T.zan Zb6 (by decide) (Zc 6)))) (Za7 (Zp (o_ne hu) (d_bi Zbh (by rfl) T.zaf PySem.boot_len (Za (Zc 6) Ze)) Zi) (Za7 (Zb7 (Zat (Z0 S.zat hr (by rfl) (Za (Zx (Zc 6) Zi) Ze)))) (Zbp (Zb7 (Zat (Z0 S.zat hr (by rfl) (Za (Zx (Zc 6) Zi) Ze))))))))) (Zk (Zr Zad)) Zz)
   (Zg (Zrf (Zc 6) (Zkb (n:=4) rfl (Za0 (Jw (i:=7) nd) (Za0 (Jw (i:=8) nd) (Za0 (Jw (i:=9) nd) (Za0 (Jw (i:=10) nd) Zkc)))) (Y0 (Y0 (Y0 (Y0 Zd8))))))
   (Zg (Z2 (dt_w (Za7 (Zp o_lt (Zc 10) (Zc 4)) (Za7 (Zp o_gt (Zc 10) (Zc 1)) (Zbp (Zb7 (Zat (Zhm (by rfl) T.zad (by rfl) T.zaz Zib (by decide) (Zc 9)))))))) (Zk (Zr Zad)) Zz)
   (Zg (Zs (i:=4) nd (Zc 10))
   (Zg (Z2 (Zp (Yf hu) (Zc 7) Zj) (Zg (Z2 (Zp (o_ne hu) (Zc 8) (d_bi Zbh (by rfl) T.zaf PySem.boot_len (Za (Zc 2) Ze))) (Zk (Zr Zad)) Zz)
   (Zg (Z9 (d_mt XZ YB YA Ja Zah (Zc 2) (Za (Zc 9) Ze)))
   (Zk Z0c))) Zz)
   (Zg (Z2 (dt_w (Za7 (Zb7 (Zj8 o_le o_lt Zi (Zc 8) (d_bi Zbh (by rfl) T.zaf PySem.boot_len (Za (Zc 2) Ze)))) (Zbp (Zp (o_ne hu) (Zx (Zc 2) (Zc 8)) (Zc 9))))) (Zk (Zr Zad)) Zz)
   (Zk (Z2 (dt_w (Ze7 (Zp (Yf hu) (Zc 7) Zj) (Zd9 (Zp o_gt (Zc 10) (Zc 5))))) (Zg (Zs (i:=5) nd (Zc 10))
   (Zk (Z9 (d_mt XZ YB YA Ja Zah (Zc 3) (Za (Zc 8) Ze))))) (Zk (Z2 (dt_w (Za7 (Zp (o_ne hu) (Zc 7) Zj) (Za7 (Zp (Yf hu) (d_bi Zbh (by rfl) T.zaf PySem.boot_len (Za (Zc 3) Ze)) Zi) (Zbp (Zp (o_ne hu) (Zkd XZ PySem.F.slot_list_pop PySem.F.type_list_pop Ja Zju (Zc 3)) (Zc 8)))))) (Zk (Zr Zad)) Zz)))))))))))
   (Zk (Zr (Zc 3))))))))
abbrev Zdn:Stmt:=top 39
theorem Zu2:FnScope ["_law_script","_law_draws_here","_law_pool_here","_law_deep","_law_most","_law_kind","_law_term_here","_law_found","_law_within"] ["_law_script"] (Zl Zdn):=by walk_at "sc"
theorem Zv5:ZFK Pg w K mg base n "law" "law" Zdn ["_law_script"] 49:=fun T S F=>Z8 F Zu2 rfl rfl rfl fun _ _ _ _ _ _ hr=>by
  have nd:=Zu2.nd
  have hu:=hu150 hr
  show SdB _ (Zm Zdn) (w_law (wpc pr n))
  unfold w_law w_law_t6 w_law_t5 w_law_t4 w_law_t3 w_law_t2 w_law_t1
  exact(Zg (Zs (i:=1) nd (Z0 S.zbr hr (by rfl) (Za (Zc 0) (Za Zi Ze))))
   (Zg (Zs (i:=2) nd (Z0 S.zbt hr (by rfl) (Za (Zc 1) Ze)))
   (Zg (Zs (i:=3) nd (Z4 Ys (Zkd XZ PySem.F.slot_list_pop PySem.F.type_list_pop Ja Zju (Zc 1)) Zi))
   (Zg (Zs (i:=4) nd (Z4 Ys (Zkd XZ PySem.F.slot_list_pop PySem.F.type_list_pop Ja Zju (Zc 1)) Zi))
   (Zg (Zs (i:=5) nd (Zx Zj (Z4 Ys (Zkd XZ PySem.F.slot_list_pop PySem.F.type_list_pop Ja Zju (Zc 1)) Zi)))
   (Zg (Zs (i:=6) nd (Z0 S.zbl hr (by rfl) (Za (Zc 5) (Za (Zc 1) (Za (Zc 2) (Za Zi Ze))))))
   (Zg (Zs (i:=7) nd (Z0k 2 S.zce hr (by rfl) (Za (Zc 6) (Za (Zc 3) (Za (Zc 4) Ze)))))
   (Zg (Z2 (dt_w (Za7 (Zb7 (Zat (Zhm (by rfl) T.zad (by rfl) T.zan Zb6 (by decide) (Zc 7)))) (Za7 (Zp (o_ne hu) (d_bi Zbh (by rfl) T.zaf PySem.boot_len (Za (Zc 7) Ze)) Zi) (Zbp (Zb7 (Zat (Zhm (by rfl) T.zad (by rfl) T.zbd Zsl (by decide) (Zx (Zc 7) Zi)))))))) (Zk (Zr d_bl)) Zz)
   (Zg (Z2 (dt_w (Za7 (Zb7 (Zat (Zhm (by rfl) T.zad (by rfl) T.zan Zb6 (by decide) (Zx (Zc 7) Zi)))) (Za7 (Zp (o_ne hu) (d_bi Zbh (by rfl) T.zaf PySem.boot_len (Za (Zx (Zc 7) Zi) Ze)) Zi) (Zbp (Zb7 (Zat (Zhm (by rfl) T.zad (by rfl) T.zaz Zib (by decide) (Zx (Zc 7) Zi)))))))) (Zk (Zr d_bl)) Zz)
   (Zg (Z2 (dt_w (Za7 (Zp (o_ne hu) (Zeb (cN:=["_law_one"]) (cap:=[none]) (cl:=[]) (js:=[0]) (g:=(Zax 0)) ⟨rfl,(fun _=>Zho rfl (by decide+kernel) (by decide+kernel) rfl (by decide)),(Zai (Zx (Zc 7) Zi)),(fun _ _ _=>Xb (i:=0) (show(["_law_one"]:List Str).Nodup by decide+kernel) rfl (Or.inl rfl)),Yj,Xq,J8,by decide+kernel,fun _ _ _=>Zea,fun _ _ _=>(Z0 S.zat hr (by rfl) (Za (Zc 0) Ze)),fun _=>rfl⟩) (Z4 Z3c (Jk (Za d_bl Ze)) Zi)) (Zbp (Zb7 (Zj8 o_le o_le Zi (Zx (Zx (Zc 7) Zi) Zi) (Zc 4)))))) (Zk (Zr d_bl)) Zz)
   (Zg (Zs (i:=8) nd (Z0 S.zbs hr (by rfl) (Za (Zx (Zc 7) Zi) (Za (Zx (Zx (Zc 7) Zi) Zi) Ze))))
   (Zg (Z2 (dt_w (Za7 (Zp Zih (Zc 8) Zad) (Zbp (Zp (Zzl hu) (Zx (Zc 7) Zi) (Jk (Za Zj (Za Zj (Za Zj (Za Zj Ze))))) (by rfl))))) (Zk (Zr d_bl)) Zz)
   (Zg (Z2 (Zp (Yf hu) (Zx (Zc 7) Zi) Zj) (Zk (Zr (Zxl (Zce (Yf hu) (Zc 8) (Jk Ze) (Zbe _)) (Zxi (Zce (o_ne hu) (Zx (Zc 7) Zi) Zj (Zbe _)))))) Zz)
   (Zg (Z2 (Zp (Yf hu) (Zx (Zc 7) Zi) Zj) (Zk (Zr (Zxl (Zce (Yf hu) (Zx (Zc 7) Zi) Zj (Zbe _)) (Zxi (Zce (Yf hu) (Zx (Zx (Zc 7) Zi) Zi) (Zc 4) (Zbe _)))))) Zz)
   (Zk (Zr (Zce (Yf hu) (Zce (Yf hu) (Zx (Zc 7) Zi) Zj (Zbe _)) (Zce (Yf hu) (Zx (Zc 7) Zi) Zj (Zbe _)) (Zbe _))))))))))))))))))
end
theorem all_mk {l:W.OpenLaw}{w:World}{K:W.Frag}{h:Heap}{mg:Str→Option Value}{fa f0 f1 f2 f3 f4 f5 f6 f7 f8 f9 f10 f11 f12 f13 f14 f15 f16 f17 f18 f19 f20 f21 f22 f23 f24 f25 f26 f27 f28 f29 f30 f31 f32 f33 f34 f35 f36 f37 f38 f39 f40 f41 f42 f43 f44 f45 f46 f47 f48 f49 Aa:Addr}(X:K.In h)(G:h.Ns mainGlobals mg)(hfa:mg "law"=some (.ref fa))
  {od0 an0 od1 an1 od2 an2 od3 an3 od4 an4 od5 an5 od6 an6 od7 an7 od8 an8 od9 an9 Cd Ce Cf Cg Ch Ci Cj Co Cp Cq Cr Ct Cu Cv Cw Cy Cz CA CB CC CD CF CG CH CI CJ CK CL CM CO CP CQ CT CU CV CW CY CZ Da Db Dc Dd De Dg Dh Dj Dk Dl Dm Dn Do Dp Dq AY Dr Ds Dt Du Dv Dw Dx Dy Dz D0 D3 D4 D5 D6 D7 D8 D9 DA DB DC DD DE DF DG DH AZ:Option Addr} {sl0 sl1 sl2 sl3 sl4 sl5 sl6 sl7 sl8 sl9 DI DJ DK DL DM DN DO DP DQ DR DS DT DU DV DW DX DY DZ Ea Eb Ec Ed Ee Ef Eg Ei Ej Ek El Em Eo Ep Er Es Et Eu Ew Ey Ez E7:Array (Option Value)} {oc0 kV0 dc0 pm0 cd0 ct0 oc1 kV1 dc1 pm1 cd1 ct1 oc2 kV2 dc2 pm2 cd2 ct2 oc3 kV3 dc3 pm3 cd3 ct3 oc4 kV4 dc4 pm4 cd4 ct4 oc5 kV5 dc5 pm5 cd5 ct5 oc6 kV6 dc6 pm6 cd6 ct6 oc7 kV7 dc7 pm7 cd7 ct7 oc8 kV8 dc8 pm8 cd8 ct8 oc9 kV9 dc9 pm9 cd9 ct9 E8 E9 EA EB Ba EC ED EE EF EG Bb EH EI EJ EK EL Bc EM EN EO EQ ER Bd ES ET EU EV EW Be EX EY EZ Fa Fb Bf Fc Fd Fe Ff Fg Bg Fh Fi Fj Fk Fl Bh Fn Fo Fp Fq Ft Bi Fu Fv Fw Fx Fy Bj Fz FA FB FC FD Bk FE FF FG FH FI Bl FJ FK FL FM FN Bm FO FP FQ FR FS Bn FT FU FV FW FX Bo FY FZ Ga Gb Gc Bp Ge Gf Gg Gh Gi Bq Gj Gk Gm Gn Go Br Gp Gq Gr Gs Gu Bs Gv Gw Gx Gy Gz Bt G0 G1 G2 G3 G4 Bu G5 G6 G7 G8 G9 Bv GA GB GC GD GE Bw GF GG GH GI GJ Bx GK GL GM GN GO By GP GQ GR GS GT Bz GU GV BA BB BC AT BD GW GX GY GZ BE Ha Hb Hc He Hf BF Hg Hh Hi Hj Hk BG Hl Hm Hn Ho Hq BH Hr Hs Ht Hu Hv BI Hx Hy Hz HA HB BJ HC HD HE HF HG BK HH HI HJ HK HL BL HM HN HP HQ HR BM HS HU HV HW HX BN HY HZ Ia Ib Ic BO Id Ie Ig Ih Ii BP Ij Ik BQ BR BS AU BT:Value}
  (Ac:W.nsIn K mainGlobals "Runner"=some (some (.ref Aa)))
  (Ae:W.plainGet K Aa Str.empty=true) (Af:W.hasDictIn K Aa=true) (Ag:W.plainOver K Aa=true) (Ah:W.findIn K (.ref Aa) "__setattr__"=some (some (.builtin "object.__setattr__"))) (AH:W.keepIn K (.ref Aa)=true)
  (AI:W.makesIn K Aa=true)
  (AA:W.findIn K (.ref Aa) "cells"=some none)
  (A5:W.findIn K (.ref Aa) "ending"=some none)
  (A6:W.findIn K (.ref Aa) "firsts"=some none)
  (AD:W.findIn K (.ref Aa) "hand"=some none)
  (A7:W.findIn K (.ref Aa) "labels"=some none)
  (AG:W.findIn K (.ref Aa) "log"=some none)
  (AE:W.findIn K (.ref Aa) "pile"=some none)
  (AB:W.findIn K (.ref Aa) "steps"=some none)
  (AC:W.findIn K (.ref Aa) "still"=some none)
  (A8:W.findIn K (.ref Aa) "things"=some none)
  (AF:W.findIn K (.ref Aa) "told"=some none)
  (A9:W.findIn K (.ref Aa) "wanted"=some none)
  (Ai:W.findIn K (.ref Aa) "__init__"=some (some (.ref f15)))
  (A3:W.findIn K (.ref Aa) "go"=some (some (.ref f16)))
  (As:W.findIn K (.ref Aa) "advance"=some (some (.ref f17)))
  (At:W.findIn K (.ref Aa) "outcome"=some (some (.ref f18)))
  (Av:W.findIn K (.ref Aa) "settle"=some (some (.ref f19)))
  (An:W.findIn K (.ref Aa) "tell_next"=some (some (.ref f20)))
  (Aj:W.findIn K (.ref Aa) "tell_value"=some (some (.ref f21)))
  (Ao:W.findIn K (.ref Aa) "take_step"=some (some (.ref f22)))
  (Ak:W.findIn K (.ref Aa) "take_apart"=some (some (.ref f23)))
  (Ap:W.findIn K (.ref Aa) "use_value"=some (some (.ref f24)))
  (Au:W.findIn K (.ref Aa) "go_into"=some (some (.ref f25)))
  (Am:W.findIn K (.ref Aa) "take_frame"=some (some (.ref f26)))
  (Ax:W.findIn K (.ref Aa) "bind"=some (some (.ref f27)))
  (Ay:W.findIn K (.ref Aa) "make"=some (some (.ref f28)))
  (Ar:W.findIn K (.ref Aa) "mark_for"=some (some (.ref f29)))
  (Az:W.findIn K (.ref Aa) "bear"=some (some (.ref f30)))
  (A0:W.findIn K (.ref Aa) "note"=some (some (.ref f31)))
  (A1:W.findIn K (.ref Aa) "keep"=some (some (.ref f32)))
  (Aw:W.findIn K (.ref Aa) "enter"=some (some (.ref f33)))
  (Aq:W.findIn K (.ref Aa) "come_back"=some (some (.ref f34)))
  (a0:W.nsIn K mainGlobals "with_parts"=some (some (.ref f0)))
  (l0:K.lookup f0=some ⟨oc0,od0,.func (W.fnOf "with_parts" "with_parts" (Zy Xe) (Zm Xe) (Zl Xe) .none kV0 dc0 pm0 an0 cd0 ct0),sl0⟩) (c0:W.codeIn K cd0 "with_parts"=true) (k0:W.keepIn K (.ref f0)=true)
  (a1:W.nsIn K mainGlobals "with_lasts"=some (some (.ref f1)))
  (l1:K.lookup f1=some ⟨oc1,od1,.func (W.fnOf "with_lasts" "with_lasts" (Zy Xf) (Zm Xf) (Zl Xf) .none kV1 dc1 pm1 an1 cd1 ct1),sl1⟩) (c1:W.codeIn K cd1 "with_lasts"=true) (k1:W.keepIn K (.ref f1)=true)
  (a2:W.nsIn K mainGlobals "scopes"=some (some (.ref f2)))
  (l2:K.lookup f2=some ⟨oc2,od2,.func (W.fnOf "scopes" "scopes" (Zy Zbk) (Zm Zbk) (Zl Zbk) .none kV2 dc2 pm2 an2 cd2 ct2),sl2⟩) (c2:W.codeIn K cd2 "scopes"=true) (k2:W.keepIn K (.ref f2)=true)
  (a3:W.nsIn K mainGlobals "let_scopes"=some (some (.ref f3)))
  (l3:K.lookup f3=some ⟨oc3,od3,.func (W.fnOf "let_scopes" "let_scopes" (Zy Xg) (Zm Xg) (Zl Xg) .none kV3 dc3 pm3 an3 cd3 ct3),sl3⟩) (c3:W.codeIn K cd3 "let_scopes"=true) (k3:W.keepIn K (.ref f3)=true)
  (a4:W.nsIn K mainGlobals "rows_scopes"=some (some (.ref f4)))
  (l4:K.lookup f4=some ⟨oc4,od4,.func (W.fnOf "rows_scopes" "rows_scopes" (Zy Jx) (Zm Jx) (Zl Jx) .none kV4 dc4 pm4 an4 cd4 ct4),sl4⟩) (c4:W.codeIn K cd4 "rows_scopes"=true) (k4:W.keepIn K (.ref f4)=true)
  (a5:W.nsIn K mainGlobals "put"=some (some (.ref f5)))
  (l5:K.lookup f5=some ⟨oc5,od5,.func (W.fnOf "put" "put" (Zy Zgf) (Zm Zgf) (Zl Zgf) .none kV5 dc5 pm5 an5 cd5 ct5),sl5⟩) (c5:W.codeIn K cd5 "put"=true) (k5:W.keepIn K (.ref f5)=true)
  (a6:W.nsIn K mainGlobals "changed"=some (some (.ref f6)))
  (l6:K.lookup f6=some ⟨oc6,od6,.func (W.fnOf "changed" "changed" (Zy Za3) (Zm Za3) (Zl Za3) .none kV6 dc6 pm6 an6 cd6 ct6),sl6⟩) (c6:W.codeIn K cd6 "changed"=true) (k6:W.keepIn K (.ref f6)=true)
  (a7:W.nsIn K mainGlobals "without"=some (some (.ref f7)))
  (l7:K.lookup f7=some ⟨oc7,od7,.func (W.fnOf "without" "without" (Zy Za1) (Zm Za1) (Zl Za1) .none kV7 dc7 pm7 an7 cd7 ct7),sl7⟩) (c7:W.codeIn K cd7 "without"=true) (k7:W.keepIn K (.ref f7)=true)
  (a8:W.nsIn K mainGlobals "is_mark"=some (some (.ref f8)))
  (l8:K.lookup f8=some ⟨oc8,od8,.func (W.fnOf "is_mark" "is_mark" (Zy Za2) (Zm Za2) (Zl Za2) .none kV8 dc8 pm8 an8 cd8 ct8),sl8⟩) (c8:W.codeIn K cd8 "is_mark"=true) (k8:W.keepIn K (.ref f8)=true)
  (a9:W.nsIn K mainGlobals "is_value"=some (some (.ref f9)))
  (l9:K.lookup f9=some ⟨oc9,od9,.func (W.fnOf "is_value" "is_value" (Zy Zaf) (Zm Zaf) (Zl Zaf) .none kV9 dc9 pm9 an9 cd9 ct9),sl9⟩) (c9:W.codeIn K cd9 "is_value"=true) (k9:W.keepIn K (.ref f9)=true)
  (a10:W.nsIn K mainGlobals "reckoned"=some (some (.ref f10)))
  (l10:K.lookup f10=some ⟨E8,Cd,.func (W.fnOf "reckoned" "reckoned" (Zy Zae) (Zm Zae) (Zl Zae) .none E9 EA EB Ce Ba EC),DI⟩) (c10:W.codeIn K Ba "reckoned"=true) (k10:W.keepIn K (.ref f10)=true)
  (a11:W.nsIn K mainGlobals "truth"=some (some (.ref f11)))
  (l11:K.lookup f11=some ⟨ED,Cf,.func (W.fnOf "truth" "truth" (Zy Zcu) (Zm Zcu) (Zl Zcu) .none EE EF EG Cg Bb EH),DJ⟩) (c11:W.codeIn K Bb "truth"=true) (k11:W.keepIn K (.ref f11)=true)
  (a12:W.nsIn K mainGlobals "picked"=some (some (.ref f12)))
  (l12:K.lookup f12=some ⟨EI,Ch,.func (W.fnOf "picked" "picked" (Zy Zbl) (Zm Zbl) (Zl Zbl) .none EJ EK EL Ci Bc EM),DK⟩) (c12:W.codeIn K Bc "picked"=true) (k12:W.keepIn K (.ref f12)=true)
  (a13:W.nsIn K mainGlobals "alternative_of"=some (some (.ref f13)))
  (l13:K.lookup f13=some ⟨EN,Cj,.func (W.fnOf "alternative_of" "alternative_of" (Zy Jb) (Zm Jb) (Zl Jb) .none EO EQ ER Co Bd ES),DL⟩) (c13:W.codeIn K Bd "alternative_of"=true) (k13:W.keepIn K (.ref f13)=true)
  (a14:W.nsIn K mainGlobals "fits"=some (some (.ref f14)))
  (l14:K.lookup f14=some ⟨ET,Cp,.func (W.fnOf "fits" "fits" (Zy Zd5) (Zm Zd5) (Zl Zd5) .none EU EV EW Cq Be EX),DM⟩) (c14:W.codeIn K Be "fits"=true) (k14:W.keepIn K (.ref f14)=true)
  (im15:W.isFn K (.ref f15)=true)
  (l15:K.lookup f15=some ⟨EY,Cr,.func (W.fnOf "__init__" "Runner.__init__" (Zy Y4) (Zm Y4) (Zl Y4) .none EZ Fa Fb Ct Bf Fc),DN⟩) (c15:W.codeIn K Bf "Runner.__init__"=true) (k15:W.keepIn K (.ref f15)=true)
  (im16:W.isFn K (.ref f16)=true)
  (l16:K.lookup f16=some ⟨Fd,Cu,.func (W.fnOf "go" "Runner.go" (Zy X8) (Zm X8) (Zl X8) .none Fe Ff Fg Cv Bg Fh),DO⟩) (c16:W.codeIn K Bg "Runner.go"=true) (k16:W.keepIn K (.ref f16)=true)
  (im17:W.isFn K (.ref f17)=true)
  (l17:K.lookup f17=some ⟨Fi,Cw,.func (W.fnOf "advance" "Runner.advance" (Zy Je) (Zm Je) (Zl Je) .none Fj Fk Fl Cy Bh Fn),DP⟩) (c17:W.codeIn K Bh "Runner.advance"=true) (k17:W.keepIn K (.ref f17)=true)
  (im18:W.isFn K (.ref f18)=true)
  (l18:K.lookup f18=some ⟨Fo,Cz,.func (W.fnOf "outcome" "Runner.outcome" (Zy Jc) (Zm Jc) (Zl Jc) .none Fp Fq Ft CA Bi Fu),DQ⟩) (c18:W.codeIn K Bi "Runner.outcome"=true) (k18:W.keepIn K (.ref f18)=true)
  (im19:W.isFn K (.ref f19)=true)
  (l19:K.lookup f19=some ⟨Fv,CB,.func (W.fnOf "settle" "Runner.settle" (Zy Jm) (Zm Jm) (Zl Jm) .none Fw Fx Fy CC Bj Fz),DR⟩) (c19:W.codeIn K Bj "Runner.settle"=true) (k19:W.keepIn K (.ref f19)=true)
  (im20:W.isFn K (.ref f20)=true)
  (l20:K.lookup f20=some ⟨FA,CD,.func (W.fnOf "tell_next" "Runner.tell_next" (Zy Yx) (Zm Yx) (Zl Yx) .none FB FC FD CF Bk FE),DS⟩) (c20:W.codeIn K Bk "Runner.tell_next"=true) (k20:W.keepIn K (.ref f20)=true)
  (im21:W.isFn K (.ref f21)=true)
  (l21:K.lookup f21=some ⟨FF,CG,.func (W.fnOf "tell_value" "Runner.tell_value" (Zy Yp) (Zm Yp) (Zl Yp) .none FG FH FI CH Bl FJ),DT⟩) (c21:W.codeIn K Bl "Runner.tell_value"=true) (k21:W.keepIn K (.ref f21)=true)
  (im22:W.isFn K (.ref f22)=true)
  (l22:K.lookup f22=some ⟨FK,CI,.func (W.fnOf "take_step" "Runner.take_step" (Zy Yy) (Zm Yy) (Zl Yy) .none FL FM FN CJ Bm FO),DU⟩) (c22:W.codeIn K Bm "Runner.take_step"=true) (k22:W.keepIn K (.ref f22)=true)
  (im23:W.isFn K (.ref f23)=true)
  (l23:K.lookup f23=some ⟨FP,CK,.func (W.fnOf "take_apart" "Runner.take_apart" (Zy Yr) (Zm Yr) (Zl Yr) .none FQ FR FS CL Bn FT),DV⟩) (c23:W.codeIn K Bn "Runner.take_apart"=true) (k23:W.keepIn K (.ref f23)=true)
  (im24:W.isFn K (.ref f24)=true)
  (l24:K.lookup f24=some ⟨FU,CM,.func (W.fnOf "use_value" "Runner.use_value" (Zy Yw) (Zm Yw) (Zl Yw) .none FV FW FX CO Bo FY),DW⟩) (c24:W.codeIn K Bo "Runner.use_value"=true) (k24:W.keepIn K (.ref f24)=true)
  (im25:W.isFn K (.ref f25)=true)
  (l25:K.lookup f25=some ⟨FZ,CP,.func (W.fnOf "go_into" "Runner.go_into" (Zy Jd) (Zm Jd) (Zl Jd) .none Ga Gb Gc CQ Bp Ge),DX⟩) (c25:W.codeIn K Bp "Runner.go_into"=true) (k25:W.keepIn K (.ref f25)=true)
  (im26:W.isFn K (.ref f26)=true)
  (l26:K.lookup f26=some ⟨Gf,CT,.func (W.fnOf "take_frame" "Runner.take_frame" (Zy Yq) (Zm Yq) (Zl Yq) .none Gg Gh Gi CU Bq Gj),DY⟩) (c26:W.codeIn K Bq "Runner.take_frame"=true) (k26:W.keepIn K (.ref f26)=true)
  (im27:W.isFn K (.ref f27)=true)
  (l27:K.lookup f27=some ⟨Gk,CV,.func (W.fnOf "bind" "Runner.bind" (Zy J3) (Zm J3) (Zl J3) .none Gm Gn Go CW Br Gp),DZ⟩) (c27:W.codeIn K Br "Runner.bind"=true) (k27:W.keepIn K (.ref f27)=true)
  (im28:W.isFn K (.ref f28)=true)
  (l28:K.lookup f28=some ⟨Gq,CY,.func (W.fnOf "make" "Runner.make" (Zy J1) (Zm J1) (Zl J1) .none Gr Gs Gu CZ Bs Gv),Ea⟩) (c28:W.codeIn K Bs "Runner.make"=true) (k28:W.keepIn K (.ref f28)=true)
  (im29:W.isFn K (.ref f29)=true)
  (l29:K.lookup f29=some ⟨Gw,Da,.func (W.fnOf "mark_for" "Runner.mark_for" (Zy Y3) (Zm Y3) (Zl Y3) .none Gx Gy Gz Db Bt G0),Eb⟩) (c29:W.codeIn K Bt "Runner.mark_for"=true) (k29:W.keepIn K (.ref f29)=true)
  (im30:W.isFn K (.ref f30)=true)
  (l30:K.lookup f30=some ⟨G1,Dc,.func (W.fnOf "bear" "Runner.bear" (Zy J4) (Zm J4) (Zl J4) .none G2 G3 G4 Dd Bu G5),Ec⟩) (c30:W.codeIn K Bu "Runner.bear"=true) (k30:W.keepIn K (.ref f30)=true)
  (im31:W.isFn K (.ref f31)=true)
  (l31:K.lookup f31=some ⟨G6,De,.func (W.fnOf "note" "Runner.note" (Zy J0) (Zm J0) (Zl J0) .none G7 G8 G9 Dg Bv GA),Ed⟩) (c31:W.codeIn K Bv "Runner.note"=true) (k31:W.keepIn K (.ref f31)=true)
  (im32:W.isFn K (.ref f32)=true)
  (l32:K.lookup f32=some ⟨GB,Dh,.func (W.fnOf "keep" "Runner.keep" (Zy J2) (Zm J2) (Zl J2) .none GC GD GE Dj Bw GF),Ee⟩) (c32:W.codeIn K Bw "Runner.keep"=true) (k32:W.keepIn K (.ref f32)=true)
  (im33:W.isFn K (.ref f33)=true)
  (l33:K.lookup f33=some ⟨GG,Dk,.func (W.fnOf "enter" "Runner.enter" (Zy Jq) (Zm Jq) (Zl Jq) .none GH GI GJ Dl Bx GK),Ef⟩) (c33:W.codeIn K Bx "Runner.enter"=true) (k33:W.keepIn K (.ref f33)=true)
  (im34:W.isFn K (.ref f34)=true)
  (l34:K.lookup f34=some ⟨GL,Dm,.func (W.fnOf "come_back" "Runner.come_back" (Zy Yz) (Zm Yz) (Zl Yz) .none GM GN GO Dn By GP),Eg⟩) (c34:W.codeIn K By "Runner.come_back"=true) (k34:W.keepIn K (.ref f34)=true)
  (a35:W.nsIn K mainGlobals "pieces_of"=some (some (.ref f35)))
  (l35:K.lookup f35=some ⟨GQ,Do,.func (W.fnOf "pieces_of" "pieces_of" (Zy X0) (Zm X0) (Zl X0) .none GR GS GT Dp Bz GU),Ei⟩) (c35:W.codeIn K Bz "pieces_of"=true) (k35:W.keepIn K (.ref f35)=true)
  {T_run:Addr} {dc_run:Value} {dd_run:Option Addr} {dn_run:Nat} {ds_run:Array (Option Value)} {dt_run_0 dt_run_1:Tok}
  (a36:W.nsIn K mainGlobals "run"=some (some (.ref f36)))
  (l36:K.lookup f36=some ⟨GV,Dq,.func (W.fnOf "run" "run" (Zy Zdm) (Zm Zdm) (Zl Zdm) (.ref T_run) BA BB BC AY AT BD),Ej⟩) (c36:W.codeIn K AT "run"=true) (k36:W.keepIn K (.ref f36)=true)
  (dl_run:K.lookup T_run=some ⟨dc_run,dd_run,.seq #[.int 8 dt_run_0,.int 400 dt_run_1] dn_run,ds_run⟩)
  (a37:W.nsIn K mainGlobals "_law_draws"=some (some (.ref f37)))
  (l37:K.lookup f37=some ⟨GW,Dr,.func (W.fnOf "_law_draws" "_law_draws" (Zy Xi) (Zm Xi) (Zl Xi) .none GX GY GZ Ds BE Ha),Ek⟩) (c37:W.codeIn K BE "_law_draws"=true) (k37:W.keepIn K (.ref f37)=true)
  (a38:W.nsIn K mainGlobals "_law_pool"=some (some (.ref f38)))
  (l38:K.lookup f38=some ⟨Hb,Dt,.func (W.fnOf "_law_pool" "_law_pool" (Zy X3) (Zm X3) (Zl X3) .none Hc He Hf Du BF Hg),El⟩) (c38:W.codeIn K BF "_law_pool"=true) (k38:W.keepIn K (.ref f38)=true)
  (a39:W.nsIn K mainGlobals "_law_ill_matched"=some (some (.ref f39)))
  (l39:K.lookup f39=some ⟨Hh,Dv,.func (W.fnOf "_law_ill_matched" "_law_ill_matched" (Zy Yv) (Zm Yv) (Zl Yv) .none Hi Hj Hk Dw BG Hl),Em⟩) (c39:W.codeIn K BG "_law_ill_matched"=true) (k39:W.keepIn K (.ref f39)=true)
  (a40:W.nsIn K mainGlobals "_law_leaf"=some (some (.ref f40)))
  (l40:K.lookup f40=some ⟨Hm,Dx,.func (W.fnOf "_law_leaf" "_law_leaf" (Zy X4) (Zm X4) (Zl X4) .none Hn Ho Hq Dy BH Hr),Eo⟩) (c40:W.codeIn K BH "_law_leaf"=true) (k40:W.keepIn K (.ref f40)=true)
  (a41:W.nsIn K mainGlobals "_law_bound"=some (some (.ref f41)))
  (l41:K.lookup f41=some ⟨Hs,Dz,.func (W.fnOf "_law_bound" "_law_bound" (Zy Xj) (Zm Xj) (Zl Xj) .none Ht Hu Hv D0 BI Hx),Ep⟩) (c41:W.codeIn K BI "_law_bound"=true) (k41:W.keepIn K (.ref f41)=true)
  (a42:W.nsIn K mainGlobals "_law_own"=some (some (.ref f42)))
  (l42:K.lookup f42=some ⟨Hy,D3,.func (W.fnOf "_law_own" "_law_own" (Zy Zag) (Zm Zag) (Zl Zag) .none Hz HA HB D4 BJ HC),Er⟩) (c42:W.codeIn K BJ "_law_own"=true) (k42:W.keepIn K (.ref f42)=true)
  (a43:W.nsIn K mainGlobals "_law_choice"=some (some (.ref f43)))
  (l43:K.lookup f43=some ⟨HD,D5,.func (W.fnOf "_law_choice" "_law_choice" (Zy Jz) (Zm Jz) (Zl Jz) .none HE HF HG D6 BK HH),Es⟩) (c43:W.codeIn K BK "_law_choice"=true) (k43:W.keepIn K (.ref f43)=true)
  (a44:W.nsIn K mainGlobals "_law_term"=some (some (.ref f44)))
  (l44:K.lookup f44=some ⟨HI,D7,.func (W.fnOf "_law_term" "_law_term" (Zy X1) (Zm X1) (Zl X1) .none HJ HK HL D8 BL HM),Et⟩) (c44:W.codeIn K BL "_law_term"=true) (k44:W.keepIn K (.ref f44)=true)
  (a45:W.nsIn K mainGlobals "_law_each"=some (some (.ref f45)))
  (l45:K.lookup f45=some ⟨HN,D9,.func (W.fnOf "_law_each" "_law_each" (Zy X6) (Zm X6) (Zl X6) .none HP HQ HR DA BM HS),Eu⟩) (c45:W.codeIn K BM "_law_each"=true) (k45:W.keepIn K (.ref f45)=true)
  (a46:W.nsIn K mainGlobals "_law_closed"=some (some (.ref f46)))
  (l46:K.lookup f46=some ⟨HU,DB,.func (W.fnOf "_law_closed" "_law_closed" (Zy Jy) (Zm Jy) (Zl Jy) .none HV HW HX DC BN HY),Ew⟩) (c46:W.codeIn K BN "_law_closed"=true) (k46:W.keepIn K (.ref f46)=true)
  (a47:W.nsIn K mainGlobals "_law_whole"=some (some (.ref f47)))
  (l47:K.lookup f47=some ⟨HZ,DD,.func (W.fnOf "_law_whole" "_law_whole" (Zy Xh) (Zm Xh) (Zl Xh) .none Ia Ib Ic DE BO Id),Ey⟩) (c47:W.codeIn K BO "_law_whole"=true) (k47:W.keepIn K (.ref f47)=true)
  (a48:W.nsIn K mainGlobals "_law_rows"=some (some (.ref f48)))
  (l48:K.lookup f48=some ⟨Ie,DF,.func (W.fnOf "_law_rows" "_law_rows" (Zy X2) (Zm X2) (Zl X2) .none Ig Ih Ii DG BP Ij),Ez⟩) (c48:W.codeIn K BP "_law_rows"=true) (k48:W.keepIn K (.ref f48)=true)
  (a49:W.nsIn K mainGlobals "law"=some (some (.ref f49)))
  (l49:K.lookup f49=some ⟨Ik,DH,.func (W.fnOf "law" "law" (Zy Zdn) (Zm Zdn) (Zl Zdn) .none BQ BR BS AZ AU BT),E7⟩) (c49:W.codeIn K AU "law"=true) (k49:W.keepIn K (.ref f49)=true)
  (BU:W.nsIn K mainGlobals "any"=some none)
  (AV:W.nsIn K mainGlobals "bool"=some none)
  (AW:W.nsIn K mainGlobals "dict"=some none)
  (AK:W.nsIn K mainGlobals "enumerate"=some none)
  (BV:W.nsIn K mainGlobals "int"=some none)
  (AJ:W.nsIn K mainGlobals "isinstance"=some none)
  (BW:W.nsIn K mainGlobals "len"=some none)
  (AX:W.nsIn K mainGlobals "list"=some none)
  (BX:W.nsIn K mainGlobals "max"=some none)
  (AR:W.nsIn K mainGlobals "range"=some none)
  (AL:W.nsIn K mainGlobals "reversed"=some none)
  (BY:W.nsIn K mainGlobals "str"=some none)
  (AS:W.nsIn K mainGlobals "tuple"=some none)
  (BZ:W.nsIn K mainGlobals "zip"=some none)
  {gt_MARKS_0:Tok}
  {gt_MARKS_1:Tok}
  {gt_MARKS_2:Tok}
  {A4:Addr} {gn_MARKS:Nat} {gs_MARKS:Array (Option Value)} (AO:K.lookup A4=some ⟨.type "tuple",none,.seq #[.str "at" gt_MARKS_0,.str "shut" gt_MARKS_1,.str "ring" gt_MARKS_2] gn_MARKS,gs_MARKS⟩)
  (AQ:W.nsIn K mainGlobals "MARKS"=some (some (.ref A4)))
  {gt_VALUES_0:Tok}
  {gt_VALUES_1:Tok}
  {gt_VALUES_2:Tok}
  {A2:Addr} {gn_VALUES:Nat} {gs_VALUES:Array (Option Value)} (AM:K.lookup A2=some ⟨.type "tuple",none,.seq #[.str "number" gt_VALUES_0,.str "fun" gt_VALUES_1,.str "made" gt_VALUES_2] gn_VALUES,gs_VALUES⟩)
  (AN:W.nsIn K mainGlobals "VALUES"=some (some (.ref A2)))
  :∃fd:FuncData,(∀(s:Shared) (v:Value),BindsTo s fd ⟨[v],[]⟩ [("_law_script",v)])∧∀base:Heap,K.In base→base.Ns mainGlobals mg→FnOk l.prog w K mg base CX0 60 fa fd ["_law_script"] (spW K pr 60 49):=by
 have e:=hfa.symm.trans (W.mg_of X G a49)
 cases e
 have T:Txt w K mg:=⟨W.mg_none_of X G BU,W.mg_none_of X G AV,W.mg_none_of X G AW,W.mg_none_of X G AK,W.mg_none_of X G BV,W.mg_none_of X G AJ,W.mg_none_of X G BW,W.mg_none_of X G AX,W.mg_none_of X G BX,W.mg_none_of X G AR,W.mg_none_of X G AL,W.mg_none_of X G BY,W.mg_none_of X G AS,W.mg_none_of X G BZ,⟨.ref A4,.ref A4,W.mg_of X G AQ,rfl,fun H=>(Zor (xs:=[V.str "at",V.str "shut",V.str "ring"]) AO (show 3≤sizeLine by decide) (.cons ⟨_,rfl⟩ (.cons ⟨_,rfl⟩ (.cons ⟨_,rfl⟩ .nil))) (Yk Xa (Yk Xa (Yk Xa Ji))))⟩,⟨.ref A2,.ref A2,W.mg_of X G AN,rfl,fun H=>(Zor (xs:=[V.str "number",V.str "fun",V.str "made"]) AM (show 3≤sizeLine by decide) (.cons ⟨_,rfl⟩ (.cons ⟨_,rfl⟩ (.cons ⟨_,rfl⟩ .nil))) (Yk Xa (Yk Xa (Yk Xa Ji))))⟩,⟨Aa,Ac,⟨Ae,Af,Ag,Ah⟩,AA⟩,⟨Aa,Ac,⟨Ae,Af,Ag,Ah⟩,A5⟩,⟨Aa,Ac,⟨Ae,Af,Ag,Ah⟩,A6⟩,⟨Aa,Ac,⟨Ae,Af,Ag,Ah⟩,AD⟩,⟨Aa,Ac,⟨Ae,Af,Ag,Ah⟩,A7⟩,⟨Aa,Ac,⟨Ae,Af,Ag,Ah⟩,AG⟩,⟨Aa,Ac,⟨Ae,Af,Ag,Ah⟩,AE⟩,⟨Aa,Ac,⟨Ae,Af,Ag,Ah⟩,AB⟩,⟨Aa,Ac,⟨Ae,Af,Ag,Ah⟩,AC⟩,⟨Aa,Ac,⟨Ae,Af,Ag,Ah⟩,A8⟩,⟨Aa,Ac,⟨Ae,Af,Ag,Ah⟩,AF⟩,⟨Aa,Ac,⟨Ae,Af,Ag,Ah⟩,A9⟩⟩
 have Ab:Kl K mg "Runner" Aa:=⟨Ac,W.mg_of X G Ac,⟨Ae,Af,Ag,Ah⟩⟩
 have F0:=Z7 (st:=Xe) l0 c0 k0
 have B0:Binds K _ ["term","given"] []:=F0.binds (fun _ _ _ _ _ _ us hl=>match us,hl with | [_,_],_=>rfl)
 have M0:=W.mg_of X G a0
 have F1:=Z7 (st:=Xf) l1 c1 k1
 have B1:Binds K _ ["tuples","lasts"] []:=F1.binds (fun _ _ _ _ _ _ us hl=>match us,hl with | [_,_],_=>rfl)
 have M1:=W.mg_of X G a1
 have F2:=Z7 (st:=Zbk) l2 c2 k2
 have B2:Binds K _ ["term"] []:=F2.binds (fun _ _ _ _ _ _ us hl=>match us,hl with | [_],_=>rfl)
 have M2:=W.mg_of X G a2
 have F3:=Z7 (st:=Xg) l3 c3 k3
 have B3:Binds K _ ["pairs","body"] []:=F3.binds (fun _ _ _ _ _ _ us hl=>match us,hl with | [_,_],_=>rfl)
 have M3:=W.mg_of X G a3
 have F4:=Z7 (st:=Jx) l4 c4 k4
 have B4:Binds K _ ["body","steps"] []:=F4.binds (fun _ _ _ _ _ _ us hl=>match us,hl with | [_,_],_=>rfl)
 have M4:=W.mg_of X G a4
 have F5:=Z7 (st:=Zgf) l5 c5 k5
 have B5:Binds K _ ["term","marks"] []:=F5.binds (fun _ _ _ _ _ _ us hl=>match us,hl with | [_,_],_=>rfl)
 have M5:=W.mg_of X G a5
 have F6:=Z7 (st:=Za3) l6 c6 k6
 have B6:Binds K _ ["term","marks"] []:=F6.binds (fun _ _ _ _ _ _ us hl=>match us,hl with | [_,_],_=>rfl)
 have M6:=W.mg_of X G a6
 have F7:=Z7 (st:=Za1) l7 c7 k7
 have B7:Binds K _ ["marks","names"] []:=F7.binds (fun _ _ _ _ _ _ us hl=>match us,hl with | [_,_],_=>rfl)
 have M7:=W.mg_of X G a7
 have F8:=Z7 (st:=Za2) l8 c8 k8
 have B8:Binds K _ ["term"] []:=F8.binds (fun _ _ _ _ _ _ us hl=>match us,hl with | [_],_=>rfl)
 have M8:=W.mg_of X G a8
 have F9:=Z7 (st:=Zaf) l9 c9 k9
 have B9:Binds K _ ["term"] []:=F9.binds (fun _ _ _ _ _ _ us hl=>match us,hl with | [_],_=>rfl)
 have M9:=W.mg_of X G a9
 have F10:=Z7 (st:=Zae) l10 c10 k10
 have B10:Binds K _ ["op","one","other"] []:=F10.binds (fun _ _ _ _ _ _ us hl=>match us,hl with | [_,_,_],_=>rfl)
 have M10:=W.mg_of X G a10
 have F11:=Z7 (st:=Zcu) l11 c11 k11
 have B11:Binds K _ ["holds"] []:=F11.binds (fun _ _ _ _ _ _ us hl=>match us,hl with | [_],_=>rfl)
 have M11:=W.mg_of X G a11
 have F12:=Z7 (st:=Zbl) l12 c12 k12
 have B12:Binds K _ ["value","alternatives"] []:=F12.binds (fun _ _ _ _ _ _ us hl=>match us,hl with | [_,_],_=>rfl)
 have M12:=W.mg_of X G a12
 have F13:=Z7 (st:=Jb) l13 c13 k13
 have B13:Binds K _ ["value","alternatives"] []:=F13.binds (fun _ _ _ _ _ _ us hl=>match us,hl with | [_,_],_=>rfl)
 have M13:=W.mg_of X G a13
 have F14:=Z7 (st:=Zd5) l14 c14 k14
 have B14:Binds K _ ["value","frame"] []:=F14.binds (fun _ _ _ _ _ _ us hl=>match us,hl with | [_,_],_=>rfl)
 have M14:=W.mg_of X G a14
 have F15:=Z7 (st:=Y4) l15 c15 k15
 have B15:Binds K _ ["self","term","depth"] []:=F15.binds (fun _ _ _ _ _ _ us hl=>match us,hl with | [_,_,_],_=>rfl)
 have F16:=Z7 (st:=X8) l16 c16 k16
 have B16:Binds K _ ["self","most"] []:=F16.binds (fun _ _ _ _ _ _ us hl=>match us,hl with | [_,_],_=>rfl)
 have F17:=Z7 (st:=Je) l17 c17 k17
 have B17:Binds K _ ["self","most"] []:=F17.binds (fun _ _ _ _ _ _ us hl=>match us,hl with | [_,_],_=>rfl)
 have F18:=Z7 (st:=Jc) l18 c18 k18
 have B18:Binds K _ ["self"] []:=F18.binds (fun _ _ _ _ _ _ us hl=>match us,hl with | [_],_=>rfl)
 have F19:=Z7 (st:=Jm) l19 c19 k19
 have B19:Binds K _ ["self"] []:=F19.binds (fun _ _ _ _ _ _ us hl=>match us,hl with | [_],_=>rfl)
 have F20:=Z7 (st:=Yx) l20 c20 k20
 have B20:Binds K _ ["self"] []:=F20.binds (fun _ _ _ _ _ _ us hl=>match us,hl with | [_],_=>rfl)
 have F21:=Z7 (st:=Yp) l21 c21 k21
 have B21:Binds K _ ["self"] []:=F21.binds (fun _ _ _ _ _ _ us hl=>match us,hl with | [_],_=>rfl)
 have F22:=Z7 (st:=Yy) l22 c22 k22
 have B22:Binds K _ ["self"] []:=F22.binds (fun _ _ _ _ _ _ us hl=>match us,hl with | [_],_=>rfl)
 have F23:=Z7 (st:=Yr) l23 c23 k23
 have B23:Binds K _ ["self","term"] []:=F23.binds (fun _ _ _ _ _ _ us hl=>match us,hl with | [_,_],_=>rfl)
 have F24:=Z7 (st:=Yw) l24 c24 k24
 have B24:Binds K _ ["self","value","frame"] []:=F24.binds (fun _ _ _ _ _ _ us hl=>match us,hl with | [_,_,_],_=>rfl)
 have F25:=Z7 (st:=Jd) l25 c25 k25
 have B25:Binds K _ ["self","term","frame"] []:=F25.binds (fun _ _ _ _ _ _ us hl=>match us,hl with | [_,_,_],_=>rfl)
 have F26:=Z7 (st:=Yq) l26 c26 k26
 have B26:Binds K _ ["self"] []:=F26.binds (fun _ _ _ _ _ _ us hl=>match us,hl with | [_],_=>rfl)
 have F27:=Z7 (st:=J3) l27 c27 k27
 have B27:Binds K _ ["self","pairs","body"] []:=F27.binds (fun _ _ _ _ _ _ us hl=>match us,hl with | [_,_,_],_=>rfl)
 have F28:=Z7 (st:=J1) l28 c28 k28
 have B28:Binds K _ ["self","shape","given"] []:=F28.binds (fun _ _ _ _ _ _ us hl=>match us,hl with | [_,_,_],_=>rfl)
 have F29:=Z7 (st:=Y3) l29 c29 k29
 have B29:Binds K _ ["self","label","text"] []:=F29.binds (fun _ _ _ _ _ _ us hl=>match us,hl with | [_,_,_],_=>rfl)
 have F30:=Z7 (st:=J4) l30 c30 k30
 have B30:Binds K _ ["self","label"] []:=F30.binds (fun _ _ _ _ _ _ us hl=>match us,hl with | [_,_],_=>rfl)
 have F31:=Z7 (st:=J0) l31 c31 k31
 have B31:Binds K _ ["self","event","number"] []:=F31.binds (fun _ _ _ _ _ _ us hl=>match us,hl with | [_,_,_],_=>rfl)
 have F32:=Z7 (st:=J2) l32 c32 k32
 have B32:Binds K _ ["self","number","text"] []:=F32.binds (fun _ _ _ _ _ _ us hl=>match us,hl with | [_,_,_],_=>rfl)
 have F33:=Z7 (st:=Jq) l33 c33 k33
 have B33:Binds K _ ["self","number"] []:=F33.binds (fun _ _ _ _ _ _ us hl=>match us,hl with | [_,_],_=>rfl)
 have F34:=Z7 (st:=Yz) l34 c34 k34
 have B34:Binds K _ ["self","number"] []:=F34.binds (fun _ _ _ _ _ _ us hl=>match us,hl with | [_,_],_=>rfl)
 have F35:=Z7 (st:=X0) l35 c35 k35
 have B35:Binds K _ ["value","depth"] []:=F35.binds (fun _ _ _ _ _ _ us hl=>match us,hl with | [_,_],_=>rfl)
 have M35:=W.mg_of X G a35
 have F36:FunD K "run" "run" Zdm f36 _:=⟨⟨_,_,_,_,_,_,_,_,_,_,rfl,l36,c36⟩,k36⟩
 have B36:∃us:List Value,Vals (([8,400]:List Int).map V.int) us∧∀j,j≤2→Binds K (W.fnOf "run" "run" (Zy Zdm) (Zm Zdm) (Zl Zdm) (.ref T_run) BA BB BC AY AT BD) ["term","depth","most"] (us.drop j):=⟨[.int 8 dt_run_0,.int 400 dt_run_1],.cons ⟨_,rfl⟩ (.cons ⟨_,rfl⟩ (.nil)),fun j hj=>match j,hj with | 0,_=>(fun s us kin hl=>(match us,(show us.length=1 by simpa using hl) with | [_],_=>W.binds_K kin rfl dl_run rfl rfl rfl)) | 1,_=>(fun s us kin hl=>(match us,(show us.length=2 by simpa using hl) with | [_,_],_=>W.binds_K kin rfl dl_run rfl rfl rfl)) | 2,_=>(fun s us kin hl=>(match us,(show us.length=3 by simpa using hl) with | [_,_,_],_=>W.binds_K kin rfl dl_run rfl rfl rfl)) | (j+3),h=>absurd h (by omega)⟩
 have M36:=W.mg_of X G a36
 have F37:=Z7 (st:=Xi) l37 c37 k37
 have B37:Binds K _ ["_law_script","_law_many"] []:=F37.binds (fun _ _ _ _ _ _ us hl=>match us,hl with | [_,_],_=>rfl)
 have M37:=W.mg_of X G a37
 have F38:=Z7 (st:=X3) l38 c38 k38
 have B38:Binds K _ ["_law_draws_here"] []:=F38.binds (fun _ _ _ _ _ _ us hl=>match us,hl with | [_],_=>rfl)
 have M38:=W.mg_of X G a38
 have F39:=Z7 (st:=Yv) l39 c39 k39
 have B39:Binds K _ ["_law_k"] []:=F39.binds (fun _ _ _ _ _ _ us hl=>match us,hl with | [_],_=>rfl)
 have M39:=W.mg_of X G a39
 have F40:=Z7 (st:=X4) l40 c40 k40
 have B40:Binds K _ ["_law_kind","_law_draw","_law_names"] []:=F40.binds (fun _ _ _ _ _ _ us hl=>match us,hl with | [_,_,_],_=>rfl)
 have M40:=W.mg_of X G a40
 have F41:=Z7 (st:=Xj) l41 c41 k41
 have B41:Binds K _ ["_law_names","_law_name","_law_kind"] []:=F41.binds (fun _ _ _ _ _ _ us hl=>match us,hl with | [_,_,_],_=>rfl)
 have M41:=W.mg_of X G a41
 have F42:=Z7 (st:=Zag) l42 c42 k42
 have B42:Binds K _ ["_law_kind","_law_draw","_law_draws_here","_law_names","_law_pool_here","_law_deep"] []:=F42.binds (fun _ _ _ _ _ _ us hl=>match us,hl with | [_,_,_,_,_,_],_=>rfl)
 have M42:=W.mg_of X G a42
 have F43:=Z7 (st:=Jz) l43 c43 k43
 have B43:Binds K _ ["_law_kind","_law_draw","_law_draws_here","_law_names","_law_pool_here","_law_deep"] []:=F43.binds (fun _ _ _ _ _ _ us hl=>match us,hl with | [_,_,_,_,_,_],_=>rfl)
 have M43:=W.mg_of X G a43
 have F44:=Z7 (st:=X1) l44 c44 k44
 have B44:Binds K _ ["_law_kind","_law_draws_here","_law_names","_law_pool_here","_law_deep"] []:=F44.binds (fun _ _ _ _ _ _ us hl=>match us,hl with | [_,_,_,_,_],_=>rfl)
 have M44:=W.mg_of X G a44
 have F45:=Z7 (st:=X6) l45 c45 k45
 have B45:Binds K _ [] []:=F45.binds (fun _ _ _ _ _ _ us hl=>match us,hl with | [],_=>rfl)
 have M45:=W.mg_of X G a45
 have F46:=Z7 (st:=Jy) l46 c46 k46
 have B46:Binds K _ ["_law_kind","_law_draws_here","_law_pool_here","_law_deep"] []:=F46.binds (fun _ _ _ _ _ _ us hl=>match us,hl with | [_,_,_,_],_=>rfl)
 have M46:=W.mg_of X G a46
 have F47:=Z7 (st:=Xh) l47 c47 k47
 have B47:Binds K _ ["_law_found"] []:=F47.binds (fun _ _ _ _ _ _ us hl=>match us,hl with | [_],_=>rfl)
 have M47:=W.mg_of X G a47
 have F48:=Z7 (st:=X2) l48 c48 k48
 have B48:Binds K _ ["_law_log","_law_most"] []:=F48.binds (fun _ _ _ _ _ _ us hl=>match us,hl with | [_,_],_=>rfl)
 have M48:=W.mg_of X G a48
 have F49:=Z7 (st:=Zdn) l49 c49 k49
 have B49:Binds K _ ["_law_script"] []:=F49.binds (fun _ _ _ _ _ _ us hl=>match us,hl with | [_],_=>rfl)
 have M49:=W.mg_of X G a49
 refine⟨W.fnOf "law" "law" (Zy Zdn) (Zm Zdn) (Zl Zdn) .none BQ BR BS AZ AU BT,fun s v=>.of_eq rfl,fun base _ _=>?_⟩
 have CS:∀n,Cs l.prog w K mg base n:=fun n=>by
  induction n with
  | zero=>exact⟨Ym F0 B0 M0,Ym F1 B1 M1,Ym F2 B2 M2,Ym F3 B3 M3,Ym F4 B4 M4,Ym F5 B5 M5,Ym F6 B6 M6,Ym F7 B7 M7,Ym F8 B8 M8,Ym F9 B9 M9,Ym F10 B10 M10,Ym F11 B11 M11,Ym F12 B12 M12,Ym F13 B13 M13,Ym F14 B14 M14,Ym F35 B35 M35,⟨_,_,Yl,B36,k36,M36⟩,Ym F37 B37 M37,Ym F38 B38 M38,Ym F39 B39 M39,Ym F40 B40 M40,Ym F41 B41 M41,Ym F42 B42 M42,Ym F43 B43 M43,Ym F44 B44 M44,Ym F45 B45 M45,Ym F46 B46 M46,Ym F47 B47 M47,Ym F48 B48 M48,Ym F49 B49 M49,Y8 Ab ⟨Ai,im15,k15⟩ Yl B15,Y8 Ab ⟨A3,im16,k16⟩ Yl B16,Y8 Ab ⟨As,im17,k17⟩ Yl B17,Y8 Ab ⟨At,im18,k18⟩ Yl B18,Y8 Ab ⟨Av,im19,k19⟩ Yl B19,Y8 Ab ⟨An,im20,k20⟩ Yl B20,Y8 Ab ⟨Aj,im21,k21⟩ Yl B21,Y8 Ab ⟨Ao,im22,k22⟩ Yl B22,Y8 Ab ⟨Ak,im23,k23⟩ Yl B23,Y8 Ab ⟨Ap,im24,k24⟩ Yl B24,Y8 Ab ⟨Au,im25,k25⟩ Yl B25,Y8 Ab ⟨Am,im26,k26⟩ Yl B26,Y8 Ab ⟨Ax,im27,k27⟩ Yl B27,Y8 Ab ⟨Ay,im28,k28⟩ Yl B28,Y8 Ab ⟨Ar,im29,k29⟩ Yl B29,Y8 Ab ⟨Az,im30,k30⟩ Yl B30,Y8 Ab ⟨A0,im31,k31⟩ Yl B31,Y8 Ab ⟨A1,im32,k32⟩ Yl B32,Y8 Ab ⟨Aw,im33,k33⟩ Yl B33,Y8 Ab ⟨Aq,im34,k34⟩ Yl B34,Z0m (j:=50) rfl Ab ⟨AI,Ai,im15,AH⟩⟩
  | succ n ih=>exact⟨Yn F0 B0 M0 (Zkv T ih F0),Yn F1 B1 M1 (Zkw T ih F1),Yn F2 B2 M2 (Ztf T ih F2),Yn F3 B3 M3 (Zkx T ih F3),Yn F4 B4 M4 (Zjl T ih F4),Yn F5 B5 M5 (Z29 T ih F5),Yn F6 B6 M6 (Zqs T ih F6),Yn F7 B7 M7 (Zqq T ih F7),Yn F8 B8 M8 (Zqr T ih F8),Yn F9 B9 M9 (Zov T ih F9),Yn F10 B10 M10 (Zou T ih F10),Yn F11 B11 M11 (Zv3 T ih F11),Yn F12 B12 M12 (Ztg T ih F12),Yn F13 B13 M13 (Zg6 T ih F13),Yn F14 B14 M14 (Zzj T ih F14),Yn F35 B35 M35 (Zms T ih F35),⟨_,_,Z28 T ih F36,B36,k36,M36⟩,Yn F37 B37 M37 (Zkz T ih F37),Yn F38 B38 M38 (Zmw T ih F38),Yn F39 B39 M39 (Zfo T ih F39),Yn F40 B40 M40 (Zmx T ih F40),Yn F41 B41 M41 (Zk0 T ih F41),Yn F42 B42 M42 (Zow T ih F42),Yn F43 B43 M43 (Zjn T ih F43),Yn F44 B44 M44 (Zmu T ih F44),Yn F45 B45 M45 (Zmy T ih F45),Yn F46 B46 M46 (Zjm T ih F46),Yn F47 B47 M47 (Zky T ih F47),Yn F48 B48 M48 (Zmv T ih F48),Yn F49 B49 M49 (Zv5 T ih F49),Y8 Ab ⟨Ai,im15,k15⟩ (Zgh T ih F15) B15,Y8 Ab ⟨A3,im16,k16⟩ (Zmz T ih F16) B16,Y8 Ab ⟨As,im17,k17⟩ (Zg9 T ih F17) B17,Y8 Ab ⟨At,im18,k18⟩ (Zg7 T ih F18) B18,Y8 Ab ⟨Av,im19,k19⟩ (Zh1 T ih F19) B19,Y8 Ab ⟨An,im20,k20⟩ (Zfq T ih F20) B20,Y8 Ab ⟨Aj,im21,k21⟩ (Ze0 T ih F21) B21,Y8 Ab ⟨Ao,im22,k22⟩ (Zfr T ih F22) B22,Y8 Ab ⟨Ak,im23,k23⟩ (Ze2 T ih F23) B23,Y8 Ab ⟨Ap,im24,k24⟩ (Zfp T ih F24) B24,Y8 Ab ⟨Au,im25,k25⟩ (Zg8 T ih F25) B25,Y8 Ab ⟨Am,im26,k26⟩ (Ze1 T ih F26) B26,Y8 Ab ⟨Ax,im27,k27⟩ (Zjr T ih F27) B27,Y8 Ab ⟨Ay,im28,k28⟩ (Zjp T ih F28) B28,Y8 Ab ⟨Ar,im29,k29⟩ (Zgg T ih F29) B29,Y8 Ab ⟨Az,im30,k30⟩ (Zjs T ih F30) B30,Y8 Ab ⟨A0,im31,k31⟩ (Zjo T ih F31) B31,Y8 Ab ⟨A1,im32,k32⟩ (Zjq T ih F32) B32,Y8 Ab ⟨Aw,im33,k33⟩ (Zip T ih F33) B33,Y8 Ab ⟨Aq,im34,k34⟩ (Zfs T ih F34) B34,Z0o (j:=50) rfl Ab AI AH ih.zcf⟩
 exact Zv5 T (CS (59)) F49
end K34
namespace WL
open PySem PySem.Spec PyProof.Rows L2
def Ex (C C':Hw):Prop:=∀a o,C a=some o→C' a=some o
theorem Ex.refl (C:Hw):Ex C C:=fun _ _ h=>h
theorem Ex.trans {C C1 C2:Hw}(a:Ex C C1)(b:Ex C1 C2):Ex C C2:=fun c o h=>b c o (a c o h)
theorem cne {C:Hw}{a b:Addr}{o:O}(h:C a=some o)(h':C b=none):a≠b:=fun e=>by subst e;rw[h] at h';cases h'
theorem Ex.new {C:Hw}{p:Addr}{o:O}(h:C p=none):Ex C (up C p o):=fun a u e=>by rw[Zw (cne e h)];exact e
theorem Ex.up {C C':Hw}{p:Addr}{o:O}(e:Ex C C')(h:C p=none):Ex C (up C' p o):=fun a u q=>by rw[Zw (cne q h)];exact e a u q
theorem fr1 {C:Hw}{p q:Addr}{o:O}(h:up C p o q=none):q≠p∧C q=none:=by
 have n:q≠p:=fun z=>by subst z;rw[Zn] at h;cases h
 rw[Zw n] at h
 exact⟨n,h⟩
theorem Ex.free {C C':Hw}(e:Ex C C'){p:Addr}(h:C' p=none):C p=none:=by
 cases q:C p with
 | none=>rfl
 | some o=>rw[e p o q] at h;cases h
def ExB (p:Addr)(C C':Hw):Prop:=∀a o,a≠p→C a=some o→C' a=some o
theorem ExB.refl (p:Addr)(C:Hw):ExB p C C:=fun _ _ _ h=>h
theorem ExB.trans {p:Addr}{C C1 C2:Hw}(a:ExB p C C1)(b:ExB p C1 C2):ExB p C C2:=fun c o n h=>b c o n (a c o n h)
theorem Ex.exB {C C':Hw}(e:Ex C C')(p:Addr):ExB p C C':=fun a o _ h=>e a o h
theorem ExB.put {p:Addr}{C C':Hw}{o:O}(e:ExB p C C'):ExB p C (WL.up C' p o):=fun a u n h=>by rw[Zw n];exact e a u n h
theorem ExB.new {p q:Addr}{C C':Hw}{o:O}(e:ExB p C C')(h:C q=none):ExB p C (WL.up C' q o):=fun a u n z=>by rw[Zw (cne z h)];exact e a u n z
theorem Zfg:∀{xs:List T} {n:Nat},flats xs n=true↔∀x∈xs,flat x n=true
 | [],n=>by unfold flats;simp
 | x::xs,n=>by unfold flats;rw[Bool.and_eq_true,Zfg];simp
theorem Zj5 {xs:List T}{n:Nat}(h:∀x∈xs,flat x n=true):flat (.tup xs) (n+1)=true:=by unfold flat;exact Zfg.mpr h
theorem Zb5 {x:Str}{n:Nat}:flat (.str x) n=true:=by unfold flat;rfl
theorem Zpk {x:Int}{n:Nat}:flat (.int x) n=true:=by unfold flat;rfl
theorem Zsc {x:Bool}{n:Nat}:flat (.bl x) n=true:=by unfold flat;rfl
theorem Zj0 {x:Str}:Jn (.str x)=True:=eq_true Zb5
theorem Zj1 {x:Int}:Jn (.int x)=True:=eq_true Zpk
theorem Zlq {x:Bool}:Jn (.bl x)=True:=eq_true Zsc
theorem Zra {xs:List Str}{n:Nat}:flats (xs.map T.str) n=true:=Zfg.mpr fun x hx=>by obtain⟨y,_,rfl⟩:=XR.mp hx;exact Zb5
section
variable {n:Bool}{C:Hw}{Q:WK}
theorem Zbd {a b:Str}:wEqG n (.str a) (.str b) C Q=Q (.bl (if n=true then !(a==b) else a==b)) C:=by
 show(Jn _∧Jn _∧Q (.bl (if n=true then !eqT (.str a) (.str b) else eqT (.str a) (.str b))) C)=_
 rw[Zj0,Zj0,true_and,true_and,show eqT (.str a) (.str b)=(a==b) by unfold eqT;rfl]
theorem Zl5 {a b:Int}:wEqG n (.int a) (.int b) C Q=Q (.bl (if n=true then !(a==b) else a==b)) C:=by
 show(Jn _∧Jn _∧Q (.bl (if n=true then !eqT (.int a) (.int b) else eqT (.int a) (.int b))) C)=_
 rw[Zj1,Zj1,true_and,true_and,show eqT (.int a) (.int b)=(a==b) by unfold eqT;rfl]
theorem Zp4 {a b:Bool}:wEqG n (.bl a) (.bl b) C Q=Q (.bl (if n=true then !(a==b) else a==b)) C:=by
 show(Jn _∧Jn _∧Q (.bl (if n=true then !eqT (.bl a) (.bl b) else eqT (.bl a) (.bl b))) C)=_
 rw[Zlq,Zlq,true_and,true_and,show eqT (.bl a) (.bl b)=(a==b) by unfold eqT;rfl]
end
section
variable {α:Type}{a b c d e:α}{xs:List α}
theorem erase0:(a::xs).eraseIdx 0=xs:=rfl
theorem Yb:atI (a::xs) 0=some a:=Zfk (j:=0) rfl
theorem Yu:atI (a::b::xs) 1=some b:=Zfk (j:=1) rfl
theorem Zaj:atI (a::b::c::xs) 2=some c:=Zfk (j:=2) rfl
theorem Zl0:atI (a::b::c::d::xs) 3=some d:=Zfk (j:=3) rfl
theorem Z1d:atI (a::b::c::d::e::xs) 4=some e:=Zfk (j:=4) rfl
theorem Z4m:atI [a] (-1)=some a:=rfl
theorem Z4l:atI [a,b] (-1)=some b:=rfl
theorem Z4k:atI [a,b,c] (-1)=some c:=rfl
theorem Z4j:atI [a,b,c,d] (-1)=some d:=rfl
end
theorem Zcj {g:WG}{b:WS}{ok:Hw→Prop}{D:We}{xs:List T}(Pv:Nat→Sw→Hw→Prop){τ:Sw}{C:Hw}(h0:Pv 0 τ C)(hok:∀i τ C,i≤xs.length→Pv i τ C→ok C)
  (hs:∀i x τ C (N:Sw→Hw→Prop),xs[i]?=some x→Pv i τ C→(∀τ' C',Pv (i+1) τ' C'→N τ' C')→g x τ C (fun τ2 C2=>b {D with nx:=N,ct:=N,bk:=D.nx} τ2 C2) D.xc)
  (hd:∀τ C,Pv xs.length τ C→D.nx τ C):forW g b ok D xs τ C:=by
 have key:∀(k i:Nat) (τ:Sw) (C:Hw),xs.length-i=k→i≤xs.length→Pv i τ C→forW g b ok D (xs.drop i) τ C:=by
  intro k
  induction k with
  | zero=>
   intro i τ C hk hi hp
   have e:i=xs.length:=by omega
   subst e
   rw[List.drop_length]
   exact⟨hok _ τ C (XE _) hp,hd τ C hp⟩
  | succ k ih=>
   intro i τ C hk hi hp
   have hlt:i<xs.length:=by omega
   rw[List.drop_eq_getElem_cons hlt]
   exact⟨hok i τ C hi hp,hs i _ τ C _ (by simp[hlt]) hp fun τ' C' h=>ih (i+1) τ' C' (by omega) hlt h⟩
 exact key xs.length 0 τ C (by simp) (Nat.zero_le _) h0
theorem Zrt (lo:Int)(n:Nat):(rng lo n).length=n:=by unfold rng;simp
theorem Zyn {lo:Int}{n i:Nat}{x:T}(h:(rng lo n)[i]?=some x):i<n∧x=.int (lo+i):=by
 have hi:i<n:=by
  have:=(List.getElem?_eq_some_iff.mp h).1
  rw[Zrt] at this;exact this
 unfold rng at h
 rw[XM,List.getElem?_range hi] at h
 cases h
 exact⟨hi,rfl⟩
theorem Znl {g:WG}{b:WS}{ok:Hw→Prop}{D:We}{lo:Int}{n:Nat}(Pv:Nat→Sw→Hw→Prop){τ:Sw}{C:Hw}(h0:Pv 0 τ C)(hok:∀C,ok C)
  (hs:∀i τ C (N:Sw→Hw→Prop),i<n→Pv i τ C→(∀τ' C',Pv (i+1) τ' C'→N τ' C')→g (.int (lo+i)) τ C (fun τ2 C2=>b {D with nx:=N,ct:=N,bk:=D.nx} τ2 C2) D.xc)
  (hd:∀τ C,Pv n τ C→D.nx τ C):forW g b ok D (rng lo n) τ C:=by
 refine Zcj Pv h0 (fun _ _ C _ _=>hok C) (fun i x τ C N hx hp hN=>?_) (fun τ C h=>hd τ C (by rw[Zrt] at h;exact h))
 obtain⟨hi,rfl⟩:=Zyn hx
 exact hs i τ C N hi hp hN
theorem Zpu {g:WG}{c:WT}{e:WE}{ok:Hw→Prop}{τ:Sw}{Q:List T→Hw→Prop}{χ:WX}{xs:List T}(Pv:Nat→List T→Hw→Prop){C:Hw}(h0:Pv 0 [] C)(hok:∀i acc C,i≤xs.length→Pv i acc C→ok C)
  (hs:∀i x acc C (N:List T→Hw→Prop),xs[i]?=some x→Pv i acc C→(∀acc' C',Pv (i+1) acc' C'→N acc' C')→
   g x τ C (fun τ2 C2=>c τ2 C2 (fun b C3=>if b=true then e τ2 C3 (fun v C4=>acc.length<sizeLine∧N (acc++[v]) C4) χ else N acc C3) χ) χ)
  (hd:∀acc C,Pv xs.length acc C→Q acc C):Zhn g c e ok τ Q χ xs [] C:=by
 have key:∀(k i:Nat) (acc:List T) (C:Hw),xs.length-i=k→i≤xs.length→Pv i acc C→Zhn g c e ok τ Q χ (xs.drop i) acc C:=by
  intro k
  induction k with
  | zero=>
   intro i acc C hk hi hp
   have e:i=xs.length:=by omega
   subst e
   rw[List.drop_length]
   exact⟨hok _ acc C (XE _) hp,hd acc C hp⟩
  | succ k ih=>
   intro i acc C hk hi hp
   have hlt:i<xs.length:=by omega
   rw[List.drop_eq_getElem_cons hlt]
   exact⟨hok i acc C hi hp,hs i _ acc C _ (by simp[hlt]) hp fun acc' C' h=>ih (i+1) acc' C' (by omega) hlt h⟩
 exact key xs.length 0 [] C (by simp) (Nat.zero_le _) h0
theorem Znr {g:WG}{c:WT}{e:WE}{ok:Hw→Prop}{τ:Sw}{Q:List T→Hw→Prop}{χ:WX}{xs:List T}(f:T→Option T){C:Hw}(hok:ok C)(hl:xs.length≤sizeLine)
  (hs:∀x∈xs,∀(R:WK) (N:Hw→Prop),(∀v,f x=some v→R v C)→(f x=none→N C)→g x τ C (fun τ2 C2=>c τ2 C2 (fun b C3=>if b=true then e τ2 C3 R χ else N C3) χ) χ) (hd:Q (xs.filterMap f) C):Zhn g c e ok τ Q χ xs [] C:=by
 refine Zpu (fun i acc C'=>C'=C∧acc=(xs.take i).filterMap f) ⟨rfl,rfl⟩ (fun i acc C' _ h=>by rw[h.1];exact hok) (fun i x acc C' N hx hp hN=>?_) (fun acc C' h=>?_)
 ·obtain⟨rfl,rfl⟩:=hp
  have hi:i<xs.length:=(List.getElem?_eq_some_iff.mp hx).1
  refine hs x (List.mem_of_getElem? hx) _ _ (fun v hv=>⟨?_,hN _ _ ⟨rfl,?_⟩⟩) (fun hv=>hN _ _ ⟨rfl,?_⟩)
  ·have:=List.length_filterMap_le f (xs.take i)
   rw[YM] at this
   omega
  ·rw[YD,hx,List.filterMap_append]
   simp[hv]
  ·rw[YD,hx,List.filterMap_append]
   simp[hv]
 ·obtain⟨rfl,rfl⟩:=h
  rw[List.take_length];exact hd
theorem Zbq {g:WG}{e:WE}{ok:Hw→Prop}{τ:Sw}{Q:List T→Hw→Prop}{χ:WX}{xs:List T}(f:T→T){C:Hw}(hok:ok C)(hl:xs.length≤sizeLine)
  (hs:∀x∈xs,∀R:WK,R (f x) C→g x τ C (fun τ2 C2=>e τ2 C2 R χ) χ) (hd:Q (xs.map f) C):Zhn g tYes e ok τ Q χ xs [] C:=by
 refine Zpu (fun i acc C'=>C'=C∧acc=(xs.take i).map f) ⟨rfl,rfl⟩ (fun i acc C' _ h=>by rw[h.1];exact hok) (fun i x acc C' N hx hp hN=>?_) (fun acc C' h=>?_)
 ·obtain⟨rfl,rfl⟩:=hp
  have hi:i<xs.length:=(List.getElem?_eq_some_iff.mp hx).1
  refine hs x (List.mem_of_getElem? hx) _ ⟨?_,hN _ _ ⟨rfl,?_⟩⟩
  ·rw[XI,YM];omega
  ·rw[YD,hx,XL];rfl
 ·obtain⟨rfl,rfl⟩:=h
  rw[List.take_length];exact hd
theorem Zww {z:Str}{zs:List Str}:inL (.str z) (zs.map T.str)=decide (z∈zs):=by
 unfold inL
 rw[List.any_map]
 induction zs with
 | nil=>rfl
 | cons y ys ih=>
  rw[List.any_cons,ih]
  have e:(((fun y=>eqT y (.str z))∘T.str) y)=(y==z):=by show eqT (.str y) (.str z)=_;unfold eqT;rfl
  rw[e]
  by_cases h:y=z
  ·subst h;simp
  ·have h':z≠y:=fun q=>h q.symm
   simp[h,h']
theorem Zx6 {n:Bool}{z:Str}{a:Addr}{zs:List Str}{C:Hw}{Q:WK}(h:C a=some (.lst (zs.map T.str)))(q:Q (.bl (if n=true then !decide (z∈zs) else decide (z∈zs))) C):wInG n (.str z) (.ref a) C Q:=
 ⟨zs.map T.str,h,Zb5,Zra,by rw[Zww];exact q⟩
theorem Zxv {ds:List Int}{i:Int}(h0:0≤i)(h1:i<(ds.length:Int)):∃d,atI (ds.map T.int) i=some (.int d)∧d∈ds:=by
 obtain⟨v,h,m⟩:=Zic (xs:=ds.map T.int) h0 (by simpa using h1)
 obtain⟨d,hd,rfl⟩:=XR.mp m
 exact⟨d,h,hd⟩
theorem popL {ds:List Int}(h:0<ds.length):∃d,(ds.map T.int)[(ds.map T.int).length-1]?=some (.int d)∧d∈ds∧(ds.map T.int).dropLast=ds.dropLast.map T.int∧ds.dropLast.length=ds.length-1∧∀x∈ds.dropLast,x∈ds:=by
 have hlt:ds.length-1<ds.length:=by omega
 refine⟨ds[ds.length-1],?_,YN hlt,?_,List.length_dropLast,fun x hx=>(List.dropLast_sublist ds).subset hx⟩
 ·rw[XI,XM,List.getElem?_eq_getElem hlt];rfl
 ·rw[List.map_dropLast]
theorem seq0 {n:Nat}(h:0<n):seqIndex? 0 n=some 0:=by
 have:=(Zr7 (n:=n) (i:=0) (j:=0) (by unfold ixN;simp;omega)).1
 exact this
theorem small63 {n:Nat}(h:n≤100000):n≤sizeLine:=XN h (by decide)
theorem small63' {n:Nat}(h:n≤100000):n<sizeLine:=Nat.lt_of_le_of_lt h (by decide)
end WL
namespace K34
open PySem PySem.Spec PyProof.Rows L2 WL
local macro_rules | `(tactic| walk_at "ws") => `(tactic| try simp (config := { decide := true }) only [Zd, eC, Zh, eUn, Zf, Zb, Zv, Xs, Z5, eBi, eMt, eIf, eAnd, eOr, eNot, tTru, tBl, tAn, tOr', tNo, Zh9, wAdd, Jl, wMul, wDiv, Jt, wPow, wNeg, wLt, wLe, wGt, wGe, wIsN, Zn5, Zu, oNo, Zdd, wSl, eSl, bLen, bMax, bMin, Zgo, Zsn, eIsi, tyN, gNm, Zdy, Js, gTp, gSb, Z6, Zq, Yt, Ya, Zop, sIf, Z3, sBrk, Zvd, Zqh, sFor, iSeq, iR1, iR2, iEn, capW, tYes, Za6, tyL', tyS, Xc, mPop, Zq0, wEq, wNe, wIn, Zp3, Zbd, Zl5, erase0, Yb, Yu, Zaj, Zl0, Z1d, Z4m, Z4l, Z4k, Z4j, Zp4,
  List.map_cons, List.map_nil, List.length_cons, List.length_nil, List.replicate, List.cons_append, List.nil_append, List.getElem?_cons_zero, List.getElem?_cons_succ, List.set_cons_zero, List.set_cons_succ, Option.some.injEq, T.int.injEq, T.str.injEq, T.bl.injEq, T.ref.injEq, T.tup.injEq, T.cl.injEq, exists_eq_left', exists_eq_left, exists_eq', exists_and_left, and_assoc, List.cons.injEq, and_true, true_and, reduceCtorEq, false_and, exists_false, List.append_nil, if_true, if_false, Bool.not_not, decide_eq_true_eq, Bool.not_eq_true', decide_eq_false_iff_not, Bool.false_eq_true, List.nil_eq, Option.bind_none, Option.bind_some, Option.join_some, Nat.reduceAdd, Nat.reduceSub, Nat.sub_self, Nat.zero_add, Nat.sub_zero, beq_iff_eq, Bool.not_false, Bool.not_true])
section
variable {A B:WS}{D:We}{τ:Sw}{C:Hw}{i k:Nat}{v:T}{r:List T}{s s' w:Str}{x y:Int}
theorem k_a0 (h:τ[0]?=some (some (.tup (v::r))))(q:B D (τ.set k (some v)) C):Zq (Z3 (Zh Zu (Zd 0) (eC (.int 0))) (gNm k)) B D τ C:=⟨_,h,_,Yb,q⟩
theorem Zdw (h:τ[i]?=some (some (.str w)))(hw:w=s)(q:A {D with nx:=B D} τ C):Zq (sIf (tBl (Zh wEq (Zd i) (eC (.str s)))) A Z6) B D τ C:=by
 refine⟨_,h,?_⟩
 simp only[eC]
 rw[wEq,Zbd,hw]
 refine⟨true,by simp,?_⟩
 rw[XY rfl];exact q
theorem k_no (h:τ[i]?=some (some (.str w)))(hw:w≠s)(q:B D τ C):Zq (sIf (tBl (Zh wEq (Zd i) (eC (.str s)))) A Z6) B D τ C:=by
 refine⟨_,h,?_⟩
 simp only[eC]
 rw[wEq,Zbd]
 refine⟨false,by simp[hw],?_⟩
 rw[XX (by decide)];exact q
theorem Zq2 (h:τ[i]?=some (some (.str w)))(hw:w=s∨w=s')(q:A {D with nx:=B D} τ C):Zq (sIf (tOr' (tBl (Zh wEq (Zd i) (eC (.str s)))) (tBl (Zh wEq (Zd i) (eC (.str s'))))) A Z6) B D τ C:=by
 refine⟨_,h,?_⟩
 simp only[eC]
 rw[wEq,Zbd]
 by_cases c:w=s
 ·refine⟨true,by simp[c],?_⟩
  rw[XY rfl];exact q
 ·refine⟨false,by simp[c],?_⟩
  rw[XX (by decide)]
  refine⟨_,h,?_⟩
  simp only[eC]
  rw[Zbd]
  have c':w=s':=hw.resolve_left c
  refine⟨true,by simp[c'],?_⟩
  rw[XY rfl];exact q
theorem Zf4 (h:τ[i]?=some (some (.str w)))(hw:w≠s)(hw':w≠s')(q:B D τ C):Zq (sIf (tOr' (tBl (Zh wEq (Zd i) (eC (.str s)))) (tBl (Zh wEq (Zd i) (eC (.str s'))))) A Z6) B D τ C:=by
 refine⟨_,h,?_⟩
 simp only[eC]
 rw[wEq,Zbd]
 refine⟨false,by simp[hw],?_⟩
 rw[XX (by decide)]
 refine⟨_,h,?_⟩
 simp only[eC]
 rw[Zbd]
 refine⟨false,by simp[hw'],?_⟩
 rw[XX (by decide)];exact q
theorem Zwp (h:τ[0]?=some (some (.tup (.str w::r))))(hw:w=s)(q:A {D with nx:=B D} τ C):Zq (sIf (tBl (Zh wEq (Zh Zu (Zd 0) (eC (.int 0))) (eC (.str s)))) A Z6) B D τ C:=by
 refine⟨_,h,_,Yb,?_⟩
 simp only[eC]
 rw[wEq,Zbd,hw]
 refine⟨true,by simp,?_⟩
 rw[XY rfl];exact q
theorem Zwq (h:τ[0]?=some (some (.tup (.str w::r))))(hw:w≠s)(q:B D τ C):Zq (sIf (tBl (Zh wEq (Zh Zu (Zd 0) (eC (.int 0))) (eC (.str s)))) A Z6) B D τ C:=by
 refine⟨_,h,_,Yb,?_⟩
 simp only[eC]
 rw[wEq,Zbd]
 refine⟨false,by simp[hw],?_⟩
 rw[XX (by decide)];exact q
end
def sorts:List Str:=["does","call","first","fun","let","shape","choose","rows"]
inductive Sc:T→Option Nat→List (List T×T)→Prop
 | does {o A B:T}:Sc (.tup [.str "does",o,A,B]) none [([],A),([],B)]
 | call {A B:T}:Sc (.tup [.str "call",A,B]) none [([],A),([],B)]
 | first {A B:T}:Sc (.tup [.str "first",A,B]) none [([],A),([],B)]
 | fun_ {x B:T}:Sc (.tup [.str "fun",x,B]) none [([x],B)]
 | let_ {B:T} {xs:List (T×T)} (h:xs.length≤1000):Sc (.tup [.str "let",.tup (xs.map fun x=>.tup [x.1,x.2]),B]) none (xs.map (fun x=>(xs.map (·.1),x.2))++[(xs.map (·.1),B)])
 | shape {c:T} {ps:List T} (h:ps.length≤1000):Sc (.tup [.str "shape",c,.tup ps]) none (ps.map fun x=>([],x))
 | choose {E:T} {ys:List (T×List T×T)} (h:ys.length≤1000):Sc (.tup [.str "choose",E,.tup (ys.map fun y=>.tup [y.1,.tup y.2.1,y.2.2])]) none (([],E)::ys.map (·.2))
 | other {w:Str} {rest:List T} (h:w∉sorts):Sc (.tup (.str w::rest)) none []
def scT (s:List T×T):T:=.tup [.tup s.1,s.2]
section
variable {C:Hw}{Q:WK}{χ:WX}{n:Nat}
theorem Zml {B:T}{xs:List (T×T)}(h:xs.length≤1000)(q:∀p C',Ex C C'→C p=none→C' p=some (.lst ((xs.map (fun x=>(xs.map (·.1),x.2))++[(xs.map (·.1),B)]).map scT))→Q (.ref p) C'):
  wpc pr (n+1) Znd [.tup (xs.map fun x=>.tup [x.1,x.2]),B] C Q χ:=by
 refine Zl8 rfl ?_
 unfold Zba
 walk_at "ws"
 have hl:(xs.map fun x:T×T=>T.tup [x.1,x.2]).length≤sizeLine:=by rw[XI];exact small63 (by omega)
 refine Zbq (fun t=>match t with | .tup [a,_]=>a | _=>.non) trivial hl (fun x hx R hR=>?_) fun p hp=>?_
 ·obtain⟨y,_,rfl⟩:=XR.mp hx
  walk_at "ws"
  exact hR
 refine⟨_,Zn,?_⟩
 have e:(xs.map fun x:T×T=>T.tup [x.1,x.2]).map (fun t=>match t with | .tup [a,_]=>a | _=>T.non)=xs.map (·.1):=by rw[YE];rfl
 rw[e]
 refine Zbq (fun t=>match t with | .tup [_,b]=>.tup [.tup (xs.map (·.1)),b] | _=>.non) trivial hl (fun x hx R hR=>?_) fun p2 hp2=>?_
 ·obtain⟨y,_,rfl⟩:=XR.mp hx
  walk_at "ws"
  exact hR
 intro p3 hp3
 obtain⟨n2,e2⟩:=fr1 hp2
 obtain⟨n32,h32⟩:=fr1 hp3
 obtain⟨n31,e3⟩:=fr1 h32
 refine⟨_,by rw[Zw n32.symm];exact Zn,_,Zn,?_,fun p4 hp4=>?_⟩
 ·rw[XI,XI];exact small63 (by show xs.length+1≤100000;omega)
 ·obtain⟨n43,h43⟩:=fr1 hp4
  obtain⟨n42,h42⟩:=fr1 h43
  obtain⟨n41,e4⟩:=fr1 h42
  refine q p4 _ ((((Ex.new hp).up e2).up e3).up e4) e4 ?_
  rw[Zn,XL,YE,YE]
  rfl
theorem Zu3 {t:T}{e:Option Nat}{ss:List (List T×T)}(h:Sc t e ss)(q:∀p C',Ex C C'→C p=none→C' p=some (.lst (ss.map scT))→Q (.ref p) C'):wpc pr (n+2) Zwx [t] C Q χ:=by
 refine Zuc rfl ?_
 unfold Zef
 cases h with
 | does=>refine k_a0 rfl (Zdw rfl rfl ?_);walk_at "ws";exact fun p hp=>q p _ (Ex.new hp) hp Zn
 | call=>refine k_a0 rfl (k_no rfl (by decide+kernel) (Zq2 rfl (.inl rfl) ?_));walk_at "ws";exact fun p hp=>q p _ (Ex.new hp) hp Zn
 | first=>refine k_a0 rfl (k_no rfl (by decide+kernel) (Zq2 rfl (.inr rfl) ?_));walk_at "ws";exact fun p hp=>q p _ (Ex.new hp) hp Zn
 | fun_=>refine k_a0 rfl (k_no rfl (by decide+kernel) (Zf4 rfl (by decide+kernel) (by decide+kernel) (Zdw rfl rfl ?_)));walk_at "ws";exact fun p hp=>q p _ (Ex.new hp) hp Zn
 | let_ h=>refine k_a0 rfl (k_no rfl (by decide+kernel) (Zf4 rfl (by decide+kernel) (by decide+kernel) (k_no rfl (by decide+kernel) (Zdw rfl rfl ?_))));walk_at "ws";exact Zml h q
 | shape h=>
  refine k_a0 rfl (k_no rfl (by decide+kernel) (Zf4 rfl (by decide+kernel) (by decide+kernel) (k_no rfl (by decide+kernel) (k_no rfl (by decide+kernel) (Zdw rfl rfl ?_)))))
  walk_at "ws"
  refine Zbq (fun t=>.tup [.tup [],t]) trivial (small63 (by omega)) (fun x hx R hR=>?_) fun p hp=>q p _ (Ex.new hp) hp ?_
  ·walk_at "ws"
   exact hR
  ·rw[Zn,YE];rfl
 | @choose E ys h=>
  refine k_a0 rfl (k_no rfl (by decide+kernel) (Zf4 rfl (by decide+kernel) (by decide+kernel) (k_no rfl (by decide+kernel) (k_no rfl (by decide+kernel) (k_no rfl (by decide+kernel) (Zdw rfl rfl ?_))))))
  walk_at "ws"
  intro p hp
  refine Zbq (fun t=>match t with | .tup [_,a,b]=>.tup [a,b] | _=>.non) trivial (by rw[XI];exact small63 (by omega)) (fun x hx R hR=>?_) fun p2 hp2=>?_
  ·obtain⟨y,_,rfl⟩:=XR.mp hx
   walk_at "ws"
   exact hR
  obtain⟨n2,e2⟩:=fr1 hp2
  refine⟨_,by rw[Zw n2.symm];exact Zn,_,Zn,?_,fun p3 hp3=>?_⟩
  ·rw[XI,XI];exact small63 (by show 1+_≤_;omega)
  ·obtain⟨n32,h32⟩:=fr1 hp3
   obtain⟨n31,e3⟩:=fr1 h32
   refine q p3 _ (((Ex.new hp).up e2).up e3) e3 ?_
   rw[Zn,YI,YE,YE];rfl
 | @other w rest h=>
  have hw:∀s∈sorts,w≠s:=fun s hs z=>h (z▸hs)
  refine k_a0 rfl (k_no rfl (hw "does" (by decide)) (Zf4 rfl (hw "call" (by decide)) (hw "first" (by decide)) (k_no rfl (hw "fun" (by decide)) (k_no rfl (hw "let" (by decide)) (k_no rfl (hw "shape" (by decide)) (k_no rfl (hw "choose" (by decide)) (k_no rfl (hw "rows" (by decide)) ?_)))))))
  walk_at "ws"
  exact fun p hp=>q p _ (Ex.new hp) hp Zn
end
section
variable {C:Hw}{Q:WK}{χ:WX}{τ:Sw}
theorem Jj {p q:Prop}(h:p):if true=true then p else q:=h
theorem Ye {p q:Prop}(h:q):if false=true then p else q:=h
theorem Zf6 {p q:Prop}{b:Bool}(hb:b=true)(h:p):if b=true then p else q:=by rw[XY hb];exact h
theorem Zee {p q:Prop}{b:Bool}(hb:b=false)(h:q):if b=true then p else q:=by subst hb;exact h
theorem eqS {a b:Str}{v:Bool}(h:(a==b)=v)(q:Q (.bl v) C):wEqG false (.str a) (.str b) C Q:=by rw[Zbd,XX (by decide),h];exact q
theorem eqI {a b:Int}{v:Bool}(h:(a==b)=v)(q:Q (.bl v) C):wEqG false (.int a) (.int b) C Q:=by rw[Zl5,XX (by decide),h];exact q
theorem neS {a b:Str}{v:Bool}(h:(a==b)=v)(q:Q (.bl (!v)) C):wEqG true (.str a) (.str b) C Q:=by rw[Zbd,XY rfl,h];exact q
theorem neI {a b:Int}{v:Bool}(h:(a==b)=v)(q:Q (.bl (!v)) C):wEqG true (.int a) (.int b) C Q:=by rw[Zl5,XY rfl,h];exact q
theorem J5 {a b:Str}{v:Bool}(h:(a==b)=v)(q:Q (.bl v) C):eC (.str b) τ C (fun y C2=>wEq (.str a) y C2 Q) χ:=eqS h q
theorem eqIc {a b:Int}{v:Bool}(h:(a==b)=v)(q:Q (.bl v) C):eC (.int b) τ C (fun y C2=>wEq (.int a) y C2 Q) χ:=eqI h q
theorem neSc {a b:Str}{v:Bool}(h:(a==b)=v)(q:Q (.bl (!v)) C):eC (.str b) τ C (fun y C2=>wNe (.str a) y C2 Q) χ:=neS h q
theorem neIc {a b:Int}{v:Bool}(h:(a==b)=v)(q:Q (.bl (!v)) C):eC (.int b) τ C (fun y C2=>wNe (.int a) y C2 Q) χ:=neI h q
end
open PySem PySem.Spec PyProof.Rows L2 WL
abbrev Ms:=List (Str×T)
def dm (M:Ms):List (Key×T):=M.map fun kv=>((Sum.inr kv.1:Key),kv.2)
def less (M:Ms)(ns:List Str):Ms:=M.filter fun kv=>decide (kv.1∉ns)
theorem Zbf {M:Ms}:less M []=M:=by unfold less;simp
theorem Ztp {M:Ms}{a b:List Str}:less (less M a) b=less M (a++b):=by
 unfold less
 rw[List.filter_filter]
 refine List.filter_congr fun kv _=>?_
 simp only[List.mem_append,not_or]
 by_cases h1:kv.1∈a<;>by_cases h2:kv.1∈b<;>simp[h1,h2]
theorem Znn {M:Ms}{x:Str}:getT (dm M) (.inr x)=(M.find? fun kv=>decide (kv.1=x)).map (·.2):=by
 unfold getT dm
 rw[List.find?_map,Option.map_map]
 congr 1
 congr 1
 funext kv
 simp
theorem Zsh {M:Ms}{x:Str}:getT (dm M) (.inr x)=none↔x∉M.map (·.1):=by
 rw[Znn,Option.map_eq_none_iff,List.find?_eq_none]
 constructor
 ·intro h hx
  obtain⟨kv,h1,rfl⟩:=XR.mp hx
  exact h kv h1 (by simp)
 ·intro h kv h1 h2
  exact h (List.mem_map.mpr ⟨kv,h1,by simpa using h2⟩)
theorem Z1c:∀{M:Ms} {i:Nat} {kv:Str×T},(M.map (·.1)).Nodup→M[i]?=some kv→getT (dm M) (.inr kv.1)=some kv.2
 | [],_,_,_,h=>by simp at h
 | z::M,0,kv,_,h=>by simp at h;subst h;rw[Znn];simp
 | z::M,i+1,kv,hn,h=>by
  rw[YI,List.nodup_cons] at hn
  have h':M[i]?=some kv:=by simpa using h
  have ne:¬z.1=kv.1:=fun e=>hn.1 (e▸XR.mpr ⟨kv,List.mem_of_getElem? h',rfl⟩)
  have ih:=Z1c hn.2 h'
  rw[Znn] at ih ⊢
  rw[List.find?_cons_of_neg (by simpa using ne)]
  exact ih
theorem Z0d {M:Ms}{x:Str}:Zpp (dm M) (.inr x)=dm (less M [x]):=by
 unfold Zpp dm less
 rw[List.filter_map]
 congr 1
 refine List.filter_congr fun kv _=>?_
 simp
theorem Zlm {M:Ms}{ns:List Str}(h:∀x∈ns,x∉M.map (·.1)):less M ns=M:=by
 unfold less
 rw[List.filter_eq_self]
 intro kv hk
 simp only[decide_eq_true_eq]
 exact fun hn=>h _ hn (XR.mpr ⟨kv,hk,rfl⟩)
theorem Zxd {L:Ms}{x:Str}{v:T}(h:x∉L.map (·.1)):putT (dm L) (.inr x) v=dm (L++[(x,v)]):=by
 unfold putT
 rw[XX]
 ·unfold dm;rw[XL];rfl
 ·rw[List.any_eq_true]
  rintro⟨kv,hk,e⟩
  unfold dm at hk
  obtain⟨z,hz,rfl⟩:=XR.mp hk
  exact h (List.mem_map.mpr ⟨z,hz,by simpa using e⟩)
theorem Zxe {M:Ms}:(dm M).length=M.length:=by unfold dm;simp
theorem Z36 {M:Ms}:(dm M).length=0↔M=[]:=by rw[Zxe,List.length_eq_zero_iff]
theorem _root_.WL.RdC.ex {C C':Hw}{a:Addr}{k:List (Key×T)}(h:RdC C a k)(e:Ex C C'):RdC C' a k:=h.imp (e _ _) (e _ _)
section
variable {C:Hw}{Q:WK}{χ:WX}{n:Nat}
theorem Zs2 {a:Addr}{M:Ms}{ns:List Str}(h5:ns.length≤1000)(ha:RdC C a (dm M))(q:∀p C',Ex C C'→RdC C' p (dm (less M ns))→Q (.ref p) C'):
  wpc pr (n+1) Ztu [.ref a,.tup (ns.map T.str)] C Q χ:=by
 refine Zsx rfl ?_
 unfold Zdp
 walk_at "ws"
 refine Zbq (fun t=>match t with | .str x=>.bl (getT (dm M) (.inr x)).isSome | _=>.non) trivial (by rw[XI];exact small63 (by omega)) (fun x hx R hR=>?_) fun p hp=>?_
 ·obtain⟨y,_,rfl⟩:=XR.mp hx
  walk_at "ws"
  exact⟨a,dm M,.inr y,rfl,rfl,ha,hR⟩
 have e:(ns.map T.str).map (fun t=>match t with | .str x=>T.bl (getT (dm M) (.inr x)).isSome | _=>T.non)=(ns.map fun x=>(getT (dm M) (.inr x)).isSome).map T.bl:=by rw[YE,YE];rfl
 rw[e]
 refine⟨p,_,rfl,Zn,_,rfl,?_⟩
 have ha1:=ha.ex (Ex.new (o:=.lst ((ns.map fun x=>(getT (dm M) (.inr x)).isSome).map T.bl)) hp)
 by_cases c:((ns.map fun x=>(getT (dm M) (.inr x)).isSome).any id)=true
 ·rw[if_neg (by rw[c];simp)]
  refine⟨a,dm M,rfl,ha1,fun r hr=>?_⟩
  obtain⟨nr,hr0⟩:=fr1 hr
  walk_at "ws"
  refine Zcj (fun i τ C'=>∃x3,τ=[some (.ref a),some (.tup (ns.map T.str)),some (.ref r),x3]∧Ex C C'∧C' r=some (.dic (dm (less M (ns.take i))))) ⟨none,rfl,(Ex.new hp).up hr0,by rw[List.take_zero,Zbf];exact Zn⟩ (fun _ _ _ _ _=>trivial) ?_ ?_
  ·rintro i x τ C' N hx ⟨x3,rfl,hE,hr'⟩ hN
   rw[XM] at hx
   cases hz:ns[i]? with
   | none=>rw[hz] at hx;cases hx
   | some y=>
    rw[hz] at hx
    cases hx
    walk_at "ws"
    simp only[Zre]
    walk_at "ws"
    have et:less M (ns.take (i+1))=less (less M (ns.take i)) [y]:=by rw[Ztp,YD,hz];rfl
    refine⟨⟨_,hr'⟩,_,.inr y,rfl,hr',fun v hv=>hN _ _ ⟨_,rfl,hE.up hr0,?_⟩,fun hv=>hN _ _ ⟨_,rfl,hE,?_⟩⟩
    ·rw[Zn,Z0d,et]
    ·rw[et,Zlm (M:=less M (ns.take i)) (ns:=[y])]
     ·exact hr'
     ·intro x hx
      rw[XQ] at hx
      subst hx
      exact Zsh.mp hv
  ·rintro τ C' ⟨x3,rfl,hE,hr'⟩
   rw[XI,List.take_length] at hr'
   walk_at "ws"
   exact q r C' hE (.inl hr')
 ·rw[XY (by rw[Bool.eq_false_iff.mpr c])]
  refine q a _ (Ex.new hp) ?_
  rw[Zlm]
  ·exact ha1
  ·intro x hx
   refine Zsh.mp ?_
   cases hg:getT (dm M) (.inr x) with
   | none=>rfl
   | some v=>
    refine absurd ?_ c
    rw[List.any_eq_true]
    exact⟨true,XR.mpr ⟨x,hx,by rw[hg];rfl⟩,rfl⟩
theorem Zmh {b:Addr}{xs:List (List T)}{ys:List T}(hb:C b=some (.lst ys))(hl:xs.length=ys.length)(h1:xs.length≤1000)(hx:∀x∈xs,x≠[]∧x.length≤1000)(q:∀C',Ex C C'→Q (.tup ((xs.zip ys).map fun z=>.tup (z.1.dropLast++[z.2]))) C'):
  wpc pr (n+1) Zhg [.tup (xs.map T.tup),.ref b] C Q χ:=by
 refine Zl6 rfl ?_
 unfold Za9
 walk_at "ws"
 simp only[iZp]
 walk_at "ws"
 refine .inr ⟨ys,hb,by rw[XI];exact hl,?_⟩
 have ez:zipT (xs.map T.tup) ys=(xs.zip ys).map fun z=>.tup [.tup z.1,z.2]:=by
  unfold zipT
  rw[List.zipWith_map_left,List.zip,List.map_zipWith]
 rw[ez]
 refine Zbq (fun t=>match t with | .tup [.tup x,y]=>.tup (x.dropLast++[y]) | _=>.non) hb (by rw[XI,List.length_zip];exact small63 (by omega)) (fun x hx' R hR=>?_) fun p hp=>?_
 ·obtain⟨z,hz,rfl⟩:=XR.mp hx'
  obtain⟨hz1,hz2⟩:=hx z.1 (List.of_mem_zip hz).1
  walk_at "ws"
  have hpos:0<z.1.length:=List.length_pos_iff.mpr hz1
  have e:HT.sIx z.1.length z.1.length (some (-1))=z.1.length-1:=by unfold HT.sIx;simp;omega
  have e2:cut z.1 none (some (-1))=z.1.dropLast:=by
   unfold cut
   rw[e,List.dropLast_eq_take]
   simp[HT.sIx]
  refine⟨fun h=>?_,?_,?_⟩
  ·have:=h.2;rw[e] at this;omega
  ·rw[e2];rw[List.length_dropLast];exact small63 (by show _+1≤_;omega)
  ·rw[e2];exact hR
 ·refine⟨_,Zn,?_⟩
  rw[YE]
  exact q _ (Ex.new hp)
end
open PySem PySem.Spec PyProof.Rows L2 WL
def PT (f:Nat)(t:T)(M:Ms)(t':T):Prop:=∀{n:Nat} {C:Hw} {Q:WK} {χ:WX} {a:Addr},RdC C a (dm M)→(∀o C',Ex C C'→(o=t'∨(o=.non∧t'=t))→Q o C')→wpc pr (n+f+4) Ztw [t,.ref a] C Q χ
def WPt (t:T)(ts:List T)(t':T):Prop:=∀{n:Nat} {C:Hw} {Q:WK} {χ:WX} {b:Addr},C b=some (.lst ts)→(∀C',Ex C C'→Q t' C')→wpc pr (n+2) Znc [t,.ref b] C Q χ
theorem PT.mono {f g:Nat}{t t':T}{M:Ms}(h:PT f t M t')(hl:f≤g):PT g t M t':=by
 intro n C Q χ a ha q
 rw[show n+g+4=(n+(g-f))+f+4 by omega]
 exact h ha q
theorem PT.put {f:Nat}{t t':T}{M:Ms}(h:PT f t M t')(ht:∃l,t'=.tup l){n:Nat}{C:Hw}{Q:WK}{χ:WX}{a:Addr}(ha:RdC C a (dm M))(q:∀C',Ex C C'→Q t' C'):wpc pr (n+f+5) i_put [t,.ref a] C Q χ:=by
 refine u_put rfl ?_
 unfold Zn4
 walk_at "ws"
 refine h (n:=n) ha fun o C' hE ho=>?_
 obtain⟨l,rfl⟩:=ht
 rcases ho with rfl | ⟨rfl,rfl⟩
 ·walk_at "ws"
  exact q _ hE
 ·walk_at "ws"
  exact q _ hE
abbrev Sp:=List Str×T
def scS (z:Sp):List T×T:=(z.1.map T.str,z.2)
theorem Zsd {l:List Str}:Jn (.tup (l.map T.str)):=Zj5 fun x hx=>by obtain⟨y,_,rfl⟩:=XR.mp hx;exact Zb5
theorem Zez {f:Nat}{w:Str}{rest:List T}{e:Option Nat}{ss:List Sp}{us:List T}{t':T}{M:Ms}(h:Sc (.tup (.str w::rest)) e (ss.map scS))(hw:w≠"name")(h5:∀z∈ss,z.1.length≤1000)(hl:ss.length≤1000)(hu:us.length=ss.length)
  (hP:∀(i:Nat) (z:Sp) (u:T),ss[i]?=some z→us[i]?=some u→(less M z.1≠[]→PT f z.2 (less M z.1) u)∧(less M z.1=[]→u=z.2)∧∃l,u=.tup l) (hwp:WPt (.tup (.str w::rest)) us t')
  (hst:us=ss.map (·.2)→t'=.tup (.str w::rest)):PT (f+1) (.tup (.str w::rest)) M t':=by
 intro n C Q χ a ha q
 refine Zld rfl ?_
 unfold Zck
 walk_at "ws"
 rw[XX hw]
 unfold Zd2
 walk_at "ws"
 intro p hp
 refine Zu3 (n:=n+f+2) h fun b C1 hE hb0 hb1=>?_
 have hE0:Ex C C1:=(Ex.new hp).trans hE
 have hp1:=hE _ _ (Zn (C:=C) (a:=p))
 have bp:b≠p:=(fr1 hb0).1
 refine⟨_,hb1,?_⟩
 refine Zcj (fun i τ C'=>∃x4 x5 x6 x7,∃st:Bool,τ=[some (.tup (.str w::rest)),some (.ref a),some (.bl st),some (.ref p),x4,x5,x6,x7]∧Ex C C'∧C' b=some (.lst ((ss.map scS).map scT))∧C' p=some (.lst (us.take i))∧(st=true→us.take i=(ss.take i).map (·.2)))
  ⟨none,none,none,none,true,rfl,hE0,hb1,hp1,fun _=>rfl⟩ (fun i τ C' _ ⟨_,_,_,_,_,_,_,h,_⟩=>h) ?_ ?_
 ·rintro i x τ C' N hx ⟨x4,x5,x6,x7,st,rfl,hE',hb',hp',hs'⟩ hN
  rw[YE,XM] at hx
  cases hz:ss[i]? with
  | none=>rw[hz] at hx;cases hx
  | some z=>
   rw[hz] at hx
   cases hx
   have mz:=List.mem_of_getElem? hz
   have hi:i<ss.length:=(List.getElem?_eq_some_iff.mp hz).1
   have hui:us[i]?=some (us[i]'(by omega)):=by simp[show i<us.length by omega]
   generalize us[i]'(by omega)=u at hui
   have hPz:=hP i z u hz hui
   show gTp _ (.tup [.tup (z.1.map T.str),z.2]) _ _ _ _
   have fin:∀C4,Ex C' C4→∀x4 x5 x6 x7 (s2:Bool),(s2=true→st=true∧u=z.2)→∃xs,C4 p=some (.lst xs)∧xs.length<sizeLine∧N [some (.tup (.str w::rest)),some (.ref a),some (.bl s2),some (.ref p),x4,x5,x6,x7] (up C4 p (.lst (xs++[u]))):=fun C4 hE5 x4 x5 x6 x7 s2 h2=>by
    refine⟨_,hE5 _ _ hp',?_,hN _ _ ⟨x4,x5,x6,x7,s2,rfl,?_,?_,?_,fun e=>?_⟩⟩
    ·rw[YM];exact small63' (by omega)
    ·exact(hE'.trans hE5).up hp
    ·rw[Zw bp];exact hE5 _ _ hb'
    ·rw[Zn,YD,hui];rfl
    ·rw[YD,YD,hz,hui,XL,hs' (h2 e).1,(h2 e).2];rfl
   have hr:∀(l:Addr) (C2:Hw),Ex C' C2→RdC C2 l (dm (less M z.1))→∀(D:We),D.nx=N→ 
     Zq (Z3 (eIf (tBl (Zh wReq (Zd 6) Zh8)) (eC (.non)) (Z5 (wpc pr (n+(f+1)+3)) 6 (Zb (Zd 5) (Zb (Zd 6) Zf)))) (gNm 7))
     (Zq (sIf (tBl (Zh Zn5 (Zd 7) (eC (.non)))) (Z3 (eC (.bl false)) (gNm 2)) Z6)
     (Yt (eMt tyL' Xc (Zd 3) (Zb (eIf (tBl (Zh wIsN (Zd 7) (eC (.non)))) (Zd 5) (Zd 7)) Zf)))) D
     [some (.tup (.str w::rest)),some (.ref a),some (.bl st),some (.ref p),some (.tup (z.1.map T.str)),some z.2,some (.ref l),x7] C2:=by
    intro l C2 hE2 hl2 D hD
    walk_at "ws"
    intro p3 hp3
    have hE3:Ex C2 (up C2 p3 (.dic [])):=Ex.new hp3
    refine⟨l,p3,_,[],rfl,rfl,hl2.ex hE3,.inl Zn,?_⟩
    rw[hD]
    by_cases c:less M z.1=[]
    ·refine .inr ⟨by rw[c];rfl,by rw[c];simp[dm],_,rfl,?_⟩
     rw[XY (by decide)]
     have hg:=hPz.2.1 c
     obtain⟨xs,h1,h2,h3⟩:=fin _ (hE2.trans hE3) (some (.tup (z.1.map T.str))) (some z.2) (some (.ref l)) (some .non) st fun e=>⟨e,hg⟩
     rw[hg] at h3
     exact⟨⟨_,h1⟩,_,h1,h2,h3⟩
    ·refine .inl ⟨fun hh=>c (Z36.mp hh),_,rfl,?_⟩
     rw[XX (by decide)]
     refine hPz.1 c (n:=n) (hl2.ex hE3) fun o C4 hE4 ho=>?_
     obtain⟨lt,hlt⟩:=hPz.2.2
     rcases ho with ho | ⟨rfl,hg⟩
     ·have ho':=ho.symm
      subst ho'
      have:=fin C4 (hE2.trans (hE3.trans hE4)) (some (.tup (z.1.map T.str))) (some z.2) (some (.ref l)) (some u) false (by simp)
      rw[hlt] at this ⊢
      obtain⟨xs,h1,h2,h3⟩:=this
      walk_at "ws"
      exact⟨⟨_,h1⟩,_,h1,h2,h3⟩
     ·obtain⟨xs,h1,h2,h3⟩:=fin C4 (hE2.trans (hE3.trans hE4)) (some (.tup (z.1.map T.str))) (some z.2) (some (.ref l)) (some .non) st fun e=>⟨e,hg⟩
      rw[hg] at h3
      walk_at "ws"
      exact⟨⟨_,h1⟩,_,h1,h2,h3⟩
   have key:∀(K:WK) (χ:WX),(∀l C2,Ex C' C2→RdC C2 l (dm (less M z.1))→K (.ref l) C2)→eIf (tBl (Zh wEq (Zd 4) (Zv Zf))) (Zd 1) (Z5 (wpc pr (n+(f+1)+3)) 7 (Zb (Zd 1) (Zb (Zd 4) Zf)))
     [some (.tup (.str w::rest)),some (.ref a),some (.bl st),some (.ref p),some (.tup (z.1.map T.str)),some z.2,x6,x7] C' K χ:=by
    intro K χ hK
    walk_at "ws"
    refine⟨Zsd,Zsd (l:=[]),_,rfl,?_⟩
    cases hz1:z.1 with
    | nil=>
     rw[hz1] at hK
     rw[Zbf] at hK
     exact hK a C' (Ex.refl _) (ha.ex hE')
    | cons y ys=>
     rw[←hz1]
     rw[if_neg (by rw[hz1];simp[WL.eqT,eqTs])]
     exact Zs2 (n:=n+f+3) (h5 z mz) (ha.ex hE') hK
   refine⟨_,rfl,_,_,rfl,_,_,rfl,rfl,?_⟩
   refine key _ _ ?_
   intro l C2 hE2 hl2
   exact hr l C2 hE2 hl2 _ rfl
 ·rintro τ C' ⟨x4,x5,x6,x7,st,rfl,hE',hb',hp',hs'⟩
  rw[XI,XI,←hu,List.take_length] at hp'
  rw[XI,XI,List.take_length,←hu,List.take_length] at hs'
  unfold Zd3
  walk_at "ws"
  cases st with
  | true=>
   refine⟨true,rfl,?_⟩
   rw[XY rfl]
   exact q _ _ hE' (.inr ⟨rfl,hst (hs' rfl)⟩)
  | false=>
   refine⟨false,rfl,?_⟩
   rw[XX (by decide)]
   exact hwp (n:=n+f+2) hp' fun C5 hE5=>q _ C5 (hE'.trans hE5) (.inl rfl)
theorem Zrx {x:Str}{M:Ms}:PT 0 (.tup [.str "name",.str x]) M ((getT (dm M) (.inr x)).getD (.tup [.str "name",.str x])):=by
 intro n C Q χ a ha q
 refine Zld rfl ?_
 unfold Zck
 walk_at "ws"
 simp only[Zrd]
 walk_at "ws"
 refine⟨⟨_,ha⟩,_,.inr x,rfl,ha,q _ _ (Ex.refl _) ?_⟩
 cases getT (dm M) (.inr x) with
 | none=>exact .inr ⟨rfl,rfl⟩
 | some v=>exact .inl rfl
section
variable {C:Hw}{Q:WK}{χ:WX}{n:Nat}
theorem s_wl {α:Type}{Z:List α}{pre:α→List T}{o nw:α→T}{b:Addr}(hb:C b=some (.lst (Z.map nw)))(h1:Z.length≤1000)(hx:∀z∈Z,(pre z).length≤100)(q:∀C',Ex C C'→Q (.tup (Z.map fun z=>.tup (pre z++[nw z]))) C'):
  wpc pr (n+1) Zhg [.tup (Z.map fun z=>.tup (pre z++[o z])),.ref b] C Q χ:=by
 have e:(Z.map fun z=>T.tup (pre z++[o z]))=(Z.map fun z=>pre z++[o z]).map T.tup:=by rw[YE];rfl
 rw[e]
 refine Zmh hb (by simp) (by simpa using h1) (fun x hx'=>?_) fun C' hE=>?_
 ·obtain⟨z,hz,rfl⟩:=XR.mp hx'
  have:=hx z hz
  exact⟨by simp,by rw[List.length_append,List.length_singleton];omega⟩
 ·have e2:(((Z.map fun z=>pre z++[o z]).zip (Z.map nw)).map fun z=>T.tup (z.1.dropLast++[z.2]))=Z.map fun z=>T.tup (pre z++[nw z]):=by
   rw[List.zip_map',YE]
   refine List.map_congr_left fun z _=>?_
   simp only[Function.comp,List.dropLast_concat]
  rw[e2]
  exact q C' hE
end
theorem Zx5 {o A B A' B':T}:WPt (.tup [.str "does",o,A,B]) [A',B'] (.tup [.str "does",o,A',B']):=by
 intro n C Q χ b hb q
 refine Xz rfl ?_
 unfold Y9
 refine k_a0 rfl (Zdw rfl rfl ?_)
 walk_at "ws"
 exact⟨_,hb,_,Yb,_,hb,_,Yu,q _ (Ex.refl _)⟩
theorem Z1h {w:Str}{A B A' B':T}(h:w="call"∨w="first"):WPt (.tup [.str w,A,B]) [A',B'] (.tup [.str w,A',B']):=by
 intro n C Q χ b hb q
 refine Xz rfl ?_
 unfold Y9
 refine k_a0 rfl (k_no rfl (by rcases h with rfl | rfl<;>decide+kernel) (Zq2 rfl h ?_))
 walk_at "ws"
 exact⟨_,hb,_,Yb,_,hb,_,Yu,q _ (Ex.refl _)⟩
theorem Z1j {x A A':T}:WPt (.tup [.str "fun",x,A]) [A'] (.tup [.str "fun",x,A']):=by
 intro n C Q χ b hb q
 refine Xz rfl ?_
 unfold Y9
 refine k_a0 rfl (k_no rfl (by decide+kernel) (Zf4 rfl (by decide+kernel) (by decide+kernel) (Zdw rfl rfl ?_)))
 walk_at "ws"
 exact⟨_,hb,_,Yb,q _ (Ex.refl _)⟩
theorem Zn2 {c:T}{ps ps':List T}:WPt (.tup [.str "shape",c,.tup ps]) ps' (.tup [.str "shape",c,.tup ps']):=by
 intro n C Q χ b hb q
 refine Xz rfl ?_
 unfold Y9
 refine k_a0 rfl (k_no rfl (by decide+kernel) (Zf4 rfl (by decide+kernel) (by decide+kernel) (k_no rfl (by decide+kernel) (k_no rfl (by decide+kernel) (Zdw rfl rfl ?_)))))
 walk_at "ws"
 exact⟨_,hb,q _ (Ex.refl _)⟩
theorem Zt8 {w:Str}{rest ts:List T}(h:w∉sorts):WPt (.tup (.str w::rest)) ts (.tup (.str w::rest)):=by
 intro n C Q χ b hb q
 refine Xz rfl ?_
 unfold Y9
 have hw:∀s∈sorts,w≠s:=fun s hs z=>h (z▸hs)
 refine k_a0 rfl (k_no rfl (hw "does" (by decide)) (Zf4 rfl (hw "call" (by decide)) (hw "first" (by decide)) (k_no rfl (hw "fun" (by decide)) (k_no rfl (hw "let" (by decide)) (k_no rfl (hw "shape" (by decide)) (k_no rfl (hw "choose" (by decide)) (k_no rfl (hw "rows" (by decide)) ?_)))))))
 walk_at "ws"
 exact q _ (Ex.refl _)
theorem cutA {α:Type}{a:α}{r:List α}:cut (a::r) (some 1) none=r:=by
 unfold cut
 have e1:HT.sIx (a::r).length 0 (some 1)=1:=by unfold HT.sIx;simp
 have e2:HT.sIx (a::r).length (a::r).length none=(a::r).length:=by unfold HT.sIx;simp
 rw[e1,e2];simp
theorem cutZ {α:Type}{a:α}{r:List α}:cut (r++[a]) none (some (-1))=r:=by
 unfold cut
 have e1:HT.sIx (r++[a]).length 0 none=0:=by unfold HT.sIx;simp
 have e2:HT.sIx (r++[a]).length (r++[a]).length (some (-1))=r.length:=by unfold HT.sIx;simp;omega
 rw[e1,e2];simp
theorem atZ {a:T}{r:List T}:atI (r++[a]) (-1)=some a:=by
 unfold atI ixN
 rw[if_neg (by decide),if_pos (by simp;omega)]
 have e:((-1:Int)+((r++[a]).length:Nat)).toNat=r.length:=by simp;omega
 rw[e]
 simp
theorem Z1i {α:Type}{Z:List α}{x:α→Str}{o nw:α→T}{B B':T}(h1:Z.length≤1000):WPt (.tup [.str "let",.tup (Z.map fun z=>.tup [.str (x z),o z]),B]) (Z.map nw++[B']) (.tup [.str "let",.tup (Z.map fun z=>.tup [.str (x z),nw z]),B']):=by
 intro n C Q χ b hb q
 refine Xz rfl ?_
 unfold Y9
 refine k_a0 rfl (k_no rfl (by decide+kernel) (Zf4 rfl (by decide+kernel) (by decide+kernel) (k_no rfl (by decide+kernel) (Zdw rfl rfl ?_))))
 walk_at "ws"
 refine⟨_,hb,fun p hp=>?_⟩
 simp only[cutZ]
 refine s_wl (n:=n) (pre:=fun z=>[T.str (x z)]) (o:=o) (nw:=nw) Zn h1 (by simp) fun C' hE=>?_
 refine⟨_,hE _ _ ((Ex.new hp) _ _ hb),_,atZ,?_⟩
 exact q _ ((Ex.new hp).trans hE)
theorem Zsv {α:Type}{Z:List α}{c:α→Str}{ns:α→List Str}{o nw:α→T}{E E':T}(h1:Z.length≤1000):
  WPt (.tup [.str "choose",E,.tup (Z.map fun z=>.tup [.str (c z),.tup ((ns z).map T.str),o z])]) (E'::Z.map nw) (.tup [.str "choose",E',.tup (Z.map fun z=>.tup [.str (c z),.tup ((ns z).map T.str),nw z])]):=by
 intro n C Q χ b hb q
 refine Xz rfl ?_
 unfold Y9
 refine k_a0 rfl (k_no rfl (by decide+kernel) (Zf4 rfl (by decide+kernel) (by decide+kernel) (k_no rfl (by decide+kernel) (k_no rfl (by decide+kernel) (k_no rfl (by decide+kernel) (Zdw rfl rfl ?_))))))
 walk_at "ws"
 refine⟨_,hb,_,Yb,_,hb,fun p hp=>?_⟩
 simp only[cutA]
 refine s_wl (n:=n) (pre:=fun z=>[T.str (c z),.tup ((ns z).map T.str)]) (o:=o) (nw:=nw) Zn h1 (by simp) fun C' hE=>?_
 exact q _ ((Ex.new hp).trans hE)
open PySem PySem.Spec PyProof.Rows L2 WL
def Pq (f:Nat)(A:T)(M:Ms)(A':T):Prop:=PT f A M A'∧(M=[]→A'=A)∧∃l,A'=.tup l
abbrev nmT (x:Str):T:=.tup [.str "name",.str x]
section
variable {f:Nat}{M:Ms}{A B A' B':T}
theorem Pq.mono {g:Nat}(h:Pq f A M A')(hl:f≤g):Pq g A M A':=⟨PT.mono h.1 hl,h.2.1,h.2.2⟩
theorem Zm9 {ns:List Str}(h:M=[]):less M ns=[]:=by subst h;rfl
theorem hp1 {ns:List Str}(hA:Pq f A (less M ns) A'):∀(i:Nat) (z:Sp) (u:T),[(ns,A)][i]?=some z→[A'][i]?=some u→(less M z.1≠[]→PT f z.2 (less M z.1) u)∧(less M z.1=[]→u=z.2)∧∃l,u=.tup l:=by
 intro i z u hz hu
 match i with
 | 0=>simp at hz hu;subst hz;subst hu;exact⟨fun _=>hA.1,hA.2⟩
 | i+1=>simp at hz
theorem hp2 {ns ms:List Str}(hA:Pq f A (less M ns) A')(hB:Pq f B (less M ms) B'):∀(i:Nat) (z:Sp) (u:T),[(ns,A),(ms,B)][i]?=some z→[A',B'][i]?=some u→(less M z.1≠[]→PT f z.2 (less M z.1) u)∧(less M z.1=[]→u=z.2)∧∃l,u=.tup l:=by
 intro i z u hz hu
 match i with
 | 0=>simp at hz hu;subst hz;subst hu;exact⟨fun _=>hA.1,hA.2⟩
 | 1=>simp at hz hu;subst hz;subst hu;exact⟨fun _=>hB.1,hB.2⟩
 | i+2=>simp at hz
theorem Zy2 {o:T}(hA:Pq f A M A')(hB:Pq f B M B'):Pq (f+1) (.tup [.str "does",o,A,B]) M (.tup [.str "does",o,A',B']):=
 ⟨Zez (ss:=[([],A),([],B)]) (us:=[A',B']) .does (by decide+kernel) (by simp) (by simp) rfl (hp2 (by rw[Zbf];exact hA) (by rw[Zbf];exact hB)) Zx5 (fun h=>by simp at h;rw[h.1,h.2]),fun h=>by rw[hA.2.1 h,hB.2.1 h],_,rfl⟩
theorem Zvq {w:Str}(hw:w="call"∨w="first")(hA:Pq f A M A')(hB:Pq f B M B'):Pq (f+1) (.tup [.str w,A,B]) M (.tup [.str w,A',B']):=
 ⟨Zez (ss:=[([],A),([],B)]) (us:=[A',B']) (e:=none) (by rcases hw with rfl | rfl;exact .call;exact .first) (by rcases hw with rfl | rfl<;>decide+kernel) (by simp) (by simp) rfl (hp2 (by rw[Zbf];exact hA) (by rw[Zbf];exact hB)) (Z1h hw) (fun h=>by simp at h;rw[h.1,h.2]),fun h=>by rw[hA.2.1 h,hB.2.1 h],_,rfl⟩
theorem Z2d {x:Str}(hA:Pq f A (less M [x]) A'):Pq (f+1) (.tup [.str "fun",.str x,A]) M (.tup [.str "fun",.str x,A']):=
 ⟨Zez (ss:=[([x],A)]) (us:=[A']) .fun_ (by decide+kernel) (by simp) (by simp) rfl (hp1 hA) Z1j (fun h=>by simp at h;rw[h]),fun h=>by rw[hA.2.1 (Zm9 h)],_,rfl⟩
theorem Zyz {c:Str}(hA:Pq f A M A')(hB:Pq f B M B'):Pq (f+1) (.tup [.str "shape",.str c,.tup [A,B]]) M (.tup [.str "shape",.str c,.tup [A',B']]):=
 ⟨Zez (ss:=[([],A),([],B)]) (us:=[A',B']) (.shape (ps:=[A,B]) (by simp)) (by decide+kernel) (by simp) (by simp) rfl (hp2 (by rw[Zbf];exact hA) (by rw[Zbf];exact hB)) (Zn2 (ps:=[A,B])) (fun h=>by simp at h;rw[h.1,h.2]),fun h=>by rw[hA.2.1 h,hB.2.1 h],_,rfl⟩
theorem Zjh {w:Str}{rest:List T}(hn:w≠"name")(hw:w∉sorts):Pq 1 (.tup (.str w::rest)) M (.tup (.str w::rest)):=
 ⟨Zez (f:=0) (ss:=[]) (us:=[]) (.other hw) hn (by simp) (by simp) rfl (by simp) (Zt8 hw) (fun _=>rfl),fun _=>rfl,_,rfl⟩
theorem Zyx {x:Str}{m:List T}(h:getT (dm M) (.inr x)=some (.tup m)):Pq 0 (nmT x) M (.tup m):=by
 refine⟨?_,fun e=>?_,_,rfl⟩
 ·have:=@Zrx x M
  rw[h] at this
  exact @this
 ·subst e;simp[dm,getT] at h
theorem Zy0 {x:Str}(h:getT (dm M) (.inr x)=none):Pq 0 (nmT x) M (nmT x):=by
 refine⟨?_,fun e=>rfl,_,rfl⟩
 have:=@Zrx x M
 rw[h] at this
 exact @this
end
abbrev atT (i:Nat):T:=.tup [.str "at",.int (i:Int)]
abbrev big:Int:=1000000000000000000
open PySem PySem.Spec PyProof.Rows L2 WL
section
variable {f:Nat}{M:Ms}{A B A' B' E E':T}
def Gd (f:Nat)(M:Ms)(z:Sp)(u:T):Prop:=(less M z.1≠[]→PT f z.2 (less M z.1) u)∧(less M z.1=[]→u=z.2)∧∃l,u=.tup l
theorem Z09 {α:Type}{Z:List α}{s:α→Sp}{u:α→T}(h:∀z∈Z,Gd f M (s z) (u z)):∀(i:Nat) (z:Sp) (v:T),(Z.map s)[i]?=some z→(Z.map u)[i]?=some v→(less M z.1≠[]→PT f z.2 (less M z.1) v)∧(less M z.1=[]→v=z.2)∧∃l,v=.tup l:=by
 intro i z v hz hv
 rw[XM] at hz hv
 cases e:Z[i]? with
 | none=>rw[e] at hz;cases hz
 | some x=>
  rw[e] at hz hv
  cases hz;cases hv
  exact h x (List.mem_of_getElem? e)
theorem Zy1 {α:Type}{Z:List α}{x:α→Str}{o g:α→T}(h5:Z.length≤5)(hz:∀z∈Z,Pq f (o z) (less M (Z.map x)) (g z))(hB:Pq f B (less M (Z.map x)) B'):
  Pq (f+1) (.tup [.str "let",.tup (Z.map fun z=>.tup [.str (x z),o z]),B]) M (.tup [.str "let",.tup (Z.map fun z=>.tup [.str (x z),g z]),B']):=by
 have e0:(Z.map fun z=>T.tup [.str (x z),o z])=(Z.map fun z=>((T.str (x z),o z):T×T)).map fun x=>.tup [x.1,x.2]:=by rw[YE];rfl
 have hS:Sc (.tup [.str "let",.tup (Z.map fun z=>.tup [.str (x z),o z]),B]) none ((Z.map (fun z=>((Z.map x,o z):Sp))++[(Z.map x,B)]).map scS):=by
  have:=Sc.let_ (B:=B) (xs:=Z.map fun z=>(T.str (x z),o z)) (by rw[XI];omega)
  rw[←e0] at this
  have e1:(Z.map (fun z=>((Z.map x,o z):Sp))++[(Z.map x,B)]).map scS=(Z.map fun z=>((T.str (x z),o z):T×T)).map (fun y=>((Z.map fun z=>((T.str (x z),o z):T×T)).map (·.1),y.2))++[((Z.map fun z=>((T.str (x z),o z):T×T)).map (·.1),B)]:=by
   simp only[List.map_append,List.map_map,List.map_cons,List.map_nil,Function.comp_def,scS]
  rw[e1];exact this
 refine⟨?_,fun h=>?_,_,rfl⟩
 ·refine Zez (us:=Z.map g++[B']) hS (by decide+kernel) (fun z hz'=>?_) (by simp;omega) (by simp) ?_ (Z1i (Z:=Z) (x:=x) (o:=o) (nw:=g) (by omega)) ?_
  ·simp only[List.mem_append,List.mem_map,List.mem_singleton] at hz'
   rcases hz' with⟨y,_,rfl⟩ | rfl<;>simp<;>omega
  ·have:=Z09 (f:=f) (M:=M) (Z:=Z.map some++[none]) (s:=fun u=>match u with | some z=>((Z.map x,o z):Sp) | none=>(Z.map x,B)) (u:=fun u=>match u with | some z=>g z | none=>B') (fun u hu=>by
    simp only[List.mem_append,List.mem_map,List.mem_singleton] at hu
    rcases hu with⟨y,hy,rfl⟩ | rfl
    ·exact⟨fun _=>(hz y hy).1,(hz y hy).2⟩
    ·exact⟨fun _=>hB.1,hB.2⟩)
   simp only[List.map_append,List.map_map,List.map_cons,List.map_nil] at this
   exact this
  ·intro h
   rw[XL,YE] at h
   have h':=List.append_inj h (by simp)
   have hb:B'=B:=by simpa using h'.2
   have hg:∀z∈Z,g z=o z:=fun z hz'=>List.map_inj_left.mp h'.1 z hz'
   rw[hb]
   congr 4
   exact List.map_congr_left fun z hz'=>by rw[hg z hz']
 ·have hg:∀z∈Z,g z=o z:=fun z hz'=>(hz z hz').2.1 (Zm9 h)
  rw[hB.2.1 (Zm9 h)]
  congr 4
  exact List.map_congr_left fun z hz'=>by rw[hg z hz']
theorem Zs8 {α:Type}{Z:List α}{c:α→Str}{ns:α→List Str}{o g:α→T}(h5:Z.length≤5)(h2:∀a∈Z,(ns a).length≤2)(hE:Pq f E M E')(hz:∀a∈Z,Pq f (o a) (less M (ns a)) (g a)):
  Pq (f+1) (.tup [.str "choose",E,.tup (Z.map fun a=>.tup [.str (c a),.tup ((ns a).map T.str),o a])]) M (.tup [.str "choose",E',.tup (Z.map fun a=>.tup [.str (c a),.tup ((ns a).map T.str),g a])]):=by
 have e0:(Z.map fun a=>T.tup [.str (c a),.tup ((ns a).map T.str),o a])=(Z.map fun a=>((T.str (c a),(ns a).map T.str,o a):T×List T×T)).map fun y=>.tup [y.1,.tup y.2.1,y.2.2]:=by rw[YE];rfl
 have hS:Sc (.tup [.str "choose",E,.tup (Z.map fun a=>.tup [.str (c a),.tup ((ns a).map T.str),o a])]) none (((([],E):Sp)::Z.map (fun a=>((ns a,o a):Sp))).map scS):=by
  have:=Sc.choose (E:=E) (ys:=Z.map fun a=>(T.str (c a),(ns a).map T.str,o a)) (by rw[XI];omega)
  rw[←e0] at this
  have e1:((([],E):Sp)::Z.map (fun a=>((ns a,o a):Sp))).map scS=([],E)::(Z.map fun a=>((T.str (c a),(ns a).map T.str,o a):T×List T×T)).map (·.2):=by
   simp only[List.map_map,List.map_cons,scS]
   rfl
  rw[e1];exact this
 refine⟨?_,fun h=>?_,_,rfl⟩
 ·refine Zez (us:=E'::Z.map g) hS (by decide+kernel) (fun z hz'=>?_) (by simp;omega) (by simp) ?_ (Zsv (Z:=Z) (c:=c) (ns:=ns) (o:=o) (nw:=g) (by omega)) ?_
  ·simp only[List.mem_cons,List.mem_map] at hz'
   rcases hz' with rfl | ⟨y,hy,rfl⟩
   ·simp
   ·have:=h2 y hy;show(ns y).length≤_;omega
  ·have:=Z09 (f:=f) (M:=M) (Z:=none::Z.map some) (s:=fun u=>match u with | some a=>((ns a,o a):Sp) | none=>([],E)) (u:=fun u=>match u with | some a=>g a | none=>E') (fun u hu=>by
    simp only[List.mem_cons,List.mem_map] at hu
    rcases hu with rfl | ⟨y,hy,rfl⟩
    ·show Gd f M ([],E) E'
     unfold Gd
     rw[Zbf];exact⟨fun _=>hE.1,hE.2⟩
    ·exact⟨fun _=>(hz y hy).1,(hz y hy).2⟩)
   simp only[List.map_map,List.map_cons] at this
   exact this
  ·intro h
   rw[YI,YE] at h
   injection h with h1 h2'
   have hg:∀a∈Z,g a=o a:=fun z hz'=>List.map_inj_left.mp h2' z hz'
   rw[h1]
   congr 5
   exact List.map_congr_left fun z hz'=>by rw[hg z hz']
 ·have hg:∀z∈Z,g z=o z:=fun z hz'=>(hz z hz').2.1 (Zm9 h)
  rw[hE.2.1 h]
  congr 5
  exact List.map_congr_left fun z hz'=>by rw[hg z hz']
theorem Zyy {c:Str}:Pq 1 (.tup [.str "shape",.str c,.tup []]) M (.tup [.str "shape",.str c,.tup []]):=
 ⟨Zez (f:=0) (ss:=[]) (us:=[]) (.shape (ps:=[]) (by simp)) (by decide+kernel) (by simp) (by simp) rfl (by simp) (Zn2 (ps:=[])) (fun _=>rfl),fun _=>rfl,_,rfl⟩
end
open PySem PySem.Spec PyProof.Rows L2 WL
inductive Tm where
 | nm (x:Str) | num (v:Int) | stop (x:Str) | at_ (i:Nat)
 | shp0 (c:Str) | shp2 (c:Str) (a b:Tm)
 | does (o:Str) (a b:Tm) | call (a b:Tm) | first (a b:Tm) | fn (x:Str) (b:Tm)
 | lt (n:Nat) (xs:Fin n→Str) (ts:Fin n→Tm) (b:Tm)
 | ch (e:Tm) (n:Nat) (cs:Fin n→Str) (ns:Fin n→List Str) (bs:Fin n→Tm)
def tt:Tm→T
 | .nm x=>.tup [.str "name",.str x]
 | .num v=>.tup [.str "number",.int v]
 | .stop x=>.tup [.str "stop",.str x]
 | .at_ i=>.tup [.str "at",.int (i:Int)]
 | .shp0 c=>.tup [.str "shape",.str c,.tup []]
 | .shp2 c a b=>.tup [.str "shape",.str c,.tup [tt a,tt b]]
 | .does o a b=>.tup [.str "does",.str o,tt a,tt b]
 | .call a b=>.tup [.str "call",tt a,tt b]
 | .first a b=>.tup [.str "first",tt a,tt b]
 | .fn x b=>.tup [.str "fun",.str x,tt b]
 | .lt n xs ts b=>.tup [.str "let",.tup ((List.finRange n).map fun i=>.tup [.str (xs i),tt (ts i)]),tt b]
 | .ch e n cs ns bs=>.tup [.str "choose",tt e,.tup ((List.finRange n).map fun i=>.tup [.str (cs i),.tup ((ns i).map T.str),tt (bs i)])]
abbrev nms {n:Nat}(xs:Fin n→Str):List Str:=(List.finRange n).map xs
def del (M:Str→Option Nat)(ns:List Str):Str→Option Nat:=fun x=>if x∈ns then none else M x
def pu (M:Str→Option Nat):Tm→Tm
 | .nm x=>match M x with | some i=>.at_ i | none=>.nm x
 | .num v=>.num v
 | .stop x=>.stop x
 | .at_ i=>.at_ i
 | .shp0 c=>.shp0 c
 | .shp2 c a b=>.shp2 c (pu M a) (pu M b)
 | .does o a b=>.does o (pu M a) (pu M b)
 | .call a b=>.call (pu M a) (pu M b)
 | .first a b=>.first (pu M a) (pu M b)
 | .fn x b=>.fn x (pu (del M [x]) b)
 | .lt n xs ts b=>.lt n xs (fun i=>pu (del M (nms xs)) (ts i)) (pu (del M (nms xs)) b)
 | .ch e n cs ns bs=>.ch (pu M e) n cs ns (fun i=>pu (del M (ns i)) (bs i))
def ar (c:Str):Nat:=if c="Cons"∨c="Pair" then 2 else 0
theorem Zp1 (c:Str):ar c≤2:=by unfold ar;split<;>omega
abbrev cl (c:Str):Prop:=1≤c.length∧c.length≤4
def gl (x:Str):Prop:=1≤x.length∧x.length≤100
def ok (L:Nat):Nat→List Str→Tm→Prop
 | _,Γ,.nm x=>x∈Γ
 | _,_,.num v=>0≤v∧v<big
 | _,_,.stop x=>gl x
 | _,_,.at_ i=>i<L
 | _,_,.shp0 c=>cl c∧ar c=0
 | d,Γ,.shp2 c a b=>1≤d∧(cl c∧ar c=2)∧ok L (d-1) Γ a∧ok L (d-1) Γ b
 | d,Γ,.does _ a b=>1≤d∧ok L (d-1) Γ a∧ok L (d-1) Γ b
 | d,Γ,.call a b=>1≤d∧ok L (d-1) Γ a∧ok L (d-1) Γ b
 | d,Γ,.first a b=>1≤d∧ok L (d-1) Γ a∧ok L (d-1) Γ b
 | d,Γ,.fn x b=>1≤d∧gl x∧ok L (d-1) (x::Γ) b
 | d,Γ,.lt n xs ts b=>1≤d∧(1≤n∧n≤5∧(nms xs).Nodup∧∀i,gl (xs i))∧(∀i,ok L (d-1) (nms xs++Γ) (ts i))∧ok L (d-1) (nms xs++Γ) b
 | d,Γ,.ch e n cs ns bs=>1≤d∧(n≤5∧∀i,(ns i).length=ar (cs i)∧(ns i).Nodup)∧ok L (d-1) Γ e∧∀i,ok L (d-1) (ns i++Γ) (bs i)
theorem Zaq {L L':Nat}(hL:L≤L'):∀{t:Tm} {d d':Nat} {Γ:List Str},ok L d Γ t→d≤d'→ok L' d' Γ t:=by
 intro t
 induction t with
 | nm x=>intro d d' Γ h _;exact h
 | num v=>intro d d' Γ h _;exact h
 | stop x=>intro d d' Γ h _;exact h
 | at_ i=>intro d d' Γ h _;exact XG h hL
 | shp0 c=>intro d d' Γ h _;exact h
 | shp2 c a b iha ihb=>intro d d' Γ h hd;exact⟨by have:=h.1;omega,h.2.1,iha h.2.2.1 (by omega),ihb h.2.2.2 (by omega)⟩
 | does o a b iha ihb=>intro d d' Γ h hd;exact⟨by have:=h.1;omega,iha h.2.1 (by omega),ihb h.2.2 (by omega)⟩
 | call a b iha ihb=>intro d d' Γ h hd;exact⟨by have:=h.1;omega,iha h.2.1 (by omega),ihb h.2.2 (by omega)⟩
 | first a b iha ihb=>intro d d' Γ h hd;exact⟨by have:=h.1;omega,iha h.2.1 (by omega),ihb h.2.2 (by omega)⟩
 | fn x b ih=>intro d d' Γ h hd;exact⟨by have:=h.1;omega,h.2.1,ih h.2.2 (by omega)⟩
 | lt n xs ts b iht ihb=>intro d d' Γ h hd;exact⟨by have:=h.1;omega,h.2.1,fun i=>iht i (h.2.2.1 i) (by omega),ihb h.2.2.2 (by omega)⟩
 | ch e n cs ns bs ihe ihb=>intro d d' Γ h hd;exact⟨by have:=h.1;omega,h.2.1,ihe h.2.2.1 (by omega),fun i=>ihb i (h.2.2.2 i) (by omega)⟩
theorem Zi0 {M:Str→Option Nat}{ns Γ Γ':List Str}(h:∀x∈Γ,M x≠none∨x∈Γ'):∀x∈ns++Γ,del M ns x≠none∨x∈ns++Γ':=fun x hx=>by
 by_cases c:x∈ns
 ·exact .inr (List.mem_append_left _ c)
 ·rcases XS.mp hx with hx | hx
  ·exact absurd hx c
  ·rcases h x hx with h | h
   ·exact .inl (by unfold del;rw[XX c];exact h)
   ·exact .inr (XT _ h)
theorem Zhl {M:Str→Option Nat}{ns:List Str}{x:Str}{i:Nat}(h:del M ns x=some i):M x=some i:=by
 unfold del at h
 split at h
 ·cases h
 ·exact h
theorem Zrw {L:Nat}:∀{t:Tm} {d:Nat} {Γ Γ':List Str} {M:Str→Option Nat},ok L d Γ t→(∀x i,M x=some i→i<L)→(∀x∈Γ,M x≠none∨x∈Γ')→ok L d Γ' (pu M t):=by
 intro t
 induction t with
 | nm x=>
  intro d Γ Γ' M h hM hΓ
  unfold pu
  cases e:M x with
  | some i=>exact hM x i e
  | none=>exact(hΓ x h).resolve_left fun z=>z e
 | num v=>intro d Γ Γ' M h hM hΓ;exact h
 | stop x=>intro d Γ Γ' M h hM hΓ;exact h
 | at_ i=>intro d Γ Γ' M h hM hΓ;exact h
 | shp0 c=>intro d Γ Γ' M h hM hΓ;exact h
 | shp2 c a b iha ihb=>intro d Γ Γ' M h hM hΓ;exact⟨h.1,h.2.1,iha h.2.2.1 hM hΓ,ihb h.2.2.2 hM hΓ⟩
 | does o a b iha ihb=>intro d Γ Γ' M h hM hΓ;exact⟨h.1,iha h.2.1 hM hΓ,ihb h.2.2 hM hΓ⟩
 | call a b iha ihb=>intro d Γ Γ' M h hM hΓ;exact⟨h.1,iha h.2.1 hM hΓ,ihb h.2.2 hM hΓ⟩
 | first a b iha ihb=>intro d Γ Γ' M h hM hΓ;exact⟨h.1,iha h.2.1 hM hΓ,ihb h.2.2 hM hΓ⟩
 | fn x b ih=>intro d Γ Γ' M h hM hΓ;exact⟨h.1,h.2.1,ih h.2.2 (fun y i e=>hM y i (Zhl e)) (Zi0 (ns:=[x]) hΓ)⟩
 | lt n xs ts b iht ihb=>intro d Γ Γ' M h hM hΓ;exact⟨h.1,h.2.1,fun i=>iht i (h.2.2.1 i) (fun y i e=>hM y i (Zhl e)) (Zi0 hΓ),ihb h.2.2.2 (fun y i e=>hM y i (Zhl e)) (Zi0 hΓ)⟩
 | ch e n cs ns bs ihe ihb=>intro d Γ Γ' M h hM hΓ;exact⟨h.1,h.2.1,ihe h.2.2.1 hM hΓ,fun i=>ihb i (h.2.2.2 i) (fun y i e=>hM y i (Zhl e)) (Zi0 hΓ)⟩
def isVt:Tm→Bool
 | .num _=>true
 | .fn _ _=>true
 | _=>false
abbrev Mn:=List (Str×Nat)
def mT (M:Mn):Ms:=M.map fun z=>(z.1,atT z.2)
def mo (M:Mn):Str→Option Nat:=fun x=>(M.find? fun z=>decide (z.1=x)).map (·.2)
def Zij (M:Mn)(ns:List Str):Mn:=M.filter fun z=>decide (z.1∉ns)
theorem Ziw {M:Mn}{ns:List Str}:less (mT M) ns=mT (Zij M ns):=by
 unfold less mT Zij
 rw[List.filter_map];rfl
theorem Ziv {M:Mn}{ns:List Str}:mo (Zij M ns)=del (mo M) ns:=by
 funext x
 unfold mo Zij del
 rw[List.find?_filter]
 by_cases c:x∈ns
 ·rw[XY c]
  rw[List.find?_eq_none.mpr]
  ·rfl
  ·intro z _ h
   simp at h
   exact h.1 (h.2▸c)
 ·rw[XX c]
  congr 1
  congr 1
  funext z
  by_cases e:z.1=x
  ·simp[e,c]
  ·simp[e]
theorem Zwh {M:Mn}{x:Str}:getT (dm (mT M)) (.inr x)=(mo M x).map atT:=by
 rw[Znn]
 unfold mT mo
 rw[List.find?_map]
 simp only[Option.map_map]
 rfl
theorem Zuh (t:Tm):∃w r,tt t=.tup (.str w::r):=by cases t<;>exact⟨_,_,rfl⟩
theorem Zmo {L:Nat}:∀{t:Tm} {d:Nat} {Γ:List Str} {M:Mn},ok L d Γ t→Pq (d+1) (tt t) (mT M) (tt (pu (mo M) t)):=by
 intro t
 induction t with
 | nm x=>
  intro d Γ M h
  unfold pu
  cases e:mo M x with
  | some i=>exact(Zyx (by rw[Zwh,e];rfl)).mono (by omega)
  | none=>exact(Zy0 (by rw[Zwh,e];rfl)).mono (by omega)
 | num v=>intro d Γ M h;exact(Zjh (by decide+kernel) (by decide+kernel)).mono (by omega)
 | stop x=>intro d Γ M h;exact(Zjh (by decide+kernel) (by decide+kernel)).mono (by omega)
 | at_ i=>intro d Γ M h;exact(Zjh (by decide+kernel) (by decide+kernel)).mono (by omega)
 | shp0 c=>intro d Γ M h;exact Zyy.mono (by omega)
 | shp2 c a b iha ihb=>intro d Γ M h;have h1:=h.1;exact(Zyz (iha h.2.2.1) (ihb h.2.2.2)).mono (by omega)
 | does o a b iha ihb=>intro d Γ M h;have h1:=h.1;exact(Zy2 (iha h.2.1) (ihb h.2.2)).mono (by omega)
 | call a b iha ihb=>intro d Γ M h;have h1:=h.1;exact(Zvq (.inl rfl) (iha h.2.1) (ihb h.2.2)).mono (by omega)
 | first a b iha ihb=>intro d Γ M h;have h1:=h.1;exact(Zvq (.inr rfl) (iha h.2.1) (ihb h.2.2)).mono (by omega)
 | fn x b ih=>
  intro d Γ M h
  have h1:=h.1
  have:=ih (M:=Zij M [x]) h.2.2
  rw[←Ziw,Ziv] at this
  exact(Z2d this).mono (by omega)
 | lt n xs ts b iht ihb=>
  intro d Γ M h
  have h1:=h.1
  have hb:=ihb (M:=Zij M (nms xs)) h.2.2.2
  rw[←Ziw,Ziv] at hb
  refine(Zy1 (Z:=List.finRange n) (x:=xs) (o:=fun i=>tt (ts i)) (g:=fun i=>tt (pu (del (mo M) (nms xs)) (ts i))) (by rw[List.length_finRange];exact h.2.1.2.1) (fun i _=>?_) hb).mono (by omega)
  have:=iht i (M:=Zij M (nms xs)) (h.2.2.1 i)
  rw[←Ziw,Ziv] at this
  exact this
 | ch e n cs ns bs ihe ihb=>
  intro d Γ M h
  have h1:=h.1
  refine(Zs8 (Z:=List.finRange n) (c:=cs) (ns:=ns) (o:=fun i=>tt (bs i)) (g:=fun i=>tt (pu (del (mo M) (ns i)) (bs i))) (by rw[List.length_finRange];exact h.2.1.1) (fun i _=>?_) (ihe h.2.2.1) (fun i _=>?_)).mono (by omega)
  ·rw[(h.2.1.2 i).1];exact Zp1 _
  ·have:=ihb i (M:=Zij M (ns i)) (h.2.2.2 i)
   rw[←Ziw,Ziv] at this
   exact this
open PySem PySem.Spec PyProof.Rows L2 WL
abbrev Ad:=Fin 7→Addr
abbrev Al:=Str×List Str×Tm
def alT (a:Al):T:=.tup [.str a.1,.tup (a.2.1.map T.str),tt a.2.2]
inductive Fm where
 | give (t:Tm)
 | pick (al:List Al)
 | left (o:Str) (t:Tm)
 | right (o:Str) (x:Int)
 | first (t:Tm)
 | back (i:Nat)
def fmT:Fm→T
 | .give t=>.tup [.str "give",tt t]
 | .pick al=>.tup [.str "pick",.tup (al.map alT)]
 | .left o t=>.tup [.str "left",.str o,tt t]
 | .right o x=>.tup [.str "right",.str o,.int x]
 | .first t=>.tup [.str "first",tt t]
 | .back i=>.tup [.str "back",.int (i:Int)]
inductive Pc where
 | word (x:Str)
 | part (d:Int) (t:Tm)
def pcT:Pc→T
 | .word x=>.str x
 | .part d t=>.tup [.int d,tt t]
inductive Hd where
 | no
 | tm (t:Tm)
 | made (c:Str) (ms:List Nat)
def hT:Hd→T
 | .no=>.non
 | .tm t=>tt t
 | .made c ms=>.tup [.str "made",.str c,.tup (ms.map atT)]
inductive En where
 | no | told (x:Str) | stop (x:Str) | stuck
def eT:En→T
 | .no=>.non
 | .told x=>.tup [.str "told",.str x]
 | .stop x=>.tup [.str "stop",.str x]
 | .stuck=>.tup [.str "stuck",.str ""]
structure Ev where
 ev:Str
 i:Nat
 l:Str
 k:Int
def evT (e:Ev):T:=.tup [.str e.ev,.int (e.i:Int),.str e.l,.int e.k]
structure St where
 h:Hd
 w:Int
 P:List Fm
 S:List Pc
 U:List Str
 D:List Tm
 L:List Str
 G:List Ev
 k:Int
 c:Int
 f:Int
 e:En
def Fs (A:Ad)(s:St):List (Str×T):=[("hand",hT s.h),("wanted",.int s.w),("pile",.ref (A 1)),("still",.ref (A 2)),("told",.ref (A 3)),("things",.ref (A 4)),("labels",.ref (A 5)),("log",.ref (A 6)),("steps",.int s.k),("cells",.int s.c),("firsts",.int s.f),("ending",eT s.e)]
def dD (D:List Tm):List (Key×T):=D.zipIdx.map fun x=>((Sum.inl (x.2:Int):Key),tt x.1)
structure Rn (A:Ad)(C:Hw)(s:St):Prop where
 r:C (A 0)=some (.ins "Runner" (Fs A s))
 pp:C (A 1)=some (.lst (s.P.map fmT))
 ps:C (A 2)=some (.lst (s.S.map pcT))
 pt:C (A 3)=some (.lst (s.U.map T.str))
 pd:C (A 4)=some (.dic (dD s.D))
 pl:C (A 5)=some (.lst (s.L.map T.str))
 pg:C (A 6)=some (.lst (s.G.map evT))
def Di (A:Ad):Prop:=∀i j:Fin 7,i≠j→A i≠A j
def Fr (A:Ad)(C C':Hw):Prop:=∀a o,(∀i,a≠A i)→C a=some o→C' a=some o
section
variable {A:Ad}{s:St}
theorem Zdf:(Fs A s).lookup ("hand":Str)=some (hT s.h):=rfl
theorem Zto:(Fs A s).lookup ("wanted":Str)=some (.int s.w:T):=rfl
theorem Zhd:(Fs A s).lookup ("pile":Str)=some (.ref (A 1):T):=rfl
theorem Zjy:(Fs A s).lookup ("still":Str)=some (.ref (A 2):T):=rfl
theorem Zm8:(Fs A s).lookup ("told":Str)=some (.ref (A 3):T):=rfl
theorem Zlk:(Fs A s).lookup ("things":Str)=some (.ref (A 4):T):=rfl
theorem Zh2:(Fs A s).lookup ("labels":Str)=some (.ref (A 5):T):=rfl
theorem Zwk:(Fs A s).lookup ("log":Str)=some (.ref (A 6):T):=rfl
theorem Zhc:(Fs A s).lookup ("steps":Str)=some (.int s.k:T):=rfl
theorem Zpb:(Fs A s).lookup ("cells":Str)=some (.int s.c:T):=rfl
theorem Zll:(Fs A s).lookup ("firsts":Str)=some (.int s.f:T):=rfl
theorem Zfd:(Fs A s).lookup ("ending":Str)=some (eT s.e):=rfl
theorem Zch {h:Hd}:Zau "hand" (hT h) (Fs A s)=Fs A {s with h:=h}:=rfl
theorem Zs6 {x:Int}:Zau "wanted" (.int x) (Fs A s)=Fs A {s with w:=x}:=rfl
theorem Zhz {e:En}:Zau "ending" (eT e) (Fs A s)=Fs A {s with e:=e}:=rfl
theorem Zvj {x:Int}:Zau "steps" (.int x) (Fs A s)=Fs A {s with k:=x}:=rfl
theorem Zvl {x:Int}:Zau "cells" (.int x) (Fs A s)=Fs A {s with c:=x}:=rfl
theorem Zs7 {x:Int}:Zau "firsts" (.int x) (Fs A s)=Fs A {s with f:=x}:=rfl
theorem tb1 {i:Nat}:List.lookup ("Runner":Str) [("Runner",i)]=some i:=rfl
theorem fs_lt:(Fs A s).length<1000:=ZNB rfl
end
section
variable {A:Ad}{C C' C2:Hw}{s s':St}{o:O}
theorem Fr.refl (A:Ad)(C:Hw):Fr A C C:=fun _ _ _ h=>h
theorem Fr.trans (a:Fr A C C')(b:Fr A C' C2):Fr A C C2:=fun c o h1 h=>b c o h1 (a c o h1 h)
theorem Fr.up (f:Fr A C C')(i:Fin 7):Fr A C (up C' (A i) o):=fun c u h1 h=>by rw[Zw (h1 i)];exact f c u h1 h
theorem Fr.ex (f:Fr A C C')(e:Ex C' C2):Fr A C C2:=fun c u h1 h=>e _ _ (f c u h1 h)
theorem Ex.fr (f:Ex C C'):Fr A C C':=fun c u _ h=>f c u h
theorem Rn.ex (R:Rn A C s)(f:Ex C C'):Rn A C' s:=⟨f _ _ R.r,f _ _ R.pp,f _ _ R.ps,f _ _ R.pt,f _ _ R.pd,f _ _ R.pl,f _ _ R.pg⟩
theorem Rn.s0 (R:Rn A C s)(d:Di A)(s':St)(h1:s'.P=s.P:=by rfl)(h2:s'.S=s.S:=by rfl)(h3:s'.U=s.U:=by rfl)(h4:s'.D=s.D:=by rfl)(h5:s'.L=s.L:=by rfl)(h6:s'.G=s.G:=by rfl):Rn A (up C (A 0) (.ins "Runner" (Fs A s'))) s':=
 ⟨Zn,by rw[Zw (d 1 0 (by decide)),h1];exact R.pp,by rw[Zw (d 2 0 (by decide)),h2];exact R.ps,by rw[Zw (d 3 0 (by decide)),h3];exact R.pt,by rw[Zw (d 4 0 (by decide)),h4];exact R.pd,by rw[Zw (d 5 0 (by decide)),h5];exact R.pl,by rw[Zw (d 6 0 (by decide)),h6];exact R.pg⟩
theorem Rn.s1 (R:Rn A C s)(d:Di A)(P:List Fm):Rn A (up C (A 1) (.lst (P.map fmT))) {s with P:=P}:=
 ⟨by rw[Zw (d 0 1 (by decide))];exact R.r,Zn,by rw[Zw (d 2 1 (by decide))];exact R.ps,by rw[Zw (d 3 1 (by decide))];exact R.pt,by rw[Zw (d 4 1 (by decide))];exact R.pd,by rw[Zw (d 5 1 (by decide))];exact R.pl,by rw[Zw (d 6 1 (by decide))];exact R.pg⟩
theorem Rn.s2 (R:Rn A C s)(d:Di A)(S:List Pc):Rn A (up C (A 2) (.lst (S.map pcT))) {s with S:=S}:=
 ⟨by rw[Zw (d 0 2 (by decide))];exact R.r,by rw[Zw (d 1 2 (by decide))];exact R.pp,Zn,by rw[Zw (d 3 2 (by decide))];exact R.pt,by rw[Zw (d 4 2 (by decide))];exact R.pd,by rw[Zw (d 5 2 (by decide))];exact R.pl,by rw[Zw (d 6 2 (by decide))];exact R.pg⟩
theorem Rn.s3 (R:Rn A C s)(d:Di A)(U:List Str):Rn A (up C (A 3) (.lst (U.map T.str))) {s with U:=U}:=
 ⟨by rw[Zw (d 0 3 (by decide))];exact R.r,by rw[Zw (d 1 3 (by decide))];exact R.pp,by rw[Zw (d 2 3 (by decide))];exact R.ps,Zn,by rw[Zw (d 4 3 (by decide))];exact R.pd,by rw[Zw (d 5 3 (by decide))];exact R.pl,by rw[Zw (d 6 3 (by decide))];exact R.pg⟩
theorem Rn.s4 (R:Rn A C s)(d:Di A)(D:List Tm):Rn A (up C (A 4) (.dic (dD D))) {s with D:=D}:=
 ⟨by rw[Zw (d 0 4 (by decide))];exact R.r,by rw[Zw (d 1 4 (by decide))];exact R.pp,by rw[Zw (d 2 4 (by decide))];exact R.ps,by rw[Zw (d 3 4 (by decide))];exact R.pt,Zn,by rw[Zw (d 5 4 (by decide))];exact R.pl,by rw[Zw (d 6 4 (by decide))];exact R.pg⟩
theorem Rn.s5 (R:Rn A C s)(d:Di A)(L:List Str):Rn A (up C (A 5) (.lst (L.map T.str))) {s with L:=L}:=
 ⟨by rw[Zw (d 0 5 (by decide))];exact R.r,by rw[Zw (d 1 5 (by decide))];exact R.pp,by rw[Zw (d 2 5 (by decide))];exact R.ps,by rw[Zw (d 3 5 (by decide))];exact R.pt,by rw[Zw (d 4 5 (by decide))];exact R.pd,Zn,by rw[Zw (d 6 5 (by decide))];exact R.pg⟩
theorem Rn.s6 (R:Rn A C s)(d:Di A)(G:List Ev):Rn A (up C (A 6) (.lst (G.map evT))) {s with G:=G}:=
 ⟨by rw[Zw (d 0 6 (by decide))];exact R.r,by rw[Zw (d 1 6 (by decide))];exact R.pp,by rw[Zw (d 2 6 (by decide))];exact R.ps,by rw[Zw (d 3 6 (by decide))];exact R.pt,by rw[Zw (d 4 6 (by decide))];exact R.pd,by rw[Zw (d 5 6 (by decide))];exact R.pl,Zn⟩
end
theorem Z4f {D:List Tm}{i:Nat}:getT (dD D) (.inl (i:Int))=(D[i]?).map tt:=by
 have key:∀(D:List Tm) (b i:Nat),getT ((D.zipIdx b).map fun x=>((Sum.inl (x.2:Int):Key),tt x.1)) (.inl ((b+i:Nat):Int))=(D[i]?).map tt:=by
  intro D
  induction D with
  | nil=>intro b i;rfl
  | cons t D ih=>
   intro b i
   rw[List.zipIdx_cons,YI]
   unfold getT
   cases i with
   | zero=>rw[List.find?_cons_of_pos (by simp)];simp
   | succ i=>
    rw[List.find?_cons_of_neg (by simp;omega)]
    have:=ih (b+1) i
    unfold getT at this
    rw[show b+1+i=b+(i+1) by omega] at this
    simpa using this
 have:=key D 0 i
 rw[Nat.zero_add] at this
 exact this
theorem Z4d {D:List Tm}{t:Tm}:putT (dD D) (.inl (D.length:Int)) (tt t)=dD (D++[t]):=by
 unfold putT
 rw[XX]
 ·unfold dD;rw[List.zipIdx_append,List.map_append];simp
 ·rw[List.any_eq_true]
  rintro⟨kv,hk,e⟩
  unfold dD at hk
  obtain⟨z,hz,rfl⟩:=XR.mp hk
  have:=List.mem_zipIdx hz
  simp at e
  omega
theorem Z4e {D:List Tm}:(dD D).length=D.length:=by unfold dD;simp
section
variable {A:Ad}{C:Hw}{s:St}{Q:WK}{χ:WX}{n i:Nat}{τ:Sw}{f m:Str}{b:WS}{D:We}{Pc:Calls}{Qg:Sw→Hw→Prop}{v:T}
theorem gs {s':St}(hp:Zau f v (Fs A s)=Fs A s')(R:Rn A C s)(q:Qg (some (.ref (A 0))::τ) (up C (A 0) (.ins "Runner" (Fs A s')))):gFd ["Runner"] f (Zd 0) v (some (.ref (A 0))::τ) C Qg χ:=
 ⟨_,rfl,_,_,_,rfl,R.r,.head _,fs_lt,hp▸q⟩
theorem Zqz:(Fs A s).lookup ("note":Str)=none:=rfl
theorem Zwg:(Fs A s).lookup ("bear":Str)=none:=rfl
theorem Zwf:(Fs A s).lookup ("keep":Str)=none:=rfl
theorem Zzt:(Fs A s).lookup ("enter":Str)=none:=rfl
theorem Zpa:(Fs A s).lookup ("come_back":Str)=none:=rfl
theorem Zjv:(Fs A s).lookup ("mark_for":Str)=none:=rfl
theorem Zwe:(Fs A s).lookup ("make":Str)=none:=rfl
theorem Z3j:(Fs A s).lookup ("bind":Str)=none:=rfl
theorem Zhb:(Fs A s).lookup ("take_frame":Str)=none:=rfl
theorem Zcm:(Fs A s).lookup ("go_into":Str)=none:=rfl
theorem Zo4:(Fs A s).lookup ("use_value":Str)=none:=rfl
theorem Zm4:(Fs A s).lookup ("take_apart":Str)=none:=rfl
theorem Zo6:(Fs A s).lookup ("take_step":Str)=none:=rfl
theorem Zm3:(Fs A s).lookup ("tell_value":Str)=none:=rfl
theorem Zo5:(Fs A s).lookup ("tell_next":Str)=none:=rfl
theorem Zo7:(Fs A s).lookup ("settle":Str)=none:=rfl
theorem Ztl:(Fs A s).lookup ("advance":Str)=none:=rfl
theorem Ztk:(Fs A s).lookup ("outcome":Str)=none:=rfl
theorem m_go:(Fs A s).lookup ("go":Str)=none:=rfl
def nt (s:St)(ev:Str)(i:Nat)(l:Str):Ev:=⟨ev,i,l,s.k⟩
theorem atN {xs:List T}{i:Nat}{x:T}(h:xs[i]?=some x):atI xs (i:Int)=some x:=by
 unfold atI
 have hi:i<xs.length:=(List.getElem?_eq_some_iff.mp h).1
 simp[ixN,hi]
 exact(List.getElem?_eq_some_iff.mp h).2
theorem Zqf {ev l:Str}{j:Nat}(d:Di A)(R:Rn A C s)(hj:s.L[j]?=some l)(hg:s.G.length≤100000)(q:Q .non (up C (A 6) (.lst ((s.G++[nt s ev j l]).map evT)))):wpc pr (n+1) Zk3 [.ref (A 0),.str ev,.int (j:Int)] C Q χ:=by
 refine Zkp rfl ?_
 refine⟨_,rfl,_,_,_,_,rfl,R.r,.head _,Zwk,⟨_,_,rfl,R.pg⟩,?_⟩
 refine⟨_,rfl,_,rfl,_,rfl,_,_,_,_,rfl,R.r,.head _,Zh2,_,rfl,?_⟩
 have e:s.G.map evT++[evT (nt s ev j l)]=(s.G++[nt s ev j l]).map evT:=by rw[XL];rfl
 rw[←e] at q
 refine⟨_,_,R.pl,atN (x:=.str l) (by rw[XM,hj];rfl),_,rfl,_,_,_,_,rfl,R.r,.head _,Zhc,ZNB rfl,_,_,_,rfl,rfl,R.pg,small63' (by rw[XI];exact hg),q⟩
end
open PySem PySem.Spec PyProof.Rows L2 WL
def Zkk (s:St)(l:Str):St:={s with L:=s.L++[l],G:=s.G++[nt s "born" s.L.length l]}
def Zwo (s:St)(t:Tm):St:={s with D:=s.D++[t]}
def isM:Tm→Bool
 | .at_ _=>true
 | _=>false
def isV:Hd→Bool
 | .no=>false
 | .tm t=>isVt t
 | .made _ _=>true
def mkS (s:St)(l:Str)(t:Tm):St:=if isM t=true then s else Zwo (Zkk s l) t
def mkN (s:St):Tm→Nat
 | .at_ i=>i
 | _=>s.L.length
theorem Z3g {s:St}{t:Tm}(h:isM t=true):tt t=atT (mkN s t):=by cases t<;>first | rfl | cases h
theorem Zr4 {s:St}{t:Tm}(h:isM t=false):mkN s t=s.L.length:=by cases t<;>first | rfl | cases h
theorem inM {t:Tm}{w:Str}{r:List T}(e:tt t=.tup (.str w::r)):inL (.str w) [.str "at",.str "shut",.str "ring"]=isM t:=by
 cases t<;>(unfold tt at e;injection e with e;injection e with e _;injection e with e;subst e;first | (show _=false;decide+kernel) | (show _=true;decide+kernel))
theorem inV {h:Hd}{w:Str}{r:List T}(e:hT h=.tup (.str w::r)):inL (.str w) [.str "number",.str "fun",.str "made"]=isV h:=by
 cases h with
 | no=>cases e
 | made c ms=>unfold hT at e;injection e with e;injection e with e _;injection e with e;subst e;show _=true;decide+kernel
 | tm t=>cases t<;>(unfold hT tt at e;injection e with e;injection e with e _;injection e with e;subst e;first | (show _=false;decide+kernel) | (show _=true;decide+kernel))
theorem Zq8 {h:Hd}(n:h≠.no):∃w r,hT h=.tup (.str w::r):=by
 cases h with
 | no=>exact absurd rfl n
 | made c ms=>exact⟨_,_,rfl⟩
 | tm t=>exact Zuh t
section
variable {A:Ad}{C:Hw}{s:St}{Q:WK}{χ:WX}{n:Nat}
theorem Zs4 {t:Tm}(q:Q (.bl (isM t)) C):wpc pr (n+1) Ztv [tt t] C Q χ:=by
 obtain⟨w,r,e⟩:=Zuh t
 rw[←inM e] at q
 rw[e]
 exact Zsy rfl ⟨_,rfl,_,Yb,Zb5,by decide,q⟩
theorem Zjc {h:Hd}(hn:h≠.no)(q:Q (.bl (isV h)) C):wpc pr (n+1) Zq6 [hT h] C Q χ:=by
 obtain⟨w,r,e⟩:=Zq8 hn
 rw[←inV e] at q
 rw[e]
 exact Zp6 rfl ⟨_,rfl,_,Yb,Zb5,by decide,q⟩
theorem Zvb {l:Str}(d:Di A)(R:Rn A C s)(hL:s.L.length≤100000)(hg:s.G.length≤100000)(q:∀C',Fr A C C'→Rn A C' (Zkk s l)→Q (atT s.L.length) C'):wpc pr (n+2) Zk7 [.ref (A 0),.str l] C Q χ:=by
 refine Zkt rfl ?_
 refine⟨_,rfl,_,_,_,_,rfl,R.r,.head _,Zh2,_,rfl,_,R.pl,?_⟩
 refine⟨_,rfl,_,_,_,_,rfl,R.r,.head _,Zh2,⟨_,_,rfl,R.pl⟩,_,rfl,_,_,_,rfl,rfl,R.pl,small63' (by rw[XI];exact hL),?_⟩
 have e:s.L.map T.str++[.str l]=(s.L++[l]).map T.str:=by rw[XL];rfl
 have el:((s.L.map T.str).length:Int)=((s.L.length:Nat):Int):=by rw[XI]
 rw[e,el]
 have R1:=R.s5 d (s.L++[l])
 refine⟨_,rfl,_,_,_,_,rfl,R1.r,tb1,Zqz,_,rfl,?_⟩
 dsimp only[Zf]
 refine Zqf (n:=n) (j:=s.L.length) (l:=l) d R1 (by simp) hg ?_
 exact⟨_,rfl,ZNB rfl,q _ (((Fr.refl _ _).up 5).up 6) (R1.s6 d _)⟩
theorem Zu8 {t:Tm}(d:Di A)(R:Rn A C s)(hD:s.D.length≤100000)(q:∀C',Fr A C C'→Rn A C' (Zwo s t)→Q .non C'):wpc pr (n+1) Zk5 [.ref (A 0),.int (s.D.length:Int),tt t] C Q χ:=by
 refine Zkr rfl ?_
 refine⟨_,rfl,_,rfl,_,_,_,_,rfl,R.r,.head _,Zlk,_,rfl,_,_,_,rfl,rfl,R.pd,small63' (by rw[Z4e];exact hD),?_⟩
 rw[Z4d]
 exact q _ ((Fr.refl _ _).up 4) (R.s4 d _)
theorem Zcl {h:Hd}{f:Fm}(d:Di A)(R:Rn A C s)(hl:s.P.length≤100000)(q:∀C',Fr A C C'→Rn A C' {s with P:=s.P++[f],h:=h}→Q .non C'):wpc pr (n+1) Zh6 [.ref (A 0),hT h,fmT f] C Q χ:=by
 refine Zhv rfl ?_
 refine⟨_,rfl,_,_,_,_,rfl,R.r,.head _,Zhd,⟨_,_,rfl,R.pp⟩,_,rfl,_,_,_,rfl,rfl,R.pp,small63' (by rw[XI];exact hl),?_⟩
 have e:s.P.map fmT++[fmT f]=(s.P++[f]).map fmT:=by rw[XL];rfl
 rw[e]
 have R1:=R.s1 d (s.P++[f])
 refine⟨_,rfl,gs (χ:=χ) Zch R1 ?_⟩
 exact q _ (((Fr.refl _ _).up 1).up 0) (R1.s0 d _)
theorem Zg3 {P:List Fm}{f:Fm}(d:Di A)(R:Rn A C s)(hP:s.P=P++[f])(q:∀C',Fr A C C'→Rn A C' {s with P:=P}→Q (fmT f) C'):wpc pr (n+1) Zfu [.ref (A 0)] C Q χ:=by
 refine Zfm rfl ?_
 have hpp:=R.pp
 rw[hP,XL] at hpp
 refine⟨_,rfl,_,_,_,_,rfl,R.r,.head _,Zhd,⟨_,_,rfl,hpp⟩,_,_,_,rfl,rfl,hpp,(by simp:(P.map fmT++[f].map fmT)[(P.map fmT++[f].map fmT).length-1]?=some (fmT f)),?_⟩
 have e:(P.map fmT++[f].map fmT).dropLast=P.map fmT:=by simp
 rw[e]
 exact q _ ((Fr.refl _ _).up 1) (R.s1 d P)
theorem Zyj {j:Nat}{l:Str}{t:Tm}(d:Di A)(R:Rn A C s)(hj:s.L[j]?=some l)(ht:s.D[j]?=some t)(hg:s.G.length≤100000)(hl:s.P.length≤100000)(q:∀C',Fr A C C'→Rn A C' {s with P:=s.P++[.back j],h:=.tm t,G:=s.G++[nt s "enter" j l]}→Q .non C'):wpc pr (n+2) Zj3 [.ref (A 0),.int (j:Int)] C Q χ:=by
 refine Zi3 rfl ?_
 refine⟨_,rfl,_,_,_,_,rfl,R.r,tb1,Zqz,_,rfl,?_⟩
 dsimp only[Zf]
 refine Zqf (n:=n) (ev:="enter") d R hj hg ?_
 have R1:=R.s6 d (s.G++[nt s "enter" j l])
 refine⟨_,rfl,_,_,_,_,rfl,R1.r,tb1,Zcm,_,rfl,_,_,_,_,rfl,R1.r,.head _,Zlk,_,rfl,?_⟩
 refine⟨_,_,_,tt t,rfl,rfl,.inl R1.pd,by rw[Z4f];exact congrArg (Option.map tt) ht,_,rfl,ZNB rfl,?_⟩
 dsimp only[Zf]
 exact Zcl (n:=n) (h:=.tm t) (f:=.back j) d R1 hl fun C' hF R'=>q C' (((Fr.refl _ _).up 6).trans hF) R'
theorem Zon {j:Nat}{l:Str}(d:Di A)(R:Rn A C s)(hj:s.L[j]?=some l)(hg:s.G.length≤100000)(q:∀C',Fr A C C'→Rn A C' {s with G:=s.G++[nt s "back" j l]}→Q .non C'):wpc pr (n+2) Zgm [.ref (A 0),.int (j:Int)] C Q χ:=by
 refine Zgd rfl ?_
 refine⟨_,rfl,_,_,_,_,rfl,R.r,tb1,Zqz,_,rfl,?_⟩
 dsimp only[Zf]
 exact Zqf (n:=n) (ev:="back") d R hj hg (q _ ((Fr.refl _ _).up 6) (R.s6 d _))
theorem Zjb {l:Str}{t:Tm}(d:Di A)(R:Rn A C s)(hDL:s.D.length=s.L.length)(hL:s.L.length≤100000)(hg:s.G.length≤100000)(q:∀C',Fr A C C'→Rn A C' (mkS s l t)→Q (atT (mkN s t)) C'):wpc pr (n+3) Zhh [.ref (A 0),.str l,tt t] C Q χ:=by
 refine Zgu rfl ⟨_,rfl,?_⟩
 dsimp only[Zf]
 refine Zs4 (n:=n+1) ⟨_,rfl,?_⟩
 cases c:isM t with
 | true=>
  refine Jj ⟨_,rfl,?_⟩
  have:=q C (Fr.refl _ _)
  unfold mkS at this
  rw[XY c,←Z3g c] at this
  exact this R
 | false=>
  refine Ye ?_
  refine⟨_,rfl,_,_,_,_,rfl,R.r,tb1,Zwg,_,rfl,?_⟩
  dsimp only[Zf]
  refine Zvb (n:=n) d R hL hg fun C1 hF1 R1=>?_
  refine⟨_,rfl,_,_,_,_,rfl,R1.r,tb1,Zwf,_,rfl,_,Yu,_,rfl,?_⟩
  have e:((s.L.length:Nat):Int)=(((Zkk s l).D.length:Nat):Int):=by show _=((s.D.length:Nat):Int);rw[hDL]
  dsimp only[Zf]
  rw[e]
  refine Zu8 (n:=n+1) d R1 (by show s.D.length≤_;omega) fun C2 hF2 R2=>⟨_,rfl,?_⟩
  have:=q C2 (hF1.trans hF2)
  unfold mkS at this
  rw[XX (by rw[c];decide),Zr4 c] at this
  exact this R2
end
open PySem PySem.Spec PyProof.Rows L2 WL
theorem Rn.fresh {A:Ad}{C:Hw}{s:St}{p:Addr}(R:Rn A C s)(h:C p=none):∀i,p≠A i:=fun i e=>by
 subst e
 match i with
 | 0=>rw[R.r] at h;cases h
 | 1=>rw[R.pp] at h;cases h
 | 2=>rw[R.ps] at h;cases h
 | 3=>rw[R.pt] at h;cases h
 | 4=>rw[R.pd] at h;cases h
 | 5=>rw[R.pl] at h;cases h
 | 6=>rw[R.pg] at h;cases h
theorem Rn.off {A:Ad}{C:Hw}{s:St}{p:Addr}{o:O}(R:Rn A C s)(h:∀i,p≠A i):Rn A (up C p o) s:=
 ⟨by rw[Zw (h 0).symm];exact R.r,by rw[Zw (h 1).symm];exact R.pp,by rw[Zw (h 2).symm];exact R.ps,by rw[Zw (h 3).symm];exact R.pt,by rw[Zw (h 4).symm];exact R.pd,by rw[Zw (h 5).symm];exact R.pl,by rw[Zw (h 6).symm];exact R.pg⟩
def lab (c:Str)(i:Nat):Str:=Str.empty++c++(".":Str)++Str.ofString (toString ((i:Nat):Int))
def sA (s:St)(c:Str)(ts:List Tm):Nat→St
 | 0=>s
 | i+1=>match ts[i]? with | some t=>mkS (sA s c ts i) (lab c (i+1)) t | none=>sA s c ts i
def mA (s:St)(c:Str)(ts:List Tm):Nat→List Nat
 | 0=>[]
 | i+1=>match ts[i]? with | some t=>mA s c ts i++[mkN (sA s c ts i) t] | none=>mA s c ts i
theorem Zzq {s:St}{l:Str}{t:Tm}(h:s.D.length=s.L.length):(mkS s l t).D.length=(mkS s l t).L.length∧(mkS s l t).L.length≤s.L.length+1∧(mkS s l t).G.length≤s.G.length+1:=by
 unfold mkS
 split
 ·exact⟨h,by omega,by omega⟩
 ·simp only[Zwo,Zkk,List.length_append,List.length_cons,List.length_nil];omega
theorem Zve {s:St}{c:Str}{ts:List Tm}(h:s.D.length=s.L.length):∀i,(sA s c ts i).D.length=(sA s c ts i).L.length∧(sA s c ts i).L.length≤s.L.length+i∧(sA s c ts i).G.length≤s.G.length+i
 | 0=>⟨h,XE _,XE _⟩
 | i+1=>by
  obtain⟨a,b,e⟩:=Zve h i
  unfold sA
  cases ts[i]? with
  | none=>exact⟨a,by simp only;omega,by simp only;omega⟩
  | some t=>
   obtain⟨a',b',e'⟩:=Zzq (l:=lab c (i+1)) (t:=t) a
   exact⟨a',by simp only;omega,by simp only;omega⟩
theorem Z3k {s:St}{c:Str}{ts:List Tm}(h:ts.length≤2):∀i,(mA s c ts i).length≤1000:=fun i=>by
 have key:∀i,(mA s c ts i).length≤min i ts.length:=fun i=>by
  induction i with
  | zero=>simp[mA]
  | succ i ih=>
   unfold mA
   cases e:ts[i]? with
   | none=>simp only;omega
   | some t=>
    have:=(List.getElem?_eq_some_iff.mp e).1
    simp only[List.length_append,List.length_cons,List.length_nil];omega
 have:=key i
 omega
def Y2 (s:St)(c:Str):St:=if c="Cons" then {s with c:=s.c+1} else s
def Ze4 (s:St)(c:Str)(ts:List Tm):St:={sA (Y2 s c) c ts ts.length with h:=.made c (mA (Y2 s c) c ts ts.length)}
theorem Ztn {i:Nat}(h:i≤100):((i:Nat):Int).natAbs.log2<1920:=by
 by_cases h0:i=0
 ·subst h0;decide
 ·exact(Nat.log2_lt (by omega)).mpr (XG (show i<2^7 by omega) (Nat.pow_le_pow_right (by decide) (by decide)))
theorem Zzw {c:Str}{i:Nat}(hc:c.length≤4)(hi:i=1∨i=2):(Str.empty++c).length≤4∧(Str.empty++c++(".":Str)).length≤5∧(lab c i).length≤6:=by
 have h0:(Str.empty++c).length=Str.empty.length+c.length:=YC _ _
 have h1:(Str.empty++c++(".":Str)).length=(Str.empty++c).length+(".":Str).length:=YC _ _
 have h2:(lab c i).length=(Str.empty++c++(".":Str)).length+(Str.ofString (toString ((i:Nat):Int))).length:=YC _ _
 have e0:Str.empty.length=0:=by decide
 have e1:(".":Str).length=1:=by decide+kernel
 have e2:(Str.ofString (toString ((i:Nat):Int))).length=1:=by rcases hi with rfl | rfl<;>decide+kernel
 omega
section
variable {A:Ad}{C:Hw}{s:St}{Q:WK}{χ:WX}{n:Nat}
theorem Zu7 {c:Str}{ts:List Tm}(d:Di A)(R:Rn A C s)(hc:c.length≤4)(h2:ts.length≤2)(hDL:s.D.length=s.L.length)(hL:s.L.length≤90000)(hg:s.G.length≤90000)
  (q:∀C',Fr A C C'→Rn A C' (Ze4 s c ts)→Q .non C'):wpc pr (n+4) Zk4 [.ref (A 0),.str c,.tup (ts.map tt)] C Q χ:=by
 refine Zkq rfl ?_
 have fin:∀C1,Fr A C C1→Rn A C1 (Y2 s c)→Zbj (wpc pr (n+3)) (ZUD Q χ) [some (.ref (A 0)),some (.str c),some (.tup (ts.map tt)),none,none,none] C1:=by
  intro C1 hF1 R1
  have hDL':(Y2 s c).D.length=(Y2 s c).L.length:=by unfold Y2;split<;>exact hDL
  have hL':(Y2 s c).L.length≤90000:=by unfold Y2;split<;>exact hL
  have hg':(Y2 s c).G.length≤90000:=by unfold Y2;split<;>exact hg
  have emk:Ze4 s c ts={sA (Y2 s c) c ts ts.length with h:=.made c (mA (Y2 s c) c ts ts.length)}:=rfl
  rw[emk] at q
  generalize Y2 s c=s1 at R1 hDL' hL' hg' q
  refine⟨ZNB rfl,fun a ha=>?_⟩
  have hfr:=R1.fresh ha
  have R1':=R1.ex (Ex.new (o:=.lst []) ha)
  refine⟨_,rfl,_,rfl,?_⟩
  refine Zcj (fun i τ C'=>∃x4 x5,τ=[some (.ref (A 0)),some (.str c),some (.tup (ts.map tt)),some (.ref a),x4,x5]∧Fr A C C'∧Rn A C' (sA s1 c ts i)∧C' a=some (.lst ((mA s1 c ts i).map atT))) ⟨none,none,rfl,hF1.ex (Ex.new ha),R1',Zn⟩ (fun _ _ _ _ _=>trivial) ?_ ?_
  ·rintro i x τ C' N hx ⟨x4,x5,rfl,hF,R2,hC⟩ hN
   have hi:i<ts.length:=by have:=(List.getElem?_eq_some_iff.mp hx).1;rw[Zha,XI] at this;exact this
   have hti:ts[i]?=some (ts[i]'hi):=by simp[hi]
   generalize ts[i]'hi=t at hti
   rw[Zr2 (x:=tt t) (by rw[XM,hti];rfl)] at hx
   cases hx
   obtain⟨l1,l2,l3⟩:=Zve (c:=c) (ts:=ts) hDL' i
   obtain⟨k1,k2,k3⟩:=Zzw (i:=i+1) hc (by omega)
   refine⟨_,rfl,_,_,rfl,_,_,rfl,rfl,?_⟩
   refine⟨_,rfl,⟨_,_,rfl,hC⟩,_,rfl,_,_,_,_,rfl,R2.r,tb1,Zjv,?_⟩
   refine⟨_,rfl,.inl ⟨_,rfl,small63 (by omega),_,rfl,small63 (by omega),_,rfl,small63 (by omega),_,rfl,.inr ⟨_,rfl,Ztn (by omega),_,rfl,small63 (by exact XN k3 (by omega)),?_⟩⟩⟩
   refine⟨_,rfl,?_⟩
   dsimp only[Zf]
   have hm:=Zjb (A:=A) (C:=C') (s:=sA s1 c ts i) (l:=lab c (i+1)) (t:=t) (n:=n) (χ:=χ) (Q:=fun v C2=>∃a_1 xs y,(T.ref a)=.ref a_1∧[v]=[y]∧C2 a_1=some (.lst xs)∧xs.length<sizeLine∧N [some (.ref (A 0)),some (.str c),some (.tup (ts.map tt)),some (.ref a),some (.int ((i+1:Nat):Int)),some (tt t)] (up C2 a_1 (.lst (xs++[y])))) d R2 l1 (by omega) (by omega) fun C2 hF2 R3=>?_
   ·exact hm
   ·have hC2:=hF2 _ _ hfr hC
    have hlm:(mA s1 c ts i).length≤1000:=Z3k h2 i
    refine⟨_,_,_,rfl,rfl,hC2,small63' (by rw[XI];omega),hN _ _ ⟨_,_,rfl,?_,?_,?_⟩⟩
    ·exact fun b o h1 h=>by
      have:b≠a:=fun e=>by subst e;have z:=hF1 _ _ h1 h;rw[ha] at z;cases z
      rw[Zw this];exact hF2 _ _ h1 (hF _ _ h1 h)
    ·have e:sA s1 c ts (i+1)=mkS (sA s1 c ts i) (lab c (i+1)) t:=by rw[sA,hti]
     rw[e];exact R3.off hfr
    ·have e:mA s1 c ts (i+1)=mA s1 c ts i++[mkN (sA s1 c ts i) t]:=by rw[mA,hti]
     rw[e,XL];exact Zn
  ·rintro τ C' ⟨x4,x5,rfl,hF,R2,hC⟩
   rw[Zha,XI] at R2 hC
   refine⟨_,rfl,_,rfl,_,rfl,_,hC,ZNB rfl,?_⟩
   exact gs (χ:=χ) (Zch (h:=.made c (mA s1 c ts ts.length))) R2 (q _ (hF.up 0) (R2.s0 d _))
 refine⟨_,rfl,?_⟩
 by_cases hcs:c="Cons"
 ·refine J5 (v:=true) (by rw[hcs];exact XU _) ⟨true,rfl,Jj ?_⟩
  refine⟨_,rfl,_,_,_,_,rfl,R.r,.head _,Zpb,?_⟩
  refine gs (χ:=χ) Zvl R ?_
  refine fin _ ((Fr.refl _ _).up 0) ?_
  have e:Y2 s c={s with c:=s.c+1}:=by unfold Y2;rw[XY hcs]
  rw[e]
  exact R.s0 d _
 ·refine J5 (v:=false) (by simpa using hcs) ⟨false,rfl,Ye ?_⟩
  refine fin _ (Fr.refl _ _) ?_
  have e:Y2 s c=s:=by unfold Y2;rw[XX hcs]
  rw[e];exact R
end
open PySem PySem.Spec PyProof.Rows L2 WL
def bA (s:St)(ns:List Str):Nat→St
 | 0=>s
 | i+1=>match ns[i]? with | some x=>Zkk (bA s ns i) x | none=>bA s ns i
def mB (b:Nat)(ns:List Str):Nat→Mn
 | 0=>[]
 | i+1=>match ns[i]? with | some x=>mB b ns i++[(x,b+i)] | none=>mB b ns i
theorem bA_f {s:St}{ns:List Str}:∀i,i≤ns.length→(bA s ns i).L.length=s.L.length+i∧(bA s ns i).G.length=s.G.length+i∧(bA s ns i).D=s.D∧(bA s ns i).P=s.P∧(bA s ns i).S=s.S∧(bA s ns i).U=s.U∧(bA s ns i).k=s.k∧(bA s ns i).w=s.w∧(bA s ns i).c=s.c∧(bA s ns i).f=s.f∧(bA s ns i).e=s.e
 | 0,_=>⟨rfl,rfl,rfl,rfl,rfl,rfl,rfl,rfl,rfl,rfl,rfl⟩
 | i+1,h=>by
  obtain⟨h1,h2,h3⟩:=bA_f (s:=s) (ns:=ns) i (by omega)
  have e:ns[i]?=some (ns[i]'(by omega)):=by simp[show i<ns.length by omega]
  unfold bA
  rw[e]
  refine⟨?_,?_,h3⟩
  ·show((bA s ns i).L++[_]).length=_
   rw[List.length_append,h1];rfl
  ·show((bA s ns i).G++[_]).length=_
   rw[List.length_append,h2];rfl
theorem Zfc {b:Nat}{ns:List Str}:∀i,i≤ns.length→(mB b ns i).map (·.1)=ns.take i
 | 0,_=>by simp[mB]
 | i+1,h=>by
  have e:ns[i]?=some (ns[i]'(by omega)):=by simp[show i<ns.length by omega]
  rw[mB,e,XL,Zfc i (by omega),YD,e];rfl
theorem Z07 {b:Nat}{ns:List Str}:∀{i j:Nat} {x:Str},i≤ns.length→j<i→ns[j]?=some x→(mB b ns i)[j]?=some (x,b+j)
 | 0,_,_,_,h,_=>by omega
 | i+1,j,x,hi,hj,hx=>by
  have e:ns[i]?=some (ns[i]'(by omega)):=by simp[show i<ns.length by omega]
  have hl:(mB b ns i).length=i:=by have:=congrArg List.length (Zfc (b:=b) (ns:=ns) i (by omega));rw[XI,YM] at this;omega
  rw[mB,e]
  by_cases c:j=i
  ·subst c
   rw[e] at hx;cases hx
   simp[hl]
  ·simp only
   rw[List.getElem?_append_left (by omega)]
   exact Z07 (by omega) (by omega) hx
theorem Zwi {b:Nat}{ns:List Str}:∀{i:Nat},i≤ns.length→∀kv∈mB b ns i,kv.2<b+i
 | 0,_,kv,h=>by simp[mB] at h
 | i+1,hi,kv,h=>by
  have e:ns[i]?=some (ns[i]'(by omega)):=by simp[show i<ns.length by omega]
  rw[mB,e] at h
  simp only[List.mem_append,List.mem_singleton] at h
  rcases h with h | rfl
  ·have:=Zwi (i:=i) (by omega) kv h
   omega
  ·show b+i<_;omega
def mkM (s:St)(ns:List Str):Mn:=mB s.L.length ns ns.length
def Zxs (s:St)(ns:List Str)(ts:List Tm)(B':Tm):St:={bA s ns ns.length with D:=s.D++ts,h:=.tm B'}
theorem Zm5 {M:Mn}:(mT M).map (·.1)=M.map (·.1):=by unfold mT;rw[YE];rfl
section
variable {A:Ad}{C:Hw}{s:St}{Q:WK}{χ:WX}{n f:Nat}
theorem Z10 {α:Type}{Z:List α}{x:α→Str}{o g:α→Tm}{B B':Tm}(d:Di A)(R:Rn A C s)(h5:Z.length≤5)(hn:(Z.map x).Nodup)(hDL:s.D.length=s.L.length)(hL:s.L.length≤90000)(hg:s.G.length≤90000)
  (hz:∀z∈Z,Pq f (tt (o z)) (mT (mkM s (Z.map x))) (tt (g z))) (hB:Pq f (tt B) (mT (mkM s (Z.map x))) (tt B')) (q:∀C',Fr A C C'→Rn A C' (Zxs s (Z.map x) (Z.map g) B')→Q .non C'):wpc pr (n+f+6) Zk6 [.ref (A 0),.tup (Z.map fun z=>.tup [.str (x z),tt (o z)]),tt B] C Q χ:=by
 refine Zks rfl ?_
 refine fun a ha=>?_
 have hfr:=R.fresh ha
 have R0:=R.ex (Ex.new (o:=.dic []) ha)
 have hnl:(Z.map x).length=Z.length:=XI _
 refine⟨_,rfl,?_⟩
 refine Zcj (fun i τ C'=>∃x4 x5,τ=[some (.ref (A 0)),some (.tup (Z.map fun z=>.tup [.str (x z),tt (o z)])),some (tt B),some (.ref a),x4,x5]∧Fr A C C'∧Rn A C' (bA s (Z.map x) i)∧C' a=some (.dic (dm (mT (mB s.L.length (Z.map x) i))))) ⟨none,none,rfl,(Fr.refl _ _).ex (Ex.new ha),R0,Zn⟩ (fun _ _ _ _ _=>trivial) ?_ ?_
 ·rintro i y τ C' N hx ⟨x4,x5,rfl,hF,R2,hC⟩ hN
  rw[XM] at hx
  cases hzi:Z[i]? with
  | none=>rw[hzi] at hx;cases hx
  | some z=>
   rw[hzi] at hx
   cases hx
   have hi:i<Z.length:=(List.getElem?_eq_some_iff.mp hzi).1
   have hni:(Z.map x)[i]?=some (x z):=by rw[XM,hzi];rfl
   obtain⟨b1,b2,b3⟩:=bA_f (s:=s) (ns:=Z.map x) i (by omega)
   have hkey:(x z)∉(mB s.L.length (Z.map x) i).map (·.1):=fun hm=>by
    rw[Zfc i (by omega)] at hm
    obtain⟨j,hj⟩:=List.getElem?_of_mem hm
    rw[List.getElem?_take] at hj
    split at hj
    ·rename_i hji
     have:=(List.getElem?_inj (i:=j) (j:=i) (by omega) hn).mp (by rw[hj,hni])
     omega
    ·cases hj
   refine⟨_,rfl,_,_,rfl,_,_,rfl,rfl,?_⟩
   refine⟨_,rfl,_,_,_,_,rfl,R2.r,tb1,Zwg,_,rfl,?_⟩
   dsimp only[Zf]
   refine Zvb (n:=n+f+3) (l:=(x z)) d R2 (by omega) (by omega) fun C2 hF2 R3=>?_
   have hC2:=hF2 _ _ hfr hC
   refine⟨_,rfl,_,rfl,_,_,_,rfl,rfl,hC2,?_,?_⟩
   ·have hl:=congrArg List.length (Zfc (b:=s.L.length) (ns:=Z.map x) i (by omega))
    rw[XI,YM] at hl
    rw[Zxe];unfold mT;rw[XI];exact small63' (by omega)
   ·rw[Zxd (by rw[Zm5];exact hkey),b1]
    refine hN _ _ ⟨_,_,rfl,?_,?_,?_⟩
    ·exact fun b o h1' h=>by
      have:b≠a:=fun e=>by subst e;rw[ha] at h;cases h
      rw[Zw this];exact hF2 _ _ h1' (hF _ _ h1' h)
    ·have e:bA s (Z.map x) (i+1)=Zkk (bA s (Z.map x) i) (x z):=by rw[bA,hni]
     rw[e];exact R3.off hfr
    ·have e:mT (mB s.L.length (Z.map x) (i+1))=mT (mB s.L.length (Z.map x) i)++[((x z),atT (s.L.length+i))]:=by rw[mB,hni];unfold mT;rw[XL];rfl
     rw[e];exact Zn
 ·rintro τ C' ⟨x4,x5,rfl,hF,R2,hC⟩
  rw[XI] at R2 hC
  have eM:mB s.L.length (Z.map x) Z.length=mkM s (Z.map x):=by unfold mkM;rw[hnl]
  rw[eM] at hC
  obtain⟨b1,b2,b3,b4,b5,b6,b7,b8,b9,b10,b11⟩:=bA_f (s:=s) (ns:=Z.map x) Z.length (by omega)
  generalize hs2:bA s (Z.map x) Z.length=s2 at R2 b1 b2 b3 b4 b5 b6 b7 b8 b9 b10 b11
  refine⟨_,rfl,?_⟩
  refine Zcj (fun i τ C'=>∃x4 x5,τ=[some (.ref (A 0)),some (.tup (Z.map fun z=>.tup [.str (x z),tt (o z)])),some (tt B),some (.ref a),x4,x5]∧Fr A C C'∧Rn A C' {s2 with D:=s.D++(Z.take i).map g}∧C' a=some (.dic (dm (mT (mkM s (Z.map x)))))) ⟨x4,x5,rfl,hF,by rw[List.take_zero,List.map_nil,YK,←b3];exact R2,hC⟩ (fun _ _ _ _ _=>trivial) ?_ ?_
  ·rintro i y τ C' N hx ⟨x4,x5,rfl,hF,R3,hC⟩ hN
   rw[XM] at hx
   cases hzi:Z[i]? with
   | none=>rw[hzi] at hx;cases hx
   | some z=>
    rw[hzi] at hx
    cases hx
    have hi:i<Z.length:=(List.getElem?_eq_some_iff.mp hzi).1
    have hni:(Z.map x)[i]?=some (x z):=by rw[XM,hzi];rfl
    have hget:getT (dm (mT (mkM s (Z.map x)))) (.inr (x z))=some (atT (s.L.length+i)):=by
     have hk:((mT (mkM s (Z.map x))).map (·.1)).Nodup:=by rw[Zm5];unfold mkM;rw[Zfc _ (by omega),List.take_of_length_le (by omega)];exact hn
     exact Z1c (kv:=((x z),atT (s.L.length+i))) (i:=i) hk (by unfold mT mkM;rw[XM,Z07 (x:=x z) (by omega) (by omega) hni];rfl)
    have hzm:=List.mem_of_getElem? hzi
    refine⟨_,rfl,_,_,rfl,_,_,rfl,rfl,?_⟩
    refine⟨_,rfl,_,_,_,_,rfl,R3.r,tb1,Zwf,?_⟩
    refine⟨_,rfl,_,rfl,_,_,_,_,rfl,rfl,.inl hC,hget,_,Yu,?_⟩
    refine⟨_,rfl,_,rfl,?_⟩
    dsimp only[Zf]
    refine PT.put (hz z hzm).1 (hz z hzm).2.2 (n:=n) (.inl hC) fun C2 hE2=>?_
    have R4:=R3.ex hE2
    have eD:((s.L.length+i:Nat):Int)=((({s2 with D:=s.D++(Z.take i).map g}:St).D.length:Nat):Int):=by
     show _=(((s.D++(Z.take i).map g).length:Nat):Int)
     rw[List.length_append,XI,YM,hDL]
     congr 2;omega
    rw[eD]
    refine Zu8 (n:=n+f+4) d R4 (by show(s.D++(Z.take i).map g).length≤_;rw[List.length_append,XI,YM];omega) fun C3 hF3 R5=>?_
    refine hN _ _ ⟨_,_,rfl,(hF.ex hE2).trans hF3,?_,hF3 _ _ hfr (hE2 _ _ hC)⟩
    have e:s.D++(Z.take (i+1)).map g=s.D++(Z.take i).map g++[g z]:=by rw[YD,hzi,XL,YL];rfl
    rw[e];exact R5
  ·rintro τ C' ⟨x4,x5,rfl,hF,R3,hC⟩
   rw[XI,List.take_length] at R3
   refine⟨_,rfl,_,rfl,?_⟩
   dsimp only[Zf]
   refine PT.put hB.1 hB.2.2 (n:=n) (.inl hC) fun C2 hE2=>?_
   have R4:=R3.ex hE2
   refine gs (χ:=χ) (Zch (h:=.tm B')) R4 ?_
   have:=q (up C2 (A 0) (.ins "Runner" (Fs A {s2 with D:=s.D++Z.map g,h:=.tm B'}))) ((hF.ex hE2).up 0)
   unfold Zxs at this
   rw[hnl,hs2] at this
   exact this (R4.s0 d _)
end
open PySem PySem.Spec PyProof.Rows L2 WL
def Zjf (o:Str)(x y:Int):Hd:=
 if o="<" then .made (if decide (x<y)=true then "Yes" else "No") [] else if o="=" then .made (if (x==y)=true then "Yes" else "No") []
 else .tm (.num ((if o="+" then x+y else if o="-" then x-y else x*y)%big))
def altF (sh:Str)(al:List Al):Option Al:=al.find? fun a=>decide (a.1=sh)
section
variable {C:Hw}{Q:WK}{χ:WX}{n f:Nat}
theorem Zrs {b:Bool}(q:Q (.tup [.str "made",.str (if b=true then "Yes" else "No"),.tup []]) C):wpc pr (n+1) Zz3 [.bl b] C Q χ:=by
 refine Zx7 rfl ⟨_,rfl,_,rfl,?_⟩
 cases b
 ·exact Ye ⟨ZNB rfl,ZNB rfl,q⟩
 ·exact Jj ⟨ZNB rfl,ZNB rfl,q⟩
theorem Zqe {op:Str}{x y:Int}(hx:0≤x)(hx':x<big)(q:Q (hT (Zjf op x y)) C):wpc pr (n+2) Zq5 [.str op,.int x,.int y] C Q χ:=by
 refine Zp5 rfl ?_
 have p:CPow 10 18:=⟨by decide,by decide,by decide⟩
 have hx'':x<1000000000000000000:=hx'
 unfold Zjf at q
 by_cases c1:op="<"
 ·rw[XY c1] at q
  refine Zdw rfl c1 ⟨_,rfl,_,rfl,?_⟩
  dsimp only[wLt,Zf]
  exact Zrs q
 rw[XX c1] at q
 refine k_no rfl c1 ?_
 by_cases c2:op="="
 ·rw[XY c2] at q
  refine Zdw rfl c2 ⟨_,rfl,_,rfl,eqI rfl ?_⟩
  dsimp only[Zf]
  exact Zrs q
 rw[XX c2] at q
 refine k_no rfl c2 ?_
 by_cases c3:op="+"
 ·rw[XY c3] at q
  exact⟨_,rfl,J5 (v:=true) (by rw[c3];exact XU _) ⟨true,rfl,Jj ⟨_,rfl,_,rfl,_,rfl,p,by decide,ZNB rfl,q⟩⟩⟩
 rw[XX c3] at q
 by_cases c4:op="-"
 ·rw[XY c4] at q
  exact⟨_,rfl,J5 (v:=false) (by simpa using c3) ⟨false,rfl,Ye ⟨_,rfl,J5 (v:=true) (by rw[c4];exact beq_self_eq_true _) ⟨true,rfl,Jj ⟨_,rfl,_,rfl,_,rfl,p,by decide,ZNB rfl,q⟩⟩⟩⟩⟩
 rw[XX c4] at q
 exact⟨_,rfl,J5 (v:=false) (by simpa using c3) ⟨false,rfl,Ye ⟨_,rfl,J5 (v:=false) (by simpa using c4) ⟨false,rfl,Ye ⟨_,rfl,_,rfl,.inl ⟨by omega,by omega⟩,_,rfl,p,by decide,ZNB rfl,q⟩⟩⟩⟩⟩
theorem Zvc {w:Str}{rest:List T}{al:T}(hw:w≠"made")(q:Q .non C):wpc pr (n+1) Zdx [.tup (.str w::rest),al] C Q χ:=
 Zdt rfl ⟨_,rfl,_,Yb,neSc (v:=false) (by simpa using hw) ⟨_,rfl,Jj q⟩⟩
theorem Zoo {sh:Str}{ms:T}{al:List Al}(q:Q (match altF sh al with | some a=>alT a | none=>.non) C):wpc pr (n+1) Zdx [.tup [.str "made",.str sh,ms],.tup (al.map alT)] C Q χ:=by
 refine Zdt rfl ⟨_,rfl,_,Yb,neSc (v:=true) (XU _) ⟨_,rfl,Ye ⟨_,rfl,?_⟩⟩⟩
 unfold altF at q
 refine Zcj (fun i τ C'=>∃x2,τ=[some (.tup [.str "made",.str sh,ms]),some (.tup (al.map alT)),x2]∧C'=C∧(al.take i).find? (fun a=>decide (a.1=sh))=none) ⟨none,rfl,rfl,rfl⟩ (fun _ _ _ _ _=>trivial) ?_ ?_
 ·rintro i t τ C' N ht ⟨x2,rfl,rfl,hf⟩ hN
  rw[XM] at ht
  cases hz:al[i]? with
  | none=>rw[hz] at ht;cases ht
  | some z=>
   rw[hz] at ht
   cases ht
   have hsplit:al=al.take i++z::al.drop (i+1):=by
    obtain⟨hi,hz'⟩:=List.getElem?_eq_some_iff.mp hz
    rw[←hz',←List.drop_eq_getElem_cons hi,List.take_append_drop]
   have et:al.take (i+1)=al.take i++[z]:=by rw[YD,hz];rfl
   refine⟨_,rfl,_,Yb,_,rfl,_,Yu,?_⟩
   by_cases c:z.1=sh
   ·have:al.find? (fun a=>decide (a.1=sh))=some z:=by rw[hsplit,List.find?_append,hf];simp[c]
    rw[this] at q
    exact eqS (v:=true) (by rw[c];exact XU _) ⟨true,rfl,Jj ⟨_,rfl,q⟩⟩
   ·refine eqS (v:=false) (by simpa using c) ⟨false,rfl,Ye (hN _ _ ⟨_,rfl,rfl,?_⟩)⟩
    rw[et,List.find?_append,hf];simp[c]
 ·rintro τ C' ⟨x2,rfl,rfl,hf⟩
  rw[XI,List.take_length] at hf
  rw[hf] at q
  exact q
theorem Z1f {ns:List Str}{ms:List Nat}(hl:ns.length=ms.length)(hn:ns.Nodup):dzK putT (ns.map Sum.inr) (ms.map atT)=dm (mT (ns.zip ms)):=by
 have key:∀(ns:List Str) (ms:List Nat) (M:Mn),ns.Nodup→(∀x∈ns,x∉M.map (·.1))→((ns.map (Sum.inr:Str→Key)).zip (ms.map atT)).foldl (fun a kv=>putT a kv.1 kv.2) (dm (mT M))=dm (mT (M++ns.zip ms)):=by
  intro ns
  induction ns with
  | nil=>intro ms M _ _;simp
  | cons x ns ih=>
   intro ms M hn hd
   cases ms with
   | nil=>simp
   | cons m ms=>
    rw[YI,YI,List.zip_cons_cons,List.foldl_cons,List.zip_cons_cons]
    have e:putT (dm (mT M)) (.inr x) (atT m)=dm (mT (M++[(x,m)])):=by
     rw[Zxd (by rw[Zm5];exact hd x (by simp))];unfold mT;rw[List.map_append];rfl
    show List.foldl _ (putT (dm (mT M)) (.inr x) (atT m)) _=_
    rw[e,ih ms (M++[(x,m)]) (List.nodup_cons.mp hn).2 (fun y hy=>?_),YL]
    ·rfl
    ·rw[XL,XS,not_or]
     refine⟨hd y (by simp[hy]),?_⟩
     intro h
     simp at h
     subst h
     exact(List.nodup_cons.mp hn).1 hy
 have:=key ns ms [] hn (by simp)
 exact this
theorem Zu6 {sh:Str}{ms:List Nat}{al:List Al}{a:Al}{B':T}(ha:altF sh al=some a)(hl:a.2.1.length=ms.length)(h5:a.2.1.length≤100)(hn:a.2.1.Nodup)(hB:PT f (tt a.2.2) (mT (a.2.1.zip ms)) B')(ht:∃l,B'=.tup l)(q:∀C',Ex C C'→Q B' C'):
  wpc pr (n+f+6) Zwy [hT (.made sh ms),.tup (al.map alT)] C Q χ:=by
 refine Zud rfl ⟨_,rfl,_,rfl,?_⟩
 dsimp only[Zf]
 refine Zoo (n:=n+f+4) ?_
 rw[ha]
 refine⟨_,rfl,rfl,false,rfl,Ye ⟨_,rfl,_,Zaj,?_⟩⟩
 refine⟨_,rfl,_,Yu,_,rfl,_,Zaj,?_⟩
 refine⟨a.2.1,ms.map atT,rfl,by rw[XI];exact hl,by omega,fun p hp=>?_⟩
 rw[Z1f hl hn]
 dsimp only[Zf]
 exact PT.put (n:=n) (t':=B') hB ht (.inl Zn) fun C' hE=>q C' ((Ex.new hp).trans hE)
def isFn:Hd→Bool
 | .tm (.fn _ _)=>true
 | _=>false
def isNm:Hd→Bool
 | .tm (.num _)=>true
 | _=>false
def fitF (h:Hd):Fm→Bool
 | .give _=>isFn h
 | .pick al=>match h with | .made c _=>(altF c al).isSome | _=>false
 | .left _ _=>isNm h
 | .right _ _=>isNm h
 | .first _=>true
 | .back _=>true
theorem Z31 {h:Hd}{w:Str}{r:List T}(e:hT h=.tup (.str w::r)):(w=="fun")=isFn h:=by
 cases h with
 | no=>cases e
 | made c ms=>unfold hT at e;injection e with e;injection e with e _;injection e with e;subst e;show _=false;decide+kernel
 | tm t=>cases t<;>(unfold hT tt at e;injection e with e;injection e with e _;injection e with e;subst e;first | (show _=false;decide+kernel) | (show _=true;decide+kernel))
theorem Zws {h:Hd}{w:Str}{r:List T}(e:hT h=.tup (.str w::r)):(w=="number")=isNm h:=by
 cases h with
 | no=>cases e
 | made c ms=>unfold hT at e;injection e with e;injection e with e _;injection e with e;subst e;show _=false;decide+kernel
 | tm t=>cases t<;>(unfold hT tt at e;injection e with e;injection e with e _;injection e with e;subst e;first | (show _=false;decide+kernel) | (show _=true;decide+kernel))
theorem Zof {t:Tm}{w:Str}{r:List T}(e:tt t=.tup (.str w::r)):w≠"made":=by
 cases t<;>(unfold tt at e;injection e with e;injection e with e _;injection e with e;subst e;decide+kernel)
theorem Zw3 {a:Str}{r:List T}{v:T}{X:WE}{B:WS}{D:We}{τ:Sw}(q:X [some v,some (.tup (.str a::r))] C D.rt D.xc):Zq (sIf (tBl (Zh wEq (Zh Zu (Zd 1) (eC (.int 0))) (eC (.str a)))) (Ya X) Z6) B D [some v,some (.tup (.str a::r))] C:=
 ⟨_,rfl,_,Yb,J5 (v:=true) (XU _) ⟨true,rfl,Jj q⟩⟩
theorem Zhi {a z:Str}{r:List T}{v:T}{X B:WS}{D:We}(h:(z==a)=false)(q:B D [some v,some (.tup (.str z::r))] C):Zq (sIf (tBl (Zh wEq (Zh Zu (Zd 1) (eC (.int 0))) (eC (.str a)))) X Z6) B D [some v,some (.tup (.str z::r))] C:=
 ⟨_,rfl,_,Yb,J5 (v:=false) h ⟨false,rfl,Ye q⟩⟩
theorem Z1x {h:Hd}{fr:Fm}(hn:h≠.no)(q:Q (.bl (fitF h fr)) C):wpc pr (n+2) Z33 [hT h,fmT fr] C Q χ:=by
 refine Z1l rfl ?_
 obtain⟨w,r,e⟩:=Zq8 hn
 cases fr with
 | give t=>
  have q':Q (.bl (isFn h)) C:=q
  rw[←Z31 e] at q'
  rw[e]
  exact Zw3 (τ:=[]) ⟨_,rfl,_,Yb,J5 rfl q'⟩
 | pick al=>
  refine Zhi (by decide+kernel) (Zw3 (τ:=[]) ⟨_,rfl,_,rfl,_,Yu,?_⟩)
  dsimp only[Zf]
  cases h with
  | no=>exact absurd rfl hn
  | made c ms=>
   refine Zoo (n:=n) ?_
   have q':Q (.bl (altF c al).isSome) C:=q
   cases ha:altF c al with
   | none=>rw[ha] at q';exact⟨rfl,q'⟩
   | some a=>rw[ha] at q';exact⟨rfl,q'⟩
  | tm t=>
   have hw:=Zof e
   rw[e]
   exact Zvc hw ⟨rfl,q⟩
 | left o t=>
  have q':Q (.bl (isNm h)) C:=q
  rw[←Zws e] at q'
  rw[e]
  exact Zhi (by decide+kernel) (Zhi (by decide+kernel) ⟨_,rfl,_,Yb,J5 (v:=true) (XU _) ⟨true,rfl,Jj (Jj ⟨_,rfl,_,Yb,J5 rfl q'⟩)⟩⟩)
 | right o x=>
  have q':Q (.bl (isNm h)) C:=q
  rw[←Zws e] at q'
  rw[e]
  exact Zhi (by decide+kernel) (Zhi (by decide+kernel) ⟨_,rfl,_,Yb,J5 (v:=false) (by decide+kernel) ⟨false,rfl,Ye ⟨_,rfl,_,Yb,J5 (v:=true) (XU _) ⟨true,rfl,Jj ⟨_,rfl,_,Yb,J5 rfl q'⟩⟩⟩⟩⟩)
 | first t=>exact Zhi (by decide+kernel) (Zhi (by decide+kernel) ⟨_,rfl,_,Yb,J5 (v:=false) (by decide+kernel) ⟨false,rfl,Ye ⟨_,rfl,_,Yb,J5 (v:=false) (by decide+kernel) ⟨false,rfl,Ye q⟩⟩⟩⟩)
 | back i=>exact Zhi (by decide+kernel) (Zhi (by decide+kernel) ⟨_,rfl,_,Yb,J5 (v:=false) (by decide+kernel) ⟨false,rfl,Ye ⟨_,rfl,_,Yb,J5 (v:=false) (by decide+kernel) ⟨false,rfl,Ye q⟩⟩⟩⟩)
end
open PySem PySem.Spec PyProof.Rows L2 WL
abbrev Zqt (v:Int):Str:=Str.ofString (toString v)
def pcs:Hd→Int→List Pc
 | .tm (.num v),_=>[.word (Zqt v)]
 | .tm (.fn _ _),_=>[.word "fun"]
 | .made c [],_=>[.word c]
 | .made c ms,D=>.word ("("++c)::(ms.flatMap fun i=>[.word " ",.part D (.at_ i)])++[.word ")"]
 | _,_=>[]
def tnS (s:St):St:=match s.S.getLast? with
 | none=>{s with e:=.told (Txt.join "" s.U)}
 | some (.word x)=>{s with S:=s.S.dropLast,U:=s.U++[x]}
 | some (.part D t)=>if D≤0 then {s with S:=s.S.dropLast,U:=s.U++[("?":Str)]} else {s with S:=s.S.dropLast,w:=D,h:=.tm t}
def tvS (s:St):St:={s with S:=s.S++(pcs s.h (s.w-1)).reverse,h:=.no}
def lbl (s:St)(i:Nat):Str:=(s.L[i]?).getD ""
def bkS (s:St)(i:Nat):St:={s with P:=s.P.dropLast,G:=s.G++[nt s "back" i (lbl s i)]}
def isSt:Hd→Option Str
 | .tm (.stop x)=>some x
 | _=>none
def isBk:Fm→Option Nat
 | .back i=>some i
 | _=>none
def enB:En→Bool
 | .no=>true
 | _=>false
def noB:Hd→Bool
 | .no=>true
 | _=>false
def one (s:St):Option St:=
 if enB s.e=true then
  if noB s.h=true then some (tnS s)
  else match isSt s.h with
  | some x=>some {s with e:=.stop x}
  | none=>if isV s.h=true then
    match s.P.getLast? with
    | none=>some (tvS s)
    | some f=>match isBk f with
     | some i=>some (bkS s i)
     | none=>if fitF s.h f=true then none else some {s with e:=.stuck}
   else none
 else none
def mu (s:St):Nat:=if enB s.e=true then(if noB s.h=true then s.S.length+2 else if isV s.h=true then s.P.length+s.S.length+12 else 1) else 0
def stl:Nat→St→St
 | 0,s=>s
 | m+1,s=>match one s with | some s'=>stl m s' | none=>s
def settled (s:St):St:=stl (mu s) s
def goS (s:St)(h:Hd)(f:Fm):St:={s with P:=s.P++[f],h:=h}
def apS (s:St):Tm→St
 | .call a b=>goS s (.tm a) (.give b)
 | .does o a b=>goS s (.tm a) (.left o b)
 | .ch e n cs ns bs=>goS s (.tm e) (.pick ((List.finRange n).map fun i=>(cs i,ns i,bs i)))
 | .first a b=>goS {s with f:=s.f+1} (.tm a) (.first b)
 | .lt n xs ts b=>Zxs s (nms xs) ((List.finRange n).map fun i=>pu (mo (mkM s (nms xs))) (ts i)) (pu (mo (mkM s (nms xs))) b)
 | .shp0 c=>Ze4 s c []
 | .shp2 c a b=>Ze4 s c [a,b]
 | .at_ i=>{s with P:=s.P++[.back i],h:=.tm ((s.D[i]?).getD (.nm "")),G:=s.G++[nt s "enter" i (lbl s i)]}
 | _=>s
def usS (s:St)(h:Hd):Fm→St
 | .give t=>match h with | .tm (.fn x b)=>{mkS s x t with h:=.tm (pu (mo [(x,mkN s t)]) b)} | _=>s
 | .pick al=>match h with | .made c ms=>(match altF c al with | some a=>{s with h:=.tm (pu (mo (a.2.1.zip ms)) a.2.2)} | none=>s) | _=>s
 | .left o t=>match h with | .tm (.num v)=>goS s (.tm t) (.right o v) | _=>s
 | .right o x=>match h with | .tm (.num v)=>{s with h:=Zjf o x v} | _=>s
 | .first t=>{s with h:=.tm t}
 | .back _=>s
def stp (s:St):St:=if isV s.h=true then(match s.P.getLast? with | some f=>usS {s with P:=s.P.dropLast} s.h f | none=>s) else(match s.h with | .tm t=>apS s t | _=>s)
def adv (m:Int):Nat→St→St
 | 0,s=>s
 | n+1,s=>if enB s.e=true∧s.k<m then adv m n (settled (stp {s with k:=s.k+1})) else s
def HOk (L d:Nat):Hd→Prop
 | .no=>True
 | .tm t=>ok L d [] t
 | .made c ms=>cl c∧ms.length=ar c∧∀i∈ms,i<L
def AOk (L d:Nat)(a:Al):Prop:=a.2.1.length=ar a.1∧a.2.1.Nodup∧ok L d a.2.1 a.2.2
def FOk (L d:Nat):Fm→Prop
 | .give t=>ok L d [] t
 | .pick al=>∀a∈al,AOk L d a
 | .left _ t=>ok L d [] t
 | .right _ x=>0≤x∧x<big
 | .first t=>ok L d [] t
 | .back i=>i<L
def POk (L d:Nat):Pc→Prop
 | .word x=>x.length≤100
 | .part _ t=>ok L d [] t∧isVt t=false
structure Ok (d:Nat)(s:St):Prop where
 h:HOk s.L.length d s.h
 hp:s.h=.no→s.P=[]
 P:∀f∈s.P,FOk s.L.length d f
 S:∀p∈s.S,POk s.L.length d p
 U:∀x∈s.U,x.length≤100
 D:s.D.length=s.L.length
 D':∀t∈s.D,ok s.L.length d [] t
 k0:0≤s.k∧s.k≤1000
 nL:(s.L.length:Int)≤5*s.k
 nG:(s.G.length:Int)+(s.P.length:Int)≤6*s.k
 nU:(s.U.length:Int)+(s.S.length:Int)+(if isV s.h=true then 6 else 0)≤6*s.k+8
theorem FOk.lift {L L' d:Nat}(hL:L≤L'){f:Fm}(q:FOk L d f):FOk L' d f:=by
 cases f with
 | give t=>exact Zaq hL q (XE _)
 | pick al=>exact fun a ha=>⟨(q a ha).1,(q a ha).2.1,Zaq hL (q a ha).2.2 (XE _)⟩
 | left o t=>exact Zaq hL q (XE _)
 | right o x=>exact q
 | first t=>exact Zaq hL q (XE _)
 | back i=>exact XG q hL
theorem POk.lift {L L' d:Nat}(hL:L≤L'){p:Pc}(q:POk L d p):POk L' d p:=by
 cases p with
 | word x=>exact q
 | part D t=>exact⟨Zaq hL q.1 (XE _),q.2⟩
theorem Zcx {α:Type}{l:List α}{x:α}(h:l.getLast?=some x):x∈l:=List.mem_of_getLast? h
theorem Za4 {α:Type}{l:List α}{x:α}(h:l.getLast?=some x):l=l.dropLast++[x]:=by
 have hn:l≠[]:=fun e=>by subst e;cases h
 rw[List.getLast?_eq_some_getLast hn] at h
 cases h
 exact(List.dropLast_concat_getLast hn).symm
theorem Zfe {α:Type}{l:List α}(h:l.getLast?=none):l=[]:=List.getLast?_eq_none_iff.mp h
theorem Zjz {α:Type}{l:List α}{x:α}(h:l.getLast?=some x):l.length=l.dropLast.length+1:=by
 have:=congrArg List.length (Za4 h)
 rw[List.length_append] at this
 exact this
theorem Zb4 {α:Type}{l:List α}{x:α}(h:x∈l.dropLast):x∈l:=(List.dropLast_sublist l).subset h
theorem Zzo {v:Int}(h0:0≤v)(h1:v<big):(Zqt v).length≤100:=by
 obtain⟨m,rfl⟩:∃m:Nat,v=m:=⟨v.toNat,by omega⟩
 show(Str.ofString (toString (Int.ofNat m))).length≤100
 rw[text_ofNat]
 show((Nat.toDigits 10 m).map Char.toNat).toArray.size≤100
 rw[XJ,XI]
 have:(Nat.toDigits 10 m).length≤18:=digits10_le (by decide) (by simp only[big] at h1;omega)
 omega
theorem Zv1 {L d:Nat}{h:Hd}{D:Int}(q:HOk L d h):(∀p∈pcs h D,POk L d p)∧(pcs h D).length≤6:=by
 have h1:("(":Str).length=1:=by decide+kernel
 have h2:(" ":Str).length=1:=by decide+kernel
 have h3:(")":Str).length=1:=by decide+kernel
 have h4:("fun":Str).length=3:=by decide+kernel
 cases h with
 | no=>exact⟨fun p hp=>(by cases hp),by show 0≤6;omega⟩
 | tm t=>
  cases t with
  | num v=>exact⟨fun p hp=>by rw[XQ.mp hp];exact Zzo q.1 q.2,by show 1≤6;omega⟩
  | fn x b=>exact⟨fun p hp=>by rw[XQ.mp hp];show("fun":Str).length≤100;omega,by show 1≤6;omega⟩
  | _=>exact⟨fun p hp=>(by cases hp),by show 0≤6;omega⟩
 | made c ms=>
  obtain⟨⟨q0,q1⟩,q2,q3⟩:=q
  have hl:ms.length≤2:=by rw[q2];exact Zp1 c
  have hc:("("++c:Str).length=("(":Str).length+c.length:=YC _ _
  match ms,q2,q3,hl with
  | [],_,_,_=>exact⟨fun p hp=>by rw[XQ.mp hp];show c.length≤100;omega,by show 1≤6;omega⟩
  | [a],_,q3,_=>
   refine⟨fun p hp=>?_,by show 4≤6;omega⟩
   simp only[pcs,List.flatMap_cons,List.flatMap_nil,List.append_nil,List.cons_append,List.nil_append,List.mem_cons,List.not_mem_nil,or_false] at hp
   rcases hp with rfl | rfl | rfl | rfl
   ·show("("++c:Str).length≤100;omega
   ·show(" ":Str).length≤100;omega
   ·exact⟨q3 a (by simp),rfl⟩
   ·show(")":Str).length≤100;omega
  | [a,b],_,q3,_=>
   refine⟨fun p hp=>?_,by show 6≤6;omega⟩
   simp only[pcs,List.flatMap_cons,List.flatMap_nil,List.append_nil,List.cons_append,List.nil_append,List.mem_cons,List.not_mem_nil,or_false] at hp
   rcases hp with rfl | rfl | rfl | rfl | rfl | rfl
   ·show("("++c:Str).length≤100;omega
   ·show(" ":Str).length≤100;omega
   ·exact⟨q3 a (by simp),rfl⟩
   ·show(" ":Str).length≤100;omega
   ·exact⟨q3 b (by simp),rfl⟩
   ·show(")":Str).length≤100;omega
theorem Zjk {d:Nat}{s s':St}(q:Ok d s)(h:one s=some s'):Ok d s'∧mu s'<mu s∧s'.k=s.k:=by
 unfold one at h
 split at h
 next he=>
  have hm:mu s=if noB s.h=true then s.S.length+2 else if isV s.h=true then s.P.length+s.S.length+12 else 1:=by unfold mu;rw[XY he]
  split at h
  next hno=>
   cases h
   have hh:s.h=.no:=by revert hno;cases s.h<;>simp[noB]
   have hP:=q.hp hh
   rw[XY hno] at hm
   have hv:isV s.h=false:=by rw[hh];rfl
   have hU:=q.nU
   rw[XX (by rw[hv];decide)] at hU
   unfold tnS
   cases hl:s.S.getLast? with
   | none=>exact⟨⟨q.h,q.hp,q.P,q.S,q.U,q.D,q.D',q.k0,q.nL,q.nG,q.nU⟩,by rw[hm];show 0<_;omega,rfl⟩
   | some p=>
    have hlen:=Zjz hl
    have hp:=q.S p (Zcx hl)
    cases p with
    | word x=>
     refine⟨⟨q.h,q.hp,q.P,fun y hy=>q.S y (Zb4 hy),fun y hy=>?_,q.D,q.D',q.k0,q.nL,q.nG,?_⟩,?_,rfl⟩
     ·rcases XS.mp hy with hy | hy
      ·exact q.U y hy
      ·rw[XQ.mp hy];exact hp
     ·show(((s.U++[x]).length:Nat):Int)+_+(if isV s.h=true then 6 else 0)≤_
      rw[XX (by rw[hv];decide),List.length_append]
      simp only[List.length_cons,List.length_nil]
      omega
     ·rw[hm];unfold mu;show(if enB s.e=true then(if noB s.h=true then s.S.dropLast.length+2 else _) else _)<_;rw[XY he,XY hno];omega
    | part D t=>
     simp only
     split
     ·refine⟨⟨q.h,q.hp,q.P,fun y hy=>q.S y (Zb4 hy),fun y hy=>?_,q.D,q.D',q.k0,q.nL,q.nG,?_⟩,?_,rfl⟩
      ·rcases XS.mp hy with hy | hy
       ·exact q.U y hy
       ·rw[XQ.mp hy];exact XN (Nat.le_of_eq (by decide+kernel:("?":Str).length=1)) (by omega)
      ·show(((s.U++[("?":Str)]).length:Nat):Int)+_+(if isV s.h=true then 6 else 0)≤_
       rw[XX (by rw[hv];decide),List.length_append]
       simp only[List.length_cons,List.length_nil]
       omega
      ·rw[hm];unfold mu;show(if enB s.e=true then(if noB s.h=true then s.S.dropLast.length+2 else _) else _)<_;rw[XY he,XY hno];omega
     ·have hvt:isV (.tm t)=false:=hp.2
      refine⟨⟨hp.1,fun z=>(by cases z),q.P,fun y hy=>q.S y (Zb4 hy),q.U,q.D,q.D',q.k0,q.nL,q.nG,?_⟩,?_,rfl⟩
      ·show _+_+(if isV (.tm t)=true then 6 else 0)≤_
       rw[XX (by rw[hvt];decide)]
       simp only
       omega
      ·rw[hm];unfold mu;show(if enB s.e=true then(if false=true then _ else if isV (.tm t)=true then _ else 1) else _)<_;rw[XY he,XX (by decide),XX (by rw[hvt];decide)];omega
  next hno=>
   rw[XX hno] at hm
   have hnh:s.h≠.no:=fun e=>hno (by rw[e];rfl)
   split at h
   next x hx=>
    cases h
    exact⟨⟨q.h,q.hp,q.P,q.S,q.U,q.D,q.D',q.k0,q.nL,q.nG,q.nU⟩,by rw[hm];show 0<_;split<;>omega,rfl⟩
   next hx=>
    split at h
    next hv=>
     rw[XY hv] at hm
     have hU:=q.nU
     rw[XY hv] at hU
     split at h
     next hl=>
      cases h
      have hP:=Zfe hl
      obtain⟨c1,c2⟩:=Zv1 (D:=s.w-1) q.h
      refine⟨⟨trivial,fun _=>hP,q.P,fun y hy=>?_,q.U,q.D,q.D',q.k0,q.nL,q.nG,?_⟩,?_,rfl⟩
      ·rcases XS.mp hy with hy | hy
       ·exact q.S y hy
       ·exact c1 y (List.mem_reverse.mp hy)
      ·show _+(((s.S++(pcs s.h (s.w-1)).reverse).length:Nat):Int)+(if false=true then 6 else 0)≤_
       rw[XX (by decide),List.length_append,List.length_reverse]
       simp only[tvS]
       omega
      ·rw[hm];unfold mu tvS;show(if enB s.e=true then(s.S++(pcs s.h (s.w-1)).reverse).length+2 else _)<_;rw[XY he,List.length_append,List.length_reverse];omega
     next f hl=>
      have hlen:=Zjz hl
      have hf:=q.P f (Zcx hl)
      split at h
      next i hi=>
       cases h
       have hG:=q.nG
       refine⟨⟨q.h,fun z=>absurd z hnh,fun y hy=>q.P y (Zb4 hy),q.S,q.U,q.D,q.D',q.k0,q.nL,?_,q.nU⟩,?_,rfl⟩
       ·show(((s.G++[nt s "back" i (lbl s i)]).length:Nat):Int)+((s.P.dropLast.length:Nat):Int)≤6*s.k
        rw[List.length_append]
        simp only[List.length_cons,List.length_nil]
        omega
       ·rw[hm];unfold mu bkS;show(if enB s.e=true then(if noB s.h=true then _ else if isV s.h=true then s.P.dropLast.length+s.S.length+12 else 1) else _)<_;rw[XY he,XX hno,XY hv];omega
      next hi=>
       split at h
       ·cases h
       ·cases h
        exact⟨⟨q.h,q.hp,q.P,q.S,q.U,q.D,q.D',q.k0,q.nL,q.nG,q.nU⟩,by rw[hm];show 0<_;omega,rfl⟩
    next=>cases h
 next=>cases h
theorem Zge {d:Nat}:∀(m:Nat) {s:St},Ok d s→mu s≤m→Ok d (stl m s)∧one (stl m s)=none∧(stl m s).k=s.k
 | 0,s,q,hm=>by
  cases h:one s with
  | none=>exact⟨q,h,rfl⟩
  | some s'=>have:=(Zjk q h).2.1;omega
 | m+1,s,q,hm=>by
  cases h:one s with
  | none=>unfold stl;rw[h];exact⟨q,h,rfl⟩
  | some s'=>
   obtain⟨q',hl,hk⟩:=Zjk q h
   have:=Zge m q' (by omega)
   unfold stl;rw[h]
   exact⟨this.1,this.2.1,this.2.2.trans hk⟩
open PySem PySem.Spec PyProof.Rows L2 WL
theorem due {s:St}(he:enB s.e=true)(h:one s=none):noB s.h=false∧isSt s.h=none∧(isV s.h=true→∃f,s.P.getLast?=some f∧isBk f=none∧fitF s.h f=true):=by
 unfold one at h
 rw[XY he] at h
 split at h
 ·cases h
 next hno=>
  refine⟨by simpa using hno,?_⟩
  split at h
  ·cases h
  next hs=>
   refine⟨hs,fun hv=>?_⟩
   rw[XY hv] at h
   split at h
   ·cases h
   next f hl=>
    split at h
    ·cases h
    next hb=>
     split at h
     next hf=>exact⟨f,hl,hb,hf⟩
     ·cases h
structure Pre (d:Nat)(s:St):Prop where
 h:HOk s.L.length d s.h
 P:∀f∈s.P,FOk s.L.length d f
 S:∀p∈s.S,POk s.L.length d p
 U:∀x∈s.U,x.length≤100
 D:s.D.length=s.L.length
 D':∀t∈s.D,ok s.L.length d [] t
 k0:0≤s.k∧s.k≤1000
 nL:(s.L.length:Int)+5≤5*s.k
 nG:(s.G.length:Int)+(s.P.length:Int)+6≤6*s.k
 nU:(s.U.length:Int)+(s.S.length:Int)+6≤6*s.k+8
theorem Ok.pre {d:Nat}{s:St}(q:Ok d s)(hk:s.k<1000):Pre d {s with k:=s.k+1}:=by
 have h1:=q.k0
 have h2:=q.nL
 have h3:=q.nG
 have h4:=q.nU
 refine⟨q.h,q.P,q.S,q.U,q.D,q.D',⟨?_,?_⟩,?_,?_,?_⟩
 ·show 0≤s.k+1;omega
 ·show s.k+1≤1000;omega
 ·show _≤5*(s.k+1);simp only;omega
 ·show _≤6*(s.k+1);simp only;omega
 ·show _≤6*(s.k+1)+8
  simp only
  split at h4<;>omega
theorem Zh0 {d:Nat}{s s':St}(p:Pre d s)(new:List Tm)(ha:new.length≤5)(hL:s'.L.length=s.L.length+new.length)(hD:s'.D=s.D++new)(hok:∀t∈new,ok s'.L.length d [] t)(hP:∀f∈s'.P,FOk s'.L.length d f)
  (hS:s'.S=s.S) (hU:s'.U=s.U) (hk:s'.k=s.k) (hG:s'.G.length+s'.P.length≤s.G.length+s.P.length+6) (hh:HOk s'.L.length d s'.h) (hne:s'.h≠.no):Ok d s':=by
 have h2:=p.nL
 have h3:=p.nG
 have h4:=p.nU
 have hle:s.L.length≤s'.L.length:=by omega
 refine⟨hh,fun z=>absurd z hne,hP,fun y hy=>(p.S y (hS▸hy)).lift hle,fun y hy=>p.U y (hU▸hy),?_,fun t ht=>?_,by rw[hk];exact p.k0,?_,?_,?_⟩
 ·rw[hD,List.length_append,hL,p.D]
 ·rw[hD] at ht
  rcases XS.mp ht with ht | ht
  ·exact Zaq hle (p.D' t ht) (XE _)
  ·exact hok t ht
 ·rw[hk];omega
 ·rw[hk];omega
 ·rw[hS,hU,hk];split<;>omega
theorem Zqw {M:Mn}{x:Str}(h:x∈M.map (·.1)):mo M x≠none:=by
 unfold mo
 intro e
 rw[Option.map_eq_none_iff,List.find?_eq_none] at e
 obtain⟨z,hz,rfl⟩:=XR.mp h
 exact e z hz (by simp)
theorem Zqv {M:Mn}{x:Str}{i:Nat}(h:mo M x=some i):∃z∈M,z.2=i:=by
 unfold mo at h
 obtain⟨z,hz,rfl⟩:=Option.map_eq_some_iff.mp h
 exact⟨z,List.mem_of_find?_eq_some hz,rfl⟩
theorem Zwc {s:St}{ns:List Str}:(mkM s ns).map (·.1)=ns:=by unfold mkM;rw[Zfc _ (XE _),List.take_length]
theorem Zzr {s:St}{ns:List Str}{x:Str}{i:Nat}(h:mo (mkM s ns) x=some i):i<s.L.length+ns.length:=by
 obtain⟨z,hz,rfl⟩:=Zqv h
 exact Zwi (XE _) z hz
theorem Zpj {d:Nat}{s:St}{h:Hd}{f:Fm}(p:Pre d s)(hh:HOk s.L.length d h)(hne:h≠.no)(hf:FOk s.L.length d f):Ok d (goS s h f):=by
 refine Zh0 p [] (by simp) rfl (by simp[goS]) (fun t ht=>by cases ht) (fun y hy=>?_) rfl rfl rfl ?_ hh hne
 ·rcases XS.mp hy with hy | hy
  ·exact p.P y hy
  ·rw[XQ.mp hy];exact hf
 ·show s.G.length+(s.P++[f]).length≤_
  rw[List.length_append];simp only[List.length_cons,List.length_nil];omega
theorem Zcd {L d:Nat}{Γ:List Str}{t:Tm}(h:ok L (d-1) Γ t):ok L d Γ t:=Zaq (XE _) h (by omega)
theorem Z0s {d n:Nat}{s:St}{xs:Fin n→Str}{ts:Fin n→Tm}{b:Tm}(p:Pre d s)(h:ok s.L.length d [] (.lt n xs ts b)):Ok d (apS s (.lt n xs ts b)):=by
 obtain⟨h1,⟨h2,h3,h4,h5⟩,h6,h7⟩:=h
 have hl:(nms xs).length=n:=by simp
 obtain⟨b1,b2,b3,b4,b5,b6,b7,b8,b9,b10,b11⟩:=bA_f (s:=s) (ns:=nms xs) (nms xs).length (XE _)
 have hcov:∀x∈nms xs++[],mo (mkM s (nms xs)) x≠none∨x∈([]:List Str):=fun x hx=>.inl (Zqw (by rw[Zwc];simpa using hx))
 have hval:∀x i,mo (mkM s (nms xs)) x=some i→i<s.L.length+n:=fun x i e=>by have:=Zzr e;rw[hl] at this;exact this
 have hL:(apS s (.lt n xs ts b)).L.length=s.L.length+n:=by show(bA s (nms xs) (nms xs).length).L.length=_;rw[b1,hl]
 refine Zh0 p ((List.finRange n).map fun i=>pu (mo (mkM s (nms xs))) (ts i)) (by simp;omega) (by rw[hL];simp) rfl (fun t ht=>?_) (fun y hy=>?_) b5 b6 b7 ?_ ?_ (by intro z;cases z)
 ·obtain⟨i,_,rfl⟩:=XR.mp ht
  rw[hL]
  exact Zrw (Zaq (by omega) (Zcd (h6 i)) (XE _)) hval hcov
 ·rw[hL]
  have hy':y∈s.P:=by have:(apS s (.lt n xs ts b)).P=s.P:=b4;rw[this] at hy;exact hy
  exact(p.P y hy').lift (by omega)
 ·show(bA s (nms xs) (nms xs).length).G.length+(bA s (nms xs) (nms xs).length).P.length≤_
  rw[b2,b4,hl];omega
 ·rw[hL]
  exact Zrw (Zaq (by omega) (Zcd h7) (XE _)) hval hcov
theorem mk_f {s:St}{l:Str}{t:Tm}:∃new,(mkS s l t).D=s.D++new∧(mkS s l t).L.length=s.L.length+new.length∧new.length≤1∧(∀u∈new,u=t)∧(mkS s l t).G.length=s.G.length+new.length∧(mkS s l t).P=s.P∧(mkS s l t).S=s.S∧(mkS s l t).U=s.U∧(mkS s l t).k=s.k∧((∀i,t=.at_ i→i<s.L.length)→mkN s t<(mkS s l t).L.length):=by
 unfold mkS
 cases c:isM t with
 | true=>
  rw[XY rfl]
  refine⟨[],by simp,by simp,by simp,by simp,by simp,rfl,rfl,rfl,rfl,fun h=>?_⟩
  cases t<;>first | exact h _ rfl | cases c
 | false=>
  rw[XX (by decide)]
  refine⟨[t],rfl,?_,by simp,by simp,?_,rfl,rfl,rfl,rfl,fun h=>?_⟩
  ·show(s.L++[l]).length=_;simp
  ·show(s.G++[_]).length=_;simp
  ·rw[Zr4 c];show _<(s.L++[l]).length;simp
theorem sA_f {s:St}{c:Str}{ts:List Tm}(hts:∀t∈ts,∀i,t=.at_ i→i<s.L.length):∀i,i≤ts.length→∃new,(sA s c ts i).D=s.D++new∧(sA s c ts i).L.length=s.L.length+new.length∧new.length≤i∧(∀u∈new,u∈ts)∧(sA s c ts i).G.length=s.G.length+new.length∧(sA s c ts i).P=s.P∧(sA s c ts i).S=s.S∧(sA s c ts i).U=s.U∧(sA s c ts i).k=s.k∧(mA s c ts i).length=i∧∀j∈mA s c ts i,j<(sA s c ts i).L.length
 | 0,_=>⟨[],by simp[sA],by simp[sA],by simp,by simp,by simp[sA],rfl,rfl,rfl,rfl,rfl,fun j hj=>by cases hj⟩
 | i+1,hi=>by
  obtain⟨new,a1,a2,a3,a4,a5,a6,a7,a8,a9,a10,a11⟩:=sA_f (c:=c) hts i (by omega)
  have e:ts[i]?=some (ts[i]'(by omega)):=by simp[show i<ts.length by omega]
  have hm:ts[i]'(by omega)∈ts:=YN _
  generalize ts[i]'(by omega)=t at e hm
  obtain⟨nw,b1,b2,b3,b4,b5,b6,b7,b8,b9,b10⟩:=mk_f (s:=sA s c ts i) (l:=lab c (i+1)) (t:=t)
  have es:sA s c ts (i+1)=mkS (sA s c ts i) (lab c (i+1)) t:=by rw[sA,e]
  have em:mA s c ts (i+1)=mA s c ts i++[mkN (sA s c ts i) t]:=by rw[mA,e]
  rw[es,em]
  refine⟨new++nw,by rw[b1,a1,YL],by rw[b2,a2,List.length_append];omega,by rw[List.length_append];omega,fun u hu=>?_,by rw[b5,a5,List.length_append];omega,b6.trans a6,b7.trans a7,b8.trans a8,b9.trans a9,by rw[List.length_append,a10];rfl,fun j hj=>?_⟩
  ·rcases XS.mp hu with hu | hu
   ·exact a4 u hu
   ·rw[b4 u hu];exact hm
  ·rcases XS.mp hj with hj | hj
   ·have:=a11 j hj;rw[b2];omega
   ·rw[XQ.mp hj]
    exact b10 fun k hk=>by have:=hts t hm k hk;rw[a2];omega
theorem Zr5 {d:Nat}{s:St}{c:Str}{ts:List Tm}(p:Pre d s)(hc:cl c)(ha:ts.length=ar c)(h:∀t∈ts,ok s.L.length d [] t):Ok d (Ze4 s c ts):=by
 have h2:ts.length≤2:=by rw[ha];exact Zp1 c
 have e1:(Y2 s c).L=s.L:=by unfold Y2;split<;>rfl
 have e2:(Y2 s c).D=s.D:=by unfold Y2;split<;>rfl
 have e3:(Y2 s c).G=s.G:=by unfold Y2;split<;>rfl
 have e4:(Y2 s c).P=s.P:=by unfold Y2;split<;>rfl
 have e5:(Y2 s c).S=s.S:=by unfold Y2;split<;>rfl
 have e6:(Y2 s c).U=s.U:=by unfold Y2;split<;>rfl
 have e7:(Y2 s c).k=s.k:=by unfold Y2;split<;>rfl
 obtain⟨new,a1,a2,a3,a4,a5,a6,a7,a8,a9,a10,a11⟩:=sA_f (s:=Y2 s c) (c:=c) (ts:=ts) (fun t ht i e=>by rw[e1];have:=h t ht;rw[e] at this;exact this) ts.length (XE _)
 rw[e1] at a2
 rw[e2] at a1
 rw[e3] at a5
 rw[e4] at a6
 have hL:(Ze4 s c ts).L.length=s.L.length+new.length:=a2
 refine Zh0 p new (by omega) hL a1 (fun t ht=>?_) (fun y hy=>?_) (a7.trans e5) (a8.trans e6) (a9.trans e7) ?_ ?_ (by intro z;cases z)
 ·rw[hL];exact Zaq (by omega) (h t (a4 t ht)) (XE _)
 ·rw[hL]
  have hy':y∈s.P:=by have:(Ze4 s c ts).P=s.P:=a6;rw[this] at hy;exact hy
  exact(p.P y hy').lift (by omega)
 ·show(sA (Y2 s c) c ts ts.length).G.length+(sA (Y2 s c) c ts ts.length).P.length≤_
  rw[a5,a6];omega
 ·exact⟨hc,a10.trans ha,a11⟩
theorem ap_ok {d:Nat}{s:St}{t:Tm}(p:Pre d s)(h:ok s.L.length d [] t)(hv:isVt t=false)(hs:isSt (.tm t)=none):Ok d (apS s t):=by
 cases t with
 | nm x=>cases h
 | num v=>cases hv
 | stop x=>cases hs
 | fn x b=>cases hv
 | at_ i=>
  have hi:i<s.D.length:=by rw[p.D];exact h
  have e:s.D[i]?=some (s.D[i]'hi):=by simp[hi]
  refine Zh0 p [] (by simp) rfl (by simp[apS]) (fun t ht=>by cases ht) (fun y hy=>?_) rfl rfl rfl ?_ ?_ (by intro z;cases z)
  ·rcases XS.mp hy with hy | hy
   ·exact p.P y hy
   ·rw[XQ.mp hy];exact h
  ·show(s.G++[_]).length+(s.P++[_]).length≤_
   rw[List.length_append,List.length_append];simp only[List.length_cons,List.length_nil];omega
  ·show ok s.L.length d [] ((s.D[i]?).getD (.nm ""))
   rw[e];exact p.D' _ (YN hi)
 | shp0 c=>exact Zr5 p h.1 h.2.symm (fun t ht=>by cases ht)
 | shp2 c a b=>
  refine Zr5 p h.2.1.1 h.2.1.2.symm (fun t ht=>?_)
  simp only[ZM,ZN,or_false] at ht
  rcases ht with rfl | rfl
  ·exact Zcd h.2.2.1
  ·exact Zcd h.2.2.2
 | does o a b=>exact Zpj p (Zcd h.2.1) (by intro z;cases z) (Zcd h.2.2)
 | call a b=>exact Zpj p (Zcd h.2.1) (by intro z;cases z) (Zcd h.2.2)
 | first a b=>exact Zpj (s:={s with f:=s.f+1}) ⟨p.h,p.P,p.S,p.U,p.D,p.D',p.k0,p.nL,p.nG,p.nU⟩ (Zcd h.2.1) (by intro z;cases z) (Zcd h.2.2)
 | lt n xs ts b=>exact Z0s p h
 | ch e n cs ns bs=>
  refine Zpj p (Zcd h.2.2.1) (by intro z;cases z) ?_
  intro a ha
  obtain⟨i,_,rfl⟩:=XR.mp ha
  have:=Zcd (h.2.2.2 i)
  rw[YK] at this
  exact⟨(h.2.1.2 i).1,(h.2.1.2 i).2,this⟩
theorem Pre.pop {d:Nat}{s:St}{f:Fm}(p:Pre d s)(h:s.P.getLast?=some f):Pre d {s with P:=s.P.dropLast}:=by
 have hl:=Zjz h
 have:=p.nG
 exact⟨p.h,fun y hy=>p.P y (Zb4 hy),p.S,p.U,p.D,p.D',p.k0,p.nL,by show _+((s.P.dropLast.length:Nat):Int)+6≤_;simp only;omega,p.nU⟩
theorem Zmn {L d:Nat}{o:Str}{x y:Int}:HOk L d (Zjf o x y)∧Zjf o x y≠.no:=by
 unfold Zjf
 have a1:cl "Yes"∧ar "Yes"=0:=by decide+kernel
 have a2:cl "No"∧ar "No"=0:=by decide+kernel
 split
 ·refine⟨?_,by intro z;cases z⟩
  split
  ·exact⟨a1.1,a1.2.symm,fun i hi=>by cases hi⟩
  ·exact⟨a2.1,a2.2.symm,fun i hi=>by cases hi⟩
 ·split
  ·refine⟨?_,by intro z;cases z⟩
   split
   ·exact⟨a1.1,a1.2.symm,fun i hi=>by cases hi⟩
   ·exact⟨a2.1,a2.2.symm,fun i hi=>by cases hi⟩
  ·exact⟨⟨YO _ (by decide),Int.emod_lt_of_pos _ (by decide)⟩,by intro z;cases z⟩
theorem Zsp {c:Str}{al:List Al}{a:Al}(h:altF c al=some a):a∈al∧a.1=c:=by
 unfold altF at h
 exact⟨List.mem_of_find?_eq_some h,by simpa using List.find?_some h⟩
theorem Zx2 {ns:List Str}{ms:List Nat}(hl:ns.length=ms.length){x:Str}(h:x∈ns):mo (ns.zip ms) x≠none:=Zqw (by rw[List.map_fst_zip (by omega)];exact h)
theorem Zx1 {ns:List Str}{ms:List Nat}{L:Nat}(h:∀i∈ms,i<L){x:Str}{i:Nat}(e:mo (ns.zip ms) x=some i):i<L:=by
 obtain⟨z,hz,rfl⟩:=Zqv e
 exact h _ (List.of_mem_zip hz).2
theorem Zqc {d:Nat}{s:St}{h:Hd}(p:Pre d s)(hh:HOk s.L.length d h)(hne:h≠.no):Ok d {s with h:=h}:=
 Zh0 p [] (by simp) rfl (by simp) (fun t ht=>by cases ht) p.P rfl rfl rfl (by show s.G.length+s.P.length≤_;omega) hh hne
theorem Znb {h:Hd}(e:isFn h=true):∃x b,h=.tm (.fn x b):=by
 cases h with
 | no=>cases e
 | made c ms=>cases e
 | tm t=>cases t<;>first | exact⟨_,_,rfl⟩ | cases e
theorem Zff {h:Hd}(e:isNm h=true):∃v,h=.tm (.num v):=by
 cases h with
 | no=>cases e
 | made c ms=>cases e
 | tm t=>cases t<;>first | exact⟨_,rfl⟩ | cases e
theorem Zna {h:Hd}{al:List Al}(e:fitF h (.pick al)=true):∃c ms a,h=.made c ms∧altF c al=some a:=by
 cases h with
 | no=>cases e
 | tm t=>cases e
 | made c ms=>
  have e':(altF c al).isSome=true:=e
  cases ha:altF c al with
  | none=>rw[ha] at e';cases e'
  | some a=>exact⟨c,ms,a,rfl,ha⟩
theorem us_ok {d:Nat}{s:St}{f:Fm}(p:Pre d s)(hf:FOk s.L.length d f)(hb:isBk f=none)(hft:fitF s.h f=true):Ok d (usS s s.h f):=by
 have hh:=p.h
 cases f with
 | give t=>
  obtain⟨x,b,hs⟩:=Znb hft
  rw[hs] at hh ⊢
  ·obtain⟨new,a1,a2,a3,a4,a5,a6,a7,a8,a9,a10⟩:=mk_f (s:=s) (l:=x) (t:=t)
   have hN:=a10 fun i e=>by have:ok s.L.length d [] t:=hf;rw[e] at this;exact this
   have hL:(usS s (.tm (.fn x b)) (.give t)).L.length=s.L.length+new.length:=a2
   refine Zh0 p new (by omega) hL a1 (fun u hu=>?_) (fun y hy=>?_) a7 a8 a9 ?_ ?_ (by intro z;cases z)
   ·rw[hL,a4 u hu];exact Zaq (by omega) hf (XE _)
   ·rw[hL]
    have hy':y∈s.P:=by have:(usS s (.tm (.fn x b)) (.give t)).P=s.P:=a6;rw[this] at hy;exact hy
    exact(p.P y hy').lift (by omega)
   ·show(mkS s x t).G.length+(mkS s x t).P.length≤_
    rw[a5,a6];omega
   ·refine Zrw (Zaq (by show _≤(mkS s x t).L.length;omega) (Zcd hh.2.2) (XE _)) (fun y i e=>?_) (fun y hy=>.inl ?_)
    ·obtain⟨z,hz,rfl⟩:=Zqv e
     rw[XQ.mp hz];exact hN
    ·exact Zqw (by simpa using hy)
 | pick al=>
  obtain⟨c,ms,a,hs,ha⟩:=Zna hft
  rw[hs] at hh ⊢
  obtain⟨m1,m2⟩:=Zsp ha
  obtain⟨o1,o2,o3⟩:=hf a m1
  have hl:a.2.1.length=ms.length:=by rw[o1,m2,hh.2.1]
  show Ok d (match altF c al with | some a=>{s with h:=.tm (pu (mo (a.2.1.zip ms)) a.2.2)} | none=>s)
  rw[ha]
  exact Zqc p (Zrw o3 (fun x i e=>Zx1 hh.2.2 e) (fun x hx=>.inl (Zx2 hl hx))) (by intro z;cases z)
 | left o t=>
  obtain⟨v,hs⟩:=Zff hft
  rw[hs] at hh ⊢
  exact Zpj p hf (by intro z;cases z) hh
 | right o x=>
  obtain⟨v,hs⟩:=Zff hft
  rw[hs] at hh ⊢
  exact Zqc p Zmn.1 (Zmn (L:=0) (d:=0)).2
 | first t=>exact Zqc p hf (by intro z;cases z)
 | back i=>cases hb
theorem Zme {d:Nat}{s:St}(q:Ok d s)(he:enB s.e=true)(h1:one s=none)(hk:s.k<1000):Ok d (stp {s with k:=s.k+1}):=by
 obtain⟨d1,d2,d3⟩:=due he h1
 have p:=q.pre hk
 have e:stp {s with k:=s.k+1}=(if isV s.h=true then(match s.P.getLast? with | some f=>usS {s with k:=s.k+1,P:=s.P.dropLast} s.h f | none=>{s with k:=s.k+1}) else(match s.h with | .tm t=>apS {s with k:=s.k+1} t | _=>{s with k:=s.k+1})):=rfl
 rw[e]
 by_cases hv:isV s.h=true
 ·obtain⟨f,f1,f2,f3⟩:=d3 hv
  rw[XY hv,f1]
  exact us_ok (p.pop f1) (q.P f (Zcx f1)) f2 f3
 ·rw[XX hv]
  have hh:=q.h
  obtain⟨t,hs,hvt⟩:∃t,s.h=.tm t∧isVt t=false:=by
   revert d1 hv
   cases s.h with
   | no=>intro d1;cases d1
   | made c ms=>intro _ hv;exact absurd rfl hv
   | tm t=>
    intro _ hv
    exact⟨t,rfl,by simpa[isV] using hv⟩
  have e2:(match s.h with | .tm t=>apS {s with k:=s.k+1} t | _=>{s with k:=s.k+1})=apS {s with k:=s.k+1} t:=by rw[hs]
  rw[e2]
  rw[hs] at hh d2
  exact ap_ok p hh hvt d2
theorem Zut {s:St}{f:Fm}(hv:isV s.h=true)(hl:s.P.getLast?=some f):stp s=usS {s with P:=s.P.dropLast} s.h f:=by unfold stp;rw[XY hv,hl]
theorem Zuu {s:St}{t:Tm}(hs:s.h=.tm t)(hv:isVt t=false):stp s=apS s t:=by
 unfold stp;rw[hs,XX (by show ¬isVt t=true;rw[hv];decide)]
structure Gro (s s':St):Prop where
 g:∃n,s'.G=s.G++n∧∀r∈n,r.k=s.k
 c:s.c≤s'.c
 f:s.f≤s'.f
 k:s'.k=s.k
theorem Gro.refl (s:St):Gro s s:=⟨⟨[],by simp,fun r hr=>by cases hr⟩,Int.le_refl _,Int.le_refl _,rfl⟩
theorem Gro.trans {s s' s'':St}(a:Gro s s')(b:Gro s' s''):Gro s s'':=by
 obtain⟨n,a1,a2⟩:=a.g
 obtain⟨m,b1,b2⟩:=b.g
 refine⟨⟨n++m,by rw[b1,a1,YL],fun r hr=>?_⟩,Int.le_trans a.c b.c,Int.le_trans a.f b.f,b.k.trans a.k⟩
 rcases XS.mp hr with hr | hr
 ·exact a2 r hr
 ·rw[b2 r hr,a.k]
theorem Zbn {s s':St}(hG:s'.G=s.G)(hc:s'.c=s.c)(hf:s'.f=s.f)(hk:s'.k=s.k):Gro s s':=⟨⟨[],by rw[hG,YK],fun r hr=>by cases hr⟩,by omega,by omega,hk⟩
theorem Zzi {s s':St}(h:one s=some s'):Gro s s':=by
 unfold one at h
 split at h
 ·split at h
  ·cases h
   unfold tnS
   cases hl:s.S.getLast? with
   | none=>exact Zbn rfl rfl rfl rfl
   | some p=>
    cases p with
    | word x=>exact Zbn rfl rfl rfl rfl
    | part D t=>
     simp only
     split<;>exact Zbn rfl rfl rfl rfl
  ·split at h
   ·cases h;exact Zbn rfl rfl rfl rfl
   ·split at h
    ·split at h
     ·cases h;exact Zbn rfl rfl rfl rfl
     ·split at h
      ·cases h
       exact⟨⟨_,rfl,fun r hr=>by rw[XQ.mp hr];rfl⟩,XW _,XW _,rfl⟩
      ·split at h
       ·cases h
       ·cases h;exact Zbn rfl rfl rfl rfl
    ·cases h
 ·cases h
theorem Zrp:∀(m:Nat) (s:St),Gro s (stl m s)
 | 0,s=>Gro.refl s
 | m+1,s=>by
  unfold stl
  cases h:one s with
  | none=>exact Gro.refl s
  | some s'=>exact(Zzi h).trans (Zrp m s')
theorem Zm1 {s:St}{l:Str}{t:Tm}:Gro s (mkS s l t)∧(mkS s l t).e=s.e:=by
 unfold mkS
 split
 ·exact⟨Gro.refl s,rfl⟩
 ·exact⟨⟨⟨_,rfl,fun r hr=>by rw[XQ.mp hr];rfl⟩,XW _,XW _,rfl⟩,rfl⟩
theorem Zvf {s:St}{c:Str}{ts:List Tm}:∀i,Gro s (sA s c ts i)∧(sA s c ts i).e=s.e
 | 0=>⟨Gro.refl s,rfl⟩
 | i+1=>by
  obtain⟨a,b⟩:=Zvf (s:=s) (c:=c) (ts:=ts) i
  unfold sA
  cases ts[i]? with
  | none=>exact⟨a,b⟩
  | some t=>exact⟨a.trans Zm1.1,Zm1.2.trans b⟩
theorem Zxu {s:St}{ns:List Str}:∀i,Gro s (bA s ns i)∧(bA s ns i).e=s.e
 | 0=>⟨Gro.refl s,rfl⟩
 | i+1=>by
  obtain⟨a,b⟩:=Zxu (s:=s) (ns:=ns) i
  unfold bA
  cases ns[i]? with
  | none=>exact⟨a,b⟩
  | some t=>exact⟨a.trans ⟨⟨_,rfl,fun r hr=>by rw[XQ.mp hr];rfl⟩,XW _,XW _,rfl⟩,b⟩
theorem Gro.to {s s' s'':St}(a:Gro s s')(hG:s''.G=s'.G)(hc:s''.c=s'.c)(hf:s''.f=s'.f)(hk:s''.k=s'.k):Gro s s'':=a.trans (Zbn hG hc hf hk)
theorem Zo3 {s:St}{c:Str}{ts:List Tm}:Gro s (Ze4 s c ts)∧(Ze4 s c ts).e=s.e:=by
 have h0:Gro s (Y2 s c)∧(Y2 s c).e=s.e:=by
  unfold Y2
  split
  ·exact⟨⟨⟨[],by simp,fun r hr=>by cases hr⟩,by show s.c≤s.c+1;omega,Int.le_refl _,rfl⟩,rfl⟩
  ·exact⟨Gro.refl s,rfl⟩
 obtain⟨a,b⟩:=Zvf (s:=Y2 s c) (c:=c) (ts:=ts) ts.length
 exact⟨(h0.1.trans a).to rfl rfl rfl rfl,b.trans h0.2⟩
theorem Z4n {s:St}{t:Tm}:Gro s (apS s t)∧(apS s t).e=s.e:=by
 cases t with
 | lt n xs ts b=>
  obtain⟨a,b'⟩:=Zxu (s:=s) (ns:=nms xs) (nms xs).length
  exact⟨a.to rfl rfl rfl rfl,b'⟩
 | shp0 c=>exact Zo3
 | shp2 c a b=>exact Zo3
 | at_ i=>exact⟨⟨⟨_,rfl,fun r hr=>by rw[XQ.mp hr];rfl⟩,XW _,XW _,rfl⟩,rfl⟩
 | first a b=>exact⟨⟨⟨[],by simp[apS,goS],fun r hr=>by cases hr⟩,Int.le_refl _,by show s.f≤s.f+1;omega,rfl⟩,rfl⟩
 | _=>exact⟨Zbn rfl rfl rfl rfl,rfl⟩
theorem Zua {s:St}{h:Hd}{f:Fm}:Gro s (usS s h f)∧(usS s h f).e=s.e:=by
 cases f with
 | give t=>
  cases h with
  | no=>exact⟨Gro.refl s,rfl⟩
  | made c ms=>exact⟨Gro.refl s,rfl⟩
  | tm u=>
   cases u with
   | fn x b=>exact⟨Zm1.1.to rfl rfl rfl rfl,Zm1.2⟩
   | _=>exact⟨Gro.refl s,rfl⟩
 | pick al=>
  cases h with
  | no=>exact⟨Gro.refl s,rfl⟩
  | tm u=>exact⟨Gro.refl s,rfl⟩
  | made c ms=>
   have e:usS s (.made c ms) (.pick al)=(match altF c al with | some a=>{s with h:=.tm (pu (mo (a.2.1.zip ms)) a.2.2)} | none=>s):=rfl
   rw[e]
   cases altF c al with
   | some a=>exact⟨Zbn rfl rfl rfl rfl,rfl⟩
   | none=>exact⟨Gro.refl s,rfl⟩
 | left o t=>
  cases h with
  | no=>exact⟨Gro.refl s,rfl⟩
  | made c ms=>exact⟨Gro.refl s,rfl⟩
  | tm u=>
   cases u with
   | num v=>exact⟨Zbn rfl rfl rfl rfl,rfl⟩
   | _=>exact⟨Gro.refl s,rfl⟩
 | right o x=>
  cases h with
  | no=>exact⟨Gro.refl s,rfl⟩
  | made c ms=>exact⟨Gro.refl s,rfl⟩
  | tm u=>
   cases u with
   | num v=>exact⟨Zbn rfl rfl rfl rfl,rfl⟩
   | _=>exact⟨Gro.refl s,rfl⟩
 | first t=>exact⟨Zbn rfl rfl rfl rfl,rfl⟩
 | back i=>exact⟨Gro.refl s,rfl⟩
theorem Zmf {s:St}:Gro s (stp s)∧(stp s).e=s.e:=by
 unfold stp
 split
 ·split
  ·exact⟨(Zbn (s:=s) (s':={s with P:=s.P.dropLast}) rfl rfl rfl rfl).trans Zua.1,Zua.2⟩
  ·exact⟨Gro.refl s,rfl⟩
 ·split
  ·exact Z4n
  ·exact⟨Gro.refl s,rfl⟩
open PySem PySem.Spec PyProof.Rows L2 WL
def nx1 (s:St):St:=settled (stp {s with k:=s.k+1})
theorem Zzm (s:St):Gro {s with k:=s.k+1} (nx1 s):=Zmf.1.trans (Zrp _ _)
theorem nx1_k (s:St):(nx1 s).k=s.k+1:=(Zzm s).k
theorem Zhr {m:Int}{s:St}{j:Nat}(h:¬(enB s.e=true∧s.k<m)):adv m j s=s:=by
 cases j with
 | zero=>rfl
 | succ j=>unfold adv;rw[XX h]
theorem Zn0 {m:Int}{s:St}{j:Nat}(h:enB s.e=true∧s.k<m):adv m (j+1) s=adv m j (nx1 s):=by
 show(if enB s.e=true∧s.k<m then _ else _)=_
 rw[XY h];rfl
theorem Zsq {m:Int}:∀(n:Nat) (s:St),(m-s.k).toNat≤n→s.k≤m→(adv m n s).k≤m∧(enB (adv m n s).e=true→(adv m n s).k=m)
 | 0,s,hn,hk=>⟨hk,fun _=>by show s.k=m;omega⟩
 | n+1,s,hn,hk=>by
  by_cases c:enB s.e=true∧s.k<m
  ·rw[Zn0 c]
   have bk:=nx1_k s
   exact Zsq n (nx1 s) (by omega) (by omega)
  ·rw[Zhr c]
   refine⟨hk,fun h=>?_⟩
   have:¬s.k<m:=fun z=>c ⟨h,z⟩
   omega
theorem Zxx {d:Nat}{m:Int}(hm:m≤1000):∀(n:Nat) (s:St),Ok d s→one s=none→Ok d (adv m n s)∧one (adv m n s)=none
 | 0,s,q,h=>⟨q,h⟩
 | n+1,s,q,h=>by
  by_cases c:enB s.e=true∧s.k<m
  ·rw[Zn0 c]
   have q1:=Zme q c.1 h (by have:=c.2;omega)
   obtain⟨q2,h2,_⟩:=Zge (mu (stp {s with k:=s.k+1})) q1 (XE _)
   exact Zxx hm n (nx1 s) q2 h2
  ·rw[Zhr c];exact⟨q,h⟩
section
variable {f m:Int}{s:St}
end
open PySem PySem.Spec PyProof.Rows L2 WL
structure Ck where
 lab:List Str
 wi:List Nat
 la:Int
 en:Int
def ck1 (c:Ck)(r:Ev):Option Ck:=
 if c.la≤r.k then
  if r.ev="born" then(if r.i=c.lab.length then some ⟨c.lab++[r.l],c.wi,r.k,c.en⟩ else none)
  else if c.lab[r.i]?=some r.l then
   if r.ev="enter"∧c.en<r.k then some ⟨c.lab,c.wi++[r.i],r.k,r.k⟩
   else if r.ev="back"∧c.wi.getLast?=some r.i then some ⟨c.lab,c.wi.dropLast,r.k,c.en⟩
   else none
  else none
 else none
def ckA:Ck→List Ev→Option Ck
 | c,[]=>some c
 | c,r::l=>match ck1 c r with | some c'=>ckA c' l | none=>none
theorem Zhp:∀(l:List Ev) {c c' c'':Ck} {r:Ev},ckA c l=some c'→ck1 c' r=some c''→ckA c (l++[r])=some c''
 | [],c,c',c'',r,h,h'=>by
  cases h
  show(match ck1 c r with | some c'=>ckA c' [] | none=>none)=_
  rw[h'];rfl
 | a::l,c,c',c'',r,h,h'=>by
  have h2:(match ck1 c a with | some c'=>ckA c' l | none=>none)=some c':=h
  show(match ck1 c a with | some c'=>ckA c' (l++[r]) | none=>none)=_
  cases e:ck1 c a with
  | none=>rw[e] at h2;cases h2
  | some c1=>rw[e] at h2;exact Zhp l h2 h'
def c0:Ck:=⟨[],[],0,0⟩
def bks (P:List Fm):List Nat:=P.filterMap isBk
def Lg (x:Int)(s:St):Prop:=∃la en,ckA c0 s.G=some ⟨s.L,bks s.P,la,en⟩∧la≤s.k∧en≤x
theorem Lg.to {x y:Int}{s s':St}(h:Lg x s)(hG:s'.G=s.G)(hL:s'.L=s.L)(hP:bks s'.P=bks s.P)(hk:s.k≤s'.k)(hx:x≤y):Lg y s':=by
 obtain⟨la,en,h1,h2,h3⟩:=h
 exact⟨la,en,by rw[hG,hL,hP];exact h1,by omega,by omega⟩
theorem Lg.tr {x:Int}{s s':St}(h:Lg x s)(hG:s'.G=s.G)(hL:s'.L=s.L)(hP:bks s'.P=bks s.P)(hk:s'.k=s.k:=by rfl):Lg x s':=h.to hG hL hP (by omega) (XW _)
theorem nb1:¬("enter":Str)="born":=by decide+kernel
theorem nb2:¬("back":Str)="born":=by decide+kernel
theorem nb3:¬("back":Str)="enter":=by decide+kernel
theorem Lg.bear {x:Int}{s:St}{l:Str}(h:Lg x s):Lg x (Zkk s l):=by
 obtain⟨la,en,h1,h2,h3⟩:=h
 refine⟨s.k,en,Zhp _ h1 ?_,XW _,h3⟩
 show(if la≤s.k then _ else none)=_
 rw[XY h2]
 show(if ("born":Str)="born" then(if s.L.length=s.L.length then _ else _) else _)=_
 rw[XY rfl,XY rfl];rfl
theorem Lg.mk {x:Int}{s:St}{l:Str}{t:Tm}(h:Lg x s):Lg x (mkS s l t):=by
 unfold mkS
 split
 ·exact h
 ·exact(h.bear (l:=l)).tr rfl rfl rfl
theorem Lg.sA {x:Int}{s:St}{c:Str}{ts:List Tm}(h:Lg x s):∀i,Lg x (sA s c ts i)
 | 0=>h
 | i+1=>by
  unfold K34.sA
  cases ts[i]? with
  | none=>exact h.sA i
  | some t=>exact(h.sA i).mk
theorem Lg.bA {x:Int}{s:St}{ns:List Str}(h:Lg x s):∀i,Lg x (bA s ns i)
 | 0=>h
 | i+1=>by
  unfold K34.bA
  cases ns[i]? with
  | none=>exact h.bA i
  | some t=>exact(h.bA i).bear
theorem Zfj {P:List Fm}{f:Fm}(h:isBk f=none):bks (P++[f])=bks P:=by
 unfold bks;rw[List.filterMap_append,List.filterMap_cons_none h,List.filterMap_nil,YK]
theorem Zsm {P:List Fm}{i:Nat}:bks (P++[.back i])=bks P++[i]:=by
 unfold bks;rw[List.filterMap_append];rfl
theorem Z0r {P:List Fm}{f:Fm}(hl:P.getLast?=some f)(h:isBk f=none):bks P.dropLast=bks P:=by
 have:=Zfj (P:=P.dropLast) h
 rw[←Za4 hl] at this
 exact this.symm
theorem Lg.make {x:Int}{s:St}{c:Str}{ts:List Tm}(h:Lg x s):Lg x (Ze4 s c ts):=by
 have h0:Lg x (Y2 s c):=by
  unfold Y2
  split
  ·exact h.tr rfl rfl rfl
  ·exact h
 exact(h0.sA (c:=c) (ts:=ts) ts.length).tr rfl rfl rfl
theorem lg_ap {s:St}{t:Tm}(h:Lg (s.k-1) s)(ho:∀i,t=.at_ i→i<s.L.length):Lg s.k (apS s t):=by
 have w:Lg s.k s:=h.to rfl rfl rfl (XW _) (by omega)
 cases t with
 | lt n xs ts b=>exact(w.bA (ns:=nms xs) (nms xs).length).tr rfl rfl rfl
 | shp0 c=>exact w.make
 | shp2 c a b=>exact w.make
 | call a b=>exact w.tr rfl rfl (Zfj rfl)
 | does o a b=>exact w.tr rfl rfl (Zfj rfl)
 | first a b=>exact w.tr rfl rfl (Zfj rfl)
 | ch e n cs ns bs=>exact w.tr rfl rfl (Zfj rfl)
 | at_ i=>
  obtain⟨la,en,h1,h2,h3⟩:=h
  refine⟨s.k,s.k,?_,XW _,XW _⟩
  show ckA c0 (s.G++[nt s "enter" i (lbl s i)])=some ⟨s.L,bks (s.P++[.back i]),s.k,s.k⟩
  rw[Zsm]
  refine Zhp _ h1 ?_
  have hj:s.L[i]?=some (lbl s i):=by unfold lbl;simp[ho i rfl]
  show(if la≤s.k then _ else none)=_
  rw[XY h2]
  show(if ("enter":Str)="born" then _ else if s.L[i]?=some (lbl s i) then(if ("enter":Str)="enter"∧en<s.k then _ else _) else _)=_
  rw[XX nb1,XY hj,XY ⟨rfl,by omega⟩];rfl
 | _=>exact w
theorem lg_us {s:St}{h':Hd}{f:Fm}(h:Lg s.k s):Lg s.k (usS s h' f):=by
 cases f with
 | give t=>
  cases h' with
  | no=>exact h
  | made c ms=>exact h
  | tm u=>
   cases u with
   | fn x b=>exact(h.mk (l:=x) (t:=t)).tr rfl rfl rfl
   | _=>exact h
 | pick al=>
  cases h' with
  | no=>exact h
  | tm u=>exact h
  | made c ms=>
   have e:usS s (.made c ms) (.pick al)=(match altF c al with | some a=>{s with h:=.tm (pu (mo (a.2.1.zip ms)) a.2.2)} | none=>s):=rfl
   rw[e]
   cases altF c al with
   | some a=>exact h.tr rfl rfl rfl
   | none=>exact h
 | left o t=>
  cases h' with
  | no=>exact h
  | made c ms=>exact h
  | tm u=>
   cases u with
   | num v=>exact h.tr rfl rfl (Zfj rfl)
   | _=>exact h
 | right o x=>
  cases h' with
  | no=>exact h
  | made c ms=>exact h
  | tm u=>
   cases u with
   | num v=>exact h.tr rfl rfl rfl
   | _=>exact h
 | first t=>exact h.tr rfl rfl rfl
 | back i=>exact h
theorem Z3m {d:Nat}{s s':St}(q:Ok d s)(w:Lg s.k s)(h:one s=some s'):Lg s'.k s':=by
 unfold one at h
 split at h
 ·split at h
  ·cases h
   unfold tnS
   cases hl:s.S.getLast? with
   | none=>exact w.tr rfl rfl rfl
   | some p=>
    cases p with
    | word x=>exact w.tr rfl rfl rfl
    | part D t=>
     simp only
     split<;>exact w.tr rfl rfl rfl
  ·split at h
   ·cases h;exact w.tr rfl rfl rfl
   ·split at h
    ·split at h
     ·cases h;exact w.tr rfl rfl rfl
     next f hl=>
      split at h
      next i hi=>
       cases h
       have eb:f=.back i:=by
        revert hi
        cases f<;>intro z<;>first | (cases z;rfl) | cases z
       subst eb
       have hil:i<s.L.length:=q.P _ (Zcx hl)
       have hj:s.L[i]?=some (lbl s i):=by unfold lbl;simp[hil]
       obtain⟨la,en,h1,h2,h3⟩:=w
       have eP:bks s.P=bks s.P.dropLast++[i]:=by
        have:=Zsm (P:=s.P.dropLast) (i:=i)
        rw[←Za4 hl] at this
        exact this
       refine⟨s.k,en,Zhp _ h1 ?_,XW _,h3⟩
       show(if la≤s.k then _ else none)=some (⟨s.L,bks s.P.dropLast,s.k,en⟩:Ck)
       rw[XY h2]
       show(if ("back":Str)="born" then _ else if s.L[i]?=some (lbl s i) then(if ("back":Str)="enter"∧en<s.k then _ else if ("back":Str)="back"∧(bks s.P).getLast?=some i then some (⟨s.L,(bks s.P).dropLast,s.k,en⟩:Ck) else none) else _)=_
       rw[if_neg nb2,if_pos hj,if_neg (fun z=>nb3 z.1),if_pos ⟨rfl,by rw[eP];simp⟩,eP]
       simp
      ·split at h
       ·cases h
       ·cases h;exact w.tr rfl rfl rfl
    ·cases h
 ·cases h
theorem Zq1 {d:Nat}:∀(m:Nat) {s:St},Ok d s→Lg s.k s→Lg (stl m s).k (stl m s)
 | 0,s,_,w=>w
 | m+1,s,q,w=>by
  unfold stl
  cases h:one s with
  | none=>exact w
  | some s'=>exact Zq1 m (Zjk q h).1 (Z3m q w h)
theorem Z3l {d:Nat}{s:St}(q:Ok d s)(w:Lg s.k s)(he:enB s.e=true)(h1:one s=none):Lg (s.k+1) (stp {s with k:=s.k+1}):=by
 obtain⟨d1,d2,d3⟩:=due he h1
 have w1:Lg (s.k+1-1) {s with k:=s.k+1}:=w.to rfl rfl rfl (by show s.k≤s.k+1;omega) (by omega)
 by_cases hv:isV s.h=true
 ·obtain⟨f,f1,f2,f3⟩:=d3 hv
  rw[Zut (s:={s with k:=s.k+1}) hv f1]
  have w2:Lg (s.k+1) {s with k:=s.k+1,P:=s.P.dropLast}:=w1.to rfl rfl (Z0r f1 f2) (XW _) (by omega)
  exact lg_us (s:={s with k:=s.k+1,P:=s.P.dropLast}) w2
 ·obtain⟨t,hs,hvt⟩:∃t,s.h=.tm t∧isVt t=false:=by
   revert d1 hv
   cases s.h with
   | no=>intro d1;cases d1
   | made c ms=>intro _ hv;exact absurd rfl hv
   | tm t=>
    intro _ hv
    exact⟨t,rfl,by simpa[isV] using hv⟩
  rw[Zuu (s:={s with k:=s.k+1}) hs hvt]
  refine lg_ap (s:={s with k:=s.k+1}) w1 fun i e=>?_
  have:=q.h
  rw[hs,e] at this
  exact this
theorem Zwl {d:Nat}{m:Int}(hm:m≤1000):∀(n:Nat) (s:St),Ok d s→one s=none→Lg s.k s→Lg (adv m n s).k (adv m n s)
 | 0,s,_,_,w=>w
 | n+1,s,q,h,w=>by
  by_cases c:enB s.e=true∧s.k<m
  ·rw[Zn0 c]
   have q1:=Zme q c.1 h (by have:=c.2;omega)
   obtain⟨q2,h2,_⟩:=Zge (mu (stp {s with k:=s.k+1})) q1 (XE _)
   have w1:=Z3l q w c.1 h
   have ek:(stp {s with k:=s.k+1}).k=s.k+1:=Zmf.1.k
   have w2:Lg (stp {s with k:=s.k+1}).k (stp {s with k:=s.k+1}):=w1.to rfl rfl rfl (XW _) (by omega)
   exact Zwl hm n (nx1 s) q2 h2 (Zq1 _ q1 w2)
  ·rw[Zhr c];exact w
theorem Zzn {v:Int}(h0:0≤v):1≤(Zqt v).length:=by
 obtain⟨m,rfl⟩:∃m:Nat,v=m:=⟨v.toNat,by omega⟩
 show 1≤(Str.ofString (toString (Int.ofNat m))).length
 rw[text_ofNat]
 show 1≤((Nat.toDigits 10 m).map Char.toNat).toArray.size
 rw[XJ,XI]
 exact Nat.length_toDigits_pos
structure Nt (s:St):Prop where
 u:∀x∈s.U,1≤x.length
 w:∀x,Pc.word x∈s.S→1≤x.length
 n:s.h=.no→s.S≠[]∨s.U≠[]
 t:∀x,s.e=.told x→1≤x.length∧s.P=[]
 p:∀x,s.e=.stop x→1≤x.length
theorem Z2s {L d:Nat}{h:Hd}{D:Int}(q:HOk L d h)(hv:isV h=true):(∀x,Pc.word x∈pcs h D→1≤x.length)∧pcs h D≠[]:=by
 have h1:("(":Str).length=1:=by decide+kernel
 have h2:(" ":Str).length=1:=by decide+kernel
 have h3:(")":Str).length=1:=by decide+kernel
 have h4:("fun":Str).length=3:=by decide+kernel
 cases h with
 | no=>cases hv
 | tm t=>
  cases t with
  | num v=>exact⟨fun x hx=>by cases XQ.mp hx;exact Zzn q.1,by intro z;cases z⟩
  | fn y b=>exact⟨fun x hx=>by cases XQ.mp hx;omega,by intro z;cases z⟩
  | _=>cases hv
 | made c ms=>
  obtain⟨⟨q0,q1⟩,q2,q3⟩:=q
  have hc:("("++c:Str).length=("(":Str).length+c.length:=YC _ _
  cases ms with
  | nil=>exact⟨fun x hx=>by cases XQ.mp hx;exact q0,by intro z;cases z⟩
  | cons a r=>
   refine⟨fun x hx=>?_,by intro z;cases z⟩
   have e:pcs (.made c (a::r)) D=.word ("("++c)::((a::r).flatMap fun i=>[.word " ",.part D (.at_ i)])++[.word ")"]:=rfl
   rw[e] at hx
   simp only[List.cons_append,List.mem_cons,List.mem_append,List.not_mem_nil,or_false,List.mem_flatMap] at hx
   rcases hx with hx | ⟨i,_,hx | hx⟩ | hx
   ·cases hx;omega
   ·cases hx;omega
   ·cases hx
   ·cases hx;omega
theorem Zzz {xs:List Str}(h:∀x∈xs,1≤x.length)(hn:xs≠[]):1≤(Txt.join "" xs).length:=by
 have h1:=len_join_ge_sum "" xs
 cases xs with
 | nil=>exact absurd rfl hn
 | cons a r=>
  have:=h a (by simp)
  rw[YI,List.sum_cons] at h1
  omega
theorem Z3d {d:Nat}{s s':St}(q:Ok d s)(w:Nt s)(h:one s=some s'):Nt s':=by
 unfold one at h
 split at h
 next he=>
  have hen:s.e=.no:=by revert he;cases s.e<;>simp[enB]
  have tt0:∀x,s.e=.told x→∀P:Prop,P:=fun x e=>by rw[hen] at e;cases e
  split at h
  next hno=>
   cases h
   have hh:s.h=.no:=by revert hno;cases s.h<;>simp[noB]
   unfold tnS
   cases hl:s.S.getLast? with
   | none=>
    have e0:=Zfe hl
    refine⟨w.u,w.w,w.n,fun x e=>?_,fun x e=>by cases e⟩
    cases e
    exact⟨Zzz w.u ((w.n hh).resolve_left fun z=>z e0),q.hp hh⟩
   | some p=>
    have hm:=Zcx hl
    cases p with
    | word x=>
     refine⟨fun y hy=>?_,fun y hy=>w.w y (Zb4 hy),fun _=>.inr (by simp),w.t,w.p⟩
     rcases XS.mp hy with hy | hy
     ·exact w.u y hy
     ·rw[XQ.mp hy];exact w.w x hm
    | part D t=>
     simp only
     split
     ·refine⟨fun y hy=>?_,fun y hy=>w.w y (Zb4 hy),fun _=>.inr (by simp),w.t,w.p⟩
      rcases XS.mp hy with hy | hy
      ·exact w.u y hy
      ·rw[XQ.mp hy];exact Nat.le_of_eq (by decide+kernel:1=("?":Str).length)
     ·exact⟨w.u,fun y hy=>w.w y (Zb4 hy),fun z=>(by cases z),w.t,w.p⟩
  next hno=>
   have hnh:s.h≠.no:=fun e=>hno (by rw[e];rfl)
   split at h
   next x hx=>
    cases h
    refine⟨w.u,w.w,w.n,fun y e=>(by cases e),fun y e=>?_⟩
    cases e
    have hh:=q.h
    have eh:s.h=.tm (.stop x):=by
     revert hx
     cases s.h with
     | no=>intro z;cases z
     | made c ms=>intro z;cases z
     | tm t=>cases t<;>intro z<;>first | (cases z;rfl) | cases z
    rw[eh] at hh
    exact hh.1
   next hx=>
    split at h
    next hv=>
     split at h
     ·cases h
      obtain⟨c1,c2⟩:=Z2s (D:=s.w-1) q.h hv
      refine⟨w.u,fun y hy=>?_,fun _=>.inl ?_,w.t,w.p⟩
      ·rcases XS.mp hy with hy | hy
       ·exact w.w y hy
       ·exact c1 y (List.mem_reverse.mp hy)
      ·show s.S++(pcs s.h (s.w-1)).reverse≠[]
       intro z
       rw[List.append_eq_nil_iff,List.reverse_eq_nil_iff] at z
       exact c2 z.2
     ·split at h
      ·cases h
       exact⟨w.u,w.w,fun z=>absurd z hnh,fun x e=>tt0 x e _,w.p⟩
      ·split at h
       ·cases h
       ·cases h
        exact⟨w.u,w.w,w.n,fun x e=>(by cases e),fun x e=>(by cases e)⟩
    ·cases h
 ·cases h
theorem Zqu {d:Nat}:∀(m:Nat) {s:St},Ok d s→Nt s→Nt (stl m s)
 | 0,s,_,w=>w
 | m+1,s,q,w=>by
  unfold stl
  cases h:one s with
  | none=>exact w
  | some s'=>exact Zqu m (Zjk q h).1 (Z3d q w h)
structure Sm (s s':St):Prop where
 U:s'.U=s.U
 S:s'.S=s.S
 e:s'.e=s.e
theorem Sm.refl (s:St):Sm s s:=⟨rfl,rfl,rfl⟩
theorem Sm.trans {a b c:St}(h:Sm a b)(h':Sm b c):Sm a c:=⟨h'.U.trans h.U,h'.S.trans h.S,h'.e.trans h.e⟩
theorem Z01 {s:St}{l:Str}{t:Tm}:Sm s (mkS s l t):=by
 unfold mkS
 split
 ·exact Sm.refl s
 ·exact⟨rfl,rfl,rfl⟩
theorem Zux {s:St}{c:Str}{ts:List Tm}:∀i,Sm s (sA s c ts i)
 | 0=>Sm.refl s
 | i+1=>by
  unfold sA
  cases ts[i]? with
  | none=>exact Zux i
  | some t=>exact(Zux i).trans Z01
theorem Zrq {s:St}{c:Str}{ts:List Tm}:Sm s (Ze4 s c ts):=by
 have h0:Sm s (Y2 s c):=by unfold Y2;split<;>exact⟨rfl,rfl,rfl⟩
 have:=h0.trans (Zux (c:=c) (ts:=ts) ts.length)
 exact⟨this.U,this.S,this.e⟩
theorem Zuy {s:St}{ns:List Str}:∀i,Sm s (bA s ns i)
 | 0=>Sm.refl s
 | i+1=>by
  unfold bA
  cases ns[i]? with
  | none=>exact Zuy i
  | some t=>exact(Zuy i).trans ⟨rfl,rfl,rfl⟩
theorem sm_ap {s:St}{t:Tm}(hv:isVt t=false)(hs:isSt (.tm t)=none)(hn:∀x,t≠.nm x):Sm s (apS s t)∧(apS s t).h≠.no:=by
 cases t with
 | nm x=>exact absurd rfl (hn x)
 | num v=>cases hv
 | stop x=>cases hs
 | fn x b=>cases hv
 | lt n xs ts b=>
  have:=Zuy (s:=s) (ns:=nms xs) (nms xs).length
  exact⟨⟨this.U,this.S,this.e⟩,by intro z;cases z⟩
 | shp0 c=>exact⟨Zrq,by intro z;cases z⟩
 | shp2 c a b=>exact⟨Zrq,by intro z;cases z⟩
 | _=>exact⟨⟨rfl,rfl,rfl⟩,by intro z;cases z⟩
theorem sm_us {s:St}{f:Fm}(hb:isBk f=none)(hft:fitF s.h f=true):Sm s (usS s s.h f)∧(usS s s.h f).h≠.no:=by
 cases f with
 | give t=>
  obtain⟨x,b,hs⟩:=Znb hft
  rw[hs]
  have:=Z01 (s:=s) (l:=x) (t:=t)
  exact⟨⟨this.U,this.S,this.e⟩,by intro z;cases z⟩
 | pick al=>
  obtain⟨c,ms,a,hs,ha⟩:=Zna hft
  rw[hs]
  have e:usS s (.made c ms) (.pick al)={s with h:=.tm (pu (mo (a.2.1.zip ms)) a.2.2)}:=by
   show(match altF c al with | some a=>_ | none=>_)=_
   rw[ha]
  rw[e]
  exact⟨⟨rfl,rfl,rfl⟩,by intro z;cases z⟩
 | left o t=>
  obtain⟨v,hs⟩:=Zff hft
  rw[hs]
  exact⟨⟨rfl,rfl,rfl⟩,by intro z;cases z⟩
 | right o x=>
  obtain⟨v,hs⟩:=Zff hft
  rw[hs]
  exact⟨⟨rfl,rfl,rfl⟩,(Zmn (L:=0) (d:=0)).2⟩
 | first t=>exact⟨⟨rfl,rfl,rfl⟩,by intro z;cases z⟩
 | back i=>cases hb
theorem Z1s {d:Nat}{s:St}(q:Ok d s)(he:enB s.e=true)(h1:one s=none):Sm s (stp {s with k:=s.k+1})∧(stp {s with k:=s.k+1}).h≠.no:=by
 obtain⟨d1,d2,d3⟩:=due he h1
 by_cases hv:isV s.h=true
 ·obtain⟨f,f1,f2,f3⟩:=d3 hv
  rw[Zut (s:={s with k:=s.k+1}) hv f1]
  obtain⟨a,b⟩:=sm_us (s:={s with k:=s.k+1,P:=s.P.dropLast}) f2 f3
  exact⟨⟨a.U,a.S,a.e⟩,b⟩
 ·obtain⟨t,hs,hvt⟩:∃t,s.h=.tm t∧isVt t=false:=by
   revert d1 hv
   cases s.h with
   | no=>intro d1;cases d1
   | made c ms=>intro _ hv;exact absurd rfl hv
   | tm t=>
    intro _ hv
    exact⟨t,rfl,by simpa[isV] using hv⟩
  rw[Zuu (s:={s with k:=s.k+1}) hs hvt]
  have hh:=q.h
  rw[hs] at hh d2
  obtain⟨a,b⟩:=sm_ap (s:={s with k:=s.k+1}) hvt d2 (fun x e=>by rw[e] at hh;cases hh)
  exact⟨⟨a.U,a.S,a.e⟩,b⟩
theorem Zv8 {d:Nat}{m:Int}(hm:m≤1000):∀(n:Nat) (s:St),Ok d s→one s=none→Nt s→Nt (adv m n s)
 | 0,s,_,_,w=>w
 | n+1,s,q,h,w=>by
  by_cases c:enB s.e=true∧s.k<m
  ·rw[Zn0 c]
   have q1:=Zme q c.1 h (by have:=c.2;omega)
   obtain⟨q2,h2,_⟩:=Zge (mu (stp {s with k:=s.k+1})) q1 (XE _)
   obtain⟨a,b⟩:=Z1s q c.1 h
   have hen:s.e=.no:=by have:=c.1;revert this;cases s.e<;>simp[enB]
   have w1:Nt (stp {s with k:=s.k+1}):=⟨by rw[a.U];exact w.u,by rw[a.S];exact w.w,fun z=>absurd z b,fun x e=>(by rw[a.e,hen] at e;cases e),fun x e=>(by rw[a.e,hen] at e;cases e)⟩
   exact Zv8 hm n (nx1 s) q2 h2 (Zqu _ q1 w1)
  ·rw[Zhr c];exact w
open PySem PySem.Spec PyProof.Rows L2 WL
theorem lg {v:Int}(h0:0≤v)(h1:v<big):v.natAbs.log2<1920:=by
 have h2:v.natAbs<2^64:=by simp only[big] at h1;omega
 have:v.natAbs.log2<64:=by
  by_cases c:v.natAbs=0
  ·rw[c];decide
  ·exact(Nat.log2_lt c).mpr h2
 omega
theorem Zz6 {i n:Nat}:flat (atT i) (n+1)=true:=Zj5 fun x hx=>by
 simp only[ZM,ZN,or_false] at hx
 rcases hx with rfl | rfl
 ·exact Zb5
 ·exact Zpk
theorem Zsb {ms:List Nat}:Jn (.tup (ms.map atT)):=Zj5 fun x hx=>by obtain⟨i,_,rfl⟩:=XR.mp hx;exact Zz6
theorem Zw6 {ms:List Nat}{C:Hw}{Q:WK}{b:Bool}(hb:ms.isEmpty=b)(q:Q (.bl b) C):wEqG false (.tup (ms.map atT)) (.tup []) C Q:=by
 refine⟨Zsb,Zsb (ms:=[]),?_⟩
 have e:WL.eqT (.tup (ms.map atT)) (.tup [])=b:=by
  subst hb
  unfold WL.eqT
  cases ms with
  | nil=>unfold eqTs;rfl
  | cons a r=>rw[YI];unfold eqTs;rfl
 rw[e];exact q
section
variable {A:Ad}{C:Hw}{s:St}{Q:WK}{χ:WX}{n d:Nat}
theorem Zu5 {L:Nat}{h:Hd}{D:Int}(hv:isV h=true)(ho:HOk L d h)(q:∀p C',C p=none→Ex C C'→C' p=some (.lst ((pcs h D).map pcT))→Q (.ref p) C'):wpc pr (n+1) Zpe [hT h,.int D] C Q χ:=by
 refine Zn9 rfl ?_
 cases h with
 | no=>cases hv
 | tm t=>
  cases t with
  | num v=>
   refine Zwp rfl rfl ?_
   exact⟨_,rfl,_,Yu,.inl ⟨v,rfl,lg ho.1 ho.2,ZNB rfl,fun p hp=>q p _ hp (Ex.new hp) Zn⟩⟩
  | fn x b=>
   refine Zwq rfl (by decide+kernel) (Zwp rfl rfl ?_)
   exact⟨ZNB rfl,fun p hp=>q p _ hp (Ex.new hp) Zn⟩
  | _=>cases hv
 | made c ms=>
  refine Zwq rfl (by decide+kernel) (Zwq rfl (by decide+kernel) ?_)
  refine⟨_,rfl,_,Zaj,XO _,?_⟩
  obtain⟨⟨o0,o1⟩,o2,o3⟩:=ho
  have hl:ms.length≤2:=by rw[o2];exact Zp1 c
  have hc1:("(":Str).length=1:=by decide+kernel
  cases hm:ms with
  | nil=>
   refine Zw6 (ms:=[]) rfl ⟨true,rfl,Jj ?_⟩
   rw[hm] at q
   exact⟨_,rfl,_,Yu,ZNB rfl,fun p hp=>q p _ hp (Ex.new hp) Zn⟩
  | cons a r=>
   rw[←hm]
   refine Zw6 (ms:=ms) (by rw[hm];rfl) ⟨false,rfl,Ye ?_⟩
   refine⟨_,rfl,_,Yu,small63 (by omega),ZNB rfl,fun p hp=>?_⟩
   refine⟨_,rfl,_,Zaj,?_⟩
   have ep:pcs (.made c ms) D=.word ("("++c)::(ms.flatMap fun i=>[.word " ",.part D (.at_ i)])++[.word ")"]:=by rw[hm];rfl
   rw[ep] at q
   refine Zcj (fun i τ C'=>∃x3,τ=[some (.tup [.str "made",.str c,.tup (ms.map atT)]),some (.int D),some (.ref p),x3]∧Ex C C'∧C' p=some (.lst ((.word ("("++c)::((ms.take i).flatMap fun i=>[.word " ",.part D (.at_ i)])).map pcT))) ⟨none,rfl,Ex.new hp,Zn⟩ (fun _ _ _ _ _=>trivial) ?_ ?_
   ·rintro i y τ C' N hy ⟨x3,rfl,hE,hC⟩ hN
    rw[XM] at hy
    cases hi:ms[i]? with
    | none=>rw[hi] at hy;cases hy
    | some m=>
     rw[hi] at hy
     cases hy
     have hil:i<ms.length:=(List.getElem?_eq_some_iff.mp hi).1
     refine⟨_,rfl,⟨_,_,rfl,hC⟩,_,rfl,_,rfl,ZNB rfl,ZNB rfl,fun p2 hp2=>?_⟩
     have hne:p≠p2:=cne hC hp2
     refine⟨_,_,_,_,rfl,rfl,by rw[Zw hne];exact hC,Zn,small63 ?_,hN _ _ ⟨_,rfl,?_,?_⟩⟩
     ·have:((ms.take i).flatMap fun i=>[Pc.word " ",.part D (.at_ i)]).length≤2*2:=by
       match ms,hl with
       | [],_=>simp
       | [a],_=>cases i<;>simp
       | [a,b],_=>match i with | 0=>simp | 1=>simp | k+2=>simp
      simp only[List.length_map,List.length_cons,List.length_nil]
      omega
     ·exact(hE.trans (Ex.new hp2)).up hp
     ·rw[Zn,YD,hi,List.flatMap_append,←List.cons_append,XL]
      rfl
   ·rintro τ C' ⟨x3,rfl,hE,hC⟩
    rw[XI,List.take_length] at hC
    refine⟨_,rfl,ZNB rfl,fun p2 hp2=>?_⟩
    have hne:p≠p2:=cne hC hp2
    refine⟨_,_,by rw[Zw hne];exact hC,Zn,small63 ?_,fun p3 hp3=>?_⟩
    ·have:(ms.flatMap fun i=>[Pc.word " ",.part D (.at_ i)]).length≤2*2:=by
      match ms,hl with
      | [],_=>simp
      | [a],_=>simp
      | [a,b],_=>simp
     simp only[List.length_map,List.length_cons,List.length_nil]
     omega
    ·obtain⟨n32,hp3'⟩:=fr1 hp3
     refine q p3 _ (hE.free hp3') ((hE.trans (Ex.new hp2)).trans (Ex.new hp3)) ?_
     rw[Zn,XL]
     rfl
theorem Zmj (di:Di A)(R:Rn A C s)(hv:isV s.h=true)(ho:HOk s.L.length d s.h)(hS:s.S.length≤90000)(q:∀C',Fr A C C'→Rn A C' (tvS s)→Q .non C'):wpc pr (n+2) Zft [.ref (A 0)] C Q χ:=by
 refine Zfl rfl ?_
 refine⟨_,rfl,_,_,_,_,rfl,R.r,.head _,Zjy,⟨_,_,rfl,R.ps⟩,_,rfl,_,_,_,_,rfl,R.r,.head _,Zdf,?_⟩
 refine⟨_,rfl,_,_,_,_,rfl,R.r,.head _,Zto,?_⟩
 dsimp only[Jl,eC,Zf]
 refine Zu5 (n:=n) hv ho fun p C1 hp hE hp1=>?_
 have R1:=R.ex hE
 have hl6:=(Zv1 (D:=s.w-1) ho).2
 refine⟨_,_,rfl,hp1,fun p2 hp2=>?_⟩
 have R2:=R1.ex (Ex.new (o:=.lst ((pcs s.h (s.w-1)).map pcT).reverse) hp2)
 refine⟨_,_,_,_,rfl,rfl,R2.ps,Zn,small63 (by rw[XI,List.length_reverse,XI];omega),?_⟩
 have e:s.S.map pcT++((pcs s.h (s.w-1)).map pcT).reverse=(s.S++(pcs s.h (s.w-1)).reverse).map pcT:=by rw[XL,List.map_reverse]
 rw[e]
 have R3:=R2.s2 di (s.S++(pcs s.h (s.w-1)).reverse)
 refine gs (χ:=χ) (Zch (h:=.no)) R3 ?_
 exact q _ (((Ex.fr (hE.trans (Ex.new hp2))).up 2).up 0) (R3.s0 di _)
theorem isSS:Zcy "str" "str"=true:=by decide+kernel
theorem isTS:Zcy "tuple" "str"=false:=by decide+kernel
theorem trS {c:Hw}:tru (.bl (Zcy "str" "str")) c true:=by rw[isSS];rfl
theorem trT {c:Hw}:tru (.bl (Zcy "tuple" "str")) c false:=by rw[isTS];rfl
theorem Ziy {a p:Addr}{c:Hw}{Q:WK}{xs:List T}{b:Bool}(hb:xs.isEmpty=b)(h1:c a=some (.lst xs))(h2:c p=some (.lst []))(q:Q (.bl b) c):wEqG false (.ref a) (.ref p) c Q:=by
 refine⟨_,_,h1,h2,fun h=>?_,?_⟩
 ·have:xs=[]:=List.length_eq_zero_iff.mp h
  subst this
  exact⟨by unfold flats;rfl,by unfold flats;rfl⟩
 ·have e:eqTs xs []=b:=by
   subst hb
   cases xs with
   | nil=>unfold eqTs;rfl
   | cons a r=>unfold eqTs;rfl
  rw[e];exact q
theorem Zz0 {xs:List Str}(h:∀x∈xs,x.length≤100):(xs.map (·.length)).sum≤100*xs.length:=by
 induction xs with
 | nil=>simp
 | cons a r ih=>
  have h1:=h a (by simp)
  have h2:=ih fun x hx=>h x (by simp[hx])
  rw[YI,List.sum_cons,YF]
  omega
theorem Zok (di:Di A)(R:Rn A C s)(hU:∀x∈s.U,x.length≤100)(hl:s.U.length≤9000)(q:∀C',Fr A C C'→Rn A C' (tnS s)→Q .non C'):wpc pr (n+1) Zgk [.ref (A 0)] C Q χ:=by
 refine Zgb rfl ?_
 refine⟨_,rfl,_,_,_,_,rfl,R.r,.head _,Zjy,XO _,fun p hp=>?_⟩
 have R1:=R.ex (Ex.new (o:=.lst []) hp)
 have F1:Fr A C (up C p (.lst [])):=Ex.fr (Ex.new hp)
 cases hs:s.S.getLast? with
 | none=>
  have e0:=Zfe hs
  have et:tnS s={s with e:=.told (Txt.join "" s.U)}:=by unfold tnS;rw[hs]
  rw[et] at q
  refine Ziy (b:=true) (by rw[e0];rfl) R1.ps Zn ⟨true,rfl,Jj ?_⟩
  have hj:=Zz0 hU
  refine⟨⟨_,rfl⟩,_,rfl,_,_,_,_,rfl,R1.r,.head _,Zm8,_,_,s.U,rfl,rfl,R1.pt,XO _,by omega,ZNB rfl,?_⟩
  refine gs (χ:=χ) (Zhz (e:=.told (Txt.join "" s.U))) R1 ?_
  exact q _ (F1.up 0) (R1.s0 di _)
 | some y=>
  have sp:=Za4 hs
  generalize s.S.dropLast=S' at sp
  have eS:s.S.map pcT=S'.map pcT++[pcT y]:=by rw[sp,XL];rfl
  have hne:(s.S.map pcT).isEmpty=false:=by rw[eS];simp
  refine Ziy hne R1.ps Zn ⟨false,rfl,Ye ?_⟩
  have hps:=R1.ps
  rw[eS] at hps
  refine⟨_,rfl,_,_,_,_,rfl,R1.r,.head _,Zjy,⟨_,_,rfl,hps⟩,_,_,_,rfl,rfl,hps,(by simp:(S'.map pcT++[pcT y])[(S'.map pcT++[pcT y]).length-1]?=some (pcT y)),?_⟩
  have ed:(S'.map pcT++[pcT y]).dropLast=S'.map pcT:=by simp
  rw[ed]
  have R2:=R1.s2 di S'
  have F2:=F1.up 2 (o:=.lst (S'.map pcT))
  have edl:s.S.dropLast=S':=by rw[sp];simp
  cases y with
  | word x=>
   have et:tnS s={s with S:=S',U:=s.U++[x]}:=by unfold tnS;rw[hs];simp only;rw[edl]
   rw[et] at q
   refine⟨_,rfl,_,rfl,true,trS,Jj ?_⟩
   refine⟨_,rfl,_,_,_,_,rfl,R2.r,.head _,Zm8,⟨_,_,rfl,R2.pt⟩,_,rfl,_,_,_,rfl,rfl,R2.pt,small63' (by rw[XI];show s.U.length≤_;omega),?_⟩
   have e:s.U.map T.str++[.str x]=(s.U++[x]).map T.str:=by rw[XL];rfl
   have:=q _ (F2.up 3) (R2.s3 di (s.U++[x]))
   rw[←e] at this
   exact this
  | part D t=>
   refine⟨_,rfl,_,rfl,false,trT,Ye ?_⟩
   refine⟨_,rfl,_,Yb,decide (D≤0),rfl,?_⟩
   by_cases c:D≤0
   ·have et:tnS s={s with S:=S',U:=s.U++[("?":Str)]}:=by unfold tnS;rw[hs];simp only;rw[if_pos c,edl]
    rw[et] at q
    refine Zf6 (decide_eq_true c) ?_
    refine⟨_,rfl,_,_,_,_,rfl,R2.r,.head _,Zm8,⟨_,_,rfl,R2.pt⟩,_,_,_,rfl,rfl,R2.pt,small63' (by rw[XI];show s.U.length≤_;omega),?_⟩
    have e:s.U.map T.str++[.str "?"]=(s.U++[("?":Str)]).map T.str:=by rw[XL];rfl
    have:=q _ (F2.up 3) (R2.s3 di (s.U++[("?":Str)]))
    rw[←e] at this
    exact this
   ·have et:tnS s={s with S:=S',w:=D,h:=.tm t}:=by unfold tnS;rw[hs];simp only;rw[if_neg c,edl]
    rw[et] at q
    refine Zee (YG c) ?_
    refine⟨_,rfl,_,Yb,?_⟩
    refine gs (χ:=χ) (Zs6 (x:=D)) R2 ?_
    have R3:=R2.s0 di {s with S:=S',w:=D}
    refine⟨_,rfl,_,Yu,?_⟩
    refine gs (χ:=χ) (Zch (h:=.tm t)) R3 ?_
    exact q _ ((F2.up 0).up 0) (R3.s0 di _)
theorem en_t {τ:Sw}{K:Bool→Hw→Prop}{χ:WX}(R:Rn A C s)(q:K (enB s.e) C):tBl (Zh wIsN (J6 ["Runner"] "ending" (Zd 0)) (eC (.non))) (some (.ref (A 0))::τ) C K χ:=by
 refine⟨_,rfl,_,_,_,_,rfl,R.r,.head _,Zfd,rfl,_,rfl,?_⟩
 have e:(match eT s.e with | .non=>true | _=>false)=enB s.e:=by cases s.e<;>rfl
 rw[←e] at q
 exact q
theorem hn_t {τ:Sw}{K:Bool→Hw→Prop}{χ:WX}(R:Rn A C s)(q:K (noB s.h) C):tBl (Zh wIsN (J6 ["Runner"] "hand" (Zd 0)) (eC (.non))) (some (.ref (A 0))::τ) C K χ:=by
 refine⟨_,rfl,_,_,_,_,rfl,R.r,.head _,Zdf,rfl,_,rfl,?_⟩
 have e:(match hT s.h with | .non=>true | _=>false)=noB s.h:=by
  cases s.h with
  | no=>rfl
  | made c ms=>rfl
  | tm t=>cases t<;>rfl
 rw[←e] at q
 exact q
theorem st_w {h:Hd}{w:Str}{r:List T}(e:hT h=.tup (.str w::r)):(w=="stop")=(isSt h).isSome:=by
 cases h with
 | no=>cases e
 | made c ms=>unfold hT at e;injection e with e;injection e with e _;injection e with e;subst e;show _=false;decide+kernel
 | tm t=>cases t<;>(unfold hT tt at e;injection e with e;injection e with e _;injection e with e;subst e;first | (show _=false;decide+kernel) | (show _=true;decide+kernel))
theorem bk_w {f:Fm}:∃w r,fmT f=.tup (.str w::r)∧(w=="back")=(isBk f).isSome:=by
 cases f<;>exact⟨_,_,rfl,by first | (show _=false;decide+kernel) | (show _=true;decide+kernel)⟩
theorem Zt7 {m:Str}{i:Nat}{P:Calls}{τ:Sw}{D:We}(R:Rn A C s)(hm:(Fs A s).lookup m=none)(q:P i [.ref (A 0)] C (fun _ C1=>D.nx (some (.ref (A 0))::τ) C1) D.xc):Yt (eMth P [("Runner",i)] m (Zd 0) Zf) D (some (.ref (A 0))::τ) C:=
 ⟨_,rfl,_,_,_,_,rfl,R.r,tb1,hm,q⟩
theorem Z25 (he:enB s.e=true)(hno:noB s.h=true):one s=some (tnS s):=by unfold one;rw[XY he,XY hno]
theorem Z22 {x:Str}(he:enB s.e=true)(hno:noB s.h=false)(hst:isSt s.h=some x):one s=some {s with e:=.stop x}:=by
 unfold one;rw[XY he,XX (by rw[hno];decide),hst]
theorem Z24 (he:enB s.e=true)(hno:noB s.h=false)(hst:isSt s.h=none)(hv:isV s.h=false):one s=none:=by
 unfold one;rw[XY he,XX (by rw[hno];decide),hst];exact XX (by rw[hv];decide)
theorem one_v (he:enB s.e=true)(hno:noB s.h=false)(hst:isSt s.h=none)(hv:isV s.h=true):one s=(match s.P.getLast? with | none=>some (tvS s) | some f=>match isBk f with | some i=>some (bkS s i) | none=>if fitF s.h f=true then none else some {s with e:=.stuck}):=by
 unfold one;rw[XY he,XX (by rw[hno];decide),hst];exact XY hv
theorem Z21 (h1:one s=(match s.P.getLast? with | none=>some (tvS s) | some f=>match isBk f with | some i=>some (bkS s i) | none=>if fitF s.h f=true then none else some {s with e:=.stuck}))(hl:s.P.getLast?=none):one s=some (tvS s):=by rw[h1,hl]
theorem Z27 {f:Fm}{i:Nat}(h1:one s=(match s.P.getLast? with | none=>some (tvS s) | some f=>match isBk f with | some i=>some (bkS s i) | none=>if fitF s.h f=true then none else some {s with e:=.stuck}))(hl:s.P.getLast?=some f)(hb:isBk f=some i):one s=some (bkS s i):=by
 rw[h1,hl];show(match isBk f with | some i=>_ | none=>_)=_;rw[hb]
theorem Z26 {f:Fm}(h1:one s=(match s.P.getLast? with | none=>some (tvS s) | some f=>match isBk f with | some i=>some (bkS s i) | none=>if fitF s.h f=true then none else some {s with e:=.stuck}))(hl:s.P.getLast?=some f)(hb:isBk f=none)(hf:fitF s.h f=true):one s=none:=by
 rw[h1,hl];show(match isBk f with | some i=>_ | none=>_)=_;rw[hb];exact XY hf
theorem Z23 {f:Fm}(h1:one s=(match s.P.getLast? with | none=>some (tvS s) | some f=>match isBk f with | some i=>some (bkS s i) | none=>if fitF s.h f=true then none else some {s with e:=.stuck}))(hl:s.P.getLast?=some f)(hb:isBk f=none)(hf:fitF s.h f=false):one s=some {s with e:=.stuck}:=by
 rw[h1,hl];show(match isBk f with | some i=>_ | none=>_)=_;rw[hb];exact XX (by rw[hf];decide)
theorem Zom (di:Di A)(R:Rn A C s)(o:Ok d s)(q:∀C',Fr A C C'→Rn A C' (settled s)→Q .non C'):wpc pr (n+4) Zir [.ref (A 0)] C Q χ:=by
 refine Zio rfl ?_
 unfold settled at q
 generalize hX:stl (mu s) s=X at q
 refine Zlb (fun m τ C'=>τ=[some (.ref (A 0))]∧∃s',Rn A C' s'∧Ok d s'∧Fr A C C'∧mu s'≤m∧stl m s'=X) (m:=mu s) ⟨rfl,s,R,o,Fr.refl _ _,XE _,hX⟩ ?_
 rintro m τ C' N ⟨rfl,s',R',o',hF,hm,hx⟩ hN
 have nxt:∀s2 C2,one s'=some s2→Rn A C2 s2→Fr A C' C2→N [some (.ref (A 0))] C2:=fun s2 C2 h1 R2 F2=>by
  obtain⟨o2,l2,_⟩:=Zjk o' h1
  obtain⟨m1,rfl⟩:∃m1,m=m1+1:=⟨m-1,by omega⟩
  refine hN m1 _ _ (by omega) ⟨rfl,s2,R2,o2,hF.trans F2,by omega,?_⟩
  unfold stl at hx
  rw[h1] at hx
  exact hx
 have fin:∀C2,one s'=none→Ex C' C2→Q .non C2:=fun C2 h1 E2=>by
  have e:stl m s'=s':=by cases m with | zero=>rfl | succ m1=>unfold stl;rw[h1]
  rw[e] at hx
  subst hx
  exact q C2 (hF.ex E2) (R'.ex E2)
 have b1:=o'.nU
 have b2:=o'.k0
 have b3:=o'.nG
 have hS9:s'.S.length≤90000:=by split at b1<;>omega
 have hU9:s'.U.length≤9000:=by split at b1<;>omega
 have hG9:s'.G.length≤90000:=by omega
 refine en_t R' ?_
 cases he:enB s'.e with
 | false=>
  refine Ye (fin C' ?_ (Ex.refl _))
  unfold one;rw[XX (by rw[he];decide)]
 | true=>
  refine Jj (hn_t R' ?_)
  cases hno:noB s'.h with
  | true=>
   refine Jj (Zt7 R' Zo5 ?_)
   exact Zok (n:=n+2) di R' o'.U hU9 fun C2 F2 R2=>nxt _ C2 (Z25 he hno) R2 F2
  | false=>
   refine Ye ?_
   have hnh:s'.h≠.no:=fun e=>by rw[e] at hno;cases hno
   obtain⟨w,r,ew⟩:=Zq8 hnh
   have lk':(Fs A s').lookup ("hand":Str)=some (.tup (.str w::r)):=by rw[←ew];rfl
   refine⟨_,rfl,_,_,_,_,rfl,R'.r,.head _,lk',_,Yb,J5 (st_w ew) ⟨_,rfl,?_⟩⟩
   cases hst:isSt s'.h with
   | some x=>
    refine Jj ?_
    have eh:s'.h=.tm (.stop x):=by
     revert hst
     cases s'.h with
     | no=>intro z;cases z
     | made c ms=>intro z;cases z
     | tm t=>cases t<;>intro z<;>first | (cases z;rfl) | cases z
    have lk2:(Fs A s').lookup ("hand":Str)=some (.tup [.str "stop",.str x]):=by rw[Zdf,eh];rfl
    refine⟨_,rfl,_,_,_,_,rfl,R'.r,.head _,lk2,_,Yu,ZNB rfl,?_⟩
    refine gs (χ:=χ) (Zhz (e:=.stop x)) R' ?_
    exact nxt _ _ (Z22 he hno hst) (R'.s0 di _) ((Fr.refl _ _).up 0)
   | none=>
    refine Ye ?_
    refine⟨_,rfl,_,_,_,_,rfl,R'.r,.head _,Zdf,?_⟩
    dsimp only[Zf]
    refine Zjc (n:=n+2) hnh ⟨_,rfl,?_⟩
    cases hv:isV s'.h with
    | false=>
     exact Jj (fin C' (Z24 he hno hst hv) (Ex.refl _))
    | true=>
     refine Ye ?_
     refine⟨_,rfl,_,_,_,_,rfl,R'.r,.head _,Zhd,XO _,fun p hp=>?_⟩
     have E1:Ex C' (up C' p (.lst [])):=Ex.new hp
     have R1:=R'.ex E1
     have one1:=one_v he hno hst hv
     cases hl:s'.P.getLast? with
     | none=>
      have e0:=Zfe hl
      refine Ziy (b:=true) (by rw[e0];rfl) R1.pp Zn ⟨true,rfl,Jj ?_⟩
      refine Zt7 R1 Zm3 ?_
      exact Zmj (n:=n+1) di R1 hv o'.h hS9 fun C2 F2 R2=>nxt _ C2 (Z21 one1 hl) R2 ((Ex.fr E1).trans F2)
     | some f=>
      have sp:=Za4 hl
      generalize hP':s'.P.dropLast=P' at sp
      have eP:s'.P.map fmT=P'.map fmT++[fmT f]:=by rw[sp,XL];rfl
      refine Ziy (b:=false) (by rw[eP];simp) R1.pp Zn ⟨false,rfl,Ye ?_⟩
      have hpp:=R1.pp
      rw[eP] at hpp
      have atL:atI (P'.map fmT++[fmT f]) (-1)=some (fmT f):=atZ
      obtain⟨wf,rf,ef,hbk⟩:=bk_w (f:=f)
      refine⟨_,rfl,_,_,_,_,rfl,R1.r,.head _,Zhd,_,_,hpp,atL,?_⟩
      rw[ef]
      refine⟨_,Yb,J5 hbk ⟨_,rfl,?_⟩⟩
      cases hb:isBk f with
      | some i=>
       refine Jj ?_
       have eb:f=.back i:=by
        revert hb
        cases f<;>intro z<;>first | (cases z;rfl) | cases z
       subst eb
       have hfo:=o'.P _ (Zcx hl)
       have hil:i<s'.L.length:=hfo
       have hj:s'.L[i]?=some (lbl s' i):=by unfold lbl;simp[hil]
       refine⟨_,rfl,_,_,_,_,rfl,R1.r,tb1,Zpa,_,rfl,_,_,_,_,rfl,R1.r,tb1,Zhb,?_⟩
       dsimp only[Zf]
       refine Zg3 (n:=n+2) (P:=P') (f:=.back i) di R1 sp fun C2 F2 R2=>⟨_,Yu,?_⟩
       refine Zon (n:=n+1) (j:=i) (l:=lbl s' i) di R2 hj (by show s'.G.length≤_;omega) fun C3 F3 R3=>?_
       refine nxt (bkS s' i) C3 (Z27 one1 hl rfl) ?_ ((Ex.fr E1).trans (F2.trans F3))
       unfold bkS
       rw[hP']
       exact R3
      | none=>
       refine Ye ?_
       refine⟨_,rfl,_,_,_,_,rfl,R1.r,.head _,Zdf,_,rfl,_,_,_,_,rfl,R1.r,.head _,Zhd,_,_,hpp,atL,?_⟩
       dsimp only[Zf]
       refine Z1x (n:=n+1) hnh ⟨_,rfl,?_⟩
       cases hft:fitF s'.h f with
       | true=>
        exact Jj (fin _ (Z26 one1 hl hb hft) E1)
       | false=>
        refine Ye ?_
        refine⟨ZNB rfl,?_⟩
        refine gs (χ:=χ) (Zhz (e:=.stuck)) R1 ?_
        exact nxt _ _ (Z23 one1 hl hb hft) (R1.s0 di _) ((Ex.fr E1).up 0)
end
open PySem PySem.Spec PyProof.Rows L2 WL
section
variable {A:Ad}{C:Hw}{s:St}{Q:WK}{χ:WX}{n d:Nat}
theorem uv_y {a:Str}{r:List T}{X Y:WS}{D:We}{τ:Sw}(h2:τ[2]?=some (some (.tup (.str a::r))))(q:X D τ C):sIf (tBl (Zh wEq (Zh Zu (Zd 2) (eC (.int 0))) (eC (.str a)))) X Y D τ C:=⟨_,h2,_,Yb,J5 (v:=true) (XU _) ⟨true,rfl,Jj q⟩⟩
theorem uv_n {a z:Str}{r:List T}{X Y:WS}{D:We}{τ:Sw}(h2:τ[2]?=some (some (.tup (.str z::r))))(hn:(z==a)=false)(q:Y D τ C):sIf (tBl (Zh wEq (Zh Zu (Zd 2) (eC (.int 0))) (eC (.str a)))) X Y D τ C:=⟨_,h2,_,Yb,J5 (v:=false) hn ⟨false,rfl,Ye q⟩⟩
theorem ta_y {a:Str}{X Y:WS}{D:We}{τ:Sw}(h2:τ[2]?=some (some (.str a)))(q:X D τ C):sIf (tBl (Zh wEq (Zd 2) (eC (.str a)))) X Y D τ C:=⟨_,h2,J5 (v:=true) (XU _) ⟨true,rfl,Jj q⟩⟩
theorem ta_n {a z:Str}{X Y:WS}{D:We}{τ:Sw}(h2:τ[2]?=some (some (.str z)))(hn:(z==a)=false)(q:Y D τ C):sIf (tBl (Zh wEq (Zd 2) (eC (.str a)))) X Y D τ C:=⟨_,h2,J5 (v:=false) hn ⟨false,rfl,Ye q⟩⟩
theorem Zoj {f:Fm}(di:Di A)(R:Rn A C s)(p:Pre d s)(hf:FOk s.L.length d f)(hb:isBk f=none)(hft:fitF s.h f=true)(q:∀C',Fr A C C'→Rn A C' (usS s s.h f)→Q .non C'):wpc pr (n+d+8) Zgj [.ref (A 0),hT s.h,fmT f] C Q χ:=by
 refine Zga rfl ?_
 have hh:=p.h
 have b1:=p.k0
 have b2:=p.nL
 have b3:=p.nG
 have hL9:s.L.length≤90000:=by omega
 have hG9:s.G.length≤90000:=by omega
 have hP9:s.P.length≤90000:=by omega
 cases f with
 | give t=>
  obtain⟨x,b,hs⟩:=Znb hft
  rw[hs] at hh q ⊢
  ·skip
   refine uv_y rfl ?_
   refine⟨_,rfl,_,_,_,_,rfl,R.r,tb1,Zjv,_,rfl,_,Yu,_,rfl,_,Yu,?_⟩
   dsimp only[Zf]
   refine Zjb (n:=n+d+4) (l:=x) (t:=t) di R p.D (by omega) (by omega) fun C1 F1 R1=>?_
   refine⟨_,rfl,_,Zaj,fun a ha=>⟨_,rfl,_,Yu,_,rfl,_,rfl,Zn,?_⟩⟩
   dsimp only[Zf]
   have E2:∀o,Ex C1 (up (up C1 a (.dic [])) a o):=fun o=>(Ex.new ha).up ha
   have hpu:=Zmo (M:=[(x,mkN s t)]) (Zcd hh.2.2)
   refine PT.put (n:=n) (f:=d+2) (M:=mT [(x,mkN s t)]) (t':=tt (pu (mo [(x,mkN s t)]) b)) (hpu.mono (Nat.le_succ _)).1 hpu.2.2 (.inl Zn) fun C3 E3=>?_
   have R3:=(R1.ex (E2 _)).ex E3
   refine gs (χ:=χ) (Zch (h:=.tm (pu (mo [(x,mkN s t)]) b))) R3 ?_
   exact q _ (((F1.ex (E2 _)).ex E3).up 0) (R3.s0 di _)
 | pick al=>
  obtain⟨c,ms,a,hs,ha⟩:=Zna hft
  rw[hs] at hh q ⊢
  ··skip
    obtain⟨m1,m2⟩:=Zsp ha
    obtain⟨o1,o2,o3⟩:=hf a m1
    have hl:a.2.1.length=ms.length:=by rw[o1,m2,hh.2.1]
    have eu:usS s (.made c ms) (.pick al)={s with h:=.tm (pu (mo (a.2.1.zip ms)) a.2.2)}:=by
     show(match altF c al with | some a=>{s with h:=.tm (pu (mo (a.2.1.zip ms)) a.2.2)} | none=>s)=_
     rw[ha]
    rw[eu] at q
    refine uv_n rfl (by decide+kernel) (uv_y rfl ?_)
    refine⟨_,rfl,_,rfl,_,Yu,?_⟩
    dsimp only[Zf]
    have hpu:=Zmo (M:=a.2.1.zip ms) o3
    refine Zu6 (n:=n) (f:=d+1) (B':=tt (pu (mo (a.2.1.zip ms)) a.2.2)) ha hl (by have:=Zp1 a.1;omega) o2 hpu.1 hpu.2.2 fun C3 E3=>?_
    have R3:=R.ex E3
    refine gs (χ:=χ) (Zch (h:=.tm (pu (mo (a.2.1.zip ms)) a.2.2))) R3 ?_
    exact q _ ((Ex.fr E3).up 0) (R3.s0 di _)
 | left o t=>
  obtain⟨v,hs⟩:=Zff hft
  rw[hs] at hh q ⊢
  ·skip
   refine uv_n rfl (by decide+kernel) (uv_n rfl (by decide+kernel) (uv_y rfl ?_))
   refine⟨_,rfl,_,_,_,_,rfl,R.r,tb1,Zcm,_,rfl,_,Zaj,_,rfl,_,Yu,_,rfl,_,Yu,ZNB rfl,?_⟩
   dsimp only[Zf]
   exact Zcl (n:=n+d+6) (h:=.tm t) (f:=.right o v) di R (by omega) q
 | right o x=>
  obtain⟨v,hs⟩:=Zff hft
  rw[hs] at hh q ⊢
  ·skip
   refine uv_n rfl (by decide+kernel) (uv_n rfl (by decide+kernel) (uv_n rfl (by decide+kernel) (uv_y rfl ?_)))
   refine⟨_,rfl,_,Yu,_,rfl,_,Zaj,_,rfl,_,Yu,?_⟩
   dsimp only[Zf]
   refine Zqe (n:=n+d+5) hf.1 hf.2 ?_
   refine gs (χ:=χ) (Zch (h:=Zjf o x v)) R ?_
   exact q _ ((Fr.refl _ _).up 0) (R.s0 di _)
 | first t=>
  refine uv_n rfl (by decide+kernel) (uv_n rfl (by decide+kernel) (uv_n rfl (by decide+kernel) (uv_n rfl (by decide+kernel) ?_)))
  refine⟨_,rfl,_,Yu,?_⟩
  refine gs (χ:=χ) (Zch (h:=.tm t)) R ?_
  exact q _ ((Fr.refl _ _).up 0) (R.s0 di _)
 | back i=>cases hb
theorem Zmk {t:Tm}(di:Di A)(R:Rn A C s)(p:Pre d s)(h:ok s.L.length d [] t)(hv:isVt t=false)(hs:isSt (.tm t)=none)(q:∀C',Fr A C C'→Rn A C' (apS s t)→Q .non C'):wpc pr (n+d+8) Zfv [.ref (A 0),tt t] C Q χ:=by
 refine Zfn rfl ?_
 have b1:=p.k0
 have b2:=p.nL
 have b3:=p.nG
 have hL9:s.L.length≤90000:=by omega
 have hG9:s.G.length≤90000:=by omega
 have hP9:s.P.length≤90000:=by omega
 cases t with
 | nm x=>cases h
 | num v=>cases hv
 | stop x=>cases hs
 | fn x b=>cases hv
 | call a b=>
  refine⟨_,rfl,_,Yb,ta_y rfl ?_⟩
  refine⟨_,rfl,_,_,_,_,rfl,R.r,tb1,Zcm,_,rfl,_,Yu,_,rfl,_,Zaj,ZNB rfl,?_⟩
  dsimp only[Zf]
  exact Zcl (n:=n+d+6) (h:=.tm a) (f:=.give b) di R (by omega) q
 | does o a b=>
  refine⟨_,rfl,_,Yb,ta_n rfl (by decide+kernel) (ta_y rfl ?_)⟩
  refine⟨_,rfl,_,_,_,_,rfl,R.r,tb1,Zcm,_,rfl,_,Zaj,_,rfl,_,Yu,_,rfl,_,Zl0,ZNB rfl,?_⟩
  dsimp only[Zf]
  exact Zcl (n:=n+d+6) (h:=.tm a) (f:=.left o b) di R (by omega) q
 | ch e m cs ns bs=>
  refine⟨_,rfl,_,Yb,ta_n rfl (by decide+kernel) (ta_n rfl (by decide+kernel) (ta_y rfl ?_))⟩
  refine⟨_,rfl,_,_,_,_,rfl,R.r,tb1,Zcm,_,rfl,_,Yu,_,rfl,_,Zaj,ZNB rfl,?_⟩
  dsimp only[Zf]
  have ef:fmT (.pick ((List.finRange m).map fun i=>(cs i,ns i,bs i)))=.tup [.str "pick",.tup ((List.finRange m).map fun i=>.tup [.str (cs i),.tup ((ns i).map T.str),tt (bs i)])]:=by
   show T.tup [.str "pick",.tup (List.map alT (List.map (fun i=>(cs i,ns i,bs i)) (List.finRange m)))]=_
   rw[YE];rfl
  have:=Zcl (Q:=fun _ C1=>Q .non C1) (χ:=χ) (n:=n+d+6) (h:=.tm e) (f:=.pick ((List.finRange m).map fun i=>(cs i,ns i,bs i))) di R (by omega) q
  rw[ef] at this
  exact this
 | first a b=>
  refine⟨_,rfl,_,Yb,ta_n rfl (by decide+kernel) (ta_n rfl (by decide+kernel) (ta_n rfl (by decide+kernel) (ta_y rfl ?_)))⟩
  refine⟨_,rfl,_,_,_,_,rfl,R.r,.head _,Zll,?_⟩
  refine gs (χ:=χ) (Zs7 (x:=s.f+1)) R ?_
  have R1:=R.s0 di {s with f:=s.f+1}
  refine⟨_,rfl,_,_,_,_,rfl,R1.r,tb1,Zcm,_,rfl,_,Yu,_,rfl,_,Zaj,ZNB rfl,?_⟩
  dsimp only[Zf]
  exact Zcl (n:=n+d+6) (h:=.tm a) (f:=.first b) di R1 (by show s.P.length≤_;omega) fun C' F R'=>q C' (((Fr.refl _ _).up 0).trans F) R'
 | lt m xs ts b=>
  refine⟨_,rfl,_,Yb,ta_n rfl (by decide+kernel) (ta_n rfl (by decide+kernel) (ta_n rfl (by decide+kernel) (ta_n rfl (by decide+kernel) (ta_y rfl ?_))))⟩
  refine⟨_,rfl,_,_,_,_,rfl,R.r,tb1,Z3j,_,rfl,_,Yu,_,rfl,_,Zaj,?_⟩
  dsimp only[Zf]
  obtain⟨h1,⟨h2,h3,h4,h5⟩,h6,h7⟩:=h
  refine Z10 (n:=n) (f:=d+1) (Z:=List.finRange m) (x:=xs) (o:=ts) (g:=fun i=>pu (mo (mkM s (nms xs))) (ts i)) (B:=b) (B':=pu (mo (mkM s (nms xs))) b) di R (by rw[List.length_finRange];exact h3) h4 p.D hL9 hG9 (fun i _=>?_) ?_ q
  ·exact Zmo (Zcd (h6 i))
  ·exact Zmo (Zcd h7)
 | shp0 c=>
  refine⟨_,rfl,_,Yb,ta_n rfl (by decide+kernel) (ta_n rfl (by decide+kernel) (ta_n rfl (by decide+kernel) (ta_n rfl (by decide+kernel) (ta_n rfl (by decide+kernel) (ta_y rfl ?_)))))⟩
  refine⟨_,rfl,_,_,_,_,rfl,R.r,tb1,Zwe,_,rfl,_,Yu,_,rfl,_,Zaj,?_⟩
  dsimp only[Zf]
  exact Zu7 (n:=n+d+3) (c:=c) (ts:=[]) di R h.1.2 (by simp) p.D hL9 hG9 q
 | shp2 c a b=>
  refine⟨_,rfl,_,Yb,ta_n rfl (by decide+kernel) (ta_n rfl (by decide+kernel) (ta_n rfl (by decide+kernel) (ta_n rfl (by decide+kernel) (ta_n rfl (by decide+kernel) (ta_y rfl ?_)))))⟩
  refine⟨_,rfl,_,_,_,_,rfl,R.r,tb1,Zwe,_,rfl,_,Yu,_,rfl,_,Zaj,?_⟩
  dsimp only[Zf]
  exact Zu7 (n:=n+d+3) (c:=c) (ts:=[a,b]) di R h.2.1.1.2 (by simp) p.D hL9 hG9 q
 | at_ i=>
  refine⟨_,rfl,_,Yb,ta_n rfl (by decide+kernel) (ta_n rfl (by decide+kernel) (ta_n rfl (by decide+kernel) (ta_n rfl (by decide+kernel) (ta_n rfl (by decide+kernel) (ta_n rfl (by decide+kernel) ?_)))))⟩
  refine⟨_,rfl,_,_,_,_,rfl,R.r,tb1,Zzt,_,rfl,_,Yu,?_⟩
  dsimp only[Zf]
  have hi:i<s.L.length:=h
  have hd:i<s.D.length:=by rw[p.D];exact h
  exact Zyj (n:=n+d+5) (j:=i) (l:=lbl s i) (t:=(s.D[i]?).getD (.nm "")) di R (by unfold lbl;simp[hi]) (by simp[hd]) (by omega) (by omega) q
theorem Zol (di:Di A)(R:Rn A C s)(p:Pre d s)(hno:noB s.h=false)(hst:isSt s.h=none)(hd:isV s.h=true→∃f,s.P.getLast?=some f∧isBk f=none∧fitF s.h f=true)(q:∀C',Fr A C C'→Rn A C' (stp s)→Q .non C'):wpc pr (n+d+9) Zgl [.ref (A 0)] C Q χ:=by
 refine Zgc rfl ?_
 have hnh:s.h≠.no:=fun e=>by rw[e] at hno;cases hno
 refine⟨_,rfl,_,_,_,_,rfl,R.r,.head _,Zdf,?_⟩
 dsimp only[Zf]
 refine Zjc (n:=n+d+7) hnh ⟨_,rfl,?_⟩
 cases hv:isV s.h with
 | true=>
  refine Jj ?_
  obtain⟨f,f1,f2,f3⟩:=hd hv
  rw[Zut hv f1] at q
  refine⟨_,rfl,_,_,_,_,rfl,R.r,tb1,Zo4,_,rfl,_,_,_,_,rfl,R.r,.head _,Zdf,_,rfl,_,_,_,_,rfl,R.r,tb1,Zhb,?_⟩
  dsimp only[Zf]
  refine Zg3 (n:=n+d+7) (P:=s.P.dropLast) (f:=f) di R (Za4 f1) fun C1 F1 R1=>?_
  exact Zoj (n:=n) (s:={s with P:=s.P.dropLast}) di R1 (p.pop f1) (p.P f (Zcx f1)) f2 f3 fun C' F R'=>q C' (F1.trans F) R'
 | false=>
  refine Ye ?_
  have hh:=p.h
  obtain⟨t,hs,hvt⟩:∃t,s.h=.tm t∧isVt t=false:=by
   revert hno hv
   cases s.h with
   | no=>intro d1;cases d1
   | made c ms=>intro _ hv;cases hv
   | tm t=>intro _ hv;exact⟨t,rfl,hv⟩
  have lk':(Fs A s).lookup ("hand":Str)=some (tt t):=by rw[Zdf,hs];rfl
  refine⟨_,rfl,_,_,_,_,rfl,R.r,tb1,Zm4,_,rfl,_,_,_,_,rfl,R.r,.head _,lk',?_⟩
  dsimp only[Zf]
  rw[Zuu hs hvt] at q
  rw[hs] at hh hst
  exact Zmk (n:=n) di R p hh hvt hst q
theorem Zsr {m:Int}{s:St}{j:Nat}(h:¬(enB s.e=true∧s.k<m)):adv m j s=s:=by
 cases j with
 | zero=>rfl
 | succ j=>unfold adv;rw[XX h]
theorem Zs5 {m:Int}(di:Di A)(R:Rn A C s)(o:Ok d s)(hm:m≤1000)(q:∀C',Fr A C C'→Rn A C' (adv m (m-s.k).toNat (settled s))→Q .non C'):wpc pr (n+d+10) Zh7 [.ref (A 0),.int m] C Q χ:=by
 refine Zhw rfl ?_
 refine⟨_,rfl,_,_,_,_,rfl,R.r,tb1,Zo7,?_⟩
 dsimp only[Zf]
 refine Zom (n:=n+d+5) di R o fun C1 F1 R1=>?_
 obtain⟨o1,n1,k1⟩:=Zge (mu s) o (XE _)
 generalize hX:adv m (m-s.k).toNat (settled s)=X at q
 refine Zlb (fun j τ C'=>τ=[some (.ref (A 0)),some (.int m)]∧∃s',Rn A C' s'∧Ok d s'∧one s'=none∧Fr A C C'∧j=(m-s'.k).toNat∧adv m j s'=X) (m:=(m-s.k).toNat) ⟨rfl,settled s,R1,o1,n1,F1,by show _=(m-(stl (mu s) s).k).toNat;rw[k1],hX⟩ ?_
 rintro j τ C' N ⟨rfl,s',R',o',n',hF,hj,hx⟩ hN
 refine en_t R' ?_
 cases he:enB s'.e with
 | false=>
  refine Ye (Ye ?_)
  rw[Zsr (fun z=>by rw[he] at z;cases z.1)] at hx
  subst hx
  exact q C' hF R'
 | true=>
  refine Jj ?_
  refine⟨_,rfl,_,_,_,_,rfl,R'.r,.head _,Zhc,_,rfl,decide (s'.k<m),rfl,?_⟩
  by_cases c:s'.k<m
  ·refine Zf6 (decide_eq_true c) ?_
   refine⟨_,rfl,_,_,_,_,rfl,R'.r,.head _,Zhc,?_⟩
   refine gs (χ:=χ) (Zvj (x:=s'.k+1)) R' ?_
   have R2:=R'.s0 di {s' with k:=s'.k+1}
   obtain⟨d1,d2,d3⟩:=due he n'
   refine⟨_,rfl,_,_,_,_,rfl,R2.r,tb1,Zo6,?_⟩
   dsimp only[Zf]
   refine Zol (n:=n) (s:={s' with k:=s'.k+1}) di R2 (o'.pre (by omega)) d1 d2 d3 fun C3 F3 R3=>?_
   have o3:=Zme o' he n' (by omega)
   refine⟨_,rfl,_,_,_,_,rfl,R3.r,tb1,Zo7,?_⟩
   dsimp only[Zf]
   refine Zom (n:=n+d+5) di R3 o3 fun C4 F4 R4=>?_
   obtain⟨o4,n4,k4⟩:=Zge (mu (stp {s' with k:=s'.k+1})) o3 (XE _)
   have k3:(stp {s' with k:=s'.k+1}).k=s'.k+1:=Zmf.1.k
   obtain⟨j1,rfl⟩:∃j1,j=j1+1:=⟨j-1,by omega⟩
   refine hN j1 _ _ (by omega) ⟨rfl,_,R4,o4,n4,((hF.trans ((Fr.refl _ _).up 0)).trans F3).trans F4,?_,?_⟩
   ·show j1=(m-(stl _ _).k).toNat
    rw[k4,k3];omega
   ·unfold adv at hx
    rw[XY ⟨he,c⟩] at hx
    exact hx
  ·refine Zee (YG c) ?_
   rw[Zsr (fun z=>c z.2)] at hx
   subst hx
   exact q C' hF R'
def ew:En→Str
 | .no=>"spent"
 | .told _=>"told"
 | .stop _=>"stop"
 | .stuck=>"stuck"
def ex:En→Str
 | .no=>""
 | .told x=>x
 | .stop x=>x
 | .stuck=>""
def outT (s:St)(p:Addr):T:=.tup [.str (ew s.e),.str (ex s.e),.tup [.int s.k,.int s.c,.int s.f],.ref p]
theorem Zs3 (R:Rn A C s)(q:∀p C',Ex C C'→C p=none→C' p=some (.lst (s.G.map evT))→Q (outT s p) C'):wpc pr (n+1) Zh5 [.ref (A 0)] C Q χ:=by
 refine Zhu rfl ?_
 have key:Zv (Zb (Zh Zu (Zd 1) (eC (.int 0))) (Zb (Zh Zu (Zd 1) (eC (.int 1))) (Zb (Zv (Zb (J6 ["Runner"] "steps" (Zd 0)) (Zb (J6 ["Runner"] "cells" (Zd 0)) (Zb (J6 ["Runner"] "firsts" (Zd 0)) Zf)))) (Zb (eBi Zsn (Zb (J6 ["Runner"] "log" (Zd 0)) Zf)) Zf)))) [some (.ref (A 0)),some (.tup [.str (ew s.e),.str (ex s.e)])] C Q χ:=by
  refine⟨_,rfl,_,Yb,?_⟩
  refine⟨_,rfl,_,Yu,?_⟩
  refine⟨_,rfl,_,_,_,_,rfl,R.r,.head _,Zhc,?_⟩
  refine⟨_,rfl,_,_,_,_,rfl,R.r,.head _,Zpb,?_⟩
  refine⟨_,rfl,_,_,_,_,rfl,R.r,.head _,Zll,?_⟩
  refine⟨ZNB rfl,?_⟩
  refine⟨_,rfl,_,_,_,_,rfl,R.r,.head _,Zwk,?_⟩
  refine⟨_,rfl,_,R.pg,fun p hp=>⟨ZNB rfl,?_⟩⟩
  exact q p _ (Ex.new hp) hp Zn
 refine en_t R ?_
 cases he:s.e with
 | no=>
  rw[he] at key
  exact Jj ⟨ZNB rfl,key⟩
 | told x=>
  rw[he] at key
  exact Ye ⟨_,rfl,_,_,_,_,rfl,R.r,.head _,by rw[Zfd,he];rfl,key⟩
 | stop x=>
  rw[he] at key
  exact Ye ⟨_,rfl,_,_,_,_,rfl,R.r,.head _,by rw[Zfd,he];rfl,key⟩
 | stuck=>
  rw[he] at key
  exact Ye ⟨_,rfl,_,_,_,_,rfl,R.r,.head _,by rw[Zfd,he];rfl,key⟩
end
open PySem PySem.Spec PyProof.Rows L2 WL
def ini (t:Tm)(D:Int):St:=⟨.no,0,[],[.part D t],[],[],[],[],0,0,0,.no⟩
def fin (t:Tm)(D m:Int):St:=adv m m.toNat (settled (ini t D))
theorem Zwv {d:Nat}{t:Tm}{D:Int}(h:ok 0 d [] t)(hv:isVt t=false):Ok d (ini t D):=
 ⟨trivial,fun _=>rfl,fun f hf=>(by cases hf),fun p hp=>by rw[XQ.mp hp];exact⟨h,hv⟩,fun x hx=>(by cases hx),rfl,fun t ht=>(by cases ht),⟨XW _,by show(0:Int)≤1000;decide⟩,by show(0:Int)≤5*0;decide,by show(0:Int)+0≤6*0;decide,by show(0:Int)+1+0≤6*0+8;decide⟩
section
variable {C:Hw}{Q:WK}{χ:WX}{n d:Nat}
theorem Zfb {f:Str}{v:T}:∀{fs:List (Str×T)} {m:Nat},fs.length≤m→(Zau f v fs).length≤m+1
 | [],m,_=>by simp[Zau]
 | (g,x)::fs,m,h=>by
  rw[YF] at h
  unfold Zau
  split
  ·rw[YF];omega
  ·have:=Zfb (f:=f) (v:=v) (fs:=fs) (m:=fs.length) (XE _)
   rw[YF];omega
theorem ia {m:Nat}{f:Str}{v:T}{B:WS}{D:We}{τ:Sw}{r:Addr}{fs:List (Str×T)}(hr:C r=some (.ins "Runner" fs))(h0:τ[0]?=some (some (.ref r)))(hl:fs.length≤m)(hm:m<1000)(q:∀C',C' r=some (.ins "Runner" (Zau f v fs))→(Zau f v fs).length≤m+1→ExB r C C'→B D τ C'):Zq (Z3 (eC v) (gFd ["Runner"] f (Zd 0))) B D τ C:=
 ⟨_,h0,r,_,_,rfl,hr,by simp,by omega,q _ Zn (Zfb hl) fun a o h e=>by rw[Zw h];exact e⟩
theorem il {m:Nat}{f:Str}{a:WA}{xs:List T}{B:WS}{D:We}{τ:Sw}{r:Addr}{fs:List (Str×T)}(hr:C r=some (.ins "Runner" fs))(h0:τ[0]?=some (some (.ref r)))(hl:fs.length≤m)(hm:m<1000)(ha:∀Q:List T→Hw→Prop,Q xs C→a τ C Q D.xc)(hx:xs.length≤1000)
  (q:∀p C',C p=none→p≠r→C' p=some (.lst xs)→C' r=some (.ins "Runner" (Zau f (.ref p) fs))→(Zau f (.ref p) fs).length≤m+1→ExB r C C'→B D τ C'):Zq (Z3 (Xs a) (gFd ["Runner"] f (Zd 0))) B D τ C:=by
 refine ha _ ⟨small63 (by omega),fun p hp=>?_⟩
 have hne:r≠p:=cne hr hp
 refine⟨_,h0,r,_,_,rfl,by rw[Zw hne];exact hr,by simp,by omega,q p _ hp hne.symm (by rw[Zw hne.symm];exact Zn) Zn (Zfb hl) fun a o h e=>?_⟩
 rw[Zw h,Zw (cne e hp)];exact e
theorem id0 {m:Nat}{f:Str}{B:WS}{D:We}{τ:Sw}{r:Addr}{fs:List (Str×T)}(hr:C r=some (.ins "Runner" fs))(h0:τ[0]?=some (some (.ref r)))(hl:fs.length≤m)(hm:m<1000)
  (q:∀p C',C p=none→p≠r→C' p=some (.dic [])→C' r=some (.ins "Runner" (Zau f (.ref p) fs))→(Zau f (.ref p) fs).length≤m+1→ExB r C C'→B D τ C'):Zq (Z3 Zh8 (gFd ["Runner"] f (Zd 0))) B D τ C:=by
 intro p hp
 have hne:r≠p:=cne hr hp
 refine⟨_,h0,r,_,_,rfl,by rw[Zw hne];exact hr,by simp,by omega,q p _ hp hne.symm (by rw[Zw hne.symm];exact Zn) Zn (Zfb hl) fun a o h e=>?_⟩
 rw[Zw h,Zw (cne e hp)];exact e
def mkA (r0 p1 p2 p3 p4 p5 p6:Addr):Ad:=fun i=>match i with | 0=>r0 | 1=>p1 | 2=>p2 | 3=>p3 | 4=>p4 | 5=>p5 | 6=>p6
theorem Z3h {r0 p1 p2 p3 p4 p5 p6:Addr}(h:[r0,p1,p2,p3,p4,p5,p6].Nodup):Di (mkA r0 p1 p2 p3 p4 p5 p6):=by
 intro i j hij e
 have hi:∀k:Fin 7,[r0,p1,p2,p3,p4,p5,p6][k.val]?=some (mkA r0 p1 p2 p3 p4 p5 p6 k):=fun k=>by
  match k with
  | 0=>rfl | 1=>rfl | 2=>rfl | 3=>rfl | 4=>rfl | 5=>rfl | 6=>rfl
 exact hij (Fin.ext ((List.getElem?_inj (by exact i.isLt) h).mp (by rw[hi i,hi j,e])))
theorem s_run {t:Tm}{D m:Int}(ho:ok 0 d [] t)(hv:isVt t=false)(hm:m≤1000)
  (q:∀(p:Addr) (C':Hw),Ex C C'→C p=none→C' p=some (.lst ((fin t D m).G.map evT))→Q (outT (fin t D m) p) C'):wpc pr (n+d+12) i_run [tt t,.int D,.int m] C Q χ:=by
 refine u_run rfl ?_
 refine⟨_,rfl,_,rfl,?_⟩
 dsimp only[Zf]
 refine Zl7 rfl fun r0 hr0=>?_
 refine Zgv rfl ?_
 refine ia (m:=0) Zn rfl (by simp) (by decide) fun C1 r1 l1 x1=>?_
 refine ia r1 rfl l1 (by decide) fun C2 r2 l2 x2=>?_
 refine il (xs:=[]) r2 rfl l2 (by decide) (fun Q h=>h) (by decide) fun pp C3 n3 ne3 p3 r3 l3 x3=>?_
 refine il (xs:=[.tup [.int D,tt t]]) r3 rfl l3 (by decide) (fun Q h=>⟨_,rfl,_,rfl,small63 (by simp),h⟩) (by simp) fun ps C4 n4 ne4 p4 r4 l4 x4=>?_
 refine il (xs:=[]) r4 rfl l4 (by decide) (fun Q h=>h) (by decide) fun pt C5 n5 ne5 p5 r5 l5 x5=>?_
 refine id0 r5 rfl l5 (by decide) fun pd C6 n6 ne6 p6 r6 l6 x6=>?_
 refine il (xs:=[]) r6 rfl l6 (by decide) (fun Q h=>h) (by decide) fun pl C7 n7 ne7 p7 r7 l7 x7=>?_
 refine il (xs:=[]) r7 rfl l7 (by decide) (fun Q h=>h) (by decide) fun pg C8 n8 ne8 p8 r8 l8 x8=>?_
 refine ia r8 rfl l8 (by decide) fun C9 r9 l9 x9=>?_
 refine ia r9 rfl l9 (by decide) fun Ca ra la xa=>?_
 refine ia ra rfl la (by decide) fun Cb rb lb xb=>?_
 refine⟨_,rfl,r0,_,_,rfl,rb,by simp,by omega,?_⟩
 generalize hCc:up Cb r0 _=Cc
 have xc:ExB r0 Cb Cc:=hCc▸fun a o h e=>by rw[Zw h];exact e
 have rc:Cc r0=some (.ins "Runner" (Fs (mkA r0 pp ps pt pd pl pg) (ini t D))):=hCc▸Zn
 clear hCc
 have g8:ExB r0 C8 Cc:=((x9.trans xa).trans xb).trans xc
 have g7:=x8.trans g8
 have g6:=x7.trans g7
 have g5:=x6.trans g6
 have g4:=x5.trans g5
 have g3:=x4.trans g4
 have a4:C4 pp=_:=x4 _ _ ne3 p3
 have a5:C5 pp=_:=x5 _ _ ne3 a4
 have a6:C6 pp=_:=x6 _ _ ne3 a5
 have a7:C7 pp=_:=x7 _ _ ne3 a6
 have b5:C5 ps=_:=x5 _ _ ne4 p4
 have b6:C6 ps=_:=x6 _ _ ne4 b5
 have b7:C7 ps=_:=x7 _ _ ne4 b6
 have c6:C6 pt=_:=x6 _ _ ne5 p5
 have c7:C7 pt=_:=x7 _ _ ne5 c6
 have e7:C7 pd=_:=x7 _ _ ne6 p6
 have hnd:[r0,pp,ps,pt,pd,pl,pg].Nodup:=by
  simp only[List.nodup_cons,List.mem_cons,List.not_mem_nil,or_false,not_or,not_false_eq_true,List.nodup_nil,and_true]
  exact⟨⟨ne3.symm,ne4.symm,ne5.symm,ne6.symm,ne7.symm,ne8.symm⟩,⟨cne p3 n4,cne a4 n5,cne a5 n6,cne a6 n7,cne a7 n8⟩,⟨cne p4 n5,cne b5 n6,cne b6 n7,cne b7 n8⟩,⟨cne p5 n6,cne c6 n7,cne c7 n8⟩,⟨cne p6 n7,cne e7 n8⟩,cne p7 n8⟩
 have di:=Z3h hnd
 have R:Rn (mkA r0 pp ps pt pd pl pg) Cc (ini t D):=⟨rc,g3 _ _ ne3 p3,g4 _ _ ne4 p4,g5 _ _ ne5 p5,g6 _ _ ne6 p6,g7 _ _ ne7 p7,g8 _ _ ne8 p8⟩
 have fr:∀C',Fr (mkA r0 pp ps pt pd pl pg) Cc C'→Ex C C':=fun C' f a o h=>by
  have hne:=cne h hr0
  have h1:C1 a=some o:=x1 _ _ hne (by rw[Zw hne];exact h)
  have h2:C2 a=some o:=x2 _ _ hne h1
  have h3:=x3 _ _ hne h2
  have h4:=x4 _ _ hne h3
  have h5:=x5 _ _ hne h4
  have h6:=x6 _ _ hne h5
  have h7:=x7 _ _ hne h6
  refine f a o (fun i=>?_) (g7 _ _ hne h7)
  match i with
  | 0=>exact hne
  | 1=>exact cne h2 n3
  | 2=>exact cne h3 n4
  | 3=>exact cne h4 n5
  | 4=>exact cne h5 n6
  | 5=>exact cne h6 n7
  | 6=>exact cne h7 n8
 clear l1 l2 l3 l4 l5 l6 l7 l8 l9 la lb r1 r2 r3 r4 r5 r6 r7 r8 r9 ra rb x1 x2 x3 x4 x5 x6 x7 x8 x9 xa xb xc g3 g4 g5 g6 g7 g8 p3 p4 p5 p6 p7 p8 n3 n4 n5 n6 n7 n8 ne3 ne4 ne5 ne6 ne7 ne8 a4 a5 a6 a7 b5 b6 b7 c6 c7 e7
 refine⟨rfl,_,_,_,_,rfl,rc,tb1,m_go (s:=ini t D),_,rfl,?_⟩
 dsimp only[Zf]
 refine Zoe rfl ?_
 refine⟨_,rfl,_,_,_,_,rfl,rc,tb1,Ztl (s:=ini t D),_,rfl,?_⟩
 dsimp only[Zf]
 refine Zs5 (n:=n) di R (Zwv ho hv) hm fun C' F R'=>?_
 have ef:adv m (m-(ini t D).k).toNat (settled (ini t D))=fin t D m:=by show adv m (m-0).toNat _=_;rw[Int.sub_zero];rfl
 rw[ef] at R'
 refine⟨_,rfl,_,_,_,_,rfl,R'.r,tb1,Ztk,?_⟩
 dsimp only[Zf]
 refine Zs3 (n:=n+d+9) R' fun p C2 hE hp hG=>?_
 exact q p C2 ((fr C' F).trans hE) ((fr C' F).free hp) hG
end
open PySem PySem.Spec PyProof.Rows L2 WL
theorem Zlv {c c2:Ck}{r:Ev}(h:ck1 c r=some c2):c.la≤r.k∧((r.ev="born"∧r.i=c.lab.length∧c2=⟨c.lab++[r.l],c.wi,r.k,c.en⟩)∨
  (r.ev≠"born"∧c.lab[r.i]?=some r.l∧((r.ev="enter"∧c.en<r.k∧c2=⟨c.lab,c.wi++[r.i],r.k,r.k⟩)∨(r.ev="back"∧c.wi.getLast?=some r.i∧c2=⟨c.lab,c.wi.dropLast,r.k,c.en⟩)))):=by
 unfold ck1 at h
 split at h
 next h1=>
  refine⟨h1,?_⟩
  split at h
  next h2=>
   split at h
   next h3=>cases h;exact .inl ⟨h2,h3,rfl⟩
   ·cases h
  next h2=>
   split at h
   next h3=>
    split at h
    next h4=>cases h;exact .inr ⟨h2,h3,.inl ⟨h4.1,h4.2,rfl⟩⟩
    ·split at h
     next h5=>cases h;exact .inr ⟨h2,h3,.inr ⟨h5.1,h5.2,rfl⟩⟩
     ·cases h
   ·cases h
 ·cases h
theorem Zxp {c c2:Ck}{r:Ev}(h:ck1 c r=some c2):c.la≤c2.la∧c2.la=r.k∧c2.lab.length≤c.lab.length+1∧c2.wi.length≤c.wi.length+1:=by
 obtain⟨h1,⟨_,_,rfl⟩ | ⟨_,_,⟨_,_,rfl⟩ | ⟨_,_,rfl⟩⟩⟩:=Zlv h
 ·exact⟨h1,rfl,by simp,by simp⟩
 ·exact⟨h1,rfl,by simp,by simp⟩
 ·exact⟨h1,rfl,by simp,by simp;omega⟩
theorem Zxo:∀(l:List Ev) {c c2:Ck},ckA c l=some c2→c.la≤c2.la
 | [],c,c2,h=>by cases h;exact XW _
 | r::l,c,c2,h=>by
  have h2:(match ck1 c r with | some c'=>ckA c' l | none=>none)=some c2:=h
  cases e:ck1 c r with
  | none=>rw[e] at h2;cases h2
  | some c1=>
   rw[e] at h2
   have:=Zxo l h2
   have:=(Zxp e).1
   omega
theorem Zlu:∀(l:List Ev) {r:Ev} {m:List Ev} {c cf:Ck},ckA c (l++r::m)=some cf→∃c1 c2,ckA c l=some c1∧ck1 c1 r=some c2∧ckA c2 m=some cf
 | [],r,m,c,cf,h=>by
  have h2:(match ck1 c r with | some c'=>ckA c' m | none=>none)=some cf:=h
  cases e:ck1 c r with
  | none=>rw[e] at h2;cases h2
  | some c1=>rw[e] at h2;exact⟨c,c1,rfl,e,h2⟩
 | a::l,r,m,c,cf,h=>by
  have h2:(match ck1 c a with | some c'=>ckA c' (l++r::m) | none=>none)=some cf:=h
  cases e:ck1 c a with
  | none=>rw[e] at h2;cases h2
  | some c1=>
   rw[e] at h2
   obtain⟨d1,d2,q1,q2,q3⟩:=Zlu l h2
   refine⟨d1,d2,?_,q2,q3⟩
   show(match ck1 c a with | some c'=>ckA c' l | none=>none)=_
   rw[e];exact q1
def nT (l:List Nat):List T:=l.map fun (j:Nat)=>T.int (j:Int)
theorem iII:T.bl (Zcy "int" "int")=.bl true:=congrArg T.bl (by decide+kernel)
theorem iIB:T.bl (Zcy "int" "bool")=.bl false:=congrArg T.bl (by decide+kernel)
theorem trTT {c:Hw}:tru (.bl (Zcy "tuple" "tuple")) c true:=by show true=Zcy "tuple" "tuple";decide+kernel
section
variable {C:Hw}{Q:WK}{χ:WX}{n:Nat}
theorem Zmi {i:Int}(q:Q (.bl true) C):wpc pr (n+1) Zne [.int i] C Q χ:=by
 refine Zl9 rfl ⟨_,rfl,_,rfl,true,iII,Jj ⟨_,rfl,_,rfl,false,iIB,q⟩⟩
theorem Z1v {g:Addr}{G:List Ev}{cf:Ck}{m:Int}(hg:C g=some (.lst (G.map evT)))(hl:G.length≤90000)(hc:ckA c0 G=some cf)(hm:cf.la≤m)(q:∀w C',Ex C C'→C' w=some (.lst (nT cf.wi))→Q (.ref w) C'):wpc pr (n+2) Zpf [.ref g,.int m] C Q χ:=by
 refine Zoa rfl ?_
 refine⟨XO _,fun pl hpl=>⟨XO _,fun pw hpw=>?_⟩⟩
 have hne:pl≠pw:=(fr1 hpw).1.symm
 have hpw0:C pw=none:=(fr1 hpw).2
 refine⟨_,rfl,_,by rw[Zw (cne (by rw[Zw (cne hg hpl)];exact hg) hpw),Zw (cne hg hpl)];exact hg,?_⟩
 refine Zcj (fun i τ C'=>∃x6 x7 x8 x9 x10,∃c:Ck,ckA c0 (G.take i)=some c∧c.lab.length≤i∧c.wi.length≤i∧τ=[some (.ref g),some (.int m),some (.ref pl),some (.ref pw),some (.int c.la),some (.int c.en),x6,x7,x8,x9,x10]∧Ex C C'∧C' pl=some (.lst (c.lab.map T.str))∧C' pw=some (.lst (nT c.wi)))
  ⟨none,none,none,none,none,c0,rfl,XE _,XE _,rfl,(Ex.new hpl).trans (Ex.new hpw),by rw[Zw hne];exact Zn,Zn⟩ (fun i τ C' _ ⟨_,_,_,_,_,_,_,_,_,_,hE,_⟩=>hE _ _ hg) ?_ ?_
 ·rintro i y τ C' N hy ⟨x6,x7,x8,x9,x10,c,hcA,hc1,hc2,rfl,hE,hl',hw'⟩ hN
  rw[XM] at hy
  cases hr:G[i]? with
  | none=>rw[hr] at hy;cases hy
  | some r=>
   rw[hr] at hy
   cases hy
   obtain⟨hi,hr'⟩:=List.getElem?_eq_some_iff.mp hr
   have hsp:G=G.take i++r::G.drop (i+1):=by rw[←hr',←List.drop_eq_getElem_cons hi,List.take_append_drop]
   have hc':=hc
   rw[hsp] at hc'
   obtain⟨d1,c2,q1,q2,q3⟩:=Zlu _ hc'
   rw[hcA] at q1
   cases q1
   have hla:=Zxo _ q3
   obtain⟨e1,e2,e3,e4⟩:=Zxp q2
   have hA2:ckA c0 (G.take (i+1))=some c2:=by rw[YD,hr];exact Zhp _ hcA q2
   refine⟨_,rfl,_,rfl,true,trTT,Ye ?_⟩
   refine⟨_,rfl,_,rfl,neIc (v:=true) rfl ⟨_,rfl,Ye ?_⟩⟩
   refine⟨_,rfl,_,Yu,?_⟩
   dsimp only[Zf]
   refine Zmi (n:=n) ⟨true,rfl,Ye ?_⟩
   refine⟨_,rfl,_,Zl0,?_⟩
   dsimp only[Zf]
   refine Zmi (n:=n) ⟨true,rfl,Ye ?_⟩
   refine⟨_,rfl,_,rfl,_,_,rfl,_,_,rfl,_,_,rfl,_,_,rfl,rfl,?_⟩
   refine⟨_,rfl,_,rfl,_,rfl,Zee (YG (by omega)) ?_⟩
   refine⟨_,rfl,_,rfl,_,rfl,Zee (YG (by omega)) ?_⟩
   refine⟨_,rfl,_,rfl,true,trS,Ye ?_⟩
   refine⟨_,rfl,?_⟩
   obtain⟨_,⟨a1,a2,a3⟩ | ⟨a1,a2,a3⟩⟩:=Zlv q2
   ·refine Zdw rfl a1 ?_
    refine⟨_,rfl,_,rfl,_,rfl,_,hl',neI (v:=true) (by rw[XI,a2];exact XU _) ⟨_,rfl,Ye ?_⟩⟩
    refine⟨_,rfl,⟨_,_,rfl,hl'⟩,_,rfl,_,_,_,rfl,rfl,hl',small63' (by rw[XI];omega),?_⟩
    refine hN _ _ ⟨_,_,_,_,_,c2,hA2,by omega,by omega,by rw[a3];rfl,hE.up hpl,?_,?_⟩
    ·rw[Zn,a3,XL];rfl
    ·rw[Zw hne.symm,a3];exact hw'
   ·refine k_no rfl a1 ?_
    have hil:r.i<c.lab.length:=(List.getElem?_eq_some_iff.mp a2).1
    refine⟨_,rfl,_,rfl,Zf6 (decide_eq_true (by omega)) ⟨_,rfl,_,rfl,_,hl',_,rfl,Zee (by rw[decide_eq_true (by rw[XI];omega)];rfl) ?_⟩⟩
    refine⟨_,rfl,_,rfl,_,_,hl',atN (x:=.str r.l) (by rw[XM,a2];rfl),_,rfl,neS (v:=true) (XU _) ⟨_,rfl,Ye ?_⟩⟩
    rcases a3 with⟨b1,b2,b3⟩ | ⟨b1,b2,b3⟩
    ·refine⟨_,rfl,J5 (v:=true) (by rw[b1];exact XU _) ⟨_,rfl,Jj ?_⟩⟩
     refine⟨_,rfl,_,rfl,_,rfl,Zf6 (decide_eq_true b2) ?_⟩
     refine⟨_,rfl,_,rfl,⟨_,_,rfl,hw'⟩,_,rfl,_,_,_,rfl,rfl,hw',small63' (by unfold nT;rw[XI];omega),?_⟩
     refine hN _ _ ⟨_,_,_,_,_,c2,hA2,by omega,by omega,by rw[b3];rfl,hE.up hpw0,?_,?_⟩
     ·rw[Zw hne,b3];exact hl'
     ·rw[Zn,b3];unfold nT;rw[XL];rfl
    ·refine⟨_,rfl,J5 (v:=false) (by rw[b1];decide+kernel) ⟨_,rfl,Ye (Ye ?_)⟩⟩
     have sp:=Za4 b2
     have hwn:nT c.wi=nT c.wi.dropLast++[.int (r.i:Int)]:=by
      have:=congrArg nT sp
      rw[this]
      unfold nT
      rw[XL];rfl
     rw[hwn] at hw'
     refine⟨_,rfl,neSc (v:=true) (by rw[b1];exact XU _) ⟨_,rfl,Ye ?_⟩⟩
     refine⟨_,rfl,_,rfl,_,hw',eqIc (v:=false) (by simp;omega) ⟨_,rfl,Ye ?_⟩⟩
     refine⟨_,rfl,⟨_,_,rfl,hw'⟩,_,_,_,rfl,rfl,hw',(by simp:(nT c.wi.dropLast++[T.int (r.i:Int)])[(nT c.wi.dropLast++[T.int (r.i:Int)]).length-1]?=some (.int (r.i:Int))),_,rfl,neI (v:=true) (beq_self_eq_true _) ⟨_,rfl,Ye ?_⟩⟩
     refine hN _ _ ⟨_,_,_,_,_,c2,hA2,by omega,by omega,by rw[b3];rfl,hE.up hpw0,?_,?_⟩
     ·rw[Zw hne,b3];exact hl'
     ·rw[Zn,b3];simp
 ·rintro τ C' ⟨x6,x7,x8,x9,x10,c,hcA,hc1,hc2,rfl,hE,hl',hw'⟩
  rw[XI,List.take_length,hc] at hcA
  cases hcA
  exact⟨_,rfl,q pw C' hE hw'⟩
end
open PySem PySem.Spec PyProof.Rows L2 WL
def npT (z:Str×Str):T:=.tup [.str z.1,.str z.2]
def NmOk (Γ:List Str)(ns:List (Str×Str)):Prop:=∀z∈ns,z.1∈Γ∧gl z.1
theorem Y1 {p q:Prop}{b:Bool}(h1:p)(h2:q):if b=true then p else q:=by cases b;exact h2;exact h1
theorem Zhf {p q:Prop}{b:Bool}(h1:b=true→p)(h2:b=false→q):if b=true then p else q:=by cases b;exact h2 rfl;exact h1 rfl
theorem Z3e {ns:List (Str×Str)}{f:T→Option T}{g:Str×Str→Option Str}(h:∀z,f (npT z)=(g z).map T.str):(ns.map npT).filterMap f=(ns.filterMap g).map T.str:=by
 rw[List.filterMap_map,List.map_filterMap]
 congr 1
 funext z
 exact h z
theorem Zv7 {x:Int}(h0:0≤x)(h1:x<1000000000000000000):(Str.ofString (toString x)).length≤18:=by
 obtain⟨m,rfl⟩:∃m:Nat,x=m:=⟨x.toNat,by omega⟩
 show(Str.ofString (toString (Int.ofNat m))).length≤18
 rw[text_ofNat]
 show((Nat.toDigits 10 m).map Char.toNat).toArray.size≤18
 rw[XJ,XI]
 exact digits10_le (by decide) (by omega)
theorem Z05 {x:Int}(h0:0≤x)(h1:x<1000000000000000000):x.natAbs.log2<1920:=by
 have h2:x.natAbs<2^64:=by omega
 have:x.natAbs.log2<64:=by
  by_cases c:x.natAbs=0
  ·rw[c];decide
  ·exact(Nat.log2_lt c).mpr h2
 omega
theorem a3 {α:Type}{a b c:α}{x:Int}:∃v,atI [a,b,c] (x%3)=some v∧(v=a∨v=b∨v=c):=by
 have h0:x%3=0∨x%3=1∨x%3=2:=by omega
 rcases h0 with e | e | e<;>rw[e]
 ·exact⟨_,Yb,.inl rfl⟩
 ·exact⟨_,Yu,.inr (.inl rfl)⟩
 ·exact⟨_,Zaj,.inr (.inr rfl)⟩
theorem a2 {α:Type}{a b:α}{x:Int}:∃v,atI [a,b] (x%2)=some v∧(v=a∨v=b):=by
 have h0:x%2=0∨x%2=1:=by omega
 rcases h0 with e | e<;>rw[e]
 ·exact⟨_,Yb,.inl rfl⟩
 ·exact⟨_,Yu,.inr rfl⟩
theorem c_at {z:Str}{n:Nat}{x:Int}(hz:z.cps.toList.length=n)(hn:0<n):∃c,atI z.cps.toList (x%(n:Int))=some c:=by
 obtain⟨v,h,_⟩:=Zic (xs:=z.cps.toList) (i:=x%(n:Int)) (YO _ (by omega)) (by rw[hz];exact Int.emod_lt_of_pos _ (by omega))
 exact⟨v,h⟩
theorem arN:cl "Nil"∧ar "Nil"=0:=by decide+kernel
theorem arY:cl "Yes"∧ar "Yes"=0:=by decide+kernel
theorem arO:cl "No"∧ar "No"=0:=by decide+kernel
theorem arC:cl "Cons"∧ar "Cons"=2:=by decide+kernel
theorem arP:cl "Pair"∧ar "Pair"=2:=by decide+kernel
theorem lenX:gl "x":=⟨by decide+kernel,by decide+kernel⟩
def nilM:Tm:=.shp0 "Nil"
section
variable {C:Hw}{Q:WK}{χ:WX}{n:Nat}
theorem s_ill {Γ:List Str}{x:Int}(hx:0≤x)(hx':x<6)(q:∀t C',Ex C C'→ok 0 2 Γ t→Q (tt t) C'):wpc pr (n+1) Zgi [.int x] C Q χ:=by
 refine Zf9 rfl ?_
 refine⟨ZNB rfl,ZNB rfl,?_⟩
 refine⟨ZNB rfl,ZNB rfl,ZNB rfl,_,rfl,ZNB rfl,ZNB rfl,ZNB rfl,fun p hp=>?_⟩
 refine⟨_,rfl,ZNB rfl,_,rfl,ZNB rfl,ZNB rfl,ZNB rfl,_,rfl,ZNB rfl,ZNB rfl,ZNB rfl,fun p2 hp2=>?_⟩
 have hne:p≠p2:=(fr1 hp2).1.symm
 refine⟨_,_,by rw[Zw hne];exact Zn,Zn,ZNB rfl,fun p3 hp3=>?_⟩
 have hE:∀o,Ex C (up (up (up C p _) p2 _) p3 o):=fun o=>((Ex.new hp).trans (Ex.new hp2)).trans (Ex.new hp3)
 have h0:x=0∨x=1∨x=2∨x=3∨x=4∨x=5:=by omega
 have n3:ok 0 1 Γ (.num 3):=⟨by decide,by decide⟩
 have nl:ok 0 1 Γ nilM:=arN
 rcases h0 with rfl | rfl | rfl | rfl | rfl | rfl
 ·exact⟨_,rfl,_,rfl,_,_,Zn,Yb,q (.num 3) _ (hE _) ⟨by decide,by decide⟩⟩
 ·exact⟨_,rfl,_,rfl,_,_,Zn,Yu,q (.shp0 "Yes") _ (hE _) arY⟩
 ·exact⟨_,rfl,_,rfl,_,_,Zn,Zaj,q nilM _ (hE _) arN⟩
 ·exact⟨_,rfl,_,rfl,_,_,Zn,Zl0,q (.fn "x" (.nm "x")) _ (hE _) ⟨by decide,lenX,List.mem_cons_self⟩⟩
 ·exact⟨_,rfl,_,rfl,_,_,Zn,Z1d,q (.shp2 "Cons" (.num 3) nilM) _ (hE _) ⟨by decide,arC,n3,nl⟩⟩
 ·exact⟨_,rfl,_,rfl,_,_,Zn,rfl,q (.shp2 "Pair" (.num 3) nilM) _ (hE _) ⟨by decide,arP,n3,nl⟩⟩
theorem Ze9 {Γ:List Str}{ns:List (Str×Str)}{a:Addr}{x kd:Str}(ha:C a=some (.lst (ns.map npT)))(hn:NmOk Γ ns)(hx:gl x)(hl:ns.length≤1000)
  (q:∀p ns' C',Ex C C'→C p=none→C' p=some (.lst (ns'.map npT))→NmOk (x::Γ) ns'→ns'.length≤ns.length+1→Q (.ref p) C'):wpc pr (n+1) Zng [.ref a,.str x,.str kd] C Q χ:=by
 refine Zmb rfl ?_
 refine⟨_,rfl,_,ha,?_⟩
 refine Znr (f:=fun t=>match t with | .tup [.str y,_]=>if y=x then none else some t | _=>none) ha (by rw[XI];exact small63 (by omega)) (fun t ht R N h1 h2=>?_) ?_
 ·obtain⟨z,_,rfl⟩:=XR.mp ht
  refine⟨_,rfl,_,Yb,_,rfl,neS rfl ⟨_,rfl,?_⟩⟩
  by_cases c:z.1=x
  ·refine Zee (by rw[c,XU];rfl) (h2 ?_)
   show(if z.1=x then none else _)=none
   rw[XY c]
  ·refine Zf6 (by rw[beq_eq_false_iff_ne.mpr c];rfl) ⟨_,rfl,h1 _ ?_⟩
   show(if z.1=x then none else _)=_
   rw[XX c]
 ·intro p hp
  refine⟨_,rfl,_,rfl,ZNB rfl,ZNB rfl,fun p2 hp2=>?_⟩
  have hne:p≠p2:=(fr1 hp2).1.symm
  have em:∃ns2:List (Str×Str),((ns.map npT).filterMap fun t=>match t with | .tup [.str y,_]=>if y=x then none else some t | _=>none)=ns2.map npT∧(∀z∈ns2,z∈ns)∧ns2.length≤ns.length:=by
   clear ha hn hl q hp hp2 hne
   induction ns with
   | nil=>exact⟨[],rfl,fun z hz=>(by cases hz),XE _⟩
   | cons z r ih=>
    obtain⟨ns2,i1,i2,i3⟩:=ih
    by_cases c:z.1=x
    ·refine⟨ns2,?_,fun y hy=>XV _ (i2 y hy),by rw[YF];omega⟩
     rw[YI,List.filterMap_cons_none (by show(if z.1=x then none else _)=_;rw[XY c]),i1]
    ·refine⟨z::ns2,?_,fun y hy=>?_,by rw[YF,YF];omega⟩
     ·rw[YI,List.filterMap_cons_some (b:=npT z) (by show(if z.1=x then none else _)=_;rw[XX c]),i1];rfl
     ·rcases List.mem_cons.mp hy with rfl | hy
      ·exact List.mem_cons_self
      ·exact XV _ (i2 y hy)
  obtain⟨ns2,e1,e2,e3⟩:=em
  rw[e1] at hp2 ⊢
  refine⟨_,_,by rw[Zw hne];exact Zn,Zn,by rw[XI];exact small63 (by show ns2.length+1≤_;omega),fun p3 hp3=>?_⟩
  refine q p3 (ns2++[(x,kd)]) _ (((Ex.new hp).trans (Ex.new hp2)).trans (Ex.new hp3)) ((fr1 (fr1 hp3).2).2) ?_ (fun z hz=>?_) (by rw[List.length_append];show ns2.length+1≤_;omega)
  ·rw[Zn,XL];rfl
  ·rcases XS.mp hz with hz | hz
   ·exact⟨XV _ (hn z (e2 z hz)).1,(hn z (e2 z hz)).2⟩
   ·rw[XQ.mp hz];exact⟨List.mem_cons_self,hx⟩
theorem Zqg {Γ:List Str}{ns:List (Str×Str)}{a:Addr}{kd:Str}{x:Int}(ha:C a=some (.lst (ns.map npT)))(hn:NmOk Γ ns)(hl:ns.length≤1000)(q:∀t C',Ex C C'→ok 0 2 Γ t→Q (tt t) C'):wpc pr (n+2) Zph [.str kd,.int x,.ref a] C Q χ:=by
 refine Zoc rfl ?_
 refine⟨_,rfl,_,ha,?_⟩
 refine Znr (f:=fun t=>match t with | .tup [.str y,.str k]=>if k=kd then some (.str y) else none | _=>none) ha (by rw[XI];exact small63 (by omega)) (fun t ht R N h1 h2=>?_) ?_
 ·obtain⟨z,_,rfl⟩:=XR.mp ht
  refine⟨_,rfl,_,Yu,_,rfl,eqS rfl ⟨_,rfl,?_⟩⟩
  by_cases c:z.2=kd
  ·refine Zf6 (by rw[c];exact XU _) ⟨_,rfl,_,Yb,h1 _ ?_⟩
   show(if z.2=kd then _ else _)=_
   rw[XY c]
  ·refine Zee (beq_eq_false_iff_ne.mpr c) (h2 ?_)
   show(if z.2=kd then _ else _)=_
   rw[XX c]
 rw[Z3e (g:=fun z=>if z.2=kd then some z.1 else none) (fun z=>by show(if z.2=kd then _ else _)=_;split<;>rfl)]
 have hmine:∀y∈ns.filterMap (fun z=>if z.2=kd then some z.1 else none),y∈Γ:=fun y hy=>by
  obtain⟨z,hz,e⟩:=List.mem_filterMap.mp hy
  split at e
  ·cases e;exact(hn z hz).1
  ·cases e
 generalize ns.filterMap (fun z=>if z.2=kd then some z.1 else none)=mine at hmine
 intro p hp
 have E1:Ex C (up C p (.lst (mine.map T.str))):=Ex.new hp
 have ha1:=E1 _ _ ha
 have hp1:(up C p (.lst (mine.map T.str))) p=some (.lst (mine.map T.str)):=Zn
 generalize up C p (.lst (mine.map T.str))=C1 at E1 ha1 hp1
 have p18:CPow 10 18:=⟨by decide,by decide,by decide⟩
 have n0:∀y:Int,ok 0 1 Γ (.num (y%8)):=fun y=>⟨by omega,by simp only[big];omega⟩
 have t8:Zcr (wpc pr (n+1)) (ZUD Q χ) [some (.str kd),some (.int x),some (.ref a),some (.ref p),none,none] C1:=by
  have t5:Zct (wpc pr (n+1)) (ZUD Q χ) [some (.str kd),some (.int x),some (.ref a),some (.ref p),none,none] C1:=by
   refine⟨_,rfl,J5 rfl ⟨_,rfl,Y1 ?_ ?_⟩⟩
   ·obtain⟨v,h1,h2⟩:=a2 (a:=T.int (x/4%4)) (b:=T.int (x*982451653%10^(18:Int).toNat)) (x:=x/16)
    refine⟨_,rfl,⟨by decide,by decide⟩,by decide,_,rfl,.inr ⟨by decide,by decide⟩,p18,by decide,ZNB rfl,fun p2 hp2=>?_⟩
    refine⟨_,rfl,⟨by decide,by decide⟩,by decide,_,_,Zn,h1,ZNB rfl,?_⟩
    rcases h2 with rfl | rfl
    ·exact q (.num _) _ (E1.trans (Ex.new hp2)) ⟨by omega,by simp only[big];omega⟩
    ·exact q (.num _) _ (E1.trans (Ex.new hp2)) ⟨YO _ (by decide),Int.emod_lt_of_pos _ (by decide)⟩
   refine⟨_,rfl,J5 rfl ⟨_,rfl,Y1 ?_ ?_⟩⟩
   ·obtain⟨v,h1,h2⟩:=a2 (a:=T.str "No") (b:=T.str "Yes") (x:=x/4)
    refine⟨ZNB rfl,fun p2 hp2=>⟨_,rfl,⟨by decide,by decide⟩,by decide,_,_,Zn,h1,XO _,ZNB rfl,?_⟩⟩
    rcases h2 with rfl | rfl
    ·exact q (.shp0 "No") _ (E1.trans (Ex.new hp2)) arO
    ·exact q (.shp0 "Yes") _ (E1.trans (Ex.new hp2)) arY
   refine⟨_,rfl,J5 rfl ⟨_,rfl,Y1 ?_ ?_⟩⟩
   ·obtain⟨ch,h1⟩:=c_at (z:="+-*") (n:=3) (x:=x/4) (by decide+kernel) (by decide)
    refine⟨_,rfl,⟨by decide,by decide⟩,by decide,by decide,ch,h1,_,rfl,⟨by decide,by decide⟩,by decide,ZNB rfl,ZNB rfl,ZNB rfl,ZNB rfl,?_⟩
    exact q (.fn "x" (.does ⟨#[ch]⟩ (.num (x/12%100)) (.nm "x"))) _ E1 ⟨by decide,lenX,by decide,⟨by omega,by simp only[big];omega⟩,List.mem_cons_self⟩
   refine⟨XO _,ZNB rfl,?_⟩
   refine⟨_,rfl,J5 rfl ⟨_,rfl,Y1 ?_ ?_⟩⟩
   ·refine⟨_,rfl,p18,by decide,ZNB rfl,_,rfl,ZNB rfl,ZNB rfl,?_⟩
    exact q (.shp2 "Pair" (.num _) nilM) _ E1 ⟨by decide,arP,⟨YO _ (by decide),Int.emod_lt_of_pos _ (by decide)⟩,arN⟩
   refine⟨_,rfl,⟨by decide,by decide⟩,by decide,ZNB rfl,_,rfl,ZNB rfl,ZNB rfl,?_⟩
   obtain⟨v,h1,h2⟩:=a3 (a:=tt nilM) (b:=tt (.shp2 "Cons" (.num (x/768%8)) nilM)) (c:=tt (.shp2 "Cons" (.num (x/96%8)) (.shp2 "Cons" (.num (x/768%8)) nilM))) (x:=x/4)
   refine⟨_,rfl,_,rfl,_,rfl,⟨by decide,by decide⟩,by decide,ZNB rfl,_,rfl,ZNB rfl,ZNB rfl,ZNB rfl,fun p2 hp2=>?_⟩
   refine⟨_,rfl,⟨by decide,by decide⟩,by decide,_,_,Zn,h1,?_⟩
   rcases h2 with rfl | rfl | rfl
   ·exact q nilM _ (E1.trans (Ex.new hp2)) arN
   ·exact q _ _ (E1.trans (Ex.new hp2)) ⟨by decide,arC,n0 _,arN⟩
   ·exact q _ _ (E1.trans (Ex.new hp2)) ⟨by decide,arC,n0 _,by decide,arC,⟨by omega,by simp only[big];omega⟩,arN⟩
  have t7:Zcs (wpc pr (n+1)) (ZUD Q χ) [some (.str kd),some (.int x),some (.ref a),some (.ref p),none,none] C1:=by
   refine⟨_,rfl,by decide,eqIc rfl ⟨_,rfl,Y1 ?_ ?_⟩⟩
   ·have hx0:0≤x/31%100:=by omega
    have hx1:x/31%100<1000000000000000000:=by omega
    have hb:("boo":Str).length=3:=by decide+kernel
    have hle:=Zv7 hx0 hx1
    have hla:(("boo":Str)++Str.ofString (toString (x/31%100))).length=("boo":Str).length+(Str.ofString (toString (x/31%100))).length:=YC _ _
    refine⟨_,rfl,⟨by decide,by decide⟩,by decide,.inl ⟨_,rfl,Z05 hx0 hx1,small63 (by omega),ZNB rfl,?_⟩⟩
    exact q (.stop _) _ E1 ⟨by show 1≤(("boo":Str)++Str.ofString (toString (x/31%100))).length;omega,by show(("boo":Str)++Str.ofString (toString (x/31%100))).length≤100;omega⟩
   refine⟨_,rfl,by decide,_,rfl,Zhf (fun h4=>⟨_,rfl,Zhf (fun h11=>?_) (fun _=>t5)⟩) (fun _=>⟨_,rfl,t5⟩)⟩
   refine⟨_,rfl,by decide,?_⟩
   dsimp only[Zf,Jl,eC]
   have h4':=of_decide_eq_true h4
   have h11':=of_decide_eq_true h11
   exact s_ill (n:=n) (by omega) (by omega) fun t C' hE ho=>q t C' (E1.trans hE) ho
  refine⟨_,rfl,by decide,eqIc rfl ⟨_,rfl,Y1 ?_ t7⟩⟩
  refine⟨_,rfl,⟨by decide,by decide⟩,by decide,eqIc rfl ⟨_,rfl,Y1 ?_ t7⟩⟩
  refine⟨_,rfl,_,rfl,_,ha1,_,rfl,Zhf (fun hc=>?_) (fun _=>t7)⟩
  have hc':((ns.map npT).length:Int)>0:=of_decide_eq_true hc
  obtain⟨v,h1,h2⟩:=Zic (xs:=ns.map npT) (i:=x/62%((ns.map npT).length:Int)) (YO _ (by omega)) (Int.emod_lt_of_pos _ hc')
  obtain⟨z,hz,rfl⟩:=XR.mp h2
  refine⟨_,rfl,_,rfl,⟨by decide,by decide⟩,_,rfl,_,rfl,_,ha1,hc',_,_,ha1,h1,_,Yb,ZNB rfl,?_⟩
  exact q (.stop z.1) _ E1 (hn z hz).2
 refine⟨_,rfl,_,rfl,_,hp1,_,rfl,Zhf (fun hc=>?_) (fun _=>Ye t8)⟩
 have hc':((mine.map T.str).length:Int)>0:=of_decide_eq_true hc
 refine⟨_,rfl,by decide,_,rfl,Y1 ?_ t8⟩
 obtain⟨v,h1,h2⟩:=Zic (xs:=mine.map T.str) (i:=x/4%((mine.map T.str).length:Int)) (YO _ (by omega)) (Int.emod_lt_of_pos _ hc')
 obtain⟨y,hy,rfl⟩:=XR.mp h2
 refine⟨_,rfl,_,rfl,⟨by decide,by decide⟩,_,rfl,_,rfl,_,hp1,hc',_,_,hp1,h1,ZNB rfl,?_⟩
 exact q (.nm y) _ E1 (hmine y hy)
end
open PySem PySem.Spec PyProof.Rows L2 WL
theorem Zm2 {α β:Type}(l:List α)(f:α→β):(List.finRange l.length).map (fun i=>f (l[i]))=l.map f:=by
 refine List.ext_getElem (by simp) fun i h1 h2=>?_
 simp
def ltL (zs:List (Str×Tm))(b:Tm):Tm:=.lt zs.length (fun i=>(zs[i]).1) (fun i=>(zs[i]).2) b
def chL (e:Tm)(as:List (Str×List Str×Tm)):Tm:=.ch e as.length (fun i=>(as[i]).1) (fun i=>(as[i]).2.1) (fun i=>(as[i]).2.2)
def pzT (z:Str×Tm):T:=.tup [.str z.1,tt z.2]
def azT (a:Str×List Str×Tm):T:=.tup [.str a.1,.tup (a.2.1.map T.str),tt a.2.2]
theorem Zui {zs:List (Str×Tm)}{b:Tm}:tt (ltL zs b)=.tup [.str "let",.tup (zs.map pzT),tt b]:=by
 unfold ltL
 rw[tt,←Zm2 zs pzT]
 rfl
theorem Zmc {e:Tm}{as:List (Str×List Str×Tm)}:tt (chL e as)=.tup [.str "choose",tt e,.tup (as.map azT)]:=by
 unfold chL
 rw[tt,←Zm2 as azT]
 rfl
theorem nms_L {α:Type}{l:List α}{f:α→Str}:nms (fun i:Fin l.length=>f (l[i]))=l.map f:=Zm2 l f
theorem Zmr {L:Nat}:∀{t:Tm} {d:Nat} {Γ Γ':List Str},ok L d Γ t→(∀x∈Γ,x∈Γ')→ok L d Γ' t:=by
 have app:∀{ns Γ Γ':List Str},(∀x∈Γ,x∈Γ')→∀x∈ns++Γ,x∈ns++Γ':=fun h x hx=>by
  rcases XS.mp hx with hx | hx
  ·exact List.mem_append_left _ hx
  ·exact XT _ (h x hx)
 intro t
 induction t with
 | nm x=>intro d Γ Γ' h hs;exact hs x h
 | num v=>intro d Γ Γ' h hs;exact h
 | stop x=>intro d Γ Γ' h hs;exact h
 | at_ i=>intro d Γ Γ' h hs;exact h
 | shp0 c=>intro d Γ Γ' h hs;exact h
 | shp2 c a b iha ihb=>intro d Γ Γ' h hs;exact⟨h.1,h.2.1,iha h.2.2.1 hs,ihb h.2.2.2 hs⟩
 | does o a b iha ihb=>intro d Γ Γ' h hs;exact⟨h.1,iha h.2.1 hs,ihb h.2.2 hs⟩
 | call a b iha ihb=>intro d Γ Γ' h hs;exact⟨h.1,iha h.2.1 hs,ihb h.2.2 hs⟩
 | first a b iha ihb=>intro d Γ Γ' h hs;exact⟨h.1,iha h.2.1 hs,ihb h.2.2 hs⟩
 | fn x b ih=>intro d Γ Γ' h hs;exact⟨h.1,h.2.1,ih h.2.2 (app (ns:=[x]) hs)⟩
 | lt n xs ts b iht ihb=>intro d Γ Γ' h hs;exact⟨h.1,h.2.1,fun i=>iht i (h.2.2.1 i) (app hs),ihb h.2.2.2 (app hs)⟩
 | ch e n cs ns bs ihe ihb=>intro d Γ Γ' h hs;exact⟨h.1,h.2.1,ihe h.2.2.1 hs,fun i=>ihb i (h.2.2.2 i) (app hs)⟩
theorem Zv4 {L d:Nat}{Γ:List Str}{zs:List (Str×Tm)}{b:Tm}(hd:1≤d)(h1:1≤zs.length)(h5:zs.length≤5)(hn:(zs.map (·.1)).Nodup)(hl:∀z∈zs,gl z.1)(hz:∀z∈zs,ok L (d-1) (zs.map (·.1)++Γ) z.2)(hb:ok L (d-1) (zs.map (·.1)++Γ) b):ok L d Γ (ltL zs b):=by
 have e:=nms_L (l:=zs) (f:=fun z:Str×Tm=>z.1)
 unfold ltL
 refine⟨hd,⟨h1,h5,?_,fun i=>hl _ (YN _)⟩,fun i=>?_,?_⟩
 ·rw[e];exact hn
 ·rw[e];exact hz _ (YN _)
 ·rw[e];exact hb
theorem Zmt {L d:Nat}{Γ:List Str}{e:Tm}{as:List (Str×List Str×Tm)}(hd:1≤d)(h5:as.length≤5)(hn:∀a∈as,a.2.1.length=ar a.1∧a.2.1.Nodup)(he:ok L (d-1) Γ e)(hz:∀a∈as,ok L (d-1) (a.2.1++Γ) a.2.2):ok L d Γ (chL e as):=
 ⟨hd,⟨h5,fun i=>hn _ (YN _)⟩,he,fun i=>hz _ (YN _)⟩
structure PlOk (pl:List Str):Prop where
 l:pl.length=3
 n:pl.Nodup
 s5:∀x∈pl,1≤x.length∧x.length≤50
theorem PlOk.s {pl:List Str}(h:PlOk pl)(x:Str)(hx:x∈pl):gl x:=⟨(h.s5 x hx).1,XN (h.s5 x hx).2 (by decide)⟩
structure Env (k:Nat)(C:Hw)(p a b:Addr)(ds:List Int)(ns:List (Str×Str))(pl Γ:List Str):Prop where
 hp:C p=some (.lst (ds.map T.int))
 ha:C a=some (.lst (ns.map npT))
 hn:NmOk Γ ns
 hl:ns.length+4*k≤100
 hb:C b=some (.lst (pl.map T.str))
 pl:PlOk pl
 nap:a≠p
 nbp:b≠p
 fr:("from":Str)∈Γ
 ea:("each":Str)∈Γ
section
variable {C C':Hw}{Q:WK}{χ:WX}{n k:Nat}{p a b:Addr}{ds ds':List Int}{ns:List (Str×Str)}{pl Γ:List Str}{kd:Str}{x:Int}
theorem Env.dn (e:Env (k+1) C p a b ds ns pl Γ):Env k C p a b ds ns pl Γ:=⟨e.hp,e.ha,e.hn,by have:=e.hl;omega,e.hb,e.pl,e.nap,e.nbp,e.fr,e.ea⟩
theorem Env.on (e:Env k C p a b ds ns pl Γ)(h:ExB p C C')(hp:C' p=some (.lst (ds'.map T.int))):Env k C' p a b ds' ns pl Γ:=⟨hp,h _ _ e.nap e.ha,e.hn,e.hl,h _ _ e.nbp e.hb,e.pl,e.nap,e.nbp,e.fr,e.ea⟩
theorem Env.ex (e:Env k C p a b ds ns pl Γ)(h:Ex C C'):Env k C' p a b ds ns pl Γ:=e.on (h.exB p) (h _ _ e.hp)
theorem Env.bind {p2:Addr}{ns2:List (Str×Str)}{Γ':List Str}(e:Env (k+1) C p a b ds ns pl Γ)(h:Ex C C')(h0:C p2=none)(h2:C' p2=some (.lst (ns2.map npT)))(hn:NmOk Γ' ns2)(hl:ns2.length≤ns.length+3)(hs:∀y∈Γ,y∈Γ'):Env k C' p p2 b ds ns2 pl Γ':=
 ⟨h _ _ e.hp,h2,hn,by have:=e.hl;omega,h _ _ e.hb,e.pl,(cne e.hp h0).symm,e.nbp,hs _ e.fr,hs _ e.ea⟩
def Zkl (k:Nat):Prop:=∀{n:Nat} {C:Hw} {Q:WK} {χ:WX} {kd:Str} {p a b:Addr} {ds:List Int} {ns:List (Str×Str)} {pl Γ:List Str},Env k C p a b ds ns pl Γ→
 (∀t C' (ds':List Int),ExB p C C'→C' p=some (.lst (ds'.map T.int))→ok 0 (2*k+3) Γ t→Q (tt t) C')→wpc pr (n+2*k+3) Ze6 [.str kd,.ref p,.ref a,.ref b,.int k] C Q χ
theorem tcall (ih:Zkl k){x:Int}(hx:x=k)(e:Env k C p a b ds ns pl Γ)(q:∀t C' (ds':List Int),ExB p C C'→C' p=some (.lst (ds'.map T.int))→ok 0 (2*k+3) Γ t→Q (tt t) C'):wpc pr (n+2*k+3) Ze6 [.str kd,.ref p,.ref a,.ref b,.int x] C Q χ:=by
 subst hx
 exact ih e q
theorem okd {t:Tm}{d d':Nat}(h:ok 0 d Γ t)(hd:d≤d'):ok 0 d' Γ t:=Zaq (XE _) h hd
theorem ck:((k+1:Nat):Int)-1=(k:Int):=by omega
theorem Zmp (hb:C b=some (.lst (pl.map T.str)))(h:PlOk pl)(y:Int):∃z,z∈pl∧atI (pl.map T.str) (y%((pl.map T.str).length:Int))=some (.str z):=by
 have h3:=h.l
 obtain⟨v,h1,h2⟩:=Zic (xs:=pl.map T.str) (i:=y%((pl.map T.str).length:Int)) (YO _ (by rw[XI];omega)) (Int.emod_lt_of_pos _ (by rw[XI];omega))
 obtain⟨z,hz,rfl⟩:=XR.mp h2
 exact⟨z,hz,h1⟩
theorem Zql (h:PlOk pl):(0:Int)<((pl.map T.str).length:Int):=by rw[XI,h.l];decide
theorem Zru (h:PlOk pl){z:Str}(hz:z∈pl):∃u v,pl.filter (fun y=>decide (y≠z))=[u,v]∧[z,u,v].Nodup∧gl u∧gl v:=by
 have h1:=h.l
 have h2:=h.n
 have h3:=h.s
 match pl,h1,h2,h3,hz with
 | [a,b,c],_,h2,h3,hz=>
  have ha:=h3 a (by simp)
  have hb:=h3 b (by simp)
  have hc:=h3 c (by simp)
  simp only[List.nodup_cons,List.mem_cons,List.not_mem_nil,or_false,not_or,not_false_eq_true,List.nodup_nil,and_true] at h2
  obtain⟨⟨n1,n2⟩,n3⟩:=h2
  simp only[ZM,ZN,or_false] at hz
  rcases hz with rfl | rfl | rfl
  ·exact⟨b,c,by simp[Ne.symm n1,Ne.symm n2],by simp[n1,n2,n3],hb,hc⟩
  ·exact⟨a,c,by simp[n1,Ne.symm n3],by simp[Ne.symm n1,n2,n3],ha,hc⟩
  ·exact⟨a,b,by simp[n2,n3],by simp[Ne.symm n2,Ne.symm n3,n1],ha,hb⟩
theorem Zu4 {τ:Sw}{z:Str}{Q:WK}{χ:WX}{i j:Nat}(hi:τ[i]?=some (some (.ref b)))(hj:τ[j]?=some (some (.str z)))(hb:C b=some (.lst (pl.map T.str)))(h:PlOk pl)(q:∀p2,C p2=none→Q (.ref p2) (up C p2 (.lst ((pl.filter fun y=>decide (y≠z)).map T.str)))):
  Za6 [none,some j] (iSeq (Zd i)) (gNm 0) (tBl (Zh wNe (Zd 0) (Zd 1))) (Zd 0) τ C Q χ:=by
 refine⟨_,hi,_,hb,?_⟩
 have h3:=h.l
 have ec:capW [none,some j] τ=[none,some (.str z)]:=by
  show[none,(τ[j]?).join]=_
  rw[hj];rfl
 rw[ec]
 refine Znr (f:=fun t=>match t with | .str y=>if y=z then none else some (.str y) | _=>none) hb (by rw[XI];exact small63 (by omega)) (fun t ht R N h1 h2=>?_) ?_
 ·obtain⟨y,_,rfl⟩:=XR.mp ht
  refine⟨_,rfl,_,rfl,neS rfl ⟨_,rfl,?_⟩⟩
  by_cases c:y=z
  ·refine Zee (by rw[c,XU];rfl) (h2 ?_)
   show(if y=z then none else _)=none
   rw[XY c]
  ·refine Zf6 (by rw[beq_eq_false_iff_ne.mpr c];rfl) ⟨_,rfl,h1 _ ?_⟩
   show(if y=z then none else _)=_
   rw[XX c]
 ·have e:(pl.map T.str).filterMap (fun t=>match t with | .str y=>if y=z then none else some (.str y) | _=>none)=(pl.filter fun y=>decide (y≠z)).map T.str:=by
   rw[List.filterMap_map,←List.filterMap_eq_filter,List.map_filterMap]
   congr 1
   funext y
   show(if y=z then none else some (T.str y))=Option.map T.str (if decide (y≠z)=true then some y else none)
   by_cases c:y=z
   ·simp[c]
   ·simp[c]
  rw[e]
  exact q
theorem Zyi {B:WS}{D:We}{τ:Sw}{z u v:Str}{i j m:Nat}(hi:τ[i]?=some (some (.ref b)))(hj:τ[j]?=some (some (.str z)))(hb:C b=some (.lst (pl.map T.str)))(h:PlOk pl)(hf:pl.filter (fun y=>decide (y≠z))=[u,v])(q:∀p2,C p2=none→B D (τ.set m (some (.str u))) (up C p2 (.lst ([u,v].map T.str)))):
  Zq (Z3 (Zh Zu (Za6 [none,some j] (iSeq (Zd i)) (gNm 0) (tBl (Zh wNe (Zd 0) (Zd 1))) (Zd 0)) (eC (.int 0))) (gNm m)) B D τ C:=by
 show Za6 [none,some j] (iSeq (Zd i)) (gNm 0) (tBl (Zh wNe (Zd 0) (Zd 1))) (Zd 0) τ C (fun x C1=>Zu x (.int 0) C1 fun y C2=>B D (τ.set m (some y)) C2) D.xc
 refine Zu4 hi hj hb h fun p2 hp2=>?_
 rw[hf]
 exact⟨_,_,Zn,Yb,q p2 hp2⟩
theorem Zyh {B:WS}{D:We}{τ:Sw}{z u v:Str}{i j m:Nat}(hi:τ[i]?=some (some (.ref b)))(hj:τ[j]?=some (some (.str z)))(hb:C b=some (.lst (pl.map T.str)))(h:PlOk pl)(hf:pl.filter (fun y=>decide (y≠z))=[u,v])(q:∀p2,C p2=none→B D (τ.set m (some (.ref p2))) (up C p2 (.lst ([u,v].map T.str)))):
  Zq (Z3 (Za6 [none,some j] (iSeq (Zd i)) (gNm 0) (tBl (Zh wNe (Zd 0) (Zd 1))) (Zd 0)) (gNm m)) B D τ C:=by
 show Za6 [none,some j] (iSeq (Zd i)) (gNm 0) (tBl (Zh wNe (Zd 0) (Zd 1))) (Zd 0) τ C (fun x C1=>B D (τ.set m (some x)) C1) D.xc
 refine Zu4 hi hj hb h fun p2 hp2=>?_
 rw[hf]
 exact q p2 hp2
theorem s_own (ih:Zkl k)(e:Env (k+1) C p a b ds ns pl Γ)(q:∀t C' (ds':List Int),ExB p C C'→C' p=some (.lst (ds'.map T.int))→ok 0 (2*k+5) Γ t→Q (tt t) C'):wpc pr (n+2*k+4) Zq7 [.str kd,.int x,.ref p,.ref a,.ref b,.int ((k+1:Nat):Int)] C Q χ:=by
 refine Zp7 rfl ?_
 have e0:=e.dn
 have t1:Zdl (wpc pr (n+2*k+3)) (ZUD Q χ) [some (.str kd),some (.int x),some (.ref p),some (.ref a),some (.ref b),some (.int ((k+1:Nat):Int)),none,none,none] C:=by
  refine⟨_,rfl,_,rfl,_,rfl,_,rfl,?_⟩
  dsimp only[Zf,Jl,eC]
  refine tcall ih ck e0 fun t1 C1 d1 x1 h1 o1=>?_
  refine⟨ZNB rfl,fun p2 hp2=>⟨_,rfl,J5 rfl (.inr ⟨_,rfl,?_⟩)⟩⟩
  have E2:ExB p C (up C1 p2 (.lst [.str "Cons",.str "Pair"])):=x1.trans ((Ex.new hp2).exB p)
  have e2:=e0.on E2 (by rw[Zw (cne h1 hp2)];exact h1)
  have fin:∀c:Str,(c="Cons"∨c="Pair")→Zb (Zv (Zb (Zd 6) (Zb (Z5 (wpc pr (n+2*k+3)) 44 (Zb (eC (.str "l")) (Zb (Zd 2) (Zb (Zd 3) (Zb (Zd 4) (Zb (Zh Jl (Zd 5) (eC (.int 1))) Zf)))))) Zf))) Zf [some (.str kd),some (.int x),some (.ref p),some (.ref a),some (.ref b),some (.int ((k+1:Nat):Int)),some (tt t1),none,none] (up C1 p2 (.lst [.str "Cons",.str "Pair"])) (fun xs C1=>([T.str "shape",T.str c]++xs).length≤sizeLine∧Q (.tup ([T.str "shape",T.str c]++xs)) C1) χ:=fun c hc=>by
   refine⟨_,rfl,_,rfl,_,rfl,_,rfl,_,rfl,?_⟩
   dsimp only[Zf,Jl,eC]
   refine tcall ih ck e2 fun t2 C3 d3 x3 h3 o3=>?_
   refine⟨ZNB rfl,ZNB rfl,?_⟩
   refine q (.shp2 c t1 t2) C3 d3 (E2.trans x3) h3 ⟨by omega,by rcases hc with rfl | rfl;exact arC;exact arP,okd o1 (by omega),okd o3 (by omega)⟩
  cases hk:(kd==("p":Str)) with
  | true=>exact⟨_,_,Zn,Yu,fin "Pair" (.inr rfl)⟩
  | false=>exact⟨_,_,Zn,Yb,fin "Cons" (.inl rfl)⟩
 have t2:Zdk (wpc pr (n+2*k+3)) (ZUD Q χ) [some (.str kd),some (.int x),some (.ref p),some (.ref a),some (.ref b),some (.int ((k+1:Nat):Int)),none,none,none] C:=by
  refine⟨_,rfl,J5 rfl ⟨_,rfl,Y1 ?_ t1⟩⟩
  refine⟨_,rfl,by decide,eqIc rfl ⟨_,rfl,Y1 ?_ t1⟩⟩
  refine⟨_,rfl,_,rfl,_,rfl,_,rfl,?_⟩
  dsimp only[Zf,Jl,eC]
  refine tcall ih ck e0 fun t1 C1 d1 x1 h1 o1=>?_
  have e1:=e0.on x1 h1
  refine⟨ZNB rfl,_,rfl,ZNB rfl,_,rfl,_,rfl,_,rfl,_,rfl,?_⟩
  dsimp only[Zf,Jl,eC]
  refine tcall ih ck e1 fun t2 C2 d2 x2 h2 o2=>?_
  refine⟨ZNB rfl,?_⟩
  exact q (.call (.call (.nm "each") t1) t2) C2 d2 (x1.trans x2) h2 ⟨by omega,⟨by omega,e.ea,okd o1 (by omega)⟩,okd o2 (by omega)⟩
 have t3:Zdj (wpc pr (n+2*k+3)) (ZUD Q χ) [some (.str kd),some (.int x),some (.ref p),some (.ref a),some (.ref b),some (.int ((k+1:Nat):Int)),none,none,none] C:=by
  refine⟨_,rfl,J5 rfl ⟨_,rfl,Y1 ?_ t2⟩⟩
  refine⟨_,rfl,by decide,eqIc rfl ⟨_,rfl,Y1 ?_ t2⟩⟩
  refine⟨ZNB rfl,_,rfl,_,rfl,_,rfl,_,rfl,?_⟩
  dsimp only[Zf,Jl,eC]
  refine tcall ih ck e0 fun t1 C1 d1 x1 h1 o1=>?_
  refine⟨ZNB rfl,?_⟩
  exact q (.call (.nm "from") t1) C1 d1 x1 h1 ⟨by omega,e.fr,okd o1 (by omega)⟩
 have t4:Zdi (wpc pr (n+2*k+3)) (ZUD Q χ) [some (.str kd),some (.int x),some (.ref p),some (.ref a),some (.ref b),some (.int ((k+1:Nat):Int)),none,none,none] C:=by
  refine⟨_,rfl,J5 rfl ⟨_,rfl,Y1 ?_ t3⟩⟩
  obtain⟨z,hz,hat⟩:=Zmp e.hb e.pl x
  refine⟨_,rfl,_,rfl,_,rfl,_,rfl,_,e.hb,Zql e.pl,_,_,e.hb,hat,?_⟩
  refine⟨_,rfl,_,rfl,_,rfl,_,rfl,?_⟩
  dsimp only[Zf,Zb,eC]
  refine Ze9 (n:=n+2*k+2) e.ha e.hn (e.pl.s z hz) (by have:=e.hl;omega) fun p2 ns2 C1 E1 hp2 h2 n2 l2=>?_
  have e1:=e.bind E1 hp2 h2 n2 (by omega) (fun y hy=>XV _ hy)
  refine⟨_,rfl,_,rfl,?_⟩
  dsimp only[Zf,Jl,eC]
  refine tcall ih ck e1 fun t1 C2 d2 x2 h3 o1=>?_
  refine⟨ZNB rfl,?_⟩
  exact q (.fn z t1) C2 d2 ((E1.exB p).trans x2) h3 ⟨by omega,e.pl.s z hz,okd o1 (by omega)⟩
 have t5:Zdh (wpc pr (n+2*k+3)) (ZUD Q χ) [some (.str kd),some (.int x),some (.ref p),some (.ref a),some (.ref b),some (.int ((k+1:Nat):Int)),none,none,none] C:=by
  refine⟨_,rfl,_,rfl,Y1 ?_ t4⟩
  refine⟨_,rfl,_,rfl,_,rfl,_,rfl,?_⟩
  dsimp only[Zf,Jl,eC]
  refine tcall ih ck e0 fun t1 C1 d1 x1 h1 o1=>?_
  have e1:=e0.on x1 h1
  refine⟨_,rfl,_,rfl,_,rfl,_,rfl,?_⟩
  dsimp only[Zf,Jl,eC]
  refine tcall ih ck e1 fun t2 C2 d2 x2 h2 o2=>?_
  refine⟨_,rfl,J5 rfl ⟨_,rfl,Y1 ?_ ?_⟩⟩
  ·obtain⟨ch,hc⟩:=c_at (z:="+-*") (n:=3) (x:=x/3) (by decide+kernel) (by decide)
   refine⟨_,rfl,⟨by decide,by decide⟩,by decide,by decide,ch,hc,_,rfl,_,rfl,ZNB rfl,?_⟩
   exact q (.does ⟨#[ch]⟩ t1 t2) C2 d2 (x1.trans x2) h2 ⟨by omega,okd o1 (by omega),okd o2 (by omega)⟩
  ·obtain⟨ch,hc⟩:=c_at (z:="<=") (n:=2) (x:=x/3) (by decide+kernel) (by decide)
   refine⟨_,rfl,⟨by decide,by decide⟩,by decide,by decide,ch,hc,_,rfl,_,rfl,ZNB rfl,?_⟩
   exact q (.does ⟨#[ch]⟩ t1 t2) C2 d2 (x1.trans x2) h2 ⟨by omega,okd o1 (by omega),okd o2 (by omega)⟩
 refine⟨_,rfl,J5 rfl ⟨_,rfl,Y1 ?_ t5⟩⟩
 refine⟨_,rfl,by decide,eqIc rfl ⟨_,rfl,Y1 ?_ t5⟩⟩
 refine⟨_,rfl,_,rfl,_,rfl,_,rfl,?_⟩
 dsimp only[Zf,Jl,eC]
 refine tcall ih ck e0 fun t1 C1 d1 x1 h1 o1=>?_
 have e1:=e0.on x1 h1
 refine⟨_,rfl,_,rfl,_,rfl,_,rfl,_,rfl,?_⟩
 dsimp only[Zf,Jl,eC]
 refine tcall ih ck e1 fun t2 C2 d2 x2 h2 o2=>?_
 refine⟨ZNB rfl,?_⟩
 exact q (.call t1 t2) C2 d2 (x1.trans x2) h2 ⟨by omega,okd o1 (by omega),okd o2 (by omega)⟩
theorem c_lp {x:Int}(h:¬x%3=0):∃c,atI (Str.ofString "lp").cps.toList (x%3-1)=some c:=by
 have h0:x%3=1∨x%3=2:=by omega
 rcases h0 with e | e<;>rw[e]
 ·exact⟨_,rfl⟩
 ·exact⟨_,rfl⟩
theorem Zva (ih:Zkl k)(e:Env (k+1) C p a b ds ns pl Γ)(q:∀t C' (ds':List Int),ExB p C C'→C' p=some (.lst (ds'.map T.int))→ok 0 (2*k+5) Γ t→Q (tt t) C'):wpc pr (n+2*k+4) Zk2 [.str kd,.int x,.ref p,.ref a,.ref b,.int ((k+1:Nat):Int)] C Q χ:=by
 refine Zko rfl ?_
 have e0:=e.dn
 refine⟨_,rfl,by decide,eqIc rfl ⟨_,rfl,Zhf (fun _=>?_) (fun hx3=>?_)⟩⟩
 ·refine⟨_,rfl,_,rfl,_,rfl,_,rfl,?_⟩
  dsimp only[Zf,Jl,eC]
  refine tcall ih ck e0 fun t1 C1 d1 x1 h1 o1=>?_
  have e1:=e0.on x1 h1
  refine⟨_,rfl,_,rfl,_,rfl,_,rfl,_,rfl,?_⟩
  dsimp only[Zf,Jl,eC]
  refine tcall ih ck e1 fun t2 C2 d2 x2 h2 o2=>?_
  have e2:=e1.on x2 h2
  refine⟨_,rfl,XO _,_,rfl,ZNB rfl,XO _,_,rfl,_,rfl,_,rfl,_,rfl,_,rfl,?_⟩
  dsimp only[Zf,Jl,eC]
  refine tcall ih ck e2 fun t3 C3 d3 x3 h3 o3=>?_
  refine⟨ZNB rfl,ZNB rfl,ZNB rfl,?_⟩
  have:=q (chL t1 [("No",[],t2),("Yes",[],t3)]) C3 d3 ((x1.trans x2).trans x3) h3 (Zmt (by omega) (by simp) (fun z hz=>?_) (okd o1 (by omega)) (fun z hz=>?_))
  ·rw[Zmc] at this;exact this
  ·simp only[ZM,ZN,or_false] at hz
   rcases hz with rfl | rfl
   ·exact⟨arO.2.symm,List.nodup_nil⟩
   ·exact⟨arY.2.symm,List.nodup_nil⟩
  ·simp only[ZM,ZN,or_false] at hz
   rcases hz with rfl | rfl
   ·exact okd o2 (by omega)
   ·exact okd o3 (by omega)
 ·have hx3':¬x%3=0:=by simpa using hx3
  obtain⟨z,hz,hat⟩:=Zmp e.hb e.pl (x/3)
  obtain⟨u,v,hf,hnd,lu,lv⟩:=Zru e.pl hz
  have hzu:z≠u:=by simp only[List.nodup_cons,List.mem_cons,not_or] at hnd;exact hnd.1.1
  refine⟨_,rfl,_,rfl,⟨by decide,by decide⟩,_,rfl,_,rfl,_,e.hb,Zql e.pl,_,_,e.hb,hat,?_⟩
  refine Zyi rfl rfl e.hb e.pl hf fun p2 hp2=>?_
  have E1:Ex C (up C p2 (.lst ([u,v].map T.str))):=Ex.new hp2
  generalize up C p2 (.lst ([u,v].map T.str))=C1 at E1
  have e1:=e.ex E1
  obtain⟨ch,hc⟩:=c_lp hx3'
  refine⟨_,rfl,by decide,by decide,ch,hc,_,rfl,_,rfl,_,rfl,_,rfl,?_⟩
  dsimp only[Zf,Jl,eC]
  refine tcall ih ck e1.dn fun t1 C2 d2 x2 h2 o2=>?_
  have e2:=e1.on x2 h2
  refine⟨_,rfl,_,rfl,?_⟩
  dsimp only[Zf,Zb,eC]
  refine Ze9 (n:=n+2*k+2) e2.ha e2.hn (e.pl.s z hz) (by have:=e.hl;omega) fun p3 ns3 C3 E3 hp3 h3 n3 l3=>?_
  refine⟨_,rfl,?_⟩
  dsimp only[Zf,Zb,eC]
  refine Ze9 (n:=n+2*k+2) h3 n3 lu (by have:=e.hl;omega) fun p4 ns4 C4 E4 hp4 h4 n4 l4=>?_
  have E34:Ex C2 C4:=E3.trans E4
  have e4:Env k C4 p p4 b d2 ns4 pl ([z,u]++Γ):=e2.bind E34 (E3.free hp4) h4 (fun y hy=>⟨by have:=(n4 y hy).1;simp only[List.mem_cons,List.cons_append,List.nil_append] at this ⊢;exact or_left_comm.mp this,(n4 y hy).2⟩) (by omega) (fun y hy=>List.mem_append_right _ hy)
  refine⟨_,rfl,_,rfl,_,rfl,_,rfl,_,rfl,?_⟩
  dsimp only[Zf,Jl,eC]
  refine tcall ih ck e4 fun t2 C5 d5 x5 h5 o5=>?_
  have X5:ExB p C C5:=((((E1.exB p).trans x2).trans (E34.exB p)).trans x5)
  have nzu:([z,u]:List Str).Nodup:=by simp[hzu]
  refine⟨_,rfl,by decide,eqIc rfl ⟨_,rfl,Y1 ?_ ?_⟩⟩
  ·refine⟨_,rfl,_,rfl,_,rfl,ZNB rfl,_,rfl,ZNB rfl,ZNB rfl,ZNB rfl,?_⟩
   have:=q (chL t1 [("Pair",[z,u],t2)]) C5 d5 X5 h5 (Zmt (by omega) (by simp) (fun y hy=>?_) (okd o2 (by omega)) (fun y hy=>?_))
   ·rw[Zmc] at this;exact this
   ·rw[XQ.mp hy];exact⟨arP.2.symm,nzu⟩
   ·rw[XQ.mp hy];exact okd o5 (by omega)
  ·refine⟨_,rfl,XO _,_,rfl,_,rfl,⟨by decide,by decide⟩,_,rfl,?_⟩
   dsimp only[Zf]
   have ha5:C5 a=some (.lst (ns.map npT)):=X5 _ _ e.nap e.ha
   refine Zqg (n:=n+2*k+1) ha5 e.hn (by have:=e.hl;omega) fun t3 C6 E6 o6=>?_
   refine⟨ZNB rfl,_,rfl,_,rfl,ZNB rfl,_,rfl,ZNB rfl,ZNB rfl,ZNB rfl,?_⟩
   have:=q (chL t1 [("Nil",[],t3),("Cons",[z,u],t2)]) C6 d5 (X5.trans (E6.exB p)) (E6 _ _ h5) (Zmt (by omega) (by simp) (fun y hy=>?_) (okd o2 (by omega)) (fun y hy=>?_))
   ·rw[Zmc] at this;exact this
   ·simp only[ZM,ZN,or_false] at hy
    rcases hy with rfl | rfl
    ·exact⟨arN.2.symm,List.nodup_nil⟩
    ·exact⟨arC.2.symm,nzu⟩
   ·simp only[ZM,ZN,or_false] at hy
    rcases hy with rfl | rfl
    ·exact okd o6 (by omega)
    ·exact okd o5 (by omega)
end
open PySem PySem.Spec PyProof.Rows L2 WL
section
variable {C C':Hw}{Q:WK}{χ:WX}{n k:Nat}{p a b:Addr}{ds ds':List Int}{ns:List (Str×Str)}{pl Γ:List Str}{kd:Str}{x:Int}
theorem Zuk {τr:List (Option T)}{D:We}{P:Calls}(hp:C p=some (.lst (ds.map T.int)))(q:∀d (r:List Int) C1,ExB p C C1→C1 p=some (.lst (r.map T.int))→Zco P D [some (.str kd),some (.ref p),some (.ref a),some (.ref b),some (.int (k:Int)),some (.int d),none,none,none,none,none,none,none] C1):
  Zb0 P D [some (.str kd),some (.ref p),some (.ref a),some (.ref b),some (.int (k:Int)),none,none,none,none,none,none,none,none] C:=by
 refine⟨_,rfl,_,rfl,_,hp,decide (((ds.map T.int).length:Int)>0),rfl,?_⟩
 cases ds with
 | nil=>exact Zee (YG (by decide)) (q 0 [] C (ExB.refl _ _) hp)
 | cons d r=>
  refine Zf6 (decide_eq_true (by rw[XI,YF];omega)) ?_
  refine⟨_,rfl,⟨_,_,rfl,hp⟩,_,_,_,0,_,rfl,rfl,hp,by decide,by decide,seq0 (Nat.succ_pos _),rfl,?_⟩
  exact q d r (up C p (.lst (r.map T.int))) (ExB.put (ExB.refl _ _)) Zn
theorem tcall1 (ih:Zkl k){x:Int}(hx:x=k)(e:Env k C p a b ds ns pl Γ)(q:∀t C' (ds':List Int),ExB p C C'→C' p=some (.lst (ds'.map T.int))→ok 0 (2*k+3) Γ t→Q (tt t) C'):wpc pr (n+2*(k+1)+2) Ze6 [.str kd,.ref p,.ref a,.ref b,.int x] C Q χ:=by
 rw[show n+2*(k+1)+2=(n+1)+2*k+3 by omega]
 exact tcall ih hx e q
theorem Zpd {α:Type}(zs:List α)(y:α)(i:Nat):(zs.take i++y::zs.drop i).Perm (y::zs):=by
 have:=List.perm_middle (a:=y) (l₁:=zs.take i) (l₂:=zs.drop i)
 rwa [List.take_append_drop] at this
theorem Zr8 {α β:Type}(f:α→β)(l:List α)(y:α)(i:Nat):(l.map f).take i++f y::(l.map f).drop i=(l.take i++y::l.drop i).map f:=by
 rw[XL,YI,List.map_take,List.map_drop]
theorem Zuj {zs:List (Str×Tm)}{ys:List Str}(hp:(zs.map (·.1)).Perm ys){t:Tm}{d:Nat}(h:ok 0 d (ys++Γ) t):ok 0 d (zs.map (·.1)++Γ) t:=Zmr h fun x hx=>by
 rcases XS.mp hx with hx | hx
 ·exact List.mem_append_left _ (hp.mem_iff.mpr hx)
 ·exact XT _ hx
theorem Zqd:∀k,Zkl k:=by
 intro k
 induction k with
 | zero=>
  intro n C Q χ kd p a b ds ns pl Γ e q
  refine Zid rfl (Zuk (k:=0) (τr:=[]) e.hp fun d r C1 x1 h1=>?_)
  refine⟨_,rfl,eqIc (v:=true) rfl ⟨true,rfl,Jj (Jj ?_)⟩⟩
  refine⟨_,rfl,_,rfl,⟨by decide,by decide⟩,_,rfl,?_⟩
  dsimp only[Zf]
  have e1:=e.on x1 h1
  exact Zqg (n:=n) e1.ha e1.hn (by have:=e.hl;omega) fun t C2 E2 o2=>q t C2 r (x1.trans (E2.exB p)) (E2 _ _ h1) (okd o2 (by omega))
 | succ k ih=>
  intro n C Q χ kd p a b ds ns pl Γ e q
  refine Zid rfl (Zuk (k:=k+1) (τr:=[]) e.hp fun d r C1 x1 h1=>?_)
  have e1:=e.on x1 h1
  have hl9:ns.length≤100:=by have:=e.hl;omega
  have leaf:Z5 (wpc pr (n+2*(k+1)+2)) 40 (Zb (Zd 0) (Zb (Zh wDiv (Zd 5) (eC (.int 8))) (Zb (Zd 2) Zf))) [some (.str kd),some (.ref p),some (.ref a),some (.ref b),some (.int ((k+1:Nat):Int)),some (.int d),none,none,none,none,none,none,none] C1 Q χ:=by
   refine⟨_,rfl,_,rfl,⟨by decide,by decide⟩,_,rfl,?_⟩
   dsimp only[Zf]
   exact Zqg (n:=n+2*k+2) e1.ha e1.hn (by omega) fun t C2 E2 o2=>q t C2 r (x1.trans (E2.exB p)) (E2 _ _ h1) (okd o2 (by omega))
  refine⟨_,rfl,eqIc rfl ⟨_,rfl,Y1 (Jj leaf) ?_⟩⟩
  refine⟨_,rfl,_,rfl,_,h1,eqIc rfl ⟨_,rfl,Y1 (Jj leaf) ?_⟩⟩
  refine⟨_,rfl,by decide,eqIc rfl ⟨_,rfl,Y1 leaf ?_⟩⟩
  refine⟨_,rfl,by decide,?_⟩
  refine⟨_,rfl,⟨by decide,by decide⟩,?_⟩
  have hw0:0≤d%8:=by omega
  have hw1:d%8<8:=by omega
  generalize d%8=w at hw0 hw1
  generalize d/8=x
  refine⟨_,rfl,_,rfl,Zhf (fun _=>?_) (fun c4=>?_)⟩
  ·refine⟨_,rfl,_,rfl,_,rfl,_,rfl,_,rfl,_,rfl,?_⟩
   dsimp only[Zf]
   exact s_own (n:=n) ih e1 fun t C2 d2 x2 h2 o2=>q t C2 d2 (x1.trans x2) h2 (okd o2 (by omega))
  refine⟨_,rfl,eqIc rfl ⟨_,rfl,Y1 ?_ ?_⟩⟩
  ·refine⟨_,rfl,_,rfl,_,rfl,_,rfl,_,rfl,_,rfl,?_⟩
   dsimp only[Zf]
   exact Zva (n:=n) ih e1 fun t C2 d2 x2 h2 o2=>q t C2 d2 (x1.trans x2) h2 (okd o2 (by omega))
  obtain⟨ch,hc⟩:=c_at (z:="nlftp") (n:=5) (x:=x) (by decide+kernel) (by decide)
  refine⟨_,rfl,by decide,by decide,ch,hc,?_⟩
  generalize (⟨#[ch]⟩:Str)=oth
  refine⟨_,rfl,eqIc rfl ⟨_,rfl,Y1 ?_ ?_⟩⟩
  ·refine⟨_,rfl,_,rfl,_,rfl,_,rfl,_,rfl,?_⟩
   dsimp only[Zf,Jl,eC]
   refine tcall1 (n:=n) ih ck e1.dn fun t1 C2 d2 x2 h2 o2=>?_
   have e2:=e1.dn.on x2 h2
   refine⟨_,rfl,_,rfl,_,rfl,_,rfl,_,rfl,_,rfl,?_⟩
   dsimp only[Zf,Jl,eC]
   refine tcall1 (n:=n) ih ck e2 fun t2 C3 d3 x3 h3 o3=>?_
   refine⟨ZNB rfl,?_⟩
   exact q (.first t1 t2) C3 d3 ((x1.trans x2).trans x3) h3 ⟨by omega,okd o2 (by omega),okd o3 (by omega)⟩
  obtain⟨z,hz,hat⟩:=Zmp e1.hb e1.pl (x/5)
  have lz:=e1.pl.s z hz
  refine⟨_,rfl,_,rfl,⟨by decide,by decide⟩,_,rfl,_,rfl,_,e1.hb,Zql e1.pl,_,_,e1.hb,hat,?_⟩
  refine⟨_,rfl,_,rfl,_,rfl,?_⟩
  dsimp only[Zf]
  refine Ze9 (n:=n+2*k+3) e1.ha e1.hn lz (by omega) fun p2 ns2 C2 E2 hp2 h2 n2 l2=>?_
  have e2:=e1.ex E2
  refine⟨_,rfl,eqIc rfl ⟨_,rfl,Y1 ?_ ?_⟩⟩
  ·refine⟨_,rfl,_,rfl,_,rfl,_,rfl,_,rfl,?_⟩
   dsimp only[Zf,Jl,eC]
   refine tcall1 (n:=n) ih ck e2.dn fun t1 C3 d3 x3 h3 o3=>?_
   have e3:Env k C3 p p2 b d3 ns2 pl (z::Γ):=(e1.bind E2 hp2 h2 n2 (by omega) (fun y hy=>XV _ hy)).on x3 h3
   refine⟨_,rfl,_,rfl,_,rfl,_,rfl,_,rfl,_,rfl,?_⟩
   dsimp only[Zf,Jl,eC]
   refine tcall1 (n:=n) ih ck e3 fun t2 C4 d4 x4 h4 o4=>?_
   refine⟨ZNB rfl,_,rfl,ZNB rfl,?_⟩
   exact q (.call (.fn z t2) t1) C4 d4 (((x1.trans (E2.exB p)).trans x3).trans x4) h4 ⟨by omega,⟨by omega,lz,okd o4 (by omega)⟩,okd o3 (by omega)⟩
  obtain⟨u,v,hf,hnd,lu,lv⟩:=Zru e1.pl hz
  refine Zyh rfl rfl e2.hb e2.pl hf fun p3 hp3=>?_
  have E3:Ex C2 (up C2 p3 (.lst ([u,v].map T.str))):=Ex.new hp3
  have h3:(up C2 p3 (.lst ([u,v].map T.str))) p3=some (.lst ([u,v].map T.str)):=Zn
  generalize up C2 p3 (.lst ([u,v].map T.str))=C3 at E3 h3
  refine⟨_,rfl,_,rfl,_,_,h3,Yb,?_⟩
  dsimp only[Zf,Zb,eC]
  refine Ze9 (n:=n+2*k+3) (E3 _ _ h2) n2 lu (by omega) fun p4 ns4 C4 E4 hp4 h4 n4 l4=>?_
  have h34:=E4 _ _ h3
  have rest:∀(p5:Addr) (ns5:List (Str×Str)) (C5:Hw) (ys:List Str) (two:Bool),Ex C4 C5→C1 p5=none→C5 p5=some (.lst (ns5.map npT))→NmOk (ys++Γ) ns5→ns5.length≤ns.length+3→ys=(if two=true then[z,u,v] else[z,u])→(two=decide (x/25%2=0))→
    Zcp (wpc pr (n+2*(k+1)+2)) (ZUD Q χ) [some (.str kd),some (.ref p),some (.ref a),some (.ref b),some (.int ((k+1:Nat):Int)),some (.int x),some (.int w),some (.str oth),none,some (.str z),some (.ref p5),some (.ref p3),none] C5:=by
   intro p5 ns5 C5 ys two E5 hp5 h5 n5 l5 hys htw
   have E15:Ex C1 C5:=((E2.trans E3).trans E4).trans E5
   have e5:Env k C5 p p5 b r ns5 pl (ys++Γ):=e1.bind E15 hp5 h5 n5 l5 (fun y hy=>XT _ hy)
   have h35:=E5 _ _ h34
   have p3p:p3≠p:=(cne (E2 _ _ h1) hp3).symm
   have ysn:ys.Nodup:=by
    rw[hys]
    cases two with
    | true=>exact hnd
    | false=>
     show([z,u]:List Str).Nodup
     simp only[List.nodup_cons,List.mem_cons,List.not_mem_nil,or_false,not_or,not_false_eq_true,List.nodup_nil,and_true] at hnd ⊢
     exact hnd.1.1
   refine⟨_,rfl,_,rfl,_,rfl,_,rfl,_,rfl,_,rfl,?_⟩
   dsimp only[Zf,Jl,eC]
   refine tcall1 (n:=n) ih ck e5 fun t1 C6 d6 x6 h6 o6=>?_
   refine⟨ZNB rfl,ZNB rfl,fun p7 hp7=>?_⟩
   have n7p:p7≠p:=(cne h6 hp7).symm
   have hp75:C5 p7=none:=by
    cases hh:C5 p7 with
    | none=>rfl
    | some o=>have:=x6 _ _ n7p hh;rw[hp7] at this;cases this
   have X7:ExB p C5 (up C6 p7 (.lst [.tup [.str z,tt t1]])):=x6.new hp75
   have h7:(up C6 p7 (.lst [.tup [.str z,tt t1]])) p7=some (.lst ([(z,t1)].map pzT)):=Zn
   have h7p:(up C6 p7 (.lst [.tup [.str z,tt t1]])) p=some (.lst (d6.map T.int)):=by rw[Zw n7p.symm];exact h6
   generalize up C6 p7 (.lst [.tup [.str z,tt t1]])=C7 at X7 h7 h7p
   have e7:=e5.on X7 h7p
   have done:∀(zs:List (Str×Tm)) (C9:Hw) (d9:List Int),ExB p C5 C9→C9 p=some (.lst (d9.map T.int))→C9 p7=some (.lst (zs.map pzT))→(zs.map (·.1)).Perm ys→1≤zs.length→zs.length≤5→(∀y∈zs,ok 0 (2*k+3) (ys++Γ) y.2)→(∀y∈zs,gl y.1)→
     Zcq (wpc pr (n+2*(k+1)+2)) (ZUD Q χ) [some (.str kd),some (.ref p),some (.ref a),some (.ref b),some (.int ((k+1:Nat):Int)),some (.int x),some (.int w),some (.str oth),none,some (.str z),some (.ref p5),some (.ref p3),some (.ref p7)] C9:=by
    intro zs C9 d9 X9 h9 h97 pm hz1 hz5 hzo hzl
    have e9:=e5.on X9 h9
    refine⟨_,rfl,_,rfl,_,h97,_,rfl,_,rfl,_,rfl,_,rfl,_,rfl,?_⟩
    dsimp only[Zf,Jl,eC]
    refine tcall1 (n:=n) ih ck e9 fun t4 Cx dx xx hx ox=>?_
    refine⟨ZNB rfl,?_⟩
    have:=q (ltL zs t4) Cx dx (((x1.trans (E15.exB p)).trans X9).trans xx) hx (Zv4 (by omega) hz1 hz5 (pm.nodup_iff.mpr ysn) hzl (fun y hy=>okd (Zuj pm (hzo y hy)) (by omega)) (okd (Zuj pm ox) (by omega)))
    rw[Zui] at this
    exact this
   refine⟨_,rfl,⟨_,_,rfl,h7⟩,_,rfl,⟨by decide,by decide⟩,by decide,_,rfl,_,_,X7 _ _ p3p h35,Yb,_,rfl,_,rfl,_,rfl,_,rfl,?_⟩
   dsimp only[Zf,Jl,eC]
   refine tcall1 (n:=n) ih ck e7 fun t2 C8 d8 x8 h8 o8=>?_
   have h87:=x8 _ _ n7p h7
   have hi0:0≤x/50%2:=by omega
   have hi1:(x/50%2).toNat≤1:=by omega
   refine⟨ZNB rfl,_,_,_,_,rfl,rfl,h87,hi0,by rw[XI];exact hi1,ZNB rfl,?_⟩
   generalize (x/50%2).toNat=i2 at hi1
   have ez:([(z,t1)].map pzT).take i2++.tup [.str u,tt t2]::([(z,t1)].map pzT).drop i2=([(z,t1)].take i2++(u,t2)::[(z,t1)].drop i2).map pzT:=Zr8 pzT [(z,t1)] (u,t2) i2
   rw[ez]
   have pm:=Zpd [(z,t1)] (u,t2) i2
   generalize [(z,t1)].take i2++(u,t2)::[(z,t1)].drop i2=zs2 at pm
   have X9:ExB p C5 (up C8 p7 (.lst (zs2.map pzT))):=(X7.trans x8).new hp75
   have h9:(up C8 p7 (.lst (zs2.map pzT))) p7=some (.lst (zs2.map pzT)):=Zn
   have h9p:(up C8 p7 (.lst (zs2.map pzT))) p=some (.lst (d8.map T.int)):=by rw[Zw n7p.symm];exact h8
   generalize up C8 p7 (.lst (zs2.map pzT))=C9 at X9 h9 h9p
   have l2:zs2.length=2:=pm.length_eq
   have pm1:(zs2.map (·.1)).Perm [u,z]:=pm.map _
   have ok2:∀y∈zs2,ok 0 (2*k+3) (ys++Γ) y.2∧gl y.1:=fun y hy=>by
    have:=pm.mem_iff.mp hy
    simp only[ZM,ZN,or_false] at this
    rcases this with rfl | rfl
    ·exact⟨o8,lu⟩
    ·exact⟨o6,lz⟩
   refine⟨_,rfl,⟨by decide,by decide⟩,by decide,eqIc rfl ⟨_,rfl,Zhf (fun hb=>?_) (fun hb=>?_)⟩⟩
   ·have h2:two=true:=by rw[htw];exact decide_eq_true (by simpa using hb)
    subst h2
    have e9:=e5.on X9 h9p
    refine⟨_,rfl,⟨_,_,rfl,h9⟩,_,rfl,⟨by decide,by decide⟩,by decide,_,rfl,_,_,X9 _ _ p3p h35,Yu,_,rfl,_,rfl,_,rfl,_,rfl,?_⟩
    dsimp only[Zf,Jl,eC]
    refine tcall1 (n:=n) ih ck e9 fun t3 Ca da xa ha oa=>?_
    have ha9:=xa _ _ n7p h9
    have hj0:0≤x/100%3:=by omega
    have hj1:(x/100%3).toNat≤2:=by omega
    refine⟨ZNB rfl,_,_,_,_,rfl,rfl,ha9,hj0,by rw[XI,l2];exact hj1,by rw[XI,l2];decide,?_⟩
    generalize (x/100%3).toNat=i3 at hj1
    have ey:(zs2.map pzT).take i3++.tup [.str v,tt t3]::(zs2.map pzT).drop i3=(zs2.take i3++(v,t3)::zs2.drop i3).map pzT:=Zr8 pzT zs2 (v,t3) i3
    rw[ey]
    have pn:=Zpd zs2 (v,t3) i3
    generalize zs2.take i3++(v,t3)::zs2.drop i3=zs3 at pn
    have l3:zs3.length=3:=by rw[pn.length_eq,YF,l2]
    have pn1:(zs3.map (·.1)).Perm ys:=by
     refine(pn.map _).trans ?_
     rw[hys,XY rfl,YI]
     refine(List.Perm.cons v pm1).trans ?_
     show[v,u,z].Perm [z,u,v]
     exact(List.reverse_perm [z,u,v])
    refine done zs3 _ da ((X9.trans xa).new hp75) (by rw[Zw n7p.symm];exact ha) Zn pn1 (by omega) (by omega) (fun y hy=>?_) (fun y hy=>?_)
    ·rcases List.mem_cons.mp (pn.mem_iff.mp hy) with rfl | hy
     ·exact oa
     ·exact(ok2 y hy).1
    ·rcases List.mem_cons.mp (pn.mem_iff.mp hy) with rfl | hy
     ·exact lv
     ·exact(ok2 y hy).2
   ·have h2:two=false:=by rw[htw];exact decide_eq_false (by simpa using hb)
    subst h2
    have pm2:(zs2.map (·.1)).Perm ys:=by
     refine pm1.trans ?_
     rw[hys,XX (by decide)]
     exact(List.reverse_perm [z,u])
    exact done zs2 C9 d8 X9 h9p h9 pm2 (by omega) (by omega) (fun y hy=>(ok2 y hy).1) (fun y hy=>(ok2 y hy).2)
  have f4:C1 p4=none:=((E2.trans E3)).free hp4
  refine⟨_,rfl,⟨by decide,by decide⟩,by decide,eqIc rfl ⟨_,rfl,Zhf (fun hb=>?_) (fun hb=>?_)⟩⟩
  ·refine⟨_,rfl,_,rfl,_,_,h34,Yu,?_⟩
   dsimp only[Zf,Zb,eC]
   refine Ze9 (n:=n+2*k+3) h4 n4 lv (by omega) fun p5 ns5 C5 E5 hp5 h5 n5 l5=>?_
   refine rest p5 ns5 C5 [z,u,v] true E5 (((E2.trans E3).trans E4).free hp5) h5 (fun y hy=>⟨?_,(n5 y hy).2⟩) (by omega) rfl (by rw[decide_eq_true (by simpa using hb)])
   have:=(n5 y hy).1
   simp only[List.mem_cons,List.cons_append,List.nil_append] at this ⊢
   rcases this with h | h | h | h
   ·exact .inr (.inr (.inl h))
   ·exact .inr (.inl h)
   ·exact .inl h
   ·exact .inr (.inr (.inr h))
  ·refine rest p4 ns4 C4 [z,u] false (Ex.refl _) f4 h4 (fun y hy=>⟨?_,(n4 y hy).2⟩) (by omega) rfl (by rw[decide_eq_false (by simpa using hb)])
   have:=(n4 y hy).1
   simp only[List.mem_cons,List.cons_append,List.nil_append] at this ⊢
   exact or_left_comm.mp this
def goM:Tm:=.call (.call (.nm "each") (.nm "f")) (.nm "t")
def Zsf:Tm:=.fn "f" (.fn "l" (chL (.nm "l") [("Nil",[],nilM),("Cons",["h","t"],.shp2 "Cons" (.call (.nm "f") (.nm "h")) goM)]))
theorem Z0a (h:("each":Str)∈Γ):ok 0 7 Γ Zsf:=by
 have l1:gl "f":=⟨by decide+kernel,by decide+kernel⟩
 have l2:gl "l":=⟨by decide+kernel,by decide+kernel⟩
 have hht:(["h","t"]:List Str).Nodup:=by decide+kernel
 refine⟨by decide,l1,by decide,l2,Zmt (by decide) (by simp) (fun z hz=>?_) (List.mem_cons_self) (fun z hz=>?_)⟩
 ·simp only[ZM,ZN,or_false] at hz
  rcases hz with rfl | rfl
  ·exact⟨arN.2.symm,List.nodup_nil⟩
  ·exact⟨arC.2.symm,hht⟩
 ·simp only[ZM,ZN,or_false] at hz
  rcases hz with rfl | rfl
  ·exact arN
  ·refine⟨by decide,arC,⟨by decide,?_,?_⟩,by decide,⟨by decide,?_,?_⟩,?_⟩<;>show(_:Str)∈_<;>simp[h]
theorem Z1y (q:Q (tt Zsf) C):wpc pr (n+1) Zpi [] C Q χ:=by
 refine Zod rfl ?_
 refine⟨ZNB rfl,ZNB rfl,ZNB rfl,ZNB rfl,ZNB rfl,?_⟩
 refine⟨ZNB rfl,ZNB rfl,ZNB rfl,_,rfl,ZNB rfl,ZNB rfl,?_⟩
 refine⟨XO _,XO _,ZNB rfl,ZNB rfl,ZNB rfl,_,rfl,ZNB rfl,ZNB rfl,?_⟩
 refine⟨ZNB rfl,_,rfl,ZNB rfl,ZNB rfl,ZNB rfl,?_⟩
 have e:tt Zsf=.tup [.str "fun",.str "f",.tup [.str "fun",.str "l",tt (chL (.nm "l") [("Nil",[],nilM),("Cons",["h","t"],.shp2 "Cons" (.call (.nm "f") (.nm "h")) goM)])]]:=rfl
 rw[e,Zmc] at q
 exact q
end
open PySem PySem.Spec PyProof.Rows L2 WL
def abH (x:Str):Prop:=∃c r,x.cps.toList=c::r∧(c=97∨c=98)
def kN (i:Nat):Str:=("k":Str)++Str.ofString (toString (0+(i:Int)))
theorem Zi2 (x y:Str):(x++y).cps.toList=x.cps.toList++y.cps.toList:=by
 show(x.cps++y.cps).toList=_
 exact Array.toList_append
theorem Zss {x y:Str}(h:abH x):abH (x++y):=by
 obtain⟨c,r,e,hc⟩:=h
 exact⟨c,r++y.cps.toList,by rw[Zi2,e];rfl,hc⟩
theorem Zzy (i:Nat):∃r,(kN i).cps.toList=107::r:=by
 unfold kN
 rw[Zi2]
 exact⟨(Str.ofString (toString (0+(i:Int)))).cps.toList,rfl⟩
theorem kN_ab {i:Nat}:¬abH (kN i):=fun ⟨c,r,e,hc⟩=>by
 obtain⟨r',e'⟩:=Zzy i
 rw[e'] at e
 injection e with e _
 omega
theorem Z3s {i j:Nat}(h:i<j)(hj:j<3):kN i≠kN j:=by
 have h0:(i=0∧j=1)∨(i=0∧j=2)∨(i=1∧j=2):=by omega
 rcases h0 with⟨rfl,rfl⟩ | ⟨rfl,rfl⟩ | ⟨rfl,rfl⟩<;>decide+kernel
theorem Z3r {i:Nat}(hi:i<3):(Str.ofString (toString (0+(i:Int)))).length≤18∧1≤(kN i).length∧(kN i).length≤19:=by
 have h1:=Zv7 (x:=0+(i:Int)) (by omega) (by omega)
 have h2:(kN i).length=("k":Str).length+(Str.ofString (toString (0+(i:Int)))).length:=YC _ _
 have h3:("k":Str).length=1:=by decide+kernel
 omega
structure PoolI (i:Nat)(pl:List Str):Prop where
 l:pl.length=i
 n:pl.Nodup
 s:∀x∈pl,(1≤x.length∧x.length≤50)∧(abH x∨∃j,j<i∧x=kN j)
theorem PoolI.add {i:Nat}{pl:List Str}(h:PoolI i pl){x:Str}(hl:1≤x.length∧x.length≤50)(hx:abH x∨x=kN i)(hn:x∉pl):PoolI (i+1) (pl++[x]):=by
 refine⟨by rw[List.length_append,h.l];rfl,?_,fun y hy=>?_⟩
 ·rw[List.nodup_append]
  refine⟨h.n,by simp,fun a ha b hb=>?_⟩
  rw[XQ.mp hb]
  exact fun e=>hn (e▸ha)
 ·rcases XS.mp hy with hy | hy
  ·exact⟨(h.s y hy).1,(h.s y hy).2.imp_right fun ⟨j,hj,e⟩=>⟨j,by omega,e⟩⟩
  ·rw[XQ.mp hy]
   exact⟨hl,hx.imp_right fun e=>⟨i,by omega,e⟩⟩
theorem PoolI.new {i:Nat}{pl:List Str}(h:PoolI i pl)(hi:i<3):kN i∉pl:=fun hm=>by
 rcases (h.s _ hm).2 with ha | ⟨j,hj,e⟩
 ·exact kN_ab ha
 ·exact Z3s hj hi e.symm
def sgn:Str:="abcdeghijklmnopqrsuvwxyz0123456789"
section
variable {C C':Hw}{Q:WK}{χ:WX}{n:Nat}{p a b:Addr}{ds ds':List Int}{pl Γ:List Str}{kd:Str}{x:Int}
theorem Z1w {m:Nat}(hp:C p=some (.lst (ds.map T.int)))(h3:ds.length=m+3)
  (q:∀b pl (ds':List Int) C',ExB p C C'→b≠p→C' b=some (.lst (pl.map T.str))→PlOk pl→C' p=some (.lst (ds'.map T.int))→ds'.length=m→Q (.ref b) C'):wpc pr (n+1) Zpg [.ref p] C Q χ:=by
 refine Zob rfl ?_
 refine⟨XO _,fun b hb=>?_⟩
 have nbp:b≠p:=(cne hp hb).symm
 refine⟨_,rfl,by decide,by decide,?_⟩
 refine Znl (n:=3) (fun i τ C'=>∃x3 x4 x5 x6,∃(pl:List Str) (ds':List Int),τ=[some (.ref p),some (.ref b),some (.str sgn),x3,x4,x5,x6]∧ExB p C C'∧C' b=some (.lst (pl.map T.str))∧PoolI i pl∧C' p=some (.lst (ds'.map T.int))∧ds'.length+i=m+3)
  ⟨none,none,none,none,[],ds,rfl,(Ex.new hb).exB p,Zn,⟨rfl,List.nodup_nil,fun x hx=>by cases hx⟩,by rw[Zw nbp.symm];exact hp,by omega⟩ (fun _=>trivial) ?_ ?_
 ·rintro i τ C' N hi ⟨x3,x4,x5,x6,pl,ds',rfl,hE,hb',hI,hp',hl⟩ hN
  obtain⟨d,d1,d2,d3,d4,d5⟩:=popL (ds:=ds') (by omega)
  refine⟨_,rfl,⟨_,_,rfl,hp'⟩,_,_,_,rfl,rfl,hp',d1,?_⟩
  rw[d3]
  have hE2:ExB p C (up C' p (.lst (ds'.dropLast.map T.int))):=hE.put
  have hb2:(up C' p (.lst (ds'.dropLast.map T.int))) b=some (.lst (pl.map T.str)):=by rw[Zw nbp];exact hb'
  have hp2:(up C' p (.lst (ds'.dropLast.map T.int))) p=some (.lst (ds'.dropLast.map T.int)):=Zn
  generalize up C' p (.lst (ds'.dropLast.map T.int))=C2 at hE2 hb2 hp2
  have hab:(Str.ofString "ab").cps.toList.length=2:=by decide+kernel
  obtain⟨ch,hc,hcm⟩:=Zic (xs:=(Str.ofString "ab").cps.toList) (i:=(0+(i:Int))%2) (YO _ (by decide)) (by rw[hab];exact Int.emod_lt_of_pos _ (by decide))
  have hcm':ch=97∨ch=98:=by
   have e:(Str.ofString "ab").cps.toList=[97,98]:=by decide+kernel
   rw[e] at hcm
   simpa using hcm
  have hs34:sgn.cps.toList.length=34:=by decide+kernel
  have hsl:sgn.length≤sizeLine:=by decide+kernel
  obtain⟨sg,hsg⟩:=c_at (z:=sgn) (n:=34) (x:=d) hs34 (by decide)
  refine⟨_,rfl,by decide,by decide,ch,hc,_,rfl,_,rfl,by decide,hsl,sg,hsg,small63 (by show 1+1≤100000;decide),?_⟩
  have ha0:abH ((⟨#[ch]⟩:Str)++⟨#[sg]⟩):=Zss ⟨ch,[],rfl,hcm'⟩
  have hl0:((⟨#[ch]⟩:Str)++⟨#[sg]⟩).length=2:=by rw[YC];rfl
  generalize (⟨#[ch]⟩:Str)++⟨#[sg]⟩=x0 at ha0 hl0
  have hr0:0≤d/34%7:=by omega
  have hr7:d/34%7<7:=by omega
  refine⟨_,rfl,⟨by decide,by decide⟩,by decide,_,rfl,by omega,by omega,?_⟩
  refine Znl (n:=(d/34%7).toNat) (fun j τ C'=>∃x6,∃y:Str,τ=[some (.ref p),some (.ref b),some (.str sgn),some (.int (0+(i:Int))),some (.int d),some (.str y),x6]∧C'=C2∧abH y∧y.length=2+j) ⟨x6,x0,rfl,rfl,ha0,hl0⟩ (fun _=>trivial) ?_ ?_
  ·rintro j τ C' N2 hj ⟨x6,y,rfl,rfl,hay,hly⟩ hN2
   obtain⟨sg,hsg⟩:=c_at (z:=sgn) (n:=34) (x:=d/238+5*(0+(j:Int))*(0+(j:Int))) hs34 (by decide)
   refine⟨_,rfl,_,rfl,_,rfl,⟨by decide,by decide⟩,_,rfl,.inl ⟨by decide,by decide⟩,_,rfl,.inl ⟨by omega,by omega⟩,by decide,hsl,sg,hsg,small63 (by show y.length+1≤_;omega),?_⟩
   exact hN2 _ _ ⟨_,_,rfl,rfl,Zss hay,by rw[YC,hly];rfl⟩
  ·rintro τ C' ⟨x6,y,rfl,rfl,hay,hly⟩
   have hly':1≤y.length∧y.length≤50:=by omega
   have last:∀(D1:We) (z:Str),D1.nx=N→(1≤z.length∧z.length≤50)→(abH z∨z=kN i)→z∉pl→Yt (eMt tyL' Xc (Zd 1) (Zb (Zd 5) Zf)) D1 [some (.ref p),some (.ref b),some (.str sgn),some (.int (0+(i:Int))),some (.int d),some (.str z),x6] C':=fun D1 z hD hz hza hzn=>by
    refine⟨_,rfl,⟨_,_,rfl,hb2⟩,_,rfl,_,_,_,rfl,rfl,hb2,small63' (by rw[XI,hI.l];omega),?_⟩
    rw[hD]
    refine hN _ _ ⟨_,_,_,_,pl++[z],ds'.dropLast,rfl,?_,?_,hI.add hz hza hzn,by rw[Zw nbp.symm];exact hp2,by omega⟩
    ·exact fun c o hc h=>by
      have:c≠b:=fun e=>by subst e;rw[hb] at h;cases h
      rw[Zw this];exact hE2 _ _ hc h
    ·rw[Zn,XL];rfl
   have kk:∀(D1 D2:We),D1.nx=N→D2.nx=Yt (eMt tyL' Xc (Zd 1) (Zb (Zd 5) Zf)) D1→Z3 (Zh wAdd (eC (.str "k")) (eBi Zp0 (Zb (Zd 3) Zf))) (gNm 5) D2 [some (.ref p),some (.ref b),some (.str sgn),some (.int (0+(i:Int))),some (.int d),some (.str y),x6] C':=fun D1 D2 hD1 hD2=>by
    have hk:=Z3r hi
    have hk1:("k":Str).length=1:=by decide+kernel
    refine⟨_,rfl,.inl ⟨_,rfl,Z05 (by omega) (by omega),small63 (by show("k":Str).length+(Str.ofString (toString (0+(i:Int)))).length≤_;omega),?_⟩⟩
    show D2.nx _ _
    rw[hD2]
    exact last D1 (kN i) hD1 (by omega) (.inr rfl) (hI.new hi)
   refine⟨_,rfl,_,rfl,Zx6 hb2 ⟨_,rfl,Zhf (fun _=>Jj (kk _ _ rfl rfl)) (fun hnin=>?_)⟩⟩
   have hnin':y∉pl:=of_decide_eq_false hnin
   refine⟨_,rfl,J5 rfl ⟨_,rfl,Y1 (kk _ _ rfl rfl) ?_⟩⟩
   exact last _ y rfl hly' (.inl hay) hnin'
 ·rintro τ C' ⟨x3,x4,x5,x6,pl,ds',rfl,hE,hb',hI,hp',hl⟩
  exact⟨_,rfl,q b pl ds' C' hE nbp hb' ⟨hI.l,hI.n,fun x hx=>(hI.s x hx).1⟩ hp' (by omega)⟩
theorem Znq {α β:Type}{xs:List α}{f:α→β}{lo hi:Option Int}:cut (xs.map f) lo hi=(cut xs lo hi).map f:=by
 unfold cut
 rw[XI,List.map_take,List.map_drop]
theorem ExB.fresh {p2:Addr}{o:O}(h:C p2=none)(e:ExB p2 (up C p2 o) C'):Ex C C':=fun a u hu=>e _ _ (cne hu h) (by rw[Zw (cne hu h)];exact hu)
def Zuw:Tm:=.fn "n" (.shp2 "Cons" (.nm "n") (.call (.nm "from") (.does "+" (.nm "n") (.num 1))))
theorem Zuv (h:("from":Str)∈Γ):ok 0 4 Γ Zuw:=by
 have l1:gl "n":=⟨by decide+kernel,by decide+kernel⟩
 exact⟨by decide,l1,by decide,arC,List.mem_cons_self,by decide,XV _ h,by decide,List.mem_cons_self,by decide,by decide⟩
theorem Zr3 {c:Nat}{x y:Str}:((⟨#[c]⟩:Str)++x++y).cps.toList=c::(x.cps.toList++y.cps.toList):=by rw[Zi2,Zi2];rfl
theorem Zlr {x y:Str}{c c':Nat}{r r':List Nat}(hx:x.cps.toList=c::r)(hy:y.cps.toList=c'::r')(h:c≠c'):x≠y:=fun e=>by
 rw[e,hy] at hx
 injection hx with hx _
 exact h hx.symm
theorem Zu9 (hp:C p=some (.lst (ds.map T.int)))(hb:C b=some (.lst (pl.map T.str)))(hpl:PlOk pl)(q:∀t C',Ex C C'→ok 0 12 [] t→isVt t=false→Q (tt t) C'):wpc pr (n+13) Zk1 [.str kd,.ref p,.ref b,.int 4] C Q χ:=by
 refine Zkn rfl ?_
 have h1:=hpl.l
 have h3:=hpl.s5
 match pl,h1,hb,hpl,h3 with
 | [u,v,w],_,hb,hpl,h3=>
  have lu:=h3 u (by simp)
  have lv:=h3 v (by simp)
  have lc:("c":Str).length=1:=by decide+kernel
  have ld:("d":Str).length=1:=by decide+kernel
  have l0:("0":Str).length=1:=by decide+kernel
  have su:=Txt.slice_le u (some 1) (some 5)
  have sv:=Txt.slice_le v (some 1) (some 5)
  refine⟨_,rfl,_,_,hb,Yb,_,rfl,_,rfl,small63 (by omega),small63 (by omega),small63 (by rw[YC];omega),?_⟩
  refine⟨_,rfl,_,_,hb,Yu,_,rfl,_,rfl,small63 (by omega),small63 (by omega),small63 (by rw[YC];omega),?_⟩
  have hnl:gl (("c":Str)++Txt.slice u (some 1) (some 5)++("0":Str)):=by constructor<;>(rw[YC,YC];omega)
  have hll:gl (("d":Str)++Txt.slice v (some 1) (some 5)++("0":Str)):=by constructor<;>(rw[YC,YC];omega)
  obtain⟨rn,en⟩:∃r,(("c":Str)++Txt.slice u (some 1) (some 5)++("0":Str)).cps.toList=99::r:=⟨_,Zr3 (c:=99)⟩
  obtain⟨rl,el⟩:∃r,(("d":Str)++Txt.slice v (some 1) (some 5)++("0":Str)).cps.toList=100::r:=⟨_,Zr3 (c:=100)⟩
  generalize ("c":Str)++Txt.slice u (some 1) (some 5)++("0":Str)=nn at hnl en
  generalize ("d":Str)++Txt.slice v (some 1) (some 5)++("0":Str)=ln at hll el
  obtain⟨rf,ef⟩:∃r,("from":Str).cps.toList=102::r:=⟨_,rfl⟩
  obtain⟨re,ee⟩:∃r,("each":Str).cps.toList=101::r:=⟨_,rfl⟩
  have hnd:([("from":Str),nn,"each",ln]:List Str).Nodup:=by
   simp only[List.nodup_cons,List.mem_cons,List.not_mem_nil,or_false,not_or,not_false_eq_true,List.nodup_nil,and_true]
   exact⟨⟨Zlr ef en (by decide),Zlr ef ee (by decide),Zlr ef el (by decide)⟩,⟨Zlr en ee (by decide),Zlr en el (by decide)⟩,Zlr ee el (by decide)⟩
  refine⟨_,rfl,ZNB rfl,_,rfl,ZNB rfl,ZNB rfl,fun ph hph=>?_⟩
  have Eh:Ex C (up C ph (.lst ([(nn,("n":Str)),(ln,"l")].map npT))):=Ex.new hph
  have hh:(up C ph (.lst ([(nn,("n":Str)),(ln,"l")].map npT))) ph=some (.lst ([(nn,("n":Str)),(ln,"l")].map npT)):=Zn
  have ehere:([.tup [.str nn,.str "n"],.tup [.str ln,.str "l"]]:List T)=[(nn,("n":Str)),(ln,"l")].map npT:=rfl
  rw[ehere]
  generalize up C ph (.lst ([(nn,("n":Str)),(ln,"l")].map npT))=C0 at Eh hh
  have hp0:=Eh _ _ hp
  have hb0:=Eh _ _ hb
  have sub:∀(k:Nat) (C1:Hw) (ds1:List Int) (p1:Addr),k≤4→Ex C0 C1→C1 p1=none→Env k (up C1 p1 (.lst (ds1.map T.int))) p1 ph b ds1 [(nn,("n":Str)),(ln,"l")] [u,v,w] ["from",nn,"each",ln]:=fun k C1 ds1 p1 hk E1 hp1=>by
   refine⟨Zn,by rw[Zw (cne (E1 _ _ hh) hp1)];exact E1 _ _ hh,fun z hz=>?_,by show 2+4*k≤100;omega,by rw[Zw (cne (E1 _ _ hb0) hp1)];exact E1 _ _ hb0,hpl,cne (E1 _ _ hh) hp1,cne (E1 _ _ hb0) hp1,by simp,by simp⟩
   simp only[ZM,ZN,or_false] at hz
   rcases hz with rfl | rfl
   ·exact⟨by simp,hnl⟩
   ·exact⟨by simp,hll⟩
  refine⟨ZNB rfl,ZNB rfl,ZNB rfl,ZNB rfl,ZNB rfl,?_⟩
  refine⟨ZNB rfl,_,rfl,ZNB rfl,ZNB rfl,ZNB rfl,?_⟩
  refine⟨_,rfl,_,rfl,_,hp0,fun p1 hp1=>⟨_,rfl,_,rfl,?_⟩⟩
  dsimp only[Zf,Zb,eC]
  rw[Znq]
  refine tcall (n:=n+5) (Zqd 2) rfl (sub 2 C0 _ p1 (by decide) (Ex.refl _) hp1) fun t1 C1 d1 x1 k1 o1=>?_
  have E1:Ex C0 C1:=ExB.fresh hp1 x1
  refine⟨_,rfl,_,rfl,_,rfl,_,E1 _ _ hp0,fun p2 hp2=>⟨_,rfl,_,rfl,?_⟩⟩
  dsimp only[Zf,Zb,eC]
  rw[Znq]
  refine tcall (n:=n+5) (Zqd 2) rfl (sub 2 C1 _ p2 (by decide) E1 hp2) fun t2 C2 d2 x2 k2 o2=>?_
  have E2:Ex C0 C2:=E1.trans (ExB.fresh hp2 x2)
  refine⟨_,rfl,ZNB rfl,_,rfl,_,rfl,ZNB rfl,?_⟩
  dsimp only[Zb,Zf,eC,Z5,Zv]
  refine Z1y (n:=n+11) ?_
  refine⟨ZNB rfl,_,rfl,_,rfl,ZNB rfl,ZNB rfl,?_⟩
  refine⟨_,rfl,_,rfl,_,rfl,_,rfl,_,E2 _ _ hp0,fun p3 hp3=>⟨_,rfl,_,rfl,_,rfl,?_⟩⟩
  dsimp only[Zf,Zb,eC]
  rw[Znq]
  refine tcall (n:=n+1) (Zqd 4) rfl (sub 4 C2 _ p3 (by decide) E2 hp3) fun t3 C3 d3 x3 k3 o3=>?_
  have E3:Ex C0 C3:=E2.trans (ExB.fresh hp3 x3)
  refine⟨ZNB rfl,?_⟩
  have lf:gl "from":=⟨by decide+kernel,by decide+kernel⟩
  have le:gl "each":=⟨by decide+kernel,by decide+kernel⟩
  have:=q (ltL [("from",Zuw),(nn,t1),("each",Zsf),(ln,t2)] t3) C3 (Eh.trans E3) (Zv4 (by decide) (by simp) (by simp) hnd (fun z hz=>?_) (fun z hz=>?_) (okd (Zmr o3 fun x hx=>List.mem_append_left _ hx) (by decide))) rfl
  ·rw[Zui] at this;exact this
  ·simp only[ZM,ZN,or_false] at hz
   rcases hz with rfl | rfl | rfl | rfl
   ·exact lf
   ·exact hnl
   ·exact le
   ·exact hll
  ·simp only[ZM,ZN,or_false] at hz
   rcases hz with rfl | rfl | rfl | rfl
   ·exact okd (Zuv (by simp)) (by decide)
   ·exact okd (Zmr o1 fun x hx=>List.mem_append_left _ hx) (by decide)
   ·exact okd (Z0a (by simp)) (by decide)
   ·exact okd (Zmr o2 fun x hx=>List.mem_append_left _ hx) (by decide)
end
open PySem PySem.Spec PyProof.Rows L2 WL
section
variable {C:Hw}{Q:WK}{χ:WX}{n:Nat}
theorem Zyk {ns:List Int}{m:Nat}(h63:ns.length≤63)(hm:m≤100)(q:∀p (ds:List Int),C p=none→ds.length=m→(∀d∈ds,0≤d)→Q (.ref p) (up C p (.lst (ds.map T.int)))):
  wpc pr (n+1) Znf [.cl (ns.map T.int),.int m] C Q χ:=by
 refine Zma rfl ?_
 unfold Zbb
 refine⟨XO _,fun p hp=>?_⟩
 refine⟨_,rfl,_,rfl,by omega,by omega,?_⟩
 refine Znl (fun i τ C'=>∃x3 x4,∃ds:List Int,τ=[some (.cl (ns.map T.int)),some (.int m),some (.ref p),x3,x4]∧C'=up C p (.lst (ds.map T.int))∧ds.length=i∧∀d∈ds,0≤d) ⟨none,none,[],rfl,rfl,rfl,by simp⟩ (fun _=>trivial) ?_ ?_
 ·rintro i τ C' N hi ⟨x3,x4,ds,rfl,rfl,hd,hn⟩ hN
  have hlen:((ns.map T.int).length:Int)=(ns.length:Int):=by rw[XI]
  have fin:∀(u:Int) (D':We),0≤u→D'.nx=N→Yt (eMt tyL' Xc (Zd 2) (Zb (Zh wAdd (Zd 4) (Zh wMul (eC (.int 7919)) (Zh wDiv (Zd 3) (eBi bMax (Zb (eC (.int 1)) (Zb (eBi bLen (Zb (Zd 0) Zf)) Zf)))))) Zf)) D' [some (.cl (ns.map T.int)),some (.int m),some (.ref p),some (.int (0+i)),some (.int u)] (up C p (.lst (ds.map T.int))):=fun u D' hu hD=>by
   refine⟨_,rfl,⟨_,_,rfl,Zn⟩,_,rfl,_,rfl,_,rfl,_,rfl,_,_,rfl,⟨by split<;>omega,by split<;>omega⟩,.inl ⟨by decide,by decide⟩,_,_,_,rfl,rfl,Zn,small63' (by rw[XI];omega),?_⟩
   have hdv:(0:Int)≤(0+(i:Int))/(if ((ns.map T.int).length:Int)>1 then((ns.map T.int).length:Int) else 1):=Int.ediv_nonneg (by omega) (by split<;>omega)
   rw[hD]
   generalize (0+(i:Int))/(if ((ns.map T.int).length:Int)>1 then((ns.map T.int).length:Int) else 1)=t at hdv ⊢
   refine hN _ _ ⟨_,_,ds++[u+7919*t],rfl,?_,by rw[List.length_append,hd];rfl,?_⟩
   ·rw[Zub,XL];rfl
   ·intro x hx
    rcases XS.mp hx with hx | hx
    ·exact hn x hx
    ·rw[XQ.mp hx];omega
  refine⟨_,rfl,_,rfl,decide (((ns.map T.int).length:Int)>0),rfl,?_⟩
  by_cases c:((ns.map T.int).length:Int)>0
  ·refine Zf6 (decide_eq_true c) ?_
   obtain⟨d,h1,h2⟩:=Zxv (ds:=ns) (i:=(0+(i:Int))%((ns.map T.int).length:Int)) (YO _ (by omega)) (by rw[hlen];exact Int.emod_lt_of_pos _ (by omega))
   exact⟨_,rfl,_,rfl,_,rfl,_,rfl,c,_,h1,⟨by decide,by decide,by decide⟩,by decide,fin _ _ (YO d (b:=10^Int.toNat 18) (by decide)) rfl⟩
  ·exact Zee (YG c) (fin 0 _ (XW _) rfl)
 ·rintro τ C' ⟨x3,x4,ds,rfl,rfl,hd,hn⟩
  exact⟨_,rfl,q p ds hp hd hn⟩
end
theorem Zz8 {d:Nat}{t:Tm}{D m:Int}(ho:ok 0 d [] t)(hv:isVt t=false)(h0:0≤m)(hm:m≤1000):Ok d (fin t D m)∧Lg (fin t D m).k (fin t D m)∧Nt (fin t D m)∧(fin t D m).k≤m∧(enB (fin t D m).e=true→(fin t D m).k=m):=by
 have q0:=Zwv (D:=D) ho hv
 obtain⟨o1,o2,o3⟩:=Zge (mu (ini t D)) q0 (XE _)
 have l0:Lg (ini t D).k (ini t D):=⟨0,0,rfl,XW _,XW _⟩
 have n0:Nt (ini t D):=⟨fun x hx=>(by cases hx),fun x hx=>(by simp[ini] at hx),fun _=>.inl (by simp[ini]),fun x e=>(by cases e),fun x e=>(by cases e)⟩
 have ek:(settled (ini t D)).k=0:=o3
 obtain⟨f1,f2⟩:=Zsq (m:=m) m.toNat (settled (ini t D)) (by omega) (by omega)
 exact⟨(Zxx hm m.toNat _ o1 o2).1,Zwl hm m.toNat _ o1 o2 (Zq1 _ q0 l0),Zv8 hm m.toNat _ o1 o2 (Zqu _ q0 n0),f1,f2⟩
theorem eTT:Zcy "tuple" "tuple"=true:=by decide+kernel
theorem trLL {c:Hw}:tru (.bl (Zcy "list" "list")) c true:=by show true=Zcy "list" "list";decide+kernel
theorem Zpl {l:List Bool}:flats (l.map T.bl) Zc0=true:=Zfg.mpr fun x hx=>by obtain⟨b,_,rfl⟩:=XR.mp hx;exact Zsc
theorem Zz9 {e:En}:(ew e=="told")=(match e with | .told _=>true | _=>false):=by
 cases e with
 | no=>show(("spent":Str)=="told")=false;decide+kernel
 | told x=>show(("told":Str)=="told")=true;decide+kernel
 | stop x=>show(("stop":Str)=="told")=false;decide+kernel
 | stuck=>show(("stuck":Str)=="told")=false;decide+kernel
theorem Zw5 {e:En}:(ew e=="spent")=enB e:=by
 cases e with
 | no=>show(("spent":Str)=="spent")=true;decide+kernel
 | told x=>show(("told":Str)=="spent")=false;decide+kernel
 | stop x=>show(("stop":Str)=="spent")=false;decide+kernel
 | stuck=>show(("stuck":Str)=="spent")=false;decide+kernel
theorem ew_in {e:En}:inL (.str (ew e)) [.str "told",.str "stop",.str "stuck",.str "spent"]=true:=by
 cases e with
 | no=>show inL (.str "spent") _=true;decide+kernel
 | told x=>show inL (.str "told") _=true;decide+kernel
 | stop x=>show inL (.str "stop") _=true;decide+kernel
 | stuck=>show inL (.str "stuck") _=true;decide+kernel
theorem Zv9 {x:Str}(h:1≤x.length):(x==("":Str))=false:=beq_eq_false_iff_ne.mpr fun e=>by
 rw[e] at h
 have:("":Str).length=0:=by decide+kernel
 omega
section
variable {C:Hw}{x0 x1 x2 x5:Option T}{D m:Int}{t:Tm}{p:Addr}
theorem Zw4 (ho:ok 0 12 [] t)(hv:isVt t=false)(h0:0≤m)(hm:m≤70)(hp:C p=some (.lst ((fin t D m).G.map evT)))(hB:WS)(h6:hB=w_law_t6 (wpc pr 59)):
  Zq (sIf (tOr' (tNo (tTru (eIsi (Zd 7) "tuple"))) (tOr' (tBl (Zh wNe (eBi bLen (Zb (Zd 7) Zf)) (eC (.int 4)))) (tNo (tTru (eIsi (Zh Zu (Zd 7) (eC (.int 3))) "list"))))) (Ya (eC (.bl false))) Z6) hB
   {nx:=fun x C'=>(fun v x=>v=T.bl true) T.non C',rt:=fun v x=>v=T.bl true,xc:=fun x x=>False} [x0,x1,x2,some (.int D),some (.int m),x5,some (tt t),some (outT (fin t D m) p),none] C:=by
 subst h6
 obtain⟨f1,f2,f3,f4,f5⟩:=Zz8 (D:=D) ho hv h0 (by omega)
 generalize fin t D m=X at*
 obtain⟨la,en,g1,g2,g3⟩:=f2
 have k0:=f1.k0
 have nG:=f1.nG
 refine⟨_,rfl,_,rfl,true,trTT,Ye ?_⟩
 refine⟨_,rfl,_,rfl,neIc (v:=true) rfl ⟨_,rfl,Ye ?_⟩⟩
 refine⟨_,rfl,_,Zl0,_,.inl ⟨rfl,_,hp⟩,true,trLL,Ye ?_⟩
 refine⟨_,rfl,_,Zaj,_,rfl,true,trTT,Ye ?_⟩
 refine⟨_,rfl,_,Zaj,_,rfl,neIc (v:=true) rfl ⟨_,rfl,Ye ?_⟩⟩
 refine⟨_,rfl,_,Yu,_,rfl,true,trS,Ye ?_⟩
 refine⟨_,rfl,_,Zaj,?_⟩
 refine Zbq (f:=fun _=>.bl true) trivial (small63 (by show 3≤100000;decide)) (fun x hx R hR=>?_) ?_
 ·simp only[ZM,ZN,or_false] at hx
  have hi:∃i:Int,x=.int i:=by rcases hx with rfl | rfl | rfl<;>exact⟨_,rfl⟩
  obtain⟨i,rfl⟩:=hi
  refine⟨_,rfl,?_⟩
  dsimp only[Zf]
  exact Zmi (n:=58) hR
 ·intro p2 hp2
  refine⟨ZNB rfl,fun p3 hp3=>?_⟩
  have n23:p2≠p3:=(fr1 hp3).1.symm
  refine⟨_,_,_,rfl,rfl,Zn,by decide,by decide,by decide,fun p4 hp4=>?_⟩
  have n24:p2≠p4:=by
   have:=(fr1 (fr1 hp4).2).1
   exact fun e=>this e.symm
  have E4:Ex C (up (up (up C p2 (.lst [.bl true,.bl true,.bl true])) p3 (.lst [.bl true])) p4 (.lst [.bl true,.bl true,.bl true])):=((Ex.new hp2).trans (Ex.new hp3)).trans (Ex.new hp4)
  refine⟨_,_,by rw[Zw n24,Zw n23];exact Zn,Zn,fun _=>⟨Zpl (l:=[true,true,true]),Zpl (l:=[true,true,true])⟩,false,congrArg T.bl (by decide+kernel),Ye ?_⟩
  refine⟨_,rfl,_,Zaj,_,Yb,_,rfl,Zf6 (decide_eq_true k0.1) ⟨_,rfl,_,rfl,Zee (by rw[decide_eq_true f4];rfl) ?_⟩⟩
  have hp':=E4 _ _ hp
  refine⟨_,rfl,_,Zl0,_,rfl,_,Zaj,_,Yb,?_⟩
  dsimp only[Zf]
  refine Z1v (n:=57) hp' (by omega) g1 g2 fun w C' E5 hw=>?_
  refine⟨_,rfl,rfl,_,rfl,Ye ?_⟩
  refine⟨_,rfl,_,Yb,ZNB rfl,fun p6 hp6=>?_⟩
  refine⟨_,Zn,Zb5,by decide,_,rfl,Zee (by rw[XY rfl,ew_in];rfl) ?_⟩
  have hw6:(up C' p6 (.lst [.str "told",.str "stop",.str "stuck",.str "spent"])) w=some (.lst (nT (bks X.P))):=by rw[Zw (cne hw hp6)];exact hw
  generalize up C' p6 (.lst [.str "told",.str "stop",.str "stuck",.str "spent"])=C6 at hw6
  refine⟨_,rfl,_,Yb,J5 Zz9 ⟨_,rfl,?_⟩⟩
  cases he:X.e with
  | told x=>
   obtain⟨h1,h2⟩:=f3.t x he
   refine Jj ?_
   rw[h2] at hw6
   refine⟨_,rfl,XO _,fun p7 hp7=>?_⟩
   refine⟨_,_,by rw[Zw (cne hw6 hp7)];exact hw6,Zn,fun _=>⟨by unfold flats;rfl,by unfold flats;rfl⟩,true,by rw[XX (by decide)];rfl,Jj ?_⟩
   refine⟨_,rfl,_,Yu,neSc (v:=false) ?_ rfl⟩
   rw[he];exact Zv9 h1
  | no=>
   refine Ye ?_
   refine⟨_,rfl,_,Yb,J5 (v:=true) (by rw[Zw5,he];rfl) ⟨_,rfl,Jj ?_⟩⟩
   refine⟨_,rfl,_,Yu,J5 (v:=true) (by rw[he];exact XU _) ⟨true,rfl,Jj ?_⟩⟩
   exact⟨_,rfl,_,Zaj,_,Yb,_,rfl,eqI (v:=true) (by rw[f5 (by rw[he];rfl)];exact XU _) rfl⟩
  | stop x=>
   refine Ye ?_
   refine⟨_,rfl,_,Yb,J5 (v:=false) (by rw[Zw5,he];rfl) ⟨_,rfl,Ye ?_⟩⟩
   refine⟨_,rfl,_,Yu,J5 (v:=false) (by rw[he];exact Zv9 (f3.p x he)) ⟨_,rfl,_,Yb,J5 (v:=false) (by rw[he];show(("stop":Str)=="stuck")=false;decide+kernel) ?_⟩⟩
   show wEqG false _ _ _ _
   rw[Zp4];rfl
  | stuck=>
   refine Ye ?_
   refine⟨_,rfl,_,Yb,J5 (v:=false) (by rw[Zw5,he];rfl) ⟨_,rfl,Ye ?_⟩⟩
   refine⟨_,rfl,_,Yu,J5 (v:=true) (by rw[he];exact XU _) ⟨_,rfl,_,Yb,J5 (v:=true) (by rw[he];exact XU _) ?_⟩⟩
   show wEqG false _ _ _ _
   rw[Zp4];rfl
end
theorem law_true (ns:List Int)(h63:ns.length≤63):wpc pr 60 i_law [.cl (ns.map T.int)] (fun _=>none) (fun v _=>v=.bl true) (fun _ _=>False):=by
 refine u_law rfl ?_
 refine⟨_,rfl,?_⟩
 dsimp only[Zf,Zb,eC]
 refine Zyk (n:=58) (m:=26) h63 (by decide) fun p ds hp hl hn=>?_
 refine⟨_,rfl,?_⟩
 dsimp only[Zf]
 refine Z1w (n:=58) (m:=23) Zn hl fun b pl d1 C1 x1 nb hb hpl hp1 hl1=>?_
 obtain⟨y1,a1,_,a3,a4,_⟩:=popL (ds:=d1) (by omega)
 refine⟨_,rfl,⟨_,_,rfl,hp1⟩,_,_,_,rfl,rfl,hp1,a1,by decide,?_⟩
 rw[a3]
 obtain⟨y2,b1,_,b3,b4,_⟩:=popL (ds:=d1.dropLast) (by omega)
 refine⟨_,rfl,⟨_,_,rfl,Zn⟩,_,_,_,rfl,rfl,Zn,b1,by decide,?_⟩
 rw[b3,Zub]
 obtain⟨y4,e1,_,e3,e4,_⟩:=popL (ds:=d1.dropLast.dropLast) (by omega)
 obtain⟨ch,hc⟩:=c_at (z:="nlltpf") (n:=6) (x:=y4) (by decide+kernel) (by decide)
 refine⟨_,rfl,⟨_,_,rfl,Zn⟩,_,_,_,rfl,rfl,Zn,e1,by decide,by decide,ch,hc,?_⟩
 rw[e3,Zub]
 have hb2:(up C1 p (.lst (d1.dropLast.dropLast.dropLast.map T.int))) b=some (.lst (pl.map T.str)):=by rw[Zw nb];exact hb
 refine⟨_,rfl,_,rfl,_,rfl,?_⟩
 dsimp only[Zf,Zb,eC]
 refine Zu9 (n:=46) Zn hb2 hpl fun t C2 E2 ho hv=>?_
 have hm0:0≤y2%71:=by omega
 have hm1:y2%71≤70:=by omega
 generalize y2%71=m at hm0 hm1
 generalize y1%7=D
 refine⟨_,rfl,_,rfl,_,rfl,?_⟩
 dsimp only[Zf,List.cons_append,List.nil_append]
 refine s_run (n:=35) ho hv (by omega) fun p8 C3 E3 hp8 h8=>?_
 exact Zw4 ho hv hm0 hm1 h8 _ rfl
end K34
open PySem PySem.W PyProof.Rows
def PySem.W.Fast.tw16031724376295497356:Unit:=()
def PySem.W.Fast.tw14148948268978319919:Unit:=()
def PySem.W.Fast.tw12322403141622868593:Unit:=()
def PySem.W.Fast.tw14301160704464640394:PySem.Program:=PySem.Challenge.pw_idlegraph_k34_a_log
theorem PySem.W.Fast.te14301160704464640394:PySem.Challenge.pw_idlegraph_k34_a_log=PySem.W.Fast.tw14301160704464640394:=rfl
def PySem.W.Fast.tw2601757543632639317:Unit:=()
def PySem.W.Fast.tw4125965684305114811:Unit:=()
def PySem.W.Fast.tw10900412750447922460:Unit:=()
def PySem.W.Fast.tw5262154037926834926:Unit:=()
def PySem.W.Fast.tw17287378470974749572:Unit:=()
def PySem.W.Fast.tw691048485374986113:Unit:=()
def PySem.W.Fast.tw10232748165132417229:Unit:=()
def PySem.W.Fast.tw18400056896453165446:Unit:=()
def PySem.W.Fast.tw11605587279559950917:Unit:=()
def PySem.W.Fast.tw13720899245054744337:Unit:=()
def PySem.W.Fast.tw12073803679995892723:Unit:=()
def PySem.W.Fast.tw15140698504294828305:Unit:=()
def PySem.W.Fast.tw2874141634576412014:Unit:=()
def PySem.W.Fast.tw1266409333550482661:Unit:=()
def PySem.W.Fast.tw5975107624438503309:Unit:=()
def PySem.W.Fast.tw374021641701885473:Unit:=()
def PySem.W.Fast.tw3195452802054965470:Unit:=()
def PySem.W.Fast.tw16501136093376055174:Unit:=()
def PySem.W.Fast.tw6549938674056997356:Unit:=()
def PySem.W.Fast.tw9395855098305455584:Unit:=()
def PySem.W.Fast.tw10128294643697989489:Unit:=()
def PySem.W.Fast.tw10103055501368549332:Unit:=()
def PySem.W.Fast.tw15772366646663988245:Unit:=()
def PySem.W.Fast.tw5390254164144048751:Unit:=()
def PySem.W.Fast.tw8823931568953209123:Unit:=()
def PySem.W.Fast.tw8735693249996305792:Unit:=()
set_option maxRecDepth 100000 in
set_option maxHeartbeats 0 in
theorem PySem.Challenge.cw_idlegraph_k34_a_log_holds : PySem.Challenge.rw_idlegraph_k34_a_log.Holds := by
 w_on;o_law;k_head;(case hw=>w_witness2)
 k_fill
 refine L2.walk_ofK (l:=PySem.Challenge.rw_idlegraph_k34_a_log) (n:=63) (k:=60) (x:="_law_script") (CX:=L2.CX0) (sp:=fun K=>WL.spW K K34.pr 60 49) rfl (by decide) rfl ⟨rfl,by decide,by decide⟩ (fun w h Y=>PySem.W.kIn_of Y) ?F (fun K H a ns hl hO hS=>WL.law_sp hO hS (K34.law_true ns hl)) (fun _ _ _ _ z=>z)
 case F=>
  intro w mg fa h KX G hmg
  refine' K34.all_mk KX G hmg ?Qa ?Qb ?Qc ?Qd ?Qe ?Qf ?Qg ?Qh ?Qi ?Qj ?Qk ?Ql ?Qm ?Qn ?Qo ?Qp ?Qq ?Qr ?Qs ?Qt ?Qu ?Qv ?Qw ?Qx ?Qy ?Qz ?Q0 ?Q1 ?Q2 ?Q3 ?Q4 ?Q5 ?Q6 ?Q7 ?Q8 ?Q9 ?Ra ?Rb ?Rc ?Rd ?Re ?Rf ?Rg ?Rh ?Ri ?Rj ?Rk ?Rl ?Rm ?Rn ?Ro ?Rp ?Rq ?Rr ?Rs ?Rt ?Ru ?Rv ?Rw ?Rx ?Ry ?Rz ?R0 ?R1 ?R2 ?R3 ?R4 ?R5 ?R6 ?R7 ?R8 ?R9 ?Sa ?Sb ?Sc ?Sd ?Se ?Sf ?Sg ?Sh ?Si ?Sj ?Sk ?Sl ?Sm ?Sn ?So ?Sp ?Sq ?Sr ?Ss ?St ?Su ?Sv ?Sw ?Sx ?Sy ?Sz ?S0 ?S1 ?S2 ?S3 ?S4 ?S5 ?S6 ?S7 ?S8 ?S9 ?Ta ?Tb ?Tc ?Td ?Te ?Tf ?Tg ?Th ?Ti ?Tj ?Tk ?Tl ?Tm ?Tn ?To ?Tp ?Tq ?Tr ?Ts ?Tt ?Tu ?Tv ?Tw ?Tx ?Ty ?Tz ?T0 ?T1 ?T2 ?T3 ?T4 ?T5 ?T6 ?T7 ?T8 ?T9 ?Ua ?Ub ?Uc ?Ud ?Ue ?Uf ?Ug ?Uh ?Ui ?Uj ?Uk ?Ul ?Um ?Un ?Uo ?Up ?Uq ?Ur ?Us ?Ut ?Uu ?Uv ?Uw ?Ux ?Uy ?Uz ?U0 ?U1 ?U2 ?U3 ?U4 ?U5 ?U6 ?U7 ?U8 ?U9 ?Va ?Vb ?Vc ?Vd ?Ve ?Vf ?Vg ?Vh ?Vi ?Vj ?Vk ?Vl ?Vm ?Vn ?Vo ?Vp ?Vq ?Vr ?Vs ?Vt ?Vu ?Vv ?Vw ?Vx ?Vy ?Vz ?V0 ?V1 ?V2 ?V3 ?V4 ?V5 ?V6 ?V7 ?V8 ?V9 ?Wa ?Wb ?Wc ?Wd ?We ?Wf ?Wg ?Wh ?Wi ?Wj ?Wk ?Wl ?Wm ?Wn ?Wo ?Wp ?Wq ?Wr ?Ws ?Wt ?Wu ?Wv ?Ww ?Wx ?Wy ?Wz ?W0 ?W1 ?W2 ?W3 ?W4 ?W5 ?W6 ?W7 ?W8 ?W9 ?Na ?Nb ?Nf ?Nc ?Ne ?Nd
  (case Qa=>k_is)
  (case Qb=>k_is)
  (case Qc=>k_is)
  (case Qd=>k_is)
  (case Qe=>k_is)
  (case Qf=>k_is)
  (case Qg=>k_is)
  (case Qh=>k_is)
  (case Qi=>k_is)
  (case Qj=>k_is)
  (case Qk=>k_is)
  (case Ql=>k_is)
  (case Qm=>k_is)
  (case Qn=>k_is)
  (case Qo=>k_is)
  (case Qp=>k_is)
  (case Qq=>k_is)
  (case Qr=>k_is)
  (case Qs=>k_is)
  (case Qt=>k_is)
  (case Qu=>k_is)
  (case Qv=>k_is)
  (case Qw=>k_is)
  (case Qx=>k_is)
  (case Qy=>k_is)
  (case Qz=>k_is)
  (case Q0=>k_is)
  (case Q1=>k_is)
  (case Q2=>k_is)
  (case Q3=>k_is)
  (case Q4=>k_is)
  (case Q5=>k_is)
  (case Q6=>k_is)
  (case Q7=>k_is)
  (case Q8=>k_is)
  (case Q9=>k_is)
  (case Ra=>k_is)
  (case Rb=>k_is)
  (case Rc=>k_is)
  (case Rd=>k_is)
  (case Re=>k_is)
  (case Rf=>k_is)
  (case Rg=>k_is)
  (case Rh=>k_is)
  (case Ri=>k_is)
  (case Rj=>k_is)
  (case Rk=>k_is)
  (case Rl=>k_is)
  (case Rm=>k_is)
  (case Rn=>k_is)
  (case Ro=>k_is)
  (case Rp=>k_is)
  (case Rq=>k_is)
  (case Rr=>k_is)
  (case Rs=>k_is)
  (case Rt=>k_is)
  (case Ru=>k_is)
  (case Rv=>k_is)
  (case Rw=>k_is)
  (case Rx=>k_is)
  (case Ry=>k_is)
  (case Rz=>k_is)
  (case R0=>k_is)
  (case R1=>k_is)
  (case R2=>k_is)
  (case R3=>k_is)
  (case R4=>k_is)
  (case R5=>k_is)
  (case R6=>k_is)
  (case R7=>k_is)
  (case R8=>k_is)
  (case R9=>k_is)
  (case Sa=>k_is)
  (case Sb=>k_is)
  (case Sc=>k_is)
  (case Sd=>k_is)
  (case Se=>k_is)
  (case Sf=>k_is)
  (case Sg=>k_is)
  (case Sh=>k_is)
  (case Si=>k_is)
  (case Sj=>k_is)
  (case Sk=>k_is)
  (case Sl=>k_is)
  (case Sm=>k_is)
  (case Sn=>k_is)
  (case So=>k_is)
  (case Sp=>k_is)
  (case Sq=>k_is)
  (case Sr=>k_is)
  (case Ss=>k_is)
  (case St=>k_is)
  (case Su=>k_is)
  (case Sv=>k_is)
  (case Sw=>k_is)
  (case Sx=>k_is)
  (case Sy=>k_is)
  (case Sz=>k_is)
  (case S0=>k_is)
  (case S1=>k_is)
  (case S2=>k_is)
  (case S3=>k_is)
  (case S4=>k_is)
  (case S5=>k_is)
  (case S6=>k_is)
  (case S7=>k_is)
  (case S8=>k_is)
  (case S9=>k_is)
  (case Ta=>k_is)
  (case Tb=>k_is)
  (case Tc=>k_is)
  (case Td=>k_is)
  (case Te=>k_is)
  (case Tf=>k_is)
  (case Tg=>k_is)
  (case Th=>k_is)
  (case Ti=>k_is)
  (case Tj=>k_is)
  (case Tk=>k_is)
  (case Tl=>k_is)
  (case Tm=>k_is)
  (case Tn=>k_is)
  (case To=>k_is)
  (case Tp=>k_is)
  (case Tq=>k_is)
  (case Tr=>k_is)
  (case Ts=>k_is)
  (case Tt=>k_is)
  (case Tu=>k_is)
  (case Tv=>k_is)
  (case Tw=>k_is)
  (case Tx=>k_is)
  (case Ty=>k_is)
  (case Tz=>k_is)
  (case T0=>k_is)
  (case T1=>k_is)
  (case T2=>k_is)
  (case T3=>k_is)
  (case T4=>k_is)
  (case T5=>k_is)
  (case T6=>k_is)
  (case T7=>k_is)
  (case T8=>k_is)
  (case T9=>k_is)
  (case Ua=>k_is)
  (case Ub=>k_is)
  (case Uc=>k_is)
  (case Ud=>k_is)
  (case Ue=>k_is)
  (case Uf=>k_is)
  (case Ug=>k_is)
  (case Uh=>k_is)
  (case Ui=>k_is)
  (case Uj=>k_is)
  (case Uk=>k_is)
  (case Ul=>k_is)
  (case Um=>k_is)
  (case Un=>k_is)
  (case Uo=>k_is)
  (case Up=>k_is)
  (case Uq=>k_is)
  (case Ur=>k_is)
  (case Us=>k_is)
  (case Ut=>k_is)
  (case Uu=>k_is)
  (case Uv=>k_is)
  (case Uw=>k_is)
  (case Ux=>k_is)
  (case Uy=>k_is)
  (case Uz=>k_is)
  (case U0=>k_is)
  (case U1=>k_is)
  (case U2=>k_is)
  (case U3=>k_is)
  (case U4=>k_is)
  (case U5=>k_is)
  (case U6=>k_is)
  (case U7=>k_is)
  (case U8=>k_is)
  (case U9=>k_is)
  (case Va=>k_is)
  (case Vb=>k_is)
  (case Vc=>k_is)
  (case Vd=>k_is)
  (case Ve=>k_is)
  (case Vf=>k_is)
  (case Vg=>k_is)
  (case Vh=>k_is)
  (case Vi=>k_is)
  (case Vj=>k_is)
  (case Vk=>k_is)
  (case Vl=>k_is)
  (case Vm=>k_is)
  (case Vn=>k_is)
  (case Vo=>k_is)
  (case Vp=>k_is)
  (case Vq=>k_is)
  (case Vr=>k_is)
  (case Vs=>k_is)
  (case Vt=>k_is)
  (case Vu=>k_is)
  (case Vv=>k_is)
  (case Vw=>k_is)
  (case Vx=>k_is)
  (case Vy=>k_is)
  (case Vz=>k_is)
  (case V0=>k_is)
  (case V1=>k_is)
  (case V2=>k_is)
  (case V3=>k_is)
  (case V4=>k_is)
  (case V5=>k_is)
  (case V6=>k_is)
  (case V7=>k_is)
  (case V8=>k_is)
  (case V9=>k_is)
  (case Wa=>k_is)
  (case Wb=>k_is)
  (case Wc=>k_is)
  (case Wd=>k_is)
  (case We=>k_is)
  (case Wf=>k_is)
  (case Wg=>k_is)
  (case Wh=>k_is)
  (case Wi=>k_is)
  (case Wj=>k_is)
  (case Wk=>k_is)
  (case Wl=>k_is)
  (case Wm=>k_is)
  (case Wn=>k_is)
  (case Wo=>k_is)
  (case Wp=>k_is)
  (case Wq=>k_is)
  (case Wr=>k_is)
  (case Ws=>k_is)
  (case Wt=>k_is)
  (case Wu=>k_is)
  (case Wv=>k_is)
  (case Ww=>k_is)
  (case Wx=>k_is)
  (case Wy=>k_is)
  (case Wz=>k_is)
  (case W0=>k_is)
  (case W1=>k_is)
  (case W2=>k_is)
  (case W3=>k_is)
  (case W4=>k_is)
  (case W5=>k_is)
  (case W6=>k_is)
  (case W7=>k_is)
  (case W8=>k_is)
  (case W9=>k_is)
  (case Na=>k_is)
  (case Nb=>k_is)
  (case Nc=>k_is)
  (case Nd=>k_is)
  (case Ne=>k_is)
  (case Nf=>k_is)
