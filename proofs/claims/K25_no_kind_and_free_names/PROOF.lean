import PyProof.Rows.All
import Wide.All
import OpenK.AllK
import Wide.FinOn
import Lean
import PyProof.EqAt
import PyProof.EqKinds
import PyProof.TupleCall
import KE.KRevIter
import KE.KDictList
import PyProof.ZipIter
import PyProof.Draws
import PyProof.DictWalks
import PyProof.AttrMiss
import PyProof.FactsAll.zip_1
import KE.KDictOf
import PyProof.Rows.FStr
import PyProof.AutoSeq1
import PyProof.EnumMake
import PyProof.CallType
import PyProof.Rows.CallKwBuiltin
import PyProof.DictUpdate
import PyProof.NoPylong
import KE.KDictMeth
import PyProof.DictItemsLoops
import PyProof.SumWalk
import PyProof.SumWalkG
import PyProof.Rows.SumGenD
import PyProof.StrBlockH
import KE.KIntText
import KE.IntTextLaws
import OpenK.KTop
import PyProof.ExcBaseAll.ValueError
import KE.KTryMore
import PyProof.ReprStr
import OpenK.KDescr
import KE.KIsAll
import PyProof.ExcArgs
import PyProof.RulesAs
import PyProof.Rows.Range3
import PyProof.NsDelKeeps
import PyProof.Rows.StrIntSpec
import PyProof.StrReplace2
import PyProof.StrCalls6
import KE.RegKTryMore
import KE.RegKIsAll
import PySem.Challenge.RW_idlegraph_k25_no_kind_and_free_names
set_option Elab.async false
set_option linter.all false
set_option maxRecDepth 100000
set_option maxHeartbeats 4000000
set_option genSizeOf false
set_option bootstrap.genMatcherCode false
set_option compiler.extract_closed false
def XA:=@PySem.wpAny_bind
def XB:=@PySem.wpAny_pure
def XC:=@PySem.Heap.get?_push_of_some
def XD:=@PySem.Heap.lt_size
def XE:=@Nat.le_refl
def XF:=@PySem.Heap.get?_push_size
def XG:=@Nat.lt_of_lt_of_le
def XH:=@Nat.ne_of_lt
def XI:=@List.length_map
def XJ:=@List.size_toArray
def XL:=@List.map_append
def XM:=@List.getElem?_map
def XN:=@Nat.le_trans
def XO:=@Nat.zero_le
def XQ:=@List.mem_singleton
def XR:=@List.mem_map
def XS:=@List.mem_append
def XT:=@List.mem_append_right
def XU:=@beq_self_eq_true
def XV:=@List.mem_cons_of_mem
def XW:=@Int.le_refl
def XX:=@if_neg
def XY:=@if_pos
def XZ:=@PySem.F.plainAttrs_list
def YA:=@PySem.F.type_list_append
def YB:=@PySem.F.slot_list_append
def YC:=@PySem.Str.length_append
def YD:=@List.take_add_one
def YE:=@List.map_map
def YF:=@List.length_cons
def YG:=@decide_eq_false
def YH:=@Option.some.inj
def YI:=@List.map_cons
def YJ:=@Bool.false_ne_true
def YK:=@List.append_nil
def YL:=@List.append_assoc
def YM:=@List.length_take
def YN:=@List.getElem_mem
def YO:=@Int.emod_nonneg
def ZNB {a b:Nat} (h:Nat.ble a b=true):a<=b:=Nat.le_of_ble_eq_true h
def ZM {α:Type}{x a:α}{l:List α}:x∈a::l↔x=a\/x∈l:=List.mem_cons
def ZN {α:Type}{x:α}:x∈([]:List α)↔False:=⟨List.not_mem_nil,False.elim⟩
abbrev WY:=PySem.W.Frag
abbrev WW:=PySem.Expr
abbrev WV:=PySem.Stmt
abbrev WU:=PySem.Heap
abbrev WR:=PySem.Shared
abbrev WQ:=PySem.Value
abbrev WP:=PySem.Addr
abbrev WO:=PySem.Program
abbrev WN:=PySem.World
abbrev WM:=PySem.Around
abbrev VZ:=PySem.FuncData
def AY:=@List.length_append
def AZ:=@List.getElem?_eq_some_iff
def BA:=@List.mem_cons_self
def BB:=@List.mem_cons
def BC:=@List.length_singleton
def BD:=@List.getElem?_eq_getElem
def BE:=@List.mem_of_getElem?
def BF:=@PyProof.Rows.callWith_type1
def BG:=@Nat.le_add_right
def BH:=@Nat.lt_irrefl
def BI:=@Nat.lt_succ_self
def BJ:=@List.getElem?_append_right
def BK:=@List.mem_append_left
def BL:=@List.getElem?_zip_eq_some
def BM:=@List.getElem?_append_left
def BN:=@List.getElem?_set_self
def BO:=@PySem.W.mg_of
def BP:=@List.length_set
def BQ:=@PySem.F.slot_zip_next
def BR:=@PySem.W.mg_none_of
def BS:=@List.lookup_cons
def BU:=@List.nodup_cons
def BV:=@List.filter_cons_of_pos
def BW:=@List.getElem?_set_ne
def BX:=@List.nodup_nil
def BY:=@List.reverse_cons
def BZ:=@PySem.mem_of_lookup
def CA:=@List.map_congr_left
def CB:=@List.all_eq_true
def CC:=@PySem.Heap.size_push
def CD:=@PySem.Calls.spliced_cons
def CF:=@PyProof.Rows.slot_tuple_getitem
def CG:=@Nat.le_of_lt
def CH:=@List.of_mem_zip
def CI:=@Nat.lt_succ_of_lt
def CJ:=@List.filter_cons_of_neg
def CK:=@List.length_reverse
def CL:=@PySem.Challenge.pw_idlegraph_k25_no_kind_and_free_names
def CM:=@List.length_zip
def CO:=@PySem.F.slot_tuple_iterator_next
def CP:=@Option.isSome_map
def CQ:=@PySem.F.args_zip_next_1
def CT:=@List.drop_eq_getElem_cons
def CU:=@Nat.ne_of_gt
def CV:=@Option.isSome_iff_exists
def CW:=@Bool.and_eq_true
def CY:=@PySem.F.entry_zip_next
def CZ:=@List.any_eq_true
def DA:=@Nat.not_lt_of_le
def DC:=@List.take_length
def DD:=@Nat.add_lt_add_left
def DE:=@List.replicate_zero
def DF:=@PySem.Str.length_append
def DG:=@Nat.lt_add_of_pos_right
def DH:=@List.any_cons
def DI:=@List.mem_filterMap
def DJ:=@PySem.Heap.get?_update_other
def DK:=@PySem.Calls.spliced_nil
def DL:=@List.foldl_append
def DN:=@PySem.Heap.get?_update_self
def DP:=@Array.getElem?_toList
def DQ:=@List.getElem?_eq_none
def DR:=@PySem.F.slot_list_pop
def DS:=@PySem.F.type_list_pop
def DT:=@Nat.sub_self
def DU:=@List.not_mem_nil
def DV:=@Nat.succ_le_succ
def DW:=@List.map_reverse
def DX:=@PySem.F.excBase_ValueError
def DY:=@PySem.F.plain_extend_loop
def DZ:=@Bool.eq_iff_iff
def EA:=@Nat.not_lt_zero
def EB:=@PySem.F.args_tuple_add_2
def EC:=@Nat.lt_of_le_of_lt
def ED:=@PySem.F.slot_list_extend
def EF:=@PySem.F.type_list_extend
def EG:=@Bool.or_true
def EH:=@List.mem_range
def EI:=@PySem.boot_len
def EJ:=@PySem.F.entry_tuple_add
def EK:=@List.length_eq_zero_iff
def EL:=@List.nodup_append
def EM:=@Nat.le_succ_of_le
def EN:=@PySem.F.slot_tuple_add
def EO:=@PySem.Calls.callWith_builtin
def EQ:=@List.drop_length
def ER:=@List.length_replicate
def ES:=@List.mem_iff_getElem?
def ET:=@PySem.W.callWith_K
def EU:=@PySem.Calls.evalArgs_plain
def EV:=@List.map_nil
def EW:=@List.length_nil
def EX:=@List.foldl_cons
def EY:=@List.sum_append
def EZ:=@List.length_finRange
def FA:=@List.find?_cons
def FD:=@List.reverse_reverse
def FE:=@Bool.or_eq_false_iff
def FF:=@List.filterMap_cons
def FG:=@List.getElem?_range
def FH:=@PySem.F.args_tuple_iterator_next_1
def FI:=@PySem.W.hideAll_get
def FJ:=@List.sum_cons
def FK:=@PySem.W.cellsFrom_some
def FL:=@List.length_drop
def FM:=@List.mem_reverse
def FN:=@List.range_succ
def FO:=@Nat.le_add_left
def FP:=@List.nil_append
def Tm:=@beq_eq_false_iff_ne
theorem FQ{α:Sort u}{a:α}:a=a:=rfl
open PySem PySem.Spec PyProof.Rows
set_option tactic.hygienic false
namespace L2
abbrev Z8:=Sum Int Str
def Hi:Z8->WQ->Bool
 | .inl k,v=>Value.isInt k v
 | .inr x,v=>Value.isStrOf x v
def cb (w:WN):Z8->Int
 | .inl k=>hashInt k
 | .inr x=>hashStr w x
def Jb:∀{k:Z8} {v:WQ},Hi k v=true->(∃i t,k=Sum.inl i/\v=Value.int i t)\/(∃x t,k=Sum.inr x/\v=Value.str x t)
 | .inl i,v,h=>by
  obtain⟨t,e⟩:=Value.isInt_shape (k:=i) (v:=v) h;exact .inl ⟨i,t,FQ,e⟩
 | .inr x,v,h=>by
  obtain⟨t,e⟩:=Value.isStrOf_shape (x:=x) (v:=v) h;exact .inr ⟨x,t,FQ,e⟩
def xO (i:Int)(t:Tok):Hi (.inl i) (.int i t)=true:=by simp[Hi,Value.isInt]
def xN (x:Str)(t:Tok):Hi (.inr x) (.str x t)=true:=by simp[Hi,Value.isStrOf]
def ly (a b:Int):decide ((Sum.inl a:Z8)=Sum.inl b)=(a==b):=by
 by_cases e:a=b
 ·subst e;simp
 ·have h:¬(Sum.inl a:Z8)=Sum.inl b:=λq=>e (Sum.inl.inj q);rw[YG h];exact(Tm.mpr e).symm
def lj (a b:Str):decide ((Sum.inr a:Z8)=Sum.inr b)=decide (a=b):=by
 by_cases e:a=b
 ·subst e;simp
 ·have h:¬(Sum.inr a:Z8)=Sum.inr b:=λq=>e (Sum.inr.inj q);rw[YG h,YG e]
def lx (a:Int)(b:Str):decide ((Sum.inl a:Z8)=Sum.inr b)=false:=YG (λq=>nomatch q)
def lu (a:Str)(b:Int):decide ((Sum.inr a:Z8)=Sum.inl b)=false:=YG (λq=>nomatch q)
def Yv (prog:WO)(w:WN):PySem.KeyKind prog w Z8 where
 is:=Hi
 hash:=cb w
 inj:=λv a b ha hb=>by
  rcases Jb ha with⟨i,t,rfl,rfl⟩ | ⟨x,t,rfl,rfl⟩
  ·rcases Jb hb with⟨j,u,rfl,e⟩ | ⟨y,u,rfl,e⟩
   ·injection e with c _;rw[c]
   ·exact nomatch e
  ·rcases Jb hb with⟨j,u,rfl,e⟩ | ⟨y,u,rfl,e⟩
   ·exact nomatch e
   ·injection e with c _;rw[c]
 byValue:=λk v h=>by
  rcases Jb h with⟨i,t,rfl,rfl⟩ | ⟨x,t,rfl,rfl⟩<;>rfl
 pyHash:=λhv h=>by
  rcases Jb hv with⟨i,t,rfl,rfl⟩ | ⟨x,t,rfl,rfl⟩
  ·exact wpAny_pyHash_int h
  ·exact wpAny_pyHash_str h
 eqBool:=λd hv h=>by
  rcases Jb d with⟨i,t,rfl,rfl⟩ | ⟨x,t,rfl,rfl⟩
  ·rcases Jb hv with⟨j,u,rfl,rfl⟩ | ⟨y,u,rfl,rfl⟩
   ·rw[ly] at h;exact wpAny_eqBool_int h
   ·rw[lx] at h;exact SeqAt.EqAt.int_str i t y u _ _ _ _ h
  ·rcases Jb hv with⟨j,u,rfl,rfl⟩ | ⟨y,u,rfl,rfl⟩
   ·rw[lu] at h;exact SeqAt.EqAt.str_int x t j u _ _ _ _ h
   ·rw[lj] at h;exact wpAny_eqBool_str h
 «strs»:=λk x t v h=>by
  rcases Jb h with⟨i,u,rfl,e⟩ | ⟨y,u,rfl,e⟩
  ·exact nomatch e
  ·injection e with c _
   subst c
   cases v<;>rfl
def yb (prog:WO)(w:WN)(k:Z8)(v:WQ):(Yv prog w).is k v=Hi k v:=rfl
def Au (prog:WO)(w:WN)(i:Int)(t:Tok):(Yv prog w).is (.inl i) (.int i t)=true:=xO i t
def At (prog:WO)(w:WN)(x:Str)(t:Tok):(Yv prog w).is (.inr x) (.str x t)=true:=xN x t
inductive V where
 | non | bl (b:Bool) | int (i:Int) | str (x:Str) | byt (b:Array UInt8) | flt (b:UInt64) | ref (a:WP) | ty (n:String)
 deriving DecidableEq
def Z9:V->WQ->Prop
 | .non,u=>u=Value.none
 | .bl b,u=>u=Value.bool b
 | .int i,u=>∃t,u=Value.int i t
 | .str x,u=>∃t,u=Value.str x t
 | .byt b,u=>∃t,u=Value.bytes b t
 | .flt b,u=>∃t,u=Value.float b t
 | .ref a,u=>u=Value.ref a
 | .ty n,u=>u=Value.type n
abbrev Z5:List V->List WQ->Prop:=Paired Z9
def Z5.length {xs:List V}{us:List WQ}(r:Z5 xs us):xs.length=us.length:=Paired.length r
def Z5.get:∀{xs:List V} {us:List WQ} {i:Nat} {x:V},Z5 xs us->xs[i]?=some x->∃u,us[i]?=some u/\Z9 x u
 | _,_,_,_,.nil,e=>by simp at e
 | _,_,0,_,.cons r _,e=>by simp at e;subst e;exact⟨_,FQ,r⟩
 | _,_,i+1,x,.cons _ t,e=>by
  obtain⟨u,h1,h2⟩:=Z5.get (i:=i) (x:=x) t (by simpa using e);exact⟨u,by simpa using h1,h2⟩
def Z5.set {x:V}{u:WQ}(r:Z9 x u):∀{xs:List V} {us:List WQ} (i:Nat),Z5 xs us->Z5 (xs.set i x) (us.set i u)
 | _,_,_,.nil=>.nil
 | _,_,0,.cons _ t=>.cons r t
 | _,_,i+1,.cons q t=>.cons q (Z5.set r i t)
def Z5.append:∀{xs ys:List V} {us ws:List WQ},Z5 xs us->Z5 ys ws->Z5 (xs++ys) (us++ws)
 | _,_,_,_,.nil,s=>s
 | _,_,_,_,.cons r t,s=>.cons r (Z5.append t s)
def Z5.take:∀{xs:List V} {us:List WQ} (n:Nat),Z5 xs us->Z5 (xs.take n) (us.take n)
 | _,_,0,_=>.nil
 | _,_,_+1,.nil=>.nil
 | _,_,n+1,.cons r t=>.cons r (Z5.take n t)
def Z5.drop:∀{xs:List V} {us:List WQ} (n:Nat),Z5 xs us->Z5 (xs.drop n) (us.drop n)
 | _,_,0,r=>r
 | _,_,_+1,.nil=>.nil
 | _,_,n+1,.cons _ t=>Z5.drop n t
def On:Option V->Option WQ->Prop
 | some v,some u=>Z9 v u
 | none,none=>True
 | _,_=>False
def KV {κ:Type}:List (κ×V)->List (κ×WQ)->Prop:=Paired λ(p:κ×V) (q:κ×WQ)=>p.1=q.1/\Z9 p.2 q.2
def kV:Z8->V
 | .inl i=>.int i
 | .inr x=>.str x
inductive HO where
  | lst (xs:List V)
  | tup (xs:List V)
  | dK (kvs:List (Z8×V)) | dT (kvs:List (List Z8×V))
  | set (S:Int->Bool) (n:Nat)
  | ins (C dx:WP) (fs:List (Str×V))
  | own (x:WP)
  | xd (fs:List (Str×V))
  | met (f x:WP)
  | rng (lo hi:Int)
  | frz (o:Obj) (u:HO)
  | tbl (ps:Array WQ)
  | ext (φ:WU->Prop)
abbrev Hp:=WP->Option HO
def Yq (H:Hp)(a:WP)(o:HO):Hp:=λb=>if b=a then some o else H b
def Ya {H:Hp}{a:WP}{o:HO}:Yq H a o a=some o:=by unfold Yq;rw[XY rfl]
def Z0 {H:Hp}{a b:WP}{o:HO}(h:b≠a):Yq H a o b=H b:=by unfold Yq;rw[XX h]
def gQ {H:Hp}{a b:WP}{o u:HO}(h:H a=some o)(h':H b=some u)(d:o≠u):a≠b:=by
 intro e;subst e;rw[h] at h';exact d (YH h')
def Jh {H:Hp}{a b:WP}{o:HO}(h:H a=some o)(h':H b=none):a≠b:=by
 intro e;subst e;rw[h] at h';cases h'
section
variable (P:WO)(w:WN)
def Y5 (H:Hp)(h:WU)(a:WP):HO->Prop
 | .lst xs=>xs.length<=sizeLine/\∃(its:List WQ) (n:Nat),Z5 xs its/\h.get? a=some {cls:=.type "list",data:=.seq its.toArray n}
 | .tup xs=>xs.length<=sizeLine/\∃its:List WQ,Z5 xs its/\IsTup h a its.toArray
 | .dK kvs=>kvs.length<=sizeLine/\(a==sysModules)=false/\∃vs,KV kvs vs/\h.DictOf (Yv P w) a vs
 | .dT kvs=>kvs.length<=sizeLine/\(a==sysModules)=false/\∃xs:List (List Z8×WP×WQ),
   Paired (λ(p:List Z8×V) (q:List Z8×WP×WQ)=>p.1=q.1/\H q.2.1=some (.tup (p.1.map kV))/\Z9 p.2 q.2.2) kvs xs/\
   ∃o es ep,h.get? a=some o/\o.ExactDict/\o.data=.dict es ep/\es.toList=xs.map (entryOfKey (tupleKind (Yv P w)))/\(xs.map (·.1)).Nodup
 | .set S n=>h.SetOf (intKind P w) a S n
 | .ins C dx fs=>H dx=some (.own a)/\fs.length<=1000/\dx≠a/\h.get? a=some (W.instObj C dx)/\
   ∃mA,h.Ns1 dx mA/\(∀f,On (fs.lookup f) (mA f))/\PySem.Within mA (fs.map (·.1))
 | .own _=>∃o,h.get? a=some o
 | .xd fs=>∃mA,h.Ns1 a mA/\∀f,On (fs.lookup f) (mA f)
 | .rng lo hi=>∃t u v,h.get? a=some {cls:=.type "range",data:=.fields #[.int lo t,.int hi u,.int 1 v]}
 | .frz o u=>h.get? a=some o/\Y5 H h a u
 | .tbl ps=>h.get? a=some {cls:=.none,data:=.fields ps}
 | .met f x=>h.get? a=some (W.methodObj (.ref f) (.ref x))
 | .ext φ=>φ h/\(∃o,h.get? a=some o)/\∀h1 h2:WU,φ h1->(∀o,h1.get? a=some o->h2.get? a=some o)->φ h2
def Ux (H:Hp)(h:WU):Prop:=∀a o,H a=some o->Y5 P w H h a o
end
section
variable {P:WO}{w:WN}{H H':Hp}{h h':WU}{a:WP}{o:HO}
def Y5.lt (x:Y5 P w H h a o):a<h.objs.size:=by
 cases o with
 | lst xs=>obtain⟨_,_,_,_,e⟩:=x;exact XD e
 | tup xs=>obtain⟨_,_,_,p⟩:=x;exact p.lt
 | dK kvs=>obtain⟨_,_,_,_,o,_,_,e,_⟩:=x;exact XD e
 | dT kvs=>obtain⟨_,_,_,_,o,_,_,e,_⟩:=x;exact XD e
 | set S n=>obtain⟨o,_,_,_,e,_⟩:=x;exact XD e
 | ins C dx fs=>obtain⟨_,_,_,e,_⟩:=x;exact XD e
 | own y=>obtain⟨_,e⟩:=x;exact XD e
 | xd fs=>obtain⟨_,⟨_,_,_,e,_⟩,_⟩:=x;exact XD e
 | rng lo hi=>obtain⟨_,_,_,e⟩:=x;exact XD e
 | frz ob u=>obtain⟨e,_⟩:=x;exact XD e
 | tbl ps=>exact XD (show h.get? a=some _ from x)
 | met f y=>exact XD (show h.get? a=some _ from x)
 | ext φ=>obtain⟨_,⟨_,e⟩,_⟩:=x;exact XD e
def Paired.mapP {α I:Type}{F G:α->I->Prop}:∀{y:List α} {D:List I},Paired F y D->(∀a b,F a b->G a b)->Paired G y D
 | _,_,.nil,_=>.nil
 | _,_,.cons r t,f=>.cons (f _ _ r) (Paired.mapP t f)
def Y5.stay (x:Y5 P w H h a o)(k:∀b u,(b=a\/H b=some (.own a))->h.get? b=some u->h'.get? b=some u)
  (D:∀b,H b=some (.own a)->H' b=some (.own a)) (G:∀b xs,H b=some (.tup xs)->H' b=some (.tup xs)):Y5 P w H' h' a o:=by
 induction o with
 | lst xs=>obtain⟨z,its,n,r,e⟩:=x;exact⟨z,its,n,r,k _ _ (.inl FQ) e⟩
 | tup xs=>obtain⟨z,its,r,ob,e,c⟩:=x;exact⟨z,its,r,ob,k _ _ (.inl FQ) e,c⟩
 | dK kvs=>obtain⟨z,y,vs,r,ob,es,ep,e,c⟩:=x;exact⟨z,y,vs,r,ob,es,ep,k _ _ (.inl FQ) e,c⟩
 | dT kvs=>
  obtain⟨z,y,xs,r,ob,es,ep,e,c⟩:=x;exact⟨z,y,xs,Paired.mapP r λp q z=>⟨z.1,G _ _ z.2.1,z.2.2⟩,ob,es,ep,k _ _ (.inl FQ) e,c⟩
 | set S n=>obtain⟨ob,es,ep,t,e,c⟩:=x;exact⟨ob,es,ep,t,k _ _ (.inl FQ) e,c⟩
 | ins C dx fs=>
  obtain⟨d,z,ne,e,mA,⟨od,es,ep,g,c⟩,r⟩:=x;exact⟨D _ d,z,ne,k _ _ (.inl FQ) e,mA,⟨od,es,ep,k _ _ (.inr d) g,c⟩,r⟩
 | own y=>obtain⟨ob,e⟩:=x;exact⟨ob,k _ _ (.inl FQ) e⟩
 | xd fs=>obtain⟨mA,⟨od,es,ep,e,c⟩,r⟩:=x;exact⟨mA,⟨od,es,ep,k _ _ (.inl FQ) e,c⟩,r⟩
 | rng lo hi=>obtain⟨t,u,v,e⟩:=x;exact⟨t,u,v,k _ _ (.inl FQ) e⟩
 | frz ob u i=>obtain⟨e,q⟩:=x;exact⟨k _ _ (.inl FQ) e,i q⟩
 | tbl ps=>
  have e:h.get? a=some {cls:=.none,data:=.fields ps}:=x;show h'.get? a=some {cls:=.none,data:=.fields ps};exact k a _ (.inl FQ) e
 | met f y=>
  have e:h.get? a=some (W.methodObj (.ref f) (.ref y)):=x;show h'.get? a=some (W.methodObj (.ref f) (.ref y));exact k a _ (.inl FQ) e
 | ext φ=>obtain⟨p,⟨o,e⟩,st⟩:=x;exact⟨st _ _ p λo q=>k _ _ (.inl FQ) q,⟨o,k _ _ (.inl FQ) e⟩,st⟩
def Ux.lt (x:Ux P w H h)(e:H a=some o):a<h.objs.size:=(x a o e).lt
def Ux.fresh (x:Ux P w H h)(e:h.objs.size<=a):H a=none:=by
 cases q:H a with
 | none=>rfl
 | some u=>exact absurd (XG (x.lt q) e) (BH _)
def Ux.kept (x:Ux P w H h)(k:∀b u,h.get? b=some u->h'.get? b=some u):Ux P w H h':=λa o e=>
 (x a o e).stay (λb u _ q=>k b u q) (λ_ q=>q) λ_ _ q=>q
def Ux.laid (x:Ux P w H h)(k:∀b u,h.get? b=some u->h'.get? b=some u)(y:h.objs.size<=a)(new:Y5 P w (Yq H a o) h' a o):Ux P w (Yq H a o) h':=λb u e=>by
 have hn:=x.fresh y;by_cases hb:b=a
 ·subst hb;rw[Ya] at e;cases e;exact new
 ·rw[Z0 hb] at e;exact(x b u e).stay (λc v _ q=>k c v q) (λc q=>by rw[Z0 (Jh q hn)];exact q) λc xs q=>by rw[Z0 (Jh q hn)];exact q
end
def Rd (H:Hp)(a:WP)(u:HO):Prop:=H a=some u\/∃o,H a=some (.frz o u)
def Rd.ok {P:WO}{w:WN}{H:Hp}{h:WU}{a:WP}{u:HO}(r:Rd H a u)(x:Ux P w H h):Y5 P w H h a u:=by
 rcases r with r | ⟨o,r⟩
 ·exact x a u r
 ·obtain⟨_,q⟩:=x a _ r;exact q
def fZ:Option HO->Prop
 | some (.lst _)=>True
 | some (.dK _)=>True
 | some (.dT _)=>True
 | some (.set _ _)=>True
 | some (.ins _ _ _)=>True
 | some (.ext _)=>True
 | _=>False
section
variable {P:WO}{w:WN}{H:Hp}{h h':WU}{x e:WP}{o':HO}
def Ux.write (ok:Ux P w H h)(D:fZ (H x))(I:e=x\/H e=some (.own x))(k:∀b u,b≠e->h.get? b=some u->h'.get? b=some u)(G:∃u,h'.get? e=some u)
  (new:Y5 P w (Yq H x o') h' x o'):Ux P w (Yq H x o') h':=λb u q=>by
 have d:∀c y,H c=some (.own y)->c≠x:=λc y r z=>by subst z;rw[r] at D;exact D
 have f:∀c xs,H c=some (.tup xs)->c≠x:=λc xs r z=>by subst z;rw[r] at D;exact D
 by_cases hb:b=x
 ·subst hb;rw[Ya] at q;cases q;exact new
 ·rw[Z0 hb] at q;by_cases a:b=e
  ·have g:H b=some (.own x):=by
    rcases I with z | z
    ·exact absurd (a.trans z) hb
    ·rw[a];exact z
   rw[q] at g;cases g;obtain⟨v,hv⟩:=G;exact⟨v,by rw[a];exact hv⟩
  ·refine(ok b u q).stay (λc v hc r=>k c v ?_ r) (λc r=>by rw[Z0 (d c b r)];exact r) λc xs r=>by rw[Z0 (f c xs r)];exact r
   rcases hc with rfl | hc
   ·exact a
   ·rintro rfl
    rcases I with z | z
    ·exact d c b hc z
    ·rw[hc] at z;cases z;exact hb FQ
end
structure Un (fs ex:List Addr)(H H':Hp)(h h':Heap):Prop where
 keep:∀b o,h.get? b=some o->H b=none->b∉fs->b∉ex->h'.get? b=some o
 slot:∀b o,h.get? b=some o->H b=none->b∈fs->b∉ex->∃sl,h'.get? b=some {o with slots:=sl}
 free:∀b o,h.get? b=some o->H b=none->b∉ex->H' b=none
 there:∀b o,h.get? b=some o->b∉ex->∃o',h'.get? b=some o'
 tups:∀b xs,H b=some (.tup xs)->H' b=some (.tup xs)
 frzs:∀b o u,H b=some (.frz o u)->H' b=some (.frz o u)
 tbls:∀b ps,H b=some (.tbl ps)->∃more,H' b=some (.tbl (ps++more))
section
variable {fs j_ ex i':List WP}{H H1 H2:Hp}{h h1 h2 h':WU}{a x e:WP}{o:HO}
def Un.any (u:Un fs ex H H1 h h1){b:WP}{ob:Obj}(q:h.get? b=some ob)(n:H b=none)(hx:b∉ex):∃sl,h1.get? b=some {ob with slots:=sl}:=by
 by_cases hb:b∈fs
 ·exact u.slot b ob q n hb hx
 ·exact⟨ob.slots,u.keep b ob q n hb hx⟩
def Un.kept (k:∀b u,h.get? b=some u->h'.get? b=some u):Un fs ex H H h h':=
 ⟨λb ob q _ _ _=>k b ob q,λb ob q _ _ _=>⟨ob.slots,k b ob q⟩,λ_ _ _ n _=>n,λb ob q _=>⟨ob,k b ob q⟩,λ_ _ q=>q,λ_ _ _ q=>q,λ_ ps q=>⟨#[],by rw[q];simp⟩⟩
def Un.refl:Un fs ex H H h h:=Un.kept λ_ _ q=>q
def Un.laid (k:∀b u,h.get? b=some u->h'.get? b=some u)(y:h.objs.size<=a)(hn:H a=none):Un fs ex H (Yq H a o) h h' where
 keep:=λb u q _ _ _=>k b u q
 slot:=λb u q _ _ _=>⟨u.slots,k b u q⟩
 free:=λb u q n _=>by rw[Z0 (XH (XG (XD q) y))];exact n
 there:=λb u q _=>⟨u,k b u q⟩
 tups:=λb xs q=>by rw[Z0 (Jh q hn)];exact q
 frzs:=λb u xs q=>by rw[Z0 (Jh q hn)];exact q
 tbls:=λb ps q=>⟨#[],by rw[Z0 (Jh q hn),q];simp⟩
def Un.write (y:fZ (H x))(G:e=x\/H e=some (.own x))(k:∀b u,b≠e->h.get? b=some u->h'.get? b=some u)(D:∃u,h'.get? e=some u):Un fs ex H (Yq H x o) h h':=by
 have hx:∀b,H b=none->b≠x:=λb n z=>by subst z;rw[n] at y;exact y
 have hb:∀b,H b=none->b≠e:=λb n z=>by
  subst z
  rcases G with r | r
  ·exact hx b n r
  ·rw[n] at r;cases r
 have hm:∀b u,H b=some u->¬fZ (some u)->b≠x:=λb u q nm z=>by subst z;rw[q] at y;exact nm y
 refine⟨λb u q n _ _=>k b u (hb b n) q,λb u q n _ _=>⟨u.slots,k b u (hb b n) q⟩,λb u q n _=>by rw[Z0 (hx b n)];exact n,λb u q _=>?_,
  λb xs q=>by rw[Z0 (hm b _ q λz=>z)];exact q,λb u xs q=>by rw[Z0 (hm b _ q λz=>z)];exact q,λb ps q=>⟨#[],by rw[Z0 (hm b _ q λz=>z),q];simp⟩⟩
 by_cases a:b=e
 ·subst a;exact D
 ·exact⟨u,k b u a q⟩
end
def eD (h:WU)(H:Hp):List WP:=(List.range h.objs.size).filter λa=>(H a).isSome
def Ck (h:WU)(H:Hp):WU:=W.hideAll h (eD h H)
def xS (h:WU)(H:Hp):(Ck h H).objs.size=h.objs.size:=W.hideAll_size _ _
def uT {h:WU}{H:Hp}{b:WP}{o:Obj}(e:h.get? b=some o)(n:H b=none):(Ck h H).get? b=some o:=
 FI _ e λhm=>by
  have q:(H b).isSome=true:=(List.mem_filter.mp hm).2;rw[n] at q;simp at q
def qy {h:WU}{H:Hp}{b:WP}{o:Obj}(e:(Ck h H).get? b=some o):h.get? b=some o/\H b=none:=by
 have e':h.get? b=some o:=W.of_hideAll (eD h H) e;refine⟨e',?_⟩
 cases q:H b with
 | none=>rfl
 | some x=>
  have hm:b∈eD h H:=List.mem_filter.mpr ⟨List.mem_range.mpr (Heap.lt_size e'),by simp[q]⟩;have z:(Ck h H).get? b=none:=W.hideAll_none (eD h H) hm;rw[z] at e;cases e
def pS (g h:WU)(L:WP):List (WP×Obj):=(List.range h.objs.size).filterMap λa=>if a=L\/(g.get? a).isSome=true then none else(h.get? a).map λo=>(a,o)
def Yc (g h:WU)(L d:WP):List (WP×Obj):=(pS g h L).filter λp=>decide (p.1≠d)
structure Mod (K:W.Frag)(mg:Str->Option Value)(base:Heap):Prop where
 kin:K.In base
 glob:base.Ns mainGlobals mg
 blt:∃mb,base.Ns builtinsNs mb/\∀x:Str,x≠"__name__"->mb x=bootBuiltins x
 nolimit:base.NoLimit
structure Cx where
 prog:WO
 w:WN
 K:WY
 mg:Str->Option WQ
 base:WU
 A:WM
 N:List Str
 s₀:WR
 H₀:Hp
 env:Env
 outer:List Env
 stack:List Env
 ex:List WP
 fn:Str->Bool
 calm:Bool
 pn:List (WP×Obj)
 xe:WQ->WR->Prop
def Yx (l:List Env):List WP:=l.filterMap (·.frame)
abbrev Cx.fs (X:Cx):List WP:=Yx X.outer
def eR (sc:Scope)(x:Str):Prop:=sc.names.lookup x=some .local\/sc.names.lookup x=some .cell\/sc.names.lookup x=some .free
def nh (sc:Scope)(x:Str):Prop:=sc.names.lookup x=some .local\/sc.names.lookup x=some .cell
def cZ (env:Env)(h:WU)(m:Str->Option WQ)(x:Str)(u:WQ):Prop:=
 (env.kindOf x=some .local/\m x=some u)\/((env.kindOf x=some .cell\/env.kindOf x=some .free)/\∃c,env.cells.lookup x=some c/\h.IsCell c (some u))
structure Cx.Ok (X:Cx):Prop where
 mod:Mod X.K X.mg X.base
 kind:X.env.scope.kind=.function
 glob:X.env.globals=mainGlobals
 blt:X.env.builtins=builtinsNs
 above:X.s₀.heap.objs.size<=X.env.locals
 inj:∀x y c,X.env.cells.lookup x=some c->X.env.cells.lookup y=some c->x=y
 has:∀x,(X.env.kindOf x=some .cell\/X.env.kindOf x=some .free)->∃c,X.env.cells.lookup x=some c
 cab:∀x c,X.fn x=true->X.env.cells.lookup x=some c->X.s₀.heap.objs.size<=c
 hd:X.calm=true->X.A.handled=none
 frames:X.A.frames=some X.stack
 stk:X.stack=X.outer\/(X.stack=X.env::X.outer/\X.env.frame=some X.env.locals)
 exf:∀b∈X.ex,b≠X.env.locals/\∀x c,X.env.cells.lookup x=some c->c≠b
 bs:∀b o,X.base.get? b=some o->X.s₀.heap.get? b=some o/\X.H₀ b=none
 bsz:X.base.objs.size<=X.s₀.heap.objs.size
 noex:∀b o,X.base.get? b=some o->b∉X.ex
 exfs:∀b∈X.ex,b∉X.fs
 funs:X.s₀.heap.FunFrames X.base X.outer
 frf:∀b∈X.fs,X.H₀ b=none
structure Zq (X:Cx)(WZ:List (Addr×Obj))(σ:List (Option V))(H:Hp)(s:Shared):Prop where
 ok:X.Ok
 os:s.os=X.s₀.os
 bare:AllBare s.gens
 base:Un X.fs X.ex X.H₀ H X.s₀.heap s.heap
 loc:∃m,s.heap.Ns X.env.locals m/\∀(i:Nat) (x:Str) (v:V),X.N[i]?=some x->σ[i]?=some (some v)->eR X.env.scope x->∃u,Z9 v u/\cZ X.env s.heap m x u
 cell:∀x c,X.env.cells.lookup x=some c->∃v,s.heap.IsCell c v
 free:H X.env.locals=none
 freeC:∀x c,X.env.cells.lookup x=some c->H c=none
 pin:∀p∈X.pn++WZ,s.heap.get? p.1=some p.2/\H p.1=none/\p.1≠X.env.locals/\p.1∉X.fs/\∀v,p.2.data≠.cell v
 hok:Ux X.prog X.w H s.heap
 len:σ.length=X.N.length
section
variable {X:Cx}{WZ:List (WP×Obj)}{σ:List (Option V)}{H H':Hp}{s:WR}{h':WU}
def Cx.Ok.nofr (ok:X.Ok){b:WP}{o:Obj}(e:X.base.get? b=some o):b∉X.fs:=λhb=>by
 have:=(ok.funs.mem hb).1;rw[e] at this;cases this
def Zq.bs (I:Zq X WZ σ H s):∀b o,X.base.get? b=some o->s.heap.get? b=some o/\H b=none:=λb o e=>
 ⟨I.base.keep b o (I.ok.bs b o e).1 (I.ok.bs b o e).2 (I.ok.nofr e) (I.ok.noex b o e),I.base.free b o (I.ok.bs b o e).1 (I.ok.bs b o e).2 (I.ok.noex b o e)⟩
def Zq.bk (I:Zq X WZ σ H s):∀b o,X.base.get? b=some o->s.heap.get? b=some o:=λb o e=>(I.bs b o e).1
def Zq.mod (I:Zq X WZ σ H s):Mod X.K X.mg X.base:=I.ok.mod
def Zq.kIn (I:Zq X WZ σ H s):X.K.In s.heap:=I.ok.mod.kin.keeps I.bk
def Zq.lt (I:Zq X WZ σ H s):X.env.locals<s.heap.objs.size:=let ⟨_,hn,_⟩:=I.loc;hn.lt
def Zq.sz (I:Zq X WZ σ H s):X.s₀.heap.objs.size<=s.heap.objs.size:=XN I.ok.above (CG I.lt)
def Zq.nofs (I:Zq X WZ σ H s){a:WP}(h:s.heap.objs.size<=a):a∉X.fs:=λhb=>by
 obtain⟨_,o,b,_⟩:=I.ok.funs.mem hb;exact absurd (XG (XD b) (XN I.sz h)) (BH _)
def Zq.cne (I:Zq X WZ σ H s):∀x c,X.env.cells.lookup x=some c->c≠X.env.locals:=λx c e z=>by
 obtain⟨v,o,d,hd⟩:=I.cell x c e;obtain⟨m,⟨o',es,ep,a,b,_⟩,_⟩:=I.loc;rw[z,a] at d;cases d;rw[b] at hd;cases hd
def Zq.funs (I:Zq X WZ σ H s):s.heap.FunFrames X.base X.outer:=by
 have all:∀(l:List Env),(∀b∈Yx l,b∈X.fs)->X.s₀.heap.FunFrames X.base l->s.heap.FunFrames X.base l:=by
  intro l
  induction l with
  | nil=>intro _ _;trivial
  | cons env r d=>
   intro hs f;obtain⟨hk,⟨L,o,a,hn,g,hd⟩,h⟩:=f;have c:L∈X.fs:=hs L (by unfold Yx;rw[FF,a];exact BA);obtain⟨sl,e⟩:=I.base.slot L o g (I.ok.frf L c) c λz=>I.ok.exfs L z c;exact⟨hk,⟨L,_,a,hn,e,hd⟩,d (λb hb=>hs b (by unfold Yx;rw[FF,a];exact XV _ hb)) h⟩
 exact all X.outer (λ_ hb=>hb) I.ok.funs
def Zq.stack (I:Zq X WZ σ H s):s.heap.FunFrames X.base X.stack:=by
 rcases I.ok.stk with e | ⟨e,a⟩
 ·rw[e];exact I.funs
 ·rw[e];obtain⟨m,hn,_⟩:=I.loc;refine .cons (by rw[I.ok.kind];decide) a hn ?_ I.funs;exact Heap.get?_none_of_le (XN I.ok.bsz I.ok.above)
def Zq.stkSub (I:Zq X WZ σ H s):∀b∈Yx X.stack,b∈X.env.locals::X.fs:=λb hb=>by
 rcases I.ok.stk with e | ⟨e,a⟩
 ·rw[e] at hb;exact XV _ hb
 ·rw[e] at hb;unfold Yx at hb;rw[FF,a] at hb;exact hb
def Zq.stkFree (I:Zq X WZ σ H s):∀b∈Yx X.stack,H b=none:=λb hb=>by
 rcases BB.mp (I.stkSub b hb) with e | hb
 ·rw[e];exact I.free
 ·obtain⟨_,o,a,_⟩:=I.ok.funs.mem hb;exact I.base.free b o a (I.ok.frf b hb) λz=>I.ok.exfs b z hb
def Zq.step {g':Array GenState}{t':Nat}{d':Drawn}{ch:List WP}(I:Zq X WZ σ H s)
  (y:∀b∈ch,(b∈X.ex\/X.s₀.heap.objs.size<=b)/\b≠X.env.locals/\(∀x c,X.env.cells.lookup x=some c->c≠b)/\∀p∈X.pn++WZ,p.1≠b)
  (keep:∀b o,b≠X.env.locals->b∉X.fs->b∉ch->s.heap.get? b=some o->H b=none->h'.get? b=some o)
  (slot:∀b o,b≠X.env.locals->b∈X.fs->b∉ch->s.heap.get? b=some o->H b=none->∃sl,h'.get? b=some {o with slots:=sl}) (free:∀b o,b∉ch->s.heap.get? b=some o->H b=none->H' b=none)
  (there:∀b o,b∉ch->s.heap.get? b=some o->∃o',h'.get? b=some o')
  (tups:∀b xs,H b=some (.tup xs)->H' b=some (.tup xs)) (frzs:∀b o u,H b=some (.frz o u)->H' b=some (.frz o u)) (tbls:∀b ps,H b=some (.tbl ps)->∃more,H' b=some (.tbl (ps++more)))
  (ns:∀m,s.heap.Ns X.env.locals m->h'.Ns X.env.locals m) (hok:Ux X.prog X.w H' h') (G:AllBare g'):
  Zq X WZ σ H' {s with heap:=h',gens:=g',drawn:=d',toks:=t'}:=by
 have t:∀b o,X.s₀.heap.get? b=some o->b≠X.env.locals:=λb o e=>XH (XG (XD e) I.ok.above);have g:∀b o,X.s₀.heap.get? b=some o->b∉X.ex->b∉ch:=λb o e hx hb=>by
  rcases (y b hb).1 with z | z
  ·exact hx z
  ·exact absurd (XG (XD e) z) (BH _)
 have a:∀x c,X.env.cells.lookup x=some c->∀v,s.heap.IsCell c v->h'.IsCell c v:=λx c e v ⟨o,j,hd⟩=>by
  have f:c∉ch:=λz=>(y c z).2.2.1 x c e FQ;by_cases hc:c∈X.fs
  ·obtain⟨sl,q⟩:=slot c o (I.cne x c e) hc f j (I.freeC x c e);exact⟨_,q,hd⟩
  ·exact⟨o,keep c o (I.cne x c e) hc f j (I.freeC x c e),hd⟩
 refine⟨I.ok,I.os,G,⟨λb o e n hb hx=>?_,λb o e n hb hx=>?_,λb o e n hx=>?_,λb o e hx=>?_,λb xs e=>tups b xs (I.base.tups b xs e),λb o xs e=>frzs b o xs (I.base.frzs b o xs e),λb ps e=>?_⟩,?_,λx c e=>?_,?_,λx c e=>?_,λp C=>?_,hok,I.len⟩
 ·exact keep b o (t b o e) hb (g b o e hx) (I.base.keep b o e n hb hx) (I.base.free b o e n hx)
 ·obtain⟨sl,h⟩:=I.base.slot b o e n hb hx;obtain⟨B,A⟩:=slot b _ (t b o e) hb (g b o e hx) h (I.base.free b o e n hx);exact⟨B,A⟩
 ·obtain⟨o',h⟩:=I.base.there b o e hx;exact free b o' (g b o e hx) h (I.base.free b o e n hx)
 ·obtain⟨o',h⟩:=I.base.there b o e hx;exact there b o' (g b o e hx) h
 ·obtain⟨m1,h⟩:=I.base.tbls b ps e;obtain⟨m2,A⟩:=tbls b _ h;exact⟨m1++m2,by rw[A,Array.append_assoc]⟩
 ·obtain⟨m,hn,E⟩:=I.loc;refine⟨m,ns m hn,λi x v h A e3=>?_⟩;obtain⟨u,r,l⟩:=E i x v h A e3;refine⟨u,r,?_⟩
  rcases l with l | ⟨k,c,e,z⟩
  ·exact .inl l
  ·exact .inr ⟨k,c,e,a x c e _ z⟩
 ·obtain⟨v,z⟩:=I.cell x c e;exact⟨v,a x c e v z⟩
 ·obtain⟨m,⟨o,_,_,j,_⟩,_⟩:=I.loc;exact free _ o (λz=>(y _ z).2.1 FQ) j I.free
 ·obtain⟨v,o,j,hd⟩:=I.cell x c e;exact free c o (λz=>(y c z).2.2.1 x c e FQ) j (I.freeC x c e)
 ·obtain⟨e,n,ne,D,d⟩:=I.pin p C;have f:p.1∉ch:=λz=>(y p.1 z).2.2.2 p C FQ;exact⟨keep p.1 p.2 ne D f e n,free p.1 p.2 f e n,ne,D,d⟩
def Zq.un {t':Nat}(I:Zq X WZ σ H s)(u:Un X.fs [] H H' s.heap h')(hok:Ux X.prog X.w H' h'):Zq X WZ σ H' {s with heap:=h',toks:=t'}:=by
 obtain⟨m,⟨o,es,ep,f,r⟩,_⟩:=id I.loc;obtain⟨sl,g⟩:=u.any f I.free (by simp);exact I.step (g':=s.gens) (d':=s.drawn) (ch:=[]) (λ_ z=>nomatch z) (λb o _ hb _ e n=>u.keep b o e n hb (by simp)) (λb o _ hb _ e n=>u.slot b o e n hb (by simp)) (λb o _ e n=>u.free b o e n (by simp)) (λb o _ e=>u.there b o e (by simp)) u.tups u.frzs u.tbls (λh hm=>by
  obtain⟨o',c,d,a,r'⟩:=hm;rw[f] at a;cases a;exact⟨_,c,d,g,r'⟩) hok I.bare
def Zq.call {g':Array GenState}{t':Nat}{d':Drawn}{ch:List WP}(I:Zq X WZ σ H s)(u:Un (Yx X.stack) ch H H' s.heap h')(hok:Ux X.prog X.w H' h')(D:AllBare g')
  (y:∀b∈ch,(b∈X.ex\/X.s₀.heap.objs.size<=b)/\b≠X.env.locals/\(∀x c,X.env.cells.lookup x=some c->c≠b)/\∀p∈X.pn++WZ,p.1≠b):
  Zq X WZ σ H' {s with heap:=h',gens:=g',drawn:=d',toks:=t'}:=by
 obtain⟨m,⟨o,es,ep,h,r⟩,_⟩:=id I.loc;obtain⟨sl,d⟩:=u.any h I.free λz=>(y _ z).2.1 FQ;exact I.step (ch:=ch) y (λb o d hb hc e n=>u.keep b o e n (λz=>(BB.mp (I.stkSub b z)).elim d hb) hc) (λb o _ _ hc e n=>u.any e n hc) (λb o hc e n=>u.free b o e n hc) (λb o hc e=>u.there b o e hc) u.tups u.frzs u.tbls (λi hm=>by
  obtain⟨o',f,g,a,r'⟩:=hm;rw[h] at a;cases a;exact⟨_,f,g,d,r'⟩) hok D
def Zq.turned {t':Nat}{it:WP}(I:Zq X WZ σ H s)(k:∀b o,b≠it->s.heap.get? b=some o->h'.get? b=some o)(hn:H it=none)(y:it≠X.env.locals)
  (h1:it∈X.ex\/X.s₀.heap.objs.size<=it) (h2:∀x c,X.env.cells.lookup x=some c->c≠it) (D:∀p∈X.pn++WZ,p.1≠it):Zq X WZ σ H {s with heap:=h',toks:=t'}:=by
 have a:∀b u,H b=some u->b≠it:=λb u e z=>by rw[z,hn] at e;cases e
 refine I.step (g':=s.gens) (d':=s.drawn) (ch:=[it]) (λb hb=>?_) (λb o _ _ hc e _=>k b o (λz=>hc (by simp[z])) e) (λb o _ _ hc e _=>⟨o.slots,k b o (λz=>hc (by simp[z])) e⟩) (λ_ _ _ _ n=>n)
  (λb o hc e=>⟨o,k b o (λz=>hc (by simp[z])) e⟩) (λ_ _ e=>e) (λ_ _ _ e=>e) (λb ps e=>⟨#[],by rw[e];simp⟩) (λm hm=>?_) (λb u e=>?_) I.bare
 ·have e:b=it:=by simpa using hb
  subst e;exact⟨h1,y,h2,D⟩
 ·obtain⟨o,es,ep,d,r⟩:=hm;exact⟨o,es,ep,k _ o (Ne.symm y) d,r⟩
 ·refine(I.hok b u e).stay (λc v hc q=>k c v ?_ q) (λ_ q=>q) λ_ _ q=>q
  rcases hc with z | z
  ·rw[z];exact a b u e
  ·exact a c _ z
def Zq.tok (I:Zq X WZ σ H s)(t:Nat):Zq X WZ σ H {s with toks:=t}:=I.un (h':=s.heap) (t':=t) Un.refl I.hok
def Zq.kept {t':Nat}(I:Zq X WZ σ H s)(k:∀b u,s.heap.get? b=some u->h'.get? b=some u):Zq X WZ σ H {s with heap:=h',toks:=t'}:=I.un (Un.kept k) (I.hok.kept k)
def Zq.laid {a:WP}{o:HO}{t':Nat}(I:Zq X WZ σ H s)(k:∀b u,s.heap.get? b=some u->h'.get? b=some u)(y:s.heap.objs.size<=a)(new:Y5 X.prog X.w (Yq H a o) h' a o):
  Zq X WZ σ (Yq H a o) {s with heap:=h',toks:=t'}:=I.un (Un.laid k y (I.hok.fresh y)) (I.hok.laid k y new)
def Zq.write {x e:WP}{o:HO}{t':Nat}(I:Zq X WZ σ H s)(D:fZ (H x))(G:e=x\/H e=some (.own x))(k:∀b u,b≠e->s.heap.get? b=some u->h'.get? b=some u)(y:∃u,h'.get? e=some u)
  (new:Y5 X.prog X.w (Yq H x o) h' x o):Zq X WZ σ (Yq H x o) {s with heap:=h',toks:=t'}:=I.un (Un.write D G k y) (I.hok.write D G k y new)
def Zq.weak {y_:List (Option V)}(I:Zq X WZ σ H s)(y:y_.length=σ.length)(w:∀(i:Nat) v,y_[i]?=some (some v)->σ[i]?=some (some v)):Zq X WZ y_ H s:=
 ⟨I.ok,I.os,I.bare,I.base,let ⟨m,hn,a⟩:=I.loc;⟨m,hn,λi x v b c e3=>a i x v b (w i v c) e3⟩,I.cell,I.free,I.freeC,I.pin,I.hok,y.trans I.len⟩
def Zq.pins_of {y:List (WP×Obj)}(I:Zq X WZ σ H s)(h:∀p∈y,s.heap.get? p.1=some p.2/\H p.1=none/\p.1≠X.env.locals/\p.1∉X.fs/\∀v,p.2.data≠.cell v):Zq X y σ H s:=
 ⟨I.ok,I.os,I.bare,I.base,I.loc,I.cell,I.free,I.freeC,λp a=>(XS.mp a).elim (λz=>I.pin p (BK _ z)) (h p),I.hok,I.len⟩
def Hb {N:List Str}(c:N.Nodup){i j:Nat}{x:Str}(a:N[i]?=some x)(b:N[j]?=some x):i=j:=by
 obtain⟨h1,d⟩:=AZ.mp a;obtain⟨h2,e⟩:=AZ.mp b;exact(List.getElem_inj c).mp (d.trans e.symm)
def Fs {M:Model}{A:WM}{E:WQ->WR->Prop}{i:Nat}{x:Str}{v:V}{u:WQ}{Q:Unit->WR->Prop}(I:Zq X WZ σ H s)(hN:X.N.Nodup)(hi:X.N[i]?=some x)(hx:nh X.env.scope x)(r:Z9 v u)
  (h:∀s',Zq X WZ (σ.set i (some v)) H s'->(∃a,Heap.SameBut a s.heap s'.heap/\(a=X.env.locals\/X.env.cells.lookup x=some a))->Q () s') (hf:X.fn x=true\/X.env.scope.names.lookup x=some .local:=by first | exact .inl FQ | exact .inr FQ | assumption):wpAny M A (storeName X.env x u) Q E s:=by
 obtain⟨m,hn,hl⟩:=id I.loc;have D:(X.env.scope.kind==.class||(X.env.scope.kind==.module&&X.env.locals !=X.env.globals))=false:=by rw[I.ok.kind];rfl
 have B:i<σ.length:=by rw[I.len];exact(AZ.mp hi).1
 have cne:=I.cne;have f:∀{a:WP} {h':WU},(∃o,s.heap.get? a=some o/\H a=none)->Heap.SameBut a s.heap h'->Ux X.prog X.w H h':=λ{a h'} ha hs b ob e=>by
  obtain⟨_,_,l⟩:=ha;refine(I.hok b ob e).stay (λc w' hc q=>(hs.2 c ?_).trans q) (λ_ q=>q) λ_ _ q=>q;rintro rfl
  rcases hc with rfl | hc
  ·rw[l] at e;cases e
  ·rw[l] at hc;cases hc
 rcases hx with hk | hk
 ·refine wpAny_storeName_local hk hn (λh' A_ hs=>?_) D;obtain⟨oL,_,_,B_,_⟩:=id hn;refine h _ ⟨I.ok,I.os,I.bare,⟨λb o e n hb hx=>?_,λb o e n hb hx=>?_,I.base.free,λb o e hx=>?_,I.base.tups,I.base.frzs,I.base.tbls⟩,⟨_,A_,λj y v' g t e3=>?_⟩,λy c e=>?_,I.free,I.freeC,λp hp=>?_,f ⟨oL,B_,I.free⟩ hs,by simpa using I.len⟩ ⟨_,hs,.inl FQ⟩
  ·exact(hs.2 b (XH (XG (XD e) I.ok.above))).trans (I.base.keep b o e n hb hx)
  ·obtain⟨sl,g⟩:=I.base.slot b o e n hb hx;exact⟨sl,(hs.2 b (XH (XG (XD e) I.ok.above))).trans g⟩
  ·obtain⟨o',g⟩:=I.base.there b o e hx;exact⟨o',(hs.2 b (XH (XG (XD e) I.ok.above))).trans g⟩
  ·by_cases hj:j=i
   ·subst hj;rw[hi] at g;cases g;rw[BN B] at t
    cases t
    exact⟨u,r,.inl ⟨hk,by simp⟩⟩
   ·rw[BW (Ne.symm hj)] at t;obtain⟨u',r',q⟩:=hl j y v' g t e3;refine⟨u',r',?_⟩
    rcases q with⟨k,e⟩ | ⟨k,c,e,z⟩
    ·refine .inl ⟨k,?_⟩;have:y≠x:=λe=>hj (Hb hN g (e▸hi));simp[this,e]
    ·exact .inr ⟨k,c,e,z.sameBut hs (cne y c e)⟩
  ·obtain⟨w',z⟩:=I.cell y c e;exact⟨w',z.sameBut hs (cne y c e)⟩
  ·obtain⟨e,n,ne,nf,d⟩:=I.pin p hp;exact⟨(hs.2 p.1 ne).trans e,n,ne,nf,d⟩
 ·have C:X.fn x=true:=by
   rcases hf with z | z
   ·exact z
   ·rw[z] at hk;cases hk
  obtain⟨c,hc⟩:=I.ok.has x (.inl hk);obtain⟨w',z⟩:=I.cell x c hc;refine wpAny_storeName_cell I.ok.kind hk hc z (λh' G hs=>?_);obtain⟨oc,L,U⟩:=id z;refine h {s with heap:=h'} ⟨I.ok,I.os,I.bare,⟨λb o e n hb hx=>?_,λb o e n hb hx=>?_,I.base.free,λb o e hx=>?_,I.base.tups,I.base.frzs,I.base.tbls⟩,⟨m,hn.sameBut hs (Ne.symm (cne x c hc)),λj y v' g t e3=>?_⟩,λy c' e=>?_,I.free,I.freeC,λp hp=>?_,f ⟨oc,L,I.freeC x c hc⟩ hs,by simpa using I.len⟩ ⟨c,hs,.inr hc⟩
  ·exact(hs.2 b (XH (XG (XD e) (I.ok.cab x c C hc)))).trans (I.base.keep b o e n hb hx)
  ·obtain⟨sl,g⟩:=I.base.slot b o e n hb hx;exact⟨sl,(hs.2 b (XH (XG (XD e) (I.ok.cab x c C hc)))).trans g⟩
  ·obtain⟨o',g⟩:=I.base.there b o e hx;exact⟨o',(hs.2 b (XH (XG (XD e) (I.ok.cab x c C hc)))).trans g⟩
  ·by_cases hj:j=i
   ·subst hj;rw[hi] at g;cases g;rw[BN B] at t
    cases t
    exact⟨u,r,.inr ⟨.inl hk,c,hc,G⟩⟩
   ·rw[BW (Ne.symm hj)] at t;obtain⟨u',r',q⟩:=hl j y v' g t e3;refine⟨u',r',?_⟩
    rcases q with q | ⟨k,c',e,z'⟩
    ·exact .inl q
    ·refine .inr ⟨k,c',e,z'.sameBut hs ?_⟩;rintro rfl;exact hj (Hb hN g (I.ok.inj _ _ _ e hc▸hi))
  ·by_cases Y:c'=c
   ·subst Y;exact⟨_,G⟩
   ·obtain⟨w2,z2⟩:=I.cell y c' e;exact⟨w2,z2.sameBut hs Y⟩
  ·obtain⟨e,n,ne,nf,d⟩:=I.pin p hp;refine⟨(hs.2 p.1 ?_).trans e,n,ne,nf,d⟩;intro q;rw[q,L] at e;have q':oc=p.2:=YH e;exact d w' (by rw[<-q'];exact U)
def Ny {M:Model}{A:WM}{E:WQ->WR->Prop}{i:Nat}{x:Str}{v:V}{u:WQ}{Q:Unit->WR->Prop}(I:Zq X WZ σ H s)(a:X.N.Nodup)(hi:X.N[i]?=some x)(hx:nh X.env.scope x)(r:Z9 v u)
  (h:∀s',Zq X WZ (σ.set i (some v)) H s'->Q () s') (b:X.fn x=true\/X.env.scope.names.lookup x=some .local:=by first | exact .inl FQ | exact .inr FQ | assumption):wpAny M A (storeName X.env x u) Q E s:=
 Fs I a hi hx r (λs' c _=>h s' c) b
def Zq.call' {s':WR}{ch:List WP}(I:Zq X WZ σ H s)(D:s'.os=s.os)(u:Un (Yx X.stack) ch H H' s.heap s'.heap)(hok:Ux X.prog X.w H' s'.heap)(G:AllBare s'.gens)
  (y:∀b∈ch,(b∈X.ex\/X.s₀.heap.objs.size<=b)/\b≠X.env.locals/\(∀x c,X.env.cells.lookup x=some c->c≠b)/\∀p∈X.pn++WZ,p.1≠b):Zq X WZ σ H' s':=by
 obtain⟨h',g',d',t',o'⟩:=s';have e:o'=s.os:=D;subst e;exact I.call (g':=g') (t':=t') (d':=d') u hok G y
end
abbrev XK:=WQ->Option WP->Hp->Prop
abbrev St:=List (Option V)
abbrev VK:=V->Hp->Prop
abbrev TE:=St->Hp->VK->Prop
abbrev TT:=St->Hp->(Bool->Hp->Prop)->Prop
abbrev TA:=St->Hp->(List V->Hp->Prop)->Prop
structure Nn where
 nx:St->Hp->Prop
 rt:VK
 bk:St->Hp->Prop:=λ_ _=>False
 ct:St->Hp->Prop:=λ_ _=>False
abbrev TS:=Nn->St->Hp->Prop
def EP (X:Cx)(WZ:List (WP×Obj))(σ:St)(Q:VK)(u:WQ)(s':WR):Prop:=∃v H',Zq X WZ σ H' s'/\Z9 v u/\Q v H'
def TP (X:Cx)(WZ:List (WP×Obj))(σ:St)(Q:Bool->Hp->Prop)(b:Bool)(s':WR):Prop:=∃H',Zq X WZ σ H' s'/\Q b H'
def AP (X:Cx)(WZ:List (WP×Obj))(σ:St)(Q:List V->Hp->Prop)(us:List WQ)(s':WR):Prop:=∃vs H',Zq X WZ σ H' s'/\Z5 vs us/\Q vs H'
set_option tactic.hygienic true in
def SP (X:Cx)(WZ:List (WP×Obj))(D:Nn)(f:Flow)(s':WR):Prop:=
 match f with
 | .next=>∃y_ H',Zq X WZ y_ H' s'/\D.nx y_ H'
 | .brk=>∃y_ H',Zq X WZ y_ H' s'/\D.bk y_ H'
 | .cont=>∃y_ H',Zq X WZ y_ H' s'/\D.ct y_ H'
 | .ret u=>∃v y_ H',Zq X WZ y_ H' s'/\Z9 v u/\D.rt v H'
def PE (X:Cx)(e:WW)(t:TE):Prop:=
 ∀(WZ:List (WP×Obj)) (s:WR) (σ:St) (H:Hp) (Q:VK),Zq X WZ σ H s->t σ H Q->wpAny (model X.prog X.w) X.A (eval e X.env) (EP X WZ σ Q) X.xe s
def PT (X:Cx)(e:WW)(t:TT):Prop:=
 ∀(WZ:List (WP×Obj)) (s:WR) (σ:St) (H:Hp) (Q:Bool->Hp->Prop),Zq X WZ σ H s->t σ H Q->wpAny (model X.prog X.w) X.A (isTrue e X.env (eval e X.env)) (TP X WZ σ Q) X.xe s
def PW (X:Cx)(e:WW)(t:TT):Prop:=
 ∀(a:Sem WQ) (WZ:List (WP×Obj)) (s:WR) (σ:St) (H:Hp) (Q:Bool->Hp->Prop),Zq X WZ σ H s->t σ H Q->wpAny (model X.prog X.w) X.A (isTrue e X.env a) (TP X WZ σ Q) X.xe s
def PW.pt {X:Cx}{e:WW}{t:TT}(h:PW X e t):PT X e t:=h _
def PA (X:Cx)(es:List WW)(t:TA):Prop:=
 ∀(pos:Pos) (WZ:List (WP×Obj)) (s:WR) (σ:St) (H:Hp) (Q:List V->Hp->Prop),Zq X WZ σ H s->t σ H Q->wpAny (model X.prog X.w) X.A (spliced (backTo pos (starEach es X.env))) (AP X WZ σ Q) X.xe s
def PS (X:Cx)(st:WV)(t:TS):Prop:=
 ∀(WZ:List (WP×Obj)) (s:WR) (σ:St) (H:Hp) (D:Nn),Zq X WZ σ H s->t D σ H->wpAny (model X.prog X.w) X.A (exec st X.env) (SP X WZ D) X.xe s
def Bz (X:Cx)(st:List WV)(t:TS):Prop:=
 ∀(WZ:List (WP×Obj)) (s:WR) (σ:St) (H:Hp) (D:Nn),Zq X WZ σ H s->t D σ H->wpAny (model X.prog X.w) X.A (execs st X.env) (SP X WZ D) X.xe s
def Y3 {α:Type}{t:Sem α}{Q Q':α->WR->Prop}{M:Model}{A:WM}{E:WQ->WR->Prop}{s:WR}(h:wpAny M A t Q E s)(b:∀a s,Q a s->Q' a s):wpAny M A t Q' E s:=wpAny_mono h b λ_ _ x=>x
section
variable {X:Cx}
def iK (i:Nat):TE:=λσ H Q=>∃v,σ[i]?=some (some v)/\Q v H
def tC (v:V):TE:=λ_ H Q=>Q v H
def mz {i:Nat}{x:Str}{pos:Pos}(d:X.N[i]?=some x)(hv:eR X.env.scope x)(hd:(x==("__debug__":Str))=false:=by decide)(b:(x==("__classdict__":Str))=false:=by decide):PE X (.Name x pos) (iK i):=by
 intro WZ s σ H Q I h;obtain⟨v,e,h⟩:=h;obtain⟨m,hn,f⟩:=I.loc;obtain⟨u,r,l⟩:=f i x v d e hv;have fin:EP X WZ σ Q u s:=⟨v,H,I,r,h⟩
 rcases l with⟨hk,hm⟩ | ⟨hk,c,hc,a⟩
 ·exact wpAny_Name (wpAny_loadName_local I.ok.kind hk hn hm fin) hd
 ·rcases hk with hk | hk
  ·exact wpAny_Name (wpAny_loadName_cell I.ok.kind hk hc a fin) hd
  ·exact wpAny_Name (wpAny_loadName_free I.ok.kind hk hc a fin b) hd
def mC {i j pos}:PE X (.Constant (.int i) j pos) (tC (.int i)):=λ_ _ _ H _ I h=>wpAny_Constant_int ⟨.int i,H,I.tok _,⟨_,FQ⟩,h⟩
def gG {b j pos}:PE X (.Constant (.bool b) j pos) (tC (.bl b)):=λ_ _ _ H _ I h=>Constant_bool ⟨.bl b,H,I,FQ,h⟩
def m9 {j pos}:PE X (.Constant .none j pos) (tC .non):=λ_ _ _ H _ I h=>Constant_none ⟨.non,H,I,FQ,h⟩
def m6 {x j pos}:PE X (.Constant (.str x) j pos) (tC (.str x)):=λ_ _ _ H _ I h=>Calls.Constant_str ⟨.str x,H,I.tok _,⟨_,FQ⟩,h⟩
def Gl (X:Cx)(x:Str):Prop:=X.env.kindOf x=some .globalImplicit
def T8 {E:WQ->WR->Prop}{WZ:List (WP×Obj)}{s:WR}{σ:St}{H:Hp}{x:Str}{u:WQ}{pos:Pos}{Q:WQ->WR->Prop}(I:Zq X WZ σ H s)(a:Gl X x)(hm:X.mg x=some u)(h:Q u s)
  (hd:(x==("__debug__":Str))=false:=by decide):wpAny (model X.prog X.w) X.A (eval (.Name x pos) X.env) Q E s:=
 Calls.Name_function_global I.ok.kind a (Calls.loadGlobal_global (by rw[I.ok.glob];exact I.mod.glob.keeps I.bk) hm h) hd
def Tj {E:WQ->WR->Prop}{WZ:List (WP×Obj)}{s:WR}{σ:St}{H:Hp}{x:Str}{u:WQ}{pos:Pos}{Q:WQ->WR->Prop}(I:Zq X WZ σ H s)(a:Gl X x)(hm:X.mg x=none)(hv:bootBuiltins x=some u)(h:Q u s)
  (hn:x≠"__name__":=by decide) (hd:(x==("__debug__":Str))=false:=by decide):wpAny (model X.prog X.w) X.A (eval (.Name x pos) X.env) Q E s:=by
 obtain⟨mb,h1,h2⟩:=I.mod.blt;exact Calls.Name_function_global I.ok.kind a (Calls.loadGlobal_builtin (by rw[I.ok.glob];exact I.mod.glob.keeps I.bk) hm (by rw[I.ok.blt];exact h1.keeps I.bk) ((h2 x hn).trans hv) h) hd
def qk {x:Str}{v:V}{u:WQ}{pos:Pos}(a:Gl X x)(hm:X.mg x=some u)(r:Z9 v u)(hd:(x==("__debug__":Str))=false:=by decide):PE X (.Name x pos) (tC v):=
 λ_ _ _ H _ I h=>T8 I a hm ⟨v,H,I,r,h⟩ hd
def qt {x:Str}{v:V}{u:WQ}{pos:Pos}(a:Gl X x)(hm:X.mg x=none)(hv:bootBuiltins x=some u)(r:Z9 v u)(hn:x≠"__name__":=by decide)(hd:(x==("__debug__":Str))=false:=by decide):PE X (.Name x pos) (tC v):=
 λ_ _ _ H _ I h=>Tj I a hm hv ⟨v,H,I,r,h⟩ hn hd
def a6 (ta tb:TE)(k:Int->Int->Hp->Prop):St->Hp->Prop:=λσ H=>ta σ H λx H1=>tb σ H1 λy H2=>∃i j,x=.int i/\y=.int j/\k i j H2
def aj (ta tb:TE):TE:=λσ H Q=>a6 ta tb (λi j H2=>(-(2^64)<i/\i<2^64)/\Q (.int (i*j)) H2) σ H
variable {a b:WW}{ta tb:TE}{pos:Pos}
def ap (ta:TE):TE:=λσ H Q=>ta σ H λx H1=>Q (.bl (decide (x=.non))) H1
def tB (t:TE):TT:=λσ H Q=>t σ H λx H1=>∃c,x=.bl c/\Q c H1
variable {tA r_:TT}{Yc:List WW}
def h8 (t u:TT):TT:=λσ H Q=>t σ H λc H1=>if c=true then u σ H1 Q else Q false H1
def dn (t u:TT):TT:=λσ H Q=>t σ H λc H1=>if c=true then Q true H1 else u σ H1 Q
def rS (ha:PT X a tA):PW X (.BoolOp .And [a] pos) tA:=by
 intro wh WZ s σ H Q I h;refine isTrue_and (Y3 (ha WZ s σ H Q I h) λc s1 e=>?_)
 cases c with
 | true=>exact isTrue_and_nil e
 | false=>exact e
def nZ (ha:PT X a tA):PW X (.BoolOp .Or [a] pos) tA:=by
 intro wh WZ s σ H Q I h;refine isTrue_or (Y3 (ha WZ s σ H Q I h) λc s1 e=>?_)
 cases c with
 | false=>exact isTrue_or_nil e
 | true=>exact e
def ma (ha:PT X a tA)(hb:PW X (.BoolOp .And (b::Yc) pos) r_):PW X (.BoolOp .And (a::b::Yc) pos) (h8 tA r_):=by
 intro wh WZ s σ H Q I h;refine isTrue_and (Y3 (ha WZ s σ H _ I h) λc s1 ⟨H1,d,e⟩=>?_)
 cases c with
 | true=>exact hb wh WZ s1 σ H1 Q d e
 | false=>exact⟨H1,d,e⟩
def g7 (ha:PT X a tA)(hb:PW X (.BoolOp .Or (b::Yc) pos) r_):PW X (.BoolOp .Or (a::b::Yc) pos) (dn tA r_):=by
 intro wh WZ s σ H Q I h;refine isTrue_or (Y3 (ha WZ s σ H _ I h) λc s1 ⟨H1,d,e⟩=>?_)
 cases c with
 | true=>exact⟨H1,d,e⟩
 | false=>exact hb wh WZ s1 σ H1 Q d e
def vn (ta tb:TE):TE:=λσ H Q=>ta σ H λx H1=>∃c,x=.bl c/\if c=true then tb σ H1 Q else Q (.bl false) H1
def o9 (ta:TE):TE:=λσ H Q=>ta σ H λx H1=>∃c,x=.bl c/\Q (.bl (!c)) H1
def m7 {op}{t:TE}(h:PE X a t):PE X (.BoolOp op [a] pos) t:=λWZ s σ H Q I hw=>BoolOp_one (h WZ s σ H Q I hw)
def mF (ha:PE X a ta)(hb:PE X (.BoolOp .And (b::Yc) pos) tb):PE X (.BoolOp .And (a::b::Yc) pos) (vn ta tb):=by
 intro WZ s σ H Q I h;refine BoolOp_and (Y3 (ha WZ s σ H _ I h) λv s1 ⟨x,H1,e,f,d⟩=>?_);obtain⟨c,rfl,d⟩:=d
 cases f
 refine wpAny_truthy_bool ?_
 cases c with
 | true=>exact hb WZ s1 σ H1 Q e d
 | false=>exact⟨.bl false,H1,e,FQ,d⟩
def m8 (ha:PE X a ta):PE X (.UnaryOp .Not a pos) (o9 ta):=by
 intro WZ s σ H Q I h;refine UnaryOp_ (Y3 (ha WZ s σ H _ I h) λv s1 ⟨x,H1,d,e,b⟩=>?_);obtain⟨c,rfl,b⟩:=b
 cases e
 exact not_of (wpAny_truthy_bool ⟨.bl (!c),H1,d,FQ,b⟩)
def b8 (t:TT)(ta tb:TE):TE:=λσ H Q=>t σ H λc H1=>if c=true then ta σ H1 Q else tb σ H1 Q
def uf {c:WW}(hc:PT X c tA)(ha:PE X a ta)(hb:PE X b tb):PE X (.IfExp c a b pos) (b8 tA ta tb):=by
 intro WZ s σ H Q I h;refine wpAny_IfExp (Y3 (hc WZ s σ H _ I h) λd s1 ⟨H1,e,f⟩=>?_)
 cases d with
 | true=>exact ha WZ s1 σ H1 Q e f
 | false=>exact hb WZ s1 σ H1 Q e f
end
def Vr (K:WY)(H:Hp)(a:WP)(xs:List V):Prop:=
 Rd H a (.lst xs)\/
  ∃(o:Obj) (its:Array WQ) (n:Nat),K.lookup a=some o/\o.cls=.type "list"/\o.dict=none/\o.data=.seq its n/\its.size<=sizeLine/\Z5 xs its.toList
def Tw (K:WY)(H:Hp)(a:WP)(xs:List V):Prop:=
 Rd H a (.tup xs)\/
  ∃(o:Obj) (its:Array WQ) (n:Nat),K.lookup a=some o/\o.cls=.type "tuple"/\o.data=.seq its n/\its.size<=sizeLine/\Z5 xs its.toList
def cO:WQ->Option V
 | .none=>some .non
 | .bool b=>some (.bl b)
 | .int i _=>some (.int i)
 | .str x _=>some (.str x)
 | .bytes b _=>some (.byt b)
 | .float b _=>some (.flt b)
 | .ref a=>some (.ref a)
 | .type n=>some (.ty n)
 | _=>none
def Z9.abs {x:V}{u:WQ}(r:Z9 x u):cO u=some x:=by
 cases x with
 | non=>cases r;rfl
 | bl _=>cases r;rfl
 | int _=>obtain⟨t,rfl⟩:=r;rfl
 | str _=>obtain⟨t,rfl⟩:=r;rfl
 | byt _=>obtain⟨t,rfl⟩:=r;rfl
 | flt _=>obtain⟨t,rfl⟩:=r;rfl
 | ref _=>cases r;rfl
 | ty _=>cases r;rfl
def Z9.inj {x y:V}{u:WQ}(r:Z9 x u)(q:Z9 y u):x=y:=YH (r.abs.symm.trans q.abs)
def Z5.inj:∀{xs ys:List V} {us:List WQ},Z5 xs us->Z5 ys us->xs=ys
 | _,_,_,.nil,.nil=>rfl
 | _,_,_,.cons r t,.cons r' t'=>by rw[r.inj r',Z5.inj t t']
section
variable {X:Cx}{WZ:List (WP×Obj)}{σ:St}{H:Hp}{s:WR}{a:WP}{xs ys:List V}
def Vr.of {K:WY}(h:H a=some (.lst xs)):Vr K H a xs:=.inl (.inl h)
def Tw.of {K:WY}(h:H a=some (.tup xs)):Tw K H a xs:=.inl (.inl h)
def Zq.list (I:Zq X WZ σ H s)(h:Vr X.K H a xs):∃its:List WQ,Z5 xs its/\PlainL s.heap a its.toArray/\xs.length<=sizeLine:=by
 rcases h with h | ⟨o,its,n,hk,hc,hd,hs,hz,r⟩
 ·obtain⟨z,its,n,r,e⟩:=h.ok I.hok;exact⟨its,r,⟨_,n,e,FQ,FQ,FQ⟩,z⟩
 ·refine⟨its.toList,r,⟨o,n,I.kIn a o hk,hc,hd,by simpa using hs⟩,?_⟩;have e:=r.length;simp only[Array.length_toList] at e;omega
def Zq.tuple (I:Zq X WZ σ H s)(h:Tw X.K H a xs):∃its:List WQ,Z5 xs its/\IsTup s.heap a its.toArray/\xs.length<=sizeLine:=by
 rcases h with h | ⟨o,its,n,hk,hc,hs,hz,r⟩
 ·obtain⟨z,its,r,p⟩:=h.ok I.hok;exact⟨its,r,p,z⟩
 ·refine⟨its.toList,r,⟨o,I.kIn a o hk,hc,n,by simpa using hs⟩,?_⟩;have e:=r.length;simp only[Array.length_toList] at e;omega
def Zq.list_inj (I:Zq X WZ σ H s)(h:Vr X.K H a xs)(h':Vr X.K H a ys):xs=ys:=by
 obtain⟨its,r,⟨o,n,e,_,_,d⟩,_⟩:=I.list h;obtain⟨its',r',⟨o',c,e',_,_,d'⟩,_⟩:=I.list h';rw[e] at e';cases e';rw[d] at d';injection d' with b _
 have:its=its':=by simpa using congrArg Array.toList b
 subst this;exact r.inj r'
def Zq.tuple_inj (I:Zq X WZ σ H s)(h:Tw X.K H a xs)(h':Tw X.K H a ys):xs=ys:=by
 obtain⟨its,r,⟨o,e,_,n,d⟩,_⟩:=I.tuple h;obtain⟨its',r',⟨o',e',_,c,d'⟩,_⟩:=I.tuple h';rw[e] at e';cases e';rw[d] at d';injection d' with b _
 have:its=its':=by simpa using congrArg Array.toList b
 subst this;exact r.inj r'
end
abbrev Cx.wish (X:Cx)(E:WQ->WR->Prop):Cx:={X with xe:=E}
abbrev Cx.nox (X:Cx):Cx:=X.wish λ_ _=>False
def Cx.Ok.wish {X:Cx}(ok:X.Ok)(E:WQ->WR->Prop):(X.wish E).Ok:=
 ⟨ok.mod,ok.kind,ok.glob,ok.blt,ok.above,ok.inj,ok.has,ok.cab,ok.hd,ok.frames,ok.stk,ok.exf,ok.bs,ok.bsz,ok.noex,ok.exfs,ok.funs,ok.frf⟩
def Cx.Ok.unwish {X:Cx}{E:WQ->WR->Prop}(ok:(X.wish E).Ok):X.Ok:=
 ⟨ok.mod,ok.kind,ok.glob,ok.blt,ok.above,ok.inj,ok.has,ok.cab,ok.hd,ok.frames,ok.stk,ok.exf,ok.bs,ok.bsz,ok.noex,ok.exfs,ok.funs,ok.frf⟩
section
variable {X:Cx}{WZ:List (WP×Obj)}{σ:St}{H:Hp}{s:WR}{E:WQ->WR->Prop}
def Zq.wish (I:Zq X WZ σ H s)(E:WQ->WR->Prop):Zq (X.wish E) WZ σ H s:=⟨I.ok.wish E,I.os,I.bare,I.base,I.loc,I.cell,I.free,I.freeC,I.pin,I.hok,I.len⟩
def Zq.unwish (I:Zq (X.wish E) WZ σ H s):Zq X WZ σ H s:=⟨I.ok.unwish,I.os,I.bare,I.base,I.loc,I.cell,I.free,I.freeC,I.pin,I.hok,I.len⟩
set_option tactic.hygienic true in
def SP.unwish {D:Nn}{f:Flow}{s':WR}(h:SP (X.wish E) WZ D f s'):SP X WZ D f s':=by
 cases f with
 | next=>obtain⟨y_,H',I,q⟩:=h;exact⟨y_,H',I.unwish,q⟩
 | brk=>obtain⟨y_,H',I,q⟩:=h;exact⟨y_,H',I.unwish,q⟩
 | cont=>obtain⟨y_,H',I,q⟩:=h;exact⟨y_,H',I.unwish,q⟩
 | ret u=>obtain⟨v,y_,H',I,r,q⟩:=h;exact⟨v,y_,H',I.unwish,r,q⟩
def Bz.nox {st:List WV}{t:TS}(h:Bz X.nox st t):Bz X st t:=λWZ s σ H D I hw=>
 wpAny_mono (h WZ s σ H D (I.wish _) hw) (λ_ _ q=>q.unwish) λ_ _ z=>False.elim z
end
section
variable {X:Cx}{st:WV}{Yc:List WV}{t u:TS}{e:WW}{te:TE}{pos:Pos}
def iP:TS:=λD σ H=>D.nx σ H
def nI (t u:TS):TS:=λD σ H=>t {D with nx:=u D} σ H
def rY:Bz X [] iP:=λ_ _ σ H _ I h=>wpAny_execs_nil ⟨σ,H,I,h⟩
set_option tactic.hygienic true in
def vQ (h1:PS X st t)(h2:Bz X Yc u):Bz X (st::Yc) (nI t u):=by
 intro WZ s σ H D I h;refine wpAny_execs_cons (Y3 (h1 WZ s σ H {D with nx:=u D} I h) λf s1 q=>?_)
 cases f with
 | next=>
  obtain⟨y_,H',a,q⟩:=q;exact h2 WZ s1 y_ H' D a q
 | ret v=>exact q
 | brk=>exact q
 | cont=>exact q
set_option tactic.hygienic true in
def rX (h1:PS X st t):Bz X [st] t:=by
 intro WZ s σ H D I h;refine wpAny_execs_cons (Y3 (h1 WZ s σ H D I h) λf s1 q=>?_)
 cases f with
 | next=>exact wpAny_execs_nil q
 | ret v=>exact q
 | brk=>exact q
 | cont=>exact q
def iZ:TS:=λD σ H=>D.ct σ H
def Ap:PS X (.Continue pos) iZ:=λ_ _ σ H _ I h=>wpAny_Continue ⟨σ,H,I,h⟩
def Zq.quiet {WZ:List (WP×Obj)}{σ:St}{H:Hp}{s:WR}(I:Zq X WZ σ H s):interactive X.env=false:=by simp[interactive,I.ok.kind]
def iV (te:TE):TS:=λD σ H=>te σ H λ_ H1=>D.nx σ H1
def rZ (a:PE X e te)(hs:swapsWith e none pos.line X.env=pure false:=by rfl):PS X (.Expr e pos) (iV te):=by
 intro WZ s σ H D I h;exact wpAny_Expr_any (Y3 (a WZ s σ H _ I h) λv s1 ⟨x,H1,b,d,c⟩=>⟨σ,H1,b,c⟩) I.quiet hs
def iM (te:TE):TS:=λD σ H=>te σ H D.rt
def mi (a:PE X e te):PS X (.Return (some e) pos) (iM te):=by
 intro WZ s σ H D I h;exact wpAny_Return_some (Y3 (a WZ s σ H _ I h) λv s1 ⟨x,H1,b,c,d⟩=>⟨x,σ,H1,b,c,d⟩)
def nL (c:TT)(t u:TS):TS:=λD σ H=>c σ H λb H1=>if b=true then t D σ H1 else u D σ H1
def g8 {c:WW}{a b:List WV}{tc:TT}(hc:PT X c tc)(ha:Bz X a t)(hb:Bz X b u):PS X (.If c a b pos) (nL tc t u):=by
 intro WZ s σ H D I h;refine wpAny_If (Y3 (hc WZ s σ H _ I h) λd s1 ⟨H1,e,f⟩=>?_)
 cases d with
 | true=>exact ha WZ s1 σ H1 D e f
 | false=>exact hb WZ s1 σ H1 D e f
def dq:TS:=λ_ _ _=>False
end
abbrev TG:=V->St->Hp->(St->Hp->Prop)->Prop
abbrev z7:=List V->St->Hp->(St->Hp->Prop)->Prop
def PG (X:Cx)(a:WW)(t:TG):Prop:=
 ∀(WZ:List (WP×Obj)) (s:WR) (σ:St) (H:Hp) (v:V) (u:WQ) (Q:St->Hp->Prop),Zq X WZ σ H s->Z9 v u->t v σ H Q->
  wpAny (model X.prog X.w) X.A (assign a X.env u) (λ_ s'=>∃y_ H',Zq X WZ y_ H' s'/\Q y_ H') X.xe s
def fW (X:Cx)(ts:List WW)(t:z7):Prop:=
 ∀(WZ:List (WP×Obj)) (s:WR) (σ:St) (H:Hp) (vs:List V) (us:List WQ) (Q:St->Hp->Prop),Zq X WZ σ H s->Z5 vs us->t vs σ H Q->
  wpAny (model X.prog X.w) X.A (assignInOrder ((assignEach ts X.env).map (·.2)) us) (λ_ s'=>∃y_ H',Zq X WZ y_ H' s'/\Q y_ H') X.xe s
abbrev pX:=V->V->V->Hp->(Hp->Prop)->Prop
def kR (X:Cx)(t:pX):Prop:=
 ∀(WZ:List (WP×Obj)) (s:WR) (σ:St) (H:Hp) (o i v:V) (ov a u:WQ) (Q:Hp->Prop),Zq X WZ σ H s->Z9 o ov->Z9 i a->Z9 v u->t o i v H Q->
  wpAny (model X.prog X.w) X.A (setItem ov a u) (λ_ s'=>∃H',Zq X WZ σ H' s'/\Q H') X.xe s
abbrev cS:=V->V->Hp->VK->Prop
section
variable {X:Cx}{pos:Pos}
def Wd (i:Nat):TG:=λv σ H Q=>Q (σ.set i (some v)) H
def Jz {i:Nat}{x:Str}(a:X.N.Nodup)(hi:X.N[i]?=some x)(hx:nh X.env.scope x)(b:X.fn x=true\/X.env.scope.names.lookup x=some .local:=by first | exact .inl FQ | exact .inr FQ | assumption):PG X (.Name x pos) (Wd i):=by
 intro WZ s σ H v u Q I r h;exact wpAny_assign_Name (Ny I a hi hx r (λs' c=>⟨_,H,c,h⟩) b)
def yr:z7:=λvs σ H Q=>vs=[]/\Q σ H
def Pf (t:TG)(u:z7):z7:=λvs σ H Q=>∃v r,vs=v::r/\t v σ H λy_ H'=>u r y_ H' Q
def Ku:fW X [] yr:=by
 intro WZ s σ H vs us Q I r h;obtain⟨e,h⟩:=h;subst e
 cases r
 exact assignInOrder_nil ⟨σ,H,I,h⟩
def Ua {e:WW}{es:List WW}{t:TG}{u:z7}(h1:PG X e t)(h2:fW X es u)
  (hs:(assignEach (e::es) X.env).map (·.2)=assign e X.env::(assignEach es X.env).map (·.2):=by rfl):fW X (e::es) (Pf t u):=by
 intro WZ s σ H vs us Q I r h;obtain⟨v,g,b,h⟩:=h;subst b
 cases r with
 | cons r c=>
  rw[hs];refine assignInOrder_cons (Y3 (h1 WZ s σ H _ _ _ I r h) λ_ s1 ⟨a,H1,d,f⟩=>?_);exact h2 WZ s1 a H1 _ _ Q d c f
def yq (K:WY)(n:Nat)(t:z7):TG:=λv σ H Q=>∃a xs,v=.ref a/\Tw K H a xs/\xs.length=n/\t xs σ H Q
def Dt {es:List WW}{k:Nat}{t:z7}{n:Nat}(hc:X.calm=true)(h:fW X es t)
  (hn:(assignEach es X.env).length=n:=by rfl) (c:(assignEach es X.env).findIdx? (·.1)=none:=by rfl):PG X (.Tuple es k pos) (yq X.K n t):=by
 intro WZ s σ H v u Q I r hw;obtain⟨a,xs,f,hq,g,hw⟩:=hw;subst f
 cases r
 obtain⟨its,d,i,hz⟩:=I.tuple hq;refine assign_Tuple_tuple (I.ok.hd hc) i (by simp[hn,<-g,d.length]) c λh' hx=>?_;have j:Zq X WZ σ H {s with heap:=h'}:=I.kept (t':=s.toks) λb o e=>hx b o (XH (XD e)) e;exact h WZ _ σ H xs _ Q j (by simpa using d) hw
def cm (to a:TE)(t:pX):TG:=λv σ H Q=>to σ H λo H1=>a σ H1 λi H2=>t o i v H2 λb=>Q σ b
def vZ {o i:WW}{to b:TE}{t:pX}(c:PE X o to)(hi:PE X i b)(hs:kR X t)
  (ha:∀v,assign (.Subscript o i pos) X.env v=(do
   let ov <-holding [v] (eval o X.env)
   let a <-holding [v,ov] (eval i X.env)
   standAt pos
   holding [v,ov,a] (setItem ov a v)
   release [v,ov,a] []):=by intro _;rfl):PG X (.Subscript o i pos) (cm to b t):=by
 intro WZ s σ H v u Q I r h;rw[ha];refine XA (wpAny_holding (Y3 (c WZ s σ H _ I h) λov s1 ⟨x,H1,d,e,f⟩=>?_));refine XA (wpAny_holding (Y3 (hi WZ s1 σ H1 _ d f) λa s2 ⟨y,H2,g,j,l⟩=>?_));refine XA (wpAny_standAt (XA (wpAny_holding (Y3 (hs WZ s2 σ H2 x y v ov a u _ g e j r l) λ_ q ⟨m,n,p⟩=>?_))));exact wpAny_release ⟨σ,m,n,p⟩
def nN (te:TE)(g:TG):TS:=λD σ H=>te σ H λx H1=>g x σ H1 D.nx
def mn {tg e:WW}{te:TE}{g:TG}(a:PE X e te)(b:PG X tg g)(hs:swapsWithSole [tg] e pos.line X.env=pure false:=by rfl)(hw:swappedStores [tg] e X.env=pure none:=by rfl)
  (h1:(assignEach [tg] X.env).map (·.2)=[assign tg X.env]:=by rfl):PS X (.Assign [tg] e pos) (nN te g):=by
 intro WZ s σ H D I h;refine wpAny_Assign_stores (Y3 (a WZ s σ H _ I h) λv s1 ⟨x,H1,c,d,f⟩=>?_) hs hw;rw[h1];exact Y3 (b WZ s1 σ H1 x v _ c d f) λ_ s2 q=>q
def mh {i:Nat}{x:Str}{e:WW}{te:TE}{n_:Pos}(a:X.N.Nodup)(hi:X.N[i]?=some x)(hx:nh X.env.scope x)(b:PE X e te)(hs:swapsWith e (some (.Name x n_)) pos.line X.env=pure false:=by rfl)(c:X.fn x=true\/X.env.scope.names.lookup x=some .local:=by first | exact .inl FQ | exact .inr FQ | assumption):
  PS X (.Assign [.Name x n_] e pos) (nN te (Wd i)):=by
 intro WZ s σ H D I h;refine wpAny_Assign_Name (Y3 (b WZ s σ H _ I h) λv s1 ⟨y,H1,d,f,g⟩=>?_) hs;exact Ny d a hi hx f (λs2 j=>⟨_,H1,j,g⟩) c
def ah (i j:Nat)(ta:TA):TS:=λD σ H=>ta σ H λvs H1=>∃v w,vs=[v,w]/\D.nx ((σ.set i (some v)).set j (some w)) H1
def az (i:Nat)(te:TE)(a:cS):TS:=λD σ H=>∃x,σ[i]?=some (some x)/\te σ H λy H1=>a x y H1 λz H2=>D.nx (σ.set i (some z)) H2
def b9 (to d te:TE)(a:V->V->Hp->VK->Prop)(c:cS)(b:pX):TS:=λD σ H=>to σ H λo H1=>d σ H1 λi H2=>a o i H2 λx e=>te σ e λy f=>c x y f λz g=>b o i z g λh=>D.nx σ h
def Zaj (X:Cx)(t:V->V->Hp->VK->Prop):Prop:=
 ∀(WZ:List (WP×Obj)) (s:WR) (σ:St) (H:Hp) (o i:V) (ov a:WQ) (Q:VK),Zq X WZ σ H s->Z9 o ov->Z9 i a->t o i H Q->
  wpAny (model X.prog X.w) X.A (getItem ov a) (EP X WZ σ Q) X.xe s
def Zaz (f:Int->Int->Int):cS:=λx y H Q=>∃i j,x=.int i/\y=.int j/\Q (.int (f i j)) H
def vg (c:TT)(tb:TS):TS:=λD σ H=>∃W:Nat->St->Hp->Prop,(∃m,W m σ H)/\∀m σ H,W m σ H->
 c σ H λb H1=>if b=true then ∃N:St->Hp->Prop,(∀y_ H',N y_ H'->∃a,a<m/\W a y_ H')/\tb {D with nx:=N,ct:=N,bk:=D.nx} σ H1 else D.nx σ H1
set_option tactic.hygienic true in
def vT {c:WW}{body:List WV}{tc:TT}{tb:TS}(q:PassesOwn (model X.prog X.w) X.A X.env X.xe)(hc:PT X c tc)(hb:Bz X body tb):PS X (.While c body [] pos) (vg tc tb):=by
 intro WZ s σ H D I h;obtain⟨W,⟨u,x⟩,e⟩:=h;refine wpAny_While (codeAny_whileLoop (λn s'=>∃y_ H',Zq X WZ y_ H' s'/\W n y_ H') ?_ u ⟨σ,H,I,x⟩);rintro n s1 ⟨d,H1,y,z⟩;refine wpAny_passesOwn q (Y3 (hc WZ s1 d H1 _ y (e n d H1 z)) λb s2 ⟨H2,r,i⟩=>?_)
 cases b with
 | true=>
  obtain⟨N,t,i⟩:=i;rw[XY rfl];refine wpAny_passesOwn q (Y3 (hb WZ s2 d H2 _ r i) λf B j=>?_)
  cases f with
  | next=>
   obtain⟨a,g,l,m⟩:=j;obtain⟨o,hm,p⟩:=t a g m;exact⟨o,hm,a,g,l,p⟩
  | cont=>
   obtain⟨a,g,l,m⟩:=j;obtain⟨o,hm,p⟩:=t a g m;exact⟨o,hm,a,g,l,p⟩
  | brk=>exact j
  | ret v=>exact j
 | false=>
  rw[XX YJ];exact wpAny_execs_nil ⟨d,H2,r,i⟩
end
structure It where
 go:Nat->Hp->Prop
 yld:Nat->Hp->V->Hp->Prop
 stop:Nat->Hp->Prop
def Mz (X:Cx)(WZ:List (WP×Obj))(H:Hp)(b:WP):Prop:=
 H b=none/\b≠X.env.locals/\b∉X.fs/\(b∈X.ex\/X.s₀.heap.objs.size<=b)/\(∀x c,X.env.cells.lookup x=some c->c≠b)/\∀p∈X.pn++WZ,p.1≠b
def Zq.fpOk {X:Cx}{WZ:List (WP×Obj)}{σ:St}{H H':Hp}{s:WR}{b:WP}(I:Zq X WZ σ H s)(hb:s.heap.objs.size<=b)(hn:H' b=none):Mz X WZ H' b:=by
 refine⟨hn,CU (XG I.lt hb),I.nofs hb,.inr (XN I.sz hb),λx c e z=>?_,λp a z=>?_⟩
 ·obtain⟨v,q⟩:=I.cell x c e;exact absurd (XG q.lt (by rw[z];exact hb)) (BH _)
 ·exact absurd (XG (XD (I.pin p a).1) (by rw[z];exact hb)) (BH _)
structure yI (P:Program)(w:World)(K:W.Frag)(tg:Expr)(J:It)(fp:List Addr)(it:Addr)(tn:Nat->Heap->Prop):Prop where
 mem:it∈fp
 obj:∀i h,tn i h->∀b∈fp,∃o,h.get? b=some o/\∀v,o.data≠.cell v
 keep:∀i h h',tn i h->(∀b∈fp,∀o,h.get? b=some o->h'.get? b=some o)->tn i h'
 item:∀(X:Cx),X.prog=P->X.w=w->X.K=K->X.calm=true->∀(i:Nat) (WZ:List (WP×Obj)) (s:WR) (σ:St) (H:Hp) (E:WQ->WR->Prop),Zq X WZ σ H s->(∀b∈fp,Mz X WZ H b)->tn i s.heap->J.go i H->
  wpAny (model P w) X.A (pyNext (.ref it)) (λr s1=>∃u,r=some u/\
   wpAny (model P w) X.A (letOwnedTupleGo tg (.ref it) u) (λ_ s2=>∃x H',Zq X WZ σ H' s2/\Z9 x u/\J.yld i H x H'/\tn (i+1) s2.heap/\∀b∈fp,H' b=none) E s1) E s
 done:∀(X:Cx),X.prog=P->X.w=w->X.K=K->X.calm=true->∀(i:Nat) (WZ:List (WP×Obj)) (s:WR) (σ:St) (H:Hp) (E:WQ->WR->Prop),Zq X WZ σ H s->(∀b∈fp,Mz X WZ H b)->tn i s.heap->J.stop i H->
  wpAny (model P w) X.A (pyNext (.ref it)) (λr s1=>r=none/\Zq X WZ σ H s1) E s
 self:∀(A:WM) (i:Nat) (s:WR) (Q:WQ->WR->Prop) (E:WQ->WR->Prop),tn i s.heap->Q (.ref it) s->wpAny (model P w) A (pyIter (.ref it)) Q E s
abbrev TI:=St->Hp->(It->Hp->Prop)->Prop
def eV (X:Cx)(WZ:List (WP×Obj))(σ:St)(tg:WW)(R:It->Hp->Prop)(a:WQ)(s2:WR):Prop:=
 ∃(it:WP) (fp:List WP) (tn:Nat->WU->Prop) (J:It) (H':Hp),a=.ref it/\Zq X WZ σ H' s2/\yI X.prog X.w X.K tg J fp it tn/\tn 0 s2.heap/\(∀b∈fp,Mz X WZ H' b)/\R J H'
def PI (X:Cx)(tg iter:WW)(wi:TI):Prop:=
 ∀(WZ:List (WP×Obj)) (s:WR) (σ:St) (H:Hp) (R:It->Hp->Prop),Zq X WZ σ H s->wi σ H R->
  wpAny (model X.prog X.w) X.A (eval iter X.env) (λv s1=>wpAny (model X.prog X.w) X.A (pyIter v) (eV X WZ σ tg R) X.xe s1) X.xe s
def j5 {M:Model}{A:WM}{E:WQ->WR->Prop}{s:WR}{tg:WW}{it:WP}{u:WQ}{o:Obj}{n:String}{vs:Array WQ}{Q:Unit->WR->Prop}(b:s.heap.get? it=some o)(hc:o.cls=.type n)(hd:o.data=.fields vs)
  (hn:["enumerate","zip","dict_itemiterator","dict_reverseitemiterator","odict_iterator","itertools.zip_longest","itertools.pairwise"].contains n=false) (a:Q () s):wpAny M A (letOwnedTupleGo tg (.ref it) u) Q E s:=by
 unfold letOwnedTupleGo
 cases tg<;>first
  | exact XB a
  | (cases u<;>first
    | exact XB a
    | (refine XA (wpAny_load b ?_)
       rw[hc,hd];show wpAny M A (if (["enumerate","zip","dict_itemiterator","dict_reverseitemiterator","odict_iterator","itertools.zip_longest","itertools.pairwise"].contains n&&vs[0]?==some (rawInt _))=true then _ else _) Q E s;rw[XX (by intro h;rw[hn,Bool.false_and] at h;cases h)];exact XB a))
def db (K:WY)(a:WP):It:=
 ⟨λi H=>∃xs x,Vr K H a xs/\xs[i]?=some x,λi H x H'=>H'=H/\∀xs,Vr K H a xs->xs[i]?=some x,λi H=>∃xs,Vr K H a xs/\xs.length<=i⟩
def bi (K:WY)(a:WP):It:=
 ⟨λi H=>∃xs x,Tw K H a xs/\xs[i]?=some x,λi H x H'=>H'=H/\∀xs,Tw K H a xs->xs[i]?=some x,λi H=>∃xs,Tw K H a xs/\xs.length<=i⟩
def eZ (lo:Int)(n:Nat):It:=⟨λi _=>i<n,λi H x H'=>H'=H/\x=.int (lo+i),λi _=>n<=i⟩
def xg {P:WO}{w:WN}{K:WY}{tg:WW}(a it:WP):yI P w K tg (db K a) [it] it (λi h=>h.IsListIter it a i) where
 mem:=by simp
 obj:=λi h st b hb=>by
  have e:b=it:=by simpa using hb
  subst e;obtain⟨o,e,c,d⟩:=st;exact⟨o,e,λv z=>by rw[d] at z;cases z⟩
 keep:=λi h h' st k=>st.at λo e=>k it (by simp) o e
 item:=by
  intro X j hw l hc i WZ s σ H E I g st m;subst j hw l;obtain⟨xs,x,hq,hx⟩:=m;obtain⟨its,n,p,hz⟩:=I.list hq;obtain⟨u,y,A⟩:=n.get hx;obtain⟨f0,f1,f2,q,r,t⟩:=g it (by simp);refine wpAny_pyNext_list_item st p.isList (x:=u) (by simpa using y) λh' f sb=>?_;have B:Zq X WZ σ H {s with heap:=h'}:=I.turned (t':=s.toks) (λb o hb e=>(sb.2 b hb).trans e) f0 f1 q r t;obtain⟨o,e,c,d⟩:=id f;exact⟨u,FQ,j5 (s:={s with heap:=h'}) e c d (by decide) ⟨x,H,B,A,⟨FQ,λys hy=>by rw[I.list_inj hy hq];exact hx⟩,f,λb hb=>(g b hb).1⟩⟩
 done:=by
  intro X j hw l hc i WZ s σ H E I g st m;subst j hw l;obtain⟨xs,hq,hx⟩:=m;obtain⟨its,n,p,hz⟩:=I.list hq;obtain⟨f0,f1,f2,q,r,t⟩:=g it (by simp);have D:=n.length;exact wpAny_pyNext_list_end (I.ok.hd hc) st p.isList (by simp;omega) λh' C=>⟨FQ,I.turned (t':=s.toks) (λb o hb e=>C b o hb e) f0 f1 q r t⟩
 self:=λ_ _ _ _ _ st h=>wpAny_pyIter_listiter st h
def zG {P:WO}{w:WN}{K:WY}{tg:WW}(a it:WP):yI P w K tg (bi K a) [it] it (λi h=>h.IsTupleIter it a i) where
 mem:=by simp
 obj:=λi h st b hb=>by
  have e:b=it:=by simpa using hb
  subst e;obtain⟨o,e,c,d⟩:=st;exact⟨o,e,λv z=>by rw[d] at z;cases z⟩
 keep:=λi h h' st k=>st.at λo e=>k it (by simp) o e
 item:=by
  intro X j hw l hc i WZ s σ H E I g st m;subst j hw l;obtain⟨xs,x,hq,hx⟩:=m;obtain⟨its,n,p,hz⟩:=I.tuple hq;obtain⟨u,y,A⟩:=n.get hx;obtain⟨f0,f1,f2,q,r,t⟩:=g it (by simp);refine wpAny_pyNext_tuple_item st (show s.heap.IsTuple a its.toArray from p) (x:=u) (by simpa using y) λh' f sb=>?_;have B:Zq X WZ σ H {s with heap:=h'}:=I.turned (t':=s.toks) (λb o hb e=>(sb.2 b hb).trans e) f0 f1 q r t;obtain⟨o,e,c,d⟩:=id f;exact⟨u,FQ,j5 (s:={s with heap:=h'}) e c d (by decide) ⟨x,H,B,A,⟨FQ,λys hy=>by rw[I.tuple_inj hy hq];exact hx⟩,f,λb hb=>(g b hb).1⟩⟩
 done:=by
  intro X j hw l hc i WZ s σ H E I g st m;subst j hw l;obtain⟨xs,hq,hx⟩:=m;obtain⟨its,n,p,hz⟩:=I.tuple hq;obtain⟨f0,f1,f2,q,r,t⟩:=g it (by simp);have D:=n.length;exact wpAny_pyNext_tuple_end (I.ok.hd hc) st (show s.heap.IsTuple a its.toArray from p) (by simp;omega) λh' C=>⟨FQ,I.turned (t':=s.toks) (λb o hb e=>C b o hb e) f0 f1 q r t⟩
 self:=λ_ _ _ _ _ st h=>wpAny_pyIter_tupleiter st h
def zH {P:WO}{w:WN}{K:WY}{tg:WW}(it:WP)(lo:Int)(n:Nat):yI P w K tg (eZ lo n) [it] it (λi h=>IsRangeIter h it (lo+(i:Nat)*1) ((n:Int)-(i:Nat)) 1) where
 mem:=by simp
 obj:=λi h st b hb=>by
  have e:b=it:=by simpa using hb
  subst e;exact⟨_,st,λv z=>by
   have p:Data.fields _=Data.cell v:=z
   cases p⟩
 keep:=λi h h' st k=>k it (by simp) _ st
 item:=by
  intro X d hw f hc i WZ s σ H E I c st g;subst d hw f;obtain⟨f0,f1,f2,j,l,m⟩:=c it (by simp);have W:=Walks.range (prog:=X.prog) (w:=X.w) (I.ok.hd hc) it lo 1 n;refine W.item i s _ _ g st λv h' tk hv a kk=>?_;obtain⟨t,rfl⟩:=hv;have q:Zq X WZ σ H {s with heap:=h',toks:=tk}:=I.turned (λb o hb e=>kk b o (by simpa using hb) e) f0 f1 j l m;refine⟨_,FQ,j5 (s:={s with heap:=h',toks:=tk}) (n:="range_iterator") a FQ FQ (by decide) ⟨.int (lo+i),H,q,⟨t,?_⟩,⟨FQ,FQ⟩,a,λb hb=>(c b hb).1⟩⟩;rw[Int.mul_one]
 done:=by
  intro X d hw f hc i WZ s σ H E I c st g;subst d hw f;obtain⟨f0,f1,f2,j,l,m⟩:=c it (by simp);exact wpAny_pyNext_range_end (I.ok.hd hc) st (by have:n<=i:=g;omega) λh' r=>⟨FQ,I.turned (t':=s.toks) (λb o hb e=>r b o hb e) f0 f1 j l m⟩
 self:=λ_ _ _ _ _ st h=>wpAny_pyIter_rangeiter st h
section
variable {X:Cx}{tg:WW}
def vN {WZ:List (WP×Obj)}{σ:St}{H:Hp}{s:WR}{R:It->Hp->Prop}{E:WQ->WR->Prop}{lo hi:Int}{t u v:Tok}{tk:Nat}(I:Zq X WZ σ H s)(h1: -(2^62)<=lo)(h2:lo<2^62)(c: -(2^62)<=hi)(d:hi<2^62)
  (q:R (eZ lo (hi-lo).toNat) H):wpAny (model X.prog X.w) X.A (pyIter (.ref s.heap.objs.size)) (eV X WZ σ tg R) E {s with heap:=s.heap.push {cls:=.type "range",data:=.fields #[.int lo t,.int hi u,.int 1 v]},toks:=tk}:=by
 refine wpAny_pyIter_range (IsRange.new ..) (small_one h1 h2 c d) ?_;have a:Zq X WZ σ H {s with heap:=s.heap.push {cls:=.type "range",data:=.fields #[.int lo t,.int hi u,.int 1 v]},toks:=tk}:=I.kept λb o e=>XC _ e;refine⟨(s.heap.push {cls:=.type "range",data:=.fields #[.int lo t,.int hi u,.int 1 v]}).objs.size,[(s.heap.push {cls:=.type "range",data:=.fields #[.int lo t,.int hi u,.int 1 v]}).objs.size],_,_,H,FQ,
  a.kept (t':=tk) λb o e=>XC _ e,zH _ lo (hi-lo).toNat,?_,λb hb=>?_,q⟩
 ·have f:lo+((0:Nat):Int)*1=lo:=by simp
  have g:(((hi-lo).toNat:Nat):Int)-((0:Nat):Int)=Builtin.Range.rangeSize lo hi 1:=by rw[rangeSize_one];split<;>omega
  show IsRangeIter _ _ (lo+((0:Nat):Int)*1) ((((hi-lo).toNat:Nat):Int)-((0:Nat):Int)) 1;rw[f,g];exact XF _ FQ
 ·have e:b=(s.heap.push {cls:=.type "range",data:=.fields #[.int lo t,.int hi u,.int 1 v]}).objs.size:=by simpa using hb
  subst e;exact a.fpOk (XE _) (a.hok.fresh (XE _))
def fq (ta:TA):TI:=λσ H R=>ta σ H λvs H1=>∃j:Int,vs=[.int j]/\ -(2^62)<=j/\j<2^62/\R (eZ 0 j.toNat) H1
def xz {a:WW}{ta:TA}{p pos:Pos}(c:Gl X "range")(hm:X.mg "range"=none)(ha:PA X [a] ta)(hs:starEach [a] X.env=[(false,eval a X.env)]:=by rfl):PI X tg (.Call (.Name "range" p) [a] [] pos) (fq ta):=by
 intro WZ s σ H R I h;refine Call_ (Tj I c hm boot_range (BF (Y3 (ha pos WZ s σ H _ I h) λus s1 ⟨vs,H1,d,f,b⟩=>?_) hs FQ));obtain⟨j,e,b,g,q⟩:=b;subst e
 cases f with
 | cons r i=>
  cases i
  obtain⟨t,rfl⟩:=r;exact call_range_1 (vN d (by omega) (by omega) b g (by simpa using q))
def iU (wi:TI)(g:TG)(tb:TS):TS:=λD σ H=>wi σ H λJ H1=>∃W:Nat->Nat->St->Hp->Prop,(∃m,W 0 m σ H1)/\∀i m σ H,W i m σ H->
 (J.stop i H/\D.nx σ H)\/(J.go i H/\∃N:St->Hp->Prop,(∀y_ H',N y_ H'->∃b,b<m/\W (i+1) b y_ H')/\∀x H',J.yld i H x H'->g x σ H' λa H2=>tb {D with nx:=N,ct:=N,bk:=D.nx} a H2)
def Iz (fp:List WP)(h:WU):List (WP×Obj):=fp.filterMap λb=>(h.get? b).map λo=>(b,o)
def Qa {fp:List WP}{h:WU}{b:WP}{o:Obj}(hb:b∈fp)(e:h.get? b=some o):(b,o)∈Iz fp h:=DI.mpr ⟨b,hb,by rw[e];rfl⟩
def xG {fp:List WP}{h:WU}{p:WP×Obj}(a:p∈Iz fp h):p.1∈fp/\h.get? p.1=some p.2:=by
 obtain⟨b,hb,e⟩:=DI.mp a
 cases q:h.get? b with
 | none=>rw[q] at e;cases e
 | some o=>
  rw[q] at e;have e':(b,o)=p:=YH e;subst e';exact⟨hb,q⟩
def Zq.pinned {WZ:List (WP×Obj)}{σ:St}{H:Hp}{s:WR}{fp:List WP}(I:Zq X WZ σ H s)(y:∀b∈fp,Mz X WZ H b)(D:∀b∈fp,∃o,s.heap.get? b=some o/\∀v,o.data≠.cell v):Zq X (WZ++Iz fp s.heap) σ H s:=
 I.pins_of λp a=>(XS.mp a).elim (λz=>I.pin p (XT _ z)) λz=>by
  obtain⟨hb,e⟩:=xG z;obtain⟨f0,f1,f2,_⟩:=y p.1 hb;obtain⟨o,e',d⟩:=D p.1 hb;rw[e] at e';cases e';exact⟨e,f0,f1,f2,d⟩
def Zq.unpinned {WZ pl:List (WP×Obj)}{σ:St}{H:Hp}{s:WR}(I:Zq X (WZ++pl) σ H s):Zq X WZ σ H s:=I.pins_of λp a=>I.pin p (XT _ (BK _ a))
set_option tactic.hygienic true in
def mj {iter:WW}{body:List WV}{wi:TI}{g:TG}{tb:TS}{pos:Pos}(y:PassesOwn (model X.prog X.w) X.A X.env X.xe)(hc:X.calm=true)(hi:PI X tg iter wi)(hg:PG X tg g)(hb:Bz X body tb)
  (hs:∀x,foldedSetIterable iter X.env x=pure x:=by intro _;rfl):PS X (.For tg iter body [] pos) (iU wi g tb):=by
 intro WZ s σ H D I h;refine wpAny_For (Y3 (hi WZ s σ H _ I h) λv s1 h1=>Y3 h1 λB_ s2 h2=>?_) hs;obtain⟨it,fp,tn,J,H2,e,I2,T,L,f2,W,⟨m0,w0⟩,z⟩:=h2;subst e;have c:∀{H':Hp},(∀b∈fp,H' b=none)->∀b∈fp,Mz X WZ H' b:=λhn b hb=>⟨hn b hb,(f2 b hb).2⟩;refine codeAny_forLoop_any (λn s'=>∃i y_ H',Zq X WZ y_ H' s'/\tn i s'.heap/\(∀b∈fp,H' b=none)/\W i n y_ H') ?_ m0 ⟨0,σ,H2,I2,L,λb hb=>(f2 b hb).1,w0⟩;rintro n s3 ⟨i,j,G,I3,B,C,w3⟩
 rcases z i n j G w3 with⟨stop,qn⟩ | ⟨go,N,hN,step⟩
 ·refine wpAny_passesOwn y (Y3 (T.done X FQ FQ FQ hc i WZ s3 j G X.xe I3 (c C) B stop) λr s4 ⟨Q,I4⟩=>?_);subst Q;exact wpAny_execs_nil ⟨j,G,I4,qn⟩
 ·refine wpAny_passesOwn y (Y3 (T.item X FQ FQ FQ hc i WZ s3 j G X.xe I3 (c C) B go) λr s4 ⟨u,Q,h4⟩=>?_);subst Q;refine wpAny_passesOwn y (Y3 h4 λ_ s5 ⟨x,H5,I5,r5,y5,t,U⟩=>?_);have Y:=I5.pinned (c U) (T.obj _ _ t);refine wpAny_passesOwn y (Y3 (hg _ s5 j H5 x u _ Y r5 (step x H5 y5)) λ_ s6 ⟨A_,H6,I6,q6⟩=>?_);refine wpAny_passesOwn y (Y3 (hb _ s6 A_ H6 _ I6 q6) λf s7 q=>?_);have again:∀{a:St} {l:Hp},Zq X (WZ++Iz fp s5.heap) a l s7->N a l->∃m,m<n/\∃i y_ H',Zq X WZ y_ H' s7/\tn i s7.heap/\(∀b∈fp,H' b=none)/\W i m y_ H':=λ{a l} p E=>by
   obtain⟨m',hm,w7⟩:=hN a l E;refine⟨m',hm,i+1,a,l,p.unpinned,T.keep _ _ _ t λb hb o e=>(p.pin (b,o) (XT _ (XT _ (Qa hb e)))).1,λb hb=>?_,w7⟩;obtain⟨o,e,d⟩:=T.obj _ _ t b hb;exact(p.pin (b,o) (XT _ (XT _ (Qa hb e)))).2.1
  cases f with
  | next=>obtain⟨a,l,p,E⟩:=q;exact again p E
  | cont=>obtain⟨a,l,p,E⟩:=q;exact again p E
  | brk=>obtain⟨a,l,p,q⟩:=q;exact⟨a,l,p.unpinned,q⟩
  | ret v=>obtain⟨x7,a,l,p,r7,q⟩:=q;exact⟨x7,a,l,p.unpinned,r7,q⟩
end
abbrev R2:=V->V->Hp->VK->Prop
def M4 (X:Cx)(f:WQ->WQ->Sem WQ)(r:R2):Prop:=
 ∀(WZ:List (WP×Obj)) (s:WR) (σ:St) (H:Hp) (x y:V) (v u:WQ) (Q:VK),Zq X WZ σ H s->Z9 x v->Z9 y u->r x y H Q->
  wpAny (model X.prog X.w) X.A (f v u) (EP X WZ σ Q) X.xe s
def Za4 (X:Cx)(f:WQ->Sem WQ)(r:V->Hp->VK->Prop):Prop:=
 ∀(WZ:List (WP×Obj)) (s:WR) (σ:St) (H:Hp) (x:V) (v:WQ) (Q:VK),Zq X WZ σ H s->Z9 x v->r x H Q->
  wpAny (model X.prog X.w) X.A (f v) (EP X WZ σ Q) X.xe s
def Vo (X:Cx)(f:WQ)(r:List V->Hp->VK->Prop):Prop:=
 ∀(WZ:List (WP×Obj)) (s:WR) (σ:St) (H:Hp) (xs:List V) (us:List WQ) (Q:VK),Zq X WZ σ H s->Z5 xs us->r xs H Q->
  wpAny (model X.prog X.w) X.A (call f us) (EP X WZ σ Q) X.xe s
def cR (X:Cx)(r:V->Hp->(Bool->Hp->Prop)->Prop):Prop:=
 ∀(WZ:List (WP×Obj)) (s:WR) (σ:St) (H:Hp) (x:V) (v:WQ) (Q:Bool->Hp->Prop),Zq X WZ σ H s->Z9 x v->r x H Q->
  wpAny (model X.prog X.w) X.A (truthy v) (TP X WZ σ Q) X.xe s
def nK (r:R2)(ta tb:TE):TE:=λσ H Q=>ta σ H λx H1=>tb σ H1 λy H2=>r x y H2 Q
def rI (C:Int->Int->Prop)(g:Int->Int->V):R2:=λx y H Q=>∃i j,x=.int i/\y=.int j/\C i j/\Q (g i j) H
def kZ (g:Int->Int->V):R2:=λx y H Q=>∃i j,x=.int i/\y=.int j/\Q (g i j) H
section
variable {X:Cx}{a b c:WW}{ta tb tc:TE}{pos:Pos}
def k4 (ha:PE X a ta)(hb:PE X b tb){WZ:List (WP×Obj)}{s:WR}{σ:St}{H:Hp}{R:V->V->Hp->Prop}(I:Zq X WZ σ H s)
  (h:ta σ H λx H1=>tb σ H1 λy H2=>R x y H2) {Q:WQ->WR->Prop} {f:WQ->WQ->Sem WQ}
  (e:∀v u s2 x y H2,Zq X WZ σ H2 s2->Z9 x v->Z9 y u->R x y H2->wpAny (model X.prog X.w) X.A (f v u) Q X.xe s2):
  wpAny (model X.prog X.w) X.A (eval a X.env) (λv c=>wpAny (model X.prog X.w) X.A (eval b X.env) (λu d=>wpAny (model X.prog X.w) X.A (f v u) Q X.xe d) X.xe c) X.xe s:=by
 refine Y3 (ha WZ s σ H _ I h) λv s1 ⟨x,H1,g,i,j⟩=>?_;refine Y3 (hb WZ s1 σ H1 _ g j) λu s2 ⟨y,H2,l,m,n⟩=>?_;exact e v u s2 x y H2 l i m n
def gC {op:Operator}{r:R2}(c:M4 X (binaryOp op) r)(ha:PE X a ta)(hb:PE X b tb):PE X (.BinOp a op b pos) (nK r ta tb):=by
 intro WZ s σ H Q I h;exact wpAny_BinOp (k4 ha hb I h λv u s2 x y H2 d e f q=>c WZ s2 σ H2 x y v u Q d e f q)
def eL {f:WQ->WQ->Sem WQ}{C:Int->Int->Prop}{g:Int->Int->Int}
  (rule:∀(i j:Int) (t u:Tok) (s:WR) (Q:WQ->WR->Prop) (E:WQ->WR->Prop),C i j->Q (.int (g i j) s.toks) {s with toks:=s.toks+1}->wpAny (model X.prog X.w) X.A (f (.int i t) (.int j u)) Q E s):
  M4 X f (rI C λi j=>.int (g i j)):=by
 intro WZ s σ H x y v u Q I a b h;obtain⟨i,j,rfl,rfl,hc,q⟩:=h;obtain⟨t,rfl⟩:=a;obtain⟨t',rfl⟩:=b;exact rule i j t t' s _ _ hc ⟨.int (g i j),H,I.tok _,⟨_,FQ⟩,q⟩
def gK {f:WQ->WQ->Sem WQ}{g:Int->Int->Int}
  (rule:∀(i j:Int) (t u:Tok) (s:WR) (Q:WQ->WR->Prop) (E:WQ->WR->Prop),Q (.int (g i j) s.toks) {s with toks:=s.toks+1}->wpAny (model X.prog X.w) X.A (f (.int i t) (.int j u)) Q E s):
  M4 X f (kZ λi j=>.int (g i j)):=by
 intro WZ s σ H x y v u Q I a b h;obtain⟨i,j,rfl,rfl,q⟩:=h;obtain⟨t,rfl⟩:=a;obtain⟨t',rfl⟩:=b;exact rule i j t t' s _ _ ⟨.int (g i j),H,I.tok _,⟨_,FQ⟩,q⟩
def gL {f:WQ->WQ->Sem WQ}{g:Int->Int->Bool}
  (rule:∀(i j:Int) (t u:Tok) (s:WR) (Q:WQ->WR->Prop) (E:WQ->WR->Prop),Q (.bool (g i j)) s->wpAny (model X.prog X.w) X.A (f (.int i t) (.int j u)) Q E s):
  M4 X f (kZ λi j=>.bl (g i j)):=by
 intro WZ s σ H x y v u Q I a b h;obtain⟨i,j,rfl,rfl,q⟩:=h;obtain⟨t,rfl⟩:=a;obtain⟨t',rfl⟩:=b;exact rule i j t t' s _ _ ⟨.bl (g i j),H,I,FQ,q⟩
def eA (i j:Int):Prop:=0<j/\j<1073741824
def e9 (i j:Int):Prop:=0<=j/\j<=1000000/\i.natAbs<2^64
def ox (i j:Int):Prop:=(-(2^64)<i/\i<2^64)\/(-(2^64)<j/\j<2^64)
def ox.ok {i j:Int}(h:ox i j):IntMulOk i j:=by
 rcases h with⟨h1,h2⟩ | ⟨h1,h2⟩
 ·exact .of_left (intBits_le_64 h1 h2)
 ·exact .of_right (intBits_le_64 h1 h2)
def mQ:M4 X (binaryOp .Add) (kZ λi j=>.int (i+j)):=gK λ_ _ _ _ _ _ _ q=>add_int q
def mJ:M4 X (binaryOp .Sub) (kZ λi j=>.int (i-j)):=gK λ_ _ _ _ _ _ _ q=>sub_int q
def mL:M4 X (binaryOp .Mult) (rI ox λi j=>.int (i*j)):=eL λ_ _ _ _ _ _ _ hc q=>mul_int q hc.ok
def qw:M4 X (binaryOp .FloorDiv) (rI eA λi j=>.int (i/j)):=eL λi j _ _ _ _ _ hc q=>by
 have h1:(0:Int)<j:=hc.1;have h2:j<1073741824:=hc.2;exact floordiv_int (by omega) (by rw[Int.fdiv_eq_ediv_of_nonneg i (by omega)];exact q) (.inl (PyProof.noPylong_small (by omega)))
def mM:M4 X (binaryOp .Mod) (rI (λ_ j=>0<j) λi j=>.int (i%j)):=eL λi j _ _ _ _ _ hc q=>by
 have h1:(0:Int)<j:=hc;exact mod_int' (by omega) (by rw[Int.fmod_eq_emod_of_nonneg i (by omega)];exact q)
def mK:M4 X (binaryOp .Pow) (rI e9 λi j=>.int (i^j.toNat)):=eL λ_ _ _ _ _ _ _ hc q=>pow_int_small hc.1 hc.2.1 hc.2.2 q
end
def a8:V->V->Bool
 | .non,.non=>true | .non,.int _=>true | .int _,.non=>true | .non,.bl _=>true | .bl _,.non=>true | .non,.str _=>true | .str _,.non=>true
 | .int _,.int _=>true | .bl _,.bl _=>true | .str _,.str _=>true | .byt _,.byt _=>true
 | .int _,.str _=>true | .str _,.int _=>true | .bl _,.str _=>true | .str _,.bl _=>true
 | _,_=>false
section
variable {X:Cx}{a b c:WW}{ta tb tc:TE}{pos:Pos}
def tf {WZ:List (WP×Obj)}{σ:St}{H:Hp}{s:WR}{Q:VK}{k k':Bool}(I:Zq X WZ σ H s)(q:Q (.bl k) H)(e:k=k'):EP X WZ σ Q (.bool k') s:=by
 subst e;exact⟨.bl k,H,I,FQ,q⟩
def gI:M4 X (compareOp .Lt) (kZ λi j=>.bl (decide (i<j))):=gL λ_ _ _ _ _ _ _ q=>lt_int q
def gJ:M4 X (compareOp .Gt) (kZ λi j=>.bl (decide (j<i))):=gL λ_ _ _ _ _ _ _ q=>gt_int q
def xD:M4 X (compareOp .Lt) (λx y H Q=>∃i j,x=.str i/\y=.str j/\Q (.bl (decide (i.cps.toList<j.cps.toList))) H):=by
 intro WZ s σ H x y v u Q I a b h;obtain⟨i,j,rfl,rfl,q⟩:=h;obtain⟨t,rfl⟩:=a;obtain⟨t',rfl⟩:=b;exact lt_str (tf I q FQ)
def mO:M4 X (compareOp .Is) (λx y H Q=>y=.non/\Q (.bl (decide (x=.non))) H):=by
 intro WZ s σ H x y v u Q I a b h;obtain⟨rfl,q⟩:=h
 cases b
 refine is_none_gen (tf I q ?_)
 cases x<;>first
  | (cases a;rfl)
  | (obtain⟨t,rfl⟩:=a;rfl)
def bL:HO->Bool
 | .lst _=>true
 | .ins _ _ _=>true
 | _=>false
def M4.or {f:WQ->WQ->Sem WQ}{r r':R2}(h:M4 X f r)(h':M4 X f r'):M4 X f (λx y H Q=>r x y H Q\/r' x y H Q):=by
 intro WZ s σ H x y v u Q I a b q
 rcases q with q | q
 ·exact h WZ s σ H x y v u Q I a b q
 ·exact h' WZ s σ H x y v u Q I a b q
def Lb (b:WW){op:CmpOp}(h:op≠.In:=by decide)(h2:op≠.NotIn:=by decide):behindInMarks op b=false:=by
 have a:(op==CmpOp.In)=false:=by cases op<;>first | rfl | exact absurd FQ h
 have c:(op==CmpOp.NotIn)=false:=by cases op<;>first | rfl | exact absurd FQ h2
 cases b<;>simp[behindInMarks,a,c]
def qr {op:CmpOp}{r:R2}(c:M4 X (compareOp op) r)(ha:PE X a ta)(hb:PE X b tb)(hm:behindInMarks op b=false):PE X (.Compare a [op] [b] pos) (nK r ta tb):=by
 intro WZ s σ H Q I h;exact wpAny_Compare1 (k4 ha hb I h λv u s2 x y H2 d e f q=>c WZ s2 σ H2 x y v u Q d e f q) hm
def vh (t:TE):TT:=λσ H Q=>t σ H λx H'=>∃k,x=.bl k/\Q k H'
def rV {op:CmpOp}{r:R2}(d:M4 X (compareOp op) r)(ha:PE X a ta)(hb:PE X b tb)(hm:behindInMarks op b=false):PT X (.Compare a [op] [b] pos) (vh (nK r ta tb)):=by
 intro WZ s σ H Q I h;refine wpAny_isTrue_Compare1 (Y3 (ha WZ s σ H _ I h) λv s1 ⟨x,H1,f,g,i⟩=>Y3 (hb WZ s1 σ H1 _ f i) λu s2 ⟨y,H2,j,l,m⟩=>
  Y3 (d WZ s2 σ H2 x y v u _ j g l m) λc t ⟨z,n,o,p,k,e,q⟩=>?_) hm
 subst e
 cases p
 exact wpAny_truthy_bool ⟨n,o,q⟩
def dv (r r':R2)(ta tb tc:TE):TE:=λσ H Q=>ta σ H λx H1=>tb σ H1 λy H2=>r x y H2 λz a=>∃k,z=.bl k/\
 (if k=true then tc σ a λw' b=>r' y w' b Q else Q (.bl false) a)
def kK (K:WY)(x:V)(H:Hp)(k:Bool):Prop:=
 match x with
 | .non=>k=false
 | .bl b=>k=b
 | .int i=>k=(i !=0)
 | .str y=>y.length<=sizeLine/\k=((y.length:Int) !=0)
 | .byt y=>y.size<=sizeLine/\k=((y.size:Int) !=0)
 | .ref p=>(∃xs,Vr K H p xs/\k=!xs.isEmpty)\/(∃xs,Tw K H p xs/\k=!xs.isEmpty)\/∃kvs,H p=some (.dK kvs)/\k=!kvs.isEmpty
 | _=>False
def yj {κ:Type}{kvs:List (κ×V)}{vs:List (κ×WQ)}(r:KV kvs vs):(!vs.isEmpty)=!kvs.isEmpty:=by
 cases r<;>rfl
def Ho {xs:List V}{its:List WQ}(r:Z5 xs its):(!its.toArray.isEmpty)=!xs.isEmpty:=by
 cases r<;>simp
def Na:(sizeLine:Nat)<2^63:=by rw[sizeLine_eq];decide
def nF:cR X (λx H Q=>∃k,kK X.K x H k/\Q k H):=by
 intro WZ s σ H x v Q I c h;obtain⟨k,e,q⟩:=h;have f:=Na;have hs:sizeLine=16777216:=sizeLine_eq
 cases x with
 | non=>
  cases c
  have e':k=false:=e;subst e';exact truthy_none ⟨H,I,q⟩
 | bl b=>
  cases c
  have e':k=b:=e;subst e';exact wpAny_truthy_bool ⟨H,I,q⟩
 | int i=>
  obtain⟨t,rfl⟩:=c;have e':k=(i !=0):=e;subst e';exact PySem.P.truthy_int ⟨H,I,q⟩
 | str y=>
  obtain⟨t,rfl⟩:=c;obtain⟨hy,e'⟩:y.length<=sizeLine/\k=((y.length:Int) !=0):=e;subst e';exact PySem.P.truthy_str (by omega) ⟨H,I.tok _,q⟩
 | byt y=>
  obtain⟨t,rfl⟩:=c;obtain⟨hy,e'⟩:y.size<=sizeLine/\k=((y.size:Int) !=0):=e;subst e';exact W.truthy_bytes (by omega) ⟨H,I.tok _,q⟩
 | ref p=>
  cases c
  have e':(∃xs,Vr X.K H p xs/\k=!xs.isEmpty)\/(∃xs,Tw X.K H p xs/\k=!xs.isEmpty)\/∃kvs,H p=some (.dK kvs)/\k=!kvs.isEmpty:=e
  rcases e' with⟨xs,hx,e'⟩ | ⟨xs,hx,e'⟩ | ⟨kvs,hx,e'⟩
  ·subst e';obtain⟨its,r,pl,hz⟩:=I.list hx;have a:=r.length;exact wpAny_truthy_list pl.isList (by simp only[List.size_toArray];omega) ⟨H,I.tok _,by rw[Ho r];exact q⟩
  ·subst e';obtain⟨its,r,pl,hz⟩:=I.tuple hx;have a:=r.length;exact truthy_tuple pl (by simp only[List.size_toArray];omega) ⟨H,I.tok _,by rw[Ho r];exact q⟩
  ·subst e';obtain⟨hz,d,vs,r,m⟩:kvs.length<=sizeLine/\(p==sysModules)=false/\∃vs,KV kvs vs/\s.heap.DictOf (Yv X.prog X.w) p vs:=I.hok p _ hx;have a:kvs.length=vs.length:=Paired.length r;exact wpAny_truthy_dict d m (by omega) ⟨H,I.tok _,by rw[yj r];exact q⟩
 | _=>exact(show False from e).elim
def vO (ha:PE X a ta)(c:∀b,isTrue a X.env b=(do let v <-b;standAt a.pos;holding [v] (truthy v))):
  PT X a (λσ H Q=>ta σ H λx H'=>∃k,kK X.K x H' k/\Q k H'):=by
 intro WZ s σ H Q I h;exact isTrue_plain (Y3 (ha WZ s σ H _ I h) λv s1 ⟨x,H1,d,e,f⟩=>nF WZ s1 σ H1 x v Q d e f) (c _)
def ya:M4 X (binaryOp .Add) (λx y H Q=>∃i j,x=.str i/\y=.str j/\i.length+j.length<=sizeLine/\Q (.str (i++j)) H):=by
 intro WZ s σ H x y v u Q I a b h;obtain⟨i,j,rfl,rfl,hz,q⟩:=h;obtain⟨t,rfl⟩:=a;obtain⟨t',rfl⟩:=b;exact add_str (λt' tk=>⟨.str (i++j),H,I.tok _,⟨_,FQ⟩,q⟩) hz
def Rj {x:V}{us:List WQ}(r:Z5 [x] us):∃u,us=[u]/\Z9 x u:=by
 cases r with
 | cons a b=>cases b;exact⟨_,FQ,a⟩
def iE {x y:V}{us:List WQ}(r:Z5 [x,y] us):∃u w',us=[u,w']/\Z9 x u/\Z9 y w':=by
 cases r with
 | cons a b=>
  cases b with
  | cons c d=>cases d;exact⟨_,_,FQ,a,c⟩
def wf (hc:X.calm=true):Vo X (.builtin "max") (λxs H Q=>∃i j,xs=[.int i,.int j]/\Q (.int (if j>i then j else i)) H):=by
 intro WZ s σ H xs us Q I r h;obtain⟨i,j,rfl,q⟩:=h;obtain⟨u,w',rfl,⟨t,rfl⟩,⟨t',rfl⟩⟩:=iE r;refine max_two_ints (I.ok.hd hc) λh' tk k=>⟨_,H,I.kept k,?_,q⟩;by_cases hj:j>i
 ·rw[XY hj,XY hj];exact⟨_,FQ⟩
 ·rw[XX hj,XX hj];exact⟨_,FQ⟩
def wj:Vo X (.type "int") (λxs H Q=>(∃i,xs=[.int i]/\Q (.int i) H)\/∃k,xs=[.bl k]/\Q (.int (if k then 1 else 0)) H):=by
 intro WZ s σ H xs us Q I r h
 rcases h with⟨i,rfl,q⟩ | ⟨k,rfl,q⟩
 ·obtain⟨u,rfl,t,rfl⟩:=Rj r;exact call_int_int ⟨.int i,H,I,⟨_,FQ⟩,q⟩
 ·obtain⟨u,rfl,a⟩:=Rj r
  cases a
  exact call_int_bool ⟨.int (if k then 1 else 0),H,I.tok _,⟨_,FQ⟩,q⟩
def Be:Vo X (.type "str") (λxs H Q=>∃i,xs=[.int i]/\i.natAbs.log2<1920/\Q (.str (toString i)) H):=by
 intro WZ s σ H xs us Q I r h;obtain⟨i,rfl,hz,q⟩:=h;obtain⟨u,rfl,t,rfl⟩:=Rj r;exact PySem.P.str_of_int hz ⟨.str _,H,I.tok _,⟨_,FQ⟩,q⟩
def Zan (K:WY)(x:V)(H:Hp)(n:Nat):Prop:=
 match x with
 | .str y=>y.length<=sizeLine/\n=y.length
 | .byt y=>y.size<=sizeLine/\n=y.size
 | .ref p=>(∃xs,Vr K H p xs/\n=xs.length)\/∃xs,Tw K H p xs/\n=xs.length
 | _=>False
end
structure yK (h:Heap)(x dx C:Addr)(mA:Str->Option Value):Prop where
 obj:h.get? x=some (W.instObj C dx)
 ns:h.Ns1 dx mA
 ne:dx≠x
set_option tactic.hygienic true in
def xK {h:WU}{dx:WP}{mA:Str->Option WQ}(n:h.Ns1 dx mA):∃od,h.get? dx=some od/\∀name,W.lookIn name od=some (mA name):=by
 obtain⟨o,es,ep,c,hd,hk,_,hm⟩:=n;refine⟨o,c,λname=>?_⟩;have e:=hm name;unfold nsFind findBy at e;rw[<-Array.find?_toList] at e;unfold W.lookIn;rw[hd];dsimp only
 split
 ·rename_i y q;rw[q] at e;exact congrArg some e
 ·rename_i q;rw[q] at e;have a:es.toList.any (·.refKey)=false:=by
   rw[List.any_eq_false];intro y hy;obtain⟨z,t,b⟩:=hk y (Array.mem_toList_iff.mp hy);simp[DictEntry.refKey,b]
  have d:¬es.toList.any (·.refKey)=true:=by rw[a];exact YJ
  rw[XX d];exact congrArg some e
def yK.look {h:WU}{x dx C:WP}{mA:Str->Option WQ}(I:yK h x dx C mA):∃od,W.InstAt h x (W.instObj C dx) C (some od)/\∀name,W.lookIn name od=some (mA name):=
 let ⟨od,a,b⟩:=xK I.ns
 ⟨od,⟨I.obj,FQ,FQ,a⟩,b⟩
section
variable {prog:WO}{w:WN}{A:WM}{E:WQ->WR->Prop}{s:WR}{K:WY}{x dx C f:WP}{mA:Str->Option WQ}{name:Str}{v:WQ}
def qT {a:Bool}{Q:WQ->WR->Prop}(X:K.In s.heap)(I:yK s.heap x dx C mA)(c:W.plainGet K C name=true)(d:W.hasDictIn K C=true)
  (ha:W.findIn K (.ref C) name=some none) (hv:mA name=some v) (b:W.handedIn v=true) (h:Q v {s with toks:=s.toks+1}):
  wpAny (model prog w) A (getAttr (.ref x) name a) Q E s:=by
 obtain⟨od,J,e⟩:=I.look;exact W.get_value X J (W.plainGet_of c).1 (W.findObj_own d ha FQ (by rw[e,hv])) b h
def uU {pl:Sem Bool}{Q:WQ×List WQ->WR->Prop}(X:K.In s.heap)(I:yK s.heap x dx C mA)(a:W.plainGet K C name=true)
  (b:W.findIn K (.ref C) name=some (some (.ref f))) (c:W.isFn K (.ref f)=true) (hv:mA name=none) (h:Q (.ref f,[.ref x]) s):
  wpAny (model prog w) A (getMethod (.ref x) name pl) Q E s:=by
 obtain⟨od,J,d⟩:=I.look;exact W.method_fn X J (W.plainGet_of a).1 (W.plainGet_of a).2 b (beq_iff_eq.mp c) (by show(W.lookIn name od).map (·.isSome)=some false;rw[d,hv];rfl) h
def rK {ns:List Str}{Q:Unit->WR->Prop}(X:K.In s.heap)(I:yK s.heap x dx C mA)
  (hs:W.findIn K (.ref C) "__setattr__"=some (some (.builtin "object.__setattr__"))) (j:W.plainOver K C=true) (l:W.takerIn K C name=some none) (m:W.hasDictIn K C=true)
  (hw:PySem.Within mA ns) (hsz:ns.length<=sizeLine)
  (h:∀h',yK h' x dx C (λy=>if y=name then some v else mA y)->Heap.SameBut dx s.heap h'->Q () {s with heap:=h',toks:=s.toks+2}):
  wpAny (model prog w) A (setAttr (.ref x) name v) Q E s:=by
 obtain⟨od,J,p⟩:=I.look;refine W.set_plain X J hs (W.osa_open (s:={s with toks:=s.toks+1}) (r:=none) X J j l λb=>?_);obtain⟨q,hc,e⟩:=W.any_some m;have hx:s.heap.get? x=some ⟨.ref C,some dx,.plain,#[]⟩:=I.obj;refine XA (XB (XA (XA (wpAny_loadPart hx (XA (W.Looks.here (s:={s with toks:=s.toks+1}) (W.looks_clsIn X hc) ?_))))));rw[e];refine XB (a:=some dx) (XA (XB (XA ?_)));refine wpAny_nsSet1 (s:={s with toks:=s.toks+1}) I.ns λh' c d=>?_;obtain⟨t,n,o,f,g,i⟩:=c.count (PySem.Within.cons name v hw);refine XA (wpAny_lookBehind f (by rw[g];exact pastItsLine_dict (XN i (by rw[YF];omega))) ?_);exact XB (h _ ⟨(d.2 _ (Ne.symm I.ne)).trans I.obj,c,I.ne⟩ d)
def uB {R:Result->WR->Prop}{vs:List WQ}{a:List (Str×WQ)}(X:K.In s.heap)(hm:W.makesIn K C=true)
  (hi:W.findIn K (.ref C) "__init__"=some (some (.ref f))) (b:W.typeIn K (.ref f)=some (.type "function"))
  (h:codeAny (model prog w) (A.under (.builtin "type.__call__" ⟨.ref C::vs,a⟩)) (.call (.ref f) ⟨.ref (s.heap.objs.size+1)::vs,a⟩) (W.InitBack (s.heap.objs.size+1) R)
   {s with heap:=(s.heap.push W.emptyDict).push (W.instObj C s.heap.objs.size)}):
  codeAny (model prog w) A (.call (.ref C) ⟨vs,a⟩) R s:=by
 obtain⟨c,g,d,t,os⟩:=s;exact W.make_core (W.makes_of X hm) (W.looks_findIn X hi) (λself=>W.bind_fn X self b) (.inl FQ) h
end
def Sv (f:Str)(v:V):List (Str×V)->List (Str×V)
 | []=>[(f,v)]
 | (g,x)::r=>if g=f then(g,v)::r else(g,x)::Sv f v r
def Ls (f g:Str)(v:V):∀fs:List (Str×V),(Sv f v fs).lookup g=if g=f then some v else fs.lookup g
 | []=>by
  show List.lookup g [(f,v)]=_;by_cases h:g=f
  ·have hb:(g==f)=true:=beq_iff_eq.mpr h;simp only[List.lookup,hb,if_pos h]
  ·have hb:(g==f)=false:=Tm.mpr h;simp only[List.lookup,hb,if_neg h]
 | (k,x)::r=>by
  have a:=Ls f g v r;rw[show Sv f v ((k,x)::r)=(if k=f then(k,v)::r else(k,x)::Sv f v r) from rfl];by_cases hk:k=f
  ·rw[XY hk];by_cases h:g=k
   ·have hb:(g==k)=true:=beq_iff_eq.mpr h;simp only[List.lookup,hb,if_pos (h.trans hk)]
   ·have hb:(g==k)=false:=Tm.mpr h;simp only[List.lookup,hb,if_neg (λe:g=f=>h (e.trans hk.symm))]
  ·rw[XX hk];by_cases h:g=k
   ·have hb:(g==k)=true:=beq_iff_eq.mpr h;simp only[List.lookup,hb,if_neg (λe:g=f=>hk (h.symm.trans e))]
   ·have hb:(g==k)=false:=Tm.mpr h;simp only[List.lookup,hb];exact a
def Lc (f:Str)(v:V):∀fs:List (Str×V),f∈(Sv f v fs).map (·.1)/\∀g,g∈fs.map (·.1)->g∈(Sv f v fs).map (·.1)
 | []=>⟨by simp[Sv],λg h=>by simp at h⟩
 | (k,x)::r=>by
  obtain⟨i1,i2⟩:=Lc f v r;rw[show Sv f v ((k,x)::r)=(if k=f then(k,v)::r else(k,x)::Sv f v r) from rfl];by_cases hk:k=f
  ·rw[XY hk];subst hk;exact⟨by simp,λg h=>by simpa using h⟩
  ·rw[XX hk];refine⟨?_,λg h=>?_⟩
   ·rw[YI];exact XV _ i1
   ·rw[YI] at h |-
    rcases BB.mp h with e | e
    ·exact BB.mpr (.inl e)
    ·exact XV _ (i2 g e)
def Lu (f:Str)(v:V):∀fs:List (Str×V),(Sv f v fs).length<=fs.length+1
 | []=>by simp[Sv]
 | (k,x)::r=>by
  have a:=Lu f v r;rw[show Sv f v ((k,x)::r)=(if k=f then(k,v)::r else(k,x)::Sv f v r) from rfl];by_cases hk:k=f
  ·rw[XY hk,YF,YF];omega
  ·rw[XX hk,YF,YF];omega
def On.some_of {v:V}{o:Option WQ}(r:On (some v) o):∃u,o=some u/\Z9 v u:=by
 cases o with
 | none=>exact(show False from r).elim
 | some u=>exact⟨u,FQ,r⟩
def On.none_of {o:Option WQ}(r:On none o):o=none:=by
 cases o with
 | none=>rfl
 | some u=>exact(show False from r).elim
def xT {v:V}{u:WQ}(r:Z9 v u):W.handedIn u=true:=by
 cases v with
 | non=>cases (show u=Value.none from r);rfl
 | bl b=>cases (show u=Value.bool b from r);rfl
 | int i=>obtain⟨t,e⟩:=(show ∃t,u=Value.int i t from r);cases e;rfl
 | str x=>obtain⟨t,e⟩:=(show ∃t,u=Value.str x t from r);cases e;rfl
 | byt b=>obtain⟨t,e⟩:=(show ∃t,u=Value.bytes b t from r);cases e;rfl
 | flt b=>obtain⟨t,e⟩:=(show ∃t,u=Value.float b t from r);cases e;rfl
 | ref a=>cases (show u=Value.ref a from r);rfl
 | ty n=>cases (show u=Value.type n from r);rfl
section
variable {P:WO}{w:WN}{H H':Hp}{h h':WU}{a C dx:WP}{fs j_:List (Str×V)}
def D5 (hok:Ux P w H h)(e:H a=some (.ins C dx fs)):∃mA,yK h a dx C mA/\(∀f,On (fs.lookup f) (mA f))/\PySem.Within mA (fs.map (·.1))/\fs.length<=1000/\H dx=some (.own a):=by
 obtain⟨d,z,ne,ob,mA,n,r,q⟩:=(show Y5 P w H h a (.ins C dx fs) from hok a _ e);exact⟨mA,⟨ob,n,ne⟩,r,q,z,d⟩
end
structure z9 (K:W.Frag)(C:Addr):Prop where
 pg:W.plainGet K C Str.empty=true
 hd:W.hasDictIn K C=true
 po:W.plainOver K C=true
 sa:W.findIn K (.ref C) "__setattr__"=some (some (.builtin "object.__setattr__"))
def z9.get {K:WY}{C:WP}(c:z9 K C)(f:Str):W.plainGet K C f=true:=c.pg
def Qi (K:WY)(C:WP)(f:Str):Prop:=W.findIn K (.ref C) f=some none
def Qi.taker {K:WY}{C:WP}{f:Str}(n:Qi K C f):W.takerIn K C f=some none:=by
 unfold W.takerIn;rw[show W.findIn K (.ref C) f=some none from n];rfl
structure Zat (K:W.Frag)(C:Addr)(f:Str)(v:V)(u:Value):Prop where
 at_:W.findIn K (.ref C) f=some (some u)
 rel:Z9 v u
 get:W.specialIn K u "__get__"=some none
 cp:W.copiedNames.contains f=false
structure wB (K:W.Frag)(C:Addr)(m:Str)(f:Addr):Prop where
 at_:W.findIn K (.ref C) m=some (some (.ref f))
 fn:W.isFn K (.ref f)=true
 kp:W.keepIn K (.ref f)=true
section
variable {X:Cx}{WZ:List (WP×Obj)}{σ:St}{H:Hp}{s:WR}{a C dx:WP}{fs:List (Str×V)}{f:Str}{v:V}{A:WM}{E:WQ->WR->Prop}
def yp {b:Bool}{Q:WQ->WR->Prop}(I:Zq X WZ σ H s)(e:H a=some (.ins C dx fs))(c:z9 X.K C)(n:Qi X.K C f)(l:fs.lookup f=some v)
  (h:∀u s',Zq X WZ σ H s'->Z9 v u->Q u s'):wpAny (model X.prog X.w) A (getAttr (.ref a) f b) Q E s:=by
 obtain⟨mA,O,r,_,_,_⟩:=D5 I.hok e;obtain⟨u,g,d⟩:=On.some_of (v:=v) (o:=mA f) (by rw[<-l];exact r f);exact qT I.kIn O (c.get f) c.hd n g (xT d) (h u _ (I.tok _) d)
def Hy {m:Str}{g:WP}{pl:Sem Bool}{Q:WQ×List WQ->WR->Prop}(I:Zq X WZ σ H s)(e:H a=some (.ins C dx fs))(c:z9 X.K C)(k:wB X.K C m g)(l:fs.lookup m=none)
  (h:Q (.ref g,[.ref a]) s):wpAny (model X.prog X.w) A (getMethod (.ref a) m pl) Q E s:=by
 obtain⟨mA,O,r,_,_,_⟩:=D5 I.hok e;have hn:mA m=none:=On.none_of (by rw[<-l];exact r m);exact uU I.kIn O (c.get m) k.at_ k.fn hn h
def zK {y:V}{u:WQ}{Q:Unit->WR->Prop}(I:Zq X WZ σ H s)(e:H a=some (.ins C dx fs))(c:z9 X.K C)(n:Qi X.K C f)(l:fs.length<1000)(i:Z9 y u)
  (h:∀s',Zq X WZ σ (Yq H a (.ins C dx (Sv f y fs))) s'->Q () s'):wpAny (model X.prog X.w) A (setAttr (.ref a) f u) Q E s:=by
 obtain⟨mA,O,r,wi,_,d⟩:=D5 I.hok e;have hz:(fs.map (·.1)).length<=sizeLine:=by rw[XI,sizeLine_eq];omega
 refine rK I.kIn O c.sa c.po n.taker c.hd wi hz λh' O' sb=>h _ ?_;have hd:∃o,h'.get? dx=some o:=let ⟨o,_,_,e',_⟩:=O'.ns;⟨o,e'⟩
 refine I.write (x:=a) (e:=dx) (by rw[e];exact True.intro) (.inr d) (λb q hb z=>(sb.2 b hb).trans z) hd ?_;refine⟨by rw[Z0 O.ne];exact d,?_,O.ne,O'.obj,_,O'.ns,λg=>?_,λg j=>?_⟩
 ·have:=Lu f y fs;omega
 ·show On ((Sv f y fs).lookup g) (if g=f then some u else mA g);rw[Ls];by_cases q:g=f
  ·rw[XY q,XY q];exact i
  ·rw[XX q,XX q];exact r g
 ·by_cases q:g=f
  ·rw[q];exact(Lc f y fs).1
  ·refine(Lc f y fs).2 g (wi g λz=>j ?_);show(if g=f then some u else mA g)=none;rw[XX q];exact z
def Zq.made (I:Zq X WZ σ H s):Zq X WZ σ (Yq (Yq H s.heap.objs.size (.own (s.heap.objs.size+1))) (s.heap.objs.size+1) (.ins C s.heap.objs.size []))
  {s with heap:=(s.heap.push W.emptyDict).push (W.instObj C s.heap.objs.size)}:=by
 have c:(s.heap.push W.emptyDict).get? s.heap.objs.size=some W.emptyDict:=XF s.heap FQ;have d:((s.heap.push W.emptyDict).push (W.instObj C s.heap.objs.size)).get? (s.heap.objs.size+1)=some (W.instObj C s.heap.objs.size):=by
  have:=XF (s.heap.push W.emptyDict) (o:=W.instObj C s.heap.objs.size) FQ
  rwa [CC] at this
 have e3:(s.heap.push W.emptyDict).Ns s.heap.objs.size (λ_=>none):=⟨W.emptyDict,#[],_,c,FQ,(λe f=>absurd f (by simp)),λ_=>rfl⟩;have g:=I.laid (a:=s.heap.objs.size) (o:=.own (s.heap.objs.size+1)) (h':=s.heap.push W.emptyDict) (t':=s.toks) (λb u q=>XC _ q) (XE _) ⟨_,c⟩;refine g.laid (a:=s.heap.objs.size+1) (o:=.ins C s.heap.objs.size []) (t':=s.toks) (λb u q=>XC _ q) (Nat.le_of_eq (CC _ _)) ?_;have ne:s.heap.objs.size≠s.heap.objs.size+1:=XH (BI _);refine⟨by rw[Z0 ne,Ya],XO _,ne,d,λ_=>none,(Heap.Ns1.of_empty e3).at λo q=>XC _ q,λ_=>True.intro,λy hy=>absurd FQ hy⟩
def pM {prog:WO}{w:WN}{env:Env}{e:WW}{f:Str}{pos:Pos}{s:WR}{Q:WQ->WR->Prop}(hb:attributeBase e f env (eval e env)=eval e env)
  (h:wpAny (model prog w) A (eval e env) (λo a=>wpAny (model prog w) A (getAttr o f true) Q E a) E s):wpAny (model prog w) A (eval (.Attribute e f pos) env) Q E s:=
 Attribute_any_ h (by rw[arm_eval_Attribute,hb])
end
def dt (K:WY)(ta:TE)(f:Str):TE:=λσ H Q=>ta σ H λx H1=>∃a C dx fs v,x=.ref a/\H1 a=some (.ins C dx fs)/\z9 K C/\Qi K C f/\fs.lookup f=some v/\Q v H1
def ax (K:WY)(ta:TE)(f:Str):TE:=λσ H Q=>ta σ H λx H1=>∃a C dx fs v u,x=.ref a/\H1 a=some (.ins C dx fs)/\z9 K C/\Zat K C f v u/\fs.lookup f=none/\Q v H1
def dE (K:WY)(ta tv:TE)(f:Str):TS:=λD σ H=>tv σ H λy H1=>ta σ H1 λx H2=>∃a C dx fs,x=.ref a/\H2 a=some (.ins C dx fs)/\z9 K C/\Qi K C f/\fs.length<1000/\
 D.nx σ (Yq H2 a (.ins C dx (Sv f y fs)))
def Zar (X:Cx)(op:Operator)(rd:V->V->Hp->VK->Prop):Prop:=
 ∀(WZ:List (WP×Obj)) (s:WR) (σ:St) (H:Hp) (x y:V) (u v:WQ) (Q:VK),Zq X WZ σ H s->Z9 x u->Z9 y v->rd x y H Q->wpAny (model X.prog X.w) X.A (inplaceOp op u v) (EP X WZ σ Q) X.xe s
def eG (K:WY)(ta tv:TE)(rd:V->V->Hp->VK->Prop)(f:Str):TS:=λD σ H=>ta σ H λx H1=>∃a C dx fs v,x=.ref a/\H1 a=some (.ins C dx fs)/\z9 K C/\Qi K C f/\fs.lookup f=some v/\
 tv σ H1 λy H2=>rd v y H2 λz c=>∃b j_,c a=some (.ins C b j_)/\j_.length<1000/\D.nx σ (Yq c a (.ins C b (Sv f z j_)))
section
variable {X:Cx}{o e value:WW}{f:Str}{pos n_ t_:Pos}{ta tv:TE}
def mD (b:PE X e ta)(hb:attributeBase e f X.env (eval e X.env)=eval e X.env):PE X (.Attribute e f pos) (dt X.K ta f):=by
 intro WZ s σ H Q I h;refine pM hb (Y3 (b WZ s σ H _ I h) λu s1 ⟨x,H1,d,g,a,C,dx,fs,v,ex,ea,c,n,l,q⟩=>?_);subst ex;obtain rfl:u=Value.ref a:=g;exact yp d ea c n l λu' s2 i j=>⟨v,H1,i,j,q⟩
def ml (ha:PE X o ta)(hv:PE X value tv)(hs:swapsWith value (some (.Attribute o f n_)) pos.line X.env=pure false):PS X (.Assign [.Attribute o f n_] value pos) (dE X.K ta tv f):=by
 intro WZ s σ H D I h;refine plainObj_wpAny_Assign_Attribute (Y3 (hv WZ s σ H _ I h) λu s1 ⟨y,H1,b,d,q⟩=>Y3 (ha WZ s1 σ H1 _ b q) λov s2 ⟨x,H2,e,g,a,C,dx,fs,ex,ea,c,n,l,i⟩=>?_) hs;subst ex;obtain rfl:ov=Value.ref a:=g;exact zK e ea c n l d λm j=>⟨σ,_,j,i⟩
end
section
variable {X:Cx}{WZ:List (WP×Obj)}{σ:St}{H:Hp}{s:WR}{A:WM}{E:WQ->WR->Prop}{Q:WQ->WR->Prop}{c:WQ}{b:Bool}
inductive Gr (K:W.Frag)(H:Hp):V->Value->Prop where
 | non:Gr K H .non (.type "NoneType")
 | bl (x:Bool):Gr K H (.bl x) (.type "bool")
 | int (i:Int):Gr K H (.int i) (.type "int")
 | str (x:Str):Gr K H (.str x) (.type "str")
 | flt (x:UInt64):Gr K H (.flt x) (.type "float")
 | lst {a:WP} {xs:List V} (e:H a=some (.lst xs)):Gr K H (.ref a) (.type "list")
 | frz {a:WP} {o:Obj} {xs:List V} (e:H a=some (.frz o (.lst xs))):Gr K H (.ref a) (.type "list")
 | tup {a:WP} {xs:List V} (e:H a=some (.tup xs)):Gr K H (.ref a) (.type "tuple")
 | dK {a:WP} {kvs:List (Z8×V)} (e:H a=some (.dK kvs)):Gr K H (.ref a) (.type "dict")
 | dT {a:WP} {kvs:List (List Z8×V)} (e:H a=some (.dT kvs)):Gr K H (.ref a) (.type "dict")
 | ins {a C dx:WP} {fs:List (Str×V)} (e:H a=some (.ins C dx fs)) (cl:z9 K C) (ha:W.findIn K (.ref C) "__class__"=some (some (.builtin "object.__class__")))
   (hn:W.specialIn K (.builtin "object.__class__") "__get__"=some (some (.builtin "getset_descriptor.__get__"))) (htk:W.takesIn K (.builtin "object.__class__")=some true)
   (hm:W.mroIn K C (.type "object")=some true):Gr K H (.ref a) (.ref C)
end
structure Y8 (k:Nat)(A:Around):Prop where
 hd:A.handled=none
 dp:A.depth+3*k+5<recursionLimit
 un:A.units+16*k+200<cLine
def Y8.deeper {k:Nat}{A:WM}(r:Y8 (k+1) A)(env:Env):Y8 k (A.deeper env):=
 ⟨r.hd,by have:=r.dp;show A.depth+1+3*k+5<_;omega,by have:=r.un;show A.units+3+16*k+200<_;omega⟩
def ye {A:WM}{C:WP}{us:List WQ}{a:List (Str×WQ)}:(A.under (.builtin "type.__call__" ⟨.ref C::us,a⟩)).depth=A.depth+1:=by
 first | rfl | simp[Around.under,Code.weight,Code.isCreation,Code.isGuard,Code.isCaller,Code.frames,Code.isFrame,guardIds]
def yd {A:WM}{C:WP}{us:List WQ}{a:List (Str×WQ)}:(A.under (.builtin "type.__call__" ⟨.ref C::us,a⟩)).units=A.units+1:=by
 first | rfl | simp[Around.under,Code.cUnits,Code.frames,Code.isFrame]
def Y8.make {k:Nat}{A:WM}(r:Y8 (k+1) A)(C:WP)(us:List WQ)(y:List (Str×WQ)):Y8 k (A.under (.builtin "type.__call__" ⟨.ref C::us,y⟩)):=
 ⟨r.hd,by have:=r.dp;rw[ye];omega,by have:=r.un;rw[yd];omega⟩
def Y8.depth {k:Nat}{A:WM}(r:Y8 k A):A.depth<recursionLimit:=by have:=r.dp;omega
def vj:TA:=λ_ H Q=>Q [] H
def Ab (ta:TE)(tr:TA):TA:=λσ H Q=>ta σ H λx H1=>tr σ H1 λxs H2=>Q (x::xs) H2
section
variable {X:Cx}{e:WW}{es:List WW}{te:TE}{t:TA}{pos:Pos}
def zY:PA X [] vj:=λ_ _ _ _ H Q I h=>DK ⟨[],H,I,.nil,h⟩
def Kv (ha:PE X e te)(a:PA X es t)(hs:starEach (e::es) X.env=(false,eval e X.env)::starEach es X.env:=by rfl):PA X (e::es) (Ab te t):=by
 intro pos WZ s σ H Q I h;rw[hs];show wpAny _ _ (spliced ((false,eval e X.env)::backTo pos (starEach es X.env))) _ _ s;refine CD (Y3 (ha WZ s σ H _ I h) λu s1 ⟨x,H1,b,c,d⟩=>?_);exact Y3 (a pos WZ s1 σ H1 _ b d) λus s2 ⟨xs,H2,f,g,i⟩=>⟨x::xs,H2,f,.cons c g,i⟩
def iL (t:TA):TE:=λσ H Q=>t σ H λxs H1=>xs.length<=sizeLine/\∀p,H1 p=none->Q (.ref p) (Yq H1 p (.tup xs))
def iS (t:TA):TE:=λσ H Q=>t σ H λxs H1=>xs.length<=sizeLine/\∀p,H1 p=none->Q (.ref p) (Yq H1 p (.lst xs))
def m5 {c}(h:PA X es t):PE X (.Tuple es c pos) (iL t):=by
 intro WZ s σ H Q I hq;refine wpAny_Tuple_spliced (Y3 (h pos WZ s σ H _ I hq) λus s1 ⟨xs,H1,a,r,z,q⟩=>⟨by rw[<-r.length];exact z,?_⟩);have d:H1 s1.heap.objs.size=none:=a.hok.fresh (XE _);refine⟨.ref s1.heap.objs.size,Yq H1 s1.heap.objs.size (.tup xs),a.laid (t':=s1.toks) (λb u e=>XC _ e) (XE _) ?_,FQ,q _ d⟩;exact⟨z,us,r,⟨_,XF _ FQ,FQ,_,FQ⟩⟩
def mB (h:PA X es t):PE X (.List es pos) (iS t):=by
 intro WZ s σ H Q I hq;refine wpAny_List_spliced (Y3 (h pos WZ s σ H _ I hq) λus s1 ⟨xs,H1,a,r,z,q⟩=>⟨by rw[<-r.length];exact z,?_⟩);have c:H1 s1.heap.objs.size=none:=a.hok.fresh (XE _);refine⟨.ref s1.heap.objs.size,Yq H1 s1.heap.objs.size (.lst xs),a.laid (t':=s1.toks) (λb u e=>XC _ e) (XE _) ?_,FQ,q _ c⟩;exact⟨z,us,0,r,XF _ FQ⟩
end
abbrev Sp:=List V->Hp->VK->XK->Prop
abbrev Ko:=List Env->Hp->WR->XK->WQ->WR->Prop
structure Fk (P:Program)(w:World)(K:W.Frag)(mg:Str->Option Value)(base:Heap)(A:Around)(outer:List Env)(s:Shared)(H:Hp):Prop where
 frames:A.frames=some outer
 mod:Mod K mg base
 bs:∀b o,base.get? b=some o->s.heap.get? b=some o/\H b=none
 bsz:base.objs.size<=s.heap.objs.size
 funs:s.heap.FunFrames base outer
 frf:∀b∈Yx outer,H b=none
 hok:Ux P w H s.heap
 bare:AllBare s.gens
def CE (outer:List Env)(P:WO)(w:WN)(H:Hp)(s:WR)(Q:VK)(u:WQ)(s':WR):Prop:=
 ∃v H',s'.os=s.os/\AllBare s'.gens/\Un (Yx outer) [] H H' s.heap s'.heap/\Ux P w H' s'.heap/\Z9 v u/\Q v H'
def CR (CX:Ko)(outer:List Env)(P:WO)(w:WN)(H:Hp)(s:WR)(Q:VK)(E:XK)(r:Result)(s':WR):Prop:=
 match r with
 | .ok (.ret u)=>CE outer P w H s Q u s'
 | .ok _=>False
 | .error e=>CX outer H s E e s'
structure Ww (P:Program)(w:World)(K:W.Frag)(mg:Str->Option Value)(base:Heap)(CX:Ko)(k:Nat)(f:Addr)(fd:FuncData)(ps:List Str)(sp:Sp):Prop where
 len:∀vs H Q E,sp vs H Q E->vs.length=ps.length
 run:∀(A:WM) (outer:List Env) (s:WR) (H:Hp) (args:Args) (us:List WQ) (vs:List V) (Q:VK) (E:XK),Y8 k A->Fk P w K mg base A outer s H->BindsTo s fd args (ps.zip us)->Z5 vs us->sp vs H Q E->
  codeAny (model P w) A (.call (.ref f) args) (CR CX outer P w H s Q E) s
def Fk.make {P:WO}{w:WN}{K:WY}{mg:Str->Option WQ}{base:WU}{A:WM}{outer:List Env}{s:WR}{H:Hp}(e:Fk P w K mg base A outer s H)(C:WP)(us:List WQ)(y:List (Str×WQ)):
  Fk P w K mg base (A.under (.builtin "type.__call__" ⟨.ref C::us,y⟩)) outer s H:=⟨by first | exact e.frames | (simpa[Around.under,Code.envs,Code.isFrame,pushEnvs] using e.frames),e.mod,e.bs,e.bsz,e.funs,e.frf,e.hok,e.bare⟩
section
variable {X:Cx}{WZ:List (WP×Obj)}{σ:St}{H:Hp}{s s':WR}
def Zq.env0 (I:Zq X WZ σ H s):Fk X.prog X.w X.K X.mg X.base X.A X.stack s H:=
 ⟨I.ok.frames,I.ok.mod,I.bs,XN I.ok.bsz I.sz,I.stack,I.stkFree,I.hok,I.bare⟩
def Zq.after {Q:VK}{u:WQ}(I:Zq X WZ σ H s)(h:CE X.stack X.prog X.w H s Q u s'):EP X WZ σ Q u s':=by
 obtain⟨v,H',os,bare,un,hok,r,q⟩:=h;obtain⟨a,g,d,t,os'⟩:=s';obtain rfl:os'=s.os:=os;exact⟨v,H',I.call (h':=a) (g':=g) (d':=d) (t':=t) (ch:=[]) un hok bare (λb z=>absurd z (by simp)),r,q⟩
end
def yT (sp:Sp)(dvs:List V)(E:XK)(t:TA):TE:=λσ H Q=>t σ H λvs H1=>sp (vs++dvs) H1 Q E
def b7 (C:WP)(m:Str)(sp:Sp)(dvs:List V)(E:XK)(ta:TE)(t:TA):TE:=λσ H Q=>ta σ H λx H1=>∃a dx fs,x=.ref a/\H1 a=some (.ins C dx fs)/\fs.lookup m=none/\
 t σ H1 λvs H2=>sp (x::(vs++dvs)) H2 Q E
def iQ (C:WP)(sp:Sp)(dvs:List V)(E:XK)(t:TA):TE:=λσ H Q=>t σ H λvs H1=>∀x dx,H1 x=none->H1 dx=none->dx≠x->
 sp (.ref x::(vs++dvs)) (Yq (Yq H1 dx (.own x)) x (.ins C dx [])) (λv H2=>v=.non/\Q (.ref x) H2) E
def Xv (K:WY)(fd:VZ)(ps:List Str)(ds:List WQ):Prop:=
 ∀(s:WR) (us:List WQ),K.In s.heap->(us++ds).length=ps.length->BindsTo s fd ⟨us,[]⟩ (ps.zip (us++ds))
def Xv.all {K:WY}{fd:VZ}{ps:List Str}(h:∀us:List WQ,us.length=ps.length->bindArgs fd ⟨us,[]⟩=pure (ps.zip us)):Xv K fd ps []:=λs us _ a=>by
 rw[YK] at a |-;exact .of_eq (h us a)
def Uo (CX:Ko)(X:Cx)(E:XK):Prop:=∀(WZ:List (WP×Obj)) (σ:St) (H:Hp) (s:WR) (e:WQ) (s':WR),Zq X WZ σ H s->CX X.stack H s E e s'->X.xe e s'
section
variable {X:Cx}{CX:Ko}{k:Nat}{f C:WP}{fd:VZ}{ps:List Str}{sp:Sp}{dvs:List V}{ds:List WQ}{E:XK}{x m:Str}{p pos c_:Pos}{e o:WW}{es:List WW}{ta:TE}{t:TA}
set_option tactic.hygienic true in
def zQ {WZ:List (WP×Obj)}{σ:St}{H:Hp}{s:WR}{Q:VK}{us:List WQ}{vs:List V}(F:Ww X.prog X.w X.K X.mg X.base CX k f fd ps sp)(b:Y8 k X.A)(hb:Xv X.K fd ps ds)(hd:Z5 dvs ds)(hx:Uo CX X E)
  (I:Zq X WZ σ H s) (r:Z5 vs us) (h:sp (vs++dvs) H Q E):wpAny (model X.prog X.w) X.A (call (.ref f) us) (EP X WZ σ Q) X.xe s:=by
 have a:Z5 (vs++dvs) (us++ds):=r.append hd;have c:(us++ds).length=ps.length:=by rw[<-a.length];exact F.len _ _ _ _ h
 refine wpAny_call (codeAny_mono (F.run X.A X.stack s H ⟨us,[]⟩ (us++ds) (vs++dvs) Q E b I.env0 (hb s us I.kIn c) a h) λr s' hq=>?_)
 cases r with
 | error e=>exact hx WZ σ H s e s' I hq
 | ok d=>
  cases d with
  | ret u=>exact I.after hq
  | next=>exact False.elim hq
  | brk=>exact False.elim hq
  | cont=>exact False.elim hq
def jg (F:Ww X.prog X.w X.K X.mg X.base CX k f fd ps sp)(d:Y8 k X.A)(g:Gl X x)(hm:X.mg x=some (.ref f))(hk:W.keepIn X.K (.ref f)=true)(hb:Xv X.K fd ps ds)(hd:Z5 dvs ds)(hx:Uo CX X E)
  (ha:PA X (e::es) t) (a:(x==("__debug__":Str))=false:=by decide) (i:starEach (e::es) X.env=(false,eval e X.env)::starEach es X.env:=by rfl) (b:(backTo pos (starEach es X.env)).any (·.1)=false:=by rfl):
  PE X (.Call (.Name x p) (e::es) [] pos) (yT sp dvs E t):=by
 intro WZ s σ H Q I h;refine wpAny_Call_Name_kw (T8 I g hm ?_ a);refine ET (h₀:=X.base) I.ok.mod.kin hk (Y3 (ha pos WZ s σ H _ I h) λus s1 ⟨vs,H1,c,r,q⟩=>⟨c.kIn,?_⟩) i b;exact zQ F d hb hd hx c r q
structure Mk (K:W.Frag)(C f:Addr):Prop where
 makes:W.makesIn K C=true
 init:W.findIn K (.ref C) "__init__"=some (some (.ref f))
 fn:W.isFn K (.ref f)=true
 kp:W.keepIn K (.ref C)=true
set_option tactic.hygienic true in
def vJ {WZ:List (WP×Obj)}{σ:St}{H:Hp}{s:WR}{Q:VK}{us:List WQ}{vs:List V}(M:Mk X.K C f)(F:Ww X.prog X.w X.K X.mg X.base CX k f fd ps sp)(d:Y8 (k+1) X.A)(hb:Xv X.K fd ps ds)(hd:Z5 dvs ds)
  (hx:Uo CX X E) (I:Zq X WZ σ H s) (r:Z5 vs us)
  (h:∀x dx,H x=none->H dx=none->dx≠x->sp (.ref x::(vs++dvs)) (Yq (Yq H dx (.own x)) x (.ins C dx [])) (λv H2=>v=.non/\Q (.ref x) H2) E):
  wpAny (model X.prog X.w) X.A (call (.ref C) us) (EP X WZ σ Q) X.xe s:=by
 have hq:=h (s.heap.objs.size+1) s.heap.objs.size (I.hok.fresh (Nat.le_succ _)) (I.hok.fresh (XE _)) (XH (BI _));have b:=Zq.made (C:=C) I;have c:Z5 (V.ref (s.heap.objs.size+1)::(vs++dvs)) (Value.ref (s.heap.objs.size+1)::(us++ds)):=.cons FQ (r.append hd);have g:(Value.ref (s.heap.objs.size+1)::us++ds).length=ps.length:=by
  have e:=c.length;rw[F.len _ _ _ _ hq] at e;exact e.symm
 refine wpAny_call (uB (f:=f) I.kIn M.makes M.init (beq_iff_eq.mp M.fn) (codeAny_mono (F.run _ X.stack _ _ ⟨Value.ref (s.heap.objs.size+1)::us,[]⟩ (Value.ref (s.heap.objs.size+1)::(us++ds)) _ _ E (d.make C us [])
  (b.env0.make C us []) (hb _ (Value.ref (s.heap.objs.size+1)::us) b.kIn g) c hq) λr s' a=>?_))
 cases r with
 | error e=>exact hx WZ σ _ _ e s' b a
 | ok i=>
  cases i with
  | ret u=>
   obtain⟨v,H',j,l,ev,m⟩:=b.after a;subst ev;exact⟨l,⟨V.ref (s.heap.objs.size+1),H',j,FQ,m⟩⟩
  | next=>exact False.elim a
  | brk=>exact False.elim a
  | cont=>exact False.elim a
def ue (M:Mk X.K C f)(F:Ww X.prog X.w X.K X.mg X.base CX k f fd ps sp)(b:Y8 (k+1) X.A)(c:Gl X x)(hm:X.mg x=some (.ref C))(hb:Xv X.K fd ps ds)(hd:Z5 dvs ds)(hx:Uo CX X E)
  (a:(x==("__debug__":Str))=false:=by decide):PE X (.Call (.Name x p) [] [] pos) (iQ C sp dvs E vj):=by
 intro WZ s σ H Q I h;refine wpAny_Call_Name_kw (T8 I c hm ?_ a);exact W.callWith_K0 I.kIn M.kp (vJ (us:=[]) M F b hb hd hx I .nil h)
end
def PK (X:Cx)(l_:List Keyword)(t:TA):Prop:=
 ∀(pos:Pos) (WZ:List (WP×Obj)) (s:WR) (σ:St) (H:Hp) (Q:List V->Hp->Prop),Zq X WZ σ H s->t σ H Q->wpAny (model X.prog X.w) X.A (evalAll ((backToKw pos (keywordEach l_ X.env)).map (·.2))) (AP X WZ σ Q) X.xe s
section
variable {X:Cx}{CX:Ko}{k:Nat}{f C:WP}{fd:VZ}{ps ks:List Str}{sp:Sp}{E:XK}{x m:Str}{p pos c_ k_:Pos}{e o:WW}{es:List WW}{l_:List Keyword}{te ta:TE}{t tk:TA}{nm:Option Str}
structure bf (K:W.Frag)(fd:FuncData)(ps ks:List Str)(g:List Value->List Value->List Value)(gV:List V->List V->List V):Prop where
 to:∀(s:WR) (us ws:List WQ),K.In s.heap->(g us ws).length=ps.length->BindsTo s fd ⟨us,ks.zip ws⟩ (ps.zip (g us ws))
 rel:∀{vs:List V} {us:List WQ} {zs:List V} {ws:List WQ},Z5 vs us->Z5 zs ws->Z5 (gV vs zs) (g us ws)
variable {g:List WQ->List WQ->List WQ}{gV:List V->List V->List V}
end
structure Zt (N P:List Str)(sc:Scope):Prop where
 kind:sc.kind=.function
 co:sc.isCoroutine=false
 gen:sc.isGenerator=false
 nd:N.Nodup
 pre:N.take P.length=P
 par:∀x∈P,sc.names.lookup x=some .local\/sc.names.lookup x=some .cell
 nofree:∀y∈sc.names,y.2≠.free
def Es {kindOf:Str->Option NameKind}{x:Str}:∀{binds:List (Str×WQ)} {m:Str->Option WQ},(∀v,(x,v)∉binds)->bindL kindOf binds m x=m x
 | [],_,_=>rfl
 | (n,v)::r,m,h=>by
  unfold bindL;rw[Es λw hw=>h w (XV _ hw)]
  split
  ·have:x≠n:=by rintro rfl;exact h v BA
   simp[this]
  ·rfl
def Eu {kindOf:Str->Option NameKind}{x:Str}:∀{binds:List (Str×WQ)} {m:Str->Option WQ},(∀v,(x,v)∉binds)->bindC kindOf binds m x=m x
 | [],_,_=>rfl
 | (n,v)::r,m,h=>by
  unfold bindC;rw[Eu λw hw=>h w (XV _ hw)]
  split
  ·rfl
  ·have:x≠n:=by rintro rfl;exact h v BA
   simp[this]
def Et {kindOf:Str->Option NameKind}{x:Str}{v:WQ}:∀{P:List Str} {vs:List WQ} {i:Nat} {m:Str->Option WQ},P.Nodup->P[i]?=some x->vs[i]?=some v->kindOf x=some .local->
  bindL kindOf (P.zip vs) m x=some v
 | [],_,_,_,_,h,_,_=>by simp at h
 | _::_,[],_,_,_,_,h,_=>by simp at h
 | p::P,w::vs,0,m,nd,h1,h2,hk=>by
  simp at h1 h2;subst h1;subst h2;show bindL kindOf ((p,w)::P.zip vs) m p=_;unfold bindL;rw[Es λv hv=>(BU.mp nd).1 (CH hv).1,XY hk];simp
 | p::P,w::vs,i+1,m,nd,h1,h2,hk=>by
  show bindL kindOf ((p,w)::P.zip vs) m x=_;unfold bindL;exact Et (i:=i) (List.nodup_cons.mp nd).2 (by simpa using h1) (by simpa using h2) hk
def Ew {kindOf:Str->Option NameKind}{x:Str}{v:WQ}:∀{P:List Str} {vs:List WQ} {i:Nat} {m:Str->Option WQ},P.Nodup->P[i]?=some x->vs[i]?=some v->kindOf x≠some .local->
  bindC kindOf (P.zip vs) m x=some v
 | [],_,_,_,_,h,_,_=>by simp at h
 | _::_,[],_,_,_,_,h,_=>by simp at h
 | p::P,w::vs,0,m,nd,h1,h2,hk=>by
  simp at h1 h2;subst h1;subst h2;show bindC kindOf ((p,w)::P.zip vs) m p=_;unfold bindC;rw[Eu λv hv=>(BU.mp nd).1 (CH hv).1,XX hk];simp
 | p::P,w::vs,i+1,m,nd,h1,h2,hk=>by
  show bindC kindOf ((p,w)::P.zip vs) m x=_;unfold bindC;exact Ew (i:=i) (List.nodup_cons.mp nd).2 (by simpa using h1) (by simpa using h2) hk
def start (N:List Str)(vs:List V):St:=vs.map some++List.replicate (N.length-vs.length) none
def Uc (CX:Ko)(P:WO)(w:WN)(K:WY)(mg:Str->Option WQ)(base:WU)(N:List Str)(qual:Str)(scope:Scope)(f:WP)(a:WQ)(A:WM)(outer:List Env)(s:WR)(H:Hp)(E:XK):Cx where
 prog:=P
 w:=w
 K:=K
 mg:=mg
 base:=base
 A:=A.deeper (envOfC qual scope s.heap.objs.size f a)
 N:=N
 s₀:=s
 H₀:=H
 env:=envOfC qual scope s.heap.objs.size f a
 outer:=outer
 stack:=envOfC qual scope s.heap.objs.size f a::outer
 ex:=[]
 calm:=true
 fn:=λ_=>true
 pn:=[]
 xe:=λe s'=>wpAny (model P w) (A.deeper (envOfC qual scope s.heap.objs.size f a)) (leaving (envOfC qual scope s.heap.objs.size f a) e) (λ_ s''=>CX outer H s E e s'') (λe' s''=>CX outer H s E e' s'') s'
def zn {sc:Scope}{n:Nat}{x:Str}(h:sc.names.lookup x=some .cell):∃c,(cellsFrom n sc.names []).lookup x=some c:=by
 have q:=FK sc.names n [] (.inl h);exact CV.mp q
def Ef {CX:Ko}{P:WO}{w:WN}{K:WY}{mg:Str->Option WQ}{base:WU}{N ps:List Str}{qual:Str}{scope:Scope}{f:WP}{m:WQ}{A:WM}{outer:List Env}{s s1:WR}{H:Hp}{E:XK}{us:List WQ}{vs:List V}
  (S:Zt N ps scope) (hd:A.handled=none) (d:Fk P w K mg base A outer s H) (C:vs.length=ps.length) (r:Z5 vs us)
  (x:InCallC s s.heap.objs.size (bindL (envOfC qual scope s.heap.objs.size f m).kindOf (ps.zip us) λ_=>none) (cellsFrom (s.heap.objs.size+1) scope.names []) (bindC (envOfC qual scope s.heap.objs.size f m).kindOf (ps.zip us) λ_=>none) s1):
  Zq (Uc CX P w K mg base N qual scope f m A outer s H E) [] (start N vs) H s1:=by
 have t:ps.length<=N.length:=by have:=congrArg List.length S.pre;rw[YM] at this;omega
 obtain⟨h1,tk,rfl,hk⟩:=x.done;have g:∀b:WP,b∉(Uc CX P w K mg base N qual scope f m A outer s H E).ex:=λb z=>absurd (show b∈([]:List WP) from z) (by simp);refine⟨⟨d.mod,S.kind,FQ,FQ,XE _,λy z c h1 h2=>?_,λy hy=>?_,λy c _ h=>?_,λ_=>hd,Around.frames_deeper d.frames,.inr ⟨FQ,FQ⟩,λb z=>absurd z (g b),d.bs,d.bsz,λb _ _=>g b,λb z=>absurd z (g b),d.funs,d.frf⟩,
  rfl,d.bare,Un.kept hk,⟨_,x.toInCall.ns,λi y v h1 h2 D=>?_⟩,λy c h=>⟨_,x.cell y c h⟩,d.hok.fresh (Nat.le_refl _),λy c h=>?_,λp j=>absurd (show p∈([]:List (WP×Obj)) from j) (by simp),d.hok.kept hk,?_⟩
 ·exact name_of_addr x.apart (BZ h1) (BZ h2)
 ·have hy:scope.names.lookup y=some .cell\/scope.names.lookup y=some .free:=hy
  rcases hy with hy | hy
  ·exact zn hy
  ·exact absurd FQ (S.nofree _ (BZ hy))
 ·exact CG (x.above y c (BZ h))
 ·have hi:i<vs.length:=by
   unfold start at h2;by_cases hi:i<vs.length
   ·exact hi
   ·rw[List.getElem?_append_right (by simpa using hi)] at h2;rw[List.getElem?_replicate] at h2
    split at h2<;>cases h2
  have ha:vs[i]?=some v:=by
   unfold start at h2;rw[List.getElem?_append_left (by simpa using hi),List.getElem?_map] at h2
   cases e:vs[i]? with
   | none=>rw[e] at h2;cases h2
   | some a=>rw[e] at h2;cases h2;rfl
  obtain⟨u,o,B⟩:=r.get ha;have j:ps[i]?=some y:=by
   rw[<-S.pre,List.getElem?_take_of_lt (by omega)];exact h1
  have l:ps.Nodup:=by rw[<-S.pre];exact S.nd.sublist (List.take_sublist _ _)
  refine⟨u,B,?_⟩
  rcases S.par y (BE j) with k | k
  ·exact .inl ⟨k,Et l j o k⟩
  ·obtain⟨c,e⟩:=zn (n:=s.heap.objs.size+1) k;refine .inr ⟨.inl k,c,e,?_⟩;have q:=x.cell y c e;rw[Ew l j o (by show scope.names.lookup y≠_;rw[k];decide)] at q;exact q
 ·exact d.hok.fresh (CG (x.above y c (BZ h)))
 ·unfold start;show _=N.length;rw[AY,XI,ER];omega
set_option tactic.hygienic true in
def oR {CX:Ko}{P:WO}{w:WN}{K:WY}{mg:Str->Option WQ}{base:WU}{k:Nat}{f:WP}{name qual:Str}{params:Arguments}{body:List WV}{scope:Scope}{dV kV doc pm e_ ct oc:WQ}{an od:Option WP}
  {osl:Array (Option WQ)} {N ps:List Str} {sp:Sp} (lk:K.lookup f=some ⟨oc,od,.func (W.fnOf name qual params body scope dV kV doc pm an e_ ct),osl⟩) (h:W.codeIn K e_ qual=true) (S:Zt N ps scope)
  (len:∀vs H Q E,sp vs H Q E->vs.length=ps.length)
  (a:∀(A:WM) (outer:List Env) (s:WR) (H:Hp) (vs:List V) (Q:VK) (E:XK),Y8 k (A.deeper (envOfC qual scope s.heap.objs.size f e_))->sp vs H Q E->
   ∃t,Bz (Uc CX P w K mg base N qual scope f e_ A outer s H E) body t/\t {nx:=λ_ H'=>Q .non H',rt:=Q} (start N vs) H):
  Ww P w K mg base CX (k+1) f (W.fnOf name qual params body scope dV kV doc pm an e_ ct) ps sp:=by
 refine⟨len,λA outer s H args us vs Q E i d hb r g=>?_⟩;have p:=len _ _ _ _ g;have m:K.In s.heap:=d.mod.kin.keeps λb o e=>(d.bs b o e).1;have j:s.heap.NoLimit:=d.mod.nolimit.keeps λb o e=>(d.bs b o e).1;have c:∀y∈ps.zip us,scope.names.lookup y.1=some .local\/(scope.names.lookup y.1=some .cell/\((cellsFrom (s.heap.objs.size+1) scope.names []).lookup y.1).isSome=true):=λ⟨n,v⟩ hy=>by
  rcases S.par n (CH hy).1 with q | q
  ·exact .inl q
  ·exact .inr ⟨q,FK _ _ _ (.inl q)⟩
 refine codeAny_call_function i.depth (m _ _ lk) FQ S.co S.gen FQ (W.codeRec_of m h) (hb _ _ _ _ ?_);refine wpAny_newFunctionEnv_cells S.kind c λenv z s1 x=>?_;subst z;refine⟨j.keeps x.toInCall.keep,codeAny_func ?_⟩;obtain⟨t,B,hq⟩:=a A outer s H vs Q E (i.deeper _) g;have I:Zq (Uc CX P w K mg base N qual scope f e_ A outer s H E) [] (start N vs) H s1:=Ef S i.hd d p r x;refine wpAny_mono (B [] s1 (start N vs) H _ I hq) (λC s' hs=>?_) λe s' hs=>hs;have fin:∀{y_:St} {H':Hp} {v:V} {u:WQ},Zq (Uc CX P w K mg base N qual scope f e_ A outer s H E) [] y_ H' s'->Z9 v u->Q v H'->CE outer P w H s Q u s':=
  λ{y_ H' v u} J l q=>⟨v,H',J.os,J.bare,J.base,J.hok,l,q⟩
 cases C with
 | ret u=>
  obtain⟨v,y_,H',J,l,q⟩:=hs;exact fin J l q
 | next=>
  obtain⟨y_,H',J,q⟩:=hs;exact fin (v:=V.non) (u:=Value.none) J FQ q
 | brk=>
  obtain⟨_,_,_,q⟩:=hs;exact False.elim q
 | cont=>
  obtain⟨_,_,_,q⟩:=hs;exact False.elim q
section
variable {X:Cx}{x:Str}{p pos:Pos}{e:WW}{es:List WW}{t:TA}{id T:String}{r:List V->Hp->VK->Prop}
def dw (r:List V->Hp->VK->Prop)(t:TA):TE:=λσ H Q=>t σ H λvs H1=>r vs H1 Q
def Ar (hc:Vo X (.builtin id) r)(c:Gl X x)(hm:X.mg x=none)(hv:bootBuiltins x=some (.builtin id))(ha:PA X (e::es) t)(hn:x≠"__name__":=by decide)(a:(x==("__debug__":Str))=false:=by decide)
  (d:starEach (e::es) X.env=(false,eval e X.env)::starEach es X.env:=by rfl) (b:(backTo pos (starEach es X.env)).any (·.1)=false:=by rfl):PE X (.Call (.Name x p) (e::es) [] pos) (dw r t):=by
 intro WZ s σ H Q I h;refine wpAny_Call_Name_kw (Tj I c hm hv ?_ hn a);exact PyProof.Rows.callWith_builtin1 (Y3 (ha pos WZ s σ H _ I h) λus s1 ⟨vs,H1,f,g,i⟩=>hc WZ s1 σ H1 vs us Q f g i) d b
def xC (hc:Vo X (.type T) r)(c:Gl X x)(hm:X.mg x=none)(hv:bootBuiltins x=some (.type T))(ha:PA X (e::es) t)(hn:x≠"__name__":=by decide)(a:(x==("__debug__":Str))=false:=by decide)
  (d:starEach (e::es) X.env=(false,eval e X.env)::starEach es X.env:=by rfl) (b:(backTo pos (starEach es X.env)).any (·.1)=false:=by rfl):PE X (.Call (.Name x p) (e::es) [] pos) (dw r t):=by
 intro WZ s σ H Q I h;refine wpAny_Call_Name_kw (Tj I c hm hv ?_ hn a);exact BF (Y3 (ha pos WZ s σ H _ I h) λus s1 ⟨vs,H1,f,g,i⟩=>hc WZ s1 σ H1 vs us Q f g i) d b
end
end L2
open L2
namespace HT
def gZ:List Int->List Int->Bool
 | [],[]=>false
 | [],_::_=>true
 | _::_,[]=>false
 | x::xs,y::ys=>if x=y then gZ xs ys else decide (x<y)
section
open PySem.SeqAt
open PySem.AutoSeq1 (wpAny_loadPart')
open PySem.MeetsSeq PySem.MeetsSeq2 PySem.MeetsSeq3
end
section
variable {prog:WO}{w:WN}{A:WM}{E:WQ->WR->Prop}{s:WR}
def cat_tup {t b:WP}{vs ws:List WQ}{Q:WQ->WR->Prop}(l:IsTup s.heap t vs.toArray)(hb:IsTup s.heap b ws.toArray)(hv:vs≠[])
  (h1:ws=[]->Q (.ref t) s) (h2:ws≠[]->Q (.ref s.heap.objs.size) {s with heap:=s.heap.push {cls:=.type "tuple",data:=.seq (vs++ws).toArray}})
  (hsz:vs.length+ws.length<=sizeLine):wpAny (model prog w) A (binaryOp .Add (.ref t) (.ref b)) Q E s:=by
 obtain⟨⟨cls,dd,data,sl⟩,h,hc,n,hd⟩:=id l;obtain⟨⟨i,c,data2,d⟩,a,f,j,g⟩:=id hb;simp only at hc hd f g;subst hc hd f g;have e:vs.toArray++ws.toArray=(vs++ws).toArray:=by simp
 by_cases hw:ws=[]
 ·exact concat_meets ⟨_,h,FQ⟩ ⟨_,a,FQ⟩ noFill_tuple_add seq_tuple_add EN EJ (EB _ _)
   (tuple_addW1 t b vs.toArray ws.toArray n j dd c sl d (by simpa using hv) (by simp[hw])) ⟨h,a,h1 hw⟩
 ·refine concat_meets ⟨_,h,FQ⟩ ⟨_,a,FQ⟩ noFill_tuple_add seq_tuple_add EN EJ (EB _ _)
   (tuple_addW2 t b vs.toArray ws.toArray n j dd c sl d (by simpa using hv) (by simpa using hw) (by rw[List.size_toArray,List.size_toArray];exact hsz)) ⟨h,a,?_⟩
  rw[e];exact h2 hw
def sIx (n d:Nat):Option Int->Nat
 | none=>d
 | some v=>if v<0 then(v+(n:Int)).toNat else min v.toNat n
def sIx_nat (n d k:Nat):sIx n d (some (k:Int))=min k n:=by
 show(if (k:Int)<0 then((k:Int)+(n:Int)).toNat else min (k:Int).toNat n)=min k n;rw[XX (by omega),Int.toNat_natCast]
def nR (n d:Nat)(hd:d<=n)(o:Option Int):sIx n d o<=n:=by
 cases o with
 | none=>exact hd
 | some v=>
  show(if v<0 then(v+(n:Int)).toNat else min v.toNat n)<=n;by_cases hv:v<0
  ·rw[XY hv];omega
  ·rw[XX hv];exact Nat.min_le_right _ _
def jM (v:Int)(n d:Nat):(if v<0 then max (v+(n:Int)) 0 else min v (n:Int))=((sIx n d (some v):Nat):Int):=by
 show(if v<0 then max (v+(n:Int)) 0 else min v (n:Int))=(((if v<0 then(v+(n:Int)).toNat else min v.toNat n):Nat):Int);by_cases hv:v<0
 ·simp only[if_pos hv];omega
 ·simp only[if_neg hv];omega
def yH (lo hi:Option Int)(n:Nat):Builtin.Slice.sliceAdjust lo hi 1 (n:Int)=(((sIx n 0 lo:Nat):Int),((sIx n n hi:Nat):Int)):=by
 have h1:¬((1:Int)<0):=by omega
 unfold Builtin.Slice.sliceAdjust;simp only[h1,if_false];refine Prod.ext ?_ ?_
 ·cases lo with
  | none=>rfl
  | some v=>exact jM v n 0
 ·cases hi with
  | none=>rfl
  | some v=>exact jM v n n
def zU (i j:Nat):Builtin.Slice.slicePlaces (i:Int) (j:Int) 1=j-i:=by
 unfold Builtin.Slice.slicePlaces;have h1:(1:Int)>0:=by omega
 simp only[h1,if_true,Int.ediv_one]
 split<;>omega
def Iq {v:WQ}{o:Option Int}{Q:Option Int->WR->Prop}(p:IsPart v o)(h:Q o s):wpAny (model prog w) A (Builtin.Slice.slicePartIndex v) Q E s:=by
 cases p with
 | none=>exact slicePart_none h
 | int i t=>exact slicePart_int h
def Rk {sl:WP}{vl c:WQ}{lo hi:Option Int}{n:Nat}{Q:Int×Int×Nat->WR->Prop}(hs:s.heap.IsSliceOf sl vl c .none)(pl:IsPart vl lo)(d:IsPart c hi)
  (h:Q (((sIx n 0 lo:Nat):Int),1,sIx n n hi-sIx n 0 lo) s):wpAny (model prog w) A (Builtin.Slice.sliceApplied (.ref sl) (pure (n:Int))) Q E s:=by
 obtain⟨os,a,e,b⟩:=id hs;unfold Builtin.Slice.sliceApplied Builtin.Slice.sliceFields;refine XA (XA (wpAny_field a b (x:=vl) FQ (XA (wpAny_field a b (x:=c) FQ (XA (wpAny_field a b (x:=.none) FQ (XB ?_)))))));refine XA (slicePart_none ?_);show wpAny _ _ (if ((1:Int)==0)=true then _ else _) _ _ s;rw[XX (by decide)];refine XA (Iq pl (XA (Iq d (XA (XB ?_)))));show wpAny _ _ (match Builtin.Slice.sliceAdjust lo hi 1 (n:Int) with | (lo,hi)=>pure (lo,(1:Int),Builtin.Slice.slicePlaces lo hi 1)) _ _ s;rw[yH lo hi n];show wpAny _ _ (pure (((sIx n 0 lo:Nat):Int),(1:Int),Builtin.Slice.slicePlaces ((sIx n 0 lo:Nat):Int) ((sIx n n hi:Nat):Int) 1)) _ _ s;rw[zU];exact XB h
def vY (xs:Array WQ)(i k:Nat):((List.range k).filterMap λ(m:Nat)=>xs[((i:Int)+(m:Int)*1).toNat]?).toArray=((xs.toList.drop i).take k).toArray:=by
 have e:(λ(m:Nat)=>xs[((i:Int)+(m:Int)*1).toNat]?)=λm=>xs[i+m]?:=by
  funext m
  have:((i:Int)+(m:Int)*1).toNat=i+m:=by omega
  rw[this]
 rw[e];have:=pick_run xs i k;rw[List.filterMap_map] at this;have a:((λx=>xs[x]?)∘λx=>i+x)=λm=>xs[i+m]?:=rfl;rw[a] at this;rw[this]
def getItem_tuple_cut {t sl:WP}{a:Array WQ}{vl i:WQ}{lo hi:Option Int}{Q:WQ->WR->Prop}(c:IsTup s.heap t a)(hs:s.heap.IsSliceOf sl vl i .none)(pl:IsPart vl lo)(j:IsPart i hi)
  (hw:¬(sIx a.size 0 lo=0/\sIx a.size a.size hi=a.size))
  (h:Q (.ref s.heap.objs.size) {s with heap:=s.heap.push {cls:=.type "tuple",data:=.seq ((a.toList.drop (sIx a.size 0 lo)).take (sIx a.size a.size hi-sIx a.size 0 lo)).toArray}})
  (hsz:a.size<=sizeLine):wpAny (model prog w) A (getItem (.ref t) (.ref sl)) Q E s:=by
 have b:sizeOk (.seq ((a.toList.drop (sIx a.size 0 lo)).take (sIx a.size a.size hi-sIx a.size 0 lo)).toArray):=by
  show((a.toList.drop (sIx a.size 0 lo)).take (sIx a.size a.size hi-sIx a.size 0 lo)).toArray.size<=sizeLine;rw[XJ,YM,FL,Array.length_toList];omega
 have hj:sIx a.size a.size hi<=a.size:=nR _ _ (XE _) hi;obtain⟨os,d,e,l⟩:=id hs;have f:s.TypeIs (.ref sl) "slice":=⟨os,d,e⟩;unfold getItem
 try with_reducible refine wpAny_holding ?_
 first | refine XA (XB ?_) | skip
 refine XA (wpAny_sequenceKey c.typeIs (by decide) ?_);refine XA (wpAny_callSpecial?_slot (name:=Str.ofString "__getitem__") c.typeIs CF
  (wpAny_call_entry CF c.typeIs entry_tuple_getitem ?_ (args_tuple_getitem _ _)))
 show wpAny _ _ (Builtin.Tuple.tupleItemsOf (.ref t)>>=_) _ _ s;refine XA (tupleItemsOf_ c ?_);refine XA (wpAny_typeOf f ?_);rw[XY (by decide)];refine XA (Rk hs pl j ?_);have g:¬((((sIx a.size 0 lo:Nat):Int)==0&&(1:Int)==1&&(sIx a.size a.size hi-sIx a.size 0 lo)==a.size)=true):=by
  intro q;rw[CW,CW] at q;have n:((sIx a.size 0 lo:Nat):Int)=0:=eq_of_beq q.1.1;have o:sIx a.size a.size hi-sIx a.size 0 lo=a.size:=eq_of_beq q.2;exact hw ⟨by omega,by omega⟩
 show wpAny _ _ (if (((sIx a.size 0 lo:Nat):Int)==0&&(1:Int)==1&&(sIx a.size a.size hi-sIx a.size 0 lo)==a.size)=true then _ else _) _ _ s;rw[XX g,vY]
 first
  | exact XA (m:=Builtin.Tuple.tupleExact _) (wpAny_newObj_type (XB ⟨_,FQ,XB h⟩) b)
  | exact XA (m:=Builtin.Tuple.tupleExact _) (wpAny_newObj_type (XA (XB (XB ⟨_,FQ,XB h⟩))) b)
  | exact XA (XA (m:=Builtin.Tuple.tupleExact _) (wpAny_newObj_type (XB (XB ⟨_,FQ,XB h⟩)) b))
  | exact XA (XA (m:=Builtin.Tuple.tupleExact _) (wpAny_newObj_type (XB ⟨_,FQ,XB h⟩) b))
end
end HT
namespace L2
abbrev TO:=St->Hp->(Option Int->Hp->Prop)->Prop
def PO (X:Cx)(e:Option WW)(t:TO):Prop:=
 ∀(WZ:List (WP×Obj)) (s:WR) (σ:St) (H:Hp) (Q:Option Int->Hp->Prop),Zq X WZ σ H s->t σ H Q->
  wpAny (model X.prog X.w) X.A (evalPart e X.env) (λu s'=>∃o H',Zq X WZ σ H' s'/\IsPart u o/\Q o H') X.xe s
def rA:TO:=λ_ H Q=>Q none H
def iN (t:TE):TO:=λσ H Q=>t σ H λx H1=>∃i,x=.int i/\Q (some i) H1
section
variable {X:Cx}{e:WW}{te:TE}{lo hi:Option WW}{tl th:TO}{pos p2:Pos}
def qg:PO X none rA:=by
 intro WZ s σ H Q I h;rw[evalPart_none];exact XB ⟨none,H,I,.none,h⟩
def qf (h:PE X e te):PO X (some e) (iN te):=by
 intro WZ s σ H Q I hw;rw[evalPart_some];refine Y3 (h WZ s σ H _ I hw) λu s1 ⟨x,H1,a,b,c⟩=>?_;obtain⟨i,rfl,q⟩:=c;obtain⟨t,rfl⟩:=b;exact⟨some i,H1,a,.int i t,q⟩
def sY (X:Cx)(r:V->Option Int->Option Int->Hp->VK->Prop):Prop:=
 ∀(WZ:List (WP×Obj)) (s:WR) (σ:St) (H:Hp) (x:V) (v vl a:WQ) (lo hi:Option Int) (sl:WP) (Q:VK),Zq X WZ σ H s->Z9 x v->s.heap.IsSliceOf sl vl a .none->IsPart vl lo->IsPart a hi->r x lo hi H Q->
  ∃T id,typeLookup (.type T) "__getitem__"=pure (some (.builtin id))/\s.TypeIs v T/\wpAny (model X.prog X.w) X.A (getItem v (.ref sl)) (EP X WZ σ Q) X.xe s
def sY.or {r r':V->Option Int->Option Int->Hp->VK->Prop}(h:sY X r)(h':sY X r'):sY X (λx lo hi H Q=>r x lo hi H Q\/r' x lo hi H Q):=by
 intro WZ s σ H x v vl a lo hi sl Q I b hs pl c q
 rcases q with q | q
 ·exact h WZ s σ H x v vl a lo hi sl Q I b hs pl c q
 ·exact h' WZ s σ H x v vl a lo hi sl Q I b hs pl c q
def af (r:V->Option Int->Option Int->Hp->VK->Prop)(te:TE)(tl th:TO):TE:=λσ H Q=>te σ H λx H1=>tl σ H1 λl H2=>th σ H2 λu a=>r x l u a Q
def Aq {r:V->Option Int->Option Int->Hp->VK->Prop}(f:sY X r)(g:PE X e te)(i:PO X lo tl)(j:PO X hi th):PE X (.Subscript e (.Slice lo hi none p2) pos) (af r te tl th):=by
 intro WZ s σ H Q I h;refine Subscript_ (Y3 (g WZ s σ H _ I h) λv s1 ⟨x,H1,m,n,o⟩=>?_);refine wpAny_Slice (Y3 (i WZ s1 σ H1 _ m o) λvl s2 ⟨l,H2,p,pl,t⟩=>Y3 (j WZ s2 σ H2 _ p t) λc a ⟨u,d,y,z,B⟩=>?_);rw[evalPart_none];refine XB ?_;have C:Zq X WZ σ d {a with heap:=a.heap.push {cls:=.type "slice",data:=.fields #[vl,c,.none]}}:=y.kept (t':=a.toks) λb ob q=>XC _ q;obtain⟨T,id,D,E,G⟩:=f WZ {a with heap:=a.heap.push {cls:=.type "slice",data:=.fields #[vl,c,.none]}} σ d x v vl c l u a.heap.objs.size Q C n (Heap.IsSliceOf.new ..) pl z B;show wpAny (model X.prog X.w) X.A (subscriptTail e (.Slice lo hi none p2) v (.ref a.heap.objs.size)) (EP X WZ σ Q) X.xe {a with heap:=a.heap.push {cls:=.type "slice",data:=.fields #[vl,c,.none]}};exact tail_any (ops:=[.ref a.heap.objs.size,v]) E D G (by with_unfolding_all rfl)
def zj (xs:List V)(lo hi:Option Int):List V:=(xs.drop (HT.sIx xs.length 0 lo)).take (HT.sIx xs.length xs.length hi-HT.sIx xs.length 0 lo)
def Lx (xs:List V)(lo hi:Option Int):(zj xs lo hi).length<=xs.length:=by
 unfold zj;rw[YM,FL];omega
def dJ (K:WY):V->Option Int->Option Int->Hp->VK->Prop:=λx lo hi H Q=>∃a xs,x=.ref a/\Tw K H a xs/\
 ¬(HT.sIx xs.length 0 lo=0/\HT.sIx xs.length xs.length hi=xs.length)/\∀p,H p=none->Q (.ref p) (Yq H p (.tup (zj xs lo hi)))
def vq:sY X (dJ X.K):=by
 intro WZ s σ H x v vl g lo hi sl Q I e hs pl f h;obtain⟨a,xs,rfl,hx,hw,q⟩:=h
 cases e
 obtain⟨its,r,d,hz⟩:=I.tuple hx;have c:its.toArray.size=xs.length:=by rw[XJ];exact r.length.symm
 refine⟨"tuple",_,PyProof.Rows.slot_tuple_getitem.lookup,d.typeIs,?_⟩;refine HT.getItem_tuple_cut d hs pl f (by rw[c];exact hw) ?_ (by rw[c];exact hz);rw[c];refine⟨.ref s.heap.objs.size,_,I.laid (t':=s.toks) (o:=.tup (zj xs lo hi)) (λb ob q=>XC _ q) (XE _) ?_,FQ,q _ (I.hok.fresh (XE _))⟩;exact⟨XN (Lx xs lo hi) hz,_,(r.drop (HT.sIx xs.length 0 lo)).take (HT.sIx xs.length xs.length hi-HT.sIx xs.length 0 lo),IsTup.new _ _⟩
def g6 (K:WY):R2:=λx y H Q=>∃a b xs ys,x=.ref a/\y=.ref b/\Tw K H a xs/\Tw K H b ys/\xs≠[]/\xs.length+ys.length<=sizeLine/\
 (ys=[]->Q (.ref a) H)/\(ys≠[]->∀p,H p=none->Q (.ref p) (Yq H p (.tup (xs++ys))))
def Z5.nil_iff {xs:List V}{us:List WQ}(r:Z5 xs us):us=[]↔xs=[]:=by
 cases r with
 | nil=>simp
 | cons _ _=>simp
def qx:M4 X (binaryOp .Add) (g6 X.K):=by
 intro WZ s σ H x y v u Q I f g h;obtain⟨a,b,xs,ys,rfl,rfl,ha,hb,hx,hz,i,j⟩:=h
 cases f
 cases g
 obtain⟨its,d,l,_⟩:=I.tuple ha;obtain⟨e,c,p2,_⟩:=I.tuple hb;refine HT.cat_tup l p2 (λz=>hx (d.nil_iff.mp z)) (λz=>⟨.ref a,H,I,FQ,i (c.nil_iff.mp z)⟩) (λz=>?_) (by rw[<-d.length,<-c.length];exact hz);refine⟨.ref s.heap.objs.size,_,I.laid (t':=s.toks) (o:=.tup (xs++ys)) (λb ob q=>XC _ q) (XE _) ?_,FQ,j (λw=>z (c.nil_iff.mpr w)) _ (I.hok.fresh (XE _))⟩;exact⟨by rw[AY];exact hz,_,d.append c,IsTup.new _ _⟩
end
def uL (n:Nat)(i:Int):Option Nat:=if 0<=i then(if i<n then some i.toNat else none) else if-(n:Int)<=i then some (i+n).toNat else none
def Nr {α:Type}(xs:List α)(i:Int):Option α:=(uL xs.length i).bind λj=>xs[j]?
def j2 {n:Nat}{i:Int}{j:Nat}(h:uL n i=some j):seqIndex? i n=some j/\j<n/\ -(n:Int)<=i/\i<n:=by
 unfold uL at h;by_cases a:0<=i
 ·rw[XY a] at h;by_cases h1:i<n
  ·rw[XY h1] at h;have e:i.toNat=j:=YH h;exact⟨by rw[seqIndex_of a h1,e],by omega,by omega,h1⟩
  ·rw[XX h1] at h;cases h
 ·rw[XX a] at h;by_cases h1: -(n:Int)<=i
  ·rw[XY h1] at h;have e:(i+n).toNat=j:=YH h;exact⟨by rw[seqIndex_neg (by omega) h1,e],by omega,h1,by omega⟩
  ·rw[XX h1] at h;cases h
def Bt {α:Type}{xs:List α}{i:Int}{v:α}(h:Nr xs i=some v):∃j,seqIndex? i xs.length=some j/\xs[j]?=some v/\j<xs.length/\ -(xs.length:Int)<=i/\i<xs.length:=by
 unfold Nr at h
 cases e:uL xs.length i with
 | none=>rw[e] at h;cases h
 | some j=>
  rw[e] at h;obtain⟨h1,h2,a,b⟩:=j2 e;exact⟨j,h1,h,h2,a,b⟩
def X6 {α:Type}{xs:List α}{j:Nat}{v:α}(h:xs[j]?=some v):Nr xs (j:Int)=some v:=by
 have hj:j<xs.length:=(AZ.mp h).1;have e:uL xs.length (j:Int)=some j:=by
  unfold uL;rw[if_pos (by omega),if_pos (by omega)];simp
 unfold Nr;rw[e];exact h
def jV (b:WW):Prop:=∀o i,subscripted b false o i=operate [o,i] (getItem o i)
def sZ (X:Cx)(r:R2):Prop:=
 ∀(value a:WW) (WZ:List (WP×Obj)) (s:WR) (σ:St) (H:Hp) (x y:V) (v u:WQ) (Q:VK),Zq X WZ σ H s->Z9 x v->Z9 y u->r x y H Q->
  subscripted a false v u=operate [v,u] (getItem v u)->wpAny (model X.prog X.w) X.A (subscriptTail value a v u) (EP X WZ σ Q) X.xe s
def eg (X:Cx)(id:String)(r:V->List V->Hp->VK->Prop):Prop:=
 ∀(WZ:List (WP×Obj)) (s:WR) (σ:St) (H:Hp) (x:V) (xs:List V) (v:WQ) (us:List WQ) (Q:VK),Zq X WZ σ H s->Z9 x v->Z5 xs us->r x xs H Q->
  wpAny (model X.prog X.w) X.A (call (.builtin id) (v::us)) (EP X WZ σ Q) X.xe s
section
variable {X:Cx}{a b:WW}{ta tb:TE}{pos:Pos}
def sZ.or {r r':R2}(h:sZ X r)(h':sZ X r'):sZ X (λx y H Q=>r x y H Q\/r' x y H Q):=by
 intro value a WZ s σ H x y v u Q I b c q hs
 rcases q with q | q
 ·exact h value a WZ s σ H x y v u Q I b c q hs
 ·exact h' value a WZ s σ H x y v u Q I b c q hs
def gD {r:R2}(c:sZ X r)(ha:PE X a ta)(hb:PE X b tb)(hs:jV b):PE X (.Subscript a b pos) (nK r ta tb):=by
 intro WZ s σ H Q I h;exact Subscript_ (k4 ha hb I h λv u s2 x y H2 d e f q=>c a b WZ s2 σ H2 x y v u Q d e f q (hs _ _))
def gz (K:WY):R2:=λx y H Q=>∃p xs i v,x=.ref p/\y=.int i/\Vr K H p xs/\Nr xs i=some v/\Q v H
def gv (K:WY):R2:=λx y H Q=>∃p xs i v,x=.ref p/\y=.int i/\Tw K H p xs/\Nr xs i=some v/\Q v H
def gy:R2:=λx y H Q=>∃z i c,x=.str z/\y=.int i/\z.length<=sizeLine/\Nr z.cps.toList i=some c/\Q (.str ⟨#[c]⟩) H
def qQ:sZ X (gz X.K):=by
 intro value a WZ s σ H x y v u Q I e f h hs;obtain⟨p,xs,i,z,rfl,rfl,hq,g,q⟩:=h
 cases e
 obtain⟨t,rfl⟩:=f;obtain⟨its,r,pl,hz⟩:=I.list hq;obtain⟨j,h1,h2,o,l,m⟩:=Bt g;obtain⟨w,c,b⟩:=r.get h2;have n:=r.length;have hn:=Na;have fin:EP X WZ σ Q w s:=⟨z,H,I,b,q⟩;by_cases d:0<=i
 ·have hj:i.toNat=j:=by
   rw[seqIndex_of d m] at h1;exact YH h1
  exact item_listR pl.isList d (by omega) (by rw[hj];simpa using c) fin hs
 ·have hj:(i+(its.toArray.size:Int)).toNat=j:=by
   rw[seqIndex_neg (by omega) l] at h1;rw[XJ,<-n];exact YH h1
  exact subscriptTail_builtinR (x:=w) pl.isList.typeIs slot_list_getitem.lookup
   (wpAny_getItem_list_neg (Q:=λr s'=>r=w/\EP X WZ σ Q r s') pl.isList (by omega) (by rw[List.size_toArray]<;>omega) (by omega) (by rw[hj];simpa using c) ⟨FQ,fin⟩) hs
def lD:sZ X (gv X.K):=by
 intro value a WZ s σ H x y v u Q I c d h hs;obtain⟨p,xs,i,z,rfl,rfl,hq,e,q⟩:=h
 cases c
 obtain⟨t,rfl⟩:=d;obtain⟨its,r,pl,hz⟩:=I.tuple hq;obtain⟨j,h1,h2,l,m,n⟩:=Bt e;obtain⟨w,f,b⟩:=r.get h2;have g:=r.length;have hn:=Na;have fin:EP X WZ σ Q w s:=⟨z,H,I,b,q⟩;exact subscriptTail_builtinR (x:=w) pl.typeIs slot_tuple_getitem.lookup
  (getItem_tuple (j:=j) (Q:=λr s'=>r=w/\EP X WZ σ Q r s') pl (by omega) (by omega) (by rw[List.size_toArray,<-g];exact h1) (by simpa using f) ⟨FQ,fin⟩) hs
def lE:sZ X gy:=by
 intro value a WZ s σ H x y v u Q I b d h hs;obtain⟨z,i,c,rfl,rfl,hz,e,q⟩:=h;obtain⟨t,rfl⟩:=b;obtain⟨t',rfl⟩:=d;obtain⟨j,h1,h2,o,f,g⟩:=Bt e;have l:z.cps.toList.length=z.length:=by simp[Str.length]
 rw[l] at h1 f g;have hn:=Na;exact tail_any (typeIs_str s z t) slot_str_getitem.lookup (getItem_str (c:=c) (by
  have m:decide (i< -(2^63:Int))=false:=YG (by omega);have n:decide (i>=2^63)=false:=YG (by omega);rw[m,n,Bool.or_false]) (by rw[h1];simpa using h2) ⟨.str ⟨#[c]⟩,H,I.tok _,⟨_,FQ⟩,q⟩) hs
def aB (K:WY):R2:=λx y H Q=>gz K x y H Q\/gv K x y H Q\/gy x y H Q
def lG:sZ X (aB X.K):=qQ.or (lD.or lE)
def yc (its:List WQ)(n j:Nat)(u:WQ):Obj.mapSeq (·.setIfInBounds j u) {cls:=.type "list",data:=.seq its.toArray n}={cls:=.type "list",data:=.seq (its.set j u).toArray n}:=by
 simp[Obj.mapSeq]
def Zq.lst {WZ:List (WP×Obj)}{σ:St}{H:Hp}{s:WR}{p:WP}{xs:List V}(I:Zq X WZ σ H s)(h:H p=some (.lst xs)):
  ∃(its:List WQ) (n:Nat),Z5 xs its/\s.heap.get? p=some {cls:=.type "list",data:=.seq its.toArray n}/\xs.length<=sizeLine:=by
 obtain⟨z,its,n,r,e⟩:=I.hok p _ h;exact⟨its,n,r,e,z⟩
def Zq.lstUpd {WZ:List (WP×Obj)}{σ:St}{H:Hp}{s:WR}{p:WP}{xs ys:List V}{its its':List WQ}{n y:Nat}{f:Obj->Obj}(I:Zq X WZ σ H s)(h:H p=some (.lst xs))
  (G:s.heap.get? p=some {cls:=.type "list",data:=.seq its.toArray n}) (D:f {cls:=.type "list",data:=.seq its.toArray n}={cls:=.type "list",data:=.seq its'.toArray y}) (r:Z5 ys its') (hz:ys.length<=sizeLine) (t:Nat):
  Zq X WZ σ (Yq H p (.lst ys)) {s with heap:=s.heap.update p f,toks:=t}:=by
 have e:(s.heap.update p f).get? p=some {cls:=.type "list",data:=.seq its'.toArray y}:=by
  rw[DN f G (by rw[D]<;>rfl),D]
 refine I.write (x:=p) (e:=p) (by rw[h];trivial) (.inl FQ) (λb u hb q=>(DJ _ _ (Ne.symm hb)).trans q) ⟨_,e⟩ ?_;exact⟨hz,its',y,r,e⟩
def gq:V->V->V->Hp->(Hp->Prop)->Prop:=λo i v H Q=>∃p xs k j,o=.ref p/\i=.int k/\H p=some (.lst xs)/\uL xs.length k=some j/\Q (Yq H p (.lst (xs.set j v)))
def vw:kR X gq:=by
 intro WZ s σ H o i v ov w u Q I ro l m h;obtain⟨p,xs,k,j,rfl,rfl,c,hj,q⟩:=h
 cases ro
 obtain⟨t,rfl⟩:=l;obtain⟨its,n,r,a,hz⟩:=I.lst c;obtain⟨h1,h2,d,e⟩:=j2 hj;have b:=r.length;have hn:=Na;have f:Zq X WZ σ (Yq H p (.lst (xs.set j v))) {s with heap:=s.heap.update p (Obj.mapSeq (·.setIfInBounds j u))}:=
  I.lstUpd c a (yc its n j u) (r.set m j) (by rw[BP];exact hz) s.toks
 by_cases g:0<=k
 ·have hk:k.toNat=j:=by
   rw[seqIndex_of g e] at h1;exact YH h1
  exact W.ki_setAt a g (by omega) (by rw[XJ,<-b];exact e) (by rw[hk];exact⟨_,f,q⟩)
 ·have hk:(k+(its.toArray.size:Int)).toNat=j:=by
   rw[seqIndex_neg (by omega) d] at h1;rw[XJ,<-b];exact YH h1
  exact W.ki_setBack a (by omega) (by rw[XJ,<-b];exact d) (by omega) (by rw[hk];exact⟨_,f,q⟩)
def Dh (lo hi:Option Int)(n:Nat):(sliceBounds lo hi none n).1=((HT.sIx n 0 lo:Nat):Int)/\(sliceBounds lo hi none n).2.1=((HT.sIx n n hi:Nat):Int)/\(sliceBounds lo hi none n).2.2=1:=by
 refine⟨?_,?_,FQ⟩
 ·cases lo with
  | none=>simp[sliceBounds,HT.sIx]
  | some i=>
   simp only[sliceBounds,HT.sIx,Option.getD_none,show(1:Int)>0 by decide,if_true];by_cases h:i<0
   ·simp only[h,if_true]<;>omega
   ·simp only[h,if_false]<;>omega
 ·cases hi with
  | none=>simp[sliceBounds,HT.sIx]
  | some i=>
   simp only[sliceBounds,HT.sIx,Option.getD_none,show(1:Int)>0 by decide,if_true];by_cases h:i<0
   ·simp only[h,if_true]<;>omega
   ·simp only[h,if_false]<;>omega
def G5 (its:List WQ)(lo hi:Option Int):slicePick its.toArray lo hi none=((its.drop (HT.sIx its.length 0 lo)).take (HT.sIx its.length its.length hi-HT.sIx its.length 0 lo)).toArray:=by
 obtain⟨h1,h2,a⟩:=Dh lo hi its.toArray.size;unfold slicePick;rw[h1,h2,a];simp only[sliceRange_one,pick_run,List.size_toArray]<;>rfl
def dM (K:WY):V->Option Int->Option Int->Hp->VK->Prop:=λx lo hi H Q=>∃a xs,x=.ref a/\Vr K H a xs/\∀p,H p=none->Q (.ref p) (Yq H p (.lst (zj xs lo hi)))
def rG:sY X (dM X.K):=by
 intro WZ s σ H x v vl g lo hi sl Q I e hs pl f h;obtain⟨a,xs,rfl,hx,q⟩:=h
 cases e
 obtain⟨its,r,d,hz⟩:=I.list hx;have c:=r.length;refine⟨"list",_,slot_list_getitem.lookup,d.isList.typeIs,?_⟩;refine wpAny_getItem_list_slice d.isList hs pl f .none (by simp) ?_ (by rw[List.size_toArray]<;>omega);rw[G5,<-c];refine⟨.ref s.heap.objs.size,_,I.laid (t':=s.toks) (o:=.lst (zj xs lo hi)) (λb ob q=>XC _ q) (XE _) ?_,FQ,q _ (I.hok.fresh (XE _))⟩;exact⟨XN (Lx xs lo hi) hz,_,0,(r.drop (HT.sIx xs.length 0 lo)).take (HT.sIx xs.length xs.length hi-HT.sIx xs.length 0 lo),XF _ FQ⟩
def za:V->Bool
 | .non=>true
 | .bl _=>true
 | .int _=>true
 | .str _=>true
 | _=>false
def lZ:V->V->Bool
 | .non,.non=>true
 | .bl a,.bl b=>a==b
 | .bl a,.int b=>(if a then 1 else 0)==b
 | .int a,.bl b=>a==(if b then 1 else 0)
 | .int a,.int b=>a==b
 | .str a,.str b=>a==b
 | _,_=>false
def t9 {A:WM}{s:WR}{y x:V}{u v:WQ}(d:Z9 y u)(c:Z9 x v)(f:za y=true)(e:za x=true):SeqAt.EqAt A s u v (lZ y x):=by
 cases y with
 | non=>
  cases d
  cases x with
  | non=>cases c;exact SeqAt.EqAt.same _
  | bl b=>cases c;exact SeqAt.EqAt.none_bool b
  | int b=>obtain⟨t,rfl⟩:=c;exact SeqAt.EqAt.none_int b t
  | str b=>obtain⟨t,rfl⟩:=c;exact SeqAt.EqAt.none_str b t
  | _=>exact absurd (show false=true from e) YJ
 | bl a=>
  cases d
  cases x with
  | non=>cases c;exact SeqAt.EqAt.bool_none a
  | bl b=>cases c;exact SeqAt.EqAt.bool_bool a b
  | int b=>obtain⟨t,rfl⟩:=c;exact SeqAt.EqAt.bool_int a b t
  | str b=>obtain⟨t,rfl⟩:=c;exact SeqAt.EqAt.bool_str a b t
  | _=>exact absurd (show false=true from e) YJ
 | int a=>
  obtain⟨t',rfl⟩:=d
  cases x with
  | non=>cases c;exact SeqAt.EqAt.int_none a t'
  | bl b=>cases c;exact SeqAt.EqAt.int_bool a t' b
  | int b=>obtain⟨t,rfl⟩:=c;exact SeqAt.EqAt.int_int a t' b t
  | str b=>obtain⟨t,rfl⟩:=c;exact SeqAt.EqAt.int_str a t' b t
  | _=>exact absurd (show false=true from e) YJ
 | str a=>
  obtain⟨t',rfl⟩:=d
  cases x with
  | non=>cases c;exact SeqAt.EqAt.str_none a t'
  | bl b=>cases c;exact SeqAt.EqAt.str_bool a t' b
  | int b=>obtain⟨t,rfl⟩:=c;exact SeqAt.EqAt.str_int a t' b t
  | str b=>obtain⟨t,rfl⟩:=c;exact SeqAt.EqAt.str_str a t' b t
  | _=>exact absurd (show false=true from e) YJ
 | _=>exact absurd (show false=true from f) YJ
def Za1 (x:V)(u:WQ):Bool:=match u with
 | .none=>lZ .non x
 | .bool b=>lZ (.bl b) x
 | .int i _=>lZ (.int i) x
 | .str z _=>lZ (.str z) x
 | _=>false
def bM (x:V)(xs:List V):Bool:=xs.any λy=>lZ y x
def Zay (K:WY)(a:Bool):R2:=λx y H Q=>∃p xs,y=.ref p/\(Vr K H p xs\/Tw K H p xs)/\za x=true/\xs.all za=true/\Q (.bl (if a then !bM x xs else bM x xs)) H
def Bk:Vo X (.builtin "len") (λxs H Q=>∃p ys,xs=[.ref p]/\(Vr X.K H p ys\/Tw X.K H p ys)/\Q (.int ys.length) H):=by
 intro WZ s σ H xs us Q I r h;obtain⟨p,ys,rfl,hq,q⟩:=h;obtain⟨u,rfl,b⟩:=Rj r
 cases b
 have hn:=Na
 rcases hq with hq | hq
 ·obtain⟨its,r',pl,hz⟩:=I.list hq;have a:=r'.length;exact Calls.call_len_list pl.isList (by simp only[List.size_toArray]<;>omega) ⟨.int ys.length,H,I.tok _,⟨s.toks+1,by rw[List.size_toArray,a]⟩,q⟩
 ·obtain⟨its,r',pl,hz⟩:=I.tuple hq;have a:=r'.length;exact len_tuple pl (by simp only[List.size_toArray]<;>omega) ⟨.int ys.length,H,I.tok _,⟨s.toks+1,by rw[List.size_toArray,a]⟩,q⟩
def Bj:Vo X (.builtin "len") (λxs H Q=>∃z,xs=[.str z]/\z.length<=sizeLine/\Q (.int z.length) H):=by
 intro WZ s σ H xs us Q I r h;obtain⟨z,rfl,hz,q⟩:=h;obtain⟨u,rfl,t,rfl⟩:=Rj r;have hn:=Na;exact len_str (by omega) ⟨.int z.length,H,I.tok _,⟨_,FQ⟩,q⟩
def Vo.or {f:WQ}{r r':List V->Hp->VK->Prop}(h:Vo X f r)(h':Vo X f r'):Vo X f (λxs H Q=>r xs H Q\/r' xs H Q):=by
 intro WZ s σ H xs us Q I rs q
 rcases q with q | q
 ·exact h WZ s σ H xs us Q I rs q
 ·exact h' WZ s σ H xs us Q I rs q
def Bi:Vo X (.type "list") (λxs H Q=>∃p ys,xs=[.ref p]/\(Vr X.K H p ys\/Tw X.K H p ys)/\∀l,H l=none->Q (.ref l) (Yq H l (.lst ys))):=by
 intro WZ s σ H xs us Q I r h;obtain⟨p,ys,rfl,hq,q⟩:=h;obtain⟨u,rfl,f⟩:=Rj r
 cases f
 have fin:∀(its:List WQ),Z5 ys its->ys.length<=sizeLine->∀(h':WU) (a:Nat),(∀b o',s.heap.get? b=some o'->h'.get? b=some o')->
   h'.get? s.heap.objs.size=some {cls:=.type "list",dict:=none,data:=.seq its.toArray a,slots:=#[]}->EP X WZ σ Q (.ref s.heap.objs.size) {s with heap:=h'}:=λits r' hz h' a kp e=>
  ⟨.ref s.heap.objs.size,_,I.laid (t':=s.toks) kp (XE _) (show Y5 X.prog X.w _ h' _ (.lst ys) from⟨hz,its,a,r',e⟩),FQ,q _ (I.hok.fresh (XE _))⟩
 rcases hq with hq | hq
 ·obtain⟨its,r',pl,hz⟩:=I.list hq;have c:=r'.length;obtain⟨o,d,hc,n,hd⟩:=pl.isList;exact call_list_seq p (.inl FQ) d hc hd (λh' a kp e=>fin its r' hz h' a kp e) (by simp only[List.size_toArray]<;>omega)
 ·obtain⟨its,r',pl,hz⟩:=I.tuple hq;have c:=r'.length;obtain⟨o,d,hc,n,hd⟩:=pl;exact call_list_seq p (.inr FQ) d hc hd (λh' a kp e=>fin its r' hz h' a kp e) (by simp only[List.size_toArray]<;>omega)
def Fd:Vo X (.type "tuple") (λxs H Q=>∃p ys,xs=[.ref p]/\((Vr X.K H p ys/\∀l,H l=none->Q (.ref l) (Yq H l (.tup ys)))\/(Tw X.K H p ys/\Q (.ref p) H))):=by
 intro WZ s σ H xs us Q I r h;obtain⟨p,ys,rfl,h⟩:=h;obtain⟨u,rfl,d⟩:=Rj r
 cases d
 rcases h with⟨hq,q⟩ | ⟨hq,q⟩
 ·obtain⟨its,r',pl,hz⟩:=I.list hq;have a:=r'.length;refine call_tuple_list pl.isList (λh' kp=>?_) (by simp only[List.size_toArray]<;>omega);have c:Zq X WZ σ H {s with heap:=h'}:=I.kept (t':=s.toks) kp;have f:Zq X WZ σ (Yq H h'.objs.size (.tup ys)) {s with heap:=h'.push {cls:=.type "tuple",data:=.seq its.toArray}}:=
   c.laid (t':=s.toks) (λb o e=>XC _ e) (XE _) (show Y5 X.prog X.w _ _ _ (.tup ys) from⟨hz,its,r',IsTup.new _ _⟩)
  exact⟨.ref h'.objs.size,_,f,FQ,q _ (c.hok.fresh (XE _))⟩
 ·obtain⟨its,r',pl,hz⟩:=I.tuple hq;exact call_tuple_same pl ⟨.ref p,H,I,FQ,q⟩
def nE (K:WY)(T:String)(x:V)(H:Hp):Prop:=match x with
 | .str _=>T="str"
 | .int _=>T="int"
 | .ref p=>(T="list"/\∃xs,Vr K H p xs)\/(T="tuple"/\∃o,K.lookup p=some o/\o.cls=.type "tuple"/\o.dict=none)\/
   (T="dict"/\((∃kvs,H p=some (.dK kvs))\/∃kvs,H p=some (.dT kvs)))\/(T="set"/\∃S n,H p=some (.set S n))
 | _=>False
def vc {WZ:List (WP×Obj)}{σ:St}{H:Hp}{s:WR}{T:String}{x:V}{v:WQ}(I:Zq X WZ σ H s)(r:Z9 x v)(ty:nE X.K T x H):
  s.TypeIs v T/\∀a,v=.ref a->∃ob,s.heap.get? a=some ob/\ob.dict=none:=by
 cases x with
 | str z=>
  obtain⟨t,rfl⟩:=r
  cases (show T="str" from ty)
  exact⟨typeIs_str s z t,λ_ e=>nomatch e⟩
 | int i=>
  obtain⟨t,rfl⟩:=r
  cases (show T="int" from ty)
  exact⟨typeIs_int s i t,λ_ e=>nomatch e⟩
 | ref p=>
  cases r
  rcases ty with⟨rfl,xs,hq⟩ | ⟨rfl,o,hk,hc,hd⟩ | ⟨rfl,hk⟩ | ⟨rfl,S,n,hk⟩
  ·obtain⟨its,_,pl,_⟩:=I.list hq;refine⟨pl.isList.typeIs,λa e=>?_⟩
   cases e
   obtain⟨o,n,e,c,hd,_⟩:=pl;exact⟨o,e,hd⟩
  ·refine⟨⟨o,I.kIn p o hk,hc⟩,λa e=>?_⟩
   cases e
   exact⟨o,I.kIn _ o hk,hd⟩
  ·have z:∃o,s.heap.get? p=some o/\o.ExactDict:=by
    rcases hk with⟨kvs,hk⟩ | ⟨kvs,hk⟩
    ·obtain⟨_,_,_,_,o,_,_,e,ex,_⟩:=I.hok p _ hk;exact⟨o,e,ex⟩
    ·obtain⟨_,_,_,_,o,_,_,e,ex,_⟩:=I.hok p _ hk;exact⟨o,e,ex⟩
   obtain⟨o,e,ex⟩:=z;refine⟨⟨o,e,ex.1⟩,λa b=>?_⟩
   cases b
   exact⟨o,e,ex.2.1⟩
  ·obtain⟨o,_,_,_,e,ex,_⟩:=I.hok p _ hk;refine⟨⟨o,e,ex.1⟩,λa b=>?_⟩
   cases b
   exact⟨o,e,ex.2.1⟩
 | _=>exact False.elim ty
def dy (K:WY)(T:String)(r:V->List V->Hp->VK->Prop)(to:TE):TE:=λσ H Q=>to σ H λx H1=>nE K T x H1/\r x [] H1 Q
def ay (K:WY)(T:String)(r:V->List V->Hp->VK->Prop)(to:TE)(t:TA):TE:=λσ H Q=>to σ H λx H1=>nE K T x H1/\t σ H1 λxs H2=>r x xs H2 Q
variable {o e:WW}{es:List WW}{to:TE}{t:TA}{name:Str}{c_ f_:Pos}{T id:String}{r:V->List V->Hp->VK->Prop}
def mE (pa:PlainAttrs T)(slot:Slot T name id)(c:typeOf (.builtin id)=pure (.type "method_descriptor"))(hm:eg X id r)(f:PE X o to)
  (a:attributeBase o name X.env (eval o X.env)=eval o X.env:=by rfl) (b:(c_.endLine==f_.line)=true:=by rfl):PE X (.Call (.Attribute o name c_) [] [] f_) (dy X.K T r to):=by
 intro WZ s σ H Q I h;refine wpAny_Call_method0_late a b (Y3 (f WZ s σ H _ I h) λv s1 ⟨x,H1,d,e,ty,g⟩=>?_);obtain⟨h1,h2⟩:=vc d e ty;exact⟨T,id,pa,slot,c,h1,h2,EO FQ (PySem.evalArgs_none (hm WZ s1 σ H1 x [] v [] Q d e .nil g))⟩
def gF (pa:PlainAttrs T)(slot:Slot T name id)(f:typeOf (.builtin id)=pure (.type "method_descriptor"))(hm:eg X id r)(l:PE X o to)(ha:PA X (e::es) t)
  (b:attributeBase o name X.env (eval o X.env)=eval o X.env:=by rfl)
  (d:((backTo f_ (starEach (e::es) X.env)).all (λx=>!x.1)&&(backToKw f_ (keywordEach [] X.env)).all (λx=>x.1.isSome)
   &&decide ((e::es).length+([]:List Keyword).length+(if ([]:List Keyword).isEmpty then 0 else 1)<30))=true:=by rfl)
  (c:(c_.endLine==f_.line)=true:=by rfl) (hs:starEach (e::es) X.env=(false,eval e X.env)::starEach es X.env:=by rfl) (a:(backTo f_ (starEach es X.env)).any (·.1)=false:=by rfl):
  PE X (.Call (.Attribute o name c_) (e::es) [] f_) (ay X.K T r to t):=by
 intro WZ s σ H Q I h;refine wpAny_Call_method_late b d c FQ (Y3 (l WZ s σ H _ I h) λv s1 ⟨x,H1,g,i,ty,m⟩=>?_);obtain⟨h1,h2⟩:=vc g i ty;refine⟨T,id,pa,slot,f,h1,h2,?_⟩;have j:=ha f_ WZ s1 σ H1 _ g m;rw[hs] at j |-;refine EO (by show(false||(backTo f_ (starEach es X.env)).any (·.1))=false;rw[a]<;>rfl) (EU ?_);exact Y3 j λus s2 ⟨vs,H2,n,p,q⟩=>hm WZ s2 σ H2 x vs v us Q n i p q
end
def cY (X:Cx)(id:String)(r:V->List V->Hp->VK->Prop):Prop:=
 ∀(WZ:List (WP×Obj)) (s:WR) (σ:St) (H:Hp) (x:V) (xs:List V) (v:WQ) (us:List WQ) (Q:VK),Zq X WZ σ H s->Z9 x v->Z5 xs us->r x xs H Q->
  wpAny (model X.prog X.w) X.A (call (.builtin id) (v::us)) (EP X WZ σ Q) X.xe s
def Z5.one:∀{x:V} {us:List WQ},Z5 [x] us->∃u,us=[u]/\Z9 x u
 | _,_,.cons r .nil=>⟨_,FQ,r⟩
def Z5.two:∀{x y:V} {us:List WQ},Z5 [x,y] us->∃u v,us=[u,v]/\Z9 x u/\Z9 y v
 | _,_,_,.cons r (.cons q .nil)=>⟨_,_,FQ,r,q⟩
def Z5.zero:∀{us:List WQ},Z5 [] us->us=[]
 | _,.nil=>rfl
def Z5.dropLast {xs:List V}{us:List WQ}(h:Z5 xs us):Z5 xs.dropLast us.dropLast:=by
 induction h with
 | nil=>exact .nil
 | cons r t a=>
  cases t with
  | nil=>exact .nil
  | cons q t'=>exact .cons r a
def yu {α:Type}(l:List α):l.eraseIdx (l.length-1)=l.dropLast:=by
 induction l with
 | nil=>rfl
 | cons a r c=>
  cases r with
  | nil=>rfl
  | cons b r=>
   have e:(a::b::r).length-1=((b::r).length-1)+1:=by
    have h1:(a::b::r).length=r.length+2:=rfl;have h2:(b::r).length=r.length+1:=rfl;omega
   rw[e,List.eraseIdx_cons_succ,c]
   all_goals rfl
section
variable {X:Cx}{WZ:List (WP×Obj)}{σ:St}{H:Hp}{s:WR}{l b:WP}{xs ys zs:List V}
def Zq.lset {its its':List WQ}{n:Nat}{f:Array WQ->Array WQ}{t':Nat}(I:Zq X WZ σ H s)(y:H l=some (.lst xs))
  (e:s.heap.get? l=some {cls:=.type "list",data:=.seq its.toArray n}) (D:f its.toArray=its'.toArray) (hv:Z5 ys its') (hz:ys.length<=sizeLine):
  Zq X WZ σ (Yq H l (.lst ys)) {s with heap:=s.heap.update l (Obj.mapSeq f),toks:=t'}:=by
 have q:=PySem.IsL.update e f;rw[D] at q;refine I.write (x:=l) (e:=l) (by rw[y];exact trivial) (.inl FQ) (λb u hb a=>(DJ s.heap (Obj.mapSeq f) (Ne.symm hb)).trans a) ⟨_,q⟩ ?_;exact⟨hz,its',_,hv,q⟩
def Zq.lnew {its:List WQ}{t':Nat}(I:Zq X WZ σ H s)(hv:Z5 ys its)(hz:ys.length<=sizeLine):
  Zq X WZ σ (Yq H s.heap.objs.size (.lst ys)) {s with heap:=s.heap.push {cls:=.type "list",data:=.seq its.toArray},toks:=t'}:=
 I.laid (λ_ _ q=>XC _ q) (XE _) ⟨hz,its,0,hv,XF _ FQ⟩
def Zq.fresh (I:Zq X WZ σ H s):H s.heap.objs.size=none:=I.hok.fresh (XE _)
def Zq.lstM (I:Zq X WZ σ H s)(y:H l=some (.lst xs)):xs.length<=sizeLine/\∃(its:List WQ) (n:Nat),Z5 xs its/\xs.length=its.length/\s.heap.get? l=some {cls:=.type "list",data:=.seq its.toArray n}:=by
 obtain⟨z,its,n,r,e⟩:=I.hok l _ y;exact⟨z,its,n,r,r.length,e⟩
def ut {n:Nat}(h:n<=sizeLine):Builtin.List.listTooLong n=false:=by
 unfold Builtin.List.listTooLong;exact YG (by omega)
end
section
variable {X:Cx}
def rR:V->List V->Hp->VK->Prop:=λx vs H Q=>∃l xs y,x=.ref l/\vs=[y]/\H l=some (.lst xs)/\xs.length<sizeLine/\Q .non (Yq H l (.lst (xs++[y])))
def Eb:cY X "list.append" rR:=by
 intro WZ s σ H x vs v us Q I b c h;obtain⟨l,xs,y,rfl,rfl,a,hz,q⟩:=h
 cases b
 obtain⟨u,rfl,d⟩:=c.one;obtain⟨z,its,n,r,f,e⟩:=I.lstM a;refine call_meets F.slot_list_append ⟨_,e,FQ⟩ F.entry_list_append (F.args_list_append_2 _ _) (PySem.list_append l its.toArray n u (by rw[XJ];omega)) ⟨e,?_⟩;refine⟨.non,_,I.lset (its':=its++[u]) a e (by simp) (r.append (.cons d .nil)) ?_,FQ,q⟩;rw[AY,BC];omega
def rQ:V->List V->Hp->VK->Prop:=λx vs H Q=>∃l b xs zs,x=.ref l/\vs=[.ref b]/\H l=some (.lst xs)/\H b=some (.lst zs)/\xs.length+zs.length<=sizeLine/\Q .non (Yq H l (.lst (xs++zs)))
def xH:cY X "list.extend" rQ:=by
 intro WZ s σ H x vs v us Q I f g h;obtain⟨l,b,xs,zs,rfl,rfl,d,i,hz,q⟩:=h
 cases f
 obtain⟨u,rfl,j⟩:=g.one
 cases j
 obtain⟨z,its,n,r,w,e⟩:=I.lstM d;obtain⟨z2,a,m,o,p,t⟩:=I.lstM i;have hsz:its.toArray.size+a.toArray.size<=sizeLine:=by rw[XJ,XJ];omega
 have c:¬(!its.toArray.isEmpty&&Builtin.List.listTooLong (its.toArray.size+a.toArray.size))=true:=by
  rw[ut hsz,Bool.and_false];exact YJ
 refine call_meets F.slot_list_extend ⟨_,e,FQ⟩ F.entry_list_extend (F.args_list_extend_2 _ _)
  (AutoSeq1.list_extend_list_list_0 l its.toArray n b a.toArray m c (by rw[XJ];omega) (by omega)) ⟨e,t,?_⟩
 refine⟨.non,_,I.lset (its':=its++a) d e (by simp) (r.append o) ?_,FQ,q⟩;rw[AY];omega
def dN:V->List V->Hp->VK->Prop:=λx vs H Q=>∃l xs y,x=.ref l/\vs=[]/\H l=some (.lst xs)/\xs[xs.length-1]?=some y/\Q y (Yq H l (.lst xs.dropLast))
def mW:cY X "list.pop" dN:=by
 intro WZ s σ H x vs v us Q I d f h;obtain⟨l,xs,y,rfl,rfl,c,hy,q⟩:=h
 cases d
 have a:=f.zero;subst a;obtain⟨z,its,n,r,g,e⟩:=I.lstM c;obtain⟨u,i,j⟩:=r.get hy;have b:its.toArray[its.toArray.size-1]?=some u:=by
  show its.toArray[its.length-1]?=some u;rw[<-DP,<-g];exact i
 refine call_meets F.slot_list_pop ⟨_,e,FQ⟩ F.entry_list_pop (F.args_list_pop_1 _) (MeetsSeq.list_pop_last l its.toArray n u b (by rw[XJ];omega)) ⟨e,?_⟩;refine⟨y,_,I.lset (its':=its.dropLast) c e ?_ r.dropLast ?_,j,q⟩
 ·show its.toArray.eraseIdxIfInBounds (its.toArray.size-1)=its.dropLast.toArray;rw[XJ,List.eraseIdxIfInBounds_toArray,yu]
 ·rw[List.length_dropLast];omega
def dP:R2:=λx y H Q=>∃l b xs zs,x=.ref l/\y=.ref b/\H l=some (.lst xs)/\H b=some (.lst zs)/\xs.length+zs.length<=sizeLine/\∀p,H p=none->Q (.ref p) (Yq H p (.lst (xs++zs)))
def mP:M4 X (binaryOp .Add) dP:=by
 intro WZ s σ H x y v u Q I c d h;obtain⟨l,b,xs,zs,rfl,rfl,f,g,hz,q⟩:=h
 cases c
 cases d
 obtain⟨z,its,n,r,o,e⟩:=I.lstM f;obtain⟨z2,a,p,i,j,m⟩:=I.lstM g;refine PySem.P.add_list e m ?_ (by rw[XJ,XJ];omega);have ea:its.toArray++a.toArray=(its++a).toArray:=by simp
 rw[ea];exact⟨.ref _,_,I.lnew (t':=s.toks) (r.append i) (by rw[AY];omega),FQ,q _ I.fresh⟩
def aA:R2:=λx y H Q=>∃l k xs,x=.ref l/\y=.int k/\H l=some (.lst xs)/\ -(2^63)<=k/\k<2^63/\xs.length*k.toNat<=sizeLine/\
 ∀p,H p=none->Q (.ref p) (Yq H p (.lst (List.replicate k.toNat xs).flatten))
end
end L2
namespace Att
open PySem.W PySem.Calls
def Kf {P:Params}{h:WU}:∀(ns:List Int) (vs:List WQ),WellAll P h vs (ns.map WData.int)->IntsAre vs ns:=by
 intro ns
 induction ns with
 | nil=>
  intro vs w;rw[EV] at w
  cases w
  exact .nil
 | cons n ns c=>
  intro vs w;rw[YI] at w
  cases w with
  | cons a b=>
   cases a
   exact .cons _ _ (c _ b)
def xm {l:OpenLaw}{n:Nat}(hn:l.most=some n){P:Params}{h:WU}{args:List WData}{b:List WQ}
  (c:l.row.toRowW.claim.pre args=true) (j:WellAll P h b args):
  ∃a vs ns,b=[Value.ref a]/\args=[WData.list (ns.map WData.int)]/\h.get? a=some {cls:=.type "list",data:=.seq vs.toArray}/\IntsAre vs ns/\ns.length<=n:=by
 have m:WShape.hasAll [] args [.list .int]=true:=(pre_splitW c).1;have hc:l.pre.holds [] {args:=args}=true:=(pre_splitW c).2;obtain⟨d,r,rfl,h1,h2⟩:=hasAllW_cons m;obtain rfl:=hasAllW_nil h2;obtain⟨xs,rfl,o⟩:=hasW_list h1;obtain⟨ns,rfl⟩:=items_int o;have e:ns.length<=n:=by
  unfold OpenLaw.pre at hc;have g:(WTm.not (.lt (.lit (.int (n:Int))) (.len (.arg 0)))).holds [] {args:=[.list (ns.map .int)]}=true:=by
   have g:=(holds_andW hc).1;rw[hn] at g;exact g
  have i:=condW_of g (w_not (w_lt w_lit (w_len_list (w_arg FQ))));rw[XI] at i;refine Nat.le_of_not_lt λq=>?_;have p:(n:Int)<((ns.length:Nat):Int):=by omega
  first
   | (rw[decide_eq_true p] at i;exact absurd i (by decide))
   | (simp at i;omega)
 cases j with
 | cons s t=>
  cases t
  cases s with
  | list u f=>exact⟨_,_,ns,FQ,FQ,u,Kf ns _ f,e⟩
def xy (l:OpenLaw)(args:List WData):l.row.toRowW.claim.post args (.bool true) args=true:=
 postW_of (r:=l.row.toRowW) (X:=(true==true))
  (show WShape.has [] (.bool true) .bool=true by first | rfl | decide | simp[WShape.has,WShape.arms,WShape.armsAll])
  (show(WTm.eq .res (.lit (.bool true))).value [] {args:=args,res:=some (.bool true),after:=args}=some (.bool (true==true)) from w_eq_bool (w_res FQ) w_lit) FQ
def attach_call {l:OpenLaw}{n:Nat}{q:WO}{c:List Str}{v:(Str->Option WQ)->WU->Prop}{x:WN->WU->Prop}{d:DefRec}
  (hn:l.most=some n) (p:d.params.defaults=[])
  (call:∀(w:WN) (s₀ b:WR) (mg mb:Str->Option WQ) (g:WP) (o:Obj) (pm m doc:WQ) (a:WP) (vs:List WQ) (ns:List Int),
   Ground q c [] v w s₀ mg mb b.heap->x w b.heap->
   b.heap.get? g=some o->o.data=.func (docDef d.name d.params d.body d.scope pm m doc)->b.heap.CodeRec m d.name->mg d.name=some (.ref g)->
   b.heap.get? a=some {cls:=.type "list",data:=.seq vs.toArray}->IntsAre vs ns->ns.length<=n->b.gens=#[]->
   codeAny (model l.prog w) callerA (.call (.ref g) ⟨[.ref a],[]⟩) (λr s'=>r=.ok (.ret (.bool true))/\OldK b.heap s'.heap/\s'.os=b.os/\AllBare s'.gens) b):
  WalkO q c v x l.row.toRowW d [] (λf vs=>PySem.call f vs):=by
 intro w s₀ b mg mb G Y g o pm m doc dV kV B hd s y t C args z as h A D u E;obtain rfl:dV=.none:=Dflts.none y p;obtain rfl:kV=.none:=Dflts.noKw y;obtain⟨a,vs,ns,rfl,rfl,i,e,j⟩:=xm hn h u;refine enter_call (codeAny_mono (call w s₀ b mg mb g o pm m doc a vs ns G Y B (fd_plain hd) s t i e j C) λr s' hq=>?_);obtain⟨rfl,h2,H,I⟩:=hq;exact⟨.inl ⟨.bool true,.bool true,[],FQ,λ_=>rfl,.bool true,xy l _,λ_=>⟨List.Pairwise.nil,λ_ hm=>(nomatch hm)⟩⟩,h2,H,I⟩
section
variable {prog:WO}{w:WN}{A:WM}{E:WQ->WR->Prop}{s:WR}{K:Frag}
def dZ (h:WU)(L d:WP):List (WP×Obj):=(List.range h.objs.size).filterMap λa=>if a=L\/a=d then none else(h.get? a).map λo=>(a,o)
end
end Att
namespace L2
def Fo:∀{vs:List WQ} {ns:List Int},IntsAre vs ns->Z5 (ns.map V.int) vs
 | _,_,.nil=>.nil
 | _,_,.cons n t h=>.cons ⟨t,FQ⟩ (Fo h)
def sQ (H:Hp):Prop:=∀b,H b=none\/∃o xs,H b=some (.frz o (.lst xs))
set_option tactic.hygienic true in
def uH {P:WO}{w:WN}{K:WY}{mg mb:Str->Option WQ}{CX:Ko}{k:Nat}{C a:WP}{fd:VZ}{x:Str}{sp:Sp}{c:WR}{vs:List WQ}{ns:List Int}
  (L:K.In c.heap) (l:c.heap.Ns mainGlobals mg) (hb:c.heap.Ns builtinsNs mb) (D:∀x:Str,x≠"__name__"->mb x=bootBuiltins x) (p:c.heap.NoLimit) (hg:c.gens=#[])
  (ha:c.heap.get? a=some {cls:=.type "list",data:=.seq vs.toArray}) (hi:IntsAre vs ns) (N:ns.length<=sizeLine) (hr:Y8 k callerA)
  (F:∀base:WU,K.In base->base.Ns mainGlobals mg->Ww P w K mg base CX k C fd [x] sp) (j:∀(s:WR) (u:WQ),BindsTo s fd ⟨[u],[]⟩ [(x,u)])
  (E:∀H:Hp,sQ H->Vr K H a (ns.map V.int)->sp [.ref a] H (λv _=>v=.bl true) λ_ _ _=>False)
  (G:∀H e s',CX [] H c (λ_ _ _=>False) e s'->False):
  codeAny (model P w) callerA (.call (.ref C) ⟨[.ref a],[]⟩) (λr s'=>r=.ok (.ret (.bool true))/\OldK c.heap s'.heap/\s'.os=c.os/\AllBare s'.gens) c:=by
 have Q:=Fo hi;have t:=hi.length;have i:∀H:Hp,sQ H->Vr K H a (ns.map V.int)->Ux P w H c.heap->(∀b,H b≠none->b=a)->(H a≠none->K.lookup a=none)->
   codeAny (model P w) callerA (.call (.ref C) ⟨[.ref a],[]⟩) (λr s'=>r=.ok (.ret (.bool true))/\OldK c.heap s'.heap/\s'.os=c.os/\AllBare s'.gens) c:=by
  intro H U hS hok Y hK;have f:∀{b:WP} {o:Obj},c.heap.get? b=some o->H b=none->(Ck c.heap H).get? b=some o:=λe n=>uT e n;have I:∀{b:WP} {o:Obj} {es:Array DictEntry} {ep:Nat},c.heap.get? b=some o->o.data=.dict es ep->H b=none:=λ{b o es ep} e d=>by
   cases q:H b with
   | none=>rfl
   | some u=>
    have e':b=a:=Y b (by rw[q];simp);subst e';rw[ha] at e;cases e;have d':Data.seq vs.toArray _=Data.dict es ep:=d
    cases d'
  have g:∀{b:WP} {m:Str->Option WQ},c.heap.Ns b m->(Ck c.heap H).Ns b m:=λ{b m} ⟨o,es,ep,e,d,r⟩=>⟨o,es,ep,f e (I e d),d,r⟩;have y:K.In (Ck c.heap H):=λb o e=>f (L b o e) (by
   cases q:H b with
   | none=>rfl
   | some u=>
    have e':b=a:=Y b (by rw[q];simp);subst e';rw[hK (by rw[q];simp)] at e;cases e)
  have hM:Mod K mg (Ck c.heap H):=⟨y,g l,⟨mb,g hb,D⟩,let ⟨mc,h1,h2⟩:=p;⟨mc,g h1,h2⟩⟩;have e0:Fk P w K mg (Ck c.heap H) callerA [] c H:=⟨FQ,hM,λb o e=>qy e,Nat.le_of_eq (xS _ _),trivial,λb hb=>absurd (show b∈([]:List WP) from hb) (by simp),hok,.of_eq hg⟩;refine codeAny_mono ((F _ y (g l)).run callerA [] c H ⟨[.ref a],[]⟩ [.ref a] [.ref a] _ _ hr e0 (j c (.ref a)) (.cons FQ .nil) (E H U hS)) λr s' h=>?_
  cases r with
  | error e=>exact(G H e s' h).elim
  | ok fl=>
   cases fl with
   | next=>exact False.elim h
   | brk=>exact False.elim h
   | cont=>exact False.elim h
   | ret u=>
    obtain⟨v,H',os,bare,un,A,r',q⟩:=h;have q':v=.bl true:=q;subst q';obtain rfl:u=Value.bool true:=r';refine⟨FQ,OldK.of_keep λb o e=>?_,os,bare⟩
    cases q:H b with
    | none=>exact un.keep b o e q (by intro z;exact absurd (show b∈([]:List WP) from z) (by simp)) (by simp)
    | some u=>
     rcases U b with z | ⟨ob,xs,z⟩
     ·rw[q] at z;cases z
     ·have z2:=un.frzs b ob _ z;obtain⟨e1,_⟩:=hok b _ z;obtain⟨e2,_⟩:=A b _ z2;rw[e] at e1;cases e1;exact e2
 cases hk:K.lookup a with
 | some o=>
  have e:=L a o hk;rw[ha] at e
  cases e
  refine i (λ_=>none) (λ_=>.inl FQ) (.inr ⟨_,vs.toArray,_,hk,FQ,FQ,FQ,by rw[List.size_toArray,t];exact N,by simpa using Q⟩) (λb u z=>by have B:(none:Option HO)=some u:=z;cases B) (λb z=>absurd FQ z) λz=>absurd FQ z
 | none=>
  refine i (λb=>if b=a then some (.frz {cls:=.type "list",data:=.seq vs.toArray} (.lst (ns.map V.int))) else none) (λb=>?_) (.inl (.inr ⟨{cls:=.type "list",data:=.seq vs.toArray},XY FQ⟩)) (λb u z=>?_) (λb z=>?_) λ_=>hk
  ·by_cases hb:b=a
   ·exact .inr ⟨_,_,XY hb⟩
   ·exact .inl (XX hb)
  ·by_cases hb:b=a
   ·have B:=(XY hb).symm.trans z
    cases B
    subst hb;exact⟨ha,by rw[XI];exact N,vs,_,Q,ha⟩
   ·have B:=(XX hb).symm.trans z
    cases B
  ·by_cases hb:b=a
   ·exact hb
   ·exact absurd (XX hb) z
abbrev KOf {K:WY}{h:WU}(_:K.In h):WY:=K
def walk_of {l:W.OpenLaw}{n k:Nat}{q:WO}{i:List Str}{E:(Str->Option WQ)->WU->Prop}{C:WN->WU->Prop}{d:DefRec}{K:Params->WY}{CX:WN->Ko}{sp:WN->Sp}{x:Str}
  (hn:l.most=some n) (t:n<=sizeLine) (y:d.params.defaults=[]) (I:Y8 k callerA)
  (L:∀(w:WN) (h:WU),C w h->(K w.params).In h)
  (F:∀(w:WN) (mg:Str->Option WQ) (r:WP) (h:WU),(K w.params).In h->h.Ns mainGlobals mg->mg d.name=some (.ref r)->
   ∃fd:VZ,(∀(s:WR) (u:WQ),BindsTo s fd ⟨[u],[]⟩ [(x,u)])/\
    ∀base:WU,(K w.params).In base->base.Ns mainGlobals mg->Ww l.prog w (K w.params) mg base (CX w) k r fd [x] (sp w))
  (z:∀(w:WN) (H:Hp) (a:WP) (ns:List Int),ns.length<=n->sQ H->Vr (K w.params) H a (ns.map V.int)->sp w [.ref a] H (λv _=>v=.bl true) λ_ _ _=>False)
  (A:∀(w:WN) (H:Hp) (s:WR) (e:WQ) (s':WR),CX w [] H s (λ_ _ _=>False) e s'->False):
  W.WalkO q i E C l.row.toRowW d [] (λf vs=>PySem.call f vs):=by
 refine Att.attach_call hn y λw s₀ m mg mb r o pm cd doc a vs ns G Y ho hd N B p j c Q=>?_;have D:=L w _ Y;obtain⟨fd,hb,U⟩:=F w mg r _ D G.T.g B;exact uH D G.T.g G.T.b G.T.builtins G.T.nolimit Q p j (XN c t) I U hb (λH hO hS=>z w H a ns c hO hS) λH e s'=>A w H m e s'
def walk_ofK {l:W.OpenLaw}{n k:Nat}{q:WO}{b:List Str}{p:(Str->Option WQ)->WU->Prop}{m:WN->WU->Prop}{d:DefRec}{K:Params->WY}{CX:Ko}{sp:WY->Sp}{x:Str}
  (hn:l.most=some n) (c:n<=sizeLine) (g:d.params.defaults=[]) (r:Y8 k callerA)
  (t:∀(w:WN) (h:WU),m w h->(K w.params).In h)
  (F:∀(w:WN) (mg:Str->Option WQ) (o:WP) (h:WU),(K w.params).In h->h.Ns mainGlobals mg->mg d.name=some (.ref o)->
   ∃fd:VZ,(∀(s:WR) (u:WQ),BindsTo s fd ⟨[u],[]⟩ [(x,u)])/\
    ∀base:WU,(K w.params).In base->base.Ns mainGlobals mg->Ww l.prog w (K w.params) mg base CX k o fd [x] (sp (K w.params)))
  (i:∀(K:WY) (H:Hp) (a:WP) (ns:List Int),ns.length<=n->sQ H->Vr K H a (ns.map V.int)->sp K [.ref a] H (λv _=>v=.bl true) λ_ _ _=>False)
  (j:∀(H:Hp) (s:WR) (e:WQ) (s':WR),CX [] H s (λ_ _ _=>False) e s'->False):
  W.WalkO q b p m l.row.toRowW d [] (λf vs=>PySem.call f vs):=
 walk_of (K:=K) (CX:=λ_=>CX) (sp:=λw=>sp (K w.params)) hn c g r t F (λw H a ns h1 h2 y=>i (K w.params) H a ns h1 h2 y) λ_ H s e s'=>j H s e s'
def Qb (s:WV)(j:Nat):WV:=match s with
 | .ClassDef _ _ _ body _ _ _ _ _ _ _=>body.getD j (.Pass ⟨0,0,0,0⟩)
 | _=>.Pass ⟨0,0,0,0⟩
def Qg (s:WV):Arguments:=match s with
 | .FunctionDef _ a _ _ _ _ _ _ _ _=>a
 | _=>{posonlyargs:=[],args:=[],vararg:=none,kwonlyargs:=[],kw_defaults:=[],kwarg:=none,defaults:=[]}
def Y6 (s:WV):List WV:=match s with
 | .FunctionDef _ _ b _ _ _ _ _ _ _=>b
 | _=>[]
def Zj (s:WV):Scope:=match s with
 | .FunctionDef _ _ _ _ _ _ sc _ _ _=>sc
 | _=>{kind:=.function,names:=[],isGenerator:=false,isCoroutine:=false}
abbrev CX0:Ko:=λ_ _ _ _ _ _=>False
abbrev E0:XK:=λ_ _ _=>False
def Ja {X:Cx}:Uo CX0 X E0:=λ_ _ _ _ _ _ _ h=>h.elim
structure Kk (K:W.Frag)(x qual:Str)(st:Stmt)(f:Addr)(fd:FuncData):Prop where
 ex:∃(oc:WQ) (od:Option WP) (kV doc pm:WQ) (an:Option WP) (e_ ct:WQ) (osl:Array (Option WQ)),
  fd=W.fnOf x qual (Qg st) (Y6 st) (Zj st) .none kV doc pm an e_ ct/\K.lookup f=some ⟨oc,od,.func fd,osl⟩/\W.codeIn K e_ qual=true
 kp:W.keepIn K (.ref f)=true
section
variable {P:WO}{w:WN}{K:WY}{mg:Str->Option WQ}{base:WU}
def Kk.ok {x qual:Str}{st:WV}{f:WP}{fd:VZ}{N ps:List Str}{k:Nat}{sp:Sp}(F:Kk K x qual st f fd)(S:Zt N ps (Zj st))(len:∀vs H Q E,sp vs H Q E->vs.length=ps.length)
  (y:∀(e_:WQ) (A:WM) (outer:List Env) (s:WR) (H:Hp) (vs:List V) (Q:VK) (E:XK),Y8 k (A.deeper (envOfC qual (Zj st) s.heap.objs.size f e_))->sp vs H Q E->
   ∃t,Bz (Uc CX0 P w K mg base N qual (Zj st) f e_ A outer s H E).nox (Y6 st) t/\t {nx:=λ_ H'=>Q .non H',rt:=Q} (start N vs) H):Ww P w K mg base CX0 (k+1) f fd ps sp:=by
 obtain⟨oc,od,kV,doc,pm,an,e_,ct,osl,rfl,lk,a⟩:=F.ex;refine oR lk a S len λA outer s H vs Q E c b=>?_;obtain⟨t,h,q⟩:=y e_ A outer s H vs Q E c b;exact⟨t,h.nox,q⟩
def Kk.binds {x qual:Str}{st:WV}{f:WP}{fd:VZ}{ps:List Str}(F:Kk K x qual st f fd)
  (h:∀(kV doc pm:WQ) (an:Option WP) (e_ ct:WQ) (us:List WQ),us.length=ps.length->bindArgs (W.fnOf x qual (Qg st) (Y6 st) (Zj st) .none kV doc pm an e_ ct) ⟨us,[]⟩=pure (ps.zip us)):Xv K fd ps []:=by
 obtain⟨oc,od,kV,doc,pm,an,e_,ct,osl,rfl,lk,a⟩:=F.ex;exact .all (h kV doc pm an e_ ct)
def lR {x qual:Str}{st:WV}{f:WP}{oc:WQ}{od an:Option WP}{osl:Array (Option WQ)}{kV doc pm e_ ct:WQ}(l:K.lookup f=some ⟨oc,od,.func (W.fnOf x qual (Qg st) (Y6 st) (Zj st) .none kV doc pm an e_ ct),osl⟩)
  (c:W.codeIn K e_ qual=true) (k:W.keepIn K (.ref f)=true):Kk K x qual st f (W.fnOf x qual (Qg st) (Y6 st) (Zj st) .none kV doc pm an e_ ct):=⟨⟨oc,od,kV,doc,pm,an,e_,ct,osl,FQ,l,c⟩,k⟩
end
def Ft {n:Nat}(h:n<=1000):n<sizeLine:=EC h (by decide)
def Zah (H H':Hp):Prop:=∀b o,H b=some o->H' b=some o
section
variable {X:Cx}
def Nj (cap:List (Option Nat))(σ:St):St:=cap.map λo=>o.bind λi=>(σ[i]?).join
def Yg (X:Cx)(cN:List Str)(scope:Scope)(cl:List (Str×WP))(fp:List WP)(s:WR)(H:Hp):Cx:=
 {X with N:=cN,s₀:=s,H₀:=H,env:=compEnvC scope cl s.heap.objs.size X.env,outer:=X.stack,ex:=fp,fn:=λ_=>false,pn:=[],xe:=λ_ _=>False}
def yJ (X:Cx)(j':List WW)(c:TT):Prop:=
 ∀(WZ:List (WP×Obj)) (s:WR) (σ:St) (H:Hp) (Q:Bool->Hp->Prop),Zq X WZ σ H s->c σ H Q->
  wpAny (model X.prog X.w) X.A (forIn j' true λc r=>if r=true then do let ok <-isTrue c X.env (eval c X.env);pure (ForInStep.yield ok) else pure (ForInStep.yield r)) (TP X WZ σ Q) X.xe s
def iO:TT:=λ_ H Q=>Q true H
def qj:yJ X [] iO:=λ_ _ _ H _ I h=>wpAny_tests_nil ⟨H,I,h⟩
def qi {e:WW}{t:TT}(h:PT X e t):yJ X [e] t:=λWZ s σ H Q I q=>wpAny_tests_one (h WZ s σ H Q I q)
def Kb (js:List Nat)(g:TG):Prop:=∀x σ H Q,g x σ H Q->g x σ H λy_ H'=>Q y_ H'/\y_.length=σ.length/\∀i,i∉js->y_[i]?=σ[i]?
def B0 (js:List Nat)(g:z7):Prop:=∀x σ H Q,g x σ H Q->g x σ H λy_ H'=>Q y_ H'/\y_.length=σ.length/\∀i,i∉js->y_[i]?=σ[i]?
def Xc {i:Nat}:Kb [i] (Wd i):=λx σ H Q h=>⟨h,by simp,λj hj=>by
 rw[BW];intro e;exact hj (by simp[e])⟩
def yo:B0 [] yr:=λx σ H Q h=>⟨h.1,h.2,FQ,λ_ _=>rfl⟩
def Qh (g:TG):Prop:=∀x σ H (Q Q':St->Hp->Prop),(∀y_ H',Q y_ H'->Q' y_ H')->g x σ H Q->g x σ H Q'
def Mv (g:z7):Prop:=∀x σ H (Q Q':St->Hp->Prop),(∀y_ H',Q y_ H'->Q' y_ H')->g x σ H Q->g x σ H Q'
def Ye {i:Nat}:Qh (Wd i):=λx σ H Q Q' h q=>h _ _ q
def Ra:Mv yr:=λx σ H Q Q' h q=>⟨q.1,h _ _ q.2⟩
def Wm {g:TG}{u:z7}(a:Qh g)(b:Mv u):Mv (Pf g u):=λx σ H Q Q' h q=>by
 obtain⟨v,r,e,q⟩:=q;exact⟨v,r,e,a _ _ _ _ _ (λy_ H' z=>b _ _ _ _ _ h z) q⟩
def Qc {g:TG}{u:z7}{js ks:List Nat}(a:Kb js g)(c:Qh g)(b:B0 ks u)(bm:Mv u):B0 (js++ks) (Pf g u):=λx σ H Q q=>by
 obtain⟨v,r,e,q⟩:=q;refine⟨v,r,e,c _ _ _ _ _ (λy_ H' z=>?_) (a _ _ _ _ q)⟩;obtain⟨z,l1,k1⟩:=z;refine bm _ _ _ _ _ (λd H2 z2=>?_) (b _ _ _ _ z);obtain⟨z2,l2,k2⟩:=z2;exact⟨z2,l2.trans l1,λi hi=>(k2 i λz=>hi (XT _ z)).trans (k1 i λz=>hi (BK _ z))⟩
def yn {K:WY}{n:Nat}{u:z7}{js:List Nat}(b:B0 js u):Kb js (yq K n u):=λx σ H Q q=>by
 obtain⟨a,xs,e,hq,c,q⟩:=q;exact⟨a,xs,e,hq,c,b _ _ _ _ q⟩
def aq (cap:List (Option Nat))(g:TG)(c:TT)(te:TE)(σ:St)(Q:WP->Hp->Prop)(J:It)(H1:Hp):Prop:=∀p,H1 p=none->∃W:Nat->Nat->Hp->Prop,(∃m,W 0 m (Yq H1 p (.lst [])))/\∀i m H,W i m H->
 (J.stop i H/\Q p H)\/(J.go i H/\∃N:Hp->Prop,(∀H',N H'->∃d,d<m/\W (i+1) d H')/\∀x H',J.yld i H x H'->g x (Nj cap σ) H' λa H2=>c a H2 λb e=>
  if b=true then te a e λv f=>∃xs,f p=some (.lst xs)/\xs.length<sizeLine/\N (Yq f p (.lst (xs++[v]))) else N e)
def De (cap:List (Option Nat))(wi:TI)(g:TG)(c:TT)(te:TE):St->Hp->(WP->Hp->Prop)->Prop:=λσ H Q=>wi σ H λJ H1=>aq cap g c te σ Q J H1
structure No (X:Cx)(cN:List Str)(cap:List (Option Nat))(scope:Scope)(cl:List (Str×Addr)):Prop where
 clos:closureFor scope X.env=pure cl
 sub:∀n a,cl.lookup n=some a->X.env.cells.lookup n=some a
 cell:∀y∈scope.names,y.2≠.cell
 kind:scope.kind=.function
 names:∀x∈scope.names,x.2=.local->scope.names.lookup x.1=some .local
 len:cap.length=cN.length
 has:∀x,((relabel scope X.env).names.lookup x=some .cell\/(relabel scope X.env).names.lookup x=some .free)->∃a,cl.lookup x=some a
 capd:∀(i j:Nat) (x:Str),cap[i]?=some (some j)->cN[i]?=some x->X.N[j]?=some x/\eR X.env.scope x/\X.env.scope.names.lookup x≠some .local/\((relabel scope X.env).names.lookup x=some .cell\/(relabel scope X.env).names.lookup x=some .free)
def sr {cap:List (Option Nat)}{σ:St}:(Nj cap σ).length=cap.length:=XI _
def zo {cap:List (Option Nat)}{σ:St}{i:Nat}{v:V}(h:(Nj cap σ)[i]?=some (some v)):∃j,cap[i]?=some (some j)/\σ[j]?=some (some v):=by
 unfold Nj at h;rw[XM] at h
 cases e:cap[i]? with
 | none=>rw[e] at h;cases h
 | some o=>
  rw[e] at h
  cases o with
  | none=>cases h
  | some j=>
   refine⟨j,FQ,?_⟩;simp only[Option.map_some,Option.bind_some,Option.some.injEq] at h
   cases q:σ[j]? with
   | none=>rw[q] at h;cases h
   | some u=>rw[q] at h;simp only[Option.join_some] at h;rw[h]
def yB {cN:List Str}{cap:List (Option Nat)}{scope:Scope}{cl:List (Str×WP)}{fp:List WP}{WZ:List (WP×Obj)}{σ:St}{H:Hp}{s:WR}{h':WU}{m:Str->Option WQ}{tk:Nat}
  (C:No X cN cap scope cl) (I:Zq X WZ σ H s) (f:∀b∈fp,Mz X WZ H b) (t:∀b∈fp,b<s.heap.objs.size) (hn:h'.Ns s.heap.objs.size m) (k:∀b o,s.heap.get? b=some o->h'.get? b=some o):
  Zq (Yg X cN scope cl fp s H) [] (Nj cap σ) H {s with heap:=h',toks:=tk}:=by
 have d:∀b∈fp,b∉Yx X.stack:=λb hb z=>by
  rcases BB.mp (I.stkSub b z) with e | z
  ·exact(f b hb).2.1 e
  ·exact(f b hb).2.2.1 z
 have g:∀x c,cl.lookup x=some c->∃v,s.heap.IsCell c v:=λx c e=>I.cell x c (C.sub x c e);refine⟨⟨I.ok.mod,?_,I.ok.glob,I.ok.blt,XE _,λx y c w A=>I.ok.inj x y c (C.sub x c w) (C.sub y c A),C.has,λ_ _ z=>(nomatch z),I.ok.hd,I.ok.frames,.inl FQ,λb hb=>⟨XH (t b hb),λx c e=>(f b hb).2.2.2.2.1 x c (C.sub x c e)⟩,
   I.bs,Nat.le_trans I.ok.bsz I.sz,λb o e z=>?_,d,I.stack,I.stkFree⟩,FQ,I.bare,Un.kept k,⟨m,hn,λi x v h1 h2 Q=>?_⟩,λx c e=>?_,I.fresh,λx c e=>I.freeC x c (C.sub x c e),λp B=>absurd B (by simp[Yg]),I.hok.kept k,?_⟩
 ·exact C.kind
 ·rcases (f b z).2.2.2.1 with q | q
  ·exact I.ok.noex b o e q
  ·exact absurd (XG (XD (I.ok.bs b o e).1) q) (BH _)
 ·obtain⟨j,hj,h⟩:=zo h2;obtain⟨D,E,G,r⟩:=C.capd i j x hj h1;obtain⟨mo,L,l⟩:=I.loc;obtain⟨u,N,lk⟩:=l j x v D h E;refine⟨u,N,?_⟩
  rcases lk with⟨k1,_⟩ | ⟨_,c,e,z⟩
  ·exact absurd k1 G
  ·obtain⟨a,ha⟩:=C.has x r;have ea:=C.sub x a ha;rw[e] at ea;cases ea;obtain⟨o,n,hd⟩:=z;exact .inr ⟨r,c,ha,⟨o,k _ _ n,hd⟩⟩
 ·obtain⟨v,o,n,hd⟩:=g x c e;exact⟨v,o,k _ _ n,hd⟩
 ·show(Nj cap σ).length=cN.length;rw[sr,C.len]
def zk {cN:List Str}{scope:Scope}{cl:List (Str×WP)}{fp:List WP}{WZ a:List (WP×Obj)}{σ y_:St}{H H':Hp}{s s':WR}{h':WU}
  (I:Zq X WZ σ H s) (f:∀b∈fp,Mz X WZ H b) (J:Zq (Yg X cN scope cl fp s H) a y_ H' s') (sb:Heap.SameBut s.heap.objs.size s'.heap h'):Zq X WZ σ H' {s' with heap:=h'}:=by
 have ne:∀b o,s.heap.get? b=some o->b≠s.heap.objs.size:=λb o e=>XH (XD e);have B:Un (Yx X.stack) fp H H' s.heap s'.heap:=J.base;refine I.call' (s':={s' with heap:=h'}) (ch:=fp) J.os ⟨λb o e n hb hx=>?_,λb o e n hb hx=>?_,B.free,λb o e hx=>?_,B.tups,B.frzs,B.tbls⟩ (λb o e=>?_) J.bare λb hb=>?_
 ·exact(sb.2 b (ne b o e)).trans (B.keep b o e n hb hx)
 ·obtain⟨sl,q⟩:=B.slot b o e n hb hx;exact⟨sl,(sb.2 b (ne b o e)).trans q⟩
 ·obtain⟨o',q⟩:=B.there b o e hx;exact⟨o',(sb.2 b (ne b o e)).trans q⟩
 ·have d:H' s.heap.objs.size=none:=J.free;refine(J.hok b o e).stay (λc w' hc q=>(sb.2 c ?_).trans q) (λ_ q=>q) λ_ _ q=>q;rintro rfl
  rcases hc with rfl | hc
  ·rw[d] at e;cases e
  ·rw[d] at hc;cases hc
 ·obtain⟨f0,f1,f2,g,h,i⟩:=f b hb;exact⟨g,f1,h,i⟩
def Rs {α:Type}{t:Sem α}{Q:α->WR->Prop}{M:Model}{A:WM}{E:WQ->WR->Prop}{s:WR}(h:wpAny M A t Q (λ_ _=>False) s):wpAny M A t Q E s:=wpAny_mono h (λ_ _ q=>q) λ_ _ f=>f.elim
set_option tactic.hygienic true in
def xY {tg iter g_:WW}{j':List WW}{scope:Scope}{pos:Pos}{cN:List Str}{cap:List (Option Nat)}{cl:List (Str×WP)}{js:List Nat}{g:TG}{c:TT}{te:TE}{fp:List WP}{it D:WP}{tn:Nat->WU->Prop}{J:It}
  {σ:St} {H:Hp} {s s':WR} {Q:WP->Hp->Prop} {R:Result->WR->Prop} {H₀:Hp} (X:Cx)
  (hc:X.calm=true) (hg:PG (Yg X cN scope cl fp s H₀) tg g) (gm:Qh g) (gk:Kb js g) (A_:∀j∈js,(cap[j]?).join=none) (ht:yJ (Yg X cN scope cl fp s H₀) j' c) (tm:∀σ H (Q Q':Bool->Hp->Prop),(∀b H',Q b H'->Q' b H')->c σ H Q->c σ H Q') (he:PE (Yg X cN scope cl fp s H₀) g_ te)
  (T:yI X.prog X.w X.K tg J fp it tn) (W:Nat->Nat->Hp->Prop)
  (E:∀i m H,W i m H->(J.stop i H/\Q D H)\/(J.go i H/\∃N:Hp->Prop,(∀H',N H'->∃m',m'<m/\W (i+1) m' H')/\∀x H',J.yld i H x H'->g x (Nj cap σ) H' λG H2=>c G H2 λb t=>
   if b=true then te G t λv H4=>∃xs,H4 D=some (.lst xs)/\xs.length<sizeLine/\N (Yq H4 D (.lst (xs++[v]))) else N t))
  (m:Nat) (w0:W 0 m H) (I:Zq (Yg X cN scope cl fp s H₀) [] (Nj cap σ) H s') (st:tn 0 s'.heap) (f:∀b∈fp,Mz (Yg X cN scope cl fp s H₀) [] H b)
  (hR:∀y_ H' s',Zq (Yg X cN scope cl fp s H₀) [] y_ H' s'->Q D H'->R (.ok .next) s'):
  codeAny (model X.prog X.w) X.A (.compLoop (.ListComp g_ [⟨tg,iter,j',0⟩] scope pos) 0 (.ref it) (.ref D) (Yg X cN scope cl fp s H₀).env) R s':=by
 have a:∀{H':Hp},(∀b∈fp,H' b=none)->∀b∈fp,Mz (Yg X cN scope cl fp s H₀) [] H' b:=λhn b hb=>⟨hn b hb,(f b hb).2⟩;refine codeAny_loop FQ (λn s'=>∃i H',Zq (Yg X cN scope cl fp s H₀) [] (Nj cap σ) H' s'/\tn i s'.heap/\(∀b∈fp,H' b=none)/\W i n H') ?_ m ⟨0,H,I,st,λb hb=>(f b hb).1,w0⟩;rintro n s3 ⟨i,t,I3,L,U,w3⟩;show wpAny _ X.A ((compTurn (.ListComp g_ [⟨tg,iter,j',0⟩] scope pos) 0 (.ref it) (.ref D) (Yg X cN scope cl fp s H₀).env).onRaise (λx=>do noteFrame x (Yg X cN scope cl fp s H₀).env;theTreesLotGoes x)) _ _ s3;refine wpAny_noted (Rs ?_);rw[compTurn_list];refine XA (wpAny_standAt (XA ?_))
 rcases E i n t w3 with⟨stop,qn⟩ | ⟨go,N,hN,step⟩
 ·refine Y3 (T.done (Yg X cN scope cl fp s H₀) FQ FQ FQ hc i [] s3 _ t _ I3 (a U) L stop) λr s4 ⟨hr,I4⟩=>?_;subst hr;exact XB (hR _ _ _ I4 qn)
 ·refine Y3 (T.item (Yg X cN scope cl fp s H₀) FQ FQ FQ hc i [] s3 _ t _ I3 (a U) L go) λr s4 ⟨u,hr,h4⟩=>?_;subst hr;refine XA (Y3 h4 λ_ s5 ⟨x,H5,I5,r5,y5,p,B_⟩=>?_);have C_:=I5.pinned (a B_) (T.obj _ _ p);refine XA (Y3 (hg _ s5 _ H5 x u _ C_ r5 (gk _ _ _ _ (step x H5 y5))) λ_ s6 ⟨h,H6,I6,q6,l6,k6⟩=>?_);have l:∀{q:Hp} {B:WR},Zq (Yg X cN scope cl fp s H₀) ([]++Iz fp s5.heap) h q B->N q->∃m,m<n/\∃i H',Zq (Yg X cN scope cl fp s H₀) [] (Nj cap σ) H' B/\tn i B.heap/\(∀b∈fp,H' b=none)/\W i m H':=λ{q B} C n7=>by
   obtain⟨m',hm,w7⟩:=hN q n7;refine⟨m',hm,i+1,q,C.unpinned.weak l6.symm λj v hj=>?_,T.keep _ _ _ p λb hb o e=>(C.pin (b,o) (XT _ (XT _ (Qa hb e)))).1,λb hb=>?_,w7⟩
   ·by_cases Y:j∈js
    ·obtain⟨z,hz,_⟩:=zo hj;have:=A_ j Y;rw[hz] at this;cases this
    ·rw[k6 j Y];exact hj
   ·obtain⟨o,e,d⟩:=T.obj _ _ p b hb;exact(C.pin (b,o) (XT _ (XT _ (Qa hb e)))).2.1
  refine XA (Y3 (ht _ s6 h H6 _ I6 q6) λb B ⟨q,C,q7⟩=>?_)
  cases b with
  | false=>
   rw[XX YJ] at q7;exact XB ⟨FQ,l C q7⟩
  | true=>
   rw[XY rfl] at q7;refine XA (XA (Y3 (he _ B h q _ C q7) λy s8 ⟨v,H8,I8,r8,xs,e8,z8,n8⟩=>?_));refine XA (Y3 (Eb _ s8 h H8 (.ref D) [v] (.ref D) [y] (λ_ H9=>N H9) I8 FQ (.cons r8 .nil) ⟨D,xs,v,FQ,FQ,e8,z8,n8⟩) λ_ s9 ⟨_,H9,I9,_,q9⟩=>?_);exact XB (XB ⟨FQ,l I9 q9⟩)
section
variable {X:Cx}{tg iter g_:WW}{j':List WW}{scope:Scope}{pos:Pos}{cN:List Str}{cap:List (Option Nat)}{cl:List (Str×WP)}{js:List Nat}{wi:TI}{g:TG}{c:TT}{te:TE}
structure zz (X:Cx)(tg iter g_:Expr)(j':List Expr)(scope:Scope)(cN:List Str)(cap:List (Option Nat))(cl:List (Str×Addr))(js:List Nat)(wi:TI)(g:TG)(c:TT)(te:TE):Prop where
 calm:X.calm=true
 ok:X.Ok->No X cN cap scope cl
 it:PI X tg iter wi
 tgt:∀fp s H,PG (Yg X cN scope cl fp s H) tg g
 gm:Qh g
 gk:Kb js g
 js0:∀j∈js,(cap[j]?).join=none
 ts:∀fp s H,yJ (Yg X cN scope cl fp s H) j' c
 tm:∀σ H (Q Q':Bool->Hp->Prop),(∀b H',Q b H'->Q' b H')->c σ H Q->c σ H Q'
 el:∀fp s H,PE (Yg X cN scope cl fp s H) g_ te
 fold:∀x,foldedSetIterable iter X.env x=pure x
set_option tactic.hygienic true in
def Gh {WZ:List (WP×Obj)}{σ:St}{H:Hp}{s:WR}{Q:WP->Hp->Prop}{RR:WQ->WP->Result->WR->Prop}(C:zz X tg iter g_ j' scope cN cap cl js wi g c te)(I:Zq X WZ σ H s)(h:De cap wi g c te σ H Q)
  (A_:∀(D:WP) (fp:List WP) (i:WR) (H3:Hp) (y_:St) (H':Hp) (s':WR),Zq X WZ σ H3 i->(∀b∈fp,Mz X WZ H3 b)->Zq (Yg X cN scope cl fp i H3) [] y_ H' s'->Q D H'->RR (.ref D) i.heap.objs.size (.ok .next) s'):
  wpAny (model X.prog X.w) X.A (eval iter X.env) (λx r=>wpAny (model X.prog X.w) X.A (pyIter x) (λit t=>wpAny (model X.prog X.w) X.A (newList []) (λu B=>
   wpAny (model X.prog X.w) X.A (newFunctionEnv scope X.env.globals cl [] X.env.qual none .none (some X.env)) (λj E=>
    codeAny (model X.prog X.w) X.A (.compStart (.ListComp g_ [⟨tg,iter,j',0⟩] scope pos) 0 it u {j with scope:=relabel scope X.env}) (RR u j.locals) E) X.xe B) X.xe t) X.xe r) X.xe s:=by
 refine Y3 (C.it WZ s σ H _ I h) λv s1 h1=>Y3 h1 λB_ s2 h2=>?_;obtain⟨it,fp,tn,J,H2,e,I2,T,G,f2,R2⟩:=h2;subst e;obtain⟨W,⟨m,w0⟩,L⟩:=R2 s2.heap.objs.size I2.fresh;have I3:Zq X WZ σ (Yq H2 s2.heap.objs.size (.lst [])) {s2 with heap:=s2.heap.push {cls:=.type "list",data:=.seq ([]:List WQ).toArray},toks:=s2.toks}:=I2.lnew (ys:=[]) (its:=[]) .nil (XO _);have fl:∀b∈fp,b<s2.heap.objs.size:=λb hb=>by
  obtain⟨o,e,_⟩:=T.obj _ _ G b hb;exact XD e
 have f3:∀b∈fp,Mz X WZ (Yq H2 s2.heap.objs.size (.lst [])) b:=λb hb=>⟨by rw[Z0 (XH (fl b hb))];exact(f2 b hb).1,(f2 b hb).2⟩;refine wpAny_newObj_type (wpAny_newFunctionEnv (C.ok I.ok).cell (by intro y hy;simp at hy) (λf a d=>?_) (C.ok I.ok).kind);dsimp only at a d |-;generalize N:({s2 with heap:=s2.heap.push {cls:=.type "list",data:=.seq ([]:List WQ).toArray},toks:=s2.toks}:WR)=i at I3;have n:i.heap=s2.heap.push {cls:=.type "list",data:=.seq ([]:List WQ).toArray}:=by rw[<-N]
 rw[<-n] at a d |-;have U:∀b∈fp,b<i.heap.objs.size:=λb hb=>by rw[n,CC];exact CI (fl b hb)
 have k1:∀b o,i.heap.get? b=some o->f.get? b=some o:=λb o e=>(d.2 b (XH (XD e))).trans (XC _ e);have I4:=yB (tk:=s2.toks+([]:List (Str×WQ)).length) (C.ok I.ok) I3 f3 U a k1;have e4:({i with heap:=f,toks:=s2.toks+([]:List (Str×WQ)).length}:WR)={s2 with heap:=f,toks:=s2.toks+([]:List (Str×WQ)).length}:=by rw[<-N]
 rw[e4] at I4;have Y:tn 0 f:=T.keep _ _ _ G λb hb o e=>k1 b o (by rw[n];exact XC _ e);have f4:∀b∈fp,Mz (Yg X cN scope cl fp i (Yq H2 s2.heap.objs.size (.lst []))) [] (Yq H2 s2.heap.objs.size (.lst [])) b:=λb hb=>by
  obtain⟨g0,g1,g2,g3,g4,g5⟩:=f3 b hb;refine⟨g0,Nat.ne_of_lt (U b hb),λz=>?_,.inl hb,λx c e=>g4 x c ((C.ok I.ok).sub x c e),λp hp=>absurd hp (by simp[Yg])⟩
  rcases BB.mp (I3.stkSub b z) with e | z
  ·exact g1 e
  ·exact g2 z
 have l:codeAny (model X.prog X.w) X.A (.compLoop (.ListComp g_ [⟨tg,iter,j',0⟩] scope pos) 0 (.ref it) (.ref s2.heap.objs.size) (Yg X cN scope cl fp i (Yq H2 s2.heap.objs.size (.lst []))).env) (RR (.ref s2.heap.objs.size) i.heap.objs.size)
   {s2 with heap:=f,toks:=s2.toks+([]:List (Str×WQ)).length}:=
  xY X C.calm (C.tgt _ _ _) C.gm C.gk C.js0 (C.ts _ _ _) C.tm (C.el _ _ _) T W L m w0 I4 Y f4 λy_ H' s' I' q=>A_ _ fp i _ y_ H' s' I3 f3 I' q
 exact codeAny_compStart_list l (T.self _ 0 _ _ _ Y l)
def h7 (cap:List (Option Nat))(wi:TI)(g:TG)(c:TT)(te:TE):TE:=λσ H Q=>De cap wi g c te σ H λp H'=>Q (.ref p) H'
def qp (C:zz X tg iter g_ j' scope cN cap cl js wi g c te):PE X (.ListComp g_ [⟨tg,iter,j',0⟩] scope pos) (h7 cap wi g c te):=by
 intro WZ s σ H Q I h;rw[eval_ListComp];refine wpAny_comprehension_free (use:=none) FQ C.fold (C.ok I.ok).clos (C.ok I.ok).kind (C.ok I.ok).names (Gh (RR:=λa C'=>compPost (model X.prog X.w) X.A X.xe none (EP X WZ σ Q) a C') C I h ?_);intro D fp e f y_ H' s' b d J q;obtain⟨m,hn,_⟩:=J.loc;exact⟨m,hn,λh' sb=>⟨.ref D,H',zk b d J sb,FQ,q⟩⟩
def vi (i:Nat)(cap:List (Option Nat))(wi:TI)(g:TG)(c:TT)(te:TE):TS:=λD σ H=>De cap wi g c te σ H λp H'=>D.nx (σ.set i (some (.ref p))) H'
set_option tactic.hygienic true in
def zT {i:Nat}{y:Str}{j f:Pos}(L:X.N.Nodup)(hi:X.N[i]?=some y)(hy:X.env.scope.names.lookup y=some .local)
  (t:swapsWith (.ListComp g_ [⟨tg,iter,j',0⟩] scope pos) (some (.Name y j)) f.line X.env=pure true)
  (C:zz X tg iter g_ j' scope cN cap cl js wi g c te):PS X (.Assign [.Name y j] (.ListComp g_ [⟨tg,iter,j',0⟩] scope pos) f) (vi i cap wi g c te):=by
 intro WZ s σ H D I h;rw[exec_Assign_Name_used _ _ _ _ t];refine XA (wpAny_standAt (XA ?_));show wpAny _ X.A (do let _ <-comprehension (.ListComp g_ [⟨tg,iter,j',0⟩] scope pos) scope X.env _ (newList []) false (eval iter X.env) (some (assign (.Name y j) X.env))) _ _ s;refine XA (wpAny_mono (wpAny_comprehension_free (use:=some (assign (.Name y j) X.env)) (Q:=λ_ s'=>SP X WZ D .next s') FQ C.fold (C.ok I.ok).clos (C.ok I.ok).kind (C.ok I.ok).names
  (Gh (RR:=λu C'=>compPost (model X.prog X.w) X.A X.xe (some (assign (.Name y j) X.env)) (λ_ s'=>SP X WZ D .next s') u C') C I h ?_)) (λ_ s' hq=>XB (XB hq)) λ_ _ e=>e)
 intro D' fp r H3 y_ H' s' l U J q;obtain⟨m,hn,_⟩:=id J.loc;have Y:Zq X WZ σ H' s':=zk l U J (Heap.SameBut.refl ..);show wpAny _ X.A (assign (.Name y j) X.env (.ref D')) _ _ _;refine wpAny_assign_Name (Fs (v:=.ref D') Y L hi (.inl hy) FQ (λs5 I5 B=>?_) (.inr hy));obtain⟨a,sb,ha⟩:=B;have hf:H' r.heap.objs.size=none:=J.free;have n:r.heap.objs.size≠X.env.locals:=CU l.lt;have d:∀x c,X.env.cells.lookup x=some c->c≠r.heap.objs.size:=λx c e=>by
  obtain⟨v,o,ho,_⟩:=l.cell x c e;exact XH (XD ho)
 have E:r.heap.objs.size≠a:=by
  rcases ha with z | z
  ·rw[z];exact n
  ·exact Ne.symm (d _ _ z)
 refine⟨m,hn.sameBut sb E,λh6 G=>⟨_,H',?_,q⟩⟩;exact I5.turned (h':=h6) (t':=s5.toks) (λb o hb e=>(G.2 b hb).trans e) hf n (.inr l.sz) (λx c e=>d x c e) λp hp z=>by
  have:=XD (l.pin p hp).1;rw[z] at this;exact BH _ this
end
end
def eY (z:Str):It:=⟨λi _=>i<z.cps.size,λi H x H'=>H'=H/\∃c,z.cps[i]?=some c/\x=.str ⟨#[c]⟩,λi _=>i=z.cps.size⟩
def Im {P:WO}{w:WN}{K:WY}{tg:WW}{ty:String}{it:WP}{z:Str}{t:Tok}(g:["enumerate","zip","dict_itemiterator","dict_reverseitemiterator","odict_iterator","itertools.zip_longest","itertools.pairwise"].contains ty=false)
  (W:∀A:WM,A.handled=none->Walks P w A it [it] [it] z.cps.size (SignAt z) (λi h=>h.IsStrIter it ty z t i))
  (self:∀(A:WM) (i:Nat) (s:WR) (Q:WQ->WR->Prop) (E:WQ->WR->Prop),s.heap.IsStrIter it ty z t i->Q (.ref it) s->wpAny (model P w) A (pyIter (.ref it)) Q E s):
  yI P w K tg (eY z) [it] it (λi h=>h.IsStrIter it ty z t i) where
 mem:=by simp
 obj:=λi h st b hb=>by
  have e:b=it:=by simpa using hb
  subst e;obtain⟨o,e,c,d⟩:=st;exact⟨o,e,λv z=>by rw[d] at z;cases z⟩
 keep:=λi h h' st k=>let ⟨o,e,r⟩:=st;⟨o,k it (by simp) o e,r⟩
 item:=by
  intro X j hw l hc i WZ s σ H E I f st m;subst j hw l;obtain⟨f0,f1,f2,n,p,q⟩:=f it (by simp);refine(W X.A (I.ok.hd hc)).item i s _ _ m st λv h' tk hv a kk=>?_;obtain⟨c,u,x,rfl⟩:=hv;have y:Zq X WZ σ H {s with heap:=h',toks:=tk}:=I.turned (λb o hb e=>kk b o (by simpa using hb) e) f0 f1 n p q;obtain⟨o,e,B,d⟩:=id a;exact⟨_,FQ,j5 (s:={s with heap:=h',toks:=tk}) e B d g ⟨.str ⟨#[c]⟩,H,y,⟨u,FQ⟩,⟨FQ,c,x,FQ⟩,a,λb hb=>(f b hb).1⟩⟩
 done:=by
  intro X j hw l hc i WZ s σ H E I f st m;subst j hw l;obtain⟨f0,f1,f2,n,p,q⟩:=f it (by simp);have e:i=z.cps.size:=m;subst e;exact(W X.A (I.ok.hd hc)).done s _ _ st λh' tk kk=>⟨FQ,I.turned (λb o hb e=>kk b o (by simpa using hb) e) f0 f1 n p q⟩
 self:=self
section
variable {X:Cx}
def Py:V->Bool
 | .flt _=>false
 | .byt _=>false
 | _=>true
def nY (K:WY):R2:=λx y H Q=>∃a b ys,x=.ref a/\y=.ref b/\Tw K H a []/\Tw K H b ys/\Q (.ref b) H
def uk:M4 X (binaryOp .Add) (nY X.K):=by
 intro WZ s σ H x y v u Q I m o h;obtain⟨a,b,ys,rfl,rfl,ha,hb,q⟩:=h
 cases m
 cases o
 obtain⟨its,p,r,_⟩:=I.tuple ha;obtain⟨i,w,p2,_⟩:=I.tuple hb
 cases p
 obtain⟨⟨cls,dd,data,sl⟩,j,hc,n,hd⟩:=id r;obtain⟨⟨l,f,data2,g⟩,c,d,t,e⟩:=id p2;simp only at hc hd d e;subst hc hd d e;exact concat_meets ⟨_,j,FQ⟩ ⟨_,c,FQ⟩ noFill_tuple_add seq_tuple_add EN EJ (EB _ _)
  (tuple_addW0 a b _ _ n t dd f sl g (by simp)) ⟨j,c,⟨.ref b,H,I,FQ,q⟩⟩
def jh {v:WQ}{o:Option Int}(h:IsPart v o):∃l:Option (Int×Tok),v=partValue l/\l.map (·.1)=o:=by
 cases h with
 | none=>exact⟨none,FQ,FQ⟩
 | int i t=>exact⟨some (i,t),FQ,FQ⟩
def dL:V->Option Int->Option Int->Hp->VK->Prop:=λx lo hi H Q=>∃z,x=.str z/\z.length<=sizeLine/\Q (.str (Txt.slice z lo hi)) H
set_option tactic.hygienic true in
def nO:sY X dL:=by
 intro WZ s σ H x v vl f lo hi sl Q I c hs pl d h;obtain⟨z,rfl,hz,q⟩:=h;obtain⟨t,rfl⟩:=c;obtain⟨l,rfl,rfl⟩:=jh pl;obtain⟨u,rfl,rfl⟩:=jh d;refine⟨"str",_,PySem.F.slot_str_getitem.lookup,typeIs_str _ _ _,?_⟩;obtain⟨o,e,hc,hd⟩:=hs;refine wpAny_getItem_str_slice (l:=l) (u:=u) (st:=none) ⟨o,e,hc,hd⟩ FQ ?_;have b:=Txt.slice_le z (l.map (·.1)) (u.map (·.1));unfold sliceMade;unfold Txt.slice at q b;show Made.post (if ((1:Int)==1&&(PySem.Builtin.Str.strSliceIndices (l.map (·.1)) (u.map (·.1)) 1 z.length).length==z.length)=true then _ else Made.str ⟨((PySem.Builtin.Str.strSliceIndices (l.map (·.1)) (u.map (·.1)) 1 z.length).filterMap (z.cps[·]?)).toArray⟩) _ s
 split
 ·rename_i a;rw[XY a] at q;exact⟨.str z,H,I,⟨t,FQ⟩,q⟩
 ·rename_i a;rw[XX a] at q;rw[XX a] at b;exact⟨XN b hz,.str _,H,I.tok _,⟨_,FQ⟩,q⟩
end
def ku:bootBuiltins "max"=some (.builtin "max"):=by decide+kernel
def Fe:bootBuiltins "isinstance"=some (.builtin "isinstance"):=by decide+kernel
def ky:bootBuiltins "int"=some (.type "int"):=by decide+kernel
def Bo:bootBuiltins "str"=some (.type "str"):=by decide+kernel
def Mn:bootBuiltins "list"=some (.type "list"):=by decide+kernel
def Go:bootBuiltins "tuple"=some (.type "tuple"):=by decide+kernel
section
variable {X:Cx}
structure Ca (P:Program)(w:World)(K:W.Frag)(mg:Str->Option Value)(base:Heap)(k:Nat)(x:Str)(ps:List Str)(sp:Sp):Prop where
 ex:∃(f:WP) (fd:VZ),Ww P w K mg base CX0 k f fd ps sp/\Xv K fd ps []/\W.keepIn K (.ref f)=true/\mg x=some (.ref f)
def oI {k:Nat}{x:Str}{ps:List Str}{sp:Sp}{p pos:Pos}{e:WW}{es:List WW}{t:TA}(C:Ca X.prog X.w X.K X.mg X.base k x ps sp)(c:Y8 k X.A)(d:Gl X x)(ha:PA X (e::es) t)
  (a:(x==("__debug__":Str))=false:=by decide) (g:starEach (e::es) X.env=(false,eval e X.env)::starEach es X.env:=by rfl) (b:(backTo pos (starEach es X.env)).any (·.1)=false:=by rfl):
  PE X (.Call (.Name x p) (e::es) [] pos) (yT sp [] E0 t):=by
 obtain⟨f,fd,F,B,kp,m⟩:=C.ex;exact jg F c d m kp B .nil Ja ha a g b
def ym {K:WY}{n:Nat}{u:z7}(b:Mv u):Qh (yq K n u):=λx σ H Q Q' h q=>by
 obtain⟨a,xs,e,hq,c,q⟩:=q;exact⟨a,xs,e,hq,c,b _ _ _ _ _ h q⟩
set_option tactic.hygienic true in
def T7 {scope:Scope}{env:Env}{x:Str}{k:NameKind}(h:(relabel scope env).names.lookup x=some k):∃k',(x,k')∈scope.names/\(k'=k\/k'=.free):=by
 have m:=BZ h;unfold relabel at m;obtain⟨⟨n,k'⟩,hm,e⟩:=XR.mp m;dsimp only at e
 split at e
 ·rename_i hc
  cases e
  refine⟨k',hm,.inr ?_⟩;simp only[Bool.and_eq_true,beq_iff_eq] at hc;exact hc.1.1
 ·cases e
  exact⟨_,hm,.inl FQ⟩
def Bb {cN:List Str}{cap:List (Option Nat)}{scope:Scope}(hk:scope.kind=.function)(h1:scope.names.all (λy=>y.2 !=.free&&y.2 !=.cell)=true)(h2:scope.names.all (λy=>y.2 !=.local||scope.names.lookup y.1==some .local)=true)
  (b:cap.length=cN.length) (hc:cap.all (λo=>o.isNone)=true):No X cN cap scope [] where
 clos:=closureFor_none λy hy=>by
  have:=CB.mp h1 y hy;simp only[Bool.and_eq_true,bne_iff_ne,ne_eq] at this;exact this.1
 sub:=λn a h=>by cases h
 cell:=λy hy=>by
  have:=CB.mp h1 y hy;simp only[Bool.and_eq_true,bne_iff_ne,ne_eq] at this;exact this.2
 kind:=hk
 names:=λy hy e=>by
  have:=CB.mp h2 y hy;simp only[Bool.or_eq_true,bne_iff_ne,ne_eq,beq_iff_eq] at this
  rcases this with q | q
  ·exact absurd e q
  ·exact q
 len:=b
 has:=λx h=>by
  exfalso;have no:∀k',(x,k')∈scope.names->k'≠.free/\k'≠.cell:=λk' hy=>by
   have:=CB.mp h1 _ hy;simpa only[Bool.and_eq_true,bne_iff_ne,ne_eq] using this
  rcases h with h | h
  ·obtain⟨k',hm,e⟩:=T7 h
   rcases e with e | e
   ·exact(no k' hm).2 e
   ·exact(no k' hm).1 e
  ·obtain⟨k',hm,e⟩:=T7 h
   rcases e with e | e
   ·exact(no k' hm).1 e
   ·exact(no k' hm).1 e
 capd:=λi j x h _=>by
  have:=CB.mp hc _ (BE h)
  cases this
def X8 (cells:List (Str×WP)):List (Str×NameKind)->List (Str×WP)->List (Str×WP)
 | [],cs=>cs
 | (n,k)::r,cs=>X8 cells r (if k==.free then(n,(cells.lookup n).getD 0)::cs else cs)
def Ni {cells:List (Str×WP)}:∀{names:List (Str×NameKind)} {cs:List (Str×WP)} {p:Str×WP},p∈X8 cells names cs↔p∈cs\/((p.1,NameKind.free)∈names/\p.2=(cells.lookup p.1).getD 0)
 | [],cs,p=>by simp[X8]
 | (n,k)::r,cs,p=>by
  unfold X8;rw[Ni];by_cases hk:k=.free
  ·subst hk;simp only[beq_self_eq_true,if_true,List.mem_cons,Prod.mk.injEq,and_true];constructor
   ·rintro((h | h) | h)
    ·subst h;exact .inr ⟨.inl FQ,FQ⟩
    ·exact .inl h
    ·exact .inr ⟨.inr h.1,h.2⟩
   ·rintro(h | ⟨h | h,e⟩)
    ·exact .inl (.inr h)
    ·refine .inl (.inl ?_);obtain⟨a,b⟩:=p;simp only at h e;subst h;subst e;rfl
    ·exact .inr ⟨h,e⟩
  ·have hb:(k==NameKind.free)=false:=by simpa using hk
   simp only[hb,Bool.false_eq_true,if_false,List.mem_cons,Prod.mk.injEq];constructor
   ·rintro(h | h)
    ·exact .inl h
    ·exact .inr ⟨.inr h.1,h.2⟩
   ·rintro(h | ⟨h | h,e⟩)
    ·exact .inl h
    ·exact absurd h.2.symm hk
    ·exact .inr ⟨h,e⟩
def Fc {scope:Scope}{env:Env}(h:∀n,(n,NameKind.free)∈scope.names->∃c,env.cells.lookup n=some c):closureFor scope env=pure (X8 env.cells scope.names []):=by
 have a:∀(names:List (Str×NameKind)) (cs:List (Str×WP)),(∀n,(n,NameKind.free)∈names->∃c,env.cells.lookup n=some c)->
   (forIn names cs λx r=>(match x with | (name,kind)=>if (kind==NameKind.free)=true then(do let y <-cellOf env name;pure (ForInStep.yield ((name,y)::r))) else pure (ForInStep.yield r):Sem (ForInStep (List (Str×WP)))))=pure (X8 env.cells names cs):=by
  intro names
  induction names with
  | nil=>intro cs _;rfl
  | cons y r b=>
   obtain⟨n,k⟩:=y;intro cs hn;rw[List.forIn_cons];unfold X8;by_cases hk:k=.free
   ·subst hk;obtain⟨c,hc⟩:=hn n (BA);simp only[beq_self_eq_true,if_true,cellOf,hc,Option.getD_some];exact b _ λm hm=>hn m (XV _ hm)
   ·have hb:(k==NameKind.free)=false:=by simpa using hk
    simp only[hb,Bool.false_eq_true,if_false];exact b _ λm hm=>hn m (XV _ hm)
 unfold closureFor;have:=a scope.names [] h
 first
  | exact this
  | (simp only[bind_pure];exact this)
  | (show(forIn scope.names [] _>>=λr=>pure r)=_;rw[bind_pure];exact this)
def He {f:Str->NameKind->NameKind}:∀{names:List (Str×NameKind)} {x:Str},(names.map λy=>(y.1,f y.1 y.2)).lookup x=(names.lookup x).map (f x)
 | [],x=>rfl
 | (n,k)::r,x=>by
  have a:=@He f r x;rw[YI,BS,BS];by_cases hx:x=n
  ·subst hx;simp
  ·have hb:(x==n)=false:=Tm.mpr hx;simp only[hb];exact a
def Hf {scope:Scope}{env:Env}{x:Str}:(relabel scope env).names.lookup x=
   (scope.names.lookup x).map λk=>if (k==NameKind.free&&env.scope.kind==.function&&env.kindOf x==some .cell) then NameKind.cell else k:=by
 rw[<-He (f:=λn k=>if (k==NameKind.free&&env.scope.kind==.function&&env.kindOf n==some .cell) then NameKind.cell else k)];unfold relabel;congr 1;refine CA λy _=>?_;obtain⟨n,k⟩:=y;dsimp only
 split<;>rfl
def Gm (N:List Str)(outer a:List (Str×NameKind)):List (Option Nat)->List Str->Bool
 | [],_=>true
 | _,[]=>true
 | none::r,_::xs=>Gm N outer a r xs
 | some j::r,x::xs=>N[j]?==some x&&outer.lookup x==some .cell&&a.lookup x==some .free&&Gm N outer a r xs
def Ln {N:List Str}{outer a:List (Str×NameKind)}:∀{cap:List (Option Nat)} {cN:List Str},Gm N outer a cap cN=true->∀(i j:Nat) (x:Str),cap[i]?=some (some j)->cN[i]?=some x->N[j]?=some x/\outer.lookup x=some .cell/\a.lookup x=some .free
 | [],_,_,i,j,x,h1,_=>by simp at h1
 | _::_,[],_,i,j,x,_,h2=>by simp at h2
 | none::r,y::xs,h,0,j,x,h1,_=>by simp at h1
 | none::r,y::xs,h,i+1,j,x,h1,h2=>Ln (cap:=r) (cN:=xs) (by simpa[Gm] using h) i j x (by simpa using h1) (by simpa using h2)
 | some k::r,y::xs,h,0,j,x,h1,h2=>by
  simp only[Gm,Bool.and_eq_true,beq_iff_eq] at h;simp at h1 h2;subst h1 h2;exact⟨h.1.1.1,h.1.1.2,h.1.2⟩
 | some k::r,y::xs,h,i+1,j,x,h1,h2=>by
  simp only[Gm,Bool.and_eq_true,beq_iff_eq] at h;exact Ln (cap:=r) (cN:=xs) h.2 i j x (by simpa using h1) (by simpa using h2)
def Ot {α a:Type}[BEq α][LawfulBEq α]{x:α}:∀{l:List (α×a)} {b:a},(x,b)∈l->∃c,l.lookup x=some c
 | [],_,h=>by cases h
 | (y,c)::r,b,h=>by
  rw[BS];by_cases hx:x=y
  ·subst hx;simp
  ·have hb:(x==y)=false:=Tm.mpr hx;rw[hb]
   rcases BB.mp h with e | h
   ·cases e;exact absurd FQ hx
   ·exact Ot h
def Sb {cN:List Str}{cap:List (Option Nat)}{scope:Scope}(ok:X.Ok)(hk:scope.kind=.function)(h1:scope.names.all (λy=>y.2 !=.cell)=true)(h2:scope.names.all (λy=>y.2 !=.local||scope.names.lookup y.1==some .local)=true)
  (o:cap.length=cN.length) (p:(scope.names.all λy=>y.2 !=.free||X.env.scope.names.lookup y.1==some .cell)=true) (hc:Gm X.N X.env.scope.names scope.names cap cN=true):No X cN cap scope (X8 X.env.cells scope.names []):=by
 have d:∀n,(n,NameKind.free)∈scope.names->∃c,X.env.cells.lookup n=some c:=λn hn=>by
  have:=CB.mp p _ hn;simp only[bne_self_eq_false,Bool.false_or,beq_iff_eq] at this;exact ok.has n (.inl this)
 refine⟨Fc d,λn a h=>?_,λy hy=>?_,hk,λy hy e=>?_,o,λx h=>?_,λi j x f g=>?_⟩
 ·have m:=BZ h;rw[Ni] at m
  rcases m with m | ⟨m,e⟩
  ·cases m
  ·obtain⟨c,hc⟩:=d n m;simp only[hc,Option.getD_some] at e;rw[hc,e]
 ·have:=CB.mp h1 y hy;simpa using this
 ·have:=CB.mp h2 y hy;simp only[Bool.or_eq_true,bne_iff_ne,ne_eq,beq_iff_eq] at this
  rcases this with q | q
  ·exact absurd e q
  ·exact q
 ·have r:∀k',(x,k')∈scope.names->k'≠.cell:=λk' hy=>by
   have:=CB.mp h1 _ hy;simpa using this
  have m:(x,NameKind.free)∈scope.names:=by
   rcases h with h | h
   ·obtain⟨k',hm,e⟩:=T7 h
    rcases e with e | e
    ·exact absurd e (r k' hm)
    ·subst e;exact hm
   ·obtain⟨k',hm,e⟩:=T7 h
    rcases e with e | e<;>(subst e;exact hm)
  exact Ot (b:=(X.env.cells.lookup x).getD 0) (Ni.mpr (.inr ⟨m,FQ⟩))
 ·obtain⟨s,l,t⟩:=Ln hc i j x f g;refine⟨s,.inr (.inl l),(by rw[l];simp),?_⟩;rw[Hf,t];simp only[Option.map_some,beq_self_eq_true,Bool.true_and]
  split
  ·exact .inl FQ
  ·exact .inr FQ
end
def CN (p:WP)(Pv:Nat->List V->Hp->Prop)(i:Nat)(H:Hp):Prop:=∃ys,H p=some (.lst ys)/\ys.length<=i/\Pv i ys H
def dr (g:TG)(tb:TS)(D:Nn)(σ:St)(J:It)(H1:Hp):Prop:=∃W:Nat->Nat->St->Hp->Prop,(∃m,W 0 m σ H1)/\∀i m σ H,W i m σ H->
 (J.stop i H/\D.nx σ H)\/(J.go i H/\∃N:St->Hp->Prop,(∀y_ H',N y_ H'->∃b,b<m/\W (i+1) b y_ H')/\∀x H',J.yld i H x H'->g x σ H' λa H2=>tb {D with nx:=N,ct:=N,bk:=D.nx} a H2)
def tyL {K:WY}{H:Hp}{r:WP}{xs:List V}(h:H r=some (.lst xs)):nE K "list" (.ref r) H:=by
 unfold nE;exact .inl ⟨FQ,xs,Vr.of h⟩
end L2
namespace WL
inductive T where
 | non | bl (b:Bool) | int (i:Int) | str (x:Str) | tup (xs:List T)
  | ref (a:WP)
  | cl (xs:List T)
inductive O where
 | lst (xs:List T)
 | dic (kvs:List (Z8×T))
 | ins (cn:Str) (fs:List (Str×T))
  | fdic (kvs:List (Z8×T))
  | exc (cn:Str)
abbrev Hw:=WP->Option O
def up (C:Hw)(a:WP)(o:O):Hw:=λb=>if b=a then some o else C b
def Zf {C:Hw}{a:WP}{o:O}:up C a o a=some o:=by unfold up;rw[XY rfl]
def Zk {C:Hw}{a b:WP}{o:O}(h:b≠a):up C a o b=C b:=by unfold up;rw[XX h]
def sL (K:WY)(H:Hp)(a:WP)(xs:List V):Prop:=
 (∃o,H a=some (.frz o (.lst xs)))\/
  ∃(o:Obj) (its:Array WQ) (n:Nat),K.lookup a=some o/\o.cls=.type "list"/\o.dict=none/\o.data=.seq its n/\its.size<=sizeLine/\Z5 xs its.toList
def sL.sq {K:WY}{H:Hp}{a:WP}{xs:List V}(h:sL K H a xs):Vr K H a xs:=by
 rcases h with⟨o,h⟩ | h
 ·exact .inl (.inr ⟨o,h⟩)
 ·exact .inr h
mutual
def Ju (K:WY)(H:Hp)(x:V):T->Prop
 | .non=>x=.non
 | .bl b=>x=.bl b
 | .int i=>x=.int i
 | .str z=>x=.str z
 | .ref a=>x=.ref a
 | .tup ts=>∃a ys,x=.ref a/\Tw K H a ys/\Reps K H ys ts
 | .cl ts=>∃a ys,x=.ref a/\sL K H a ys/\Reps K H ys ts
def Reps (K:WY)(H:Hp)(ys:List V):List T->Prop
 | []=>ys=[]
 | t::ts=>∃y r,ys=y::r/\Ju K H y t/\Reps K H r ts
end
def cT:HO->Prop
 | .tup _=>True
 | .frz _ _=>True
 | _=>False
def Tx (H H':Hp):Prop:=∀b o,H b=some o->cT o->H' b=some o
def Tx.refl (H:Hp):Tx H H:=λ_ _ h _=>h
def Tx.trans {H H1 H2:Hp}(a:Tx H H1)(b:Tx H1 H2):Tx H H2:=λc o h n=>b c o (a c o h n) n
def Tx.new {H:Hp}{p:WP}{o:HO}(h:H p=none):Tx H (Yq H p o):=λb u q _=>by rw[Z0 (Jh q h)];exact q
def Tx.put {H:Hp}{p:WP}{o u:HO}(h:H p=some o)(n:¬cT o):Tx H (Yq H p u):=λb v q s=>by
 by_cases e:b=p
 ·subst e;rw[h] at q;cases q;exact absurd s n
 ·rw[Z0 e];exact q
def Tx.sqt {K:WY}{H H':Hp}(t:Tx H H'){a:WP}{xs:List V}(h:Tw K H a xs):Tw K H' a xs:=by
 rcases h with(h | ⟨o,h⟩) | h
 ·exact .inl (.inl (t _ _ h trivial))
 ·exact .inl (.inr ⟨o,t _ _ h trivial⟩)
 ·exact .inr h
def Tx.sqc {K:WY}{H H':Hp}(t:Tx H H'){a:WP}{xs:List V}(h:sL K H a xs):sL K H' a xs:=by
 rcases h with⟨o,h⟩ | h
 ·exact .inl ⟨o,t _ _ h trivial⟩
 ·exact .inr h
mutual
def Ju.tx {K:WY}{H H':Hp}(t:Tx H H'){x:V}:∀{v:T},Ju K H x v->Ju K H' x v
 | .non,h=>by simpa[Ju] using h
 | .bl b,h=>by simpa[Ju] using h
 | .int i,h=>by simpa[Ju] using h
 | .str z,h=>by simpa[Ju] using h
 | .ref a,h=>by simpa[Ju] using h
 | .tup ts,h=>by
  unfold Ju at h |-;obtain⟨a,ys,e,q,r⟩:=h;exact⟨a,ys,e,t.sqt q,Reps.tx t r⟩
 | .cl ts,h=>by
  unfold Ju at h |-;obtain⟨a,ys,e,q,r⟩:=h;exact⟨a,ys,e,t.sqc q,Reps.tx t r⟩
def Reps.tx {K:WY}{H H':Hp}(t:Tx H H'){ys:List V}:∀{vs:List T},Reps K H ys vs->Reps K H' ys vs
 | [],h=>by simpa[Reps] using h
 | v::vs,h=>by
  unfold Reps at h |-;obtain⟨y,r,e,q,s⟩:=h;exact⟨y,r,e,Ju.tx t q,Reps.tx t s⟩
end
section
variable {K:WY}{H:Hp}
def Js {i:Int}:Ju K H (.int i) (.int i):=by unfold Ju;rfl
def Wl {i:Str}:Ju K H (.str i) (.str i):=by unfold Ju;rfl
def J5 {i:Bool}:Ju K H (.bl i) (.bl i):=by unfold Ju;rfl
def T4:Ju K H .non .non:=by unfold Ju;rfl
def Yu {a:WP}:Ju K H (.ref a) (.ref a):=by unfold Ju;rfl
def Xs {a:WP}{ys:List V}{ts:List T}(h:Tw K H a ys)(r:Reps K H ys ts):Ju K H (.ref a) (.tup ts):=by unfold Ju;exact⟨a,ys,FQ,h,r⟩
def Yi {x:V}{i:Int}(h:Ju K H x (.int i)):x=.int i:=by unfold Ju at h;exact h
def Jm {x:V}{i:Str}(h:Ju K H x (.str i)):x=.str i:=by unfold Ju at h;exact h
def Os {x:V}{i:Bool}(h:Ju K H x (.bl i)):x=.bl i:=by unfold Ju at h;exact h
def La {x:V}(h:Ju K H x .non):x=.non:=by unfold Ju at h;exact h
def Z7 {x:V}{a:WP}(h:Ju K H x (.ref a)):x=.ref a:=by unfold Ju at h;exact h
def Yn {x:V}{ts:List T}(h:Ju K H x (.tup ts)):∃a ys,x=.ref a/\Tw K H a ys/\Reps K H ys ts:=by unfold Ju at h;exact h
def N7 {x:V}{ts:List T}(h:Ju K H x (.cl ts)):∃a ys,x=.ref a/\sL K H a ys/\Reps K H ys ts:=by unfold Ju at h;exact h
def Yy:Reps K H [] []:=by unfold Reps;rfl
def Yl {y:V}{ys:List V}{t:T}{ts:List T}(a:Ju K H y t)(b:Reps K H ys ts):Reps K H (y::ys) (t::ts):=by unfold Reps;exact⟨y,ys,FQ,a,b⟩
def Xx {ys:List V}(h:Reps K H ys []):ys=[]:=by unfold Reps at h;exact h
def Yk {ys:List V}{t:T}{ts:List T}(h:Reps K H ys (t::ts)):∃y r,ys=y::r/\Ju K H y t/\Reps K H r ts:=by unfold Reps at h;exact h
def Reps.length:∀{vs:List T} {ys:List V},Reps K H ys vs->ys.length=vs.length
 | [],_,h=>by rw[Xx h];rfl
 | _::_,_,h=>by obtain⟨y,r,rfl,_,q⟩:=Yk h;rw[YF,YF,q.length]
def Reps.get:∀{vs:List T} {ys:List V} {i:Nat} {v:T},Reps K H ys vs->vs[i]?=some v->∃y,ys[i]?=some y/\Ju K H y v
 | [],_,_,_,_,e=>by simp at e
 | _::_,_,0,_,h,e=>by obtain⟨y,r,rfl,a,_⟩:=Yk h;simp at e;subst e;exact⟨y,FQ,a⟩
 | _::_,_,i+1,v,h,e=>by
  obtain⟨y,r,rfl,_,q⟩:=Yk h;obtain⟨z,h1,h2⟩:=Reps.get (i:=i) (v:=v) q (by simpa using e);exact⟨z,by simpa using h1,h2⟩
def Reps.get':∀{vs:List T} {ys:List V} {i:Nat} {y:V},Reps K H ys vs->ys[i]?=some y->∃v,vs[i]?=some v/\Ju K H y v:=λ{vs ys i y} h e=>by
 have a:=h.length;have hi:i<ys.length:=(AZ.mp e).1;have hv:vs[i]?=some (vs[i]'(by omega)):=by simp[a▸hi]
 obtain⟨z,h1,h2⟩:=h.get hv;rw[e] at h1;cases h1;exact⟨_,hv,h2⟩
def Reps.app:∀{vs ws:List T} {ys zs:List V},Reps K H ys vs->Reps K H zs ws->Reps K H (ys++zs) (vs++ws)
 | [],_,_,_,h,q=>by rw[Xx h];exact q
 | _::_,_,_,_,h,q=>by obtain⟨y,r,rfl,a,b⟩:=Yk h;exact Yl a (b.app q)
def Reps.take:∀(n:Nat) {vs:List T} {ys:List V},Reps K H ys vs->Reps K H (ys.take n) (vs.take n)
 | 0,_,_,_=>by simpa using Yy
 | _+1,[],_,h=>by rw[Xx h];exact Yy
 | n+1,_::_,_,h=>by obtain⟨y,r,rfl,a,b⟩:=Yk h;exact Yl a (b.take n)
def Reps.drop:∀(n:Nat) {vs:List T} {ys:List V},Reps K H ys vs->Reps K H (ys.drop n) (vs.drop n)
 | 0,_,_,h=>h
 | _+1,[],_,h=>by rw[Xx h];exact Yy
 | n+1,_::_,_,h=>by obtain⟨y,r,rfl,a,b⟩:=Yk h;exact b.drop n
def Reps.set {y:V}{v:T}(q:Ju K H y v):∀(n:Nat) {vs:List T} {ys:List V},Reps K H ys vs->Reps K H (ys.set n y) (vs.set n v)
 | _,[],_,h=>by rw[Xx h];exact Yy
 | 0,_::_,_,h=>by obtain⟨y,r,rfl,a,b⟩:=Yk h;exact Yl q b
 | n+1,_::_,_,h=>by obtain⟨y,r,rfl,a,b⟩:=Yk h;exact Yl a (b.set q n)
def Reps.dropLast {vs:List T}{ys:List V}(h:Reps K H ys vs):Reps K H ys.dropLast vs.dropLast:=by
 rw[List.dropLast_eq_take,List.dropLast_eq_take,h.length];exact h.take _
def Reps.snoc {vs:List T}{ys:List V}{y:V}{v:T}(h:Reps K H ys vs)(q:Ju K H y v):Reps K H (ys++[y]) (vs++[v]):=h.app (Yl q Yy)
def Reps.reverse:∀{vs:List T} {ys:List V},Reps K H ys vs->Reps K H ys.reverse vs.reverse
 | [],_,h=>by rw[Xx h];exact Yy
 | _::_,_,h=>by obtain⟨y,r,rfl,a,b⟩:=Yk h;rw[BY,BY];exact b.reverse.snoc a
def Reps.at {vs:List T}{ys:List V}{i:Int}{v:T}(h:Reps K H ys vs)(e:Nr vs i=some v):∃y,Nr ys i=some y/\Ju K H y v:=by
 unfold Nr at e |-;rw[h.length]
 cases q:uL vs.length i with
 | none=>rw[q] at e;cases e
 | some j=>
  rw[q] at e;exact h.get e
def Fw:∀ns:List Int,Reps K H (ns.map V.int) (ns.map T.int)
 | []=>Yy
 | n::r=>Yl Js (Fw r)
end
abbrev PR (K:WY)(H:Hp){κ:Type}(kvs:List (κ×V))(l_:List (κ×T)):Prop:=PySem.Paired (λp q=>p.1=q.1/\Ju K H p.2 q.2) kvs l_
def Lq (K:WY)(H:Hp)(a:WP):O->Prop
 | .lst xs=>∃ys,H a=some (.lst ys)/\Reps K H ys xs
 | .dic kvs=>∃ks,H a=some (.dK ks)/\PR K H ks kvs
 | .ins cn fs=>∃Cl dx ks,W.nsIn K mainGlobals cn=some (some (.ref Cl))/\H a=some (.ins Cl dx ks)/\PR K H ks fs
 | .fdic kvs=>∃ks,Rd H a (.dK ks)/\PR K H ks kvs
 | .exc cn=>∃Cl ob u,W.nsIn K mainGlobals cn=some (some (.ref Cl))/\ob.cls=.ref Cl/\H a=some (.frz ob u)
def O.wr:O->Prop
 | .fdic _=>False
 | .exc _=>False
 | _=>True
structure Rl (K:W.Frag)(F H:Hp)(C:Hw):Prop where
 obj:∀a o,C a=some o->Lq K H a o
 frm:∀a o,F a=some o->H a=some o/\C a=none
def Iy {K:WY}{H H':Hp}(t:Tx H H'){κ:Type}{ks:List (κ×V)}{kvs:List (κ×T)}(h:PR K H ks kvs):PR K H' ks kvs:=L2.Paired.mapP h λ_ _ z=>⟨z.1,z.2.tx t⟩
def Lq.stay {K:WY}{H H':Hp}{a:WP}{o:O}(h:Lq K H a o)(t:Tx H H')(e:H' a=H a):Lq K H' a o:=by
 cases o with
 | lst xs=>obtain⟨ys,q,r⟩:=h;exact⟨ys,e.trans q,r.tx t⟩
 | dic kvs=>obtain⟨ys,q,r⟩:=h;exact⟨ys,e.trans q,Iy t r⟩
 | ins C fs=>obtain⟨Cl,dx,ys,n,q,r⟩:=h;exact⟨Cl,dx,ys,n,e.trans q,Iy t r⟩
 | fdic kvs=>
  obtain⟨ys,q,r⟩:=h;refine⟨ys,?_,Iy t r⟩
  rcases q with q | ⟨o,q⟩
  ·exact .inl (e.trans q)
  ·exact .inr ⟨o,e.trans q⟩
 | exc cn=>obtain⟨Cl,ob,u,n,c,q⟩:=h;exact⟨Cl,ob,u,n,c,e.trans q⟩
def Lq.some {K:WY}{H:Hp}{a:WP}{o:O}(h:Lq K H a o)(wr:o.wr):∃u,H a=some u/\¬cT u:=by
 cases o with
 | fdic kvs=>exact wr.elim
 | exc cn=>exact wr.elim
 | lst xs=>obtain⟨ys,q,r⟩:=h;exact⟨_,q,λz=>z⟩
 | dic kvs=>obtain⟨ys,q,r⟩:=h;exact⟨_,q,λz=>z⟩
 | ins C fs=>obtain⟨Cl,dx,ys,n,q,r⟩:=h;exact⟨_,q,λz=>z⟩
def Lq.here {K:WY}{H:Hp}{a:WP}{o:O}(h:Lq K H a o):∃u,H a=Option.some u:=by
 cases o with
 | fdic kvs=>
  obtain⟨ys,q,r⟩:=h
  rcases q with q | ⟨o,q⟩
  ·exact⟨_,q⟩
  ·exact⟨_,q⟩
 | exc cn=>obtain⟨Cl,ob,u,n,c,q⟩:=h;exact⟨_,q⟩
 | lst xs=>obtain⟨ys,q,r⟩:=h;exact⟨_,q⟩
 | dic kvs=>obtain⟨ys,q,r⟩:=h;exact⟨_,q⟩
 | ins C fs=>obtain⟨Cl,dx,ys,n,q,r⟩:=h;exact⟨_,q⟩
section
variable {K:WY}{F H:Hp}{C:Hw}
def Rl.free (R:Rl K F H C){p:WP}(h:H p=none):C p=none:=by
 cases e:C p with
 | none=>rfl
 | some o=>obtain⟨u,q⟩:=(R.obj p o e).here;rw[h] at q;cases q
def Rl.lst (R:Rl K F H C){a:WP}{xs:List T}(h:C a=some (.lst xs)):∃ys,H a=some (.lst ys)/\Reps K H ys xs:=R.obj a _ h
def Rl.new (R:Rl K F H C){p:WP}{u:HO}{o:O}(h:H p=none)(r:Lq K (Yq H p u) p o):Rl K F (Yq H p u) (up C p o) where
 obj:=λa v e=>by
  by_cases q:a=p
  ·subst q;rw[Zf] at e;cases e;exact r
  ·rw[Zk q] at e;exact(R.obj a v e).stay (Tx.new h) (Z0 q)
 frm:=λa v e=>by
  have z:=R.frm a v e;have q:a≠p:=Jh z.1 h;rw[Z0 q,Zk q];exact z
def Rl.hid (R:Rl K F H C){p:WP}{u:HO}(h:H p=none):Rl K F (Yq H p u) C where
 obj:=λa v e=>by
  obtain⟨w,q⟩:=(R.obj a v e).here;exact(R.obj a v e).stay (Tx.new h) (Z0 (Jh q h))
 frm:=λa v e=>by
  have z:=R.frm a v e;rw[Z0 (Jh z.1 h)];exact z
def Rl.put (R:Rl K F H C){p:WP}{u:HO}{o o':O}(h:C p=some o)(r:Lq K (Yq H p u) p o')(wr:o.wr:=by trivial):Rl K F (Yq H p u) (up C p o')/\Tx H (Yq H p u):=by
 obtain⟨w,hw,ns⟩:=(R.obj p o h).some wr;have t:Tx H (Yq H p u):=Tx.put hw ns;refine⟨⟨λa v e=>?_,λa v e=>?_⟩,t⟩
 ·by_cases q:a=p
  ·subst q;rw[Zf] at e;cases e;exact r
  ·rw[Zk q] at e;exact(R.obj a v e).stay t (Z0 q)
 ·have z:=R.frm a v e;have q:a≠p:=λy=>by subst y;rw[h] at z;cases z.2
  rw[Z0 q,Zk q];exact z
def Rl.putL (R:Rl K F H C){p:WP}{xs D:List T}{y:List V}(h:C p=some (.lst xs))(r:Reps K H y D):Rl K F (Yq H p (.lst y)) (up C p (.lst D))/\Tx H (Yq H p (.lst y)):=by
 obtain⟨w,hw,ns⟩:=(R.obj p _ h).some trivial;exact R.put h ⟨y,Ya,r.tx (Tx.put hw ns)⟩
def Rl.newL (R:Rl K F H C){p:WP}{xs:List T}{ys:List V}(h:H p=none)(r:Reps K H ys xs):Rl K F (Yq H p (.lst ys)) (up C p (.lst xs)):=R.new h ⟨ys,Ya,r.tx (Tx.new h)⟩
end
abbrev Sw:=List (Option T)
abbrev WK:=T->Hw->Prop
structure Xn where
 cls:Str
 fs:List (Str×T)
abbrev WX:=Xn->Hw->Prop
abbrev WE:=Sw->Hw->WK->WX->Prop
abbrev WT:=Sw->Hw->(Bool->Hw->Prop)->WX->Prop
abbrev WA:=Sw->Hw->(List T->Hw->Prop)->WX->Prop
structure We where
 nx:Sw->Hw->Prop
 rt:WK
 bk:Sw->Hw->Prop:=λ_ _=>False
 ct:Sw->Hw->Prop:=λ_ _=>False
 xc:WX:=λ_ _=>False
abbrev ZUD (Q:WK)(χ:WX):We:={nx:=λ_ C'=>Q .non C',rt:=Q,xc:=χ}
abbrev WS:=We->Sw->Hw->Prop
abbrev WG:=T->Sw->Hw->(Sw->Hw->Prop)->WX->Prop
abbrev sJ:=List T->Sw->Hw->(Sw->Hw->Prop)->WX->Prop
abbrev WI:=Sw->Hw->(List T->(Hw->Prop)->Hw->Prop)->WX->Prop
abbrev W2:=T->T->Hw->WK->Prop
abbrev Calls:=Nat->List T->Hw->WK->WX->Prop
def Yp (i:Nat):WE:=λτ C Q _=>∃v,τ[i]?=some (some v)/\Q v C
def eC (v:T):WE:=λ_ C Q _=>Q v C
def X5 (r:W2)(a b:WE):WE:=λτ C Q χ=>a τ C (λx C1=>b τ C1 (λy C2=>r x y C2 Q) χ) χ
def aU (r:T->Hw->WK->Prop)(a:WE):WE:=λτ C Q χ=>a τ C (λx C1=>r x C1 Q) χ
def Zv:WA:=λ_ C Q _=>Q [] C
def Z1 (a:WE)(r:WA):WA:=λτ C Q χ=>a τ C (λx C1=>r τ C1 (λxs C2=>Q (x::xs) C2) χ) χ
def Fb (a:WA):WE:=λτ C Q χ=>a τ C (λxs C1=>xs.length<=sizeLine/\Q (.tup xs) C1) χ
def Ng (a:WA):WE:=λτ C Q χ=>a τ C (λxs C1=>xs.length<=sizeLine/\∀p,C1 p=none->Q (.ref p) (up C1 p (.lst xs))) χ
def Xh (P:Calls)(i:Nat)(a:WA):WE:=λτ C Q χ=>a τ C (λxs C1=>P i xs C1 Q χ) χ
def fA (r:List T->Hw->WK->Prop)(a:WA):WE:=λτ C Q χ=>a τ C (λxs C1=>r xs C1 Q) χ
def cw (ty:T->Hw->Prop)(r:T->List T->Hw->WK->Prop)(o:WE)(a:WA):WE:=λτ C Q χ=>o τ C (λx C1=>ty x C1/\a τ C1 (λxs C2=>r x xs C2 Q) χ) χ
def cz (c:WT)(a b:WE):WE:=λτ C Q χ=>c τ C (λk C1=>if k=true then a τ C1 Q χ else b τ C1 Q χ) χ
def tE (a b:WE):WE:=λτ C Q χ=>a τ C (λx C1=>∃k,x=.bl k/\if k=true then b τ C1 Q χ else Q (.bl false) C1) χ
def aV (a b:WE):WE:=λτ C Q χ=>a τ C (λx C1=>∃k,x=.bl k/\if k=true then Q (.bl true) C1 else b τ C1 Q χ) χ
def ke (a:WE):WE:=λτ C Q χ=>a τ C (λx C1=>∃k,x=.bl k/\Q (.bl (!k)) C1) χ
def eB:T->Hw->Bool->Prop
 | .non,_,k=>k=false
 | .bl b,_,k=>k=b
 | .int i,_,k=>k=(i !=0)
 | .str y,_,k=>y.length<=sizeLine/\k=((y.length:Int) !=0)
 | .tup xs,_,k=>k=!xs.isEmpty
 | .cl xs,_,k=>k=!xs.isEmpty
 | .ref a,C,k=>(∃xs,C a=some (.lst xs)/\k=!xs.isEmpty)\/∃kvs,C a=some (.dic kvs)/\k=!kvs.isEmpty
def r9 (a:WE):WT:=λτ C Q χ=>a τ C (λx C1=>∃k,eB x C1 k/\Q k C1) χ
def zJ (a:WE):WT:=λτ C Q χ=>a τ C (λx C1=>∃k,x=.bl k/\Q k C1) χ
def d0 (a b:WT):WT:=λτ C Q χ=>a τ C (λk C1=>if k=true then b τ C1 Q χ else Q false C1) χ
def zI (a b:WT):WT:=λτ C Q χ=>a τ C (λk C1=>if k=true then Q true C1 else b τ C1 Q χ) χ
def ai (a:WT):WT:=λτ C Q χ=>a τ C (λk C1=>Q (!k) C1) χ
def kg (r r':W2)(a b c:WE):WE:=λτ C Q χ=>a τ C (λx C1=>b τ C1 (λy C2=>r x y C2 λz d=>∃k,z=.bl k/\(if k=true then c τ d (λw e=>r' y w e Q) χ else Q (.bl false) d)) χ) χ
def B6:W2
 | .int i,.int j,C,Q=>Q (.int (i+j)) C
 | .str i,.str j,C,Q=>i.length+j.length<=sizeLine/\Q (.str (i++j)) C
 | .tup xs,.tup ys,C,Q=>xs.length+ys.length<=sizeLine/\Q (.tup (xs++ys)) C
 | .ref a,.ref b,C,Q=>∃xs ys,C a=some (.lst xs)/\C b=some (.lst ys)/\xs.length+ys.length<=sizeLine/\∀p,C p=none->Q (.ref p) (up C p (.lst (xs++ys)))
 | _,_,_,_=>False
def rj:W2
 | .int i,.int j,C,Q=>Q (.int (i-j)) C
 | _,_,_,_=>False
def i8:W2
 | .int i,.int j,C,Q=>ox i j/\Q (.int (i*j)) C
 | _,_,_,_=>False
def M7:W2
 | .int i,.int j,C,Q=>eA i j/\Q (.int (i/j)) C
 | _,_,_,_=>False
def Oz:W2
 | .int i,.int j,C,Q=>0<j/\Q (.int (i%j)) C
 | _,_,_,_=>False
def i5:W2
 | .int i,.int j,C,Q=>e9 i j/\Q (.int (i^j.toNat)) C
 | _,_,_,_=>False
def di:T->Hw->WK->Prop
 | .int i,C,Q=>Q (.int (-i)) C
 | _,_,_=>False
def bt:W2
 | .int i,.int j,C,Q=>Q (.bl (decide (i<j))) C
 | .str i,.str j,C,Q=>Q (.bl (decide (i.cps.toList<j.cps.toList))) C
 | _,_,_,_=>False
def bZ:W2
 | .int i,.int j,C,Q=>Q (.bl (decide (i<=j))) C
 | _,_,_,_=>False
def bv:W2
 | .int i,.int j,C,Q=>Q (.bl (decide (j<i))) C
 | _,_,_,_=>False
def ac:W2
 | .int i,.int j,C,Q=>Q (.bl (decide (j<=i))) C
 | _,_,_,_=>False
mutual
def Xe:T->T->Bool
 | .non,.non=>true
 | .bl a,.bl b=>a==b
 | .bl a,.int b=>(if a then 1 else 0)==b
 | .int a,.bl b=>a==(if b then 1 else 0)
 | .int a,.int b=>a==b
 | .str a,.str b=>a==b
 | .tup xs,.tup ys=>Qf xs ys
 | _,_=>false
def Qf:List T->List T->Bool
 | [],[]=>true
 | x::xs,y::ys=>Xe x y&&Qf xs ys
 | _,_=>false
end
mutual
def Xp:T->Nat->Bool
 | .tup xs,n+1=>Y2 xs n
 | .tup _,0=>false
 | .ref _,_=>false
 | .cl _,_=>false
 | _,_=>true
def Y2:List T->Nat->Bool
 | [],_=>true
 | x::xs,n=>Xp x n&&Y2 xs n
end
def Rb:Nat:=100
def Yz (x:T):Prop:=Xp x Rb=true
def Ke (c:Bool):W2
 | .ref a,.ref b,C,Q=>∃xs ys,C a=some (.lst xs)/\C b=some (.lst ys)/\(xs.length=ys.length->Y2 xs Rb=true/\Y2 ys Rb=true)/\Q (.bl (if c then !Qf xs ys else Qf xs ys)) C
 | .ref a,y,C,Q=>(∃xs,C a=some (.lst xs))/\Yz y/\Q (.bl c) C
 | x,.ref b,C,Q=>(∃ys,C b=some (.lst ys))/\Yz x/\Q (.bl c) C
 | x,y,C,Q=>Yz x/\Yz y/\Q (.bl (if c then !Xe x y else Xe x y)) C
abbrev z0:W2:=Ke false
abbrev i7:W2:=Ke true
def va:W2:=λx y C Q=>y=.non/\Q (.bl (match x with | .non=>true | _=>false)) C
def i6:W2:=λx y C Q=>y=.non/\Q (.bl (match x with | .non=>false | _=>true)) C
def Eg (x:T)(xs:List T):Bool:=xs.any λy=>Xe y x
def nA (b:Bool):W2
 | .str i,.str j,C,Q=>Q (.bl (if b then(!(!(Builtin.Str.occurrences j i 0 j.length 1).isEmpty)) else(!(Builtin.Str.occurrences j i 0 j.length 1).isEmpty))) C
 | x,.tup ys,C,Q=>Yz x/\Y2 ys Rb=true/\Q (.bl (if b then !Eg x ys else Eg x ys)) C
 | x,.cl ys,C,Q=>Yz x/\Y2 ys Rb=true/\Q (.bl (if b then !Eg x ys else Eg x ys)) C
 | x,.ref a,C,Q=>∃ys,C a=some (.lst ys)/\Yz x/\Y2 ys Rb=true/\Q (.bl (if b then !Eg x ys else Eg x ys)) C
 | _,_,_,_=>False
abbrev bu:W2:=nA false
abbrev wZ:W2:=nA true
def Ep {α:Type}(xs:List α)(lo hi:Option Int):List α:=(xs.drop (HT.sIx xs.length 0 lo)).take (HT.sIx xs.length xs.length hi-HT.sIx xs.length 0 lo)
def xa:W2
 | .tup xs,.int i,C,Q=>∃v,Nr xs i=some v/\Q v C
 | .cl xs,.int i,C,Q=>∃v,Nr xs i=some v/\Q v C
 | .str z,.int i,C,Q=>z.length<=sizeLine/\∃c,Nr z.cps.toList i=some c/\Q (.str ⟨#[c]⟩) C
 | .ref a,.int i,C,Q=>∃xs v,C a=some (.lst xs)/\Nr xs i=some v/\Q v C
 | _,_,_,_=>False
def bI:Sw->Hw->(Option Int->Hw->Prop)->WX->Prop:=λ_ C Q _=>Q none C
def oK (a:WE):Sw->Hw->(Option Int->Hw->Prop)->WX->Prop:=λτ C Q χ=>a τ C (λx C1=>∃i,x=.int i/\Q (some i) C1) χ
def dg:T->Option Int->Option Int->Hw->WK->Prop
 | .tup xs,lo,hi,C,Q=>¬(HT.sIx xs.length 0 lo=0/\HT.sIx xs.length xs.length hi=xs.length)/\Q (.tup (Ep xs lo hi)) C
 | .cl xs,lo,hi,C,Q=>∀p,C p=none->Q (.ref p) (up C p (.lst (Ep xs lo hi)))
 | .str z,lo,hi,C,Q=>z.length<=sizeLine/\Q (.str (Txt.slice z lo hi)) C
 | .ref a,lo,hi,C,Q=>∃xs,C a=some (.lst xs)/\∀p,C p=none->Q (.ref p) (up C p (.lst (Ep xs lo hi)))
 | _,_,_,_,_=>False
def bP (a:WE)(lo hi:Sw->Hw->(Option Int->Hw->Prop)->WX->Prop):WE:=λτ C Q χ=>a τ C (λx C1=>lo τ C1 (λl C2=>hi τ C2 (λh b=>dg x l h b Q) χ) χ) χ
def fP:List T->Hw->WK->Prop:=λvs C Q=>∃x,vs=[x]/\match x with
 | .str z=>z.length<=sizeLine/\Q (.int z.length) C
 | .tup xs=>Q (.int xs.length) C
 | .cl xs=>Q (.int xs.length) C
 | .ref a=>∃xs,C a=some (.lst xs)/\Q (.int xs.length) C
 | _=>False
def fO:List T->Hw->WK->Prop:=λvs C Q=>∃i j,vs=[.int i,.int j]/\Q (.int (if j>i then j else i)) C
def cJ:List T->Hw->WK->Prop:=λvs C Q=>∃i j,vs=[.int i,.int j]/\Q (.int (if j<i then j else i)) C
def sw:List T->Hw->WK->Prop:=λvs C Q=>∃x,vs=[x]/\match x with
 | .tup xs=>Q (.tup xs) C
 | .cl xs=>Q (.tup xs) C
 | .ref a=>∃xs,C a=some (.lst xs)/\Q (.tup xs) C
 | _=>False
def sx:List T->Hw->WK->Prop:=λvs C Q=>∃x,vs=[x]/\match x with
 | .tup xs=>∀p,C p=none->Q (.ref p) (up C p (.lst xs))
 | .cl xs=>∀p,C p=none->Q (.ref p) (up C p (.lst xs))
 | .ref a=>∃xs,C a=some (.lst xs)/\∀p,C p=none->Q (.ref p) (up C p (.lst xs))
 | _=>False
def dj:T->Hw->String->Prop
 | .non,_,n=>n="NoneType"
 | .bl _,_,n=>n="bool"
 | .int _,_,n=>n="int"
 | .str _,_,n=>n="str"
 | .tup _,_,n=>n="tuple"
 | .cl _,_,n=>n="list"
 | .ref a,C,n=>(n="list"/\∃xs,C a=some (.lst xs))\/(n="dict"/\∃kvs,C a=some (.dic kvs))
def fh (n c:String):Bool:=n==c||(n=="bool"&&c=="int")
def cy (a:WE)(c:String):WE:=λτ C Q χ=>a τ C (λx C1=>∃n,dj x C1 n/\Q (.bl (fh n c)) C1) χ
def iG:T->Hw->Prop:=λx C=>∃a xs,x=.ref a/\C a=some (.lst xs)
def bz:T->Hw->Prop:=λx _=>∃z,x=.str z
def jw:T->List T->Hw->WK->Prop:=λx vs C Q=>∃a xs y,x=.ref a/\vs=[y]/\C a=some (.lst xs)/\xs.length<sizeLine/\Q .non (up C a (.lst (xs++[y])))
def gW:T->List T->Hw->WK->Prop:=λx vs C Q=>∃a xs y,x=.ref a/\vs=[]/\C a=some (.lst xs)/\xs[xs.length-1]?=some y/\Q y (up C a (.lst xs.dropLast))
def mZ:T->List T->Hw->WK->Prop:=λx vs C Q=>∃a xs i k y,x=.ref a/\vs=[.int i]/\C a=some (.lst xs)/\ -(2^63)<=i/\i<2^63/\seqIndex? i xs.length=some k/\xs[k]?=some y/\Q y (up C a (.lst (xs.eraseIdx k)))
def Nq (i:Nat):WG:=λv τ C Q _=>Q (τ.set i (some v)) C
def A3:sJ:=λvs τ C Q _=>vs=[]/\Q τ C
def Lg (g:WG)(gs:sJ):sJ:=λvs τ C Q χ=>∃v r,vs=v::r/\g v τ C (λa C'=>gs r a C' Q χ) χ
def eM (gs:sJ):WG:=λv τ C Q χ=>∃xs,v=.tup xs/\gs xs τ C Q χ
def bN (o i:WE):WG:=λv τ C Q χ=>o τ C (λx C1=>i τ C1 (λy C2=>∃a xs k j,x=.ref a/\y=.int k/\C2 a=some (.lst xs)/\uL xs.length k=some j/\Q τ (up C2 a (.lst (xs.set j v)))) χ) χ
def Qp:WS:=λD τ C=>D.nx τ C
def Su (a b:WS):WS:=λD τ C=>a {D with nx:=b D} τ C
def Aj (e:WE):WS:=λD τ C=>e τ C (λ_ C1=>D.nx τ C1) D.xc
def N4 (e:WE):WS:=λD τ C=>e τ C D.rt D.xc
def gn:WS:=λD _ C=>D.rt .non C
def xr (c:WT)(a b:WS):WS:=λD τ C=>c τ C (λk C1=>if k=true then a D τ C1 else b D τ C1) D.xc
def Ol (e:WE)(g:WG):WS:=λD τ C=>e τ C (λx C1=>g x τ C1 D.nx D.xc) D.xc
def dF:WS:=λD τ C=>D.bk τ C
def oG:WS:=λD τ C=>D.ct τ C
def vH:WS:=λ_ _ _=>False
def A8 (g:WG)(b:WS)(ok:Hw->Prop)(D:We):List T->Sw->Hw->Prop
 | [],τ,C=>ok C/\D.nx τ C
 | x::xs,τ,C=>ok C/\g x τ C (λa C2=>b {D with nx:=A8 g b ok D xs,ct:=A8 g b ok D xs,bk:=D.nx} a C2) D.xc
def rN (i:WI)(g:WG)(b:WS):WS:=λD τ C=>i τ C (λxs ok C1=>A8 g b ok D xs τ C1) D.xc
def lM (e:WE):WI:=λτ C R χ=>e τ C (λv C1=>match v with
 | .tup xs=>R xs (λ_=>True) C1
 | .cl xs=>R xs (λ_=>True) C1
 | .str z=>R (z.cps.toList.map λc=>T.str ⟨#[c]⟩) (λ_=>True) C1
 | .ref a=>∃xs,C1 a=some (.lst xs)/\R xs (λC2=>C2 a=some (.lst xs)) C1
 | _=>False) χ
def rng (lo:Int)(n:Nat):List T:=(List.range n).map λk:Nat=>T.int (lo+k)
def ci (a:WA):WI:=λτ C R χ=>a τ C (λvs C1=>∃j:Int,vs=[.int j]/\ -(2^62)<=j/\j<2^62/\R (rng 0 j.toNat) (λ_=>True) C1) χ
def aL (a:WA):WI:=λτ C R χ=>a τ C (λvs C1=>∃i j:Int,vs=[.int i,.int j]/\(-(2^62)<=i/\i<2^62/\ -(2^62)<=j/\j<2^62)/\R (rng i (j-i).toNat) (λ_=>True) C1) χ
def aM (a:WA):WI:=λτ C R χ=>a τ C (λvs C1=>∃z,vs=[.str z]/\R (z.cps.toList.zipIdx.map λc=>T.tup [.int c.2,.str ⟨#[c.1]⟩]) (λ_=>True) C1) χ
def Gk (cap:List (Option Nat))(τ:Sw):Sw:=cap.map λo=>o.bind λi=>(τ[i]?).join
def nH:WT:=λ_ C Q _=>Q true C
def Ly (g:WG)(c:WT)(e:WE)(ok:Hw->Prop)(τ:Sw)(Q:List T->Hw->Prop)(χ:WX):List T->List T->Hw->Prop
 | [],a,C=>ok C/\Q a C
 | x::xs,a,C=>ok C/\g x τ C (λd C2=>c d C2 (λb f=>if b=true then e d f (λv h=>a.length<sizeLine/\Ly g c e ok τ Q χ xs (a++[v]) h) χ else Ly g c e ok τ Q χ xs a f) χ) χ
def ze (cap:List (Option Nat))(i:WI)(g:WG)(c:WT)(e:WE):WE:=λτ C Q χ=>i τ C (λxs ok C1=>Ly g c e ok (Gk cap τ) (λvs C2=>∀p,C2 p=none->Q (.ref p) (up C2 p (.lst vs))) χ xs [] C1) χ
structure Df where
 n:Nat
 ar:Nat
 body:Calls->WS
def Jo (pr:List Df):Nat->Calls
 | 0=>λ_ _ _ _ _=>False
 | n+1=>λi vs C Q χ=>∃d,pr[i]?=some d/\vs.length=d.ar/\d.body (Jo pr n) (ZUD Q χ) (vs.map some++List.replicate (d.n-d.ar) none) C
section
variable {X:Cx}{WZ:List (WP×Obj)}{σ:L2.St}{H:Hp}{s:WR}
def sc:T->Option V
 | .non=>some .non
 | .bl b=>some (.bl b)
 | .int i=>some (.int i)
 | .str z=>some (.str z)
 | _=>none
def Vx {K:WY}{H:Hp}{x z:V}{v:T}(h:sc v=some z)(r:Ju K H x v):x=z/\za z=true:=by
 cases v with
 | non=>cases h;exact⟨La r,FQ⟩
 | bl b=>cases h;exact⟨Os r,FQ⟩
 | int i=>cases h;exact⟨Yi r,FQ⟩
 | str z=>cases h;exact⟨Jm r,FQ⟩
 | _=>cases h
def t8 {v w:T}{a b:V}(h:sc v=some a)(h':sc w=some b):Xe v w=lZ a b:=by
 cases v<;>cases w<;>cases h<;>cases h'<;>unfold Xe<;>rfl
mutual
def zc:∀(v:T) {n:Nat},Xp v n=true->Xe v v=true
 | .non,_,_=>by unfold Xe;rfl
 | .bl b,_,_=>by unfold Xe;simp
 | .int b,_,_=>by unfold Xe;simp
 | .str b,_,_=>by unfold Xe;simp
 | .tup xs,0,h=>by unfold Xp at h;cases h
 | .tup xs,n+1,h=>by unfold Xp at h;unfold Xe;exact El xs h
 | .ref a,_,h=>by unfold Xp at h;cases h
 | .cl a,_,h=>by unfold Xp at h;cases h
def El:∀(v:List T) {n:Nat},Y2 v n=true->Qf v v=true
 | [],_,_=>by unfold Qf;rfl
 | x::xs,n,h=>by
  unfold Y2 at h;rw[CW] at h;unfold Qf;rw[zc x h.1,El xs h.2];rfl
end
def X4 {v:T}{n:Nat}(h:Xp v n=true)(e:sc v=none):∃ts m,v=.tup ts/\n=m+1/\Y2 ts m=true:=by
 cases v with
 | tup ts=>
  cases n with
  | zero=>unfold Xp at h;cases h
  | succ m=>unfold Xp at h;exact⟨ts,m,FQ,FQ,h⟩
 | ref a=>unfold Xp at h;cases h
 | cl a=>unfold Xp at h;cases h
 | non=>cases e
 | bl b=>cases e
 | int b=>cases e
 | str b=>cases e
def Wu:∀{vs:List T} {n i:Nat} {v:T},Y2 vs n=true->vs[i]?=some v->Xp v n=true
 | [],_,_,_,_,e=>by simp at e
 | x::xs,n,0,v,h,e=>by
  unfold Y2 at h;rw[CW] at h;simp at e;subst e;exact h.1
 | x::xs,n,i+1,v,h,e=>by
  unfold Y2 at h;rw[CW] at h;exact Wu h.2 (by simpa using e)
def jc (I:Zq X WZ σ H s):∀(n:Nat) {v w:T} {x:V},Xp v n=true->Xp w n=true->Ju X.K H x v->Ju X.K H x w->v=w:=by
 intro n
 induction n with
 | zero=>
  intro v w x u l o c
  cases ev:sc v with
  | none=>obtain⟨_,_,_,h,_⟩:=X4 u ev;cases h
  | some a=>
   cases d:sc w with
   | none=>obtain⟨_,_,_,h,_⟩:=X4 l d;cases h
   | some b=>
    obtain⟨p,_⟩:=Vx ev o;obtain⟨i,_⟩:=Vx d c;have e:a=b:=p.symm.trans i;subst e
    cases v<;>cases ev<;>cases w<;>cases d<;>rfl
 | succ n B=>
  intro v w x u l o c;have g:∀{ys:List V} {vs ws:List T},Y2 vs n=true->Y2 ws n=true->Reps X.K H ys vs->Reps X.K H ys ws->vs=ws:=by
   intro ys vs
   induction vs generalizing ys with
   | nil=>
    intro ws _ _ a b;have:=Xx a;subst this
    cases ws with
    | nil=>rfl
    | cons w ws=>obtain⟨_,_,e,_⟩:=Yk b;cases e
   | cons v vs z=>
    intro ws q t a b;obtain⟨y,r,rfl,C,D⟩:=Yk a
    cases ws with
    | nil=>have:=Xx b;cases this
    | cons w ws=>
     obtain⟨L,r',e,b1,b2⟩:=Yk b
     cases e
     unfold Y2 at q t;rw[CW] at q t;rw[B q.1 t.1 C b1,z q.2 t.2 D b2]
  cases ev:sc v with
  | none=>
   obtain⟨ts,m,rfl,em,E⟩:=X4 u ev
   cases em
   obtain⟨a,ys,rfl,hq,r⟩:=Yn o
   cases d:sc w with
   | none=>
    obtain⟨us,G,rfl,em,A⟩:=X4 l d
    cases em
    obtain⟨b,zs,e,j,r'⟩:=Yn c
    cases e
    have e:=I.tuple_inj hq j;subst e;rw[g E A r r']
   | some b=>
    obtain⟨i,f⟩:=Vx d c;subst i
    cases f
  | some a=>
   obtain⟨p,f⟩:=Vx ev o
   cases d:sc w with
   | none=>
    obtain⟨us,G,rfl,em,A⟩:=X4 l d;obtain⟨b,zs,e,j,r'⟩:=Yn c;subst p;subst e
    cases f
   | some b=>
    obtain⟨i,_⟩:=Vx d c;have e:a=b:=p.symm.trans i;subst e
    cases v<;>cases ev<;>cases w<;>cases d<;>rfl
def sW (ts us:List T)(j:Nat):Bool:=match ts[j]?,us[j]? with
 | some a,some b=>Xe a b
 | _,_=>true
def To:∀(vs ws:List T),((List.range (min vs.length ws.length)).all (sW vs ws)&&vs.length==ws.length)=Qf vs ws
 | [],[]=>by unfold Qf;rfl
 | [],_::_=>by unfold Qf;simp
 | _::_,[]=>by unfold Qf;simp
 | v::vs,w::ws=>by
  unfold Qf;rw[<-To vs ws];rw[YF,YF,show min (vs.length+1) (ws.length+1)=min vs.length ws.length+1 by omega,List.range_succ_eq_map,List.all_cons,List.all_map];have a:sW (v::vs) (w::ws) 0=Xe v w:=rfl;have b:(sW (v::vs) (w::ws)∘Nat.succ)=sW vs ws:=by funext j;simp[Function.comp_def,sW]
  rw[a,b];simp[Bool.and_assoc]
def oU (I:Zq X WZ σ H s):∀(n:Nat) {v w:T} {x y:V} {u u':WQ} {A:WM},Xp v n=true->Xp w n=true->Ju X.K H x v->Ju X.K H y w->Z9 x u->Z9 y u'->A.units+n<cLine->
  SeqAt.EqAt A s u u' (Xe v w):=by
 intro n
 induction n with
 | zero=>
  intro v w x y u u' A E q G l o d N
  cases ev:sc v with
  | none=>obtain⟨_,_,_,h,_⟩:=X4 E ev;cases h
  | some a=>
   cases g:sc w with
   | none=>obtain⟨_,_,_,h,_⟩:=X4 q g;cases h
   | some b=>
    obtain⟨rfl,f1⟩:=Vx ev G;obtain⟨rfl,f2⟩:=Vx g l;rw[t8 ev g];exact t9 o d f1 f2
 | succ n Q=>
  intro v w x y u u' A E q G l o d N;have f:A.units<cLine:=by omega
  cases ev:sc v with
  | some a=>
   obtain⟨rfl,f1⟩:=Vx ev G
   cases g:sc w with
   | some b=>
    obtain⟨rfl,f2⟩:=Vx g l;rw[t8 ev g];exact t9 o d f1 f2
   | none=>
    obtain⟨ts,m,rfl,em,L⟩:=X4 q g;obtain⟨b,zs,rfl,hq,r⟩:=Yn l
    cases d
    obtain⟨its,_,p,_⟩:=I.tuple hq
    cases v with
    | non=>cases ev;cases o;unfold Xe;exact SeqAt.EqAt.none_tuple p f
    | bl c=>cases ev;cases o;unfold Xe;exact SeqAt.EqAt.bool_tuple c p f
    | int i=>cases ev;obtain⟨t,rfl⟩:=o;unfold Xe;exact SeqAt.EqAt.int_tuple i t p f
    | str i=>cases ev;obtain⟨t,rfl⟩:=o;unfold Xe;exact SeqAt.EqAt.str_tuple i t p f
    | _=>cases ev
  | none=>
   obtain⟨ts,m,rfl,em,L⟩:=X4 E ev
   cases em
   obtain⟨a,ys,rfl,hq,r⟩:=Yn G
   cases o
   obtain⟨its,rI,p,_⟩:=I.tuple hq
   cases g:sc w with
   | some b=>
    obtain⟨rfl,f2⟩:=Vx g l
    cases w with
    | non=>cases g;cases d;unfold Xe;exact SeqAt.EqAt.tuple_none p f
    | bl c=>cases g;cases d;unfold Xe;exact SeqAt.EqAt.tuple_bool c p f
    | int i=>cases g;obtain⟨t,rfl⟩:=d;unfold Xe;exact SeqAt.EqAt.tuple_int i t p f
    | str i=>cases g;obtain⟨t,rfl⟩:=d;unfold Xe;exact SeqAt.EqAt.tuple_str i t p f
    | _=>cases g
   | none=>
    obtain⟨us,m',rfl,em,U⟩:=X4 q g
    cases em
    obtain⟨b,zs,rfl,z,r'⟩:=Yn l
    cases d
    obtain⟨its',B,p',_⟩:=I.tuple z;by_cases C:a=b
    ·subst C;have e:=jc I (n+1) E q (Xs hq r) (Xs z r');rw[e,zc _ q];exact SeqAt.EqAt.same _
    ·have l1:its.toArray.size=ts.length:=by rw[XJ,<-rI.length,r.length]
     have l2:its'.toArray.size=us.length:=by rw[XJ,<-B.length,r'.length]
     have D:=SeqAt.EqAt.of_refs C (SeqAt.RcAt.tuples (A:=A) (e:=sW ts us) p p' f (λj h1 h2=>by
      have i1:ts[j]?=some (ts[j]'(by omega)):=by simp[l1▸h1]
      have i2:us[j]?=some (us[j]'(by omega)):=by simp[l2▸h2]
      obtain⟨x1,Y,q1⟩:=r.get i1;obtain⟨x2,g2,q2⟩:=r'.get i2;obtain⟨u1,k1,z1⟩:=rI.get Y;obtain⟨u2,k2,z2⟩:=B.get g2;have e1:its.toArray[j]=u1:=by
       have:its[j]?=some its.toArray[j]:=by simp
       rw[k1] at this;exact(YH this).symm
      have e2:its'.toArray[j]=u2:=by
       have:its'[j]?=some its'.toArray[j]:=by simp
       rw[k2] at this;exact(YH this).symm
      rw[e1,e2];unfold sW;simp only[i1,i2];exact Q (Wu L i1) (Wu U i2) q1 q2 z1 z2 (by show A.units+1+n<cLine;omega)))
     rw[l1,l2,To] at D;unfold Xe;exact D
end
def Xd (K:WY)(H:Hp)(σ:L2.St)(τ:Sw):Prop:=σ.length=τ.length/\∀(i:Nat) (v:T),τ[i]?=some (some v)->∃x,σ[i]?=some (some x)/\Ju K H x v
def Xd.tx {K:WY}{H H':Hp}{σ:L2.St}{τ:Sw}(h:Xd K H σ τ)(t:Tx H H'):Xd K H' σ τ:=⟨h.1,λi v e=>let ⟨x,a,b⟩:=h.2 i v e;⟨x,a,b.tx t⟩⟩
def Xd.set {K:WY}{H:Hp}{σ:L2.St}{τ:Sw}(h:Xd K H σ τ){i:Nat}{x:V}{v:T}(r:Ju K H x v):Xd K H (σ.set i (some x)) (τ.set i (some v)):=by
 refine⟨by rw[BP,BP];exact h.1,λj w e=>?_⟩;by_cases hj:i=j
 ·subst hj;by_cases hi:i<τ.length
  ·rw[BN hi] at e
   cases e
   exact⟨x,BN (by rw[h.1];exact hi),r⟩
  ·rw[DQ (by rw[BP];omega)] at e
   cases e
 ·rw[BW hj] at e |-;exact h.2 j w e
abbrev QE (K:WY)(F H:Hp)(Q:VK)(Q':WK):Prop:=∀x v H' C',Rl K F H' C'->Tx H H'->Ju K H' x v->Q' v C'->Q x H'
abbrev QT (K:WY)(F H:Hp)(Q:Bool->Hp->Prop)(Q':Bool->Hw->Prop):Prop:=∀b H' C',Rl K F H' C'->Tx H H'->Q' b C'->Q b H'
abbrev QA (K:WY)(F H:Hp)(Q:List V->Hp->Prop)(Q':List T->Hw->Prop):Prop:=∀xs vs H' C',Rl K F H' C'->Tx H H'->Reps K H' xs vs->Q' vs C'->Q xs H'
def QE.at {K:WY}{F H H1:Hp}{Q:VK}{Q':WK}(q:QE K F H Q Q')(t:Tx H H1):QE K F H1 Q Q':=λx v H' C' R t'=>q x v H' C' R (t.trans t')
def Tq (K:WY)(te:TE)(we:WE):Prop:=∀(F H:Hp) (C:Hw) (σ:L2.St) (τ:Sw) (Q:VK) (Q':WK) (χ:WX),Rl K F H C->Xd K H σ τ->we τ C Q' χ->QE K F H Q Q'->te σ H Q
def Nl (K:WY)(te:TT)(we:WT):Prop:=∀(F H:Hp) (C:Hw) (σ:L2.St) (τ:Sw) (Q:Bool->Hp->Prop) (Q':Bool->Hw->Prop) (χ:WX),Rl K F H C->Xd K H σ τ->we τ C Q' χ->QT K F H Q Q'->te σ H Q
def Bv (K:WY)(te:TA)(we:WA):Prop:=∀(F H:Hp) (C:Hw) (σ:L2.St) (τ:Sw) (Q:List V->Hp->Prop) (Q':List T->Hw->Prop) (χ:WX),Rl K F H C->Xd K H σ τ->we τ C Q' χ->QA K F H Q Q'->te σ H Q
def kL (K:WY)(r:R2)(w:W2):Prop:=∀(F H:Hp) (C:Hw) (x y:V) (v u:T) (Q:VK) (Q':WK),Rl K F H C->Ju K H x v->Ju K H y u->w v u C Q'->QE K F H Q Q'->r x y H Q
def fU (K:WY)(r:List V->Hp->VK->Prop)(w:List T->Hw->WK->Prop):Prop:=∀(F H:Hp) (C:Hw) (xs:List V) (vs:List T) (Q:VK) (Q':WK),Rl K F H C->Reps K H xs vs->w vs C Q'->QE K F H Q Q'->r xs H Q
def cU (K:WY)(r:V->List V->Hp->VK->Prop)(w:T->List T->Hw->WK->Prop):Prop:=∀(F H:Hp) (C:Hw) (x:V) (v:T) (xs:List V) (vs:List T) (Q:VK) (Q':WK),Rl K F H C->Ju K H x v->Reps K H xs vs->w v vs C Q'->QE K F H Q Q'->r x xs H Q
def Ji (X:Cx)(e:WW)(w:WE):Prop:=∃t,PE X e t/\Tq X.K t w
def wR (X:Cx)(e:WW)(w:WT):Prop:=∃t,PT X e t/\Nl X.K t w
def kN (X:Cx)(e:WW)(w:WT):Prop:=∃t,PW X e t/\Nl X.K t w
def Lz (X:Cx)(es:List WW)(w:WA):Prop:=∃t,PA X es t/\Bv X.K t w
def Gy (X:Cx)(f:WQ->WQ->Sem WQ)(w:W2):Prop:=∃r,M4 X f r/\kL X.K r w
def Zao (X:Cx)(w:W2):Prop:=∃r,sZ X r/\kL X.K r w
def Pp (X:Cx)(f:WQ)(w:List T->Hw->WK->Prop):Prop:=∃r,Vo X f r/\fU X.K r w
def iy (X:Cx)(id:String)(w:T->List T->Hw->WK->Prop):Prop:=∃r,eg X id r/\cU X.K r w
section
variable {K:WY}{ta tb tc:TE}{wa wb wc:WE}{r r':R2}{w w':W2}
def hU {i:Nat}:Tq K (iK i) (Yp i):=λF H C σ τ Q Q' χ R S h q=>by
 obtain⟨v,e,h⟩:=h;obtain⟨x,ex,a⟩:=S.2 i v e;exact⟨x,ex,q x v H C R (Tx.refl H) a h⟩
def gh {x:V}{v:T}(h:∀H,Ju K H x v):Tq K (tC x) (eC v):=λF H C σ τ Q Q' χ R S w q=>q x v H C R (Tx.refl H) (h H) w
def xp (ha:Tq K ta wa)(hb:Tq K tb wb)(a:kL K r w):Tq K (nK r ta tb) (X5 w wa wb):=λF H C σ τ Q Q' χ R S h q=>by
 refine ha F H C σ τ _ _ χ R S h λx v H1 C1 R1 t1 b h1=>?_;refine hb F H1 C1 σ τ _ _ χ R1 (S.tx t1) h1 λy u H2 C2 R2 t2 c h2=>?_;exact a F H2 C2 x y v u Q Q' R2 (b.tx t2) c h2 (QE.at q (t1.trans t2))
def gc:Bv K vj Zv:=λF H C σ τ Q Q' χ R S h q=>q [] [] H C R (Tx.refl H) Yy h
def zO {t:TA}{wt:WA}(ha:Tq K ta wa)(hb:Bv K t wt):Bv K (Ab ta t) (Z1 wa wt):=λF H C σ τ Q Q' χ R S h q=>by
 refine ha F H C σ τ _ _ χ R S h λx v H1 C1 R1 t1 a h1=>?_;exact hb F H1 C1 σ τ _ _ χ R1 (S.tx t1) h1 λxs vs H2 C2 R2 t2 rs h2=>q (x::xs) (v::vs) H2 C2 R2 (t1.trans t2) (Yl (a.tx t2) rs) h2
def hW {t:TA}{wt:WA}(ha:Bv K t wt):Tq K (iL t) (Fb wt):=λF H C σ τ Q Q' χ R S h q=>by
 refine ha F H C σ τ _ _ χ R S h λxs vs H1 C1 R1 t1 rs h1=>⟨by rw[rs.length];exact h1.1,λp a=>?_⟩;exact q _ _ _ C1 (R1.hid a) (t1.trans (Tx.new a)) (Xs (Tw.of Ya) (rs.tx (Tx.new a))) h1.2
def gd {t:TA}{wt:WA}(ha:Bv K t wt):Tq K (iS t) (Ng wt):=λF H C σ τ Q Q' χ R S h q=>by
 refine ha F H C σ τ _ _ χ R S h λxs vs H1 C1 R1 t1 rs h1=>⟨by rw[rs.length];exact h1.1,λp a=>?_⟩;exact q _ _ _ _ (R1.newL a rs) (t1.trans (Tx.new a)) Yu (h1.2 p (R1.free a))
def gj {r:List V->Hp->VK->Prop}{w:List T->Hw->WK->Prop}{t:TA}{wt:WA}(a:fU K r w)(ha:Bv K t wt):Tq K (dw r t) (fA w wt):=λF H C σ τ Q Q' χ R S h q=>by
 refine ha F H C σ τ _ _ χ R S h λxs vs H1 C1 R1 t1 rs h1=>?_;exact a F H1 C1 xs vs Q Q' R1 rs h1 (QE.at q t1)
def dC {tt:TT}{wt:WT}(hc:Nl K tt wt)(ha:Tq K ta wa)(hb:Tq K tb wb):Tq K (b8 tt ta tb) (cz wt wa wb):=λF H C σ τ Q Q' χ R S h q=>by
 refine hc F H C σ τ _ _ χ R S h λk H1 C1 R1 t1 h1=>?_
 cases k with
 | true=>exact ha F H1 C1 σ τ Q Q' χ R1 (S.tx t1) h1 (QE.at q t1)
 | false=>exact hb F H1 C1 σ τ Q Q' χ R1 (S.tx t1) h1 (QE.at q t1)
def oF (ha:Tq K ta wa)(hb:Tq K tb wb):Tq K (vn ta tb) (tE wa wb):=λF H C σ τ Q Q' χ R S h q=>by
 refine ha F H C σ τ _ _ χ R S h λx v H1 C1 R1 t1 a h1=>?_;obtain⟨k,rfl,h1⟩:=h1;refine⟨k,Os a,?_⟩
 cases k with
 | true=>exact hb F H1 C1 σ τ Q Q' χ R1 (S.tx t1) h1 (QE.at q t1)
 | false=>exact q _ _ H1 C1 R1 t1 J5 h1
def gb (ha:Tq K ta wa):Tq K (o9 ta) (ke wa):=λF H C σ τ Q Q' χ R S h q=>by
 refine ha F H C σ τ _ _ χ R S h λx v H1 C1 R1 t1 a h1=>?_;obtain⟨k,rfl,h1⟩:=h1;exact⟨k,Os a,q _ _ H1 C1 R1 t1 J5 h1⟩
def gi (ha:Tq K ta wa):Nl K (vh ta) (zJ wa):=λF H C σ τ Q Q' χ R S h q=>by
 refine ha F H C σ τ _ _ χ R S h λx v H1 C1 R1 t1 a h1=>?_;obtain⟨k,rfl,h1⟩:=h1;exact⟨k,Os a,q k H1 C1 R1 t1 h1⟩
def hZ (ha:Tq K ta wa):Nl K (λσ H Q=>ta σ H λx H'=>∃k,kK K x H' k/\Q k H') (r9 wa):=λF H C σ τ Q Q' χ R S h q=>by
 refine ha F H C σ τ _ _ χ R S h λx v H1 C1 R1 t1 c h1=>?_;obtain⟨k,hk,h1⟩:=h1;refine⟨k,?_,q k H1 C1 R1 t1 h1⟩;have d:∀{ys:List V} {xs:List T},Reps K H1 ys xs->ys.isEmpty=xs.isEmpty:=λ{ys xs} r=>by
  have:=r.length
  cases ys<;>cases xs<;>simp_all
 cases v with
 | non=>cases La c;exact hk
 | bl b=>cases Os c;exact hk
 | int i=>cases Yi c;exact hk
 | str z=>cases Jm c;exact hk
 | tup xs=>
  obtain⟨a,ys,rfl,hq,r⟩:=Yn c;refine .inr (.inl ⟨ys,hq,?_⟩);rw[d r];exact hk
 | cl xs=>
  obtain⟨a,ys,rfl,hq,r⟩:=N7 c;refine .inl ⟨ys,hq.sq,?_⟩;rw[d r];exact hk
 | ref a=>
  cases Z7 c
  rcases hk with⟨xs,hx,e⟩ | ⟨kvs,hx,e⟩
  ·obtain⟨ys,hy,r⟩:=R1.lst hx;refine .inl ⟨ys,Vr.of hy,?_⟩;rw[d r];exact e
  ·obtain⟨ks,hy,r⟩:=R1.obj a _ hx;refine .inr (.inr ⟨ks,hy,?_⟩);have:=Paired.length r;rw[e]
   cases ks<;>cases kvs<;>simp_all
def dD {t u:TT}{w w':WT}(ha:Nl K t w)(hb:Nl K u w'):Nl K (h8 t u) (d0 w w'):=λF H C σ τ Q Q' χ R S h q=>by
 refine ha F H C σ τ _ _ χ R S h λk H1 C1 R1 t1 h1=>?_
 cases k with
 | true=>exact hb F H1 C1 σ τ Q Q' χ R1 (S.tx t1) h1 λb H' C' R' t'=>q b H' C' R' (t1.trans t')
 | false=>exact q _ H1 C1 R1 t1 h1
def oE {t u:TT}{w w':WT}(ha:Nl K t w)(hb:Nl K u w'):Nl K (dn t u) (zI w w'):=λF H C σ τ Q Q' χ R S h q=>by
 refine ha F H C σ τ _ _ χ R S h λk H1 C1 R1 t1 h1=>?_
 cases k with
 | true=>exact q _ H1 C1 R1 t1 h1
 | false=>exact hb F H1 C1 σ τ Q Q' χ R1 (S.tx t1) h1 λb H' C' R' t'=>q b H' C' R' (t1.trans t')
end
section
variable {X:Cx}
set_option tactic.hygienic true in
def Xt:Gy X (binaryOp .Add) B6:=⟨_,mQ.or (ya.or (mP.or (uk.or qx))),λF H C x y v u Q Q' R g l h q=>by
 cases v<;>cases u<;>first | exact False.elim h | skip
 case int.int i j=>cases Yi g;cases Yi l;exact .inl ⟨i,j,FQ,FQ,q _ _ H C R (Tx.refl H) Js h⟩
 case str.str i j=>cases Jm g;cases Jm l;exact .inr (.inl ⟨i,j,FQ,FQ,h.1,q _ _ H C R (Tx.refl H) Wl h.2⟩)
 case ref.ref a b=>
  cases Z7 g;cases Z7 l
  obtain⟨xs,ys,ha,hb,n,h⟩:=h;obtain⟨zs,hz,d⟩:=R.lst ha;obtain⟨ws,hw,c⟩:=R.lst hb;exact .inr (.inr (.inl ⟨a,b,zs,ws,FQ,FQ,hz,hw,by rw[d.length,c.length];exact n,λp f=>q _ _ _ _ (R.newL f (d.app c)) (Tx.new f) Yu (h p (R.free f))⟩))
 case tup.tup xs ys=>
  obtain⟨a,zs,rfl,hz,d⟩:=Yn g;obtain⟨b,ws,rfl,hw,c⟩:=Yn l;by_cases e:zs=[]
  ·subst e;have m:xs=[]:=by
    have:=d.length
    cases xs with
    | nil=>rfl
    | cons _ _=>cases this
   subst m;exact .inr (.inr (.inr (.inl ⟨a,b,ws,FQ,FQ,hz,hw,q _ _ H C R (Tx.refl H) (Xs hw c) h.2⟩)))
  ·refine .inr (.inr (.inr (.inr ⟨a,b,zs,ws,FQ,FQ,hz,hw,e,by rw[d.length,c.length];exact h.1,λm=>?_,λm p f=>?_⟩)))
   ·subst m;have e3:ys=[]:=by
     have:=c.length
     cases ys with
     | nil=>rfl
     | cons _ _=>cases this
    subst e3;refine q _ _ H C R (Tx.refl H) (Xs hz d) ?_;have:=h.2;rw[YK] at this;exact this
   ·exact q _ _ _ C (R.hid f) (Tx.new f) (Xs (Tw.of Ya) ((d.app c).tx (Tx.new f))) h.2⟩
set_option tactic.hygienic true in
def um:Gy X (binaryOp .Sub) rj:=⟨_,mJ,λF H C x y v u Q Q' R a b h q=>by
 cases v<;>cases u<;>first | exact False.elim h | skip
 case int.int i j=>cases Yi a;cases Yi b;exact⟨i,j,FQ,FQ,q _ _ H C R (Tx.refl H) Js h⟩⟩
set_option tactic.hygienic true in
def gN:Gy X (binaryOp .Mult) i8:=⟨_,mL,λF H C x y v u Q Q' R a b h q=>by
 cases v<;>cases u<;>first | exact False.elim h | skip
 case int.int i j=>cases Yi a;cases Yi b;exact⟨i,j,FQ,FQ,h.1,q _ _ H C R (Tx.refl H) Js h.2⟩⟩
set_option tactic.hygienic true in
def J9:Gy X (binaryOp .FloorDiv) M7:=⟨_,qw,λF H C x y v u Q Q' R a b h q=>by
 cases v<;>cases u<;>first | exact False.elim h | skip
 case int.int i j=>cases Yi a;cases Yi b;exact⟨i,j,FQ,FQ,h.1,q _ _ H C R (Tx.refl H) Js h.2⟩⟩
set_option tactic.hygienic true in
def Y0:Gy X (binaryOp .Mod) Oz:=⟨_,mM,λF H C x y v u Q Q' R a b h q=>by
 cases v<;>cases u<;>first | exact False.elim h | skip
 case int.int i j=>cases Yi a;cases Yi b;exact⟨i,j,FQ,FQ,h.1,q _ _ H C R (Tx.refl H) Js h.2⟩⟩
set_option tactic.hygienic true in
def ji:Gy X (binaryOp .Pow) i5:=⟨_,mK,λF H C x y v u Q Q' R a b h q=>by
 cases v<;>cases u<;>first | exact False.elim h | skip
 case int.int i j=>cases Yi a;cases Yi b;exact⟨i,j,FQ,FQ,h.1,q _ _ H C R (Tx.refl H) Js h.2⟩⟩
set_option tactic.hygienic true in
def dU:Gy X (compareOp .Lt) bt:=⟨_,gI.or xD,λF H C x y v u Q Q' R a b h q=>by
 cases v<;>cases u<;>first | exact False.elim h | skip
 case int.int i j=>cases Yi a;cases Yi b;exact .inl ⟨i,j,FQ,FQ,q _ _ H C R (Tx.refl H) J5 h⟩
 case str.str i j=>cases Jm a;cases Jm b;exact .inr ⟨i,j,FQ,FQ,q _ _ H C R (Tx.refl H) J5 h⟩⟩
set_option tactic.hygienic true in
def q8:Gy X (compareOp .Gt) bv:=⟨_,gJ,λF H C x y v u Q Q' R a b h q=>by
 cases v<;>cases u<;>first | exact False.elim h | skip
 case int.int i j=>cases Yi a;cases Yi b;exact⟨i,j,FQ,FQ,q _ _ H C R (Tx.refl H) J5 h⟩⟩
def dO (X:Cx)(f:WQ->WQ->Sem WQ):R2:=λx y H Q=>∀(WZ:List (WP×Obj)) (s:WR) (σ:L2.St) (v u:WQ),Zq X WZ σ H s->Z9 x v->Z9 y u->wpAny (model X.prog X.w) X.A (f v u) (EP X WZ σ Q) X.xe s
def zZ {f:WQ->WQ->Sem WQ}:M4 X f (dO X f):=λWZ s σ H x y v u Q I a b h=>h WZ s σ v u I a b
def Az {WZ:List (WP×Obj)}{σ:L2.St}{H:Hp}{s:WR}{A:WM}{n:Nat}{ts us:List T}{ys zs:List V}{its its':List WQ}(I:Zq X WZ σ H s)(r:Reps X.K H ys ts)(r':Reps X.K H zs us)(rI:Z5 ys its)(a:Z5 zs its')
  (f:Y2 ts n=true) (b:Y2 us n=true) (c:A.units+n<cLine):
  ∀j (h1:j<its.toArray.size) (h2:j<its'.toArray.size),SeqAt.EqAt A s its.toArray[j] its'.toArray[j] (sW ts us j):=λj h1 h2=>by
 have l1:its.toArray.size=ts.length:=by rw[XJ,<-rI.length,r.length]
 have l2:its'.toArray.size=us.length:=by rw[XJ,<-a.length,r'.length]
 have i1:ts[j]?=some (ts[j]'(by omega)):=by simp[l1▸h1]
 have i2:us[j]?=some (us[j]'(by omega)):=by simp[l2▸h2]
 obtain⟨m,d,e⟩:=r.get i1;obtain⟨o,g,h⟩:=r'.get i2;obtain⟨u1,k1,z1⟩:=rI.get d;obtain⟨u2,k2,z2⟩:=a.get g;have i:its.toArray[j]=u1:=by
  have:its[j]?=some its.toArray[j]:=by simp
  rw[k1] at this;exact(YH this).symm
 have l:its'.toArray[j]=u2:=by
  have:its'[j]?=some its'.toArray[j]:=by simp
  rw[k2] at this;exact(YH this).symm
 rw[i,l];unfold sW;simp only[i1,i2];exact oU I n (Wu f i1) (Wu b i2) e h z1 z2 c
def t7 {vs ws:List T}(h:vs.length≠ws.length):Qf vs ws=false:=by
 rw[<-To,show(vs.length==ws.length)=false from Tm.mpr h,Bool.and_false]
def xU {vs ws:List T}(h:vs.length=ws.length):(List.range vs.length).all (sW vs ws)=Qf vs ws:=by
 rw[<-To,h,Nat.min_self,XU,Bool.and_true]
def a9 {WZ:List (WP×Obj)}{σ:L2.St}{H:Hp}{s:WR}{v w:T}{x y:V}{u u':WQ}{A:WM}{n:Nat}(I:Zq X WZ σ H s)(C:Xp v n=true)(q:Xp w n=true)(z:Ju X.K H x v)(h:Ju X.K H y w)
  (j:Z9 x u) (e:Z9 y u') (E:A.units+n+1<cLine):SeqAt.RcAt A s u u' (Xe v w)/\SeqAt.RcNeAt A s u u' (!Xe v w):=by
 have f:A.units<cLine:=by omega
 cases ev:sc v with
 | some a=>
  obtain⟨rfl,f1⟩:=Vx ev z
  cases g:sc w with
  | some b=>
   obtain⟨rfl,f2⟩:=Vx g h
   cases v with
   | non=>
    cases ev;cases j
    cases w with
    | non=>cases g;cases e;unfold Xe;exact⟨.none_none,.none_none⟩
    | bl c=>cases g;cases e;unfold Xe;exact⟨.none_bool c,.none_bool c⟩
    | int c=>cases g;obtain⟨t,rfl⟩:=e;unfold Xe;exact⟨.none_int c t,.none_int c t⟩
    | str c=>cases g;obtain⟨t,rfl⟩:=e;unfold Xe;exact⟨.none_str c t,.none_str c t⟩
    | _=>cases g
   | bl d=>
    cases ev;cases j
    cases w with
    | non=>cases g;cases e;unfold Xe;exact⟨.bool_none d,.bool_none d⟩
    | bl c=>cases g;cases e;unfold Xe;exact⟨.bool_bool d c,.bool_bool d c⟩
    | int c=>cases g;obtain⟨t,rfl⟩:=e;unfold Xe;exact⟨.bool_int d c t,.bool_int d c t⟩
    | str c=>cases g;obtain⟨t,rfl⟩:=e;unfold Xe;exact⟨.bool_str d c t,.bool_str d c t⟩
    | _=>cases g
   | int d=>
    cases ev;obtain⟨t',rfl⟩:=j
    cases w with
    | non=>cases g;cases e;unfold Xe;exact⟨.int_none d t',.int_none d t'⟩
    | bl c=>cases g;cases e;unfold Xe;exact⟨.int_bool d t' c,.int_bool d t' c⟩
    | int c=>cases g;obtain⟨t,rfl⟩:=e;unfold Xe;exact⟨.int_int d t' c t,.int_int d t' c t⟩
    | str c=>cases g;obtain⟨t,rfl⟩:=e;unfold Xe;exact⟨.int_str d t' c t,.int_str d t' c t⟩
    | _=>cases g
   | str d=>
    cases ev;obtain⟨t',rfl⟩:=j
    cases w with
    | non=>cases g;cases e;unfold Xe;exact⟨.str_none d t',.str_none d t'⟩
    | bl c=>cases g;cases e;unfold Xe;exact⟨.str_bool d t' c,.str_bool d t' c⟩
    | int c=>cases g;obtain⟨t,rfl⟩:=e;unfold Xe;exact⟨.str_int d t' c t,.str_int d t' c t⟩
    | str c=>cases g;obtain⟨t,rfl⟩:=e;unfold Xe;exact⟨.str_str d t' c t,.str_str d t' c t⟩
    | _=>cases g
   | _=>cases ev
  | none=>
   obtain⟨ts,m,rfl,em,B⟩:=X4 q g;obtain⟨b,zs,rfl,hq,r⟩:=Yn h
   cases e
   obtain⟨its,_,p,_⟩:=I.tuple hq
   cases v with
   | non=>cases ev;cases j;unfold Xe;exact⟨.none_tuple p f,.none_tuple p f⟩
   | bl c=>cases ev;cases j;unfold Xe;exact⟨.bool_tuple c p f,.bool_tuple c p f⟩
   | int i=>cases ev;obtain⟨t,rfl⟩:=j;unfold Xe;exact⟨.int_tuple i t p f,.int_tuple i t p f⟩
   | str i=>cases ev;obtain⟨t,rfl⟩:=j;unfold Xe;exact⟨.str_tuple i t p f,.str_tuple i t p f⟩
   | _=>cases ev
 | none=>
  obtain⟨ts,m,rfl,em,B⟩:=X4 C ev;subst em;obtain⟨a,ys,rfl,hq,r⟩:=Yn z
  cases j
  obtain⟨its,rI,p,_⟩:=I.tuple hq
  cases g:sc w with
  | some b=>
   obtain⟨rfl,f2⟩:=Vx g h
   cases w with
   | non=>cases g;cases e;unfold Xe;exact⟨.tuple_none p f,.tuple_none p f⟩
   | bl c=>cases g;cases e;unfold Xe;exact⟨.tuple_bool c p f,.tuple_bool c p f⟩
   | int i=>cases g;obtain⟨t,rfl⟩:=e;unfold Xe;exact⟨.tuple_int i t p f,.tuple_int i t p f⟩
   | str i=>cases g;obtain⟨t,rfl⟩:=e;unfold Xe;exact⟨.tuple_str i t p f,.tuple_str i t p f⟩
   | _=>cases g
  | none=>
   obtain⟨us,G,rfl,em,D⟩:=X4 q g
   cases em
   obtain⟨b,zs,rfl,o,r'⟩:=Yn h
   cases e
   obtain⟨its',l,p',_⟩:=I.tuple o;have l1:its.toArray.size=ts.length:=by rw[XJ,<-rI.length,r.length]
   have l2:its'.toArray.size=us.length:=by rw[XJ,<-l.length,r'.length]
   have hi:=Az (A:=A.in1) I r r' rI l B D (by show A.units+1+m<cLine;omega);have k1:=SeqAt.RcAt.tuples (A:=A) p p' f hi;have k2:=SeqAt.RcNeAt.tuples (A:=A) p p' f hi;rw[l1,l2,To] at k1 k2;unfold Xe;exact⟨k1,k2⟩
def jy {WZ:List (WP×Obj)}{σ:L2.St}{H:Hp}{s:WR}{w:T}{y:V}{u':WQ}{A:WM}{n:Nat}{a:WP}{its:List WQ}(I:Zq X WZ σ H s)(g:Xp w n=true)(e:Ju X.K H y w)(f:Z9 y u')(d:A.units<cLine)
  (p:s.heap.IsList a its.toArray):(SeqAt.RcAt A s (.ref a) u' false/\SeqAt.RcNeAt A s (.ref a) u' true)/\(SeqAt.RcAt A s u' (.ref a) false/\SeqAt.RcNeAt A s u' (.ref a) true):=by
 cases w with
 | non=>cases La e;cases f;exact⟨⟨.list_none p d,.list_none p d⟩,.none_list p d,.none_list p d⟩
 | bl c=>cases Os e;cases f;exact⟨⟨.list_bool c p d,.list_bool c p d⟩,.bool_list c p d,.bool_list c p d⟩
 | int c=>cases Yi e;obtain⟨t,rfl⟩:=f;exact⟨⟨.list_int c t p d,.list_int c t p d⟩,.int_list c t p d,.int_list c t p d⟩
 | str c=>cases Jm e;obtain⟨t,rfl⟩:=f;exact⟨⟨.list_str c t p d,.list_str c t p d⟩,.str_list c t p d,.str_list c t p d⟩
 | tup ts=>
  obtain⟨b,zs,rfl,hq,r⟩:=Yn e
  cases f
  obtain⟨its',_,p',_⟩:=I.tuple hq;exact⟨⟨.list_tuple p p' d,.list_tuple p p' d⟩,.tuple_list p' p d,.tuple_list p' p d⟩
 | ref b=>unfold Xp at g;cases g
 | cl b=>unfold Xp at g;cases g
def oJ (c:Bool)(L:X.A.units+150<cLine):Gy X (compareOp (if c then .NotEq else .Eq)) (Ke c):=⟨_,zZ,λF H C x y v u Q Q' R g d h q WZ s σ v' u' I B l=>by
 have fin:∀{k:Bool},SeqAt.RcAt X.A s v' u' k/\SeqAt.RcNeAt X.A s v' u' (!k)->Q (.bl (if c then !k else k)) H->wpAny (model X.prog X.w) X.A (compareOp (if c then .NotEq else .Eq) v' u') (EP X WZ σ Q) X.xe s:=λ{k} e hq=>by
  cases c with
  | true=>exact EqBoolInt.of_rcne e.2 ⟨.bl (!k),H,I,FQ,hq⟩
  | false=>exact EqBoolInt.of_rc e.1 ⟨.bl k,H,I,FQ,hq⟩
 have two:∀{v u:T},Ju X.K H x v->Ju X.K H y u->Yz v/\Yz u/\Q' (.bl (if c then !Xe v u else Xe v u)) C->wpAny (model X.prog X.w) X.A (compareOp (if c then .NotEq else .Eq) v' u') (EP X WZ σ Q) X.xe s:=λ{v u} g d h=>
  fin (a9 I h.1 h.2.1 g d B l (show X.A.units+100+1<cLine by omega)) (q _ _ H C R (Tx.refl H) J5 h.2.2)
 have hn:(if c then !false else false)=c:=by cases c<;>rfl
 have i:∀{a:WP} {u:T},v'=.ref a->Ju X.K H y u->(∃xs,C a=some (.lst xs))/\Yz u/\Q' (.bl c) C->wpAny (model X.prog X.w) X.A (compareOp (if c then .NotEq else .Eq) v' u') (EP X WZ σ Q) X.xe s:=λ{a u} ev d h=>by
  obtain⟨⟨xs,hx⟩,f,hq⟩:=h;obtain⟨ys,hy,r⟩:=R.lst hx;obtain⟨its,_,p,_⟩:=I.list (Vr.of hy);have z:=(jy (A:=X.A) I f d l (by omega) p.isList).1;subst ev;refine fin (k:=false) z ?_;rw[hn];exact q _ _ H C R (Tx.refl H) J5 hq
 have j:∀{b:WP} {v:T},u'=.ref b->Ju X.K H x v->(∃xs,C b=some (.lst xs))/\Yz v/\Q' (.bl c) C->wpAny (model X.prog X.w) X.A (compareOp (if c then .NotEq else .Eq) v' u') (EP X WZ σ Q) X.xe s:=λ{b v} D g h=>by
  obtain⟨⟨xs,hx⟩,f,hq⟩:=h;obtain⟨ys,hy,r⟩:=R.lst hx;obtain⟨its,_,p,_⟩:=I.list (Vr.of hy);have z:=(jy (A:=X.A) I f g B (by omega) p.isList).2;subst D;refine fin (k:=false) z ?_;rw[hn];exact q _ _ H C R (Tx.refl H) J5 hq
 cases v with
 | ref a=>
  have ev:v'=.ref a:=by cases Z7 g;exact B
  cases u with
  | ref b=>
   have D:u'=.ref b:=by cases Z7 d;exact l
   obtain⟨xs,ys,ha,hb,G,hq⟩:=h;obtain⟨zs,hz,E⟩:=R.lst ha;obtain⟨ws,hw,n⟩:=R.lst hb;obtain⟨its,rI,p,_⟩:=I.list (Vr.of hz);obtain⟨its',o,p',_⟩:=I.list (Vr.of hw);have l1:its.toArray.size=xs.length:=by rw[XJ,<-rI.length,E.length]
   have l2:its'.toArray.size=ys.length:=by rw[XJ,<-o.length,n.length]
   subst ev;subst D;refine fin ?_ (q _ _ H C R (Tx.refl H) J5 hq);by_cases m:xs.length=ys.length
   ·obtain⟨f1,f2⟩:=G m;have hi:=Az (A:=X.A.in1) I E n rI o f1 f2 (by show X.A.units+1+100<cLine;omega);have k1:=SeqAt.RcAt.lists (A:=X.A) p.isList p'.isList (by rw[l1,l2,m]) (by omega) hi;have k2:=SeqAt.RcNeAt.lists (A:=X.A) p.isList p'.isList (by rw[l1,l2,m]) (by omega) hi;rw[l1,xU m] at k1 k2;exact⟨k1,k2⟩
   ·rw[t7 m];have t:(its.toArray.size !=its'.toArray.size)=true:=by rw[l1,l2];exact bne_iff_ne.mpr m
    exact⟨SeqAt.RcAt.lists_lengths p.isList p'.isList t (by omega),SeqAt.RcNeAt.lists_lengths p.isList p'.isList t (by omega)⟩
  | non=>exact i ev d h
  | bl b=>exact i ev d h
  | int b=>exact i ev d h
  | str b=>exact i ev d h
  | tup b=>exact i ev d h
  | cl b=>exact i ev d h
 | non=>
  cases u with
  | ref b=>exact j (by cases Z7 d;exact l) g h
  | _=>exact two g d h
 | bl _=>
  cases u with
  | ref b=>exact j (by cases Z7 d;exact l) g h
  | _=>exact two g d h
 | int _=>
  cases u with
  | ref b=>exact j (by cases Z7 d;exact l) g h
  | _=>exact two g d h
 | str _=>
  cases u with
  | ref b=>exact j (by cases Z7 d;exact l) g h
  | _=>exact two g d h
 | tup _=>
  cases u with
  | ref b=>exact j (by cases Z7 d;exact l) g h
  | _=>exact two g d h
 | cl _=>
  cases u with
  | ref b=>exact j (by cases Z7 d;exact l) g h
  | _=>exact two g d h⟩
def Yo (a:X.A.units+150<cLine):Gy X (compareOp .Eq) z0:=oJ false a
def G6 (a:X.A.units+150<cLine):Gy X (compareOp .NotEq) i7:=oJ true a
def jk:Gy X (compareOp .Is) va:=⟨_,mO,λF H C x y v u Q Q' R b c h q=>by
 obtain⟨rfl,h⟩:=h;refine⟨La c,?_⟩;have z:=q (.bl _) _ H C R (Tx.refl H) J5 h
 cases v with
 | non=>cases La b;exact z
 | bl _=>cases Os b;exact z
 | int _=>cases Yi b;exact z
 | str _=>cases Jm b;exact z
 | ref _=>cases Z7 b;exact z
 | tup _=>obtain⟨a,ys,rfl,_⟩:=Yn b;exact z
 | cl _=>obtain⟨a,ys,rfl,_⟩:=N7 b;exact z⟩
open Classical in
noncomputable def eqAns (v:T) (us:List WQ) (ts:List T) (u:WQ):Bool:=match (us.zip ts).find? λp=>decide (p.1=u) with
 | some p=>Xe p.2 v
 | none=>false
open Classical in
def zd {WZ:List (WP×Obj)}{σ:L2.St}{H:Hp}{s:WR}{n:Nat}{v:T}{ts:List T}{ys:List V}{us:List WQ}(I:Zq X WZ σ H s)(r:Reps X.K H ys ts)(rI:Z5 ys us)(f:Y2 ts n=true){j:Nat}{u:WQ}{t:T}(b:us[j]?=some u)(a:ts[j]?=some t):
  eqAns v us ts u=Xe t v:=by
 unfold eqAns;have hm:(u,t)∈us.zip ts:=by
  refine ES.mpr ⟨j,?_⟩;rw[BL];exact⟨b,a⟩
 cases e:(us.zip ts).find? λp=>decide (p.1=u) with
 | none=>
  have:=List.find?_eq_none.mp e (u,t) hm;simp at this
 | some p=>
  have h1:=List.find?_some e;have h2:=List.mem_of_find?_eq_some e;simp only[decide_eq_true_eq] at h1;obtain⟨i,hi⟩:=ES.mp h2;obtain⟨d,c⟩:=BL.mp hi;obtain⟨m,k1,g⟩:=r.get c;obtain⟨o,k2,h⟩:=r.get a;obtain⟨u1,m1,z1⟩:=rI.get k1;obtain⟨u2,m2,z2⟩:=rI.get k2;rw[d] at m1;cases m1;rw[b] at m2;cases m2;rw[h1] at z1;have l:=z1.inj z2;subst l;show Xe p.2 v=Xe t v;rw[jc I n (Wu f c) (Wu f a) g h]
def jQ {WZ:List (WP×Obj)}{σ:L2.St}{H:Hp}{s:WR}{n:Nat}{v:T}{ts:List T}{ys:List V}{us:List WQ}(I:Zq X WZ σ H s)(r:Reps X.K H ys ts)(rI:Z5 ys us)(f:Y2 ts n=true):us.any (eqAns v us ts)=Eg v ts:=by
 have d:us.length=ts.length:=by rw[<-rI.length,r.length]
 have a:∀j,us[j]?.map (eqAns v us ts)=ts[j]?.map λt=>Xe t v:=λj=>by
  by_cases hj:j<us.length
  ·have b:us[j]?=some us[j]:=by simp[hj]
   have c:ts[j]?=some (ts[j]'(by omega)):=by simp[d▸hj]
   rw[b,c,Option.map_some,Option.map_some,zd I r rI f b c]
  ·rw[DQ (by omega),DQ (by omega)];rfl
 have hm:us.map (eqAns v us ts)=ts.map λt=>Xe t v:=by
  refine List.ext_getElem? λj=>?_;rw[XM,XM];exact a j
 unfold Eg;have e:us.any (eqAns v us ts)=(us.map (eqAns v us ts)).any id:=by rw[List.any_map];rfl
 have g:(ts.any λy=>Xe y v)=(ts.map λt=>Xe t v).any id:=by rw[List.any_map];rfl
 rw[e,g,hm]
def gO (b:Bool)(hu:X.A.units+150<cLine):Gy X (compareOp (if b then .NotIn else .In)) (nA b):=⟨_,zZ,λF H C x y v u Q Q' R z c h q WZ s σ v' u' I B f=>by
 have sq:∀{p:WP} {ys:List V} {ts:List T},u'=.ref p->(Vr X.K H p ys\/Tw X.K H p ys)->Reps X.K H ys ts->Yz v->Y2 ts Rb=true->Q' (.bl (if b then !Eg v ts else Eg v ts)) C->
   wpAny (model X.prog X.w) X.A (compareOp (if b then .NotIn else .In) v' u') (EP X WZ σ Q) X.xe s:=λ{p ys ts} D hq r E g d=>by
  subst D;have at1:∀{its:List WQ},Z5 ys its->∀w,w∈its.toArray->SeqAt.EqAt X.A.in1 s w v' (eqAns v its ts w):=λ{its} rI w hw=>by
   have l:w∈its:=by simpa using hw
   obtain⟨j,hj⟩:=ES.mp l;have m:j<its.length:=(AZ.mp hj).1;have G:its.length=ts.length:=by rw[<-rI.length,r.length]
   have n:ts[j]?=some (ts[j]'(by omega)):=by simp[G▸m]
   rw[zd I r rI g hj n];obtain⟨x2,k2,L⟩:=r.get n;obtain⟨u2,m2,z2⟩:=rI.get k2;rw[hj] at m2;cases m2;exact oU I 100 (Wu g n) E L z z2 B (by show X.A.units+1+100<cLine;omega)
  rcases hq with hq | hq
  ·obtain⟨its,rI,p,_⟩:=I.list hq;have e:its.toArray.any (eqAns v its ts)=Eg v ts:=by rw[<-jQ I r rI g];simp
   cases b with
   | true=>refine SeqAt.notIn_listAt (eqAns v its ts) p.isList (at1 rI) ⟨.bl _,H,I,FQ,?_⟩;rw[e];exact q _ _ H C R (Tx.refl H) J5 d
   | false=>refine SeqAt.in_listAt (eqAns v its ts) p.isList (at1 rI) ⟨.bl _,H,I,FQ,?_⟩;rw[e];exact q _ _ H C R (Tx.refl H) J5 d
  ·obtain⟨its,rI,p,_⟩:=I.tuple hq;have e:its.toArray.any (eqAns v its ts)=Eg v ts:=by rw[<-jQ I r rI g];simp
   cases b with
   | true=>refine SeqAt.notIn_tupleAt (eqAns v its ts) p (at1 rI) ⟨.bl _,H,I,FQ,?_⟩;rw[e];exact q _ _ H C R (Tx.refl H) J5 d
   | false=>refine SeqAt.in_tupleAt (eqAns v its ts) p (at1 rI) ⟨.bl _,H,I,FQ,?_⟩;rw[e];exact q _ _ H C R (Tx.refl H) J5 d
 have o:∀{ts:List T},Ju X.K H y (.tup ts)->Yz v/\Y2 ts Rb=true/\Q' (.bl (if b then !Eg v ts else Eg v ts)) C->wpAny (model X.prog X.w) X.A (compareOp (if b then .NotIn else .In) v' u') (EP X WZ σ Q) X.xe s:=λ{ts} c h=>by
  obtain⟨a,ys,rfl,hq,r⟩:=Yn c;exact sq f (.inr hq) r h.1 h.2.1 h.2.2
 have cls:∀{ts:List T},Ju X.K H y (.cl ts)->Yz v/\Y2 ts Rb=true/\Q' (.bl (if b then !Eg v ts else Eg v ts)) C->wpAny (model X.prog X.w) X.A (compareOp (if b then .NotIn else .In) v' u') (EP X WZ σ Q) X.xe s:=λ{ts} c h=>by
  obtain⟨a,ys,rfl,hq,r⟩:=N7 c;exact sq f (.inl hq.sq) r h.1 h.2.1 h.2.2
 have rf:∀{a:WP},Ju X.K H y (.ref a)->(∃ys,C a=some (.lst ys)/\Yz v/\Y2 ys Rb=true/\Q' (.bl (if b then !Eg v ys else Eg v ys)) C)->wpAny (model X.prog X.w) X.A (compareOp (if b then .NotIn else .In) v' u') (EP X WZ σ Q) X.xe s:=λ{a} c h=>by
  obtain⟨ts,N,h1,h2,U⟩:=h;obtain⟨zs,hz,Y⟩:=R.lst N
  cases Z7 c
  exact sq f (.inl (Vr.of hz)) Y h1 h2 U
 cases u with
 | tup ts=>cases v<;>exact o c h
 | cl ts=>cases v<;>exact cls c h
 | ref a=>cases v<;>exact rf c h
 | str j=>
  cases v with
  | str i=>
   cases Jm z;cases Jm c
   obtain⟨t,rfl⟩:=B;obtain⟨t',rfl⟩:=f
   cases b with
   | true=>exact notIn_str ⟨.bl _,H,I,FQ,q _ _ H C R (Tx.refl H) J5 h⟩
   | false=>exact in_str ⟨.bl _,H,I,FQ,q _ _ H C R (Tx.refl H) J5 h⟩
  | _=>exact False.elim h
 | non=>cases v<;>exact False.elim h
 | bl _=>cases v<;>exact False.elim h
 | int _=>cases v<;>exact False.elim h⟩
def jj (a:X.A.units+150<cLine):Gy X (compareOp .NotIn) wZ:=gO true a
set_option tactic.hygienic true in
def dW:Zao X xa:=⟨_,lG,λF H C x y v u Q Q' R d e h q=>by
 cases v<;>cases u<;>first | exact False.elim h | skip
 case tup.int xs i=>
  obtain⟨a,ys,rfl,hq,r⟩:=Yn d
  cases Yi e
  obtain⟨v,hv,h⟩:=h;obtain⟨z,hz,b⟩:=r.at hv;exact .inr (.inl ⟨a,ys,i,z,FQ,FQ,hq,hz,q _ _ H C R (Tx.refl H) b h⟩)
 case cl.int xs i=>
  obtain⟨a,ys,rfl,hq,r⟩:=N7 d
  cases Yi e
  obtain⟨v,hv,h⟩:=h;obtain⟨z,hz,b⟩:=r.at hv;exact .inl ⟨a,ys,i,z,FQ,FQ,hq.sq,hz,q _ _ H C R (Tx.refl H) b h⟩
 case ref.int a i=>
  cases Z7 d
  cases Yi e
  obtain⟨xs,v,hx,hv,h⟩:=h;obtain⟨ys,hy,r⟩:=R.lst hx;obtain⟨z,hz,b⟩:=r.at hv;exact .inl ⟨a,ys,i,z,FQ,FQ,Vr.of hy,hz,q _ _ H C R (Tx.refl H) b h⟩
 case str.int z i=>
  cases Jm d
  cases Yi e
  obtain⟨f,c,hc,h⟩:=h;exact .inr (.inr ⟨z,i,c,FQ,FQ,f,hc,q _ _ H C R (Tx.refl H) Wl h⟩)⟩
def bT (X:Cx)(w:T->Option Int->Option Int->Hw->WK->Prop):Prop:=∃r,sY X r/\∀(F H:Hp) (C:Hw) (x:V) (v:T) (lo hi:Option Int) (Q:VK) (Q':WK),Rl X.K F H C->Ju X.K H x v->w v lo hi C Q'->QE X.K F H Q Q'->r x lo hi H Q
def Mj {K:WY}{H:Hp}{ys:List V}{xs:List T}(r:Reps K H ys xs)(lo hi:Option Int):Reps K H (zj ys lo hi) (Ep xs lo hi):=by
 unfold zj Ep;rw[r.length];exact(r.drop _).take _
def dS:bT X dg:=⟨_,vq.or (rG.or nO),λF H C x v lo hi Q Q' R c h q=>by
 cases v with
 | tup xs=>
  obtain⟨a,ys,rfl,hq,r⟩:=Yn c;exact .inl ⟨a,ys,FQ,hq,by rw[r.length];exact h.1,λp b=>q _ _ _ C (R.hid b) (Tx.new b) (Xs (Tw.of Ya) ((Mj r lo hi).tx (Tx.new b))) h.2⟩
 | cl xs=>
  obtain⟨a,ys,rfl,hq,r⟩:=N7 c;exact .inr (.inl ⟨a,ys,FQ,hq.sq,λp b=>q _ _ _ _ (R.newL b (Mj r lo hi)) (Tx.new b) Yu (h p (R.free b))⟩)
 | ref a=>
  cases Z7 c
  obtain⟨xs,hx,h⟩:=h;obtain⟨ys,hy,r⟩:=R.lst hx;exact .inr (.inl ⟨a,ys,FQ,Vr.of hy,λp b=>q _ _ _ _ (R.newL b (Mj r lo hi)) (Tx.new b) Yu (h p (R.free b))⟩)
 | str z=>cases Jm c;exact .inr (.inr ⟨z,FQ,h.1,q _ _ H C R (Tx.refl H) Wl h.2⟩)
 | _=>exact False.elim h⟩
def Wn {K:WY}{H:Hp}{xs:List V}{v:T}(h:Reps K H xs [v]):∃x,xs=[x]/\Ju K H x v:=by
 obtain⟨y,r,rfl,a,b⟩:=Yk h
 cases Xx b
 exact⟨y,FQ,a⟩
def ul {K:WY}{H:Hp}{xs:List V}{v w:T}(h:Reps K H xs [v,w]):∃x y,xs=[x,y]/\Ju K H x v/\Ju K H y w:=by
 obtain⟨y,r,rfl,a,b⟩:=Yk h;obtain⟨z,rfl,c⟩:=Wn b;exact⟨y,z,FQ,a,c⟩
def zq:Pp X (.builtin "len") fP:=⟨_,Bk.or Bj,λF H C xs vs Q Q' R rs h q=>by
 obtain⟨v,rfl,h⟩:=h;obtain⟨x,rfl,b⟩:=Wn rs
 cases v with
 | str z=>cases Jm b;exact .inr ⟨z,FQ,h.1,q _ _ H C R (Tx.refl H) Js h.2⟩
 | tup xs=>
  obtain⟨a,ys,rfl,hq,r⟩:=Yn b;exact .inl ⟨a,ys,FQ,.inr hq,by rw[r.length];exact q _ _ H C R (Tx.refl H) Js h⟩
 | cl xs=>
  obtain⟨a,ys,rfl,hq,r⟩:=N7 b;exact .inl ⟨a,ys,FQ,.inl hq.sq,by rw[r.length];exact q _ _ H C R (Tx.refl H) Js h⟩
 | ref a=>
  cases Z7 b
  obtain⟨xs,hx,h⟩:=h;obtain⟨ys,hy,r⟩:=R.lst hx;exact .inl ⟨a,ys,FQ,.inl (Vr.of hy),by rw[r.length];exact q _ _ H C R (Tx.refl H) Js h⟩
 | _=>exact False.elim h⟩
def fK (hc:X.calm=true):Pp X (.builtin "max") fO:=⟨_,wf hc,λF H C xs vs Q Q' R rs h q=>by
 obtain⟨i,j,rfl,h⟩:=h;obtain⟨x,y,rfl,a,b⟩:=ul rs
 cases Yi a;cases Yi b
 exact⟨i,j,FQ,q _ _ H C R (Tx.refl H) Js h⟩⟩
def Ao {K:WY}{H:Hp}:∀{bs:List Bool} {ys:List V},Reps K H ys (bs.map T.bl)->ys=bs.map V.bl
 | [],_,h=>Xx h
 | b::bs,_,h=>by obtain⟨y,r,rfl,a,c⟩:=Yk h;cases Os a;rw[Ao c];rfl
def Bp:Pp X (.type "tuple") sw:=⟨_,Fd,λF H C xs vs Q Q' R rs h q=>by
 obtain⟨v,rfl,h⟩:=h;obtain⟨x,rfl,c⟩:=Wn rs
 cases v with
 | tup xs=>
  obtain⟨a,ys,rfl,hq,r⟩:=Yn c;exact⟨a,ys,FQ,.inr ⟨hq,q _ _ H C R (Tx.refl H) (Xs hq r) h⟩⟩
 | cl xs=>
  obtain⟨a,ys,rfl,hq,r⟩:=N7 c;exact⟨a,ys,FQ,.inl ⟨hq.sq,λp b=>q _ _ _ C (R.hid b) (Tx.new b) (Xs (Tw.of Ya) (r.tx (Tx.new b))) h⟩⟩
 | ref a=>
  cases Z7 c
  obtain⟨xs,hx,h⟩:=h;obtain⟨ys,hy,r⟩:=R.lst hx;exact⟨a,ys,FQ,.inl ⟨Vr.of hy,λp b=>q _ _ _ C (R.hid b) (Tx.new b) (Xs (Tw.of Ya) (r.tx (Tx.new b))) h⟩⟩
 | _=>exact False.elim h⟩
def Gp:Pp X (.type "list") sx:=⟨_,Bi,λF H C xs vs Q Q' R rs h q=>by
 obtain⟨v,rfl,h⟩:=h;obtain⟨x,rfl,c⟩:=Wn rs
 cases v with
 | tup xs=>
  obtain⟨a,ys,rfl,hq,r⟩:=Yn c;exact⟨a,ys,FQ,.inr hq,λp b=>q _ _ _ _ (R.newL b r) (Tx.new b) Yu (h p (R.free b))⟩
 | cl xs=>
  obtain⟨a,ys,rfl,hq,r⟩:=N7 c;exact⟨a,ys,FQ,.inl hq.sq,λp b=>q _ _ _ _ (R.newL b r) (Tx.new b) Yu (h p (R.free b))⟩
 | ref a=>
  cases Z7 c
  obtain⟨xs,hx,h⟩:=h;obtain⟨ys,hy,r⟩:=R.lst hx;exact⟨a,ys,FQ,.inl (Vr.of hy),λp b=>q _ _ _ _ (R.newL b r) (Tx.new b) Yu (h p (R.free b))⟩
 | _=>exact False.elim h⟩
def Ti:iy X "list.append" jw:=⟨_,Eb,λF H C x v xs vs Q Q' R b rs h q=>by
 obtain⟨a,ts,y,rfl,rfl,hx,c,h⟩:=h
 cases Z7 b
 obtain⟨z,rfl,d⟩:=Wn rs;obtain⟨ys,hy,r⟩:=R.lst hx;obtain⟨R',t⟩:=R.putL hx (r.snoc d);exact⟨a,ys,z,FQ,FQ,hy,by rw[r.length];exact c,q _ _ _ _ R' t T4 h⟩⟩
def jv:iy X "list.pop" gW:=⟨_,mW,λF H C x v xs vs Q Q' R c rs h q=>by
 obtain⟨a,ts,y,rfl,rfl,hx,hy,h⟩:=h
 cases Z7 c
 cases Xx rs
 obtain⟨ys,b,r⟩:=R.lst hx;obtain⟨z,hz,d⟩:=r.get hy;obtain⟨R',t⟩:=R.putL hx r.dropLast;exact⟨a,ys,z,FQ,FQ,b,by rw[r.length];exact hz,q _ _ _ _ R' t (d.tx t) h⟩⟩
end
section
variable {X:Cx}{a b c e:WW}{es:List WW}{wa wb wc:WE}{wt u_:WT}{wA:WA}{w w':W2}{pos p c_ f_:Pos}{Yc:List WW}
def Zb (i:Nat){x:Str}(b:X.N[i]?=some x:=by rfl)(hv:eR X.env.scope x:=by first | exact Or.inl FQ | exact Or.inr (Or.inl FQ) | exact Or.inr (Or.inr FQ))(hd:(x==("__debug__":Str))=false:=by decide)
  (a:(x==("__classdict__":Str))=false:=by decide):Ji X (.Name x pos) (Yp i):=⟨_,mz b hv hd a,hU⟩
def Zh {i j}:Ji X (.Constant (.int i) j pos) (eC (.int i)):=⟨_,mC,gh λ_=>Js⟩
def Ze {i j}:Ji X (.Constant (.str i) j pos) (eC (.str i)):=⟨_,m6,gh λ_=>Wl⟩
def yA {i j}:Ji X (.Constant (.bool i) j pos) (eC (.bl i)):=⟨_,gG,gh λ_=>J5⟩
def Eo {j}:Ji X (.Constant .none j pos) (eC .non):=⟨_,m9,gh λ_=>T4⟩
def Zba (K:WY)(mg:Str->Option WQ)(x:Str)(v:T):Prop:=∃z u,mg x=some u/\Z9 z u/\∀H,Ju K H z v
def Z4 {op:Operator}(c:Gy X (binaryOp op) w)(ha:Ji X a wa)(hb:Ji X b wb):Ji X (.BinOp a op b pos) (X5 w wa wb):=by
 obtain⟨r,h1,h2⟩:=c;obtain⟨ta,d,s1⟩:=ha;obtain⟨tb,p2,s2⟩:=hb;exact⟨_,gC h1 d p2,xp s1 s2 h2⟩
def tU {op:CmpOp}(c:Gy X (compareOp op) w)(ha:Ji X a wa)(hb:Ji X b wb)(hm:behindInMarks op b=false):Ji X (.Compare a [op] [b] pos) (X5 w wa wb):=by
 obtain⟨r,h1,h2⟩:=c;obtain⟨ta,d,s1⟩:=ha;obtain⟨tb,p2,s2⟩:=hb;exact⟨_,qr h1 d p2 hm,xp s1 s2 h2⟩
def fJ (ha:Ji X a wa)(hb:Ji X (.BoolOp .And (b::Yc) pos) wb):Ji X (.BoolOp .And (a::b::Yc) pos) (tE wa wb):=by
 obtain⟨ta,c,s1⟩:=ha;obtain⟨tb,p2,s2⟩:=hb;exact⟨_,mF c p2,oF s1 s2⟩
def fG {op}(ha:Ji X a wa):Ji X (.BoolOp op [a] pos) wa:=by
 obtain⟨ta,b,s1⟩:=ha;exact⟨_,m7 b,s1⟩
def fH (ha:Ji X a wa):Ji X (.UnaryOp .Not a pos) (ke wa):=by
 obtain⟨ta,b,s1⟩:=ha;exact⟨_,m8 b,gb s1⟩
def fI (hc:wR X c wt)(ha:Ji X a wa)(hb:Ji X b wb):Ji X (.IfExp c a b pos) (cz wt wa wb):=by
 obtain⟨ta,d,s1⟩:=ha;obtain⟨tb,p2,s2⟩:=hb;obtain⟨tc,e,f⟩:=hc;exact⟨_,uf e d p2,dC f s1 s2⟩
def Zc:Lz X [] Zv:=⟨_,zY,gc⟩
def Za (ha:Ji X a wa)(hb:Lz X es wA)(hs:starEach (a::es) X.env=(false,eval a X.env)::starEach es X.env:=by rfl):Lz X (a::es) (Z1 wa wA):=by
 obtain⟨ta,b,s1⟩:=ha;obtain⟨tb,p2,s2⟩:=hb;exact⟨_,Kv b p2 hs,zO s1 s2⟩
def Zg {a}(h:Lz X es wA):Ji X (.Tuple es a pos) (Fb wA):=by
 obtain⟨t,p,s⟩:=h;exact⟨_,m5 p,hW s⟩
def Z6 (h:Lz X es wA):Ji X (.List es pos) (Ng wA):=by
 obtain⟨t,p,s⟩:=h;exact⟨_,mB p,gd s⟩
def Ym (ha:Ji X a wa)(hb:Ji X b wb)(hs:jV b:=by exact λ_ _=>rfl):Ji X (.Subscript a b pos) (X5 xa wa wb):=by
 obtain⟨r,h1,h2⟩:=dW (X:=X);obtain⟨ta,c,s1⟩:=ha;obtain⟨tb,p2,s2⟩:=hb;exact⟨_,gD h1 c p2 hs,xp s1 s2 h2⟩
def ip (X:Cx)(e:Option WW)(w:Sw->Hw->(Option Int->Hw->Prop)->WX->Prop):Prop:=∃t,PO X e t/\∀(F H:Hp) (C:Hw) (σ:L2.St) (τ:Sw) (Q:Option Int->Hp->Prop) (Q':Option Int->Hw->Prop) (χ:WX),Rl X.K F H C->Xd X.K H σ τ->w τ C Q' χ->
 (∀o H' C',Rl X.K F H' C'->Tx H H'->Q' o C'->Q o H')->t σ H Q
def Mg:ip X none bI:=⟨_,qg,λF H C σ τ Q Q' χ R S h q=>q none H C R (Tx.refl H) h⟩
def Vg (ha:Ji X a wa):ip X (some a) (oK wa):=by
 obtain⟨ta,b,s1⟩:=ha;refine⟨_,qf b,λF H C σ τ Q Q' χ R S h q=>?_⟩;refine s1 F H C σ τ _ _ χ R S h λx v H1 C1 R1 t1 c h1=>?_;obtain⟨i,rfl,h1⟩:=h1;exact⟨i,Yi c,q (some i) H1 C1 R1 t1 h1⟩
def y6 {lo hi:Option WW}{c wh:Sw->Hw->(Option Int->Hw->Prop)->WX->Prop}{p2:Pos}(ha:Ji X a wa)(e:ip X lo c)(f:ip X hi wh):Ji X (.Subscript a (.Slice lo hi none p2) pos) (bP wa c wh):=by
 obtain⟨r,h1,h2⟩:=dS (X:=X);obtain⟨ta,g,s1⟩:=ha;obtain⟨tl,i,j⟩:=e;obtain⟨th,m,n⟩:=f;refine⟨_,Aq h1 g i m,λF H C σ τ Q Q' χ R S h q=>?_⟩;refine s1 F H C σ τ _ _ χ R S h λx v H1 C1 R1 t1 o h1=>?_;refine j F H1 C1 σ τ _ _ χ R1 (S.tx t1) h1 λl H2 C2 R2 t2 b=>?_;refine n F H2 C2 σ τ _ _ χ R2 (S.tx (t1.trans t2)) b λu p s R3 d t=>?_;exact h2 F p s x v l u Q Q' R3 ((o.tx t2).tx d) t (QE.at q ((t1.trans t2).trans d))
def zi {x:Str}{id:String}{r:List T->Hw->WK->Prop}(hc:Pp X (.builtin id) r)(c:Gl X x)(hm:X.mg x=none)(hv:bootBuiltins x=some (.builtin id))(ha:Lz X (e::es) wA)(hn:x≠"__name__":=by decide)(a:(x==("__debug__":Str))=false:=by decide)
  (d:starEach (e::es) X.env=(false,eval e X.env)::starEach es X.env:=by rfl) (b:(backTo pos (starEach es X.env)).any (·.1)=false:=by rfl):Ji X (.Call (.Name x p) (e::es) [] pos) (fA r wA):=by
 obtain⟨r,h1,h2⟩:=hc;obtain⟨t,f,s1⟩:=ha;exact⟨_,Ar h1 c hm hv f hn a d b,gj h2 s1⟩
def Mi {x:Str}{id:String}{r:List T->Hw->WK->Prop}(hc:Pp X (.type id) r)(c:Gl X x)(hm:X.mg x=none)(hv:bootBuiltins x=some (.type id))(ha:Lz X (e::es) wA)(hn:x≠"__name__":=by decide)(a:(x==("__debug__":Str))=false:=by decide)
  (d:starEach (e::es) X.env=(false,eval e X.env)::starEach es X.env:=by rfl) (b:(backTo pos (starEach es X.env)).any (·.1)=false:=by rfl):Ji X (.Call (.Name x p) (e::es) [] pos) (fA r wA):=by
 obtain⟨r,h1,h2⟩:=hc;obtain⟨t,f,s1⟩:=ha;exact⟨_,xC h1 c hm hv f hn a d b,gj h2 s1⟩
def eS (X:Cx)(a:String)(ty:T->Hw->Prop):Prop:=∀(F H:Hp) (C:Hw) (x:V) (v:T),Rl X.K F H C->Ju X.K H x v->ty v C->nE X.K a x H
def Xq:eS X "list" iG:=λF H C x v R b h=>by
 obtain⟨a,xs,rfl,hx⟩:=h
 cases Z7 b
 obtain⟨ys,hy,r⟩:=R.lst hx;exact L2.tyL hy
def nD:eS X "str" bz:=λF H C x v R a h=>by
 obtain⟨z,rfl⟩:=h
 cases Jm a
 unfold nE;rfl
def Gg {o:WW}{wo:WE}{name:Str}{g id:String}{ty:T->Hw->Prop}{r:T->List T->Hw->WK->Prop}(pa:PlainAttrs g)(slot:Slot g name id)(i:typeOf (.builtin id)=pure (.type "method_descriptor"))(m:eS X g ty)(hm:iy X id r)(n:Ji X o wo)(ha:Lz X (e::es) wA)
  (b:attributeBase o name X.env (eval o X.env)=eval o X.env:=by rfl)
  (d:((backTo f_ (starEach (e::es) X.env)).all (λx=>!x.1)&&(backToKw f_ (keywordEach [] X.env)).all (λx=>x.1.isSome)
   &&decide ((e::es).length+([]:List Keyword).length+(if ([]:List Keyword).isEmpty then 0 else 1)<30))=true:=by rfl)
  (c:(c_.endLine==f_.line)=true:=by rfl) (hs:starEach (e::es) X.env=(false,eval e X.env)::starEach es X.env:=by rfl) (a:(backTo f_ (starEach es X.env)).any (·.1)=false:=by rfl):
  Ji X (.Call (.Attribute o name c_) (e::es) [] f_) (cw ty r wo wA):=by
 obtain⟨s,h1,h2⟩:=hm;obtain⟨to,p,s1⟩:=n;obtain⟨ta,p2,s2⟩:=ha;refine⟨_,gF pa slot i h1 p p2 b d c hs a,λF H C σ τ Q Q' χ R S h q=>?_⟩;refine s1 F H C σ τ _ _ χ R S h λx v H1 C1 R1 t1 l f=>⟨m F H1 C1 x v R1 l f.1,?_⟩;refine s2 F H1 C1 σ τ _ _ χ R1 (S.tx t1) f.2 λxs vs H2 C2 R2 t2 rs j=>?_;exact h2 F H2 C2 x v xs vs Q Q' R2 (l.tx t2) rs j (QE.at q (t1.trans t2))
def jI {o:WW}{wo:WE}{name:Str}{d id:String}{ty:T->Hw->Prop}{r:T->List T->Hw->WK->Prop}(pa:PlainAttrs d)(slot:Slot d name id)(e:typeOf (.builtin id)=pure (.type "method_descriptor"))(g:eS X d ty)(hm:iy X id r)(i:Ji X o wo)
  (a:attributeBase o name X.env (eval o X.env)=eval o X.env:=by rfl) (b:(c_.endLine==f_.line)=true:=by rfl):
  Ji X (.Call (.Attribute o name c_) [] [] f_) (cw ty r wo Zv):=by
 obtain⟨l,h1,h2⟩:=hm;obtain⟨to,j,s1⟩:=i;refine⟨_,mE pa slot e h1 j a b,λF H C σ τ Q Q' χ R S h q=>?_⟩;refine s1 F H C σ τ _ _ χ R S h λx v H1 C1 R1 t1 f c=>⟨g F H1 C1 x v R1 f c.1,?_⟩;exact h2 F H1 C1 x v [] [] Q Q' R1 f Yy c.2 (QE.at q t1)
def Zo {op:CmpOp}(c:Gy X (compareOp op) w)(ha:Ji X a wa)(hb:Ji X b wb)(hm:behindInMarks op b=false:=by exact Lb _):wR X (.Compare a [op] [b] pos) (zJ (X5 w wa wb)):=by
 obtain⟨r,h1,h2⟩:=c;obtain⟨ta,d,s1⟩:=ha;obtain⟨tb,p2,s2⟩:=hb;exact⟨_,rV h1 d p2 hm,gi (xp s1 s2 h2)⟩
def yx (ha:Ji X a wa)(c:∀b,isTrue a X.env b=(do let v <-b;standAt a.pos;holding [v] (truthy v)):=by intro _;rfl):wR X a (r9 wa):=by
 obtain⟨ta,d,s1⟩:=ha;exact⟨_,vO d c,hZ s1⟩
def jD (ha:wR X a wt):kN X (.BoolOp .And [a] pos) wt:=by
 obtain⟨t,p,s⟩:=ha;exact⟨_,rS p,s⟩
def yv (ha:wR X a wt):kN X (.BoolOp .Or [a] pos) wt:=by
 obtain⟨t,p,s⟩:=ha;exact⟨_,nZ p,s⟩
def yw (ha:wR X a wt)(hb:kN X (.BoolOp .And (b::Yc) pos) u_):kN X (.BoolOp .And (a::b::Yc) pos) (d0 wt u_):=by
 obtain⟨t,p,s⟩:=ha;obtain⟨t',p',s'⟩:=hb;exact⟨_,ma p p',dD s s'⟩
def tF (ha:wR X a wt)(hb:kN X (.BoolOp .Or (b::Yc) pos) u_):kN X (.BoolOp .Or (a::b::Yc) pos) (zI wt u_):=by
 obtain⟨t,p,s⟩:=ha;obtain⟨t',p',s'⟩:=hb;exact⟨_,g7 p p',oE s s'⟩
def tG (h:kN X a wt):wR X a wt:=by
 obtain⟨t,p,s⟩:=h;exact⟨_,p.pt,s⟩
end
structure ou (K:W.Frag)(F H:Hp)(D:Nn)(D':We):Prop where
 nx:∀σ τ H' C',Rl K F H' C'->Tx H H'->Xd K H' σ τ->D'.nx τ C'->D.nx σ H'
 rt:∀x v H' C',Rl K F H' C'->Tx H H'->Ju K H' x v->D'.rt v C'->D.rt x H'
 bk:∀σ τ H' C',Rl K F H' C'->Tx H H'->Xd K H' σ τ->D'.bk τ C'->D.bk σ H'
 ct:∀σ τ H' C',Rl K F H' C'->Tx H H'->Xd K H' σ τ->D'.ct τ C'->D.ct σ H'
def ou.at {K:WY}{F H H1:Hp}{D:Nn}{D':We}(h:ou K F H D D')(t:Tx H H1):ou K F H1 D D':=
 ⟨λσ τ H' C' R t'=>h.nx σ τ H' C' R (t.trans t'),λx v H' C' R t'=>h.rt x v H' C' R (t.trans t'),λσ τ H' C' R t'=>h.bk σ τ H' C' R (t.trans t'),λσ τ H' C' R t'=>h.ct σ τ H' C' R (t.trans t')⟩
def Gs (K:WY)(t:TS)(w:WS):Prop:=∀(F H:Hp) (C:Hw) (σ:L2.St) (τ:Sw) (D:Nn) (D':We),Rl K F H C->Xd K H σ τ->w D' τ C->ou K F H D D'->t D σ H
def zv (K:WY)(t:TG)(w:WG):Prop:=∀(F H:Hp) (C:Hw) (σ:L2.St) (τ:Sw) (x:V) (v:T) (Q:L2.St->Hp->Prop) (Q':Sw->Hw->Prop) (χ:WX),Rl K F H C->Xd K H σ τ->Ju K H x v->w v τ C Q' χ->
 (∀y_ a H' C',Rl K F H' C'->Tx H H'->Xd K H' y_ a->Q' a C'->Q y_ H')->t x σ H Q
def zu (K:WY)(t:z7)(w:sJ):Prop:=∀(F H:Hp) (C:Hw) (σ:L2.St) (τ:Sw) (x:List V) (v:List T) (Q:L2.St->Hp->Prop) (Q':Sw->Hw->Prop) (χ:WX),Rl K F H C->Xd K H σ τ->Reps K H x v->w v τ C Q' χ->
 (∀y_ a H' C',Rl K F H' C'->Tx H H'->Xd K H' y_ a->Q' a C'->Q y_ H')->t x σ H Q
def Lo (X:Cx)(st:WV)(w:WS):Prop:=∃t,PS X st t/\Gs X.K t w
def E5 (X:Cx)(st:List WV)(w:WS):Prop:=∃t,Bz X st t/\Gs X.K t w
def kO (X:Cx)(e:WW)(w:WG):Prop:=∃t,PG X e t/\zv X.K t w
def oi (X:Cx)(e:List WW)(w:sJ):Prop:=∃t,fW X e t/\zu X.K t w
section
variable {X:Cx}{st:WV}{Yc:List WV}{w u:WS}{e tg:WW}{we:WE}{wt:WT}{g:WG}{gs:sJ}{pos:Pos}
def Jl {K:WY}{i:Nat}:zv K (Wd i) (Nq i):=λF H C σ τ x v Q Q' χ R S r h q=>q _ _ H C R (Tx.refl H) (S.set r) h
def Dj {K:WY}:zu K yr A3:=λF H C σ τ x v Q Q' χ R S r h q=>by
 obtain⟨rfl,h⟩:=h;exact⟨Xx r,q _ _ H C R (Tx.refl H) S h⟩
def T1 {K:WY}{t:TG}{u:z7}{g:WG}{gs:sJ}(a:zv K t g)(b:zu K u gs):zu K (Pf t u) (Lg g gs):=λF H C σ τ x v Q Q' χ R S r h q=>by
 obtain⟨v1,vs,rfl,h⟩:=h;obtain⟨y,ys,rfl,f,i⟩:=Yk r;refine⟨y,ys,FQ,a F H C σ τ y v1 _ _ χ R S f h λy_ c H' C' R' t' j h'=>?_⟩;exact b F H' C' y_ c ys vs Q Q' χ R' j (i.tx t') h' λd e H2 C2 R2 t2=>q d e H2 C2 R2 (t'.trans t2)
def Di {K:WY}{u:z7}{gs:sJ}{n:Nat}(b:zu K u gs)(hn:∀vs τ C Q χ,gs vs τ C Q χ->vs.length=n):zv K (yq K n u) (eM gs):=λF H C σ τ x v Q Q' χ R S r h q=>by
 obtain⟨vs,rfl,h⟩:=h;obtain⟨a,ys,rfl,hq,rs⟩:=Yn r;exact⟨a,ys,FQ,hq,by rw[rs.length];exact hn _ _ _ _ _ h,b F H C σ τ ys vs Q Q' χ R S rs h q⟩
def jW (n:Nat)(gs:sJ):Prop:=∀vs τ C Q χ,gs vs τ C Q χ->vs.length=n
def Hx:jW 0 A3:=λvs τ C Q χ h=>by rw[h.1];rfl
def X0 {n i:Nat}{gs:sJ}(b:jW n gs):jW (n+1) (Lg (Nq i) gs):=λvs τ C Q χ h=>by
 obtain⟨v,r,rfl,h⟩:=h;rw[YF,b r _ _ _ _ h]
def Og {i:Nat}{x:Str}(a:X.N.Nodup)(hi:X.N[i]?=some x:=by rfl)(hx:nh X.env.scope x:=by first | exact Or.inl FQ | exact Or.inr FQ)(b:X.fn x=true\/X.env.scope.names.lookup x=some .local:=by first | exact .inl FQ | exact .inr FQ | assumption):kO X (.Name x pos) (Nq i):=⟨_,Jz a hi hx b,Jl⟩
def tN:oi X [] A3:=⟨_,Ku,Dj⟩
def K0 {es:List WW}(a:kO X e g)(b:oi X es gs)(hs:(assignEach (e::es) X.env).map (·.2)=assign e X.env::(assignEach es X.env).map (·.2):=by rfl):oi X (e::es) (Lg g gs):=by
 obtain⟨t,p,s⟩:=a;obtain⟨t',p',s'⟩:=b;exact⟨_,Ua p p' hs,T1 s s'⟩
def tM {es:List WW}{k n:Nat}(hc:X.calm=true)(b:oi X es gs)(c:jW n gs)(hn:(assignEach es X.env).length=n:=by rfl)(a:(assignEach es X.env).findIdx? (·.1)=none:=by rfl):kO X (.Tuple es k pos) (eM gs):=by
 obtain⟨t,p,s⟩:=b;exact⟨_,Dt hc p hn a,Di s c⟩
def yz {o i:WW}{wo wi:WE}(d:Ji X o wo)(hi:Ji X i wi)
  (ha:∀v,assign (.Subscript o i pos) X.env v=(do
   let ov <-holding [v] (eval o X.env)
   let c <-holding [v,ov] (eval i X.env)
   standAt pos
   holding [v,ov,c] (setItem ov c v)
   release [v,ov,c] []):=by intro _;rfl):kO X (.Subscript o i pos) (bN wo wi):=by
 obtain⟨t,p,s⟩:=d;obtain⟨t',p',s'⟩:=hi;refine⟨_,vZ p p' vw ha,λF H C σ τ x v Q Q' χ R S r h q=>?_⟩;refine s F H C σ τ _ _ χ R S h λy g H1 C1 R1 t1 e h1=>?_;refine s' F H1 C1 σ τ _ _ χ R1 (S.tx t1) h1 λz l H2 C2 R2 t2 f h2=>?_;obtain⟨a,xs,k,j,rfl,rfl,hx,hj,h2⟩:=h2
 cases Z7 e
 cases Yi f
 obtain⟨ys,hy,rs⟩:=R2.lst hx;have b:=t1.trans t2;obtain⟨R',t'⟩:=R2.putL hx (rs.set (r.tx b) j);exact⟨a,ys,k,j,FQ,FQ,hy,by rw[rs.length];exact hj,q _ _ _ _ R' (b.trans t') (S.tx (b.trans t')) h2⟩
def Zp:E5 X [] Qp:=⟨_,rY,λF H C σ τ D D' R S h d=>d.nx σ τ H C R (Tx.refl H) S h⟩
def Cy:Lo X (.Continue pos) oG:=⟨_,Ap,λF H C σ τ D D' R S h d=>d.ct σ τ H C R (Tx.refl H) S h⟩
def Zi (a:Lo X st w):E5 X [st] w:=by
 obtain⟨t,p,s⟩:=a;exact⟨_,rX p,s⟩
def Zd (a:Lo X st w)(b:E5 X Yc u):E5 X (st::Yc) (Su w u):=by
 obtain⟨t,p,s⟩:=a;obtain⟨t',p',s'⟩:=b;refine⟨_,vQ p p',λF H C σ τ D D' R S h d=>?_⟩;exact s F H C σ τ _ _ R S h ⟨λy_ c H' C' R' t' e h'=>s' F H' C' y_ c D D' R' e h' (d.at t'),d.rt,d.bk,d.ct⟩
def Yw (a:Ji X e we)(hs:swapsWith e none pos.line X.env=pure false:=by rfl):Lo X (.Expr e pos) (Aj we):=by
 obtain⟨t,p,s⟩:=a;refine⟨_,rZ p hs,λF H C σ τ D D' R S h d=>?_⟩;exact s F H C σ τ _ _ D'.xc R S h λx v H1 C1 R1 t1 b h1=>d.nx σ τ H1 C1 R1 t1 (S.tx t1) h1
def Zm (a:Ji X e we):Lo X (.Return (some e) pos) (N4 we):=by
 obtain⟨t,p,s⟩:=a;refine⟨_,mi p,λF H C σ τ D D' R S h d=>?_⟩;exact s F H C σ τ _ _ D'.xc R S h d.rt
def Zz {c:WW}{a b:List WV}{wa wb:WS}(hc:wR X c wt)(ha:E5 X a wa)(hb:E5 X b wb):Lo X (.If c a b pos) (xr wt wa wb):=by
 obtain⟨t,p,s⟩:=hc;obtain⟨t1,e,s1⟩:=ha;obtain⟨t2,p2,s2⟩:=hb;refine⟨_,g8 p e p2,λF H C σ τ D D' R S h d=>?_⟩;refine s F H C σ τ _ _ D'.xc R S h λk H1 C1 R1 t1 h1=>?_
 cases k with
 | true=>exact s1 F H1 C1 σ τ D D' R1 (S.tx t1) h1 (d.at t1)
 | false=>exact s2 F H1 C1 σ τ D D' R1 (S.tx t1) h1 (d.at t1)
def Pi (b:Ji X e we)(c:kO X tg g)(hs:swapsWithSole [tg] e pos.line X.env=pure false:=by rfl)(hw:swappedStores [tg] e X.env=pure none:=by rfl)
  (h1:(assignEach [tg] X.env).map (·.2)=[assign tg X.env]:=by rfl):Lo X (.Assign [tg] e pos) (Ol we g):=by
 obtain⟨t,p,s⟩:=b;obtain⟨t',p',s'⟩:=c;refine⟨_,mn p p' hs hw h1,λF H C σ τ D D' R S h d=>?_⟩;refine s F H C σ τ _ _ D'.xc R S h λx v H1 C1 R1 t1 f h1=>?_;exact s' F H1 C1 σ τ x v _ _ D'.xc R1 (S.tx t1) f h1 λy_ a H' C' R' t'=>d.nx y_ a H' C' R' (t1.trans t')
def Zl {i:Nat}{x:Str}{n_:Pos}(b:X.N.Nodup)(c:Ji X e we)(hi:X.N[i]?=some x:=by rfl)(hx:nh X.env.scope x:=by first | exact Or.inl FQ | exact Or.inr FQ)(hs:swapsWith e (some (.Name x n_)) pos.line X.env=pure false:=by rfl)
  (f:X.fn x=true\/X.env.scope.names.lookup x=some .local:=by first | exact .inl FQ | exact .inr FQ | assumption):Lo X (.Assign [.Name x n_] e pos) (Ol we (Nq i)):=by
 obtain⟨t,p,s⟩:=c;refine⟨_,mh b hi hx p hs f,λF H C σ τ D D' R S h d=>?_⟩;refine s F H C σ τ _ _ D'.xc R S h λx v H1 C1 R1 t1 g h1=>?_;exact Jl F H1 C1 σ τ x v _ _ D'.xc R1 (S.tx t1) g h1 λy_ a H' C' R' t'=>d.nx y_ a H' C' R' (t1.trans t')
end
def Gv (K:WY)(F H0:Hp)(J:It)(xs:List T)(ok:Hw->Prop):Prop:=∀(i:Nat) (H:Hp) (C:Hw),Rl K F H C->Tx H0 H->ok C->
 (i<xs.length->J.go i H/\∀x H',J.yld i H x H'->∃v,xs[i]?=some v/\Rl K F H' C/\Tx H H'/\Ju K H' x v)/\(i=xs.length->J.stop i H)
def kM (K:WY)(wi:TI)(w:WI):Prop:=∀(F H:Hp) (C:Hw) (σ:L2.St) (τ:Sw) (R:It->Hp->Prop) (R':List T->(Hw->Prop)->Hw->Prop) (χ:WX),Rl K F H C->Xd K H σ τ->w τ C R' χ->
 (∀J H' xs ok C',Rl K F H' C'->Tx H H'->(∀a,Gv K a H' J xs ok)->R' xs ok C'->R J H')->wi σ H R
def iq (X:Cx)(tg e:WW)(w:WI):Prop:=∃t,PI X tg e t/\kM X.K t w
section
variable {X:Cx}{tg e a b:WW}{we:WE}{wA:WA}{pos p:Pos}
def qR {K:WY}{F H0:Hp}{l:WP}{xs:List T}:Gv K F H0 (db K l) xs (λC=>C l=some (.lst xs)):=λi H C R t ok=>by
 obtain⟨ys,hy,r⟩:=R.lst ok;refine⟨λhi=>?_,λhi=>⟨ys,Vr.of hy,by rw[r.length];omega⟩⟩;have ev:xs[i]?=some xs[i]:=by simp[hi]
 obtain⟨y,a,c⟩:=r.get ev;refine⟨⟨ys,y,Vr.of hy,a⟩,λx H' h=>?_⟩;obtain⟨rfl,h⟩:=h;have b:=h ys (Vr.of hy);rw[a] at b;cases b;exact⟨_,ev,R,Tx.refl _,c⟩
def ff {K:WY}{F H0:Hp}{l:WP}{ys:List V}{xs:List T}(c:sL K H0 l ys)(r0:Reps K H0 ys xs):Gv K F H0 (db K l) xs (λ_=>True):=λi H C R t ok=>by
 have hy:=(t.sqc c).sq;have r:=r0.tx t;refine⟨λhi=>?_,λhi=>⟨ys,hy,by rw[r.length];omega⟩⟩;have ev:xs[i]?=some xs[i]:=by simp[hi]
 obtain⟨y,a,d⟩:=r.get ev;refine⟨⟨ys,y,hy,a⟩,λx H' h=>?_⟩;obtain⟨rfl,h⟩:=h;have b:=h ys hy;rw[a] at b;cases b;exact⟨_,ev,R,Tx.refl _,d⟩
def lH {K:WY}{F H0:Hp}{l:WP}{ys:List V}{xs:List T}(c:Tw K H0 l ys)(r0:Reps K H0 ys xs):Gv K F H0 (bi K l) xs (λ_=>True):=λi H C R t ok=>by
 have hy:=t.sqt c;have r:=r0.tx t;refine⟨λhi=>?_,λhi=>⟨ys,hy,by rw[r.length];omega⟩⟩;have ev:xs[i]?=some xs[i]:=by simp[hi]
 obtain⟨y,a,d⟩:=r.get ev;refine⟨⟨ys,y,hy,a⟩,λx H' h=>?_⟩;obtain⟨rfl,h⟩:=h;have b:=h ys hy;rw[a] at b;cases b;exact⟨_,ev,R,Tx.refl _,d⟩
def lI {K:WY}{F H0:Hp}{z:Str}:Gv K F H0 (eY z) (z.cps.toList.map λc=>T.str ⟨#[c]⟩) (λ_=>True):=λi H C R t ok=>by
 refine⟨λhi=>⟨by show i<z.cps.size;simpa using hi,λx H' h=>?_⟩,λhi=>by show i=z.cps.size;simpa using hi⟩;obtain⟨rfl,c,hc,rfl⟩:=h;refine⟨.str ⟨#[c]⟩,?_,R,Tx.refl _,Wl⟩;rw[XM,DP,hc];rfl
def lJ {K:WY}{F H0:Hp}{lo:Int}{n:Nat}:Gv K F H0 (eZ lo n) (rng lo n) (λ_=>True):=λi H C R t ok=>by
 have a:(rng lo n).length=n:=by unfold rng;simp
 refine⟨λhi=>⟨by rw[a] at hi;exact hi,λx H' h=>?_⟩,λhi=>by show n<=i;omega⟩;obtain⟨rfl,rfl⟩:=h;refine⟨.int (lo+i),?_,R,Tx.refl _,Js⟩;unfold rng;rw[a] at hi;rw[XM,FG hi];rfl
def vp {WZ:List (WP×Obj)}{σ:L2.St}{H1:Hp}{s1:WR}{R:It->Hp->Prop}{z:Str}{v:WQ}(a:Zq X WZ σ H1 s1)(d:Z9 (.str z) v)(q:R (eY z) H1):wpAny (model X.prog X.w) X.A (pyIter v) (eV X WZ σ tg R) X.xe s1:=by
 obtain⟨t,rfl⟩:=d;have fin:∀b∈[s1.heap.objs.size],Mz X WZ H1 b:=λb hb=>by
  have e:b=s1.heap.objs.size:=by simpa using hb
  subst e;exact a.fpOk (XE _) a.fresh
 cases ha:z.cps.all (·<128)
 ·refine wpAny_pyIter_wide ha ⟨s1.heap.objs.size,[s1.heap.objs.size],_,_,H1,FQ,a.kept (t':=s1.toks) λb o e=>XC _ e,Im (ty:="str_iterator") (by decide) (λA c=>Walks.strWide c _ z t) λ_ _ _ _ _ st h=>wpAny_pyIter_striter_wide st h,⟨_,XF _ FQ,FQ,FQ⟩,fin,q⟩
 ·refine wpAny_pyIter_ascii ha ⟨s1.heap.objs.size,[s1.heap.objs.size],_,_,H1,FQ,a.kept (t':=s1.toks) λb o e=>XC _ e,Im (ty:="str_ascii_iterator") (by decide) (λA c=>Walks.strAscii c _ z t) λ_ _ _ _ _ st h=>wpAny_pyIter_striter_ascii st h,⟨_,XF _ FQ,FQ,FQ⟩,fin,q⟩
def cj (K:WY)(tl:TE):TI:=λσ H R=>tl σ H λx H1=>(∃a,x=.ref a/\(∃xs,Vr K H1 a xs)/\R (db K a) H1)\/(∃a,x=.ref a/\(∃xs,Tw K H1 a xs)/\R (bi K a) H1)\/∃z,x=.str z/\R (eY z) H1
def mr {tl:TE}(f:PE X e tl):PI X tg e (cj X.K tl):=by
 intro WZ s σ H R I h;refine Y3 (f WZ s σ H _ I h) λv s1 ⟨x,H1,c,d,g⟩=>?_
 rcases g with⟨a,rfl,⟨xs,hq⟩,q⟩ | ⟨a,rfl,⟨xs,hq⟩,q⟩ | ⟨z,rfl,q⟩
 ·cases d
  obtain⟨its,i,p,hz⟩:=c.list hq;refine wpAny_pyIter_list p.isList ?_;refine⟨s1.heap.objs.size,[s1.heap.objs.size],_,_,H1,FQ,c.kept (t':=s1.toks) λb o e=>XC _ e,xg a _,⟨_,XF _ FQ,FQ,FQ⟩,λb hb=>?_,q⟩;have e:b=s1.heap.objs.size:=by simpa using hb
  subst e;exact c.fpOk (XE _) (c.hok.fresh (XE _))
 ·cases d
  obtain⟨its,i,p,hz⟩:=c.tuple hq;refine wpAny_pyIter_tuple (show s1.heap.IsTuple a its.toArray from p) ?_;refine⟨s1.heap.objs.size,[s1.heap.objs.size],_,_,H1,FQ,c.kept (t':=s1.toks) λb o e=>XC _ e,zG a _,⟨_,XF _ FQ,FQ,FQ⟩,λb hb=>?_,q⟩;have e:b=s1.heap.objs.size:=by simpa using hb
  subst e;exact c.fpOk (XE _) (c.hok.fresh (XE _))
 ·exact vp c d q
def Uk (h:Ji X e we):iq X tg e (lM we):=by
 obtain⟨t,p,s⟩:=h;refine⟨_,mr p,λF H C σ τ R R' χ Rr S h q=>?_⟩;refine s F H C σ τ _ _ χ Rr S h λx v H1 C1 R1 t1 b h1=>?_
 cases v with
 | tup xs=>
  obtain⟨a,ys,rfl,hq,r⟩:=Yn b;exact .inr (.inl ⟨a,FQ,⟨ys,hq⟩,q _ H1 xs _ C1 R1 t1 (λ_=>lH hq r) h1⟩)
 | cl xs=>
  obtain⟨a,ys,rfl,hq,r⟩:=N7 b;exact .inl ⟨a,FQ,⟨ys,hq.sq⟩,q _ H1 xs _ C1 R1 t1 (λ_=>ff hq r) h1⟩
 | str z=>cases Jm b;exact .inr (.inr ⟨z,FQ,q _ H1 _ _ C1 R1 t1 (λ_=>lI) h1⟩)
 | ref a=>
  cases Z7 b
  obtain⟨xs,hx,h1⟩:=h1;obtain⟨ys,hy,r⟩:=R1.lst hx;exact .inl ⟨a,FQ,⟨ys,Vr.of hy⟩,q _ H1 xs _ C1 R1 t1 (λ_=>qR) h1⟩
 | _=>exact False.elim h1
def oX (b:Gl X "range")(hm:X.mg "range"=none)(ha:Lz X [a] wA)(hs:starEach [a] X.env=[(false,eval a X.env)]:=by rfl):iq X tg (.Call (.Name "range" p) [a] [] pos) (ci wA):=by
 obtain⟨t,c,s⟩:=ha;refine⟨_,xz b hm c hs,λF H C σ τ R R' χ Rr S h q=>?_⟩;refine s F H C σ τ _ _ χ Rr S h λxs vs H1 C1 R1 t1 rs h1=>?_;obtain⟨j,rfl,h2,d,h1⟩:=h1;obtain⟨x,rfl,e⟩:=Wn rs
 cases Yi e
 exact⟨j,FQ,h2,d,q _ H1 _ _ C1 R1 t1 (λ_=>lJ) h1⟩
end
def rH {K:WY}{wi:TI}{g:TG}{tb:TS}{i:WI}{g':WG}{b:WS}(hi:kM K wi i)(E:zv K g g')(hb:Gs K tb b):Gs K (iU wi g tb) (rN i g' b):=λF H C σ τ D D' R S h d=>by
 refine hi F H C σ τ _ _ D'.xc R S h λJ H1 xs ok C1 R1 t1 it h1=>?_;have n:=it F;refine⟨λi m σ H=>m=xs.length-i/\i<=xs.length/\∃τ C,Rl K F H C/\Tx H1 H/\Xd K H σ τ/\A8 g' b ok D' (xs.drop i) τ C,⟨xs.length,by simp,Nat.zero_le _,τ,C1,R1,Tx.refl _,S.tx t1,h1⟩,?_⟩;rintro i m o H2 ⟨rfl,G,p,C2,R2,t2,S2,h2⟩;by_cases c:i<xs.length
 ·right;have I:xs.drop i=xs[i]::xs.drop (i+1):=CT c;rw[I] at h2;obtain⟨hok,h2⟩:=h2;obtain⟨w,hy⟩:=(n i H2 C2 R2 t2 hok).1 c;refine⟨w,λy_ H'=>∃r C',Rl K F H' C'/\Tx H1 H'/\Xd K H' y_ r/\A8 g' b ok D' (xs.drop (i+1)) r C',λy_ H' q=>⟨xs.length-(i+1),by omega,FQ,c,q⟩,λx H' hx=>?_⟩;obtain⟨v,ev,R3,A,L⟩:=hy x H' hx;have:v=xs[i]:=by
   have e:xs[i]?=some xs[i]:=by simp[c]
   rw[e] at ev;exact(YH ev).symm
  subst this;refine E F H' C2 o p x _ _ _ D'.xc R3 (S2.tx A) L h2 λy z B N R4 Q U Y=>?_;have tt:Tx H1 B:=(t2.trans A).trans Q;exact hb F B N y z _ _ R4 U Y ⟨λf a s j R5 l t u=>⟨a,j,R5,tt.trans l,t,u⟩,λx v s j R5 l=>d.rt x v s j R5 ((t1.trans tt).trans l),λf a s j R5 l t u=>d.nx f a s j R5 ((t1.trans tt).trans l) t u,
   λf a s j R5 l t u=>⟨a,j,R5,tt.trans l,t,u⟩⟩
 ·left;have e:i=xs.length:=by omega
  subst e;rw[EQ] at h2;obtain⟨hok,h2⟩:=h2;exact⟨(n _ H2 C2 R2 t2 hok).2 FQ,d.nx o p H2 C2 R2 (t1.trans t2) S2 h2⟩
def Cv {X:Cx}{tg iter:WW}{body:List WV}{i:WI}{g:WG}{b:WS}{pos:Pos}(a:PassesOwn (model X.prog X.w) X.A X.env X.xe)(hc:X.calm=true)(hi:iq X tg iter i)(c:kO X tg g)(hb:E5 X body b)
  (hs:∀x,foldedSetIterable iter X.env x=pure x:=by intro _;rfl):Lo X (.For tg iter body [] pos) (rN i g b):=by
 obtain⟨t,p,s⟩:=hi;obtain⟨t',p',s'⟩:=c;obtain⟨t2,p2,s2⟩:=hb;exact⟨_,mj a hc p p' p2 hs,rH s s' s2⟩
def eE (K:WY)(we:WE):TE:=λσ H Q=>∃(F:Hp) (C:Hw) (τ:Sw) (Q':WK) (χ:WX),Rl K F H C/\Xd K H σ τ/\we τ C Q' χ/\QE K F H Q Q'
def xh (K:WY)(wt:WT):TT:=λσ H Q=>∃(F:Hp) (C:Hw) (τ:Sw) (Q':Bool->Hw->Prop) (χ:WX),Rl K F H C/\Xd K H σ τ/\wt τ C Q' χ/\QT K F H Q Q'
def Ji.pe {X:Cx}{e:WW}{we:WE}(h:Ji X e we):PE X e (eE X.K we):=by
 obtain⟨t,p,s⟩:=h;intro WZ st σ H Q I hq;obtain⟨F,C,τ,Q',χ,R,S,hw,q⟩:=hq;exact p WZ st σ H Q I (s F H C σ τ Q Q' χ R S hw q)
def w8 (X:Cx)(j':List WW)(w:WT):Prop:=∃t,yJ X j' t/\Nl X.K t w
def V7 {X:Cx}:w8 X [] nH:=⟨_,qj,λF H C σ τ Q Q' χ R S h q=>q true H C R (Tx.refl H) h⟩
def px {X:Cx}{e:WW}{wt:WT}(h:wR X e wt):w8 X [e] wt:=by
 obtain⟨t,p,s⟩:=h;exact⟨t,qi p,s⟩
def w8.pif {X:Cx}{j':List WW}{w:WT}(h:w8 X j' w):yJ X j' (xh X.K w):=by
 obtain⟨t,p,s⟩:=h;intro WZ st σ H Q I hq;obtain⟨F,C,τ,Q',χ,R,S,hw,q⟩:=hq;exact p WZ st σ H Q I (s F H C σ τ Q Q' χ R S hw q)
def Xd.cap {K:WY}{H:Hp}{σ:L2.St}{τ:Sw}(h:Xd K H σ τ)(cap:List (Option Nat)):Xd K H (Nj cap σ) (Gk cap τ):=by
 refine⟨by unfold Nj Gk;rw[XI,XI],λi v e=>?_⟩;unfold Gk at e;unfold Nj;rw[XM] at e |-
 cases a:cap[i]? with
 | none=>rw[a] at e;cases e
 | some o=>
  rw[a] at e
  cases o with
  | none=>simp at e
  | some j=>
   have e':(τ[j]?).join=some v:=by simpa using e
   have b:τ[j]?=some (some v):=by
    cases hj:τ[j]? with
    | none=>rw[hj] at e';cases e'
    | some z=>rw[hj] at e';rw[show z=some v from e']
   obtain⟨x,hx,r⟩:=h.2 j v b;exact⟨x,by simp[hx],r⟩
def uY (F:Hp)(p:WP)(ys:List V):Hp:=λb=>if b=p then some (.lst ys) else F b
def Md {F:Hp}{p:WP}{ys:List V}:uY F p ys p=some (.lst ys):=by unfold uY;rw[XY rfl]
def Cp {F:Hp}{p b:WP}{ys:List V}(h:b≠p):uY F p ys b=F b:=by unfold uY;rw[XX h]
def Ae {K:WY}{cap:List (Option Nat)}{wi:TI}{g:TG}{i:WI}{wg:WG}{wc:WT}{we:WE}(hi:kM K wi i)(L:zv K g wg){F H:Hp}{C:Hw}{σ:L2.St}{τ:Sw}{Q:WP->Hp->Prop}{Q':WK}{χ:WX}
  (R:Rl K F H C) (S:Xd K H σ τ) (h:ze cap i wg wc we τ C Q' χ) (q:∀p H' C',Rl K F H' C'->Tx H H'->Q' (.ref p) C'->Q p H'):De cap wi g (xh K wc) (eE K we) σ H Q:=by
 refine hi F H C σ τ _ _ χ R S h λJ H1 xs ok C1 R1 t1 it h1=>?_;intro p j;have hn:∀a o,F a=some o->a≠p:=λa o e=>Jh (R1.frm a o e).1 j;refine⟨λi m H2=>m=xs.length-i/\i<=xs.length/\∃C2 ys c,Rl K (uY F p ys) H2 C2/\Tx H1 H2/\Reps K H2 ys c/\Ly wg wc we ok (Gk cap τ) (λvs C2=>∀p,C2 p=none->Q' (.ref p) (up C2 p (.lst vs))) χ (xs.drop i) c C2,
  ⟨xs.length,by simp,Nat.zero_le _,C1,[],[],?_,Tx.new j,Yy,h1⟩,?_⟩
 ·refine⟨(R1.hid j).obj,λa o e=>?_⟩;by_cases ea:a=p
  ·subst ea;rw[Md] at e;cases e;exact⟨Ya,R1.free j⟩
  ·rw[Cp ea] at e;exact(R1.hid j).frm a o e
 rintro i m H2 ⟨rfl,N,C2,ys,c,R2,t2,ra,h2⟩;by_cases d:i<xs.length
 ·right;have U:xs.drop i=xs[i]::xs.drop (i+1):=CT d;rw[U] at h2;obtain⟨hok,h2⟩:=h2;obtain⟨s,hy⟩:=(it (uY F p ys) i H2 C2 R2 t2 hok).1 d;refine⟨s,λH'=>∃C2 ys c,Rl K (uY F p ys) H' C2/\Tx H1 H'/\Reps K H' ys c/\Ly wg wc we ok (Gk cap τ) (λvs C2=>∀p,C2 p=none->Q' (.ref p) (up C2 p (.lst vs))) χ (xs.drop (i+1)) c C2,
   λH' z=>⟨xs.length-(i+1),by omega,FQ,d,z⟩,λx H' hx=>?_⟩
  obtain⟨v,ev,R3,u,Y⟩:=hy x H' hx;have:v=xs[i]:=by
   have e:xs[i]?=some xs[i]:=by simp[d]
   rw[e] at ev;exact(YH ev).symm
  subst this;have S3:Xd K H' (Nj cap σ) (Gk cap τ):=(S.tx ((t1.trans t2).trans u)).cap cap;refine L (uY F p ys) H' C2 (Nj cap σ) (Gk cap τ) x _ _ _ χ R3 S3 Y h2 λA_ l H4 C4 R4 t4 w h4=>?_;refine⟨uY F p ys,C4,l,_,χ,R4,w,h4,λb H5 A R5 B D=>?_⟩;have f:Tx H2 H5:=(u.trans t4).trans B
  cases b with
  | true=>
   refine⟨uY F p ys,A,l,_,χ,R5,w.tx B,D,λy vy E C6 R6 G ry I=>?_⟩;obtain⟨n,r⟩:=R6.frm p _ Md;have t:Tx E (Yq E p (.lst (ys++[y]))):=Tx.put n (λz=>z);refine⟨ys,n,by rw[ra.length];exact I.1,C6,ys++[y],c++[vy],⟨λa o e=>?_,λa o e=>?_⟩,(t2.trans (f.trans G)).trans t,((ra.tx (f.trans G)).snoc ry).tx t,I.2⟩
   ·have ea:a≠p:=λz=>by subst z;rw[r] at e;cases e
    exact(R6.obj a o e).stay t (Z0 ea)
   ·by_cases ea:a=p
    ·subst ea;rw[Md] at e;cases e;exact⟨Ya,r⟩
    ·rw[Cp ea] at e;rw[Z0 ea];exact R6.frm a o (by rw[Cp ea];exact e)
  | false=>exact⟨A,ys,c,R5,t2.trans f,ra.tx f,D⟩
 ·left;have e:i=xs.length:=by omega
  subst e;rw[EQ] at h2;obtain⟨hok,h2⟩:=h2;refine⟨(it (uY F p ys) _ H2 C2 R2 t2 hok).2 FQ,?_⟩;obtain⟨n,r⟩:=R2.frm p _ Md;refine q p H2 (up C2 p (.lst c)) ⟨λa o e=>?_,λa o e=>?_⟩ (t1.trans t2) (h2 p r)
  ·by_cases ea:a=p
   ·subst ea;rw[Zf] at e;cases e;exact⟨ys,n,ra⟩
   ·rw[Zk ea] at e;exact R2.obj a o e
  ·have ea:=hn a o e;rw[Zk ea];exact R2.frm a o (by rw[Cp ea];exact e)
section
variable {X:Cx}{tg iter g_:WW}{j':List WW}{scope:Scope}{pos:Pos}{cN:List Str}{cap:List (Option Nat)}{cl:List (Str×WP)}{js:List Nat}{i:WI}{g:TG}{wg:WG}{wc:WT}{we:WE}
def Fp {K:WY}{w:WT}:∀(σ:L2.St) (H:Hp) (Q Q':Bool->Hp->Prop),(∀b H',Q b H'->Q' b H')->xh K w σ H Q->xh K w σ H Q':=λσ H Q Q' m h=>by
 obtain⟨F,C,τ,R',χ,R,S,hw,q⟩:=h;exact⟨F,C,τ,R',χ,R,S,hw,λb H' C' r t h=>m _ _ (q b H' C' r t h)⟩
structure nj (X:Cx)(tg iter g_:Expr)(j':List Expr)(scope:Scope)(cN:List Str)(cap:List (Option Nat))(cl:List (Str×Addr))(js:List Nat)(i:WI)(g:TG)(wg:WG)(wc:WT)(we:WE):Prop where
 calm:X.calm=true
 ok:X.Ok->No X cN cap scope cl
 it:iq X tg iter i
 tgt:∀fp s H,PG (Yg X cN scope cl fp s H) tg g
 gm:Qh g
 gk:Kb js g
 sg:zv X.K g wg
 js0:∀j∈js,(cap[j]?).join=none
 ts:∀fp s H,w8 (Yg X cN scope cl fp s H) j' wc
 el:∀fp s H,Ji (Yg X cN scope cl fp s H) g_ we
 fold:∀x,foldedSetIterable iter X.env x=pure x
def Rc (D:nj X tg iter g_ j' scope cN cap cl js i g wg wc we):Ji X (.ListComp g_ [⟨tg,iter,j',0⟩] scope pos) (ze cap i wg wc we):=by
 obtain⟨wi,p,s⟩:=D.it;have P:zz X tg iter g_ j' scope cN cap cl js wi g (xh X.K wc) (eE X.K we):=⟨D.calm,D.ok,p,D.tgt,D.gm,D.gk,D.js0,λfp s H=>(D.ts fp s H).pif,Fp,λfp s H=>(D.el fp s H).pe,D.fold⟩;exact⟨_,qp P,λF H C σ τ Q Q' χ R S h q=>Ae s D.sg R S h λp H' C' R' t' h'=>q _ _ H' C' R' t' Yu h'⟩
def yy {k:Nat}{y:Str}{c a:Pos}(e:X.N.Nodup)(hi:X.N[k]?=some y)(hy:X.env.scope.names.lookup y=some .local)
  (b:swapsWith (.ListComp g_ [⟨tg,iter,j',0⟩] scope pos) (some (.Name y c)) a.line X.env=pure true)
  (D:nj X tg iter g_ j' scope cN cap cl js i g wg wc we):Lo X (.Assign [.Name y c] (.ListComp g_ [⟨tg,iter,j',0⟩] scope pos) a) (Ol (ze cap i wg wc we) (Nq k)):=by
 obtain⟨wi,p,s⟩:=D.it;have P:zz X tg iter g_ j' scope cN cap cl js wi g (xh X.K wc) (eE X.K we):=⟨D.calm,D.ok,p,D.tgt,D.gm,D.gk,D.js0,λfp s H=>(D.ts fp s H).pif,Fp,λfp s H=>(D.el fp s H).pe,D.fold⟩;exact⟨_,zT e hi hy b P,λF H C σ τ E f R S h d=>Ae s D.sg R S h λp H' C' R' t' h'=>d.nx _ _ H' C' R' t' ((S.tx t').set Yu) h'⟩
end
def Jc {A:WM}{k:Nat}(a:Y8 k A):A.units+150<cLine:=by have:=a.un;omega
def spW (K:WY)(pr:List Df)(n i:Nat):Sp:=λvs H Q _=>∃(F:Hp) (C:Hw) (a:List T) (Q':WK) (χ:WX),Rl K F H C/\Reps K H vs a/\Jo pr n i a C Q' χ/\QE K F H Q Q'
def Y7 {X:Cx}{k i:Nat}{x:Str}{ps:List Str}{pr:List Df}{p pos:Pos}{e:WW}{es:List WW}{wA:WA}(c:Ca X.prog X.w X.K X.mg X.base k x ps (spW X.K pr k i))(d:Y8 k X.A)(f:Gl X x)(ha:Lz X (e::es) wA)
  (a:(x==("__debug__":Str))=false:=by decide) (g:starEach (e::es) X.env=(false,eval e X.env)::starEach es X.env:=by rfl) (b:(backTo pos (starEach es X.env)).any (·.1)=false:=by rfl):
  Ji X (.Call (.Name x p) (e::es) [] pos) (Xh (Jo pr k) i wA):=by
 obtain⟨t,j,s⟩:=ha;refine⟨_,oI c d f j a g b,λF H C σ τ Q Q' χ R S h q=>?_⟩;refine s F H C σ τ _ _ χ R S h λxs vs H1 C1 R1 t1 rs h1=>?_;refine⟨F,C1,vs,Q',χ,R1,?_,h1,QE.at q t1⟩;rw[YK];exact rs
def Xd.start {K:WY}{H:Hp}{vs:List V}{y:List T}(h:Reps K H vs y)(N:List Str)(m:Nat)(e:m=N.length-vs.length):Xd K H (start N vs) (y.map some++List.replicate m none):=by
 refine⟨?_,λi v hv=>?_⟩
 ·unfold L2.start;rw[AY,AY,XI,XI,ER,ER,h.length,e,h.length]
 ·unfold L2.start;by_cases hi:i<y.length
  ·rw[BM (by rw[XI];exact hi),XM] at hv
   cases a:y[i]? with
   | none=>rw[a] at hv;cases hv
   | some z=>
    rw[a] at hv
    cases hv
    obtain⟨x,hx,r⟩:=h.get a;refine⟨x,?_,r⟩;rw[BM (by rw[XI,h.length];exact hi),XM,hx];rfl
  ·rw[BJ (by rw[XI];omega),List.getElem?_replicate] at hv
   split at hv
   ·cases hv
   ·cases hv
def pD {P:WO}{w:WN}{K:WY}{mg:Str->Option WQ}{base:WU}{x:Str}{st:WV}{f:WP}{fd:VZ}{ps:List Str}{pr:List Df}{i:Nat}(F:Kk K x x st f fd)(hb:Xv K fd ps [])(hm:mg x=some (.ref f)):Ca P w K mg base 0 x ps (spW K pr 0 i):=
 ⟨f,fd,⟨λvs H Q E h=>by obtain⟨_,_,_,_,_,_,_,z,_⟩:=h;exact z.elim,λA outer s H args us vs Q E _ _ _ _ h=>by obtain⟨_,_,_,_,_,_,_,z,_⟩:=h;exact z.elim⟩,hb,F.kp,hm⟩
def pE {P:WO}{w:WN}{K:WY}{mg:Str->Option WQ}{base:WU}{x:Str}{st:WV}{f:WP}{fd:VZ}{ps:List Str}{sp:Sp}{n:Nat}(F:Kk K x x st f fd)(hb:Xv K fd ps [])(hm:mg x=some (.ref f))(G:Ww P w K mg base CX0 n f fd ps sp):Ca P w K mg base n x ps sp:=
 ⟨f,fd,G,hb,F.kp,hm⟩
def law_sp {K:WY}{pr:List Df}{n i:Nat}{H:Hp}{a:WP}{ns:List Int}(b:sQ H)(c:Vr K H a (ns.map V.int))(h:Jo pr n i [.cl (ns.map T.int)] (λ_=>none) (λv _=>v=.bl true) (λ_ _=>False)):
  spW K pr n i [.ref a] H (λv _=>v=.bl true) (λ_ _ _=>False):=by
 have hq:sL K H a (ns.map V.int):=by
  rcases c with(h | ⟨o,h⟩) | h
  ·rcases b a with e | ⟨o,xs,e⟩
   ·rw[e] at h;cases h
   ·rw[e] at h;cases h
  ·exact .inl ⟨o,h⟩
  ·exact .inr h
 refine⟨λ_=>none,λ_=>none,[.cl (ns.map T.int)],_,_,⟨(λ_ _ e=>by cases e),(λ_ _ e=>by cases e)⟩,Yl ?_ Yy,h,λx v H' C' R t r e=>?_⟩
 ·unfold Ju;exact⟨a,_,FQ,hq,Fw ns⟩
 ·subst e;exact Os r
end WL
open WL
namespace L2
section
variable {κ:Type}[DecidableEq κ]
def Oj (kvs:List (κ×V))(k:κ):Option V:=(kvs.find? λkv=>decide (kv.1=k)).map (·.2)
def Vp (kvs:List (κ×V))(k:κ)(v:V):List (κ×V):=
 if (kvs.any λkv=>decide (kv.1=k))=true then kvs.map (λkv=>if kv.1=k then(kv.1,v) else kv) else kvs++[(k,v)]
def oW (kvs:List (κ×V))(k:κ):List (κ×V):=kvs.filter λkv=>decide (kv.1≠k)
def Nv {p:κ×V}{r:List (κ×V)}{k:κ}(e:p.1=k):Oj (p::r) k=some p.2:=by simp[Oj,List.find?_cons,e]
def Nw {p:κ×V}{r:List (κ×V)}{k:κ}(e:¬p.1=k):Oj (p::r) k=Oj r k:=by simp[Oj,List.find?_cons,e]
def B8 (k:κ):∀kvs:List (κ×V),(kvs.any λkv=>decide (kv.1=k))=(Oj kvs k).isSome
 | []=>rfl
 | p::r=>by
  rw[DH];by_cases e:p.1=k
  ·simp only[Nv e,decide_eq_true e,Bool.true_or,Option.isSome_some]
  ·rw[Nw e,YG e,Bool.false_or];exact B8 k r
def Pa (kvs:List (κ×V))(k:κ)(v:V):(Vp kvs k v).length<=kvs.length+1:=by
 unfold Vp
 split
 ·rw[XI];omega
 ·rw[AY,YF,EW];omega
def On.isSome_eq {o:Option V}{u:Option WQ}(r:On o u):o.isSome=u.isSome:=by
 cases o with
 | none=>cases u with
  | none=>rfl
  | some _=>exact(show False from r).elim
 | some _=>cases u with
  | none=>exact(show False from r).elim
  | some _=>rfl
def KV.val {kvs:List (κ×V)}{vs:List (κ×WQ)}(r:KV kvs vs)(k:κ):On (Oj kvs k) (valueAt vs k):=by
 unfold KV at r
 induction r with
 | nil=>exact True.intro
 | @cons p q ps qs h t a=>
  obtain⟨h1,h2⟩:=h;by_cases e:p.1=k
  ·have e':q.1=k:=h1.symm.trans e;have b:valueAt (q::qs) k=some q.2:=by simp[valueAt,List.find?_cons,e']
   rw[Nv e,b];exact h2
  ·have e':¬q.1=k:=λz=>e (h1.trans z);have b:valueAt (q::qs) k=valueAt qs k:=by simp[valueAt,List.find?_cons,e']
   rw[Nw e,b];exact a
def KV.any {kvs:List (κ×V)}{vs:List (κ×WQ)}(r:KV kvs vs)(k:κ):(kvs.any λkv=>decide (kv.1=k))=vs.any λkv=>decide (kv.1=k):=by
 unfold KV at r
 induction r with
 | nil=>rfl
 | cons h t a=>rw[DH,DH,a,h.1]
def KV.repl {kvs:List (κ×V)}{vs:List (κ×WQ)}(r:KV kvs vs)(k:κ){y:V}{u:WQ}(D:Z9 y u):
  KV (kvs.map λkv=>if kv.1=k then(kv.1,y) else kv) (vs.map λkv=>if kv.1=k then(kv.1,u) else kv):=by
 unfold KV at r |-
 induction r with
 | nil=>exact .nil
 | @cons p q ps qs h t a=>
  rw[YI,YI];refine .cons ?_ a;obtain⟨h1,h2⟩:=h;by_cases e:p.1=k
  ·rw[XY e,XY (h1.symm.trans e)];exact⟨h1,D⟩
  ·rw[XX e,XX (λz=>e (h1.trans z))];exact⟨h1,h2⟩
def KV.put {kvs:List (κ×V)}{vs:List (κ×WQ)}(r:KV kvs vs)(k:κ){y:V}{u:WQ}(D:Z9 y u):KV (Vp kvs k y) (stored vs k u):=by
 unfold Vp stored;rw[r.any k];by_cases e:(vs.any λkv=>decide (kv.1=k))=true
 ·rw[XY e,XY e];exact r.repl k D
 ·rw[XX e,XX e];exact Paired.snoc r ⟨FQ,D⟩
def KV.length {kvs:List (κ×V)}{vs:List (κ×WQ)}(r:KV kvs vs):kvs.length=vs.length:=Paired.length r
end
def Hj {P:WO}{w:WN}{k:Z8}{u:WQ}(r:Z9 (kV k) u):(Yv P w).is k u=true:=by
 cases k with
 | inl i=>obtain⟨t,e⟩:=(show ∃t,u=Value.int i t from r);subst e;exact Au P w i t
 | inr x=>obtain⟨t,e⟩:=(show ∃t,u=Value.str x t from r);subst e;exact At P w x t
def Ec {P:WO}{w:WN}:∀{ks:List Z8} {us:List WQ},Z5 (ks.map kV) us->ItemsAre (Yv P w) ks us
 | [],_,r=>by rw[EV] at r;cases r;exact .nil
 | k::ks,_,r=>by
  rw[YI] at r
  cases r with
  | cons h t=>exact .cons (Hj h) (Ec t)
abbrev KT (H:Hp):List (List Z8×V)->List (List Z8×WP×WQ)->Prop:=Paired λp q=>p.1=q.1/\H q.2.1=some (.tup (p.1.map kV))/\Z9 p.2 q.2.2
def KT.val {H:Hp}{kvs:List (List Z8×V)}{xs:List (List Z8×WP×WQ)}(r:KT H kvs xs)(k:List Z8):On (Oj kvs k) ((atKey xs k).map (·.2)):=by
 induction r with
 | nil=>exact True.intro
 | @cons p q ps qs h t a=>
  obtain⟨h1,_,h2⟩:=h;by_cases e:p.1=k
  ·have e':q.1=k:=h1.symm.trans e;have b:atKey (q::qs) k=some q.2:=by simp[atKey,List.find?_cons,e']
   rw[Nv e,b];exact h2
  ·have e':¬q.1=k:=λz=>e (h1.trans z);have b:atKey (q::qs) k=atKey qs k:=by simp[atKey,List.find?_cons,e']
   rw[Nw e,b];exact a
def KT.repl {H:Hp}{kvs:List (List Z8×V)}{xs:List (List Z8×WP×WQ)}(r:KT H kvs xs)(k:List Z8){y:V}{u:WQ}(D:Z9 y u):
  KT H (kvs.map λkv=>if kv.1=k then(kv.1,y) else kv) (xs.map (putAt k u)):=by
 induction r with
 | nil=>exact .nil
 | @cons p q ps qs h t a=>
  rw[YI,YI];refine .cons ?_ a;obtain⟨h1,h2,b⟩:=h;unfold putAt;by_cases e:p.1=k
  ·rw[XY e,XY (h1.symm.trans e)];exact⟨h1,h2,D⟩
  ·rw[XX e,XX (λz=>e (h1.trans z))];exact⟨h1,h2,b⟩
def KT.put {H:Hp}{kvs:List (List Z8×V)}{xs:List (List Z8×WP×WQ)}(r:KT H kvs xs)(k:List Z8){b:WP}{y:V}{u:WQ}(hb:H b=some (.tup (k.map kV)))(D:Z9 y u):
  KT H (Vp kvs k y) (storedH xs k b u):=by
 have e:(kvs.any λkv=>decide (kv.1=k))=(atKey xs k).isSome:=by
  rw[B8,(r.val k).isSome_eq,CP]
 unfold Vp storedH;rw[e];by_cases q:(atKey xs k).isSome=true
 ·rw[XY q,XY q];exact r.repl k D
 ·rw[XX q,XX q];exact Paired.snoc r ⟨FQ,hb,D⟩
def KT.keeps {H H':Hp}{kvs:List (List Z8×V)}{xs:List (List Z8×WP×WQ)}(r:KT H kvs xs)(y:∀b ys,H b=some (.tup ys)->H' b=some (.tup ys)):KT H' kvs xs:=
 Paired.mapP r λ_ _ z=>⟨z.1,y _ _ z.2.1,z.2.2⟩
section
variable {P:WO}{w:WN}{H:Hp}{h:WU}{a:WP}
def oH {u:HO}(ok:Ux P w H h)(e:Rd H a u):Y5 P w H h a u:=e.ok ok
def Ge {kvs:List (Z8×V)}(ok:Ux P w H h)(e:Rd H a (.dK kvs)):kvs.length<=sizeLine/\(a==sysModules)=false/\∃vs,KV kvs vs/\h.DictOf (Yv P w) a vs:=
 show Y5 P w H h a (.dK kvs) from oH ok e
def jG {kvs:List (Z8×V)}(ok:Ux P w H h)(e:H a=some (.dK kvs)):kvs.length<=sizeLine/\(a==sysModules)=false/\∃vs,KV kvs vs/\h.DictOf (Yv P w) a vs:=Ge ok (.inl e)
def Hh {ks:List Z8}(ok:Ux P w H h)(e:H a=some (.tup (ks.map kV))):(tupleKind (Yv P w)).is h ks a:=by
 obtain⟨_,its,r,o,h1,h2,n,b⟩:=(show Y5 P w H h a (.tup (ks.map kV)) from ok a _ e);exact⟨o,its.toArray,n,h1,h2,b,by simpa using Ec r⟩
def En {kvs:List (List Z8×V)}(ok:Ux P w H h)(e:Rd H a (.dT kvs)):kvs.length<=sizeLine/\(a==sysModules)=false/\
  ∃xs,KT H kvs xs/\h.DictOfH (tupleKind (Yv P w)) a xs:=by
 obtain⟨z,y,xs,r,o,es,ep,h1,h2,b,c,d⟩:=(show Y5 P w H h a (.dT kvs) from oH ok e);refine⟨z,y,xs,r,o,es,ep,h1,h2,b,c,λx hx=>?_,d⟩;have all:∀{l:List (List Z8×V)} {m:List (List Z8×WP×WQ)},KT H l m->∀x∈m,(tupleKind (Yv P w)).is h x.1 x.2.1:=by
  intro l m q
  induction q with
  | nil=>intro x hx;exact nomatch hx
  | @cons p q ps qs hq t f=>
   intro x hx
   rcases BB.mp hx with e | hx
   ·subst e;exact Hh ok (by rw[<-hq.1];exact hq.2.1)
   ·exact f x hx
 exact all r x hx
def fC {kvs:List (List Z8×V)}(ok:Ux P w H h)(e:H a=some (.dT kvs)):kvs.length<=sizeLine/\(a==sysModules)=false/\
  ∃xs,KT H kvs xs/\h.DictOfH (tupleKind (Yv P w)) a xs:=En ok (.inl e)
end
def zx (H:Hp)(a:WP)(y:V)(r:Option V):Prop:=
 (∃kvs k,Rd H a (.dK kvs)/\y=kV k/\r=Oj kvs k)\/∃kvs k b,Rd H a (.dT kvs)/\y=.ref b/\H b=some (.tup (k.map kV))/\r=Oj kvs k
def wF (H:Hp)(a:WP)(y v:V)(H':Hp):Prop:=
 (∃kvs k,H a=some (.dK kvs)/\y=kV k/\kvs.length<sizeLine/\H'=Yq H a (.dK (Vp kvs k v)))\/
 ∃kvs k b,H a=some (.dT kvs)/\y=.ref b/\H b=some (.tup (k.map kV))/\kvs.length<sizeLine/\H'=Yq H a (.dT (Vp kvs k v))
def wF.k {H:Hp}{a:WP}{kvs:List (Z8×V)}{k:Z8}{v:V}(e:H a=some (.dK kvs))(y:kvs.length<sizeLine):wF H a (kV k) v (Yq H a (.dK (Vp kvs k v))):=.inl ⟨kvs,k,e,FQ,y,FQ⟩
section
variable {X:Cx}{WZ:List (WP×Obj)}{σ:St}{H:Hp}{s:WR}{a:WP}{y v:V}{u r:WQ}{o:Option V}{A:WM}{E:WQ->WR->Prop}
def Zq.big (I:Zq X WZ σ H s):sysModules<s.heap.objs.size:=by
 have h:mainGlobals<s.heap.objs.size:=(I.mod.glob.keeps I.bk).lt;exact Nat.lt_trans (by decide) h
def xX {Q:WQ->WR->Prop}(j:A.units+1<cLine)(I:Zq X WZ σ H s)(g:zx H a y (some v))(i:Z9 y u)(h:∀w' s',Zq X WZ σ H s'->Z9 v w'->Q w' s'):
  wpAny (model X.prog X.w) A (getItem (.ref a) u) Q E s:=by
 rcases g with⟨kvs,k,e,d,l⟩ | ⟨kvs,k,b,e,d,m,l⟩
 ·subst d;obtain⟨z,hd,vs,rel,dd⟩:=Ge I.hok e;obtain⟨w',hw,c⟩:=On.some_of (v:=v) (o:=valueAt vs k) (by rw[l];exact rel.val k);exact wpAny_getItem_of (Hj i) dd.mapOf hw (h w' _ (I.tok _) c)
 ·subst d
  cases (show u=Value.ref b from i)
  obtain⟨z,hd,xs,rel,dd⟩:=En I.hok e;obtain⟨w',hw,c⟩:=On.some_of (v:=v) (o:=(atKey xs k).map (·.2)) (by rw[l];exact rel.val k);obtain⟨p,n,f⟩:=Option.map_eq_some_iff.mp hw;refine wpAny_getItem_heap (tupleKind_room_in1 j) (Hh I.hok m) dd n ?_;rw[f];exact h w' _ (I.tok _) c
def cF {Q:WQ->WR->Prop}(f:A.units+1<cLine)(I:Zq X WZ σ H s)(g:zx H a y o)(d:Z9 y u)(h:∀s',Zq X WZ σ H s'->Q (.bool o.isSome) s'):
  wpAny (model X.prog X.w) A (compareOp .In u (.ref a)) Q E s:=by
 rcases g with⟨kvs,k,e,c,l⟩ | ⟨kvs,k,b,e,c,i,l⟩
 ·subst c;obtain⟨z,hd,vs,rel,dd⟩:=Ge I.hok e;refine wpAny_in_of (Hj d) hd dd.mapOf ?_;rw[<-(rel.val k).isSome_eq,<-l];exact h _ (I.tok _)
 ·subst c
  cases (show u=Value.ref b from d)
  obtain⟨z,hd,xs,rel,dd⟩:=En I.hok e;refine wpAny_in_heap (tupleKind_room_in1 f) (Hh I.hok i) hd dd ?_;have q:=(rel.val k).isSome_eq;rw[CP] at q;rw[<-q,<-l];exact h _ (I.tok _)
def pA {Q:WQ->WR->Prop}(f:A.units+1<cLine)(I:Zq X WZ σ H s)(g:zx H a y o)(d:Z9 y u)(h:∀s',Zq X WZ σ H s'->Q (.bool (!o.isSome)) s'):
  wpAny (model X.prog X.w) A (compareOp .NotIn u (.ref a)) Q E s:=by
 rcases g with⟨kvs,k,e,c,l⟩ | ⟨kvs,k,b,e,c,i,l⟩
 ·subst c;obtain⟨z,hd,vs,rel,dd⟩:=Ge I.hok e;refine wpAny_notIn_of (Hj d) hd dd.mapOf ?_;rw[<-(rel.val k).isSome_eq,<-l];exact h _ (I.tok _)
 ·subst c
  cases (show u=Value.ref b from d)
  obtain⟨z,hd,xs,rel,dd⟩:=En I.hok e;refine wpAny_notIn_heap (tupleKind_room_in1 f) (Hh I.hok i) hd dd ?_;have q:=(rel.val k).isSome_eq;rw[CP] at q;rw[<-q,<-l];exact h _ (I.tok _)
def K5 {h':WU}{t':Nat}{ob:HO}(I:Zq X WZ σ H s)(c:fZ (H a))(hs:Heap.SameBut a s.heap h')(d:∃q,h'.get? a=some q)(new:Y5 X.prog X.w (Yq H a ob) h' a ob):
  Zq X WZ σ (Yq H a ob) {s with heap:=h',toks:=t'}:=
 I.write (x:=a) (e:=a) c (.inl FQ) (λb q hb z=>(hs.2 b hb).trans z) d new
def Gf {P:WO}{w:WN}{H':Hp}{h':WU}{kvs:List (Z8×V)}{vs:List (Z8×WQ)}(z:kvs.length<=sizeLine)(hd:(a==sysModules)=false)(rel:KV kvs vs)(dd:h'.DictOf (Yv P w) a vs):
  Y5 P w H' h' a (.dK kvs):=⟨z,hd,vs,rel,dd⟩
def xW {H':Hp}{Q:Unit->WR->Prop}(t:A.units+1<cLine)(I:Zq X WZ σ H s)(g:wF H a y v H')(m:Z9 y u)(n:Z9 v r)(h:∀s',Zq X WZ σ H' s'->Q () s'):
  wpAny (model X.prog X.w) A (setItem (.ref a) u r) Q E s:=by
 rcases g with⟨kvs,k,e,f,l,i⟩ | ⟨kvs,k,b,e,f,o,l,i⟩
 ·subst f i;obtain⟨z,hd,vs,rel,dd⟩:=jG I.hok e;have hz:vs.length<=sizeLine:=by rw[<-rel.length];exact z
  have j:(Vp kvs k v).length<=sizeLine:=by have:=Pa kvs k v;omega
  refine wpAny_setItem_pairs (hsz:=hz) (Hj m) dd λh' d hs=>h _ ?_;have x:∃q,h'.get? a=some q:=let ⟨q,_,_,hq,_⟩:=d;⟨q,hq⟩
  exact K5 I (by rw[e];exact True.intro) hs x (Gf j hd (rel.put k n) d)
 ·subst f i
  cases (show u=Value.ref b from m)
  obtain⟨z,hd,xs,rel,dd⟩:=fC I.hok e;have hz:xs.length<=sizeLine:=by rw[<-Paired.length rel];exact z
  have j:(Vp kvs k v).length<=sizeLine:=by have:=Pa kvs k v;omega
  refine wpAny_setItem_heap (hsz:=hz) (tupleKind_room_in1 t) (Hh I.hok o) dd λh' d hs=>h _ ?_;obtain⟨q,es,ep,hq,h2,B,C,_,D⟩:=d;refine K5 I (by rw[e];exact True.intro) hs ⟨q,hq⟩ ⟨j,hd,_,(rel.put k o n).keeps λc ys p=>?_,q,es,ep,hq,h2,B,C,D⟩;rw[Z0 (gQ p e (λz=>nomatch z))];exact p
end
def kU (i:WW):Prop:=∀ov a,subscripted i false ov a=operate [ov,a] (getItem ov a)
def rC {prog:WO}{w:WN}{A:WM}{E:WQ->WR->Prop}{s:WR}{env:Env}{value a:WW}{pos:Pos}{T id:String}{Q:WQ->WR->Prop}
  (l:typeLookup (.type T) "__getitem__"=pure (some (.builtin id))) (hs:kU a)
  (h:wpAny (model prog w) A (eval value env) (λo d=>wpAny (model prog w) A (eval a env) (λi b=>b.TypeIs o T/\wpAny (model prog w) A (getItem o i) Q E b) E d) E s):
  wpAny (model prog w) A (eval (.Subscript value a pos) env) Q E s:=by
 refine Subscript_ (wpAny_mono h (λo d f=>wpAny_mono f (λi b c=>?_) λ_ _ x=>x) λ_ _ x=>x);obtain⟨j,c⟩:=c;unfold subscriptTail;refine XA ?_;rw[getitemInPython_of_ne j.not_modules];refine XA (wpAny_specialOf j l ?_);have fin:wpAny (model prog w) A (subscripted a false o i) (λr e=>wpAny (model prog w) A (letTemporaryGo value o r>>=λ_=>pure r) Q E e) E b:=by
  rw[hs o i];exact wpAny_operating (wpAny_mono c (λr e g=>XA (wpAny_letTemporaryGo (XB g))) λ_ _ x=>x)
 first
  | exact XB (XA fin)
  | exact XA (XB (XA fin))
  | exact XA fin
def zh {X:Cx}{WZ:List (WP×Obj)}{σ:St}{H:Hp}{s:WR}{a:WP}{y:V}{o:Option V}(I:Zq X WZ σ H s)(g:zx H a y o):s.TypeIs (.ref a) "dict":=by
 rcases g with⟨kvs,k,e,_,_⟩ | ⟨kvs,k,b,e,_,_,_⟩
 ·obtain⟨_,_,vs,_,dd⟩:=Ge I.hok e;exact dd.typeIs
 ·obtain⟨_,_,xs,_,dd⟩:=En I.hok e;exact dd.typeIs
def iY (td ty:TE):TE:=λσ H Q=>td σ H λx H1=>ty σ H1 λy H2=>∃a v,x=.ref a/\zx H2 a y (some v)/\Q v H2
def aw (ty td:TE):TE:=λσ H Q=>ty σ H λy H1=>td σ H1 λx H2=>∃a o,x=.ref a/\zx H2 a y o/\Q (.bl o.isSome) H2
def bB (td ty tv:TE):TS:=λD σ H=>tv σ H λv H1=>td σ H1 λx H2=>ty σ H2 λy c=>∃a b,x=.ref a/\wF c a y v b/\D.nx σ b
def bD (td ty tv:TE)(rd:V->V->Hp->VK->Prop):TS:=λD σ H=>td σ H λx H1=>ty σ H1 λy H2=>∃a v,x=.ref a/\zx H2 a y (some v)/\
 tv σ H2 λy2 c=>rd v y2 c λz d=>∃b,wF d a y z b/\D.nx σ b
def bC (td ty:TE):TS:=λD σ H=>td σ H λx H1=>ty σ H1 λy H2=>∃a kvs k,x=.ref a/\H2 a=some (.dK kvs)/\y=kV k/\(Oj kvs k).isSome=true/\D.nx σ (Yq H2 a (.dK (oW kvs k)))
section
variable {X:Cx}{o i e value:WW}{pos n_ t_:Pos}{td ty tv:TE}
def qo (d:X.A.units+1<cLine)(e:PE X o td)(hi:PE X i ty)(hs:kU i):PE X (.Subscript o i pos) (iY td ty):=by
 intro WZ s σ H Q I h;refine rC PySem.F.slot_dict_getitem.lookup hs (Y3 (e WZ s σ H _ I h) λu s1 ⟨x,H1,f,j,l⟩=>Y3 (hi WZ s1 σ H1 _ f l) λq s2 ⟨y,H2,c,m,a,v,ex,g,n⟩=>?_);subst ex;obtain rfl:u=Value.ref a:=j;exact⟨zh c g,xX d c g m λw' r p b=>⟨v,H2,p,b,n⟩⟩
end
def zg {P:WO}{w:WN}{H:Hp}(h:WU)(hb:sysModules<h.objs.size):Y5 P w H (h.push {cls:=.type "dict",data:=.dict #[]}) h.objs.size (.dK []):=
 ⟨XO _,Tm.mpr (Ne.symm (XH hb)),[],.nil,Heap.DictOf.new h⟩
def nM:TE:=λ_ H Q=>∀p,H p=none->Q (.ref p) (Yq H p (.dK []))
section
variable {X:Cx}{pos:Pos}
def ug:PE X (.Dict [] [] pos) nM:=λWZ s σ H Q I h=>
 wpAny_Dict_empty ⟨.ref s.heap.objs.size,_,I.laid (a:=s.heap.objs.size) (o:=.dK []) (t':=s.toks) (λ_ _ q=>XC _ q) (XE _) (zg s.heap I.big),FQ,h _ (I.hok.fresh (XE _))⟩
end
def Dd:List (TE×TE)->St->Hp->(List (V×V)->Hp->Prop)->Prop
 | [],_,H,Q=>Q [] H
 | (tk,tv)::r,σ,H,Q=>tk σ H λx H1=>tv σ H1 λy H2=>Dd r σ H2 λps a=>Q ((x,y)::ps) a
abbrev VV:List (V×V)->List (WQ×WQ)->Prop:=Paired λp q=>Z9 p.1 q.1/\Z9 p.2 q.2
def fV (X:Cx)(pos:Pos)(keys:List (Option WW))(a:List WW)(b:List (TE×TE)):Prop:=
 ∀(WZ:List (WP×Obj)) (s:WR) (σ:St) (H:Hp) (Q:List (V×V)->Hp->Prop),Zq X WZ σ H s->Dd b σ H Q->
  wpAny (model X.prog X.w) X.A (evalPairs (pairTrees keys a X.env pos)) (λvs s'=>∃ps H',Zq X WZ σ H' s'/\VV ps vs/\Q ps H') X.xe s
def qe {X:Cx}{pos:Pos}:fV X pos [] [] []:=λWZ s σ H Q I h=>pairTrees_nil_walk ⟨[],H,I,.nil,h⟩
def vX {X:Cx}{pos:Pos}{k v:WW}{ks:List (Option WW)}{vs:List WW}{tk tv:TE}{a:List (TE×TE)}(hk:PE X k tk)(hv:PE X v tv)(b:fV X pos ks vs a):
  fV X pos (some k::ks) (v::vs) ((tk,tv)::a):=λWZ s σ H Q I h=>
 pairTrees_cons_walk (Y3 (hk WZ s σ H _ I h) λu s1 ⟨x,H1,c,d,e⟩=>Y3 (hv WZ s1 σ H1 _ c e) λn s2 ⟨y,H2,f,g,i⟩=>
  Y3 (b WZ s2 σ H2 _ f i) λws o ⟨ps,j,l,rel,m⟩=>⟨(x,y)::ps,j,l,.cons ⟨d,g⟩ rel,m⟩)
def Q8 (kvs more:List (Z8×V)):List (Z8×V):=more.foldl (λa kv=>Vp a kv.1 kv.2) kvs
def KV.merge:∀{more:List (Z8×V)} {rs:List (Z8×WQ)} {kvs:List (Z8×V)} {vs:List (Z8×WQ)},KV more rs->KV kvs vs->KV (Q8 kvs more) (merged vs rs):=by
 intro more rs kvs vs r;unfold KV at r
 induction r generalizing kvs vs with
 | nil=>intro q;exact q
 | @cons p q ps qs h t a=>
  intro r0;have e:KV (Vp kvs p.1 p.2) (stored vs q.1 q.2):=by
   have:=r0.put p.1 h.2;rw[<-h.1];exact this
  exact a e
def Sy:∀(more kvs:List (Z8×V)),(Q8 kvs more).length<=kvs.length+more.length
 | [],kvs=>by show kvs.length<=kvs.length+0;omega
 | p::r,kvs=>by
  have h1:=Sy r (Vp kvs p.1 p.2);have h2:=Pa kvs p.1 p.2;show(Q8 (Vp kvs p.1 p.2) r).length<=_;rw[YF];omega
def Gj {P:WO}{w:WN}:∀{kvs:List (Z8×V)} {ws:List (WQ×WQ)},VV (kvs.map λkv=>(kV kv.1,kv.2)) ws->∃rs,Carries (Yv P w) ws rs/\KV kvs rs
 | [],_,r=>by rw[EV] at r;cases r;exact⟨[],True.intro,.nil⟩
 | p::kvs,_,r=>by
  rw[YI] at r
  cases r with
  | @cons a b as bs h t=>
   obtain⟨rs,c,q⟩:=Gj (P:=P) (w:=w) t;obtain⟨b1,b2⟩:=b;exact⟨(p.1,b2)::rs,⟨Hj h.1,FQ,c⟩,.cons ⟨FQ,h.2⟩ q⟩
def iW (a:List (TE×TE)):TE:=λσ H Q=>∀p,H p=none->Dd a σ (Yq H p (.dK [])) λps H2=>H2 p=some (.dK [])/\∃kvs:List (Z8×V),ps=kvs.map (λkv=>(kV kv.1,kv.2))/\kvs.length<=15/\Q (.ref p) (Yq H2 p (.dK (Q8 [] kvs)))
def qm {X:Cx}{pos:Pos}{keys:List (Option WW)}{b:List WW}{d:List (TE×TE)}(h:fV X pos keys b d)(f:keys.all (·.isSome)=true)(l:keys.length=b.length)(m:keys≠[])
  (i:keys.length<=15):PE X (.Dict keys b pos) (iW d):=by
 intro WZ s σ H Q I q;have hn:=I.hok.fresh (XE s.heap.objs.size);have n:=I.laid (a:=s.heap.objs.size) (o:=.dK []) (h':=s.heap.push {cls:=.type "dict",data:=.dict #[]}) (t':=s.toks) (λ_ _ q=>XC _ q) (XE _) (zg s.heap I.big);refine wpAny_Dict_walk (knd:=Yv X.prog X.w) f l m i (Y3 (h WZ _ σ _ _ n (q _ hn)) λws s2 ⟨ps,H2,j,rel,e,kvs,ep,lk,p⟩=>?_);subst ep;obtain⟨rs,c,rk⟩:=Gj (P:=X.prog) (w:=X.w) rel;obtain⟨z,hd,r,r0,dd⟩:=jG j.hok e
 cases r0
 refine⟨rs,c,dd,λh' g hs=>⟨.ref s.heap.objs.size,_,?_,FQ,p⟩⟩;have hz:(Q8 [] kvs).length<=sizeLine:=by
  have h1:=Sy kvs [];rw[EW] at h1;rw[sizeLine_eq];omega
 have t:∃q,h'.get? s.heap.objs.size=some q:=let ⟨q,_,_,hq,_⟩:=g;⟨q,hq⟩
 exact K5 j (by rw[e];exact True.intro) hs t (Gf hz hd (rk.merge .nil) g)
structure M1 (X:Cx)(o:Expr)(m:Str)(c_:Pos)(e:Expr)(f_:Pos):Prop where
 base:attributeBase o m X.env (eval o X.env)=eval o X.env
 few:((backTo f_ (starEach [e] X.env)).all (λx=>!x.1)&&(backToKw f_ (keywordEach [] X.env)).all (λx=>x.1.isSome)
  &&decide (([e]:List WW).length+([]:List Keyword).length+(if ([]:List Keyword).isEmpty then 0 else 1)<30))=true
 line:(c_.endLine==f_.line)=true
 trees:backTo f_ (starEach [e] X.env)=[(false,eval e X.env)]
structure M2 (X:Cx)(o:Expr)(m:Str)(c_:Pos)(e f:Expr)(f_:Pos):Prop where
 base:attributeBase o m X.env (eval o X.env)=eval o X.env
 few:((backTo f_ (starEach [e,f] X.env)).all (λx=>!x.1)&&(backToKw f_ (keywordEach [] X.env)).all (λx=>x.1.isSome)
  &&decide (([e,f]:List WW).length+([]:List Keyword).length+(if ([]:List Keyword).isEmpty then 0 else 1)<30))=true
 line:(c_.endLine==f_.line)=true
 trees:backTo f_ (starEach [e,f] X.env)=[(false,eval e X.env),(false,eval f X.env)]
def bj (H:Hp)(a:WP):Prop:=(∃kvs,Rd H a (.dK kvs))\/∃kvs,Rd H a (.dT kvs)
def lK {X:Cx}{WZ:List (WP×Obj)}{σ:St}{H:Hp}{s:WR}{a:WP}(I:Zq X WZ σ H s)(d:bj H a):
  s.TypeIs (.ref a) "dict"/\(∀b,Value.ref a=.ref b->∃ob,s.heap.get? b=some ob/\ob.dict=none)/\(a==sysModules)=false:=by
 rcases d with⟨kvs,e⟩ | ⟨kvs,e⟩
 ·obtain⟨_,hd,vs,_,dd⟩:=Ge I.hok e;refine⟨dd.typeIs,λb q=>?_,hd⟩
  cases q
  obtain⟨ob,_,_,h1,h2,_⟩:=dd;exact⟨ob,h1,h2.2.1⟩
 ·obtain⟨_,hd,xs,_,dd⟩:=En I.hok e;refine⟨dd.typeIs,λb q=>?_,hd⟩
  cases q
  obtain⟨ob,_,_,h1,h2,_⟩:=dd;exact⟨ob,h1,h2.2.1⟩
def du (td ty:TE):TE:=λσ H Q=>td σ H λx H1=>∃a,x=.ref a/\bj H1 a/\ty σ H1 λy H2=>∃kvs k v,H2 a=some (.dK kvs)/\y=kV k/\Oj kvs k=some v/\Q v (Yq H2 a (.dK (oW kvs k)))
section
variable {X:Cx}{WZ:List (WP×Obj)}{σ:St}{H:Hp}{s:WR}{a:WP}{kvs:List (Z8×V)}{A:WM}{E:WQ->WR->Prop}
def tT {Q:WQ->WR->Prop}(I:Zq X WZ σ H s)(e:Rd H a (.dK kvs))(h:∀p s',H p=none->Zq X WZ σ (Yq H p (.dK kvs)) s'->Q (.ref p) s'):wpAny (model X.prog X.w) A (call (.type "dict") [.ref a]) Q E s:=by
 obtain⟨z,hd,vs,rel,dd⟩:=Ge I.hok e;refine kt_call_dict hd dd (by rw[<-rel.length];exact z) λh' c hs=>?_;refine h _ _ (I.hok.fresh (XE _)) (I.laid (a:=s.heap.objs.size) (o:=.dK kvs) (t':=s.toks) (λb q hq=>?_) (XE _) (Gf z (Tm.mpr (Ne.symm (XH I.big))) rel c));exact(hs.2 b (XH (XD hq))).trans (XC _ hq)
end
end L2
namespace WL
def M6 (c:WT)(b:WS)(D:We):Nat->Sw->Hw->Prop
 | 0,_,_=>False
 | n+1,τ,C=>c τ C (λk C1=>if k=true then b {D with nx:=M6 c b D n,ct:=M6 c b D n,bk:=D.nx} τ C1 else D.nx τ C1) D.xc
def zP (c:WT)(b:WS):WS:=λD τ C=>∃n,M6 c b D n τ C
def xk {K:WY}{c:TT}{tb:TS}{i:WT}{j:WS}(hc:Nl K c i)(hb:Gs K tb j):Gs K (vg c tb) (zP i j):=λF H C σ τ D D' R S h d=>by
 obtain⟨n,h⟩:=h;refine⟨λm σ H2=>∃τ C,Rl K F H2 C/\Tx H H2/\Xd K H2 σ τ/\M6 i j D' m τ C,⟨n,τ,C,R,Tx.refl _,S,h⟩,?_⟩;rintro m e H2 ⟨f,C2,R2,t2,S2,h2⟩
 cases m with
 | zero=>exact h2.elim
 | succ m=>
  refine hc F H2 C2 e f _ _ D'.xc R2 S2 h2 λk o p R3 l q=>?_
  cases k with
  | true=>
   refine⟨λy_ H'=>∃a C',Rl K F H' C'/\Tx H H'/\Xd K H' y_ a/\M6 i j D' m a C',λy_ H' z=>⟨m,BI m,z⟩,?_⟩;have b:=t2.trans l;exact hb F o p e f _ _ R3 (S2.tx l) q ⟨λy_ a H' C' R' t' g h'=>⟨a,C',R',b.trans t',g,h'⟩,λx v H' C' R' t'=>d.rt x v H' C' R' (b.trans t'),λy_ a H' C' R' t' g h'=>d.nx y_ a H' C' R' (b.trans t') g h',λy_ a H' C' R' t' g h'=>⟨a,C',R',b.trans t',g,h'⟩⟩
  | false=>exact d.nx e f o p R3 (t2.trans l) (S2.tx l) q
def Mf {X:Cx}{c:WW}{body:List WV}{wc:WT}{b:WS}{pos:Pos}(a:PassesOwn (model X.prog X.w) X.A X.env X.xe)(hc:wR X c wc)(hb:E5 X body b):Lo X (.While c body [] pos) (zP wc b):=by
 obtain⟨t,p,s⟩:=hc;obtain⟨t',p',s'⟩:=hb;exact⟨_,vT a p p',xk s s'⟩
def Pq {c:WT}{b:WS}{D:We}(Pv:Nat->Sw->Hw->Prop){τ:Sw}{C:Hw}{m:Nat}(g:Pv m τ C)
  (hs:∀m τ C (N:Sw->Hw->Prop),Pv m τ C->(∀d a C',d<m->Pv d a C'->N a C')->c τ C (λk C1=>if k=true then b {D with nx:=N,ct:=N,bk:=D.nx} τ C1 else D.nx τ C1) D.xc):zP c b D τ C:=by
 have e:∀(n m:Nat) (τ:Sw) (C:Hw),m<n->Pv m τ C->M6 c b D n τ C:=by
  intro n
  induction n with
  | zero=>intro m τ C h _;omega
  | succ n i=>intro m τ C hm j;exact hs m τ C _ j λd a C' l f=>i d a C' (by omega) f
 exact⟨m+1,e (m+1) m τ C (BI m) g⟩
section
variable {X:Cx}{a b c e o i:WW}{es:List WW}{wa wb wc wo wi:WE}{wA:WA}{pos p p2 c_ f_:Pos}
def cK:List T->Hw->WK->Prop:=λvs C Q=>(∃i:Int,vs=[.int i]/\Q (.int i) C)\/∃k:Bool,vs=[.bl k]/\Q (.int (if k then 1 else 0)) C
def fL:Pp X (.type "int") cK:=⟨_,wj,λF H C xs vs Q Q' R rs h q=>by
 rcases h with⟨j,rfl,h⟩ | ⟨j,rfl,h⟩
 ·obtain⟨x,rfl,a⟩:=Wn rs
  cases Yi a
  exact .inl ⟨j,FQ,q _ _ H C R (Tx.refl H) Js h⟩
 ·obtain⟨x,rfl,a⟩:=Wn rs
  cases Os a
  exact .inr ⟨j,FQ,q _ _ H C R (Tx.refl H) Js h⟩⟩
end
def kT:T->Option Z8
 | .int i=>some (.inl i)
 | .str x=>some (.inr x)
 | _=>none
def tK:Z8->T
 | .inl i=>.int i
 | .inr x=>.str x
def Ys (kvs:List (Z8×T))(k:Z8):Option T:=(kvs.find? λkv=>decide (kv.1=k)).map (·.2)
def J8 (kvs:List (Z8×T))(k:Z8)(v:T):List (Z8×T):=
 if (kvs.any λkv=>decide (kv.1=k))=true then kvs.map (λkv=>if kv.1=k then(kv.1,v) else kv) else kvs++[(k,v)]
def Ks {K:WY}{H:Hp}{x:V}{v:T}{k:Z8}(h:kT v=some k)(r:Ju K H x v):x=kV k:=by
 cases v with
 | int i=>cases h;exact Yi r
 | str z=>cases h;exact Jm r
 | _=>cases h
def PR.get {K:WY}{H:Hp}:∀{ks:List (Z8×V)} {kvs:List (Z8×T)} (_:PR K H ks kvs) (k:Z8),(Ys kvs k=none->Oj ks k=none)/\∀v,Ys kvs k=some v->∃x,Oj ks k=some x/\Ju K H x v
 | _,_,.nil,k=>⟨λ_=>rfl,λv h=>by cases h⟩
 | p::r,q::s,.cons h t,k=>by
  obtain⟨e,rp⟩:=h;have b:=PR.get t k;by_cases c:q.1=k
  ·have a:p.1=k:=e.trans c;rw[Nv a];unfold Ys;rw[List.find?_cons_of_pos (by simpa using c)];exact⟨(λz=>by cases z),(λv z=>by cases z;exact⟨p.2,FQ,rp⟩)⟩
  ·have a:¬p.1=k:=λz=>c (e.symm.trans z);rw[Nw a];unfold Ys;rw[List.find?_cons_of_neg (by simpa using c)];exact b
def PR.any {K:WY}{H:Hp}:∀{ks:List (Z8×V)} {kvs:List (Z8×T)} (_:PR K H ks kvs) (k:Z8),(ks.any λkv=>decide (kv.1=k))=kvs.any λkv=>decide (kv.1=k)
 | _,_,.nil,k=>rfl
 | p::r,q::s,.cons h t,k=>by rw[DH,DH,PR.any t k,h.1]
def PR.mapK {K:WY}{H:Hp}{k:Z8}{x:V}{v:T}(y:Ju K H x v):∀{ks:List (Z8×V)} {kvs:List (Z8×T)} (_:PR K H ks kvs),PR K H (ks.map λkv=>if kv.1=k then(kv.1,x) else kv) (kvs.map λkv=>if kv.1=k then(kv.1,v) else kv)
 | _,_,.nil=>.nil
 | p::r,q::s,.cons h t=>by
  refine .cons ?_ (PR.mapK y t);obtain⟨e,rp⟩:=h;by_cases c:q.1=k
  ·have a:p.1=k:=e.trans c;dsimp only;rw[XY c,XY a];exact⟨e,y⟩
  ·have a:¬p.1=k:=λz=>c (e.symm.trans z);dsimp only;rw[XX c,XX a];exact⟨e,rp⟩
def PR.put {K:WY}{H:Hp}{ks:List (Z8×V)}{kvs:List (Z8×T)}(h:PR K H ks kvs){k:Z8}{x:V}{v:T}(y:Ju K H x v):PR K H (Vp ks k x) (J8 kvs k v):=by
 unfold Vp J8;rw[PR.any h k]
 split
 ·exact PR.mapK y h
 ·exact h.snoc ⟨FQ,y⟩
def PR.length {K:WY}{H:Hp}{ks:List (Z8×V)}{kvs:List (Z8×T)}(h:PR K H ks kvs):ks.length=kvs.length:=Paired.length h
section
variable {K:WY}{F H:Hp}{C:Hw}
def Rl.dic (R:Rl K F H C){a:WP}{kvs:List (Z8×T)}(h:C a=some (.dic kvs)):∃ks,H a=some (.dK ks)/\PR K H ks kvs:=R.obj a _ h
def Rl.putD (R:Rl K F H C){p:WP}{kvs D:List (Z8×T)}{y:List (Z8×V)}(h:C p=some (.dic kvs))(r:PR K H y D):Rl K F (Yq H p (.dK y)) (up C p (.dic D))/\Tx H (Yq H p (.dK y)):=by
 obtain⟨w,hw,ns⟩:=(R.obj p _ h).some trivial;exact R.put h ⟨y,Ya,Iy (Tx.put hw ns) r⟩
def Rl.newD (R:Rl K F H C){p:WP}{kvs:List (Z8×T)}{ks:List (Z8×V)}(h:H p=none)(r:PR K H ks kvs):Rl K F (Yq H p (.dK ks)) (up C p (.dic kvs)):=R.new h ⟨ks,Ya,Iy (Tx.new h) r⟩
end
def kf:WE:=λ_ C Q _=>∀p,C p=none->Q (.ref p) (up C p (.dic []))
def aP (o i:WE):WG:=λv τ C Q χ=>o τ C (λx C1=>i τ C1 (λy C2=>∃a kvs k,x=.ref a/\kT y=some k/\C2 a=some (.dic kvs)/\kvs.length<sizeLine/\Q τ (up C2 a (.dic (J8 kvs k v)))) χ) χ
section
variable {X:Cx}{a b c e o i f:WW}{es:List WW}{wa wb wc wo wi wd:WE}{wA:WA}{pos p p2 c_ f_:Pos}
def K6:Ji X (.Dict [] [] pos) kf:=⟨_,ug,λF H C σ τ Q Q' χ R S h q p a=>q _ _ _ _ (R.newD a .nil) (Tx.new a) Yu (h p (R.free a))⟩
def gr:V->V->V->Hp->(Hp->Prop)->Prop:=λo i v H Q=>∃p ks k,o=.ref p/\i=kV k/\H p=some (.dK ks)/\ks.length<sizeLine/\Q (Yq H p (.dK (Vp ks k v)))
def vx (f:X.A.units+150<cLine):kR X gr:=by
 intro WZ s σ H o i v ov g u Q I ro a b h;obtain⟨p,ks,k,rfl,rfl,c,d,q⟩:=h
 cases ro
 exact xW (by omega) I (wF.k c d) a b λs' e=>⟨_,e,q⟩
def Mh (d:X.A.units+150<cLine)(e:Ji X o wo)(hi:Ji X i wi)
  (ha:∀v,assign (.Subscript o i pos) X.env v=(do
   let ov <-holding [v] (eval o X.env)
   let b <-holding [v,ov] (eval i X.env)
   standAt pos
   holding [v,ov,b] (setItem ov b v)
   release [v,ov,b] []):=by intro _;rfl):kO X (.Subscript o i pos) (aP wo wi):=by
 obtain⟨t,p,s⟩:=e;obtain⟨t',p',s'⟩:=hi;refine⟨_,vZ p p' (vx d) ha,λF H C σ τ x v Q Q' χ R S r h q=>?_⟩;refine s F H C σ τ _ _ χ R S h λy n H1 C1 R1 t1 f h1=>?_;refine s' F H1 C1 σ τ _ _ χ R1 (S.tx t1) h1 λz u H2 C2 R2 t2 g h2=>?_;obtain⟨l,kvs,k,rfl,hk,c,j,h2⟩:=h2
 cases Z7 f
 obtain⟨ks,m,pr⟩:=R2.dic c;have a:=t1.trans t2;obtain⟨R',t'⟩:=R2.putD c (PR.put pr (k:=k) (r.tx a));exact⟨l,ks,k,FQ,Ks hk g,m,by rw[PR.length pr];exact j,q _ _ _ _ R' (a.trans t') (S.tx (a.trans t')) h2⟩
end
end WL
namespace L2
def cI (w:WN):Bool:=w.params.followText "set-order"
def iH (e:Int×WQ):Str:=strOf e.2
structure fS (P:Program)(w:World)(h:Heap)(a:Addr)(es:Array (Int×Value))(ep:Nat)(t:SetTable):Prop where
 get:h.get? a=some {cls:=.type "set",dict:=none,data:=.set es ep t,slots:=#[]}
 els:ElemsOf (PySem.strKind P w) es.toList
 fit:t.fits es.size=true
 bnd:es.size<scanBound
 pln:es.size≠0->t.plain=false
 led:t.led=!cI w
 nod:(es.toList.map iH).Nodup
section
variable {prog:WO}{w:WN}{A:WM}{E:WQ->WR->Prop}{s:WR}
def rn {vs:List WQ}{xs:List Str}(h:StrsAre vs xs):xs.length=vs.length:=by
 induction h with
 | nil=>rfl
 | cons x t h a=>simp[a]
def xj {r:WP}{φ:List Str->Prop}{Q:WQ->WR->Prop}(h64:∀xs,φ xs->xs.length<64)
  (hc:∀(R:List WQ->WR->Prop),(∀(h':WU) (d':Drawn) (tk:Nat) (vs:List WQ) (xs:List Str),(∀b o,s.heap.get? b=some o->h'.get? b=some o)->StrsAre vs xs->φ xs->R vs {s with heap:=h',drawn:=d',toks:=tk})->
   wpAny (model prog w) A.in1 (collect (.ref r)) R E s)
  (h:∀(p:WP) (h1 h':WU) (d':Drawn) (tk:Nat) (vs:List WQ) (n:Nat) (xs a:List Str),φ xs->h1.objs.size<=p->(∀b o,s.heap.get? b=some o->h1.get? b=some o)->(∀b o,h1.get? b=some o->h'.get? b=some o)->h'.get? p=some (seqObj "list" vs.toArray n)->StrsAre vs a->a.Perm xs->sortedS a=true->
   Q (.ref p) {s with heap:=h',drawn:=d',toks:=tk}):
  wpAny (model prog w) A (call (.builtin "sorted") [.ref r]) Q E s:=by
 refine Calls.call_function_entry kind_sorted plain_sorted entry_sorted (args_sorted1 _) ?_;unfold Builtin.«sorted»;refine XA (m:=checkCount "sorted" 1 1 _) (XB ?_);refine XA (hc _ λh1 j tk vs xs k i d=>?_);have t:vs.length<64:=by rw[<-rn i];exact h64 xs d
 have hz:vs.length<=sizeLine:=by rw[sizeLine_eq];omega
 refine XA (wpAny_newList ?_ hz);have c:(h1.push (seqObj "list" vs.toArray 0)).get? h1.objs.size=some (seqObj "list" vs.toArray 0):=XF _ FQ;show wpAny _ _ _ _ _ {s with heap:=h1.push (seqObj "list" vs.toArray 0),drawn:=j,toks:=tk};refine XA (wpAny_holding (wpAny_call_entry slot_list_sort ⟨_,c,FQ⟩ entry_list_sort (list_sort_treeK strKind_oneLt c i.keysOf (λl q Yc e=>keyKind_strs (by rw[<-e];exact i)) t λf u v=>⟨_,FQ,?_⟩) (args_list_sort _)));obtain⟨a,b1,b2,x⟩:=sorted_out_str i u v;obtain⟨n,hn⟩:=sortedHeap_at (out:=(arrOf f).map (·.2)) c;refine XB ⟨_,FQ,h h1.objs.size h1 _ j tk ((arrOf f).map (·.2)).toList n xs a d (XE _) k (λb o hb=>?_) (by rw[Array.toArray_toList];exact hn) b1 b2 x⟩;have g:=XD hb;rw[sortedHeap_old (XH g) (by rw[size_push'];exact CI g)];exact XC _ hb
end
section
variable {X:Cx}{WZ:List (WP×Obj)}{s:WR}{σ:St}{H:Hp}
def lA {h':WU}{d':Drawn}{t':Nat}(I:Zq X WZ σ H s)(k:∀b u,s.heap.get? b=some u->h'.get? b=some u):Zq X WZ σ H {s with heap:=h',drawn:=d',toks:=t'}:=by
 refine I.step (g':=s.gens) (ch:=[]) (λ_ z=>nomatch z) (λb o _ _ _ e _=>k b o e) (λb o _ _ _ e _=>⟨o.slots,k b o e⟩) (λb o _ _ n=>n) (λb o _ e=>⟨o,k b o e⟩) (λ_ _ e=>e) (λ_ _ _ e=>e) (λb ps e=>⟨#[],by simpa using e⟩) (λm hm=>?_) (I.hok.kept k) I.bare;obtain⟨o,es,ep,a,r⟩:=hm;exact⟨o,es,ep,k _ o a,r⟩
def xb {vs:List WQ}{xs:List Str}(h:StrsAre vs xs):Z5 (xs.map V.str) vs:=by
 induction h with
 | nil=>exact .nil
 | cons x t h a=>exact .cons ⟨t,FQ⟩ a
def a7 (P:WO)(w:WN)(a:WP)(xs:List Str):HO:=.ext λh=>∃es ep t,fS P w h a es ep t/\∀y,y∈es.toList.map iH↔y∈xs
def li {p:WP}{h1 h':WU}{d':Drawn}{tk n:Nat}{vs:List WQ}{xs:List Str}(I:Zq X WZ σ H s)(a:h1.objs.size<=p)(k1:∀b o,s.heap.get? b=some o->h1.get? b=some o)(k2:∀b o,h1.get? b=some o->h'.get? b=some o)
  (g:h'.get? p=some (seqObj "list" vs.toArray n)) (d:StrsAre vs xs) (e:xs.length<64):Zq X WZ σ (Yq H p (.lst (xs.map V.str))) {s with heap:=h',drawn:=d',toks:=tk}/\H p=none:=by
 have c:Zq X WZ σ H {s with heap:=h1,drawn:=d',toks:=tk}:=lA I k1;refine⟨c.laid (t':=tk) k2 a ⟨?_,vs,n,xb d,g⟩,c.hok.fresh a⟩;rw[XI,sizeLine_eq];omega
def yV:∀{l:List WQ} {ts:List Str},l.length=ts.length->(∀(j:Nat) (v:WQ),l[j]?=some v->∃t tk,ts[j]?=some t/\v=.str t tk)->StrsAre l ts
 | [],[],_,_=>.nil
 | v::l,t::ts,e,h=>by
  obtain⟨t',tk,a,b⟩:=h 0 v FQ
  cases a
  subst b;exact .cons _ tk (yV (by simpa using e) λj u c=>h (j+1) u c)
def qP {kvs:List (Z8×V)}{vs:List (Z8×WQ)}(h:KV kvs vs):vs.map (·.1)=kvs.map (·.1):=by
 induction h with
 | nil=>rfl
 | cons a b c=>rw[YI,YI,c,a.1]
def Bf (hc:X.calm=true):Vo X (.builtin "sorted") (λxs H Q=>∃(p:WP) (kvs:List (Z8×V)) (ts:List Str),xs=[.ref p]/\Rd H p (.dK kvs)/\kvs.map (·.1)=ts.map Sum.inr/\ts.length<64/\
  ∀q ys,H q=none->ys.Perm ts->sortedS ys=true->Q (.ref q) (Yq H q (.lst (ys.map V.str)))):=by
 intro WZ s σ H xs us Q I r h;obtain⟨p,kvs,ts,rfl,C,hk,h64,q⟩:=h;obtain⟨u,rfl,D⟩:=Rj r
 cases D
 obtain⟨hz,lo,vs,b,E⟩:=C.ok I.hok;obtain⟨ep,d⟩:=E.dictAt;have o:kvs.length=ts.length:=by have:=congrArg List.length hk;simpa using this
 have f:kvs.length=vs.length:=Paired.length b;refine xj (φ:=λys=>ys=ts) (λys e=>by rw[e];exact h64) (λR G=>W.kdu_collect (A:=X.A.in1) (W.kdl_dict (knd:=Yv X.prog X.w) (kvs:=vs) (ep:=ep) lo) (I.ok.hd hc) d (by rw[sizeLine_eq];omega) λh' tk l k a=>?_) λz h1 h' d' tk us n ys m e hq k1 k2 g L e' so=>?_
 ·refine G h' s.drawn tk l.toList ts k ?_ FQ;refine yV (by rw[Array.length_toList,a.1];omega) λj v hv=>?_;obtain⟨k,x,hx,hi⟩:=a.2 j v (by rw[<-DP];exact hv);have c:(vs.map (·.1))[j]?=some k:=by rw[XM,hx];rfl
  rw[qP b,hk,XM] at c
  cases B:ts[j]? with
  | none=>rw[B] at c;cases c
  | some t=>
   rw[B] at c
   cases c
   rw[yb] at hi
   rcases Jb hi with⟨i,u,e,_⟩ | ⟨y,u,e,N⟩
   ·cases e
   ·cases e
    exact⟨_,u,FQ,N⟩
 ·subst e;obtain⟨U,Y⟩:=li (d':=d') (tk:=tk) I hq k1 k2 g L (by rw[e'.length_eq];exact h64);exact⟨.ref z,_,U,FQ,q z m Y e' so⟩
end
end L2
namespace WL
def k7:List T->Hw->WK->Prop:=λvs C Q=>∃(a:WP) (kvs:List (Z8×T)) (ts:List Str),vs=[.ref a]/\C a=some (.dic kvs)/\kvs.map (·.1)=ts.map Sum.inr/\ts.length<64/\
 ∀q ys,C q=none->ys.Perm ts->sortedS ys=true->Q (.ref q) (up C q (.lst (ys.map T.str)))
def wn:bootBuiltins "sorted"=some (.builtin "sorted"):=by decide+kernel
def PR.keys {K:WY}{H:Hp}:∀{ks:List (Z8×V)} {kvs:List (Z8×T)} (_:PR K H ks kvs),ks.map (·.1)=kvs.map (·.1)
 | _,_,.nil=>rfl
 | _,_,.cons h t=>by rw[YI,YI,PR.keys t,h.1]
def An {K:WY}{H:Hp}:∀(ts:List Str),Reps K H (ts.map V.str) (ts.map T.str)
 | []=>Yy
 | t::ts=>Yl Wl (An ts)
section
variable {X:Cx}{e:WW}{we:WE}{pos p p2 on:Pos}
def pK (hc:X.calm=true):Pp X (.builtin "sorted") k7:=⟨_,Bf hc,λF H C xs vs Q Q' R rs h q=>by
 obtain⟨l,kvs,ts,rfl,b,hk,c,h⟩:=h;obtain⟨x,rfl,d⟩:=Wn rs
 cases Z7 d
 obtain⟨ks,e,pr⟩:=R.dic b;refine⟨l,ks,ts,FQ,.inl e,by rw[PR.keys pr];exact hk,c,λp ys a f g=>?_⟩;exact q _ _ _ _ (R.newL a (An ys)) (Tx.new a) Yu (h p ys (R.free a) f g)⟩
end
end WL
namespace L2
section
variable {X:Cx}
def yU:∀{zs:List Str} {us:List WQ},Z5 (zs.map V.str) us->StrsAre us zs
 | [],us,h=>by rw[h.zero];exact .nil
 | z::zs,us,h=>by
  cases h with
  | cons a b=>obtain⟨t,rfl⟩:=a;exact .cons z t (yU b)
def gu (K:WY):V->List V->Hp->VK->Prop:=λx vs H Q=>∃z p zs,x=.str z/\vs=[.ref p]/\Vr K H p (zs.map V.str)/\z.length<=16/\(zs.map (·.length)).sum+zs.length<=1048576/\Q (.str (Txt.join z zs)) H
def qI:eg X "str.join" (gu X.K):=by
 intro WZ s σ H x vs v us Q I a b h;obtain⟨z,p,zs,rfl,rfl,hq,h1,h2,q⟩:=h;obtain⟨t,rfl⟩:=a;obtain⟨u,rfl,c⟩:=Rj b
 cases c
 obtain⟨its,rI,pl,hz⟩:=I.list hq;exact join_listW pl.isList (yU rI) h1 h2 λt' k=>⟨.str _,H,I.tok _,⟨_,FQ⟩,q⟩
end
end L2
namespace WL
section
variable {X:Cx}
def Iw {K:WY}{H:Hp}:∀{bs:List Str} {ys:List V},Reps K H ys (bs.map T.str)->ys=bs.map V.str
 | [],_,h=>Xx h
 | b::bs,_,h=>by obtain⟨y,r,rfl,a,c⟩:=Yk h;cases Jm a;rw[Iw c];rfl
def gX:T->List T->Hw->WK->Prop:=λx vs C Q=>∃z p zs,x=.str z/\vs=[.ref p]/\C p=some (.lst (zs.map T.str))/\z.length<=16/\(zs.map (·.length)).sum+zs.length<=1048576/\Q (.str (Txt.join z zs)) C
def mY:iy X "str.join" gX:=⟨_,qI,λF H C x v xs vs Q Q' R a rs h q=>by
 obtain⟨z,p,zs,rfl,rfl,hx,h1,h2,h⟩:=h
 cases Jm a
 obtain⟨y,rfl,b⟩:=Wn rs
 cases Z7 b
 obtain⟨ys,hy,r⟩:=R.lst hx
 cases Iw r
 exact⟨z,p,zs,FQ,FQ,Vr.of hy,h1,h2,q _ _ H C R (Tx.refl H) Wl h⟩⟩
end
end WL
namespace L2
def nX:typeLookup (.type "list_reverseiterator") "__len__"=pure none:=by
 rw[typeLookup_type];rw[builtinLookup_eq_fast];kernel_rfl
def rO:typeLookup (.type "list_reverseiterator") "__length_hint__"=pure (some (.builtin "list_reverseiterator.__length_hint__")):=by
 rw[typeLookup_type];rw[builtinLookup_eq_fast];kernel_rfl
section
variable {prog:WO}{w:WN}{A:WM}{E:WQ->WR->Prop}{s:WR}{it l:WP}{i:Int}
def uS {Q:Bool->WR->Prop}(hit:s.heap.IsRevIter it l i)(h:Q false s):wpAny (model prog w) A (Builtin.List.listLengthHint (.ref it)) Q E s:=by
 have a:=hit.typeIs;unfold Builtin.List.listLengthHint;refine XA (wpAny_specialOf a nX ?_);show wpAny _ A (specialOf (Value.ref it) (Str.ofString "__length_hint__")>>=_) _ _ _;refine XA (wpAny_specialOf a rO ?_);generalize hid:("list_reverseiterator.__length_hint__":String)=c
 wp_delta
 rw[show splitId c=some ("list_reverseiterator","__length_hint__") from by subst hid;decide+kernel];subst hid;refine XA (wpAny_isInstance (T:="list_reverseiterator") (b:=true) a (by rw[isSubtype_type];kernel_rfl) ?_);refine wpAny_ite_split (λz=>absurd z (by decide)) (λ_=>?_);refine wpAny_ite_split (λ_=>?_) (λz=>absurd (by decide+kernel) z);refine wpAny_ite_split (λz=>absurd z (by decide+kernel)) (λ_=>?_);exact XB h
def uN {R:Result->WR->Prop}{c:Array WQ}(E:A.handled=none)(n:Nat)(hn:c.size=n)(hsz:n<=sizeLine)(S:WP)(j:S≠it)(p:S≠l)(t:l≠it)
  (hit:s.heap.IsRevIter it l ((n:Int)-1)) (G:s.heap.IsList l c) (u:s.heap.get? S=some {cls:=.type "list",data:=.seq #[]})
  (H:∀s' g I,Moved [S,it] (λa b=>b=a) s s'->s'.heap.get? S=some {cls:=.type "list",dict:=none,data:=.seq g I,slots:=#[]}->ItemsOf (λi v=>c[c.size-1-i]?=some v) g n->R (.ok (.ret .none)) s'):
  wpAny (model prog w) A.in1 (Builtin.«list.__init__» ⟨[.ref S,.ref it],[]⟩)
   (λfin s2=>match fin with | .done f=>R (.ok f) s2 | .again c2=>c2.quiet=true/\codeAny (model prog w) A c2 R s2) (λe s2=>R (.error e) s2) s:=by
 have W:=(Walks.listRev (prog:=prog) (w:=w) (A:=A.in1) E it l t c).toS;rw[hn] at W;have x:S∉[it,l]:=by simp[j,p]
 show wpAny _ A.in1 (Builtin.List.listItems (.ref S)>>=λy=>Builtin.List.listUpdate (.ref S) (λ_=>#[])>>=λ_=>letGo y.toList.reverse>>=λ_=>Builtin.List.listExtendWith (.ref S) (.ref it) .none) _ _ s;unfold Builtin.List.listItems;refine XA ?_;refine XA (wpAny_seqItems u FQ (XB ?_));show wpAny _ A.in1 (updateSeq S (λ_=>#[])>>=λ_=>letGo (#[]:Array WQ).toList.reverse>>=λ_=>Builtin.List.listExtendWith (.ref S) (.ref it) .none) _ _ s;refine XA (wpAny_updateSeq u FQ ?_);have B:=DN (Obj.mapSeq (λ_=>(#[]:Array WQ))) u FQ;have m:∀b o,b≠S->s.heap.get? b=some o->(s.heap.update S (Obj.mapSeq (λ_=>(#[]:Array WQ)))).get? b=some o:=λb o hb e=>
  (DJ _ _ (Ne.symm hb)).trans e
 refine XA (wpAny_letGo ?_);unfold Builtin.List.listExtendWith;have d:(s.heap.update S (Obj.mapSeq (λ_=>(#[]:Array WQ)))).IsRevIter it l ((n:Int)-1):=hit.at λo e=>m it o j.symm e;have C:(s.heap.update S (Obj.mapSeq (λ_=>(#[]:Array WQ)))).IsList l c:=G.at λo e=>m l o p.symm e;refine XA (wpAny_typeOf (T:="list_reverseiterator") (Heap.IsRevIter.typeIs (s:={s with heap:=_}) d) ?_);have h1:Builtin.List.listSameRef (.ref S) (.ref it)=false:=by simp[Builtin.List.listSameRef,j]
 have h2:(Value.type "list_reverseiterator"==Value.type "list")=false:=by decide
 have L:(Value.type "list_reverseiterator"==Value.type "tuple")=false:=by decide
 simp only[h1,h2,L,Bool.or_false,Bool.false_eq_true,if_false];refine XA (wpAny_pyIter_revIter d ?_);refine XA (wpAny_holding (uS d ?_));have st:(λi (h:WU)=>i<=n/\h.IsRevIter it l ((n:Int)-1-(i:Int))/\h.IsList l c) 0 (s.heap.update S (Obj.mapSeq (λ_=>(#[]:Array WQ)))):=⟨Nat.zero_le _,by simpa using d,C⟩;refine wpAny_ite_split (λz=>absurd z (by decide+kernel)) (λ_=>?_);refine XB ⟨plainId_quiet DY _,?_⟩;refine codeAny_extend_loopS W hsz S x .none n 0 _ #[] _ FQ (XO _) st B (ItemsOf.nil _) λN q Q hm D r=>?_;refine H N q Q ⟨λb o hb e=>?_,hm.gens,hm.drawn,hm.os,hm.toks⟩ D (by rw[hn];exact r);exact hm.heap b o hb (m b o (λz=>hb (by rw[z];simp)) e)
def Bh {Q:WQ->WR->Prop}{a:Array WQ}(r:A.handled=none)(hsz:a.size<=sizeLine)(g:l≠it)(hit:s.heap.IsRevIter it l ((a.size:Int)-1))(n:s.heap.IsList l a)
  (t:∀h2 t2 c c2,(∀b o,b≠it->s.heap.get? b=some o->h2.get? b=some o)->h2.get? s.heap.objs.size=some {cls:=.type "list",dict:=none,data:=.seq c c2,slots:=#[]}->ItemsOf (λi v=>a[a.size-1-i]?=some v) c a.size->Q (.ref s.heap.objs.size) {s with heap:=h2,toks:=t2}):
  wpAny (model prog w) A (call (.type "list") [.ref it]) Q E s:=by
 refine callType_codes (Q₁:=λob s1=>ob=.ref s.heap.objs.size/\s1={s with heap:=s.heap.push {cls:=.type "list",data:=.seq #[]}}) PySem.F.called_list (PySem.F.typeCall_list_1 _) PySem.F.entry_list_init (code_list_new _ ⟨FQ,FQ⟩) λob s1 h1=>?_;obtain⟨rfl,rfl⟩:=h1;have p:(s.heap.push {cls:=.type "list",data:=.seq #[]}).get? s.heap.objs.size=some {cls:=.type "list",data:=.seq #[]}:=XF _ FQ;have h:it<s.heap.objs.size:=by obtain⟨_,e,_⟩:=hit;exact XD e
 have j:l<s.heap.objs.size:=by obtain⟨_,e,_⟩:=n;exact XD e
 refine⟨⟨_,p,FQ⟩,PySem.F.args_list_init_2 _ _,uN (A:=A.in1) r a.size FQ hsz _ (CU h) (CU j) g (hit.at λo e=>XC _ e) (n.at λo e=>XC _ e) p λq d u hm m f=>⟨FQ,?_⟩⟩;rw[Moved.eq_with hm];exact t q.heap q.toks d u (λb o hb e=>hm.heap b o (by simp only[List.mem_cons,List.not_mem_nil,or_false,not_or];exact⟨Nat.ne_of_lt (Heap.lt_size e),hb⟩) (Heap.get?_push_of_some _ e)) m f
end
section
variable {X:Cx}
def B7:∀{xs:List V} {us:List WQ},Z5 xs us->Z5 xs.reverse us.reverse
 | _,_,.nil=>.nil
 | _,_,.cons r t=>by rw[BY,BY];exact(B7 t).append (.cons r .nil)
def xQ {its:List WQ}{a:Array WQ}(h:ItemsOf (λi v=>its.toArray[its.toArray.size-1-i]?=some v) a its.toArray.size):a.toList=its.reverse:=by
 obtain⟨h1,h2⟩:=h;have b:its.toArray.size=its.length:=by simp
 refine List.ext_getElem? λj=>?_;by_cases c:j<a.size
 ·have e:a[j]?=some a[j]:=by simp[c]
  have d:=h2 j _ e;rw[DP,e,<-d,b];rw[List.getElem?_reverse (by omega)];simp
 ·rw[List.getElem?_eq_none (by simp;omega),List.getElem?_eq_none (by simp;omega)]
def iT (K:WY)(ta:TE):TE:=λσ H Q=>ta σ H λx H1=>∃a xs,x=.ref a/\Vr K H1 a xs/\∀p,H1 p=none->Q (.ref p) (Yq H1 p (.lst xs.reverse))
def zW {a:WW}{ta:TE}{p pos p2 on:Pos}(hc:X.calm=true)(y:Gl X "list")(hm:X.mg "list"=none)(f:Gl X "reversed")(g:X.mg "reversed"=none)(ha:PE X a ta)(hs:starEach [a] X.env=[(false,eval a X.env)]:=by rfl)
  (d:starEach [.Call (.Name "reversed" p2) [a] [] on] X.env=[(false,eval (.Call (.Name "reversed" p2) [a] [] on) X.env)]:=by rfl) (hb:bootBuiltins "reversed"=some (.type "reversed"):=by decide+kernel) (i:bootBuiltins "list"=some (.type "list"):=by decide+kernel):
  PE X (.Call (.Name "list" p) [.Call (.Name "reversed" p2) [a] [] on] [] pos) (iT X.K ta):=by
 intro WZ s σ H Q I h;refine Call_ (Tj I y hm i (BF ?_ d FQ));rw[d];show wpAny _ _ (spliced ((false,eval (.Call (.Name "reversed" p2) [a] [] on) X.env)::backTo pos [])) _ _ s;refine CD (Call_ (Tj I f g hb (BF ?_ hs FQ)));have pa:PA X [a] (Ab ta vj):=Kv ha zY hs;refine Y3 (pa on WZ s σ H (λxs H1=>match xs with | [x]=>∃a ys,x=.ref a/\Vr X.K H1 a ys/\∀p,H1 p=none->Q (.ref p) (Yq H1 p (.lst ys.reverse)) | _=>False) I h) λus s1 ⟨vs,H1,j,z,c⟩=>?_;have one:∃x,vs=[x]:=by
  match vs,c with
  | [x],_=>exact⟨x,FQ⟩
  | [],c=>exact c.elim
  | _::_::_,c=>exact c.elim
 obtain⟨x,rfl⟩:=one;obtain⟨l,ys,rfl,hq,q⟩:=c;obtain⟨u,rfl,A⟩:=Rj z
 cases A
 obtain⟨its,r,pl,hz⟩:=j.list hq;have t:=r.length;refine call_reversed_list pl.isList ?_;have m:l<s1.heap.objs.size:=by obtain⟨_,e,_⟩:=pl.isList;exact XD e
 refine DK ?_;have hit:(s1.heap.push (revObj l ((its.toArray.size:Int)-1))).IsRevIter s1.heap.objs.size l ((its.toArray.size:Int)-1):=⟨_,XF _ FQ,FQ,FQ⟩;have n:(s1.heap.push (revObj l ((its.toArray.size:Int)-1))).IsList l its.toArray:=pl.isList.at λo e=>XC _ e;refine Bh (s:={s1 with heap:=s1.heap.push (revObj l ((its.toArray.size:Int)-1))}) (I.ok.hd hc) (by simp only[List.size_toArray];omega) (Nat.ne_of_lt m) hit n λh2 t2 B c2 kp C D=>?_;have v:s1.heap.objs.size<=(s1.heap.push (revObj l ((its.toArray.size:Int)-1))).objs.size:=by rw[CC];omega
 refine⟨.ref _,_,j.laid (h':=h2) (t':=t2) (λb o e=>kp b o (XH (XD e)) (XC _ e)) v (show Y5 X.prog X.w _ h2 _ (.lst ys.reverse) from⟨by rw[CK];exact hz,its.reverse,c2,B7 r,?_⟩),FQ,q _ (j.hok.fresh v)⟩;rw[<-xQ D];exact C
def Zak (X:Cx)(e:WW)(t:TE):Prop:=
 ∀(WZ:List (WP×Obj)) (s:WR) (σ:St) (H:Hp) (Q:VK),Zq X WZ σ H s->t σ H Q->wpAny (model X.prog X.w) X.A (eval e X.env) (λv s'=>1<=s'.toks/\EP X WZ σ Q v s') X.xe s
def Io {α:Type}{t:Sem α}{Q:α->WR->Prop}{M:Model}{A:WM}{E:WQ->WR->Prop}{s:WR}(h1:1<=s.toks)(h:wpAny M A t Q E s):wpAny M A t (λa s'=>1<=s'.toks/\Q a s') E s:=
 wpAny_mono (wpAny_toks_of h1 h) (λ_ _ z=>z) λ_ _ z=>z.2
variable {o e:WW}{es:List WW}{to:TE}{t:TA}{c_ f_:Pos}{z y:Str}{k k1 k2:Nat}{lp l' m_:Pos}
end
end L2
namespace WL
section
variable {X:Cx}{e o:WW}{we wo:WE}{p p2 pos on c_ f_:Pos}
def qJ:T->List T->Hw->WK->Prop:=λx vs C Q=>∃a b xs zs,x=.ref a/\vs=[.ref b]/\C a=some (.lst xs)/\C b=some (.lst zs)/\xs.length+zs.length<=sizeLine/\Q .non (up C a (.lst (xs++zs)))
def Hd:iy X "list.extend" qJ:=⟨_,xH,λF H C x v xs vs Q Q' R d rs h q=>by
 obtain⟨a,b,ts,us,rfl,rfl,ha,hb,e,h⟩:=h
 cases Z7 d
 obtain⟨y,rfl,f⟩:=Wn rs
 cases Z7 f
 obtain⟨ys,hy,r⟩:=R.lst ha;obtain⟨zs,hz,c⟩:=R.lst hb;obtain⟨R',t⟩:=R.putL ha (r.app c);exact⟨a,b,ys,zs,FQ,FQ,hy,hz,by rw[r.length,c.length];exact e,q _ _ _ _ R' t T4 h⟩⟩
def f8 (e:WE):WE:=λτ C Q χ=>e τ C (λx C1=>∃a xs,x=.ref a/\C1 a=some (.lst xs)/\∀p,C1 p=none->Q (.ref p) (up C1 p (.lst xs.reverse))) χ
def y9 (hc:X.calm=true)(g:Gl X "list")(hm:X.mg "list"=none)(c:Gl X "reversed")(d:X.mg "reversed"=none)(i:Ji X e we)(hs:starEach [e] X.env=[(false,eval e X.env)]:=by rfl)
  (f:starEach [.Call (.Name "reversed" p2) [e] [] on] X.env=[(false,eval (.Call (.Name "reversed" p2) [e] [] on) X.env)]:=by rfl):
  Ji X (.Call (.Name "list" p) [.Call (.Name "reversed" p2) [e] [] on] [] pos) (f8 we):=by
 obtain⟨t,j,l⟩:=i;refine⟨_,zW hc g hm c d j hs f,λF H C σ τ Q Q' χ R S h q=>?_⟩;refine l F H C σ τ _ _ χ R S h λx v H1 C1 R1 t1 m h1=>?_;obtain⟨a,xs,rfl,n,h1⟩:=h1
 cases Z7 m
 obtain⟨ys,o,rs⟩:=R1.lst n;exact⟨a,ys,FQ,Vr.of o,λb hb=>q _ _ _ _ (R1.newL hb rs.reverse) (t1.trans (Tx.new hb)) Yu (h1 b (R1.free hb))⟩
def Bc:Vo X (.type "str") (λxs H Q=>∃z,xs=[.str z]/\Q (.str z) H):=by
 intro WZ s σ H xs us Q I r h;obtain⟨z,rfl,q⟩:=h;obtain⟨u,rfl,t,rfl⟩:=Rj r;exact PySem.P.str_of_str ⟨.str z,H,I,⟨_,FQ⟩,q⟩
def fN:List T->Hw->WK->Prop:=λvs C Q=>(∃i:Int,vs=[.int i]/\i.natAbs.log2<1920/\Q (.str (toString i)) C)\/∃z,vs=[.str z]/\Q (.str z) C
def Br:Pp X (.type "str") fN:=⟨_,Be.or Bc,λF H C xs vs Q Q' R rs h q=>by
 rcases h with⟨j,rfl,b,h⟩ | ⟨z,rfl,h⟩
 ·obtain⟨x,rfl,a⟩:=Wn rs
  cases Yi a
  exact .inl ⟨j,FQ,b,q _ _ H C R (Tx.refl H) Wl h⟩
 ·obtain⟨x,rfl,a⟩:=Wn rs
  cases Jm a
  exact .inr ⟨z,FQ,q _ _ H C R (Tx.refl H) Wl h⟩⟩
def Za6 (X:Cx)(e:WW)(w:WE):Prop:=∃t,Zak X e t/\Tq X.K t w
def bQ (y z:Str)(o:WE):WE:=λτ C Q χ=>o τ C (λx C1=>∃u,x=.str u/\u.length<=1048576/\Q (.str (Txt.replace u y z)) C1) χ
end
end WL
namespace L2
section
variable {prog:WO}{w:WN}{A:WM}{E:WQ->WR->Prop}{s:WR}
def rq {jt q:WP}{i:Nat}{its:Array WQ}{x:WQ}{Q:WQ->WR->Prop}(hj:s.heap.IsTupleIter jt q i)(hq:s.heap.IsTuple q its)(hx:its[i]?=some x)
  (f:∀h2,h2.IsTupleIter jt q (i+1)->Heap.SameBut jt s.heap h2->Q x {s with heap:=h2}):wpAny (model prog w) A (Builtin.SmallTypes.nextOf (.ref jt)) Q E s:=by
 obtain⟨ob,b,c,a⟩:=id hj;obtain⟨g,d,_,h,e⟩:=hq;unfold Builtin.SmallTypes.nextOf;refine XA (wpAny_callSpecial?_slot (name:=Str.ofString "__next__") hj.typeIs CO (wpAny_call_entry CO hj.typeIs F.entry_tuple_iterator_next ?_ (FH _)));show wpAny _ _ (field (.ref jt) 0>>=_) _ _ s;refine XA (wpAny_field b a (x:=.ref q) FQ ?_);show wpAny _ _ (if (Value.ref q==Value.none)=true then _ else _) _ _ s;rw[XX (show ¬((Value.ref q==Value.none)=true) from YJ)];show wpAny _ _ (field (.ref jt) 1>>=_) _ _ s;refine XA (wpAny_field b a (x:=.int i 0) FQ ?_);show wpAny _ _ (seqItems? (.ref q)>>=_) _ _ s;refine XA (wpAny_seqItems d e ?_);simp only[Int.toNat_natCast,hx];refine wpAny_bind (wpAny_setField b a (by simp) (wpAny_pure ⟨x,FQ,wpAny_pure (f _ ?_ (Heap.SameBut.update ..))⟩));refine⟨_,DN _ b (Obj.isFreed_of_fields (Obj.data_mapFields a _)),(Obj.cls_mapFields ..).trans c,?_⟩;rw[Obj.data_mapFields a];simp[rawInt]
def nG {jt q:WP}{i:Nat}{its:Array WQ}{Q:WQ->WR->Prop}(f:A.handled=none)(hj:s.heap.IsTupleIter jt q i)(hq:s.heap.IsTuple q its)(hx:its[i]?=none)
  (g:∀h2 ex,Heap.ExtBut jt s.heap h2->(∃o,h2.get? ex=some o/\o.cls=.type "StopIteration")->E (.ref ex) {s with heap:=h2}):wpAny (model prog w) A (Builtin.SmallTypes.nextOf (.ref jt)) Q E s:=by
 obtain⟨ob,b,h,c⟩:=id hj;obtain⟨j,d,_,l,e⟩:=hq;unfold Builtin.SmallTypes.nextOf;refine XA (wpAny_callSpecial?_slot (name:=Str.ofString "__next__") hj.typeIs CO (wpAny_call_entry CO hj.typeIs F.entry_tuple_iterator_next ?_ (FH _)));show wpAny _ _ (field (.ref jt) 0>>=_) _ _ s;refine XA (wpAny_field b c (x:=.ref q) FQ ?_);show wpAny _ _ (if (Value.ref q==Value.none)=true then _ else _) _ _ s;rw[XX (show ¬((Value.ref q==Value.none)=true) from YJ)];show wpAny _ _ (field (.ref jt) 1>>=_) _ _ s;refine XA (wpAny_field b c (x:=.int i 0) FQ ?_);show wpAny _ _ (seqItems? (.ref q)>>=_) _ _ s;refine XA (wpAny_seqItems d e ?_);simp only[Int.toNat_natCast,hx];refine wpAny_bind (wpAny_rule (wpAny_bind (wpAny_setField b c (by simp) ?_)));refine XA ?_;simp only[newExc,newTuple];refine XA (wpAny_newObj_type ?_ (by size_fits));refine wpAny_bind (m:=firstArgMember _ _) (wpAny_of_eq (a:=Value.none) (by first | rfl | (simp only[firstArgMember]<;>rfl)) ?_);refine wpAny_newObj_type ?_ (by size_fits);simp only[raiseNew];refine XA (wpAny_handled ?_);rw[show A.in1.handled=none from f];exact XA (XB (wpAny_throw (g _ _ (((Heap.SameBut.update ..).extBut.push _).push _) ⟨_,XF _ FQ,FQ⟩)))
end
def Of {prog:WO}{w:WN}{A:WM}(d:A.handled=none)(jt q:WP)(c:q≠jt)(its:Array WQ):
  Draws prog w A jt [jt,q] its.size (λi v=>its[i]?=some v) (λi h=>h.IsTupleIter jt q i/\h.IsTuple q its) where
 live:=λ_ _ st=>let ⟨o,f,_⟩:=st.1;⟨o,f⟩
 frame:=λ_ _ _ st k=>⟨st.1.at λo e=>k jt (by simp) o e,st.2.at λo e=>k q (by simp) o e⟩
 item:=λi s Q E hi st g=>rq st.1 st.2 (x:=its[i]) (by simp[hi]) λh2 a b=>g _ h2 s.toks (by simp[hi]) ⟨a,st.2.extBut b.extBut c⟩ b
 done:=λs Q E st j=>nG d st.1 st.2 (by simp) j
structure wz (z TI TO i1 i2:Addr)(f1 f2:List Addr):Prop where
 m1:i1∈f1
 m2:i2∈f2
 z1:z∉f1
 z2:z∉f2
 o1:TO∉f1
 o2:TO∉f2
 a12:i1∉f2
 a21:i2∉f1
 tz:TI≠z
 oz:TO≠z
 io:TI≠TO
 t1:TI≠i1
 t2:TI≠i2
section
variable {prog:WO}{w:WN}{A:WM}{E:WQ->WR->Prop}{s:WR}{z TI TO i1 i2:WP}{f1 f2:List WP}{n:Nat}{P1 P2:Nat->WQ->Prop}{S1 S2:Nat->WU->Prop}
def yN {i:Nat}{u v:WQ}{Q:WQ->WR->Prop}(q:Draws prog w A i1 f1 n P1 S1)(t:Draws prog w A i2 f2 n P2 S2)(Z:wz z TI TO i1 i2 f1 f2)(hi:i<n)
  (hz:IsZip s.heap z TI TO .none) (L:IsPair s.heap TI (.ref i1) (.ref i2)) (N:IsPair s.heap TO u v) (s1:S1 i s.heap) (s2:S2 i s.heap)
  (hQ:∀x y h2 t2,P1 i x->P2 i y->IsZip h2 z TI TO (rawInt s.heap.objs.size)->IsPair h2 TO x y->S1 (i+1) h2->S2 (i+1) h2->IsPair h2 s.heap.objs.size x y->
   (∀c o,c≠z->c≠TO->c≠i1->c≠i2->s.heap.get? c=some o->h2.get? c=some o)->Q (.ref s.heap.objs.size) {s with heap:=h2,toks:=t2}):
  wpAny (model prog w) A (Builtin.«zip.__next__» ⟨[.ref z],[]⟩) (λfin s2=>∃r,fin=.done (.ret r)/\Q r s2) E s:=by
 show wpAny _ _ (field (.ref z) 2>>=_) _ E s;refine XA (wpAny_field hz FQ (x:=.bool false) FQ ?_);show wpAny _ _ (field (.ref z) 3>>=_) _ E s;refine XA (wpAny_field hz FQ (x:=.ref TI) FQ ?_);refine XA (wpAny_seqItems L FQ ?_);show wpAny _ _ (Builtin.SmallTypes.ownedTupleIsFree (.ref z)>>=_) _ E s;refine XA ?_;unfold Builtin.SmallTypes.ownedTupleIsFree;refine XA (wpAny_field hz FQ (x:=.none) FQ (XB ?_));simp only[if_true];refine XA (wpAny_rule ?_);refine XA (wpAny_field hz FQ (x:=.ref TO) FQ ?_);refine wpAny_bind (wpAny_setField_rec hz (by simp) λha h sa=>?_)
 replace h:IsZip ha z TI TO .ellipsis:=h
 refine XA ?_;simp only[List.zipIdx_cons,List.zipIdx_nil,List.forIn_cons,List.forIn_nil];have ne:∀{b c:WP} {l:List WP},b∈l->c∉l->b≠c:=λhb hc e=>hc (e▸hb);have a1:S1 i ha:=q.frame i _ _ s1 λb hb o e=>sa.extBut _ _ (ne hb Z.z1) e;have a2:S2 i ha:=t.frame i _ _ s2 λb hb o e=>sa.extBut _ _ (ne hb Z.z2) e;refine XA (XA (wpAny_onRaise ?_));show wpAny _ _ (Builtin.SmallTypes.nextOf (.ref i1)>>=_) _ _ _;refine XA (q.item i {s with heap:=ha} _ _ hi a1 λx hb tb hx b1 sb=>XB ?_);have b2:S2 i hb:=t.frame i _ _ a2 λb hm o e=>sb.extBut _ _ (ne hm Z.a12) e;have U:TO≠i1:=λe=>Z.o1 (e▸Z.m1);have Y:TO≠i2:=λe=>Z.o2 (e▸Z.m2);have A_:z≠i1:=λe=>Z.z1 (e▸Z.m1);have B_:z≠i2:=λe=>Z.z2 (e▸Z.m2);have B:IsPair hb TO u v:=sb.extBut _ _ U (sa.extBut _ _ Z.oz N);refine XA (wpAny_seqItems B FQ ?_);refine XA (wpAny_updateSeq_pair B λhc j sc=>?_)
 replace j:IsPair hc TO x v:=j
 refine XA (wpAny_letGo (XB ?_));have c1:S1 (i+1) hc:=q.frame _ _ _ b1 λb hm o e=>sc.extBut _ _ (ne hm Z.o1) e;have c2:S2 i hc:=t.frame _ _ _ b2 λb hm o e=>sc.extBut _ _ (ne hm Z.o2) e;refine XA (XA (wpAny_onRaise ?_));show wpAny _ _ (Builtin.SmallTypes.nextOf (.ref i2)>>=_) _ _ _;refine XA (t.item i {s with heap:=hc,toks:=tb} _ _ hi c2 λy hd td hy d2 C=>XB ?_);have d1:S1 (i+1) hd:=q.frame _ _ _ c1 λb hm o e=>C.extBut _ _ (ne hm Z.a21) e;have D:IsPair hd TO x v:=C.extBut _ _ Y j;refine XA (wpAny_seqItems D FQ ?_);refine XA (wpAny_updateSeq_pair D λa d G=>?_)
 replace d:IsPair a TO x y:=d
 refine XA (wpAny_letGo (XB (XB ?_)));have e1:S1 (i+1) a:=q.frame _ _ _ d1 λb hm o e=>G.extBut _ _ (ne hm Z.o1) e;have e2:S2 (i+1) a:=t.frame _ _ _ d2 λb hm o e=>G.extBut _ _ (ne hm Z.o2) e;refine XA (wpAny_seqItems d FQ ?_);refine XA (wpAny_newTuple ?_);have hsz:a.objs.size=s.heap.objs.size:=by rw[G.1,C.1,sc.1,sb.1,sa.1]
 have H:IsZip a z TI TO .ellipsis:=G.extBut _ _ Z.oz.symm (C.extBut _ _ B_ (sc.extBut _ _ Z.oz.symm (sb.extBut _ _ A_ h)));have C_:∀c o,c≠z->c≠TO->c≠i1->c≠i2->s.heap.get? c=some o->a.get? c=some o:=λc o m I n3 n4 e=>G.extBut _ _ I (C.extBut _ _ n4 (sc.extBut _ _ I (sb.extBut _ _ n3 (sa.extBut _ _ m e))));have g:z<a.objs.size:=XD H;show wpAny _ _ (Builtin.SmallTypes.ownedTupleHandOut (.ref z) (.ref a.objs.size)>>=_) _ _ _;refine XA ?_;unfold Builtin.SmallTypes.ownedTupleHandOut;have DO:IsZip (a.push {cls:=.type "tuple",data:=.seq #[x,y]}) z TI TO .ellipsis:=XC _ H;refine wpAny_bind (wpAny_setField_rec DO (by simp) λhg p sg=>?_)
 replace p:IsZip hg z TI TO (rawInt a.objs.size):=p
 refine wpAny_setField_rec p (by simp) λhk f sk=>?_
 replace f:IsZip hk z TI TO (rawInt a.objs.size):=f
 have up:∀c o,c≠z->a.get? c=some o->hk.get? c=some o:=λc o m e=>sk.extBut _ _ m (sg.extBut _ _ m (XC _ e));have hT:IsPair hk a.objs.size x y:=sk.extBut _ _ (CU g) (sg.extBut _ _ (CU g) (XF _ FQ));rw[hsz] at f hT;refine XB ⟨_,FQ,?_⟩;show Q (.ref a.objs.size) _;rw[hsz];exact hQ x y hk td hx hy f (up _ _ Z.oz d) (q.frame _ _ _ e1 λb hm o e=>up _ o (ne hm Z.z1) e) (t.frame _ _ _ e2 λb hm o e=>up _ o (ne hm Z.z2) e) hT λc o m I n3 n4 e=>up c o m (C_ c o m I n3 n4 e)
def wU {u v:WQ}{Q:Fin->WR->Prop}(j:Draws prog w A i1 f1 n P1 S1)(Z:wz z TI TO i1 i2 f1 f2)
  (hz:IsZip s.heap z TI TO .none) (h:IsPair s.heap TI (.ref i1) (.ref i2)) (p:IsPair s.heap TO u v) (s1:S1 n s.heap)
  (q:∀h2 ex,(∀c o,c≠z->c≠TO->c≠i1->c≠i2->s.heap.get? c=some o->h2.get? c=some o)->(∃o,h2.get? ex=some o/\o.cls=.type "StopIteration")->E (.ref ex) {s with heap:=h2}):
  wpAny (model prog w) A (Builtin.«zip.__next__» ⟨[.ref z],[]⟩) Q E s:=by
 show wpAny _ _ (field (.ref z) 2>>=_) _ E s;refine XA (wpAny_field hz FQ (x:=.bool false) FQ ?_);show wpAny _ _ (field (.ref z) 3>>=_) _ E s;refine XA (wpAny_field hz FQ (x:=.ref TI) FQ ?_);refine XA (wpAny_seqItems h FQ ?_);show wpAny _ _ (Builtin.SmallTypes.ownedTupleIsFree (.ref z)>>=_) _ E s;refine XA ?_;unfold Builtin.SmallTypes.ownedTupleIsFree;refine XA (wpAny_field hz FQ (x:=.none) FQ (XB ?_));simp only[if_true];refine XA (wpAny_rule ?_);refine XA (wpAny_field hz FQ (x:=.ref TO) FQ ?_);refine wpAny_bind (wpAny_setField_rec hz (by simp) λha a sa=>?_)
 replace a:IsZip ha z TI TO .ellipsis:=a
 refine XA ?_;simp only[List.zipIdx_cons,List.zipIdx_nil,List.forIn_cons,List.forIn_nil];have ne:∀{b c:WP} {l:List WP},b∈l->c∉l->b≠c:=λhb hc e=>hc (e▸hb);have r:S1 n ha:=j.frame n _ _ s1 λb hb o e=>sa.extBut _ _ (ne hb Z.z1) e;refine XA (XA (wpAny_onRaise ?_));show wpAny _ _ (Builtin.SmallTypes.nextOf (.ref i1)>>=_) _ _ _;refine XA (j.done {s with heap:=ha} _ _ r λhb ex sb t=>?_);obtain⟨y,d,f⟩:=t;have g:IsZip hb z TI TO .ellipsis:=sb _ _ (λe=>Z.z1 (e▸Z.m1)) a;have i:ex≠z:=λe=>by subst e;rw[g] at d;cases d;simp at f
 exact wpAny_setField_rec g (by simp) λhc _ sc=>q hc ex (λc o m _ B _ e=>sc.extBut _ _ m (sb _ _ B (sa.extBut _ _ m e))) ⟨y,sc.extBut _ _ i d,f⟩
def B5 (f:Draws prog w A.in1 i1 f1 n P1 S1)(m:Draws prog w A.in1 i2 f2 n P2 S2)(Z:wz z TI TO i1 i2 f1 f2):
  WalksT prog w A z (z::TI::TO::(f1++f2)) [z,TO,i1,i2] n (λi g=>∃x y,P1 i x/\P2 i y/\g=#[x,y])
   (λi h=>IsZip h z TI TO .none/\IsPair h TI (.ref i1) (.ref i2)/\(∃a b,IsPair h TO a b)/\S1 i h/\S2 i h)
   (λi T h=>IsZip h z TI TO (rawInt T)/\IsPair h TI (.ref i1) (.ref i2)/\(∃a b,IsPair h TO a b)/\S1 (i+1) h/\S2 (i+1) h/\T∉[z,TO,i1,i2]) where
 sub:=λc hc=>by
  simp only[ZM,ZN,or_false] at hc
  rcases hc with rfl | rfl | rfl | rfl
  ·simp
  ·simp
  ·simp[Z.m1]
  ·simp[Z.m2]
 frame:=λi h h2 st k=>by
  obtain⟨a,b,⟨u,v,c⟩,d,e⟩:=st;exact⟨k z (by simp) _ a,k TI (by simp) _ b,⟨u,v,k TO (by simp) _ c⟩,f.frame _ _ _ d λx hx o q=>k x (by simp[hx]) o q,m.frame _ _ _ e λx hx o q=>k x (by simp[hx]) o q⟩
 item:=λi s Q E hi st j=>by
  obtain⟨a,b,⟨u,v,c⟩,d,e⟩:=st;have l:s.TypeIs (.ref z) "zip":=⟨_,a,FQ⟩;unfold pyNext;refine XA (wpAny_attempt (wpAny_callSpecial?_slot (name:=Str.ofString "__next__") l BQ (wpAny_call_entry BQ l CY
   (yN f m Z hi a b c d e λx y h2 t2 hx hy z1 z2 B C D t=>XB ?_) (CQ _))))
  have lt:∀{c o},s.heap.get? c=some o->s.heap.objs.size≠c:=λe=>CU (XD e);obtain⟨o1,l1⟩:=f.live _ _ d;obtain⟨o2,l2⟩:=m.live _ _ e;refine j s.heap.objs.size #[x,y] h2 t2 ⟨x,y,hx,hy,FQ⟩ (Nat.le_refl _) ⟨_,D,FQ,_,FQ⟩ ⟨z1,t _ _ Z.tz Z.io Z.t1 Z.t2 b,⟨_,_,z2⟩,B,C,?_⟩ λc o hc q=>t c o (λx=>hc (by simp[x])) (λx=>hc (by simp[x])) (λx=>hc (by simp[x])) (λx=>hc (by simp[x])) q;simp only[List.mem_cons,List.not_mem_nil,or_false,not_or];exact⟨lt a,lt c,lt l1,lt l2⟩
 go:=λh_ k pos i T s Q E hm j=>by
  obtain⟨a,b,⟨u,v,c⟩,d,e,_⟩:=hm;refine wpAny_letOwnedTupleGo_zip a λh2 p s2=>j h2 ⟨p,s2.extBut _ _ Z.tz b,⟨u,v,s2.extBut _ _ Z.oz c⟩,?_,?_⟩ λc o hc q=>s2.extBut _ _ (λx=>hc (by simp[x])) q
  ·exact f.frame _ _ _ d λx hx o q=>s2.extBut _ _ (λr=>Z.z1 (r▸hx)) q
  ·exact m.frame _ _ _ e λx hx o q=>s2.extBut _ _ (λr=>Z.z2 (r▸hx)) q
 apart:=λi T h hm=>hm.2.2.2.2.2
 done:=λs Q E st j=>by
  obtain⟨a,b,⟨u,v,c⟩,d,e⟩:=st;have l:s.TypeIs (.ref z) "zip":=⟨_,a,FQ⟩;unfold pyNext;refine XA (wpAny_attempt (wpAny_callSpecial?_slot (name:=Str.ofString "__next__") l BQ (wpAny_call_entry BQ l CY (wU f Z a b c d λh2 ex hk G=>?_) (CQ _))));obtain⟨o,H,hc⟩:=G;refine XA (wpAny_isInstance (T:="StopIteration") (b:=true) ⟨o,H,hc⟩ isSubtype_stop ?_);exact wpAny_pure (j h2 s.toks λc o hc q=>hk c o (λx=>hc (by simp[x])) (λx=>hc (by simp[x])) (λx=>hc (by simp[x])) (λx=>hc (by simp[x])) q)
 self:=λi s Q E st h=>wpAny_pyIter_zip st.1 h
end
abbrev A1 (c:String)(l:WP):Obj:={cls:=.type c,data:=.fields #[.ref l,.int 0 0]}
abbrev zA (h:WU)(c1:String)(l1:WP):WU:=h.push (A1 c1 l1)
abbrev zB (h:WU)(c1:String)(l1:WP)(c2:String)(l2:WP):WU:=(zA h c1 l1).push (A1 c2 l2)
abbrev zC (h:WU)(c1:String)(l1:WP)(c2:String)(l2:WP):WU:=(zB h c1 l1 c2 l2).push {cls:=.type "tuple",data:=.seq #[.ref h.objs.size,.ref (zA h c1 l1).objs.size]}
abbrev zD (h:WU)(c1:String)(l1:WP)(c2:String)(l2:WP):WU:=(zC h c1 l1 c2 l2).push {cls:=.type "tuple",data:=.seq #[.none,.none]}
abbrev zE (h:WU)(c1:String)(l1:WP)(c2:String)(l2:WP):WU:=(zD h c1 l1 c2 l2).push {cls:=.type "zip",data:=.fields #[.none,.bool false,.bool false,.ref (zB h c1 l1 c2 l2).objs.size,.ref (zC h c1 l1 c2 l2).objs.size]}
def ng (b:Bool)(h:WU)(l:WP)(its:Array WQ):Prop:=if b then h.IsList l its else h.IsTuple l its
def cX (b:Bool):String:=if b then "list_iterator" else "tuple_iterator"
def dY (c b:Bool)(l1 l2:WP)(xs ys:Array WQ):Meets (Builtin.«zip.__new__» ⟨[.type "zip",.ref l1,.ref l2],[]⟩) (λ_ R s=>ng c s.heap l1 xs/\ng b s.heap l2 ys/\
  R (.ok (.ret (.ref (zD s.heap (cX c) l1 (cX b) l2).objs.size))) {s with heap:=zE s.heap (cX c) l1 (cX b) l2}):=
 .of_wp λprog w A R s h=>by
  obtain⟨i,g,d,tk,os⟩:=s;obtain⟨j,f,h⟩:=h;have l:=sub_zip
  cases c
  ·have e:Heap.IsTuple (Shared.heap ⟨i,g,d,tk,os⟩) l1 xs:=j
   cases b
   ·have a:Heap.IsTuple (Shared.heap ⟨i.push (A1 "tuple_iterator" l1),g,d,tk,os⟩) l2 ys:=Heap.IsTuple.push f _
    wp_walk using wpAny_pyIter_tuple e,wpAny_pyIter_tuple a
    exact⟨_,FQ,h⟩
   ·have a:Heap.IsList (Shared.heap ⟨i.push (A1 "tuple_iterator" l1),g,d,tk,os⟩) l2 ys:=Heap.IsList.push f _
    wp_walk using wpAny_pyIter_tuple e,wpAny_pyIter_list a
    exact⟨_,FQ,h⟩
  ·have e:Heap.IsList (Shared.heap ⟨i,g,d,tk,os⟩) l1 xs:=j
   cases b
   ·have a:Heap.IsTuple (Shared.heap ⟨i.push (A1 "list_iterator" l1),g,d,tk,os⟩) l2 ys:=Heap.IsTuple.push f _
    wp_walk using wpAny_pyIter_list e,wpAny_pyIter_tuple a
    exact⟨_,FQ,h⟩
   ·have a:Heap.IsList (Shared.heap ⟨i.push (A1 "list_iterator" l1),g,d,tk,os⟩) l2 ys:=Heap.IsList.push f _
    wp_walk using wpAny_pyIter_list e,wpAny_pyIter_list a
    exact⟨_,FQ,h⟩
structure kI (h h2:Heap)(c1:String)(l1:Addr)(c2:String)(l2:Addr):Prop where
 zip:IsZip h2 (h.objs.size+4) (h.objs.size+2) (h.objs.size+3) .none
 its:IsPair h2 (h.objs.size+2) (.ref h.objs.size) (.ref (h.objs.size+1))
 own:IsPair h2 (h.objs.size+3) .none .none
 i1:h2.get? h.objs.size=some (A1 c1 l1)
 i2:h2.get? (h.objs.size+1)=some (A1 c2 l2)
 keep:∀c o,h.get? c=some o->h2.get? c=some o
def df (h:WU)(c1:String)(l1:WP)(c2:String)(l2:WP):kI h (zE h c1 l1 c2 l2) c1 l1 c2 l2/\(zD h c1 l1 c2 l2).objs.size=h.objs.size+4:=by
 have z1:(zA h c1 l1).objs.size=h.objs.size+1:=CC ..;have z2:(zB h c1 l1 c2 l2).objs.size=h.objs.size+2:=by rw[CC,z1]
 have a:(zC h c1 l1 c2 l2).objs.size=h.objs.size+3:=by rw[CC,z2]
 have b:(zD h c1 l1 c2 l2).objs.size=h.objs.size+4:=by rw[CC,a]
 have d:(zE h c1 l1 c2 l2).get? (zD h c1 l1 c2 l2).objs.size=some _:=XF _ FQ;have e:(zE h c1 l1 c2 l2).get? (zC h c1 l1 c2 l2).objs.size=some _:=XC _ (XF _ FQ);have f:(zE h c1 l1 c2 l2).get? (zB h c1 l1 c2 l2).objs.size=some _:=XC _ (XC _ (XF _ FQ));have g:(zE h c1 l1 c2 l2).get? (zA h c1 l1).objs.size=some _:=XC _ (XC _ (XC _ (XF _ FQ)));have i:(zE h c1 l1 c2 l2).get? h.objs.size=some _:=XC _ (XC _ (XC _ (XC _ (XF _ FQ))));rw[z2,a,b] at d;rw[z1,z2] at f;rw[a] at e;rw[z1] at g;exact⟨⟨d,f,e,i,g,λc o x=>XC _ (XC _ (XC _ (XC _ (XC _ x))))⟩,b⟩
section
variable {prog:WO}{w:WN}{A:WM}{E:WQ->WR->Prop}{s:WR}
def Nk (c b:Bool){l1 l2:WP}{xs ys:Array WQ}{Q:WQ->WR->Prop}(a:ng c s.heap l1 xs)(d:ng b s.heap l2 ys)
  (h:∀h2,kI s.heap h2 (cX c) l1 (cX b) l2->Q (.ref (s.heap.objs.size+4)) {s with heap:=h2}):wpAny (model prog w) A (call (.type "zip") [.ref l1,.ref l2]) Q E s:=by
 refine callType_new PySem.F.called_zip (by decide) (PySem.F.typeCall_zip_2 _ _) (PySem.F.newCall_zip_2 _ _) (λobj=>PySem.F.args_object_init_3 obj _ _) PySem.F.entry_zip_new (dY c b l1 l2 xs ys) ⟨a,d,?_⟩;obtain⟨N,e⟩:=df s.heap (cX c) l1 (cX b) l2;show _/\_;rw[e];exact⟨⟨_,N.zip,FQ⟩,h _ N⟩
def Kp {k l1 l2:WP}(h1:l1<k)(h2:l2<k):wz (k+4) (k+2) (k+3) k (k+1) [k,l1] [k+1,l2]:=by
 have e:∀{a b:Nat},a≠b->∀{l:List Nat},a∉l->a∉b::l:=λh _ h'=>by simp[h,h']
 have n:∀a:Nat,a∉([]:List Nat):=λa=>by simp
 have c:(l1:Nat)<k:=h1;have L2:(l2:Nat)<k:=h2;have d:∀{a b:Nat},a<b\/b<a->a≠b:=λh e=>by omega
 exact⟨by simp,by simp,e (d (.inr (Nat.lt_add_of_pos_right (by decide)))) (e (d (.inr (Nat.lt_of_lt_of_le c (Nat.le_add_right _ _)))) (n _)),e (d (.inr (Nat.add_lt_add_left (by decide) k))) (e (d (.inr (Nat.lt_of_lt_of_le L2 (Nat.le_add_right _ _)))) (n _)),
  e (d (.inr (DG (by decide)))) (e (d (.inr (XG c (BG _ _)))) (n _)),e (d (.inr (DD (by decide) k))) (e (d (.inr (XG L2 (BG _ _)))) (n _)),
  e (d (.inl (DG (by decide)))) (e (d (.inr L2)) (n _)),e (d (.inr (DG (by decide)))) (e (d (.inr (XG c (BG _ _)))) (n _)),
  d (.inl (DD (by decide) k)),d (.inl (DD (by decide) k)),d (.inl (DD (by decide) k)),d (.inr (DG (by decide))),d (.inr (DD (by decide) k))⟩
end
def w5 (b:Bool)(K:WY)(H:Hp)(a:WP)(xs:List V):Prop:=if b then Vr K H a xs else Tw K H a xs
def ni (b:Bool)(h:WU)(it l:WP)(i:Nat):Prop:=if b then h.IsListIter it l i else h.IsTupleIter it l i
def Kz {prog:WO}{w:WN}{A:WM}(b:Bool)(c:A.handled=none)(it l:WP)(a:l≠it)(its:Array WQ):
  Draws prog w A it [it,l] its.size (λi v=>its[i]?=some v) (λi h=>ni b h it l i/\ng b h l its):=by
 cases b
 ·exact Of c it l a its
 ·exact Draws.list c it l a its
section
variable {X:Cx}{WZ:List (WP×Obj)}{σ:St}{H:Hp}{s:WR}
def Zq.sqX {b:Bool}{a:WP}{xs:List V}(I:Zq X WZ σ H s)(h:w5 b X.K H a xs):∃its:List WQ,Z5 xs its/\ng b s.heap a its.toArray:=by
 cases b
 ·obtain⟨its,r,p,_⟩:=I.tuple h;exact⟨its,r,p⟩
 ·obtain⟨its,r,p,_⟩:=I.list h;exact⟨its,r,p.isList⟩
def ng.lt {b:Bool}{h:WU}{l:WP}{its:Array WQ}(p:ng b h l its):l<h.objs.size:=by
 cases b
 ·obtain⟨_,e,_⟩:=p;exact XD e
 ·obtain⟨_,e,_⟩:=p;exact XD e
def ni.ob {b:Bool}{h:WU}{l k:WP}{i:Nat}(p:ni b h k l i):∃o,h.get? k=some o/\∀v,o.data≠.cell v:=by
 cases b
 ·obtain⟨o,e,c,d⟩:=p;exact⟨o,e,λv z=>by rw[d] at z;cases z⟩
 ·obtain⟨o,e,c,d⟩:=p;exact⟨o,e,λv z=>by rw[d] at z;cases z⟩
def ni.at {b:Bool}{h h':WU}{l k:WP}{i:Nat}(p:ni b h k l i)(q:∀o,h.get? k=some o->h'.get? k=some o):ni b h' k l i:=by
 cases b
 ·exact Heap.IsTupleIter.at p q
 ·exact Heap.IsListIter.at p q
def Zq.sqX_inj {b:Bool}{a:WP}{xs ys:List V}(I:Zq X WZ σ H s)(h:w5 b X.K H a xs)(h':w5 b X.K H a ys):xs=ys:=by
 cases b
 ·exact I.tuple_inj h h'
 ·exact I.list_inj h h'
end
def bh (z b:Bool)(K:WY)(l1 l2:WP):It:=
 ⟨λi H=>∃xs ys,w5 z K H l1 xs/\w5 b K H l2 ys/\xs.length=ys.length/\i<xs.length,
  λi H x H'=>∃u v T,(∀xs,w5 z K H l1 xs->xs[i]?=some u)/\(∀ys,w5 b K H l2 ys->ys[i]?=some v)/\x=.ref T/\H T=none/\H'=Yq H T (.tup [u,v]),
  λi H=>∃xs ys,w5 z K H l1 xs/\w5 b K H l2 ys/\xs.length=ys.length/\i=xs.length⟩
def vd {P:WO}{w:WN}{K:WY}{h_:List WW}{ek:Nat}{i_:Pos}(z b:Bool){k l1 l2:WP}(h1:l1<k)(h2:l2<k):
  yI P w K (.Tuple h_ ek i_) (bh z b K l1 l2) [k+4,k+2,k+3,k,k+1] (k+4)
   (λi h=>IsZip h (k+4) (k+2) (k+3) .none/\IsPair h (k+2) (.ref k) (.ref (k+1))/\(∃a c,IsPair h (k+3) a c)/\ni z h k l1 i/\ni b h (k+1) l2 i) where
 mem:=by simp
 obj:=λi h st c hc=>by
  obtain⟨L,N,⟨u,v,p⟩,a4,a5⟩:=st;simp only[ZM,ZN,or_false] at hc
  rcases hc with rfl | rfl | rfl | rfl | rfl
  ·exact⟨_,L,λv z=>by have z':Data.fields _=Data.cell v:=z;cases z'⟩
  ·exact⟨_,N,λv z=>by have z':Data.seq _ _=Data.cell v:=z;cases z'⟩
  ·exact⟨_,p,λv z=>by have z':Data.seq _ _=Data.cell v:=z;cases z'⟩
  ·exact a4.ob
  ·exact a5.ob
 keep:=λi h h' st kp=>by
  obtain⟨L,N,⟨u,v,p⟩,a4,a5⟩:=st;exact⟨kp _ (by simp) _ L,kp _ (by simp) _ N,⟨u,v,kp _ (by simp) _ p⟩,a4.at λo e=>kp _ (by simp) o e,a5.at λo e=>kp _ (by simp) o e⟩
 item:=by
  intro X hP hw hK hc i WZ s σ H E I t st hg;subst hP hw hK;obtain⟨xs,ys,B,C,l,hi⟩:=hg;obtain⟨g,D,p1⟩:=I.sqX B;obtain⟨j,G,p2⟩:=I.sqX C;obtain⟨L,N,p,a4,a5⟩:=st;have U:g.toArray.size=xs.length:=by rw[XJ,D.length]
  have Y:j.toArray.size=xs.length:=by rw[XJ,<-G.length,l]
  have D1:=Kz (prog:=X.prog) (w:=X.w) (A:=X.A.in1) z (I.ok.hd hc) k l1 (XH h1) g.toArray;have D2:=Kz (prog:=X.prog) (w:=X.w) (A:=X.A.in1) b (I.ok.hd hc) (k+1) l2 (XH (CI h2)) j.toArray;rw[U] at D1;rw[Y] at D2;have W:=B5 D1 D2 (Kp h1 h2);refine W.item i s _ _ hi ⟨L,N,p,⟨a4,p1⟩,⟨a5,p2⟩⟩ λT HS h' tk hv hT C_ hm kk=>?_;obtain⟨x,y,hx,hy,rfl⟩:=hv;refine⟨_,rfl,W.go h_ ek i_ i T {s with heap:=h',toks:=tk} _ _ hm λh2 D_ DO=>?_⟩;have hu:xs[i]?=some xs[i]:=by simp[hi]
  have hv:ys[i]?=some (ys[i]'(by omega)):=by simp[show i<ys.length by omega]
  obtain⟨u1,e1,r1⟩:=D.get hu;obtain⟨u2,e2,r2⟩:=G.get hv;have ex:x=u1:=by
   have:g[i]?=some x:=by simpa using hx
   rw[e1] at this;exact(YH this).symm
  have ey:y=u2:=by
   have:j[i]?=some y:=by simpa using hy
   rw[e2] at this;exact(YH this).symm
  subst ex ey;have E_:H T=none:=I.hok.fresh hT;have F_:T∉[k+4,k+3,k,k+1]:=W.apart i T h' hm;have sub:∀c,c∈[k+4,k+3,k,k+1]->c∈[k+4,k+2,k+3,k,k+1]:=λc hc=>by
   simp only[ZM,ZN,or_false] at hc |-
   rcases hc with z | z | z | z<;>simp[z]
  have k2:∀c o,c∉[k+4,k+3,k,k+1]->s.heap.get? c=some o->h2.get? c=some o:=λc o hb q=>DO c o hb (kk c o hb q);have A_:IsTup h2 T #[x,y]:=by
   obtain⟨o,ho,r⟩:=C_;exact⟨o,DO T o F_ ho,r⟩
  have G_:∀c∈[k+4,k+3,k,k+1],H c=none:=λc hb=>(t c (sub c hb)).1;have B_:∀c,c<s.heap.objs.size->c≠T:=λc hb=>XH (XG hb hT);have f:∀c u,H c=some u->c≠T/\c∉[k+4,k+3,k,k+1]:=λc u q=>⟨B_ c (I.hok.lt q),λz=>by rw[G_ c z] at q;cases q⟩;have I1:Zq X WZ σ (Yq H T (.tup [xs[i],ys[i]'(by omega)])) {s with heap:=h2,gens:=s.gens,drawn:=s.drawn,toks:=tk}:=by
   refine I.step (ch:=[k+4,k+3,k,k+1]) (λc hb=>?_) (λc o _ _ hc q _=>k2 c o hc q) (λc o _ _ hc q _=>⟨o.slots,k2 c o hc q⟩) (λc o hc q n=>by rw[Z0 (B_ c (XD q))];exact n) (λc o hc q=>⟨o,k2 c o hc q⟩)
    (λc xs q=>by rw[Z0 (f c _ q).1];exact q) (λc o u q=>by rw[Z0 (f c _ q).1];exact q) (λc ps q=>⟨#[],by rw[Z0 (f c _ q).1,q];simp⟩) (λm hm=>?_) (λc u q=>?_) I.bare
   ·obtain⟨f0,f1,f2,f3,f4,f5⟩:=t c (sub c hb);exact⟨f3,f1,f4,f5⟩
   ·obtain⟨o,es,ep,ho,r⟩:=hm;exact⟨o,es,ep,k2 _ o (λz=>(t _ (sub _ z)).2.1 FQ) ho,r⟩
   ·by_cases hb:c=T
    ·subst hb;rw[Ya] at q;cases q;exact⟨XN (by decide:2<=1000) (CG (Ft (XE _))),[x,y],.cons r1 (.cons r2 .nil),A_⟩
    ·rw[Z0 hb] at q;refine(I.hok c u q).stay (λd v hd r=>k2 d v ?_ r) (λd r=>by rw[Z0 (f d _ r).1];exact r) λd xs r=>by rw[Z0 (f d _ r).1];exact r
     rcases hd with rfl | hd
     ·exact(f d _ q).2
     ·exact(f d _ hd).2
  obtain⟨b1,b2,b3,⟨b4,_⟩,⟨b5,_⟩⟩:=D_;refine⟨.ref T,_,I1,FQ,⟨_,_,T,λzs hz=>by rw[I.sqX_inj hz B];exact hu,λzs hz=>by rw[I.sqX_inj hz C];exact hv,FQ,E_,FQ⟩,⟨b1,b2,b3,b4,b5⟩,λc hb=>?_⟩;have HP:c≠T:=by
   obtain⟨o,ho⟩:∃o,s.heap.get? c=some o:=by
    obtain⟨u,v,p⟩:=p;simp only[ZM,ZN,or_false] at hb
    rcases hb with rfl | rfl | rfl | rfl | rfl
    ·exact⟨_,L⟩
    ·exact⟨_,N⟩
    ·exact⟨_,p⟩
    ·exact a4.ob.imp λ_ h=>h.1
    ·exact a5.ob.imp λ_ h=>h.1
   exact B_ c (XD ho)
  rw[Z0 HP];exact(t c hb).1
 done:=by
  intro X hP hw hK hc i WZ s σ H E I t st hg;subst hP hw hK;obtain⟨xs,ys,B,C,l,hi⟩:=hg;obtain⟨g,D,p1⟩:=I.sqX B;obtain⟨j,G,p2⟩:=I.sqX C;obtain⟨L,N,p,a4,a5⟩:=st;have U:g.toArray.size=xs.length:=by rw[XJ,D.length]
  have Y:j.toArray.size=xs.length:=by rw[XJ,<-G.length,l]
  have D1:=Kz (prog:=X.prog) (w:=X.w) (A:=X.A.in1) z (I.ok.hd hc) k l1 (XH h1) g.toArray;have D2:=Kz (prog:=X.prog) (w:=X.w) (A:=X.A.in1) b (I.ok.hd hc) (k+1) l2 (XH (CI h2)) j.toArray;rw[U] at D1;rw[Y] at D2;subst hi;have W:=B5 D1 D2 (Kp h1 h2);have sub:∀c,c∈[k+4,k+3,k,k+1]->c∈[k+4,k+2,k+3,k,k+1]:=λc hc=>by
   simp only[ZM,ZN,or_false] at hc |-
   rcases hc with z | z | z | z<;>simp[z]
  refine W.done s _ _ ⟨L,N,p,⟨a4,p1⟩,⟨a5,p2⟩⟩ λh' tk kk=>⟨FQ,?_⟩;exact I.step (g':=s.gens) (d':=s.drawn) (ch:=[k+4,k+3,k,k+1]) (λc hb=>let ⟨f0,f1,f2,f3,f4,f5⟩:=t c (sub c hb);⟨f3,f1,f4,f5⟩) (λc o _ _ hc q _=>kk c o hc q) (λc o _ _ hc q _=>⟨o.slots,kk c o hc q⟩) (λc o _ _ n=>n) (λc o hc q=>⟨o,kk c o hc q⟩)
    (λ_ _ q=>q) (λ_ _ _ q=>q) (λc ps q=>⟨#[],by rw[q];simp⟩) (λm hm=>let ⟨o,es,ep,ho,r⟩:=hm;⟨o,es,ep,kk _ o (λz=>(t _ (sub _ z)).2.1 FQ) ho,r⟩)
    (λc u q=>(I.hok c u q).stay (λd v hd r=>kk d v (λz=>by
     rcases hd with rfl | hd
     ·rw[(t _ (sub _ z)).1] at q;cases q
     ·rw[(t _ (sub _ z)).1] at hd;cases hd) r) (λ_ r=>r) λ_ _ r=>r) I.bare
 self:=λA i s Q E st h=>wpAny_pyIter_zip st.1 h
section
variable {X:Cx}{h_:List WW}{ek:Nat}{i_:Pos}
def cg (K:WY)(ta:TA):TI:=λσ H R=>ta σ H λvs H1=>∃(z b:Bool) (l1 l2:WP) (xs ys:List V),vs=[.ref l1,.ref l2]/\w5 z K H1 l1 xs/\w5 b K H1 l2 ys/\R (bh z b K l1 l2) H1
def mq {a c:WW}{ta:TA}{p pos:Pos}(m:Gl X "zip")(hm:X.mg "zip"=none)(ha:PA X [a,c] ta)(hs:starEach [a,c] X.env=(false,eval a X.env)::starEach [c] X.env:=by rfl)(n:(backTo pos (starEach [c] X.env)).any (·.1)=false:=by rfl)(hb:bootBuiltins "zip"=some (.type "zip"):=by decide+kernel):
  PI X (.Tuple h_ ek i_) (.Call (.Name "zip" p) [a,c] [] pos) (cg X.K ta):=by
 intro WZ s σ H R I h;refine Call_ (Tj I m hm hb (BF (Y3 (ha pos WZ s σ H _ I h) λus s1 ⟨vs,H1,d,o,r⟩=>?_) hs n));obtain⟨z,b,l1,l2,xs,ys,rfl,f,g,q⟩:=r;obtain⟨u,v,rfl,t,x⟩:=o.two
 cases t
 cases x
 obtain⟨i,y,j⟩:=d.sqX f;obtain⟨l,B,p2⟩:=d.sqX g;have fin:∀h2,kI s1.heap h2 (cX z) l1 (cX b) l2->wpAny (model X.prog X.w) X.A (pyIter (.ref (s1.heap.objs.size+4))) (eV X WZ σ (.Tuple h_ ek i_) R) X.xe {s1 with heap:=h2}:=λh2 N=>by
  refine wpAny_pyIter_zip (s:={s1 with heap:=h2}) N.zip ?_;refine⟨_,_,_,_,H1,FQ,d.kept (t':=s1.toks) N.keep,vd z b j.lt p2.lt,⟨N.zip,N.its,⟨_,_,N.own⟩,?_,?_⟩,λc hc=>?_,q⟩
  ·cases z
   ·exact⟨_,N.i1,FQ,FQ⟩
   ·exact⟨_,N.i1,FQ,FQ⟩
  ·cases b
   ·exact⟨_,N.i2,FQ,FQ⟩
   ·exact⟨_,N.i2,FQ,FQ⟩
  ·have e:s1.heap.objs.size<=c:=by
    simp only[ZM,ZN,or_false] at hc
    rcases hc with rfl | rfl | rfl | rfl | rfl
    ·exact BG _ _
    ·exact BG _ _
    ·exact BG _ _
    ·exact XE _
    ·exact BG _ _
   exact d.fpOk e (d.hok.fresh e)
 exact Nk z b j p2 fin
end
section
variable {X:Cx}
def zS (bs:List Bool):((List.range bs.length).any λi=>(bs[i]?).getD false)=bs.any id:=by
 rw[DZ,CZ,CZ];constructor
 ·rintro⟨i,hi,h⟩;have a:=EH.mp hi;exact⟨bs[i],List.getElem_mem a,by simpa[a] using h⟩
 ·rintro⟨x,hx,h⟩;obtain⟨i,hi,rfl⟩:=List.mem_iff_getElem.mp hx;exact⟨i,List.mem_range.mpr hi,by simpa[hi] using h⟩
def wm (hc:X.calm=true):Vo X (.builtin "any") (λxs H Q=>∃(p:WP) (bs:List Bool),xs=[.ref p]/\Vr X.K H p (bs.map V.bl)/\Q (.bl (bs.any id)) H):=by
 intro WZ s σ H xs us Q I r h;obtain⟨p,bs,rfl,hq,q⟩:=h;obtain⟨u,rfl,d⟩:=Rj r
 cases d
 obtain⟨its,j,pl,hz⟩:=I.list hq;have f:=pl.isList;have g:p<s.heap.objs.size:=by obtain⟨_,e,_⟩:=f;exact XD e
 have a:its.length=bs.length:=by have:=j.length;simp at this;omega
 refine call_any_walk (wpAny_pyIter_list f ?_);refine⟨s.heap.objs.size,[s.heap.objs.size,p],[s.heap.objs.size],its.toArray.size,_,_,λi=>(bs[i]?).getD false,FQ,Walks.list (A:=X.A.in1) (I.ok.hd hc) _ p (XH g) its.toArray,
  ⟨⟨_,XF _ FQ,FQ,FQ⟩,f.push _⟩,λi v s' Q' t m n=>?_,λh' tk hk=>?_⟩
 ·have hv:its[i]?=some v:=by simpa using m
  have hi:i<its.length:=(AZ.mp hv).1;have hb:(bs.map V.bl)[i]?=some (.bl bs[i]):=by simp[show i<bs.length by omega]
  obtain⟨u,l,d⟩:=j.get hb;rw[hv] at l;cases l
  cases d
  have e:(bs[i]?).getD false=bs[i]:=by simp[show i<bs.length by omega]
  have c:Q' ((bs[i]?).getD false) s':=n;rw[e] at c;exact wpAny_truthy_bool c
 ·have e:((List.range its.toArray.size).any λi=>(bs[i]?).getD false)=bs.any id:=by
   rw[XJ,a];exact zS bs
  rw[e];refine⟨.bl (bs.any id),H,I.kept λb o x=>hk b o (λhm=>?_) (XC _ x),FQ,q⟩;have:=XQ.mp hm;subst this;exact BH _ (XD x)
end
end L2
namespace WL
section
variable {X:Cx}{e o a b f:WW}{we wo wa wb wi wd:WE}{wA:WA}{p p2 pos on c_ f_:Pos}
def kz:bootBuiltins "any"=some (.builtin "any"):=by decide+kernel
def pF:bootBuiltins "dict"=some (.type "dict"):=by decide+kernel
def cL:List T->Hw->WK->Prop:=λvs C Q=>∃(a:WP) (bs:List Bool),vs=[.ref a]/\C a=some (.lst (bs.map T.bl))/\Q (.bl (bs.any id)) C
def fM (hc:X.calm=true):Pp X (.builtin "any") cL:=⟨_,wm hc,λF H C xs vs Q Q' R rs h q=>by
 obtain⟨a,bs,rfl,hx,h⟩:=h;obtain⟨x,rfl,b⟩:=Wn rs
 cases Z7 b
 obtain⟨ys,hy,r⟩:=R.lst hx
 cases Ao r
 exact⟨a,bs,FQ,Vr.of hy,q _ _ H C R (Tx.refl H) J5 h⟩⟩
def fE (kvs:List (Z8×T))(k:Z8):List (Z8×T):=kvs.filter λkv=>decide (kv.1≠k)
def cB (o i d:WE):WE:=λτ C Q χ=>o τ C (λx C1=>(∃a kvs,x=.ref a/\C1 a=some (.dic kvs))/\i τ C1 (λy C2=>d τ C2 (λz b=>∃a kvs k,x=.ref a/\kT y=some k/\b a=some (.dic kvs)/\
 (∀v,Ys kvs k=some v->Q v (up b a (.dic (fE kvs k))))/\(Ys kvs k=none->Q z b)) χ) χ) χ
def Ih (xs ys:List T):List T:=List.zipWith (λx y=>T.tup [x,y]) xs ys
def aK (a:WA):WI:=λτ C R χ=>a τ C (λvs C1=>(∃xs ys,vs=[.tup xs,.tup ys]/\xs.length=ys.length/\R (Ih xs ys) (λ_=>True) C1)\/
 (∃xs ys l,vs=[.tup xs,.ref l]/\C1 l=some (.lst ys)/\xs.length=ys.length/\R (Ih xs ys) (λC2=>C2 l=some (.lst ys)) C1)\/
 ∃xs ys k l,vs=[.ref k,.ref l]/\C1 k=some (.lst xs)/\C1 l=some (.lst ys)/\xs.length=ys.length/\R (Ih xs ys) (λC2=>C2 k=some (.lst xs)/\C2 l=some (.lst ys)) C1) χ
def yO {xs ys:List T}{i:Nat}{x y:T}(hx:xs[i]?=some x)(hy:ys[i]?=some y):(Ih xs ys)[i]?=some (.tup [x,y]):=by
 unfold Ih;rw[List.getElem?_zipWith,hx,hy]
def yi {K:WY}{F H0:Hp}(z b:Bool){l1 l2:WP}{xs ys:List T}{ok:Hw->Prop}(p:xs.length=ys.length)(h1:∀H C,Rl K F H C->Tx H0 H->ok C->∃a,w5 z K H l1 a/\Reps K H a xs)
  (h2:∀H C,Rl K F H C->Tx H0 H->ok C->∃c,w5 b K H l2 c/\Reps K H c ys):Gv K F H0 (bh z b K l1 l2) (Ih xs ys) ok:=λi H C R t hok=>by
 obtain⟨a,f,d⟩:=h1 H C R t hok;obtain⟨c,g,l⟩:=h2 H C R t hok;have j:(Ih xs ys).length=xs.length:=by unfold Ih;simp;omega
 have q:=d.length;have r:=l.length;refine⟨λhi=>?_,λhi=>⟨a,c,f,g,by omega,by omega⟩⟩;rw[j] at hi;refine⟨⟨a,c,f,g,by omega,by omega⟩,λx H' h=>?_⟩;obtain⟨u,v,s,m,hv,rfl,e,rfl⟩:=h;obtain⟨x,hx,n⟩:=d.get' (m a f);obtain⟨y,hy,o⟩:=l.get' (hv c g);exact⟨_,yO hx hy,R.hid e,Tx.new e,Xs (Tw.of Ya) (Yl (n.tx (Tx.new e)) (Yl (o.tx (Tx.new e)) Yy))⟩
def kn {h_:List WW}{ek:Nat}{i_:Pos}(v:Gl X "zip")(hm:X.mg "zip"=none)(ha:Lz X [a,b] wA)(hs:starEach [a,b] X.env=(false,eval a X.env)::starEach [b] X.env:=by rfl)(w:(backTo pos (starEach [b] X.env)).any (·.1)=false:=by rfl):
  iq X (.Tuple h_ ek i_) (.Call (.Name "zip" p) [a,b] [] pos) (aK wA):=by
 obtain⟨t,z,s⟩:=ha;refine⟨_,mq v hm z hs w,λF H C σ τ R R' χ Rr S h q=>?_⟩;refine s F H C σ τ _ _ χ Rr S h λxs vs H1 C1 R1 t1 rs h1=>?_
 rcases h1 with⟨ts,us,rfl,e,h1⟩ | ⟨ts,us,l,rfl,j,e,h1⟩ | ⟨ts,us,k,l,rfl,A,j,e,h1⟩<;>obtain⟨x,y,rfl,m,n⟩:=ul rs
 ·obtain⟨l1,d,rfl,f,i⟩:=Yn m;obtain⟨l2,y2,rfl,r,o⟩:=Yn n;exact⟨false,false,l1,l2,d,y2,FQ,f,r,q _ H1 _ _ C1 R1 t1 (λu=>yi _ _ e (λH C _ t _=>⟨d,t.sqt f,i.tx t⟩) λH C _ t _=>⟨y2,t.sqt r,o.tx t⟩) h1⟩
 ·obtain⟨l1,d,rfl,f,i⟩:=Yn m
  cases Z7 n
  obtain⟨y2,hy,o⟩:=R1.lst j;refine⟨false,true,l1,l,d,y2,FQ,f,Vr.of hy,q _ H1 _ _ C1 R1 t1 (λu=>yi _ _ e (λH C _ t _=>⟨d,t.sqt f,i.tx t⟩) λH C R' t hok=>?_) h1⟩;obtain⟨y3,c,g⟩:=R'.lst hok;exact⟨y3,Vr.of c,g⟩
 ·cases Z7 m
  cases Z7 n
  obtain⟨d,hx,i⟩:=R1.lst A;obtain⟨y2,hy,o⟩:=R1.lst j;refine⟨true,true,k,l,d,y2,FQ,Vr.of hx,Vr.of hy,q _ H1 _ _ C1 R1 t1 (λu=>yi _ _ e (λH C R' t hok=>?_) λH C R' t hok=>?_) h1⟩
  ·obtain⟨y3,c,g⟩:=R'.lst hok.1;exact⟨y3,Vr.of c,g⟩
  ·obtain⟨y3,c,g⟩:=R'.lst hok.2;exact⟨y3,Vr.of c,g⟩
end
end WL
namespace L2
def Zaq (o:Obj)(d:WP)(ks:List (Z8×V)):It:=
 ⟨λi H=>H d=some (.frz o (.dK ks))/\i<ks.length,λi H x H'=>H'=H/\∃kv,ks[i]?=some kv/\x=kV kv.1,λi H=>H d=some (.frz o (.dK ks))/\i=ks.length⟩
section
variable {X:Cx}{tg e:WW}
def aO (td:TE):TI:=λσ H R=>td σ H λx H1=>∃d ks,x=.ref d/\Rd H1 d (.dK ks)/\∀o,(∀o',H1 d=some (.frz o' (.dK ks))->o'=o)->R (Zaq o d ks) (Yq H1 d (.frz o (.dK ks)))
end
end L2
namespace WL
def eU (C:Hw)(a:WP)(kvs:List (Z8×T)):Prop:=C a=some (.dic kvs)\/C a=some (.fdic kvs)
def Rl.rd {K:WY}{F H:Hp}{C:Hw}(R:Rl K F H C){a:WP}{kvs:List (Z8×T)}(h:eU C a kvs):∃ks,Rd H a (.dK ks)/\PR K H ks kvs:=by
 rcases h with h | h
 ·obtain⟨ks,b,pr⟩:=R.dic h;exact⟨ks,.inl b,pr⟩
 ·exact R.obj a _ h
section
variable {X:Cx}{e o a b c f i:WW}{we wo wa wb wi wd:WE}{wA:WA}{p p2 pos on c_ f_:Pos}{tg:WW}
def o0:W2:=λx y C Q=>∃a kvs k v,x=.ref a/\kT y=some k/\eU C a kvs/\Ys kvs k=some v/\Q v C
def wY (b:Bool):W2:=λy x C Q=>∃a kvs k,x=.ref a/\kT y=some k/\eU C a kvs/\Q (.bl (if b then !(Ys kvs k).isSome else(Ys kvs k).isSome)) C
abbrev dh:W2:=wY false
abbrev rm:W2:=wY true
def Wq (m:X.A.units+150<cLine)(ha:Ji X a wa)(hb:Ji X b wb)(hs:kU b):Ji X (.Subscript a b pos) (X5 o0 wa wb):=by
 obtain⟨ta,c,s1⟩:=ha;obtain⟨tb,p2,s2⟩:=hb;refine⟨_,qo (by omega) c p2 hs,λF H C σ τ Q Q' χ R S h q=>?_⟩;refine s1 F H C σ τ _ _ χ R S h λx v H1 C1 R1 t1 d h1=>?_;refine s2 F H1 C1 σ τ _ _ χ R1 (S.tx t1) h1 λy u H2 C2 R2 t2 e h2=>?_;obtain⟨l,kvs,k,w,rfl,hk,f,g,h2⟩:=h2
 cases Z7 d
 obtain⟨ks,i,pr⟩:=R2.rd f;obtain⟨z,hz,j⟩:=(PR.get pr k).2 w g
 cases Ks hk e
 exact⟨l,z,FQ,.inl ⟨ks,k,i,FQ,hz.symm⟩,q _ _ H2 C2 R2 (t1.trans t2) j h2⟩
def uq (a:Bool)(o:X.A.units+150<cLine):Gy X (compareOp (if a then .NotIn else .In)) (wY a):=⟨_,zZ,λF H C y x u v Q Q' R f i h q WZ s σ u' v' I c j=>by
 obtain⟨l,kvs,k,rfl,hk,m,h⟩:=h
 cases Z7 i
 cases j
 obtain⟨ks,n,pr⟩:=R.rd m
 cases Ks hk f
 have e:(Oj ks k).isSome=(Ys kvs k).isSome:=by
  cases d:Ys kvs k with
  | none=>rw[(PR.get pr k).1 d];rfl
  | some w=>obtain⟨z,hz,_⟩:=(PR.get pr k).2 w d;rw[hz];rfl
 have fin:=q _ _ H C R (Tx.refl H) J5 h;rw[<-e] at fin;have g:zx H l (kV k) (Oj ks k):=.inl ⟨ks,k,n,FQ,FQ⟩
 cases a with
 | true=>exact pA (by omega) I g c λs' b=>⟨.bl _,H,b,FQ,fin⟩
 | false=>exact cF (by omega) I g c λs' b=>⟨.bl _,H,b,FQ,fin⟩⟩
def ur (a:X.A.units+150<cLine):Gy X (compareOp .In) dh:=uq false a
def uo (a:X.A.units+150<cLine):Gy X (compareOp .NotIn) rm:=uq true a
def yF:Vo X (.type "dict") (λxs H Q=>∃(p:WP) (kvs:List (Z8×V)),xs=[.ref p]/\Rd H p (.dK kvs)/\∀r,H r=none->Q (.ref r) (Yq H r (.dK kvs))):=by
 intro WZ s σ H xs us Q I r h;obtain⟨p,kvs,rfl,a,q⟩:=h;obtain⟨u,rfl,b⟩:=Rj r
 cases b
 exact tT I a λr s2 c d=>⟨.ref r,_,d,FQ,q r c⟩
def k8:List T->Hw->WK->Prop:=λvs C Q=>∃(a:WP) (kvs:List (Z8×T)),vs=[.ref a]/\eU C a kvs/\∀p,C p=none->Q (.ref p) (up C p (.dic kvs))
def pL:Pp X (.type "dict") k8:=⟨_,yF,λF H C xs vs Q Q' R rs h q=>by
 obtain⟨a,kvs,rfl,c,h⟩:=h;obtain⟨x,rfl,d⟩:=Wn rs
 cases Z7 d
 obtain⟨ks,e,pr⟩:=R.rd c;exact⟨a,ks,FQ,e,λr b=>q _ _ _ _ (R.newD b pr) (Tx.new b) Yu (h r (R.free b))⟩⟩
end
def T6 (f:Str)(v:T):List (Str×T)->List (Str×T)
 | []=>[(f,v)]
 | (g,x)::r=>if g=f then(g,v)::r else(g,x)::T6 f v r
section
variable {K:WY}{H:Hp}
def je {f:Str}{y:V}{v:T}(q:Ju K H y v):∀{ks:List (Str×V)} {fs:List (Str×T)},PR K H ks fs->PR K H (Sv f y ks) (T6 f v fs)
 | [],[],_=>.cons ⟨FQ,q⟩ .nil
 | (k,x)::ks,(g,z)::fs,.cons h r=>by
  obtain⟨e,a⟩:=h
  cases e
  show PR K H (if k=f then(k,y)::ks else(k,x)::Sv f y ks) (if k=f then(k,v)::fs else(k,z)::T6 f v fs);by_cases c:k=f
  ·rw[XY c,XY c];exact .cons ⟨FQ,q⟩ r
  ·rw[XX c,XX c];exact .cons ⟨FQ,a⟩ (je q r)
def Kt {f:Str}:∀{ks:List (Str×V)} {fs:List (Str×T)},PR K H ks fs->(∀v,fs.lookup f=some v->∃y,ks.lookup f=some y/\Ju K H y v)/\(fs.lookup f=none->ks.lookup f=none)
 | [],[],_=>⟨λv h=>by simp at h,λ_=>rfl⟩
 | (k,x)::ks,(g,z)::fs,.cons h r=>by
  obtain⟨e,a⟩:=h
  cases e
  by_cases c:f=k
  ·have hb:(f==k)=true:=beq_iff_eq.mpr c;simp only[List.lookup,hb];exact⟨λv h=>by cases h;exact⟨x,FQ,a⟩,λh=>by cases h⟩
  ·have hb:(f==k)=false:=Tm.mpr c;simp only[List.lookup,hb];exact Kt r
def vW:∀{κ:Type} {ks:List (κ×V)} {fs:List (κ×T)},PR K H ks fs->ks.length=fs.length
 | _,[],[],_=>rfl
 | _,_::_,_::_,.cons _ r=>by rw[YF,YF,vW r]
end
abbrev M3 (K:WY)(cn:Str)(Cl:WP):Prop:=W.nsIn K mainGlobals cn=some (some (.ref Cl))
structure KF (K:W.Frag)(f cn:Str):Prop where
 ex:∃Cl,M3 K cn Cl/\z9 K Cl/\Qi K Cl f
def KF.at {K:WY}{f cn:Str}(h:KF K f cn){Cl:WP}(c:M3 K cn Cl):z9 K Cl/\Qi K Cl f:=by
 obtain⟨C2,h1,h2⟩:=h.ex;have e:some (some (Value.ref C2))=some (some (Value.ref Cl)):=h1.symm.trans c
 cases e
 exact h2
def cA (cs:List Str)(f:Str)(o:WE):WE:=λτ C Q χ=>o τ C (λx C1=>∃a cn fs v,x=.ref a/\C1 a=some (.ins cn fs)/\cn∈cs/\fs.lookup f=some v/\Q v C1) χ
def aQ (cs:List Str)(f:Str)(o:WE):WG:=λv τ C Q χ=>o τ C (λx C1=>∃a cn fs,x=.ref a/\C1 a=some (.ins cn fs)/\cn∈cs/\fs.length<1000/\Q τ (up C1 a (.ins cn (T6 f v fs)))) χ
def Rl.ins {K:WY}{F H:Hp}{C:Hw}(R:Rl K F H C){a:WP}{cn:Str}{fs:List (Str×T)}(h:C a=some (.ins cn fs)):∃Cl dx ks,M3 K cn Cl/\H a=some (.ins Cl dx ks)/\PR K H ks fs:=R.obj a _ h
section
variable {X:Cx}{e o value:WW}{we wo wv:WE}{f:Str}{cs:List Str}{pos n_ c_ f_:Pos}
def Rn (hk:∀cn∈cs,KF X.K f cn)(c:Ji X e we)(hb:attributeBase e f X.env (eval e X.env)=eval e X.env:=by rfl):Ji X (.Attribute e f pos) (cA cs f we):=by
 obtain⟨ta,d,s1⟩:=c;refine⟨_,mD d hb,λF H C σ τ Q Q' χ R S h q=>?_⟩;refine s1 F H C σ τ _ _ χ R S h λx v H1 C1 R1 t1 g h1=>?_;obtain⟨a,cn,fs,v',rfl,i,b,j,h1⟩:=h1
 cases Z7 g
 obtain⟨Cl,dx,ks,hc,l,pr⟩:=R1.ins i;obtain⟨y,hy,m⟩:=(Kt pr).1 v' j;obtain⟨c1,c2⟩:=(hk cn b).at hc;exact⟨a,Cl,dx,ks,y,FQ,l,c1,c2,hy,q _ _ H1 C1 R1 t1 m h1⟩
def tI (hk:∀cn∈cs,KF X.K f cn)(i:Ji X o wo)(hv:Ji X value wv)(hs:swapsWith value (some (.Attribute o f n_)) pos.line X.env=pure false:=by rfl):Lo X (.Assign [.Attribute o f n_] value pos) (Ol wv (aQ cs f wo)):=by
 obtain⟨ta,j,s1⟩:=i;obtain⟨tv,p2,s2⟩:=hv;refine⟨_,ml j p2 hs,λF H C σ τ D D' R S h d=>?_⟩;refine s2 F H C σ τ _ _ D'.xc R S h λy v H1 C1 R1 t1 l h1=>?_;refine s1 F H1 C1 σ τ _ _ D'.xc R1 (S.tx t1) h1 λx u H2 C2 R2 t2 m h2=>?_;obtain⟨a,cn,fs,rfl,c,b,n,h2⟩:=h2
 cases Z7 m
 obtain⟨Cl,dx,ks,hc,e,pr⟩:=R2.ins c;obtain⟨c1,c2⟩:=(hk cn b).at hc;have p:Tx H2 (Yq H2 a (.ins Cl dx (Sv f y ks))):=Tx.put e (λz=>z);obtain⟨R3,g⟩:=R2.put (u:=.ins Cl dx (Sv f y ks)) (o':=.ins cn (T6 f v fs)) c ⟨Cl,dx,_,hc,Ya,Iy p (je (l.tx t2) pr)⟩;exact⟨a,Cl,dx,ks,FQ,e,c1,c2,by rw[vW pr];exact n,d.nx _ _ _ _ R3 ((t1.trans t2).trans g) (S.tx ((t1.trans t2).trans g)) h2⟩
end
def vm (MT:WP->L2.Sp->Prop)(m:Str)(E:XK)(ta:TE)(t:TA):TE:=λσ H Q=>ta σ H λx H1=>∃a C dx fs sp,x=.ref a/\H1 a=some (.ins C dx fs)/\MT C sp/\fs.lookup m=none/\t σ H1 λvs H2=>sp (x::vs) H2 Q E
def Cm (P:WO)(w:WN)(K:WY)(mg:Str->Option WQ)(base:WU)(n:Nat)(cn m:Str)(ps:List Str)(sp:L2.Sp):Prop:=
 ∃Cl f fd,M3 K cn Cl/\z9 K Cl/\wB K Cl m f/\Ww P w K mg base CX0 n f fd ps sp/\Xv K fd ps []
def Za9 (P:WO)(w:WN)(K:WY)(mg:Str->Option WQ)(base:WU)(n:Nat)(pr:List Df)(m:Str)(tb:List (Str×Nat)):Prop:=∀cn i,tb.lookup cn=some i->∃ps,Cm P w K mg base n cn m ps (spW K pr n i)
def Kj (P:Calls)(tb:List (Str×Nat))(m:Str)(o:WE)(a:WA):WE:=λτ C Q χ=>o τ C (λx C1=>∃ad cn fs i,x=.ref ad/\C1 ad=some (.ins cn fs)/\tb.lookup cn=some i/\fs.lookup m=none/\a τ C1 (λvs C2=>P i (x::vs) C2 Q χ) χ) χ
def jZ (cn:Str)(i:Nat)(P:Calls):WS:=λD τ C=>∃vs,τ=vs.map some/\∀p,C p=none->P i (.ref p::vs) (up C p (.ins cn [])) (λv C2=>v=.non/\D.rt (.ref p) C2) D.xc
def Cn (P:WO)(w:WN)(K:WY)(mg:Str->Option WQ)(base:WU)(n:Nat)(pr:List Df)(cn:Str)(i j:Nat):Prop:=
 (∃ar,pr[j]?=some ⟨ar,ar,jZ cn i⟩)/\∃Cl f,M3 K cn Cl/\mg cn=some (.ref Cl)/\L2.Mk K Cl f/\(n=0\/∃k fd ps,n=k+1/\Ww P w K mg base CX0 k f fd ps (spW K pr k i)/\Xv K fd ps [])
def lV {P:WO}{w:WN}{K:WY}{mg:Str->Option WQ}{base:WU}{x qual:Str}{st:WV}{f:WP}{fd:VZ}{N ps:List Str}{pr:List Df}{n i:Nat}{d:Df}(F:Kk K x qual st f fd)(S:Zt N ps (Zj st))(hd:pr[i]?=some d)(hn:d.n=N.length)(b:d.ar=ps.length)
  (hb:∀(e_:WQ) (A:WM) (outer:List Env) (s:WR) (H:Hp) (E:XK),Y8 n (A.deeper (envOfC qual (Zj st) s.heap.objs.size f e_))->E5 (Uc CX0 P w K mg base N qual (Zj st) f e_ A outer s H E).nox (Y6 st) (d.body (Jo pr n))):
  Ww P w K mg base CX0 (n+1) f fd ps (spW K pr (n+1) i):=by
 refine F.ok S (λvs H Q E h=>?_) (λe_ A outer s H vs Q E j h=>?_)
 ·obtain⟨g,C,c,Q',χ,R,rs,⟨d',a,e,_⟩,_⟩:=h;rw[hd] at a;cases a;rw[rs.length,e,b]
 ·obtain⟨g,C,c,Q',χ,R,rs,⟨d',a,e,h⟩,q⟩:=h;rw[hd] at a;cases a;obtain⟨t,p,l⟩:=hb e_ A outer s H E j;refine⟨t,p,l g H C _ _ _ _ R (Xd.start rs N _ (by rw[rs.length,e,hn])) h ⟨λσ τ H' C' R' t' _ h'=>q .non .non H' C' R' t' T4 h',q,λ_ _ _ _ _ _ _ z=>z.elim,λ_ _ _ _ _ _ _ z=>z.elim⟩⟩
structure Kl (K:W.Frag)(mg:Str->Option Value)(cn:Str)(Cl:Addr):Prop where
 at_:M3 K cn Cl
 mg:mg cn=some (.ref Cl)
 cls:z9 K Cl
def Wo {K:WY}{f:Str}:∀cn∈([]:List Str),KF K f cn:=λ_ h=>by cases h
def Xb {K:WY}{f cn:Str}{cs:List Str}(a:KF K f cn)(r:∀c∈cs,KF K f c):∀c∈cn::cs,KF K f c:=λc h=>by
 rcases BB.mp h with rfl | h
 ·exact a
 ·exact r c h
def tP {X:Cx}{body:List WV}:E5 X body vH:=⟨λ_ _ _=>False,λ_ _ _ _ _ _ h=>h.elim,λ_ _ _ _ _ _ _ _ _ h _=>h.elim⟩
def bW (C:Hw):Nat->T->T->Bool->Prop
 | 0,v,w,b=>Xp v 0=true/\Xp w 0=true/\b=Xe v w
 | n+1,v,w,b=>(Xp v n=true/\Xp w n=true/\b=Xe v w)\/
   (∃(xs ys:List T) (e:Nat->Bool),v=.tup xs/\w=.tup ys/\(∀j x y,xs[j]?=some x->ys[j]?=some y->bW C n x y (e j))/\b=((List.range (min xs.length ys.length)).all e&&xs.length==ys.length))\/
   (∃(a c:WP) (xs ys:List T) (e:Nat->Bool),v=.ref a/\w=.ref c/\C a=some (.lst xs)/\C c=some (.lst ys)/\(xs.length=ys.length->∀j x y,xs[j]?=some x->ys[j]?=some y->bW C n x y (e j))/\
    b=(if xs.length=ys.length then(List.range xs.length).all e else false))
structure Zas (K:W.Frag)(x qual:Str)(st:Stmt)(f:Addr)(fd:FuncData):Prop where
 ex:∃(oc:WQ) (od:Option WP) (dV kV doc pm:WQ) (an:Option WP) (e_ ct:WQ) (osl:Array (Option WQ)),
  fd=W.fnOf x qual (Qg st) (Y6 st) (Zj st) dV kV doc pm an e_ ct/\K.lookup f=some ⟨oc,od,.func fd,osl⟩/\W.codeIn K e_ qual=true
 kp:W.keepIn K (.ref f)=true
def Zbd (P:WO)(w:WN)(K:WY)(mg:Str->Option WQ)(base:WU)(n:Nat)(x:Str)(ps:List Str)(ds:List Int)(sp:L2.Sp):Prop:=
 ∃f fd,Ww P w K mg base CX0 n f fd ps sp/\(∃us:List WQ,Z5 (ds.map V.int) us/\∀j,j<=ds.length->Xv K fd ps (us.drop j))/\W.keepIn K (.ref f)=true/\mg x=some (.ref f)
def Zad (ws:List T)(a:WA):WA:=λτ C Q χ=>a τ C (λvs C1=>Q (vs++ws) C1) χ
end WL
namespace PySem
open PySem.Sem (wp)
namespace F
def lz_entry_ga:entryFor table "zip.__getattribute__"=some Builtin.«object.__getattribute__»:=
 entryFor_alias (id':="object.__getattribute__") (by kernel_rfl) (by first | rfl | decide+kernel) (by decide+kernel) (by kernel_rfl)
def lz_getattr_none:typeLookup (.type "zip") "__getattr__"=pure none:=by rw[typeLookup_type,builtinLookup_eq_fast];kernel_rfl
def lz_keys_none:typeLookup (.type "zip") "keys"=pure none:=by rw[typeLookup_type,builtinLookup_eq_fast];kernel_rfl
end F
section
variable {z:WP}
def uD (fs:Array WQ)(u:Tok):
  Meets (Builtin.«object.__getattribute__» ⟨[.ref z,.str "keys" u],[]⟩) (λA R s=>s.heap.get? z=some {cls:=.type "zip",dict:=none,data:=.fields fs,slots:=#[]}/\raisesAttr (.ref z) "keys" A R s):=
 Meets.of_wp λprog w A R s hs=>by
  obtain⟨a,hs⟩:=hs;obtain⟨b,g,d,tk,os⟩:=s;have c:(⟨b,g,d,tk,os⟩:WR).TypeIs (.ref z) "zip":=⟨_,a,FQ⟩;have f1:=F.lz_keys_none;unfold Builtin.«object.__getattribute__»
  repeat (any_goals (first | assumption | wp_step))
  exact wpAny_raiseAttrError hs.1 hs.2 (attrMsg_fits (by decide+kernel) (by decide+kernel))
def qL {prog:WO}{w:WN}{A:WM}{E:WQ->WR->Prop}{s:WR}{fs:Array WQ}{Q:Option WQ->WR->Prop}(a:s.heap.get? z=some {cls:=.type "zip",dict:=none,data:=.fields fs,slots:=#[]})(f:A.handled=none)
  (h:∀h' tk,(∀b ob,s.heap.get? b=some ob->h'.get? b=some ob)->Q none {s with heap:=h',toks:=tk}):wpAny (model prog w) A (getAttr? (.ref z) "keys") Q E s:=by
 obtain⟨i,g,d,tk,os⟩:=s;have j:(⟨i,g,d,tk,os⟩:WR).TypeIs (.ref z) "zip":=⟨_,a,FQ⟩;have f1:=sub_AttributeError;have l:=F.slot_zip_getattribute.lookup;have m:=F.slot_zip_getattribute.bind (.ref z);have n:=F.lz_getattr_none;unfold getAttr? getAttrBy? getAttrBy
 repeat (any_goals (first | assumption | ((with_reducible show wpAny _ _ (call (Value.builtin "zip.__getattribute__") _ _) _ _ _);refine call_meets F.slot_zip_getattribute ⟨_,a,FQ⟩ F.lz_entry_ga (F.args_zip_getattribute_2 _ _) (uD fs _) ⟨a,f,λh' c e hx=>?_⟩) | wp_step))
 obtain⟨t',u',o⟩:=hx.there;show wpAny _ _ (getattributeRaised _ _ _ _ _ _ _) _ _ _;unfold getattributeRaised
 repeat (any_goals (first | assumption | wp_step))
 exact h h' c λb ob q=>hx.keeps b ob q
end
end PySem
namespace L2
abbrev Nm (h:WU)(z TI TO T:WP)(b:Bool):Prop:=
 h.get? z=some {cls:=.type "zip",dict:=none,data:=.fields #[rawInt T,.bool b,.bool false,.ref TI,.ref TO],slots:=#[]}
section
variable {prog:WO}{w:WN}{A:WM}{E:WQ->WR->Prop}{s:WR}{z TI TO i1 i2:WP}{f1 f2:List WP}{n:Nat}{P1 P2:Nat->WQ->Prop}{S1 S2:Nat->WU->Prop}
def jY {M:Model}{a:WP}{Q:Option Obj->WR->Prop}(h:Q (s.heap.get? a) s):wpAny M A (loadIfAlive a) Q E s:=λc p b=>by
 unfold loadIfAlive;rw[Sem.wp_loadIfAlive];exact(XB (M:=M) (A:=A) (E:=E) h) c p b
def yP {T:WP}{b:Bool}{Q:Bool->WR->Prop}(hz:Nm s.heap z TI TO T b)(e:∃o,s.heap.get? T=some o)(d:∀h2,Nm h2 z TI TO T true->Heap.SameBut z s.heap h2->Q false {s with heap:=h2}):
  wpAny (model prog w) A (Builtin.SmallTypes.ownedTupleIsFree (.ref z)) Q E s:=by
 obtain⟨f,a⟩:=e;unfold Builtin.SmallTypes.ownedTupleIsFree;refine XA (wpAny_field hz FQ (x:=rawInt T) FQ ?_);show wpAny _ _ (loadIfAlive (T:Int).toNat>>=_) _ _ s;refine XA (jY ?_);rw[Int.toNat_natCast,a];simp only[Option.isNone_some,Bool.false_eq_true,if_false];refine XA (wpAny_field hz FQ (x:=.bool b) FQ ?_)
 cases b with
 | false=>
  rw[XY (by decide)];refine wpAny_bind (wpAny_setField_rec hz (by simp) λha c sa=>?_);exact XB (d ha c sa)
 | true=>
  rw[XX (by decide)];exact XB (d s.heap hz (Heap.SameBut.refl _ _))
def rh {i:Nat}{T:WP}{b:Bool}{u v:WQ}{Q:WQ->WR->Prop}(d:Draws prog w A i1 f1 n P1 S1)(f:Draws prog w A i2 f2 n P2 S2)(Z:wz z TI TO i1 i2 f1 f2)(hi:i<n)
  (hz:Nm s.heap z TI TO T b) (t:∃o,s.heap.get? T=some o) (h:IsPair s.heap TI (.ref i1) (.ref i2)) (s1:S1 i s.heap) (s2:S2 i s.heap)
  (B:∀x y h2 t2 b,P1 i x->P2 i y->Nm h2 z TI TO T b->S1 (i+1) h2->S2 (i+1) h2->IsPair h2 s.heap.objs.size x y->
   (∀c o,c≠z->c≠i1->c≠i2->s.heap.get? c=some o->h2.get? c=some o)->Q (.ref s.heap.objs.size) {s with heap:=h2,toks:=t2}):
  wpAny (model prog w) A (Builtin.«zip.__next__» ⟨[.ref z],[]⟩) (λfin s2=>∃r,fin=.done (.ret r)/\Q r s2) E s:=by
 show wpAny _ _ (field (.ref z) 2>>=_) _ E s;refine XA (wpAny_field hz FQ (x:=.bool false) FQ ?_);show wpAny _ _ (field (.ref z) 3>>=_) _ E s;refine XA (wpAny_field hz FQ (x:=.ref TI) FQ ?_);refine XA (wpAny_seqItems h FQ ?_);show wpAny _ _ (Builtin.SmallTypes.ownedTupleIsFree (.ref z)>>=_) _ E s;refine XA (yP hz t λha j sa=>?_);simp only[Bool.false_eq_true,if_false];have ne:∀{b c:WP} {l:List WP},b∈l->c∉l->b≠c:=λhb hc e=>hc (e▸hb);have C:S1 i ha:=d.frame i _ _ s1 λb hb o e=>sa.extBut _ _ (ne hb Z.z1) e;have D:S2 i ha:=f.frame i _ _ s2 λb hb o e=>sa.extBut _ _ (ne hb Z.z2) e;have m:z≠i1:=λe=>Z.z1 (e▸Z.m1);have p:z≠i2:=λe=>Z.z2 (e▸Z.m2);rw[<-Array.forIn_toList];simp only[List.forIn_cons,List.forIn_nil];refine XA (XA (XA (wpAny_holding ?_)));show wpAny _ _ (Builtin.SmallTypes.nextOf (.ref i1)>>=_) _ _ _;refine XA (d.item i {s with heap:=ha} _ _ hi C λx hb tb hx b1 sb=>XB ?_);have b2:S2 i hb:=f.frame i _ _ D λb hm o e=>sb.extBut _ _ (ne hm Z.a12) e;refine XB ?_;refine XA (XA (wpAny_holding ?_));show wpAny _ _ (Builtin.SmallTypes.nextOf (.ref i2)>>=_) _ _ _;refine XA (f.item i {s with heap:=hb,toks:=tb} _ _ hi b2 λy hd td hy G g=>XB ?_);have H:S1 (i+1) hd:=d.frame _ _ _ b1 λb hm o e=>g.extBut _ _ (ne hm Z.a21) e;refine XB ?_;refine XB ?_;refine XA (wpAny_newTuple ?_ (show(2:Nat)<=sizeLine by decide));have hsz:hd.objs.size=s.heap.objs.size:=by rw[g.1,sb.1,sa.1]
 have q:Nm hd z TI TO T true:=g.extBut _ _ p (sb.extBut _ _ m j);have up:∀c o,hd.get? c=some o->(hd.push {cls:=.type "tuple",data:=.seq #[x,y]}).get? c=some o:=λc o e=>XC _ e;refine XB ⟨_,FQ,?_⟩;show Q (.ref hd.objs.size) _;have a:IsPair (hd.push {cls:=.type "tuple",data:=.seq #[x,y]}) hd.objs.size x y:=XF _ FQ;rw[hsz] at a |-;exact B x y _ td true hx hy (up _ _ q) (d.frame _ _ _ H λb hm o e=>up _ o e) (f.frame _ _ _ G λb hm o e=>up _ o e) a λc o I L N e=>up c o (g.extBut _ _ N (sb.extBut _ _ L (sa.extBut _ _ I e)))
def nu {T:WP}{b:Bool}{Q:Fin->WR->Prop}(d:Draws prog w A i1 f1 n P1 S1)(Z:wz z TI TO i1 i2 f1 f2)
  (hz:Nm s.heap z TI TO T b) (f:∃o,s.heap.get? T=some o) (a:IsPair s.heap TI (.ref i1) (.ref i2)) (s1:S1 n s.heap)
  (g:∀h2 ex,(∀c o,c≠z->c≠i1->c≠i2->s.heap.get? c=some o->h2.get? c=some o)->(∃o,h2.get? ex=some o/\o.cls=.type "StopIteration")->E (.ref ex) {s with heap:=h2}):
  wpAny (model prog w) A (Builtin.«zip.__next__» ⟨[.ref z],[]⟩) Q E s:=by
 show wpAny _ _ (field (.ref z) 2>>=_) _ E s;refine XA (wpAny_field hz FQ (x:=.bool false) FQ ?_);show wpAny _ _ (field (.ref z) 3>>=_) _ E s;refine XA (wpAny_field hz FQ (x:=.ref TI) FQ ?_);refine XA (wpAny_seqItems a FQ ?_);show wpAny _ _ (Builtin.SmallTypes.ownedTupleIsFree (.ref z)>>=_) _ E s;refine XA (yP hz f λha h sa=>?_);simp only[Bool.false_eq_true,if_false];have ne:∀{b c:WP} {l:List WP},b∈l->c∉l->b≠c:=λhb hc e=>hc (e▸hb);have i:S1 n ha:=d.frame n _ _ s1 λb hb o e=>sa.extBut _ _ (ne hb Z.z1) e;rw[<-Array.forIn_toList];simp only[List.forIn_cons,List.forIn_nil];refine XA (XA (XA (wpAny_holding ?_)));show wpAny _ _ (Builtin.SmallTypes.nextOf (.ref i1)>>=_) _ _ _;refine XA (d.done {s with heap:=ha} _ _ i λhb ex sb j=>?_);exact g hb ex (λc o m p q e=>sb _ _ p (sa.extBut _ _ m e)) j
end
end L2
namespace PySem.F
def lz_entry_loop:entryFor table "dict.update.loop"=some Builtin.«dict.update.loop»:=entryFor_of_tree (by kernel_rfl)
end PySem.F
namespace L2
structure ZS (z TI TO i1 i2 l1 l2:Addr)(xs ys:Array Value)(i:Nat)(h:Heap):Prop where
 zip:IsZip h z TI TO .none\/∃T b,Nm h z TI TO T b/\(∃o,h.get? T=some o)/\T≠z/\T≠TO/\T≠i1/\T≠i2
 its:IsPair h TI (.ref i1) (.ref i2)
 own:∃a b,IsPair h TO a b
 s1:h.IsTupleIter i1 l1 i/\h.IsTuple l1 xs
 s2:h.IsTupleIter i2 l2 i/\h.IsTuple l2 ys
def ZS.frame {z TI TO i1 i2 l1 l2:WP}{xs ys:Array WQ}{i:Nat}{h h':WU}(Z:ZS z TI TO i1 i2 l1 l2 xs ys i h)(k:∀b∈[z,TI,TO,i1,i2,l1,l2],∀o,h.get? b=some o->h'.get? b=some o)(al:∀b,(∃o,h.get? b=some o)->∃o,h'.get? b=some o):ZS z TI TO i1 i2 l1 l2 xs ys i h':=by
 obtain⟨a,b,⟨u,v,c⟩,d,e⟩:=Z;refine⟨?_,k _ (by simp) _ b,⟨u,v,k _ (by simp) _ c⟩,⟨d.1.at λo q=>k _ (by simp) o q,d.2.at λo q=>k _ (by simp) o q⟩,⟨e.1.at λo q=>k _ (by simp) o q,e.2.at λo q=>k _ (by simp) o q⟩⟩
 rcases a with a | ⟨T,b,a,f,r⟩
 ·exact .inl (k _ (by simp) _ a)
 ·exact .inr ⟨T,b,k _ (by simp) _ a,al _ f,r⟩
section
variable {prog:WO}{w:WN}{A:WM}{E:WQ->WR->Prop}{s:WR}{z TI TO i1 i2 l1 l2:WP}{xs ys:Array WQ}
def yM {i:Nat}{Q:Option WQ->WR->Prop}(G:A.handled=none)(Z:wz z TI TO i1 i2 [i1,l1] [i2,l2])(h1:l1≠i1)(h2:l2≠i2)(hn:xs.size=ys.size)(hi:i<xs.size)(st:ZS z TI TO i1 i2 l1 l2 xs ys i s.heap)
  (H:∀T x y h' tk,xs[i]?=some x->ys[i]?=some y->s.heap.objs.size<=T->IsPair h' T x y->ZS z TI TO i1 i2 l1 l2 xs ys (i+1) h'->(∀b o,b∉[z,TO,i1,i2]->s.heap.get? b=some o->h'.get? b=some o)->Q (some (.ref T)) {s with heap:=h',toks:=tk}):
  wpAny (model prog w) A (pyNext (.ref z)) Q E s:=by
 have m:=Of (prog:=prog) (w:=w) (A:=A.in1) G i1 l1 h1 xs;have j:=Of (prog:=prog) (w:=w) (A:=A.in1) G i2 l2 h2 ys;rw[<-hn] at j;obtain⟨a,b,⟨u,v,c⟩,d,e⟩:=st;have al:∀{h h':WU},True:=λ{_ _}=>trivial;have lt:∀{c o},s.heap.get? c=some o->s.heap.objs.size≠c:=λe=>CU (XD e);obtain⟨o1,n⟩:=m.live _ _ d;obtain⟨o2,p⟩:=j.live _ _ e
 rcases a with a | ⟨T,bb,a,I,t1,t2,L,N⟩
 ·have f:s.TypeIs (.ref z) "zip":=⟨_,a,FQ⟩;unfold pyNext;refine XA (wpAny_attempt (wpAny_callSpecial?_slot (name:=Str.ofString "__next__") f BQ (wpAny_call_entry BQ f CY
   (yN m j Z hi a b c d e λx y h2 t2 hx hy z1 z2 r t l g=>XB ?_) (CQ _))))
  refine H _ x y h2 t2 hx hy (XE _) l ⟨.inr ⟨_,false,z1,⟨_,l⟩,lt a,lt c,lt n,lt p⟩,g _ _ Z.tz Z.io Z.t1 Z.t2 b,⟨_,_,z2⟩,r,t⟩ λc o hc q=>?_;simp only[List.mem_cons,List.not_mem_nil,or_false,not_or] at hc;exact g c o hc.1 hc.2.1 hc.2.2.1 hc.2.2.2 q
 ·have f:s.TypeIs (.ref z) "zip":=⟨_,a,FQ⟩;unfold pyNext;refine XA (wpAny_attempt (wpAny_callSpecial?_slot (name:=Str.ofString "__next__") f BQ (wpAny_call_entry BQ f CY
   (rh (u:=u) (v:=v) m j Z hi a I b d e λx y h2 tk b2 hx hy z1 r t l g=>XB ?_) (CQ _))))
  obtain⟨U,B⟩:=I;have C:TO≠i1:=λe=>Z.o1 (e▸Z.m1);have D:TO≠i2:=λe=>Z.o2 (e▸Z.m2);refine H _ x y h2 tk hx hy (XE _) l ⟨.inr ⟨T,b2,z1,⟨U,g _ _ t1 L N B⟩,t1,t2,L,N⟩,g _ _ Z.tz Z.t1 Z.t2 b,⟨_,_,g _ _ Z.oz C D c⟩,r,t⟩ λc o hc q=>?_;simp only[List.mem_cons,List.not_mem_nil,or_false,not_or] at hc;exact g c o hc.1 hc.2.2.1 hc.2.2.2 q
def wT {Q:Option WQ->WR->Prop}(l:A.handled=none)(Z:wz z TI TO i1 i2 [i1,l1] [i2,l2])(h1:l1≠i1)(st:ZS z TI TO i1 i2 l1 l2 xs ys xs.size s.heap)
  (i:∀h' tk,(∀b o,b∉[z,TO,i1,i2]->s.heap.get? b=some o->h'.get? b=some o)->Q none {s with heap:=h',toks:=tk}):
  wpAny (model prog w) A (pyNext (.ref z)) Q E s:=by
 have j:=Of (prog:=prog) (w:=w) (A:=A.in1) l i1 l1 h1 xs;obtain⟨a,b,⟨u,v,c⟩,d,e⟩:=st
 rcases a with a | ⟨T,bb,a,m,t1,t2,n,p⟩
 ·have f:s.TypeIs (.ref z) "zip":=⟨_,a,FQ⟩;unfold pyNext;refine XA (wpAny_attempt (wpAny_callSpecial?_slot (name:=Str.ofString "__next__") f BQ (wpAny_call_entry BQ f CY (wU j Z a b c d λh2 ex hk g=>?_) (CQ _))));obtain⟨o,h,hc⟩:=g;refine XA (wpAny_isInstance (T:="StopIteration") (b:=true) ⟨o,h,hc⟩ isSubtype_stop ?_);refine XB (i h2 s.toks λc o hc q=>?_);simp only[List.mem_cons,List.not_mem_nil,or_false,not_or] at hc;exact hk c o hc.1 hc.2.1 hc.2.2.1 hc.2.2.2 q
 ·have f:s.TypeIs (.ref z) "zip":=⟨_,a,FQ⟩;unfold pyNext;refine XA (wpAny_attempt (wpAny_callSpecial?_slot (name:=Str.ofString "__next__") f BQ (wpAny_call_entry BQ f CY (nu j Z a m b d λh2 ex hk g=>?_) (CQ _))));obtain⟨o,h,hc⟩:=g;refine XA (wpAny_isInstance (T:="StopIteration") (b:=true) ⟨o,h,hc⟩ isSubtype_stop ?_);refine XB (i h2 s.toks λc o hc q=>?_);simp only[List.mem_cons,List.not_mem_nil,or_false,not_or] at hc;exact hk c o hc.1 hc.2.2.1 hc.2.2.2 q
def pc {knd:KeyKind prog w Z8}{d:WP}(t:A.handled=none)(Z:wz z TI TO i1 i2 [i1,l1] [i2,l2])(h1:l1≠i1)(h2:l2≠i2)(hn:xs.size=ys.size)(hd:d∉[z,TI,TO,i1,i2,l1,l2])(kk:Nat->Z8)(hk:∀i x,xs[i]?=some x->knd.is (kk i) x=true)(hsz:xs.size<=1000)
  {R:Result->WR->Prop} (h₀:WU) (c:∀b o,h₀.get? b=some o->b≠d/\b∉[z,TO,i1,i2])
  (v:∀h' tk vs,(∀b o,h₀.get? b=some o->h'.get? b=some o)->h'.DictOf knd d vs->vs=((List.range xs.size).foldl (λa j=>stored a (kk j) ((ys[j]?).getD .none)) [])->R (.ok (.ret .none)) {s with heap:=h',toks:=tk}):
  ∀(m i:Nat) (h:WU) (tk:Nat) (vs:List (Z8×WQ)),xs.size-i=m->i<=xs.size->ZS z TI TO i1 i2 l1 l2 xs ys i h->(∀b o,h₀.get? b=some o->h.get? b=some o)->h.DictOf knd d vs->vs.length<=i->vs=((List.range i).foldl (λa j=>stored a (kk j) ((ys[j]?).getD .none)) [])-> 
   codeAny (model prog w) A (.builtin "dict.update.loop" ⟨[.ref d,.ref z,rawInt i,.none],[]⟩) R {s with heap:=h,toks:=tk}:=by
 intro m
 induction m with
 | zero=>
  intro i h tk vs hm hi st keep dd B hv;have l:i=xs.size:=by omega
  subst l;refine codeAny_builtin PySem.F.lz_entry_loop ?_;show wpAny _ _ (pyNext (.ref z)>>=_) _ _ _;refine XA (wT (A:=A.under _) t Z h1 st λh' f kp=>?_);show wpAny _ _ (Builtin.Dict.addKeywords d []>>=_) _ _ _;refine XA (XB (XB ?_));refine v h' f vs (λb o q=>kp b o (c b o q).2 (keep b o q)) (dd.at λo q=>kp _ o ?_ q) hv;intro hm;exact hd (by simp only[ZM,ZN,or_false] at hm |-;rcases hm with h | h | h | h<;>simp[h])
 | succ m C=>
  intro i h tk vs hm hi st keep dd B hv;refine codeAny_builtin PySem.F.lz_entry_loop ?_;show wpAny _ _ (pyNext (.ref z)>>=_) _ _ _;have n:d∉[z,TO,i1,i2]:=λhm=>hd (by simp only[ZM,ZN,or_false] at hm |-;rcases hm with h | h | h | h<;>simp[h]);refine XA (yM (A:=A.under _) t Z h1 h2 hn (by omega) st λT x y h' f hx hy E u p kp=>?_);have r:h'.DictOf knd d vs:=dd.at λo q=>kp _ o n q;show wpAny _ _ (holding [.ref T] _>>=_) _ _ _;refine XA (wpAny_holding ?_);refine XA (wpAny_tryCatch ?_);unfold Builtin.Dict.pairItems;refine XA (wpAny_typeOf (T:="tuple") ⟨_,u,FQ⟩ ?_);rw[XY (by decide)];refine XA (wpAny_seqItems u FQ (XB ?_));show wpAny _ _ (holding [x,y] (dictSet d x y)) _ _ _;refine wpAny_holding ?_;unfold dictSet;refine wpAny_holding (XA (knd.pyHash (hk i x hx) ?_));refine wpAny_dictSetHashed_pairs (hk i x hx) r (λh2 g sb=>?_) (XN (show vs.length<=1000 by omega) (by decide));refine XB ⟨Code.quiet_builtin _ (by decide+kernel),?_⟩;have nd:∀b∈[z,TI,TO,i1,i2,l1,l2],b≠d:=λb hb e=>hd (e▸hb);have l:(rawInt ((i:Int)+1))=rawInt ((i+1:Nat):Int):=by congr 1
  rw[l];refine C (i+1) h2 _ (stored vs (kk i) y) (by omega) (by omega) (p.frame (λb hb o q=>sb.extBut _ _ (nd b hb) q) λb hb=>?_) (λb o q=>sb.extBut _ _ (c b o q).1 (kp b o (c b o q).2 (keep b o q))) g ?_ ?_
  ·obtain⟨o,q⟩:=hb;by_cases e:b=d
   ·subst e;obtain⟨o',_,_,D,_⟩:=g;exact⟨o',D⟩
   ·exact⟨o,sb.extBut _ _ e q⟩
  ·unfold stored
   split
   ·rw[XI];omega
   ·rw[AY,BC];omega
  ·rw[FN,DL,<-hv];simp[hy]
def Bl {knd:KeyKind prog w Z8}{Q:WQ->WR->Prop}(B:A.handled=none)(Z:wz z TI TO i1 i2 [i1,l1] [i2,l2])(h1:l1≠i1)(h2:l2≠i2)(hn:xs.size=ys.size)(kk:Nat->Z8)(hk:∀i x,xs[i]?=some x->knd.is (kk i) x=true)(hsz:xs.size<=1000)
  (h₀:WU) (n:∀b o,h₀.get? b=some o->b∉[z,TO,i1,i2]) (keep:∀b o,h₀.get? b=some o->s.heap.get? b=some o) (m:IsZip s.heap z TI TO .none) (st:ZS z TI TO i1 i2 l1 l2 xs ys 0 s.heap)
  (C:∀h' tk,(∀b o,h₀.get? b=some o->h'.get? b=some o)->h'.DictOf knd s.heap.objs.size ((List.range xs.size).foldl (λa j=>stored a (kk j) ((ys[j]?).getD .none)) [])->Q (.ref s.heap.objs.size) {s with heap:=h',toks:=tk}):
  wpAny (model prog w) A (call (.type "dict") [.ref z]) Q E s:=by
 refine callType_codes (Q₁:=λobj h=>obj=.ref s.heap.objs.size/\h={s with heap:=s.heap.push {cls:=.type "dict",data:=.dict #[]}}) PySem.F.kt_called_dict (PySem.F.kt_typeCall_dict_1 _) PySem.F.entry_dict_init (kt_code_dict_new _ ⟨FQ,FQ⟩) ?_;rintro obj h ⟨rfl,rfl⟩;have f:(s.heap.push {cls:=.type "dict",data:=.dict #[]}).DictOf knd s.heap.objs.size []:=Heap.DictOf.new s.heap;have g:∀b o,s.heap.get? b=some o->(s.heap.push {cls:=.type "dict",data:=.dict #[]}).get? b=some o:=λb o q=>XC _ q;have p:ZS z TI TO i1 i2 l1 l2 xs ys 0 (s.heap.push {cls:=.type "dict",data:=.dict #[]}):=st.frame (λb _ o q=>g b o q) λb ⟨o,q⟩=>⟨o,g b o q⟩;refine⟨f.typeIs,PySem.F.args_dict_init_2 _ _,?_⟩;unfold Builtin.«dict.__init__»;refine XA ?_;unfold Builtin.Dict.selfAndRest;refine XA (wpAny_notOrdered_dict f.typeIs ?_);show wpAny _ _ (pure (s.heap.objs.size,[Value.ref z])) _ _ _;refine XB ?_;show wpAny _ _ (Builtin.Dict.updateFrom "dict.__init__" s.heap.objs.size (.ref z) [] .none) _ _ _;have hz:=g _ _ m;unfold Builtin.Dict.updateFrom;refine XA (wpAny_typeOf (T:="zip") ⟨_,hz,FQ⟩ ?_);rw[XY (by decide)];refine XA (qL hz B λh' r kp=>?_);rw[XY (by decide)];have t:ZS z TI TO i1 i2 l1 l2 xs ys 0 h':=p.frame (λb _ o q=>kp b o q) λb ⟨o,q⟩=>⟨o,kp b o q⟩;refine XA (wpAny_rule ?_);refine XA (wpAny_pyIter_zip (kp _ _ hz) ?_);refine XB ⟨Code.quiet_builtin _ (by decide+kernel),?_⟩;have l:∀b o,s.heap.get? b=some o->b≠s.heap.objs.size:=λb o q=>XH (XD q);have hd:s.heap.objs.size∉[z,TI,TO,i1,i2,l1,l2]:=by
  obtain⟨_,b,⟨u,v,c⟩,d,e⟩:=st;obtain⟨o1,D,_⟩:=d.1;obtain⟨o2,G,_⟩:=e.1;obtain⟨o3,e3,_⟩:=d.2;obtain⟨N,H,_⟩:=e.2;simp only[List.mem_cons,List.not_mem_nil,or_false,not_or];exact⟨(l _ _ m).symm,(l _ _ b).symm,(l _ _ c).symm,(l _ _ D).symm,(l _ _ G).symm,(l _ _ e3).symm,(l _ _ H).symm⟩
 refine pc (A:=A.in1) (s:=s) (knd:=knd) B Z h1 h2 hn hd kk hk hsz h₀ (λb o q=>⟨l b o (keep b o q),n b o q⟩) (λI y vs k3 L hv=>?_) xs.size 0 h' r [] FQ (XO _) t (λb o q=>kp b o (g b o (keep b o q))) (f.at λo q=>kp _ o q) (XE _) FQ;subst hv;exact⟨FQ,C I y k3 L⟩
end
def Em {α:Type}(put:List (Z8×α)->Z8->α->List (Z8×α))(ks:List Z8)(ys:List α):List (Z8×α):=(ks.zip ys).foldl (λa kv=>put a kv.1 kv.2) []
def kh {α:Type}{put:List (Z8×α)->Z8->α->List (Z8×α)}(d:∀a k v,(put a k v).length<=a.length+1)(ks:List Z8)(ys:List α):(Em put ks ys).length<=ks.length:=by
 have c:∀(l:List (Z8×α)) (b:List (Z8×α)),(l.foldl (λa kv=>put a kv.1 kv.2) b).length<=b.length+l.length:=by
  intro l
  induction l with
  | nil=>intro b;simp
  | cons x l e=>intro b;have h1:=e (put b x.1 x.2);have h2:=d b x.1 x.2;rw[EX,YF];omega
 have h:=c (ks.zip ys) [];rw[CM] at h;unfold Em;simp only[List.length_nil] at h;omega
def av (K:WY)(ta:TA):TE:=λσ H Q=>ta σ H λvs H1=>∃(l1 l2:WP) (ks:List Z8) (ys:List V),vs=[.ref l1,.ref l2]/\Tw K H1 l1 (ks.map kV)/\Tw K H1 l2 ys/\ks.length=ys.length/\ks.length<=1000/\
 ∀p,H1 p=none->Q (.ref p) (Yq H1 p (.dK (Em Vp ks ys)))
def fB {ks:List Z8}{ys:List V}{us:List WQ}(l:ks.length=ys.length)(d:Z5 ys us):KV (Em Vp ks ys) ((List.range ks.length).foldl (λa j=>stored a ((ks[j]?).getD (.inl 0)) ((us.toArray[j]?).getD .none)) []):=by
 have b:∀i,i<=ks.length->KV (((ks.zip ys).take i).foldl (λa kv=>Vp a kv.1 kv.2) []) ((List.range i).foldl (λa j=>stored a ((ks[j]?).getD (.inl 0)) ((us.toArray[j]?).getD .none)) []):=by
  intro i
  induction i with
  | zero=>intro _;exact .nil
  | succ i e=>
   intro hi;have hk:ks[i]?=some ks[i]:=by simp[show i<ks.length by omega]
   have hy:ys[i]?=some (ys[i]'(by omega)):=by simp[show i<ys.length by omega]
   obtain⟨u,f,g⟩:=d.get hy;have hz:(ks.zip ys)[i]?=some (ks[i],ys[i]'(by omega)):=by rw[BL];exact⟨hk,hy⟩
   have c:us.toArray[i]?=some u:=by simpa using f
   rw[FN,DL,YD,hz,Option.toList_some,DL];simp only[List.foldl_cons,List.foldl_nil,hk,c,Option.getD_some];exact(e (by omega)).put _ g
 have h:=b ks.length (XE _);rw[List.take_of_length_le (by rw[CM];omega)] at h;exact h
section
variable {X:Cx}
def zX {a c:WW}{ta:TA}{p pos p2 on:Pos}(hc:X.calm=true)(hg:Gl X "dict")(hm:X.mg "dict"=none)(C:Gl X "zip")(D:X.mg "zip"=none)(ha:PA X [a,c] ta)(hs:starEach [a,c] X.env=(false,eval a X.env)::starEach [c] X.env:=by rfl)(hp:(backTo on (starEach [c] X.env)).any (·.1)=false:=by rfl)
  (r:starEach [.Call (.Name "zip" p2) [a,c] [] on] X.env=[(false,eval (.Call (.Name "zip" p2) [a,c] [] on) X.env)]:=by rfl) (hb:bootBuiltins "zip"=some (.type "zip"):=by decide+kernel) (E:bootBuiltins "dict"=some (.type "dict"):=by decide+kernel):
  PE X (.Call (.Name "dict" p) [.Call (.Name "zip" p2) [a,c] [] on] [] pos) (av X.K ta):=by
 intro WZ s σ H Q I h;refine Call_ (Tj I hg hm E (BF ?_ r FQ));rw[r];show wpAny _ _ (spliced ((false,eval (.Call (.Name "zip" p2) [a,c] [] on) X.env)::backTo pos [])) _ _ s;refine CD (Call_ (Tj I C D hb (BF (Y3 (ha on WZ s σ H _ I h) λus s1 ⟨vs,H1,t,r1,q1⟩=>?_) hs hp)));obtain⟨l1,l2,ks,ys,rfl,G,L,y,hsz,q⟩:=q1;obtain⟨u,v,rfl,U,rv⟩:=r1.two
 cases U
 cases rv
 obtain⟨d,z,Y,_⟩:=t.tuple G;obtain⟨f,A,g,_⟩:=t.tuple L;have l:l1<s1.heap.objs.size:=by obtain⟨_,e,_⟩:=Y;exact XD e
 have m:l2<s1.heap.objs.size:=by obtain⟨_,e,_⟩:=g;exact XD e
 have n1:d.toArray.size=ks.length:=by rw[XJ,<-z.length,XI]
 have n2:f.toArray.size=ys.length:=by rw[XJ,<-A.length]
 refine Nk false false Y g λh2 N=>?_;refine DK ?_;generalize hk:s1.heap.objs.size=k at N l m;have Z:=Kp l m;have st:ZS (k+4) (k+2) (k+3) k (k+1) l1 l2 d.toArray f.toArray 0 h2:=by
  refine⟨.inl (hk▸N.zip),hk▸N.its,⟨_,_,hk▸N.own⟩,⟨⟨_,hk▸N.i1,FQ,FQ⟩,Heap.IsTuple.at (show s1.heap.IsTuple l1 d.toArray from Y) λo q=>N.keep _ o q⟩,⟨⟨_,hk▸N.i2,FQ,FQ⟩,Heap.IsTuple.at (show s1.heap.IsTuple l2 f.toArray from g) λo q=>N.keep _ o q⟩⟩
 have A_:∀i x,d.toArray[i]?=some x->(Yv X.prog X.w).is ((ks[i]?).getD (.inl 0)) x=true:=λi x hx=>by
  have hi:i<ks.length:=by
   have:=(Array.getElem?_eq_some_iff.mp hx).1;omega
  have B:ks[i]?=some ks[i]:=by simp[hi]
  have B_:(ks.map kV)[i]?=some (kV ks[i]):=by rw[XM,B];rfl
  obtain⟨u,hu,U⟩:=z.get B_;have:u=x:=by
   have e:d[i]?=some x:=by simpa using hx
   rw[hu] at e;exact YH e
  subst this;rw[B];exact Hj U
 have C_:∀b o,s1.heap.get? b=some o->b∉[k+4,k+3,k,k+1]:=λb o q hb=>by
  have:b<k:=hk▸XD q;simp only[ZM,ZN,or_false] at hb
  rcases hb with e | e | e | e
  ·rw[e] at this;exact DA (BG k 4) this
  ·rw[e] at this;exact DA (BG k 3) this
  ·rw[e] at this;exact BH k this
  ·rw[e] at this;exact DA (BG k 1) this
 refine Bl (s:={s1 with heap:=h2}) (knd:=Yv X.prog X.w) (I.ok.hd hc) Z (XH l) (XH (CI m)) (by omega) (λj=>(ks[j]?).getD (.inl 0)) A_ (by omega) s1.heap C_ N.keep (hk▸N.zip) st λh3 DO keep dd=>?_;have n:s1.heap.objs.size<=h2.objs.size:=by
  have:=XD (hk▸N.zip:IsZip h2 (k+4) (k+2) (k+3) .none);rw[hk];exact XN (BG _ _) (CG this)
 rw[n1] at dd;have big:(h2.objs.size==sysModules)=false:=Tm.mpr (Ne.symm (XH (XG t.big n)));have zl:(Em Vp ks ys).length<=sizeLine:=by
  have:=kh (α:=V) (put:=Vp) (λa k v=>by unfold Vp;split<;>simp) ks ys;exact XN (XN this hsz) (by decide)
 exact⟨.ref _,_,t.laid (h':=h3) (t':=DO) keep n (Gf zl big (fB y A) dd),FQ,q _ (t.hok.fresh n)⟩
end
end L2
namespace WL
def aY (a:WA):WE:=λτ C Q χ=>a τ C (λvs C1=>∃(zs:List Str) (ts:List T),vs=[.tup (zs.map T.str),.tup ts]/\zs.length=ts.length/\zs.length<=1000/\∀p,C1 p=none->Q (.ref p) (up C1 p (.dic (Em J8 (zs.map Sum.inr) ts)))) χ
def Fv {K:WY}{H:Hp}:∀{zs:List Str} {ys:List V},Reps K H ys (zs.map T.str)->ys=(zs.map (Sum.inr:Str->Z8)).map kV
 | [],_,h=>by rw[Xx h];rfl
 | z::zs,_,h=>by obtain⟨y,r,rfl,a,b⟩:=Yk h;rw[Jm a,Fv b];rfl
def g9 {K:WY}{H:Hp}{ks:List Z8}{ys:List V}{ts:List T}(r:Reps K H ys ts):PR K H (Em Vp ks ys) (Em J8 ks ts):=by
 unfold Em;have c:∀(ks:List Z8) (ys:List V) (ts:List T) (a:List (Z8×V)) (b:List (Z8×T)),Reps K H ys ts->PR K H a b->PR K H ((ks.zip ys).foldl (λa kv=>Vp a kv.1 kv.2) a) ((ks.zip ts).foldl (λa kv=>J8 a kv.1 kv.2) b):=by
  intro ks
  induction ks with
  | nil=>intro ys ts a b r h;exact h
  | cons k ks d=>
   intro ys ts a b r h
   cases ts with
   | nil=>rw[Xx r];exact h
   | cons t ts=>
    obtain⟨y,r',rfl,q,e⟩:=Yk r;simp only[List.zip_cons_cons,List.foldl_cons];exact d _ _ _ _ e (PR.put h q)
 exact c ks ys ts [] [] r .nil
section
variable {X:Cx}{a c:WW}{wA:WA}{p pos p2 on:Pos}
def cH (hc:X.calm=true)(n:Gl X "dict")(hm:X.mg "dict"=none)(e:Gl X "zip")(f:X.mg "zip"=none)(ha:Lz X [a,c] wA)(hs:starEach [a,c] X.env=(false,eval a X.env)::starEach [c] X.env:=by rfl)(r:(backTo on (starEach [c] X.env)).any (·.1)=false:=by rfl)
  (g:starEach [.Call (.Name "zip" p2) [a,c] [] on] X.env=[(false,eval (.Call (.Name "zip" p2) [a,c] [] on) X.env)]:=by rfl):Ji X (.Call (.Name "dict" p) [.Call (.Name "zip" p2) [a,c] [] on] [] pos) (aY wA):=by
 obtain⟨t,u,s⟩:=ha;refine⟨_,zX hc n hm e f u hs r g,λF H C σ τ Q Q' χ R S h q=>?_⟩;refine s F H C σ τ _ _ χ R S h λxs vs H1 C1 R1 t1 rs h1=>?_;obtain⟨zs,ts,rfl,v,hz,h1⟩:=h1;obtain⟨D,E,rfl,w,rs⟩:=Yk rs;obtain⟨G,I,rfl,x,rs⟩:=Yk rs
 cases Xx rs
 obtain⟨y,z,rfl,i,A⟩:=Yn w;obtain⟨B,d,rfl,j,l⟩:=Yn x
 cases Fv A
 refine⟨y,B,zs.map Sum.inr,d,FQ,i,j,by rw[XI,l.length];exact v,by rw[XI];exact hz,λm b=>?_⟩;have tn:Tx H1 (Yq H1 m (.dK (Em Vp (zs.map Sum.inr) d))):=Tx.new b;exact q _ _ _ _ (R1.new (o:=.dic (Em J8 (zs.map Sum.inr) ts)) b ⟨_,Ya,Iy tn (g9 l)⟩) (t1.trans tn) Yu (h1 m (R1.free b))
end
end WL
namespace L2
section
variable {X:Cx}
def au (te:TE):TE:=λσ H Q=>te σ H λx H1=>(∃z:Str,x=.str z/\z.length<=sizeLine/\Q (.str z) H1)\/∃i:Int,x=.int i/\i.natAbs.log2<1920/\Q (.str (toString i)) H1
def gE {e:WW}{te:TE}{pos:Pos}(h:PE X e te):PE X (.FormattedValue e (-1) none pos) (au te):=by
 intro WZ s σ H Q I q;refine FormattedValue_plain (Y3 (h WZ s σ H _ I q) λu s1 ⟨x,H1,b,c,a⟩=>?_)
 rcases a with⟨z,rfl,hz,a⟩ | ⟨i,rfl,hi,a⟩
 ·obtain⟨t,rfl⟩:=c;exact formatField_str (λt' tk=>⟨.str z,H1,b.tok _,⟨t',FQ⟩,a⟩) hz
 ·obtain⟨t,rfl⟩:=c;exact formatField_int_small hi ⟨.str (toString i),H1,b.tok _,⟨_,FQ⟩,a⟩
def tJ:List TE->Str->TE
 | [],out=>λ_ H Q=>Q (.str out) H
 | t::ts,out=>λσ H Q=>t σ H λx H1=>∃z:Str,x=.str z/\(out++z).length<=sizeLine/\tJ ts (out++z) σ H1 Q
inductive ix (X:Cx):List Expr->List TE->Prop
 | nil:ix X [] []
 | cons {e:WW} {es:List WW} {t:TE} {ts:List TE} (h:PE X e t) (r:ix X es ts):ix X (e::es) (t::ts)
def pj {es:List WW}{ts:List TE}(h:ix X es ts):∀{WZ:List (WP×Obj)} {s:WR} {σ:St} {H:Hp} {Q:VK} {out:Str},out.length<=sizeLine->Zq X WZ σ H s->tJ ts out σ H Q->wpAny (model X.prog X.w) X.A (joinParts out (evalEach es X.env)) (EP X WZ σ Q) X.xe s:=by
 induction h with
 | nil=>
  intro WZ s σ H Q out a I q;exact joinParts_nil ⟨.str out,H,I.tok _,⟨_,FQ⟩,q⟩ a
 | @cons e es t ts h r b=>
  intro WZ s σ H Q out a I q;show wpAny _ _ (joinParts out (eval e X.env::evalEach es X.env)) _ _ s;refine joinParts_cons (Y3 (h WZ s σ H _ I q) λu s1 ⟨x,H1,c,d,z,ex,hz,f⟩=>?_);subst ex;obtain⟨t',rfl⟩:=d;exact⟨hz,b hz c f⟩
def xB {v1 a:WW}{Yc:List WW}{ts:List TE}{pos:Pos}(h:ix X (v1::a::Yc) ts):PE X (.JoinedStr (v1::a::Yc) pos) (tJ ts Str.empty):=by
 intro WZ s σ H Q I q;exact JoinedStr_many (pj h (XO _) I q)
end
end L2
namespace WL
def aX (e:WE):WE:=λτ C Q χ=>e τ C (λx C1=>(∃z:Str,x=.str z/\z.length<=sizeLine/\Q (.str z) C1)\/∃i:Int,x=.int i/\i.natAbs.log2<1920/\Q (.str (toString i)) C1) χ
def eJ:List WE->Str->WE
 | [],out=>λ_ C Q _=>Q (.str out) C
 | w::ws,out=>λτ C Q χ=>w τ C (λv C1=>∃z:Str,v=.str z/\(out++z).length<=sizeLine/\eJ ws (out++z) τ C1 Q χ) χ
section
variable {X:Cx}{e k v:WW}{we wk wv:WE}{pos:Pos}
def cG (b:Ji X e we):Ji X (.FormattedValue e (-1) none pos) (aX we):=by
 obtain⟨t,p,s⟩:=b;refine⟨_,gE p,λF H C σ τ Q Q' χ R S h q=>?_⟩;refine s F H C σ τ _ _ χ R S h λx u H1 C1 R1 t1 a h1=>?_
 rcases h1 with⟨z,rfl,hz,h1⟩ | ⟨i,rfl,hi,h1⟩
 ·cases Jm a
  exact .inl ⟨z,FQ,hz,q _ _ H1 C1 R1 t1 Wl h1⟩
 ·cases Yi a
  exact .inr ⟨i,FQ,hi,q _ _ H1 C1 R1 t1 Wl h1⟩
def eT (X:Cx)(es:List WW)(ws:List WE):Prop:=∃ts,ix X es ts/\∀(out:Str),Tq X.K (tJ ts out) (eJ ws out)
def km:eT X [] []:=⟨[],.nil,λout F H C σ τ Q Q' χ R S h q=>q _ _ H C R (Tx.refl H) Wl h⟩
def jH {es:List WW}{ws:List WE}(a:Ji X e we)(b:eT X es ws):eT X (e::es) (we::ws):=by
 obtain⟨t,p,s⟩:=a;obtain⟨ts,ps,ss⟩:=b;refine⟨t::ts,.cons p ps,λout F H C σ τ Q Q' χ R S h q=>?_⟩;refine s F H C σ τ _ _ χ R S h λx u H1 C1 R1 t1 c h1=>?_;obtain⟨z,rfl,hz,h1⟩:=h1
 cases Jm c
 exact⟨z,FQ,hz,ss (out++z) F H1 C1 σ τ _ _ χ R1 (S.tx t1) h1 (QE.at q t1)⟩
def tS {v1 a:WW}{Yc:List WW}{ws:List WE}(h:eT X (v1::a::Yc) ws):Ji X (.JoinedStr (v1::a::Yc) pos) (eJ ws Str.empty):=by
 obtain⟨ts,ps,ss⟩:=h;exact⟨_,xB ps,ss _⟩
def cC (k v:WE):WE:=λτ C Q χ=>∀p,C p=none->k τ (up C p (.dic [])) (λx C1=>v τ C1 (λy C2=>∃kk,kT x=some kk/\C2 p=some (.dic [])/\Q (.ref p) (up C2 p (.dic [(kk,y)]))) χ) χ
end
end WL
namespace L2
open AutoSeq1 (wpAny_loadPart')
end L2
namespace WL
def aF (z:Nat)(xs:List T):List T:=xs.zipIdx.map λc=>T.tup [.int ((c.2+z:Nat):Int),c.1]
end WL
namespace L2
section
variable {X:Cx}{WZ:List (WP×Obj)}{σ:St}{H:Hp}{s:WR}{a b:WP}{kvs more:List (Z8×V)}{A:WM}{E:WQ->WR->Prop}
def tR {Q:WQ->WR->Prop}(I:Zq X WZ σ H s)(e:H a=some (.dK kvs))(l:H b=some (.dK more))(f:a≠b)(hsz:kvs.length+more.length<=sizeLine)(h:∀s',Zq X WZ σ (Yq H a (.dK (Q8 kvs more))) s'->Q .none s'):
  wpAny (model X.prog X.w) A (call (.builtin "dict.update") [.ref a,.ref b]) Q E s:=by
 obtain⟨z,hd,vs,rel,dd⟩:=jG I.hok e;obtain⟨z2,g,i,c,j⟩:=jG I.hok l;refine call_meetsIn PySem.F.slot_dict_update dd.typeIs PySem.F.entry_dict_update (PySem.F.args_dict_update_2 _ _) (meets_dict_update (Yv X.prog X.w) a b f g) ⟨vs,i,dd,j,by rw[<-rel.length,<-c.length];exact hsz,λh' d _ hs=>h _ ?_⟩;have m:∃q,h'.get? a=some q:=let ⟨q,_,_,hq,_⟩:=d;⟨q,hq⟩
 exact K5 (t':=s.toks) I (by rw[e];exact True.intro) hs m (Gf (XN (Sy more kvs) hsz) hd (KV.merge c rel) d)
end
section
variable {X:Cx}{o e:WW}{c_ f_:Pos}{td ty:TE}
def iX (td ty:TE):TE:=λσ H Q=>td σ H λx H1=>∃a,x=.ref a/\bj H1 a/\ty σ H1 λy H2=>∃b kvs more,y=.ref b/\a≠b/\H2 a=some (.dK kvs)/\H2 b=some (.dK more)/\kvs.length+more.length<=sizeLine/\Q .non (Yq H2 a (.dK (Q8 kvs more)))
def ql (g:PE X o td)(i:PE X e ty)(m:M1 X o "update" c_ e f_):PE X (.Call (.Attribute o "update" c_) [e] [] f_) (iX td ty):=by
 intro WZ s σ H Q I h;refine wpAny_Call_method m.base m.few m.line PySem.F.plainAttrs_dict PySem.F.slot_dict_update PySem.F.type_dict_update (Y3 (g WZ s σ H _ I h) λu s1 ⟨x,H1,f,j,a,ex,d,l⟩=>?_);subst ex;obtain rfl:u=Value.ref a:=j;obtain⟨t1,t2,_⟩:=lK f d;refine⟨t1,t2,?_⟩;rw[m.trees];refine EO FQ (EU (CD (Y3 (i WZ s1 σ H1 _ f l) λn s2 ⟨y,H2,p,q,b,kvs,more,r,c,ea,t,hz,v⟩=>DK ?_)));subst r;obtain rfl:n=Value.ref b:=q;exact tR p ea t c hz λz w=>⟨.non,_,w,FQ,v⟩
end
end L2
namespace WL
def Vy (kvs more:List (Z8×T)):List (Z8×T):=more.foldl (λa kv=>J8 a kv.1 kv.2) kvs
def PR.merge {K:WY}{H:Hp}:∀{D:List (Z8×V)} {G:List (Z8×T)} {ks:List (Z8×V)} {y:List (Z8×T)},PR K H D G->PR K H ks y->PR K H (Q8 ks D) (Vy y G):=by
 intro D G ks y r
 induction r generalizing ks y with
 | nil=>intro q;exact q
 | @cons p q ps qs h t a=>
  intro r0;have e:PR K H (Vp ks p.1 p.2) (J8 y q.1 q.2):=by rw[<-h.1];exact PR.put r0 h.2
  exact a e
abbrev kJ:=Sw->Hw->(List (Z8×T)->Hw->Prop)->WX->Prop
def gH:kJ:=λ_ C Q _=>Q [] C
def F9 (k v:WE)(r:kJ):kJ:=λτ C Q χ=>k τ C (λx C1=>v τ C1 (λy C2=>r τ C2 (λps a=>∃kk,kT x=some kk/\Q ((kk,y)::ps) a) χ) χ) χ
def tD (r:kJ):WE:=λτ C Q χ=>∀p,C p=none->r τ (up C p (.dic [])) (λps C2=>C2 p=some (.dic [])/\ps.length<=15/\Q (.ref p) (up C2 p (.dic (Vy [] ps)))) χ
def fT (K:WY)(a:List (TE×TE))(w:kJ):Prop:=∀(F H:Hp) (C:Hw) (σ:L2.St) (τ:Sw) (Q:List (V×V)->Hp->Prop) (Q':List (Z8×T)->Hw->Prop) (χ:WX),Rl K F H C->Xd K H σ τ->w τ C Q' χ->
 (∀(kvs:List (Z8×V)) (ps:List (Z8×T)) H' C',Rl K F H' C'->Tx H H'->PR K H' kvs ps->Q' ps C'->Q (kvs.map λkv=>(kV kv.1,kv.2)) H')->Dd a σ H Q
def oh (X:Cx)(pos:Pos)(ks:List (Option WW))(vs:List WW)(w:kJ):Prop:=∃a,fV X pos ks vs a/\fT X.K a w
section
variable {X:Cx}{pos c_ f_:Pos}{k v o e:WW}{ks:List (Option WW)}{vs:List WW}{wk wv wo we:WE}{w:kJ}
def jF:oh X pos [] [] gH:=⟨_,qe,λF H C σ τ Q Q' χ R S h q=>q [] [] H C R (Tx.refl H) .nil h⟩
def Wf (hk:Ji X k wk)(hv:Ji X v wv)(c:oh X pos ks vs w):oh X pos (some k::ks) (v::vs) (F9 wk wv w):=by
 obtain⟨tk,d,s1⟩:=hk;obtain⟨tv,p2,s2⟩:=hv;obtain⟨tr,e,f⟩:=c;refine⟨_,vX d p2 e,λF H C σ τ Q Q' χ R S h q=>?_⟩;refine s1 F H C σ τ _ _ χ R S h λx u H1 C1 R1 t1 g h1=>?_;refine s2 F H1 C1 σ τ _ _ χ R1 (S.tx t1) h1 λy u2 H2 C2 R2 t2 i h2=>?_;refine f F H2 C2 σ τ _ _ χ R2 (S.tx (t1.trans t2)) h2 λkvs ps j l R3 b pr a=>?_;obtain⟨kk,hk,a⟩:=a;have ex:x=kV kk:=Ks hk g;subst ex;exact q ((kk,y)::kvs) ((kk,u2)::ps) j l R3 ((t1.trans t2).trans b) (.cons ⟨FQ,i.tx b⟩ pr) a
def jJ (h:oh X pos ks vs w)(a:ks.all (·.isSome)=true:=by rfl)(g:ks.length=vs.length:=by rfl)(i:ks≠[]:=by simp)(c:ks.length<=15:=by simp):Ji X (.Dict ks vs pos) (tD w):=by
 obtain⟨tr,j,s1⟩:=h;refine⟨_,qm j a g i c,λF H C σ τ Q Q' χ R S h q=>?_⟩;intro p d;have tn:Tx H (Yq H p (.dK [])):=Tx.new d;have R0:Rl X.K F (Yq H p (.dK [])) (up C p (.dic [])):=R.new d ⟨[],Ya,.nil⟩;refine s1 F _ _ σ τ _ _ χ R0 (S.tx tn) (h p (R.free d)) λkvs ps H1 C1 R1 t1 pr h1=>?_;obtain⟨f,b,h1⟩:=h1;obtain⟨l,m,e⟩:=R1.dic f
 cases e
 obtain⟨R3,n⟩:=R1.putD f (PR.merge pr .nil);exact⟨m,kvs,FQ,by rw[pr.length];exact b,q _ _ _ _ R3 ((tn.trans t1).trans n) Yu h1⟩
def f9 (o e:WE):WE:=λτ C Q χ=>o τ C (λx C1=>(∃a kvs,x=.ref a/\C1 a=some (.dic kvs))/\e τ C1 (λy C2=>∃a b kvs more,x=.ref a/\y=.ref b/\a≠b/\C2 a=some (.dic kvs)/\C2 b=some (.dic more)/\kvs.length+more.length<=sizeLine/\Q .non (up C2 a (.dic (Vy kvs more)))) χ) χ
def ko (t:Ji X o wo)(w:Ji X e we)(m:M1 X o "update" c_ e f_):Ji X (.Call (.Attribute o "update" c_) [e] [] f_) (f9 wo we):=by
 obtain⟨ta,z,s1⟩:=t;obtain⟨tb,p2,s2⟩:=w;refine⟨_,ql z p2 m,λF H C σ τ Q Q' χ R S h q=>?_⟩;refine s1 F H C σ τ _ _ χ R S h λx v H1 C1 R1 t1 A h1=>?_;obtain⟨⟨l,r,rfl,d⟩,h1⟩:=h1
 cases Z7 A
 obtain⟨f,g,_⟩:=R1.dic d;refine⟨l,FQ,.inl ⟨f,.inl g⟩,?_⟩;refine s2 F H1 C1 σ τ _ _ χ R1 (S.tx t1) h1 λy u H2 C2 R2 t2 B h2=>?_;obtain⟨a,b,kvs,more,D,rfl,i,c,j,hz,E⟩:=h2
 cases D
 cases Z7 B
 obtain⟨G,n,pa⟩:=R2.dic c;obtain⟨kb,p,s⟩:=R2.dic j;obtain⟨R3,I⟩:=R2.putD c (PR.merge s pa);exact⟨b,G,kb,FQ,i,n,p,by rw[pa.length,s.length];exact hz,q _ _ _ _ R3 ((t1.trans t2).trans I) T4 E⟩
end
section
variable {P:WO}{w:WN}{K:WY}{mg:Str->Option WQ}{base h:WU}{x q cn:Str}{st:WV}{ps:List Str}{pr:List Df}{n i j ar:Nat}{sp:Sp}{Cl:WP}
def Fg (K:WY)(x:Str)(st:WV):Prop:=∃f fd,W.nsIn K mainGlobals x=some (some (.ref f))/\Kk K x x st f fd
def Fh (K:WY)(Cl:WP)(x q:Str)(st:WV):Prop:=∃f fd,wB K Cl x f/\Kk K x q st f fd
def Ld (K:WY)(mg:Str->Option WQ)(x:Str)(st:WV)(ps:List Str):Prop:=∃f fd,Kk K x x st f fd/\Xv K fd ps []/\mg x=some (.ref f)
def Lm (K:WY)(Cl:WP)(x q:Str)(st:WV)(ps:List Str):Prop:=∃f fd,wB K Cl x f/\Kk K x q st f fd/\Xv K fd ps []
def Bq (x q:Str)(st:WV)(ps:List Str):Prop:=∀(kV doc pm:WQ) (an:Option WP) (e_ ct:WQ) (us:List WQ),us.length=ps.length->bindArgs (W.fnOf x q (Qg st) (Y6 st) (Zj st) .none kV doc pm an e_ ct) ⟨us,[]⟩=pure (ps.zip us)
def Jw (X:K.In h)(G:h.Ns mainGlobals mg)(l:Fg K x st)(hb:Bq x x st ps):Ld K mg x st ps:=by
 obtain⟨f,fd,a,F⟩:=l;exact⟨f,fd,F,F.binds hb,BO X G a⟩
def xM (L:Ld K mg x st ps):Ca P w K mg base 0 x ps (spW K pr 0 i):=by
 obtain⟨f,fd,F,B,M⟩:=L;exact pD F B M
def Np (L:Ld K mg x st ps)(G:∀{f fd},Kk K x x st f fd->Ww P w K mg base CX0 n f fd ps sp):Ca P w K mg base n x ps sp:=by
 obtain⟨f,fd,F,B,M⟩:=L;exact pE F B M (G F)
def Hg (l:Fh K Cl x q st)(hb:Bq x q st ps):Lm K Cl x q st ps:=by
 obtain⟨f,fd,a,F⟩:=l;exact⟨f,fd,a,F,F.binds hb⟩
def cP {X:Cx}{e:WW}{wA:WA}{k:Nat}{Q:Calls}(a:Jo pr k=Q)(h:Ji X e (Xh (Jo pr k) i wA)):Ji X e (Xh Q i wA):=a▸h
end
end WL
namespace L2
def nr:typeLookup (.type "zip") "__len__"=pure none:=by rw[typeLookup_type];rw[builtinLookup_eq_fast];kernel_rfl
def re:typeLookup (.type "zip") "__length_hint__"=pure none:=by rw[typeLookup_type];rw[builtinLookup_eq_fast];kernel_rfl
abbrev yL (h:WU)(S:WP)(a:Array WQ):Prop:=∃c,h.get? S=some {cls:=.type "list",data:=.seq a c}
section
variable {prog:WO}{w:WN}{A:WM}{E:WQ->WR->Prop}{s:WR}{z TI TO i1 i2 l1 l2:WP}{xs ys:Array WQ}
def uR {Q:Bool->WR->Prop}(a:s.TypeIs (.ref z) "zip")(h:Q true s):wpAny (model prog w) A (Builtin.List.listLengthHint (.ref z)) Q E s:=by
 unfold Builtin.List.listLengthHint;refine XA (wpAny_specialOf a nr ?_);show wpAny _ A (specialOf (Value.ref z) (Str.ofString "__length_hint__")>>=_) _ _ _;refine XA (wpAny_specialOf a re ?_);exact XB h
def Nx {S:WP}{a:Array WQ}{f:Array WQ->Array WQ}{Q:Unit->WR->Prop}(d:yL s.heap S a)(h1:a.size<=sizeLine)(h2:(f a).size<=sizeLine+1)
  (h:∀h',yL h' S (f a)->Heap.SameBut S s.heap h'->Q () {s with heap:=h'}):wpAny (model prog w) A (updateSeq S f) Q E s:=by
 obtain⟨c,d⟩:=d;refine wpAny_updateSeq d FQ (h _ ⟨_,DN (Obj.mapSeq f) d FQ⟩ ⟨Heap.size_update ..,λb hb=>DJ _ _ (Ne.symm hb)⟩) h1 h2
abbrev zw (h:WU)(as:List WP)(ps:List (WQ×WQ)):Prop:=Paired (λa p=>IsPair h a p.1 p.2) as ps
def zw.at {h h':WU}{as:List WP}{ps:List (WQ×WQ)}(p:zw h as ps):(∀a∈as,∀o,h.get? a=some o->h'.get? a=some o)->zw h' as ps:=by
 induction p with
 | nil=>exact λ_=>.nil
 | cons r t b=>exact λk=>.cons (k _ (BA ..) _ r) (b λa ha=>k a (XV _ ha))
def zw.app {h:WU}{as:List WP}{ps:List (WQ×WQ)}{a:WP}{x y:WQ}(p:zw h as ps)(q:IsPair h a x y):zw h (as++[a]) (ps++[(x,y)]):=by
 induction p with
 | nil=>exact .cons q .nil
 | cons r t b=>exact .cons r b
def zw.mem {h:WU}{as:List WP}{ps:List (WQ×WQ)}(p:zw h as ps){a:WP}(q:a∈as):∃o,h.get? a=some o:=by
 induction p with
 | nil=>cases q
 | cons r t b=>
  rcases BB.mp q with rfl | q
  ·exact⟨_,r⟩
  ·exact b q
def ZS.alive {i:Nat}{h:WU}(st:ZS z TI TO i1 i2 l1 l2 xs ys i h):∀b∈[z,TO,i1,i2],∃o,h.get? b=some o:=by
 obtain⟨a,b,⟨u,v,c⟩,⟨⟨o1,d,_⟩,_⟩,⟨⟨o2,e,_⟩,_⟩⟩:=st;intro x hx;simp only[ZM,ZN,or_false] at hx
 rcases hx with rfl | rfl | rfl | rfl
 ·rcases a with a | ⟨T,b,a,_⟩
  ·exact⟨_,a⟩
  ·exact⟨_,a⟩
 ·exact⟨_,c⟩
 ·exact⟨_,d⟩
 ·exact⟨_,e⟩
def qK {S:WP}(E:A.handled=none)(Z:wz z TI TO i1 i2 [i1,l1] [i2,l2])(h1:l1≠i1)(h2:l2≠i2)(hn:xs.size=ys.size)(G:S∉[z,TI,TO,i1,i2,l1,l2])(hsz:xs.size<=1000)
  {R:Result->WR->Prop} (h₀:WU) (g:∀b o,h₀.get? b=some o->b≠S/\b∉[z,TO,i1,i2])
  (L:∀h' tk as,(∀b o,h₀.get? b=some o->h'.get? b=some o)->yL h' S (as.map Value.ref).toArray->zw h' as (xs.toList.zip ys.toList)->as.Nodup->(∀a∈as,h₀.objs.size<=a/\a≠S)->R (.ok (.ret .none)) {s with heap:=h',toks:=tk}):
  ∀(m i:Nat) (h:WU) (tk:Nat) (as:List WP),xs.size-i=m->i<=xs.size->ZS z TI TO i1 i2 l1 l2 xs ys i h->(∀b o,h₀.get? b=some o->h.get? b=some o)->h₀.objs.size<=h.objs.size->yL h S (as.map Value.ref).toArray->as.length=i->zw h as ((xs.toList.zip ys.toList).take i)->as.Nodup->
   (∀a∈as,h₀.objs.size<=a/\a≠S/\a∉[z,TO,i1,i2])->
   codeAny (model prog w) A (.builtin "list.extend.loop" ⟨[.ref S,.ref z,.none],[]⟩) R {s with heap:=h,toks:=tk}:=by
 intro m;have j:S∉[z,TO,i1,i2]:=λhm=>G (by simp only[ZM,ZN,or_false] at hm |-;rcases hm with h | h | h | h<;>simp[h])
 induction m with
 | zero=>
  intro i h tk as hm hi st keep hz d t pr nd ha;have N:i=xs.size:=by omega
  subst N;refine codeAny_builtin PySem.F.entry_extend_loop ?_;show wpAny _ _ (pyNext (.ref z)>>=_) _ _ _;refine XA (wT (A:=A.under _) E Z h1 st λh' l kp=>?_);refine XB ?_;obtain⟨c,d⟩:=d;refine L h' l as (λb o q=>kp b o (g b o q).2 (keep b o q)) ⟨c,kp _ _ j d⟩ ?_ nd λa q=>⟨(ha a q).1,(ha a q).2.1⟩;have e:(xs.toList.zip ys.toList).take xs.size=xs.toList.zip ys.toList:=List.take_of_length_le (by rw[List.length_zip];simp;omega);rw[e] at pr;exact zw.at pr λa q o z=>kp a o (ha a q).2.2 z
 | succ m Q=>
  intro i h tk as hm hi st keep hz d t pr nd ha;refine codeAny_builtin PySem.F.entry_extend_loop ?_;show wpAny _ _ (pyNext (.ref z)>>=_) _ _ _;refine XA (yM (A:=A.under _) E Z h1 h2 hn (by omega) st λT x y h' l hx hy u H v kp=>?_);obtain⟨c,d⟩:=d;have lt:∀{b o},h.get? b=some o->b≠T:=λe=>XH (XG (XD e) u);have n:T≠S:=(lt d).symm;show wpAny _ _ (updateSeq S (λa=>a.push (.ref T))>>=_) _ _ _;have f:(as.map Value.ref).toArray.size<=1000:=by simp[t];omega
  have sl:(1000:Nat)<=sizeLine:=by decide
  refine XA (Nx ⟨c,kp _ _ j d⟩ (XN f sl) (by rw[Array.size_push];exact DV (XN f sl)) λI p sb=>?_);refine XB ⟨plainId_quiet DY _,?_⟩;have U:∀b∈[z,TI,TO,i1,i2,l1,l2],b≠S:=λb hb e=>G (e▸hb);have alive:∀b,(∃o,h'.get? b=some o)->∃o,I.get? b=some o:=λb ⟨o,q⟩=>by
   by_cases e:b=S
   ·subst e;obtain⟨c3,Y⟩:=p;exact⟨_,Y⟩
   ·exact⟨o,sb.extBut _ _ e q⟩
  have aT:∀a∈as,a≠T:=λa q e=>by
   subst e;obtain⟨o,B⟩:=zw.mem pr q;exact lt B FQ
  refine Q (i+1) I _ (as++[T]) (by omega) (by omega) (v.frame (λb hb o q=>sb.extBut _ _ (U b hb) q) alive) (λb o q=>sb.extBut _ _ (g b o q).1 (kp b o (g b o q).2 (keep b o q))) ?_ ?_ ?_ ?_ ?_ ?_
  ·rw[sb.1];exact CG (EC (XN hz u) (XD H))
  ·rw[XL];simpa using p
  ·simp[t]
  ·have C:xs.toList[i]?=some x:=by simpa using hx
   have D:ys.toList[i]?=some y:=by simpa using hy
   have e:(xs.toList.zip ys.toList).take (i+1)=(xs.toList.zip ys.toList).take i++[(x,y)]:=by
    rw[YD,show(xs.toList.zip ys.toList)[i]?=some (x,y) from BL.mpr ⟨C,D⟩];rfl
   rw[e];refine zw.app (zw.at pr λa q o z=>sb.extBut _ _ (ha a q).2.1 (kp a o (ha a q).2.2 z)) (sb.extBut _ _ n H)
  ·exact EL.mpr ⟨nd,BU.mpr ⟨DU,BX⟩,λa q b r=>by rw[XQ.mp r];exact aT a q⟩
  ·intro a q
   rcases XS.mp q with q | q
   ·exact ha a q
   ·rw[XQ.mp q];refine⟨XN hz u,n,λhb=>?_⟩;obtain⟨o,ho⟩:=st.alive _ hb;exact lt ho FQ
def uM {R:Result->WR->Prop}{S:WP}(I:A.handled=none)(Z:wz z TI TO i1 i2 [i1,l1] [i2,l2])(h1:l1≠i1)(h2:l2≠i2)(hn:xs.size=ys.size)(hsz:xs.size<=1000)(c:S∉[z,TI,TO,i1,i2,l1,l2])
  (h₀:WU) (g:∀b o,h₀.get? b=some o->b≠S/\b∉[z,TO,i1,i2]) (keep:∀b o,h₀.get? b=some o->s.heap.get? b=some o) (hz:h₀.objs.size<=s.heap.objs.size) (m:IsZip s.heap z TI TO .none) (st:ZS z TI TO i1 i2 l1 l2 xs ys 0 s.heap) (C:s.heap.get? S=some {cls:=.type "list",data:=.seq #[]})
  (L:∀h' tk as,(∀b o,h₀.get? b=some o->h'.get? b=some o)->yL h' S (as.map Value.ref).toArray->zw h' as (xs.toList.zip ys.toList)->as.Nodup->(∀a∈as,h₀.objs.size<=a/\a≠S)->R (.ok (.ret .none)) {s with heap:=h',toks:=tk}):
  wpAny (model prog w) A.in1 (Builtin.«list.__init__» ⟨[.ref S,.ref z],[]⟩)
   (λfin s2=>match fin with | .done f=>R (.ok f) s2 | .again c2=>c2.quiet=true/\codeAny (model prog w) A c2 R s2) (λe s2=>R (.error e) s2) s:=by
 have i:S≠z:=λe=>c (e▸by simp);have n:∀b∈[z,TI,TO,i1,i2,l1,l2],b≠S:=λb hb e=>c (e▸hb);show wpAny _ A.in1 (Builtin.List.listItems (.ref S)>>=λp=>Builtin.List.listUpdate (.ref S) (λ_=>#[])>>=λ_=>letGo p.toList.reverse>>=λ_=>Builtin.List.listExtendWith (.ref S) (.ref z) .none) _ _ s;unfold Builtin.List.listItems;refine XA ?_;refine XA (wpAny_seqItems C FQ (XB ?_));show wpAny _ A.in1 (updateSeq S (λ_=>#[])>>=λ_=>letGo (#[]:Array WQ).toList.reverse>>=λ_=>Builtin.List.listExtendWith (.ref S) (.ref z) .none) _ _ s;have D:(0:Nat)<=sizeLine:=XO _;refine XA (Nx (f:=λ_=>#[]) ⟨_,C⟩ D (XO _) λha E sa=>?_);have alive:∀{h h':WU} {r:Array WQ},Heap.SameBut S h h'->yL h' S r->∀b,(∃o,h.get? b=some o)->∃o,h'.get? b=some o:=λsb N b ⟨o,q⟩=>by
  by_cases e:b=S
  ·subst e;obtain⟨U,Q⟩:=N;exact⟨_,Q⟩
  ·exact⟨o,sb.extBut _ _ e q⟩
 have t:ZS z TI TO i1 i2 l1 l2 xs ys 0 ha:=st.frame (λb hb o q=>sa.extBut _ _ (n b hb) q) (alive sa E);have j:IsZip ha z TI TO .none:=sa.extBut _ _ i.symm m;refine XA (wpAny_letGo ?_);unfold Builtin.List.listExtendWith;have l:({s with heap:=ha}:WR).TypeIs (.ref z) "zip":=⟨_,j,FQ⟩;refine XA (wpAny_typeOf (T:="zip") l ?_);have u:Builtin.List.listSameRef (.ref S) (.ref z)=false:=by simp[Builtin.List.listSameRef,i]
 have v:(Value.type "zip"==Value.type "list")=false:=by decide
 have y:(Value.type "zip"==Value.type "tuple")=false:=by decide
 simp only[u,v,y,Bool.or_false,Bool.false_eq_true,if_false];refine XA (wpAny_pyIter_zip (s:={s with heap:=ha}) j ?_);refine XA (wpAny_holding (uR l ?_));refine wpAny_ite_split (λ_=>?_) (λz=>absurd (by rfl) z);refine XA (wpAny_rule ?_);show wpAny _ _ ((updateSeq S (λx=>x.push .none)>>=λ_=>updateSeq S (λx=>x.pop))>>=_) _ _ _;refine wpAny_bind (wpAny_bind (Nx (f:=λx=>x.push .none) E D (by simp) λhb G sb=>?_));refine Nx (f:=λx=>x.pop) G (by simp;decide) (by simp) λhc H sc=>?_;have B:ZS z TI TO i1 i2 l1 l2 xs ys 0 hc:=(t.frame (λb d o q=>sb.extBut _ _ (n b d) q) (alive sb G)).frame (λb d o q=>sc.extBut _ _ (n b d) q) (alive sc H);refine XB ⟨plainId_quiet DY _,?_⟩;refine qK (s:=s) I Z h1 h2 hn c hsz h₀ g L xs.size 0 hc s.toks [] FQ (XO _) B (λb o q=>?_) ?_ ?_ FQ .nil BX (λa q=>nomatch q)
 ·have e:=(g b o q).1;exact sc.extBut _ _ e (sb.extBut _ _ e (sa.extBut _ _ e (keep b o q)))
 ·rw[sc.1,sb.1,sa.1];exact hz
 ·simpa using H
def Bg {Q:WQ->WR->Prop}(i:A.handled=none)(Z:wz z TI TO i1 i2 [i1,l1] [i2,l2])(h1:l1≠i1)(h2:l2≠i2)(hn:xs.size=ys.size)(hsz:xs.size<=1000)
  (h₀:WU) (d:∀b o,h₀.get? b=some o->b∉[z,TO,i1,i2]) (keep:∀b o,h₀.get? b=some o->s.heap.get? b=some o) (hz:h₀.objs.size<=s.heap.objs.size) (f:IsZip s.heap z TI TO .none) (st:ZS z TI TO i1 i2 l1 l2 xs ys 0 s.heap)
  (j:∀h' tk as,(∀b o,h₀.get? b=some o->h'.get? b=some o)->yL h' s.heap.objs.size (as.map Value.ref).toArray->zw h' as (xs.toList.zip ys.toList)->as.Nodup->(∀a∈as,h₀.objs.size<=a/\a≠s.heap.objs.size)->Q (.ref s.heap.objs.size) {s with heap:=h',toks:=tk}):
  wpAny (model prog w) A (call (.type "list") [.ref z]) Q E s:=by
 refine callType_codes (Q₁:=λob s1=>ob=.ref s.heap.objs.size/\s1={s with heap:=s.heap.push {cls:=.type "list",data:=.seq #[]}}) PySem.F.called_list (PySem.F.typeCall_list_1 _) PySem.F.entry_list_init (code_list_new _ ⟨FQ,FQ⟩) λob s1 h1=>?_;obtain⟨rfl,rfl⟩:=h1;have h:(s.heap.push {cls:=.type "list",data:=.seq #[]}).get? s.heap.objs.size=some {cls:=.type "list",data:=.seq #[]}:=XF _ FQ;have c:∀b o,s.heap.get? b=some o->(s.heap.push {cls:=.type "list",data:=.seq #[]}).get? b=some o:=λb o q=>XC _ q;have ne:∀{b o},s.heap.get? b=some o->b≠s.heap.objs.size:=λq=>XH (XD q);have g:s.heap.objs.size∉[z,TI,TO,i1,i2,l1,l2]:=λhm=>by
  simp only[ZM,ZN,or_false] at hm;obtain⟨o1,l⟩:=st.alive z (by simp);obtain⟨o3,e3⟩:=st.alive TO (by simp);obtain⟨u,m⟩:=st.alive i1 (by simp);obtain⟨v,n⟩:=st.alive i2 (by simp);obtain⟨x,p,_⟩:=st.s1.2;obtain⟨y,r,_⟩:=st.s2.2
  rcases hm with e | e | e | e | e | e | e
  ·exact ne l e.symm
  ·exact ne st.its e.symm
  ·exact ne e3 e.symm
  ·exact ne m e.symm
  ·exact ne n e.symm
  ·exact ne p e.symm
  ·exact ne r e.symm
 refine⟨⟨_,h,FQ⟩,PySem.F.args_list_init_2 _ _,uM (A:=A.in1) i Z h1 h2 hn hsz g h₀ (λb o q=>⟨ne (keep b o q),d b o q⟩) (λb o q=>c b o (keep b o q)) (by rw[CC];omega) (c _ _ f) (st.frame (λb _ o q=>c b o q) λb ⟨o,q⟩=>⟨o,c b o q⟩) h λh' tk as k t pr nd ha=>⟨FQ,?_⟩⟩;exact j h' tk as k t pr nd ha
end
section
variable {X:Cx}{WZ:List (WP×Obj)}{σ:St}{H:Hp}{s:WR}
def Zq.laids {H':Hp}{h':WU}{t':Nat}(I:Zq X WZ σ H s)(k:∀b u,s.heap.get? b=some u->h'.get? b=some u)(y:∀a o,H a=some o->H' a=some o)(low:∀a,a<s.heap.objs.size->H' a=H a)
  (new:∀a o,s.heap.objs.size<=a->H' a=some o->Y5 X.prog X.w H' h' a o):Zq X WZ σ H' {s with heap:=h',toks:=t'}:=by
 refine I.un ⟨λb o q _ _ _=>k b o q,λb o q _ _ _=>⟨o.slots,k b o q⟩,λb o q n _=>(low b (Heap.lt_size q)).trans n,λb o q _=>⟨o,k b o q⟩,λb xs q=>y b _ q,λb o u q=>y b _ q,λb ps q=>⟨#[],by rw[y b _ q];simp⟩⟩ λa o e=>?_;by_cases c:s.heap.objs.size<=a
 ·exact new a o c e
 ·rw[low a (by omega)] at e;exact(I.hok a o e).stay (λb u _ q=>k b u q) (λb q=>y b _ q) λb xs q=>y b _ q
def Ry (H:Hp):List WP->List (V×V)->Hp
 | a::as,p::ps=>Ry (Yq H a (.tup [p.1,p.2])) as ps
 | _,_=>H
def ao (K:WY)(t:TA):TE:=λσ H Q=>t σ H λvs H1=>∃l1 l2 xs ys,vs=[.ref l1,.ref l2]/\Tw K H1 l1 xs/\Tw K H1 l2 ys/\xs.length=ys.length/\xs.length<=1000/\
 ∀(as:List WP) (p:WP),as.length=xs.length->as.Nodup->p∉as->H1 p=none->(∀a∈as,H1 a=none)->Q (.ref p) (Yq (Ry H1 as (xs.zip ys)) p (.lst (as.map V.ref)))
def Ps {a:WP}:∀{as:List WP} {ps:List (V×V)} {H:Hp},a∉as->Ry H as ps a=H a
 | [],_,_,_=>by unfold Ry;rfl
 | _::_,[],_,_=>by unfold Ry;rfl
 | b::as,p::ps,H,h=>by
  unfold Ry;rw[Ps λz=>h (XV _ z)];exact Z0 λz=>h (by rw[z];exact BA ..)
def yQ {a:WP}{o:HO}:∀{as:List WP} {ps:List (V×V)} {H:Hp},as.Nodup->a∈as->as.length=ps.length->Ry H as ps a=some o->∃(i:Nat) (p:V×V),as[i]?=some a/\ps[i]?=some p/\o=.tup [p.1,p.2]
 | [],_,_,_,h,_,_=>by cases h
 | _::_,[],_,_,_,h,_=>by cases h
 | b::as,p::ps,H,nd,h,d,e=>by
  unfold Ry at e;obtain⟨j,f⟩:=BU.mp nd;by_cases c:a∈as
  ·obtain⟨i,p',h1,h2,g⟩:=yQ f c (by simpa using d) e;exact⟨i+1,p',by simpa using h1,by simpa using h2,g⟩
  ·obtain rfl:a=b:=(BB.mp h).resolve_right c;rw[Ps c,Ya] at e;exact⟨0,p,FQ,FQ,(YH e).symm⟩
def qc {h:WU}{as:List WP}{ps:List (WQ×WQ)}(q:zw h as ps):∀{i:Nat} {a:WP},as[i]?=some a->∃p,ps[i]?=some p/\IsPair h a p.1 p.2:=by
 induction q with
 | nil=>intro i a e;simp at e
 | cons r t b=>
  intro i a e
  cases i with
  | zero=>simp at e;subst e;exact⟨_,FQ,r⟩
  | succ i=>exact b (by simpa using e)
def zV {a c:WW}{ta:TA}{p pos p2 on:Pos}(hc:X.calm=true)(hg:Gl X "list")(hm:X.mg "list"=none)(D:Gl X "zip")(E:X.mg "zip"=none)(ha:PA X [a,c] ta)(hs:starEach [a,c] X.env=(false,eval a X.env)::starEach [c] X.env:=by rfl)(hp:(backTo on (starEach [c] X.env)).any (·.1)=false:=by rfl)
  (t:starEach [.Call (.Name "zip" p2) [a,c] [] on] X.env=[(false,eval (.Call (.Name "zip" p2) [a,c] [] on) X.env)]:=by rfl) (hb:bootBuiltins "zip"=some (.type "zip"):=by decide+kernel) (G:bootBuiltins "list"=some (.type "list"):=by decide+kernel):
  PE X (.Call (.Name "list" p) [.Call (.Name "zip" p2) [a,c] [] on] [] pos) (ao X.K ta):=by
 intro WZ s σ H Q I h;refine Call_ (Tj I hg hm G (BF ?_ t FQ));rw[t];show wpAny _ _ (spliced ((false,eval (.Call (.Name "zip" p2) [a,c] [] on) X.env)::backTo pos [])) _ _ s;refine CD (Call_ (Tj I D E hb (BF (Y3 (ha on WZ s σ H _ I h) λus s1 z=>?_) hs hp)));obtain⟨vs,H1,B,r1,q1⟩:=z;obtain⟨l1,l2,xs,ys,rfl,L,U,C_,hsz,q⟩:=q1;obtain⟨u,v,rfl,ru,rv⟩:=r1.two
 cases ru
 cases rv
 obtain⟨d,w,Y,_⟩:=B.tuple L;obtain⟨f,x,j,_⟩:=B.tuple U;have l:l1<s1.heap.objs.size:=by obtain⟨_,e,_⟩:=Y;exact XD e
 have n:l2<s1.heap.objs.size:=by obtain⟨_,e,_⟩:=j;exact XD e
 have n1:d.toArray.size=xs.length:=by rw[XJ,<-w.length]
 have n2:f.toArray.size=ys.length:=by rw[XJ,<-x.length]
 refine Nk false false Y j λh2 N=>?_;refine DK ?_;generalize hk:s1.heap.objs.size=k at N l n;have Z:=Kp l n;have st:ZS (k+4) (k+2) (k+3) k (k+1) l1 l2 d.toArray f.toArray 0 h2:=by
  refine⟨.inl (hk▸N.zip),hk▸N.its,⟨_,_,hk▸N.own⟩,⟨⟨_,hk▸N.i1,FQ,FQ⟩,Heap.IsTuple.at (show s1.heap.IsTuple l1 d.toArray from Y) λo q=>N.keep _ o q⟩,⟨⟨_,hk▸N.i2,FQ,FQ⟩,Heap.IsTuple.at (show s1.heap.IsTuple l2 f.toArray from j) λo q=>N.keep _ o q⟩⟩
 have A_:∀b o,s1.heap.get? b=some o->b∉[k+4,k+3,k,k+1]:=λb o q hb=>by
  have:b<k:=hk▸XD q;simp only[ZM,ZN,or_false] at hb
  rcases hb with e | e | e | e
  ·rw[e] at this;exact DA (BG k 4) this
  ·rw[e] at this;exact DA (BG k 3) this
  ·rw[e] at this;exact BH k this
  ·rw[e] at this;exact DA (BG k 1) this
 have g:s1.heap.objs.size<=h2.objs.size:=by
  have:=XD (hk▸N.zip:IsZip h2 (k+4) (k+2) (k+3) .none);rw[hk];exact XN (BG _ _) (CG this)
 refine Bg (s:={s1 with heap:=h2}) (I.ok.hd hc) Z (XH l) (XH (CI n)) (by omega) (by omega) s1.heap A_ N.keep g (hk▸N.zip) st λh3 B_ as keep C pr nd hn=>?_;obtain⟨c3,C⟩:=C;have la:as.length=xs.length:=by
  have e:=pr.length;rw[CM] at e;simp at e n1 n2;omega
 have pa:h2.objs.size∉as:=λz=>(hn _ z).2 FQ;have y:∀a,s1.heap.objs.size<=a->H1 a=none:=λa e=>B.hok.fresh e;have lz:as.length=(xs.zip ys).length:=by rw[CM];omega
 have sl:(1000:Nat)<=sizeLine:=by decide
 refine⟨.ref _,_,B.laids (H':=Yq (Ry H1 as (xs.zip ys)) h2.objs.size (.lst (as.map V.ref))) (h':=h3) (t':=B_) keep (λa o e=>?_) (λa e=>?_) (λa o e r=>?_),FQ,q as _ la nd pa (y _ g) λa e=>y a (hn a e).1⟩
 ·have A:a≠h2.objs.size:=Jh e (y _ g);rw[Z0 A,Ps λz=>?_]
  ·exact e
  ·rw[y a (hn a z).1] at e;cases e
 ·have A:a≠h2.objs.size:=λz=>BH _ (XG (z▸e) g);rw[Z0 A,Ps λz=>BH _ (XG e (hn a z).1)]
 ·by_cases c:a=h2.objs.size
  ·subst c;rw[Ya] at r
   cases r
   refine⟨by rw[XI,la];omega,as.map Value.ref,c3,?_,C⟩;clear q h pr nd hn la lz pa C
   induction as with
   | nil=>exact .nil
   | cons b as ih=>exact .cons FQ (ih)
  ·rw[Z0 c] at r;by_cases m:a∈as
   ·obtain⟨i,pp,g1,g2,rfl⟩:=yQ nd m lz r;obtain⟨pv,g3,g4⟩:=qc pr g1;obtain⟨x1,x2⟩:=BL.mp g2;obtain⟨y1,y2⟩:=BL.mp g3;obtain⟨u1,w1,w2⟩:=w.get x1;obtain⟨u2,w3,w4⟩:=x.get x2;have A:u1=pv.1:=by rw[w1] at y1;exact YH y1
    have e2:u2=pv.2:=by rw[w3] at y2;exact YH y2
    subst A e2;exact⟨by show 2<=sizeLine;decide,[pv.1,pv.2],.cons w2 (.cons w4 .nil),⟨_,g4,FQ,_,FQ⟩⟩
   ·rw[Ps m,y a e] at r;cases r
end
end L2
namespace WL
def gA (xs ys:List T):List T:=(xs.zip ys).map λz=>.tup [z.1,z.2]
def aW (a:WA):WE:=λτ C Q χ=>a τ C (λvs C1=>∃xs ys:List T,vs=[.tup xs,.tup ys]/\xs.length=ys.length/\xs.length<=1000/\∀p,C1 p=none->Q (.ref p) (up C1 p (.lst (gA xs ys)))) χ
def uC {K:WY}{F:Hp}{C:Hw}:∀{as:List WP} {vs us:List V} {xs ys:List T} {H:Hp},as.Nodup->as.length=vs.length->vs.length=us.length->(∀a∈as,H a=none)->Rl K F H C->Reps K H vs xs->Reps K H us ys->
  Rl K F (Ry H as (vs.zip us)) C/\Tx H (Ry H as (vs.zip us))/\Reps K (Ry H as (vs.zip us)) (as.map V.ref) (gA xs ys)
 | [],vs,us,xs,ys,H,_,h1,h2,_,R,c,d=>by
  cases vs with
  | cons _ _=>cases h1
  | nil=>
   have e:xs=[]:=by have:=c.length;exact EK.mp this.symm
   subst e;unfold Ry;exact⟨R,Tx.refl H,Yy⟩
 | a::as,[],us,xs,ys,H,_,h1,_,_,_,_,_=>by cases h1
 | a::as,v::vs,[],xs,ys,H,_,_,h2,_,_,_,_=>by cases h2
 | a::as,v::vs,u::us,xs,ys,H,nd,h1,h2,hn,R,c,d=>by
  cases xs with
  | nil=>have:=c.length;cases this
  | cons x xs=>
  cases ys with
  | nil=>have:=d.length;cases this
  | cons y ys=>
  obtain⟨_,_,h,i,b1⟩:=Yk c
  cases h
  obtain⟨_,_,j,l,b2⟩:=Yk d
  cases j
  obtain⟨m,n⟩:=BU.mp nd;have f:=hn a (BA ..);have tn:Tx H (Yq H a (.tup [v,u])):=Tx.new f;rw[List.zip_cons_cons];show Rl K F (Ry (Yq H a (.tup [v,u])) as (vs.zip us)) C/\Tx H (Ry (Yq H a (.tup [v,u])) as (vs.zip us))/\Reps K (Ry (Yq H a (.tup [v,u])) as (vs.zip us)) (V.ref a::as.map V.ref) (.tup [x,y]::gA xs ys);obtain⟨o,g,p⟩:=uC (as:=as) (vs:=vs) (us:=us) (H:=Yq H a (.tup [v,u])) n (by simpa using h1) (by simpa using h2) (λb hb=>by
   rw[Z0 λz=>m (by rw[<-z];exact hb)];exact hn b (XV _ hb)) (R.hid f) (b1.tx tn) (b2.tx tn)
  refine⟨o,tn.trans g,Yl ?_ p⟩;exact(Xs (Tw.of Ya) (Yl (i.tx tn) (Yl (l.tx tn) Yy))).tx g
section
variable {X:Cx}{a c:WW}{wA:WA}{p pos p2 on:Pos}
def cE (hc:X.calm=true)(u:Gl X "list")(hm:X.mg "list"=none)(g:Gl X "zip")(i:X.mg "zip"=none)(ha:Lz X [a,c] wA)(hs:starEach [a,c] X.env=(false,eval a X.env)::starEach [c] X.env:=by rfl)(v:(backTo on (starEach [c] X.env)).any (·.1)=false:=by rfl)
  (j:starEach [.Call (.Name "zip" p2) [a,c] [] on] X.env=[(false,eval (.Call (.Name "zip" p2) [a,c] [] on) X.env)]:=by rfl):Ji X (.Call (.Name "list" p) [.Call (.Name "zip" p2) [a,c] [] on] [] pos) (aW wA):=by
 obtain⟨t,w,s⟩:=ha;refine⟨_,zV hc u hm g i w hs v j,λF H C σ τ Q Q' χ R S h q=>?_⟩;refine s F H C σ τ _ _ χ R S h λxs vs H1 C1 R1 t1 rs h1=>?_;obtain⟨zs,ts,rfl,I,hz,h1⟩:=h1;obtain⟨L,N,rfl,x,rs⟩:=Yk rs;obtain⟨U,Y,rfl,y,rs⟩:=Yk rs
 cases Xx rs
 obtain⟨z,b,rfl,l,o⟩:=Yn x;obtain⟨A,d,rfl,m,r⟩:=Yn y;have l1:=o.length;have l2:=r.length;refine⟨z,A,b,d,FQ,l,m,by omega,by omega,λas n B nd np e hn=>?_⟩;obtain⟨D,E,G⟩:=uC nd B (by omega) hn R1 o r;have f:Ry H1 as (b.zip d) n=none:=by rw[Ps np];exact e
 have tn:Tx (Ry H1 as (b.zip d)) (Yq (Ry H1 as (b.zip d)) n (.lst (as.map V.ref))):=Tx.new f;exact q _ _ _ _ (D.newL f G) (t1.trans (E.trans tn)) Yu (h1 n (R1.free e))
end
section
variable {X:Cx}{o e f:WW}{wo wi wd:WE}{c_ f_:Pos}
def aZ (o i d:WE):WE:=λτ C Q χ=>o τ C (λx C1=>(∃a kvs,x=.ref a/\C1 a=some (.dic kvs))/\i τ C1 (λy C2=>d τ C2 (λz b=>∃a kvs k,x=.ref a/\kT y=some k/\b a=some (.dic kvs)/\kvs.length<sizeLine/\
 (∀v,Ys kvs k=some v->Q v b)/\(Ys kvs k=none->Q z (up b a (.dic (J8 kvs k z))))) χ) χ) χ
end
end WL
namespace HT
section
variable {prog:WO}{w:WN}{A:WM}{E:WQ->WR->Prop}{s:WR}
def getItem_tuple_all {t sl:WP}{a:Array WQ}{vl g:WQ}{lo hi:Option Int}{Q:WQ->WR->Prop}(b:IsTup s.heap t a)(hs:s.heap.IsSliceOf sl vl g .none)(pl:IsPart vl lo)(i:IsPart g hi)
  (h1:sIx a.size 0 lo=0) (h2:sIx a.size a.size hi=a.size) (h:Q (.ref t) s):wpAny (model prog w) A (getItem (.ref t) (.ref sl)) Q E s:=by
 obtain⟨os,d,e,j⟩:=id hs;have f:s.TypeIs (.ref sl) "slice":=⟨os,d,e⟩;unfold getItem
 try with_reducible refine wpAny_holding ?_
 first | refine XA (XB ?_) | skip
 refine XA (wpAny_sequenceKey b.typeIs (by decide) ?_);refine XA (wpAny_callSpecial?_slot (name:=Str.ofString "__getitem__") b.typeIs CF
  (wpAny_call_entry CF b.typeIs entry_tuple_getitem ?_ (args_tuple_getitem _ _)))
 show wpAny _ _ (Builtin.Tuple.tupleItemsOf (.ref t)>>=_) _ _ s;refine XA (tupleItemsOf_ b ?_);refine XA (wpAny_typeOf f ?_);rw[XY (by decide)];refine XA (Rk hs pl i ?_);have c:(((sIx a.size 0 lo:Nat):Int)==0&&(1:Int)==1&&(sIx a.size a.size hi-sIx a.size 0 lo)==a.size)=true:=by
  rw[h1,h2];simp
 show wpAny _ _ (if (((sIx a.size 0 lo:Nat):Int)==0&&(1:Int)==1&&(sIx a.size a.size hi-sIx a.size 0 lo)==a.size)=true then _ else _) _ _ s;rw[XY c];refine XA ?_;unfold Builtin.Tuple.tupleIsExact
 first
  | refine XA (wpAny_typeOf b.typeIs (XB ?_))
  | refine wpAny_typeOf b.typeIs ?_
 rw[XY (by decide)];exact XA (wpAny_rule (XB ⟨_,FQ,XB h⟩))
end
end HT
namespace L2
section
variable {X:Cx}
def dI (K:WY):V->Option Int->Option Int->Hp->VK->Prop:=λx lo hi H Q=>∃a xs,x=.ref a/\Tw K H a xs/\HT.sIx xs.length 0 lo=0/\HT.sIx xs.length xs.length hi=xs.length/\Q (.ref a) H
def rF:sY X (dI X.K):=by
 intro WZ s σ H x v vl f lo hi sl Q I d hs pl e h;obtain⟨a,xs,rfl,hx,h1,h2,q⟩:=h
 cases d
 obtain⟨its,r,c,hz⟩:=I.tuple hx;have b:its.toArray.size=xs.length:=by rw[XJ];exact r.length.symm
 refine⟨"tuple",_,PyProof.Rows.slot_tuple_getitem.lookup,c.typeIs,?_⟩;exact HT.getItem_tuple_all c hs pl e (by rw[b];exact h1) (by rw[b];exact h2) ⟨.ref a,H,I,FQ,q⟩
end
end L2
namespace WL
def i4:T->Option Int->Option Int->Hw->WK->Prop
 | .tup xs,lo,hi,C,Q=>Q (.tup (Ep xs lo hi)) C
 | _,_,_,_,_=>False
def cv (a:WE)(lo hi:Sw->Hw->(Option Int->Hw->Prop)->WX->Prop):WE:=λτ C Q χ=>a τ C (λx C1=>lo τ C1 (λl C2=>hi τ C2 (λh b=>i4 x l h b Q) χ) χ) χ
section
variable {X:Cx}{a:WW}{wa:WE}{pos:Pos}
def gM:bT X i4:=⟨_,vq.or rF,λF H C x v lo hi Q Q' R d h q=>by
 cases v with
 | tup xs=>
  obtain⟨a,ys,rfl,hq,r⟩:=Yn d;by_cases c:HT.sIx ys.length 0 lo=0/\HT.sIx ys.length ys.length hi=ys.length
  ·refine .inr ⟨a,ys,FQ,hq,c.1,c.2,q _ _ H C R (Tx.refl H) (Xs hq r) ?_⟩;have e:Ep xs lo hi=xs:=by
    unfold Ep;rw[<-r.length,c.1,c.2];simp[r.length]
   have h:Q' (.tup (Ep xs lo hi)) C:=h;rw[e] at h;exact h
  ·exact .inl ⟨a,ys,FQ,hq,c,λp b=>q _ _ _ C (R.hid b) (Tx.new b) (Xs (Tw.of Ya) ((Mj r lo hi).tx (Tx.new b))) h⟩
 | _=>exact False.elim h⟩
def fF {lo hi:Option WW}{c wh:Sw->Hw->(Option Int->Hw->Prop)->WX->Prop}{p2:Pos}(ha:Ji X a wa)(e:ip X lo c)(f:ip X hi wh):Ji X (.Subscript a (.Slice lo hi none p2) pos) (cv wa c wh):=by
 obtain⟨r,h1,h2⟩:=gM (X:=X);obtain⟨ta,g,s1⟩:=ha;obtain⟨tl,i,j⟩:=e;obtain⟨th,m,n⟩:=f;refine⟨_,Aq h1 g i m,λF H C σ τ Q Q' χ R S h q=>?_⟩;refine s1 F H C σ τ _ _ χ R S h λx v H1 C1 R1 t1 o h1=>?_;refine j F H1 C1 σ τ _ _ χ R1 (S.tx t1) h1 λl H2 C2 R2 t2 b=>?_;refine n F H2 C2 σ τ _ _ χ R2 (S.tx (t1.trans t2)) b λu p s R3 d t=>?_;exact h2 F p s x v l u Q Q' R3 ((o.tx t2).tx d) t (QE.at q ((t1.trans t2).trans d))
end
end WL
namespace L2
def Zap (o:Obj)(d:WP)(ks:List (Z8×V)):It:=
 ⟨λi H=>H d=some (.frz o (.dK ks))/\i<ks.length,λi H x H'=>∃kv T,ks[i]?=some kv/\x=.ref T/\H T=none/\H'=Yq H T (.tup [kV kv.1,kv.2]),λi H=>H d=some (.frz o (.dK ks))/\i=ks.length⟩
section
variable {X:Cx}{e:WW}{h_:List WW}{ek:Nat}{i_ c_ f_:Pos}
def aN (td:TE):TI:=λσ H R=>td σ H λx H1=>∃d ks,x=.ref d/\Rd H1 d (.dK ks)/\∀o,(∀o',H1 d=some (.frz o' (.dK ks))->o'=o)->R (Zap o d ks) (Yq H1 d (.frz o (.dK ks)))
end
end L2
namespace WL
section
variable {X:Cx}{e:WW}{we:WE}
def rI (kvs:List (Z8×T)):List T:=kvs.map λkv=>.tup [tK kv.1,kv.2]
end
end WL
namespace L2
open AutoSeq1 (wpAny_loadPart')
open Builtin
section
variable {X:Cx}
def dH:V->List V->Hp->VK->Prop:=λx vs H Q=>∃z y,x=.str z/\vs=[.str y]/\(y.length==0)=false/\z.length<=sizeLine/\(Txt.split z y).length<=sizeLine/\∀p,H p=none->Q (.ref p) (Yq H p (.lst ((Txt.split z y).map V.str)))
end
end L2
namespace WL
section
variable {X:Cx}{e:WW}{we:WE}{pos p p2 on:Pos}
def eN (we:WE):WE:=λτ C Q χ=>we τ C (λv C1=>∃ts:List Str,((v=.tup (ts.map T.str))\/∃a,v=.ref a/\C1 a=some (.lst (ts.map T.str)))/\ts.length+1<scanBound/\∀ys:List Str,ys.Nodup->(∀y,y∈ys↔y∈ts)->Q (.int (ys.length:Int)) C1) χ
end
end WL
namespace L2
section
variable {X:Cx}{st:WV}{Yc:List WV}{t u:TS}{pos:Pos}
def iI {α:Type}{t:Sem α}{Q:α->WR->Prop}{M:Model}{A:WM}{E:WQ->WR->Prop}{s:WR}(h1:1<=s.toks)(h:wpAny M A t (λa s'=>1<=s'.toks->Q a s') E s):wpAny M A t Q E s:=
 Y3 (Io h1 h) λ_ _ z=>z.2 z.1
def w9 (X:Cx)(e:WW)(t:TE):Prop:=
 ∀(WZ:List (WP×Obj)) (s:WR) (σ:St) (H:Hp) (Q:VK),1<=s.toks->Zq X WZ σ H s->t σ H Q->wpAny (model X.prog X.w) X.A (eval e X.env) (EP X WZ σ Q) X.xe s
def eW (X:Cx)(es:List WW)(t:TA):Prop:=
 ∀(pos:Pos) (WZ:List (WP×Obj)) (s:WR) (σ:St) (H:Hp) (Q:List V->Hp->Prop),1<=s.toks->Zq X WZ σ H s->t σ H Q->wpAny (model X.prog X.w) X.A (spliced (backTo pos (starEach es X.env))) (AP X WZ σ Q) X.xe s
def kS (X:Cx)(st:WV)(t:TS):Prop:=
 ∀(WZ:List (WP×Obj)) (s:WR) (σ:St) (H:Hp) (D:Nn),1<=s.toks->Zq X WZ σ H s->t D σ H->wpAny (model X.prog X.w) X.A (exec st X.env) (SP X WZ D) X.xe s
def Lp (X:Cx)(st:List WV)(t:TS):Prop:=
 ∀(WZ:List (WP×Obj)) (s:WR) (σ:St) (H:Hp) (D:Nn),1<=s.toks->Zq X WZ σ H s->t D σ H->wpAny (model X.prog X.w) X.A (execs st X.env) (SP X WZ D) X.xe s
def cW (X:Cx)(st:WV)(t:TS):Prop:=
 ∀(WZ:List (WP×Obj)) (s:WR) (σ:St) (H:Hp) (D:Nn),Zq X WZ σ H s->t D σ H->wpAny (model X.prog X.w) X.A (exec st X.env) (λf s'=>1<=s'.toks/\SP X WZ D f s') X.xe s
def PE.one {e:WW}{t:TE}(h:PE X e t):w9 X e t:=λWZ s σ H Q _ I q=>h WZ s σ H Q I q
def PA.one {es:List WW}{t:TA}(h:PA X es t):eW X es t:=λpos WZ s σ H Q _ I q=>h pos WZ s σ H Q I q
def PS.one (h:PS X st t):kS X st t:=λWZ s σ H D _ I q=>h WZ s σ H D I q
def Bz.one (h:Bz X Yc t):Lp X Yc t:=λWZ s σ H D _ I q=>h WZ s σ H D I q
set_option tactic.hygienic true in
def xw (h1:kS X st t)(h2:Lp X Yc u):Lp X (st::Yc) (nI t u):=by
 intro WZ s σ H D k I h;refine wpAny_execs_cons (Y3 (Io k (h1 WZ s σ H {D with nx:=u D} k I h)) λf s1 q=>?_);obtain⟨k1,q⟩:=q
 cases f with
 | next=>
  obtain⟨y_,H',a,q⟩:=q;exact h2 WZ s1 y_ H' D k1 a q
 | ret v=>exact q
 | brk=>exact q
 | cont=>exact q
set_option tactic.hygienic true in
def xv (h1:cW X st t)(h2:Lp X Yc u):Bz X (st::Yc) (nI t u):=by
 intro WZ s σ H D I h;refine wpAny_execs_cons (Y3 (h1 WZ s σ H {D with nx:=u D} I h) λf s1 q=>?_);obtain⟨k1,q⟩:=q
 cases f with
 | next=>
  obtain⟨y_,H',a,q⟩:=q;exact h2 WZ s1 y_ H' D k1 a q
 | ret v=>exact q
 | brk=>exact q
 | cont=>exact q
set_option tactic.hygienic true in
def vR (h1:kS X st t):Lp X [st] t:=by
 intro WZ s σ H D k I h;refine wpAny_execs_cons (Y3 (h1 WZ s σ H D k I h) λf s1 q=>?_)
 cases f with
 | next=>exact wpAny_execs_nil q
 | ret v=>exact q
 | brk=>exact q
 | cont=>exact q
def qa {e:WW}{te:TE}(a:w9 X e te):kS X (.Return (some e) pos) (iM te):=by
 intro WZ s σ H D k I h;exact wpAny_Return_some (Y3 (a WZ s σ H _ k I h) λv s1 ⟨x,H1,b,c,d⟩=>⟨x,σ,H1,b,c,d⟩)
def ui {a b:WW}{ta tb:TE}{op:CmpOp}{r:R2}(c:M4 X (compareOp op) r)(ha:w9 X a ta)(hb:PE X b tb)(hm:behindInMarks op b=false):w9 X (.Compare a [op] [b] pos) (nK r ta tb):=by
 intro WZ s σ H Q k I h;refine wpAny_Compare1 (Y3 (ha WZ s σ H _ k I h) λv s1 ⟨x,H1,d,e,f⟩=>?_) hm;refine Y3 (hb WZ s1 σ H1 _ d f) λu s2 ⟨y,H2,g,i,j⟩=>?_;exact c WZ s2 σ H2 x y v u Q g e i j
end
structure Kc (P:Program)(w:World)(K:W.Frag)(mg:Str->Option Value)(base:Heap)(k:Nat)(f:Addr)(fd:FuncData)(ps:List Str)(sp:Sp):Prop where
 len:∀vs H Q E,sp vs H Q E->vs.length=ps.length
 run:∀(A:WM) (outer:List Env) (s:WR) (H:Hp) (args:Args) (us:List WQ) (vs:List V) (Q:VK) (E:XK),1<=s.toks->Y8 k A->Fk P w K mg base A outer s H->BindsTo s fd args (ps.zip us)->Z5 vs us->sp vs H Q E->
  codeAny (model P w) A (.call (.ref f) args) (CR CX0 outer P w H s Q E) s
def Ww.one {P:WO}{w:WN}{K:WY}{mg:Str->Option WQ}{base:WU}{k:Nat}{f:WP}{fd:VZ}{ps:List Str}{sp:Sp}(F:Ww P w K mg base CX0 k f fd ps sp):Kc P w K mg base k f fd ps sp:=
 ⟨F.len,λA outer s H args us vs Q E _=>F.run A outer s H args us vs Q E⟩
section
variable {X:Cx}{k:Nat}{f:WP}{fd:VZ}{ps:List Str}{sp:Sp}{x:Str}{p pos:Pos}{e:WW}{es:List WW}{t:TA}
set_option tactic.hygienic true in
def ja {WZ:List (WP×Obj)}{σ:St}{H:Hp}{s:WR}{Q:VK}{us:List WQ}{vs:List V}(F:Kc X.prog X.w X.K X.mg X.base k f fd ps sp)(b:Y8 k X.A)(hb:Xv X.K fd ps [])(h1:1<=s.toks)
  (I:Zq X WZ σ H s) (r:Z5 vs us) (h:sp (vs++[]) H Q E0):wpAny (model X.prog X.w) X.A (call (.ref f) us) (EP X WZ σ Q) X.xe s:=by
 have a:Z5 (vs++[]) (us++[]):=r.append .nil;have c:(us++[]).length=ps.length:=by rw[<-a.length];exact F.len _ _ _ _ h
 refine wpAny_call (codeAny_mono (F.run X.A X.stack s H ⟨us,[]⟩ (us++[]) (vs++[]) Q E0 h1 b I.env0 (hb s us I.kIn c) a h) λr s' hq=>?_)
 cases r with
 | error e=>exact(Ja:Uo CX0 X E0) WZ σ H s e s' I hq
 | ok d=>
  cases d with
  | ret u=>exact I.after hq
  | next=>exact False.elim hq
  | brk=>exact False.elim hq
  | cont=>exact False.elim hq
structure ez (P:Program)(w:World)(K:W.Frag)(mg:Str->Option Value)(base:Heap)(k:Nat)(x:Str)(ps:List Str)(sp:Sp):Prop where
 ex:∃(f:WP) (fd:VZ),Kc P w K mg base k f fd ps sp/\Xv K fd ps []/\W.keepIn K (.ref f)=true/\mg x=some (.ref f)
def Ca.one {P:WO}{w:WN}{K:WY}{mg:Str->Option WQ}{base:WU}(C:Ca P w K mg base k x ps sp):ez P w K mg base k x ps sp:=by
 obtain⟨f,fd,F,r⟩:=C.ex;exact⟨f,fd,F.one,r⟩
def mG (C:ez X.prog X.w X.K X.mg X.base k x ps sp)(d:Y8 k X.A)(g:Gl X x)(ha:eW X (e::es) t)
  (a:(x==("__debug__":Str))=false:=by decide) (i:starEach (e::es) X.env=(false,eval e X.env)::starEach es X.env:=by rfl) (b:(backTo pos (starEach es X.env)).any (·.1)=false:=by rfl):
  w9 X (.Call (.Name x p) (e::es) [] pos) (yT sp [] E0 t):=by
 obtain⟨f,fd,F,B,kp,m⟩:=C.ex;intro WZ s σ H Q h1 I h;refine wpAny_Call_Name_kw (T8 I g m ?_ a);refine ET (h₀:=X.base) I.ok.mod.kin kp (Y3 (Io h1 (ha pos WZ s σ H _ h1 I h)) λus s1 ⟨k1,vs,H1,c,r,q⟩=>⟨c.kIn,?_⟩) i b;exact ja F d B k1 c r q
end
set_option tactic.hygienic true in
def lX {P:WO}{w:WN}{K:WY}{mg:Str->Option WQ}{base:WU}{k:Nat}{f:WP}{name qual:Str}{params:Arguments}{body:List WV}{scope:Scope}{dV kV doc pm e_ ct oc:WQ}{an od:Option WP}
  {osl:Array (Option WQ)} {N ps:List Str} {sp:Sp} (lk:K.lookup f=some ⟨oc,od,.func (W.fnOf name qual params body scope dV kV doc pm an e_ ct),osl⟩) (h:W.codeIn K e_ qual=true) (S:Zt N ps scope)
  (len:∀vs H Q E,sp vs H Q E->vs.length=ps.length)
  (a:∀(A:WM) (outer:List Env) (s:WR) (H:Hp) (vs:List V) (Q:VK) (E:XK),Y8 k (A.deeper (envOfC qual scope s.heap.objs.size f e_))->sp vs H Q E->
   ∃t,Lp (Uc CX0 P w K mg base N qual scope f e_ A outer s H E) body t/\t {nx:=λ_ H'=>Q .non H',rt:=Q} (start N vs) H):
  Kc P w K mg base (k+1) f (W.fnOf name qual params body scope dV kV doc pm an e_ ct) ps sp:=by
 refine⟨len,λA outer s H args us vs Q E h1 i d hb r g=>?_⟩;have p:=len _ _ _ _ g;have m:K.In s.heap:=d.mod.kin.keeps λb o e=>(d.bs b o e).1;have j:s.heap.NoLimit:=d.mod.nolimit.keeps λb o e=>(d.bs b o e).1;have c:∀y∈ps.zip us,scope.names.lookup y.1=some .local\/(scope.names.lookup y.1=some .cell/\((cellsFrom (s.heap.objs.size+1) scope.names []).lookup y.1).isSome=true):=λ⟨n,v⟩ hy=>by
  rcases S.par n (CH hy).1 with q | q
  ·exact .inl q
  ·exact .inr ⟨q,FK _ _ _ (.inl q)⟩
 refine codeAny_call_function i.depth (m _ _ lk) FQ S.co S.gen FQ (W.codeRec_of m h) (hb _ _ _ _ ?_);refine iI h1 (wpAny_newFunctionEnv_cells S.kind c λenv z s1 x k1=>?_);subst z;refine⟨j.keeps x.toInCall.keep,codeAny_func ?_⟩;obtain⟨t,B,hq⟩:=a A outer s H vs Q E (i.deeper _) g;have I:Zq (Uc CX0 P w K mg base N qual scope f e_ A outer s H E) [] (start N vs) H s1:=Ef S i.hd d p r x;refine wpAny_mono (B [] s1 (start N vs) H _ k1 I hq) (λC s' hs=>?_) λe s' hs=>hs;have fin:∀{y_:St} {H':Hp} {v:V} {u:WQ},Zq (Uc CX0 P w K mg base N qual scope f e_ A outer s H E) [] y_ H' s'->Z9 v u->Q v H'->CE outer P w H s Q u s':=
  λ{y_ H' v u} J l q=>⟨v,H',J.os,J.bare,J.base,J.hok,l,q⟩
 cases C with
 | ret u=>
  obtain⟨v,y_,H',J,l,q⟩:=hs;exact fin J l q
 | next=>
  obtain⟨y_,H',J,q⟩:=hs;exact fin (v:=V.non) (u:=Value.none) J FQ q
 | brk=>
  obtain⟨_,_,_,q⟩:=hs;exact False.elim q
 | cont=>
  obtain⟨_,_,_,q⟩:=hs;exact False.elim q
def Lp.nox {X:Cx}{st:List WV}{t:TS}(h:Lp X.nox st t):Lp X st t:=λWZ s σ H D k I hw=>
 wpAny_mono (h WZ s σ H D k (I.wish _) hw) (λf s' q=>q.unwish) λ_ _ z=>z.elim
section
variable {P:WO}{w:WN}{K:WY}{mg:Str->Option WQ}{base:WU}
def Kk.ok1 {x qual:Str}{st:WV}{f:WP}{fd:VZ}{N ps:List Str}{k:Nat}{sp:Sp}(F:Kk K x qual st f fd)(S:Zt N ps (Zj st))(len:∀vs H Q E,sp vs H Q E->vs.length=ps.length)
  (y:∀(e_:WQ) (A:WM) (outer:List Env) (s:WR) (H:Hp) (vs:List V) (Q:VK) (E:XK),Y8 k (A.deeper (envOfC qual (Zj st) s.heap.objs.size f e_))->sp vs H Q E->
   ∃t,Lp (Uc CX0 P w K mg base N qual (Zj st) f e_ A outer s H E).nox (Y6 st) t/\t {nx:=λ_ H'=>Q .non H',rt:=Q} (start N vs) H):Kc P w K mg base (k+1) f fd ps sp:=by
 obtain⟨oc,od,kV,doc,pm,an,e_,ct,osl,rfl,lk,a⟩:=F.ex;refine lX lk a S len λA outer s H vs Q E c b=>?_;obtain⟨t,h,q⟩:=y e_ A outer s H vs Q E c b;exact⟨t,h.nox,q⟩
end
end L2
namespace WL
def Mx (X:Cx)(e:WW)(w:WE):Prop:=∃t,w9 X e t/\Tq X.K t w
def kP (X:Cx)(es:List WW)(w:WA):Prop:=∃t,eW X es t/\Bv X.K t w
def w6 (X:Cx)(st:WV)(w:WS):Prop:=∃t,kS X st t/\Gs X.K t w
def pZ (X:Cx)(st:WV)(w:WS):Prop:=∃t,cW X st t/\Gs X.K t w
def Gu (X:Cx)(st:List WV)(w:WS):Prop:=∃t,Lp X st t/\Gs X.K t w
section
variable {X:Cx}{e a b o:WW}{es:List WW}{st:WV}{Yc:List WV}{we wa wb wo:WE}{wA:WA}{w u:WS}{pos p f_ c_:Pos}
def Ji.one (h:Ji X e we):Mx X e we:=by obtain⟨t,p,s⟩:=h;exact⟨t,p.one,s⟩
def Lz.one (h:Lz X es wA):kP X es wA:=by obtain⟨t,p,s⟩:=h;exact⟨t,p.one,s⟩
def Lo.one (h:Lo X st w):w6 X st w:=by obtain⟨t,p,s⟩:=h;exact⟨t,p.one,s⟩
def E5.one (h:E5 X Yc w):Gu X Yc w:=by obtain⟨t,p,s⟩:=h;exact⟨t,p.one,s⟩
def tV {w:W2}{op:CmpOp}(c:Gy X (compareOp op) w)(ha:Mx X a wa)(hb:Ji X b wb)(hm:behindInMarks op b=false):Mx X (.Compare a [op] [b] pos) (X5 w wa wb):=by
 obtain⟨r,h1,h2⟩:=c;obtain⟨ta,d,s1⟩:=ha;obtain⟨tb,p2,s2⟩:=hb;exact⟨_,ui h1 d p2 hm,xp s1 s2 h2⟩
def pi (a:Mx X e we):w6 X (.Return (some e) pos) (N4 we):=by
 obtain⟨t,p,s⟩:=a;refine⟨_,qa p,λF H C σ τ D D' R S h d=>?_⟩;exact s F H C σ τ _ _ D'.xc R S h d.rt
def Ba (a:w6 X st w):Gu X [st] w:=by
 obtain⟨t,p,s⟩:=a;exact⟨_,vR p,s⟩
def Xi (a:w6 X st w)(b:Gu X Yc u):Gu X (st::Yc) (Su w u):=by
 obtain⟨t,p,s⟩:=a;obtain⟨t',p',s'⟩:=b;refine⟨_,xw p p',λF H C σ τ D D' R S h d=>?_⟩;exact s F H C σ τ _ _ R S h ⟨λy_ c H' C' R' t' e h'=>s' F H' C' y_ c D D' R' e h' (d.at t'),d.rt,d.bk,d.ct⟩
def tO (a:pZ X st w)(b:Gu X Yc u):E5 X (st::Yc) (Su w u):=by
 obtain⟨t,p,s⟩:=a;obtain⟨t',p',s'⟩:=b;refine⟨_,xv p p',λF H C σ τ D D' R S h d=>?_⟩;exact s F H C σ τ _ _ R S h ⟨λy_ c H' C' R' t' e h'=>s' F H' C' y_ c D D' R' e h' (d.at t'),d.rt,d.bk,d.ct⟩
def K7 {k i:Nat}{x:Str}{ps:List Str}{pr:List Df}(c:ez X.prog X.w X.K X.mg X.base k x ps (spW X.K pr k i))(d:Y8 k X.A)(f:Gl X x)(ha:kP X (e::es) wA)
  (a:(x==("__debug__":Str))=false:=by decide) (g:starEach (e::es) X.env=(false,eval e X.env)::starEach es X.env:=by rfl) (b:(backTo pos (starEach es X.env)).any (·.1)=false:=by rfl):
  Mx X (.Call (.Name x p) (e::es) [] pos) (Xh (Jo pr k) i wA):=by
 obtain⟨t,j,s⟩:=ha;refine⟨_,mG c d f j a g b,λF H C σ τ Q Q' χ R S h q=>?_⟩;refine s F H C σ τ _ _ χ R S h λxs vs H1 C1 R1 t1 rs h1=>?_;refine⟨F,C1,vs,Q',χ,R1,?_,h1,QE.at q t1⟩;rw[YK];exact rs
end
def lW {P:WO}{w:WN}{K:WY}{mg:Str->Option WQ}{base:WU}{x qual:Str}{st:WV}{f:WP}{fd:VZ}{N ps:List Str}{pr:List Df}{n i:Nat}{d:Df}(F:Kk K x qual st f fd)(S:Zt N ps (Zj st))(hd:pr[i]?=some d)(hn:d.n=N.length)(b:d.ar=ps.length)
  (hb:∀(e_:WQ) (A:WM) (outer:List Env) (s:WR) (H:Hp) (E:XK),Y8 n (A.deeper (envOfC qual (Zj st) s.heap.objs.size f e_))->Gu (Uc CX0 P w K mg base N qual (Zj st) f e_ A outer s H E).nox (Y6 st) (d.body (Jo pr n))):
  Kc P w K mg base (n+1) f fd ps (spW K pr (n+1) i):=by
 refine F.ok1 S (λvs H Q E h=>?_) (λe_ A outer s H vs Q E j h=>?_)
 ·obtain⟨g,C,c,Q',χ,R,rs,⟨d',a,e,_⟩,_⟩:=h;rw[hd] at a;cases a;rw[rs.length,e,b]
 ·obtain⟨g,C,c,Q',χ,R,rs,⟨d',a,e,h⟩,q⟩:=h;rw[hd] at a;cases a;obtain⟨t,p,l⟩:=hb e_ A outer s H E j;refine⟨t,p,l g H C _ _ _ _ R (Xd.start rs N _ (by rw[rs.length,e,hn])) h ⟨λσ τ H' C' R' t' _ h'=>q .non .non H' C' R' t' T4 h',q,λ_ _ _ _ _ _ _ z=>z.elim,λ_ _ _ _ _ _ _ z=>z.elim⟩⟩
end WL
namespace L2
def eh (P:Params):List DictEntry->List (Str×Int)->Prop
 | [],[]=>True
 | e::l,(x,i)::r=>((∃t,e.key=.str x t)/\e.hash=PyData.keyHash P x/\∃t,e.val=.int i t)/\eh P l r
 | _,_=>False
structure Zbb (w:World)(K:W.Frag)(mg:Str->Option Value)(x:Str)(kvs:List (Str×Int)):Prop where
 ex:∃(a:WP) (es:Array DictEntry) (n:Nat),mg x=some (.ref a)/\(a==sysModules)=false/\K.lookup a=some ⟨.type "dict",none,.dict es n,#[]⟩/\eh w.params es.toList kvs
end L2
namespace WL
def aa:W2:=λv u C Q=>match v,u with
 | .ref a,.tup ts=>(∃xs,C a=some (.lst xs))/\(∃zs:List Str,ts=zs.map T.str)/\Q (.bl false) C
 | v,u=>bu v u C Q
end WL
namespace L2
section
variable {X:Cx}{pos p:Pos}{e:WW}{es:List WW}{te:TE}{t:TA}
def fX (X:Cx)(es:List WW)(t:TA):Prop:=
 ∀(pos:Pos) (WZ:List (WP×Obj)) (s:WR) (σ:St) (H:Hp) (Q:List V->Hp->Prop),Zq X WZ σ H s->t σ H Q->wpAny (model X.prog X.w) X.A (spliced (backTo pos (starEach es X.env))) (λus s'=>1<=s'.toks/\AP X WZ σ Q us s') X.xe s
def qv {i:Int}{j:Nat}{lp:Pos}(a:PA X es t)(hs:starEach (.Constant (.int i) j lp::es) X.env=(false,eval (.Constant (.int i) j lp) X.env)::starEach es X.env:=by rfl):fX X (.Constant (.int i) j lp::es) (Ab (tC (.int i)) t):=by
 intro pos WZ s σ H Q I h;rw[hs];show wpAny _ _ (spliced ((false,eval (.Constant (.int i) j lp) X.env)::backTo pos (starEach es X.env))) _ _ s;refine CD (wpAny_Constant_int ?_);refine iI (s:={s with toks:=s.toks+1}) (FO _ _) ?_;exact Y3 (a pos WZ _ σ H _ (I.tok _) h) λus s2 ⟨xs,H2,b,c,d⟩ k=>⟨k,.int i::xs,H2,b,.cons ⟨_,FQ⟩ c,d⟩
def uj (ha:PE X e te)(a:fX X es t)(hs:starEach (e::es) X.env=(false,eval e X.env)::starEach es X.env:=by rfl):fX X (e::es) (Ab te t):=by
 intro pos WZ s σ H Q I h;rw[hs];show wpAny _ _ (spliced ((false,eval e X.env)::backTo pos (starEach es X.env))) _ _ s;refine CD (Y3 (ha WZ s σ H _ I h) λu s1 ⟨x,H1,b,c,d⟩=>?_);exact Y3 (a pos WZ s1 σ H1 _ b d) λus s2 ⟨k,xs,H2,f,g,i⟩=>⟨k,x::xs,H2,f,.cons c g,i⟩
def vS {k i:Nat}{x y:Str}{ps:List Str}{sp:Sp}{n_ c_:Pos}(C:Ca X.prog X.w X.K X.mg X.base k x ps sp)(d:Y8 k X.A)(g:Gl X x)(ha:fX X (e::es) t)(j:X.N.Nodup)(hi:X.N[i]?=some y)(hx:nh X.env.scope y)
  (a:(x==("__debug__":Str))=false:=by decide) (l:starEach (e::es) X.env=(false,eval e X.env)::starEach es X.env:=by rfl) (b:(backTo pos (starEach es X.env)).any (·.1)=false:=by rfl)
  (hs:swapsWith (.Call (.Name x p) (e::es) [] pos) (some (.Name y n_)) c_.line X.env=pure false:=by rfl) (n:X.fn y=true\/X.env.scope.names.lookup y=some .local:=by first | exact .inl FQ | exact .inr FQ | assumption):
  cW X (.Assign [.Name y n_] (.Call (.Name x p) (e::es) [] pos) c_) (nN (yT sp [] E0 t) (Wd i)):=by
 obtain⟨f,fd,F,B,kp,m⟩:=C.one.ex;intro WZ s σ H D I h;refine wpAny_Assign_Name (wpAny_Call_Name_kw (T8 I g m ?_ a)) hs;refine ET (h₀:=X.base) I.ok.mod.kin kp (Y3 (ha pos WZ s σ H _ I h) λus s1 ⟨k1,vs,H1,c,r,q⟩=>⟨c.kIn,?_⟩) l b;refine Y3 (Io k1 (ja F d B k1 c r q)) λv s2 ⟨k2,G,H2,o,u,z⟩=>?_;exact Io k2 (Ny o j hi hx u (λL E=>⟨_,H2,E,z⟩) n)
def qu {a b:WW}{Yc:List WW}{ta tb:TE}(ha:w9 X a ta)(hb:w9 X (.BoolOp .And (b::Yc) pos) tb):w9 X (.BoolOp .And (a::b::Yc) pos) (vn ta tb):=by
 intro WZ s σ H Q k I h;refine BoolOp_and (Y3 (Io k (ha WZ s σ H _ k I h)) λv s1 ⟨k1,x,H1,e,f,d⟩=>?_);obtain⟨c,rfl,d⟩:=d
 cases f
 refine wpAny_truthy_bool ?_
 cases c with
 | true=>exact hb WZ s1 σ H1 Q k1 e d
 | false=>exact⟨.bl false,H1,e,FQ,d⟩
def uh {op:BoolOp}{a:WW}{ta:TE}(ha:w9 X a ta):w9 X (.BoolOp op [a] pos) ta:=by
 intro WZ s σ H Q k I h;exact BoolOp_one (ha WZ s σ H Q k I h)
end
end L2
namespace WL
section
variable {X:Cx}{pos p:Pos}{a b e:WW}{es Yc:List WW}{wa wb:WE}{wA:WA}
def oj (X:Cx)(es:List WW)(w:WA):Prop:=∃t,fX X es t/\Bv X.K t w
def pz {i:Int}{j:Nat}{lp:Pos}(hb:Lz X es wA)(hs:starEach (.Constant (.int i) j lp::es) X.env=(false,eval (.Constant (.int i) j lp) X.env)::starEach es X.env:=by rfl):oj X (.Constant (.int i) j lp::es) (Z1 (eC (.int i)) wA):=by
 obtain⟨t,p,s⟩:=hb;exact⟨_,qv p hs,zO (gh λ_=>Js) s⟩
def tQ (ha:Ji X a wa)(hb:oj X es wA)(hs:starEach (a::es) X.env=(false,eval a X.env)::starEach es X.env:=by rfl):oj X (a::es) (Z1 wa wA):=by
 obtain⟨ta,b,s1⟩:=ha;obtain⟨tb,p2,s2⟩:=hb;exact⟨_,uj b p2 hs,zO s1 s2⟩
def tH {k i j:Nat}{x y:Str}{ps:List Str}{pr:List Df}{n_ c_:Pos}(f:Ca X.prog X.w X.K X.mg X.base k x ps (spW X.K pr k i))(g:Y8 k X.A)(l:Gl X x)(ha:oj X (e::es) wA)(m:X.N.Nodup)(hi:X.N[j]?=some y:=by rfl)(hx:nh X.env.scope y:=by first | exact Or.inl FQ | exact Or.inr FQ)
  (a:(x==("__debug__":Str))=false:=by decide) (n:starEach (e::es) X.env=(false,eval e X.env)::starEach es X.env:=by rfl) (b:(backTo pos (starEach es X.env)).any (·.1)=false:=by rfl)
  (hs:swapsWith (.Call (.Name x p) (e::es) [] pos) (some (.Name y n_)) c_.line X.env=pure false:=by rfl) (o:X.fn y=true\/X.env.scope.names.lookup y=some .local:=by first | exact .inl FQ | exact .inr FQ | assumption):
  pZ X (.Assign [.Name y n_] (.Call (.Name x p) (e::es) [] pos) c_) (Ol (Xh (Jo pr k) i wA) (Nq j)):=by
 obtain⟨t,q,s⟩:=ha;refine⟨_,vS f g l q m hi hx a n b hs o,λF H C σ τ D D' R S h d=>?_⟩;refine s F H C σ τ _ _ D'.xc R S h λxs vs H1 C1 R1 t1 rs h1=>?_;refine⟨F,C1,vs,_,D'.xc,R1,?_,h1,QE.at (Q':=λx C1=>Nq j x τ C1 D'.nx D'.xc) (λx v H2 C2 R2 t2 r h2=>?_) t1⟩
 ·rw[YK];exact rs
 ·exact Jl F H2 C2 σ τ x v _ _ D'.xc R2 (S.tx t2) r h2 λy_ c H' C' R' t'=>d.nx y_ c H' C' R' (t2.trans t')
def kq (ha:Mx X a wa)(hb:Mx X (.BoolOp .And (b::Yc) pos) wb):Mx X (.BoolOp .And (a::b::Yc) pos) (tE wa wb):=by
 obtain⟨ta,c,s1⟩:=ha;obtain⟨tb,p2,s2⟩:=hb;exact⟨_,qu c p2,oF s1 s2⟩
def pC {op:BoolOp}(ha:Mx X a wa):Mx X (.BoolOp op [a] pos) wa:=by
 obtain⟨ta,b,s1⟩:=ha;exact⟨_,uh b,s1⟩
end
end WL
namespace L2
structure pV (fs ex:List Addr)(H H':Hp)(h B:Heap):Prop where
 keep:∀b o,h.get? b=some o->H b=none->b∉fs->b∉ex->B.get? b=some o
 free:∀b o,h.get? b=some o->H b=none->b∉ex->H' b=none
 there:∀b o,h.get? b=some o->b∉fs->b∉ex->∃o',B.get? b=some o'
 tups:∀b xs,H b=some (.tup xs)->H' b=some (.tup xs)
 frzs:∀b o u,H b=some (.frz o u)->H' b=some (.frz o u)
 tbls:∀b ps,H b=some (.tbl ps)->∃more,H' b=some (.tbl (ps++more))
def bY (P:WO)(w:WN)(ex:List WP)(Z:Hp->WU->Prop)(a:WU->List Env->WP->WQ->WQ->WU->Prop):Ko:=λouter H s E e s'=>∃ea cls a0 H' B,e=.ref ea/\E cls none H'/\s'.os=s.os/\AllBare s'.gens/\pV (Yx outer) ex H H' s.heap B/\
 (∀b∈Yx outer,∀o,s.heap.get? b=some o->b∉ex->∃sl,s'.heap.get? b=some {o with slots:=sl})/\Ux P w H' B/\Z H' B/\a B outer ea cls a0 s'.heap
def Km (P:WO)(w:WN):Ko:=bY P w [] (λ_ _=>True) Heap.FlyingW
def pV.hide {fs ex as:List WP}{H H':Hp}{h h':WU}(u:Un fs ex H H' h h')(k:∀b o,h.get? b=some o->b∉fs->b∉as):pV fs ex H H' h (W.hideAll h' as) where
 keep:=λb o e n hb hx=>FI _ (u.keep b o e n hb hx) (k b o e hb)
 free:=λb o e n hx=>u.free b o e n hx
 there:=λb o e hb hx=>let ⟨o',q⟩:=u.there b o e hx;⟨o',FI _ q (k b o e hb)⟩
 tups:=u.tups
 frzs:=u.frzs
 tbls:=u.tbls
def pV.pre {fs j_ ex i':List WP}{H H1 H2:Hp}{h h1 B:WU}(a:Un fs ex H H1 h h1)(b:pV j_ i' H1 H2 h1 B)(k:∀b o,h.get? b=some o->b∉fs->b∉j_)(y:∀b o,h.get? b=some o->b∉ex->b∉i'):pV fs ex H H2 h B where
 keep:=λc o e n hc hx=>b.keep c o (a.keep c o e n hc hx) (a.free c o e n hx) (k c o e hc) (y c o e hx)
 free:=λc o e n hx=>let ⟨o',q⟩:=a.there c o e hx;b.free c o' q (a.free c o e n hx) (y c o e hx)
 there:=λc o e hc hx=>let ⟨o',q⟩:=a.there c o e hx;b.there c o' q (k c o e hc) (y c o e hx)
 tups:=λc xs q=>b.tups c xs (a.tups c xs q)
 frzs:=λc o u q=>b.frzs c o u (a.frzs c o u q)
 tbls:=λc ps q=>by
  obtain⟨m1,d⟩:=a.tbls c ps q;obtain⟨m2,f⟩:=b.tbls c _ d;exact⟨m1++m2,by rw[f,Array.append_assoc]⟩
def Ux.hide {P:WO}{w:WN}{H:Hp}{h:WU}{as:List WP}(x:Ux P w H h)(n:∀b∈as,H b=none):Ux P w H (W.hideAll h as):=λa o e=>
 (x a o e).stay (λb u hb q=>FI _ q λm=>by
  have:=n b m
  rcases hb with rfl | hb
  ·rw[e] at this;cases this
  ·rw[hb] at this;cases this) (λ_ q=>q) λ_ _ q=>q
section
variable {P:WO}{w:WN}{K:WY}{mg:Str->Option WQ}{base:WU}{N:List Str}{qual:Str}{scope:Scope}{f:WP}{e_:WQ}{A:WM}{outer:List Env}{s0:WR}{H0:Hp}{E:XK}
def lS {l:List Env}{env:Env}{a:WP}(h:env∈l)(e:env.frame=some a):a∈Yx l:=DI.mpr ⟨env,h,e⟩
def Ea {WZ:List (WP×Obj)}{σ:St}{H:Hp}{s:WR}(I:Zq (Uc (Km P w) P w K mg base N qual scope f e_ A outer s0 H0 E) WZ σ H s):∀b o,s0.heap.get? b=some o->b∉Yx outer->b∉Yx (Uc (Km P w) P w K mg base N qual scope f e_ A outer s0 H0 E).stack:=λb o e hb m=>by
 rcases BB.mp (I.stkSub b m) with z | z
 ·exact absurd (XD e) (by rw[z];exact Nat.not_lt.mpr I.ok.above)
 ·exact hb z
def Uq:Uo (Km P w) (Uc (Km P w) P w K mg base N qual scope f e_ A outer s0 H0 E) E:=by
 rintro WZ σ H s e s' I ⟨ea,cls,a0,H',B,rfl,j,c,hb,u,l,hok,-,m⟩;refine wpAny_leaves_onW (M:=model P w) (e:=ea) (cls:=cls) (a0:=a0) (base:=B) (L:=s0.heap.objs.size) I.ok.frames FQ m λh' d up=>?_;refine⟨ea,cls,a0,H',B,FQ,j,c.trans I.os,hb,pV.pre I.base u (Ea I) (λ_ _ _ z=>z),λb a o e _=>?_,hok,trivial,d⟩;obtain⟨sl,q⟩:=I.base.slot b o e (I.ok.frf b a) a (by intro z;cases z);obtain⟨n,p⟩:=l b (by unfold Yx;exact DI.mpr (let ⟨x,hx,hy⟩:=DI.mp a;⟨x,XV _ hx,hy⟩)) _ q (by intro z;cases z);obtain⟨_,o2,g,r⟩:=I.ok.funs.mem a;have:o2=o:=by
  have i:s0.heap.get? b=some o2:=g;rw[e] at i;exact(YH i).symm
 subst this;obtain⟨h,t⟩:=up b _ p r;exact⟨h,t⟩
def lh {WZ:List (WP×Obj)}{σ:St}{H:Hp}{s:WR}{h':WU}{e C:WP}{vs:List WQ}(I:Zq (Uc (Km P w) P w K mg base N qual scope f e_ A outer s0 H0 E) WZ σ H s)(hx:Heap.MadeExcOf s.heap h' e (.ref C) vs)(l:E (.ref C) none H):
  (Uc (Km P w) P w K mg base N qual scope f e_ A outer s0 H0 E).xe (.ref e) {s with heap:=h'}:=by
 refine wpAny_leaves_madeW (M:=model P w) (s:={s with heap:=h'}) (base:=W.hideAll s.heap (Yx (envOfC qual scope s0.heap.objs.size f e_::outer))) (h:=s.heap) (e:=e) (cls:=.ref C) (args:=vs) (L:=s0.heap.objs.size) I.ok.frames FQ
  (λb o q=>W.of_hideAll _ q) (W.funFrames_hide I.stack λenv m a ha=>lS m ha) hx λh2 t n _ _ up=>?_
 refine⟨e,.ref C,.ref t,H,_,FQ,l,I.os,I.bare,pV.hide I.base (Ea I),λb c o i _=>?_,I.hok.hide I.stkFree,trivial,n⟩;obtain⟨sl,q⟩:=I.base.slot b o i (I.ok.frf b c) c (by intro z;cases z);obtain⟨_,o2,d,p⟩:=I.ok.funs.mem c;have:o2=o:=by
  have j:s0.heap.get? b=some o2:=d;rw[i] at j;exact(YH j).symm
 subst this;obtain⟨g,r⟩:=up b _ (hx.keeps _ _ q) p;exact⟨g,r⟩
end
structure ii (K:W.Frag)(mg:Str->Option Value)(x:Str)(C:Addr):Prop where
 at_:mg x=some (.ref C)
 exc:∃Bn newId inN bmN,ExcBaseFacts Bn newId inN bmN/\[Value.type "ValueError",.type "Exception",.type "BaseException",.type "object"].contains (.type Bn)=true/\W.excIn K C [.type "ValueError",.type "Exception",.type "BaseException",.type "object"] newId=true
set_option tactic.hygienic true in
def mH {K:WY}{h:WU}{mg:Str->Option WQ}{x:Str}{C:WP}{bmB:List WQ}{newId:String}(X:K.In h)(e:mg x=some (.ref C))(q:W.excIn K C bmB newId=true):OwnCls x C bmB newId mg h:=by
 refine⟨e,?_⟩;unfold W.excIn at q
 split at q
 ·rename_i dd d sl f
  split at q
  ·rename_i C' bm k0 k1 k2 k3 n k5 hm hs;simp only[Bool.and_eq_true,beq_iff_eq,Bool.not_eq_true'] at q;obtain⟨⟨⟨⟨⟨rfl,rfl⟩,a⟩,g⟩,hok⟩,b⟩:=q;obtain⟨nm,bs,i,ns,j,hd,sn,sub,ab,col,m⟩:=d;dsimp only at hm a hok b;subst hm a;have c:sl=#[k0,k1,k2,k3,some (.builtin n),k5]:=by
    obtain⟨l⟩:=sl;simp only at hs;rw[hs]
   subst c;exact⟨bm,ns,nm,j,bs,hd,sn,sub,ab,col,dd,k0,k1,k2,k3,k5,_,X _ _ f,.of_isNs (W.isNs_of_in X hok),W.nsMap_none_of_in X hok b,W.tail_of_in X g⟩
  ·cases q
 ·cases q
def nJ (C:WP)(E:XK)(ta:TA):TS:=λ_ σ H=>ta σ H λvs H1=>vs.length<=sizeLine/\E (.ref C) none H1
def sT (X:Cx)(E:XK):Prop:=∀(WZ:List (WP×Obj)) (σ:St) (H:Hp) (s:WR) (h':WU) (e C:WP) (vs:List WQ),Zq X WZ σ H s->Heap.MadeExcOf s.heap h' e (.ref C) vs->E (.ref C) none H->X.xe (.ref e) {s with heap:=h'}
def vU {X:Cx}{E:XK}{x:Str}{C:WP}{np f_ pos:Pos}{e:WW}{es:List WW}{ta:TA}(i:sT X E)(hc:X.calm=true)(O:ii X.K X.mg x C)(j:Gl X x)(ha:PA X (e::es) ta)(b:(x==("__debug__":Str))=false:=by decide)
  (g:starEach (e::es) X.env=(false,eval e X.env)::starEach es X.env:=by rfl) (c:(backTo f_ (starEach es X.env)).any (·.1)=false:=by rfl):PS X (.Raise (some (.Call (.Name x np) (e::es) [] f_)) none pos) (nJ C E ta):=by
 intro WZ s σ H D I h;obtain⟨Bn,newId,inN,bmN,Fn,d,q⟩:=O.exc;obtain⟨tl,N,nm,l,bs,hdct,sn,sub,ab,col,dd,k0,k1,k2,k3,k5,mN,m,n,f,T⟩:=(mH I.ok.mod.kin O.at_ q).obj;refine wpAny_Raise_call_subU (C:=C) (nm:=nm) (q:=l) (N:=N) (bs:=bs) (bm:=tl) (hdct:=hdct) (sn:=sn) (sub:=sub) (ab:=ab) (col:=col) (dd:=dd) (k0:=k0) (k1:=k1) (k2:=k2) (k3:=k3) (k5:=k5) (bmB:=[Value.type "ValueError",.type "Exception",.type "BaseException",.type "object"])
  Fn d DX (mN:=mN) (T.hasType PySem.F.excBase_ValueError.hasBase) (I.ok.hd hc) (by rw[g];show(false||(backTo f_ (starEach es X.env)).any (·.1))=false;rw[c];rfl) f (T8 I j O.at_ ⟨FQ,?_⟩ b)
 have h2:=ha f_ WZ s σ H _ I h;rw[g] at h2 |-;refine EU (wpAny_mono h2 (λus s2 z=>?_) λ_ _ y=>y);obtain⟨vs,H2,a,r,o,p⟩:=z;refine⟨FQ,by rw[<-r.length];exact o,a.bk _ _ m,n.keeps a.bk,T.keeps a.bk,λh' e hm=>i WZ σ H2 s2 h' e C us a hm p⟩
def Cu {P:WO}{w:WN}{K:WY}{mg:Str->Option WQ}{base:WU}{N:List Str}{qual:Str}{scope:Scope}{f:WP}{e_:WQ}{A:WM}{outer:List Env}{s0:WR}{H0:Hp}{E:XK}:sT (Uc (Km P w) P w K mg base N qual scope f e_ A outer s0 H0 E) E:=
 λ_ _ _ _ _ _ _ _ I hx a=>lh I hx a
section
variable {X:Cx}{EE:List WP->WR->Hp->WQ->WR->Prop}{tg iter g_:WW}{j':List WW}{scope:Scope}{pos:Pos}{cN:List Str}{cap:List (Option Nat)}{cl:List (Str×WP)}{js:List Nat}{wi:TI}{g:TG}{c:TT}{te:TE}
structure bX (X:Cx)(EE:List Addr->Shared->Hp->Value->Shared->Prop)(tg iter g_:Expr)(j':List Expr)(scope:Scope)(cN:List Str)(cap:List (Option Nat))(cl:List (Str×Addr))(js:List Nat)(wi:TI)(g:TG)(c:TT)(te:TE):Prop where
 calm:X.calm=true
 ok:X.Ok->No X cN cap scope cl
 it:PI X tg iter wi
 tgt:∀fp s H,PG ((Yg X cN scope cl fp s H).wish (EE fp s H)) tg g
 gm:Qh g
 gk:Kb js g
 js0:∀j∈js,(cap[j]?).join=none
 ts:∀fp s H,yJ ((Yg X cN scope cl fp s H).wish (EE fp s H)) j' c
 tm:∀σ H (Q Q':Bool->Hp->Prop),(∀b H',Q b H'->Q' b H')->c σ H Q->c σ H Q'
 el:∀fp s H,PE ((Yg X cN scope cl fp s H).wish (EE fp s H)) g_ te
 fold:∀x,foldedSetIterable iter X.env x=pure x
end
def cu (P:WO)(w:WN)(stack:List Env)(E:XK)(fp:List WP)(s:WR)(H:Hp):WQ->WR->Prop:=
 bY P w fp (λH' B=>(∃m,B.Ns s.heap.objs.size m)/\H' s.heap.objs.size=none) Heap.FlyingW stack H s E
structure sR (P:Program)(w:World)(K:W.Frag)(mg:Str->Option Value)(base:Heap)(CX:Ko)(k:Nat)(f:Addr)(fd:FuncData)(ps:List Str)(sp:Sp):Prop where
 len:∀vs H Q E,sp vs H Q E->vs.length=ps.length
 run:∀(A:WM) (outer:List Env) (s:WR) (H:Hp) (args:Args) (us:List WQ) (vs:List V) (Q:VK) (E:XK),1<=s.toks->Y8 k A->Fk P w K mg base A outer s H->BindsTo s fd args (ps.zip us)->Z5 vs us->sp vs H Q E->
  codeAny (model P w) A (.call (.ref f) args) (CR CX outer P w H s Q E) s
section
variable {X:Cx}{CX:Ko}{E:XK}{k:Nat}{f:WP}{fd:VZ}{ps:List Str}{sp:Sp}{x:Str}{p pos:Pos}{e:WW}{es:List WW}{t:TA}
structure ej (P:Program)(w:World)(K:W.Frag)(mg:Str->Option Value)(base:Heap)(CX:Ko)(k:Nat)(x:Str)(ps:List Str)(sp:Sp):Prop where
 ex:∃(f:WP) (fd:VZ),sR P w K mg base CX k f fd ps sp/\Xv K fd ps []/\W.keepIn K (.ref f)=true/\mg x=some (.ref f)
end
end L2
namespace WL
def Er (rs:List (WP×Prop)):XK:=λcls _ _=>∃p∈rs,cls=.ref p.1/\p.2
def rE (K:WY)(pr:List Df)(E1:XK)(n i:Nat):Sp:=λvs H Q E=>E=E1/\spW K pr n i vs H Q E
structure M5 (P:Program)(w:World)(K:W.Frag)(mg:Str->Option Value)(base:Heap)(k:Nat)(x:Str)(ps:List Str)(sp:Sp):Prop where
 ex:∃(f:WP) (fd:VZ),Ww P w K mg base (Km P w) k f fd ps sp/\Xv K fd ps []/\W.keepIn K (.ref f)=true/\mg x=some (.ref f)
section
variable {X:Cx}{k i:Nat}{x:Str}{ps:List Str}{pr:List Df}{p pos:Pos}{e:WW}{es:List WW}{wA:WA}{E1:XK}
def nQ (P:Calls)(iR:Nat)(wa:WA):WS:=λD τ C=>wa τ C (λvs C'=>vs.length<=1000/\P iR [] C' D.rt D.xc) D.xc
def Q1 {r:Prop}{C:Hw}{Q:WK}{χ:WX}(a:pr[i]?=some ⟨0,0,λ_ _ _ _=>r⟩):∀{k:Nat},Jo pr k i [] C Q χ->r
 | 0,h=>h.elim
 | k+1,h=>by
  obtain⟨d,e,_,h⟩:=h;rw[a] at e;cases e;exact h
end
section
variable {P:WO}{w:WN}{K:WY}{mg:Str->Option WQ}{base:WU}{x qual:Str}{st:WV}{f:WP}{fd:VZ}{N ps:List Str}{pr:List Df}{n i:Nat}{d:Df}{E1:XK}
def Vz {sp:Sp}(L:Ld K mg x st ps)(G:∀{f fd},Kk K x x st f fd->Ww P w K mg base (Km P w) n f fd ps sp):M5 P w K mg base n x ps sp:=by
 obtain⟨f,fd,F,B,M⟩:=L;exact⟨f,fd,G F,B,F.kp,M⟩
end
structure br (X:Cx)(E1:XK)(tg iter g_:Expr)(j':List Expr)(scope:Scope)(cN:List Str)(cap:List (Option Nat))(cl:List (Str×Addr))(js:List Nat)(i:WI)(g:TG)(wg:WG)(wc:WT)(we:WE):Prop where
 calm:X.calm=true
 ok:X.Ok->No X cN cap scope cl
 it:iq X tg iter i
 tgt:∀fp s H,PG ((Yg X cN scope cl fp s H).wish (cu X.prog X.w X.stack E1 fp s H)) tg g
 gm:Qh g
 gk:Kb js g
 sg:zv X.K g wg
 js0:∀j∈js,(cap[j]?).join=none
 ts:∀fp s H,w8 ((Yg X cN scope cl fp s H).wish (cu X.prog X.w X.stack E1 fp s H)) j' wc
 el:∀fp s H,Ji ((Yg X cN scope cl fp s H).wish (cu X.prog X.w X.stack E1 fp s H)) g_ we
 fold:∀x,foldedSetIterable iter X.env x=pure x
end WL
namespace L2
def ot:HO->Prop
 | .lst _=>True
 | .tup _=>True
 | .dK _=>True
 | _=>False
open Classical in
noncomputable def frzO (h:WU) (b:WP) (u:HO):Option HO:=
 match u with
 | .frz o v=>if ot v then some (.frz o v) else none
 | u=>if ot u then(h.get? b).map λo=>.frz o u else none
noncomputable def freeze (H:Hp) (h:WU):Hp:=λb=>(H b).bind (frzO h b)
set_option tactic.hygienic true in
def Lj {H:Hp}{h:WU}{b:WP}{z:HO}(e:freeze H h b=some z):∃o v,z=.frz o v/\ot v/\((H b=some v/\h.get? b=some o)\/H b=some (.frz o v)):=by
 unfold freeze at e
 cases q:H b with
 | none=>rw[q] at e;cases e
 | some u=>
  rw[q] at e;simp only[Option.bind_some] at e;unfold frzO at e
  split at e
  ·rename_i o v
   split at e
   ·rename_i hv
    cases e
    exact⟨o,v,FQ,hv,.inr FQ⟩
   ·cases e
  ·rename_i c
   split at e
   ·rename_i d
    cases a:h.get? b with
    | none=>rw[a] at e;cases e
    | some o=>rw[a] at e;cases e;exact⟨o,u,FQ,d,.inl ⟨FQ,FQ⟩⟩
   ·cases e
set_option tactic.hygienic true in
def Li {H:Hp}{h:WU}{b:WP}{u:HO}{o:Obj}(e:H b=some u)(a:ot u)(c:h.get? b=some o):freeze H h b=some (.frz o u):=by
 unfold freeze;rw[e];simp only[Option.bind_some];unfold frzO
 split
 ·rename_i o' v;exact a.elim
 ·rw[XY a,c];rfl
open Classical in
def yt {H:Hp}{h:WU}{b:WP}{u:HO}{o:Obj}(e:H b=some (.frz o u))(a:ot u):freeze H h b=some (.frz o u):=by
 unfold freeze;rw[e];simp only[Option.bind_some];unfold frzO;show(if ot u then some (HO.frz o u) else none)=_;rw[XY a]
def j7 {P:WO}{w:WN}{H H':Hp}{h h':WU}{b:WP}{u:HO}(a:ot u)(x:Y5 P w H h b u)(e:∀o,h.get? b=some o->h'.get? b=some o):Y5 P w H' h' b u:=by
 cases u with
 | lst xs=>obtain⟨z,its,n,r,q⟩:=x;exact⟨z,its,n,r,e _ q⟩
 | tup xs=>obtain⟨z,its,r,ob,q,c⟩:=x;exact⟨z,its,r,ob,e _ q,c⟩
 | dK kvs=>exact(Y5.stay (H:=λ_=>none) (H':=H') (h':=h') (show Y5 P w (λ_=>none) h b (.dK kvs) from x) (λc u hc q=>by
   rcases hc with rfl | hc
   ·exact e _ q
   ·cases hc) (λc q=>by cases q) λc xs q=>by cases q)
 | _=>exact a.elim
def Ux.freeze {P:WO}{w:WN}{H:Hp}{h:WU}(x:Ux P w H h):Ux P w (freeze H h) h:=λa z e=>by
 obtain⟨o,v,rfl,hv,q⟩:=Lj e
 rcases q with⟨q,b⟩ | q
 ·exact⟨b,j7 hv (x a v q) λ_ z=>z⟩
 ·obtain⟨h1,h2⟩:=x a _ q;exact⟨h1,j7 hv h2 λ_ z=>z⟩
def zF {P:WO}{w:WN}{fs:List WP}{H H':Hp}{h B:WU}(x:Ux P w H h)(u:pV fs [] (freeze H h) H' h B)(ok:Ux P w H' B)(c:∀b∈fs,H b=none):∀b o,h.get? b=some o->b∉fs->B.get? b=some o:=λb o e hb=>by
 cases q:freeze H h b with
 | none=>exact u.keep b o e q hb (by simp)
 | some z=>
  obtain⟨o',v,rfl,hv,hq⟩:=Lj q;have h1:=(ok b _ (u.frzs b o' v q)).1
  rcases hq with⟨_,a⟩ | hq
  ·rw[e] at a;cases a;exact h1
  ·have:=(x b _ hq).1;rw[e] at this;cases this;exact h1
def xf {P:WO}{w:WN}{fs:List WP}{H H':Hp}{h h':WU}(x:Ux P w H h)(u:Un fs [] (freeze H h) H' h h')(ok:Ux P w H' h')(c:∀b∈fs,H b=none):∀b o,h.get? b=some o->b∉fs->h'.get? b=some o:=λb o e hb=>by
 cases q:freeze H h b with
 | none=>exact u.keep b o e q hb (by simp)
 | some z=>
  obtain⟨o',v,rfl,hv,hq⟩:=Lj q;have h1:=(ok b _ (u.frzs b o' v q)).1
  rcases hq with⟨_,a⟩ | hq
  ·rw[e] at a;cases a;exact h1
  ·have:=(x b _ hq).1;rw[e] at this;cases this;exact h1
def Ph {H:Hp}{h:WU}{b:WP}(e:H b=none):freeze H h b=none:=by
 unfold freeze;rw[e];rfl
def E9 {fs:List WP}{H:Hp}{h h':WU}(k:∀b o,h.get? b=some o->b∉fs->h'.get? b=some o)(sl:∀b∈fs,∀o,h.get? b=some o->∃sl,h'.get? b=some {o with slots:=sl}):Un fs [] H H h h' where
 keep:=λb o e _ hb _=>k b o e hb
 slot:=λb o e _ hb _=>sl b hb o e
 free:=λ_ _ _ n _=>n
 there:=λb o e _=>by
  by_cases hb:b∈fs
  ·obtain⟨sl,q⟩:=sl b hb o e;exact⟨_,q⟩
  ·exact⟨o,k b o e hb⟩
 tups:=λ_ _ q=>q
 frzs:=λ_ _ _ q=>q
 tbls:=λ_ ps q=>⟨#[],by simpa using q⟩
def Hv {P:WO}{w:WN}{fs:List WP}{H:Hp}{h h':WU}(x:Ux P w H h)(c:∀b∈fs,H b=none)(k:∀b o,h.get? b=some o->b∉fs->h'.get? b=some o):Ux P w H h':=λa o e=>
 (x a o e).stay (λb u hb q=>k b u q λm=>by
  have:=c b m
  rcases hb with rfl | hb
  ·rw[e] at this;cases this
  ·rw[hb] at this;cases this) (λ_ q=>q) λ_ _ q=>q
section
variable {X:Cx}{WZ:List (WP×Obj)}{σ:St}{H:Hp}{s s':WR}
def Zq.env0F (I:Zq X WZ σ H s):Fk X.prog X.w X.K X.mg X.base X.A X.stack s (freeze H s.heap):=
 ⟨I.ok.frames,I.ok.mod,λb o e=>⟨(I.bs b o e).1,Ph (I.bs b o e).2⟩,XN I.ok.bsz I.sz,I.stack,λb hb=>Ph (I.stkFree b hb),I.hok.freeze,I.bare⟩
def Zq.backF {Q:VK}{u:WQ}(I:Zq X WZ σ H s)(h:CE X.stack X.prog X.w (freeze H s.heap) s Q u s'):Zq X WZ σ H s'/\∃v H',Z9 v u/\Q v H':=by
 obtain⟨v,H',os,bare,un,hok,r,q⟩:=h;have k:=xf I.hok un hok I.stkFree;refine⟨I.call' (ch:=[]) os (E9 k λb hb o e=>un.slot b o e (Ph (I.stkFree b hb)) hb (by simp)) (Hv I.hok I.stkFree k) bare (λb z=>absurd z (by simp)),v,H',r,q⟩
end
def Cx.mk1 (X:Cx)(e:WQ):Cx:={X with A:=X.A.mark (some e),calm:=false,xe:=λ_ _=>False}
section
variable {X:Cx}{WZ:List (WP×Obj)}{σ:St}{H:Hp}{s s':WR}{e:WQ}
def Cx.Ok.mk1 (ok:X.Ok):(X.mk1 e).Ok:=
 ⟨ok.mod,ok.kind,ok.glob,ok.blt,ok.above,ok.inj,ok.has,ok.cab,(λz=>by cases z),ok.frames,ok.stk,ok.exf,ok.bs,ok.bsz,ok.noex,ok.exfs,ok.funs,ok.frf⟩
def Zq.mk1 (I:Zq X WZ σ H s):Zq (X.mk1 e) WZ σ H s:=⟨I.ok.mk1,I.os,I.bare,I.base,I.loc,I.cell,I.free,I.freeC,I.pin,I.hok,I.len⟩
def Zq.unmk1 (ok:X.Ok)(I:Zq (X.mk1 e) WZ σ H s):Zq X WZ σ H s:=⟨ok,I.os,I.bare,I.base,I.loc,I.cell,I.free,I.freeC,I.pin,I.hok,I.len⟩
def E8 (X:Cx)(WZ:List (WP×Obj))(σ:St)(H:Hp)(ea:WP)(cls:WQ)(s:WR):Prop:=
 ∃s1 B a0,Zq X WZ σ H s1/\s.os=s1.os/\AllBare s.gens/\(∀b o,s1.heap.get? b=some o->b∉Yx X.stack->B.get? b=some o)/\
  (∀b∈Yx X.stack,∀o,s1.heap.get? b=some o->∃sl,s.heap.get? b=some {o with slots:=sl})/\Heap.FlyingW B X.stack ea cls a0 s.heap
variable {ea:WP}{cls:WQ}
def E8.inv (F:E8 X WZ σ H ea cls s):Zq X WZ σ H s:=by
 obtain⟨s1,B,a0,I,os,bare,k,sl,a⟩:=F;have k':∀b o,s1.heap.get? b=some o->b∉Yx X.stack->s.heap.get? b=some o:=λb o e hb=>a.1 b o (k b o e hb);exact I.call' (ch:=[]) os (E9 k' sl) (Hv I.hok I.stkFree k') bare (λb z=>absurd z (by simp))
def E8.step {B:WU}{a0:WQ}{h':WU}{s1:WR}(I:Zq X WZ σ H s1)(os:s.os=s1.os)(bare:AllBare s.gens)(k:∀b o,s1.heap.get? b=some o->b∉Yx X.stack->B.get? b=some o)
  (sl:∀b∈Yx X.stack,∀o,s1.heap.get? b=some o->∃sl,s.heap.get? b=some {o with slots:=sl}) (y:Heap.FlyingW B X.stack ea cls a0 h') (up:s.heap.UpToSlots h'):E8 X WZ σ H ea cls {s with heap:=h'}:=by
 refine⟨s1,B,a0,I,os,bare,k,λb hb o e=>?_,y⟩;obtain⟨sl,q⟩:=sl b hb o e;obtain⟨_,o2,a,d⟩:=I.stack.mem hb;rw[e] at a;cases a;obtain⟨c,f⟩:=up b _ q d;exact⟨c,f⟩
def E8.of {E:XK}{e:WQ}(I:Zq X WZ σ H s)(h:Km X.prog X.w X.stack (freeze H s.heap) s E e s'):∃ea cls H',e=.ref ea/\E cls none H'/\E8 X WZ σ H ea cls s':=by
 obtain⟨ea,cls,a0,H',B,rfl,a,os,bare,u,sl,ok,-,c⟩:=h;exact⟨ea,cls,H',FQ,a,s,B,a0,I,os,bare,zF I.hok u ok I.stkFree,λb hb o e=>sl b hb o e (by simp),c⟩
def E8.ty {M:Model}(F:E8 X WZ σ H ea cls s):W.Looks M s.heap (typeOf (.ref ea)) cls:=by
 obtain⟨s1,B,a0,I,os,bare,k,sl,b⟩:=F;obtain⟨ob,a,hc⟩:=b.there;subst hc;exact(W.Looks.ld a).andThen .now
section
variable {M:Model}{A:WM}{E:WQ->WR->Prop}{Q:Unit->WR->Prop}
def E8.land (F:E8 X WZ σ H ea cls s)(h:∀s',E8 X WZ σ H ea cls s'->Q () s'):wpAny M A (setFlight (.ref ea) none) Q E s:=by
 obtain⟨s1,B,a0,I,os,bare,k,sl,b⟩:=F;exact lands_againW b λh' a up=>h _ (E8.step (s:=s) I os bare k sl a up)
def E8.look {L:WP}{outer:List Env}(F:E8 X WZ σ H ea cls s)(hs:X.stack=X.env::outer)(y:X.env.frame=some L)(D:A.frames=some X.stack)(h:∀s',E8 X WZ σ H ea cls s'->Q () s'):
  wpAny M A (noteFrame (.ref ea) X.env) (λ_ s2=>wpAny M A (setFlight (.ref ea) none) Q E s2) E s:=by
 obtain⟨s1,B,a0,I,os,bare,k,sl,c⟩:=F;rw[hs] at c;refine wpAny_looks_onW (outer:=outer) (L:=L) (D.trans (by rw[hs])) y c λh' d up=>?_;refine wpAny_landsW d λh2 a b=>?_;exact h _ (E8.step (s:=s) (h':=h2) I os bare k sl (by rw[hs];exact a) (up.trans b))
end
def HB (X:Cx)(hs:List ExceptHandler)(cls:WQ)(th:TS):Prop:=∀(ea:WP) (WZ:List (WP×Obj)) (s:WR) (σ:St) (H:Hp) (D:Nn),E8 X WZ σ H ea cls s->th D σ H->wpAny (model X.prog X.w) X.A (handleBy (.ref ea) X.env hs) (SP X WZ D) X.xe s
variable {x:Str}{c:WQ}{np pos:Pos}{nm:Option Str}{body q_:List WV}{d_:WV}{Yc:List ExceptHandler}{th:TS}
def dk (P:WO)(w:WN)(sp:Sp)(ta:TA)(th:WQ->TS):TS:=λD σ H=>ta σ H λvs H1=>∃E:XK,(∀h,Ux P w H1 h->sp vs (freeze H1 h) (λ_ _=>D.nx σ H1) E)/\∀cls,(∃H',E cls none H')->th cls D σ H1
end
end L2
namespace WL
mutual
inductive Fz (C:Hw):T->T->Prop
 | non:Fz C .non .non
 | bl (b:Bool):Fz C (.bl b) (.bl b)
 | int (i:Int):Fz C (.int i) (.int i)
 | str (z:Str):Fz C (.str z) (.str z)
 | tup {ts ts':List T} (h:Fzs C ts ts'):Fz C (.tup ts) (.tup ts')
 | cl {ts ts':List T} (h:Fzs C ts ts'):Fz C (.cl ts) (.cl ts')
 | lst {a:WP} {ts ts':List T} (e:C a=some (.lst ts)) (h:Fzs C ts ts'):Fz C (.ref a) (.cl ts')
 | ref (a:WP):Fz C (.ref a) (.ref a)
inductive Fzs (C:Hw):List T->List T->Prop
 | nil:Fzs C [] []
 | cons {t t':T} {ts ts':List T} (h:Fz C t t') (r:Fzs C ts ts'):Fzs C (t::ts) (t'::ts')
end
def bq (C C':Hw):Prop:=∀a o,C' a=some o->o=.fdic []/\C a=some (.dic [])
section
variable {K:WY}{P:WO}{w:WN}{F H:Hp}{C:Hw}{h:WU}
def Dr {a:WP}{u:HO}(ok:Ux P w H h)(b:ot u)(r:Rd H a u):∃o,freeze H h a=some (.frz o u):=by
 rcases r with r | ⟨o,r⟩
 ·have:=ok.lt r
  cases u with
  | lst xs=>obtain⟨_,its,n,_,q⟩:=(show Y5 P w H h a (.lst xs) from ok a _ r);exact⟨_,Li r b q⟩
  | tup xs=>obtain⟨_,its,_,ob,q,_⟩:=(show Y5 P w H h a (.tup xs) from ok a _ r);exact⟨_,Li r b q⟩
  | dK kvs=>
   cases q:h.get? a with
   | some o=>exact⟨_,Li r b q⟩
   | none=>
    exfalso;obtain⟨_,_,vs,_,z⟩:=(show Y5 P w H h a (.dK kvs) from ok a _ r);obtain⟨o,es,ep,e,_⟩:=z;rw[q] at e;cases e
  | _=>exact b.elim
 ·exact⟨o,yt r b⟩
mutual
def lQ (R:Rl K F H C)(ok:Ux P w H h):∀{v v':T},Fz C v v'->∀{x:V},Ju K H x v->Ju K (freeze H h) x v'
 | _,_,.non,_,r=>r
 | _,_,.bl _,_,r=>r
 | _,_,.int _,_,r=>r
 | _,_,.str _,_,r=>r
 | _,_,.ref _,_,r=>r
 | _,_,.tup f,x,r=>by
  obtain⟨a,ys,e,sq,rs⟩:=(show ∃a ys,x=.ref a/\Tw K H a ys/\Reps K H ys _ from r);refine(show ∃a ys,x=.ref a/\Tw K (freeze H h) a ys/\Reps K (freeze H h) ys _ from⟨a,ys,e,?_,Mc R ok f rs⟩)
  rcases sq with sq | sq
  ·exact .inl (.inr (Dr ok trivial sq))
  ·exact .inr sq
 | _,_,.cl f,x,r=>by
  obtain⟨a,ys,e,sq,rs⟩:=(show ∃a ys,x=.ref a/\sL K H a ys/\Reps K H ys _ from r);refine(show ∃a ys,x=.ref a/\sL K (freeze H h) a ys/\Reps K (freeze H h) ys _ from⟨a,ys,e,?_,Mc R ok f rs⟩)
  rcases sq with sq | sq
  ·exact .inl (Dr ok trivial (.inr sq))
  ·exact .inr sq
 | _,_,.lst (a:=a) b f,x,r=>by
  obtain⟨ys,e,rs⟩:=(show ∃ys,H a=some (.lst ys)/\Reps K H ys _ from R.obj a _ b);exact(show ∃a ys,x=.ref a/\sL K (freeze H h) a ys/\Reps K (freeze H h) ys _ from⟨a,ys,r,.inl (Dr ok trivial (.inl e)),Mc R ok f rs⟩)
def Mc (R:Rl K F H C)(ok:Ux P w H h):∀{vs a:List T},Fzs C vs a->∀{xs:List V},Reps K H xs vs->Reps K (freeze H h) xs a
 | _,_,.nil,_,r=>r
 | _,_,.cons f g,xs,r=>by
  obtain⟨y,z,e,b,c⟩:=(show ∃y z,xs=y::z/\Ju K H y _/\Reps K H z _ from r);exact(show ∃y z,xs=y::z/\Ju K (freeze H h) y _/\Reps K (freeze H h) z _ from⟨y,z,e,lQ R ok f b,Mc R ok g c⟩)
end
def f7 {C':Hw}(R:Rl K F H C)(ok:Ux P w H h)(f:bq C C'):Rl K (λ_=>none) (freeze H h) C':=by
 refine⟨λa o e=>?_,λa o e=>by cases e⟩;obtain⟨rfl,b⟩:=f a o e;obtain⟨ks,q,p⟩:=(show ∃ks,H a=some (.dK ks)/\PR K H ks [] from R.obj a _ b)
 cases p
 exact⟨[],.inr (Dr ok trivial (.inl q)),.nil⟩
end
def gl (P:Calls)(wA:WA)(as:List (Nat×WS)):WS:=λD τ C=>wA τ C (λvs C1=>∃a C',Fzs C1 vs a/\bq C1 C'/\∃q∈as,P q.1 a C' (λ_ _=>D.nx τ C1) (λ_ _=>False)/\q.2 D τ C1) D.xc
def cV (X:Cx)(hs:List ExceptHandler)(cls:WQ)(wh:WS):Prop:=∃th,HB X hs cls th/\Gs X.K th wh
section
variable {X:Cx}{x:Str}{c cls:WQ}{np pos:Pos}{nm:Option Str}{body q_:List WV}{d_:WV}{Yc:List ExceptHandler}{wh:WS}
def kY (X:Cx)(pr:List Df)(k:Nat)(fn:Str)(ps:List Str)(hs:List ExceptHandler)(q:Nat×WS):Prop:=∃E1:XK,ej X.prog X.w X.K X.mg X.base (Km X.prog X.w) k fn ps (rE X.K pr E1 k q.1)/\∀cls H,E1 cls none H->cV X hs cls q.2
def Ez {k i:Nat}{pr:List Df}{fn:Str}{ps:List Str}{hs:List ExceptHandler}{wh:WS}(a:ej X.prog X.w X.K X.mg X.base (Km X.prog X.w) k fn ps (rE X.K pr (λ_ _ _=>False) k i)):kY X pr k fn ps hs (i,wh):=⟨_,a,λ_ _ z=>z.elim⟩
def Ic {k i:Nat}{pr:List Df}{fn:Str}{ps:List Str}{hs:List ExceptHandler}{wh:WS}{C:WP}{r:Prop}(a:ej X.prog X.w X.K X.mg X.base (Km X.prog X.w) k fn ps (rE X.K pr (Er [(C,r)]) k i))(h:cV X hs (.ref C) wh):kY X pr k fn ps hs (i,wh):=⟨_,a,λcls _ z=>by
 obtain⟨p,b,rfl,_⟩:=z;rw[XQ.mp b];exact h⟩
end
def G4 (K:WY)(P:Calls)(i:Nat):Sp:=λvs H Q _=>∃(F:Hp) (C:Hw) (a:List T) (Q':WK) (χ:WX),Rl K F H C/\Reps K H vs a/\P i a C Q' χ/\QE K F H Q Q'
def Ac (K:WY)(P:Calls)(E1:XK)(i:Nat):Sp:=λvs H Q E=>E=E1/\G4 K P i vs H Q E
section
variable {X:Cx}{k i:Nat}{x:Str}{ps:List Str}{P:Calls}{p pos:Pos}{e:WW}{es:List WW}{wA:WA}{E1:XK}
def Sa (c:Ca X.prog X.w X.K X.mg X.base k x ps (G4 X.K P i))(d:Y8 k X.A)(f:Gl X x)(ha:Lz X (e::es) wA)
  (a:(x==("__debug__":Str))=false:=by decide) (g:starEach (e::es) X.env=(false,eval e X.env)::starEach es X.env:=by rfl) (b:(backTo pos (starEach es X.env)).any (·.1)=false:=by rfl):
  Ji X (.Call (.Name x p) (e::es) [] pos) (Xh P i wA):=by
 obtain⟨t,j,s⟩:=ha;refine⟨_,oI c d f j a g b,λF H C σ τ Q Q' χ R S h q=>?_⟩;refine s F H C σ τ _ _ χ R S h λxs vs H1 C1 R1 t1 rs h1=>?_;refine⟨F,C1,vs,Q',χ,R1,?_,h1,QE.at q t1⟩;rw[YK];exact rs
def T9 (hx:Uo (Km X.prog X.w) X E1)(c:M5 X.prog X.w X.K X.mg X.base k x ps (Ac X.K P E1 i))(d:Y8 k X.A)(g:Gl X x)(ha:Lz X (e::es) wA)
  (a:(x==("__debug__":Str))=false:=by decide) (j:starEach (e::es) X.env=(false,eval e X.env)::starEach es X.env:=by rfl) (b:(backTo pos (starEach es X.env)).any (·.1)=false:=by rfl):
  Ji X (.Call (.Name x p) (e::es) [] pos) (Xh P i wA):=by
 obtain⟨t,l,s⟩:=ha;obtain⟨f,fd,G,B,kp,m⟩:=c.ex;refine⟨_,jg G d g m kp B .nil hx l a j b,λF H C σ τ Q Q' χ R S h q=>?_⟩;refine s F H C σ τ _ _ χ R S h λxs vs H1 C1 R1 t1 rs h1=>?_;refine⟨FQ,F,C1,vs,Q',χ,R1,?_,h1,QE.at q t1⟩;rw[YK];exact rs
def M5.tk {P:WO}{w:WN}{K:WY}{mg:Str->Option WQ}{base:WU}{sp:Sp}(C:M5 P w K mg base k x ps sp):ej P w K mg base (Km P w) k x ps sp:=by
 obtain⟨f,fd,F,r⟩:=C.ex;exact⟨f,fd,⟨F.len,λA outer s H args us vs Q E _=>F.run A outer s H args us vs Q E⟩,r⟩
def Oe {C:WP}{np f_:Pos}(c:sT X E1)(hc:X.calm=true)(O:ii X.K X.mg x C)(f:∀C' Q χ H,P i [] C' Q χ->E1 (.ref C) none H)(g:Gl X x)(ha:Lz X (e::es) wA)(a:(x==("__debug__":Str))=false:=by decide)
  (j:starEach (e::es) X.env=(false,eval e X.env)::starEach es X.env:=by rfl) (b:(backTo f_ (starEach es X.env)).any (·.1)=false:=by rfl):Lo X (.Raise (some (.Call (.Name x np) (e::es) [] f_)) none pos) (nQ P i wA):=by
 obtain⟨t,l,s⟩:=ha;refine⟨_,vU c hc O g l a j b,λF H m σ τ D D' R S h d=>?_⟩;refine s F H m σ τ _ _ D'.xc R S h λxs vs H1 C1 R1 t1 rs h1=>?_;exact⟨by rw[rs.length];exact CG (Ft h1.1),f _ _ _ _ h1.2⟩
end
def E7 (P' P:Calls)(i:Nat)(N ps:List Str)(W:Calls->WS):Prop:=∀vs C Q χ,P' i vs C Q χ->vs.length=ps.length/\W P (ZUD Q χ) (vs.map some++List.replicate (N.length-ps.length) none) C
def Yh {pr:List Df}{n i:Nat}{N ps:List Str}{W:Calls->WS}(h:pr[i]?=some ⟨N.length,ps.length,W⟩):E7 (Jo pr (n+1)) (Jo pr n) i N ps W:=λvs C Q χ z=>by
 obtain⟨d,e,a,z⟩:=z;rw[h] at e;cases e;exact⟨a,z⟩
def Zr {pr:List Df}{n i M:Nat}{N ps:List Str}{W:Calls->WS}(h:pr[i+M]?=some ⟨N.length,ps.length,λP=>W λj=>P (j+M)⟩):E7 (λj=>Jo pr (n+1) (j+M)) (λj=>Jo pr n (j+M)) i N ps W:=λvs C Q χ z=>by
 obtain⟨d,e,a,z⟩:=z;rw[h] at e;cases e;exact⟨a,z⟩
section
variable {Pg:WO}{w:WN}{K:WY}{mg:Str->Option WQ}{base:WU}{x qual:Str}{st:WV}{f:WP}{fd:VZ}{N ps:List Str}{n i:Nat}{P P':Calls}{E1:XK}{W:Calls->WS}
def lU (b:E7 P' P i N ps W)(F:Kk K x qual st f fd)(S:Zt N ps (Zj st))
  (hb:∀(e_:WQ) (A:WM) (outer:List Env) (s:WR) (H:Hp) (E:XK),Y8 n (A.deeper (envOfC qual (Zj st) s.heap.objs.size f e_))->E5 (Uc CX0 Pg w K mg base N qual (Zj st) f e_ A outer s H E).nox (Y6 st) (W P)):
  Ww Pg w K mg base CX0 (n+1) f fd ps (G4 K P' i):=by
 refine F.ok S (λvs H Q E h=>?_) (λe_ A outer s H vs Q E d h=>?_)
 ·obtain⟨c,C,a,Q',χ,R,rs,h,_⟩:=h;rw[rs.length,(b _ _ _ _ h).1]
 ·obtain⟨c,C,a,Q',χ,R,rs,h,q⟩:=h;obtain⟨e,h⟩:=b _ _ _ _ h;obtain⟨t,p,g⟩:=hb e_ A outer s H E d;refine⟨t,p,g c H C _ _ _ _ R (Xd.start rs N _ (by rw[rs.length,e])) h ⟨λσ τ H' C' R' t' _ h'=>q .non .non H' C' R' t' T4 h',q,λ_ _ _ _ _ _ _ z=>z.elim,λ_ _ _ _ _ _ _ z=>z.elim⟩⟩
def lT (c:E7 P' P i N ps W)(F:Kk K x qual st f fd)(S:Zt N ps (Zj st))
  (hb:∀(e_:WQ) (A:WM) (outer:List Env) (s:WR) (H:Hp),Y8 n (A.deeper (envOfC qual (Zj st) s.heap.objs.size f e_))->E5 (Uc (Km Pg w) Pg w K mg base N qual (Zj st) f e_ A outer s H E1) (Y6 st) (W P)):
  Ww Pg w K mg base (Km Pg w) (n+1) f fd ps (Ac K P' E1 i):=by
 obtain⟨oc,od,kV,doc,pm,an,e_,ct,osl,rfl,lk,a⟩:=F.ex;refine oR lk a S (λvs H Q E h=>?_) (λA outer s H vs Q E e h=>?_)
 ·obtain⟨_,d,C,b,Q',χ,R,rs,h,_⟩:=h;rw[rs.length,(c _ _ _ _ h).1]
 ·obtain⟨rfl,d,C,b,Q',χ,R,rs,h,q⟩:=h;obtain⟨g,h⟩:=c _ _ _ _ h;obtain⟨t,p,j⟩:=hb e_ A outer s H e;refine⟨t,p,j d H C _ _ _ _ R (Xd.start rs N _ (by rw[rs.length,g])) h ⟨λσ τ H' C' R' t' _ h'=>q .non .non H' C' R' t' T4 h',q,λ_ _ _ _ _ _ _ z=>z.elim,λ_ _ _ _ _ _ _ z=>z.elim⟩⟩
def By (P:Calls):Prop:=∀i vs C Q χ,¬P i vs C Q χ
def Jg {pr:List Df}:By (Jo pr 0):=λ_ _ _ _ _ z=>z
def Zw {pr:List Df}{M:Nat}:By (λj=>Jo pr 0 (j+M)):=λ_ _ _ _ _ z=>z
def Q4 {vs:List V}{H:Hp}{Q:VK}{E:XK}(z:By P)(h:G4 K P i vs H Q E):False:=by
 obtain⟨_,_,_,_,_,_,_,h,_⟩:=h;exact z _ _ _ _ _ h
def v0 (z:By P)(L:Ld K mg x st ps):Ca Pg w K mg base n x ps (G4 K P i):=by
 obtain⟨f,fd,F,B,M⟩:=L;exact⟨f,fd,⟨λvs H Q E h=>(Q4 z h).elim,λA outer s H args us vs Q E _ _ _ _ h=>(Q4 z h).elim⟩,B,F.kp,M⟩
def x0 (z:By P)(L:Ld K mg x st ps):M5 Pg w K mg base n x ps (Ac K P E1 i):=by
 obtain⟨f,fd,F,B,M⟩:=L;exact⟨f,fd,⟨λvs H Q E h=>(Q4 z h.2).elim,λA outer s H args us vs Q E _ _ _ _ h=>(Q4 z h.2).elim⟩,B,F.kp,M⟩
def ae {sp:Sp}(L:Ld K mg x st ps)(G:∀{f fd},Kk K x x st f fd->Kc Pg w K mg base n f fd ps sp):ez Pg w K mg base n x ps sp:=by
 obtain⟨f,fd,F,B,M⟩:=L;exact⟨f,fd,G F,B,F.kp,M⟩
end
def oZ {P:WO}{w:WN}{K:WY}{mg:Str->Option WQ}{base:WU}{CX:Ko}{k:Nat}{x:Str}{ps:List Str}{sp:Sp}(C:ej P w K mg base CX k x ps sp):∃f,mg x=some (.ref f)/\W.keepIn K (.ref f)=true:=by
 obtain⟨f,_,_,_,kp,m⟩:=C.ex;exact⟨f,m,kp⟩
def zr {X:Cx}{pr:List Df}{k:Nat}{fn:Str}{ps:List Str}{hs:List ExceptHandler}:∀q∈([]:List (Nat×WS)),kY X pr k fn ps hs q:=λ_ h=>nomatch h
def U1 {X:Cx}{pr:List Df}{k:Nat}{fn:Str}{ps:List Str}{hs:List ExceptHandler}{q:Nat×WS}{as:List (Nat×WS)}(h:kY X pr k fn ps hs q)(r:∀q∈as,kY X pr k fn ps hs q):∀a∈q::as,kY X pr k fn ps hs a:=λa m=>by
 rcases BB.mp m with rfl | m
 ·exact h
 ·exact r a m
end WL
namespace L2
open PySem.W Builtin Builtin.ObjectAttr Builtin.Getset_descriptor
structure wD (K:Frag)(C:Addr):Prop where
 ga:findIn K (.ref C) "__getattribute__"=some (some (.builtin "BaseException.__getattribute__"))
 hk:findIn K (.ref C) "__getattr__"=some none
 at_:findIn K (.ref C) "__class__"=some (some (.builtin "object.__class__"))
 gt:specialIn K (.builtin "object.__class__") "__get__"=some (some (.builtin "getset_descriptor.__get__"))
 tk:takesIn K (.builtin "object.__class__")=some true
 ob:mroIn K C (.type "object")=some true
 be:mroIn K C (.type "BaseException")=some true
def wD.cl {K:Frag}{C:WP}(F:wD K C):(clsIn K C).isSome=true:=by
 obtain⟨b,a,_⟩:=Option.bind_eq_some_iff.mp F.ob;rw[a];rfl
section
variable {prog:WO}{w:WN}{A:WM}{E:WQ->WR->Prop}{K:Frag}{h:WU}{g:Array GenState}{d:Drawn}{t:Nat}{os:OsState}{x C:WP}{o:Obj}
def nv {a:WQ}{R:Result->WR->Prop}(X:K.In h)(F:wD K C)(hx:h.get? x=some o)(hc:o.cls=.ref C)(q:R (.ok (.ret (.ref C))) ⟨h,g,d,t,os⟩):
  codeAny (model prog w) A (.call (.builtin "getset_descriptor.__get__") ⟨[.builtin "object.__class__",.ref x,a],[]⟩) R ⟨h,g,d,t,os⟩:=by
 have y0:Looks (model prog w) h (typeOf (.ref x)) (.ref C):=hc▸(Looks.ld hx).andThen .now;have b:=looks_mroIn (M:=model prog w) X F.ob;refine codeAny_call_builtin KF.slot_gs.plain KF.entry_gs ((KF.slot_gs).check _ _ _ _ _ _ _ _ KF.type_class (KF.args_gs _ _ _) ?_);unfold Builtin.«getset_descriptor.__get__» descrGet;rw[dga_obj];refine XA (XB ?_);unfold descrGetter descrCheckInstance descrNameAndClass isInstance;simp only[KF.owner_class]
 repeat lk
 refine⟨Code.quiet_builtin _ (by decide+kernel),(codeAny_builtin KF.entry_class) ?_⟩;unfold Builtin.«object.__class__» shownTypeOf;repeat lk
 first | exact q | trace_state
def wV {tk:Tok}{Q:Fin->WR->Prop}(X:K.In h)(F:wD K C)(hx:h.get? x=some o)(hc:o.cls=.ref C)(q:Q (.done (.ret (.ref C))) ⟨h,g,d,t,os⟩):
  wpAny (model prog w) A (Builtin.«object.__getattribute__» ⟨[.ref x,.str "__class__" tk],[]⟩) Q E ⟨h,g,d,t,os⟩:=by
 have y0:Looks (model prog w) h (typeOf (.ref x)) (.ref C):=hc▸(Looks.ld hx).andThen .now;have a:=looks_findIn (M:=model prog w) X F.at_;have y2:=looks_specialIn (M:=model prog w) X F.gt;have y3:=looks_takesIn (M:=model prog w) X F.tk;unfold Builtin.«object.__getattribute__»
 repeat (first | (with_reducible refine wpAny_call ?_) | lk)
 exact nv X F hx hc (XB q)
def wX {M:Model}{v:WQ}{Q:Unit->WR->Prop}(X:K.In h)(F:wD K C)(hx:h.get? x=some o)(hc:o.cls=.ref C)(q:Q () ⟨h,g,d,t,os⟩):wpAny M A (checkBuiltinCall "BaseException.__getattribute__" ⟨[.ref x,v],[]⟩) Q E ⟨h,g,d,t,os⟩:=by
 have k1:builtinKind "BaseException.__getattribute__"=some .slot:=by decide+kernel
 have k2:splitId "BaseException.__getattribute__"=some ("BaseException","__getattribute__"):=by decide+kernel
 have k3:=PySem.F.args_bexc_ga (.ref x) v;have y0:Looks M h (typeOf (.ref x)) (.ref C):=hc▸(Looks.ld hx).andThen .now;have a:=looks_mroIn (M:=M) X F.be;simp only[checkBuiltinCall,k1,k2];refine XA ?_;unfold isInstance
 repeat lk
 exact q
def i3 {tk:Tok}{Q:WQ->WR->Prop}(X:K.In h)(F:wD K C)(hx:h.get? x=some o)(hc:o.cls=.ref C)(q:Q (.ref C) ⟨h,g,d,t,os⟩):
  wpAny (model prog w) A (getAttrBy (.ref x) (.str "__class__" tk) false false) Q E ⟨h,g,d,t,os⟩:=by
 have y0:Looks (model prog w) h (typeOf (.ref x)) (.ref C):=hc▸(Looks.ld hx).andThen .now;have a:=looks_findIn (M:=model prog w) X F.ga;have y2:=looks_findIn (M:=model prog w) X F.hk;have b:(Value.builtin "BaseException.__getattribute__"==Value.builtin "object.__getattribute__")=false:=by decide+kernel
 unfold getAttrBy;refine wpAny_holding (XA (y0.at (XA (a.at ?_))));show wpAny _ _ (if (onTheHeap (Value.ref C)&&Value.builtin "BaseException.__getattribute__"==Value.builtin "object.__getattribute__")=true then _ else _) _ _ _;rw[b,Bool.and_false,XX (by decide)];unfold getAttrByItsOwn hookBefore;rw[XY (show onTheHeap (Value.ref C)=true from FQ)];refine XA (y2.at (XA (wpAny_attempt (wpAny_holding ?_))));unfold callGetattribute;rw[Bool.false_and,XX (by decide)];unfold boundAndCalled
 repeat (first | (with_reducible refine wpAny_call ?_) | lk)
 exact codeAny_call_builtin PySem.F.excAttr_ValueError.ga.plain PySem.F.entry_bexc_ga (wX X F hx hc (wV X F hx hc (handed_on FQ q)))
def wW {s:WR}{Q:Option WQ->WR->Prop}(X:K.In s.heap)(F:wD K C)(hx:s.heap.get? x=some o)(hc:o.cls=.ref C)(q:Q (some (.ref C)) {s with toks:=s.toks+1}):wpAny (model prog w) A (getAttr? (.ref x) "__class__") Q E s:=by
 obtain⟨h,g,d,t,os⟩:=s;unfold getAttr? getAttrBy?;exact XA (wpAny_mkText (XA (wpAny_attempt (i3 X F hx hc (XB q)))))
def Zae (x C:WP)(h:WU):Prop:=∃o,h.get? x=some o/\o.cls=.ref C
set_option tactic.hygienic true in
def uI (F:wD K C):KitX K (.ref x) (.ref C) (Zae x C) where
 ty:=λM h _ p=>by obtain⟨o,hx,hc⟩:=p;exact hc▸(Looks.ld hx).andThen .now
 it:=λM h X _=>by
  obtain⟨c,e⟩:=CV.mp F.cl;unfold clsIn at e
  split at e
  ·rename_i a;intro f Q' g s' k q;unfold isType loadHead;exact XA (wpAny_loadPart (k _ _ (X _ _ a)) (XB q))
  ·cases e
 ne:=λh d dd its n sl X b=>by
  obtain⟨c,e⟩:=CV.mp F.cl;refine Bool.eq_false_iff.mpr λq=>?_;obtain rfl:C=d:=Value.ref.inj (beq_iff_eq.mp q);unfold clsIn at e
  split at e
  ·rename_i a;cases (X _ _ a).symm.trans b
  ·cases e
 ca:=λX p q=>by obtain⟨o,hx,hc⟩:=p;exact wW X F hx hc q
end
section
variable {X:Cx}{WZ:List (WP×Obj)}{σ:St}{H:Hp}{s s':WR}{ea:WP}{cls:WQ}
def Y5.there {P:WO}{w:WN}{h:WU}{a:WP}{o:HO}(x:Y5 P w H h a o):∃u,h.get? a=some u:=by
 cases o with
 | lst xs=>obtain⟨_,_,_,_,e⟩:=x;exact⟨_,e⟩
 | tup xs=>obtain⟨_,_,_,ob,e,_⟩:=x;exact⟨_,e⟩
 | dK kvs=>obtain⟨_,_,_,_,o,_,_,e,_⟩:=x;exact⟨_,e⟩
 | dT kvs=>obtain⟨_,_,_,_,o,_,_,e,_⟩:=x;exact⟨_,e⟩
 | set S n=>obtain⟨o,_,_,_,e,_⟩:=x;exact⟨_,e⟩
 | ins C dx fs=>obtain⟨_,_,_,e,_⟩:=x;exact⟨_,e⟩
 | own y=>exact x
 | xd fs=>obtain⟨_,⟨_,_,_,e,_⟩,_⟩:=x;exact⟨_,e⟩
 | rng lo hi=>obtain⟨_,_,_,e⟩:=x;exact⟨_,e⟩
 | frz ob u=>exact⟨_,x.1⟩
 | tbl ps=>exact⟨_,(show h.get? a=some _ from x)⟩
 | met f y=>exact⟨_,(show h.get? a=some _ from x)⟩
 | ext φ=>exact x.2.1
def E8.take (F:E8 X WZ σ H ea cls s):∃ob,ob.cls=cls/\H ea=none/\Zq X WZ σ (Yq H ea (.frz ob (.own ea))) s:=by
 obtain⟨s1,B,a0,I,os,bare,k,sl,p⟩:=F;obtain⟨f1,f2,r,t⟩:=id p;obtain⟨v,vs,T,w,ts,f,⟨a,x⟩,hd,-⟩:=id t;have g:ea∉Yx X.stack:=λhm=>by
  obtain⟨_,o,l,h⟩:=r.mem hm;rw[f] at l;cases l;exact h vs hd
 have d:s1.heap.get? ea=none:=by
  cases q:s1.heap.get? ea with
  | none=>rfl
  | some o=>have:=k ea o q g;rw[f2] at this;cases this
 have m:H ea=none:=by
  cases q:H ea with
  | none=>rfl
  | some o=>obtain⟨u,e⟩:=(I.hok ea o q).there;rw[d] at e;cases e
 have k':∀b o,s1.heap.get? b=some o->b∉Yx X.stack->s.heap.get? b=some o:=λb o e hb=>f1 b o (k b o e hb);have ne:∀{b:WP} {o:HO},H b=some o->b≠ea:=λe z=>by rw[z,m] at e;cases e
 have i:=E9 (H:=H) k' sl;have j:=Hv I.hok I.stkFree k';refine⟨v,a,m,I.call' (ch:=[]) os ⟨i.keep,i.slot,λb o e n hb=>?_,i.there,λb xs e=>?_,λb o u e=>?_,λb ps e=>?_⟩ (λb o e=>?_) bare (λb z=>absurd z (by simp))⟩
 ·rw[Z0 (λz=>by rw[z,d] at e;cases e)];exact n
 ·rw[Z0 (ne e)];exact e
 ·rw[Z0 (ne e)];exact e
 ·refine⟨#[],?_⟩;rw[Z0 (ne e),Array.append_empty];exact e
 ·by_cases hb:b=ea
  ·subst hb;rw[Ya] at e;cases e;exact⟨f,_,f⟩
  ·rw[Z0 hb] at e;refine(j b o e).stay (λc u _ q=>q) (λc q=>?_) λc xs q=>?_
   ·rw[Z0 (ne q)];exact q
   ·rw[Z0 (ne q)];exact q
def Zaw (i:Nat)(Cl:WP)(t:TS):TS:=λD σ H=>∀ea ob,H ea=none->ob.cls=.ref Cl->t {nx:=λ_ _=>False,rt:=D.rt,bk:=λ_ _=>False,ct:=λ_ _=>False} (σ.set i (some (.ref ea))) (Yq H ea (.frz ob (.own ea)))
end
end L2
namespace WL
def cx (s_:List (Str×Bool))(a:WE):WE:=λτ C Q χ=>a τ C (λy C1=>∃p cn b,y=.ref p/\C1 p=some (.exc cn)/\s_.lookup cn=some b/\Q (.bl b) C1) χ
def iz (K:WY)(c:WQ)(s_:List (Str×Bool)):Prop:=∀cn b,s_.lookup cn=some b->∀Cl,W.nsIn K mainGlobals cn=some (some (.ref Cl))->wD K Cl/\W.kitOne K (.ref Cl) c=some b
def sU (K:WY)(mg:Str->Option WQ)(x:Str)(s_:List (Str×Bool)):Prop:=(∃D,mg x=some (.ref D)/\iz K (.ref D) s_)\/∃n,mg x=none/\bootBuiltins x=some (.type n)/\iz K (.type n) s_
section
variable {X:Cx}{a:WW}{wa:WE}{p pos:Pos}{s_:List (Str×Bool)}
def Ox {x:Str}{d:Pos}(l:Gl X "isinstance")(hm:X.mg "isinstance"=none)(e:Gl X x)(hx:sU X.K X.mg x s_)(ha:Ji X a wa)
  (g:x≠"__name__":=by decide) (f:(x==("__debug__":Str))=false:=by decide) (j:starEach [a,.Name x d] X.env=[(false,eval a X.env),(false,eval (.Name x d) X.env)]:=by rfl):Ji X (.Call (.Name "isinstance" p) [a,.Name x d] [] pos) (cx s_ wa):=by
 obtain⟨ta,m,s1⟩:=ha;obtain⟨v,c,hn,N,un,o⟩:∃v c,PE X (.Name x d) (tC v)/\Z9 v c/\(∀u,Z9 v u->u=c)/\iz X.K c s_:=by
  rcases hx with⟨D,h1,h2⟩ | ⟨n,h1,h2,t⟩
  ·exact⟨.ref D,.ref D,qk e h1 FQ f,FQ,λ_ z=>z,h2⟩
  ·exact⟨.ty n,.type n,qt e h1 h2 FQ g f,FQ,λ_ z=>z,t⟩
 let r:List V->Hp->VK->Prop:=λxs H Q=>∃y Cl ob u b,xs=[.ref y,v]/\H y=some (.frz ob u)/\ob.cls=.ref Cl/\wD X.K Cl/\W.kitOne X.K (.ref Cl) c=some b/\Q (.bl b) H
 have w:Vo X (.builtin "isinstance") r:=by
  intro WZ s σ H xs us Q I rs h;obtain⟨y,Cl,ob,U,b,rfl,hy,hc,F,hk,q⟩:=h;obtain⟨u,u2,rfl,A,i⟩:=rs.two
  cases A
  rw[un _ i];exact W.kia_one (uI F) I.kIn ⟨ob,(I.hok y _ hy).1,hc⟩ hk (λz=>nomatch z) λtk=>⟨.bl b,H,I.tok tk,FQ,q⟩
 refine⟨_,Ar w l hm Fe (Kv m (Kv hn zY (by rw[show starEach [Expr.Name x d] X.env=[(false,eval (.Name x d) X.env)] from rfl];rfl)) ?_) (by decide) (by decide) ?_ ?_,?_⟩
 ·rw[j];rfl
 ·rw[j];rfl
 ·rfl
 ·intro F H C σ τ Q Q' χ R S h q;refine s1 F H C σ τ _ _ χ R S h λy v H1 C1 R1 t1 B h1=>?_;obtain⟨p,cn,b,rfl,E,hb,h1⟩:=h1
  cases Z7 B
  obtain⟨Cl,ob,u,hn,hc,G⟩:=(show Lq X.K H1 p (.exc cn) from R1.obj p _ E);obtain⟨L,k1⟩:=o cn b hb Cl hn;exact⟨p,Cl,ob,u,b,FQ,G,hc,L,k1,q _ _ H1 C1 R1 t1 J5 h1⟩
end
def Zax (i:Nat)(cn:Str)(w:WS):WS:=λD τ C=>∀ea,C ea=none->w {nx:=λ_ _=>False,rt:=D.rt,bk:=λ_ _=>False,ct:=λ_ _=>False,xc:=D.xc} (τ.set i (some (.ref ea))) (up C ea (.exc cn))
def Zav (x:T)(C:Hw)(n:String):Prop:=dj x C n\/∃a kvs,x=.ref a/\C a=some (.fdic kvs)/\n="dict"
section
variable {X:Cx}{st:WV}{e:WW}{wA:WA}{k i j:Nat}{pr:List Df}{P:Calls}
def eO (a:Jo pr k=P)(h:Mx X e (Xh (Jo pr k) i wA)):Mx X e (Xh P i wA):=a▸h
def sP (a:Jo pr k=P)(h:pZ X st (Ol (Xh (Jo pr k) i wA) (Nq j))):pZ X st (Ol (Xh P i wA) (Nq j)):=a▸h
end
def kW (CX:Ko)(X:Cx)(k:Nat)(m:Str)(MT:WP->L2.Sp->Prop):Prop:=∀C sp,MT C sp->∃f fd ps,z9 X.K C/\wB X.K C m f/\Ww X.prog X.w X.K X.mg X.base CX k f fd ps sp/\Xv X.K fd ps []
section
variable {X:Cx}{CX:Ko}{k:Nat}{E:XK}{m:Str}{p pos c_:Pos}{e o:WW}{es:List WW}{ta:TE}{t:TA}{MT:WP->L2.Sp->Prop}
def ud {pl:Sem Bool}(hx:Uo CX X E)(n:PE X o ta)(p:kW CX X k m MT)(v:Y8 k X.A)(ha:PA X (e::es) t)
  (b:starEach (e::es) X.env=(false,eval e X.env)::starEach es X.env:=by rfl) (d:(backTo pos (starEach es X.env)).any (·.1)=false:=by rfl)
  (w:eval (.Call (.Attribute o m c_) (e::es) [] pos) X.env=(do
   let ov <-eval o X.env
   standAt c_.atName
   let (f,first) <-holding [ov] (getMethod ov m pl)
   callWith pos f first (backTo pos (starEach (e::es) X.env)) (backToKw pos (keywordEach [] X.env))):=by rfl):
  PE X (.Call (.Attribute o m c_) (e::es) [] pos) (vm MT m E ta t):=by
 intro WZ s σ H Q I h;refine W.methodCall_KW (pl:=pl) (Y3 (n WZ s σ H _ I h) λu s1 ⟨x,H1,i,y,a,C,dx,fs,sp,ex,ea,g,l,q⟩=>?_) w;subst ex;obtain rfl:u=Value.ref a:=y;obtain⟨f,fd,ps,c,hm,F,hb⟩:=p C sp g;refine Hy i ea c hm l ?_;refine ET (first:=[.ref a]) (h₀:=X.base) I.ok.mod.kin hm.kp (Y3 (ha pos WZ s1 σ H1 _ i q) λus s2 ⟨vs,H2,j,r,z⟩=>⟨j.kIn,?_⟩) b d;exact zQ (us:=.ref a::us) (vs:=.ref a::vs) (dvs:=[]) F v hb .nil hx j (.cons FQ r) (by rw[YK];exact z)
def xA {pl:Sem Bool}(hx:Uo CX X E)(e:PE X o ta)(g:kW CX X k m MT)(i:Y8 k X.A)
  (j:eval (.Call (.Attribute o m c_) [] [] pos) X.env=(do
   let ov <-eval o X.env
   standAt c_.atName
   let (f,first) <-holding [ov] (getMethod ov m pl)
   callWith pos f first (backTo pos (starEach [] X.env)) (backToKw pos (keywordEach [] X.env))):=by rfl):
  PE X (.Call (.Attribute o m c_) [] [] pos) (vm MT m E ta vj):=by
 intro WZ s σ H Q I h;refine W.methodCall_KW (pl:=pl) (Y3 (e WZ s σ H _ I h) λu s1 ⟨x,H1,b,n,a,C,dx,fs,sp,ex,ea,d,l,q⟩=>?_) j;subst ex;obtain rfl:u=Value.ref a:=n;obtain⟨f,fd,ps,c,hm,F,hb⟩:=g C sp d;refine Hy b ea c hm l ?_;exact W.callWith_K0 (first:=[.ref a]) b.kIn hm.kp (zQ (us:=[.ref a]) (vs:=[.ref a]) (dvs:=[]) F i hb .nil hx b (.cons FQ .nil) q)
end
def wG (CX:Ko)(P:WO)(w:WN)(K:WY)(mg:Str->Option WQ)(base:WU)(n:Nat)(cn m:Str)(ps:List Str)(sp:L2.Sp):Prop:=
 ∃Cl f fd,M3 K cn Cl/\z9 K Cl/\wB K Cl m f/\Ww P w K mg base CX n f fd ps sp/\Xv K fd ps []
def wC (CX:Ko)(P:WO)(w:WN)(K:WY)(mg:Str->Option WQ)(base:WU)(n:Nat)(m:Str)(sp:Nat->L2.Sp)(tb:List (Str×Nat)):Prop:=∀cn i,tb.lookup cn=some i->∃ps,wG CX P w K mg base n cn m ps (sp i)
section
variable {CX:Ko}{P:WO}{w:WN}{K:WY}{mg:Str->Option WQ}{base:WU}{n:Nat}{m:Str}{tb:List (Str×Nat)}{sp:Nat->L2.Sp}
def Z2:wC CX P w K mg base n m sp []:=λcn i h=>by simp at h
def Zx {cn:Str}{i:Nat}{ps:List Str}(h:wG CX P w K mg base n cn m ps (sp i))(r:wC CX P w K mg base n m sp tb):wC CX P w K mg base n m sp ((cn,i)::tb):=λc j e=>by
 by_cases q:c=cn
 ·have hb:(c==cn)=true:=beq_iff_eq.mpr q;simp only[List.lookup,hb] at e
  cases e;subst q;exact⟨ps,h⟩
 ·have hb:(c==cn)=false:=Tm.mpr q;simp only[List.lookup,hb] at e;exact r c j e
end
section
variable {X:Cx}{CX:Ko}{k:Nat}{m:Str}{p pos c_:Pos}{e o:WW}{es:List WW}{wo:WE}{wA:WA}{tb:List (Str×Nat)}{P:Calls}{E1:XK}{sp:Nat->L2.Sp}
def jq (T:wC CX X.prog X.w X.K X.mg X.base k m sp tb):kW CX X k m (λC s=>∃cn i,M3 X.K cn C/\tb.lookup cn=some i/\s=sp i):=λC s h=>by
 obtain⟨cn,i,hc,a,rfl⟩:=h;obtain⟨ps,Cl,f,fd,h1,h2,b,c,d⟩:=T cn i a;have e:some (some (Value.ref Cl))=some (some (Value.ref C)):=h1.symm.trans hc
 cases e
 exact⟨f,fd,ps,h2,b,c,d⟩
def om (K:WY)(E:XK)(P:Calls)(sp:Nat->L2.Sp):Prop:=∀i vs H Q,(∃(F:Hp) (C:Hw) (a:List T) (Q':WK) (χ:WX),Rl K F H C/\Reps K H vs a/\P i a C Q' χ/\QE K F H Q Q')->sp i vs H Q E
def Yr {K:WY}{E:XK}:om K E P (G4 K P):=λ_ _ _ _ h=>h
def Q7 {K:WY}:om K E1 P (Ac K P E1):=λ_ _ _ _ h=>⟨FQ,h⟩
def Yf {pl:Sem Bool}(hx:Uo CX X E1)(hs:om X.K E1 P sp)(T:wC CX X.prog X.w X.K X.mg X.base k m sp tb)(g:Y8 k X.A)(j:Ji X o wo)(ha:Lz X (e::es) wA)
  (b:starEach (e::es) X.env=(false,eval e X.env)::starEach es X.env:=by rfl) (c:(backTo pos (starEach es X.env)).any (·.1)=false:=by rfl)
  (l:eval (.Call (.Attribute o m c_) (e::es) [] pos) X.env=(do
   let ov <-eval o X.env
   standAt c_.atName
   let (f,first) <-holding [ov] (getMethod ov m pl)
   callWith pos f first (backTo pos (starEach (e::es) X.env)) (backToKw pos (keywordEach [] X.env))):=by rfl):
  Ji X (.Call (.Attribute o m c_) (e::es) [] pos) (Kj P tb m wo wA):=by
 obtain⟨to,n,s1⟩:=j;obtain⟨ta,p2,s2⟩:=ha;refine⟨_,ud (pl:=pl) hx n (jq T) g p2 b c l,λF H C σ τ Q Q' χ R S h q=>?_⟩;refine s1 F H C σ τ _ _ χ R S h λx v H1 C1 R1 t1 p h1=>?_;obtain⟨a,cn,fs,i,rfl,r,s,hm,h1⟩:=h1
 cases Z7 p
 obtain⟨Cl,dx,ks,hc,t,d⟩:=R1.ins r;refine⟨a,Cl,dx,ks,_,FQ,t,⟨cn,i,hc,s,FQ⟩,(Kt d).2 hm,?_⟩;refine s2 F H1 C1 σ τ _ _ χ R1 (S.tx t1) h1 λxs vs H2 C2 R2 t2 rs h2=>?_;exact hs _ _ _ _ ⟨F,C2,.ref a::vs,Q',χ,R2,Yl Yu rs,h2,QE.at q (t1.trans t2)⟩
def Wg {pl:Sem Bool}(hx:Uo CX X E1)(hs:om X.K E1 P sp)(T:wC CX X.prog X.w X.K X.mg X.base k m sp tb)(c:Y8 k X.A)(d:Ji X o wo)
  (e:eval (.Call (.Attribute o m c_) [] [] pos) X.env=(do
   let ov <-eval o X.env
   standAt c_.atName
   let (f,first) <-holding [ov] (getMethod ov m pl)
   callWith pos f first (backTo pos (starEach [] X.env)) (backToKw pos (keywordEach [] X.env))):=by rfl):
  Ji X (.Call (.Attribute o m c_) [] [] pos) (Kj P tb m wo Zv):=by
 obtain⟨to,g,s1⟩:=d;refine⟨_,xA (pl:=pl) hx g (jq T) c e,λF H C σ τ Q Q' χ R S h q=>?_⟩;refine s1 F H C σ τ _ _ χ R S h λx v H1 C1 R1 t1 j h1=>?_;obtain⟨a,cn,fs,i,rfl,l,n,hm,h1⟩:=h1
 cases Z7 j
 obtain⟨Cl,dx,ks,hc,p,b⟩:=R1.ins l;refine⟨a,Cl,dx,ks,_,FQ,p,⟨cn,i,hc,n,FQ⟩,(Kt b).2 hm,?_⟩;exact hs _ _ _ _ ⟨F,C1,[.ref a],Q',χ,R1,Yl Yu Yy,h1,QE.at q t1⟩
end
def de (P:WO)(w:WN)(K:WY)(mg:Str->Option WQ)(base:WU)(n:Nat)(Pc:Calls)(cn:Str)(i j:Nat):Prop:=
 ∃Cl f,M3 K cn Cl/\mg cn=some (.ref Cl)/\L2.Mk K Cl f/\(By Pc\/∃P' k fd ps,n=k+1/\Ww P w K mg base CX0 k f fd ps (G4 K P' i)/\Xv K fd ps []/\∀vs C Q χ,Pc j vs C Q χ->∀p,C p=none->P' i (.ref p::vs) (up C p (.ins cn [])) (λv C2=>v=.non/\Q (.ref p) C2) χ)
section
variable {X:Cx}{k i j:Nat}{cn:Str}{p pos:Pos}{e:WW}{es:List WW}{wA:WA}{P:Calls}
def pB (m:de X.prog X.w X.K X.mg X.base k P cn i j)(n:Y8 k X.A)(o:Gl X cn)
  (c:(cn==("__debug__":Str))=false:=by decide):Ji X (.Call (.Name cn p) [] [] pos) (Xh P j Zv):=by
 obtain⟨Cl,f,hc,hm,M,r | ⟨P',k',fd,ps,rfl,F,hb,t⟩⟩:=m
 ·exact⟨λσ H Q=>False,λWZ s σ H Q I h=>h.elim,λF H C σ τ Q Q' χ R S h q=>(r _ _ _ _ _ h).elim⟩
 ·refine⟨_,ue (dvs:=[]) M F n o hm hb .nil Ja c,λd H C σ τ Q Q' χ R S h q=>?_⟩;show ∀x dx,H x=none->H dx=none->dx≠x->_;intro x dx hx a e;have g:C x=none:=R.free hx;have R3:Rl X.K d (Yq H dx (.own x)) C:=R.hid a;have b:Yq H dx (.own x) x=none:=by rw[Z0 e.symm];exact hx
  have R4:Rl X.K d (Yq (Yq H dx (.own x)) x (.ins Cl dx [])) (up C x (.ins cn [])):=R3.new b (show Lq X.K (Yq (Yq H dx (.own x)) x (.ins Cl dx [])) x (.ins cn []) from⟨Cl,dx,[],hc,Ya,.nil⟩);have u:Tx H (Yq (Yq H dx (.own x)) x (.ins Cl dx [])):=(Tx.new a).trans (Tx.new b);refine⟨d,_,[.ref x],_,χ,R4,Yl Yu Yy,t _ _ _ _ h x g,?_⟩;intro y v D E R5 z B l;obtain⟨rfl,l⟩:=l;exact⟨La B,q _ _ _ _ R5 (u.trans z) Yu l⟩
end
section
variable {P:WO}{w:WN}{K:WY}{mg:Str->Option WQ}{base:WU}{n i j:Nat}{cn x q:Str}{Cl:WP}{st:WV}{ps:List Str}{sp:L2.Sp}{Pc:Calls}{E1:XK}{CX:Ko}
def O9 (z:By Pc)(k:Kl K mg cn Cl)(L:Lm K Cl x q st ps):wG CX0 P w K mg base n cn x ps (G4 K Pc i):=by
 obtain⟨f,fd,M,F,B⟩:=L;exact⟨Cl,f,fd,k.at_,k.cls,M,⟨λvs H Q E h=>(Q4 z h).elim,λA outer s H args us vs Q E _ _ _ _ h=>(Q4 z h).elim⟩,B⟩
def xL (z:By Pc)(k:Kl K mg cn Cl)(L:Lm K Cl x q st ps):wG (Km P w) P w K mg base n cn x ps (Ac K Pc E1 i):=by
 obtain⟨f,fd,M,F,B⟩:=L;exact⟨Cl,f,fd,k.at_,k.cls,M,⟨λvs H Q E h=>(Q4 z h.2).elim,λA outer s H args us vs Q E _ _ _ _ h=>(Q4 z h.2).elim⟩,B⟩
def Sx (k:Kl K mg cn Cl)(L:Lm K Cl x q st ps)(G:∀{f fd},Kk K x q st f fd->Ww P w K mg base CX n f fd ps sp):wG CX P w K mg base n cn x ps sp:=by
 obtain⟨f,fd,M,F,B⟩:=L;exact⟨Cl,f,fd,k.at_,k.cls,M,G F,B⟩
def lg (z:By Pc)(k:Kl K mg cn Cl)(mk:W.makesIn K Cl=true)(a:W.keepIn K (.ref Cl)=true)(L:Lm K Cl "__init__" q st ps):de P w K mg base n Pc cn i j:=by
 obtain⟨f,fd,M,F,B⟩:=L;exact⟨Cl,f,k.at_,k.mg,⟨mk,M.at_,M.fn,a⟩,.inl z⟩
def yC {P':Calls}(k:Kl K mg cn Cl)(mk:W.makesIn K Cl=true)(b:W.keepIn K (.ref Cl)=true)(h:wG CX0 P w K mg base n cn "__init__" ps (G4 K P' i))
  (c:∀vs C Q χ,Pc j vs C Q χ->∀p,C p=none->P' i (.ref p::vs) (up C p (.ins cn [])) (λv C2=>v=.non/\Q (.ref p) C2) χ):de P w K mg base (n+1) Pc cn i j:=by
 obtain⟨C2,f,fd,h1,h2,a,d,g⟩:=h;have e:some (some (Value.ref C2))=some (some (Value.ref Cl)):=h1.symm.trans k.at_
 cases e
 exact⟨_,f,k.at_,k.mg,⟨mk,a.at_,a.fn,b⟩,.inr ⟨P',n,fd,ps,FQ,d,g,c⟩⟩
end
def mU {pr:List Df}{n i j:Nat}{cn:Str}(h:pr[j]?=some ⟨0,0,jZ cn i⟩):∀vs C Q χ,Jo pr (n+1) j vs C Q χ->∀p,C p=none->Jo pr n i (.ref p::vs) (up C p (.ins cn [])) (λv C2=>v=.non/\Q (.ref p) C2) χ:=λvs C Q χ z=>by
 obtain⟨d,e,g,z⟩:=z;rw[h] at e;cases e;obtain⟨c,ev,z⟩:=z;have f:vs=c:=by
  rw[show(0-0:Nat)=0 from FQ,DE,YK] at ev;exact(List.map_inj_right λa b z=>by cases z;rfl).mp ev
 subst f;exact z
def u5 {pr:List Df}{n i j M:Nat}{cn:Str}(h:pr[j+M]?=some ⟨0,0,λP=>jZ cn i λl=>P (l+M)⟩):∀vs C Q χ,Jo pr (n+1) (j+M) vs C Q χ->∀p,C p=none->Jo pr n (i+M) (.ref p::vs) (up C p (.ins cn [])) (λv C2=>v=.non/\Q (.ref p) C2) χ:=λvs C Q χ z=>by
 obtain⟨d,e,g,z⟩:=z;rw[h] at e;cases e;obtain⟨c,ev,z⟩:=z;have f:vs=c:=by
  rw[show(0-0:Nat)=0 from FQ,DE,YK] at ev;exact(List.map_inj_right λa b z=>by cases z;rfl).mp ev
 subst f;exact z
end WL
namespace L2
def aJ (H H':Hp):Hp:=λb=>match H b with | some o=>some o | none=>H' b
def FB (H H':Hp):Prop:=∀b o,H' b=some o->H b=none\/∃ob v,o=.frz ob v/\ot v/\(H b=some v\/∃o',H b=some (.frz o' v))
section
variable {X:Cx}{WZ:List (WP×Obj)}{σ:St}{H:Hp}{s s':WR}
def b6 (P:WO)(w:WN)(sp:Sp)(ta:TA)(i:Nat)(th:WQ->TS):TS:=λD σ H=>ta σ H λvs H1=>∃E:XK,(∀h,Ux P w H1 h->sp vs (freeze H1 h) (λv H'=>FB H1 H'->D.nx (σ.set i (some v)) (aJ H1 H')) E)/\∀cls,(∃H',E cls none H')->th cls D σ H1
end
end L2
namespace WL
def bA (P:Calls)(wA:WA)(i:Nat)(as:List (Nat×WS)):WS:=λD τ C=>wA τ C (λvs C1=>∃b C',Fzs C1 vs b/\bq C1 C'/\∃q∈as,
 P q.1 b C' (λv C2=>(∃k,Xp v k=true/\D.nx (τ.set i (some v)) C1)\/∃a ts k,v=.ref a/\C2 a=some (.lst ts)/\Y2 ts k=true/\∀p,C1 p=none->D.nx (τ.set i (some (.ref p))) (up C1 p (.lst ts))) (λ_ _=>False)/\q.2 D τ C1) D.xc
def Y1 {K:WY}{c:WQ}:iz K c []:=λ_ _ e=>by cases e
def Zs {K:WY}{c:WQ}{cn:Str}{b:Bool}{Cl:WP}{s_:List (Str×Bool)}(a:W.nsIn K mainGlobals cn=some (some (.ref Cl)))(F:wD K Cl)(k:W.kitOne K (.ref Cl) c=some b)(r:iz K c s_):iz K c ((cn,b)::s_):=λn f e D d=>by
 rw[BS] at e
 cases q:(n==cn) with
 | false=>rw[q] at e;exact r n f e D d
 | true=>
  rw[q] at e;cases e;rw[eq_of_beq q,a] at d
  cases d
  exact⟨F,k⟩
end WL
namespace L2
def bK (lo hi c:Int):Nat:=if lo<hi then((hi-lo-1)/c+1).toNat else 0
section
variable {X:Cx}{WZ:List (WP×Obj)}{σ:St}{H:Hp}{s s':WR}{ea:WP}{cls:WQ}
def Zq.goneK {M:Model}{A:WM}{E:WQ->WR->Prop}{nm:Str}{pos:Pos}{Q:Unit->WR->Prop}{i:Nat}(I:Zq X WZ σ H s)(hk:X.env.kindOf nm=some .local)(D:X.N.Nodup)(hi:X.N[i]?=some nm)
  (h:∀s',Zq X WZ (σ.set i none) H s'->Q () s'):wpAny M A (do bindName X.env nm .none;unbindBehindTheSuite X.env nm pos) Q E s:=by
 obtain⟨m,hn,v⟩:=id I.loc;have l:(X.env.scope.kind==.class||(X.env.scope.kind==.module&&X.env.locals !=X.env.globals))=false:=by rw[I.ok.kind];rfl
 have cne:=I.cne;refine wpAny_nameGoes_keeps hk hn l λh' v0 t hs=>?_;have f:∀{b:WP} {o:Obj},X.s₀.heap.get? b=some o->h'.get? b=s.heap.get? b:=λe=>hs.2 _ (XH (XG (XD e) I.ok.above));refine h _ ⟨I.ok,I.os,I.bare,⟨λb o e n hb hx=>(f e).trans (I.base.keep b o e n hb hx),λb o e n hb hx=>?_,I.base.free,λb o e hx=>?_,I.base.tups,I.base.frzs,I.base.tbls⟩,⟨_,t,λj y v' g r e3=>?_⟩,λy c e=>?_,I.free,I.freeC,λp w=>?_,λb ob e=>?_,by rw[BP];exact I.len⟩
 ·obtain⟨sl,g⟩:=I.base.slot b o e n hb hx;exact⟨sl,(f e).trans g⟩
 ·obtain⟨o',g⟩:=I.base.there b o e hx;exact⟨o',(f e).trans g⟩
 ·by_cases hj:j=i
  ·subst hj;have u:j<σ.length:=by rw[I.len];exact(AZ.mp hi).1
   rw[BN u] at r
   cases r
  ·rw[BW (Ne.symm hj)] at r;obtain⟨u',r',q⟩:=v j y v' g r e3;refine⟨u',r',?_⟩
   rcases q with⟨k,e⟩ | ⟨k,c,e,z⟩
   ·refine .inl ⟨k,?_⟩;have:y≠nm:=λe=>hj (Hb D g (e▸hi));simp[this,e]
   ·exact .inr ⟨k,c,e,z.sameBut hs (cne y c e)⟩
 ·obtain⟨w',z⟩:=I.cell y c e;exact⟨w',z.sameBut hs (cne y c e)⟩
 ·obtain⟨e,n,ne,x,d⟩:=I.pin p w;exact⟨(hs.2 p.1 ne).trans e,n,ne,x,d⟩
 ·refine(I.hok b ob e).stay (λc w' hc q=>(hs.2 c ?_).trans q) (λ_ q=>q) λ_ _ q=>q;rintro rfl;have a:=I.free
  rcases hc with rfl | hc
  ·rw[a] at e;cases e
  ·rw[a] at hc;cases hc
def dz (i:Nat)(Cl:WP)(t:TS):TS:=λD σ H=>∀ea ob,H ea=none->ob.cls=.ref Cl->t {nx:=λy_ H'=>D.nx (y_.set i none) H',rt:=D.rt,bk:=λ_ _=>False,ct:=λ_ _=>False} (σ.set i (some (.ref ea))) (Yq H ea (.frz ob (.own ea)))
set_option tactic.hygienic true in
def lN {x nm:Str}{c:WQ}{np pos:Pos}{q_:List WV}{d_:WV}{Yc:List ExceptHandler}{t:TS}{i:Nat}{Cl:WP}(j:Gl X x)(hm:X.mg x=some c)(l:W.exmOne X.K (.ref Cl) c=some true)
  (a:X.N.Nodup) (hi:X.N[i]?=some nm) (m:X.env.scope.names.lookup nm=some .local) (hk:X.env.kindOf nm=some .local) (hs:∀ea,Bz (X.mk1 (.ref ea)) (d_::q_) t) (b:(x==("__debug__":Str))=false:=by decide):HB X (.ExceptHandler (some (.Name x np)) (some nm) (d_::q_) pos::Yc) (.ref Cl) (dz i Cl t):=by
 intro ea WZ s σ H D F h;refine wpAny_handleBy_cons (codeAny_handlers_test (T8 (X:=X.mk1 (.ref ea)) F.inv.mk1 j hm ?_ b)) (by intro q;cases q);refine W.exm_one F.inv.kIn F.ty l _ _ _ _ (λ_ _ z=>z) ?_;refine codeAny_handlers_suite_as (F.land λs2 d=>?_);obtain⟨ob,hc,n,o⟩:=d.take;refine Ny (X:=X) o a hi (.inl hk) (v:=.ref ea) FQ (λp w=>?_) (.inr m);refine wpAny_mono (hs ea WZ p _ _ _ w.mk1 (h ea ob n hc)) (λf A q=>?_) λ_ _ z=>z.elim
 cases f with
 | next=>
  obtain⟨y_,H',e,z⟩:=q;exact(e.unmk1 d.inv.ok).goneK hk a hi λy g=>⟨_,H',g,z⟩
 | brk=>obtain⟨_,_,_,z⟩:=q;exact z.elim
 | cont=>obtain⟨_,_,_,z⟩:=q;exact z.elim
 | ret u=>
  obtain⟨v,y_,H',e,r,q⟩:=q;exact(e.unmk1 d.inv.ok).goneK hk a hi λy g=>⟨v,_,H',g,r,q⟩
def TB (X:Cx)(body:List WV)(hs:List ExceptHandler)(t:TS):Prop:=
 ∀(WZ:List (WP×Obj)) (s:WR) (σ:St) (H:Hp) (D:Nn),1<=s.toks->Zq X WZ σ H s->t D σ H->wpAny (model X.prog X.w) X.A (execs body X.env) (SP X WZ D)
  (λe a=>wpAny (model X.prog X.w) X.A (noteFrame e X.env) (λ_ b=>wpAny (model X.prog X.w) X.A (setFlight e none) (λ_ c=>wpAny (model X.prog X.w) X.A (handleBy e X.env hs) (SP X WZ D) X.xe c) X.xe b) X.xe a) s
set_option tactic.hygienic true in
def vV {body:List WV}{h₀:ExceptHandler}{hs:List ExceptHandler}{t:TS}{pos:Pos}(h:TB X body (h₀::hs) t):kS X (.Try body (h₀::hs) [] [] pos) t:=by
 intro WZ s σ H D h1 I q;refine wpAny_Try_except (wpAny_mono (h WZ s σ H D h1 I q) (λf s1 z=>?_) λ_ _ z=>z)
 cases f with
 | next=>exact wpAny_execs_nil z
 | brk=>exact z
 | cont=>exact z
 | ret u=>exact z
set_option tactic.hygienic true in
def iJ {c:WW}{a b:List WV}{tc:TT}{t u:TS}{pos:Pos}{hs:List ExceptHandler}(hc:PT X.nox c tc)(ha:TB X a hs t)(hb:TB X b hs u):TB X [.If c a b pos] hs (nL tc t u):=by
 intro WZ s σ H D h1 I h;have nil:∀{f:Flow} {s1:WR} {E:WQ->WR->Prop},SP X WZ D f s1->(match (motive:=Flow->Prop) f with | .next=>wpAny (model X.prog X.w) X.A (execs [] X.env) (SP X WZ D) E s1 | f=>SP X WZ D f s1):=λ{f s1 E} z=>by
  cases f with
  | next=>exact wpAny_execs_nil z
  | brk=>exact z
  | cont=>exact z
  | ret u=>exact z
 refine wpAny_execs_cons (wpAny_If (Rs (Y3 (Io h1 (hc WZ s σ H _ (I.wish _) h)) λd s1 ⟨k1,H1,e,g⟩=>?_)));have i:=e.unwish
 cases d with
 | true=>exact wpAny_mono (ha WZ s1 σ H1 D k1 i g) (λf s2 z=>nil z) λ_ _ z=>z
 | false=>exact wpAny_mono (hb WZ s1 σ H1 D k1 i g) (λf s2 z=>nil z) λ_ _ z=>z
set_option tactic.hygienic true in
def r6 {k L:Nat}{f:WP}{sp:Sp}{fn:Str}{p f_ i_:Pos}{e:WW}{es:List WW}{ta:TA}{th:WQ->TS}{hs:List ExceptHandler}{outer:List Env}
  (m:∀vs H Q E,sp vs H Q E->∃fd ps a,sR X.prog X.w X.K X.mg X.base (Km X.prog X.w) k f fd ps a/\Xv X.K fd ps []/\a vs H Q E) (n:Y8 k X.A) (o:Gl X fn) (hm:X.mg fn=some (.ref f)) (hk:W.keepIn X.K (.ref f)=true) (ha:eW X.nox (e::es) ta)
  (d:X.stack=X.env::outer) (t:X.env.frame=some L) (x:∀cls,HB X hs cls (th cls))
  (g:swapsWith (.Call (.Name fn p) (e::es) [] f_) none i_.line X.env=pure false:=by rfl) (i:(fn==("__debug__":Str))=false:=by decide)
  (y:starEach (e::es) X.env=(false,eval e X.env)::starEach es X.env:=by rfl) (j:(backTo f_ (starEach es X.env)).any (·.1)=false:=by rfl):
  TB X [.Expr (.Call (.Name fn p) (e::es) [] f_) i_] hs (dk X.prog X.w sp ta th):=by
 intro WZ s σ H D h1 I h;refine wpAny_execs_cons (wpAny_Expr_any ?_ I.quiet g);refine wpAny_Call_Name_kw (T8 I o hm ?_ i);refine ET (h₀:=X.base) I.ok.mod.kin hk (Rs (Y3 (Io h1 (ha f_ WZ s σ H _ h1 (I.wish _) h)) λus s1 ⟨k1,vs,H1,l,r,q⟩=>?_)) y j;have b:=l.unwish;refine⟨b.kIn,?_⟩;obtain⟨E1,z,B⟩:=q;obtain⟨fd,ps,a,F,hb,c⟩:=m _ _ _ _ (z s1.heap b.hok);have C:us.length=ps.length:=by rw[<-r.length];exact F.len _ _ _ _ c
 refine wpAny_call (codeAny_mono (F.run X.A X.stack s1 (freeze H1 s1.heap) ⟨us,[]⟩ us vs _ E1 k1 n b.env0F (by simpa using hb s1 us b.kIn (by simpa using C)) r c) λG s' hq=>?_)
 cases G with
 | error ev=>
  obtain⟨ea,cls,H',rfl,N,U⟩:=E8.of b hq;refine U.look d t b.ok.frames λY F3=>?_;exact x cls ea WZ Y σ H1 D F3 (B cls ⟨_,N⟩)
 | ok fl=>
  cases fl with
  | ret u=>
   obtain⟨I2,v,H',_,q⟩:=b.backF hq;exact wpAny_execs_nil ⟨σ,H1,I2,q⟩
  | next=>exact False.elim hq
  | brk=>exact False.elim hq
  | cont=>exact False.elim hq
end
end L2
namespace WL
def sM (X:Cx)(body:List WV)(hs:List ExceptHandler)(w:WS):Prop:=∃t,TB X body hs t/\Gs X.K t w
def nW (i:Nat)(cn:Str)(w:WS):WS:=λD τ C=>∀ea,C ea=none->w {nx:=λa C'=>D.nx (a.set i none) C',rt:=D.rt,bk:=λ_ _=>False,ct:=λ_ _=>False,xc:=D.xc} (τ.set i (some (.ref ea))) (up C ea (.exc cn))
section
variable {X:Cx}{c:WW}{a b body:List WV}{wt:WT}{w wa wb:WS}{pos:Pos}{h₀:ExceptHandler}{hs:List ExceptHandler}
def tL (h:sM X body (h₀::hs) w):w6 X (.Try body (h₀::hs) [] [] pos) w:=by
 obtain⟨t,p,s⟩:=h;exact⟨t,vV p,s⟩
def kj (hc:wR X.nox c wt)(ha:sM X a hs wa)(hb:sM X b hs wb):sM X [.If c a b pos] hs (xr wt wa wb):=by
 obtain⟨t,p,s⟩:=hc;obtain⟨t1,e,s1⟩:=ha;obtain⟨t2,p2,s2⟩:=hb;refine⟨_,iJ p e p2,λF H C σ τ D D' R S h d=>?_⟩;refine s F H C σ τ _ _ D'.xc R S h λk H1 C1 R1 t1 h1=>?_
 cases k with
 | true=>exact s1 F H1 C1 σ τ D D' R1 (S.tx t1) h1 (d.at t1)
 | false=>exact s2 F H1 C1 σ τ D D' R1 (S.tx t1) h1 (d.at t1)
def zf {k L:Nat}{ps:List Str}{pr:List Df}{fn:Str}{p f_ i_:Pos}{e:WW}{es:List WW}{wA:WA}{outer:List Env}{as:List (Nat×WS)}{P:Calls}(n:Jo pr k=P)
  (o:Y8 k X.A) (r:Gl X fn) (hm:∃f,X.mg fn=some (.ref f)/\W.keepIn X.K (.ref f)=true) (ha:kP X.nox (e::es) wA) (u:∀q∈as,kY X pr k fn ps hs q)
  (c:X.stack=X.env::outer) (x:X.env.frame=some L)
  (g:swapsWith (.Call (.Name fn p) (e::es) [] f_) none i_.line X.env=pure false:=by rfl) (j:(fn==("__debug__":Str))=false:=by decide)
  (I:starEach (e::es) X.env=(false,eval e X.env)::starEach es X.env:=by rfl) (l:(backTo f_ (starEach es X.env)).any (·.1)=false:=by rfl):
  sM X [.Expr (.Call (.Name fn p) (e::es) [] f_) i_] hs (gl P wA as):=by
 subst n;obtain⟨f,hm,hk⟩:=hm;obtain⟨ta,N,s⟩:=ha;refine⟨_,r6 (f:=f) (sp:=λvs H Q E=>∃fd ps b,sR X.prog X.w X.K X.mg X.base (Km X.prog X.w) k f fd ps b/\Xv X.K fd ps []/\b vs H Q E) (th:=λcls D σ H=>∃t,HB X hs cls t/\t D σ H) (λ_ _ _ _ z=>z) o r hm hk N c x (λcls ea WZ s' σ H D F z=>?_) g j I l,λF H C σ τ D D' R S h d=>?_⟩
 ·obtain⟨t,hb,q⟩:=z;exact hb ea WZ s' σ H D F q
 ·refine s F H C σ τ _ _ D'.xc R S h λxs vs H1 C1 R1 t1 rs h1=>?_;obtain⟨i,C',f1,f2,q,hq,h2,U⟩:=h1;obtain⟨E1,Y,hE⟩:=u q hq;obtain⟨f',fd,G,B,kp,m⟩:=Y.ex;rw[hm] at m;cases m;refine⟨E1,λhp ok=>⟨fd,ps,_,G,B,FQ,λ_=>none,C',i,_,_,f7 R1 ok f2,Mc R1 ok f1 rs,h2,λy v H' A_ R' t' ry z=>d.nx σ τ H1 C1 R1 t1 (S.tx t1) z⟩,λcls a=>?_⟩;obtain⟨H',a⟩:=a;obtain⟨th,hb,sm⟩:=hE cls H' a;exact⟨th,hb,sm F H1 C1 σ τ D D' R1 (S.tx t1) U (d.at t1)⟩
end
def zR {K:WY}{H:Hp}{σ:L2.St}{τ:Sw}{i:Nat}(S:Xd K H σ τ):Xd K H (σ.set i none) (τ.set i none):=by
 refine⟨by rw[BP,BP];exact S.1,λj v e=>?_⟩;by_cases c:i=j
 ·subst c;by_cases d:i<τ.length
  ·rw[BN d] at e;cases e
  ·rw[DQ (by rw[BP];omega)] at e;cases e
 ·rw[BW c] at e |-;exact S.2 j v e
section
variable {X:Cx}{x nm cn:Str}{c:WQ}{Cl:WP}{np pos:Pos}{q_:List WV}{d_:WV}{Yc:List ExceptHandler}{wh:WS}{i:Nat}
def Cz (g:Gl X x)(hm:X.mg x=some c)(j:W.exmOne X.K (.ref Cl) c=some true)(a:W.nsIn X.K mainGlobals cn=some (some (.ref Cl)))(l:X.N.Nodup)(hs:∀e,E5 (X.mk1 e) (d_::q_) wh)
  (hi:X.N[i]?=some nm:=by rfl) (m:X.env.scope.names.lookup nm=some .local:=by rfl) (hk:X.env.kindOf nm=some .local:=by rfl) (b:(x==("__debug__":Str))=false:=by decide):cV X (.ExceptHandler (some (.Name x np)) (some nm) (d_::q_) pos::Yc) (.ref Cl) (nW i cn wh):=by
 refine⟨_,lN (t:=λD σ H=>∀e,∃t,Bz (X.mk1 e) (d_::q_) t/\t D σ H) g hm j l hi m hk (λea WZ s σ H D I h=>?_) b,λF H C σ τ D D' R S h d ea ob f hc e=>?_⟩
 ·obtain⟨t,p,q⟩:=h (.ref ea);exact p WZ s σ H D I q
 ·obtain⟨t,p,n⟩:=hs e;have tx:Tx H (Yq H ea (.frz ob (.own ea))):=Tx.new f;refine⟨t,p,n F _ _ _ _ _ _ (R.new f (show Lq X.K (Yq H ea (.frz ob (.own ea))) ea (.exc cn) from⟨Cl,ob,_,a,hc,Ya⟩)) ((S.tx tx).set Yu) (h ea (R.free f)) ⟨λy_ o H' C' R' t' r z=>(d.at tx).nx _ _ _ _ R' t' (zR r) z,(d.at tx).rt,λ_ _ _ _ _ _ _ z=>z.elim,λ_ _ _ _ _ _ _ z=>z.elim⟩⟩
end
end WL
namespace L2
def iw (X:Cx)(e:WW)(t:TT):Prop:=
 ∀(WZ:List (WP×Obj)) (s:WR) (σ:St) (H:Hp) (Q:Bool->Hp->Prop),1<=s.toks->Zq X WZ σ H s->t σ H Q->wpAny (model X.prog X.w) X.A (isTrue e X.env (eval e X.env)) (TP X WZ σ Q) X.xe s
def iu (X:Cx)(e:WW)(t:TT):Prop:=
 ∀(a:Sem WQ) (WZ:List (WP×Obj)) (s:WR) (σ:St) (H:Hp) (Q:Bool->Hp->Prop),1<=s.toks->Zq X WZ σ H s->t σ H Q->wpAny (model X.prog X.w) X.A (isTrue e X.env a) (TP X WZ σ Q) X.xe s
section
variable {X:Cx}{a b:WW}{Yc:List WW}{pos:Pos}{tA r_:TT}{ta tb:TE}
def iu.pt {e:WW}{t:TT}(h:iu X e t):iw X e t:=h _
def vP {op:CmpOp}{r:R2}(d:M4 X (compareOp op) r)(ha:w9 X a ta)(hb:w9 X b tb)(hm:behindInMarks op b=false):iw X (.Compare a [op] [b] pos) (vh (nK r ta tb)):=by
 intro WZ s σ H Q k I h;refine wpAny_isTrue_Compare1 (Y3 (Io k (ha WZ s σ H _ k I h)) λv s1 ⟨k1,x,H1,f,g,i⟩=>Y3 (hb WZ s1 σ H1 _ k1 f i) λu s2 ⟨y,H2,j,l,m⟩=>
  Y3 (d WZ s2 σ H2 x y v u _ j g l m) λc t ⟨z,n,o,p,k,e,q⟩=>?_) hm
 subst e
 cases p
 exact wpAny_truthy_bool ⟨n,o,q⟩
def rT (ha:iw X a tA):iu X (.BoolOp .Or [a] pos) tA:=by
 intro wh WZ s σ H Q k I h;refine isTrue_or (Y3 (ha WZ s σ H Q k I h) λc s1 e=>?_)
 cases c with
 | false=>exact isTrue_or_nil e
 | true=>exact e
def md (ha:iw X a tA)(hb:iu X (.BoolOp .Or (b::Yc) pos) r_):iu X (.BoolOp .Or (a::b::Yc) pos) (dn tA r_):=by
 intro wh WZ s σ H Q k I h;refine isTrue_or (Y3 (Io k (ha WZ s σ H _ k I h)) λc s1 ⟨k1,H1,d,e⟩=>?_)
 cases c with
 | true=>exact⟨H1,d,e⟩
 | false=>exact hb wh WZ s1 σ H1 Q k1 d e
def qb {a b:List WV}{c:WW}{tc:TT}{t u:TS}(hc:iw X c tc)(ha:Lp X a t)(hb:Lp X b u):kS X (.If c a b pos) (nL tc t u):=by
 intro WZ s σ H D k I h;refine wpAny_If (Y3 (Io k (hc WZ s σ H _ k I h)) λd s1 ⟨k1,H1,e,f⟩=>?_)
 cases d with
 | true=>exact ha WZ s1 σ H1 D k1 e f
 | false=>exact hb WZ s1 σ H1 D k1 e f
end
end L2
namespace WL
def sN (X:Cx)(e:WW)(w:WT):Prop:=∃t,iw X e t/\Nl X.K t w
def pY (X:Cx)(e:WW)(w:WT):Prop:=∃t,iu X e t/\Nl X.K t w
section
variable {X:Cx}{a b c:WW}{Yc:List WW}{pos:Pos}{wt u_:WT}{wa wb:WE}{w:W2}{sa sb:List WV}{ua ub:WS}
def fD (h:pY X c wt):sN X c wt:=by obtain⟨t,p,s⟩:=h;exact⟨t,p.pt,s⟩
def jE {op:CmpOp}(c:Gy X (compareOp op) w)(ha:Mx X a wa)(hb:Mx X b wb)(hm:behindInMarks op b=false):sN X (.Compare a [op] [b] pos) (zJ (X5 w wa wb)):=by
 obtain⟨r,h1,h2⟩:=c;obtain⟨ta,d,s1⟩:=ha;obtain⟨tb,p2,s2⟩:=hb;exact⟨_,vP h1 d p2 hm,gi (xp s1 s2 h2)⟩
def ph (ha:sN X a wt):pY X (.BoolOp .Or [a] pos) wt:=by
 obtain⟨t,p,s⟩:=ha;exact⟨_,rT p,s⟩
def ki (ha:sN X a wt)(hb:pY X (.BoolOp .Or (b::Yc) pos) u_):pY X (.BoolOp .Or (a::b::Yc) pos) (zI wt u_):=by
 obtain⟨t,p,s⟩:=ha;obtain⟨t',p',s'⟩:=hb;exact⟨_,md p p',oE s s'⟩
def pq (hc:sN X c wt)(ha:Gu X sa ua)(hb:Gu X sb ub):w6 X (.If c sa sb pos) (xr wt ua ub):=by
 obtain⟨t,p,s⟩:=hc;obtain⟨t1,a,s1⟩:=ha;obtain⟨t2,p2,s2⟩:=hb;refine⟨_,qb p a p2,λF H C σ τ D D' R S h d=>?_⟩;refine s F H C σ τ _ _ D'.xc R S h λk H1 C1 R1 t1 h1=>?_
 cases k with
 | true=>exact s1 F H1 C1 σ τ D D' R1 (S.tx t1) h1 (d.at t1)
 | false=>exact s2 F H1 C1 σ τ D D' R1 (S.tx t1) h1 (d.at t1)
end
end WL
namespace K25
def top (i:Nat):WV:=PySem.Challenge.pw_idlegraph_k25_no_kind_and_free_names.main.body.getD i (.Pass ⟨0,0,0,0⟩)
 abbrev FR:List Str:=["slots","term","slot","sort","own","body","given"]
 abbrev FS:List Str:=["_law_script","_law_first","_law_second","_law_third","_law_cells","_law_spare","_law_box","_law_good","_law_stray_here","_law_bad","_law_spot","_law_spoiled","_law_due"]
 abbrev FT:List Str:=["_law_way","_law_cell","_law_number","_law_kind","_law_one","_law_other","_law_some","_law_family","_law_wrong_here","_law_f","_law_g"]
 abbrev FU:List Str:=["_law_family","_law_asked","_law_one","_law_other"]
 abbrev FV:List Str:=["_law_left","_law_way","_law_cell","_law_fuel","_law_box","_law_name","_law_one","_law_chosen"]
 abbrev FW:List Str:=["_law_way","_law_one","_law_other","_law_number","_law_x","_law_f","_law_both","_law_knot"]
 abbrev FX:List Str:=["_law_left","_law_way","_law_cell","_law_fuel","_law_box"]
 abbrev FY:List Str:=["_law_way","_law_name","_law_number","_law_other","_law_stray_here","_law_pair"]
 abbrev FZ:List Str:=["slots","shape","slot"]
 abbrev GA:List Str:=["_law_way","_law_one","_law_other","_law_number"]
 abbrev GB:List Str:=["_law_left","_law_fuel","_law_box","_law_cell","_law_way","_law_found"]
 abbrev GC:List Str:=["slots","slot","ready","opened","begun","pile","here","form","within"]
 abbrev GD:List Str:=["term"]
 abbrev GF:List Str:=["_law_way","_law_cell"]
 abbrev GG:List Str:=["self","slot"]
 abbrev GH:List Str:=["slots","term","bound","slot","places","scope","asked","inner"]
 abbrev GI:List Str:=["_law_cell","_law_names","_law_letter","_law_k","_law_found"]
 abbrev GJ:List Str:=["_law_found","_law_box"]
 abbrev GK:List Str:=["_law_way","_law_name","_law_number"]
 abbrev GL:List Str:=["_law_term_here","_law_first","_law_refused","_law_e"]
 abbrev GM:List Str:=["_law_left","_law_fuel","_law_box"]
 abbrev GN:List Str:=["self","one","other","pile","pair","left","right"]
 abbrev GO:List Str:=["slots","slot","ready","opened"]
 abbrev GP:List Str:=["term","bound","found"]
 abbrev GQ:List Str:=["shape","names","body"]
 abbrev GR:List Str:=["slots","shape","slot","one","other","whole"]
 abbrev GS:List Str:=["slots","term","bound","slot"]
 abbrev GU:List Str:=["_law_term_here","_law_first"]
 abbrev GV:List Str:=["body","steps","bound","behind","step"]
 abbrev GW:List Str:=["slots","op","slot","outcome","number"]
 abbrev GX:List Str:=["slots","rows","ready","opened","slot"]
 abbrev GY:List Str:=["term","bound","found","names","part"]
 abbrev GZ:List Str:=["self","left","right","known","other"]
 abbrev HA:List Str:=["_law_cell","_law_names"]
 abbrev HC:List Str:=["slots","term","rows","pile","place"]
 abbrev HD:List Str:=["slots","shape","slot","one","other"]
 abbrev HE:List Str:=["_law_way","_law_cell","_law_number"]
 abbrev HF:List Str:=["self","left","right"]
 abbrev HG:List Str:=["slots","term","slot"]
 abbrev HH:List Str:=["name","part","names"]
 abbrev HI:List Str:=["self"]
 abbrev HJ:List Str:=["self","one","other"]
 abbrev HK:List Str:=["slots","op","slot"]
 abbrev HL:List Str:=["pairs","body"]
 abbrev HM:List Str:=["body","steps"]
 abbrev HN:List Str:=["f","g"]
 abbrev HQ:List Str:=["_law_left"]
 abbrev HR:List Str:=["_law_script"]
structure Txt (w:World)(K:W.Frag)(mg:Str->Option Value):Prop where
 za5:mg "any"=none
 zay:mg "dict"=none
 za4:mg "int"=none
 zaa:mg "isinstance"=none
 zak:mg "len"=none
 zaf:mg "list"=none
 za3:mg "max"=none
 zaq:mg "range"=none
 zah:mg "reversed"=none
 za1:mg "sorted"=none
 zam:mg "str"=none
 zal:mg "tuple"=none
 zao:mg "zip"=none
 zac:KF K "forms" "Slots"
 zab:KF K "leads" "Slots"
structure ow (Pg:Program)(w:World)(K:W.Frag)(mg:Str->Option Value)(base:Heap)(n:Nat)(P:Calls)(E1:XK)(a_:Addr)(b_:Addr):Prop where
 x_NoKind:ii K mg "NoKind" a_
 e_NoKind:∀C' Q χ H,P 36 [] C' Q χ->E1 (.ref a_) none H
 x_Unbound:ii K mg "Unbound" b_
 e_Unbound:∀C' Q χ H,P 37 [] C' Q χ->E1 (.ref b_) none H
 zan:Ca Pg w K mg base n "scopes" GD (G4 K P 0)
 zax:Ca Pg w K mg base n "let_scopes" HL (G4 K P 1)
 zau:Ca Pg w K mg base n "rows_scopes" HM (G4 K P 2)
 za2:Ca Pg w K mg base n "free" GD (G4 K P 3)
 zaj:Ca Pg w K mg base n "gather_free" GP (G4 K P 4)
 k_Slots___init__:wG CX0 Pg w K mg base n "Slots" "__init__" HI (G4 K P 5)
 k_Slots_unknown:wG CX0 Pg w K mg base n "Slots" "unknown" HI (G4 K P 6)
 k_Slots_known:wG CX0 Pg w K mg base n "Slots" "known" ["self","form"] (G4 K P 7)
 k_Slots_shared:wG CX0 Pg w K mg base n "Slots" "shared" GG (G4 K P 8)
 k_Slots_form_of:wG CX0 Pg w K mg base n "Slots" "form_of" GG (G4 K P 9)
 k_Slots_make_alike:wG (Km Pg w) Pg w K mg base n "Slots" "make_alike" HJ (Ac K P E1 10)
 k_Slots_join_two:wG (Km Pg w) Pg w K mg base n "Slots" "join_two" HF (Ac K P E1 11)
 k_paper:M5 Pg w K mg base n "paper" GD (Ac K P E1 12)
 k_kind_of:M5 Pg w K mg base n "kind_of" GD (Ac K P E1 13)
 k_rows_of:M5 Pg w K mg base n "rows_of" ["slots","term"] (Ac K P E1 14)
 k_places_within:M5 Pg w K mg base n "places_within" GS (Ac K P E1 15)
 k_part_slots:M5 Pg w K mg base n "part_slots" HG (Ac K P E1 16)
 k_does_slots:M5 Pg w K mg base n "does_slots" HK (Ac K P E1 17)
 k_shape_slots:M5 Pg w K mg base n "shape_slots" FZ (Ac K P E1 18)
 zap:Ca Pg w K mg base n "choose_slots" FZ (G4 K P 19)
 k_told_kinds:M5 Pg w K mg base n "told_kinds" ["slots","rows"] (Ac K P E1 20)
 k_make_ready:M5 Pg w K mg base n "make_ready" GO (Ac K P E1 21)
 n_Slots:de Pg w K mg base n P "Slots" 5 35
structure Cs (Pg:Program)(w:World)(K:W.Frag)(mg:Str->Option Value)(base:Heap)(n:Nat)(pr:List Df)(a_:Addr)(b_:Addr):Prop where
 n_NoKind:W.nsIn K mainGlobals "NoKind"=some (some (.ref a_))
 n_Unbound:W.nsIn K mainGlobals "Unbound"=some (some (.ref b_))
 h_NoKind_IdleError:∃c,mg "IdleError"=some c/\W.exmOne K (.ref a_) c=some true
 h_Unbound_IdleError:∃c,mg "IdleError"=some c/\W.exmOne K (.ref b_) c=some true
 i_NoKind:sU K mg "NoKind" [("NoKind",true),("Unbound",false)]
 i_NoName:sU K mg "NoName" [("NoKind",false),("Unbound",false)]
 i_NoRow:sU K mg "NoRow" [("NoKind",false),("Unbound",false)]
 i_NoText:sU K mg "NoText" [("NoKind",false),("Unbound",false)]
 i_NoThing:sU K mg "NoThing" [("NoKind",false),("Unbound",false)]
 i_Ring:sU K mg "Ring" [("NoKind",false),("Unbound",false)]
 i_Spent:sU K mg "Spent" [("NoKind",false),("Unbound",false)]
 i_Stopped:sU K mg "Stopped" [("NoKind",false),("Unbound",false)]
 i_Unbound:sU K mg "Unbound" [("NoKind",false),("Unbound",true)]
 i_ValueError:sU K mg "ValueError" [("NoKind",true),("Unbound",true)]
 za8:Ca Pg w K mg base n "scopes" GD (spW K pr n 0)
 zbc:Ca Pg w K mg base n "let_scopes" HL (spW K pr n 1)
 za6:Ca Pg w K mg base n "rows_scopes" HM (spW K pr n 2)
 za7:Ca Pg w K mg base n "free" GD (spW K pr n 3)
 za9:Ca Pg w K mg base n "gather_free" GP (spW K pr n 4)
 t0_paper:M5 Pg w K mg base n "paper" GD (rE K pr (λ_ _ _=>False) n 12)
 t1_paper:M5 Pg w K mg base n "paper" GD (rE K pr (Er [(a_,True)]) n 50)
 t2_paper:M5 Pg w K mg base n "paper" GD (rE K pr (Er [(b_,True)]) n 88)
 t0_kind_of:M5 Pg w K mg base n "kind_of" GD (rE K pr (λ_ _ _=>False) n 13)
 t1_kind_of:M5 Pg w K mg base n "kind_of" GD (rE K pr (Er [(a_,True)]) n 51)
 t2_kind_of:M5 Pg w K mg base n "kind_of" GD (rE K pr (Er [(b_,True)]) n 89)
 zba:Ca Pg w K mg base n "choose_slots" FZ (spW K pr n 19)
 zag:Ca Pg w K mg base n "_law_next" HQ (spW K pr n 22)
 zat:Ca Pg w K mg base n "_law_beside" GJ (spW K pr n 23)
 zaw:Ca Pg w K mg base n "_law_inside" FX (spW K pr n 24)
 zae:Ca Pg w K mg base n "_law_term" GM (spW K pr n 25)
 zad:Ca Pg w K mg base n "_law_value" GF (spW K pr n 26)
 zai:Ca Pg w K mg base n "_law_choose" FU (spW K pr n 27)
 zav:Ca Pg w K mg base n "_law_unlike" GA (spW K pr n 28)
 za0:Ca Pg w K mg base n "_law_wrong" GF (spW K pr n 29)
 zas:Ca Pg w K mg base n "_law_unbound" GK (spW K pr n 30)
 zaz:Ca Pg w K mg base n "_law_stray" HA (spW K pr n 31)
 zar:Ca Pg w K mg base n "_law_classes" ["_law_e"] (spW K pr n 32)
 c__law_refusal:ez Pg w K mg base n "_law_refusal" GU (spW K pr n 33)
 zbb:Ca Pg w K mg base n "law" HR (spW K pr n 34)
def Fi (j:Nat)(st:WV)(N:List Str)(q:Str)(a:Calls->WS):Prop:=∀{Pg:WO} {w:WN} {K:WY} {mg:Str->Option WQ} {base:WU} {n:Nat} {P:Calls} {f:WP} {e_:WQ} {A:WM} {outer:List Env} {s:WR} {H:Hp} {a_ b_:WP} {E1:XK},Txt w K mg->ow Pg w K mg base n P E1 a_ b_->
 Y8 n (A.deeper (envOfC q (Zj st) s.heap.objs.size f e_))->E5 (Uc (Km Pg w) Pg w K mg base N q (Zj st) f e_ A outer s H E1) ((Y6 st).drop j) (a P)
def Za8 (j:Nat)(st:WV)(N:List Str)(q:Str)(a:Calls->WS):Prop:=∀{Pg:WO} {w:WN} {K:WY} {mg:Str->Option WQ} {base:WU} {n:Nat} {P:Calls} {f:WP} {e_:WQ} {A:WM} {outer:List Env} {s:WR} {H:Hp} {a_ b_:WP} {E1:XK},Txt w K mg->ow Pg w K mg base n P E1 a_ b_->
 Y8 n (A.deeper (envOfC q (Zj st) s.heap.objs.size f e_))->Gu (Uc (Km Pg w) Pg w K mg base N q (Zj st) f e_ A outer s H E1) ((Y6 st).drop j) (a P)
def wS (j:Nat)(st:WV)(N:List Str)(q:Str)(a:Calls->WS):Prop:=∀{Pg:WO} {w:WN} {K:WY} {mg:Str->Option WQ} {base:WU} {n:Nat} {P:Calls} {f:WP} {e_:WQ} {A:WM} {outer:List Env} {s:WR} {H:Hp} {a_ b_:WP} {E1 E:XK},Txt w K mg->ow Pg w K mg base n P E1 a_ b_->
 Y8 n (A.deeper (envOfC q (Zj st) s.heap.objs.size f e_))->E5 (Uc CX0 Pg w K mg base N q (Zj st) f e_ A outer s H E).nox ((Y6 st).drop j) (a P)
def Za7 (j:Nat)(st:WV)(N:List Str)(q:Str)(a:Calls->WS):Prop:=∀{Pg:WO} {w:WN} {K:WY} {mg:Str->Option WQ} {base:WU} {n:Nat} {P:Calls} {f:WP} {e_:WQ} {A:WM} {outer:List Env} {s:WR} {H:Hp} {a_ b_:WP} {E1 E:XK},Txt w K mg->ow Pg w K mg base n P E1 a_ b_->
 Y8 n (A.deeper (envOfC q (Zj st) s.heap.objs.size f e_))->Gu (Uc CX0 Pg w K mg base N q (Zj st) f e_ A outer s H E).nox ((Y6 st).drop j) (a P)
def SX (j:Nat)(st:WV)(N:List Str)(q:Str)(a:Calls->WS):Prop:=∀{Pg:WO} {w:WN} {K:WY} {mg:Str->Option WQ} {base:WU} {n:Nat} {P:Calls} {f:WP} {e_:WQ} {A:WM} {outer:List Env} {s:WR} {H:Hp} {a_ b_:WP} {pr:List Df} {E:XK},Jo pr n=P->Txt w K mg->Cs Pg w K mg base n pr a_ b_->
 Y8 n (A.deeper (envOfC q (Zj st) s.heap.objs.size f e_))->E5 (Uc CX0 Pg w K mg base N q (Zj st) f e_ A outer s H E).nox ((Y6 st).drop j) (a P)
def bU (j:Nat)(st:WV)(N:List Str)(q:Str)(a:Calls->WS):Prop:=∀{Pg:WO} {w:WN} {K:WY} {mg:Str->Option WQ} {base:WU} {n:Nat} {P:Calls} {f:WP} {e_:WQ} {A:WM} {outer:List Env} {s:WR} {H:Hp} {a_ b_:WP} {pr:List Df} {E:XK},Jo pr n=P->Txt w K mg->Cs Pg w K mg base n pr a_ b_->
 Y8 n (A.deeper (envOfC q (Zj st) s.heap.objs.size f e_))->Gu (Uc CX0 Pg w K mg base N q (Zj st) f e_ A outer s H E).nox ((Y6 st).drop j) (a P)
local macro_rules | `(tactic| walk_at "sc") => `(tactic| exact ⟨rfl, rfl, rfl, by decide +kernel, rfl, by decide +kernel, by decide +kernel⟩)
abbrev M8:WV:=top 12
def Pu:Zt ["term","sort"] GD (Zj M8):=by walk_at "sc"
def Pn:{W//wS 0 M8 ["term","sort"] "scopes" W}:=⟨_,λT S b=>by
  have nd:=Pu.nd;have a:=Jc b;exact(Zd (Zl (i:=1) nd (Ym (Zb 0) Zh))
   (Zd (Zz (Zo (Yo a) (Zb 1) Ze) (Zi (Zm (Z6 (Za (Zg (Za (Zg Zc) (Za (Ym (Zb 0) Zh) Zc))) (Za (Zg (Za (Zg Zc) (Za (Ym (Zb 0) Zh) Zc))) Zc))))) Zp)
   (Zd (Zz (tG (tF (Zo (Yo a) (Zb 1) Ze) (yv (Zo (Yo a) (Zb 1) Ze)))) (Zi (Zm (Z6 (Za (Zg (Za (Zg Zc) (Za (Ym (Zb 0) Zh) Zc))) (Za (Zg (Za (Zg Zc) (Za (Ym (Zb 0) Zh) Zc))) Zc))))) Zp)
   (Zd (Zz (Zo (Yo a) (Zb 1) Ze) (Zi (Zm (Z6 (Za (Zg (Za (Zg (Za (Ym (Zb 0) Zh) Zc)) (Za (Ym (Zb 0) Zh) Zc))) Zc)))) Zp)
   (Zd (Zz (Zo (Yo a) (Zb 1) Ze) (Zi (Zm (Sa S.zax b (by rfl) (Za (Ym (Zb 0) Zh) (Za (Ym (Zb 0) Zh) Zc))))) Zp)
   (Zd (Zz (Zo (Yo a) (Zb 1) Ze) (Zi (Zm (Rc (cN:=["part"]) (cap:=[none]) (cl:=[]) (js:=[0]) (g:=(Wd 0)) ⟨FQ,(λ_=>Bb FQ (by decide+kernel) (by decide+kernel) FQ (by decide)),(Uk (Ym (Zb 0) Zh)),(λ_ _ _=>Jz (i:=0) (show(["part"]:List Str).Nodup by decide+kernel) FQ (Or.inl FQ)),Ye,Xc,Jl,by decide+kernel,λ_ _ _=>V7,λ_ _ _=>(Zg (Za (Zg Zc) (Za (Zb 0) Zc))),λ_=>rfl⟩))) Zp)
   (Zd (Zz (Zo (Yo a) (Zb 1) Ze) (Zi (Zm (Z4 Xt (Z6 (Za (Zg (Za (Zg Zc) (Za (Ym (Zb 0) Zh) Zc))) Zc)) (Rc (cN:=GQ) (cap:=[none,none,none]) (cl:=[]) (js:=([0]++([1]++([2]++[])))) (g:=(yq _ 3 (Pf (Wd 0) (Pf (Wd 1) (Pf (Wd 2) yr))))) ⟨FQ,(λ_=>Bb FQ (by decide+kernel) (by decide+kernel) FQ (by decide)),(Uk (Ym (Zb 0) Zh)),(λ_ _ _=>Dt (n:=3) FQ (Ua (Jz (i:=0) (show(GQ:List Str).Nodup by decide+kernel) FQ (Or.inl FQ)) (Ua (Jz (i:=1) (show(GQ:List Str).Nodup by decide+kernel) FQ (Or.inl FQ)) (Ua (Jz (i:=2) (show(GQ:List Str).Nodup by decide+kernel) FQ (Or.inl FQ)) Ku)))),(ym (Wm Ye (Wm Ye (Wm Ye Ra)))),(yn (Qc Xc Ye (Qc Xc Ye (Qc Xc Ye yo Ra) (Wm Ye Ra)) (Wm Ye (Wm Ye Ra)))),(Di (T1 Jl (T1 Jl (T1 Jl Dj))) (X0 (X0 (X0 Hx)))),by decide+kernel,λ_ _ _=>V7,λ_ _ _=>(Zg (Za (Zb 1) (Za (Zb 2) Zc))),λ_=>rfl⟩)))) Zp)
   (Zd (Zz (Zo (Yo a) (Zb 1) Ze) (Zi (Zm (Sa S.zau b (by rfl) (Za (Ym (Zb 0) Zh) (Za (Ym (Zb 0) Zh) Zc))))) Zp)
   (Zi (Zm (Z6 Zc)))))))))))⟩
abbrev Sn:WV:=top 13
def V5:Zt ["pairs","body","names"] HL (Zj Sn):=by walk_at "sc"
def Vm:{W//wS 0 Sn ["pairs","body","names"] "let_scopes" W}:=⟨_,λT S a=>by
  have nd:=V5.nd;exact(Zd (Zl (i:=2) nd (Mi Bp (by rfl) T.zal Go (Za (Rc (cN:=["name","part"]) (cap:=[none,none]) (cl:=[]) (js:=([0]++([1]++[]))) (g:=(yq _ 2 (Pf (Wd 0) (Pf (Wd 1) yr)))) ⟨FQ,(λ_=>Bb FQ (by decide+kernel) (by decide+kernel) FQ (by decide)),(Uk (Zb 0)),(λ_ _ _=>Dt (n:=2) FQ (Ua (Jz (i:=0) (show(["name","part"]:List Str).Nodup by decide+kernel) FQ (Or.inl FQ)) (Ua (Jz (i:=1) (show(["name","part"]:List Str).Nodup by decide+kernel) FQ (Or.inl FQ)) Ku))),(ym (Wm Ye (Wm Ye Ra))),(yn (Qc Xc Ye (Qc Xc Ye yo Ra) (Wm Ye Ra))),(Di (T1 Jl (T1 Jl Dj)) (X0 (X0 Hx))),by decide+kernel,λ_ _ _=>V7,λ_ _ _=>(Zb 0),λ_=>rfl⟩) Zc)))
   (Zi (Zm (Z4 Xt (Rc (cN:=HH) (cap:=[none,none,some 2]) (cl:=(X8 _ _ [])) (js:=([0]++([1]++[]))) (g:=(yq _ 2 (Pf (Wd 0) (Pf (Wd 1) yr)))) ⟨FQ,(λok=>Sb ok FQ (by decide+kernel) (by decide+kernel) FQ FQ FQ),(Uk (Zb 0)),(λ_ _ _=>Dt (n:=2) FQ (Ua (Jz (i:=0) (show(HH:List Str).Nodup by decide+kernel) FQ (Or.inl FQ)) (Ua (Jz (i:=1) (show(HH:List Str).Nodup by decide+kernel) FQ (Or.inl FQ)) Ku))),(ym (Wm Ye (Wm Ye Ra))),(yn (Qc Xc Ye (Qc Xc Ye yo Ra) (Wm Ye Ra))),(Di (T1 Jl (T1 Jl Dj)) (X0 (X0 Hx))),by decide+kernel,λ_ _ _=>V7,λ_ _ _=>(Zg (Za (Zb 2) (Za (Zb 1) Zc))),λ_=>rfl⟩) (Z6 (Za (Zg (Za (Zb 2) (Za (Zb 1) Zc))) Zc))))))⟩
abbrev U7:WV:=top 14
def Te:Zt GV HM (Zj U7):=by walk_at "sc"
def V9:{W//wS 0 U7 GV "rows_scopes" W}:=⟨_,λT S a=>by
  exact tP⟩
abbrev Dg:WV:=top 15
def Kr:Zt ["term","found"] GD (Zj Dg):=by walk_at "sc"
def Gw:{W//wS 0 Dg ["term","found"] "free" W}:=⟨_,λT S a=>by
  have nd:=Kr.nd;exact(Zd (Zl (i:=1) nd K6)
   (Zd (Yw (Sa S.zaj a (by rfl) (Za (Zb 0) (Za (Zg Zc) (Za (Zb 1) Zc)))))
   (Zi (Zm (zi (pK FQ) (by rfl) T.za1 wn (Za (Zb 1) Zc))))))⟩
abbrev U8:WV:=top 16
def Vc:Zt GY GP (Zj U8):=by walk_at "sc"
def Wh:{W//wS 0 U8 GY "gather_free" W}:=⟨_,λT S a=>by
  have nd:=Vc.nd;have b:=Jc a;exact(Zd (Zz (tG (yw (Zo (Yo b) (Ym (Zb 0) Zh) Ze) (jD (Zo (jj b) (Ym (Zb 0) Zh) (Zb 1) (by rfl))))) (Zi (Pi yA (Mh b (Zb 2) (Ym (Zb 0) Zh)))) Zp)
   (Zi (Cv PassesOwn.never FQ (Uk (Sa S.zan a (by rfl) (Za (Zb 0) Zc))) (tM (n:=2) FQ (K0 (Og (i:=3) nd) (K0 (Og (i:=4) nd) tN)) (X0 (X0 Hx)))
   (Zi (Yw (Sa S.zaj a (by rfl) (Za (Zb 4) (Za (Z4 Xt (Zb 1) (Zb 3)) (Za (Zb 2) Zc)))))))))⟩
abbrev Va:WV:=Qb (top 18) 0
def Ve:Zt HI HI (Zj Va):=by walk_at "sc"
def J7:{W//wS 0 Va HI "Slots.__init__" W}:=⟨_,λT S a=>by
  exact(Zd (tI (Xb T.zac Wo) (Zb 0) (Z6 Zc))
   (Zi (tI (Xb T.zab Wo) (Zb 0) (Z6 Zc))))⟩
abbrev Vt:WV:=Qb (top 18) 1
def Vv:Zt HI HI (Zj Vt):=by walk_at "sc"
def Xj:{W//wS 0 Vt HI "Slots.unknown" W}:=⟨_,λT S a=>by
  exact(Zi (Zm (Yf (pl:=_) Ja Yr (Zx S.k_Slots_known Z2) a (Zb 0) (Za Eo Zc))))⟩
abbrev Td:WV:=Qb (top 18) 2
def Vd:Zt ["self","form","slot"] ["self","form"] (Zj Td):=by walk_at "sc"
def Wi:{W//wS 0 Td ["self","form","slot"] "Slots.known" W}:=⟨_,λT S a=>by
  have nd:=Vd.nd;exact(Zd (Zl (i:=2) nd (zi zq (by rfl) T.zak EI (Za (Rn (Xb T.zac Wo) (Zb 0)) Zc)))
   (Zd (Yw (Gg XZ YB YA Xq Ti (Rn (Xb T.zac Wo) (Zb 0)) (Za (Zb 1) Zc)))
   (Zd (Yw (Gg XZ YB YA Xq Ti (Rn (Xb T.zab Wo) (Zb 0)) (Za (Zb 2) Zc)))
   (Zi (Zm (Zb 2))))))⟩
abbrev Uh:WV:=Qb (top 18) 3
def Wk:Zt GG GG (Zj Uh):=by walk_at "sc"
def X1:{W//wS 0 Uh GG "Slots.shared" W}:=⟨_,λT S a=>by
  have nd:=Wk.nd;have b:=Jc a;exact(Zd (Mf PassesOwn.never (Zo (G6 b) (Ym (Rn (Xb T.zab Wo) (Zb 0)) (Zb 1)) (Zb 1))
   (Zd (Pi (Ym (Rn (Xb T.zab Wo) (Zb 0)) (Ym (Rn (Xb T.zab Wo) (Zb 0)) (Zb 1))) (yz (Rn (Xb T.zab Wo) (Zb 0)) (Zb 1)))
   (Zi (Zl (i:=1) nd (Ym (Rn (Xb T.zab Wo) (Zb 0)) (Zb 1))))))
   (Zi (Zm (Zb 1))))⟩
abbrev Vu:WV:=Qb (top 18) 4
def Vw:Zt GG GG (Zj Vu):=by walk_at "sc"
def Xk:{W//wS 0 Vu GG "Slots.form_of" W}:=⟨_,λT S a=>by
  exact(Zi (Zm (Ym (Rn (Xb T.zac Wo) (Zb 0)) (Yf (pl:=_) Ja Yr (Zx S.k_Slots_shared Z2) a (Zb 0) (Za (Zb 1) Zc)))))⟩
abbrev X7:WV:=Qb (top 18) 5
def Jy:Zt GN HJ (Zj X7):=by walk_at "sc"
def Jk:{W//Fi 0 X7 GN "Slots.make_alike" W}:=⟨_,λT S a=>by
  have nd:=Jy.nd;have b:=Jc a;exact(Zd (Zl (i:=3) nd (Z6 (Za (Zg (Za (Zb 1) (Za (Zb 2) Zc))) Zc)))
   (Zi (Mf PassesOwn.leaving (Zo (G6 b) (Zb 3) (Z6 Zc))
   (Zd (Zl (i:=4) nd (jI XZ DR DS Xq jv (Zb 3)))
   (Zd (Zl (i:=5) nd (Yf (pl:=_) Ja Yr (Zx S.k_Slots_shared Z2) a (Zb 0) (Za (Ym (Zb 4) Zh) Zc)))
   (Zd (Zl (i:=6) nd (Yf (pl:=_) Ja Yr (Zx S.k_Slots_shared Z2) a (Zb 0) (Za (Ym (Zb 4) Zh) Zc)))
   (Zi (Zz (Zo (G6 b) (Zb 5) (Zb 6)) (Zi (Yw (Gg XZ ED EF Xq Hd (Zb 3) (Za (Yf (pl:=_) (by first | exact Uq | exact passC FQ FQ) Q7 (Zx S.k_Slots_join_two Z2) a (Zb 0) (Za (Zb 5) (Za (Zb 6) Zc))) Zc)))) Zp))))))))⟩
abbrev W6:WV:=Qb (top 18) 6
def Xr:Zt GZ HF (Zj W6):=by walk_at "sc"
def J6:{W//Fi 0 W6 GZ "Slots.join_two" W}:=⟨_,λT S a=>by
  have nd:=Xr.nd;have b:=Jc a;exact(Zd (Zl (i:=3) nd (Ym (Rn (Xb T.zac Wo) (Zb 0)) (Zb 1)))
   (Zd (Zl (i:=4) nd (Ym (Rn (Xb T.zac Wo) (Zb 0)) (Zb 2)))
   (Zd (Zz (Zo jk (Zb 3) Eo) (Zd (Pi (Zb 2) (yz (Rn (Xb T.zab Wo) (Zb 0)) (Zb 1)))
   (Zi (Zm (Z6 Zc)))) Zp)
   (Zd (Pi (Zb 1) (yz (Rn (Xb T.zab Wo) (Zb 0)) (Zb 2)))
   (Zd (Zz (Zo jk (Zb 4) Eo) (Zi (Zm (Z6 Zc))) Zp)
   (Zd (Zz (Zo (G6 b) (Ym (Zb 3) Zh) (Ym (Zb 4) Zh)) (Zi (Oe (i:=36) Cu FQ S.x_NoKind S.e_NoKind (by rfl) (Za (Z4 Xt (Z4 Xt (Z4 Xt Ze (Ym (Zb 3) Zh)) Ze) (Ym (Zb 4) Zh)) Zc))) Zp)
   (Zi (Zm (cE FQ (by rfl) T.zaf (by rfl) T.zao (Za (y6 (Zb 3) (Vg Zh) Mg) (Za (y6 (Zb 4) (Vg Zh) Mg) Zc)))))))))))⟩
abbrev Ip:WV:=top 19
def N0:Zt ["term","names","slots"] GD (Zj Ip):=by walk_at "sc"
def Oi:{W//Fi 0 Ip ["term","names","slots"] "paper" W}:=⟨_,λT S a=>by
  have nd:=N0.nd;have b:=Jc a;exact(Zd (Zl (i:=1) nd (Sa S.za2 a (by rfl) (Za (Zb 0) Zc)))
   (Zd (Zz (Zo (G6 b) (Zb 1) (Z6 Zc)) (Zi (Oe (i:=37) Cu FQ S.x_Unbound S.e_Unbound (by rfl) (Za (Z4 Xt Ze (Gg PySem.F.plainAttrs_str PySem.F.slot_str_join PySem.F.type_str_join nD mY Ze (Za (Zb 1) Zc))) Zc))) Zp)
   (Zd (Zl (i:=2) nd (pB S.n_Slots a (by rfl)))
   (Zi (Zm (T9 (by first | exact Uq | exact passC FQ FQ) S.k_told_kinds a (by rfl) (Za (Zb 2) (Za (T9 (by first | exact Uq | exact passC FQ FQ) S.k_rows_of a (by rfl) (Za (Zb 2) (Za (Zb 0) Zc))) Zc))))))))⟩
abbrev O7:WV:=top 20
def O8:Zt GD GD (Zj O7):=by walk_at "sc"
def U2:{W//Fi 0 O7 GD "kind_of" W}:=⟨_,λT S a=>by
  exact(Zi (Zm (Ym (T9 (by first | exact Uq | exact passC FQ FQ) S.k_paper a (by rfl) (Za (Zb 0) Zc)) Zh)))⟩
abbrev O5:WV:=top 21
def R9:Zt HC ["slots","term"] (Zj O5):=by walk_at "sc"
def Rq:{W//Fi 0 O5 HC "rows_of" W}:=⟨_,λT S a=>by
  have nd:=R9.nd;have b:=Jc a;exact(Zd (Zl (i:=2) nd (Z6 Zc))
   (Zd (Zl (i:=3) nd (Z6 (Za (Zg (Za (Zb 1) (Za K6 (Za (Wg (pl:=_) Ja Yr (Zx S.k_Slots_unknown Z2) a (Zb 0)) Zc)))) Zc)))
   (Zd (Mf PassesOwn.leaving (Zo (G6 b) (Zb 3) (Z6 Zc))
   (Zd (Zl (i:=4) nd (jI XZ DR DS Xq jv (Zb 3)))
   (Zd (Yw (Gg XZ YB YA Xq Ti (Zb 2) (Za (Ym (Zb 4) Zh) Zc)))
   (Zi (Yw (Gg XZ ED EF Xq Hd (Zb 3) (Za (y9 rfl (by rfl) T.zaf (by rfl) T.zah (T9 (by first | exact Uq | exact passC rfl rfl) S.k_places_within a (by rfl) (Za (Zb 0) (Za (Ym (Zb 4) Zh) (Za (Ym (Zb 4) Zh) (Za (Ym (Zb 4) Zh) Zc)))))) Zc)))))))
   (Zi (Zm (Zb 2))))))⟩
abbrev Vs:WV:=top 22
def X3:Zt GH GS (Zj Vs):=by walk_at "sc"
def Jr:{W//Fi 0 Vs GH "places_within" W}:=⟨_,λT S a=>by
  have nd:=X3.nd;have b:=Jc a;exact(Zd (Zz (Zo (Yo b) (Ym (Zb 1) Zh) Ze) (Zd (Yw (Yf (pl:=_) (by first | exact Uq | exact passC FQ FQ) Q7 (Zx S.k_Slots_make_alike Z2) a (Zb 0) (Za (Zb 3) (Za (Wq b (Zb 2) (Ym (Zb 1) Zh) (λ_ _=>rfl)) Zc))))
   (Zi (Zm (Z6 Zc)))) Zp)
   (Zd (Zl (i:=4) nd (Z6 Zc))
   (Zd (Cv PassesOwn.leaving FQ (kn (by rfl) T.zao (Za (Sa S.zan a (by rfl) (Za (Zb 1) Zc)) (Za (T9 (by first | exact Uq | exact passC FQ FQ) S.k_part_slots a (by rfl) (Za (Zb 0) (Za (Zb 1) (Za (Zb 3) Zc)))) Zc))) (tM (n:=2) FQ (K0 (Og (i:=5) nd) (K0 (Og (i:=6) nd) tN)) (X0 (X0 Hx)))
   (Zd (Zl (i:=7) nd (Mi pL (by rfl) T.zay pF (Za (Zb 2) Zc)))
   (Zd (Yw (ko (Zb 7) (cH FQ (by rfl) T.zay (by rfl) T.zao (Za (Ym (Zb 5) Zh) (Za (Ym (Zb 6) Zh) Zc))) ⟨FQ,FQ,FQ,FQ⟩))
   (Zi (Yw (Gg XZ YB YA Xq Ti (Zb 4) (Za (Zg (Za (Ym (Zb 5) Zh) (Za (Zb 7) (Za (Ym (Zb 6) Zh) Zc)))) Zc)))))))
   (Zi (Zm (Zb 4))))))⟩
abbrev Yd:WV:=top 23
def Jv:Zt FR HG (Zj Yd):=by walk_at "sc"
def Qz:{W//Fi 10 Yd FR "part_slots" W}:=⟨_,λT S a=>by
  exact(Zi (Oe (i:=36) Cu FQ S.x_NoKind S.e_NoKind (by rfl) (Za (tS (jH (cG (Zb 3)) (jH Ze km))) Zc)))⟩
def Qy:{W//Fi 9 Yd FR "part_slots" W}:=⟨_,λT S a=>by
  have b:=Jc a;exact(Zd (Zz (Zo (Yo b) (Zb 3) Ze) (Zi (Zm (Z6 Zc))) Zp)
   (Qz.2 T S a))⟩
def Qx:{W//Fi 8 Yd FR "part_slots" W}:=⟨_,λT S a=>by
  have b:=Jc a;exact(Zd (Zz (Zo (Yo b) (Zb 3) Ze) (Zi (Zm (Z6 (Za (Zg (Za (Zg Zc) (Za (Wg (pl:=_) Ja Yr (Zx S.k_Slots_unknown Z2) a (Zb 0)) Zc))) (Za (Zg (Za (Zg Zc) (Za (Zb 2) Zc))) Zc))))) Zp)
   (Qy.2 T S a))⟩
def Qw:{W//Fi 7 Yd FR "part_slots" W}:=⟨_,λT S a=>by
  have b:=Jc a;exact(Zd (Zz (Zo (Yo b) (Zb 3) Ze) (Zi (Zm (Sa S.zap a (by rfl) (Za (Zb 0) (Za (Ym (Ym (Ym (Zb 1) Zh) Zh) Zh) (Za (Zb 2) Zc)))))) Zp)
   (Qx.2 T S a))⟩
def Qv:{W//Fi 6 Yd FR "part_slots" W}:=⟨_,λT S a=>by
  have b:=Jc a;exact(Zd (Zz (Zo (Yo b) (Zb 3) Ze) (Zi (Zm (T9 (by first | exact Uq | exact passC FQ FQ) S.k_shape_slots a (by rfl) (Za (Zb 0) (Za (Ym (Zb 1) Zh) (Za (Zb 2) Zc)))))) Zp)
   (Qw.2 T S a))⟩
def Qu:{W//Fi 5 Yd FR "part_slots" W}:=⟨_,λT S a=>by
  have nd:=Jv.nd;have b:=Jc a;exact(Zd (Zz (Zo (Yo b) (Zb 3) Ze) (Zd (Zl (i:=4) nd (Mi Bp (by rfl) T.zal Go (Za (Rc (cN:=["pair","slots"]) (cap:=[none,some 0]) (cl:=(X8 _ _ [])) (js:=[0]) (g:=(Wd 0)) ⟨FQ,(λok=>Sb ok FQ (by decide+kernel) (by decide+kernel) FQ FQ FQ),(Uk (Ym (Zb 1) Zh)),(λ_ _ _=>Jz (i:=0) (show(["pair","slots"]:List Str).Nodup by decide+kernel) FQ (Or.inl FQ)),Ye,Xc,Jl,by decide+kernel,λ_ _ _=>V7,λ_ _ _=>(Wg (pl:=_) Ja Yr (Zx S.k_Slots_unknown Z2) a (Zb 1)),λ_=>rfl⟩) Zc)))
   (Zi (Zm (Z4 Xt (Rc (cN:=["one","own"]) (cap:=[none,some 4]) (cl:=(X8 _ _ [])) (js:=[0]) (g:=(Wd 0)) ⟨FQ,(λok=>Sb ok FQ (by decide+kernel) (by decide+kernel) FQ FQ FQ),(Uk (Zb 4)),(λ_ _ _=>Jz (i:=0) (show(["one","own"]:List Str).Nodup by decide+kernel) FQ (Or.inl FQ)),Ye,Xc,Jl,by decide+kernel,λ_ _ _=>V7,λ_ _ _=>(Zg (Za (Zb 1) (Za (Zb 0) Zc))),λ_=>rfl⟩) (Z6 (Za (Zg (Za (Zb 4) (Za (Zb 2) Zc))) Zc)))))) Zp)
   (Qv.2 T S a))⟩
def Qt:{W//Fi 4 Yd FR "part_slots" W}:=⟨_,λT S a=>by
  have nd:=Jv.nd;have b:=Jc a;exact(Zd (Zz (Zo (Yo b) (Zb 3) Ze) (Zd (Zl (i:=6) nd (Wg (pl:=_) Ja Yr (Zx S.k_Slots_unknown Z2) a (Zb 0)))
   (Zi (Zm (Z6 (Za (Zg (Za (Zg Zc) (Za (Yf (pl:=_) Ja Yr (Zx S.k_Slots_known Z2) a (Zb 0) (Za (Zg (Za Ze (Za (Zb 6) (Za (Zb 2) Zc)))) Zc)) Zc))) (Za (Zg (Za (Zg Zc) (Za (Zb 6) Zc))) Zc)))))) Zp)
   (Qu.2 T S a))⟩
def Qs:{W//Fi 3 Yd FR "part_slots" W}:=⟨_,λT S a=>by
  have nd:=Jv.nd;have b:=Jc a;exact(Zd (Zz (Zo (Yo b) (Zb 3) Ze) (Zd (Zl (i:=4) nd (Wg (pl:=_) Ja Yr (Zx S.k_Slots_unknown Z2) a (Zb 0)))
   (Zd (Zl (i:=5) nd (Wg (pl:=_) Ja Yr (Zx S.k_Slots_unknown Z2) a (Zb 0)))
   (Zd (Yw (Yf (pl:=_) (by first | exact Uq | exact passC FQ FQ) Q7 (Zx S.k_Slots_make_alike Z2) a (Zb 0) (Za (Zb 2) (Za (Yf (pl:=_) Ja Yr (Zx S.k_Slots_known Z2) a (Zb 0) (Za (Zg (Za Ze (Za (Zb 4) (Za (Zb 5) Zc)))) Zc)) Zc))))
   (Zi (Zm (Z6 (Za (Zg (Za (Zg (Za (Zb 4) Zc)) (Za (Zb 5) Zc))) Zc))))))) Zp)
   (Qt.2 T S a))⟩
def Qr:{W//Fi 2 Yd FR "part_slots" W}:=⟨_,λT S a=>by
  have b:=Jc a;exact(Zd (Zz (Zo (Yo b) (Zb 3) Ze) (Zi (Zm (T9 (by first | exact Uq | exact passC FQ FQ) S.k_does_slots a (by rfl) (Za (Zb 0) (Za (Ym (Zb 1) Zh) (Za (Zb 2) Zc)))))) Zp)
   (Qs.2 T S a))⟩
def Vk:{W//Fi 0 Yd FR "part_slots" W}:=⟨_,λT S a=>by
  have nd:=Jv.nd;have b:=Jc a;exact(Zd (Zl (i:=3) nd (Ym (Zb 1) Zh))
   (Zd (Zz (Zo (Yo b) (Zb 3) Ze) (Zd (Yw (Yf (pl:=_) (by first | exact Uq | exact passC FQ FQ) Q7 (Zx S.k_Slots_make_alike Z2) a (Zb 0) (Za (Zb 2) (Za (Yf (pl:=_) Ja Yr (Zx S.k_Slots_known Z2) a (Zb 0) (Za (Zg (Za Ze Zc)) Zc)) Zc))))
   (Zi (Zm (Z6 Zc)))) Zp)
   (Qr.2 T S a)))⟩
abbrev So:WV:=top 24
def V6:Zt GW HK (Zj So):=by walk_at "sc"
def Vn:{W//Fi 0 So GW "does_slots" W}:=⟨_,λT S a=>by
  have nd:=V6.nd;have b:=Jc a;exact(Zd (Zl (i:=3) nd (fI (tG (tF (Zo (Yo b) (Zb 1) Ze) (yv (Zo (Yo b) (Zb 1) Ze)))) Ze Ze))
   (Zd (Yw (Yf (pl:=_) (by first | exact Uq | exact passC FQ FQ) Q7 (Zx S.k_Slots_make_alike Z2) a (Zb 0) (Za (Zb 2) (Za (Yf (pl:=_) Ja Yr (Zx S.k_Slots_known Z2) a (Zb 0) (Za (Zg (Za (Zb 3) Zc)) Zc)) Zc))))
   (Zd (Zl (i:=4) nd (Yf (pl:=_) Ja Yr (Zx S.k_Slots_known Z2) a (Zb 0) (Za (Zg (Za Ze Zc)) Zc)))
   (Zi (Zm (Z6 (Za (Zg (Za (Zg Zc) (Za (Zb 4) Zc))) (Za (Zg (Za (Zg Zc) (Za (Zb 4) Zc))) Zc))))))))⟩
abbrev U6:WV:=top 25
def Vb:Zt HD FZ (Zj U6):=by walk_at "sc"
def Xo:{W//Fi 0 U6 HD "shape_slots" W}:=⟨_,λT S a=>by
  have nd:=Vb.nd;have b:=Jc a;exact(Zd (Zz (tG (tF (Zo (Yo b) (Zb 1) Ze) (yv (Zo (Yo b) (Zb 1) Ze)))) (Zd (Yw (Yf (pl:=_) (by first | exact Uq | exact passC FQ FQ) Q7 (Zx S.k_Slots_make_alike Z2) a (Zb 0) (Za (Zb 2) (Za (Yf (pl:=_) Ja Yr (Zx S.k_Slots_known Z2) a (Zb 0) (Za (Zg (Za Ze Zc)) Zc)) Zc))))
   (Zi (Zm (Z6 Zc)))) Zp)
   (Zd (Zl (i:=3) nd (Wg (pl:=_) Ja Yr (Zx S.k_Slots_unknown Z2) a (Zb 0)))
   (Zd (Zz (Zo (Yo b) (Zb 1) Ze) (Zd (Zl (i:=4) nd (Wg (pl:=_) Ja Yr (Zx S.k_Slots_unknown Z2) a (Zb 0)))
   (Zd (Yw (Yf (pl:=_) (by first | exact Uq | exact passC FQ FQ) Q7 (Zx S.k_Slots_make_alike Z2) a (Zb 0) (Za (Zb 2) (Za (Yf (pl:=_) Ja Yr (Zx S.k_Slots_known Z2) a (Zb 0) (Za (Zg (Za Ze (Za (Zb 3) (Za (Zb 4) Zc)))) Zc)) Zc))))
   (Zi (Zm (Z6 (Za (Zg (Za (Zg Zc) (Za (Zb 3) Zc))) (Za (Zg (Za (Zg Zc) (Za (Zb 4) Zc))) Zc))))))) Zp)
   (Zd (Yw (Yf (pl:=_) (by first | exact Uq | exact passC FQ FQ) Q7 (Zx S.k_Slots_make_alike Z2) a (Zb 0) (Za (Zb 2) (Za (Yf (pl:=_) Ja Yr (Zx S.k_Slots_known Z2) a (Zb 0) (Za (Zg (Za Ze (Za (Zb 3) Zc))) Zc)) Zc))))
   (Zd (Zz (Zo (Yo b) (Zb 1) Ze) (Zi (Zm (Z6 Zc))) Zp)
   (Zi (Zm (Z6 (Za (Zg (Za (Zg Zc) (Za (Zb 3) Zc))) (Za (Zg (Za (Zg Zc) (Za (Zb 2) Zc))) Zc))))))))))⟩
abbrev Ud:WV:=top 26
def Wj:Zt GR FZ (Zj Ud):=by walk_at "sc"
def Jj:{W//wS 0 Ud GR "choose_slots" W}:=⟨_,λT S a=>by
  have nd:=Wj.nd;have b:=Jc a;exact(Zd (Zz (Zo (Yo b) (Zb 1) Ze) (Zi (Zm (Z6 (Za (Zg (Za (Zg Zc) (Za (Yf (pl:=_) Ja Yr (Zx S.k_Slots_known Z2) a (Zb 0) (Za (Zg (Za Ze Zc)) Zc)) Zc))) (Za (Zg (Za (Zg Zc) (Za (Zb 2) Zc))) (Za (Zg (Za (Zg Zc) (Za (Zb 2) Zc))) Zc)))))) Zp)
   (Zd (Zl (i:=3) nd (Wg (pl:=_) Ja Yr (Zx S.k_Slots_unknown Z2) a (Zb 0)))
   (Zd (Zz (Zo (Yo b) (Zb 1) Ze) (Zd (Zl (i:=4) nd (Wg (pl:=_) Ja Yr (Zx S.k_Slots_unknown Z2) a (Zb 0)))
   (Zi (Zm (Z6 (Za (Zg (Za (Zg Zc) (Za (Yf (pl:=_) Ja Yr (Zx S.k_Slots_known Z2) a (Zb 0) (Za (Zg (Za Ze (Za (Zb 3) (Za (Zb 4) Zc)))) Zc)) Zc))) (Za (Zg (Za (Zg (Za (Zb 3) (Za (Zb 4) Zc))) (Za (Zb 2) Zc))) Zc)))))) Zp)
   (Zd (Zl (i:=5) nd (Yf (pl:=_) Ja Yr (Zx S.k_Slots_known Z2) a (Zb 0) (Za (Zg (Za Ze (Za (Zb 3) Zc))) Zc)))
   (Zi (Zm (Z6 (Za (Zg (Za (Zg Zc) (Za (Zb 5) Zc))) (Za (Zg (Za (Zg Zc) (Za (Zb 2) Zc))) (Za (Zg (Za (Zg (Za (Zb 3) (Za (Zb 5) Zc))) (Za (Zb 2) Zc))) Zc))))))))))⟩
abbrev Sj:WV:=top 27
def V3:Zt GX ["slots","rows"] (Zj Sj):=by walk_at "sc"
def Vj:{W//Fi 0 Sj GX "told_kinds" W}:=⟨_,λT S a=>by
  have nd:=V3.nd;have b:=Jc a;exact(Zd (Zl (i:=2) nd K6)
   (Zd (Zl (i:=3) nd (Z6 Zc))
   (Zd (Cv PassesOwn.leaving FQ (Uk (Zb 1)) (Og (i:=4) nd)
   (Zi (Yw (T9 (by first | exact Uq | exact passC FQ FQ) S.k_make_ready a (by rfl) (Za (Zb 0) (Za (Yf (pl:=_) Ja Yr (Zx S.k_Slots_shared Z2) a (Zb 0) (Za (Zb 4) Zc)) (Za (Zb 2) (Za (Zb 3) Zc))))))))
   (Zi (Zm (Rc (cN:=["slot","ready","slots"]) (cap:=[none,some 2,some 0]) (cl:=(X8 _ _ [])) (js:=[0]) (g:=(Wd 0)) ⟨FQ,(λok=>Sb ok FQ (by decide+kernel) (by decide+kernel) FQ FQ FQ),(Uk (Zb 1)),(λ_ _ _=>Jz (i:=0) (show(["slot","ready","slots"]:List Str).Nodup by decide+kernel) FQ (Or.inl FQ)),Ye,Xc,Jl,by decide+kernel,λ_ _ _=>V7,λ_ _ _=>(Wq b (Zb 1) (Yf (pl:=_) Ja Yr (Zx S.k_Slots_shared Z2) a (Zb 2) (Za (Zb 0) Zc)) (λ_ _=>rfl)),λ_=>rfl⟩))))))⟩
abbrev Sm:WV:=top 28
def V4:Zt GC GO (Zj Sm):=by walk_at "sc"
def Vl:{W//Fi 0 Sm GC "make_ready" W}:=⟨_,λT S b=>by
  have nd:=V4.nd;have a:=Jc b;exact(Zd (Zl (i:=4) nd K6)
   (Zd (Zl (i:=5) nd (Z6 (Za (Zb 1) Zc)))
   (Zi (Mf PassesOwn.leaving (Zo (G6 a) (Zb 5) (Z6 Zc))
   (Zd (Zl (i:=6) nd (jI XZ DR DS Xq jv (Zb 5)))
   (Zd (Zz (Zo (ur a) (Zb 6) (Zb 2) (by rfl)) (Zi Cy) Zp)
   (Zd (Zl (i:=7) nd (Yf (pl:=_) Ja Yr (Zx S.k_Slots_form_of Z2) b (Zb 0) (Za (Zb 6) Zc)))
   (Zd (Zz (Zo jk (Zb 7) Eo) (Zd (Pi (Zg (Za Ze (Za (zi zq (by rfl) T.zak EI (Za (Zb 3) Zc)) Zc))) (Mh a (Zb 2) (Zb 6)))
   (Zd (Yw (Gg XZ YB YA Xq Ti (Zb 3) (Za (Zb 6) Zc)))
   (Zi Cy))) Zp)
   (Zd (yy (k:=8) (cN:=["part","slots"]) (cap:=[none,some 0]) (cl:=(X8 _ _ [])) (js:=[0]) (g:=(Wd 0)) nd FQ FQ FQ ⟨FQ,(λok=>Sb ok FQ (by decide+kernel) (by decide+kernel) FQ FQ FQ),(Uk (y6 (Zb 7) (Vg Zh) Mg)),(λ_ _ _=>Jz (i:=0) (show(["part","slots"]:List Str).Nodup by decide+kernel) FQ (Or.inl FQ)),Ye,Xc,Jl,by decide+kernel,λ_ _ _=>V7,λ_ _ _=>(Yf (pl:=_) Ja Yr (Zx S.k_Slots_shared Z2) b (Zb 1) (Za (Zb 0) Zc)),λ_=>rfl⟩)
   (Zd (Zz (Zo (ur a) (Zb 6) (Zb 4) (by rfl)) (Zd (Pi (Z4 Xt (fF (Zb 7) Mg (Vg Zh)) (Mi Bp (by rfl) T.zal Go (Za (Rc (cN:=["part","ready"]) (cap:=[none,some 2]) (cl:=(X8 _ _ [])) (js:=[0]) (g:=(Wd 0)) ⟨FQ,(λok=>Sb ok FQ (by decide+kernel) (by decide+kernel) FQ FQ FQ),(Uk (Zb 8)),(λ_ _ _=>Jz (i:=0) (show(["part","ready"]:List Str).Nodup by decide+kernel) FQ (Or.inl FQ)),Ye,Xc,Jl,by decide+kernel,λ_ _ _=>V7,λ_ _ _=>(Wq a (Zb 1) (Zb 0) (λ_ _=>rfl)),λ_=>rfl⟩) Zc))) (Mh a (Zb 2) (Zb 6)))
   (Zi Cy)) Zp)
   (Zd (Pi yA (Mh a (Zb 4) (Zb 6)))
   (Zd (Zz (yx (zi (fM FQ) (by rfl) T.za5 kz (Za (Rc (cN:=["part","begun","ready"]) (cap:=[none,some 4,some 2]) (cl:=(X8 _ _ [])) (js:=[0]) (g:=(Wd 0)) ⟨FQ,(λok=>Sb ok FQ (by decide+kernel) (by decide+kernel) FQ FQ FQ),(Uk (Zb 8)),(λ_ _ _=>Jz (i:=0) (show(["part","begun","ready"]:List Str).Nodup by decide+kernel) FQ (Or.inl FQ)),Ye,Xc,Jl,by decide+kernel,λ_ _ _=>V7,λ_ _ _=>(fJ (tU (ur a) (Zb 0) (Zb 1) (by rfl)) (fG (tU (uo a) (Zb 0) (Zb 2) (by rfl)))),λ_=>rfl⟩) Zc))) (Zi (Oe (i:=36) Cu FQ S.x_NoKind S.e_NoKind (by rfl) (Za Ze Zc))) Zp)
   (Zd (Yw (Gg XZ YB YA Xq Ti (Zb 5) (Za (Zb 6) Zc)))
   (Zi (Yw (Gg XZ ED EF Xq Hd (Zb 5) (Za (y9 FQ (by rfl) T.zaf (by rfl) T.zah (Zb 8)) Zc)))))))))))))))))⟩
abbrev R7:WV:=top 30
def Dk:Zt HQ HQ (Zj R7):=by walk_at "sc"
def Se:{W//SX 0 R7 HQ "_law_next" W}:=⟨_,λa T S b=>by
  exact(Zd (Zz (Zo q8 (zi zq (by rfl) T.zak EI (Za (Zb 0) Zc)) Zh) (Zi (Zm (jI XZ DR DS Xq jv (Zb 0)))) Zp)
   (Zi (Zm Zh)))⟩
abbrev Tc:WV:=top 31
def Iu:Zt GJ GJ (Zj Tc):=by walk_at "sc"
def Rh:{W//SX 0 Tc GJ "_law_beside" W}:=⟨_,λc T S b=>by
  have a:=Jc b;exact(Zd (Pi (Z4 um (Wq a (Zb 1) Ze (λ_ _=>rfl)) Zh) (Mh a (Zb 1) Ze))
   (Zd (Zz (Zo (G6 a) (Wq a (Zb 1) Ze (λ_ _=>rfl)) Zh) (Zi (Zm (Zb 0))) Zp)
   (Zd (Zz (Zo (Yo a) (Wq a (Zb 1) Ze (λ_ _=>rfl)) Zh) (Zi (Zm (Zg (Za Ze (Za (Wq a (Zb 1) Ze (λ_ _=>rfl)) (Za (Zb 0) Zc)))))) Zp)
   (Zd (Zz (Zo (Yo a) (Wq a (Zb 1) Ze (λ_ _=>rfl)) Zh) (Zi (Zm (Zg (Za Ze (Za (Zg (Za Ze (Za (Wq a (Zb 1) Ze (λ_ _=>rfl)) (Za (Zb 0) Zc)))) (Za (Wq a (Zb 1) Ze (λ_ _=>rfl)) Zc)))))) Zp)
   (Zi (Zm (Zg (Za Ze (Za (Zg (Za (Zg (Za (Wq a (Zb 1) Ze (λ_ _=>rfl)) (Za (Wq a (Zb 1) Ze (λ_ _=>rfl)) Zc))) Zc)) (Za (Zb 0) Zc))))))))))⟩
abbrev Ta:WV:=top 32
def Q6:Zt FV FX (Zj Ta):=by walk_at "sc"
def Rf:{W//SX 0 Ta FV "_law_inside" W}:=⟨_,λc T S b=>by
  have nd:=Q6.nd;have a:=Jc b;exact(Zd (Zl (i:=5) nd (Z4 Xt (Ym Ze (Z4 Y0 (Zb 2) Zh)) (Mi Br (by rfl) T.zam Bo (Za (Z4 Y0 (Z4 J9 (Zb 2) Zh) Zh) Zc))))
   (Zd (Yw (Gg XZ YB YA Xq Ti (Wq a (Zb 4) Ze (λ_ _=>rfl)) (Za (Zb 5) Zc)))
   (Zd (Zl (i:=6) nd (cP c (Y7 S.zae b (by rfl) (Za (Zb 0) (Za (Zb 3) (Za (Zb 4) Zc))))))
   (Zd (Zz (Zo (Yo a) (Zb 1) Zh) (Zi (Zm (Zg (Za Ze (Za (Zb 5) (Za (Zb 6) Zc)))))) Zp)
   (Zd (Zz (Zo (Yo a) (Zb 1) Zh) (Zi (Zm (Zg (Za Ze (Za Ze (Za (Zg (Za (Zb 6) (Za (cP c (Y7 S.zae b (by rfl) (Za (Zb 0) (Za (Zb 3) (Za (Zb 4) Zc))))) Zc))) Zc)))))) Zp)
   (Zd (Zz (Zo (Yo a) (Zb 1) Zh) (Zi (Zm (Zg (Za Ze (Za Ze (Za (Zg (Za (Zb 6) (Za (Zg (Za Ze (Za Ze (Za (Zg Zc) Zc)))) Zc))) Zc)))))) Zp)
   (Zd (Zz (Zo (Yo a) (Zb 1) Zh) (Zi (Zm (Zg (Za Ze (Za (Zb 6) (Za (cP c (Y7 S.zae b (by rfl) (Za (Zb 0) (Za (Zb 3) (Za (Zb 4) Zc))))) Zc)))))) Zp)
   (Zd (Zz (Zo (Yo a) (Zb 1) Zh) (Zi (Zm (Zg (Za Ze (Za (Zg (Za (Zg (Za (Zb 5) (Za (Zg (Za Ze (Za Ze (Za (Zg (Za (Zg (Za Ze (Za Zh Zc))) (Za (Zb 6) Zc))) Zc)))) Zc))) Zc)) (Za (Zg (Za Ze (Za (Zb 5) Zc))) Zc)))))) Zp)
   (Zd (Zz (Zo (Yo a) (Zb 1) Zh) (Zd (Zl (i:=7) nd (Zg (Za (Zg (Za Ze (Za (Zg Zc) (Za (Zg (Za Ze (Za (Zb 5) Zc))) Zc)))) (Za (Zg (Za Ze (Za (Zg (Za (Zb 5) (Za Ze Zc))) (Za (cP c (Y7 S.zae b (by rfl) (Za (Zb 0) (Za (Zb 3) (Za (Zb 4) Zc))))) Zc)))) Zc))))
   (Zi (Zm (Zg (Za Ze (Za (Zg (Za Ze (Za Ze (Za (Zg (Za (Zb 6) (Za (Zg (Za Ze (Za Ze (Za (Zg Zc) Zc)))) Zc))) Zc)))) (Za (Zb 7) Zc))))))) Zp)
   (Zi (Zm (Zg (Za Ze (Za (Zb 5) (Za (Zg (Za Ze (Za Ze (Za (Zg (Za (Zg (Za Ze (Za (Zb 5) Zc))) (Za (Zb 6) Zc))) Zc)))) Zc)))))))))))))))⟩
abbrev Rz:WV:=top 33
def N1:Zt GB GM (Zj Rz):=by walk_at "sc"
def Po:{W//SX 0 Rz GB "_law_term" W}:=⟨_,λb T S a=>by
  have nd:=N1.nd;have c:=Jc a;exact(Zd (Zl (i:=3) nd (cP b (Y7 S.zag a (by rfl) (Za (Zb 0) Zc))))
   (Zd (Zl (i:=4) nd (Z4 Y0 (Zb 3) Zh))
   (Zd (Zl (i:=5) nd (Zg (Za Ze (Za (Z4 Xt Ze (Mi Br (by rfl) T.zam Bo (Za (Z4 Y0 (Z4 J9 (Zb 3) Zh) Zh) Zc))) Zc))))
   (Zd (Zz (tG (yw (Zo q8 (Zb 1) Zh) (yw (Zo q8 (zi zq (by rfl) T.zak EI (Za (Zb 0) Zc)) Zh) (jD (Zo q8 (Zb 4) Zh))))) (Zi (Zl (i:=5) nd (cP b (Y7 S.zaw a (by rfl) (Za (Zb 0) (Za (zi (fK FQ) (by rfl) T.za3 ku (Za (Zb 4) (Za Zh Zc))) (Za (Z4 J9 (Zb 3) Zh) (Za (Z4 um (Zb 1) Zh) (Za (Zb 2) Zc))))))))) (Zi (Zz (Zo (Yo c) (Z4 Y0 (Zb 4) Zh) Zh) (Zi (Zl (i:=5) nd (Zg (Za Ze (Za (Z4 Y0 (Z4 J9 (Zb 3) Zh) (Z4 ji Zh Zh)) Zc))))) (Zi (Zz (Zo (Yo c) (Z4 Y0 (Zb 4) Zh) Zh) (Zi (Zl (i:=5) nd (Zg (Za Ze (Za Ze (Za (Zg Zc) Zc)))))) Zp)))))
   (Zi (Zm (cP b (Y7 S.zat a (by rfl) (Za (Zb 5) (Za (Zb 2) Zc))))))))))⟩
abbrev Sr:WV:=top 34
def Op:Zt HE GF (Zj Sr):=by walk_at "sc"
def Qk:{W//SX 0 Sr HE "_law_value" W}:=⟨_,λc T S b=>by
  have nd:=Op.nd;have a:=Jc b;exact(Zd (Zl (i:=2) nd (Zg (Za Ze (Za (Z4 Y0 (Zb 1) (Z4 ji Zh Zh)) Zc))))
   (Zd (Zz (Zo (Yo a) (Zb 0) Zh) (Zi (Zm (Zb 2))) Zp)
   (Zd (Zz (Zo (Yo a) (Zb 0) Zh) (Zi (Zm (Zg (Za Ze (Za (Ym (Z6 (Za Ze (Za Ze Zc))) (Z4 Y0 (Zb 1) Zh)) (Za (Zg Zc) Zc)))))) Zp)
   (Zd (Zz (Zo (Yo a) (Zb 0) Zh) (Zi (Zm (Zg (Za Ze (Za Ze (Za (Zg (Za (Zb 2) (Za (Zg (Za Ze (Za Ze (Za (Zg Zc) Zc)))) Zc))) Zc)))))) Zp)
   (Zd (Zz (Zo (Yo a) (Zb 0) Zh) (Zi (Zm (Zg (Za Ze (Za Ze (Za (Zg (Za (Zb 2) (Za (Zg (Za Ze (Za Ze (Za (Zg Zc) Zc)))) Zc))) Zc)))))) Zp)
   (Zi (Zm (Zg (Za Ze (Za Ze (Za (Zg (Za Ze (Za Ze (Za (Zg (Za Ze (Za Ze Zc))) (Za (Zb 2) Zc))))) Zc)))))))))))⟩
abbrev Tb:WV:=top 35
def Ir:Zt FU FU (Zj Tb):=by walk_at "sc"
def Rg:{W//SX 0 Tb FU "_law_choose" W}:=⟨_,λc T S b=>by
  have a:=Jc b;exact(Zd (Zz (Zo (Yo a) (Zb 0) Zh) (Zi (Zm (Zg (Za Ze (Za (Zb 1) (Za (Zg (Za (Zg (Za Ze (Za (Zg Zc) (Za (Zb 2) Zc)))) (Za (Zg (Za Ze (Za (Zg Zc) (Za (Zb 3) Zc)))) Zc))) Zc)))))) Zp)
   (Zd (Zz (Zo (Yo a) (Zb 0) Zh) (Zi (Zm (Zg (Za Ze (Za (Zb 1) (Za (Zg (Za (Zg (Za Ze (Za (Zg (Za Ze (Za Ze Zc))) (Za (Zb 2) Zc)))) Zc)) Zc)))))) Zp)
   (Zi (Zm (Zg (Za Ze (Za (Zb 1) (Za (Zg (Za (Zg (Za Ze (Za (Zg Zc) (Za (Zb 2) Zc)))) (Za (Zg (Za Ze (Za (Zg (Za Ze (Za Ze Zc))) (Za (Zb 3) Zc)))) Zc))) Zc))))))))⟩
abbrev U9:WV:=top 36
def Q5:Zt FW GA (Zj U9):=by walk_at "sc"
def Re:{W//SX 0 U9 FW "_law_unlike" W}:=⟨_,λc T S b=>by
  have nd:=Q5.nd;have a:=Jc b;exact(Zd (Zl (i:=4) nd (Zg (Za Ze (Za Ze Zc))))
   (Zd (Zl (i:=5) nd (Zg (Za Ze (Za Ze Zc))))
   (Zd (Zz (Zo (Yo a) (Zb 0) Zh) (Zi (Zm (Zg (Za Ze (Za Ze (Za (Zg (Za (Zb 1) (Za (Zg (Za Ze (Za Ze (Za (Zg (Za (Zb 2) (Za (Zg (Za Ze (Za Ze (Za (Zg Zc) Zc)))) Zc))) Zc)))) Zc))) Zc)))))) Zp)
   (Zd (Zz (Zo (Yo a) (Zb 0) Zh) (Zi (Zm (cP c (Y7 S.zai b (by rfl) (Za Zh (Za (Zg (Za Ze (Za Ze (Za (Zb 3) (Za (Zb 3) Zc))))) (Za (Zb 1) (Za (Zb 2) Zc)))))))) Zp)
   (Zd (Zz (Zo (Yo a) (Zb 0) Zh) (Zd (Zl (i:=6) nd (Zg (Za Ze (Za Ze (Za (Zg (Za (Zg (Za Ze (Za (Zb 5) (Za (Zb 1) Zc)))) (Za (Zg (Za Ze (Za (Zb 5) (Za (Zb 2) Zc)))) Zc))) Zc)))))
   (Zi (Zm (Zg (Za Ze (Za (Zg (Za (Zg (Za Ze (Za (Zg (Za Ze (Za Ze (Za (Zb 4) Zc)))) Zc))) Zc)) (Za (Zb 6) Zc))))))) Zp)
   (Zd (Zz (Zo (Yo a) (Zb 0) Zh) (Zi (Zm (Zg (Za Ze (Za Ze (Za (Zg (Za Ze (Za (Zb 4) (Za (Zb 4) Zc)))) Zc)))))) Zp)
   (Zd (Zl (i:=7) nd (Z6 (Za (Zg (Za Ze (Za Ze (Za (Zg (Za (Zb 4) (Za (Zg (Za Ze (Za Ze (Za (Zg Zc) Zc)))) Zc))) Zc)))) (Za (Zg (Za Ze (Za Ze (Za (Zg (Za (Zb 4) (Za (Zb 1) Zc))) Zc)))) (Za (Zg (Za Ze (Za Ze (Za (Zb 4) Zc)))) Zc)))))
   (Zi (Zm (Zg (Za Ze (Za (Zg (Za (Zg (Za Ze (Za (Ym (Zb 7) (Z4 Y0 (Ym (Zb 3) Zh) Zh)) Zc))) Zc)) (Za (Zb 2) Zc)))))))))))))⟩
abbrev Sq:WV:=top 37
def Oo:Zt FT GF (Zj Sq):=by walk_at "sc"
def Qj:{W//SX 0 Sq FT "_law_wrong" W}:=⟨_,λb T S a=>by
  have nd:=Oo.nd;have c:=Jc a;exact(Zd (Zl (i:=2) nd (Zg (Za Ze (Za (Z4 Y0 (Z4 J9 (Zb 1) Zh) (Z4 ji Zh Zh)) Zc))))
   (Zd (Zl (i:=3) nd (Z4 Y0 (Zb 1) Zh))
   (Zd (Zl (i:=4) nd (cP b (Y7 S.zad a (by rfl) (Za (Zb 3) (Za (Z4 J9 (Zb 1) Zh) Zc)))))
   (Zd (Zl (i:=5) nd (cP b (Y7 S.zad a (by rfl) (Za (Z4 Y0 (Z4 Xt (Z4 Xt (Zb 3) Zh) (Z4 Y0 (Z4 J9 (Zb 1) Zh) Zh)) Zh) (Za (Z4 J9 (Zb 1) Zh) Zc)))))
   (Zd (Zl (i:=6) nd (cP b (Y7 S.zad a (by rfl) (Za (Z4 Xt Zh (Z4 Y0 (Zb 1) Zh)) (Za (Z4 J9 (Zb 1) Zh) Zc)))))
   (Zd (Zz (Zo dU (Zb 0) Zh) (Zi (Zm (cP b (Y7 S.zav a (by rfl) (Za (Zb 0) (Za (Zb 4) (Za (Zb 5) (Za (Zb 2) Zc)))))))) Zp)
   (Zd (Zz (Zo (Yo c) (Zb 0) Zh) (Zi (Zm (Zg (Za Ze (Za (Ym (Z6 (Za Ze (Za Ze (Za Ze (Za Ze (Za Ze Zc)))))) (Z4 Y0 (Z4 J9 (Zb 1) Zh) Zh)) (Za (Zb 2) (Za (Zb 6) Zc))))))) Zp)
   (Zd (Zz (Zo (Yo c) (Zb 0) Zh) (Zi (Zm (Zg (Za Ze (Za (Ym (Z6 (Za Ze (Za Ze (Za Ze (Za Ze (Za Ze Zc)))))) (Z4 Y0 (Z4 J9 (Zb 1) Zh) Zh)) (Za (Zb 6) (Za (Zb 2) Zc))))))) Zp)
   (Zd (Zz (Zo (Yo c) (Zb 0) Zh) (Zi (Zm (Zg (Za Ze (Za (cP b (Y7 S.zad a (by rfl) (Za (Z4 Y0 (Zb 1) Zh) (Za (Z4 J9 (Zb 1) Zh) Zc)))) (Za (Zb 4) Zc)))))) Zp)
   (Zd (Zz (Zo (Yo c) (Zb 0) Zh) (Zd (Zl (i:=7) nd (Z4 Y0 (Z4 J9 (Zb 1) Zh) Zh))
   (Zd (Zl (i:=8) nd (cP b (Y7 S.zad a (by rfl) (Za (Ym (Ym (Z6 (Za (Z6 (Za Zh (Za Zh (Za Zh (Za Zh Zc))))) (Za (Z6 (Za Zh (Za Zh (Za Zh (Za Zh Zc))))) (Za (Z6 (Za Zh (Za Zh (Za Zh (Za Zh Zc))))) Zc)))) (Zb 7)) (Z4 Y0 (Zb 1) Zh)) (Za (Z4 J9 (Zb 1) Zh) Zc)))))
   (Zi (Zm (cP b (Y7 S.zai a (by rfl) (Za (Zb 7) (Za (Zb 8) (Za (Zb 4) (Za (Zb 4) Zc)))))))))) Zp)
   (Zd (Zz (Zo (Yo c) (Zb 0) Zh) (Zi (Zm (Zg (Za Ze (Za Ze (Za (Zg (Za (Zb 4) (Za (cP b (Y7 S.zad a (by rfl) (Za (Ym (Z6 (Za Zh (Za Zh (Za Zh (Za Zh Zc))))) (Z4 Y0 (Z4 J9 (Zb 1) Zh) Zh)) (Za (Z4 J9 (Zb 1) Zh) Zc)))) Zc))) Zc)))))) Zp)
   (Zd (Zl (i:=9) nd (Zg (Za Ze (Za Ze (Za (Zg (Za Ze (Za (Zg (Za Ze (Za Ze Zc))) (Za (Zg (Za Ze (Za Ze Zc))) Zc)))) Zc)))))
   (Zd (Zl (i:=10) nd (Zg (Za Ze (Za Ze (Za (Zg (Za Ze (Za Ze (Za (Zg (Za Ze (Za Ze Zc))) (Za (Zg (Za Ze (Za (Zg (Za Ze (Za Ze Zc))) (Za (Zg (Za Ze (Za Ze Zc))) Zc)))) Zc))))) Zc)))))
   (Zi (Zm (Zg (Za Ze (Za (Zg (Za (Zg (Za Ze (Za (Zb 9) Zc))) (Za (Zg (Za Ze (Za (Zb 10) Zc))) Zc))) (Za (Zg (Za Ze (Za (Zg (Za Ze (Za Ze Zc))) (Za (Zb 6) Zc)))) Zc)))))))))))))))))))⟩
abbrev Ue:WV:=top 38
def Qm:Zt FY GK (Zj Ue):=by walk_at "sc"
def Ts:{W//SX 0 Ue FY "_law_unbound" W}:=⟨_,λc T S b=>by
  have nd:=Qm.nd;have a:=Jc b;exact(Zd (Zl (i:=3) nd (Ym (Z6 (Za Ze (Za Ze Zc))) (Mi fL (by rfl) T.za4 ky (Za (tU (Yo a) (Zb 1) Ze (Lb _)) Zc))))
   (Zd (Zl (i:=4) nd (Zg (Za Ze (Za (Zb 1) Zc))))
   (Zd (Zz (Zo (Yo a) (Zb 0) Zh) (Zi (Zm (Zb 4))) Zp)
   (Zd (Zz (Zo (Yo a) (Zb 0) Zh) (Zi (Zm (Zg (Za Ze (Za (Zg (Za Ze (Za (Zb 1) (Za (Zb 4) Zc)))) (Za (Zb 4) Zc)))))) Zp)
   (Zd (Zz (Zo (Yo a) (Zb 0) Zh) (Zd (Zl (i:=5) nd (Zg (Za Ze (Za Ze (Za (Zg (Za (Zg (Za Ze (Za (Zb 2) Zc))) (Za (Zb 4) Zc))) Zc)))))
   (Zi (Zm (Zg (Za Ze (Za (Zb 5) (Za (Zg (Za (Zg (Za Ze (Za (Zg (Za (Zb 1) (Za (Zb 3) Zc))) (Za (Zb 4) Zc)))) Zc)) Zc))))))) Zp)
   (Zd (Zz (Zo (Yo a) (Zb 0) Zh) (Zi (Zm (Zg (Za Ze (Za (Zg (Za (Zg (Za (Zb 3) (Za (Zg (Za Ze (Za (Zb 2) Zc))) Zc))) (Za (Zg (Za (Z4 Xt (Zb 3) Ze) (Za (Zb 4) Zc))) Zc))) (Za (Zg (Za Ze (Za (Zb 3) Zc))) Zc)))))) Zp)
   (Zi (Zm (Zg (Za Ze (Za Ze (Za (Zg (Za (Zg (Za Ze (Za (Zb 1) (Za (Zb 4) Zc)))) (Za (Zg (Za Ze (Za (Zb 3) (Za (Zb 4) Zc)))) Zc))) Zc))))))))))))⟩
abbrev Ss:WV:=top 39
def Oq:Zt GI HA (Zj Ss):=by walk_at "sc"
def Ql:{W//SX 0 Ss GI "_law_stray" W}:=⟨_,λc T S a=>by
  have nd:=Oq.nd;have b:=Jc a;exact(Zd (Zl (i:=2) nd (Ym Ze (Z4 Y0 (Zb 0) Zh)))
   (Zd (Cv PassesOwn.never FQ (oX (by rfl) T.zaq (Za (Z4 Xt (zi zq (by rfl) T.zak EI (Za (Zb 1) Zc)) Zh) Zc)) (Og (i:=3) nd)
   (Zd (Zl (i:=4) nd (Z4 Xt (Zb 2) (Mi Br (by rfl) T.zam Bo (Za (Z4 Xt (Z4 Y0 (Z4 J9 (Zb 0) Zh) Zh) (Z4 gN (Zb 3) (Z4 Xt Zh (Z4 Y0 (Z4 J9 (Zb 0) Zh) Zh)))) Zc))))
   (Zi (Zz (Zo (jj b) (Zb 4) (Zb 1) (by rfl)) (Zi (Zm (Zb 4))) Zp))))
   (Zi (Zm Ze))))⟩
abbrev Ug:WV:=top 40
def Qo:Zt ["_law_e","_law_hit"] ["_law_e"] (Zj Ug):=by walk_at "sc"
def Tv:{W//SX 0 Ug ["_law_e","_law_hit"] "_law_classes" W}:=⟨_,λa T S b=>by
  have nd:=Qo.nd;exact(Zd (Zl (i:=1) nd (Z6 (Za (Ox (by rfl) T.zaa (by rfl) S.i_Unbound (Zb 0)) (Za (Ox (by rfl) T.zaa (by rfl) S.i_NoKind (Zb 0)) (Za (Ox (by rfl) T.zaa (by rfl) S.i_NoName (Zb 0)) (Za (Ox (by rfl) T.zaa (by rfl) S.i_NoRow (Zb 0)) Zc))))))
   (Zd (Zl (i:=1) nd (Z4 Xt (Zb 1) (Z6 (Za (Ox (by rfl) T.zaa (by rfl) S.i_NoText (Zb 0)) (Za (Ox (by rfl) T.zaa (by rfl) S.i_NoThing (Zb 0)) (Za (Ox (by rfl) T.zaa (by rfl) S.i_Ring (Zb 0)) (Za (Ox (by rfl) T.zaa (by rfl) S.i_Spent (Zb 0)) Zc)))))))
   (Zd (Zl (i:=1) nd (Z4 Xt (Zb 1) (Z6 (Za (Ox (by rfl) T.zaa (by rfl) S.i_Stopped (Zb 0)) (Za (fH (Ox (by rfl) T.zaa (by rfl) S.i_ValueError (Zb 0))) Zc)))))
   (Zi (Zm (Rc (cN:=["_law_k","_law_hit"]) (cap:=[none,some 1]) (cl:=(X8 _ _ [])) (js:=[0]) (g:=(Wd 0)) ⟨FQ,(λok=>Sb ok FQ (by decide+kernel) (by decide+kernel) FQ FQ FQ),(oX (by rfl) T.zaq (Za Zh Zc)),(λ_ _ _=>Jz (i:=0) (show(["_law_k","_law_hit"]:List Str).Nodup by decide+kernel) FQ (Or.inl FQ)),Ye,Xc,Jl,by decide+kernel,λ_ _ _=>(px (yx (Ym (Zb 1) (Zb 0)))),λ_ _ _=>(Zb 0),λ_=>rfl⟩))))))⟩
abbrev Uf:WV:=top 41
def Qn:Zt GL GU (Zj Uf):=by walk_at "sc"
def Tu:{W//bU 0 Uf GL "_law_refusal" W}:=⟨_,λa T S b=>by
  have nd:=Qn.nd;exact(Xi (Lo.one (Zl (i:=2) nd Eo))
   (Xi (tL (kj (yx (Zb 1)) (zf a b (by rfl) (oZ (M5.tk S.t0_kind_of)) (Lz.one (Za (Zb 0) Zc)) (U1 (Ez (wh:=λ_ _ _=>True) (M5.tk S.t0_kind_of)) (U1 (Ic (M5.tk S.t1_kind_of) (Cz (i:=3) (by rfl) (S.h_NoKind_IdleError).choose_spec.1 (S.h_NoKind_IdleError).choose_spec.2 S.n_NoKind nd (λ_=>(Zi (Zl (i:=2) nd (Zb 3)))))) (U1 (Ic (M5.tk S.t2_kind_of) (Cz (i:=3) (by rfl) (S.h_Unbound_IdleError).choose_spec.1 (S.h_Unbound_IdleError).choose_spec.2 S.n_Unbound nd (λ_=>(Zi (Zl (i:=2) nd (Zb 3)))))) zr))) FQ FQ) (zf a b (by rfl) (oZ (M5.tk S.t0_paper)) (Lz.one (Za (Zb 0) Zc)) (U1 (Ez (wh:=λ_ _ _=>True) (M5.tk S.t0_paper)) (U1 (Ic (M5.tk S.t1_paper) (Cz (i:=3) (by rfl) (S.h_NoKind_IdleError).choose_spec.1 (S.h_NoKind_IdleError).choose_spec.2 S.n_NoKind nd (λ_=>(Zi (Zl (i:=2) nd (Zb 3)))))) (U1 (Ic (M5.tk S.t2_paper) (Cz (i:=3) (by rfl) (S.h_Unbound_IdleError).choose_spec.1 (S.h_Unbound_IdleError).choose_spec.2 S.n_Unbound nd (λ_=>(Zi (Zl (i:=2) nd (Zb 3)))))) zr))) FQ FQ)))
   (Xi (Lo.one (Zz (Zo jk (Zb 2) Eo) (Zi (Zm (Z6 Zc))) Zp))
   (Ba (Lo.one (Zm (cP a (Y7 S.zar b (by rfl) (Za (Zb 2) Zc)))))))))⟩
abbrev O6:WV:=top 42
def zL:Zt FS HR (Zj O6):=by walk_at "sc"
def jX:{W//SX 0 O6 FS "law" W}:=⟨_,λb T S a=>by
  have nd:=zL.nd;have c:=Jc a;exact(Zd (Zl (i:=1) nd (cP b (Y7 S.zag a (by rfl) (Za (Mi Gp (by rfl) T.zaf Mn (Za (y6 (Zb 0) Mg (Vg Zh)) Zc)) Zc))))
   (Zd (Zl (i:=2) nd (cP b (Y7 S.zag a (by rfl) (Za (Mi Gp (by rfl) T.zaf Mn (Za (y6 (Zb 0) (Vg Zh) (Vg Zh)) Zc)) Zc))))
   (Zd (Zl (i:=3) nd (cP b (Y7 S.zag a (by rfl) (Za (Mi Gp (by rfl) T.zaf Mn (Za (y6 (Zb 0) (Vg Zh) (Vg Zh)) Zc)) Zc))))
   (Zd (Zl (i:=4) nd (y9 FQ (by rfl) T.zaf (by rfl) T.zah (y6 (Zb 0) (Vg Zh) (Vg Zh))))
   (Zd (Zl (i:=5) nd (Z4 Xt Ze (Mi Br (by rfl) T.zam Bo (Za (Z4 Y0 (Zb 3) Zh) Zc))))
   (Zd (Zl (i:=6) nd (jJ (Wf Ze Zh (Wf Ze (Zg (Za Ze (Za Zh Zc))) (Wf Ze Zh (Wf Ze (Zb 5) (Wf Ze (Z6 (Za (Zb 5) Zc)) jF)))))))
   (tO (sP b (tH (j:=7) S.zae a (by rfl) (tQ (Mi Gp (by rfl) T.zaf Mn (Za (Zb 4) Zc)) (pz (Za (Zb 6) Zc))) nd))
   (Xi (Lo.one (Zl (i:=8) nd (cP b (Y7 S.zas a (by rfl) (Za (Z4 Y0 (Zb 2) Zh) (Za (cP b (Y7 S.zaz a (by rfl) (Za (Z4 J9 (Zb 3) Zh) (Za (Wq c (Zb 6) Ze (λ_ _=>rfl)) Zc)))) (Za (Z4 Y0 (Z4 J9 (Zb 2) Zh) (Z4 ji Zh Zh)) Zc)))))))
   (Xi (Lo.one (Zl (i:=9) nd (cP b (Y7 S.za0 a (by rfl) (Za (Z4 Y0 (Z4 J9 (Zb 2) Zh) Zh) (Za (Z4 Xt (Z4 J9 (Zb 3) Zh) (Z4 J9 (Zb 2) Zh)) Zc))))))
   (Xi (Lo.one (Zz (Zo (Yo c) (Z4 Y0 (Zb 1) Zh) Zh) (Zi (Zl (i:=9) nd (Zb 8))) Zp))
   (Xi (Lo.one (Zz (Zo (Yo c) (Z4 Y0 (Zb 1) Zh) Zh) (Zi (Zl (i:=9) nd (Ym (Z6 (Za (Zg (Za Ze (Za (Zb 9) (Za (Zb 8) Zc)))) (Za (Zg (Za Ze (Za (Zb 8) (Za (Zb 9) Zc)))) Zc))) (Z4 Y0 (Z4 J9 (Zb 1) Zh) Zh)))) Zp))
   (Xi (Lo.one (Zl (i:=10) nd (Z4 Xt Zh (Z4 Y0 (Z4 J9 (Zb 1) Zh) (Z4 um Zh (Wq c (Zb 6) Ze (λ_ _=>rfl)))))))
   (Xi (Lo.one (Zl (i:=6) nd (jJ (Wf Ze (Zb 10) (Wf Ze (Zb 9) (Wf Ze (Z4 Y0 (Z4 J9 (Zb 1) Zh) Zh) (Wf Ze (Zb 5) (Wf Ze (Z6 Zc) jF))))))))
   (Xi (Lo.one (Zl (i:=11) nd (cP b (Y7 S.zae a (by rfl) (Za (Mi Gp (by rfl) T.zaf Mn (Za (Zb 4) Zc)) (Za Zh (Za (Zb 6) Zc)))))))
   (Xi (Lo.one (Zl (i:=12) nd (Ym (Z6 (Za (Z6 (Za Zh Zc)) (Za (Z6 (Za Zh Zc)) (Za (Z6 (Za Zh Zc)) Zc)))) (Z4 Y0 (Zb 1) Zh))))
   (Xi (pq (fD (ki (jE (G6 c) (eO b (K7 S.c__law_refusal a (by rfl) (Lz.one (Za (Zb 7) (Za yA Zc))))) (Ji.one (Z6 Zc)) (Lb _)) (ph (jE (G6 c) (eO b (K7 S.c__law_refusal a (by rfl) (Lz.one (Za (Zb 11) (Za yA Zc))))) (Ji.one (Zb 12)) (Lb _))))) (Ba (Lo.one (Zm yA))) (E5.one Zp))
   (Ba (pi (kq (tV (Yo c) (eO b (K7 S.c__law_refusal a (by rfl) (Lz.one (Za (Zb 7) (Za yA Zc))))) (Z6 Zc) (Lb _)) (pC (tV (Yo c) (eO b (K7 S.c__law_refusal a (by rfl) (Lz.one (Za (Zb 11) (Za yA Zc))))) (Zb 12) (Lb _))))))))))))))))))))))⟩
def Q2:Calls->WS:=Pn.1
def W1:Calls->WS:=Vm.1
def V1:Calls->WS:=V9.1
def Ii:Calls->WS:=Gw.1
def X9:Calls->WS:=Wh.1
def J2:Calls->WS:=J7.1
def Xf:Calls->WS:=Xj.1
def Wa:Calls->WS:=Wi.1
def Xw:Calls->WS:=X1.1
def Xg:Calls->WS:=Xk.1
def Jf:Calls->WS:=Jk.1
def J1:Calls->WS:=J6.1
def Pr:Calls->WS:=Oi.1
def Uy:Calls->WS:=U2.1
def Ri:Calls->WS:=Rq.1
def Jp:Calls->WS:=Jr.1
def wP:Calls->WS:=Qz.1
def wO:Calls->WS:=Qy.1
def wN:Calls->WS:=Qx.1
def wM:Calls->WS:=Qw.1
def wL:Calls->WS:=Qv.1
def wK:Calls->WS:=Qu.1
def wJ:Calls->WS:=Qt.1
def wI:Calls->WS:=Qs.1
def wH:Calls->WS:=Qr.1
def Wz:Calls->WS:=Vk.1
def W3:Calls->WS:=Vn.1
def Xm:Calls->WS:=Xo.1
def Je:Calls->WS:=Jj.1
def Wy:Calls->WS:=Vj.1
def W0:Calls->WS:=Vl.1
def T0:Calls->WS:=Se.1
def Si:Calls->WS:=Rh.1
def Sg:Calls->WS:=Rf.1
def Q3:Calls->WS:=Po.1
def Ru:Calls->WS:=Qk.1
def Sh:Calls->WS:=Rg.1
def Sf:Calls->WS:=Re.1
def Rt:Calls->WS:=Qj.1
def U3:Calls->WS:=Ts.1
def Rv:Calls->WS:=Ql.1
def U5:Calls->WS:=Tv.1
def U4:Calls->WS:=Tu.1
def w_law:Calls->WS:=jX.1
abbrev uP:Nat:=0
abbrev Cb:Nat:=1
abbrev sV:Nat:=2
abbrev lL:Nat:=3
abbrev G7:Nat:=4
abbrev xR:Nat:=5
abbrev Kh:Nat:=6
abbrev Fa:Nat:=7
abbrev Hu:Nat:=8
abbrev Ki:Nat:=9
abbrev Nd:Nat:=10
abbrev Lf:Nat:=11
abbrev Kw:Nat:=12
abbrev Ej:Nat:=13
abbrev Eh:Nat:=14
abbrev Uj:Nat:=15
abbrev D8:Nat:=16
abbrev Cf:Nat:=17
abbrev Ou:Nat:=18
abbrev Tk:Nat:=19
abbrev Mb:Nat:=20
abbrev D9:Nat:=21
abbrev Lw:Nat:=22
abbrev Sz:Nat:=23
abbrev Ov:Nat:=24
abbrev Pd:Nat:=25
abbrev Ci:Nat:=26
abbrev G9:Nat:=27
abbrev G8:Nat:=28
abbrev Ch:Nat:=29
abbrev Hs:Nat:=30
abbrev Cj:Nat:=31
abbrev Pe:Nat:=32
abbrev Ht:Nat:=33
abbrev fk:Nat:=34
abbrev A2:Nat:=35
abbrev M:Nat:=38
abbrev iR:Nat:=36
def pr:List Df:=[⟨2,1,Q2⟩,⟨3,2,W1⟩,⟨5,2,V1⟩,⟨2,1,Ii⟩,⟨5,3,X9⟩,⟨1,1,J2⟩,⟨1,1,Xf⟩,⟨3,2,Wa⟩,⟨2,2,Xw⟩,⟨2,2,Xg⟩,⟨7,3,Jf⟩,⟨5,3,J1⟩,⟨3,1,Pr⟩,⟨1,1,Uy⟩,⟨5,2,Ri⟩,⟨8,4,Jp⟩,⟨7,3,Wz⟩,⟨5,3,W3⟩,⟨5,3,Xm⟩,⟨6,3,Je⟩,⟨5,2,Wy⟩,⟨9,4,W0⟩,⟨1,1,T0⟩,⟨2,2,Si⟩,⟨8,5,Sg⟩,⟨6,3,Q3⟩,⟨3,2,Ru⟩,⟨4,4,Sh⟩,⟨8,4,Sf⟩,⟨11,2,Rt⟩,⟨6,3,U3⟩,⟨5,2,Rv⟩,⟨2,1,U5⟩,⟨4,2,U4⟩,⟨13,1,w_law⟩,⟨0,0,jZ "Slots" 5⟩,⟨0,0,λ_ _ _ _=>False⟩,⟨0,0,λ_ _ _ _=>False⟩,⟨2,1,λP=>Q2 λj=>P (j+38)⟩,⟨3,2,λP=>W1 λj=>P (j+38)⟩,⟨5,2,λP=>V1 λj=>P (j+38)⟩,⟨2,1,λP=>Ii λj=>P (j+38)⟩,⟨5,3,λP=>X9 λj=>P (j+38)⟩,⟨1,1,λP=>J2 λj=>P (j+38)⟩,⟨1,1,λP=>Xf λj=>P (j+38)⟩,⟨3,2,λP=>Wa λj=>P (j+38)⟩,⟨2,2,λP=>Xw λj=>P (j+38)⟩,⟨2,2,λP=>Xg λj=>P (j+38)⟩,⟨7,3,λP=>Jf λj=>P (j+38)⟩,⟨5,3,λP=>J1 λj=>P (j+38)⟩,⟨3,1,λP=>Pr λj=>P (j+38)⟩,⟨1,1,λP=>Uy λj=>P (j+38)⟩,⟨5,2,λP=>Ri λj=>P (j+38)⟩,⟨8,4,λP=>Jp λj=>P (j+38)⟩,⟨7,3,λP=>Wz λj=>P (j+38)⟩,⟨5,3,λP=>W3 λj=>P (j+38)⟩,⟨5,3,λP=>Xm λj=>P (j+38)⟩,⟨6,3,λP=>Je λj=>P (j+38)⟩,⟨5,2,λP=>Wy λj=>P (j+38)⟩,⟨9,4,λP=>W0 λj=>P (j+38)⟩,⟨0,0,λ_ _ _ _=>False⟩,⟨0,0,λ_ _ _ _=>False⟩,⟨0,0,λ_ _ _ _=>False⟩,⟨0,0,λ_ _ _ _=>False⟩,⟨0,0,λ_ _ _ _=>False⟩,⟨0,0,λ_ _ _ _=>False⟩,⟨0,0,λ_ _ _ _=>False⟩,⟨0,0,λ_ _ _ _=>False⟩,⟨0,0,λ_ _ _ _=>False⟩,⟨0,0,λ_ _ _ _=>False⟩,⟨0,0,λ_ _ _ _=>False⟩,⟨0,0,λ_ _ _ _=>False⟩,⟨0,0,λ_ _ _ _=>False⟩,⟨0,0,λP=>jZ "Slots" 5 λj=>P (j+38)⟩,⟨0,0,λ_ _ _ _=>True⟩,⟨0,0,λ_ _ _ _=>False⟩,⟨2,1,λP=>Q2 λj=>P (j+76)⟩,⟨3,2,λP=>W1 λj=>P (j+76)⟩,⟨5,2,λP=>V1 λj=>P (j+76)⟩,⟨2,1,λP=>Ii λj=>P (j+76)⟩,⟨5,3,λP=>X9 λj=>P (j+76)⟩,⟨1,1,λP=>J2 λj=>P (j+76)⟩,⟨1,1,λP=>Xf λj=>P (j+76)⟩,⟨3,2,λP=>Wa λj=>P (j+76)⟩,⟨2,2,λP=>Xw λj=>P (j+76)⟩,⟨2,2,λP=>Xg λj=>P (j+76)⟩,⟨7,3,λP=>Jf λj=>P (j+76)⟩,⟨5,3,λP=>J1 λj=>P (j+76)⟩,⟨3,1,λP=>Pr λj=>P (j+76)⟩,⟨1,1,λP=>Uy λj=>P (j+76)⟩,⟨5,2,λP=>Ri λj=>P (j+76)⟩,⟨8,4,λP=>Jp λj=>P (j+76)⟩,⟨7,3,λP=>Wz λj=>P (j+76)⟩,⟨5,3,λP=>W3 λj=>P (j+76)⟩,⟨5,3,λP=>Xm λj=>P (j+76)⟩,⟨6,3,λP=>Je λj=>P (j+76)⟩,⟨5,2,λP=>Wy λj=>P (j+76)⟩,⟨9,4,λP=>W0 λj=>P (j+76)⟩,⟨0,0,λ_ _ _ _=>False⟩,⟨0,0,λ_ _ _ _=>False⟩,⟨0,0,λ_ _ _ _=>False⟩,⟨0,0,λ_ _ _ _=>False⟩,⟨0,0,λ_ _ _ _=>False⟩,⟨0,0,λ_ _ _ _=>False⟩,⟨0,0,λ_ _ _ _=>False⟩,⟨0,0,λ_ _ _ _=>False⟩,⟨0,0,λ_ _ _ _=>False⟩,⟨0,0,λ_ _ _ _=>False⟩,⟨0,0,λ_ _ _ _=>False⟩,⟨0,0,λ_ _ _ _=>False⟩,⟨0,0,λ_ _ _ _=>False⟩,⟨0,0,λP=>jZ "Slots" 5 λj=>P (j+76)⟩,⟨0,0,λ_ _ _ _=>False⟩,⟨0,0,λ_ _ _ _=>True⟩]
def ZUU (i a r:Nat)(w:Calls->WS):Prop:=∀{n:Nat}{vs:List T}{C:Hw}{Q:WK}{χ:WX},vs.length=a->w (Jo pr n) (ZUD Q χ) (vs.map some++List.replicate r none) C->Jo pr (n+1) i vs C Q χ
def Lr:ZUU 22 1 0 T0:=λa h=>⟨_,FQ,a,h⟩
def G3:ZUU 23 2 0 Si:=λa h=>⟨_,FQ,a,h⟩
def G1:ZUU 24 5 3 Sg:=λa h=>⟨_,FQ,a,h⟩
def B9:ZUU 25 3 3 Q3:=λa h=>⟨_,FQ,a,h⟩
def Db:ZUU 26 2 1 Ru:=λa h=>⟨_,FQ,a,h⟩
def G2:ZUU 27 4 0 Sh:=λa h=>⟨_,FQ,a,h⟩
def Gz:ZUU 28 4 4 Sf:=λa h=>⟨_,FQ,a,h⟩
def Da:ZUU 29 2 9 Rt:=λa h=>⟨_,FQ,a,h⟩
def Ij:ZUU 30 3 3 U3:=λa h=>⟨_,FQ,a,h⟩
def Dc:ZUU 31 2 3 Rv:=λa h=>⟨_,FQ,a,h⟩
def Il:ZUU 32 1 1 U5:=λa h=>⟨_,FQ,a,h⟩
def Ik:ZUU 33 2 2 U4:=λa h=>⟨_,FQ,a,h⟩
def iF:ZUU 34 1 12 w_law:=λa h=>⟨_,FQ,a,h⟩
structure Rp (W:Nat->Calls)(r_NoKind r_Unbound:Prop):Prop where
 o_scopes:∀{n:Nat} {vs:List T} {C:Hw} {Q:WK} {χ:WX},vs.length=1->Q2 (W n) (ZUD Q χ) (vs.map some++List.replicate 1 none) C->W (n+1) 0 vs C Q χ
 o_let_scopes:∀{n:Nat} {vs:List T} {C:Hw} {Q:WK} {χ:WX},vs.length=2->W1 (W n) (ZUD Q χ) (vs.map some++List.replicate 1 none) C->W (n+1) 1 vs C Q χ
 o_rows_scopes:∀{n:Nat} {vs:List T} {C:Hw} {Q:WK} {χ:WX},vs.length=2->V1 (W n) (ZUD Q χ) (vs.map some++List.replicate 3 none) C->W (n+1) 2 vs C Q χ
 o_free:∀{n:Nat} {vs:List T} {C:Hw} {Q:WK} {χ:WX},vs.length=1->Ii (W n) (ZUD Q χ) (vs.map some++List.replicate 1 none) C->W (n+1) 3 vs C Q χ
 o_gather_free:∀{n:Nat} {vs:List T} {C:Hw} {Q:WK} {χ:WX},vs.length=3->X9 (W n) (ZUD Q χ) (vs.map some++List.replicate 2 none) C->W (n+1) 4 vs C Q χ
 o_Slots___init__:∀{n:Nat} {vs:List T} {C:Hw} {Q:WK} {χ:WX},vs.length=1->J2 (W n) (ZUD Q χ) (vs.map some++List.replicate 0 none) C->W (n+1) 5 vs C Q χ
 o_Slots_unknown:∀{n:Nat} {vs:List T} {C:Hw} {Q:WK} {χ:WX},vs.length=1->Xf (W n) (ZUD Q χ) (vs.map some++List.replicate 0 none) C->W (n+1) 6 vs C Q χ
 o_Slots_known:∀{n:Nat} {vs:List T} {C:Hw} {Q:WK} {χ:WX},vs.length=2->Wa (W n) (ZUD Q χ) (vs.map some++List.replicate 1 none) C->W (n+1) 7 vs C Q χ
 o_Slots_shared:∀{n:Nat} {vs:List T} {C:Hw} {Q:WK} {χ:WX},vs.length=2->Xw (W n) (ZUD Q χ) (vs.map some++List.replicate 0 none) C->W (n+1) 8 vs C Q χ
 o_Slots_form_of:∀{n:Nat} {vs:List T} {C:Hw} {Q:WK} {χ:WX},vs.length=2->Xg (W n) (ZUD Q χ) (vs.map some++List.replicate 0 none) C->W (n+1) 9 vs C Q χ
 o_Slots_make_alike:∀{n:Nat} {vs:List T} {C:Hw} {Q:WK} {χ:WX},vs.length=3->Jf (W n) (ZUD Q χ) (vs.map some++List.replicate 4 none) C->W (n+1) 10 vs C Q χ
 o_Slots_join_two:∀{n:Nat} {vs:List T} {C:Hw} {Q:WK} {χ:WX},vs.length=3->J1 (W n) (ZUD Q χ) (vs.map some++List.replicate 2 none) C->W (n+1) 11 vs C Q χ
 o_paper:∀{n:Nat} {vs:List T} {C:Hw} {Q:WK} {χ:WX},vs.length=1->Pr (W n) (ZUD Q χ) (vs.map some++List.replicate 2 none) C->W (n+1) 12 vs C Q χ
 o_kind_of:∀{n:Nat} {vs:List T} {C:Hw} {Q:WK} {χ:WX},vs.length=1->Uy (W n) (ZUD Q χ) (vs.map some++List.replicate 0 none) C->W (n+1) 13 vs C Q χ
 o_rows_of:∀{n:Nat} {vs:List T} {C:Hw} {Q:WK} {χ:WX},vs.length=2->Ri (W n) (ZUD Q χ) (vs.map some++List.replicate 3 none) C->W (n+1) 14 vs C Q χ
 o_places_within:∀{n:Nat} {vs:List T} {C:Hw} {Q:WK} {χ:WX},vs.length=4->Jp (W n) (ZUD Q χ) (vs.map some++List.replicate 4 none) C->W (n+1) 15 vs C Q χ
 o_part_slots:∀{n:Nat} {vs:List T} {C:Hw} {Q:WK} {χ:WX},vs.length=3->Wz (W n) (ZUD Q χ) (vs.map some++List.replicate 4 none) C->W (n+1) 16 vs C Q χ
 o_does_slots:∀{n:Nat} {vs:List T} {C:Hw} {Q:WK} {χ:WX},vs.length=3->W3 (W n) (ZUD Q χ) (vs.map some++List.replicate 2 none) C->W (n+1) 17 vs C Q χ
 o_shape_slots:∀{n:Nat} {vs:List T} {C:Hw} {Q:WK} {χ:WX},vs.length=3->Xm (W n) (ZUD Q χ) (vs.map some++List.replicate 2 none) C->W (n+1) 18 vs C Q χ
 o_choose_slots:∀{n:Nat} {vs:List T} {C:Hw} {Q:WK} {χ:WX},vs.length=3->Je (W n) (ZUD Q χ) (vs.map some++List.replicate 3 none) C->W (n+1) 19 vs C Q χ
 o_told_kinds:∀{n:Nat} {vs:List T} {C:Hw} {Q:WK} {χ:WX},vs.length=2->Wy (W n) (ZUD Q χ) (vs.map some++List.replicate 3 none) C->W (n+1) 20 vs C Q χ
 o_make_ready:∀{n:Nat} {vs:List T} {C:Hw} {Q:WK} {χ:WX},vs.length=4->W0 (W n) (ZUD Q χ) (vs.map some++List.replicate 5 none) C->W (n+1) 21 vs C Q χ
 o_new_Slots:∀{n:Nat} {vs:List T} {C:Hw} {Q:WK} {χ:WX},vs.length=0->(∀p,C p=none->W n 5 (.ref p::vs) (up C p (.ins "Slots" [])) (λv C2=>v=.non/\Q (.ref p) C2) χ)->W (n+1) 35 vs C Q χ
 o_raise_NoKind:∀{n:Nat} {C:Hw} {Q:WK} {χ:WX},r_NoKind->W (n+1) 36 [] C Q χ
 o_raise_Unbound:∀{n:Nat} {C:Hw} {Q:WK} {χ:WX},r_Unbound->W (n+1) 37 [] C Q χ
def bH:Rp (Jo pr) False False:=⟨λa h=>⟨_,FQ,a,h⟩,λa h=>⟨_,FQ,a,h⟩,λa h=>⟨_,FQ,a,h⟩,λa h=>⟨_,FQ,a,h⟩,λa h=>⟨_,FQ,a,h⟩,λa h=>⟨_,FQ,a,h⟩,λa h=>⟨_,FQ,a,h⟩,λa h=>⟨_,FQ,a,h⟩,λa h=>⟨_,FQ,a,h⟩,λa h=>⟨_,FQ,a,h⟩,λa h=>⟨_,FQ,a,h⟩,λa h=>⟨_,FQ,a,h⟩,λa h=>⟨_,FQ,a,h⟩,λa h=>⟨_,FQ,a,h⟩,λa h=>⟨_,FQ,a,h⟩,λa h=>⟨_,FQ,a,h⟩,λa h=>⟨_,FQ,a,h⟩,λa h=>⟨_,FQ,a,h⟩,λa h=>⟨_,FQ,a,h⟩,λa h=>⟨_,FQ,a,h⟩,λa h=>⟨_,FQ,a,h⟩,λa h=>⟨_,FQ,a,h⟩,λ{n vs C Q χ} a h=>⟨_,FQ,a,vs,(by show vs.map some++List.replicate 0 none=_;rw[DE,YK]),h⟩,λh=>h.elim,λh=>h.elim⟩
def bG:Rp (λn j=>Jo pr n (j+38)) True False:=⟨λa h=>⟨_,FQ,a,h⟩,λa h=>⟨_,FQ,a,h⟩,λa h=>⟨_,FQ,a,h⟩,λa h=>⟨_,FQ,a,h⟩,λa h=>⟨_,FQ,a,h⟩,λa h=>⟨_,FQ,a,h⟩,λa h=>⟨_,FQ,a,h⟩,λa h=>⟨_,FQ,a,h⟩,λa h=>⟨_,FQ,a,h⟩,λa h=>⟨_,FQ,a,h⟩,λa h=>⟨_,FQ,a,h⟩,λa h=>⟨_,FQ,a,h⟩,λa h=>⟨_,FQ,a,h⟩,λa h=>⟨_,FQ,a,h⟩,λa h=>⟨_,FQ,a,h⟩,λa h=>⟨_,FQ,a,h⟩,λa h=>⟨_,FQ,a,h⟩,λa h=>⟨_,FQ,a,h⟩,λa h=>⟨_,FQ,a,h⟩,λa h=>⟨_,FQ,a,h⟩,λa h=>⟨_,FQ,a,h⟩,λa h=>⟨_,FQ,a,h⟩,λ{n vs C Q χ} a h=>⟨_,FQ,a,vs,(by show vs.map some++List.replicate 0 none=_;rw[DE,YK]),h⟩,λ_=>⟨_,FQ,FQ,trivial⟩,λh=>h.elim⟩
def bF:Rp (λn j=>Jo pr n (j+76)) False True:=⟨λa h=>⟨_,FQ,a,h⟩,λa h=>⟨_,FQ,a,h⟩,λa h=>⟨_,FQ,a,h⟩,λa h=>⟨_,FQ,a,h⟩,λa h=>⟨_,FQ,a,h⟩,λa h=>⟨_,FQ,a,h⟩,λa h=>⟨_,FQ,a,h⟩,λa h=>⟨_,FQ,a,h⟩,λa h=>⟨_,FQ,a,h⟩,λa h=>⟨_,FQ,a,h⟩,λa h=>⟨_,FQ,a,h⟩,λa h=>⟨_,FQ,a,h⟩,λa h=>⟨_,FQ,a,h⟩,λa h=>⟨_,FQ,a,h⟩,λa h=>⟨_,FQ,a,h⟩,λa h=>⟨_,FQ,a,h⟩,λa h=>⟨_,FQ,a,h⟩,λa h=>⟨_,FQ,a,h⟩,λa h=>⟨_,FQ,a,h⟩,λa h=>⟨_,FQ,a,h⟩,λa h=>⟨_,FQ,a,h⟩,λa h=>⟨_,FQ,a,h⟩,λ{n vs C Q χ} a h=>⟨_,FQ,a,vs,(by show vs.map some++List.replicate 0 none=_;rw[DE,YK]),h⟩,λh=>h.elim,λ_=>⟨_,FQ,FQ,trivial⟩⟩
section
variable {Pg:WO}{w:WN}{K:WY}{mg:Str->Option WQ}{base:WU}{f a_ b_:WP}{fd:VZ}{n i:Nat}{pr:List Df}{x q:Str}{N ps:List Str}{st:WV}{P P':Calls}{E1:XK}
def xF (D:{W//SX 0 st N q W})(T:Txt w K mg)(S:Cs Pg w K mg base n pr a_ b_)(sc:Zt N ps (Zj st))(hd:pr[i]?=some ⟨N.length,ps.length,D.1⟩)(F:Kk K x q st f fd):Ww Pg w K mg base CX0 (n+1) f fd ps (spW K pr (n+1) i):=lV F sc hd FQ FQ λ_ _ _ _ _ _ a=>D.2 FQ T S a
def dR (D:{W//bU 0 st N q W})(T:Txt w K mg)(S:Cs Pg w K mg base n pr a_ b_)(sc:Zt N ps (Zj st))(hd:pr[i]?=some ⟨N.length,ps.length,D.1⟩)(F:Kk K x q st f fd):Kc Pg w K mg base (n+1) f fd ps (spW K pr (n+1) i):=lW F sc hd FQ FQ λ_ _ _ _ _ _ a=>D.2 FQ T S a
def Om (D:{W//Fi 0 st N q W})(T:Txt w K mg)(S:ow Pg w K mg base n P E1 a_ b_)(sc:Zt N ps (Zj st))(a:E7 P' P i N ps D.1)(F:Kk K x q st f fd):Ww Pg w K mg base (Km Pg w) (n+1) f fd ps (Ac K P' E1 i):=lT a F sc λ_ _ _ _ _ b=>D.2 T S b
def Py (D:{W//wS 0 st N q W})(T:Txt w K mg)(S:ow Pg w K mg base n P E1 a_ b_)(sc:Zt N ps (Zj st))(a:E7 P' P i N ps D.1)(F:Kk K x q st f fd):Ww Pg w K mg base CX0 (n+1) f fd ps (G4 K P' i):=lU a F sc λ_ _ _ _ _ _ b=>D.2 T S b
end
def Za3 {C:List WQ->Prop}(h:C []):∀us:List WQ,us.length=0->C us
 | [],_=>h
def pJ {C:List WQ->Prop}(h:∀a,C [a]):∀us:List WQ,us.length=1->C us
 | [a],_=>h a
def wQ {C:List WQ->Prop}(h:∀a b,C [a,b]):∀us:List WQ,us.length=2->C us
 | [a,b],_=>h a b
def pI {C:List WQ->Prop}(h:∀a b c,C [a,b,c]):∀us:List WQ,us.length=3->C us
 | [a,b,c],_=>h a b c
def eQ {C:List WQ->Prop}(h:∀a b c d,C [a,b,c,d]):∀us:List WQ,us.length=4->C us
 | [a,b,c,d],_=>h a b c d
def Zaa {C:List WQ->Prop}(h:∀a b c d e,C [a,b,c,d,e]):∀us:List WQ,us.length=5->C us
 | [a,b,c,d,e],_=>h a b c d e
def Za2 {C:List WQ->Prop}(h:∀a b c d e f,C [a,b,c,d,e,f]):∀us:List WQ,us.length=6->C us
 | [a,b,c,d,e,f],_=>h a b c d e f
def all_mk {l:W.OpenLaw}{w:WN}{K:WY}{h:WU}{mg:Str->Option WQ}{fa Ab a_ b_:WP}(X:K.In h)(G:h.Ns mainGlobals mg)(HX:mg "law"=some (.ref fa))
  (b:W.nsIn K mainGlobals "NoKind"=some (some (.ref a_))) (p:W.excIn K a_ [.type "ValueError",.type "Exception",.type "BaseException",.type "object"] "ValueError.__new__"=true)
  (a:W.nsIn K mainGlobals "Unbound"=some (some (.ref b_))) (o:W.excIn K b_ [.type "ValueError",.type "Exception",.type "BaseException",.type "object"] "ValueError.__new__"=true)
  (h_NoKind_IdleError:∃c,W.nsIn K mainGlobals "IdleError"=some (some c)/\W.exmOne K (.ref a_) c=some true)
  (h_Unbound_IdleError:∃c,W.nsIn K mainGlobals "IdleError"=some (some c)/\W.exmOne K (.ref b_) c=some true)
  (f:wD K a_)
  (d:wD K b_)
  (i_NoKind:∃c:WP,W.nsIn K mainGlobals "NoKind"=some (some (.ref c))/\W.kitOne K (.ref a_) (.ref c)=some true/\W.kitOne K (.ref b_) (.ref c)=some false)
  (i_NoName:∃c:WP,W.nsIn K mainGlobals "NoName"=some (some (.ref c))/\W.kitOne K (.ref a_) (.ref c)=some false/\W.kitOne K (.ref b_) (.ref c)=some false)
  (i_NoRow:∃c:WP,W.nsIn K mainGlobals "NoRow"=some (some (.ref c))/\W.kitOne K (.ref a_) (.ref c)=some false/\W.kitOne K (.ref b_) (.ref c)=some false)
  (i_NoText:∃c:WP,W.nsIn K mainGlobals "NoText"=some (some (.ref c))/\W.kitOne K (.ref a_) (.ref c)=some false/\W.kitOne K (.ref b_) (.ref c)=some false)
  (i_NoThing:∃c:WP,W.nsIn K mainGlobals "NoThing"=some (some (.ref c))/\W.kitOne K (.ref a_) (.ref c)=some false/\W.kitOne K (.ref b_) (.ref c)=some false)
  (i_Ring:∃c:WP,W.nsIn K mainGlobals "Ring"=some (some (.ref c))/\W.kitOne K (.ref a_) (.ref c)=some false/\W.kitOne K (.ref b_) (.ref c)=some false)
  (i_Spent:∃c:WP,W.nsIn K mainGlobals "Spent"=some (some (.ref c))/\W.kitOne K (.ref a_) (.ref c)=some false/\W.kitOne K (.ref b_) (.ref c)=some false)
  (i_Stopped:∃c:WP,W.nsIn K mainGlobals "Stopped"=some (some (.ref c))/\W.kitOne K (.ref a_) (.ref c)=some false/\W.kitOne K (.ref b_) (.ref c)=some false)
  (i_Unbound:∃c:WP,W.nsIn K mainGlobals "Unbound"=some (some (.ref c))/\W.kitOne K (.ref a_) (.ref c)=some false/\W.kitOne K (.ref b_) (.ref c)=some true)
  (i_ValueError:W.nsIn K mainGlobals "ValueError"=some none/\W.kitOne K (.ref a_) (.type "ValueError")=some true/\W.kitOne K (.ref b_) (.type "ValueError")=some true)
  (Ae:W.nsIn K mainGlobals "Slots"=some (some (.ref Ab)))
  (Af:W.plainGet K Ab Str.empty=true) (Ag:W.hasDictIn K Ab=true) (Ah:W.plainOver K Ab=true) (Ai:W.findIn K (.ref Ab) "__setattr__"=some (some (.builtin "object.__setattr__"))) (Ac:W.keepIn K (.ref Ab)=true)
  (Ad:W.makesIn K Ab=true)
  (Aj:W.findIn K (.ref Ab) "forms"=some none)
  (Am:W.findIn K (.ref Ab) "leads"=some none)
  (l0:Fg K "scopes" M8)
  (l1:Fg K "let_scopes" Sn)
  (l2:Fg K "rows_scopes" U7)
  (l3:Fg K "free" Dg)
  (l4:Fg K "gather_free" U8)
  (l5:Fh K Ab "__init__" "Slots.__init__" Va)
  (l6:Fh K Ab "unknown" "Slots.unknown" Vt)
  (l7:Fh K Ab "known" "Slots.known" Td)
  (l8:Fh K Ab "shared" "Slots.shared" Uh)
  (l9:Fh K Ab "form_of" "Slots.form_of" Vu)
  (A3:Fh K Ab "make_alike" "Slots.make_alike" X7)
  (A4:Fh K Ab "join_two" "Slots.join_two" W6)
  (A5:Fg K "paper" Ip)
  (A8:Fg K "kind_of" O7)
  (AA:Fg K "rows_of" O5)
  (AB:Fg K "places_within" Vs)
  (AC:Fg K "part_slots" Yd)
  (AD:Fg K "does_slots" So)
  (AE:Fg K "shape_slots" U6)
  (AF:Fg K "choose_slots" Ud)
  (AG:Fg K "told_kinds" Sj)
  (AH:Fg K "make_ready" Sm)
  (AI:Fg K "_law_next" R7)
  (AJ:Fg K "_law_beside" Tc)
  (AK:Fg K "_law_inside" Ta)
  (AL:Fg K "_law_term" Rz)
  (AM:Fg K "_law_value" Sr)
  (AN:Fg K "_law_choose" Tb)
  (AO:Fg K "_law_unlike" U9)
  (AQ:Fg K "_law_wrong" Sq)
  (AR:Fg K "_law_unbound" Ue)
  (AS:Fg K "_law_stray" Ss)
  (AT:Fg K "_law_classes" Ug)
  (AU:Fg K "_law_refusal" Uf)
  (A2:Fg K "law" O6)
  (Av:W.nsIn K mainGlobals "any"=some none)
  (At:W.nsIn K mainGlobals "dict"=some none)
  (Aw:W.nsIn K mainGlobals "int"=some none)
  (An:W.nsIn K mainGlobals "isinstance"=some none)
  (Ax:W.nsIn K mainGlobals "len"=some none)
  (Au:W.nsIn K mainGlobals "list"=some none)
  (Ay:W.nsIn K mainGlobals "max"=some none)
  (Aq:W.nsIn K mainGlobals "range"=some none)
  (Ao:W.nsIn K mainGlobals "reversed"=some none)
  (Ap:W.nsIn K mainGlobals "sorted"=some none)
  (Az:W.nsIn K mainGlobals "str"=some none)
  (Ar:W.nsIn K mainGlobals "tuple"=some none)
  (A1:W.nsIn K mainGlobals "zip"=some none)
  :∃fd:VZ,(∀(s:WR) (v:WQ),BindsTo s fd ⟨[v],[]⟩ [("_law_script",v)])/\∀base:WU,K.In base->base.Ns mainGlobals mg->Ww l.prog w K mg base CX0 60 fa fd HR (spW K pr 60 34):=by
 have A_:=Jw (ps:=HR) X G A2 λ_ _ _ _ _ _=>pJ λ_=>rfl;obtain⟨AX,_,AV,⟨oc,od,kV,dc,pm,an,cd,ct,sl,rfl,ll,lc⟩,lk⟩:=A2;have AW:=lR (st:=O6) ll lc lk;have e:=HX.symm.trans (BO X G AV)
 cases e
 have T:Txt w K mg:=⟨BR X G Av,BR X G At,BR X G Aw,BR X G An,BR X G Ax,BR X G Au,BR X G Ay,BR X G Aq,BR X G Ao,BR X G Ap,BR X G Az,BR X G Ar,BR X G A1,⟨Ab,Ae,⟨Af,Ag,Ah,Ai⟩,Aj⟩,⟨Ab,Ae,⟨Af,Ag,Ah,Ai⟩,Am⟩⟩;have Aa:Kl K mg "Slots" Ab:=⟨Ae,BO X G Ae,⟨Af,Ag,Ah,Ai⟩⟩;have L:=Jw (ps:=GD) X G l0 λ_ _ _ _ _ _=>pJ λ_=>rfl;have N:=Jw (ps:=HL) X G l1 λ_ _ _ _ _ _=>wQ λ_ _=>rfl;have L2:=Jw (ps:=HM) X G l2 λ_ _ _ _ _ _=>wQ λ_ _=>rfl;have Q:=Jw (ps:=GD) X G l3 λ_ _ _ _ _ _=>pJ λ_=>rfl;have U:=Jw (ps:=GP) X G l4 λ_ _ _ _ _ _=>pI λ_ _ _=>rfl;have I:=Hg (ps:=HI) l5 λ_ _ _ _ _ _=>pJ λ_=>rfl;have Y:=Hg (ps:=HI) l6 λ_ _ _ _ _ _=>pJ λ_=>rfl;have L7:=Hg (ps:=["self","form"]) l7 λ_ _ _ _ _ _=>wQ λ_ _=>rfl;have L8:=Hg (ps:=GG) l8 λ_ _ _ _ _ _=>wQ λ_ _=>rfl;have L9:=Hg (ps:=GG) l9 λ_ _ _ _ _ _=>wQ λ_ _=>rfl;have q:=Hg (ps:=HJ) A3 λ_ _ _ _ _ _=>pI λ_ _ _=>rfl;have t:=Hg (ps:=HF) A4 λ_ _ _ _ _ _=>pI λ_ _ _=>rfl;have u:=Jw (ps:=GD) X G A5 λ_ _ _ _ _ _=>pJ λ_=>rfl;have x:=Jw (ps:=GD) X G A8 λ_ _ _ _ _ _=>pJ λ_=>rfl;have y:=Jw (ps:=["slots","term"]) X G AA λ_ _ _ _ _ _=>wQ λ_ _=>rfl;have z:=Jw (ps:=GS) X G AB λ_ _ _ _ _ _=>eQ λ_ _ _ _=>rfl;have A:=Jw (ps:=HG) X G AC λ_ _ _ _ _ _=>pI λ_ _ _=>rfl;have B:=Jw (ps:=HK) X G AD λ_ _ _ _ _ _=>pI λ_ _ _=>rfl;have C:=Jw (ps:=FZ) X G AE λ_ _ _ _ _ _=>pI λ_ _ _=>rfl;have D:=Jw (ps:=FZ) X G AF λ_ _ _ _ _ _=>pI λ_ _ _=>rfl;have E:=Jw (ps:=["slots","rows"]) X G AG λ_ _ _ _ _ _=>wQ λ_ _=>rfl;have H:=Jw (ps:=GO) X G AH λ_ _ _ _ _ _=>eQ λ_ _ _ _=>rfl;have B_:=Jw (ps:=HQ) X G AI λ_ _ _ _ _ _=>pJ λ_=>rfl;have C_:=Jw (ps:=GJ) X G AJ λ_ _ _ _ _ _=>wQ λ_ _=>rfl;have DO:=Jw (ps:=FX) X G AK λ_ _ _ _ _ _=>Zaa λ_ _ _ _ _=>rfl;have D_:=Jw (ps:=GM) X G AL λ_ _ _ _ _ _=>pI λ_ _ _=>rfl;have E_:=Jw (ps:=GF) X G AM λ_ _ _ _ _ _=>wQ λ_ _=>rfl;have F_:=Jw (ps:=FU) X G AN λ_ _ _ _ _ _=>eQ λ_ _ _ _=>rfl;have G_:=Jw (ps:=GA) X G AO λ_ _ _ _ _ _=>eQ λ_ _ _ _=>rfl;have HP:=Jw (ps:=GF) X G AQ λ_ _ _ _ _ _=>wQ λ_ _=>rfl;have HS:=Jw (ps:=GK) X G AR λ_ _ _ _ _ _=>pI λ_ _ _=>rfl;have HU:=Jw (ps:=HA) X G AS λ_ _ _ _ _ _=>wQ λ_ _=>rfl;have HV:=Jw (ps:=["_law_e"]) X G AT λ_ _ _ _ _ _=>pJ λ_=>rfl;have HW:=Jw (ps:=GU) X G AU λ_ _ _ _ _ _=>wQ λ_ _=>rfl;refine⟨W.fnOf "law" "law" (Qg O6) (Y6 O6) (Zj O6) .none kV dc pm an cd ct,λs v=>.of_eq FQ,λbase _ _=>?_⟩;have m:ii K mg "NoKind" a_:=⟨BO X G b,_,_,_,_,DX,by decide+kernel,p⟩;have i:ii K mg "Unbound" b_:=⟨BO X G a,_,_,_,_,DX,by decide+kernel,o⟩;have R0:∀n,ow l.prog w K mg base n (Jo pr n) (λ_ _ _=>False) a_ b_:=λn=>by
  induction n with
  | zero=>exact⟨m,λ_ _ _ _ h=>(Q1 (r:=False) FQ h).elim,i,λ_ _ _ _ h=>(Q1 (r:=False) FQ h).elim,v0 Jg L,v0 Jg N,v0 Jg L2,v0 Jg Q,v0 Jg U,O9 Jg Aa I,O9 Jg Aa Y,O9 Jg Aa L7,O9 Jg Aa L8,O9 Jg Aa L9,xL Jg Aa q,xL Jg Aa t,x0 Jg u,x0 Jg x,x0 Jg y,x0 Jg z,x0 Jg A,x0 Jg B,x0 Jg C,v0 Jg D,x0 Jg E,x0 Jg H,lg Jg Aa Ad Ac I⟩
  | succ n g=>exact⟨m,λ_ _ _ _ h=>(Q1 (r:=False) FQ h).elim,i,λ_ _ _ _ h=>(Q1 (r:=False) FQ h).elim,Np L (Py Pn T g Pu (Yh FQ)),Np N (Py Vm T g V5 (Yh FQ)),Np L2 (Py V9 T g Te (Yh FQ)),Np Q (Py Gw T g Kr (Yh FQ)),Np U (Py Wh T g Vc (Yh FQ)),Sx Aa I (Py J7 T g Ve (Yh FQ)),Sx Aa Y (Py Xj T g Vv (Yh FQ)),Sx Aa L7 (Py Wi T g Vd (Yh FQ)),Sx Aa L8 (Py X1 T g Wk (Yh FQ)),Sx Aa L9 (Py Xk T g Vw (Yh FQ)),Sx Aa q (Om Jk T g Jy (Yh FQ)),Sx Aa t (Om J6 T g Xr (Yh FQ)),Vz u (Om Oi T g N0 (Yh FQ)),Vz x (Om U2 T g O8 (Yh FQ)),Vz y (Om Rq T g R9 (Yh FQ)),Vz z (Om Jr T g X3 (Yh FQ)),Vz A (Om Vk T g Jv (Yh FQ)),Vz B (Om Vn T g V6 (Yh FQ)),Vz C (Om Xo T g Vb (Yh FQ)),Np D (Py Jj T g Wj (Yh FQ)),Vz E (Om Vj T g V3 (Yh FQ)),Vz H (Om Vl T g V4 (Yh FQ)),yC Aa Ad Ac g.k_Slots___init__ (mU FQ)⟩
 have R1:∀n,ow l.prog w K mg base n (λj=>Jo pr n (j+38)) (Er [(a_,True)]) a_ b_:=λn=>by
  induction n with
  | zero=>exact⟨m,λ_ _ _ _ _=>⟨_,.head _,FQ,trivial⟩,i,λ_ _ _ _ h=>(Q1 (r:=False) FQ h).elim,v0 Zw L,v0 Zw N,v0 Zw L2,v0 Zw Q,v0 Zw U,O9 Zw Aa I,O9 Zw Aa Y,O9 Zw Aa L7,O9 Zw Aa L8,O9 Zw Aa L9,xL Zw Aa q,xL Zw Aa t,x0 Zw u,x0 Zw x,x0 Zw y,x0 Zw z,x0 Zw A,x0 Zw B,x0 Zw C,v0 Zw D,x0 Zw E,x0 Zw H,lg Zw Aa Ad Ac I⟩
  | succ n g=>exact⟨m,λ_ _ _ _ _=>⟨_,.head _,FQ,trivial⟩,i,λ_ _ _ _ h=>(Q1 (r:=False) FQ h).elim,Np L (Py Pn T g Pu (Zr FQ)),Np N (Py Vm T g V5 (Zr FQ)),Np L2 (Py V9 T g Te (Zr FQ)),Np Q (Py Gw T g Kr (Zr FQ)),Np U (Py Wh T g Vc (Zr FQ)),Sx Aa I (Py J7 T g Ve (Zr FQ)),Sx Aa Y (Py Xj T g Vv (Zr FQ)),Sx Aa L7 (Py Wi T g Vd (Zr FQ)),Sx Aa L8 (Py X1 T g Wk (Zr FQ)),Sx Aa L9 (Py Xk T g Vw (Zr FQ)),Sx Aa q (Om Jk T g Jy (Zr FQ)),Sx Aa t (Om J6 T g Xr (Zr FQ)),Vz u (Om Oi T g N0 (Zr FQ)),Vz x (Om U2 T g O8 (Zr FQ)),Vz y (Om Rq T g R9 (Zr FQ)),Vz z (Om Jr T g X3 (Zr FQ)),Vz A (Om Vk T g Jv (Zr FQ)),Vz B (Om Vn T g V6 (Zr FQ)),Vz C (Om Xo T g Vb (Zr FQ)),Np D (Py Jj T g Wj (Zr FQ)),Vz E (Om Vj T g V3 (Zr FQ)),Vz H (Om Vl T g V4 (Zr FQ)),yC Aa Ad Ac g.k_Slots___init__ (u5 FQ)⟩
 have R2:∀n,ow l.prog w K mg base n (λj=>Jo pr n (j+76)) (Er [(b_,True)]) a_ b_:=λn=>by
  induction n with
  | zero=>exact⟨m,λ_ _ _ _ h=>(Q1 (r:=False) FQ h).elim,i,λ_ _ _ _ _=>⟨_,.head _,FQ,trivial⟩,v0 Zw L,v0 Zw N,v0 Zw L2,v0 Zw Q,v0 Zw U,O9 Zw Aa I,O9 Zw Aa Y,O9 Zw Aa L7,O9 Zw Aa L8,O9 Zw Aa L9,xL Zw Aa q,xL Zw Aa t,x0 Zw u,x0 Zw x,x0 Zw y,x0 Zw z,x0 Zw A,x0 Zw B,x0 Zw C,v0 Zw D,x0 Zw E,x0 Zw H,lg Zw Aa Ad Ac I⟩
  | succ n g=>exact⟨m,λ_ _ _ _ h=>(Q1 (r:=False) FQ h).elim,i,λ_ _ _ _ _=>⟨_,.head _,FQ,trivial⟩,Np L (Py Pn T g Pu (Zr FQ)),Np N (Py Vm T g V5 (Zr FQ)),Np L2 (Py V9 T g Te (Zr FQ)),Np Q (Py Gw T g Kr (Zr FQ)),Np U (Py Wh T g Vc (Zr FQ)),Sx Aa I (Py J7 T g Ve (Zr FQ)),Sx Aa Y (Py Xj T g Vv (Zr FQ)),Sx Aa L7 (Py Wi T g Vd (Zr FQ)),Sx Aa L8 (Py X1 T g Wk (Zr FQ)),Sx Aa L9 (Py Xk T g Vw (Zr FQ)),Sx Aa q (Om Jk T g Jy (Zr FQ)),Sx Aa t (Om J6 T g Xr (Zr FQ)),Vz u (Om Oi T g N0 (Zr FQ)),Vz x (Om U2 T g O8 (Zr FQ)),Vz y (Om Rq T g R9 (Zr FQ)),Vz z (Om Jr T g X3 (Zr FQ)),Vz A (Om Vk T g Jv (Zr FQ)),Vz B (Om Vn T g V6 (Zr FQ)),Vz C (Om Xo T g Vb (Zr FQ)),Np D (Py Jj T g Wj (Zr FQ)),Vz E (Om Vj T g V3 (Zr FQ)),Vz H (Om Vl T g V4 (Zr FQ)),yC Aa Ad Ac g.k_Slots___init__ (u5 FQ)⟩
 have CS:∀n,Cs l.prog w K mg base n pr a_ b_:=λn=>by
  induction n with
  | zero=>exact⟨b,a,⟨_,BO X G h_NoKind_IdleError.choose_spec.1,h_NoKind_IdleError.choose_spec.2⟩,⟨_,BO X G h_Unbound_IdleError.choose_spec.1,h_Unbound_IdleError.choose_spec.2⟩,.inl ⟨_,BO X G i_NoKind.choose_spec.1,(Zs b f (i_NoKind.choose_spec.2.1) (Zs a d (i_NoKind.choose_spec.2.2) Y1))⟩,.inl ⟨_,BO X G i_NoName.choose_spec.1,(Zs b f (i_NoName.choose_spec.2.1) (Zs a d (i_NoName.choose_spec.2.2) Y1))⟩,.inl ⟨_,BO X G i_NoRow.choose_spec.1,(Zs b f (i_NoRow.choose_spec.2.1) (Zs a d (i_NoRow.choose_spec.2.2) Y1))⟩,.inl ⟨_,BO X G i_NoText.choose_spec.1,(Zs b f (i_NoText.choose_spec.2.1) (Zs a d (i_NoText.choose_spec.2.2) Y1))⟩,.inl ⟨_,BO X G i_NoThing.choose_spec.1,(Zs b f (i_NoThing.choose_spec.2.1) (Zs a d (i_NoThing.choose_spec.2.2) Y1))⟩,.inl ⟨_,BO X G i_Ring.choose_spec.1,(Zs b f (i_Ring.choose_spec.2.1) (Zs a d (i_Ring.choose_spec.2.2) Y1))⟩,.inl ⟨_,BO X G i_Spent.choose_spec.1,(Zs b f (i_Spent.choose_spec.2.1) (Zs a d (i_Spent.choose_spec.2.2) Y1))⟩,.inl ⟨_,BO X G i_Stopped.choose_spec.1,(Zs b f (i_Stopped.choose_spec.2.1) (Zs a d (i_Stopped.choose_spec.2.2) Y1))⟩,.inl ⟨_,BO X G i_Unbound.choose_spec.1,(Zs b f (i_Unbound.choose_spec.2.1) (Zs a d (i_Unbound.choose_spec.2.2) Y1))⟩,.inr ⟨"ValueError",BR X G i_ValueError.1,by decide+kernel,(Zs b f (i_ValueError.2.1) (Zs a d (i_ValueError.2.2) Y1))⟩,(R0 0).zan,(R0 0).zax,(R0 0).zau,(R0 0).za2,(R0 0).zaj,(R0 0).k_paper,(R1 0).k_paper,(R2 0).k_paper,(R0 0).k_kind_of,(R1 0).k_kind_of,(R2 0).k_kind_of,(R0 0).zap,xM B_,xM C_,xM DO,xM D_,xM E_,xM F_,xM G_,xM HP,xM HS,xM HU,xM HV,Ca.one (xM HW),xM A_⟩
  | succ n g=>exact⟨b,a,⟨_,BO X G h_NoKind_IdleError.choose_spec.1,h_NoKind_IdleError.choose_spec.2⟩,⟨_,BO X G h_Unbound_IdleError.choose_spec.1,h_Unbound_IdleError.choose_spec.2⟩,.inl ⟨_,BO X G i_NoKind.choose_spec.1,(Zs b f (i_NoKind.choose_spec.2.1) (Zs a d (i_NoKind.choose_spec.2.2) Y1))⟩,.inl ⟨_,BO X G i_NoName.choose_spec.1,(Zs b f (i_NoName.choose_spec.2.1) (Zs a d (i_NoName.choose_spec.2.2) Y1))⟩,.inl ⟨_,BO X G i_NoRow.choose_spec.1,(Zs b f (i_NoRow.choose_spec.2.1) (Zs a d (i_NoRow.choose_spec.2.2) Y1))⟩,.inl ⟨_,BO X G i_NoText.choose_spec.1,(Zs b f (i_NoText.choose_spec.2.1) (Zs a d (i_NoText.choose_spec.2.2) Y1))⟩,.inl ⟨_,BO X G i_NoThing.choose_spec.1,(Zs b f (i_NoThing.choose_spec.2.1) (Zs a d (i_NoThing.choose_spec.2.2) Y1))⟩,.inl ⟨_,BO X G i_Ring.choose_spec.1,(Zs b f (i_Ring.choose_spec.2.1) (Zs a d (i_Ring.choose_spec.2.2) Y1))⟩,.inl ⟨_,BO X G i_Spent.choose_spec.1,(Zs b f (i_Spent.choose_spec.2.1) (Zs a d (i_Spent.choose_spec.2.2) Y1))⟩,.inl ⟨_,BO X G i_Stopped.choose_spec.1,(Zs b f (i_Stopped.choose_spec.2.1) (Zs a d (i_Stopped.choose_spec.2.2) Y1))⟩,.inl ⟨_,BO X G i_Unbound.choose_spec.1,(Zs b f (i_Unbound.choose_spec.2.1) (Zs a d (i_Unbound.choose_spec.2.2) Y1))⟩,.inr ⟨"ValueError",BR X G i_ValueError.1,by decide+kernel,(Zs b f (i_ValueError.2.1) (Zs a d (i_ValueError.2.2) Y1))⟩,(R0 (n+1)).zan,(R0 (n+1)).zax,(R0 (n+1)).zau,(R0 (n+1)).za2,(R0 (n+1)).zaj,(R0 (n+1)).k_paper,(R1 (n+1)).k_paper,(R2 (n+1)).k_paper,(R0 (n+1)).k_kind_of,(R1 (n+1)).k_kind_of,(R2 (n+1)).k_kind_of,(R0 (n+1)).zap,Np B_ (xF Se T g Dk FQ),Np C_ (xF Rh T g Iu FQ),Np DO (xF Rf T g Q6 FQ),Np D_ (xF Po T g N1 FQ),Np E_ (xF Qk T g Op FQ),Np F_ (xF Rg T g Ir FQ),Np G_ (xF Re T g Q5 FQ),Np HP (xF Qj T g Oo FQ),Np HS (xF Ts T g Qm FQ),Np HU (xF Ql T g Oq FQ),Np HV (xF Tv T g Qo FQ),ae HW (dR Tu T g Qn FQ),Np A_ (xF jX T g zL FQ)⟩
 exact xF jX T (CS (59)) zL FQ AW
end K25
namespace Fn
inductive Kd where
 | op (n:Nat) | k0 (g:Str) | k1 (g:Str) (a:Kd) | k2 (g:Str) (a b:Kd)
inductive Fm where
 | f0 (g:Str) | f1 (g:Str) (a:Nat) | f2 (g:Str) (a b:Nat)
def Fm.ev (σ:Nat->Kd):Fm->Kd
 | .f0 g=>.k0 g
 | .f1 g a=>.k1 g (σ a)
 | .f2 g a b=>.k2 g (σ a) (σ b)
def Fm.ps:Fm->List Nat
 | .f0 _=>[]
 | .f1 _ a=>[a]
 | .f2 _ a b=>[a,b]
def Fm.tag:Fm->Str
 | .f0 g=>g
 | .f1 g _=>g
 | .f2 g _ _=>g
def Me {σ y_:Nat->Kd}{f:Fm}(h:∀p∈f.ps,σ p=y_ p):f.ev σ=f.ev y_:=by
 cases f with
 | f0 g=>rfl
 | f1 g a=>show Kd.k1 g _=Kd.k1 g _;rw[h a (by simp[Fm.ps])]
 | f2 g a b=>show Kd.k2 g _ _=Kd.k2 g _ _;rw[h a (by simp[Fm.ps]),h b (by simp[Fm.ps])]
structure Us where
 rt:Nat->Nat
 F:List (Option Fm)
structure Us.Ok (u:Us):Prop where
 lt:∀x,x<u.F.length->u.rt x<u.F.length
 id:∀x,x<u.F.length->u.rt (u.rt x)=u.rt x
 ps:∀(x:Nat) (f:Fm),u.F[x]?=some (some f)->∀p∈f.ps,p<u.F.length
def Wv (u:Us)(σ:Nat->Kd):Prop:=(∀x,x<u.F.length->σ x=σ (u.rt x))/\∀(x:Nat) (f:Fm),u.F[x]?=some (some f)->σ x=f.ev σ
def Ur (E:Nat->Nat->Prop):Fm->Fm->Prop
 | .f0 g,.f0 h=>g=h
 | .f1 g a,.f1 h c=>g=h/\E a c
 | .f2 g a b,.f2 h c d=>g=h/\E a c/\E b d
 | _,_=>False
def Ur.imp {E y:Nat->Nat->Prop}(h:∀a b,E a b->y a b):∀{f g:Fm},Ur E f g->Ur y f g
 | .f0 _,.f0 _,q=>q
 | .f1 _ _,.f1 _ _,q=>⟨q.1,h _ _ q.2⟩
 | .f2 _ _ _,.f2 _ _ _,q=>⟨q.1,h _ _ q.2.1,h _ _ q.2.2⟩
def Ur.refl {E:Nat->Nat->Prop}(h:∀a,E a a):∀f:Fm,Ur E f f
 | .f0 _=>rfl
 | .f1 _ _=>⟨FQ,h _⟩
 | .f2 _ _ _=>⟨FQ,h _,h _⟩
def Ur.trans {E:Nat->Nat->Prop}(h:∀a b c,E a b->E b c->E a c):∀{f g k:Fm},Ur E f g->Ur E g k->Ur E f k
 | .f0 _,.f0 _,.f0 _,p,q=>Eq.trans p q
 | .f1 _ _,.f1 _ _,.f1 _ _,p,q=>⟨p.1.trans q.1,h _ _ _ p.2 q.2⟩
 | .f2 _ _ _,.f2 _ _ _,.f2 _ _ _,p,q=>⟨p.1.trans q.1,h _ _ _ p.2.1 q.2.1,h _ _ _ p.2.2 q.2.2⟩
def Ur.symm {E:Nat->Nat->Prop}(h:∀a b,E a b->E b a):∀{f g:Fm},Ur E f g->Ur E g f
 | .f0 _,.f0 _,q=>Eq.symm q
 | .f1 _ _,.f1 _ _,q=>⟨q.1.symm,h _ _ q.2⟩
 | .f2 _ _ _,.f2 _ _ _,q=>⟨q.1.symm,h _ _ q.2.1,h _ _ q.2.2⟩
inductive Fj (u:Us)(pl:List (Nat×Nat)):Nat->Nat->Prop
 | rt {a b:Nat}:u.rt a=u.rt b->Fj u pl a b
 | pr {a b:Nat}:(a,b)∈pl->Fj u pl a b
 | sym {a b:Nat}:Fj u pl a b->Fj u pl b a
 | tr {a b c:Nat}:Fj u pl a b->Fj u pl b c->Fj u pl a c
def Fj.nil {u:Us}{a b:Nat}(h:Fj u [] a b):u.rt a=u.rt b:=by
 induction h with
 | rt e=>exact e
 | pr m=>cases m
 | sym _ c=>exact c.symm
 | tr _ _ i j=>exact i.trans j
def Fj.mono {u u':Us}{pl y:List (Nat×Nat)}(h1:∀a b,u.rt a=u.rt b->Fj u' y a b)(h2:∀a b,(a,b)∈pl->Fj u' y a b){a b:Nat}(h:Fj u pl a b):Fj u' y a b:=by
 induction h with
 | rt e=>exact h1 _ _ e
 | pr m=>exact h2 _ _ m
 | sym _ c=>exact .sym c
 | tr _ _ i j=>exact .tr i j
def Up (u:Us)(pl:List (Nat×Nat)):Prop:=∀(x:Nat) (f:Fm),u.F[x]?=some (some f)->∃g,u.F[u.rt x]?=some (some g)/\Ur (Fj u pl) f g
def Us.add (u:Us)(f:Option Fm):Us:={rt:=λx=>if x=u.F.length then x else u.rt x,F:=u.F++[f]}
def Us.join (u:Us)(a b:Nat):Us:={u with rt:=λx=>if u.rt x=a then b else u.rt x}
section
variable {u:Us}{a b x y:Nat}{σ:Nat->Kd}{pl:List (Nat×Nat)}
def D0 (o:u.Ok)(ha:u.rt a=a)(hb:u.rt b=b)(d:b<u.F.length)(n:a≠b):(u.join a b).Ok where
 lt:=λx hx=>by
  show(if u.rt x=a then b else u.rt x)<_
  split
  ·exact d
  ·exact o.lt x hx
 id:=λx hx=>by
  show(if u.rt (if u.rt x=a then b else u.rt x)=a then b else u.rt (if u.rt x=a then b else u.rt x))=(if u.rt x=a then b else u.rt x);by_cases c:u.rt x=a
  ·rw[XY c,hb,XX (Ne.symm n)]
  ·rw[XX c,o.id x hx,XX c]
 ps:=o.ps
def Dz (e:u.rt x=u.rt y):(u.join a b).rt x=(u.join a b).rt y:=by
 show(if u.rt x=a then b else u.rt x)=(if u.rt y=a then b else u.rt y);rw[e]
def Hk (ha:u.rt a=a)(hb:u.rt b=b)(d:a<u.F.length)(o:u.Ok):Wv (u.join a b) σ↔Wv u σ/\σ a=σ b:=by
 constructor
 ·rintro⟨h1,h2⟩;have ea:σ a=σ b:=by
   have:=h1 a d;rw[show(u.join a b).rt a=b from XY ha] at this;exact this
  refine⟨⟨λx hx=>?_,h2⟩,ea⟩;have h:=h1 x hx;by_cases c:u.rt x=a
  ·rw[show(u.join a b).rt x=b from XY c] at h;rw[c,h,ea]
  ·rw[show(u.join a b).rt x=u.rt x from XX c] at h;exact h
 ·rintro⟨⟨h1,h2⟩,ea⟩;refine⟨λx hx=>?_,h2⟩;have h:=h1 x hx;by_cases c:u.rt x=a
  ·rw[show(u.join a b).rt x=b from XY c,h,c,ea]
  ·rw[show(u.join a b).rt x=u.rt x from XX c];exact h
def Us.cnt (u:Us):Nat:=((List.range u.F.length).filter λx=>u.rt x==x).length
def Ct {p q:Nat->Bool}(h:∀x,p x=true->q x=true):∀l:List Nat,(l.filter p).length<=(l.filter q).length
 | []=>XE _
 | x::l=>by
  by_cases c:p x=true
  ·rw[BV c,BV (h x c)];exact DV (Ct h l)
  ·rw[CJ c];by_cases d:q x=true
   ·rw[BV d];exact EM (Ct h l)
   ·rw[CJ d];exact Ct h l
def Cr {p q:Nat->Bool}(h:∀x,p x=true->q x=true){a:Nat}(b:p a=false)(hq:q a=true):∀l:List Nat,a∈l->(l.filter p).length<(l.filter q).length
 | [],m=>by cases m
 | x::l,m=>by
  by_cases e:x=a
  ·subst e;rw[CJ (by rw[b];decide),BV hq];exact Nat.lt_succ_of_le (Ct h l)
  ·have hm:a∈l:=(BB.mp m).resolve_left λz=>e z.symm;by_cases c:p x=true
   ·rw[BV c,BV (h x c)];exact Nat.succ_lt_succ (Cr h b hq l hm)
   ·rw[CJ c];by_cases d:q x=true
    ·rw[BV d];exact CI (Cr h b hq l hm)
    ·rw[CJ d];exact Cr h b hq l hm
def Hl (ha:u.rt a=a)(hb:u.rt b=b)(d:a<u.F.length)(n:a≠b):(u.join a b).cnt<u.cnt:=by
 refine Cr (p:=λx=>(u.join a b).rt x==x) (q:=λx=>u.rt x==x) (a:=a) (λx h=>?_) ?_ (beq_iff_eq.mpr ha) _ (EH.mpr d)
 ·have h:(if u.rt x=a then b else u.rt x)=x:=beq_iff_eq.mp h;by_cases c:u.rt x=a
  ·rw[XY c] at h;subst h;exact absurd (c.symm.trans hb) n
  ·rw[XX c] at h;exact beq_iff_eq.mpr h
 ·refine Tm.mpr ?_;show(if u.rt a=a then b else u.rt a)≠a;rw[XY ha];exact Ne.symm n
def Um {f:Option Fm}(o:u.Ok)(h:∀g,f=some g->∀p∈g.ps,p<u.F.length):(u.add f).Ok where
 lt:=λx hx=>by
  have hx:x<(u.F++[f]).length:=hx;show(if x=u.F.length then x else u.rt x)<(u.F++[f]).length;rw[AY,BC] at hx |-
  split
  ·exact hx
  ·have:=o.lt x (by omega);omega
 id:=λx hx=>by
  have hx:x<(u.F++[f]).length:=hx;rw[AY,BC] at hx;show(if (if x=u.F.length then x else u.rt x)=u.F.length then(if x=u.F.length then x else u.rt x) else u.rt (if x=u.F.length then x else u.rt x))=(if x=u.F.length then x else u.rt x);by_cases c:x=u.F.length
  ·rw[XY c,XY c]
  ·have:=o.lt x (by omega);rw[XX c,XX (by omega),o.id x (by omega)]
 ps:=λx g hx p a=>by
  have hx:(u.F++[f])[x]?=some (some g):=hx;show p<(u.F++[f]).length;rw[AY,BC];by_cases c:x<u.F.length
  ·rw[BM c] at hx;have:=o.ps x g hx p a;omega
  ·have e:x=u.F.length:=by
    have:=(AZ.mp hx).1;rw[AY,BC] at this;omega
   subst e;rw[BJ (XE _),DT] at hx;have:=h g (YH hx) p a;omega
def Mu {f:Option Fm}(h:x<u.F.length):(u.add f).rt x=u.rt x:=XX (by omega)
def jR {f:Option Fm}:(u.add f).rt u.F.length=u.F.length:=XY FQ
def Zy {f:Option Fm}:(u.add f).F.length=u.F.length+1:=by show(u.F++[f]).length=_;rw[AY];rfl
def Ig {f:Option Fm}(h:x<u.F.length):(u.add f).F[x]?=u.F[x]?:=BM h
def sH {f:Option Fm}:(u.add f).F[u.F.length]?=some f:=by show(u.F++[f])[u.F.length]?=_;rw[BJ (XE _),DT];rfl
def V8 {f:Option Fm}(o:u.Ok):Wv (u.add f) σ↔Wv u σ/\∀g,f=some g->σ u.F.length=g.ev σ:=by
 constructor
 ·rintro⟨h1,h2⟩;refine⟨⟨λx hx=>?_,λx g hx=>?_⟩,λg e=>h2 _ g (by rw[sH,e])⟩
  ·have:=h1 x (by rw[Zy];omega);rw[Mu hx] at this;exact this
  ·have a:=(AZ.mp hx).1;exact h2 x g (by rw[Ig a];exact hx)
 ·rintro⟨⟨h1,h2⟩,b⟩;refine⟨λx hx=>?_,λx g hx=>?_⟩
  ·rw[Zy] at hx;by_cases c:x=u.F.length
   ·subst c;rw[jR]
   ·rw[Mu (by omega)];exact h1 x (by omega)
  ·have a:=(AZ.mp hx).1;rw[Zy] at a;by_cases c:x=u.F.length
   ·subst c;rw[sH] at hx;exact b g (YH hx)
   ·rw[Ig (by omega)] at hx;exact h2 x g hx
def Uw {f:Option Fm}(o:u.Ok)(h:Up u []):Up (u.add f) []:=λx g hx=>by
 have l:=(AZ.mp hx).1;rw[Zy] at l;by_cases c:x=u.F.length
 ·subst c;rw[jR];exact⟨g,hx,Ur.refl (λa=>.rt FQ) g⟩
 ·rw[Ig (by omega)] at hx;obtain⟨k,h1,h2⟩:=h x g hx;have m:=o.lt x (by omega);rw[Mu (by omega)];have hk:=o.ps _ k h1;have j:=o.ps _ g hx;refine⟨k,by rw[Ig m];exact h1,?_⟩;have i:∀a b,a<u.F.length->b<u.F.length->Fj u [] a b->Fj (u.add f) [] a b:=λa b ha hb e=>.rt (by rw[Mu ha,Mu hb];exact e.nil)
  cases g with
  | f0 w=>cases k with
   | f0 v=>exact h2
   | f1 v c=>exact h2.elim
   | f2 v c d=>exact h2.elim
  | f1 w c=>cases k with
   | f0 v=>exact h2.elim
   | f1 v d=>exact⟨h2.1,i _ _ (j _ (by simp[Fm.ps])) (hk _ (by simp[Fm.ps])) h2.2⟩
   | f2 v c d=>exact h2.elim
  | f2 w c d=>cases k with
   | f0 v=>exact h2.elim
   | f1 v d=>exact h2.elim
   | f2 v n d'=>exact⟨h2.1,i _ _ (j _ (by simp[Fm.ps])) (hk _ (by simp[Fm.ps])) h2.2.1,i _ _ (j _ (by simp[Fm.ps])) (hk _ (by simp[Fm.ps])) h2.2.2⟩
def B3 (f g:Fm):List (Nat×Nat):=f.ps.zip g.ps
def tZ {p:Nat×Nat}(e:u.rt p.1=u.rt p.2)(h:Up u (p::pl)):Up u pl:=λx f hx=>by
 obtain⟨g,h1,h2⟩:=h x f hx;refine⟨g,h1,h2.imp λc d q=>q.mono (λ_ _ z=>.rt z) λc d m=>?_⟩
 rcases BB.mp m with z | m
 ·subst z;exact .rt e
 ·exact .pr m
def tY {p:Nat×Nat}(i:u.rt p.1=a)(e:u.rt p.2=b)(ha:u.F[a]?=some none)(h:Up u (p::pl))(o:u.Ok)(hb:u.rt b=b)(n:a≠b):Up (u.join a b) pl:=λx f hx=>by
 obtain⟨g,h1,h2⟩:=h x f hx;have c:u.rt x≠a:=λz=>by rw[z,ha] at h1;cases h1
 refine⟨g,by rw[show(u.join a b).rt x=u.rt x from XX c];exact h1,h2.imp λc d q=>q.mono (λ_ _ z=>.rt (Dz z)) λc d m=>?_⟩
 rcases BB.mp m with z | m
 ·subst z;refine .rt ?_;show(if u.rt c=a then b else u.rt c)=(if u.rt d=a then b else u.rt d);rw[XY i,XX (by rw[e];exact Ne.symm n),e]
 ·exact .pr m
def xZ {p:Nat×Nat}{f g:Fm}(j:u.rt p.1=a)(l:u.rt p.2=b)(ha:u.rt a=a)(e:u.F[a]?=some (some f))(i:u.F[b]?=some (some g))(al:f.tag=g.tag/\f.ps.length=g.ps.length)(h:Up u (p::pl))(n:a≠b):
  Up (u.join b a) (pl++B3 f g):=λx k hx=>by
 obtain⟨k',h1,h2⟩:=h x k hx;have mo:∀c d,Fj u (p::pl) c d->Fj (u.join b a) (pl++B3 f g) c d:=λc d q=>q.mono (λ_ _ z=>.rt (Dz z)) λc d m=>by
  rcases BB.mp m with z | m
  ·subst z;refine .rt ?_;show(if u.rt c=b then a else u.rt c)=(if u.rt d=b then a else u.rt d);rw[XX (by rw[j];exact n),XY l,j]
  ·exact .pr (BK _ m)
 have o:Ur (Fj (u.join b a) (pl++B3 f g)) g f:=by
  refine Ur.symm (λ_ _ z=>.sym z) ?_;have pr:∀c d,(c,d)∈B3 f g->Fj (u.join b a) (pl++B3 f g) c d:=λc d m=>.pr (XT _ m)
  cases f with
  | f0 w=>cases g with
   | f0 v=>exact al.1
   | f1 v c=>exact absurd al.2 (by simp[Fm.ps])
   | f2 v c d=>exact absurd al.2 (by simp[Fm.ps])
  | f1 w c=>cases g with
   | f0 v=>exact absurd al.2 (by simp[Fm.ps])
   | f1 v d=>exact⟨al.1,pr _ _ (by simp[B3,Fm.ps])⟩
   | f2 v c d=>exact absurd al.2 (by simp[Fm.ps])
  | f2 w c d=>cases g with
   | f0 v=>exact absurd al.2 (by simp[Fm.ps])
   | f1 v d=>exact absurd al.2 (by simp[Fm.ps])
   | f2 v r d'=>exact⟨al.1,pr _ _ (by simp[B3,Fm.ps]),pr _ _ (by simp[B3,Fm.ps])⟩
 by_cases c:u.rt x=b
 ·rw[c,i] at h1
  cases h1
  exact⟨f,by rw[show(u.join b a).rt x=a from XY c];exact e,(h2.imp mo).trans (λ_ _ _ y z=>.tr y z) o⟩
 ·exact⟨k',by rw[show(u.join b a).rt x=u.rt x from XX c];exact h1,h2.imp mo⟩
def yD {p:Nat×Nat}(i:u.rt p.1=a)(j:u.rt p.2=b)(e:u.F[b]?=some none)(h:Up u (p::pl))(n:a≠b):Up (u.join b a) pl:=λx f hx=>by
 obtain⟨g,h1,h2⟩:=h x f hx;have c:u.rt x≠b:=λz=>by rw[z,e] at h1;cases h1
 refine⟨g,by rw[show(u.join b a).rt x=u.rt x from XX c];exact h1,h2.imp λc d q=>q.mono (λ_ _ z=>.rt (Dz z)) λc d m=>?_⟩
 rcases BB.mp m with z | m
 ·subst z;refine .rt ?_;show(if u.rt c=b then a else u.rt c)=(if u.rt d=b then a else u.rt d);rw[XX (by rw[i];exact n),XY j,i]
 ·exact .pr m
def zb {f g:Fm}(h:f.ev σ=g.ev σ):(f.tag=g.tag/\f.ps.length=g.ps.length)/\∀p∈B3 f g,σ p.1=σ p.2:=by
 cases f with
 | f0 w=>cases g with
  | f0 v=>injection h with h;exact⟨⟨h,FQ⟩,λp m=>by cases m⟩
  | f1 v c=>cases h
  | f2 v c d=>cases h
 | f1 w c=>cases g with
  | f0 v=>cases h
  | f1 v d=>injection h with h1 h2;exact⟨⟨h1,FQ⟩,λp m=>by simp[B3,Fm.ps] at m;subst m;exact h2⟩
  | f2 v c d=>cases h
 | f2 w c d=>cases g with
  | f0 v=>cases h
  | f1 v d=>cases h
  | f2 v b d'=>injection h with h1 h2 a;exact⟨⟨h1,FQ⟩,λp m=>by
    simp[B3,Fm.ps] at m
    rcases m with rfl | rfl
    ·exact h2
    ·exact a⟩
end
end Fn
open Fn
namespace WL
def Ex (C C':Hw):Prop:=∀a o,C a=some o->C' a=some o
def Ex.refl (C:Hw):Ex C C:=λ_ _ h=>h
def Ex.trans {C C1 C2:Hw}(a:Ex C C1)(b:Ex C1 C2):Ex C C2:=λc o h=>b c o (a c o h)
def cne {C:Hw}{a b:WP}{o:O}(h:C a=some o)(h':C b=none):a≠b:=λe=>by subst e;rw[h] at h';cases h'
def Ex.new {C:Hw}{p:WP}{o:O}(h:C p=none):Ex C (up C p o):=λa u e=>by rw[Zk (cne e h)];exact e
def Ex.up {C C':Hw}{p:WP}{o:O}(e:Ex C C')(h:C p=none):Ex C (up C' p o):=λa u q=>by rw[Zk (cne q h)];exact e a u q
def qW {C:Hw}{p q:WP}{o:O}(h:up C p o q=none):q≠p/\C q=none:=by
 have n:q≠p:=λz=>by subst z;rw[Zf] at h;cases h
 rw[Zk n] at h;exact⟨n,h⟩
def Ex.free {C C':Hw}(e:Ex C C'){p:WP}(h:C' p=none):C p=none:=by
 cases q:C p with
 | none=>rfl
 | some o=>rw[e p o q] at h;cases h
def Zbc (p:WP)(C C':Hw):Prop:=∀a o,a≠p->C a=some o->C' a=some o
def Ek:∀{xs:List T} {n:Nat},Y2 xs n=true↔∀x∈xs,Xp x n=true
 | [],n=>by unfold Y2;simp
 | x::xs,n=>by unfold Y2;rw[Bool.and_eq_true,Ek];simp
def Gd {x:Str}{n:Nat}:Xp (.str x) n=true:=by unfold Xp;rfl
def uZ {x:Int}{n:Nat}:Xp (.int x) n=true:=by unfold Xp;rfl
def qY {x:Bool}{n:Nat}:Xp (.bl x) n=true:=by unfold Xp;rfl
def Hm {x:Str}:Yz (.str x)=True:=eq_true Gd
def Hn {x:Int}:Yz (.int x)=True:=eq_true uZ
def Ee {x:Bool}:Yz (.bl x)=True:=eq_true qY
def Nf {xs:List Str}{n:Nat}:Y2 (xs.map T.str) n=true:=Ek.mpr λx hx=>by obtain⟨y,_,rfl⟩:=XR.mp hx;exact Gd
section
variable {n:Bool}{C:Hw}{Q:WK}
def Ut {a b:Str}:Ke n (.str a) (.str b) C Q=Q (.bl (if n=true then !(a==b) else a==b)) C:=by
 show(Yz _/\Yz _/\Q (.bl (if n=true then !Xe (.str a) (.str b) else Xe (.str a) (.str b))) C)=_;rw[Hm,Hm,true_and,true_and,show Xe (.str a) (.str b)=(a==b) by unfold Xe;rfl]
def Kq {a b:Int}:Ke n (.int a) (.int b) C Q=Q (.bl (if n=true then !(a==b) else a==b)) C:=by
 show(Yz _/\Yz _/\Q (.bl (if n=true then !Xe (.int a) (.int b) else Xe (.int a) (.int b))) C)=_;rw[Hn,Hn,true_and,true_and,show Xe (.int a) (.int b)=(a==b) by unfold Xe;rfl]
def nB {a b:Bool}:Ke n (.bl a) (.bl b) C Q=Q (.bl (if n=true then !(a==b) else a==b)) C:=by
 show(Yz _/\Yz _/\Q (.bl (if n=true then !Xe (.bl a) (.bl b) else Xe (.bl a) (.bl b))) C)=_;rw[Ee,Ee,true_and,true_and,show Xe (.bl a) (.bl b)=(a==b) by unfold Xe;rfl]
end
section
variable {α:Type}{a b c d e:α}{xs:List α}
def lY:(a::xs).eraseIdx 0=xs:=rfl
def Yj:Nr (a::xs) 0=some a:=X6 (j:=0) FQ
def Xu:Nr (a::b::xs) 1=some b:=X6 (j:=1) FQ
def Pm:Nr (a::b::c::xs) 2=some c:=X6 (j:=2) FQ
def fR:Nr (a::b::c::d::xs) 3=some d:=X6 (j:=3) FQ
def fQ:Nr (a::b::c::d::e::xs) 4=some e:=X6 (j:=4) FQ
def kD:Nr [a] (-1)=some a:=rfl
def kC:Nr [a,b] (-1)=some b:=rfl
def kB:Nr [a,b,c] (-1)=some c:=rfl
def kA:Nr [a,b,c,d] (-1)=some d:=rfl
end
def Ky {g:WG}{b:WS}{ok:Hw->Prop}{D:We}{xs:List T}(Pv:Nat->Sw->Hw->Prop){τ:Sw}{C:Hw}(l:Pv 0 τ C)(hok:∀i τ C,i<=xs.length->Pv i τ C->ok C)
  (hs:∀i x τ C (N:Sw->Hw->Prop),xs[i]?=some x->Pv i τ C->(∀a C',Pv (i+1) a C'->N a C')->g x τ C (λf C2=>b {D with nx:=N,ct:=N,bk:=D.nx} f C2) D.xc)
  (hd:∀τ C,Pv xs.length τ C->D.nx τ C):A8 g b ok D xs τ C:=by
 have j:∀(k i:Nat) (τ:Sw) (C:Hw),xs.length-i=k->i<=xs.length->Pv i τ C->A8 g b ok D (xs.drop i) τ C:=by
  intro k
  induction k with
  | zero=>
   intro i τ C hk hi d;have e:i=xs.length:=by omega
   subst e;rw[EQ];exact⟨hok _ τ C (XE _) d,hd τ C d⟩
  | succ k m=>
   intro i τ C hk hi d;have c:i<xs.length:=by omega
   rw[CT c];exact⟨hok i τ C hi d,hs i _ τ C _ (by simp[c]) d λa C' h=>m (i+1) a C' (by omega) c h⟩
 exact j xs.length 0 τ C (by simp) (Nat.zero_le _) l
def jb (lo:Int)(n:Nat):(rng lo n).length=n:=by unfold rng;simp
def rP {lo:Int}{n i:Nat}{x:T}(h:(rng lo n)[i]?=some x):i<n/\x=.int (lo+i):=by
 have hi:i<n:=by
  have:=(AZ.mp h).1;rw[jb] at this;exact this
 unfold rng at h;rw[XM,FG hi] at h
 cases h
 exact⟨hi,FQ⟩
def qX {g:WG}{b:WS}{ok:Hw->Prop}{D:We}{lo:Int}{n:Nat}(Pv:Nat->Sw->Hw->Prop){τ:Sw}{C:Hw}(d:Pv 0 τ C)(hok:∀C,ok C)
  (hs:∀i τ C (N:Sw->Hw->Prop),i<n->Pv i τ C->(∀a C',Pv (i+1) a C'->N a C')->g (.int (lo+i)) τ C (λc C2=>b {D with nx:=N,ct:=N,bk:=D.nx} c C2) D.xc)
  (hd:∀τ C,Pv n τ C->D.nx τ C):A8 g b ok D (rng lo n) τ C:=by
 refine Ky Pv d (λ_ _ C _ _=>hok C) (λi x τ C N hx e f=>?_) (λτ C h=>hd τ C (by rw[jb] at h;exact h));obtain⟨hi,rfl⟩:=rP hx;exact hs i τ C N hi e f
def Ro {g:WG}{c:WT}{e:WE}{ok:Hw->Prop}{τ:Sw}{Q:List T->Hw->Prop}{χ:WX}{xs:List T}(Pv:Nat->List T->Hw->Prop){C:Hw}(o:Pv 0 [] C)(hok:∀i a C,i<=xs.length->Pv i a C->ok C)
  (hs:∀i x a C (N:List T->Hw->Prop),xs[i]?=some x->Pv i a C->(∀d C',Pv (i+1) d C'->N d C')->
   g x τ C (λj C2=>c j C2 (λb n=>if b=true then e j n (λv p=>a.length<sizeLine/\N (a++[v]) p) χ else N a n) χ) χ)
  (hd:∀a C,Pv xs.length a C->Q a C):Ly g c e ok τ Q χ xs [] C:=by
 have m:∀(k i:Nat) (a:List T) (C:Hw),xs.length-i=k->i<=xs.length->Pv i a C->Ly g c e ok τ Q χ (xs.drop i) a C:=by
  intro k
  induction k with
  | zero=>
   intro i a C hk hi l;have e:i=xs.length:=by omega
   subst e;rw[EQ];exact⟨hok _ a C (XE _) l,hd a C l⟩
  | succ k q=>
   intro i a C hk hi l;have f:i<xs.length:=by omega
   rw[CT f];exact⟨hok i a C hi l,hs i _ a C _ (by simp[f]) l λd C' h=>q (i+1) d C' (by omega) f h⟩
 exact m xs.length 0 [] C (by simp) (Nat.zero_le _) o
def V0 {g:WG}{e:WE}{ok:Hw->Prop}{τ:Sw}{Q:List T->Hw->Prop}{χ:WX}{xs:List T}(f:T->T){C:Hw}(hok:ok C)(j:xs.length<=sizeLine)
  (hs:∀x∈xs,∀R:WK,R (f x) C->g x τ C (λb C2=>e b C2 R χ) χ) (hd:Q (xs.map f) C):Ly g nH e ok τ Q χ xs [] C:=by
 refine Ro (λi a C'=>C'=C/\a=(xs.take i).map f) ⟨FQ,FQ⟩ (λi a C' _ h=>by rw[h.1];exact hok) (λi x a C' N hx c d=>?_) (λa C' h=>?_)
 ·obtain⟨rfl,rfl⟩:=c;have hi:i<xs.length:=(AZ.mp hx).1;refine hs x (BE hx) _ ⟨?_,d _ _ ⟨FQ,?_⟩⟩
  ·rw[XI,YM];omega
  ·rw[YD,hx,XL];rfl
 ·obtain⟨rfl,rfl⟩:=h;rw[DC];exact hd
def Hr {z:Str}{zs:List Str}:Eg (.str z) (zs.map T.str)=decide (z∈zs):=by
 unfold Eg;rw[List.any_map]
 induction zs with
 | nil=>rfl
 | cons y ys a=>
  rw[DH,a];have e:(((λy=>Xe y (.str z))∘T.str) y)=(y==z):=by show Xe (.str y) (.str z)=_;unfold Xe;rfl
  rw[e];by_cases h:y=z
  ·subst h;simp
  ·have h':z≠y:=λq=>h q.symm;simp[h,h']
def V2 {n:Nat}(h:n<=100000):n<=sizeLine:=XN h (by decide)
def Y4 {n:Nat}(h:n<=100000):n<sizeLine:=EC h (by decide)
end WL
namespace K25
local macro_rules | `(tactic| walk_at "ws") => `(tactic| try simp (config := { decide := true }) only [Yp, eC, X5, aU, Zv, Z1, Fb, Ng, Xh, fA, cw, cz, tE, aV, ke, r9, zJ, d0, zI, ai, kg, B6, rj, i8, M7, Oz, i5, di, bt, bZ, bv, ac, va, i6, xa, bI, oK, dg, bP, fP, fO, cJ, sw, sx, cy, dj, Nq, A3, Lg, eM, bN, Qp, Su, Aj, N4, gn, xr, Ol, dF, oG, vH, rN, lM, ci, aL, aM, Gk, nH, ze, iG, bz, jw, gW, mZ, z0, i7, bu, wZ, Ut, Kq, lY, Yj, Xu, Pm, fR, fQ, kD, kC, kB, kA, nB,
  List.map_cons, EV, List.length_cons, EW, List.replicate, List.cons_append, FP, List.getElem?_cons_zero, List.getElem?_cons_succ, List.set_cons_zero, List.set_cons_succ, Option.some.injEq, T.int.injEq, T.str.injEq, T.bl.injEq, T.ref.injEq, T.tup.injEq, T.cl.injEq, exists_eq_left', exists_eq_left, exists_eq', exists_and_left, and_assoc, List.cons.injEq, and_true, true_and, reduceCtorEq, false_and, exists_false, List.append_nil, if_true, if_false, Bool.not_not, decide_eq_true_eq, Bool.not_eq_true', decide_eq_false_iff_not, Bool.false_eq_true, List.nil_eq, Option.bind_none, Option.bind_some, Option.join_some, Nat.reduceAdd, Nat.reduceSub, DT, Nat.zero_add, Nat.sub_zero, beq_iff_eq, Bool.not_false, Bool.not_true])
section
variable {W:Nat->Calls}{ρ x_:Prop}{A B:WS}{D:We}{τ:Sw}{C:Hw}{i k:Nat}{v:T}{r:List T}{s s' w:Str}{x y:Int}
def Ay (h:τ[0]?=some (some (.tup (v::r))))(q:B D (τ.set k (some v)) C):Su (Ol (X5 xa (Yp 0) (eC (.int 0))) (Nq k)) B D τ C:=⟨_,h,_,Yj,q⟩
def Aw (h:τ[i]?=some (some (.str w)))(hw:w=s)(q:A {D with nx:=B D} τ C):Su (xr (zJ (X5 z0 (Yp i) (eC (.str s)))) A Qp) B D τ C:=by
 refine⟨_,h,?_⟩;simp only[eC];rw[z0,Ut,hw];refine⟨true,by simp,?_⟩;rw[XY rfl];exact q
def Q0 (h:τ[i]?=some (some (.str w)))(hw:w≠s)(q:B D τ C):Su (xr (zJ (X5 z0 (Yp i) (eC (.str s)))) A Qp) B D τ C:=by
 refine⟨_,h,?_⟩;simp only[eC];rw[z0,Ut];refine⟨false,by simp[hw],?_⟩;rw[XX (by decide)];exact q
def uJ (h:τ[i]?=some (some (.str w)))(hw:w=s\/w=s')(q:A {D with nx:=B D} τ C):Su (xr (zI (zJ (X5 z0 (Yp i) (eC (.str s)))) (zJ (X5 z0 (Yp i) (eC (.str s'))))) A Qp) B D τ C:=by
 refine⟨_,h,?_⟩;simp only[eC];rw[z0,Ut];by_cases c:w=s
 ·refine⟨true,by simp[c],?_⟩;rw[XY rfl];exact q
 ·refine⟨false,by simp[c],?_⟩;rw[XX (by decide)];refine⟨_,h,?_⟩;simp only[eC];rw[Ut];have a:w=s':=hw.resolve_left c;refine⟨true,by simp[a],?_⟩;rw[XY rfl];exact q
def Ax (h:τ[i]?=some (some (.str w)))(hw:w≠s)(a:w≠s')(q:B D τ C):Su (xr (zI (zJ (X5 z0 (Yp i) (eC (.str s)))) (zJ (X5 z0 (Yp i) (eC (.str s'))))) A Qp) B D τ C:=by
 refine⟨_,h,?_⟩;simp only[eC];rw[z0,Ut];refine⟨false,by simp[hw],?_⟩;rw[XX (by decide)];refine⟨_,h,?_⟩;simp only[eC];rw[Ut];refine⟨false,by simp[a],?_⟩;rw[XX (by decide)];exact q
end
def oA:List Str:=["does","call","first","fun","let","shape","choose","rows"]
inductive Sc:T->Option Nat->List (List T×T)->Prop
 | does {o A B:T}:Sc (.tup [.str "does",o,A,B]) none [([],A),([],B)]
 | call {A B:T}:Sc (.tup [.str "call",A,B]) none [([],A),([],B)]
 | first {A B:T}:Sc (.tup [.str "first",A,B]) none [([],A),([],B)]
 | fun_ {x B:T}:Sc (.tup [.str "fun",x,B]) none [([x],B)]
 | let_ {B:T} {xs:List (T×T)} (h:xs.length<=1000):Sc (.tup [.str "let",.tup (xs.map λx=>.tup [x.1,x.2]),B]) none (xs.map (λx=>(xs.map (·.1),x.2))++[(xs.map (·.1),B)])
 | shape {c:T} {ps:List T} (h:ps.length<=1000):Sc (.tup [.str "shape",c,.tup ps]) none (ps.map λx=>([],x))
 | choose {E:T} {ys:List (T×List T×T)} (h:ys.length<=1000):Sc (.tup [.str "choose",E,.tup (ys.map λy=>.tup [y.1,.tup y.2.1,y.2.2])]) none (([],E)::ys.map (·.2))
 | other {w:Str} {Yc:List T} (h:w∉oA):Sc (.tup (.str w::Yc)) none []
def oC (s:List T×T):T:=.tup [.tup s.1,s.2]
section
variable {W:Nat->Calls}{ρ x_:Prop}{C:Hw}{Q:WK}{χ:WX}{n:Nat}
def Dp (R:Rp W ρ x_){B:T}{xs:List (T×T)}(h:xs.length<=1000)(q:∀p C',Ex C C'->C p=none->C' p=some (.lst ((xs.map (λx=>(xs.map (·.1),x.2))++[(xs.map (·.1),B)]).map oC))->Q (.ref p) C'):
  W (n+1) Cb [.tup (xs.map λx=>.tup [x.1,x.2]),B] C Q χ:=by
 refine R.o_let_scopes FQ ?_;unfold W1 Vm
 walk_at "ws"
 have o:(xs.map λx:T×T=>T.tup [x.1,x.2]).length<=sizeLine:=by rw[XI];exact V2 (by omega)
 refine V0 (λt=>match t with | .tup [a,_]=>a | _=>.non) trivial o (λx hx R c=>?_) λp s=>?_
 ·obtain⟨y,_,rfl⟩:=XR.mp hx
  walk_at "ws"
  exact c
 refine⟨_,Zf,?_⟩;have e:(xs.map λx:T×T=>T.tup [x.1,x.2]).map (λt=>match t with | .tup [a,_]=>a | _=>T.non)=xs.map (·.1):=by rw[YE];rfl
 rw[e];refine V0 (λt=>match t with | .tup [_,b]=>.tup [.tup (xs.map (·.1)),b] | _=>.non) trivial o (λx hx R c=>?_) λp2 d=>?_
 ·obtain⟨y,_,rfl⟩:=XR.mp hx
  walk_at "ws"
  exact c
 intro E f;obtain⟨G,u⟩:=qW d;obtain⟨g,i⟩:=qW f;obtain⟨v,e3⟩:=qW i;refine⟨_,by rw[Zk g.symm];exact Zf,_,Zf,?_,λw j=>?_⟩
 ·rw[XI,XI];exact V2 (by show xs.length+1<=100000;omega)
 ·obtain⟨z,l⟩:=qW j;obtain⟨A,m⟩:=qW l;obtain⟨D,r⟩:=qW m;refine q w _ ((((Ex.new s).up u).up e3).up r) r ?_;rw[Zf,XL,YE,YE];rfl
def Af (R:Rp W ρ x_){t:T}{e:Option Nat}{ss:List (List T×T)}(h:Sc t e ss)(q:∀p C',Ex C C'->C p=none->C' p=some (.lst (ss.map oC))->Q (.ref p) C'):W (n+2) uP [t] C Q χ:=by
 refine R.o_scopes FQ ?_;unfold Q2 Pn
 cases h with
 | does=>refine Ay FQ (Aw FQ FQ ?_);walk_at "ws";exact λp c=>q p _ (Ex.new c) c Zf
 | call=>refine Ay FQ (Q0 FQ (by decide+kernel) (uJ FQ (.inl FQ) ?_));walk_at "ws";exact λp c=>q p _ (Ex.new c) c Zf
 | first=>refine Ay FQ (Q0 FQ (by decide+kernel) (uJ FQ (.inr FQ) ?_));walk_at "ws";exact λp c=>q p _ (Ex.new c) c Zf
 | fun_=>refine Ay FQ (Q0 FQ (by decide+kernel) (Ax FQ (by decide+kernel) (by decide+kernel) (Aw FQ FQ ?_)));walk_at "ws";exact λp c=>q p _ (Ex.new c) c Zf
 | let_ h=>refine Ay FQ (Q0 FQ (by decide+kernel) (Ax FQ (by decide+kernel) (by decide+kernel) (Q0 FQ (by decide+kernel) (Aw FQ FQ ?_))));walk_at "ws";exact Dp R h q
 | shape h=>
  refine Ay FQ (Q0 FQ (by decide+kernel) (Ax FQ (by decide+kernel) (by decide+kernel) (Q0 FQ (by decide+kernel) (Q0 FQ (by decide+kernel) (Aw FQ FQ ?_)))))
  walk_at "ws"
  refine V0 (λt=>.tup [.tup [],t]) trivial (V2 (by omega)) (λx hx R d=>?_) λp c=>q p _ (Ex.new c) c ?_
  ·walk_at "ws"
   exact d
  ·rw[Zf,YE];rfl
 | @choose E ys h=>
  refine Ay FQ (Q0 FQ (by decide+kernel) (Ax FQ (by decide+kernel) (by decide+kernel) (Q0 FQ (by decide+kernel) (Q0 FQ (by decide+kernel) (Q0 FQ (by decide+kernel) (Aw FQ FQ ?_))))))
  walk_at "ws"
  intro p c;refine V0 (λt=>match t with | .tup [_,a,b]=>.tup [a,b] | _=>.non) trivial (by rw[XI];exact V2 (by omega)) (λx hx R d=>?_) λp2 f=>?_
  ·obtain⟨y,_,rfl⟩:=XR.mp hx
   walk_at "ws"
   exact d
  obtain⟨j,l⟩:=qW f;refine⟨_,by rw[Zk j.symm];exact Zf,_,Zf,?_,λm g=>?_⟩
  ·rw[XI,XI];exact V2 (by show 1+_<=_;omega)
  ·obtain⟨o,i⟩:=qW g;obtain⟨r,e3⟩:=qW i;refine q m _ (((Ex.new c).up l).up e3) e3 ?_;rw[Zf,YI,YE,YE];rfl
 | @other w Yc h=>
  have hw:∀s∈oA,w≠s:=λs hs z=>h (z▸hs);refine Ay FQ (Q0 FQ (hw "does" (by decide)) (Ax FQ (hw "call" (by decide)) (hw "first" (by decide)) (Q0 FQ (hw "fun" (by decide)) (Q0 FQ (hw "let" (by decide)) (Q0 FQ (hw "shape" (by decide)) (Q0 FQ (hw "choose" (by decide)) (Q0 FQ (hw "rows" (by decide)) ?_)))))))
  walk_at "ws"
  exact λp c=>q p _ (Ex.new c) c Zf
end
section
variable {W:Nat->Calls}{ρ x_:Prop}{C:Hw}{Q:WK}{χ:WX}{τ:Sw}
def Yb {p q:Prop}(h:p):if true=true then p else q:=h
def Zn {p q:Prop}(h:q):if false=true then p else q:=h
def N9 {p q:Prop}{b:Bool}(hb:b=true)(h:p):if b=true then p else q:=by rw[XY hb];exact h
def Ma {p q:Prop}{b:Bool}(hb:b=false)(h:q):if b=true then p else q:=by subst hb;exact h
def aR {a b:Str}{v:Bool}(h:(a==b)=v)(q:Q (.bl v) C):Ke false (.str a) (.str b) C Q:=by rw[Ut,XX (by decide),h];exact q
def aS {a b:Int}{v:Bool}(h:(a==b)=v)(q:Q (.bl v) C):Ke false (.int a) (.int b) C Q:=by rw[Kq,XX (by decide),h];exact q
def aH {a b:Int}{v:Bool}(h:(a==b)=v)(q:Q (.bl (!v)) C):Ke true (.int a) (.int b) C Q:=by rw[Kq,XY FQ,h];exact q
def Z3 {a b:Str}{v:Bool}(h:(a==b)=v)(q:Q (.bl v) C):eC (.str b) τ C (λy C2=>z0 (.str a) y C2 Q) χ:=aR h q
def Yt {a b:Int}{v:Bool}(h:(a==b)=v)(q:Q (.bl v) C):eC (.int b) τ C (λy C2=>z0 (.int a) y C2 Q) χ:=aS h q
def gR {a b:Int}{v:Bool}(h:(a==b)=v)(q:Q (.bl (!v)) C):eC (.int b) τ C (λy C2=>i7 (.int a) y C2 Q) χ:=aH h q
end
structure Sd where
 r:WP
 f:WP
 l:WP
abbrev nT (x:Nat):T:=.int (x:Int)
def jB:Option Fm->T
 | none=>.non
 | some (.f0 g)=>.tup [.str g]
 | some (.f1 g a)=>.tup [.str g,nT a]
 | some (.f2 g a b)=>.tup [.str g,nT a,nT b]
def sX:Fm->Bool
 | .f0 g=>g=="num"||g=="truth"
 | .f1 g _=>g=="list"
 | .f2 g _ _=>g=="pair"||g=="to"
def kG {f g:Fm}(h:sX f=true)(h':sX g=true)(e:f.tag=g.tag):f.ps.length=g.ps.length:=by
 cases f<;>cases g<;>simp only[sX,Fm.tag,Fm.ps,Bool.or_eq_true,beq_iff_eq,List.length_cons,List.length_nil] at h h' e |-<;>subst e
 ·subst h';exact absurd h (by decide)
 ·rcases h' with h' | h'<;>subst h'<;>exact absurd h (by decide)
 ·subst h;exact absurd h' (by decide)
 ·subst h;exact absurd h' (by decide)
 ·rcases h with h | h<;>subst h<;>exact absurd h' (by decide)
 ·subst h';exact absurd h (by decide)
def sG {f:Fm}(h:sX f=true):f.tag.length<=5:=by
 cases f<;>simp only[sX,Fm.tag,Bool.or_eq_true,beq_iff_eq] at h |-
 ·rcases h with h | h<;>subst h<;>decide
 ·subst h;decide
 ·rcases h with h | h<;>subst h<;>decide
def Zau (u:Us):Prop:=∀f,some f∈u.F->sX f=true
structure LR (rk:Nat->Nat)(L:List Nat)(u:Us):Prop where
 len:L.length=u.F.length
 st:∀x y,L[x]?=some y->y<L.length/\(y=x->u.rt x=x)/\(y≠x->rk y<rk x/\u.rt y=u.rt x)
abbrev sF (A:Sd):List (Str×T):=[("forms",.ref A.f),("leads",.ref A.l)]
structure Sk (rk:Nat->Nat)(L:List Nat)(A:Sd)(C:Hw)(u:Us):Prop where
 r:C A.r=some (.ins "Slots" (sF A))
 f:C A.f=some (.lst (u.F.map jB))
 l:C A.l=some (.lst (L.map nT))
 lr:LR rk L u
 ne:A.f≠A.l
 ar:Zau u
def Sl (A:Sd)(C:Hw)(u:Us):Prop:=∃rk L,Sk rk L A C u
def Fx (A:Sd)(C C':Hw):Prop:=∀b o,b≠A.f->b≠A.l->C b=some o->C' b=some o
def Fx.refl (A:Sd)(C:Hw):Fx A C C:=λ_ _ _ _ h=>h
def Fx.trans {A:Sd}{C C1 C2:Hw}(a:Fx A C C1)(b:Fx A C1 C2):Fx A C C2:=λc o n m h=>b c o n m (a c o n m h)
section
variable {W:Nat->Calls}{ρ x_:Prop}{rk:Nat->Nat}{L:List Nat}{A:Sd}{C C':Hw}{u:Us}{Q:WK}{χ:WX}{n x:Nat}{o:O}
def Sk.rf (S:Sk rk L A C u):A.r≠A.f:=λe=>by have h:=S.r;rw[e,S.f] at h;cases h
def Sk.rl (S:Sk rk L A C u):A.r≠A.l:=λe=>by have h:=S.r;rw[e,S.l] at h;cases h
def Fx.upl (h:Fx A C C'):Fx A C (up C' A.l o):=λb u n m e=>by rw[Zk m];exact h b u n m e
def Fx.upf (h:Fx A C C'):Fx A C (up C' A.f o):=λb u n m e=>by rw[Zk n];exact h b u n m e
def Fx.new {p:WP}(h:Fx A C C')(y:C p=none):Fx A C (up C' p o):=λb u n m e=>by
 rw[Zk λz=>by rw[z,y] at e;cases e];exact h b u n m e
def Sk.lead {D:List Nat}{y:Nat->Nat}{u':Us}(S:Sk rk L A C u)(h:LR y D u')(e:u'.F=u.F):Sk y D A (up C A.l (.lst (D.map nT))) u':=
 ⟨by rw[Zk S.rl];exact S.r,by rw[Zk S.ne,e];exact S.f,Zf,h,S.ne,λf a=>S.ar f (e▸a)⟩
def Sk.new {p:WP}(S:Sk rk L A C u)(y:C p=none):Sk rk L A (up C p o) u:=
 have k:∀{b:WP} {w:O},C b=some w->up C p o b=some w:=λ{b w} h=>by rw[Zk λz=>by rw[z,y] at h;cases h];exact h
 ⟨k S.r,k S.f,k S.l,S.lr,S.ne,S.ar⟩
def Sk.other {p:WP}(S:Sk rk L A C u)(h1:p≠A.r)(h2:p≠A.f)(y:p≠A.l):Sk rk L A (up C p o) u:=
 ⟨by rw[Zk h1.symm];exact S.r,by rw[Zk h2.symm];exact S.f,by rw[Zk y.symm];exact S.l,S.lr,S.ne,S.ar⟩
def Bs {xs:List Nat}{j y:Nat}(h:xs[j]?=some y):Nr (xs.map nT) (j:Int)=some (nT y):=X6 (by rw[XM,h];rfl)
def Dv {a b:Int}{v:Bool}(h:(a==b)=v)(q:Q (.bl (!v)) C):Ke true (.int a) (.int b) C Q:=by rw[Kq,XY FQ,h];exact q
def yh {m j:Nat}(h:j<m):uL m (j:Int)=some j:=by
 unfold uL;rw[XY (by omega),XY (by omega)];rfl
def Ub:(sF A).lookup ("leads":Str)=some (.ref A.l:T):=rfl
def Q9:(sF A).lookup ("forms":Str)=some (.ref A.f:T):=rfl
def qM {y z w:Nat}(h:LR rk L u)(h1:L[y]?=some z)(n:z≠y)(h2:L[z]?=some w):LR rk (L.set y w) u/\(L.set y w)[y]?=some w/\w<L.length/\rk w<rk y/\u.rt w=u.rt y/\w≠y:=by
 obtain⟨f,g,a⟩:=h.st y z h1;obtain⟨b1,b2,b⟩:=h.st z w h2;have hy:y<L.length:=(AZ.mp h1).1;have hw:rk w<rk y/\u.rt w=u.rt y:=by
  by_cases c:w=z
  ·rw[c];exact a n
  ·exact⟨Nat.lt_trans (b c).1 (a n).1,(b c).2.trans (a n).2⟩
 have d:w≠y:=λe=>by have:=hw.1;rw[e] at this;exact BH _ this
 refine⟨⟨by rw[BP];exact h.len,λx v e=>?_⟩,by rw[BN hy],b1,hw.1,hw.2,d⟩;rw[BP];by_cases c:y=x
 ·subst c;rw[BN hy] at e
  cases e
  exact⟨b1,λz=>absurd z d,λ_=>hw⟩
 ·rw[BW c] at e;exact h.st x v e
def Tf (R:Rp W ρ x_)(S:Sl A C u)(hx:x<u.F.length)(q:∀C',Sl A C' u->Fx A C C'->Q (nT (u.rt x)) C'):W (n+1) Hu [.ref A.r,nT x] C Q χ:=by
 obtain⟨rk,L,S⟩:=S;refine R.o_Slots_shared FQ ?_;unfold Xw X1;refine Pq (λm τ C'=>∃y b,τ=[some (.ref A.r),some (nT y)]/\y<u.F.length/\u.rt y=u.rt x/\rk y=m/\Sk rk b A C' u/\Fx A C C') (m:=rk x) ⟨x,L,FQ,hx,FQ,FQ,S,Fx.refl _ _⟩ ?_;rintro m τ C' N ⟨y,b,rfl,hy,d,rfl,a,f⟩ g;have j:=a.lr.len;obtain⟨z,hz⟩:∃z,b[y]?=some z:=⟨_,BD (by omega)⟩;refine⟨_,FQ,_,_,_,_,FQ,a.r,.head _,Ub,_,FQ,_,_,a.l,Bs hz,_,FQ,?_⟩;obtain⟨z1,z2,o⟩:=a.lr.st y z hz;by_cases c:z=y
 ·refine Dv (v:=true) (by rw[c];exact XU _) ⟨_,FQ,?_⟩;refine⟨_,FQ,?_⟩;rw[show y=u.rt x by rw[<-d];exact(z2 c).symm];exact q C' ⟨rk,b,a⟩ f
 ·refine Dv (v:=false) (Tm.mpr λe=>c (by omega)) ⟨_,FQ,?_⟩;obtain⟨w,hw⟩:∃w,b[z]?=some w:=⟨_,BD z1⟩;obtain⟨l1,l2,p,h,i,s⟩:=qM a.lr hz c hw;refine⟨_,FQ,_,_,_,_,FQ,a.r,.head _,Ub,_,FQ,_,_,_,_,FQ,a.r,.head _,Ub,_,FQ,_,_,a.l,Bs hz,_,_,a.l,Bs hw,?_⟩;refine⟨_,FQ,_,_,_,_,FQ,a.r,.head _,Ub,_,FQ,_,_,_,y,FQ,FQ,a.l,yh (by rw[XI];omega),?_⟩;have S2:=a.lead l1 FQ;have em:(b.map nT).set y (nT w)=(b.set y w).map nT:=List.map_set.symm;rw[em];refine⟨_,FQ,_,_,_,_,FQ,S2.r,.head _,Ub,_,FQ,_,_,S2.l,Bs l2,?_⟩;exact g (rk w) _ _ h ⟨w,b.set y w,FQ,by omega,i.trans d,FQ,S2,f.upl⟩
def M9 (R:Rp W ρ x_){f:Option Fm}(S:Sl A C u)(o:u.Ok)(hx:x<u.F.length)(c:u.F[u.rt x]?=some f)(q:∀C',Sl A C' u->Fx A C C'->Q (jB f) C'):W (n+2) Ki [.ref A.r,nT x] C Q χ:=by
 refine R.o_Slots_form_of FQ ?_;unfold Xg Xk;obtain⟨rk,L,a⟩:=id S;refine⟨_,FQ,_,_,_,_,FQ,a.r,.head _,Q9,_,FQ,_,_,_,_,FQ,a.r,FQ,FQ,_,FQ,?_⟩;dsimp only[Zv];refine Tf R (n:=n) S hx λC' b d=>?_;obtain⟨e,g,S1⟩:=id b;exact⟨_,_,S1.f,X6 (by rw[XM,c];rfl),q C' b d⟩
def yZ (R:Rp W ρ x_){f:Option Fm}(S:Sl A C u)(o:u.Ok)(hn:u.F.length<=90000)(ha:∀g,f=some g->sX g=true)(q:∀C',Sl A C' (u.add f)->Fx A C C'->Q (nT u.F.length) C'):W (n+1) Fa [.ref A.r,jB f] C Q χ:=by
 refine R.o_Slots_known FQ ?_;unfold Wa Wi;obtain⟨rk,L,S⟩:=S;refine⟨_,FQ,_,_,_,_,FQ,S.r,.head _,Q9,_,FQ,_,S.f,?_⟩;refine⟨_,FQ,_,_,_,_,FQ,S.r,.head _,Q9,⟨_,_,FQ,S.f⟩,_,FQ,_,_,_,FQ,FQ,S.f,Y4 (by rw[XI];omega),?_⟩;have a:up C A.f (.lst (u.F.map jB++[jB f])) A.r=some (.ins "Slots" (sF A)):=by rw[Zk S.rf];exact S.r
 have l1:up C A.f (.lst (u.F.map jB++[jB f])) A.l=some (.lst (L.map nT)):=by rw[Zk S.ne.symm];exact S.l
 refine⟨_,FQ,_,_,_,_,FQ,a,.head _,Ub,⟨_,_,FQ,l1⟩,_,FQ,_,_,_,FQ,FQ,l1,Y4 (by rw[XI,S.lr.len];omega),?_⟩;refine⟨_,FQ,?_⟩;have d:(((u.F.map jB).length:Nat):Int)=((u.F.length:Nat):Int):=by rw[XI]
 rw[d];refine q _ ⟨rk,L++[u.F.length],?_⟩ (((Fx.refl _ _).upf).upl);refine⟨by rw[Zk S.rl];exact a,?_,?_,⟨by show _=(u.F++[f]).length;rw[AY,AY,S.lr.len];rfl,λx y e=>?_⟩,S.ne,λg i=>?_⟩
 ·rw[Zk S.ne,Zf];show _=some (O.lst ((u.F++[f]).map jB));rw[XL];rfl
 ·rw[Zf,XL];rfl
 ·have j:=S.lr.len;rw[AY,BC];by_cases c:x<L.length
  ·rw[BM c] at e;obtain⟨h1,h2,b⟩:=S.lr.st x y e;have nx:x≠u.F.length:=by omega
   have m:y≠u.F.length:=by omega
   refine⟨by omega,λz=>?_,λz=>⟨(b z).1,?_⟩⟩
   ·show(if x=u.F.length then x else u.rt x)=x;rw[XX nx];exact h2 z
   ·show(if y=u.F.length then y else u.rt y)=(if x=u.F.length then x else u.rt x);rw[XX nx,XX m];exact(b z).2
  ·have hx:x=L.length:=by
    have:=(AZ.mp e).1;rw[AY,BC] at this;omega
   subst hx;rw[BJ (XE _),DT] at e;have e:u.F.length=y:=YH e;refine⟨by omega,λz=>?_,λz=>absurd (by omega) z⟩;show(if L.length=u.F.length then L.length else u.rt L.length)=L.length;rw[XY j]
 ·rcases XS.mp (show some g∈u.F++[f] from i) with h | h
  ·exact S.ar g h
  ·exact ha g (XQ.mp h).symm
def Fu (R:Rp W ρ x_)(S:Sl A C u)(o:u.Ok)(hn:u.F.length<=90000)(q:∀C',Sl A C' (u.add none)->Fx A C C'->Q (nT u.F.length) C'):W (n+2) Kh [.ref A.r] C Q χ:=by
 refine R.o_Slots_unknown FQ ?_;unfold Xf Xj;obtain⟨rk,L,a⟩:=id S;refine⟨_,FQ,_,_,_,_,FQ,a.r,FQ,FQ,?_⟩;dsimp only[Zv,Z1,eC];exact yZ R (n:=n) (f:=none) S o hn (λg h=>by cases h) q
end
section
variable {W:Nat->Calls}{ρ x_:Prop}{rk:Nat->Nat}{L:List Nat}{A:Sd}{C C':Hw}{u:Us}{Q:WK}{χ:WX}{n x a b:Nat}{o:O}
def jx (h:LR rk L u)(ha:u.rt a=a)(hb:u.rt b=b)(i:a<u.F.length)(j:b<u.F.length)(n:a≠b):∃f,LR f (L.set a b) (u.join a b):=by
 refine⟨λx=>if u.rt x=a then rk x+rk b+1 else rk x,⟨by rw[BP];exact h.len,λx y e=>?_⟩⟩;have m:=h.len;have d:∀z,(u.join a b).rt z=if u.rt z=a then b else u.rt z:=λ_=>rfl
 rw[BP];by_cases c:a=x
 ·subst c;rw[BN (by omega)] at e
  cases e
  refine⟨by omega,λz=>absurd z.symm n,λ_=>⟨?_,?_⟩⟩
  ·show(if u.rt b=a then rk b+rk b+1 else rk b)<(if u.rt a=a then rk a+rk b+1 else rk a);rw[XX (by rw[hb];exact n.symm),XY ha];omega
  ·rw[d,d,XX (by rw[hb];exact n.symm),XY ha,hb]
 ·rw[BW c] at e;obtain⟨h1,h2,g⟩:=h.st x y e;refine⟨h1,λz=>?_,λz=>⟨?_,?_⟩⟩
  ·have r:=h2 z;rw[d,XX (by rw[r];exact λw=>c w.symm),r]
  ·obtain⟨o,l⟩:=g z;show(if u.rt y=a then rk y+rk b+1 else rk y)<(if u.rt x=a then rk x+rk b+1 else rk x);rw[l]
   split<;>omega
  ·rw[d,d,(g z).2]
def u6 {a b:Str}{v:Bool}(h:(a==b)=v)(q:Q (.bl (!v)) C):Ke true (.str a) (.str b) C Q:=by rw[Ut,XY FQ,h];exact q
abbrev pT (p:Nat×Nat):T:=.tup [nT p.1,nT p.2]
def Cq {f:Fm}:jB (some f)=.tup (.str f.tag::f.ps.map nT):=by cases f<;>rfl
def Nh {x:T}{xs:List T}:Ep (x::xs) (some 1) none=xs:=by
 unfold Ep HT.sIx;simp
def yW {x:T}{xs:List T}:¬(HT.sIx (x::xs).length 0 (some 1)=0/\HT.sIx (x::xs).length (x::xs).length none=(x::xs).length):=by
 rintro⟨h,_⟩;unfold HT.sIx at h;simp at h
def dQ {f g:Fm}:gA (f.ps.map nT) (g.ps.map nT)=(B3 f g).map pT:=by
 unfold gA B3;rw[List.zip_map,YE];rfl
inductive Jn (u:Us)(a b:Nat):Us->List (Nat×Nat)->Prop
 | op:u.F[a]?=some none->Jn u a b (u.join a b) []
 | k0 {f:Fm}:u.F[a]?=some (some f)->u.F[b]?=some none->Jn u a b (u.join b a) []
 | k2 {f g:Fm}:u.F[a]?=some (some f)->u.F[b]?=some (some g)->f.tag=g.tag/\f.ps.length=g.ps.length->Jn u a b (u.join b a) (B3 f g)
def tj {y:Nat}{f:Option Fm}(h:u.F[y]?=some f):Nr (u.F.map jB) (y:Int)=some (jB f):=X6 (by rw[XM,h];rfl)
def Jd {m:Nat}(h:m<=100000):m<=sizeLine:=XN h (by decide)
def zN (R:Rp W ρ x_)(S:Sl A C u)(ha:u.rt a=a)(hb:u.rt b=b)(o:a<u.F.length)(s:b<u.F.length)(ne:a≠b)
  (y:∀f g:Fm,u.F[a]?=some (some f)->u.F[b]?=some (some g)->f.tag=g.tag\/ρ)
  (q:∀C' p u' ps,Sl A C' u'->Fx A C C'->C p=none->C' p=some (.lst (ps.map pT))->Jn u a b u' ps->Q (.ref p) C'):W (n+2) Lf [.ref A.r,nT a,nT b] C Q χ:=by
 refine R.o_Slots_join_two FQ ?_;unfold J1 J6;obtain⟨rk,L,S⟩:=S;have U:=S.lr.len;obtain⟨G,d⟩:∃f,u.F[a]?=some f:=⟨_,BD o⟩;obtain⟨H,h⟩:∃f,u.F[b]?=some f:=⟨_,BD s⟩;refine⟨_,FQ,_,_,_,_,FQ,S.r,.head _,Q9,_,FQ,_,_,S.f,tj d,?_⟩;refine⟨_,FQ,_,_,_,_,FQ,S.r,.head _,Q9,_,FQ,_,_,S.f,tj h,?_⟩;have nil:∀{C1:Hw} {u':Us},Sl A C1 u'->Fx A C C1->Jn u a b u' []->(∀p,C1 p=none->C p=none)->(([]:List T).length<=sizeLine/\∀p,C1 p=none->Q (.ref p) (up C1 p (.lst []))):=λ{C1 u'} S1 I j hn=>by
  obtain⟨B,N,S1⟩:=S1;exact⟨by decide,λp i=>q _ p _ [] ⟨B,N,S1.new i⟩ (λc w m1 m2 e=>by rw[Zk λz=>by rw[z,hn p i] at e;cases e];exact I c w m1 m2 e) (hn p i) Zf j⟩
 have D:∀{E:List Nat} (p:WP),up C A.l (.lst (E.map nT)) p=none->C p=none:=λ{E} p i=>by
  by_cases c:p=A.l
  ·rw[c,Zf] at i;cases i
  ·rw[Zk c] at i;exact i
 cases G with
 | none=>
  refine⟨_,FQ,FQ,true,FQ,?_⟩;obtain⟨m,lr⟩:=jx S.lr ha hb o s ne;have em:(L.map nT).set a (nT b)=(L.set a b).map nT:=List.map_set.symm;refine⟨_,FQ,_,FQ,_,_,_,_,FQ,S.r,.head _,Ub,_,FQ,_,_,_,a,FQ,FQ,S.l,yh (by rw[XI];omega),?_⟩;rw[em];exact nil ⟨m,_,S.lead lr FQ⟩ (Fx.refl _ _).upl (.op d) D
 | some f=>
  rw[Cq];refine⟨_,FQ,FQ,false,FQ,?_⟩;obtain⟨m,lr⟩:=jx S.lr hb ha s o ne.symm;have em:(L.map nT).set b (nT a)=(L.set b a).map nT:=List.map_set.symm;refine⟨_,FQ,_,FQ,_,_,_,_,FQ,S.r,.head _,Ub,_,FQ,_,_,_,b,FQ,FQ,S.l,yh (by rw[XI];omega),?_⟩;rw[em];have S1:=S.lead lr FQ
  cases H with
  | none=>
   refine⟨_,FQ,FQ,true,FQ,?_⟩;exact nil ⟨m,_,S1⟩ (Fx.refl _ _).upl (.k0 d h) D
  | some g=>
   rw[Cq];refine⟨_,FQ,FQ,false,FQ,?_⟩;have x:f.tag=g.tag->f.ps.length=g.ps.length:=kG (S.ar f (BE d)) (S.ar g (BE h));by_cases t:f.tag=g.tag
   rotate_left
   ·have l1:=sG (S.ar f (BE d));have l2:=sG (S.ar g (BE h));refine⟨_,FQ,_,Yj,_,FQ,_,Yj,u6 (v:=false) (Tm.mpr t) ⟨_,FQ,Yb ?_⟩⟩;have s1:(Str.ofString "a ").length=2:=by decide
    have s2:(Str.ofString " is not alike to a ").length=19:=by decide
    refine⟨_,FQ,_,Yj,Jd (by omega),Jd (by rw[DF];omega),_,FQ,_,Yj,Jd (by rw[DF,DF];omega),ZNB FQ,?_⟩;exact R.o_raise_NoKind ((y f g d h).resolve_left t)
   have x:=x t;refine⟨_,FQ,_,Yj,_,FQ,_,Yj,u6 (v:=true) (by rw[t];exact XU _) ⟨_,FQ,?_⟩⟩;refine⟨_,FQ,_,FQ,yW,_,FQ,_,FQ,yW,_,_,FQ,?_,?_,λp i=>?_⟩
   ·rw[Nh,Nh,XI,XI];exact x
   ·rw[Nh,List.length_map];cases f<;>simp[Fm.ps]
   ·rw[Nh,Nh,dQ];have hn:=D p i;exact q _ p _ _ ⟨m,_,S1.new i⟩ (λc w m1 m2 e=>by rw[Zk λz=>by rw[z,hn] at e;cases e];exact(Fx.refl A C).upl c w m1 m2 e) hn Zf (.k2 d h ⟨t,x⟩)
end
end K25
namespace Fn
inductive Tr where
 | num (v:Int) | nm (x:Str) | stop (x:Str)
 | does (o:Str) (a b:Tr) | fn (x:Str) (b:Tr) | call (a b:Tr) | first (a b:Tr)
 | lt (n:Nat) (xs:Fin n->Str) (ts:Fin n->Tr) (b:Tr)
 | sh0 (c:Str) | sh2 (c:Str) (a b:Tr)
 | chT (a n y:Tr) | chL (a n:Tr) (x y:Str) (c:Tr) | chP (a:Tr) (x y:Str) (b:Tr)
def tt:Tr->T
 | .num v=>.tup [.str "number",.int v]
 | .nm x=>.tup [.str "name",.str x]
 | .stop x=>.tup [.str "stop",.str x]
 | .does o a b=>.tup [.str "does",.str o,tt a,tt b]
 | .fn x b=>.tup [.str "fun",.str x,tt b]
 | .call a b=>.tup [.str "call",tt a,tt b]
 | .first a b=>.tup [.str "first",tt a,tt b]
 | .lt n xs ts b=>.tup [.str "let",.tup ((List.finRange n).map λi=>.tup [.str (xs i),tt (ts i)]),tt b]
 | .sh0 c=>.tup [.str "shape",.str c,.tup []]
 | .sh2 c a b=>.tup [.str "shape",.str c,.tup [tt a,tt b]]
 | .chT a n y=>.tup [.str "choose",tt a,.tup [.tup [.str "No",.tup [],tt n],.tup [.str "Yes",.tup [],tt y]]]
 | .chL a n x y c=>.tup [.str "choose",tt a,.tup [.tup [.str "Nil",.tup [],tt n],.tup [.str "Cons",.tup [.str x,.str y],tt c]]]
 | .chP a x y b=>.tup [.str "choose",tt a,.tup [.tup [.str "Pair",.tup [.str x,.str y],tt b]]]
def bnd {α:Type}(xs:List Str)(ks:List α)(G:Str->Option α):Str->Option α:=λx=>match (xs.zip ks).reverse.lookup x with | some k=>some k | none=>G x
def pG {α c:Type}{f:α->c}{xs:List Str}{ks:List α}{G:Str->Option α}:bnd xs (ks.map f) (λx=>(G x).map f)=λx=>(bnd xs ks G x).map f:=by
 funext x
 unfold bnd;have e:(xs.zip (ks.map f)).reverse=((xs.zip ks).reverse).map λp=>(p.1,f p.2):=by
  rw[List.zip_map_right,DW];rfl
 have l:∀l:List (Str×α),(l.map λp=>(p.1,f p.2)).lookup x=(l.lookup x).map f:=by
  intro l
  induction l with
  | nil=>rfl
  | cons p l d=>
   obtain⟨a,b⟩:=p;simp only[List.map_cons,List.lookup_cons]
   cases x==a
   ·exact d
   ·rfl
 rw[e,l]
 cases (xs.zip ks).reverse.lookup x<;>rfl
abbrev Ev:=Str->Option Kd
abbrev Wc:Kd:=.k0 "num"
abbrev N8:Kd:=.k0 "truth"
abbrev Tz (p:Kd):Kd:=.k1 "list" p
abbrev B4 (p q:Kd):Kd:=.k2 "pair" p q
abbrev xP (p q:Kd):Kd:=.k2 "to" p q
def xE (o:Str):Str:=if o="<"\/o="=" then "truth" else "num"
abbrev Rm {n:Nat}(xs:Fin n->Str):List Str:=(List.finRange n).map xs
inductive Jx:Tr->Ev->Kd->List (Ev×Tr×Kd)->Prop
 | num {v G}:Jx (.num v) G Wc []
 | nm {x G k}:G x=some k->Jx (.nm x) G k []
 | stop {w G k}:Jx (.stop w) G k []
 | does {o a b G}:Jx (.does o a b) G (.k0 (xE o)) [(G,a,Wc),(G,b,Wc)]
 | fn {x b G p r}:Jx (.fn x b) G (xP p r) [(bnd [x] [p] G,b,r)]
 | call {a b G k p}:Jx (.call a b) G k [(G,a,xP p k),(G,b,p)]
 | first {a b G k p}:Jx (.first a b) G k [(G,a,p),(G,b,k)]
 | lt {n xs ts b G k} {ks:Fin n->Kd}:Jx (.lt n xs ts b) G k (((List.finRange n).map λi=>(bnd (Rm xs) ((List.finRange n).map ks) G,ts i,ks i))++[(bnd (Rm xs) ((List.finRange n).map ks) G,b,k)])
 | nil {G p}:Jx (.sh0 "Nil") G (Tz p) []
 | no {G}:Jx (.sh0 "No") G N8 []
 | yes {G}:Jx (.sh0 "Yes") G N8 []
 | cons {a b G p}:Jx (.sh2 "Cons" a b) G (Tz p) [(G,a,p),(G,b,Tz p)]
 | pair {a b G p q}:Jx (.sh2 "Pair" a b) G (B4 p q) [(G,a,p),(G,b,q)]
 | chT {a n y G k}:Jx (.chT a n y) G k [(G,a,N8),(G,n,k),(G,y,k)]
 | chL {a n x y c G k p}:Jx (.chL a n x y c) G k [(G,a,Tz p),(G,n,k),(bnd [x,y] [p,Tz p] G,c,k)]
 | chP {a x y b G k p q}:Jx (.chP a x y b) G k [(G,a,B4 p q),(bnd [x,y] [p,q] G,b,k)]
mutual
inductive HT:Ev->Tr->Kd->List Kd->Prop
 | mk {G t k cs rs}:Jx t G k cs->HTs cs rs->HT G t k (k::rs)
inductive HTs:List (Ev×Tr×Kd)->List Kd->Prop
 | nil:HTs [] []
 | cons {G t k r cs rs}:HT G t k r->HTs cs rs->HTs ((G,t,k)::cs) (r++rs)
end
def HTs.app:∀{cs ds:List (Ev×Tr×Kd)} {r s:List Kd},HTs cs r->HTs ds s->HTs (cs++ds) (r++s)
 | [],_,_,_,h,q=>by cases h;exact q
 | _::_,_,_,_,h,q=>by
  cases h with
  | cons a b=>rw[YL];exact .cons a (HTs.app b q)
def HTs.split:∀{cs ds:List (Ev×Tr×Kd)} {r:List Kd},HTs (cs++ds) r->∃a b,r=a++b/\HTs cs a/\HTs ds b
 | [],_,r,h=>⟨[],r,FQ,.nil,h⟩
 | _::_,_,_,h=>by
  cases h with
  | cons a b=>
   obtain⟨x,y,rfl,h1,h2⟩:=HTs.split b;exact⟨_,y,(YL ..).symm,.cons a h1,h2⟩
def HTs.take {G:Ev}{t:Tr}{k:Kd}{ds:List (Ev×Tr×Kd)}{r:List Kd}(h:HTs ((G,t,k)::ds) r):∃cs r',Jx t G k cs/\r=k::r'/\HTs (cs++ds) r':=by
 cases h with
 | cons a b=>
  cases a with
  | mk x y=>exact⟨_,_,x,FQ,y.app b⟩
def HTs.give {G:Ev}{t:Tr}{k:Kd}{cs ds:List (Ev×Tr×Kd)}{r:List Kd}(x:Jx t G k cs)(h:HTs (cs++ds) r):HTs ((G,t,k)::ds) (k::r):=by
 obtain⟨a,b,rfl,h1,h2⟩:=h.split;exact .cons (.mk x h1) h2
abbrev Pl:=(Str->Option Nat)×Tr×Nat
def Pl.ev (σ:Nat->Kd)(p:Pl):Ev×Tr×Kd:=(λx=>(p.1 x).map σ,p.2.1,σ p.2.2)
def kQ (n:Nat)(p:Pl):Prop:=p.2.2<n/\∀x i,p.1 x=some i->i<n
def gB {σ y_:Nat->Kd}{n:Nat}{p:Pl}(h:kQ n p)(e:∀i,i<n->σ i=y_ i):Pl.ev σ p=Pl.ev y_ p:=by
 unfold Pl.ev;rw[e _ h.1];congr 1
 funext x
 cases q:p.1 x with
 | none=>rfl
 | some i=>show some (σ i)=some (y_ i);rw[e i (h.2 x i q)]
def Tr.bg:Tr->Nat
 | .lt n _ _ _=>n
 | _=>3
structure sK (u:Us)(p:Pl)(u':Us)(ps:List Pl):Prop where
 o:u'.Ok
 c:Up u' []
 le:u.F.length<=u'.F.length
 big:u'.F.length<=u.F.length+p.2.1.bg
 ok:∀z∈ps,kQ u'.F.length z
 co:∀σ cs,Wv u σ->Jx p.2.1 (Pl.ev σ p).1 (σ p.2.2) cs->∃y_,(∀i,i<u.F.length->y_ i=σ i)/\Wv u' y_/\ps.map (Pl.ev y_)=cs
 so:∀σ,Wv u' σ->Wv u σ/\Jx p.2.1 (Pl.ev σ p).1 (σ p.2.2) (ps.map (Pl.ev σ))
def Tr.scs:Tr->List (List Str×Tr)
 | .does _ a b=>[([],a),([],b)]
 | .fn x b=>[([x],b)]
 | .call a b=>[([],a),([],b)]
 | .first a b=>[([],a),([],b)]
 | .lt _ xs ts b=>((List.finRange _).map λi=>(Rm xs,ts i))++[(Rm xs,b)]
 | .sh2 _ a b=>[([],a),([],b)]
 | .chT a n y=>[([],a),([],n),([],y)]
 | .chL a n x y c=>[([],a),([],n),([x,y],c)]
 | .chP a x y b=>[([],a),([x,y],b)]
 | _=>[]
abbrev As:=List (List Nat×Nat)
def Av (t:Tr)(as:As)(σ:Nat->Kd)(G:Ev):List (Ev×Tr×Kd):=(t.scs.zip as).map λz=>(bnd z.1.1 (z.2.1.map σ) G,z.1.2,σ z.2.2)
structure Nt (u u':Us)(P:(Nat->Kd)->Prop):Prop where
 o:u'.Ok
 c:Up u' []
 le:u.F.length<=u'.F.length
 sol:∀σ,Wv u' σ↔(Wv u σ/\P σ)
structure Xl (u:Us)(t:Tr)(s:Nat)(u':Us)(as:As):Prop where
 o:u'.Ok
 c:Up u' []
 le:u.F.length<=u'.F.length
 big:u'.F.length<=u.F.length+t.bg
 n:as.map (λz=>z.1.length)=t.scs.map (λz=>z.1.length)
 ok:∀z∈as,z.2<u'.F.length/\∀i∈z.1,i<u'.F.length
 co:∀σ G cs,Wv u σ->Jx t G (σ s) cs->∃y_,(∀i,i<u.F.length->y_ i=σ i)/\Wv u' y_/\Av t as y_ G=cs
 so:∀σ G,Wv u' σ->Wv u σ/\Jx t G (σ s) (Av t as σ G)
def ov (n:Nat)(σ:Nat->Kd)(ν:Nat->Kd):Nat->Kd:=λi=>if i<n then σ i else ν (i-n)
section
variable {u u1 u2:Us}{P:(Nat->Kd)->Prop}{σ y_ ν:Nat->Kd}{s n:Nat}{f:Fm}{t:Tr}{as:As}
def Wb {i:Nat}(h:i<n):ov n σ ν i=σ i:=XY h
def Vq:ov n σ ν n=ν 0:=by unfold ov;rw[XX (BH _),DT]
def Ui {k:Nat}:ov n σ ν (n+k)=ν k:=by unfold ov;rw[XX (by omega)];congr 1;omega
def Uz (o:u.Ok)(h:Wv u σ)(e:∀i,i<u.F.length->y_ i=σ i):Wv u y_:=by
 refine⟨λx hx=>by rw[e x hx,e _ (o.lt x hx)];exact h.1 x hx,λx f hx=>?_⟩;rw[e x (AZ.mp hx).1,h.2 x f hx];exact(Me λp a=>e p (o.ps x f hx p a)).symm
def Nt.refl (o:u.Ok)(c:Up u []):Nt u u λ_=>True:=⟨o,c,XE _,λσ=>⟨λh=>⟨h,trivial⟩,λh=>h.1⟩⟩
def Nt.new (e:Nt u u1 P):Nt u (u1.add none) P:=
 ⟨Um e.o (λg h=>by cases h),Uw e.o e.c,by rw[Zy];exact EM e.le,λσ=>by
  rw[V8 e.o,e.sol];exact⟨λh=>h.1,λh=>⟨h,λg z=>by cases z⟩⟩⟩
def Nt.known (e:Nt u u1 P)(y:∀p∈f.ps,p<u1.F.length):Nt u (u1.add (some f)) λσ=>P σ/\σ u1.F.length=f.ev σ:=
 ⟨Um e.o (λg h=>by cases h;exact y),Uw e.o e.c,by rw[Zy];exact EM e.le,λσ=>by
  rw[V8 e.o,e.sol,and_assoc];exact⟨λh=>⟨h.1,h.2.1,h.2.2 f FQ⟩,λh=>⟨h.1,h.2.1,λg z=>by cases z;exact h.2.2⟩⟩⟩
structure Ak (u:Us)(s:Nat)(f:Fm)(u2:Us):Prop where
 o:u2.Ok
 c:Up u2 []
 F:u2.F=u.F++[some f]
 sol:∀σ,Wv u2 σ↔(Wv u σ/\σ u.F.length=f.ev σ/\σ s=σ u.F.length)
def Ak.len (a:Ak u s f u2):u2.F.length=u.F.length+1:=by rw[a.F,AY];rfl
def Nt.ak (e:Nt u u1 P)(a:Ak u1 s f u2):Nt u u2 λσ=>P σ/\σ u1.F.length=f.ev σ/\σ s=σ u1.F.length:=
 ⟨a.o,a.c,by rw[a.len];exact EM e.le,λσ=>by rw[a.sol,e.sol,and_assoc]⟩
def Vh {u':Us}{B:Nat}(a:B<=t.bg)(e:Nt u u' P)(o:u.Ok)(big:u'.F.length<=u.F.length+B)(n:as.map (λz=>z.1.length)=t.scs.map (λz=>z.1.length))(ok:∀z∈as,z.2<u'.F.length/\∀i∈z.1,i<u'.F.length)
  (co:∀σ G cs,Jx t G (σ s) cs->∃ν,P (ov u.F.length σ ν)/\Av t as (ov u.F.length σ ν) G=cs) (so:∀σ G,P σ->Jx t G (σ s) (Av t as σ G)):Xl u t s u' as:=
 ⟨e.o,e.c,e.le,XN big (Nat.add_le_add_left a _),n,ok,λσ G cs h r=>by
  obtain⟨ν,h1,h2⟩:=co σ G cs r;exact⟨_,λi hi=>Wb hi,(e.sol _).mpr ⟨Uz o h λi hi=>Wb hi,h1⟩,h2⟩,λσ G h=>by
  obtain⟨h1,h2⟩:=(e.sol σ).mp h;exact⟨h1,so σ G h2⟩⟩
def J0 {α:Type}{ks:List α}{G:Str->Option α}:bnd [] ks G=G:=by funext x;rfl
variable {v:Int}{x y w oo:Str}{a b c d:Tr}
def pN (o:u.Ok)(hs:s<u.F.length)(k:Ak u s (.f0 "num") u2)(cl:Up u []):Xl u (.num v) s u2 []:=by
 refine Vh (B:=3) (XE 3) ((Nt.refl o cl).ak k) o (by rw[k.len];omega) FQ (λz h=>by cases h) (λσ G cs r=>?_) λσ G h=>?_
 ·generalize hk:σ s=kk at r
  cases r
  exact⟨λ_=>Wc,⟨trivial,by rw[Vq];rfl,by rw[Wb hs,Vq,hk]⟩,FQ⟩
 ·rw[h.2.2,h.2.1];exact .num
def sA (o:u.Ok)(cl:Up u []):Xl u (.stop w) s u []:=by
 refine Vh (B:=3) (XE 3) (Nt.refl o cl) o (by omega) FQ (λz h=>by cases h) (λσ G cs r=>?_) λσ G h=>.stop;generalize hk:σ s=kk at r
 cases r
 exact⟨λ_=>Wc,trivial,FQ⟩
def wu {a:Str}(hc:a="No"\/a="Yes")(o:u.Ok)(hs:s<u.F.length)(k:Ak u s (.f0 "truth") u2)(cl:Up u []):Xl u (.sh0 a) s u2 []:=by
 refine Vh (B:=3) (XE 3) ((Nt.refl o cl).ak k) o (by rw[k.len];omega) FQ (λz h=>by cases h) (λσ G cs r=>?_) λσ G h=>?_
 ·generalize hk:σ s=kk at r;have e:kk=N8/\cs=[]:=by
   rcases hc with rfl | rfl
   ·cases r with
    | no=>exact⟨FQ,FQ⟩
   ·cases r with
    | yes=>exact⟨FQ,FQ⟩
  obtain⟨rfl,rfl⟩:=e;exact⟨λ_=>N8,⟨trivial,by rw[Vq];rfl,by rw[Wb hs,Vq,hk]⟩,FQ⟩
 ·rw[h.2.2,h.2.1]
  rcases hc with rfl | rfl
  ·exact .no
  ·exact .yes
def sC (o:u.Ok)(hs:s<u.F.length)(k:Ak u s (.f0 (xE oo)) u1)(cl:Up u []):Xl u (.does oo a b) s (u1.add (some (.f0 "num"))) [([],u1.F.length),([],u1.F.length)]:=by
 have c:=k.len;refine Vh (B:=3) (XE 3) (((Nt.refl o cl).ak k).known (f:=.f0 "num") (λp h=>by cases h)) o (by rw[Zy];omega) FQ ?_ (λσ G cs r=>?_) λσ G h=>?_
 ·intro z hz;rw[Zy];simp only[ZM,ZN,or_false] at hz
  rcases hz with rfl | rfl<;>exact⟨BI _,λi h=>by cases h⟩
 ·generalize hk:σ s=kk at r
  cases r
  refine⟨λi=>if i=0 then .k0 (xE oo) else Wc,⟨⟨trivial,by rw[Vq];rfl,by rw[Wb hs,Vq,hk];rfl⟩,by rw[c,Ui];rfl⟩,?_⟩;show[(bnd [] _ G,a,_),(bnd [] _ G,b,_)]=_;simp only[J0];rw[c,Ui];rfl
 ·rw[h.1.2.2,h.1.2.1];show Jx _ _ _ [(bnd [] _ G,a,_),(bnd [] _ G,b,_)];simp only[J0];rw[h.2];exact .does
def wx (o:u.Ok)(hs:s<u.F.length)(cl:Up u []):Xl u (.first a b) s (u.add none) [([],u.F.length),([],s)]:=by
 refine Vh (B:=3) (XE 3) (Nt.refl o cl).new o (by rw[Zy];omega) FQ ?_ (λσ G cs r=>?_) λσ G h=>?_
 ·intro z hz;rw[Zy];simp only[ZM,ZN,or_false] at hz
  rcases hz with rfl | rfl
  ·exact⟨BI _,λi h=>by cases h⟩
  ·exact⟨by show s<_;omega,λi h=>by cases h⟩
 ·generalize hk:σ s=kk at r
  cases r with
  | @first _ _ _ _ p=>
   refine⟨λ_=>p,trivial,?_⟩;show[(bnd [] _ G,a,_),(bnd [] _ G,b,_)]=_;simp only[J0];rw[Vq,Wb hs,hk]
 ·show Jx _ _ _ [(bnd [] _ G,a,_),(bnd [] _ G,b,_)];simp only[J0];exact .first
def sE (o:u.Ok)(hs:s<u.F.length)(cl:Up u []):Xl u (.call a b) s ((u.add none).add (some (.f2 "to" u.F.length s))) [([],u.F.length+1),([],u.F.length)]:=by
 have l1:(u.add none).F.length=u.F.length+1:=Zy;refine Vh (B:=3) (Nat.le_refl 3) ((Nt.refl o cl).new.known (f:=.f2 "to" u.F.length s) (λp h=>by simp only[Fm.ps,List.mem_cons,List.not_mem_nil,or_false] at h;rcases h with rfl | rfl<;>omega)) o (by rw[Zy,l1];omega) FQ ?_ (λσ G cs r=>?_) λσ G h=>?_
 ·intro z hz;rw[Zy,l1];simp only[ZM,ZN,or_false] at hz
  rcases hz with rfl | rfl
  ·exact⟨by show u.F.length+1<_;omega,λi h=>by cases h⟩
  ·exact⟨by show u.F.length<_;omega,λi h=>by cases h⟩
 ·generalize hk:σ s=kk at r
  cases r with
  | @call _ _ _ _ p=>
   refine⟨λi=>if i=0 then p else xP p kk,⟨trivial,?_⟩,?_⟩
   ·rw[l1,Ui];show xP p kk=.k2 "to" (ov _ _ _ _) (ov _ _ _ s);rw[Vq,Wb hs,hk];rfl
   ·show[(bnd [] _ G,a,_),(bnd [] _ G,b,_)]=_;simp only[J0];rw[Vq,Ui];rfl
 ·show Jx _ _ _ [(bnd [] _ G,a,σ (u.F.length+1)),(bnd [] _ G,b,_)];have e:=h.2;rw[l1] at e;simp only[J0];rw[e];exact .call
def kF (o:u.Ok)(hs:s<u.F.length)(cl:Up u [])(k:Ak ((u.add none).add none) s (.f2 "to" u.F.length (u.F.length+1)) u2):Xl u (.fn x b) s u2 [([u.F.length],u.F.length+1)]:=by
 have l1:(u.add none).F.length=u.F.length+1:=Zy;have l2:((u.add none).add none).F.length=u.F.length+2:=by rw[Zy,l1]
 have c:=k.len;refine Vh (B:=3) (XE 3) ((Nt.refl o cl).new.new.ak k) o (by omega) FQ ?_ (λσ G cs r=>?_) λσ G h=>?_
 ·intro z hz;rw[c,l2,XQ.mp hz];exact⟨by show u.F.length+1<_;omega,λi h=>by rw[XQ.mp h];omega⟩
 ·generalize hk:σ s=kk at r
  cases r with
  | @fn _ _ _ p a=>
   refine⟨λi=>if i=0 then p else if i=1 then a else xP p a,⟨trivial,?_,?_⟩,?_⟩
   ·rw[l2,Ui];show xP p a=.k2 "to" (ov _ _ _ _) (ov _ _ _ _);rw[Vq,Ui];rfl
   ·rw[l2,Ui,Wb hs,hk];rfl
   ·show[(bnd [x] [ov _ _ _ _] G,b,ov _ _ _ _)]=_;rw[Vq,Ui];rfl
 ·rw[h.2.2,h.2.1];exact .fn
def pO (o:u.Ok)(hs:s<u.F.length)(cl:Up u [])(k:Ak (u.add none) s (.f1 "list" u.F.length) u2):Xl u (.sh0 "Nil") s u2 []:=by
 have l1:(u.add none).F.length=u.F.length+1:=Zy;have a:=k.len;refine Vh (B:=3) (XE 3) ((Nt.refl o cl).new.ak k) o (by omega) FQ (λz h=>by cases h) (λσ G cs r=>?_) λσ G h=>?_
 ·generalize hk:σ s=kk at r
  cases r with
  | @nil _ p=>
   refine⟨λi=>if i=0 then p else Tz p,⟨trivial,?_,?_⟩,FQ⟩
   ·rw[l1,Ui];show Tz p=.k1 "list" (ov _ _ _ _);rw[Vq];rfl
   ·rw[l1,Ui,Wb hs,hk];rfl
 ·rw[h.2.2,h.2.1];exact .nil
def sD (o:u.Ok)(hs:s<u.F.length)(cl:Up u [])(k:Ak (u.add none) s (.f1 "list" u.F.length) u2):Xl u (.sh2 "Cons" a b) s u2 [([],u.F.length),([],s)]:=by
 have l1:(u.add none).F.length=u.F.length+1:=Zy;have c:=k.len;refine Vh (B:=3) (XE 3) ((Nt.refl o cl).new.ak k) o (by omega) FQ ?_ (λσ G cs r=>?_) λσ G h=>?_
 ·intro z hz;rw[c,l1];simp only[ZM,ZN,or_false] at hz
  rcases hz with rfl | rfl
  ·exact⟨by show u.F.length<_;omega,λi h=>by cases h⟩
  ·exact⟨by show s<_;omega,λi h=>by cases h⟩
 ·generalize hk:σ s=kk at r
  cases r with
  | @cons _ _ _ p=>
   refine⟨λi=>if i=0 then p else Tz p,⟨trivial,?_,?_⟩,?_⟩
   ·rw[l1,Ui];show Tz p=.k1 "list" (ov _ _ _ _);rw[Vq];rfl
   ·rw[l1,Ui,Wb hs,hk];rfl
   ·show[(bnd [] _ G,a,_),(bnd [] _ G,b,_)]=_;simp only[J0];rw[Vq,Wb hs,hk];rfl
 ·show Jx _ _ _ [(bnd [] _ G,a,_),(bnd [] _ G,b,_)];simp only[J0];rw[h.2.2,h.2.1];exact .cons
def sB (o:u.Ok)(hs:s<u.F.length)(cl:Up u [])(k:Ak ((u.add none).add none) s (.f2 "pair" u.F.length (u.F.length+1)) u2):Xl u (.sh2 "Pair" a b) s u2 [([],u.F.length),([],u.F.length+1)]:=by
 have l1:(u.add none).F.length=u.F.length+1:=Zy;have l2:((u.add none).add none).F.length=u.F.length+2:=by rw[Zy,l1]
 have c:=k.len;refine Vh (B:=3) (XE 3) ((Nt.refl o cl).new.new.ak k) o (by omega) FQ ?_ (λσ G cs r=>?_) λσ G h=>?_
 ·intro z hz;rw[c,l2];simp only[ZM,ZN,or_false] at hz
  rcases hz with rfl | rfl
  ·exact⟨by show u.F.length<_;omega,λi h=>by cases h⟩
  ·exact⟨by show u.F.length+1<_;omega,λi h=>by cases h⟩
 ·generalize hk:σ s=kk at r
  cases r with
  | @pair _ _ _ p q=>
   refine⟨λi=>if i=0 then p else if i=1 then q else B4 p q,⟨trivial,?_,?_⟩,?_⟩
   ·rw[l2,Ui];show B4 p q=.k2 "pair" (ov _ _ _ _) (ov _ _ _ _);rw[Vq,Ui];rfl
   ·rw[l2,Ui,Wb hs,hk];rfl
   ·show[(bnd [] _ G,a,_),(bnd [] _ G,b,_)]=_;simp only[J0];rw[Vq,Ui];rfl
 ·show Jx _ _ _ [(bnd [] _ G,a,_),(bnd [] _ G,b,_)];simp only[J0];rw[h.2.2,h.2.1];exact .pair
def pP (o:u.Ok)(hs:s<u.F.length)(cl:Up u []):Xl u (.chT a b c) s (u.add (some (.f0 "truth"))) [([],u.F.length),([],s),([],s)]:=by
 refine Vh (B:=3) (XE 3) ((Nt.refl o cl).known (f:=.f0 "truth") (λp h=>by cases h)) o (by rw[Zy];omega) FQ ?_ (λσ G cs r=>?_) λσ G h=>?_
 ·intro z hz;rw[Zy];simp only[ZM,ZN,or_false] at hz
  rcases hz with rfl | rfl | rfl
  ·exact⟨by show u.F.length<_;omega,λi h=>by cases h⟩
  ·exact⟨by show s<_;omega,λi h=>by cases h⟩
  ·exact⟨by show s<_;omega,λi h=>by cases h⟩
 ·generalize hk:σ s=kk at r
  cases r
  refine⟨λ_=>N8,⟨trivial,by rw[Vq];rfl⟩,?_⟩;show[(bnd [] _ G,a,_),(bnd [] _ G,b,_),(bnd [] _ G,c,_)]=_;simp only[J0];rw[Vq,Wb hs,hk]
 ·show Jx _ _ _ [(bnd [] _ G,a,_),(bnd [] _ G,b,_),(bnd [] _ G,c,_)];simp only[J0];rw[h.2];exact .chT
def pR (o:u.Ok)(hs:s<u.F.length)(cl:Up u []):Xl u (.chL a b x y c) s ((u.add none).add (some (.f1 "list" u.F.length))) [([],u.F.length+1),([],s),([u.F.length,u.F.length+1],s)]:=by
 have l1:(u.add none).F.length=u.F.length+1:=Zy;refine Vh (B:=3) (XE 3) ((Nt.refl o cl).new.known (f:=.f1 "list" u.F.length) (λp h=>by rw[XQ.mp h];omega)) o (by rw[Zy,l1];omega) FQ ?_ (λσ G cs r=>?_) λσ G h=>?_
 ·intro z hz;rw[Zy,l1];simp only[ZM,ZN,or_false] at hz
  rcases hz with rfl | rfl | rfl
  ·exact⟨by show u.F.length+1<_;omega,λi h=>by cases h⟩
  ·exact⟨by show s<_;omega,λi h=>by cases h⟩
  ·exact⟨by show s<_;omega,λi h=>by simp only[ZM,ZN,or_false] at h;omega⟩
 ·generalize hk:σ s=kk at r
  cases r with
  | @chL _ _ _ _ _ _ _ p=>
   refine⟨λi=>if i=0 then p else Tz p,⟨trivial,?_⟩,?_⟩
   ·rw[l1,Ui];show Tz p=.k1 "list" (ov _ _ _ _);rw[Vq];rfl
   ·show[(bnd [] _ G,a,_),(bnd [] _ G,b,_),(bnd [x,y] [ov _ _ _ _,ov _ _ _ _] G,c,_)]=_;simp only[J0];rw[Vq,Ui,Wb hs,hk];rfl
 ·show Jx _ _ _ [(bnd [] _ G,a,σ (u.F.length+1)),(bnd [] _ G,b,_),(bnd [x,y] [σ u.F.length,σ (u.F.length+1)] G,c,_)];have e:=h.2;rw[l1] at e;simp only[J0];rw[e];exact .chL
def pQ (o:u.Ok)(hs:s<u.F.length)(cl:Up u []):Xl u (.chP a x y b) s (((u.add none).add none).add (some (.f2 "pair" u.F.length (u.F.length+1)))) [([],u.F.length+2),([u.F.length,u.F.length+1],s)]:=by
 have l1:(u.add none).F.length=u.F.length+1:=Zy;have l2:((u.add none).add none).F.length=u.F.length+2:=by rw[Zy,l1]
 refine Vh (B:=3) (Nat.le_refl 3) ((Nt.refl o cl).new.new.known (f:=.f2 "pair" u.F.length (u.F.length+1)) (λp h=>by simp only[Fm.ps,List.mem_cons,List.not_mem_nil,or_false] at h;omega)) o (by rw[Zy,l2];omega) FQ ?_ (λσ G cs r=>?_) λσ G h=>?_
 ·intro z hz;rw[Zy,l2];simp only[ZM,ZN,or_false] at hz
  rcases hz with rfl | rfl
  ·exact⟨by show u.F.length+2<_;omega,λi h=>by cases h⟩
  ·exact⟨by show s<_;omega,λi h=>by simp only[ZM,ZN,or_false] at h;omega⟩
 ·generalize hk:σ s=kk at r
  cases r with
  | @chP _ _ _ _ _ _ p q=>
   refine⟨λi=>if i=0 then p else if i=1 then q else B4 p q,⟨trivial,?_⟩,?_⟩
   ·rw[l2,Ui];show B4 p q=.k2 "pair" (ov _ _ _ _) (ov _ _ _ _);rw[Vq,Ui];rfl
   ·show[(bnd [] _ G,a,_),(bnd [x,y] [ov _ _ _ _,ov _ _ _ _] G,b,_)]=_;simp only[J0];rw[Vq,Ui,Ui,Wb hs,hk];rfl
 ·show Jx _ _ _ [(bnd [] _ G,a,σ (u.F.length+2)),(bnd [x,y] [σ u.F.length,σ (u.F.length+1)] G,b,_)];have e:=h.2;rw[l2] at e;simp only[J0];rw[e];exact .chP
def Us.addN (u:Us):Nat->Us
 | 0=>u
 | n+1=>(u.addN n).add none
def Tp:∀n,(u.addN n).F.length=u.F.length+n
 | 0=>rfl
 | n+1=>by show((u.addN n).add none).F.length=_;rw[Zy,Tp n];omega
def Nt.newN (e:Nt u u1 P):∀n,Nt u (u1.addN n) P
 | 0=>e
 | n+1=>(Nt.newN e n).new
abbrev Tg (u:Us)(n:Nat):List Nat:=(List.finRange n).map λi=>u.F.length+i.val
def j1 {m:Nat}{xs:Fin m->Str}{ts:Fin m->Tr}{G:Ev}:Av (.lt m xs ts b) (((Tg u m).map λo=>(Tg u m,o))++[(Tg u m,s)]) σ G=
  ((List.finRange m).map λi=>(bnd (Rm xs) ((List.finRange m).map λi=>σ (u.F.length+i.val)) G,ts i,σ (u.F.length+i.val)))++[(bnd (Rm xs) ((List.finRange m).map λi=>σ (u.F.length+i.val)) G,b,σ s)]:=by
 have e:(Tg u m).map σ=(List.finRange m).map λi=>σ (u.F.length+i.val):=by rw[YE];rfl
 unfold Av Tr.scs;rw[List.zip_append (by rw[XI,XI,XI]),XL,YE,List.zip_map',YE,<-e];rfl
def kE {m:Nat}{xs:Fin m->Str}{ts:Fin m->Tr}(hm:m<=10)(o:u.Ok)(hs:s<u.F.length)(cl:Up u []):Xl u (.lt m xs ts b) s (u.addN m) (((Tg u m).map λo=>(Tg u m,o))++[(Tg u m,s)]):=by
 have lo:∀i∈Tg u m,i<(u.addN m).F.length:=λi hi=>by
  obtain⟨j,_,rfl⟩:=XR.mp hi;rw[Tp];have:=j.isLt;omega
 refine Vh (B:=m) (Nat.le_refl m) ((Nt.refl o cl).newN m) o (by rw[Tp];omega) (by simp[Tr.scs,Function.comp_def]) ?_ (λσ G cs r=>?_) λσ G h=>?_
 ·intro z hz
  rcases XS.mp hz with hz | hz
  ·obtain⟨i,hi,rfl⟩:=XR.mp hz;exact⟨lo i hi,lo⟩
  ·rw[XQ.mp hz];exact⟨by show s<_;rw[Tp];omega,lo⟩
 ·generalize hk:σ s=kk at r
  cases r with
  | @lt _ _ _ _ _ _ ks=>
   refine⟨λi=>if h:i<m then ks ⟨i,h⟩ else Wc,trivial,?_⟩;rw[j1,Wb hs,hk];have e:∀i:Fin m,ov u.F.length σ (λi=>if h:i<m then ks ⟨i,h⟩ else Wc) (u.F.length+i.val)=ks i:=λi=>by
    rw[Ui,dif_pos i.isLt]
   simp only[e]
 ·rw[j1];exact .lt (ks:=λi=>σ (u.F.length+i.val))
end
def Tr.size:Tr->Nat
 | .num _=>1
 | .nm _=>1
 | .stop _=>1
 | .sh0 _=>1
 | .does _ a b=>1+(a.size+b.size)
 | .fn _ b=>1+b.size
 | .call a b=>1+(a.size+b.size)
 | .first a b=>1+(a.size+b.size)
 | .lt n _ ts b=>1+(((List.finRange n).map λi=>(ts i).size).sum+b.size)
 | .sh2 _ a b=>1+(a.size+b.size)
 | .chT a b c=>1+(a.size+(b.size+c.size))
 | .chL a b _ _ c=>1+(a.size+(b.size+c.size))
 | .chP a _ _ b=>1+(a.size+b.size)
def Tr.lok:Tr->Prop
 | .num _=>True
 | .nm _=>True
 | .stop _=>True
 | .sh0 _=>True
 | .does _ a b=>a.lok/\b.lok
 | .fn _ b=>b.lok
 | .call a b=>a.lok/\b.lok
 | .first a b=>a.lok/\b.lok
 | .lt n _ ts b=>n<=10/\(∀i,(ts i).lok)/\b.lok
 | .sh2 _ a b=>a.lok/\b.lok
 | .chT a b c=>a.lok/\b.lok/\c.lok
 | .chL a b _ _ c=>a.lok/\b.lok/\c.lok
 | .chP a _ _ b=>a.lok/\b.lok
def Ad (t:Tr):(t.scs.map λz=>z.2.size).sum+1=t.size:=by
 cases t with
 | lt n xs ts b=>
  show((((List.finRange n).map λi=>(Rm xs,ts i))++[(Rm xs,b)]).map λz=>z.2.size).sum+1=1+(((List.finRange n).map λi=>(ts i).size).sum+b.size);rw[XL,YE,EY];simp only[List.map_cons,List.map_nil,List.sum_cons,List.sum_nil,Nat.add_zero];have:((λz:List Str×Tr=>z.2.size)∘λi=>(Rm xs,ts i))=λi=>(ts i).size:=rfl;rw[this];omega
 | _=>simp[Tr.scs,Tr.size]<;>omega
def Dw {t:Tr}(h:t.lok):(∀m xs ts b,t=.lt m xs ts b->m<=10)/\∀z∈t.scs,z.2.lok:=by
 cases t with
 | lt n xs ts b=>
  refine⟨λm d ts' f e=>(by cases e;exact h.1),λz hz=>?_⟩
  rcases XS.mp hz with hz | hz
  ·obtain⟨i,_,rfl⟩:=XR.mp hz;exact h.2.1 i
  ·rw[XQ.mp hz];exact h.2.2
 | num=>exact⟨λm d ts' f e=>(by cases e),λz hz=>(by cases hz)⟩
 | nm=>exact⟨λm d ts' f e=>(by cases e),λz hz=>(by cases hz)⟩
 | stop=>exact⟨λm d ts' f e=>(by cases e),λz hz=>(by cases hz)⟩
 | sh0=>exact⟨λm d ts' f e=>(by cases e),λz hz=>(by cases hz)⟩
 | fn=>exact⟨λm d ts' f e=>(by cases e),λz hz=>(by rw[XQ.mp hz];exact h)⟩
 | does o a b=>exact⟨λm d ts' f e=>(by cases e),λz hz=>(by simp only[Tr.scs,List.mem_cons,List.not_mem_nil,or_false] at hz;rcases hz with rfl | rfl;exact h.1;exact h.2)⟩
 | call a b=>exact⟨λm d ts' f e=>(by cases e),λz hz=>(by simp only[Tr.scs,List.mem_cons,List.not_mem_nil,or_false] at hz;rcases hz with rfl | rfl;exact h.1;exact h.2)⟩
 | first a b=>exact⟨λm d ts' f e=>(by cases e),λz hz=>(by simp only[Tr.scs,List.mem_cons,List.not_mem_nil,or_false] at hz;rcases hz with rfl | rfl;exact h.1;exact h.2)⟩
 | sh2 o a b=>exact⟨λm d ts' f e=>(by cases e),λz hz=>(by simp only[Tr.scs,List.mem_cons,List.not_mem_nil,or_false] at hz;rcases hz with rfl | rfl;exact h.1;exact h.2)⟩
 | chP a x y b=>exact⟨λm d ts' f e=>(by cases e),λz hz=>(by simp only[Tr.scs,List.mem_cons,List.not_mem_nil,or_false] at hz;rcases hz with rfl | rfl;exact h.1;exact h.2)⟩
 | chT a b c=>exact⟨λm d ts' f e=>(by cases e),λz hz=>(by simp only[Tr.scs,List.mem_cons,List.not_mem_nil,or_false] at hz;rcases hz with rfl | rfl | rfl;exact h.1;exact h.2.1;exact h.2.2)⟩
 | chL a b x y c=>exact⟨λm d ts' f e=>(by cases e),λz hz=>(by simp only[Tr.scs,List.mem_cons,List.not_mem_nil,or_false] at hz;rcases hz with rfl | rfl | rfl;exact h.1;exact h.2.1;exact h.2.2)⟩
def Tr.cost:Tr->Nat
 | .num _=>3
 | .nm _=>3
 | .stop _=>3
 | .sh0 _=>3
 | .does _ a b=>3+(a.cost+b.cost)
 | .fn _ b=>3+b.cost
 | .call a b=>3+(a.cost+b.cost)
 | .first a b=>3+(a.cost+b.cost)
 | .lt n _ ts b=>n+(((List.finRange n).map λi=>(ts i).cost).sum+b.cost)
 | .sh2 _ a b=>3+(a.cost+b.cost)
 | .chT a b c=>3+(a.cost+(b.cost+c.cost))
 | .chL a b _ _ c=>3+(a.cost+(b.cost+c.cost))
 | .chP a _ _ b=>3+(a.cost+b.cost)
def tX (t:Tr):(t.scs.map λz=>z.2.cost).sum+t.bg=t.cost:=by
 cases t with
 | lt n xs ts b=>
  show((((List.finRange n).map λi=>(Rm xs,ts i))++[(Rm xs,b)]).map λz=>z.2.cost).sum+n=n+(((List.finRange n).map λi=>(ts i).cost).sum+b.cost);rw[XL,YE,EY];simp only[List.map_cons,List.map_nil,List.sum_cons,List.sum_nil,Nat.add_zero];have:((λz:List Str×Tr=>z.2.cost)∘λi=>(Rm xs,ts i))=λi=>(ts i).cost:=rfl;rw[this];omega
 | _=>simp[Tr.scs,Tr.cost,Tr.bg]<;>omega
def eK (ps:List Pl):Nat:=(ps.map λp=>p.2.1.cost).sum
def rW (ps:List Pl):Nat:=(ps.map λp=>p.2.1.size).sum
def G0:Ev:=λ_=>none
structure Kn (t:Tr)(u:Us)(p_:List Nat)(ps:List Pl):Prop where
 o:u.Ok
 c:Up u []
 len:1<=u.F.length/\u.F.length+eK ps<=1+t.cost
 sz:p_.length+rW ps=t.size
 rl:∀i∈p_,i<u.F.length
 pk:∀p∈ps,kQ u.F.length p/\p.2.1.lok
 co:∀k R,HT G0 t k R->∃σ R',Wv u σ/\R=p_.map σ++R'/\HTs (ps.map (Pl.ev σ)) R'
 so:∀σ R',Wv u σ->HTs (ps.map (Pl.ev σ)) R'->∃k,HT G0 t k (p_.map σ++R')
def Kn.step {t:Tr}{u u':Us}{p_:List Nat}{p:Pl}{ps qs:List Pl}(K:Kn t u p_ (p::ps))(s:sK u p u' qs)(hq:qs.map (λz=>z.2.1)=p.2.1.scs.map (λz=>z.2)):Kn t u' (p_++[p.2.2]) (qs++ps) where
 o:=s.o
 c:=s.c
 len:=⟨XN K.len.1 s.le,by
  have h1:=K.len.2;have h2:=tX p.2.1;have d:=s.big;have e:eK qs=(p.2.1.scs.map λz=>z.2.cost).sum:=by
   unfold eK;have:=congrArg (λl:List Tr=>(l.map Tr.cost).sum) hq;simp only[List.map_map] at this;exact this
  unfold eK at h1 e |-;rw[XL,EY,e];rw[YI,FJ] at h1;omega⟩
 sz:=by
  have h1:=K.sz;have h2:=Ad p.2.1;have e:rW qs=(p.2.1.scs.map λz=>z.2.size).sum:=by
   unfold rW;have:=congrArg (λl:List Tr=>(l.map Tr.size).sum) hq;simp only[List.map_map] at this;exact this
  unfold rW at h1 e |-;rw[AY,XL,EY,e];rw[YI,FJ] at h1;simp only[List.length_singleton];omega
 rl:=λi hi=>by
  rcases XS.mp hi with hi | hi
  ·exact XG (K.rl i hi) s.le
  ·rw[XQ.mp hi];exact XG (K.pk p (BA ..)).1.1 s.le
 pk:=λz hz=>by
  rcases XS.mp hz with hz | hz
  ·refine⟨s.ok z hz,?_⟩;have:z.2.1∈p.2.1.scs.map (λz=>z.2):=by rw[<-hq];exact XR.mpr ⟨z,hz,FQ⟩
   obtain⟨y,hy,e⟩:=XR.mp this;rw[<-e];exact(Dw (K.pk p (BA ..)).2).2 y hy
  ·obtain⟨h1,h2⟩:=K.pk z (XV _ hz);exact⟨⟨XG h1.1 s.le,λx i e=>XG (h1.2 x i e) s.le⟩,h2⟩
 co:=λk R h=>by
  obtain⟨σ,R',h1,h2,d⟩:=K.co k R h;obtain⟨cs,r',f,rfl,g⟩:=d.take;obtain⟨y_,a,b,c⟩:=s.co σ cs h1 f;have ep:∀z∈ps,Pl.ev σ z=Pl.ev y_ z:=λz hz=>gB (K.pk z (XV _ hz)).1 λi hi=>(a i hi).symm;refine⟨y_,r',b,?_,?_⟩
  ·rw[h2,XL,YL];have j:p_.map σ=p_.map y_:=CA λi hi=>(a i (K.rl i hi)).symm;rw[j];show _=_++(y_ p.2.2::r');rw[a _ (K.pk p (BA ..)).1.1]
  ·rw[XL,c,<-CA ep];exact g
 so:=λσ R' h1 h2=>by
  obtain⟨a,b⟩:=s.so σ h1;rw[XL] at h2;have d:=h2.give b;obtain⟨k,m⟩:=K.so σ (σ p.2.2::R') a d;exact⟨k,by rw[XL,YL];exact m⟩
def Kn.start {t:Tr}(h:t.lok)(rt:Nat->Nat)(y:rt 0=0):Kn t ⟨rt,[none]⟩ [] [(λ_=>none,t,0)] where
 o:=⟨λx hx=>(by have hx:x<1:=hx;rw[show x=0 by omega];show rt 0<1;rw[y];decide),λx hx=>(by have hx:x<1:=hx;rw[show x=0 by omega];show rt (rt 0)=rt 0;rw[y,y]),λx f hx=>by
  have hx:([none]:List (Option Fm))[x]?=some (some f):=hx
  cases x with
  | zero=>cases hx
  | succ x=>simp at hx⟩
 c:=λx f hx=>by
  have hx:([none]:List (Option Fm))[x]?=some (some f):=hx
  cases x with
  | zero=>cases hx
  | succ x=>simp at hx
 len:=⟨XE _,by show 1+(t.cost+0)<=1+t.cost;omega⟩
 sz:=by show 0+(t.size+0)=_;omega
 rl:=λi hi=>by cases hi
 pk:=λp d=>by rw[XQ.mp d];exact⟨⟨BI 0,λx i e=>by cases e⟩,h⟩
 co:=λk R h=>by
  refine⟨λ_=>k,R,⟨λx hx=>rfl,λx f hx=>?_⟩,FQ,?_⟩
  ·have hx:([none]:List (Option Fm))[x]?=some (some f):=hx
   cases x with
   | zero=>cases hx
   | succ x=>simp at hx
  ·have:HTs [(G0,t,k)] (R++[]):=.cons h .nil;rw[YK] at this;exact this
 so:=λσ R' h1 h2=>by
  have h2:HTs [(G0,t,σ 0)] R':=h2
  cases h2 with
  | cons a b=>
   cases b
   rw[YK];exact⟨_,a⟩
def Mo (u u':Us):Prop:=∀x y,x<u.F.length->y<u.F.length->u.rt x=u.rt y->u'.rt x=u'.rt y
inductive Ka (u:Us)(R:List Nat):Nat->Prop
 | row {i:Nat}:i∈R->Ka u R i
 | eq {i j:Nat}:Ka u R i->j<u.F.length->u.rt i=u.rt j->Ka u R j
 | part {i p:Nat} {f:Fm}:Ka u R i->u.F[i]?=some (some f)->p∈f.ps->Ka u R p
structure Rx (u:Us)(s:Nat)(u':Us)(ss:List Nat):Prop where
 mo:Mo u u'
 ex:∃X,u'.F=u.F++X
 rc:∀x,u.F.length<=x->x<u'.F.length->Ka u' (s::ss) x
section
variable {u u' u1 u2:Us}{s:Nat}{ss R R':List Nat}{o o1 o2 o3:Option Fm}
def Mo.refl:Mo u u:=λ_ _ _ _ h=>h
def Mo.trans (a:Mo u u1)(b:Mo u1 u2)(l:u.F.length<=u1.F.length):Mo u u2:=λx y h1 h2 h=>b x y (XG h1 l) (XG h2 l) (a x y h1 h2 h)
def Mo.add (a:Mo u u1)(l:u.F.length<=u1.F.length):Mo u (u1.add o):=λx y h1 h2 h=>by
 show(if x=u1.F.length then x else u1.rt x)=(if y=u1.F.length then y else u1.rt y);rw[XX (by omega),XX (by omega)];exact a x y h1 h2 h
def Mo.addN (n:Nat):Mo u (u.addN n):=by
 induction n with
 | zero=>exact Mo.refl
 | succ n a=>exact a.add (by rw[Tp];omega)
def Oa {p q x y:Nat}(h:u.rt x=u.rt y):(u.join p q).rt x=(u.join p q).rt y:=by
 show(if u.rt x=p then q else u.rt x)=(if u.rt y=p then q else u.rt y);rw[h]
def D4 {x y:Nat}(ne:u.rt x≠u.rt y):(u.join (u.rt x) (u.rt y)).rt x=(u.join (u.rt x) (u.rt y)).rt y:=by
 show(if u.rt x=u.rt x then u.rt y else u.rt x)=(if u.rt y=u.rt x then u.rt y else u.rt y);rw[XY FQ,XX (Ne.symm ne)]
def Ka.more {x:Nat}(h:Ka u R x)(k:∀i∈R,Ka u R' i):Ka u R' x:=by
 induction h with
 | row h=>exact k _ h
 | eq _ h2 a b=>exact .eq b h2 a
 | part _ h2 a b=>exact .part b h2 a
def Ka.lift {x:Nat}(h:Ka u R x)(o:u.Ok)(y:∀i∈R,i<u.F.length)(mo:Mo u u')(ex:∃X,u'.F=u.F++X):Ka u' R x/\x<u.F.length:=by
 obtain⟨X,c⟩:=ex
 induction h with
 | row h=>exact⟨.row h,y _ h⟩
 | eq _ h2 b a=>exact⟨.eq a.1 (by rw[c,AY];omega) (mo _ _ a.2 h2 b),h2⟩
 | @part i p f _ h2 b a=>exact⟨.part a.1 (by rw[c,BM a.2];exact h2) b,o.ps i f h2 p b⟩
def at1 (e:u'.F=u.F++o1::o::X):u'.F[u.F.length+1]?=some o:=by rw[e,BJ (by omega),Nat.add_sub_cancel_left];rfl
def cM (e:u'.F=u.F++o1::o2::o::X):u'.F[u.F.length+2]?=some o:=by rw[e,BJ (by omega),Nat.add_sub_cancel_left];rfl
def bE (mo:Mo u u')(e:u'.F=u.F):Rx u s u' ss:=⟨mo,⟨[],by rw[e,YK]⟩,λx h1 h2=>by rw[e] at h2;omega⟩
def eI (mo:Mo u u')(e:u'.F=u.F++[o])(h:Ka u' (s::ss) u.F.length):Rx u s u' ss:=⟨mo,⟨_,e⟩,λx h1 h2=>by
 rw[e,AY,BC] at h2;have:x=u.F.length:=by omega
 subst this;exact h⟩
def gp (mo:Mo u u')(e:u'.F=u.F++[o,o1])(h:Ka u' (s::ss) u.F.length)(h':Ka u' (s::ss) (u.F.length+1)):Rx u s u' ss:=⟨mo,⟨_,e⟩,λx h1 h2=>by
 rw[e,AY] at h2;have h2:x<u.F.length+2:=h2;have:x=u.F.length\/x=u.F.length+1:=by omega
 rcases this with rfl | rfl
 ·exact h
 ·exact h'⟩
def dG (mo:Mo u u')(e:u'.F=u.F++[o,o1,o2])(h:Ka u' (s::ss) u.F.length)(h':Ka u' (s::ss) (u.F.length+1))(h2:Ka u' (s::ss) (u.F.length+2)):Rx u s u' ss:=⟨mo,⟨_,e⟩,λx h1 a=>by
 rw[e,AY] at a;have a:x<u.F.length+3:=a;have:x=u.F.length\/x=u.F.length+1\/x=u.F.length+2:=by omega
 rcases this with rfl | rfl | rfl
 ·exact h
 ·exact h'
 ·exact h2⟩
end
end Fn
namespace K25
section
variable {W:Nat->Calls}{ρ x_:Prop}{rk:Nat->Nat}{L:List Nat}{A:Sd}{C C':Hw}{u:Us}{Q:WK}{χ:WX}{n x a b:Nat}{o:O}{σ z_:Nat->Kd}
def jL {pl a:List (Nat×Nat)}(h:∀x∈pl,x∈a)(q:Up u pl):Up u a:=λx f hx=>by
 obtain⟨g,h1,h2⟩:=q x f hx;exact⟨g,h1,h2.imp λc d e=>e.mono (λ_ _ z=>.rt z) λc d m=>.pr (h _ m)⟩
def t0:Qf [] []=true:=by unfold Qf;rfl
def xV {x:T}{xs:List T}:Qf (x::xs) []=false:=by unfold Qf;rfl
def Od {k:Nat}:Y2 [] k=true:=by unfold Y2;rfl
def Hc {p p':WP}{xs:List T}(h1:C p=some (.lst xs))(h2:C p'=some (.lst []))(q:Q (.bl (!xs.isEmpty)) C):Ke true (.ref p) (.ref p') C Q:=by
 refine⟨xs,[],h1,h2,λe=>?_,?_⟩
 ·have:xs=[]:=EK.mp e;subst this;exact⟨Od,Od⟩
 ·rw[XY rfl]
  cases xs with
  | nil=>rw[t0];exact q
  | cons x xs=>rw[xV];exact q
structure Zal (A:Sd)(C:Hw)(u:Us)(a b:Nat)(p:Addr)(C':Hw)(u':Us)(pl:List (Nat×Nat)):Prop where
 s:Sl A C' u'
 f:Fx A C C'
 p:C' p=some (.lst (pl.map pT))
 o:u'.Ok
 c:Up u' pl
 F:u'.F=u.F
 lt:∀z∈pl,z.1<u.F.length/\z.2<u.F.length
 sol:∀σ,(Wv u' σ/\∀z∈pl,σ z.1=σ z.2)↔(Wv u σ/\σ a=σ b)
 m:3*u'.cnt+pl.length<=3*u.cnt+1
 mo:Mo u u'
 jn:u'.rt a=u'.rt b\/(a,b)∈pl
def kr:u.cnt<=u.F.length:=by
 unfold Us.cnt;exact XN (List.length_filter_le _ _) (by rw[List.length_range];exact XE _)
def jd {f g:Fm}:(B3 f g).length<=2:=by
 unfold B3;rw[CM]
 cases f<;>simp[Fm.ps]<;>omega
def N2 (R:Rp W ρ x_)(S:Sl A C u)(o:u.Ok)(cl:Up u [])(ha:a<u.F.length)(hb:b<u.F.length)(hw:(¬∃z_,Wv u z_/\z_ a=z_ b)->ρ)(hn:u.F.length<=9000)
  (q:∀C' u',Sl A C' u'->Fx A C C'->u'.Ok->Up u' []->u'.F=u.F->(∀σ,Wv u' σ↔Wv u σ/\σ a=σ b)->Mo u u'->u'.rt a=u'.rt b->Q .non C'):W (n+3) Nd [.ref A.r,nT a,nT b] C Q χ:=by
 refine R.o_Slots_make_alike FQ ?_;unfold Jf Jk;refine⟨_,FQ,_,FQ,ZNB FQ,ZNB FQ,λp E=>?_⟩;have cn:=kr (u:=u);have G_:(100000:Nat)<=sizeLine:=by decide
 have C_:∀{C1:Hw} {u1:Us},Sl A C u1->p≠A.r/\p≠A.f/\p≠A.l:=λ{C1 u1} h=>by
  obtain⟨_,_,h⟩:=h;exact⟨λe=>(by rw[e,h.r] at E;cases E),λe=>(by rw[e,h.f] at E;cases E),λe=>(by rw[e,h.l] at E;cases E)⟩
 obtain⟨o_,i,t⟩:=C_ (C1:=C) S;refine Pq (λm τ C'=>∃v4 v5 v6 u' pl,τ=[some (.ref A.r),some (nT a),some (nT b),some (.ref p),v4,v5,v6]/\Zal A C u a b p C' u' pl/\m=3*u'.cnt+pl.length) (m:=3*u.cnt+1)
  ⟨none,none,none,u,[(a,b)],FQ,⟨?_,?_,?_,o,jL (λ_ h=>by cases h) cl,FQ,?_,?_,XE _,Mo.refl,.inr (XQ.mpr FQ)⟩,FQ⟩ ?_
 ·obtain⟨rk,L,S⟩:=S;exact⟨rk,L,S.new E⟩
 ·exact(Fx.refl _ _).new E
 ·exact Zf
 ·intro z hz;rw[XQ.mp hz];exact⟨ha,hb⟩
 ·intro σ;exact⟨λh=>⟨h.1,h.2 _ (XQ.mpr FQ)⟩,λh=>⟨h.1,λz hz=>by rw[XQ.mp hz];exact h.2⟩⟩
 rintro m τ C1 N ⟨v4,v5,v6,u1,pl,rfl,M,rfl⟩ hN;refine⟨_,FQ,ZNB FQ,λp' Y=>?_⟩;have pp:p≠p':=λe=>by have:=M.p;rw[e,Y] at this;cases this
 have G:up C1 p' (.lst []) p=some (.lst (pl.map pT)):=by rw[Zk pp];exact M.p
 refine Hc G Zf ⟨_,FQ,?_⟩;have F2:Fx A C (up C1 p' (.lst [])):=λc w m1 m2 e=>by
  have h:=M.f c w m1 m2 e;rw[Zk λz=>by rw[z,Y] at h;cases h];exact h
 obtain⟨H,L1,S1⟩:=M.s;have S2:Sk H L1 A (up C1 p' (.lst [])) u1:=S1.new Y
 rcases List.eq_nil_or_concat pl with rfl | ⟨pl,z,rfl⟩
 ·refine Zn ?_;exact q _ u1 ⟨H,L1,S2⟩ F2 M.o M.c M.F (λσ=>by
   have h:=M.sol σ;exact⟨λk=>h.mp ⟨k,λz hz=>nomatch hz⟩,λk=>(h.mpr k).1⟩) M.mo (M.jn.resolve_right λh=>nomatch h)
 ·rw[List.concat_eq_append] at*;have ne:(!((pl++[z]).map pT).isEmpty)=true:=by simp
  rw[ne];refine Yb ?_;generalize HP:up C1 p' (.lst [])=C2 at G F2 S2;have last:((pl++[z]).map pT)[((pl++[z]).map pT).length-1]?=some (pT z):=by simp
  have dl:((pl++[z]).map pT).dropLast=pl.map pT:=by simp
  refine⟨_,FQ,⟨_,_,FQ,G⟩,_,_,_,FQ,FQ,G,last,?_⟩;rw[dl];have S3:Sk H L1 A (up C2 p (.lst (pl.map pT))) u1:=S2.other o_ i t;have F3:Fx A C (up C2 p (.lst (pl.map pT))):=λc w m1 m2 e=>by rw[Zk λz=>by rw[z,E] at e;cases e];exact F2 c w m1 m2 e
  have P3:up C2 p (.lst (pl.map pT)) p=some (.lst (pl.map pT)):=Zf;generalize up C2 p (.lst (pl.map pT))=C3 at S3 F3 P3;have hz:=M.lt z (by simp);have lF:u1.F.length=u.F.length:=by rw[M.F]
  refine⟨_,FQ,_,_,_,_,FQ,S3.r,FQ,FQ,_,FQ,_,Yj,?_⟩;dsimp only[Zv];refine Tf R (n:=n+1) ⟨H,L1,S3⟩ (by omega) λC4 S4 F4=>?_;obtain⟨DO,L4,S4⟩:=S4;have P4:C4 p=some (.lst (pl.map pT)):=F4 _ _ i t P3;refine⟨_,FQ,_,_,_,_,FQ,S4.r,FQ,FQ,_,FQ,_,Xu,?_⟩;dsimp only[Zv];refine Tf R (n:=n+1) ⟨DO,L4,S4⟩ (by omega) λC5 S5 F5=>?_;have P5:C5 p=some (.lst (pl.map pT)):=F5 _ _ i t P4;have F6:Fx A C C5:=(F3.trans F4).trans F5;refine⟨_,FQ,_,FQ,?_⟩;have c1:Up u1 (z::pl):=jL (λx h=>by rcases XS.mp h with h | h;exact XV _ h;rw[XQ.mp h];exact BA ..) M.c;have sz:∀σ,(Wv u1 σ/\(∀y∈pl,σ y.1=σ y.2)/\σ z.1=σ z.2)↔(Wv u σ/\σ a=σ b):=λσ=>by
   rw[<-M.sol σ];exact⟨λh=>⟨h.1,λy hy=>by rcases List.mem_append.mp hy with k | k;exact h.2.1 y k;rw[List.mem_singleton.mp k];exact h.2.2⟩,λh=>⟨h.1,λy hy=>h.2 y (List.mem_append_left _ hy),h.2 z (by simp)⟩⟩
  have mm:=M.m;rw[AY,BC] at mm;have lt':∀y∈pl,y.1<u.F.length/\y.2<u.F.length:=λy hy=>M.lt y (BK _ hy);have jz:u1.rt a=u1.rt b\/(a,b)∈pl\/(a,b)=z:=M.jn.imp id λh=>(XS.mp h).imp id λh=>XQ.mp h;by_cases e:u1.rt z.1=u1.rt z.2
  ·refine Dv (v:=true) (by rw[e];exact XU _) ⟨_,FQ,Zn ?_⟩;refine hN (3*u1.cnt+pl.length) _ _ (by rw[AY,BC];omega) ⟨_,_,_,u1,pl,FQ,⟨S5,F6,P5,M.o,tZ e c1,M.F,lt',λσ=>?_,by omega,M.mo,?_⟩,FQ⟩
   rotate_left
   ·exact jz.elim .inl λh=>h.elim .inr λh=>.inl (by rw[<-h] at e;exact e)
   rw[<-sz σ];exact⟨λh=>⟨h.1,h.2,by rw[h.1.1 _ (by omega),h.1.1 z.2 (by omega),e]⟩,λh=>⟨h.1,h.2.1⟩⟩
  ·refine Dv (v:=false) (Tm.mpr λk=>e (by omega)) ⟨_,FQ,Yb ?_⟩;obtain⟨D_,L5,S5⟩:=S5;refine⟨_,FQ,⟨_,_,FQ,P5⟩,_,FQ,_,_,_,_,FQ,S5.r,FQ,FQ,_,FQ,_,FQ,?_⟩;dsimp only[Zv];have r1:=M.o.lt z.1 (by omega);have r2:=M.o.lt z.2 (by omega);have i1:=M.o.id z.1 (by omega);have i2:=M.o.id z.2 (by omega);have ev:∀z_,Wv u z_/\z_ a=z_ b->∀f g:Fm,u1.F[u1.rt z.1]?=some (some f)->u1.F[u1.rt z.2]?=some (some g)->f.ev z_=g.ev z_:=λz_ A_ f g h1 h2=>by
    obtain⟨I,HS,E_⟩:=(sz z_).mpr A_;rw[<-I.2 _ f h1,<-I.2 _ g h2,<-I.1 _ (by omega),<-I.1 _ (by omega)];exact E_
   refine zN R (n:=n) ⟨D_,L5,S5⟩ i1 i2 r1 r2 e (λf g h1 h2=>Classical.or_iff_not_imp_left.mpr λne=>hw λ⟨z_,A_⟩=>ne (zb (ev z_ A_ f g h1 h2)).1.1) λC7 p7 u7 ps S7 F7 B_ P7 j=>?_;have P8:C7 p=some (.lst (pl.map pT)):=F7 _ _ i t P5;have np:p7≠p:=λk=>by rw[k,P5] at B_;cases B_
   have zl:ps.length<=2:=by cases j<;>first | exact jd | exact XO _
   refine⟨_,_,_,_,FQ,FQ,P8,P7,by rw[XI,XI];omega,?_⟩;rw[<-XL];obtain⟨U,L7,S7⟩:=S7;have S8:Sk U L7 A (up C7 p (.lst ((pl++ps).map pT))) u7:=S7.other o_ i t;have F8:Fx A C (up C7 p (.lst ((pl++ps).map pT))):=λc w m1 m2 k=>by rw[Zk λz=>by rw[z,E] at k;cases k];exact(F6.trans F7) c w m1 m2 k
   have d:∀σ,Wv u1 σ->(σ (u1.rt z.1)=σ (u1.rt z.2)↔σ z.1=σ z.2):=λσ h=>by rw[h.1 z.1 (by omega),h.1 z.2 (by omega)]
   cases j with
   | op h=>
    have B:Mo u (u1.join (u1.rt z.1) (u1.rt z.2)):=λx y h1 h2 h3=>Oa (M.mo x y h1 h2 h3);have D:(u1.join (u1.rt z.1) (u1.rt z.2)).rt a=(u1.join (u1.rt z.1) (u1.rt z.2)).rt b\/(a,b)∈pl:=jz.elim (λh=>.inl (Oa h)) λh=>h.elim .inr λh=>.inl (by rw[<-h];rw[<-h] at e;exact D4 e);have ct:=Hl i1 i2 r1 e;have jo:=D0 M.o i1 i2 r2 e;refine hN (3*(u1.join (u1.rt z.1) (u1.rt z.2)).cnt+(pl++[]).length) _ _ (by rw[List.length_append,List.length_append,List.length_singleton];simp;omega) ⟨_,_,_,_,pl++[],FQ,⟨⟨U,L7,S8⟩,F8,Zf,jo,?_,M.F,by simpa using lt',λσ=>?_,by simp;omega,B,?_⟩,FQ⟩
    rotate_left 2
    ·rw[YK];exact D
    ·rw[YK];exact tY FQ FQ h c1 M.o i2 e
    ·rw[<-sz σ,Hk i1 i2 r1 M.o,YK];exact⟨λh=>⟨h.1.1,h.2,(d σ h.1.1).mp h.1.2⟩,λh=>⟨⟨h.1,(d σ h.1).mpr h.2.2⟩,h.2.1⟩⟩
   | k0 h1 h2=>
    have B:Mo u (u1.join (u1.rt z.2) (u1.rt z.1)):=λx y h1 h2 h3=>Oa (M.mo x y h1 h2 h3);have D:(u1.join (u1.rt z.2) (u1.rt z.1)).rt a=(u1.join (u1.rt z.2) (u1.rt z.1)).rt b\/(a,b)∈pl:=jz.elim (λh=>.inl (Oa h)) λh=>h.elim .inr λh=>.inl (by rw[<-h];rw[<-h] at e;exact(D4 (Ne.symm e)).symm);have ct:=Hl i2 i1 r2 (Ne.symm e);have jo:=D0 M.o i2 i1 r1 (Ne.symm e);refine hN (3*(u1.join (u1.rt z.2) (u1.rt z.1)).cnt+(pl++[]).length) _ _ (by rw[List.length_append,List.length_append,List.length_singleton];simp;omega) ⟨_,_,_,_,pl++[],FQ,⟨⟨U,L7,S8⟩,F8,Zf,jo,?_,M.F,by simpa using lt',λσ=>?_,by simp;omega,B,?_⟩,FQ⟩
    rotate_left 2
    ·rw[YK];exact D
    ·rw[YK];exact yD FQ FQ h2 c1 e
    ·rw[<-sz σ,Hk i2 i1 r2 M.o,YK];exact⟨λh=>⟨h.1.1,h.2,(d σ h.1.1).mp h.1.2.symm⟩,λh=>⟨⟨h.1,((d σ h.1).mpr h.2.2).symm⟩,h.2.1⟩⟩
   | @k2 f g h1 h2 F_=>
    have B:Mo u (u1.join (u1.rt z.2) (u1.rt z.1)):=λx y h1 h2 h3=>Oa (M.mo x y h1 h2 h3);have D:(u1.join (u1.rt z.2) (u1.rt z.1)).rt a=(u1.join (u1.rt z.2) (u1.rt z.1)).rt b\/(a,b)∈pl:=jz.elim (λh=>.inl (Oa h)) λh=>h.elim .inr λh=>.inl (by rw[<-h];rw[<-h] at e;exact(D4 (Ne.symm e)).symm);have ct:=Hl i2 i1 r2 (Ne.symm e);have jo:=D0 M.o i2 i1 r1 (Ne.symm e);have HU:=jd (f:=f) (g:=g);refine hN (3*(u1.join (u1.rt z.2) (u1.rt z.1)).cnt+(pl++B3 f g).length) _ _ (by rw[AY,AY,BC];omega) ⟨_,_,_,_,pl++B3 f g,FQ,⟨⟨U,L7,S8⟩,F8,Zf,jo,?_,M.F,λy hy=>?_,λσ=>?_,by rw[AY];omega,B,D.imp id (BK _)⟩,FQ⟩
    ·exact xZ FQ FQ i1 h1 h2 F_ c1 e
    ·rcases XS.mp hy with k | k
     ·exact lt' y k
     ·have:=CH (show(y.1,y.2)∈f.ps.zip g.ps from k);rw[<-M.F];exact⟨M.o.ps _ f h1 _ this.1,M.o.ps _ g h2 _ this.2⟩
    ·rw[<-sz σ,Hk i2 i1 r2 M.o];refine⟨λh=>⟨h.1.1,λy hy=>h.2 y (BK _ hy),(d σ h.1.1).mp h.1.2.symm⟩,λh=>⟨⟨h.1,((d σ h.1).mpr h.2.2).symm⟩,λy hy=>?_⟩⟩
     rcases XS.mp hy with k | k
     ·exact h.2.1 y k
     ·refine(zb (σ:=σ) (f:=f) (g:=g) ?_).2 y k;rw[<-h.1.2 _ f h1,<-h.1.2 _ g h2];exact(d σ h.1).mpr h.2.2
end
abbrev jP (z:List Nat×Nat):T:=.tup [.tup (z.1.map nT),nT z.2]
section
variable {W:Nat->Calls}{ρ x_:Prop}{A:Sd}{C C':Hw}{u:Us}{Q:WK}{χ:WX}{n x a b k s:Nat}{o:O}{σ z_:Nat->Kd}{τ:Sw}{f:Fm}{t:Tr}
def Qd {C1:Hw}{u1:Us}{p:WP}(S:Sl A C1 u1)(F:Fx A C C1)(h:C1 p=none):C p=none:=by
 obtain⟨_,_,S⟩:=S
 cases e:C p with
 | none=>rfl
 | some w=>
  by_cases c:p=A.f
  ·rw[c,S.f] at h;cases h
  ·by_cases d:p=A.l
   ·rw[d,S.l] at h;cases h
   ·rw[F p w c d e] at h;cases h
def Sl.new {p:WP}(S:Sl A C u)(h:C p=none):Sl A (up C p o) u:=by
 obtain⟨rk,L,S⟩:=S;exact⟨rk,L,S.new h⟩
def Tl {C1:Hw}{u1:Us}{p:WP}(S:Sl A C1 u1)(F:Fx A C C1)(h:C1 p=none):Fx A C (up C1 p o):=λc w m1 m2 e=>by
 have q:=F c w m1 m2 e;rw[Zk λz=>by rw[z,h] at q;cases q];exact q
def Pz (R:Rp W ρ x_){X:WE}(S:Sl A C u)(o:u.Ok)(hn:u.F.length<=8000)(a:sX f=true)(b:τ[0]?=some (some (.ref A.r)))(c:∀{C:Hw} {Q:WK},Q (jB (some f)) C->X τ C Q χ)
  (q:∀C',Sl A C' (u.add (some f))->Fx A C C'->Q (nT u.F.length) C'):Kj (W (n+1)) [("Slots",7)] "known" (Yp 0) (Z1 X Zv) τ C Q χ:=by
 obtain⟨rk,L,d⟩:=id S;refine⟨_,b,_,_,_,_,FQ,d.r,FQ,FQ,c ?_⟩;dsimp only[Zv];exact yZ R (n:=n) S o (by omega) (λg h=>by cases h;exact a) q
def Jq (R:Rp W ρ x_)(S:Sl A C u)(o:u.Ok)(hn:u.F.length<=8000)(a:τ[0]?=some (some (.ref A.r)))(q:∀C',Sl A C' (u.add none)->Fx A C C'->Q (nT u.F.length) C'):
  Kj (W (n+2)) [("Slots",6)] "unknown" (Yp 0) Zv τ C Q χ:=by
 obtain⟨rk,L,b⟩:=id S;exact⟨_,a,_,_,_,_,FQ,b.r,FQ,FQ,Fu R (n:=n) S o (by omega) q⟩
def yg (R:Rp W ρ x_){X:WE}(S:Sl A C u)(o:u.Ok)(cl:Up u [])(hs:s<u.F.length)(e:∀p∈f.ps,p<u.F.length)(w:(¬∃z_,Wv u z_/\z_ s=f.ev z_)->ρ)(l:sX f=true)(hn:u.F.length<=8000)
  (j:τ[0]?=some (some (.ref A.r))) (hk:τ[k]?=some (some (nT s))) (m:∀{C:Hw} {Q:WK},Q (jB (some f)) C->X τ C Q χ) (q:∀C' u2,Sl A C' u2->Fx A C C'->Ak u s f u2->Mo u u2->u2.rt s=u2.rt u.F.length->Q .non C'):
  Kj (W (n+3)) [("Slots",10)] "make_alike" (Yp 0) (Z1 (Yp k) (Z1 (Kj (W (n+3)) [("Slots",7)] "known" (Yp 0) (Z1 X Zv)) Zv)) τ C Q χ:=by
 obtain⟨rk,L,t⟩:=id S;refine⟨_,j,_,_,_,_,FQ,t.r,FQ,FQ,_,hk,Pz R (n:=n+2) S o hn l j m λC1 S1 v=>?_⟩;dsimp only[Zv];have o1:(u.add (some f)).Ok:=Um o (λg h=>by cases h;exact e);have hw:(¬∃σ,Wv (u.add (some f)) σ/\σ s=σ u.F.length)->ρ:=λh=>w λ⟨z_,x,y⟩=>by
  have b:∀i,i<u.F.length->ov u.F.length z_ (λ_=>f.ev z_) i=z_ i:=λi hi=>Wb hi;have B:f.ev (ov u.F.length z_ λ_=>f.ev z_)=f.ev z_:=Me λp D=>b p (e p D);exact h ⟨ov u.F.length z_ λ_=>f.ev z_,(V8 o).mpr ⟨Uz o x b,λg h=>by cases h;rw[Vq,B]⟩,by rw[b s hs,Vq,y]⟩
 refine N2 R (n:=n) S1 o1 (Uw o cl) (by rw[Zy];omega) (by rw[Zy];omega) hw (by rw[Zy];omega)
  λC2 u2 S2 E o2 c2 G a c d=>q C2 u2 S2 (v.trans E) ⟨o2,c2,G,λσ=>?_⟩ ((Mo.refl.add (XE _)).trans c (by rw[Zy];omega)) d
 rw[a,V8 o,and_assoc];exact⟨λh=>⟨h.1,h.2.1 f FQ,h.2.2⟩,λh=>⟨h.1,λg z=>by cases z;exact h.2.1,h.2.2⟩⟩
def Jt {C1:Hw}{u1:Us}{as:As}(q:∀C' p u' as,Sl A C' u'->Fx A C C'->C p=none->C' p=some (.lst (as.map jP))->Xl u t s u' as->Rx u s u' (as.map (·.2))->Q (.ref p) C')(S1:Sl A C1 u1)(c:Fx A C C1)(h:Xl u t s u1 as)(d:Rx u s u1 (as.map (·.2)))
  (p:WP) (a:C1 p=none):Q (.ref p) (up C1 p (.lst (as.map jP))):=q _ p u1 as (S1.new a) (Tl S1 c a) (Qd S1 c a) Zf h d
def Dq (R:Rp W ρ x_){oo:Str}{t1 t2:Tr}(S:Sl A C u)(o:u.Ok)(cl:Up u [])(hs:s<u.F.length)(hn:u.F.length<=7000)(w:(¬∃z_ G cs,Wv u z_/\Jx (.does oo t1 t2) G (z_ s) cs)->ρ)
  (q:∀C' p u' as,Sl A C' u'->Fx A C C'->C p=none->C' p=some (.lst (as.map jP))->Xl u (.does oo t1 t2) s u' as->Rx u s u' (as.map (·.2))->Q (.ref p) C'):W (n+4) Cf [.ref A.r,.str oo,nT s] C Q χ:=by
 refine R.o_does_slots FQ ?_;unfold W3 Vn;have a:∀(v:Str),v=xE oo->∀D:We,D.rt=Q->D.xc=χ->(Su (Aj (Kj (W (n+3)) [("Slots",10)] "make_alike" (Yp 0) (Z1 (Yp 2) (Z1 (Kj (W (n+3)) [("Slots",7)] "known" (Yp 0) (Z1 (Fb (Z1 (Yp 3) Zv)) Zv)) Zv))))
   (Su (Ol (Kj (W (n+3)) [("Slots",7)] "known" (Yp 0) (Z1 (Fb (Z1 (eC (.str "num")) Zv)) Zv)) (Nq 4)) (N4 (Ng (Z1 (Fb (Z1 (Fb Zv) (Z1 (Yp 4) Zv))) (Z1 (Fb (Z1 (Fb Zv) (Z1 (Yp 4) Zv))) Zv)))))) D
   [some (.ref A.r),some (.str oo),some (nT s),some (.str v),none] C:=by
  rintro v rfl D rfl rfl;have we:(¬∃z_,Wv u z_/\z_ s=(Fm.f0 (xE oo)).ev z_)->ρ:=λh=>w λ⟨z_,G,cs,e,d⟩=>h ⟨z_,e,by generalize z_ s=kk at d;cases d;rfl⟩;have wr:sX (.f0 (xE oo))=true:=by unfold xE;split<;>rfl
  refine yg R (n:=n) (s:=s) (f:=.f0 (xE oo)) S o cl hs (λp h=>by cases h) we wr (by omega) FQ FQ (λ{C Q} h=>⟨_,FQ,Jd (by show 1<=_;omega),h⟩) λC1 u1 S1 g ak b c=>?_;have l1:=ak.len;refine Pz R (n:=n+2) (f:=.f0 "num") S1 ak.o (by omega) FQ FQ (λ{C Q} h=>⟨Jd (by show 1<=_;omega),h⟩) λC2 S2 i=>?_;refine⟨Jd (by show 0<=_;omega),_,FQ,Jd (by show 2<=_;omega),Jd (by show 0<=_;omega),_,FQ,Jd (by show 2<=_;omega),Jd (by show 2<=_;omega),λp j=>?_⟩;exact Jt q S2 (g.trans i) (sC o hs ak cl) (gp (o:=some (.f0 (xE oo))) (o1:=some (.f0 "num")) (b.add (by omega)) (by show u1.F++_=_;rw[ak.F,YL];rfl) (.eq (.row (BA ..)) (by rw[Zy];omega) (by
   show(if s=u1.F.length then s else u1.rt s)=(if u.F.length=u1.F.length then u.F.length else u1.rt u.F.length);rw[XX (by omega),XX (by omega)];exact c)) (.row (by rw[<-l1];exact XV _ (BA ..)))) p j
 by_cases c1:oo="<"
 ·exact⟨_,FQ,Z3 (v:=true) (by rw[c1];exact XU _) ⟨_,FQ,Yb (Yb (a _ (by unfold xE;rw[XY (.inl c1)]) _ FQ FQ))⟩⟩
 ·refine⟨_,FQ,Z3 (v:=false) (Tm.mpr c1) ⟨_,FQ,Zn ?_⟩⟩;by_cases c2:oo="="
  ·exact⟨_,FQ,Z3 (v:=true) (by rw[c2];exact XU _) ⟨_,FQ,Yb (a _ (by unfold xE;rw[XY (.inr c2)]) _ FQ FQ)⟩⟩
  ·exact⟨_,FQ,Z3 (v:=false) (Tm.mpr c2) ⟨_,FQ,Zn (a _ (by unfold xE;rw[XX (by rintro(h | h);exact c1 h;exact c2 h)]) _ FQ FQ)⟩⟩
def vC (R:Rp W ρ x_){c:Str}(hc:c="No"\/c="Yes"\/c="Nil")(S:Sl A C u)(o:u.Ok)(cl:Up u [])(hs:s<u.F.length)(hn:u.F.length<=7000)(w:(¬∃z_ G cs,Wv u z_/\Jx (.sh0 c) G (z_ s) cs)->ρ)
  (q:∀C' p u' as,Sl A C' u'->Fx A C C'->C p=none->C' p=some (.lst (as.map jP))->Xl u (.sh0 c) s u' as->Rx u s u' (as.map (·.2))->Q (.ref p) C'):W (n+4) Ou [.ref A.r,.str c,nT s] C Q χ:=by
 refine R.o_shape_slots FQ ?_;unfold Xm Xo;have eB:∀b:Str,(b="No"\/b="Yes")->c=b->∀D:We,D.rt=Q->D.xc=χ->∀r:WS,Su (Aj (Kj (W (n+3)) [("Slots",10)] "make_alike" (Yp 0) (Z1 (Yp 2) (Z1 (Kj (W (n+3)) [("Slots",7)] "known" (Yp 0) (Z1 (Fb (Z1 (eC (.str "truth")) Zv)) Zv)) Zv))))
   (N4 (Ng Zv)) D [some (.ref A.r),some (.str c),some (nT s),none,none] C:=by
  rintro b hc rfl D rfl rfl r;have wt:(¬∃z_,Wv u z_/\z_ s=N8)->ρ:=λh=>w λ⟨z_,G,cs,d,a⟩=>h ⟨z_,d,by
   generalize z_ s=kk at a
   rcases hc with rfl | rfl
   ·cases a with
    | no=>rfl
   ·cases a with
    | yes=>rfl⟩
  refine yg R (n:=n) (s:=s) (f:=.f0 "truth") S o cl hs (λp h=>by cases h) wt FQ (by omega) FQ FQ (λ{C Q} h=>⟨Jd (by show 1<=_;omega),h⟩) λC1 u1 S1 e ak j l=>?_;exact⟨Jd (by show 0<=_;omega),λp m=>Jt q S1 e (wu hc o hs ak cl) (eI j ak.F (.eq (.row (BA ..)) (by rw[ak.len];omega) l)) p m⟩
 rcases hc with rfl | rfl | rfl
 ·exact⟨_,FQ,Z3 (v:=true) (by decide+kernel) ⟨_,FQ,Yb (Yb (eB "No" (.inl FQ) FQ _ FQ FQ Qp))⟩⟩
 ·exact⟨_,FQ,Z3 (v:=false) (by decide+kernel) ⟨_,FQ,Zn ⟨_,FQ,Z3 (v:=true) (by decide+kernel) ⟨_,FQ,Yb (eB "Yes" (.inr FQ) FQ _ FQ FQ Qp)⟩⟩⟩⟩
 ·refine⟨_,FQ,Z3 (v:=false) (by decide+kernel) ⟨_,FQ,Zn ⟨_,FQ,Z3 (v:=false) (by decide+kernel) ⟨_,FQ,Zn ?_⟩⟩⟩⟩;refine Jq R (n:=n+1) S o (by omega) FQ λC1 S1 e=>?_;refine⟨_,FQ,Z3 (v:=false) (by decide+kernel) ⟨_,FQ,Zn ?_⟩⟩;have l1:(u.add none).F.length=u.F.length+1:=Zy;have o1:(u.add none).Ok:=Um o (λg h=>by cases h);have H:(¬∃σ,Wv (u.add none) σ/\σ s=(Fm.f1 "list" u.F.length).ev σ)->ρ:=λh=>w λ⟨z_,G,cs,d,a⟩=>by
   generalize hk:z_ s=kk at a
   cases a with
   | @nil _ y=>
    have z:∀i,i<u.F.length->ov u.F.length z_ (λ_=>y) i=z_ i:=λi hi=>Wb hi;exact h ⟨ov u.F.length z_ λ_=>y,(V8 o).mpr ⟨Uz o d z,λg h=>by cases h⟩,by
     show _=Kd.k1 "list" (ov _ _ _ _);rw[z s hs,Vq,hk]⟩
  refine yg R (n:=n) (s:=s) (f:=.f1 "list" u.F.length) S1 o1 (Uw o cl) (by omega) (λp h=>by rw[XQ.mp h];omega) H FQ (by omega) FQ FQ (λ{C Q} h=>⟨_,FQ,Jd (by show 2<=_;omega),h⟩) λC2 u2 S2 I ak t x=>?_
  ·have mo:Mo u u2:=(Mo.refl.add (XE _)).trans t (by omega);have B:u2.F=u.F++[none,some (.f1 "list" u.F.length)]:=ak.F.trans (YL ..);have E:∀ss:List Nat,Ka u2 (s::ss) (u.F.length+1):=λss=>.eq (.row (BA ..)) (by rw[ak.len];omega) (by rw[x,l1]);refine⟨_,FQ,Z3 (v:=true) (by decide+kernel) ⟨_,FQ,Yb ?_⟩⟩;exact⟨Jd (by show 0<=_;omega),λp m=>Jt q S2 (e.trans I) (pO o hs cl ak) (gp mo B (.part (E _) (at1 B) (XQ.mpr FQ)) (E _)) p m⟩
def vB (R:Rp W ρ x_){c:Str}{t1 t2:Tr}(hc:c="Cons"\/c="Pair")(S:Sl A C u)(o:u.Ok)(cl:Up u [])(hs:s<u.F.length)(hn:u.F.length<=7000)(w:(¬∃z_ G cs,Wv u z_/\Jx (.sh2 c t1 t2) G (z_ s) cs)->ρ)
  (q:∀C' p u' as,Sl A C' u'->Fx A C C'->C p=none->C' p=some (.lst (as.map jP))->Xl u (.sh2 c t1 t2) s u' as->Rx u s u' (as.map (·.2))->Q (.ref p) C'):W (n+4) Ou [.ref A.r,.str c,nT s] C Q χ:=by
 refine R.o_shape_slots FQ ?_;unfold Xm Xo;have l1:(u.add none).F.length=u.F.length+1:=Zy;have o1:(u.add none).Ok:=Um o (λg h=>by cases h)
 rcases hc with rfl | rfl
 ·refine⟨_,FQ,Z3 (v:=false) (by decide+kernel) ⟨_,FQ,Zn ⟨_,FQ,Z3 (v:=false) (by decide+kernel) ⟨_,FQ,Zn ?_⟩⟩⟩⟩;refine Jq R (n:=n+1) S o (by omega) FQ λC1 S1 e=>?_;refine⟨_,FQ,Z3 (v:=false) (by decide+kernel) ⟨_,FQ,Zn ?_⟩⟩;have j:(¬∃σ,Wv (u.add none) σ/\σ s=(Fm.f1 "list" u.F.length).ev σ)->ρ:=λh=>w λ⟨z_,G,cs,l,a⟩=>by
   generalize hk:z_ s=kk at a
   cases a with
   | @cons _ _ _ b=>
    have d:∀i,i<u.F.length->ov u.F.length z_ (λ_=>b) i=z_ i:=λi hi=>Wb hi;exact h ⟨ov u.F.length z_ λ_=>b,(V8 o).mpr ⟨Uz o l d,λg h=>by cases h⟩,by
     show _=Kd.k1 "list" (ov _ _ _ _);rw[d s hs,Vq,hk]⟩
  refine yg R (n:=n) (s:=s) (f:=.f1 "list" u.F.length) S1 o1 (Uw o cl) (by omega) (λp h=>by rw[XQ.mp h];omega) j FQ (by omega) FQ FQ (λ{C Q} h=>⟨_,FQ,Jd (by show 2<=_;omega),h⟩) λC2 u2 S2 m ak t x=>?_
  ·have mo:Mo u u2:=(Mo.refl.add (XE _)).trans t (by omega);have y:u2.F=u.F++[none,some (.f1 "list" u.F.length)]:=ak.F.trans (YL ..);have I:∀ss:List Nat,Ka u2 (s::ss) (u.F.length+1):=λss=>.eq (.row (BA ..)) (by rw[ak.len];omega) (by rw[x,l1]);refine⟨_,FQ,Z3 (v:=false) (by decide+kernel) ⟨_,FQ,Zn ?_⟩⟩;refine⟨Jd (by show 0<=_;omega),_,FQ,Jd (by show 2<=_;omega),Jd (by show 0<=_;omega),_,FQ,Jd (by show 2<=_;omega),Jd (by show 2<=_;omega),λp z=>?_⟩;exact Jt q S2 (e.trans m) (sD o hs cl ak) (gp mo y (.row (XV _ (BA ..))) (I _)) p z
 ·refine⟨_,FQ,Z3 (v:=false) (by decide+kernel) ⟨_,FQ,Zn ⟨_,FQ,Z3 (v:=false) (by decide+kernel) ⟨_,FQ,Zn ?_⟩⟩⟩⟩;refine Jq R (n:=n+1) S o (by omega) FQ λC1 S1 e=>?_;refine⟨_,FQ,Z3 (v:=true) (by decide+kernel) ⟨_,FQ,Yb ?_⟩⟩;refine Jq R (n:=n+1) S1 o1 (by omega) FQ λC2 S2 m=>?_;have o2:((u.add none).add none).Ok:=Um o1 (λg h=>by cases h);have l2:((u.add none).add none).F.length=u.F.length+2:=by rw[Zy,l1]
  have j:(¬∃σ,Wv ((u.add none).add none) σ/\σ s=(Fm.f2 "pair" u.F.length (u.F.length+1)).ev σ)->ρ:=λh=>w λ⟨z_,G,cs,l,a⟩=>by
   generalize hk:z_ s=kk at a
   cases a with
   | @pair _ _ _ b E=>
    have d:∀i,i<u.F.length->ov u.F.length z_ (λi=>if i=0 then b else E) i=z_ i:=λi hi=>Wb hi;exact h ⟨ov u.F.length z_ λi=>if i=0 then b else E,(V8 o1).mpr ⟨(V8 o).mpr ⟨Uz o l d,λg h=>by cases h⟩,λg h=>by cases h⟩,by
     show _=Kd.k2 "pair" (ov _ _ _ _) (ov _ _ _ _);rw[d s hs,Vq,Ui,hk];rfl⟩
  have L:=S2;rw[l1];refine yg R (n:=n) (s:=s) (f:=.f2 "pair" u.F.length (u.F.length+1)) S2 o2 (Uw o1 (Uw o cl)) (by omega) (λp h=>by simp only[Fm.ps,List.mem_cons,List.not_mem_nil,or_false] at h;omega) j FQ (by omega) FQ FQ (λ{C Q} h=>⟨_,FQ,_,FQ,Jd (by show 3<=_;omega),h⟩) λY H N U ak B D=>?_
  ·have mo:Mo u H:=((Mo.refl.add (XE _)).add (by omega)).trans B (by omega);have y:H.F=u.F++[none,none,some (.f2 "pair" u.F.length (u.F.length+1))]:=ak.F.trans ((YL ..).trans (YL ..));refine⟨Jd (by show 0<=_;omega),_,FQ,Jd (by show 2<=_;omega),Jd (by show 0<=_;omega),_,FQ,Jd (by show 2<=_;omega),Jd (by show 2<=_;omega),λp z=>?_⟩;exact Jt q N ((e.trans m).trans U) (sB o hs cl ak) (dG mo y (.row (by simp)) (.row (by simp)) (.eq (.row (List.mem_cons_self ..)) (by rw[ak.len];omega) (by rw[D,l2]))) p z
end
def im:Tr->Prop
 | .sh0 c=>c="No"\/c="Yes"\/c="Nil"
 | .sh2 c _ _=>c="Cons"\/c="Pair"
 | _=>True
def jT {u:Us}:∀n,∃X,(u.addN n).F=u.F++X
 | 0=>⟨[],(YK _).symm⟩
 | n+1=>by
  obtain⟨X,e⟩:=jT (u:=u) n;exact⟨X++[none],by show(u.addN n).F++[none]=_;rw[e,YL]⟩
def Tr.isNm:Tr->Bool
 | .nm _=>true
 | _=>false
section
variable {W:Nat->Calls}{ρ x_:Prop}{A:Sd}{C C':Hw}{u:Us}{Q:WK}{χ:WX}{n x a b k s:Nat}{o:O}{σ z_:Nat->Kd}{τ:Sw}{f:Fm}{t:Tr}
def yf (R:Rp W ρ x_)(S:Sl A C u)(o:u.Ok)(hn:u.F.length<=8000)(a:τ[k]?=some (some (.ref A.r)))(q:∀C',Sl A C' (u.add none)->Fx A C C'->Q (nT u.F.length) C'):
  Kj (W (n+2)) [("Slots",6)] "unknown" (Yp k) Zv τ C Q χ:=by
 obtain⟨rk,L,b⟩:=id S;exact⟨_,a,_,_,_,_,FQ,b.r,FQ,FQ,Fu R (n:=n) S o (by omega) q⟩
def jS (o:u.Ok):∀n,(u.addN n).Ok
 | 0=>o
 | n+1=>Um (jS o n) (λg h=>by cases h)
def ge (R:Rp W ρ x_){t1 t2 a:Tr}(S:Sl A C u)(o:u.Ok)(cl:Up u [])(hs:s<u.F.length)(hn:u.F.length<=7000)
  (q:∀C' p u' as,Sl A C' u'->Fx A C C'->C p=none->C' p=some (.lst (as.map jP))->Xl u (.chT t1 t2 a) s u' as->Rx u s u' (as.map (·.2))->Q (.ref p) C'):W (n+4) Tk [.ref A.r,.str "No",nT s] C Q χ:=by
 refine R.o_choose_slots FQ ?_;unfold Je Jj;refine⟨_,FQ,Z3 (v:=true) (by decide+kernel) ⟨_,FQ,Yb ?_⟩⟩;refine⟨Jd (by show 0<=_;omega),Pz R (n:=n+2) (f:=.f0 "truth") S o (by omega) FQ FQ (λ{C Q} h=>⟨Jd (by show 1<=_;omega),h⟩) λC1 S1 b=>?_⟩;refine⟨Jd (by show 2<=_;omega),Jd (by show 0<=_;omega),_,FQ,Jd (by show 2<=_;omega),Jd (by show 0<=_;omega),_,FQ,Jd (by show 2<=_;omega),Jd (by show 3<=_;omega),λp c=>?_⟩;exact Jt q S1 b (pP o hs cl) (eI (Mo.refl.add (Nat.le_refl _)) FQ (.row (by simp))) p c
def gg (R:Rp W ρ x_){t1 t2 b:Tr}{x y:Str}(S:Sl A C u)(o:u.Ok)(cl:Up u [])(hs:s<u.F.length)(hn:u.F.length<=7000)
  (q:∀C' p u' as,Sl A C' u'->Fx A C C'->C p=none->C' p=some (.lst (as.map jP))->Xl u (.chL t1 t2 x y b) s u' as->Rx u s u' (as.map (·.2))->Q (.ref p) C'):W (n+4) Tk [.ref A.r,.str "Nil",nT s] C Q χ:=by
 refine R.o_choose_slots FQ ?_;unfold Je Jj;have l1:(u.add none).F.length=u.F.length+1:=Zy;have o1:(u.add none).Ok:=Um o (λg h=>by cases h);refine⟨_,FQ,Z3 (v:=false) (by decide+kernel) ⟨_,FQ,Zn ?_⟩⟩;refine Jq R (n:=n+1) S o (by omega) FQ λC1 S1 c=>?_;refine⟨_,FQ,Z3 (v:=false) (by decide+kernel) ⟨_,FQ,Zn ?_⟩⟩;refine Pz R (n:=n+2) (f:=.f1 "list" u.F.length) S1 o1 (by omega) FQ FQ (λ{C Q} h=>⟨_,FQ,Jd (by show 2<=_;omega),h⟩) λC2 S2 d=>?_;rw[l1];refine⟨Jd (by show 0<=_;omega),_,FQ,Jd (by show 2<=_;omega),Jd (by show 0<=_;omega),_,FQ,Jd (by show 2<=_;omega),_,FQ,_,FQ,Jd (by show 2<=_;omega),_,FQ,Jd (by show 2<=_;omega),Jd (by show 3<=_;omega),λp e=>?_⟩;have a:((u.add none).add (some (.f1 "list" u.F.length))).F=u.F++[none,some (.f1 "list" u.F.length)]:=YL ..;exact Jt q S2 (c.trans d) (pR o hs cl) (gp ((Mo.refl.add (Nat.le_refl _)).add (by omega)) a (.part (.row (by simp)) (at1 a) (List.mem_singleton.mpr FQ)) (.row (by simp))) p e
def gf (R:Rp W ρ x_){t1 t2:Tr}{x y:Str}(S:Sl A C u)(o:u.Ok)(cl:Up u [])(hs:s<u.F.length)(hn:u.F.length<=7000)
  (q:∀C' p u' as,Sl A C' u'->Fx A C C'->C p=none->C' p=some (.lst (as.map jP))->Xl u (.chP t1 x y t2) s u' as->Rx u s u' (as.map (·.2))->Q (.ref p) C'):W (n+4) Tk [.ref A.r,.str "Pair",nT s] C Q χ:=by
 refine R.o_choose_slots FQ ?_;unfold Je Jj;have l1:(u.add none).F.length=u.F.length+1:=Zy;have o1:(u.add none).Ok:=Um o (λg h=>by cases h);have l2:((u.add none).add none).F.length=u.F.length+2:=by rw[Zy,l1]
 have o2:((u.add none).add none).Ok:=Um o1 (λg h=>by cases h);refine⟨_,FQ,Z3 (v:=false) (by decide+kernel) ⟨_,FQ,Zn ?_⟩⟩;refine Jq R (n:=n+1) S o (by omega) FQ λC1 S1 b=>?_;refine⟨_,FQ,Z3 (v:=true) (by decide+kernel) ⟨_,FQ,Yb ?_⟩⟩;refine Jq R (n:=n+1) S1 o1 (by omega) FQ λC2 S2 c=>?_;rw[l1];refine⟨Jd (by show 0<=_;omega),Pz R (n:=n+2) (f:=.f2 "pair" u.F.length (u.F.length+1)) S2 o2 (by omega) FQ FQ (λ{C Q} h=>⟨_,FQ,_,FQ,Jd (by show 3<=_;omega),h⟩) λj d e=>?_⟩;rw[l2];refine⟨Jd (by show 2<=_;omega),_,FQ,_,FQ,Jd (by show 2<=_;omega),_,FQ,Jd (by show 2<=_;omega),Jd (by show 2<=_;omega),λp i=>?_⟩;have a:(((u.add none).add none).add (some (.f2 "pair" u.F.length (u.F.length+1)))).F=u.F++[none,none,some (.f2 "pair" u.F.length (u.F.length+1))]:=(YL ..).trans (YL ..);exact Jt q d ((b.trans c).trans e) (pQ o hs cl) (dG (((Mo.refl.add (Nat.le_refl _)).add (by omega)).add (by omega)) a (.part (.row (by simp)) (cM a) (List.mem_cons_self ..)) (.part (.row (by simp)) (cM a) (by simp[Fm.ps])) (.row (by simp))) p i
def Dn (R:Rp W ρ x_)(t:Tr)(ht:Tr.isNm t=false)(hl:∀m xs ts b,t=.lt m xs ts b->m<=10)(S:Sl A C u)(o:u.Ok)(cl:Up u [])(hs:s<u.F.length)(hn:u.F.length<=7000)(D:im t)(w:(¬∃z_ G cs,Wv u z_/\Jx t G (z_ s) cs)->ρ)
  (q:∀C' p u' as,Sl A C' u'->Fx A C C'->C p=none->C' p=some (.lst (as.map jP))->Xl u t s u' as->Rx u s u' (as.map (·.2))->Q (.ref p) C'):W (n+5) D8 [.ref A.r,tt t,nT s] C Q χ:=by
 refine R.o_part_slots FQ ?_;unfold Wz Vk;have l1:(u.add none).F.length=u.F.length+1:=Zy;have o1:(u.add none).Ok:=Um o (λg h=>by cases h)
 cases t with
 | nm x=>cases ht
 | num v=>
  refine⟨_,FQ,_,Yj,?_⟩;refine⟨_,FQ,Z3 (v:=true) (by decide+kernel) ⟨_,FQ,Yb ?_⟩⟩;have we:(¬∃z_,Wv u z_/\z_ s=(Fm.f0 "num").ev z_)->ρ:=λh=>w λ⟨z_,G,cs,L,E⟩=>h ⟨z_,L,by generalize z_ s=kk at E;cases E;rfl⟩;refine yg R (n:=n+1) (s:=s) (f:=.f0 "num") S o cl hs (λp h=>by cases h) we FQ (by omega) FQ FQ (λ{C Q} h=>⟨Jd (by show 1<=_;omega),h⟩) λC1 u1 S1 d ak U Y=>?_;exact⟨Jd (by show 0<=_;omega),λp a=>Jt q S1 d (pN o hs ak cl) (eI U ak.F (.eq (.row (BA ..)) (by rw[ak.len];omega) Y)) p a⟩
 | does oo t1 t2=>
  refine⟨_,FQ,_,Yj,?_⟩;refine⟨_,FQ,Z3 (v:=false) (by decide+kernel) ⟨_,FQ,Zn ?_⟩⟩;refine⟨_,FQ,Z3 (v:=true) (by decide+kernel) ⟨_,FQ,Yb ?_⟩⟩;refine⟨_,FQ,_,FQ,_,Xu,_,FQ,?_⟩;dsimp only[Zv];exact Dq R (n:=n) S o cl hs hn w q
 | fn x b=>
  refine⟨_,FQ,_,Yj,?_⟩;refine⟨_,FQ,Z3 (v:=false) (by decide+kernel) ⟨_,FQ,Zn ?_⟩⟩;refine⟨_,FQ,Z3 (v:=false) (by decide+kernel) ⟨_,FQ,Zn ?_⟩⟩;refine⟨_,FQ,Z3 (v:=true) (by decide+kernel) ⟨_,FQ,Yb ?_⟩⟩;refine Jq R (n:=n+2) S o (by omega) FQ λC1 S1 d=>?_;refine Jq R (n:=n+2) S1 o1 (by omega) FQ λC2 S2 z=>?_;have o2:((u.add none).add none).Ok:=Um o1 (λg h=>by cases h);have l2:((u.add none).add none).F.length=u.F.length+2:=by rw[Zy,l1]
  have wl:(¬∃σ,Wv ((u.add none).add none) σ/\σ s=(Fm.f2 "to" u.F.length (u.F.length+1)).ev σ)->ρ:=λh=>w λ⟨z_,G,cs,L,E⟩=>by
   generalize hk:z_ s=kk at E
   cases E with
   | @fn _ _ _ p0 q0=>
    have ag:∀i,i<u.F.length->ov u.F.length z_ (λi=>if i=0 then p0 else q0) i=z_ i:=λi hi=>Wb hi;exact h ⟨ov u.F.length z_ λi=>if i=0 then p0 else q0,(V8 o1).mpr ⟨(V8 o).mpr ⟨Uz o L ag,λg h=>by cases h⟩,λg h=>by cases h⟩,by
     show _=Kd.k2 "to" (ov _ _ _ _) (ov _ _ _ _);rw[ag s hs,Vq,Ui,hk];rfl⟩
  rw[l1];refine yg R (n:=n+1) (s:=s) (f:=.f2 "to" u.F.length (u.F.length+1)) S2 o2 (Uw o1 (Uw o cl)) (by omega) (λp h=>by simp only[Fm.ps,List.mem_cons,List.not_mem_nil,or_false] at h;omega) wl FQ (by omega) FQ FQ (λ{C Q} h=>⟨_,FQ,_,FQ,Jd (by show 3<=_;omega),h⟩) λC3 u3 I F3 ak A_ B_=>?_
  ·have mo:Mo u u3:=((Mo.refl.add (XE _)).add (by omega)).trans A_ (by omega);have eF:u3.F=u.F++[none,none,some (.f2 "to" u.F.length (u.F.length+1))]:=ak.F.trans ((YL ..).trans (YL ..));have r2:∀ss:List Nat,Ka u3 (s::ss) (u.F.length+2):=λss=>.eq (.row (BA ..)) (by rw[ak.len];omega) (by rw[B_,l2]);refine⟨_,FQ,Jd (by show 1<=_;omega),_,FQ,Jd (by show 2<=_;omega),Jd (by show 1<=_;omega),λp a=>?_⟩;exact Jt q I ((d.trans z).trans F3) (kF o hs cl ak) (dG mo eF (.part (r2 _) (cM eF) (List.mem_cons_self ..)) (.row (by simp)) (r2 _)) p a
 | call t1 t2=>
  refine⟨_,FQ,_,Yj,?_⟩;refine⟨_,FQ,Z3 (v:=false) (by decide+kernel) ⟨_,FQ,Zn ?_⟩⟩;refine⟨_,FQ,Z3 (v:=false) (by decide+kernel) ⟨_,FQ,Zn ?_⟩⟩;refine⟨_,FQ,Z3 (v:=false) (by decide+kernel) ⟨_,FQ,Zn ?_⟩⟩;refine⟨_,FQ,Z3 (v:=true) (by decide+kernel) ⟨_,FQ,Yb ?_⟩⟩;refine Jq R (n:=n+2) S o (by omega) FQ λC1 S1 d=>?_;refine⟨Jd (by show 0<=_;omega),Pz R (n:=n+3) (f:=.f2 "to" u.F.length s) S1 o1 (by omega) FQ FQ (λ{C Q} h=>⟨_,FQ,_,FQ,Jd (by show 3<=_;omega),h⟩) λC2 S2 z=>?_⟩;rw[l1];refine⟨Jd (by show 2<=_;omega),Jd (by show 0<=_;omega),_,FQ,Jd (by show 2<=_;omega),Jd (by show 2<=_;omega),λp a=>?_⟩;exact Jt q S2 (d.trans z) (sE o hs cl) (gp ((Mo.refl.add (Nat.le_refl _)).add (by omega)) (List.append_assoc ..) (.row (by simp)) (.row (by simp))) p a
 | first t1 t2=>
  refine⟨_,FQ,_,Yj,?_⟩;refine⟨_,FQ,Z3 (v:=false) (by decide+kernel) ⟨_,FQ,Zn ?_⟩⟩;refine⟨_,FQ,Z3 (v:=false) (by decide+kernel) ⟨_,FQ,Zn ?_⟩⟩;refine⟨_,FQ,Z3 (v:=false) (by decide+kernel) ⟨_,FQ,Zn ?_⟩⟩;refine⟨_,FQ,Z3 (v:=false) (by decide+kernel) ⟨_,FQ,Zn ?_⟩⟩;refine⟨_,FQ,Z3 (v:=false) (by decide+kernel) ⟨_,FQ,Zn ?_⟩⟩;refine⟨_,FQ,Z3 (v:=false) (by decide+kernel) ⟨_,FQ,Zn ?_⟩⟩;refine⟨_,FQ,Z3 (v:=false) (by decide+kernel) ⟨_,FQ,Zn ?_⟩⟩;refine⟨_,FQ,Z3 (v:=true) (by decide+kernel) ⟨_,FQ,Yb ?_⟩⟩;refine⟨Jd (by show 0<=_;omega),Jq R (n:=n+2) S o (by omega) FQ λC1 S1 d=>?_⟩;refine⟨Jd (by show 2<=_;omega),Jd (by show 0<=_;omega),_,FQ,Jd (by show 2<=_;omega),Jd (by show 2<=_;omega),λp a=>?_⟩;exact Jt q S1 d (wx o hs cl) (eI (Mo.refl.add (Nat.le_refl _)) FQ (.row (by simp))) p a
 | stop y=>
  refine⟨_,FQ,_,Yj,?_⟩;refine⟨_,FQ,Z3 (v:=false) (by decide+kernel) ⟨_,FQ,Zn ?_⟩⟩;refine⟨_,FQ,Z3 (v:=false) (by decide+kernel) ⟨_,FQ,Zn ?_⟩⟩;refine⟨_,FQ,Z3 (v:=false) (by decide+kernel) ⟨_,FQ,Zn ?_⟩⟩;refine⟨_,FQ,Z3 (v:=false) (by decide+kernel) ⟨_,FQ,Zn ?_⟩⟩;refine⟨_,FQ,Z3 (v:=false) (by decide+kernel) ⟨_,FQ,Zn ?_⟩⟩;refine⟨_,FQ,Z3 (v:=false) (by decide+kernel) ⟨_,FQ,Zn ?_⟩⟩;refine⟨_,FQ,Z3 (v:=false) (by decide+kernel) ⟨_,FQ,Zn ?_⟩⟩;refine⟨_,FQ,Z3 (v:=false) (by decide+kernel) ⟨_,FQ,Zn ?_⟩⟩;refine⟨_,FQ,Z3 (v:=true) (by decide+kernel) ⟨_,FQ,Yb ?_⟩⟩;exact⟨Jd (by show 0<=_;omega),λp a=>Jt q S (Fx.refl _ _) (sA o cl) (bE Mo.refl FQ) p a⟩
 | sh0 c=>
  refine⟨_,FQ,_,Yj,?_⟩;refine⟨_,FQ,Z3 (v:=false) (by decide+kernel) ⟨_,FQ,Zn ?_⟩⟩;refine⟨_,FQ,Z3 (v:=false) (by decide+kernel) ⟨_,FQ,Zn ?_⟩⟩;refine⟨_,FQ,Z3 (v:=false) (by decide+kernel) ⟨_,FQ,Zn ?_⟩⟩;refine⟨_,FQ,Z3 (v:=false) (by decide+kernel) ⟨_,FQ,Zn ?_⟩⟩;refine⟨_,FQ,Z3 (v:=false) (by decide+kernel) ⟨_,FQ,Zn ?_⟩⟩;refine⟨_,FQ,Z3 (v:=true) (by decide+kernel) ⟨_,FQ,Yb ?_⟩⟩;refine⟨_,FQ,_,FQ,_,Xu,_,FQ,?_⟩;dsimp only[Zv];exact vC R (n:=n) D S o cl hs hn w q
 | sh2 c t1 t2=>
  refine⟨_,FQ,_,Yj,?_⟩;refine⟨_,FQ,Z3 (v:=false) (by decide+kernel) ⟨_,FQ,Zn ?_⟩⟩;refine⟨_,FQ,Z3 (v:=false) (by decide+kernel) ⟨_,FQ,Zn ?_⟩⟩;refine⟨_,FQ,Z3 (v:=false) (by decide+kernel) ⟨_,FQ,Zn ?_⟩⟩;refine⟨_,FQ,Z3 (v:=false) (by decide+kernel) ⟨_,FQ,Zn ?_⟩⟩;refine⟨_,FQ,Z3 (v:=false) (by decide+kernel) ⟨_,FQ,Zn ?_⟩⟩;refine⟨_,FQ,Z3 (v:=true) (by decide+kernel) ⟨_,FQ,Yb ?_⟩⟩;refine⟨_,FQ,_,FQ,_,Xu,_,FQ,?_⟩;dsimp only[Zv];exact vB R (n:=n) D S o cl hs hn w q
 | chT t1 t2 t3=>
  refine⟨_,FQ,_,Yj,?_⟩;refine⟨_,FQ,Z3 (v:=false) (by decide+kernel) ⟨_,FQ,Zn ?_⟩⟩;refine⟨_,FQ,Z3 (v:=false) (by decide+kernel) ⟨_,FQ,Zn ?_⟩⟩;refine⟨_,FQ,Z3 (v:=false) (by decide+kernel) ⟨_,FQ,Zn ?_⟩⟩;refine⟨_,FQ,Z3 (v:=false) (by decide+kernel) ⟨_,FQ,Zn ?_⟩⟩;refine⟨_,FQ,Z3 (v:=false) (by decide+kernel) ⟨_,FQ,Zn ?_⟩⟩;refine⟨_,FQ,Z3 (v:=false) (by decide+kernel) ⟨_,FQ,Zn ?_⟩⟩;refine⟨_,FQ,Z3 (v:=true) (by decide+kernel) ⟨_,FQ,Yb ?_⟩⟩;refine⟨_,FQ,_,FQ,_,Pm,_,Yj,_,Yj,_,FQ,?_⟩;dsimp only[Zv];exact ge R (n:=n) S o cl hs hn q
 | chL t1 t2 x y t3=>
  refine⟨_,FQ,_,Yj,?_⟩;refine⟨_,FQ,Z3 (v:=false) (by decide+kernel) ⟨_,FQ,Zn ?_⟩⟩;refine⟨_,FQ,Z3 (v:=false) (by decide+kernel) ⟨_,FQ,Zn ?_⟩⟩;refine⟨_,FQ,Z3 (v:=false) (by decide+kernel) ⟨_,FQ,Zn ?_⟩⟩;refine⟨_,FQ,Z3 (v:=false) (by decide+kernel) ⟨_,FQ,Zn ?_⟩⟩;refine⟨_,FQ,Z3 (v:=false) (by decide+kernel) ⟨_,FQ,Zn ?_⟩⟩;refine⟨_,FQ,Z3 (v:=false) (by decide+kernel) ⟨_,FQ,Zn ?_⟩⟩;refine⟨_,FQ,Z3 (v:=true) (by decide+kernel) ⟨_,FQ,Yb ?_⟩⟩;refine⟨_,FQ,_,FQ,_,Pm,_,Yj,_,Yj,_,FQ,?_⟩;dsimp only[Zv];exact gg R (n:=n) S o cl hs hn q
 | chP t1 x y t2=>
  refine⟨_,FQ,_,Yj,?_⟩;refine⟨_,FQ,Z3 (v:=false) (by decide+kernel) ⟨_,FQ,Zn ?_⟩⟩;refine⟨_,FQ,Z3 (v:=false) (by decide+kernel) ⟨_,FQ,Zn ?_⟩⟩;refine⟨_,FQ,Z3 (v:=false) (by decide+kernel) ⟨_,FQ,Zn ?_⟩⟩;refine⟨_,FQ,Z3 (v:=false) (by decide+kernel) ⟨_,FQ,Zn ?_⟩⟩;refine⟨_,FQ,Z3 (v:=false) (by decide+kernel) ⟨_,FQ,Zn ?_⟩⟩;refine⟨_,FQ,Z3 (v:=false) (by decide+kernel) ⟨_,FQ,Zn ?_⟩⟩;refine⟨_,FQ,Z3 (v:=true) (by decide+kernel) ⟨_,FQ,Yb ?_⟩⟩;refine⟨_,FQ,_,FQ,_,Pm,_,Yj,_,Yj,_,FQ,?_⟩;dsimp only[Zv];exact gf R (n:=n) S o cl hs hn q
 | lt m xs ts b=>
  refine⟨_,FQ,_,Yj,?_⟩;refine⟨_,FQ,Z3 (v:=false) (by decide+kernel) ⟨_,FQ,Zn ?_⟩⟩;refine⟨_,FQ,Z3 (v:=false) (by decide+kernel) ⟨_,FQ,Zn ?_⟩⟩;refine⟨_,FQ,Z3 (v:=false) (by decide+kernel) ⟨_,FQ,Zn ?_⟩⟩;refine⟨_,FQ,Z3 (v:=false) (by decide+kernel) ⟨_,FQ,Zn ?_⟩⟩;refine⟨_,FQ,Z3 (v:=true) (by decide+kernel) ⟨_,FQ,Yb ?_⟩⟩;refine⟨_,FQ,_,Xu,?_⟩;have hm:=hl m xs ts b FQ;refine Ro (λi B C'=>Sl A C' (u.addN i)/\Fx A C C'/\B=(List.range i).map (λj=>nT (u.F.length+j))) ⟨S,Fx.refl _ _,FQ⟩ (λ_ _ _ _ _=>trivial) ?_ ?_
  ·rintro i x B C1 N hx ⟨S1,d,rfl⟩ hN;have hi:i<m:=by
    have:=(AZ.mp hx).1;simpa using this
   have la:=Tp (u:=u) i;refine Yb (q:=N ((List.range i).map λj=>nT (u.F.length+j)) C1) (yf R (n:=n+2) S1 (jS o i) (by omega) FQ λC2 S2 z=>⟨Y4 (by simp;omega),hN _ _ ⟨S2,d.trans z,?_⟩⟩);rw[FN,XL,la];rfl
  ·rintro B C1 ⟨S1,d,rfl⟩ p a;refine⟨_,FQ,_,Zf,?_⟩;have em:(List.finRange m).length=m:=EZ;have lm:((List.finRange m).map λi=>T.tup [.str (xs i),tt (ts i)]).length=m:=by rw[XI,em]
   rw[lm] at S1 |-;have eo:(List.range m).map (λj=>nT (u.F.length+j))=(Tg u m).map nT:=by
    rw[YE];have:List.range m=(List.finRange m).map Fin.val:=by
     apply List.ext_getElem
     ·simp
     ·intro i h1 h2;simp
    rw[this,YE];rfl
   rw[eo];have S2:Sl A (up C1 p (.lst ((Tg u m).map nT))) (u.addN m):=S1.new a;have z:Fx A C (up C1 p (.lst ((Tg u m).map nT))):=Tl S1 d a;generalize up C1 p (.lst ((Tg u m).map nT))=C2 at S2 z;refine⟨_,FQ,?_⟩;have lo:((Tg u m).map nT).length=m:=by rw[XI,XI,em]
   refine V0 (λt=>.tup [.tup ((Tg u m).map nT),t]) trivial (by rw[lo];exact Jd (by omega)) (λx hx R hR=>?_) λp2 H=>?_
   ·exact⟨_,FQ,_,FQ,Jd (by show 2<=_;omega),hR⟩
   refine⟨_,FQ,_,FQ,Jd (by show 2<=_;omega),Jd (by show 1<=_;omega),λp3 l=>?_⟩;have I:Sl A (up C2 p2 _) (u.addN m):=S2.new (o:=.lst (((Tg u m).map nT).map λt=>.tup [.tup ((Tg u m).map nT),t])) H;have F3:Fx A C (up C2 p2 _):=Tl (o:=.lst (((Tg u m).map nT).map λt=>.tup [.tup ((Tg u m).map nT),t])) S2 z H;have C_:p2≠p3:=λe=>by rw[<-e,Zf] at l;cases l
   refine⟨_,_,by rw[Zk C_];exact Zf,Zf,by rw[XI,lo];exact Jd (by show m+1<=_;omega),λp4 DO=>?_⟩;have S4:Sl A (up (up C2 p2 _) p3 _) (u.addN m):=I.new (o:=.lst [.tup [.tup ((Tg u m).map nT),nT s]]) l;have F4:Fx A C (up (up C2 p2 _) p3 _):=Tl (o:=.lst [.tup [.tup ((Tg u m).map nT),nT s]]) I F3 l;have rx:Rx u s (u.addN m) ((((Tg u m).map λo=>(Tg u m,o))++[(Tg u m,s)]).map (·.2)):=⟨Mo.addN m,jT m,λx h1 h2=>.row (XV _ (by
    rw[Tp] at h2;rw[XL,YE];refine BK _ (XR.mpr ⟨x,XR.mpr ⟨⟨x-u.F.length,by omega⟩,List.mem_finRange _,?_⟩,FQ⟩);show u.F.length+(x-u.F.length)=x;omega))⟩
   have fin:=Jt q S4 F4 (kE (xs:=xs) (ts:=ts) (b:=b) hm o hs cl) rx p4 DO;have e:∀os:List Nat,((os.map λo=>(os,o))++[(os,s)]).map jP=((os.map nT).map λt=>T.tup [.tup (os.map nT),t])++[.tup [.tup (os.map nT),nT s]]:=λos=>by
    rw[XL,YE,YE];rfl
   rw[e] at fin;exact fin
end
set_option tactic.hygienic true in
def A4 {kvs:List (Z8×T)}{kk j:Z8}{v:T}:Ys (J8 kvs kk v) j=if j=kk then some v else Ys kvs j:=by
 have a:∀kvs:List (Z8×T),Ys (kvs.map λz=>if z.1=kk then(z.1,v) else z) j=if j=kk/\(kvs.any λz=>decide (z.1=kk))=true then some v else Ys kvs j:=by
  intro kvs
  induction kvs with
  | nil=>simp[Ys]
  | cons z r b=>
   unfold Ys at b |-;rw[YI,FA,FA,DH];by_cases c:z.1=kk
   ·rw[XY c];by_cases d:j=kk
    ·subst d;simp[c]
    ·have:¬z.1=j:=λe=>d (e.symm.trans c);simp only[this,decide_false,d,false_and,if_false];rw[b];simp[d]
   ·rw[XX c];by_cases d:z.1=j
    ·have:¬j=kk:=λe=>c (d.trans e);simp[d,this]
    ·simp only[d,decide_false,c,Bool.false_or];exact b
 unfold J8
 split
 next h=>rw[a];simp[h]
 next h=>
  unfold Ys;rw[List.find?_append];by_cases d:j=kk
  ·subst d;have:kvs.find? (λz=>decide (z.1=j))=none:=List.find?_eq_none.mpr λz hz e=>h (CZ.mpr ⟨z,hz,e⟩);rw[this,if_pos rfl];simp
  ·rw[XX d];have:¬kk=j:=λe=>d e.symm
   cases kvs.find? (λz=>decide (z.1=j))<;>simp[this]
section
variable {W:Nat->Calls}{ρ x_:Prop}{kvs l more:List (Z8×T)}{kk j:Z8}{v:T}
def uV {a b:List (Z8×T)}:Ys (a++b) j=(Ys a j).or (Ys b j):=by
 unfold Ys;rw[List.find?_append]
 cases a.find? λkv=>decide (kv.1=j)<;>rfl
def Gc:∀{l base:List (Z8×T)},Ys (l.foldl (λa kv=>J8 a kv.1 kv.2) base) j=(Ys l.reverse j).or (Ys base j)
 | [],base=>rfl
 | p::l,base=>by
  rw[EX,Gc (l:=l),BY,uV,A4,Option.or_assoc];congr 1;unfold Ys;by_cases c:j=p.1
  ·subst c;simp
  ·rw[XX c];have:¬p.1=j:=λe=>c e.symm;simp[this]
def Ix:(J8 kvs kk v).map (·.1)=if (kvs.any λkv=>decide (kv.1=kk))=true then kvs.map (·.1) else kvs.map (·.1)++[kk]:=by
 unfold J8
 split
 ·rw[YE];congr 1
  funext z
  show(if z.1=kk then(z.1,v) else z).1=z.1
  split<;>rfl
 ·rw[XL];rfl
set_option tactic.hygienic true in
def me (h:(kvs.map (·.1)).Nodup):((J8 kvs kk v).map (·.1)).Nodup:=by
 rw[Ix]
 split
 ·exact h
 ·rename_i c;refine EL.mpr ⟨h,BU.mpr ⟨DU,BX⟩,λa ha b hb=>?_⟩;rw[XQ.mp hb];rintro rfl;obtain⟨z,hz,rfl⟩:=XR.mp ha;exact c (List.any_eq_true.mpr ⟨z,hz,by simp⟩)
def jA:∀{l base:List (Z8×T)},(base.map (·.1)).Nodup->((l.foldl (λa kv=>J8 a kv.1 kv.2) base).map (·.1)).Nodup
 | [],_,h=>h
 | p::l,base,h=>by rw[EX];exact jA (me h)
def j6 {l:List (Z8×T)}(h:(l.map (·.1)).Nodup):Ys l j=some v↔(j,v)∈l:=by
 induction l with
 | nil=>simp[Ys]
 | cons p l a=>
  obtain⟨h1,h2⟩:=BU.mp h;have a:=a h2;unfold Ys at a |-;rw[FA];by_cases c:p.1=j
  ·subst c;simp only[decide_true,Option.map_some,Option.some.injEq,List.mem_cons];refine⟨λe=>.inl (by rw[<-e]),λe=>?_⟩
   rcases e with e | e
   ·rw[<-e]
   ·exact absurd (XR.mpr ⟨_,e,FQ⟩) h1
  ·simp only[c,decide_false,List.mem_cons];rw[a];exact⟨λe=>.inr e,λe=>e.resolve_left λz=>c (by rw[<-z])⟩
def qS {l:List (Z8×T)}(h:(l.map (·.1)).Nodup):Ys l.reverse j=Ys l j:=by
 have a:(l.reverse.map (·.1)).Nodup:=by rw[DW];exact(List.reverse_perm _).nodup_iff.mpr h
 refine Option.ext λw=>?_;rw[j6 a,j6 h,FM]
def xJ {ks:List Z8}{ts:List T}:Ys (Vy kvs (Em J8 ks ts)) j=(Ys (ks.zip ts).reverse j).or (Ys kvs j):=by
 unfold Vy;rw[Gc,qS]
 ·unfold Em;rw[Gc]
  cases Ys (ks.zip ts).reverse j<;>rfl
 ·exact jA BX
def rU:(J8 kvs kk v).length<=kvs.length+1:=by
 have h:=congrArg List.length (Ix (kvs:=kvs) (kk:=kk) (v:=v));rw[XI] at h;rw[h]
 split
 ·rw[XI];omega
 ·rw[AY,XI];exact XE _
def Gb:∀{l base:List (Z8×T)},(l.foldl (λa kv=>J8 a kv.1 kv.2) base).length<=base.length+l.length
 | [],_=>XE _
 | p::l,base=>by
  rw[EX,YF];have:=Gb (l:=l) (base:=J8 base p.1 p.2);have:=rU (kvs:=base) (kk:=p.1) (v:=p.2);omega
def wE (kvs:List (Z8×T))(E:Str->Option Nat):Prop:=∀x,Ys kvs (.inr x)=(E x).map nT
def rg {x:Str}:∀{xs:List Str} {ss:List Nat},Ys ((xs.map Sum.inr).zip (ss.map nT)).reverse (.inr x)=((xs.zip ss).reverse.lookup x).map nT:=by
 intro xs ss;have gen:∀l:List (Str×Nat),Ys (l.map λp=>((Sum.inr p.1:Z8),nT p.2)) (.inr x)=(l.lookup x).map nT:=by
  intro l
  induction l with
  | nil=>rfl
  | cons p l d=>
   obtain⟨a,b⟩:=p;unfold Ys at d |-;rw[YI,FA,BS];by_cases c:x=a
   ·subst c;simp
   ·have h1:(x==a)=false:=Tm.mpr c;have h2:¬(Sum.inr a:Z8)=.inr x:=λe=>c (by cases e;rfl);simp only[h1,h2,decide_false];exact d
 have e:(xs.map (Sum.inr:Str->Z8)).zip (ss.map nT)=(xs.zip ss).map λp=>((Sum.inr p.1:Z8),nT p.2):=by rw[List.zip_map];rfl
 rw[e,<-DW];exact gen _
def qZ {E:Str->Option Nat}{xs:List Str}{ss:List Nat}(h:wE kvs E):wE (Vy kvs (Em J8 (xs.map Sum.inr) (ss.map nT))) (bnd xs ss E):=λx=>by
 rw[xJ,rg,h x];unfold bnd
 cases (xs.zip ss).reverse.lookup x<;>rfl
def oV {xs:List Str}{ss:List Nat}:(Em J8 (xs.map Sum.inr) (ss.map nT)).length<=xs.length:=by
 unfold Em;refine XN Gb ?_;rw[CM,XI,EW];omega
def xI {xs:List Str}{ss:List Nat}:(Vy kvs (Em J8 (xs.map Sum.inr) (ss.map nT))).length<=kvs.length+xs.length:=by
 unfold Vy;exact XN Gb (Nat.add_le_add_left oV _)
end
abbrev sS (z:List Str×Tr):List T×T:=(z.1.map T.str,tt z.2)
def oB:∀t:Tr,(∀m xs ts b,t=.lt m xs ts b->m<=10)->∃e,Sc (tt t) e (t.scs.map sS)
 | .num v,_=>⟨_,.other (by decide)⟩
 | .nm v,_=>⟨_,.other (by decide)⟩
 | .stop v,_=>⟨_,.other (by decide)⟩
 | .does _ _ _,_=>⟨_,.does⟩
 | .fn _ _,_=>⟨_,.fun_⟩
 | .call _ _,_=>⟨_,.call⟩
 | .first _ _,_=>⟨_,.first⟩
 | .lt m xs ts b,h=>by
  have hm:=h m xs ts b FQ;have e:=Sc.let_ (B:=tt b) (xs:=(List.finRange m).map λi=>(T.str (xs i),tt (ts i))) (by rw[XI,EZ];omega);refine⟨none,?_⟩;show Sc (.tup [.str "let",.tup ((List.finRange m).map λi=>.tup [.str (xs i),tt (ts i)]),tt b]) none ((((List.finRange m).map λi=>(Rm xs,ts i))++[(Rm xs,b)]).map sS);have d:((List.finRange m).map λi=>(T.str (xs i),tt (ts i))).map (·.1)=(Rm xs).map T.str:=by rw[YE,YE];rfl
  rw[d,YE,YE] at e;rw[XL,YE];exact e
 | .sh0 _,_=>⟨_,.shape (ZNB FQ)⟩
 | .sh2 _ _ _,_=>⟨_,.shape (ZNB FQ)⟩
 | .chT a n y,_=>⟨_,.choose (ys:=[(.str "No",[],tt n),(.str "Yes",[],tt y)]) (ZNB FQ)⟩
 | .chL a n x y c,_=>⟨_,.choose (ys:=[(.str "Nil",[],tt n),(.str "Cons",[.str x,.str y],tt c)]) (ZNB FQ)⟩
 | .chP a x y b,_=>⟨_,.choose (ys:=[(.str "Pair",[.str x,.str y],tt b)]) (ZNB FQ)⟩
def ir (C:Hw)(N:Nat)(p:Pl)(v:T):Prop:=∃d kv,v=.tup [tt p.2.1,.ref d,nT p.2.2]/\C d=some (.dic kv)/\wE kv p.1/\kv.length<=N
def ir.mono {A:Sd}{C C':Hw}{N:Nat}{p:Pl}{v:T}(h:ir C N p v)(S:∃u,Sl A C u)(F:Fx A C C'):ir C' N p v:=by
 obtain⟨d,kv,h1,h2,a,b⟩:=h;obtain⟨u,rk,L,S⟩:=S;exact⟨d,kv,h1,F d _ (λe=>by rw[e,S.f] at h2;cases h2) (λe=>by rw[e,S.l] at h2;cases h2) h2,a,b⟩
abbrev Oy (C:Hw)(N:Nat)(ps:List Pl)(vs:List T):Prop:=Paired (ir C N) ps vs
def Oy.mono {A:Sd}{C C':Hw}{N:Nat}{ps:List Pl}{vs:List T}(h:Oy C N ps vs)(S:∃u,Sl A C u)(F:Fx A C C'):Oy C' N ps vs:=by
 induction h with
 | nil=>exact .nil
 | cons a b c=>exact .cons (a.mono S F) c
def Oy.snoc {C:Hw}{N:Nat}{ps:List Pl}{vs:List T}{p:Pl}{v:T}(h:Oy C N ps vs)(q:ir C N p v):Oy C N (ps++[p]) (vs++[v]):=by
 induction h with
 | nil=>exact .cons q .nil
 | cons a b c=>exact .cons a c
def Oy.keep {C C':Hw}{N:Nat}{ps:List Pl}{vs:List T}(h:Oy C N ps vs)(k:∀c kv,C c=some (.dic kv)->C' c=some (.dic kv)):Oy C' N ps vs:=by
 induction h with
 | nil=>exact .nil
 | cons a b e=>
  obtain⟨d,kv,h1,h2,f,g⟩:=a;exact .cons ⟨d,kv,h1,k d kv h2,f,g⟩ e
def Sl.other {A:Sd}{C:Hw}{u:Us}{o:O}{p:WP}(S:Sl A C u)(h:p≠A.r/\p≠A.f/\p≠A.l):Sl A (up C p o) u:=by
 obtain⟨rk,L,S⟩:=S;exact⟨rk,L,S.other h.1 h.2.1 h.2.2⟩
def X2 {C:Hw}{a b:WP}{o:O}(h:C a=some o)(h':C b=none):a≠b:=λe=>by rw[e,h'] at h;cases h
def Sl.off {A:Sd}{C:Hw}{u:Us}{p:WP}(S:Sl A C u)(y:C p=none):p≠A.r/\p≠A.f/\p≠A.l:=by
 obtain⟨_,_,h⟩:=S;exact⟨λe=>(by rw[e,h.r] at y;cases y),λe=>(by rw[e,h.f] at y;cases y),λe=>(by rw[e,h.l] at y;cases y)⟩
def ju (E:Str->Option Nat)(t:Tr)(as:As):List Pl:=(t.scs.zip as).map λz=>(bnd z.1.1 z.2.1 E,z.1.2,z.2.2)
def mX {E:Str->Option Nat}{t:Tr}{as:As}(h:as.length=t.scs.length):(ju E t as).map (λz=>z.2.1)=t.scs.map (λz=>z.2):=by
 unfold ju;rw[YE];have:((λz:Pl=>z.2.1)∘λz:(List Str×Tr)×(List Nat×Nat)=>(bnd z.1.1 z.2.1 E,z.1.2,z.2.2))=(λz=>z.2)∘Prod.fst:=rfl;rw[this,<-YE,List.map_fst_zip (by omega)]
def gT {E:Str->Option Nat}{t:Tr}{as:As}(h:as.length=t.scs.length):(ju E t as).map (λz=>z.2.2)=as.map (λz=>z.2):=by
 unfold ju;rw[YE];have:((λz:Pl=>z.2.2)∘λz:(List Str×Tr)×(List Nat×Nat)=>(bnd z.1.1 z.2.1 E,z.1.2,z.2.2))=(λz=>z.2)∘Prod.snd:=rfl;rw[this,<-YE,List.map_snd_zip (by omega)]
def Dm (E:Str->Option Nat)(t:Tr)(ps:List Pl):Prop:=∀p∈ps,∃z∈t.scs,p.2.1=z.2/\∀x,(x∈z.1\/(E x).isSome=true)->(p.1 x).isSome=true
def pH {xs:List Str}{ss:List Nat}{E:Str->Option Nat}{x:Str}(b:ss.length=xs.length)(h:x∈xs\/(E x).isSome=true):(bnd xs ss E x).isSome=true:=by
 unfold bnd
 cases e:(xs.zip ss).reverse.lookup x with
 | some i=>rfl
 | none=>
  rcases h with h | h
  ·exfalso;have:x∈(xs.zip ss).reverse.map (·.1):=by
    rw[DW,FM,List.map_fst_zip (by omega)];exact h
   obtain⟨p,a,hx⟩:=XR.mp this;have hn:=List.lookup_eq_none_iff.mp e p a;rw[hx] at hn;exact absurd hn (by simp)
  ·exact h
def gU {E:Str->Option Nat}{t:Tr}{as:As}(h:as.map (λz=>z.1.length)=t.scs.map (λz=>z.1.length)):Dm E t (ju E t as):=λp a=>by
 obtain⟨z,hz,rfl⟩:=XR.mp a;refine⟨z.1,(CH hz).1,FQ,λx hx=>pH ?_ hx⟩;obtain⟨i,hi,e⟩:=List.mem_iff_getElem.mp hz;have b:(t.scs.zip as)[i]?=some z:=by rw[BD hi,e]
 obtain⟨h1,h2⟩:=BL.mp b;have k:=congrArg (λl:List Nat=>l[i]?) h;simp only[List.getElem?_map,h1,h2,Option.map_some] at k;exact YH k
def oS {E:Str->Option Nat}{t:Tr}{as:As}{σ:Nat->Kd}:(ju E t as).map (Pl.ev σ)=Av t as σ (λx=>(E x).map σ):=by
 unfold ju Av;rw[YE];congr 1
 funext z
 show((λx=>(bnd z.1.1 z.2.1 E x).map σ),z.1.2,σ z.2.2)=_;rw[<-pG]
def rD {u u':Us}{E:Str->Option Nat}{t:Tr}{s:Nat}{as:As}(h:Xl u t s u' as)(hb:∀x i,E x=some i->i<u.F.length):sK u (E,t,s) u' (ju E t as) where
 o:=h.o
 c:=h.c
 le:=h.le
 big:=h.big
 ok:=λz hz=>by
  obtain⟨y,hy,rfl⟩:=XR.mp hz;obtain⟨h1,h2⟩:=h.ok y.2 (CH hy).2;refine⟨h1,λx i e=>?_⟩;have e:bnd y.1.1 y.2.1 E x=some i:=e;unfold bnd at e
  cases l:(y.1.1.zip y.2.1).reverse.lookup x with
  | none=>rw[l] at e;exact XG (hb x i e) h.le
  | some j=>
   rw[l] at e
   cases e
   have:=BZ l;exact h2 i (CH (FM.mp this)).2
 co:=λσ cs h1 h2=>by
  obtain⟨y_,a,b,c⟩:=h.co σ _ cs h1 h2;refine⟨y_,a,b,?_⟩;rw[oS,<-c];congr 1
  funext x
  show(E x).map y_=(E x).map σ
  cases e:E x with
  | none=>rfl
  | some i=>show some (y_ i)=some (σ i);rw[a i (hb x i e)]
 so:=λσ h1=>by
  obtain⟨a,b⟩:=h.so σ (λx=>(E x).map σ) h1;exact⟨a,by rw[oS];exact b⟩
section
variable {W:Nat->Calls}{ρ x_:Prop}{A:Sd}{C C':Hw}{u:Us}{Q:WK}{χ:WX}{n s:Nat}{t:Tr}{d:WP}{kv:List (Z8×T)}{E:Str->Option Nat}
def v9:∀(t:Tr),(∀m xs ts b,t=.lt m xs ts b->m<=10)->∀z∈t.scs,z.1.length<=10
 | .num _,_,z,h=>by cases h
 | .nm _,_,z,h=>by cases h
 | .stop _,_,z,h=>by cases h
 | .sh0 _,_,z,h=>by cases h
 | .does _ _ _,_,z,h=>by simp only[Tr.scs,List.mem_cons,List.not_mem_nil,or_false] at h;rcases h with rfl | rfl<;>exact Nat.zero_le _
 | .fn _ _,_,z,h=>by rw[XQ.mp h];exact ZNB FQ
 | .call _ _,_,z,h=>by simp only[Tr.scs,List.mem_cons,List.not_mem_nil,or_false] at h;rcases h with rfl | rfl<;>exact Nat.zero_le _
 | .first _ _,_,z,h=>by simp only[Tr.scs,List.mem_cons,List.not_mem_nil,or_false] at h;rcases h with rfl | rfl<;>exact Nat.zero_le _
 | .sh2 _ _ _,_,z,h=>by simp only[Tr.scs,List.mem_cons,List.not_mem_nil,or_false] at h;rcases h with rfl | rfl<;>exact Nat.zero_le _
 | .chT _ _ _,_,z,h=>by simp only[Tr.scs,List.mem_cons,List.not_mem_nil,or_false] at h;rcases h with rfl | rfl | rfl<;>exact Nat.zero_le _
 | .chL _ _ _ _ _,_,z,h=>by simp only[Tr.scs,List.mem_cons,List.not_mem_nil,or_false] at h;rcases h with rfl | rfl | rfl<;>exact ZNB FQ
 | .chP _ _ _ _,_,z,h=>by simp only[Tr.scs,List.mem_cons,List.not_mem_nil,or_false] at h;rcases h with rfl | rfl<;>exact ZNB FQ
 | .lt m xs ts b,hm,z,h=>by
  have hm:=hm m xs ts b FQ;have e:(Rm xs).length<=10:=by rw[XI,EZ];exact hm
  rcases XS.mp h with h | h
  ·obtain⟨i,_,rfl⟩:=XR.mp h;exact e
  ·rw[XQ.mp h];exact e
def Ah (R:Rp W ρ x_){x:Str}(S:Sl A C u)(o:u.Ok)(cl:Up u [])(hs:s<u.F.length)(hn:u.F.length<=7000)(m:wE kv E)(hb:∀x i,E x=some i->i<u.F.length)(hd:C d=some (.dic kv))
  (hx:(E x).isSome=true) (w:(¬∃z_ cs,Wv u z_/\Jx (.nm x) (λx=>(E x).map z_) (z_ s) cs)->ρ)
  (q:∀C' p u' ps vs,Sl A C' u'->Fx A C C'->C p=none->C' p=some (.lst vs)->Oy C' (kv.length+10) ps vs->sK u (E,.nm x,s) u' ps->ps.map (λz=>z.2.1)=(Tr.nm x).scs.map (λz=>z.2)->Rx u s u' (ps.map (·.2.2))->Dm E (.nm x) ps->Q (.ref p) C'):W (n+6) Uj [.ref A.r,tt (.nm x),.ref d,nT s] C Q χ:=by
 refine R.o_places_within rfl ?_;unfold Jp Jr;refine⟨_,FQ,_,Yj,Z3 (v:=true) (by decide+kernel) ⟨_,FQ,Yb ?_⟩⟩;obtain⟨i,hi⟩:=CV.mp hx;have wi:(¬∃z_,Wv u z_/\z_ s=z_ i)->ρ:=λh=>w λ⟨z_,cs,t,j⟩=>h ⟨z_,t,by
  generalize z_ s=kk at j
  cases j with
  | nm h=>
   have h:(E x).map z_=some kk:=h;rw[hi] at h;exact(YH h).symm⟩
 obtain⟨rk,L,y⟩:=id S;refine⟨_,FQ,_,_,_,_,FQ,y.r,FQ,FQ,_,FQ,_,FQ,_,FQ,_,Xu,_,_,_,_,FQ,FQ,.inl hd,by rw[m x,hi];rfl,?_⟩;dsimp only[Zv];refine N2 R (n:=n+2) S o cl hs (hb x i hi) wi (by omega) λC1 u1 S1 l o1 c1 e c f B=>?_;refine⟨Jd (by show 0<=_;omega),λp g=>?_⟩;refine q _ p u1 [] [] (S1.new g) (Tl S1 l g) (Qd S1 l g) Zf .nil ⟨o1,c1,by rw[e];exact XE _,by rw[e];omega,λz hz=>(by cases hz),λσ cs h1 h2=>?_,λσ h1=>?_⟩ FQ (bE f e) (λp h=>by cases h)
 ·have h2:Jx (.nm x) (λx=>(E x).map σ) (σ s) cs:=h2;have z:cs=[]/\σ s=σ i:=by
   generalize σ s=kk at h2
   cases h2 with
   | nm h=>
    have h:(E x).map σ=some kk:=h;rw[hi] at h;exact⟨FQ,(YH h).symm⟩
  exact⟨σ,λ_ _=>rfl,(c σ).mpr ⟨h1,z.2⟩,z.1.symm⟩
 ·obtain⟨a,b⟩:=(c σ).mp h1;exact⟨a,.nm (by show(E x).map σ=some (σ s);rw[hi,b];rfl)⟩
def Ag (R:Rp W ρ x_)(ht:Tr.isNm t=false)(hl:∀m xs ts b,t=.lt m xs ts b->m<=10)(S:Sl A C u)(o:u.Ok)(cl:Up u [])(hs:s<u.F.length)(hn:u.F.length<=7000)(hE:wE kv E)(hb:∀x i,E x=some i->i<u.F.length)(hd:C d=some (.dic kv))(hk:kv.length<=90000)
  (G_:im t) (w:(¬∃z_ cs,Wv u z_/\Jx t (λx=>(E x).map z_) (z_ s) cs)->ρ)
  (q:∀C' p u' ps vs,Sl A C' u'->Fx A C C'->C p=none->C' p=some (.lst vs)->Oy C' (kv.length+10) ps vs->sK u (E,t,s) u' ps->ps.map (λz=>z.2.1)=t.scs.map (λz=>z.2)->Rx u s u' (ps.map (·.2.2))->Dm E t ps->Q (.ref p) C'):W (n+6) Uj [.ref A.r,tt t,.ref d,nT s] C Q χ:=by
 refine R.o_places_within rfl ?_;unfold Jp Jr;obtain⟨wd,r,et,hw⟩:∃(wd:Str) (r:List T),tt t=.tup (.str wd::r)/\(wd=="name")=false:=by
  cases t with
  | nm x=>cases ht
  | _=>exact⟨_,_,FQ,by decide+kernel⟩
 have HP:T.tup (.str wd::r)=tt t:=et.symm;rw[et];refine⟨_,FQ,_,Yj,Z3 (v:=false) hw ⟨_,FQ,Zn ?_⟩⟩;refine⟨Jd (by show 0<=_;omega),λj g=>?_⟩;have H:Sl A (up C j (.lst [])) u:=S.new g;have F0:Fx A C (up C j (.lst [])):=Tl S (Fx.refl _ _) g;have P0:up C j (.lst []) j=some (.lst []):=Zf;generalize up C j (.lst [])=C0 at H F0 P0;obtain⟨e,sc⟩:=oB t hl;rw[HP];refine⟨_,FQ,?_⟩;dsimp only[Zv];refine Af R (n:=n+3) sc λk C1 x1 A_ HS=>?_;have S1:Sl A C1 u:=by
  obtain⟨rk,L,H⟩:=H;exact⟨rk,L,⟨x1 _ _ H.r,x1 _ _ H.f,x1 _ _ H.l,H.lr,H.ne,H.ar⟩⟩
 have F1:Fx A C0 C1:=λc w _ _ h=>x1 c w h;refine⟨_,FQ,_,FQ,_,FQ,?_⟩;dsimp only[Zv];refine Dn R (n:=n) t ht hl S1 o cl hs hn G_ (λh=>w λ⟨z_,cs,w1,w2⟩=>h ⟨z_,_,cs,w1,w2⟩) λC2 l u2 as S2 F2 B_ C_ ask rx=>?_;have HY:∀{c:WP} {o:O} {Cx:Hw},Cx c=some o->(∃u,Sl A C1 u)->True:=λ_ _=>trivial;have D:∀{Cx:Hw} {ux:Us} {c:WP},Sl A Cx ux->Cx c=none->c≠A.f/\c≠A.l:=λ{Cx ux c} h hc=>by
  obtain⟨_,_,h⟩:=h;exact⟨λe=>(by rw[e,h.f] at hc;cases hc),λe=>(by rw[e,h.l] at hc;cases hc)⟩
 have k1:=D H A_;have l1:=D S1 B_;have p1:=D S g;have K2:C2 k=some (.lst ((t.scs.map sS).map oC)):=F2 _ _ k1.1 k1.2 HS;have P2:C2 j=some (.lst []):=F2 _ _ p1.1 p1.2 (F1 _ _ p1.1 p1.2 P0);have HU:Fx A C C2:=(F0.trans F1).trans F2;have ln:as.length=t.scs.length:=by have:=congrArg List.length ask.n;simpa using this
 refine .inr (.inr ⟨_,_,k,l,FQ,K2,C_,by rw[XI,XI,XI];exact ln.symm,?_⟩);have lz:(Ih ((t.scs.map sS).map oC) (as.map jP)).length=t.scs.length:=by unfold Ih;rw[List.length_zipWith,XI,XI,XI];omega
 have DO:d≠A.f/\d≠A.l:=by
  obtain⟨_,_,h⟩:=S;exact⟨λe=>(by rw[e,h.f] at hd;cases hd),λe=>(by rw[e,h.l] at hd;cases hd)⟩
 have D_:j≠k:=λe=>by rw[e,A_] at P0;cases P0
 have E_:j≠l:=λe=>by have:=F1 _ _ p1.1 p1.2 P0;rw[e,B_] at this;cases this
 have HW:j≠d:=λe=>by rw[e,hd] at g;cases g
 refine Ky (λi τ C'=>∃v5 v6 v7 vs,τ=[some (.ref A.r),some (tt t),some (.ref d),some (nT s),some (.ref j),v5,v6,v7]/\Sl A C' u2/\Fx A C C'/\C' j=some (.lst vs)/\Oy C' (kv.length+10) ((ju E t as).take i) vs/\
  C' k=some (.lst ((t.scs.map sS).map oC))/\C' l=some (.lst (as.map jP))) ⟨_,_,_,[],FQ,S2,HU,P2,.nil,K2,C_⟩ (λi τ C' _ h=>by obtain⟨_,_,_,_,_,_,_,_,_,h1,h2⟩:=h;exact⟨h1,h2⟩) ?_ ?_
 ·rintro i x τ C3 N hx ⟨v5,v6,v7,vs,rfl,S3,F3,P3,B,K3,L3⟩ hN;have hi:i<t.scs.length:=by rw[<-lz];exact(AZ.mp hx).1
  obtain⟨z,hz⟩:∃z,t.scs[i]?=some z:=⟨_,BD hi⟩;obtain⟨y,hy⟩:∃y,as[i]?=some y:=⟨_,BD (by omega)⟩;have F_:(Ih ((t.scs.map sS).map oC) (as.map jP))[i]?=some (.tup [oC (sS z),jP y]):=yO (by rw[XM,XM,hz];rfl) (by rw[XM,hy];rfl);rw[hx] at F_
  cases F_
  have zy:y.1.length=z.1.length:=by
   have h:=congrArg (λl:List Nat=>l[i]?) ask.n;simp only[List.getElem?_map,hz,hy,Option.map_some] at h;exact YH h
  have HZ:z.1.length<=10:=v9 t hl z (BE hz);have d3:C3 d=some (.dic kv):=F3 _ _ DO.1 DO.2 hd;refine⟨_,FQ,_,_,FQ,_,_,FQ,FQ,?_⟩;refine⟨_,FQ,_,_,FQ,.inl d3,λI a=>?_⟩;refine⟨_,FQ,⟨_,_,FQ,Zf⟩,_,FQ,_,Yj,_,FQ,_,Yj,z.1,y.1.map nT,FQ,by rw[XI];exact zy.symm,by omega,λp5 G=>?_⟩;have U:I≠p5:=λe=>by rw[<-e,Zf] at G;cases G
  refine⟨_,_,_,_,FQ,FQ,U,by rw[Zk U];exact Zf,Zf,?_,?_⟩
  ·have:=oV (xs:=z.1) (ss:=y.1);exact Jd (by omega)
  ·have Y:j≠I:=λe=>by rw[<-e,P3] at a;cases a
   have h5:C3 p5=none:=by rw[Zk U.symm] at G;exact G
   have HV:j≠p5:=λe=>by rw[<-e,P3] at h5;cases h5
   generalize hM:Vy kv (Em J8 (z.1.map Sum.inr) (y.1.map nT))=mg;have P5:up (up (up C3 I (.dic kv)) p5 (.dic (Em J8 (z.1.map Sum.inr) (y.1.map nT)))) I (.dic mg) j=some (.lst vs):=by rw[Zk Y,Zk HV,Zk Y];exact P3
   have lv:vs.length<=100000:=by
    have:=B.length;rw[YM] at this;have HX:t.scs.length<=11:=by
     have:=ask.n
     cases t with
     | lt m xs ts b=>
      have hm:=hl m xs ts b FQ;show(((List.finRange m).map λi=>(Rm xs,ts i))++[(Rm xs,b)]).length<=11;rw[List.length_append,List.length_map,List.length_finRange];simp;omega
     | _=>exact ZNB FQ
    omega
   refine⟨_,FQ,⟨_,_,FQ,P5⟩,_,FQ,_,Xu,_,FQ,_,FQ,_,Xu,Jd (by show 3<=_;omega),_,_,_,FQ,FQ,P5,Y4 lv,?_⟩;have S4:Sl A (up C3 I (.dic kv)) u2:=S3.new a;have S5:=S4.new (o:=.dic (Em J8 (z.1.map Sum.inr) (y.1.map nT))) G;have S6:=S5.other (o:=.dic mg) (S3.off a);have S7:=S6.other (o:=.lst (vs++[.tup [tt z.2,.ref I,nT y.2]])) (S.off g);have c4:=Qd S3 F3 a;have c5:=Qd S3 F3 h5;refine hN _ _ ⟨_,_,_,_,FQ,S7,λc w m1 m2 h=>?_,Zf,?_,?_,?_⟩
   ·rw[Zk (X2 h g),Zk (X2 h c4),Zk (X2 h c5),Zk (X2 h c4)];exact F3 c w m1 m2 h
   ·have hm:(ju E t as)[i]?=some (bnd z.1 y.1 E,z.2,y.2):=by
     unfold ju;rw[XM,show(t.scs.zip as)[i]?=some (z,y) from BL.mpr ⟨hz,hy⟩];rfl
    rw[YD,hm];refine Oy.snoc (B.keep λc kv' h=>?_) ⟨I,mg,FQ,by rw[Zk Y.symm];exact Zf,?_,?_⟩
    ·rw[Zk (λe=>by rw[e,P3] at h;cases h),Zk (X2 h a),Zk (X2 h h5),Zk (X2 h a)];exact h
    ·rw[<-hM];exact qZ hE
    ·have:=xI (kvs:=kv) (xs:=z.1) (ss:=y.1);rw[hM] at this;omega
   ·rw[Zk D_.symm,Zk (X2 K3 a),Zk (X2 K3 h5),Zk (X2 K3 a)];exact K3
   ·rw[Zk E_.symm,Zk (X2 L3 a),Zk (X2 L3 h5),Zk (X2 L3 a)];exact L3
 ·rintro τ C3 ⟨v5,v6,v7,vs,rfl,S3,F3,P3,B,K3,L3⟩;rw[lz] at B;refine⟨_,FQ,?_⟩;have tk:(ju E t as).take t.scs.length=ju E t as:=List.take_of_length_le (by unfold ju;rw[XI,CM];omega);rw[tk] at B;exact q C3 j u2 _ vs S3 F3 g P3 B (rD ask hb) (mX ln) (by rw[gT ln];exact rx) (gU ask.n)
def vD (R:Rp W ρ x_)(f:∀m xs ts b,t=.lt m xs ts b->m<=10)(S:Sl A C u)(o:u.Ok)(cl:Up u [])(hs:s<u.F.length)(hn:u.F.length<=7000)(c:wE kv E)(hb:∀x i,E x=some i->i<u.F.length)(hd:C d=some (.dic kv))(hk:kv.length<=90000)
  (a:im t) (hx:∀x,t=.nm x->(E x).isSome=true) (w:(¬∃z_ cs,Wv u z_/\Jx t (λx=>(E x).map z_) (z_ s) cs)->ρ)
  (q:∀C' p u' ps vs,Sl A C' u'->Fx A C C'->C p=none->C' p=some (.lst vs)->Oy C' (kv.length+10) ps vs->sK u (E,t,s) u' ps->ps.map (λz=>z.2.1)=t.scs.map (λz=>z.2)->Rx u s u' (ps.map (·.2.2))->Dm E t ps->Q (.ref p) C'):W (n+6) Uj [.ref A.r,tt t,.ref d,nT s] C Q χ:=by
 cases e:Tr.isNm t with
 | false=>exact Ag R e f S o cl hs hn c hb hd hk a w q
 | true=>
  cases t with
  | nm x=>exact Ah R S o cl hs hn c hb hd (hx x FQ) w q
  | _=>cases e
def Oy.app {C:Hw}{N:Nat}{ps qs:List Pl}{vs ws:List T}(h:Oy C N ps vs)(q:Oy C N qs ws):Oy C N (ps++qs) (vs++ws):=by
 induction h with
 | nil=>exact q
 | cons a b c=>exact .cons a c
def Oy.rev {C:Hw}{N:Nat}{ps:List Pl}{vs:List T}(h:Oy C N ps vs):Oy C N ps.reverse vs.reverse:=by
 induction h with
 | nil=>exact .nil
 | cons a b c=>rw[BY,BY];exact c.app (.cons a .nil)
def Oy.more {C:Hw}{N M:Nat}{ps:List Pl}{vs:List T}(h:Oy C N ps vs)(k:N<=M):Oy C M ps vs:=by
 induction h with
 | nil=>exact .nil
 | cons a b c=>
  obtain⟨d,kv,h1,h2,e,f⟩:=a;exact .cons ⟨d,kv,h1,h2,e,XN f k⟩ c
def vv:∀t:Tr,1<=t.size:=λt=>by have:=Ad t;omega
def Dx:∀ps:List Pl,ps.length<=rW ps
 | []=>XE _
 | p::ps=>by
  have h:=Dx ps;have h2:=vv p.2.1;unfold rW at h |-;rw[YI,FJ,YF];omega
def Oy.last {C:Hw}{N:Nat}{ps:List Pl}{p:Pl}{vs:List T}(h:Oy C N (p::ps).reverse vs):∃ws v,vs=ws++[v]/\Oy C N ps.reverse ws/\ir C N p v:=by
 have r:=h.rev;rw[FD] at r
 cases e:vs.reverse with
 | nil=>rw[e] at r;cases r
 | cons v w=>
  rw[e] at r
  cases r with
  | cons a b=>
   refine⟨w.reverse,v,?_,Oy.rev b,a⟩;have:=congrArg List.reverse e;rw[FD,BY] at this;exact this
def Ce:Nat->List Str->Tr->Prop
 | 0,_,_=>False
 | m+1,bs,t=>(∀x,t=.nm x->x∈bs)/\im t/\∀z∈t.scs,Ce m (bs++z.1) z.2
def Zai (p:Pl):Prop:=∃m bs,Ce m bs p.2.1/\∀x∈bs,(p.1 x).isSome=true
def xo (R:Rp W ρ x_)(hl:t.lok)(hz:t.size<=600)(IC:t.cost<=6000){mm:Nat}(HX:Ce mm [] t)(hw:(¬∃k R,HT G0 t k R)->ρ){rt:Nat->Nat}(S:Sl A C ⟨rt,[]⟩)
  (q:∀C' p u p_,Sl A C' u->Fx A C C'->C p=none->C' p=some (.lst (p_.map nT))->Kn t u p_ []->(∀x,x<u.F.length->Ka u p_ x)->Q (.ref p) C'):W (n+7) Eh [.ref A.r,tt t] C Q χ:=by
 refine R.o_rows_of FQ ?_;unfold Ri Rq;refine⟨Jd (by show 0<=_;omega),λo_ g=>?_⟩;have S0:=S.new (o:=.lst []) g;have F0:Fx A C (up C o_ (.lst [])):=Tl S (Fx.refl _ _) g;have P0:up C o_ (.lst []) o_=some (.lst []):=Zf;generalize up C o_ (.lst [])=C0 at S0 F0 P0;refine⟨_,FQ,λpd G=>?_⟩;have S1:=S0.new (o:=.dic []) G;have F1:Fx A C (up C0 pd (.dic [])):=Tl S0 F0 G;have D1:up C0 pd (.dic []) pd=some (.dic []):=Zf;have P1:up C0 pd (.dic []) o_=some (.lst []):=by rw[Zk (X2 P0 G)];exact P0
 generalize up C0 pd (.dic [])=C1 at S1 F1 D1 P1;have HY:(⟨rt,[]⟩:Us).Ok:=⟨λx hx=>absurd hx (Nat.not_lt_zero _),λx hx=>absurd hx (Nat.not_lt_zero _),λx f hx=>by simp at hx⟩;refine Jq R (n:=n+4) S1 HY (XO _) FQ λC2 S2 F2=>?_;refine⟨Jd (by show 3<=_;omega),Jd (by show 1<=_;omega),λa b=>?_⟩;have j:=S.off g;have P2:C2 o_=some (.lst []):=F2 _ _ j.2.1 j.2.2 P1;have D_:=S0.off G;have D2:C2 pd=some (.dic []):=F2 _ _ D_.2.1 D_.2.2 D1;have E_:Fx A C C2:=F1.trans F2;have H:=S2.off b;have I:o_≠a:=X2 P2 b;have F_:=Qd S2 E_ b;refine Pq (λm τ C'=>∃v4 u p_ ps vs,τ=[some (.ref A.r),some (tt t),some (.ref o_),some (.ref a),v4]/\Sl A C' u/\Fx A C C'/\C' o_=some (.lst (p_.map nT))/\C' a=some (.lst vs)/\Oy C' (10*p_.length) ps.reverse vs/\Kn t u p_ ps/\(∀p∈ps,Zai p)/\(∀x,x<u.F.length->Ka u (p_++ps.map (·.2.2)) x)/\m=rW ps) (m:=rW [((λ_=>none),t,0)])
  ⟨none,_,[],[((λ_=>none),t,0)],_,FQ,S2.new b,Tl S2 E_ b,by rw[Zk I];exact P2,Zf,.cons ⟨pd,[],FQ,by rw[Zk (X2 D2 b)];exact D2,λx=>rfl,XO _⟩ .nil,Kn.start hl _ (XY FQ),λp h=>(by rw[XQ.mp h];exact⟨mm,[],HX,λx h=>(by cases h)⟩),λx h=>(by
   have:x=0:=by have h:x<1:=h;omega
   subst this;exact .row (XQ.mpr FQ)),FQ⟩ ?_
 rintro m τ C3 N ⟨v4,u3,p_,ps,vs,rfl,S3,F3,R3,P3,HZ,l,G_,HP,rfl⟩ hN;refine⟨_,FQ,Jd (by show 0<=_;omega),λp' B=>?_⟩;have P4:up C3 p' (.lst []) a=some (.lst vs):=by rw[Zk (X2 P3 B)];exact P3
 refine Hc P4 Zf ⟨_,FQ,?_⟩;have S4:Sl A (up C3 p' (.lst [])) u3:=S3.new B;have F4:Fx A C (up C3 p' (.lst [])):=Tl S3 F3 B;have R4:up C3 p' (.lst []) o_=some (.lst (p_.map nT)):=by rw[Zk (X2 R3 B)];exact R3
 have C_:Oy (up C3 p' (.lst [])) (10*p_.length) ps.reverse vs:=HZ.keep λc kv h=>by rw[Zk (X2 h B)];exact h
 generalize up C3 p' (.lst [])=U at P4 S4 F4 R4 C_
 cases ps with
 | nil=>
  have:vs=[]:=by have:=C_.length;exact EK.mp this.symm
  subst this;refine Zn ⟨_,FQ,?_⟩;exact q U o_ u3 p_ S4 F4 g R4 l (λx h=>by have:=HP x h;rwa [EV,YK] at this)
 | cons p ps=>
  obtain⟨ws,v,rfl,HS,d,kv,rfl,hd,hE,ID⟩:=C_.last;have ne:(!(ws++[T.tup [tt p.2.1,.ref d,nT p.2.2]]).isEmpty)=true:=by simp
  rw[ne];refine Yb ?_;have last:(ws++[T.tup [tt p.2.1,.ref d,nT p.2.2]])[(ws++[T.tup [tt p.2.1,.ref d,nT p.2.2]]).length-1]?=some (T.tup [tt p.2.1,.ref d,nT p.2.2]):=by simp
  have dl:(ws++[T.tup [tt p.2.1,.ref d,nT p.2.2]]).dropLast=ws:=by simp
  refine⟨_,FQ,⟨_,_,FQ,P4⟩,_,_,_,FQ,FQ,P4,last,?_⟩;rw[dl];have sz:=l.sz;have lp:=Dx (p::ps);rw[YF] at lp;have lw:ws.length=ps.length:=by have:=HS.length;rw[CK] at this;omega
  have S5:=S4.other (o:=.lst ws) H;have R5:up U a (.lst ws) o_=some (.lst (p_.map nT)):=by rw[Zk I];exact R4
  have P5:up U a (.lst ws) a=some (.lst ws):=Zf;have H_:∀{c:WP} {kv:List (Z8×T)},U c=some (.dic kv)->c≠a:=λh e=>by rw[e,P4] at h;cases h
  have k5:∀c kv,U c=some (.dic kv)->up U a (.lst ws) c=some (.dic kv):=λc kv h=>by rw[Zk (H_ h)];exact h
  have F5:Fx A C (up U a (.lst ws)):=λc w m1 m2 h=>by rw[Zk (X2 h F_)];exact F4 c w m1 m2 h
  have d5:=k5 _ _ hd;have Y:=HS.keep k5;generalize up U a (.lst ws)=C5 at S5 R5 P5 F5 d5 Y;refine⟨_,FQ,⟨_,_,FQ,R5⟩,_,FQ,_,Pm,_,_,_,FQ,FQ,R5,Y4 (by rw[XI];omega),?_⟩;have er:p_.map nT++[nT p.2.2]=(p_++[p.2.2]).map nT:=by rw[XL];rfl
  rw[er];have S6:=S5.other (o:=.lst ((p_++[p.2.2]).map nT)) j;have P6:up C5 o_ (.lst ((p_++[p.2.2]).map nT)) a=some (.lst ws):=by rw[Zk I.symm];exact P5
  have R6:up C5 o_ (.lst ((p_++[p.2.2]).map nT)) o_=some (.lst ((p_++[p.2.2]).map nT)):=Zf;have k6:∀c kv,C5 c=some (.dic kv)->up C5 o_ (.lst ((p_++[p.2.2]).map nT)) c=some (.dic kv):=λc kv h=>by rw[Zk λe=>by rw[e,R5] at h;cases h];exact h
  have F6:Fx A C (up C5 o_ (.lst ((p_++[p.2.2]).map nT))):=λc w m1 m2 h=>by rw[Zk (X2 h g)];exact F5 c w m1 m2 h
  have d6:=k6 _ _ d5;have A_:=Y.keep k6;generalize up C5 o_ (.lst ((p_++[p.2.2]).map nT))=C6 at S6 P6 R6 F6 d6 A_;obtain⟨hok,HU⟩:=l.pk p (BA ..);have ww:(¬∃z_ cs,Wv u3 z_/\Jx p.2.1 (λx=>(p.1 x).map z_) (z_ p.2.2) cs)->ρ:=λh=>hw λ⟨kk,RR,hT⟩=>by
   obtain⟨z_,R',w1,w2,w3⟩:=l.co kk RR hT;obtain⟨cs,r',w4,_,_⟩:=w3.take;exact h ⟨z_,cs,w1,w4⟩
  obtain⟨m3,IA,L,B_⟩:=G_ p (BA ..);obtain⟨m3,rfl⟩:∃k,m3=k+1:=by cases m3 with
   | zero=>exact L.elim
   | succ k=>exact⟨k,FQ⟩
  have ln:=l.len;refine⟨_,FQ,⟨_,_,FQ,P6⟩,_,FQ,_,FQ,_,Yj,_,FQ,_,Xu,_,FQ,_,Pm,?_⟩;dsimp only[Zv];refine vD R (n:=n) (t:=p.2.1) (E:=p.1) (s:=p.2.2) (Dw HU).1 S6 l.o l.c hok.1 (by omega) hE hok.2 d6 (by omega) L.2.1 (λx h=>B_ x (L.1 x h)) ww λC7 p7 u7 qs v7 S7 F7 IE P7 HV st hq DO IB=>?_;have P8:C7 a=some (.lst ws):=F7 _ _ H.2.1 H.2.2 P6;have R8:C7 o_=some (.lst ((p_++[p.2.2]).map nT)):=F7 _ _ j.2.1 j.2.2 R6;refine⟨_,_,FQ,P7,λp8 D=>?_⟩;have K9:=l.step st hq;have lq:=Dx (qs++ps);have s9:=K9.sz;rw[AY] at lq;have l7:v7.length=qs.length:=HV.length.symm;have P9:up C7 p8 (.lst v7.reverse) a=some (.lst ws):=by rw[Zk (X2 P8 D)];exact P8
  refine⟨_,_,_,_,FQ,FQ,P9,Zf,by rw[CK];exact Jd (by omega),?_⟩;have S8:=S7.new (o:=.lst v7.reverse) D;have S9:=S8.other (o:=.lst (ws++v7.reverse)) H;have HW:=F6.trans F7;have c8:=Qd S7 HW D;have k9:∀c kv,C7 c=some (.dic kv)->up (up C7 p8 (.lst v7.reverse)) a (.lst (ws++v7.reverse)) c=some (.dic kv):=λc kv h=>by
   rw[Zk (λe=>by rw[e,P8] at h;cases h),Zk (X2 h D)];exact h
  refine hN (rW (qs++ps)) _ _ (by rw[AY,BC] at s9;omega) ⟨_,u7,p_++[p.2.2],qs++ps,_,FQ,S9,λc w m1 m2 h=>?_,?_,Zf,?_,K9,?_,?_,FQ⟩
  ·rw[Zk (X2 h F_),Zk (X2 h c8)];exact HW c w m1 m2 h
  ·rw[Zk I,Zk (X2 R8 D)];exact R8
  ·rw[List.reverse_append];have lr:(p_++[p.2.2]).length=p_.length+1:=by rw[AY];rfl
   rw[lr];refine Oy.app ?_ ?_
   ·exact((Oy.mono A_ ⟨_,S6⟩ F7).keep k9).more (by omega)
   ·exact(HV.rev.keep k9).more (by omega)
  ·intro z hz
   rcases XS.mp hz with h | h
   ·obtain⟨y,hy,e1,e2⟩:=IB z h;refine⟨m3,IA++y.1,by rw[e1];exact L.2.2 y hy,λx hx=>e2 x ?_⟩
    rcases XS.mp hx with h | h
    ·exact .inr (B_ x h)
    ·exact .inl h
   ·exact G_ z (XV _ h)
  ·intro x hx;by_cases c:x<u3.F.length
   ·refine((HP x c).lift l.o (λi hi=>?_) DO.mo DO.ex).1.more λi hi=>.row ?_
    ·rcases XS.mp hi with h | h
     ·exact l.rl i h
     ·obtain⟨z,hz,rfl⟩:=XR.mp h;exact(l.pk z hz).1.1
    ·rw[XL];rw[YI] at hi;simp only[List.mem_append,List.mem_cons,List.not_mem_nil,or_false] at hi |-
     rcases hi with h | h | h
     ·exact .inl (.inl h)
     ·exact .inl (.inr h)
     ·exact .inr (.inr h)
   ·refine(DO.rc x (by omega) hx).more λi hi=>.row ?_;rw[XL];simp only[List.mem_append,List.mem_cons,List.not_mem_nil,or_false] at hi |-
    rcases hi with h | h
    ·exact .inl (.inr h)
    ·exact .inr (.inl h)
end
end K25
namespace Fn
def Kd.sz:Kd->Nat
 | .op _=>1
 | .k0 _=>1
 | .k1 _ a=>1+a.sz
 | .k2 _ a b=>1+(a.sz+b.sz)
def Kd.ops:Kd->List Nat
 | .op n=>[n]
 | .k0 _=>[]
 | .k1 _ a=>a.ops
 | .k2 _ a b=>a.ops++b.ops
def ext (b l:List Nat):List Nat:=l.foldl (λa j=>if j∈a then a else a++[j]) b
def jC {a l m:List Nat}:ext a (l++m)=ext (ext a l) m:=DL ..
def tq {a:List Nat}:∀{l:List Nat},(∀j∈l,j∈a)->ext a l=a
 | [],_=>rfl
 | j::l,h=>by
  show ext (if j∈a then a else a++[j]) l=a;rw[XY (h j (BA ..))];exact tq λi hi=>h i (XV _ hi)
structure Ms where
 P:List Nat
 M:Nat->Option Kd
 O:List Nat
 B:List Nat
def set (M:Nat->Option Kd)(r:Nat)(k:Kd):Nat->Option Kd:=λq=>if q=r then some k else M q
def vl (M:Nat->Option Kd)(q:Nat):Kd:=(M q).getD (.op 0)
def Us.within (u:Us)(f:Fm):List Nat:=f.ps.map u.rt
def Us.told (u:Us)(M:Nat->Option Kd)(f:Fm):Kd:=f.ev λp=>vl M (u.rt p)
inductive ij (u:Us):Ms->Ms->Prop
 | skip {r P M O B k}:M r=some k->ij u ⟨r::P,M,O,B⟩ ⟨P,M,O,B⟩
 | opn {r P M O B}:M r=none->u.F[r]?=some none->ij u ⟨r::P,M,O,B⟩ ⟨P,set M r (.op O.length),O++[r],B⟩
 | beg {r P M O B f}:M r=none->u.F[r]?=some (some f)->r∉B->(∀q∈u.within f,¬(q∈r::B/\M q=none))->ij u ⟨r::P,M,O,B⟩ ⟨u.within f++r::P,M,O,r::B⟩
 | fin {r P M O B f}:M r=none->u.F[r]?=some (some f)->r∈B->(∀q∈u.within f,M q≠none)->ij u ⟨r::P,M,O,B⟩ ⟨P,set M r (u.told M f),O,B⟩
inductive sO (u:Us):Ms->Nat->Ms->Prop
 | done {s}:sO u s 0 s
 | step {s s' s'' n}:ij u s s'->sO u s' n s''->sO u s (n+1) s''
def sO.app {u:Us}{s s' s'':Ms}{n m:Nat}(h:sO u s n s')(q:sO u s' m s''):sO u s (n+m) s'':=by
 induction h with
 | done=>rw[Nat.zero_add];exact q
 | step a b c=>rw[Nat.add_right_comm];exact .step a (c q)
structure E6 (u:Us)(M:Nat->Option Kd)(O:List Nat):Prop where
 root:∀q k,M q=some k->q<u.F.length/\u.rt q=q
 opn:∀q k,M q=some k->u.F[q]?=some none->∃i,k=.op i/\O[i]?=some q
 frm:∀q k f,M q=some k->u.F[q]?=some (some f)->k=u.told M f/\∀p∈u.within f,M p≠none
 ops:∀q k,M q=some k->∀j∈k.ops,j<O.length
 num:∀i q,O[i]?=some q->M q=some (.op i)/\u.F[q]?=some none
structure bo (u:Us)(μ:Nat->Nat)(r:Nat)(M:Nat->Option Kd)(O B:List Nat)(M':Nat->Option Kd)(O' B':List Nat):Prop where
 rd:E6 u M' O'
 keep:∀q k,M q=some k->M' q=some k
 low:∀q,M q=none->M' q≠none->μ q<=μ r
 here:∃k,M' r=some k/\ext (List.range O.length) k.ops=List.range O'.length
 beg:∀q∈B',q∈B\/M' q≠none
 sub:∀q∈B,q∈B'
section
variable {u:Us}{μ:Nat->Nat}{r:Nat}{M M':Nat->Option Kd}{O B:List Nat}
def J3 {k:Kd}:set M r k r=some k:=XY FQ
def J4 {q:Nat}{k:Kd}(h:q≠r):set M r k q=M q:=XX h
def O0 {f:Fm}(h:∀p∈u.within f,M p=M' p):u.told M f=u.told M' f:=Me λp a=>by
 unfold vl;rw[h _ (XR.mpr ⟨p,a,FQ⟩)]
def vL {f:Fm}(R:E6 u M O)(s:r<u.F.length/\u.rt r=r)(hn:M r=none)(o:u.F[r]?=some (some f))(hw:∀q∈u.within f,M q≠none):E6 u (set M r (u.told M f)) O:=by
 have ne:∀{q k},M q=some k->q≠r:=λh e=>by rw[e,hn] at h;cases h
 have l:∀q,M q≠none->set M r (u.told M f) q=M q:=λq h=>J4 λe=>h (by rw[e];exact hn);refine⟨λq k h=>?_,λq k h m=>?_,λq k g h n=>?_,λq k h j hj=>?_,λi q h=>?_⟩
 ·by_cases c:q=r
  ·rw[c];exact s
  ·rw[J4 c] at h;exact R.root q k h
 ·by_cases c:q=r
  ·rw[c,o] at m;cases m
  ·rw[J4 c] at h;exact R.opn q k h m
 ·by_cases c:q=r
  ·subst c;rw[o] at n
   cases n
   rw[J3] at h
   cases h
   exact⟨O0 λp d=>(l p (hw p d)).symm,λp d=>by rw[l p (hw p d)];exact hw p d⟩
  ·rw[J4 c] at h;obtain⟨h1,h2⟩:=R.frm q k g h n;exact⟨h1.trans (O0 λp d=>(l p (h2 p d)).symm),λp d=>by rw[l p (h2 p d)];exact h2 p d⟩
 ·by_cases c:q=r
  ·subst c;rw[J3] at h
   cases h
   have pv:∀p∈f.ps,∀j∈(vl M (u.rt p)).ops,j<O.length:=λp d j hj=>by
    cases e:M (u.rt p) with
    | none=>exact absurd e (hw _ (XR.mpr ⟨p,d,FQ⟩))
    | some k=>unfold vl at hj;rw[e] at hj;exact R.ops _ k e j hj
   cases f with
   | f0 g=>cases hj
   | f1 g a=>exact pv a (by simp[Fm.ps]) j hj
   | f2 g a b=>
    rcases XS.mp hj with hj | hj
    ·exact pv a (by simp[Fm.ps]) j hj
    ·exact pv b (by simp[Fm.ps]) j hj
  ·rw[J4 c] at h;exact R.ops q k h j hj
 ·obtain⟨h1,h2⟩:=R.num i q h;exact⟨by rw[J4 (ne h1)];exact h1,h2⟩
def vK (R:E6 u M O)(l:r<u.F.length/\u.rt r=r)(hn:M r=none)(f:u.F[r]?=some none):E6 u (set M r (.op O.length)) (O++[r]):=by
 have b:∀q,M q≠none->set M r (.op O.length) q=M q:=λq h=>J4 λe=>h (by rw[e];exact hn);refine⟨λq k h=>?_,λq k h m=>?_,λq k g h d=>?_,λq k h j hj=>?_,λi q h=>?_⟩
 ·by_cases c:q=r
  ·rw[c];exact l
  ·rw[J4 c] at h;exact R.root q k h
 ·by_cases c:q=r
  ·subst c;rw[J3] at h
   cases h
   exact⟨O.length,FQ,by rw[BJ (XE _),DT];rfl⟩
  ·rw[J4 c] at h;obtain⟨i,h1,h2⟩:=R.opn q k h m;exact⟨i,h1,by rw[BM (AZ.mp h2).1];exact h2⟩
 ·by_cases c:q=r
  ·subst c;rw[f] at d;cases d
  ·rw[J4 c] at h;obtain⟨h1,h2⟩:=R.frm q k g h d;exact⟨h1.trans (O0 λp a=>(b p (h2 p a)).symm),λp a=>by rw[b p (h2 p a)];exact h2 p a⟩
 ·rw[AY,BC];by_cases c:q=r
  ·subst c;rw[J3] at h
   cases h
   rw[XQ.mp hj];omega
  ·rw[J4 c] at h;have:=R.ops q k h j hj;omega
 ·by_cases c:i<O.length
  ·rw[BM c] at h;obtain⟨h1,h2⟩:=R.num i q h;exact⟨by rw[b q (by rw[h1];intro z;cases z)];exact h1,h2⟩
  ·have hi:i=O.length:=by
    have:=(AZ.mp h).1;rw[AY,BC] at this;omega
   subst hi;rw[BJ (XE _),DT] at h
   cases h
   exact⟨J3,f⟩
def mI {f:Fm}{g:Nat->Kd}:(f.ev g).ops=(f.ps.map λp=>(g p).ops).flatten:=by
 cases f with
 | f0 w=>rfl
 | f1 w a=>show(g a).ops=(g a).ops++[];rw[YK]
 | f2 w a b=>show(g a).ops++(g b).ops=(g a).ops++((g b).ops++[]);rw[YK]
def kX (u:Us)(μ:Nat->Nat)(n:Nat):Prop:=∀r P M O B,μ r<n->r<u.F.length->u.rt r=r->E6 u M O->(∀q∈B,M q=none->μ r<μ q)->∃k M' O' B',sO u ⟨r::P,M,O,B⟩ k ⟨P,M',O',B'⟩/\bo u μ r M O B M' O' B'
def Am {m:Nat}(o:kX u μ m){P:List Nat}:∀(ws:List Nat) (M:Nat->Option Kd) (O B:List Nat),(∀w∈ws,w<u.F.length/\u.rt w=w/\μ w<m)->(∀q∈B,M q=none->m<=μ q)->E6 u M O->
  ∃k M' O' B',sO u ⟨ws++P,M,O,B⟩ k ⟨P,M',O',B'⟩/\E6 u M' O'/\(∀q k,M q=some k->M' q=some k)/\(∀q,M q=none->M' q≠none->μ q<m)/\(∀w∈ws,M' w≠none)/\
   ext (List.range O.length) (ws.map λw=>(vl M' w).ops).flatten=List.range O'.length/\(∀q∈B',q∈B\/M' q≠none)/\∀q∈B,q∈B'
 | [],M,O,B,_,_,R=>⟨0,M,O,B,.done,R,λ_ _ h=>h,λq h h'=>absurd h h',λw h=>(by cases h),FQ,λq h=>.inl h,λq h=>h⟩
 | w::ws,M,O,B,hw,p,R=>by
  obtain⟨s,t,f⟩:=hw w (BA ..);obtain⟨k1,M1,x,y,A,a⟩:=o w (ws++P) M O B f s t R λq hq h=>XG f (p q hq h);have b:∀q,M1 q=none->M q=none:=λq h=>by
   cases e:M q with
   | none=>rfl
   | some k=>rw[a.keep q k e] at h;cases h
  obtain⟨k2,M2,C,D,E,R2,d,g,i,j,l,n⟩:=Am o ws M1 x y (λv hv=>hw v (XV _ hv)) (λq hq h=>p q ((a.beg q hq).resolve_right λz=>z h) (b q h)) a.rd;obtain⟨kk,h1,h2⟩:=a.here;have r:M2 w=some kk:=d w kk h1;refine⟨k1+k2,M2,C,D,A.app E,R2,λq k h=>d q k (a.keep q k h),λq h h'=>?_,λv hv=>?_,?_,λq hq=>?_,λq hq=>n q (a.sub q hq)⟩
  ·by_cases c:M1 q=none
   ·exact g q c h'
   ·exact EC (a.low q h c) f
  ·rcases BB.mp hv with rfl | hv
   ·rw[r];intro z;cases z
   ·exact i v hv
  ·rw[YI,List.flatten_cons,jC];have:vl M2 w=kk:=by unfold vl;rw[r];rfl
   rw[this,h2];exact j
  ·rcases l q hq with h | h
   ·rcases a.beg q h with h | h
    ·exact .inl h
    ·refine .inr λz=>h ?_
     cases e:M1 q with
     | none=>rfl
     | some k=>rw[d q k e] at z;cases z
   ·exact .inr h
def lO (o:u.Ok)(g:∀r f,r<u.F.length->u.rt r=r->u.F[r]?=some (some f)->∀q∈u.within f,μ q<μ r):∀n,kX u μ n
 | 0=>λr P M O B h=>absurd h (EA _)
 | n+1=>λr P M O B hn a b R t=>by
  cases e:M r with
  | some k=>
   refine⟨1,M,O,B,.step (.skip e) .done,R,λ_ _ h=>h,λq h h'=>absurd h h',⟨k,e,tq λj hj=>EH.mpr (R.ops r k e j hj)⟩,λq h=>.inl h,λq h=>h⟩
  | none=>
   obtain⟨D,d⟩:∃f,u.F[r]?=some f:=⟨_,BD a⟩
   cases D with
   | none=>
    refine⟨1,_,_,B,.step (.opn e d) .done,vK R ⟨a,b⟩ e d,λq k h=>?_,λq h h'=>?_,⟨_,J3,?_⟩,λq h=>.inl h,λq h=>h⟩
    ·rw[J4 λz=>by rw[z,e] at h;cases h];exact h
    ·by_cases c:q=r
     ·rw[c];exact XE _
     ·rw[J4 c] at h';exact absurd h h'
    ·show(if O.length∈List.range O.length then List.range O.length else List.range O.length++[O.length])=_;rw[if_neg (by simp),List.length_append,List.length_singleton,List.range_succ]
   | some f=>
    have hw:=g r f a b d;have E:r∉B:=λh=>BH _ (t r h e);have wr:∀w∈u.within f,w<u.F.length/\u.rt w=w/\μ w<μ r:=λw h=>by
     obtain⟨p,G,rfl⟩:=XR.mp h;have:=o.ps r f d p G;exact⟨o.lt p this,o.id p this,hw _ h⟩
    have nb:∀q∈u.within f,¬(q∈r::B/\M q=none):=λq h z=>by
     have l:=hw q h
     rcases BB.mp z.1 with c | c
     ·rw[c] at l;exact BH _ l
     ·exact BH _ (Nat.lt_trans l (t q c z.2))
    have H:kX u μ (μ r):=λr' P' M' O' B' h=>lO o g n r' P' M' O' B' (by omega);obtain⟨k2,M2,I,L,N,R2,v,i,m,x,A,s⟩:=Am H (P:=r::P) (u.within f) M O (r::B) wr (λq hq h=>by
     rcases BB.mp hq with c | c
     ·rw[c];exact XE _
     ·exact CG (t q c h)) R
    have C:M2 r=none:=by
     cases z:M2 r with
     | none=>rfl
     | some k=>exact absurd (i r e (by rw[z];intro y;cases y)) (BH _)
    refine⟨1+(k2+1),_,I,L,.app (.step (.beg e d E nb) .done) (N.app (.step (.fin C d (s r (BA ..)) m) .done)),vL R2 ⟨a,b⟩ C d m,λq k h=>?_,λq h h'=>?_,⟨_,J3,?_⟩,λq hq=>?_,λq hq=>s q (XV _ hq)⟩
    ·rw[J4 λz=>by rw[z,e] at h;cases h];exact v q k h
    ·by_cases c:q=r
     ·rw[c];exact XE _
     ·rw[J4 c] at h';exact CG (i q h h')
    ·rw[<-x];congr 1;show(f.ev λp=>vl M2 (u.rt p)).ops=_;rw[mI];unfold Us.within;rw[YE];rfl
    ·rcases A q hq with h | h
     ·rcases BB.mp h with c | c
      ·exact .inr (by rw[c,J3];intro z;cases z)
      ·exact .inl c
     ·exact .inr (by
       by_cases c:q=r
       ·rw[c,J3];intro z;cases z
       ·rw[J4 c];exact h)
end
def u8 {u:Us}{z_:Nat->Kd}(o:u.Ok)(h:Wv u z_):∀r f,r<u.F.length->u.rt r=r->u.F[r]?=some (some f)->∀q∈u.within f,(z_ q).sz<(z_ r).sz:=λr f _ _ d q hq=>by
 obtain⟨p,c,rfl⟩:=XR.mp hq;rw[<-h.1 p (o.ps r f d p c),h.2 r f d]
 cases f with
 | f0 g=>cases c
 | f1 g a=>rw[XQ.mp c];show _<1+(z_ a).sz;omega
 | f2 g a b=>
  simp only[Fm.ps,List.mem_cons,List.not_mem_nil,or_false] at c;show _<1+((z_ a).sz+(z_ b).sz)
  rcases c with rfl | rfl<;>omega
structure pW (u:Us)(p_:List Nat)(M:Nat->Option Kd)(O:List Nat):Prop where
 rd:E6 u M O
 all:∀i∈p_,M (u.rt i)≠none
 num:ext [] (p_.map λi=>(vl M (u.rt i)).ops).flatten=List.range O.length
def vM {u:Us}:E6 u (λ_=>none) []:=⟨λq k h=>(by cases h),λq k h=>(by cases h),λq k f h=>(by cases h),λq k h=>(by cases h),λi q h=>by simp at h⟩
def Kd.put (θ:Nat->Kd):Kd->Kd
 | .op n=>θ n
 | .k0 g=>.k0 g
 | .k1 g a=>.k1 g (a.put θ)
 | .k2 g a b=>.k2 g (a.put θ) (b.put θ)
def mf {θ:Nat->Kd}{f:Fm}{g:Nat->Kd}:(f.ev g).put θ=f.ev λp=>(g p).put θ:=by cases f<;>rfl
structure oy (t:Tr)(R:List Kd):Prop where
 is:∃k,HT G0 t k R
 wide:∀k' R',HT G0 t k' R'->∃θ,R'=R.map (Kd.put θ)
 num:∃n,ext [] (R.map Kd.ops).flatten=List.range n
section
variable {u:Us}{M:Nat->Option Kd}{O p_:List Nat}{σ z_:Nat->Kd}{t:Tr}
def E4 (o:u.Ok)(h:Wv u z_):∀(l:List Nat) (M:Nat->Option Kd) (O:List Nat),(∀i∈l,i<u.F.length)->E6 u M O->∃M' O',E6 u M' O'/\(∀q k,M q=some k->M' q=some k)/\∀i∈l,M' (u.rt i)≠none
 | [],M,O,_,R=>⟨M,O,R,λ_ _ h=>h,λi h=>(by cases h)⟩
 | i::l,M,O,a,R=>by
  have b:=a i (BA ..);obtain⟨k,M1,c,n,_,g⟩:=lO (μ:=λq=>(z_ q).sz) o (u8 o h) ((z_ (u.rt i)).sz+1) (u.rt i) [] M O [] (BI _) (o.lt i b) (o.id i b) R (λq h=>by cases h);obtain⟨M2,d,R2,k2,f⟩:=E4 o h l M1 c (λj hj=>a j (XV _ hj)) g.rd;obtain⟨kk,m,_⟩:=g.here;refine⟨M2,d,R2,λq k e=>k2 q k (g.keep q k e),λj hj=>?_⟩
  rcases BB.mp hj with rfl | hj
  ·rw[k2 _ kk m];intro z;cases z
  ·exact f j hj
def ve (o:u.Ok)(c:Up u [])(h:Wv u z_)(T:pW u p_ M O):∃l,Wv u l/\∀i∈p_,l i=vl M (u.rt i):=by
 obtain⟨M',O',R',kp,al⟩:=E4 o h (List.range u.F.length) M O (λi hi=>EH.mp hi) T.rd;refine⟨λq=>vl M' (u.rt q),⟨λx hx=>by show vl M' (u.rt x)=vl M' (u.rt (u.rt x));rw[o.id x hx],λx f hx=>?_⟩,λi hi=>?_⟩
 ·have m:=(AZ.mp hx).1;obtain⟨g,n,j⟩:=c x f hx
  cases e:M' (u.rt x) with
  | none=>exact absurd e (al x (EH.mpr m))
  | some k=>
   obtain⟨h1,_⟩:=R'.frm _ k g e n;show vl M' (u.rt x)=_;have ev:vl M' (u.rt x)=k:=by unfold vl;rw[e];rfl
   rw[ev,h1];show g.ev (λp=>vl M' (u.rt p))=f.ev λp=>vl M' (u.rt p)
   cases f with
   | f0 w=>cases g with
    | f0 v=>have:w=v:=j;rw[this]
    | f1 v c=>exact j.elim
    | f2 v c d=>exact j.elim
   | f1 w a=>cases g with
    | f0 v=>exact j.elim
    | f1 v c=>show Kd.k1 v (vl M' (u.rt c))=Kd.k1 w (vl M' (u.rt a));rw[j.1,j.2.nil]
    | f2 v c d=>exact j.elim
   | f2 w a b=>cases g with
    | f0 v=>exact j.elim
    | f1 v c=>exact j.elim
    | f2 v c d=>show Kd.k2 v (vl M' (u.rt c)) (vl M' (u.rt d))=Kd.k2 w (vl M' (u.rt a)) (vl M' (u.rt b));rw[j.1,j.2.1.nil,j.2.2.nil]
 ·show vl M' (u.rt i)=vl M (u.rt i)
  cases e:M (u.rt i) with
  | none=>exact absurd e (T.all i hi)
  | some k=>unfold vl;rw[kp _ k e,e]
def Fq (o:u.Ok)(h:Wv u σ)(R:E6 u M O):∀(n:Nat) q k,(σ q).sz<n->M q=some k->σ q=k.put λi=>σ ((O[i]?).getD 0)
 | 0,q,k,hn,_=>absurd hn (EA _)
 | n+1,q,k,hn,e=>by
  obtain⟨b,g⟩:=R.root q k e;obtain⟨j,a⟩:∃f,u.F[q]?=some f:=⟨_,BD b⟩
  cases j with
  | none=>
   obtain⟨i,rfl,hi⟩:=R.opn q k e a;show σ q=σ ((O[i]?).getD 0);rw[hi];rfl
  | some f=>
   obtain⟨h1,h2⟩:=R.frm q k f e a;rw[h1,h.2 q f a];show f.ev σ=(f.ev λp=>vl M (u.rt p)).put _;rw[mf];refine Me λp c=>?_;have d:u.rt p∈u.within f:=XR.mpr ⟨p,c,FQ⟩
   cases z:M (u.rt p) with
   | none=>exact absurd z (h2 _ d)
   | some k0=>
    have ev:vl M (u.rt p)=k0:=by unfold vl;rw[z];rfl
    show σ p=(vl M (u.rt p)).put _;rw[ev,h.1 p (o.ps q f a p c)];have:=u8 o h q f b g a _ d;exact Fq o h R n (u.rt p) k0 (by omega) z
def xi (K:Kn t u p_ [])(h:Wv u z_)(T:pW u p_ M O):oy t (p_.map λi=>vl M (u.rt i)):=by
 refine⟨?_,λk' R' d=>?_,⟨O.length,?_⟩⟩
 ·obtain⟨b,s1,a⟩:=ve K.o K.c h T;obtain⟨k,hk⟩:=K.so b [] s1 .nil;rw[YK,CA a] at hk;exact⟨k,hk⟩
 ·obtain⟨σ,R2,s1,a,e⟩:=K.co k' R' d
  cases e
  rw[YK] at a;refine⟨λi=>σ ((O[i]?).getD 0),?_⟩;rw[a,YE];refine CA λi hi=>?_;have f:=K.rl i hi
  cases z:M (u.rt i) with
  | none=>exact absurd z (T.all i hi)
  | some k0=>
   have ev:vl M (u.rt i)=k0:=by unfold vl;rw[z];rfl
   show σ i=(vl M (u.rt i)).put _;rw[ev,s1.1 i f];exact Fq K.o s1 T.rd ((σ (u.rt i)).sz+1) (u.rt i) k0 (BI _) z
 ·rw[<-T.num,YE];rfl
end
inductive jU (u:Us)(ρ:Prop)(G:Ms->Prop):Ms->Nat->Prop
 | done {w}:w.P=[]->G w->jU u ρ G w 0
 | step {w w' n}:ij u w w'->jU u ρ G w' n->jU u ρ G w (n+1)
 | bad {r P M O B f}:M r=none->u.F[r]?=some (some f)->r∉B->(∃q∈u.within f,q∈r::B/\M q=none)->ρ->jU u ρ G ⟨r::P,M,O,B⟩ 1
section
variable {u:Us}{ρ:Prop}{G:Ms->Prop}{M:Nat->Option Kd}{O B p_:List Nat}{r:Nat}
def sO.pln {w w':Ms}{n:Nat}(h:sO u w n w')(e:w'.P=[])(g:G w'):jU u ρ G w n:=by
 induction h with
 | done=>exact .done e g
 | step a b c=>exact .step a (c e g)
structure Pk (u:Us)(M0:Nat->Option Kd)(r0:Nat)(w:Ms):Prop where
 rd:E6 u w.M w.O
 keep:∀q k,M0 q=some k->w.M q=some k
 here:r0∈w.P\/w.M r0≠none
 pr:∀q∈w.P,q<u.F.length/\u.rt q=q
 bl:w.B.Nodup/\∀q∈w.B,q<u.F.length
 un:∀q∈w.B,w.M q=none->∃X Y,w.P=X++q::Y/\q∉X/\∀f,u.F[q]?=some (some f)->∀p∈u.within f,w.M p≠none\/p∈X
def Ha:∀(n:Nat) (l:List Nat),l.Nodup->(∀x∈l,x<n)->l.length<=n
 | 0,l,_,h=>by
  cases l with
  | nil=>exact XE _
  | cons x l=>exact absurd (h x (BA ..)) (EA _)
 | n+1,l,nd,h=>by
  by_cases c:n∈l
  ·have:=Ha n (l.erase n) (nd.erase n) λx hx=>by
    have h1:=h x (List.mem_of_mem_erase hx);have h2:x≠n:=λe=>by subst e;exact(List.Nodup.not_mem_erase nd) hx
    omega
   rw[List.length_erase_of_mem c] at this;omega
  ·have:=Ha n l nd λx hx=>by
    have h1:=h x hx;have h2:x≠n:=λe=>by subst e;exact c hx
    omega
   omega
def Pk.pop {M0 M':Nat->Option Kd}{r0:Nat}{P O':List Nat}(K:Pk u M0 r0 ⟨r::P,M,O,B⟩)(rd:E6 u M' O')(kp:∀q k,M q=some k->M' q=some k)(y:M' r≠none):Pk u M0 r0 ⟨P,M',O',B⟩ where
 rd:=rd
 keep:=λq k h=>kp q k (K.keep q k h)
 here:=by
  rcases K.here with h | h
  ·rcases BB.mp h with rfl | h
   ·exact .inr y
   ·exact .inl h
  ·refine .inr λz=>h ?_;show M r0=none
   cases e:M r0 with
   | none=>rfl
   | some k=>exact nomatch ((kp _ k e).symm.trans z)
 pr:=λq h=>K.pr q (XV _ h)
 bl:=K.bl
 un:=λq hq hn=>by
  have b:M q=none:=by
   cases e:M q with
   | none=>rfl
   | some k=>exact nomatch ((kp _ k e).symm.trans hn)
  obtain⟨X,Y,a,c,e3⟩:=K.un q hq b
  cases X with
  | nil=>
   injection a with a _
   rw[a] at y;exact absurd hn y
  | cons x X=>
   injection a with a d
   subst a;refine⟨X,Y,d,λh=>c (XV _ h),λf g p i=>?_⟩
   rcases e3 f g p i with h | h
   ·refine .inl λz=>h ?_;show M p=none
    cases e:M p with
    | none=>rfl
    | some k=>exact nomatch ((kp _ k e).symm.trans z)
   ·rcases BB.mp h with rfl | h
    ·exact .inl y
    ·exact .inr h
def Aa (o:u.Ok)(a:ρ){M0:Nat->Option Kd}{r0:Nat}(j:∀w,w.P=[]->Pk u M0 r0 w->G w):∀(m:Nat) (w:Ms),Pk u M0 r0 w->3*(u.F.length-w.B.length)+w.P.length<m->∃k,jU u ρ G w k
 | 0,w,_,h=>absurd h (EA _)
 | m+1,⟨[],M,O,B⟩,K,_=>⟨0,.done FQ (j _ FQ K)⟩
 | m+1,⟨r::P,M,O,B⟩,K,hm=>by
  have hm:3*(u.F.length-B.length)+(P.length+1)<m+1:=hm;obtain⟨v,C⟩:=K.pr r (BA ..);have l:∀k0 q k,M r=none->M q=some k->set M r k0 q=some k:=λk0 q k e h=>by
   rw[J4 λz=>by rw[z,e] at h;cases h];exact h
  cases e:M r with
  | some k=>
   obtain⟨n,h⟩:=Aa o a j m ⟨P,M,O,B⟩ (K.pop K.rd (λ_ _ h=>h) (by rw[e];intro z;cases z)) (by show 3*(u.F.length-B.length)+P.length<m;omega);exact⟨_,.step (.skip e) h⟩
  | none=>
   obtain⟨D,b⟩:∃f,u.F[r]?=some f:=⟨_,BD v⟩
   cases D with
   | none=>
    obtain⟨n,h⟩:=Aa o a j m ⟨P,set M r (.op O.length),O++[r],B⟩ (K.pop (vK K.rd ⟨v,C⟩ e b) (λq k=>l _ q k e) (by rw[J3];intro z;cases z)) (by show 3*(u.F.length-B.length)+P.length<m;omega);exact⟨_,.step (.opn e b) h⟩
   | some f=>
    by_cases s:r∈B
    ·have hw:∀q∈u.within f,M q≠none:=λq hq=>by
      obtain⟨X,Y,d,y,e3⟩:=K.un r s e
      cases X with
      | nil=>exact(e3 f b q hq).resolve_right λz=>by cases z
      | cons x X=>
       injection d with d _
       exact absurd (d▸BA ..) y
     obtain⟨n,h⟩:=Aa o a j m ⟨P,set M r (u.told M f),O,B⟩ (K.pop (vL K.rd ⟨v,C⟩ e b hw) (λq k=>l _ q k e) (by rw[J3];intro z;cases z)) (by show 3*(u.F.length-B.length)+P.length<m;omega);exact⟨_,.step (.fin e b s hw) h⟩
    ·by_cases bad:∃q∈u.within f,q∈r::B/\M q=none
     ·exact⟨1,.bad e b s bad a⟩
     ·have nb:∀q∈u.within f,¬(q∈r::B/\M q=none):=λq hq z=>bad ⟨q,hq,z⟩;have I:(u.within f).length<=2:=by unfold Us.within;rw[List.length_map];cases f<;>simp[Fm.ps]
      have nd:(r::B).Nodup:=BU.mpr ⟨s,K.bl.1⟩;have bl:∀q∈r::B,q<u.F.length:=λq hq=>by
       rcases BB.mp hq with rfl | hq
       ·exact v
       ·exact K.bl.2 q hq
      have E:=Ha u.F.length _ nd bl;rw[YF] at E;have H:Pk u M0 r0 ⟨u.within f++r::P,M,O,r::B⟩:=by
       refine⟨K.rd,K.keep,?_,?_,⟨nd,bl⟩,?_⟩
       ·rcases K.here with h | h
        ·exact .inl (XT _ h)
        ·exact .inr h
       ·intro q hq
        rcases XS.mp hq with hq | hq
        ·obtain⟨p,t,rfl⟩:=XR.mp hq;have:=o.ps r f b p t;exact⟨o.lt p this,o.id p this⟩
        ·exact K.pr q hq
       ·intro q hq hn;by_cases c:q=r
        ·subst c;refine⟨u.within f,P,rfl,λz=>nb q z ⟨BA ..,e⟩,λg i p t=>?_⟩;have i:u.F[q]?=some (some g):=i;rw[b] at i;cases i;exact .inr t
        ·have A:q∈B:=(BB.mp hq).resolve_left c;obtain⟨X,Y,d,y,e3⟩:=K.un q A hn;have d:r::P=X++q::Y:=d;refine⟨u.within f++X,Y,by show u.within f++r::P=_;rw[d,YL],λz=>?_,λg i p t=>?_⟩
         ·rcases XS.mp z with z | z
          ·exact nb q z ⟨hq,hn⟩
          ·exact y z
         ·exact(e3 g i p t).imp id λh=>XT _ h
      obtain⟨n,h⟩:=Aa o a j m ⟨u.within f++r::P,M,O,r::B⟩ H (by
       show 3*(u.F.length-(r::B).length)+(u.within f++r::P).length<m;rw[AY,YF,YF];omega)
      exact⟨_,.step (.beg e b s nb) h⟩
def fz (o:u.Ok)(d:(¬∃σ,Wv u σ)->ρ)(a:r<u.F.length)(b:u.rt r=r)(R:E6 u M O):
  ∃k,jU u ρ (λw=>E6 u w.M w.O/\(∀q k,M q=some k->w.M q=some k)/\w.M r≠none/\((∃σ,Wv u σ)->∃k,w.M r=some k/\ext (List.range O.length) k.ops=List.range w.O.length)) ⟨[r],M,O,[]⟩ k:=by
 by_cases c:∃σ,Wv u σ
 ·obtain⟨z_,h⟩:=id c;obtain⟨k,M',O',B',run,g⟩:=lO (μ:=λq=>(z_ q).sz) o (u8 o h) ((z_ r).sz+1) r [] M O [] (BI _) a b R (λq h=>by cases h);exact⟨k,run.pln rfl ⟨g.rd,g.keep,(by obtain⟨kk,h1,_⟩:=g.here;show M' r≠none;rw[h1];intro z;cases z),λ_=>g.here⟩⟩
 ·exact Aa o (d c) (λw e K=>⟨K.rd,K.keep,K.here.resolve_left (by rw[e];intro z;cases z),λh=>absurd h c⟩) (3*u.F.length+2) ⟨[r],M,O,[]⟩
   ⟨R,λ_ _ h=>h,.inl (XQ.mpr FQ),λq h=>by rw[XQ.mp h];exact⟨a,b⟩,⟨BX,λq h=>by cases h⟩,λq h=>by cases h⟩ (by show 3*(u.F.length-0)+1<_;omega)
def xt (o:u.Ok)(c:Up u [])(R':E6 u M O)(al:∀x,x<u.F.length->M (u.rt x)≠none):Wv u λq=>vl M (u.rt q):=by
 refine⟨λx hx=>by show vl M (u.rt x)=vl M (u.rt (u.rt x));rw[o.id x hx],λx f hx=>?_⟩;have i:=(AZ.mp hx).1;obtain⟨g,j,h⟩:=c x f hx
 cases e:M (u.rt x) with
 | none=>exact absurd e (al x i)
 | some k=>
  obtain⟨h1,_⟩:=R'.frm _ k g e j;show vl M (u.rt x)=_;have ev:vl M (u.rt x)=k:=by unfold vl;rw[e];rfl
  rw[ev,h1];show g.ev (λp=>vl M (u.rt p))=f.ev λp=>vl M (u.rt p)
  cases f with
  | f0 w=>cases g with
   | f0 v=>have:w=v:=h;rw[this]
   | f1 v c=>exact h.elim
   | f2 v c d=>exact h.elim
  | f1 w a=>cases g with
   | f0 v=>exact h.elim
   | f1 v c=>show Kd.k1 v (vl M (u.rt c))=Kd.k1 w (vl M (u.rt a));rw[h.1,h.2.nil]
   | f2 v c d=>exact h.elim
  | f2 w a b=>cases g with
   | f0 v=>exact h.elim
   | f1 v c=>exact h.elim
   | f2 v c d=>show Kd.k2 v (vl M (u.rt c)) (vl M (u.rt d))=Kd.k2 w (vl M (u.rt a)) (vl M (u.rt b));rw[h.1,h.2.1.nil,h.2.2.nil]
def xu (c:Up u [])(R:E6 u M O)(o:∀i∈p_,M (u.rt i)≠none){x:Nat}(h:Ka u p_ x):M (u.rt x)≠none:=by
 induction h with
 | row h=>exact o _ h
 | eq _ _ m n=>rw[<-m];exact n
 | @part i p f _ h2 m n=>
  obtain⟨g,q,j⟩:=c i f h2
  cases e:M (u.rt i) with
  | none=>exact absurd e n
  | some k=>
   obtain⟨_,r⟩:=R.frm _ k g e q;have l:∀{a b},a∈g.ps->u.rt b=u.rt a->M (u.rt b)≠none:=λ{a b} ha eq=>by rw[eq];exact r _ (XR.mpr ⟨a,ha,FQ⟩)
   cases f with
   | f0 w=>cases m
   | f1 w a=>cases g with
    | f0 v=>exact j.elim
    | f1 v c=>rw[XQ.mp m];exact l (XQ.mpr FQ) j.2.nil
    | f2 v c d=>exact j.elim
   | f2 w a b=>cases g with
    | f0 v=>exact j.elim
    | f1 v c=>exact j.elim
    | f2 v c d=>
     simp only[Fm.ps,List.mem_cons,List.not_mem_nil,or_false] at m
     rcases m with rfl | rfl
     ·exact l (by simp[Fm.ps]) j.2.1.nil
     ·exact l (by simp[Fm.ps]) j.2.2.nil
end
end Fn
namespace K25
def Dy:Kd->T
 | .op n=>.tup [.str "open",nT n]
 | .k0 g=>.tup [.str g]
 | .k1 g a=>.tup [.str g,Dy a]
 | .k2 g a b=>.tup [.str g,Dy a,Dy b]
def lB {f:Fm}{g:Nat->Kd}:Dy (f.ev g)=.tup (.str f.tag::f.ps.map λp=>Dy (g p)):=by cases f<;>rfl
abbrev ik (q:Nat):Z8:=.inl (q:Int)
def uO {a b:Nat}(h:ik a=ik b):a=b:=by injection h with h;omega
def U0:∀(n:Nat) (l:List Nat),l.Nodup->(∀x∈l,x<n)->l.length<=n
 | 0,l,_,h=>by
  cases l with
  | nil=>exact XE _
  | cons x l=>exact absurd (h x (BA ..)) (EA _)
 | n+1,l,nd,h=>by
  by_cases c:n∈l
  ·have:=U0 n (l.erase n) (nd.erase n) λx hx=>by
    have h1:=h x (List.mem_of_mem_erase hx);have h2:x≠n:=λe=>by subst e;exact(List.Nodup.not_mem_erase nd) hx
    omega
   rw[List.length_erase_of_mem c] at this;omega
  ·have:=U0 n l nd λx hx=>by
    have h1:=h x hx;have h2:x≠n:=λe=>by subst e;exact c hx
    omega
   omega
structure KD (kv:List (Z8×T))(qs:List Nat)(m:Nat):Prop where
 keys:kv.map (·.1)=qs.map ik
 nd:qs.Nodup
 lt:∀q∈qs,q<m
section
variable {W:Nat->Calls}{ρ x_:Prop}{kv:List (Z8×T)}{qs:List Nat}{m r:Nat}{v:T}{M:Nat->Option Kd}{k:Kd}{B:List Nat}
def KD.len (h:KD kv qs m):kv.length<=m:=by
 have e:=congrArg List.length h.keys;rw[XI,XI] at e;rw[e];exact U0 m qs h.nd h.lt
def KD.mem (h:KD kv qs m):(Ys kv (ik r)).isSome=true↔r∈qs:=by
 unfold Ys;rw[CP,List.find?_isSome];constructor
 ·rintro⟨z,hz,e⟩;have:z.1∈qs.map ik:=by rw[<-h.keys];exact XR.mpr ⟨z,hz,FQ⟩
  obtain⟨q,hq,a⟩:=XR.mp this;have e3:z.1=ik r:=by simpa using e
  rw[<-uO (a.trans e3)];exact hq
 ·intro b;have:ik r∈kv.map (·.1):=by rw[h.keys];exact XR.mpr ⟨r,b,FQ⟩
  obtain⟨z,hz,e⟩:=XR.mp this;exact⟨z,hz,by simpa using e⟩
def KD.put (h:KD kv qs m)(hn:r∉qs)(y:r<m):KD (J8 kv (ik r) v) (qs++[r]) m:=by
 refine⟨?_,EL.mpr ⟨h.nd,BU.mpr ⟨DU,BX⟩,λa ha b hb=>by rw[XQ.mp hb];exact λe=>hn (e▸ha)⟩,λq hq=>?_⟩
 ·rw[Ix,XX,h.keys,XL]
  ·rfl
  ·intro e;obtain⟨z,hz,e⟩:=CZ.mp e;exact hn (h.mem.mp (by unfold Ys;rw[CP,List.find?_isSome];exact⟨z,hz,e⟩))
 ·rcases XS.mp hq with hq | hq
  ·exact h.lt q hq
  ·rw[XQ.mp hq];exact y
def DM (kv:List (Z8×T))(M:Nat->Option Kd)(m:Nat):Prop:=(∀q,Ys kv (ik q)=(M q).map Dy)/\∃qs,KD kv qs m
def DB (kv:List (Z8×T))(B:List Nat)(m:Nat):Prop:=∃qs,KD kv qs m/\∀q,q∈qs↔q∈B
def DM.put (h:DM kv M m)(hn:M r=none)(y:r<m):DM (J8 kv (ik r) (Dy k)) (set M r k) m:=by
 obtain⟨h1,qs,h2⟩:=h;refine⟨λq=>?_,_,h2.put (λz=>?_) y⟩
 ·rw[A4];by_cases c:q=r
  ·subst c;rw[XY FQ,J3];rfl
  ·rw[XX λe=>c (uO e),J4 c];exact h1 q
 ·have:=h2.mem.mpr z;rw[h1 r,hn] at this
  cases this
def DM.isS (h:DM kv M m)(q:Nat):(Ys kv (ik q)).isSome=(M q).isSome:=by rw[h.1 q,CP]
def DB.put (h:DB kv B m)(hn:r∉B)(y:r<m):DB (J8 kv (ik r) v) (r::B) m:=by
 obtain⟨qs,h1,h2⟩:=h;refine⟨_,h1.put (λz=>hn ((h2 r).mp z)) y,λq=>?_⟩;rw[XS,XQ,BB,h2 q];exact or_comm
def DB.isS (h:DB kv B m)(q:Nat):(Ys kv (ik q)).isSome=decide (q∈B):=by
 obtain⟨qs,h1,h2⟩:=h;rw[DZ,h1.mem,h2 q,decide_eq_true_iff]
end
def Fy (A:Sd)(ra oa:WP)(C C':Hw):Prop:=∀b o,b≠A.f->b≠A.l->b≠ra->b≠oa->C b=some o->C' b=some o
structure Ds (A:Sd)(C0:Hw)(ra oa ba pa:Addr):Prop where
 ro:ra≠oa
 rb:ra≠ba
 rp:ra≠pa
 ob:oa≠ba
 op:oa≠pa
 bp:ba≠pa
 r:ra≠A.r/\ra≠A.f/\ra≠A.l
 o:oa≠A.r/\oa≠A.f/\oa≠A.l
 b:ba≠A.r/\ba≠A.f/\ba≠A.l
 p:pa≠A.r/\pa≠A.f/\pa≠A.l
 nb:C0 ba=none
 np:C0 pa=none
structure Hq (A:Sd)(C0:Hw)(u:Us)(ra oa ba pa:Addr)(C:Hw)(kv:List (Z8×T))(os:List T)(kb:List (Z8×T))(ps:List T):Prop where
 s:Sl A C u
 f:Fy A ra oa C0 C
 r:C ra=some (.dic kv)
 o:C oa=some (.lst os)
 b:C ba=some (.dic kb)
 p:C pa=some (.lst ps)
section
variable {W:Nat->Calls}{ρ x_:Prop}{A:Sd}{C0 C C':Hw}{u:Us}{ra oa ba pa:WP}{kv kb kv':List (Z8×T)}{os ps os' ps':List T}{o:O}
def Hq.new {q:WP}(H:Hq A C0 u ra oa ba pa C kv os kb ps)(h:C q=none):Hq A C0 u ra oa ba pa (up C q o) kv os kb ps:=
 have k:∀{c:WP} {w:O},C c=some w->up C q o c=some w:=λe=>by rw[Zk (X2 e h)];exact e
 ⟨H.s.new h,λc w m1 m2 a d e=>k (H.f c w m1 m2 a d e),k H.r,k H.o,k H.b,k H.p⟩
def Hq.of (H:Hq A C0 u ra oa ba pa C kv os kb ps)(D:Ds A C0 ra oa ba pa)(S:Sl A C' u)(F:Fx A C C'):Hq A C0 u ra oa ba pa C' kv os kb ps:=
 ⟨S,λc w m1 m2 a d e=>F c w m1 m2 (H.f c w m1 m2 a d e),F _ _ D.r.2.1 D.r.2.2 H.r,F _ _ D.o.2.1 D.o.2.2 H.o,F _ _ D.b.2.1 D.b.2.2 H.b,F _ _ D.p.2.1 D.p.2.2 H.p⟩
def Hq.upP (H:Hq A C0 u ra oa ba pa C kv os kb ps)(D:Ds A C0 ra oa ba pa):Hq A C0 u ra oa ba pa (up C pa (.lst ps')) kv os kb ps':=
 ⟨H.s.other D.p,λc w m1 m2 a d e=>by rw[Zk (X2 e D.np)];exact H.f c w m1 m2 a d e,by rw[Zk D.rp];exact H.r,by rw[Zk D.op];exact H.o,by rw[Zk D.bp];exact H.b,Zf⟩
def Hq.upR (H:Hq A C0 u ra oa ba pa C kv os kb ps)(D:Ds A C0 ra oa ba pa):Hq A C0 u ra oa ba pa (up C ra (.dic kv')) kv' os kb ps:=
 ⟨H.s.other D.r,λc w m1 m2 a d e=>by rw[Zk a];exact H.f c w m1 m2 a d e,Zf,by rw[Zk D.ro.symm];exact H.o,by rw[Zk D.rb.symm];exact H.b,by rw[Zk D.rp.symm];exact H.p⟩
def Hq.upO (H:Hq A C0 u ra oa ba pa C kv os kb ps)(D:Ds A C0 ra oa ba pa):Hq A C0 u ra oa ba pa (up C oa (.lst os')) kv os' kb ps:=
 ⟨H.s.other D.o,λc w m1 m2 d a e=>by rw[Zk a];exact H.f c w m1 m2 d a e,by rw[Zk D.ro];exact H.r,Zf,by rw[Zk D.ob.symm];exact H.b,by rw[Zk D.op.symm];exact H.p⟩
def Hq.upB (H:Hq A C0 u ra oa ba pa C kv os kb ps)(D:Ds A C0 ra oa ba pa):Hq A C0 u ra oa ba pa (up C ba (.dic kv')) kv os kv' ps:=
 ⟨H.s.other D.b,λc w m1 m2 a d e=>by rw[Zk (X2 e D.nb)];exact H.f c w m1 m2 a d e,by rw[Zk D.rb];exact H.r,by rw[Zk D.ob];exact H.o,Zf,by rw[Zk D.bp.symm];exact H.p⟩
end
structure Zam (A:Sd)(C0:Hw)(u:Us)(ra oa ba pa:Addr)(C:Hw)(w:Ms):Prop where
 h:∃kv kb,Hq A C0 u ra oa ba pa C kv (w.O.map nT) kb (w.P.reverse.map nT)/\DM kv w.M u.F.length/\DB kb w.B u.F.length
 ol:w.O.Nodup/\∀q∈w.O,q<u.F.length/\w.M q≠none
 bl:w.B.Nodup/\∀q∈w.B,q<u.F.length
 pl:w.P.length<=1+2*w.B.length
 pr:∀q∈w.P,q<u.F.length/\u.rt q=q
section
variable {W:Nat->Calls}{ρ x_:Prop}{A:Sd}{C C':Hw}{u:Us}{Q:WK}{χ:WX}{n r k:Nat}{ra oa:WP}{kv:List (Z8×T)}{M M':Nat->Option Kd}{O O' B':List Nat}
def tW {x:T}{xs:List T}:Ep (x::xs) none (some 1)=[x]:=by
 unfold Ep HT.sIx;simp
inductive fY (u:Us)(ρ:Prop)(G:Ms->Prop):Ms->Nat->Prop
 | skip {r P M O B k m}:M r=some k->jU u ρ G ⟨P,M,O,B⟩ m->fY u ρ G ⟨r::P,M,O,B⟩ (m+1)
 | opn {r P M O B m}:M r=none->u.F[r]?=some none->jU u ρ G ⟨P,set M r (.op O.length),O++[r],B⟩ m->fY u ρ G ⟨r::P,M,O,B⟩ (m+1)
 | beg {r P M O B f m}:M r=none->u.F[r]?=some (some f)->r∉B->((∃q∈u.within f,q∈r::B/\M q=none)->ρ)->((∀q∈u.within f,¬(q∈r::B/\M q=none))->jU u ρ G ⟨u.within f++r::P,M,O,r::B⟩ m)->fY u ρ G ⟨r::P,M,O,B⟩ (m+1)
 | fin {r P M O B f m}:M r=none->u.F[r]?=some (some f)->r∈B->(∀q∈u.within f,M q≠none)->jU u ρ G ⟨P,set M r (u.told M f),O,B⟩ m->fY u ρ G ⟨r::P,M,O,B⟩ (m+1)
def qh {u:Us}{ρ:Prop}{G:Ms->Prop}{w:Ms}{m:Nat}(h:jU u ρ G w m)(d:w.P≠[]):fY u ρ G w m:=by
 cases h with
 | done e _=>exact absurd e d
 | step s r=>
  cases s with
  | skip e=>exact .skip e r
  | opn f c=>exact .opn f c r
  | beg e a b hw=>exact .beg e a b (λ⟨q,h1,h2⟩=>absurd h2 (hw q h1)) λ_=>r
  | fin e a b hw=>exact .fin e a b hw r
 | bad e a b hb g=>exact .beg e a b (λ_=>g) λh=>by obtain⟨q,h1,h2⟩:=hb;exact absurd h2 (h q h1)
def Do (R:Rp W ρ x_)(S:Sl A C u)(o:u.Ok)(hn:u.F.length<=7000)(hr:r<u.F.length)(IK:u.rt r=r)(j:C ra=some (.dic kv))(dm:DM kv M u.F.length)(DO:C oa=some (.lst (O.map nT)))(IL:oa≠A.f)(IM:oa≠A.l)
  (ol:O.Nodup/\∀q∈O,q<u.F.length/\M q≠none) {G:Ms->Prop} (run:jU u ρ G ⟨[r],M,O,[]⟩ k)
  (q:∀C' kv' M' O' B',Sl A C' u->Fy A ra oa C C'->C' ra=some (.dic kv')->DM kv' M' u.F.length->C' oa=some (.lst (O'.map nT))->(O'.Nodup/\∀q∈O',q<u.F.length/\M' q≠none)->G ⟨[],M',O',B'⟩->Q .non C'):W (n+3) D9 [.ref A.r,nT r,.ref ra,.ref oa] C Q χ:=by
 refine R.o_make_ready FQ ?_;unfold W0 Vl;intro ba D_;refine⟨_,FQ,Jd (by show 1<=_;omega),λpa E_=>?_⟩;have IN:ra≠A.r/\ra≠A.f/\ra≠A.l:=by
  obtain⟨_,_,h⟩:=id S;exact⟨λe=>(by rw[e,h.r] at j;cases j),λe=>(by rw[e,h.f] at j;cases j),λe=>(by rw[e,h.l] at j;cases j)⟩
 have IP:oa≠A.r:=by
  obtain⟨_,_,h⟩:=id S;exact λe=>(by rw[e,h.r] at DO;cases DO)
 have HU:ba≠pa:=λe=>by rw[<-e,Zf] at E_;cases E_
 have L:C pa=none:=by rw[Zk HU.symm] at E_;exact E_
 have D:Ds A C ra oa ba pa:=⟨λe=>(by rw[e,DO] at j;cases j),X2 j D_,X2 j L,X2 DO D_,X2 DO L,HU,IN,⟨IP,IL,IM⟩,S.off D_,S.off L,D_,L⟩;have H0:Hq A C u ra oa ba pa (up (up C ba (.dic [])) pa (.lst [nT r])) kv (O.map nT) [] [nT r]:=by
  refine⟨(S.new D_).new E_,λc w m1 m2 m3 m4 e=>by rw[Zk (X2 e L),Zk (X2 e D_)];exact e,by rw[Zk D.rp,Zk D.rb];exact j,by rw[Zk D.op,Zk D.ob];exact DO,by rw[Zk HU];exact Zf,Zf⟩
 generalize up (up C ba (.dic [])) pa (.lst [nT r])=C1 at H0;refine Pq (λm τ C'=>∃v6 v7 v8 w,τ=[some (.ref A.r),some (nT r),some (.ref ra),some (.ref oa),some (.ref ba),some (.ref pa),v6,v7,v8]/\Zam A C u ra oa ba pa C' w/\jU u ρ G w m) (m:=k)
  ⟨none,none,none,⟨[r],M,O,[]⟩,FQ,⟨⟨kv,[],H0,dm,[],⟨FQ,BX,λq h=>(by cases h)⟩,λq=>Iff.rfl⟩,ol,⟨BX,λq h=>(by cases h)⟩,XE _,λq h=>by rw[XQ.mp h];exact⟨hr,IK⟩⟩,run⟩ ?_
 rintro m τ C2 N ⟨v6,v7,v8,w,rfl,⟨⟨B_,U,H2,d,Y⟩,E,A_,H_,HV⟩,HS⟩ hN;refine⟨_,FQ,Jd (by show 0<=_;omega),λp' IQ=>?_⟩;have H3:=H2.new (o:=.lst []) IQ;refine Hc H3.p Zf ⟨_,FQ,?_⟩;generalize up C2 p' (.lst [])=C3 at H3;have IA:w.O.length<=u.F.length:=U0 _ _ E.1 λx hx=>(E.2 x hx).1;have IB:w.B.length<=u.F.length:=U0 _ _ A_.1 A_.2;by_cases F_:w.P=[]
 ·obtain⟨Pw,g,Ow,Bw⟩:=w;have F_:Pw=[]:=F_;subst F_;refine Zn ?_
  cases HS with
  | done _ hG=>exact q C3 B_ g Ow Bw H3.s H3.f H3.r d H3.o E hG
  | step s _=>cases s
 ·have nx:=qh HS F_;obtain⟨r0,P,eP⟩:∃r0 P,w.P=r0::P:=by cases e:w.P with
   | nil=>exact absurd e F_
   | cons a b=>exact⟨a,b,FQ⟩
  obtain⟨Pw,g,Ow,Bw⟩:=w
  cases eP
  dsimp only at H3 d Y E A_ H_ HV IA IB;obtain⟨r1,r2⟩:=HV r0 (BA ..);have HP:∀q∈P,q<u.F.length/\u.rt q=q:=λq h=>HV q (XV _ h);have eP:(r0::P).reverse.map nT=P.reverse.map nT++[nT r0]:=by simp
  rw[eP] at H3;refine N9 (by show(!((r0::P).reverse.map nT).isEmpty)=true;rw[eP];simp) ?_;have last:(P.reverse.map nT++[nT r0])[(P.reverse.map nT++[nT r0]).length-1]?=some (nT r0):=by simp
  refine⟨_,FQ,⟨_,_,FQ,H3.p⟩,_,_,_,FQ,FQ,H3.p,last,?_⟩;rw[List.dropLast_concat];have H4:=H3.upP (ps':=P.reverse.map nT) D;generalize up C3 pa (.lst (P.reverse.map nT))=C4 at H4;have IS:P.length+1<=1+2*Bw.length:=H_;refine⟨_,FQ,_,FQ,_,_,_,FQ,FQ,.inl H4.r,⟨_,FQ,?_⟩⟩
  cases nx with
  | skip e Yc=>
   refine N9 (by rw[XX (by decide),d.isS,e];rfl) ?_;exact hN _ _ _ (BI _) ⟨_,_,_,⟨P,g,Ow,Bw⟩,FQ,⟨⟨B_,U,H4,d,Y⟩,E,A_,by show P.length<=1+2*Bw.length;omega,HP⟩,Yc⟩
  | opn e hf Yc=>
   refine Ma (by rw[XX (by decide),d.isS,e];rfl) ?_;obtain⟨_,_,S4⟩:=id H4.s;refine⟨_,FQ,_,_,_,_,FQ,S4.r,FQ,FQ,_,FQ,?_⟩;dsimp only[Zv];refine M9 R (n:=n) (f:=none) H4.s o r1 (by rw[r2];exact hf) λC5 S5 F5=>?_;have H5:=H4.of D S5 F5;refine⟨_,FQ,FQ,true,FQ,Yb ?_⟩;refine⟨_,FQ,_,FQ,_,H5.o,Jd (by show 2<=_;omega),_,rfl,_,rfl,_,_,_,rfl,rfl,H5.r,Y4 (by obtain⟨_,_,kd⟩:=d;have:=kd.len;omega),?_⟩;rw[XI];have H:=H5.upR (kv':=J8 B_ (ik r0) (Dy (.op Ow.length))) D;refine⟨_,FQ,⟨_,_,FQ,H.o⟩,_,FQ,_,_,_,FQ,FQ,H.o,Y4 (by rw[XI];omega),?_⟩;have H7:=H.upO (os':=Ow.map nT++[nT r0]) D;have eo:Ow.map nT++[nT r0]=(Ow++[r0]).map nT:=by rw[XL];rfl
   have n0:r0∉Ow:=λh=>(E.2 r0 h).2 e;refine hN _ _ _ (BI _) ⟨_,_,_,⟨P,set g r0 (.op Ow.length),Ow++[r0],Bw⟩,FQ,⟨⟨_,U,by rw[eo] at H7 |-;exact H7,d.put e r1,Y⟩,⟨?_,λx hx=>?_⟩,A_,by show P.length<=1+2*Bw.length;omega,HP⟩,Yc⟩
   ·exact EL.mpr ⟨E.1,BU.mpr ⟨DU,BX⟩,λa ha b hb=>by rw[XQ.mp hb];exact λz=>n0 (z▸ha)⟩
   ·rcases XS.mp hx with hx | hx
    ·have:=E.2 x hx;exact⟨this.1,by show set g r0 _ x≠none;rw[J4 λz=>n0 (by rw[<-z];exact hx)];exact this.2⟩
    ·rw[XQ.mp hx];exact⟨r1,by show set g r0 _ r0≠none;rw[J3];intro z;cases z⟩
  | @beg _ _ _ _ _ f m' e hf hB IC Yc=>
   refine Ma (by rw[XX (by decide),d.isS,e];rfl) ?_;obtain⟨_,_,S4⟩:=id H4.s;refine⟨_,FQ,_,_,_,_,FQ,S4.r,FQ,FQ,_,FQ,?_⟩;dsimp only[Zv];refine M9 R (n:=n) (f:=some f) H4.s o r1 (by rw[r2];exact hf) λC5 S5 F5=>?_;have H5:=H4.of D S5 F5;rw[Cq];refine⟨_,FQ,FQ,false,FQ,Zn ?_⟩;refine⟨_,FQ,_,FQ,yW,?_⟩;rw[Nh];have G_:∀p∈f.ps,p<u.F.length:=o.ps r0 f hf;refine Ro (λi C_ C'=>Hq A C u ra oa ba pa C' B_ (Ow.map nT) U (P.reverse.map nT)/\C_=((f.ps.take i).map u.rt).map nT) ⟨H5,FQ⟩ (λ_ _ _ _ _=>trivial) ?_ ?_
   ·rintro i x C_ C6 N6 hx ⟨H,rfl⟩ HW;rw[XM] at hx;obtain⟨p,hp,rfl⟩:∃p,f.ps[i]?=some p/\nT p=x:=by
     cases z:f.ps[i]? with
     | none=>rw[z] at hx;cases hx
     | some p=>rw[z] at hx;exact⟨p,FQ,YH hx⟩
    obtain⟨_,_,S6⟩:=id H.s;have hi:i<f.ps.length:=(AZ.mp hp).1;have fl:f.ps.length<=2:=by cases f<;>simp[Fm.ps]
    refine Yb (q:=N6 (((f.ps.take i).map u.rt).map nT) C6) ⟨_,FQ,_,_,_,_,FQ,S6.r,FQ,FQ,_,FQ,?_⟩;dsimp only[Zv];refine Tf R (n:=n+1) H.s (G_ p (BE hp)) λC7 S7 F7=>⟨Y4 (by rw[XI,XI,YM];omega),HW _ _ ⟨H.of D S7 F7,?_⟩⟩;rw[YD,hp,XL,XL];rfl
   rintro C_ C6 ⟨H,rfl⟩ wa I;rw[XI,DC];have H7:=H.new (o:=.lst ((u.within f).map nT)) I;have W7:up C6 wa (.lst ((u.within f).map nT)) wa=some (.lst ((u.within f).map nT)):=Zf;have wd:wa≠ra/\wa≠oa/\wa≠ba/\wa≠pa:=⟨(X2 H.r I).symm,(X2 H.o I).symm,(X2 H.b I).symm,(X2 H.p I).symm⟩;show _;generalize HX:up C6 wa (.lst (((f.ps).map u.rt).map nT))=C7;rw[show up C6 wa (.lst ((u.within f).map nT))=C7 from HX] at H7 W7;refine⟨_,FQ,_,FQ,_,_,_,FQ,FQ,.inl H7.b,⟨_,FQ,Ma (by rw[if_neg (by decide),Y.isS];simpa using hB) ?_⟩⟩;refine⟨_,rfl,_,rfl,_,_,_,rfl,rfl,H7.b,Y4 (by obtain⟨_,kd,_⟩:=Y;have:=kd.len;omega),?_⟩;have HY:=Y.put (v:=.bl true) hB r1;have H8:=H7.upB (kv':=J8 U (ik r0) (.bl true)) D;have W8:up C7 ba (.dic (J8 U (ik r0) (.bl true))) wa=some (.lst ((u.within f).map nT)):=by rw[Zk wd.2.2.1];exact W7
   generalize up C7 ba (.dic (J8 U (ik r0) (.bl true)))=C8 at H8 W8;have wl:(u.within f).length<=2:=by unfold Us.within;rw[List.length_map];cases f<;>simp[Fm.ps]
   refine⟨_,FQ,_,W8,?_⟩;obtain⟨fb,ID⟩:∃fb:T->T,∀q:Nat,fb (nT q)=.bl (decide (q∈r0::Bw/\g q=none)):=⟨λt=>match t with | .int i=>.bl (decide (i.toNat∈r0::Bw/\g i.toNat=none)) | _=>.non,λq=>rfl⟩;refine V0 fb W8 (by rw[XI];exact Jd (by omega)) (λx hx R hR=>?_) λp9 IE=>?_
   ·obtain⟨q0,IF,rfl⟩:=XR.mp hx;rw[ID q0] at hR;refine⟨_,FQ,_,FQ,_,_,_,FQ,FQ,.inl H8.b,⟨_,FQ,?_⟩⟩;by_cases c:q0∈r0::Bw
    ·refine N9 (by rw[if_neg (by decide),HY.isS];simpa using c) ?_;refine⟨_,FQ,_,FQ,_,_,_,FQ,FQ,.inl H8.r,?_⟩;rw[XY FQ,d.isS]
     cases z:g q0 with
     | none=>rw[decide_eq_true ⟨c,z⟩] at hR;exact hR
     | some k0=>rw[YG (λy=>by have:=y.2;rw[z] at this;cases this)] at hR;exact hR
    ·rw[YG (λy=>c y.1)] at hR;exact Ma (by rw[if_neg (by decide),HY.isS];simpa using c) hR
   have nf:((u.within f).map nT).map fb=((u.within f).map λq=>decide (q∈r0::Bw/\g q=none)).map T.bl:=by
    rw[YE,YE];exact CA λq _=>ID q
   have H9:=H8.new (o:=.lst (((u.within f).map nT).map fb)) IE;have W9:up C8 p9 (.lst (((u.within f).map nT).map fb)) wa=some (.lst ((u.within f).map nT)):=by rw[Zk (X2 W8 IE)];exact W8
   refine⟨_,_,FQ,by rw[Zf,nf],⟨_,FQ,?_⟩⟩;by_cases hb:∃q∈u.within f,q∈r0::Bw/\g q=none
   ·refine N9 (by obtain⟨q,h1,h2⟩:=hb;exact CZ.mpr ⟨true,XR.mpr ⟨q,h1,decide_eq_true h2⟩,FQ⟩) ?_;exact⟨ZNB FQ,R.o_raise_NoKind (IC hb)⟩
   have hw:∀q∈u.within f,¬(q∈r0::Bw/\g q=none):=λq h1 h2=>hb ⟨q,h1,h2⟩;have Yc:=Yc hw;refine Ma (List.any_eq_false.mpr λx hx=>by
    obtain⟨q,h1,rfl⟩:=XR.mp hx;rw[YG (hw q h1)];decide) ?_
   generalize up C8 p9 (.lst (((u.within f).map nT).map fb))=C9 at H9 W9;have lP:P.length<=20000:=by omega
   refine⟨_,FQ,⟨_,_,FQ,H9.p⟩,_,FQ,_,_,_,FQ,FQ,H9.p,Y4 (by rw[XI,CK];omega),?_⟩;have HZ:=H9.upP (ps':=P.reverse.map nT++[nT r0]) D;have IG:up C9 pa (.lst (P.reverse.map nT++[nT r0])) wa=some (.lst ((u.within f).map nT)):=by rw[Zk wd.2.2.2];exact W9
   generalize up C9 pa (.lst (P.reverse.map nT++[nT r0]))=IT at HZ IG;refine⟨_,FQ,⟨_,_,FQ,HZ.p⟩,_,FQ,_,_,FQ,IG,λIU IH=>?_⟩;have II:=HZ.new (o:=.lst ((u.within f).map nT).reverse) IH;refine⟨_,_,_,_,FQ,FQ,II.p,Zf,by rw[CK,XI,AY,XI,CK];exact Jd (by show P.length+1+_<=_;omega),?_⟩;have IJ:=II.upP (ps':=P.reverse.map nT++[nT r0]++((u.within f).map nT).reverse) D;have ep:P.reverse.map nT++[nT r0]++((u.within f).map nT).reverse=(u.within f++r0::P).reverse.map nT:=by simp
   rw[ep] at IJ |-;refine hN m' _ _ (BI _) ⟨_,_,_,⟨u.within f++r0::P,g,Ow,r0::Bw⟩,rfl,⟨⟨B_,_,IJ,d,HY⟩,E,⟨BU.mpr ⟨hB,A_.1⟩,λx hx=>?_⟩,?_,λx hx=>?_⟩,Yc⟩
   ·rcases BB.mp hx with rfl | hx
    ·exact r1
    ·exact A_.2 x hx
   ·show(u.within f++r0::P).length<=1+2*(r0::Bw).length;rw[AY,YF,YF];omega
   ·rcases XS.mp hx with hx | hx
    ·obtain⟨p,hp,rfl⟩:=XR.mp hx;exact⟨o.lt p (G_ p hp),o.id p (G_ p hp)⟩
    ·rcases BB.mp hx with rfl | hx
     ·exact⟨r1,r2⟩
     ·exact HP x hx
  | @fin _ _ _ _ _ f m' e hf hB hw Yc=>
   refine Ma (by rw[XX (by decide),d.isS,e];rfl) ?_;obtain⟨_,_,S4⟩:=id H4.s;refine⟨_,FQ,_,_,_,_,FQ,S4.r,FQ,FQ,_,FQ,?_⟩;dsimp only[Zv];refine M9 R (n:=n) (f:=some f) H4.s o r1 (by rw[r2];exact hf) λC5 S5 F5=>?_;have H5:=H4.of D S5 F5;rw[Cq];refine⟨_,FQ,FQ,false,FQ,Zn ?_⟩;refine⟨_,FQ,_,FQ,yW,?_⟩;rw[Nh];have G_:∀p∈f.ps,p<u.F.length:=o.ps r0 f hf;refine Ro (λi C_ C'=>Hq A C u ra oa ba pa C' B_ (Ow.map nT) U (P.reverse.map nT)/\C_=((f.ps.take i).map u.rt).map nT) ⟨H5,FQ⟩ (λ_ _ _ _ _=>trivial) ?_ ?_
   ·rintro i x C_ C6 N6 hx ⟨H,rfl⟩ HW;rw[XM] at hx;obtain⟨p,hp,rfl⟩:∃p,f.ps[i]?=some p/\nT p=x:=by
     cases z:f.ps[i]? with
     | none=>rw[z] at hx;cases hx
     | some p=>rw[z] at hx;exact⟨p,FQ,YH hx⟩
    obtain⟨_,_,S6⟩:=id H.s;have hi:i<f.ps.length:=(AZ.mp hp).1;have fl:f.ps.length<=2:=by cases f<;>simp[Fm.ps]
    refine Yb (q:=N6 (((f.ps.take i).map u.rt).map nT) C6) ⟨_,FQ,_,_,_,_,FQ,S6.r,FQ,FQ,_,FQ,?_⟩;dsimp only[Zv];refine Tf R (n:=n+1) H.s (G_ p (BE hp)) λC7 S7 F7=>⟨Y4 (by rw[XI,XI,YM];omega),HW _ _ ⟨H.of D S7 F7,?_⟩⟩;rw[YD,hp,XL,XL];rfl
   rintro C_ C6 ⟨H,rfl⟩ wa I;rw[XI,DC];have H7:=H.new (o:=.lst ((u.within f).map nT)) I;have W7:up C6 wa (.lst ((u.within f).map nT)) wa=some (.lst ((u.within f).map nT)):=Zf;have wd:wa≠ra/\wa≠oa/\wa≠ba/\wa≠pa:=⟨(X2 H.r I).symm,(X2 H.o I).symm,(X2 H.b I).symm,(X2 H.p I).symm⟩;show _;generalize HX:up C6 wa (.lst (((f.ps).map u.rt).map nT))=C7;rw[show up C6 wa (.lst ((u.within f).map nT))=C7 from HX] at H7 W7;refine⟨_,FQ,_,FQ,_,_,_,FQ,FQ,.inl H7.b,⟨_,FQ,N9 (by rw[if_neg (by decide),Y.isS];simpa using hB) ?_⟩⟩;refine⟨_,FQ,_,FQ,?_⟩;refine⟨_,FQ,_,W7,?_⟩;have wl:(u.within f).length<=2:=by unfold Us.within;rw[List.length_map];cases f<;>simp[Fm.ps]
   refine V0 (λt=>match t with | .int i=>Dy (vl g i.toNat) | _=>.non) W7 (by rw[XI];exact Jd (by omega)) (λx hx R hR=>?_) λp8 IR=>?_
   ·obtain⟨q0,IF,rfl⟩:=XR.mp hx;have hR:R (Dy (vl g q0)) C7:=by simpa using hR
    cases z:g q0 with
    | none=>exact absurd z (hw q0 IF)
    | some k0=>
     have ev:vl g q0=k0:=by unfold vl;rw[z];rfl
     rw[ev] at hR;exact⟨_,FQ,_,FQ,_,_,_,_,FQ,FQ,.inl H7.r,by rw[d.1 q0,z];rfl,hR⟩
   refine⟨_,FQ,_,Zf,?_⟩;have H8:=H7.new (o:=.lst (((u.within f).map nT).map λt=>match t with | .int i=>Dy (vl g i.toNat) | _=>.non)) IR;refine⟨by rw[tW,XI,XI];exact Jd (by show 1+_<=_;omega),?_⟩;refine⟨_,rfl,_,rfl,_,_,_,rfl,rfl,H8.r,Y4 (by obtain⟨_,_,kd⟩:=d;have:=kd.len;omega),?_⟩;have val:T.tup (Ep (T.str f.tag::f.ps.map nT) none (some 1)++((u.within f).map nT).map λt=>match t with | .int i=>Dy (vl g i.toNat) | _=>.non)=Dy (u.told g f):=by
    rw[tW];unfold Us.told Us.within;rw[lB,YE,YE];show T.tup (T.str f.tag::_)=_;congr 2
   rw[val];have H9:=H8.upR (kv':=J8 B_ (ik r0) (Dy (u.told g f))) D;refine hN m' _ _ (BI _) ⟨_,_,_,⟨P,set g r0 (u.told g f),Ow,Bw⟩,FQ,⟨⟨_,U,H9,d.put e r1,Y⟩,⟨E.1,λx hx=>?_⟩,A_,by show P.length<=1+2*Bw.length;omega,HP⟩,Yc⟩;have:=E.2 x hx;exact⟨this.1,by show set g r0 _ x≠none;rw[J4 λz=>this.2 (by rw[z];exact e)];exact this.2⟩
end
structure Zag (u:Us)(p_:List Nat)(M:Nat->Option Kd)(O:List Nat):Prop where
 rd:E6 u M O
 all:∀i∈p_,M (u.rt i)≠none
 num:(∃σ,Wv u σ)->ext [] (p_.map λi=>(vl M (u.rt i)).ops).flatten=List.range O.length
section
variable {W:Nat->Calls}{ρ x_:Prop}{A:Sd}{C C':Hw}{u:Us}{Q:WK}{χ:WX}{n:Nat}{p_:List Nat}{z_:Nat->Kd}{o_:WP}
def Dl (R:Rp W ρ x_)(S:Sl A C u)(o:u.Ok)(hn:u.F.length<=7000)(cl:Up u [])(hw:(¬∃σ,Wv u σ)->ρ)(DO:∀x,x<u.F.length->Ka u p_ x)(b:C o_=some (.lst (p_.map nT)))(pf:o_≠A.f)(pl:o_≠A.l)(Y:∀i∈p_,i<u.F.length)(HU:p_.length<=7000)
  (q:∀C' p M O,Sl A C' u->Fx A C C'->C p=none->C' p=some (.lst (p_.map λi=>Dy (vl M (u.rt i))))->pW u p_ M O->(∃σ,Wv u σ)->O.length<=u.F.length->Q (.ref p) C'):W (n+4) Mb [.ref A.r,.ref o_] C Q χ:=by
 refine R.o_told_kinds FQ ?_;unfold Wy Vj;intro ra v;have S0:=S.new (o:=.dic []) v;refine⟨Jd (by show 0<=_;omega),λoa B=>?_⟩;have A_:ra≠oa:=λe=>by rw[<-e,Zf] at B;cases B
 have m:C oa=none:=by rw[Zk A_.symm] at B;exact B
 have S1:=S0.new (o:=.lst []) B;have K1:∀{c:WP} {w:O},C c=some w->up (up C ra (.dic [])) oa (.lst []) c=some w:=λe=>by rw[Zk (X2 e m),Zk (X2 e v)];exact e
 have R1:up (up C ra (.dic [])) oa (.lst []) ra=some (.dic []):=by rw[Zk A_];exact Zf
 have O1:up (up C ra (.dic [])) oa (.lst []) oa=some (.lst []):=Zf;generalize up (up C ra (.dic [])) oa (.lst [])=C1 at S1 K1 R1 O1;have D:=S.off m;have t:=S.off v;have HV:o_≠ra/\o_≠oa:=⟨X2 b v,X2 b m⟩;refine⟨_,FQ,_,K1 b,?_⟩;refine Ky (λi τ C'=>∃v4 M O kv,τ=[some (.ref A.r),some (.ref o_),some (.ref ra),some (.ref oa),v4]/\Sl A C' u/\(∀c w,c≠A.f->c≠A.l->C c=some w->C' c=some w)/\C' ra=some (.dic kv)/\DM kv M u.F.length/\C' oa=some (.lst (O.map nT))/\(O.Nodup/\∀q∈O,q<u.F.length/\M q≠none)/\
  Zag u (p_.take i) M O) ⟨_,(λ_=>none),[],[],FQ,S1,λc w _ _ e=>K1 e,R1,⟨λq=>rfl,[],FQ,BX,λq h=>(by cases h)⟩,O1,⟨BX,λq h=>(by cases h)⟩,vM,λi h=>(by cases h),λ_=>rfl⟩ (λi τ C' _ h=>by obtain⟨_,_,_,_,_,_,h,_⟩:=h;exact h _ _ pf pl b) ?_ ?_
 ·rintro i x τ C2 N hx ⟨v4,M,O,kv,rfl,S2,K2,R2,U,O2,E,d⟩ hN;rw[XM] at hx;obtain⟨s,hs,rfl⟩:∃s,p_[i]?=some s/\nT s=x:=by
   cases z:p_[i]? with
   | none=>rw[z] at hx;cases hx
   | some p=>rw[z] at hx;exact⟨p,FQ,YH hx⟩
  have sl:=Y s (BE hs);obtain⟨_,_,D_⟩:=id S2;refine⟨_,FQ,_,FQ,_,_,_,_,FQ,D_.r,FQ,FQ,_,FQ,?_⟩;dsimp only[Zv];refine Tf R (n:=n+2) S2 sl λC3 H I=>?_;refine⟨_,FQ,_,FQ,?_⟩;dsimp only[Zv];have R3:=I _ _ t.2.1 t.2.2 R2;have O3:=I _ _ D.2.1 D.2.2 O2;obtain⟨k,run⟩:=fz o hw (o.lt s sl) (o.id s sl) d.rd;refine Do R (n:=n) H o hn (o.lt s sl) (o.id s sl) R3 U O3 D.2.1 D.2.2 E run λC4 E_ M' O' B' S4 F4 R4 F_ O4 G_ B_=>?_;obtain⟨HP,a,g,C_⟩:=B_;have a:∀q k,M q=some k->M' q=some k:=a;have g:M' (u.rt s)≠none:=g;refine hN _ _ ⟨_,M',O',E_,FQ,S4,λc w m1 m2 e=>?_,R4,F_,O4,G_,HP,λj hj=>?_,λhS=>?_⟩
  ·exact F4 c w m1 m2 (X2 e v) (X2 e m) (I c w m1 m2 (K2 c w m1 m2 e))
  ·rw[YD,hs] at hj
   rcases XS.mp hj with hj | hj
   ·cases z:M (u.rt j) with
    | none=>exact absurd z (d.all j hj)
    | some k0=>rw[a _ k0 z];intro y;cases y
   ·rw[XQ.mp hj];exact g
  ·obtain⟨kk,g1,g2⟩:=C_ hS;have g1:M' (u.rt s)=some kk:=g1;rw[YD,hs];show ext [] ((p_.take i++[s]).map _).flatten=_;rw[XL,List.flatten_append,jC];have e1:(p_.take i).map (λi=>(vl M' (u.rt i)).ops)=(p_.take i).map λi=>(vl M (u.rt i)).ops:=CA λj hj=>by
    cases z:M (u.rt j) with
    | none=>exact absurd z (d.all j hj)
    | some k0=>unfold vl;rw[a _ k0 z,z]
   rw[e1,d.num hS];have e2:vl M' (u.rt s)=kk:=by unfold vl;rw[g1];rfl
   show ext _ ([(vl M' (u.rt s)).ops].flatten)=_;rw[e2,List.flatten_cons,List.flatten_nil,YK];exact g2
 ·rintro τ C2 ⟨v4,M,O,kv,rfl,S2,K2,R2,U,O2,E,d⟩;rw[XI,DC] at d;have hS:∃σ,Wv u σ:=⟨_,xt o cl d.rd λx hx=>xu cl d.rd d.all (DO x hx)⟩;have d:pW u p_ M O:=⟨d.rd,d.all,d.num hS⟩;have L:=K2 _ _ pf pl b;refine⟨_,FQ,_,L,?_⟩;refine Ro (λi G C'=>Sl A C' u/\Fx A C2 C'/\G=(p_.take i).map λi=>Dy (vl M (u.rt i))) ⟨S2,Fx.refl _ _,FQ⟩ (λi G C' _ h=>h.2.1 _ _ pf pl L) ?_ ?_
  ·rintro i x G C3 N hx ⟨H,I,rfl⟩ hN;rw[XM] at hx;obtain⟨s,hs,rfl⟩:∃s,p_[i]?=some s/\nT s=x:=by
    cases z:p_[i]? with
    | none=>rw[z] at hx;cases hx
    | some p=>rw[z] at hx;exact⟨p,FQ,YH hx⟩
   have sm:=BE hs;have sl:=Y s sm;obtain⟨_,_,HS⟩:=id H;refine Yb (q:=N ((p_.take i).map λi=>Dy (vl M (u.rt i))) C3) ⟨_,FQ,_,FQ,_,_,_,_,FQ,HS.r,FQ,FQ,_,FQ,?_⟩;dsimp only[Zv];refine Tf R (n:=n+2) H sl λC4 S4 F4=>?_;have hi:i<p_.length:=(AZ.mp hs).1
   cases z:M (u.rt s) with
   | none=>exact absurd z (d.all s sm)
   | some k0=>
    have ev:vl M (u.rt s)=k0:=by unfold vl;rw[z];rfl
    refine⟨_,_,_,_,FQ,FQ,.inl (F4 _ _ t.2.1 t.2.2 (I _ _ t.2.1 t.2.2 R2)),by rw[show Ys kv (Sum.inl ((u.rt s:Nat):Int))=_ from U.1 (u.rt s),z];rfl,⟨Y4 (by rw[XI,YM];omega),hN _ _ ⟨S4,I.trans F4,?_⟩⟩⟩;rw[YD,hs,XL];show _=_++[Dy (vl M (u.rt s))];rw[ev]
  ·rintro G C3 ⟨H,I,rfl⟩ p hp;rw[XI,DC];have FC:Fx A C C3:=λc w m1 m2 e=>I c w m1 m2 (K2 c w m1 m2 e);exact q _ p M O (H.new hp) (Tl H FC hp) (Qd H FC hp) Zf d hS (U0 _ _ E.1 λx hx=>(E.2 x hx).1)
end
end K25
namespace Fn
def Za0 (θ:Nat->Kd)(c:Ev×Tr×Kd):Ev×Tr×Kd:=(λx=>(c.1 x).map (Kd.put θ),c.2.1,c.2.2.put θ)
def aC (R:List Kd):List Nat:=ext [] (R.map Kd.ops).flatten
def aG (R:List Kd):List Kd:=R.map (Kd.put λi=>.op ((aC R).idxOf i))
def Cd:Nat->List Str->Tr->Prop
 | 0,_,_=>False
 | m+1,bs,t=>(∀x,t=.nm x->x∈bs)/\∀z∈t.scs,Cd m (bs++z.1) z.2
end Fn
namespace WL
open PySem.Builtin PySem.Builtin.Str PySem.StrLaws
def aD (c:Nat):Bool:=c !=32&&c !=40&&c !=41
def gw (w:Str):Bool:=w=="("||w==")"||(decide (1<=w.length)&&decide (w.length<=20)&&w.cps.toList.all aD)
def J:List Str->List Nat
 | []=>[]
 | [w]=>w.cps.toList
 | w::v::r=>w.cps.toList++32::J (v::r)
def lC:∀ws:List Str,(Txt.join (" ":Str) ws).cps.toList=J ws:=by
 intro ws;show(glued (" ":Str) ws).cps.toList=J ws;rw[glued_eq_join]
 induction ws with
 | nil=>rfl
 | cons w r a=>
  cases r with
  | nil=>rfl
  | cons v r=>
   show(w++(" ":Str)++Str.join (" ":Str) (v::r)).cps.toList=_;rw[Str.cps_append,Str.cps_append];simp only[Array.toList_append,List.append_assoc];rw[a];rfl
end WL
namespace K25
def Yx:Nat->List Str->Tr->List Str
 | 0,_,_=>[]
 | m+1,bs,t=>(match t with | .nm x=>if x∈bs then[] else[x] | _=>[])++(t.scs.map λz=>Yx m (bs++z.1) z.2).flatten
def Lv:Nat->Tr->Prop
 | 0,_=>False
 | m+1,t=>∀z∈t.scs,Lv m z.2
def Vi (ks l:List Str):List Str:=l.foldl (λa x=>if x∈a then a else a++[x]) ks
def Mt {ks l m:List Str}:Vi ks (l++m)=Vi (Vi ks l) m:=DL ..
def Ie:∀{l ks:List Str},ks.length<=(Vi ks l).length
 | [],_=>XE _
 | x::l,ks=>by
  show _<=(Vi (if x∈ks then ks else ks++[x]) l).length;refine XN ?_ Ie
  split
  ·exact XE _
  ·rw[AY];omega
abbrev nd (ks:List Str):List (Z8×T):=ks.map λx=>(Sum.inr x,T.bl true)
def mV {ks:List Str}{x:Str}:J8 (nd ks) (.inr x) (.bl true)=nd (Vi ks [x]):=by
 show _=nd (if x∈ks then ks else ks++[x]);have any:(nd ks).any (λkv=>decide (kv.1=.inr x))=decide (x∈ks):=by
  rw[DZ,CZ,decide_eq_true_iff];constructor
  ·rintro⟨z,hz,e⟩;obtain⟨y,hy,rfl⟩:=XR.mp hz;have e:(Sum.inr y:Z8)=.inr x:=by simpa using e
   cases e;exact hy
  ·intro h;exact⟨_,List.mem_map.mpr ⟨x,h,FQ⟩,by simp⟩
 unfold J8;rw[any];by_cases c:x∈ks
 ·rw[XY c,decide_eq_true c,XY FQ,YE];refine CA λy _=>?_;show(if (Sum.inr y:Z8)=.inr x then(Sum.inr y,T.bl true) else(Sum.inr y,T.bl true))=(Sum.inr y,T.bl true)
  split<;>rfl
 ·rw[XX c,YG c,XX (by decide)];show _=(ks++[x]).map _;rw[XL];rfl
def Ed (d:WP)(C C':Hw):Prop:=∀c w,c≠d->C c=some w->C' c=some w
def Ed.refl (d:WP)(C:Hw):Ed d C C:=λ_ _ _ h=>h
def Ed.trans {d:WP}{C C1 C2:Hw}(a:Ed d C C1)(b:Ed d C1 C2):Ed d C C2:=λc w n h=>b c w n (a c w n h)
section
variable {W:Nat->Calls}{ρ x_:Prop}{C C':Hw}{Q:WK}{χ:WX}{d:WP}{t:Tr}
def Ai (R:Rp W ρ x_):∀(m n:Nat) (bs:List Str) (t:Tr) (ks:List Str) (C:Hw) {Q:WK} {χ:WX},Lv m t->t.lok->bs.length+10*m<=10000->C d=some (.dic (nd ks))->(Vi ks (Yx m bs t)).length<=90000->
  (∀C',Ed d C C'->C' d=some (.dic (nd (Vi ks (Yx m bs t))))->Q .non C')->W (n+m+2) G7 [tt t,.tup (bs.map T.str),.ref d] C Q χ
 | 0,_,_,_,_,_,_,_,h,_,_,_,_,_=>h.elim
 | m+1,n,bs,t,ks,C,Q,χ,hc,hl,hb,hd,f,q=>by
  refine R.o_gather_free (n:=n+m+2) FQ ?_;unfold X9 Wh;obtain⟨l1,l2⟩:=Dw hl;obtain⟨e,sc⟩:=oB t l1;have a:∀(ks:List Str) (C0:Hw),Ed d C C0->C0 d=some (.dic (nd ks))->Vi ks (t.scs.map λz=>Yx m (bs++z.1) z.2).flatten=Vi ks (t.scs.map λz=>Yx m (bs++z.1) z.2).flatten->(Vi ks (t.scs.map λz=>Yx m (bs++z.1) z.2).flatten).length<=90000->(∀C',Ed d C C'->C' d=some (.dic (nd (Vi ks (t.scs.map λz=>Yx m (bs++z.1) z.2).flatten)))->Q .non C')->∀D:We,D.nx=(λ_ C'=>Q .non C')->D.xc=χ->rN (lM (Xh (W (n+m+2)) 0 (Z1 (Yp 0) Zv))) (eM (Lg (Nq 3) (Lg (Nq 4) A3))) (Aj (Xh (W (n+m+2)) 4 (Z1 (Yp 4) (Z1 (X5 B6 (Yp 1) (Yp 3)) (Z1 (Yp 2) Zv))))) D
    [some (tt t),some (.tup (bs.map T.str)),some (.ref d),none,none] C0:=by
   intro ks C0 x0 g _ u q0 D A B;refine⟨_,FQ,?_⟩;dsimp only[Zv];refine Af R (n:=n+m) sc λk C1 Y E j=>⟨_,j,?_⟩;have kd:k≠d:=(X2 g E).symm;have sp:∀i,(Vi ks (((t.scs.take i).map λz=>Yx m (bs++z.1) z.2).flatten)).length<=90000:=λi=>by
    refine XN ?_ u;have:t.scs=t.scs.take i++t.scs.drop i:=(List.take_append_drop ..).symm
    conv=>rhs;rw[this]
    rw[XL,List.flatten_append,Mt];exact Ie
   refine Ky (λi τ C'=>∃G H,τ=[some (tt t),some (.tup (bs.map T.str)),some (.ref d),G,H]/\Ed d C1 C'/\C' d=some (.dic (nd (Vi ks (((t.scs.take i).map λz=>Yx m (bs++z.1) z.2).flatten))))) ⟨_,_,FQ,Ed.refl _ _,Y _ _ g⟩ (λi τ C' _ h=>by obtain⟨_,_,_,h,_⟩:=h;exact h _ _ kd j) ?_ ?_
   ·rintro i x τ C2 N hx ⟨G,H,rfl,I,b⟩ hN;rw[XM,XM] at hx;obtain⟨z,hz,rfl⟩:∃z,t.scs[i]?=some z/\oC (sS z)=x:=by
     cases y:t.scs[i]? with
     | none=>rw[y] at hx;cases hx
     | some p=>rw[y] at hx;exact⟨p,FQ,YH hx⟩
    have L:=BE hz;have A_:=v9 t l1 z L;have s:((t.scs.take (i+1)).map λz=>Yx m (bs++z.1) z.2).flatten=((t.scs.take i).map λz=>Yx m (bs++z.1) z.2).flatten++Yx m (bs++z.1) z.2:=by
     rw[List.take_add_one,hz,List.map_append,List.flatten_append];simp
    refine⟨_,FQ,_,_,FQ,_,_,FQ,FQ,?_⟩;refine⟨_,FQ,_,FQ,_,FQ,by rw[XI,XI];exact Jd (by omega),_,FQ,?_⟩;dsimp only[Zv];rw[<-XL];rw[B];refine Ai R m n (bs++z.1) z.2 _ C2 (hc z L) (l2 z L) (by rw[AY];omega) b (by have:=sp (i+1);rw[s,Mt] at this;exact this) λC3 x3 U=>hN _ _ ⟨_,_,FQ,I.trans x3,by rw[s,Mt];exact U⟩
   ·rintro τ C2 ⟨G,H,rfl,I,b⟩;rw[A];rw[XI,XI,DC] at b;exact q0 C2 (λc w n h=>I c w n (Y c w (x0 c w n h))) b
  cases hn:Tr.isNm t with
  | true=>
   cases t with
   | nm x=>
    by_cases hx:x∈bs
    ·have o:Yx (m+1) bs (.nm x)=((Tr.nm x).scs.map λz=>Yx m (bs++z.1) z.2).flatten:=by show(if x∈bs then[] else[x])++_=_;rw[XY hx];rfl
     rw[o] at q f;refine⟨_,FQ,_,Yj,Z3 (v:=true) (by decide+kernel) ⟨_,FQ,Yb ⟨_,FQ,_,Xu,_,FQ,by unfold Yz Xp;rfl,Nf,⟨_,FQ,Ma (by rw[XY FQ,Hr,decide_eq_true hx];rfl) ?_⟩⟩⟩⟩;exact a ks C (Ed.refl _ _) hd FQ f q _ FQ FQ
    ·have o:Yx (m+1) bs (.nm x)=[x]++((Tr.nm x).scs.map λz=>Yx m (bs++z.1) z.2).flatten:=by show(if x∈bs then[] else[x])++_=_;rw[XX hx]
     rw[o,Mt] at q f;refine⟨_,FQ,_,Yj,Z3 (v:=true) (by decide+kernel) ⟨_,FQ,Yb ⟨_,FQ,_,Xu,_,FQ,by unfold Yz Xp;rfl,Nf,⟨_,FQ,N9 (by rw[XY FQ,Hr,YG hx];rfl) ?_⟩⟩⟩⟩;have l0:=Ie (l:=[x]) (ks:=ks);have B_:=Ie (l:=((Tr.nm x).scs.map λz=>Yx m (bs++z.1) z.2).flatten) (ks:=Vi ks [x]);refine⟨_,FQ,_,FQ,_,Xu,_,_,_,FQ,FQ,hd,Y4 (by rw[XI];omega),?_⟩;rw[mV];exact a (Vi ks [x]) _ (λc w n h=>by rw[Zk n];exact h) Zf FQ f q _ FQ FQ
   | _=>cases hn
  | false=>
   have o:Yx (m+1) bs t=(t.scs.map λz=>Yx m (bs++z.1) z.2).flatten:=by
    cases t with
    | nm x=>cases hn
    | _=>rfl
   rw[o] at q f;obtain⟨wd,r,s,hw⟩:∃(wd:Str) (r:List T),tt t=.tup (.str wd::r)/\(wd=="name")=false:=by
    cases t with
    | nm x=>cases hn
    | _=>exact⟨_,_,FQ,by decide+kernel⟩
   have lp:=a ks C (Ed.refl _ _) hd FQ f q;rw[s] at lp |-;exact⟨_,FQ,_,Yj,Z3 (v:=false) hw ⟨_,FQ,Zn (Zn (lp _ FQ FQ))⟩⟩
def vG (R:Rp W ρ x_){m N:Nat}(g:m+3<=N)(hc:Lv m t)(b:t.lok)(hm:m<=900)(h64:(Vi [] (Yx m [] t)).length<64)(q:∀(p:WP) (C':Hw) (ys:List Str),Ex C C'->C p=none->C' p=some (.lst (ys.map T.str))->ys.Perm (Vi [] (Yx m [] t))->Q (.ref p) C'):W N lL [tt t] C Q χ:=by
 obtain⟨n,rfl⟩:∃n,N=n+m+3:=⟨N-m-3,by omega⟩;refine R.o_free (n:=n+m+2) FQ ?_;unfold Ii Gw;intro d hd;refine⟨_,FQ,Jd (by show 0<=_;omega),_,FQ,?_⟩;dsimp only[Zv];refine Ai R m n [] t [] _ hc b (by show 0+_<=_;omega) Zf (by omega) λC1 e f=>?_;refine⟨_,FQ,_,_,Vi [] (Yx m [] t),FQ,f,by rw[YE];rfl,h64,λp ys a pm _=>?_⟩;have x0:Ex C C1:=λc w h=>e c w (X2 h hd) (by rw[Zk (X2 h hd)];exact h);exact q p _ ys (x0.trans (Ex.new a)) (x0.free a) Zf pm
def sf:∀{m:Nat} {bs:List Str} {t:Tr},Ce m bs t->Lv m t
 | 0,_,_,h=>h.elim
 | m+1,bs,t,h=>λz hz=>sf (h.2.2 z hz)
def Gi:∀{m:Nat} {bs:List Str} {t:Tr},Ce m bs t->Yx m bs t=[]
 | 0,_,_,h=>h.elim
 | m+1,bs,t,h=>by
  have a:(t.scs.map λz=>Yx m (bs++z.1) z.2).flatten=[]:=by
   rw[List.flatten_eq_nil_iff];intro l b;obtain⟨z,hz,rfl⟩:=XR.mp b;exact Gi (h.2.2 z hz)
  show _++(t.scs.map λz=>Yx m (bs++z.1) z.2).flatten=[];rw[a,YK]
  cases t with
  | nm x=>show(if x∈bs then[] else[x])=[];rw[XY (h.1 x FQ)]
  | _=>rfl
def fc (ys:List Str):(Txt.join (" ":Str) ys).length<=(ys.map (·.length)).sum+ys.length:=by
 have e:∀x:Str,x.cps.toList.length=x.length:=λx=>by simp[Str.length]
 rw[<-e,lC];have k:∀ys:List Str,(J ys).length<=(ys.map (·.length)).sum+ys.length:=by
  intro ys
  induction ys with
  | nil=>exact XE _
  | cons y r a=>
   cases r with
   | nil=>show(y.cps.toList).length<=_;rw[e];simp
   | cons z r=>
    show(y.cps.toList++32::J (z::r)).length<=_;rw[AY,YF,e,YI,FJ,YF];omega
 exact k ys
def xn (R:Rp W ρ x_){m n:Nat}(hc:Lv m t)(h:t.lok)(hm:m<=900)(h64:(Vi [] (Yx m [] t)).length<64)(a:Vi [] (Yx m [] t)≠[])(hs:((Vi [] (Yx m [] t)).map (·.length)).sum<=10000)(i:x_):W (n+m+8) Kw [tt t] C Q χ:=by
 refine R.o_paper (n:=n+m+7) FQ ?_;unfold Pr Oi;refine⟨_,FQ,?_⟩;dsimp only[Zv];refine vG R (m:=m) (by omega) hc h hm h64 λj C1 ys o l d pm=>?_;refine⟨_,FQ,Jd (by show 0<=_;omega),λp2 b=>?_⟩;have e:up C1 p2 (.lst []) j=some (.lst (ys.map T.str)):=by rw[Zk (X2 d b)];exact d
 refine Hc e Zf ⟨_,FQ,?_⟩;have c:ys≠[]:=λz=>a (by rw[z] at pm;exact List.Perm.eq_nil pm.symm);have ne:(!(ys.map T.str).isEmpty)=true:=by
  cases ys with
  | nil=>exact absurd FQ c
  | cons y ys=>rfl
 refine N9 ne ?_;have f:(ys.map (·.length)).sum<=10000:=by rw[(pm.map _).sum_nat];exact hs
 have g:ys.length<64:=by rw[pm.length_eq];exact h64
 have p:=fc ys;have s1:(Str.ofString "free: ").length=6:=by decide
 refine⟨⟨_,FQ⟩,_,FQ,_,_,ys,FQ,FQ,e,by decide,by omega,Jd (by omega),ZNB FQ,?_⟩;exact R.o_raise_Unbound i
def yY (R:Rp W ρ x_){m n:Nat}(hc:Ce m [] t)(N:t.lok)(hm:m<=900)(hz:t.size<=600)(D:t.cost<=6000)(hw:(¬∃k R,HT G0 t k R)->ρ)
  (q:∀C' p R,Ex C C'->C p=none->C' p=some (.lst (R.map Dy))->oy t R->(∃n,ext [] (R.map Kd.ops).flatten=List.range n/\n<=1+t.cost)->Q (.ref p) C'):W (n+m+8) Kw [tt t] C Q χ:=by
 refine R.o_paper (n:=n+m+7) FQ ?_;unfold Pr Oi;refine⟨_,FQ,?_⟩;dsimp only[Zv];have f0:=Gi hc;refine vG R (m:=m) (by omega) (sf hc) N hm (by rw[f0];decide) λp1 C1 ys x1 A_ U pm=>?_;rw[f0] at pm;have pm:ys=[]:=List.Perm.eq_nil pm;subst pm;refine⟨_,FQ,Jd (by show 0<=_;omega),λp2 B=>?_⟩;refine Hc (xs:=[]) (by rw[Zk (X2 U B)];exact U) Zf ⟨_,FQ,Zn ?_⟩;have A:Ex C (up C1 p2 (.lst [])):=x1.trans (Ex.new B);generalize up C1 p2 (.lst [])=C2 at A;show W (n+m+6+1) A2 [] C2 (λx C1=>N4 (Xh (W (n+m+7)) Mb (Z1 (Yp 2) (Z1 (Xh (W (n+m+7)) Eh (Z1 (Yp 2) (Z1 (Yp 0) Zv))) Zv))) (ZUD Q χ) [some (tt t),some (.ref p1),some x] C1) χ;refine R.o_new_Slots (n:=n+m+6) (vs:=[]) FQ λsa u=>?_;refine R.o_Slots___init__ (n:=n+m+5) FQ ?_;unfold J2 J7;refine⟨Jd (by show 0<=_;omega),λa r=>?_⟩;have g:sa≠a:=λe=>by rw[<-e,Zf] at r;cases r
 have j:C2 a=none:=by rw[Zk g.symm] at r;exact r
 refine⟨_,FQ,_,_,_,FQ,by rw[Zk g];exact Zf,.head _,by decide,?_⟩;refine⟨Jd (by show 0<=_;omega),λd b=>?_⟩;have s:sa≠d:=λe=>by rw[<-e,Zf] at b;cases b
 have v:a≠d:=λe=>by rw[<-e,Zk g.symm,Zf] at b;cases b
 have l:C2 d=none:=by rw[Zk s.symm,Zk v.symm,Zk s.symm] at b;exact b
 refine⟨_,FQ,_,_,_,FQ,by rw[Zk s];exact Zf,.head _,by show 1<1000;decide,?_⟩;have E:Sl ⟨sa,a,d⟩ (up (up (up (up (up C2 sa (.ins "Slots" [])) a (.lst [])) sa (.ins "Slots" (T6 "forms" (.ref a) []))) d (.lst [])) sa (.ins "Slots" (T6 "leads" (.ref d) (T6 "forms" (.ref a) [])))) ⟨id,[]⟩:=by
  refine⟨λ_=>0,[],⟨?_,?_,?_,⟨FQ,λx y h=>by simp at h⟩,v,λf h=>(by cases h)⟩⟩
  ·rw[Zf];rfl
  ·show up _ _ _ a=_;rw[Zk g.symm,Zk v,Zk g.symm,Zf];rfl
  ·show up _ _ _ d=_;rw[Zk s.symm,Zf];rfl
 have Y:Ex C2 (up (up (up (up (up C2 sa (.ins "Slots" [])) a (.lst [])) sa (.ins "Slots" (T6 "forms" (.ref a) []))) d (.lst [])) sa (.ins "Slots" (T6 "leads" (.ref d) (T6 "forms" (.ref a) [])))):=λc w h=>by
  rw[Zk (X2 h u),Zk (X2 h l),Zk (X2 h u),Zk (X2 h j),Zk (X2 h u)];exact h
 generalize up (up (up (up (up C2 sa (.ins "Slots" [])) a (.lst [])) sa (.ins "Slots" (T6 "forms" (.ref a) []))) d (.lst [])) sa (.ins "Slots" (T6 "leads" (.ref d) (T6 "forms" (.ref a) [])))=C3 at E Y;refine⟨FQ,?_⟩;refine⟨_,FQ,_,FQ,_,FQ,?_⟩;dsimp only[Zv];refine xo R (n:=n+m) N hz D hc hw E λC4 p4 u4 p_ S4 F4 G P4 z H=>?_;have I:(¬∃σ,Wv u4 σ)->ρ:=λh=>hw λ⟨k0,R0,h0⟩=>by
  obtain⟨z_,_,s0,_,_⟩:=z.co k0 R0 h0;exact h ⟨z_,s0⟩
 have pf:=E.off G;have ln:=z.len;have sz:=z.sz;refine Dl R (n:=n+m+3) S4 z.o (by omega) z.c I H P4 pf.2.1 pf.2.2 z.rl (by omega) λC5 p5 M O S5 F5 L P5 T5 hS oL=>?_;obtain⟨z_,s0⟩:=hS;have x4:Ex C C4:=λc w h=>by
  have h3:=Y _ _ (A _ _ h);have nf:c≠a:=X2 (A _ _ h) j;have nl:c≠d:=X2 (A _ _ h) l;exact F4 c w nf nl h3
 have xx:Ex C C5:=λc w h=>F5 c w (X2 (A _ _ h) j) (X2 (A _ _ h) l) (x4 c w h);exact q C5 p5 (p_.map λi=>vl M (u4.rt i)) xx (x4.free L) (by rw[YE];exact P5) (xi z s0 T5) ⟨O.length,by rw[<-T5.num,YE];rfl,by omega⟩
end
end K25
namespace Fn
def HT.head {G:Ev}{t:Tr}{k:Kd}{R:List Kd}(h:HT G t k R):∃R',R=k::R':=by cases h;exact⟨_,FQ⟩
def HTs.two {c d:Ev×Tr×Kd}{R:List Kd}(h:HTs [c,d] R):∃r s,R=r++s/\HT c.1 c.2.1 c.2.2 r/\HT d.1 d.2.1 d.2.2 s:=by
 cases h with
 | cons a b=>
  cases b with
  | cons b e=>cases e;exact⟨_,_,by rw[YK],a,b⟩
def HTs.one {c:Ev×Tr×Kd}{R:List Kd}(h:HTs [c] R):HT c.1 c.2.1 c.2.2 R:=by
 cases h with
 | cons a b=>cases b;rw[YK];exact a
def HTs.mk2 {G H:Ev}{t s:Tr}{k l:Kd}{r q:List Kd}(a:HT G t k r)(b:HT H s l q):HTs [(G,t,k),(H,s,l)] (r++q):=by
 have:=HTs.cons a (HTs.cons b HTs.nil);rw[YK] at this;exact this
def HTs.mk1 {G:Ev}{t:Tr}{k:Kd}{r:List Kd}(a:HT G t k r):HTs [(G,t,k)] r:=by
 have:=HTs.cons a HTs.nil;rw[YK] at this;exact this
def jt (v_ w_:Nat->Kd)(s:Kd):Nat->Kd:=λi=>if i<1000 then v_ i else if i<2000 then w_ (i-1000) else s
def bV (R:List Kd):Prop:=∀k∈R,∀i∈k.ops,i<1000
section
variable {v_ w_:Nat->Kd}{s:Kd}{R R1 R2:List Kd}{t1 t2:Tr}{m:Nat}{z:Str}
structure Za5 (m:Nat)(t1 t2:Tr)(R1 R2:List Kd):Prop where
 c1:Cd m [] t1
 c2:Cd m [] t2
 b1:oy t1 R1
 b2:oy t2 R2
 l1:bV R1
 l2:bV R2
def Zaf (t:Tr)(R:List Kd):Prop:=(∃k,HT G0 t k R)/\∀k' R',HT G0 t k' R'->∃θ,R'=R.map (Kd.put θ)
def cq:List.finRange 1=[0]:=rfl
end
end Fn
namespace K25
mutual
def Wt {C:Hw}:∀t:Tr,Fz C (tt t) (tt t)
 | .num v=>.tup (.cons (.str _) (.cons (.int _) .nil))
 | .nm x=>.tup (.cons (.str _) (.cons (.str _) .nil))
 | .stop x=>.tup (.cons (.str _) (.cons (.str _) .nil))
 | .does o a b=>.tup (.cons (.str _) (.cons (.str _) (.cons (Wt a) (.cons (Wt b) .nil))))
 | .fn x b=>.tup (.cons (.str _) (.cons (.str _) (.cons (Wt b) .nil)))
 | .call a b=>.tup (.cons (.str _) (.cons (Wt a) (.cons (Wt b) .nil)))
 | .first a b=>.tup (.cons (.str _) (.cons (Wt a) (.cons (Wt b) .nil)))
 | .lt n xs ts b=>.tup (.cons (.str _) (.cons (.tup (uX (λi=>.tup [.str (xs i),tt (ts i)]) (λi=>.tup (.cons (.str _) (.cons (Wt (ts i)) .nil))) (List.finRange n))) (.cons (Wt b) .nil)))
 | .sh0 c=>.tup (.cons (.str _) (.cons (.str _) (.cons (.tup .nil) .nil)))
 | .sh2 c a b=>.tup (.cons (.str _) (.cons (.str _) (.cons (.tup (.cons (Wt a) (.cons (Wt b) .nil))) .nil)))
 | .chT a n y=>.tup (.cons (.str _) (.cons (Wt a) (.cons (.tup (.cons (.tup (.cons (.str _) (.cons (.tup .nil) (.cons (Wt n) .nil)))) (.cons (.tup (.cons (.str _) (.cons (.tup .nil) (.cons (Wt y) .nil)))) .nil))) .nil)))
 | .chL a n x y c=>.tup (.cons (.str _) (.cons (Wt a) (.cons (.tup (.cons (.tup (.cons (.str _) (.cons (.tup .nil) (.cons (Wt n) .nil)))) (.cons (.tup (.cons (.str _) (.cons (.tup (.cons (.str _) (.cons (.str _) .nil))) (.cons (Wt c) .nil)))) .nil))) .nil)))
 | .chP a x y b=>.tup (.cons (.str _) (.cons (Wt a) (.cons (.tup (.cons (.tup (.cons (.str _) (.cons (.tup (.cons (.str _) (.cons (.str _) .nil))) (.cons (Wt b) .nil)))) .nil)) .nil)))
def uX {C:Hw}{n:Nat}(f:Fin n->T)(h:∀i,Fz C (f i) (f i)):∀l:List (Fin n),Fzs C (l.map f) (l.map f)
 | []=>.nil
 | i::l=>.cons (h i) (uX f h l)
end
def gS {m:Nat}(h:Nat.ble m 1000=true:=by rfl):m<=sizeLine:=Jd (XN (Nat.le_of_ble_eq_true h) (by decide))
structure eX (m:Nat)(t:Tr):Prop where
 c:Ce m [] t
 l:t.lok
 hm:m<=900
 s:t.size<=600
 k:t.cost<=6000
structure cQ (m:Nat)(t:Tr):Prop where
 c:Lv m t
 l:t.lok
 hm:m<=900
 h64:(Vi [] (Yx m [] t)).length<64
 ne:Vi [] (Yx m [] t)≠[]
 s:((Vi [] (Yx m [] t)).map (·.length)).sum<=10000
def Oc (m:Nat)(t:Tr)(o:List Int):Prop:=(o=[]/\eX m t/\∃k R,HT G0 t k R)\/(o=[1]/\eX m t/\¬∃k R,HT G0 t k R)\/(o=[0]/\cQ m t)
section
variable {W:Nat->Calls}{ρ x_:Prop}{C C':Hw}{Q:WK}{χ:WX}{t:Tr}{m n:Nat}{o:List Int}
def k_paper (R:Rp W ρ x_){N:Nat}(a:m+8<=N)(h:eX m t)(hw:(¬∃k R,HT G0 t k R)->ρ)(q:(∃k R,HT G0 t k R)->∀C' v,Q v C'):W N Kw [tt t] C Q χ:=by
 obtain⟨n,rfl⟩:∃n,N=n+m+8:=⟨N-(m+8),by omega⟩;exact yY R h.c h.l h.hm h.s h.k hw λC' p R _ _ _ hb _=>q ⟨_,_,hb.is.choose_spec⟩ C' _
def uK (R:Rp W ρ x_){N:Nat}(b:m+9<=N)(h:eX m t)(hw:(¬∃k R,HT G0 t k R)->ρ)(q:(∃k R,HT G0 t k R)->∀C' v,Q v C'):W N Ej [tt t] C Q χ:=by
 obtain⟨n,rfl⟩:∃n,N=n+m+8+1:=⟨N-(m+9),by omega⟩;refine R.o_kind_of FQ ?_;unfold Uy U2;refine⟨_,FQ,?_⟩;dsimp only[Zv];refine yY R (n:=n) h.c h.l h.hm h.s h.k hw λC1 p R d f1 a b1 _=>?_;obtain⟨k,hk⟩:=b1.is;obtain⟨R',rfl⟩:=hk.head;exact⟨_,_,a,Yj,q ⟨_,_,hk⟩ C1 _⟩
def yR (R:Rp W ρ x_){N:Nat}(b:m+8<=N)(h:cQ m t)(a:x_):W N Kw [tt t] C Q χ:=by
 obtain⟨n,rfl⟩:∃n,N=n+m+8:=⟨N-(m+8),by omega⟩;exact xn R h.c h.l h.hm h.h64 h.ne h.s a
def nC (R:Rp W ρ x_){N:Nat}(b:m+9<=N)(h:cQ m t)(a:x_):W N Ej [tt t] C Q χ:=by
 obtain⟨n,rfl⟩:∃n,N=n+m+8+1:=⟨N-(m+9),by omega⟩;refine R.o_kind_of FQ ?_;unfold Uy U2;refine⟨_,FQ,?_⟩;dsimp only[Zv];exact yR R (by omega) h a
def vf {hs:List Bool}{d:WP}{τ:Sw}(f:hs.length=10)(P3:C d=some (.lst (hs.map T.bl)))(h1:τ[1]?=some (some (.ref d)))(q:∀r,C r=none->Q (.ref r) (up C r (.lst (((List.range 10).filter λj=>hs.getD j false).map λj:Nat=>T.int (j:Int))))):
  ze [none,some 1] (ci (Z1 (eC (T.int 10)) Zv)) (Nq 0) (r9 (X5 xa (Yp 1) (Yp 0))) (Yp 0) τ C Q χ:=by
 have cp:Gk [none,some 1] τ=[none,some (.ref d)]:=by unfold Gk;simp[h1]
 refine⟨_,FQ,by decide,by decide,?_⟩;rw[cp];refine Ro (λi a C'=>C'=C/\a=((List.range i).filter λj=>hs.getD j false).map λj:Nat=>T.int (j:Int)) ⟨FQ,FQ⟩ (λ_ _ _ _ _=>trivial) ?_ ?_
 ·rintro i x a C1 N hx ⟨rfl,rfl⟩ e;have hi:i<10:=by
   have:=(AZ.mp hx).1;simpa[rng] using this
  have c:(rng 0 10)[i]?=some (T.int (0+(i:Int))):=by unfold rng;rw[XM,FG hi];rfl
  have hx:(rng 0 10)[i]?=some x:=hx;rw[hx] at c
  cases c
  rw[show(0:Int)+(i:Int)=(i:Int) by omega];obtain⟨b,hb⟩:∃b,hs[i]?=some b:=⟨_,BD (by omega)⟩;have hd:hs.getD i false=b:=by rw[List.getD_eq_getElem?_getD,hb];rfl
  refine⟨_,FQ,_,FQ,_,T.bl b,P3,X6 (by rw[XM,hb];rfl),b,FQ,?_⟩;have g:(((List.range i).filter λj=>hs.getD j false).map λj:Nat=>T.int (j:Int)).length<=i:=by
   rw[XI];exact XN (List.length_filter_le _ _) (by rw[List.length_range];exact XE _)
  cases b with
  | true=>exact Yb ⟨_,FQ,Y4 (by omega),e _ _ ⟨FQ,by rw[List.range_succ,List.filter_append,List.map_append];simp only[List.filter,hd];rfl⟩⟩
  | false=>exact Zn (e _ _ ⟨FQ,by rw[List.range_succ,List.filter_append,List.map_append];simp only[List.filter,hd,List.map_nil,List.append_nil]⟩)
 ·rintro a C1 ⟨rfl,rfl⟩;exact q
def xq {p:WP}{b:Bool}(h:C p=some (.exc (if b then "NoKind" else "Unbound")))(q:∀C' r,Ex C C'->C r=none->C' r=some (.lst [.int (if b then 1 else 0)])->Q (.ref r) C'):Jo pr (n+1) Pe [.ref p] C Q χ:=by
 refine Il FQ ?_;unfold U5 Tv
 cases b with
 | true=>
  have h:C p=some (.exc "NoKind"):=h;refine⟨_,FQ,_,_,_,FQ,h,FQ,_,FQ,_,_,_,FQ,h,FQ,_,FQ,_,_,_,FQ,h,FQ,_,FQ,_,_,_,FQ,h,FQ,gS,λi a=>?_⟩;have j:=Ex.new (o:=.lst ([false,true,false,false].map T.bl)) a;have h1:=j _ _ h;have P1:up C i (.lst ([false,true,false,false].map T.bl)) i=_:=Zf;refine⟨_,FQ,_,FQ,_,_,_,FQ,h1,FQ,_,FQ,_,_,_,FQ,h1,FQ,_,FQ,_,_,_,FQ,h1,FQ,_,FQ,_,_,_,FQ,h1,FQ,gS,λp2 c=>?_⟩;have d:=Ex.new (o:=.lst ([false,false,false,false].map T.bl)) c;refine⟨_,_,d _ _ P1,Zf,gS,λw e=>?_⟩;have l:=Ex.new (o:=.lst ([false,true,false,false,false,false,false,false].map T.bl)) e;have m:=l _ _ (d _ _ h1);refine⟨_,FQ,_,FQ,_,_,_,FQ,m,FQ,_,FQ,_,_,_,FQ,m,FQ,_,FQ,gS,λx f=>?_⟩;have s:=Ex.new (o:=.lst ([false,false].map T.bl)) f;refine⟨_,_,s _ _ Zf,Zf,gS,λy g=>?_⟩;have v:=Ex.new (o:=.lst ([false,true,false,false,false,false,false,false,false,false].map T.bl)) g;have t:=(((j.trans d).trans l).trans s).trans v;refine vf (hs:=[false,true,false,false,false,false,false,false,false,false]) FQ Zf FQ λr u=>?_;exact q _ r (t.trans (Ex.new u)) (t.free u) Zf
 | false=>
  have h:C p=some (.exc "Unbound"):=h;refine⟨_,FQ,_,_,_,FQ,h,FQ,_,FQ,_,_,_,FQ,h,FQ,_,FQ,_,_,_,FQ,h,FQ,_,FQ,_,_,_,FQ,h,FQ,gS,λi a=>?_⟩;have j:=Ex.new (o:=.lst ([true,false,false,false].map T.bl)) a;have h1:=j _ _ h;have P1:up C i (.lst ([true,false,false,false].map T.bl)) i=_:=Zf;refine⟨_,FQ,_,FQ,_,_,_,FQ,h1,FQ,_,FQ,_,_,_,FQ,h1,FQ,_,FQ,_,_,_,FQ,h1,FQ,_,FQ,_,_,_,FQ,h1,FQ,gS,λp2 c=>?_⟩;have d:=Ex.new (o:=.lst ([false,false,false,false].map T.bl)) c;refine⟨_,_,d _ _ P1,Zf,gS,λw e=>?_⟩;have l:=Ex.new (o:=.lst ([true,false,false,false,false,false,false,false].map T.bl)) e;have m:=l _ _ (d _ _ h1);refine⟨_,FQ,_,FQ,_,_,_,FQ,m,FQ,_,FQ,_,_,_,FQ,m,FQ,_,FQ,gS,λx f=>?_⟩;have s:=Ex.new (o:=.lst ([false,false].map T.bl)) f;refine⟨_,_,s _ _ Zf,Zf,gS,λy g=>?_⟩;have v:=Ex.new (o:=.lst ([true,false,false,false,false,false,false,false,false,false].map T.bl)) g;have t:=(((j.trans d).trans l).trans s).trans v;refine vf (hs:=[true,false,false,false,false,false,false,false,false,false]) FQ Zf FQ λr u=>?_;exact q _ r (t.trans (Ex.new u)) (t.free u) Zf
end
section
variable {C C':Hw}{Q:WK}{χ:WX}{t:Tr}{m n:Nat}{o:List Int}
def Px {b:Bool}(h:Oc m t o)(q:∀C' p,Ex C C'->C p=none->C' p=some (.lst (o.map T.int))->Q (.ref p) C'):Jo pr (n+m+10) Ht [tt t,.bl b] C Q χ:=by
 refine Ik (n:=n+m+9) FQ ?_;unfold U4 Tu;have cls:∀{bb:Bool} {ea:WP},C ea=none->(∀C' p,Ex C C'->C p=none->C' p=some (.lst [.int (if bb then 1 else 0)])->Q (.ref p) C')->Jo pr (n+m+9) Pe [.ref ea] (up C ea (.exc (if bb then "NoKind" else "Unbound"))) Q χ:=λ{bb ea} d e=>by
  refine xq (n:=n+m+8) (b:=bb) Zf λC' r x f P=>?_;have x0:Ex C (up C ea (.exc (if bb then "NoKind" else "Unbound"))):=Ex.new d;exact e C' r (x0.trans x) (x0.free f) P
 have em:∀{i:Nat} {w:WS} {as:List (Nat×WS)} {D:We} {τ:Sw},(i,w)∈as->τ[0]?=some (some (tt t))->Jo pr (n+m+9) i [tt t] (λ_=>none) (λ_ _=>D.nx τ C) (λ_ _=>False)->w D τ C->gl (Jo pr (n+m+9)) (Z1 (Yp 0) Zv) as D τ C:=λhm g h1 h2=>
  ⟨_,g,[tt t],λ_=>none,.cons (Wt _) .nil,λ_ _ h=>(by cases h),_,hm,h1,h2⟩
 rcases h with⟨rfl,ok,yes⟩ | ⟨rfl,ok,no⟩ | ⟨rfl,un⟩
 ·have fin:∀{τ:Sw},τ[2]?=some (some .non)->Su (xr (zJ (X5 va (Yp 2) (eC T.non))) (N4 (Ng Zv)) Qp) (N4 (Xh (Jo pr (n+m+9)) 32 (Z1 (Yp 2) Zv))) (ZUD Q χ) τ C:=λh2=>⟨_,h2,FQ,true,FQ,Yb ⟨gS,λp c=>q _ p (Ex.new c) c Zf⟩⟩;refine⟨_,FQ,b,FQ,?_⟩
  cases b with
  | true=>exact Yb (em (.head _) FQ (uK bH (by omega) ok (λh=>h yes) λ_ _ _=>fin FQ) trivial)
  | false=>exact Zn (em (.head _) FQ (k_paper bH (by omega) ok (λh=>h yes) λ_ _ _=>fin FQ) trivial)
 ·have fin:nW 3 "NoKind" (Ol (Yp 3) (Nq 2)) {nx:=Su (xr (zJ (X5 va (Yp 2) (eC T.non))) (N4 (Ng Zv)) Qp) (N4 (Xh (Jo pr (n+m+9)) 32 (Z1 (Yp 2) Zv))) (ZUD Q χ),rt:=Q,xc:=χ} [some (tt t),some (.bl b),some .non,none] C:=λea a=>
   ⟨_,FQ,_,FQ,FQ,false,FQ,Zn ⟨_,FQ,cls (bb:=true) a q⟩⟩
  refine⟨_,FQ,b,FQ,?_⟩
  cases b with
  | true=>exact Yb (em (.tail _ (.head _)) FQ (uK (W:=λn j=>Jo pr n (j+38)) bG (by omega) ok (λ_=>trivial) λh=>absurd h no) fin)
  | false=>exact Zn (em (.tail _ (.head _)) FQ (k_paper (W:=λn j=>Jo pr n (j+38)) bG (by omega) ok (λ_=>trivial) λh=>absurd h no) fin)
 ·have fin:nW 3 "Unbound" (Ol (Yp 3) (Nq 2)) {nx:=Su (xr (zJ (X5 va (Yp 2) (eC T.non))) (N4 (Ng Zv)) Qp) (N4 (Xh (Jo pr (n+m+9)) 32 (Z1 (Yp 2) Zv))) (ZUD Q χ),rt:=Q,xc:=χ} [some (tt t),some (.bl b),some .non,none] C:=λea a=>
   ⟨_,FQ,_,FQ,FQ,false,FQ,Zn ⟨_,FQ,cls (bb:=false) a q⟩⟩
  refine⟨_,FQ,b,FQ,?_⟩
  cases b with
  | true=>exact Yb (em (.tail _ (.tail _ (.head _))) FQ (nC (W:=λn j=>Jo pr n (j+76)) bF (by omega) un trivial) fin)
  | false=>exact Zn (em (.tail _ (.tail _ (.head _))) FQ (yR (W:=λn j=>Jo pr n (j+76)) bF (by omega) un trivial) fin)
end
end K25
namespace Fn
def vt:Nat->Int->Bool->Tr
 | 0,v,_=>.num v
 | 1,_,b=>.sh0 (if b then "Yes" else "No")
 | 2,v,_=>.sh2 "Cons" (.num v) (.sh0 "Nil")
 | 3,v,_=>.sh2 "Pair" (.num v) (.sh0 "No")
 | _+4,v,_=>.fn "x" (.does "+" (.nm "x") (.num v))
def vk:Nat->Kd
 | 0=>Wc
 | 1=>N8
 | 2=>Tz Wc
 | 3=>B4 Wc N8
 | _+4=>xP Wc Wc
section
variable {G:Ev}{k:Kd}{R:List Kd}{a b c:Tr}{x y:Str}
def uQ {v:Int}(h:HT G (.num v) k R):k=Wc:=by cases h with | mk r s=>cases r;rfl
def Kg (h:HT G (.nm x) k R):G x=some k:=by cases h with | mk r s=>cases r with | nm h=>exact h
def Cg {o:Str}(h:HT G (.does o a b) k R):k=.k0 (xE o)/\(∃R,HT G a Wc R)/\∃R,HT G b Wc R:=by
 cases h with
 | mk r s=>
  cases r with
  | does=>obtain⟨_,_,_,h1,h2⟩:=s.two;exact⟨FQ,⟨_,h1⟩,_,h2⟩
def yk (h:HT G (.fn x a) k R):∃p q,k=xP p q/\∃R,HT (bnd [x] [p] G) a q R:=by
 cases h with
 | mk r s=>cases r with | fn=>exact⟨_,_,FQ,_,s.one⟩
def Nc (h:HT G (.call a b) k R):∃p,(∃R,HT G a (xP p k) R)/\∃R,HT G b p R:=by
 cases h with
 | mk r s=>cases r with | call=>obtain⟨_,_,_,h1,h2⟩:=s.two;exact⟨_,⟨_,h1⟩,_,h2⟩
def j3 (h:HT G (.first a b) k R):(∃p R,HT G a p R)/\∃R,HT G b k R:=by
 cases h with
 | mk r s=>cases r with | first=>obtain⟨_,_,_,h1,h2⟩:=s.two;exact⟨⟨_,_,h1⟩,_,h2⟩
def Nb (h:HT G (.sh2 "Cons" a b) k R):∃p,k=Tz p/\(∃R,HT G a p R)/\∃R,HT G b (Tz p) R:=by
 cases h with
 | mk r s=>cases r with | cons=>obtain⟨_,_,_,h1,h2⟩:=s.two;exact⟨_,FQ,⟨_,h1⟩,_,h2⟩
def Le (h:HT G (.sh2 "Pair" a b) k R):∃p q,k=B4 p q/\(∃R,HT G a p R)/\∃R,HT G b q R:=by
 cases h with
 | mk r s=>cases r with | pair=>obtain⟨_,_,_,h1,h2⟩:=s.two;exact⟨_,_,FQ,⟨_,h1⟩,_,h2⟩
def fj (h:HT G (.sh0 "No") k R):k=N8:=by cases h with | mk r s=>cases r;rfl
def fi (h:HT G (.sh0 "Yes") k R):k=N8:=by cases h with | mk r s=>cases r;rfl
def oP (h:HT G (.chT a b c) k R):(∃R,HT G a N8 R)/\(∃R,HT G b k R)/\∃R,HT G c k R:=by
 cases h with
 | mk r s=>
  cases r with
  | chT=>cases s with | cons h1 s=>cases s with | cons h2 s=>cases s with | cons d s=>exact⟨⟨_,h1⟩,⟨_,h2⟩,_,d⟩
def oQ (h:HT G (.chL a b x y c) k R):∃p,(∃R,HT G a (Tz p) R)/\∃R,HT (bnd [x,y] [p,Tz p] G) c k R:=by
 cases h with
 | mk r s=>cases r with | chL=>cases s with | cons h1 s=>cases s with | cons h2 s=>cases s with | cons d s=>exact⟨_,⟨_,h1⟩,_,d⟩
def fm (h:HT G (.chP a x y b) k R):∃p q R,HT G a (B4 p q) R:=by
 cases h with
 | mk r s=>cases r with | chP=>cases s with | cons h1 s=>exact⟨_,_,_,h1⟩
def Ei (h:HT G (.lt 1 (λ_=>x) (λ_=>a) b) k R):∃p,(∃R,HT (bnd [x] [p] G) a p R)/\∃R,HT (bnd [x] [p] G) b k R:=by
 cases h with
 | mk r s=>
  cases r with
  | @lt _ _ _ _ _ _ ks=>
   rw[cq] at s;obtain⟨_,_,_,h1,h2⟩:=HTs.two s;exact⟨ks 0,⟨_,h1⟩,_,h2⟩
def Ey {p:Kd}:bnd [x] [p] G x=some p:=by
 unfold bnd;rw[show([x].zip [p]).reverse=[(x,p)] from FQ,BS,XU]
def oY {p:Kd}(h:y≠x):bnd [x] [p] G y=G y:=by
 unfold bnd;rw[show([x].zip [p]).reverse=[(x,p)] from FQ,BS,Tm.mpr h];rfl
def W5 {w:Nat}{v:Int}{e:Bool}(h:HT G (vt w v e) k R):k=vk w:=by
 match w with
 | 0=>exact uQ h
 | 1=>
  cases e with
  | true=>exact fi h
  | false=>exact fj h
 | 2=>
  obtain⟨p,rfl,⟨_,h1⟩,_⟩:=Nb h;rw[uQ h1];rfl
 | 3=>
  obtain⟨p,q,rfl,⟨_,h1⟩,_,h2⟩:=Le h;rw[uQ h1,fj h2];rfl
 | w+4=>
  obtain⟨p,q,rfl,_,h1⟩:=yk h;obtain⟨rfl,⟨_,h2⟩,_⟩:=Cg h1;have:=Kg h2;rw[Ey] at this;rw[YH this];rfl
def bw:Kd->Nat
 | .k0 g=>if g="num" then 0 else 1
 | .k1 _ _=>2
 | .k2 g _ _=>if g="pair" then 3 else 4
 | _=>5
def vb:∀i,i<5->bw (vk i)=i
 | 0,_=>by decide+kernel
 | 1,_=>by decide+kernel
 | 2,_=>rfl
 | 3,_=>by decide+kernel
 | 4,_=>by decide+kernel
 | i+5,h=>absurd h (by omega)
end
section
variable {G:Ev}{k:Kd}{R:List Kd}{i j:Nat}{v v':Int}{e e':Bool}{n:Tr}{o:Str}
def qC (h:vk i≠vk j):¬HT G (.sh2 "Cons" (vt i v e) (.sh2 "Cons" (vt j v' e') (.sh0 "Nil"))) k R:=λz=>by
 obtain⟨p,_,⟨_,h1⟩,_,h2⟩:=Nb z;obtain⟨q,eq,⟨_,a⟩,_⟩:=Nb h2;injection eq with _ eq
 exact h ((W5 h1).symm.trans (eq.trans (W5 a)))
def mT (h:vk i≠vk j):¬HT G (.chT n (vt i v e) (vt j v' e')) k R:=λz=>by
 obtain⟨_,⟨_,h1⟩,_,h2⟩:=oP z;exact h ((W5 h1).symm.trans (W5 h2))
def qE (h:vk i≠vk j):¬HT G (.lt 1 (λ_=>"f") (λ_=>.fn "x" (.nm "x")) (.sh2 "Pair" (.call (.nm "f") (vt i v e)) (.call (.nm "f") (vt j v' e')))) k R:=λz=>by
 obtain⟨p,_,_,h2⟩:=Ei z;obtain⟨a,b,_,⟨_,d⟩,_,f⟩:=Le h2;obtain⟨n,⟨_,f1⟩,_,g⟩:=Nc d;obtain⟨o,⟨_,f2⟩,_,l⟩:=Nc f;have m:=Kg f1;have c:=Kg f2;rw[m] at c;injection c with c
 injection c with _ c _
 exact h ((W5 g).symm.trans (c.trans (W5 l)))
def qB:¬HT G (.fn "x" (.call (.nm "x") (.nm "x"))) k R:=λz=>by
 obtain⟨p,q,_,_,h1⟩:=yk z;obtain⟨r,⟨_,h2⟩,_,b⟩:=Nc h1;have c:=Kg h2;have a:=Kg b;rw[c] at a;injection a with a
 have:=congrArg Kd.sz a;have:1+(r.sz+q.sz)=r.sz:=this;omega
def uw {t:Tr}:¬HT G (.lt 1 (λ_=>"x") (λ_=>.sh2 "Cons" (.nm "x") (.sh0 "Nil")) t) k R:=λz=>by
 obtain⟨p,⟨_,h1⟩,_⟩:=Ei z;obtain⟨q,e,⟨_,h2⟩,_⟩:=Nb h1;have a:=Kg h2;rw[Ey] at a;have a:=YH a;rw[e] at a;have:=congrArg Kd.sz a;have:1+q.sz=q.sz:=this;omega
def uv {t u:Tr}:¬HT G (.lt 1 (λ_=>"x") (λ_=>.sh2 "Pair" (.nm "x") u) t) k R:=λz=>by
 obtain⟨p,⟨_,h1⟩,_⟩:=Ei z;obtain⟨q,r,e,⟨_,h2⟩,_⟩:=Le h1;have a:=Kg h2;rw[Ey] at a;have a:=YH a;rw[e] at a;have:=congrArg Kd.sz a;have:1+(q.sz+r.sz)=q.sz:=this;omega
def uu {t:Tr}:¬HT G (.lt 1 (λ_=>"x") (λ_=>.fn "y" (.nm "x")) t) k R:=λz=>by
 obtain⟨p,⟨_,h1⟩,_⟩:=Ei z;obtain⟨q,r,e,_,h2⟩:=yk h1;have a:=Kg h2;rw[oY (by decide),Ey] at a;have a:=YH a;rw[e] at a;have:=congrArg Kd.sz a;have:1+(q.sz+r.sz)=r.sz:=this;omega
def uz (h:vk i≠Wc):¬HT G (.does o n (vt i v e)) k R:=λz=>by
 obtain⟨_,_,_,h1⟩:=Cg z;exact h (W5 h1).symm
def uy (h:vk i≠Wc):¬HT G (.does o (vt i v e) n) k R:=λz=>by
 obtain⟨_,⟨_,h1⟩,_⟩:=Cg z;exact h (W5 h1).symm
def qD (h:∀p q,vk i≠xP p q):¬HT G (.call (vt i v e) n) k R:=λz=>by
 obtain⟨p,⟨_,h1⟩,_⟩:=Nc z;exact h _ _ (W5 h1).symm
def qH {a b:Tr}(h:vk i≠N8):¬HT G (.chT (vt i v e) a b) k R:=λz=>by
 obtain⟨⟨_,h1⟩,_⟩:=oP z;exact h (W5 h1).symm
def qG {a b:Tr}{x y:Str}(h:∀p,vk i≠Tz p):¬HT G (.chL (vt i v e) a x y b) k R:=λz=>by
 obtain⟨p,⟨_,h1⟩,_⟩:=oQ z;exact h _ (W5 h1).symm
def qF {a:Tr}{x y:Str}(h:∀p q,vk i≠B4 p q):¬HT G (.chP (vt i v e) x y a) k R:=λz=>by
 obtain⟨p,q,_,h1⟩:=fm z;exact h _ _ (W5 h1).symm
def qA (h:∀p,vk i≠Tz p):¬HT G (.sh2 "Cons" n (vt i v e)) k R:=λz=>by
 obtain⟨p,_,_,_,h1⟩:=Nb z;exact h _ (W5 h1).symm
def bO:Fin 2->Str:=λi=>if i=0 then "f" else "g"
def cr:Fin 2->Tr:=λi=>if i=0 then .fn "x" (.call (.nm "g") (.nm "x")) else .fn "y" (.does "+" (.nm "y") (.call (.nm "f") (.nm "y")))
def Zac {p q:Kd}:bnd ["f","g"] [p,q] G "f"=some p:=by
 unfold bnd;rw[show([("f":Str),"g"].zip [p,q]).reverse=[(("g":Str),q),("f",p)] from FQ,BS,show(("f":Str)=="g")=false by decide,BS,show(("f":Str)=="f")=true by decide]
def Zab {p q:Kd}:bnd ["f","g"] [p,q] G "g"=some q:=by
 unfold bnd;rw[show([("f":Str),"g"].zip [p,q]).reverse=[(("g":Str),q),("f",p)] from FQ,BS,show(("g":Str)=="g")=true by decide]
def HTs.three {c d e:Ev×Tr×Kd}{R:List Kd}(h:HTs [c,d,e] R):(∃r,HT c.1 c.2.1 c.2.2 r)/\(∃r,HT d.1 d.2.1 d.2.2 r)/\∃r,HT e.1 e.2.1 e.2.2 r:=by
 cases h with
 | cons a b=>
  obtain⟨_,_,_,h1,h2⟩:=b.two;exact⟨⟨_,a⟩,⟨_,h1⟩,_,h2⟩
def mS (h:vk i≠Wc):¬HT G (.lt 2 bO cr (.call (.nm "f") (vt i v e))) k R:=λz=>by
 cases z with
 | mk r s=>
  cases r with
  | @lt _ _ _ _ _ _ ks=>
   have s:HTs [(bnd ["f","g"] [ks 0,ks 1] G,.fn "x" (.call (.nm "g") (.nm "x")),ks 0),(bnd ["f","g"] [ks 0,ks 1] G,.fn "y" (.does "+" (.nm "y") (.call (.nm "f") (.nm "y"))),ks 1),(bnd ["f","g"] [ks 0,ks 1] G,.call (.nm "f") (vt i v e),k)] _:=s;generalize ks 0=F at s;generalize ks 1=K at s;obtain⟨⟨_,h1⟩,⟨_,h2⟩,_,j⟩:=HTs.three s;dsimp only at h1 h2 j
   ··obtain⟨p,q,rfl,_,f1⟩:=yk h1;obtain⟨p',⟨_,f2⟩,_,l⟩:=Nc f1;have d:=Kg f2;rw[oY (by decide),Zab] at d;have d:=YH d;have g:=Kg l;rw[Ey] at g;have g:=YH g;obtain⟨a,b,rfl,_,m⟩:=yk h2;obtain⟨_,⟨_,n⟩,_⟩:=Cg m;have e3:=Kg n;rw[Ey] at e3;have e3:=YH e3;injection d with _ d _
     obtain⟨c,⟨_,c1⟩,_,c2⟩:=Nc j;have f:=Kg c1;rw[Zac] at f;have f:=YH f;injection f with _ f _
     exact h (by rw[<-W5 c2,<-f,g,<-d,e3])
end
structure Bx where
 bad:Tr
 way:Int
 name:Str
def Bx.put (B:Bx)(t:Tr):Tr:=if B.way=0 then .first B.bad t else if B.way=1 then .call (.fn B.name t) B.bad else .lt 1 (λ_=>B.name) (λ_=>B.bad) t
inductive Pg (B:Bx)(P:Str->Prop):Bool->Nat->Tr->Prop
 | num {v d}:Pg B P false (d+1) (.num v)
 | nil {d}:Pg B P false (d+1) (.sh0 "Nil")
 | stop {x d}:Pg B P false (d+1) (.stop x)
 | fn {x b d t}:P x->Pg B P b d t->Pg B P b (d+1) (.fn x t)
 | pair {b c d t u}:(b=true->c=false)->Pg B P b d t->Pg B P c d u->Pg B P (b||c) (d+1) (.sh2 "Pair" t u)
 | cons {b d t}:Pg B P b (d+1) t->Pg B P b (d+2) (.sh2 "Cons" t (.sh0 "Nil"))
 | first {b c d t u}:(b=true->c=false)->Pg B P b d t->Pg B P c d u->Pg B P (b||c) (d+1) (.first t u)
 | lt {x b d t}:P x->Pg B P b (d+1) t->Pg B P b (d+3) (.lt 1 (λ_=>x) (λ_=>.sh2 "Pair" (.num 1) t) (.nm x))
 | ch {x b c d t u}:P x->(b=true->c=false)->Pg B P b (d+1) t->Pg B P c (d+1) u->Pg B P (b||c) (d+3) (.chL (.sh2 "Cons" t (.sh0 "Nil")) (.stop x) x "k" u)
 | own {x b d t}:P x->Pg B P b (d+1) t->Pg B P b (d+3) (.fn x (.sh2 "Pair" (.nm x) t))
 | put {d t}:Pg B P false d t->Pg B P true (d+2) (B.put t)
 | up {b d t}:Pg B P b d t->Pg B P b (d+1) t
def jO {x:Str}{p:Kd}{G:Ev}:bnd [x] [p] G x=some p:=by
 unfold bnd;rw[show([x].zip [p]).reverse=[(x,p)] from FQ,BS,XU]
section
variable {B:Bx}{P:Str->Prop}
def Pg.kinds {d:Nat}{t:Tr}{b:Bool}(h:Pg B P b d t):b=false->∃k,∀G,∃R,HT G t k R:=by
 induction h with
 | num=>intro _;exact⟨_,λG=>⟨_,.mk .num .nil⟩⟩
 | nil=>intro _;exact⟨Tz Wc,λG=>⟨_,.mk .nil .nil⟩⟩
 | stop=>intro _;exact⟨Wc,λG=>⟨_,.mk .stop .nil⟩⟩
 | @fn x b d t _ _ a=>
  intro e;obtain⟨k,h⟩:=a e;refine⟨xP Wc k,λG=>?_⟩;obtain⟨R,h⟩:=h (bnd [x] [Wc] G);exact⟨_,.mk .fn (.mk1 h)⟩
 | @pair b c d t u _ _ _ i1 i2=>
  intro e;obtain⟨f,g⟩:=FE.mp e;obtain⟨k,h⟩:=i1 f;obtain⟨k',h'⟩:=i2 g;refine⟨B4 k k',λG=>?_⟩;obtain⟨R,h⟩:=h G;obtain⟨R',h'⟩:=h' G;exact⟨_,.mk .pair (.mk2 h h')⟩
 | cons _ a=>
  intro e;obtain⟨k,h⟩:=a e;refine⟨Tz k,λG=>?_⟩;obtain⟨R,h⟩:=h G;exact⟨_,.mk .cons (.mk2 h (.mk .nil .nil))⟩
 | @first b c d t u _ _ _ i1 i2=>
  intro e;obtain⟨f,g⟩:=FE.mp e;obtain⟨k,h⟩:=i1 f;obtain⟨k',h'⟩:=i2 g;refine⟨k',λG=>?_⟩;obtain⟨R,h⟩:=h G;obtain⟨R',h'⟩:=h' G;exact⟨_,.mk .first (.mk2 h h')⟩
 | @lt x b d t _ _ a=>
  intro e;obtain⟨k,h⟩:=a e;refine⟨B4 Wc k,λG=>?_⟩;obtain⟨R,h⟩:=h (bnd (Rm λ_:Fin 1=>x) ((List.finRange 1).map λ_=>B4 Wc k) G);have hx:bnd (Rm λ_:Fin 1=>x) ((List.finRange 1).map λ_=>B4 Wc k) G x=some (B4 Wc k):=jO;have y:=HTs.mk2 (HT.mk .pair (.mk2 (HT.mk (.num (v:=1)) .nil) h)) (HT.mk (.nm hx) .nil);exact⟨_,.mk (.lt (ks:=λ_=>B4 Wc k)) y⟩
 | @ch x b c d t u _ _ _ _ i1 i2=>
  intro e;obtain⟨f,g⟩:=FE.mp e;obtain⟨k,h⟩:=i1 f;obtain⟨k',h'⟩:=i2 g;refine⟨k',λG=>?_⟩;obtain⟨R,h⟩:=h G;obtain⟨R',h'⟩:=h' (bnd [x,"k"] [k,Tz k] G);exact⟨_,.mk (.chL (p:=k)) (.cons (.mk .cons (.mk2 h (.mk .nil .nil))) (.cons (.mk .stop .nil) (.cons h' .nil)))⟩
 | @own x b d t _ _ a=>
  intro e;obtain⟨k,h⟩:=a e;refine⟨xP Wc (B4 Wc k),λG=>?_⟩;obtain⟨R,h⟩:=h (bnd [x] [Wc] G);exact⟨_,.mk .fn (.mk1 (.mk .pair (.mk2 (.mk (.nm jO) .nil) h)))⟩
 | put _ _=>intro e;cases e
 | up _ a=>exact a
def Pg.bad {d:Nat}{t:Tr}{b:Bool}(h:Pg B P b d t):b=true->∀{G k R},HT G t k R->∃y k' R',HT y B.bad k' R':=by
 induction h with
 | num=>intro e;cases e
 | nil=>intro e;cases e
 | stop=>intro e;cases e
 | fn _ _ a=>intro e G k R h;obtain⟨_,_,_,_,h⟩:=yk h;exact a e h
 | @pair b c d t u _ _ _ i1 i2=>
  intro e G k R h;obtain⟨_,_,_,⟨_,h1⟩,_,h2⟩:=Le h
  cases b with
  | true=>exact i1 FQ h1
  | false=>exact i2 e h2
 | cons _ a=>intro e G k R h;obtain⟨_,_,⟨_,h⟩,_⟩:=Nb h;exact a e h
 | @first b c d t u _ _ _ i1 i2=>
  intro e G k R h;obtain⟨⟨_,_,h1⟩,_,h2⟩:=j3 h
  cases b with
  | true=>exact i1 FQ h1
  | false=>exact i2 e h2
 | lt _ _ a=>
  intro e G k R h;obtain⟨_,⟨_,h⟩,_⟩:=Ei h;obtain⟨_,_,_,_,_,h⟩:=Le h;exact a e h
 | @ch x b c d t u _ _ _ _ i1 i2=>
  intro e G k R h;obtain⟨_,⟨_,h1⟩,_,h2⟩:=oQ h
  cases b with
  | true=>obtain⟨_,_,⟨_,h⟩,_⟩:=Nb h1;exact i1 FQ h
  | false=>exact i2 e h2
 | own _ _ a=>
  intro e G k R h;obtain⟨_,_,_,_,h⟩:=yk h;obtain⟨_,_,_,_,_,h⟩:=Le h;exact a e h
 | put _ _=>
  intro _ G k R h;unfold Bx.put at h
  split at h
  ·obtain⟨⟨_,_,h⟩,_⟩:=j3 h;exact⟨_,_,_,h⟩
  ·split at h
   ·obtain⟨_,_,_,h⟩:=Nc h;exact⟨_,_,_,h⟩
   ·obtain⟨_,⟨_,h⟩,_⟩:=Ei h;exact⟨_,_,_,h⟩
 | up _ a=>exact a
end
end Fn
namespace K25
def Ce.mono:∀{m n:Nat} {bs:List Str} {t:Tr},m<=n->Ce m bs t->Ce n bs t
 | 0,_,_,_,_,h=>h.elim
 | m+1,0,_,_,h,_=>absurd h (Nat.not_succ_le_zero _)
 | m+1,n+1,bs,t,h,q=>⟨q.1,q.2.1,λz hz=>Ce.mono (Nat.le_of_succ_le_succ h) (q.2.2 z hz)⟩
def Oh {m:Nat}{bs:List Str}{t:Tr}(h:t.scs=[])(h1:∀x,t=.nm x->x∈bs)(h2:im t):Ce (m+1) bs t:=⟨h1,h2,λz hz=>by rw[h] at hz;cases hz⟩
section
variable {B:Bx}{P:Str->Prop}{mb:Nat}
def Mq {m:Nat}{t:Tr}{bs:List Str}(h:Ce m bs t):Ce m (bs++[]) t:=by rw[YK];exact h
def Gq {α:Type}{p:α->Prop}{a:α}(h:p a):∀z∈[a],p z:=λz q=>by cases q with | head=>exact h | tail _ q=>cases q
def Mr {α:Type}{p:α->Prop}{a:α}{l:List α}(h:p a)(g:∀z∈l,p z):∀z∈a::l,p z:=λz q=>by cases q with | head=>exact h | tail _ q=>exact g z q
def Pj {m:Nat}{t:Tr}{bs:List Str}{l:List (List Str×Tr)}(h:t.scs=l)(h1:∀x,t≠.nm x)(h2:im t)(g:∀z∈l,Ce m (bs++z.1) z.2):Ce (m+1) bs t:=⟨λx e=>absurd e (h1 x),h2,h▸g⟩
def Qq {m:Nat}{x:Str}{t:Tr}{bs:List Str}(h:Ce m (bs++[x]) t):Ce (m+1) bs (.fn x t):=Pj FQ nofun trivial (Gq h)
def Ws {m:Nat}{c:Str}{t u:Tr}{bs:List Str}(hc:c="Cons"\/c="Pair")(h:Ce m bs t)(h':Ce m bs u):Ce (m+1) bs (.sh2 c t u):=Pj FQ nofun hc (Mr (Mq h) (Gq (Mq h')))
def Ml {m:Nat}{t u:Tr}{bs:List Str}(h:Ce m bs t)(h':Ce m bs u):Ce (m+1) bs (.first t u):=Pj FQ nofun trivial (Mr (Mq h) (Gq (Mq h')))
def Uv {m:Nat}{t u:Tr}{bs:List Str}(h:Ce m bs t)(h':Ce m bs u):Ce (m+1) bs (.call t u):=Pj FQ nofun trivial (Mr (Mq h) (Gq (Mq h')))
def Ll {m:Nat}{x:Str}{t u:Tr}{bs:List Str}(h:Ce m (bs++[x]) t)(h':Ce m (bs++[x]) u):Ce (m+1) bs (.lt 1 (λ_=>x) (λ_=>t) u):=Pj (l:=[([x],t),([x],u)]) FQ nofun trivial (Mr h (Gq h'))
def sj {m:Nat}{x y:Str}{t u v:Tr}{bs:List Str}(h:Ce m bs t)(h':Ce m bs u)(h2:Ce m (bs++[x,y]) v):Ce (m+1) bs (.chL t u x y v):=Pj FQ nofun trivial (Mr (Mq h) (Mr (Mq h') (Gq h2)))
def Ul {m:Nat}{bs:List Str}{z:Int}:Ce (m+1) bs (.num z):=Oh FQ nofun trivial
def Lk {m:Nat}{bs:List Str}:Ce (m+1) bs (.sh0 "Nil"):=Oh FQ nofun (.inr (.inr FQ))
def Xa {m:Nat}{bs:List Str}{x:Str}(h:x∈bs):Ce (m+1) bs (.nm x):=Oh FQ (λy e=>by cases e;exact h) trivial
def Th {x:Str}{bs:List Str}:x∈bs++[x]:=XT _ (.head _)
def jf {Pb:List Str->Prop}(f:∀bs ys,Pb bs->Pb (bs++ys)){b:Bool}{d:Nat}{t:Tr}(h:Pg B P b d t)(hb:b=true->∀bs,Pb bs->Ce (mb+1) bs B.bad):∀bs,Pb bs->Ce (d+mb+1) bs t:=by
 induction h with
 | num=>intro bs _;exact Ul
 | nil=>intro bs _;exact Lk
 | stop=>intro bs _;exact Oh FQ nofun trivial
 | fn _ _ a=>intro bs z;exact Ce.mono (by omega) (Qq (a hb _ (f _ _ z)))
 | @pair b c d t u _ _ _ i1 i2=>intro bs z;exact Ce.mono (by omega) (Ws (.inr FQ) (i1 (λe=>hb (by rw[e];rfl)) bs z) (i2 (λe=>hb (by rw[e,EG])) bs z))
 | cons _ a=>intro bs z;exact Ce.mono (by omega) (Ws (.inl FQ) (a hb bs z) Lk)
 | @first b c d t u _ _ _ i1 i2=>intro bs z;exact Ce.mono (by omega) (Ml (i1 (λe=>hb (by rw[e];rfl)) bs z) (i2 (λe=>hb (by rw[e,EG])) bs z))
 | @lt x b d t _ _ a=>intro bs z;exact Ce.mono (by omega) (Ll (m:=d+1+mb+1+1) (Ws (.inr FQ) Ul (a hb _ (f _ _ z))) (Xa Th))
 | @ch x b c d t u _ _ _ _ i1 i2=>intro bs z;exact Ce.mono (by omega) (sj (m:=d+1+mb+1+1) (Ws (.inl FQ) (i1 (λe=>hb (by rw[e];rfl)) bs z) Lk) (Oh FQ nofun trivial) (Ce.mono (by omega) (i2 (λe=>hb (by rw[e,EG])) _ (f _ _ z))))
 | @own x b d t _ _ a=>intro bs z;exact Ce.mono (by omega) (Qq (Ws (.inr FQ) (Ce.mono (m:=1) (by omega) (Xa Th)) (a hb _ (f _ _ z))))
 | @put d t hq a=>
  intro bs z;have g:=a nofun;have i:=hb FQ;unfold Bx.put
  split
  ·exact Ce.mono (by omega) (Ml (m:=d+mb+1) (Ce.mono (by omega) (i bs z)) (g bs z))
  ·split
   ·exact Ce.mono (by omega) (Uv (m:=d+mb+2) (Qq (g _ (f _ _ z))) (Ce.mono (by omega) (i bs z)))
   ·exact Ce.mono (by omega) (Ll (m:=d+mb+1) (Ce.mono (by omega) (i _ (f _ _ z))) (g _ (f _ _ z)))
 | up _ a=>intro bs z;exact Ce.mono (by omega) (a hb bs z)
def uc {b:Bool}{d:Nat}{t:Tr}(h:Pg B P b d t)(hb:b=true->B.bad.lok):t.lok:=by
 induction h with
 | num=>trivial
 | nil=>trivial
 | stop=>trivial
 | fn _ _ a=>exact a hb
 | @pair b c d t u _ _ _ i1 i2=>exact⟨i1 (λe=>hb (by rw[e];rfl)),i2 (λe=>hb (by rw[e,EG]))⟩
 | cons _ a=>exact⟨a hb,trivial⟩
 | @first b c d t u _ _ _ i1 i2=>exact⟨i1 (λe=>hb (by rw[e];rfl)),i2 (λe=>hb (by rw[e,EG]))⟩
 | lt _ _ a=>exact⟨by decide,λ_=>⟨trivial,a hb⟩,trivial⟩
 | @ch x b c d t u _ _ _ _ i1 i2=>exact⟨⟨i1 (λe=>hb (by rw[e];rfl)),trivial⟩,trivial,i2 (λe=>hb (by rw[e,EG]))⟩
 | own _ _ a=>exact⟨trivial,a hb⟩
 | @put d t i a=>
  have f:=a (λe=>by cases e);have g:=hb FQ;unfold Bx.put
  split
  ·exact⟨g,f⟩
  ·split
   ·exact⟨f,g⟩
   ·exact⟨by decide,λ_=>g,f⟩
 | up _ a=>exact a hb
end
def Al (x:Str)(l:List Str):Prop:=l≠[]/\∀y∈l,y=x
def Bu {x:Str}{l r:List Str}(h:Al x l)(e:r=[]):Al x (l++r):=by rw[e,YK];exact h
def Ff {x:Str}{l r:List Str}(h:Al x r)(e:l=[]):Al x (l++r):=by rw[e,FP];exact h
section
variable {m:Nat}{bs:List Str}{x y c:Str}{t u v:Tr}
def Lh:Yx (m+1) bs (.fn x t)=Yx m (bs++[x]) t:=by
 show[]++[Yx m (bs++[x]) t].flatten=_;simp
def Qe:Yx (m+1) bs (.sh2 c t u)=Yx m bs t++Yx m bs u:=by
 show[]++[Yx m (bs++[]) t,Yx m (bs++[]) u].flatten=_;simp
def Ob:Yx (m+1) bs (.first t u)=Yx m bs t++Yx m bs u:=by
 show[]++[Yx m (bs++[]) t,Yx m (bs++[]) u].flatten=_;simp
def A5:Yx (m+1) bs (.call t u)=Yx m bs t++Yx m bs u:=by
 show[]++[Yx m (bs++[]) t,Yx m (bs++[]) u].flatten=_;simp
def j9:Yx (m+1) bs (.lt 1 (λ_=>x) (λ_=>t) u)=Yx m (bs++[x]) t++Yx m (bs++[x]) u:=by
 show[]++[Yx m (bs++[x]) t,Yx m (bs++[x]) u].flatten=_;simp
def qV:Yx (m+1) bs (.chL t u x y v)=Yx m bs t++(Yx m bs u++Yx m (bs++[x,y]) v):=by
 show[]++[Yx m (bs++[]) t,Yx m (bs++[]) u,Yx m (bs++[x,y]) v].flatten=_;simp
def Co:Yx (m+1) bs (.nm x)=if x∈bs then[] else[x]:=by
 show(if x∈bs then[] else[x])++[].flatten=_;simp
end
section
variable {B:Bx}{P:Str->Prop}{mb:Nat}{x:Str}
def gP {bs:List Str}{y:Str}(h:x∉bs)(n:y≠x):x∉bs++[y]:=λz=>by
 rcases XS.mp z with z | z
 ·exact h z
 ·exact n (XQ.mp z).symm
def Vf {d m:Nat}{t:Tr}{bs:List Str}(h:Pg B P false d t)(hm:d<m):Yx m bs t=[]:=Gi (Ce.mono (m:=d+0+1) (by omega) (jf (mb:=0) (Pb:=λ_=>True) (λ_ _ h=>h) h nofun bs trivial))
def jp {m:Nat}{bs:List Str}:Yx m bs (.sh0 "Nil")=[]:=by
 cases m with
 | zero=>rfl
 | succ m=>rfl
def my {b:Bool}{d:Nat}{t:Tr}(h:Pg B P b d t)(j:∀y,P y->y≠x)(hk:("k":Str)≠x)(hn:B.name≠x)(a:∀m,mb<m->∀bs,x∉bs->Al x (Yx m bs B.bad)):b=true->∀m,d+mb<m->∀bs,x∉bs->Al x (Yx m bs t):=by
 induction h with
 | num=>intro e;cases e
 | nil=>intro e;cases e
 | stop=>intro e;cases e
 | @fn y b d t g _ f=>
  intro e m hm bs hx;obtain⟨m,rfl⟩:∃k,m=k+1:=⟨m-1,by omega⟩;rw[Lh];exact f e m (by omega) _ (gP hx (j y g))
 | @pair b c d t u i h1 h2 i1 i2=>
  intro e m hm bs hx;obtain⟨m,rfl⟩:∃k,m=k+1:=⟨m-1,by omega⟩;rw[Qe]
  cases b with
  | true=>rw[i rfl] at h2;exact Bu (i1 FQ m (by omega) bs hx) (Vf h2 (by omega))
  | false=>exact Ff (i2 (by simpa using e) m (by omega) bs hx) (Vf h1 (by omega))
 | cons _ f=>
  intro e m hm bs hx;obtain⟨m,rfl⟩:∃k,m=k+1:=⟨m-1,by omega⟩;rw[Qe];exact Bu (f e m (by omega) bs hx) jp
 | @first b c d t u i h1 h2 i1 i2=>
  intro e m hm bs hx;obtain⟨m,rfl⟩:∃k,m=k+1:=⟨m-1,by omega⟩;rw[Ob]
  cases b with
  | true=>rw[i rfl] at h2;exact Bu (i1 FQ m (by omega) bs hx) (Vf h2 (by omega))
  | false=>exact Ff (i2 (by simpa using e) m (by omega) bs hx) (Vf h1 (by omega))
 | @lt y b d t g _ f=>
  intro e m hm bs hx;obtain⟨m,rfl⟩:∃k,m=k+3:=⟨m-3,by omega⟩;rw[j9,Qe];refine Bu (Ff (f e (m+1) (by omega) _ (gP hx (j y g))) FQ) ?_;rw[Co,if_pos (by simp)]
 | @ch y b c d t u g i h1 h2 i1 i2=>
  intro e m hm bs hx;obtain⟨m,rfl⟩:∃k,m=k+3:=⟨m-3,by omega⟩;rw[qV,Qe,jp,YK];have st:Yx (m+2) bs (.stop y)=[]:=rfl;rw[st,FP];have l:x∉bs++[y,"k"]:=λz=>by
   rcases XS.mp z with z | z
   ·exact hx z
   ·simp only[ZM,ZN,or_false] at z
    rcases z with z | z
    ·exact j y g z.symm
    ·exact hk z.symm
  cases b with
  | true=>rw[i rfl] at h2;exact Bu (i1 FQ (m+1) (by omega) bs hx) (Vf h2 (by omega))
  | false=>exact Ff (i2 (by simpa using e) (m+2) (by omega) _ l) (Vf h1 (by omega))
 | @own y b d t g _ f=>
  intro e m hm bs hx;obtain⟨m,rfl⟩:∃k,m=k+3:=⟨m-3,by omega⟩;rw[Lh,Qe];refine Ff (f e (m+1) (by omega) _ (gP hx (j y g))) ?_;rw[Co,if_pos (by simp)]
 | @put d t n f=>
  intro _ m hm bs hx;obtain⟨m,rfl⟩:∃k,m=k+2:=⟨m-2,by omega⟩;unfold Bx.put
  split
  ·rw[Ob];exact Bu (a (m+1) (by omega) bs hx) (Vf n (by omega))
  ·split
   ·rw[A5,Lh];exact Ff (a (m+1) (by omega) bs hx) (Vf n (by omega))
   ·rw[j9];exact Bu (a (m+1) (by omega) _ (gP hx hn)) (Vf n (by omega))
 | up _ f=>
  intro e m hm bs hx;exact f e m (by omega) bs hx
def pU {l:List Str}(h:Al x l):Vi [] l=[x]:=by
 have g:∀l:List Str,(∀y∈l,y=x)->Vi [x] l=[x]:=by
  intro l
  induction l with
  | nil=>intro _;rfl
  | cons y l a=>
   intro h;show Vi (if y∈[x] then[x] else[x]++[y]) l=[x];rw[if_pos (by rw[h y (List.mem_cons_self ..)];simp)];exact a λz hz=>h z (XV _ hz)
 obtain⟨b,h1⟩:=h
 cases l with
 | nil=>exact absurd FQ b
 | cons y l=>
  show Vi (if y∈[] then[] else[]++[y]) l=[x];rw[if_neg (by simp),h1 y (List.mem_cons_self ..)];exact g l λz hz=>h1 z (XV _ hz)
end
end K25
namespace Fn
def Zu:List Int->Int×List Int
 | []=>(0,[])
 | v::l=>(v,l)
def mk1 (w:Int)(x:Str)(t:Tr):Tr:=if w=4 then .fn x t else if w=6 then .sh2 "Cons" t (.sh0 "Nil") else if w=8 then .lt 1 (λ_=>x) (λ_=>.sh2 "Pair" (.num 1) t) (.nm x) else .fn x (.sh2 "Pair" (.nm x) t)
def mk2 (w:Int)(x:Str)(t u:Tr):Tr:=if w=5 then .sh2 "Pair" t u else if w=7 then .first t u else .chL (.sh2 "Cons" t (.sh0 "Nil")) (.stop x) x "k" u
def two (w:Int):Bool:=decide (w=5)||decide (w=7)||decide (w=9)
def wq (B:Bx)(t:Tr)(s:Int):Tr:=if s-1=0 then B.put t else t
def Y9 (nm:Int->Str):Nat->List Int->Nat×List Int×List Str
 | 0,l=>(1,(Zu l).2,[])
 | f+1,l=>if (Zu l).2≠[]/\(Zu l).1%11>2 then
   (if two (max ((Zu l).1%11) 4)=true then((Y9 nm f (Zu l).2).1+(Y9 nm f (Y9 nm f (Zu l).2).2.1).1+1,(Y9 nm f (Y9 nm f (Zu l).2).2.1).2.1,nm ((Zu l).1/11)::((Y9 nm f (Zu l).2).2.2++(Y9 nm f (Y9 nm f (Zu l).2).2.1).2.2))
    else((Y9 nm f (Zu l).2).1+1,(Y9 nm f (Zu l).2).2.1,nm ((Zu l).1/11)::(Y9 nm f (Zu l).2).2.2))
  else(1,(Zu l).2,[])
def gen (lf:Int->Tr)(nm:Int->Str)(B:Bx):Nat->List Int->Int->Tr
 | 0,l,s=>wq B (lf (Zu l).1) s
 | f+1,l,s=>if (Zu l).2≠[]/\(Zu l).1%11>2 then
   (if two (max ((Zu l).1%11) 4)=true then wq B (mk2 (max ((Zu l).1%11) 4) (nm ((Zu l).1/11)) (gen lf nm B f (Zu l).2 s) (gen lf nm B f (Y9 nm f (Zu l).2).2.1 (s-(Y9 nm f (Zu l).2).1))) (s-(Y9 nm f (Zu l).2).1-(Y9 nm f (Y9 nm f (Zu l).2).2.1).1)
    else wq B (mk1 (max ((Zu l).1%11) 4) (nm ((Zu l).1/11)) (gen lf nm B f (Zu l).2 s)) (s-(Y9 nm f (Zu l).2).1))
  else wq B (lf (Zu l).1) s
def hit (s:Int)(c:Nat):Bool:=decide (1<=s/\s<=c)
section
variable {B:Bx}{P:Str->Prop}{lf:Int->Tr}{nm:Int->Str}
def Pg.upN {b:Bool}{d:Nat}{t:Tr}(h:Pg B P b d t):∀n,Pg B P b (d+n) t
 | 0=>h
 | n+1=>.up (h.upN n)
def mx {w:Int}{x:Str}{b:Bool}{d:Nat}{t:Tr}(hx:P x)(h:Pg B P b (d+1) t):Pg B P b (d+3) (mk1 w x t):=by
 unfold mk1
 split
 ·exact .up (.fn hx h)
 ·split
  ·exact .up (.cons h)
  ·split
   ·exact .lt hx h
   ·exact .own hx h
def mv {w:Int}{x:Str}{b c:Bool}{d:Nat}{t u:Tr}(hx:P x)(a:b=true->c=false)(h:Pg B P b (d+1) t)(h':Pg B P c (d+1) u):Pg B P (b||c) (d+3) (mk2 w x t u):=by
 unfold mk2
 split
 ·exact .up (.pair a h h')
 ·split
  ·exact .up (.first a h h')
  ·exact .ch hx a h h'
def Du {s:Int}{c:Nat}{d:Nat}{t:Tr}(h:Pg B P (hit s c) d t):Pg B P (hit s (c+1)) (d+2) (wq B t (s-c)):=by
 unfold wq;by_cases e:s-c-1=0
 ·rw[XY e];have a:hit s c=false:=YG (by omega);have b:hit s (c+1)=true:=decide_eq_true (by omega);rw[a] at h;rw[b];exact .put h
 ·rw[XX e];have:hit s (c+1)=hit s c:=by
   unfold hit;rw[DZ,decide_eq_true_iff,decide_eq_true_iff];omega
  rw[this];exact .up (.up h)
def j4 {s:Int}{c d:Nat}:hit s (c+d)=(hit s c||hit (s-c) d)/\(hit s c=true->hit (s-c) d=false):=by
 unfold hit;constructor
 ·rw[DZ,Bool.or_eq_true,decide_eq_true_iff,decide_eq_true_iff,decide_eq_true_iff];omega
 ·intro h;have:=of_decide_eq_true h;exact YG (by omega)
def Ga (a:∀c d,Pg B P false (d+1) (lf c)):∀(f:Nat) (l:List Int) (s:Int),(∀x∈(Y9 nm f l).2.2,P x)->Pg B P (hit s (Y9 nm f l).1) (5*f+3) (gen lf nm B f l s)
 | 0,l,s,_=>by
  have:=Du (B:=B) (P:=P) (s:=s) (c:=0) (d:=1) (t:=lf (Zu l).1) (by rw[show hit s 0=false from YG (by omega)];exact a _ 0);rw[show s-((0:Nat):Int)=s by omega] at this;exact this
 | f+1,l,s,b=>by
  unfold Y9 at b |-;unfold gen;by_cases c:(Zu l).2≠[]/\(Zu l).1%11>2
  ·rw[XY c] at b;rw[XY c,XY c];by_cases t:two (max ((Zu l).1%11) 4)=true
   ·rw[XY t] at b;rw[XY t,XY t];have h1:=Ga a f (Zu l).2 s (λx hx=>b x (XV _ (BK _ hx)));have h2:=Ga a f (Y9 nm f (Zu l).2).2.1 (s-(Y9 nm f (Zu l).2).1) (λx hx=>b x (XV _ (XT _ hx)));obtain⟨h,i⟩:=j4 (s:=s) (c:=(Y9 nm f (Zu l).2).1) (d:=(Y9 nm f (Y9 nm f (Zu l).2).2.1).1);have e:=mv (w:=max ((Zu l).1%11) 4) (d:=5*f+2) (b _ (BA ..)) i h1 h2;rw[<-h] at e;have g:=Du e;rw[show s-(((Y9 nm f (Zu l).2).1+(Y9 nm f (Y9 nm f (Zu l).2).2.1).1:Nat):Int)=s-(Y9 nm f (Zu l).2).1-(Y9 nm f (Y9 nm f (Zu l).2).2.1).1 by omega] at g;exact g.upN 1
   ·rw[XX t] at b;rw[XX t,XX t];have h1:=Ga a f (Zu l).2 s (λx hx=>b x (XV _ hx));have e:=mx (w:=max ((Zu l).1%11) 4) (d:=5*f+2) (b _ (BA ..)) h1;exact(Du e).upN 1
  ·rw[XX c,XX c];have:=Du (B:=B) (P:=P) (s:=s) (c:=0) (d:=1) (t:=lf (Zu l).1) (by rw[show hit s 0=false from YG (by omega)];exact a _ 0);rw[show s-((0:Nat):Int)=s by omega] at this;have:=this.upN (5*f+5);rw[show 1+2+(5*f+5)=5*(f+1)+3 by omega] at this;exact this
end
end Fn
namespace K25
def ig:("spot":Str)≠"bad"/\("spot":Str)≠"way"/\("spot":Str)≠"name"/\("spot":Str)≠"names"/\("bad":Str)≠"spot"/\("bad":Str)≠"way"/\("bad":Str)≠"name"/\("bad":Str)≠"names"/\("way":Str)≠"spot"/\("way":Str)≠"bad"/\("way":Str)≠"name"/\("way":Str)≠"names"/\("name":Str)≠"spot"/\("name":Str)≠"bad"/\("name":Str)≠"way"/\("name":Str)≠"names"/\("names":Str)≠"spot"/\("names":Str)≠"bad"/\("names":Str)≠"way"/\("names":Str)≠"name":=by decide
def Ib (B:Bx)(s:Int)(na:WP):List (Z8×T):=[(.inr "spot",.int s),(.inr "bad",tt B.bad),(.inr "way",.int B.way),(.inr "name",.str B.name),(.inr "names",.ref na)]
section
variable {B:Bx}{s s':Int}{na:WP}
def Ia:Ys (Ib B s na) (.inr "spot")=some (.int s):=rfl
def yG:Ys (Ib B s na) (.inr "bad")=some (tt B.bad):=by unfold Ib Ys;simp[ig]
def Bm:Ys (Ib B s na) (.inr "way")=some (.int B.way):=by unfold Ib Ys;simp[ig]
def jN:Ys (Ib B s na) (.inr "name")=some (.str B.name):=by unfold Ib Ys;simp[ig]
def zp:Ys (Ib B s na) (.inr "names")=some (.ref na):=by unfold Ib Ys;simp[ig]
def kt:J8 (Ib B s na) (.inr "spot") (.int s')=Ib B s' na:=by unfold Ib J8;simp[ig]
end
structure Bd (B:Bx)(a bx na:Addr)(C:Hw)(l:List Int)(s:Int)(ns:List Str):Prop where
 ha:C a=some (.lst (l.reverse.map T.int))
 hb:C bx=some (.dic (Ib B s na))
 hn:C na=some (.lst (ns.map T.str))
 an:a≠na
def E3 (a bx na:WP)(C C':Hw):Prop:=∀c w,c≠a->c≠bx->c≠na->C c=some w->C' c=some w
section
variable {B:Bx}{a bx na:WP}{C C':Hw}{l:List Int}{s:Int}{ns:List Str}{Q:WK}{χ:WX}{n:Nat}
def E3.refl:E3 a bx na C C:=λ_ _ _ _ _ h=>h
def E3.trans {C1 C2:Hw}(x:E3 a bx na C C1)(y:E3 a bx na C1 C2):E3 a bx na C C2:=λc w h1 h2 b h=>y c w h1 h2 b (x c w h1 h2 b h)
def Bd.ab (D:Bd B a bx na C l s ns):a≠bx:=λe=>by have:=D.ha;rw[e,D.hb] at this;cases this
def Bd.nb (D:Bd B a bx na C l s ns):na≠bx:=λe=>by have:=D.hn;rw[e,D.hb] at this;cases this
def nP (D:Bd B a bx na C l s ns)(d:l.length<=1000)(q:∀C',E3 a bx na C C'->Bd B a bx na C' (Zu l).2 s ns->Q (.int (Zu l).1) C'):Jo pr (n+1) Lw [.ref a] C Q χ:=by
 refine Lr FQ ?_;unfold T0 Se;refine⟨_,FQ,_,FQ,_,D.ha,_,FQ,?_⟩
 cases l with
 | nil=>exact Ma (by decide) (q C E3.refl D)
 | cons v l=>
  have e:((v::l).reverse.map T.int)=l.reverse.map T.int++[T.int v]:=by simp
  have b:=D.ha;rw[e] at b |-;refine N9 (decide_eq_true (by rw[AY,BC];omega)) ?_;refine⟨_,FQ,⟨_,_,FQ,b⟩,_,_,T.int v,FQ,FQ,b,by simp,?_⟩;rw[List.dropLast_concat];exact q _ (λc w h1 _ _ h=>by rw[Zk h1];exact h) ⟨Zf,by rw[Zk D.ab.symm];exact D.hb,by rw[Zk D.an.symm];exact D.hn,D.an⟩
def Iv {t:Tr}(D:Bd B a bx na C l s ns)(hw:0<=B.way/\B.way<3)(q:∀C',E3 a bx na C C'->Bd B a bx na C' l (s-1) ns->Q (tt (wq B t s)) C'):Jo pr (n+1) Sz [tt t,.ref bx] C Q χ:=by
 refine G3 FQ ?_;unfold Si Rh;refine⟨_,FQ,_,_,_,_,FQ,FQ,.inl D.hb,Ia,_,FQ,_,_,_,FQ,FQ,D.hb,Y4 (ZNB FQ),?_⟩;rw[kt];have f:E3 a bx na C (up C bx (.dic (Ib B (s-1) na))):=λc w _ h2 _ h=>by rw[Zk h2];exact h
 have b:Bd B a bx na (up C bx (.dic (Ib B (s-1) na))) l (s-1) ns:=⟨by rw[Zk D.ab];exact D.ha,Zf,by rw[Zk D.nb];exact D.hn,D.an⟩;generalize up C bx (.dic (Ib B (s-1) na))=C1 at f b;have q:=q C1 f b;unfold wq at q;by_cases c:s-1=0
 ·rw[XY c] at q;refine⟨_,FQ,_,_,_,_,FQ,FQ,.inl b.hb,Ia,gR (v:=true) (by rw[c];rfl) ⟨_,FQ,Zn ?_⟩⟩;unfold Bx.put at q;by_cases d:B.way=0
  ·rw[XY d] at q;refine⟨_,FQ,_,_,_,_,FQ,FQ,.inl b.hb,Bm,Yt (v:=true) (by rw[d];rfl) ⟨_,FQ,Yb ?_⟩⟩;exact⟨_,FQ,_,_,_,_,FQ,FQ,.inl b.hb,yG,_,FQ,gS,q⟩
  ·rw[XX d] at q;refine⟨_,FQ,_,_,_,_,FQ,FQ,.inl b.hb,Bm,Yt (v:=false) (Tm.mpr d) ⟨_,FQ,Zn ?_⟩⟩;by_cases e:B.way=1
   ·rw[XY e] at q;refine⟨_,FQ,_,_,_,_,FQ,FQ,.inl b.hb,Bm,Yt (v:=true) (by rw[e];rfl) ⟨_,FQ,Yb ?_⟩⟩;exact⟨_,FQ,_,_,_,_,FQ,FQ,.inl b.hb,jN,_,FQ,gS,_,FQ,_,_,_,_,FQ,FQ,.inl b.hb,yG,gS,q⟩
   ·rw[XX e] at q;refine⟨_,FQ,_,_,_,_,FQ,FQ,.inl b.hb,Bm,Yt (v:=false) (Tm.mpr e) ⟨_,FQ,Zn ?_⟩⟩;exact⟨_,FQ,_,_,_,_,FQ,FQ,.inl b.hb,jN,_,FQ,_,_,_,_,FQ,FQ,.inl b.hb,yG,gS,gS,_,FQ,gS,q⟩
 ·rw[XX c] at q;refine⟨_,FQ,_,_,_,_,FQ,FQ,.inl b.hb,Ia,gR (v:=false) (Tm.mpr c) ⟨_,FQ,Yb ⟨_,FQ,q⟩⟩⟩
end
end K25
namespace Fn
def vo {α:Type}{f g:α->Nat}{c:Nat}:∀{l:List α},(∀i,f i<=c*g i)->(l.map f).sum<=c*(l.map g).sum
 | [],_=>XO _
 | a::l,h=>by
  have h1:=h a;have h2:=vo (l:=l) h;simp only[List.map_cons,List.sum_cons,Nat.mul_add];omega
def jK {t:Tr}:t.lok->t.cost<=10*t.size:=by
 induction t with
 | num v=>intro _;show 3<=10;decide
 | nm x=>intro _;show 3<=10;decide
 | stop x=>intro _;show 3<=10;decide
 | sh0 x=>intro _;show 3<=10;decide
 | does o a b e d=>intro h;have:=e h.1;have:=d h.2;show 3+(a.cost+b.cost)<=10*(1+(a.size+b.size));omega
 | fn x b d=>intro h;have:=d h;show 3+b.cost<=10*(1+b.size);omega
 | call a b e d=>intro h;have:=e h.1;have:=d h.2;show 3+(a.cost+b.cost)<=10*(1+(a.size+b.size));omega
 | first a b e d=>intro h;have:=e h.1;have:=d h.2;show 3+(a.cost+b.cost)<=10*(1+(a.size+b.size));omega
 | lt n xs ts b it d=>
  intro h;have h1:=vo (l:=List.finRange n) (f:=λi=>(ts i).cost) (g:=λi=>(ts i).size) (c:=10) λi=>it i (h.2.1 i);have h2:=d h.2.2;have m:=h.1;show n+(((List.finRange n).map λi=>(ts i).cost).sum+b.cost)<=10*(1+(((List.finRange n).map λi=>(ts i).size).sum+b.size));omega
 | sh2 c a b e d=>intro h;have:=e h.1;have:=d h.2;show 3+(a.cost+b.cost)<=10*(1+(a.size+b.size));omega
 | chT a b c e d j=>intro h;have:=e h.1;have:=d h.2.1;have:=j h.2.2;show 3+(a.cost+(b.cost+c.cost))<=10*(1+(a.size+(b.size+c.size)));omega
 | chL a b x y c e d j=>intro h;have:=e h.1;have:=d h.2.1;have:=j h.2.2;show 3+(a.cost+(b.cost+c.cost))<=10*(1+(a.size+(b.size+c.size)));omega
 | chP a x y b e d=>intro h;have:=e h.1;have:=d h.2;show 3+(a.cost+b.cost)<=10*(1+(a.size+b.size));omega
def N5 {l:List Int}:(Zu l).2.length=l.length-1:=by cases l<;>rfl
def uA {w:Int}{x:Str}{t:Tr}:(mk1 w x t).size<=t.size+4:=by
 unfold mk1
 split
 ·show 1+t.size<=_;omega
 ·split
  ·show 1+(t.size+1)<=_;omega
  ·split
   ·show 1+(((1+(1+t.size))+0)+1)<=_;omega
   ·show 1+(1+(1+t.size))<=_;omega
def u9 {w:Int}{x:Str}{t u:Tr}:(mk2 w x t u).size<=t.size+u.size+4:=by
 unfold mk2
 split
 ·show 1+(t.size+u.size)<=_;omega
 ·split
  ·show 1+(t.size+u.size)<=_;omega
  ·show 1+((1+(t.size+1))+(1+u.size))<=_;omega
section
variable {B:Bx}{lf:Int->Tr}{nm:Int->Str}{z:Nat}
def hz (z:Nat)(s:Int)(c:Nat):Nat:=if hit s c=true then z+3 else 0
def yl {s:Int}{c d:Nat}:hz z s (c+d)=hz z s c+hz z (s-c) d:=by
 obtain⟨h1,h2⟩:=j4 (s:=s) (c:=c) (d:=d);unfold hz;rw[h1]
 cases h:hit s c with
 | true=>rw[h2 h];simp
 | false=>simp
def Mp {t:Tr}{s:Int}(hb:B.bad.size<=z):(wq B t s).size<=t.size+hz z s 1:=by
 unfold wq hz hit;by_cases c:s-1=0
 ·rw[XY c,XY (decide_eq_true (by omega))];unfold Bx.put
  split
  ·show 1+(B.bad.size+t.size)<=_;omega
  ·split
   ·show 1+((1+t.size)+B.bad.size)<=_;omega
   ·show 1+((B.bad.size+0)+t.size)<=_;omega
 ·rw[XX c];omega
def Hz (hb:B.bad.size<=z)(a:∀c,(lf c).size<=1):∀(f:Nat) (l:List Int) (s:Int),(gen lf nm B f l s).size+12*(Y9 nm f l).2.1.length<=12*l.length+6+hz z s (Y9 nm f l).1
 | 0,l,s=>by
  have h:=Mp (B:=B) (t:=lf (Zu l).1) (s:=s) hb;have:=a (Zu l).1;show(wq B (lf (Zu l).1) s).size+12*(Zu l).2.length<=_+hz z s 1;rw[N5];omega
 | f+1,l,s=>by
  unfold Y9 gen;have d:=N5 (l:=l);by_cases c:(Zu l).2≠[]/\(Zu l).1%11>2
  ·rw[XY c,XY c];have e:1<=(Zu l).2.length:=by
    cases h:(Zu l).2 with
    | nil=>exact absurd h c.1
    | cons=>exact DV (XO _)
   have h1:=Hz hb a f (Zu l).2 s;by_cases t:two (max ((Zu l).1%11) 4)=true
   ·rw[XY t,XY t];have h2:=Hz hb a f (Y9 nm f (Zu l).2).2.1 (s-(Y9 nm f (Zu l).2).1);refine XN (Nat.add_le_add_right (Mp hb) _) ?_;have b:=u9 (w:=max ((Zu l).1%11) 4) (x:=nm ((Zu l).1/11)) (t:=gen lf nm B f (Zu l).2 s) (u:=gen lf nm B f (Y9 nm f (Zu l).2).2.1 (s-(Y9 nm f (Zu l).2).1));rw[yl,yl,show s-(((Y9 nm f (Zu l).2).1+(Y9 nm f (Y9 nm f (Zu l).2).2.1).1:Nat):Int)=s-(Y9 nm f (Zu l).2).1-(Y9 nm f (Y9 nm f (Zu l).2).2.1).1 by omega];dsimp only;omega
   ·rw[XX t,XX t];refine XN (Nat.add_le_add_right (Mp hb) _) ?_;have b:=uA (w:=max ((Zu l).1%11) 4) (x:=nm ((Zu l).1/11)) (t:=gen lf nm B f (Zu l).2 s);rw[yl];dsimp only;omega
  ·rw[XX c,XX c];have h:=Mp (B:=B) (t:=lf (Zu l).1) (s:=s) hb;have:=a (Zu l).1;show(wq B (lf (Zu l).1) s).size+12*(Zu l).2.length<=_+hz z s 1;omega
def Nz:∀(f:Nat) (l:List Int),(Y9 nm f l).2.2.length+(Y9 nm f l).2.1.length<=l.length
 | 0,l=>by show 0+(Zu l).2.length<=_;rw[N5];omega
 | f+1,l=>by
  unfold Y9;have a:=N5 (l:=l);by_cases c:(Zu l).2≠[]/\(Zu l).1%11>2
  ·rw[XY c];have b:1<=(Zu l).2.length:=by
    cases h:(Zu l).2 with
    | nil=>exact absurd h c.1
    | cons=>exact DV (XO _)
   have h1:=Nz f (Zu l).2;by_cases t:two (max ((Zu l).1%11) 4)=true
   ·rw[XY t];have h2:=Nz f (Y9 nm f (Zu l).2).2.1;simp only[List.length_cons,List.length_append];omega
   ·rw[XX t];simp only[List.length_cons];omega
  ·rw[XX c];show 0+(Zu l).2.length<=_;omega
def rJ:∀(f:Nat) (l:List Int),1<=(Y9 nm f l).1
 | 0,l=>XE _
 | f+1,l=>by
  unfold Y9
  split
  ·split
   ·exact FO _ _
   ·exact FO _ _
  ·exact XE _
end
end Fn
namespace K25
def Xz {p q:Prop}{b:Bool}(h1:b=true->p)(h2:b=false->q):if b=true then p else q:=by cases b;exact h2 FQ;exact h1 FQ
def I0 {x:Int}(a:0<=x)(h1:x<1000000000000000000):(Str.ofString (toString x)).length<=18:=by
 obtain⟨m,rfl⟩:∃m:Nat,x=m:=⟨x.toNat,by omega⟩;show(Str.ofString (toString (Int.ofNat m))).length<=18;rw[text_ofNat];show((Nat.toDigits 10 m).map Char.toNat).toArray.size<=18;rw[XJ,XI];exact digits10_le (by decide) (by omega)
def jm {x:Int}(a:0<=x)(h1:x<1000000000000000000):x.natAbs.log2<1920:=by
 have h2:x.natAbs<2^64:=by omega
 have:x.natAbs.log2<64:=by
  by_cases c:x.natAbs=0
  ·rw[c];decide
  ·exact(Nat.log2_lt c).mpr h2
 omega
abbrev sI (x:Int):Str:=Str.ofString (toString x)
def gY (z:Str)(n c:Int):Nat:=z.cps.toList.getD (c%n).toNat 0
def sy {z:Str}{n:Nat}{c:Int}(hz:z.cps.toList.length=n)(hn:0<n):Nr z.cps.toList (c%(n:Int))=some (gY z n c):=by
 have a:0<=c%(n:Int):=YO _ (by omega);have h1:c%(n:Int)<n:=Int.emod_lt_of_pos _ (by omega);have e:c%(n:Int)=(((c%(n:Int)).toNat:Nat):Int):=by omega
 rw[e];refine X6 ?_;unfold gY;rw[List.getD_eq_getElem?_getD];rw[BD (by rw[hz];omega)];rfl
def Xy (c:Int):Str:=⟨#[gY "abcdefghij" 10 c]⟩++sI (c/10%10)
def Gx (c:Int):Tr:=if c%11%3=1 then .num (c/11%1000000000000000000) else if c%11%3=2 then .sh0 "Nil" else .stop ("b"++sI (c/11%100))
def qN (c:Int):(Gx c).size<=1:=by
 unfold Gx
 split
 ·exact XE _
 ·split
  ·exact XE _
  ·exact XE _
def oO {B:Bx}{P:Str->Prop}(c:Int)(d:Nat):Pg B P false (d+1) (Gx c):=by
 unfold Gx
 split
 ·exact .num
 ·split
  ·exact .nil
  ·exact .stop
def bS (f:Nat):Prop:=∀{n:Nat} {C:Hw} {Q:WK} {χ:WX} {B:Bx} {a bx na:WP} {l:List Int} {s:Int} {ns:List Str},Bd B a bx na C l s ns->(0<=B.way/\B.way<3)->ns.length+l.length<=900->
 (∀C',E3 a bx na C C'->Bd B a bx na C' (Y9 Xy f l).2.1 (s-(Y9 Xy f l).1) (ns++(Y9 Xy f l).2.2)->Q (tt (gen Gx Xy B f l s)) C')->Jo pr (n+2*f+2) Pd [.ref a,.int f,.ref bx] C Q χ
section
variable {B:Bx}{a bx na:WP}{C C':Hw}{l:List Int}{s:Int}{ns:List Str}{Q:WK}{χ:WX}{n f:Nat}
def Bd.name {x:Str}(D:Bd B a bx na C l s ns):Bd B a bx na (up C na (.lst ((ns++[x]).map T.str))) l s (ns++[x]):=⟨by rw[Zk D.an];exact D.ha,by rw[Zk D.nb.symm];exact D.hb,Zf,D.an⟩
def vF (t:bS f){w c:Int}(D:Bd B a bx na C l s ns)(hw:0<=B.way/\B.way<3)(hl:ns.length+l.length<=899)
  (b:two w=false->∀C',E3 a bx na C C'->Bd B a bx na C' (Y9 Xy f l).2.1 (s-(Y9 Xy f l).1) (ns++Xy c::(Y9 Xy f l).2.2)->Q (tt (mk1 w (Xy c) (gen Gx Xy B f l s))) C')
  (q:two w=true->∀C',E3 a bx na C C'->Bd B a bx na C' (Y9 Xy f (Y9 Xy f l).2.1).2.1 (s-(Y9 Xy f l).1-(Y9 Xy f (Y9 Xy f l).2.1).1) (ns++Xy c::((Y9 Xy f l).2.2++(Y9 Xy f (Y9 Xy f l).2.1).2.2))->Q (tt (mk2 w (Xy c) (gen Gx Xy B f l s) (gen Gx Xy B f (Y9 Xy f l).2.1 (s-(Y9 Xy f l).1)))) C'):Jo pr (n+2*f+3) Ov [.ref a,.int w,.int c,.int f,.ref bx] C Q χ:=by
 refine G1 FQ ?_;unfold Sg Rf;have u:0<=c/10%10:=by omega
 have h1:c/10%10<1000000000000000000:=by omega
 have v:=I0 u h1;refine⟨_,FQ,by decide,by decide,_,sy (z:="abcdefghij") (n:=10) (by decide+kernel) (by decide),_,FQ,⟨by decide,by decide⟩,by decide,.inl ⟨_,FQ,jm u h1,V2 (by show 1+_<=_;omega),?_⟩⟩;have y:(⟨#[gY "abcdefghij" 10 c]⟩:Str)++Str.ofString (toString (c/10%10))=Xy c:=rfl;rw[show((10:Nat):Int)=10 from FQ,y];generalize Xy c=x at b q;refine⟨_,FQ,_,_,_,_,FQ,FQ,.inl D.hb,zp,?_⟩;refine⟨⟨_,_,FQ,D.hn⟩,_,FQ,_,_,_,FQ,FQ,D.hn,Jd (by rw[XI];omega),?_⟩;have r:=D.name (x:=x);rw[XL] at r;have j:E3 a bx na C (up C na (.lst (ns.map T.str++[x].map T.str))):=λc w _ _ A h=>by rw[Zk A];exact h
 change Su _ _ _ _ (up C na (.lst (ns.map T.str++[x].map T.str)));generalize (up C na (.lst (ns.map T.str++[x].map T.str)))=C1 at r j |-;refine⟨_,FQ,_,FQ,_,FQ,?_⟩;dsimp only[Zv];refine t r hw (by rw[AY,BC];omega) λC2 o m=>?_;rw[YL,List.singleton_append] at m;have E:=Nz (nm:=Xy) f l;have again:∀{Q':WK} {p},(∀C',E3 a bx na C C'->Bd B a bx na C' (Y9 Xy f (Y9 Xy f l).2.1).2.1 (s-(Y9 Xy f l).1-(Y9 Xy f (Y9 Xy f l).2.1).1) (ns++x::((Y9 Xy f l).2.2++(Y9 Xy f (Y9 Xy f l).2.1).2.2))->Q' (tt (gen Gx Xy B f (Y9 Xy f l).2.1 (s-(Y9 Xy f l).1))) C')->Jo pr (n+2*f+2) Pd [.ref a,.int f,.ref bx] C2 Q' p:=λ{Q' p} G=>
  t m hw (by rw[AY,YF];omega) λg i d=>by
   rw[YL,List.cons_append] at d;exact G g (j.trans (o.trans i)) d
 refine⟨_,FQ,Yt FQ ⟨_,FQ,Xz (λh=>?_) (λH=>?_)⟩⟩
 ·have e:w=4:=eq_of_beq h;subst e;exact⟨_,FQ,_,FQ,gS,b FQ C2 (j.trans o) m⟩
 have I:w≠4:=Tm.mp H;refine⟨_,FQ,Yt FQ ⟨_,FQ,Xz (λh=>?_) (λL=>?_)⟩⟩
 ·have e:w=5:=eq_of_beq h;subst e;refine⟨_,FQ,_,FQ,_,FQ,_,FQ,?_⟩;dsimp only[Zv];exact again λg i d=>⟨gS,gS,q FQ g i d⟩
 have N:w≠5:=Tm.mp L;refine⟨_,FQ,Yt FQ ⟨_,FQ,Xz (λh=>?_) (λU=>?_)⟩⟩
 ·have e:w=6:=eq_of_beq h;subst e;exact⟨_,FQ,gS,gS,gS,gS,b FQ C2 (j.trans o) m⟩
 have Y:w≠6:=Tm.mp U;refine⟨_,FQ,Yt FQ ⟨_,FQ,Xz (λh=>?_) (λc7=>?_)⟩⟩
 ·have e:w=7:=eq_of_beq h;subst e;refine⟨_,FQ,_,FQ,_,FQ,_,FQ,?_⟩;dsimp only[Zv];exact again λg i d=>⟨gS,q FQ g i d⟩
 have n7:w≠7:=Tm.mp c7;refine⟨_,FQ,Yt FQ ⟨_,FQ,Xz (λh=>?_) (λc8=>?_)⟩⟩
 ·have e:w=8:=eq_of_beq h;subst e;exact⟨_,FQ,gS,_,FQ,gS,gS,gS,gS,_,FQ,gS,gS,b FQ C2 (j.trans o) m⟩
 have n8:w≠8:=Tm.mp c8;refine⟨_,FQ,Yt FQ ⟨_,FQ,Xz (λh=>?_) (λc9=>?_)⟩⟩
 ·have e:w=9:=eq_of_beq h;subst e;refine⟨gS,_,FQ,gS,gS,_,FQ,gS,_,FQ,_,FQ,_,FQ,?_⟩;dsimp only[Zv];exact again λg i d=>⟨gS,gS,_,FQ,gS,gS,gS,gS,_,FQ,gS,q FQ g i d⟩
 have n9:w≠9:=Tm.mp c9;have b:=b (by unfold two;rw[YG N,YG n7,YG n9];rfl) C2 (j.trans o) m;unfold mk1 at b;rw[XX I,XX Y,XX n8] at b;exact⟨_,FQ,_,FQ,gS,_,FQ,gS,gS,gS,b⟩
def cD:(10:Int)^(18:Int).toNat=1000000000000000000:=by decide
def cf {t:WT}{A B:WS}{D:We}{τ:Sw}{C1:Hw}(P:Bool->Prop)(h:∀(K:Bool->Hw->Prop) a,(∀k,P k->K k C1)->t τ C1 K a)(h1:P true->A D τ C1)(h2:P false->B D τ C1):xr t A B D τ C1:=h _ _ λk hk=>by
 cases k with
 | true=>exact h1 hk
 | false=>exact h2 hk
def aI {w:Int}:(if (4:Int)>w then 4 else w)=max w 4:=by
 split<;>omega
def yX {F:Int}{N:Nat}(D:Bd B a bx na C l s ns)(hw:0<=B.way/\B.way<3)(q:ns.length+l.length<=900)
  (hi:F>0->(Zu l).2≠[]->(Zu l).1%11>2->∀C1,E3 a bx na C C1->Bd B a bx na C1 (Zu l).2 s ns->∀K:WK,(∀v C',Jo pr (N+1) Sz [v,.ref bx] C' Q χ->K v C')->Jo pr (N+1) Ov [.ref a,.int (max ((Zu l).1%11) 4),.int ((Zu l).1/11),.int (F-1),.ref bx] C1 K χ)
  (d:¬(F>0/\(Zu l).2≠[]/\(Zu l).1%11>2)->∀C',E3 a bx na C C'->Bd B a bx na C' (Zu l).2 (s-1) ns->Q (tt (wq B (Gx (Zu l).1) s)) C'):Jo pr (N+2) Pd [.ref a,.int F,.ref bx] C Q χ:=by
 refine B9 (n:=N+1) FQ ?_;unfold Q3 Po;refine⟨_,FQ,?_⟩;dsimp only[Zv];refine nP (n:=N) D (by omega) λC1 g f=>?_;have i:0<=(Zu l).1/11%100:=by omega
 have h1:(Zu l).1/11%100<1000000000000000000:=by omega
 have j:=I0 i h1;refine⟨_,FQ,by decide,_,FQ,⟨by decide,by decide⟩,by decide,.inl ⟨_,FQ,jm i h1,V2 (by show 1+_<=_;omega),gS,?_⟩⟩;dsimp only[Nq];refine cf (λk=>k=true↔(F>0/\(Zu l).2≠[]/\(Zu l).1%11>2)) (λK m h=>?_) (λc=>?_) (λc=>?_)
 ·refine⟨_,FQ,_,FQ,Xz (λb=>?_) (λb=>h _ ⟨λz=>(by cases z),λz=>absurd z.1 (of_decide_eq_false b)⟩)⟩;refine⟨_,FQ,_,FQ,_,f.ha,_,FQ,Xz (λc1=>?_) (λc1=>h _ ⟨λz=>(by cases z),λz=>?_⟩)⟩
  ·refine⟨_,FQ,_,FQ,h _ ⟨λc2=>⟨of_decide_eq_true b,λe=>?_,of_decide_eq_true c2⟩,λz=>decide_eq_true z.2.2⟩⟩;rw[e] at c1;cases c1
  ·cases h:(Zu l).2 with
   | nil=>exact absurd h z.2.1
   | cons v r=>
    rw[h] at c1;have:=of_decide_eq_false c1;simp at this
 ·obtain⟨b,c1,c2⟩:=c.mp FQ;refine⟨_,FQ,_,FQ,_,_,FQ,_,FQ,⟨by decide,by decide⟩,_,FQ,_,FQ,?_⟩;dsimp only[Zv,rj,eC];rw[aI];exact hi b c1 c2 C1 g f _ λv C' h=>⟨_,FQ,_,FQ,h⟩
 ·have d:=d λz=>by cases c.mpr z
  have fin:∀t,Gx (Zu l).1=t->Jo pr (N+1) Sz [tt t,.ref bx] C1 Q χ:=λt e=>by
   rw[e] at d;exact Iv (n:=N) f hw λC2 o p=>d C2 (g.trans o) p
  refine⟨_,FQ,by decide,Yt FQ ⟨_,FQ,Xz (λc1=>?_) (λc1=>?_)⟩⟩
  ·have c1:(Zu l).1%11%3=1:=eq_of_beq c1;refine⟨_,FQ,⟨by decide,by decide⟩,⟨by decide,by decide,by decide⟩,by decide,gS,_,FQ,_,FQ,?_⟩;dsimp only[Zv];rw[cD];exact fin _ (by unfold Gx;rw[XY c1])
  have c1:(Zu l).1%11%3≠1:=Tm.mp c1;refine⟨_,FQ,by decide,Yt FQ ⟨_,FQ,Xz (λc2=>?_) (λc2=>?_)⟩⟩
  ·have c2:(Zu l).1%11%3=2:=eq_of_beq c2;refine⟨gS,gS,_,FQ,_,FQ,?_⟩;dsimp only[Zv];exact fin _ (by unfold Gx;rw[XX c1,XY c2])
  have c2:(Zu l).1%11%3≠2:=Tm.mp c2;refine⟨_,FQ,_,FQ,?_⟩;dsimp only[Zv];exact fin _ (by unfold Gx;rw[XX c1,XX c2])
def zM:∀f,bS f
 | 0,n,C,Q,χ,B,a,bx,na,l,s,ns,D,hw,d,q=>yX (N:=n) (F:=0) D hw d (λh=>by cases h) λ_ C' v D'=>q C' v (by have:Bd B a bx na C' (Zu l).2 (s-1) (ns++[]):=(by rw[YK];exact D');exact this)
 | f+1,n,C,Q,χ,B,a,bx,na,l,s,ns,D,hw,d,q=>by
  have w:=N5 (l:=l);refine yX (N:=n+2*f+2) (F:=((f+1:Nat):Int)) D hw d (λx c1 c2 C1 b e K p=>?_) (λc C1 b e=>?_)
  ·have hc:((f+1:Nat):Int)-1=(f:Int):=by omega
   rw[hc];have y:1<=(Zu l).2.length:=by
    cases h:(Zu l).2 with
    | nil=>exact absurd h c1
    | cons=>exact DV (XO _)
   unfold Y9 gen at q;have r:(Zu l).2≠[]/\(Zu l).1%11>2:=⟨c1,c2⟩;rw[XY r,XY r] at q;refine vF (n:=n) (zM f) e hw (by omega) (λh C2 g i=>?_) (λh C2 g i=>?_)
   ·have t:¬two (max ((Zu l).1%11) 4)=true:=by rw[h];decide
    rw[XX t,XX t] at q;refine p _ _ (Iv (n:=n+2*f+2) i hw λj m o=>q j (b.trans (g.trans m)) ?_);rw[show s-((((Y9 Xy f (Zu l).2).1+1:Nat)):Int)=s-(Y9 Xy f (Zu l).2).1-1 by omega];exact o
   ·rw[XY h,XY h] at q;refine p _ _ (Iv (n:=n+2*f+2) i hw λj m o=>q j (b.trans (g.trans m)) ?_);rw[show s-((((Y9 Xy f (Zu l).2).1+(Y9 Xy f (Y9 Xy f (Zu l).2).2.1).1+1:Nat)):Int)=s-(Y9 Xy f (Zu l).2).1-(Y9 Xy f (Y9 Xy f (Zu l).2).2.1).1-1 by omega];exact o
  ·have u:¬((Zu l).2≠[]/\(Zu l).1%11>2):=λz=>c ⟨by omega,z⟩;unfold Y9 gen at q;rw[XX u,XX u] at q;exact q C1 b (by rw[YK];exact e)
end
section
variable {m:Nat}{bs:List Str}{t u v:Tr}{x y o:Str}
def yE {c:Str}(h:c="No"\/c="Yes"\/c="Nil"):Ce (m+1) bs (.sh0 c):=Oh FQ nofun h
def Mm (h:Ce m bs t)(h':Ce m bs u):Ce (m+1) bs (.does o t u):=Pj FQ nofun trivial (Mr (Mq h) (Gq (Mq h')))
def sh (h:Ce m bs t)(h':Ce m bs u)(h2:Ce m bs v):Ce (m+1) bs (.chT t u v):=Pj FQ nofun trivial (Mr (Mq h) (Mr (Mq h') (Gq (Mq h2))))
def si (h:Ce m bs t)(h':Ce m (bs++[x,y]) u):Ce (m+1) bs (.chP t x y u):=Pj FQ nofun trivial (Mr (Mq h) (Gq h'))
end
def Nu:∀(w:Nat) (v:Int) (b:Bool) (bs:List Str),Ce 3 bs (vt w v b)
 | 0,_,_,_=>Ul
 | 1,_,true,_=>yE (.inr (.inl FQ))
 | 1,_,false,_=>yE (.inl FQ)
 | 2,_,_,_=>Ws (.inl FQ) Ul Lk
 | 3,_,_,_=>Ws (.inr FQ) Ul (yE (.inl FQ))
 | _+4,_,_,_=>Qq (Mm (Xa Th) Ul)
def Rw:∀(w:Nat) (v:Int) (b:Bool),(vt w v b).lok
 | 0,_,_=>trivial
 | 1,_,_=>trivial
 | 2,_,_=>⟨trivial,trivial⟩
 | 3,_,_=>⟨trivial,trivial⟩
 | _+4,_,_=>⟨trivial,trivial⟩
def Uu:∀(w:Nat) (v:Int) (b:Bool),(vt w v b).size<=4
 | 0,_,_=>by show 1<=4;decide
 | 1,_,_=>by show 1<=4;decide
 | 2,_,_=>by show 3<=4;decide
 | 3,_,_=>by show 3<=4;decide
 | _+4,_,_=>XE _
structure Wr (t:Tr):Prop where
 no:∀{G k R},¬HT G t k R
 ce:∀bs,Ce 6 bs t
 l:t.lok
 s:t.size<=40
def iD {i j:Nat}(hi:i<5)(hj:j<5)(h:i≠j):vk i≠vk j:=λe=>h ((vb i hi).symm.trans ((congrArg bw e).trans (vb j hj)))
def bR (F:Int)(a b c:Tr):Tr:=if F=0 then .chT a b c else if F=2 then .chP a "x" "y" b else .chL a b "x" "y" c
section
variable {C C':Hw}{Q:WK}{χ:WX}{n:Nat}
def T3 {w c:Int}(h:0<=w/\w<=4)(q:∀C' b,Ex C C'->Q (tt (vt w.toNat (c%1000000000000000000) b)) C'):Jo pr (n+1) Ci [.int w,.int c] C Q χ:=by
 refine Db FQ ?_;unfold Ru Qk;refine⟨_,FQ,⟨by decide,by decide,by decide⟩,by decide,gS,?_⟩;dsimp only[Nq];rw[cD];have d:w=0\/w=1\/w=2\/w=3\/w=4:=by omega
 rcases d with rfl | rfl | rfl | rfl | rfl
 ·exact⟨_,FQ,Yt (v:=true) FQ ⟨_,FQ,Yb ⟨_,FQ,q C true (Ex.refl _)⟩⟩⟩
 ·refine⟨_,FQ,Yt (v:=false) FQ ⟨_,FQ,Zn ?_⟩⟩;refine⟨_,FQ,Yt (v:=true) FQ ⟨_,FQ,Yb ?_⟩⟩;have e:c%2=0\/c%2=1:=by omega
  rcases e with e | e
  ·exact⟨gS,λp a=>⟨_,FQ,by decide,_,_,Zf,(by rw[e];exact Yj),gS,gS,q _ false (Ex.new a)⟩⟩
  ·exact⟨gS,λp a=>⟨_,FQ,by decide,_,_,Zf,(by rw[e];exact Xu),gS,gS,q _ true (Ex.new a)⟩⟩
 ·refine⟨_,FQ,Yt (v:=false) FQ ⟨_,FQ,Zn ?_⟩⟩;refine⟨_,FQ,Yt (v:=false) FQ ⟨_,FQ,Zn ?_⟩⟩;refine⟨_,FQ,Yt (v:=true) FQ ⟨_,FQ,Yb ?_⟩⟩;exact⟨_,FQ,gS,gS,gS,gS,q C true (Ex.refl _)⟩
 ·refine⟨_,FQ,Yt (v:=false) FQ ⟨_,FQ,Zn ?_⟩⟩;refine⟨_,FQ,Yt (v:=false) FQ ⟨_,FQ,Zn ?_⟩⟩;refine⟨_,FQ,Yt (v:=false) FQ ⟨_,FQ,Zn ?_⟩⟩;refine⟨_,FQ,Yt (v:=true) FQ ⟨_,FQ,Yb ?_⟩⟩;exact⟨_,FQ,gS,gS,gS,gS,q C true (Ex.refl _)⟩
 ·refine⟨_,FQ,Yt (v:=false) FQ ⟨_,FQ,Zn ?_⟩⟩;refine⟨_,FQ,Yt (v:=false) FQ ⟨_,FQ,Zn ?_⟩⟩;refine⟨_,FQ,Yt (v:=false) FQ ⟨_,FQ,Zn ?_⟩⟩;refine⟨_,FQ,Yt (v:=false) FQ ⟨_,FQ,Zn ?_⟩⟩;exact⟨gS,_,FQ,gS,gS,q C true (Ex.refl _)⟩
def N3 {F:Int}{a b c:Tr}(q:Q (tt (bR F a b c)) C):Jo pr (n+1) G9 [.int F,tt a,tt b,tt c] C Q χ:=by
 refine G2 FQ ?_;unfold Sh Rg;unfold bR at q;refine⟨_,FQ,Yt FQ ⟨_,FQ,Xz (λh=>?_) (λd=>?_)⟩⟩
 ·rw[XY (eq_of_beq h)] at q;exact⟨_,FQ,gS,_,FQ,gS,gS,_,FQ,gS,gS,gS,q⟩
 rw[XX (Tm.mp d)] at q;refine⟨_,FQ,Yt FQ ⟨_,FQ,Xz (λh=>?_) (λd=>?_)⟩⟩
 ·rw[XY (eq_of_beq h)] at q;exact⟨_,FQ,gS,_,FQ,gS,gS,gS,q⟩
 rw[XX (Tm.mp d)] at q;exact⟨_,FQ,gS,_,FQ,gS,gS,_,FQ,gS,gS,gS,q⟩
def vA {w z v v':Int}{i j:Nat}{e e':Bool}(h:0<=w/\w<=4)(b:vk i≠vk j)(q:∀t C',Ex C C'->Wr t->Q (tt t) C'):Jo pr (n+2) G8 [.int w,tt (vt i v e),tt (vt j v' e'),tt (.num z)] C Q χ:=by
 refine Gz FQ ?_;unfold Sf Re;have l1:=Rw i v e;have l2:=Rw j v' e';have s1:=Uu i v e;have s2:=Uu j v' e';have c1:=Nu i v e;have c2:=Nu j v' e';refine⟨gS,gS,?_⟩;have d:w=0\/w=1\/w=2\/w=3\/w=4:=by omega
 rcases d with rfl | rfl | rfl | rfl | rfl
 ·refine⟨_,FQ,Yt (v:=true) FQ ⟨_,FQ,Yb ?_⟩⟩;refine⟨_,FQ,_,FQ,gS,gS,gS,gS,gS,gS,q (.sh2 "Cons" (vt i v e) (.sh2 "Cons" (vt j v' e') (.sh0 "Nil"))) C (Ex.refl _) ⟨qC b,λbs=>?_,⟨l1,l2,trivial⟩,?_⟩⟩
  ·exact Ws (.inl FQ) ((c1 bs).mono (by decide)) (Ws (.inl FQ) ((c2 bs).mono (by decide)) Lk)
  ·show 1+(_+(1+(_+1)))<=40;omega
 ·refine⟨_,FQ,Yt (v:=false) FQ ⟨_,FQ,Zn ?_⟩⟩;refine⟨_,FQ,Yt (v:=true) FQ ⟨_,FQ,Yb ?_⟩⟩;refine⟨_,FQ,_,FQ,gS,_,FQ,_,FQ,?_⟩;dsimp only[Zv];refine N3 (n:=n) (F:=0) (a:=.does "=" (.num z) (.num z)) (q (.chT (.does "=" (.num z) (.num z)) (vt i v e) (vt j v' e')) C (Ex.refl _) ⟨mT b,λbs=>?_,⟨⟨trivial,trivial⟩,l1,l2⟩,?_⟩)
  ·exact sh (Mm Ul Ul) ((c1 bs).mono (by decide)) ((c2 bs).mono (by decide))
  ·show 1+(3+(_+_))<=40;omega
 ·refine⟨_,FQ,Yt (v:=false) FQ ⟨_,FQ,Zn ?_⟩⟩;refine⟨_,FQ,Yt (v:=false) FQ ⟨_,FQ,Zn ?_⟩⟩;refine⟨_,FQ,Yt (v:=true) FQ ⟨_,FQ,Yb ?_⟩⟩;refine⟨_,FQ,_,FQ,gS,_,FQ,_,FQ,gS,gS,gS,_,FQ,gS,gS,gS,_,FQ,gS,?_⟩;refine q (.lt 1 (λ_=>"f") (λ_=>.fn "x" (.nm "x")) (.sh2 "Pair" (.call (.nm "f") (vt i v e)) (.call (.nm "f") (vt j v' e')))) C (Ex.refl _) ⟨qE b,λbs=>?_,⟨by decide,λ_=>trivial,⟨trivial,l1⟩,⟨trivial,l2⟩⟩,?_⟩
  ·exact Ll (Qq (Xa Th)) (Ws (.inr FQ) (Uv (Xa Th) (c1 _)) (Uv (Xa Th) (c2 _)))
  ·show 1+((2+0)+(1+((1+(1+_))+(1+(1+_)))))<=40;omega
 ·refine⟨_,FQ,Yt (v:=false) FQ ⟨_,FQ,Zn ?_⟩⟩;refine⟨_,FQ,Yt (v:=false) FQ ⟨_,FQ,Zn ?_⟩⟩;refine⟨_,FQ,Yt (v:=false) FQ ⟨_,FQ,Zn ?_⟩⟩;refine⟨_,FQ,Yt (v:=true) FQ ⟨_,FQ,Yb ?_⟩⟩;refine⟨_,FQ,_,FQ,gS,gS,q (.fn "x" (.call (.nm "x") (.nm "x"))) C (Ex.refl _) ⟨qB,λbs=>?_,⟨trivial,trivial⟩,?_⟩⟩
  ·exact Qq (Uv (Xa Th) (Xa Th))
  ·show 4<=40;decide
 ·refine⟨_,FQ,Yt (v:=false) FQ ⟨_,FQ,Zn ?_⟩⟩;refine⟨_,FQ,Yt (v:=false) FQ ⟨_,FQ,Zn ?_⟩⟩;refine⟨_,FQ,Yt (v:=false) FQ ⟨_,FQ,Zn ?_⟩⟩;refine⟨_,FQ,Yt (v:=false) FQ ⟨_,FQ,Zn ?_⟩⟩;refine⟨_,FQ,gS,gS,gS,gS,_,FQ,_,FQ,gS,gS,_,FQ,gS,gS,λp c=>?_⟩;have e3:z%3=0\/z%3=1\/z%3=2:=by omega
  rcases e3 with e3 | e3 | e3
  ·refine⟨_,FQ,_,FQ,_,Xu,by decide,_,_,Zf,(by rw[e3];exact Yj),gS,gS,_,FQ,gS,?_⟩;refine q (.lt 1 (λ_=>"x") (λ_=>.sh2 "Cons" (.nm "x") (.sh0 "Nil")) (vt j v' e')) _ (Ex.new c) ⟨uw,λbs=>?_,⟨by decide,λ_=>⟨trivial,trivial⟩,l2⟩,?_⟩
   ·exact Ll (Ws (.inl FQ) (Xa Th) Lk) ((c2 _).mono (by decide))
   ·show 1+((3+0)+_)<=40;omega
  ·refine⟨_,FQ,_,FQ,_,Xu,by decide,_,_,Zf,(by rw[e3];exact Xu),gS,gS,_,FQ,gS,?_⟩;refine q (.lt 1 (λ_=>"x") (λ_=>.sh2 "Pair" (.nm "x") (vt i v e)) (vt j v' e')) _ (Ex.new c) ⟨uv,λbs=>?_,⟨by decide,λ_=>⟨trivial,l1⟩,l2⟩,?_⟩
   ·exact Ll (Ws (.inr FQ) (Xa Th) ((c1 _).mono (by decide))) ((c2 _).mono (by decide))
   ·show 1+((1+(1+_)+0)+_)<=40;omega
  ·refine⟨_,FQ,_,FQ,_,Xu,by decide,_,_,Zf,(by rw[e3];exact Pm),gS,gS,_,FQ,gS,?_⟩;refine q (.lt 1 (λ_=>"x") (λ_=>.fn "y" (.nm "x")) (vt j v' e')) _ (Ex.new c) ⟨uu,λbs=>?_,⟨by decide,λ_=>trivial,l2⟩,?_⟩
   ·exact Ll (Qq (Xa (by simp))) ((c2 _).mono (by decide))
   ·show 1+((2+0)+_)<=40;omega
end
def iA {i:Nat}(h:i<4):∀p q,vk i≠xP p q:=λp q e=>by
 match i,h with
 | 0,_=>cases e
 | 1,_=>cases e
 | 2,_=>cases e
 | 3,_=>cases e
def o8 {i:Nat}(h:i=0\/i=1\/i=3\/i=4):∀p,vk i≠Tz p:=λp e=>by
 rcases h with rfl | rfl | rfl | rfl<;>cases e
def iB {i:Nat}(h:i=0\/i=1\/i=2\/i=4):∀p q,vk i≠B4 p q:=λp q e=>by
 rcases h with rfl | rfl | rfl | rfl<;>cases e
def i9 {i:Nat}(h:i=0\/i=2\/i=3\/i=4):vk i≠N8:=λe=>by
 rcases h with rfl | rfl | rfl | rfl<;>cases e
def iC {i:Nat}(h:1<=i):vk i≠Wc:=λe=>by
 match i,h with
 | 1,_=>cases e
 | 2,_=>cases e
 | 3,_=>cases e
 | _+4,_=>cases e
def a5 {x:Int}:∃o:Str,Nr [T.str "+",.str "-",.str "*",.str "<",.str "="] (x%5)=some (.str o):=by
 have:x%5=0\/x%5=1\/x%5=2\/x%5=3\/x%5=4:=by omega
 rcases this with e | e | e | e | e<;>rw[e]
 ·exact⟨_,Yj⟩
 ·exact⟨_,Xu⟩
 ·exact⟨_,Pm⟩
 ·exact⟨_,(by exact X6 (by rfl:_=some _))⟩
 ·exact⟨_,X6 (j:=4) FQ⟩
def a4 {x a b c d:Int}:∃v,Nr [T.int a,.int b,.int c,.int d] (x%4)=some (.int v)/\(v=a\/v=b\/v=c\/v=d):=by
 have:x%4=0\/x%4=1\/x%4=2\/x%4=3:=by omega
 rcases this with e | e | e | e<;>rw[e]
 ·exact⟨_,Yj,.inl FQ⟩
 ·exact⟨_,Xu,.inr (.inl FQ)⟩
 ·exact⟨_,Pm,.inr (.inr (.inl FQ))⟩
 ·exact⟨_,(by exact X6 (by rfl:_=some _)),.inr (.inr (.inr FQ))⟩
section
variable {C C':Hw}{Q:WK}{χ:WX}{n:Nat}
def rL {w c:Int}(h:0<=w/\w<11)(q:∀t C',Ex C C'->Wr t->Q (tt t) C'):Jo pr (n+3) Ch [.int w,.int c] C Q χ:=by
 refine Da FQ ?_;unfold Rt Qj;refine⟨_,FQ,⟨by decide,by decide⟩,⟨by decide,by decide,by decide⟩,by decide,gS,?_⟩;dsimp only[Nq];rw[cD];refine⟨_,FQ,by decide,_,FQ,_,FQ,⟨by decide,by decide⟩,?_⟩;dsimp only[Zv,eC,M7,Oz];refine T3 (n:=n+1) (by omega) λC1 e x1=>?_;refine⟨_,FQ,_,FQ,⟨by decide,by decide⟩,by decide,by decide,_,FQ,⟨by decide,by decide⟩,?_⟩;dsimp only[Zv,eC,M7,Oz,B6];refine T3 (n:=n+1) (by omega) λC2 e' x2=>?_;refine⟨_,FQ,by decide,_,FQ,⟨by decide,by decide⟩,?_⟩;dsimp only[Zv,eC,M7,Oz,B6];refine T3 (n:=n+1) (by omega) λC3 e3 x3=>?_;have x0:Ex C C3:=x1.trans (x2.trans x3);generalize hz:c/7%1000000000000000000=z;generalize hi:c%5=i at*;have i0:i.toNat<5:=by omega
 generalize hj:(i+1+c/5%4)%5=j at*;have j0:j.toNat<5:=by omega
 have H:i.toNat≠j.toNat:=by omega
 have I:=iD i0 j0 H;generalize hk:1+c%4=k at*;have k0:1<=k.toNat:=by omega
 have L:=iC k0;generalize DO:c/5%1000000000000000000=v1;generalize D_:c/20%1000000000000000000=v2;generalize E_:c/4%1000000000000000000=A;have l1:=Rw i.toNat v1 e;have s1:=Uu i.toNat v1 e;have c1:=Nu i.toNat v1 e;have B:=Rw k.toNat A e3;have s3:=Uu k.toNat A e3;have D:=Nu k.toNat A e3;generalize N:vt i.toNat v1 e=t1 at l1 s1 c1;generalize m:vt k.toNat A e3=E at B s3 D;refine⟨_,FQ,_,FQ,Xz (λu=>?_) (λu=>?_)⟩
 ·have u:w<5:=of_decide_eq_true u;refine⟨_,FQ,_,FQ,_,FQ,_,FQ,?_⟩;dsimp only[Zv];rw[<-N];exact vA (n:=n) (by omega) I λt s g W4=>q t s (x0.trans g) W4
 have u:¬w<5:=of_decide_eq_false u;refine⟨_,FQ,Yt FQ ⟨_,FQ,Xz (λh=>?_) (λn5=>?_)⟩⟩
 ·obtain⟨o,U⟩:=a5 (x:=c/4);refine⟨gS,λp y=>⟨_,FQ,⟨by decide,by decide⟩,by decide,_,_,Zf,U,_,FQ,_,FQ,gS,?_⟩⟩;refine q (.does o (.num z) E) _ (x0.trans (Ex.new y)) ⟨by rw[<-m];exact uz L,λbs=>?_,⟨trivial,B⟩,?_⟩
  ·exact Mm Ul ((D bs).mono (by decide))
  ·show 1+(1+_)<=40;omega
 refine⟨_,FQ,Yt FQ ⟨_,FQ,Xz (λh=>?_) (λn6=>?_)⟩⟩
 ·obtain⟨o,U⟩:=a5 (x:=c/4);refine⟨gS,λp y=>⟨_,FQ,⟨by decide,by decide⟩,by decide,_,_,Zf,U,_,FQ,_,FQ,gS,?_⟩⟩;refine q (.does o E (.num z)) _ (x0.trans (Ex.new y)) ⟨by rw[<-m];exact uy L,λbs=>?_,⟨B,trivial⟩,?_⟩
  ·exact Mm ((D bs).mono (by decide)) Ul
  ·show 1+(_+1)<=40;omega
 refine⟨_,FQ,Yt FQ ⟨_,FQ,Xz (λh=>?_) (λn7=>?_)⟩⟩
 ·refine⟨_,FQ,by decide,_,FQ,⟨by decide,by decide⟩,?_⟩;dsimp only[Zv,eC,M7,Oz];refine T3 (n:=n+1) (by omega) λs f g=>⟨_,FQ,gS,?_⟩;refine q (.call (vt (c%4).toNat (c/4%1000000000000000000) f) t1) _ (x0.trans g) ⟨qD (iA (by omega)),λbs=>?_,⟨Rw _ _ _,l1⟩,?_⟩
  ·exact Uv ((Nu _ _ _ bs).mono (by decide)) ((c1 bs).mono (by decide))
  ·have:=Uu (c%4).toNat (c/4%1000000000000000000) f;show 1+(_+_)<=40;omega
 refine⟨_,FQ,Yt FQ ⟨_,FQ,Xz (λh=>?_) (λn8=>?_)⟩⟩
 ·refine⟨_,FQ,⟨by decide,by decide⟩,by decide,?_⟩;dsimp only[Nq];generalize hF:c/4%3=F;refine⟨gS,λp1 Y=>⟨gS,λp2 A_=>⟨gS,λp3 B_=>⟨gS,λp4 C_=>?_⟩⟩⟩⟩;have y2:=Ex.new (o:=.lst [.int 0,.int 1,.int 3,.int 4]) A_;have y3:=Ex.new (o:=.lst [.int 0,.int 1,.int 2,.int 4]) B_;have G:=Ex.new (o:=.lst [.ref p1,.ref p2,.ref p3]) C_;have y0:=x0.trans ((Ex.new (o:=.lst [.int 0,.int 2,.int 3,.int 4]) Y).trans (y2.trans (y3.trans G)));have f3:F=0\/F=1\/F=2:=by omega
  rcases f3 with rfl | rfl | rfl
  ·obtain⟨v,hv,r⟩:=a4 (x:=c) (a:=0) (b:=2) (c:=3) (d:=4);refine⟨_,FQ,_,_,Zf,Yj,_,FQ,by decide,_,_,(y2.trans (y3.trans G)) _ _ Zf,hv,_,FQ,⟨by decide,by decide⟩,?_⟩;dsimp only[Zv,eC,M7,Oz];refine T3 (n:=n+1) (by omega) λs f g=>⟨_,FQ,_,FQ,_,FQ,_,FQ,?_⟩;dsimp only[Zv];have s4:=Uu v.toNat (c/12%1000000000000000000) f;refine N3 (n:=n+1) (q (.chT (vt v.toNat (c/12%1000000000000000000) f) t1 t1) _ (y0.trans g) ⟨qH (i9 (by omega)),λbs=>?_,⟨Rw _ _ _,l1,l1⟩,?_⟩)
   ·exact sh ((Nu _ _ _ bs).mono (by decide)) ((c1 bs).mono (by decide)) ((c1 bs).mono (by decide))
   ·show 1+(_+(_+_))<=40;omega
  ·obtain⟨v,hv,r⟩:=a4 (x:=c) (a:=0) (b:=1) (c:=3) (d:=4);refine⟨_,FQ,_,_,Zf,Xu,_,FQ,by decide,_,_,(y3.trans G) _ _ Zf,hv,_,FQ,⟨by decide,by decide⟩,?_⟩;dsimp only[Zv,eC,M7,Oz];refine T3 (n:=n+1) (by omega) λs f g=>⟨_,FQ,_,FQ,_,FQ,_,FQ,?_⟩;dsimp only[Zv];have s4:=Uu v.toNat (c/12%1000000000000000000) f;refine N3 (n:=n+1) (q (.chL (vt v.toNat (c/12%1000000000000000000) f) t1 "x" "y" t1) _ (y0.trans g) ⟨qG (o8 (by omega)),λbs=>?_,⟨Rw _ _ _,l1,l1⟩,?_⟩)
   ·exact sj ((Nu _ _ _ bs).mono (by decide)) ((c1 bs).mono (by decide)) ((c1 _).mono (by decide))
   ·show 1+(_+(_+_))<=40;omega
  ·obtain⟨v,hv,r⟩:=a4 (x:=c) (a:=0) (b:=1) (c:=2) (d:=4);refine⟨_,FQ,_,_,Zf,Pm,_,FQ,by decide,_,_,G _ _ Zf,hv,_,FQ,⟨by decide,by decide⟩,?_⟩;dsimp only[Zv,eC,M7,Oz];refine T3 (n:=n+1) (by omega) λs f g=>⟨_,FQ,_,FQ,_,FQ,_,FQ,?_⟩;dsimp only[Zv];have s4:=Uu v.toNat (c/12%1000000000000000000) f;refine N3 (n:=n+1) (q (.chP (vt v.toNat (c/12%1000000000000000000) f) "x" "y" t1) _ (y0.trans g) ⟨qF (iB (by omega)),λbs=>?_,⟨Rw _ _ _,l1⟩,?_⟩)
   ·exact si ((Nu _ _ _ bs).mono (by decide)) ((c1 _).mono (by decide))
   ·show 1+(_+_)<=40;omega
 refine⟨_,FQ,Yt FQ ⟨_,FQ,Xz (λh=>?_) (λn9=>?_)⟩⟩
 ·obtain⟨v,hv,r⟩:=a4 (x:=c/5) (a:=0) (b:=1) (c:=3) (d:=4);refine⟨_,FQ,gS,λp y=>⟨_,FQ,⟨by decide,by decide⟩,by decide,_,_,Zf,hv,_,FQ,⟨by decide,by decide⟩,?_⟩⟩;dsimp only[Zv,eC,M7,Oz];refine T3 (n:=n+1) (by omega) λs f g=>⟨gS,gS,?_⟩;refine q (.sh2 "Cons" t1 (vt v.toNat (c/20%1000000000000000000) f)) _ (x0.trans ((Ex.new y).trans g)) ⟨qA (o8 (by omega)),λbs=>?_,⟨l1,Rw _ _ _⟩,?_⟩
  ·exact Ws (.inl FQ) ((c1 bs).mono (by decide)) ((Nu _ _ _ bs).mono (by decide))
  ·have:=Uu v.toNat (c/20%1000000000000000000) f;show 1+(_+_)<=40;omega
 refine⟨gS,gS,gS,gS,gS,gS,gS,gS,gS,gS,_,FQ,gS,_,FQ,gS,gS,gS,_,FQ,gS,gS,?_⟩;refine q (.lt 2 bO cr (.call (.nm "f") E)) _ x0 ⟨by rw[<-m];exact mS L,λbs=>?_,?_,?_⟩
 ·exact Pj (l:=[(HN,.fn "x" (.call (.nm "g") (.nm "x"))),(HN,.fn "y" (.does "+" (.nm "y") (.call (.nm "f") (.nm "y")))),(HN,.call (.nm "f") E)]) FQ nofun trivial (Mr (Qq (Uv (Xa (by simp)) (Xa Th))) (Mr (Qq (Mm (Xa Th) (Uv (Xa (by simp)) (Xa Th)))) (Gq (Uv (Xa (by simp)) ((D _).mono (by decide))))))
 ·refine⟨by decide,λi=>?_,trivial,B⟩;unfold cr
  split
  ·exact⟨trivial,trivial⟩
  ·exact⟨trivial,trivial,trivial⟩
 ·show 1+((4+(6+0))+(1+(1+_)))<=40;omega
end
def vI {x:Int}(a:0<=x):(sI x).cps.toList=(Nat.toDigits 10 x.toNat).map Char.toNat:=by
 obtain⟨m,rfl⟩:∃m:Nat,x=m:=⟨x.toNat,by omega⟩;have e:sI (Int.ofNat m)=⟨((Nat.toDigits 10 m).map Char.toNat).toArray⟩:=text_ofNat m;show(sI (Int.ofNat m)).cps.toList=_;rw[e];rfl
def nU {x:Int}(a:0<=x):1<=(sI x).cps.toList.length:=by
 rw[vI a,XI];exact Nat.length_toDigits_pos
def nV {x:Int}(d:0<=x){c:Nat}(h:c∈(sI x).cps.toList):c<=57:=by
 rw[vI d] at h;obtain⟨ch,a,rfl⟩:=XR.mp h;have hd:=Nat.isDigit_of_mem_toDigits (b:=10) (by decide) (by decide) a;simp only[Char.isDigit,Bool.and_eq_true,decide_eq_true_eq] at hd;exact hd.2
def uG {c:Nat}{z:Str}:((⟨#[c]⟩:Str)++z).cps.toList=c::z.cps.toList:=Array.toList_append ..
def uF {c:Nat}{x:Int}(a:0<=x){z:Str}(hz:z.cps.toList.length=1):(⟨#[c]⟩:Str)++sI x≠z:=λe=>by
 have h:=congrArg (λs:Str=>s.cps.toList.length) e;simp only[uG,List.length_cons] at h;have:=nU a;omega
def uE {c d:Nat}{x:Int}(a:0<=x){z:Str}(hz:z.cps.toList=[d,120,120]):(⟨#[c]⟩:Str)++sI x≠z:=λe=>by
 have h:=congrArg (λs:Str=>s.cps.toList) e;simp only[uG,hz,List.cons.injEq] at h;have:=nV a (c:=120) (by rw[h.2];simp);omega
def dX (c:Int):Xy c≠"z":=uF (by omega) (by decide+kernel)
def d4 {x:Int}:("q":Str)++sI x≠"z":=λe=>by
 have h:=congrArg (λs:Str=>s.cps.toList) e;have a:(("q":Str)++sI x).cps.toList=("q":Str).cps.toList++(sI x).cps.toList:=Array.toList_append ..;simp only[a] at h;have b:("q":Str).cps.toList=[113]:=by decide+kernel
 have e3:("z":Str).cps.toList=[122]:=by decide+kernel
 rw[b,e3] at h;injection h with h _
 exact absurd h (by decide)
structure Gn (x:Str):Prop where
 k:x≠"k"
 p:x≠"pxx"
 r:x≠"rxx"
 l:x.length<=30
def qO {a b:Str}:(a++b).length=a.length+b.length:=Array.size_append ..
def f6 {c:Nat}{x:Int}(a:0<=x)(h1:x<1000000000000000000):Gn ((⟨#[c]⟩:Str)++sI x):=⟨uF a (by decide+kernel),uE (d:=112) a (by decide+kernel),uE (d:=114) a (by decide+kernel),by
 have:=I0 a h1;rw[qO];show 1+(Str.ofString (toString x)).length<=30;omega⟩
def ck:Gn "z":=⟨by decide+kernel,by decide+kernel,by decide+kernel,by decide+kernel⟩
section
variable {C C':Hw}{Q:WK}{χ:WX}{n:Nat}
def rM {c:Int}{na:WP}{ns:List Str}(h:C na=some (.lst (ns.map T.str)))(hz:("z":Str)∉ns)(f:ns.length<=1000)(q:∀x,x∉ns->Gn x->Q (.str x) C):Jo pr (n+1) Cj [.int c,.ref na] C Q χ:=by
 refine Dc FQ ?_;unfold Rv Ql;refine⟨_,FQ,by decide,by decide+kernel,_,sy (z:="abcdefghijklmnopqrstuvwxyz") (n:=26) (by decide+kernel) (by decide),?_⟩;dsimp only[Nq];generalize gY "abcdefghijklmnopqrstuvwxyz" ((26:Nat):Int) c=ch;refine⟨_,FQ,_,FQ,_,h,_,FQ,by rw[XI];omega,by rw[XI];omega,?_⟩;rw[show(((ns.map T.str).length:Int)+1).toNat=ns.length+1 by rw[XI];omega];refine qX (λi τ C'=>∃(a b:Option T),τ=[some (.int c),some (.ref na),some (.str ⟨#[ch]⟩),a,b]/\C'=C) ⟨none,none,FQ,FQ⟩ (λ_=>trivial) ?_ ?_
 ·rintro i τ C1 N hi ⟨a,b,rfl,rfl⟩ d;have hb:0<=c/26%10+(0+(i:Int))*(1+c/260%3):=by
   have h1:0<=1+c/260%3:=by omega
   have:=Int.mul_nonneg (show(0:Int)<=0+i by omega) h1;omega
  have hc:c/26%10+(0+(i:Int))*(1+c/260%3)<1000000000000000000:=by
   have h1:1+c/260%3<=3:=by omega
   have h2:=Int.mul_le_mul_of_nonneg_left h1 (show(0:Int)<=0+i by omega);omega
  have e:=I0 hb hc;refine⟨_,FQ,_,FQ,⟨by decide,by decide⟩,by decide,_,FQ,_,FQ,⟨by decide,by decide⟩,by decide,?_⟩;refine⟨.inr ⟨by omega,by omega⟩,.inl ⟨_,FQ,jm hb hc,V2 (by show 1+_<=_;omega),?_⟩⟩;refine⟨_,FQ,_,FQ,_,h,Gd,Nf,_,FQ,?_⟩;rw[Hr];refine Xz (λc1=>?_) (λc1=>d _ _ ⟨_,_,FQ,FQ⟩);exact⟨_,FQ,q _ (λz=>by rw[decide_eq_true z] at c1;cases c1) (f6 hb hc)⟩
 ·rintro τ C1 ⟨a,b,rfl,rfl⟩;exact q _ hz ck
structure Un (x:Str)(t:Tr):Prop where
 al:∀m,3<m->∀bs,x∉bs->Al x (Yx m bs t)
 ce:∀bs,x∈bs->Ce 3 bs t
 l:t.lok
 s:t.size<=20
def kH {x:Str}:Al x [x]:=⟨List.cons_ne_nil _ _,λy hy=>XQ.mp hy⟩
def zt {x:Str}{m:Nat}{bs:List Str}(h:x∉bs):Al x (Yx (m+1) bs (.nm x)):=by
 rw[Co,XX h];exact kH
def Kx {x:Str}{m:Nat}{bs:List Str}(h:x∈bs):Yx (m+1) bs (.nm x)=[]:=by
 rw[Co,XY h]
def j8 {m:Nat}{bs:List Str}{v:Int}:Yx (m+1) bs (.num v)=[]:=rfl
def qU {m:Nat}{bs:List Str}{t u:Tr}{x y:Str}:Yx (m+1) bs (.chP t x y u)=Yx m bs t++Yx m (bs++[x,y]) u:=by
 show[]++[Yx m (bs++[]) t,Yx m (bs++[x,y]) u].flatten=_;simp
def aE (o:Str):Fin 2->Str:=λi=>if i=0 then o else o++"xx"
def bJ (z:Int)(x:Str):Fin 2->Tr:=λi=>if i=0 then .num z else .nm x
def hV {w z:Int}{x:Str}(h:0<=w/\w<5)(g:Gn x)(q:∀t C',Ex C C'->Un x t->Q (tt t) C'):Jo pr (n+1) Hs [.int w,.str x,.int z] C Q χ:=by
 refine Ij FQ ?_;unfold U3 Ts;refine⟨gS,λp b=>?_⟩;have x0:=Ex.new (o:=.lst [.str "p",.str "r"]) b;refine⟨_,FQ,Z3 FQ (.inr ⟨_,FQ,?_⟩)⟩;obtain⟨o,d,a,f,j⟩:∃o:Str,Nr [T.str "p",T.str "r"] (if (x=="p")=true then 1 else 0)=some (.str o)/\x≠o/\x≠o++"xx"/\o.length<=1:=by
  cases c:x=="p" with
  | true=>
   have e:x="p":=eq_of_beq c;exact⟨"r",Xu,by rw[e];decide+kernel,g.r,by decide+kernel⟩
  | false=>exact⟨"p",Yj,λe=>absurd e (Tm.mp c),g.p,by decide+kernel⟩
 refine⟨_,_,Zf,d,_,FQ,gS,?_⟩;generalize up C p (.lst [.str "p",.str "r"])=C1 at x0;refine⟨_,FQ,Yt FQ ⟨_,FQ,Xz (λh=>?_) (λs=>?_)⟩⟩
 ·exact⟨_,FQ,q (.nm x) _ x0 ⟨λm hm bs hx=>by obtain⟨m,rfl⟩:∃k,m=k+1:=⟨m-1,by omega⟩;exact zt hx,λbs h=>Xa h,trivial,by show 1<=20;decide⟩⟩
 refine⟨_,FQ,Yt FQ ⟨_,FQ,Xz (λh=>?_) (λc1=>?_)⟩⟩
 ·refine⟨_,FQ,_,FQ,gS,_,FQ,gS,q (.call (.fn x (.nm x)) (.nm x)) _ x0 ⟨λm hm bs hx=>?_,?_,⟨trivial,trivial⟩,by show 4<=20;decide⟩⟩
  ·obtain⟨m,rfl⟩:∃k,m=k+3:=⟨m-3,by omega⟩;rw[A5,Lh];exact Ff (zt hx) (Kx (by simp))
  ·exact λbs h=>Uv (Qq (Xa Th)) (Xa h)
 refine⟨_,FQ,Yt FQ ⟨_,FQ,Xz (λh=>?_) (λc2=>?_)⟩⟩
 ·refine⟨_,FQ,gS,_,FQ,gS,gS,_,FQ,_,FQ,_,FQ,gS,_,FQ,gS,gS,gS,q (.chP (.sh2 "Pair" (.num z) (.nm x)) x o (.nm x)) _ x0 ⟨λm hm bs hx=>?_,?_,⟨⟨trivial,trivial⟩,trivial⟩,by show 5<=20;decide⟩⟩
  ·obtain⟨m,rfl⟩:∃k,m=k+3:=⟨m-3,by omega⟩;rw[qU,Qe];exact Bu (Ff (zt hx) j8) (Kx (by simp))
  ·exact λbs h=>si (Ws (.inr FQ) Ul (Xa h)) (Xa (by simp))
 refine⟨_,FQ,Yt FQ ⟨_,FQ,Xz (λh=>?_) (λu=>?_)⟩⟩
 ·refine⟨_,FQ,_,FQ,gS,gS,_,FQ,V2 (by show o.length+2<=_;omega),_,FQ,gS,gS,_,FQ,gS,gS,q (.lt 2 (aE o) (bJ z x) (.nm o)) _ x0 ⟨λm hm bs hx=>?_,?_,⟨by decide,λi=>?_,trivial⟩,by show 4<=20;decide⟩⟩
  ·obtain⟨m,rfl⟩:∃k,m=k+3:=⟨m-3,by omega⟩;show Al x ([]++[Yx (m+2) (bs++[o,o++"xx"]) (.num z),Yx (m+2) (bs++[o,o++"xx"]) (.nm x),Yx (m+2) (bs++[o,o++"xx"]) (.nm o)].flatten);rw[j8,Kx (x:=o) (by simp)];simp only[List.flatten_cons,List.flatten_nil,List.nil_append,List.append_nil];refine zt λz=>?_
   rcases XS.mp z with z | z
   ·exact hx z
   ·simp only[ZM,ZN,or_false] at z
    rcases z with z | z
    ·exact a z
    ·exact f z
  ·exact λbs h=>Pj (l:=[([o,o++"xx"],.num z),([o,o++"xx"],.nm x),([o,o++"xx"],.nm o)]) FQ nofun trivial (Mr Ul (Mr (Xa (List.mem_append_left _ h)) (Gq (Xa (by simp)))))
  ·unfold bJ
   split
   ·trivial
   ·trivial
 ·refine⟨_,FQ,_,FQ,gS,_,FQ,_,FQ,gS,gS,gS,q (.sh2 "Pair" (.fn x (.nm x)) (.fn o (.nm x))) _ x0 ⟨λm hm bs hx=>?_,?_,⟨trivial,trivial⟩,by show 5<=20;decide⟩⟩
  ·obtain⟨m,rfl⟩:∃k,m=k+3:=⟨m-3,by omega⟩;rw[Qe,Lh,Lh];exact Ff (zt (gP hx a.symm)) (Kx (by simp))
  ·exact λbs h=>Ws (.inr FQ) (Qq (Xa Th)) (Qq (Xa (BK _ h)))
end
def Pt:∀(f:Nat) (l:List Int),∀y∈(Y9 Xy f l).2.2,∃c,y=Xy c
 | 0,_,y,h=>by cases h
 | f+1,l,y,h=>by
  unfold Y9 at h
  split at h
  ·split at h
   ·rcases BB.mp h with rfl | h
    ·exact⟨_,FQ⟩
    rcases XS.mp h with h | h
    ·exact Pt f _ y h
    ·exact Pt f _ y h
   ·rcases BB.mp h with rfl | h
    ·exact⟨_,FQ⟩
    ·exact Pt f _ y h
  ·cases h
structure Sp (o:List Int)(x:Str)(t:Tr):Prop where
 w:(o=[1]/\(∀{G k R},¬HT G t k R)/\∀bs,Ce 7 bs t)\/(o=[0]/\(∀m,7<m->∀bs,x∉bs->Al x (Yx m bs t))/\∀bs,x∈bs->Ce 7 bs t)
 l:t.lok
 s:t.size<=61
def h9 {t:Tr}{x:Str}(h:Wr t):Sp [1] x t:=⟨.inl ⟨FQ,h.no,λbs=>(h.ce bs).mono (by decide)⟩,h.l,XN h.s (by decide)⟩
def hJ {t:Tr}{x:Str}(h:Un x t):Sp [0] x t:=⟨.inr ⟨FQ,λm hm bs hx=>h.al m (by omega) bs hx,λbs hx=>(h.ce bs hx).mono (by decide)⟩,h.l,XN h.s (by decide)⟩
def dB {t u:Tr}{x:Str}(h:Wr t)(g:Un x u):Sp [0] x (.first t u):=⟨.inr ⟨FQ,λm hm bs hx=>by
 obtain⟨m,rfl⟩:∃k,m=k+1:=⟨m-1,by omega⟩;rw[Ob];exact Ff (g.al m (by omega) bs hx) (Gi ((h.ce bs).mono (by omega))),λbs hx=>Ml (h.ce bs) ((g.ce bs hx).mono (by decide))⟩,⟨h.l,g.l⟩,by have:=h.s;have:=g.s;show 1+(_+_)<=61;omega⟩
def dA {t u:Tr}{x:Str}(h:Wr t)(g:Un x u):Sp [0] x (.first u t):=⟨.inr ⟨FQ,λm hm bs hx=>by
 obtain⟨m,rfl⟩:∃k,m=k+1:=⟨m-1,by omega⟩;rw[Ob];exact Bu (g.al m (by omega) bs hx) (Gi ((h.ce bs).mono (by omega))),λbs hx=>Ml ((g.ce bs hx).mono (by decide)) (h.ce bs)⟩,⟨g.l,h.l⟩,by have:=h.s;have:=g.s;show 1+(_+_)<=61;omega⟩
section
variable {B:Bx}{L:List Int}{s:Int}{x:Str}{o:List Int}
def uW (hb:B.bad.size<=61)(a:L.length<=40):(gen Gx Xy B 7 L s).size<=600:=by
 have h:=Hz (nm:=Xy) hb qN 7 L s;have:hz 61 s (Y9 Xy 7 L).1<=64:=by
  unfold hz
  split<;>omega
 omega
def qz (hb:B.bad.size<=61)(a:L.length<=40):Oc 46 (gen Gx Xy B 7 L 0) []:=by
 have g:=Ga (B:=B) (P:=λ_=>True) (lf:=Gx) (nm:=Xy) oO 7 L 0 (λ_ _=>trivial);have e:hit 0 (Y9 Xy 7 L).1=false:=YG (by omega);rw[e] at g;obtain⟨k,hk⟩:=g.kinds FQ;have lk:=uc g λz=>by cases z
 have sz:=uW (B:=B) (s:=0) hb a;have cs:=jK lk;exact .inl ⟨FQ,⟨(jf (mb:=0) (Pb:=λ_=>True) (λ_ _ h=>h) g nofun [] trivial).mono (by decide),lk,by decide,sz,by omega⟩,k,hk G0⟩
def mR (h:Sp o x B.bad)(c:Gn x)(hn:B.name≠x)(hx:∀y∈(Y9 Xy 7 L).2.2,y≠x)(hs:1<=s/\s<=(Y9 Xy 7 L).1)(d:L.length<=40):Oc 46 (gen Gx Xy B 7 L s) o:=by
 have g:=Ga (B:=B) (P:=λy=>y≠x) (lf:=Gx) (nm:=Xy) oO 7 L s hx;have e:hit s (Y9 Xy 7 L).1=true:=decide_eq_true hs;rw[e] at g;have lk:=uc g λ_=>h.l;have sz:=uW (s:=s) h.s d;have cs:=jK lk
 rcases h.w with⟨rfl,no,ce⟩ | ⟨rfl,al,f⟩
 ·refine .inr (.inl ⟨FQ,⟨(jf (mb:=6) (Pb:=λ_=>True) (λ_ _ h=>h) g (λ_ bs _=>ce bs) [] trivial).mono (by decide),lk,by decide,sz,by omega⟩,λ⟨k,R,q⟩=>?_⟩);obtain⟨_,_,_,q⟩:=g.bad FQ q;exact no q
 ·have a:=my (mb:=7) g (λy h=>h) c.k.symm hn al FQ 46 (by decide) [] (by simp);have b:=pU a;exact .inr (.inr ⟨FQ,⟨sf ((jf (mb:=6) (Pb:=λbs=>x∈bs) (λ_ _ h=>List.mem_append_left _ h) g (λ_=>f) [x] (.head _)).mono (by decide)),lk,by decide,by rw[b];show 1<64;decide,by rw[b];simp,by
   rw[b];have:=c.l;simp;omega⟩⟩)
end
def K8 {α a:Type}{xs:List α}{f:α->a}{lo hi:Option Int}:Ep (xs.map f) lo hi=(Ep xs lo hi).map f:=by
 unfold Ep;rw[XI,List.map_take,List.map_drop]
def oN {B:Bx}{s:Int}{na:WP}:Vy [] (Ib B s na)=Ib B s na:=by
 unfold Ib Vy;simp[J8,ig]
def Wp {n:Nat}:∀{l:List Int},Y2 (l.map T.int) n=true
 | []=>by unfold Y2;rfl
 | a::l=>by
  unfold List.map Y2;rw[Wp];unfold Xp;rfl
section
variable {C C':Hw}{Q:WK}{χ:WX}{n:Nat}
def vE {a:WP}{cs:List Int}(ha:C a=some (.lst (cs.map T.int)))(q:∀v C',Q (.int v) C'):Jo pr (n+1) Lw [.ref a] C Q χ:=by
 refine Lr FQ ?_;unfold T0 Se;refine⟨_,FQ,_,FQ,_,ha,_,FQ,?_⟩
 cases h:cs.reverse with
 | nil=>
  have e:cs=[]:=List.reverse_eq_nil_iff.mp h;subst e;exact Ma (by decide) (q 0 C)
 | cons v l=>
  have e:cs=l.reverse++[v]:=by rw[<-FD cs,h,BY]
  subst e;rw[XL] at ha |-;refine N9 (decide_eq_true (by rw[AY];show(0:Int)<((_+1:Nat):Int);omega)) ?_;exact⟨_,FQ,⟨_,_,FQ,ha⟩,_,_,T.int v,FQ,FQ,ha,by simp,q v _⟩
end
abbrev sv (C:Hw)(bx na:WP)(B:Bx)(s:Int)(ns:List Str):Hw:=up (up (up C bx (.dic [])) na (.lst (ns.map T.str))) bx (.dic (Ib B s na))
section
variable {C:Hw}{B:Bx}{p bx na p':WP}{L:List Int}{s:Int}{ns:List Str}
def su (a:C bx=none)(b:up C bx (.dic []) na=none):Ex C (sv C bx na B s ns):=λc w h=>by
 have d:c≠bx:=X2 h a;have h1:up C bx (.dic []) c=some w:=by rw[Zk d];exact h
 have e:c≠na:=X2 h1 b;show up (up (up C bx (.dic [])) na _) bx _ c=some w;rw[Zk d,Zk e];exact h1
def oM (a:up C bx (.dic []) na=none)(b:sv C bx na B s ns p'=none):Bd B p' bx na (up (sv C bx na B s ns) p' (.lst (L.reverse.map T.int))) L s ns:=by
 have nb:bx≠na:=cne Zf a;have d:sv C bx na B s ns bx=some (.dic (Ib B s na)):=Zf;have c:sv C bx na B s ns na=some (.lst (ns.map T.str)):=by
  show up _ bx _ na=_;rw[Zk nb.symm];exact Zf
 have x:=Ex.new (o:=.lst (L.reverse.map T.int)) b;exact⟨Zf,x _ _ d,x _ _ c,(X2 c b).symm⟩
end
def W4 (P:Calls):WS:=
 Su (Ol (X5 B6 (eC (.int 1)) (X5 Oz (X5 M7 (Yp 1) (eC (.int 6))) (X5 rj (eC (.int 0)) (X5 o0 (Yp 6) (eC (.str "spot")))))) (Nq 10))
 (Su (Ol (tD (F9 (eC (.str "spot")) (Yp 10) (F9 (eC (.str "bad")) (Yp 9) (F9 (eC (.str "way")) (X5 Oz (X5 M7 (Yp 1) (eC (.int 3))) (eC (.int 3))) (F9 (eC (.str "name")) (Yp 5) (F9 (eC (.str "names")) (Ng Zv) gH)))))) (Nq 6))
 (Su (Ol (Xh P 25 (Z1 (fA sx (Z1 (Yp 4) Zv)) (Z1 (eC (.int 7)) (Z1 (Yp 6) Zv)))) (Nq 11))
 (Su (Ol (X5 xa (Ng (Z1 (Ng (Z1 (eC (.int 1)) Zv)) (Z1 (Ng (Z1 (eC (.int 0)) Zv)) (Z1 (Ng (Z1 (eC (.int 0)) Zv)) Zv)))) (X5 Oz (Yp 1) (eC (.int 3)))) (Nq 12))
 (Su (xr (zI (zJ (X5 i7 (Xh P 33 (Z1 (Yp 7) (Z1 (eC (.bl true)) Zv))) (Ng Zv))) (zJ (X5 i7 (Xh P 33 (Z1 (Yp 11) (Z1 (eC (.bl true)) Zv))) (Yp 12)))) (N4 (eC (.bl false))) Qp)
 (N4 (tE (X5 z0 (Xh P 33 (Z1 (Yp 7) (Z1 (eC (.bl false)) Zv))) (Ng Zv)) (X5 z0 (Xh P 33 (Z1 (Yp 11) (Z1 (eC (.bl false)) Zv))) (Yp 12))))))))
section
variable {C:Hw}{B:Bx}{p6 p7 bx na:WP}{L:List Int}{l1:List Int}{ns:List Str}{χ:WX}{v1:Int}{sp x:Str}{o:List Int}{bd tg:Tr}{y0 y2 y3 y8:Option T}
def ie (r:Int):List Int:=if r=0 then[1] else[0]
def yS (hb:C bx=some (.dic (Ib B (0-(Y9 Xy 7 L).1) na)))(A:C p6=some (.lst (L.reverse.map T.int)))(lc:L.length<=40)(Y:Oc 46 tg [])(h:Sp (ie (v1%3)) x bd)(gx:Gn x)(hn:sp≠x)(hx:∀y∈(Y9 Xy 7 L).2.2,y≠x):
  W4 (Jo pr 59) {nx:=λ_ _=>T.non=.bl true,rt:=λv _=>v=.bl true,xc:=χ} [y0,some (.int v1),y2,y3,some (.ref p6),some (.str sp),some (.ref bx),some (tt tg),y8,some (tt bd),none,none,none] C:=by
 have hp:=rJ (nm:=Xy) 7 L;have ln:=Nz (nm:=Xy) 7 L;unfold W4;refine⟨_,FQ,⟨by decide,by decide⟩,_,FQ,_,_,_,_,FQ,FQ,.inl hb,Ia,?_⟩;generalize hc:(Y9 Xy 7 L).1=c at hp hb;refine⟨show(0:Int)<0-(0-(c:Int)) by omega,?_⟩;rw[show(0:Int)-(0-(c:Int))=c by omega];have m0:0<=v1/6%(c:Int):=YO _ (by omega);have m1:v1/6%(c:Int)<c:=Int.emod_lt_of_pos _ (by omega);dsimp only[B6];generalize hs:1+v1/6%(c:Int)=s;refine λa j=>⟨_,FQ,_,FQ,_,FQ,⟨by decide,by decide⟩,by decide,_,FQ,gS,λb d=>⟨_,FQ,_,FQ,_,FQ,_,FQ,_,FQ,?_⟩⟩;have nb:a≠b:=cne Zf d;refine⟨by rw[Zk nb];exact Zf,ZNB FQ,?_⟩;change Nq 6 (.ref a) _ (up (up (up C a (.dic [])) b (.lst (([]:List Str).map T.str))) a (.dic (Vy [] (Ib ⟨bd,v1/3%3,sp⟩ s b)))) _ _;rw[oN];change Nq 6 (.ref a) _ (sv C a b ⟨bd,v1/3%3,sp⟩ s []) _ _;have l:Ex C (sv C a b ⟨bd,v1/3%3,sp⟩ s []):=su j d;refine⟨_,FQ,_,FQ,_,l _ _ A,λp8 m=>?_⟩;have D6:=oM (L:=L) d m;generalize up (sv C a b ⟨bd,v1/3%3,sp⟩ s []) p8 (.lst (L.reverse.map T.int))=C6 at D6 |-;clear l m j d nb;refine⟨_,FQ,?_⟩;dsimp only[Zv,Z1,eC];refine zM 7 (n:=43) D6 ⟨by show 0<=v1/3%3;omega,by show v1/3%3<3;omega⟩ (by show 0+L.length<=900;omega) λC7 y7 D7=>?_;have ob:=mR (B:=⟨bd,v1/3%3,sp⟩) (s:=s) (L:=L) h gx hn hx (by rw[hc];omega) lc;generalize gen Gx Xy ⟨bd,v1/3%3,sp⟩ 7 L s=tb at ob |-;clear D7 y7;refine⟨gS,λf z=>⟨gS,λg p=>⟨gS,λi q=>⟨gS,λq4 t=>?_⟩⟩⟩⟩;have y2:=Ex.new (o:=.lst [.int 0]) p;have y3:=Ex.new (o:=.lst [.int 0]) q;have w:=Ex.new (o:=.lst [.ref f,.ref g,.ref i]) t;obtain⟨D,hd,u⟩:∃D,Nr [T.ref f,.ref g,.ref i] (v1%3)=some (.ref D)/\up (up (up (up C7 f (.lst [.int 1])) g (.lst [.int 0])) i (.lst [.int 0])) q4 (.lst [.ref f,.ref g,.ref i]) D=some (.lst ((ie (v1%3)).map T.int)):=by
  have r3:v1%3=0\/v1%3=1\/v1%3=2:=by omega
  rcases r3 with r | r | r<;>rw[r]
  ·exact⟨_,Yj,(y2.trans (y3.trans w)) _ _ Zf⟩
  ·exact⟨_,Xu,(y3.trans w) _ _ Zf⟩
  ·exact⟨_,Pm,w _ _ Zf⟩
 refine⟨_,FQ,by decide,_,_,Zf,hd,?_⟩;generalize up (up (up (up C7 f (.lst [.int 1])) g (.lst [.int 0])) i (.lst [.int 0])) q4 (.lst [.ref f,.ref g,.ref i])=C8 at u;clear y2 y3 w z p q t;have E:ie (v1%3)=[1]\/ie (v1%3)=[0]:=by
  unfold ie;split
  ·exact .inl FQ
  ·exact .inr FQ
 generalize ie (v1%3)=o at*;refine⟨_,FQ,?_⟩;dsimp only[Zv,Z1,eC];refine Px (n:=3) Y λC9 r1 x9 A_ e1=>?_;have d9:=x9 _ _ u;refine⟨gS,λq5 G=>?_⟩;have l:=Ex.new (o:=.lst []) G;refine⟨_,_,l _ _ e1,Zf,λ_=>⟨Wp,Od⟩,_,FQ,Zn ?_⟩;have d5:=l _ _ d9;generalize up C9 q5 (.lst [])=B_ at d5;refine⟨_,FQ,?_⟩;dsimp only[Zv,Z1,eC];refine Px (n:=3) ob λC_ r2 H DO e2=>?_;have d6:=H _ _ d5;have eo:Qf (o.map T.int) (o.map T.int)=true:=by rcases E with e | e<;>rw[e]<;>decide
 refine⟨_,FQ,_,_,e2,d6,λ_=>⟨Wp,Wp⟩,_,FQ,?_⟩;rw[eo];refine Zn ?_;refine⟨_,FQ,?_⟩;dsimp only[Zv,Z1,eC];refine Px (n:=3) Y λI r3 N D_ e3=>?_;have d7:=N _ _ d6;refine⟨gS,λq6 Q=>?_⟩;have x6:=Ex.new (o:=.lst []) Q;refine⟨_,_,x6 _ _ e3,Zf,λ_=>⟨Wp,Od⟩,?_⟩;have d8:=x6 _ _ d7;generalize up I q6 (.lst [])=E_ at d8;refine⟨_,FQ,Yb ?_⟩;refine⟨_,FQ,?_⟩;dsimp only[Zv,Z1,eC];refine Px (n:=3) ob λF_ r4 U G_ e4=>?_;refine⟨_,FQ,_,_,e4,U _ _ d8,λ_=>⟨Wp,Wp⟩,?_⟩;rw[eo];rfl
end
def law_true (ns:List Int)(A_:ns.length<=63):Jo pr 60 fk [.cl (ns.map T.int)] (λ_=>none) (λv _=>v=.bl true) (λ_ _=>False):=by
 refine iF FQ ?_;unfold w_law jX;refine⟨_,FQ,_,FQ,λQ b=>⟨_,FQ,_,Zf,λp2 a=>?_⟩⟩;rw[K8] at a |-;dsimp only[Zv];refine vE (n:=58) Zf λv1 C1=>?_;clear b a;refine⟨_,FQ,_,FQ,_,FQ,λQ b=>⟨_,FQ,_,Zf,λp2 a=>?_⟩⟩;rw[K8] at a |-;dsimp only[Zv];refine vE (n:=58) Zf λv2 C2=>?_;clear b a;refine⟨_,FQ,_,FQ,_,FQ,λQ b=>⟨_,FQ,_,Zf,λp2 a=>?_⟩⟩;rw[K8] at a |-;dsimp only[Zv];refine vE (n:=58) Zf λE Y=>?_;clear b a;refine⟨_,FQ,_,FQ,_,FQ,λp5 G=>⟨_,_,FQ,Zf,λp6 j=>?_⟩⟩;rw[K8] at j |-;rw[<-DW];have p:(Ep ns (some 3) (some 43)).length<=40:=by
  unfold Ep;rw[YM,FL];have:HT.sIx ns.length ns.length (some 43)<=43:=by
   have:=HT.sIx_nat ns.length ns.length 43;rw[show((43:Nat):Int)=43 from rfl] at this;omega
  have:HT.sIx ns.length 0 (some 3)=min 3 ns.length:=HT.sIx_nat ns.length 0 3;omega
 generalize Ep ns (some 3) (some 43)=L at p j |-;have l:up (up Y p5 (.lst (L.map T.int))) p6 (.lst (L.reverse.map T.int)) p6=some (.lst (L.reverse.map T.int)):=Zf;generalize up (up Y p5 (.lst (L.map T.int))) p6 (.lst (L.reverse.map T.int))=q at l;clear G j;have h0:0<=E%100:=by omega
 have h1:E%100<1000000000000000000:=by omega
 have B_:=I0 h0 h1;refine⟨_,FQ,by decide,.inl ⟨_,FQ,jm h0 h1,V2 (by show 1+_<=_;omega),?_⟩⟩;generalize H:("q":Str)++Str.ofString (toString (E%100))=sp;refine λbx m=>⟨gS,_,FQ,_,FQ,gS,λna d=>⟨_,FQ,_,FQ,_,FQ,_,FQ,_,FQ,?_⟩⟩;have nb:bx≠na:=cne Zf d;refine⟨by rw[Zk nb];exact Zf,ZNB FQ,?_⟩;change Nq 6 (.ref bx) _ (up (up (up q bx (.dic [])) na (.lst ([sp].map T.str))) bx (.dic (Vy [] (Ib ⟨.num 0,0,sp⟩ 0 na)))) _ _;rw[oN];change Nq 6 (.ref bx) _ (sv q bx na ⟨.num 0,0,sp⟩ 0 [sp]) _ _;have u:Ex q (sv q bx na ⟨.num 0,0,sp⟩ 0 [sp]):=su m d;refine⟨_,FQ,_,FQ,_,u _ _ l,λp7 f=>?_⟩;have D6:=oM (L:=L) d f;have x6:=u.trans (Ex.new (o:=.lst (L.reverse.map T.int)) f);have n1:p6≠p7:=X2 (u _ _ l) f;have n2:p6≠bx:=X2 l m;have n3:p6≠na:=X2 (C:=up q bx (.dic [])) (by rw[Zk n2];exact l) d;have A6:=x6 _ _ l;generalize up (sv q bx na ⟨.num 0,0,sp⟩ 0 [sp]) p7 (.lst (L.reverse.map T.int))=C6 at D6 A6 |-;clear u x6 f l m d nb;refine⟨_,FQ,?_⟩;dsimp only[Zv,Z1,eC];refine zM 7 (n:=43) D6 ⟨by show(0:Int)<=0;decide,by show(0:Int)<3;decide⟩ (by show 1+L.length<=900;omega) λC7 y7 I=>?_;have A7:=y7 _ _ n1 n2 n3 A6;have s:Oc 46 (gen Gx Xy ⟨.num 0,0,sp⟩ 7 L 0) []:=qz (by show 1<=61;decide) p;generalize gen Gx Xy ⟨.num 0,0,sp⟩ 7 L 0=tg at s |-;have nz:("z":Str)∉[sp]++(Y9 Xy 7 L).2.2:=λz=>by
  rcases XS.mp z with z | z
  ·exact d4 (H.trans (XQ.mp z).symm)
  ·obtain⟨c,e⟩:=Pt 7 L _ z;exact dX c e.symm
 have ln:=Nz (nm:=Xy) 7 L;refine⟨_,FQ,by decide,_,FQ,⟨by decide,by decide⟩,_,FQ,_,_,_,_,FQ,FQ,.inl I.hb,zp,?_⟩;dsimp only[Zv,eC];refine rM (n:=58) I.hn nz (by rw[AY,BC];omega) λx hx t=>⟨_,FQ,⟨by decide,by decide⟩,⟨by decide,by decide,by decide⟩,by decide,?_⟩;dsimp only[Zv,eC,Oz];refine hV (n:=58) (by omega) t λw C8 x8 U=>?_;refine⟨_,FQ,⟨by decide,by decide⟩,by decide,_,FQ,⟨by decide,by decide⟩,_,FQ,⟨by decide,by decide⟩,?_⟩;dsimp only[Zv,eC,Oz,M7,B6];refine rL (n:=56) (by omega) λA C9 x9 W=>?_;have g:=x9 _ _ (x8 _ _ I.hb);have B:=x9 _ _ (x8 _ _ A7);have h:sp≠x:=λe=>hx (List.mem_append_left _ (by rw[e];simp));have i:∀y∈(Y9 Xy 7 L).2.2,y≠x:=λy hy e=>hx (XT _ (by rw[<-e];exact hy));have r3:v1%3=0\/v1%3=1\/v1%3=2:=by omega
 rcases r3 with r | r | r
 ·refine⟨_,FQ,by decide,Yt (v:=false) (by rw[r];rfl) ⟨_,FQ,Zn ?_⟩⟩;refine⟨_,FQ,by decide,Yt (v:=false) (by rw[r];rfl) ⟨_,FQ,Zn ?_⟩⟩;exact yS g B p s (by rw[r];exact h9 W) t h i
 ·refine⟨_,FQ,by decide,Yt (v:=true) (by rw[r];rfl) ⟨_,FQ,Yb ⟨_,FQ,?_⟩⟩⟩;refine⟨_,FQ,by decide,Yt (v:=false) (by rw[r];rfl) ⟨_,FQ,Zn ?_⟩⟩;exact yS g B p s (by rw[r];exact hJ U) t h i
 ·refine⟨_,FQ,by decide,Yt (v:=false) (by rw[r];rfl) ⟨_,FQ,Zn ?_⟩⟩;refine⟨_,FQ,by decide,Yt (v:=true) (by rw[r];rfl) ⟨_,FQ,Yb ?_⟩⟩;refine⟨_,FQ,_,FQ,gS,_,FQ,_,FQ,gS,gS,λpl N=>?_⟩;have D:=Ex.new (o:=.lst [tt (.first A w),tt (.first w A)]) N;have e2:v1/3%2=0\/v1/3%2=1:=by omega
  rcases e2 with e | e
  ·refine⟨_,FQ,⟨by decide,by decide⟩,by decide,_,_,Zf,(by rw[e];exact Yj),?_⟩;exact yS (bd:=.first A w) (D _ _ g) (D _ _ B) p s (by rw[r];exact dB W U) t h i
  ·refine⟨_,FQ,⟨by decide,by decide⟩,by decide,_,_,Zf,(by rw[e];exact Xu),?_⟩;exact yS (bd:=.first w A) (D _ _ g) (D _ _ B) p s (by rw[r];exact dA W U) t h i
end K25
open PySem PySem.W PyProof.Rows
def PySem.W.Fast.tw5229194824585304196:=True
def PySem.W.Fast.tw5516450233201328669:=True
def PySem.W.Fast.tw14477802962159327682:=True
def PySem.W.Fast.tw6223880500020628024:=True
def PySem.W.Fast.tw12369564416507472211:PySem.Program:=CL
def PySem.W.Fast.te12369564416507472211:CL=PySem.W.Fast.tw12369564416507472211:=rfl
def PySem.W.Fast.tw16239229727686755377:=True
def PySem.W.Fast.tw11422475258487434781:=True
def PySem.W.Fast.tw14861093230328047774:=True
def PySem.W.Fast.tw8778241145860930109:=True
def PySem.W.Fast.tw11453502046043597989:=True
def PySem.W.Fast.tw6230015129236006482:=True
def PySem.W.Fast.tw12693218732087081713:=True
def PySem.W.Fast.tw8768763930907991955:=True
def PySem.W.Fast.tw16964083435191058875:=True
def PySem.W.Fast.tw8781567643956711610:=True
def PySem.W.Fast.tw4307410279772027656:=True
def PySem.W.Fast.tw2160178109558914360:=True
def PySem.W.Fast.tw7217624701736126772:=True
def PySem.W.Fast.tw202839904365450963:=True
def PySem.W.Fast.tw4283398728512752944:=True
def PySem.W.Fast.tw1874183186494064133:=True
def PySem.W.Fast.tw2109608142702154305:=True
def PySem.W.Fast.tw6268364156116350328:=True
def PySem.W.Fast.tw9434361679522785291:=True
def PySem.W.Fast.tw9378182755885843196:=True
def PySem.W.Fast.tw7623627982364860336:=True
def PySem.W.Fast.tw14109755502179417013:=True
def PySem.W.Fast.tw5172465487984630386:=True
def PySem.W.Fast.tw12728399569438289247:=True
def PySem.W.Fast.tw2251368683002814527:=True
def PySem.W.Fast.tw12162254759737339:=True
def PySem.W.Fast.tw1089296322363352057:=True
def PySem.W.Fast.tw12438778398280480191:=True
def PySem.W.Fast.tw9281256500424048225:=True
def PySem.W.Fast.tw11665497907153583377:=True
def PySem.W.Fast.tw15189140616583067327:=True
def PySem.W.Fast.tw7167870739353457477:=True
def PySem.W.Fast.tw7122272134706576768:=True
def PySem.W.Fast.tw8250571319429552660:=True
def PySem.W.Fast.tw17534171122576423451:=True
def PySem.W.Fast.tw5141337220438905880:=True
def PySem.W.Fast.tw3546557471554687772:=True
def PySem.W.Fast.tw16828854491489472006:=True
def PySem.W.Fast.tw1489716658852619445:=True
def PySem.W.Fast.tw9982753663436765897:=True
def PySem.W.Fast.tw14338953734455895771:=True
def PySem.W.Fast.tw14002728038409397525:=True
def PySem.W.Fast.tw6447905637608529152:=True
def PySem.W.Fast.tw4755344427425679441:=True
def PySem.W.Fast.tw18436452559848510013:=True
def PySem.W.Fast.tw18152604891935392456:=True
def PySem.W.Fast.tw2889322035969195705:=True
def PySem.W.Fast.tw3583860685228471944:=True
def PySem.W.Fast.tw17570082403694305966:=True
def PySem.W.Fast.tw9322588190181384911:=True
def PySem.W.Fast.tw6219264334383889824:=True
def PySem.W.Fast.tw6284413188412143414:=True
def PySem.W.Fast.tw15619244907342900440:=True
def PySem.W.Fast.tw4480842566932690006:=True
def PySem.W.Fast.tw4854336577584675228:=True
def PySem.W.Fast.tw8701004182613771229:=True
def PySem.W.Fast.tw13380824304069092124:=True
def PySem.W.Fast.tw15092999710213504668:=True
def PySem.W.Fast.tw7231118922785251618:=True
def PySem.W.Fast.tw1359828636737075692:=True
def PySem.W.Fast.tw5338224467168309763:=True
def PySem.W.Fast.tw11897573394435964511:=True
def PySem.W.Fast.tw5180222965612896631:=True
def PySem.W.Fast.tw1618290714201483383:=True
def PySem.W.Fast.tw7425213176432839905:=True
def PySem.W.Fast.tw3522308374147428543:=True
def PySem.W.Fast.tw9899031438197478445:=True
def PySem.W.Fast.tw2125765996610645820:=True
def PySem.W.Fast.tw5636583169237798718:=True
def PySem.W.Fast.tw4404980101983113097:=True
def PySem.W.Fast.tw11408108404970635222:=True
def PySem.W.Fast.tw5409704769283803184:=True
def PySem.W.Fast.tw14521098710580961347:=True
def PySem.W.Fast.tw11279966744911561026:=True
def PySem.W.Fast.tw8924161748157088602:=True
def PySem.W.Fast.tw9911386518585196743:=True
def PySem.W.Fast.tw10996213684618402982:=True
def PySem.W.Fast.tw4075504923805869980:=True
def PySem.W.Fast.tw10067189834379965091:=True
def PySem.W.Fast.tw16061468449129725792:=True
def PySem.W.Fast.tw2692669084754439579:=True
def PySem.W.Fast.tw10279035731950426134:=True
def PySem.W.Fast.tw15791037126350566254:=True
def PySem.W.Fast.tw1854743170444588828:=True
def PySem.W.Fast.tw18110020168333025811:=True
def PySem.W.Fast.tw18011871114681965974:=True
def PySem.W.Fast.tw15308396459633376060:=True
set_option tactic.hygienic true
set_option maxRecDepth 100000 in
set_option maxHeartbeats 0 in
theorem PySem.Challenge.cw_idlegraph_k25_no_kind_and_free_names_holds : PySem.Challenge.rw_idlegraph_k25_no_kind_and_free_names.Holds := by
 w_on;o_law;k_head;(case hw=>w_witness2)
 k_fill
 refine L2.walk_ofK (l:=PySem.Challenge.rw_idlegraph_k25_no_kind_and_free_names) (n:=63) (k:=60) (x:="_law_script") (CX:=L2.CX0) (sp:=λK=>WL.spW K K25.pr 60 34) rfl (by decide) rfl ⟨rfl,by decide,by decide⟩ (λw h Y=>PySem.W.kIn_of Y) ?F (λK H a ns hl hO hS=>WL.law_sp hO hS (K25.law_true ns hl)) (λ_ _ _ _ z=>z)
 case F=>
  intro w mg fa h KX G hmg
  refine' K25.all_mk KX G hmg ?Qa ?Qb ?Qc ?Qd ?Qe ?Qf ?Qg ?Qh ?Qi ?Qj ?Qk ?Ql ?Qm ?Qn ?Qo ?Qp ?Qq ?Qr ?Qs ?Qt ?Qu ?Qv ?Qw ?Qx ?Qy ?Qz ?Q0 ?Q1 ?Q2 ?Q3 ?Q4 ?Q5 ?Q6 ?Q7 ?Q8 ?Q9 ?Ra ?Rb ?Rc ?Rd ?Re ?Rf ?Rg ?Rh ?Ri ?Rj ?Rk ?Rl ?Rm ?Rn ?Ro ?Rp ?Rq ?Rr ?Rs ?Rt ?Ru ?Rv ?Rw ?Rx ?Ry ?Rz ?R0 ?R1 ?R2 ?R3 ?R4 ?R5 ?R6 ?R7 ?R8 ?R9 ?Sa ?Sb ?Sc
  case Qa|Qc|Qs|Qt|Qu|Qv|Qw|Qx|Qy|Qz|Q0|R0|R1|R2|R3|R4|R5|R6|R7|R8|R9|Sa|Sb|Sc=>k_is
  (case Qb=>k_exc)
  (case Qd=>k_exc)
  (case Qe=>exact⟨_,by k_is,by kts_exm⟩)
  (case Qf=>exact⟨_,by k_is,by kts_exm⟩)
  (case Qg=>exact⟨by k_is,by k_is,by k_is,by k_is,by k_is,by k_is,by k_is⟩)
  (case Qh=>exact⟨by k_is,by k_is,by k_is,by k_is,by k_is,by k_is,by k_is⟩)
  (case Qi=>exact⟨_,by k_is,by kit_is,by kit_is⟩)
  (case Qj=>exact⟨_,by k_is,by kit_is,by kit_is⟩)
  (case Qk=>exact⟨_,by k_is,by kit_is,by kit_is⟩)
  (case Ql=>exact⟨_,by k_is,by kit_is,by kit_is⟩)
  (case Qm=>exact⟨_,by k_is,by kit_is,by kit_is⟩)
  (case Qn=>exact⟨_,by k_is,by kit_is,by kit_is⟩)
  (case Qo=>exact⟨_,by k_is,by kit_is,by kit_is⟩)
  (case Qp=>exact⟨_,by k_is,by kit_is,by kit_is⟩)
  (case Qq=>exact⟨_,by k_is,by kit_is,by kit_is⟩)
  (case Qr=>exact⟨by k_is,by kit_is,by kit_is⟩)
  case Q1|Q2|Q3|Q4|Q5|Rd|Re|Rf|Rg|Rh|Ri|Rj|Rk|Rl|Rm|Rn|Ro|Rp|Rq|Rr|Rs|Rt|Ru|Rv|Rw|Rx|Ry|Rz=>exact⟨_,_,by k_is,⟨_,_,_,_,_,_,_,_,_,rfl,by k_is,by k_is⟩,by k_is⟩
  case Q6|Q7|Q8|Q9|Ra|Rb|Rc=>exact⟨_,_,⟨by k_is,by k_is,by k_is⟩,⟨_,_,_,_,_,_,_,_,_,rfl,by k_is,by k_is⟩,by k_is⟩