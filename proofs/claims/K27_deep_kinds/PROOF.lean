import PyProof.Rows.All
import Wide.All
import OpenK.AllK
import Wide.FinOn
import Lean
import PyProof.EqAt
import PyProof.EqKinds
import PyProof.TupleCall
import KE.KRevIter
import KE.KDictList
import PyProof.ZipIter
import PyProof.Draws
import PyProof.DictWalks
import PyProof.AttrMiss
import PyProof.FactsAll.zip_1
import KE.KDictOf
import PyProof.Rows.FStr
import PyProof.AutoSeq1
import PyProof.EnumMake
import PyProof.CallType
import PyProof.Rows.CallKwBuiltin
import PyProof.DictUpdate
import PyProof.NoPylong
import KE.KDictMeth
import PyProof.DictItemsLoops
import PyProof.SumWalk
import PyProof.SumWalkG
import PyProof.Rows.SumGenD
import PyProof.StrBlockH
import KE.KIntText
import KE.IntTextLaws
import OpenK.KTop
import PyProof.ExcBaseAll.ValueError
import KE.KTryMore
import PyProof.ReprStr
import OpenK.KDescr
import KE.KIsAll
import PyProof.ExcArgs
import PyProof.RulesAs
import PyProof.Rows.Range3
import PyProof.Rows.StrIntSpec
import KE.RegKTryMore
import KE.RegKIsAll
import PySem.Challenge.RW_idlegraph_k27_deep_kinds
set_option Elab.async false
set_option linter.all false
set_option maxRecDepth 100000
set_option maxHeartbeats 4000000
set_option genSizeOf false
set_option compiler.extract_closed false
def XA:=@PySem.wpAny_bind
def XB:=@PySem.wpAny_pure
def XC:=@PySem.Heap.get?_push_of_some
def XD:=@PySem.Heap.lt_size
def XE:=@Nat.le_refl
def XF:=@PySem.Heap.get?_push_size
def XG:=@Nat.lt_of_lt_of_le
def XH:=@Nat.ne_of_lt
def XI:=@List.length_map
def XJ:=@List.size_toArray
def XL:=@List.map_append
def XM:=@List.getElem?_map
def XN:=@Nat.le_trans
def XO:=@Nat.zero_le
def XQ:=@List.mem_singleton
def XR:=@List.mem_map
def XS:=@List.mem_append
def XT:=@List.mem_append_right
def XU:=@beq_self_eq_true
def XV:=@List.mem_cons_of_mem
def XW:=@Int.le_refl
def XX:=@if_neg
def XY:=@if_pos
def XZ:=@PySem.F.plainAttrs_list
def YA:=@PySem.F.type_list_append
def YB:=@PySem.F.slot_list_append
def YC:=@PySem.Str.length_append
def YD:=@List.take_add_one
def YE:=@List.map_map
def YF:=@List.length_cons
def YG:=@decide_eq_false
def YH:=@Option.some.inj
def YI:=@List.map_cons
def YJ:=@Bool.false_ne_true
def YK:=@List.append_nil
def YL:=@List.append_assoc
def YM:=@List.length_take
def YN:=@List.getElem_mem
def YO:=@Int.emod_nonneg
def ZNB {a b:Nat} (h:Nat.ble a b=true):a<=b:=Nat.le_of_ble_eq_true h
def ZM {α:Type}{x a:α}{l:List α}:x∈a::l↔x=a\/x∈l:=List.mem_cons
def ZN {α:Type}{x:α}:x∈([]:List α)↔False:=⟨List.not_mem_nil,False.elim⟩
abbrev WY:=PySem.W.Frag
abbrev WW:=PySem.Expr
abbrev WV:=PySem.Stmt
abbrev WU:=PySem.Heap
abbrev WR:=PySem.Shared
abbrev WQ:=PySem.Value
abbrev WP:=PySem.Addr
abbrev WO:=PySem.Program
abbrev WN:=PySem.World
abbrev WM:=PySem.Around
abbrev VZ:=PySem.FuncData
def BA:=@List.length_append
def BB:=@List.getElem?_eq_some_iff
def BC:=@List.mem_cons_self
def BD:=@List.mem_cons
def BE:=@List.mem_append_left
def BF:=@List.length_singleton
def BG:=@List.getElem?_eq_getElem
def BH:=@List.mem_of_getElem?
def BI:=@PyProof.Rows.callWith_type1
def BJ:=@Nat.lt_irrefl
def BK:=@Nat.lt_succ_self
def BL:=@Nat.le_add_right
def BM:=@List.getElem?_append_right
def BN:=@List.getElem?_zip_eq_some
def BO:=@List.getElem?_append_left
def BP:=@List.nodup_cons
def BQ:=@PySem.F.slot_zip_next
def BR:=@PySem.mem_of_lookup
def BS:=@List.map_congr_left
def BU:=@List.length_range
def BV:=@PySem.Calls.spliced_cons
def BW:=@Int.emod_lt_of_pos
def BX:=@List.filter_cons_of_pos
def BY:=@List.all_eq_true
def BZ:=@List.getElem?_set_self
def CA:=@List.nodup_nil
def CB:=@Bool.and_eq_true
def CC:=@List.take_length
def CD:=@PySem.Heap.size_push
def CF:=@Nat.lt_succ_of_lt
def CG:=@List.reverse_cons
def CH:=@PySem.W.mg_none_of
def CI:=@List.mem_range
def CJ:=@PyProof.Rows.slot_tuple_getitem
def CK:=@Nat.le_of_lt
def CL:=@List.getElem?_set_ne
def CM:=@List.length_set
def CO:=@List.filter_cons_of_neg
def CP:=@List.length_reverse
def CQ:=@List.of_mem_zip
def CT:=@List.length_zip
def CU:=@PySem.F.slot_tuple_iterator_next
def CV:=@PySem.Calls.spliced_nil
def CW:=@Option.isSome_map
def CY:=@PySem.F.args_zip_next_1
def CZ:=@List.drop_eq_getElem_cons
def DA:=@Nat.ne_of_gt
def DC:=@List.lookup_cons
def DD:=@PySem.F.entry_zip_next
def DE:=@List.any_eq_true
def DF:=@Nat.not_lt_of_le
def DG:=@Nat.add_lt_add_left
def DH:=@PySem.Str.length_append
def DI:=@Nat.lt_add_of_pos_right
def DJ:=@List.any_cons
def DK:=@List.mem_filterMap
def DL:=@PySem.Heap.get?_update_other
def DN:=@PySem.Calls.callWith_builtin
def DP:=@PySem.Challenge.pw_idlegraph_k27_deep_kinds
def DQ:=@PySem.Heap.get?_update_self
def DR:=@Array.getElem?_toList
def DS:=@Nat.sub_self
def DT:=@List.not_mem_nil
def DU:=@PySem.Calls.evalArgs_plain
def DV:=@List.map_reverse
def DW:=@List.mem_reverse
def DX:=@List.getElem?_range
def DY:=@List.replicate_zero
def DZ:=@PySem.F.plain_extend_loop
def EA:=@List.sum_append
def EB:=@Nat.not_lt_zero
def EC:=@PySem.F.args_tuple_add_2
def ED:=@Nat.lt_of_le_of_lt
def EF:=@PySem.F.slot_list_extend
def EG:=@PySem.F.type_list_extend
def EH:=@PySem.boot_len
def EI:=@Nat.mod_lt
def EJ:=@PySem.F.entry_tuple_add
def EK:=@List.length_eq_zero_iff
def EL:=@List.foldl_append
def EM:=@List.nodup_append
def EN:=@Nat.le_succ_of_le
def EO:=@List.mem_finRange
def EQ:=@PySem.F.slot_tuple_add
def ER:=@List.take_of_length_le
def ES:=@Nat.le_of_succ_le_succ
def ET:=@List.sum_cons
def EU:=@List.length_drop
def EV:=@List.drop_length
def EW:=@List.length_replicate
def EX:=@List.getElem?_eq_none
def EY:=@List.mem_iff_getElem?
def EZ:=@PySem.F.slot_list_pop
def FA:=@PySem.F.type_list_pop
def FD:=@List.range_succ
def FE:=@List.foldl_cons
def FF:=@List.length_finRange
def FG:=@List.find?_cons
def FH:=@List.filterMap_cons
def FI:=@Nat.add_le_add_left
def FJ:=@List.length_pos_iff
def FK:=@PySem.F.args_tuple_iterator_next_1
def FL:=@PySem.F.slot_dict_setdefault
def FM:=@PySem.W.hideAll_get
def FN:=@List.flatten_cons
def FO:=@List.find?_isSome
def FP:=@PySem.W.mg_of
def FQ:=@PySem.W.callWith_K
def FR:=@List.map_nil
def FS:=@Nat.add_comm
def FT:=@List.length_nil
def FU:=@List.nil_append
theorem FV{α:Sort u}{a:α}:a=a:=rfl
namespace L2
open PySem PySem.Spec PyProof.Rows
abbrev Z2:=Sum Int Str
def Lx:Z2->WQ->Bool
 | .inl k,v=>Value.isInt k v
 | .inr x,v=>Value.isStrOf x v
def gW (w:WN):Z2->Int
 | .inl k=>hashInt k
 | .inr x=>hashStr w x
def Y1:∀{k:Z2} {v:WQ},Lx k v=true->(∃i t,k=Sum.inl i/\v=Value.int i t)\/(∃x t,k=Sum.inr x/\v=Value.str x t)
 | .inl i,v,h=>by
  obtain⟨t,e⟩:=Value.isInt_shape (k:=i) (v:=v) h;exact .inl ⟨i,t,FV,e⟩
 | .inr x,v,h=>by
  obtain⟨t,e⟩:=Value.isStrOf_shape (x:=x) (v:=v) h;exact .inr ⟨x,t,FV,e⟩
def jj (i:Int)(t:Tok):Lx (.inl i) (.int i t)=true:=by simp[Lx,Value.isInt]
def ji (x:Str)(t:Tok):Lx (.inr x) (.str x t)=true:=by simp[Lx,Value.isStrOf]
def oE (a b:Int):decide ((Sum.inl a:Z2)=Sum.inl b)=(a==b):=by
 by_cases e:a=b
 ·subst e;simp
 ·have h:¬(Sum.inl a:Z2)=Sum.inl b:=λq=>e (Sum.inl.inj q);rw[YG h];exact(beq_eq_false_iff_ne.mpr e).symm
def oA (a b:Str):decide ((Sum.inr a:Z2)=Sum.inr b)=decide (a=b):=by
 by_cases e:a=b
 ·subst e;simp
 ·have h:¬(Sum.inr a:Z2)=Sum.inr b:=λq=>e (Sum.inr.inj q);rw[YG h,YG e]
def oC (a:Int)(b:Str):decide ((Sum.inl a:Z2)=Sum.inr b)=false:=YG (λq=>nomatch q)
def oB (a:Str)(b:Int):decide ((Sum.inr a:Z2)=Sum.inl b)=false:=YG (λq=>nomatch q)
def Yw (prog:WO)(w:WN):PySem.KeyKind prog w Z2 where
 is:=Lx
 hash:=gW w
 inj:=λv a b ha hb=>by
  rcases Y1 ha with⟨i,t,rfl,rfl⟩ | ⟨x,t,rfl,rfl⟩
  ·rcases Y1 hb with⟨j,u,rfl,e⟩ | ⟨y,u,rfl,e⟩
   ·injection e with e1 _;rw[e1]
   ·exact nomatch e
  ·rcases Y1 hb with⟨j,u,rfl,e⟩ | ⟨y,u,rfl,e⟩
   ·exact nomatch e
   ·injection e with e1 _;rw[e1]
 byValue:=λk v h=>by
  rcases Y1 h with⟨i,t,rfl,rfl⟩ | ⟨x,t,rfl,rfl⟩<;>rfl
 pyHash:=λhv h=>by
  rcases Y1 hv with⟨i,t,rfl,rfl⟩ | ⟨x,t,rfl,rfl⟩
  ·exact wpAny_pyHash_int h
  ·exact wpAny_pyHash_str h
 eqBool:=λhu hv h=>by
  rcases Y1 hu with⟨i,t,rfl,rfl⟩ | ⟨x,t,rfl,rfl⟩
  ·rcases Y1 hv with⟨j,u,rfl,rfl⟩ | ⟨y,u,rfl,rfl⟩
   ·rw[oE] at h;exact wpAny_eqBool_int h
   ·rw[oC] at h;exact SeqAt.EqAt.int_str i t y u _ _ _ _ h
  ·rcases Y1 hv with⟨j,u,rfl,rfl⟩ | ⟨y,u,rfl,rfl⟩
   ·rw[oB] at h;exact SeqAt.EqAt.str_int x t j u _ _ _ _ h
   ·rw[oA] at h;exact wpAny_eqBool_str h
 «strs»:=λk x t v h=>by
  rcases Y1 h with⟨i,u,rfl,e⟩ | ⟨y,u,rfl,e⟩
  ·exact nomatch e
  ·injection e with e1 _
   subst e1
   cases v<;>rfl
def Aq (prog:WO)(w:WN)(k:Z2)(v:WQ):(Yw prog w).is k v=Lx k v:=rfl
def D9 (prog:WO)(w:WN)(i:Int)(t:Tok):(Yw prog w).is (.inl i) (.int i t)=true:=jj i t
def D8 (prog:WO)(w:WN)(x:Str)(t:Tok):(Yw prog w).is (.inr x) (.str x t)=true:=ji x t
inductive V where
 | non | bl (b:Bool) | int (i:Int) | str (x:Str) | byt (b:Array UInt8) | flt (b:UInt64) | ref (a:WP) | ty (n:String)
 deriving DecidableEq
def Z3:V->WQ->Prop
 | .non,u=>u=Value.none
 | .bl b,u=>u=Value.bool b
 | .int i,u=>∃t,u=Value.int i t
 | .str x,u=>∃t,u=Value.str x t
 | .byt b,u=>∃t,u=Value.bytes b t
 | .flt b,u=>∃t,u=Value.float b t
 | .ref a,u=>u=Value.ref a
 | .ty n,u=>u=Value.type n
abbrev Z0:List V->List WQ->Prop:=Paired Z3
def Z0.length {xs:List V}{us:List WQ}(r:Z0 xs us):xs.length=us.length:=Paired.length r
def Z0.get:∀{xs:List V} {us:List WQ} {i:Nat} {x:V},Z0 xs us->xs[i]?=some x->∃u,us[i]?=some u/\Z3 x u
 | _,_,_,_,.nil,e=>by simp at e
 | _,_,0,_,.cons r _,e=>by simp at e;subst e;exact⟨_,FV,r⟩
 | _,_,i+1,x,.cons _ t,e=>by
  obtain⟨u,h1,h2⟩:=Z0.get (i:=i) (x:=x) t (by simpa using e);exact⟨u,by simpa using h1,h2⟩
def Z0.set {x:V}{u:WQ}(r:Z3 x u):∀{xs:List V} {us:List WQ} (i:Nat),Z0 xs us->Z0 (xs.set i x) (us.set i u)
 | _,_,_,.nil=>.nil
 | _,_,0,.cons _ t=>.cons r t
 | _,_,i+1,.cons q t=>.cons q (Z0.set r i t)
def Z0.append:∀{xs ys:List V} {us ws:List WQ},Z0 xs us->Z0 ys ws->Z0 (xs++ys) (us++ws)
 | _,_,_,_,.nil,s=>s
 | _,_,_,_,.cons r t,s=>.cons r (Z0.append t s)
def Z0.take:∀{xs:List V} {us:List WQ} (n:Nat),Z0 xs us->Z0 (xs.take n) (us.take n)
 | _,_,0,_=>.nil
 | _,_,_+1,.nil=>.nil
 | _,_,n+1,.cons r t=>.cons r (Z0.take n t)
def Z0.drop:∀{xs:List V} {us:List WQ} (n:Nat),Z0 xs us->Z0 (xs.drop n) (us.drop n)
 | _,_,0,r=>r
 | _,_,_+1,.nil=>.nil
 | _,_,n+1,.cons _ t=>Z0.drop n t
def Qp:Option V->Option WQ->Prop
 | some v,some u=>Z3 v u
 | none,none=>True
 | _,_=>False
def KV {κ:Type}:List (κ×V)->List (κ×WQ)->Prop:=Paired λ(p:κ×V) (q:κ×WQ)=>p.1=q.1/\Z3 p.2 q.2
def kV:Z2->V
 | .inl i=>.int i
 | .inr x=>.str x
inductive HO where
  | lst (xs:List V)
  | tup (xs:List V)
  | dK (kvs:List (Z2×V)) | dT (kvs:List (List Z2×V))
  | set (S:Int->Bool) (n:Nat)
  | ins (C dx:WP) (fs:List (Str×V))
  | own (x:WP)
  | xd (fs:List (Str×V))
  | met (f x:WP)
  | rng (lo hi:Int)
  | frz (o:Obj) (u:HO)
  | tbl (ps:Array WQ)
  | ext (φ:WU->Prop)
abbrev Hp:=WP->Option HO
def Yo (H:Hp)(a:WP)(o:HO):Hp:=λb=>if b=a then some o else H b
def Z7 {H:Hp}{a:WP}{o:HO}:Yo H a o a=some o:=by unfold Yo;rw[XY rfl]
def Z1 {H:Hp}{a b:WP}{o:HO}(h:b≠a):Yo H a o b=H b:=by unfold Yo;rw[XX h]
def kz {H:Hp}{a b:WP}{o u:HO}(h:H a=some o)(h':H b=some u)(d:o≠u):a≠b:=by
 intro e;subst e;rw[h] at h';exact d (YH h')
def Y4 {H:Hp}{a b:WP}{o:HO}(h:H a=some o)(h':H b=none):a≠b:=by
 intro e;subst e;rw[h] at h';cases h'
section
variable (P:WO)(w:WN)
def Y2 (H:Hp)(h:WU)(a:WP):HO->Prop
 | .lst xs=>xs.length<=sizeLine/\∃(its:List WQ) (n:Nat),Z0 xs its/\h.get? a=some {cls:=.type "list",data:=.seq its.toArray n}
 | .tup xs=>xs.length<=sizeLine/\∃its:List WQ,Z0 xs its/\IsTup h a its.toArray
 | .dK kvs=>kvs.length<=sizeLine/\(a==sysModules)=false/\∃vs,KV kvs vs/\h.DictOf (Yw P w) a vs
 | .dT kvs=>kvs.length<=sizeLine/\(a==sysModules)=false/\∃xs:List (List Z2×WP×WQ),
   Paired (λ(p:List Z2×V) (q:List Z2×WP×WQ)=>p.1=q.1/\H q.2.1=some (.tup (p.1.map kV))/\Z3 p.2 q.2.2) kvs xs/\
   ∃o es ep,h.get? a=some o/\o.ExactDict/\o.data=.dict es ep/\es.toList=xs.map (entryOfKey (tupleKind (Yw P w)))/\(xs.map (·.1)).Nodup
 | .set S n=>h.SetOf (intKind P w) a S n
 | .ins C dx fs=>H dx=some (.own a)/\fs.length<=1000/\dx≠a/\h.get? a=some (W.instObj C dx)/\
   ∃mA,h.Ns1 dx mA/\(∀f,Qp (fs.lookup f) (mA f))/\PySem.Within mA (fs.map (·.1))
 | .own _=>∃o,h.get? a=some o
 | .xd fs=>∃mA,h.Ns1 a mA/\∀f,Qp (fs.lookup f) (mA f)
 | .rng lo hi=>∃t u v,h.get? a=some {cls:=.type "range",data:=.fields #[.int lo t,.int hi u,.int 1 v]}
 | .frz o u=>h.get? a=some o/\Y2 H h a u
 | .tbl ps=>h.get? a=some {cls:=.none,data:=.fields ps}
 | .met f x=>h.get? a=some (W.methodObj (.ref f) (.ref x))
 | .ext φ=>φ h/\(∃o,h.get? a=some o)/\∀h1 h2:WU,φ h1->(∀o,h1.get? a=some o->h2.get? a=some o)->φ h2
def Vy (H:Hp)(h:WU):Prop:=∀a o,H a=some o->Y2 P w H h a o
end
section
variable {P:WO}{w:WN}{H H':Hp}{h h':WU}{a:WP}{o:HO}
def Y2.lt (x:Y2 P w H h a o):a<h.objs.size:=by
 cases o with
 | lst xs=>obtain⟨_,_,_,_,e⟩:=x;exact XD e
 | tup xs=>obtain⟨_,_,_,p⟩:=x;exact p.lt
 | dK kvs=>obtain⟨_,_,_,_,o,_,_,e,_⟩:=x;exact XD e
 | dT kvs=>obtain⟨_,_,_,_,o,_,_,e,_⟩:=x;exact XD e
 | set S n=>obtain⟨o,_,_,_,e,_⟩:=x;exact XD e
 | ins C dx fs=>obtain⟨_,_,_,e,_⟩:=x;exact XD e
 | own y=>obtain⟨_,e⟩:=x;exact XD e
 | xd fs=>obtain⟨_,⟨_,_,_,e,_⟩,_⟩:=x;exact XD e
 | rng lo hi=>obtain⟨_,_,_,e⟩:=x;exact XD e
 | frz ob u=>obtain⟨e,_⟩:=x;exact XD e
 | tbl ps=>exact XD (show h.get? a=some _ from x)
 | met f y=>exact XD (show h.get? a=some _ from x)
 | ext φ=>obtain⟨_,⟨_,e⟩,_⟩:=x;exact XD e
def Paired.mapP {α β:Type}{F G:α->β->Prop}:∀{l₁:List α} {l₂:List β},Paired F l₁ l₂->(∀a b,F a b->G a b)->Paired G l₁ l₂
 | _,_,.nil,_=>.nil
 | _,_,.cons r t,f=>.cons (f _ _ r) (Paired.mapP t f)
def Y2.stay (x:Y2 P w H h a o)(k:∀b u,(b=a\/H b=some (.own a))->h.get? b=some u->h'.get? b=some u)
  (ho:∀b,H b=some (.own a)->H' b=some (.own a)) (ht:∀b xs,H b=some (.tup xs)->H' b=some (.tup xs)):Y2 P w H' h' a o:=by
 induction o with
 | lst xs=>obtain⟨z,its,n,r,e⟩:=x;exact⟨z,its,n,r,k _ _ (.inl FV) e⟩
 | tup xs=>obtain⟨z,its,r,ob,e,c⟩:=x;exact⟨z,its,r,ob,k _ _ (.inl FV) e,c⟩
 | dK kvs=>obtain⟨z,y,vs,r,ob,es,ep,e,c⟩:=x;exact⟨z,y,vs,r,ob,es,ep,k _ _ (.inl FV) e,c⟩
 | dT kvs=>
  obtain⟨z,y,xs,r,ob,es,ep,e,c⟩:=x;exact⟨z,y,xs,Paired.mapP r λp q z=>⟨z.1,ht _ _ z.2.1,z.2.2⟩,ob,es,ep,k _ _ (.inl FV) e,c⟩
 | set S n=>obtain⟨ob,es,ep,t,e,c⟩:=x;exact⟨ob,es,ep,t,k _ _ (.inl FV) e,c⟩
 | ins C dx fs=>
  obtain⟨d,z,ne,e,mA,⟨od,es,ep,e2,c⟩,r⟩:=x;exact⟨ho _ d,z,ne,k _ _ (.inl FV) e,mA,⟨od,es,ep,k _ _ (.inr d) e2,c⟩,r⟩
 | own y=>obtain⟨ob,e⟩:=x;exact⟨ob,k _ _ (.inl FV) e⟩
 | xd fs=>obtain⟨mA,⟨od,es,ep,e,c⟩,r⟩:=x;exact⟨mA,⟨od,es,ep,k _ _ (.inl FV) e,c⟩,r⟩
 | rng lo hi=>obtain⟨t,u,v,e⟩:=x;exact⟨t,u,v,k _ _ (.inl FV) e⟩
 | frz ob u ih=>obtain⟨e,q⟩:=x;exact⟨k _ _ (.inl FV) e,ih q⟩
 | tbl ps=>
  have e:h.get? a=some {cls:=.none,data:=.fields ps}:=x;show h'.get? a=some {cls:=.none,data:=.fields ps};exact k a _ (.inl FV) e
 | met f y=>
  have e:h.get? a=some (W.methodObj (.ref f) (.ref y)):=x;show h'.get? a=some (W.methodObj (.ref f) (.ref y));exact k a _ (.inl FV) e
 | ext φ=>obtain⟨p,⟨o,e⟩,st⟩:=x;exact⟨st _ _ p λo q=>k _ _ (.inl FV) q,⟨o,k _ _ (.inl FV) e⟩,st⟩
def Vy.lt (x:Vy P w H h)(e:H a=some o):a<h.objs.size:=(x a o e).lt
def Vy.fresh (x:Vy P w H h)(e:h.objs.size<=a):H a=none:=by
 cases q:H a with
 | none=>rfl
 | some u=>exact absurd (XG (x.lt q) e) (BJ _)
def Vy.kept (x:Vy P w H h)(k:∀b u,h.get? b=some u->h'.get? b=some u):Vy P w H h':=λa o e=>
 (x a o e).stay (λb u _ q=>k b u q) (λ_ q=>q) λ_ _ q=>q
def Vy.laid (x:Vy P w H h)(k:∀b u,h.get? b=some u->h'.get? b=some u)(hp:h.objs.size<=a)(new:Y2 P w (Yo H a o) h' a o):Vy P w (Yo H a o) h':=λb u e=>by
 have hn:=x.fresh hp;by_cases hb:b=a
 ·subst hb;rw[Z7] at e;cases e;exact new
 ·rw[Z1 hb] at e;exact(x b u e).stay (λc v _ q=>k c v q) (λc q=>by rw[Z1 (Y4 q hn)];exact q) λc xs q=>by rw[Z1 (Y4 q hn)];exact q
end
def Rd (H:Hp)(a:WP)(u:HO):Prop:=H a=some u\/∃o,H a=some (.frz o u)
def Rd.ok {P:WO}{w:WN}{H:Hp}{h:WU}{a:WP}{u:HO}(r:Rd H a u)(x:Vy P w H h):Y2 P w H h a u:=by
 rcases r with r | ⟨o,r⟩
 ·exact x a u r
 ·obtain⟨_,q⟩:=x a _ r;exact q
def iA:Option HO->Prop
 | some (.lst _)=>True
 | some (.dK _)=>True
 | some (.dT _)=>True
 | some (.set _ _)=>True
 | some (.ins _ _ _)=>True
 | some (.ext _)=>True
 | _=>False
section
variable {P:WO}{w:WN}{H:Hp}{h h':WU}{x e:WP}{o':HO}
def Vy.write (ok:Vy P w H h)(mu:iA (H x))(he:e=x\/H e=some (.own x))(k:∀b u,b≠e->h.get? b=some u->h'.get? b=some u)(heo:∃u,h'.get? e=some u)
  (new:Y2 P w (Yo H x o') h' x o'):Vy P w (Yo H x o') h':=λb u q=>by
 have nown:∀c y,H c=some (.own y)->c≠x:=λc y r z=>by subst z;rw[r] at mu;exact mu
 have ntup:∀c xs,H c=some (.tup xs)->c≠x:=λc xs r z=>by subst z;rw[r] at mu;exact mu
 by_cases hb:b=x
 ·subst hb;rw[Z7] at q;cases q;exact new
 ·rw[Z1 hb] at q;by_cases hbe:b=e
  ·have q':H b=some (.own x):=by
    rcases he with z | z
    ·exact absurd (hbe.trans z) hb
    ·rw[hbe];exact z
   rw[q] at q';cases q';obtain⟨v,hv⟩:=heo;exact⟨v,by rw[hbe];exact hv⟩
  ·refine(ok b u q).stay (λc v hc r=>k c v ?_ r) (λc r=>by rw[Z1 (nown c b r)];exact r) λc xs r=>by rw[Z1 (ntup c xs r)];exact r
   rcases hc with rfl | hc
   ·exact hbe
   ·rintro rfl
    rcases he with z | z
    ·exact nown c b hc z
    ·rw[hc] at z;cases z;exact hb FV
end
structure Un (fs ex:List Addr)(H H':Hp)(h h':Heap):Prop where
 keep:∀b o,h.get? b=some o->H b=none->b∉fs->b∉ex->h'.get? b=some o
 slot:∀b o,h.get? b=some o->H b=none->b∈fs->b∉ex->∃sl,h'.get? b=some {o with slots:=sl}
 free:∀b o,h.get? b=some o->H b=none->b∉ex->H' b=none
 there:∀b o,h.get? b=some o->b∉ex->∃o',h'.get? b=some o'
 tups:∀b xs,H b=some (.tup xs)->H' b=some (.tup xs)
 frzs:∀b o u,H b=some (.frz o u)->H' b=some (.frz o u)
 tbls:∀b ps,H b=some (.tbl ps)->∃more,H' b=some (.tbl (ps++more))
section
variable {fs fs' ex ex':List WP}{H H1 H2:Hp}{h h1 h2 h':WU}{a x e:WP}{o:HO}
def Un.any (u:Un fs ex H H1 h h1){b:WP}{ob:Obj}(q:h.get? b=some ob)(n:H b=none)(hx:b∉ex):∃sl,h1.get? b=some {ob with slots:=sl}:=by
 by_cases hb:b∈fs
 ·exact u.slot b ob q n hb hx
 ·exact⟨ob.slots,u.keep b ob q n hb hx⟩
def Un.kept (k:∀b u,h.get? b=some u->h'.get? b=some u):Un fs ex H H h h':=
 ⟨λb ob q _ _ _=>k b ob q,λb ob q _ _ _=>⟨ob.slots,k b ob q⟩,λ_ _ _ n _=>n,λb ob q _=>⟨ob,k b ob q⟩,λ_ _ q=>q,λ_ _ _ q=>q,λ_ ps q=>⟨#[],by rw[q];simp⟩⟩
def Un.refl:Un fs ex H H h h:=Un.kept λ_ _ q=>q
def Un.laid (k:∀b u,h.get? b=some u->h'.get? b=some u)(hp:h.objs.size<=a)(hn:H a=none):Un fs ex H (Yo H a o) h h' where
 keep:=λb u q _ _ _=>k b u q
 slot:=λb u q _ _ _=>⟨u.slots,k b u q⟩
 free:=λb u q n _=>by rw[Z1 (XH (XG (XD q) hp))];exact n
 there:=λb u q _=>⟨u,k b u q⟩
 tups:=λb xs q=>by rw[Z1 (Y4 q hn)];exact q
 frzs:=λb u xs q=>by rw[Z1 (Y4 q hn)];exact q
 tbls:=λb ps q=>⟨#[],by rw[Z1 (Y4 q hn),q];simp⟩
def Un.write (mu:iA (H x))(he:e=x\/H e=some (.own x))(k:∀b u,b≠e->h.get? b=some u->h'.get? b=some u)(heo:∃u,h'.get? e=some u):Un fs ex H (Yo H x o) h h':=by
 have hx:∀b,H b=none->b≠x:=λb n z=>by subst z;rw[n] at mu;exact mu
 have hb:∀b,H b=none->b≠e:=λb n z=>by
  subst z
  rcases he with r | r
  ·exact hx b n r
  ·rw[n] at r;cases r
 have hm:∀b u,H b=some u->¬iA (some u)->b≠x:=λb u q nm z=>by subst z;rw[q] at mu;exact nm mu
 refine⟨λb u q n _ _=>k b u (hb b n) q,λb u q n _ _=>⟨u.slots,k b u (hb b n) q⟩,λb u q n _=>by rw[Z1 (hx b n)];exact n,λb u q _=>?_,
  λb xs q=>by rw[Z1 (hm b _ q λz=>z)];exact q,λb u xs q=>by rw[Z1 (hm b _ q λz=>z)];exact q,λb ps q=>⟨#[],by rw[Z1 (hm b _ q λz=>z),q];simp⟩⟩
 by_cases hbe:b=e
 ·subst hbe;exact heo
 ·exact⟨u,k b u hbe q⟩
end
def iI (h:WU)(H:Hp):List WP:=(List.range h.objs.size).filter λa=>(H a).isSome
def Fw (h:WU)(H:Hp):WU:=W.hideAll h (iI h H)
def ju (h:WU)(H:Hp):(Fw h H).objs.size=h.objs.size:=W.hideAll_size _ _
def vo {h:WU}{H:Hp}{b:WP}{o:Obj}(e:h.get? b=some o)(n:H b=none):(Fw h H).get? b=some o:=
 FM _ e λhm=>by
  have q:(H b).isSome=true:=(List.mem_filter.mp hm).2;rw[n] at q;simp at q
def si {h:WU}{H:Hp}{b:WP}{o:Obj}(e:(Fw h H).get? b=some o):h.get? b=some o/\H b=none:=by
 have e':h.get? b=some o:=W.of_hideAll (iI h H) e;refine⟨e',?_⟩
 cases q:H b with
 | none=>rfl
 | some x=>
  have hm:b∈iI h H:=List.mem_filter.mpr ⟨List.mem_range.mpr (Heap.lt_size e'),by simp[q]⟩;have z:(Fw h H).get? b=none:=W.hideAll_none (iI h H) hm;rw[z] at e;cases e
def rJ (g h:WU)(L:WP):List (WP×Obj):=(List.range h.objs.size).filterMap λa=>if a=L\/(g.get? a).isSome=true then none else(h.get? a).map λo=>(a,o)
def Yp (g h:WU)(L d:WP):List (WP×Obj):=(rJ g h L).filter λp=>decide (p.1≠d)
structure Mod (K:W.Frag)(mg:Str->Option Value)(base:Heap):Prop where
 kin:K.In base
 glob:base.Ns mainGlobals mg
 blt:∃mb,base.Ns builtinsNs mb/\∀x:Str,x≠"__name__"->mb x=bootBuiltins x
 nolimit:base.NoLimit
structure Cx where
 prog:WO
 w:WN
 K:WY
 mg:Str->Option WQ
 base:WU
 A:WM
 N:List Str
 s₀:WR
 H₀:Hp
 env:Env
 outer:List Env
 stack:List Env
 ex:List WP
 fn:Str->Bool
 calm:Bool
 pn:List (WP×Obj)
 xe:WQ->WR->Prop
def Me (l:List Env):List WP:=l.filterMap (·.frame)
abbrev Cx.fs (X:Cx):List WP:=Me X.outer
def iT (sc:Scope)(x:Str):Prop:=sc.names.lookup x=some .local\/sc.names.lookup x=some .cell\/sc.names.lookup x=some .free
def uK (sc:Scope)(x:Str):Prop:=sc.names.lookup x=some .local\/sc.names.lookup x=some .cell
def eh (env:Env)(h:WU)(m:Str->Option WQ)(x:Str)(u:WQ):Prop:=
 (env.kindOf x=some .local/\m x=some u)\/((env.kindOf x=some .cell\/env.kindOf x=some .free)/\∃c,env.cells.lookup x=some c/\h.IsCell c (some u))
structure Cx.Ok (X:Cx):Prop where
 mod:Mod X.K X.mg X.base
 kind:X.env.scope.kind=.function
 glob:X.env.globals=mainGlobals
 blt:X.env.builtins=builtinsNs
 above:X.s₀.heap.objs.size<=X.env.locals
 inj:∀x y c,X.env.cells.lookup x=some c->X.env.cells.lookup y=some c->x=y
 has:∀x,(X.env.kindOf x=some .cell\/X.env.kindOf x=some .free)->∃c,X.env.cells.lookup x=some c
 cab:∀x c,X.fn x=true->X.env.cells.lookup x=some c->X.s₀.heap.objs.size<=c
 hd:X.calm=true->X.A.handled=none
 frames:X.A.frames=some X.stack
 stk:X.stack=X.outer\/(X.stack=X.env::X.outer/\X.env.frame=some X.env.locals)
 exf:∀b∈X.ex,b≠X.env.locals/\∀x c,X.env.cells.lookup x=some c->c≠b
 bs:∀b o,X.base.get? b=some o->X.s₀.heap.get? b=some o/\X.H₀ b=none
 bsz:X.base.objs.size<=X.s₀.heap.objs.size
 noex:∀b o,X.base.get? b=some o->b∉X.ex
 exfs:∀b∈X.ex,b∉X.fs
 funs:X.s₀.heap.FunFrames X.base X.outer
 frf:∀b∈X.fs,X.H₀ b=none
structure Zl (X:Cx)(WZ:List (Addr×Obj))(σ:List (Option V))(H:Hp)(s:Shared):Prop where
 ok:X.Ok
 os:s.os=X.s₀.os
 bare:AllBare s.gens
 base:Un X.fs X.ex X.H₀ H X.s₀.heap s.heap
 loc:∃m,s.heap.Ns X.env.locals m/\∀(i:Nat) (x:Str) (v:V),X.N[i]?=some x->σ[i]?=some (some v)->iT X.env.scope x->∃u,Z3 v u/\eh X.env s.heap m x u
 cell:∀x c,X.env.cells.lookup x=some c->∃v,s.heap.IsCell c v
 free:H X.env.locals=none
 freeC:∀x c,X.env.cells.lookup x=some c->H c=none
 pin:∀p∈X.pn++WZ,s.heap.get? p.1=some p.2/\H p.1=none/\p.1≠X.env.locals/\p.1∉X.fs/\∀v,p.2.data≠.cell v
 hok:Vy X.prog X.w H s.heap
 len:σ.length=X.N.length
section
variable {X:Cx}{WZ:List (WP×Obj)}{σ:List (Option V)}{H H':Hp}{s:WR}{h':WU}
def Cx.Ok.nofr (ok:X.Ok){b:WP}{o:Obj}(e:X.base.get? b=some o):b∉X.fs:=λhb=>by
 have:=(ok.funs.mem hb).1;rw[e] at this;cases this
def Zl.bs (I:Zl X WZ σ H s):∀b o,X.base.get? b=some o->s.heap.get? b=some o/\H b=none:=λb o e=>
 ⟨I.base.keep b o (I.ok.bs b o e).1 (I.ok.bs b o e).2 (I.ok.nofr e) (I.ok.noex b o e),I.base.free b o (I.ok.bs b o e).1 (I.ok.bs b o e).2 (I.ok.noex b o e)⟩
def Zl.bk (I:Zl X WZ σ H s):∀b o,X.base.get? b=some o->s.heap.get? b=some o:=λb o e=>(I.bs b o e).1
def Zl.mod (I:Zl X WZ σ H s):Mod X.K X.mg X.base:=I.ok.mod
def Zl.kIn (I:Zl X WZ σ H s):X.K.In s.heap:=I.ok.mod.kin.keeps I.bk
def Zl.lt (I:Zl X WZ σ H s):X.env.locals<s.heap.objs.size:=let ⟨_,hn,_⟩:=I.loc;hn.lt
def Zl.sz (I:Zl X WZ σ H s):X.s₀.heap.objs.size<=s.heap.objs.size:=XN I.ok.above (CK I.lt)
def Zl.nofs (I:Zl X WZ σ H s){a:WP}(h:s.heap.objs.size<=a):a∉X.fs:=λhb=>by
 obtain⟨_,o,ho,_⟩:=I.ok.funs.mem hb;exact absurd (XG (XD ho) (XN I.sz h)) (BJ _)
def Zl.cne (I:Zl X WZ σ H s):∀x c,X.env.cells.lookup x=some c->c≠X.env.locals:=λx c e z=>by
 obtain⟨v,o,ho,hd⟩:=I.cell x c e;obtain⟨m,⟨o',es,ep,ho',hd',_⟩,_⟩:=I.loc;rw[z,ho'] at ho;cases ho;rw[hd'] at hd;cases hd
def Zl.funs (I:Zl X WZ σ H s):s.heap.FunFrames X.base X.outer:=by
 have all:∀(l:List Env),(∀b∈Me l,b∈X.fs)->X.s₀.heap.FunFrames X.base l->s.heap.FunFrames X.base l:=by
  intro l
  induction l with
  | nil=>intro _ _;trivial
  | cons env r ih=>
   intro hs hl;obtain⟨hk,⟨L,o,hf,hn,ho,hd⟩,hr⟩:=hl;have hL:L∈X.fs:=hs L (by unfold Me;rw[FH,hf];exact BC);obtain⟨sl,e⟩:=I.base.slot L o ho (I.ok.frf L hL) hL λz=>I.ok.exfs L z hL;exact⟨hk,⟨L,_,hf,hn,e,hd⟩,ih (λb hb=>hs b (by unfold Me;rw[FH,hf];exact XV _ hb)) hr⟩
 exact all X.outer (λ_ hb=>hb) I.ok.funs
def Zl.stack (I:Zl X WZ σ H s):s.heap.FunFrames X.base X.stack:=by
 rcases I.ok.stk with e | ⟨e,hf⟩
 ·rw[e];exact I.funs
 ·rw[e];obtain⟨m,hn,_⟩:=I.loc;refine .cons (by rw[I.ok.kind];decide) hf hn ?_ I.funs;exact Heap.get?_none_of_le (XN I.ok.bsz I.ok.above)
def Zl.stkSub (I:Zl X WZ σ H s):∀b∈Me X.stack,b∈X.env.locals::X.fs:=λb hb=>by
 rcases I.ok.stk with e | ⟨e,hf⟩
 ·rw[e] at hb;exact XV _ hb
 ·rw[e] at hb;unfold Me at hb;rw[FH,hf] at hb;exact hb
def Zl.stkFree (I:Zl X WZ σ H s):∀b∈Me X.stack,H b=none:=λb hb=>by
 rcases BD.mp (I.stkSub b hb) with e | hb
 ·rw[e];exact I.free
 ·obtain⟨_,o,ho,_⟩:=I.ok.funs.mem hb;exact I.base.free b o ho (I.ok.frf b hb) λz=>I.ok.exfs b z hb
def Zl.step {g':Array GenState}{t':Nat}{d':Drawn}{ch:List WP}(I:Zl X WZ σ H s)
  (hch:∀b∈ch,(b∈X.ex\/X.s₀.heap.objs.size<=b)/\b≠X.env.locals/\(∀x c,X.env.cells.lookup x=some c->c≠b)/\∀p∈X.pn++WZ,p.1≠b)
  (keep:∀b o,b≠X.env.locals->b∉X.fs->b∉ch->s.heap.get? b=some o->H b=none->h'.get? b=some o)
  (slot:∀b o,b≠X.env.locals->b∈X.fs->b∉ch->s.heap.get? b=some o->H b=none->∃sl,h'.get? b=some {o with slots:=sl}) (free:∀b o,b∉ch->s.heap.get? b=some o->H b=none->H' b=none)
  (there:∀b o,b∉ch->s.heap.get? b=some o->∃o',h'.get? b=some o')
  (tups:∀b xs,H b=some (.tup xs)->H' b=some (.tup xs)) (frzs:∀b o u,H b=some (.frz o u)->H' b=some (.frz o u)) (tbls:∀b ps,H b=some (.tbl ps)->∃more,H' b=some (.tbl (ps++more)))
  (ns:∀m,s.heap.Ns X.env.locals m->h'.Ns X.env.locals m) (hok:Vy X.prog X.w H' h') (hg:AllBare g'):
  Zl X WZ σ H' {s with heap:=h',gens:=g',drawn:=d',toks:=t'}:=by
 have neL:∀b o,X.s₀.heap.get? b=some o->b≠X.env.locals:=λb o e=>XH (XG (XD e) I.ok.above);have neC:∀b o,X.s₀.heap.get? b=some o->b∉X.ex->b∉ch:=λb o e hx hb=>by
  rcases (hch b hb).1 with z | z
  ·exact hx z
  ·exact absurd (XG (XD e) z) (BJ _)
 have cellK:∀x c,X.env.cells.lookup x=some c->∀v,s.heap.IsCell c v->h'.IsCell c v:=λx c e v ⟨o,ho,hd⟩=>by
  have nch:c∉ch:=λz=>(hch c z).2.2.1 x c e FV;by_cases hc:c∈X.fs
  ·obtain⟨sl,q⟩:=slot c o (I.cne x c e) hc nch ho (I.freeC x c e);exact⟨_,q,hd⟩
  ·exact⟨o,keep c o (I.cne x c e) hc nch ho (I.freeC x c e),hd⟩
 refine⟨I.ok,I.os,hg,⟨λb o e n hb hx=>?_,λb o e n hb hx=>?_,λb o e n hx=>?_,λb o e hx=>?_,λb xs e=>tups b xs (I.base.tups b xs e),λb o xs e=>frzs b o xs (I.base.frzs b o xs e),λb ps e=>?_⟩,?_,λx c e=>?_,?_,λx c e=>?_,λp hp=>?_,hok,I.len⟩
 ·exact keep b o (neL b o e) hb (neC b o e hx) (I.base.keep b o e n hb hx) (I.base.free b o e n hx)
 ·obtain⟨sl,e1⟩:=I.base.slot b o e n hb hx;obtain⟨sl',e2⟩:=slot b _ (neL b o e) hb (neC b o e hx) e1 (I.base.free b o e n hx);exact⟨sl',e2⟩
 ·obtain⟨o',e1⟩:=I.base.there b o e hx;exact free b o' (neC b o e hx) e1 (I.base.free b o e n hx)
 ·obtain⟨o',e1⟩:=I.base.there b o e hx;exact there b o' (neC b o e hx) e1
 ·obtain⟨m1,e1⟩:=I.base.tbls b ps e;obtain⟨m2,e2⟩:=tbls b _ e1;exact⟨m1++m2,by rw[e2,Array.append_assoc]⟩
 ·obtain⟨m,hn,hl⟩:=I.loc;refine⟨m,ns m hn,λi x v e1 e2 e3=>?_⟩;obtain⟨u,r,l⟩:=hl i x v e1 e2 e3;refine⟨u,r,?_⟩
  rcases l with l | ⟨k,c,e,z⟩
  ·exact .inl l
  ·exact .inr ⟨k,c,e,cellK x c e _ z⟩
 ·obtain⟨v,z⟩:=I.cell x c e;exact⟨v,cellK x c e v z⟩
 ·obtain⟨m,⟨o,_,_,ho,_⟩,_⟩:=I.loc;exact free _ o (λz=>(hch _ z).2.1 FV) ho I.free
 ·obtain⟨v,o,ho,hd⟩:=I.cell x c e;exact free c o (λz=>(hch c z).2.2.1 x c e FV) ho (I.freeC x c e)
 ·obtain⟨e,n,ne,nf,d⟩:=I.pin p hp;have nch:p.1∉ch:=λz=>(hch p.1 z).2.2.2 p hp FV;exact⟨keep p.1 p.2 ne nf nch e n,free p.1 p.2 nch e n,ne,nf,d⟩
def Zl.un {t':Nat}(I:Zl X WZ σ H s)(u:Un X.fs [] H H' s.heap h')(hok:Vy X.prog X.w H' h'):Zl X WZ σ H' {s with heap:=h',toks:=t'}:=by
 obtain⟨m,⟨o,es,ep,ho,r⟩,_⟩:=id I.loc;obtain⟨sl,hL⟩:=u.any ho I.free (by simp);exact I.step (g':=s.gens) (d':=s.drawn) (ch:=[]) (λ_ z=>nomatch z) (λb o _ hb _ e n=>u.keep b o e n hb (by simp)) (λb o _ hb _ e n=>u.slot b o e n hb (by simp)) (λb o _ e n=>u.free b o e n (by simp)) (λb o _ e=>u.there b o e (by simp)) u.tups u.frzs u.tbls (λm' hm=>by
  obtain⟨o',es',ep',ho',r'⟩:=hm;rw[ho] at ho';cases ho';exact⟨_,es',ep',hL,r'⟩) hok I.bare
def Zl.call {g':Array GenState}{t':Nat}{d':Drawn}{ch:List WP}(I:Zl X WZ σ H s)(u:Un (Me X.stack) ch H H' s.heap h')(hok:Vy X.prog X.w H' h')(hg:AllBare g')
  (hch:∀b∈ch,(b∈X.ex\/X.s₀.heap.objs.size<=b)/\b≠X.env.locals/\(∀x c,X.env.cells.lookup x=some c->c≠b)/\∀p∈X.pn++WZ,p.1≠b):
  Zl X WZ σ H' {s with heap:=h',gens:=g',drawn:=d',toks:=t'}:=by
 obtain⟨m,⟨o,es,ep,ho,r⟩,_⟩:=id I.loc;obtain⟨sl,hL⟩:=u.any ho I.free λz=>(hch _ z).2.1 FV;exact I.step (ch:=ch) hch (λb o hL hb hc e n=>u.keep b o e n (λz=>(BD.mp (I.stkSub b z)).elim hL hb) hc) (λb o _ _ hc e n=>u.any e n hc) (λb o hc e n=>u.free b o e n hc) (λb o hc e=>u.there b o e hc) u.tups u.frzs u.tbls (λm' hm=>by
  obtain⟨o',es',ep',ho',r'⟩:=hm;rw[ho] at ho';cases ho';exact⟨_,es',ep',hL,r'⟩) hok hg
def Zl.turned {t':Nat}{it:WP}(I:Zl X WZ σ H s)(k:∀b o,b≠it->s.heap.get? b=some o->h'.get? b=some o)(hn:H it=none)(hL:it≠X.env.locals)
  (h1:it∈X.ex\/X.s₀.heap.objs.size<=it) (h2:∀x c,X.env.cells.lookup x=some c->c≠it) (h3:∀p∈X.pn++WZ,p.1≠it):Zl X WZ σ H {s with heap:=h',toks:=t'}:=by
 have nit:∀b u,H b=some u->b≠it:=λb u e z=>by rw[z,hn] at e;cases e
 refine I.step (g':=s.gens) (d':=s.drawn) (ch:=[it]) (λb hb=>?_) (λb o _ _ hc e _=>k b o (λz=>hc (by simp[z])) e) (λb o _ _ hc e _=>⟨o.slots,k b o (λz=>hc (by simp[z])) e⟩) (λ_ _ _ _ n=>n)
  (λb o hc e=>⟨o,k b o (λz=>hc (by simp[z])) e⟩) (λ_ _ e=>e) (λ_ _ _ e=>e) (λb ps e=>⟨#[],by rw[e];simp⟩) (λm hm=>?_) (λb u e=>?_) I.bare
 ·have e:b=it:=by simpa using hb
  subst e;exact⟨h1,hL,h2,h3⟩
 ·obtain⟨o,es,ep,ho,r⟩:=hm;exact⟨o,es,ep,k _ o (Ne.symm hL) ho,r⟩
 ·refine(I.hok b u e).stay (λc v hc q=>k c v ?_ q) (λ_ q=>q) λ_ _ q=>q
  rcases hc with z | z
  ·rw[z];exact nit b u e
  ·exact nit c _ z
def Zl.tok (I:Zl X WZ σ H s)(t:Nat):Zl X WZ σ H {s with toks:=t}:=I.un (h':=s.heap) (t':=t) Un.refl I.hok
def Zl.kept {t':Nat}(I:Zl X WZ σ H s)(k:∀b u,s.heap.get? b=some u->h'.get? b=some u):Zl X WZ σ H {s with heap:=h',toks:=t'}:=I.un (Un.kept k) (I.hok.kept k)
def Zl.laid {a:WP}{o:HO}{t':Nat}(I:Zl X WZ σ H s)(k:∀b u,s.heap.get? b=some u->h'.get? b=some u)(hp:s.heap.objs.size<=a)(new:Y2 X.prog X.w (Yo H a o) h' a o):
  Zl X WZ σ (Yo H a o) {s with heap:=h',toks:=t'}:=I.un (Un.laid k hp (I.hok.fresh hp)) (I.hok.laid k hp new)
def Zl.write {x e:WP}{o:HO}{t':Nat}(I:Zl X WZ σ H s)(mu:iA (H x))(he:e=x\/H e=some (.own x))(k:∀b u,b≠e->s.heap.get? b=some u->h'.get? b=some u)(heo:∃u,h'.get? e=some u)
  (new:Y2 X.prog X.w (Yo H x o) h' x o):Zl X WZ σ (Yo H x o) {s with heap:=h',toks:=t'}:=I.un (Un.write mu he k heo) (I.hok.write mu he k heo new)
def Zl.weak {σ':List (Option V)}(I:Zl X WZ σ H s)(hl:σ'.length=σ.length)(w:∀(i:Nat) v,σ'[i]?=some (some v)->σ[i]?=some (some v)):Zl X WZ σ' H s:=
 ⟨I.ok,I.os,I.bare,I.base,let ⟨m,hn,hl'⟩:=I.loc;⟨m,hn,λi x v e1 e2 e3=>hl' i x v e1 (w i v e2) e3⟩,I.cell,I.free,I.freeC,I.pin,I.hok,hl.trans I.len⟩
def Zl.pins_of {pins':List (WP×Obj)}(I:Zl X WZ σ H s)(h:∀p∈pins',s.heap.get? p.1=some p.2/\H p.1=none/\p.1≠X.env.locals/\p.1∉X.fs/\∀v,p.2.data≠.cell v):Zl X pins' σ H s:=
 ⟨I.ok,I.os,I.bare,I.base,I.loc,I.cell,I.free,I.freeC,λp hp=>(XS.mp hp).elim (λz=>I.pin p (BE _ z)) (h p),I.hok,I.len⟩
def D6 {N:List Str}(hN:N.Nodup){i j:Nat}{x:Str}(a:N[i]?=some x)(b:N[j]?=some x):i=j:=by
 obtain⟨h1,e1⟩:=BB.mp a;obtain⟨h2,e2⟩:=BB.mp b;exact(List.getElem_inj hN).mp (e1.trans e2.symm)
def Iv {M:Model}{A:WM}{E:WQ->WR->Prop}{i:Nat}{x:Str}{v:V}{u:WQ}{Q:Unit->WR->Prop}(I:Zl X WZ σ H s)(hN:X.N.Nodup)(hi:X.N[i]?=some x)(hx:uK X.env.scope x)(r:Z3 v u)
  (h:∀s',Zl X WZ (σ.set i (some v)) H s'->(∃a,Heap.SameBut a s.heap s'.heap/\(a=X.env.locals\/X.env.cells.lookup x=some a))->Q () s') (hf:X.fn x=true\/X.env.scope.names.lookup x=some .local:=by first | exact .inl FV | exact .inr FV | assumption):wpAny M A (storeName X.env x u) Q E s:=by
 obtain⟨m,hn,hl⟩:=id I.loc;have hcls:(X.env.scope.kind==.class||(X.env.scope.kind==.module&&X.env.locals !=X.env.globals))=false:=by rw[I.ok.kind];rfl
 have hiσ:i<σ.length:=by rw[I.len];exact(BB.mp hi).1
 have cne:=I.cne;have tracked:∀{a:WP} {h':WU},(∃o,s.heap.get? a=some o/\H a=none)->Heap.SameBut a s.heap h'->Vy X.prog X.w H h':=λ{a h'} ha hs b ob e=>by
  obtain⟨_,_,hfree⟩:=ha;refine(I.hok b ob e).stay (λc w' hc q=>(hs.2 c ?_).trans q) (λ_ q=>q) λ_ _ q=>q;rintro rfl
  rcases hc with rfl | hc
  ·rw[hfree] at e;cases e
  ·rw[hfree] at hc;cases hc
 rcases hx with hk | hk
 ·refine wpAny_storeName_local hk hn (λh' hn' hs=>?_) hcls;obtain⟨oL,_,_,hoL,_⟩:=id hn;refine h _ ⟨I.ok,I.os,I.bare,⟨λb o e n hb hx=>?_,λb o e n hb hx=>?_,I.base.free,λb o e hx=>?_,I.base.tups,I.base.frzs,I.base.tbls⟩,⟨_,hn',λj y v' e1 e2 e3=>?_⟩,λy c e=>?_,I.free,I.freeC,λp hp=>?_,tracked ⟨oL,hoL,I.free⟩ hs,by simpa using I.len⟩ ⟨_,hs,.inl FV⟩
  ·exact(hs.2 b (XH (XG (XD e) I.ok.above))).trans (I.base.keep b o e n hb hx)
  ·obtain⟨sl,e1⟩:=I.base.slot b o e n hb hx;exact⟨sl,(hs.2 b (XH (XG (XD e) I.ok.above))).trans e1⟩
  ·obtain⟨o',e1⟩:=I.base.there b o e hx;exact⟨o',(hs.2 b (XH (XG (XD e) I.ok.above))).trans e1⟩
  ·by_cases hj:j=i
   ·subst hj;rw[hi] at e1;cases e1;rw[BZ hiσ] at e2
    cases e2
    exact⟨u,r,.inl ⟨hk,by simp⟩⟩
   ·rw[CL (Ne.symm hj)] at e2;obtain⟨u',r',q⟩:=hl j y v' e1 e2 e3;refine⟨u',r',?_⟩
    rcases q with⟨k,e⟩ | ⟨k,c,e,z⟩
    ·refine .inl ⟨k,?_⟩;have:y≠x:=λe=>hj (D6 hN e1 (e▸hi));simp[this,e]
    ·exact .inr ⟨k,c,e,z.sameBut hs (cne y c e)⟩
  ·obtain⟨w',z⟩:=I.cell y c e;exact⟨w',z.sameBut hs (cne y c e)⟩
  ·obtain⟨e,n,ne,nf,d⟩:=I.pin p hp;exact⟨(hs.2 p.1 ne).trans e,n,ne,nf,d⟩
 ·have hfn:X.fn x=true:=by
   rcases hf with z | z
   ·exact z
   ·rw[z] at hk;cases hk
  obtain⟨c,hc⟩:=I.ok.has x (.inl hk);obtain⟨w',z⟩:=I.cell x c hc;refine wpAny_storeName_cell I.ok.kind hk hc z (λh' hc' hs=>?_);obtain⟨oc,hoc,hocd⟩:=id z;refine h {s with heap:=h'} ⟨I.ok,I.os,I.bare,⟨λb o e n hb hx=>?_,λb o e n hb hx=>?_,I.base.free,λb o e hx=>?_,I.base.tups,I.base.frzs,I.base.tbls⟩,⟨m,hn.sameBut hs (Ne.symm (cne x c hc)),λj y v' e1 e2 e3=>?_⟩,λy c' e=>?_,I.free,I.freeC,λp hp=>?_,tracked ⟨oc,hoc,I.freeC x c hc⟩ hs,by simpa using I.len⟩ ⟨c,hs,.inr hc⟩
  ·exact(hs.2 b (XH (XG (XD e) (I.ok.cab x c hfn hc)))).trans (I.base.keep b o e n hb hx)
  ·obtain⟨sl,e1⟩:=I.base.slot b o e n hb hx;exact⟨sl,(hs.2 b (XH (XG (XD e) (I.ok.cab x c hfn hc)))).trans e1⟩
  ·obtain⟨o',e1⟩:=I.base.there b o e hx;exact⟨o',(hs.2 b (XH (XG (XD e) (I.ok.cab x c hfn hc)))).trans e1⟩
  ·by_cases hj:j=i
   ·subst hj;rw[hi] at e1;cases e1;rw[BZ hiσ] at e2
    cases e2
    exact⟨u,r,.inr ⟨.inl hk,c,hc,hc'⟩⟩
   ·rw[CL (Ne.symm hj)] at e2;obtain⟨u',r',q⟩:=hl j y v' e1 e2 e3;refine⟨u',r',?_⟩
    rcases q with q | ⟨k,c',e,z'⟩
    ·exact .inl q
    ·refine .inr ⟨k,c',e,z'.sameBut hs ?_⟩;rintro rfl;exact hj (D6 hN e1 (I.ok.inj _ _ _ e hc▸hi))
  ·by_cases hcc:c'=c
   ·subst hcc;exact⟨_,hc'⟩
   ·obtain⟨w2,z2⟩:=I.cell y c' e;exact⟨w2,z2.sameBut hs hcc⟩
  ·obtain⟨e,n,ne,nf,d⟩:=I.pin p hp;refine⟨(hs.2 p.1 ?_).trans e,n,ne,nf,d⟩;intro q;rw[q,hoc] at e;have q':oc=p.2:=YH e;exact d w' (by rw[<-q'];exact hocd)
def Px {M:Model}{A:WM}{E:WQ->WR->Prop}{i:Nat}{x:Str}{v:V}{u:WQ}{Q:Unit->WR->Prop}(I:Zl X WZ σ H s)(hN:X.N.Nodup)(hi:X.N[i]?=some x)(hx:uK X.env.scope x)(r:Z3 v u)
  (h:∀s',Zl X WZ (σ.set i (some v)) H s'->Q () s') (hf:X.fn x=true\/X.env.scope.names.lookup x=some .local:=by first | exact .inl FV | exact .inr FV | assumption):wpAny M A (storeName X.env x u) Q E s:=
 Iv I hN hi hx r (λs' I' _=>h s' I') hf
def Zl.call' {s':WR}{ch:List WP}(I:Zl X WZ σ H s)(ho:s'.os=s.os)(u:Un (Me X.stack) ch H H' s.heap s'.heap)(hok:Vy X.prog X.w H' s'.heap)(hg:AllBare s'.gens)
  (hch:∀b∈ch,(b∈X.ex\/X.s₀.heap.objs.size<=b)/\b≠X.env.locals/\(∀x c,X.env.cells.lookup x=some c->c≠b)/\∀p∈X.pn++WZ,p.1≠b):Zl X WZ σ H' s':=by
 obtain⟨h',g',d',t',o'⟩:=s';have e:o'=s.os:=ho;subst e;exact I.call (g':=g') (t':=t') (d':=d') u hok hg hch
end
abbrev XK:=WQ->Option WP->Hp->Prop
abbrev St:=List (Option V)
abbrev VK:=V->Hp->Prop
abbrev TE:=St->Hp->VK->Prop
abbrev TT:=St->Hp->(Bool->Hp->Prop)->Prop
abbrev TA:=St->Hp->(List V->Hp->Prop)->Prop
structure Pi where
 nx:St->Hp->Prop
 rt:VK
 bk:St->Hp->Prop:=λ_ _=>False
 ct:St->Hp->Prop:=λ_ _=>False
abbrev TS:=Pi->St->Hp->Prop
def EP (X:Cx)(WZ:List (WP×Obj))(σ:St)(Q:VK)(u:WQ)(s':WR):Prop:=∃v H',Zl X WZ σ H' s'/\Z3 v u/\Q v H'
def TP (X:Cx)(WZ:List (WP×Obj))(σ:St)(Q:Bool->Hp->Prop)(b:Bool)(s':WR):Prop:=∃H',Zl X WZ σ H' s'/\Q b H'
def AP (X:Cx)(WZ:List (WP×Obj))(σ:St)(Q:List V->Hp->Prop)(us:List WQ)(s':WR):Prop:=∃vs H',Zl X WZ σ H' s'/\Z0 vs us/\Q vs H'
def SP (X:Cx)(WZ:List (WP×Obj))(D:Pi)(f:Flow)(s':WR):Prop:=
 match f with
 | .next=>∃σ' H',Zl X WZ σ' H' s'/\D.nx σ' H'
 | .brk=>∃σ' H',Zl X WZ σ' H' s'/\D.bk σ' H'
 | .cont=>∃σ' H',Zl X WZ σ' H' s'/\D.ct σ' H'
 | .ret u=>∃v σ' H',Zl X WZ σ' H' s'/\Z3 v u/\D.rt v H'
def PE (X:Cx)(e:WW)(t:TE):Prop:=
 ∀(WZ:List (WP×Obj)) (s:WR) (σ:St) (H:Hp) (Q:VK),Zl X WZ σ H s->t σ H Q->wpAny (model X.prog X.w) X.A (eval e X.env) (EP X WZ σ Q) X.xe s
def PT (X:Cx)(e:WW)(t:TT):Prop:=
 ∀(WZ:List (WP×Obj)) (s:WR) (σ:St) (H:Hp) (Q:Bool->Hp->Prop),Zl X WZ σ H s->t σ H Q->wpAny (model X.prog X.w) X.A (isTrue e X.env (eval e X.env)) (TP X WZ σ Q) X.xe s
def PW (X:Cx)(e:WW)(t:TT):Prop:=
 ∀(whole:Sem WQ) (WZ:List (WP×Obj)) (s:WR) (σ:St) (H:Hp) (Q:Bool->Hp->Prop),Zl X WZ σ H s->t σ H Q->wpAny (model X.prog X.w) X.A (isTrue e X.env whole) (TP X WZ σ Q) X.xe s
def PW.pt {X:Cx}{e:WW}{t:TT}(h:PW X e t):PT X e t:=h _
def PA (X:Cx)(es:List WW)(t:TA):Prop:=
 ∀(pos:Pos) (WZ:List (WP×Obj)) (s:WR) (σ:St) (H:Hp) (Q:List V->Hp->Prop),Zl X WZ σ H s->t σ H Q->wpAny (model X.prog X.w) X.A (spliced (backTo pos (starEach es X.env))) (AP X WZ σ Q) X.xe s
def PS (X:Cx)(st:WV)(t:TS):Prop:=
 ∀(WZ:List (WP×Obj)) (s:WR) (σ:St) (H:Hp) (D:Pi),Zl X WZ σ H s->t D σ H->wpAny (model X.prog X.w) X.A (exec st X.env) (SP X WZ D) X.xe s
def Bu (X:Cx)(st:List WV)(t:TS):Prop:=
 ∀(WZ:List (WP×Obj)) (s:WR) (σ:St) (H:Hp) (D:Pi),Zl X WZ σ H s->t D σ H->wpAny (model X.prog X.w) X.A (execs st X.env) (SP X WZ D) X.xe s
def Ja {α:Type}{t:Sem α}{Q Q':α->WR->Prop}{M:Model}{A:WM}{E:WQ->WR->Prop}{s:WR}(h:wpAny M A t Q E s)(hQ:∀a s,Q a s->Q' a s):wpAny M A t Q' E s:=wpAny_mono h hQ λ_ _ x=>x
section
variable {X:Cx}
def mE (i:Nat):TE:=λσ H Q=>∃v,σ[i]?=some (some v)/\Q v H
def tC (v:V):TE:=λ_ H Q=>Q v H
def pI {i:Nat}{x:Str}{pos:Pos}(hN:X.N[i]?=some x)(hv:iT X.env.scope x)(hd:(x==("__debug__":Str))=false:=by decide)(hcd:(x==("__classdict__":Str))=false:=by decide):PE X (.Name x pos) (mE i):=by
 intro WZ s σ H Q I h;obtain⟨v,e,h⟩:=h;obtain⟨m,hn,hl⟩:=I.loc;obtain⟨u,r,l⟩:=hl i x v hN e hv;have fin:EP X WZ σ Q u s:=⟨v,H,I,r,h⟩
 rcases l with⟨hk,hm⟩ | ⟨hk,c,hc,hcell⟩
 ·exact wpAny_Name (wpAny_loadName_local I.ok.kind hk hn hm fin) hd
 ·rcases hk with hk | hk
  ·exact wpAny_Name (wpAny_loadName_cell I.ok.kind hk hc hcell fin) hd
  ·exact wpAny_Name (wpAny_loadName_free I.ok.kind hk hc hcell fin hcd) hd
def pO {i j pos}:PE X (.Constant (.int i) j pos) (tC (.int i)):=λ_ _ _ H _ I h=>wpAny_Constant_int ⟨.int i,H,I.tok _,⟨_,FV⟩,h⟩
def lY {b j pos}:PE X (.Constant (.bool b) j pos) (tC (.bl b)):=λ_ _ _ H _ I h=>Constant_bool ⟨.bl b,H,I,FV,h⟩
def pM {j pos}:PE X (.Constant .none j pos) (tC .non):=λ_ _ _ H _ I h=>Constant_none ⟨.non,H,I,FV,h⟩
def pK {x j pos}:PE X (.Constant (.str x) j pos) (tC (.str x)):=λ_ _ _ H _ I h=>Calls.Constant_str ⟨.str x,H,I.tok _,⟨_,FV⟩,h⟩
def Gl (X:Cx)(x:Str):Prop:=X.env.kindOf x=some .globalImplicit
def Qg {E:WQ->WR->Prop}{WZ:List (WP×Obj)}{s:WR}{σ:St}{H:Hp}{x:Str}{u:WQ}{pos:Pos}{Q:WQ->WR->Prop}(I:Zl X WZ σ H s)(hg:Gl X x)(hm:X.mg x=some u)(h:Q u s)
  (hd:(x==("__debug__":Str))=false:=by decide):wpAny (model X.prog X.w) X.A (eval (.Name x pos) X.env) Q E s:=
 Calls.Name_function_global I.ok.kind hg (Calls.loadGlobal_global (by rw[I.ok.glob];exact I.mod.glob.keeps I.bk) hm h) hd
def Vi {E:WQ->WR->Prop}{WZ:List (WP×Obj)}{s:WR}{σ:St}{H:Hp}{x:Str}{u:WQ}{pos:Pos}{Q:WQ->WR->Prop}(I:Zl X WZ σ H s)(hg:Gl X x)(hm:X.mg x=none)(hv:bootBuiltins x=some u)(h:Q u s)
  (hn:x≠"__name__":=by decide) (hd:(x==("__debug__":Str))=false:=by decide):wpAny (model X.prog X.w) X.A (eval (.Name x pos) X.env) Q E s:=by
 obtain⟨mb,h1,h2⟩:=I.mod.blt;exact Calls.Name_function_global I.ok.kind hg (Calls.loadGlobal_builtin (by rw[I.ok.glob];exact I.mod.glob.keeps I.bk) hm (by rw[I.ok.blt];exact h1.keeps I.bk) ((h2 x hn).trans hv) h) hd
def dH (ta tb:TE)(k:Int->Int->Hp->Prop):St->Hp->Prop:=λσ H=>ta σ H λx H1=>tb σ H1 λy H2=>∃i j,x=.int i/\y=.int j/\k i j H2
def d4 (ta tb:TE):TE:=λσ H Q=>dH ta tb (λi j H2=>(-(2^64)<i/\i<2^64)/\Q (.int (i*j)) H2) σ H
variable {a b:WW}{ta tb:TE}{pos:Pos}
def d8 (ta:TE):TE:=λσ H Q=>ta σ H λx H1=>Q (.bl (decide (x=.non))) H1
def tB (t:TE):TT:=λσ H Q=>t σ H λx H1=>∃c,x=.bl c/\Q c H1
variable {tA tB':TT}{Yp:List WW}
def mV (t u:TT):TT:=λσ H Q=>t σ H λc H1=>if c=true then u σ H1 Q else Q false H1
def eN (t u:TT):TT:=λσ H Q=>t σ H λc H1=>if c=true then Q true H1 else u σ H1 Q
def tH (ha:PT X a tA):PW X (.BoolOp .And [a] pos) tA:=by
 intro wh WZ s σ H Q I h;refine isTrue_and (Ja (ha WZ s σ H Q I h) λc s1 e=>?_)
 cases c with
 | true=>exact isTrue_and_nil e
 | false=>exact e
def pq (ha:PT X a tA):PW X (.BoolOp .Or [a] pos) tA:=by
 intro wh WZ s σ H Q I h;refine isTrue_or (Ja (ha WZ s σ H Q I h) λc s1 e=>?_)
 cases c with
 | false=>exact isTrue_or_nil e
 | true=>exact e
def px (ha:PT X a tA)(hb:PW X (.BoolOp .And (b::Yp) pos) tB'):PW X (.BoolOp .And (a::b::Yp) pos) (mV tA tB'):=by
 intro wh WZ s σ H Q I h;refine isTrue_and (Ja (ha WZ s σ H _ I h) λc s1 ⟨H1,I1,q1⟩=>?_)
 cases c with
 | true=>exact hb wh WZ s1 σ H1 Q I1 q1
 | false=>exact⟨H1,I1,q1⟩
def lN (ha:PT X a tA)(hb:PW X (.BoolOp .Or (b::Yp) pos) tB'):PW X (.BoolOp .Or (a::b::Yp) pos) (eN tA tB'):=by
 intro wh WZ s σ H Q I h;refine isTrue_or (Ja (ha WZ s σ H _ I h) λc s1 ⟨H1,I1,q1⟩=>?_)
 cases c with
 | true=>exact⟨H1,I1,q1⟩
 | false=>exact hb wh WZ s1 σ H1 Q I1 q1
def rZ (ta tb:TE):TE:=λσ H Q=>ta σ H λx H1=>∃c,x=.bl c/\if c=true then tb σ H1 Q else Q (.bl false) H1
def pL {op}{t:TE}(h:PE X a t):PE X (.BoolOp op [a] pos) t:=λWZ s σ H Q I hw=>BoolOp_one (h WZ s σ H Q I hw)
def pS (ha:PE X a ta)(hb:PE X (.BoolOp .And (b::Yp) pos) tb):PE X (.BoolOp .And (a::b::Yp) pos) (rZ ta tb):=by
 intro WZ s σ H Q I h;refine BoolOp_and (Ja (ha WZ s σ H _ I h) λv s1 ⟨x,H1,I1,r1,q1⟩=>?_);obtain⟨c,rfl,q1⟩:=q1
 cases r1
 refine wpAny_truthy_bool ?_
 cases c with
 | true=>exact hb WZ s1 σ H1 Q I1 q1
 | false=>exact⟨.bl false,H1,I1,FV,q1⟩
def eQ (t:TT)(ta tb:TE):TE:=λσ H Q=>t σ H λc H1=>if c=true then ta σ H1 Q else tb σ H1 Q
def wC {c:WW}(hc:PT X c tA)(ha:PE X a ta)(hb:PE X b tb):PE X (.IfExp c a b pos) (eQ tA ta tb):=by
 intro WZ s σ H Q I h;refine wpAny_IfExp (Ja (hc WZ s σ H _ I h) λd s1 ⟨H1,I1,q1⟩=>?_)
 cases d with
 | true=>exact ha WZ s1 σ H1 Q I1 q1
 | false=>exact hb WZ s1 σ H1 Q I1 q1
end
def Wl (K:WY)(H:Hp)(a:WP)(xs:List V):Prop:=
 Rd H a (.lst xs)\/
  ∃(o:Obj) (its:Array WQ) (n:Nat),K.lookup a=some o/\o.cls=.type "list"/\o.dict=none/\o.data=.seq its n/\its.size<=sizeLine/\Z0 xs its.toList
def Vx (K:WY)(H:Hp)(a:WP)(xs:List V):Prop:=
 Rd H a (.tup xs)\/
  ∃(o:Obj) (its:Array WQ) (n:Nat),K.lookup a=some o/\o.cls=.type "tuple"/\o.data=.seq its n/\its.size<=sizeLine/\Z0 xs its.toList
def fO:WQ->Option V
 | .none=>some .non
 | .bool b=>some (.bl b)
 | .int i _=>some (.int i)
 | .str x _=>some (.str x)
 | .bytes b _=>some (.byt b)
 | .float b _=>some (.flt b)
 | .ref a=>some (.ref a)
 | .type n=>some (.ty n)
 | _=>none
def Z3.abs {x:V}{u:WQ}(r:Z3 x u):fO u=some x:=by
 cases x with
 | non=>cases r;rfl
 | bl _=>cases r;rfl
 | int _=>obtain⟨t,rfl⟩:=r;rfl
 | str _=>obtain⟨t,rfl⟩:=r;rfl
 | byt _=>obtain⟨t,rfl⟩:=r;rfl
 | flt _=>obtain⟨t,rfl⟩:=r;rfl
 | ref _=>cases r;rfl
 | ty _=>cases r;rfl
def Z3.inj {x y:V}{u:WQ}(r:Z3 x u)(q:Z3 y u):x=y:=YH (r.abs.symm.trans q.abs)
def Z0.inj:∀{xs ys:List V} {us:List WQ},Z0 xs us->Z0 ys us->xs=ys
 | _,_,_,.nil,.nil=>rfl
 | _,_,_,.cons r t,.cons r' t'=>by rw[r.inj r',Z0.inj t t']
section
variable {X:Cx}{WZ:List (WP×Obj)}{σ:St}{H:Hp}{s:WR}{a:WP}{xs ys:List V}
def Wl.of {K:WY}(h:H a=some (.lst xs)):Wl K H a xs:=.inl (.inl h)
def Vx.of {K:WY}(h:H a=some (.tup xs)):Vx K H a xs:=.inl (.inl h)
def Zl.list (I:Zl X WZ σ H s)(h:Wl X.K H a xs):∃its:List WQ,Z0 xs its/\PlainL s.heap a its.toArray/\xs.length<=sizeLine:=by
 rcases h with h | ⟨o,its,n,hk,hc,hd,hs,hz,r⟩
 ·obtain⟨z,its,n,r,e⟩:=h.ok I.hok;exact⟨its,r,⟨_,n,e,FV,FV,FV⟩,z⟩
 ·refine⟨its.toList,r,⟨o,n,I.kIn a o hk,hc,hd,by simpa using hs⟩,?_⟩;have e:=r.length;simp only[Array.length_toList] at e;omega
def Zl.tuple (I:Zl X WZ σ H s)(h:Vx X.K H a xs):∃its:List WQ,Z0 xs its/\IsTup s.heap a its.toArray/\xs.length<=sizeLine:=by
 rcases h with h | ⟨o,its,n,hk,hc,hs,hz,r⟩
 ·obtain⟨z,its,r,p⟩:=h.ok I.hok;exact⟨its,r,p,z⟩
 ·refine⟨its.toList,r,⟨o,I.kIn a o hk,hc,n,by simpa using hs⟩,?_⟩;have e:=r.length;simp only[Array.length_toList] at e;omega
def Zl.list_inj (I:Zl X WZ σ H s)(h:Wl X.K H a xs)(h':Wl X.K H a ys):xs=ys:=by
 obtain⟨its,r,⟨o,n,e,_,_,d⟩,_⟩:=I.list h;obtain⟨its',r',⟨o',n',e',_,_,d'⟩,_⟩:=I.list h';rw[e] at e';cases e';rw[d] at d';injection d' with d1 _
 have:its=its':=by simpa using congrArg Array.toList d1
 subst this;exact r.inj r'
def Zl.tuple_inj (I:Zl X WZ σ H s)(h:Vx X.K H a xs)(h':Vx X.K H a ys):xs=ys:=by
 obtain⟨its,r,⟨o,e,_,n,d⟩,_⟩:=I.tuple h;obtain⟨its',r',⟨o',e',_,n',d'⟩,_⟩:=I.tuple h';rw[e] at e';cases e';rw[d] at d';injection d' with d1 _
 have:its=its':=by simpa using congrArg Array.toList d1
 subst this;exact r.inj r'
end
abbrev Cx.wish (X:Cx)(E:WQ->WR->Prop):Cx:={X with xe:=E}
abbrev Cx.nox (X:Cx):Cx:=X.wish λ_ _=>False
def Cx.Ok.wish {X:Cx}(ok:X.Ok)(E:WQ->WR->Prop):(X.wish E).Ok:=
 ⟨ok.mod,ok.kind,ok.glob,ok.blt,ok.above,ok.inj,ok.has,ok.cab,ok.hd,ok.frames,ok.stk,ok.exf,ok.bs,ok.bsz,ok.noex,ok.exfs,ok.funs,ok.frf⟩
def Cx.Ok.unwish {X:Cx}{E:WQ->WR->Prop}(ok:(X.wish E).Ok):X.Ok:=
 ⟨ok.mod,ok.kind,ok.glob,ok.blt,ok.above,ok.inj,ok.has,ok.cab,ok.hd,ok.frames,ok.stk,ok.exf,ok.bs,ok.bsz,ok.noex,ok.exfs,ok.funs,ok.frf⟩
section
variable {X:Cx}{WZ:List (WP×Obj)}{σ:St}{H:Hp}{s:WR}{E:WQ->WR->Prop}
def Zl.wish (I:Zl X WZ σ H s)(E:WQ->WR->Prop):Zl (X.wish E) WZ σ H s:=⟨I.ok.wish E,I.os,I.bare,I.base,I.loc,I.cell,I.free,I.freeC,I.pin,I.hok,I.len⟩
def Zl.unwish (I:Zl (X.wish E) WZ σ H s):Zl X WZ σ H s:=⟨I.ok.unwish,I.os,I.bare,I.base,I.loc,I.cell,I.free,I.freeC,I.pin,I.hok,I.len⟩
def SP.unwish {D:Pi}{f:Flow}{s':WR}(h:SP (X.wish E) WZ D f s'):SP X WZ D f s':=by
 cases f with
 | next=>obtain⟨σ',H',I,q⟩:=h;exact⟨σ',H',I.unwish,q⟩
 | brk=>obtain⟨σ',H',I,q⟩:=h;exact⟨σ',H',I.unwish,q⟩
 | cont=>obtain⟨σ',H',I,q⟩:=h;exact⟨σ',H',I.unwish,q⟩
 | ret u=>obtain⟨v,σ',H',I,r,q⟩:=h;exact⟨v,σ',H',I.unwish,r,q⟩
def Bu.nox {st:List WV}{t:TS}(h:Bu X.nox st t):Bu X st t:=λWZ s σ H D I hw=>
 wpAny_mono (h WZ s σ H D (I.wish _) hw) (λ_ _ q=>q.unwish) λ_ _ z=>False.elim z
end
section
variable {X:Cx}{st:WV}{Yp:List WV}{t u:TS}{e:WW}{te:TE}{pos:Pos}
def mK:TS:=λD σ H=>D.nx σ H
def qO (t u:TS):TS:=λD σ H=>t {D with nx:=u D} σ H
def tO:Bu X [] mK:=λ_ _ σ H _ I h=>wpAny_execs_nil ⟨σ,H,I,h⟩
def wj (h1:PS X st t)(h2:Bu X Yp u):Bu X (st::Yp) (qO t u):=by
 intro WZ s σ H D I h;refine wpAny_execs_cons (Ja (h1 WZ s σ H {D with nx:=u D} I h) λf s1 q=>?_)
 cases f with
 | next=>
  obtain⟨σ',H',I',q⟩:=q;exact h2 WZ s1 σ' H' D I' q
 | ret v=>exact q
 | brk=>exact q
 | cont=>exact q
def tN (h1:PS X st t):Bu X [st] t:=by
 intro WZ s σ H D I h;refine wpAny_execs_cons (Ja (h1 WZ s σ H D I h) λf s1 q=>?_)
 cases f with
 | next=>exact wpAny_execs_nil q
 | ret v=>exact q
 | brk=>exact q
 | cont=>exact q
def mT:TS:=λD σ H=>D.ct σ H
def D0:PS X (.Continue pos) mT:=λ_ _ σ H _ I h=>wpAny_Continue ⟨σ,H,I,h⟩
def Zl.quiet {WZ:List (WP×Obj)}{σ:St}{H:Hp}{s:WR}(I:Zl X WZ σ H s):interactive X.env=false:=by simp[interactive,I.ok.kind]
def mQ (te:TE):TS:=λD σ H=>te σ H λ_ H1=>D.nx σ H1
def tP (he:PE X e te)(hs:swapsWith e none pos.line X.env=pure false:=by rfl):PS X (.Expr e pos) (mQ te):=by
 intro WZ s σ H D I h;exact wpAny_Expr_any (Ja (he WZ s σ H _ I h) λv s1 ⟨x,H1,I1,r1,q1⟩=>⟨σ,H1,I1,q1⟩) I.quiet hs
def gh (te:TE):TS:=λD σ H=>te σ H D.rt
def pC (he:PE X e te):PS X (.Return (some e) pos) (gh te):=by
 intro WZ s σ H D I h;exact wpAny_Return_some (Ja (he WZ s σ H _ I h) λv s1 ⟨x,H1,I1,r1,q1⟩=>⟨x,σ,H1,I1,r1,q1⟩)
def gi (c:TT)(t u:TS):TS:=λD σ H=>c σ H λb H1=>if b=true then t D σ H1 else u D σ H1
def lO {c:WW}{a b:List WV}{tc:TT}(hc:PT X c tc)(ha:Bu X a t)(hb:Bu X b u):PS X (.If c a b pos) (gi tc t u):=by
 intro WZ s σ H D I h;refine wpAny_If (Ja (hc WZ s σ H _ I h) λd s1 ⟨H1,I1,q1⟩=>?_)
 cases d with
 | true=>exact ha WZ s1 σ H1 D I1 q1
 | false=>exact hb WZ s1 σ H1 D I1 q1
def qQ:TS:=λ_ _ _=>False
def wx:PS X st qQ:=λ_ _ _ _ _ _ h=>h.elim
end
abbrev TG:=V->St->Hp->(St->Hp->Prop)->Prop
abbrev B0:=List V->St->Hp->(St->Hp->Prop)->Prop
def PG (X:Cx)(target:WW)(t:TG):Prop:=
 ∀(WZ:List (WP×Obj)) (s:WR) (σ:St) (H:Hp) (v:V) (u:WQ) (Q:St->Hp->Prop),Zl X WZ σ H s->Z3 v u->t v σ H Q->
  wpAny (model X.prog X.w) X.A (assign target X.env u) (λ_ s'=>∃σ' H',Zl X WZ σ' H' s'/\Q σ' H') X.xe s
def i7 (X:Cx)(ts:List WW)(t:B0):Prop:=
 ∀(WZ:List (WP×Obj)) (s:WR) (σ:St) (H:Hp) (vs:List V) (us:List WQ) (Q:St->Hp->Prop),Zl X WZ σ H s->Z0 vs us->t vs σ H Q->
  wpAny (model X.prog X.w) X.A (assignInOrder ((assignEach ts X.env).map (·.2)) us) (λ_ s'=>∃σ' H',Zl X WZ σ' H' s'/\Q σ' H') X.xe s
abbrev rM:=V->V->V->Hp->(Hp->Prop)->Prop
def ma (X:Cx)(t:rM):Prop:=
 ∀(WZ:List (WP×Obj)) (s:WR) (σ:St) (H:Hp) (o i v:V) (ov iv u:WQ) (Q:Hp->Prop),Zl X WZ σ H s->Z3 o ov->Z3 i iv->Z3 v u->t o i v H Q->
  wpAny (model X.prog X.w) X.A (setItem ov iv u) (λ_ s'=>∃H',Zl X WZ σ H' s'/\Q H') X.xe s
abbrev fT:=V->V->Hp->VK->Prop
section
variable {X:Cx}{pos:Pos}
def Xb (i:Nat):TG:=λv σ H Q=>Q (σ.set i (some v)) H
def Y7 {i:Nat}{x:Str}(hN:X.N.Nodup)(hi:X.N[i]?=some x)(hx:uK X.env.scope x)(hf:X.fn x=true\/X.env.scope.names.lookup x=some .local:=by first | exact .inl FV | exact .inr FV | assumption):PG X (.Name x pos) (Xb i):=by
 intro WZ s σ H v u Q I r h;exact wpAny_assign_Name (Px I hN hi hx r (λs' I'=>⟨_,H,I',h⟩) hf)
def zh:B0:=λvs σ H Q=>vs=[]/\Q σ H
def Rv (t:TG)(u:B0):B0:=λvs σ H Q=>∃v r,vs=v::r/\t v σ H λσ' H'=>u r σ' H' Q
def Mn:i7 X [] zh:=by
 intro WZ s σ H vs us Q I r h;obtain⟨e,h⟩:=h;subst e
 cases r
 exact assignInOrder_nil ⟨σ,H,I,h⟩
def W5 {e:WW}{es:List WW}{t:TG}{u:B0}(h1:PG X e t)(h2:i7 X es u)
  (hs:(assignEach (e::es) X.env).map (·.2)=assign e X.env::(assignEach es X.env).map (·.2):=by rfl):i7 X (e::es) (Rv t u):=by
 intro WZ s σ H vs us Q I r h;obtain⟨v,vr,e1,h⟩:=h;subst e1
 cases r with
 | cons r rr=>
  rw[hs];refine assignInOrder_cons (Ja (h1 WZ s σ H _ _ _ I r h) λ_ s1 ⟨σ1,H1,I1,q1⟩=>?_);exact h2 WZ s1 σ1 H1 _ _ Q I1 rr q1
def zg (K:WY)(n:Nat)(t:B0):TG:=λv σ H Q=>∃a xs,v=.ref a/\Vx K H a xs/\xs.length=n/\t xs σ H Q
def G4 {es:List WW}{k:Nat}{t:B0}{n:Nat}(hc:X.calm=true)(h:i7 X es t)
  (hn:(assignEach es X.env).length=n:=by rfl) (hst:(assignEach es X.env).findIdx? (·.1)=none:=by rfl):PG X (.Tuple es k pos) (zg X.K n t):=by
 intro WZ s σ H v u Q I r hw;obtain⟨a,xs,e1,hq,hl,hw⟩:=hw;subst e1
 cases r
 obtain⟨its,rv,ht,hz⟩:=I.tuple hq;refine assign_Tuple_tuple (I.ok.hd hc) ht (by simp[hn,<-hl,rv.length]) hst λh' hx=>?_;have I1:Zl X WZ σ H {s with heap:=h'}:=I.kept (t':=s.toks) λb o e=>hx b o (XH (XD e)) e;exact h WZ _ σ H xs _ Q I1 (by simpa using rv) hw
def fh (to ti:TE)(t:rM):TG:=λv σ H Q=>to σ H λo H1=>ti σ H1 λi H2=>t o i v H2 λH3=>Q σ H3
def w8 {o i:WW}{to ti:TE}{t:rM}(ho:PE X o to)(hi:PE X i ti)(hs:ma X t)
  (ha:∀v,assign (.Subscript o i pos) X.env v=(do
   let ov <-holding [v] (eval o X.env)
   let iv <-holding [v,ov] (eval i X.env)
   standAt pos
   holding [v,ov,iv] (setItem ov iv v)
   release [v,ov,iv] []):=by intro _;rfl):PG X (.Subscript o i pos) (fh to ti t):=by
 intro WZ s σ H v u Q I r h;rw[ha];refine XA (wpAny_holding (Ja (ho WZ s σ H _ I h) λov s1 ⟨x,H1,I1,r1,q1⟩=>?_));refine XA (wpAny_holding (Ja (hi WZ s1 σ H1 _ I1 q1) λiv s2 ⟨y,H2,I2,r2,q2⟩=>?_));refine XA (wpAny_standAt (XA (wpAny_holding (Ja (hs WZ s2 σ H2 x y v ov iv u _ I2 r1 r2 r q2) λ_ s3 ⟨H3,I3,q3⟩=>?_))));exact wpAny_release ⟨σ,H3,I3,q3⟩
def qS (te:TE)(g:TG):TS:=λD σ H=>te σ H λx H1=>g x σ H1 D.nx
def pF {tg e:WW}{te:TE}{g:TG}(he:PE X e te)(hg:PG X tg g)(hs:swapsWithSole [tg] e pos.line X.env=pure false:=by rfl)(hw:swappedStores [tg] e X.env=pure none:=by rfl)
  (h1:(assignEach [tg] X.env).map (·.2)=[assign tg X.env]:=by rfl):PS X (.Assign [tg] e pos) (qS te g):=by
 intro WZ s σ H D I h;refine wpAny_Assign_stores (Ja (he WZ s σ H _ I h) λv s1 ⟨x,H1,I1,r1,q1⟩=>?_) hs hw;rw[h1];exact Ja (hg WZ s1 σ H1 x v _ I1 r1 q1) λ_ s2 q=>q
def pB {i:Nat}{x:Str}{e:WW}{te:TE}{pos':Pos}(hN:X.N.Nodup)(hi:X.N[i]?=some x)(hx:uK X.env.scope x)(he:PE X e te)(hs:swapsWith e (some (.Name x pos')) pos.line X.env=pure false:=by rfl)(hf:X.fn x=true\/X.env.scope.names.lookup x=some .local:=by first | exact .inl FV | exact .inr FV | assumption):
  PS X (.Assign [.Name x pos'] e pos) (qS te (Xb i)):=by
 intro WZ s σ H D I h;refine wpAny_Assign_Name (Ja (he WZ s σ H _ I h) λv s1 ⟨y,H1,I1,r1,q1⟩=>?_) hs;exact Px I1 hN hi hx r1 (λs2 I2=>⟨_,H1,I2,q1⟩) hf
def dz (i j:Nat)(ta:TA):TS:=λD σ H=>ta σ H λvs H1=>∃v w,vs=[v,w]/\D.nx ((σ.set i (some v)).set j (some w)) H1
def dG (i:Nat)(te:TE)(ti:fT):TS:=λD σ H=>∃x,σ[i]?=some (some x)/\te σ H λy H1=>ti x y H1 λz H2=>D.nx (σ.set i (some z)) H2
def eT (to ti te:TE)(tget:V->V->Hp->VK->Prop)(tip:fT)(tset:rM):TS:=λD σ H=>to σ H λo H1=>ti σ H1 λi H2=>tget o i H2 λx H3=>te σ H3 λy H4=>tip x y H4 λz H5=>tset o i z H5 λH6=>D.nx σ H6
def c7 (X:Cx)(t:V->V->Hp->VK->Prop):Prop:=
 ∀(WZ:List (WP×Obj)) (s:WR) (σ:St) (H:Hp) (o i:V) (ov iv:WQ) (Q:VK),Zl X WZ σ H s->Z3 o ov->Z3 i iv->t o i H Q->
  wpAny (model X.prog X.w) X.A (getItem ov iv) (EP X WZ σ Q) X.xe s
def cS (f:Int->Int->Int):fT:=λx y H Q=>∃i j,x=.int i/\y=.int j/\Q (.int (f i j)) H
def xy (c:TT)(tb:TS):TS:=λD σ H=>∃W:Nat->St->Hp->Prop,(∃m,W m σ H)/\∀m σ H,W m σ H->
 c σ H λb H1=>if b=true then ∃N:St->Hp->Prop,(∀σ' H',N σ' H'->∃m',m'<m/\W m' σ' H')/\tb {D with nx:=N,ct:=N,bk:=D.nx} σ H1 else D.nx σ H1
def wq {c:WW}{body:List WV}{tc:TT}{tb:TS}(hp:PassesOwn (model X.prog X.w) X.A X.env X.xe)(hc:PT X c tc)(hb:Bu X body tb):PS X (.While c body [] pos) (xy tc tb):=by
 intro WZ s σ H D I h;obtain⟨W,⟨m0,w0⟩,turn⟩:=h;refine wpAny_While (codeAny_whileLoop (λn s'=>∃σ' H',Zl X WZ σ' H' s'/\W n σ' H') ?_ m0 ⟨σ,H,I,w0⟩);rintro n s1 ⟨σ1,H1,I1,w1⟩;refine wpAny_passesOwn hp (Ja (hc WZ s1 σ1 H1 _ I1 (turn n σ1 H1 w1)) λb s2 ⟨H2,I2,q2⟩=>?_)
 cases b with
 | true=>
  obtain⟨N,hN,q2⟩:=q2;rw[XY rfl];refine wpAny_passesOwn hp (Ja (hb WZ s2 σ1 H2 _ I2 q2) λf s3 q3=>?_)
  cases f with
  | next=>
   obtain⟨σ3,H3,I3,n3⟩:=q3;obtain⟨m',hm,w3⟩:=hN σ3 H3 n3;exact⟨m',hm,σ3,H3,I3,w3⟩
  | cont=>
   obtain⟨σ3,H3,I3,n3⟩:=q3;obtain⟨m',hm,w3⟩:=hN σ3 H3 n3;exact⟨m',hm,σ3,H3,I3,w3⟩
  | brk=>exact q3
  | ret v=>exact q3
 | false=>
  rw[XX YJ];exact wpAny_execs_nil ⟨σ1,H2,I2,q2⟩
end
structure It where
 go:Nat->Hp->Prop
 yld:Nat->Hp->V->Hp->Prop
 stop:Nat->Hp->Prop
def Ou (X:Cx)(WZ:List (WP×Obj))(H:Hp)(b:WP):Prop:=
 H b=none/\b≠X.env.locals/\b∉X.fs/\(b∈X.ex\/X.s₀.heap.objs.size<=b)/\(∀x c,X.env.cells.lookup x=some c->c≠b)/\∀p∈X.pn++WZ,p.1≠b
def Zl.fpOk {X:Cx}{WZ:List (WP×Obj)}{σ:St}{H H':Hp}{s:WR}{b:WP}(I:Zl X WZ σ H s)(hb:s.heap.objs.size<=b)(hn:H' b=none):Ou X WZ H' b:=by
 refine⟨hn,DA (XG I.lt hb),I.nofs hb,.inr (XN I.sz hb),λx c e z=>?_,λp hp z=>?_⟩
 ·obtain⟨v,q⟩:=I.cell x c e;exact absurd (XG q.lt (by rw[z];exact hb)) (BJ _)
 ·exact absurd (XG (XD (I.pin p hp).1) (by rw[z];exact hb)) (BJ _)
structure Bo (P:Program)(w:World)(K:W.Frag)(tg:Expr)(J:It)(fp:List Addr)(it:Addr)(tn:Nat->Heap->Prop):Prop where
 mem:it∈fp
 obj:∀i h,tn i h->∀b∈fp,∃o,h.get? b=some o/\∀v,o.data≠.cell v
 keep:∀i h h',tn i h->(∀b∈fp,∀o,h.get? b=some o->h'.get? b=some o)->tn i h'
 item:∀(X:Cx),X.prog=P->X.w=w->X.K=K->X.calm=true->∀(i:Nat) (WZ:List (WP×Obj)) (s:WR) (σ:St) (H:Hp) (E:WQ->WR->Prop),Zl X WZ σ H s->(∀b∈fp,Ou X WZ H b)->tn i s.heap->J.go i H->
  wpAny (model P w) X.A (pyNext (.ref it)) (λr s1=>∃u,r=some u/\
   wpAny (model P w) X.A (letOwnedTupleGo tg (.ref it) u) (λ_ s2=>∃x H',Zl X WZ σ H' s2/\Z3 x u/\J.yld i H x H'/\tn (i+1) s2.heap/\∀b∈fp,H' b=none) E s1) E s
 done:∀(X:Cx),X.prog=P->X.w=w->X.K=K->X.calm=true->∀(i:Nat) (WZ:List (WP×Obj)) (s:WR) (σ:St) (H:Hp) (E:WQ->WR->Prop),Zl X WZ σ H s->(∀b∈fp,Ou X WZ H b)->tn i s.heap->J.stop i H->
  wpAny (model P w) X.A (pyNext (.ref it)) (λr s1=>r=none/\Zl X WZ σ H s1) E s
 self:∀(A:WM) (i:Nat) (s:WR) (Q:WQ->WR->Prop) (E:WQ->WR->Prop),tn i s.heap->Q (.ref it) s->wpAny (model P w) A (pyIter (.ref it)) Q E s
abbrev TI:=St->Hp->(It->Hp->Prop)->Prop
def i6 (X:Cx)(WZ:List (WP×Obj))(σ:St)(tg:WW)(R:It->Hp->Prop)(itv:WQ)(s2:WR):Prop:=
 ∃(it:WP) (fp:List WP) (tn:Nat->WU->Prop) (J:It) (H':Hp),itv=.ref it/\Zl X WZ σ H' s2/\Bo X.prog X.w X.K tg J fp it tn/\tn 0 s2.heap/\(∀b∈fp,Ou X WZ H' b)/\R J H'
def PI (X:Cx)(tg iter:WW)(wi:TI):Prop:=
 ∀(WZ:List (WP×Obj)) (s:WR) (σ:St) (H:Hp) (R:It->Hp->Prop),Zl X WZ σ H s->wi σ H R->
  wpAny (model X.prog X.w) X.A (eval iter X.env) (λv s1=>wpAny (model X.prog X.w) X.A (pyIter v) (i6 X WZ σ tg R) X.xe s1) X.xe s
def Ct {M:Model}{A:WM}{E:WQ->WR->Prop}{s:WR}{tg:WW}{it:WP}{u:WQ}{o:Obj}{n:String}{vs:Array WQ}{Q:Unit->WR->Prop}(ho:s.heap.get? it=some o)(hc:o.cls=.type n)(hd:o.data=.fields vs)
  (hn:["enumerate","zip","dict_itemiterator","dict_reverseitemiterator","odict_iterator","itertools.zip_longest","itertools.pairwise"].contains n=false) (hQ:Q () s):wpAny M A (letOwnedTupleGo tg (.ref it) u) Q E s:=by
 unfold letOwnedTupleGo
 cases tg<;>first
  | exact XB hQ
  | (cases u<;>first
    | exact XB hQ
    | (refine XA (wpAny_load ho ?_)
       rw[hc,hd];show wpAny M A (if (["enumerate","zip","dict_itemiterator","dict_reverseitemiterator","odict_iterator","itertools.zip_longest","itertools.pairwise"].contains n&&vs[0]?==some (rawInt _))=true then _ else _) Q E s;rw[XX (by intro h;rw[hn,Bool.false_and] at h;cases h)];exact XB hQ))
def iY (K:WY)(a:WP):It:=
 ⟨λi H=>∃xs x,Wl K H a xs/\xs[i]?=some x,λi H x H'=>H'=H/\∀xs,Wl K H a xs->xs[i]?=some x,λi H=>∃xs,Wl K H a xs/\xs.length<=i⟩
def eA (K:WY)(a:WP):It:=
 ⟨λi H=>∃xs x,Vx K H a xs/\xs[i]?=some x,λi H x H'=>H'=H/\∀xs,Vx K H a xs->xs[i]?=some x,λi H=>∃xs,Vx K H a xs/\xs.length<=i⟩
def iC (lo:Int)(n:Nat):It:=⟨λi _=>i<n,λi H x H'=>H'=H/\x=.int (lo+i),λi _=>n<=i⟩
def yH {P:WO}{w:WN}{K:WY}{tg:WW}(a it:WP):Bo P w K tg (iY K a) [it] it (λi h=>h.IsListIter it a i) where
 mem:=by simp
 obj:=λi h st b hb=>by
  have e:b=it:=by simpa using hb
  subst e;obtain⟨o,e,c,d⟩:=st;exact⟨o,e,λv z=>by rw[d] at z;cases z⟩
 keep:=λi h h' st k=>st.at λo e=>k it (by simp) o e
 item:=by
  intro X hP hw hK hc i WZ s σ H E I hf st hg;subst hP hw hK;obtain⟨xs,x,hq,hx⟩:=hg;obtain⟨its,rv,p,hz⟩:=I.list hq;obtain⟨u,hu,ru⟩:=rv.get hx;obtain⟨f0,f1,f2,f3,f4,f5⟩:=hf it (by simp);refine wpAny_pyNext_list_item st p.isList (x:=u) (by simpa using hu) λh' st' sb=>?_;have I1:Zl X WZ σ H {s with heap:=h'}:=I.turned (t':=s.toks) (λb o hb e=>(sb.2 b hb).trans e) f0 f1 f3 f4 f5;obtain⟨o,e,c,d⟩:=id st';exact⟨u,FV,Ct (s:={s with heap:=h'}) e c d (by decide) ⟨x,H,I1,ru,⟨FV,λys hy=>by rw[I.list_inj hy hq];exact hx⟩,st',λb hb=>(hf b hb).1⟩⟩
 done:=by
  intro X hP hw hK hc i WZ s σ H E I hf st hg;subst hP hw hK;obtain⟨xs,hq,hx⟩:=hg;obtain⟨its,rv,p,hz⟩:=I.list hq;obtain⟨f0,f1,f2,f3,f4,f5⟩:=hf it (by simp);have hl:=rv.length;exact wpAny_pyNext_list_end (I.ok.hd hc) st p.isList (by simp;omega) λh' eb=>⟨FV,I.turned (t':=s.toks) (λb o hb e=>eb b o hb e) f0 f1 f3 f4 f5⟩
 self:=λ_ _ _ _ _ st h=>wpAny_pyIter_listiter st h
def B9 {P:WO}{w:WN}{K:WY}{tg:WW}(a it:WP):Bo P w K tg (eA K a) [it] it (λi h=>h.IsTupleIter it a i) where
 mem:=by simp
 obj:=λi h st b hb=>by
  have e:b=it:=by simpa using hb
  subst e;obtain⟨o,e,c,d⟩:=st;exact⟨o,e,λv z=>by rw[d] at z;cases z⟩
 keep:=λi h h' st k=>st.at λo e=>k it (by simp) o e
 item:=by
  intro X hP hw hK hc i WZ s σ H E I hf st hg;subst hP hw hK;obtain⟨xs,x,hq,hx⟩:=hg;obtain⟨its,rv,p,hz⟩:=I.tuple hq;obtain⟨u,hu,ru⟩:=rv.get hx;obtain⟨f0,f1,f2,f3,f4,f5⟩:=hf it (by simp);refine wpAny_pyNext_tuple_item st (show s.heap.IsTuple a its.toArray from p) (x:=u) (by simpa using hu) λh' st' sb=>?_;have I1:Zl X WZ σ H {s with heap:=h'}:=I.turned (t':=s.toks) (λb o hb e=>(sb.2 b hb).trans e) f0 f1 f3 f4 f5;obtain⟨o,e,c,d⟩:=id st';exact⟨u,FV,Ct (s:={s with heap:=h'}) e c d (by decide) ⟨x,H,I1,ru,⟨FV,λys hy=>by rw[I.tuple_inj hy hq];exact hx⟩,st',λb hb=>(hf b hb).1⟩⟩
 done:=by
  intro X hP hw hK hc i WZ s σ H E I hf st hg;subst hP hw hK;obtain⟨xs,hq,hx⟩:=hg;obtain⟨its,rv,p,hz⟩:=I.tuple hq;obtain⟨f0,f1,f2,f3,f4,f5⟩:=hf it (by simp);have hl:=rv.length;exact wpAny_pyNext_tuple_end (I.ok.hd hc) st (show s.heap.IsTuple a its.toArray from p) (by simp;omega) λh' eb=>⟨FV,I.turned (t':=s.toks) (λb o hb e=>eb b o hb e) f0 f1 f3 f4 f5⟩
 self:=λ_ _ _ _ _ st h=>wpAny_pyIter_tupleiter st h
def Aa {P:WO}{w:WN}{K:WY}{tg:WW}(it:WP)(lo:Int)(n:Nat):Bo P w K tg (iC lo n) [it] it (λi h=>IsRangeIter h it (lo+(i:Nat)*1) ((n:Int)-(i:Nat)) 1) where
 mem:=by simp
 obj:=λi h st b hb=>by
  have e:b=it:=by simpa using hb
  subst e;exact⟨_,st,λv z=>by
   have z':Data.fields _=Data.cell v:=z
   cases z'⟩
 keep:=λi h h' st k=>k it (by simp) _ st
 item:=by
  intro X hP hw hK hc i WZ s σ H E I hf st hg;subst hP hw hK;obtain⟨f0,f1,f2,f3,f4,f5⟩:=hf it (by simp);have W:=Walks.range (prog:=X.prog) (w:=X.w) (I.ok.hd hc) it lo 1 n;refine W.item i s _ _ hg st λv h' tk hv st' kk=>?_;obtain⟨t,rfl⟩:=hv;have I1:Zl X WZ σ H {s with heap:=h',toks:=tk}:=I.turned (λb o hb e=>kk b o (by simpa using hb) e) f0 f1 f3 f4 f5;refine⟨_,FV,Ct (s:={s with heap:=h',toks:=tk}) (n:="range_iterator") st' FV FV (by decide) ⟨.int (lo+i),H,I1,⟨t,?_⟩,⟨FV,FV⟩,st',λb hb=>(hf b hb).1⟩⟩;rw[Int.mul_one]
 done:=by
  intro X hP hw hK hc i WZ s σ H E I hf st hg;subst hP hw hK;obtain⟨f0,f1,f2,f3,f4,f5⟩:=hf it (by simp);exact wpAny_pyNext_range_end (I.ok.hd hc) st (by have:n<=i:=hg;omega) λh' eb=>⟨FV,I.turned (t':=s.toks) (λb o hb e=>eb b o hb e) f0 f1 f3 f4 f5⟩
 self:=λ_ _ _ _ _ st h=>wpAny_pyIter_rangeiter st h
section
variable {X:Cx}{tg:WW}
def Dz {WZ:List (WP×Obj)}{σ:St}{H:Hp}{s:WR}{R:It->Hp->Prop}{E:WQ->WR->Prop}{lo hi:Int}{t u v:Tok}{tk:Nat}(I:Zl X WZ σ H s)(h1: -(2^62)<=lo)(h2:lo<2^62)(h3: -(2^62)<=hi)(h4:hi<2^62)
  (q:R (iC lo (hi-lo).toNat) H):wpAny (model X.prog X.w) X.A (pyIter (.ref s.heap.objs.size)) (i6 X WZ σ tg R) E {s with heap:=s.heap.push {cls:=.type "range",data:=.fields #[.int lo t,.int hi u,.int 1 v]},toks:=tk}:=by
 refine wpAny_pyIter_range (IsRange.new ..) (small_one h1 h2 h3 h4) ?_;have I1:Zl X WZ σ H {s with heap:=s.heap.push {cls:=.type "range",data:=.fields #[.int lo t,.int hi u,.int 1 v]},toks:=tk}:=I.kept λb o e=>XC _ e;refine⟨(s.heap.push {cls:=.type "range",data:=.fields #[.int lo t,.int hi u,.int 1 v]}).objs.size,[(s.heap.push {cls:=.type "range",data:=.fields #[.int lo t,.int hi u,.int 1 v]}).objs.size],_,_,H,FV,
  I1.kept (t':=tk) λb o e=>XC _ e,Aa _ lo (hi-lo).toNat,?_,λb hb=>?_,q⟩
 ·have e1:lo+((0:Nat):Int)*1=lo:=by simp
  have e2:(((hi-lo).toNat:Nat):Int)-((0:Nat):Int)=Builtin.Range.rangeSize lo hi 1:=by rw[rangeSize_one];split<;>omega
  show IsRangeIter _ _ (lo+((0:Nat):Int)*1) ((((hi-lo).toNat:Nat):Int)-((0:Nat):Int)) 1;rw[e1,e2];exact XF _ FV
 ·have e:b=(s.heap.push {cls:=.type "range",data:=.fields #[.int lo t,.int hi u,.int 1 v]}).objs.size:=by simpa using hb
  subst e;exact I1.fpOk (XE _) (I1.hok.fresh (XE _))
def kI (ta:TA):TI:=λσ H R=>ta σ H λvs H1=>∃j:Int,vs=[.int j]/\ -(2^62)<=j/\j<2^62/\R (iC 0 j.toNat) H1
def kH (ta:TA):TI:=λσ H R=>ta σ H λvs H1=>∃i j:Int,vs=[.int i,.int j]/\(-(2^62)<=i/\i<2^62/\ -(2^62)<=j/\j<2^62)/\R (iC i (j-i).toNat) H1
def yX {a:WW}{ta:TA}{p pos:Pos}(hg:Gl X "range")(hm:X.mg "range"=none)(ha:PA X [a] ta)(hs:starEach [a] X.env=[(false,eval a X.env)]:=by rfl):PI X tg (.Call (.Name "range" p) [a] [] pos) (kI ta):=by
 intro WZ s σ H R I h;refine Call_ (Vi I hg hm boot_range (BI (Ja (ha pos WZ s σ H _ I h) λus s1 ⟨vs,H1,I1,r1,q1⟩=>?_) hs FV));obtain⟨j,e,q1,q2,q⟩:=q1;subst e
 cases r1 with
 | cons r rr=>
  cases rr
  obtain⟨t,rfl⟩:=r;exact call_range_1 (Dz I1 (by omega) (by omega) q1 q2 (by simpa using q))
def yW {a b:WW}{ta:TA}{p pos:Pos}(hg:Gl X "range")(hm:X.mg "range"=none)(ha:PA X [a,b] ta)(hs:starEach [a,b] X.env=[(false,eval a X.env),(false,eval b X.env)]:=by rfl)(hs2:starEach [b] X.env=[(false,eval b X.env)]:=by rfl):
  PI X tg (.Call (.Name "range" p) [a,b] [] pos) (kH ta):=by
 intro WZ s σ H R I h;refine Call_ (Vi I hg hm boot_range (BI (Ja (ha pos WZ s σ H _ I h) λus s1 ⟨vs,H1,I1,r1,q1⟩=>?_) (by rw[hs,hs2]) (by rw[hs2];rfl)));obtain⟨i,j,e,⟨q1,q2,q3,q4⟩,q⟩:=q1;subst e
 cases r1 with
 | cons r rr=>
  cases rr with
  | cons r' rr=>
   cases rr
   obtain⟨t,rfl⟩:=r;obtain⟨t',rfl⟩:=r';exact call_range_2 (Dz I1 q1 q2 q3 q4 q)
def mP (wi:TI)(g:TG)(tb:TS):TS:=λD σ H=>wi σ H λJ H1=>∃W:Nat->Nat->St->Hp->Prop,(∃m,W 0 m σ H1)/\∀i m σ H,W i m σ H->
 (J.stop i H/\D.nx σ H)\/(J.go i H/\∃N:St->Hp->Prop,(∀σ' H',N σ' H'->∃m',m'<m/\W (i+1) m' σ' H')/\∀x H',J.yld i H x H'->g x σ H' λσ2 H2=>tb {D with nx:=N,ct:=N,bk:=D.nx} σ2 H2)
def Ll (fp:List WP)(h:WU):List (WP×Obj):=fp.filterMap λb=>(h.get? b).map λo=>(b,o)
def T6 {fp:List WP}{h:WU}{b:WP}{o:Obj}(hb:b∈fp)(e:h.get? b=some o):(b,o)∈Ll fp h:=DK.mpr ⟨b,hb,by rw[e];rfl⟩
def jd {fp:List WP}{h:WU}{p:WP×Obj}(hp:p∈Ll fp h):p.1∈fp/\h.get? p.1=some p.2:=by
 obtain⟨b,hb,e⟩:=DK.mp hp
 cases q:h.get? b with
 | none=>rw[q] at e;cases e
 | some o=>
  rw[q] at e;have e':(b,o)=p:=YH e;subst e';exact⟨hb,q⟩
def Zl.pinned {WZ:List (WP×Obj)}{σ:St}{H:Hp}{s:WR}{fp:List WP}(I:Zl X WZ σ H s)(hf:∀b∈fp,Ou X WZ H b)(ho:∀b∈fp,∃o,s.heap.get? b=some o/\∀v,o.data≠.cell v):Zl X (WZ++Ll fp s.heap) σ H s:=
 I.pins_of λp hp=>(XS.mp hp).elim (λz=>I.pin p (XT _ z)) λz=>by
  obtain⟨hb,e⟩:=jd z;obtain⟨f0,f1,f2,_⟩:=hf p.1 hb;obtain⟨o,e',d⟩:=ho p.1 hb;rw[e] at e';cases e';exact⟨e,f0,f1,f2,d⟩
def Zl.unpinned {WZ pl:List (WP×Obj)}{σ:St}{H:Hp}{s:WR}(I:Zl X (WZ++pl) σ H s):Zl X WZ σ H s:=I.pins_of λp hp=>I.pin p (XT _ (BE _ hp))
def pD {iter:WW}{body:List WV}{wi:TI}{g:TG}{tb:TS}{pos:Pos}(hp:PassesOwn (model X.prog X.w) X.A X.env X.xe)(hc:X.calm=true)(hi:PI X tg iter wi)(hg:PG X tg g)(hb:Bu X body tb)
  (hs:∀x,foldedSetIterable iter X.env x=pure x:=by intro _;rfl):PS X (.For tg iter body [] pos) (mP wi g tb):=by
 intro WZ s σ H D I h;refine wpAny_For (Ja (hi WZ s σ H _ I h) λv s1 h1=>Ja h1 λitv s2 h2=>?_) hs;obtain⟨it,fp,tn,J,H2,e,I2,T,st2,f2,W,⟨m0,w0⟩,turn⟩:=h2;subst e;have stat:∀{H':Hp},(∀b∈fp,H' b=none)->∀b∈fp,Ou X WZ H' b:=λhn b hb=>⟨hn b hb,(f2 b hb).2⟩;refine codeAny_forLoop_any (λn s'=>∃i σ' H',Zl X WZ σ' H' s'/\tn i s'.heap/\(∀b∈fp,H' b=none)/\W i n σ' H') ?_ m0 ⟨0,σ,H2,I2,st2,λb hb=>(f2 b hb).1,w0⟩;rintro n s3 ⟨i,σ3,H3,I3,st3,fr3,w3⟩
 rcases turn i n σ3 H3 w3 with⟨stop,qn⟩ | ⟨go,N,hN,step⟩
 ·refine wpAny_passesOwn hp (Ja (T.done X FV FV FV hc i WZ s3 σ3 H3 X.xe I3 (stat fr3) st3 stop) λr s4 ⟨hr,I4⟩=>?_);subst hr;exact wpAny_execs_nil ⟨σ3,H3,I4,qn⟩
 ·refine wpAny_passesOwn hp (Ja (T.item X FV FV FV hc i WZ s3 σ3 H3 X.xe I3 (stat fr3) st3 go) λr s4 ⟨u,hr,h4⟩=>?_);subst hr;refine wpAny_passesOwn hp (Ja h4 λ_ s5 ⟨x,H5,I5,r5,y5,st5,fr5⟩=>?_);have I5':=I5.pinned (stat fr5) (T.obj _ _ st5);refine wpAny_passesOwn hp (Ja (hg _ s5 σ3 H5 x u _ I5' r5 (step x H5 y5)) λ_ s6 ⟨σ6,H6,I6,q6⟩=>?_);refine wpAny_passesOwn hp (Ja (hb _ s6 σ6 H6 _ I6 q6) λf s7 q7=>?_);have again:∀{σ7:St} {H7:Hp},Zl X (WZ++Ll fp s5.heap) σ7 H7 s7->N σ7 H7->∃m,m<n/\∃i σ' H',Zl X WZ σ' H' s7/\tn i s7.heap/\(∀b∈fp,H' b=none)/\W i m σ' H':=λ{σ7 H7} I7 n7=>by
   obtain⟨m',hm,w7⟩:=hN σ7 H7 n7;refine⟨m',hm,i+1,σ7,H7,I7.unpinned,T.keep _ _ _ st5 λb hb o e=>(I7.pin (b,o) (XT _ (XT _ (T6 hb e)))).1,λb hb=>?_,w7⟩;obtain⟨o,e,d⟩:=T.obj _ _ st5 b hb;exact(I7.pin (b,o) (XT _ (XT _ (T6 hb e)))).2.1
  cases f with
  | next=>obtain⟨σ7,H7,I7,n7⟩:=q7;exact again I7 n7
  | cont=>obtain⟨σ7,H7,I7,n7⟩:=q7;exact again I7 n7
  | brk=>obtain⟨σ7,H7,I7,q7⟩:=q7;exact⟨σ7,H7,I7.unpinned,q7⟩
  | ret v=>obtain⟨x7,σ7,H7,I7,r7,q7⟩:=q7;exact⟨x7,σ7,H7,I7.unpinned,r7,q7⟩
end
abbrev R2:=V->V->Hp->VK->Prop
def N0 (X:Cx)(f:WQ->WQ->Sem WQ)(r:R2):Prop:=
 ∀(WZ:List (WP×Obj)) (s:WR) (σ:St) (H:Hp) (x y:V) (v u:WQ) (Q:VK),Zl X WZ σ H s->Z3 x v->Z3 y u->r x y H Q->
  wpAny (model X.prog X.w) X.A (f v u) (EP X WZ σ Q) X.xe s
def fQ (X:Cx)(f:WQ->Sem WQ)(r:V->Hp->VK->Prop):Prop:=
 ∀(WZ:List (WP×Obj)) (s:WR) (σ:St) (H:Hp) (x:V) (v:WQ) (Q:VK),Zl X WZ σ H s->Z3 x v->r x H Q->
  wpAny (model X.prog X.w) X.A (f v) (EP X WZ σ Q) X.xe s
def Vp (X:Cx)(f:WQ)(r:List V->Hp->VK->Prop):Prop:=
 ∀(WZ:List (WP×Obj)) (s:WR) (σ:St) (H:Hp) (xs:List V) (us:List WQ) (Q:VK),Zl X WZ σ H s->Z0 xs us->r xs H Q->
  wpAny (model X.prog X.w) X.A (call f us) (EP X WZ σ Q) X.xe s
def fS (X:Cx)(r:V->Hp->(Bool->Hp->Prop)->Prop):Prop:=
 ∀(WZ:List (WP×Obj)) (s:WR) (σ:St) (H:Hp) (x:V) (v:WQ) (Q:Bool->Hp->Prop),Zl X WZ σ H s->Z3 x v->r x H Q->
  wpAny (model X.prog X.w) X.A (truthy v) (TP X WZ σ Q) X.xe s
def mI (r:R2)(ta tb:TE):TE:=λσ H Q=>ta σ H λx H1=>tb σ H1 λy H2=>r x y H2 Q
def eM (r:V->Hp->VK->Prop)(ta:TE):TE:=λσ H Q=>ta σ H λx H1=>r x H1 Q
def rI (C:Int->Int->Prop)(g:Int->Int->V):R2:=λx y H Q=>∃i j,x=.int i/\y=.int j/\C i j/\Q (g i j) H
def mj (g:Int->Int->V):R2:=λx y H Q=>∃i j,x=.int i/\y=.int j/\Q (g i j) H
def rU (g:Int->V):V->Hp->VK->Prop:=λx H Q=>∃i,x=.int i/\Q (g i) H
section
variable {X:Cx}{a b c:WW}{ta tb tc:TE}{pos:Pos}
def nC (ha:PE X a ta)(hb:PE X b tb){WZ:List (WP×Obj)}{s:WR}{σ:St}{H:Hp}{R:V->V->Hp->Prop}(I:Zl X WZ σ H s)
  (h:ta σ H λx H1=>tb σ H1 λy H2=>R x y H2) {Q:WQ->WR->Prop} {f:WQ->WQ->Sem WQ}
  (hf:∀v u s2 x y H2,Zl X WZ σ H2 s2->Z3 x v->Z3 y u->R x y H2->wpAny (model X.prog X.w) X.A (f v u) Q X.xe s2):
  wpAny (model X.prog X.w) X.A (eval a X.env) (λv s₁=>wpAny (model X.prog X.w) X.A (eval b X.env) (λu s₂=>wpAny (model X.prog X.w) X.A (f v u) Q X.xe s₂) X.xe s₁) X.xe s:=by
 refine Ja (ha WZ s σ H _ I h) λv s1 ⟨x,H1,I1,r1,q1⟩=>?_;refine Ja (hb WZ s1 σ H1 _ I1 q1) λu s2 ⟨y,H2,I2,r2,q2⟩=>?_;exact hf v u s2 x y H2 I2 r1 r2 q2
def lU {op:Operator}{r:R2}(ho:N0 X (binaryOp op) r)(ha:PE X a ta)(hb:PE X b tb):PE X (.BinOp a op b pos) (mI r ta tb):=by
 intro WZ s σ H Q I h;exact wpAny_BinOp (nC ha hb I h λv u s2 x y H2 I2 rx ry q=>ho WZ s2 σ H2 x y v u Q I2 rx ry q)
def lS {op:UnaryOp}{r:V->Hp->VK->Prop}(ho:fQ X (unaryOp op) r)(ha:PE X a ta):PE X (.UnaryOp op a pos) (eM r ta):=by
 intro WZ s σ H Q I h;exact UnaryOp_ (Ja (ha WZ s σ H _ I h) λv s1 ⟨x,H1,I1,r1,q1⟩=>ho WZ s1 σ H1 x v Q I1 r1 q1)
def iO {f:WQ->WQ->Sem WQ}{C:Int->Int->Prop}{g:Int->Int->Int}
  (rule:∀(i j:Int) (t u:Tok) (s:WR) (Q:WQ->WR->Prop) (E:WQ->WR->Prop),C i j->Q (.int (g i j) s.toks) {s with toks:=s.toks+1}->wpAny (model X.prog X.w) X.A (f (.int i t) (.int j u)) Q E s):
  N0 X f (rI C λi j=>.int (g i j)):=by
 intro WZ s σ H x y v u Q I rx ry h;obtain⟨i,j,rfl,rfl,hc,q⟩:=h;obtain⟨t,rfl⟩:=rx;obtain⟨t',rfl⟩:=ry;exact rule i j t t' s _ _ hc ⟨.int (g i j),H,I.tok _,⟨_,FV⟩,q⟩
def kg {f:WQ->WQ->Sem WQ}{g:Int->Int->Int}
  (rule:∀(i j:Int) (t u:Tok) (s:WR) (Q:WQ->WR->Prop) (E:WQ->WR->Prop),Q (.int (g i j) s.toks) {s with toks:=s.toks+1}->wpAny (model X.prog X.w) X.A (f (.int i t) (.int j u)) Q E s):
  N0 X f (mj λi j=>.int (g i j)):=by
 intro WZ s σ H x y v u Q I rx ry h;obtain⟨i,j,rfl,rfl,q⟩:=h;obtain⟨t,rfl⟩:=rx;obtain⟨t',rfl⟩:=ry;exact rule i j t t' s _ _ ⟨.int (g i j),H,I.tok _,⟨_,FV⟩,q⟩
def kh {f:WQ->WQ->Sem WQ}{g:Int->Int->Bool}
  (rule:∀(i j:Int) (t u:Tok) (s:WR) (Q:WQ->WR->Prop) (E:WQ->WR->Prop),Q (.bool (g i j)) s->wpAny (model X.prog X.w) X.A (f (.int i t) (.int j u)) Q E s):
  N0 X f (mj λi j=>.bl (g i j)):=by
 intro WZ s σ H x y v u Q I rx ry h;obtain⟨i,j,rfl,rfl,q⟩:=h;obtain⟨t,rfl⟩:=rx;obtain⟨t',rfl⟩:=ry;exact rule i j t t' s _ _ ⟨.bl (g i j),H,I,FV,q⟩
def iG (i j:Int):Prop:=0<j/\j<1073741824
def iF (i j:Int):Prop:=0<=j/\j<=1000000/\i.natAbs<2^64
def uE (i j:Int):Prop:=(-(2^64)<i/\i<2^64)\/(-(2^64)<j/\j<2^64)
def uE.ok {i j:Int}(h:uE i j):IntMulOk i j:=by
 rcases h with⟨h1,h2⟩ | ⟨h1,h2⟩
 ·exact .of_left (intBits_le_64 h1 h2)
 ·exact .of_right (intBits_le_64 h1 h2)
def oi:N0 X (binaryOp .Add) (mj λi j=>.int (i+j)):=kg λ_ _ _ _ _ _ _ q=>add_int q
def pW:N0 X (binaryOp .Sub) (mj λi j=>.int (i-j)):=kg λ_ _ _ _ _ _ _ q=>sub_int q
def pY:N0 X (binaryOp .Mult) (rI uE λi j=>.int (i*j)):=iO λ_ _ _ _ _ _ _ hc q=>mul_int q hc.ok
def sf:N0 X (binaryOp .FloorDiv) (rI iG λi j=>.int (i/j)):=iO λi j _ _ _ _ _ hc q=>by
 have h1:(0:Int)<j:=hc.1;have h2:j<1073741824:=hc.2;exact floordiv_int (by omega) (by rw[Int.fdiv_eq_ediv_of_nonneg i (by omega)];exact q) (.inl (PyProof.noPylong_small (by omega)))
def pZ:N0 X (binaryOp .Mod) (rI (λ_ j=>0<j) λi j=>.int (i%j)):=iO λi j _ _ _ _ _ hc q=>by
 have h1:(0:Int)<j:=hc;exact mod_int' (by omega) (by rw[Int.fmod_eq_emod_of_nonneg i (by omega)];exact q)
def pX:N0 X (binaryOp .Pow) (rI iF λi j=>.int (i^j.toNat)):=iO λ_ _ _ _ _ _ _ hc q=>pow_int_small hc.1 hc.2.1 hc.2.2 q
def du {f:WQ->Sem WQ}{g:Int->Int}
  (rule:∀(i:Int) (t:Tok) (s:WR) (Q:WQ->WR->Prop) (E:WQ->WR->Prop),Q (.int (g i) s.toks) {s with toks:=s.toks+1}->wpAny (model X.prog X.w) X.A (f (.int i t)) Q E s):
  fQ X f (rU λi=>.int (g i)):=by
 intro WZ s σ H x v Q I rx h;obtain⟨i,rfl,q⟩:=h;obtain⟨t,rfl⟩:=rx;exact rule i t s _ _ ⟨.int (g i),H,I.tok _,⟨_,FV⟩,q⟩
def qI:fQ X (unaryOp .USub) (rU λi=>.int (-i)):=du λ_ _ _ _ _ q=>neg_int q
end
def dJ:V->V->Bool
 | .non,.non=>true | .non,.int _=>true | .int _,.non=>true | .non,.bl _=>true | .bl _,.non=>true | .non,.str _=>true | .str _,.non=>true
 | .int _,.int _=>true | .bl _,.bl _=>true | .str _,.str _=>true | .byt _,.byt _=>true
 | .int _,.str _=>true | .str _,.int _=>true | .bl _,.str _=>true | .str _,.bl _=>true
 | _,_=>false
section
variable {X:Cx}{a b c:WW}{ta tb tc:TE}{pos:Pos}
def vx {WZ:List (WP×Obj)}{σ:St}{H:Hp}{s:WR}{Q:VK}{k k':Bool}(I:Zl X WZ σ H s)(q:Q (.bl k) H)(e:k=k'):EP X WZ σ Q (.bool k') s:=by
 subst e;exact⟨.bl k,H,I,FV,q⟩
def ke:N0 X (compareOp .Lt) (mj λi j=>.bl (decide (i<j))):=kh λ_ _ _ _ _ _ _ q=>lt_int q
def kf:N0 X (compareOp .Gt) (mj λi j=>.bl (decide (j<i))):=kh λ_ _ _ _ _ _ _ q=>gt_int q
def jb:N0 X (compareOp .Lt) (λx y H Q=>∃i j,x=.str i/\y=.str j/\Q (.bl (decide (i.cps.toList<j.cps.toList))) H):=by
 intro WZ s σ H x y v u Q I rx ry h;obtain⟨i,j,rfl,rfl,q⟩:=h;obtain⟨t,rfl⟩:=rx;obtain⟨t',rfl⟩:=ry;exact lt_str (vx I q FV)
def og:N0 X (compareOp .Is) (λx y H Q=>y=.non/\Q (.bl (decide (x=.non))) H):=by
 intro WZ s σ H x y v u Q I rx ry h;obtain⟨rfl,q⟩:=h
 cases ry
 refine is_none_gen (vx I q ?_)
 cases x<;>first
  | (cases rx;rfl)
  | (obtain⟨t,rfl⟩:=rx;rfl)
def da:HO->Bool
 | .lst _=>true
 | .ins _ _ _=>true
 | _=>false
def N0.or {f:WQ->WQ->Sem WQ}{r r':R2}(h:N0 X f r)(h':N0 X f r'):N0 X f (λx y H Q=>r x y H Q\/r' x y H Q):=by
 intro WZ s σ H x y v u Q I rx ry q
 rcases q with q | q
 ·exact h WZ s σ H x y v u Q I rx ry q
 ·exact h' WZ s σ H x y v u Q I rx ry q
def wS (b:WW){op:CmpOp}(h:op≠.In:=by decide)(h2:op≠.NotIn:=by decide):behindInMarks op b=false:=by
 have e1:(op==CmpOp.In)=false:=by cases op<;>first | rfl | exact absurd FV h
 have e2:(op==CmpOp.NotIn)=false:=by cases op<;>first | rfl | exact absurd FV h2
 cases b<;>simp[behindInMarks,e1,e2]
def tY {op:CmpOp}{r:R2}(ho:N0 X (compareOp op) r)(ha:PE X a ta)(hb:PE X b tb)(hm:behindInMarks op b=false):PE X (.Compare a [op] [b] pos) (mI r ta tb):=by
 intro WZ s σ H Q I h;exact wpAny_Compare1 (nC ha hb I h λv u s2 x y H2 I2 rx ry q=>ho WZ s2 σ H2 x y v u Q I2 rx ry q) hm
def rY (t:TE):TT:=λσ H Q=>t σ H λx H'=>∃k,x=.bl k/\Q k H'
def tL {op:CmpOp}{r:R2}(ho:N0 X (compareOp op) r)(ha:PE X a ta)(hb:PE X b tb)(hm:behindInMarks op b=false):PT X (.Compare a [op] [b] pos) (rY (mI r ta tb)):=by
 intro WZ s σ H Q I h;refine wpAny_isTrue_Compare1 (Ja (ha WZ s σ H _ I h) λv s1 ⟨x,H1,I1,r1,q1⟩=>Ja (hb WZ s1 σ H1 _ I1 q1) λu s2 ⟨y,H2,I2,r2,q2⟩=>
  Ja (ho WZ s2 σ H2 x y v u _ I2 r1 r2 q2) λc s3 ⟨z,H3,I3,r3,k,e,q3⟩=>?_) hm
 subst e
 cases r3
 exact wpAny_truthy_bool ⟨H3,I3,q3⟩
def gq (r r':R2)(ta tb tc:TE):TE:=λσ H Q=>ta σ H λx H1=>tb σ H1 λy H2=>r x y H2 λz H3=>∃k,z=.bl k/\
 (if k=true then tc σ H3 λw' H4=>r' y w' H4 Q else Q (.bl false) H3)
def nU (K:WY)(x:V)(H:Hp)(k:Bool):Prop:=
 match x with
 | .non=>k=false
 | .bl b=>k=b
 | .int i=>k=(i !=0)
 | .str y=>y.length<=sizeLine/\k=((y.length:Int) !=0)
 | .byt y=>y.size<=sizeLine/\k=((y.size:Int) !=0)
 | .ref p=>(∃xs,Wl K H p xs/\k=!xs.isEmpty)\/(∃xs,Vx K H p xs/\k=!xs.isEmpty)\/∃kvs,H p=some (.dK kvs)/\k=!kvs.isEmpty
 | _=>False
def Az {κ:Type}{kvs:List (κ×V)}{vs:List (κ×WQ)}(r:KV kvs vs):(!vs.isEmpty)=!kvs.isEmpty:=by
 cases r<;>rfl
def Ke {xs:List V}{its:List WQ}(r:Z0 xs its):(!its.toArray.isEmpty)=!xs.isEmpty:=by
 cases r<;>simp
def Q8:(sizeLine:Nat)<2^63:=by rw[sizeLine_eq];decide
def qL:fS X (λx H Q=>∃k,nU X.K x H k/\Q k H):=by
 intro WZ s σ H x v Q I rx h;obtain⟨k,e,q⟩:=h;have hl:=Q8;have hs:sizeLine=16777216:=sizeLine_eq
 cases x with
 | non=>
  cases rx
  have e':k=false:=e;subst e';exact truthy_none ⟨H,I,q⟩
 | bl b=>
  cases rx
  have e':k=b:=e;subst e';exact wpAny_truthy_bool ⟨H,I,q⟩
 | int i=>
  obtain⟨t,rfl⟩:=rx;have e':k=(i !=0):=e;subst e';exact PySem.P.truthy_int ⟨H,I,q⟩
 | str y=>
  obtain⟨t,rfl⟩:=rx;obtain⟨hy,e'⟩:y.length<=sizeLine/\k=((y.length:Int) !=0):=e;subst e';exact PySem.P.truthy_str (by omega) ⟨H,I.tok _,q⟩
 | byt y=>
  obtain⟨t,rfl⟩:=rx;obtain⟨hy,e'⟩:y.size<=sizeLine/\k=((y.size:Int) !=0):=e;subst e';exact W.truthy_bytes (by omega) ⟨H,I.tok _,q⟩
 | ref p=>
  cases rx
  have e':(∃xs,Wl X.K H p xs/\k=!xs.isEmpty)\/(∃xs,Vx X.K H p xs/\k=!xs.isEmpty)\/∃kvs,H p=some (.dK kvs)/\k=!kvs.isEmpty:=e
  rcases e' with⟨xs,hx,e'⟩ | ⟨xs,hx,e'⟩ | ⟨kvs,hx,e'⟩
  ·subst e';obtain⟨its,r,pl,hz⟩:=I.list hx;have hlen:=r.length;exact wpAny_truthy_list pl.isList (by simp only[List.size_toArray];omega) ⟨H,I.tok _,by rw[Ke r];exact q⟩
  ·subst e';obtain⟨its,r,pl,hz⟩:=I.tuple hx;have hlen:=r.length;exact truthy_tuple pl (by simp only[List.size_toArray];omega) ⟨H,I.tok _,by rw[Ke r];exact q⟩
  ·subst e';obtain⟨hz,hS,vs,r,m⟩:kvs.length<=sizeLine/\(p==sysModules)=false/\∃vs,KV kvs vs/\s.heap.DictOf (Yw X.prog X.w) p vs:=I.hok p _ hx;have hlen:kvs.length=vs.length:=Paired.length r;exact wpAny_truthy_dict hS m (by omega) ⟨H,I.tok _,by rw[Az r];exact q⟩
 | _=>exact(show False from e).elim
def wf (ha:PE X a ta)(he:∀whole,isTrue a X.env whole=(do let v <-whole;standAt a.pos;holding [v] (truthy v))):
  PT X a (λσ H Q=>ta σ H λx H'=>∃k,nU X.K x H' k/\Q k H'):=by
 intro WZ s σ H Q I h;exact isTrue_plain (Ja (ha WZ s σ H _ I h) λv s1 ⟨x,H1,I1,r1,q1⟩=>qL WZ s1 σ H1 x v Q I1 r1 q1) (he _)
def Ap:N0 X (binaryOp .Add) (λx y H Q=>∃i j,x=.str i/\y=.str j/\i.length+j.length<=sizeLine/\Q (.str (i++j)) H):=by
 intro WZ s σ H x y v u Q I rx ry h;obtain⟨i,j,rfl,rfl,hz,q⟩:=h;obtain⟨t,rfl⟩:=rx;obtain⟨t',rfl⟩:=ry;exact add_str (λt' tk=>⟨.str (i++j),H,I.tok _,⟨_,FV⟩,q⟩) hz
def Qq {x:V}{us:List WQ}(r:Z0 [x] us):∃u,us=[u]/\Z3 x u:=by
 cases r with
 | cons r1 r2=>cases r2;exact⟨_,FV,r1⟩
def Ej:Vp X (.type "str") (λxs H Q=>∃i,xs=[.int i]/\i.natAbs.log2<1920/\Q (.str (toString i)) H):=by
 intro WZ s σ H xs us Q I r h;obtain⟨i,rfl,hz,q⟩:=h;obtain⟨u,rfl,t,rfl⟩:=Qq r;exact PySem.P.str_of_int hz ⟨.str _,H,I.tok _,⟨_,FV⟩,q⟩
def cD (K:WY)(x:V)(H:Hp)(n:Nat):Prop:=
 match x with
 | .str y=>y.length<=sizeLine/\n=y.length
 | .byt y=>y.size<=sizeLine/\n=y.size
 | .ref p=>(∃xs,Wl K H p xs/\n=xs.length)\/∃xs,Vx K H p xs/\n=xs.length
 | _=>False
end
structure zG (h:Heap)(x dx C:Addr)(mA:Str->Option Value):Prop where
 obj:h.get? x=some (W.instObj C dx)
 ns:h.Ns1 dx mA
 ne:dx≠x
def jh {h:WU}{dx:WP}{mA:Str->Option WQ}(n:h.Ns1 dx mA):∃od,h.get? dx=some od/\∀name,W.lookIn name od=some (mA name):=by
 obtain⟨o,es,ep,ho,hd,hk,_,hm⟩:=n;refine⟨o,ho,λname=>?_⟩;have e:=hm name;unfold nsFind findBy at e;rw[<-Array.find?_toList] at e;unfold W.lookIn;rw[hd];dsimp only
 split
 ·rename_i y q;rw[q] at e;exact congrArg some e
 ·rename_i q;rw[q] at e;have a:es.toList.any (·.refKey)=false:=by
   rw[List.any_eq_false];intro y hy;obtain⟨z,t,hkey⟩:=hk y (Array.mem_toList_iff.mp hy);simp[DictEntry.refKey,hkey]
  have a':¬es.toList.any (·.refKey)=true:=by rw[a];exact YJ
  rw[XX a'];exact congrArg some e
def zG.look {h:WU}{x dx C:WP}{mA:Str->Option WQ}(I:zG h x dx C mA):∃od,W.InstAt h x (W.instObj C dx) C (some od)/\∀name,W.lookIn name od=some (mA name):=
 let ⟨od,ho,hl⟩:=jh I.ns
 ⟨od,⟨I.obj,FV,FV,ho⟩,hl⟩
section
variable {prog:WO}{w:WN}{A:WM}{E:WQ->WR->Prop}{s:WR}{K:WY}{x dx C f:WP}{mA:Str->Option WQ}{name:Str}{v:WQ}
def sL {expr:Bool}{Q:WQ->WR->Prop}(X:K.In s.heap)(I:zG s.heap x dx C mA)(hg:W.plainGet K C name=true)(hh:W.hasDictIn K C=true)
  (ha:W.findIn K (.ref C) name=some none) (hv:mA name=some v) (hv':W.handedIn v=true) (h:Q v {s with toks:=s.toks+1}):
  wpAny (model prog w) A (getAttr (.ref x) name expr) Q E s:=by
 obtain⟨od,J,hl⟩:=I.look;exact W.get_value X J (W.plainGet_of hg).1 (W.findObj_own hh ha FV (by rw[hl,hv])) hv' h
def vp {pl:Sem Bool}{Q:WQ×List WQ->WR->Prop}(X:K.In s.heap)(I:zG s.heap x dx C mA)(hg:W.plainGet K C name=true)
  (hf:W.findIn K (.ref C) name=some (some (.ref f))) (ht:W.isFn K (.ref f)=true) (hv:mA name=none) (h:Q (.ref f,[.ref x]) s):
  wpAny (model prog w) A (getMethod (.ref x) name pl) Q E s:=by
 obtain⟨od,J,hl⟩:=I.look;exact W.method_fn X J (W.plainGet_of hg).1 (W.plainGet_of hg).2 hf (beq_iff_eq.mp ht) (by show(W.lookIn name od).map (·.isSome)=some false;rw[hl,hv];rfl) h
def tu {ns:List Str}{Q:Unit->WR->Prop}(X:K.In s.heap)(I:zG s.heap x dx C mA)
  (hs:W.findIn K (.ref C) "__setattr__"=some (some (.builtin "object.__setattr__"))) (hp:W.plainOver K C=true) (ht:W.takerIn K C name=some none) (hh:W.hasDictIn K C=true)
  (hw:PySem.Within mA ns) (hsz:ns.length<=sizeLine)
  (h:∀h',zG h' x dx C (λy=>if y=name then some v else mA y)->Heap.SameBut dx s.heap h'->Q () {s with heap:=h',toks:=s.toks+2}):
  wpAny (model prog w) A (setAttr (.ref x) name v) Q E s:=by
 obtain⟨od,J,hl⟩:=I.look;refine W.set_plain X J hs (W.osa_open (s:={s with toks:=s.toks+1}) (r:=none) X J hp ht λb=>?_);obtain⟨cd,hc,hd'⟩:=W.any_some hh;have hx:s.heap.get? x=some ⟨.ref C,some dx,.plain,#[]⟩:=I.obj;refine XA (XB (XA (XA (wpAny_loadPart hx (XA (W.Looks.here (s:={s with toks:=s.toks+1}) (W.looks_clsIn X hc) ?_))))));rw[hd'];refine XB (a:=some dx) (XA (XB (XA ?_)));refine wpAny_nsSet1 (s:={s with toks:=s.toks+1}) I.ns λh' hn2 hs2=>?_;obtain⟨oD,esD,epD,hoD,hdD,hcD⟩:=hn2.count (PySem.Within.cons name v hw);refine XA (wpAny_lookBehind hoD (by rw[hdD];exact pastItsLine_dict (XN hcD (by rw[YF];omega))) ?_);exact XB (h _ ⟨(hs2.2 _ (Ne.symm I.ne)).trans I.obj,hn2,I.ne⟩ hs2)
def wX {R:Result->WR->Prop}{vs:List WQ}{kw:List (Str×WQ)}(X:K.In s.heap)(hm:W.makesIn K C=true)
  (hi:W.findIn K (.ref C) "__init__"=some (some (.ref f))) (hf:W.typeIn K (.ref f)=some (.type "function"))
  (h:codeAny (model prog w) (A.under (.builtin "type.__call__" ⟨.ref C::vs,kw⟩)) (.call (.ref f) ⟨.ref (s.heap.objs.size+1)::vs,kw⟩) (W.InitBack (s.heap.objs.size+1) R)
   {s with heap:=(s.heap.push W.emptyDict).push (W.instObj C s.heap.objs.size)}):
  codeAny (model prog w) A (.call (.ref C) ⟨vs,kw⟩) R s:=by
 obtain⟨hh,g,d,t,os⟩:=s;exact W.make_core (W.makes_of X hm) (W.looks_findIn X hi) (λself=>W.bind_fn X self hf) (.inl FV) h
end
def Tc (f:Str)(v:V):List (Str×V)->List (Str×V)
 | []=>[(f,v)]
 | (g,x)::r=>if g=f then(g,v)::r else(g,x)::Tc f v r
def Nq (f g:Str)(v:V):∀fs:List (Str×V),(Tc f v fs).lookup g=if g=f then some v else fs.lookup g
 | []=>by
  show List.lookup g [(f,v)]=_;by_cases h:g=f
  ·have hb:(g==f)=true:=beq_iff_eq.mpr h;simp only[List.lookup,hb,if_pos h]
  ·have hb:(g==f)=false:=beq_eq_false_iff_ne.mpr h;simp only[List.lookup,hb,if_neg h]
 | (k,x)::r=>by
  have ih:=Nq f g v r;rw[show Tc f v ((k,x)::r)=(if k=f then(k,v)::r else(k,x)::Tc f v r) from rfl];by_cases hk:k=f
  ·rw[XY hk];by_cases h:g=k
   ·have hb:(g==k)=true:=beq_iff_eq.mpr h;simp only[List.lookup,hb,if_pos (h.trans hk)]
   ·have hb:(g==k)=false:=beq_eq_false_iff_ne.mpr h;simp only[List.lookup,hb,if_neg (λe:g=f=>h (e.trans hk.symm))]
  ·rw[XX hk];by_cases h:g=k
   ·have hb:(g==k)=true:=beq_iff_eq.mpr h;simp only[List.lookup,hb,if_neg (λe:g=f=>hk (h.symm.trans e))]
   ·have hb:(g==k)=false:=beq_eq_false_iff_ne.mpr h;simp only[List.lookup,hb];exact ih
def Na (f:Str)(v:V):∀fs:List (Str×V),f∈(Tc f v fs).map (·.1)/\∀g,g∈fs.map (·.1)->g∈(Tc f v fs).map (·.1)
 | []=>⟨by simp[Tc],λg h=>by simp at h⟩
 | (k,x)::r=>by
  obtain⟨i1,i2⟩:=Na f v r;rw[show Tc f v ((k,x)::r)=(if k=f then(k,v)::r else(k,x)::Tc f v r) from rfl];by_cases hk:k=f
  ·rw[XY hk];subst hk;exact⟨by simp,λg h=>by simpa using h⟩
  ·rw[XX hk];refine⟨?_,λg h=>?_⟩
   ·rw[YI];exact XV _ i1
   ·rw[YI] at h |-
    rcases BD.mp h with e | e
    ·exact BD.mpr (.inl e)
    ·exact XV _ (i2 g e)
def Nr (f:Str)(v:V):∀fs:List (Str×V),(Tc f v fs).length<=fs.length+1
 | []=>by simp[Tc]
 | (k,x)::r=>by
  have ih:=Nr f v r;rw[show Tc f v ((k,x)::r)=(if k=f then(k,v)::r else(k,x)::Tc f v r) from rfl];by_cases hk:k=f
  ·rw[XY hk,YF,YF];omega
  ·rw[XX hk,YF,YF];omega
def Qp.some_of {v:V}{o:Option WQ}(r:Qp (some v) o):∃u,o=some u/\Z3 v u:=by
 cases o with
 | none=>exact(show False from r).elim
 | some u=>exact⟨u,FV,r⟩
def Qp.none_of {o:Option WQ}(r:Qp none o):o=none:=by
 cases o with
 | none=>rfl
 | some u=>exact(show False from r).elim
def jv {v:V}{u:WQ}(r:Z3 v u):W.handedIn u=true:=by
 cases v with
 | non=>cases (show u=Value.none from r);rfl
 | bl b=>cases (show u=Value.bool b from r);rfl
 | int i=>obtain⟨t,e⟩:=(show ∃t,u=Value.int i t from r);cases e;rfl
 | str x=>obtain⟨t,e⟩:=(show ∃t,u=Value.str x t from r);cases e;rfl
 | byt b=>obtain⟨t,e⟩:=(show ∃t,u=Value.bytes b t from r);cases e;rfl
 | flt b=>obtain⟨t,e⟩:=(show ∃t,u=Value.float b t from r);cases e;rfl
 | ref a=>cases (show u=Value.ref a from r);rfl
 | ty n=>cases (show u=Value.type n from r);rfl
section
variable {P:WO}{w:WN}{H H':Hp}{h h':WU}{a C dx:WP}{fs fs':List (Str×V)}
def Fo (hok:Vy P w H h)(e:H a=some (.ins C dx fs)):∃mA,zG h a dx C mA/\(∀f,Qp (fs.lookup f) (mA f))/\PySem.Within mA (fs.map (·.1))/\fs.length<=1000/\H dx=some (.own a):=by
 obtain⟨d,z,ne,ob,mA,n,r,q⟩:=(show Y2 P w H h a (.ins C dx fs) from hok a _ e);exact⟨mA,⟨ob,n,ne⟩,r,q,z,d⟩
end
structure B3 (K:W.Frag)(C:Addr):Prop where
 pg:W.plainGet K C Str.empty=true
 hd:W.hasDictIn K C=true
 po:W.plainOver K C=true
 sa:W.findIn K (.ref C) "__setattr__"=some (some (.builtin "object.__setattr__"))
def B3.get {K:WY}{C:WP}(c:B3 K C)(f:Str):W.plainGet K C f=true:=c.pg
def Sg (K:WY)(C:WP)(f:Str):Prop:=W.findIn K (.ref C) f=some none
def Sg.taker {K:WY}{C:WP}{f:Str}(n:Sg K C f):W.takerIn K C f=some none:=by
 unfold W.takerIn;rw[show W.findIn K (.ref C) f=some none from n];rfl
structure cJ (K:W.Frag)(C:Addr)(f:Str)(v:V)(u:Value):Prop where
 at_:W.findIn K (.ref C) f=some (some u)
 rel:Z3 v u
 get:W.specialIn K u "__get__"=some none
 cp:W.copiedNames.contains f=false
structure jK (K:W.Frag)(C:Addr)(m:Str)(f:Addr):Prop where
 at_:W.findIn K (.ref C) m=some (some (.ref f))
 fn:W.isFn K (.ref f)=true
 kp:W.keepIn K (.ref f)=true
section
variable {X:Cx}{WZ:List (WP×Obj)}{σ:St}{H:Hp}{s:WR}{a C dx:WP}{fs:List (Str×V)}{f:Str}{v:V}{A:WM}{E:WQ->WR->Prop}
def zf {b:Bool}{Q:WQ->WR->Prop}(I:Zl X WZ σ H s)(e:H a=some (.ins C dx fs))(c:B3 X.K C)(n:Sg X.K C f)(l:fs.lookup f=some v)
  (h:∀u s',Zl X WZ σ H s'->Z3 v u->Q u s'):wpAny (model X.prog X.w) A (getAttr (.ref a) f b) Q E s:=by
 obtain⟨mA,O,r,_,_,_⟩:=Fo I.hok e;obtain⟨u,hu,ru⟩:=Qp.some_of (v:=v) (o:=mA f) (by rw[<-l];exact r f);exact sL I.kIn O (c.get f) c.hd n hu (jv ru) (h u _ (I.tok _) ru)
def Ki {m:Str}{g:WP}{pl:Sem Bool}{Q:WQ×List WQ->WR->Prop}(I:Zl X WZ σ H s)(e:H a=some (.ins C dx fs))(c:B3 X.K C)(k:jK X.K C m g)(l:fs.lookup m=none)
  (h:Q (.ref g,[.ref a]) s):wpAny (model X.prog X.w) A (getMethod (.ref a) m pl) Q E s:=by
 obtain⟨mA,O,r,_,_,_⟩:=Fo I.hok e;have hn:mA m=none:=Qp.none_of (by rw[<-l];exact r m);exact vp I.kIn O (c.get m) k.at_ k.fn hn h
def Ab {y:V}{u:WQ}{Q:Unit->WR->Prop}(I:Zl X WZ σ H s)(e:H a=some (.ins C dx fs))(c:B3 X.K C)(n:Sg X.K C f)(hl:fs.length<1000)(ry:Z3 y u)
  (h:∀s',Zl X WZ σ (Yo H a (.ins C dx (Tc f y fs))) s'->Q () s'):wpAny (model X.prog X.w) A (setAttr (.ref a) f u) Q E s:=by
 obtain⟨mA,O,r,wi,_,ho⟩:=Fo I.hok e;have hz:(fs.map (·.1)).length<=sizeLine:=by rw[XI,sizeLine_eq];omega
 refine tu I.kIn O c.sa c.po n.taker c.hd wi hz λh' O' sb=>h _ ?_;have hd:∃o,h'.get? dx=some o:=let ⟨o,_,_,e',_⟩:=O'.ns;⟨o,e'⟩
 refine I.write (x:=a) (e:=dx) (by rw[e];exact True.intro) (.inr ho) (λb q hb z=>(sb.2 b hb).trans z) hd ?_;refine⟨by rw[Z1 O.ne];exact ho,?_,O.ne,O'.obj,_,O'.ns,λg=>?_,λg hg=>?_⟩
 ·have:=Nr f y fs;omega
 ·show Qp ((Tc f y fs).lookup g) (if g=f then some u else mA g);rw[Nq];by_cases q:g=f
  ·rw[XY q,XY q];exact ry
  ·rw[XX q,XX q];exact r g
 ·by_cases q:g=f
  ·rw[q];exact(Na f y fs).1
  ·refine(Na f y fs).2 g (wi g λz=>hg ?_);show(if g=f then some u else mA g)=none;rw[XX q];exact z
def Zl.made (I:Zl X WZ σ H s):Zl X WZ σ (Yo (Yo H s.heap.objs.size (.own (s.heap.objs.size+1))) (s.heap.objs.size+1) (.ins C s.heap.objs.size []))
  {s with heap:=(s.heap.push W.emptyDict).push (W.instObj C s.heap.objs.size)}:=by
 have e1:(s.heap.push W.emptyDict).get? s.heap.objs.size=some W.emptyDict:=XF s.heap FV;have e2:((s.heap.push W.emptyDict).push (W.instObj C s.heap.objs.size)).get? (s.heap.objs.size+1)=some (W.instObj C s.heap.objs.size):=by
  have:=XF (s.heap.push W.emptyDict) (o:=W.instObj C s.heap.objs.size) FV
  rwa [CD] at this
 have e3:(s.heap.push W.emptyDict).Ns s.heap.objs.size (λ_=>none):=⟨W.emptyDict,#[],_,e1,FV,(λe he=>absurd he (by simp)),λ_=>rfl⟩;have I1:=I.laid (a:=s.heap.objs.size) (o:=.own (s.heap.objs.size+1)) (h':=s.heap.push W.emptyDict) (t':=s.toks) (λb u q=>XC _ q) (XE _) ⟨_,e1⟩;refine I1.laid (a:=s.heap.objs.size+1) (o:=.ins C s.heap.objs.size []) (t':=s.toks) (λb u q=>XC _ q) (Nat.le_of_eq (CD _ _)) ?_;have ne:s.heap.objs.size≠s.heap.objs.size+1:=XH (BK _);refine⟨by rw[Z1 ne,Z7],XO _,ne,e2,λ_=>none,(Heap.Ns1.of_empty e3).at λo q=>XC _ q,λ_=>True.intro,λy hy=>absurd FV hy⟩
def r9 {prog:WO}{w:WN}{env:Env}{e:WW}{f:Str}{pos:Pos}{s:WR}{Q:WQ->WR->Prop}(hb:attributeBase e f env (eval e env)=eval e env)
  (h:wpAny (model prog w) A (eval e env) (λo s₁=>wpAny (model prog w) A (getAttr o f true) Q E s₁) E s):wpAny (model prog w) A (eval (.Attribute e f pos) env) Q E s:=
 Attribute_any_ h (by rw[arm_eval_Attribute,hb])
end
def gl (K:WY)(ta:TE)(f:Str):TE:=λσ H Q=>ta σ H λx H1=>∃a C dx fs v,x=.ref a/\H1 a=some (.ins C dx fs)/\B3 K C/\Sg K C f/\fs.lookup f=some v/\Q v H1
def dE (K:WY)(ta:TE)(f:Str):TE:=λσ H Q=>ta σ H λx H1=>∃a C dx fs v u,x=.ref a/\H1 a=some (.ins C dx fs)/\B3 K C/\cJ K C f v u/\fs.lookup f=none/\Q v H1
def g8 (K:WY)(ta tv:TE)(f:Str):TS:=λD σ H=>tv σ H λy H1=>ta σ H1 λx H2=>∃a C dx fs,x=.ref a/\H2 a=some (.ins C dx fs)/\B3 K C/\Sg K C f/\fs.length<1000/\
 D.nx σ (Yo H2 a (.ins C dx (Tc f y fs)))
def cH (X:Cx)(op:Operator)(rd:V->V->Hp->VK->Prop):Prop:=
 ∀(WZ:List (WP×Obj)) (s:WR) (σ:St) (H:Hp) (x y:V) (u v:WQ) (Q:VK),Zl X WZ σ H s->Z3 x u->Z3 y v->rd x y H Q->wpAny (model X.prog X.w) X.A (inplaceOp op u v) (EP X WZ σ Q) X.xe s
def iL (K:WY)(ta tv:TE)(rd:V->V->Hp->VK->Prop)(f:Str):TS:=λD σ H=>ta σ H λx H1=>∃a C dx fs v,x=.ref a/\H1 a=some (.ins C dx fs)/\B3 K C/\Sg K C f/\fs.lookup f=some v/\
 tv σ H1 λy H2=>rd v y H2 λz H3=>∃dx' fs',H3 a=some (.ins C dx' fs')/\fs'.length<1000/\D.nx σ (Yo H3 a (.ins C dx' (Tc f z fs')))
section
variable {X:Cx}{o e value:WW}{f:Str}{pos pos' tpos:Pos}{ta tv:TE}
def pP (he:PE X e ta)(hb:attributeBase e f X.env (eval e X.env)=eval e X.env):PE X (.Attribute e f pos) (gl X.K ta f):=by
 intro WZ s σ H Q I h;refine r9 hb (Ja (he WZ s σ H _ I h) λu s1 ⟨x,H1,I1,rx,a,C,dx,fs,v,ex,ea,c,n,l,q⟩=>?_);subst ex;obtain rfl:u=Value.ref a:=rx;exact zf I1 ea c n l λu' s2 I2 ru=>⟨v,H1,I2,ru,q⟩
def pE (ha:PE X o ta)(hv:PE X value tv)(hs:swapsWith value (some (.Attribute o f pos')) pos.line X.env=pure false):PS X (.Assign [.Attribute o f pos'] value pos) (g8 X.K ta tv f):=by
 intro WZ s σ H D I h;refine plainObj_wpAny_Assign_Attribute (Ja (hv WZ s σ H _ I h) λu s1 ⟨y,H1,I1,ry,q⟩=>Ja (ha WZ s1 σ H1 _ I1 q) λov s2 ⟨x,H2,I2,rx,a,C,dx,fs,ex,ea,c,n,l,q2⟩=>?_) hs;subst ex;obtain rfl:ov=Value.ref a:=rx;exact Ab I2 ea c n l ry λs3 I3=>⟨σ,_,I3,q2⟩
end
section
variable {X:Cx}{WZ:List (WP×Obj)}{σ:St}{H:Hp}{s:WR}{A:WM}{E:WQ->WR->Prop}{Q:WQ->WR->Prop}{c:WQ}{b:Bool}
inductive Kv (K:W.Frag)(H:Hp):V->Value->Prop where
 | non:Kv K H .non (.type "NoneType")
 | bl (x:Bool):Kv K H (.bl x) (.type "bool")
 | int (i:Int):Kv K H (.int i) (.type "int")
 | str (x:Str):Kv K H (.str x) (.type "str")
 | flt (x:UInt64):Kv K H (.flt x) (.type "float")
 | lst {a:WP} {xs:List V} (e:H a=some (.lst xs)):Kv K H (.ref a) (.type "list")
 | frz {a:WP} {o:Obj} {xs:List V} (e:H a=some (.frz o (.lst xs))):Kv K H (.ref a) (.type "list")
 | tup {a:WP} {xs:List V} (e:H a=some (.tup xs)):Kv K H (.ref a) (.type "tuple")
 | dK {a:WP} {kvs:List (Z2×V)} (e:H a=some (.dK kvs)):Kv K H (.ref a) (.type "dict")
 | dT {a:WP} {kvs:List (List Z2×V)} (e:H a=some (.dT kvs)):Kv K H (.ref a) (.type "dict")
 | ins {a C dx:WP} {fs:List (Str×V)} (e:H a=some (.ins C dx fs)) (cl:B3 K C) (ha:W.findIn K (.ref C) "__class__"=some (some (.builtin "object.__class__")))
   (hn:W.specialIn K (.builtin "object.__class__") "__get__"=some (some (.builtin "getset_descriptor.__get__"))) (htk:W.takesIn K (.builtin "object.__class__")=some true)
   (hm:W.mroIn K C (.type "object")=some true):Kv K H (.ref a) (.ref C)
end
structure Y9 (k:Nat)(A:Around):Prop where
 hd:A.handled=none
 dp:A.depth+3*k+5<recursionLimit
 un:A.units+16*k+200<cLine
def Y9.deeper {k:Nat}{A:WM}(r:Y9 (k+1) A)(env:Env):Y9 k (A.deeper env):=
 ⟨r.hd,by have:=r.dp;show A.depth+1+3*k+5<_;omega,by have:=r.un;show A.units+3+16*k+200<_;omega⟩
def Au {A:WM}{C:WP}{us:List WQ}{kw:List (Str×WQ)}:(A.under (.builtin "type.__call__" ⟨.ref C::us,kw⟩)).depth=A.depth+1:=by
 first | rfl | simp[Around.under,Code.weight,Code.isCreation,Code.isGuard,Code.isCaller,Code.frames,Code.isFrame,guardIds]
def At {A:WM}{C:WP}{us:List WQ}{kw:List (Str×WQ)}:(A.under (.builtin "type.__call__" ⟨.ref C::us,kw⟩)).units=A.units+1:=by
 first | rfl | simp[Around.under,Code.cUnits,Code.frames,Code.isFrame]
def Y9.make {k:Nat}{A:WM}(r:Y9 (k+1) A)(C:WP)(us:List WQ)(kw:List (Str×WQ)):Y9 k (A.under (.builtin "type.__call__" ⟨.ref C::us,kw⟩)):=
 ⟨r.hd,by have:=r.dp;rw[Au];omega,by have:=r.un;rw[At];omega⟩
def Y9.depth {k:Nat}{A:WM}(r:Y9 k A):A.depth<recursionLimit:=by have:=r.dp;omega
def xA:TA:=λ_ H Q=>Q [] H
def Dh (ta:TE)(tr:TA):TA:=λσ H Q=>ta σ H λx H1=>tr σ H1 λxs H2=>Q (x::xs) H2
section
variable {X:Cx}{e:WW}{es:List WW}{te:TE}{t:TA}{pos:Pos}
def wG:PA X [] xA:=λ_ _ _ _ H Q I h=>CV ⟨[],H,I,.nil,h⟩
def zZ (ha:PE X e te)(hr:PA X es t)(hs:starEach (e::es) X.env=(false,eval e X.env)::starEach es X.env:=by rfl):PA X (e::es) (Dh te t):=by
 intro pos WZ s σ H Q I h;rw[hs];show wpAny _ _ (spliced ((false,eval e X.env)::backTo pos (starEach es X.env))) _ _ s;refine BV (Ja (ha WZ s σ H _ I h) λu s1 ⟨x,H1,I1,r1,q1⟩=>?_);exact Ja (hr pos WZ s1 σ H1 _ I1 q1) λus s2 ⟨xs,H2,I2,r2,q2⟩=>⟨x::xs,H2,I2,.cons r1 r2,q2⟩
def mF (t:TA):TE:=λσ H Q=>t σ H λxs H1=>xs.length<=sizeLine/\∀p,H1 p=none->Q (.ref p) (Yo H1 p (.tup xs))
def mM (t:TA):TE:=λσ H Q=>t σ H λxs H1=>xs.length<=sizeLine/\∀p,H1 p=none->Q (.ref p) (Yo H1 p (.lst xs))
def pJ {x1}(h:PA X es t):PE X (.Tuple es x1 pos) (mF t):=by
 intro WZ s σ H Q I hq;refine wpAny_Tuple_spliced (Ja (h pos WZ s σ H _ I hq) λus s1 ⟨xs,H1,I1,r,z,q⟩=>⟨by rw[<-r.length];exact z,?_⟩);have hf:H1 s1.heap.objs.size=none:=I1.hok.fresh (XE _);refine⟨.ref s1.heap.objs.size,Yo H1 s1.heap.objs.size (.tup xs),I1.laid (t':=s1.toks) (λb u e=>XC _ e) (XE _) ?_,FV,q _ hf⟩;exact⟨z,us,r,⟨_,XF _ FV,FV,_,FV⟩⟩
def pN (h:PA X es t):PE X (.List es pos) (mM t):=by
 intro WZ s σ H Q I hq;refine wpAny_List_spliced (Ja (h pos WZ s σ H _ I hq) λus s1 ⟨xs,H1,I1,r,z,q⟩=>⟨by rw[<-r.length];exact z,?_⟩);have hf:H1 s1.heap.objs.size=none:=I1.hok.fresh (XE _);refine⟨.ref s1.heap.objs.size,Yo H1 s1.heap.objs.size (.lst xs),I1.laid (t':=s1.toks) (λb u e=>XC _ e) (XE _) ?_,FV,q _ hf⟩;exact⟨z,us,0,r,XF _ FV⟩
end
abbrev Sp:=List V->Hp->VK->XK->Prop
abbrev Mg:=List Env->Hp->WR->XK->WQ->WR->Prop
structure Io (P:Program)(w:World)(K:W.Frag)(mg:Str->Option Value)(base:Heap)(A:Around)(outer:List Env)(s:Shared)(H:Hp):Prop where
 frames:A.frames=some outer
 mod:Mod K mg base
 bs:∀b o,base.get? b=some o->s.heap.get? b=some o/\H b=none
 bsz:base.objs.size<=s.heap.objs.size
 funs:s.heap.FunFrames base outer
 frf:∀b∈Me outer,H b=none
 hok:Vy P w H s.heap
 bare:AllBare s.gens
def CE (outer:List Env)(P:WO)(w:WN)(H:Hp)(s:WR)(Q:VK)(u:WQ)(s':WR):Prop:=
 ∃v H',s'.os=s.os/\AllBare s'.gens/\Un (Me outer) [] H H' s.heap s'.heap/\Vy P w H' s'.heap/\Z3 v u/\Q v H'
def CR (CX:Mg)(outer:List Env)(P:WO)(w:WN)(H:Hp)(s:WR)(Q:VK)(E:XK)(r:Result)(s':WR):Prop:=
 match r with
 | .ok (.ret u)=>CE outer P w H s Q u s'
 | .ok _=>False
 | .error e=>CX outer H s E e s'
structure X8 (P:Program)(w:World)(K:W.Frag)(mg:Str->Option Value)(base:Heap)(CX:Mg)(k:Nat)(f:Addr)(fd:FuncData)(ps:List Str)(sp:Sp):Prop where
 len:∀vs H Q E,sp vs H Q E->vs.length=ps.length
 run:∀(A:WM) (outer:List Env) (s:WR) (H:Hp) (args:Args) (us:List WQ) (vs:List V) (Q:VK) (E:XK),Y9 k A->Io P w K mg base A outer s H->BindsTo s fd args (ps.zip us)->Z0 vs us->sp vs H Q E->
  codeAny (model P w) A (.call (.ref f) args) (CR CX outer P w H s Q E) s
def Io.make {P:WO}{w:WN}{K:WY}{mg:Str->Option WQ}{base:WU}{A:WM}{outer:List Env}{s:WR}{H:Hp}(e:Io P w K mg base A outer s H)(C:WP)(us:List WQ)(kw:List (Str×WQ)):
  Io P w K mg base (A.under (.builtin "type.__call__" ⟨.ref C::us,kw⟩)) outer s H:=⟨by first | exact e.frames | (simpa[Around.under,Code.envs,Code.isFrame,pushEnvs] using e.frames),e.mod,e.bs,e.bsz,e.funs,e.frf,e.hok,e.bare⟩
section
variable {X:Cx}{WZ:List (WP×Obj)}{σ:St}{H:Hp}{s s':WR}
def Zl.env0 (I:Zl X WZ σ H s):Io X.prog X.w X.K X.mg X.base X.A X.stack s H:=
 ⟨I.ok.frames,I.ok.mod,I.bs,XN I.ok.bsz I.sz,I.stack,I.stkFree,I.hok,I.bare⟩
def Zl.after {Q:VK}{u:WQ}(I:Zl X WZ σ H s)(h:CE X.stack X.prog X.w H s Q u s'):EP X WZ σ Q u s':=by
 obtain⟨v,H',os,bare,un,hok,r,q⟩:=h;obtain⟨hh,g,d,t,os'⟩:=s';obtain rfl:os'=s.os:=os;exact⟨v,H',I.call (h':=hh) (g':=g) (d':=d) (t':=t) (ch:=[]) un hok bare (λb z=>absurd z (by simp)),r,q⟩
end
def xC (sp:Sp)(dvs:List V)(E:XK)(t:TA):TE:=λσ H Q=>t σ H λvs H1=>sp (vs++dvs) H1 Q E
def eO (C:WP)(m:Str)(sp:Sp)(dvs:List V)(E:XK)(ta:TE)(t:TA):TE:=λσ H Q=>ta σ H λx H1=>∃a dx fs,x=.ref a/\H1 a=some (.ins C dx fs)/\fs.lookup m=none/\
 t σ H1 λvs H2=>sp (x::(vs++dvs)) H2 Q E
def mL (C:WP)(sp:Sp)(dvs:List V)(E:XK)(t:TA):TE:=λσ H Q=>t σ H λvs H1=>∀x dx,H1 x=none->H1 dx=none->dx≠x->
 sp (.ref x::(vs++dvs)) (Yo (Yo H1 dx (.own x)) x (.ins C dx [])) (λv H2=>v=.non/\Q (.ref x) H2) E
def J6 (K:WY)(fd:VZ)(ps:List Str)(ds:List WQ):Prop:=
 ∀(s:WR) (us:List WQ),K.In s.heap->(us++ds).length=ps.length->BindsTo s fd ⟨us,[]⟩ (ps.zip (us++ds))
def J6.all {K:WY}{fd:VZ}{ps:List Str}(h:∀us:List WQ,us.length=ps.length->bindArgs fd ⟨us,[]⟩=pure (ps.zip us)):J6 K fd ps []:=λs us _ hl=>by
 rw[YK] at hl |-;exact .of_eq (h us hl)
def Wj (CX:Mg)(X:Cx)(E:XK):Prop:=∀(WZ:List (WP×Obj)) (σ:St) (H:Hp) (s:WR) (e:WQ) (s':WR),Zl X WZ σ H s->CX X.stack H s E e s'->X.xe e s'
section
variable {X:Cx}{CX:Mg}{k:Nat}{f C:WP}{fd:VZ}{ps:List Str}{sp:Sp}{dvs:List V}{ds:List WQ}{E:XK}{x m:Str}{p pos apos:Pos}{e o:WW}{es:List WW}{ta:TE}{t:TA}
def Ah {WZ:List (WP×Obj)}{σ:St}{H:Hp}{s:WR}{Q:VK}{us:List WQ}{vs:List V}(F:X8 X.prog X.w X.K X.mg X.base CX k f fd ps sp)(hr:Y9 k X.A)(hb:J6 X.K fd ps ds)(hd:Z0 dvs ds)(hx:Wj CX X E)
  (I:Zl X WZ σ H s) (r:Z0 vs us) (h:sp (vs++dvs) H Q E):wpAny (model X.prog X.w) X.A (call (.ref f) us) (EP X WZ σ Q) X.xe s:=by
 have r2:Z0 (vs++dvs) (us++ds):=r.append hd;have hl:(us++ds).length=ps.length:=by rw[<-r2.length];exact F.len _ _ _ _ h
 refine wpAny_call (codeAny_mono (F.run X.A X.stack s H ⟨us,[]⟩ (us++ds) (vs++dvs) Q E hr I.env0 (hb s us I.kIn hl) r2 h) λr s' hq=>?_)
 cases r with
 | error e=>exact hx WZ σ H s e s' I hq
 | ok fl=>
  cases fl with
  | ret u=>exact I.after hq
  | next=>exact False.elim hq
  | brk=>exact False.elim hq
  | cont=>exact False.elim hq
def G5 (F:X8 X.prog X.w X.K X.mg X.base CX k f fd ps sp)(hr:Y9 k X.A)(hg:Gl X x)(hm:X.mg x=some (.ref f))(hk:W.keepIn X.K (.ref f)=true)(hb:J6 X.K fd ps ds)(hd:Z0 dvs ds)(hx:Wj CX X E)
  (ha:PA X (e::es) t) (hdb:(x==("__debug__":Str))=false:=by decide) (he:starEach (e::es) X.env=(false,eval e X.env)::starEach es X.env:=by rfl) (hpl:(backTo pos (starEach es X.env)).any (·.1)=false:=by rfl):
  PE X (.Call (.Name x p) (e::es) [] pos) (xC sp dvs E t):=by
 intro WZ s σ H Q I h;refine wpAny_Call_Name_kw (Qg I hg hm ?_ hdb);refine FQ (h₀:=X.base) I.ok.mod.kin hk (Ja (ha pos WZ s σ H _ I h) λus s1 ⟨vs,H1,I1,r,q⟩=>⟨I1.kIn,?_⟩) he hpl;exact Ah F hr hb hd hx I1 r q
structure Mk (K:W.Frag)(C f:Addr):Prop where
 makes:W.makesIn K C=true
 init:W.findIn K (.ref C) "__init__"=some (some (.ref f))
 fn:W.isFn K (.ref f)=true
 kp:W.keepIn K (.ref C)=true
def xV {WZ:List (WP×Obj)}{σ:St}{H:Hp}{s:WR}{Q:VK}{us:List WQ}{vs:List V}(M:Mk X.K C f)(F:X8 X.prog X.w X.K X.mg X.base CX k f fd ps sp)(hr:Y9 (k+1) X.A)(hb:J6 X.K fd ps ds)(hd:Z0 dvs ds)
  (hx:Wj CX X E) (I:Zl X WZ σ H s) (r:Z0 vs us)
  (h:∀x dx,H x=none->H dx=none->dx≠x->sp (.ref x::(vs++dvs)) (Yo (Yo H dx (.own x)) x (.ins C dx [])) (λv H2=>v=.non/\Q (.ref x) H2) E):
  wpAny (model X.prog X.w) X.A (call (.ref C) us) (EP X WZ σ Q) X.xe s:=by
 have hq:=h (s.heap.objs.size+1) s.heap.objs.size (I.hok.fresh (Nat.le_succ _)) (I.hok.fresh (XE _)) (XH (BK _));have I2:=Zl.made (C:=C) I;have r2:Z0 (V.ref (s.heap.objs.size+1)::(vs++dvs)) (Value.ref (s.heap.objs.size+1)::(us++ds)):=.cons FV (r.append hd);have hl:(Value.ref (s.heap.objs.size+1)::us++ds).length=ps.length:=by
  have e:=r2.length;rw[F.len _ _ _ _ hq] at e;exact e.symm
 refine wpAny_call (wX (f:=f) I.kIn M.makes M.init (beq_iff_eq.mp M.fn) (codeAny_mono (F.run _ X.stack _ _ ⟨Value.ref (s.heap.objs.size+1)::us,[]⟩ (Value.ref (s.heap.objs.size+1)::(us++ds)) _ _ E (hr.make C us [])
  (I2.env0.make C us []) (hb _ (Value.ref (s.heap.objs.size+1)::us) I2.kIn hl) r2 hq) λr s' hq'=>?_))
 cases r with
 | error e=>exact hx WZ σ _ _ e s' I2 hq'
 | ok fl=>
  cases fl with
  | ret u=>
   obtain⟨v,H',I3,rv,ev,q3⟩:=I2.after hq';subst ev;exact⟨rv,⟨V.ref (s.heap.objs.size+1),H',I3,FV,q3⟩⟩
  | next=>exact False.elim hq'
  | brk=>exact False.elim hq'
  | cont=>exact False.elim hq'
def wB (M:Mk X.K C f)(F:X8 X.prog X.w X.K X.mg X.base CX k f fd ps sp)(hr:Y9 (k+1) X.A)(hg:Gl X x)(hm:X.mg x=some (.ref C))(hb:J6 X.K fd ps ds)(hd:Z0 dvs ds)(hx:Wj CX X E)
  (hdb:(x==("__debug__":Str))=false:=by decide):PE X (.Call (.Name x p) [] [] pos) (mL C sp dvs E xA):=by
 intro WZ s σ H Q I h;refine wpAny_Call_Name_kw (Qg I hg hm ?_ hdb);exact W.callWith_K0 I.kIn M.kp (xV (us:=[]) M F hr hb hd hx I .nil h)
end
def PK (X:Cx)(kws:List Keyword)(t:TA):Prop:=
 ∀(pos:Pos) (WZ:List (WP×Obj)) (s:WR) (σ:St) (H:Hp) (Q:List V->Hp->Prop),Zl X WZ σ H s->t σ H Q->wpAny (model X.prog X.w) X.A (evalAll ((backToKw pos (keywordEach kws X.env)).map (·.2))) (AP X WZ σ Q) X.xe s
section
variable {X:Cx}{CX:Mg}{k:Nat}{f C:WP}{fd:VZ}{ps ks:List Str}{sp:Sp}{E:XK}{x m:Str}{p pos apos kpos:Pos}{e o:WW}{es:List WW}{kws:List Keyword}{te ta:TE}{t tk:TA}{nm:Option Str}
structure ej (K:W.Frag)(fd:FuncData)(ps ks:List Str)(g:List Value->List Value->List Value)(gV:List V->List V->List V):Prop where
 to:∀(s:WR) (us ws:List WQ),K.In s.heap->(g us ws).length=ps.length->BindsTo s fd ⟨us,ks.zip ws⟩ (ps.zip (g us ws))
 rel:∀{vs:List V} {us:List WQ} {zs:List V} {ws:List WQ},Z0 vs us->Z0 zs ws->Z0 (gV vs zs) (g us ws)
variable {g:List WQ->List WQ->List WQ}{gV:List V->List V->List V}
end
structure Zr (N P:List Str)(sc:Scope):Prop where
 kind:sc.kind=.function
 co:sc.isCoroutine=false
 gen:sc.isGenerator=false
 nd:N.Nodup
 pre:N.take P.length=P
 par:∀x∈P,sc.names.lookup x=some .local\/sc.names.lookup x=some .cell
 nofree:∀y∈sc.names,y.2≠.free
def Hr {kindOf:Str->Option NameKind}{x:Str}:∀{binds:List (Str×WQ)} {m:Str->Option WQ},(∀v,(x,v)∉binds)->bindL kindOf binds m x=m x
 | [],_,_=>rfl
 | (n,v)::r,m,h=>by
  unfold bindL;rw[Hr λw hw=>h w (XV _ hw)]
  split
  ·have:x≠n:=by rintro rfl;exact h v BC
   simp[this]
  ·rfl
def Ht {kindOf:Str->Option NameKind}{x:Str}:∀{binds:List (Str×WQ)} {m:Str->Option WQ},(∀v,(x,v)∉binds)->bindC kindOf binds m x=m x
 | [],_,_=>rfl
 | (n,v)::r,m,h=>by
  unfold bindC;rw[Ht λw hw=>h w (XV _ hw)]
  split
  ·rfl
  ·have:x≠n:=by rintro rfl;exact h v BC
   simp[this]
def Hs {kindOf:Str->Option NameKind}{x:Str}{v:WQ}:∀{P:List Str} {vs:List WQ} {i:Nat} {m:Str->Option WQ},P.Nodup->P[i]?=some x->vs[i]?=some v->kindOf x=some .local->
  bindL kindOf (P.zip vs) m x=some v
 | [],_,_,_,_,h,_,_=>by simp at h
 | _::_,[],_,_,_,_,h,_=>by simp at h
 | p::P,w::vs,0,m,nd,h1,h2,hk=>by
  simp at h1 h2;subst h1;subst h2;show bindL kindOf ((p,w)::P.zip vs) m p=_;unfold bindL;rw[Hr λv hv=>(BP.mp nd).1 (CQ hv).1,XY hk];simp
 | p::P,w::vs,i+1,m,nd,h1,h2,hk=>by
  show bindL kindOf ((p,w)::P.zip vs) m x=_;unfold bindL;exact Hs (i:=i) (List.nodup_cons.mp nd).2 (by simpa using h1) (by simpa using h2) hk
def Hu {kindOf:Str->Option NameKind}{x:Str}{v:WQ}:∀{P:List Str} {vs:List WQ} {i:Nat} {m:Str->Option WQ},P.Nodup->P[i]?=some x->vs[i]?=some v->kindOf x≠some .local->
  bindC kindOf (P.zip vs) m x=some v
 | [],_,_,_,_,h,_,_=>by simp at h
 | _::_,[],_,_,_,_,h,_=>by simp at h
 | p::P,w::vs,0,m,nd,h1,h2,hk=>by
  simp at h1 h2;subst h1;subst h2;show bindC kindOf ((p,w)::P.zip vs) m p=_;unfold bindC;rw[Ht λv hv=>(BP.mp nd).1 (CQ hv).1,XX hk];simp
 | p::P,w::vs,i+1,m,nd,h1,h2,hk=>by
  show bindC kindOf ((p,w)::P.zip vs) m x=_;unfold bindC;exact Hu (i:=i) (List.nodup_cons.mp nd).2 (by simpa using h1) (by simpa using h2) hk
def start (N:List Str)(vs:List V):St:=vs.map some++List.replicate (N.length-vs.length) none
def Tg (CX:Mg)(P:WO)(w:WN)(K:WY)(mg:Str->Option WQ)(base:WU)(N:List Str)(qual:Str)(scope:Scope)(f:WP)(cd:WQ)(A:WM)(outer:List Env)(s:WR)(H:Hp)(E:XK):Cx where
 prog:=P
 w:=w
 K:=K
 mg:=mg
 base:=base
 A:=A.deeper (envOfC qual scope s.heap.objs.size f cd)
 N:=N
 s₀:=s
 H₀:=H
 env:=envOfC qual scope s.heap.objs.size f cd
 outer:=outer
 stack:=envOfC qual scope s.heap.objs.size f cd::outer
 ex:=[]
 calm:=true
 fn:=λ_=>true
 pn:=[]
 xe:=λe s'=>wpAny (model P w) (A.deeper (envOfC qual scope s.heap.objs.size f cd)) (leaving (envOfC qual scope s.heap.objs.size f cd) e) (λ_ s''=>CX outer H s E e s'') (λe' s''=>CX outer H s E e' s'') s'
def Bi {sc:Scope}{n:Nat}{x:Str}(h:sc.names.lookup x=some .cell):∃c,(cellsFrom n sc.names []).lookup x=some c:=by
 have q:=W.cellsFrom_some sc.names n [] (.inl h);exact Option.isSome_iff_exists.mp q
def jm {CX:Mg}{P:WO}{w:WN}{K:WY}{mg:Str->Option WQ}{base:WU}{N ps:List Str}{qual:Str}{scope:Scope}{f:WP}{cd:WQ}{A:WM}{outer:List Env}{s s1:WR}{H:Hp}{E:XK}{us:List WQ}{vs:List V}
  (S:Zr N ps scope) (hd:A.handled=none) (e0:Io P w K mg base A outer s H) (hl:vs.length=ps.length) (r:Z0 vs us)
  (x:InCallC s s.heap.objs.size (bindL (envOfC qual scope s.heap.objs.size f cd).kindOf (ps.zip us) λ_=>none) (cellsFrom (s.heap.objs.size+1) scope.names []) (bindC (envOfC qual scope s.heap.objs.size f cd).kindOf (ps.zip us) λ_=>none) s1):
  Zl (Tg CX P w K mg base N qual scope f cd A outer s H E) [] (start N vs) H s1:=by
 have hpl:ps.length<=N.length:=by have:=congrArg List.length S.pre;rw[YM] at this;omega
 obtain⟨h1,tk,rfl,hk⟩:=x.done;have noA:∀b:WP,b∉(Tg CX P w K mg base N qual scope f cd A outer s H E).ex:=λb z=>absurd (show b∈([]:List WP) from z) (by simp);refine⟨⟨e0.mod,S.kind,FV,FV,XE _,λy z c h1 h2=>?_,λy hy=>?_,λy c _ h=>?_,λ_=>hd,Around.frames_deeper e0.frames,.inr ⟨FV,FV⟩,λb z=>absurd z (noA b),e0.bs,e0.bsz,λb _ _=>noA b,λb z=>absurd z (noA b),e0.funs,e0.frf⟩,
  rfl,e0.bare,Un.kept hk,⟨_,x.toInCall.ns,λi y v h1 h2 h3=>?_⟩,λy c h=>⟨_,x.cell y c h⟩,e0.hok.fresh (Nat.le_refl _),λy c h=>?_,λp hp=>absurd (show p∈([]:List (WP×Obj)) from hp) (by simp),e0.hok.kept hk,?_⟩
 ·exact name_of_addr x.apart (BR h1) (BR h2)
 ·have hy:scope.names.lookup y=some .cell\/scope.names.lookup y=some .free:=hy
  rcases hy with hy | hy
  ·exact Bi hy
  ·exact absurd FV (S.nofree _ (BR hy))
 ·exact CK (x.above y c (BR h))
 ·have hi:i<vs.length:=by
   unfold start at h2;by_cases hi:i<vs.length
   ·exact hi
   ·rw[List.getElem?_append_right (by simpa using hi)] at h2;rw[List.getElem?_replicate] at h2
    split at h2<;>cases h2
  have ha:vs[i]?=some v:=by
   unfold start at h2;rw[List.getElem?_append_left (by simpa using hi),List.getElem?_map] at h2
   cases e:vs[i]? with
   | none=>rw[e] at h2;cases h2
   | some a=>rw[e] at h2;cases h2;rfl
  obtain⟨u,hu,rv⟩:=r.get ha;have hp:ps[i]?=some y:=by
   rw[<-S.pre,List.getElem?_take_of_lt (by omega)];exact h1
  have ndP:ps.Nodup:=by rw[<-S.pre];exact S.nd.sublist (List.take_sublist _ _)
  refine⟨u,rv,?_⟩
  rcases S.par y (BH hp) with k | k
  ·exact .inl ⟨k,Hs ndP hp hu k⟩
  ·obtain⟨c,e⟩:=Bi (n:=s.heap.objs.size+1) k;refine .inr ⟨.inl k,c,e,?_⟩;have q:=x.cell y c e;rw[Hu ndP hp hu (by show scope.names.lookup y≠_;rw[k];decide)] at q;exact q
 ·exact e0.hok.fresh (CK (x.above y c (BR h)))
 ·unfold start;show _=N.length;rw[BA,XI,EW];omega
def qo {CX:Mg}{P:WO}{w:WN}{K:WY}{mg:Str->Option WQ}{base:WU}{k:Nat}{f:WP}{name qual:Str}{params:Arguments}{body:List WV}{scope:Scope}{dV kV doc pm cdv ct oc:WQ}{an od:Option WP}
  {osl:Array (Option WQ)} {N ps:List Str} {sp:Sp} (lk:K.lookup f=some ⟨oc,od,.func (W.fnOf name qual params body scope dV kV doc pm an cdv ct),osl⟩) (hcd:W.codeIn K cdv qual=true) (S:Zr N ps scope)
  (len:∀vs H Q E,sp vs H Q E->vs.length=ps.length)
  (hbody:∀(A:WM) (outer:List Env) (s:WR) (H:Hp) (vs:List V) (Q:VK) (E:XK),Y9 k (A.deeper (envOfC qual scope s.heap.objs.size f cdv))->sp vs H Q E->
   ∃t,Bu (Tg CX P w K mg base N qual scope f cdv A outer s H E) body t/\t {nx:=λ_ H'=>Q .non H',rt:=Q} (start N vs) H):
  X8 P w K mg base CX (k+1) f (W.fnOf name qual params body scope dV kV doc pm an cdv ct) ps sp:=by
 refine⟨len,λA outer s H args us vs Q E hr e0 hb r hsp=>?_⟩;have hl:=len _ _ _ _ hsp;have KX:K.In s.heap:=e0.mod.kin.keeps λb o e=>(e0.bs b o e).1;have lim:s.heap.NoLimit:=e0.mod.nolimit.keeps λb o e=>(e0.bs b o e).1;have hkind:∀y∈ps.zip us,scope.names.lookup y.1=some .local\/(scope.names.lookup y.1=some .cell/\((cellsFrom (s.heap.objs.size+1) scope.names []).lookup y.1).isSome=true):=λ⟨n,v⟩ hy=>by
  rcases S.par n (CQ hy).1 with q | q
  ·exact .inl q
  ·exact .inr ⟨q,W.cellsFrom_some _ _ _ (.inl q)⟩
 refine codeAny_call_function hr.depth (KX _ _ lk) FV S.co S.gen FV (W.codeRec_of KX hcd) (hb _ _ _ _ ?_);refine wpAny_newFunctionEnv_cells S.kind hkind λenv he s1 x=>?_;subst he;refine⟨lim.keeps x.toInCall.keep,codeAny_func ?_⟩;obtain⟨t,ht,hq⟩:=hbody A outer s H vs Q E (hr.deeper _) hsp;have I:Zl (Tg CX P w K mg base N qual scope f cdv A outer s H E) [] (start N vs) H s1:=jm S hr.hd e0 hl r x;refine wpAny_mono (ht [] s1 (start N vs) H _ I hq) (λfl s' hs=>?_) λe s' hs=>hs;have fin:∀{σ':St} {H':Hp} {v:V} {u:WQ},Zl (Tg CX P w K mg base N qual scope f cdv A outer s H E) [] σ' H' s'->Z3 v u->Q v H'->CE outer P w H s Q u s':=
  λ{σ' H' v u} J rv q=>⟨v,H',J.os,J.bare,J.base,J.hok,rv,q⟩
 cases fl with
 | ret u=>
  obtain⟨v,σ',H',J,rv,q⟩:=hs;exact fin J rv q
 | next=>
  obtain⟨σ',H',J,q⟩:=hs;exact fin (v:=V.non) (u:=Value.none) J FV q
 | brk=>
  obtain⟨_,_,_,q⟩:=hs;exact False.elim q
 | cont=>
  obtain⟨_,_,_,q⟩:=hs;exact False.elim q
section
variable {X:Cx}{x:Str}{p pos:Pos}{e:WW}{es:List WW}{t:TA}{id T:String}{r:List V->Hp->VK->Prop}
def gr (r:List V->Hp->VK->Prop)(t:TA):TE:=λσ H Q=>t σ H λvs H1=>r vs H1 Q
def wE (hc:Vp X (.builtin id) r)(hg:Gl X x)(hm:X.mg x=none)(hv:bootBuiltins x=some (.builtin id))(ha:PA X (e::es) t)(hn:x≠"__name__":=by decide)(hdb:(x==("__debug__":Str))=false:=by decide)
  (he:starEach (e::es) X.env=(false,eval e X.env)::starEach es X.env:=by rfl) (hpl:(backTo pos (starEach es X.env)).any (·.1)=false:=by rfl):PE X (.Call (.Name x p) (e::es) [] pos) (gr r t):=by
 intro WZ s σ H Q I h;refine wpAny_Call_Name_kw (Vi I hg hm hv ?_ hn hdb);exact PyProof.Rows.callWith_builtin1 (Ja (ha pos WZ s σ H _ I h) λus s1 ⟨vs,H1,I1,r1,q1⟩=>hc WZ s1 σ H1 vs us Q I1 r1 q1) he hpl
def ja (hc:Vp X (.type T) r)(hg:Gl X x)(hm:X.mg x=none)(hv:bootBuiltins x=some (.type T))(ha:PA X (e::es) t)(hn:x≠"__name__":=by decide)(hdb:(x==("__debug__":Str))=false:=by decide)
  (he:starEach (e::es) X.env=(false,eval e X.env)::starEach es X.env:=by rfl) (hpl:(backTo pos (starEach es X.env)).any (·.1)=false:=by rfl):PE X (.Call (.Name x p) (e::es) [] pos) (gr r t):=by
 intro WZ s σ H Q I h;refine wpAny_Call_Name_kw (Vi I hg hm hv ?_ hn hdb);exact BI (Ja (ha pos WZ s σ H _ I h) λus s1 ⟨vs,H1,I1,r1,q1⟩=>hc WZ s1 σ H1 vs us Q I1 r1 q1) he hpl
end
end L2
namespace HT
open PySem PyProof.Rows
def kC:List Int->List Int->Bool
 | [],[]=>false
 | [],_::_=>true
 | _::_,[]=>false
 | x::xs,y::ys=>if x=y then kC xs ys else decide (x<y)
section
open PySem.SeqAt
open PySem.AutoSeq1 (wpAny_loadPart')
open PySem.MeetsSeq PySem.MeetsSeq2 PySem.MeetsSeq3
end
section
variable {prog:WO}{w:WN}{A:WM}{E:WQ->WR->Prop}{s:WR}
def cat_tup {t b:WP}{vs ws:List WQ}{Q:WQ->WR->Prop}(ht:IsTup s.heap t vs.toArray)(hb:IsTup s.heap b ws.toArray)(hv:vs≠[])
  (h1:ws=[]->Q (.ref t) s) (h2:ws≠[]->Q (.ref s.heap.objs.size) {s with heap:=s.heap.push {cls:=.type "tuple",data:=.seq (vs++ws).toArray}})
  (hsz:vs.length+ws.length<=sizeLine):wpAny (model prog w) A (binaryOp .Add (.ref t) (.ref b)) Q E s:=by
 obtain⟨⟨cls,dd,data,sl⟩,ho,hc,n,hd⟩:=id ht;obtain⟨⟨cls2,dd2,data2,sl2⟩,ho2,hc2,n2,hd2⟩:=id hb;simp only at hc hd hc2 hd2;subst hc hd hc2 hd2;have e:vs.toArray++ws.toArray=(vs++ws).toArray:=by simp
 by_cases hw:ws=[]
 ·exact concat_meets ⟨_,ho,FV⟩ ⟨_,ho2,FV⟩ noFill_tuple_add seq_tuple_add EQ EJ (EC _ _)
   (tuple_addW1 t b vs.toArray ws.toArray n n2 dd dd2 sl sl2 (by simpa using hv) (by simp[hw])) ⟨ho,ho2,h1 hw⟩
 ·refine concat_meets ⟨_,ho,FV⟩ ⟨_,ho2,FV⟩ noFill_tuple_add seq_tuple_add EQ EJ (EC _ _)
   (tuple_addW2 t b vs.toArray ws.toArray n n2 dd dd2 sl sl2 (by simpa using hv) (by simpa using hw) (by rw[List.size_toArray,List.size_toArray];exact hsz)) ⟨ho,ho2,?_⟩
  rw[e];exact h2 hw
def sIx (n d:Nat):Option Int->Nat
 | none=>d
 | some v=>if v<0 then(v+(n:Int)).toNat else min v.toNat n
def sIx_none (n d:Nat):sIx n d none=d:=rfl
def sIx_nat (n d k:Nat):sIx n d (some (k:Int))=min k n:=by
 show(if (k:Int)<0 then((k:Int)+(n:Int)).toNat else min (k:Int).toNat n)=min k n;rw[XX (by omega),Int.toNat_natCast]
def pc (n d:Nat)(hd:d<=n)(o:Option Int):sIx n d o<=n:=by
 cases o with
 | none=>exact hd
 | some v=>
  show(if v<0 then(v+(n:Int)).toNat else min v.toNat n)<=n;by_cases hv:v<0
  ·rw[XY hv];omega
  ·rw[XX hv];exact Nat.min_le_right _ _
def yx (v:Int)(n d:Nat):(if v<0 then max (v+(n:Int)) 0 else min v (n:Int))=((sIx n d (some v):Nat):Int):=by
 show(if v<0 then max (v+(n:Int)) 0 else min v (n:Int))=(((if v<0 then(v+(n:Int)).toNat else min v.toNat n):Nat):Int);by_cases hv:v<0
 ·simp only[if_pos hv];omega
 ·simp only[if_neg hv];omega
def z9 (lo hi:Option Int)(n:Nat):Builtin.Slice.sliceAdjust lo hi 1 (n:Int)=(((sIx n 0 lo:Nat):Int),((sIx n n hi:Nat):Int)):=by
 have h1:¬((1:Int)<0):=by omega
 unfold Builtin.Slice.sliceAdjust;simp only[h1,if_false];refine Prod.ext ?_ ?_
 ·cases lo with
  | none=>rfl
  | some v=>exact yx v n 0
 ·cases hi with
  | none=>rfl
  | some v=>exact yx v n n
def Al (i j:Nat):Builtin.Slice.slicePlaces (i:Int) (j:Int) 1=j-i:=by
 unfold Builtin.Slice.slicePlaces;have h1:(1:Int)>0:=by omega
 simp only[h1,if_true,Int.ediv_one]
 split<;>omega
def Lb {v:WQ}{o:Option Int}{Q:Option Int->WR->Prop}(p:IsPart v o)(h:Q o s):wpAny (model prog w) A (Builtin.Slice.slicePartIndex v) Q E s:=by
 cases p with
 | none=>exact slicePart_none h
 | int i t=>exact slicePart_int h
def Tj {sl:WP}{vl vu:WQ}{lo hi:Option Int}{n:Nat}{Q:Int×Int×Nat->WR->Prop}(hs:s.heap.IsSliceOf sl vl vu .none)(pl:IsPart vl lo)(pu:IsPart vu hi)
  (h:Q (((sIx n 0 lo:Nat):Int),1,sIx n n hi-sIx n 0 lo) s):wpAny (model prog w) A (Builtin.Slice.sliceApplied (.ref sl) (pure (n:Int))) Q E s:=by
 obtain⟨os,hos,hcs,hds⟩:=id hs;unfold Builtin.Slice.sliceApplied Builtin.Slice.sliceFields;refine XA (XA (wpAny_field hos hds (x:=vl) FV (XA (wpAny_field hos hds (x:=vu) FV (XA (wpAny_field hos hds (x:=.none) FV (XB ?_)))))));refine XA (slicePart_none ?_);show wpAny _ _ (if ((1:Int)==0)=true then _ else _) _ _ s;rw[XX (by decide)];refine XA (Lb pl (XA (Lb pu (XA (XB ?_)))));show wpAny _ _ (match Builtin.Slice.sliceAdjust lo hi 1 (n:Int) with | (lo,hi)=>pure (lo,(1:Int),Builtin.Slice.slicePlaces lo hi 1)) _ _ s;rw[z9 lo hi n];show wpAny _ _ (pure (((sIx n 0 lo:Nat):Int),(1:Int),Builtin.Slice.slicePlaces ((sIx n 0 lo:Nat):Int) ((sIx n n hi:Nat):Int) 1)) _ _ s;rw[Al];exact XB h
def w6 (xs:Array WQ)(i k:Nat):((List.range k).filterMap λ(m:Nat)=>xs[((i:Int)+(m:Int)*1).toNat]?).toArray=((xs.toList.drop i).take k).toArray:=by
 have e:(λ(m:Nat)=>xs[((i:Int)+(m:Int)*1).toNat]?)=λm=>xs[i+m]?:=by
  funext m
  have:((i:Int)+(m:Int)*1).toNat=i+m:=by omega
  rw[this]
 rw[e];have:=pick_run xs i k;rw[List.filterMap_map] at this;have e2:((λx=>xs[x]?)∘λx=>i+x)=λm=>xs[i+m]?:=rfl;rw[e2] at this;rw[this]
def getItem_tuple_cut {t sl:WP}{items:Array WQ}{vl vu:WQ}{lo hi:Option Int}{Q:WQ->WR->Prop}(ht:IsTup s.heap t items)(hs:s.heap.IsSliceOf sl vl vu .none)(pl:IsPart vl lo)(pu:IsPart vu hi)
  (hw:¬(sIx items.size 0 lo=0/\sIx items.size items.size hi=items.size))
  (h:Q (.ref s.heap.objs.size) {s with heap:=s.heap.push {cls:=.type "tuple",data:=.seq ((items.toList.drop (sIx items.size 0 lo)).take (sIx items.size items.size hi-sIx items.size 0 lo)).toArray}})
  (hsz:items.size<=sizeLine):wpAny (model prog w) A (getItem (.ref t) (.ref sl)) Q E s:=by
 have htake:sizeOk (.seq ((items.toList.drop (sIx items.size 0 lo)).take (sIx items.size items.size hi-sIx items.size 0 lo)).toArray):=by
  show((items.toList.drop (sIx items.size 0 lo)).take (sIx items.size items.size hi-sIx items.size 0 lo)).toArray.size<=sizeLine;rw[XJ,YM,EU,Array.length_toList];omega
 have hj:sIx items.size items.size hi<=items.size:=pc _ _ (XE _) hi;obtain⟨os,hos,hcs,hds⟩:=id hs;have hTs:s.TypeIs (.ref sl) "slice":=⟨os,hos,hcs⟩;unfold getItem
 try with_reducible refine wpAny_holding ?_
 first | refine XA (XB ?_) | skip
 refine XA (wpAny_sequenceKey ht.typeIs (by decide) ?_);refine XA (wpAny_callSpecial?_slot (name:=Str.ofString "__getitem__") ht.typeIs CJ
  (wpAny_call_entry CJ ht.typeIs entry_tuple_getitem ?_ (args_tuple_getitem _ _)))
 show wpAny _ _ (Builtin.Tuple.tupleItemsOf (.ref t)>>=_) _ _ s;refine XA (tupleItemsOf_ ht ?_);refine XA (wpAny_typeOf hTs ?_);rw[XY (by decide)];refine XA (Tj hs pl pu ?_);have hno:¬((((sIx items.size 0 lo:Nat):Int)==0&&(1:Int)==1&&(sIx items.size items.size hi-sIx items.size 0 lo)==items.size)=true):=by
  intro q;rw[CB,CB] at q;have q1:((sIx items.size 0 lo:Nat):Int)=0:=eq_of_beq q.1.1;have q2:sIx items.size items.size hi-sIx items.size 0 lo=items.size:=eq_of_beq q.2;exact hw ⟨by omega,by omega⟩
 show wpAny _ _ (if (((sIx items.size 0 lo:Nat):Int)==0&&(1:Int)==1&&(sIx items.size items.size hi-sIx items.size 0 lo)==items.size)=true then _ else _) _ _ s;rw[XX hno,w6]
 first
  | exact XA (m:=Builtin.Tuple.tupleExact _) (wpAny_newObj_type (XB ⟨_,FV,XB h⟩) htake)
  | exact XA (m:=Builtin.Tuple.tupleExact _) (wpAny_newObj_type (XA (XB (XB ⟨_,FV,XB h⟩))) htake)
  | exact XA (XA (m:=Builtin.Tuple.tupleExact _) (wpAny_newObj_type (XB (XB ⟨_,FV,XB h⟩)) htake))
  | exact XA (XA (m:=Builtin.Tuple.tupleExact _) (wpAny_newObj_type (XB ⟨_,FV,XB h⟩) htake))
end
end HT
namespace L2
open PySem PySem.Spec PyProof.Rows
abbrev TO:=St->Hp->(Option Int->Hp->Prop)->Prop
def PO (X:Cx)(e:Option WW)(t:TO):Prop:=
 ∀(WZ:List (WP×Obj)) (s:WR) (σ:St) (H:Hp) (Q:Option Int->Hp->Prop),Zl X WZ σ H s->t σ H Q->
  wpAny (model X.prog X.w) X.A (evalPart e X.env) (λu s'=>∃o H',Zl X WZ σ H' s'/\IsPart u o/\Q o H') X.xe s
def uV:TO:=λ_ H Q=>Q none H
def mH (t:TE):TO:=λσ H Q=>t σ H λx H1=>∃i,x=.int i/\Q (some i) H1
section
variable {X:Cx}{e:WW}{te:TE}{lo hi:Option WW}{tl th:TO}{pos p2:Pos}
def tS:PO X none uV:=by
 intro WZ s σ H Q I h;rw[evalPart_none];exact XB ⟨none,H,I,.none,h⟩
def tR (h:PE X e te):PO X (some e) (mH te):=by
 intro WZ s σ H Q I hw;rw[evalPart_some];refine Ja (h WZ s σ H _ I hw) λu s1 ⟨x,H1,I1,r1,q1⟩=>?_;obtain⟨i,rfl,q⟩:=q1;obtain⟨t,rfl⟩:=r1;exact⟨some i,H1,I1,.int i t,q⟩
def uI (X:Cx)(r:V->Option Int->Option Int->Hp->VK->Prop):Prop:=
 ∀(WZ:List (WP×Obj)) (s:WR) (σ:St) (H:Hp) (x:V) (v vl vu:WQ) (lo hi:Option Int) (sl:WP) (Q:VK),Zl X WZ σ H s->Z3 x v->s.heap.IsSliceOf sl vl vu .none->IsPart vl lo->IsPart vu hi->r x lo hi H Q->
  ∃T id,typeLookup (.type T) "__getitem__"=pure (some (.builtin id))/\s.TypeIs v T/\wpAny (model X.prog X.w) X.A (getItem v (.ref sl)) (EP X WZ σ Q) X.xe s
def uI.or {r r':V->Option Int->Option Int->Hp->VK->Prop}(h:uI X r)(h':uI X r'):uI X (λx lo hi H Q=>r x lo hi H Q\/r' x lo hi H Q):=by
 intro WZ s σ H x v vl vu lo hi sl Q I rx hs pl pu q
 rcases q with q | q
 ·exact h WZ s σ H x v vl vu lo hi sl Q I rx hs pl pu q
 ·exact h' WZ s σ H x v vl vu lo hi sl Q I rx hs pl pu q
def dy (r:V->Option Int->Option Int->Hp->VK->Prop)(te:TE)(tl th:TO):TE:=λσ H Q=>te σ H λx H1=>tl σ H1 λl H2=>th σ H2 λu H3=>r x l u H3 Q
def D4 {r:V->Option Int->Option Int->Hp->VK->Prop}(hr:uI X r)(he:PE X e te)(hl:PO X lo tl)(hu:PO X hi th):PE X (.Subscript e (.Slice lo hi none p2) pos) (dy r te tl th):=by
 intro WZ s σ H Q I h;refine Subscript_ (Ja (he WZ s σ H _ I h) λv s1 ⟨x,H1,I1,r1,q1⟩=>?_);refine wpAny_Slice (Ja (hl WZ s1 σ H1 _ I1 q1) λvl s2 ⟨l,H2,I2,pl,q2⟩=>Ja (hu WZ s2 σ H2 _ I2 q2) λvu s3 ⟨u,H3,I3,pu,q3⟩=>?_);rw[evalPart_none];refine XB ?_;have I4:Zl X WZ σ H3 {s3 with heap:=s3.heap.push {cls:=.type "slice",data:=.fields #[vl,vu,.none]}}:=I3.kept (t':=s3.toks) λb ob q=>XC _ q;obtain⟨T,id,hT,ht,hg⟩:=hr WZ {s3 with heap:=s3.heap.push {cls:=.type "slice",data:=.fields #[vl,vu,.none]}} σ H3 x v vl vu l u s3.heap.objs.size Q I4 r1 (Heap.IsSliceOf.new ..) pl pu q3;show wpAny (model X.prog X.w) X.A (subscriptTail e (.Slice lo hi none p2) v (.ref s3.heap.objs.size)) (EP X WZ σ Q) X.xe {s3 with heap:=s3.heap.push {cls:=.type "slice",data:=.fields #[vl,vu,.none]}};exact tail_any (ops:=[.ref s3.heap.objs.size,v]) ht hT hg (by with_unfolding_all rfl)
def Bf (xs:List V)(lo hi:Option Int):List V:=(xs.drop (HT.sIx xs.length 0 lo)).take (HT.sIx xs.length xs.length hi-HT.sIx xs.length 0 lo)
def Nv (xs:List V)(lo hi:Option Int):(Bf xs lo hi).length<=xs.length:=by
 unfold Bf;rw[YM,EU];omega
def gF (K:WY):V->Option Int->Option Int->Hp->VK->Prop:=λx lo hi H Q=>∃a xs,x=.ref a/\Vx K H a xs/\
 ¬(HT.sIx xs.length 0 lo=0/\HT.sIx xs.length xs.length hi=xs.length)/\∀p,H p=none->Q (.ref p) (Yo H p (.tup (Bf xs lo hi)))
def xI:uI X (gF X.K):=by
 intro WZ s σ H x v vl vu lo hi sl Q I rx hs pl pu h;obtain⟨a,xs,rfl,hx,hw,q⟩:=h
 cases rx
 obtain⟨its,r,ht,hz⟩:=I.tuple hx;have hlen:its.toArray.size=xs.length:=by rw[XJ];exact r.length.symm
 refine⟨"tuple",_,PyProof.Rows.slot_tuple_getitem.lookup,ht.typeIs,?_⟩;refine HT.getItem_tuple_cut ht hs pl pu (by rw[hlen];exact hw) ?_ (by rw[hlen];exact hz);rw[hlen];refine⟨.ref s.heap.objs.size,_,I.laid (t':=s.toks) (o:=.tup (Bf xs lo hi)) (λb ob q=>XC _ q) (XE _) ?_,FV,q _ (I.hok.fresh (XE _))⟩;exact⟨XN (Nv xs lo hi) hz,_,(r.drop (HT.sIx xs.length 0 lo)).take (HT.sIx xs.length xs.length hi-HT.sIx xs.length 0 lo),IsTup.new _ _⟩
def lM (K:WY):R2:=λx y H Q=>∃a b xs ys,x=.ref a/\y=.ref b/\Vx K H a xs/\Vx K H b ys/\xs≠[]/\xs.length+ys.length<=sizeLine/\
 (ys=[]->Q (.ref a) H)/\(ys≠[]->∀p,H p=none->Q (.ref p) (Yo H p (.tup (xs++ys))))
def Z0.nil_iff {xs:List V}{us:List WQ}(r:Z0 xs us):us=[]↔xs=[]:=by
 cases r with
 | nil=>simp
 | cons _ _=>simp
def sh:N0 X (binaryOp .Add) (lM X.K):=by
 intro WZ s σ H x y v u Q I rx ry h;obtain⟨a,b,xs,ys,rfl,rfl,ha,hb,hx,hz,q1,q2⟩:=h
 cases rx
 cases ry
 obtain⟨its,r1,p1,_⟩:=I.tuple ha;obtain⟨its2,r2,p2,_⟩:=I.tuple hb;refine HT.cat_tup p1 p2 (λz=>hx (r1.nil_iff.mp z)) (λz=>⟨.ref a,H,I,FV,q1 (r2.nil_iff.mp z)⟩) (λz=>?_) (by rw[<-r1.length,<-r2.length];exact hz);refine⟨.ref s.heap.objs.size,_,I.laid (t':=s.toks) (o:=.tup (xs++ys)) (λb ob q=>XC _ q) (XE _) ?_,FV,q2 (λw=>z (r2.nil_iff.mpr w)) _ (I.hok.fresh (XE _))⟩;exact⟨by rw[BA];exact hz,_,r1.append r2,IsTup.new _ _⟩
end
def jk (n:Nat)(i:Int):Option Nat:=if 0<=i then(if i<n then some i.toNat else none) else if-(n:Int)<=i then some (i+n).toNat else none
def Oq {α:Type}(xs:List α)(i:Int):Option α:=(jk xs.length i).bind λj=>xs[j]?
def yk {n:Nat}{i:Int}{j:Nat}(h:jk n i=some j):seqIndex? i n=some j/\j<n/\ -(n:Int)<=i/\i<n:=by
 unfold jk at h;by_cases h0:0<=i
 ·rw[XY h0] at h;by_cases h1:i<n
  ·rw[XY h1] at h;have e:i.toNat=j:=YH h;exact⟨by rw[seqIndex_of h0 h1,e],by omega,by omega,h1⟩
  ·rw[XX h1] at h;cases h
 ·rw[XX h0] at h;by_cases h1: -(n:Int)<=i
  ·rw[XY h1] at h;have e:(i+n).toNat=j:=YH h;exact⟨by rw[seqIndex_neg (by omega) h1,e],by omega,h1,by omega⟩
  ·rw[XX h1] at h;cases h
def Ew {α:Type}{xs:List α}{i:Int}{v:α}(h:Oq xs i=some v):∃j,seqIndex? i xs.length=some j/\xs[j]?=some v/\j<xs.length/\ -(xs.length:Int)<=i/\i<xs.length:=by
 unfold Oq at h
 cases e:jk xs.length i with
 | none=>rw[e] at h;cases h
 | some j=>
  rw[e] at h;obtain⟨h1,h2,h3,h4⟩:=yk e;exact⟨j,h1,h,h2,h3,h4⟩
def Y8 {α:Type}{xs:List α}{j:Nat}{v:α}(h:xs[j]?=some v):Oq xs (j:Int)=some v:=by
 have hj:j<xs.length:=(BB.mp h).1;have e:jk xs.length (j:Int)=some j:=by
  unfold jk;rw[if_pos (by omega),if_pos (by omega)];simp
 unfold Oq;rw[e];exact h
def yA (b:WW):Prop:=∀o i,subscripted b false o i=operate [o,i] (getItem o i)
def uL (X:Cx)(r:R2):Prop:=
 ∀(value slice:WW) (WZ:List (WP×Obj)) (s:WR) (σ:St) (H:Hp) (x y:V) (v u:WQ) (Q:VK),Zl X WZ σ H s->Z3 x v->Z3 y u->r x y H Q->
  subscripted slice false v u=operate [v,u] (getItem v u)->wpAny (model X.prog X.w) X.A (subscriptTail value slice v u) (EP X WZ σ Q) X.xe s
def iW (X:Cx)(id:String)(r:V->List V->Hp->VK->Prop):Prop:=
 ∀(WZ:List (WP×Obj)) (s:WR) (σ:St) (H:Hp) (x:V) (xs:List V) (v:WQ) (us:List WQ) (Q:VK),Zl X WZ σ H s->Z3 x v->Z0 xs us->r x xs H Q->
  wpAny (model X.prog X.w) X.A (call (.builtin id) (v::us)) (EP X WZ σ Q) X.xe s
section
variable {X:Cx}{a b:WW}{ta tb:TE}{pos:Pos}
def uL.or {r r':R2}(h:uL X r)(h':uL X r'):uL X (λx y H Q=>r x y H Q\/r' x y H Q):=by
 intro value slice WZ s σ H x y v u Q I rx ry q hs
 rcases q with q | q
 ·exact h value slice WZ s σ H x y v u Q I rx ry q hs
 ·exact h' value slice WZ s σ H x y v u Q I rx ry q hs
def lV {r:R2}(hr:uL X r)(ha:PE X a ta)(hb:PE X b tb)(hs:yA b):PE X (.Subscript a b pos) (mI r ta tb):=by
 intro WZ s σ H Q I h;exact Subscript_ (nC ha hb I h λv u s2 x y H2 I2 rx ry q=>hr a b WZ s2 σ H2 x y v u Q I2 rx ry q (hs _ _))
def lL (K:WY):R2:=λx y H Q=>∃p xs i v,x=.ref p/\y=.int i/\Wl K H p xs/\Oq xs i=some v/\Q v H
def lI (K:WY):R2:=λx y H Q=>∃p xs i v,x=.ref p/\y=.int i/\Vx K H p xs/\Oq xs i=some v/\Q v H
def lJ:R2:=λx y H Q=>∃z i c,x=.str z/\y=.int i/\z.length<=sizeLine/\Oq z.cps.toList i=some c/\Q (.str ⟨#[c]⟩) H
def sD:uL X (lL X.K):=by
 intro value slice WZ s σ H x y v u Q I rx ry h hs;obtain⟨p,xs,i,z,rfl,rfl,hq,he,q⟩:=h
 cases rx
 obtain⟨t,rfl⟩:=ry;obtain⟨its,r,pl,hz⟩:=I.list hq;obtain⟨j,h1,h2,h3,h4,h5⟩:=Ew he;obtain⟨w,ew,rw'⟩:=r.get h2;have hl:=r.length;have hn:=Q8;have fin:EP X WZ σ Q w s:=⟨z,H,I,rw',q⟩;by_cases h0:0<=i
 ·have hj:i.toNat=j:=by
   rw[seqIndex_of h0 h5] at h1;exact YH h1
  exact item_listR pl.isList h0 (by omega) (by rw[hj];simpa using ew) fin hs
 ·have hj:(i+(its.toArray.size:Int)).toNat=j:=by
   rw[seqIndex_neg (by omega) h4] at h1;rw[XJ,<-hl];exact YH h1
  exact subscriptTail_builtinR (x:=w) pl.isList.typeIs slot_list_getitem.lookup
   (wpAny_getItem_list_neg (Q:=λr s'=>r=w/\EP X WZ σ Q r s') pl.isList (by omega) (by rw[List.size_toArray]<;>omega) (by omega) (by rw[hj];simpa using ew) ⟨FV,fin⟩) hs
def oH:uL X (lI X.K):=by
 intro value slice WZ s σ H x y v u Q I rx ry h hs;obtain⟨p,xs,i,z,rfl,rfl,hq,he,q⟩:=h
 cases rx
 obtain⟨t,rfl⟩:=ry;obtain⟨its,r,pl,hz⟩:=I.tuple hq;obtain⟨j,h1,h2,h3,h4,h5⟩:=Ew he;obtain⟨w,ew,rw'⟩:=r.get h2;have hl:=r.length;have hn:=Q8;have fin:EP X WZ σ Q w s:=⟨z,H,I,rw',q⟩;exact subscriptTail_builtinR (x:=w) pl.typeIs slot_tuple_getitem.lookup
  (getItem_tuple (j:=j) (Q:=λr s'=>r=w/\EP X WZ σ Q r s') pl (by omega) (by omega) (by rw[List.size_toArray,<-hl];exact h1) (by simpa using ew) ⟨FV,fin⟩) hs
def oI:uL X lJ:=by
 intro value slice WZ s σ H x y v u Q I rx ry h hs;obtain⟨z,i,c,rfl,rfl,hz,he,q⟩:=h;obtain⟨t,rfl⟩:=rx;obtain⟨t',rfl⟩:=ry;obtain⟨j,h1,h2,h3,h4,h5⟩:=Ew he;have hl:z.cps.toList.length=z.length:=by simp[Str.length]
 rw[hl] at h1 h4 h5;have hn:=Q8;exact tail_any (typeIs_str s z t) slot_str_getitem.lookup (getItem_str (c:=c) (by
  have e1:decide (i< -(2^63:Int))=false:=YG (by omega);have e2:decide (i>=2^63)=false:=YG (by omega);rw[e1,e2,Bool.or_false]) (by rw[h1];simpa using h2) ⟨.str ⟨#[c]⟩,H,I.tok _,⟨_,FV⟩,q⟩) hs
def dP (K:WY):R2:=λx y H Q=>lL K x y H Q\/lI K x y H Q\/lJ x y H Q
def oJ:uL X (dP X.K):=sD.or (oH.or oI)
def Ar (its:List WQ)(n j:Nat)(u:WQ):Obj.mapSeq (·.setIfInBounds j u) {cls:=.type "list",data:=.seq its.toArray n}={cls:=.type "list",data:=.seq (its.set j u).toArray n}:=by
 simp[Obj.mapSeq]
def Zl.lst {WZ:List (WP×Obj)}{σ:St}{H:Hp}{s:WR}{p:WP}{xs:List V}(I:Zl X WZ σ H s)(h:H p=some (.lst xs)):
  ∃(its:List WQ) (n:Nat),Z0 xs its/\s.heap.get? p=some {cls:=.type "list",data:=.seq its.toArray n}/\xs.length<=sizeLine:=by
 obtain⟨z,its,n,r,e⟩:=I.hok p _ h;exact⟨its,n,r,e,z⟩
def Zl.lstUpd {WZ:List (WP×Obj)}{σ:St}{H:Hp}{s:WR}{p:WP}{xs ys:List V}{its its':List WQ}{n n':Nat}{f:Obj->Obj}(I:Zl X WZ σ H s)(h:H p=some (.lst xs))
  (ho:s.heap.get? p=some {cls:=.type "list",data:=.seq its.toArray n}) (hf:f {cls:=.type "list",data:=.seq its.toArray n}={cls:=.type "list",data:=.seq its'.toArray n'}) (r:Z0 ys its') (hz:ys.length<=sizeLine) (t:Nat):
  Zl X WZ σ (Yo H p (.lst ys)) {s with heap:=s.heap.update p f,toks:=t}:=by
 have e:(s.heap.update p f).get? p=some {cls:=.type "list",data:=.seq its'.toArray n'}:=by
  rw[DQ f ho (by rw[hf]<;>rfl),hf]
 refine I.write (x:=p) (e:=p) (by rw[h];trivial) (.inl FV) (λb u hb q=>(DL _ _ (Ne.symm hb)).trans q) ⟨_,e⟩ ?_;exact⟨hz,its',n',r,e⟩
def lG:V->V->V->Hp->(Hp->Prop)->Prop:=λo i v H Q=>∃p xs k j,o=.ref p/\i=.int k/\H p=some (.lst xs)/\jk xs.length k=some j/\Q (Yo H p (.lst (xs.set j v)))
def xK:ma X lG:=by
 intro WZ s σ H o i v ov iv u Q I ro ri rv h;obtain⟨p,xs,k,j,rfl,rfl,hp,hj,q⟩:=h
 cases ro
 obtain⟨t,rfl⟩:=ri;obtain⟨its,n,r,ho,hz⟩:=I.lst hp;obtain⟨h1,h2,h3,h4⟩:=yk hj;have hl:=r.length;have hn:=Q8;have I':Zl X WZ σ (Yo H p (.lst (xs.set j v))) {s with heap:=s.heap.update p (Obj.mapSeq (·.setIfInBounds j u))}:=
  I.lstUpd hp ho (Ar its n j u) (r.set rv j) (by rw[CM];exact hz) s.toks
 by_cases h0:0<=k
 ·have hk:k.toNat=j:=by
   rw[seqIndex_of h0 h4] at h1;exact YH h1
  exact W.ki_setAt ho h0 (by omega) (by rw[XJ,<-hl];exact h4) (by rw[hk];exact⟨_,I',q⟩)
 ·have hk:(k+(its.toArray.size:Int)).toNat=j:=by
   rw[seqIndex_neg (by omega) h3] at h1;rw[XJ,<-hl];exact YH h1
  exact W.ki_setBack ho (by omega) (by rw[XJ,<-hl];exact h3) (by omega) (by rw[hk];exact⟨_,I',q⟩)
def Gp (lo hi:Option Int)(n:Nat):(sliceBounds lo hi none n).1=((HT.sIx n 0 lo:Nat):Int)/\(sliceBounds lo hi none n).2.1=((HT.sIx n n hi:Nat):Int)/\(sliceBounds lo hi none n).2.2=1:=by
 refine⟨?_,?_,FV⟩
 ·cases lo with
  | none=>simp[sliceBounds,HT.sIx]
  | some i=>
   simp only[sliceBounds,HT.sIx,Option.getD_none,show(1:Int)>0 by decide,if_true];by_cases h:i<0
   ·simp only[h,if_true]<;>omega
   ·simp only[h,if_false]<;>omega
 ·cases hi with
  | none=>simp[sliceBounds,HT.sIx]
  | some i=>
   simp only[sliceBounds,HT.sIx,Option.getD_none,show(1:Int)>0 by decide,if_true];by_cases h:i<0
   ·simp only[h,if_true]<;>omega
   ·simp only[h,if_false]<;>omega
def K7 (its:List WQ)(lo hi:Option Int):slicePick its.toArray lo hi none=((its.drop (HT.sIx its.length 0 lo)).take (HT.sIx its.length its.length hi-HT.sIx its.length 0 lo)).toArray:=by
 obtain⟨h1,h2,h3⟩:=Gp lo hi its.toArray.size;unfold slicePick;rw[h1,h2,h3];simp only[sliceRange_one,pick_run,List.size_toArray]<;>rfl
def gH (K:WY):V->Option Int->Option Int->Hp->VK->Prop:=λx lo hi H Q=>∃a xs,x=.ref a/\Wl K H a xs/\∀p,H p=none->Q (.ref p) (Yo H p (.lst (Bf xs lo hi)))
def tj:uI X (gH X.K):=by
 intro WZ s σ H x v vl vu lo hi sl Q I rx hs pl pu h;obtain⟨a,xs,rfl,hx,q⟩:=h
 cases rx
 obtain⟨its,r,ht,hz⟩:=I.list hx;have hlen:=r.length;refine⟨"list",_,slot_list_getitem.lookup,ht.isList.typeIs,?_⟩;refine wpAny_getItem_list_slice ht.isList hs pl pu .none (by simp) ?_ (by rw[List.size_toArray]<;>omega);rw[K7,<-hlen];refine⟨.ref s.heap.objs.size,_,I.laid (t':=s.toks) (o:=.lst (Bf xs lo hi)) (λb ob q=>XC _ q) (XE _) ?_,FV,q _ (I.hok.fresh (XE _))⟩;exact⟨XN (Nv xs lo hi) hz,_,0,(r.drop (HT.sIx xs.length 0 lo)).take (HT.sIx xs.length xs.length hi-HT.sIx xs.length 0 lo),XF _ FV⟩
def Cv:V->Bool
 | .non=>true
 | .bl _=>true
 | .int _=>true
 | .str _=>true
 | _=>false
def oZ:V->V->Bool
 | .non,.non=>true
 | .bl a,.bl b=>a==b
 | .bl a,.int b=>(if a then 1 else 0)==b
 | .int a,.bl b=>a==(if b then 1 else 0)
 | .int a,.int b=>a==b
 | .str a,.str b=>a==b
 | _,_=>false
def vF {A:WM}{s:WR}{y x:V}{u v:WQ}(ry:Z3 y u)(rx:Z3 x v)(fy:Cv y=true)(fx:Cv x=true):SeqAt.EqAt A s u v (oZ y x):=by
 cases y with
 | non=>
  cases ry
  cases x with
  | non=>cases rx;exact SeqAt.EqAt.same _
  | bl b=>cases rx;exact SeqAt.EqAt.none_bool b
  | int b=>obtain⟨t,rfl⟩:=rx;exact SeqAt.EqAt.none_int b t
  | str b=>obtain⟨t,rfl⟩:=rx;exact SeqAt.EqAt.none_str b t
  | _=>exact absurd (show false=true from fx) YJ
 | bl a=>
  cases ry
  cases x with
  | non=>cases rx;exact SeqAt.EqAt.bool_none a
  | bl b=>cases rx;exact SeqAt.EqAt.bool_bool a b
  | int b=>obtain⟨t,rfl⟩:=rx;exact SeqAt.EqAt.bool_int a b t
  | str b=>obtain⟨t,rfl⟩:=rx;exact SeqAt.EqAt.bool_str a b t
  | _=>exact absurd (show false=true from fx) YJ
 | int a=>
  obtain⟨t',rfl⟩:=ry
  cases x with
  | non=>cases rx;exact SeqAt.EqAt.int_none a t'
  | bl b=>cases rx;exact SeqAt.EqAt.int_bool a t' b
  | int b=>obtain⟨t,rfl⟩:=rx;exact SeqAt.EqAt.int_int a t' b t
  | str b=>obtain⟨t,rfl⟩:=rx;exact SeqAt.EqAt.int_str a t' b t
  | _=>exact absurd (show false=true from fx) YJ
 | str a=>
  obtain⟨t',rfl⟩:=ry
  cases x with
  | non=>cases rx;exact SeqAt.EqAt.str_none a t'
  | bl b=>cases rx;exact SeqAt.EqAt.str_bool a t' b
  | int b=>obtain⟨t,rfl⟩:=rx;exact SeqAt.EqAt.str_int a t' b t
  | str b=>obtain⟨t,rfl⟩:=rx;exact SeqAt.EqAt.str_str a t' b t
  | _=>exact absurd (show false=true from fx) YJ
 | _=>exact absurd (show false=true from fy) YJ
def cU (x:V)(u:WQ):Bool:=match u with
 | .none=>oZ .non x
 | .bool b=>oZ (.bl b) x
 | .int i _=>oZ (.int i) x
 | .str z _=>oZ (.str z) x
 | _=>false
def de (x:V)(xs:List V):Bool:=xs.any λy=>oZ y x
def cR (K:WY)(neg:Bool):R2:=λx y H Q=>∃p xs,y=.ref p/\(Wl K H p xs\/Vx K H p xs)/\Cv x=true/\xs.all Cv=true/\Q (.bl (if neg then !de x xs else de x xs)) H
def Ep:Vp X (.builtin "len") (λxs H Q=>∃p ys,xs=[.ref p]/\(Wl X.K H p ys\/Vx X.K H p ys)/\Q (.int ys.length) H):=by
 intro WZ s σ H xs us Q I r h;obtain⟨p,ys,rfl,hq,q⟩:=h;obtain⟨u,rfl,rx⟩:=Qq r
 cases rx
 have hn:=Q8
 rcases hq with hq | hq
 ·obtain⟨its,r',pl,hz⟩:=I.list hq;have hlen:=r'.length;exact Calls.call_len_list pl.isList (by simp only[List.size_toArray]<;>omega) ⟨.int ys.length,H,I.tok _,⟨s.toks+1,by rw[List.size_toArray,hlen]⟩,q⟩
 ·obtain⟨its,r',pl,hz⟩:=I.tuple hq;have hlen:=r'.length;exact len_tuple pl (by simp only[List.size_toArray]<;>omega) ⟨.int ys.length,H,I.tok _,⟨s.toks+1,by rw[List.size_toArray,hlen]⟩,q⟩
def Eo:Vp X (.builtin "len") (λxs H Q=>∃z,xs=[.str z]/\z.length<=sizeLine/\Q (.int z.length) H):=by
 intro WZ s σ H xs us Q I r h;obtain⟨z,rfl,hz,q⟩:=h;obtain⟨u,rfl,t,rfl⟩:=Qq r;have hn:=Q8;exact len_str (by omega) ⟨.int z.length,H,I.tok _,⟨_,FV⟩,q⟩
def Vp.or {f:WQ}{r r':List V->Hp->VK->Prop}(h:Vp X f r)(h':Vp X f r'):Vp X f (λxs H Q=>r xs H Q\/r' xs H Q):=by
 intro WZ s σ H xs us Q I rs q
 rcases q with q | q
 ·exact h WZ s σ H xs us Q I rs q
 ·exact h' WZ s σ H xs us Q I rs q
def Ij:Vp X (.type "tuple") (λxs H Q=>∃p ys,xs=[.ref p]/\((Wl X.K H p ys/\∀l,H l=none->Q (.ref l) (Yo H l (.tup ys)))\/(Vx X.K H p ys/\Q (.ref p) H))):=by
 intro WZ s σ H xs us Q I r h;obtain⟨p,ys,rfl,h⟩:=h;obtain⟨u,rfl,rx⟩:=Qq r
 cases rx
 rcases h with⟨hq,q⟩ | ⟨hq,q⟩
 ·obtain⟨its,r',pl,hz⟩:=I.list hq;have hlen:=r'.length;refine call_tuple_list pl.isList (λh' kp=>?_) (by simp only[List.size_toArray]<;>omega);have I1:Zl X WZ σ H {s with heap:=h'}:=I.kept (t':=s.toks) kp;have I2:Zl X WZ σ (Yo H h'.objs.size (.tup ys)) {s with heap:=h'.push {cls:=.type "tuple",data:=.seq its.toArray}}:=
   I1.laid (t':=s.toks) (λb o e=>XC _ e) (XE _) (show Y2 X.prog X.w _ _ _ (.tup ys) from⟨hz,its,r',IsTup.new _ _⟩)
  exact⟨.ref h'.objs.size,_,I2,FV,q _ (I1.hok.fresh (XE _))⟩
 ·obtain⟨its,r',pl,hz⟩:=I.tuple hq;exact call_tuple_same pl ⟨.ref p,H,I,FV,q⟩
def mi (K:WY)(T:String)(x:V)(H:Hp):Prop:=match x with
 | .str _=>T="str"
 | .int _=>T="int"
 | .ref p=>(T="list"/\∃xs,Wl K H p xs)\/(T="tuple"/\∃o,K.lookup p=some o/\o.cls=.type "tuple"/\o.dict=none)\/
   (T="dict"/\((∃kvs,H p=some (.dK kvs))\/∃kvs,H p=some (.dT kvs)))\/(T="set"/\∃S n,H p=some (.set S n))
 | _=>False
def xr {WZ:List (WP×Obj)}{σ:St}{H:Hp}{s:WR}{T:String}{x:V}{v:WQ}(I:Zl X WZ σ H s)(r:Z3 x v)(ty:mi X.K T x H):
  s.TypeIs v T/\∀a,v=.ref a->∃ob,s.heap.get? a=some ob/\ob.dict=none:=by
 cases x with
 | str z=>
  obtain⟨t,rfl⟩:=r
  cases (show T="str" from ty)
  exact⟨typeIs_str s z t,λ_ e=>nomatch e⟩
 | int i=>
  obtain⟨t,rfl⟩:=r
  cases (show T="int" from ty)
  exact⟨typeIs_int s i t,λ_ e=>nomatch e⟩
 | ref p=>
  cases r
  rcases ty with⟨rfl,xs,hq⟩ | ⟨rfl,o,hk,hc,hd⟩ | ⟨rfl,hk⟩ | ⟨rfl,S,n,hk⟩
  ·obtain⟨its,_,pl,_⟩:=I.list hq;refine⟨pl.isList.typeIs,λa e=>?_⟩
   cases e
   obtain⟨o,n,e,c,hd,_⟩:=pl;exact⟨o,e,hd⟩
  ·refine⟨⟨o,I.kIn p o hk,hc⟩,λa e=>?_⟩
   cases e
   exact⟨o,I.kIn _ o hk,hd⟩
  ·have z:∃o,s.heap.get? p=some o/\o.ExactDict:=by
    rcases hk with⟨kvs,hk⟩ | ⟨kvs,hk⟩
    ·obtain⟨_,_,_,_,o,_,_,e,ex,_⟩:=I.hok p _ hk;exact⟨o,e,ex⟩
    ·obtain⟨_,_,_,_,o,_,_,e,ex,_⟩:=I.hok p _ hk;exact⟨o,e,ex⟩
   obtain⟨o,e,ex⟩:=z;refine⟨⟨o,e,ex.1⟩,λa e2=>?_⟩
   cases e2
   exact⟨o,e,ex.2.1⟩
  ·obtain⟨o,_,_,_,e,ex,_⟩:=I.hok p _ hk;refine⟨⟨o,e,ex.1⟩,λa e2=>?_⟩
   cases e2
   exact⟨o,e,ex.2.1⟩
 | _=>exact False.elim ty
def gu (K:WY)(T:String)(r:V->List V->Hp->VK->Prop)(to:TE):TE:=λσ H Q=>to σ H λx H1=>mi K T x H1/\r x [] H1 Q
def dF (K:WY)(T:String)(r:V->List V->Hp->VK->Prop)(to:TE)(t:TA):TE:=λσ H Q=>to σ H λx H1=>mi K T x H1/\t σ H1 λxs H2=>r x xs H2 Q
variable {o e:WW}{es:List WW}{to:TE}{t:TA}{name:Str}{apos cpos:Pos}{T id:String}{r:V->List V->Hp->VK->Prop}
def pR (pa:PlainAttrs T)(slot:Slot T name id)(hty:typeOf (.builtin id)=pure (.type "method_descriptor"))(hm:iW X id r)(ho:PE X o to)
  (hbase:attributeBase o name X.env (eval o X.env)=eval o X.env:=by rfl) (hline:(apos.endLine==cpos.line)=true:=by rfl):PE X (.Call (.Attribute o name apos) [] [] cpos) (gu X.K T r to):=by
 intro WZ s σ H Q I h;refine wpAny_Call_method0_late hbase hline (Ja (ho WZ s σ H _ I h) λv s1 ⟨x,H1,I1,r1,ty,q1⟩=>?_);obtain⟨h1,h2⟩:=xr I1 r1 ty;exact⟨T,id,pa,slot,hty,h1,h2,DN FV (PySem.evalArgs_none (hm WZ s1 σ H1 x [] v [] Q I1 r1 .nil q1))⟩
def lX (pa:PlainAttrs T)(slot:Slot T name id)(hty:typeOf (.builtin id)=pure (.type "method_descriptor"))(hm:iW X id r)(ho:PE X o to)(ha:PA X (e::es) t)
  (hbase:attributeBase o name X.env (eval o X.env)=eval o X.env:=by rfl)
  (hfew:((backTo cpos (starEach (e::es) X.env)).all (λx=>!x.1)&&(backToKw cpos (keywordEach [] X.env)).all (λx=>x.1.isSome)
   &&decide ((e::es).length+([]:List Keyword).length+(if ([]:List Keyword).isEmpty then 0 else 1)<30))=true:=by rfl)
  (hline:(apos.endLine==cpos.line)=true:=by rfl) (hs:starEach (e::es) X.env=(false,eval e X.env)::starEach es X.env:=by rfl) (hplain:(backTo cpos (starEach es X.env)).any (·.1)=false:=by rfl):
  PE X (.Call (.Attribute o name apos) (e::es) [] cpos) (dF X.K T r to t):=by
 intro WZ s σ H Q I h;refine wpAny_Call_method_late hbase hfew hline FV (Ja (ho WZ s σ H _ I h) λv s1 ⟨x,H1,I1,r1,ty,q1⟩=>?_);obtain⟨h1,h2⟩:=xr I1 r1 ty;refine⟨T,id,pa,slot,hty,h1,h2,?_⟩;have hA:=ha cpos WZ s1 σ H1 _ I1 q1;rw[hs] at hA |-;refine DN (by show(false||(backTo cpos (starEach es X.env)).any (·.1))=false;rw[hplain]<;>rfl) (DU ?_);exact Ja hA λus s2 ⟨vs,H2,I2,r2,q2⟩=>hm WZ s2 σ H2 x vs v us Q I2 r1 r2 q2
/-xs.append(e),list.index on a module's tuple .. are iW facts of 06m-/
end
def eg (X:Cx)(id:String)(r:V->List V->Hp->VK->Prop):Prop:=
 ∀(WZ:List (WP×Obj)) (s:WR) (σ:St) (H:Hp) (x:V) (xs:List V) (v:WQ) (us:List WQ) (Q:VK),Zl X WZ σ H s->Z3 x v->Z0 xs us->r x xs H Q->
  wpAny (model X.prog X.w) X.A (call (.builtin id) (v::us)) (EP X WZ σ Q) X.xe s
def Z0.one:∀{x:V} {us:List WQ},Z0 [x] us->∃u,us=[u]/\Z3 x u
 | _,_,.cons r .nil=>⟨_,FV,r⟩
def Z0.two:∀{x y:V} {us:List WQ},Z0 [x,y] us->∃u v,us=[u,v]/\Z3 x u/\Z3 y v
 | _,_,_,.cons r (.cons q .nil)=>⟨_,_,FV,r,q⟩
def Z0.zero:∀{us:List WQ},Z0 [] us->us=[]
 | _,.nil=>rfl
def Z0.dropLast {xs:List V}{us:List WQ}(h:Z0 xs us):Z0 xs.dropLast us.dropLast:=by
 induction h with
 | nil=>exact .nil
 | cons r t ih=>
  cases t with
  | nil=>exact .nil
  | cons q t'=>exact .cons r ih
def zp {α:Type}(l:List α):l.eraseIdx (l.length-1)=l.dropLast:=by
 induction l with
 | nil=>rfl
 | cons a r ih=>
  cases r with
  | nil=>rfl
  | cons b r=>
   have e:(a::b::r).length-1=((b::r).length-1)+1:=by
    have h1:(a::b::r).length=r.length+2:=rfl;have h2:(b::r).length=r.length+1:=rfl;omega
   rw[e,List.eraseIdx_cons_succ,ih]
   all_goals rfl
section
variable {X:Cx}{WZ:List (WP×Obj)}{σ:St}{H:Hp}{s:WR}{l b:WP}{xs ys zs:List V}
def Zl.lset {its its':List WQ}{n:Nat}{f:Array WQ->Array WQ}{t':Nat}(I:Zl X WZ σ H s)(hH:H l=some (.lst xs))
  (e:s.heap.get? l=some {cls:=.type "list",data:=.seq its.toArray n}) (hf:f its.toArray=its'.toArray) (hv:Z0 ys its') (hz:ys.length<=sizeLine):
  Zl X WZ σ (Yo H l (.lst ys)) {s with heap:=s.heap.update l (Obj.mapSeq f),toks:=t'}:=by
 have q:=PySem.IsL.update e f;rw[hf] at q;refine I.write (x:=l) (e:=l) (by rw[hH];exact trivial) (.inl FV) (λb' u hb hu=>(DL s.heap (Obj.mapSeq f) (Ne.symm hb)).trans hu) ⟨_,q⟩ ?_;exact⟨hz,its',_,hv,q⟩
def Zl.lnew {its:List WQ}{t':Nat}(I:Zl X WZ σ H s)(hv:Z0 ys its)(hz:ys.length<=sizeLine):
  Zl X WZ σ (Yo H s.heap.objs.size (.lst ys)) {s with heap:=s.heap.push {cls:=.type "list",data:=.seq its.toArray},toks:=t'}:=
 I.laid (λ_ _ q=>XC _ q) (XE _) ⟨hz,its,0,hv,XF _ FV⟩
def Zl.fresh (I:Zl X WZ σ H s):H s.heap.objs.size=none:=I.hok.fresh (XE _)
def Zl.lstM (I:Zl X WZ σ H s)(hH:H l=some (.lst xs)):xs.length<=sizeLine/\∃(its:List WQ) (n:Nat),Z0 xs its/\xs.length=its.length/\s.heap.get? l=some {cls:=.type "list",data:=.seq its.toArray n}:=by
 obtain⟨z,its,n,r,e⟩:=I.hok l _ hH;exact⟨z,its,n,r,r.length,e⟩
def wR {n:Nat}(h:n<=sizeLine):Builtin.List.listTooLong n=false:=by
 unfold Builtin.List.listTooLong;exact YG (by omega)
end
section
variable {X:Cx}
def tG:V->List V->Hp->VK->Prop:=λx vs H Q=>∃l xs y,x=.ref l/\vs=[y]/\H l=some (.lst xs)/\xs.length<sizeLine/\Q .non (Yo H l (.lst (xs++[y])))
def Hb:eg X "list.append" tG:=by
 intro WZ s σ H x vs v us Q I rx rv h;obtain⟨l,xs,y,rfl,rfl,hH,hz,q⟩:=h
 cases rx
 obtain⟨u,rfl,ru⟩:=rv.one;obtain⟨z,its,n,r,hl,e⟩:=I.lstM hH;refine call_meets F.slot_list_append ⟨_,e,FV⟩ F.entry_list_append (F.args_list_append_2 _ _) (PySem.list_append l its.toArray n u (by rw[XJ];omega)) ⟨e,?_⟩;refine⟨.non,_,I.lset (its':=its++[u]) hH e (by simp) (r.append (.cons ru .nil)) ?_,FV,q⟩;rw[BA,BF];omega
def tF:V->List V->Hp->VK->Prop:=λx vs H Q=>∃l b xs zs,x=.ref l/\vs=[.ref b]/\H l=some (.lst xs)/\H b=some (.lst zs)/\xs.length+zs.length<=sizeLine/\Q .non (Yo H l (.lst (xs++zs)))
def je:eg X "list.extend" tF:=by
 intro WZ s σ H x vs v us Q I rx rv h;obtain⟨l,b,xs,zs,rfl,rfl,hH,hB,hz,q⟩:=h
 cases rx
 obtain⟨u,rfl,ru⟩:=rv.one
 cases ru
 obtain⟨z,its,n,r,hl,e⟩:=I.lstM hH;obtain⟨z2,its2,n2,r2,hl2,e2⟩:=I.lstM hB;have hsz:its.toArray.size+its2.toArray.size<=sizeLine:=by rw[XJ,XJ];omega
 have hlong:¬(!its.toArray.isEmpty&&Builtin.List.listTooLong (its.toArray.size+its2.toArray.size))=true:=by
  rw[wR hsz,Bool.and_false];exact YJ
 refine call_meets F.slot_list_extend ⟨_,e,FV⟩ F.entry_list_extend (F.args_list_extend_2 _ _)
  (AutoSeq1.list_extend_list_list_0 l its.toArray n b its2.toArray n2 hlong (by rw[XJ];omega) (by omega)) ⟨e,e2,?_⟩
 refine⟨.non,_,I.lset (its':=its++its2) hH e (by simp) (r.append r2) ?_,FV,q⟩;rw[BA];omega
def gI:V->List V->Hp->VK->Prop:=λx vs H Q=>∃l xs y,x=.ref l/\vs=[]/\H l=some (.lst xs)/\xs[xs.length-1]?=some y/\Q y (Yo H l (.lst xs.dropLast))
def ou:eg X "list.pop" gI:=by
 intro WZ s σ H x vs v us Q I rx rv h;obtain⟨l,xs,y,rfl,rfl,hH,hy,q⟩:=h
 cases rx
 have hus:=rv.zero;subst hus;obtain⟨z,its,n,r,hl,e⟩:=I.lstM hH;obtain⟨u,hu,ru⟩:=r.get hy;have hy':its.toArray[its.toArray.size-1]?=some u:=by
  show its.toArray[its.length-1]?=some u;rw[<-DR,<-hl];exact hu
 refine call_meets F.slot_list_pop ⟨_,e,FV⟩ F.entry_list_pop (F.args_list_pop_1 _) (MeetsSeq.list_pop_last l its.toArray n u hy' (by rw[XJ];omega)) ⟨e,?_⟩;refine⟨y,_,I.lset (its':=its.dropLast) hH e ?_ r.dropLast ?_,ru,q⟩
 ·show its.toArray.eraseIdxIfInBounds (its.toArray.size-1)=its.dropLast.toArray;rw[XJ,List.eraseIdxIfInBounds_toArray,zp]
 ·rw[List.length_dropLast];omega
def gK:R2:=λx y H Q=>∃l b xs zs,x=.ref l/\y=.ref b/\H l=some (.lst xs)/\H b=some (.lst zs)/\xs.length+zs.length<=sizeLine/\∀p,H p=none->Q (.ref p) (Yo H p (.lst (xs++zs)))
def oh:N0 X (binaryOp .Add) gK:=by
 intro WZ s σ H x y v u Q I rx ry h;obtain⟨l,b,xs,zs,rfl,rfl,hH,hB,hz,q⟩:=h
 cases rx
 cases ry
 obtain⟨z,its,n,r,hl,e⟩:=I.lstM hH;obtain⟨z2,its2,n2,r2,hl2,e2⟩:=I.lstM hB;refine PySem.P.add_list e e2 ?_ (by rw[XJ,XJ];omega);have ea:its.toArray++its2.toArray=(its++its2).toArray:=by simp
 rw[ea];exact⟨.ref _,_,I.lnew (t':=s.toks) (r.append r2) (by rw[BA];omega),FV,q _ I.fresh⟩
def dO:R2:=λx y H Q=>∃l k xs,x=.ref l/\y=.int k/\H l=some (.lst xs)/\ -(2^63)<=k/\k<2^63/\xs.length*k.toNat<=sizeLine/\
 ∀p,H p=none->Q (.ref p) (Yo H p (.lst (List.replicate k.toNat xs).flatten))
end
section
variable {prog:WO}{w:WN}{A:WM}{E:WQ->WR->Prop}{s:WR}
end
section
variable {X:Cx}
end
end L2
namespace Att
open PySem PySem.W PySem.Calls PyProof.Rows
def Ma {P:Params}{h:WU}:∀(ns:List Int) (vs:List WQ),WellAll P h vs (ns.map WData.int)->IntsAre vs ns:=by
 intro ns
 induction ns with
 | nil=>
  intro vs w;rw[FR] at w
  cases w
  exact .nil
 | cons n ns ih=>
  intro vs w;rw[YI] at w
  cases w with
  | cons a b=>
   cases a
   exact .cons _ _ (ih _ b)
def yM {l:OpenLaw}{n:Nat}(hn:l.most=some n){P:Params}{h:WU}{args:List WData}{vals:List WQ}
  (hpre:l.row.toRowW.claim.pre args=true) (hwl:WellAll P h vals args):
  ∃a vs ns,vals=[Value.ref a]/\args=[WData.list (ns.map WData.int)]/\h.get? a=some {cls:=.type "list",data:=.seq vs.toArray}/\IntsAre vs ns/\ns.length<=n:=by
 have hsh:WShape.hasAll [] args [.list .int]=true:=(pre_splitW hpre).1;have hc:l.pre.holds [] {args:=args}=true:=(pre_splitW hpre).2;obtain⟨d,r,rfl,h1,h2⟩:=hasAllW_cons hsh;obtain rfl:=hasAllW_nil h2;obtain⟨xs,rfl,h3⟩:=hasW_list h1;obtain⟨ns,rfl⟩:=items_int h3;have hlen:ns.length<=n:=by
  unfold OpenLaw.pre at hc;have h4:(WTm.not (.lt (.lit (.int (n:Int))) (.len (.arg 0)))).holds [] {args:=[.list (ns.map .int)]}=true:=by
   have h4:=(holds_andW hc).1;rw[hn] at h4;exact h4
  have h5:=condW_of h4 (w_not (w_lt w_lit (w_len_list (w_arg FV))));rw[XI] at h5;refine Nat.le_of_not_lt λq=>?_;have q':(n:Int)<((ns.length:Nat):Int):=by omega
  first
   | (rw[decide_eq_true q'] at h5;exact absurd h5 (by decide))
   | (simp at h5;omega)
 cases hwl with
 | cons w1 w2=>
  cases w2
  cases w1 with
  | list ho hall=>exact⟨_,_,ns,FV,FV,ho,Ma ns _ hall,hlen⟩
def yU (l:OpenLaw)(args:List WData):l.row.toRowW.claim.post args (.bool true) args=true:=
 postW_of (r:=l.row.toRowW) (X:=(true==true))
  (show WShape.has [] (.bool true) .bool=true by first | rfl | decide | simp[WShape.has,WShape.arms,WShape.armsAll])
  (show(WTm.eq .res (.lit (.bool true))).value [] {args:=args,res:=some (.bool true),after:=args}=some (.bool (true==true)) from w_eq_bool (w_res FV) w_lit) FV
def attach_call {l:OpenLaw}{n:Nat}{q:WO}{loose:List Str}{XP:(Str->Option WQ)->WU->Prop}{YP:WN->WU->Prop}{d:DefRec}
  (hn:l.most=some n) (hdf:d.params.defaults=[])
  (call:∀(w:WN) (s₀ s₁:WR) (mg mb:Str->Option WQ) (fa:WP) (o:Obj) (pm cd doc:WQ) (a:WP) (vs:List WQ) (ns:List Int),
   Ground q loose [] XP w s₀ mg mb s₁.heap->YP w s₁.heap->
   s₁.heap.get? fa=some o->o.data=.func (docDef d.name d.params d.body d.scope pm cd doc)->s₁.heap.CodeRec cd d.name->mg d.name=some (.ref fa)->
   s₁.heap.get? a=some {cls:=.type "list",data:=.seq vs.toArray}->IntsAre vs ns->ns.length<=n->s₁.gens=#[]->
   codeAny (model l.prog w) callerA (.call (.ref fa) ⟨[.ref a],[]⟩) (λr s'=>r=.ok (.ret (.bool true))/\OldK s₁.heap s'.heap/\s'.os=s₁.os/\AllBare s'.gens) s₁):
  WalkO q loose XP YP l.row.toRowW d [] (λf vs=>PySem.call f vs):=by
 intro w s₀ s₁ mg mb G Y fa o pm cd doc dV kV ho hd hcd hD hmg hg args vals as hpre hlay hrd hwl hlo;obtain rfl:dV=.none:=Dflts.none hD hdf;obtain rfl:kV=.none:=Dflts.noKw hD;obtain⟨a,vs,ns,rfl,rfl,hobj,hints,hlen⟩:=yM hn hpre hwl;refine enter_call (codeAny_mono (call w s₀ s₁ mg mb fa o pm cd doc a vs ns G Y ho (fd_plain hd) hcd hmg hobj hints hlen hg) λr s' hq=>?_);obtain⟨rfl,h2,h3,h4⟩:=hq;exact⟨.inl ⟨.bool true,.bool true,[],FV,λ_=>rfl,.bool true,yU l _,λ_=>⟨List.Pairwise.nil,λ_ hm=>(nomatch hm)⟩⟩,h2,h3,h4⟩
section
variable {prog:WO}{w:WN}{A:WM}{E:WQ->WR->Prop}{s:WR}{K:Frag}
def gU (h:WU)(L d:WP):List (WP×Obj):=(List.range h.objs.size).filterMap λa=>if a=L\/a=d then none else(h.get? a).map λo=>(a,o)
end
end Att
namespace L2
open PySem PySem.Spec PyProof.Rows
def Iq:∀{vs:List WQ} {ns:List Int},IntsAre vs ns->Z0 (ns.map V.int) vs
 | _,_,.nil=>.nil
 | _,_,.cons n t h=>.cons ⟨t,FV⟩ (Iq h)
def u9 (H:Hp):Prop:=∀b,H b=none\/∃o xs,H b=some (.frz o (.lst xs))
def vc {P:WO}{w:WN}{K:WY}{mg mb:Str->Option WQ}{CX:Mg}{k:Nat}{fa a:WP}{fd:VZ}{x:Str}{sp:Sp}{s₁:WR}{vs:List WQ}{ns:List Int}
  (KX:K.In s₁.heap) (hns:s₁.heap.Ns mainGlobals mg) (hb:s₁.heap.Ns builtinsNs mb) (hbb:∀x:Str,x≠"__name__"->mb x=bootBuiltins x) (hlim:s₁.heap.NoLimit) (hg:s₁.gens=#[])
  (ha:s₁.heap.get? a=some {cls:=.type "list",data:=.seq vs.toArray}) (hi:IntsAre vs ns) (hl:ns.length<=sizeLine) (hr:Y9 k callerA)
  (F:∀base:WU,K.In base->base.Ns mainGlobals mg->X8 P w K mg base CX k fa fd [x] sp) (hbind:∀(s:WR) (u:WQ),BindsTo s fd ⟨[u],[]⟩ [(x,u)])
  (hsp:∀H:Hp,u9 H->Wl K H a (ns.map V.int)->sp [.ref a] H (λv _=>v=.bl true) λ_ _ _=>False)
  (hCX:∀H e s',CX [] H s₁ (λ_ _ _=>False) e s'->False):
  codeAny (model P w) callerA (.call (.ref fa) ⟨[.ref a],[]⟩) (λr s'=>r=.ok (.ret (.bool true))/\OldK s₁.heap s'.heap/\s'.os=s₁.os/\AllBare s'.gens) s₁:=by
 have rv:=Iq hi;have lenV:=hi.length;have core:∀H:Hp,u9 H->Wl K H a (ns.map V.int)->Vy P w H s₁.heap->(∀b,H b≠none->b=a)->(H a≠none->K.lookup a=none)->
   codeAny (model P w) callerA (.call (.ref fa) ⟨[.ref a],[]⟩) (λr s'=>r=.ok (.ret (.bool true))/\OldK s₁.heap s'.heap/\s'.os=s₁.os/\AllBare s'.gens) s₁:=by
  intro H hO hS hok hA hK;have base_of:∀{b:WP} {o:Obj},s₁.heap.get? b=some o->H b=none->(Fw s₁.heap H).get? b=some o:=λe n=>vo e n;have noA:∀{b:WP} {o:Obj} {es:Array DictEntry} {ep:Nat},s₁.heap.get? b=some o->o.data=.dict es ep->H b=none:=λ{b o es ep} e d=>by
   cases q:H b with
   | none=>rfl
   | some u=>
    have e':b=a:=hA b (by rw[q];simp);subst e';rw[ha] at e;cases e;have d':Data.seq vs.toArray _=Data.dict es ep:=d
    cases d'
  have nsK:∀{b:WP} {m:Str->Option WQ},s₁.heap.Ns b m->(Fw s₁.heap H).Ns b m:=λ{b m} ⟨o,es,ep,e,d,r⟩=>⟨o,es,ep,base_of e (noA e d),d,r⟩;have hKb:K.In (Fw s₁.heap H):=λb o e=>base_of (KX b o e) (by
   cases q:H b with
   | none=>rfl
   | some u=>
    have e':b=a:=hA b (by rw[q];simp);subst e';rw[hK (by rw[q];simp)] at e;cases e)
  have hM:Mod K mg (Fw s₁.heap H):=⟨hKb,nsK hns,⟨mb,nsK hb,hbb⟩,let ⟨mc,h1,h2⟩:=hlim;⟨mc,nsK h1,h2⟩⟩;have e0:Io P w K mg (Fw s₁.heap H) callerA [] s₁ H:=⟨FV,hM,λb o e=>si e,Nat.le_of_eq (ju _ _),trivial,λb hb=>absurd (show b∈([]:List WP) from hb) (by simp),hok,.of_eq hg⟩;refine codeAny_mono ((F _ hKb (nsK hns)).run callerA [] s₁ H ⟨[.ref a],[]⟩ [.ref a] [.ref a] _ _ hr e0 (hbind s₁ (.ref a)) (.cons FV .nil) (hsp H hO hS)) λr s' h=>?_
  cases r with
  | error e=>exact(hCX H e s' h).elim
  | ok fl=>
   cases fl with
   | next=>exact False.elim h
   | brk=>exact False.elim h
   | cont=>exact False.elim h
   | ret u=>
    obtain⟨v,H',os,bare,un,hok',r',q⟩:=h;have q':v=.bl true:=q;subst q';obtain rfl:u=Value.bool true:=r';refine⟨FV,OldK.of_keep λb o e=>?_,os,bare⟩
    cases q:H b with
    | none=>exact un.keep b o e q (by intro z;exact absurd (show b∈([]:List WP) from z) (by simp)) (by simp)
    | some u=>
     rcases hO b with z | ⟨ob,xs,z⟩
     ·rw[q] at z;cases z
     ·have z2:=un.frzs b ob _ z;obtain⟨e1,_⟩:=hok b _ z;obtain⟨e2,_⟩:=hok' b _ z2;rw[e] at e1;cases e1;exact e2
 cases hk:K.lookup a with
 | some o=>
  have e:=KX a o hk;rw[ha] at e
  cases e
  refine core (λ_=>none) (λ_=>.inl FV) (.inr ⟨_,vs.toArray,_,hk,FV,FV,FV,by rw[List.size_toArray,lenV];exact hl,by simpa using rv⟩) (λb u z=>by have z':(none:Option HO)=some u:=z;cases z') (λb z=>absurd FV z) λz=>absurd FV z
 | none=>
  refine core (λb=>if b=a then some (.frz {cls:=.type "list",data:=.seq vs.toArray} (.lst (ns.map V.int))) else none) (λb=>?_) (.inl (.inr ⟨{cls:=.type "list",data:=.seq vs.toArray},XY FV⟩)) (λb u z=>?_) (λb z=>?_) λ_=>hk
  ·by_cases hb:b=a
   ·exact .inr ⟨_,_,XY hb⟩
   ·exact .inl (XX hb)
  ·by_cases hb:b=a
   ·have z':=(XY hb).symm.trans z
    cases z'
    subst hb;exact⟨ha,by rw[XI];exact hl,vs,_,rv,ha⟩
   ·have z':=(XX hb).symm.trans z
    cases z'
  ·by_cases hb:b=a
   ·exact hb
   ·exact absurd (XX hb) z
abbrev KOf {K:WY}{h:WU}(_:K.In h):WY:=K
def walk_of {l:W.OpenLaw}{n k:Nat}{q:WO}{loose:List Str}{XP:(Str->Option WQ)->WU->Prop}{YP:WN->WU->Prop}{d:DefRec}{K:Params->WY}{CX:WN->Mg}{sp:WN->Sp}{x:Str}
  (hn:l.most=some n) (hn2:n<=sizeLine) (hdf:d.params.defaults=[]) (hr:Y9 k callerA)
  (hY:∀(w:WN) (h:WU),YP w h->(K w.params).In h)
  (F:∀(w:WN) (mg:Str->Option WQ) (fa:WP) (h:WU),(K w.params).In h->h.Ns mainGlobals mg->mg d.name=some (.ref fa)->
   ∃fd:VZ,(∀(s:WR) (u:WQ),BindsTo s fd ⟨[u],[]⟩ [(x,u)])/\
    ∀base:WU,(K w.params).In base->base.Ns mainGlobals mg->X8 l.prog w (K w.params) mg base (CX w) k fa fd [x] (sp w))
  (hsp:∀(w:WN) (H:Hp) (a:WP) (ns:List Int),ns.length<=n->u9 H->Wl (K w.params) H a (ns.map V.int)->sp w [.ref a] H (λv _=>v=.bl true) λ_ _ _=>False)
  (hCX:∀(w:WN) (H:Hp) (s:WR) (e:WQ) (s':WR),CX w [] H s (λ_ _ _=>False) e s'->False):
  W.WalkO q loose XP YP l.row.toRowW d [] (λf vs=>PySem.call f vs):=by
 refine Att.attach_call hn hdf λw s₀ s₁ mg mb fa o pm cd doc a vs ns G Y ho hd hcd hmg hobj hints hlen hg=>?_;have KX:=hY w _ Y;obtain⟨fd,hb,hF⟩:=F w mg fa _ KX G.T.g hmg;exact vc KX G.T.g G.T.b G.T.builtins G.T.nolimit hg hobj hints (XN hlen hn2) hr hF hb (λH hO hS=>hsp w H a ns hlen hO hS) λH e s'=>hCX w H s₁ e s'
def walk_ofK {l:W.OpenLaw}{n k:Nat}{q:WO}{loose:List Str}{XP:(Str->Option WQ)->WU->Prop}{YP:WN->WU->Prop}{d:DefRec}{K:Params->WY}{CX:Mg}{sp:WY->Sp}{x:Str}
  (hn:l.most=some n) (hn2:n<=sizeLine) (hdf:d.params.defaults=[]) (hr:Y9 k callerA)
  (hY:∀(w:WN) (h:WU),YP w h->(K w.params).In h)
  (F:∀(w:WN) (mg:Str->Option WQ) (fa:WP) (h:WU),(K w.params).In h->h.Ns mainGlobals mg->mg d.name=some (.ref fa)->
   ∃fd:VZ,(∀(s:WR) (u:WQ),BindsTo s fd ⟨[u],[]⟩ [(x,u)])/\
    ∀base:WU,(K w.params).In base->base.Ns mainGlobals mg->X8 l.prog w (K w.params) mg base CX k fa fd [x] (sp (K w.params)))
  (hsp:∀(K:WY) (H:Hp) (a:WP) (ns:List Int),ns.length<=n->u9 H->Wl K H a (ns.map V.int)->sp K [.ref a] H (λv _=>v=.bl true) λ_ _ _=>False)
  (hCX:∀(H:Hp) (s:WR) (e:WQ) (s':WR),CX [] H s (λ_ _ _=>False) e s'->False):
  W.WalkO q loose XP YP l.row.toRowW d [] (λf vs=>PySem.call f vs):=
 walk_of (K:=K) (CX:=λ_=>CX) (sp:=λw=>sp (K w.params)) hn hn2 hdf hr hY F (λw H a ns h1 h2 h3=>hsp (K w.params) H a ns h1 h2 h3) λ_ H s e s'=>hCX H s e s'
end L2
/-THE LAST THEOREM (shape;LID,My.*are yours):
  My.Adr:a structure of the addresses that your layer names (classes,functions);My.Txt K t:a structure (Prop) of the equations over K;
  My.txt_mk:{K} {implicit addresses ..} (e1:nsIn K mainGlobals "law"=some (some (.ref f))) (e2:K.lookup f=some ⟨oc,od,.func (fnOf "law" "law" params body scope dV kV doc pm an cdv ct),sl⟩) (e3:codeIn K cdv "law"=true) ..:∃t,My.Txt K t
set_option maxRecDepth 100000 in
set_option maxHeartbeats 0 in
def PySem.Challenge.cw_LID_holds:PySem.Challenge.rw_LID.Holds:=by
 w_on;o_law;k_head;(case hw=>w_witness2)
 k_fill
 refine L2.walk_of (l:=PySem.Challenge.rw_LID) (n:=63) (k:=40) (x:="script") (CX:=λw=>..) (sp:=λ_=>My.sp_law) FV (by decide) FV ⟨FV,by decide,by decide⟩ (λw h Y=>W.kIn_of Y) ?F ?S ?C
 case F=>
  intro w mg fa h KX G hmg;have T:∃t,My.Txt (L2.KOf KX) t:=by
   dsimp only[L2.KOf]--K must stand as «<heap const>w.params» for k_is
   refine' My.txt_mk ?e1 ?e2 ?e3 ..
   (case e1=>W.k_is)--in the order:a name->its address->its object->its parts
   (case e2=>W.k_is)
   ..
  obtain⟨t,T⟩:=T;have e0:=hmg.symm.trans (FP KX G T.law)
  cases e0--fa is the law's own address
  exact⟨_,λs u=>.of_eq FV,λbase kb nb=>My.law_fn T kb nb⟩--if «.of_eq rfl» comes too early:refine' ⟨_,?b,λbase kb nb=>My.law_fn T kb nb⟩;exact λs u=>.of_eq FV
 case S=>exact λw H a ns hl hO hS=>..
 case C=>exact ..
(the tactic k_is has no namespace:write k_is)-/
namespace L2
open PySem PySem.Spec PyProof.Rows
def T7 (s:WV)(j:Nat):WV:=match s with
 | .ClassDef _ _ _ body _ _ _ _ _ _ _=>body.getD j (.Pass ⟨0,0,0,0⟩)
 | _=>.Pass ⟨0,0,0,0⟩
def Se (s:WV):Arguments:=match s with
 | .FunctionDef _ a _ _ _ _ _ _ _ _=>a
 | _=>{posonlyargs:=[],args:=[],vararg:=none,kwonlyargs:=[],kw_defaults:=[],kwarg:=none,defaults:=[]}
def Jh (s:WV):List WV:=match s with
 | .FunctionDef _ _ b _ _ _ _ _ _ _=>b
 | _=>[]
def Zg (s:WV):Scope:=match s with
 | .FunctionDef _ _ _ _ _ _ sc _ _ _=>sc
 | _=>{kind:=.function,names:=[],isGenerator:=false,isCoroutine:=false}
abbrev CX0:Mg:=λ_ _ _ _ _ _=>False
abbrev E0:XK:=λ_ _ _=>False
def Y0 {X:Cx}:Wj CX0 X E0:=λ_ _ _ _ _ _ _ h=>h.elim
structure Gd (K:W.Frag)(x qual:Str)(st:Stmt)(f:Addr)(fd:FuncData):Prop where
 ex:∃(oc:WQ) (od:Option WP) (kV doc pm:WQ) (an:Option WP) (cdv ct:WQ) (osl:Array (Option WQ)),
  fd=W.fnOf x qual (Se st) (Jh st) (Zg st) .none kV doc pm an cdv ct/\K.lookup f=some ⟨oc,od,.func fd,osl⟩/\W.codeIn K cdv qual=true
 kp:W.keepIn K (.ref f)=true
section
variable {P:WO}{w:WN}{K:WY}{mg:Str->Option WQ}{base:WU}
def Gd.ok {x qual:Str}{st:WV}{f:WP}{fd:VZ}{N ps:List Str}{k:Nat}{sp:Sp}(F:Gd K x qual st f fd)(S:Zr N ps (Zg st))(len:∀vs H Q E,sp vs H Q E->vs.length=ps.length)
  (hbody:∀(cdv:WQ) (A:WM) (outer:List Env) (s:WR) (H:Hp) (vs:List V) (Q:VK) (E:XK),Y9 k (A.deeper (envOfC qual (Zg st) s.heap.objs.size f cdv))->sp vs H Q E->
   ∃t,Bu (Tg CX0 P w K mg base N qual (Zg st) f cdv A outer s H E).nox (Jh st) t/\t {nx:=λ_ H'=>Q .non H',rt:=Q} (start N vs) H):X8 P w K mg base CX0 (k+1) f fd ps sp:=by
 obtain⟨oc,od,kV,doc,pm,an,cdv,ct,osl,rfl,lk,hcd⟩:=F.ex;refine qo lk hcd S len λA outer s H vs Q E hr hsp=>?_;obtain⟨t,h,q⟩:=hbody cdv A outer s H vs Q E hr hsp;exact⟨t,h.nox,q⟩
def Gd.binds {x qual:Str}{st:WV}{f:WP}{fd:VZ}{ps:List Str}(F:Gd K x qual st f fd)
  (h:∀(kV doc pm:WQ) (an:Option WP) (cdv ct:WQ) (us:List WQ),us.length=ps.length->bindArgs (W.fnOf x qual (Se st) (Jh st) (Zg st) .none kV doc pm an cdv ct) ⟨us,[]⟩=pure (ps.zip us)):J6 K fd ps []:=by
 obtain⟨oc,od,kV,doc,pm,an,cdv,ct,osl,rfl,lk,hcd⟩:=F.ex;exact .all (h kV doc pm an cdv ct)
def oS {x qual:Str}{st:WV}{f:WP}{oc:WQ}{od an:Option WP}{osl:Array (Option WQ)}{kV doc pm cdv ct:WQ}(l:K.lookup f=some ⟨oc,od,.func (W.fnOf x qual (Se st) (Jh st) (Zg st) .none kV doc pm an cdv ct),osl⟩)
  (c:W.codeIn K cdv qual=true) (k:W.keepIn K (.ref f)=true):Gd K x qual st f (W.fnOf x qual (Se st) (Jh st) (Zg st) .none kV doc pm an cdv ct):=⟨⟨oc,od,kV,doc,pm,an,cdv,ct,osl,FV,l,c⟩,k⟩
end
def Iw {n:Nat}(h:n<=1000):n<sizeLine:=ED h (by decide)
section
variable {X:Cx}
end
def cy (H H':Hp):Prop:=∀b o,H b=some o->H' b=some o
section
variable {X:Cx}
def Pe (cap:List (Option Nat))(σ:St):St:=cap.map λo=>o.bind λi=>(σ[i]?).join
def Yc (X:Cx)(cN:List Str)(scope:Scope)(cl:List (Str×WP))(fp:List WP)(s:WR)(H:Hp):Cx:=
 {X with N:=cN,s₀:=s,H₀:=H,env:=compEnvC scope cl s.heap.objs.size X.env,outer:=X.stack,ex:=fp,fn:=λ_=>false,pn:=[],xe:=λ_ _=>False}
def jI (X:Cx)(ifs:List WW)(c:TT):Prop:=
 ∀(WZ:List (WP×Obj)) (s:WR) (σ:St) (H:Hp) (Q:Bool->Hp->Prop),Zl X WZ σ H s->c σ H Q->
  wpAny (model X.prog X.w) X.A (forIn ifs true λc r=>if r=true then do let ok <-isTrue c X.env (eval c X.env);pure (ForInStep.yield ok) else pure (ForInStep.yield r)) (TP X WZ σ Q) X.xe s
def mJ:TT:=λ_ H Q=>Q true H
def tU:jI X [] mJ:=λ_ _ _ H _ I h=>wpAny_tests_nil ⟨H,I,h⟩
def N5 (js:List Nat)(g:TG):Prop:=∀x σ H Q,g x σ H Q->g x σ H λσ' H'=>Q σ' H'/\σ'.length=σ.length/\∀i,i∉js->σ'[i]?=σ[i]?
def E2 (js:List Nat)(g:B0):Prop:=∀x σ H Q,g x σ H Q->g x σ H λσ' H'=>Q σ' H'/\σ'.length=σ.length/\∀i,i∉js->σ'[i]?=σ[i]?
def Jf {i:Nat}:N5 [i] (Xb i):=λx σ H Q h=>⟨h,by simp,λj hj=>by
 rw[CL];intro e;exact hj (by simp[e])⟩
def ze:E2 [] zh:=λx σ H Q h=>⟨h.1,h.2,FV,λ_ _=>rfl⟩
def Sf (g:TG):Prop:=∀x σ H (Q Q':St->Hp->Prop),(∀σ' H',Q σ' H'->Q' σ' H')->g x σ H Q->g x σ H Q'
def Ot (g:B0):Prop:=∀x σ H (Q Q':St->Hp->Prop),(∀σ' H',Q σ' H'->Q' σ' H')->g x σ H Q->g x σ H Q'
def Z5 {i:Nat}:Sf (Xb i):=λx σ H Q Q' h q=>h _ _ q
def Td:Ot zh:=λx σ H Q Q' h q=>⟨q.1,h _ _ q.2⟩
def Xw {g:TG}{u:B0}(a:Sf g)(b:Ot u):Ot (Rv g u):=λx σ H Q Q' h q=>by
 obtain⟨v,r,e,q⟩:=q;exact⟨v,r,e,a _ _ _ _ _ (λσ' H' z=>b _ _ _ _ _ h z) q⟩
def T8 {g:TG}{u:B0}{js ks:List Nat}(a:N5 js g)(am:Sf g)(b:E2 ks u)(bm:Ot u):E2 (js++ks) (Rv g u):=λx σ H Q q=>by
 obtain⟨v,r,e,q⟩:=q;refine⟨v,r,e,am _ _ _ _ _ (λσ' H' z=>?_) (a _ _ _ _ q)⟩;obtain⟨z,l1,k1⟩:=z;refine bm _ _ _ _ _ (λσ2 H2 z2=>?_) (b _ _ _ _ z);obtain⟨z2,l2,k2⟩:=z2;exact⟨z2,l2.trans l1,λi hi=>(k2 i λz=>hi (XT _ z)).trans (k1 i λz=>hi (BE _ z))⟩
def zd {K:WY}{n:Nat}{u:B0}{js:List Nat}(b:E2 js u):N5 js (zg K n u):=λx σ H Q q=>by
 obtain⟨a,xs,e,hq,hl,q⟩:=q;exact⟨a,xs,e,hq,hl,b _ _ _ _ q⟩
def dA (cap:List (Option Nat))(g:TG)(c:TT)(te:TE)(σ:St)(Q:WP->Hp->Prop)(J:It)(H1:Hp):Prop:=∀p,H1 p=none->∃W:Nat->Nat->Hp->Prop,(∃m,W 0 m (Yo H1 p (.lst [])))/\∀i m H,W i m H->
 (J.stop i H/\Q p H)\/(J.go i H/\∃N:Hp->Prop,(∀H',N H'->∃m',m'<m/\W (i+1) m' H')/\∀x H',J.yld i H x H'->g x (Pe cap σ) H' λσ2 H2=>c σ2 H2 λb H3=>
  if b=true then te σ2 H3 λv H4=>∃xs,H4 p=some (.lst xs)/\xs.length<sizeLine/\N (Yo H4 p (.lst (xs++[v]))) else N H3)
def Gm (cap:List (Option Nat))(wi:TI)(g:TG)(c:TT)(te:TE):St->Hp->(WP->Hp->Prop)->Prop:=λσ H Q=>wi σ H λJ H1=>dA cap g c te σ Q J H1
structure Pn (X:Cx)(cN:List Str)(cap:List (Option Nat))(scope:Scope)(cl:List (Str×Addr)):Prop where
 clos:closureFor scope X.env=pure cl
 sub:∀n a,cl.lookup n=some a->X.env.cells.lookup n=some a
 cell:∀y∈scope.names,y.2≠.cell
 kind:scope.kind=.function
 names:∀x∈scope.names,x.2=.local->scope.names.lookup x.1=some .local
 len:cap.length=cN.length
 has:∀x,((relabel scope X.env).names.lookup x=some .cell\/(relabel scope X.env).names.lookup x=some .free)->∃a,cl.lookup x=some a
 capd:∀(i j:Nat) (x:Str),cap[i]?=some (some j)->cN[i]?=some x->X.N[j]?=some x/\iT X.env.scope x/\X.env.scope.names.lookup x≠some .local/\((relabel scope X.env).names.lookup x=some .cell\/(relabel scope X.env).names.lookup x=some .free)
def ug {cap:List (Option Nat)}{σ:St}:(Pe cap σ).length=cap.length:=XI _
def Bk {cap:List (Option Nat)}{σ:St}{i:Nat}{v:V}(h:(Pe cap σ)[i]?=some (some v)):∃j,cap[i]?=some (some j)/\σ[j]?=some (some v):=by
 unfold Pe at h;rw[XM] at h
 cases e:cap[i]? with
 | none=>rw[e] at h;cases h
 | some o=>
  rw[e] at h
  cases o with
  | none=>cases h
  | some j=>
   refine⟨j,FV,?_⟩;simp only[Option.map_some,Option.bind_some,Option.some.injEq] at h
   cases q:σ[j]? with
   | none=>rw[q] at h;cases h
   | some u=>rw[q] at h;simp only[Option.join_some] at h;rw[h]
def zw {cN:List Str}{cap:List (Option Nat)}{scope:Scope}{cl:List (Str×WP)}{fp:List WP}{WZ:List (WP×Obj)}{σ:St}{H:Hp}{s:WR}{h':WU}{m:Str->Option WQ}{tk:Nat}
  (C:Pn X cN cap scope cl) (I:Zl X WZ σ H s) (f:∀b∈fp,Ou X WZ H b) (fl:∀b∈fp,b<s.heap.objs.size) (hn:h'.Ns s.heap.objs.size m) (k:∀b o,s.heap.get? b=some o->h'.get? b=some o):
  Zl (Yc X cN scope cl fp s H) [] (Pe cap σ) H {s with heap:=h',toks:=tk}:=by
 have hfs:∀b∈fp,b∉Me X.stack:=λb hb z=>by
  rcases BD.mp (I.stkSub b z) with e | z
  ·exact(f b hb).2.1 e
  ·exact(f b hb).2.2.1 z
 have hcl:∀x c,cl.lookup x=some c->∃v,s.heap.IsCell c v:=λx c e=>I.cell x c (C.sub x c e);refine⟨⟨I.ok.mod,?_,I.ok.glob,I.ok.blt,XE _,λx y c e1 e2=>I.ok.inj x y c (C.sub x c e1) (C.sub y c e2),C.has,λ_ _ z=>(nomatch z),I.ok.hd,I.ok.frames,.inl FV,λb hb=>⟨XH (fl b hb),λx c e=>(f b hb).2.2.2.2.1 x c (C.sub x c e)⟩,
   I.bs,Nat.le_trans I.ok.bsz I.sz,λb o e z=>?_,hfs,I.stack,I.stkFree⟩,FV,I.bare,Un.kept k,⟨m,hn,λi x v h1 h2 h3=>?_⟩,λx c e=>?_,I.fresh,λx c e=>I.freeC x c (C.sub x c e),λp hp=>absurd hp (by simp[Yc]),I.hok.kept k,?_⟩
 ·exact C.kind
 ·rcases (f b z).2.2.2.1 with q | q
  ·exact I.ok.noex b o e q
  ·exact absurd (XG (XD (I.ok.bs b o e).1) q) (BJ _)
 ·obtain⟨j,hj,hσ⟩:=Bk h2;obtain⟨n1,n2,n3,n4⟩:=C.capd i j x hj h1;obtain⟨mo,hno,hlo⟩:=I.loc;obtain⟨u,ru,lk⟩:=hlo j x v n1 hσ n2;refine⟨u,ru,?_⟩
  rcases lk with⟨k1,_⟩ | ⟨_,c,e,z⟩
  ·exact absurd k1 n3
  ·obtain⟨a,ha⟩:=C.has x n4;have ea:=C.sub x a ha;rw[e] at ea;cases ea;obtain⟨o,ho,hd⟩:=z;exact .inr ⟨n4,c,ha,⟨o,k _ _ ho,hd⟩⟩
 ·obtain⟨v,o,ho,hd⟩:=hcl x c e;exact⟨v,o,k _ _ ho,hd⟩
 ·show(Pe cap σ).length=cN.length;rw[ug,C.len]
def Bh {cN:List Str}{scope:Scope}{cl:List (Str×WP)}{fp:List WP}{WZ pins':List (WP×Obj)}{σ σ':St}{H H':Hp}{s s':WR}{h':WU}
  (I:Zl X WZ σ H s) (f:∀b∈fp,Ou X WZ H b) (J:Zl (Yc X cN scope cl fp s H) pins' σ' H' s') (sb:Heap.SameBut s.heap.objs.size s'.heap h'):Zl X WZ σ H' {s' with heap:=h'}:=by
 have ne:∀b o,s.heap.get? b=some o->b≠s.heap.objs.size:=λb o e=>XH (XD e);have B:Un (Me X.stack) fp H H' s.heap s'.heap:=J.base;refine I.call' (s':={s' with heap:=h'}) (ch:=fp) J.os ⟨λb o e n hb hx=>?_,λb o e n hb hx=>?_,B.free,λb o e hx=>?_,B.tups,B.frzs,B.tbls⟩ (λb o e=>?_) J.bare λb hb=>?_
 ·exact(sb.2 b (ne b o e)).trans (B.keep b o e n hb hx)
 ·obtain⟨sl,q⟩:=B.slot b o e n hb hx;exact⟨sl,(sb.2 b (ne b o e)).trans q⟩
 ·obtain⟨o',q⟩:=B.there b o e hx;exact⟨o',(sb.2 b (ne b o e)).trans q⟩
 ·have hf:H' s.heap.objs.size=none:=J.free;refine(J.hok b o e).stay (λc w' hc q=>(sb.2 c ?_).trans q) (λ_ q=>q) λ_ _ q=>q;rintro rfl
  rcases hc with rfl | hc
  ·rw[hf] at e;cases e
  ·rw[hf] at hc;cases hc
 ·obtain⟨f0,f1,f2,f3,f4,f5⟩:=f b hb;exact⟨f3,f1,f4,f5⟩
def Pq {α:Type}{t:Sem α}{Q:α->WR->Prop}{M:Model}{A:WM}{E:WQ->WR->Prop}{s:WR}(h:wpAny M A t Q (λ_ _=>False) s):wpAny M A t Q E s:=wpAny_mono h (λ_ _ q=>q) λ_ _ f=>f.elim
def j7 {tg iter elt:WW}{ifs:List WW}{scope:Scope}{pos:Pos}{cN:List Str}{cap:List (Option Nat)}{cl:List (Str×WP)}{js:List Nat}{g:TG}{c:TT}{te:TE}{fp:List WP}{it D:WP}{tn:Nat->WU->Prop}{J:It}
  {σ:St} {H:Hp} {s s':WR} {Q:WP->Hp->Prop} {R:Result->WR->Prop} {H₀:Hp} (X:Cx)
  (hc:X.calm=true) (hg:PG (Yc X cN scope cl fp s H₀) tg g) (gm:Sf g) (gk:N5 js g) (hjs:∀j∈js,(cap[j]?).join=none) (ht:jI (Yc X cN scope cl fp s H₀) ifs c) (tm:∀σ H (Q Q':Bool->Hp->Prop),(∀b H',Q b H'->Q' b H')->c σ H Q->c σ H Q') (he:PE (Yc X cN scope cl fp s H₀) elt te)
  (T:Bo X.prog X.w X.K tg J fp it tn) (W:Nat->Nat->Hp->Prop)
  (turn:∀i m H,W i m H->(J.stop i H/\Q D H)\/(J.go i H/\∃N:Hp->Prop,(∀H',N H'->∃m',m'<m/\W (i+1) m' H')/\∀x H',J.yld i H x H'->g x (Pe cap σ) H' λσ2 H2=>c σ2 H2 λb H3=>
   if b=true then te σ2 H3 λv H4=>∃xs,H4 D=some (.lst xs)/\xs.length<sizeLine/\N (Yo H4 D (.lst (xs++[v]))) else N H3))
  (m:Nat) (w0:W 0 m H) (I:Zl (Yc X cN scope cl fp s H₀) [] (Pe cap σ) H s') (st:tn 0 s'.heap) (f:∀b∈fp,Ou (Yc X cN scope cl fp s H₀) [] H b)
  (hR:∀σ' H' s',Zl (Yc X cN scope cl fp s H₀) [] σ' H' s'->Q D H'->R (.ok .next) s'):
  codeAny (model X.prog X.w) X.A (.compLoop (.ListComp elt [⟨tg,iter,ifs,0⟩] scope pos) 0 (.ref it) (.ref D) (Yc X cN scope cl fp s H₀).env) R s':=by
 have stat:∀{H':Hp},(∀b∈fp,H' b=none)->∀b∈fp,Ou (Yc X cN scope cl fp s H₀) [] H' b:=λhn b hb=>⟨hn b hb,(f b hb).2⟩;refine codeAny_loop FV (λn s'=>∃i H',Zl (Yc X cN scope cl fp s H₀) [] (Pe cap σ) H' s'/\tn i s'.heap/\(∀b∈fp,H' b=none)/\W i n H') ?_ m ⟨0,H,I,st,λb hb=>(f b hb).1,w0⟩;rintro n s3 ⟨i,H3,I3,st3,fr3,w3⟩;show wpAny _ X.A ((compTurn (.ListComp elt [⟨tg,iter,ifs,0⟩] scope pos) 0 (.ref it) (.ref D) (Yc X cN scope cl fp s H₀).env).onRaise (λx=>do noteFrame x (Yc X cN scope cl fp s H₀).env;theTreesLotGoes x)) _ _ s3;refine wpAny_noted (Pq ?_);rw[compTurn_list];refine XA (wpAny_standAt (XA ?_))
 rcases turn i n H3 w3 with⟨stop,qn⟩ | ⟨go,N,hN,step⟩
 ·refine Ja (T.done (Yc X cN scope cl fp s H₀) FV FV FV hc i [] s3 _ H3 _ I3 (stat fr3) st3 stop) λr s4 ⟨hr,I4⟩=>?_;subst hr;exact XB (hR _ _ _ I4 qn)
 ·refine Ja (T.item (Yc X cN scope cl fp s H₀) FV FV FV hc i [] s3 _ H3 _ I3 (stat fr3) st3 go) λr s4 ⟨u,hr,h4⟩=>?_;subst hr;refine XA (Ja h4 λ_ s5 ⟨x,H5,I5,r5,y5,st5,fr5⟩=>?_);have I5':=I5.pinned (stat fr5) (T.obj _ _ st5);refine XA (Ja (hg _ s5 _ H5 x u _ I5' r5 (gk _ _ _ _ (step x H5 y5))) λ_ s6 ⟨σ6,H6,I6,q6,l6,k6⟩=>?_);have back:∀{H7:Hp} {s7:WR},Zl (Yc X cN scope cl fp s H₀) ([]++Ll fp s5.heap) σ6 H7 s7->N H7->∃m,m<n/\∃i H',Zl (Yc X cN scope cl fp s H₀) [] (Pe cap σ) H' s7/\tn i s7.heap/\(∀b∈fp,H' b=none)/\W i m H':=λ{H7 s7} I7 n7=>by
   obtain⟨m',hm,w7⟩:=hN H7 n7;refine⟨m',hm,i+1,H7,I7.unpinned.weak l6.symm λj v hj=>?_,T.keep _ _ _ st5 λb hb o e=>(I7.pin (b,o) (XT _ (XT _ (T6 hb e)))).1,λb hb=>?_,w7⟩
   ·by_cases hjj:j∈js
    ·obtain⟨z,hz,_⟩:=Bk hj;have:=hjs j hjj;rw[hz] at this;cases this
    ·rw[k6 j hjj];exact hj
   ·obtain⟨o,e,d⟩:=T.obj _ _ st5 b hb;exact(I7.pin (b,o) (XT _ (XT _ (T6 hb e)))).2.1
  refine XA (Ja (ht _ s6 σ6 H6 _ I6 q6) λb s7 ⟨H7,I7,q7⟩=>?_)
  cases b with
  | false=>
   rw[XX YJ] at q7;exact XB ⟨FV,back I7 q7⟩
  | true=>
   rw[XY rfl] at q7;refine XA (XA (Ja (he _ s7 σ6 H7 _ I7 q7) λy s8 ⟨v,H8,I8,r8,xs,e8,z8,n8⟩=>?_));refine XA (Ja (Hb _ s8 σ6 H8 (.ref D) [v] (.ref D) [y] (λ_ H9=>N H9) I8 FV (.cons r8 .nil) ⟨D,xs,v,FV,FV,e8,z8,n8⟩) λ_ s9 ⟨_,H9,I9,_,q9⟩=>?_);exact XB (XB ⟨FV,back I9 q9⟩)
section
variable {X:Cx}{tg iter elt:WW}{ifs:List WW}{scope:Scope}{pos:Pos}{cN:List Str}{cap:List (Option Nat)}{cl:List (Str×WP)}{js:List Nat}{wi:TI}{g:TG}{c:TT}{te:TE}
structure Bx (X:Cx)(tg iter elt:Expr)(ifs:List Expr)(scope:Scope)(cN:List Str)(cap:List (Option Nat))(cl:List (Str×Addr))(js:List Nat)(wi:TI)(g:TG)(c:TT)(te:TE):Prop where
 calm:X.calm=true
 ok:X.Ok->Pn X cN cap scope cl
 it:PI X tg iter wi
 tgt:∀fp s H,PG (Yc X cN scope cl fp s H) tg g
 gm:Sf g
 gk:N5 js g
 js0:∀j∈js,(cap[j]?).join=none
 ts:∀fp s H,jI (Yc X cN scope cl fp s H) ifs c
 tm:∀σ H (Q Q':Bool->Hp->Prop),(∀b H',Q b H'->Q' b H')->c σ H Q->c σ H Q'
 el:∀fp s H,PE (Yc X cN scope cl fp s H) elt te
 fold:∀x,foldedSetIterable iter X.env x=pure x
def Ks {WZ:List (WP×Obj)}{σ:St}{H:Hp}{s:WR}{Q:WP->Hp->Prop}{RR:WQ->WP->Result->WR->Prop}(C:Bx X tg iter elt ifs scope cN cap cl js wi g c te)(I:Zl X WZ σ H s)(h:Gm cap wi g c te σ H Q)
  (hRR:∀(D:WP) (fp:List WP) (s3:WR) (H3:Hp) (σ':St) (H':Hp) (s':WR),Zl X WZ σ H3 s3->(∀b∈fp,Ou X WZ H3 b)->Zl (Yc X cN scope cl fp s3 H3) [] σ' H' s'->Q D H'->RR (.ref D) s3.heap.objs.size (.ok .next) s'):
  wpAny (model X.prog X.w) X.A (eval iter X.env) (λx s₁=>wpAny (model X.prog X.w) X.A (pyIter x) (λit s₂=>wpAny (model X.prog X.w) X.A (newList []) (λacc s₃=>
   wpAny (model X.prog X.w) X.A (newFunctionEnv scope X.env.globals cl [] X.env.qual none .none (some X.env)) (λcenv s₄=>
    codeAny (model X.prog X.w) X.A (.compStart (.ListComp elt [⟨tg,iter,ifs,0⟩] scope pos) 0 it acc {cenv with scope:=relabel scope X.env}) (RR acc cenv.locals) s₄) X.xe s₃) X.xe s₂) X.xe s₁) X.xe s:=by
 refine Ja (C.it WZ s σ H _ I h) λv s1 h1=>Ja h1 λitv s2 h2=>?_;obtain⟨it,fp,tn,J,H2,e,I2,T,st2,f2,R2⟩:=h2;subst e;obtain⟨W,⟨m,w0⟩,turn⟩:=R2 s2.heap.objs.size I2.fresh;have I3:Zl X WZ σ (Yo H2 s2.heap.objs.size (.lst [])) {s2 with heap:=s2.heap.push {cls:=.type "list",data:=.seq ([]:List WQ).toArray},toks:=s2.toks}:=I2.lnew (ys:=[]) (its:=[]) .nil (XO _);have fl:∀b∈fp,b<s2.heap.objs.size:=λb hb=>by
  obtain⟨o,e,_⟩:=T.obj _ _ st2 b hb;exact XD e
 have f3:∀b∈fp,Ou X WZ (Yo H2 s2.heap.objs.size (.lst [])) b:=λb hb=>⟨by rw[Z1 (XH (fl b hb))];exact(f2 b hb).1,(f2 b hb).2⟩;refine wpAny_newObj_type (wpAny_newFunctionEnv (C.ok I.ok).cell (by intro y hy;simp at hy) (λh₁ hns₁ hsb₁=>?_) (C.ok I.ok).kind);dsimp only at hns₁ hsb₁ |-;generalize hs3:({s2 with heap:=s2.heap.push {cls:=.type "list",data:=.seq ([]:List WQ).toArray},toks:=s2.toks}:WR)=s3 at I3;have hh3:s3.heap=s2.heap.push {cls:=.type "list",data:=.seq ([]:List WQ).toArray}:=by rw[<-hs3]
 rw[<-hh3] at hns₁ hsb₁ |-;have fl3:∀b∈fp,b<s3.heap.objs.size:=λb hb=>by rw[hh3,CD];exact CF (fl b hb)
 have k1:∀b o,s3.heap.get? b=some o->h₁.get? b=some o:=λb o e=>(hsb₁.2 b (XH (XD e))).trans (XC _ e);have I4:=zw (tk:=s2.toks+([]:List (Str×WQ)).length) (C.ok I.ok) I3 f3 fl3 hns₁ k1;have e4:({s3 with heap:=h₁,toks:=s2.toks+([]:List (Str×WQ)).length}:WR)={s2 with heap:=h₁,toks:=s2.toks+([]:List (Str×WQ)).length}:=by rw[<-hs3]
 rw[e4] at I4;have st4:tn 0 h₁:=T.keep _ _ _ st2 λb hb o e=>k1 b o (by rw[hh3];exact XC _ e);have f4:∀b∈fp,Ou (Yc X cN scope cl fp s3 (Yo H2 s2.heap.objs.size (.lst []))) [] (Yo H2 s2.heap.objs.size (.lst [])) b:=λb hb=>by
  obtain⟨g0,g1,g2,g3,g4,g5⟩:=f3 b hb;refine⟨g0,Nat.ne_of_lt (fl3 b hb),λz=>?_,.inl hb,λx c e=>g4 x c ((C.ok I.ok).sub x c e),λp hp=>absurd hp (by simp[Yc])⟩
  rcases BD.mp (I3.stkSub b z) with e | z
  ·exact g1 e
  ·exact g2 z
 have loop:codeAny (model X.prog X.w) X.A (.compLoop (.ListComp elt [⟨tg,iter,ifs,0⟩] scope pos) 0 (.ref it) (.ref s2.heap.objs.size) (Yc X cN scope cl fp s3 (Yo H2 s2.heap.objs.size (.lst []))).env) (RR (.ref s2.heap.objs.size) s3.heap.objs.size)
   {s2 with heap:=h₁,toks:=s2.toks+([]:List (Str×WQ)).length}:=
  j7 X C.calm (C.tgt _ _ _) C.gm C.gk C.js0 (C.ts _ _ _) C.tm (C.el _ _ _) T W turn m w0 I4 st4 f4 λσ' H' s' I' q=>hRR _ fp s3 _ σ' H' s' I3 f3 I' q
 exact codeAny_compStart_list loop (T.self _ 0 _ _ _ st4 loop)
def mU (cap:List (Option Nat))(wi:TI)(g:TG)(c:TT)(te:TE):TE:=λσ H Q=>Gm cap wi g c te σ H λp H'=>Q (.ref p) H'
def tX (C:Bx X tg iter elt ifs scope cN cap cl js wi g c te):PE X (.ListComp elt [⟨tg,iter,ifs,0⟩] scope pos) (mU cap wi g c te):=by
 intro WZ s σ H Q I h;rw[eval_ListComp];refine wpAny_comprehension_free (use:=none) FV C.fold (C.ok I.ok).clos (C.ok I.ok).kind (C.ok I.ok).names (Ks (RR:=λacc C'=>compPost (model X.prog X.w) X.A X.xe none (EP X WZ σ Q) acc C') C I h ?_);intro D fp s3 H3 σ' H' s' I3 f3 J q;obtain⟨m,hn,_⟩:=J.loc;exact⟨m,hn,λh' sb=>⟨.ref D,H',Bh I3 f3 J sb,FV,q⟩⟩
def xz (i:Nat)(cap:List (Option Nat))(wi:TI)(g:TG)(c:TT)(te:TE):TS:=λD σ H=>Gm cap wi g c te σ H λp H'=>D.nx (σ.set i (some (.ref p))) H'
def Aj {i:Nat}{y:Str}{py spos:Pos}(hN:X.N.Nodup)(hi:X.N[i]?=some y)(hy:X.env.scope.names.lookup y=some .local)
  (hsw:swapsWith (.ListComp elt [⟨tg,iter,ifs,0⟩] scope pos) (some (.Name y py)) spos.line X.env=pure true)
  (C:Bx X tg iter elt ifs scope cN cap cl js wi g c te):PS X (.Assign [.Name y py] (.ListComp elt [⟨tg,iter,ifs,0⟩] scope pos) spos) (xz i cap wi g c te):=by
 intro WZ s σ H D I h;rw[exec_Assign_Name_used _ _ _ _ hsw];refine XA (wpAny_standAt (XA ?_));show wpAny _ X.A (do let _ <-comprehension (.ListComp elt [⟨tg,iter,ifs,0⟩] scope pos) scope X.env _ (newList []) false (eval iter X.env) (some (assign (.Name y py) X.env))) _ _ s;refine XA (wpAny_mono (wpAny_comprehension_free (use:=some (assign (.Name y py) X.env)) (Q:=λ_ s'=>SP X WZ D .next s') FV C.fold (C.ok I.ok).clos (C.ok I.ok).kind (C.ok I.ok).names
  (Ks (RR:=λacc C'=>compPost (model X.prog X.w) X.A X.xe (some (assign (.Name y py) X.env)) (λ_ s'=>SP X WZ D .next s') acc C') C I h ?_)) (λ_ s' hq=>XB (XB hq)) λ_ _ e=>e)
 intro D' fp s3 H3 σ' H' s' I3 f3 J q;obtain⟨m,hn,_⟩:=id J.loc;have I4:Zl X WZ σ H' s':=Bh I3 f3 J (Heap.SameBut.refl ..);show wpAny _ X.A (assign (.Name y py) X.env (.ref D')) _ _ _;refine wpAny_assign_Name (Iv (v:=.ref D') I4 hN hi (.inl hy) FV (λs5 I5 hch=>?_) (.inr hy));obtain⟨a,sb,ha⟩:=hch;have hf:H' s3.heap.objs.size=none:=J.free;have hCL:s3.heap.objs.size≠X.env.locals:=DA I3.lt;have hcells:∀x c,X.env.cells.lookup x=some c->c≠s3.heap.objs.size:=λx c e=>by
  obtain⟨v,o,ho,_⟩:=I3.cell x c e;exact XH (XD ho)
 have haC:s3.heap.objs.size≠a:=by
  rcases ha with z | z
  ·rw[z];exact hCL
  ·exact Ne.symm (hcells _ _ z)
 refine⟨m,hn.sameBut sb haC,λh6 sb6=>⟨_,H',?_,q⟩⟩;exact I5.turned (h':=h6) (t':=s5.toks) (λb o hb e=>(sb6.2 b hb).trans e) hf hCL (.inr I3.sz) (λx c e=>hcells x c e) λp hp z=>by
  have:=XD (I3.pin p hp).1;rw[z] at this;exact BJ _ this
end
end
def iX (z:Str):It:=⟨λi _=>i<z.cps.size,λi H x H'=>H'=H/\∃c,z.cps[i]?=some c/\x=.str ⟨#[c]⟩,λi _=>i=z.cps.size⟩
def M9 {P:WO}{w:WN}{K:WY}{tg:WW}{ty:String}{it:WP}{z:Str}{t:Tok}(hty:["enumerate","zip","dict_itemiterator","dict_reverseitemiterator","odict_iterator","itertools.zip_longest","itertools.pairwise"].contains ty=false)
  (W:∀A:WM,A.handled=none->Walks P w A it [it] [it] z.cps.size (SignAt z) (λi h=>h.IsStrIter it ty z t i))
  (self:∀(A:WM) (i:Nat) (s:WR) (Q:WQ->WR->Prop) (E:WQ->WR->Prop),s.heap.IsStrIter it ty z t i->Q (.ref it) s->wpAny (model P w) A (pyIter (.ref it)) Q E s):
  Bo P w K tg (iX z) [it] it (λi h=>h.IsStrIter it ty z t i) where
 mem:=by simp
 obj:=λi h st b hb=>by
  have e:b=it:=by simpa using hb
  subst e;obtain⟨o,e,c,d⟩:=st;exact⟨o,e,λv z=>by rw[d] at z;cases z⟩
 keep:=λi h h' st k=>let ⟨o,e,r⟩:=st;⟨o,k it (by simp) o e,r⟩
 item:=by
  intro X hP hw hK hc i WZ s σ H E I hf st hg;subst hP hw hK;obtain⟨f0,f1,f2,f3,f4,f5⟩:=hf it (by simp);refine(W X.A (I.ok.hd hc)).item i s _ _ hg st λv h' tk hv st' kk=>?_;obtain⟨c,u,hcp,rfl⟩:=hv;have I1:Zl X WZ σ H {s with heap:=h',toks:=tk}:=I.turned (λb o hb e=>kk b o (by simpa using hb) e) f0 f1 f3 f4 f5;obtain⟨o,e,c',d⟩:=id st';exact⟨_,FV,Ct (s:={s with heap:=h',toks:=tk}) e c' d hty ⟨.str ⟨#[c]⟩,H,I1,⟨u,FV⟩,⟨FV,c,hcp,FV⟩,st',λb hb=>(hf b hb).1⟩⟩
 done:=by
  intro X hP hw hK hc i WZ s σ H E I hf st hg;subst hP hw hK;obtain⟨f0,f1,f2,f3,f4,f5⟩:=hf it (by simp);have e:i=z.cps.size:=hg;subst e;exact(W X.A (I.ok.hd hc)).done s _ _ st λh' tk kk=>⟨FV,I.turned (λb o hb e=>kk b o (by simpa using hb) e) f0 f1 f3 f4 f5⟩
 self:=self
section
variable {X:Cx}{tg:WW}
end
section
variable {X:Cx}{elts:List WW}{ek:Nat}{epos:Pos}
end
section
variable {X:Cx}
def Ln:V->Bool
 | .flt _=>false
 | .byt _=>false
 | _=>true
def pi (K:WY):R2:=λx y H Q=>∃a b ys,x=.ref a/\y=.ref b/\Vx K H a []/\Vx K H b ys/\Q (.ref b) H
def wH:N0 X (binaryOp .Add) (pi X.K):=by
 intro WZ s σ H x y v u Q I rx ry h;obtain⟨a,b,ys,rfl,rfl,ha,hb,q⟩:=h
 cases rx
 cases ry
 obtain⟨its,r1,p1,_⟩:=I.tuple ha;obtain⟨its2,r2,p2,_⟩:=I.tuple hb
 cases r1
 obtain⟨⟨cls,dd,data,sl⟩,ho,hc,n,hd⟩:=id p1;obtain⟨⟨cls2,dd2,data2,sl2⟩,ho2,hc2,n2,hd2⟩:=id p2;simp only at hc hd hc2 hd2;subst hc hd hc2 hd2;exact concat_meets ⟨_,ho,FV⟩ ⟨_,ho2,FV⟩ noFill_tuple_add seq_tuple_add EQ EJ (EC _ _)
  (tuple_addW0 a b _ _ n n2 dd dd2 sl sl2 (by simp)) ⟨ho,ho2,⟨.ref b,H,I,FV,q⟩⟩
def zY {v:WQ}{o:Option Int}(h:IsPart v o):∃l:Option (Int×Tok),v=partValue l/\l.map (·.1)=o:=by
 cases h with
 | none=>exact⟨none,FV,FV⟩
 | int i t=>exact⟨some (i,t),FV,FV⟩
def gG:V->Option Int->Option Int->Hp->VK->Prop:=λx lo hi H Q=>∃z,x=.str z/\z.length<=sizeLine/\Q (.str (Txt.slice z lo hi)) H
def qV:uI X gG:=by
 intro WZ s σ H x v vl vu lo hi sl Q I rx hs pl pu h;obtain⟨z,rfl,hz,q⟩:=h;obtain⟨t,rfl⟩:=rx;obtain⟨l,rfl,rfl⟩:=zY pl;obtain⟨u,rfl,rfl⟩:=zY pu;refine⟨"str",_,PySem.F.slot_str_getitem.lookup,typeIs_str _ _ _,?_⟩;obtain⟨o,ho,hc,hd⟩:=hs;refine wpAny_getItem_str_slice (l:=l) (u:=u) (st:=none) ⟨o,ho,hc,hd⟩ FV ?_;have hle:=Txt.slice_le z (l.map (·.1)) (u.map (·.1));unfold sliceMade;unfold Txt.slice at q hle;show Made.post (if ((1:Int)==1&&(PySem.Builtin.Str.strSliceIndices (l.map (·.1)) (u.map (·.1)) 1 z.length).length==z.length)=true then _ else Made.str ⟨((PySem.Builtin.Str.strSliceIndices (l.map (·.1)) (u.map (·.1)) 1 z.length).filterMap (z.cps[·]?)).toArray⟩) _ s
 split
 ·rename_i hif;rw[XY hif] at q;exact⟨.str z,H,I,⟨t,FV⟩,q⟩
 ·rename_i hif;rw[XX hif] at q;rw[XX hif] at hle;exact⟨XN hle hz,.str _,H,I.tok _,⟨_,FV⟩,q⟩
end
def nA:bootBuiltins "str"=some (.type "str"):=by decide+kernel
def Rw:bootBuiltins "tuple"=some (.type "tuple"):=by decide+kernel
section
variable {X:Cx}
structure Ca (P:Program)(w:World)(K:W.Frag)(mg:Str->Option Value)(base:Heap)(k:Nat)(x:Str)(ps:List Str)(sp:Sp):Prop where
 ex:∃(f:WP) (fd:VZ),X8 P w K mg base CX0 k f fd ps sp/\J6 K fd ps []/\W.keepIn K (.ref f)=true/\mg x=some (.ref f)
def qj {k:Nat}{x:Str}{ps:List Str}{sp:Sp}{p pos:Pos}{e:WW}{es:List WW}{t:TA}(C:Ca X.prog X.w X.K X.mg X.base k x ps sp)(hr:Y9 k X.A)(hg:Gl X x)(ha:PA X (e::es) t)
  (hdb:(x==("__debug__":Str))=false:=by decide) (he:starEach (e::es) X.env=(false,eval e X.env)::starEach es X.env:=by rfl) (hpl:(backTo pos (starEach es X.env)).any (·.1)=false:=by rfl):
  PE X (.Call (.Name x p) (e::es) [] pos) (xC sp [] E0 t):=by
 obtain⟨f,fd,F,B,kp,m⟩:=C.ex;exact G5 F hr hg m kp B .nil Y0 ha hdb he hpl
def zc {K:WY}{n:Nat}{u:B0}(b:Ot u):Sf (zg K n u):=λx σ H Q Q' h q=>by
 obtain⟨a,xs,e,hq,hl,q⟩:=q;exact⟨a,xs,e,hq,hl,b _ _ _ _ _ h q⟩
def Uw {scope:Scope}{env:Env}{x:Str}{k:NameKind}(h:(relabel scope env).names.lookup x=some k):∃k',(x,k')∈scope.names/\(k'=k\/k'=.free):=by
 have m:=BR h;unfold relabel at m;obtain⟨⟨n,k'⟩,hm,e⟩:=XR.mp m;dsimp only at e
 split at e
 ·rename_i hc
  cases e
  refine⟨k',hm,.inr ?_⟩;simp only[Bool.and_eq_true,beq_iff_eq] at hc;exact hc.1.1
 ·cases e
  exact⟨_,hm,.inl FV⟩
def Eh {cN:List Str}{cap:List (Option Nat)}{scope:Scope}(hk:scope.kind=.function)(h1:scope.names.all (λy=>y.2 !=.free&&y.2 !=.cell)=true)(h2:scope.names.all (λy=>y.2 !=.local||scope.names.lookup y.1==some .local)=true)
  (hl:cap.length=cN.length) (hc:cap.all (λo=>o.isNone)=true):Pn X cN cap scope [] where
 clos:=closureFor_none λy hy=>by
  have:=BY.mp h1 y hy;simp only[Bool.and_eq_true,bne_iff_ne,ne_eq] at this;exact this.1
 sub:=λn a h=>by cases h
 cell:=λy hy=>by
  have:=BY.mp h1 y hy;simp only[Bool.and_eq_true,bne_iff_ne,ne_eq] at this;exact this.2
 kind:=hk
 names:=λy hy e=>by
  have:=BY.mp h2 y hy;simp only[Bool.or_eq_true,bne_iff_ne,ne_eq,beq_iff_eq] at this
  rcases this with q | q
  ·exact absurd e q
  ·exact q
 len:=hl
 has:=λx h=>by
  exfalso;have no:∀k',(x,k')∈scope.names->k'≠.free/\k'≠.cell:=λk' hy=>by
   have:=BY.mp h1 _ hy;simpa only[Bool.and_eq_true,bne_iff_ne,ne_eq] using this
  rcases h with h | h
  ·obtain⟨k',hm,e⟩:=Uw h
   rcases e with e | e
   ·exact(no k' hm).2 e
   ·exact(no k' hm).1 e
  ·obtain⟨k',hm,e⟩:=Uw h
   rcases e with e | e
   ·exact(no k' hm).1 e
   ·exact(no k' hm).1 e
 capd:=λi j x h _=>by
  have:=BY.mp hc _ (BH h)
  cases this
def J4 (cells:List (Str×WP)):List (Str×NameKind)->List (Str×WP)->List (Str×WP)
 | [],cs=>cs
 | (n,k)::r,cs=>J4 cells r (if k==.free then(n,(cells.lookup n).getD 0)::cs else cs)
def Pd {cells:List (Str×WP)}:∀{names:List (Str×NameKind)} {cs:List (Str×WP)} {p:Str×WP},p∈J4 cells names cs↔p∈cs\/((p.1,NameKind.free)∈names/\p.2=(cells.lookup p.1).getD 0)
 | [],cs,p=>by simp[J4]
 | (n,k)::r,cs,p=>by
  unfold J4;rw[Pd];by_cases hk:k=.free
  ·subst hk;simp only[beq_self_eq_true,if_true,List.mem_cons,Prod.mk.injEq,and_true];constructor
   ·rintro((h | h) | h)
    ·subst h;exact .inr ⟨.inl FV,FV⟩
    ·exact .inl h
    ·exact .inr ⟨.inr h.1,h.2⟩
   ·rintro(h | ⟨h | h,e⟩)
    ·exact .inl (.inr h)
    ·refine .inl (.inl ?_);obtain⟨a,b⟩:=p;simp only at h e;subst h;subst e;rfl
    ·exact .inr ⟨h,e⟩
  ·have hb:(k==NameKind.free)=false:=by simpa using hk
   simp only[hb,Bool.false_eq_true,if_false,List.mem_cons,Prod.mk.injEq];constructor
   ·rintro(h | h)
    ·exact .inl h
    ·exact .inr ⟨.inr h.1,h.2⟩
   ·rintro(h | ⟨h | h,e⟩)
    ·exact .inl h
    ·exact absurd h.2.symm hk
    ·exact .inr ⟨h,e⟩
def Ii {scope:Scope}{env:Env}(h:∀n,(n,NameKind.free)∈scope.names->∃c,env.cells.lookup n=some c):closureFor scope env=pure (J4 env.cells scope.names []):=by
 have key:∀(names:List (Str×NameKind)) (cs:List (Str×WP)),(∀n,(n,NameKind.free)∈names->∃c,env.cells.lookup n=some c)->
   (forIn names cs λx r=>(match x with | (name,kind)=>if (kind==NameKind.free)=true then(do let y <-cellOf env name;pure (ForInStep.yield ((name,y)::r))) else pure (ForInStep.yield r):Sem (ForInStep (List (Str×WP)))))=pure (J4 env.cells names cs):=by
  intro names
  induction names with
  | nil=>intro cs _;rfl
  | cons y r ih=>
   obtain⟨n,k⟩:=y;intro cs hn;rw[List.forIn_cons];unfold J4;by_cases hk:k=.free
   ·subst hk;obtain⟨c,hc⟩:=hn n (BC);simp only[beq_self_eq_true,if_true,cellOf,hc,Option.getD_some];exact ih _ λm hm=>hn m (XV _ hm)
   ·have hb:(k==NameKind.free)=false:=by simpa using hk
    simp only[hb,Bool.false_eq_true,if_false];exact ih _ λm hm=>hn m (XV _ hm)
 unfold closureFor;have:=key scope.names [] h
 first
  | exact this
  | (simp only[bind_pure];exact this)
  | (show(forIn scope.names [] _>>=λr=>pure r)=_;rw[bind_pure];exact this)
def Ls {f:Str->NameKind->NameKind}:∀{names:List (Str×NameKind)} {x:Str},(names.map λy=>(y.1,f y.1 y.2)).lookup x=(names.lookup x).map (f x)
 | [],x=>rfl
 | (n,k)::r,x=>by
  have ih:=@Ls f r x;rw[YI,DC,DC];by_cases hx:x=n
  ·subst hx;simp
  ·have hb:(x==n)=false:=beq_eq_false_iff_ne.mpr hx;simp only[hb];exact ih
def Lu {scope:Scope}{env:Env}{x:Str}:(relabel scope env).names.lookup x=
   (scope.names.lookup x).map λk=>if (k==NameKind.free&&env.scope.kind==.function&&env.kindOf x==some .cell) then NameKind.cell else k:=by
 rw[<-Ls (f:=λn k=>if (k==NameKind.free&&env.scope.kind==.function&&env.kindOf n==some .cell) then NameKind.cell else k)];unfold relabel;congr 1;refine BS λy _=>?_;obtain⟨n,k⟩:=y;dsimp only
 split<;>rfl
def Ku (N:List Str)(outer inner:List (Str×NameKind)):List (Option Nat)->List Str->Bool
 | [],_=>true
 | _,[]=>true
 | none::r,_::xs=>Ku N outer inner r xs
 | some j::r,x::xs=>N[j]?==some x&&outer.lookup x==some .cell&&inner.lookup x==some .free&&Ku N outer inner r xs
def Nh {N:List Str}{outer inner:List (Str×NameKind)}:∀{cap:List (Option Nat)} {cN:List Str},Ku N outer inner cap cN=true->∀(i j:Nat) (x:Str),cap[i]?=some (some j)->cN[i]?=some x->N[j]?=some x/\outer.lookup x=some .cell/\inner.lookup x=some .free
 | [],_,_,i,j,x,h1,_=>by simp at h1
 | _::_,[],_,i,j,x,_,h2=>by simp at h2
 | none::r,y::xs,h,0,j,x,h1,_=>by simp at h1
 | none::r,y::xs,h,i+1,j,x,h1,h2=>Nh (cap:=r) (cN:=xs) (by simpa[Ku] using h) i j x (by simpa using h1) (by simpa using h2)
 | some k::r,y::xs,h,0,j,x,h1,h2=>by
  simp only[Ku,Bool.and_eq_true,beq_iff_eq] at h;simp at h1 h2;subst h1 h2;exact⟨h.1.1.1,h.1.1.2,h.1.2⟩
 | some k::r,y::xs,h,i+1,j,x,h1,h2=>by
  simp only[Ku,Bool.and_eq_true,beq_iff_eq] at h;exact Nh (cap:=r) (cN:=xs) h.2 i j x (by simpa using h1) (by simpa using h2)
def Qu {α β:Type}[BEq α][LawfulBEq α]{x:α}:∀{l:List (α×β)} {b:β},(x,b)∈l->∃c,l.lookup x=some c
 | [],_,h=>by cases h
 | (y,c)::r,b,h=>by
  rw[DC];by_cases hx:x=y
  ·subst hx;simp
  ·have hb:(x==y)=false:=beq_eq_false_iff_ne.mpr hx;rw[hb]
   rcases BD.mp h with e | h
   ·cases e;exact absurd FV hx
   ·exact Qu h
def Wz {cN:List Str}{cap:List (Option Nat)}{scope:Scope}(ok:X.Ok)(hk:scope.kind=.function)(h1:scope.names.all (λy=>y.2 !=.cell)=true)(h2:scope.names.all (λy=>y.2 !=.local||scope.names.lookup y.1==some .local)=true)
  (hl:cap.length=cN.length) (hf:(scope.names.all λy=>y.2 !=.free||X.env.scope.names.lookup y.1==some .cell)=true) (hc:Ku X.N X.env.scope.names scope.names cap cN=true):Pn X cN cap scope (J4 X.env.cells scope.names []):=by
 have hfr:∀n,(n,NameKind.free)∈scope.names->∃c,X.env.cells.lookup n=some c:=λn hn=>by
  have:=BY.mp hf _ hn;simp only[bne_self_eq_false,Bool.false_or,beq_iff_eq] at this;exact ok.has n (.inl this)
 refine⟨Ii hfr,λn a h=>?_,λy hy=>?_,hk,λy hy e=>?_,hl,λx h=>?_,λi j x h1' h2'=>?_⟩
 ·have m:=BR h;rw[Pd] at m
  rcases m with m | ⟨m,e⟩
  ·cases m
  ·obtain⟨c,hc⟩:=hfr n m;simp only[hc,Option.getD_some] at e;rw[hc,e]
 ·have:=BY.mp h1 y hy;simpa using this
 ·have:=BY.mp h2 y hy;simp only[Bool.or_eq_true,bne_iff_ne,ne_eq,beq_iff_eq] at this
  rcases this with q | q
  ·exact absurd e q
  ·exact q
 ·have nc:∀k',(x,k')∈scope.names->k'≠.cell:=λk' hy=>by
   have:=BY.mp h1 _ hy;simpa using this
  have m:(x,NameKind.free)∈scope.names:=by
   rcases h with h | h
   ·obtain⟨k',hm,e⟩:=Uw h
    rcases e with e | e
    ·exact absurd e (nc k' hm)
    ·subst e;exact hm
   ·obtain⟨k',hm,e⟩:=Uw h
    rcases e with e | e<;>(subst e;exact hm)
  exact Qu (b:=(X.env.cells.lookup x).getD 0) (Pd.mpr (.inr ⟨m,FV⟩))
 ·obtain⟨q1,q2,q3⟩:=Nh hc i j x h1' h2';refine⟨q1,.inr (.inl q2),(by rw[q2];simp),?_⟩;rw[Lu,q3];simp only[Option.map_some,beq_self_eq_true,Bool.true_and]
  split
  ·exact .inl FV
  ·exact .inr FV
end
def CN (p:WP)(Pv:Nat->List V->Hp->Prop)(i:Nat)(H:Hp):Prop:=∃ys,H p=some (.lst ys)/\ys.length<=i/\Pv i ys H
section
variable {K:WY}{cap:List (Option Nat)}{g:TG}{c:TT}{te:TE}{σ:St}{Q:WP->Hp->Prop}{H:Hp}
end
def gj (g:TG)(tb:TS)(D:Pi)(σ:St)(J:It)(H1:Hp):Prop:=∃W:Nat->Nat->St->Hp->Prop,(∃m,W 0 m σ H1)/\∀i m σ H,W i m σ H->
 (J.stop i H/\D.nx σ H)\/(J.go i H/\∃N:St->Hp->Prop,(∀σ' H',N σ' H'->∃m',m'<m/\W (i+1) m' σ' H')/\∀x H',J.yld i H x H'->g x σ H' λσ2 H2=>tb {D with nx:=N,ct:=N,bk:=D.nx} σ2 H2)
section
variable {K:WY}{a:WP}{xs:List V}{g:TG}{tb:TS}{D:Pi}{σ:St}{H:Hp}{z:Str}
end
def tyL {K:WY}{H:Hp}{r:WP}{xs:List V}(h:H r=some (.lst xs)):mi K "list" (.ref r) H:=by
 unfold mi;exact .inl ⟨FV,xs,Wl.of h⟩
end L2
namespace WL
open PySem PySem.Spec PyProof.Rows L2
inductive T where
 | non | bl (b:Bool) | int (i:Int) | str (x:Str) | tup (xs:List T)
  | ref (a:WP)
  | cl (xs:List T)
inductive O where
 | lst (xs:List T)
 | dic (kvs:List (Z2×T))
 | ins (cn:Str) (fs:List (Str×T))
  | fdic (kvs:List (Z2×T))
  | exc (cn:Str)
abbrev Hw:=WP->Option O
def up (C:Hw)(a:WP)(o:O):Hw:=λb=>if b=a then some o else C b
def Ze {C:Hw}{a:WP}{o:O}:up C a o a=some o:=by unfold up;rw[XY rfl]
def Zf {C:Hw}{a b:WP}{o:O}(h:b≠a):up C a o b=C b:=by unfold up;rw[XX h]
def u0 (K:WY)(H:Hp)(a:WP)(xs:List V):Prop:=
 (∃o,H a=some (.frz o (.lst xs)))\/
  ∃(o:Obj) (its:Array WQ) (n:Nat),K.lookup a=some o/\o.cls=.type "list"/\o.dict=none/\o.data=.seq its n/\its.size<=sizeLine/\Z0 xs its.toList
def u0.sq {K:WY}{H:Hp}{a:WP}{xs:List V}(h:u0 K H a xs):Wl K H a xs:=by
 rcases h with⟨o,h⟩ | h
 ·exact .inl (.inr ⟨o,h⟩)
 ·exact .inr h
mutual
def Yx (K:WY)(H:Hp)(x:V):T->Prop
 | .non=>x=.non
 | .bl b=>x=.bl b
 | .int i=>x=.int i
 | .str z=>x=.str z
 | .ref a=>x=.ref a
 | .tup ts=>∃a ys,x=.ref a/\Vx K H a ys/\Reps K H ys ts
 | .cl ts=>∃a ys,x=.ref a/\u0 K H a ys/\Reps K H ys ts
def Reps (K:WY)(H:Hp)(ys:List V):List T->Prop
 | []=>ys=[]
 | t::ts=>∃y r,ys=y::r/\Yx K H y t/\Reps K H r ts
end
def fU:HO->Prop
 | .tup _=>True
 | .frz _ _=>True
 | _=>False
def Tx (H H':Hp):Prop:=∀b o,H b=some o->fU o->H' b=some o
def Tx.refl (H:Hp):Tx H H:=λ_ _ h _=>h
def Tx.trans {H H1 H2:Hp}(a:Tx H H1)(b:Tx H1 H2):Tx H H2:=λc o h n=>b c o (a c o h n) n
def Tx.new {H:Hp}{p:WP}{o:HO}(h:H p=none):Tx H (Yo H p o):=λb u q _=>by rw[Z1 (Y4 q h)];exact q
def Tx.put {H:Hp}{p:WP}{o u:HO}(h:H p=some o)(n:¬fU o):Tx H (Yo H p u):=λb v q s=>by
 by_cases e:b=p
 ·subst e;rw[h] at q;cases q;exact absurd s n
 ·rw[Z1 e];exact q
def Tx.sqt {K:WY}{H H':Hp}(t:Tx H H'){a:WP}{xs:List V}(h:Vx K H a xs):Vx K H' a xs:=by
 rcases h with(h | ⟨o,h⟩) | h
 ·exact .inl (.inl (t _ _ h trivial))
 ·exact .inl (.inr ⟨o,t _ _ h trivial⟩)
 ·exact .inr h
def Tx.sqc {K:WY}{H H':Hp}(t:Tx H H'){a:WP}{xs:List V}(h:u0 K H a xs):u0 K H' a xs:=by
 rcases h with⟨o,h⟩ | h
 ·exact .inl ⟨o,t _ _ h trivial⟩
 ·exact .inr h
mutual
def Yx.tx {K:WY}{H H':Hp}(t:Tx H H'){x:V}:∀{v:T},Yx K H x v->Yx K H' x v
 | .non,h=>by simpa[Yx] using h
 | .bl b,h=>by simpa[Yx] using h
 | .int i,h=>by simpa[Yx] using h
 | .str z,h=>by simpa[Yx] using h
 | .ref a,h=>by simpa[Yx] using h
 | .tup ts,h=>by
  unfold Yx at h |-;obtain⟨a,ys,e,q,r⟩:=h;exact⟨a,ys,e,t.sqt q,Reps.tx t r⟩
 | .cl ts,h=>by
  unfold Yx at h |-;obtain⟨a,ys,e,q,r⟩:=h;exact⟨a,ys,e,t.sqc q,Reps.tx t r⟩
def Reps.tx {K:WY}{H H':Hp}(t:Tx H H'){ys:List V}:∀{vs:List T},Reps K H ys vs->Reps K H' ys vs
 | [],h=>by simpa[Reps] using h
 | v::vs,h=>by
  unfold Reps at h |-;obtain⟨y,r,e,q,s⟩:=h;exact⟨y,r,e,Yx.tx t q,Reps.tx t s⟩
end
section
variable {K:WY}{H:Hp}
def Y6 {i:Int}:Yx K H (.int i) (.int i):=by unfold Yx;rfl
def Wd {i:Str}:Yx K H (.str i) (.str i):=by unfold Yx;rfl
def Jt {i:Bool}:Yx K H (.bl i) (.bl i):=by unfold Yx;rfl
def T3:Yx K H .non .non:=by unfold Yx;rfl
def Jd {a:WP}:Yx K H (.ref a) (.ref a):=by unfold Yx;rfl
def J5 {a:WP}{ys:List V}{ts:List T}(h:Vx K H a ys)(r:Reps K H ys ts):Yx K H (.ref a) (.tup ts):=by unfold Yx;exact⟨a,ys,FV,h,r⟩
def Z4 {x:V}{i:Int}(h:Yx K H x (.int i)):x=.int i:=by unfold Yx at h;exact h
def Ju {x:V}{i:Str}(h:Yx K H x (.str i)):x=.str i:=by unfold Yx at h;exact h
def Np {x:V}{i:Bool}(h:Yx K H x (.bl i)):x=.bl i:=by unfold Yx at h;exact h
def O9 {x:V}(h:Yx K H x .non):x=.non:=by unfold Yx at h;exact h
def Zu {x:V}{a:WP}(h:Yx K H x (.ref a)):x=.ref a:=by unfold Yx at h;exact h
def Z8 {x:V}{ts:List T}(h:Yx K H x (.tup ts)):∃a ys,x=.ref a/\Vx K H a ys/\Reps K H ys ts:=by unfold Yx at h;exact h
def No {x:V}{ts:List T}(h:Yx K H x (.cl ts)):∃a ys,x=.ref a/\u0 K H a ys/\Reps K H ys ts:=by unfold Yx at h;exact h
def Yu:Reps K H [] []:=by unfold Reps;rfl
def Yj {y:V}{ys:List V}{t:T}{ts:List T}(a:Yx K H y t)(b:Reps K H ys ts):Reps K H (y::ys) (t::ts):=by unfold Reps;exact⟨y,ys,FV,a,b⟩
def J9 {ys:List V}(h:Reps K H ys []):ys=[]:=by unfold Reps at h;exact h
def Yk {ys:List V}{t:T}{ts:List T}(h:Reps K H ys (t::ts)):∃y r,ys=y::r/\Yx K H y t/\Reps K H r ts:=by unfold Reps at h;exact h
def Reps.length:∀{vs:List T} {ys:List V},Reps K H ys vs->ys.length=vs.length
 | [],_,h=>by rw[J9 h];rfl
 | _::_,_,h=>by obtain⟨y,r,rfl,_,q⟩:=Yk h;rw[YF,YF,q.length]
def Reps.get:∀{vs:List T} {ys:List V} {i:Nat} {v:T},Reps K H ys vs->vs[i]?=some v->∃y,ys[i]?=some y/\Yx K H y v
 | [],_,_,_,_,e=>by simp at e
 | _::_,_,0,_,h,e=>by obtain⟨y,r,rfl,a,_⟩:=Yk h;simp at e;subst e;exact⟨y,FV,a⟩
 | _::_,_,i+1,v,h,e=>by
  obtain⟨y,r,rfl,_,q⟩:=Yk h;obtain⟨z,h1,h2⟩:=Reps.get (i:=i) (v:=v) q (by simpa using e);exact⟨z,by simpa using h1,h2⟩
def Reps.get':∀{vs:List T} {ys:List V} {i:Nat} {y:V},Reps K H ys vs->ys[i]?=some y->∃v,vs[i]?=some v/\Yx K H y v:=λ{vs ys i y} h e=>by
 have hl:=h.length;have hi:i<ys.length:=(BB.mp e).1;have hv:vs[i]?=some (vs[i]'(by omega)):=by simp[hl▸hi]
 obtain⟨z,h1,h2⟩:=h.get hv;rw[e] at h1;cases h1;exact⟨_,hv,h2⟩
def Reps.app:∀{vs ws:List T} {ys zs:List V},Reps K H ys vs->Reps K H zs ws->Reps K H (ys++zs) (vs++ws)
 | [],_,_,_,h,q=>by rw[J9 h];exact q
 | _::_,_,_,_,h,q=>by obtain⟨y,r,rfl,a,b⟩:=Yk h;exact Yj a (b.app q)
def Reps.take:∀(n:Nat) {vs:List T} {ys:List V},Reps K H ys vs->Reps K H (ys.take n) (vs.take n)
 | 0,_,_,_=>by simpa using Yu
 | _+1,[],_,h=>by rw[J9 h];exact Yu
 | n+1,_::_,_,h=>by obtain⟨y,r,rfl,a,b⟩:=Yk h;exact Yj a (b.take n)
def Reps.drop:∀(n:Nat) {vs:List T} {ys:List V},Reps K H ys vs->Reps K H (ys.drop n) (vs.drop n)
 | 0,_,_,h=>h
 | _+1,[],_,h=>by rw[J9 h];exact Yu
 | n+1,_::_,_,h=>by obtain⟨y,r,rfl,a,b⟩:=Yk h;exact b.drop n
def Reps.set {y:V}{v:T}(q:Yx K H y v):∀(n:Nat) {vs:List T} {ys:List V},Reps K H ys vs->Reps K H (ys.set n y) (vs.set n v)
 | _,[],_,h=>by rw[J9 h];exact Yu
 | 0,_::_,_,h=>by obtain⟨y,r,rfl,a,b⟩:=Yk h;exact Yj q b
 | n+1,_::_,_,h=>by obtain⟨y,r,rfl,a,b⟩:=Yk h;exact Yj a (b.set q n)
def Reps.dropLast {vs:List T}{ys:List V}(h:Reps K H ys vs):Reps K H ys.dropLast vs.dropLast:=by
 rw[List.dropLast_eq_take,List.dropLast_eq_take,h.length];exact h.take _
def Reps.snoc {vs:List T}{ys:List V}{y:V}{v:T}(h:Reps K H ys vs)(q:Yx K H y v):Reps K H (ys++[y]) (vs++[v]):=h.app (Yj q Yu)
def Reps.reverse:∀{vs:List T} {ys:List V},Reps K H ys vs->Reps K H ys.reverse vs.reverse
 | [],_,h=>by rw[J9 h];exact Yu
 | _::_,_,h=>by obtain⟨y,r,rfl,a,b⟩:=Yk h;rw[CG,CG];exact b.reverse.snoc a
def Reps.at {vs:List T}{ys:List V}{i:Int}{v:T}(h:Reps K H ys vs)(e:Oq vs i=some v):∃y,Oq ys i=some y/\Yx K H y v:=by
 unfold Oq at e |-;rw[h.length]
 cases q:jk vs.length i with
 | none=>rw[q] at e;cases e
 | some j=>
  rw[q] at e;exact h.get e
def I0:∀ns:List Int,Reps K H (ns.map V.int) (ns.map T.int)
 | []=>Yu
 | n::r=>Yj Y6 (I0 r)
end
abbrev PR (K:WY)(H:Hp){κ:Type}(kvs:List (κ×V))(kws:List (κ×T)):Prop:=PySem.Paired (λp q=>p.1=q.1/\Yx K H p.2 q.2) kvs kws
def Kx (K:WY)(H:Hp)(a:WP):O->Prop
 | .lst xs=>∃ys,H a=some (.lst ys)/\Reps K H ys xs
 | .dic kvs=>∃ks,H a=some (.dK ks)/\PR K H ks kvs
 | .ins cn fs=>∃Cl dx ks,W.nsIn K mainGlobals cn=some (some (.ref Cl))/\H a=some (.ins Cl dx ks)/\PR K H ks fs
 | .fdic kvs=>∃ks,Rd H a (.dK ks)/\PR K H ks kvs
 | .exc cn=>∃Cl ob u,W.nsIn K mainGlobals cn=some (some (.ref Cl))/\ob.cls=.ref Cl/\H a=some (.frz ob u)
def O.wr:O->Prop
 | .fdic _=>False
 | .exc _=>False
 | _=>True
structure Rl (K:W.Frag)(F H:Hp)(C:Hw):Prop where
 obj:∀a o,C a=some o->Kx K H a o
 frm:∀a o,F a=some o->H a=some o/\C a=none
def Lk {K:WY}{H H':Hp}(t:Tx H H'){κ:Type}{ks:List (κ×V)}{kvs:List (κ×T)}(h:PR K H ks kvs):PR K H' ks kvs:=L2.Paired.mapP h λ_ _ z=>⟨z.1,z.2.tx t⟩
def Kx.stay {K:WY}{H H':Hp}{a:WP}{o:O}(h:Kx K H a o)(t:Tx H H')(e:H' a=H a):Kx K H' a o:=by
 cases o with
 | lst xs=>obtain⟨ys,q,r⟩:=h;exact⟨ys,e.trans q,r.tx t⟩
 | dic kvs=>obtain⟨ys,q,r⟩:=h;exact⟨ys,e.trans q,Lk t r⟩
 | ins C fs=>obtain⟨Cl,dx,ys,n,q,r⟩:=h;exact⟨Cl,dx,ys,n,e.trans q,Lk t r⟩
 | fdic kvs=>
  obtain⟨ys,q,r⟩:=h;refine⟨ys,?_,Lk t r⟩
  rcases q with q | ⟨o,q⟩
  ·exact .inl (e.trans q)
  ·exact .inr ⟨o,e.trans q⟩
 | exc cn=>obtain⟨Cl,ob,u,n,c,q⟩:=h;exact⟨Cl,ob,u,n,c,e.trans q⟩
def Kx.some {K:WY}{H:Hp}{a:WP}{o:O}(h:Kx K H a o)(wr:o.wr):∃u,H a=some u/\¬fU u:=by
 cases o with
 | fdic kvs=>exact wr.elim
 | exc cn=>exact wr.elim
 | lst xs=>obtain⟨ys,q,r⟩:=h;exact⟨_,q,λz=>z⟩
 | dic kvs=>obtain⟨ys,q,r⟩:=h;exact⟨_,q,λz=>z⟩
 | ins C fs=>obtain⟨Cl,dx,ys,n,q,r⟩:=h;exact⟨_,q,λz=>z⟩
def Kx.here {K:WY}{H:Hp}{a:WP}{o:O}(h:Kx K H a o):∃u,H a=Option.some u:=by
 cases o with
 | fdic kvs=>
  obtain⟨ys,q,r⟩:=h
  rcases q with q | ⟨o,q⟩
  ·exact⟨_,q⟩
  ·exact⟨_,q⟩
 | exc cn=>obtain⟨Cl,ob,u,n,c,q⟩:=h;exact⟨_,q⟩
 | lst xs=>obtain⟨ys,q,r⟩:=h;exact⟨_,q⟩
 | dic kvs=>obtain⟨ys,q,r⟩:=h;exact⟨_,q⟩
 | ins C fs=>obtain⟨Cl,dx,ys,n,q,r⟩:=h;exact⟨_,q⟩
section
variable {K:WY}{F H:Hp}{C:Hw}
def Rl.free (R:Rl K F H C){p:WP}(h:H p=none):C p=none:=by
 cases e:C p with
 | none=>rfl
 | some o=>obtain⟨u,q⟩:=(R.obj p o e).here;rw[h] at q;cases q
def Rl.lst (R:Rl K F H C){a:WP}{xs:List T}(h:C a=some (.lst xs)):∃ys,H a=some (.lst ys)/\Reps K H ys xs:=R.obj a _ h
def Rl.new (R:Rl K F H C){p:WP}{u:HO}{o:O}(h:H p=none)(r:Kx K (Yo H p u) p o):Rl K F (Yo H p u) (up C p o) where
 obj:=λa v e=>by
  by_cases q:a=p
  ·subst q;rw[Ze] at e;cases e;exact r
  ·rw[Zf q] at e;exact(R.obj a v e).stay (Tx.new h) (Z1 q)
 frm:=λa v e=>by
  have z:=R.frm a v e;have q:a≠p:=Y4 z.1 h;rw[Z1 q,Zf q];exact z
def Rl.hid (R:Rl K F H C){p:WP}{u:HO}(h:H p=none):Rl K F (Yo H p u) C where
 obj:=λa v e=>by
  obtain⟨w,q⟩:=(R.obj a v e).here;exact(R.obj a v e).stay (Tx.new h) (Z1 (Y4 q h))
 frm:=λa v e=>by
  have z:=R.frm a v e;rw[Z1 (Y4 z.1 h)];exact z
def Rl.put (R:Rl K F H C){p:WP}{u:HO}{o o':O}(h:C p=some o)(r:Kx K (Yo H p u) p o')(wr:o.wr:=by trivial):Rl K F (Yo H p u) (up C p o')/\Tx H (Yo H p u):=by
 obtain⟨w,hw,ns⟩:=(R.obj p o h).some wr;have t:Tx H (Yo H p u):=Tx.put hw ns;refine⟨⟨λa v e=>?_,λa v e=>?_⟩,t⟩
 ·by_cases q:a=p
  ·subst q;rw[Ze] at e;cases e;exact r
  ·rw[Zf q] at e;exact(R.obj a v e).stay t (Z1 q)
 ·have z:=R.frm a v e;have q:a≠p:=λy=>by subst y;rw[h] at z;cases z.2
  rw[Z1 q,Zf q];exact z
def Rl.putL (R:Rl K F H C){p:WP}{xs xs':List T}{ys':List V}(h:C p=some (.lst xs))(r:Reps K H ys' xs'):Rl K F (Yo H p (.lst ys')) (up C p (.lst xs'))/\Tx H (Yo H p (.lst ys')):=by
 obtain⟨w,hw,ns⟩:=(R.obj p _ h).some trivial;exact R.put h ⟨ys',Z7,r.tx (Tx.put hw ns)⟩
def Rl.newL (R:Rl K F H C){p:WP}{xs:List T}{ys:List V}(h:H p=none)(r:Reps K H ys xs):Rl K F (Yo H p (.lst ys)) (up C p (.lst xs)):=R.new h ⟨ys,Z7,r.tx (Tx.new h)⟩
end
abbrev Sw:=List (Option T)
abbrev WK:=T->Hw->Prop
structure Xn where
 cls:Str
 fs:List (Str×T)
abbrev WX:=Xn->Hw->Prop
abbrev WE:=Sw->Hw->WK->WX->Prop
abbrev WT:=Sw->Hw->(Bool->Hw->Prop)->WX->Prop
abbrev WA:=Sw->Hw->(List T->Hw->Prop)->WX->Prop
structure We where
 nx:Sw->Hw->Prop
 rt:WK
 bk:Sw->Hw->Prop:=λ_ _=>False
 ct:Sw->Hw->Prop:=λ_ _=>False
 xc:WX:=λ_ _=>False
abbrev ZUD (Q:WK)(χ:WX):We:={nx:=λ_ C'=>Q .non C',rt:=Q,xc:=χ}
abbrev WS:=We->Sw->Hw->Prop
abbrev WG:=T->Sw->Hw->(Sw->Hw->Prop)->WX->Prop
abbrev uy:=List T->Sw->Hw->(Sw->Hw->Prop)->WX->Prop
abbrev WI:=Sw->Hw->(List T->(Hw->Prop)->Hw->Prop)->WX->Prop
abbrev W2:=T->T->Hw->WK->Prop
abbrev Calls:=Nat->List T->Hw->WK->WX->Prop
def Yg (i:Nat):WE:=λτ C Q _=>∃v,τ[i]?=some (some v)/\Q v C
def eC (v:T):WE:=λ_ C Q _=>Q v C
def Xm (r:W2)(a b:WE):WE:=λτ C Q χ=>a τ C (λx C1=>b τ C1 (λy C2=>r x y C2 Q) χ) χ
def fj (r:T->Hw->WK->Prop)(a:WE):WE:=λτ C Q χ=>a τ C (λx C1=>r x C1 Q) χ
def Zw:WA:=λ_ C Q _=>Q [] C
def Zt (a:WE)(r:WA):WA:=λτ C Q χ=>a τ C (λx C1=>r τ C1 (λxs C2=>Q (x::xs) C2) χ) χ
def Qo (a:WA):WE:=λτ C Q χ=>a τ C (λxs C1=>xs.length<=sizeLine/\Q (.tup xs) C1) χ
def jy (a:WA):WE:=λτ C Q χ=>a τ C (λxs C1=>xs.length<=sizeLine/\∀p,C1 p=none->Q (.ref p) (up C1 p (.lst xs))) χ
def X5 (P:Calls)(i:Nat)(a:WA):WE:=λτ C Q χ=>a τ C (λxs C1=>P i xs C1 Q χ) χ
def ni (r:List T->Hw->WK->Prop)(a:WA):WE:=λτ C Q χ=>a τ C (λxs C1=>r xs C1 Q) χ
def iP (ty:T->Hw->Prop)(r:T->List T->Hw->WK->Prop)(o:WE)(a:WA):WE:=λτ C Q χ=>o τ C (λx C1=>ty x C1/\a τ C1 (λxs C2=>r x xs C2 Q) χ) χ
def f7 (c:WT)(a b:WE):WE:=λτ C Q χ=>c τ C (λk C1=>if k=true then a τ C1 Q χ else b τ C1 Q χ) χ
def nj (a b:WE):WE:=λτ C Q χ=>a τ C (λx C1=>∃k,x=.bl k/\if k=true then b τ C1 Q χ else Q (.bl false) C1) χ
def cj (a b:WE):WE:=λτ C Q χ=>a τ C (λx C1=>∃k,x=.bl k/\if k=true then Q (.bl true) C1 else b τ C1 Q χ) χ
def fz (a:WE):WE:=λτ C Q χ=>a τ C (λx C1=>∃k,x=.bl k/\Q (.bl (!k)) C1) χ
def iH:T->Hw->Bool->Prop
 | .non,_,k=>k=false
 | .bl b,_,k=>k=b
 | .int i,_,k=>k=(i !=0)
 | .str y,_,k=>y.length<=sizeLine/\k=((y.length:Int) !=0)
 | .tup xs,_,k=>k=!xs.isEmpty
 | .cl xs,_,k=>k=!xs.isEmpty
 | .ref a,C,k=>(∃xs,C a=some (.lst xs)/\k=!xs.isEmpty)\/∃kvs,C a=some (.dic kvs)/\k=!kvs.isEmpty
def qN (a:WE):WT:=λτ C Q χ=>a τ C (λx C1=>∃k,iH x C1 k/\Q k C1) χ
def jY (a:WE):WT:=λτ C Q χ=>a τ C (λx C1=>∃k,x=.bl k/\Q k C1) χ
def iK (a b:WT):WT:=λτ C Q χ=>a τ C (λk C1=>if k=true then b τ C1 Q χ else Q false C1) χ
def x8 (a b:WT):WT:=λτ C Q χ=>a τ C (λk C1=>if k=true then Q true C1 else b τ C1 Q χ) χ
def d0 (a:WT):WT:=λτ C Q χ=>a τ C (λk C1=>Q (!k) C1) χ
def nh (r r':W2)(a b c:WE):WE:=λτ C Q χ=>a τ C (λx C1=>b τ C1 (λy C2=>r x y C2 λz C3=>∃k,z=.bl k/\(if k=true then c τ C3 (λw C4=>r' y w C4 Q) χ else Q (.bl false) C3)) χ) χ
def E8:W2
 | .int i,.int j,C,Q=>Q (.int (i+j)) C
 | .str i,.str j,C,Q=>i.length+j.length<=sizeLine/\Q (.str (i++j)) C
 | .tup xs,.tup ys,C,Q=>xs.length+ys.length<=sizeLine/\Q (.tup (xs++ys)) C
 | .ref a,.ref b,C,Q=>∃xs ys,C a=some (.lst xs)/\C b=some (.lst ys)/\xs.length+ys.length<=sizeLine/\∀p,C p=none->Q (.ref p) (up C p (.lst (xs++ys)))
 | _,_,_,_=>False
def mx:W2
 | .int i,.int j,C,Q=>Q (.int (i-j)) C
 | _,_,_,_=>False
def uR:W2
 | .int i,.int j,C,Q=>uE i j/\Q (.int (i*j)) C
 | _,_,_,_=>False
def xq:W2
 | .int i,.int j,C,Q=>iG i j/\Q (.int (i/j)) C
 | _,_,_,_=>False
def uS:W2
 | .int i,.int j,C,Q=>0<j/\Q (.int (i%j)) C
 | _,_,_,_=>False
def m6:W2
 | .int i,.int j,C,Q=>iF i j/\Q (.int (i^j.toNat)) C
 | _,_,_,_=>False
def m8:T->Hw->WK->Prop
 | .int i,C,Q=>Q (.int (-i)) C
 | _,_,_=>False
def gc:W2
 | .int i,.int j,C,Q=>Q (.bl (decide (i<j))) C
 | .str i,.str j,C,Q=>Q (.bl (decide (i.cps.toList<j.cps.toList))) C
 | _,_,_,_=>False
def dq:W2
 | .int i,.int j,C,Q=>Q (.bl (decide (i<=j))) C
 | _,_,_,_=>False
def eL:W2
 | .int i,.int j,C,Q=>Q (.bl (decide (j<i))) C
 | _,_,_,_=>False
def dt:W2
 | .int i,.int j,C,Q=>Q (.bl (decide (j<=i))) C
 | _,_,_,_=>False
mutual
def eqT:T->T->Bool
 | .non,.non=>true
 | .bl a,.bl b=>a==b
 | .bl a,.int b=>(if a then 1 else 0)==b
 | .int a,.bl b=>a==(if b then 1 else 0)
 | .int a,.int b=>a==b
 | .str a,.str b=>a==b
 | .tup xs,.tup ys=>Rc xs ys
 | _,_=>false
def Rc:List T->List T->Bool
 | [],[]=>true
 | x::xs,y::ys=>eqT x y&&Rc xs ys
 | _,_=>false
end
mutual
def Z6:T->Nat->Bool
 | .tup xs,n+1=>Zv xs n
 | .tup _,0=>false
 | .ref _,_=>false
 | .cl _,_=>false
 | _,_=>true
def Zv:List T->Nat->Bool
 | [],_=>true
 | x::xs,n=>Z6 x n&&Zv xs n
end
def Te:Nat:=100
def Ys (x:T):Prop:=Z6 x Te=true
def Oz (neg:Bool):W2
 | .ref a,.ref b,C,Q=>∃xs ys,C a=some (.lst xs)/\C b=some (.lst ys)/\(xs.length=ys.length->Zv xs Te=true/\Zv ys Te=true)/\Q (.bl (if neg then !Rc xs ys else Rc xs ys)) C
 | .ref a,y,C,Q=>(∃xs,C a=some (.lst xs))/\Ys y/\Q (.bl neg) C
 | x,.ref b,C,Q=>(∃ys,C b=some (.lst ys))/\Ys x/\Q (.bl neg) C
 | x,y,C,Q=>Ys x/\Ys y/\Q (.bl (if neg then !eqT x y else eqT x y)) C
abbrev By:W2:=Oz false
abbrev hZ:W2:=Oz true
def m9:W2:=λx y C Q=>y=.non/\Q (.bl (match x with | .non=>true | _=>false)) C
def m7:W2:=λx y C Q=>y=.non/\Q (.bl (match x with | .non=>false | _=>true)) C
def Hf (x:T)(xs:List T):Bool:=xs.any λy=>eqT y x
def qG (neg:Bool):W2
 | .str i,.str j,C,Q=>Q (.bl (if neg then(!(!(Builtin.Str.occurrences j i 0 j.length 1).isEmpty)) else(!(Builtin.Str.occurrences j i 0 j.length 1).isEmpty))) C
 | x,.tup ys,C,Q=>Ys x/\Zv ys Te=true/\Q (.bl (if neg then !Hf x ys else Hf x ys)) C
 | x,.cl ys,C,Q=>Ys x/\Zv ys Te=true/\Q (.bl (if neg then !Hf x ys else Hf x ys)) C
 | x,.ref a,C,Q=>∃ys,C a=some (.lst ys)/\Ys x/\Zv ys Te=true/\Q (.bl (if neg then !Hf x ys else Hf x ys)) C
 | _,_,_,_=>False
abbrev eK:W2:=qG false
abbrev xk:W2:=qG true
def Nw {α:Type}(xs:List α)(lo hi:Option Int):List α:=(xs.drop (HT.sIx xs.length 0 lo)).take (HT.sIx xs.length xs.length hi-HT.sIx xs.length 0 lo)
def Gf:W2
 | .tup xs,.int i,C,Q=>∃v,Oq xs i=some v/\Q v C
 | .cl xs,.int i,C,Q=>∃v,Oq xs i=some v/\Q v C
 | .str z,.int i,C,Q=>z.length<=sizeLine/\∃c,Oq z.cps.toList i=some c/\Q (.str ⟨#[c]⟩) C
 | .ref a,.int i,C,Q=>∃xs v,C a=some (.lst xs)/\Oq xs i=some v/\Q v C
 | _,_,_,_=>False
def gQ:Sw->Hw->(Option Int->Hw->Prop)->WX->Prop:=λ_ C Q _=>Q none C
def wQ (a:WE):Sw->Hw->(Option Int->Hw->Prop)->WX->Prop:=λτ C Q χ=>a τ C (λx C1=>∃i,x=.int i/\Q (some i) C1) χ
def hU:T->Option Int->Option Int->Hw->WK->Prop
 | .tup xs,lo,hi,C,Q=>¬(HT.sIx xs.length 0 lo=0/\HT.sIx xs.length xs.length hi=xs.length)/\Q (.tup (Nw xs lo hi)) C
 | .cl xs,lo,hi,C,Q=>∀p,C p=none->Q (.ref p) (up C p (.lst (Nw xs lo hi)))
 | .str z,lo,hi,C,Q=>z.length<=sizeLine/\Q (.str (Txt.slice z lo hi)) C
 | .ref a,lo,hi,C,Q=>∃xs,C a=some (.lst xs)/\∀p,C p=none->Q (.ref p) (up C p (.lst (Nw xs lo hi)))
 | _,_,_,_,_=>False
def fq (a:WE)(lo hi:Sw->Hw->(Option Int->Hw->Prop)->WX->Prop):WE:=λτ C Q χ=>a τ C (λx C1=>lo τ C1 (λl C2=>hi τ C2 (λh C3=>hU x l h C3 Q) χ) χ) χ
def iq:List T->Hw->WK->Prop:=λvs C Q=>∃x,vs=[x]/\match x with
 | .str z=>z.length<=sizeLine/\Q (.int z.length) C
 | .tup xs=>Q (.int xs.length) C
 | .cl xs=>Q (.int xs.length) C
 | .ref a=>∃xs,C a=some (.lst xs)/\Q (.int xs.length) C
 | _=>False
def fK:List T->Hw->WK->Prop:=λvs C Q=>∃i j,vs=[.int i,.int j]/\Q (.int (if j>i then j else i)) C
def fJ:List T->Hw->WK->Prop:=λvs C Q=>∃i j,vs=[.int i,.int j]/\Q (.int (if j<i then j else i)) C
def z7:List T->Hw->WK->Prop:=λvs C Q=>∃x,vs=[x]/\match x with
 | .tup xs=>Q (.tup xs) C
 | .cl xs=>Q (.tup xs) C
 | .ref a=>∃xs,C a=some (.lst xs)/\Q (.tup xs) C
 | _=>False
def ip:List T->Hw->WK->Prop:=λvs C Q=>∃x,vs=[x]/\match x with
 | .tup xs=>∀p,C p=none->Q (.ref p) (up C p (.lst xs))
 | .cl xs=>∀p,C p=none->Q (.ref p) (up C p (.lst xs))
 | .ref a=>∃xs,C a=some (.lst xs)/\∀p,C p=none->Q (.ref p) (up C p (.lst xs))
 | _=>False
def gf:T->Hw->String->Prop
 | .non,_,n=>n="NoneType"
 | .bl _,_,n=>n="bool"
 | .int _,_,n=>n="int"
 | .str _,_,n=>n="str"
 | .tup _,_,n=>n="tuple"
 | .cl _,_,n=>n="list"
 | .ref a,C,n=>(n="list"/\∃xs,C a=some (.lst xs))\/(n="dict"/\∃kvs,C a=some (.dic kvs))
def kE (n c:String):Bool:=n==c||(n=="bool"&&c=="int")
def f6 (a:WE)(c:String):WE:=λτ C Q χ=>a τ C (λx C1=>∃n,gf x C1 n/\Q (.bl (kE n c)) C1) χ
def qK:T->Hw->Prop:=λx C=>∃a xs,x=.ref a/\C a=some (.lst xs)
def dv:T->Hw->Prop:=λx _=>∃z,x=.str z
def Fa:T->List T->Hw->WK->Prop:=λx vs C Q=>∃a xs y,x=.ref a/\vs=[y]/\C a=some (.lst xs)/\xs.length<sizeLine/\Q .non (up C a (.lst (xs++[y])))
def kA:T->List T->Hw->WK->Prop:=λx vs C Q=>∃a xs y,x=.ref a/\vs=[]/\C a=some (.lst xs)/\xs[xs.length-1]?=some y/\Q y (up C a (.lst xs.dropLast))
def ox:T->List T->Hw->WK->Prop:=λx vs C Q=>∃a xs i k y,x=.ref a/\vs=[.int i]/\C a=some (.lst xs)/\ -(2^63)<=i/\i<2^63/\seqIndex? i xs.length=some k/\xs[k]?=some y/\Q y (up C a (.lst (xs.eraseIdx k)))
def Ig (i:Nat):WG:=λv τ C Q _=>Q (τ.set i (some v)) C
def Hh:uy:=λvs τ C Q _=>vs=[]/\Q τ C
def Rt (g:WG)(gs:uy):uy:=λvs τ C Q χ=>∃v r,vs=v::r/\g v τ C (λτ' C'=>gs r τ' C' Q χ) χ
def kK (gs:uy):WG:=λv τ C Q χ=>∃xs,v=.tup xs/\gs xs τ C Q χ
def df (o i:WE):WG:=λv τ C Q χ=>o τ C (λx C1=>i τ C1 (λy C2=>∃a xs k j,x=.ref a/\y=.int k/\C2 a=some (.lst xs)/\jk xs.length k=some j/\Q τ (up C2 a (.lst (xs.set j v)))) χ) χ
def Qt:WS:=λD τ C=>D.nx τ C
def Qn (a b:WS):WS:=λD τ C=>a {D with nx:=b D} τ C
def Iy (e:WE):WS:=λD τ C=>e τ C (λ_ C1=>D.nx τ C1) D.xc
def Dv (e:WE):WS:=λD τ C=>e τ C D.rt D.xc
def lC:WS:=λD _ C=>D.rt .non C
def qg (c:WT)(a b:WS):WS:=λD τ C=>c τ C (λk C1=>if k=true then a D τ C1 else b D τ C1) D.xc
def O8 (e:WE)(g:WG):WS:=λD τ C=>e τ C (λx C1=>g x τ C1 D.nx D.xc) D.xc
def g9:WS:=λD τ C=>D.bk τ C
def qh:WS:=λD τ C=>D.ct τ C
def Ag:WS:=λ_ _ _=>False
def zj (g:WG)(b:WS)(ok:Hw->Prop)(D:We):List T->Sw->Hw->Prop
 | [],τ,C=>ok C/\D.nx τ C
 | x::xs,τ,C=>ok C/\g x τ C (λτ2 C2=>b {D with nx:=zj g b ok D xs,ct:=zj g b ok D xs,bk:=D.nx} τ2 C2) D.xc
def xU (i:WI)(g:WG)(b:WS):WS:=λD τ C=>i τ C (λxs ok C1=>zj g b ok D xs τ C1) D.xc
def sJ (e:WE):WI:=λτ C R χ=>e τ C (λv C1=>match v with
 | .tup xs=>R xs (λ_=>True) C1
 | .cl xs=>R xs (λ_=>True) C1
 | .str z=>R (z.cps.toList.map λc=>T.str ⟨#[c]⟩) (λ_=>True) C1
 | .ref a=>∃xs,C1 a=some (.lst xs)/\R xs (λC2=>C2 a=some (.lst xs)) C1
 | _=>False) χ
def rng (lo:Int)(n:Nat):List T:=(List.range n).map λk:Nat=>T.int (lo+k)
def fc (a:WA):WI:=λτ C R χ=>a τ C (λvs C1=>∃j:Int,vs=[.int j]/\ -(2^62)<=j/\j<2^62/\R (rng 0 j.toNat) (λ_=>True) C1) χ
def gZ (a:WA):WI:=λτ C R χ=>a τ C (λvs C1=>∃i j:Int,vs=[.int i,.int j]/\(-(2^62)<=i/\i<2^62/\ -(2^62)<=j/\j<2^62)/\R (rng i (j-i).toNat) (λ_=>True) C1) χ
def dY (a:WA):WI:=λτ C R χ=>a τ C (λvs C1=>∃z,vs=[.str z]/\R (z.cps.toList.zipIdx.map λc=>T.tup [.int c.2,.str ⟨#[c.1]⟩]) (λ_=>True) C1) χ
def Kt (cap:List (Option Nat))(τ:Sw):Sw:=cap.map λo=>o.bind λi=>(τ[i]?).join
def xw:WT:=λ_ C Q _=>Q true C
def Nx (g:WG)(c:WT)(e:WE)(ok:Hw->Prop)(τ:Sw)(Q:List T->Hw->Prop)(χ:WX):List T->List T->Hw->Prop
 | [],acc,C=>ok C/\Q acc C
 | x::xs,acc,C=>ok C/\g x τ C (λτ2 C2=>c τ2 C2 (λb C3=>if b=true then e τ2 C3 (λv C4=>acc.length<sizeLine/\Nx g c e ok τ Q χ xs (acc++[v]) C4) χ else Nx g c e ok τ Q χ xs acc C3) χ) χ
def Hl (cap:List (Option Nat))(i:WI)(g:WG)(c:WT)(e:WE):WE:=λτ C Q χ=>i τ C (λxs ok C1=>Nx g c e ok (Kt cap τ) (λvs C2=>∀p,C2 p=none->Q (.ref p) (up C2 p (.lst vs))) χ xs [] C1) χ
structure Df where
 n:Nat
 ar:Nat
 body:Calls->WS
def J8 (pr:List Df):Nat->Calls
 | 0=>λ_ _ _ _ _=>False
 | n+1=>λi vs C Q χ=>∃d,pr[i]?=some d/\vs.length=d.ar/\d.body (J8 pr n) (ZUD Q χ) (vs.map some++List.replicate (d.n-d.ar) none) C
section
variable {X:Cx}{WZ:List (WP×Obj)}{σ:L2.St}{H:Hp}{s:WR}
def sc:T->Option V
 | .non=>some .non
 | .bl b=>some (.bl b)
 | .int i=>some (.int i)
 | .str z=>some (.str z)
 | _=>none
def Wt {K:WY}{H:Hp}{x z:V}{v:T}(h:sc v=some z)(r:Yx K H x v):x=z/\Cv z=true:=by
 cases v with
 | non=>cases h;exact⟨O9 r,FV⟩
 | bl b=>cases h;exact⟨Np r,FV⟩
 | int i=>cases h;exact⟨Z4 r,FV⟩
 | str z=>cases h;exact⟨Ju r,FV⟩
 | _=>cases h
def vE {v w:T}{a b:V}(h:sc v=some a)(h':sc w=some b):eqT v w=oZ a b:=by
 cases v<;>cases w<;>cases h<;>cases h'<;>unfold eqT<;>rfl
mutual
def Tp:∀(v:T) {n:Nat},Z6 v n=true->eqT v v=true
 | .non,_,_=>by unfold eqT;rfl
 | .bl b,_,_=>by unfold eqT;simp
 | .int b,_,_=>by unfold eqT;simp
 | .str b,_,_=>by unfold eqT;simp
 | .tup xs,0,h=>by unfold Z6 at h;cases h
 | .tup xs,n+1,h=>by unfold Z6 at h;unfold eqT;exact Hk xs h
 | .ref a,_,h=>by unfold Z6 at h;cases h
 | .cl a,_,h=>by unfold Z6 at h;cases h
def Hk:∀(v:List T) {n:Nat},Zv v n=true->Rc v v=true
 | [],_,_=>by unfold Rc;rfl
 | x::xs,n,h=>by
  unfold Zv at h;rw[CB] at h;unfold Rc;rw[Tp x h.1,Hk xs h.2];rfl
end
def Xf {v:T}{n:Nat}(h:Z6 v n=true)(e:sc v=none):∃ts m,v=.tup ts/\n=m+1/\Zv ts m=true:=by
 cases v with
 | tup ts=>
  cases n with
  | zero=>unfold Z6 at h;cases h
  | succ m=>unfold Z6 at h;exact⟨ts,m,FV,FV,h⟩
 | ref a=>unfold Z6 at h;cases h
 | cl a=>unfold Z6 at h;cases h
 | non=>cases e
 | bl b=>cases e
 | int b=>cases e
 | str b=>cases e
def X4:∀{vs:List T} {n i:Nat} {v:T},Zv vs n=true->vs[i]?=some v->Z6 v n=true
 | [],_,_,_,_,e=>by simp at e
 | x::xs,n,0,v,h,e=>by
  unfold Zv at h;rw[CB] at h;simp at e;subst e;exact h.1
 | x::xs,n,i+1,v,h,e=>by
  unfold Zv at h;rw[CB] at h;exact X4 h.2 (by simpa using e)
def Ml (I:Zl X WZ σ H s):∀(n:Nat) {v w:T} {x:V},Z6 v n=true->Z6 w n=true->Yx X.K H x v->Yx X.K H x w->v=w:=by
 intro n
 induction n with
 | zero=>
  intro v w x fv fw rv rw'
  cases ev:sc v with
  | none=>obtain⟨_,_,_,h,_⟩:=Xf fv ev;cases h
  | some a=>
   cases ew:sc w with
   | none=>obtain⟨_,_,_,h,_⟩:=Xf fw ew;cases h
   | some b=>
    obtain⟨e1,_⟩:=Wt ev rv;obtain⟨e2,_⟩:=Wt ew rw';have e:a=b:=e1.symm.trans e2;subst e
    cases v<;>cases ev<;>cases w<;>cases ew<;>rfl
 | succ n ih=>
  intro v w x fv fw rv rw';have lists:∀{ys:List V} {vs ws:List T},Zv vs n=true->Zv ws n=true->Reps X.K H ys vs->Reps X.K H ys ws->vs=ws:=by
   intro ys vs
   induction vs generalizing ys with
   | nil=>
    intro ws _ _ a b;have:=J9 a;subst this
    cases ws with
    | nil=>rfl
    | cons w ws=>obtain⟨_,_,e,_⟩:=Yk b;cases e
   | cons v vs ihv=>
    intro ws fa fb a b;obtain⟨y,r,rfl,a1,a2⟩:=Yk a
    cases ws with
    | nil=>have:=J9 b;cases this
    | cons w ws=>
     obtain⟨y',r',e,b1,b2⟩:=Yk b
     cases e
     unfold Zv at fa fb;rw[CB] at fa fb;rw[ih fa.1 fb.1 a1 b1,ihv fa.2 fb.2 a2 b2]
  cases ev:sc v with
  | none=>
   obtain⟨ts,m,rfl,em,ft⟩:=Xf fv ev
   cases em
   obtain⟨a,ys,rfl,hq,r⟩:=Z8 rv
   cases ew:sc w with
   | none=>
    obtain⟨us,m',rfl,em,fu⟩:=Xf fw ew
    cases em
    obtain⟨b,zs,e,hq',r'⟩:=Z8 rw'
    cases e
    have e:=I.tuple_inj hq hq';subst e;rw[lists ft fu r r']
   | some b=>
    obtain⟨e2,f⟩:=Wt ew rw';subst e2
    cases f
  | some a=>
   obtain⟨e1,f⟩:=Wt ev rv
   cases ew:sc w with
   | none=>
    obtain⟨us,m',rfl,em,fu⟩:=Xf fw ew;obtain⟨b,zs,e,hq',r'⟩:=Z8 rw';subst e1;subst e
    cases f
   | some b=>
    obtain⟨e2,_⟩:=Wt ew rw';have e:a=b:=e1.symm.trans e2;subst e
    cases v<;>cases ev<;>cases w<;>cases ew<;>rfl
def uG (ts us:List T)(j:Nat):Bool:=match ts[j]?,us[j]? with
 | some a,some b=>eqT a b
 | _,_=>true
def Um:∀(vs ws:List T),((List.range (min vs.length ws.length)).all (uG vs ws)&&vs.length==ws.length)=Rc vs ws
 | [],[]=>by unfold Rc;rfl
 | [],_::_=>by unfold Rc;simp
 | _::_,[]=>by unfold Rc;simp
 | v::vs,w::ws=>by
  unfold Rc;rw[<-Um vs ws];rw[YF,YF,show min (vs.length+1) (ws.length+1)=min vs.length ws.length+1 by omega,List.range_succ_eq_map,List.all_cons,List.all_map];have e1:uG (v::vs) (w::ws) 0=eqT v w:=rfl;have e2:(uG (v::vs) (w::ws)∘Nat.succ)=uG vs ws:=by funext j;simp[Function.comp_def,uG]
  rw[e1,e2];simp[Bool.and_assoc]
def yq (I:Zl X WZ σ H s):∀(n:Nat) {v w:T} {x y:V} {u u':WQ} {A:WM},Z6 v n=true->Z6 w n=true->Yx X.K H x v->Yx X.K H y w->Z3 x u->Z3 y u'->A.units+n<cLine->
  SeqAt.EqAt A s u u' (eqT v w):=by
 intro n
 induction n with
 | zero=>
  intro v w x y u u' A fv fw rv rw' ru ru' hu
  cases ev:sc v with
  | none=>obtain⟨_,_,_,h,_⟩:=Xf fv ev;cases h
  | some a=>
   cases ew:sc w with
   | none=>obtain⟨_,_,_,h,_⟩:=Xf fw ew;cases h
   | some b=>
    obtain⟨rfl,f1⟩:=Wt ev rv;obtain⟨rfl,f2⟩:=Wt ew rw';rw[vE ev ew];exact vF ru ru' f1 f2
 | succ n ih=>
  intro v w x y u u' A fv fw rv rw' ru ru' hu;have hu0:A.units<cLine:=by omega
  cases ev:sc v with
  | some a=>
   obtain⟨rfl,f1⟩:=Wt ev rv
   cases ew:sc w with
   | some b=>
    obtain⟨rfl,f2⟩:=Wt ew rw';rw[vE ev ew];exact vF ru ru' f1 f2
   | none=>
    obtain⟨ts,m,rfl,em,ft⟩:=Xf fw ew;obtain⟨b,zs,rfl,hq,r⟩:=Z8 rw'
    cases ru'
    obtain⟨its,_,p,_⟩:=I.tuple hq
    cases v with
    | non=>cases ev;cases ru;unfold eqT;exact SeqAt.EqAt.none_tuple p hu0
    | bl c=>cases ev;cases ru;unfold eqT;exact SeqAt.EqAt.bool_tuple c p hu0
    | int i=>cases ev;obtain⟨t,rfl⟩:=ru;unfold eqT;exact SeqAt.EqAt.int_tuple i t p hu0
    | str i=>cases ev;obtain⟨t,rfl⟩:=ru;unfold eqT;exact SeqAt.EqAt.str_tuple i t p hu0
    | _=>cases ev
  | none=>
   obtain⟨ts,m,rfl,em,ft⟩:=Xf fv ev
   cases em
   obtain⟨a,ys,rfl,hq,r⟩:=Z8 rv
   cases ru
   obtain⟨its,rI,p,_⟩:=I.tuple hq
   cases ew:sc w with
   | some b=>
    obtain⟨rfl,f2⟩:=Wt ew rw'
    cases w with
    | non=>cases ew;cases ru';unfold eqT;exact SeqAt.EqAt.tuple_none p hu0
    | bl c=>cases ew;cases ru';unfold eqT;exact SeqAt.EqAt.tuple_bool c p hu0
    | int i=>cases ew;obtain⟨t,rfl⟩:=ru';unfold eqT;exact SeqAt.EqAt.tuple_int i t p hu0
    | str i=>cases ew;obtain⟨t,rfl⟩:=ru';unfold eqT;exact SeqAt.EqAt.tuple_str i t p hu0
    | _=>cases ew
   | none=>
    obtain⟨us,m',rfl,em,fu⟩:=Xf fw ew
    cases em
    obtain⟨b,zs,rfl,hq',r'⟩:=Z8 rw'
    cases ru'
    obtain⟨its',rI',p',_⟩:=I.tuple hq';by_cases hne:a=b
    ·subst hne;have e:=Ml I (n+1) fv fw (J5 hq r) (J5 hq' r');rw[e,Tp _ fw];exact SeqAt.EqAt.same _
    ·have l1:its.toArray.size=ts.length:=by rw[XJ,<-rI.length,r.length]
     have l2:its'.toArray.size=us.length:=by rw[XJ,<-rI'.length,r'.length]
     have key:=SeqAt.EqAt.of_refs hne (SeqAt.RcAt.tuples (A:=A) (e:=uG ts us) p p' hu0 (λj h1 h2=>by
      have i1:ts[j]?=some (ts[j]'(by omega)):=by simp[l1▸h1]
      have i2:us[j]?=some (us[j]'(by omega)):=by simp[l2▸h2]
      obtain⟨x1,g1,q1⟩:=r.get i1;obtain⟨x2,g2,q2⟩:=r'.get i2;obtain⟨u1,k1,z1⟩:=rI.get g1;obtain⟨u2,k2,z2⟩:=rI'.get g2;have e1:its.toArray[j]=u1:=by
       have:its[j]?=some its.toArray[j]:=by simp
       rw[k1] at this;exact(YH this).symm
      have e2:its'.toArray[j]=u2:=by
       have:its'[j]?=some its'.toArray[j]:=by simp
       rw[k2] at this;exact(YH this).symm
      rw[e1,e2];unfold uG;simp only[i1,i2];exact ih (X4 ft i1) (X4 fu i2) q1 q2 z1 z2 (by show A.units+1+n<cLine;omega)))
     rw[l1,l2,Um] at key;unfold eqT;exact key
end
def J7 (K:WY)(H:Hp)(σ:L2.St)(τ:Sw):Prop:=σ.length=τ.length/\∀(i:Nat) (v:T),τ[i]?=some (some v)->∃x,σ[i]?=some (some x)/\Yx K H x v
def J7.tx {K:WY}{H H':Hp}{σ:L2.St}{τ:Sw}(h:J7 K H σ τ)(t:Tx H H'):J7 K H' σ τ:=⟨h.1,λi v e=>let ⟨x,a,b⟩:=h.2 i v e;⟨x,a,b.tx t⟩⟩
def J7.set {K:WY}{H:Hp}{σ:L2.St}{τ:Sw}(h:J7 K H σ τ){i:Nat}{x:V}{v:T}(r:Yx K H x v):J7 K H (σ.set i (some x)) (τ.set i (some v)):=by
 refine⟨by rw[CM,CM];exact h.1,λj w e=>?_⟩;by_cases hj:i=j
 ·subst hj;by_cases hi:i<τ.length
  ·rw[BZ hi] at e
   cases e
   exact⟨x,BZ (by rw[h.1];exact hi),r⟩
  ·rw[EX (by rw[CM];omega)] at e
   cases e
 ·rw[CL hj] at e |-;exact h.2 j w e
abbrev QE (K:WY)(F H:Hp)(Q:VK)(Q':WK):Prop:=∀x v H' C',Rl K F H' C'->Tx H H'->Yx K H' x v->Q' v C'->Q x H'
abbrev QT (K:WY)(F H:Hp)(Q:Bool->Hp->Prop)(Q':Bool->Hw->Prop):Prop:=∀b H' C',Rl K F H' C'->Tx H H'->Q' b C'->Q b H'
abbrev QA (K:WY)(F H:Hp)(Q:List V->Hp->Prop)(Q':List T->Hw->Prop):Prop:=∀xs vs H' C',Rl K F H' C'->Tx H H'->Reps K H' xs vs->Q' vs C'->Q xs H'
def QE.at {K:WY}{F H H1:Hp}{Q:VK}{Q':WK}(q:QE K F H Q Q')(t:Tx H H1):QE K F H1 Q Q':=λx v H' C' R t'=>q x v H' C' R (t.trans t')
def Ur (K:WY)(te:TE)(we:WE):Prop:=∀(F H:Hp) (C:Hw) (σ:L2.St) (τ:Sw) (Q:VK) (Q':WK) (χ:WX),Rl K F H C->J7 K H σ τ->we τ C Q' χ->QE K F H Q Q'->te σ H Q
def Nj (K:WY)(te:TT)(we:WT):Prop:=∀(F H:Hp) (C:Hw) (σ:L2.St) (τ:Sw) (Q:Bool->Hp->Prop) (Q':Bool->Hw->Prop) (χ:WX),Rl K F H C->J7 K H σ τ->we τ C Q' χ->QT K F H Q Q'->te σ H Q
def Ey (K:WY)(te:TA)(we:WA):Prop:=∀(F H:Hp) (C:Hw) (σ:L2.St) (τ:Sw) (Q:List V->Hp->Prop) (Q':List T->Hw->Prop) (χ:WX),Rl K F H C->J7 K H σ τ->we τ C Q' χ->QA K F H Q Q'->te σ H Q
def nV (K:WY)(r:R2)(w:W2):Prop:=∀(F H:Hp) (C:Hw) (x y:V) (v u:T) (Q:VK) (Q':WK),Rl K F H C->Yx K H x v->Yx K H y u->w v u C Q'->QE K F H Q Q'->r x y H Q
def i0 (K:WY)(r:List V->Hp->VK->Prop)(w:List T->Hw->WK->Prop):Prop:=∀(F H:Hp) (C:Hw) (xs:List V) (vs:List T) (Q:VK) (Q':WK),Rl K F H C->Reps K H xs vs->w vs C Q'->QE K F H Q Q'->r xs H Q
def fW (K:WY)(r:V->List V->Hp->VK->Prop)(w:T->List T->Hw->WK->Prop):Prop:=∀(F H:Hp) (C:Hw) (x:V) (v:T) (xs:List V) (vs:List T) (Q:VK) (Q':WK),Rl K F H C->Yx K H x v->Reps K H xs vs->w v vs C Q'->QE K F H Q Q'->r x xs H Q
def fV (K:WY)(r:V->Hp->VK->Prop)(w:T->Hw->WK->Prop):Prop:=∀(F H:Hp) (C:Hw) (x:V) (v:T) (Q:VK) (Q':WK),Rl K F H C->Yx K H x v->w v C Q'->QE K F H Q Q'->r x H Q
def Jc (X:Cx)(e:WW)(w:WE):Prop:=∃t,PE X e t/\Ur X.K t w
def uJ (X:Cx)(e:WW)(w:WT):Prop:=∃t,PT X e t/\Nj X.K t w
def nX (X:Cx)(e:WW)(w:WT):Prop:=∃t,PW X e t/\Nj X.K t w
def M3 (X:Cx)(es:List WW)(w:WA):Prop:=∃t,PA X es t/\Ey X.K t w
def Kw (X:Cx)(f:WQ->WQ->Sem WQ)(w:W2):Prop:=∃r,N0 X f r/\nV X.K r w
def cE (X:Cx)(w:W2):Prop:=∃r,uL X r/\nV X.K r w
def Qz (X:Cx)(f:WQ)(w:List T->Hw->WK->Prop):Prop:=∃r,Vp X f r/\i0 X.K r w
def iB (X:Cx)(id:String)(w:T->List T->Hw->WK->Prop):Prop:=∃r,iW X id r/\fW X.K r w
section
variable {K:WY}{ta tb tc:TE}{wa wb wc:WE}{r r':R2}{w w':W2}
def mX {i:Nat}:Ur K (mE i) (Yg i):=λF H C σ τ Q Q' χ R S h q=>by
 obtain⟨v,e,h⟩:=h;obtain⟨x,ex,rx⟩:=S.2 i v e;exact⟨x,ex,q x v H C R (Tx.refl H) rx h⟩
def lx {x:V}{v:T}(h:∀H,Yx K H x v):Ur K (tC x) (eC v):=λF H C σ τ Q Q' χ R S w q=>q x v H C R (Tx.refl H) (h H) w
def t0 (ha:Ur K ta wa)(hb:Ur K tb wb)(hr:nV K r w):Ur K (mI r ta tb) (Xm w wa wb):=λF H C σ τ Q Q' χ R S h q=>by
 refine ha F H C σ τ _ _ χ R S h λx v H1 C1 R1 t1 rx h1=>?_;refine hb F H1 C1 σ τ _ _ χ R1 (S.tx t1) h1 λy u H2 C2 R2 t2 ry h2=>?_;exact hr F H2 C2 x y v u Q Q' R2 (rx.tx t2) ry h2 (QE.at q (t1.trans t2))
def gv {r:V->Hp->VK->Prop}{w:T->Hw->WK->Prop}(ha:Ur K ta wa)(hr:fV K r w):Ur K (eM r ta) (fj w wa):=λF H C σ τ Q Q' χ R S h q=>by
 refine ha F H C σ τ _ _ χ R S h λx v H1 C1 R1 t1 rx h1=>?_;exact hr F H1 C1 x v Q Q' R1 rx h1 (QE.at q t1)
def lg:Ey K xA Zw:=λF H C σ τ Q Q' χ R S h q=>q [] [] H C R (Tx.refl H) Yu h
def Ae {t:TA}{wt:WA}(ha:Ur K ta wa)(hb:Ey K t wt):Ey K (Dh ta t) (Zt wa wt):=λF H C σ τ Q Q' χ R S h q=>by
 refine ha F H C σ τ _ _ χ R S h λx v H1 C1 R1 t1 rx h1=>?_;exact hb F H1 C1 σ τ _ _ χ R1 (S.tx t1) h1 λxs vs H2 C2 R2 t2 rs h2=>q (x::xs) (v::vs) H2 C2 R2 (t1.trans t2) (Yj (rx.tx t2) rs) h2
def mY {t:TA}{wt:WA}(ha:Ey K t wt):Ur K (mF t) (Qo wt):=λF H C σ τ Q Q' χ R S h q=>by
 refine ha F H C σ τ _ _ χ R S h λxs vs H1 C1 R1 t1 rs h1=>⟨by rw[rs.length];exact h1.1,λp hp=>?_⟩;exact q _ _ _ C1 (R1.hid hp) (t1.trans (Tx.new hp)) (J5 (Vx.of Z7) (rs.tx (Tx.new hp))) h1.2
def lh {t:TA}{wt:WA}(ha:Ey K t wt):Ur K (mM t) (jy wt):=λF H C σ τ Q Q' χ R S h q=>by
 refine ha F H C σ τ _ _ χ R S h λxs vs H1 C1 R1 t1 rs h1=>⟨by rw[rs.length];exact h1.1,λp hp=>?_⟩;exact q _ _ _ _ (R1.newL hp rs) (t1.trans (Tx.new hp)) Jd (h1.2 p (R1.free hp))
def ly {r:List V->Hp->VK->Prop}{w:List T->Hw->WK->Prop}{t:TA}{wt:WA}(hr:i0 K r w)(ha:Ey K t wt):Ur K (gr r t) (ni w wt):=λF H C σ τ Q Q' χ R S h q=>by
 refine ha F H C σ τ _ _ χ R S h λxs vs H1 C1 R1 t1 rs h1=>?_;exact hr F H1 C1 xs vs Q Q' R1 rs h1 (QE.at q t1)
def gz {tt:TT}{wt:WT}(hc:Nj K tt wt)(ha:Ur K ta wa)(hb:Ur K tb wb):Ur K (eQ tt ta tb) (f7 wt wa wb):=λF H C σ τ Q Q' χ R S h q=>by
 refine hc F H C σ τ _ _ χ R S h λk H1 C1 R1 t1 h1=>?_
 cases k with
 | true=>exact ha F H1 C1 σ τ Q Q' χ R1 (S.tx t1) h1 (QE.at q t1)
 | false=>exact hb F H1 C1 σ τ Q Q' χ R1 (S.tx t1) h1 (QE.at q t1)
def lA (ha:Ur K ta wa)(hb:Ur K tb wb):Ur K (rZ ta tb) (nj wa wb):=λF H C σ τ Q Q' χ R S h q=>by
 refine ha F H C σ τ _ _ χ R S h λx v H1 C1 R1 t1 rx h1=>?_;obtain⟨k,rfl,h1⟩:=h1;refine⟨k,Np rx,?_⟩
 cases k with
 | true=>exact hb F H1 C1 σ τ Q Q' χ R1 (S.tx t1) h1 (QE.at q t1)
 | false=>exact q _ _ H1 C1 R1 t1 Jt h1
def g6 (ha:Ur K ta wa):Nj K (rY ta) (jY wa):=λF H C σ τ Q Q' χ R S h q=>by
 refine ha F H C σ τ _ _ χ R S h λx v H1 C1 R1 t1 rx h1=>?_;obtain⟨k,rfl,h1⟩:=h1;exact⟨k,Np rx,q k H1 C1 R1 t1 h1⟩
def mZ (ha:Ur K ta wa):Nj K (λσ H Q=>ta σ H λx H'=>∃k,nU K x H' k/\Q k H') (qN wa):=λF H C σ τ Q Q' χ R S h q=>by
 refine ha F H C σ τ _ _ χ R S h λx v H1 C1 R1 t1 rx h1=>?_;obtain⟨k,hk,h1⟩:=h1;refine⟨k,?_,q k H1 C1 R1 t1 h1⟩;have emp:∀{ys:List V} {xs:List T},Reps K H1 ys xs->ys.isEmpty=xs.isEmpty:=λ{ys xs} r=>by
  have:=r.length
  cases ys<;>cases xs<;>simp_all
 cases v with
 | non=>cases O9 rx;exact hk
 | bl b=>cases Np rx;exact hk
 | int i=>cases Z4 rx;exact hk
 | str z=>cases Ju rx;exact hk
 | tup xs=>
  obtain⟨a,ys,rfl,hq,r⟩:=Z8 rx;refine .inr (.inl ⟨ys,hq,?_⟩);rw[emp r];exact hk
 | cl xs=>
  obtain⟨a,ys,rfl,hq,r⟩:=No rx;refine .inl ⟨ys,hq.sq,?_⟩;rw[emp r];exact hk
 | ref a=>
  cases Zu rx
  rcases hk with⟨xs,hx,e⟩ | ⟨kvs,hx,e⟩
  ·obtain⟨ys,hy,r⟩:=R1.lst hx;refine .inl ⟨ys,Wl.of hy,?_⟩;rw[emp r];exact e
  ·obtain⟨ks,hy,r⟩:=R1.obj a _ hx;refine .inr (.inr ⟨ks,hy,?_⟩);have:=Paired.length r;rw[e]
   cases ks<;>cases kvs<;>simp_all
def g7 {t u:TT}{w w':WT}(ha:Nj K t w)(hb:Nj K u w'):Nj K (mV t u) (iK w w'):=λF H C σ τ Q Q' χ R S h q=>by
 refine ha F H C σ τ _ _ χ R S h λk H1 C1 R1 t1 h1=>?_
 cases k with
 | true=>exact hb F H1 C1 σ τ Q Q' χ R1 (S.tx t1) h1 λb H' C' R' t'=>q b H' C' R' (t1.trans t')
 | false=>exact q _ H1 C1 R1 t1 h1
def lf {t u:TT}{w w':WT}(ha:Nj K t w)(hb:Nj K u w'):Nj K (eN t u) (x8 w w'):=λF H C σ τ Q Q' χ R S h q=>by
 refine ha F H C σ τ _ _ χ R S h λk H1 C1 R1 t1 h1=>?_
 cases k with
 | true=>exact q _ H1 C1 R1 t1 h1
 | false=>exact hb F H1 C1 σ τ Q Q' χ R1 (S.tx t1) h1 λb H' C' R' t'=>q b H' C' R' (t1.trans t')
end
section
variable {X:Cx}
def X3:Kw X (binaryOp .Add) E8:=⟨_,oi.or (Ap.or (oh.or (wH.or sh))),λF H C x y v u Q Q' R rx ry h q=>by
 cases v<;>cases u<;>first | exact False.elim h | skip
 case int.int i j=>cases Z4 rx;cases Z4 ry;exact .inl ⟨i,j,FV,FV,q _ _ H C R (Tx.refl H) Y6 h⟩
 case str.str i j=>cases Ju rx;cases Ju ry;exact .inr (.inl ⟨i,j,FV,FV,h.1,q _ _ H C R (Tx.refl H) Wd h.2⟩)
 case ref.ref a b=>
  cases Zu rx;cases Zu ry
  obtain⟨xs,ys,ha,hb,hl,h⟩:=h;obtain⟨zs,hz,rz⟩:=R.lst ha;obtain⟨ws,hw,rw'⟩:=R.lst hb;exact .inr (.inr (.inl ⟨a,b,zs,ws,FV,FV,hz,hw,by rw[rz.length,rw'.length];exact hl,λp hp=>q _ _ _ _ (R.newL hp (rz.app rw')) (Tx.new hp) Jd (h p (R.free hp))⟩))
 case tup.tup xs ys=>
  obtain⟨a,zs,rfl,hz,rz⟩:=Z8 rx;obtain⟨b,ws,rfl,hw,rw'⟩:=Z8 ry;by_cases e:zs=[]
  ·subst e;have e2:xs=[]:=by
    have:=rz.length
    cases xs with
    | nil=>rfl
    | cons _ _=>cases this
   subst e2;exact .inr (.inr (.inr (.inl ⟨a,b,ws,FV,FV,hz,hw,q _ _ H C R (Tx.refl H) (J5 hw rw') h.2⟩)))
  ·refine .inr (.inr (.inr (.inr ⟨a,b,zs,ws,FV,FV,hz,hw,e,by rw[rz.length,rw'.length];exact h.1,λe2=>?_,λe2 p hp=>?_⟩)))
   ·subst e2;have e3:ys=[]:=by
     have:=rw'.length
     cases ys with
     | nil=>rfl
     | cons _ _=>cases this
    subst e3;refine q _ _ H C R (Tx.refl H) (J5 hz rz) ?_;have:=h.2;rw[YK] at this;exact this
   ·exact q _ _ _ C (R.hid hp) (Tx.new hp) (J5 (Vx.of Z7) ((rz.app rw').tx (Tx.new hp))) h.2⟩
def kj:Kw X (binaryOp .Sub) mx:=⟨_,pW,λF H C x y v u Q Q' R rx ry h q=>by
 cases v<;>cases u<;>first | exact False.elim h | skip
 case int.int i j=>cases Z4 rx;cases Z4 ry;exact⟨i,j,FV,FV,q _ _ H C R (Tx.refl H) Y6 h⟩⟩
def yb:Kw X (binaryOp .Mult) uR:=⟨_,pY,λF H C x y v u Q Q' R rx ry h q=>by
 cases v<;>cases u<;>first | exact False.elim h | skip
 case int.int i j=>cases Z4 rx;cases Z4 ry;exact⟨i,j,FV,FV,h.1,q _ _ H C R (Tx.refl H) Y6 h.2⟩⟩
def Lo:Kw X (binaryOp .FloorDiv) xq:=⟨_,sf,λF H C x y v u Q Q' R rx ry h q=>by
 cases v<;>cases u<;>first | exact False.elim h | skip
 case int.int i j=>cases Z4 rx;cases Z4 ry;exact⟨i,j,FV,FV,h.1,q _ _ H C R (Tx.refl H) Y6 h.2⟩⟩
def Rn:Kw X (binaryOp .Mod) uS:=⟨_,pZ,λF H C x y v u Q Q' R rx ry h q=>by
 cases v<;>cases u<;>first | exact False.elim h | skip
 case int.int i j=>cases Z4 rx;cases Z4 ry;exact⟨i,j,FV,FV,h.1,q _ _ H C R (Tx.refl H) Y6 h.2⟩⟩
def ya:Kw X (binaryOp .Pow) m6:=⟨_,pX,λF H C x y v u Q Q' R rx ry h q=>by
 cases v<;>cases u<;>first | exact False.elim h | skip
 case int.int i j=>cases Z4 rx;cases Z4 ry;exact⟨i,j,FV,FV,h.1,q _ _ H C R (Tx.refl H) Y6 h.2⟩⟩
def gO:Kw X (compareOp .Lt) gc:=⟨_,ke.or jb,λF H C x y v u Q Q' R rx ry h q=>by
 cases v<;>cases u<;>first | exact False.elim h | skip
 case int.int i j=>cases Z4 rx;cases Z4 ry;exact .inl ⟨i,j,FV,FV,q _ _ H C R (Tx.refl H) Jt h⟩
 case str.str i j=>cases Ju rx;cases Ju ry;exact .inr ⟨i,j,FV,FV,q _ _ H C R (Tx.refl H) Jt h⟩⟩
def kq:Kw X (compareOp .Gt) eL:=⟨_,kf,λF H C x y v u Q Q' R rx ry h q=>by
 cases v<;>cases u<;>first | exact False.elim h | skip
 case int.int i j=>cases Z4 rx;cases Z4 ry;exact⟨i,j,FV,FV,q _ _ H C R (Tx.refl H) Jt h⟩⟩
def gJ (X:Cx)(f:WQ->WQ->Sem WQ):R2:=λx y H Q=>∀(WZ:List (WP×Obj)) (s:WR) (σ:L2.St) (v u:WQ),Zl X WZ σ H s->Z3 x v->Z3 y u->wpAny (model X.prog X.w) X.A (f v u) (EP X WZ σ Q) X.xe s
def G6 {f:WQ->WQ->Sem WQ}:N0 X f (gJ X f):=λWZ s σ H x y v u Q I rx ry h=>h WZ s σ v u I rx ry
def Ci {WZ:List (WP×Obj)}{σ:L2.St}{H:Hp}{s:WR}{A:WM}{n:Nat}{ts us:List T}{ys zs:List V}{its its':List WQ}(I:Zl X WZ σ H s)(r:Reps X.K H ys ts)(r':Reps X.K H zs us)(rI:Z0 ys its)(rI':Z0 zs its')
  (f:Zv ts n=true) (f':Zv us n=true) (hu:A.units+n<cLine):
  ∀j (h1:j<its.toArray.size) (h2:j<its'.toArray.size),SeqAt.EqAt A s its.toArray[j] its'.toArray[j] (uG ts us j):=λj h1 h2=>by
 have l1:its.toArray.size=ts.length:=by rw[XJ,<-rI.length,r.length]
 have l2:its'.toArray.size=us.length:=by rw[XJ,<-rI'.length,r'.length]
 have i1:ts[j]?=some (ts[j]'(by omega)):=by simp[l1▸h1]
 have i2:us[j]?=some (us[j]'(by omega)):=by simp[l2▸h2]
 obtain⟨x1,g1,q1⟩:=r.get i1;obtain⟨x2,g2,q2⟩:=r'.get i2;obtain⟨u1,k1,z1⟩:=rI.get g1;obtain⟨u2,k2,z2⟩:=rI'.get g2;have e1:its.toArray[j]=u1:=by
  have:its[j]?=some its.toArray[j]:=by simp
  rw[k1] at this;exact(YH this).symm
 have e2:its'.toArray[j]=u2:=by
  have:its'[j]?=some its'.toArray[j]:=by simp
  rw[k2] at this;exact(YH this).symm
 rw[e1,e2];unfold uG;simp only[i1,i2];exact yq I n (X4 f i1) (X4 f' i2) q1 q2 z1 z2 hu
def vD {vs ws:List T}(h:vs.length≠ws.length):Rc vs ws=false:=by
 rw[<-Um,show(vs.length==ws.length)=false from beq_eq_false_iff_ne.mpr h,Bool.and_false]
def jw {vs ws:List T}(h:vs.length=ws.length):(List.range vs.length).all (uG vs ws)=Rc vs ws:=by
 rw[<-Um,h,Nat.min_self,XU,Bool.and_true]
def gC {WZ:List (WP×Obj)}{σ:L2.St}{H:Hp}{s:WR}{v w:T}{x y:V}{u u':WQ}{A:WM}{n:Nat}(I:Zl X WZ σ H s)(fv:Z6 v n=true)(fw:Z6 w n=true)(rv:Yx X.K H x v)(rw':Yx X.K H y w)
  (ru:Z3 x u) (ru':Z3 y u') (hu:A.units+n+1<cLine):SeqAt.RcAt A s u u' (eqT v w)/\SeqAt.RcNeAt A s u u' (!eqT v w):=by
 have hu0:A.units<cLine:=by omega
 cases ev:sc v with
 | some a=>
  obtain⟨rfl,f1⟩:=Wt ev rv
  cases ew:sc w with
  | some b=>
   obtain⟨rfl,f2⟩:=Wt ew rw'
   cases v with
   | non=>
    cases ev;cases ru
    cases w with
    | non=>cases ew;cases ru';unfold eqT;exact⟨.none_none,.none_none⟩
    | bl c=>cases ew;cases ru';unfold eqT;exact⟨.none_bool c,.none_bool c⟩
    | int c=>cases ew;obtain⟨t,rfl⟩:=ru';unfold eqT;exact⟨.none_int c t,.none_int c t⟩
    | str c=>cases ew;obtain⟨t,rfl⟩:=ru';unfold eqT;exact⟨.none_str c t,.none_str c t⟩
    | _=>cases ew
   | bl d=>
    cases ev;cases ru
    cases w with
    | non=>cases ew;cases ru';unfold eqT;exact⟨.bool_none d,.bool_none d⟩
    | bl c=>cases ew;cases ru';unfold eqT;exact⟨.bool_bool d c,.bool_bool d c⟩
    | int c=>cases ew;obtain⟨t,rfl⟩:=ru';unfold eqT;exact⟨.bool_int d c t,.bool_int d c t⟩
    | str c=>cases ew;obtain⟨t,rfl⟩:=ru';unfold eqT;exact⟨.bool_str d c t,.bool_str d c t⟩
    | _=>cases ew
   | int d=>
    cases ev;obtain⟨t',rfl⟩:=ru
    cases w with
    | non=>cases ew;cases ru';unfold eqT;exact⟨.int_none d t',.int_none d t'⟩
    | bl c=>cases ew;cases ru';unfold eqT;exact⟨.int_bool d t' c,.int_bool d t' c⟩
    | int c=>cases ew;obtain⟨t,rfl⟩:=ru';unfold eqT;exact⟨.int_int d t' c t,.int_int d t' c t⟩
    | str c=>cases ew;obtain⟨t,rfl⟩:=ru';unfold eqT;exact⟨.int_str d t' c t,.int_str d t' c t⟩
    | _=>cases ew
   | str d=>
    cases ev;obtain⟨t',rfl⟩:=ru
    cases w with
    | non=>cases ew;cases ru';unfold eqT;exact⟨.str_none d t',.str_none d t'⟩
    | bl c=>cases ew;cases ru';unfold eqT;exact⟨.str_bool d t' c,.str_bool d t' c⟩
    | int c=>cases ew;obtain⟨t,rfl⟩:=ru';unfold eqT;exact⟨.str_int d t' c t,.str_int d t' c t⟩
    | str c=>cases ew;obtain⟨t,rfl⟩:=ru';unfold eqT;exact⟨.str_str d t' c t,.str_str d t' c t⟩
    | _=>cases ew
   | _=>cases ev
  | none=>
   obtain⟨ts,m,rfl,em,ft⟩:=Xf fw ew;obtain⟨b,zs,rfl,hq,r⟩:=Z8 rw'
   cases ru'
   obtain⟨its,_,p,_⟩:=I.tuple hq
   cases v with
   | non=>cases ev;cases ru;unfold eqT;exact⟨.none_tuple p hu0,.none_tuple p hu0⟩
   | bl c=>cases ev;cases ru;unfold eqT;exact⟨.bool_tuple c p hu0,.bool_tuple c p hu0⟩
   | int i=>cases ev;obtain⟨t,rfl⟩:=ru;unfold eqT;exact⟨.int_tuple i t p hu0,.int_tuple i t p hu0⟩
   | str i=>cases ev;obtain⟨t,rfl⟩:=ru;unfold eqT;exact⟨.str_tuple i t p hu0,.str_tuple i t p hu0⟩
   | _=>cases ev
 | none=>
  obtain⟨ts,m,rfl,em,ft⟩:=Xf fv ev;subst em;obtain⟨a,ys,rfl,hq,r⟩:=Z8 rv
  cases ru
  obtain⟨its,rI,p,_⟩:=I.tuple hq
  cases ew:sc w with
  | some b=>
   obtain⟨rfl,f2⟩:=Wt ew rw'
   cases w with
   | non=>cases ew;cases ru';unfold eqT;exact⟨.tuple_none p hu0,.tuple_none p hu0⟩
   | bl c=>cases ew;cases ru';unfold eqT;exact⟨.tuple_bool c p hu0,.tuple_bool c p hu0⟩
   | int i=>cases ew;obtain⟨t,rfl⟩:=ru';unfold eqT;exact⟨.tuple_int i t p hu0,.tuple_int i t p hu0⟩
   | str i=>cases ew;obtain⟨t,rfl⟩:=ru';unfold eqT;exact⟨.tuple_str i t p hu0,.tuple_str i t p hu0⟩
   | _=>cases ew
  | none=>
   obtain⟨us,m',rfl,em,fu⟩:=Xf fw ew
   cases em
   obtain⟨b,zs,rfl,hq',r'⟩:=Z8 rw'
   cases ru'
   obtain⟨its',rI',p',_⟩:=I.tuple hq';have l1:its.toArray.size=ts.length:=by rw[XJ,<-rI.length,r.length]
   have l2:its'.toArray.size=us.length:=by rw[XJ,<-rI'.length,r'.length]
   have hi:=Ci (A:=A.in1) I r r' rI rI' ft fu (by show A.units+1+m<cLine;omega);have k1:=SeqAt.RcAt.tuples (A:=A) p p' hu0 hi;have k2:=SeqAt.RcNeAt.tuples (A:=A) p p' hu0 hi;rw[l1,l2,Um] at k1 k2;unfold eqT;exact⟨k1,k2⟩
def yg {WZ:List (WP×Obj)}{σ:L2.St}{H:Hp}{s:WR}{w:T}{y:V}{u':WQ}{A:WM}{n:Nat}{a:WP}{its:List WQ}(I:Zl X WZ σ H s)(fw:Z6 w n=true)(rw':Yx X.K H y w)(ru':Z3 y u')(hu0:A.units<cLine)
  (p:s.heap.IsList a its.toArray):(SeqAt.RcAt A s (.ref a) u' false/\SeqAt.RcNeAt A s (.ref a) u' true)/\(SeqAt.RcAt A s u' (.ref a) false/\SeqAt.RcNeAt A s u' (.ref a) true):=by
 cases w with
 | non=>cases O9 rw';cases ru';exact⟨⟨.list_none p hu0,.list_none p hu0⟩,.none_list p hu0,.none_list p hu0⟩
 | bl c=>cases Np rw';cases ru';exact⟨⟨.list_bool c p hu0,.list_bool c p hu0⟩,.bool_list c p hu0,.bool_list c p hu0⟩
 | int c=>cases Z4 rw';obtain⟨t,rfl⟩:=ru';exact⟨⟨.list_int c t p hu0,.list_int c t p hu0⟩,.int_list c t p hu0,.int_list c t p hu0⟩
 | str c=>cases Ju rw';obtain⟨t,rfl⟩:=ru';exact⟨⟨.list_str c t p hu0,.list_str c t p hu0⟩,.str_list c t p hu0,.str_list c t p hu0⟩
 | tup ts=>
  obtain⟨b,zs,rfl,hq,r⟩:=Z8 rw'
  cases ru'
  obtain⟨its',_,p',_⟩:=I.tuple hq;exact⟨⟨.list_tuple p p' hu0,.list_tuple p p' hu0⟩,.tuple_list p' p hu0,.tuple_list p' p hu0⟩
 | ref b=>unfold Z6 at fw;cases fw
 | cl b=>unfold Z6 at fw;cases fw
def qk (neg:Bool)(hu:X.A.units+150<cLine):Kw X (compareOp (if neg then .NotEq else .Eq)) (Oz neg):=⟨_,G6,λF H C x y v u Q Q' R rx ry h q WZ s σ v' u' I r1 r2=>by
 have fin:∀{k:Bool},SeqAt.RcAt X.A s v' u' k/\SeqAt.RcNeAt X.A s v' u' (!k)->Q (.bl (if neg then !k else k)) H->wpAny (model X.prog X.w) X.A (compareOp (if neg then .NotEq else .Eq) v' u') (EP X WZ σ Q) X.xe s:=λ{k} e hq=>by
  cases neg with
  | true=>exact EqBoolInt.of_rcne e.2 ⟨.bl (!k),H,I,FV,hq⟩
  | false=>exact EqBoolInt.of_rc e.1 ⟨.bl k,H,I,FV,hq⟩
 have two:∀{v u:T},Yx X.K H x v->Yx X.K H y u->Ys v/\Ys u/\Q' (.bl (if neg then !eqT v u else eqT v u)) C->wpAny (model X.prog X.w) X.A (compareOp (if neg then .NotEq else .Eq) v' u') (EP X WZ σ Q) X.xe s:=λ{v u} rx ry h=>
  fin (gC I h.1 h.2.1 rx ry r1 r2 (show X.A.units+100+1<cLine by omega)) (q _ _ H C R (Tx.refl H) Jt h.2.2)
 have hn:(if neg then !false else false)=neg:=by cases neg<;>rfl
 have lft:∀{a:WP} {u:T},v'=.ref a->Yx X.K H y u->(∃xs,C a=some (.lst xs))/\Ys u/\Q' (.bl neg) C->wpAny (model X.prog X.w) X.A (compareOp (if neg then .NotEq else .Eq) v' u') (EP X WZ σ Q) X.xe s:=λ{a u} ev ry h=>by
  obtain⟨⟨xs,hx⟩,f,hq⟩:=h;obtain⟨ys,hy,r⟩:=R.lst hx;obtain⟨its,_,p,_⟩:=I.list (Wl.of hy);have z:=(yg (A:=X.A) I f ry r2 (by omega) p.isList).1;subst ev;refine fin (k:=false) z ?_;rw[hn];exact q _ _ H C R (Tx.refl H) Jt hq
 have rgt:∀{b:WP} {v:T},u'=.ref b->Yx X.K H x v->(∃xs,C b=some (.lst xs))/\Ys v/\Q' (.bl neg) C->wpAny (model X.prog X.w) X.A (compareOp (if neg then .NotEq else .Eq) v' u') (EP X WZ σ Q) X.xe s:=λ{b v} eu rx h=>by
  obtain⟨⟨xs,hx⟩,f,hq⟩:=h;obtain⟨ys,hy,r⟩:=R.lst hx;obtain⟨its,_,p,_⟩:=I.list (Wl.of hy);have z:=(yg (A:=X.A) I f rx r1 (by omega) p.isList).2;subst eu;refine fin (k:=false) z ?_;rw[hn];exact q _ _ H C R (Tx.refl H) Jt hq
 cases v with
 | ref a=>
  have ev:v'=.ref a:=by cases Zu rx;exact r1
  cases u with
  | ref b=>
   have eu:u'=.ref b:=by cases Zu ry;exact r2
   obtain⟨xs,ys,ha,hb,hf,hq⟩:=h;obtain⟨zs,hz,rz⟩:=R.lst ha;obtain⟨ws,hw,rw'⟩:=R.lst hb;obtain⟨its,rI,p,_⟩:=I.list (Wl.of hz);obtain⟨its',rI',p',_⟩:=I.list (Wl.of hw);have l1:its.toArray.size=xs.length:=by rw[XJ,<-rI.length,rz.length]
   have l2:its'.toArray.size=ys.length:=by rw[XJ,<-rI'.length,rw'.length]
   subst ev;subst eu;refine fin ?_ (q _ _ H C R (Tx.refl H) Jt hq);by_cases hl:xs.length=ys.length
   ·obtain⟨f1,f2⟩:=hf hl;have hi:=Ci (A:=X.A.in1) I rz rw' rI rI' f1 f2 (by show X.A.units+1+100<cLine;omega);have k1:=SeqAt.RcAt.lists (A:=X.A) p.isList p'.isList (by rw[l1,l2,hl]) (by omega) hi;have k2:=SeqAt.RcNeAt.lists (A:=X.A) p.isList p'.isList (by rw[l1,l2,hl]) (by omega) hi;rw[l1,jw hl] at k1 k2;exact⟨k1,k2⟩
   ·rw[vD hl];have hne:(its.toArray.size !=its'.toArray.size)=true:=by rw[l1,l2];exact bne_iff_ne.mpr hl
    exact⟨SeqAt.RcAt.lists_lengths p.isList p'.isList hne (by omega),SeqAt.RcNeAt.lists_lengths p.isList p'.isList hne (by omega)⟩
  | non=>exact lft ev ry h
  | bl b=>exact lft ev ry h
  | int b=>exact lft ev ry h
  | str b=>exact lft ev ry h
  | tup b=>exact lft ev ry h
  | cl b=>exact lft ev ry h
 | non=>
  cases u with
  | ref b=>exact rgt (by cases Zu ry;exact r2) rx h
  | _=>exact two rx ry h
 | bl _=>
  cases u with
  | ref b=>exact rgt (by cases Zu ry;exact r2) rx h
  | _=>exact two rx ry h
 | int _=>
  cases u with
  | ref b=>exact rgt (by cases Zu ry;exact r2) rx h
  | _=>exact two rx ry h
 | str _=>
  cases u with
  | ref b=>exact rgt (by cases Zu ry;exact r2) rx h
  | _=>exact two rx ry h
 | tup _=>
  cases u with
  | ref b=>exact rgt (by cases Zu ry;exact r2) rx h
  | _=>exact two rx ry h
 | cl _=>
  cases u with
  | ref b=>exact rgt (by cases Zu ry;exact r2) rx h
  | _=>exact two rx ry h⟩
def Xa (hu:X.A.units+150<cLine):Kw X (compareOp .Eq) By:=qk false hu
def K8 (hu:X.A.units+150<cLine):Kw X (compareOp .NotEq) hZ:=qk true hu
def wO:Kw X (compareOp .Is) m9:=⟨_,og,λF H C x y v u Q Q' R rx ry h q=>by
 obtain⟨rfl,h⟩:=h;refine⟨O9 ry,?_⟩;have z:=q (.bl _) _ H C R (Tx.refl H) Jt h
 cases v with
 | non=>cases O9 rx;exact z
 | bl _=>cases Np rx;exact z
 | int _=>cases Z4 rx;exact z
 | str _=>cases Ju rx;exact z
 | ref _=>cases Zu rx;exact z
 | tup _=>obtain⟨a,ys,rfl,_⟩:=Z8 rx;exact z
 | cl _=>obtain⟨a,ys,rfl,_⟩:=No rx;exact z⟩
open Classical in
noncomputable def eqAns (v:T) (us:List WQ) (ts:List T) (u:WQ):Bool:=match (us.zip ts).find? λp=>decide (p.1=u) with
 | some p=>eqT p.2 v
 | none=>false
open Classical in
def Ba {WZ:List (WP×Obj)}{σ:L2.St}{H:Hp}{s:WR}{n:Nat}{v:T}{ts:List T}{ys:List V}{us:List WQ}(I:Zl X WZ σ H s)(r:Reps X.K H ys ts)(rI:Z0 ys us)(f:Zv ts n=true){j:Nat}{u:WQ}{t:T}(hu:us[j]?=some u)(ht:ts[j]?=some t):
  eqAns v us ts u=eqT t v:=by
 unfold eqAns;have hm:(u,t)∈us.zip ts:=by
  refine EY.mpr ⟨j,?_⟩;rw[BN];exact⟨hu,ht⟩
 cases e:(us.zip ts).find? λp=>decide (p.1=u) with
 | none=>
  have:=List.find?_eq_none.mp e (u,t) hm;simp at this
 | some p=>
  have h1:=List.find?_some e;have h2:=List.mem_of_find?_eq_some e;simp only[decide_eq_true_eq] at h1;obtain⟨i,hi⟩:=EY.mp h2;obtain⟨g1,g2⟩:=BN.mp hi;obtain⟨x1,k1,q1⟩:=r.get g2;obtain⟨x2,k2,q2⟩:=r.get ht;obtain⟨u1,m1,z1⟩:=rI.get k1;obtain⟨u2,m2,z2⟩:=rI.get k2;rw[g1] at m1;cases m1;rw[hu] at m2;cases m2;rw[h1] at z1;have e2:=z1.inj z2;subst e2;show eqT p.2 v=eqT t v;rw[Ml I n (X4 f g2) (X4 f ht) q1 q2]
def y4 {WZ:List (WP×Obj)}{σ:L2.St}{H:Hp}{s:WR}{n:Nat}{v:T}{ts:List T}{ys:List V}{us:List WQ}(I:Zl X WZ σ H s)(r:Reps X.K H ys ts)(rI:Z0 ys us)(f:Zv ts n=true):us.any (eqAns v us ts)=Hf v ts:=by
 have hl:us.length=ts.length:=by rw[<-rI.length,r.length]
 have hat:∀j,us[j]?.map (eqAns v us ts)=ts[j]?.map λt=>eqT t v:=λj=>by
  by_cases hj:j<us.length
  ·have e1:us[j]?=some us[j]:=by simp[hj]
   have e2:ts[j]?=some (ts[j]'(by omega)):=by simp[hl▸hj]
   rw[e1,e2,Option.map_some,Option.map_some,Ba I r rI f e1 e2]
  ·rw[EX (by omega),EX (by omega)];rfl
 have hm:us.map (eqAns v us ts)=ts.map λt=>eqT t v:=by
  refine List.ext_getElem? λj=>?_;rw[XM,XM];exact hat j
 unfold Hf;have a1:us.any (eqAns v us ts)=(us.map (eqAns v us ts)).any id:=by rw[List.any_map];rfl
 have a2:(ts.any λy=>eqT y v)=(ts.map λt=>eqT t v).any id:=by rw[List.any_map];rfl
 rw[a1,a2,hm]
def ko (neg:Bool)(hu:X.A.units+150<cLine):Kw X (compareOp (if neg then .NotIn else .In)) (qG neg):=⟨_,G6,λF H C x y v u Q Q' R rx ry h q WZ s σ v' u' I r1 r2=>by
 have sq:∀{p:WP} {ys:List V} {ts:List T},u'=.ref p->(Wl X.K H p ys\/Vx X.K H p ys)->Reps X.K H ys ts->Ys v->Zv ts Te=true->Q' (.bl (if neg then !Hf v ts else Hf v ts)) C->
   wpAny (model X.prog X.w) X.A (compareOp (if neg then .NotIn else .In) v' u') (EP X WZ σ Q) X.xe s:=λ{p ys ts} eu hq r fv ft hq'=>by
  subst eu;have at1:∀{its:List WQ},Z0 ys its->∀w,w∈its.toArray->SeqAt.EqAt X.A.in1 s w v' (eqAns v its ts w):=λ{its} rI w hw=>by
   have hw':w∈its:=by simpa using hw
   obtain⟨j,hj⟩:=EY.mp hw';have hlt:j<its.length:=(BB.mp hj).1;have hl:its.length=ts.length:=by rw[<-rI.length,r.length]
   have e2:ts[j]?=some (ts[j]'(by omega)):=by simp[hl▸hlt]
   rw[Ba I r rI ft hj e2];obtain⟨x2,k2,q2⟩:=r.get e2;obtain⟨u2,m2,z2⟩:=rI.get k2;rw[hj] at m2;cases m2;exact yq I 100 (X4 ft e2) fv q2 rx z2 r1 (by show X.A.units+1+100<cLine;omega)
  rcases hq with hq | hq
  ·obtain⟨its,rI,p,_⟩:=I.list hq;have e:its.toArray.any (eqAns v its ts)=Hf v ts:=by rw[<-y4 I r rI ft];simp
   cases neg with
   | true=>refine SeqAt.notIn_listAt (eqAns v its ts) p.isList (at1 rI) ⟨.bl _,H,I,FV,?_⟩;rw[e];exact q _ _ H C R (Tx.refl H) Jt hq'
   | false=>refine SeqAt.in_listAt (eqAns v its ts) p.isList (at1 rI) ⟨.bl _,H,I,FV,?_⟩;rw[e];exact q _ _ H C R (Tx.refl H) Jt hq'
  ·obtain⟨its,rI,p,_⟩:=I.tuple hq;have e:its.toArray.any (eqAns v its ts)=Hf v ts:=by rw[<-y4 I r rI ft];simp
   cases neg with
   | true=>refine SeqAt.notIn_tupleAt (eqAns v its ts) p (at1 rI) ⟨.bl _,H,I,FV,?_⟩;rw[e];exact q _ _ H C R (Tx.refl H) Jt hq'
   | false=>refine SeqAt.in_tupleAt (eqAns v its ts) p (at1 rI) ⟨.bl _,H,I,FV,?_⟩;rw[e];exact q _ _ H C R (Tx.refl H) Jt hq'
 have tpl:∀{ts:List T},Yx X.K H y (.tup ts)->Ys v/\Zv ts Te=true/\Q' (.bl (if neg then !Hf v ts else Hf v ts)) C->wpAny (model X.prog X.w) X.A (compareOp (if neg then .NotIn else .In) v' u') (EP X WZ σ Q) X.xe s:=λ{ts} ry h=>by
  obtain⟨a,ys,rfl,hq,r⟩:=Z8 ry;exact sq r2 (.inr hq) r h.1 h.2.1 h.2.2
 have cls:∀{ts:List T},Yx X.K H y (.cl ts)->Ys v/\Zv ts Te=true/\Q' (.bl (if neg then !Hf v ts else Hf v ts)) C->wpAny (model X.prog X.w) X.A (compareOp (if neg then .NotIn else .In) v' u') (EP X WZ σ Q) X.xe s:=λ{ts} ry h=>by
  obtain⟨a,ys,rfl,hq,r⟩:=No ry;exact sq r2 (.inl hq.sq) r h.1 h.2.1 h.2.2
 have rf:∀{a:WP},Yx X.K H y (.ref a)->(∃ys,C a=some (.lst ys)/\Ys v/\Zv ys Te=true/\Q' (.bl (if neg then !Hf v ys else Hf v ys)) C)->wpAny (model X.prog X.w) X.A (compareOp (if neg then .NotIn else .In) v' u') (EP X WZ σ Q) X.xe s:=λ{a} ry h=>by
  obtain⟨ts,ht,h1,h2,h3⟩:=h;obtain⟨zs,hz,rz⟩:=R.lst ht
  cases Zu ry
  exact sq r2 (.inl (Wl.of hz)) rz h1 h2 h3
 cases u with
 | tup ts=>cases v<;>exact tpl ry h
 | cl ts=>cases v<;>exact cls ry h
 | ref a=>cases v<;>exact rf ry h
 | str j=>
  cases v with
  | str i=>
   cases Ju rx;cases Ju ry
   obtain⟨t,rfl⟩:=r1;obtain⟨t',rfl⟩:=r2
   cases neg with
   | true=>exact notIn_str ⟨.bl _,H,I,FV,q _ _ H C R (Tx.refl H) Jt h⟩
   | false=>exact in_str ⟨.bl _,H,I,FV,q _ _ H C R (Tx.refl H) Jt h⟩
  | _=>exact False.elim h
 | non=>cases v<;>exact False.elim h
 | bl _=>cases v<;>exact False.elim h
 | int _=>cases v<;>exact False.elim h⟩
def sj (hu:X.A.units+150<cLine):Kw X (compareOp .NotIn) xk:=ko true hu
def gP:cE X Gf:=⟨_,oJ,λF H C x y v u Q Q' R rx ry h q=>by
 cases v<;>cases u<;>first | exact False.elim h | skip
 case tup.int xs i=>
  obtain⟨a,ys,rfl,hq,r⟩:=Z8 rx
  cases Z4 ry
  obtain⟨v,hv,h⟩:=h;obtain⟨z,hz,rz⟩:=r.at hv;exact .inr (.inl ⟨a,ys,i,z,FV,FV,hq,hz,q _ _ H C R (Tx.refl H) rz h⟩)
 case cl.int xs i=>
  obtain⟨a,ys,rfl,hq,r⟩:=No rx
  cases Z4 ry
  obtain⟨v,hv,h⟩:=h;obtain⟨z,hz,rz⟩:=r.at hv;exact .inl ⟨a,ys,i,z,FV,FV,hq.sq,hz,q _ _ H C R (Tx.refl H) rz h⟩
 case ref.int a i=>
  cases Zu rx
  cases Z4 ry
  obtain⟨xs,v,hx,hv,h⟩:=h;obtain⟨ys,hy,r⟩:=R.lst hx;obtain⟨z,hz,rz⟩:=r.at hv;exact .inl ⟨a,ys,i,z,FV,FV,Wl.of hy,hz,q _ _ H C R (Tx.refl H) rz h⟩
 case str.int z i=>
  cases Ju rx
  cases Z4 ry
  obtain⟨hl,c,hc,h⟩:=h;exact .inr (.inr ⟨z,i,c,FV,FV,hl,hc,q _ _ H C R (Tx.refl H) Wd h⟩)⟩
def dh (X:Cx)(w:T->Option Int->Option Int->Hw->WK->Prop):Prop:=∃r,uI X r/\∀(F H:Hp) (C:Hw) (x:V) (v:T) (lo hi:Option Int) (Q:VK) (Q':WK),Rl X.K F H C->Yx X.K H x v->w v lo hi C Q'->QE X.K F H Q Q'->r x lo hi H Q
def Oo {K:WY}{H:Hp}{ys:List V}{xs:List T}(r:Reps K H ys xs)(lo hi:Option Int):Reps K H (Bf ys lo hi) (Nw xs lo hi):=by
 unfold Bf Nw;rw[r.length];exact(r.drop _).take _
def gN:dh X hU:=⟨_,xI.or (tj.or qV),λF H C x v lo hi Q Q' R rx h q=>by
 cases v with
 | tup xs=>
  obtain⟨a,ys,rfl,hq,r⟩:=Z8 rx;exact .inl ⟨a,ys,FV,hq,by rw[r.length];exact h.1,λp hp=>q _ _ _ C (R.hid hp) (Tx.new hp) (J5 (Vx.of Z7) ((Oo r lo hi).tx (Tx.new hp))) h.2⟩
 | cl xs=>
  obtain⟨a,ys,rfl,hq,r⟩:=No rx;exact .inr (.inl ⟨a,ys,FV,hq.sq,λp hp=>q _ _ _ _ (R.newL hp (Oo r lo hi)) (Tx.new hp) Jd (h p (R.free hp))⟩)
 | ref a=>
  cases Zu rx
  obtain⟨xs,hx,h⟩:=h;obtain⟨ys,hy,r⟩:=R.lst hx;exact .inr (.inl ⟨a,ys,FV,Wl.of hy,λp hp=>q _ _ _ _ (R.newL hp (Oo r lo hi)) (Tx.new hp) Jd (h p (R.free hp))⟩)
 | str z=>cases Ju rx;exact .inr (.inr ⟨z,FV,h.1,q _ _ H C R (Tx.refl H) Wd h.2⟩)
 | _=>exact False.elim h⟩
def Wu {K:WY}{H:Hp}{xs:List V}{v:T}(h:Reps K H xs [v]):∃x,xs=[x]/\Yx K H x v:=by
 obtain⟨y,r,rfl,a,b⟩:=Yk h
 cases J9 b
 exact⟨y,FV,a⟩
def wI {K:WY}{H:Hp}{xs:List V}{v w:T}(h:Reps K H xs [v,w]):∃x y,xs=[x,y]/\Yx K H x v/\Yx K H y w:=by
 obtain⟨y,r,rfl,a,b⟩:=Yk h;obtain⟨z,rfl,c⟩:=Wu b;exact⟨y,z,FV,a,c⟩
def yz:Qz X (.builtin "len") iq:=⟨_,Ep.or Eo,λF H C xs vs Q Q' R rs h q=>by
 obtain⟨v,rfl,h⟩:=h;obtain⟨x,rfl,rx⟩:=Wu rs
 cases v with
 | str z=>cases Ju rx;exact .inr ⟨z,FV,h.1,q _ _ H C R (Tx.refl H) Y6 h.2⟩
 | tup xs=>
  obtain⟨a,ys,rfl,hq,r⟩:=Z8 rx;exact .inl ⟨a,ys,FV,.inr hq,by rw[r.length];exact q _ _ H C R (Tx.refl H) Y6 h⟩
 | cl xs=>
  obtain⟨a,ys,rfl,hq,r⟩:=No rx;exact .inl ⟨a,ys,FV,.inl hq.sq,by rw[r.length];exact q _ _ H C R (Tx.refl H) Y6 h⟩
 | ref a=>
  cases Zu rx
  obtain⟨xs,hx,h⟩:=h;obtain⟨ys,hy,r⟩:=R.lst hx;exact .inl ⟨a,ys,FV,.inl (Wl.of hy),by rw[r.length];exact q _ _ H C R (Tx.refl H) Y6 h⟩
 | _=>exact False.elim h⟩
def Dy {K:WY}{H:Hp}:∀{bs:List Bool} {ys:List V},Reps K H ys (bs.map T.bl)->ys=bs.map V.bl
 | [],_,h=>J9 h
 | b::bs,_,h=>by obtain⟨y,r,rfl,a,c⟩:=Yk h;cases Np a;rw[Dy c];rfl
def Op:Qz X (.type "tuple") z7:=⟨_,Ij,λF H C xs vs Q Q' R rs h q=>by
 obtain⟨v,rfl,h⟩:=h;obtain⟨x,rfl,rx⟩:=Wu rs
 cases v with
 | tup xs=>
  obtain⟨a,ys,rfl,hq,r⟩:=Z8 rx;exact⟨a,ys,FV,.inr ⟨hq,q _ _ H C R (Tx.refl H) (J5 hq r) h⟩⟩
 | cl xs=>
  obtain⟨a,ys,rfl,hq,r⟩:=No rx;exact⟨a,ys,FV,.inl ⟨hq.sq,λp hp=>q _ _ _ C (R.hid hp) (Tx.new hp) (J5 (Vx.of Z7) (r.tx (Tx.new hp))) h⟩⟩
 | ref a=>
  cases Zu rx
  obtain⟨xs,hx,h⟩:=h;obtain⟨ys,hy,r⟩:=R.lst hx;exact⟨a,ys,FV,.inl ⟨Wl.of hy,λp hp=>q _ _ _ C (R.hid hp) (Tx.new hp) (J5 (Vx.of Z7) (r.tx (Tx.new hp))) h⟩⟩
 | _=>exact False.elim h⟩
def Uj:iB X "list.append" Fa:=⟨_,Hb,λF H C x v xs vs Q Q' R rx rs h q=>by
 obtain⟨a,ts,y,rfl,rfl,hx,hl,h⟩:=h
 cases Zu rx
 obtain⟨z,rfl,rz⟩:=Wu rs;obtain⟨ys,hy,r⟩:=R.lst hx;obtain⟨R',t⟩:=R.putL hx (r.snoc rz);exact⟨a,ys,z,FV,FV,hy,by rw[r.length];exact hl,q _ _ _ _ R' t T3 h⟩⟩
def wY:iB X "list.pop" kA:=⟨_,ou,λF H C x v xs vs Q Q' R rx rs h q=>by
 obtain⟨a,ts,y,rfl,rfl,hx,hy,h⟩:=h
 cases Zu rx
 cases J9 rs
 obtain⟨ys,hys,r⟩:=R.lst hx;obtain⟨z,hz,rz⟩:=r.get hy;obtain⟨R',t⟩:=R.putL hx r.dropLast;exact⟨a,ys,z,FV,FV,hys,by rw[r.length];exact hz,q _ _ _ _ R' t (rz.tx t) h⟩⟩
end
section
variable {X:Cx}{a b c e:WW}{es:List WW}{wa wb wc:WE}{wt wt':WT}{wA:WA}{w w':W2}{pos p apos cpos:Pos}{Yp:List WW}
def Zb (i:Nat){x:Str}(hN:X.N[i]?=some x:=by rfl)(hv:iT X.env.scope x:=by first | exact Or.inl FV | exact Or.inr (Or.inl FV) | exact Or.inr (Or.inr FV))(hd:(x==("__debug__":Str))=false:=by decide)
  (hcd:(x==("__classdict__":Str))=false:=by decide):Jc X (.Name x pos) (Yg i):=⟨_,pI hN hv hd hcd,mX⟩
def Zj {i j}:Jc X (.Constant (.int i) j pos) (eC (.int i)):=⟨_,pO,lx λ_=>Y6⟩
def Zm {i j}:Jc X (.Constant (.str i) j pos) (eC (.str i)):=⟨_,pK,lx λ_=>Wd⟩
def vY {i j}:Jc X (.Constant (.bool i) j pos) (eC (.bl i)):=⟨_,lY,lx λ_=>Jt⟩
def yv {j}:Jc X (.Constant .none j pos) (eC .non):=⟨_,pM,lx λ_=>T3⟩
def bq (K:WY)(mg:Str->Option WQ)(x:Str)(v:T):Prop:=∃z u,mg x=some u/\Z3 z u/\∀H,Yx K H z v
def Y5 {op:Operator}(ho:Kw X (binaryOp op) w)(ha:Jc X a wa)(hb:Jc X b wb):Jc X (.BinOp a op b pos) (Xm w wa wb):=by
 obtain⟨r,h1,h2⟩:=ho;obtain⟨ta,p1,s1⟩:=ha;obtain⟨tb,p2,s2⟩:=hb;exact⟨_,lU h1 p1 p2,t0 s1 s2 h2⟩
def vS (ha:Jc X a wa):Jc X (.UnaryOp .USub a pos) (fj m8 wa):=by
 obtain⟨ta,p1,s1⟩:=ha;exact⟨_,lS qI p1,gv s1 λF H C x v Q Q' R rx h q=>by
  cases v with
  | int i=>cases Z4 rx;exact⟨i,FV,q _ _ H C R (Tx.refl H) Y6 h⟩
  | _=>exact False.elim h⟩
def vX {op:CmpOp}(ho:Kw X (compareOp op) w)(ha:Jc X a wa)(hb:Jc X b wb)(hm:behindInMarks op b=false):Jc X (.Compare a [op] [b] pos) (Xm w wa wb):=by
 obtain⟨r,h1,h2⟩:=ho;obtain⟨ta,p1,s1⟩:=ha;obtain⟨tb,p2,s2⟩:=hb;exact⟨_,tY h1 p1 p2 hm,t0 s1 s2 h2⟩
def ib (ha:Jc X a wa)(hb:Jc X (.BoolOp .And (b::Yp) pos) wb):Jc X (.BoolOp .And (a::b::Yp) pos) (nj wa wb):=by
 obtain⟨ta,p1,s1⟩:=ha;obtain⟨tb,p2,s2⟩:=hb;exact⟨_,pS p1 p2,lA s1 s2⟩
def kX {op}(ha:Jc X a wa):Jc X (.BoolOp op [a] pos) wa:=by
 obtain⟨ta,p1,s1⟩:=ha;exact⟨_,pL p1,s1⟩
def kZ (hc:uJ X c wt)(ha:Jc X a wa)(hb:Jc X b wb):Jc X (.IfExp c a b pos) (f7 wt wa wb):=by
 obtain⟨ta,p1,s1⟩:=ha;obtain⟨tb,p2,s2⟩:=hb;obtain⟨tc,p3,s3⟩:=hc;exact⟨_,wC p3 p1 p2,gz s3 s1 s2⟩
def Zc:M3 X [] Zw:=⟨_,wG,lg⟩
def Za (ha:Jc X a wa)(hb:M3 X es wA)(hs:starEach (a::es) X.env=(false,eval a X.env)::starEach es X.env:=by rfl):M3 X (a::es) (Zt wa wA):=by
 obtain⟨ta,p1,s1⟩:=ha;obtain⟨tb,p2,s2⟩:=hb;exact⟨_,zZ p1 p2 hs,Ae s1 s2⟩
def Zh {x1}(h:M3 X es wA):Jc X (.Tuple es x1 pos) (Qo wA):=by
 obtain⟨t,p,s⟩:=h;exact⟨_,pJ p,mY s⟩
def Yl (h:M3 X es wA):Jc X (.List es pos) (jy wA):=by
 obtain⟨t,p,s⟩:=h;exact⟨_,pN p,lh s⟩
def Ya (ha:Jc X a wa)(hb:Jc X b wb)(hs:yA b:=by exact λ_ _=>rfl):Jc X (.Subscript a b pos) (Xm Gf wa wb):=by
 obtain⟨r,h1,h2⟩:=gP (X:=X);obtain⟨ta,p1,s1⟩:=ha;obtain⟨tb,p2,s2⟩:=hb;exact⟨_,lV h1 p1 p2 hs,t0 s1 s2 h2⟩
def mn (X:Cx)(e:Option WW)(w:Sw->Hw->(Option Int->Hw->Prop)->WX->Prop):Prop:=∃t,PO X e t/\∀(F H:Hp) (C:Hw) (σ:L2.St) (τ:Sw) (Q:Option Int->Hp->Prop) (Q':Option Int->Hw->Prop) (χ:WX),Rl X.K F H C->J7 X.K H σ τ->w τ C Q' χ->
 (∀o H' C',Rl X.K F H' C'->Tx H H'->Q' o C'->Q o H')->t σ H Q
def Xy:mn X none gQ:=⟨_,tS,λF H C σ τ Q Q' χ R S h q=>q none H C R (Tx.refl H) h⟩
def Xx (ha:Jc X a wa):mn X (some a) (wQ wa):=by
 obtain⟨ta,p1,s1⟩:=ha;refine⟨_,tR p1,λF H C σ τ Q Q' χ R S h q=>?_⟩;refine s1 F H C σ τ _ _ χ R S h λx v H1 C1 R1 t1 rx h1=>?_;obtain⟨i,rfl,h1⟩:=h1;exact⟨i,Z4 rx,q (some i) H1 C1 R1 t1 h1⟩
def Kr {lo hi:Option WW}{wl wh:Sw->Hw->(Option Int->Hw->Prop)->WX->Prop}{p2:Pos}(ha:Jc X a wa)(hl:mn X lo wl)(hh:mn X hi wh):Jc X (.Subscript a (.Slice lo hi none p2) pos) (fq wa wl wh):=by
 obtain⟨r,h1,h2⟩:=gN (X:=X);obtain⟨ta,p1,s1⟩:=ha;obtain⟨tl,p3,s3⟩:=hl;obtain⟨th,p4,s4⟩:=hh;refine⟨_,D4 h1 p1 p3 p4,λF H C σ τ Q Q' χ R S h q=>?_⟩;refine s1 F H C σ τ _ _ χ R S h λx v H1 C1 R1 t1 rx h1=>?_;refine s3 F H1 C1 σ τ _ _ χ R1 (S.tx t1) h1 λl H2 C2 R2 t2 h2'=>?_;refine s4 F H2 C2 σ τ _ _ χ R2 (S.tx (t1.trans t2)) h2' λu H3 C3 R3 t3 h3=>?_;exact h2 F H3 C3 x v l u Q Q' R3 ((rx.tx t2).tx t3) h3 (QE.at q ((t1.trans t2).trans t3))
def Bd {x:Str}{id:String}{r:List T->Hw->WK->Prop}(hc:Qz X (.builtin id) r)(hg:Gl X x)(hm:X.mg x=none)(hv:bootBuiltins x=some (.builtin id))(ha:M3 X (e::es) wA)(hn:x≠"__name__":=by decide)(hdb:(x==("__debug__":Str))=false:=by decide)
  (he:starEach (e::es) X.env=(false,eval e X.env)::starEach es X.env:=by rfl) (hpl:(backTo pos (starEach es X.env)).any (·.1)=false:=by rfl):Jc X (.Call (.Name x p) (e::es) [] pos) (ni r wA):=by
 obtain⟨r,h1,h2⟩:=hc;obtain⟨t,p1,s1⟩:=ha;exact⟨_,wE h1 hg hm hv p1 hn hdb he hpl,ly h2 s1⟩
def zt {x:Str}{id:String}{r:List T->Hw->WK->Prop}(hc:Qz X (.type id) r)(hg:Gl X x)(hm:X.mg x=none)(hv:bootBuiltins x=some (.type id))(ha:M3 X (e::es) wA)(hn:x≠"__name__":=by decide)(hdb:(x==("__debug__":Str))=false:=by decide)
  (he:starEach (e::es) X.env=(false,eval e X.env)::starEach es X.env:=by rfl) (hpl:(backTo pos (starEach es X.env)).any (·.1)=false:=by rfl):Jc X (.Call (.Name x p) (e::es) [] pos) (ni r wA):=by
 obtain⟨r,h1,h2⟩:=hc;obtain⟨t,p1,s1⟩:=ha;exact⟨_,ja h1 hg hm hv p1 hn hdb he hpl,ly h2 s1⟩
def fR (X:Cx)(Tn:String)(ty:T->Hw->Prop):Prop:=∀(F H:Hp) (C:Hw) (x:V) (v:T),Rl X.K F H C->Yx X.K H x v->ty v C->mi X.K Tn x H
def Xe:fR X "list" qK:=λF H C x v R rx h=>by
 obtain⟨a,xs,rfl,hx⟩:=h
 cases Zu rx
 obtain⟨ys,hy,r⟩:=R.lst hx;exact L2.tyL hy
def Ih {o:WW}{wo:WE}{name:Str}{Tn id:String}{ty:T->Hw->Prop}{r:T->List T->Hw->WK->Prop}(pa:PlainAttrs Tn)(slot:Slot Tn name id)(hty:typeOf (.builtin id)=pure (.type "method_descriptor"))(hT:fR X Tn ty)(hm:iB X id r)(ho:Jc X o wo)(ha:M3 X (e::es) wA)
  (hbase:attributeBase o name X.env (eval o X.env)=eval o X.env:=by rfl)
  (hfew:((backTo cpos (starEach (e::es) X.env)).all (λx=>!x.1)&&(backToKw cpos (keywordEach [] X.env)).all (λx=>x.1.isSome)
   &&decide ((e::es).length+([]:List Keyword).length+(if ([]:List Keyword).isEmpty then 0 else 1)<30))=true:=by rfl)
  (hline:(apos.endLine==cpos.line)=true:=by rfl) (hs:starEach (e::es) X.env=(false,eval e X.env)::starEach es X.env:=by rfl) (hplain:(backTo cpos (starEach es X.env)).any (·.1)=false:=by rfl):
  Jc X (.Call (.Attribute o name apos) (e::es) [] cpos) (iP ty r wo wA):=by
 obtain⟨rr,h1,h2⟩:=hm;obtain⟨to,p1,s1⟩:=ho;obtain⟨ta,p2,s2⟩:=ha;refine⟨_,lX pa slot hty h1 p1 p2 hbase hfew hline hs hplain,λF H C σ τ Q Q' χ R S h q=>?_⟩;refine s1 F H C σ τ _ _ χ R S h λx v H1 C1 R1 t1 rx h1'=>⟨hT F H1 C1 x v R1 rx h1'.1,?_⟩;refine s2 F H1 C1 σ τ _ _ χ R1 (S.tx t1) h1'.2 λxs vs H2 C2 R2 t2 rs h2'=>?_;exact h2 F H2 C2 x v xs vs Q Q' R2 (rx.tx t2) rs h2' (QE.at q (t1.trans t2))
def vT {o:WW}{wo:WE}{name:Str}{Tn id:String}{ty:T->Hw->Prop}{r:T->List T->Hw->WK->Prop}(pa:PlainAttrs Tn)(slot:Slot Tn name id)(hty:typeOf (.builtin id)=pure (.type "method_descriptor"))(hT:fR X Tn ty)(hm:iB X id r)(ho:Jc X o wo)
  (hbase:attributeBase o name X.env (eval o X.env)=eval o X.env:=by rfl) (hline:(apos.endLine==cpos.line)=true:=by rfl):
  Jc X (.Call (.Attribute o name apos) [] [] cpos) (iP ty r wo Zw):=by
 obtain⟨rr,h1,h2⟩:=hm;obtain⟨to,p1,s1⟩:=ho;refine⟨_,pR pa slot hty h1 p1 hbase hline,λF H C σ τ Q Q' χ R S h q=>?_⟩;refine s1 F H C σ τ _ _ χ R S h λx v H1 C1 R1 t1 rx h1'=>⟨hT F H1 C1 x v R1 rx h1'.1,?_⟩;exact h2 F H1 C1 x v [] [] Q Q' R1 rx Yu h1'.2 (QE.at q t1)
def Zq {op:CmpOp}(ho:Kw X (compareOp op) w)(ha:Jc X a wa)(hb:Jc X b wb)(hm:behindInMarks op b=false:=by exact wS _):uJ X (.Compare a [op] [b] pos) (jY (Xm w wa wb)):=by
 obtain⟨r,h1,h2⟩:=ho;obtain⟨ta,p1,s1⟩:=ha;obtain⟨tb,p2,s2⟩:=hb;exact⟨_,tL h1 p1 p2 hm,g6 (t0 s1 s2 h2)⟩
def vH (ha:Jc X a wa)(he:∀whole,isTrue a X.env whole=(do let v <-whole;standAt a.pos;holding [v] (truthy v)):=by intro _;rfl):uJ X a (qN wa):=by
 obtain⟨ta,p1,s1⟩:=ha;exact⟨_,wf p1 he,mZ s1⟩
def yr (ha:uJ X a wt):nX X (.BoolOp .And [a] pos) wt:=by
 obtain⟨t,p,s⟩:=ha;exact⟨_,tH p,s⟩
def Ef (ha:uJ X a wt):nX X (.BoolOp .Or [a] pos) wt:=by
 obtain⟨t,p,s⟩:=ha;exact⟨_,pq p,s⟩
def vG (ha:uJ X a wt)(hb:nX X (.BoolOp .And (b::Yp) pos) wt'):nX X (.BoolOp .And (a::b::Yp) pos) (iK wt wt'):=by
 obtain⟨t,p,s⟩:=ha;obtain⟨t',p',s'⟩:=hb;exact⟨_,px p p',g7 s s'⟩
def Hn (ha:uJ X a wt)(hb:nX X (.BoolOp .Or (b::Yp) pos) wt'):nX X (.BoolOp .Or (a::b::Yp) pos) (x8 wt wt'):=by
 obtain⟨t,p,s⟩:=ha;obtain⟨t',p',s'⟩:=hb;exact⟨_,lN p p',lf s s'⟩
def j0 (h:nX X a wt):uJ X a wt:=by
 obtain⟨t,p,s⟩:=h;exact⟨_,p.pt,s⟩
end
structure rW (K:W.Frag)(F H:Hp)(D:Pi)(D':We):Prop where
 nx:∀σ τ H' C',Rl K F H' C'->Tx H H'->J7 K H' σ τ->D'.nx τ C'->D.nx σ H'
 rt:∀x v H' C',Rl K F H' C'->Tx H H'->Yx K H' x v->D'.rt v C'->D.rt x H'
 bk:∀σ τ H' C',Rl K F H' C'->Tx H H'->J7 K H' σ τ->D'.bk τ C'->D.bk σ H'
 ct:∀σ τ H' C',Rl K F H' C'->Tx H H'->J7 K H' σ τ->D'.ct τ C'->D.ct σ H'
def rW.at {K:WY}{F H H1:Hp}{D:Pi}{D':We}(h:rW K F H D D')(t:Tx H H1):rW K F H1 D D':=
 ⟨λσ τ H' C' R t'=>h.nx σ τ H' C' R (t.trans t'),λx v H' C' R t'=>h.rt x v H' C' R (t.trans t'),λσ τ H' C' R t'=>h.bk σ τ H' C' R (t.trans t'),λσ τ H' C' R t'=>h.ct σ τ H' C' R (t.trans t')⟩
def Ik (K:WY)(t:TS)(w:WS):Prop:=∀(F H:Hp) (C:Hw) (σ:L2.St) (τ:Sw) (D:Pi) (D':We),Rl K F H C->J7 K H σ τ->w D' τ C->rW K F H D D'->t D σ H
def Br (K:WY)(t:TG)(w:WG):Prop:=∀(F H:Hp) (C:Hw) (σ:L2.St) (τ:Sw) (x:V) (v:T) (Q:L2.St->Hp->Prop) (Q':Sw->Hw->Prop) (χ:WX),Rl K F H C->J7 K H σ τ->Yx K H x v->w v τ C Q' χ->
 (∀σ' τ' H' C',Rl K F H' C'->Tx H H'->J7 K H' σ' τ'->Q' τ' C'->Q σ' H')->t x σ H Q
def Bp (K:WY)(t:B0)(w:uy):Prop:=∀(F H:Hp) (C:Hw) (σ:L2.St) (τ:Sw) (x:List V) (v:List T) (Q:L2.St->Hp->Prop) (Q':Sw->Hw->Prop) (χ:WX),Rl K F H C->J7 K H σ τ->Reps K H x v->w v τ C Q' χ->
 (∀σ' τ' H' C',Rl K F H' C'->Tx H H'->J7 K H' σ' τ'->Q' τ' C'->Q σ' H')->t x σ H Q
def Ny (X:Cx)(st:WV)(w:WS):Prop:=∃t,PS X st t/\Ik X.K t w
def Bs (X:Cx)(st:List WV)(w:WS):Prop:=∃t,Bu X st t/\Ik X.K t w
def nY (X:Cx)(e:WW)(w:WG):Prop:=∃t,PG X e t/\Br X.K t w
def rP (X:Cx)(e:List WW)(w:uy):Prop:=∃t,i7 X e t/\Bp X.K t w
section
variable {X:Cx}{st:WV}{Yp:List WV}{w u:WS}{e tg:WW}{we:WE}{wt:WT}{g:WG}{gs:uy}{pos:Pos}
def Yv {K:WY}{i:Nat}:Br K (Xb i) (Ig i):=λF H C σ τ x v Q Q' χ R S r h q=>q _ _ H C R (Tx.refl H) (S.set r) h
def Gr {K:WY}:Bp K zh Hh:=λF H C σ τ x v Q Q' χ R S r h q=>by
 obtain⟨rfl,h⟩:=h;exact⟨J9 r,q _ _ H C R (Tx.refl H) S h⟩
def Ut {K:WY}{t:TG}{u:B0}{g:WG}{gs:uy}(a:Br K t g)(b:Bp K u gs):Bp K (Rv t u) (Rt g gs):=λF H C σ τ x v Q Q' χ R S r h q=>by
 obtain⟨v1,vs,rfl,h⟩:=h;obtain⟨y,ys,rfl,r1,r2⟩:=Yk r;refine⟨y,ys,FV,a F H C σ τ y v1 _ _ χ R S r1 h λσ' τ' H' C' R' t' S' h'=>?_⟩;exact b F H' C' σ' τ' ys vs Q Q' χ R' S' (r2.tx t') h' λσ2 τ2 H2 C2 R2 t2=>q σ2 τ2 H2 C2 R2 (t'.trans t2)
def Gq {K:WY}{u:B0}{gs:uy}{n:Nat}(b:Bp K u gs)(hn:∀vs τ C Q χ,gs vs τ C Q χ->vs.length=n):Br K (zg K n u) (kK gs):=λF H C σ τ x v Q Q' χ R S r h q=>by
 obtain⟨vs,rfl,h⟩:=h;obtain⟨a,ys,rfl,hq,rs⟩:=Z8 r;exact⟨a,ys,FV,hq,by rw[rs.length];exact hn _ _ _ _ _ h,b F H C σ τ ys vs Q Q' χ R S rs h q⟩
def yC (n:Nat)(gs:uy):Prop:=∀vs τ C Q χ,gs vs τ C Q χ->vs.length=n
def Ru:yC 0 Hh:=λvs τ C Q χ h=>by rw[h.1];rfl
def Yq {n i:Nat}{gs:uy}(b:yC n gs):yC (n+1) (Rt (Ig i) gs):=λvs τ C Q χ h=>by
 obtain⟨v,r,rfl,h⟩:=h;rw[YF,b r _ _ _ _ h]
def Jj {i:Nat}{x:Str}(hN:X.N.Nodup)(hi:X.N[i]?=some x:=by rfl)(hx:uK X.env.scope x:=by first | exact Or.inl FV | exact Or.inr FV)(hf:X.fn x=true\/X.env.scope.names.lookup x=some .local:=by first | exact .inl FV | exact .inr FV | assumption):nY X (.Name x pos) (Ig i):=⟨_,Y7 hN hi hx hf,Yv⟩
def Kq:rP X [] Hh:=⟨_,Mn,Gr⟩
def Wg {es:List WW}(a:nY X e g)(b:rP X es gs)(hs:(assignEach (e::es) X.env).map (·.2)=assign e X.env::(assignEach es X.env).map (·.2):=by rfl):rP X (e::es) (Rt g gs):=by
 obtain⟨t,p,s⟩:=a;obtain⟨t',p',s'⟩:=b;exact⟨_,W5 p p' hs,Ut s s'⟩
def Kp {es:List WW}{k n:Nat}(hc:X.calm=true)(b:rP X es gs)(hl:yC n gs)(hn:(assignEach es X.env).length=n:=by rfl)(hst:(assignEach es X.env).findIdx? (·.1)=none:=by rfl):nY X (.Tuple es k pos) (kK gs):=by
 obtain⟨t,p,s⟩:=b;exact⟨_,G4 hc p hn hst,Gq s hl⟩
def zr {o i:WW}{wo wi:WE}(ho:Jc X o wo)(hi:Jc X i wi)
  (ha:∀v,assign (.Subscript o i pos) X.env v=(do
   let ov <-holding [v] (eval o X.env)
   let iv <-holding [v,ov] (eval i X.env)
   standAt pos
   holding [v,ov,iv] (setItem ov iv v)
   release [v,ov,iv] []):=by intro _;rfl):nY X (.Subscript o i pos) (df wo wi):=by
 obtain⟨t,p,s⟩:=ho;obtain⟨t',p',s'⟩:=hi;refine⟨_,w8 p p' xK ha,λF H C σ τ x v Q Q' χ R S r h q=>?_⟩;refine s F H C σ τ _ _ χ R S h λy vy H1 C1 R1 t1 ry h1=>?_;refine s' F H1 C1 σ τ _ _ χ R1 (S.tx t1) h1 λz vz H2 C2 R2 t2 rz h2=>?_;obtain⟨a,xs,k,j,rfl,rfl,hx,hj,h2⟩:=h2
 cases Zu ry
 cases Z4 rz
 obtain⟨ys,hy,rs⟩:=R2.lst hx;have t12:=t1.trans t2;obtain⟨R',t'⟩:=R2.putL hx (rs.set (r.tx t12) j);exact⟨a,ys,k,j,FV,FV,hy,by rw[rs.length];exact hj,q _ _ _ _ R' (t12.trans t') (S.tx (t12.trans t')) h2⟩
def Zz:Bs X [] Qt:=⟨_,tO,λF H C σ τ D D' R S h d=>d.nx σ τ H C R (Tx.refl H) S h⟩
def Eg:Ny X (.Continue pos) qh:=⟨_,D0,λF H C σ τ D D' R S h d=>d.ct σ τ H C R (Tx.refl H) S h⟩
def vJ:Ny X st Ag:=⟨_,wx,λF H C σ τ D D' R S h d=>h⟩
def Zi (a:Ny X st w):Bs X [st] w:=by
 obtain⟨t,p,s⟩:=a;exact⟨_,tN p,s⟩
def Zd (a:Ny X st w)(b:Bs X Yp u):Bs X (st::Yp) (Qn w u):=by
 obtain⟨t,p,s⟩:=a;obtain⟨t',p',s'⟩:=b;refine⟨_,wj p p',λF H C σ τ D D' R S h d=>?_⟩;exact s F H C σ τ _ _ R S h ⟨λσ' τ' H' C' R' t' S' h'=>s' F H' C' σ' τ' D D' R' S' h' (d.at t'),d.rt,d.bk,d.ct⟩
def Yt (a:Jc X e we)(hs:swapsWith e none pos.line X.env=pure false:=by rfl):Ny X (.Expr e pos) (Iy we):=by
 obtain⟨t,p,s⟩:=a;refine⟨_,tP p hs,λF H C σ τ D D' R S h d=>?_⟩;exact s F H C σ τ _ _ D'.xc R S h λx v H1 C1 R1 t1 rx h1=>d.nx σ τ H1 C1 R1 t1 (S.tx t1) h1
def Zn (a:Jc X e we):Ny X (.Return (some e) pos) (Dv we):=by
 obtain⟨t,p,s⟩:=a;refine⟨_,pC p,λF H C σ τ D D' R S h d=>?_⟩;exact s F H C σ τ _ _ D'.xc R S h d.rt
def Yh {c:WW}{a b:List WV}{wa wb:WS}(hc:uJ X c wt)(ha:Bs X a wa)(hb:Bs X b wb):Ny X (.If c a b pos) (qg wt wa wb):=by
 obtain⟨t,p,s⟩:=hc;obtain⟨t1,p1,s1⟩:=ha;obtain⟨t2,p2,s2⟩:=hb;refine⟨_,lO p p1 p2,λF H C σ τ D D' R S h d=>?_⟩;refine s F H C σ τ _ _ D'.xc R S h λk H1 C1 R1 t1 h1=>?_
 cases k with
 | true=>exact s1 F H1 C1 σ τ D D' R1 (S.tx t1) h1 (d.at t1)
 | false=>exact s2 F H1 C1 σ τ D D' R1 (S.tx t1) h1 (d.at t1)
def Tf (he:Jc X e we)(hg:nY X tg g)(hs:swapsWithSole [tg] e pos.line X.env=pure false:=by rfl)(hw:swappedStores [tg] e X.env=pure none:=by rfl)
  (h1:(assignEach [tg] X.env).map (·.2)=[assign tg X.env]:=by rfl):Ny X (.Assign [tg] e pos) (O8 we g):=by
 obtain⟨t,p,s⟩:=he;obtain⟨t',p',s'⟩:=hg;refine⟨_,pF p p' hs hw h1,λF H C σ τ D D' R S h d=>?_⟩;refine s F H C σ τ _ _ D'.xc R S h λx v H1 C1 R1 t1 rx h1=>?_;exact s' F H1 C1 σ τ x v _ _ D'.xc R1 (S.tx t1) rx h1 λσ' τ' H' C' R' t'=>d.nx σ' τ' H' C' R' (t1.trans t')
def Zo {i:Nat}{x:Str}{pos':Pos}(hN:X.N.Nodup)(he:Jc X e we)(hi:X.N[i]?=some x:=by rfl)(hx:uK X.env.scope x:=by first | exact Or.inl FV | exact Or.inr FV)(hs:swapsWith e (some (.Name x pos')) pos.line X.env=pure false:=by rfl)
  (hf:X.fn x=true\/X.env.scope.names.lookup x=some .local:=by first | exact .inl FV | exact .inr FV | assumption):Ny X (.Assign [.Name x pos'] e pos) (O8 we (Ig i)):=by
 obtain⟨t,p,s⟩:=he;refine⟨_,pB hN hi hx p hs hf,λF H C σ τ D D' R S h d=>?_⟩;refine s F H C σ τ _ _ D'.xc R S h λx v H1 C1 R1 t1 rx h1=>?_;exact Yv F H1 C1 σ τ x v _ _ D'.xc R1 (S.tx t1) rx h1 λσ' τ' H' C' R' t'=>d.nx σ' τ' H' C' R' (t1.trans t')
end
def N3 (K:WY)(F H0:Hp)(J:It)(xs:List T)(ok:Hw->Prop):Prop:=∀(i:Nat) (H:Hp) (C:Hw),Rl K F H C->Tx H0 H->ok C->
 (i<xs.length->J.go i H/\∀x H',J.yld i H x H'->∃v,xs[i]?=some v/\Rl K F H' C/\Tx H H'/\Yx K H' x v)/\(i=xs.length->J.stop i H)
def nW (K:WY)(wi:TI)(w:WI):Prop:=∀(F H:Hp) (C:Hw) (σ:L2.St) (τ:Sw) (R:It->Hp->Prop) (R':List T->(Hw->Prop)->Hw->Prop) (χ:WX),Rl K F H C->J7 K H σ τ->w τ C R' χ->
 (∀J H' xs ok C',Rl K F H' C'->Tx H H'->(∀F',N3 K F' H' J xs ok)->R' xs ok C'->R J H')->wi σ H R
def q8 (X:Cx)(tg e:WW)(w:WI):Prop:=∃t,PI X tg e t/\nW X.K t w
section
variable {X:Cx}{tg e a b:WW}{we:WE}{wA:WA}{pos p:Pos}
def sG {K:WY}{F H0:Hp}{l:WP}{xs:List T}:N3 K F H0 (iY K l) xs (λC=>C l=some (.lst xs)):=λi H C R t ok=>by
 obtain⟨ys,hy,r⟩:=R.lst ok;refine⟨λhi=>?_,λhi=>⟨ys,Wl.of hy,by rw[r.length];omega⟩⟩;have ev:xs[i]?=some xs[i]:=by simp[hi]
 obtain⟨y,ey,ry⟩:=r.get ev;refine⟨⟨ys,y,Wl.of hy,ey⟩,λx H' h=>?_⟩;obtain⟨rfl,h⟩:=h;have e2:=h ys (Wl.of hy);rw[ey] at e2;cases e2;exact⟨_,ev,R,Tx.refl _,ry⟩
def kD {K:WY}{F H0:Hp}{l:WP}{ys:List V}{xs:List T}(h0:u0 K H0 l ys)(r0:Reps K H0 ys xs):N3 K F H0 (iY K l) xs (λ_=>True):=λi H C R t ok=>by
 have hy:=(t.sqc h0).sq;have r:=r0.tx t;refine⟨λhi=>?_,λhi=>⟨ys,hy,by rw[r.length];omega⟩⟩;have ev:xs[i]?=some xs[i]:=by simp[hi]
 obtain⟨y,ey,ry⟩:=r.get ev;refine⟨⟨ys,y,hy,ey⟩,λx H' h=>?_⟩;obtain⟨rfl,h⟩:=h;have e2:=h ys hy;rw[ey] at e2;cases e2;exact⟨_,ev,R,Tx.refl _,ry⟩
def oK {K:WY}{F H0:Hp}{l:WP}{ys:List V}{xs:List T}(h0:Vx K H0 l ys)(r0:Reps K H0 ys xs):N3 K F H0 (eA K l) xs (λ_=>True):=λi H C R t ok=>by
 have hy:=t.sqt h0;have r:=r0.tx t;refine⟨λhi=>?_,λhi=>⟨ys,hy,by rw[r.length];omega⟩⟩;have ev:xs[i]?=some xs[i]:=by simp[hi]
 obtain⟨y,ey,ry⟩:=r.get ev;refine⟨⟨ys,y,hy,ey⟩,λx H' h=>?_⟩;obtain⟨rfl,h⟩:=h;have e2:=h ys hy;rw[ey] at e2;cases e2;exact⟨_,ev,R,Tx.refl _,ry⟩
def oM {K:WY}{F H0:Hp}{z:Str}:N3 K F H0 (iX z) (z.cps.toList.map λc=>T.str ⟨#[c]⟩) (λ_=>True):=λi H C R t ok=>by
 refine⟨λhi=>⟨by show i<z.cps.size;simpa using hi,λx H' h=>?_⟩,λhi=>by show i=z.cps.size;simpa using hi⟩;obtain⟨rfl,c,hc,rfl⟩:=h;refine⟨.str ⟨#[c]⟩,?_,R,Tx.refl _,Wd⟩;rw[XM,DR,hc];rfl
def vf {K:WY}{F H0:Hp}{lo:Int}{n:Nat}:N3 K F H0 (iC lo n) (rng lo n) (λ_=>True):=λi H C R t ok=>by
 have hl:(rng lo n).length=n:=by unfold rng;simp
 refine⟨λhi=>⟨by rw[hl] at hi;exact hi,λx H' h=>?_⟩,λhi=>by show n<=i;omega⟩;obtain⟨rfl,rfl⟩:=h;refine⟨.int (lo+i),?_,R,Tx.refl _,Y6⟩;unfold rng;rw[hl] at hi;rw[XM,DX hi];rfl
def xG {WZ:List (WP×Obj)}{σ:L2.St}{H1:Hp}{s1:WR}{R:It->Hp->Prop}{z:Str}{v:WQ}(I1:Zl X WZ σ H1 s1)(r1:Z3 (.str z) v)(q:R (iX z) H1):wpAny (model X.prog X.w) X.A (pyIter v) (i6 X WZ σ tg R) X.xe s1:=by
 obtain⟨t,rfl⟩:=r1;have fin:∀b∈[s1.heap.objs.size],Ou X WZ H1 b:=λb hb=>by
  have e:b=s1.heap.objs.size:=by simpa using hb
  subst e;exact I1.fpOk (XE _) I1.fresh
 cases ha:z.cps.all (·<128)
 ·refine wpAny_pyIter_wide ha ⟨s1.heap.objs.size,[s1.heap.objs.size],_,_,H1,FV,I1.kept (t':=s1.toks) λb o e=>XC _ e,M9 (ty:="str_iterator") (by decide) (λA hA=>Walks.strWide hA _ z t) λ_ _ _ _ _ st h=>wpAny_pyIter_striter_wide st h,⟨_,XF _ FV,FV,FV⟩,fin,q⟩
 ·refine wpAny_pyIter_ascii ha ⟨s1.heap.objs.size,[s1.heap.objs.size],_,_,H1,FV,I1.kept (t':=s1.toks) λb o e=>XC _ e,M9 (ty:="str_ascii_iterator") (by decide) (λA hA=>Walks.strAscii hA _ z t) λ_ _ _ _ _ st h=>wpAny_pyIter_striter_ascii st h,⟨_,XF _ FV,FV,FV⟩,fin,q⟩
def ff (K:WY)(tl:TE):TI:=λσ H R=>tl σ H λx H1=>(∃a,x=.ref a/\(∃xs,Wl K H1 a xs)/\R (iY K a) H1)\/(∃a,x=.ref a/\(∃xs,Vx K H1 a xs)/\R (eA K a) H1)\/∃z,x=.str z/\R (iX z) H1
def pH {tl:TE}(hl:PE X e tl):PI X tg e (ff X.K tl):=by
 intro WZ s σ H R I h;refine Ja (hl WZ s σ H _ I h) λv s1 ⟨x,H1,I1,r1,q1⟩=>?_
 rcases q1 with⟨a,rfl,⟨xs,hq⟩,q⟩ | ⟨a,rfl,⟨xs,hq⟩,q⟩ | ⟨z,rfl,q⟩
 ·cases r1
  obtain⟨its,rv,p,hz⟩:=I1.list hq;refine wpAny_pyIter_list p.isList ?_;refine⟨s1.heap.objs.size,[s1.heap.objs.size],_,_,H1,FV,I1.kept (t':=s1.toks) λb o e=>XC _ e,yH a _,⟨_,XF _ FV,FV,FV⟩,λb hb=>?_,q⟩;have e:b=s1.heap.objs.size:=by simpa using hb
  subst e;exact I1.fpOk (XE _) (I1.hok.fresh (XE _))
 ·cases r1
  obtain⟨its,rv,p,hz⟩:=I1.tuple hq;refine wpAny_pyIter_tuple (show s1.heap.IsTuple a its.toArray from p) ?_;refine⟨s1.heap.objs.size,[s1.heap.objs.size],_,_,H1,FV,I1.kept (t':=s1.toks) λb o e=>XC _ e,B9 a _,⟨_,XF _ FV,FV,FV⟩,λb hb=>?_,q⟩;have e:b=s1.heap.objs.size:=by simpa using hb
  subst e;exact I1.fpOk (XE _) (I1.hok.fresh (XE _))
 ·exact xG I1 r1 q
def X2 (h:Jc X e we):q8 X tg e (sJ we):=by
 obtain⟨t,p,s⟩:=h;refine⟨_,pH p,λF H C σ τ R R' χ Rr S h q=>?_⟩;refine s F H C σ τ _ _ χ Rr S h λx v H1 C1 R1 t1 rx h1=>?_
 cases v with
 | tup xs=>
  obtain⟨a,ys,rfl,hq,r⟩:=Z8 rx;exact .inr (.inl ⟨a,FV,⟨ys,hq⟩,q _ H1 xs _ C1 R1 t1 (λ_=>oK hq r) h1⟩)
 | cl xs=>
  obtain⟨a,ys,rfl,hq,r⟩:=No rx;exact .inl ⟨a,FV,⟨ys,hq.sq⟩,q _ H1 xs _ C1 R1 t1 (λ_=>kD hq r) h1⟩
 | str z=>cases Ju rx;exact .inr (.inr ⟨z,FV,q _ H1 _ _ C1 R1 t1 (λ_=>oM) h1⟩)
 | ref a=>
  cases Zu rx
  obtain⟨xs,hx,h1⟩:=h1;obtain⟨ys,hy,r⟩:=R1.lst hx;exact .inl ⟨a,FV,⟨ys,Wl.of hy⟩,q _ H1 xs _ C1 R1 t1 (λ_=>sG) h1⟩
 | _=>exact False.elim h1
def qu (hg:Gl X "range")(hm:X.mg "range"=none)(ha:M3 X [a] wA)(hs:starEach [a] X.env=[(false,eval a X.env)]:=by rfl):q8 X tg (.Call (.Name "range" p) [a] [] pos) (fc wA):=by
 obtain⟨t,p1,s⟩:=ha;refine⟨_,yX hg hm p1 hs,λF H C σ τ R R' χ Rr S h q=>?_⟩;refine s F H C σ τ _ _ χ Rr S h λxs vs H1 C1 R1 t1 rs h1=>?_;obtain⟨j,rfl,h2,h3,h1⟩:=h1;obtain⟨x,rfl,rx⟩:=Wu rs
 cases Z4 rx
 exact⟨j,FV,h2,h3,q _ H1 _ _ C1 R1 t1 (λ_=>vf) h1⟩
def kU (hg:Gl X "range")(hm:X.mg "range"=none)(ha:M3 X [a,b] wA)(hs:starEach [a,b] X.env=[(false,eval a X.env),(false,eval b X.env)]:=by rfl)(hs2:starEach [b] X.env=[(false,eval b X.env)]:=by rfl):q8 X tg (.Call (.Name "range" p) [a,b] [] pos) (gZ wA):=by
 obtain⟨t,p1,s⟩:=ha;refine⟨_,yW hg hm p1 hs hs2,λF H C σ τ R R' χ Rr S h q=>?_⟩;refine s F H C σ τ _ _ χ Rr S h λxs vs H1 C1 R1 t1 rs h1=>?_;obtain⟨i,j,rfl,h2,h1⟩:=h1;obtain⟨x,y,rfl,rx,ry⟩:=wI rs
 cases Z4 rx;cases Z4 ry
 exact⟨i,j,FV,h2,q _ H1 _ _ C1 R1 t1 (λ_=>vf) h1⟩
end
def tq {K:WY}{wi:TI}{g:TG}{tb:TS}{i:WI}{g':WG}{b:WS}(hi:nW K wi i)(hg:Br K g g')(hb:Ik K tb b):Ik K (mP wi g tb) (xU i g' b):=λF H C σ τ D D' R S h d=>by
 refine hi F H C σ τ _ _ D'.xc R S h λJ H1 xs ok C1 R1 t1 it h1=>?_;have it1:=it F;refine⟨λi m σ H=>m=xs.length-i/\i<=xs.length/\∃τ C,Rl K F H C/\Tx H1 H/\J7 K H σ τ/\zj g' b ok D' (xs.drop i) τ C,⟨xs.length,by simp,Nat.zero_le _,τ,C1,R1,Tx.refl _,S.tx t1,h1⟩,?_⟩;rintro i m σ2 H2 ⟨rfl,hle,τ2,C2,R2,t2,S2,h2⟩;by_cases hlt:i<xs.length
 ·right;have ed:xs.drop i=xs[i]::xs.drop (i+1):=CZ hlt;rw[ed] at h2;obtain⟨hok,h2⟩:=h2;obtain⟨hgo,hy⟩:=(it1 i H2 C2 R2 t2 hok).1 hlt;refine⟨hgo,λσ' H'=>∃τ' C',Rl K F H' C'/\Tx H1 H'/\J7 K H' σ' τ'/\zj g' b ok D' (xs.drop (i+1)) τ' C',λσ' H' q=>⟨xs.length-(i+1),by omega,FV,hlt,q⟩,λx H' hx=>?_⟩;obtain⟨v,ev,R3,t3,rv⟩:=hy x H' hx;have:v=xs[i]:=by
   have e:xs[i]?=some xs[i]:=by simp[hlt]
   rw[e] at ev;exact(YH ev).symm
  subst this;refine hg F H' C2 σ2 τ2 x _ _ _ D'.xc R3 (S2.tx t3) rv h2 λσ4 τ4 H4 C4 R4 t4 S4 h4=>?_;have tt:Tx H1 H4:=(t2.trans t3).trans t4;exact hb F H4 C4 σ4 τ4 _ _ R4 S4 h4 ⟨λσ5 τ5 H5 C5 R5 t5 S5 h5=>⟨τ5,C5,R5,tt.trans t5,S5,h5⟩,λx v H5 C5 R5 t5=>d.rt x v H5 C5 R5 ((t1.trans tt).trans t5),λσ5 τ5 H5 C5 R5 t5 S5 h5=>d.nx σ5 τ5 H5 C5 R5 ((t1.trans tt).trans t5) S5 h5,
   λσ5 τ5 H5 C5 R5 t5 S5 h5=>⟨τ5,C5,R5,tt.trans t5,S5,h5⟩⟩
 ·left;have e:i=xs.length:=by omega
  subst e;rw[EV] at h2;obtain⟨hok,h2⟩:=h2;exact⟨(it1 _ H2 C2 R2 t2 hok).2 FV,d.nx σ2 τ2 H2 C2 R2 (t1.trans t2) S2 h2⟩
def Pb {X:Cx}{tg iter:WW}{body:List WV}{i:WI}{g:WG}{b:WS}{pos:Pos}(hp:PassesOwn (model X.prog X.w) X.A X.env X.xe)(hc:X.calm=true)(hi:q8 X tg iter i)(hg:nY X tg g)(hb:Bs X body b)
  (hs:∀x,foldedSetIterable iter X.env x=pure x:=by intro _;rfl):Ny X (.For tg iter body [] pos) (xU i g b):=by
 obtain⟨t,p,s⟩:=hi;obtain⟨t',p',s'⟩:=hg;obtain⟨t2,p2,s2⟩:=hb;exact⟨_,pD hp hc p p' p2 hs,tq s s' s2⟩
def iJ (K:WY)(we:WE):TE:=λσ H Q=>∃(F:Hp) (C:Hw) (τ:Sw) (Q':WK) (χ:WX),Rl K F H C/\J7 K H σ τ/\we τ C Q' χ/\QE K F H Q Q'
def yI (K:WY)(wt:WT):TT:=λσ H Q=>∃(F:Hp) (C:Hw) (τ:Sw) (Q':Bool->Hw->Prop) (χ:WX),Rl K F H C/\J7 K H σ τ/\wt τ C Q' χ/\QT K F H Q Q'
def Jc.pe {X:Cx}{e:WW}{we:WE}(h:Jc X e we):PE X e (iJ X.K we):=by
 obtain⟨t,p,s⟩:=h;intro WZ st σ H Q I hq;obtain⟨F,C,τ,Q',χ,R,S,hw,q⟩:=hq;exact p WZ st σ H Q I (s F H C σ τ Q Q' χ R S hw q)
def u5 (X:Cx)(ifs:List WW)(w:WT):Prop:=∃t,jI X ifs t/\Nj X.K t w
def Xg {X:Cx}:u5 X [] xw:=⟨_,tU,λF H C σ τ Q Q' χ R S h q=>q true H C R (Tx.refl H) h⟩
def u5.pif {X:Cx}{ifs:List WW}{w:WT}(h:u5 X ifs w):jI X ifs (yI X.K w):=by
 obtain⟨t,p,s⟩:=h;intro WZ st σ H Q I hq;obtain⟨F,C,τ,Q',χ,R,S,hw,q⟩:=hq;exact p WZ st σ H Q I (s F H C σ τ Q Q' χ R S hw q)
def J7.cap {K:WY}{H:Hp}{σ:L2.St}{τ:Sw}(h:J7 K H σ τ)(cap:List (Option Nat)):J7 K H (Pe cap σ) (Kt cap τ):=by
 refine⟨by unfold Pe Kt;rw[XI,XI],λi v e=>?_⟩;unfold Kt at e;unfold Pe;rw[XM] at e |-
 cases ho:cap[i]? with
 | none=>rw[ho] at e;cases e
 | some o=>
  rw[ho] at e
  cases o with
  | none=>simp at e
  | some j=>
   have e':(τ[j]?).join=some v:=by simpa using e
   have e2:τ[j]?=some (some v):=by
    cases hj:τ[j]? with
    | none=>rw[hj] at e';cases e'
    | some z=>rw[hj] at e';rw[show z=some v from e']
   obtain⟨x,hx,r⟩:=h.2 j v e2;exact⟨x,by simp[hx],r⟩
def vv (F:Hp)(p:WP)(ys:List V):Hp:=λb=>if b=p then some (.lst ys) else F b
def Oi {F:Hp}{p:WP}{ys:List V}:vv F p ys p=some (.lst ys):=by unfold vv;rw[XY rfl]
def F9 {F:Hp}{p b:WP}{ys:List V}(h:b≠p):vv F p ys b=F b:=by unfold vv;rw[XX h]
def Do {K:WY}{cap:List (Option Nat)}{wi:TI}{g:TG}{i:WI}{wg:WG}{wc:WT}{we:WE}(hi:nW K wi i)(hg:Br K g wg){F H:Hp}{C:Hw}{σ:L2.St}{τ:Sw}{Q:WP->Hp->Prop}{Q':WK}{χ:WX}
  (R:Rl K F H C) (S:J7 K H σ τ) (h:Hl cap i wg wc we τ C Q' χ) (q:∀p H' C',Rl K F H' C'->Tx H H'->Q' (.ref p) C'->Q p H'):Gm cap wi g (yI K wc) (iJ K we) σ H Q:=by
 refine hi F H C σ τ _ _ χ R S h λJ H1 xs ok C1 R1 t1 it h1=>?_;intro p hp;have hn:∀a o,F a=some o->a≠p:=λa o e=>Y4 (R1.frm a o e).1 hp;refine⟨λi m H2=>m=xs.length-i/\i<=xs.length/\∃C2 ys acc,Rl K (vv F p ys) H2 C2/\Tx H1 H2/\Reps K H2 ys acc/\Nx wg wc we ok (Kt cap τ) (λvs C2=>∀p,C2 p=none->Q' (.ref p) (up C2 p (.lst vs))) χ (xs.drop i) acc C2,
  ⟨xs.length,by simp,Nat.zero_le _,C1,[],[],?_,Tx.new hp,Yu,h1⟩,?_⟩
 ·refine⟨(R1.hid hp).obj,λa o e=>?_⟩;by_cases ea:a=p
  ·subst ea;rw[Oi] at e;cases e;exact⟨Z7,R1.free hp⟩
  ·rw[F9 ea] at e;exact(R1.hid hp).frm a o e
 rintro i m H2 ⟨rfl,hle,C2,ys,acc,R2,t2,ra,h2⟩;by_cases hlt:i<xs.length
 ·right;have ed:xs.drop i=xs[i]::xs.drop (i+1):=CZ hlt;rw[ed] at h2;obtain⟨hok,h2⟩:=h2;obtain⟨hgo,hy⟩:=(it (vv F p ys) i H2 C2 R2 t2 hok).1 hlt;refine⟨hgo,λH'=>∃C2 ys acc,Rl K (vv F p ys) H' C2/\Tx H1 H'/\Reps K H' ys acc/\Nx wg wc we ok (Kt cap τ) (λvs C2=>∀p,C2 p=none->Q' (.ref p) (up C2 p (.lst vs))) χ (xs.drop (i+1)) acc C2,
   λH' z=>⟨xs.length-(i+1),by omega,FV,hlt,z⟩,λx H' hx=>?_⟩
  obtain⟨v,ev,R3,t3,rv⟩:=hy x H' hx;have:v=xs[i]:=by
   have e:xs[i]?=some xs[i]:=by simp[hlt]
   rw[e] at ev;exact(YH ev).symm
  subst this;have S3:J7 K H' (Pe cap σ) (Kt cap τ):=(S.tx ((t1.trans t2).trans t3)).cap cap;refine hg (vv F p ys) H' C2 (Pe cap σ) (Kt cap τ) x _ _ _ χ R3 S3 rv h2 λσ4 τ4 H4 C4 R4 t4 S4 h4=>?_;refine⟨vv F p ys,C4,τ4,_,χ,R4,S4,h4,λb H5 C5 R5 t5 h5=>?_⟩;have t15:Tx H2 H5:=(t3.trans t4).trans t5
  cases b with
  | true=>
   refine⟨vv F p ys,C5,τ4,_,χ,R5,S4.tx t5,h5,λy vy H6 C6 R6 t6 ry h6=>?_⟩;obtain⟨e6,n6⟩:=R6.frm p _ Oi;have tp:Tx H6 (Yo H6 p (.lst (ys++[y]))):=Tx.put e6 (λz=>z);refine⟨ys,e6,by rw[ra.length];exact h6.1,C6,ys++[y],acc++[vy],⟨λa o e=>?_,λa o e=>?_⟩,(t2.trans (t15.trans t6)).trans tp,((ra.tx (t15.trans t6)).snoc ry).tx tp,h6.2⟩
   ·have ea:a≠p:=λz=>by subst z;rw[n6] at e;cases e
    exact(R6.obj a o e).stay tp (Z1 ea)
   ·by_cases ea:a=p
    ·subst ea;rw[Oi] at e;cases e;exact⟨Z7,n6⟩
    ·rw[F9 ea] at e;rw[Z1 ea];exact R6.frm a o (by rw[F9 ea];exact e)
  | false=>exact⟨C5,ys,acc,R5,t2.trans t15,ra.tx t15,h5⟩
 ·left;have e:i=xs.length:=by omega
  subst e;rw[EV] at h2;obtain⟨hok,h2⟩:=h2;refine⟨(it (vv F p ys) _ H2 C2 R2 t2 hok).2 FV,?_⟩;obtain⟨e6,n6⟩:=R2.frm p _ Oi;refine q p H2 (up C2 p (.lst acc)) ⟨λa o e=>?_,λa o e=>?_⟩ (t1.trans t2) (h2 p n6)
  ·by_cases ea:a=p
   ·subst ea;rw[Ze] at e;cases e;exact⟨ys,e6,ra⟩
   ·rw[Zf ea] at e;exact R2.obj a o e
  ·have ea:=hn a o e;rw[Zf ea];exact R2.frm a o (by rw[F9 ea];exact e)
section
variable {X:Cx}{tg iter elt:WW}{ifs:List WW}{scope:Scope}{pos:Pos}{cN:List Str}{cap:List (Option Nat)}{cl:List (Str×WP)}{js:List Nat}{i:WI}{g:TG}{wg:WG}{wc:WT}{we:WE}
def Ir {K:WY}{w:WT}:∀(σ:L2.St) (H:Hp) (Q Q':Bool->Hp->Prop),(∀b H',Q b H'->Q' b H')->yI K w σ H Q->yI K w σ H Q':=λσ H Q Q' m h=>by
 obtain⟨F,C,τ,R',χ,R,S,hw,q⟩:=h;exact⟨F,C,τ,R',χ,R,S,hw,λb H' C' r t h=>m _ _ (q b H' C' r t h)⟩
structure qC (X:Cx)(tg iter elt:Expr)(ifs:List Expr)(scope:Scope)(cN:List Str)(cap:List (Option Nat))(cl:List (Str×Addr))(js:List Nat)(i:WI)(g:TG)(wg:WG)(wc:WT)(we:WE):Prop where
 calm:X.calm=true
 ok:X.Ok->Pn X cN cap scope cl
 it:q8 X tg iter i
 tgt:∀fp s H,PG (Yc X cN scope cl fp s H) tg g
 gm:Sf g
 gk:N5 js g
 sg:Br X.K g wg
 js0:∀j∈js,(cap[j]?).join=none
 ts:∀fp s H,u5 (Yc X cN scope cl fp s H) ifs wc
 el:∀fp s H,Jc (Yc X cN scope cl fp s H) elt we
 fold:∀x,foldedSetIterable iter X.env x=pure x
def Vk (D:qC X tg iter elt ifs scope cN cap cl js i g wg wc we):Jc X (.ListComp elt [⟨tg,iter,ifs,0⟩] scope pos) (Hl cap i wg wc we):=by
 obtain⟨wi,p,s⟩:=D.it;have P:Bx X tg iter elt ifs scope cN cap cl js wi g (yI X.K wc) (iJ X.K we):=⟨D.calm,D.ok,p,D.tgt,D.gm,D.gk,D.js0,λfp s H=>(D.ts fp s H).pif,Ir,λfp s H=>(D.el fp s H).pe,D.fold⟩;exact⟨_,tX P,λF H C σ τ Q Q' χ R S h q=>Do s D.sg R S h λp H' C' R' t' h'=>q _ _ H' C' R' t' Jd h'⟩
def zq {k:Nat}{y:Str}{py spos:Pos}(hN:X.N.Nodup)(hi:X.N[k]?=some y)(hy:X.env.scope.names.lookup y=some .local)
  (hsw:swapsWith (.ListComp elt [⟨tg,iter,ifs,0⟩] scope pos) (some (.Name y py)) spos.line X.env=pure true)
  (D:qC X tg iter elt ifs scope cN cap cl js i g wg wc we):Ny X (.Assign [.Name y py] (.ListComp elt [⟨tg,iter,ifs,0⟩] scope pos) spos) (O8 (Hl cap i wg wc we) (Ig k)):=by
 obtain⟨wi,p,s⟩:=D.it;have P:Bx X tg iter elt ifs scope cN cap cl js wi g (yI X.K wc) (iJ X.K we):=⟨D.calm,D.ok,p,D.tgt,D.gm,D.gk,D.js0,λfp s H=>(D.ts fp s H).pif,Ir,λfp s H=>(D.el fp s H).pe,D.fold⟩;exact⟨_,Aj hN hi hy hsw P,λF H C σ τ E E' R S h d=>Do s D.sg R S h λp H' C' R' t' h'=>d.nx _ _ H' C' R' t' ((S.tx t').set Jd) h'⟩
end
def Je {A:WM}{k:Nat}(hr:Y9 k A):A.units+150<cLine:=by have:=hr.un;omega
def spW (K:WY)(pr:List Df)(n i:Nat):Sp:=λvs H Q _=>∃(F:Hp) (C:Hw) (vs':List T) (Q':WK) (χ:WX),Rl K F H C/\Reps K H vs vs'/\J8 pr n i vs' C Q' χ/\QE K F H Q Q'
def Jw {X:Cx}{k i:Nat}{x:Str}{ps:List Str}{pr:List Df}{p pos:Pos}{e:WW}{es:List WW}{wA:WA}(Cc:Ca X.prog X.w X.K X.mg X.base k x ps (spW X.K pr k i))(hr:Y9 k X.A)(hg:Gl X x)(ha:M3 X (e::es) wA)
  (hdb:(x==("__debug__":Str))=false:=by decide) (he:starEach (e::es) X.env=(false,eval e X.env)::starEach es X.env:=by rfl) (hpl:(backTo pos (starEach es X.env)).any (·.1)=false:=by rfl):
  Jc X (.Call (.Name x p) (e::es) [] pos) (X5 (J8 pr k) i wA):=by
 obtain⟨t,p1,s⟩:=ha;refine⟨_,qj Cc hr hg p1 hdb he hpl,λF H C σ τ Q Q' χ R S h q=>?_⟩;refine s F H C σ τ _ _ χ R S h λxs vs H1 C1 R1 t1 rs h1=>?_;refine⟨F,C1,vs,Q',χ,R1,?_,h1,QE.at q t1⟩;rw[YK];exact rs
def J7.start {K:WY}{H:Hp}{vs:List V}{vs':List T}(h:Reps K H vs vs')(N:List Str)(m:Nat)(e:m=N.length-vs.length):J7 K H (start N vs) (vs'.map some++List.replicate m none):=by
 refine⟨?_,λi v hv=>?_⟩
 ·unfold L2.start;rw[BA,BA,XI,XI,EW,EW,h.length,e,h.length]
 ·unfold L2.start;by_cases hi:i<vs'.length
  ·rw[BO (by rw[XI];exact hi),XM] at hv
   cases hg:vs'[i]? with
   | none=>rw[hg] at hv;cases hv
   | some z=>
    rw[hg] at hv
    cases hv
    obtain⟨x,hx,r⟩:=h.get hg;refine⟨x,?_,r⟩;rw[BO (by rw[XI,h.length];exact hi),XM,hx];rfl
  ·rw[BM (by rw[XI];omega),List.getElem?_replicate] at hv
   split at hv
   ·cases hv
   ·cases hv
def rg {P:WO}{w:WN}{K:WY}{mg:Str->Option WQ}{base:WU}{x:Str}{st:WV}{f:WP}{fd:VZ}{ps:List Str}{pr:List Df}{i:Nat}(F:Gd K x x st f fd)(hb:J6 K fd ps [])(hm:mg x=some (.ref f)):Ca P w K mg base 0 x ps (spW K pr 0 i):=
 ⟨f,fd,⟨λvs H Q E h=>by obtain⟨_,_,_,_,_,_,_,z,_⟩:=h;exact z.elim,λA outer s H args us vs Q E _ _ _ _ h=>by obtain⟨_,_,_,_,_,_,_,z,_⟩:=h;exact z.elim⟩,hb,F.kp,hm⟩
def rh {P:WO}{w:WN}{K:WY}{mg:Str->Option WQ}{base:WU}{x:Str}{st:WV}{f:WP}{fd:VZ}{ps:List Str}{sp:Sp}{n:Nat}(F:Gd K x x st f fd)(hb:J6 K fd ps [])(hm:mg x=some (.ref f))(G:X8 P w K mg base CX0 n f fd ps sp):Ca P w K mg base n x ps sp:=
 ⟨f,fd,G,hb,F.kp,hm⟩
def law_sp {K:WY}{pr:List Df}{n i:Nat}{H:Hp}{a:WP}{ns:List Int}(hO:u9 H)(hS:Wl K H a (ns.map V.int))(h:J8 pr n i [.cl (ns.map T.int)] (λ_=>none) (λv _=>v=.bl true) (λ_ _=>False)):
  spW K pr n i [.ref a] H (λv _=>v=.bl true) (λ_ _ _=>False):=by
 have hq:u0 K H a (ns.map V.int):=by
  rcases hS with(h | ⟨o,h⟩) | h
  ·rcases hO a with e | ⟨o,xs,e⟩
   ·rw[e] at h;cases h
   ·rw[e] at h;cases h
  ·exact .inl ⟨o,h⟩
  ·exact .inr h
 refine⟨λ_=>none,λ_=>none,[.cl (ns.map T.int)],_,_,⟨(λ_ _ e=>by cases e),(λ_ _ e=>by cases e)⟩,Yj ?_ Yu,h,λx v H' C' R t r e=>?_⟩
 ·unfold Yx;exact⟨a,_,FV,hq,I0 ns⟩
 ·subst e;exact Np r
end WL
namespace L2
open PySem PySem.Spec PyProof.Rows
section
variable {κ:Type}[DecidableEq κ]
def V9 (kvs:List (κ×V))(k:κ):Option V:=(kvs.find? λkv=>decide (kv.1=k)).map (·.2)
def X7 (kvs:List (κ×V))(k:κ)(v:V):List (κ×V):=
 if (kvs.any λkv=>decide (kv.1=k))=true then kvs.map (λkv=>if kv.1=k then(kv.1,v) else kv) else kvs++[(k,v)]
def qt (kvs:List (κ×V))(k:κ):List (κ×V):=kvs.filter λkv=>decide (kv.1≠k)
def Ps {p:κ×V}{r:List (κ×V)}{k:κ}(e:p.1=k):V9 (p::r) k=some p.2:=by simp[V9,List.find?_cons,e]
def Pt {p:κ×V}{r:List (κ×V)}{k:κ}(e:¬p.1=k):V9 (p::r) k=V9 r k:=by simp[V9,List.find?_cons,e]
def Da (k:κ):∀kvs:List (κ×V),(kvs.any λkv=>decide (kv.1=k))=(V9 kvs k).isSome
 | []=>rfl
 | p::r=>by
  rw[DJ];by_cases e:p.1=k
  ·simp only[Ps e,decide_eq_true e,Bool.true_or,Option.isSome_some]
  ·rw[Pt e,YG e,Bool.false_or];exact Da k r
def Ux (kvs:List (κ×V))(k:κ)(v:V):(X7 kvs k v).length<=kvs.length+1:=by
 unfold X7
 split
 ·rw[XI];omega
 ·rw[BA,YF,FT];omega
def Qp.isSome_eq {o:Option V}{u:Option WQ}(r:Qp o u):o.isSome=u.isSome:=by
 cases o with
 | none=>cases u with
  | none=>rfl
  | some _=>exact(show False from r).elim
 | some _=>cases u with
  | none=>exact(show False from r).elim
  | some _=>rfl
def KV.val {kvs:List (κ×V)}{vs:List (κ×WQ)}(r:KV kvs vs)(k:κ):Qp (V9 kvs k) (valueAt vs k):=by
 unfold KV at r
 induction r with
 | nil=>exact True.intro
 | @cons p q ps qs h t ih=>
  obtain⟨h1,h2⟩:=h;by_cases e:p.1=k
  ·have e':q.1=k:=h1.symm.trans e;have b:valueAt (q::qs) k=some q.2:=by simp[valueAt,List.find?_cons,e']
   rw[Ps e,b];exact h2
  ·have e':¬q.1=k:=λz=>e (h1.trans z);have b:valueAt (q::qs) k=valueAt qs k:=by simp[valueAt,List.find?_cons,e']
   rw[Pt e,b];exact ih
def KV.any {kvs:List (κ×V)}{vs:List (κ×WQ)}(r:KV kvs vs)(k:κ):(kvs.any λkv=>decide (kv.1=k))=vs.any λkv=>decide (kv.1=k):=by
 unfold KV at r
 induction r with
 | nil=>rfl
 | cons h t ih=>rw[DJ,DJ,ih,h.1]
def KV.repl {kvs:List (κ×V)}{vs:List (κ×WQ)}(r:KV kvs vs)(k:κ){y:V}{u:WQ}(ry:Z3 y u):
  KV (kvs.map λkv=>if kv.1=k then(kv.1,y) else kv) (vs.map λkv=>if kv.1=k then(kv.1,u) else kv):=by
 unfold KV at r |-
 induction r with
 | nil=>exact .nil
 | @cons p q ps qs h t ih=>
  rw[YI,YI];refine .cons ?_ ih;obtain⟨h1,h2⟩:=h;by_cases e:p.1=k
  ·rw[XY e,XY (h1.symm.trans e)];exact⟨h1,ry⟩
  ·rw[XX e,XX (λz=>e (h1.trans z))];exact⟨h1,h2⟩
def KV.put {kvs:List (κ×V)}{vs:List (κ×WQ)}(r:KV kvs vs)(k:κ){y:V}{u:WQ}(ry:Z3 y u):KV (X7 kvs k y) (stored vs k u):=by
 unfold X7 stored;rw[r.any k];by_cases e:(vs.any λkv=>decide (kv.1=k))=true
 ·rw[XY e,XY e];exact r.repl k ry
 ·rw[XX e,XX e];exact Paired.snoc r ⟨FV,ry⟩
def KV.length {kvs:List (κ×V)}{vs:List (κ×WQ)}(r:KV kvs vs):kvs.length=vs.length:=Paired.length r
end
def Ly {P:WO}{w:WN}{k:Z2}{u:WQ}(r:Z3 (kV k) u):(Yw P w).is k u=true:=by
 cases k with
 | inl i=>obtain⟨t,e⟩:=(show ∃t,u=Value.int i t from r);subst e;exact D9 P w i t
 | inr x=>obtain⟨t,e⟩:=(show ∃t,u=Value.str x t from r);subst e;exact D8 P w x t
def Hd {P:WO}{w:WN}:∀{ks:List Z2} {us:List WQ},Z0 (ks.map kV) us->ItemsAre (Yw P w) ks us
 | [],_,r=>by rw[FR] at r;cases r;exact .nil
 | k::ks,_,r=>by
  rw[YI] at r
  cases r with
  | cons h t=>exact .cons (Ly h) (Hd t)
abbrev KT (H:Hp):List (List Z2×V)->List (List Z2×WP×WQ)->Prop:=Paired λp q=>p.1=q.1/\H q.2.1=some (.tup (p.1.map kV))/\Z3 p.2 q.2.2
def KT.val {H:Hp}{kvs:List (List Z2×V)}{xs:List (List Z2×WP×WQ)}(r:KT H kvs xs)(k:List Z2):Qp (V9 kvs k) ((atKey xs k).map (·.2)):=by
 induction r with
 | nil=>exact True.intro
 | @cons p q ps qs h t ih=>
  obtain⟨h1,_,h2⟩:=h;by_cases e:p.1=k
  ·have e':q.1=k:=h1.symm.trans e;have b:atKey (q::qs) k=some q.2:=by simp[atKey,List.find?_cons,e']
   rw[Ps e,b];exact h2
  ·have e':¬q.1=k:=λz=>e (h1.trans z);have b:atKey (q::qs) k=atKey qs k:=by simp[atKey,List.find?_cons,e']
   rw[Pt e,b];exact ih
def KT.repl {H:Hp}{kvs:List (List Z2×V)}{xs:List (List Z2×WP×WQ)}(r:KT H kvs xs)(k:List Z2){y:V}{u:WQ}(ry:Z3 y u):
  KT H (kvs.map λkv=>if kv.1=k then(kv.1,y) else kv) (xs.map (putAt k u)):=by
 induction r with
 | nil=>exact .nil
 | @cons p q ps qs h t ih=>
  rw[YI,YI];refine .cons ?_ ih;obtain⟨h1,h2,h3⟩:=h;unfold putAt;by_cases e:p.1=k
  ·rw[XY e,XY (h1.symm.trans e)];exact⟨h1,h2,ry⟩
  ·rw[XX e,XX (λz=>e (h1.trans z))];exact⟨h1,h2,h3⟩
def KT.put {H:Hp}{kvs:List (List Z2×V)}{xs:List (List Z2×WP×WQ)}(r:KT H kvs xs)(k:List Z2){b:WP}{y:V}{u:WQ}(hb:H b=some (.tup (k.map kV)))(ry:Z3 y u):
  KT H (X7 kvs k y) (storedH xs k b u):=by
 have e:(kvs.any λkv=>decide (kv.1=k))=(atKey xs k).isSome:=by
  rw[Da,(r.val k).isSome_eq,CW]
 unfold X7 storedH;rw[e];by_cases q:(atKey xs k).isSome=true
 ·rw[XY q,XY q];exact r.repl k ry
 ·rw[XX q,XX q];exact Paired.snoc r ⟨FV,hb,ry⟩
def KT.keeps {H H':Hp}{kvs:List (List Z2×V)}{xs:List (List Z2×WP×WQ)}(r:KT H kvs xs)(ht:∀b ys,H b=some (.tup ys)->H' b=some (.tup ys)):KT H' kvs xs:=
 Paired.mapP r λ_ _ z=>⟨z.1,ht _ _ z.2.1,z.2.2⟩
section
variable {P:WO}{w:WN}{H:Hp}{h:WU}{a:WP}
def qi {u:HO}(ok:Vy P w H h)(e:Rd H a u):Y2 P w H h a u:=e.ok ok
def Nu {kvs:List (Z2×V)}(ok:Vy P w H h)(e:Rd H a (.dK kvs)):kvs.length<=sizeLine/\(a==sysModules)=false/\∃vs,KV kvs vs/\h.DictOf (Yw P w) a vs:=
 show Y2 P w H h a (.dK kvs) from qi ok e
def yt {kvs:List (Z2×V)}(ok:Vy P w H h)(e:H a=some (.dK kvs)):kvs.length<=sizeLine/\(a==sysModules)=false/\∃vs,KV kvs vs/\h.DictOf (Yw P w) a vs:=Nu ok (.inl e)
def Lw {ks:List Z2}(ok:Vy P w H h)(e:H a=some (.tup (ks.map kV))):(tupleKind (Yw P w)).is h ks a:=by
 obtain⟨_,its,r,o,h1,h2,n,h3⟩:=(show Y2 P w H h a (.tup (ks.map kV)) from ok a _ e);exact⟨o,its.toArray,n,h1,h2,h3,by simpa using Hd r⟩
def Ho {kvs:List (List Z2×V)}(ok:Vy P w H h)(e:Rd H a (.dT kvs)):kvs.length<=sizeLine/\(a==sysModules)=false/\
  ∃xs,KT H kvs xs/\h.DictOfH (tupleKind (Yw P w)) a xs:=by
 obtain⟨z,y,xs,r,o,es,ep,h1,h2,h3,h4,h5⟩:=(show Y2 P w H h a (.dT kvs) from qi ok e);refine⟨z,y,xs,r,o,es,ep,h1,h2,h3,h4,λx hx=>?_,h5⟩;have all:∀{l:List (List Z2×V)} {m:List (List Z2×WP×WQ)},KT H l m->∀x∈m,(tupleKind (Yw P w)).is h x.1 x.2.1:=by
  intro l m q
  induction q with
  | nil=>intro x hx;exact nomatch hx
  | @cons p q ps qs hq t ih=>
   intro x hx
   rcases BD.mp hx with e | hx
   ·subst e;exact Lw ok (by rw[<-hq.1];exact hq.2.1)
   ·exact ih x hx
 exact all r x hx
def kQ {kvs:List (List Z2×V)}(ok:Vy P w H h)(e:H a=some (.dT kvs)):kvs.length<=sizeLine/\(a==sysModules)=false/\
  ∃xs,KT H kvs xs/\h.DictOfH (tupleKind (Yw P w)) a xs:=Ho ok (.inl e)
end
def Bv (H:Hp)(a:WP)(y:V)(r:Option V):Prop:=
 (∃kvs k,Rd H a (.dK kvs)/\y=kV k/\r=V9 kvs k)\/∃kvs k b,Rd H a (.dT kvs)/\y=.ref b/\H b=some (.tup (k.map kV))/\r=V9 kvs k
def jN (H:Hp)(a:WP)(y v:V)(H':Hp):Prop:=
 (∃kvs k,H a=some (.dK kvs)/\y=kV k/\kvs.length<sizeLine/\H'=Yo H a (.dK (X7 kvs k v)))\/
 ∃kvs k b,H a=some (.dT kvs)/\y=.ref b/\H b=some (.tup (k.map kV))/\kvs.length<sizeLine/\H'=Yo H a (.dT (X7 kvs k v))
def jN.k {H:Hp}{a:WP}{kvs:List (Z2×V)}{k:Z2}{v:V}(e:H a=some (.dK kvs))(hl:kvs.length<sizeLine):jN H a (kV k) v (Yo H a (.dK (X7 kvs k v))):=.inl ⟨kvs,k,e,FV,hl,FV⟩
section
variable {X:Cx}{WZ:List (WP×Obj)}{σ:St}{H:Hp}{s:WR}{a:WP}{y v:V}{u r:WQ}{o:Option V}{A:WM}{E:WQ->WR->Prop}
def Zl.big (I:Zl X WZ σ H s):sysModules<s.heap.objs.size:=by
 have h:mainGlobals<s.heap.objs.size:=(I.mod.glob.keeps I.bk).lt;exact Nat.lt_trans (by decide) h
def j6 {Q:WQ->WR->Prop}(hu:A.units+1<cLine)(I:Zl X WZ σ H s)(g:Bv H a y (some v))(ry:Z3 y u)(h:∀w' s',Zl X WZ σ H s'->Z3 v w'->Q w' s'):
  wpAny (model X.prog X.w) A (getItem (.ref a) u) Q E s:=by
 rcases g with⟨kvs,k,e,ey,l⟩ | ⟨kvs,k,b,e,ey,eb,l⟩
 ·subst ey;obtain⟨z,hd,vs,rel,dd⟩:=Nu I.hok e;obtain⟨w',hw,rw'⟩:=Qp.some_of (v:=v) (o:=valueAt vs k) (by rw[l];exact rel.val k);exact wpAny_getItem_of (Ly ry) dd.mapOf hw (h w' _ (I.tok _) rw')
 ·subst ey
  cases (show u=Value.ref b from ry)
  obtain⟨z,hd,xs,rel,dd⟩:=Ho I.hok e;obtain⟨w',hw,rw'⟩:=Qp.some_of (v:=v) (o:=(atKey xs k).map (·.2)) (by rw[l];exact rel.val k);obtain⟨p,hp,hp2⟩:=Option.map_eq_some_iff.mp hw;refine wpAny_getItem_heap (tupleKind_room_in1 hu) (Lw I.hok eb) dd hp ?_;rw[hp2];exact h w' _ (I.tok _) rw'
def fC {Q:WQ->WR->Prop}(hu:A.units+1<cLine)(I:Zl X WZ σ H s)(g:Bv H a y o)(ry:Z3 y u)(h:∀s',Zl X WZ σ H s'->Q (.bool o.isSome) s'):
  wpAny (model X.prog X.w) A (compareOp .In u (.ref a)) Q E s:=by
 rcases g with⟨kvs,k,e,ey,l⟩ | ⟨kvs,k,b,e,ey,eb,l⟩
 ·subst ey;obtain⟨z,hd,vs,rel,dd⟩:=Nu I.hok e;refine wpAny_in_of (Ly ry) hd dd.mapOf ?_;rw[<-(rel.val k).isSome_eq,<-l];exact h _ (I.tok _)
 ·subst ey
  cases (show u=Value.ref b from ry)
  obtain⟨z,hd,xs,rel,dd⟩:=Ho I.hok e;refine wpAny_in_heap (tupleKind_room_in1 hu) (Lw I.hok eb) hd dd ?_;have q:=(rel.val k).isSome_eq;rw[CW] at q;rw[<-q,<-l];exact h _ (I.tok _)
def sX {Q:WQ->WR->Prop}(hu:A.units+1<cLine)(I:Zl X WZ σ H s)(g:Bv H a y o)(ry:Z3 y u)(h:∀s',Zl X WZ σ H s'->Q (.bool (!o.isSome)) s'):
  wpAny (model X.prog X.w) A (compareOp .NotIn u (.ref a)) Q E s:=by
 rcases g with⟨kvs,k,e,ey,l⟩ | ⟨kvs,k,b,e,ey,eb,l⟩
 ·subst ey;obtain⟨z,hd,vs,rel,dd⟩:=Nu I.hok e;refine wpAny_notIn_of (Ly ry) hd dd.mapOf ?_;rw[<-(rel.val k).isSome_eq,<-l];exact h _ (I.tok _)
 ·subst ey
  cases (show u=Value.ref b from ry)
  obtain⟨z,hd,xs,rel,dd⟩:=Ho I.hok e;refine wpAny_notIn_heap (tupleKind_room_in1 hu) (Lw I.hok eb) hd dd ?_;have q:=(rel.val k).isSome_eq;rw[CW] at q;rw[<-q,<-l];exact h _ (I.tok _)
def Mv {h':WU}{t':Nat}{ob:HO}(I:Zl X WZ σ H s)(mu:iA (H a))(hs:Heap.SameBut a s.heap h')(he:∃q,h'.get? a=some q)(new:Y2 X.prog X.w (Yo H a ob) h' a ob):
  Zl X WZ σ (Yo H a ob) {s with heap:=h',toks:=t'}:=
 I.write (x:=a) (e:=a) mu (.inl FV) (λb q hb z=>(hs.2 b hb).trans z) he new
def Ko {P:WO}{w:WN}{H':Hp}{h':WU}{kvs:List (Z2×V)}{vs:List (Z2×WQ)}(z:kvs.length<=sizeLine)(hd:(a==sysModules)=false)(rel:KV kvs vs)(dd:h'.DictOf (Yw P w) a vs):
  Y2 P w H' h' a (.dK kvs):=⟨z,hd,vs,rel,dd⟩
def j4 {H':Hp}{Q:Unit->WR->Prop}(hu:A.units+1<cLine)(I:Zl X WZ σ H s)(g:jN H a y v H')(ry:Z3 y u)(rv:Z3 v r)(h:∀s',Zl X WZ σ H' s'->Q () s'):
  wpAny (model X.prog X.w) A (setItem (.ref a) u r) Q E s:=by
 rcases g with⟨kvs,k,e,ey,l,eH⟩ | ⟨kvs,k,b,e,ey,eb,l,eH⟩
 ·subst ey eH;obtain⟨z,hd,vs,rel,dd⟩:=yt I.hok e;have hz:vs.length<=sizeLine:=by rw[<-rel.length];exact z
  have hl:(X7 kvs k v).length<=sizeLine:=by have:=Ux kvs k v;omega
  refine wpAny_setItem_pairs (hsz:=hz) (Ly ry) dd λh' dd' hs=>h _ ?_;have he:∃q,h'.get? a=some q:=let ⟨q,_,_,hq,_⟩:=dd';⟨q,hq⟩
  exact Mv I (by rw[e];exact True.intro) hs he (Ko hl hd (rel.put k rv) dd')
 ·subst ey eH
  cases (show u=Value.ref b from ry)
  obtain⟨z,hd,xs,rel,dd⟩:=kQ I.hok e;have hz:xs.length<=sizeLine:=by rw[<-Paired.length rel];exact z
  have hl:(X7 kvs k v).length<=sizeLine:=by have:=Ux kvs k v;omega
  refine wpAny_setItem_heap (hsz:=hz) (tupleKind_room_in1 hu) (Lw I.hok eb) dd λh' dd' hs=>h _ ?_;obtain⟨q,es,ep,hq,h2,h3,h4,_,h5⟩:=dd';refine Mv I (by rw[e];exact True.intro) hs ⟨q,hq⟩ ⟨hl,hd,_,(rel.put k eb rv).keeps λc ys ec=>?_,q,es,ep,hq,h2,h3,h4,h5⟩;rw[Z1 (kz ec e (λz=>nomatch z))];exact ec
end
section
variable {X:Cx}{WZ:List (WP×Obj)}{σ:St}{H:Hp}{s:WR}{a:WP}{kvs:List (Z2×V)}{k:Z2}{u:WQ}{A:WM}{E:WQ->WR->Prop}
def kY {Q:WQ->WR->Prop}(I:Zl X WZ σ H s)(e:Rd H a (.dK kvs))(h:∀t s',Zl X WZ σ H s'->Q (.int kvs.length t) s'):wpAny (model X.prog X.w) A (call (.builtin "len") [.ref a]) Q E s:=by
 obtain⟨z,hd,vs,rel,dd⟩:=Nu I.hok e;refine call_len_dict hd dd (by rw[<-rel.length];rw[sizeLine_eq] at z;omega) ?_;rw[<-rel.length];exact h _ _ (I.tok _)
end
def md (i:WW):Prop:=∀ov iv,subscripted i false ov iv=operate [ov,iv] (getItem ov iv)
def uW {prog:WO}{w:WN}{A:WM}{E:WQ->WR->Prop}{s:WR}{env:Env}{value slice:WW}{pos:Pos}{T id:String}{Q:WQ->WR->Prop}
  (hl:typeLookup (.type T) "__getitem__"=pure (some (.builtin id))) (hs:md slice)
  (h:wpAny (model prog w) A (eval value env) (λo s₁=>wpAny (model prog w) A (eval slice env) (λi s₂=>s₂.TypeIs o T/\wpAny (model prog w) A (getItem o i) Q E s₂) E s₁) E s):
  wpAny (model prog w) A (eval (.Subscript value slice pos) env) Q E s:=by
 refine Subscript_ (wpAny_mono h (λo s₁ h₁=>wpAny_mono h₁ (λi s₂ h₂=>?_) λ_ _ x=>x) λ_ _ x=>x);obtain⟨hT,h₂⟩:=h₂;unfold subscriptTail;refine XA ?_;rw[getitemInPython_of_ne hT.not_modules];refine XA (wpAny_specialOf hT hl ?_);have fin:wpAny (model prog w) A (subscripted slice false o i) (λr s₃=>wpAny (model prog w) A (letTemporaryGo value o r>>=λ_=>pure r) Q E s₃) E s₂:=by
  rw[hs o i];exact wpAny_operating (wpAny_mono h₂ (λr s₃ h₃=>XA (wpAny_letTemporaryGo (XB h₃))) λ_ _ x=>x)
 first
  | exact XB (XA fin)
  | exact XA (XB (XA fin))
  | exact XA fin
def Bc {X:Cx}{WZ:List (WP×Obj)}{σ:St}{H:Hp}{s:WR}{a:WP}{y:V}{o:Option V}(I:Zl X WZ σ H s)(g:Bv H a y o):s.TypeIs (.ref a) "dict":=by
 rcases g with⟨kvs,k,e,_,_⟩ | ⟨kvs,k,b,e,_,_,_⟩
 ·obtain⟨_,_,vs,_,dd⟩:=Nu I.hok e;exact dd.typeIs
 ·obtain⟨_,_,xs,_,dd⟩:=Ho I.hok e;exact dd.typeIs
def mS (td ty:TE):TE:=λσ H Q=>td σ H λx H1=>ty σ H1 λy H2=>∃a v,x=.ref a/\Bv H2 a y (some v)/\Q v H2
def dD (ty td:TE):TE:=λσ H Q=>ty σ H λy H1=>td σ H1 λx H2=>∃a o,x=.ref a/\Bv H2 a y o/\Q (.bl o.isSome) H2
def eU (td ty tv:TE):TS:=λD σ H=>tv σ H λv H1=>td σ H1 λx H2=>ty σ H2 λy H3=>∃a H4,x=.ref a/\jN H3 a y v H4/\D.nx σ H4
def eW (td ty tv:TE)(rd:V->V->Hp->VK->Prop):TS:=λD σ H=>td σ H λx H1=>ty σ H1 λy H2=>∃a v,x=.ref a/\Bv H2 a y (some v)/\
 tv σ H2 λy2 H3=>rd v y2 H3 λz H4=>∃H5,jN H4 a y z H5/\D.nx σ H5
def eV (td ty:TE):TS:=λD σ H=>td σ H λx H1=>ty σ H1 λy H2=>∃a kvs k,x=.ref a/\H2 a=some (.dK kvs)/\y=kV k/\(V9 kvs k).isSome=true/\D.nx σ (Yo H2 a (.dK (qt kvs k)))
section
variable {X:Cx}{o i e value:WW}{pos pos' tpos:Pos}{td ty tv:TE}
def tW (hu:X.A.units+1<cLine)(ho:PE X o td)(hi:PE X i ty)(hs:md i):PE X (.Subscript o i pos) (mS td ty):=by
 intro WZ s σ H Q I h;refine uW PySem.F.slot_dict_getitem.lookup hs (Ja (ho WZ s σ H _ I h) λu s1 ⟨x,H1,I1,rx,q1⟩=>Ja (hi WZ s1 σ H1 _ I1 q1) λiv s2 ⟨y,H2,I2,ry,a,v,ex,g,q2⟩=>?_);subst ex;obtain rfl:u=Value.ref a:=rx;exact⟨Bc I2 g,j6 hu I2 g ry λw' s3 I3 rw'=>⟨v,H2,I3,rw',q2⟩⟩
end
def vM {P:WO}{w:WN}{H:Hp}(h:WU)(hb:sysModules<h.objs.size):Y2 P w H (h.push {cls:=.type "dict",data:=.dict #[]}) h.objs.size (.dK []):=
 ⟨XO _,beq_eq_false_iff_ne.mpr (Ne.symm (XH hb)),[],.nil,Heap.DictOf.new h⟩
def qR:TE:=λ_ H Q=>∀p,H p=none->Q (.ref p) (Yo H p (.dK []))
section
variable {X:Cx}{pos:Pos}
def wD:PE X (.Dict [] [] pos) qR:=λWZ s σ H Q I h=>
 wpAny_Dict_empty ⟨.ref s.heap.objs.size,_,I.laid (a:=s.heap.objs.size) (o:=.dK []) (t':=s.toks) (λ_ _ q=>XC _ q) (XE _) (vM s.heap I.big),FV,h _ (I.hok.fresh (XE _))⟩
end
def x6:List (TE×TE)->St->Hp->(List (V×V)->Hp->Prop)->Prop
 | [],_,H,Q=>Q [] H
 | (tk,tv)::r,σ,H,Q=>tk σ H λx H1=>tv σ H1 λy H2=>x6 r σ H2 λps H3=>Q ((x,y)::ps) H3
def Q7 (kvs more:List (Z2×V)):List (Z2×V):=more.foldl (λacc kv=>X7 acc kv.1 kv.2) kvs
def KV.merge:∀{more:List (Z2×V)} {rs:List (Z2×WQ)} {kvs:List (Z2×V)} {vs:List (Z2×WQ)},KV more rs->KV kvs vs->KV (Q7 kvs more) (merged vs rs):=by
 intro more rs kvs vs r;unfold KV at r
 induction r generalizing kvs vs with
 | nil=>intro q;exact q
 | @cons p q ps qs h t ih=>
  intro r0;have e:KV (X7 kvs p.1 p.2) (stored vs q.1 q.2):=by
   have:=r0.put p.1 h.2;rw[<-h.1];exact this
  exact ih e
def Qv:∀(more kvs:List (Z2×V)),(Q7 kvs more).length<=kvs.length+more.length
 | [],kvs=>by show kvs.length<=kvs.length+0;omega
 | p::r,kvs=>by
  have h1:=Qv r (X7 kvs p.1 p.2);have h2:=Ux kvs p.1 p.2;show(Q7 (X7 kvs p.1 p.2) r).length<=_;rw[YF];omega
def eS (trs:List (TE×TE)):TE:=λσ H Q=>∀p,H p=none->x6 trs σ (Yo H p (.dK [])) λps H2=>H2 p=some (.dK [])/\∃kvs:List (Z2×V),ps=kvs.map (λkv=>(kV kv.1,kv.2))/\kvs.length<=15/\Q (.ref p) (Yo H2 p (.dK (Q7 [] kvs)))
structure M1 (X:Cx)(o:Expr)(m:Str)(apos:Pos)(e:Expr)(cpos:Pos):Prop where
 base:attributeBase o m X.env (eval o X.env)=eval o X.env
 few:((backTo cpos (starEach [e] X.env)).all (λx=>!x.1)&&(backToKw cpos (keywordEach [] X.env)).all (λx=>x.1.isSome)
  &&decide (([e]:List WW).length+([]:List Keyword).length+(if ([]:List Keyword).isEmpty then 0 else 1)<30))=true
 line:(apos.endLine==cpos.line)=true
 trees:backTo cpos (starEach [e] X.env)=[(false,eval e X.env)]
structure M2 (X:Cx)(o:Expr)(m:Str)(apos:Pos)(e f:Expr)(cpos:Pos):Prop where
 base:attributeBase o m X.env (eval o X.env)=eval o X.env
 few:((backTo cpos (starEach [e,f] X.env)).all (λx=>!x.1)&&(backToKw cpos (keywordEach [] X.env)).all (λx=>x.1.isSome)
  &&decide (([e,f]:List WW).length+([]:List Keyword).length+(if ([]:List Keyword).isEmpty then 0 else 1)<30))=true
 line:(apos.endLine==cpos.line)=true
 trees:backTo cpos (starEach [e,f] X.env)=[(false,eval e X.env),(false,eval f X.env)]
def iZ (H:Hp)(a:WP):Prop:=(∃kvs,Rd H a (.dK kvs))\/∃kvs,Rd H a (.dT kvs)
def vg {X:Cx}{WZ:List (WP×Obj)}{σ:St}{H:Hp}{s:WR}{a:WP}(I:Zl X WZ σ H s)(d:iZ H a):
  s.TypeIs (.ref a) "dict"/\(∀b,Value.ref a=.ref b->∃ob,s.heap.get? b=some ob/\ob.dict=none)/\(a==sysModules)=false:=by
 rcases d with⟨kvs,e⟩ | ⟨kvs,e⟩
 ·obtain⟨_,hd,vs,_,dd⟩:=Nu I.hok e;refine⟨dd.typeIs,λb q=>?_,hd⟩
  cases q
  obtain⟨ob,_,_,h1,h2,_⟩:=dd;exact⟨ob,h1,h2.2.1⟩
 ·obtain⟨_,hd,xs,_,dd⟩:=Ho I.hok e;refine⟨dd.typeIs,λb q=>?_,hd⟩
  cases q
  obtain⟨ob,_,_,h1,h2,_⟩:=dd;exact⟨ob,h1,h2.2.1⟩
section
variable {X:Cx}{WZ:List (WP×Obj)}{σ:St}{H:Hp}{s:WR}{a:WP}{y d:V}{u r:WQ}{o:Option V}{A:WM}{E:WQ->WR->Prop}
end
def gp (td ty:TE):TE:=λσ H Q=>td σ H λx H1=>∃a,x=.ref a/\iZ H1 a/\ty σ H1 λy H2=>∃kvs k v,H2 a=some (.dK kvs)/\y=kV k/\V9 kvs k=some v/\Q v (Yo H2 a (.dK (qt kvs k)))
section
variable {X:Cx}{o e f:WW}{apos cpos:Pos}{td ty tx:TE}
end
section
variable {X:Cx}{WZ:List (WP×Obj)}{σ:St}{H:Hp}{s:WR}{a:WP}{kvs:List (Z2×V)}{A:WM}{E:WQ->WR->Prop}
def vW {Q:WQ->WR->Prop}(I:Zl X WZ σ H s)(e:Rd H a (.dK kvs))(h:∀p s',H p=none->Zl X WZ σ (Yo H p (.dK kvs)) s'->Q (.ref p) s'):wpAny (model X.prog X.w) A (call (.type "dict") [.ref a]) Q E s:=by
 obtain⟨z,hd,vs,rel,dd⟩:=Nu I.hok e;refine kt_call_dict hd dd (by rw[<-rel.length];exact z) λh' dd' hs=>?_;refine h _ _ (I.hok.fresh (XE _)) (I.laid (a:=s.heap.objs.size) (o:=.dK kvs) (t':=s.toks) (λb q hq=>?_) (XE _) (Ko z (beq_eq_false_iff_ne.mpr (Ne.symm (XH I.big))) rel dd'));exact(hs.2 b (XH (XD hq))).trans (XC _ hq)
end
section
variable {X:Cx}{WZ:List (WP×Obj)}{σ:St}{H:Hp}{s:WR}{a:WP}{y:V}{u:WQ}{A:WM}{E:WQ->WR->Prop}
end
end L2
namespace WL
open PySem PySem.Spec PyProof.Rows L2
def Oy (c:WT)(b:WS)(D:We):Nat->Sw->Hw->Prop
 | 0,_,_=>False
 | n+1,τ,C=>c τ C (λk C1=>if k=true then b {D with nx:=Oy c b D n,ct:=Oy c b D n,bk:=D.nx} τ C1 else D.nx τ C1) D.xc
def Af (c:WT)(b:WS):WS:=λD τ C=>∃n,Oy c b D n τ C
def yL {K:WY}{c:TT}{tb:TS}{c':WT}{b':WS}(hc:Nj K c c')(hb:Ik K tb b'):Ik K (xy c tb) (Af c' b'):=λF H C σ τ D D' R S h d=>by
 obtain⟨n,h⟩:=h;refine⟨λm σ H2=>∃τ C,Rl K F H2 C/\Tx H H2/\J7 K H2 σ τ/\Oy c' b' D' m τ C,⟨n,τ,C,R,Tx.refl _,S,h⟩,?_⟩;rintro m σ2 H2 ⟨τ2,C2,R2,t2,S2,h2⟩
 cases m with
 | zero=>exact h2.elim
 | succ m=>
  refine hc F H2 C2 σ2 τ2 _ _ D'.xc R2 S2 h2 λk H3 C3 R3 t3 h3=>?_
  cases k with
  | true=>
   refine⟨λσ' H'=>∃τ' C',Rl K F H' C'/\Tx H H'/\J7 K H' σ' τ'/\Oy c' b' D' m τ' C',λσ' H' z=>⟨m,BK m,z⟩,?_⟩;have t13:=t2.trans t3;exact hb F H3 C3 σ2 τ2 _ _ R3 (S2.tx t3) h3 ⟨λσ' τ' H' C' R' t' S' h'=>⟨τ',C',R',t13.trans t',S',h'⟩,λx v H' C' R' t'=>d.rt x v H' C' R' (t13.trans t'),λσ' τ' H' C' R' t' S' h'=>d.nx σ' τ' H' C' R' (t13.trans t') S' h',λσ' τ' H' C' R' t' S' h'=>⟨τ',C',R',t13.trans t',S',h'⟩⟩
  | false=>exact d.nx σ2 τ2 H3 C3 R3 (t2.trans t3) (S2.tx t3) h3
def Om {X:Cx}{c:WW}{body:List WV}{wc:WT}{b:WS}{pos:Pos}(hp:PassesOwn (model X.prog X.w) X.A X.env X.xe)(hc:uJ X c wc)(hb:Bs X body b):Ny X (.While c body [] pos) (Af wc b):=by
 obtain⟨t,p,s⟩:=hc;obtain⟨t',p',s'⟩:=hb;exact⟨_,wq hp p p',yL s s'⟩
def Qa {c:WT}{b:WS}{D:We}(Pv:Nat->Sw->Hw->Prop){τ:Sw}{C:Hw}{m:Nat}(h0:Pv m τ C)
  (hs:∀m τ C (N:Sw->Hw->Prop),Pv m τ C->(∀m' τ' C',m'<m->Pv m' τ' C'->N τ' C')->c τ C (λk C1=>if k=true then b {D with nx:=N,ct:=N,bk:=D.nx} τ C1 else D.nx τ C1) D.xc):Af c b D τ C:=by
 have key:∀(n m:Nat) (τ:Sw) (C:Hw),m<n->Pv m τ C->Oy c b D n τ C:=by
  intro n
  induction n with
  | zero=>intro m τ C h _;omega
  | succ n ih=>intro m τ C hm hp;exact hs m τ C _ hp λm' τ' C' hlt hp'=>ih m' τ' C' (by omega) hp'
 exact⟨m+1,key (m+1) m τ C (BK m) h0⟩
section
variable {X:Cx}{a b c e o i:WW}{es:List WW}{wa wb wc wo wi:WE}{wA:WA}{pos p p2 apos cpos:Pos}
end
def kT:T->Option Z2
 | .int i=>some (.inl i)
 | .str x=>some (.inr x)
 | _=>none
def tK:Z2->T
 | .inl i=>.int i
 | .inr x=>.str x
def Yr (kvs:List (Z2×T))(k:Z2):Option T:=(kvs.find? λkv=>decide (kv.1=k)).map (·.2)
def Jz (kvs:List (Z2×T))(k:Z2)(v:T):List (Z2×T):=
 if (kvs.any λkv=>decide (kv.1=k))=true then kvs.map (λkv=>if kv.1=k then(kv.1,v) else kv) else kvs++[(k,v)]
def Mj {K:WY}{H:Hp}{x:V}{v:T}{k:Z2}(h:kT v=some k)(r:Yx K H x v):x=kV k:=by
 cases v with
 | int i=>cases h;exact Z4 r
 | str z=>cases h;exact Ju r
 | _=>cases h
def PR.get {K:WY}{H:Hp}:∀{ks:List (Z2×V)} {kvs:List (Z2×T)} (_:PR K H ks kvs) (k:Z2),(Yr kvs k=none->V9 ks k=none)/\∀v,Yr kvs k=some v->∃x,V9 ks k=some x/\Yx K H x v
 | _,_,.nil,k=>⟨λ_=>rfl,λv h=>by cases h⟩
 | p::r,q::s,.cons h t,k=>by
  obtain⟨e,rp⟩:=h;have ih:=PR.get t k;by_cases c:q.1=k
  ·have c':p.1=k:=e.trans c;rw[Ps c'];unfold Yr;rw[List.find?_cons_of_pos (by simpa using c)];exact⟨(λz=>by cases z),(λv z=>by cases z;exact⟨p.2,FV,rp⟩)⟩
  ·have c':¬p.1=k:=λz=>c (e.symm.trans z);rw[Pt c'];unfold Yr;rw[List.find?_cons_of_neg (by simpa using c)];exact ih
def PR.any {K:WY}{H:Hp}:∀{ks:List (Z2×V)} {kvs:List (Z2×T)} (_:PR K H ks kvs) (k:Z2),(ks.any λkv=>decide (kv.1=k))=kvs.any λkv=>decide (kv.1=k)
 | _,_,.nil,k=>rfl
 | p::r,q::s,.cons h t,k=>by rw[DJ,DJ,PR.any t k,h.1]
def PR.mapK {K:WY}{H:Hp}{k:Z2}{x:V}{v:T}(rx:Yx K H x v):∀{ks:List (Z2×V)} {kvs:List (Z2×T)} (_:PR K H ks kvs),PR K H (ks.map λkv=>if kv.1=k then(kv.1,x) else kv) (kvs.map λkv=>if kv.1=k then(kv.1,v) else kv)
 | _,_,.nil=>.nil
 | p::r,q::s,.cons h t=>by
  refine .cons ?_ (PR.mapK rx t);obtain⟨e,rp⟩:=h;by_cases c:q.1=k
  ·have c':p.1=k:=e.trans c;dsimp only;rw[XY c,XY c'];exact⟨e,rx⟩
  ·have c':¬p.1=k:=λz=>c (e.symm.trans z);dsimp only;rw[XX c,XX c'];exact⟨e,rp⟩
def PR.put {K:WY}{H:Hp}{ks:List (Z2×V)}{kvs:List (Z2×T)}(h:PR K H ks kvs){k:Z2}{x:V}{v:T}(rx:Yx K H x v):PR K H (X7 ks k x) (Jz kvs k v):=by
 unfold X7 Jz;rw[PR.any h k]
 split
 ·exact PR.mapK rx h
 ·exact h.snoc ⟨FV,rx⟩
def PR.length {K:WY}{H:Hp}{ks:List (Z2×V)}{kvs:List (Z2×T)}(h:PR K H ks kvs):ks.length=kvs.length:=Paired.length h
section
variable {K:WY}{F H:Hp}{C:Hw}
def Rl.dic (R:Rl K F H C){a:WP}{kvs:List (Z2×T)}(h:C a=some (.dic kvs)):∃ks,H a=some (.dK ks)/\PR K H ks kvs:=R.obj a _ h
def Rl.putD (R:Rl K F H C){p:WP}{kvs kvs':List (Z2×T)}{ks':List (Z2×V)}(h:C p=some (.dic kvs))(r:PR K H ks' kvs'):Rl K F (Yo H p (.dK ks')) (up C p (.dic kvs'))/\Tx H (Yo H p (.dK ks')):=by
 obtain⟨w,hw,ns⟩:=(R.obj p _ h).some trivial;exact R.put h ⟨ks',Z7,Lk (Tx.put hw ns) r⟩
def Rl.newD (R:Rl K F H C){p:WP}{kvs:List (Z2×T)}{ks:List (Z2×V)}(h:H p=none)(r:PR K H ks kvs):Rl K F (Yo H p (.dK ks)) (up C p (.dic kvs)):=R.new h ⟨ks,Z7,Lk (Tx.new h) r⟩
end
def ng:WE:=λ_ C Q _=>∀p,C p=none->Q (.ref p) (up C p (.dic []))
def cb (o i:WE):WG:=λv τ C Q χ=>o τ C (λx C1=>i τ C1 (λy C2=>∃a kvs k,x=.ref a/\kT y=some k/\C2 a=some (.dic kvs)/\kvs.length<sizeLine/\Q τ (up C2 a (.dic (Jz kvs k v)))) χ) χ
def qz:List T->Hw->WK->Prop:=λvs C Q=>∃a kvs,vs=[.ref a]/\C a=some (.dic kvs)/\Q (.int kvs.length) C
section
variable {X:Cx}{a b c e o i f:WW}{es:List WW}{wa wb wc wo wi wd:WE}{wA:WA}{pos p p2 apos cpos:Pos}
def On:Jc X (.Dict [] [] pos) ng:=⟨_,wD,λF H C σ τ Q Q' χ R S h q p hp=>q _ _ _ _ (R.newD hp .nil) (Tx.new hp) Jd (h p (R.free hp))⟩
def lH:V->V->V->Hp->(Hp->Prop)->Prop:=λo i v H Q=>∃p ks k,o=.ref p/\i=kV k/\H p=some (.dK ks)/\ks.length<sizeLine/\Q (Yo H p (.dK (X7 ks k v)))
def xL (hu:X.A.units+150<cLine):ma X lH:=by
 intro WZ s σ H o i v ov iv u Q I ro ri rv h;obtain⟨p,ks,k,rfl,rfl,hp,hl,q⟩:=h
 cases ro
 exact j4 (by omega) I (jN.k hp hl) ri rv λs' I'=>⟨_,I',q⟩
def Mu (hu:X.A.units+150<cLine)(ho:Jc X o wo)(hi:Jc X i wi)
  (ha:∀v,assign (.Subscript o i pos) X.env v=(do
   let ov <-holding [v] (eval o X.env)
   let iv <-holding [v,ov] (eval i X.env)
   standAt pos
   holding [v,ov,iv] (setItem ov iv v)
   release [v,ov,iv] []):=by intro _;rfl):nY X (.Subscript o i pos) (cb wo wi):=by
 obtain⟨t,p,s⟩:=ho;obtain⟨t',p',s'⟩:=hi;refine⟨_,w8 p p' (xL hu) ha,λF H C σ τ x v Q Q' χ R S r h q=>?_⟩;refine s F H C σ τ _ _ χ R S h λy vy H1 C1 R1 t1 ry h1=>?_;refine s' F H1 C1 σ τ _ _ χ R1 (S.tx t1) h1 λz vz H2 C2 R2 t2 rz h2=>?_;obtain⟨l,kvs,k,rfl,hk,hC,hl,h2⟩:=h2
 cases Zu ry
 obtain⟨ks,hH,pr⟩:=R2.dic hC;have t12:=t1.trans t2;obtain⟨R',t'⟩:=R2.putD hC (PR.put pr (k:=k) (r.tx t12));exact⟨l,ks,k,FV,Mj hk rz,hH,by rw[PR.length pr];exact hl,q _ _ _ _ R' (t12.trans t') (S.tx (t12.trans t')) h2⟩
def nG:Qz X (.builtin "len") qz:=by
 refine⟨λxs H Q=>∃p ks,xs=[.ref p]/\H p=some (.dK ks)/\Q (.int ks.length) H,?_,λF H C xs vs Q Q' R rs h q=>?_⟩
 ·intro WZ s σ H xs us Q I rs h;obtain⟨p,ks,rfl,hp,q⟩:=h;obtain⟨u,rfl,ru⟩:=rs.one
  cases ru
  exact kY I (.inl hp) λt s' I'=>⟨.int _,H,I',⟨t,FV⟩,q⟩
 ·obtain⟨l,kvs,rfl,hC,h⟩:=h;obtain⟨x,rfl,rx⟩:=Wu rs
  cases Zu rx
  obtain⟨ks,hH,pr⟩:=R.dic hC;exact⟨l,ks,FV,hH,by rw[PR.length pr];exact q _ _ H C R (Tx.refl H) Y6 h⟩
end
end WL
namespace L2
open PySem PySem.Spec PyProof.Rows
def fG (w:WN):Bool:=w.params.followText "set-order"
def mC (e:Int×WQ):Str:=strOf e.2
structure iz (P:Program)(w:World)(h:Heap)(a:Addr)(es:Array (Int×Value))(ep:Nat)(t:SetTable):Prop where
 get:h.get? a=some {cls:=.type "set",dict:=none,data:=.set es ep t,slots:=#[]}
 els:ElemsOf (PySem.strKind P w) es.toList
 fit:t.fits es.size=true
 bnd:es.size<scanBound
 pln:es.size≠0->t.plain=false
 led:t.led=!fG w
 nod:(es.toList.map mC).Nodup
section
variable {prog:WO}{w:WN}{A:WM}{E:WQ->WR->Prop}{s:WR}
end
section
variable {prog:WO}{w:WN}{A:WM}{R:Result->WR->Prop}{I:WP}{fp wr:List WP}{G:Array GenState->Array GenState->Prop}{n:Nat}{P:Nat->WQ->Prop}{St:Nat->WR->Prop}
end
section
variable {prog:WO}{w:WN}{A:WM}{E:WQ->WR->Prop}{s:WR}
def uT {vs:List WQ}{xs:List Str}(h:StrsAre vs xs):xs.length=vs.length:=by
 induction h with
 | nil=>rfl
 | cons x t h ih=>simp[ih]
def yK {r:WP}{φ:List Str->Prop}{Q:WQ->WR->Prop}(h64:∀xs,φ xs->xs.length<64)
  (hc:∀(R:List WQ->WR->Prop),(∀(h':WU) (d':Drawn) (tk:Nat) (vs:List WQ) (xs:List Str),(∀b o,s.heap.get? b=some o->h'.get? b=some o)->StrsAre vs xs->φ xs->R vs {s with heap:=h',drawn:=d',toks:=tk})->
   wpAny (model prog w) A.in1 (collect (.ref r)) R E s)
  (h:∀(p:WP) (h1 h':WU) (d':Drawn) (tk:Nat) (vs:List WQ) (n:Nat) (xs xs':List Str),φ xs->h1.objs.size<=p->(∀b o,s.heap.get? b=some o->h1.get? b=some o)->(∀b o,h1.get? b=some o->h'.get? b=some o)->h'.get? p=some (seqObj "list" vs.toArray n)->StrsAre vs xs'->xs'.Perm xs->sortedS xs'=true->
   Q (.ref p) {s with heap:=h',drawn:=d',toks:=tk}):
  wpAny (model prog w) A (call (.builtin "sorted") [.ref r]) Q E s:=by
 refine Calls.call_function_entry kind_sorted plain_sorted entry_sorted (args_sorted1 _) ?_;unfold Builtin.«sorted»;refine XA (m:=checkCount "sorted" 1 1 _) (XB ?_);refine XA (hc _ λh1 d1 tk vs xs k hS hφ=>?_);have hl:vs.length<64:=by rw[<-uT hS];exact h64 xs hφ
 have hz:vs.length<=sizeLine:=by rw[sizeLine_eq];omega
 refine XA (wpAny_newList ?_ hz);have hoL:(h1.push (seqObj "list" vs.toArray 0)).get? h1.objs.size=some (seqObj "list" vs.toArray 0):=XF _ FV;show wpAny _ _ _ _ _ {s with heap:=h1.push (seqObj "list" vs.toArray 0),drawn:=d1,toks:=tk};refine XA (wpAny_holding (wpAny_call_entry slot_list_sort ⟨_,hoL,FV⟩ entry_list_sort (list_sort_treeK strKind_oneLt hoL hS.keysOf (λv₁ v₂ Yp e=>keyKind_strs (by rw[<-e];exact hS)) hl λst' a1 a2=>⟨_,FV,?_⟩) (args_list_sort _)));obtain⟨xs',b1,b2,b3⟩:=sorted_out_str hS a1 a2;obtain⟨n,hn⟩:=sortedHeap_at (out:=(arrOf st').map (·.2)) hoL;refine XB ⟨_,FV,h h1.objs.size h1 _ d1 tk ((arrOf st').map (·.2)).toList n xs xs' hφ (XE _) k (λb o hb=>?_) (by rw[Array.toArray_toList];exact hn) b1 b2 b3⟩;have hlt:=XD hb;rw[sortedHeap_old (XH hlt) (by rw[size_push'];exact CF hlt)];exact XC _ hb
end
section
variable {X:Cx}{WZ:List (WP×Obj)}{s:WR}{σ:St}{H:Hp}
def oF {h':WU}{d':Drawn}{t':Nat}(I:Zl X WZ σ H s)(k:∀b u,s.heap.get? b=some u->h'.get? b=some u):Zl X WZ σ H {s with heap:=h',drawn:=d',toks:=t'}:=by
 refine I.step (g':=s.gens) (ch:=[]) (λ_ z=>nomatch z) (λb o _ _ _ e _=>k b o e) (λb o _ _ _ e _=>⟨o.slots,k b o e⟩) (λb o _ _ n=>n) (λb o _ e=>⟨o,k b o e⟩) (λ_ _ e=>e) (λ_ _ _ e=>e) (λb ps e=>⟨#[],by simpa using e⟩) (λm hm=>?_) (I.hok.kept k) I.bare;obtain⟨o,es,ep,ho,r⟩:=hm;exact⟨o,es,ep,k _ o ho,r⟩
def yF {vs:List WQ}{xs:List Str}(h:StrsAre vs xs):Z0 (xs.map V.str) vs:=by
 induction h with
 | nil=>exact .nil
 | cons x t h ih=>exact .cons ⟨t,FV⟩ ih
def dI (P:WO)(w:WN)(a:WP)(xs:List Str):HO:=.ext λh=>∃es ep t,iz P w h a es ep t/\∀y,y∈es.toList.map mC↔y∈xs
def o9 {p:WP}{h1 h':WU}{d':Drawn}{tk n:Nat}{vs:List WQ}{xs:List Str}(I:Zl X WZ σ H s)(hp:h1.objs.size<=p)(k1:∀b o,s.heap.get? b=some o->h1.get? b=some o)(k2:∀b o,h1.get? b=some o->h'.get? b=some o)
  (g:h'.get? p=some (seqObj "list" vs.toArray n)) (hS:StrsAre vs xs) (hl:xs.length<64):Zl X WZ σ (Yo H p (.lst (xs.map V.str))) {s with heap:=h',drawn:=d',toks:=tk}/\H p=none:=by
 have I1:Zl X WZ σ H {s with heap:=h1,drawn:=d',toks:=tk}:=oF I k1;refine⟨I1.laid (t':=tk) k2 hp ⟨?_,vs,n,yF hS,g⟩,I1.hok.fresh hp⟩;rw[XI,sizeLine_eq];omega
def zQ:∀{l:List WQ} {ts:List Str},l.length=ts.length->(∀(j:Nat) (v:WQ),l[j]?=some v->∃t tk,ts[j]?=some t/\v=.str t tk)->StrsAre l ts
 | [],[],_,_=>.nil
 | v::l,t::ts,e,h=>by
  obtain⟨t',tk,e1,e2⟩:=h 0 v FV
  cases e1
  subst e2;exact .cons _ tk (zQ (by simpa using e) λj u hu=>h (j+1) u hu)
def sy {kvs:List (Z2×V)}{vs:List (Z2×WQ)}(h:KV kvs vs):vs.map (·.1)=kvs.map (·.1):=by
 induction h with
 | nil=>rfl
 | cons a b ih=>rw[YI,YI,ih,a.1]
def Ek (hc:X.calm=true):Vp X (.builtin "sorted") (λxs H Q=>∃(p:WP) (kvs:List (Z2×V)) (ts:List Str),xs=[.ref p]/\Rd H p (.dK kvs)/\kvs.map (·.1)=ts.map Sum.inr/\ts.length<64/\
  ∀q ys,H q=none->ys.Perm ts->sortedS ys=true->Q (.ref q) (Yo H q (.lst (ys.map V.str)))):=by
 intro WZ s σ H xs us Q I r h;obtain⟨p,kvs,ts,rfl,hp,hk,h64,q⟩:=h;obtain⟨u,rfl,ru⟩:=Qq r
 cases ru
 obtain⟨hz,lo,vs,hkv,hD⟩:=hp.ok I.hok;obtain⟨ep,hat⟩:=hD.dictAt;have hlen:kvs.length=ts.length:=by have:=congrArg List.length hk;simpa using this
 have hlen2:kvs.length=vs.length:=Paired.length hkv;refine yK (φ:=λys=>ys=ts) (λys e=>by rw[e];exact h64) (λR hR=>W.kdu_collect (A:=X.A.in1) (W.kdl_dict (knd:=Yw X.prog X.w) (kvs:=vs) (ep:=ep) lo) (I.ok.hd hc) hat (by rw[sizeLine_eq];omega) λh' tk acc k hacc=>?_) λq' h1 h' d' tk us n ys ys' e hq k1 k2 g hS e' so=>?_
 ·refine hR h' s.drawn tk acc.toList ts k ?_ FV;refine zQ (by rw[Array.length_toList,hacc.1];omega) λj v hv=>?_;obtain⟨k,x,hx,hi⟩:=hacc.2 j v (by rw[<-DR];exact hv);have e1:(vs.map (·.1))[j]?=some k:=by rw[XM,hx];rfl
  rw[sy hkv,hk,XM] at e1
  cases ht:ts[j]? with
  | none=>rw[ht] at e1;cases e1
  | some t=>
   rw[ht] at e1
   cases e1
   rw[Aq] at hi
   rcases Y1 hi with⟨i,u,e,_⟩ | ⟨y,u,e,e2⟩
   ·cases e
   ·cases e
    exact⟨_,u,FV,e2⟩
 ·subst e;obtain⟨I2,hf⟩:=o9 (d':=d') (tk:=tk) I hq k1 k2 g hS (by rw[e'.length_eq];exact h64);exact⟨.ref q',_,I2,FV,q q' ys' hf e' so⟩
end
end L2
namespace WL
open PySem PySem.Spec PyProof.Rows L2
def nH:List T->Hw->WK->Prop:=λvs C Q=>∃(a:WP) (kvs:List (Z2×T)) (ts:List Str),vs=[.ref a]/\C a=some (.dic kvs)/\kvs.map (·.1)=ts.map Sum.inr/\ts.length<64/\
 ∀q ys,C q=none->ys.Perm ts->sortedS ys=true->Q (.ref q) (up C q (.lst (ys.map T.str)))
def jC:bootBuiltins "sorted"=some (.builtin "sorted"):=by decide+kernel
def PR.keys {K:WY}{H:Hp}:∀{ks:List (Z2×V)} {kvs:List (Z2×T)} (_:PR K H ks kvs),ks.map (·.1)=kvs.map (·.1)
 | _,_,.nil=>rfl
 | _,_,.cons h t=>by rw[YI,YI,PR.keys t,h.1]
def Dx {K:WY}{H:Hp}:∀(ts:List Str),Reps K H (ts.map V.str) (ts.map T.str)
 | []=>Yu
 | t::ts=>Yj Wd (Dx ts)
section
variable {X:Cx}{e:WW}{we:WE}{pos p p2 pos2:Pos}
def r4 (hc:X.calm=true):Qz X (.builtin "sorted") nH:=⟨_,Ek hc,λF H C xs vs Q Q' R rs h q=>by
 obtain⟨l,kvs,ts,rfl,hC,hk,hl,h⟩:=h;obtain⟨x,rfl,rx⟩:=Wu rs
 cases Zu rx
 obtain⟨ks,hH,pr⟩:=R.dic hC;refine⟨l,ks,ts,FV,.inl hH,by rw[PR.keys pr];exact hk,hl,λp ys hp e1 e2=>?_⟩;exact q _ _ _ _ (R.newL hp (Dx ys)) (Tx.new hp) Jd (h p ys (R.free hp) e1 e2)⟩
end
end WL
namespace L2
open PySem PySem.Spec PyProof.Rows
section
variable {X:Cx}{tg:WW}
end
end L2
namespace WL
open PySem PySem.Spec PyProof.Rows L2
section
variable {X:Cx}{tg a:WW}{wA:WA}{pos p:Pos}
end
end WL
namespace L2
open PySem PySem.Spec PyProof.Rows
section
variable {X:Cx}
end
end L2
namespace WL
open PySem PySem.Spec PyProof.Rows L2
section
variable {X:Cx}
end
end WL
namespace L2
open PySem PySem.Spec PyProof.Rows
def ph:typeLookup (.type "list_reverseiterator") "__len__"=pure none:=by
 rw[typeLookup_type];rw[builtinLookup_eq_fast];kernel_rfl
def t8:typeLookup (.type "list_reverseiterator") "__length_hint__"=pure (some (.builtin "list_reverseiterator.__length_hint__")):=by
 rw[typeLookup_type];rw[builtinLookup_eq_fast];kernel_rfl
section
variable {prog:WO}{w:WN}{A:WM}{E:WQ->WR->Prop}{s:WR}{it l:WP}{i:Int}
def vn {Q:Bool->WR->Prop}(hit:s.heap.IsRevIter it l i)(h:Q false s):wpAny (model prog w) A (Builtin.List.listLengthHint (.ref it)) Q E s:=by
 have hT:=hit.typeIs;unfold Builtin.List.listLengthHint;refine XA (wpAny_specialOf hT ph ?_);show wpAny _ A (specialOf (Value.ref it) (Str.ofString "__length_hint__")>>=_) _ _ _;refine XA (wpAny_specialOf hT t8 ?_);generalize hid:("list_reverseiterator.__length_hint__":String)=id0
 wp_delta
 rw[show splitId id0=some ("list_reverseiterator","__length_hint__") from by subst hid;decide+kernel];subst hid;refine XA (wpAny_isInstance (T:="list_reverseiterator") (b:=true) hT (by rw[isSubtype_type];kernel_rfl) ?_);refine wpAny_ite_split (λz=>absurd z (by decide)) (λ_=>?_);refine wpAny_ite_split (λ_=>?_) (λz=>absurd (by decide+kernel) z);refine wpAny_ite_split (λz=>absurd z (by decide+kernel)) (λ_=>?_);exact XB h
def vi {R:Result->WR->Prop}{items:Array WQ}(hh:A.handled=none)(n:Nat)(hn:items.size=n)(hsz:n<=sizeLine)(S:WP)(hSi:S≠it)(hSl:S≠l)(hil:l≠it)
  (hit:s.heap.IsRevIter it l ((n:Int)-1)) (hl:s.heap.IsList l items) (hS:s.heap.get? S=some {cls:=.type "list",data:=.seq #[]})
  (hR:∀s' acc' c',Moved [S,it] (λa b=>b=a) s s'->s'.heap.get? S=some {cls:=.type "list",dict:=none,data:=.seq acc' c',slots:=#[]}->ItemsOf (λi v=>items[items.size-1-i]?=some v) acc' n->R (.ok (.ret .none)) s'):
  wpAny (model prog w) A.in1 (Builtin.«list.__init__» ⟨[.ref S,.ref it],[]⟩)
   (λfin s2=>match fin with | .done f=>R (.ok f) s2 | .again c2=>c2.quiet=true/\codeAny (model prog w) A c2 R s2) (λe s2=>R (.error e) s2) s:=by
 have W:=(Walks.listRev (prog:=prog) (w:=w) (A:=A.in1) hh it l hil items).toS;rw[hn] at W;have hSf:S∉[it,l]:=by simp[hSi,hSl]
 show wpAny _ A.in1 (Builtin.List.listItems (.ref S)>>=λold=>Builtin.List.listUpdate (.ref S) (λ_=>#[])>>=λ_=>letGo old.toList.reverse>>=λ_=>Builtin.List.listExtendWith (.ref S) (.ref it) .none) _ _ s;unfold Builtin.List.listItems;refine XA ?_;refine XA (wpAny_seqItems hS FV (XB ?_));show wpAny _ A.in1 (updateSeq S (λ_=>#[])>>=λ_=>letGo (#[]:Array WQ).toList.reverse>>=λ_=>Builtin.List.listExtendWith (.ref S) (.ref it) .none) _ _ s;refine XA (wpAny_updateSeq hS FV ?_);have hS2:=DQ (Obj.mapSeq (λ_=>(#[]:Array WQ))) hS FV;have oth:∀b o,b≠S->s.heap.get? b=some o->(s.heap.update S (Obj.mapSeq (λ_=>(#[]:Array WQ)))).get? b=some o:=λb o hb e=>
  (DL _ _ (Ne.symm hb)).trans e
 refine XA (wpAny_letGo ?_);unfold Builtin.List.listExtendWith;have hit2:(s.heap.update S (Obj.mapSeq (λ_=>(#[]:Array WQ)))).IsRevIter it l ((n:Int)-1):=hit.at λo e=>oth it o hSi.symm e;have hl2:(s.heap.update S (Obj.mapSeq (λ_=>(#[]:Array WQ)))).IsList l items:=hl.at λo e=>oth l o hSl.symm e;refine XA (wpAny_typeOf (T:="list_reverseiterator") (Heap.IsRevIter.typeIs (s:={s with heap:=_}) hit2) ?_);have h1:Builtin.List.listSameRef (.ref S) (.ref it)=false:=by simp[Builtin.List.listSameRef,hSi]
 have h2:(Value.type "list_reverseiterator"==Value.type "list")=false:=by decide
 have h3:(Value.type "list_reverseiterator"==Value.type "tuple")=false:=by decide
 simp only[h1,h2,h3,Bool.or_false,Bool.false_eq_true,if_false];refine XA (wpAny_pyIter_revIter hit2 ?_);refine XA (wpAny_holding (vn hit2 ?_));have st:(λi (h:WU)=>i<=n/\h.IsRevIter it l ((n:Int)-1-(i:Int))/\h.IsList l items) 0 (s.heap.update S (Obj.mapSeq (λ_=>(#[]:Array WQ)))):=⟨Nat.zero_le _,by simpa using hit2,hl2⟩;refine wpAny_ite_split (λz=>absurd z (by decide+kernel)) (λ_=>?_);refine XB ⟨plainId_quiet DZ _,?_⟩;refine codeAny_extend_loopS W hsz S hSf .none n 0 _ #[] _ FV (XO _) st hS2 (ItemsOf.nil _) λs3 acc3 c3 hm hS3 hacc=>?_;refine hR s3 acc3 c3 ⟨λb o hb e=>?_,hm.gens,hm.drawn,hm.os,hm.toks⟩ hS3 (by rw[hn];exact hacc);exact hm.heap b o hb (oth b o (λz=>hb (by rw[z];simp)) e)
def Em {Q:WQ->WR->Prop}{items:Array WQ}(hh:A.handled=none)(hsz:items.size<=sizeLine)(hil:l≠it)(hit:s.heap.IsRevIter it l ((items.size:Int)-1))(hl:s.heap.IsList l items)
  (hQ:∀h2 t2 acc2 c2,(∀b o,b≠it->s.heap.get? b=some o->h2.get? b=some o)->h2.get? s.heap.objs.size=some {cls:=.type "list",dict:=none,data:=.seq acc2 c2,slots:=#[]}->ItemsOf (λi v=>items[items.size-1-i]?=some v) acc2 items.size->Q (.ref s.heap.objs.size) {s with heap:=h2,toks:=t2}):
  wpAny (model prog w) A (call (.type "list") [.ref it]) Q E s:=by
 refine callType_codes (Q₁:=λob s1=>ob=.ref s.heap.objs.size/\s1={s with heap:=s.heap.push {cls:=.type "list",data:=.seq #[]}}) PySem.F.called_list (PySem.F.typeCall_list_1 _) PySem.F.entry_list_init (code_list_new _ ⟨FV,FV⟩) λob s1 h1=>?_;obtain⟨rfl,rfl⟩:=h1;have hS:(s.heap.push {cls:=.type "list",data:=.seq #[]}).get? s.heap.objs.size=some {cls:=.type "list",data:=.seq #[]}:=XF _ FV;have ltI:it<s.heap.objs.size:=by obtain⟨_,e,_⟩:=hit;exact XD e
 have ltL:l<s.heap.objs.size:=by obtain⟨_,e,_⟩:=hl;exact XD e
 refine⟨⟨_,hS,FV⟩,PySem.F.args_list_init_2 _ _,vi (A:=A.in1) hh items.size FV hsz _ (DA ltI) (DA ltL) hil (hit.at λo e=>XC _ e) (hl.at λo e=>XC _ e) hS λs3 acc3 c3 hm hS3 hacc=>⟨FV,?_⟩⟩;rw[Moved.eq_with hm];exact hQ s3.heap s3.toks acc3 c3 (λb o hb e=>hm.heap b o (by simp only[List.mem_cons,List.not_mem_nil,or_false,not_or];exact⟨Nat.ne_of_lt (Heap.lt_size e),hb⟩) (Heap.get?_push_of_some _ e)) hS3 hacc
end
section
variable {X:Cx}
def E9:∀{xs:List V} {us:List WQ},Z0 xs us->Z0 xs.reverse us.reverse
 | _,_,.nil=>.nil
 | _,_,.cons r t=>by rw[CG,CG];exact(E9 t).append (.cons r .nil)
def jl {its:List WQ}{acc:Array WQ}(h:ItemsOf (λi v=>its.toArray[its.toArray.size-1-i]?=some v) acc its.toArray.size):acc.toList=its.reverse:=by
 obtain⟨h1,h2⟩:=h;have hl:its.toArray.size=its.length:=by simp
 refine List.ext_getElem? λj=>?_;by_cases c:j<acc.size
 ·have e:acc[j]?=some acc[j]:=by simp[c]
  have h3:=h2 j _ e;rw[DR,e,<-h3,hl];rw[List.getElem?_reverse (by omega)];simp
 ·rw[List.getElem?_eq_none (by simp;omega),List.getElem?_eq_none (by simp;omega)]
def mO (K:WY)(ta:TE):TE:=λσ H Q=>ta σ H λx H1=>∃a xs,x=.ref a/\Wl K H1 a xs/\∀p,H1 p=none->Q (.ref p) (Yo H1 p (.lst xs.reverse))
def An {a:WW}{ta:TE}{p pos p2 pos2:Pos}(hc:X.calm=true)(hg:Gl X "list")(hm:X.mg "list"=none)(hg2:Gl X "reversed")(hm2:X.mg "reversed"=none)(ha:PE X a ta)(hs:starEach [a] X.env=[(false,eval a X.env)]:=by rfl)
  (hs2:starEach [.Call (.Name "reversed" p2) [a] [] pos2] X.env=[(false,eval (.Call (.Name "reversed" p2) [a] [] pos2) X.env)]:=by rfl) (hb:bootBuiltins "reversed"=some (.type "reversed"):=by decide+kernel) (hb2:bootBuiltins "list"=some (.type "list"):=by decide+kernel):
  PE X (.Call (.Name "list" p) [.Call (.Name "reversed" p2) [a] [] pos2] [] pos) (mO X.K ta):=by
 intro WZ s σ H Q I h;refine Call_ (Vi I hg hm hb2 (BI ?_ hs2 FV));rw[hs2];show wpAny _ _ (spliced ((false,eval (.Call (.Name "reversed" p2) [a] [] pos2) X.env)::backTo pos [])) _ _ s;refine BV (Call_ (Vi I hg2 hm2 hb (BI ?_ hs FV)));have pa:PA X [a] (Dh ta xA):=zZ ha wG hs;refine Ja (pa pos2 WZ s σ H (λxs H1=>match xs with | [x]=>∃a ys,x=.ref a/\Wl X.K H1 a ys/\∀p,H1 p=none->Q (.ref p) (Yo H1 p (.lst ys.reverse)) | _=>False) I h) λus s1 ⟨vs,H1,I1,r1,q1⟩=>?_;have one:∃x,vs=[x]:=by
  match vs,q1 with
  | [x],_=>exact⟨x,FV⟩
  | [],q1=>exact q1.elim
  | _::_::_,q1=>exact q1.elim
 obtain⟨x,rfl⟩:=one;obtain⟨l,ys,rfl,hq,q⟩:=q1;obtain⟨u,rfl,ru⟩:=Qq r1
 cases ru
 obtain⟨its,rv,pl,hz⟩:=I1.list hq;have hlen:=rv.length;refine call_reversed_list pl.isList ?_;have ltL:l<s1.heap.objs.size:=by obtain⟨_,e,_⟩:=pl.isList;exact XD e
 refine CV ?_;have hit:(s1.heap.push (revObj l ((its.toArray.size:Int)-1))).IsRevIter s1.heap.objs.size l ((its.toArray.size:Int)-1):=⟨_,XF _ FV,FV,FV⟩;have hl2:(s1.heap.push (revObj l ((its.toArray.size:Int)-1))).IsList l its.toArray:=pl.isList.at λo e=>XC _ e;refine Em (s:={s1 with heap:=s1.heap.push (revObj l ((its.toArray.size:Int)-1))}) (I.ok.hd hc) (by simp only[List.size_toArray];omega) (Nat.ne_of_lt ltL) hit hl2 λh2 t2 acc c2 kp hN hI=>?_;have hp:s1.heap.objs.size<=(s1.heap.push (revObj l ((its.toArray.size:Int)-1))).objs.size:=by rw[CD];omega
 refine⟨.ref _,_,I1.laid (h':=h2) (t':=t2) (λb o e=>kp b o (XH (XD e)) (XC _ e)) hp (show Y2 X.prog X.w _ h2 _ (.lst ys.reverse) from⟨by rw[CP];exact hz,its.reverse,c2,E9 rv,?_⟩),FV,q _ (I1.hok.fresh hp)⟩;rw[<-jl hI];exact hN
def c9 (X:Cx)(e:WW)(t:TE):Prop:=
 ∀(WZ:List (WP×Obj)) (s:WR) (σ:St) (H:Hp) (Q:VK),Zl X WZ σ H s->t σ H Q->wpAny (model X.prog X.w) X.A (eval e X.env) (λv s'=>1<=s'.toks/\EP X WZ σ Q v s') X.xe s
def xv {α:Type}{t:Sem α}{Q:α->WR->Prop}{M:Model}{A:WM}{E:WQ->WR->Prop}{s:WR}(h1:1<=s.toks)(h:wpAny M A t Q E s):wpAny M A t (λa s'=>1<=s'.toks/\Q a s') E s:=
 wpAny_mono (wpAny_toks_of h1 h) (λ_ _ z=>z) λ_ _ z=>z.2
variable {o e:WW}{es:List WW}{to:TE}{t:TA}{apos cpos:Pos}{z y:Str}{k k1 k2:Nat}{lp lp1 lp2:Pos}
end
end L2
namespace WL
open PySem PySem.Spec PyProof.Rows L2
section
variable {X:Cx}{e o:WW}{we wo:WE}{p p2 pos pos2 apos cpos:Pos}
def sr:T->List T->Hw->WK->Prop:=λx vs C Q=>∃a b xs zs,x=.ref a/\vs=[.ref b]/\C a=some (.lst xs)/\C b=some (.lst zs)/\xs.length+zs.length<=sizeLine/\Q .non (up C a (.lst (xs++zs)))
def Lr:iB X "list.extend" sr:=⟨_,je,λF H C x v xs vs Q Q' R rx rs h q=>by
 obtain⟨a,b,ts,us,rfl,rfl,ha,hb,hl,h⟩:=h
 cases Zu rx
 obtain⟨y,rfl,ry⟩:=Wu rs
 cases Zu ry
 obtain⟨ys,hy,r⟩:=R.lst ha;obtain⟨zs,hz,r2⟩:=R.lst hb;obtain⟨R',t⟩:=R.putL ha (r.app r2);exact⟨a,b,ys,zs,FV,FV,hy,hz,by rw[r.length,r2.length];exact hl,q _ _ _ _ R' t T3 h⟩⟩
def kM (e:WE):WE:=λτ C Q χ=>e τ C (λx C1=>∃a xs,x=.ref a/\C1 a=some (.lst xs)/\∀p,C1 p=none->Q (.ref p) (up C1 p (.lst xs.reverse))) χ
def vU (hc:X.calm=true)(hg:Gl X "list")(hm:X.mg "list"=none)(hg2:Gl X "reversed")(hm2:X.mg "reversed"=none)(he:Jc X e we)(hs:starEach [e] X.env=[(false,eval e X.env)]:=by rfl)
  (hs2:starEach [.Call (.Name "reversed" p2) [e] [] pos2] X.env=[(false,eval (.Call (.Name "reversed" p2) [e] [] pos2) X.env)]:=by rfl):
  Jc X (.Call (.Name "list" p) [.Call (.Name "reversed" p2) [e] [] pos2] [] pos) (kM we):=by
 obtain⟨t,p1,sm⟩:=he;refine⟨_,An hc hg hm hg2 hm2 p1 hs hs2,λF H C σ τ Q Q' χ R S h q=>?_⟩;refine sm F H C σ τ _ _ χ R S h λx v H1 C1 R1 t1 rx h1=>?_;obtain⟨a,xs,rfl,hC,h1⟩:=h1
 cases Zu rx
 obtain⟨ys,hH,rs⟩:=R1.lst hC;exact⟨a,ys,FV,Wl.of hH,λb hb=>q _ _ _ _ (R1.newL hb rs.reverse) (t1.trans (Tx.new hb)) Jd (h1 b (R1.free hb))⟩
def Ei:Vp X (.type "str") (λxs H Q=>∃z,xs=[.str z]/\Q (.str z) H):=by
 intro WZ s σ H xs us Q I r h;obtain⟨z,rfl,q⟩:=h;obtain⟨u,rfl,t,rfl⟩:=Qq r;exact PySem.P.str_of_str ⟨.str z,H,I,⟨_,FV⟩,q⟩
def ij:List T->Hw->WK->Prop:=λvs C Q=>(∃i:Int,vs=[.int i]/\i.natAbs.log2<1920/\Q (.str (toString i)) C)\/∃z,vs=[.str z]/\Q (.str z) C
def nF:Qz X (.type "str") ij:=⟨_,Ej.or Ei,λF H C xs vs Q Q' R rs h q=>by
 rcases h with⟨j,rfl,hl,h⟩ | ⟨z,rfl,h⟩
 ·obtain⟨x,rfl,rx⟩:=Wu rs
  cases Z4 rx
  exact .inl ⟨j,FV,hl,q _ _ H C R (Tx.refl H) Wd h⟩
 ·obtain⟨x,rfl,rx⟩:=Wu rs
  cases Ju rx
  exact .inr ⟨z,FV,q _ _ H C R (Tx.refl H) Wd h⟩⟩
def bf (X:Cx)(e:WW)(w:WE):Prop:=∃t,c9 X e t/\Ur X.K t w
def dg (y z:Str)(o:WE):WE:=λτ C Q χ=>o τ C (λx C1=>∃u,x=.str u/\u.length<=1048576/\Q (.str (Txt.replace u y z)) C1) χ
end
end WL
namespace L2
open PySem PySem.Spec PyProof.Rows
section
variable {prog:WO}{w:WN}{A:WM}{E:WQ->WR->Prop}{s:WR}{a b:WP}{oa ob:Obj}{ea eb:Array DictEntry}{pa pb:Nat}
end
section
variable {prog:WO}{w:WN}{A:WM}{E:WQ->WR->Prop}{s:WR}
def uU {jt q:WP}{i:Nat}{its:Array WQ}{x:WQ}{Q:WQ->WR->Prop}(hj:s.heap.IsTupleIter jt q i)(hq:s.heap.IsTuple q its)(hx:its[i]?=some x)
  (hQ:∀h2,h2.IsTupleIter jt q (i+1)->Heap.SameBut jt s.heap h2->Q x {s with heap:=h2}):wpAny (model prog w) A (Builtin.SmallTypes.nextOf (.ref jt)) Q E s:=by
 obtain⟨ob,hob,hcl,hda⟩:=id hj;obtain⟨oq,hoq,_,nq,hdq⟩:=hq;unfold Builtin.SmallTypes.nextOf;refine XA (wpAny_callSpecial?_slot (name:=Str.ofString "__next__") hj.typeIs CU (wpAny_call_entry CU hj.typeIs F.entry_tuple_iterator_next ?_ (FK _)));show wpAny _ _ (field (.ref jt) 0>>=_) _ _ s;refine XA (wpAny_field hob hda (x:=.ref q) FV ?_);show wpAny _ _ (if (Value.ref q==Value.none)=true then _ else _) _ _ s;rw[XX (show ¬((Value.ref q==Value.none)=true) from YJ)];show wpAny _ _ (field (.ref jt) 1>>=_) _ _ s;refine XA (wpAny_field hob hda (x:=.int i 0) FV ?_);show wpAny _ _ (seqItems? (.ref q)>>=_) _ _ s;refine XA (wpAny_seqItems hoq hdq ?_);simp only[Int.toNat_natCast,hx];refine wpAny_bind (wpAny_setField hob hda (by simp) (wpAny_pure ⟨x,FV,wpAny_pure (hQ _ ?_ (Heap.SameBut.update ..))⟩));refine⟨_,DQ _ hob (Obj.isFreed_of_fields (Obj.data_mapFields hda _)),(Obj.cls_mapFields ..).trans hcl,?_⟩;rw[Obj.data_mapFields hda];simp[rawInt]
def qM {jt q:WP}{i:Nat}{its:Array WQ}{Q:WQ->WR->Prop}(hh:A.handled=none)(hj:s.heap.IsTupleIter jt q i)(hq:s.heap.IsTuple q its)(hx:its[i]?=none)
  (hE:∀h2 ex,Heap.ExtBut jt s.heap h2->(∃o,h2.get? ex=some o/\o.cls=.type "StopIteration")->E (.ref ex) {s with heap:=h2}):wpAny (model prog w) A (Builtin.SmallTypes.nextOf (.ref jt)) Q E s:=by
 obtain⟨ob,hob,hcl,hda⟩:=id hj;obtain⟨oq,hoq,_,nq,hdq⟩:=hq;unfold Builtin.SmallTypes.nextOf;refine XA (wpAny_callSpecial?_slot (name:=Str.ofString "__next__") hj.typeIs CU (wpAny_call_entry CU hj.typeIs F.entry_tuple_iterator_next ?_ (FK _)));show wpAny _ _ (field (.ref jt) 0>>=_) _ _ s;refine XA (wpAny_field hob hda (x:=.ref q) FV ?_);show wpAny _ _ (if (Value.ref q==Value.none)=true then _ else _) _ _ s;rw[XX (show ¬((Value.ref q==Value.none)=true) from YJ)];show wpAny _ _ (field (.ref jt) 1>>=_) _ _ s;refine XA (wpAny_field hob hda (x:=.int i 0) FV ?_);show wpAny _ _ (seqItems? (.ref q)>>=_) _ _ s;refine XA (wpAny_seqItems hoq hdq ?_);simp only[Int.toNat_natCast,hx];refine wpAny_bind (wpAny_rule (wpAny_bind (wpAny_setField hob hda (by simp) ?_)));refine XA ?_;simp only[newExc,newTuple];refine XA (wpAny_newObj_type ?_ (by size_fits));refine wpAny_bind (m:=firstArgMember _ _) (wpAny_of_eq (a:=Value.none) (by first | rfl | (simp only[firstArgMember]<;>rfl)) ?_);refine wpAny_newObj_type ?_ (by size_fits);simp only[raiseNew];refine XA (wpAny_handled ?_);rw[show A.in1.handled=none from hh];exact XA (XB (wpAny_throw (hE _ _ (((Heap.SameBut.update ..).extBut.push _).push _) ⟨_,XF _ FV,FV⟩)))
end
def Qk {prog:WO}{w:WN}{A:WM}(hh:A.handled=none)(jt q:WP)(hne:q≠jt)(its:Array WQ):
  Draws prog w A jt [jt,q] its.size (λi v=>its[i]?=some v) (λi h=>h.IsTupleIter jt q i/\h.IsTuple q its) where
 live:=λ_ _ st=>let ⟨o,ho,_⟩:=st.1;⟨o,ho⟩
 frame:=λ_ _ _ st k=>⟨st.1.at λo e=>k jt (by simp) o e,st.2.at λo e=>k q (by simp) o e⟩
 item:=λi s Q E hi st hQ=>uU st.1 st.2 (x:=its[i]) (by simp[hi]) λh2 a b=>hQ _ h2 s.toks (by simp[hi]) ⟨a,st.2.extBut b.extBut hne⟩ b
 done:=λs Q E st hE=>qM hh st.1 st.2 (by simp) hE
structure jG (z TI TO i1 i2:Addr)(f1 f2:List Addr):Prop where
 m1:i1∈f1
 m2:i2∈f2
 z1:z∉f1
 z2:z∉f2
 o1:TO∉f1
 o2:TO∉f2
 a12:i1∉f2
 a21:i2∉f1
 tz:TI≠z
 oz:TO≠z
 io:TI≠TO
 t1:TI≠i1
 t2:TI≠i2
section
variable {prog:WO}{w:WN}{A:WM}{E:WQ->WR->Prop}{s:WR}{z TI TO i1 i2:WP}{f1 f2:List WP}{n:Nat}{P1 P2:Nat->WQ->Prop}{S1 S2:Nat->WU->Prop}
def zL {i:Nat}{u v:WQ}{Q:WQ->WR->Prop}(D1:Draws prog w A i1 f1 n P1 S1)(D2:Draws prog w A i2 f2 n P2 S2)(Z:jG z TI TO i1 i2 f1 f2)(hi:i<n)
  (hz:IsZip s.heap z TI TO .none) (hTI:IsPair s.heap TI (.ref i1) (.ref i2)) (hTO:IsPair s.heap TO u v) (s1:S1 i s.heap) (s2:S2 i s.heap)
  (hQ:∀x y h2 t2,P1 i x->P2 i y->IsZip h2 z TI TO (rawInt s.heap.objs.size)->IsPair h2 TO x y->S1 (i+1) h2->S2 (i+1) h2->IsPair h2 s.heap.objs.size x y->
   (∀c o,c≠z->c≠TO->c≠i1->c≠i2->s.heap.get? c=some o->h2.get? c=some o)->Q (.ref s.heap.objs.size) {s with heap:=h2,toks:=t2}):
  wpAny (model prog w) A (Builtin.«zip.__next__» ⟨[.ref z],[]⟩) (λfin s2=>∃r,fin=.done (.ret r)/\Q r s2) E s:=by
 show wpAny _ _ (field (.ref z) 2>>=_) _ E s;refine XA (wpAny_field hz FV (x:=.bool false) FV ?_);show wpAny _ _ (field (.ref z) 3>>=_) _ E s;refine XA (wpAny_field hz FV (x:=.ref TI) FV ?_);refine XA (wpAny_seqItems hTI FV ?_);show wpAny _ _ (Builtin.SmallTypes.ownedTupleIsFree (.ref z)>>=_) _ E s;refine XA ?_;unfold Builtin.SmallTypes.ownedTupleIsFree;refine XA (wpAny_field hz FV (x:=.none) FV (XB ?_));simp only[if_true];refine XA (wpAny_rule ?_);refine XA (wpAny_field hz FV (x:=.ref TO) FV ?_);refine wpAny_bind (wpAny_setField_rec hz (by simp) λha hza sa=>?_)
 replace hza:IsZip ha z TI TO .ellipsis:=hza
 refine XA ?_;simp only[List.zipIdx_cons,List.zipIdx_nil,List.forIn_cons,List.forIn_nil];have ne:∀{b c:WP} {l:List WP},b∈l->c∉l->b≠c:=λhb hc e=>hc (e▸hb);have a1:S1 i ha:=D1.frame i _ _ s1 λb hb o e=>sa.extBut _ _ (ne hb Z.z1) e;have a2:S2 i ha:=D2.frame i _ _ s2 λb hb o e=>sa.extBut _ _ (ne hb Z.z2) e;refine XA (XA (wpAny_onRaise ?_));show wpAny _ _ (Builtin.SmallTypes.nextOf (.ref i1)>>=_) _ _ _;refine XA (D1.item i {s with heap:=ha} _ _ hi a1 λx hb tb hx b1 sb=>XB ?_);have b2:S2 i hb:=D2.frame i _ _ a2 λb hm o e=>sb.extBut _ _ (ne hm Z.a12) e;have Oi1:TO≠i1:=λe=>Z.o1 (e▸Z.m1);have Oi2:TO≠i2:=λe=>Z.o2 (e▸Z.m2);have zi1:z≠i1:=λe=>Z.z1 (e▸Z.m1);have zi2:z≠i2:=λe=>Z.z2 (e▸Z.m2);have tob:IsPair hb TO u v:=sb.extBut _ _ Oi1 (sa.extBut _ _ Z.oz hTO);refine XA (wpAny_seqItems tob FV ?_);refine XA (wpAny_updateSeq_pair tob λhc toc sc=>?_)
 replace toc:IsPair hc TO x v:=toc
 refine XA (wpAny_letGo (XB ?_));have c1:S1 (i+1) hc:=D1.frame _ _ _ b1 λb hm o e=>sc.extBut _ _ (ne hm Z.o1) e;have c2:S2 i hc:=D2.frame _ _ _ b2 λb hm o e=>sc.extBut _ _ (ne hm Z.o2) e;refine XA (XA (wpAny_onRaise ?_));show wpAny _ _ (Builtin.SmallTypes.nextOf (.ref i2)>>=_) _ _ _;refine XA (D2.item i {s with heap:=hc,toks:=tb} _ _ hi c2 λy hd td hy d2 sd=>XB ?_);have d1:S1 (i+1) hd:=D1.frame _ _ _ c1 λb hm o e=>sd.extBut _ _ (ne hm Z.a21) e;have tod:IsPair hd TO x v:=sd.extBut _ _ Oi2 toc;refine XA (wpAny_seqItems tod FV ?_);refine XA (wpAny_updateSeq_pair tod λhe toe se=>?_)
 replace toe:IsPair he TO x y:=toe
 refine XA (wpAny_letGo (XB (XB ?_)));have e1:S1 (i+1) he:=D1.frame _ _ _ d1 λb hm o e=>se.extBut _ _ (ne hm Z.o1) e;have e2:S2 (i+1) he:=D2.frame _ _ _ d2 λb hm o e=>se.extBut _ _ (ne hm Z.o2) e;refine XA (wpAny_seqItems toe FV ?_);refine XA (wpAny_newTuple ?_);have hsz:he.objs.size=s.heap.objs.size:=by rw[se.1,sd.1,sc.1,sb.1,sa.1]
 have hze:IsZip he z TI TO .ellipsis:=se.extBut _ _ Z.oz.symm (sd.extBut _ _ zi2 (sc.extBut _ _ Z.oz.symm (sb.extBut _ _ zi1 hza)));have hke:∀c o,c≠z->c≠TO->c≠i1->c≠i2->s.heap.get? c=some o->he.get? c=some o:=λc o n1 n2 n3 n4 e=>se.extBut _ _ n2 (sd.extBut _ _ n4 (sc.extBut _ _ n2 (sb.extBut _ _ n3 (sa.extBut _ _ n1 e))));have hzlt:z<he.objs.size:=XD hze;show wpAny _ _ (Builtin.SmallTypes.ownedTupleHandOut (.ref z) (.ref he.objs.size)>>=_) _ _ _;refine XA ?_;unfold Builtin.SmallTypes.ownedTupleHandOut;have hzf:IsZip (he.push {cls:=.type "tuple",data:=.seq #[x,y]}) z TI TO .ellipsis:=XC _ hze;refine wpAny_bind (wpAny_setField_rec hzf (by simp) λhg hzg sg=>?_)
 replace hzg:IsZip hg z TI TO (rawInt he.objs.size):=hzg
 refine wpAny_setField_rec hzg (by simp) λhk hzk sk=>?_
 replace hzk:IsZip hk z TI TO (rawInt he.objs.size):=hzk
 have up:∀c o,c≠z->he.get? c=some o->hk.get? c=some o:=λc o n1 e=>sk.extBut _ _ n1 (sg.extBut _ _ n1 (XC _ e));have hT:IsPair hk he.objs.size x y:=sk.extBut _ _ (DA hzlt) (sg.extBut _ _ (DA hzlt) (XF _ FV));rw[hsz] at hzk hT;refine XB ⟨_,FV,?_⟩;show Q (.ref he.objs.size) _;rw[hsz];exact hQ x y hk td hx hy hzk (up _ _ Z.oz toe) (D1.frame _ _ _ e1 λb hm o e=>up _ o (ne hm Z.z1) e) (D2.frame _ _ _ e2 λb hm o e=>up _ o (ne hm Z.z2) e) hT λc o n1 n2 n3 n4 e=>up c o n1 (hke c o n1 n2 n3 n4 e)
def xh {u v:WQ}{Q:Fin->WR->Prop}(D1:Draws prog w A i1 f1 n P1 S1)(Z:jG z TI TO i1 i2 f1 f2)
  (hz:IsZip s.heap z TI TO .none) (hTI:IsPair s.heap TI (.ref i1) (.ref i2)) (hTO:IsPair s.heap TO u v) (s1:S1 n s.heap)
  (hE:∀h2 ex,(∀c o,c≠z->c≠TO->c≠i1->c≠i2->s.heap.get? c=some o->h2.get? c=some o)->(∃o,h2.get? ex=some o/\o.cls=.type "StopIteration")->E (.ref ex) {s with heap:=h2}):
  wpAny (model prog w) A (Builtin.«zip.__next__» ⟨[.ref z],[]⟩) Q E s:=by
 show wpAny _ _ (field (.ref z) 2>>=_) _ E s;refine XA (wpAny_field hz FV (x:=.bool false) FV ?_);show wpAny _ _ (field (.ref z) 3>>=_) _ E s;refine XA (wpAny_field hz FV (x:=.ref TI) FV ?_);refine XA (wpAny_seqItems hTI FV ?_);show wpAny _ _ (Builtin.SmallTypes.ownedTupleIsFree (.ref z)>>=_) _ E s;refine XA ?_;unfold Builtin.SmallTypes.ownedTupleIsFree;refine XA (wpAny_field hz FV (x:=.none) FV (XB ?_));simp only[if_true];refine XA (wpAny_rule ?_);refine XA (wpAny_field hz FV (x:=.ref TO) FV ?_);refine wpAny_bind (wpAny_setField_rec hz (by simp) λha hza sa=>?_)
 replace hza:IsZip ha z TI TO .ellipsis:=hza
 refine XA ?_;simp only[List.zipIdx_cons,List.zipIdx_nil,List.forIn_cons,List.forIn_nil];have ne:∀{b c:WP} {l:List WP},b∈l->c∉l->b≠c:=λhb hc e=>hc (e▸hb);have a1:S1 n ha:=D1.frame n _ _ s1 λb hb o e=>sa.extBut _ _ (ne hb Z.z1) e;refine XA (XA (wpAny_onRaise ?_));show wpAny _ _ (Builtin.SmallTypes.nextOf (.ref i1)>>=_) _ _ _;refine XA (D1.done {s with heap:=ha} _ _ a1 λhb ex sb he=>?_);obtain⟨oe,hoe,hce⟩:=he;have hzb:IsZip hb z TI TO .ellipsis:=sb _ _ (λe=>Z.z1 (e▸Z.m1)) hza;have hez:ex≠z:=λe=>by subst e;rw[hzb] at hoe;cases hoe;simp at hce
 exact wpAny_setField_rec hzb (by simp) λhc _ sc=>hE hc ex (λc o n1 _ n3 _ e=>sc.extBut _ _ n1 (sb _ _ n3 (sa.extBut _ _ n1 e))) ⟨oe,sc.extBut _ _ hez hoe,hce⟩
def E7 (D1:Draws prog w A.in1 i1 f1 n P1 S1)(D2:Draws prog w A.in1 i2 f2 n P2 S2)(Z:jG z TI TO i1 i2 f1 f2):
  WalksT prog w A z (z::TI::TO::(f1++f2)) [z,TO,i1,i2] n (λi vals=>∃x y,P1 i x/\P2 i y/\vals=#[x,y])
   (λi h=>IsZip h z TI TO .none/\IsPair h TI (.ref i1) (.ref i2)/\(∃a b,IsPair h TO a b)/\S1 i h/\S2 i h)
   (λi T h=>IsZip h z TI TO (rawInt T)/\IsPair h TI (.ref i1) (.ref i2)/\(∃a b,IsPair h TO a b)/\S1 (i+1) h/\S2 (i+1) h/\T∉[z,TO,i1,i2]) where
 sub:=λc hc=>by
  simp only[ZM,ZN,or_false] at hc
  rcases hc with rfl | rfl | rfl | rfl
  ·simp
  ·simp
  ·simp[Z.m1]
  ·simp[Z.m2]
 frame:=λi h h2 st k=>by
  obtain⟨a,b,⟨u,v,c⟩,d,e⟩:=st;exact⟨k z (by simp) _ a,k TI (by simp) _ b,⟨u,v,k TO (by simp) _ c⟩,D1.frame _ _ _ d λx hx o q=>k x (by simp[hx]) o q,D2.frame _ _ _ e λx hx o q=>k x (by simp[hx]) o q⟩
 item:=λi s Q E hi st hQ=>by
  obtain⟨a,b,⟨u,v,c⟩,d,e⟩:=st;have hT:s.TypeIs (.ref z) "zip":=⟨_,a,FV⟩;unfold pyNext;refine XA (wpAny_attempt (wpAny_callSpecial?_slot (name:=Str.ofString "__next__") hT BQ (wpAny_call_entry BQ hT DD
   (zL D1 D2 Z hi a b c d e λx y h2 t2 hx hy z1 z2 z3 z4 z5 z6=>XB ?_) (CY _))))
  have lt:∀{c o},s.heap.get? c=some o->s.heap.objs.size≠c:=λe=>DA (XD e);obtain⟨o1,l1⟩:=D1.live _ _ d;obtain⟨o2,l2⟩:=D2.live _ _ e;refine hQ s.heap.objs.size #[x,y] h2 t2 ⟨x,y,hx,hy,FV⟩ (Nat.le_refl _) ⟨_,z5,FV,_,FV⟩ ⟨z1,z6 _ _ Z.tz Z.io Z.t1 Z.t2 b,⟨_,_,z2⟩,z3,z4,?_⟩ λc o hc q=>z6 c o (λx=>hc (by simp[x])) (λx=>hc (by simp[x])) (λx=>hc (by simp[x])) (λx=>hc (by simp[x])) q;simp only[List.mem_cons,List.not_mem_nil,or_false,not_or];exact⟨lt a,lt c,lt l1,lt l2⟩
 go:=λelts k pos i T s Q E hm hQ=>by
  obtain⟨a,b,⟨u,v,c⟩,d,e,_⟩:=hm;refine wpAny_letOwnedTupleGo_zip a λh2 hz2 s2=>hQ h2 ⟨hz2,s2.extBut _ _ Z.tz b,⟨u,v,s2.extBut _ _ Z.oz c⟩,?_,?_⟩ λc o hc q=>s2.extBut _ _ (λx=>hc (by simp[x])) q
  ·exact D1.frame _ _ _ d λx hx o q=>s2.extBut _ _ (λz'=>Z.z1 (z'▸hx)) q
  ·exact D2.frame _ _ _ e λx hx o q=>s2.extBut _ _ (λz'=>Z.z2 (z'▸hx)) q
 apart:=λi T h hm=>hm.2.2.2.2.2
 done:=λs Q E st hQ=>by
  obtain⟨a,b,⟨u,v,c⟩,d,e⟩:=st;have hT:s.TypeIs (.ref z) "zip":=⟨_,a,FV⟩;unfold pyNext;refine XA (wpAny_attempt (wpAny_callSpecial?_slot (name:=Str.ofString "__next__") hT BQ (wpAny_call_entry BQ hT DD (xh D1 Z a b c d λh2 ex hk he=>?_) (CY _))));obtain⟨o,ho,hc⟩:=he;refine XA (wpAny_isInstance (T:="StopIteration") (b:=true) ⟨o,ho,hc⟩ isSubtype_stop ?_);exact wpAny_pure (hQ h2 s.toks λc o hc q=>hk c o (λx=>hc (by simp[x])) (λx=>hc (by simp[x])) (λx=>hc (by simp[x])) (λx=>hc (by simp[x])) q)
 self:=λi s Q E st h=>wpAny_pyIter_zip st.1 h
end
abbrev Cj (c:String)(l:WP):Obj:={cls:=.type c,data:=.fields #[.ref l,.int 0 0]}
abbrev zA (h:WU)(c1:String)(l1:WP):WU:=h.push (Cj c1 l1)
abbrev zB (h:WU)(c1:String)(l1:WP)(c2:String)(l2:WP):WU:=(zA h c1 l1).push (Cj c2 l2)
abbrev zC (h:WU)(c1:String)(l1:WP)(c2:String)(l2:WP):WU:=(zB h c1 l1 c2 l2).push {cls:=.type "tuple",data:=.seq #[.ref h.objs.size,.ref (zA h c1 l1).objs.size]}
abbrev zD (h:WU)(c1:String)(l1:WP)(c2:String)(l2:WP):WU:=(zC h c1 l1 c2 l2).push {cls:=.type "tuple",data:=.seq #[.none,.none]}
abbrev zE (h:WU)(c1:String)(l1:WP)(c2:String)(l2:WP):WU:=(zD h c1 l1 c2 l2).push {cls:=.type "zip",data:=.fields #[.none,.bool false,.bool false,.ref (zB h c1 l1 c2 l2).objs.size,.ref (zC h c1 l1 c2 l2).objs.size]}
def q5 (b:Bool)(h:WU)(l:WP)(its:Array WQ):Prop:=if b then h.IsList l its else h.IsTuple l its
def cX (b:Bool):String:=if b then "list_iterator" else "tuple_iterator"
def gT (c b:Bool)(l1 l2:WP)(xs ys:Array WQ):Meets (Builtin.«zip.__new__» ⟨[.type "zip",.ref l1,.ref l2],[]⟩) (λ_ R s=>q5 c s.heap l1 xs/\q5 b s.heap l2 ys/\
  R (.ok (.ret (.ref (zD s.heap (cX c) l1 (cX b) l2).objs.size))) {s with heap:=zE s.heap (cX c) l1 (cX b) l2}):=
 .of_wp λprog w A R s h=>by
  obtain⟨hp,g,d,tk,os⟩:=s;obtain⟨hl1,hl2,h⟩:=h;have hsub:=sub_zip
  cases c
  ·have hL1:Heap.IsTuple (Shared.heap ⟨hp,g,d,tk,os⟩) l1 xs:=hl1
   cases b
   ·have hL2:Heap.IsTuple (Shared.heap ⟨hp.push (Cj "tuple_iterator" l1),g,d,tk,os⟩) l2 ys:=Heap.IsTuple.push hl2 _
    wp_walk using wpAny_pyIter_tuple hL1,wpAny_pyIter_tuple hL2
    exact⟨_,FV,h⟩
   ·have hL2:Heap.IsList (Shared.heap ⟨hp.push (Cj "tuple_iterator" l1),g,d,tk,os⟩) l2 ys:=Heap.IsList.push hl2 _
    wp_walk using wpAny_pyIter_tuple hL1,wpAny_pyIter_list hL2
    exact⟨_,FV,h⟩
  ·have hL1:Heap.IsList (Shared.heap ⟨hp,g,d,tk,os⟩) l1 xs:=hl1
   cases b
   ·have hL2:Heap.IsTuple (Shared.heap ⟨hp.push (Cj "list_iterator" l1),g,d,tk,os⟩) l2 ys:=Heap.IsTuple.push hl2 _
    wp_walk using wpAny_pyIter_list hL1,wpAny_pyIter_tuple hL2
    exact⟨_,FV,h⟩
   ·have hL2:Heap.IsList (Shared.heap ⟨hp.push (Cj "list_iterator" l1),g,d,tk,os⟩) l2 ys:=Heap.IsList.push hl2 _
    wp_walk using wpAny_pyIter_list hL1,wpAny_pyIter_list hL2
    exact⟨_,FV,h⟩
structure nR (h h2:Heap)(c1:String)(l1:Addr)(c2:String)(l2:Addr):Prop where
 zip:IsZip h2 (h.objs.size+4) (h.objs.size+2) (h.objs.size+3) .none
 its:IsPair h2 (h.objs.size+2) (.ref h.objs.size) (.ref (h.objs.size+1))
 own:IsPair h2 (h.objs.size+3) .none .none
 i1:h2.get? h.objs.size=some (Cj c1 l1)
 i2:h2.get? (h.objs.size+1)=some (Cj c2 l2)
 keep:∀c o,h.get? c=some o->h2.get? c=some o
def h8 (h:WU)(c1:String)(l1:WP)(c2:String)(l2:WP):nR h (zE h c1 l1 c2 l2) c1 l1 c2 l2/\(zD h c1 l1 c2 l2).objs.size=h.objs.size+4:=by
 have z1:(zA h c1 l1).objs.size=h.objs.size+1:=CD ..;have z2:(zB h c1 l1 c2 l2).objs.size=h.objs.size+2:=by rw[CD,z1]
 have z3:(zC h c1 l1 c2 l2).objs.size=h.objs.size+3:=by rw[CD,z2]
 have z4:(zD h c1 l1 c2 l2).objs.size=h.objs.size+4:=by rw[CD,z3]
 have g5:(zE h c1 l1 c2 l2).get? (zD h c1 l1 c2 l2).objs.size=some _:=XF _ FV;have g4:(zE h c1 l1 c2 l2).get? (zC h c1 l1 c2 l2).objs.size=some _:=XC _ (XF _ FV);have g3:(zE h c1 l1 c2 l2).get? (zB h c1 l1 c2 l2).objs.size=some _:=XC _ (XC _ (XF _ FV));have g2:(zE h c1 l1 c2 l2).get? (zA h c1 l1).objs.size=some _:=XC _ (XC _ (XC _ (XF _ FV)));have g1:(zE h c1 l1 c2 l2).get? h.objs.size=some _:=XC _ (XC _ (XC _ (XC _ (XF _ FV))));rw[z2,z3,z4] at g5;rw[z1,z2] at g3;rw[z3] at g4;rw[z1] at g2;exact⟨⟨g5,g3,g4,g1,g2,λc o x=>XC _ (XC _ (XC _ (XC _ (XC _ x))))⟩,z4⟩
section
variable {prog:WO}{w:WN}{A:WM}{E:WQ->WR->Prop}{s:WR}
def Pf (c b:Bool){l1 l2:WP}{xs ys:Array WQ}{Q:WQ->WR->Prop}(hl1:q5 c s.heap l1 xs)(hl2:q5 b s.heap l2 ys)
  (h:∀h2,nR s.heap h2 (cX c) l1 (cX b) l2->Q (.ref (s.heap.objs.size+4)) {s with heap:=h2}):wpAny (model prog w) A (call (.type "zip") [.ref l1,.ref l2]) Q E s:=by
 refine callType_new PySem.F.called_zip (by decide) (PySem.F.typeCall_zip_2 _ _) (PySem.F.newCall_zip_2 _ _) (λobj=>PySem.F.args_object_init_3 obj _ _) PySem.F.entry_zip_new (gT c b l1 l2 xs ys) ⟨hl1,hl2,?_⟩;obtain⟨N,e⟩:=h8 s.heap (cX c) l1 (cX b) l2;show _/\_;rw[e];exact⟨⟨_,N.zip,FV⟩,h _ N⟩
def Mh {k l1 l2:WP}(h1:l1<k)(h2:l2<k):jG (k+4) (k+2) (k+3) k (k+1) [k,l1] [k+1,l2]:=by
 have e:∀{a b:Nat},a≠b->∀{l:List Nat},a∉l->a∉b::l:=λh _ h'=>by simp[h,h']
 have n:∀a:Nat,a∉([]:List Nat):=λa=>by simp
 have L1:(l1:Nat)<k:=h1;have L2:(l2:Nat)<k:=h2;have d:∀{a b:Nat},a<b\/b<a->a≠b:=λh e=>by omega
 exact⟨by simp,by simp,e (d (.inr (Nat.lt_add_of_pos_right (by decide)))) (e (d (.inr (Nat.lt_of_lt_of_le L1 (Nat.le_add_right _ _)))) (n _)),e (d (.inr (Nat.add_lt_add_left (by decide) k))) (e (d (.inr (Nat.lt_of_lt_of_le L2 (Nat.le_add_right _ _)))) (n _)),
  e (d (.inr (DI (by decide)))) (e (d (.inr (XG L1 (BL _ _)))) (n _)),e (d (.inr (DG (by decide) k))) (e (d (.inr (XG L2 (BL _ _)))) (n _)),
  e (d (.inl (DI (by decide)))) (e (d (.inr L2)) (n _)),e (d (.inr (DI (by decide)))) (e (d (.inr (XG L1 (BL _ _)))) (n _)),
  d (.inl (DG (by decide) k)),d (.inl (DG (by decide) k)),d (.inl (DG (by decide) k)),d (.inr (DI (by decide))),d (.inr (DG (by decide) k))⟩
end
def jH (b:Bool)(K:WY)(H:Hp)(a:WP)(xs:List V):Prop:=if b then Wl K H a xs else Vx K H a xs
def qA (b:Bool)(h:WU)(it l:WP)(i:Nat):Prop:=if b then h.IsListIter it l i else h.IsTupleIter it l i
def Mt {prog:WO}{w:WN}{A:WM}(b:Bool)(hh:A.handled=none)(it l:WP)(hne:l≠it)(its:Array WQ):
  Draws prog w A it [it,l] its.size (λi v=>its[i]?=some v) (λi h=>qA b h it l i/\q5 b h l its):=by
 cases b
 ·exact Qk hh it l hne its
 ·exact Draws.list hh it l hne its
section
variable {X:Cx}{WZ:List (WP×Obj)}{σ:St}{H:Hp}{s:WR}
def Zl.sqX {b:Bool}{a:WP}{xs:List V}(I:Zl X WZ σ H s)(h:jH b X.K H a xs):∃its:List WQ,Z0 xs its/\q5 b s.heap a its.toArray:=by
 cases b
 ·obtain⟨its,r,p,_⟩:=I.tuple h;exact⟨its,r,p⟩
 ·obtain⟨its,r,p,_⟩:=I.list h;exact⟨its,r,p.isList⟩
def q5.lt {b:Bool}{h:WU}{l:WP}{its:Array WQ}(p:q5 b h l its):l<h.objs.size:=by
 cases b
 ·obtain⟨_,e,_⟩:=p;exact XD e
 ·obtain⟨_,e,_⟩:=p;exact XD e
def qA.ob {b:Bool}{h:WU}{l k:WP}{i:Nat}(p:qA b h k l i):∃o,h.get? k=some o/\∀v,o.data≠.cell v:=by
 cases b
 ·obtain⟨o,e,c,d⟩:=p;exact⟨o,e,λv z=>by rw[d] at z;cases z⟩
 ·obtain⟨o,e,c,d⟩:=p;exact⟨o,e,λv z=>by rw[d] at z;cases z⟩
def qA.at {b:Bool}{h h':WU}{l k:WP}{i:Nat}(p:qA b h k l i)(q:∀o,h.get? k=some o->h'.get? k=some o):qA b h' k l i:=by
 cases b
 ·exact Heap.IsTupleIter.at p q
 ·exact Heap.IsListIter.at p q
def Zl.sqX_inj {b:Bool}{a:WP}{xs ys:List V}(I:Zl X WZ σ H s)(h:jH b X.K H a xs)(h':jH b X.K H a ys):xs=ys:=by
 cases b
 ·exact I.tuple_inj h h'
 ·exact I.list_inj h h'
end
def e9 (z b:Bool)(K:WY)(l1 l2:WP):It:=
 ⟨λi H=>∃xs ys,jH z K H l1 xs/\jH b K H l2 ys/\xs.length=ys.length/\i<xs.length,
  λi H x H'=>∃u v T,(∀xs,jH z K H l1 xs->xs[i]?=some u)/\(∀ys,jH b K H l2 ys->ys[i]?=some v)/\x=.ref T/\H T=none/\H'=Yo H T (.tup [u,v]),
  λi H=>∃xs ys,jH z K H l1 xs/\jH b K H l2 ys/\xs.length=ys.length/\i=xs.length⟩
def xt {P:WO}{w:WN}{K:WY}{elts:List WW}{ek:Nat}{epos:Pos}(z b:Bool){k l1 l2:WP}(h1:l1<k)(h2:l2<k):
  Bo P w K (.Tuple elts ek epos) (e9 z b K l1 l2) [k+4,k+2,k+3,k,k+1] (k+4)
   (λi h=>IsZip h (k+4) (k+2) (k+3) .none/\IsPair h (k+2) (.ref k) (.ref (k+1))/\(∃a c,IsPair h (k+3) a c)/\qA z h k l1 i/\qA b h (k+1) l2 i) where
 mem:=by simp
 obj:=λi h st c hc=>by
  obtain⟨a1,a2,⟨u,v,a3⟩,a4,a5⟩:=st;simp only[ZM,ZN,or_false] at hc
  rcases hc with rfl | rfl | rfl | rfl | rfl
  ·exact⟨_,a1,λv z=>by have z':Data.fields _=Data.cell v:=z;cases z'⟩
  ·exact⟨_,a2,λv z=>by have z':Data.seq _ _=Data.cell v:=z;cases z'⟩
  ·exact⟨_,a3,λv z=>by have z':Data.seq _ _=Data.cell v:=z;cases z'⟩
  ·exact a4.ob
  ·exact a5.ob
 keep:=λi h h' st kp=>by
  obtain⟨a1,a2,⟨u,v,a3⟩,a4,a5⟩:=st;exact⟨kp _ (by simp) _ a1,kp _ (by simp) _ a2,⟨u,v,kp _ (by simp) _ a3⟩,a4.at λo e=>kp _ (by simp) o e,a5.at λo e=>kp _ (by simp) o e⟩
 item:=by
  intro X hP hw hK hc i WZ s σ H E I hf st hg;subst hP hw hK;obtain⟨xs,ys,hq1,hq2,hlen,hi⟩:=hg;obtain⟨its1,rv1,p1⟩:=I.sqX hq1;obtain⟨its2,rv2,p2⟩:=I.sqX hq2;obtain⟨a1,a2,a3,a4,a5⟩:=st;have hn1:its1.toArray.size=xs.length:=by rw[XJ,rv1.length]
  have hn2:its2.toArray.size=xs.length:=by rw[XJ,<-rv2.length,hlen]
  have D1:=Mt (prog:=X.prog) (w:=X.w) (A:=X.A.in1) z (I.ok.hd hc) k l1 (XH h1) its1.toArray;have D2:=Mt (prog:=X.prog) (w:=X.w) (A:=X.A.in1) b (I.ok.hd hc) (k+1) l2 (XH (CF h2)) its2.toArray;rw[hn1] at D1;rw[hn2] at D2;have W:=E7 D1 D2 (Mh h1 h2);refine W.item i s _ _ hi ⟨a1,a2,a3,⟨a4,p1⟩,⟨a5,p2⟩⟩ λT vals h' tk hv hT htup hm kk=>?_;obtain⟨x,y,hx,hy,rfl⟩:=hv;refine⟨_,rfl,W.go elts ek epos i T {s with heap:=h',toks:=tk} _ _ hm λh2 st2 kk2=>?_⟩;have hu:xs[i]?=some xs[i]:=by simp[hi]
  have hv:ys[i]?=some (ys[i]'(by omega)):=by simp[show i<ys.length by omega]
  obtain⟨u1,e1,r1⟩:=rv1.get hu;obtain⟨u2,e2,r2⟩:=rv2.get hv;have ex:x=u1:=by
   have:its1[i]?=some x:=by simpa using hx
   rw[e1] at this;exact(YH this).symm
  have ey:y=u2:=by
   have:its2[i]?=some y:=by simpa using hy
   rw[e2] at this;exact(YH this).symm
  subst ex ey;have hTn:H T=none:=I.hok.fresh hT;have hTw:T∉[k+4,k+3,k,k+1]:=W.apart i T h' hm;have sub:∀c,c∈[k+4,k+3,k,k+1]->c∈[k+4,k+2,k+3,k,k+1]:=λc hc=>by
   simp only[ZM,ZN,or_false] at hc |-
   rcases hc with z | z | z | z<;>simp[z]
  have k2:∀c o,c∉[k+4,k+3,k,k+1]->s.heap.get? c=some o->h2.get? c=some o:=λc o hb q=>kk2 c o hb (kk c o hb q);have htup2:IsTup h2 T #[x,y]:=by
   obtain⟨o,ho,r⟩:=htup;exact⟨o,kk2 T o hTw ho,r⟩
  have hfp:∀c∈[k+4,k+3,k,k+1],H c=none:=λc hb=>(hf c (sub c hb)).1;have hne:∀c,c<s.heap.objs.size->c≠T:=λc hb=>XH (XG hb hT);have tracked:∀c u,H c=some u->c≠T/\c∉[k+4,k+3,k,k+1]:=λc u q=>⟨hne c (I.hok.lt q),λz=>by rw[hfp c z] at q;cases q⟩;have I1:Zl X WZ σ (Yo H T (.tup [xs[i],ys[i]'(by omega)])) {s with heap:=h2,gens:=s.gens,drawn:=s.drawn,toks:=tk}:=by
   refine I.step (ch:=[k+4,k+3,k,k+1]) (λc hb=>?_) (λc o _ _ hc q _=>k2 c o hc q) (λc o _ _ hc q _=>⟨o.slots,k2 c o hc q⟩) (λc o hc q n=>by rw[Z1 (hne c (XD q))];exact n) (λc o hc q=>⟨o,k2 c o hc q⟩)
    (λc xs q=>by rw[Z1 (tracked c _ q).1];exact q) (λc o u q=>by rw[Z1 (tracked c _ q).1];exact q) (λc ps q=>⟨#[],by rw[Z1 (tracked c _ q).1,q];simp⟩) (λm hm=>?_) (λc u q=>?_) I.bare
   ·obtain⟨f0,f1,f2,f3,f4,f5⟩:=hf c (sub c hb);exact⟨f3,f1,f4,f5⟩
   ·obtain⟨o,es,ep,ho,r⟩:=hm;exact⟨o,es,ep,k2 _ o (λz=>(hf _ (sub _ z)).2.1 FV) ho,r⟩
   ·by_cases hb:c=T
    ·subst hb;rw[Z7] at q;cases q;exact⟨XN (by decide:2<=1000) (CK (Iw (XE _))),[x,y],.cons r1 (.cons r2 .nil),htup2⟩
    ·rw[Z1 hb] at q;refine(I.hok c u q).stay (λd v hd r=>k2 d v ?_ r) (λd r=>by rw[Z1 (tracked d _ r).1];exact r) λd xs r=>by rw[Z1 (tracked d _ r).1];exact r
     rcases hd with rfl | hd
     ·exact(tracked d _ q).2
     ·exact(tracked d _ hd).2
  obtain⟨b1,b2,b3,⟨b4,_⟩,⟨b5,_⟩⟩:=st2;refine⟨.ref T,_,I1,FV,⟨_,_,T,λzs hz=>by rw[I.sqX_inj hz hq1];exact hu,λzs hz=>by rw[I.sqX_inj hz hq2];exact hv,FV,hTn,FV⟩,⟨b1,b2,b3,b4,b5⟩,λc hb=>?_⟩;have hbT:c≠T:=by
   obtain⟨o,ho⟩:∃o,s.heap.get? c=some o:=by
    obtain⟨u,v,a3⟩:=a3;simp only[ZM,ZN,or_false] at hb
    rcases hb with rfl | rfl | rfl | rfl | rfl
    ·exact⟨_,a1⟩
    ·exact⟨_,a2⟩
    ·exact⟨_,a3⟩
    ·exact a4.ob.imp λ_ h=>h.1
    ·exact a5.ob.imp λ_ h=>h.1
   exact hne c (XD ho)
  rw[Z1 hbT];exact(hf c hb).1
 done:=by
  intro X hP hw hK hc i WZ s σ H E I hf st hg;subst hP hw hK;obtain⟨xs,ys,hq1,hq2,hlen,hi⟩:=hg;obtain⟨its1,rv1,p1⟩:=I.sqX hq1;obtain⟨its2,rv2,p2⟩:=I.sqX hq2;obtain⟨a1,a2,a3,a4,a5⟩:=st;have hn1:its1.toArray.size=xs.length:=by rw[XJ,rv1.length]
  have hn2:its2.toArray.size=xs.length:=by rw[XJ,<-rv2.length,hlen]
  have D1:=Mt (prog:=X.prog) (w:=X.w) (A:=X.A.in1) z (I.ok.hd hc) k l1 (XH h1) its1.toArray;have D2:=Mt (prog:=X.prog) (w:=X.w) (A:=X.A.in1) b (I.ok.hd hc) (k+1) l2 (XH (CF h2)) its2.toArray;rw[hn1] at D1;rw[hn2] at D2;subst hi;have W:=E7 D1 D2 (Mh h1 h2);have sub:∀c,c∈[k+4,k+3,k,k+1]->c∈[k+4,k+2,k+3,k,k+1]:=λc hc=>by
   simp only[ZM,ZN,or_false] at hc |-
   rcases hc with z | z | z | z<;>simp[z]
  refine W.done s _ _ ⟨a1,a2,a3,⟨a4,p1⟩,⟨a5,p2⟩⟩ λh' tk kk=>⟨FV,?_⟩;exact I.step (g':=s.gens) (d':=s.drawn) (ch:=[k+4,k+3,k,k+1]) (λc hb=>let ⟨f0,f1,f2,f3,f4,f5⟩:=hf c (sub c hb);⟨f3,f1,f4,f5⟩) (λc o _ _ hc q _=>kk c o hc q) (λc o _ _ hc q _=>⟨o.slots,kk c o hc q⟩) (λc o _ _ n=>n) (λc o hc q=>⟨o,kk c o hc q⟩)
    (λ_ _ q=>q) (λ_ _ _ q=>q) (λc ps q=>⟨#[],by rw[q];simp⟩) (λm hm=>let ⟨o,es,ep,ho,r⟩:=hm;⟨o,es,ep,kk _ o (λz=>(hf _ (sub _ z)).2.1 FV) ho,r⟩)
    (λc u q=>(I.hok c u q).stay (λd v hd r=>kk d v (λz=>by
     rcases hd with rfl | hd
     ·rw[(hf _ (sub _ z)).1] at q;cases q
     ·rw[(hf _ (sub _ z)).1] at hd;cases hd) r) (λ_ r=>r) λ_ _ r=>r) I.bare
 self:=λA i s Q E st h=>wpAny_pyIter_zip st.1 h
section
variable {X:Cx}{elts:List WW}{ek:Nat}{epos:Pos}
def gY (K:WY)(ta:TA):TI:=λσ H R=>ta σ H λvs H1=>∃(z b:Bool) (l1 l2:WP) (xs ys:List V),vs=[.ref l1,.ref l2]/\jH z K H1 l1 xs/\jH b K H1 l2 ys/\R (e9 z b K l1 l2) H1
def pG {a c:WW}{ta:TA}{p pos:Pos}(hg:Gl X "zip")(hm:X.mg "zip"=none)(ha:PA X [a,c] ta)(hs:starEach [a,c] X.env=(false,eval a X.env)::starEach [c] X.env:=by rfl)(hp:(backTo pos (starEach [c] X.env)).any (·.1)=false:=by rfl)(hb:bootBuiltins "zip"=some (.type "zip"):=by decide+kernel):
  PI X (.Tuple elts ek epos) (.Call (.Name "zip" p) [a,c] [] pos) (gY X.K ta):=by
 intro WZ s σ H R I h;refine Call_ (Vi I hg hm hb (BI (Ja (ha pos WZ s σ H _ I h) λus s1 ⟨vs,H1,I1,r1,q1⟩=>?_) hs hp));obtain⟨z,b,l1,l2,xs,ys,rfl,hq1,hq2,q⟩:=q1;obtain⟨u,v,rfl,ru,rv⟩:=r1.two
 cases ru
 cases rv
 obtain⟨its1,rv1,p1⟩:=I1.sqX hq1;obtain⟨its2,rv2,p2⟩:=I1.sqX hq2;have fin:∀h2,nR s1.heap h2 (cX z) l1 (cX b) l2->wpAny (model X.prog X.w) X.A (pyIter (.ref (s1.heap.objs.size+4))) (i6 X WZ σ (.Tuple elts ek epos) R) X.xe {s1 with heap:=h2}:=λh2 N=>by
  refine wpAny_pyIter_zip (s:={s1 with heap:=h2}) N.zip ?_;refine⟨_,_,_,_,H1,FV,I1.kept (t':=s1.toks) N.keep,xt z b p1.lt p2.lt,⟨N.zip,N.its,⟨_,_,N.own⟩,?_,?_⟩,λc hc=>?_,q⟩
  ·cases z
   ·exact⟨_,N.i1,FV,FV⟩
   ·exact⟨_,N.i1,FV,FV⟩
  ·cases b
   ·exact⟨_,N.i2,FV,FV⟩
   ·exact⟨_,N.i2,FV,FV⟩
  ·have e:s1.heap.objs.size<=c:=by
    simp only[ZM,ZN,or_false] at hc
    rcases hc with rfl | rfl | rfl | rfl | rfl
    ·exact BL _ _
    ·exact BL _ _
    ·exact BL _ _
    ·exact XE _
    ·exact BL _ _
   exact I1.fpOk e (I1.hok.fresh e)
 exact Pf z b p1 p2 fin
end
section
variable {X:Cx}
def Ai (bs:List Bool):((List.range bs.length).any λi=>(bs[i]?).getD false)=bs.any id:=by
 rw[Bool.eq_iff_iff,DE,DE];constructor
 ·rintro⟨i,hi,h⟩;have hi':=CI.mp hi;exact⟨bs[i],List.getElem_mem hi',by simpa[hi'] using h⟩
 ·rintro⟨x,hx,h⟩;obtain⟨i,hi,rfl⟩:=List.mem_iff_getElem.mp hx;exact⟨i,List.mem_range.mpr hi,by simpa[hi] using h⟩
def jB (hc:X.calm=true):Vp X (.builtin "any") (λxs H Q=>∃(p:WP) (bs:List Bool),xs=[.ref p]/\Wl X.K H p (bs.map V.bl)/\Q (.bl (bs.any id)) H):=by
 intro WZ s σ H xs us Q I r h;obtain⟨p,bs,rfl,hq,q⟩:=h;obtain⟨u,rfl,ru⟩:=Qq r
 cases ru
 obtain⟨its,rv,pl,hz⟩:=I.list hq;have hl:=pl.isList;have hlt:p<s.heap.objs.size:=by obtain⟨_,e,_⟩:=hl;exact XD e
 have hlen:its.length=bs.length:=by have:=rv.length;simp at this;omega
 refine call_any_walk (wpAny_pyIter_list hl ?_);refine⟨s.heap.objs.size,[s.heap.objs.size,p],[s.heap.objs.size],its.toArray.size,_,_,λi=>(bs[i]?).getD false,FV,Walks.list (A:=X.A.in1) (I.ok.hd hc) _ p (XH hlt) its.toArray,
  ⟨⟨_,XF _ FV,FV,FV⟩,hl.push _⟩,λi v s' Q' E' hP hQ=>?_,λh' tk hk=>?_⟩
 ·have hv:its[i]?=some v:=by simpa using hP
  have hi:i<its.length:=(BB.mp hv).1;have hb:(bs.map V.bl)[i]?=some (.bl bs[i]):=by simp[show i<bs.length by omega]
  obtain⟨u,hu,ru⟩:=rv.get hb;rw[hv] at hu;cases hu
  cases ru
  have e:(bs[i]?).getD false=bs[i]:=by simp[show i<bs.length by omega]
  have hQ2:Q' ((bs[i]?).getD false) s':=hQ;rw[e] at hQ2;exact wpAny_truthy_bool hQ2
 ·have e:((List.range its.toArray.size).any λi=>(bs[i]?).getD false)=bs.any id:=by
   rw[XJ,hlen];exact Ai bs
  rw[e];refine⟨.bl (bs.any id),H,I.kept λb o x=>hk b o (λhm=>?_) (XC _ x),FV,q⟩;have:=XQ.mp hm;subst this;exact BJ _ (XD x)
end
section
variable {prog:WO}{w:WN}{K:Type}[DecidableEq K]{knd:KeyKind prog w K}
end
end L2
namespace WL
open PySem PySem.Spec PyProof.Rows L2
section
variable {X:Cx}{e o a b f:WW}{we wo wa wb wi wd:WE}{wA:WA}{p p2 pos pos2 apos cpos:Pos}
def nB:bootBuiltins "any"=some (.builtin "any"):=by decide+kernel
def rm:bootBuiltins "dict"=some (.type "dict"):=by decide+kernel
def fL:List T->Hw->WK->Prop:=λvs C Q=>∃(a:WP) (bs:List Bool),vs=[.ref a]/\C a=some (.lst (bs.map T.bl))/\Q (.bl (bs.any id)) C
def ii (hc:X.calm=true):Qz X (.builtin "any") fL:=⟨_,jB hc,λF H C xs vs Q Q' R rs h q=>by
 obtain⟨a,bs,rfl,hx,h⟩:=h;obtain⟨x,rfl,rx⟩:=Wu rs
 cases Zu rx
 obtain⟨ys,hy,r⟩:=R.lst hx
 cases Dy r
 exact⟨a,bs,FV,Wl.of hy,q _ _ H C R (Tx.refl H) Jt h⟩⟩
def kR (kvs:List (Z2×T))(k:Z2):List (Z2×T):=kvs.filter λkv=>decide (kv.1≠k)
def f9 (o i d:WE):WE:=λτ C Q χ=>o τ C (λx C1=>(∃a kvs,x=.ref a/\C1 a=some (.dic kvs))/\i τ C1 (λy C2=>d τ C2 (λz C3=>∃a kvs k,x=.ref a/\kT y=some k/\C3 a=some (.dic kvs)/\
 (∀v,Yr kvs k=some v->Q v (up C3 a (.dic (kR kvs k))))/\(Yr kvs k=none->Q z C3)) χ) χ) χ
def M5 (xs ys:List T):List T:=List.zipWith (λx y=>T.tup [x,y]) xs ys
def dW (a:WA):WI:=λτ C R χ=>a τ C (λvs C1=>(∃xs ys,vs=[.tup xs,.tup ys]/\xs.length=ys.length/\R (M5 xs ys) (λ_=>True) C1)\/
 (∃xs ys l,vs=[.tup xs,.ref l]/\C1 l=some (.lst ys)/\xs.length=ys.length/\R (M5 xs ys) (λC2=>C2 l=some (.lst ys)) C1)\/
 ∃xs ys k l,vs=[.ref k,.ref l]/\C1 k=some (.lst xs)/\C1 l=some (.lst ys)/\xs.length=ys.length/\R (M5 xs ys) (λC2=>C2 k=some (.lst xs)/\C2 l=some (.lst ys)) C1) χ
def zM {xs ys:List T}{i:Nat}{x y:T}(hx:xs[i]?=some x)(hy:ys[i]?=some y):(M5 xs ys)[i]?=some (.tup [x,y]):=by
 unfold M5;rw[List.getElem?_zipWith,hx,hy]
def Ay {K:WY}{F H0:Hp}(z b:Bool){l1 l2:WP}{xs ys:List T}{ok:Hw->Prop}(hl:xs.length=ys.length)(h1:∀H C,Rl K F H C->Tx H0 H->ok C->∃ys1,jH z K H l1 ys1/\Reps K H ys1 xs)
  (h2:∀H C,Rl K F H C->Tx H0 H->ok C->∃ys2,jH b K H l2 ys2/\Reps K H ys2 ys):N3 K F H0 (e9 z b K l1 l2) (M5 xs ys) ok:=λi H C R t hok=>by
 obtain⟨ys1,q1,r1'⟩:=h1 H C R t hok;obtain⟨ys2,q2,r2⟩:=h2 H C R t hok;have hlz:(M5 xs ys).length=xs.length:=by unfold M5;simp;omega
 have e1:=r1'.length;have e2:=r2.length;refine⟨λhi=>?_,λhi=>⟨ys1,ys2,q1,q2,by omega,by omega⟩⟩;rw[hlz] at hi;refine⟨⟨ys1,ys2,q1,q2,by omega,by omega⟩,λx H' h=>?_⟩;obtain⟨u,v,Tt,hu,hv,rfl,hT,rfl⟩:=h;obtain⟨x,hx,rx⟩:=r1'.get' (hu ys1 q1);obtain⟨y,hy,ry⟩:=r2.get' (hv ys2 q2);exact⟨_,zM hx hy,R.hid hT,Tx.new hT,J5 (Vx.of Z7) (Yj (rx.tx (Tx.new hT)) (Yj (ry.tx (Tx.new hT)) Yu))⟩
def nu {elts:List WW}{ek:Nat}{epos:Pos}(hg:Gl X "zip")(hm:X.mg "zip"=none)(ha:M3 X [a,b] wA)(hs:starEach [a,b] X.env=(false,eval a X.env)::starEach [b] X.env:=by rfl)(hp:(backTo pos (starEach [b] X.env)).any (·.1)=false:=by rfl):
  q8 X (.Tuple elts ek epos) (.Call (.Name "zip" p) [a,b] [] pos) (dW wA):=by
 obtain⟨t,p1,s⟩:=ha;refine⟨_,pG hg hm p1 hs hp,λF H C σ τ R R' χ Rr S h q=>?_⟩;refine s F H C σ τ _ _ χ Rr S h λxs vs H1 C1 R1 t1 rs h1=>?_
 rcases h1 with⟨ts,us,rfl,hl,h1⟩ | ⟨ts,us,l,rfl,hC,hl,h1⟩ | ⟨ts,us,k,l,rfl,hB,hC,hl,h1⟩<;>obtain⟨x,y,rfl,rx,ry⟩:=wI rs
 ·obtain⟨l1,y1,rfl,q1,r1⟩:=Z8 rx;obtain⟨l2,y2,rfl,q2,r2⟩:=Z8 ry;exact⟨false,false,l1,l2,y1,y2,FV,q1,q2,q _ H1 _ _ C1 R1 t1 (λF'=>Ay _ _ hl (λH C _ t _=>⟨y1,t.sqt q1,r1.tx t⟩) λH C _ t _=>⟨y2,t.sqt q2,r2.tx t⟩) h1⟩
 ·obtain⟨l1,y1,rfl,q1,r1⟩:=Z8 rx
  cases Zu ry
  obtain⟨y2,hy,r2⟩:=R1.lst hC;refine⟨false,true,l1,l,y1,y2,FV,q1,Wl.of hy,q _ H1 _ _ C1 R1 t1 (λF'=>Ay _ _ hl (λH C _ t _=>⟨y1,t.sqt q1,r1.tx t⟩) λH C R' t hok=>?_) h1⟩;obtain⟨y3,hy3,r3⟩:=R'.lst hok;exact⟨y3,Wl.of hy3,r3⟩
 ·cases Zu rx
  cases Zu ry
  obtain⟨y1,hx,r1⟩:=R1.lst hB;obtain⟨y2,hy,r2⟩:=R1.lst hC;refine⟨true,true,k,l,y1,y2,FV,Wl.of hx,Wl.of hy,q _ H1 _ _ C1 R1 t1 (λF'=>Ay _ _ hl (λH C R' t hok=>?_) λH C R' t hok=>?_) h1⟩
  ·obtain⟨y3,hy3,r3⟩:=R'.lst hok.1;exact⟨y3,Wl.of hy3,r3⟩
  ·obtain⟨y3,hy3,r3⟩:=R'.lst hok.2;exact⟨y3,Wl.of hy3,r3⟩
end
end WL
namespace L2
open PySem PySem.Spec PyProof.Rows
section
variable {X:Cx}{WZ:List (WP×Obj)}{σ:St}{H:Hp}{s:WR}
end
def cG (o:Obj)(d:WP)(ks:List (Z2×V)):It:=
 ⟨λi H=>H d=some (.frz o (.dK ks))/\i<ks.length,λi H x H'=>H'=H/\∃kv,ks[i]?=some kv/\x=kV kv.1,λi H=>H d=some (.frz o (.dK ks))/\i=ks.length⟩
section
variable {X:Cx}{tg e:WW}
def ca (td:TE):TI:=λσ H R=>td σ H λx H1=>∃d ks,x=.ref d/\Rd H1 d (.dK ks)/\∀o,(∀o',H1 d=some (.frz o' (.dK ks))->o'=o)->R (cG o d ks) (Yo H1 d (.frz o (.dK ks)))
end
end L2
namespace WL
open PySem PySem.Spec PyProof.Rows L2
def iV (C:Hw)(a:WP)(kvs:List (Z2×T)):Prop:=C a=some (.dic kvs)\/C a=some (.fdic kvs)
def Rl.rd {K:WY}{F H:Hp}{C:Hw}(R:Rl K F H C){a:WP}{kvs:List (Z2×T)}(h:iV C a kvs):∃ks,Rd H a (.dK ks)/\PR K H ks kvs:=by
 rcases h with h | h
 ·obtain⟨ks,hH,pr⟩:=R.dic h;exact⟨ks,.inl hH,pr⟩
 ·exact R.obj a _ h
section
variable {X:Cx}{e o a b c f i:WW}{we wo wa wb wi wd:WE}{wA:WA}{p p2 pos pos2 apos cpos:Pos}{tg:WW}
def mz:W2:=λx y C Q=>∃a kvs k v,x=.ref a/\kT y=some k/\iV C a kvs/\Yr kvs k=some v/\Q v C
def xj (neg:Bool):W2:=λy x C Q=>∃a kvs k,x=.ref a/\kT y=some k/\iV C a kvs/\Q (.bl (if neg then !(Yr kvs k).isSome else(Yr kvs k).isSome)) C
abbrev hV:W2:=xj false
abbrev uQ:W2:=xj true
def zu (hu:X.A.units+150<cLine)(ha:Jc X a wa)(hb:Jc X b wb)(hs:md b):Jc X (.Subscript a b pos) (Xm mz wa wb):=by
 obtain⟨ta,p1,s1⟩:=ha;obtain⟨tb,p2,s2⟩:=hb;refine⟨_,tW (by omega) p1 p2 hs,λF H C σ τ Q Q' χ R S h q=>?_⟩;refine s1 F H C σ τ _ _ χ R S h λx v H1 C1 R1 t1 rx h1=>?_;refine s2 F H1 C1 σ τ _ _ χ R1 (S.tx t1) h1 λy u H2 C2 R2 t2 ry h2=>?_;obtain⟨l,kvs,k,w,rfl,hk,hC,hg,h2⟩:=h2
 cases Zu rx
 obtain⟨ks,hH,pr⟩:=R2.rd hC;obtain⟨z,hz,rz⟩:=(PR.get pr k).2 w hg
 cases Mj hk ry
 exact⟨l,z,FV,.inl ⟨ks,k,hH,FV,hz.symm⟩,q _ _ H2 C2 R2 (t1.trans t2) rz h2⟩
def wM (neg:Bool)(hu:X.A.units+150<cLine):Kw X (compareOp (if neg then .NotIn else .In)) (xj neg):=⟨_,G6,λF H C y x u v Q Q' R ry rx h q WZ s σ u' v' I r1 r2=>by
 obtain⟨l,kvs,k,rfl,hk,hC,h⟩:=h
 cases Zu rx
 cases r2
 obtain⟨ks,hH,pr⟩:=R.rd hC
 cases Mj hk ry
 have e:(V9 ks k).isSome=(Yr kvs k).isSome:=by
  cases hg:Yr kvs k with
  | none=>rw[(PR.get pr k).1 hg];rfl
  | some w=>obtain⟨z,hz,_⟩:=(PR.get pr k).2 w hg;rw[hz];rfl
 have fin:=q _ _ H C R (Tx.refl H) Jt h;rw[<-e] at fin;have g:Bv H l (kV k) (V9 ks k):=.inl ⟨ks,k,hH,FV,FV⟩
 cases neg with
 | true=>exact sX (by omega) I g r1 λs' I'=>⟨.bl _,H,I',FV,fin⟩
 | false=>exact fC (by omega) I g r1 λs' I'=>⟨.bl _,H,I',FV,fin⟩⟩
def wN (hu:X.A.units+150<cLine):Kw X (compareOp .In) hV:=wM false hu
def wL (hu:X.A.units+150<cLine):Kw X (compareOp .NotIn) uQ:=wM true hu
def zz:Vp X (.type "dict") (λxs H Q=>∃(p:WP) (kvs:List (Z2×V)),xs=[.ref p]/\Rd H p (.dK kvs)/\∀r,H r=none->Q (.ref r) (Yo H r (.dK kvs))):=by
 intro WZ s σ H xs us Q I r h;obtain⟨p,kvs,rfl,hp,q⟩:=h;obtain⟨u,rfl,ru⟩:=Qq r
 cases ru
 exact vW I hp λr s2 hr I2=>⟨.ref r,_,I2,FV,q r hr⟩
def nI:List T->Hw->WK->Prop:=λvs C Q=>∃(a:WP) (kvs:List (Z2×T)),vs=[.ref a]/\iV C a kvs/\∀p,C p=none->Q (.ref p) (up C p (.dic kvs))
def r6:Qz X (.type "dict") nI:=⟨_,zz,λF H C xs vs Q Q' R rs h q=>by
 obtain⟨a,kvs,rfl,hC,h⟩:=h;obtain⟨x,rfl,rx⟩:=Wu rs
 cases Zu rx
 obtain⟨ks,hH,pr⟩:=R.rd hC;exact⟨a,ks,FV,hH,λr hr=>q _ _ _ _ (R.newD hr pr) (Tx.new hr) Jd (h r (R.free hr))⟩⟩
end
section
variable {X:Cx}{e o:WW}{we wo wi:WE}{apos cpos:Pos}
end
def Uv (f:Str)(v:T):List (Str×T)->List (Str×T)
 | []=>[(f,v)]
 | (g,x)::r=>if g=f then(g,v)::r else(g,x)::Uv f v r
section
variable {K:WY}{H:Hp}
def zX {f:Str}{y:V}{v:T}(q:Yx K H y v):∀{ks:List (Str×V)} {fs:List (Str×T)},PR K H ks fs->PR K H (Tc f y ks) (Uv f v fs)
 | [],[],_=>.cons ⟨FV,q⟩ .nil
 | (k,x)::ks,(g,z)::fs,.cons h r=>by
  obtain⟨e,q'⟩:=h
  cases e
  show PR K H (if k=f then(k,y)::ks else(k,x)::Tc f y ks) (if k=f then(k,v)::fs else(k,z)::Uv f v fs);by_cases c:k=f
  ·rw[XY c,XY c];exact .cons ⟨FV,q⟩ r
  ·rw[XX c,XX c];exact .cons ⟨FV,q'⟩ (zX q r)
def Mm {f:Str}:∀{ks:List (Str×V)} {fs:List (Str×T)},PR K H ks fs->(∀v,fs.lookup f=some v->∃y,ks.lookup f=some y/\Yx K H y v)/\(fs.lookup f=none->ks.lookup f=none)
 | [],[],_=>⟨λv h=>by simp at h,λ_=>rfl⟩
 | (k,x)::ks,(g,z)::fs,.cons h r=>by
  obtain⟨e,q'⟩:=h
  cases e
  by_cases c:f=k
  ·have hb:(f==k)=true:=beq_iff_eq.mpr c;simp only[List.lookup,hb];exact⟨λv h=>by cases h;exact⟨x,FV,q'⟩,λh=>by cases h⟩
  ·have hb:(f==k)=false:=beq_eq_false_iff_ne.mpr c;simp only[List.lookup,hb];exact Mm r
def w5:∀{κ:Type} {ks:List (κ×V)} {fs:List (κ×T)},PR K H ks fs->ks.length=fs.length
 | _,[],[],_=>rfl
 | _,_::_,_::_,.cons _ r=>by rw[YF,YF,w5 r]
end
abbrev Ox (K:WY)(cn:Str)(Cl:WP):Prop:=W.nsIn K mainGlobals cn=some (some (.ref Cl))
structure KF (K:W.Frag)(f cn:Str):Prop where
 ex:∃Cl,Ox K cn Cl/\B3 K Cl/\Sg K Cl f
def KF.at {K:WY}{f cn:Str}(h:KF K f cn){Cl:WP}(c:Ox K cn Cl):B3 K Cl/\Sg K Cl f:=by
 obtain⟨C2,h1,h2⟩:=h.ex;have e:some (some (Value.ref C2))=some (some (Value.ref Cl)):=h1.symm.trans c
 cases e
 exact h2
def f8 (cs:List Str)(f:Str)(o:WE):WE:=λτ C Q χ=>o τ C (λx C1=>∃a cn fs v,x=.ref a/\C1 a=some (.ins cn fs)/\cn∈cs/\fs.lookup f=some v/\Q v C1) χ
def cf (cs:List Str)(f:Str)(o:WE):WG:=λv τ C Q χ=>o τ C (λx C1=>∃a cn fs,x=.ref a/\C1 a=some (.ins cn fs)/\cn∈cs/\fs.length<1000/\Q τ (up C1 a (.ins cn (Uv f v fs)))) χ
def Rl.ins {K:WY}{F H:Hp}{C:Hw}(R:Rl K F H C){a:WP}{cn:Str}{fs:List (Str×T)}(h:C a=some (.ins cn fs)):∃Cl dx ks,Ox K cn Cl/\H a=some (.ins Cl dx ks)/\PR K H ks fs:=R.obj a _ h
section
variable {X:Cx}{e o value:WW}{we wo wv:WE}{f:Str}{cs:List Str}{pos pos' apos cpos:Pos}
def Tq (hk:∀cn∈cs,KF X.K f cn)(he:Jc X e we)(hb:attributeBase e f X.env (eval e X.env)=eval e X.env:=by rfl):Jc X (.Attribute e f pos) (f8 cs f we):=by
 obtain⟨ta,p1,s1⟩:=he;refine⟨_,pP p1 hb,λF H C σ τ Q Q' χ R S h q=>?_⟩;refine s1 F H C σ τ _ _ χ R S h λx v H1 C1 R1 t1 rx h1=>?_;obtain⟨a,cn,fs,v',rfl,hC,hcn,hl,h1⟩:=h1
 cases Zu rx
 obtain⟨Cl,dx,ks,hc,hH,pr⟩:=R1.ins hC;obtain⟨y,hy,ry⟩:=(Mm pr).1 v' hl;obtain⟨c1,c2⟩:=(hk cn hcn).at hc;exact⟨a,Cl,dx,ks,y,FV,hH,c1,c2,hy,q _ _ H1 C1 R1 t1 ry h1⟩
def vK (hk:∀cn∈cs,KF X.K f cn)(ho:Jc X o wo)(hv:Jc X value wv)(hs:swapsWith value (some (.Attribute o f pos')) pos.line X.env=pure false:=by rfl):Ny X (.Assign [.Attribute o f pos'] value pos) (O8 wv (cf cs f wo)):=by
 obtain⟨ta,p1,s1⟩:=ho;obtain⟨tv,p2,s2⟩:=hv;refine⟨_,pE p1 p2 hs,λF H C σ τ D D' R S h d=>?_⟩;refine s2 F H C σ τ _ _ D'.xc R S h λy v H1 C1 R1 t1 ry h1=>?_;refine s1 F H1 C1 σ τ _ _ D'.xc R1 (S.tx t1) h1 λx u H2 C2 R2 t2 rx h2=>?_;obtain⟨a,cn,fs,rfl,hC,hcn,hl,h2⟩:=h2
 cases Zu rx
 obtain⟨Cl,dx,ks,hc,hH,pr⟩:=R2.ins hC;obtain⟨c1,c2⟩:=(hk cn hcn).at hc;have tp:Tx H2 (Yo H2 a (.ins Cl dx (Tc f y ks))):=Tx.put hH (λz=>z);obtain⟨R3,t3⟩:=R2.put (u:=.ins Cl dx (Tc f y ks)) (o':=.ins cn (Uv f v fs)) hC ⟨Cl,dx,_,hc,Z7,Lk tp (zX (ry.tx t2) pr)⟩;exact⟨a,Cl,dx,ks,FV,hH,c1,c2,by rw[w5 pr];exact hl,d.nx _ _ _ _ R3 ((t1.trans t2).trans t3) (S.tx ((t1.trans t2).trans t3)) h2⟩
end
def xB (MT:WP->L2.Sp->Prop)(m:Str)(E:XK)(ta:TE)(t:TA):TE:=λσ H Q=>ta σ H λx H1=>∃a C dx fs sp,x=.ref a/\H1 a=some (.ins C dx fs)/\MT C sp/\fs.lookup m=none/\t σ H1 λvs H2=>sp (x::vs) H2 Q E
section
variable {X:Cx}{k:Nat}{E:XK}{m:Str}{p pos apos:Pos}{e o:WW}{es:List WW}{ta:TE}{t:TA}{MT:WP->L2.Sp->Prop}
end
def Cm (P:WO)(w:WN)(K:WY)(mg:Str->Option WQ)(base:WU)(n:Nat)(cn m:Str)(ps:List Str)(sp:L2.Sp):Prop:=
 ∃Cl f fd,Ox K cn Cl/\B3 K Cl/\jK K Cl m f/\X8 P w K mg base CX0 n f fd ps sp/\J6 K fd ps []
def bo (P:WO)(w:WN)(K:WY)(mg:Str->Option WQ)(base:WU)(n:Nat)(pr:List Df)(m:Str)(tb:List (Str×Nat)):Prop:=∀cn i,tb.lookup cn=some i->∃ps,Cm P w K mg base n cn m ps (spW K pr n i)
section
variable {P:WO}{w:WN}{K:WY}{mg:Str->Option WQ}{base:WU}{n:Nat}{pr:List Df}{m:Str}{tb:List (Str×Nat)}
end
def Mf (P:Calls)(tb:List (Str×Nat))(m:Str)(o:WE)(a:WA):WE:=λτ C Q χ=>o τ C (λx C1=>∃ad cn fs i,x=.ref ad/\C1 ad=some (.ins cn fs)/\tb.lookup cn=some i/\fs.lookup m=none/\a τ C1 (λvs C2=>P i (x::vs) C2 Q χ) χ) χ
section
variable {X:Cx}{k:Nat}{m:Str}{p pos apos:Pos}{e o:WW}{es:List WW}{wo:WE}{wA:WA}{tb:List (Str×Nat)}{pr:List Df}
end
def xm (cn:Str)(i:Nat)(P:Calls):WS:=λD τ C=>∃vs,τ=vs.map some/\∀p,C p=none->P i (.ref p::vs) (up C p (.ins cn [])) (λv C2=>v=.non/\D.rt (.ref p) C2) D.xc
def Cn (P:WO)(w:WN)(K:WY)(mg:Str->Option WQ)(base:WU)(n:Nat)(pr:List Df)(cn:Str)(i j:Nat):Prop:=
 (∃ar,pr[j]?=some ⟨ar,ar,xm cn i⟩)/\∃Cl f,Ox K cn Cl/\mg cn=some (.ref Cl)/\L2.Mk K Cl f/\(n=0\/∃k fd ps,n=k+1/\X8 P w K mg base CX0 k f fd ps (spW K pr k i)/\J6 K fd ps [])
section
variable {X:Cx}{k i j:Nat}{cn:Str}{p pos:Pos}{e:WW}{es:List WW}{wA:WA}{pr:List Df}
end
def oX {P:WO}{w:WN}{K:WY}{mg:Str->Option WQ}{base:WU}{x qual:Str}{st:WV}{f:WP}{fd:VZ}{N ps:List Str}{pr:List Df}{n i:Nat}{d:Df}(F:Gd K x qual st f fd)(S:Zr N ps (Zg st))(hd:pr[i]?=some d)(hn:d.n=N.length)(har:d.ar=ps.length)
  (hb:∀(cdv:WQ) (A:WM) (outer:List Env) (s:WR) (H:Hp) (E:XK),Y9 n (A.deeper (envOfC qual (Zg st) s.heap.objs.size f cdv))->Bs (Tg CX0 P w K mg base N qual (Zg st) f cdv A outer s H E).nox (Jh st) (d.body (J8 pr n))):
  X8 P w K mg base CX0 (n+1) f fd ps (spW K pr (n+1) i):=by
 refine F.ok S (λvs H Q E h=>?_) (λcdv A outer s H vs Q E hr h=>?_)
 ·obtain⟨F',C,vs',Q',χ,R,rs,⟨d',e1,e2,_⟩,_⟩:=h;rw[hd] at e1;cases e1;rw[rs.length,e2,har]
 ·obtain⟨F',C,vs',Q',χ,R,rs,⟨d',e1,e2,h⟩,q⟩:=h;rw[hd] at e1;cases e1;obtain⟨t,p,sm⟩:=hb cdv A outer s H E hr;refine⟨t,p,sm F' H C _ _ _ _ R (J7.start rs N _ (by rw[rs.length,e2,hn])) h ⟨λσ τ H' C' R' t' _ h'=>q .non .non H' C' R' t' T3 h',q,λ_ _ _ _ _ _ _ z=>z.elim,λ_ _ _ _ _ _ _ z=>z.elim⟩⟩
structure Kl (K:W.Frag)(mg:Str->Option Value)(cn:Str)(Cl:Addr):Prop where
 at_:Ox K cn Cl
 mg:mg cn=some (.ref Cl)
 cls:B3 K Cl
def X1 {K:WY}{f:Str}:∀cn∈([]:List Str),KF K f cn:=λ_ h=>by cases h
def Jv {K:WY}{f cn:Str}{cs:List Str}(a:KF K f cn)(r:∀c∈cs,KF K f c):∀c∈cn::cs,KF K f c:=λc h=>by
 rcases BD.mp h with rfl | h
 ·exact a
 ·exact r c h
def vO {X:Cx}{body:List WV}:Bs X body Ag:=⟨λ_ _ _=>False,λ_ _ _ _ _ _ h=>h.elim,λ_ _ _ _ _ _ _ _ _ h _=>h.elim⟩
def rV (C:Hw):Nat->T->T->Bool->Prop
 | 0,v,w,b=>Z6 v 0=true/\Z6 w 0=true/\b=eqT v w
 | n+1,v,w,b=>(Z6 v n=true/\Z6 w n=true/\b=eqT v w)\/
   (∃(xs ys:List T) (e:Nat->Bool),v=.tup xs/\w=.tup ys/\(∀j x y,xs[j]?=some x->ys[j]?=some y->rV C n x y (e j))/\b=((List.range (min xs.length ys.length)).all e&&xs.length==ys.length))\/
   (∃(a a':WP) (xs ys:List T) (e:Nat->Bool),v=.ref a/\w=.ref a'/\C a=some (.lst xs)/\C a'=some (.lst ys)/\(xs.length=ys.length->∀j x y,xs[j]?=some x->ys[j]?=some y->rV C n x y (e j))/\
    b=(if xs.length=ys.length then(List.range xs.length).all e else false))
section
variable {X:Cx}{WZ:List (WP×Obj)}{σ:L2.St}{F H:Hp}{s:WR}{C:Hw}
def Bm {e:Nat->Bool}{n:Nat}(h:∀j,j<n->e j=true):(List.range n).all e=true:=by
 rw[BY];intro j hj;exact h j (CI.mp hj)
def Cz (I:Zl X WZ σ H s)(R:Rl X.K F H C):∀(n:Nat) {v w:T} {x:V} {b:Bool},rV C n v w b->Yx X.K H x v->Yx X.K H x w->b=true:=by
 intro n
 induction n with
 | zero=>
  intro v w x b h rv rw';obtain⟨f1,f2,rfl⟩:=h;rw[Ml I 0 f1 f2 rv rw'];exact Tp _ f2
 | succ n ih=>
  intro v w x b h rv rw';have lists:∀{zs:List V} {xs ys:List T} {e:Nat->Bool},Reps X.K H zs xs->Reps X.K H zs ys->(∀j x y,xs[j]?=some x->ys[j]?=some y->rV C n x y (e j))->xs.length=ys.length/\∀j,j<xs.length->e j=true:=by
   intro zs xs ys e r1 r2 he;have l1:=r1.length;have l2:=r2.length;refine⟨by omega,λj hj=>?_⟩;have i1:xs[j]?=some (xs[j]'hj):=by simp[hj]
   have i2:ys[j]?=some (ys[j]'(by omega)):=by simp
   obtain⟨u1,g1,q1⟩:=r1.get i1;obtain⟨u2,g2,q2⟩:=r2.get i2;rw[g1] at g2;cases g2;exact ih (he j _ _ i1 i2) q1 q2
  rcases h with⟨f1,f2,rfl⟩ | ⟨xs,ys,e,rfl,rfl,he,rfl⟩ | ⟨a,a',xs,ys,e,rfl,rfl,h1,h2,he,rfl⟩
  ·rw[Ml I n f1 f2 rv rw'];exact Tp _ f2
  ·obtain⟨a,zs,rfl,hq,r⟩:=Z8 rv;obtain⟨b,zs',eb,hq',r'⟩:=Z8 rw'
   cases eb
   have:=I.tuple_inj hq hq';subst this;obtain⟨hl,ha⟩:=lists r r' he;rw[hl,Nat.min_self,XU,Bool.and_true];exact Bm λj hj=>ha j (by omega)
  ·cases Zu rv
   cases Zu rw'
   rw[h1] at h2;cases h2;obtain⟨zs,hz,r⟩:=R.lst h1;obtain⟨hl,ha⟩:=lists r r (he FV);rw[XY rfl];exact Bm ha
def Fk {ts us:List T}{ys zs:List V}{its its':List WQ}{A:WM}{e:Nat->Bool}(r:Reps X.K H ys ts)(r':Reps X.K H zs us)(rI:Z0 ys its)(rI':Z0 zs its')
  (he:∀j x y,ts[j]?=some x->us[j]?=some y->∀{x1 x2:V} {u u':WQ},Yx X.K H x1 x->Yx X.K H x2 y->Z3 x1 u->Z3 x2 u'->SeqAt.EqAt A s u u' (e j)):
  ∀j (h1:j<its.toArray.size) (h2:j<its'.toArray.size),SeqAt.EqAt A s its.toArray[j] its'.toArray[j] (e j):=λj h1 h2=>by
 have l1:its.toArray.size=ts.length:=by rw[XJ,<-rI.length,r.length]
 have l2:its'.toArray.size=us.length:=by rw[XJ,<-rI'.length,r'.length]
 have i1:ts[j]?=some (ts[j]'(by omega)):=by simp[l1▸h1]
 have i2:us[j]?=some (us[j]'(by omega)):=by simp[l2▸h2]
 obtain⟨x1,g1,q1⟩:=r.get i1;obtain⟨x2,g2,q2⟩:=r'.get i2;obtain⟨u1,k1,z1⟩:=rI.get g1;obtain⟨u2,k2,z2⟩:=rI'.get g2;have e1:its.toArray[j]=u1:=by
  have:its[j]?=some its.toArray[j]:=by simp
  rw[k1] at this;exact(YH this).symm
 have e2:its'.toArray[j]=u2:=by
  have:its'[j]?=some its'.toArray[j]:=by simp
  rw[k2] at this;exact(YH this).symm
 rw[e1,e2];exact he j _ _ i1 i2 q1 q2 z1 z2
def qq (I:Zl X WZ σ H s)(R:Rl X.K F H C):∀(n:Nat) {v w:T} {x y:V} {u u':WQ} {A:WM} {b:Bool},rV C n v w b->Yx X.K H x v->Yx X.K H y w->Z3 x u->Z3 y u'->A.units+n<cLine->SeqAt.EqAt A s u u' b:=by
 intro n
 induction n with
 | zero=>
  intro v w x y u u' A b h rv rw' ru ru' hu;obtain⟨f1,f2,rfl⟩:=h;exact yq I 0 f1 f2 rv rw' ru ru' hu
 | succ n ih=>
  intro v w x y u u' A b h rv rw' ru ru' hu;have hu0:A.units<cLine:=by omega
  have h0:=h
  rcases h with⟨f1,f2,rfl⟩ | ⟨xs,ys,e,rfl,rfl,he,rfl⟩ | ⟨a,a',xs,ys,e,rfl,rfl,h1,h2,he,rfl⟩
  ·exact yq I n f1 f2 rv rw' ru ru' (by omega)
  ·obtain⟨a,zs,rfl,hq,r⟩:=Z8 rv;obtain⟨b,zs',rfl,hq',r'⟩:=Z8 rw'
   cases ru
   cases ru'
   by_cases hne:a=b
   ·subst hne;have:=Cz I R (n+1) h0 rv rw';rw[this];exact SeqAt.EqAt.same _
   ·obtain⟨its,rI,p,_⟩:=I.tuple hq;obtain⟨its',rI',p',_⟩:=I.tuple hq';have l1:its.toArray.size=xs.length:=by rw[XJ,<-rI.length,r.length]
    have l2:its'.toArray.size=ys.length:=by rw[XJ,<-rI'.length,r'.length]
    have key:=SeqAt.EqAt.of_refs hne (SeqAt.RcAt.tuples (A:=A) p p' hu0 (Fk (A:=A.in1) r r' rI rI' λj x y hx hy {x1 x2 u u'} q1 q2 z1 z2=>ih (he j x y hx hy) q1 q2 z1 z2 (by show A.units+1+n<cLine;omega)));rw[l1,l2] at key;exact key
  ·cases Zu rv
   cases Zu rw'
   cases ru
   cases ru'
   by_cases hne:a=a'
   ·subst hne;have:=Cz I R (n+1) h0 rv rw';rw[this];exact SeqAt.EqAt.same _
   ·obtain⟨zs,hz,r⟩:=R.lst h1;obtain⟨zs',hz',r'⟩:=R.lst h2;obtain⟨its,rI,p,_⟩:=I.list (Wl.of hz);obtain⟨its',rI',p',_⟩:=I.list (Wl.of hz');have l1:its.toArray.size=xs.length:=by rw[XJ,<-rI.length,r.length]
    have l2:its'.toArray.size=ys.length:=by rw[XJ,<-rI'.length,r'.length]
    by_cases hl:xs.length=ys.length
    ·rw[XY hl];have key:=SeqAt.EqAt.of_refs hne (SeqAt.RcAt.lists (A:=A) p.isList p'.isList (by rw[l1,l2,hl]) hu0 (Fk (A:=A.in1) r r' rI rI' λj x y hx hy {x1 x2 u u'} q1 q2 z1 z2=>ih (he hl j x y hx hy) q1 q2 z1 z2 (by show A.units+1+n<cLine;omega)));rw[l1] at key;exact key
    ·rw[XX hl];exact SeqAt.EqAt.of_refs hne (SeqAt.RcAt.lists_lengths p.isList p'.isList (by rw[l1,l2];exact bne_iff_ne.mpr hl) hu0)
def dN (I:Zl X WZ σ H s)(R:Rl X.K F H C){n:Nat}{v w:T}{x y:V}{u u':WQ}{A:WM}{b:Bool}(h:rV C n v w b)(rv:Yx X.K H x v)(rw':Yx X.K H y w)(ru:Z3 x u)(ru':Z3 y u')(hu:A.units+n+1<cLine):
  SeqAt.RcAt A s u u' b/\SeqAt.RcNeAt A s u u' (!b):=by
 have hu0:A.units<cLine:=by omega
 cases n with
 | zero=>
  obtain⟨f1,f2,rfl⟩:=h;exact gC I f1 f2 rv rw' ru ru' hu
 | succ n=>
  rcases h with⟨f1,f2,rfl⟩ | ⟨xs,ys,e,rfl,rfl,he,rfl⟩ | ⟨a,a',xs,ys,e,rfl,rfl,h1,h2,he,rfl⟩
  ·exact gC I f1 f2 rv rw' ru ru' (by omega)
  ·obtain⟨a,zs,rfl,hq,r⟩:=Z8 rv;obtain⟨b,zs',rfl,hq',r'⟩:=Z8 rw'
   cases ru
   cases ru'
   obtain⟨its,rI,p,_⟩:=I.tuple hq;obtain⟨its',rI',p',_⟩:=I.tuple hq';have l1:its.toArray.size=xs.length:=by rw[XJ,<-rI.length,r.length]
   have l2:its'.toArray.size=ys.length:=by rw[XJ,<-rI'.length,r'.length]
   have hi:=Fk (s:=s) (A:=A.in1) (e:=e) r r' rI rI' λj x y hx hy {x1 x2 u u'} q1 q2 z1 z2=>qq I R n (he j x y hx hy) q1 q2 z1 z2 (by show A.units+1+n<cLine;omega);have k1:=SeqAt.RcAt.tuples (A:=A) p p' hu0 hi;have k2:=SeqAt.RcNeAt.tuples (A:=A) p p' hu0 hi;rw[l1,l2] at k1 k2;exact⟨k1,k2⟩
  ·cases Zu rv
   cases Zu rw'
   cases ru
   cases ru'
   obtain⟨zs,hz,r⟩:=R.lst h1;obtain⟨zs',hz',r'⟩:=R.lst h2;obtain⟨its,rI,p,_⟩:=I.list (Wl.of hz);obtain⟨its',rI',p',_⟩:=I.list (Wl.of hz');have l1:its.toArray.size=xs.length:=by rw[XJ,<-rI.length,r.length]
   have l2:its'.toArray.size=ys.length:=by rw[XJ,<-rI'.length,r'.length]
   by_cases hl:xs.length=ys.length
   ·rw[XY hl];have hi:=Fk (s:=s) (A:=A.in1) (e:=e) r r' rI rI' λj x y hx hy {x1 x2 u u'} q1 q2 z1 z2=>qq I R n (he hl j x y hx hy) q1 q2 z1 z2 (by show A.units+1+n<cLine;omega);have k1:=SeqAt.RcAt.lists (A:=A) p.isList p'.isList (by rw[l1,l2,hl]) hu0 hi;have k2:=SeqAt.RcNeAt.lists (A:=A) p.isList p'.isList (by rw[l1,l2,hl]) hu0 hi;rw[l1] at k1 k2;exact⟨k1,k2⟩
   ·rw[XX hl];have hne:(its.toArray.size !=its'.toArray.size)=true:=by rw[l1,l2];exact bne_iff_ne.mpr hl
    exact⟨SeqAt.RcAt.lists_lengths p.isList p'.isList hne hu0,SeqAt.RcNeAt.lists_lengths p.isList p'.isList hne hu0⟩
end
def xp (neg:Bool):W2:=λx y C Q=>∃b,rV C 100 x y b/\Q (.bl (if neg then !b else b)) C
abbrev gd:W2:=xp false
abbrev hW:W2:=xp true
section
variable {X:Cx}
def wP (neg:Bool)(hu:X.A.units+150<cLine):Kw X (compareOp (if neg then .NotEq else .Eq)) (xp neg):=⟨_,G6,λF H C x y v u Q Q' R rx ry h q WZ s σ v' u' I r1 r2=>by
 obtain⟨b,he,hq⟩:=h;have key:=dN (A:=X.A) I R he rx ry r1 r2 (by omega);have hq':=q _ _ H C R (Tx.refl H) Jt hq
 cases neg with
 | true=>exact EqBoolInt.of_rcne key.2 ⟨.bl (!b),H,I,FV,hq'⟩
 | false=>exact EqBoolInt.of_rc key.1 ⟨.bl b,H,I,FV,hq'⟩⟩
def kr (hu:X.A.units+150<cLine):Kw X (compareOp .Eq) gd:=wP false hu
def kn (hu:X.A.units+150<cLine):Kw X (compareOp .NotEq) hW:=wP true hu
end
structure cI (K:W.Frag)(x qual:Str)(st:Stmt)(f:Addr)(fd:FuncData):Prop where
 ex:∃(oc:WQ) (od:Option WP) (dV kV doc pm:WQ) (an:Option WP) (cdv ct:WQ) (osl:Array (Option WQ)),
  fd=W.fnOf x qual (Se st) (Jh st) (Zg st) dV kV doc pm an cdv ct/\K.lookup f=some ⟨oc,od,.func fd,osl⟩/\W.codeIn K cdv qual=true
 kp:W.keepIn K (.ref f)=true
def bv (P:WO)(w:WN)(K:WY)(mg:Str->Option WQ)(base:WU)(n:Nat)(x:Str)(ps:List Str)(ds:List Int)(sp:L2.Sp):Prop:=
 ∃f fd,X8 P w K mg base CX0 n f fd ps sp/\(∃us:List WQ,Z0 (ds.map V.int) us/\∀j,j<=ds.length->J6 K fd ps (us.drop j))/\W.keepIn K (.ref f)=true/\mg x=some (.ref f)
def cu (ws:List T)(a:WA):WA:=λτ C Q χ=>a τ C (λvs C1=>Q (vs++ws) C1) χ
end WL
namespace PySem
open Sem (wp)
namespace F
def lz_entry_ga:entryFor table "zip.__getattribute__"=some Builtin.«object.__getattribute__»:=
 entryFor_alias (id':="object.__getattribute__") (by kernel_rfl) (by first | rfl | decide+kernel) (by decide+kernel) (by kernel_rfl)
def lz_getattr_none:typeLookup (.type "zip") "__getattr__"=pure none:=by rw[typeLookup_type,builtinLookup_eq_fast];kernel_rfl
def lz_keys_none:typeLookup (.type "zip") "keys"=pure none:=by rw[typeLookup_type,builtinLookup_eq_fast];kernel_rfl
end F
section
variable {z:WP}
def va (fs:Array WQ)(u:Tok):
  Meets (Builtin.«object.__getattribute__» ⟨[.ref z,.str "keys" u],[]⟩) (λA R s=>s.heap.get? z=some {cls:=.type "zip",dict:=none,data:=.fields fs,slots:=#[]}/\raisesAttr (.ref z) "keys" A R s):=
 Meets.of_wp λprog w A R s hs=>by
  obtain⟨ho,hs⟩:=hs;obtain⟨hp,g,d,tk,os⟩:=s;have hT:(⟨hp,g,d,tk,os⟩:WR).TypeIs (.ref z) "zip":=⟨_,ho,FV⟩;have f1:=F.lz_keys_none;unfold Builtin.«object.__getattribute__»
  repeat (any_goals (first | assumption | wp_step))
  exact wpAny_raiseAttrError hs.1 hs.2 (attrMsg_fits (by decide+kernel) (by decide+kernel))
def sv {prog:WO}{w:WN}{A:WM}{E:WQ->WR->Prop}{s:WR}{fs:Array WQ}{Q:Option WQ->WR->Prop}(ho:s.heap.get? z=some {cls:=.type "zip",dict:=none,data:=.fields fs,slots:=#[]})(hA:A.handled=none)
  (h:∀h' tk,(∀b ob,s.heap.get? b=some ob->h'.get? b=some ob)->Q none {s with heap:=h',toks:=tk}):wpAny (model prog w) A (getAttr? (.ref z) "keys") Q E s:=by
 obtain⟨hp,g,d,tk,os⟩:=s;have hT:(⟨hp,g,d,tk,os⟩:WR).TypeIs (.ref z) "zip":=⟨_,ho,FV⟩;have f1:=sub_AttributeError;have f3:=F.slot_zip_getattribute.lookup;have f4:=F.slot_zip_getattribute.bind (.ref z);have f5:=F.lz_getattr_none;unfold getAttr? getAttrBy? getAttrBy
 repeat (any_goals (first | assumption | ((with_reducible show wpAny _ _ (call (Value.builtin "zip.__getattribute__") _ _) _ _ _);refine call_meets F.slot_zip_getattribute ⟨_,ho,FV⟩ F.lz_entry_ga (F.args_zip_getattribute_2 _ _) (va fs _) ⟨ho,hA,λh' tk' e hx=>?_⟩) | wp_step))
 obtain⟨t',u',he⟩:=hx.there;show wpAny _ _ (getattributeRaised _ _ _ _ _ _ _) _ _ _;unfold getattributeRaised
 repeat (any_goals (first | assumption | wp_step))
 exact h h' tk' λb ob q=>hx.keeps b ob q
end
end PySem
namespace L2
open PySem PySem.Spec PyProof.Rows
abbrev Ph (h:WU)(z TI TO T:WP)(b:Bool):Prop:=
 h.get? z=some {cls:=.type "zip",dict:=none,data:=.fields #[rawInt T,.bool b,.bool false,.ref TI,.ref TO],slots:=#[]}
section
variable {prog:WO}{w:WN}{A:WM}{E:WQ->WR->Prop}{s:WR}{z TI TO i1 i2:WP}{f1 f2:List WP}{n:Nat}{P1 P2:Nat->WQ->Prop}{S1 S2:Nat->WU->Prop}
def yE {M:Model}{a:WP}{Q:Option Obj->WR->Prop}(h:Q (s.heap.get? a) s):wpAny M A (loadIfAlive a) Q E s:=λΓ p hΓ=>by
 unfold loadIfAlive;rw[Sem.wp_loadIfAlive];exact(XB (M:=M) (A:=A) (E:=E) h) Γ p hΓ
def zN {T:WP}{b:Bool}{Q:Bool->WR->Prop}(hz:Ph s.heap z TI TO T b)(hT:∃o,s.heap.get? T=some o)(hQ:∀h2,Ph h2 z TI TO T true->Heap.SameBut z s.heap h2->Q false {s with heap:=h2}):
  wpAny (model prog w) A (Builtin.SmallTypes.ownedTupleIsFree (.ref z)) Q E s:=by
 obtain⟨oT,hoT⟩:=hT;unfold Builtin.SmallTypes.ownedTupleIsFree;refine XA (wpAny_field hz FV (x:=rawInt T) FV ?_);show wpAny _ _ (loadIfAlive (T:Int).toNat>>=_) _ _ s;refine XA (yE ?_);rw[Int.toNat_natCast,hoT];simp only[Option.isNone_some,Bool.false_eq_true,if_false];refine XA (wpAny_field hz FV (x:=.bool b) FV ?_)
 cases b with
 | false=>
  rw[XY (by decide)];refine wpAny_bind (wpAny_setField_rec hz (by simp) λha hza sa=>?_);exact XB (hQ ha hza sa)
 | true=>
  rw[XX (by decide)];exact XB (hQ s.heap hz (Heap.SameBut.refl _ _))
def uO {i:Nat}{T:WP}{b:Bool}{u v:WQ}{Q:WQ->WR->Prop}(D1:Draws prog w A i1 f1 n P1 S1)(D2:Draws prog w A i2 f2 n P2 S2)(Z:jG z TI TO i1 i2 f1 f2)(hi:i<n)
  (hz:Ph s.heap z TI TO T b) (hT:∃o,s.heap.get? T=some o) (hTI:IsPair s.heap TI (.ref i1) (.ref i2)) (s1:S1 i s.heap) (s2:S2 i s.heap)
  (hQ:∀x y h2 t2 b,P1 i x->P2 i y->Ph h2 z TI TO T b->S1 (i+1) h2->S2 (i+1) h2->IsPair h2 s.heap.objs.size x y->
   (∀c o,c≠z->c≠i1->c≠i2->s.heap.get? c=some o->h2.get? c=some o)->Q (.ref s.heap.objs.size) {s with heap:=h2,toks:=t2}):
  wpAny (model prog w) A (Builtin.«zip.__next__» ⟨[.ref z],[]⟩) (λfin s2=>∃r,fin=.done (.ret r)/\Q r s2) E s:=by
 show wpAny _ _ (field (.ref z) 2>>=_) _ E s;refine XA (wpAny_field hz FV (x:=.bool false) FV ?_);show wpAny _ _ (field (.ref z) 3>>=_) _ E s;refine XA (wpAny_field hz FV (x:=.ref TI) FV ?_);refine XA (wpAny_seqItems hTI FV ?_);show wpAny _ _ (Builtin.SmallTypes.ownedTupleIsFree (.ref z)>>=_) _ E s;refine XA (zN hz hT λha hza sa=>?_);simp only[Bool.false_eq_true,if_false];have ne:∀{b c:WP} {l:List WP},b∈l->c∉l->b≠c:=λhb hc e=>hc (e▸hb);have a1:S1 i ha:=D1.frame i _ _ s1 λb hb o e=>sa.extBut _ _ (ne hb Z.z1) e;have a2:S2 i ha:=D2.frame i _ _ s2 λb hb o e=>sa.extBut _ _ (ne hb Z.z2) e;have zi1:z≠i1:=λe=>Z.z1 (e▸Z.m1);have zi2:z≠i2:=λe=>Z.z2 (e▸Z.m2);rw[<-Array.forIn_toList];simp only[List.forIn_cons,List.forIn_nil];refine XA (XA (XA (wpAny_holding ?_)));show wpAny _ _ (Builtin.SmallTypes.nextOf (.ref i1)>>=_) _ _ _;refine XA (D1.item i {s with heap:=ha} _ _ hi a1 λx hb tb hx b1 sb=>XB ?_);have b2:S2 i hb:=D2.frame i _ _ a2 λb hm o e=>sb.extBut _ _ (ne hm Z.a12) e;refine XB ?_;refine XA (XA (wpAny_holding ?_));show wpAny _ _ (Builtin.SmallTypes.nextOf (.ref i2)>>=_) _ _ _;refine XA (D2.item i {s with heap:=hb,toks:=tb} _ _ hi b2 λy hd td hy d2 sd=>XB ?_);have d1:S1 (i+1) hd:=D1.frame _ _ _ b1 λb hm o e=>sd.extBut _ _ (ne hm Z.a21) e;refine XB ?_;refine XB ?_;refine XA (wpAny_newTuple ?_ (show(2:Nat)<=sizeLine by decide));have hsz:hd.objs.size=s.heap.objs.size:=by rw[sd.1,sb.1,sa.1]
 have hzd:Ph hd z TI TO T true:=sd.extBut _ _ zi2 (sb.extBut _ _ zi1 hza);have up:∀c o,hd.get? c=some o->(hd.push {cls:=.type "tuple",data:=.seq #[x,y]}).get? c=some o:=λc o e=>XC _ e;refine XB ⟨_,FV,?_⟩;show Q (.ref hd.objs.size) _;have hTn:IsPair (hd.push {cls:=.type "tuple",data:=.seq #[x,y]}) hd.objs.size x y:=XF _ FV;rw[hsz] at hTn |-;exact hQ x y _ td true hx hy (up _ _ hzd) (D1.frame _ _ _ d1 λb hm o e=>up _ o e) (D2.frame _ _ _ d2 λb hm o e=>up _ o e) hTn λc o n1 n3 n4 e=>up c o (sd.extBut _ _ n4 (sb.extBut _ _ n3 (sa.extBut _ _ n1 e)))
def qE {T:WP}{b:Bool}{Q:Fin->WR->Prop}(D1:Draws prog w A i1 f1 n P1 S1)(Z:jG z TI TO i1 i2 f1 f2)
  (hz:Ph s.heap z TI TO T b) (hT:∃o,s.heap.get? T=some o) (hTI:IsPair s.heap TI (.ref i1) (.ref i2)) (s1:S1 n s.heap)
  (hE:∀h2 ex,(∀c o,c≠z->c≠i1->c≠i2->s.heap.get? c=some o->h2.get? c=some o)->(∃o,h2.get? ex=some o/\o.cls=.type "StopIteration")->E (.ref ex) {s with heap:=h2}):
  wpAny (model prog w) A (Builtin.«zip.__next__» ⟨[.ref z],[]⟩) Q E s:=by
 show wpAny _ _ (field (.ref z) 2>>=_) _ E s;refine XA (wpAny_field hz FV (x:=.bool false) FV ?_);show wpAny _ _ (field (.ref z) 3>>=_) _ E s;refine XA (wpAny_field hz FV (x:=.ref TI) FV ?_);refine XA (wpAny_seqItems hTI FV ?_);show wpAny _ _ (Builtin.SmallTypes.ownedTupleIsFree (.ref z)>>=_) _ E s;refine XA (zN hz hT λha hza sa=>?_);simp only[Bool.false_eq_true,if_false];have ne:∀{b c:WP} {l:List WP},b∈l->c∉l->b≠c:=λhb hc e=>hc (e▸hb);have a1:S1 n ha:=D1.frame n _ _ s1 λb hb o e=>sa.extBut _ _ (ne hb Z.z1) e;rw[<-Array.forIn_toList];simp only[List.forIn_cons,List.forIn_nil];refine XA (XA (XA (wpAny_holding ?_)));show wpAny _ _ (Builtin.SmallTypes.nextOf (.ref i1)>>=_) _ _ _;refine XA (D1.done {s with heap:=ha} _ _ a1 λhb ex sb he=>?_);exact hE hb ex (λc o n1 n3 n4 e=>sb _ _ n3 (sa.extBut _ _ n1 e)) he
end
end L2
namespace PySem.F
def lz_entry_loop:entryFor table "dict.update.loop"=some Builtin.«dict.update.loop»:=entryFor_of_tree (by kernel_rfl)
end PySem.F
namespace L2
open PySem PySem.Spec PyProof.Rows
structure ZS (z TI TO i1 i2 l1 l2:Addr)(xs ys:Array Value)(i:Nat)(h:Heap):Prop where
 zip:IsZip h z TI TO .none\/∃T b,Ph h z TI TO T b/\(∃o,h.get? T=some o)/\T≠z/\T≠TO/\T≠i1/\T≠i2
 its:IsPair h TI (.ref i1) (.ref i2)
 own:∃a b,IsPair h TO a b
 s1:h.IsTupleIter i1 l1 i/\h.IsTuple l1 xs
 s2:h.IsTupleIter i2 l2 i/\h.IsTuple l2 ys
def ZS.frame {z TI TO i1 i2 l1 l2:WP}{xs ys:Array WQ}{i:Nat}{h h':WU}(Z:ZS z TI TO i1 i2 l1 l2 xs ys i h)(k:∀b∈[z,TI,TO,i1,i2,l1,l2],∀o,h.get? b=some o->h'.get? b=some o)(al:∀b,(∃o,h.get? b=some o)->∃o,h'.get? b=some o):ZS z TI TO i1 i2 l1 l2 xs ys i h':=by
 obtain⟨a,b,⟨u,v,c⟩,d,e⟩:=Z;refine⟨?_,k _ (by simp) _ b,⟨u,v,k _ (by simp) _ c⟩,⟨d.1.at λo q=>k _ (by simp) o q,d.2.at λo q=>k _ (by simp) o q⟩,⟨e.1.at λo q=>k _ (by simp) o q,e.2.at λo q=>k _ (by simp) o q⟩⟩
 rcases a with a | ⟨T,b,a,hT,r⟩
 ·exact .inl (k _ (by simp) _ a)
 ·exact .inr ⟨T,b,k _ (by simp) _ a,al _ hT,r⟩
section
variable {prog:WO}{w:WN}{A:WM}{E:WQ->WR->Prop}{s:WR}{z TI TO i1 i2 l1 l2:WP}{xs ys:Array WQ}
def zK {i:Nat}{Q:Option WQ->WR->Prop}(hh:A.handled=none)(Z:jG z TI TO i1 i2 [i1,l1] [i2,l2])(h1:l1≠i1)(h2:l2≠i2)(hn:xs.size=ys.size)(hi:i<xs.size)(st:ZS z TI TO i1 i2 l1 l2 xs ys i s.heap)
  (hQ:∀T x y h' tk,xs[i]?=some x->ys[i]?=some y->s.heap.objs.size<=T->IsPair h' T x y->ZS z TI TO i1 i2 l1 l2 xs ys (i+1) h'->(∀b o,b∉[z,TO,i1,i2]->s.heap.get? b=some o->h'.get? b=some o)->Q (some (.ref T)) {s with heap:=h',toks:=tk}):
  wpAny (model prog w) A (pyNext (.ref z)) Q E s:=by
 have D1:=Qk (prog:=prog) (w:=w) (A:=A.in1) hh i1 l1 h1 xs;have D2:=Qk (prog:=prog) (w:=w) (A:=A.in1) hh i2 l2 h2 ys;rw[<-hn] at D2;obtain⟨a,b,⟨u,v,c⟩,d,e⟩:=st;have al:∀{h h':WU},True:=λ{_ _}=>trivial;have lt:∀{c o},s.heap.get? c=some o->s.heap.objs.size≠c:=λe=>DA (XD e);obtain⟨o1,l1'⟩:=D1.live _ _ d;obtain⟨o2,l2'⟩:=D2.live _ _ e
 rcases a with a | ⟨T,bb,a,hT,t1,t2,t3,t4⟩
 ·have hTy:s.TypeIs (.ref z) "zip":=⟨_,a,FV⟩;unfold pyNext;refine XA (wpAny_attempt (wpAny_callSpecial?_slot (name:=Str.ofString "__next__") hTy BQ (wpAny_call_entry BQ hTy DD
   (zL D1 D2 Z hi a b c d e λx y h2 t2 hx hy z1 z2 z3 z4 z5 z6=>XB ?_) (CY _))))
  refine hQ _ x y h2 t2 hx hy (XE _) z5 ⟨.inr ⟨_,false,z1,⟨_,z5⟩,lt a,lt c,lt l1',lt l2'⟩,z6 _ _ Z.tz Z.io Z.t1 Z.t2 b,⟨_,_,z2⟩,z3,z4⟩ λc o hc q=>?_;simp only[List.mem_cons,List.not_mem_nil,or_false,not_or] at hc;exact z6 c o hc.1 hc.2.1 hc.2.2.1 hc.2.2.2 q
 ·have hTy:s.TypeIs (.ref z) "zip":=⟨_,a,FV⟩;unfold pyNext;refine XA (wpAny_attempt (wpAny_callSpecial?_slot (name:=Str.ofString "__next__") hTy BQ (wpAny_call_entry BQ hTy DD
   (uO (u:=u) (v:=v) D1 D2 Z hi a hT b d e λx y h2 tk b2 hx hy z1 z3 z4 z5 z6=>XB ?_) (CY _))))
  obtain⟨oT,hoT⟩:=hT;have Oi1:TO≠i1:=λe=>Z.o1 (e▸Z.m1);have Oi2:TO≠i2:=λe=>Z.o2 (e▸Z.m2);refine hQ _ x y h2 tk hx hy (XE _) z5 ⟨.inr ⟨T,b2,z1,⟨oT,z6 _ _ t1 t3 t4 hoT⟩,t1,t2,t3,t4⟩,z6 _ _ Z.tz Z.t1 Z.t2 b,⟨_,_,z6 _ _ Z.oz Oi1 Oi2 c⟩,z3,z4⟩ λc o hc q=>?_;simp only[List.mem_cons,List.not_mem_nil,or_false,not_or] at hc;exact z6 c o hc.1 hc.2.2.1 hc.2.2.2 q
def xg {Q:Option WQ->WR->Prop}(hh:A.handled=none)(Z:jG z TI TO i1 i2 [i1,l1] [i2,l2])(h1:l1≠i1)(st:ZS z TI TO i1 i2 l1 l2 xs ys xs.size s.heap)
  (hQ:∀h' tk,(∀b o,b∉[z,TO,i1,i2]->s.heap.get? b=some o->h'.get? b=some o)->Q none {s with heap:=h',toks:=tk}):
  wpAny (model prog w) A (pyNext (.ref z)) Q E s:=by
 have D1:=Qk (prog:=prog) (w:=w) (A:=A.in1) hh i1 l1 h1 xs;obtain⟨a,b,⟨u,v,c⟩,d,e⟩:=st
 rcases a with a | ⟨T,bb,a,hT,t1,t2,t3,t4⟩
 ·have hTy:s.TypeIs (.ref z) "zip":=⟨_,a,FV⟩;unfold pyNext;refine XA (wpAny_attempt (wpAny_callSpecial?_slot (name:=Str.ofString "__next__") hTy BQ (wpAny_call_entry BQ hTy DD (xh D1 Z a b c d λh2 ex hk he=>?_) (CY _))));obtain⟨o,ho,hc⟩:=he;refine XA (wpAny_isInstance (T:="StopIteration") (b:=true) ⟨o,ho,hc⟩ isSubtype_stop ?_);refine XB (hQ h2 s.toks λc o hc q=>?_);simp only[List.mem_cons,List.not_mem_nil,or_false,not_or] at hc;exact hk c o hc.1 hc.2.1 hc.2.2.1 hc.2.2.2 q
 ·have hTy:s.TypeIs (.ref z) "zip":=⟨_,a,FV⟩;unfold pyNext;refine XA (wpAny_attempt (wpAny_callSpecial?_slot (name:=Str.ofString "__next__") hTy BQ (wpAny_call_entry BQ hTy DD (qE D1 Z a hT b d λh2 ex hk he=>?_) (CY _))));obtain⟨o,ho,hc⟩:=he;refine XA (wpAny_isInstance (T:="StopIteration") (b:=true) ⟨o,ho,hc⟩ isSubtype_stop ?_);refine XB (hQ h2 s.toks λc o hc q=>?_);simp only[List.mem_cons,List.not_mem_nil,or_false,not_or] at hc;exact hk c o hc.1 hc.2.2.1 hc.2.2.2 q
def sU {knd:KeyKind prog w Z2}{d:WP}(hh:A.handled=none)(Z:jG z TI TO i1 i2 [i1,l1] [i2,l2])(h1:l1≠i1)(h2:l2≠i2)(hn:xs.size=ys.size)(hd:d∉[z,TI,TO,i1,i2,l1,l2])(kk:Nat->Z2)(hk:∀i x,xs[i]?=some x->knd.is (kk i) x=true)(hsz:xs.size<=1000)
  {R:Result->WR->Prop} (h₀:WU) (hlt:∀b o,h₀.get? b=some o->b≠d/\b∉[z,TO,i1,i2])
  (hR:∀h' tk vs,(∀b o,h₀.get? b=some o->h'.get? b=some o)->h'.DictOf knd d vs->vs=((List.range xs.size).foldl (λa j=>stored a (kk j) ((ys[j]?).getD .none)) [])->R (.ok (.ret .none)) {s with heap:=h',toks:=tk}):
  ∀(m i:Nat) (h:WU) (tk:Nat) (vs:List (Z2×WQ)),xs.size-i=m->i<=xs.size->ZS z TI TO i1 i2 l1 l2 xs ys i h->(∀b o,h₀.get? b=some o->h.get? b=some o)->h.DictOf knd d vs->vs.length<=i->vs=((List.range i).foldl (λa j=>stored a (kk j) ((ys[j]?).getD .none)) [])-> 
   codeAny (model prog w) A (.builtin "dict.update.loop" ⟨[.ref d,.ref z,rawInt i,.none],[]⟩) R {s with heap:=h,toks:=tk}:=by
 intro m
 induction m with
 | zero=>
  intro i h tk vs hm hi st keep dd hl hv;have ei:i=xs.size:=by omega
  subst ei;refine codeAny_builtin PySem.F.lz_entry_loop ?_;show wpAny _ _ (pyNext (.ref z)>>=_) _ _ _;refine XA (xg (A:=A.under _) hh Z h1 st λh' tk' kp=>?_);show wpAny _ _ (Builtin.Dict.addKeywords d []>>=_) _ _ _;refine XA (XB (XB ?_));refine hR h' tk' vs (λb o q=>kp b o (hlt b o q).2 (keep b o q)) (dd.at λo q=>kp _ o ?_ q) hv;intro hm;exact hd (by simp only[ZM,ZN,or_false] at hm |-;rcases hm with h | h | h | h<;>simp[h])
 | succ m ih=>
  intro i h tk vs hm hi st keep dd hl hv;refine codeAny_builtin PySem.F.lz_entry_loop ?_;show wpAny _ _ (pyNext (.ref z)>>=_) _ _ _;have hdw:d∉[z,TO,i1,i2]:=λhm=>hd (by simp only[ZM,ZN,or_false] at hm |-;rcases hm with h | h | h | h<;>simp[h]);refine XA (zK (A:=A.under _) hh Z h1 h2 hn (by omega) st λT x y h' tk' hx hy hT hp st' kp=>?_);have dd':h'.DictOf knd d vs:=dd.at λo q=>kp _ o hdw q;show wpAny _ _ (holding [.ref T] _>>=_) _ _ _;refine XA (wpAny_holding ?_);refine XA (wpAny_tryCatch ?_);unfold Builtin.Dict.pairItems;refine XA (wpAny_typeOf (T:="tuple") ⟨_,hp,FV⟩ ?_);rw[XY (by decide)];refine XA (wpAny_seqItems hp FV (XB ?_));show wpAny _ _ (holding [x,y] (dictSet d x y)) _ _ _;refine wpAny_holding ?_;unfold dictSet;refine wpAny_holding (XA (knd.pyHash (hk i x hx) ?_));refine wpAny_dictSetHashed_pairs (hk i x hx) dd' (λh2 dd2 sb=>?_) (XN (show vs.length<=1000 by omega) (by decide));refine XB ⟨Code.quiet_builtin _ (by decide+kernel),?_⟩;have nd:∀b∈[z,TI,TO,i1,i2,l1,l2],b≠d:=λb hb e=>hd (e▸hb);have ei:(rawInt ((i:Int)+1))=rawInt ((i+1:Nat):Int):=by congr 1
  rw[ei];refine ih (i+1) h2 _ (stored vs (kk i) y) (by omega) (by omega) (st'.frame (λb hb o q=>sb.extBut _ _ (nd b hb) q) λb hb=>?_) (λb o q=>sb.extBut _ _ (hlt b o q).1 (kp b o (hlt b o q).2 (keep b o q))) dd2 ?_ ?_
  ·obtain⟨o,q⟩:=hb;by_cases e:b=d
   ·subst e;obtain⟨o',_,_,q',_⟩:=dd2;exact⟨o',q'⟩
   ·exact⟨o,sb.extBut _ _ e q⟩
  ·unfold stored
   split
   ·rw[XI];omega
   ·rw[BA,BF];omega
  ·rw[FD,EL,<-hv];simp[hy]
def Es {knd:KeyKind prog w Z2}{Q:WQ->WR->Prop}(hh:A.handled=none)(Z:jG z TI TO i1 i2 [i1,l1] [i2,l2])(h1:l1≠i1)(h2:l2≠i2)(hn:xs.size=ys.size)(kk:Nat->Z2)(hk:∀i x,xs[i]?=some x->knd.is (kk i) x=true)(hsz:xs.size<=1000)
  (h₀:WU) (hlt:∀b o,h₀.get? b=some o->b∉[z,TO,i1,i2]) (keep:∀b o,h₀.get? b=some o->s.heap.get? b=some o) (hz0:IsZip s.heap z TI TO .none) (st:ZS z TI TO i1 i2 l1 l2 xs ys 0 s.heap)
  (hQ:∀h' tk,(∀b o,h₀.get? b=some o->h'.get? b=some o)->h'.DictOf knd s.heap.objs.size ((List.range xs.size).foldl (λa j=>stored a (kk j) ((ys[j]?).getD .none)) [])->Q (.ref s.heap.objs.size) {s with heap:=h',toks:=tk}):
  wpAny (model prog w) A (call (.type "dict") [.ref z]) Q E s:=by
 refine callType_codes (Q₁:=λobj s₁=>obj=.ref s.heap.objs.size/\s₁={s with heap:=s.heap.push {cls:=.type "dict",data:=.dict #[]}}) PySem.F.kt_called_dict (PySem.F.kt_typeCall_dict_1 _) PySem.F.entry_dict_init (kt_code_dict_new _ ⟨FV,FV⟩) ?_;rintro obj s₁ ⟨rfl,rfl⟩;have hnew:(s.heap.push {cls:=.type "dict",data:=.dict #[]}).DictOf knd s.heap.objs.size []:=Heap.DictOf.new s.heap;have hps:∀b o,s.heap.get? b=some o->(s.heap.push {cls:=.type "dict",data:=.dict #[]}).get? b=some o:=λb o q=>XC _ q;have st1:ZS z TI TO i1 i2 l1 l2 xs ys 0 (s.heap.push {cls:=.type "dict",data:=.dict #[]}):=st.frame (λb _ o q=>hps b o q) λb ⟨o,q⟩=>⟨o,hps b o q⟩;refine⟨hnew.typeIs,PySem.F.args_dict_init_2 _ _,?_⟩;unfold Builtin.«dict.__init__»;refine XA ?_;unfold Builtin.Dict.selfAndRest;refine XA (wpAny_notOrdered_dict hnew.typeIs ?_);show wpAny _ _ (pure (s.heap.objs.size,[Value.ref z])) _ _ _;refine XB ?_;show wpAny _ _ (Builtin.Dict.updateFrom "dict.__init__" s.heap.objs.size (.ref z) [] .none) _ _ _;have hz:=hps _ _ hz0;unfold Builtin.Dict.updateFrom;refine XA (wpAny_typeOf (T:="zip") ⟨_,hz,FV⟩ ?_);rw[XY (by decide)];refine XA (sv hz hh λh' tk' kp=>?_);rw[XY (by decide)];have st2:ZS z TI TO i1 i2 l1 l2 xs ys 0 h':=st1.frame (λb _ o q=>kp b o q) λb ⟨o,q⟩=>⟨o,kp b o q⟩;refine XA (wpAny_rule ?_);refine XA (wpAny_pyIter_zip (kp _ _ hz) ?_);refine XB ⟨Code.quiet_builtin _ (by decide+kernel),?_⟩;have sd:∀b o,s.heap.get? b=some o->b≠s.heap.objs.size:=λb o q=>XH (XD q);have hd:s.heap.objs.size∉[z,TI,TO,i1,i2,l1,l2]:=by
  obtain⟨_,b,⟨u,v,c⟩,d,e⟩:=st;obtain⟨o1,e1,_⟩:=d.1;obtain⟨o2,e2,_⟩:=e.1;obtain⟨o3,e3,_⟩:=d.2;obtain⟨o4,e4,_⟩:=e.2;simp only[List.mem_cons,List.not_mem_nil,or_false,not_or];exact⟨(sd _ _ hz0).symm,(sd _ _ b).symm,(sd _ _ c).symm,(sd _ _ e1).symm,(sd _ _ e2).symm,(sd _ _ e3).symm,(sd _ _ e4).symm⟩
 refine sU (A:=A.in1) (s:=s) (knd:=knd) hh Z h1 h2 hn hd kk hk hsz h₀ (λb o q=>⟨sd b o (keep b o q),hlt b o q⟩) (λh3 tk3 vs k3 d3 hv=>?_) xs.size 0 h' tk' [] FV (XO _) st2 (λb o q=>kp b o (hps b o (keep b o q))) (hnew.at λo q=>kp _ o q) (XE _) FV;subst hv;exact⟨FV,hQ h3 tk3 k3 d3⟩
end
def Hm {α:Type}(put:List (Z2×α)->Z2->α->List (Z2×α))(ks:List Z2)(ys:List α):List (Z2×α):=(ks.zip ys).foldl (λa kv=>put a kv.1 kv.2) []
def nr {α:Type}{put:List (Z2×α)->Z2->α->List (Z2×α)}(hp:∀a k v,(put a k v).length<=a.length+1)(ks:List Z2)(ys:List α):(Hm put ks ys).length<=ks.length:=by
 have key:∀(l:List (Z2×α)) (acc:List (Z2×α)),(l.foldl (λa kv=>put a kv.1 kv.2) acc).length<=acc.length+l.length:=by
  intro l
  induction l with
  | nil=>intro acc;simp
  | cons x l ih=>intro acc;have h1:=ih (put acc x.1 x.2);have h2:=hp acc x.1 x.2;rw[FE,YF];omega
 have h:=key (ks.zip ys) [];rw[CT] at h;unfold Hm;simp only[List.length_nil] at h;omega
def dC (K:WY)(ta:TA):TE:=λσ H Q=>ta σ H λvs H1=>∃(l1 l2:WP) (ks:List Z2) (ys:List V),vs=[.ref l1,.ref l2]/\Vx K H1 l1 (ks.map kV)/\Vx K H1 l2 ys/\ks.length=ys.length/\ks.length<=1000/\
 ∀p,H1 p=none->Q (.ref p) (Yo H1 p (.dK (Hm X7 ks ys)))
def kP {ks:List Z2}{ys:List V}{us:List WQ}(hl:ks.length=ys.length)(rv:Z0 ys us):KV (Hm X7 ks ys) ((List.range ks.length).foldl (λa j=>stored a ((ks[j]?).getD (.inl 0)) ((us.toArray[j]?).getD .none)) []):=by
 have key:∀i,i<=ks.length->KV (((ks.zip ys).take i).foldl (λa kv=>X7 a kv.1 kv.2) []) ((List.range i).foldl (λa j=>stored a ((ks[j]?).getD (.inl 0)) ((us.toArray[j]?).getD .none)) []):=by
  intro i
  induction i with
  | zero=>intro _;exact .nil
  | succ i ih=>
   intro hi;have hk:ks[i]?=some ks[i]:=by simp[show i<ks.length by omega]
   have hy:ys[i]?=some (ys[i]'(by omega)):=by simp[show i<ys.length by omega]
   obtain⟨u,hu,ru⟩:=rv.get hy;have hz:(ks.zip ys)[i]?=some (ks[i],ys[i]'(by omega)):=by rw[BN];exact⟨hk,hy⟩
   have hu':us.toArray[i]?=some u:=by simpa using hu
   rw[FD,EL,YD,hz,Option.toList_some,EL];simp only[List.foldl_cons,List.foldl_nil,hk,hu',Option.getD_some];exact(ih (by omega)).put _ ru
 have h:=key ks.length (XE _);rw[ER (by rw[CT];omega)] at h;exact h
section
variable {X:Cx}
def Ao {a c:WW}{ta:TA}{p pos p2 pos2:Pos}(hc:X.calm=true)(hg:Gl X "dict")(hm:X.mg "dict"=none)(hg2:Gl X "zip")(hm2:X.mg "zip"=none)(ha:PA X [a,c] ta)(hs:starEach [a,c] X.env=(false,eval a X.env)::starEach [c] X.env:=by rfl)(hp:(backTo pos2 (starEach [c] X.env)).any (·.1)=false:=by rfl)
  (hs2:starEach [.Call (.Name "zip" p2) [a,c] [] pos2] X.env=[(false,eval (.Call (.Name "zip" p2) [a,c] [] pos2) X.env)]:=by rfl) (hb:bootBuiltins "zip"=some (.type "zip"):=by decide+kernel) (hb2:bootBuiltins "dict"=some (.type "dict"):=by decide+kernel):
  PE X (.Call (.Name "dict" p) [.Call (.Name "zip" p2) [a,c] [] pos2] [] pos) (dC X.K ta):=by
 intro WZ s σ H Q I h;refine Call_ (Vi I hg hm hb2 (BI ?_ hs2 FV));rw[hs2];show wpAny _ _ (spliced ((false,eval (.Call (.Name "zip" p2) [a,c] [] pos2) X.env)::backTo pos [])) _ _ s;refine BV (Call_ (Vi I hg2 hm2 hb (BI (Ja (ha pos2 WZ s σ H _ I h) λus s1 ⟨vs,H1,I1,r1,q1⟩=>?_) hs hp)));obtain⟨l1,l2,ks,ys,rfl,hq1,hq2,hlen,hsz,q⟩:=q1;obtain⟨u,v,rfl,ru,rv⟩:=r1.two
 cases ru
 cases rv
 obtain⟨its1,rv1,p1,_⟩:=I1.tuple hq1;obtain⟨its2,rv2,p2',_⟩:=I1.tuple hq2;have lt1:l1<s1.heap.objs.size:=by obtain⟨_,e,_⟩:=p1;exact XD e
 have lt2:l2<s1.heap.objs.size:=by obtain⟨_,e,_⟩:=p2';exact XD e
 have n1:its1.toArray.size=ks.length:=by rw[XJ,<-rv1.length,XI]
 have n2:its2.toArray.size=ys.length:=by rw[XJ,<-rv2.length]
 refine Pf false false p1 p2' λh2 N=>?_;refine CV ?_;generalize hk:s1.heap.objs.size=k at N lt1 lt2;have Z:=Mh lt1 lt2;have st:ZS (k+4) (k+2) (k+3) k (k+1) l1 l2 its1.toArray its2.toArray 0 h2:=by
  refine⟨.inl (hk▸N.zip),hk▸N.its,⟨_,_,hk▸N.own⟩,⟨⟨_,hk▸N.i1,FV,FV⟩,Heap.IsTuple.at (show s1.heap.IsTuple l1 its1.toArray from p1) λo q=>N.keep _ o q⟩,⟨⟨_,hk▸N.i2,FV,FV⟩,Heap.IsTuple.at (show s1.heap.IsTuple l2 its2.toArray from p2') λo q=>N.keep _ o q⟩⟩
 have hkk:∀i x,its1.toArray[i]?=some x->(Yw X.prog X.w).is ((ks[i]?).getD (.inl 0)) x=true:=λi x hx=>by
  have hi:i<ks.length:=by
   have:=(Array.getElem?_eq_some_iff.mp hx).1;omega
  have hk':ks[i]?=some ks[i]:=by simp[hi]
  have hm':(ks.map kV)[i]?=some (kV ks[i]):=by rw[XM,hk'];rfl
  obtain⟨u,hu,ru⟩:=rv1.get hm';have:u=x:=by
   have e:its1[i]?=some x:=by simpa using hx
   rw[hu] at e;exact YH e
  subst this;rw[hk'];exact Ly ru
 have old:∀b o,s1.heap.get? b=some o->b∉[k+4,k+3,k,k+1]:=λb o q hb=>by
  have:b<k:=hk▸XD q;simp only[ZM,ZN,or_false] at hb
  rcases hb with e | e | e | e
  ·rw[e] at this;exact DF (BL k 4) this
  ·rw[e] at this;exact DF (BL k 3) this
  ·rw[e] at this;exact BJ k this
  ·rw[e] at this;exact DF (BL k 1) this
 refine Es (s:={s1 with heap:=h2}) (knd:=Yw X.prog X.w) (I.ok.hd hc) Z (XH lt1) (XH (CF lt2)) (by omega) (λj=>(ks[j]?).getD (.inl 0)) hkk (by omega) s1.heap old N.keep (hk▸N.zip) st λh3 tk3 keep dd=>?_;have hp3:s1.heap.objs.size<=h2.objs.size:=by
  have:=XD (hk▸N.zip:IsZip h2 (k+4) (k+2) (k+3) .none);rw[hk];exact XN (BL _ _) (CK this)
 rw[n1] at dd;have big:(h2.objs.size==sysModules)=false:=beq_eq_false_iff_ne.mpr (Ne.symm (XH (XG I1.big hp3)));have zl:(Hm X7 ks ys).length<=sizeLine:=by
  have:=nr (α:=V) (put:=X7) (λa k v=>by unfold X7;split<;>simp) ks ys;exact XN (XN this hsz) (by decide)
 exact⟨.ref _,_,I1.laid (h':=h3) (t':=tk3) keep hp3 (Ko zl big (kP hlen rv2) dd),FV,q _ (I1.hok.fresh hp3)⟩
end
end L2
namespace WL
open PySem PySem.Spec PyProof.Rows L2
def cr (a:WA):WE:=λτ C Q χ=>a τ C (λvs C1=>∃(zs:List Str) (ts:List T),vs=[.tup (zs.map T.str),.tup ts]/\zs.length=ts.length/\zs.length<=1000/\∀p,C1 p=none->Q (.ref p) (up C1 p (.dic (Hm Jz (zs.map Sum.inr) ts)))) χ
def Iz {K:WY}{H:Hp}:∀{zs:List Str} {ys:List V},Reps K H ys (zs.map T.str)->ys=(zs.map (Sum.inr:Str->Z2)).map kV
 | [],_,h=>by rw[J9 h];rfl
 | z::zs,_,h=>by obtain⟨y,r,rfl,a,b⟩:=Yk h;rw[Ju a,Iz b];rfl
def lQ {K:WY}{H:Hp}{ks:List Z2}{ys:List V}{ts:List T}(r:Reps K H ys ts):PR K H (Hm X7 ks ys) (Hm Jz ks ts):=by
 unfold Hm;have key:∀(ks:List Z2) (ys:List V) (ts:List T) (a:List (Z2×V)) (b:List (Z2×T)),Reps K H ys ts->PR K H a b->PR K H ((ks.zip ys).foldl (λa kv=>X7 a kv.1 kv.2) a) ((ks.zip ts).foldl (λa kv=>Jz a kv.1 kv.2) b):=by
  intro ks
  induction ks with
  | nil=>intro ys ts a b r h;exact h
  | cons k ks ih=>
   intro ys ts a b r h
   cases ts with
   | nil=>rw[J9 r];exact h
   | cons t ts=>
    obtain⟨y,r',rfl,q,q'⟩:=Yk r;simp only[List.zip_cons_cons,List.foldl_cons];exact ih _ _ _ _ q' (PR.put h q)
 exact key ks ys ts [] [] r .nil
section
variable {X:Cx}{a c:WW}{wA:WA}{p pos p2 pos2:Pos}
def fE (hc:X.calm=true)(hg:Gl X "dict")(hm:X.mg "dict"=none)(hg2:Gl X "zip")(hm2:X.mg "zip"=none)(ha:M3 X [a,c] wA)(hs:starEach [a,c] X.env=(false,eval a X.env)::starEach [c] X.env:=by rfl)(hp:(backTo pos2 (starEach [c] X.env)).any (·.1)=false:=by rfl)
  (hs2:starEach [.Call (.Name "zip" p2) [a,c] [] pos2] X.env=[(false,eval (.Call (.Name "zip" p2) [a,c] [] pos2) X.env)]:=by rfl):Jc X (.Call (.Name "dict" p) [.Call (.Name "zip" p2) [a,c] [] pos2] [] pos) (cr wA):=by
 obtain⟨t,p1,s⟩:=ha;refine⟨_,Ao hc hg hm hg2 hm2 p1 hs hp hs2,λF H C σ τ Q Q' χ R S h q=>?_⟩;refine s F H C σ τ _ _ χ R S h λxs vs H1 C1 R1 t1 rs h1=>?_;obtain⟨zs,ts,rfl,hl,hz,h1⟩:=h1;obtain⟨x1,r1,rfl,q1,rs⟩:=Yk rs;obtain⟨x2,r2,rfl,q2,rs⟩:=Yk rs
 cases J9 rs
 obtain⟨a1,ys1,rfl,sq1,e1⟩:=Z8 q1;obtain⟨a2,ys2,rfl,sq2,e2⟩:=Z8 q2
 cases Iz e1
 refine⟨a1,a2,zs.map Sum.inr,ys2,FV,sq1,sq2,by rw[XI,e2.length];exact hl,by rw[XI];exact hz,λpp hpp=>?_⟩;have tn:Tx H1 (Yo H1 pp (.dK (Hm X7 (zs.map Sum.inr) ys2))):=Tx.new hpp;exact q _ _ _ _ (R1.new (o:=.dic (Hm Jz (zs.map Sum.inr) ts)) hpp ⟨_,Z7,Lk tn (lQ e2)⟩) (t1.trans tn) Jd (h1 pp (R1.free hpp))
end
end WL
namespace L2
open PySem PySem.Spec PyProof.Rows
section
variable {X:Cx}
def dB (te:TE):TE:=λσ H Q=>te σ H λx H1=>(∃z:Str,x=.str z/\z.length<=sizeLine/\Q (.str z) H1)\/∃i:Int,x=.int i/\i.natAbs.log2<1920/\Q (.str (toString i)) H1
def lW {e:WW}{te:TE}{pos:Pos}(h:PE X e te):PE X (.FormattedValue e (-1) none pos) (dB te):=by
 intro WZ s σ H Q I q;refine FormattedValue_plain (Ja (h WZ s σ H _ I q) λu s1 ⟨x,H1,I1,rx,q1⟩=>?_)
 rcases q1 with⟨z,rfl,hz,q1⟩ | ⟨i,rfl,hi,q1⟩
 ·obtain⟨t,rfl⟩:=rx;exact formatField_str (λt' tk=>⟨.str z,H1,I1.tok _,⟨t',FV⟩,q1⟩) hz
 ·obtain⟨t,rfl⟩:=rx;exact formatField_int_small hi ⟨.str (toString i),H1,I1.tok _,⟨_,FV⟩,q1⟩
def tJ:List TE->Str->TE
 | [],out=>λ_ H Q=>Q (.str out) H
 | t::ts,out=>λσ H Q=>t σ H λx H1=>∃z:Str,x=.str z/\(out++z).length<=sizeLine/\tJ ts (out++z) σ H1 Q
inductive mr (X:Cx):List Expr->List TE->Prop
 | nil:mr X [] []
 | cons {e:WW} {es:List WW} {t:TE} {ts:List TE} (h:PE X e t) (r:mr X es ts):mr X (e::es) (t::ts)
def pj {es:List WW}{ts:List TE}(h:mr X es ts):∀{WZ:List (WP×Obj)} {s:WR} {σ:St} {H:Hp} {Q:VK} {out:Str},out.length<=sizeLine->Zl X WZ σ H s->tJ ts out σ H Q->wpAny (model X.prog X.w) X.A (joinParts out (evalEach es X.env)) (EP X WZ σ Q) X.xe s:=by
 induction h with
 | nil=>
  intro WZ s σ H Q out ho I q;exact joinParts_nil ⟨.str out,H,I.tok _,⟨_,FV⟩,q⟩ ho
 | @cons e es t ts h r ih=>
  intro WZ s σ H Q out ho I q;show wpAny _ _ (joinParts out (eval e X.env::evalEach es X.env)) _ _ s;refine joinParts_cons (Ja (h WZ s σ H _ I q) λu s1 ⟨x,H1,I1,rx,z,ex,hz,q1⟩=>?_);subst ex;obtain⟨t',rfl⟩:=rx;exact⟨hz,ih hz I1 q1⟩
def yZ {v1 v2:WW}{Yp:List WW}{ts:List TE}{pos:Pos}(h:mr X (v1::v2::Yp) ts):PE X (.JoinedStr (v1::v2::Yp) pos) (tJ ts Str.empty):=by
 intro WZ s σ H Q I q;exact JoinedStr_many (pj h (XO _) I q)
end
end L2
namespace WL
open PySem PySem.Spec PyProof.Rows L2
def cq (e:WE):WE:=λτ C Q χ=>e τ C (λx C1=>(∃z:Str,x=.str z/\z.length<=sizeLine/\Q (.str z) C1)\/∃i:Int,x=.int i/\i.natAbs.log2<1920/\Q (.str (toString i)) C1) χ
def eJ:List WE->Str->WE
 | [],out=>λ_ C Q _=>Q (.str out) C
 | w::ws,out=>λτ C Q χ=>w τ C (λv C1=>∃z:Str,v=.str z/\(out++z).length<=sizeLine/\eJ ws (out++z) τ C1 Q χ) χ
section
variable {X:Cx}{e k v:WW}{we wk wv:WE}{pos:Pos}
def fD (he:Jc X e we):Jc X (.FormattedValue e (-1) none pos) (cq we):=by
 obtain⟨t,p,s⟩:=he;refine⟨_,lW p,λF H C σ τ Q Q' χ R S h q=>?_⟩;refine s F H C σ τ _ _ χ R S h λx u H1 C1 R1 t1 rx h1=>?_
 rcases h1 with⟨z,rfl,hz,h1⟩ | ⟨i,rfl,hi,h1⟩
 ·cases Ju rx
  exact .inl ⟨z,FV,hz,q _ _ H1 C1 R1 t1 Wd h1⟩
 ·cases Z4 rx
  exact .inr ⟨i,FV,hi,q _ _ H1 C1 R1 t1 Wd h1⟩
def iU (X:Cx)(es:List WW)(ws:List WE):Prop:=∃ts,mr X es ts/\∀(out:Str),Ur X.K (tJ ts out) (eJ ws out)
def nt:iU X [] []:=⟨[],.nil,λout F H C σ τ Q Q' χ R S h q=>q _ _ H C R (Tx.refl H) Wd h⟩
def yu {es:List WW}{ws:List WE}(he:Jc X e we)(hr:iU X es ws):iU X (e::es) (we::ws):=by
 obtain⟨t,p,s⟩:=he;obtain⟨ts,ps,ss⟩:=hr;refine⟨t::ts,.cons p ps,λout F H C σ τ Q Q' χ R S h q=>?_⟩;refine s F H C σ τ _ _ χ R S h λx u H1 C1 R1 t1 rx h1=>?_;obtain⟨z,rfl,hz,h1⟩:=h1
 cases Ju rx
 exact⟨z,FV,hz,ss (out++z) F H1 C1 σ τ _ _ χ R1 (S.tx t1) h1 (QE.at q t1)⟩
def vV {v1 v2:WW}{Yp:List WW}{ws:List WE}(h:iU X (v1::v2::Yp) ws):Jc X (.JoinedStr (v1::v2::Yp) pos) (eJ ws Str.empty):=by
 obtain⟨ts,ps,ss⟩:=h;exact⟨_,yZ ps,ss _⟩
def fA (k v:WE):WE:=λτ C Q χ=>∀p,C p=none->k τ (up C p (.dic [])) (λx C1=>v τ C1 (λy C2=>∃kk,kT x=some kk/\C2 p=some (.dic [])/\Q (.ref p) (up C2 p (.dic [(kk,y)]))) χ) χ
end
end WL
namespace L2
open PySem PySem.Spec PyProof.Rows
section
variable {X:Cx}
end
end L2
namespace WL
open PySem PySem.Spec PyProof.Rows L2
section
variable {X:Cx}
end
end WL
namespace L2
open PySem PySem.Spec PyProof.Rows
open AutoSeq1 (wpAny_loadPart')
section
variable {prog:WO}{w:WN}{A:WM}{E:WQ->WR->Prop}{s:WR}
end
section
variable {X:Cx}{elts:List WW}{ek:Nat}{epos:Pos}
end
end L2
namespace WL
open PySem PySem.Spec PyProof.Rows L2
def dR (z:Nat)(xs:List T):List T:=xs.zipIdx.map λc=>T.tup [.int ((c.2+z:Nat):Int),c.1]
section
variable {X:Cx}{a:WW}{wA:WA}{p pos kp kc:Pos}{j:Nat}
end
section
variable {X:Cx}
end
end WL
namespace L2
open PySem PySem.Spec PyProof.Rows
section
variable {X:Cx}{WZ:List (WP×Obj)}{σ:St}{H:Hp}{s:WR}{a b:WP}{kvs more:List (Z2×V)}{A:WM}{E:WQ->WR->Prop}
def vQ {Q:WQ->WR->Prop}(I:Zl X WZ σ H s)(e:H a=some (.dK kvs))(e2:H b=some (.dK more))(hab:a≠b)(hsz:kvs.length+more.length<=sizeLine)(h:∀s',Zl X WZ σ (Yo H a (.dK (Q7 kvs more))) s'->Q .none s'):
  wpAny (model X.prog X.w) A (call (.builtin "dict.update") [.ref a,.ref b]) Q E s:=by
 obtain⟨z,hd,vs,rel,dd⟩:=yt I.hok e;obtain⟨z2,hd2,vs2,rel2,dd2⟩:=yt I.hok e2;refine call_meetsIn PySem.F.slot_dict_update dd.typeIs PySem.F.entry_dict_update (PySem.F.args_dict_update_2 _ _) (meets_dict_update (Yw X.prog X.w) a b hab hd2) ⟨vs,vs2,dd,dd2,by rw[<-rel.length,<-rel2.length];exact hsz,λh' dd' _ hs=>h _ ?_⟩;have he:∃q,h'.get? a=some q:=let ⟨q,_,_,hq,_⟩:=dd';⟨q,hq⟩
 exact Mv (t':=s.toks) I (by rw[e];exact True.intro) hs he (Ko (XN (Qv more kvs) hsz) hd (KV.merge rel2 rel) dd')
end
section
variable {X:Cx}{o e:WW}{apos cpos:Pos}{td ty:TE}
def mR (td ty:TE):TE:=λσ H Q=>td σ H λx H1=>∃a,x=.ref a/\iZ H1 a/\ty σ H1 λy H2=>∃b kvs more,y=.ref b/\a≠b/\H2 a=some (.dK kvs)/\H2 b=some (.dK more)/\kvs.length+more.length<=sizeLine/\Q .non (Yo H2 a (.dK (Q7 kvs more)))
def tV (ho:PE X o td)(he:PE X e ty)(m:M1 X o "update" apos e cpos):PE X (.Call (.Attribute o "update" apos) [e] [] cpos) (mR td ty):=by
 intro WZ s σ H Q I h;refine wpAny_Call_method m.base m.few m.line PySem.F.plainAttrs_dict PySem.F.slot_dict_update PySem.F.type_dict_update (Ja (ho WZ s σ H _ I h) λu s1 ⟨x,H1,I1,rx,a,ex,d,q1⟩=>?_);subst ex;obtain rfl:u=Value.ref a:=rx;obtain⟨t1,t2,_⟩:=vg I1 d;refine⟨t1,t2,?_⟩;rw[m.trees];refine DN FV (DU (BV (Ja (he WZ s1 σ H1 _ I1 q1) λiv s2 ⟨y,H2,I2,ry,b,kvs,more,ey,hab,ea,eb,hz,q2⟩=>CV ?_)));subst ey;obtain rfl:iv=Value.ref b:=ry;exact vQ I2 ea eb hab hz λs3 I3=>⟨.non,_,I3,FV,q2⟩
end
end L2
namespace WL
open PySem PySem.Spec PyProof.Rows L2
def Ro (kvs more:List (Z2×T)):List (Z2×T):=more.foldl (λacc kv=>Jz acc kv.1 kv.2) kvs
def PR.merge {K:WY}{H:Hp}:∀{ms:List (Z2×V)} {mw:List (Z2×T)} {ks:List (Z2×V)} {kw:List (Z2×T)},PR K H ms mw->PR K H ks kw->PR K H (Q7 ks ms) (Ro kw mw):=by
 intro ms mw ks kw r
 induction r generalizing ks kw with
 | nil=>intro q;exact q
 | @cons p q ps qs h t ih=>
  intro r0;have e:PR K H (X7 ks p.1 p.2) (Jz kw q.1 q.2):=by rw[<-h.1];exact PR.put r0 h.2
  exact ih e
abbrev cw:=Sw->Hw->(List (Z2×T)->Hw->Prop)->WX->Prop
section
variable {X:Cx}{pos apos cpos:Pos}{k v o e:WW}{ks:List (Option WW)}{vs:List WW}{wk wv wo we:WE}{w:cw}
def kN (o e:WE):WE:=λτ C Q χ=>o τ C (λx C1=>(∃a kvs,x=.ref a/\C1 a=some (.dic kvs))/\e τ C1 (λy C2=>∃a b kvs more,x=.ref a/\y=.ref b/\a≠b/\C2 a=some (.dic kvs)/\C2 b=some (.dic more)/\kvs.length+more.length<=sizeLine/\Q .non (up C2 a (.dic (Ro kvs more)))) χ) χ
def nz (ho:Jc X o wo)(he:Jc X e we)(m:M1 X o "update" apos e cpos):Jc X (.Call (.Attribute o "update" apos) [e] [] cpos) (kN wo we):=by
 obtain⟨ta,p1,s1⟩:=ho;obtain⟨tb,p2,s2⟩:=he;refine⟨_,tV p1 p2 m,λF H C σ τ Q Q' χ R S h q=>?_⟩;refine s1 F H C σ τ _ _ χ R S h λx v H1 C1 R1 t1 rx h1=>?_;obtain⟨⟨l,kvs0,rfl,hC0⟩,h1⟩:=h1
 cases Zu rx
 obtain⟨ks0,hH0,_⟩:=R1.dic hC0;refine⟨l,FV,.inl ⟨ks0,.inl hH0⟩,?_⟩;refine s2 F H1 C1 σ τ _ _ χ R1 (S.tx t1) h1 λy u H2 C2 R2 t2 ry h2=>?_;obtain⟨a,b,kvs,more,e1,rfl,hab,hCa,hCb,hz,h3⟩:=h2
 cases e1
 cases Zu ry
 obtain⟨ka,hHa,pa⟩:=R2.dic hCa;obtain⟨kb,hHb,pb⟩:=R2.dic hCb;obtain⟨R3,t3⟩:=R2.putD hCa (PR.merge pb pa);exact⟨b,ka,kb,FV,hab,hHa,hHb,by rw[pa.length,pb.length];exact hz,q _ _ _ _ R3 ((t1.trans t2).trans t3) T3 h3⟩
end
end WL
namespace L2
open PySem PySem.Spec PyProof.Rows
section
variable {X:Cx}
end
end L2
namespace WL
open PySem PySem.Spec PyProof.Rows L2
section
variable {X:Cx}
end
section
variable {P:WO}{w:WN}{K:WY}{mg:Str->Option WQ}{base h:WU}{x q cn:Str}{st:WV}{ps:List Str}{pr:List Df}{n i j ar:Nat}{sp:Sp}{Cl:WP}
def Fg (K:WY)(x:Str)(st:WV):Prop:=∃f fd,W.nsIn K mainGlobals x=some (some (.ref f))/\Gd K x x st f fd
def Fh (K:WY)(Cl:WP)(x q:Str)(st:WV):Prop:=∃f fd,jK K Cl x f/\Gd K x q st f fd
def Ld (K:WY)(mg:Str->Option WQ)(x:Str)(st:WV)(ps:List Str):Prop:=∃f fd,Gd K x x st f fd/\J6 K fd ps []/\mg x=some (.ref f)
def Lm (K:WY)(Cl:WP)(x q:Str)(st:WV)(ps:List Str):Prop:=∃f fd,jK K Cl x f/\Gd K x q st f fd/\J6 K fd ps []
def Bq (x q:Str)(st:WV)(ps:List Str):Prop:=∀(kV doc pm:WQ) (an:Option WP) (cdv ct:WQ) (us:List WQ),us.length=ps.length->bindArgs (W.fnOf x q (Se st) (Jh st) (Zg st) .none kV doc pm an cdv ct) ⟨us,[]⟩=pure (ps.zip us)
def Jp (X:K.In h)(G:h.Ns mainGlobals mg)(l:Fg K x st)(hb:Bq x x st ps):Ld K mg x st ps:=by
 obtain⟨f,fd,a,F⟩:=l;exact⟨f,fd,F,F.binds hb,FP X G a⟩
def xa (L:Ld K mg x st ps):Ca P w K mg base 0 x ps (spW K pr 0 i):=by
 obtain⟨f,fd,F,B,M⟩:=L;exact rg F B M
def Mq (L:Ld K mg x st ps)(G:∀{f fd},Gd K x x st f fd->X8 P w K mg base CX0 n f fd ps sp):Ca P w K mg base n x ps sp:=by
 obtain⟨f,fd,F,B,M⟩:=L;exact rh F B M (G F)
def Lv (l:Fh K Cl x q st)(hb:Bq x q st ps):Lm K Cl x q st ps:=by
 obtain⟨f,fd,a,F⟩:=l;exact⟨f,fd,a,F,F.binds hb⟩
def cP {X:Cx}{e:WW}{wA:WA}{k:Nat}{Q:Calls}(hP:J8 pr k=Q)(h:Jc X e (X5 (J8 pr k) i wA)):Jc X e (X5 Q i wA):=hP▸h
end
end WL
namespace L2
open PySem PySem.Spec PyProof.Rows
def qD:typeLookup (.type "zip") "__len__"=pure none:=by rw[typeLookup_type];rw[builtinLookup_eq_fast];kernel_rfl
def uM:typeLookup (.type "zip") "__length_hint__"=pure none:=by rw[typeLookup_type];rw[builtinLookup_eq_fast];kernel_rfl
abbrev zH (h:WU)(S:WP)(acc:Array WQ):Prop:=∃c,h.get? S=some {cls:=.type "list",data:=.seq acc c}
section
variable {prog:WO}{w:WN}{A:WM}{E:WQ->WR->Prop}{s:WR}{z TI TO i1 i2 l1 l2:WP}{xs ys:Array WQ}
def vm {Q:Bool->WR->Prop}(hT:s.TypeIs (.ref z) "zip")(h:Q true s):wpAny (model prog w) A (Builtin.List.listLengthHint (.ref z)) Q E s:=by
 unfold Builtin.List.listLengthHint;refine XA (wpAny_specialOf hT qD ?_);show wpAny _ A (specialOf (Value.ref z) (Str.ofString "__length_hint__")>>=_) _ _ _;refine XA (wpAny_specialOf hT uM ?_);exact XB h
def Pu {S:WP}{acc:Array WQ}{f:Array WQ->Array WQ}{Q:Unit->WR->Prop}(hS:zH s.heap S acc)(h1:acc.size<=sizeLine)(h2:(f acc).size<=sizeLine+1)
  (h:∀h',zH h' S (f acc)->Heap.SameBut S s.heap h'->Q () {s with heap:=h'}):wpAny (model prog w) A (updateSeq S f) Q E s:=by
 obtain⟨c,hS⟩:=hS;refine wpAny_updateSeq hS FV (h _ ⟨_,DQ (Obj.mapSeq f) hS FV⟩ ⟨Heap.size_update ..,λb hb=>DL _ _ (Ne.symm hb)⟩) h1 h2
abbrev Bt (h:WU)(as:List WP)(ps:List (WQ×WQ)):Prop:=Paired (λa p=>IsPair h a p.1 p.2) as ps
def Bt.at {h h':WU}{as:List WP}{ps:List (WQ×WQ)}(p:Bt h as ps):(∀a∈as,∀o,h.get? a=some o->h'.get? a=some o)->Bt h' as ps:=by
 induction p with
 | nil=>exact λ_=>.nil
 | cons r t ih=>exact λk=>.cons (k _ (BC ..) _ r) (ih λa ha=>k a (XV _ ha))
def Bt.app {h:WU}{as:List WP}{ps:List (WQ×WQ)}{a:WP}{x y:WQ}(p:Bt h as ps)(q:IsPair h a x y):Bt h (as++[a]) (ps++[(x,y)]):=by
 induction p with
 | nil=>exact .cons q .nil
 | cons r t ih=>exact .cons r ih
def Bt.mem {h:WU}{as:List WP}{ps:List (WQ×WQ)}(p:Bt h as ps){a:WP}(q:a∈as):∃o,h.get? a=some o:=by
 induction p with
 | nil=>cases q
 | cons r t ih=>
  rcases BD.mp q with rfl | q
  ·exact⟨_,r⟩
  ·exact ih q
def ZS.alive {i:Nat}{h:WU}(st:ZS z TI TO i1 i2 l1 l2 xs ys i h):∀b∈[z,TO,i1,i2],∃o,h.get? b=some o:=by
 obtain⟨a,b,⟨u,v,c⟩,⟨⟨o1,d,_⟩,_⟩,⟨⟨o2,e,_⟩,_⟩⟩:=st;intro x hx;simp only[ZM,ZN,or_false] at hx
 rcases hx with rfl | rfl | rfl | rfl
 ·rcases a with a | ⟨T,b,a,_⟩
  ·exact⟨_,a⟩
  ·exact⟨_,a⟩
 ·exact⟨_,c⟩
 ·exact⟨_,d⟩
 ·exact⟨_,e⟩
def su {S:WP}(hh:A.handled=none)(Z:jG z TI TO i1 i2 [i1,l1] [i2,l2])(h1:l1≠i1)(h2:l2≠i2)(hn:xs.size=ys.size)(hS:S∉[z,TI,TO,i1,i2,l1,l2])(hsz:xs.size<=1000)
  {R:Result->WR->Prop} (h₀:WU) (hlt:∀b o,h₀.get? b=some o->b≠S/\b∉[z,TO,i1,i2])
  (hR:∀h' tk as,(∀b o,h₀.get? b=some o->h'.get? b=some o)->zH h' S (as.map Value.ref).toArray->Bt h' as (xs.toList.zip ys.toList)->as.Nodup->(∀a∈as,h₀.objs.size<=a/\a≠S)->R (.ok (.ret .none)) {s with heap:=h',toks:=tk}):
  ∀(m i:Nat) (h:WU) (tk:Nat) (as:List WP),xs.size-i=m->i<=xs.size->ZS z TI TO i1 i2 l1 l2 xs ys i h->(∀b o,h₀.get? b=some o->h.get? b=some o)->h₀.objs.size<=h.objs.size->zH h S (as.map Value.ref).toArray->as.length=i->Bt h as ((xs.toList.zip ys.toList).take i)->as.Nodup->
   (∀a∈as,h₀.objs.size<=a/\a≠S/\a∉[z,TO,i1,i2])->
   codeAny (model prog w) A (.builtin "list.extend.loop" ⟨[.ref S,.ref z,.none],[]⟩) R {s with heap:=h,toks:=tk}:=by
 intro m;have hSw:S∉[z,TO,i1,i2]:=λhm=>hS (by simp only[ZM,ZN,or_false] at hm |-;rcases hm with h | h | h | h<;>simp[h])
 induction m with
 | zero=>
  intro i h tk as hm hi st keep hz ls hl pr nd ha;have ei:i=xs.size:=by omega
  subst ei;refine codeAny_builtin PySem.F.entry_extend_loop ?_;show wpAny _ _ (pyNext (.ref z)>>=_) _ _ _;refine XA (xg (A:=A.under _) hh Z h1 st λh' tk' kp=>?_);refine XB ?_;obtain⟨c,ls⟩:=ls;refine hR h' tk' as (λb o q=>kp b o (hlt b o q).2 (keep b o q)) ⟨c,kp _ _ hSw ls⟩ ?_ nd λa q=>⟨(ha a q).1,(ha a q).2.1⟩;have e:(xs.toList.zip ys.toList).take xs.size=xs.toList.zip ys.toList:=List.take_of_length_le (by rw[List.length_zip];simp;omega);rw[e] at pr;exact Bt.at pr λa q o z=>kp a o (ha a q).2.2 z
 | succ m ih=>
  intro i h tk as hm hi st keep hz ls hl pr nd ha;refine codeAny_builtin PySem.F.entry_extend_loop ?_;show wpAny _ _ (pyNext (.ref z)>>=_) _ _ _;refine XA (zK (A:=A.under _) hh Z h1 h2 hn (by omega) st λT x y h' tk' hx hy hT hp st' kp=>?_);obtain⟨c,ls⟩:=ls;have lt:∀{b o},h.get? b=some o->b≠T:=λe=>XH (XG (XD e) hT);have hTS:T≠S:=(lt ls).symm;show wpAny _ _ (updateSeq S (λa=>a.push (.ref T))>>=_) _ _ _;have hsz2:(as.map Value.ref).toArray.size<=1000:=by simp[hl];omega
  have sl:(1000:Nat)<=sizeLine:=by decide
  refine XA (Pu ⟨c,kp _ _ hSw ls⟩ (XN hsz2 sl) (by rw[Array.size_push];exact Nat.succ_le_succ (XN hsz2 sl)) λh3 ls3 sb=>?_);refine XB ⟨plainId_quiet DZ _,?_⟩;have nS:∀b∈[z,TI,TO,i1,i2,l1,l2],b≠S:=λb hb e=>hS (e▸hb);have alive:∀b,(∃o,h'.get? b=some o)->∃o,h3.get? b=some o:=λb ⟨o,q⟩=>by
   by_cases e:b=S
   ·subst e;obtain⟨c3,q3⟩:=ls3;exact⟨_,q3⟩
   ·exact⟨o,sb.extBut _ _ e q⟩
  have aT:∀a∈as,a≠T:=λa q e=>by
   subst e;obtain⟨o,hp'⟩:=Bt.mem pr q;exact lt hp' FV
  refine ih (i+1) h3 _ (as++[T]) (by omega) (by omega) (st'.frame (λb hb o q=>sb.extBut _ _ (nS b hb) q) alive) (λb o q=>sb.extBut _ _ (hlt b o q).1 (kp b o (hlt b o q).2 (keep b o q))) ?_ ?_ ?_ ?_ ?_ ?_
  ·rw[sb.1];exact CK (ED (XN hz hT) (XD hp))
  ·rw[XL];simpa using ls3
  ·simp[hl]
  ·have hx':xs.toList[i]?=some x:=by simpa using hx
   have hy':ys.toList[i]?=some y:=by simpa using hy
   have e:(xs.toList.zip ys.toList).take (i+1)=(xs.toList.zip ys.toList).take i++[(x,y)]:=by
    rw[YD,show(xs.toList.zip ys.toList)[i]?=some (x,y) from BN.mpr ⟨hx',hy'⟩];rfl
   rw[e];refine Bt.app (Bt.at pr λa q o z=>sb.extBut _ _ (ha a q).2.1 (kp a o (ha a q).2.2 z)) (sb.extBut _ _ hTS hp)
  ·exact EM.mpr ⟨nd,BP.mpr ⟨DT,CA⟩,λa q b r=>by rw[XQ.mp r];exact aT a q⟩
  ·intro a q
   rcases XS.mp q with q | q
   ·exact ha a q
   ·rw[XQ.mp q];refine⟨XN hz hT,hTS,λhb=>?_⟩;obtain⟨o,ho⟩:=st.alive _ hb;exact lt ho FV
def vh {R:Result->WR->Prop}{S:WP}(hh:A.handled=none)(Z:jG z TI TO i1 i2 [i1,l1] [i2,l2])(h1:l1≠i1)(h2:l2≠i2)(hn:xs.size=ys.size)(hsz:xs.size<=1000)(hSn:S∉[z,TI,TO,i1,i2,l1,l2])
  (h₀:WU) (hlt:∀b o,h₀.get? b=some o->b≠S/\b∉[z,TO,i1,i2]) (keep:∀b o,h₀.get? b=some o->s.heap.get? b=some o) (hz:h₀.objs.size<=s.heap.objs.size) (hz0:IsZip s.heap z TI TO .none) (st:ZS z TI TO i1 i2 l1 l2 xs ys 0 s.heap) (hS:s.heap.get? S=some {cls:=.type "list",data:=.seq #[]})
  (hR:∀h' tk as,(∀b o,h₀.get? b=some o->h'.get? b=some o)->zH h' S (as.map Value.ref).toArray->Bt h' as (xs.toList.zip ys.toList)->as.Nodup->(∀a∈as,h₀.objs.size<=a/\a≠S)->R (.ok (.ret .none)) {s with heap:=h',toks:=tk}):
  wpAny (model prog w) A.in1 (Builtin.«list.__init__» ⟨[.ref S,.ref z],[]⟩)
   (λfin s2=>match fin with | .done f=>R (.ok f) s2 | .again c2=>c2.quiet=true/\codeAny (model prog w) A c2 R s2) (λe s2=>R (.error e) s2) s:=by
 have hSz:S≠z:=λe=>hSn (e▸by simp);have nS:∀b∈[z,TI,TO,i1,i2,l1,l2],b≠S:=λb hb e=>hSn (e▸hb);show wpAny _ A.in1 (Builtin.List.listItems (.ref S)>>=λold=>Builtin.List.listUpdate (.ref S) (λ_=>#[])>>=λ_=>letGo old.toList.reverse>>=λ_=>Builtin.List.listExtendWith (.ref S) (.ref z) .none) _ _ s;unfold Builtin.List.listItems;refine XA ?_;refine XA (wpAny_seqItems hS FV (XB ?_));show wpAny _ A.in1 (updateSeq S (λ_=>#[])>>=λ_=>letGo (#[]:Array WQ).toList.reverse>>=λ_=>Builtin.List.listExtendWith (.ref S) (.ref z) .none) _ _ s;have zl:(0:Nat)<=sizeLine:=XO _;refine XA (Pu (f:=λ_=>#[]) ⟨_,hS⟩ zl (XO _) λha la sa=>?_);have alive:∀{h h':WU} {acc:Array WQ},Heap.SameBut S h h'->zH h' S acc->∀b,(∃o,h.get? b=some o)->∃o,h'.get? b=some o:=λsb ls b ⟨o,q⟩=>by
  by_cases e:b=S
  ·subst e;obtain⟨c3,q3⟩:=ls;exact⟨_,q3⟩
  ·exact⟨o,sb.extBut _ _ e q⟩
 have sta:ZS z TI TO i1 i2 l1 l2 xs ys 0 ha:=st.frame (λb hb o q=>sa.extBut _ _ (nS b hb) q) (alive sa la);have hza:IsZip ha z TI TO .none:=sa.extBut _ _ hSz.symm hz0;refine XA (wpAny_letGo ?_);unfold Builtin.List.listExtendWith;have hTy:({s with heap:=ha}:WR).TypeIs (.ref z) "zip":=⟨_,hza,FV⟩;refine XA (wpAny_typeOf (T:="zip") hTy ?_);have h1':Builtin.List.listSameRef (.ref S) (.ref z)=false:=by simp[Builtin.List.listSameRef,hSz]
 have h2':(Value.type "zip"==Value.type "list")=false:=by decide
 have h3':(Value.type "zip"==Value.type "tuple")=false:=by decide
 simp only[h1',h2',h3',Bool.or_false,Bool.false_eq_true,if_false];refine XA (wpAny_pyIter_zip (s:={s with heap:=ha}) hza ?_);refine XA (wpAny_holding (vm hTy ?_));refine wpAny_ite_split (λ_=>?_) (λz=>absurd (by rfl) z);refine XA (wpAny_rule ?_);show wpAny _ _ ((updateSeq S (λx=>x.push .none)>>=λ_=>updateSeq S (λx=>x.pop))>>=_) _ _ _;refine wpAny_bind (wpAny_bind (Pu (f:=λx=>x.push .none) la zl (by simp) λhb lb sb=>?_));refine Pu (f:=λx=>x.pop) lb (by simp;decide) (by simp) λhc lc sc=>?_;have stc:ZS z TI TO i1 i2 l1 l2 xs ys 0 hc:=(sta.frame (λb hb' o q=>sb.extBut _ _ (nS b hb') q) (alive sb lb)).frame (λb hb' o q=>sc.extBut _ _ (nS b hb') q) (alive sc lc);refine XB ⟨plainId_quiet DZ _,?_⟩;refine su (s:=s) hh Z h1 h2 hn hSn hsz h₀ hlt hR xs.size 0 hc s.toks [] FV (XO _) stc (λb o q=>?_) ?_ ?_ FV .nil CA (λa q=>nomatch q)
 ·have e:=(hlt b o q).1;exact sc.extBut _ _ e (sb.extBut _ _ e (sa.extBut _ _ e (keep b o q)))
 ·rw[sc.1,sb.1,sa.1];exact hz
 ·simpa using lc
def El {Q:WQ->WR->Prop}(hh:A.handled=none)(Z:jG z TI TO i1 i2 [i1,l1] [i2,l2])(h1:l1≠i1)(h2:l2≠i2)(hn:xs.size=ys.size)(hsz:xs.size<=1000)
  (h₀:WU) (hlt:∀b o,h₀.get? b=some o->b∉[z,TO,i1,i2]) (keep:∀b o,h₀.get? b=some o->s.heap.get? b=some o) (hz:h₀.objs.size<=s.heap.objs.size) (hz0:IsZip s.heap z TI TO .none) (st:ZS z TI TO i1 i2 l1 l2 xs ys 0 s.heap)
  (hQ:∀h' tk as,(∀b o,h₀.get? b=some o->h'.get? b=some o)->zH h' s.heap.objs.size (as.map Value.ref).toArray->Bt h' as (xs.toList.zip ys.toList)->as.Nodup->(∀a∈as,h₀.objs.size<=a/\a≠s.heap.objs.size)->Q (.ref s.heap.objs.size) {s with heap:=h',toks:=tk}):
  wpAny (model prog w) A (call (.type "list") [.ref z]) Q E s:=by
 refine callType_codes (Q₁:=λob s1=>ob=.ref s.heap.objs.size/\s1={s with heap:=s.heap.push {cls:=.type "list",data:=.seq #[]}}) PySem.F.called_list (PySem.F.typeCall_list_1 _) PySem.F.entry_list_init (code_list_new _ ⟨FV,FV⟩) λob s1 h1=>?_;obtain⟨rfl,rfl⟩:=h1;have hS:(s.heap.push {cls:=.type "list",data:=.seq #[]}).get? s.heap.objs.size=some {cls:=.type "list",data:=.seq #[]}:=XF _ FV;have hps:∀b o,s.heap.get? b=some o->(s.heap.push {cls:=.type "list",data:=.seq #[]}).get? b=some o:=λb o q=>XC _ q;have ne:∀{b o},s.heap.get? b=some o->b≠s.heap.objs.size:=λq=>XH (XD q);have hSn:s.heap.objs.size∉[z,TI,TO,i1,i2,l1,l2]:=λhm=>by
  simp only[ZM,ZN,or_false] at hm;obtain⟨o1,e1⟩:=st.alive z (by simp);obtain⟨o3,e3⟩:=st.alive TO (by simp);obtain⟨o4,e4⟩:=st.alive i1 (by simp);obtain⟨o5,e5⟩:=st.alive i2 (by simp);obtain⟨o6,e6,_⟩:=st.s1.2;obtain⟨o7,e7,_⟩:=st.s2.2
  rcases hm with e | e | e | e | e | e | e
  ·exact ne e1 e.symm
  ·exact ne st.its e.symm
  ·exact ne e3 e.symm
  ·exact ne e4 e.symm
  ·exact ne e5 e.symm
  ·exact ne e6 e.symm
  ·exact ne e7 e.symm
 refine⟨⟨_,hS,FV⟩,PySem.F.args_list_init_2 _ _,vh (A:=A.in1) hh Z h1 h2 hn hsz hSn h₀ (λb o q=>⟨ne (keep b o q),hlt b o q⟩) (λb o q=>hps b o (keep b o q)) (by rw[CD];omega) (hps _ _ hz0) (st.frame (λb _ o q=>hps b o q) λb ⟨o,q⟩=>⟨o,hps b o q⟩) hS λh' tk as k ls pr nd ha=>⟨FV,?_⟩⟩;exact hQ h' tk as k ls pr nd ha
end
section
variable {X:Cx}{WZ:List (WP×Obj)}{σ:St}{H:Hp}{s:WR}
def Zl.laids {H':Hp}{h':WU}{t':Nat}(I:Zl X WZ σ H s)(k:∀b u,s.heap.get? b=some u->h'.get? b=some u)(old:∀a o,H a=some o->H' a=some o)(low:∀a,a<s.heap.objs.size->H' a=H a)
  (new:∀a o,s.heap.objs.size<=a->H' a=some o->Y2 X.prog X.w H' h' a o):Zl X WZ σ H' {s with heap:=h',toks:=t'}:=by
 refine I.un ⟨λb o q _ _ _=>k b o q,λb o q _ _ _=>⟨o.slots,k b o q⟩,λb o q n _=>(low b (Heap.lt_size q)).trans n,λb o q _=>⟨o,k b o q⟩,λb xs q=>old b _ q,λb o u q=>old b _ q,λb ps q=>⟨#[],by rw[old b _ q];simp⟩⟩ λa o e=>?_;by_cases c:s.heap.objs.size<=a
 ·exact new a o c e
 ·rw[low a (by omega)] at e;exact(I.hok a o e).stay (λb u _ q=>k b u q) (λb q=>old b _ q) λb xs q=>old b _ q
def Tw (H:Hp):List WP->List (V×V)->Hp
 | a::as,p::ps=>Tw (Yo H a (.tup [p.1,p.2])) as ps
 | _,_=>H
def d7 (K:WY)(t:TA):TE:=λσ H Q=>t σ H λvs H1=>∃l1 l2 xs ys,vs=[.ref l1,.ref l2]/\Vx K H1 l1 xs/\Vx K H1 l2 ys/\xs.length=ys.length/\xs.length<=1000/\
 ∀(as:List WP) (p:WP),as.length=xs.length->as.Nodup->p∉as->H1 p=none->(∀a∈as,H1 a=none)->Q (.ref p) (Yo (Tw H1 as (xs.zip ys)) p (.lst (as.map V.ref)))
def Qd {a:WP}:∀{as:List WP} {ps:List (V×V)} {H:Hp},a∉as->Tw H as ps a=H a
 | [],_,_,_=>by unfold Tw;rfl
 | _::_,[],_,_=>by unfold Tw;rfl
 | b::as,p::ps,H,h=>by
  unfold Tw;rw[Qd λz=>h (XV _ z)];exact Z1 λz=>h (by rw[z];exact BC ..)
def zO {a:WP}{o:HO}:∀{as:List WP} {ps:List (V×V)} {H:Hp},as.Nodup->a∈as->as.length=ps.length->Tw H as ps a=some o->∃(i:Nat) (p:V×V),as[i]?=some a/\ps[i]?=some p/\o=.tup [p.1,p.2]
 | [],_,_,_,h,_,_=>by cases h
 | _::_,[],_,_,_,h,_=>by cases h
 | b::as,p::ps,H,nd,h,hl,e=>by
  unfold Tw at e;obtain⟨n1,n2⟩:=BP.mp nd;by_cases c:a∈as
  ·obtain⟨i,p',h1,h2,h3⟩:=zO n2 c (by simpa using hl) e;exact⟨i+1,p',by simpa using h1,by simpa using h2,h3⟩
  ·obtain rfl:a=b:=(BD.mp h).resolve_right c;rw[Qd c,Z7] at e;exact⟨0,p,FV,FV,(YH e).symm⟩
def tQ {h:WU}{as:List WP}{ps:List (WQ×WQ)}(q:Bt h as ps):∀{i:Nat} {a:WP},as[i]?=some a->∃p,ps[i]?=some p/\IsPair h a p.1 p.2:=by
 induction q with
 | nil=>intro i a e;simp at e
 | cons r t ih=>
  intro i a e
  cases i with
  | zero=>simp at e;subst e;exact⟨_,FV,r⟩
  | succ i=>exact ih (by simpa using e)
def Am {a c:WW}{ta:TA}{p pos p2 pos2:Pos}(hc:X.calm=true)(hg:Gl X "list")(hm:X.mg "list"=none)(hg2:Gl X "zip")(hm2:X.mg "zip"=none)(ha:PA X [a,c] ta)(hs:starEach [a,c] X.env=(false,eval a X.env)::starEach [c] X.env:=by rfl)(hp:(backTo pos2 (starEach [c] X.env)).any (·.1)=false:=by rfl)
  (hs2:starEach [.Call (.Name "zip" p2) [a,c] [] pos2] X.env=[(false,eval (.Call (.Name "zip" p2) [a,c] [] pos2) X.env)]:=by rfl) (hb:bootBuiltins "zip"=some (.type "zip"):=by decide+kernel) (hb2:bootBuiltins "list"=some (.type "list"):=by decide+kernel):
  PE X (.Call (.Name "list" p) [.Call (.Name "zip" p2) [a,c] [] pos2] [] pos) (d7 X.K ta):=by
 intro WZ s σ H Q I h;refine Call_ (Vi I hg hm hb2 (BI ?_ hs2 FV));rw[hs2];show wpAny _ _ (spliced ((false,eval (.Call (.Name "zip" p2) [a,c] [] pos2) X.env)::backTo pos [])) _ _ s;refine BV (Call_ (Vi I hg2 hm2 hb (BI (Ja (ha pos2 WZ s σ H _ I h) λus s1 z=>?_) hs hp)));obtain⟨vs,H1,I1,r1,q1⟩:=z;obtain⟨l1,l2,xs,ys,rfl,hq1,hq2,hlen,hsz,q⟩:=q1;obtain⟨u,v,rfl,ru,rv⟩:=r1.two
 cases ru
 cases rv
 obtain⟨its1,rv1,p1,_⟩:=I1.tuple hq1;obtain⟨its2,rv2,p2',_⟩:=I1.tuple hq2;have lt1:l1<s1.heap.objs.size:=by obtain⟨_,e,_⟩:=p1;exact XD e
 have lt2:l2<s1.heap.objs.size:=by obtain⟨_,e,_⟩:=p2';exact XD e
 have n1:its1.toArray.size=xs.length:=by rw[XJ,<-rv1.length]
 have n2:its2.toArray.size=ys.length:=by rw[XJ,<-rv2.length]
 refine Pf false false p1 p2' λh2 N=>?_;refine CV ?_;generalize hk:s1.heap.objs.size=k at N lt1 lt2;have Z:=Mh lt1 lt2;have st:ZS (k+4) (k+2) (k+3) k (k+1) l1 l2 its1.toArray its2.toArray 0 h2:=by
  refine⟨.inl (hk▸N.zip),hk▸N.its,⟨_,_,hk▸N.own⟩,⟨⟨_,hk▸N.i1,FV,FV⟩,Heap.IsTuple.at (show s1.heap.IsTuple l1 its1.toArray from p1) λo q=>N.keep _ o q⟩,⟨⟨_,hk▸N.i2,FV,FV⟩,Heap.IsTuple.at (show s1.heap.IsTuple l2 its2.toArray from p2') λo q=>N.keep _ o q⟩⟩
 have old:∀b o,s1.heap.get? b=some o->b∉[k+4,k+3,k,k+1]:=λb o q hb=>by
  have:b<k:=hk▸XD q;simp only[ZM,ZN,or_false] at hb
  rcases hb with e | e | e | e
  ·rw[e] at this;exact DF (BL k 4) this
  ·rw[e] at this;exact DF (BL k 3) this
  ·rw[e] at this;exact BJ k this
  ·rw[e] at this;exact DF (BL k 1) this
 have hp3:s1.heap.objs.size<=h2.objs.size:=by
  have:=XD (hk▸N.zip:IsZip h2 (k+4) (k+2) (k+3) .none);rw[hk];exact XN (BL _ _) (CK this)
 refine El (s:={s1 with heap:=h2}) (I.ok.hd hc) Z (XH lt1) (XH (CF lt2)) (by omega) (by omega) s1.heap old N.keep hp3 (hk▸N.zip) st λh3 tk3 as keep ls pr nd hn=>?_;obtain⟨c3,ls⟩:=ls;have la:as.length=xs.length:=by
  have e:=pr.length;rw[CT] at e;simp at e n1 n2;omega
 have pa:h2.objs.size∉as:=λz=>(hn _ z).2 FV;have fr:∀a,s1.heap.objs.size<=a->H1 a=none:=λa e=>I1.hok.fresh e;have lz:as.length=(xs.zip ys).length:=by rw[CT];omega
 have sl:(1000:Nat)<=sizeLine:=by decide
 refine⟨.ref _,_,I1.laids (H':=Yo (Tw H1 as (xs.zip ys)) h2.objs.size (.lst (as.map V.ref))) (h':=h3) (t':=tk3) keep (λa o e=>?_) (λa e=>?_) (λa o e q2=>?_),FV,q as _ la nd pa (fr _ hp3) λa e=>fr a (hn a e).1⟩
 ·have e1:a≠h2.objs.size:=Y4 e (fr _ hp3);rw[Z1 e1,Qd λz=>?_]
  ·exact e
  ·rw[fr a (hn a z).1] at e;cases e
 ·have e1:a≠h2.objs.size:=λz=>BJ _ (XG (z▸e) hp3);rw[Z1 e1,Qd λz=>BJ _ (XG e (hn a z).1)]
 ·by_cases c:a=h2.objs.size
  ·subst c;rw[Z7] at q2
   cases q2
   refine⟨by rw[XI,la];omega,as.map Value.ref,c3,?_,ls⟩;clear q h pr nd hn la lz pa ls
   induction as with
   | nil=>exact .nil
   | cons b as ih=>exact .cons FV (ih)
  ·rw[Z1 c] at q2;by_cases m:a∈as
   ·obtain⟨i,pp,g1,g2,rfl⟩:=zO nd m lz q2;obtain⟨pv,g3,g4⟩:=tQ pr g1;obtain⟨x1,x2⟩:=BN.mp g2;obtain⟨y1,y2⟩:=BN.mp g3;obtain⟨u1,w1,w2⟩:=rv1.get x1;obtain⟨u2,w3,w4⟩:=rv2.get x2;have e1:u1=pv.1:=by rw[w1] at y1;exact YH y1
    have e2:u2=pv.2:=by rw[w3] at y2;exact YH y2
    subst e1 e2;exact⟨by show 2<=sizeLine;decide,[pv.1,pv.2],.cons w2 (.cons w4 .nil),⟨_,g4,FV,_,FV⟩⟩
   ·rw[Qd m,fr a e] at q2;cases q2
end
end L2
namespace WL
open PySem PySem.Spec PyProof.Rows L2
def Nn (xs ys:List T):List T:=(xs.zip ys).map λz=>.tup [z.1,z.2]
def ck (a:WA):WE:=λτ C Q χ=>a τ C (λvs C1=>∃xs ys:List T,vs=[.tup xs,.tup ys]/\xs.length=ys.length/\xs.length<=1000/\∀p,C1 p=none->Q (.ref p) (up C1 p (.lst (Nn xs ys)))) χ
def wZ {K:WY}{F:Hp}{C:Hw}:∀{as:List WP} {vs us:List V} {xs ys:List T} {H:Hp},as.Nodup->as.length=vs.length->vs.length=us.length->(∀a∈as,H a=none)->Rl K F H C->Reps K H vs xs->Reps K H us ys->
  Rl K F (Tw H as (vs.zip us)) C/\Tx H (Tw H as (vs.zip us))/\Reps K (Tw H as (vs.zip us)) (as.map V.ref) (Nn xs ys)
 | [],vs,us,xs,ys,H,_,h1,h2,_,R,r1,r2=>by
  cases vs with
  | cons _ _=>cases h1
  | nil=>
   have e:xs=[]:=by have:=r1.length;exact EK.mp this.symm
   subst e;unfold Tw;exact⟨R,Tx.refl H,Yu⟩
 | a::as,[],us,xs,ys,H,_,h1,_,_,_,_,_=>by cases h1
 | a::as,v::vs,[],xs,ys,H,_,_,h2,_,_,_,_=>by cases h2
 | a::as,v::vs,u::us,xs,ys,H,nd,h1,h2,hn,R,r1,r2=>by
  cases xs with
  | nil=>have:=r1.length;cases this
  | cons x xs=>
  cases ys with
  | nil=>have:=r2.length;cases this
  | cons y ys=>
  obtain⟨_,_,e1,a1,b1⟩:=Yk r1
  cases e1
  obtain⟨_,_,e2,a2,b2⟩:=Yk r2
  cases e2
  obtain⟨n1,n2⟩:=BP.mp nd;have hp:=hn a (BC ..);have tn:Tx H (Yo H a (.tup [v,u])):=Tx.new hp;rw[List.zip_cons_cons];show Rl K F (Tw (Yo H a (.tup [v,u])) as (vs.zip us)) C/\Tx H (Tw (Yo H a (.tup [v,u])) as (vs.zip us))/\Reps K (Tw (Yo H a (.tup [v,u])) as (vs.zip us)) (V.ref a::as.map V.ref) (.tup [x,y]::Nn xs ys);obtain⟨q1,q2,q3⟩:=wZ (as:=as) (vs:=vs) (us:=us) (H:=Yo H a (.tup [v,u])) n2 (by simpa using h1) (by simpa using h2) (λb hb=>by
   rw[Z1 λz=>n1 (by rw[<-z];exact hb)];exact hn b (XV _ hb)) (R.hid hp) (b1.tx tn) (b2.tx tn)
  refine⟨q1,tn.trans q2,Yj ?_ q3⟩;exact(J5 (Vx.of Z7) (Yj (a1.tx tn) (Yj (a2.tx tn) Yu))).tx q2
section
variable {X:Cx}{a c:WW}{wA:WA}{p pos p2 pos2:Pos}
def fB (hc:X.calm=true)(hg:Gl X "list")(hm:X.mg "list"=none)(hg2:Gl X "zip")(hm2:X.mg "zip"=none)(ha:M3 X [a,c] wA)(hs:starEach [a,c] X.env=(false,eval a X.env)::starEach [c] X.env:=by rfl)(hp:(backTo pos2 (starEach [c] X.env)).any (·.1)=false:=by rfl)
  (hs2:starEach [.Call (.Name "zip" p2) [a,c] [] pos2] X.env=[(false,eval (.Call (.Name "zip" p2) [a,c] [] pos2) X.env)]:=by rfl):Jc X (.Call (.Name "list" p) [.Call (.Name "zip" p2) [a,c] [] pos2] [] pos) (ck wA):=by
 obtain⟨t,p1,s⟩:=ha;refine⟨_,Am hc hg hm hg2 hm2 p1 hs hp hs2,λF H C σ τ Q Q' χ R S h q=>?_⟩;refine s F H C σ τ _ _ χ R S h λxs vs H1 C1 R1 t1 rs h1=>?_;obtain⟨zs,ts,rfl,hl,hz,h1⟩:=h1;obtain⟨x1,r1,rfl,q1,rs⟩:=Yk rs;obtain⟨x2,r2,rfl,q2,rs⟩:=Yk rs
 cases J9 rs
 obtain⟨a1,ys1,rfl,sq1,e1⟩:=Z8 q1;obtain⟨a2,ys2,rfl,sq2,e2⟩:=Z8 q2;have l1:=e1.length;have l2:=e2.length;refine⟨a1,a2,ys1,ys2,FV,sq1,sq2,by omega,by omega,λas pp la nd np hpp hn=>?_⟩;obtain⟨g1,g2,g3⟩:=wZ nd la (by omega) hn R1 e1 e2;have hp':Tw H1 as (ys1.zip ys2) pp=none:=by rw[Qd np];exact hpp
 have tn:Tx (Tw H1 as (ys1.zip ys2)) (Yo (Tw H1 as (ys1.zip ys2)) pp (.lst (as.map V.ref))):=Tx.new hp';exact q _ _ _ _ (g1.newL hp' g3) (t1.trans (g2.trans tn)) Jd (h1 pp (R1.free hpp))
end
end WL
namespace L2
open PySem PySem.Spec PyProof.Rows
section
variable {X:Cx}{WZ:List (WP×Obj)}{σ:St}{H:Hp}{s:WR}{a:WP}{kvs:List (Z2×V)}{A:WM}{E:WQ->WR->Prop}{k:Z2}{u r:WQ}{y:V}
def vR {Q:WQ->WR->Prop}(I:Zl X WZ σ H s)(e:H a=some (.dK kvs))(ry:Z3 (kV k) u)(rz:Z3 y r)(hsz:kvs.length<sizeLine)
  (h1:∀v w' s',V9 kvs k=some v->Zl X WZ σ H s'->Z3 v w'->Q w' s') (h2:∀s',V9 kvs k=none->Zl X WZ σ (Yo H a (.dK (X7 kvs k y))) s'->Q r s'):
  wpAny (model X.prog X.w) A (call (.builtin "dict.setdefault") [.ref a,u,r]) Q E s:=by
 obtain⟨z,hd,vs,rel,dd⟩:=yt I.hok e;have rv:=rel.val k;refine call_meetsIn FL dd.typeIs PySem.F.entry_dict_setdefault (PySem.F.args_dict_setdefault_3 _ _ _) (kt_meets_setdefault (Yw X.prog X.w) a (Ly ry) hd r) ⟨vs,dd,by rw[<-rel.length];exact z,λv hv=>?_,λhv h' dd' hs=>?_⟩
 ·rw[hv] at rv
  cases l:V9 kvs k with
  | none=>rw[l] at rv;exact rv.elim
  | some x=>rw[l] at rv;exact h1 x v _ l (I.tok _) rv
 ·have hn:V9 kvs k=none:=by
   rw[hv] at rv
   cases l:V9 kvs k with
   | none=>rfl
   | some x=>rw[l] at rv;exact rv.elim
  have he:∃q,h'.get? a=some q:=let ⟨q,_,_,hq,_⟩:=dd';⟨q,hq⟩
  exact h2 _ hn (Mv (t':=s.toks+1) I (by rw[e];exact True.intro) hs he (Ko (XN (Ux kvs k y) hsz) hd (KV.put rel k rz) dd'))
end
section
variable {X:Cx}{o e f:WW}{apos cpos:Pos}{td ty tx:TE}
def gn (td ty tx:TE):TE:=λσ H Q=>td σ H λx H1=>∃a,x=.ref a/\iZ H1 a/\ty σ H1 λy H2=>tx σ H2 λz H3=>∃kvs k,H3 a=some (.dK kvs)/\y=kV k/\kvs.length<sizeLine/\
 (∀v,V9 kvs k=some v->Q v H3)/\(V9 kvs k=none->Q z (Yo H3 a (.dK (X7 kvs k z))))
def pQ (ho:PE X o td)(he:PE X e ty)(hf:PE X f tx)(m:M2 X o "setdefault" apos e f cpos):PE X (.Call (.Attribute o "setdefault" apos) [e,f] [] cpos) (gn td ty tx):=by
 intro WZ s σ H Q I h;refine wpAny_Call_method m.base m.few m.line PySem.F.plainAttrs_dict FL PySem.F.type_dict_setdefault (Ja (ho WZ s σ H _ I h) λu s1 z=>?_);obtain⟨x,H1,I1,rx,a,ex,d,q1⟩:=z;subst ex;obtain rfl:u=Value.ref a:=rx;obtain⟨t1,t2,_⟩:=vg I1 d;refine⟨t1,t2,?_⟩;rw[m.trees];refine DN FV (DU (BV (Ja (he WZ s1 σ H1 _ I1 q1) λiv s2 z=>?_)));obtain⟨y,H2,I2,ry,q2⟩:=z;refine BV (Ja (hf WZ s2 σ H2 _ I2 q2) λfv s3 z=>?_);obtain⟨z,H3,I3,rz,kvs,k,ea,ey,hz,q3,q4⟩:=z;refine CV ?_;subst ey;exact vR I3 ea ry rz hz (λv w' s4 l I4 rw'=>⟨v,H3,I4,rw',q3 v l⟩) λs4 l I4=>⟨z,_,I4,rz,q4 l⟩
end
end L2
namespace WL
open PySem PySem.Spec PyProof.Rows L2
section
variable {X:Cx}{o e f:WW}{wo wi wd:WE}{apos cpos:Pos}
def kO (o i d:WE):WE:=λτ C Q χ=>o τ C (λx C1=>(∃a kvs,x=.ref a/\C1 a=some (.dic kvs))/\i τ C1 (λy C2=>d τ C2 (λz C3=>∃a kvs k,x=.ref a/\kT y=some k/\C3 a=some (.dic kvs)/\kvs.length<sizeLine/\
 (∀v,Yr kvs k=some v->Q v C3)/\(Yr kvs k=none->Q z (up C3 a (.dic (Jz kvs k z))))) χ) χ) χ
def ia (ho:Jc X o wo)(he:Jc X e wi)(hf:Jc X f wd)(m:M2 X o "setdefault" apos e f cpos):Jc X (.Call (.Attribute o "setdefault" apos) [e,f] [] cpos) (kO wo wi wd):=by
 obtain⟨ta,p1,s1⟩:=ho;obtain⟨tb,p2,s2⟩:=he;obtain⟨tc,p3,s3⟩:=hf;refine⟨_,pQ p1 p2 p3 m,λF H C σ τ Q Q' χ R S h q=>?_⟩;refine s1 F H C σ τ _ _ χ R S h λx v H1 C1 R1 t1 rx h1=>?_;obtain⟨⟨l,kvs0,rfl,hC0⟩,h1⟩:=h1
 cases Zu rx
 obtain⟨ks0,hH0,_⟩:=R1.dic hC0;refine⟨l,FV,.inl ⟨ks0,.inl hH0⟩,?_⟩;refine s2 F H1 C1 σ τ _ _ χ R1 (S.tx t1) h1 λy u H2 C2 R2 t2 ry h2=>?_;refine s3 F H2 C2 σ τ _ _ χ R2 (S.tx (t1.trans t2)) h2 λz w H3 C3 R3 t3 rz h3=>?_;obtain⟨l',kvs,k,e',hk,hC,hz,h4,h5⟩:=h3
 cases e'
 obtain⟨ks,hH,pr⟩:=R3.dic hC;have t:=(t1.trans t2).trans t3;have ln:ks.length=kvs.length:=Paired.length pr;refine⟨ks,k,hH,Mj hk (ry.tx t3),by omega,λv hv=>?_,λhv=>?_⟩
 ·cases hg:Yr kvs k with
  | none=>rw[(PR.get pr k).1 hg] at hv;cases hv
  | some w=>
   obtain⟨z',hz,rz'⟩:=(PR.get pr k).2 w hg;rw[hz] at hv;cases hv;exact q _ _ H3 C3 R3 t rz' (h4 w hg)
 ·have hn:Yr kvs k=none:=by
   cases hg:Yr kvs k with
   | none=>rfl
   | some w=>obtain⟨z',hz,_⟩:=(PR.get pr k).2 w hg;rw[hz] at hv;cases hv
  obtain⟨R',t'⟩:=R3.putD hC (PR.put pr (k:=k) rz);exact q _ _ _ _ R' (t.trans t') (rz.tx t') (h5 hn)
end
section
variable {X:Cx}{k i j:Nat}{pr:List Df}{cn:Str}{p pos:Pos}
end
end WL
namespace HT
open PySem PySem.Spec PyProof.Rows
section
variable {prog:WO}{w:WN}{A:WM}{E:WQ->WR->Prop}{s:WR}
def getItem_tuple_all {t sl:WP}{items:Array WQ}{vl vu:WQ}{lo hi:Option Int}{Q:WQ->WR->Prop}(ht:IsTup s.heap t items)(hs:s.heap.IsSliceOf sl vl vu .none)(pl:IsPart vl lo)(pu:IsPart vu hi)
  (h1:sIx items.size 0 lo=0) (h2:sIx items.size items.size hi=items.size) (h:Q (.ref t) s):wpAny (model prog w) A (getItem (.ref t) (.ref sl)) Q E s:=by
 obtain⟨os,hos,hcs,hds⟩:=id hs;have hTs:s.TypeIs (.ref sl) "slice":=⟨os,hos,hcs⟩;unfold getItem
 try with_reducible refine wpAny_holding ?_
 first | refine XA (XB ?_) | skip
 refine XA (wpAny_sequenceKey ht.typeIs (by decide) ?_);refine XA (wpAny_callSpecial?_slot (name:=Str.ofString "__getitem__") ht.typeIs CJ
  (wpAny_call_entry CJ ht.typeIs entry_tuple_getitem ?_ (args_tuple_getitem _ _)))
 show wpAny _ _ (Builtin.Tuple.tupleItemsOf (.ref t)>>=_) _ _ s;refine XA (tupleItemsOf_ ht ?_);refine XA (wpAny_typeOf hTs ?_);rw[XY (by decide)];refine XA (Tj hs pl pu ?_);have hyes:(((sIx items.size 0 lo:Nat):Int)==0&&(1:Int)==1&&(sIx items.size items.size hi-sIx items.size 0 lo)==items.size)=true:=by
  rw[h1,h2];simp
 show wpAny _ _ (if (((sIx items.size 0 lo:Nat):Int)==0&&(1:Int)==1&&(sIx items.size items.size hi-sIx items.size 0 lo)==items.size)=true then _ else _) _ _ s;rw[XY hyes];refine XA ?_;unfold Builtin.Tuple.tupleIsExact
 first
  | refine XA (wpAny_typeOf ht.typeIs (XB ?_))
  | refine wpAny_typeOf ht.typeIs ?_
 rw[XY (by decide)];exact XA (wpAny_rule (XB ⟨_,FV,XB h⟩))
end
end HT
namespace L2
open PySem PySem.Spec PyProof.Rows
section
variable {X:Cx}
def gE (K:WY):V->Option Int->Option Int->Hp->VK->Prop:=λx lo hi H Q=>∃a xs,x=.ref a/\Vx K H a xs/\HT.sIx xs.length 0 lo=0/\HT.sIx xs.length xs.length hi=xs.length/\Q (.ref a) H
def tf:uI X (gE X.K):=by
 intro WZ s σ H x v vl vu lo hi sl Q I rx hs pl pu h;obtain⟨a,xs,rfl,hx,h1,h2,q⟩:=h
 cases rx
 obtain⟨its,r,ht,hz⟩:=I.tuple hx;have hlen:its.toArray.size=xs.length:=by rw[XJ];exact r.length.symm
 refine⟨"tuple",_,PyProof.Rows.slot_tuple_getitem.lookup,ht.typeIs,?_⟩;exact HT.getItem_tuple_all ht hs pl pu (by rw[hlen];exact h1) (by rw[hlen];exact h2) ⟨.ref a,H,I,FV,q⟩
end
end L2
namespace WL
open PySem PySem.Spec PyProof.Rows L2
def my:T->Option Int->Option Int->Hw->WK->Prop
 | .tup xs,lo,hi,C,Q=>Q (.tup (Nw xs lo hi)) C
 | _,_,_,_,_=>False
def fm (a:WE)(lo hi:Sw->Hw->(Option Int->Hw->Prop)->WX->Prop):WE:=λτ C Q χ=>a τ C (λx C1=>lo τ C1 (λl C2=>hi τ C2 (λh C3=>my x l h C3 Q) χ) χ) χ
section
variable {X:Cx}{a:WW}{wa:WE}{pos:Pos}
def km:dh X my:=⟨_,xI.or tf,λF H C x v lo hi Q Q' R rx h q=>by
 cases v with
 | tup xs=>
  obtain⟨a,ys,rfl,hq,r⟩:=Z8 rx;by_cases c:HT.sIx ys.length 0 lo=0/\HT.sIx ys.length ys.length hi=ys.length
  ·refine .inr ⟨a,ys,FV,hq,c.1,c.2,q _ _ H C R (Tx.refl H) (J5 hq r) ?_⟩;have e:Nw xs lo hi=xs:=by
    unfold Nw;rw[<-r.length,c.1,c.2];simp[r.length]
   have h:Q' (.tup (Nw xs lo hi)) C:=h;rw[e] at h;exact h
  ·exact .inl ⟨a,ys,FV,hq,c,λp hp=>q _ _ _ C (R.hid hp) (Tx.new hp) (J5 (Vx.of Z7) ((Oo r lo hi).tx (Tx.new hp))) h⟩
 | _=>exact False.elim h⟩
def kW {lo hi:Option WW}{wl wh:Sw->Hw->(Option Int->Hw->Prop)->WX->Prop}{p2:Pos}(ha:Jc X a wa)(hl:mn X lo wl)(hh:mn X hi wh):Jc X (.Subscript a (.Slice lo hi none p2) pos) (fm wa wl wh):=by
 obtain⟨r,h1,h2⟩:=km (X:=X);obtain⟨ta,p1,s1⟩:=ha;obtain⟨tl,p3,s3⟩:=hl;obtain⟨th,p4,s4⟩:=hh;refine⟨_,D4 h1 p1 p3 p4,λF H C σ τ Q Q' χ R S h q=>?_⟩;refine s1 F H C σ τ _ _ χ R S h λx v H1 C1 R1 t1 rx h1=>?_;refine s3 F H1 C1 σ τ _ _ χ R1 (S.tx t1) h1 λl H2 C2 R2 t2 h2'=>?_;refine s4 F H2 C2 σ τ _ _ χ R2 (S.tx (t1.trans t2)) h2' λu H3 C3 R3 t3 h3=>?_;exact h2 F H3 C3 x v l u Q Q' R3 ((rx.tx t2).tx t3) h3 (QE.at q ((t1.trans t2).trans t3))
end
end WL
namespace L2
open PySem PySem.Spec PyProof.Rows
def cF (o:Obj)(d:WP)(ks:List (Z2×V)):It:=
 ⟨λi H=>H d=some (.frz o (.dK ks))/\i<ks.length,λi H x H'=>∃kv T,ks[i]?=some kv/\x=.ref T/\H T=none/\H'=Yo H T (.tup [kV kv.1,kv.2]),λi H=>H d=some (.frz o (.dK ks))/\i=ks.length⟩
section
variable {X:Cx}{e:WW}{elts:List WW}{ek:Nat}{epos apos cpos:Pos}
def dZ (td:TE):TI:=λσ H R=>td σ H λx H1=>∃d ks,x=.ref d/\Rd H1 d (.dK ks)/\∀o,(∀o',H1 d=some (.frz o' (.dK ks))->o'=o)->R (cF o d ks) (Yo H1 d (.frz o (.dK ks)))
end
end L2
namespace WL
open PySem PySem.Spec PyProof.Rows L2
section
variable {X:Cx}{e:WW}{we:WE}
def rI (kvs:List (Z2×T)):List T:=kvs.map λkv=>.tup [tK kv.1,kv.2]
end
end WL
namespace L2
open PySem PySem.Spec PyProof.Rows
def jA {X:Cx}(hc:X.calm=true):Vp X (.builtin "sum") (λxs H Q=>∃(p:WP) (ns:List Int),xs=[.ref p]/\Wl X.K H p (ns.map V.int)/\Q (.int ns.sum) H):=by
 intro WZ s σ H xs us Q I r h;obtain⟨p,ns,rfl,hq,q⟩:=h;obtain⟨u,rfl,ru⟩:=Qq r
 cases ru
 obtain⟨its,rv,pl,hz⟩:=I.list hq;have hl:=pl.isList;have hlt:p<s.heap.objs.size:=by obtain⟨_,e,_⟩:=hl;exact XD e
 have hlen:its.length=ns.length:=by have:=rv.length;simp at this;omega
 refine call_sum_walkG (wpAny_pyIter_list hl ?_);refine⟨s.heap.objs.size,[s.heap.objs.size,p],[s.heap.objs.size],its.toArray.size,_,_,λi=>ns.getD i 0,FV,Walks.list (A:=X.A.in1) (I.ok.hd hc) _ p (XH hlt) its.toArray,
  ⟨⟨_,XF _ FV,FV,FV⟩,hl.push _⟩,λb hb=>?_,λi v hP=>?_,λh' tk t' hk=>?_⟩
 ·have e:(s.heap.push {cls:=.type "list_iterator",data:=.fields #[.ref p,.int 0 0]}).objs.size=s.heap.objs.size+1:=CD ..;show b<(s.heap.push {cls:=.type "list_iterator",data:=.fields #[.ref p,.int 0 0]}).objs.size;rw[e]
  rcases BD.mp hb with z | z
  ·rw[z];exact BK _
  ·rw[XQ.mp z];exact CF hlt
 ·have hv:its[i]?=some v:=by simpa using hP
  have hi:i<its.length:=(BB.mp hv).1;have hb:(ns.map V.int)[i]?=some (.int ns[i]):=by simp[show i<ns.length by omega]
  obtain⟨u,hu,ru⟩:=rv.get hb;rw[hv] at hu;cases hu;obtain⟨t,rfl⟩:=ru;exact⟨t,by simp[List.getD,show i<ns.length by omega]⟩
 ·have e:preSum (λi=>ns.getD i 0) its.toArray.size=ns.sum:=by rw[preSum_getD,XJ,hlen,CC]
  rw[e];refine⟨.int ns.sum,H,?_,⟨_,FV⟩,q⟩;exact I.kept (t':=tk) λb o eb=>hk b o (λz=>by
   rw[XQ.mp z] at eb;exact absurd (XD eb) (BJ _)) (XC _ eb)
end L2
namespace WL
open PySem PySem.Spec PyProof.Rows L2
def Li {K:WY}{H:Hp}:∀{ns:List Int} {ys:List V},Reps K H ys (ns.map T.int)->ys=ns.map V.int
 | [],ys,h=>by cases J9 h;rfl
 | n::ns,ys,h=>by
  have hl:=h.length
  match ys,hl with
  | y::ys,_=>
   obtain⟨y',e,r⟩:=h.get (i:=0) FV
   cases e
   cases Z4 r
   have:=Li (ns:=ns) (h.drop 1);have e2:ys=ns.map V.int:=this;rw[e2];rfl
def qy:List T->Hw->WK->Prop:=λvs C Q=>∃(a:WP) (ns:List Int),vs=[.ref a]/\C a=some (.lst (ns.map T.int))/\Q (.int ns.sum) C
def rj:bootBuiltins "sum"=some (.builtin "sum"):=by decide+kernel
section
variable {X:Cx}
def nE (hc:X.calm=true):Qz X (.builtin "sum") qy:=⟨_,jA hc,λF H C xs vs Q Q' R rs h q=>by
 obtain⟨a,ns,rfl,hx,h⟩:=h;obtain⟨x,rfl,rx⟩:=Wu rs
 cases Zu rx
 obtain⟨ys,hy,r⟩:=R.lst hx
 cases Li r
 exact⟨a,ns,FV,Wl.of hy,q _ _ H C R (Tx.refl H) Y6 h⟩⟩
end
end WL
namespace L2
open PySem PySem.Spec PyProof.Rows
open AutoSeq1 (wpAny_loadPart')
section
variable {prog:WO}{w:WN}{A:WM}{E:WQ->WR->Prop}{s:WR}
end
section
variable {X:Cx}{elts:List WW}{ek:Nat}{epos:Pos}
end
end L2
namespace WL
open PySem PySem.Spec PyProof.Rows L2
section
variable {X:Cx}{a:WW}{wA:WA}{p pos:Pos}
end
end WL
namespace L2
open PySem PySem.Spec PyProof.Rows Builtin
section
variable {prog:WO}{w:WN}{A:WM}{E:WQ->WR->Prop}{s:WR}{z TI TO i1 i2:WP}{f1 f2:List WP}{n n2:Nat}{P1 P2:Nat->WQ->Prop}{S1 S2:Nat->WU->Prop}
end
section
variable {X:Cx}{elts:List WW}{ek:Nat}{epos:Pos}
end
end L2
namespace WL
open PySem PySem.Spec PyProof.Rows L2
section
variable {X:Cx}{a b:WW}{wA:WA}{p pos:Pos}
end
end WL
namespace L2
open PySem PySem.Spec PyProof.Rows
section
variable {X:Cx}
def gD:V->List V->Hp->VK->Prop:=λx vs H Q=>∃z y,x=.str z/\vs=[.str y]/\(y.length==0)=false/\z.length<=sizeLine/\(Txt.split z y).length<=sizeLine/\∀p,H p=none->Q (.ref p) (Yo H p (.lst ((Txt.split z y).map V.str)))
end
end L2
namespace WL
open PySem PySem.Spec PyProof.Rows L2
section
variable {X:Cx}
end
end WL
namespace L2
open PySem PySem.Spec PyProof.Rows
section
variable {prog:WO}{w:WN}{A:WM}{E:WQ->WR->Prop}{s:WR}
end
section
variable {X:Cx}
end
end L2
namespace WL
open PySem PySem.Spec PyProof.Rows L2
section
variable {X:Cx}{e:WW}{we:WE}{pos p p2 pos2:Pos}
def iQ (we:WE):WE:=λτ C Q χ=>we τ C (λv C1=>∃ts:List Str,((v=.tup (ts.map T.str))\/∃a,v=.ref a/\C1 a=some (.lst (ts.map T.str)))/\ts.length+1<scanBound/\∀ys:List Str,ys.Nodup->(∀y,y∈ys↔y∈ts)->Q (.int (ys.length:Int)) C1) χ
end
end WL
namespace L2
open PySem PySem.Spec PyProof.Rows
section
variable {X:Cx}{st:WV}{Yp:List WV}{t u:TS}{pos:Pos}
def gg {α:Type}{t:Sem α}{Q:α->WR->Prop}{M:Model}{A:WM}{E:WQ->WR->Prop}{s:WR}(h1:1<=s.toks)(h:wpAny M A t (λa s'=>1<=s'.toks->Q a s') E s):wpAny M A t Q E s:=
 Ja (xv h1 h) λ_ _ z=>z.2 z.1
def fZ (X:Cx)(es:List WW)(t:TA):Prop:=
 ∀(pos:Pos) (WZ:List (WP×Obj)) (s:WR) (σ:St) (H:Hp) (Q:List V->Hp->Prop),1<=s.toks->Zl X WZ σ H s->t σ H Q->wpAny (model X.prog X.w) X.A (spliced (backTo pos (starEach es X.env))) (AP X WZ σ Q) X.xe s
def i5 (X:Cx)(st:WV)(t:TS):Prop:=
 ∀(WZ:List (WP×Obj)) (s:WR) (σ:St) (H:Hp) (D:Pi),1<=s.toks->Zl X WZ σ H s->t D σ H->wpAny (model X.prog X.w) X.A (exec st X.env) (SP X WZ D) X.xe s
def u8 (X:Cx)(st:List WV)(t:TS):Prop:=
 ∀(WZ:List (WP×Obj)) (s:WR) (σ:St) (H:Hp) (D:Pi),1<=s.toks->Zl X WZ σ H s->t D σ H->wpAny (model X.prog X.w) X.A (execs st X.env) (SP X WZ D) X.xe s
def fY (X:Cx)(st:WV)(t:TS):Prop:=
 ∀(WZ:List (WP×Obj)) (s:WR) (σ:St) (H:Hp) (D:Pi),Zl X WZ σ H s->t D σ H->wpAny (model X.prog X.w) X.A (exec st X.env) (λf s'=>1<=s'.toks/\SP X WZ D f s') X.xe s
def PA.one {es:List WW}{t:TA}(h:PA X es t):fZ X es t:=λpos WZ s σ H Q _ I q=>h pos WZ s σ H Q I q
def PS.one (h:PS X st t):i5 X st t:=λWZ s σ H D _ I q=>h WZ s σ H D I q
def yT (h1:i5 X st t)(h2:u8 X Yp u):u8 X (st::Yp) (qO t u):=by
 intro WZ s σ H D k I h;refine wpAny_execs_cons (Ja (xv k (h1 WZ s σ H {D with nx:=u D} k I h)) λf s1 q=>?_);obtain⟨k1,q⟩:=q
 cases f with
 | next=>
  obtain⟨σ',H',I',q⟩:=q;exact h2 WZ s1 σ' H' D k1 I' q
 | ret v=>exact q
 | brk=>exact q
 | cont=>exact q
def yS (h1:fY X st t)(h2:u8 X Yp u):Bu X (st::Yp) (qO t u):=by
 intro WZ s σ H D I h;refine wpAny_execs_cons (Ja (h1 WZ s σ H {D with nx:=u D} I h) λf s1 q=>?_);obtain⟨k1,q⟩:=q
 cases f with
 | next=>
  obtain⟨σ',H',I',q⟩:=q;exact h2 WZ s1 σ' H' D k1 I' q
 | ret v=>exact q
 | brk=>exact q
 | cont=>exact q
def wm (h1:i5 X st t):u8 X [st] t:=by
 intro WZ s σ H D k I h;refine wpAny_execs_cons (Ja (h1 WZ s σ H D k I h) λf s1 q=>?_)
 cases f with
 | next=>exact wpAny_execs_nil q
 | ret v=>exact q
 | brk=>exact q
 | cont=>exact q
end
structure uC (P:Program)(w:World)(K:W.Frag)(mg:Str->Option Value)(base:Heap)(k:Nat)(f:Addr)(fd:FuncData)(ps:List Str)(sp:Sp):Prop where
 len:∀vs H Q E,sp vs H Q E->vs.length=ps.length
 run:∀(A:WM) (outer:List Env) (s:WR) (H:Hp) (args:Args) (us:List WQ) (vs:List V) (Q:VK) (E:XK),1<=s.toks->Y9 k A->Io P w K mg base A outer s H->BindsTo s fd args (ps.zip us)->Z0 vs us->sp vs H Q E->
  codeAny (model P w) A (.call (.ref f) args) (CR CX0 outer P w H s Q E) s
def X8.one {P:WO}{w:WN}{K:WY}{mg:Str->Option WQ}{base:WU}{k:Nat}{f:WP}{fd:VZ}{ps:List Str}{sp:Sp}(F:X8 P w K mg base CX0 k f fd ps sp):uC P w K mg base k f fd ps sp:=
 ⟨F.len,λA outer s H args us vs Q E _=>F.run A outer s H args us vs Q E⟩
section
variable {X:Cx}{k:Nat}{f:WP}{fd:VZ}{ps:List Str}{sp:Sp}{x:Str}{p pos:Pos}{e:WW}{es:List WW}{t:TA}
def t9 {WZ:List (WP×Obj)}{σ:St}{H:Hp}{s:WR}{Q:VK}{us:List WQ}{vs:List V}(F:uC X.prog X.w X.K X.mg X.base k f fd ps sp)(hr:Y9 k X.A)(hb:J6 X.K fd ps [])(h1:1<=s.toks)
  (I:Zl X WZ σ H s) (r:Z0 vs us) (h:sp (vs++[]) H Q E0):wpAny (model X.prog X.w) X.A (call (.ref f) us) (EP X WZ σ Q) X.xe s:=by
 have r2:Z0 (vs++[]) (us++[]):=r.append .nil;have hl:(us++[]).length=ps.length:=by rw[<-r2.length];exact F.len _ _ _ _ h
 refine wpAny_call (codeAny_mono (F.run X.A X.stack s H ⟨us,[]⟩ (us++[]) (vs++[]) Q E0 h1 hr I.env0 (hb s us I.kIn hl) r2 h) λr s' hq=>?_)
 cases r with
 | error e=>exact(Y0:Wj CX0 X E0) WZ σ H s e s' I hq
 | ok fl=>
  cases fl with
  | ret u=>exact I.after hq
  | next=>exact False.elim hq
  | brk=>exact False.elim hq
  | cont=>exact False.elim hq
structure cK (P:Program)(w:World)(K:W.Frag)(mg:Str->Option Value)(base:Heap)(k:Nat)(x:Str)(ps:List Str)(sp:Sp):Prop where
 ex:∃(f:WP) (fd:VZ),uC P w K mg base k f fd ps sp/\J6 K fd ps []/\W.keepIn K (.ref f)=true/\mg x=some (.ref f)
def Ca.one {P:WO}{w:WN}{K:WY}{mg:Str->Option WQ}{base:WU}(C:Ca P w K mg base k x ps sp):cK P w K mg base k x ps sp:=by
 obtain⟨f,fd,F,r⟩:=C.ex;exact⟨f,fd,F.one,r⟩
end
section
variable {P:WO}{w:WN}{K:WY}{mg:Str->Option WQ}{base:WU}
end
end L2
namespace WL
open PySem PySem.Spec PyProof.Rows L2
def i4 (X:Cx)(es:List WW)(w:WA):Prop:=∃t,fZ X es t/\Ey X.K t w
def rO (X:Cx)(st:WV)(w:WS):Prop:=∃t,i5 X st t/\Ik X.K t w
def rN (X:Cx)(st:WV)(w:WS):Prop:=∃t,fY X st t/\Ik X.K t w
def zF (X:Cx)(st:List WV)(w:WS):Prop:=∃t,u8 X st t/\Ik X.K t w
section
variable {X:Cx}{e a b o:WW}{es:List WW}{st:WV}{Yp:List WV}{we wa wb wo:WE}{wA:WA}{w u:WS}{pos p cpos apos:Pos}
def M3.one (h:M3 X es wA):i4 X es wA:=by obtain⟨t,p,s⟩:=h;exact⟨t,p.one,s⟩
def Ny.one (h:Ny X st w):rO X st w:=by obtain⟨t,p,s⟩:=h;exact⟨t,p.one,s⟩
def sV (a:rO X st w):zF X [st] w:=by
 obtain⟨t,p,s⟩:=a;exact⟨_,wm p,s⟩
def Xr (a:rO X st w)(b:zF X Yp u):zF X (st::Yp) (Qn w u):=by
 obtain⟨t,p,s⟩:=a;obtain⟨t',p',s'⟩:=b;refine⟨_,yT p p',λF H C σ τ D D' R S h d=>?_⟩;exact s F H C σ τ _ _ R S h ⟨λσ' τ' H' C' R' t' S' h'=>s' F H' C' σ' τ' D D' R' S' h' (d.at t'),d.rt,d.bk,d.ct⟩
def vN (a:rN X st w)(b:zF X Yp u):Bs X (st::Yp) (Qn w u):=by
 obtain⟨t,p,s⟩:=a;obtain⟨t',p',s'⟩:=b;refine⟨_,yS p p',λF H C σ τ D D' R S h d=>?_⟩;exact s F H C σ τ _ _ R S h ⟨λσ' τ' H' C' R' t' S' h'=>s' F H' C' σ' τ' D D' R' S' h' (d.at t'),d.rt,d.bk,d.ct⟩
end
end WL
namespace L2
open PySem PySem.Spec PyProof.Rows
def iD (P:Params):List DictEntry->List (Str×Int)->Prop
 | [],[]=>True
 | e::l,(x,i)::r=>((∃t,e.key=.str x t)/\e.hash=PyData.keyHash P x/\∃t,e.val=.int i t)/\iD P l r
 | _,_=>False
structure br (w:World)(K:W.Frag)(mg:Str->Option Value)(x:Str)(kvs:List (Str×Int)):Prop where
 ex:∃(a:WP) (es:Array DictEntry) (n:Nat),mg x=some (.ref a)/\(a==sysModules)=false/\K.lookup a=some ⟨.type "dict",none,.dict es n,#[]⟩/\iD w.params es.toList kvs
end L2
namespace WL
open PySem PySem.Spec PyProof.Rows L2
def dr:W2:=λv u C Q=>match v,u with
 | .ref a,.tup ts=>(∃xs,C a=some (.lst xs))/\(∃zs:List Str,ts=zs.map T.str)/\Q (.bl false) C
 | v,u=>eK v u C Q
end WL
namespace L2
open PySem PySem.Spec PyProof.Rows
section
variable {X:Cx}{pos p:Pos}{e:WW}{es:List WW}{te:TE}{t:TA}
def i8 (X:Cx)(es:List WW)(t:TA):Prop:=
 ∀(pos:Pos) (WZ:List (WP×Obj)) (s:WR) (σ:St) (H:Hp) (Q:List V->Hp->Prop),Zl X WZ σ H s->t σ H Q->wpAny (model X.prog X.w) X.A (spliced (backTo pos (starEach es X.env))) (λus s'=>1<=s'.toks/\AP X WZ σ Q us s') X.xe s
def tZ {i:Int}{j:Nat}{lp:Pos}(hr:PA X es t)(hs:starEach (.Constant (.int i) j lp::es) X.env=(false,eval (.Constant (.int i) j lp) X.env)::starEach es X.env:=by rfl):i8 X (.Constant (.int i) j lp::es) (Dh (tC (.int i)) t):=by
 intro pos WZ s σ H Q I h;rw[hs];show wpAny _ _ (spliced ((false,eval (.Constant (.int i) j lp) X.env)::backTo pos (starEach es X.env))) _ _ s;refine BV (wpAny_Constant_int ?_);refine gg (s:={s with toks:=s.toks+1}) (Nat.le_add_left _ _) ?_;exact Ja (hr pos WZ _ σ H _ (I.tok _) h) λus s2 ⟨xs,H2,I2,r2,q2⟩ k=>⟨k,.int i::xs,H2,I2,.cons ⟨_,FV⟩ r2,q2⟩
def wF (ha:PE X e te)(hr:i8 X es t)(hs:starEach (e::es) X.env=(false,eval e X.env)::starEach es X.env:=by rfl):i8 X (e::es) (Dh te t):=by
 intro pos WZ s σ H Q I h;rw[hs];show wpAny _ _ (spliced ((false,eval e X.env)::backTo pos (starEach es X.env))) _ _ s;refine BV (Ja (ha WZ s σ H _ I h) λu s1 ⟨x,H1,I1,r1,q1⟩=>?_);exact Ja (hr pos WZ s1 σ H1 _ I1 q1) λus s2 ⟨k,xs,H2,I2,r2,q2⟩=>⟨k,x::xs,H2,I2,.cons r1 r2,q2⟩
def wn {k i:Nat}{x y:Str}{ps:List Str}{sp:Sp}{pos' apos:Pos}(C:Ca X.prog X.w X.K X.mg X.base k x ps sp)(hr:Y9 k X.A)(hg:Gl X x)(ha:i8 X (e::es) t)(hN:X.N.Nodup)(hi:X.N[i]?=some y)(hx:uK X.env.scope y)
  (hdb:(x==("__debug__":Str))=false:=by decide) (he:starEach (e::es) X.env=(false,eval e X.env)::starEach es X.env:=by rfl) (hpl:(backTo pos (starEach es X.env)).any (·.1)=false:=by rfl)
  (hs:swapsWith (.Call (.Name x p) (e::es) [] pos) (some (.Name y pos')) apos.line X.env=pure false:=by rfl) (hf:X.fn y=true\/X.env.scope.names.lookup y=some .local:=by first | exact .inl FV | exact .inr FV | assumption):
  fY X (.Assign [.Name y pos'] (.Call (.Name x p) (e::es) [] pos) apos) (qS (xC sp [] E0 t) (Xb i)):=by
 obtain⟨f,fd,F,B,kp,m⟩:=C.one.ex;intro WZ s σ H D I h;refine wpAny_Assign_Name (wpAny_Call_Name_kw (Qg I hg m ?_ hdb)) hs;refine FQ (h₀:=X.base) I.ok.mod.kin kp (Ja (ha pos WZ s σ H _ I h) λus s1 ⟨k1,vs,H1,I1,r,q⟩=>⟨I1.kIn,?_⟩) he hpl;refine Ja (xv k1 (t9 F hr B k1 I1 r q)) λv s2 ⟨k2,y',H2,I2,r2,q2⟩=>?_;exact xv k2 (Px I2 hN hi hx r2 (λs3 I3=>⟨_,H2,I3,q2⟩) hf)
end
end L2
namespace WL
open PySem PySem.Spec PyProof.Rows L2
section
variable {X:Cx}{pos p:Pos}{a b e:WW}{es Yp:List WW}{wa wb:WE}{wA:WA}
def rQ (X:Cx)(es:List WW)(w:WA):Prop:=∃t,i8 X es t/\Ey X.K t w
def sW {i:Int}{j:Nat}{lp:Pos}(hb:M3 X es wA)(hs:starEach (.Constant (.int i) j lp::es) X.env=(false,eval (.Constant (.int i) j lp) X.env)::starEach es X.env:=by rfl):rQ X (.Constant (.int i) j lp::es) (Zt (eC (.int i)) wA):=by
 obtain⟨t,p,s⟩:=hb;exact⟨_,tZ p hs,Ae (lx λ_=>Y6) s⟩
def vP (ha:Jc X a wa)(hb:rQ X es wA)(hs:starEach (a::es) X.env=(false,eval a X.env)::starEach es X.env:=by rfl):rQ X (a::es) (Zt wa wA):=by
 obtain⟨ta,p1,s1⟩:=ha;obtain⟨tb,p2,s2⟩:=hb;exact⟨_,wF p1 p2 hs,Ae s1 s2⟩
def vI {k i j:Nat}{x y:Str}{ps:List Str}{pr:List Df}{pos' apos:Pos}(Cc:Ca X.prog X.w X.K X.mg X.base k x ps (spW X.K pr k i))(hr:Y9 k X.A)(hg:Gl X x)(ha:rQ X (e::es) wA)(hN:X.N.Nodup)(hi:X.N[j]?=some y:=by rfl)(hx:uK X.env.scope y:=by first | exact Or.inl FV | exact Or.inr FV)
  (hdb:(x==("__debug__":Str))=false:=by decide) (he:starEach (e::es) X.env=(false,eval e X.env)::starEach es X.env:=by rfl) (hpl:(backTo pos (starEach es X.env)).any (·.1)=false:=by rfl)
  (hs:swapsWith (.Call (.Name x p) (e::es) [] pos) (some (.Name y pos')) apos.line X.env=pure false:=by rfl) (hf:X.fn y=true\/X.env.scope.names.lookup y=some .local:=by first | exact .inl FV | exact .inr FV | assumption):
  rN X (.Assign [.Name y pos'] (.Call (.Name x p) (e::es) [] pos) apos) (O8 (X5 (J8 pr k) i wA) (Ig j)):=by
 obtain⟨t,p1,s⟩:=ha;refine⟨_,wn Cc hr hg p1 hN hi hx hdb he hpl hs hf,λF H C σ τ D D' R S h d=>?_⟩;refine s F H C σ τ _ _ D'.xc R S h λxs vs H1 C1 R1 t1 rs h1=>?_;refine⟨F,C1,vs,_,D'.xc,R1,?_,h1,QE.at (Q':=λx C1=>Ig j x τ C1 D'.nx D'.xc) (λx v H2 C2 R2 t2 rx h2=>?_) t1⟩
 ·rw[YK];exact rs
 ·exact Yv F H2 C2 σ τ x v _ _ D'.xc R2 (S.tx t2) rx h2 λσ' τ' H' C' R' t'=>d.nx σ' τ' H' C' R' (t2.trans t')
end
end WL
namespace L2
open PySem PySem.Spec PyProof.Rows
structure rK (fs ex:List Addr)(H H':Hp)(h B:Heap):Prop where
 keep:∀b o,h.get? b=some o->H b=none->b∉fs->b∉ex->B.get? b=some o
 free:∀b o,h.get? b=some o->H b=none->b∉ex->H' b=none
 there:∀b o,h.get? b=some o->b∉fs->b∉ex->∃o',B.get? b=some o'
 tups:∀b xs,H b=some (.tup xs)->H' b=some (.tup xs)
 frzs:∀b o u,H b=some (.frz o u)->H' b=some (.frz o u)
 tbls:∀b ps,H b=some (.tbl ps)->∃more,H' b=some (.tbl (ps++more))
def dn (P:WO)(w:WN)(ex:List WP)(Z:Hp->WU->Prop)(Fl:WU->List Env->WP->WQ->WQ->WU->Prop):Mg:=λouter H s E e s'=>∃ea cls a0 H' B,e=.ref ea/\E cls none H'/\s'.os=s.os/\AllBare s'.gens/\rK (Me outer) ex H H' s.heap B/\
 (∀b∈Me outer,∀o,s.heap.get? b=some o->b∉ex->∃sl,s'.heap.get? b=some {o with slots:=sl})/\Vy P w H' B/\Z H' B/\Fl B outer ea cls a0 s'.heap
def Nl (P:WO)(w:WN):Mg:=dn P w [] (λ_ _=>True) Heap.FlyingW
def rK.hide {fs ex as:List WP}{H H':Hp}{h h':WU}(u:Un fs ex H H' h h')(k:∀b o,h.get? b=some o->b∉fs->b∉as):rK fs ex H H' h (W.hideAll h' as) where
 keep:=λb o e n hb hx=>FM _ (u.keep b o e n hb hx) (k b o e hb)
 free:=λb o e n hx=>u.free b o e n hx
 there:=λb o e hb hx=>let ⟨o',q⟩:=u.there b o e hx;⟨o',FM _ q (k b o e hb)⟩
 tups:=u.tups
 frzs:=u.frzs
 tbls:=u.tbls
def rK.pre {fs fs' ex ex':List WP}{H H1 H2:Hp}{h h1 B:WU}(a:Un fs ex H H1 h h1)(b:rK fs' ex' H1 H2 h1 B)(k:∀b o,h.get? b=some o->b∉fs->b∉fs')(kx:∀b o,h.get? b=some o->b∉ex->b∉ex'):rK fs ex H H2 h B where
 keep:=λc o e n hc hx=>b.keep c o (a.keep c o e n hc hx) (a.free c o e n hx) (k c o e hc) (kx c o e hx)
 free:=λc o e n hx=>let ⟨o',q⟩:=a.there c o e hx;b.free c o' q (a.free c o e n hx) (kx c o e hx)
 there:=λc o e hc hx=>let ⟨o',q⟩:=a.there c o e hx;b.there c o' q (k c o e hc) (kx c o e hx)
 tups:=λc xs q=>b.tups c xs (a.tups c xs q)
 frzs:=λc o u q=>b.frzs c o u (a.frzs c o u q)
 tbls:=λc ps q=>by
  obtain⟨m1,e1⟩:=a.tbls c ps q;obtain⟨m2,e2⟩:=b.tbls c _ e1;exact⟨m1++m2,by rw[e2,Array.append_assoc]⟩
def Vy.hide {P:WO}{w:WN}{H:Hp}{h:WU}{as:List WP}(x:Vy P w H h)(n:∀b∈as,H b=none):Vy P w H (W.hideAll h as):=λa o e=>
 (x a o e).stay (λb u hb q=>FM _ q λm=>by
  have:=n b m
  rcases hb with rfl | hb
  ·rw[e] at this;cases this
  ·rw[hb] at this;cases this) (λ_ q=>q) λ_ _ q=>q
section
variable {P:WO}{w:WN}{K:WY}{mg:Str->Option WQ}{base:WU}{N:List Str}{qual:Str}{scope:Scope}{f:WP}{cdv:WQ}{A:WM}{outer:List Env}{s0:WR}{H0:Hp}{E:XK}
def oU {l:List Env}{env:Env}{a:WP}(h:env∈l)(e:env.frame=some a):a∈Me l:=DK.mpr ⟨env,h,e⟩
def Ha {WZ:List (WP×Obj)}{σ:St}{H:Hp}{s:WR}(I:Zl (Tg (Nl P w) P w K mg base N qual scope f cdv A outer s0 H0 E) WZ σ H s):∀b o,s0.heap.get? b=some o->b∉Me outer->b∉Me (Tg (Nl P w) P w K mg base N qual scope f cdv A outer s0 H0 E).stack:=λb o e hb m=>by
 rcases BD.mp (I.stkSub b m) with z | z
 ·exact absurd (XD e) (by rw[z];exact Nat.not_lt.mpr I.ok.above)
 ·exact hb z
def Vo:Wj (Nl P w) (Tg (Nl P w) P w K mg base N qual scope f cdv A outer s0 H0 E) E:=by
 rintro WZ σ H s e s' I ⟨ea,cls,a0,H',B,rfl,hE,hos,hb,u,hf,hok,-,fl⟩;refine wpAny_leaves_onW (M:=model P w) (e:=ea) (cls:=cls) (a0:=a0) (base:=B) (L:=s0.heap.objs.size) I.ok.frames FV fl λh' fl' up=>?_;refine⟨ea,cls,a0,H',B,FV,hE,hos.trans I.os,hb,rK.pre I.base u (Ha I) (λ_ _ _ z=>z),λb hb' o e _=>?_,hok,trivial,fl'⟩;obtain⟨sl,q⟩:=I.base.slot b o e (I.ok.frf b hb') hb' (by intro z;cases z);obtain⟨sl',q'⟩:=hf b (by unfold Me;exact DK.mpr (let ⟨x,hx,hy⟩:=DK.mp hb';⟨x,XV _ hx,hy⟩)) _ q (by intro z;cases z);obtain⟨_,o2,ho2,nf⟩:=I.ok.funs.mem hb';have:o2=o:=by
  have e2:s0.heap.get? b=some o2:=ho2;rw[e] at e2;exact(YH e2).symm
 subst this;obtain⟨sl2,q2⟩:=up b _ q' nf;exact⟨sl2,q2⟩
def o8 {WZ:List (WP×Obj)}{σ:St}{H:Hp}{s:WR}{h':WU}{e C:WP}{vs:List WQ}(I:Zl (Tg (Nl P w) P w K mg base N qual scope f cdv A outer s0 H0 E) WZ σ H s)(hx:Heap.MadeExcOf s.heap h' e (.ref C) vs)(hE:E (.ref C) none H):
  (Tg (Nl P w) P w K mg base N qual scope f cdv A outer s0 H0 E).xe (.ref e) {s with heap:=h'}:=by
 refine wpAny_leaves_madeW (M:=model P w) (s:={s with heap:=h'}) (base:=W.hideAll s.heap (Me (envOfC qual scope s0.heap.objs.size f cdv::outer))) (h:=s.heap) (e:=e) (cls:=.ref C) (args:=vs) (L:=s0.heap.objs.size) I.ok.frames FV
  (λb o q=>W.of_hideAll _ q) (W.funFrames_hide I.stack λenv he a ha=>oU he ha) hx λh2 t fl _ _ up=>?_
 refine⟨e,.ref C,.ref t,H,_,FV,hE,I.os,I.bare,rK.hide I.base (Ha I),λb hb' o q0 _=>?_,I.hok.hide I.stkFree,trivial,fl⟩;obtain⟨sl,q⟩:=I.base.slot b o q0 (I.ok.frf b hb') hb' (by intro z;cases z);obtain⟨_,o2,ho2,nf⟩:=I.ok.funs.mem hb';have:o2=o:=by
  have e2:s0.heap.get? b=some o2:=ho2;rw[q0] at e2;exact(YH e2).symm
 subst this;obtain⟨sl2,q2⟩:=up b _ (hx.keeps _ _ q) nf;exact⟨sl2,q2⟩
end
structure iS (K:W.Frag)(mg:Str->Option Value)(x:Str)(C:Addr):Prop where
 at_:mg x=some (.ref C)
 exc:∃Bn newId inN bmN,ExcBaseFacts Bn newId inN bmN/\[Value.type "ValueError",.type "Exception",.type "BaseException",.type "object"].contains (.type Bn)=true/\W.excIn K C [.type "ValueError",.type "Exception",.type "BaseException",.type "object"] newId=true
def pU {K:WY}{h:WU}{mg:Str->Option WQ}{x:Str}{C:WP}{bmB:List WQ}{newId:String}(X:K.In h)(e:mg x=some (.ref C))(q:W.excIn K C bmB newId=true):OwnCls x C bmB newId mg h:=by
 refine⟨e,?_⟩;unfold W.excIn at q
 split at q
 ·rename_i dd cd sl ho
  split at q
  ·rename_i C' bm k0 k1 k2 k3 n k5 hm hs;simp only[Bool.and_eq_true,beq_iff_eq,Bool.not_eq_true'] at q;obtain⟨⟨⟨⟨⟨rfl,rfl⟩,hdel⟩,ht⟩,hok⟩,hni⟩:=q;obtain⟨nm,bs,mro,ns,qn,hd,sn,sub,ab,col,del⟩:=cd;dsimp only at hm hdel hok hni;subst hm hdel;have hsl:sl=#[k0,k1,k2,k3,some (.builtin n),k5]:=by
    obtain⟨l⟩:=sl;simp only at hs;rw[hs]
   subst hsl;exact⟨bm,ns,nm,qn,bs,hd,sn,sub,ab,col,dd,k0,k1,k2,k3,k5,_,X _ _ ho,.of_isNs (W.isNs_of_in X hok),W.nsMap_none_of_in X hok hni,W.tail_of_in X ht⟩
  ·cases q
 ·cases q
def qP (C:WP)(E:XK)(ta:TA):TS:=λ_ σ H=>ta σ H λvs H1=>vs.length<=sizeLine/\E (.ref C) none H1
def uD (X:Cx)(E:XK):Prop:=∀(WZ:List (WP×Obj)) (σ:St) (H:Hp) (s:WR) (h':WU) (e C:WP) (vs:List WQ),Zl X WZ σ H s->Heap.MadeExcOf s.heap h' e (.ref C) vs->E (.ref C) none H->X.xe (.ref e) {s with heap:=h'}
def wu {X:Cx}{E:XK}{x:Str}{C:WP}{np cpos pos:Pos}{e:WW}{es:List WW}{ta:TA}(hf:uD X E)(hc:X.calm=true)(O:iS X.K X.mg x C)(hg:Gl X x)(ha:PA X (e::es) ta)(hdb:(x==("__debug__":Str))=false:=by decide)
  (he:starEach (e::es) X.env=(false,eval e X.env)::starEach es X.env:=by rfl) (hpl:(backTo cpos (starEach es X.env)).any (·.1)=false:=by rfl):PS X (.Raise (some (.Call (.Name x np) (e::es) [] cpos)) none pos) (qP C E ta):=by
 intro WZ s σ H D I h;obtain⟨Bn,newId,inN,bmN,Fn,hBn,q⟩:=O.exc;obtain⟨tl,N,nm,qn,bs,hdct,sn,sub,ab,col,dd,k0,k1,k2,k3,k5,mN,hC,hN,hni,T⟩:=(pU I.ok.mod.kin O.at_ q).obj;refine wpAny_Raise_call_subU (C:=C) (nm:=nm) (q:=qn) (N:=N) (bs:=bs) (bm:=tl) (hdct:=hdct) (sn:=sn) (sub:=sub) (ab:=ab) (col:=col) (dd:=dd) (k0:=k0) (k1:=k1) (k2:=k2) (k3:=k3) (k5:=k5) (bmB:=[Value.type "ValueError",.type "Exception",.type "BaseException",.type "object"])
  Fn hBn PySem.F.excBase_ValueError (mN:=mN) (T.hasType PySem.F.excBase_ValueError.hasBase) (I.ok.hd hc) (by rw[he];show(false||(backTo cpos (starEach es X.env)).any (·.1))=false;rw[hpl];rfl) hni (Qg I hg O.at_ ⟨FV,?_⟩ hdb)
 have h2:=ha cpos WZ s σ H _ I h;rw[he] at h2 |-;refine DU (wpAny_mono h2 (λus s2 z=>?_) λ_ _ y=>y);obtain⟨vs,H2,I2,r,hl,hE⟩:=z;refine⟨FV,by rw[<-r.length];exact hl,I2.bk _ _ hC,hN.keeps I2.bk,T.keeps I2.bk,λh' e hm=>hf WZ σ H2 s2 h' e C us I2 hm hE⟩
def zk {P:WO}{w:WN}{K:WY}{mg:Str->Option WQ}{base:WU}{N:List Str}{qual:Str}{scope:Scope}{f:WP}{cdv:WQ}{A:WM}{outer:List Env}{s0:WR}{H0:Hp}{E:XK}:uD (Tg (Nl P w) P w K mg base N qual scope f cdv A outer s0 H0 E) E:=
 λ_ _ _ _ _ _ _ _ I hx hE=>o8 I hx hE
section
variable {M:Model}{A:WM}{E:WQ->WR->Prop}{s:WR}
end
section
variable {X:Cx}{EE:List WP->WR->Hp->WQ->WR->Prop}{tg iter elt:WW}{ifs:List WW}{scope:Scope}{pos:Pos}{cN:List Str}{cap:List (Option Nat)}{cl:List (Str×WP)}{js:List Nat}{wi:TI}{g:TG}{c:TT}{te:TE}
structure dk (X:Cx)(EE:List Addr->Shared->Hp->Value->Shared->Prop)(tg iter elt:Expr)(ifs:List Expr)(scope:Scope)(cN:List Str)(cap:List (Option Nat))(cl:List (Str×Addr))(js:List Nat)(wi:TI)(g:TG)(c:TT)(te:TE):Prop where
 calm:X.calm=true
 ok:X.Ok->Pn X cN cap scope cl
 it:PI X tg iter wi
 tgt:∀fp s H,PG ((Yc X cN scope cl fp s H).wish (EE fp s H)) tg g
 gm:Sf g
 gk:N5 js g
 js0:∀j∈js,(cap[j]?).join=none
 ts:∀fp s H,jI ((Yc X cN scope cl fp s H).wish (EE fp s H)) ifs c
 tm:∀σ H (Q Q':Bool->Hp->Prop),(∀b H',Q b H'->Q' b H')->c σ H Q->c σ H Q'
 el:∀fp s H,PE ((Yc X cN scope cl fp s H).wish (EE fp s H)) elt te
 fold:∀x,foldedSetIterable iter X.env x=pure x
end
def fi (P:WO)(w:WN)(stack:List Env)(E:XK)(fp:List WP)(s:WR)(H:Hp):WQ->WR->Prop:=
 dn P w fp (λH' B=>(∃m,B.Ns s.heap.objs.size m)/\H' s.heap.objs.size=none) Heap.FlyingW stack H s E
section
variable {P:WO}{w:WN}{K:WY}{mg:Str->Option WQ}{base:WU}{N:List Str}{qual:Str}{scope:Scope}{f:WP}{cdv:WQ}{A:WM}{outer:List Env}{s0:WR}{H0:Hp}{E:XK}
variable {X:Cx}{cN:List Str}{csc:Scope}{cl:List (Str×WP)}{fp:List WP}{s:WR}{H:Hp}
variable {tg iter elt:WW}{ifs:List WW}{pos:Pos}{cap:List (Option Nat)}{js:List Nat}{wi:TI}{g:TG}{c:TT}{te:TE}
end
structure uB (P:Program)(w:World)(K:W.Frag)(mg:Str->Option Value)(base:Heap)(CX:Mg)(k:Nat)(f:Addr)(fd:FuncData)(ps:List Str)(sp:Sp):Prop where
 len:∀vs H Q E,sp vs H Q E->vs.length=ps.length
 run:∀(A:WM) (outer:List Env) (s:WR) (H:Hp) (args:Args) (us:List WQ) (vs:List V) (Q:VK) (E:XK),1<=s.toks->Y9 k A->Io P w K mg base A outer s H->BindsTo s fd args (ps.zip us)->Z0 vs us->sp vs H Q E->
  codeAny (model P w) A (.call (.ref f) args) (CR CX outer P w H s Q E) s
section
variable {X:Cx}{CX:Mg}{E:XK}{k:Nat}{f:WP}{fd:VZ}{ps:List Str}{sp:Sp}{x:Str}{p pos:Pos}{e:WW}{es:List WW}{t:TA}
structure iE (P:Program)(w:World)(K:W.Frag)(mg:Str->Option Value)(base:Heap)(CX:Mg)(k:Nat)(x:Str)(ps:List Str)(sp:Sp):Prop where
 ex:∃(f:WP) (fd:VZ),uB P w K mg base CX k f fd ps sp/\J6 K fd ps []/\W.keepIn K (.ref f)=true/\mg x=some (.ref f)
end
end L2
namespace WL
open PySem PySem.Spec PyProof.Rows L2
def Er (rs:List (WP×Prop)):XK:=λcls _ _=>∃p∈rs,cls=.ref p.1/\p.2
def qT (K:WY)(pr:List Df)(E1:XK)(n i:Nat):Sp:=λvs H Q E=>E=E1/\spW K pr n i vs H Q E
structure Ip (P:Program)(w:World)(K:W.Frag)(mg:Str->Option Value)(base:Heap)(k:Nat)(x:Str)(ps:List Str)(sp:Sp):Prop where
 ex:∃(f:WP) (fd:VZ),X8 P w K mg base (Nl P w) k f fd ps sp/\J6 K fd ps []/\W.keepIn K (.ref f)=true/\mg x=some (.ref f)
section
variable {X:Cx}{k i:Nat}{x:Str}{ps:List Str}{pr:List Df}{p pos:Pos}{e:WW}{es:List WW}{wA:WA}{E1:XK}
def sZ (hx:Wj (Nl X.prog X.w) X E1)(Cc:Ip X.prog X.w X.K X.mg X.base k x ps (qT X.K pr E1 k i))(hr:Y9 k X.A)(hg:Gl X x)(ha:M3 X (e::es) wA)
  (hdb:(x==("__debug__":Str))=false:=by decide) (he:starEach (e::es) X.env=(false,eval e X.env)::starEach es X.env:=by rfl) (hpl:(backTo pos (starEach es X.env)).any (·.1)=false:=by rfl):
  Jc X (.Call (.Name x p) (e::es) [] pos) (X5 (J8 pr k) i wA):=by
 obtain⟨t,p1,s⟩:=ha;obtain⟨f,fd,G,B,kp,m⟩:=Cc.ex;refine⟨_,G5 G hr hg m kp B .nil hx p1 hdb he hpl,λF H C σ τ Q Q' χ R S h q=>?_⟩;refine s F H C σ τ _ _ χ R S h λxs vs H1 C1 R1 t1 rs h1=>?_;refine⟨FV,F,C1,vs,Q',χ,R1,?_,h1,QE.at q t1⟩;rw[YK];exact rs
def qY (P:Calls)(iR:Nat)(wa:WA):WS:=λD τ C=>wa τ C (λvs C'=>vs.length<=1000/\P iR [] C' D.rt D.xc) D.xc
def xi {r:Prop}{C:Hw}{Q:WK}{χ:WX}(hR:pr[i]?=some ⟨0,0,λ_ _ _ _=>r⟩):∀{k:Nat},J8 pr k i [] C Q χ->r
 | 0,h=>h.elim
 | k+1,h=>by
  obtain⟨d,e,_,h⟩:=h;rw[hR] at e;cases e;exact h
end
section
variable {P:WO}{w:WN}{K:WY}{mg:Str->Option WQ}{base:WU}{x qual:Str}{st:WV}{f:WP}{fd:VZ}{N ps:List Str}{pr:List Df}{n i:Nat}{d:Df}{E1:XK}
def Sz {sp:Sp}(L:Ld K mg x st ps)(G:∀{f fd},Gd K x x st f fd->X8 P w K mg base (Nl P w) n f fd ps sp):Ip P w K mg base n x ps sp:=by
 obtain⟨f,fd,F,B,M⟩:=L;exact⟨f,fd,G F,B,F.kp,M⟩
end
structure eI (X:Cx)(E1:XK)(tg iter elt:Expr)(ifs:List Expr)(scope:Scope)(cN:List Str)(cap:List (Option Nat))(cl:List (Str×Addr))(js:List Nat)(i:WI)(g:TG)(wg:WG)(wc:WT)(we:WE):Prop where
 calm:X.calm=true
 ok:X.Ok->Pn X cN cap scope cl
 it:q8 X tg iter i
 tgt:∀fp s H,PG ((Yc X cN scope cl fp s H).wish (fi X.prog X.w X.stack E1 fp s H)) tg g
 gm:Sf g
 gk:N5 js g
 sg:Br X.K g wg
 js0:∀j∈js,(cap[j]?).join=none
 ts:∀fp s H,u5 ((Yc X cN scope cl fp s H).wish (fi X.prog X.w X.stack E1 fp s H)) ifs wc
 el:∀fp s H,Jc ((Yc X cN scope cl fp s H).wish (fi X.prog X.w X.stack E1 fp s H)) elt we
 fold:∀x,foldedSetIterable iter X.env x=pure x
section
variable {P:WO}{w:WN}{K:WY}{mg:Str->Option WQ}{base:WU}{N:List Str}{qual:Str}{scope:Scope}{f:WP}{cdv:WQ}{A:WM}{outer:List Env}{s0:WR}{H0:Hp}{E1:XK}
variable {tg iter elt:WW}{ifs:List WW}{csc:Scope}{pos:Pos}{cN:List Str}{cap:List (Option Nat)}{cl:List (Str×WP)}{js:List Nat}{i:WI}{g:TG}{wg:WG}{wc:WT}{we:WE}
end
end WL
namespace L2
open PySem PySem.Spec PyProof.Rows
def rT:HO->Prop
 | .lst _=>True
 | .tup _=>True
 | .dK _=>True
 | _=>False
open Classical in
noncomputable def frzO (h:WU) (b:WP) (u:HO):Option HO:=
 match u with
 | .frz o v=>if rT v then some (.frz o v) else none
 | u=>if rT u then(h.get? b).map λo=>.frz o u else none
noncomputable def freeze (H:Hp) (h:WU):Hp:=λb=>(H b).bind (frzO h b)
def Qi {H:Hp}{h:WU}{b:WP}{z:HO}(e:freeze H h b=some z):∃o v,z=.frz o v/\rT v/\((H b=some v/\h.get? b=some o)\/H b=some (.frz o v)):=by
 unfold freeze at e
 cases q:H b with
 | none=>rw[q] at e;cases e
 | some u=>
  rw[q] at e;simp only[Option.bind_some] at e;unfold frzO at e
  split at e
  ·rename_i o v
   split at e
   ·rename_i hv
    cases e
    exact⟨o,v,FV,hv,.inr FV⟩
   ·cases e
  ·rename_i hne
   split at e
   ·rename_i hu
    cases ho:h.get? b with
    | none=>rw[ho] at e;cases e
    | some o=>rw[ho] at e;cases e;exact⟨o,u,FV,hu,.inl ⟨FV,FV⟩⟩
   ·cases e
def Nf {H:Hp}{h:WU}{b:WP}{u:HO}{o:Obj}(e:H b=some u)(hu:rT u)(ho:h.get? b=some o):freeze H h b=some (.frz o u):=by
 unfold freeze;rw[e];simp only[Option.bind_some];unfold frzO
 split
 ·rename_i o' v;exact hu.elim
 ·rw[XY hu,ho];rfl
open Classical in
def zi {H:Hp}{h:WU}{b:WP}{u:HO}{o:Obj}(e:H b=some (.frz o u))(hu:rT u):freeze H h b=some (.frz o u):=by
 unfold freeze;rw[e];simp only[Option.bind_some];unfold frzO;show(if rT u then some (HO.frz o u) else none)=_;rw[XY hu]
def ym {P:WO}{w:WN}{H H':Hp}{h h':WU}{b:WP}{u:HO}(hu:rT u)(x:Y2 P w H h b u)(e:∀o,h.get? b=some o->h'.get? b=some o):Y2 P w H' h' b u:=by
 cases u with
 | lst xs=>obtain⟨z,its,n,r,q⟩:=x;exact⟨z,its,n,r,e _ q⟩
 | tup xs=>obtain⟨z,its,r,ob,q,c⟩:=x;exact⟨z,its,r,ob,e _ q,c⟩
 | dK kvs=>exact(Y2.stay (H:=λ_=>none) (H':=H') (h':=h') (show Y2 P w (λ_=>none) h b (.dK kvs) from x) (λc u hc q=>by
   rcases hc with rfl | hc
   ·exact e _ q
   ·cases hc) (λc q=>by cases q) λc xs q=>by cases q)
 | _=>exact hu.elim
def Vy.freeze {P:WO}{w:WN}{H:Hp}{h:WU}(x:Vy P w H h):Vy P w (freeze H h) h:=λa z e=>by
 obtain⟨o,v,rfl,hv,q⟩:=Qi e
 rcases q with⟨q,ho⟩ | q
 ·exact⟨ho,ym hv (x a v q) λ_ z=>z⟩
 ·obtain⟨h1,h2⟩:=x a _ q;exact⟨h1,ym hv h2 λ_ z=>z⟩
def B6 {P:WO}{w:WN}{fs:List WP}{H H':Hp}{h B:WU}(x:Vy P w H h)(u:rK fs [] (freeze H h) H' h B)(ok:Vy P w H' B)(fr:∀b∈fs,H b=none):∀b o,h.get? b=some o->b∉fs->B.get? b=some o:=λb o e hb=>by
 cases q:freeze H h b with
 | none=>exact u.keep b o e q hb (by simp)
 | some z=>
  obtain⟨o',v,rfl,hv,hq⟩:=Qi q;have h1:=(ok b _ (u.frzs b o' v q)).1
  rcases hq with⟨_,ho⟩ | hq
  ·rw[e] at ho;cases ho;exact h1
  ·have:=(x b _ hq).1;rw[e] at this;cases this;exact h1
def yG {P:WO}{w:WN}{fs:List WP}{H H':Hp}{h h':WU}(x:Vy P w H h)(u:Un fs [] (freeze H h) H' h h')(ok:Vy P w H' h')(fr:∀b∈fs,H b=none):∀b o,h.get? b=some o->b∉fs->h'.get? b=some o:=λb o e hb=>by
 cases q:freeze H h b with
 | none=>exact u.keep b o e q hb (by simp)
 | some z=>
  obtain⟨o',v,rfl,hv,hq⟩:=Qi q;have h1:=(ok b _ (u.frzs b o' v q)).1
  rcases hq with⟨_,ho⟩ | hq
  ·rw[e] at ho;cases ho;exact h1
  ·have:=(x b _ hq).1;rw[e] at this;cases this;exact h1
def Uy {H:Hp}{h:WU}{b:WP}(e:H b=none):freeze H h b=none:=by
 unfold freeze;rw[e];rfl
def zP {fs:List WP}{H:Hp}{h h':WU}(k:∀b o,h.get? b=some o->b∉fs->h'.get? b=some o)(sl:∀b∈fs,∀o,h.get? b=some o->∃sl,h'.get? b=some {o with slots:=sl}):Un fs [] H H h h' where
 keep:=λb o e _ hb _=>k b o e hb
 slot:=λb o e _ hb _=>sl b hb o e
 free:=λ_ _ _ n _=>n
 there:=λb o e _=>by
  by_cases hb:b∈fs
  ·obtain⟨sl,q⟩:=sl b hb o e;exact⟨_,q⟩
  ·exact⟨o,k b o e hb⟩
 tups:=λ_ _ q=>q
 frzs:=λ_ _ _ q=>q
 tbls:=λ_ ps q=>⟨#[],by simpa using q⟩
def Cr {P:WO}{w:WN}{fs:List WP}{H:Hp}{h h':WU}(x:Vy P w H h)(fr:∀b∈fs,H b=none)(k:∀b o,h.get? b=some o->b∉fs->h'.get? b=some o):Vy P w H h':=λa o e=>
 (x a o e).stay (λb u hb q=>k b u q λm=>by
  have:=fr b m
  rcases hb with rfl | hb
  ·rw[e] at this;cases this
  ·rw[hb] at this;cases this) (λ_ q=>q) λ_ _ q=>q
section
variable {X:Cx}{WZ:List (WP×Obj)}{σ:St}{H:Hp}{s s':WR}
def Zl.env0F (I:Zl X WZ σ H s):Io X.prog X.w X.K X.mg X.base X.A X.stack s (freeze H s.heap):=
 ⟨I.ok.frames,I.ok.mod,λb o e=>⟨(I.bs b o e).1,Uy (I.bs b o e).2⟩,XN I.ok.bsz I.sz,I.stack,λb hb=>Uy (I.stkFree b hb),I.hok.freeze,I.bare⟩
def Zl.backF {Q:VK}{u:WQ}(I:Zl X WZ σ H s)(h:CE X.stack X.prog X.w (freeze H s.heap) s Q u s'):Zl X WZ σ H s'/\∃v H',Z3 v u/\Q v H':=by
 obtain⟨v,H',os,bare,un,hok,r,q⟩:=h;have k:=yG I.hok un hok I.stkFree;refine⟨I.call' (ch:=[]) os (zP k λb hb o e=>un.slot b o e (Uy (I.stkFree b hb)) hb (by simp)) (Cr I.hok I.stkFree k) bare (λb z=>absurd z (by simp)),v,H',r,q⟩
end
def Cx.mk1 (X:Cx)(e:WQ):Cx:={X with A:=X.A.mark (some e),calm:=false,xe:=λ_ _=>False}
section
variable {X:Cx}{WZ:List (WP×Obj)}{σ:St}{H:Hp}{s s':WR}{e:WQ}
def Cx.Ok.mk1 (ok:X.Ok):(X.mk1 e).Ok:=
 ⟨ok.mod,ok.kind,ok.glob,ok.blt,ok.above,ok.inj,ok.has,ok.cab,(λz=>by cases z),ok.frames,ok.stk,ok.exf,ok.bs,ok.bsz,ok.noex,ok.exfs,ok.funs,ok.frf⟩
def Zl.mk1 (I:Zl X WZ σ H s):Zl (X.mk1 e) WZ σ H s:=⟨I.ok.mk1,I.os,I.bare,I.base,I.loc,I.cell,I.free,I.freeC,I.pin,I.hok,I.len⟩
def Zl.unmk1 (ok:X.Ok)(I:Zl (X.mk1 e) WZ σ H s):Zl X WZ σ H s:=⟨ok,I.os,I.bare,I.base,I.loc,I.cell,I.free,I.freeC,I.pin,I.hok,I.len⟩
def SP.unmk1 {D:Pi}{f:Flow}(ok:X.Ok)(h:SP (X.mk1 e) WZ D f s'):SP X WZ D f s':=by
 cases f with
 | next=>obtain⟨σ',H',I,q⟩:=h;exact⟨σ',H',I.unmk1 ok,q⟩
 | brk=>obtain⟨σ',H',I,q⟩:=h;exact⟨σ',H',I.unmk1 ok,q⟩
 | cont=>obtain⟨σ',H',I,q⟩:=h;exact⟨σ',H',I.unmk1 ok,q⟩
 | ret u=>obtain⟨v,σ',H',I,r,q⟩:=h;exact⟨v,σ',H',I.unmk1 ok,r,q⟩
def E6 (X:Cx)(WZ:List (WP×Obj))(σ:St)(H:Hp)(ea:WP)(cls:WQ)(s:WR):Prop:=
 ∃s1 B a0,Zl X WZ σ H s1/\s.os=s1.os/\AllBare s.gens/\(∀b o,s1.heap.get? b=some o->b∉Me X.stack->B.get? b=some o)/\
  (∀b∈Me X.stack,∀o,s1.heap.get? b=some o->∃sl,s.heap.get? b=some {o with slots:=sl})/\Heap.FlyingW B X.stack ea cls a0 s.heap
variable {ea:WP}{cls:WQ}
def E6.inv (F:E6 X WZ σ H ea cls s):Zl X WZ σ H s:=by
 obtain⟨s1,B,a0,I,os,bare,k,sl,fl⟩:=F;have k':∀b o,s1.heap.get? b=some o->b∉Me X.stack->s.heap.get? b=some o:=λb o e hb=>fl.1 b o (k b o e hb);exact I.call' (ch:=[]) os (zP k' sl) (Cr I.hok I.stkFree k') bare (λb z=>absurd z (by simp))
def E6.step {B:WU}{a0:WQ}{h':WU}{s1:WR}(I:Zl X WZ σ H s1)(os:s.os=s1.os)(bare:AllBare s.gens)(k:∀b o,s1.heap.get? b=some o->b∉Me X.stack->B.get? b=some o)
  (sl:∀b∈Me X.stack,∀o,s1.heap.get? b=some o->∃sl,s.heap.get? b=some {o with slots:=sl}) (fl:Heap.FlyingW B X.stack ea cls a0 h') (up:s.heap.UpToSlots h'):E6 X WZ σ H ea cls {s with heap:=h'}:=by
 refine⟨s1,B,a0,I,os,bare,k,λb hb o e=>?_,fl⟩;obtain⟨sl,q⟩:=sl b hb o e;obtain⟨_,o2,ho2,nf⟩:=I.stack.mem hb;rw[e] at ho2;cases ho2;obtain⟨sl2,q2⟩:=up b _ q nf;exact⟨sl2,q2⟩
def E6.of {E:XK}{e:WQ}(I:Zl X WZ σ H s)(h:Nl X.prog X.w X.stack (freeze H s.heap) s E e s'):∃ea cls H',e=.ref ea/\E cls none H'/\E6 X WZ σ H ea cls s':=by
 obtain⟨ea,cls,a0,H',B,rfl,hE,os,bare,u,sl,ok,-,fl⟩:=h;exact⟨ea,cls,H',FV,hE,s,B,a0,I,os,bare,B6 I.hok u ok I.stkFree,λb hb o e=>sl b hb o e (by simp),fl⟩
def E6.ty {M:Model}(F:E6 X WZ σ H ea cls s):W.Looks M s.heap (typeOf (.ref ea)) cls:=by
 obtain⟨s1,B,a0,I,os,bare,k,sl,fl⟩:=F;obtain⟨ob,hob,hc⟩:=fl.there;subst hc;exact(W.Looks.ld hob).andThen .now
section
variable {M:Model}{A:WM}{E:WQ->WR->Prop}{Q:Unit->WR->Prop}
def E6.land (F:E6 X WZ σ H ea cls s)(h:∀s',E6 X WZ σ H ea cls s'->Q () s'):wpAny M A (setFlight (.ref ea) none) Q E s:=by
 obtain⟨s1,B,a0,I,os,bare,k,sl,fl⟩:=F;exact lands_againW fl λh' fl' up=>h _ (E6.step (s:=s) I os bare k sl fl' up)
def E6.look {L:WP}{outer:List Env}(F:E6 X WZ σ H ea cls s)(hs:X.stack=X.env::outer)(hf:X.env.frame=some L)(hA:A.frames=some X.stack)(h:∀s',E6 X WZ σ H ea cls s'->Q () s'):
  wpAny M A (noteFrame (.ref ea) X.env) (λ_ s2=>wpAny M A (setFlight (.ref ea) none) Q E s2) E s:=by
 obtain⟨s1,B,a0,I,os,bare,k,sl,fl⟩:=F;rw[hs] at fl;refine wpAny_looks_onW (outer:=outer) (L:=L) (hA.trans (by rw[hs])) hf fl λh' hh up=>?_;refine wpAny_landsW hh λh2 fl2 up2=>?_;exact h _ (E6.step (s:=s) (h':=h2) I os bare k sl (by rw[hs];exact fl2) (up.trans up2))
end
def HB (X:Cx)(hs:List ExceptHandler)(cls:WQ)(th:TS):Prop:=∀(ea:WP) (WZ:List (WP×Obj)) (s:WR) (σ:St) (H:Hp) (D:Pi),E6 X WZ σ H ea cls s->th D σ H->wpAny (model X.prog X.w) X.A (handleBy (.ref ea) X.env hs) (SP X WZ D) X.xe s
variable {x:Str}{c:WQ}{np pos:Pos}{nm:Option Str}{body suite:List WV}{b₀:WV}{Yp:List ExceptHandler}{th:TS}
def oP (hg:Gl X x)(hm:X.mg x=some c)(he:W.exmOne X.K cls c=some true)(hs:∀ea,Bu (X.mk1 (.ref ea)) (b₀::suite) th)(hdb:(x==("__debug__":Str))=false:=by decide):HB X (.ExceptHandler (some (.Name x np)) none (b₀::suite) pos::Yp) cls th:=by
 intro ea WZ s σ H D F h;refine wpAny_handleBy_cons (codeAny_handlers_test (Qg (X:=X.mk1 (.ref ea)) F.inv.mk1 hg hm ?_ hdb)) (by intro q;cases q);refine W.exm_one F.inv.kIn F.ty he _ _ _ _ (λ_ _ z=>z) ?_;refine codeAny_handlers_suite (F.land λs2 F2=>?_);exact wpAny_mono (hs ea WZ s2 σ H D F2.inv.mk1 h) (λf s3 q=>SP.unmk1 F2.inv.ok q) λ_ _ z=>z.elim
def dw (P:WO)(w:WN)(sp:Sp)(ta:TA)(th:WQ->TS):TS:=λD σ H=>ta σ H λvs H1=>∃E:XK,(∀h,Vy P w H1 h->sp vs (freeze H1 h) (λ_ _=>D.nx σ H1) E)/\∀cls,(∃H',E cls none H')->th cls D σ H1
end
end L2
namespace WL
open PySem PySem.Spec PyProof.Rows L2
mutual
inductive Fz (C:Hw):T->T->Prop
 | non:Fz C .non .non
 | bl (b:Bool):Fz C (.bl b) (.bl b)
 | int (i:Int):Fz C (.int i) (.int i)
 | str (z:Str):Fz C (.str z) (.str z)
 | tup {ts ts':List T} (h:Fzs C ts ts'):Fz C (.tup ts) (.tup ts')
 | cl {ts ts':List T} (h:Fzs C ts ts'):Fz C (.cl ts) (.cl ts')
 | lst {a:WP} {ts ts':List T} (e:C a=some (.lst ts)) (h:Fzs C ts ts'):Fz C (.ref a) (.cl ts')
 | ref (a:WP):Fz C (.ref a) (.ref a)
inductive Fzs (C:Hw):List T->List T->Prop
 | nil:Fzs C [] []
 | cons {t t':T} {ts ts':List T} (h:Fz C t t') (r:Fzs C ts ts'):Fzs C (t::ts) (t'::ts')
end
def eD (C C':Hw):Prop:=∀a o,C' a=some o->o=.fdic []/\C a=some (.dic [])
section
variable {K:WY}{P:WO}{w:WN}{F H:Hp}{C:Hw}{h:WU}
def G3 {a:WP}{u:HO}(ok:Vy P w H h)(hu:rT u)(r:Rd H a u):∃o,freeze H h a=some (.frz o u):=by
 rcases r with r | ⟨o,r⟩
 ·have:=ok.lt r
  cases u with
  | lst xs=>obtain⟨_,its,n,_,q⟩:=(show Y2 P w H h a (.lst xs) from ok a _ r);exact⟨_,Nf r hu q⟩
  | tup xs=>obtain⟨_,its,_,ob,q,_⟩:=(show Y2 P w H h a (.tup xs) from ok a _ r);exact⟨_,Nf r hu q⟩
  | dK kvs=>
   cases q:h.get? a with
   | some o=>exact⟨_,Nf r hu q⟩
   | none=>
    exfalso;obtain⟨_,_,vs,_,z⟩:=(show Y2 P w H h a (.dK kvs) from ok a _ r);obtain⟨o,es,ep,e,_⟩:=z;rw[q] at e;cases e
  | _=>exact hu.elim
 ·exact⟨o,zi r hu⟩
mutual
def oR (R:Rl K F H C)(ok:Vy P w H h):∀{v v':T},Fz C v v'->∀{x:V},Yx K H x v->Yx K (freeze H h) x v'
 | _,_,.non,_,r=>r
 | _,_,.bl _,_,r=>r
 | _,_,.int _,_,r=>r
 | _,_,.str _,_,r=>r
 | _,_,.ref _,_,r=>r
 | _,_,.tup f,x,r=>by
  obtain⟨a,ys,e,sq,rs⟩:=(show ∃a ys,x=.ref a/\Vx K H a ys/\Reps K H ys _ from r);refine(show ∃a ys,x=.ref a/\Vx K (freeze H h) a ys/\Reps K (freeze H h) ys _ from⟨a,ys,e,?_,Oh R ok f rs⟩)
  rcases sq with sq | sq
  ·exact .inl (.inr (G3 ok trivial sq))
  ·exact .inr sq
 | _,_,.cl f,x,r=>by
  obtain⟨a,ys,e,sq,rs⟩:=(show ∃a ys,x=.ref a/\u0 K H a ys/\Reps K H ys _ from r);refine(show ∃a ys,x=.ref a/\u0 K (freeze H h) a ys/\Reps K (freeze H h) ys _ from⟨a,ys,e,?_,Oh R ok f rs⟩)
  rcases sq with sq | sq
  ·exact .inl (G3 ok trivial (.inr sq))
  ·exact .inr sq
 | _,_,.lst (a:=a) ec f,x,r=>by
  obtain⟨ys,e,rs⟩:=(show ∃ys,H a=some (.lst ys)/\Reps K H ys _ from R.obj a _ ec);exact(show ∃a ys,x=.ref a/\u0 K (freeze H h) a ys/\Reps K (freeze H h) ys _ from⟨a,ys,r,.inl (G3 ok trivial (.inl e)),Oh R ok f rs⟩)
def Oh (R:Rl K F H C)(ok:Vy P w H h):∀{vs vs':List T},Fzs C vs vs'->∀{xs:List V},Reps K H xs vs->Reps K (freeze H h) xs vs'
 | _,_,.nil,_,r=>r
 | _,_,.cons f g,xs,r=>by
  obtain⟨y,z,e,r1,r2⟩:=(show ∃y z,xs=y::z/\Yx K H y _/\Reps K H z _ from r);exact(show ∃y z,xs=y::z/\Yx K (freeze H h) y _/\Reps K (freeze H h) z _ from⟨y,z,e,oR R ok f r1,Oh R ok g r2⟩)
end
def kL {C':Hw}(R:Rl K F H C)(ok:Vy P w H h)(f:eD C C'):Rl K (λ_=>none) (freeze H h) C':=by
 refine⟨λa o e=>?_,λa o e=>by cases e⟩;obtain⟨rfl,ec⟩:=f a o e;obtain⟨ks,q,p⟩:=(show ∃ks,H a=some (.dK ks)/\PR K H ks [] from R.obj a _ ec)
 cases p
 exact⟨[],.inr (G3 ok trivial (.inl q)),.nil⟩
end
def dL (P:Calls)(wA:WA)(as:List (Nat×WS)):WS:=λD τ C=>wA τ C (λvs C1=>∃vs' C',Fzs C1 vs vs'/\eD C1 C'/\∃q∈as,P q.1 vs' C' (λ_ _=>D.nx τ C1) (λ_ _=>False)/\q.2 D τ C1) D.xc
def fX (X:Cx)(hs:List ExceptHandler)(cls:WQ)(wh:WS):Prop:=∃th,HB X hs cls th/\Ik X.K th wh
section
variable {X:Cx}{x:Str}{c cls:WQ}{np pos:Pos}{nm:Option Str}{body suite:List WV}{b₀:WV}{Yp:List ExceptHandler}{wh:WS}
def nv (hg:Gl X x)(hm:X.mg x=some c)(he:W.exmOne X.K cls c=some true)(hs:∀e,Bs (X.mk1 e) (b₀::suite) wh)(hdb:(x==("__debug__":Str))=false:=by decide):fX X (.ExceptHandler (some (.Name x np)) none (b₀::suite) pos::Yp) cls wh:=by
 refine⟨λD σ H=>∀e,∃t,Bu (X.mk1 e) (b₀::suite) t/\t D σ H,oP hg hm he (λea WZ s σ H D I h=>?_) hdb,λF H C σ τ D D' R S h d e=>?_⟩
 ·obtain⟨t,p,q⟩:=h (.ref ea);exact p WZ s σ H D I q
 ·obtain⟨t,p,sm⟩:=hs e;exact⟨t,p,sm F H C σ τ D D' R S h d⟩
def mh (X:Cx)(pr:List Df)(k:Nat)(fn:Str)(ps:List Str)(hs:List ExceptHandler)(q:Nat×WS):Prop:=∃E1:XK,iE X.prog X.w X.K X.mg X.base (Nl X.prog X.w) k fn ps (qT X.K pr E1 k q.1)/\∀cls H,E1 cls none H->fX X hs cls q.2
def jF {k i:Nat}{pr:List Df}{fn:Str}{ps:List Str}{hs:List ExceptHandler}{wh:WS}(Cc:iE X.prog X.w X.K X.mg X.base (Nl X.prog X.w) k fn ps (qT X.K pr (λ_ _ _=>False) k i)):mh X pr k fn ps hs (i,wh):=⟨_,Cc,λ_ _ z=>z.elim⟩
def rH {k i:Nat}{pr:List Df}{fn:Str}{ps:List Str}{hs:List ExceptHandler}{wh:WS}{C:WP}{r:Prop}(Cc:iE X.prog X.w X.K X.mg X.base (Nl X.prog X.w) k fn ps (qT X.K pr (Er [(C,r)]) k i))(h:fX X hs (.ref C) wh):mh X pr k fn ps hs (i,wh):=⟨_,Cc,λcls _ z=>by
 obtain⟨p,hp,rfl,_⟩:=z;rw[XQ.mp hp];exact h⟩
end
end WL
namespace L2
open PySem PySem.Spec PyProof.Rows
end L2
namespace WL
open PySem PySem.Spec PyProof.Rows L2
def K6 (K:WY)(P:Calls)(i:Nat):Sp:=λvs H Q _=>∃(F:Hp) (C:Hw) (vs':List T) (Q':WK) (χ:WX),Rl K F H C/\Reps K H vs vs'/\P i vs' C Q' χ/\QE K F H Q Q'
def Dl (K:WY)(P:Calls)(E1:XK)(i:Nat):Sp:=λvs H Q E=>E=E1/\K6 K P i vs H Q E
section
variable {X:Cx}{k i:Nat}{x:Str}{ps:List Str}{P:Calls}{p pos:Pos}{e:WW}{es:List WW}{wA:WA}{E1:XK}
def U0 (Cc:Ca X.prog X.w X.K X.mg X.base k x ps (K6 X.K P i))(hr:Y9 k X.A)(hg:Gl X x)(ha:M3 X (e::es) wA)
  (hdb:(x==("__debug__":Str))=false:=by decide) (he:starEach (e::es) X.env=(false,eval e X.env)::starEach es X.env:=by rfl) (hpl:(backTo pos (starEach es X.env)).any (·.1)=false:=by rfl):
  Jc X (.Call (.Name x p) (e::es) [] pos) (X5 P i wA):=by
 obtain⟨t,p1,s⟩:=ha;refine⟨_,qj Cc hr hg p1 hdb he hpl,λF H C σ τ Q Q' χ R S h q=>?_⟩;refine s F H C σ τ _ _ χ R S h λxs vs H1 C1 R1 t1 rs h1=>?_;refine⟨F,C1,vs,Q',χ,R1,?_,h1,QE.at q t1⟩;rw[YK];exact rs
def Uz (hx:Wj (Nl X.prog X.w) X E1)(Cc:Ip X.prog X.w X.K X.mg X.base k x ps (Dl X.K P E1 i))(hr:Y9 k X.A)(hg:Gl X x)(ha:M3 X (e::es) wA)
  (hdb:(x==("__debug__":Str))=false:=by decide) (he:starEach (e::es) X.env=(false,eval e X.env)::starEach es X.env:=by rfl) (hpl:(backTo pos (starEach es X.env)).any (·.1)=false:=by rfl):
  Jc X (.Call (.Name x p) (e::es) [] pos) (X5 P i wA):=by
 obtain⟨t,p1,s⟩:=ha;obtain⟨f,fd,G,B,kp,m⟩:=Cc.ex;refine⟨_,G5 G hr hg m kp B .nil hx p1 hdb he hpl,λF H C σ τ Q Q' χ R S h q=>?_⟩;refine s F H C σ τ _ _ χ R S h λxs vs H1 C1 R1 t1 rs h1=>?_;refine⟨FV,F,C1,vs,Q',χ,R1,?_,h1,QE.at q t1⟩;rw[YK];exact rs
def Ip.tk {P:WO}{w:WN}{K:WY}{mg:Str->Option WQ}{base:WU}{sp:Sp}(C:Ip P w K mg base k x ps sp):iE P w K mg base (Nl P w) k x ps sp:=by
 obtain⟨f,fd,F,r⟩:=C.ex;exact⟨f,fd,⟨F.len,λA outer s H args us vs Q E _=>F.run A outer s H args us vs Q E⟩,r⟩
def Ng {C:WP}{np cpos:Pos}(hf:uD X E1)(hc:X.calm=true)(O:iS X.K X.mg x C)(hE:∀C' Q χ H,P i [] C' Q χ->E1 (.ref C) none H)(hg:Gl X x)(ha:M3 X (e::es) wA)(hdb:(x==("__debug__":Str))=false:=by decide)
  (he:starEach (e::es) X.env=(false,eval e X.env)::starEach es X.env:=by rfl) (hpl:(backTo cpos (starEach es X.env)).any (·.1)=false:=by rfl):Ny X (.Raise (some (.Call (.Name x np) (e::es) [] cpos)) none pos) (qY P i wA):=by
 obtain⟨t,p1,s⟩:=ha;refine⟨_,wu hf hc O hg p1 hdb he hpl,λF H Cw σ τ D D' R S h d=>?_⟩;refine s F H Cw σ τ _ _ D'.xc R S h λxs vs H1 C1 R1 t1 rs h1=>?_;exact⟨by rw[rs.length];exact CK (Iw h1.1),hE _ _ _ _ h1.2⟩
end
def Gc (P' P:Calls)(i:Nat)(N ps:List Str)(W:Calls->WS):Prop:=∀vs C Q χ,P' i vs C Q χ->vs.length=ps.length/\W P (ZUD Q χ) (vs.map some++List.replicate (N.length-ps.length) none) C
def Ye {pr:List Df}{n i:Nat}{N ps:List Str}{W:Calls->WS}(h:pr[i]?=some ⟨N.length,ps.length,W⟩):Gc (J8 pr (n+1)) (J8 pr n) i N ps W:=λvs C Q χ z=>by
 obtain⟨d,e,hl,z⟩:=z;rw[h] at e;cases e;exact⟨hl,z⟩
def Yd {pr:List Df}{n i M:Nat}{N ps:List Str}{W:Calls->WS}(h:pr[i+M]?=some ⟨N.length,ps.length,λP=>W λj=>P (j+M)⟩):Gc (λj=>J8 pr (n+1) (j+M)) (λj=>J8 pr n (j+M)) i N ps W:=λvs C Q χ z=>by
 obtain⟨d,e,hl,z⟩:=z;rw[h] at e;cases e;exact⟨hl,z⟩
section
variable {Pg:WO}{w:WN}{K:WY}{mg:Str->Option WQ}{base:WU}{x qual:Str}{st:WV}{f:WP}{fd:VZ}{N ps:List Str}{n i:Nat}{P P':Calls}{E1:XK}{W:Calls->WS}
def oW (hO:Gc P' P i N ps W)(F:Gd K x qual st f fd)(S:Zr N ps (Zg st))
  (hb:∀(cdv:WQ) (A:WM) (outer:List Env) (s:WR) (H:Hp) (E:XK),Y9 n (A.deeper (envOfC qual (Zg st) s.heap.objs.size f cdv))->Bs (Tg CX0 Pg w K mg base N qual (Zg st) f cdv A outer s H E).nox (Jh st) (W P)):
  X8 Pg w K mg base CX0 (n+1) f fd ps (K6 K P' i):=by
 refine F.ok S (λvs H Q E h=>?_) (λcdv A outer s H vs Q E hr h=>?_)
 ·obtain⟨F',C,vs',Q',χ,R,rs,h,_⟩:=h;rw[rs.length,(hO _ _ _ _ h).1]
 ·obtain⟨F',C,vs',Q',χ,R,rs,h,q⟩:=h;obtain⟨hl,h⟩:=hO _ _ _ _ h;obtain⟨t,p,sm⟩:=hb cdv A outer s H E hr;refine⟨t,p,sm F' H C _ _ _ _ R (J7.start rs N _ (by rw[rs.length,hl])) h ⟨λσ τ H' C' R' t' _ h'=>q .non .non H' C' R' t' T3 h',q,λ_ _ _ _ _ _ _ z=>z.elim,λ_ _ _ _ _ _ _ z=>z.elim⟩⟩
def oV (hO:Gc P' P i N ps W)(F:Gd K x qual st f fd)(S:Zr N ps (Zg st))
  (hb:∀(cdv:WQ) (A:WM) (outer:List Env) (s:WR) (H:Hp),Y9 n (A.deeper (envOfC qual (Zg st) s.heap.objs.size f cdv))->Bs (Tg (Nl Pg w) Pg w K mg base N qual (Zg st) f cdv A outer s H E1) (Jh st) (W P)):
  X8 Pg w K mg base (Nl Pg w) (n+1) f fd ps (Dl K P' E1 i):=by
 obtain⟨oc,od,kV,doc,pm,an,cdv,ct,osl,rfl,lk,hcd⟩:=F.ex;refine qo lk hcd S (λvs H Q E h=>?_) (λA outer s H vs Q E hr h=>?_)
 ·obtain⟨_,F',C,vs',Q',χ,R,rs,h,_⟩:=h;rw[rs.length,(hO _ _ _ _ h).1]
 ·obtain⟨rfl,F',C,vs',Q',χ,R,rs,h,q⟩:=h;obtain⟨hl,h⟩:=hO _ _ _ _ h;obtain⟨t,p,sm⟩:=hb cdv A outer s H hr;refine⟨t,p,sm F' H C _ _ _ _ R (J7.start rs N _ (by rw[rs.length,hl])) h ⟨λσ τ H' C' R' t' _ h'=>q .non .non H' C' R' t' T3 h',q,λ_ _ _ _ _ _ _ z=>z.elim,λ_ _ _ _ _ _ _ z=>z.elim⟩⟩
def Ez (P:Calls):Prop:=∀i vs C Q χ,¬P i vs C Q χ
def Y3 {pr:List Df}:Ez (J8 pr 0):=λ_ _ _ _ _ z=>z
def Ym {pr:List Df}{M:Nat}:Ez (λj=>J8 pr 0 (j+M)):=λ_ _ _ _ _ z=>z
def Rj {vs:List V}{H:Hp}{Q:VK}{E:XK}(z:Ez P)(h:K6 K P i vs H Q E):False:=by
 obtain⟨_,_,_,_,_,_,_,h,_⟩:=h;exact z _ _ _ _ _ h
def v0 (z:Ez P)(L:Ld K mg x st ps):Ca Pg w K mg base n x ps (K6 K P i):=by
 obtain⟨f,fd,F,B,M⟩:=L;exact⟨f,fd,⟨λvs H Q E h=>(Rj z h).elim,λA outer s H args us vs Q E _ _ _ _ h=>(Rj z h).elim⟩,B,F.kp,M⟩
def x0 (z:Ez P)(L:Ld K mg x st ps):Ip Pg w K mg base n x ps (Dl K P E1 i):=by
 obtain⟨f,fd,F,B,M⟩:=L;exact⟨f,fd,⟨λvs H Q E h=>(Rj z h.2).elim,λA outer s H args us vs Q E _ _ _ _ h=>(Rj z h.2).elim⟩,B,F.kp,M⟩
end
def ir {P:WO}{w:WN}{K:WY}{mg:Str->Option WQ}{base:WU}{CX:Mg}{k:Nat}{x:Str}{ps:List Str}{sp:Sp}(C:iE P w K mg base CX k x ps sp):∃f,mg x=some (.ref f)/\W.keepIn K (.ref f)=true:=by
 obtain⟨f,_,_,_,kp,m⟩:=C.ex;exact⟨f,m,kp⟩
def uu {X:Cx}{pr:List Df}{k:Nat}{fn:Str}{ps:List Str}{hs:List ExceptHandler}:∀q∈([]:List (Nat×WS)),mh X pr k fn ps hs q:=λ_ h=>nomatch h
def Hx {X:Cx}{pr:List Df}{k:Nat}{fn:Str}{ps:List Str}{hs:List ExceptHandler}{q:Nat×WS}{as:List (Nat×WS)}(h:mh X pr k fn ps hs q)(r:∀q∈as,mh X pr k fn ps hs q):∀q'∈q::as,mh X pr k fn ps hs q':=λq' m=>by
 rcases BD.mp m with rfl | m
 ·exact h
 ·exact r q' m
end WL
namespace L2
open PySem PySem.Spec PyProof.Rows PySem.W Builtin Builtin.ObjectAttr Builtin.Getset_descriptor
structure eG (K:Frag)(C:Addr):Prop where
 ga:findIn K (.ref C) "__getattribute__"=some (some (.builtin "BaseException.__getattribute__"))
 hk:findIn K (.ref C) "__getattr__"=some none
 at_:findIn K (.ref C) "__class__"=some (some (.builtin "object.__class__"))
 gt:specialIn K (.builtin "object.__class__") "__get__"=some (some (.builtin "getset_descriptor.__get__"))
 tk:takesIn K (.builtin "object.__class__")=some true
 ob:mroIn K C (.type "object")=some true
 be:mroIn K C (.type "BaseException")=some true
def eG.cl {K:Frag}{C:WP}(F:eG K C):(clsIn K C).isSome=true:=by
 obtain⟨cd,a,_⟩:=Option.bind_eq_some_iff.mp F.ob;rw[a];rfl
section
variable {prog:WO}{w:WN}{A:WM}{E:WQ->WR->Prop}{K:Frag}{h:WU}{g:Array GenState}{d:Drawn}{t:Nat}{os:OsState}{x C:WP}{o:Obj}
def cZ (x C:WP)(h:WU):Prop:=∃o,h.get? x=some o/\o.cls=.ref C
end
section
variable {X:Cx}{WZ:List (WP×Obj)}{σ:St}{H:Hp}{s s':WR}{ea:WP}{cls:WQ}
def Y2.there {P:WO}{w:WN}{h:WU}{a:WP}{o:HO}(x:Y2 P w H h a o):∃u,h.get? a=some u:=by
 cases o with
 | lst xs=>obtain⟨_,_,_,_,e⟩:=x;exact⟨_,e⟩
 | tup xs=>obtain⟨_,_,_,ob,e,_⟩:=x;exact⟨_,e⟩
 | dK kvs=>obtain⟨_,_,_,_,o,_,_,e,_⟩:=x;exact⟨_,e⟩
 | dT kvs=>obtain⟨_,_,_,_,o,_,_,e,_⟩:=x;exact⟨_,e⟩
 | set S n=>obtain⟨o,_,_,_,e,_⟩:=x;exact⟨_,e⟩
 | ins C dx fs=>obtain⟨_,_,_,e,_⟩:=x;exact⟨_,e⟩
 | own y=>exact x
 | xd fs=>obtain⟨_,⟨_,_,_,e,_⟩,_⟩:=x;exact⟨_,e⟩
 | rng lo hi=>obtain⟨_,_,_,e⟩:=x;exact⟨_,e⟩
 | frz ob u=>exact⟨_,x.1⟩
 | tbl ps=>exact⟨_,(show h.get? a=some _ from x)⟩
 | met f y=>exact⟨_,(show h.get? a=some _ from x)⟩
 | ext φ=>exact x.2.1
def cO (i:Nat)(Cl:WP)(t:TS):TS:=λD σ H=>∀ea ob,H ea=none->ob.cls=.ref Cl->t {nx:=λ_ _=>False,rt:=D.rt,bk:=λ_ _=>False,ct:=λ_ _=>False} (σ.set i (some (.ref ea))) (Yo H ea (.frz ob (.own ea)))
end
end L2
namespace WL
open PySem PySem.Spec PyProof.Rows L2
section
variable {X:Cx}{c:WW}{a b:List WV}{wt:WT}{wa wb:WS}{pos:Pos}
end
def cm (tab:List (Str×Bool))(a:WE):WE:=λτ C Q χ=>a τ C (λy C1=>∃p cn b,y=.ref p/\C1 p=some (.exc cn)/\tab.lookup cn=some b/\Q (.bl b) C1) χ
def dj (K:WY)(c:WQ)(tab:List (Str×Bool)):Prop:=∀cn b,tab.lookup cn=some b->∀Cl,W.nsIn K mainGlobals cn=some (some (.ref Cl))->eG K Cl/\W.kitOne K (.ref Cl) c=some b
def bu (K:WY)(mg:Str->Option WQ)(x:Str)(tab:List (Str×Bool)):Prop:=(∃D,mg x=some (.ref D)/\dj K (.ref D) tab)\/∃n,mg x=none/\bootBuiltins x=some (.type n)/\dj K (.type n) tab
section
variable {X:Cx}{a:WW}{wa:WE}{p pos:Pos}{tab:List (Str×Bool)}
end
def cQ (i:Nat)(cn:Str)(w:WS):WS:=λD τ C=>∀ea,C ea=none->w {nx:=λ_ _=>False,rt:=D.rt,bk:=λ_ _=>False,ct:=λ_ _=>False,xc:=D.xc} (τ.set i (some (.ref ea))) (up C ea (.exc cn))
section
variable {X:Cx}{x nm cn:Str}{c:WQ}{Cl:WP}{np pos:Pos}{suite:List WV}{b₀:WV}{Yp:List ExceptHandler}{wh:WS}{i:Nat}
end
def cM (x:T)(C:Hw)(n:String):Prop:=gf x C n\/∃a kvs,x=.ref a/\C a=some (.fdic kvs)/\n="dict"
section
variable {X:Cx}{a:WW}{wa:WE}{p pos:Pos}
end
section
variable {X:Cx}{st:WV}{e:WW}{wA:WA}{k i j:Nat}{pr:List Df}{P:Calls}
def sP (hP:J8 pr k=P)(h:rN X st (O8 (X5 (J8 pr k) i wA) (Ig j))):rN X st (O8 (X5 P i wA) (Ig j)):=hP▸h
end
def me (CX:Mg)(X:Cx)(k:Nat)(m:Str)(MT:WP->L2.Sp->Prop):Prop:=∀C sp,MT C sp->∃f fd ps,B3 X.K C/\jK X.K C m f/\X8 X.prog X.w X.K X.mg X.base CX k f fd ps sp/\J6 X.K fd ps []
section
variable {X:Cx}{CX:Mg}{k:Nat}{E:XK}{m:Str}{p pos apos:Pos}{e o:WW}{es:List WW}{ta:TE}{t:TA}{MT:WP->L2.Sp->Prop}
def w9 {pl:Sem Bool}(hx:Wj CX X E)(he:PE X o ta)(hM:me CX X k m MT)(hr:Y9 k X.A)(ha:PA X (e::es) t)
  (hst:starEach (e::es) X.env=(false,eval e X.env)::starEach es X.env:=by rfl) (hpl:(backTo pos (starEach es X.env)).any (·.1)=false:=by rfl)
  (ht:eval (.Call (.Attribute o m apos) (e::es) [] pos) X.env=(do
   let ov <-eval o X.env
   standAt apos.atName
   let (f,first) <-holding [ov] (getMethod ov m pl)
   callWith pos f first (backTo pos (starEach (e::es) X.env)) (backToKw pos (keywordEach [] X.env))):=by rfl):
  PE X (.Call (.Attribute o m apos) (e::es) [] pos) (xB MT m E ta t):=by
 intro WZ s σ H Q I h;refine W.methodCall_KW (pl:=pl) (Ja (he WZ s σ H _ I h) λu s1 ⟨x,H1,I1,rx,a,C,dx,fs,sp,ex,ea,hmt,l,q⟩=>?_) ht;subst ex;obtain rfl:u=Value.ref a:=rx;obtain⟨f,fd,ps,c,hm,F,hb⟩:=hM C sp hmt;refine Ki I1 ea c hm l ?_;refine FQ (first:=[.ref a]) (h₀:=X.base) I.ok.mod.kin hm.kp (Ja (ha pos WZ s1 σ H1 _ I1 q) λus s2 ⟨vs,H2,I2,r,q2⟩=>⟨I2.kIn,?_⟩) hst hpl;exact Ah (us:=.ref a::us) (vs:=.ref a::vs) (dvs:=[]) F hr hb .nil hx I2 (.cons FV r) (by rw[YK];exact q2)
def yY {pl:Sem Bool}(hx:Wj CX X E)(he:PE X o ta)(hM:me CX X k m MT)(hr:Y9 k X.A)
  (ht:eval (.Call (.Attribute o m apos) [] [] pos) X.env=(do
   let ov <-eval o X.env
   standAt apos.atName
   let (f,first) <-holding [ov] (getMethod ov m pl)
   callWith pos f first (backTo pos (starEach [] X.env)) (backToKw pos (keywordEach [] X.env))):=by rfl):
  PE X (.Call (.Attribute o m apos) [] [] pos) (xB MT m E ta xA):=by
 intro WZ s σ H Q I h;refine W.methodCall_KW (pl:=pl) (Ja (he WZ s σ H _ I h) λu s1 ⟨x,H1,I1,rx,a,C,dx,fs,sp,ex,ea,hmt,l,q⟩=>?_) ht;subst ex;obtain rfl:u=Value.ref a:=rx;obtain⟨f,fd,ps,c,hm,F,hb⟩:=hM C sp hmt;refine Ki I1 ea c hm l ?_;exact W.callWith_K0 (first:=[.ref a]) I1.kIn hm.kp (Ah (us:=[.ref a]) (vs:=[.ref a]) (dvs:=[]) F hr hb .nil hx I1 (.cons FV .nil) q)
end
def jO (CX:Mg)(P:WO)(w:WN)(K:WY)(mg:Str->Option WQ)(base:WU)(n:Nat)(cn m:Str)(ps:List Str)(sp:L2.Sp):Prop:=
 ∃Cl f fd,Ox K cn Cl/\B3 K Cl/\jK K Cl m f/\X8 P w K mg base CX n f fd ps sp/\J6 K fd ps []
def jL (CX:Mg)(P:WO)(w:WN)(K:WY)(mg:Str->Option WQ)(base:WU)(n:Nat)(m:Str)(sp:Nat->L2.Sp)(tb:List (Str×Nat)):Prop:=∀cn i,tb.lookup cn=some i->∃ps,jO CX P w K mg base n cn m ps (sp i)
section
variable {CX:Mg}{P:WO}{w:WN}{K:WY}{mg:Str->Option WQ}{base:WU}{n:Nat}{m:Str}{tb:List (Str×Nat)}{sp:Nat->L2.Sp}
def Zy:jL CX P w K mg base n m sp []:=λcn i h=>by simp at h
def Zp {cn:Str}{i:Nat}{ps:List Str}(h:jO CX P w K mg base n cn m ps (sp i))(r:jL CX P w K mg base n m sp tb):jL CX P w K mg base n m sp ((cn,i)::tb):=λc j e=>by
 by_cases q:c=cn
 ·have hb:(c==cn)=true:=beq_iff_eq.mpr q;simp only[List.lookup,hb] at e
  cases e;subst q;exact⟨ps,h⟩
 ·have hb:(c==cn)=false:=beq_eq_false_iff_ne.mpr q;simp only[List.lookup,hb] at e;exact r c j e
end
section
variable {X:Cx}{CX:Mg}{k:Nat}{m:Str}{p pos apos:Pos}{e o:WW}{es:List WW}{wo:WE}{wA:WA}{tb:List (Str×Nat)}{P:Calls}{E1:XK}{sp:Nat->L2.Sp}
def yd (T:jL CX X.prog X.w X.K X.mg X.base k m sp tb):me CX X k m (λC s=>∃cn i,Ox X.K cn C/\tb.lookup cn=some i/\s=sp i):=λC s h=>by
 obtain⟨cn,i,hc,hl,rfl⟩:=h;obtain⟨ps,Cl,f,fd,h1,h2,h3,h4,h5⟩:=T cn i hl;have ee:some (some (Value.ref Cl))=some (some (Value.ref C)):=h1.symm.trans hc
 cases ee
 exact⟨f,fd,ps,h2,h3,h4,h5⟩
def rR (K:WY)(E:XK)(P:Calls)(sp:Nat->L2.Sp):Prop:=∀i vs H Q,(∃(F:Hp) (C:Hw) (vs':List T) (Q':WK) (χ:WX),Rl K F H C/\Reps K H vs vs'/\P i vs' C Q' χ/\QE K F H Q Q')->sp i vs H Q E
def Yn {K:WY}{E:XK}:rR K E P (K6 K P):=λ_ _ _ _ h=>h
def Rm {K:WY}:rR K E1 P (Dl K P E1):=λ_ _ _ _ h=>⟨FV,h⟩
def Yb {pl:Sem Bool}(hx:Wj CX X E1)(hs:rR X.K E1 P sp)(T:jL CX X.prog X.w X.K X.mg X.base k m sp tb)(hr:Y9 k X.A)(ho:Jc X o wo)(ha:M3 X (e::es) wA)
  (hst:starEach (e::es) X.env=(false,eval e X.env)::starEach es X.env:=by rfl) (hpl:(backTo pos (starEach es X.env)).any (·.1)=false:=by rfl)
  (ht:eval (.Call (.Attribute o m apos) (e::es) [] pos) X.env=(do
   let ov <-eval o X.env
   standAt apos.atName
   let (f,first) <-holding [ov] (getMethod ov m pl)
   callWith pos f first (backTo pos (starEach (e::es) X.env)) (backToKw pos (keywordEach [] X.env))):=by rfl):
  Jc X (.Call (.Attribute o m apos) (e::es) [] pos) (Mf P tb m wo wA):=by
 obtain⟨to,p1,s1⟩:=ho;obtain⟨ta,p2,s2⟩:=ha;refine⟨_,w9 (pl:=pl) hx p1 (yd T) hr p2 hst hpl ht,λF H C σ τ Q Q' χ R S h q=>?_⟩;refine s1 F H C σ τ _ _ χ R S h λx v H1 C1 R1 t1 rx h1=>?_;obtain⟨a,cn,fs,i,rfl,hC,hl,hm,h1⟩:=h1
 cases Zu rx
 obtain⟨Cl,dx,ks,hc,hH,prr⟩:=R1.ins hC;refine⟨a,Cl,dx,ks,_,FV,hH,⟨cn,i,hc,hl,FV⟩,(Mm prr).2 hm,?_⟩;refine s2 F H1 C1 σ τ _ _ χ R1 (S.tx t1) h1 λxs vs H2 C2 R2 t2 rs h2=>?_;exact hs _ _ _ _ ⟨F,C2,.ref a::vs,Q',χ,R2,Yj Jd rs,h2,QE.at q (t1.trans t2)⟩
def Xs {pl:Sem Bool}(hx:Wj CX X E1)(hs:rR X.K E1 P sp)(T:jL CX X.prog X.w X.K X.mg X.base k m sp tb)(hr:Y9 k X.A)(ho:Jc X o wo)
  (ht:eval (.Call (.Attribute o m apos) [] [] pos) X.env=(do
   let ov <-eval o X.env
   standAt apos.atName
   let (f,first) <-holding [ov] (getMethod ov m pl)
   callWith pos f first (backTo pos (starEach [] X.env)) (backToKw pos (keywordEach [] X.env))):=by rfl):
  Jc X (.Call (.Attribute o m apos) [] [] pos) (Mf P tb m wo Zw):=by
 obtain⟨to,p1,s1⟩:=ho;refine⟨_,yY (pl:=pl) hx p1 (yd T) hr ht,λF H C σ τ Q Q' χ R S h q=>?_⟩;refine s1 F H C σ τ _ _ χ R S h λx v H1 C1 R1 t1 rx h1=>?_;obtain⟨a,cn,fs,i,rfl,hC,hl,hm,h1⟩:=h1
 cases Zu rx
 obtain⟨Cl,dx,ks,hc,hH,prr⟩:=R1.ins hC;refine⟨a,Cl,dx,ks,_,FV,hH,⟨cn,i,hc,hl,FV⟩,(Mm prr).2 hm,?_⟩;exact hs _ _ _ _ ⟨F,C1,[.ref a],Q',χ,R1,Yj Jd Yu,h1,QE.at q t1⟩
end
def h7 (P:WO)(w:WN)(K:WY)(mg:Str->Option WQ)(base:WU)(n:Nat)(Pc:Calls)(cn:Str)(i j:Nat):Prop:=
 ∃Cl f,Ox K cn Cl/\mg cn=some (.ref Cl)/\L2.Mk K Cl f/\(Ez Pc\/∃P' k fd ps,n=k+1/\X8 P w K mg base CX0 k f fd ps (K6 K P' i)/\J6 K fd ps []/\∀vs C Q χ,Pc j vs C Q χ->∀p,C p=none->P' i (.ref p::vs) (up C p (.ins cn [])) (λv C2=>v=.non/\Q (.ref p) C2) χ)
section
variable {X:Cx}{k i j:Nat}{cn:Str}{p pos:Pos}{e:WW}{es:List WW}{wA:WA}{P:Calls}
def sY (Cc:h7 X.prog X.w X.K X.mg X.base k P cn i j)(hr:Y9 k X.A)(hg:Gl X cn)
  (hdb:(cn==("__debug__":Str))=false:=by decide):Jc X (.Call (.Name cn p) [] [] pos) (X5 P j Zw):=by
 obtain⟨Cl,f,hc,hm,M,h0 | ⟨P',k',fd,ps,rfl,F,hb,hO⟩⟩:=Cc
 ·exact⟨λσ H Q=>False,λWZ s σ H Q I h=>h.elim,λF H C σ τ Q Q' χ R S h q=>(h0 _ _ _ _ _ h).elim⟩
 ·refine⟨_,wB (dvs:=[]) M F hr hg hm hb .nil Y0 hdb,λF' H C σ τ Q Q' χ R S h q=>?_⟩;show ∀x dx,H x=none->H dx=none->dx≠x->_;intro x dx hx hdx hne;have hCx:C x=none:=R.free hx;have R3:Rl X.K F' (Yo H dx (.own x)) C:=R.hid hdx;have hx3:Yo H dx (.own x) x=none:=by rw[Z1 hne.symm];exact hx
  have R4:Rl X.K F' (Yo (Yo H dx (.own x)) x (.ins Cl dx [])) (up C x (.ins cn [])):=R3.new hx3 (show Kx X.K (Yo (Yo H dx (.own x)) x (.ins Cl dx [])) x (.ins cn []) from⟨Cl,dx,[],hc,Z7,.nil⟩);have t4:Tx H (Yo (Yo H dx (.own x)) x (.ins Cl dx [])):=(Tx.new hdx).trans (Tx.new hx3);refine⟨F',_,[.ref x],_,χ,R4,Yj Jd Yu,hO _ _ _ _ h x hCx,?_⟩;intro y v H5 C5 R5 t5 ry h5;obtain⟨rfl,h5⟩:=h5;exact⟨O9 ry,q _ _ _ _ R5 (t4.trans t5) Jd h5⟩
end
section
variable {P:WO}{w:WN}{K:WY}{mg:Str->Option WQ}{base:WU}{n i j:Nat}{cn x q:Str}{Cl:WP}{st:WV}{ps:List Str}{sp:L2.Sp}{Pc:Calls}{E1:XK}{CX:Mg}
def Ia (z:Ez Pc)(k:Kl K mg cn Cl)(L:Lm K Cl x q st ps):jO CX0 P w K mg base n cn x ps (K6 K Pc i):=by
 obtain⟨f,fd,M,F,B⟩:=L;exact⟨Cl,f,fd,k.at_,k.cls,M,⟨λvs H Q E h=>(Rj z h).elim,λA outer s H args us vs Q E _ _ _ _ h=>(Rj z h).elim⟩,B⟩
def sx (z:Ez Pc)(k:Kl K mg cn Cl)(L:Lm K Cl x q st ps):jO (Nl P w) P w K mg base n cn x ps (Dl K Pc E1 i):=by
 obtain⟨f,fd,M,F,B⟩:=L;exact⟨Cl,f,fd,k.at_,k.cls,M,⟨λvs H Q E h=>(Rj z h.2).elim,λA outer s H args us vs Q E _ _ _ _ h=>(Rj z h.2).elim⟩,B⟩
def Of (k:Kl K mg cn Cl)(L:Lm K Cl x q st ps)(G:∀{f fd},Gd K x q st f fd->X8 P w K mg base CX n f fd ps sp):jO CX P w K mg base n cn x ps sp:=by
 obtain⟨f,fd,M,F,B⟩:=L;exact⟨Cl,f,fd,k.at_,k.cls,M,G F,B⟩
def kB (z:Ez Pc)(k:Kl K mg cn Cl)(mk:W.makesIn K Cl=true)(kc:W.keepIn K (.ref Cl)=true)(L:Lm K Cl "__init__" q st ps):h7 P w K mg base n Pc cn i j:=by
 obtain⟨f,fd,M,F,B⟩:=L;exact⟨Cl,f,k.at_,k.mg,⟨mk,M.at_,M.fn,kc⟩,.inl z⟩
def uc {P':Calls}(k:Kl K mg cn Cl)(mk:W.makesIn K Cl=true)(kc:W.keepIn K (.ref Cl)=true)(h:jO CX0 P w K mg base n cn "__init__" ps (K6 K P' i))
  (hO:∀vs C Q χ,Pc j vs C Q χ->∀p,C p=none->P' i (.ref p::vs) (up C p (.ins cn [])) (λv C2=>v=.non/\Q (.ref p) C2) χ):h7 P w K mg base (n+1) Pc cn i j:=by
 obtain⟨C2,f,fd,h1,h2,h3,h4,h5⟩:=h;have e:some (some (Value.ref C2))=some (some (Value.ref Cl)):=h1.symm.trans k.at_
 cases e
 exact⟨_,f,k.at_,k.mg,⟨mk,h3.at_,h3.fn,kc⟩,.inr ⟨P',n,fd,ps,FV,h4,h5,hO⟩⟩
end
def ot {pr:List Df}{n i j:Nat}{cn:Str}(h:pr[j]?=some ⟨0,0,xm cn i⟩):∀vs C Q χ,J8 pr (n+1) j vs C Q χ->∀p,C p=none->J8 pr n i (.ref p::vs) (up C p (.ins cn [])) (λv C2=>v=.non/\Q (.ref p) C2) χ:=λvs C Q χ z=>by
 obtain⟨d,e,hl,z⟩:=z;rw[h] at e;cases e;obtain⟨vs',ev,z⟩:=z;have evs:vs=vs':=by
  rw[show(0-0:Nat)=0 from FV,DY,YK] at ev;exact(List.map_inj_right λa b z=>by cases z;rfl).mp ev
 subst evs;exact z
def om {pr:List Df}{n i j M:Nat}{cn:Str}(h:pr[j+M]?=some ⟨0,0,λP=>xm cn i λl=>P (l+M)⟩):∀vs C Q χ,J8 pr (n+1) (j+M) vs C Q χ->∀p,C p=none->J8 pr n (i+M) (.ref p::vs) (up C p (.ins cn [])) (λv C2=>v=.non/\Q (.ref p) C2) χ:=λvs C Q χ z=>by
 obtain⟨d,e,hl,z⟩:=z;rw[h] at e;cases e;obtain⟨vs',ev,z⟩:=z;have evs:vs=vs':=by
  rw[show(0-0:Nat)=0 from FV,DY,YK] at ev;exact(List.map_inj_right λa b z=>by cases z;rfl).mp ev
 subst evs;exact z
end WL
namespace L2
open PySem PySem.Spec PyProof.Rows
def Hc (H H':Hp):Hp:=λb=>match H b with | some o=>some o | none=>H' b
def Wf {H H':Hp}{b:WP}{o:HO}(e:H b=some o):Hc H H' b=some o:=by unfold Hc;rw[e]
def T4 {H H':Hp}{b:WP}(e:H b=none):Hc H H' b=H' b:=by unfold Hc;rw[e]
def FB (H H':Hp):Prop:=∀b o,H' b=some o->H b=none\/∃ob v,o=.frz ob v/\rT v/\(H b=some v\/∃o',H b=some (.frz o' v))
section
variable {X:Cx}{WZ:List (WP×Obj)}{σ:St}{H:Hp}{s s':WR}
def Zl.backM {Q:VK}{u:WQ}(I:Zl X WZ σ H s)(h:CE X.stack X.prog X.w (freeze H s.heap) s Q u s'):∃v H',Z3 v u/\Q v H'/\FB H H'/\Zl X WZ σ (Hc H H') s':=by
 obtain⟨I2,-⟩:=I.backF h;obtain⟨v,H',os,bare,un,hok,r,q⟩:=h;have fb:FB H H':=λb o e=>by
  cases e1:H b with
  | none=>exact .inl FV
  | some o1=>
   refine .inr ?_
   cases z:freeze H s.heap b with
   | none=>
    obtain⟨u1,hu⟩:=(I.hok b o1 e1).there;have:=un.free b u1 hu z (by simp);rw[e] at this;cases this
   | some y=>
    obtain⟨ob,v,rfl,hv,hq⟩:=Qi z;have:=un.frzs b ob v z;rw[e] at this;cases this
    rcases hq with⟨hq,_⟩ | hq
    ·exact⟨ob,v,FV,hv,.inl (by rw[<-e1];exact hq)⟩
    ·exact⟨ob,v,FV,hv,.inr ⟨ob,by rw[<-e1];exact hq⟩⟩
 have gone:∀{b:WP},H b=none->(∃o,s.heap.get? b=some o)->H' b=none:=λhn ⟨o,ho⟩=>un.free _ o ho (Uy hn) (by simp);have hm:∀{b:WP},H b=none->(∃o,s.heap.get? b=some o)->Hc H H' b=none:=λhn ho=>by rw[T4 hn];exact gone hn ho
 refine⟨v,H',r,q,fb,⟨I2.ok,I2.os,I2.bare,⟨I2.base.keep,I2.base.slot,λb o e n hx=>?_,I2.base.there,λb xs e=>Wf (I2.base.tups b xs e),λb o u e=>Wf (I2.base.frzs b o u e),λb ps e=>?_⟩,I2.loc,I2.cell,?_,λx c e=>?_,λp hp=>?_,λb o e=>?_,I2.len⟩⟩
 ·exact hm (I2.base.free b o e n hx) (I.base.there b o e hx)
 ·obtain⟨more,h⟩:=I2.base.tbls b ps e;exact⟨more,Wf h⟩
 ·obtain⟨m,⟨o,_,_,ho,_⟩,_⟩:=I.loc;exact hm I.free ⟨o,ho⟩
 ·obtain⟨w',o,ho,_⟩:=I.cell x c e;exact hm (I.freeC x c e) ⟨o,ho⟩
 ·obtain⟨e,n,ne,nf,d⟩:=I2.pin p hp;exact⟨e,hm n ⟨_,(I.pin p hp).1⟩,ne,nf,d⟩
 ·cases q1:H b with
  | some o1=>
   rw[Wf q1] at e;cases e;exact(I2.hok b _ q1).stay (λ_ _ _ z=>z) (λ_ z=>Wf z) λ_ _ z=>Wf z
  | none=>
   rw[T4 q1] at e;refine(hok b o e).stay (λ_ _ _ z=>z) (λc z=>?_) λc xs z=>?_
   ·rcases fb c _ z with h | ⟨_,_,h,_⟩
    ·rw[T4 h];exact z
    ·cases h
   ·rcases fb c _ z with h | ⟨_,_,h,_⟩
    ·rw[T4 h];exact z
    ·cases h
def mG (P:WO)(w:WN)(sp:Sp)(ta:TA)(i:Nat)(th:WQ->TS):TS:=λD σ H=>ta σ H λvs H1=>∃E:XK,(∀h,Vy P w H1 h->sp vs (freeze H1 h) (λv H'=>FB H1 H'->D.nx (σ.set i (some v)) (Hc H1 H')) E)/\∀cls,(∃H',E cls none H')->th cls D σ H1
def wz {k L i:Nat}{f:WP}{sp:Sp}{fn y:Str}{p cpos apos pos pos':Pos}{e:WW}{es:List WW}{ta:TA}{th:WQ->TS}{h₀:ExceptHandler}{hs:List ExceptHandler}{outer:List Env}
  (hF:∀vs H Q E,sp vs H Q E->∃fd ps sp',uB X.prog X.w X.K X.mg X.base (Nl X.prog X.w) k f fd ps sp'/\J6 X.K fd ps []/\sp' vs H Q E) (hr:Y9 k X.A) (hg:Gl X fn) (hm:X.mg fn=some (.ref f)) (hk:W.keepIn X.K (.ref f)=true) (ha:fZ X.nox (e::es) ta)
  (hst:X.stack=X.env::outer) (hf:X.env.frame=some L) (hh:∀cls,HB X (h₀::hs) cls (th cls)) (hN:X.N.Nodup) (hi:X.N[i]?=some y) (hx:uK X.env.scope y) (hff:X.fn y=true\/X.env.scope.names.lookup y=some .local)
  (hsw:swapsWith (.Call (.Name fn p) (e::es) [] cpos) (some (.Name y pos')) apos.line X.env=pure false:=by rfl) (hdb:(fn==("__debug__":Str))=false:=by decide)
  (he:starEach (e::es) X.env=(false,eval e X.env)::starEach es X.env:=by rfl) (hpl:(backTo cpos (starEach es X.env)).any (·.1)=false:=by rfl):
  i5 X (.Try [.Assign [.Name y pos'] (.Call (.Name fn p) (e::es) [] cpos) apos] (h₀::hs) [] [] pos) (mG X.prog X.w sp ta i th):=by
 intro WZ s σ H D h1 I h;refine wpAny_Try_except ?_;refine wpAny_execs_cons (wpAny_Assign_Name ?_ hsw);refine wpAny_Call_Name_kw (Qg I hg hm ?_ hdb);refine FQ (h₀:=X.base) I.ok.mod.kin hk (Pq (Ja (xv h1 (ha cpos WZ s σ H _ h1 (I.wish _) h)) λus s1 ⟨k1,vs,H1,I1',r,q⟩=>?_)) he hpl;have I1:=I1'.unwish;refine⟨I1.kIn,?_⟩;obtain⟨E1,q1,q2⟩:=q;obtain⟨fd,ps,sp',F,hb,hsp⟩:=hF _ _ _ _ (q1 s1.heap I1.hok);have hl:us.length=ps.length:=by rw[<-r.length];exact F.len _ _ _ _ hsp
 refine wpAny_call (codeAny_mono (F.run X.A X.stack s1 (freeze H1 s1.heap) ⟨us,[]⟩ us vs _ E1 k1 hr I1.env0F (by simpa using hb s1 us I1.kIn (by simpa using hl)) r hsp) λrr s' hq=>?_)
 cases rr with
 | error ev=>
  obtain⟨ea,cls,H',rfl,hE,Fl⟩:=E6.of I1 hq;refine Fl.look hst hf I1.ok.frames λs3 F3=>?_;exact hh cls ea WZ s3 σ H1 D F3 (q2 cls ⟨_,hE⟩)
 | ok fl=>
  cases fl with
  | ret u=>
   obtain⟨v,H',rv,qv,fb,I2⟩:=I1.backM hq;exact Px (X:=X) I2 hN hi hx rv (λs3 I3=>wpAny_execs_nil (wpAny_execs_nil ⟨_,_,I3,qv fb⟩)) hff
  | next=>exact False.elim hq
  | brk=>exact False.elim hq
  | cont=>exact False.elim hq
end
end L2
namespace WL
open PySem PySem.Spec PyProof.Rows L2
def uY {K:WY}{H H':Hp}{a:WP}{ys:List V}(fb:FB H H')(h:Vx K H' a ys):Vx K (Hc H H') a ys:=by
 rcases h with h | h
 ·refine .inl ?_
  rcases h with h | ⟨o,h⟩
  ·rcases fb a _ h with z | ⟨_,_,z,_⟩
   ·exact .inl (by rw[T4 z];exact h)
   ·cases z
  ·rcases fb a _ h with z | ⟨ob,v,z,_,z2⟩
   ·exact .inr ⟨o,by rw[T4 z];exact h⟩
   ·cases z
    rcases z2 with z2 | ⟨o',z2⟩
    ·exact .inl (Wf z2)
    ·exact .inr ⟨o',Wf z2⟩
 ·exact .inr h
mutual
def zV {K:WY}{H H':Hp}(fb:FB H H'):∀{t:T} {k:Nat} {x:V},Z6 t k=true->Yx K H' x t->Yx K (Hc H H') x t
 | .non,_,_,_,r=>r
 | .bl _,_,_,_,r=>r
 | .int _,_,_,_,r=>r
 | .str _,_,_,_,r=>r
 | .ref _,k,_,f,_=>by unfold Z6 at f;cases f
 | .cl _,k,_,f,_=>by unfold Z6 at f;cases f
 | .tup ts,0,_,f,_=>by unfold Z6 at f;cases f
 | .tup ts,k+1,x,f,r=>by
  unfold Z6 at f;obtain⟨a,ys,e,sq,rs⟩:=(show ∃a ys,x=.ref a/\Vx K H' a ys/\Reps K H' ys ts from r);exact(show ∃a ys,x=.ref a/\Vx K (Hc H H') a ys/\Reps K (Hc H H') ys ts from⟨a,ys,e,uY fb sq,Lh fb f rs⟩)
def Lh {K:WY}{H H':Hp}(fb:FB H H'):∀{ts:List T} {k:Nat} {xs:List V},Zv ts k=true->Reps K H' xs ts->Reps K (Hc H H') xs ts
 | [],_,_,_,r=>r
 | t::ts,k,xs,f,r=>by
  unfold Zv at f;rw[CB] at f;obtain⟨y,z,e,r1,r2⟩:=(show ∃y z,xs=y::z/\Yx K H' y t/\Reps K H' z ts from r);exact(show ∃y z,xs=y::z/\Yx K (Hc H H') y t/\Reps K (Hc H H') z ts from⟨y,z,e,zV fb f.1 r1,Lh fb f.2 r2⟩)
end
section
variable {K:WY}{F H H':Hp}{C:Hw}
def Gj:Tx H (Hc H H'):=λb o e _=>Wf e
def xW (R:Rl K F H C):Rl K F (Hc H H') C where
 obj:=λa o e=>by
  obtain⟨u,q⟩:=(R.obj a o e).here;exact(R.obj a o e).stay Gj (by rw[Wf q,q])
 frm:=λa o e=>⟨Wf (R.frm a o e).1,(R.frm a o e).2⟩
def tD (R:Rl K F H C)(fb:FB H H'){a:WP}{ys:List V}{ts:List T}{k:Nat}(h:H' a=some (.lst ys))(f:Zv ts k=true)(rs:Reps K H' ys ts):C a=none/\Rl K F (Hc H H') (up C a (.lst ts)):=by
 have hn:H a=none:=by
  rcases fb a _ h with z | ⟨_,_,z,_⟩
  ·exact z
  ·cases z
 have hC:=R.free hn;have R2:=xW (H':=H') R;refine⟨hC,λb o e=>?_,λb o e=>?_⟩
 ·by_cases q:b=a
  ·subst q;rw[Ze] at e;cases e;exact(show ∃ys,Hc H H' b=some (.lst ys)/\Reps K (Hc H H') ys ts from⟨ys,by rw[T4 hn];exact h,Lh fb f rs⟩)
  ·rw[Zf q] at e;exact R2.obj b o e
 ·have z:=R2.frm b o e;have q:b≠a:=λw=>by
   have:=(R.frm b o e).1;rw[w,hn] at this;cases this
  rw[Zf q];exact z
end
def lB (P:Calls)(wA:WA)(i:Nat)(as:List (Nat×WS)):WS:=λD τ C=>wA τ C (λvs C1=>∃vs' C',Fzs C1 vs vs'/\eD C1 C'/\∃q∈as,
 P q.1 vs' C' (λv C2=>(∃k,Z6 v k=true/\D.nx (τ.set i (some v)) C1)\/∃a ts k,v=.ref a/\C2 a=some (.lst ts)/\Zv ts k=true/\∀p,C1 p=none->D.nx (τ.set i (some (.ref p))) (up C1 p (.lst ts))) (λ_ _=>False)/\q.2 D τ C1) D.xc
def vL {X:Cx}{k L i:Nat}{ps:List Str}{pr:List Df}{fn y:Str}{p cpos apos pos pos':Pos}{e:WW}{es:List WW}{wA:WA}{h₀:ExceptHandler}{hs:List ExceptHandler}{outer:List Env}{as:List (Nat×WS)}{P:Calls}(hP:J8 pr k=P)
  (hr:Y9 k X.A) (hg:Gl X fn) (hm:∃f,X.mg fn=some (.ref f)/\W.keepIn X.K (.ref f)=true) (ha:i4 X.nox (e::es) wA) (hA:∀q∈as,mh X pr k fn ps (h₀::hs) q) (hN:X.N.Nodup)
  (hst:X.stack=X.env::outer) (hf:X.env.frame=some L) (hi:X.N[i]?=some y:=by rfl) (hx:uK X.env.scope y:=by first | exact Or.inl FV | exact Or.inr FV) (hff:X.fn y=true\/X.env.scope.names.lookup y=some .local:=by first | exact .inl FV | exact .inr FV | assumption)
  (hsw:swapsWith (.Call (.Name fn p) (e::es) [] cpos) (some (.Name y pos')) apos.line X.env=pure false:=by rfl) (hdb:(fn==("__debug__":Str))=false:=by decide)
  (he:starEach (e::es) X.env=(false,eval e X.env)::starEach es X.env:=by rfl) (hpl:(backTo cpos (starEach es X.env)).any (·.1)=false:=by rfl):
  rO X (.Try [.Assign [.Name y pos'] (.Call (.Name fn p) (e::es) [] cpos) apos] (h₀::hs) [] [] pos) (lB P wA i as):=by
 subst hP;obtain⟨f,hm,hk⟩:=hm;obtain⟨ta,p1,s⟩:=ha;refine⟨_,wz (f:=f) (sp:=λvs H Q E=>∃fd ps sp',uB X.prog X.w X.K X.mg X.base (Nl X.prog X.w) k f fd ps sp'/\J6 X.K fd ps []/\sp' vs H Q E) (th:=λcls D σ H=>∃t,HB X (h₀::hs) cls t/\t D σ H) (λ_ _ _ _ z=>z) hr hg hm hk p1 hst hf (λcls ea WZ s' σ H D F z=>?_) hN hi hx hff hsw hdb he hpl,λF H C σ τ D D' R S h d=>?_⟩
 ·obtain⟨t,hb,q⟩:=z;exact hb ea WZ s' σ H D F q
 ·refine s F H C σ τ _ _ D'.xc R S h λxs vs H1 C1 R1 t1 rs h1=>?_;obtain⟨vs',C',f1,f2,q,hq,h2,h3⟩:=h1;obtain⟨E1,Cc,hE⟩:=hA q hq;obtain⟨f',fd,G,B,kp,m⟩:=Cc.ex;rw[hm] at m;cases m;refine⟨E1,λhp ok=>⟨fd,ps,_,G,B,FV,λ_=>none,C',vs',_,_,kL R1 ok f2,Oh R1 ok f1 rs,h2,λy v H' C'' R' t' ry z fb=>?_⟩,λcls hE'=>?_⟩
  ·have S1:J7 X.K (Hc H1 H') σ τ:=(S.tx t1).tx Gj
   rcases z with⟨kk,fl,z⟩ | ⟨a,ts,kk,rfl,hC,fl,z⟩
   ·exact d.nx _ _ _ _ (xW R1) (t1.trans Gj) (S1.set (zV fb fl ry)) z
   ·cases Zu ry
    obtain⟨ys,hy,ry⟩:=R'.lst hC;obtain⟨hn,R2⟩:=tD R1 fb hy fl ry;exact d.nx _ _ _ _ R2 (t1.trans Gj) (S1.set Jd) (z a hn)
  ·obtain⟨H',hE'⟩:=hE';obtain⟨th,hb,sm⟩:=hE cls H' hE';exact⟨th,hb,sm F H1 C1 σ τ D D' R1 (S.tx t1) h3 (d.at t1)⟩
def lZ {X:Cx}:Wj (Nl X.prog X.w) X (λ_ _ _=>False):=λ_ _ _ _ _ _ _ h=>by
 obtain⟨_,_,_,_,_,_,hE,_⟩:=h;exact hE.elim
end WL
namespace L2
open PySem PySem.Spec PyProof.Rows
def rS (lo c:Int)(n:Nat):It:=⟨λi _=>i<n,λi H x H'=>H'=H/\x=.int (lo+i*c),λi _=>n<=i⟩
def De {P:WO}{w:WN}{K:WY}{tg:WW}(it:WP)(lo c:Int)(n:Nat):Bo P w K tg (rS lo c n) [it] it (λi h=>IsRangeIter h it (lo+(i:Nat)*c) ((n:Int)-(i:Nat)) c) where
 mem:=by simp
 obj:=λi h st b hb=>by
  have e:b=it:=by simpa using hb
  subst e;exact⟨_,st,λv z=>by
   have z':Data.fields _=Data.cell v:=z
   cases z'⟩
 keep:=λi h h' st k=>k it (by simp) _ st
 item:=by
  intro X hP hw hK hc i WZ s σ H E I hf st hg;subst hP hw hK;obtain⟨f0,f1,f2,f3,f4,f5⟩:=hf it (by simp);have W:=Walks.range (prog:=X.prog) (w:=X.w) (I.ok.hd hc) it lo c n;refine W.item i s _ _ hg st λv h' tk hv st' kk=>?_;obtain⟨t,rfl⟩:=hv;have I1:Zl X WZ σ H {s with heap:=h',toks:=tk}:=I.turned (λb o hb e=>kk b o (by simpa using hb) e) f0 f1 f3 f4 f5;exact⟨_,FV,Ct (s:={s with heap:=h',toks:=tk}) (n:="range_iterator") st' FV FV (by decide) ⟨.int (lo+i*c),H,I1,⟨t,FV⟩,⟨FV,FV⟩,st',λb hb=>(hf b hb).1⟩⟩
 done:=by
  intro X hP hw hK hc i WZ s σ H E I hf st hg;subst hP hw hK;obtain⟨f0,f1,f2,f3,f4,f5⟩:=hf it (by simp);exact wpAny_pyNext_range_end (I.ok.hd hc) st (by have:n<=i:=hg;omega) λh' eb=>⟨FV,I.turned (t':=s.toks) (λb o hb e=>eb b o hb e) f0 f1 f3 f4 f5⟩
 self:=λ_ _ _ _ _ st h=>wpAny_pyIter_rangeiter st h
def eZ (lo hi c:Int):Nat:=if lo<hi then((hi-lo-1)/c+1).toNat else 0
section
variable {X:Cx}{tg:WW}
end
end L2
namespace WL
open PySem PySem.Spec PyProof.Rows L2
def yO (lo c:Int)(n:Nat):List T:=(List.range n).map λk:Nat=>T.int (lo+k*c)
def Oc {lo c:Int}{n:Nat}:(yO lo c n).length=n:=by unfold yO;simp
def zU {lo c:Int}{n i:Nat}(h:i<n):(yO lo c n)[i]?=some (.int (lo+i*c)):=by
 unfold yO;rw[XM,DX h];rfl
def sE {K:WY}{F H0:Hp}{lo c:Int}{n:Nat}:N3 K F H0 (rS lo c n) (yO lo c n) (λ_=>True):=λi H C R t ok=>by
 refine⟨λhi=>⟨by rw[Oc] at hi;exact hi,λx H' h=>?_⟩,λhi=>by rw[Oc] at hi;show n<=i;omega⟩;obtain⟨rfl,rfl⟩:=h;rw[Oc] at hi;exact⟨.int (lo+i*c),zU hi,R,Tx.refl _,Y6⟩
section
variable {X:Cx}{a b d tg:WW}{wA:WA}{p pos:Pos}
def wJ {K:WY}{H:Hp}{xs:List V}{u v w:T}(h:Reps K H xs [u,v,w]):∃x y z,xs=[x,y,z]/\Yx K H x u/\Yx K H y v/\Yx K H z w:=by
 have hl:=h.length
 match xs,hl with
 | [x,y,z],_=>
  obtain⟨a,ha,r1⟩:=h.get (i:=0) FV;obtain⟨b,hb,r2⟩:=h.get (i:=1) FV;obtain⟨c,hc,r3⟩:=h.get (i:=2) FV
  cases ha;cases hb;cases hc
  exact⟨_,_,_,FV,r1,r2,r3⟩
end
end WL
namespace L2
open PySem PySem.Spec PyProof.Rows
def qb {lo hi:Int}:Builtin.Range.rangeSize lo hi (-1)=((lo-hi).toNat:Int):=by
 unfold Builtin.Range.rangeSize;rw[XX (by decide),show(- -1:Int)=1 from FV,Int.ediv_one];by_cases h:lo>hi
 ·rw[XY h];omega
 ·rw[XX h];omega
def qU {a b:Int}(ha: -(2^61)<=a)(ha':a<2^61)(hb: -(2^61)<=b)(hb':b<2^61):Builtin.Range.small a b (-1)=true:=by
 unfold Builtin.Range.small;have hn:=qb (lo:=a) (hi:=b);simp only[Builtin.Range.rangeFitsLong,Bool.and_eq_true,Bool.or_eq_true,decide_eq_true_eq,beq_iff_eq,hn];refine⟨⟨⟨⟨⟨by omega,by omega⟩,by omega,by omega⟩,by omega,by omega⟩,by omega,by omega⟩,.inr ?_⟩;rw[XX (by decide),CB,decide_eq_true_eq,decide_eq_true_eq];exact⟨by omega,by omega⟩
section
variable {X:Cx}{tg:WW}
def yR {WZ:List (WP×Obj)}{σ:St}{H:Hp}{s:WR}{R:It->Hp->Prop}{E:WQ->WR->Prop}{lo hi:Int}{t u v:Tok}{tk:Nat}(I:Zl X WZ σ H s)(hs:Builtin.Range.small lo hi (-1)=true)
  (q:R (rS lo (-1) (lo-hi).toNat) H):wpAny (model X.prog X.w) X.A (pyIter (.ref s.heap.objs.size)) (i6 X WZ σ tg R) E {s with heap:=s.heap.push {cls:=.type "range",data:=.fields #[.int lo t,.int hi u,.int (-1) v]},toks:=tk}:=by
 refine wpAny_pyIter_range (IsRange.new ..) hs ?_;have I1:Zl X WZ σ H {s with heap:=s.heap.push {cls:=.type "range",data:=.fields #[.int lo t,.int hi u,.int (-1) v]},toks:=tk}:=I.kept λb o e=>XC _ e;refine⟨(s.heap.push {cls:=.type "range",data:=.fields #[.int lo t,.int hi u,.int (-1) v]}).objs.size,[(s.heap.push {cls:=.type "range",data:=.fields #[.int lo t,.int hi u,.int (-1) v]}).objs.size],_,_,H,FV,
  I1.kept (t':=tk) λb o e=>XC _ e,De _ lo (-1) (lo-hi).toNat,?_,λb hb=>?_,q⟩
 ·have e1:lo+((0:Nat):Int)*(-1)=lo:=by simp
  have e2:(((lo-hi).toNat:Nat):Int)-((0:Nat):Int)=Builtin.Range.rangeSize lo hi (-1):=by rw[qb];simp
  show IsRangeIter _ _ (lo+((0:Nat):Int)*(-1)) ((((lo-hi).toNat:Nat):Int)-((0:Nat):Int)) (-1);rw[e1,e2];exact XF _ FV
 ·have e:b=(s.heap.push {cls:=.type "range",data:=.fields #[.int lo t,.int hi u,.int (-1) v]}).objs.size:=by simpa using hb
  subst e;exact I1.fpOk (XE _) (I1.hok.fresh (XE _))
def kG (ta:TA):TI:=λσ H R=>ta σ H λvs H1=>∃i j:Int,vs=[.int i,.int j,.int (-1)]/\(-(2^61)<=i/\i<2^61/\ -(2^61)<=j/\j<2^61)/\R (rS i (-1) (i-j).toNat) H1
def yV {a b d:WW}{ta:TA}{p pos:Pos}(hg:Gl X "range")(hm:X.mg "range"=none)(ha:PA X [a,b,d] ta)(hs:starEach [a,b,d] X.env=[(false,eval a X.env),(false,eval b X.env),(false,eval d X.env)]:=by rfl)(hs2:starEach [b,d] X.env=[(false,eval b X.env),(false,eval d X.env)]:=by rfl):
  PI X tg (.Call (.Name "range" p) [a,b,d] [] pos) (kG ta):=by
 intro WZ s σ H R I h;refine Call_ (Vi I hg hm boot_range (BI (Ja (ha pos WZ s σ H _ I h) λus s1 ⟨vs,H1,I1,r1,q1⟩=>?_) (by rw[hs,hs2]) (by rw[hs2];rfl)));obtain⟨i,j,e,⟨q1,q2,q3,q4⟩,q⟩:=q1;subst e
 cases r1 with
 | cons r rr=>
  cases rr with
  | cons r' rr=>
   cases rr with
   | cons r'' rr=>
    cases rr
    obtain⟨t,rfl⟩:=r;obtain⟨t',rfl⟩:=r';obtain⟨t'',rfl⟩:=r'';exact call_range_3 (by decide) (yR I1 (qU q1 q2 q3 q4) q) (Or.inl (PyProof.noPylong_small (by omega)))
end
end L2
namespace WL
open PySem PySem.Spec PyProof.Rows L2
def dX (a:WA):WI:=λτ C R χ=>a τ C (λvs C1=>∃i j:Int,vs=[.int i,.int j,.int (-1)]/\(-(2^61)<=i/\i<2^61/\ -(2^61)<=j/\j<2^61)/\R (yO i (-1) (i-j).toNat) (λ_=>True) C1) χ
section
variable {X:Cx}{a b d tg:WW}{wA:WA}{p pos:Pos}
def kS (hg:Gl X "range")(hm:X.mg "range"=none)(ha:M3 X [a,b,d] wA)(hs:starEach [a,b,d] X.env=[(false,eval a X.env),(false,eval b X.env),(false,eval d X.env)]:=by rfl)(hs2:starEach [b,d] X.env=[(false,eval b X.env),(false,eval d X.env)]:=by rfl):
  q8 X tg (.Call (.Name "range" p) [a,b,d] [] pos) (dX wA):=by
 obtain⟨t,p1,s⟩:=ha;refine⟨_,yV hg hm p1 hs hs2,λF H C σ τ R R' χ Rr S h q=>?_⟩;refine s F H C σ τ _ _ χ Rr S h λxs vs H1 C1 R1 t1 rs h1=>?_;obtain⟨i,j,rfl,h2,h1⟩:=h1;obtain⟨x,y,z,rfl,rx,ry,rz⟩:=wJ rs
 cases Z4 rx;cases Z4 ry;cases Z4 rz
 exact⟨i,j,FV,h2,q _ H1 _ _ C1 R1 t1 (λ_=>sE) h1⟩
end
end WL
namespace K27
open PySem PySem.Spec PyProof.Rows L2 WL
def top (i:Nat):WV:=PySem.Challenge.pw_idlegraph_k27_deep_kinds.main.body.getD i (.Pass ⟨0,0,0,0⟩)
 abbrev FW:List Str:=["slots","term","slot","sort","own","body","given"]
 abbrev FX:List Str:=["_law_script","_law_cells_here","_law_end_here","_law_last","_law_back","_law_pairs_here","_law_kind","_law_inner","_law_term","_law_refused","_law_rows","_law_due"]
 abbrev FY:List Str:=["_law_way","_law_term","_law_kind","_law_at"]
 abbrev FZ:List Str:=["_law_cells_here","_law_k"]
 abbrev GA:List Str:=["_law_pairs_here","_law_turn","_law_body"]
 abbrev GB:List Str:=["_law_cells_here","_law_kind","_law_pairs_here","_law_end_here","_law_k","_law_term","_law_j"]
 abbrev GC:List Str:=["slots","shape","slot"]
 abbrev GD:List Str:=["slots","slot","ready","opened","begun","pile","here","form","within"]
 abbrev GF:List Str:=["self","slot"]
 abbrev GG:List Str:=["_law_kind","_law_numbers"]
 abbrev GH:List Str:=["_law_cells_here","_law_way","_law_back","_law_some","_law_kinds"]
 abbrev GI:List Str:=["slots","term","bound","slot","places","scope","asked","inner"]
 abbrev GJ:List Str:=["term"]
 abbrev GK:List Str:=["self","one","other","pile","pair","left","right"]
 abbrev GL:List Str:=["_law_script","_law_many_here","_law_cells_here"]
 abbrev GM:List Str:=["slots","slot","ready","opened"]
 abbrev GN:List Str:=["_law_script","_law_many_here"]
 abbrev GO:List Str:=["term","bound","found"]
 abbrev GP:List Str:=["shape","names","body"]
 abbrev GQ:List Str:=["slots","shape","slot","one","other","whole"]
 abbrev GR:List Str:=["slots","term","bound","slot"]
 abbrev GS:List Str:=["_law_cells_here","_law_kind"]
 abbrev GU:List Str:=["_law_kind","_law_many_here","_law_part"]
 abbrev GV:List Str:=["body","steps","bound","behind","step"]
 abbrev GW:List Str:=["slots","op","slot","outcome","number"]
 abbrev GX:List Str:=["slots","rows","ready","opened","slot"]
 abbrev GY:List Str:=["_law_cells_here","_law_k","_law_most"]
 abbrev GZ:List Str:=["term","bound","found","names","part"]
 abbrev HA:List Str:=["self","left","right","known","other"]
 abbrev HC:List Str:=["slots","term","rows","pile","place"]
 abbrev HD:List Str:=["slots","shape","slot","one","other"]
 abbrev HE:List Str:=["self","left","right"]
 abbrev HF:List Str:=["slots","term","slot"]
 abbrev HG:List Str:=["name","part","names"]
 abbrev HH:List Str:=["self"]
 abbrev HI:List Str:=["self","one","other"]
 abbrev HJ:List Str:=["slots","op","slot"]
 abbrev HK:List Str:=["pairs","body"]
 abbrev HL:List Str:=["body","steps"]
 abbrev HM:List Str:=["_law_script"]
 abbrev HN:List Str:=["_law_cells_here"]
 abbrev HQ:List Str:=["kind"]
structure Txt (w:World)(K:W.Frag)(mg:Str->Option Value):Prop where
 za2:mg "any"=none
 zav:mg "dict"=none
 zah:mg "len"=none
 zan:mg "list"=none
 zaf:mg "range"=none
 zam:mg "reversed"=none
 zaz:mg "sorted"=none
 za1:mg "str"=none
 za3:mg "sum"=none
 zad:mg "tuple"=none
 zap:mg "zip"=none
 zab:KF K "forms" "Slots"
 zaa:KF K "leads" "Slots"
structure qB (Pg:Program)(w:World)(K:W.Frag)(mg:Str->Option Value)(base:Heap)(n:Nat)(P:Calls)(E1:XK)(CN_NoKind:Addr):Prop where
 x_NoKind:iS K mg "NoKind" CN_NoKind
 e_NoKind:∀C' Q χ H,P 35 [] C' Q χ->E1 (.ref CN_NoKind) none H
 zao:Ca Pg w K mg base n "scopes" GJ (K6 K P 0)
 zau:Ca Pg w K mg base n "let_scopes" HK (K6 K P 1)
 zas:Ca Pg w K mg base n "rows_scopes" HL (K6 K P 2)
 za0:Ca Pg w K mg base n "free" GJ (K6 K P 3)
 zag:Ca Pg w K mg base n "gather_free" GO (K6 K P 4)
 k_Slots___init__:jO CX0 Pg w K mg base n "Slots" "__init__" HH (K6 K P 5)
 k_Slots_unknown:jO CX0 Pg w K mg base n "Slots" "unknown" HH (K6 K P 6)
 k_Slots_known:jO CX0 Pg w K mg base n "Slots" "known" ["self","form"] (K6 K P 7)
 k_Slots_shared:jO CX0 Pg w K mg base n "Slots" "shared" GF (K6 K P 8)
 k_Slots_form_of:jO CX0 Pg w K mg base n "Slots" "form_of" GF (K6 K P 9)
 k_Slots_make_alike:jO (Nl Pg w) Pg w K mg base n "Slots" "make_alike" HI (Dl K P E1 10)
 k_Slots_join_two:jO (Nl Pg w) Pg w K mg base n "Slots" "join_two" HE (Dl K P E1 11)
 k_paper:Ip Pg w K mg base n "paper" GJ (Dl K P E1 12)
 k_kind_of:Ip Pg w K mg base n "kind_of" GJ (Dl K P E1 13)
 k_rows_of:Ip Pg w K mg base n "rows_of" ["slots","term"] (Dl K P E1 14)
 k_places_within:Ip Pg w K mg base n "places_within" GR (Dl K P E1 15)
 k_part_slots:Ip Pg w K mg base n "part_slots" HF (Dl K P E1 16)
 k_does_slots:Ip Pg w K mg base n "does_slots" HJ (Dl K P E1 17)
 k_shape_slots:Ip Pg w K mg base n "shape_slots" GC (Dl K P E1 18)
 zar:Ca Pg w K mg base n "choose_slots" GC (K6 K P 19)
 k_told_kinds:Ip Pg w K mg base n "told_kinds" ["slots","rows"] (Dl K P E1 20)
 k_make_ready:Ip Pg w K mg base n "make_ready" GM (Dl K P E1 21)
 n_Slots:h7 Pg w K mg base n P "Slots" 5 34
structure Cs (Pg:Program)(w:World)(K:W.Frag)(mg:Str->Option Value)(base:Heap)(n:Nat)(pr:List Df)(CN_NoKind:Addr):Prop where
 n_NoKind:W.nsIn K mainGlobals "NoKind"=some (some (.ref CN_NoKind))
 h_NoKind_NoKind:∃c,mg "NoKind"=some c/\W.exmOne K (.ref CN_NoKind) c=some true
 za7:Ca Pg w K mg base n "scopes" GJ (spW K pr n 0)
 za5:Ca Pg w K mg base n "let_scopes" HK (spW K pr n 1)
 za8:Ca Pg w K mg base n "rows_scopes" HL (spW K pr n 2)
 za4:Ca Pg w K mg base n "free" GJ (spW K pr n 3)
 zba:Ca Pg w K mg base n "gather_free" GO (spW K pr n 4)
 t0_paper:Ip Pg w K mg base n "paper" GJ (qT K pr (λ_ _ _=>False) n 12)
 t1_paper:Ip Pg w K mg base n "paper" GJ (qT K pr (Er [(CN_NoKind,True)]) n 48)
 t0_kind_of:Ip Pg w K mg base n "kind_of" GJ (qT K pr (λ_ _ _=>False) n 13)
 za6:Ca Pg w K mg base n "choose_slots" GC (spW K pr n 19)
 zaq:Ca Pg w K mg base n "kinds_within" HQ (spW K pr n 22)
 zaw:Ca Pg w K mg base n "size" HQ (spW K pr n 23)
 zax:Ca Pg w K mg base n "_law_cells" GN (spW K pr n 24)
 zay:Ca Pg w K mg base n "_law_wrap" FY (spW K pr n 25)
 zac:Ca Pg w K mg base n "_law_name_of" FZ (spW K pr n 26)
 zai:Ca Pg w K mg base n "_law_many" FZ (spW K pr n 27)
 zak:Ca Pg w K mg base n "_law_end" HN (spW K pr n 28)
 zae:Ca Pg w K mg base n "_law_numbered" GG (spW K pr n 29)
 zaj:Ca Pg w K mg base n "_law_size" ["_law_kind"] (spW K pr n 30)
 zat:Ca Pg w K mg base n "_law_pairs" GS (spW K pr n 31)
 zal:Ca Pg w K mg base n "_law_let" GA (spW K pr n 32)
 za9:Ca Pg w K mg base n "law" HM (spW K pr n 33)
def Il (j:Nat)(st:WV)(N:List Str)(q:Str)(Wx:Calls->WS):Prop:=∀{Pg:WO} {w:WN} {K:WY} {mg:Str->Option WQ} {base:WU} {n:Nat} {P:Calls} {f:WP} {cdv:WQ} {A:WM} {outer:List Env} {s:WR} {H:Hp} {CN_NoKind:WP} {E1:XK},Txt w K mg->qB Pg w K mg base n P E1 CN_NoKind->
 Y9 n (A.deeper (envOfC q (Zg st) s.heap.objs.size f cdv))->Bs (Tg (Nl Pg w) Pg w K mg base N q (Zg st) f cdv A outer s H E1) ((Jh st).drop j) (Wx P)
def bi (j:Nat)(st:WV)(N:List Str)(q:Str)(Wx:Calls->WS):Prop:=∀{Pg:WO} {w:WN} {K:WY} {mg:Str->Option WQ} {base:WU} {n:Nat} {P:Calls} {f:WP} {cdv:WQ} {A:WM} {outer:List Env} {s:WR} {H:Hp} {CN_NoKind:WP} {E1:XK},Txt w K mg->qB Pg w K mg base n P E1 CN_NoKind->
 Y9 n (A.deeper (envOfC q (Zg st) s.heap.objs.size f cdv))->zF (Tg (Nl Pg w) Pg w K mg base N q (Zg st) f cdv A outer s H E1) ((Jh st).drop j) (Wx P)
def xf (j:Nat)(st:WV)(N:List Str)(q:Str)(Wx:Calls->WS):Prop:=∀{Pg:WO} {w:WN} {K:WY} {mg:Str->Option WQ} {base:WU} {n:Nat} {P:Calls} {f:WP} {cdv:WQ} {A:WM} {outer:List Env} {s:WR} {H:Hp} {CN_NoKind:WP} {E1 E:XK},Txt w K mg->qB Pg w K mg base n P E1 CN_NoKind->
 Y9 n (A.deeper (envOfC q (Zg st) s.heap.objs.size f cdv))->Bs (Tg CX0 Pg w K mg base N q (Zg st) f cdv A outer s H E).nox ((Jh st).drop j) (Wx P)
def bh (j:Nat)(st:WV)(N:List Str)(q:Str)(Wx:Calls->WS):Prop:=∀{Pg:WO} {w:WN} {K:WY} {mg:Str->Option WQ} {base:WU} {n:Nat} {P:Calls} {f:WP} {cdv:WQ} {A:WM} {outer:List Env} {s:WR} {H:Hp} {CN_NoKind:WP} {E1 E:XK},Txt w K mg->qB Pg w K mg base n P E1 CN_NoKind->
 Y9 n (A.deeper (envOfC q (Zg st) s.heap.objs.size f cdv))->zF (Tg CX0 Pg w K mg base N q (Zg st) f cdv A outer s H E).nox ((Jh st).drop j) (Wx P)
def SX (j:Nat)(st:WV)(N:List Str)(q:Str)(Wx:Calls->WS):Prop:=∀{Pg:WO} {w:WN} {K:WY} {mg:Str->Option WQ} {base:WU} {n:Nat} {P:Calls} {f:WP} {cdv:WQ} {A:WM} {outer:List Env} {s:WR} {H:Hp} {CN_NoKind:WP} {pr:List Df} {E:XK},J8 pr n=P->Txt w K mg->Cs Pg w K mg base n pr CN_NoKind->
 Y9 n (A.deeper (envOfC q (Zg st) s.heap.objs.size f cdv))->Bs (Tg CX0 Pg w K mg base N q (Zg st) f cdv A outer s H E).nox ((Jh st).drop j) (Wx P)
def bj (j:Nat)(st:WV)(N:List Str)(q:Str)(Wx:Calls->WS):Prop:=∀{Pg:WO} {w:WN} {K:WY} {mg:Str->Option WQ} {base:WU} {n:Nat} {P:Calls} {f:WP} {cdv:WQ} {A:WM} {outer:List Env} {s:WR} {H:Hp} {CN_NoKind:WP} {pr:List Df} {E:XK},J8 pr n=P->Txt w K mg->Cs Pg w K mg base n pr CN_NoKind->
 Y9 n (A.deeper (envOfC q (Zg st) s.heap.objs.size f cdv))->zF (Tg CX0 Pg w K mg base N q (Zg st) f cdv A outer s H E).nox ((Jh st).drop j) (Wx P)
local macro_rules | `(tactic| walk_at "sc") => `(tactic| exact ⟨rfl, rfl, rfl, by decide +kernel, rfl, by decide +kernel, by decide +kernel⟩)
abbrev O0:WV:=top 5
def O5:Zr ["term","sort"] GJ (Zg O0):=by walk_at "sc"
def Ov:{W//xf 0 O0 ["term","sort"] "scopes" W}:=⟨_,λT S hr=>by
  have nd:=O5.nd;have hu:=Je hr;exact(Zd (Zo (i:=1) nd (Ya (Zb 0) Zj))
   (Zd (Yh (Zq (Xa hu) (Zb 1) Zm) (Zi (Zn (Yl (Za (Zh (Za (Zh Zc) (Za (Ya (Zb 0) Zj) Zc))) (Za (Zh (Za (Zh Zc) (Za (Ya (Zb 0) Zj) Zc))) Zc))))) Zz)
   (Zd (Yh (j0 (Hn (Zq (Xa hu) (Zb 1) Zm) (Ef (Zq (Xa hu) (Zb 1) Zm)))) (Zi (Zn (Yl (Za (Zh (Za (Zh Zc) (Za (Ya (Zb 0) Zj) Zc))) (Za (Zh (Za (Zh Zc) (Za (Ya (Zb 0) Zj) Zc))) Zc))))) Zz)
   (Zd (Yh (Zq (Xa hu) (Zb 1) Zm) (Zi (Zn (Yl (Za (Zh (Za (Zh (Za (Ya (Zb 0) Zj) Zc)) (Za (Ya (Zb 0) Zj) Zc))) Zc)))) Zz)
   (Zd (Yh (Zq (Xa hu) (Zb 1) Zm) (Zi (Zn (U0 S.zau hr (by rfl) (Za (Ya (Zb 0) Zj) (Za (Ya (Zb 0) Zj) Zc))))) Zz)
   (Zd (Yh (Zq (Xa hu) (Zb 1) Zm) (Zi (Zn (Vk (cN:=["part"]) (cap:=[none]) (cl:=[]) (js:=[0]) (g:=(Xb 0)) ⟨FV,(λ_=>Eh FV (by decide+kernel) (by decide+kernel) FV (by decide)),(X2 (Ya (Zb 0) Zj)),(λ_ _ _=>Y7 (i:=0) (show(["part"]:List Str).Nodup by decide+kernel) FV (Or.inl FV)),Z5,Jf,Yv,by decide+kernel,λ_ _ _=>Xg,λ_ _ _=>(Zh (Za (Zh Zc) (Za (Zb 0) Zc))),λ_=>rfl⟩))) Zz)
   (Zd (Yh (Zq (Xa hu) (Zb 1) Zm) (Zi (Zn (Y5 X3 (Yl (Za (Zh (Za (Zh Zc) (Za (Ya (Zb 0) Zj) Zc))) Zc)) (Vk (cN:=GP) (cap:=[none,none,none]) (cl:=[]) (js:=([0]++([1]++([2]++[])))) (g:=(zg _ 3 (Rv (Xb 0) (Rv (Xb 1) (Rv (Xb 2) zh))))) ⟨FV,(λ_=>Eh FV (by decide+kernel) (by decide+kernel) FV (by decide)),(X2 (Ya (Zb 0) Zj)),(λ_ _ _=>G4 (n:=3) FV (W5 (Y7 (i:=0) (show(GP:List Str).Nodup by decide+kernel) FV (Or.inl FV)) (W5 (Y7 (i:=1) (show(GP:List Str).Nodup by decide+kernel) FV (Or.inl FV)) (W5 (Y7 (i:=2) (show(GP:List Str).Nodup by decide+kernel) FV (Or.inl FV)) Mn)))),(zc (Xw Z5 (Xw Z5 (Xw Z5 Td)))),(zd (T8 Jf Z5 (T8 Jf Z5 (T8 Jf Z5 ze Td) (Xw Z5 Td)) (Xw Z5 (Xw Z5 Td)))),(Gq (Ut Yv (Ut Yv (Ut Yv Gr))) (Yq (Yq (Yq Ru)))),by decide+kernel,λ_ _ _=>Xg,λ_ _ _=>(Zh (Za (Zb 1) (Za (Zb 2) Zc))),λ_=>rfl⟩)))) Zz)
   (Zd (Yh (Zq (Xa hu) (Zb 1) Zm) (Zi (Zn (U0 S.zas hr (by rfl) (Za (Ya (Zb 0) Zj) (Za (Ya (Zb 0) Zj) Zc))))) Zz)
   (Zi (Zn (Yl Zc)))))))))))⟩
abbrev U4:WV:=top 6
def Ta:Zr ["pairs","body","names"] HK (Zg U4):=by walk_at "sc"
def V2:{W//xf 0 U4 ["pairs","body","names"] "let_scopes" W}:=⟨_,λT S hr=>by
  have nd:=Ta.nd;exact(Zd (Zo (i:=2) nd (zt Op (by rfl) T.zad Rw (Za (Vk (cN:=["name","part"]) (cap:=[none,none]) (cl:=[]) (js:=([0]++([1]++[]))) (g:=(zg _ 2 (Rv (Xb 0) (Rv (Xb 1) zh)))) ⟨FV,(λ_=>Eh FV (by decide+kernel) (by decide+kernel) FV (by decide)),(X2 (Zb 0)),(λ_ _ _=>G4 (n:=2) FV (W5 (Y7 (i:=0) (show(["name","part"]:List Str).Nodup by decide+kernel) FV (Or.inl FV)) (W5 (Y7 (i:=1) (show(["name","part"]:List Str).Nodup by decide+kernel) FV (Or.inl FV)) Mn))),(zc (Xw Z5 (Xw Z5 Td))),(zd (T8 Jf Z5 (T8 Jf Z5 ze Td) (Xw Z5 Td))),(Gq (Ut Yv (Ut Yv Gr)) (Yq (Yq Ru))),by decide+kernel,λ_ _ _=>Xg,λ_ _ _=>(Zb 0),λ_=>rfl⟩) Zc)))
   (Zi (Zn (Y5 X3 (Vk (cN:=HG) (cap:=[none,none,some 2]) (cl:=(J4 _ _ [])) (js:=([0]++([1]++[]))) (g:=(zg _ 2 (Rv (Xb 0) (Rv (Xb 1) zh)))) ⟨FV,(λok=>Wz ok FV (by decide+kernel) (by decide+kernel) FV FV FV),(X2 (Zb 0)),(λ_ _ _=>G4 (n:=2) FV (W5 (Y7 (i:=0) (show(HG:List Str).Nodup by decide+kernel) FV (Or.inl FV)) (W5 (Y7 (i:=1) (show(HG:List Str).Nodup by decide+kernel) FV (Or.inl FV)) Mn))),(zc (Xw Z5 (Xw Z5 Td))),(zd (T8 Jf Z5 (T8 Jf Z5 ze Td) (Xw Z5 Td))),(Gq (Ut Yv (Ut Yv Gr)) (Yq (Yq Ru))),by decide+kernel,λ_ _ _=>Xg,λ_ _ _=>(Zh (Za (Zb 2) (Za (Zb 1) Zc))),λ_=>rfl⟩) (Yl (Za (Zh (Za (Zb 2) (Za (Zb 1) Zc))) Zc))))))⟩
abbrev Ub:WV:=top 7
def Rk:Zr GV HL (Zg Ub):=by walk_at "sc"
def Ti:{W//xf 0 Ub GV "rows_scopes" W}:=⟨_,λT S hr=>by
  exact vO⟩
abbrev Go:WV:=top 8
def Gs:Zr ["term","found"] GJ (Zg Go):=by walk_at "sc"
def E3:{W//xf 0 Go ["term","found"] "free" W}:=⟨_,λT S hr=>by
  have nd:=Gs.nd;exact(Zd (Zo (i:=1) nd On)
   (Zd (Yt (U0 S.zag hr (by rfl) (Za (Zb 0) (Za (Zh Zc) (Za (Zb 1) Zc)))))
   (Zi (Zn (Bd (r4 FV) (by rfl) T.zaz jC (Za (Zb 1) Zc))))))⟩
abbrev Uc:WV:=top 9
def Uf:Zr GZ GO (Zg Uc):=by walk_at "sc"
def W1:{W//xf 0 Uc GZ "gather_free" W}:=⟨_,λT S hr=>by
  have nd:=Uf.nd;have hu:=Je hr;exact(Zd (Yh (j0 (vG (Zq (Xa hu) (Ya (Zb 0) Zj) Zm) (yr (Zq (sj hu) (Ya (Zb 0) Zj) (Zb 1) (by rfl))))) (Zi (Tf vY (Mu hu (Zb 2) (Ya (Zb 0) Zj)))) Zz)
   (Zi (Pb PassesOwn.never FV (X2 (U0 S.zao hr (by rfl) (Za (Zb 0) Zc))) (Kp (n:=2) FV (Wg (Jj (i:=3) nd) (Wg (Jj (i:=4) nd) Kq)) (Yq (Yq Ru)))
   (Zi (Yt (U0 S.zag hr (by rfl) (Za (Zb 4) (Za (Y5 X3 (Zb 1) (Zb 3)) (Za (Zb 2) Zc)))))))))⟩
abbrev Wb:WV:=T7 (top 11) 0
def Uu:Zr HH HH (Zg Wb):=by walk_at "sc"
def Xj:{W//xf 0 Wb HH "Slots.__init__" W}:=⟨_,λT S hr=>by
  exact(Zd (vK (Jv T.zab X1) (Zb 0) (Yl Zc))
   (Zi (vK (Jv T.zaa X1) (Zb 0) (Yl Zc))))⟩
abbrev Wq:WV:=T7 (top 11) 1
def Tk:Zr HH HH (Zg Wq):=by walk_at "sc"
def Xz:{W//xf 0 Wq HH "Slots.unknown" W}:=⟨_,λT S hr=>by
  exact(Zi (Zn (Yb (pl:=_) Y0 Yn (Zp S.k_Slots_known Zy) hr (Zb 0) (Za yv Zc))))⟩
abbrev Ud:WV:=T7 (top 11) 2
def Ug:Zr ["self","form","slot"] ["self","form"] (Zg Ud):=by walk_at "sc"
def W4:{W//xf 0 Ud ["self","form","slot"] "Slots.known" W}:=⟨_,λT S hr=>by
  have nd:=Ug.nd;exact(Zd (Zo (i:=2) nd (Bd yz (by rfl) T.zah EH (Za (Tq (Jv T.zab X1) (Zb 0)) Zc)))
   (Zd (Yt (Ih XZ YB YA Xe Uj (Tq (Jv T.zab X1) (Zb 0)) (Za (Zb 1) Zc)))
   (Zd (Yt (Ih XZ YB YA Xe Uj (Tq (Jv T.zaa X1) (Zb 0)) (Za (Zb 2) Zc)))
   (Zi (Zn (Zb 2))))))⟩
abbrev Ve:WV:=T7 (top 11) 3
def Vg:Zr GF GF (Zg Ve):=by walk_at "sc"
def Wk:{W//xf 0 Ve GF "Slots.shared" W}:=⟨_,λT S hr=>by
  have nd:=Vg.nd;have hu:=Je hr;exact(Zd (Om PassesOwn.never (Zq (K8 hu) (Ya (Tq (Jv T.zaa X1) (Zb 0)) (Zb 1)) (Zb 1))
   (Zd (Tf (Ya (Tq (Jv T.zaa X1) (Zb 0)) (Ya (Tq (Jv T.zaa X1) (Zb 0)) (Zb 1))) (zr (Tq (Jv T.zaa X1) (Zb 0)) (Zb 1)))
   (Zi (Zo (i:=1) nd (Ya (Tq (Jv T.zaa X1) (Zb 0)) (Zb 1))))))
   (Zi (Zn (Zb 1))))⟩
abbrev Wr:WV:=T7 (top 11) 4
def Tl:Zr GF GF (Zg Wr):=by walk_at "sc"
def X0:{W//xf 0 Wr GF "Slots.form_of" W}:=⟨_,λT S hr=>by
  exact(Zi (Zn (Ya (Tq (Jv T.zab X1) (Zb 0)) (Yb (pl:=_) Y0 Yn (Zp S.k_Slots_shared Zy) hr (Zb 0) (Za (Zb 1) Zc)))))⟩
abbrev Xk:WV:=T7 (top 11) 5
def Xl:Zr GK HI (Zg Xk):=by walk_at "sc"
def Jx:{W//Il 0 Xk GK "Slots.make_alike" W}:=⟨_,λT S hr=>by
  have nd:=Xl.nd;have hu:=Je hr;exact(Zd (Zo (i:=3) nd (Yl (Za (Zh (Za (Zb 1) (Za (Zb 2) Zc))) Zc)))
   (Zi (Om PassesOwn.leaving (Zq (K8 hu) (Zb 3) (Yl Zc))
   (Zd (Zo (i:=4) nd (vT XZ EZ FA Xe wY (Zb 3)))
   (Zd (Zo (i:=5) nd (Yb (pl:=_) Y0 Yn (Zp S.k_Slots_shared Zy) hr (Zb 0) (Za (Ya (Zb 4) Zj) Zc)))
   (Zd (Zo (i:=6) nd (Yb (pl:=_) Y0 Yn (Zp S.k_Slots_shared Zy) hr (Zb 0) (Za (Ya (Zb 4) Zj) Zc)))
   (Zi (Yh (Zq (K8 hu) (Zb 5) (Zb 6)) (Zi (Yt (Ih XZ EF EG Xe Lr (Zb 3) (Za (Yb (pl:=_) (by first | exact Vo | exact passC FV FV) Rm (Zp S.k_Slots_join_two Zy) hr (Zb 0) (Za (Zb 5) (Za (Zb 6) Zc))) Zc)))) Zz))))))))⟩
abbrev Wa:WV:=T7 (top 11) 6
def Wc:Zr HA HE (Zg Wa):=by walk_at "sc"
def Xi:{W//Il 0 Wa HA "Slots.join_two" W}:=⟨_,λT S hr=>by
  have nd:=Wc.nd;have hu:=Je hr;exact(Zd (Zo (i:=3) nd (Ya (Tq (Jv T.zab X1) (Zb 0)) (Zb 1)))
   (Zd (Zo (i:=4) nd (Ya (Tq (Jv T.zab X1) (Zb 0)) (Zb 2)))
   (Zd (Yh (Zq wO (Zb 3) yv) (Zd (Tf (Zb 2) (zr (Tq (Jv T.zaa X1) (Zb 0)) (Zb 1)))
   (Zi (Zn (Yl Zc)))) Zz)
   (Zd (Tf (Zb 1) (zr (Tq (Jv T.zaa X1) (Zb 0)) (Zb 2)))
   (Zd (Yh (Zq wO (Zb 4) yv) (Zi (Zn (Yl Zc))) Zz)
   (Zd (Yh (Zq (K8 hu) (Ya (Zb 3) Zj) (Ya (Zb 4) Zj)) (Zi (Ng (i:=35) zk FV S.x_NoKind S.e_NoKind (by rfl) (Za (Y5 X3 (Y5 X3 (Y5 X3 Zm (Ya (Zb 3) Zj)) Zm) (Ya (Zb 4) Zj)) Zc))) Zz)
   (Zi (Zn (fB FV (by rfl) T.zan (by rfl) T.zap (Za (Kr (Zb 3) (Xx Zj) Xy) (Za (Kr (Zb 4) (Xx Zj) Xy) Zc)))))))))))⟩
abbrev La:WV:=top 12
def Le:Zr ["term","names","slots"] GJ (Zg La):=by walk_at "sc"
def M4:{W//Il 0 La ["term","names","slots"] "paper" W}:=⟨_,λT S hr=>by
  have nd:=Le.nd;have hu:=Je hr;exact(Zd (Zo (i:=1) nd (U0 S.za0 hr (by rfl) (Za (Zb 0) Zc)))
   (Zd (Yh (Zq (K8 hu) (Zb 1) (Yl Zc)) (Zi vJ) Zz)
   (Zd (Zo (i:=2) nd (sY S.n_Slots hr (by rfl)))
   (Zi (Zn (Uz (by first | exact Vo | exact passC FV FV) S.k_told_kinds hr (by rfl) (Za (Zb 2) (Za (Uz (by first | exact Vo | exact passC FV FV) S.k_rows_of hr (by rfl) (Za (Zb 2) (Za (Zb 0) Zc))) Zc))))))))⟩
abbrev Q5:WV:=top 13
def Lf:Zr GJ GJ (Zg Q5):=by walk_at "sc"
def Qm:{W//Il 0 Q5 GJ "kind_of" W}:=⟨_,λT S hr=>by
  exact(Zi (Zn (Ya (Uz (by first | exact Vo | exact passC FV FV) S.k_paper hr (by rfl) (Za (Zb 0) Zc)) Zj)))⟩
abbrev Q3:WV:=top 14
def Q6:Zr HC ["slots","term"] (Zg Q3):=by walk_at "sc"
def Ql:{W//Il 0 Q3 HC "rows_of" W}:=⟨_,λT S hr=>by
  have nd:=Q6.nd;have hu:=Je hr;exact(Zd (Zo (i:=2) nd (Yl Zc))
   (Zd (Zo (i:=3) nd (Yl (Za (Zh (Za (Zb 1) (Za On (Za (Xs (pl:=_) Y0 Yn (Zp S.k_Slots_unknown Zy) hr (Zb 0)) Zc)))) Zc)))
   (Zd (Om PassesOwn.leaving (Zq (K8 hu) (Zb 3) (Yl Zc))
   (Zd (Zo (i:=4) nd (vT XZ EZ FA Xe wY (Zb 3)))
   (Zd (Yt (Ih XZ YB YA Xe Uj (Zb 2) (Za (Ya (Zb 4) Zj) Zc)))
   (Zi (Yt (Ih XZ EF EG Xe Lr (Zb 3) (Za (vU rfl (by rfl) T.zan (by rfl) T.zam (Uz (by first | exact Vo | exact passC rfl rfl) S.k_places_within hr (by rfl) (Za (Zb 0) (Za (Ya (Zb 4) Zj) (Za (Ya (Zb 4) Zj) (Za (Ya (Zb 4) Zj) Zc)))))) Zc)))))))
   (Zi (Zn (Zb 2))))))⟩
abbrev Wo:WV:=top 15
def Ws:Zr GI GR (Zg Wo):=by walk_at "sc"
def J1:{W//Il 0 Wo GI "places_within" W}:=⟨_,λT S hr=>by
  have nd:=Ws.nd;have hu:=Je hr;exact(Zd (Yh (Zq (Xa hu) (Ya (Zb 1) Zj) Zm) (Zd (Yt (Yb (pl:=_) (by first | exact Vo | exact passC FV FV) Rm (Zp S.k_Slots_make_alike Zy) hr (Zb 0) (Za (Zb 3) (Za (zu hu (Zb 2) (Ya (Zb 1) Zj) (λ_ _=>rfl)) Zc))))
   (Zi (Zn (Yl Zc)))) Zz)
   (Zd (Zo (i:=4) nd (Yl Zc))
   (Zd (Pb PassesOwn.leaving FV (nu (by rfl) T.zap (Za (U0 S.zao hr (by rfl) (Za (Zb 1) Zc)) (Za (Uz (by first | exact Vo | exact passC FV FV) S.k_part_slots hr (by rfl) (Za (Zb 0) (Za (Zb 1) (Za (Zb 3) Zc)))) Zc))) (Kp (n:=2) FV (Wg (Jj (i:=5) nd) (Wg (Jj (i:=6) nd) Kq)) (Yq (Yq Ru)))
   (Zd (Zo (i:=7) nd (zt r6 (by rfl) T.zav rm (Za (Zb 2) Zc)))
   (Zd (Yt (nz (Zb 7) (fE FV (by rfl) T.zav (by rfl) T.zap (Za (Ya (Zb 5) Zj) (Za (Ya (Zb 6) Zj) Zc))) ⟨FV,FV,FV,FV⟩))
   (Zi (Yt (Ih XZ YB YA Xe Uj (Zb 4) (Za (Zh (Za (Ya (Zb 5) Zj) (Za (Zb 7) (Za (Ya (Zb 6) Zj) Zc)))) Zc)))))))
   (Zi (Zn (Zb 4))))))⟩
abbrev Z9:WV:=top 16
def J3:Zr FW HF (Zg Z9):=by walk_at "sc"
def Sy:{W//Il 10 Z9 FW "part_slots" W}:=⟨_,λT S hr=>by
  exact(Zi (Ng (i:=35) zk FV S.x_NoKind S.e_NoKind (by rfl) (Za (vV (yu (fD (Zb 3)) (yu Zm nt))) Zc)))⟩
def Sx:{W//Il 9 Z9 FW "part_slots" W}:=⟨_,λT S hr=>by
  have hu:=Je hr;exact(Zd (Yh (Zq (Xa hu) (Zb 3) Zm) (Zi (Zn (Yl Zc))) Zz)
   (Sy.2 T S hr))⟩
def Sv:{W//Il 8 Z9 FW "part_slots" W}:=⟨_,λT S hr=>by
  have hu:=Je hr;exact(Zd (Yh (Zq (Xa hu) (Zb 3) Zm) (Zi (Zn (Yl (Za (Zh (Za (Zh Zc) (Za (Xs (pl:=_) Y0 Yn (Zp S.k_Slots_unknown Zy) hr (Zb 0)) Zc))) (Za (Zh (Za (Zh Zc) (Za (Zb 2) Zc))) Zc))))) Zz)
   (Sx.2 T S hr))⟩
def Su:{W//Il 7 Z9 FW "part_slots" W}:=⟨_,λT S hr=>by
  have hu:=Je hr;exact(Zd (Yh (Zq (Xa hu) (Zb 3) Zm) (Zi (Zn (U0 S.zar hr (by rfl) (Za (Zb 0) (Za (Ya (Ya (Ya (Zb 1) Zj) Zj) Zj) (Za (Zb 2) Zc)))))) Zz)
   (Sv.2 T S hr))⟩
def Ss:{W//Il 6 Z9 FW "part_slots" W}:=⟨_,λT S hr=>by
  have hu:=Je hr;exact(Zd (Yh (Zq (Xa hu) (Zb 3) Zm) (Zi (Zn (Uz (by first | exact Vo | exact passC FV FV) S.k_shape_slots hr (by rfl) (Za (Zb 0) (Za (Ya (Zb 1) Zj) (Za (Zb 2) Zc)))))) Zz)
   (Su.2 T S hr))⟩
def Sr:{W//Il 5 Z9 FW "part_slots" W}:=⟨_,λT S hr=>by
  have nd:=J3.nd;have hu:=Je hr;exact(Zd (Yh (Zq (Xa hu) (Zb 3) Zm) (Zd (Zo (i:=4) nd (zt Op (by rfl) T.zad Rw (Za (Vk (cN:=["pair","slots"]) (cap:=[none,some 0]) (cl:=(J4 _ _ [])) (js:=[0]) (g:=(Xb 0)) ⟨FV,(λok=>Wz ok FV (by decide+kernel) (by decide+kernel) FV FV FV),(X2 (Ya (Zb 1) Zj)),(λ_ _ _=>Y7 (i:=0) (show(["pair","slots"]:List Str).Nodup by decide+kernel) FV (Or.inl FV)),Z5,Jf,Yv,by decide+kernel,λ_ _ _=>Xg,λ_ _ _=>(Xs (pl:=_) Y0 Yn (Zp S.k_Slots_unknown Zy) hr (Zb 1)),λ_=>rfl⟩) Zc)))
   (Zi (Zn (Y5 X3 (Vk (cN:=["one","own"]) (cap:=[none,some 4]) (cl:=(J4 _ _ [])) (js:=[0]) (g:=(Xb 0)) ⟨FV,(λok=>Wz ok FV (by decide+kernel) (by decide+kernel) FV FV FV),(X2 (Zb 4)),(λ_ _ _=>Y7 (i:=0) (show(["one","own"]:List Str).Nodup by decide+kernel) FV (Or.inl FV)),Z5,Jf,Yv,by decide+kernel,λ_ _ _=>Xg,λ_ _ _=>(Zh (Za (Zb 1) (Za (Zb 0) Zc))),λ_=>rfl⟩) (Yl (Za (Zh (Za (Zb 4) (Za (Zb 2) Zc))) Zc)))))) Zz)
   (Ss.2 T S hr))⟩
def Sq:{W//Il 4 Z9 FW "part_slots" W}:=⟨_,λT S hr=>by
  have nd:=J3.nd;have hu:=Je hr;exact(Zd (Yh (Zq (Xa hu) (Zb 3) Zm) (Zd (Zo (i:=6) nd (Xs (pl:=_) Y0 Yn (Zp S.k_Slots_unknown Zy) hr (Zb 0)))
   (Zi (Zn (Yl (Za (Zh (Za (Zh Zc) (Za (Yb (pl:=_) Y0 Yn (Zp S.k_Slots_known Zy) hr (Zb 0) (Za (Zh (Za Zm (Za (Zb 6) (Za (Zb 2) Zc)))) Zc)) Zc))) (Za (Zh (Za (Zh Zc) (Za (Zb 6) Zc))) Zc)))))) Zz)
   (Sr.2 T S hr))⟩
def So:{W//Il 3 Z9 FW "part_slots" W}:=⟨_,λT S hr=>by
  have nd:=J3.nd;have hu:=Je hr;exact(Zd (Yh (Zq (Xa hu) (Zb 3) Zm) (Zd (Zo (i:=4) nd (Xs (pl:=_) Y0 Yn (Zp S.k_Slots_unknown Zy) hr (Zb 0)))
   (Zd (Zo (i:=5) nd (Xs (pl:=_) Y0 Yn (Zp S.k_Slots_unknown Zy) hr (Zb 0)))
   (Zd (Yt (Yb (pl:=_) (by first | exact Vo | exact passC FV FV) Rm (Zp S.k_Slots_make_alike Zy) hr (Zb 0) (Za (Zb 2) (Za (Yb (pl:=_) Y0 Yn (Zp S.k_Slots_known Zy) hr (Zb 0) (Za (Zh (Za Zm (Za (Zb 4) (Za (Zb 5) Zc)))) Zc)) Zc))))
   (Zi (Zn (Yl (Za (Zh (Za (Zh (Za (Zb 4) Zc)) (Za (Zb 5) Zc))) Zc))))))) Zz)
   (Sq.2 T S hr))⟩
def Sn:{W//Il 2 Z9 FW "part_slots" W}:=⟨_,λT S hr=>by
  have hu:=Je hr;exact(Zd (Yh (Zq (Xa hu) (Zb 3) Zm) (Zi (Zn (Uz (by first | exact Vo | exact passC FV FV) S.k_does_slots hr (by rfl) (Za (Zb 0) (Za (Ya (Zb 1) Zj) (Za (Zb 2) Zc)))))) Zz)
   (So.2 T S hr))⟩
def V0:{W//Il 0 Z9 FW "part_slots" W}:=⟨_,λT S hr=>by
  have nd:=J3.nd;have hu:=Je hr;exact(Zd (Zo (i:=3) nd (Ya (Zb 1) Zj))
   (Zd (Yh (Zq (Xa hu) (Zb 3) Zm) (Zd (Yt (Yb (pl:=_) (by first | exact Vo | exact passC FV FV) Rm (Zp S.k_Slots_make_alike Zy) hr (Zb 0) (Za (Zb 2) (Za (Yb (pl:=_) Y0 Yn (Zp S.k_Slots_known Zy) hr (Zb 0) (Za (Zh (Za Zm Zc)) Zc)) Zc))))
   (Zi (Zn (Yl Zc)))) Zz)
   (Sn.2 T S hr)))⟩
abbrev U5:WV:=top 17
def Tb:Zr GW HJ (Zg U5):=by walk_at "sc"
def V3:{W//Il 0 U5 GW "does_slots" W}:=⟨_,λT S hr=>by
  have nd:=Tb.nd;have hu:=Je hr;exact(Zd (Zo (i:=3) nd (kZ (j0 (Hn (Zq (Xa hu) (Zb 1) Zm) (Ef (Zq (Xa hu) (Zb 1) Zm)))) Zm Zm))
   (Zd (Yt (Yb (pl:=_) (by first | exact Vo | exact passC FV FV) Rm (Zp S.k_Slots_make_alike Zy) hr (Zb 0) (Za (Zb 2) (Za (Yb (pl:=_) Y0 Yn (Zp S.k_Slots_known Zy) hr (Zb 0) (Za (Zh (Za (Zb 3) Zc)) Zc)) Zc))))
   (Zd (Zo (i:=4) nd (Yb (pl:=_) Y0 Yn (Zp S.k_Slots_known Zy) hr (Zb 0) (Za (Zh (Za Zm Zc)) Zc)))
   (Zi (Zn (Yl (Za (Zh (Za (Zh Zc) (Za (Zb 4) Zc))) (Za (Zh (Za (Zh Zc) (Za (Zb 4) Zc))) Zc))))))))⟩
abbrev Ua:WV:=top 18
def Ue:Zr HD GC (Zg Ua):=by walk_at "sc"
def Xt:{W//Il 0 Ua HD "shape_slots" W}:=⟨_,λT S hr=>by
  have nd:=Ue.nd;have hu:=Je hr;exact(Zd (Yh (j0 (Hn (Zq (Xa hu) (Zb 1) Zm) (Ef (Zq (Xa hu) (Zb 1) Zm)))) (Zd (Yt (Yb (pl:=_) (by first | exact Vo | exact passC FV FV) Rm (Zp S.k_Slots_make_alike Zy) hr (Zb 0) (Za (Zb 2) (Za (Yb (pl:=_) Y0 Yn (Zp S.k_Slots_known Zy) hr (Zb 0) (Za (Zh (Za Zm Zc)) Zc)) Zc))))
   (Zi (Zn (Yl Zc)))) Zz)
   (Zd (Zo (i:=3) nd (Xs (pl:=_) Y0 Yn (Zp S.k_Slots_unknown Zy) hr (Zb 0)))
   (Zd (Yh (Zq (Xa hu) (Zb 1) Zm) (Zd (Zo (i:=4) nd (Xs (pl:=_) Y0 Yn (Zp S.k_Slots_unknown Zy) hr (Zb 0)))
   (Zd (Yt (Yb (pl:=_) (by first | exact Vo | exact passC FV FV) Rm (Zp S.k_Slots_make_alike Zy) hr (Zb 0) (Za (Zb 2) (Za (Yb (pl:=_) Y0 Yn (Zp S.k_Slots_known Zy) hr (Zb 0) (Za (Zh (Za Zm (Za (Zb 3) (Za (Zb 4) Zc)))) Zc)) Zc))))
   (Zi (Zn (Yl (Za (Zh (Za (Zh Zc) (Za (Zb 3) Zc))) (Za (Zh (Za (Zh Zc) (Za (Zb 4) Zc))) Zc))))))) Zz)
   (Zd (Yt (Yb (pl:=_) (by first | exact Vo | exact passC FV FV) Rm (Zp S.k_Slots_make_alike Zy) hr (Zb 0) (Za (Zb 2) (Za (Yb (pl:=_) Y0 Yn (Zp S.k_Slots_known Zy) hr (Zb 0) (Za (Zh (Za Zm (Za (Zb 3) Zc))) Zc)) Zc))))
   (Zd (Yh (Zq (Xa hu) (Zb 1) Zm) (Zi (Zn (Yl Zc))) Zz)
   (Zi (Zn (Yl (Za (Zh (Za (Zh Zc) (Za (Zb 3) Zc))) (Za (Zh (Za (Zh Zc) (Za (Zb 2) Zc))) Zc))))))))))⟩
abbrev Vc:WV:=top 19
def Vf:Zr GQ GC (Zg Vc):=by walk_at "sc"
def Jq:{W//xf 0 Vc GQ "choose_slots" W}:=⟨_,λT S hr=>by
  have nd:=Vf.nd;have hu:=Je hr;exact(Zd (Yh (Zq (Xa hu) (Zb 1) Zm) (Zi (Zn (Yl (Za (Zh (Za (Zh Zc) (Za (Yb (pl:=_) Y0 Yn (Zp S.k_Slots_known Zy) hr (Zb 0) (Za (Zh (Za Zm Zc)) Zc)) Zc))) (Za (Zh (Za (Zh Zc) (Za (Zb 2) Zc))) (Za (Zh (Za (Zh Zc) (Za (Zb 2) Zc))) Zc)))))) Zz)
   (Zd (Zo (i:=3) nd (Xs (pl:=_) Y0 Yn (Zp S.k_Slots_unknown Zy) hr (Zb 0)))
   (Zd (Yh (Zq (Xa hu) (Zb 1) Zm) (Zd (Zo (i:=4) nd (Xs (pl:=_) Y0 Yn (Zp S.k_Slots_unknown Zy) hr (Zb 0)))
   (Zi (Zn (Yl (Za (Zh (Za (Zh Zc) (Za (Yb (pl:=_) Y0 Yn (Zp S.k_Slots_known Zy) hr (Zb 0) (Za (Zh (Za Zm (Za (Zb 3) (Za (Zb 4) Zc)))) Zc)) Zc))) (Za (Zh (Za (Zh (Za (Zb 3) (Za (Zb 4) Zc))) (Za (Zb 2) Zc))) Zc)))))) Zz)
   (Zd (Zo (i:=5) nd (Yb (pl:=_) Y0 Yn (Zp S.k_Slots_known Zy) hr (Zb 0) (Za (Zh (Za Zm (Za (Zb 3) Zc))) Zc)))
   (Zi (Zn (Yl (Za (Zh (Za (Zh Zc) (Za (Zb 5) Zc))) (Za (Zh (Za (Zh Zc) (Za (Zb 2) Zc))) (Za (Zh (Za (Zh (Za (Zb 3) (Za (Zb 5) Zc))) (Za (Zb 2) Zc))) Zc))))))))))⟩
abbrev U2:WV:=top 20
def U8:Zr GX ["slots","rows"] (Zg U2):=by walk_at "sc"
def Vz:{W//Il 0 U2 GX "told_kinds" W}:=⟨_,λT S hr=>by
  have nd:=U8.nd;have hu:=Je hr;exact(Zd (Zo (i:=2) nd On)
   (Zd (Zo (i:=3) nd (Yl Zc))
   (Zd (Pb PassesOwn.leaving FV (X2 (Zb 1)) (Jj (i:=4) nd)
   (Zi (Yt (Uz (by first | exact Vo | exact passC FV FV) S.k_make_ready hr (by rfl) (Za (Zb 0) (Za (Yb (pl:=_) Y0 Yn (Zp S.k_Slots_shared Zy) hr (Zb 0) (Za (Zb 4) Zc)) (Za (Zb 2) (Za (Zb 3) Zc))))))))
   (Zi (Zn (Vk (cN:=["slot","ready","slots"]) (cap:=[none,some 2,some 0]) (cl:=(J4 _ _ [])) (js:=[0]) (g:=(Xb 0)) ⟨FV,(λok=>Wz ok FV (by decide+kernel) (by decide+kernel) FV FV FV),(X2 (Zb 1)),(λ_ _ _=>Y7 (i:=0) (show(["slot","ready","slots"]:List Str).Nodup by decide+kernel) FV (Or.inl FV)),Z5,Jf,Yv,by decide+kernel,λ_ _ _=>Xg,λ_ _ _=>(zu hu (Zb 1) (Yb (pl:=_) Y0 Yn (Zp S.k_Slots_shared Zy) hr (Zb 2) (Za (Zb 0) Zc)) (λ_ _=>rfl)),λ_=>rfl⟩))))))⟩
abbrev U3:WV:=top 21
def U9:Zr GD GM (Zg U3):=by walk_at "sc"
def V1:{W//Il 0 U3 GD "make_ready" W}:=⟨_,λT S hr=>by
  have nd:=U9.nd;have hu:=Je hr;exact(Zd (Zo (i:=4) nd On)
   (Zd (Zo (i:=5) nd (Yl (Za (Zb 1) Zc)))
   (Zi (Om PassesOwn.leaving (Zq (K8 hu) (Zb 5) (Yl Zc))
   (Zd (Zo (i:=6) nd (vT XZ EZ FA Xe wY (Zb 5)))
   (Zd (Yh (Zq (wN hu) (Zb 6) (Zb 2) (by rfl)) (Zi Eg) Zz)
   (Zd (Zo (i:=7) nd (Yb (pl:=_) Y0 Yn (Zp S.k_Slots_form_of Zy) hr (Zb 0) (Za (Zb 6) Zc)))
   (Zd (Yh (Zq wO (Zb 7) yv) (Zd (Tf (Zh (Za Zm (Za (Bd yz (by rfl) T.zah EH (Za (Zb 3) Zc)) Zc))) (Mu hu (Zb 2) (Zb 6)))
   (Zd (Yt (Ih XZ YB YA Xe Uj (Zb 3) (Za (Zb 6) Zc)))
   (Zi Eg))) Zz)
   (Zd (zq (k:=8) (cN:=["part","slots"]) (cap:=[none,some 0]) (cl:=(J4 _ _ [])) (js:=[0]) (g:=(Xb 0)) nd FV FV FV ⟨FV,(λok=>Wz ok FV (by decide+kernel) (by decide+kernel) FV FV FV),(X2 (Kr (Zb 7) (Xx Zj) Xy)),(λ_ _ _=>Y7 (i:=0) (show(["part","slots"]:List Str).Nodup by decide+kernel) FV (Or.inl FV)),Z5,Jf,Yv,by decide+kernel,λ_ _ _=>Xg,λ_ _ _=>(Yb (pl:=_) Y0 Yn (Zp S.k_Slots_shared Zy) hr (Zb 1) (Za (Zb 0) Zc)),λ_=>rfl⟩)
   (Zd (Yh (Zq (wN hu) (Zb 6) (Zb 4) (by rfl)) (Zd (Tf (Y5 X3 (kW (Zb 7) Xy (Xx Zj)) (zt Op (by rfl) T.zad Rw (Za (Vk (cN:=["part","ready"]) (cap:=[none,some 2]) (cl:=(J4 _ _ [])) (js:=[0]) (g:=(Xb 0)) ⟨FV,(λok=>Wz ok FV (by decide+kernel) (by decide+kernel) FV FV FV),(X2 (Zb 8)),(λ_ _ _=>Y7 (i:=0) (show(["part","ready"]:List Str).Nodup by decide+kernel) FV (Or.inl FV)),Z5,Jf,Yv,by decide+kernel,λ_ _ _=>Xg,λ_ _ _=>(zu hu (Zb 1) (Zb 0) (λ_ _=>rfl)),λ_=>rfl⟩) Zc))) (Mu hu (Zb 2) (Zb 6)))
   (Zi Eg)) Zz)
   (Zd (Tf vY (Mu hu (Zb 4) (Zb 6)))
   (Zd (Yh (vH (Bd (ii FV) (by rfl) T.za2 nB (Za (Vk (cN:=["part","begun","ready"]) (cap:=[none,some 4,some 2]) (cl:=(J4 _ _ [])) (js:=[0]) (g:=(Xb 0)) ⟨FV,(λok=>Wz ok FV (by decide+kernel) (by decide+kernel) FV FV FV),(X2 (Zb 8)),(λ_ _ _=>Y7 (i:=0) (show(["part","begun","ready"]:List Str).Nodup by decide+kernel) FV (Or.inl FV)),Z5,Jf,Yv,by decide+kernel,λ_ _ _=>Xg,λ_ _ _=>(ib (vX (wN hu) (Zb 0) (Zb 1) (by rfl)) (kX (vX (wL hu) (Zb 0) (Zb 2) (by rfl)))),λ_=>rfl⟩) Zc))) (Zi (Ng (i:=35) zk FV S.x_NoKind S.e_NoKind (by rfl) (Za Zm Zc))) Zz)
   (Zd (Yt (Ih XZ YB YA Xe Uj (Zb 5) (Za (Zb 6) Zc)))
   (Zi (Yt (Ih XZ EF EG Xe Lr (Zb 5) (Za (vU FV (by rfl) T.zan (by rfl) T.zam (Zb 8)) Zc)))))))))))))))))⟩
abbrev Vb:WV:=top 23
def N8:Zr HQ HQ (Zg Vb):=by walk_at "sc"
def Up:{W//SX 0 Vb HQ "kinds_within" W}:=⟨_,λhP T S hr=>by
  have hu:=Je hr;exact(Zd (Yh (Zq (Xa hu) (Ya (Zb 0) Zj) Zm) (Zi (Zn (Zh Zc))) Zz)
   (Zi (Zn (Kr (Zb 0) (Xx Zj) Xy))))⟩
abbrev Gn:WV:=top 24
def zR:Zr ["kind","many","part"] HQ (Zg Gn):=by walk_at "sc"
def zI:{W//SX 0 Gn ["kind","many","part"] "size" W}:=⟨_,λhP T S hr=>by
  have nd:=zR.nd;exact(Zd (Zo (i:=1) nd Zj)
   (Zd (Pb PassesOwn.never FV (X2 (cP hP (Jw S.zaq hr (by rfl) (Za (Zb 0) Zc)))) (Jj (i:=2) nd)
   (Zi (Zo (i:=1) nd (Y5 X3 (Zb 1) (cP hP (Jw S.zaw hr (by rfl) (Za (Zb 2) Zc)))))))
   (Zi (Zn (Zb 1)))))⟩
abbrev U7:WV:=top 26
def Qs:Zr GL GN (Zg U7):=by walk_at "sc"
def Si:{W//SX 0 U7 GL "_law_cells" W}:=⟨_,λhP T S hr=>by
  have nd:=Qs.nd;exact(Zd (Zo (i:=2) nd (Kr (Zb 0) Xy (Xx (Zb 1))))
   (Zi (Zn (Y5 X3 (Zb 2) (Vk (cN:=["_law_k","_law_script"]) (cap:=[none,some 0]) (cl:=(J4 _ _ [])) (js:=[0]) (g:=(Xb 0)) ⟨FV,(λok=>Wz ok FV (by decide+kernel) (by decide+kernel) FV FV FV),(qu (by rfl) T.zaf (Za (Y5 kj (Zb 1) (Bd yz (by rfl) T.zah EH (Za (Zb 2) Zc))) Zc)),(λ_ _ _=>Y7 (i:=0) (show(["_law_k","_law_script"]:List Str).Nodup by decide+kernel) FV (Or.inl FV)),Z5,Jf,Yv,by decide+kernel,λ_ _ _=>Xg,λ_ _ _=>(Y5 Rn (Y5 yb (Y5 X3 (Y5 yb Zj (Y5 X3 (Zb 0) Zj)) (Bd yz (by rfl) T.zah EH (Za (Zb 1) Zc))) Zj) Zj),λ_=>rfl⟩)))))⟩
abbrev Tz:WV:=top 27
def Gu:Zr FY FY (Zg Tz):=by walk_at "sc"
def Rz:{W//SX 0 Tz FY "_law_wrap" W}:=⟨_,λhP T S hr=>by
  have hu:=Je hr;exact(Zd (Yh (Zq (Xa hu) (Zb 0) Zj) (Zi (Zn (Zh (Za (Zh (Za Zm (Za Zm (Za (Zh (Za (Zb 1) (Za (Zh (Za Zm (Za (Zb 3) Zc))) Zc))) Zc)))) (Za (Zh (Za Zm (Za (Zb 2) (Za (Zh (Za Zm Zc)) Zc)))) Zc))))) Zz)
   (Zd (Yh (Zq (Xa hu) (Zb 0) Zj) (Zi (Zn (Zh (Za (Zh (Za Zm (Za Zm (Za (Zh (Za (Zh (Za Zm (Za Zm (Za (Zh Zc) Zc)))) (Za (Zb 1) Zc))) Zc)))) (Za (Zh (Za Zm (Za (Zh (Za Zm Zc)) (Za (Zb 2) Zc)))) Zc))))) Zz)
   (Zd (Yh (Zq (Xa hu) (Zb 0) Zj) (Zi (Zn (Zh (Za (Zh (Za Zm (Za Zm (Za (Zh (Za (Zb 1) (Za (Zh (Za Zm (Za Zm (Za (Zh Zc) Zc)))) Zc))) Zc)))) (Za (Zh (Za Zm (Za (Zb 2) Zc))) Zc))))) Zz)
   (Zi (Zn (Zh (Za (Zh (Za Zm (Za Zm (Za (Zb 1) Zc)))) (Za (Zh (Za Zm (Za (Zh (Za Zm (Za (Zb 3) Zc))) (Za (Zb 2) Zc)))) Zc))))))))⟩
abbrev Vd:WV:=top 28
def N9:Zr FZ FZ (Zg Vd):=by walk_at "sc"
def Uq:{W//SX 0 Vd FZ "_law_name_of" W}:=⟨_,λhP T S hr=>by
  exact(Zi (Zn (Y5 X3 (Ya Zm (Y5 Rn (Y5 Lo (Ya (Zb 0) Zj) Zj) Zj)) (zt nF (by rfl) T.za1 nA (Za (Zb 1) Zc)))))⟩
abbrev T1:WV:=top 29
def Oa:Zr GY FZ (Zg T1):=by walk_at "sc"
def R9:{W//SX 0 T1 GY "_law_many" W}:=⟨_,λhP T S hr=>by
  have nd:=Oa.nd;have hu:=Je hr;exact(Zd (Zo (i:=2) nd Zj)
   (Zd (Yh (Zq (Xa hu) (Y5 Rn (Ya (Zb 0) Zj) Zj) Zj) (Zi (Zo (i:=2) nd Zj)) Zz)
   (Zi (Zn (Y5 Rn (Ya (Zb 0) (Zb 1)) (Zb 2))))))⟩
abbrev Ri:WV:=top 30
def Nm:Zr GH HN (Zg Ri):=by walk_at "sc"
def Pm:{W//SX 0 Ri GH "_law_end" W}:=⟨_,λhP T S hr=>by
  have nd:=Nm.nd;exact(Zd (Zo (i:=1) nd (Y5 Rn (Y5 Lo (Ya (Zb 0) Zj) Zj) Zj))
   (Zd (Yh (Zq kq (Zb 1) Zj) (Zd (Zo (i:=2) nd (Y5 X3 Zj (Y5 Rn (Y5 Lo (Ya (Zb 0) Zj) Zj) Zj)))
   (Zi (Zn (Zh (Za (Zh (Za Zm (Za (cP hP (Jw S.zac hr (by rfl) (Za (Zb 0) (Za (Zb 2) Zc)))) Zc))) (Za (Zh (Za Zm (Za (Y5 ya Zj Zj) Zc))) (Za (Zb 2) Zc))))))) Zz)
   (Zd (Zo (i:=3) nd (Yl (Za (Zh (Za Zm (Za (Y5 Rn (Ya (Zb 0) Zj) (Y5 ya Zj Zj)) Zc))) (Za (Zh (Za Zm (Za Zm (Za (Zh Zc) Zc)))) (Za (Zh (Za Zm (Za Zm (Za (Zh Zc) Zc)))) (Za (Zh (Za Zm (Za Zm Zc))) Zc))))))
   (Zd (Zo (i:=4) nd (Yl (Za (Zh (Za Zm Zc)) (Za (Zh (Za Zm Zc)) (Za (Zh (Za Zm (Za (Zh (Za Zm (Za (Y5 ya Zj Zj) Zc))) Zc))) (Za (Zh (Za Zm (Za (Y5 ya Zj Zj) Zc))) Zc))))))
   (Zi (Zn (Zh (Za (Ya (Zb 3) (Zb 1)) (Za (Ya (Zb 4) (Zb 1)) (Za Zj Zc))))))))))⟩
abbrev Wp:WV:=top 31
def O6:Zr GG GG (Zg Wp):=by walk_at "sc"
def Vm:{W//SX 0 Wp GG "_law_numbered" W}:=⟨_,λhP T S hr=>by
  have hu:=Je hr;exact(Zd (Yh (Zq (Xa hu) (Ya (Zb 0) Zj) Zm) (Zi (Zn (Zh (Za Zm (Za (ia (Zb 1) (Ya (Zb 0) Zj) (Bd nG (by rfl) T.zah EH (Za (Zb 1) Zc)) ⟨FV,FV,FV,FV⟩) Zc))))) Zz)
   (Zi (Zn (zt Op (by rfl) T.zad Rw (Za (Y5 X3 (Yl (Za (Ya (Zb 0) Zj) Zc)) (Vk (cN:=["_law_part","_law_numbers"]) (cap:=[none,some 1]) (cl:=(J4 _ _ [])) (js:=[0]) (g:=(Xb 0)) ⟨FV,(λok=>Wz ok FV (by decide+kernel) (by decide+kernel) FV FV FV),(X2 (Kr (Zb 0) (Xx Zj) Xy)),(λ_ _ _=>Y7 (i:=0) (show(["_law_part","_law_numbers"]:List Str).Nodup by decide+kernel) FV (Or.inl FV)),Z5,Jf,Yv,by decide+kernel,λ_ _ _=>Xg,λ_ _ _=>(cP hP (Jw S.zae hr (by rfl) (Za (Zb 0) (Za (Zb 1) Zc)))),λ_=>rfl⟩)) Zc)))))⟩
abbrev T0:WV:=top 32
def Pz:Zr GU ["_law_kind"] (Zg T0):=by walk_at "sc"
def R7:{W//SX 0 T0 GU "_law_size" W}:=⟨_,λhP T S hr=>by
  have nd:=Pz.nd;have hu:=Je hr;exact(Zd (Zo (i:=1) nd Zj)
   (Zd (Yh (Zq (K8 hu) (Ya (Zb 0) Zj) Zm) (Zi (Pb PassesOwn.never FV (X2 (Kr (Zb 0) (Xx Zj) Xy)) (Jj (i:=2) nd)
   (Zi (Zo (i:=1) nd (Y5 X3 (Zb 1) (cP hP (Jw S.zaj hr (by rfl) (Za (Zb 2) Zc)))))))) Zz)
   (Zi (Zn (Zb 1)))))⟩
abbrev U6:WV:=top 33
def Qr:Zr GB GS (Zg U6):=by walk_at "sc"
def Sh:{W//SX 0 U6 GB "_law_pairs" W}:=⟨_,λhP T S hr=>by
  have nd:=Qr.nd;have hu:=Je hr;exact(Zd (Zo (i:=2) nd (Yl Zc))
   (Zd (Zo (i:=3) nd (Ya (cP hP (Jw S.zak hr (by rfl) (Za (Zb 0) Zc))) Zj))
   (Zd (Pb PassesOwn.never FV (kS (by rfl) T.zaf (Za Zj (Za (vS Zj) (Za (vS Zj) Zc)))) (Jj (i:=4) nd)
   (Zd (Zo (i:=5) nd (Zh (Za Zm (Za (cP hP (Jw S.zac hr (by rfl) (Za (Zb 0) (Za (Y5 X3 (Zb 4) Zj) Zc)))) Zc))))
   (Zd (Yh (Zq (Xa hu) (Zb 4) Zj) (Zi (Zo (i:=5) nd (Zb 3))) Zz)
   (Zd (Yh (j0 (vG (Zq gO (Zb 4) Zj) (yr (Zq (Xa hu) (Y5 Rn (Y5 Lo (Ya (Zb 0) (Zb 4)) Zj) Zj) Zj)))) (Zd (Zo (i:=5) nd (Zh (Za Zm (Za Zm (Za (Zh (Za (Zb 5) (Za (Zb 5) Zc))) Zc)))))
   (Zi (Zo (i:=1) nd (Zh (Za Zm (Za (Zb 1) (Za (Zb 1) Zc))))))) Zz)
   (Zd (Pb PassesOwn.never FV (qu (by rfl) T.zaf (Za (cP hP (Jw S.zai hr (by rfl) (Za (Zb 0) (Za (Zb 4) Zc)))) Zc)) (Jj (i:=6) nd)
   (Zi (Tf (cP hP (Jw S.zay hr (by rfl) (Za (Y5 Rn (Y5 Lo (Y5 Lo (Ya (Zb 0) (Zb 4)) Zj) (Y5 X3 (Y5 yb Zj (Zb 6)) Zj)) Zj) (Za (Zb 5) (Za (Zb 1) (Za (Y5 X3 (Y5 yb Zj (Zb 4)) (Zb 6)) Zc)))))) (Kp (n:=2) FV (Wg (Jj (i:=5) nd) (Wg (Jj (i:=1) nd) Kq)) (Yq (Yq Ru))))))
   (Zi (Yt (Ih XZ YB YA Xe Uj (Zb 2) (Za (Zh (Za (cP hP (Jw S.zac hr (by rfl) (Za (Zb 0) (Za (Zb 4) Zc)))) (Za (Zb 5) Zc))) Zc)))))))))
   (Zi (Zn (Zh (Za (Zb 2) (Za (Zb 1) Zc))))))))⟩
abbrev Rh:WV:=top 34
def Dp:Zr GA GA (Zg Rh):=by walk_at "sc"
def Pj:{W//SX 0 Rh GA "_law_let" W}:=⟨_,λhP T S hr=>by
  exact(Zi (Zn (Zh (Za Zm (Za (zt Op (by rfl) T.zad Rw (Za (Y5 X3 (Kr (Zb 0) (Xx (Zb 1)) Xy) (Kr (Zb 0) Xy (Xx (Zb 1)))) Zc)) (Za (Zb 2) Zc))))))⟩
abbrev Q4:WV:=top 35
def Ac:Zr FX HM (Zg Q4):=by walk_at "sc"
def yD:{W//SX 0 Q4 FX "law" W}:=⟨_,λhP T S hr=>by
  have nd:=Ac.nd;have hu:=Je hr;exact(vN (sP hP (vI (j:=1) S.zax hr (by rfl) (vP (Zb 0) (sW Zc)) nd))
   (Xr (Ny.one (Tf (cP hP (Jw S.zak hr (by rfl) (Za (Zb 1) Zc))) (Kp (n:=3) FV (Wg (Jj (i:=2) nd) (Wg (Jj (i:=3) nd) (Wg (Jj (i:=4) nd) Kq))) (Yq (Yq (Yq Ru))))))
   (Xr (Ny.one (Tf (cP hP (Jw S.zat hr (by rfl) (Za (Zb 1) (Za (Zb 3) Zc)))) (Kp (n:=2) FV (Wg (Jj (i:=5) nd) (Wg (Jj (i:=6) nd) Kq)) (Yq (Yq Ru)))))
   (Xr (Ny.one (Zo (i:=7) nd (cP hP (Jw S.zal hr (by rfl) (Za (Kr (Zb 5) (Xx Zj) Xy) (Za (Y5 Rn (Ya (Zb 1) Zj) Zj) (Za (Zh (Za Zm (Za (cP hP (Jw S.zac hr (by rfl) (Za (Zb 1) (Za Zj Zc)))) Zc))) Zc)))))))
   (Xr (Ny.one (Zo (i:=8) nd (cP hP (Jw S.zal hr (by rfl) (Za (Kr (Zb 5) Xy (Xx Zj)) (Za (Y5 Rn (Y5 Lo (Ya (Zb 1) Zj) Zj) Zj) (Za (Zb 7) Zc)))))))
   (Xr (Ny.one (Zo (i:=9) nd vY))
   (Xr (Ny.one (Zo (i:=10) nd (Yl Zc)))
   (Xr (vL (i:=10) hP hr (by rfl) (ir (Ip.tk S.t0_paper)) (M3.one (Za (Zb 8) Zc)) (Hx (jF (wh:=λ_ _ _=>True) (Ip.tk S.t0_paper)) (Hx (rH (Ip.tk S.t1_paper) (nv (by rfl) (S.h_NoKind_NoKind).choose_spec.1 (S.h_NoKind_NoKind).choose_spec.2 (λ_=>(Zi (Zo (i:=9) nd vY))))) uu)) nd FV FV)
   (Xr (Ny.one (Yh (Zq kq (Bd (nE FV) (by rfl) T.za3 rj (Za (Vk (cN:=["_law_k","_law_cells_here"]) (cap:=[none,some 1]) (cl:=(J4 _ _ [])) (js:=[0]) (g:=(Xb 0)) ⟨FV,(λok=>Wz ok FV (by decide+kernel) (by decide+kernel) FV FV FV),(kU (by rfl) T.zaf (Za (Zb 4) (Za Zj Zc))),(λ_ _ _=>Y7 (i:=0) (show(["_law_k","_law_cells_here"]:List Str).Nodup by decide+kernel) FV (Or.inl FV)),Z5,Jf,Yv,by decide+kernel,λ_ _ _=>Xg,λ_ _ _=>(cP hP (Jw S.zai hr (by rfl) (Za (Zb 1) (Za (Zb 0) Zc)))),λ_=>rfl⟩) Zc)) Zj) (Zi (Zn (Zb 9))) Zz))
   (Xr (Ny.one (Zo (i:=11) nd (cP hP (Jw S.zae hr (by rfl) (Za (Zb 6) (Za On Zc))))))
   (Xr (Ny.one (Yh (j0 (Hn (vH (Zb 9)) (Hn (Zq (K8 hu) (Ya (Zb 10) Zj) (Zb 11)) (Hn (Zq (K8 hu) (Ya (Zb 10) (vS Zj)) (Zb 11)) (Ef (Zq (kn hu) (cP hP (Jw S.zaw hr (by rfl) (Za (Ya (Zb 10) Zj) Zc))) (cP hP (Jw S.zaj hr (by rfl) (Za (Zb 11) Zc))))))))) (Zi (Zn vY)) Zz))
   (sV (Ny.one (Zn (vX (kr hu) (cP hP (sZ lZ S.t0_kind_of hr (by rfl) (Za (Zb 8) Zc))) (Zb 11) (wS _))))))))))))))))⟩
def Pr:Calls->WS:=Ov.1
def Vu:Calls->WS:=V2.1
def U1:Calls->WS:=Ti.1
def Ge:Calls->WS:=E3.1
def Wv:Calls->WS:=W1.1
def Xd:Calls->WS:=Xj.1
def Xu:Calls->WS:=Xz.1
def Ww:Calls->WS:=W4.1
def X9:Calls->WS:=Wk.1
def Xv:Calls->WS:=X0.1
def Js:Calls->WS:=Jx.1
def Xc:Calls->WS:=Xi.1
def Mi:Calls->WS:=M4.1
def Qc:Calls->WS:=Qm.1
def Qb:Calls->WS:=Ql.1
def Jy:Calls->WS:=J1.1
def jX:Calls->WS:=Sy.1
def jW:Calls->WS:=Sx.1
def jV:Calls->WS:=Sv.1
def jU:Calls->WS:=Su.1
def jT:Calls->WS:=Ss.1
def jS:Calls->WS:=Sr.1
def jR:Calls->WS:=Sq.1
def jQ:Calls->WS:=So.1
def jP:Calls->WS:=Sn.1
def Vs:Calls->WS:=V0.1
def Vv:Calls->WS:=V3.1
def Xo:Calls->WS:=Xt.1
def Jl:Calls->WS:=Jq.1
def Vr:Calls->WS:=Vz.1
def Vt:Calls->WS:=V1.1
def V7:Calls->WS:=Up.1
def B5:Calls->WS:=zI.1
def Tv:Calls->WS:=Si.1
def Re:Calls->WS:=Rz.1
def V8:Calls->WS:=Uq.1
def Rg:Calls->WS:=R9.1
def Q1:Calls->WS:=Pm.1
def Va:Calls->WS:=Vm.1
def Rf:Calls->WS:=R7.1
def Tu:Calls->WS:=Sh.1
def Q0:Calls->WS:=Pj.1
def w_law:Calls->WS:=yD.1
abbrev vk:Nat:=0
abbrev Fs:Nat:=1
abbrev uF:Nat:=2
abbrev oO:Nat:=3
abbrev Ic:Nat:=4
abbrev jq:Nat:=5
abbrev Mc:Nat:=6
abbrev Ie:Nat:=7
abbrev Kh:Nat:=8
abbrev Md:Nat:=9
abbrev Q9:Nat:=10
abbrev Nd:Nat:=11
abbrev sI:Nat:=12
abbrev jp:Nat:=13
abbrev Hg:Nat:=14
abbrev Vj:Nat:=15
abbrev Fp:Nat:=16
abbrev Ft:Nat:=17
abbrev Qx:Nat:=18
abbrev Uk:Nat:=19
abbrev Og:Nat:=20
abbrev Fq:Nat:=21
abbrev Kf:Nat:=22
abbrev oN:Nat:=23
abbrev Fv:Nat:=24
abbrev Co:Nat:=25
abbrev Kg:Nat:=26
abbrev Cq:Nat:=27
abbrev zb:Nat:=28
abbrev Mb:Nat:=29
abbrev Cp:Nat:=30
abbrev Fu:Nat:=31
abbrev za:Nat:=32
abbrev kF:Nat:=33
abbrev Ck:Nat:=34
abbrev M:Nat:=36
abbrev iR:Nat:=35
def pr:List Df:=[⟨2,1,Pr⟩,⟨3,2,Vu⟩,⟨5,2,U1⟩,⟨2,1,Ge⟩,⟨5,3,Wv⟩,⟨1,1,Xd⟩,⟨1,1,Xu⟩,⟨3,2,Ww⟩,⟨2,2,X9⟩,⟨2,2,Xv⟩,⟨7,3,Js⟩,⟨5,3,Xc⟩,⟨3,1,Mi⟩,⟨1,1,Qc⟩,⟨5,2,Qb⟩,⟨8,4,Jy⟩,⟨7,3,Vs⟩,⟨5,3,Vv⟩,⟨5,3,Xo⟩,⟨6,3,Jl⟩,⟨5,2,Vr⟩,⟨9,4,Vt⟩,⟨1,1,V7⟩,⟨3,1,B5⟩,⟨3,2,Tv⟩,⟨4,4,Re⟩,⟨2,2,V8⟩,⟨3,2,Rg⟩,⟨5,1,Q1⟩,⟨2,2,Va⟩,⟨3,1,Rf⟩,⟨7,2,Tu⟩,⟨3,3,Q0⟩,⟨12,1,w_law⟩,⟨0,0,xm "Slots" 5⟩,⟨0,0,λ_ _ _ _=>False⟩,⟨2,1,λP=>Pr λj=>P (j+36)⟩,⟨3,2,λP=>Vu λj=>P (j+36)⟩,⟨5,2,λP=>U1 λj=>P (j+36)⟩,⟨2,1,λP=>Ge λj=>P (j+36)⟩,⟨5,3,λP=>Wv λj=>P (j+36)⟩,⟨1,1,λP=>Xd λj=>P (j+36)⟩,⟨1,1,λP=>Xu λj=>P (j+36)⟩,⟨3,2,λP=>Ww λj=>P (j+36)⟩,⟨2,2,λP=>X9 λj=>P (j+36)⟩,⟨2,2,λP=>Xv λj=>P (j+36)⟩,⟨7,3,λP=>Js λj=>P (j+36)⟩,⟨5,3,λP=>Xc λj=>P (j+36)⟩,⟨3,1,λP=>Mi λj=>P (j+36)⟩,⟨1,1,λP=>Qc λj=>P (j+36)⟩,⟨5,2,λP=>Qb λj=>P (j+36)⟩,⟨8,4,λP=>Jy λj=>P (j+36)⟩,⟨7,3,λP=>Vs λj=>P (j+36)⟩,⟨5,3,λP=>Vv λj=>P (j+36)⟩,⟨5,3,λP=>Xo λj=>P (j+36)⟩,⟨6,3,λP=>Jl λj=>P (j+36)⟩,⟨5,2,λP=>Vr λj=>P (j+36)⟩,⟨9,4,λP=>Vt λj=>P (j+36)⟩,⟨0,0,λ_ _ _ _=>False⟩,⟨0,0,λ_ _ _ _=>False⟩,⟨0,0,λ_ _ _ _=>False⟩,⟨0,0,λ_ _ _ _=>False⟩,⟨0,0,λ_ _ _ _=>False⟩,⟨0,0,λ_ _ _ _=>False⟩,⟨0,0,λ_ _ _ _=>False⟩,⟨0,0,λ_ _ _ _=>False⟩,⟨0,0,λ_ _ _ _=>False⟩,⟨0,0,λ_ _ _ _=>False⟩,⟨0,0,λ_ _ _ _=>False⟩,⟨0,0,λ_ _ _ _=>False⟩,⟨0,0,λP=>xm "Slots" 5 λj=>P (j+36)⟩,⟨0,0,λ_ _ _ _=>True⟩]
def ZUU (i a r:Nat)(w:Calls->WS):Prop:=∀{n:Nat}{vs:List T}{C:Hw}{Q:WK}{χ:WX},vs.length=a->w (J8 pr n) (ZUD Q χ) (vs.map some++List.replicate r none) C->J8 pr (n+1) i vs C Q χ
def M7:ZUU 22 1 0 V7:=λhl h=>⟨_,FV,hl,h⟩
def qJ:ZUU 23 1 2 B5:=λhl h=>⟨_,FV,hl,h⟩
def Gi:ZUU 24 2 1 Tv:=λhl h=>⟨_,FV,hl,h⟩
def Db:ZUU 25 4 0 Re:=λhl h=>⟨_,FV,hl,h⟩
def M8:ZUU 26 2 0 V8:=λhl h=>⟨_,FV,hl,h⟩
def Dd:ZUU 27 2 1 Rg:=λhl h=>⟨_,FV,hl,h⟩
def B8:ZUU 28 1 4 Q1:=λhl h=>⟨_,FV,hl,h⟩
def N7:ZUU 29 2 0 Va:=λhl h=>⟨_,FV,hl,h⟩
def Dc:ZUU 30 1 2 Rf:=λhl h=>⟨_,FV,hl,h⟩
def Gh:ZUU 31 2 5 Tu:=λhl h=>⟨_,FV,hl,h⟩
def B7:ZUU 32 3 0 Q0:=λhl h=>⟨_,FV,hl,h⟩
def mB:ZUU 33 1 11 w_law:=λhl h=>⟨_,FV,hl,h⟩
structure Rp (W:Nat->Calls)(r_NoKind:Prop):Prop where
 o_scopes:∀{n:Nat} {vs:List T} {C:Hw} {Q:WK} {χ:WX},vs.length=1->Pr (W n) (ZUD Q χ) (vs.map some++List.replicate 1 none) C->W (n+1) 0 vs C Q χ
 o_let_scopes:∀{n:Nat} {vs:List T} {C:Hw} {Q:WK} {χ:WX},vs.length=2->Vu (W n) (ZUD Q χ) (vs.map some++List.replicate 1 none) C->W (n+1) 1 vs C Q χ
 o_rows_scopes:∀{n:Nat} {vs:List T} {C:Hw} {Q:WK} {χ:WX},vs.length=2->U1 (W n) (ZUD Q χ) (vs.map some++List.replicate 3 none) C->W (n+1) 2 vs C Q χ
 o_free:∀{n:Nat} {vs:List T} {C:Hw} {Q:WK} {χ:WX},vs.length=1->Ge (W n) (ZUD Q χ) (vs.map some++List.replicate 1 none) C->W (n+1) 3 vs C Q χ
 o_gather_free:∀{n:Nat} {vs:List T} {C:Hw} {Q:WK} {χ:WX},vs.length=3->Wv (W n) (ZUD Q χ) (vs.map some++List.replicate 2 none) C->W (n+1) 4 vs C Q χ
 o_Slots___init__:∀{n:Nat} {vs:List T} {C:Hw} {Q:WK} {χ:WX},vs.length=1->Xd (W n) (ZUD Q χ) (vs.map some++List.replicate 0 none) C->W (n+1) 5 vs C Q χ
 o_Slots_unknown:∀{n:Nat} {vs:List T} {C:Hw} {Q:WK} {χ:WX},vs.length=1->Xu (W n) (ZUD Q χ) (vs.map some++List.replicate 0 none) C->W (n+1) 6 vs C Q χ
 o_Slots_known:∀{n:Nat} {vs:List T} {C:Hw} {Q:WK} {χ:WX},vs.length=2->Ww (W n) (ZUD Q χ) (vs.map some++List.replicate 1 none) C->W (n+1) 7 vs C Q χ
 o_Slots_shared:∀{n:Nat} {vs:List T} {C:Hw} {Q:WK} {χ:WX},vs.length=2->X9 (W n) (ZUD Q χ) (vs.map some++List.replicate 0 none) C->W (n+1) 8 vs C Q χ
 o_Slots_form_of:∀{n:Nat} {vs:List T} {C:Hw} {Q:WK} {χ:WX},vs.length=2->Xv (W n) (ZUD Q χ) (vs.map some++List.replicate 0 none) C->W (n+1) 9 vs C Q χ
 o_Slots_make_alike:∀{n:Nat} {vs:List T} {C:Hw} {Q:WK} {χ:WX},vs.length=3->Js (W n) (ZUD Q χ) (vs.map some++List.replicate 4 none) C->W (n+1) 10 vs C Q χ
 o_Slots_join_two:∀{n:Nat} {vs:List T} {C:Hw} {Q:WK} {χ:WX},vs.length=3->Xc (W n) (ZUD Q χ) (vs.map some++List.replicate 2 none) C->W (n+1) 11 vs C Q χ
 o_paper:∀{n:Nat} {vs:List T} {C:Hw} {Q:WK} {χ:WX},vs.length=1->Mi (W n) (ZUD Q χ) (vs.map some++List.replicate 2 none) C->W (n+1) 12 vs C Q χ
 o_kind_of:∀{n:Nat} {vs:List T} {C:Hw} {Q:WK} {χ:WX},vs.length=1->Qc (W n) (ZUD Q χ) (vs.map some++List.replicate 0 none) C->W (n+1) 13 vs C Q χ
 o_rows_of:∀{n:Nat} {vs:List T} {C:Hw} {Q:WK} {χ:WX},vs.length=2->Qb (W n) (ZUD Q χ) (vs.map some++List.replicate 3 none) C->W (n+1) 14 vs C Q χ
 o_places_within:∀{n:Nat} {vs:List T} {C:Hw} {Q:WK} {χ:WX},vs.length=4->Jy (W n) (ZUD Q χ) (vs.map some++List.replicate 4 none) C->W (n+1) 15 vs C Q χ
 o_part_slots:∀{n:Nat} {vs:List T} {C:Hw} {Q:WK} {χ:WX},vs.length=3->Vs (W n) (ZUD Q χ) (vs.map some++List.replicate 4 none) C->W (n+1) 16 vs C Q χ
 o_does_slots:∀{n:Nat} {vs:List T} {C:Hw} {Q:WK} {χ:WX},vs.length=3->Vv (W n) (ZUD Q χ) (vs.map some++List.replicate 2 none) C->W (n+1) 17 vs C Q χ
 o_shape_slots:∀{n:Nat} {vs:List T} {C:Hw} {Q:WK} {χ:WX},vs.length=3->Xo (W n) (ZUD Q χ) (vs.map some++List.replicate 2 none) C->W (n+1) 18 vs C Q χ
 o_choose_slots:∀{n:Nat} {vs:List T} {C:Hw} {Q:WK} {χ:WX},vs.length=3->Jl (W n) (ZUD Q χ) (vs.map some++List.replicate 3 none) C->W (n+1) 19 vs C Q χ
 o_told_kinds:∀{n:Nat} {vs:List T} {C:Hw} {Q:WK} {χ:WX},vs.length=2->Vr (W n) (ZUD Q χ) (vs.map some++List.replicate 3 none) C->W (n+1) 20 vs C Q χ
 o_make_ready:∀{n:Nat} {vs:List T} {C:Hw} {Q:WK} {χ:WX},vs.length=4->Vt (W n) (ZUD Q χ) (vs.map some++List.replicate 5 none) C->W (n+1) 21 vs C Q χ
 o_new_Slots:∀{n:Nat} {vs:List T} {C:Hw} {Q:WK} {χ:WX},vs.length=0->(∀p,C p=none->W n 5 (.ref p::vs) (up C p (.ins "Slots" [])) (λv C2=>v=.non/\Q (.ref p) C2) χ)->W (n+1) 34 vs C Q χ
 o_raise_NoKind:∀{n:Nat} {C:Hw} {Q:WK} {χ:WX},r_NoKind->W (n+1) 35 [] C Q χ
def eY:Rp (J8 pr) False:=⟨λhl h=>⟨_,FV,hl,h⟩,λhl h=>⟨_,FV,hl,h⟩,λhl h=>⟨_,FV,hl,h⟩,λhl h=>⟨_,FV,hl,h⟩,λhl h=>⟨_,FV,hl,h⟩,λhl h=>⟨_,FV,hl,h⟩,λhl h=>⟨_,FV,hl,h⟩,λhl h=>⟨_,FV,hl,h⟩,λhl h=>⟨_,FV,hl,h⟩,λhl h=>⟨_,FV,hl,h⟩,λhl h=>⟨_,FV,hl,h⟩,λhl h=>⟨_,FV,hl,h⟩,λhl h=>⟨_,FV,hl,h⟩,λhl h=>⟨_,FV,hl,h⟩,λhl h=>⟨_,FV,hl,h⟩,λhl h=>⟨_,FV,hl,h⟩,λhl h=>⟨_,FV,hl,h⟩,λhl h=>⟨_,FV,hl,h⟩,λhl h=>⟨_,FV,hl,h⟩,λhl h=>⟨_,FV,hl,h⟩,λhl h=>⟨_,FV,hl,h⟩,λhl h=>⟨_,FV,hl,h⟩,λ{n vs C Q χ} hl h=>⟨_,FV,hl,vs,(by show vs.map some++List.replicate 0 none=_;rw[DY,YK]),h⟩,λh=>h.elim⟩
def dM:Rp (λn j=>J8 pr n (j+36)) True:=⟨λhl h=>⟨_,FV,hl,h⟩,λhl h=>⟨_,FV,hl,h⟩,λhl h=>⟨_,FV,hl,h⟩,λhl h=>⟨_,FV,hl,h⟩,λhl h=>⟨_,FV,hl,h⟩,λhl h=>⟨_,FV,hl,h⟩,λhl h=>⟨_,FV,hl,h⟩,λhl h=>⟨_,FV,hl,h⟩,λhl h=>⟨_,FV,hl,h⟩,λhl h=>⟨_,FV,hl,h⟩,λhl h=>⟨_,FV,hl,h⟩,λhl h=>⟨_,FV,hl,h⟩,λhl h=>⟨_,FV,hl,h⟩,λhl h=>⟨_,FV,hl,h⟩,λhl h=>⟨_,FV,hl,h⟩,λhl h=>⟨_,FV,hl,h⟩,λhl h=>⟨_,FV,hl,h⟩,λhl h=>⟨_,FV,hl,h⟩,λhl h=>⟨_,FV,hl,h⟩,λhl h=>⟨_,FV,hl,h⟩,λhl h=>⟨_,FV,hl,h⟩,λhl h=>⟨_,FV,hl,h⟩,λ{n vs C Q χ} hl h=>⟨_,FV,hl,vs,(by show vs.map some++List.replicate 0 none=_;rw[DY,YK]),h⟩,λ_=>⟨_,FV,FV,trivial⟩⟩
section
variable {Pg:WO}{w:WN}{K:WY}{mg:Str->Option WQ}{base:WU}{f CN_NoKind:WP}{fd:VZ}{n i:Nat}{pr:List Df}{x q:Str}{N ps:List Str}{st:WV}{P P':Calls}{E1:XK}
def jc (D:{W//SX 0 st N q W})(T:Txt w K mg)(S:Cs Pg w K mg base n pr CN_NoKind)(sc:Zr N ps (Zg st))(hd:pr[i]?=some ⟨N.length,ps.length,D.1⟩)(F:Gd K x q st f fd):X8 Pg w K mg base CX0 (n+1) f fd ps (spW K pr (n+1) i):=oX F sc hd FV FV λ_ _ _ _ _ _ hr=>D.2 FV T S hr
def Ky (D:{W//Il 0 st N q W})(T:Txt w K mg)(S:qB Pg w K mg base n P E1 CN_NoKind)(sc:Zr N ps (Zg st))(hO:Gc P' P i N ps D.1)(F:Gd K x q st f fd):X8 Pg w K mg base (Nl Pg w) (n+1) f fd ps (Dl K P' E1 i):=oV hO F sc λ_ _ _ _ _ hr=>D.2 T S hr
def Ln (D:{W//xf 0 st N q W})(T:Txt w K mg)(S:qB Pg w K mg base n P E1 CN_NoKind)(sc:Zr N ps (Zg st))(hO:Gc P' P i N ps D.1)(F:Gd K x q st f fd):X8 Pg w K mg base CX0 (n+1) f fd ps (K6 K P' i):=oW hO F sc λ_ _ _ _ _ _ hr=>D.2 T S hr
end
def cY {C:List WQ->Prop}(h:C []):∀us:List WQ,us.length=0->C us
 | [],_=>h
def uh {C:List WQ->Prop}(h:∀a,C [a]):∀us:List WQ,us.length=1->C us
 | [a],_=>h a
def xb {C:List WQ->Prop}(h:∀a b,C [a,b]):∀us:List WQ,us.length=2->C us
 | [a,b],_=>h a b
def qw {C:List WQ->Prop}(h:∀a b c,C [a,b,c]):∀us:List WQ,us.length=3->C us
 | [a,b,c],_=>h a b c
def fH {C:List WQ->Prop}(h:∀a b c d,C [a,b,c,d]):∀us:List WQ,us.length=4->C us
 | [a,b,c,d],_=>h a b c d
def cW {C:List WQ->Prop}(h:∀a b c d e,C [a,b,c,d,e]):∀us:List WQ,us.length=5->C us
 | [a,b,c,d,e],_=>h a b c d e
def cV {C:List WQ->Prop}(h:∀a b c d e f,C [a,b,c,d,e,f]):∀us:List WQ,us.length=6->C us
 | [a,b,c,d,e,f],_=>h a b c d e f
def all_mk {l:W.OpenLaw}{w:WN}{K:WY}{h:WU}{mg:Str->Option WQ}{fa Ab CN_NoKind:WP}(X:K.In h)(G:h.Ns mainGlobals mg)(hfa:mg "law"=some (.ref fa))
  (aCN_NoKind:W.nsIn K mainGlobals "NoKind"=some (some (.ref CN_NoKind))) (xCN_NoKind:W.excIn K CN_NoKind [.type "ValueError",.type "Exception",.type "BaseException",.type "object"] "ValueError.__new__"=true)
  (h_NoKind_NoKind:∃c,W.nsIn K mainGlobals "NoKind"=some (some c)/\W.exmOne K (.ref CN_NoKind) c=some true)
  (Ad:W.nsIn K mainGlobals "Slots"=some (some (.ref Ab)))
  (Ag:W.plainGet K Ab Str.empty=true) (Ah:W.hasDictIn K Ab=true) (Ai:W.plainOver K Ab=true) (Aj:W.findIn K (.ref Ab) "__setattr__"=some (some (.builtin "object.__setattr__"))) (Ae:W.keepIn K (.ref Ab)=true)
  (Af:W.makesIn K Ab=true)
  (Al:W.findIn K (.ref Ab) "forms"=some none)
  (Am:W.findIn K (.ref Ab) "leads"=some none)
  (l0:Fg K "scopes" O0)
  (l1:Fg K "let_scopes" U4)
  (l2:Fg K "rows_scopes" Ub)
  (l3:Fg K "free" Go)
  (l4:Fg K "gather_free" Uc)
  (l5:Fh K Ab "__init__" "Slots.__init__" Wb)
  (l6:Fh K Ab "unknown" "Slots.unknown" Wq)
  (l7:Fh K Ab "known" "Slots.known" Ud)
  (l8:Fh K Ab "shared" "Slots.shared" Ve)
  (l9:Fh K Ab "form_of" "Slots.form_of" Wr)
  (A0:Fh K Ab "make_alike" "Slots.make_alike" Xk)
  (AA:Fh K Ab "join_two" "Slots.join_two" Wa)
  (AB:Fg K "paper" La)
  (AC:Fg K "kind_of" Q5)
  (AD:Fg K "rows_of" Q3)
  (AE:Fg K "places_within" Wo)
  (AF:Fg K "part_slots" Z9)
  (AG:Fg K "does_slots" U5)
  (AH:Fg K "shape_slots" Ua)
  (AI:Fg K "choose_slots" Vc)
  (AJ:Fg K "told_kinds" U2)
  (AK:Fg K "make_ready" U3)
  (AL:Fg K "kinds_within" Vb)
  (AM:Fg K "size" Gn)
  (AN:Fg K "_law_cells" U7)
  (AO:Fg K "_law_wrap" Tz)
  (AQ:Fg K "_law_name_of" Vd)
  (AR:Fg K "_law_many" T1)
  (AS:Fg K "_law_end" Ri)
  (AT:Fg K "_law_numbered" Wp)
  (AU:Fg K "_law_size" T0)
  (AV:Fg K "_law_pairs" U6)
  (AW:Fg K "_law_let" Rh)
  (Az:Fg K "law" Q4)
  (Au:W.nsIn K mainGlobals "any"=some none)
  (Ar:W.nsIn K mainGlobals "dict"=some none)
  (Av:W.nsIn K mainGlobals "len"=some none)
  (At:W.nsIn K mainGlobals "list"=some none)
  (Ap:W.nsIn K mainGlobals "range"=some none)
  (An:W.nsIn K mainGlobals "reversed"=some none)
  (Ao:W.nsIn K mainGlobals "sorted"=some none)
  (Aw:W.nsIn K mainGlobals "str"=some none)
  (Ax:W.nsIn K mainGlobals "sum"=some none)
  (Aq:W.nsIn K mainGlobals "tuple"=some none)
  (Ay:W.nsIn K mainGlobals "zip"=some none)
  :∃fd:VZ,(∀(s:WR) (v:WQ),BindsTo s fd ⟨[v],[]⟩ [("_law_script",v)])/\∀base:WU,K.In base->base.Ns mainGlobals mg->X8 l.prog w K mg base CX0 60 fa fd HM (spW K pr 60 33):=by
 have L33:=Jp (ps:=HM) X G Az λ_ _ _ _ _ _=>uh λ_=>rfl;obtain⟨AZ,_,AX,⟨oc,od,kV,dc,pm,an,cd,ct,sl,rfl,ll,lc⟩,lk⟩:=Az;have AY:=oS (st:=Q4) ll lc lk;have e:=hfa.symm.trans (FP X G AX)
 cases e
 have T:Txt w K mg:=⟨CH X G Au,CH X G Ar,CH X G Av,CH X G At,CH X G Ap,CH X G An,CH X G Ao,CH X G Aw,CH X G Ax,CH X G Aq,CH X G Ay,⟨Ab,Ad,⟨Ag,Ah,Ai,Aj⟩,Al⟩,⟨Ab,Ad,⟨Ag,Ah,Ai,Aj⟩,Am⟩⟩;have Aa:Kl K mg "Slots" Ab:=⟨Ad,FP X G Ad,⟨Ag,Ah,Ai,Aj⟩⟩;have L0:=Jp (ps:=GJ) X G l0 λ_ _ _ _ _ _=>uh λ_=>rfl;have L1:=Jp (ps:=HK) X G l1 λ_ _ _ _ _ _=>xb λ_ _=>rfl;have L2:=Jp (ps:=HL) X G l2 λ_ _ _ _ _ _=>xb λ_ _=>rfl;have L3:=Jp (ps:=GJ) X G l3 λ_ _ _ _ _ _=>uh λ_=>rfl;have L4:=Jp (ps:=GO) X G l4 λ_ _ _ _ _ _=>qw λ_ _ _=>rfl;have L5:=Lv (ps:=HH) l5 λ_ _ _ _ _ _=>uh λ_=>rfl;have L6:=Lv (ps:=HH) l6 λ_ _ _ _ _ _=>uh λ_=>rfl;have L7:=Lv (ps:=["self","form"]) l7 λ_ _ _ _ _ _=>xb λ_ _=>rfl;have L8:=Lv (ps:=GF) l8 λ_ _ _ _ _ _=>xb λ_ _=>rfl;have L9:=Lv (ps:=GF) l9 λ_ _ _ _ _ _=>xb λ_ _=>rfl;have L10:=Lv (ps:=HI) A0 λ_ _ _ _ _ _=>qw λ_ _ _=>rfl;have L11:=Lv (ps:=HE) AA λ_ _ _ _ _ _=>qw λ_ _ _=>rfl;have L12:=Jp (ps:=GJ) X G AB λ_ _ _ _ _ _=>uh λ_=>rfl;have L13:=Jp (ps:=GJ) X G AC λ_ _ _ _ _ _=>uh λ_=>rfl;have L14:=Jp (ps:=["slots","term"]) X G AD λ_ _ _ _ _ _=>xb λ_ _=>rfl;have L15:=Jp (ps:=GR) X G AE λ_ _ _ _ _ _=>fH λ_ _ _ _=>rfl;have L16:=Jp (ps:=HF) X G AF λ_ _ _ _ _ _=>qw λ_ _ _=>rfl;have L17:=Jp (ps:=HJ) X G AG λ_ _ _ _ _ _=>qw λ_ _ _=>rfl;have L18:=Jp (ps:=GC) X G AH λ_ _ _ _ _ _=>qw λ_ _ _=>rfl;have L19:=Jp (ps:=GC) X G AI λ_ _ _ _ _ _=>qw λ_ _ _=>rfl;have L20:=Jp (ps:=["slots","rows"]) X G AJ λ_ _ _ _ _ _=>xb λ_ _=>rfl;have L21:=Jp (ps:=GM) X G AK λ_ _ _ _ _ _=>fH λ_ _ _ _=>rfl;have L22:=Jp (ps:=HQ) X G AL λ_ _ _ _ _ _=>uh λ_=>rfl;have L23:=Jp (ps:=HQ) X G AM λ_ _ _ _ _ _=>uh λ_=>rfl;have L24:=Jp (ps:=GN) X G AN λ_ _ _ _ _ _=>xb λ_ _=>rfl;have L25:=Jp (ps:=FY) X G AO λ_ _ _ _ _ _=>fH λ_ _ _ _=>rfl;have L26:=Jp (ps:=FZ) X G AQ λ_ _ _ _ _ _=>xb λ_ _=>rfl;have L27:=Jp (ps:=FZ) X G AR λ_ _ _ _ _ _=>xb λ_ _=>rfl;have L28:=Jp (ps:=HN) X G AS λ_ _ _ _ _ _=>uh λ_=>rfl;have L29:=Jp (ps:=GG) X G AT λ_ _ _ _ _ _=>xb λ_ _=>rfl;have L30:=Jp (ps:=["_law_kind"]) X G AU λ_ _ _ _ _ _=>uh λ_=>rfl;have L31:=Jp (ps:=GS) X G AV λ_ _ _ _ _ _=>xb λ_ _=>rfl;have L32:=Jp (ps:=GA) X G AW λ_ _ _ _ _ _=>qw λ_ _ _=>rfl;refine⟨W.fnOf "law" "law" (Se Q4) (Jh Q4) (Zg Q4) .none kV dc pm an cd ct,λs v=>.of_eq FV,λbase _ _=>?_⟩;have XN_NoKind:iS K mg "NoKind" CN_NoKind:=⟨FP X G aCN_NoKind,_,_,_,_,PySem.F.excBase_ValueError,by decide+kernel,xCN_NoKind⟩;have R0:∀n,qB l.prog w K mg base n (J8 pr n) (λ_ _ _=>False) CN_NoKind:=λn=>by
  induction n with
  | zero=>exact⟨XN_NoKind,λ_ _ _ _ h=>(xi (r:=False) FV h).elim,v0 Y3 L0,v0 Y3 L1,v0 Y3 L2,v0 Y3 L3,v0 Y3 L4,Ia Y3 Aa L5,Ia Y3 Aa L6,Ia Y3 Aa L7,Ia Y3 Aa L8,Ia Y3 Aa L9,sx Y3 Aa L10,sx Y3 Aa L11,x0 Y3 L12,x0 Y3 L13,x0 Y3 L14,x0 Y3 L15,x0 Y3 L16,x0 Y3 L17,x0 Y3 L18,v0 Y3 L19,x0 Y3 L20,x0 Y3 L21,kB Y3 Aa Af Ae L5⟩
  | succ n ih=>exact⟨XN_NoKind,λ_ _ _ _ h=>(xi (r:=False) FV h).elim,Mq L0 (Ln Ov T ih O5 (Ye FV)),Mq L1 (Ln V2 T ih Ta (Ye FV)),Mq L2 (Ln Ti T ih Rk (Ye FV)),Mq L3 (Ln E3 T ih Gs (Ye FV)),Mq L4 (Ln W1 T ih Uf (Ye FV)),Of Aa L5 (Ln Xj T ih Uu (Ye FV)),Of Aa L6 (Ln Xz T ih Tk (Ye FV)),Of Aa L7 (Ln W4 T ih Ug (Ye FV)),Of Aa L8 (Ln Wk T ih Vg (Ye FV)),Of Aa L9 (Ln X0 T ih Tl (Ye FV)),Of Aa L10 (Ky Jx T ih Xl (Ye FV)),Of Aa L11 (Ky Xi T ih Wc (Ye FV)),Sz L12 (Ky M4 T ih Le (Ye FV)),Sz L13 (Ky Qm T ih Lf (Ye FV)),Sz L14 (Ky Ql T ih Q6 (Ye FV)),Sz L15 (Ky J1 T ih Ws (Ye FV)),Sz L16 (Ky V0 T ih J3 (Ye FV)),Sz L17 (Ky V3 T ih Tb (Ye FV)),Sz L18 (Ky Xt T ih Ue (Ye FV)),Mq L19 (Ln Jq T ih Vf (Ye FV)),Sz L20 (Ky Vz T ih U8 (Ye FV)),Sz L21 (Ky V1 T ih U9 (Ye FV)),uc Aa Af Ae ih.k_Slots___init__ (ot FV)⟩
 have R1:∀n,qB l.prog w K mg base n (λj=>J8 pr n (j+36)) (Er [(CN_NoKind,True)]) CN_NoKind:=λn=>by
  induction n with
  | zero=>exact⟨XN_NoKind,λ_ _ _ _ _=>⟨_,.head _,FV,trivial⟩,v0 Ym L0,v0 Ym L1,v0 Ym L2,v0 Ym L3,v0 Ym L4,Ia Ym Aa L5,Ia Ym Aa L6,Ia Ym Aa L7,Ia Ym Aa L8,Ia Ym Aa L9,sx Ym Aa L10,sx Ym Aa L11,x0 Ym L12,x0 Ym L13,x0 Ym L14,x0 Ym L15,x0 Ym L16,x0 Ym L17,x0 Ym L18,v0 Ym L19,x0 Ym L20,x0 Ym L21,kB Ym Aa Af Ae L5⟩
  | succ n ih=>exact⟨XN_NoKind,λ_ _ _ _ _=>⟨_,.head _,FV,trivial⟩,Mq L0 (Ln Ov T ih O5 (Yd FV)),Mq L1 (Ln V2 T ih Ta (Yd FV)),Mq L2 (Ln Ti T ih Rk (Yd FV)),Mq L3 (Ln E3 T ih Gs (Yd FV)),Mq L4 (Ln W1 T ih Uf (Yd FV)),Of Aa L5 (Ln Xj T ih Uu (Yd FV)),Of Aa L6 (Ln Xz T ih Tk (Yd FV)),Of Aa L7 (Ln W4 T ih Ug (Yd FV)),Of Aa L8 (Ln Wk T ih Vg (Yd FV)),Of Aa L9 (Ln X0 T ih Tl (Yd FV)),Of Aa L10 (Ky Jx T ih Xl (Yd FV)),Of Aa L11 (Ky Xi T ih Wc (Yd FV)),Sz L12 (Ky M4 T ih Le (Yd FV)),Sz L13 (Ky Qm T ih Lf (Yd FV)),Sz L14 (Ky Ql T ih Q6 (Yd FV)),Sz L15 (Ky J1 T ih Ws (Yd FV)),Sz L16 (Ky V0 T ih J3 (Yd FV)),Sz L17 (Ky V3 T ih Tb (Yd FV)),Sz L18 (Ky Xt T ih Ue (Yd FV)),Mq L19 (Ln Jq T ih Vf (Yd FV)),Sz L20 (Ky Vz T ih U8 (Yd FV)),Sz L21 (Ky V1 T ih U9 (Yd FV)),uc Aa Af Ae ih.k_Slots___init__ (om FV)⟩
 have CS:∀n,Cs l.prog w K mg base n pr CN_NoKind:=λn=>by
  induction n with
  | zero=>exact⟨aCN_NoKind,⟨_,FP X G h_NoKind_NoKind.choose_spec.1,h_NoKind_NoKind.choose_spec.2⟩,(R0 0).zao,(R0 0).zau,(R0 0).zas,(R0 0).za0,(R0 0).zag,(R0 0).k_paper,(R1 0).k_paper,(R0 0).k_kind_of,(R0 0).zar,xa L22,xa L23,xa L24,xa L25,xa L26,xa L27,xa L28,xa L29,xa L30,xa L31,xa L32,xa L33⟩
  | succ n ih=>exact⟨aCN_NoKind,⟨_,FP X G h_NoKind_NoKind.choose_spec.1,h_NoKind_NoKind.choose_spec.2⟩,(R0 (n+1)).zao,(R0 (n+1)).zau,(R0 (n+1)).zas,(R0 (n+1)).za0,(R0 (n+1)).zag,(R0 (n+1)).k_paper,(R1 (n+1)).k_paper,(R0 (n+1)).k_kind_of,(R0 (n+1)).zar,Mq L22 (jc Up T ih N8 FV),Mq L23 (jc zI T ih zR FV),Mq L24 (jc Si T ih Qs FV),Mq L25 (jc Rz T ih Gu FV),Mq L26 (jc Uq T ih N9 FV),Mq L27 (jc R9 T ih Oa FV),Mq L28 (jc Pm T ih Nm FV),Mq L29 (jc Vm T ih O6 FV),Mq L30 (jc R7 T ih Pz FV),Mq L31 (jc Sh T ih Qr FV),Mq L32 (jc Pj T ih Dp FV),Mq L33 (jc yD T ih Ac FV)⟩
 exact jc yD T (CS (59)) Ac FV AY
end K27
namespace Fn
open PySem WL
inductive Kd where
 | op (n:Nat) | k0 (g:Str) | k1 (g:Str) (a:Kd) | k2 (g:Str) (a b:Kd)
inductive Fm where
 | f0 (g:Str) | f1 (g:Str) (a:Nat) | f2 (g:Str) (a b:Nat)
def Fm.ev (σ:Nat->Kd):Fm->Kd
 | .f0 g=>.k0 g
 | .f1 g a=>.k1 g (σ a)
 | .f2 g a b=>.k2 g (σ a) (σ b)
def Fm.ps:Fm->List Nat
 | .f0 _=>[]
 | .f1 _ a=>[a]
 | .f2 _ a b=>[a,b]
def Fm.tag:Fm->Str
 | .f0 g=>g
 | .f1 g _=>g
 | .f2 g _ _=>g
def Ol {σ σ':Nat->Kd}{f:Fm}(h:∀p∈f.ps,σ p=σ' p):f.ev σ=f.ev σ':=by
 cases f with
 | f0 g=>rfl
 | f1 g a=>show Kd.k1 g _=Kd.k1 g _;rw[h a (by simp[Fm.ps])]
 | f2 g a b=>show Kd.k2 g _ _=Kd.k2 g _ _;rw[h a (by simp[Fm.ps]),h b (by simp[Fm.ps])]
structure Us where
 rt:Nat->Nat
 F:List (Option Fm)
structure Us.Ok (u:Us):Prop where
 lt:∀x,x<u.F.length->u.rt x<u.F.length
 id:∀x,x<u.F.length->u.rt (u.rt x)=u.rt x
 ps:∀(x:Nat) (f:Fm),u.F[x]?=some (some f)->∀p∈f.ps,p<u.F.length
def X6 (u:Us)(σ:Nat->Kd):Prop:=(∀x,x<u.F.length->σ x=σ (u.rt x))/\∀(x:Nat) (f:Fm),u.F[x]?=some (some f)->σ x=f.ev σ
def Vq (E:Nat->Nat->Prop):Fm->Fm->Prop
 | .f0 g,.f0 h=>g=h
 | .f1 g a,.f1 h c=>g=h/\E a c
 | .f2 g a b,.f2 h c d=>g=h/\E a c/\E b d
 | _,_=>False
def Vq.imp {E E':Nat->Nat->Prop}(h:∀a b,E a b->E' a b):∀{f g:Fm},Vq E f g->Vq E' f g
 | .f0 _,.f0 _,q=>q
 | .f1 _ _,.f1 _ _,q=>⟨q.1,h _ _ q.2⟩
 | .f2 _ _ _,.f2 _ _ _,q=>⟨q.1,h _ _ q.2.1,h _ _ q.2.2⟩
def Vq.refl {E:Nat->Nat->Prop}(h:∀a,E a a):∀f:Fm,Vq E f f
 | .f0 _=>rfl
 | .f1 _ _=>⟨FV,h _⟩
 | .f2 _ _ _=>⟨FV,h _,h _⟩
def Vq.trans {E:Nat->Nat->Prop}(h:∀a b c,E a b->E b c->E a c):∀{f g k:Fm},Vq E f g->Vq E g k->Vq E f k
 | .f0 _,.f0 _,.f0 _,p,q=>Eq.trans p q
 | .f1 _ _,.f1 _ _,.f1 _ _,p,q=>⟨p.1.trans q.1,h _ _ _ p.2 q.2⟩
 | .f2 _ _ _,.f2 _ _ _,.f2 _ _ _,p,q=>⟨p.1.trans q.1,h _ _ _ p.2.1 q.2.1,h _ _ _ p.2.2 q.2.2⟩
def Vq.symm {E:Nat->Nat->Prop}(h:∀a b,E a b->E b a):∀{f g:Fm},Vq E f g->Vq E g f
 | .f0 _,.f0 _,q=>Eq.symm q
 | .f1 _ _,.f1 _ _,q=>⟨q.1.symm,h _ _ q.2⟩
 | .f2 _ _ _,.f2 _ _ _,q=>⟨q.1.symm,h _ _ q.2.1,h _ _ q.2.2⟩
inductive Im (u:Us)(pl:List (Nat×Nat)):Nat->Nat->Prop
 | rt {a b:Nat}:u.rt a=u.rt b->Im u pl a b
 | pr {a b:Nat}:(a,b)∈pl->Im u pl a b
 | sym {a b:Nat}:Im u pl a b->Im u pl b a
 | tr {a b c:Nat}:Im u pl a b->Im u pl b c->Im u pl a c
def Im.nil {u:Us}{a b:Nat}(h:Im u [] a b):u.rt a=u.rt b:=by
 induction h with
 | rt e=>exact e
 | pr m=>cases m
 | sym _ ih=>exact ih.symm
 | tr _ _ i j=>exact i.trans j
def Im.mono {u u':Us}{pl pl':List (Nat×Nat)}(h1:∀a b,u.rt a=u.rt b->Im u' pl' a b)(h2:∀a b,(a,b)∈pl->Im u' pl' a b){a b:Nat}(h:Im u pl a b):Im u' pl' a b:=by
 induction h with
 | rt e=>exact h1 _ _ e
 | pr m=>exact h2 _ _ m
 | sym _ ih=>exact .sym ih
 | tr _ _ i j=>exact .tr i j
def Vn (u:Us)(pl:List (Nat×Nat)):Prop:=∀(x:Nat) (f:Fm),u.F[x]?=some (some f)->∃g,u.F[u.rt x]?=some (some g)/\Vq (Im u pl) f g
def Us.add (u:Us)(f:Option Fm):Us:={rt:=λx=>if x=u.F.length then x else u.rt x,F:=u.F++[f]}
def Us.join (u:Us)(a b:Nat):Us:={u with rt:=λx=>if u.rt x=a then b else u.rt x}
section
variable {u:Us}{a b x y:Nat}{σ:Nat->Kd}{pl:List (Nat×Nat)}
def Fi (o:u.Ok)(ha:u.rt a=a)(hb:u.rt b=b)(hlb:b<u.F.length)(n:a≠b):(u.join a b).Ok where
 lt:=λx hx=>by
  show(if u.rt x=a then b else u.rt x)<_
  split
  ·exact hlb
  ·exact o.lt x hx
 id:=λx hx=>by
  show(if u.rt (if u.rt x=a then b else u.rt x)=a then b else u.rt (if u.rt x=a then b else u.rt x))=(if u.rt x=a then b else u.rt x);by_cases c:u.rt x=a
  ·rw[XY c,hb,XX (Ne.symm n)]
  ·rw[XX c,o.id x hx,XX c]
 ps:=o.ps
def Ff (e:u.rt x=u.rt y):(u.join a b).rt x=(u.join a b).rt y:=by
 show(if u.rt x=a then b else u.rt x)=(if u.rt y=a then b else u.rt y);rw[e]
def Lz (ha:u.rt a=a)(hb:u.rt b=b)(hla:a<u.F.length)(o:u.Ok):X6 (u.join a b) σ↔X6 u σ/\σ a=σ b:=by
 constructor
 ·rintro⟨h1,h2⟩;have ea:σ a=σ b:=by
   have:=h1 a hla;rw[show(u.join a b).rt a=b from XY ha] at this;exact this
  refine⟨⟨λx hx=>?_,h2⟩,ea⟩;have h:=h1 x hx;by_cases c:u.rt x=a
  ·rw[show(u.join a b).rt x=b from XY c] at h;rw[c,h,ea]
  ·rw[show(u.join a b).rt x=u.rt x from XX c] at h;exact h
 ·rintro⟨⟨h1,h2⟩,ea⟩;refine⟨λx hx=>?_,h2⟩;have h:=h1 x hx;by_cases c:u.rt x=a
  ·rw[show(u.join a b).rt x=b from XY c,h,c,ea]
  ·rw[show(u.join a b).rt x=u.rt x from XX c];exact h
def Us.cnt (u:Us):Nat:=((List.range u.F.length).filter λx=>u.rt x==x).length
def Ec {p q:Nat->Bool}(h:∀x,p x=true->q x=true):∀l:List Nat,(l.filter p).length<=(l.filter q).length
 | []=>XE _
 | x::l=>by
  by_cases c:p x=true
  ·rw[BX c,BX (h x c)];exact Nat.succ_le_succ (Ec h l)
  ·rw[CO c];by_cases d:q x=true
   ·rw[BX d];exact EN (Ec h l)
   ·rw[CO d];exact Ec h l
def Eb {p q:Nat->Bool}(h:∀x,p x=true->q x=true){a:Nat}(hp:p a=false)(hq:q a=true):∀l:List Nat,a∈l->(l.filter p).length<(l.filter q).length
 | [],m=>by cases m
 | x::l,m=>by
  by_cases e:x=a
  ·subst e;rw[CO (by rw[hp];decide),BX hq];exact Nat.lt_succ_of_le (Ec h l)
  ·have hm:a∈l:=(BD.mp m).resolve_left λz=>e z.symm;by_cases c:p x=true
   ·rw[BX c,BX (h x c)];exact Nat.succ_lt_succ (Eb h hp hq l hm)
   ·rw[CO c];by_cases d:q x=true
    ·rw[BX d];exact CF (Eb h hp hq l hm)
    ·rw[CO d];exact Eb h hp hq l hm
def Ka (ha:u.rt a=a)(hb:u.rt b=b)(hla:a<u.F.length)(n:a≠b):(u.join a b).cnt<u.cnt:=by
 refine Eb (p:=λx=>(u.join a b).rt x==x) (q:=λx=>u.rt x==x) (a:=a) (λx h=>?_) ?_ (beq_iff_eq.mpr ha) _ (CI.mpr hla)
 ·have h:(if u.rt x=a then b else u.rt x)=x:=beq_iff_eq.mp h;by_cases c:u.rt x=a
  ·rw[XY c] at h;subst h;exact absurd (c.symm.trans hb) n
  ·rw[XX c] at h;exact beq_iff_eq.mpr h
 ·refine beq_eq_false_iff_ne.mpr ?_;show(if u.rt a=a then b else u.rt a)≠a;rw[XY ha];exact Ne.symm n
def Vl {f:Option Fm}(o:u.Ok)(h:∀g,f=some g->∀p∈g.ps,p<u.F.length):(u.add f).Ok where
 lt:=λx hx=>by
  have hx:x<(u.F++[f]).length:=hx;show(if x=u.F.length then x else u.rt x)<(u.F++[f]).length;rw[BA,BF] at hx |-
  split
  ·exact hx
  ·have:=o.lt x (by omega);omega
 id:=λx hx=>by
  have hx:x<(u.F++[f]).length:=hx;rw[BA,BF] at hx;show(if (if x=u.F.length then x else u.rt x)=u.F.length then(if x=u.F.length then x else u.rt x) else u.rt (if x=u.F.length then x else u.rt x))=(if x=u.F.length then x else u.rt x);by_cases c:x=u.F.length
  ·rw[XY c,XY c]
  ·have:=o.lt x (by omega);rw[XX c,XX (by omega),o.id x (by omega)]
 ps:=λx g hx p hp=>by
  have hx:(u.F++[f])[x]?=some (some g):=hx;show p<(u.F++[f]).length;rw[BA,BF];by_cases c:x<u.F.length
  ·rw[BO c] at hx;have:=o.ps x g hx p hp;omega
  ·have e:x=u.F.length:=by
    have:=(BB.mp hx).1;rw[BA,BF] at this;omega
   subst e;rw[BM (XE _),DS] at hx;have:=h g (YH hx) p hp;omega
def Os {f:Option Fm}(h:x<u.F.length):(u.add f).rt x=u.rt x:=XX (by omega)
def y6 {f:Option Fm}:(u.add f).rt u.F.length=u.F.length:=XY FV
def Zs {f:Option Fm}:(u.add f).F.length=u.F.length+1:=by show(u.F++[f]).length=_;rw[BA];rfl
def Mz {f:Option Fm}(h:x<u.F.length):(u.add f).F[x]?=u.F[x]?:=BO h
def uv {f:Option Fm}:(u.add f).F[u.F.length]?=some f:=by show(u.F++[f])[u.F.length]?=_;rw[BM (XE _),DS];rfl
def W0 {f:Option Fm}(o:u.Ok):X6 (u.add f) σ↔X6 u σ/\∀g,f=some g->σ u.F.length=g.ev σ:=by
 constructor
 ·rintro⟨h1,h2⟩;refine⟨⟨λx hx=>?_,λx g hx=>?_⟩,λg e=>h2 _ g (by rw[uv,e])⟩
  ·have:=h1 x (by rw[Zs];omega);rw[Os hx] at this;exact this
  ·have hl:=(BB.mp hx).1;exact h2 x g (by rw[Mz hl];exact hx)
 ·rintro⟨⟨h1,h2⟩,h3⟩;refine⟨λx hx=>?_,λx g hx=>?_⟩
  ·rw[Zs] at hx;by_cases c:x=u.F.length
   ·subst c;rw[y6]
   ·rw[Os (by omega)];exact h1 x (by omega)
  ·have hl:=(BB.mp hx).1;rw[Zs] at hl;by_cases c:x=u.F.length
   ·subst c;rw[uv] at hx;exact h3 g (YH hx)
   ·rw[Mz (by omega)] at hx;exact h2 x g hx
def Vw {f:Option Fm}(o:u.Ok)(h:Vn u []):Vn (u.add f) []:=λx g hx=>by
 have hl:=(BB.mp hx).1;rw[Zs] at hl;by_cases c:x=u.F.length
 ·subst c;rw[y6];exact⟨g,hx,Vq.refl (λa=>.rt FV) g⟩
 ·rw[Mz (by omega)] at hx;obtain⟨k,h1,h2⟩:=h x g hx;have hr:=o.lt x (by omega);rw[Os (by omega)];have hk:=o.ps _ k h1;have hg:=o.ps _ g hx;refine⟨k,by rw[Mz hr];exact h1,?_⟩;have key:∀a b,a<u.F.length->b<u.F.length->Im u [] a b->Im (u.add f) [] a b:=λa b ha hb e=>.rt (by rw[Os ha,Os hb];exact e.nil)
  cases g with
  | f0 w=>cases k with
   | f0 v=>exact h2
   | f1 v c=>exact h2.elim
   | f2 v c d=>exact h2.elim
  | f1 w c=>cases k with
   | f0 v=>exact h2.elim
   | f1 v d=>exact⟨h2.1,key _ _ (hg _ (by simp[Fm.ps])) (hk _ (by simp[Fm.ps])) h2.2⟩
   | f2 v c d=>exact h2.elim
  | f2 w c d=>cases k with
   | f0 v=>exact h2.elim
   | f1 v d=>exact h2.elim
   | f2 v c' d'=>exact⟨h2.1,key _ _ (hg _ (by simp[Fm.ps])) (hk _ (by simp[Fm.ps])) h2.2.1,key _ _ (hg _ (by simp[Fm.ps])) (hk _ (by simp[Fm.ps])) h2.2.2⟩
def E4 (f g:Fm):List (Nat×Nat):=f.ps.zip g.ps
def ue {p:Nat×Nat}(e:u.rt p.1=u.rt p.2)(h:Vn u (p::pl)):Vn u pl:=λx f hx=>by
 obtain⟨g,h1,h2⟩:=h x f hx;refine⟨g,h1,h2.imp λc d q=>q.mono (λ_ _ z=>.rt z) λc d m=>?_⟩
 rcases BD.mp m with z | m
 ·subst z;exact .rt e
 ·exact .pr m
def ud {p:Nat×Nat}(e1:u.rt p.1=a)(e2:u.rt p.2=b)(ha:u.F[a]?=some none)(h:Vn u (p::pl))(o:u.Ok)(hb:u.rt b=b)(n:a≠b):Vn (u.join a b) pl:=λx f hx=>by
 obtain⟨g,h1,h2⟩:=h x f hx;have c:u.rt x≠a:=λz=>by rw[z,ha] at h1;cases h1
 refine⟨g,by rw[show(u.join a b).rt x=u.rt x from XX c];exact h1,h2.imp λc d q=>q.mono (λ_ _ z=>.rt (Ff z)) λc d m=>?_⟩
 rcases BD.mp m with z | m
 ·subst z;refine .rt ?_;show(if u.rt c=a then b else u.rt c)=(if u.rt d=a then b else u.rt d);rw[XY e1,XX (by rw[e2];exact Ne.symm n),e2]
 ·exact .pr m
def j8 {p:Nat×Nat}{f g:Fm}(e1:u.rt p.1=a)(e2:u.rt p.2=b)(ha:u.rt a=a)(hfa:u.F[a]?=some (some f))(hfb:u.F[b]?=some (some g))(al:f.tag=g.tag/\f.ps.length=g.ps.length)(h:Vn u (p::pl))(n:a≠b):
  Vn (u.join b a) (pl++E4 f g):=λx k hx=>by
 obtain⟨k',h1,h2⟩:=h x k hx;have mo:∀c d,Im u (p::pl) c d->Im (u.join b a) (pl++E4 f g) c d:=λc d q=>q.mono (λ_ _ z=>.rt (Ff z)) λc d m=>by
  rcases BD.mp m with z | m
  ·subst z;refine .rt ?_;show(if u.rt c=b then a else u.rt c)=(if u.rt d=b then a else u.rt d);rw[XX (by rw[e1];exact n),XY e2,e1]
  ·exact .pr (BE _ m)
 have fg:Vq (Im (u.join b a) (pl++E4 f g)) g f:=by
  refine Vq.symm (λ_ _ z=>.sym z) ?_;have pr:∀c d,(c,d)∈E4 f g->Im (u.join b a) (pl++E4 f g) c d:=λc d m=>.pr (XT _ m)
  cases f with
  | f0 w=>cases g with
   | f0 v=>exact al.1
   | f1 v c=>exact absurd al.2 (by simp[Fm.ps])
   | f2 v c d=>exact absurd al.2 (by simp[Fm.ps])
  | f1 w c=>cases g with
   | f0 v=>exact absurd al.2 (by simp[Fm.ps])
   | f1 v d=>exact⟨al.1,pr _ _ (by simp[E4,Fm.ps])⟩
   | f2 v c d=>exact absurd al.2 (by simp[Fm.ps])
  | f2 w c d=>cases g with
   | f0 v=>exact absurd al.2 (by simp[Fm.ps])
   | f1 v d=>exact absurd al.2 (by simp[Fm.ps])
   | f2 v c' d'=>exact⟨al.1,pr _ _ (by simp[E4,Fm.ps]),pr _ _ (by simp[E4,Fm.ps])⟩
 by_cases c:u.rt x=b
 ·rw[c,hfb] at h1
  cases h1
  exact⟨f,by rw[show(u.join b a).rt x=a from XY c];exact hfa,(h2.imp mo).trans (λ_ _ _ y z=>.tr y z) fg⟩
 ·exact⟨k',by rw[show(u.join b a).rt x=u.rt x from XX c];exact h1,h2.imp mo⟩
def zx {p:Nat×Nat}(e1:u.rt p.1=a)(e2:u.rt p.2=b)(hfb:u.F[b]?=some none)(h:Vn u (p::pl))(n:a≠b):Vn (u.join b a) pl:=λx f hx=>by
 obtain⟨g,h1,h2⟩:=h x f hx;have c:u.rt x≠b:=λz=>by rw[z,hfb] at h1;cases h1
 refine⟨g,by rw[show(u.join b a).rt x=u.rt x from XX c];exact h1,h2.imp λc d q=>q.mono (λ_ _ z=>.rt (Ff z)) λc d m=>?_⟩
 rcases BD.mp m with z | m
 ·subst z;refine .rt ?_;show(if u.rt c=b then a else u.rt c)=(if u.rt d=b then a else u.rt d);rw[XX (by rw[e1];exact n),XY e2,e1]
 ·exact .pr m
def Cy {f g:Fm}(h:f.ev σ=g.ev σ):(f.tag=g.tag/\f.ps.length=g.ps.length)/\∀p∈E4 f g,σ p.1=σ p.2:=by
 cases f with
 | f0 w=>cases g with
  | f0 v=>injection h with h;exact⟨⟨h,FV⟩,λp m=>by cases m⟩
  | f1 v c=>cases h
  | f2 v c d=>cases h
 | f1 w c=>cases g with
  | f0 v=>cases h
  | f1 v d=>injection h with h1 h2;exact⟨⟨h1,FV⟩,λp m=>by simp[E4,Fm.ps] at m;subst m;exact h2⟩
  | f2 v c d=>cases h
 | f2 w c d=>cases g with
  | f0 v=>cases h
  | f1 v d=>cases h
  | f2 v c' d'=>injection h with h1 h2 h3;exact⟨⟨h1,FV⟩,λp m=>by
    simp[E4,Fm.ps] at m
    rcases m with rfl | rfl
    ·exact h2
    ·exact h3⟩
end
end Fn
namespace WL
open PySem PySem.Spec PyProof.Rows L2
def Ex (C C':Hw):Prop:=∀a o,C a=some o->C' a=some o
def Ex.refl (C:Hw):Ex C C:=λ_ _ h=>h
def Ex.trans {C C1 C2:Hw}(a:Ex C C1)(b:Ex C1 C2):Ex C C2:=λc o h=>b c o (a c o h)
def cne {C:Hw}{a b:WP}{o:O}(h:C a=some o)(h':C b=none):a≠b:=λe=>by subst e;rw[h] at h';cases h'
def Ex.new {C:Hw}{p:WP}{o:O}(h:C p=none):Ex C (up C p o):=λa u e=>by rw[Zf (cne e h)];exact e
def Ex.up {C C':Hw}{p:WP}{o:O}(e:Ex C C')(h:C p=none):Ex C (up C' p o):=λa u q=>by rw[Zf (cne q h)];exact e a u q
def sM {C:Hw}{p q:WP}{o:O}(h:up C p o q=none):q≠p/\C q=none:=by
 have n:q≠p:=λz=>by subst z;rw[Ze] at h;cases h
 rw[Zf n] at h;exact⟨n,h⟩
def Ex.free {C C':Hw}(e:Ex C C'){p:WP}(h:C' p=none):C p=none:=by
 cases q:C p with
 | none=>rfl
 | some o=>rw[e p o q] at h;cases h
def bt (p:WP)(C C':Hw):Prop:=∀a o,a≠p->C a=some o->C' a=some o
def To:∀(v:T) {n m:Nat},Z6 v n=true->n<=m->Z6 v m=true:=by
 have key:∀(n:Nat) (v:T) {m:Nat},Z6 v n=true->n<=m->Z6 v m=true:=by
  intro n
  induction n with
  | zero=>
   intro v m h _
   cases v with
   | tup xs=>unfold Z6 at h;cases h
   | ref a=>unfold Z6 at h;cases h
   | cl a=>unfold Z6 at h;cases h
   | _=>unfold Z6;rfl
  | succ n ih=>
   intro v m h hm;have fl:∀(xs:List T) {m:Nat},Zv xs n=true->n<=m->Zv xs m=true:=by
    intro xs
    induction xs with
    | nil=>intro m _ _;unfold Zv;rfl
    | cons x xs ihx=>
     intro m h hm;unfold Zv at h |-;rw[CB] at h |-;exact⟨ih x h.1 hm,ihx h.2 hm⟩
   cases v with
   | tup xs=>
    obtain⟨k,rfl⟩:∃k,m=k+1:=⟨m-1,by omega⟩;unfold Z6 at h |-;exact fl xs h (by omega)
   | ref a=>unfold Z6 at h;cases h
   | cl a=>unfold Z6 at h;cases h
   | _=>unfold Z6;rfl
 exact λv {n m}=>key n v
def Hj:∀{xs:List T} {n:Nat},Zv xs n=true↔∀x∈xs,Z6 x n=true
 | [],n=>by unfold Zv;simp
 | x::xs,n=>by unfold Zv;rw[Bool.and_eq_true,Hj];simp
def Cu {x:Str}{n:Nat}:Z6 (.str x) n=true:=by unfold Z6;rfl
def vw {x:Int}{n:Nat}:Z6 (.int x) n=true:=by unfold Z6;rfl
def sO {x:Bool}{n:Nat}:Z6 (.bl x) n=true:=by unfold Z6;rfl
def Kb {x:Str}:Ys (.str x)=True:=eq_true Cu
def Kc {x:Int}:Ys (.int x)=True:=eq_true vw
def He {x:Bool}:Ys (.bl x)=True:=eq_true sO
def zn {xs:List Str}{n:Nat}:Zv (xs.map T.str) n=true:=Hj.mpr λx hx=>by obtain⟨y,_,rfl⟩:=XR.mp hx;exact Cu
section
variable {n:Bool}{C:Hw}{Q:WK}
def Wy {a b:Str}:Oz n (.str a) (.str b) C Q=Q (.bl (if n=true then !(a==b) else a==b)) C:=by
 show(Ys _/\Ys _/\Q (.bl (if n=true then !eqT (.str a) (.str b) else eqT (.str a) (.str b))) C)=_;rw[Kb,Kb,true_and,true_and,show eqT (.str a) (.str b)=(a==b) by unfold eqT;rfl]
def Gg {a b:Int}:Oz n (.int a) (.int b) C Q=Q (.bl (if n=true then !(a==b) else a==b)) C:=by
 show(Ys _/\Ys _/\Q (.bl (if n=true then !eqT (.int a) (.int b) else eqT (.int a) (.int b))) C)=_;rw[Kc,Kc,true_and,true_and,show eqT (.int a) (.int b)=(a==b) by unfold eqT;rfl]
def qH {a b:Bool}:Oz n (.bl a) (.bl b) C Q=Q (.bl (if n=true then !(a==b) else a==b)) C:=by
 show(Ys _/\Ys _/\Q (.bl (if n=true then !eqT (.bl a) (.bl b) else eqT (.bl a) (.bl b))) C)=_;rw[He,He,true_and,true_and,show eqT (.bl a) (.bl b)=(a==b) by unfold eqT;rfl]
end
section
variable {α:Type}{a b c d e:α}{xs:List α}
def oY:(a::xs).eraseIdx 0=xs:=rfl
def Yf:Oq (a::xs) 0=some a:=Y8 (j:=0) FV
def Sm:Oq (a::b::xs) 1=some b:=Y8 (j:=1) FV
def Hv:Oq (a::b::c::xs) 2=some c:=Y8 (j:=2) FV
def iy:Oq (a::b::c::d::xs) 3=some d:=Y8 (j:=3) FV
def iw:Oq (a::b::c::d::e::xs) 4=some e:=Y8 (j:=4) FV
def nM:Oq [a] (-1)=some a:=rfl
def nL:Oq [a,b] (-1)=some b:=rfl
def nK:Oq [a,b,c] (-1)=some c:=rfl
def nJ:Oq [a,b,c,d] (-1)=some d:=rfl
end
def Sa {g:WG}{b:WS}{ok:Hw->Prop}{D:We}{xs:List T}(Pv:Nat->Sw->Hw->Prop){τ:Sw}{C:Hw}(h0:Pv 0 τ C)(hok:∀i τ C,i<=xs.length->Pv i τ C->ok C)
  (hs:∀i x τ C (N:Sw->Hw->Prop),xs[i]?=some x->Pv i τ C->(∀τ' C',Pv (i+1) τ' C'->N τ' C')->g x τ C (λτ2 C2=>b {D with nx:=N,ct:=N,bk:=D.nx} τ2 C2) D.xc)
  (hd:∀τ C,Pv xs.length τ C->D.nx τ C):zj g b ok D xs τ C:=by
 have key:∀(k i:Nat) (τ:Sw) (C:Hw),xs.length-i=k->i<=xs.length->Pv i τ C->zj g b ok D (xs.drop i) τ C:=by
  intro k
  induction k with
  | zero=>
   intro i τ C hk hi hp;have e:i=xs.length:=by omega
   subst e;rw[EV];exact⟨hok _ τ C (XE _) hp,hd τ C hp⟩
  | succ k ih=>
   intro i τ C hk hi hp;have hlt:i<xs.length:=by omega
   rw[CZ hlt];exact⟨hok i τ C hi hp,hs i _ τ C _ (by simp[hlt]) hp λτ' C' h=>ih (i+1) τ' C' (by omega) hlt h⟩
 exact key xs.length 0 τ C (by simp) (Nat.zero_le _) h0
def Ts {g:WG}{c:WT}{e:WE}{ok:Hw->Prop}{τ:Sw}{Q:List T->Hw->Prop}{χ:WX}{xs:List T}(Pv:Nat->List T->Hw->Prop){C:Hw}(h0:Pv 0 [] C)(hok:∀i acc C,i<=xs.length->Pv i acc C->ok C)
  (hs:∀i x acc C (N:List T->Hw->Prop),xs[i]?=some x->Pv i acc C->(∀acc' C',Pv (i+1) acc' C'->N acc' C')->
   g x τ C (λτ2 C2=>c τ2 C2 (λb C3=>if b=true then e τ2 C3 (λv C4=>acc.length<sizeLine/\N (acc++[v]) C4) χ else N acc C3) χ) χ)
  (hd:∀acc C,Pv xs.length acc C->Q acc C):Nx g c e ok τ Q χ xs [] C:=by
 have key:∀(k i:Nat) (acc:List T) (C:Hw),xs.length-i=k->i<=xs.length->Pv i acc C->Nx g c e ok τ Q χ (xs.drop i) acc C:=by
  intro k
  induction k with
  | zero=>
   intro i acc C hk hi hp;have e:i=xs.length:=by omega
   subst e;rw[EV];exact⟨hok _ acc C (XE _) hp,hd acc C hp⟩
  | succ k ih=>
   intro i acc C hk hi hp;have hlt:i<xs.length:=by omega
   rw[CZ hlt];exact⟨hok i acc C hi hp,hs i _ acc C _ (by simp[hlt]) hp λacc' C' h=>ih (i+1) acc' C' (by omega) hlt h⟩
 exact key xs.length 0 [] C (by simp) (Nat.zero_le _) h0
def Xh {g:WG}{e:WE}{ok:Hw->Prop}{τ:Sw}{Q:List T->Hw->Prop}{χ:WX}{xs:List T}(f:T->T){C:Hw}(hok:ok C)(hl:xs.length<=sizeLine)
  (hs:∀x∈xs,∀R:WK,R (f x) C->g x τ C (λτ2 C2=>e τ2 C2 R χ) χ) (hd:Q (xs.map f) C):Nx g xw e ok τ Q χ xs [] C:=by
 refine Ts (λi acc C'=>C'=C/\acc=(xs.take i).map f) ⟨FV,FV⟩ (λi acc C' _ h=>by rw[h.1];exact hok) (λi x acc C' N hx hp hN=>?_) (λacc C' h=>?_)
 ·obtain⟨rfl,rfl⟩:=hp;have hi:i<xs.length:=(BB.mp hx).1;refine hs x (BH hx) _ ⟨?_,hN _ _ ⟨FV,?_⟩⟩
  ·rw[XI,YM];omega
  ·rw[YD,hx,XL];rfl
 ·obtain⟨rfl,rfl⟩:=h;rw[CC];exact hd
def vj {z:Str}{zs:List Str}:Hf (.str z) (zs.map T.str)=decide (z∈zs):=by
 unfold Hf;rw[List.any_map]
 induction zs with
 | nil=>rfl
 | cons y ys ih=>
  rw[DJ,ih];have e:(((λy=>eqT y (.str z))∘T.str) y)=(y==z):=by show eqT (.str y) (.str z)=_;unfold eqT;rfl
  rw[e];by_cases h:y=z
  ·subst h;simp
  ·have h':z≠y:=λq=>h q.symm;simp[h,h']
def Py {n:Nat}(h:n<=100000):n<=sizeLine:=XN h (by decide)
def Yz {n:Nat}(h:n<=100000):n<sizeLine:=ED h (by decide)
end WL
namespace K27
open PySem PySem.Spec PyProof.Rows L2 WL Fn
local macro_rules | `(tactic| walk_at "ws") => `(tactic| try simp (config := { decide := true }) only [Yg, eC, Xm, fj, Zw, Zt, Qo, jy, X5, ni, iP, f7, nj, cj, fz, qN, jY, iK, x8, d0, nh, E8, mx, uR, xq, uS, m6, m8, gc, dq, eL, dt, m9, m7, Gf, gQ, wQ, hU, fq, iq, fK, fJ, z7, ip, f6, gf, Ig, Hh, Rt, kK, df, Qt, Qn, Iy, Dv, lC, qg, O8, g9, qh, Ag, xU, sJ, fc, gZ, dY, Kt, xw, Hl, qK, dv, Fa, kA, ox, By, hZ, eK, xk, Wy, Gg, oY, Yf, Sm, Hv, iy, iw, nM, nL, nK, nJ, qH,
  List.map_cons, FR, List.length_cons, FT, List.replicate, List.cons_append, FU, List.getElem?_cons_zero, List.getElem?_cons_succ, List.set_cons_zero, List.set_cons_succ, Option.some.injEq, T.int.injEq, T.str.injEq, T.bl.injEq, T.ref.injEq, T.tup.injEq, T.cl.injEq, exists_eq_left', exists_eq_left, exists_eq', exists_and_left, and_assoc, List.cons.injEq, and_true, true_and, reduceCtorEq, false_and, exists_false, List.append_nil, if_true, if_false, Bool.not_not, decide_eq_true_eq, Bool.not_eq_true', decide_eq_false_iff_not, Bool.false_eq_true, List.nil_eq, Option.bind_none, Option.bind_some, Option.join_some, Nat.reduceAdd, Nat.reduceSub, DS, Nat.zero_add, Nat.sub_zero, beq_iff_eq, Bool.not_false, Bool.not_true])
section
variable {W:Nat->Calls}{ρ:Prop}{A B:WS}{D:We}{τ:Sw}{C:Hw}{i k:Nat}{v:T}{r:List T}{s s' w:Str}{x y:Int}
def Ch (h:τ[0]?=some (some (.tup (v::r))))(q:B D (τ.set k (some v)) C):Qn (O8 (Xm Gf (Yg 0) (eC (.int 0))) (Ig k)) B D τ C:=⟨_,h,_,Yf,q⟩
def Cf (h:τ[i]?=some (some (.str w)))(hw:w=s)(q:A {D with nx:=B D} τ C):Qn (qg (jY (Xm By (Yg i) (eC (.str s)))) A Qt) B D τ C:=by
 refine⟨_,h,?_⟩;simp only[eC];rw[By,Wy,hw];refine⟨true,by simp,?_⟩;rw[XY rfl];exact q
def Ra (h:τ[i]?=some (some (.str w)))(hw:w≠s)(q:B D τ C):Qn (qg (jY (Xm By (Yg i) (eC (.str s)))) A Qt) B D τ C:=by
 refine⟨_,h,?_⟩;simp only[eC];rw[By,Wy];refine⟨false,by simp[hw],?_⟩;rw[XX (by decide)];exact q
def ve (h:τ[i]?=some (some (.str w)))(hw:w=s\/w=s')(q:A {D with nx:=B D} τ C):Qn (qg (x8 (jY (Xm By (Yg i) (eC (.str s)))) (jY (Xm By (Yg i) (eC (.str s'))))) A Qt) B D τ C:=by
 refine⟨_,h,?_⟩;simp only[eC];rw[By,Wy];by_cases c:w=s
 ·refine⟨true,by simp[c],?_⟩;rw[XY rfl];exact q
 ·refine⟨false,by simp[c],?_⟩;rw[XX (by decide)];refine⟨_,h,?_⟩;simp only[eC];rw[Wy];have c':w=s':=hw.resolve_left c;refine⟨true,by simp[c'],?_⟩;rw[XY rfl];exact q
def Cg (h:τ[i]?=some (some (.str w)))(hw:w≠s)(hw':w≠s')(q:B D τ C):Qn (qg (x8 (jY (Xm By (Yg i) (eC (.str s)))) (jY (Xm By (Yg i) (eC (.str s'))))) A Qt) B D τ C:=by
 refine⟨_,h,?_⟩;simp only[eC];rw[By,Wy];refine⟨false,by simp[hw],?_⟩;rw[XX (by decide)];refine⟨_,h,?_⟩;simp only[eC];rw[Wy];refine⟨false,by simp[hw'],?_⟩;rw[XX (by decide)];exact q
end
def qa:List Str:=["does","call","first","fun","let","shape","choose","rows"]
inductive Sc:T->Option Nat->List (List T×T)->Prop
 | does {o A B:T}:Sc (.tup [.str "does",o,A,B]) none [([],A),([],B)]
 | call {A B:T}:Sc (.tup [.str "call",A,B]) none [([],A),([],B)]
 | first {A B:T}:Sc (.tup [.str "first",A,B]) none [([],A),([],B)]
 | fun_ {x B:T}:Sc (.tup [.str "fun",x,B]) none [([x],B)]
 | let_ {B:T} {xs:List (T×T)} (h:xs.length<=1000):Sc (.tup [.str "let",.tup (xs.map λx=>.tup [x.1,x.2]),B]) none (xs.map (λx=>(xs.map (·.1),x.2))++[(xs.map (·.1),B)])
 | shape {c:T} {ps:List T} (h:ps.length<=1000):Sc (.tup [.str "shape",c,.tup ps]) none (ps.map λx=>([],x))
 | choose {E:T} {ys:List (T×List T×T)} (h:ys.length<=1000):Sc (.tup [.str "choose",E,.tup (ys.map λy=>.tup [y.1,.tup y.2.1,y.2.2])]) none (([],E)::ys.map (·.2))
 | other {w:Str} {Yp:List T} (h:w∉qa):Sc (.tup (.str w::Yp)) none []
def qd (s:List T×T):T:=.tup [.tup s.1,s.2]
section
variable {W:Nat->Calls}{ρ:Prop}{C:Hw}{Q:WK}{χ:WX}{n:Nat}
def Gz (R:Rp W ρ){B:T}{xs:List (T×T)}(h:xs.length<=1000)(q:∀p C',Ex C C'->C p=none->C' p=some (.lst ((xs.map (λx=>(xs.map (·.1),x.2))++[(xs.map (·.1),B)]).map qd))->Q (.ref p) C'):
  W (n+1) Fs [.tup (xs.map λx=>.tup [x.1,x.2]),B] C Q χ:=by
 refine R.o_let_scopes FV ?_;unfold Vu V2
 walk_at "ws"
 have hl:(xs.map λx:T×T=>T.tup [x.1,x.2]).length<=sizeLine:=by rw[XI];exact Py (by omega)
 refine Xh (λt=>match t with | .tup [a,_]=>a | _=>.non) trivial hl (λx hx R hR=>?_) λp hp=>?_
 ·obtain⟨y,_,rfl⟩:=XR.mp hx
  walk_at "ws"
  exact hR
 refine⟨_,Ze,?_⟩;have e:(xs.map λx:T×T=>T.tup [x.1,x.2]).map (λt=>match t with | .tup [a,_]=>a | _=>T.non)=xs.map (·.1):=by rw[YE];rfl
 rw[e];refine Xh (λt=>match t with | .tup [_,b]=>.tup [.tup (xs.map (·.1)),b] | _=>.non) trivial hl (λx hx R hR=>?_) λp2 hp2=>?_
 ·obtain⟨y,_,rfl⟩:=XR.mp hx
  walk_at "ws"
  exact hR
 intro p3 hp3;obtain⟨n2,e2⟩:=sM hp2;obtain⟨n32,h32⟩:=sM hp3;obtain⟨n31,e3⟩:=sM h32;refine⟨_,by rw[Zf n32.symm];exact Ze,_,Ze,?_,λp4 hp4=>?_⟩
 ·rw[XI,XI];exact Py (by show xs.length+1<=100000;omega)
 ·obtain⟨n43,h43⟩:=sM hp4;obtain⟨n42,h42⟩:=sM h43;obtain⟨n41,e4⟩:=sM h42;refine q p4 _ ((((Ex.new hp).up e2).up e3).up e4) e4 ?_;rw[Ze,XL,YE,YE];rfl
def Dq (R:Rp W ρ){t:T}{e:Option Nat}{ss:List (List T×T)}(h:Sc t e ss)(q:∀p C',Ex C C'->C p=none->C' p=some (.lst (ss.map qd))->Q (.ref p) C'):W (n+2) vk [t] C Q χ:=by
 refine R.o_scopes FV ?_;unfold Pr Ov
 cases h with
 | does=>refine Ch FV (Cf FV FV ?_);walk_at "ws";exact λp hp=>q p _ (Ex.new hp) hp Ze
 | call=>refine Ch FV (Ra FV (by decide+kernel) (ve FV (.inl FV) ?_));walk_at "ws";exact λp hp=>q p _ (Ex.new hp) hp Ze
 | first=>refine Ch FV (Ra FV (by decide+kernel) (ve FV (.inr FV) ?_));walk_at "ws";exact λp hp=>q p _ (Ex.new hp) hp Ze
 | fun_=>refine Ch FV (Ra FV (by decide+kernel) (Cg FV (by decide+kernel) (by decide+kernel) (Cf FV FV ?_)));walk_at "ws";exact λp hp=>q p _ (Ex.new hp) hp Ze
 | let_ h=>refine Ch FV (Ra FV (by decide+kernel) (Cg FV (by decide+kernel) (by decide+kernel) (Ra FV (by decide+kernel) (Cf FV FV ?_))));walk_at "ws";exact Gz R h q
 | shape h=>
  refine Ch FV (Ra FV (by decide+kernel) (Cg FV (by decide+kernel) (by decide+kernel) (Ra FV (by decide+kernel) (Ra FV (by decide+kernel) (Cf FV FV ?_)))))
  walk_at "ws"
  refine Xh (λt=>.tup [.tup [],t]) trivial (Py (by omega)) (λx hx R hR=>?_) λp hp=>q p _ (Ex.new hp) hp ?_
  ·walk_at "ws"
   exact hR
  ·rw[Ze,YE];rfl
 | @choose E ys h=>
  refine Ch FV (Ra FV (by decide+kernel) (Cg FV (by decide+kernel) (by decide+kernel) (Ra FV (by decide+kernel) (Ra FV (by decide+kernel) (Ra FV (by decide+kernel) (Cf FV FV ?_))))))
  walk_at "ws"
  intro p hp;refine Xh (λt=>match t with | .tup [_,a,b]=>.tup [a,b] | _=>.non) trivial (by rw[XI];exact Py (by omega)) (λx hx R hR=>?_) λp2 hp2=>?_
  ·obtain⟨y,_,rfl⟩:=XR.mp hx
   walk_at "ws"
   exact hR
  obtain⟨n2,e2⟩:=sM hp2;refine⟨_,by rw[Zf n2.symm];exact Ze,_,Ze,?_,λp3 hp3=>?_⟩
  ·rw[XI,XI];exact Py (by show 1+_<=_;omega)
  ·obtain⟨n32,h32⟩:=sM hp3;obtain⟨n31,e3⟩:=sM h32;refine q p3 _ (((Ex.new hp).up e2).up e3) e3 ?_;rw[Ze,YI,YE,YE];rfl
 | @other w Yp h=>
  have hw:∀s∈qa,w≠s:=λs hs z=>h (z▸hs);refine Ch FV (Ra FV (hw "does" (by decide)) (Cg FV (hw "call" (by decide)) (hw "first" (by decide)) (Ra FV (hw "fun" (by decide)) (Ra FV (hw "let" (by decide)) (Ra FV (hw "shape" (by decide)) (Ra FV (hw "choose" (by decide)) (Ra FV (hw "rows" (by decide)) ?_)))))))
  walk_at "ws"
  exact λp hp=>q p _ (Ex.new hp) hp Ze
end
section
variable {W:Nat->Calls}{ρ:Prop}{C:Hw}{Q:WK}{χ:WX}{τ:Sw}
def Yi {p q:Prop}(h:p):if true=true then p else q:=h
def Zk {p q:Prop}(h:q):if false=true then p else q:=h
def Nt {p q:Prop}{b:Bool}(hb:b=true)(h:p):if b=true then p else q:=by rw[XY hb];exact h
def Qw {p q:Prop}{b:Bool}(hb:b=false)(h:q):if b=true then p else q:=by subst hb;exact h
def cg {a b:Str}{v:Bool}(h:(a==b)=v)(q:Q (.bl v) C):Oz false (.str a) (.str b) C Q:=by rw[Wy,XX (by decide),h];exact q
def ci {a b:Int}{v:Bool}(h:(a==b)=v)(q:Q (.bl v) C):Oz false (.int a) (.int b) C Q:=by rw[Gg,XX (by decide),h];exact q
def dU {a b:Str}{v:Bool}(h:(a==b)=v)(q:Q (.bl (!v)) C):Oz true (.str a) (.str b) C Q:=by rw[Wy,XY FV,h];exact q
def Zx {a b:Str}{v:Bool}(h:(a==b)=v)(q:Q (.bl v) C):eC (.str b) τ C (λy C2=>By (.str a) y C2 Q) χ:=cg h q
def Pa {a b:Int}{v:Bool}(h:(a==b)=v)(q:Q (.bl v) C):eC (.int b) τ C (λy C2=>By (.int a) y C2 Q) χ:=ci h q
def k4 {a b:Str}{v:Bool}(h:(a==b)=v)(q:Q (.bl (!v)) C):eC (.str b) τ C (λy C2=>hZ (.str a) y C2 Q) χ:=dU h q
end
structure Sd where
 r:WP
 f:WP
 l:WP
abbrev nT (x:Nat):T:=.int (x:Int)
def yo:Option Fm->T
 | none=>.non
 | some (.f0 g)=>.tup [.str g]
 | some (.f1 g a)=>.tup [.str g,nT a]
 | some (.f2 g a b)=>.tup [.str g,nT a,nT b]
def uH:Fm->Bool
 | .f0 g=>g=="num"||g=="truth"
 | .f1 g _=>g=="list"
 | .f2 g _ _=>g=="pair"||g=="to"
def nP {f g:Fm}(h:uH f=true)(h':uH g=true)(e:f.tag=g.tag):f.ps.length=g.ps.length:=by
 cases f<;>cases g<;>simp only[uH,Fm.tag,Fm.ps,Bool.or_eq_true,beq_iff_eq,List.length_cons,List.length_nil] at h h' e |-<;>subst e
 ·subst h';exact absurd h (by decide)
 ·rcases h' with h' | h'<;>subst h'<;>exact absurd h (by decide)
 ·subst h;exact absurd h' (by decide)
 ·subst h;exact absurd h' (by decide)
 ·rcases h with h | h<;>subst h<;>exact absurd h' (by decide)
 ·subst h';exact absurd h (by decide)
def ut {f:Fm}(h:uH f=true):f.tag.length<=5:=by
 cases f<;>simp only[uH,Fm.tag,Bool.or_eq_true,beq_iff_eq] at h |-
 ·rcases h with h | h<;>subst h<;>decide
 ·subst h;decide
 ·rcases h with h | h<;>subst h<;>decide
def cL (u:Us):Prop:=∀f,some f∈u.F->uH f=true
structure LR (rk:Nat->Nat)(L:List Nat)(u:Us):Prop where
 len:L.length=u.F.length
 st:∀x y,L[x]?=some y->y<L.length/\(y=x->u.rt x=x)/\(y≠x->rk y<rk x/\u.rt y=u.rt x)
abbrev sF (A:Sd):List (Str×T):=[("forms",.ref A.f),("leads",.ref A.l)]
structure Sk (rk:Nat->Nat)(L:List Nat)(A:Sd)(C:Hw)(u:Us):Prop where
 r:C A.r=some (.ins "Slots" (sF A))
 f:C A.f=some (.lst (u.F.map yo))
 l:C A.l=some (.lst (L.map nT))
 lr:LR rk L u
 ne:A.f≠A.l
 ar:cL u
def Sl (A:Sd)(C:Hw)(u:Us):Prop:=∃rk L,Sk rk L A C u
def Fx (A:Sd)(C C':Hw):Prop:=∀b o,b≠A.f->b≠A.l->C b=some o->C' b=some o
def Fx.refl (A:Sd)(C:Hw):Fx A C C:=λ_ _ _ _ h=>h
def Fx.trans {A:Sd}{C C1 C2:Hw}(a:Fx A C C1)(b:Fx A C1 C2):Fx A C C2:=λc o n m h=>b c o n m (a c o n m h)
section
variable {W:Nat->Calls}{ρ:Prop}{rk:Nat->Nat}{L:List Nat}{A:Sd}{C C':Hw}{u:Us}{Q:WK}{χ:WX}{n x:Nat}{o:O}
def Sk.rf (S:Sk rk L A C u):A.r≠A.f:=λe=>by have h:=S.r;rw[e,S.f] at h;cases h
def Sk.rl (S:Sk rk L A C u):A.r≠A.l:=λe=>by have h:=S.r;rw[e,S.l] at h;cases h
def Fx.upl (h:Fx A C C'):Fx A C (up C' A.l o):=λb u n m e=>by rw[Zf m];exact h b u n m e
def Fx.upf (h:Fx A C C'):Fx A C (up C' A.f o):=λb u n m e=>by rw[Zf n];exact h b u n m e
def Fx.new {p:WP}(h:Fx A C C')(hp:C p=none):Fx A C (up C' p o):=λb u n m e=>by
 rw[Zf λz=>by rw[z,hp] at e;cases e];exact h b u n m e
def Sk.lead {L':List Nat}{rk':Nat->Nat}{u':Us}(S:Sk rk L A C u)(h:LR rk' L' u')(e:u'.F=u.F):Sk rk' L' A (up C A.l (.lst (L'.map nT))) u':=
 ⟨by rw[Zf S.rl];exact S.r,by rw[Zf S.ne,e];exact S.f,Ze,h,S.ne,λf hf=>S.ar f (e▸hf)⟩
def Sk.new {p:WP}(S:Sk rk L A C u)(hp:C p=none):Sk rk L A (up C p o) u:=
 have k:∀{b:WP} {w:O},C b=some w->up C p o b=some w:=λ{b w} h=>by rw[Zf λz=>by rw[z,hp] at h;cases h];exact h
 ⟨k S.r,k S.f,k S.l,S.lr,S.ne,S.ar⟩
def Sk.other {p:WP}(S:Sk rk L A C u)(h1:p≠A.r)(h2:p≠A.f)(h3:p≠A.l):Sk rk L A (up C p o) u:=
 ⟨by rw[Zf h1.symm];exact S.r,by rw[Zf h2.symm];exact S.f,by rw[Zf h3.symm];exact S.l,S.lr,S.ne,S.ar⟩
def Eu {xs:List Nat}{j y:Nat}(h:xs[j]?=some y):Oq (xs.map nT) (j:Int)=some (nT y):=Y8 (by rw[XM,h];rfl)
def G8 {a b:Int}{v:Bool}(h:(a==b)=v)(q:Q (.bl (!v)) C):Oz true (.int a) (.int b) C Q:=by rw[Gg,XY FV,h];exact q
def Ax {m j:Nat}(h:j<m):jk m (j:Int)=some j:=by
 unfold jk;rw[XY (by omega),XY (by omega)];rfl
def W6:(sF A).lookup ("leads":Str)=some (.ref A.l:T):=rfl
def Rq:(sF A).lookup ("forms":Str)=some (.ref A.f:T):=rfl
def sw {y z w:Nat}(h:LR rk L u)(h1:L[y]?=some z)(n:z≠y)(h2:L[z]?=some w):LR rk (L.set y w) u/\(L.set y w)[y]?=some w/\w<L.length/\rk w<rk y/\u.rt w=u.rt y/\w≠y:=by
 obtain⟨a1,a2,a3⟩:=h.st y z h1;obtain⟨b1,b2,b3⟩:=h.st z w h2;have hy:y<L.length:=(BB.mp h1).1;have hw:rk w<rk y/\u.rt w=u.rt y:=by
  by_cases c:w=z
  ·rw[c];exact a3 n
  ·exact⟨Nat.lt_trans (b3 c).1 (a3 n).1,(b3 c).2.trans (a3 n).2⟩
 have wy:w≠y:=λe=>by have:=hw.1;rw[e] at this;exact BJ _ this
 refine⟨⟨by rw[CM];exact h.len,λx v e=>?_⟩,by rw[BZ hy],b1,hw.1,hw.2,wy⟩;rw[CM];by_cases c:y=x
 ·subst c;rw[BZ hy] at e
  cases e
  exact⟨b1,λz=>absurd z wy,λ_=>hw⟩
 ·rw[CL c] at e;exact h.st x v e
def Uh (R:Rp W ρ)(S:Sl A C u)(hx:x<u.F.length)(q:∀C',Sl A C' u->Fx A C C'->Q (nT (u.rt x)) C'):W (n+1) Kh [.ref A.r,nT x] C Q χ:=by
 obtain⟨rk,L,S⟩:=S;refine R.o_Slots_shared FV ?_;unfold X9 Wk;refine Qa (λm τ C'=>∃y L',τ=[some (.ref A.r),some (nT y)]/\y<u.F.length/\u.rt y=u.rt x/\rk y=m/\Sk rk L' A C' u/\Fx A C C') (m:=rk x) ⟨x,L,FV,hx,FV,FV,S,Fx.refl _ _⟩ ?_;rintro m τ C' N ⟨y,L',rfl,hy,hr,rfl,S',F'⟩ hN;have hl:=S'.lr.len;obtain⟨z,hz⟩:∃z,L'[y]?=some z:=⟨_,BG (by omega)⟩;refine⟨_,FV,_,_,_,_,FV,S'.r,.head _,W6,_,FV,_,_,S'.l,Eu hz,_,FV,?_⟩;obtain⟨z1,z2,z3⟩:=S'.lr.st y z hz;by_cases c:z=y
 ·refine G8 (v:=true) (by rw[c];exact XU _) ⟨_,FV,?_⟩;refine⟨_,FV,?_⟩;rw[show y=u.rt x by rw[<-hr];exact(z2 c).symm];exact q C' ⟨rk,L',S'⟩ F'
 ·refine G8 (v:=false) (beq_eq_false_iff_ne.mpr λe=>c (by omega)) ⟨_,FV,?_⟩;obtain⟨w,hw⟩:∃w,L'[z]?=some w:=⟨_,BG z1⟩;obtain⟨l1,l2,l3,l4,l5,l6⟩:=sw S'.lr hz c hw;refine⟨_,FV,_,_,_,_,FV,S'.r,.head _,W6,_,FV,_,_,_,_,FV,S'.r,.head _,W6,_,FV,_,_,S'.l,Eu hz,_,_,S'.l,Eu hw,?_⟩;refine⟨_,FV,_,_,_,_,FV,S'.r,.head _,W6,_,FV,_,_,_,y,FV,FV,S'.l,Ax (by rw[XI];omega),?_⟩;have S2:=S'.lead l1 FV;have em:(L'.map nT).set y (nT w)=(L'.set y w).map nT:=List.map_set.symm;rw[em];refine⟨_,FV,_,_,_,_,FV,S2.r,.head _,W6,_,FV,_,_,S2.l,Eu l2,?_⟩;exact hN (rk w) _ _ l4 ⟨w,L'.set y w,FV,by omega,l5.trans hr,FV,S2,F'.upl⟩
def O7 (R:Rp W ρ){f:Option Fm}(S:Sl A C u)(o:u.Ok)(hx:x<u.F.length)(hf:u.F[u.rt x]?=some f)(q:∀C',Sl A C' u->Fx A C C'->Q (yo f) C'):W (n+2) Md [.ref A.r,nT x] C Q χ:=by
 refine R.o_Slots_form_of FV ?_;unfold Xv X0;obtain⟨rk,L,S0⟩:=id S;refine⟨_,FV,_,_,_,_,FV,S0.r,.head _,Rq,_,FV,_,_,_,_,FV,S0.r,FV,FV,_,FV,?_⟩;dsimp only[Zw];refine Uh R (n:=n) S hx λC' S' F'=>?_;obtain⟨rk',L',S1⟩:=id S';exact⟨_,_,S1.f,Y8 (by rw[XM,hf];rfl),q C' S' F'⟩
def zT (R:Rp W ρ){f:Option Fm}(S:Sl A C u)(o:u.Ok)(hn:u.F.length<=90000)(ha:∀g,f=some g->uH g=true)(q:∀C',Sl A C' (u.add f)->Fx A C C'->Q (nT u.F.length) C'):W (n+1) Ie [.ref A.r,yo f] C Q χ:=by
 refine R.o_Slots_known FV ?_;unfold Ww W4;obtain⟨rk,L,S⟩:=S;refine⟨_,FV,_,_,_,_,FV,S.r,.head _,Rq,_,FV,_,S.f,?_⟩;refine⟨_,FV,_,_,_,_,FV,S.r,.head _,Rq,⟨_,_,FV,S.f⟩,_,FV,_,_,_,FV,FV,S.f,Yz (by rw[XI];omega),?_⟩;have r1:up C A.f (.lst (u.F.map yo++[yo f])) A.r=some (.ins "Slots" (sF A)):=by rw[Zf S.rf];exact S.r
 have l1:up C A.f (.lst (u.F.map yo++[yo f])) A.l=some (.lst (L.map nT)):=by rw[Zf S.ne.symm];exact S.l
 refine⟨_,FV,_,_,_,_,FV,r1,.head _,W6,⟨_,_,FV,l1⟩,_,FV,_,_,_,FV,FV,l1,Yz (by rw[XI,S.lr.len];omega),?_⟩;refine⟨_,FV,?_⟩;have ln:(((u.F.map yo).length:Nat):Int)=((u.F.length:Nat):Int):=by rw[XI]
 rw[ln];refine q _ ⟨rk,L++[u.F.length],?_⟩ (((Fx.refl _ _).upf).upl);refine⟨by rw[Zf S.rl];exact r1,?_,?_,⟨by show _=(u.F++[f]).length;rw[BA,BA,S.lr.len];rfl,λx y e=>?_⟩,S.ne,λg hg=>?_⟩
 ·rw[Zf S.ne,Ze];show _=some (O.lst ((u.F++[f]).map yo));rw[XL];rfl
 ·rw[Ze,XL];rfl
 ·have hl:=S.lr.len;rw[BA,BF];by_cases c:x<L.length
  ·rw[BO c] at e;obtain⟨h1,h2,h3⟩:=S.lr.st x y e;have nx:x≠u.F.length:=by omega
   have ny:y≠u.F.length:=by omega
   refine⟨by omega,λz=>?_,λz=>⟨(h3 z).1,?_⟩⟩
   ·show(if x=u.F.length then x else u.rt x)=x;rw[XX nx];exact h2 z
   ·show(if y=u.F.length then y else u.rt y)=(if x=u.F.length then x else u.rt x);rw[XX nx,XX ny];exact(h3 z).2
  ·have hx:x=L.length:=by
    have:=(BB.mp e).1;rw[BA,BF] at this;omega
   subst hx;rw[BM (XE _),DS] at e;have e:u.F.length=y:=YH e;refine⟨by omega,λz=>?_,λz=>absurd (by omega) z⟩;show(if L.length=u.F.length then L.length else u.rt L.length)=L.length;rw[XY hl]
 ·rcases XS.mp (show some g∈u.F++[f] from hg) with h | h
  ·exact S.ar g h
  ·exact ha g (XQ.mp h).symm
def Ix (R:Rp W ρ)(S:Sl A C u)(o:u.Ok)(hn:u.F.length<=90000)(q:∀C',Sl A C' (u.add none)->Fx A C C'->Q (nT u.F.length) C'):W (n+2) Mc [.ref A.r] C Q χ:=by
 refine R.o_Slots_unknown FV ?_;unfold Xu Xz;obtain⟨rk,L,S0⟩:=id S;refine⟨_,FV,_,_,_,_,FV,S0.r,FV,FV,?_⟩;dsimp only[Zw,Zt,eC];exact zT R (n:=n) (f:=none) S o hn (λg h=>by cases h) q
end
section
variable {W:Nat->Calls}{ρ:Prop}{rk:Nat->Nat}{L:List Nat}{A:Sd}{C C':Hw}{u:Us}{Q:WK}{χ:WX}{n x a b:Nat}{o:O}
def yf (h:LR rk L u)(ha:u.rt a=a)(hb:u.rt b=b)(hla:a<u.F.length)(hlb:b<u.F.length)(n:a≠b):∃rk',LR rk' (L.set a b) (u.join a b):=by
 refine⟨λx=>if u.rt x=a then rk x+rk b+1 else rk x,⟨by rw[CM];exact h.len,λx y e=>?_⟩⟩;have hl:=h.len;have jr:∀z,(u.join a b).rt z=if u.rt z=a then b else u.rt z:=λ_=>rfl
 rw[CM];by_cases c:a=x
 ·subst c;rw[BZ (by omega)] at e
  cases e
  refine⟨by omega,λz=>absurd z.symm n,λ_=>⟨?_,?_⟩⟩
  ·show(if u.rt b=a then rk b+rk b+1 else rk b)<(if u.rt a=a then rk a+rk b+1 else rk a);rw[XX (by rw[hb];exact n.symm),XY ha];omega
  ·rw[jr,jr,XX (by rw[hb];exact n.symm),XY ha,hb]
 ·rw[CL c] at e;obtain⟨h1,h2,h3⟩:=h.st x y e;refine⟨h1,λz=>?_,λz=>⟨?_,?_⟩⟩
  ·have r:=h2 z;rw[jr,XX (by rw[r];exact λw=>c w.symm),r]
  ·obtain⟨r1,r2⟩:=h3 z;show(if u.rt y=a then rk y+rk b+1 else rk y)<(if u.rt x=a then rk x+rk b+1 else rk x);rw[r2]
   split<;>omega
  ·rw[jr,jr,(h3 z).2]
def wV {a b:Str}{v:Bool}(h:(a==b)=v)(q:Q (.bl (!v)) C):Oz true (.str a) (.str b) C Q:=by rw[Wy,XY FV,h];exact q
abbrev pT (p:Nat×Nat):T:=.tup [nT p.1,nT p.2]
def Ea {f:Fm}:yo (some f)=.tup (.str f.tag::f.ps.map nT):=by cases f<;>rfl
def Th {x:T}{xs:List T}:Nw (x::xs) (some 1) none=xs:=by
 unfold Nw HT.sIx;simp
def Lc {x:T}{xs:List T}:¬(HT.sIx (x::xs).length 0 (some 1)=0/\HT.sIx (x::xs).length (x::xs).length none=(x::xs).length):=by
 rintro⟨h,_⟩;unfold HT.sIx at h;simp at h
def gL {f g:Fm}:Nn (f.ps.map nT) (g.ps.map nT)=(E4 f g).map pT:=by
 unfold Nn E4;rw[List.zip_map,YE];rfl
inductive Jn (u:Us)(a b:Nat):Us->List (Nat×Nat)->Prop
 | op:u.F[a]?=some none->Jn u a b (u.join a b) []
 | k0 {f:Fm}:u.F[a]?=some (some f)->u.F[b]?=some none->Jn u a b (u.join b a) []
 | k2 {f g:Fm}:u.F[a]?=some (some f)->u.F[b]?=some (some g)->f.tag=g.tag/\f.ps.length=g.ps.length->Jn u a b (u.join b a) (E4 f g)
def v9 {y:Nat}{f:Option Fm}(h:u.F[y]?=some f):Oq (u.F.map yo) (y:Int)=some (yo f):=Y8 (by rw[XM,h];rfl)
def Yy {m:Nat}(h:m<=100000):m<=sizeLine:=XN h (by decide)
def Ad (R:Rp W ρ)(S:Sl A C u)(ha:u.rt a=a)(hb:u.rt b=b)(hla:a<u.F.length)(hlb:b<u.F.length)(ne:a≠b)
  (hev:∀f g:Fm,u.F[a]?=some (some f)->u.F[b]?=some (some g)->f.tag=g.tag\/ρ)
  (q:∀C' p u' ps,Sl A C' u'->Fx A C C'->C p=none->C' p=some (.lst (ps.map pT))->Jn u a b u' ps->Q (.ref p) C'):W (n+2) Nd [.ref A.r,nT a,nT b] C Q χ:=by
 refine R.o_Slots_join_two FV ?_;unfold Xc Xi;obtain⟨rk,L,S⟩:=S;have hl:=S.lr.len;obtain⟨fa,hfa⟩:∃f,u.F[a]?=some f:=⟨_,BG hla⟩;obtain⟨fb,hfb⟩:∃f,u.F[b]?=some f:=⟨_,BG hlb⟩;refine⟨_,FV,_,_,_,_,FV,S.r,.head _,Rq,_,FV,_,_,S.f,v9 hfa,?_⟩;refine⟨_,FV,_,_,_,_,FV,S.r,.head _,Rq,_,FV,_,_,S.f,v9 hfb,?_⟩;have nil:∀{C1:Hw} {u':Us},Sl A C1 u'->Fx A C C1->Jn u a b u' []->(∀p,C1 p=none->C p=none)->(([]:List T).length<=sizeLine/\∀p,C1 p=none->Q (.ref p) (up C1 p (.lst []))):=λ{C1 u'} S1 F1 j hn=>by
  obtain⟨rk1,L1,S1⟩:=S1;exact⟨by decide,λp hp=>q _ p _ [] ⟨rk1,L1,S1.new hp⟩ (λc w m1 m2 e=>by rw[Zf λz=>by rw[z,hn p hp] at e;cases e];exact F1 c w m1 m2 e) (hn p hp) Ze j⟩
 have nn:∀{L':List Nat} (p:WP),up C A.l (.lst (L'.map nT)) p=none->C p=none:=λ{L'} p hp=>by
  by_cases c:p=A.l
  ·rw[c,Ze] at hp;cases hp
  ·rw[Zf c] at hp;exact hp
 cases fa with
 | none=>
  refine⟨_,FV,FV,true,FV,?_⟩;obtain⟨rk',lr⟩:=yf S.lr ha hb hla hlb ne;have em:(L.map nT).set a (nT b)=(L.set a b).map nT:=List.map_set.symm;refine⟨_,FV,_,FV,_,_,_,_,FV,S.r,.head _,W6,_,FV,_,_,_,a,FV,FV,S.l,Ax (by rw[XI];omega),?_⟩;rw[em];exact nil ⟨rk',_,S.lead lr FV⟩ (Fx.refl _ _).upl (.op hfa) nn
 | some f=>
  rw[Ea];refine⟨_,FV,FV,false,FV,?_⟩;obtain⟨rk',lr⟩:=yf S.lr hb ha hlb hla ne.symm;have em:(L.map nT).set b (nT a)=(L.set b a).map nT:=List.map_set.symm;refine⟨_,FV,_,FV,_,_,_,_,FV,S.r,.head _,W6,_,FV,_,_,_,b,FV,FV,S.l,Ax (by rw[XI];omega),?_⟩;rw[em];have S1:=S.lead lr FV
  cases fb with
  | none=>
   refine⟨_,FV,FV,true,FV,?_⟩;exact nil ⟨rk',_,S1⟩ (Fx.refl _ _).upl (.k0 hfa hfb) nn
  | some g=>
   rw[Ea];refine⟨_,FV,FV,false,FV,?_⟩;have e2:f.tag=g.tag->f.ps.length=g.ps.length:=nP (S.ar f (BH hfa)) (S.ar g (BH hfb));by_cases e1:f.tag=g.tag
   rotate_left
   ·have l1:=ut (S.ar f (BH hfa));have l2:=ut (S.ar g (BH hfb));refine⟨_,FV,_,Yf,_,FV,_,Yf,wV (v:=false) (beq_eq_false_iff_ne.mpr e1) ⟨_,FV,Yi ?_⟩⟩;have s1:(Str.ofString "a ").length=2:=by decide
    have s2:(Str.ofString " is not alike to a ").length=19:=by decide
    refine⟨_,FV,_,Yf,Yy (by omega),Yy (by rw[DH];omega),_,FV,_,Yf,Yy (by rw[DH,DH];omega),ZNB FV,?_⟩;exact R.o_raise_NoKind ((hev f g hfa hfb).resolve_left e1)
   have e2:=e2 e1;refine⟨_,FV,_,Yf,_,FV,_,Yf,wV (v:=true) (by rw[e1];exact XU _) ⟨_,FV,?_⟩⟩;refine⟨_,FV,_,FV,Lc,_,FV,_,FV,Lc,_,_,FV,?_,?_,λp hp=>?_⟩
   ·rw[Th,Th,XI,XI];exact e2
   ·rw[Th,List.length_map];cases f<;>simp[Fm.ps]
   ·rw[Th,Th,gL];have hn:=nn p hp;exact q _ p _ _ ⟨rk',_,S1.new hp⟩ (λc w m1 m2 e=>by rw[Zf λz=>by rw[z,hn] at e;cases e];exact(Fx.refl A C).upl c w m1 m2 e) hn Ze (.k2 hfa hfb ⟨e1,e2⟩)
end
end K27
namespace Fn
open PySem WL
inductive Tr where
 | num (v:Int) | nm (x:Str) | stop (x:Str)
 | does (o:Str) (a b:Tr) | fn (x:Str) (b:Tr) | call (a b:Tr) | first (a b:Tr)
 | lt (n:Nat) (xs:Fin n->Str) (ts:Fin n->Tr) (b:Tr)
 | sh0 (c:Str) | sh2 (c:Str) (a b:Tr)
 | chT (a n y:Tr) | chL (a n:Tr) (x y:Str) (c:Tr) | chP (a:Tr) (x y:Str) (b:Tr)
def tt:Tr->T
 | .num v=>.tup [.str "number",.int v]
 | .nm x=>.tup [.str "name",.str x]
 | .stop x=>.tup [.str "stop",.str x]
 | .does o a b=>.tup [.str "does",.str o,tt a,tt b]
 | .fn x b=>.tup [.str "fun",.str x,tt b]
 | .call a b=>.tup [.str "call",tt a,tt b]
 | .first a b=>.tup [.str "first",tt a,tt b]
 | .lt n xs ts b=>.tup [.str "let",.tup ((List.finRange n).map λi=>.tup [.str (xs i),tt (ts i)]),tt b]
 | .sh0 c=>.tup [.str "shape",.str c,.tup []]
 | .sh2 c a b=>.tup [.str "shape",.str c,.tup [tt a,tt b]]
 | .chT a n y=>.tup [.str "choose",tt a,.tup [.tup [.str "No",.tup [],tt n],.tup [.str "Yes",.tup [],tt y]]]
 | .chL a n x y c=>.tup [.str "choose",tt a,.tup [.tup [.str "Nil",.tup [],tt n],.tup [.str "Cons",.tup [.str x,.str y],tt c]]]
 | .chP a x y b=>.tup [.str "choose",tt a,.tup [.tup [.str "Pair",.tup [.str x,.str y],tt b]]]
def bnd {α:Type}(xs:List Str)(ks:List α)(G:Str->Option α):Str->Option α:=λx=>match (xs.zip ks).reverse.lookup x with | some k=>some k | none=>G x
def rn {α β:Type}{f:α->β}{xs:List Str}{ks:List α}{G:Str->Option α}:bnd xs (ks.map f) (λx=>(G x).map f)=λx=>(bnd xs ks G x).map f:=by
 funext x
 unfold bnd;have e:(xs.zip (ks.map f)).reverse=((xs.zip ks).reverse).map λp=>(p.1,f p.2):=by
  rw[List.zip_map_right,DV];rfl
 have l:∀l:List (Str×α),(l.map λp=>(p.1,f p.2)).lookup x=(l.lookup x).map f:=by
  intro l
  induction l with
  | nil=>rfl
  | cons p l ih=>
   obtain⟨a,b⟩:=p;simp only[List.map_cons,List.lookup_cons]
   cases x==a
   ·exact ih
   ·rfl
 rw[e,l]
 cases (xs.zip ks).reverse.lookup x<;>rfl
abbrev Ev:=Str->Option Kd
abbrev Ib:Kd:=.k0 "num"
abbrev Fe:Kd:=.k0 "truth"
abbrev Nb (p:Kd):Kd:=.k1 "list" p
abbrev sC (p q:Kd):Kd:=.k2 "pair" p q
abbrev sB (p q:Kd):Kd:=.k2 "to" p q
def jZ (o:Str):Str:=if o="<"\/o="=" then "truth" else "num"
abbrev Wn {n:Nat}(xs:Fin n->Str):List Str:=(List.finRange n).map xs
inductive Ji:Tr->Ev->Kd->List (Ev×Tr×Kd)->Prop
 | num {v G}:Ji (.num v) G Ib []
 | nm {x G k}:G x=some k->Ji (.nm x) G k []
 | stop {w G k}:Ji (.stop w) G k []
 | does {o a b G}:Ji (.does o a b) G (.k0 (jZ o)) [(G,a,Ib),(G,b,Ib)]
 | fn {x b G p r}:Ji (.fn x b) G (sB p r) [(bnd [x] [p] G,b,r)]
 | call {a b G k p}:Ji (.call a b) G k [(G,a,sB p k),(G,b,p)]
 | first {a b G k p}:Ji (.first a b) G k [(G,a,p),(G,b,k)]
 | lt {n xs ts b G k} {ks:Fin n->Kd}:Ji (.lt n xs ts b) G k (((List.finRange n).map λi=>(bnd (Wn xs) ((List.finRange n).map ks) G,ts i,ks i))++[(bnd (Wn xs) ((List.finRange n).map ks) G,b,k)])
 | nil {G p}:Ji (.sh0 "Nil") G (Nb p) []
 | no {G}:Ji (.sh0 "No") G Fe []
 | yes {G}:Ji (.sh0 "Yes") G Fe []
 | cons {a b G p}:Ji (.sh2 "Cons" a b) G (Nb p) [(G,a,p),(G,b,Nb p)]
 | pair {a b G p q}:Ji (.sh2 "Pair" a b) G (sC p q) [(G,a,p),(G,b,q)]
 | chT {a n y G k}:Ji (.chT a n y) G k [(G,a,Fe),(G,n,k),(G,y,k)]
 | chL {a n x y c G k p}:Ji (.chL a n x y c) G k [(G,a,Nb p),(G,n,k),(bnd [x,y] [p,Nb p] G,c,k)]
 | chP {a x y b G k p q}:Ji (.chP a x y b) G k [(G,a,sC p q),(bnd [x,y] [p,q] G,b,k)]
mutual
inductive HT:Ev->Tr->Kd->List Kd->Prop
 | mk {G t k cs rs}:Ji t G k cs->HTs cs rs->HT G t k (k::rs)
inductive HTs:List (Ev×Tr×Kd)->List Kd->Prop
 | nil:HTs [] []
 | cons {G t k r cs rs}:HT G t k r->HTs cs rs->HTs ((G,t,k)::cs) (r++rs)
end
def HTs.app:∀{cs ds:List (Ev×Tr×Kd)} {r s:List Kd},HTs cs r->HTs ds s->HTs (cs++ds) (r++s)
 | [],_,_,_,h,q=>by cases h;exact q
 | _::_,_,_,_,h,q=>by
  cases h with
  | cons a b=>rw[YL];exact .cons a (HTs.app b q)
def HTs.split:∀{cs ds:List (Ev×Tr×Kd)} {r:List Kd},HTs (cs++ds) r->∃a b,r=a++b/\HTs cs a/\HTs ds b
 | [],_,r,h=>⟨[],r,FV,.nil,h⟩
 | _::_,_,_,h=>by
  cases h with
  | cons a b=>
   obtain⟨x,y,rfl,h1,h2⟩:=HTs.split b;exact⟨_,y,(YL ..).symm,.cons a h1,h2⟩
def HTs.take {G:Ev}{t:Tr}{k:Kd}{ds:List (Ev×Tr×Kd)}{r:List Kd}(h:HTs ((G,t,k)::ds) r):∃cs r',Ji t G k cs/\r=k::r'/\HTs (cs++ds) r':=by
 cases h with
 | cons a b=>
  cases a with
  | mk x y=>exact⟨_,_,x,FV,y.app b⟩
def HTs.give {G:Ev}{t:Tr}{k:Kd}{cs ds:List (Ev×Tr×Kd)}{r:List Kd}(x:Ji t G k cs)(h:HTs (cs++ds) r):HTs ((G,t,k)::ds) (k::r):=by
 obtain⟨a,b,rfl,h1,h2⟩:=h.split;exact .cons (.mk x h1) h2
abbrev Pl:=(Str->Option Nat)×Tr×Nat
def Pl.ev (σ:Nat->Kd)(p:Pl):Ev×Tr×Kd:=(λx=>(p.1 x).map σ,p.2.1,σ p.2.2)
def nZ (n:Nat)(p:Pl):Prop:=p.2.2<n/\∀x i,p.1 x=some i->i<n
def lR {σ σ':Nat->Kd}{n:Nat}{p:Pl}(h:nZ n p)(e:∀i,i<n->σ i=σ' i):Pl.ev σ p=Pl.ev σ' p:=by
 unfold Pl.ev;rw[e _ h.1];congr 1
 funext x
 cases q:p.1 x with
 | none=>rfl
 | some i=>show some (σ i)=some (σ' i);rw[e i (h.2 x i q)]
def Tr.bg:Tr->Nat
 | .lt n _ _ _=>n
 | _=>3
structure uz (u:Us)(p:Pl)(u':Us)(ps:List Pl):Prop where
 o:u'.Ok
 c:Vn u' []
 le:u.F.length<=u'.F.length
 big:u'.F.length<=u.F.length+p.2.1.bg
 ok:∀z∈ps,nZ u'.F.length z
 co:∀σ cs,X6 u σ->Ji p.2.1 (Pl.ev σ p).1 (σ p.2.2) cs->∃σ',(∀i,i<u.F.length->σ' i=σ i)/\X6 u' σ'/\ps.map (Pl.ev σ')=cs
 so:∀σ,X6 u' σ->X6 u σ/\Ji p.2.1 (Pl.ev σ p).1 (σ p.2.2) (ps.map (Pl.ev σ))
def Tr.scs:Tr->List (List Str×Tr)
 | .does _ a b=>[([],a),([],b)]
 | .fn x b=>[([x],b)]
 | .call a b=>[([],a),([],b)]
 | .first a b=>[([],a),([],b)]
 | .lt _ xs ts b=>((List.finRange _).map λi=>(Wn xs,ts i))++[(Wn xs,b)]
 | .sh2 _ a b=>[([],a),([],b)]
 | .chT a n y=>[([],a),([],n),([],y)]
 | .chL a n x y c=>[([],a),([],n),([x,y],c)]
 | .chP a x y b=>[([],a),([x,y],b)]
 | _=>[]
abbrev As:=List (List Nat×Nat)
def Cb (t:Tr)(as:As)(σ:Nat->Kd)(G:Ev):List (Ev×Tr×Kd):=(t.scs.zip as).map λz=>(bnd z.1.1 (z.2.1.map σ) G,z.1.2,σ z.2.2)
structure Pp (u u':Us)(P:(Nat->Kd)->Prop):Prop where
 o:u'.Ok
 c:Vn u' []
 le:u.F.length<=u'.F.length
 sol:∀σ,X6 u' σ↔(X6 u σ/\P σ)
structure J2 (u:Us)(t:Tr)(s:Nat)(u':Us)(as:As):Prop where
 o:u'.Ok
 c:Vn u' []
 le:u.F.length<=u'.F.length
 big:u'.F.length<=u.F.length+t.bg
 n:as.map (λz=>z.1.length)=t.scs.map (λz=>z.1.length)
 ok:∀z∈as,z.2<u'.F.length/\∀i∈z.1,i<u'.F.length
 co:∀σ G cs,X6 u σ->Ji t G (σ s) cs->∃σ',(∀i,i<u.F.length->σ' i=σ i)/\X6 u' σ'/\Cb t as σ' G=cs
 so:∀σ G,X6 u' σ->X6 u σ/\Ji t G (σ s) (Cb t as σ G)
def ov (n:Nat)(σ:Nat->Kd)(ν:Nat->Kd):Nat->Kd:=λi=>if i<n then σ i else ν (i-n)
section
variable {u u1 u2:Us}{P:(Nat->Kd)->Prop}{σ σ' ν:Nat->Kd}{s n:Nat}{f:Fm}{t:Tr}{as:As}
def Xp {i:Nat}(h:i<n):ov n σ ν i=σ i:=XY h
def Wm:ov n σ ν n=ν 0:=by unfold ov;rw[XX (BJ _),DS]
def Vh {k:Nat}:ov n σ ν (n+k)=ν k:=by unfold ov;rw[XX (by omega)];congr 1;omega
def V4 (o:u.Ok)(h:X6 u σ)(e:∀i,i<u.F.length->σ' i=σ i):X6 u σ':=by
 refine⟨λx hx=>by rw[e x hx,e _ (o.lt x hx)];exact h.1 x hx,λx f hx=>?_⟩;rw[e x (BB.mp hx).1,h.2 x f hx];exact(Ol λp hp=>e p (o.ps x f hx p hp)).symm
def Pp.refl (o:u.Ok)(c:Vn u []):Pp u u λ_=>True:=⟨o,c,XE _,λσ=>⟨λh=>⟨h,trivial⟩,λh=>h.1⟩⟩
def Pp.new (e:Pp u u1 P):Pp u (u1.add none) P:=
 ⟨Vl e.o (λg h=>by cases h),Vw e.o e.c,by rw[Zs];exact EN e.le,λσ=>by
  rw[W0 e.o,e.sol];exact⟨λh=>h.1,λh=>⟨h,λg z=>by cases z⟩⟩⟩
def Pp.known (e:Pp u u1 P)(hf:∀p∈f.ps,p<u1.F.length):Pp u (u1.add (some f)) λσ=>P σ/\σ u1.F.length=f.ev σ:=
 ⟨Vl e.o (λg h=>by cases h;exact hf),Vw e.o e.c,by rw[Zs];exact EN e.le,λσ=>by
  rw[W0 e.o,e.sol,and_assoc];exact⟨λh=>⟨h.1,h.2.1,h.2.2 f FV⟩,λh=>⟨h.1,h.2.1,λg z=>by cases z;exact h.2.2⟩⟩⟩
structure Ak (u:Us)(s:Nat)(f:Fm)(u2:Us):Prop where
 o:u2.Ok
 c:Vn u2 []
 F:u2.F=u.F++[some f]
 sol:∀σ,X6 u2 σ↔(X6 u σ/\σ u.F.length=f.ev σ/\σ s=σ u.F.length)
def Ak.len (a:Ak u s f u2):u2.F.length=u.F.length+1:=by rw[a.F,BA];rfl
def Pp.ak (e:Pp u u1 P)(a:Ak u1 s f u2):Pp u u2 λσ=>P σ/\σ u1.F.length=f.ev σ/\σ s=σ u1.F.length:=
 ⟨a.o,a.c,by rw[a.len];exact EN e.le,λσ=>by rw[a.sol,e.sol,and_assoc]⟩
def Wi {u':Us}{B:Nat}(hB:B<=t.bg)(e:Pp u u' P)(o:u.Ok)(big:u'.F.length<=u.F.length+B)(n:as.map (λz=>z.1.length)=t.scs.map (λz=>z.1.length))(ok:∀z∈as,z.2<u'.F.length/\∀i∈z.1,i<u'.F.length)
  (co:∀σ G cs,Ji t G (σ s) cs->∃ν,P (ov u.F.length σ ν)/\Cb t as (ov u.F.length σ ν) G=cs) (so:∀σ G,P σ->Ji t G (σ s) (Cb t as σ G)):J2 u t s u' as:=
 ⟨e.o,e.c,e.le,XN big (FI hB _),n,ok,λσ G cs h r=>by
  obtain⟨ν,h1,h2⟩:=co σ G cs r;exact⟨_,λi hi=>Xp hi,(e.sol _).mpr ⟨V4 o h λi hi=>Xp hi,h1⟩,h2⟩,λσ G h=>by
  obtain⟨h1,h2⟩:=(e.sol σ).mp h;exact⟨h1,so σ G h2⟩⟩
def Jk {α:Type}{ks:List α}{G:Str->Option α}:bnd [] ks G=G:=by funext x;rfl
variable {v:Int}{x y w oo:Str}{a b c d:Tr}
def rC (o:u.Ok)(hs:s<u.F.length)(k:Ak u s (.f0 "num") u2)(cl:Vn u []):J2 u (.num v) s u2 []:=by
 refine Wi (B:=3) (XE 3) ((Pp.refl o cl).ak k) o (by rw[k.len];omega) FV (λz h=>by cases h) (λσ G cs r=>?_) λσ G h=>?_
 ·generalize hk:σ s=kk at r
  cases r
  exact⟨λ_=>Ib,⟨trivial,by rw[Wm];rfl,by rw[Xp hs,Wm,hk]⟩,FV⟩
 ·rw[h.2.2,h.2.1];exact .num
def ul (o:u.Ok)(cl:Vn u []):J2 u (.stop w) s u []:=by
 refine Wi (B:=3) (XE 3) (Pp.refl o cl) o (by omega) FV (λz h=>by cases h) (λσ G cs r=>?_) λσ G h=>.stop;generalize hk:σ s=kk at r
 cases r
 exact⟨λ_=>Ib,trivial,FV⟩
def jD {cc:Str}(hc:cc="No"\/cc="Yes")(o:u.Ok)(hs:s<u.F.length)(k:Ak u s (.f0 "truth") u2)(cl:Vn u []):J2 u (.sh0 cc) s u2 []:=by
 refine Wi (B:=3) (XE 3) ((Pp.refl o cl).ak k) o (by rw[k.len];omega) FV (λz h=>by cases h) (λσ G cs r=>?_) λσ G h=>?_
 ·generalize hk:σ s=kk at r;have e:kk=Fe/\cs=[]:=by
   rcases hc with rfl | rfl
   ·cases r with
    | no=>exact⟨FV,FV⟩
   ·cases r with
    | yes=>exact⟨FV,FV⟩
  obtain⟨rfl,rfl⟩:=e;exact⟨λ_=>Fe,⟨trivial,by rw[Wm];rfl,by rw[Xp hs,Wm,hk]⟩,FV⟩
 ·rw[h.2.2,h.2.1]
  rcases hc with rfl | rfl
  ·exact .no
  ·exact .yes
def uo (o:u.Ok)(hs:s<u.F.length)(k:Ak u s (.f0 (jZ oo)) u1)(cl:Vn u []):J2 u (.does oo a b) s (u1.add (some (.f0 "num"))) [([],u1.F.length),([],u1.F.length)]:=by
 have kl:=k.len;refine Wi (B:=3) (XE 3) (((Pp.refl o cl).ak k).known (f:=.f0 "num") (λp h=>by cases h)) o (by rw[Zs];omega) FV ?_ (λσ G cs r=>?_) λσ G h=>?_
 ·intro z hz;rw[Zs];simp only[ZM,ZN,or_false] at hz
  rcases hz with rfl | rfl<;>exact⟨BK _,λi h=>by cases h⟩
 ·generalize hk:σ s=kk at r
  cases r
  refine⟨λi=>if i=0 then .k0 (jZ oo) else Ib,⟨⟨trivial,by rw[Wm];rfl,by rw[Xp hs,Wm,hk];rfl⟩,by rw[kl,Vh];rfl⟩,?_⟩;show[(bnd [] _ G,a,_),(bnd [] _ G,b,_)]=_;simp only[Jk];rw[kl,Vh];rfl
 ·rw[h.1.2.2,h.1.2.1];show Ji _ _ _ [(bnd [] _ G,a,_),(bnd [] _ G,b,_)];simp only[Jk];rw[h.2];exact .does
def jE (o:u.Ok)(hs:s<u.F.length)(cl:Vn u []):J2 u (.first a b) s (u.add none) [([],u.F.length),([],s)]:=by
 refine Wi (B:=3) (XE 3) (Pp.refl o cl).new o (by rw[Zs];omega) FV ?_ (λσ G cs r=>?_) λσ G h=>?_
 ·intro z hz;rw[Zs];simp only[ZM,ZN,or_false] at hz
  rcases hz with rfl | rfl
  ·exact⟨BK _,λi h=>by cases h⟩
  ·exact⟨by show s<_;omega,λi h=>by cases h⟩
 ·generalize hk:σ s=kk at r
  cases r with
  | @first _ _ _ _ p=>
   refine⟨λ_=>p,trivial,?_⟩;show[(bnd [] _ G,a,_),(bnd [] _ G,b,_)]=_;simp only[Jk];rw[Wm,Xp hs,hk]
 ·show Ji _ _ _ [(bnd [] _ G,a,_),(bnd [] _ G,b,_)];simp only[Jk];exact .first
def ur (o:u.Ok)(hs:s<u.F.length)(cl:Vn u []):J2 u (.call a b) s ((u.add none).add (some (.f2 "to" u.F.length s))) [([],u.F.length+1),([],u.F.length)]:=by
 have l1:(u.add none).F.length=u.F.length+1:=Zs;refine Wi (B:=3) (Nat.le_refl 3) ((Pp.refl o cl).new.known (f:=.f2 "to" u.F.length s) (λp h=>by simp only[Fm.ps,List.mem_cons,List.not_mem_nil,or_false] at h;rcases h with rfl | rfl<;>omega)) o (by rw[Zs,l1];omega) FV ?_ (λσ G cs r=>?_) λσ G h=>?_
 ·intro z hz;rw[Zs,l1];simp only[ZM,ZN,or_false] at hz
  rcases hz with rfl | rfl
  ·exact⟨by show u.F.length+1<_;omega,λi h=>by cases h⟩
  ·exact⟨by show u.F.length<_;omega,λi h=>by cases h⟩
 ·generalize hk:σ s=kk at r
  cases r with
  | @call _ _ _ _ p=>
   refine⟨λi=>if i=0 then p else sB p kk,⟨trivial,?_⟩,?_⟩
   ·rw[l1,Vh];show sB p kk=.k2 "to" (ov _ _ _ _) (ov _ _ _ s);rw[Wm,Xp hs,hk];rfl
   ·show[(bnd [] _ G,a,_),(bnd [] _ G,b,_)]=_;simp only[Jk];rw[Wm,Vh];rfl
 ·show Ji _ _ _ [(bnd [] _ G,a,σ (u.F.length+1)),(bnd [] _ G,b,_)];have e:=h.2;rw[l1] at e;simp only[Jk];rw[e];exact .call
def nO (o:u.Ok)(hs:s<u.F.length)(cl:Vn u [])(k:Ak ((u.add none).add none) s (.f2 "to" u.F.length (u.F.length+1)) u2):J2 u (.fn x b) s u2 [([u.F.length],u.F.length+1)]:=by
 have l1:(u.add none).F.length=u.F.length+1:=Zs;have l2:((u.add none).add none).F.length=u.F.length+2:=by rw[Zs,l1]
 have kl:=k.len;refine Wi (B:=3) (XE 3) ((Pp.refl o cl).new.new.ak k) o (by omega) FV ?_ (λσ G cs r=>?_) λσ G h=>?_
 ·intro z hz;rw[kl,l2,XQ.mp hz];exact⟨by show u.F.length+1<_;omega,λi h=>by rw[XQ.mp h];omega⟩
 ·generalize hk:σ s=kk at r
  cases r with
  | @fn _ _ _ p rr=>
   refine⟨λi=>if i=0 then p else if i=1 then rr else sB p rr,⟨trivial,?_,?_⟩,?_⟩
   ·rw[l2,Vh];show sB p rr=.k2 "to" (ov _ _ _ _) (ov _ _ _ _);rw[Wm,Vh];rfl
   ·rw[l2,Vh,Xp hs,hk];rfl
   ·show[(bnd [x] [ov _ _ _ _] G,b,ov _ _ _ _)]=_;rw[Wm,Vh];rfl
 ·rw[h.2.2,h.2.1];exact .fn
def rD (o:u.Ok)(hs:s<u.F.length)(cl:Vn u [])(k:Ak (u.add none) s (.f1 "list" u.F.length) u2):J2 u (.sh0 "Nil") s u2 []:=by
 have l1:(u.add none).F.length=u.F.length+1:=Zs;have kl:=k.len;refine Wi (B:=3) (XE 3) ((Pp.refl o cl).new.ak k) o (by omega) FV (λz h=>by cases h) (λσ G cs r=>?_) λσ G h=>?_
 ·generalize hk:σ s=kk at r
  cases r with
  | @nil _ p=>
   refine⟨λi=>if i=0 then p else Nb p,⟨trivial,?_,?_⟩,FV⟩
   ·rw[l1,Vh];show Nb p=.k1 "list" (ov _ _ _ _);rw[Wm];rfl
   ·rw[l1,Vh,Xp hs,hk];rfl
 ·rw[h.2.2,h.2.1];exact .nil
def uq (o:u.Ok)(hs:s<u.F.length)(cl:Vn u [])(k:Ak (u.add none) s (.f1 "list" u.F.length) u2):J2 u (.sh2 "Cons" a b) s u2 [([],u.F.length),([],s)]:=by
 have l1:(u.add none).F.length=u.F.length+1:=Zs;have kl:=k.len;refine Wi (B:=3) (XE 3) ((Pp.refl o cl).new.ak k) o (by omega) FV ?_ (λσ G cs r=>?_) λσ G h=>?_
 ·intro z hz;rw[kl,l1];simp only[ZM,ZN,or_false] at hz
  rcases hz with rfl | rfl
  ·exact⟨by show u.F.length<_;omega,λi h=>by cases h⟩
  ·exact⟨by show s<_;omega,λi h=>by cases h⟩
 ·generalize hk:σ s=kk at r
  cases r with
  | @cons _ _ _ p=>
   refine⟨λi=>if i=0 then p else Nb p,⟨trivial,?_,?_⟩,?_⟩
   ·rw[l1,Vh];show Nb p=.k1 "list" (ov _ _ _ _);rw[Wm];rfl
   ·rw[l1,Vh,Xp hs,hk];rfl
   ·show[(bnd [] _ G,a,_),(bnd [] _ G,b,_)]=_;simp only[Jk];rw[Wm,Xp hs,hk];rfl
 ·show Ji _ _ _ [(bnd [] _ G,a,_),(bnd [] _ G,b,_)];simp only[Jk];rw[h.2.2,h.2.1];exact .cons
def um (o:u.Ok)(hs:s<u.F.length)(cl:Vn u [])(k:Ak ((u.add none).add none) s (.f2 "pair" u.F.length (u.F.length+1)) u2):J2 u (.sh2 "Pair" a b) s u2 [([],u.F.length),([],u.F.length+1)]:=by
 have l1:(u.add none).F.length=u.F.length+1:=Zs;have l2:((u.add none).add none).F.length=u.F.length+2:=by rw[Zs,l1]
 have kl:=k.len;refine Wi (B:=3) (XE 3) ((Pp.refl o cl).new.new.ak k) o (by omega) FV ?_ (λσ G cs r=>?_) λσ G h=>?_
 ·intro z hz;rw[kl,l2];simp only[ZM,ZN,or_false] at hz
  rcases hz with rfl | rfl
  ·exact⟨by show u.F.length<_;omega,λi h=>by cases h⟩
  ·exact⟨by show u.F.length+1<_;omega,λi h=>by cases h⟩
 ·generalize hk:σ s=kk at r
  cases r with
  | @pair _ _ _ p q=>
   refine⟨λi=>if i=0 then p else if i=1 then q else sC p q,⟨trivial,?_,?_⟩,?_⟩
   ·rw[l2,Vh];show sC p q=.k2 "pair" (ov _ _ _ _) (ov _ _ _ _);rw[Wm,Vh];rfl
   ·rw[l2,Vh,Xp hs,hk];rfl
   ·show[(bnd [] _ G,a,_),(bnd [] _ G,b,_)]=_;simp only[Jk];rw[Wm,Vh];rfl
 ·show Ji _ _ _ [(bnd [] _ G,a,_),(bnd [] _ G,b,_)];simp only[Jk];rw[h.2.2,h.2.1];exact .pair
def rE (o:u.Ok)(hs:s<u.F.length)(cl:Vn u []):J2 u (.chT a b c) s (u.add (some (.f0 "truth"))) [([],u.F.length),([],s),([],s)]:=by
 refine Wi (B:=3) (XE 3) ((Pp.refl o cl).known (f:=.f0 "truth") (λp h=>by cases h)) o (by rw[Zs];omega) FV ?_ (λσ G cs r=>?_) λσ G h=>?_
 ·intro z hz;rw[Zs];simp only[ZM,ZN,or_false] at hz
  rcases hz with rfl | rfl | rfl
  ·exact⟨by show u.F.length<_;omega,λi h=>by cases h⟩
  ·exact⟨by show s<_;omega,λi h=>by cases h⟩
  ·exact⟨by show s<_;omega,λi h=>by cases h⟩
 ·generalize hk:σ s=kk at r
  cases r
  refine⟨λ_=>Fe,⟨trivial,by rw[Wm];rfl⟩,?_⟩;show[(bnd [] _ G,a,_),(bnd [] _ G,b,_),(bnd [] _ G,c,_)]=_;simp only[Jk];rw[Wm,Xp hs,hk]
 ·show Ji _ _ _ [(bnd [] _ G,a,_),(bnd [] _ G,b,_),(bnd [] _ G,c,_)];simp only[Jk];rw[h.2];exact .chT
def rG (o:u.Ok)(hs:s<u.F.length)(cl:Vn u []):J2 u (.chL a b x y c) s ((u.add none).add (some (.f1 "list" u.F.length))) [([],u.F.length+1),([],s),([u.F.length,u.F.length+1],s)]:=by
 have l1:(u.add none).F.length=u.F.length+1:=Zs;refine Wi (B:=3) (XE 3) ((Pp.refl o cl).new.known (f:=.f1 "list" u.F.length) (λp h=>by rw[XQ.mp h];omega)) o (by rw[Zs,l1];omega) FV ?_ (λσ G cs r=>?_) λσ G h=>?_
 ·intro z hz;rw[Zs,l1];simp only[ZM,ZN,or_false] at hz
  rcases hz with rfl | rfl | rfl
  ·exact⟨by show u.F.length+1<_;omega,λi h=>by cases h⟩
  ·exact⟨by show s<_;omega,λi h=>by cases h⟩
  ·exact⟨by show s<_;omega,λi h=>by simp only[ZM,ZN,or_false] at h;omega⟩
 ·generalize hk:σ s=kk at r
  cases r with
  | @chL _ _ _ _ _ _ _ p=>
   refine⟨λi=>if i=0 then p else Nb p,⟨trivial,?_⟩,?_⟩
   ·rw[l1,Vh];show Nb p=.k1 "list" (ov _ _ _ _);rw[Wm];rfl
   ·show[(bnd [] _ G,a,_),(bnd [] _ G,b,_),(bnd [x,y] [ov _ _ _ _,ov _ _ _ _] G,c,_)]=_;simp only[Jk];rw[Wm,Vh,Xp hs,hk];rfl
 ·show Ji _ _ _ [(bnd [] _ G,a,σ (u.F.length+1)),(bnd [] _ G,b,_),(bnd [x,y] [σ u.F.length,σ (u.F.length+1)] G,c,_)];have e:=h.2;rw[l1] at e;simp only[Jk];rw[e];exact .chL
def rF (o:u.Ok)(hs:s<u.F.length)(cl:Vn u []):J2 u (.chP a x y b) s (((u.add none).add none).add (some (.f2 "pair" u.F.length (u.F.length+1)))) [([],u.F.length+2),([u.F.length,u.F.length+1],s)]:=by
 have l1:(u.add none).F.length=u.F.length+1:=Zs;have l2:((u.add none).add none).F.length=u.F.length+2:=by rw[Zs,l1]
 refine Wi (B:=3) (Nat.le_refl 3) ((Pp.refl o cl).new.new.known (f:=.f2 "pair" u.F.length (u.F.length+1)) (λp h=>by simp only[Fm.ps,List.mem_cons,List.not_mem_nil,or_false] at h;omega)) o (by rw[Zs,l2];omega) FV ?_ (λσ G cs r=>?_) λσ G h=>?_
 ·intro z hz;rw[Zs,l2];simp only[ZM,ZN,or_false] at hz
  rcases hz with rfl | rfl
  ·exact⟨by show u.F.length+2<_;omega,λi h=>by cases h⟩
  ·exact⟨by show s<_;omega,λi h=>by simp only[ZM,ZN,or_false] at h;omega⟩
 ·generalize hk:σ s=kk at r
  cases r with
  | @chP _ _ _ _ _ _ p q=>
   refine⟨λi=>if i=0 then p else if i=1 then q else sC p q,⟨trivial,?_⟩,?_⟩
   ·rw[l2,Vh];show sC p q=.k2 "pair" (ov _ _ _ _) (ov _ _ _ _);rw[Wm,Vh];rfl
   ·show[(bnd [] _ G,a,_),(bnd [x,y] [ov _ _ _ _,ov _ _ _ _] G,b,_)]=_;simp only[Jk];rw[Wm,Vh,Vh,Xp hs,hk];rfl
 ·show Ji _ _ _ [(bnd [] _ G,a,σ (u.F.length+2)),(bnd [x,y] [σ u.F.length,σ (u.F.length+1)] G,b,_)];have e:=h.2;rw[l2] at e;simp only[Jk];rw[e];exact .chP
def Us.addN (u:Us):Nat->Us
 | 0=>u
 | n+1=>(u.addN n).add none
def Uo:∀n,(u.addN n).F.length=u.F.length+n
 | 0=>rfl
 | n+1=>by show((u.addN n).add none).F.length=_;rw[Zs,Uo n];omega
def Pp.newN (e:Pp u u1 P):∀n,Pp u (u1.addN n) P
 | 0=>e
 | n+1=>(Pp.newN e n).new
abbrev Ui (u:Us)(n:Nat):List Nat:=(List.finRange n).map λi=>u.F.length+i.val
def yj {m:Nat}{xs:Fin m->Str}{ts:Fin m->Tr}{G:Ev}:Cb (.lt m xs ts b) (((Ui u m).map λo=>(Ui u m,o))++[(Ui u m,s)]) σ G=
  ((List.finRange m).map λi=>(bnd (Wn xs) ((List.finRange m).map λi=>σ (u.F.length+i.val)) G,ts i,σ (u.F.length+i.val)))++[(bnd (Wn xs) ((List.finRange m).map λi=>σ (u.F.length+i.val)) G,b,σ s)]:=by
 have e:(Ui u m).map σ=(List.finRange m).map λi=>σ (u.F.length+i.val):=by rw[YE];rfl
 unfold Cb Tr.scs;rw[List.zip_append (by rw[XI,XI,XI]),XL,YE,List.zip_map',YE,<-e];rfl
def nN {m:Nat}{xs:Fin m->Str}{ts:Fin m->Tr}(hm:m<=10)(o:u.Ok)(hs:s<u.F.length)(cl:Vn u []):J2 u (.lt m xs ts b) s (u.addN m) (((Ui u m).map λo=>(Ui u m,o))++[(Ui u m,s)]):=by
 have lo:∀i∈Ui u m,i<(u.addN m).F.length:=λi hi=>by
  obtain⟨j,_,rfl⟩:=XR.mp hi;rw[Uo];have:=j.isLt;omega
 refine Wi (B:=m) (Nat.le_refl m) ((Pp.refl o cl).newN m) o (by rw[Uo];omega) (by simp[Tr.scs,Function.comp_def]) ?_ (λσ G cs r=>?_) λσ G h=>?_
 ·intro z hz
  rcases XS.mp hz with hz | hz
  ·obtain⟨i,hi,rfl⟩:=XR.mp hz;exact⟨lo i hi,lo⟩
  ·rw[XQ.mp hz];exact⟨by show s<_;rw[Uo];omega,lo⟩
 ·generalize hk:σ s=kk at r
  cases r with
  | @lt _ _ _ _ _ _ ks=>
   refine⟨λi=>if h:i<m then ks ⟨i,h⟩ else Ib,trivial,?_⟩;rw[yj,Xp hs,hk];have e:∀i:Fin m,ov u.F.length σ (λi=>if h:i<m then ks ⟨i,h⟩ else Ib) (u.F.length+i.val)=ks i:=λi=>by
    rw[Vh,dif_pos i.isLt]
   simp only[e]
 ·rw[yj];exact .lt (ks:=λi=>σ (u.F.length+i.val))
end
def Tr.size:Tr->Nat
 | .num _=>1
 | .nm _=>1
 | .stop _=>1
 | .sh0 _=>1
 | .does _ a b=>1+(a.size+b.size)
 | .fn _ b=>1+b.size
 | .call a b=>1+(a.size+b.size)
 | .first a b=>1+(a.size+b.size)
 | .lt n _ ts b=>1+(((List.finRange n).map λi=>(ts i).size).sum+b.size)
 | .sh2 _ a b=>1+(a.size+b.size)
 | .chT a b c=>1+(a.size+(b.size+c.size))
 | .chL a b _ _ c=>1+(a.size+(b.size+c.size))
 | .chP a _ _ b=>1+(a.size+b.size)
def Tr.lok:Tr->Prop
 | .num _=>True
 | .nm _=>True
 | .stop _=>True
 | .sh0 _=>True
 | .does _ a b=>a.lok/\b.lok
 | .fn _ b=>b.lok
 | .call a b=>a.lok/\b.lok
 | .first a b=>a.lok/\b.lok
 | .lt n _ ts b=>n<=10/\(∀i,(ts i).lok)/\b.lok
 | .sh2 _ a b=>a.lok/\b.lok
 | .chT a b c=>a.lok/\b.lok/\c.lok
 | .chL a b _ _ c=>a.lok/\b.lok/\c.lok
 | .chP a _ _ b=>a.lok/\b.lok
def Dn (t:Tr):(t.scs.map λz=>z.2.size).sum+1=t.size:=by
 cases t with
 | lt n xs ts b=>
  show((((List.finRange n).map λi=>(Wn xs,ts i))++[(Wn xs,b)]).map λz=>z.2.size).sum+1=1+(((List.finRange n).map λi=>(ts i).size).sum+b.size);rw[XL,YE,EA];simp only[List.map_cons,List.map_nil,List.sum_cons,List.sum_nil,Nat.add_zero];have:((λz:List Str×Tr=>z.2.size)∘λi=>(Wn xs,ts i))=λi=>(ts i).size:=rfl;rw[this];omega
 | _=>simp[Tr.scs,Tr.size]<;>omega
def Fb {t:Tr}(h:t.lok):(∀m xs ts b,t=.lt m xs ts b->m<=10)/\∀z∈t.scs,z.2.lok:=by
 cases t with
 | lt n xs ts b=>
  refine⟨λm xs' ts' b' e=>(by cases e;exact h.1),λz hz=>?_⟩
  rcases XS.mp hz with hz | hz
  ·obtain⟨i,_,rfl⟩:=XR.mp hz;exact h.2.1 i
  ·rw[XQ.mp hz];exact h.2.2
 | num=>exact⟨λm xs' ts' b' e=>(by cases e),λz hz=>(by cases hz)⟩
 | nm=>exact⟨λm xs' ts' b' e=>(by cases e),λz hz=>(by cases hz)⟩
 | stop=>exact⟨λm xs' ts' b' e=>(by cases e),λz hz=>(by cases hz)⟩
 | sh0=>exact⟨λm xs' ts' b' e=>(by cases e),λz hz=>(by cases hz)⟩
 | fn=>exact⟨λm xs' ts' b' e=>(by cases e),λz hz=>(by rw[XQ.mp hz];exact h)⟩
 | does o a b=>exact⟨λm xs' ts' b' e=>(by cases e),λz hz=>(by simp only[Tr.scs,List.mem_cons,List.not_mem_nil,or_false] at hz;rcases hz with rfl | rfl;exact h.1;exact h.2)⟩
 | call a b=>exact⟨λm xs' ts' b' e=>(by cases e),λz hz=>(by simp only[Tr.scs,List.mem_cons,List.not_mem_nil,or_false] at hz;rcases hz with rfl | rfl;exact h.1;exact h.2)⟩
 | first a b=>exact⟨λm xs' ts' b' e=>(by cases e),λz hz=>(by simp only[Tr.scs,List.mem_cons,List.not_mem_nil,or_false] at hz;rcases hz with rfl | rfl;exact h.1;exact h.2)⟩
 | sh2 o a b=>exact⟨λm xs' ts' b' e=>(by cases e),λz hz=>(by simp only[Tr.scs,List.mem_cons,List.not_mem_nil,or_false] at hz;rcases hz with rfl | rfl;exact h.1;exact h.2)⟩
 | chP a x y b=>exact⟨λm xs' ts' b' e=>(by cases e),λz hz=>(by simp only[Tr.scs,List.mem_cons,List.not_mem_nil,or_false] at hz;rcases hz with rfl | rfl;exact h.1;exact h.2)⟩
 | chT a b c=>exact⟨λm xs' ts' b' e=>(by cases e),λz hz=>(by simp only[Tr.scs,List.mem_cons,List.not_mem_nil,or_false] at hz;rcases hz with rfl | rfl | rfl;exact h.1;exact h.2.1;exact h.2.2)⟩
 | chL a b x y c=>exact⟨λm xs' ts' b' e=>(by cases e),λz hz=>(by simp only[Tr.scs,List.mem_cons,List.not_mem_nil,or_false] at hz;rcases hz with rfl | rfl | rfl;exact h.1;exact h.2.1;exact h.2.2)⟩
def Tr.cost:Tr->Nat
 | .num _=>3
 | .nm _=>3
 | .stop _=>3
 | .sh0 _=>3
 | .does _ a b=>3+(a.cost+b.cost)
 | .fn _ b=>3+b.cost
 | .call a b=>3+(a.cost+b.cost)
 | .first a b=>3+(a.cost+b.cost)
 | .lt n _ ts b=>n+(((List.finRange n).map λi=>(ts i).cost).sum+b.cost)
 | .sh2 _ a b=>3+(a.cost+b.cost)
 | .chT a b c=>3+(a.cost+(b.cost+c.cost))
 | .chL a b _ _ c=>3+(a.cost+(b.cost+c.cost))
 | .chP a _ _ b=>3+(a.cost+b.cost)
def ub (t:Tr):(t.scs.map λz=>z.2.cost).sum+t.bg=t.cost:=by
 cases t with
 | lt n xs ts b=>
  show((((List.finRange n).map λi=>(Wn xs,ts i))++[(Wn xs,b)]).map λz=>z.2.cost).sum+n=n+(((List.finRange n).map λi=>(ts i).cost).sum+b.cost);rw[XL,YE,EA];simp only[List.map_cons,List.map_nil,List.sum_cons,List.sum_nil,Nat.add_zero];have:((λz:List Str×Tr=>z.2.cost)∘λi=>(Wn xs,ts i))=λi=>(ts i).cost:=rfl;rw[this];omega
 | _=>simp[Tr.scs,Tr.cost,Tr.bg]<;>omega
def iN (ps:List Pl):Nat:=(ps.map λp=>p.2.1.cost).sum
def tM (ps:List Pl):Nat:=(ps.map λp=>p.2.1.size).sum
def G0:Ev:=λ_=>none
structure Kn (t:Tr)(u:Us)(rows:List Nat)(ps:List Pl):Prop where
 o:u.Ok
 c:Vn u []
 len:1<=u.F.length/\u.F.length+iN ps<=1+t.cost
 sz:rows.length+tM ps=t.size
 rl:∀i∈rows,i<u.F.length
 pk:∀p∈ps,nZ u.F.length p/\p.2.1.lok
 co:∀k R,HT G0 t k R->∃σ R',X6 u σ/\R=rows.map σ++R'/\HTs (ps.map (Pl.ev σ)) R'
 so:∀σ R',X6 u σ->HTs (ps.map (Pl.ev σ)) R'->∃k,HT G0 t k (rows.map σ++R')
def Kn.step {t:Tr}{u u':Us}{rows:List Nat}{p:Pl}{ps qs:List Pl}(K:Kn t u rows (p::ps))(s:uz u p u' qs)(hq:qs.map (λz=>z.2.1)=p.2.1.scs.map (λz=>z.2)):Kn t u' (rows++[p.2.2]) (qs++ps) where
 o:=s.o
 c:=s.c
 len:=⟨XN K.len.1 s.le,by
  have h1:=K.len.2;have h2:=ub p.2.1;have h3:=s.big;have e:iN qs=(p.2.1.scs.map λz=>z.2.cost).sum:=by
   unfold iN;have:=congrArg (λl:List Tr=>(l.map Tr.cost).sum) hq;simp only[List.map_map] at this;exact this
  unfold iN at h1 e |-;rw[XL,EA,e];rw[YI,ET] at h1;omega⟩
 sz:=by
  have h1:=K.sz;have h2:=Dn p.2.1;have e:tM qs=(p.2.1.scs.map λz=>z.2.size).sum:=by
   unfold tM;have:=congrArg (λl:List Tr=>(l.map Tr.size).sum) hq;simp only[List.map_map] at this;exact this
  unfold tM at h1 e |-;rw[BA,XL,EA,e];rw[YI,ET] at h1;simp only[List.length_singleton];omega
 rl:=λi hi=>by
  rcases XS.mp hi with hi | hi
  ·exact XG (K.rl i hi) s.le
  ·rw[XQ.mp hi];exact XG (K.pk p (BC ..)).1.1 s.le
 pk:=λz hz=>by
  rcases XS.mp hz with hz | hz
  ·refine⟨s.ok z hz,?_⟩;have:z.2.1∈p.2.1.scs.map (λz=>z.2):=by rw[<-hq];exact XR.mpr ⟨z,hz,FV⟩
   obtain⟨y,hy,e⟩:=XR.mp this;rw[<-e];exact(Fb (K.pk p (BC ..)).2).2 y hy
  ·obtain⟨h1,h2⟩:=K.pk z (XV _ hz);exact⟨⟨XG h1.1 s.le,λx i e=>XG (h1.2 x i e) s.le⟩,h2⟩
 co:=λk R h=>by
  obtain⟨σ,R',h1,h2,h3⟩:=K.co k R h;obtain⟨cs,r',r1,rfl,r3⟩:=h3.take;obtain⟨σ',a,b,c⟩:=s.co σ cs h1 r1;have ep:∀z∈ps,Pl.ev σ z=Pl.ev σ' z:=λz hz=>lR (K.pk z (XV _ hz)).1 λi hi=>(a i hi).symm;refine⟨σ',r',b,?_,?_⟩
  ·rw[h2,XL,YL];have e1:rows.map σ=rows.map σ':=BS λi hi=>(a i (K.rl i hi)).symm;rw[e1];show _=_++(σ' p.2.2::r');rw[a _ (K.pk p (BC ..)).1.1]
  ·rw[XL,c,<-BS ep];exact r3
 so:=λσ R' h1 h2=>by
  obtain⟨a,b⟩:=s.so σ h1;rw[XL] at h2;have h3:=h2.give b;obtain⟨k,h4⟩:=K.so σ (σ p.2.2::R') a h3;exact⟨k,by rw[XL,YL];exact h4⟩
def Kn.start {t:Tr}(h:t.lok)(rt:Nat->Nat)(hr:rt 0=0):Kn t ⟨rt,[none]⟩ [] [(λ_=>none,t,0)] where
 o:=⟨λx hx=>(by have hx:x<1:=hx;rw[show x=0 by omega];show rt 0<1;rw[hr];decide),λx hx=>(by have hx:x<1:=hx;rw[show x=0 by omega];show rt (rt 0)=rt 0;rw[hr,hr]),λx f hx=>by
  have hx:([none]:List (Option Fm))[x]?=some (some f):=hx
  cases x with
  | zero=>cases hx
  | succ x=>simp at hx⟩
 c:=λx f hx=>by
  have hx:([none]:List (Option Fm))[x]?=some (some f):=hx
  cases x with
  | zero=>cases hx
  | succ x=>simp at hx
 len:=⟨XE _,by show 1+(t.cost+0)<=1+t.cost;omega⟩
 sz:=by show 0+(t.size+0)=_;omega
 rl:=λi hi=>by cases hi
 pk:=λp hp=>by rw[XQ.mp hp];exact⟨⟨BK 0,λx i e=>by cases e⟩,h⟩
 co:=λk R h=>by
  refine⟨λ_=>k,R,⟨λx hx=>rfl,λx f hx=>?_⟩,FV,?_⟩
  ·have hx:([none]:List (Option Fm))[x]?=some (some f):=hx
   cases x with
   | zero=>cases hx
   | succ x=>simp at hx
  ·have:HTs [(G0,t,k)] (R++[]):=.cons h .nil;rw[YK] at this;exact this
 so:=λσ R' h1 h2=>by
  have h2:HTs [(G0,t,σ 0)] R':=h2
  cases h2 with
  | cons a b=>
   cases b
   rw[YK];exact⟨_,a⟩
def Mo (u u':Us):Prop:=∀x y,x<u.F.length->y<u.F.length->u.rt x=u.rt y->u'.rt x=u'.rt y
inductive Nz (u:Us)(R:List Nat):Nat->Prop
 | row {i:Nat}:i∈R->Nz u R i
 | eq {i j:Nat}:Nz u R i->j<u.F.length->u.rt i=u.rt j->Nz u R j
 | part {i p:Nat} {f:Fm}:Nz u R i->u.F[i]?=some (some f)->p∈f.ps->Nz u R p
structure Rx (u:Us)(s:Nat)(u':Us)(ss:List Nat):Prop where
 mo:Mo u u'
 ex:∃X,u'.F=u.F++X
 rc:∀x,u.F.length<=x->x<u'.F.length->Nz u' (s::ss) x
section
variable {u u' u1 u2:Us}{s:Nat}{ss R R':List Nat}{o o1 o2 o3:Option Fm}
def Mo.refl:Mo u u:=λ_ _ _ _ h=>h
def Mo.trans (a:Mo u u1)(b:Mo u1 u2)(l:u.F.length<=u1.F.length):Mo u u2:=λx y h1 h2 h=>b x y (XG h1 l) (XG h2 l) (a x y h1 h2 h)
def Mo.add (a:Mo u u1)(l:u.F.length<=u1.F.length):Mo u (u1.add o):=λx y h1 h2 h=>by
 show(if x=u1.F.length then x else u1.rt x)=(if y=u1.F.length then y else u1.rt y);rw[XX (by omega),XX (by omega)];exact a x y h1 h2 h
def Mo.addN (n:Nat):Mo u (u.addN n):=by
 induction n with
 | zero=>exact Mo.refl
 | succ n ih=>exact ih.add (by rw[Uo];omega)
def Qh {p q x y:Nat}(h:u.rt x=u.rt y):(u.join p q).rt x=(u.join p q).rt y:=by
 show(if u.rt x=p then q else u.rt x)=(if u.rt y=p then q else u.rt y);rw[h]
def Fj {x y:Nat}(ne:u.rt x≠u.rt y):(u.join (u.rt x) (u.rt y)).rt x=(u.join (u.rt x) (u.rt y)).rt y:=by
 show(if u.rt x=u.rt x then u.rt y else u.rt x)=(if u.rt y=u.rt x then u.rt y else u.rt y);rw[XY FV,XX (Ne.symm ne)]
def Nz.more {x:Nat}(h:Nz u R x)(k:∀i∈R,Nz u R' i):Nz u R' x:=by
 induction h with
 | row h=>exact k _ h
 | eq _ h2 h3 ih=>exact .eq ih h2 h3
 | part _ h2 h3 ih=>exact .part ih h2 h3
def Nz.lift {x:Nat}(h:Nz u R x)(o:u.Ok)(hR:∀i∈R,i<u.F.length)(mo:Mo u u')(ex:∃X,u'.F=u.F++X):Nz u' R x/\x<u.F.length:=by
 obtain⟨X,eF⟩:=ex
 induction h with
 | row h=>exact⟨.row h,hR _ h⟩
 | eq _ h2 h3 ih=>exact⟨.eq ih.1 (by rw[eF,BA];omega) (mo _ _ ih.2 h2 h3),h2⟩
 | @part i p f _ h2 h3 ih=>exact⟨.part ih.1 (by rw[eF,BO ih.2];exact h2) h3,o.ps i f h2 p h3⟩
def at1 (e:u'.F=u.F++o1::o::X):u'.F[u.F.length+1]?=some o:=by rw[e,BM (by omega),Nat.add_sub_cancel_left];rfl
def fM (e:u'.F=u.F++o1::o2::o::X):u'.F[u.F.length+2]?=some o:=by rw[e,BM (by omega),Nat.add_sub_cancel_left];rfl
def eX (mo:Mo u u')(e:u'.F=u.F):Rx u s u' ss:=⟨mo,⟨[],by rw[e,YK]⟩,λx h1 h2=>by rw[e] at h2;omega⟩
def iM (mo:Mo u u')(e:u'.F=u.F++[o])(h:Nz u' (s::ss) u.F.length):Rx u s u' ss:=⟨mo,⟨_,e⟩,λx h1 h2=>by
 rw[e,BA,BF] at h2;have:x=u.F.length:=by omega
 subst this;exact h⟩
def lE (mo:Mo u u')(e:u'.F=u.F++[o,o1])(h:Nz u' (s::ss) u.F.length)(h':Nz u' (s::ss) (u.F.length+1)):Rx u s u' ss:=⟨mo,⟨_,e⟩,λx h1 h2=>by
 rw[e,BA] at h2;have h2:x<u.F.length+2:=h2;have:x=u.F.length\/x=u.F.length+1:=by omega
 rcases this with rfl | rfl
 ·exact h
 ·exact h'⟩
def gA (mo:Mo u u')(e:u'.F=u.F++[o,o1,o2])(h:Nz u' (s::ss) u.F.length)(h':Nz u' (s::ss) (u.F.length+1))(h2:Nz u' (s::ss) (u.F.length+2)):Rx u s u' ss:=⟨mo,⟨_,e⟩,λx h1 h3=>by
 rw[e,BA] at h3;have h3:x<u.F.length+3:=h3;have:x=u.F.length\/x=u.F.length+1\/x=u.F.length+2:=by omega
 rcases this with rfl | rfl | rfl
 ·exact h
 ·exact h'
 ·exact h2⟩
end
end Fn
namespace K27
open PySem PySem.Spec PyProof.Rows L2 WL Fn
section
variable {W:Nat->Calls}{ρ:Prop}{rk:Nat->Nat}{L:List Nat}{A:Sd}{C C':Hw}{u:Us}{Q:WK}{χ:WX}{n x a b:Nat}{o:O}{σ σ0:Nat->Kd}
def yw {pl pl':List (Nat×Nat)}(h:∀x∈pl,x∈pl')(q:Vn u pl):Vn u pl':=λx f hx=>by
 obtain⟨g,h1,h2⟩:=q x f hx;exact⟨g,h1,h2.imp λc d e=>e.mono (λ_ _ z=>.rt z) λc d m=>.pr (h _ m)⟩
def vC:Rc [] []=true:=by unfold Rc;rfl
def jx {x:T}{xs:List T}:Rc (x::xs) []=false:=by unfold Rc;rfl
def Hi {k:Nat}:Zv [] k=true:=by unfold Zv;rfl
def G7 {p p':WP}{xs:List T}(h1:C p=some (.lst xs))(h2:C p'=some (.lst []))(q:Q (.bl (!xs.isEmpty)) C):Oz true (.ref p) (.ref p') C Q:=by
 refine⟨xs,[],h1,h2,λe=>?_,?_⟩
 ·have:xs=[]:=EK.mp e;subst this;exact⟨Hi,Hi⟩
 ·rw[XY rfl]
  cases xs with
  | nil=>rw[vC];exact q
  | cons x xs=>rw[jx];exact q
structure cB (A:Sd)(C:Hw)(u:Us)(a b:Nat)(p:Addr)(C':Hw)(u':Us)(pl:List (Nat×Nat)):Prop where
 s:Sl A C' u'
 f:Fx A C C'
 p:C' p=some (.lst (pl.map pT))
 o:u'.Ok
 c:Vn u' pl
 F:u'.F=u.F
 lt:∀z∈pl,z.1<u.F.length/\z.2<u.F.length
 sol:∀σ,(X6 u' σ/\∀z∈pl,σ z.1=σ z.2)↔(X6 u σ/\σ a=σ b)
 m:3*u'.cnt+pl.length<=3*u.cnt+1
 mo:Mo u u'
 jn:u'.rt a=u'.rt b\/(a,b)∈pl
def n5:u.cnt<=u.F.length:=by
 unfold Us.cnt;exact XN (List.length_filter_le _ _) (by rw[BU];exact XE _)
def zW {f g:Fm}:(E4 f g).length<=2:=by
 unfold E4;rw[CT]
 cases f<;>simp[Fm.ps]<;>omega
def Ob (R:Rp W ρ)(S:Sl A C u)(o:u.Ok)(cl:Vn u [])(ha:a<u.F.length)(hb:b<u.F.length)(hw:(¬∃σ0,X6 u σ0/\σ0 a=σ0 b)->ρ)(hn:u.F.length<=9000)
  (q:∀C' u',Sl A C' u'->Fx A C C'->u'.Ok->Vn u' []->u'.F=u.F->(∀σ,X6 u' σ↔X6 u σ/\σ a=σ b)->Mo u u'->u'.rt a=u'.rt b->Q .non C'):W (n+3) Q9 [.ref A.r,nT a,nT b] C Q χ:=by
 refine R.o_Slots_make_alike FV ?_;unfold Js Jx;refine⟨_,FV,_,FV,ZNB FV,ZNB FV,λp hp=>?_⟩;have cn:=n5 (u:=u);have sl1:(100000:Nat)<=sizeLine:=by decide
 have dis:∀{C1:Hw} {u1:Us},Sl A C u1->p≠A.r/\p≠A.f/\p≠A.l:=λ{C1 u1} h=>by
  obtain⟨_,_,h⟩:=h;exact⟨λe=>(by rw[e,h.r] at hp;cases hp),λe=>(by rw[e,h.f] at hp;cases hp),λe=>(by rw[e,h.l] at hp;cases hp)⟩
 obtain⟨pr_,pf_,pl_⟩:=dis (C1:=C) S;refine Qa (λm τ C'=>∃v4 v5 v6 u' pl,τ=[some (.ref A.r),some (nT a),some (nT b),some (.ref p),v4,v5,v6]/\cB A C u a b p C' u' pl/\m=3*u'.cnt+pl.length) (m:=3*u.cnt+1)
  ⟨none,none,none,u,[(a,b)],FV,⟨?_,?_,?_,o,yw (λ_ h=>by cases h) cl,FV,?_,?_,XE _,Mo.refl,.inr (XQ.mpr FV)⟩,FV⟩ ?_
 ·obtain⟨rk,L,S⟩:=S;exact⟨rk,L,S.new hp⟩
 ·exact(Fx.refl _ _).new hp
 ·exact Ze
 ·intro z hz;rw[XQ.mp hz];exact⟨ha,hb⟩
 ·intro σ;exact⟨λh=>⟨h.1,h.2 _ (XQ.mpr FV)⟩,λh=>⟨h.1,λz hz=>by rw[XQ.mp hz];exact h.2⟩⟩
 rintro m τ C1 N ⟨v4,v5,v6,u1,pl,rfl,M,rfl⟩ hN;refine⟨_,FV,ZNB FV,λp' hp'=>?_⟩;have pp:p≠p':=λe=>by have:=M.p;rw[e,hp'] at this;cases this
 have M2p:up C1 p' (.lst []) p=some (.lst (pl.map pT)):=by rw[Zf pp];exact M.p
 refine G7 M2p Ze ⟨_,FV,?_⟩;have F2:Fx A C (up C1 p' (.lst [])):=λc w m1 m2 e=>by
  have h:=M.f c w m1 m2 e;rw[Zf λz=>by rw[z,hp'] at h;cases h];exact h
 obtain⟨rk1,L1,S1⟩:=M.s;have S2:Sk rk1 L1 A (up C1 p' (.lst [])) u1:=S1.new hp'
 rcases List.eq_nil_or_concat pl with rfl | ⟨pl,z,rfl⟩
 ·refine Zk ?_;exact q _ u1 ⟨rk1,L1,S2⟩ F2 M.o M.c M.F (λσ=>by
   have h:=M.sol σ;exact⟨λk=>h.mp ⟨k,λz hz=>nomatch hz⟩,λk=>(h.mpr k).1⟩) M.mo (M.jn.resolve_right λh=>nomatch h)
 ·rw[List.concat_eq_append] at*;have ne:(!((pl++[z]).map pT).isEmpty)=true:=by simp
  rw[ne];refine Yi ?_;generalize hC2:up C1 p' (.lst [])=C2 at M2p F2 S2;have last:((pl++[z]).map pT)[((pl++[z]).map pT).length-1]?=some (pT z):=by simp
  have dl:((pl++[z]).map pT).dropLast=pl.map pT:=by simp
  refine⟨_,FV,⟨_,_,FV,M2p⟩,_,_,_,FV,FV,M2p,last,?_⟩;rw[dl];have S3:Sk rk1 L1 A (up C2 p (.lst (pl.map pT))) u1:=S2.other pr_ pf_ pl_;have F3:Fx A C (up C2 p (.lst (pl.map pT))):=λc w m1 m2 e=>by rw[Zf λz=>by rw[z,hp] at e;cases e];exact F2 c w m1 m2 e
  have P3:up C2 p (.lst (pl.map pT)) p=some (.lst (pl.map pT)):=Ze;generalize up C2 p (.lst (pl.map pT))=C3 at S3 F3 P3;have hz:=M.lt z (by simp);have lF:u1.F.length=u.F.length:=by rw[M.F]
  refine⟨_,FV,_,_,_,_,FV,S3.r,FV,FV,_,FV,_,Yf,?_⟩;dsimp only[Zw];refine Uh R (n:=n+1) ⟨rk1,L1,S3⟩ (by omega) λC4 S4 F4=>?_;obtain⟨rk4,L4,S4⟩:=S4;have P4:C4 p=some (.lst (pl.map pT)):=F4 _ _ pf_ pl_ P3;refine⟨_,FV,_,_,_,_,FV,S4.r,FV,FV,_,FV,_,Sm,?_⟩;dsimp only[Zw];refine Uh R (n:=n+1) ⟨rk4,L4,S4⟩ (by omega) λC5 S5 F5=>?_;have P5:C5 p=some (.lst (pl.map pT)):=F5 _ _ pf_ pl_ P4;have F6:Fx A C C5:=(F3.trans F4).trans F5;refine⟨_,FV,_,FV,?_⟩;have c1:Vn u1 (z::pl):=yw (λx h=>by rcases XS.mp h with h | h;exact XV _ h;rw[XQ.mp h];exact BC ..) M.c;have sz:∀σ,(X6 u1 σ/\(∀y∈pl,σ y.1=σ y.2)/\σ z.1=σ z.2)↔(X6 u σ/\σ a=σ b):=λσ=>by
   rw[<-M.sol σ];exact⟨λh=>⟨h.1,λy hy=>by rcases List.mem_append.mp hy with k | k;exact h.2.1 y k;rw[List.mem_singleton.mp k];exact h.2.2⟩,λh=>⟨h.1,λy hy=>h.2 y (List.mem_append_left _ hy),h.2 z (by simp)⟩⟩
  have mm:=M.m;rw[BA,BF] at mm;have lt':∀y∈pl,y.1<u.F.length/\y.2<u.F.length:=λy hy=>M.lt y (BE _ hy);have jz:u1.rt a=u1.rt b\/(a,b)∈pl\/(a,b)=z:=M.jn.imp id λh=>(XS.mp h).imp id λh=>XQ.mp h;by_cases e:u1.rt z.1=u1.rt z.2
  ·refine G8 (v:=true) (by rw[e];exact XU _) ⟨_,FV,Zk ?_⟩;refine hN (3*u1.cnt+pl.length) _ _ (by rw[BA,BF];omega) ⟨_,_,_,u1,pl,FV,⟨S5,F6,P5,M.o,ue e c1,M.F,lt',λσ=>?_,by omega,M.mo,?_⟩,FV⟩
   rotate_left
   ·exact jz.elim .inl λh=>h.elim .inr λh=>.inl (by rw[<-h] at e;exact e)
   rw[<-sz σ];exact⟨λh=>⟨h.1,h.2,by rw[h.1.1 _ (by omega),h.1.1 z.2 (by omega),e]⟩,λh=>⟨h.1,h.2.1⟩⟩
  ·refine G8 (v:=false) (beq_eq_false_iff_ne.mpr λk=>e (by omega)) ⟨_,FV,Yi ?_⟩;obtain⟨rk5,L5,S5⟩:=S5;refine⟨_,FV,⟨_,_,FV,P5⟩,_,FV,_,_,_,_,FV,S5.r,FV,FV,_,FV,_,FV,?_⟩;dsimp only[Zw];have r1:=M.o.lt z.1 (by omega);have r2:=M.o.lt z.2 (by omega);have i1:=M.o.id z.1 (by omega);have i2:=M.o.id z.2 (by omega);have ev:∀σ0,X6 u σ0/\σ0 a=σ0 b->∀f g:Fm,u1.F[u1.rt z.1]?=some (some f)->u1.F[u1.rt z.2]?=some (some g)->f.ev σ0=g.ev σ0:=λσ0 hσ f g h1 h2=>by
    obtain⟨hs0,ht0,hz0⟩:=(sz σ0).mpr hσ;rw[<-hs0.2 _ f h1,<-hs0.2 _ g h2,<-hs0.1 _ (by omega),<-hs0.1 _ (by omega)];exact hz0
   refine Ad R (n:=n) ⟨rk5,L5,S5⟩ i1 i2 r1 r2 e (λf g h1 h2=>Classical.or_iff_not_imp_left.mpr λne=>hw λ⟨σ0,hσ⟩=>ne (Cy (ev σ0 hσ f g h1 h2)).1.1) λC7 p7 u7 ps S7 F7 hp7 P7 j=>?_;have P8:C7 p=some (.lst (pl.map pT)):=F7 _ _ pf_ pl_ P5;have np:p7≠p:=λk=>by rw[k,P5] at hp7;cases hp7
   have zl:ps.length<=2:=by cases j<;>first | exact zW | exact XO _
   refine⟨_,_,_,_,FV,FV,P8,P7,by rw[XI,XI];omega,?_⟩;rw[<-XL];obtain⟨rk7,L7,S7⟩:=S7;have S8:Sk rk7 L7 A (up C7 p (.lst ((pl++ps).map pT))) u7:=S7.other pr_ pf_ pl_;have F8:Fx A C (up C7 p (.lst ((pl++ps).map pT))):=λc w m1 m2 k=>by rw[Zf λz=>by rw[z,hp] at k;cases k];exact(F6.trans F7) c w m1 m2 k
   have eq2:∀σ,X6 u1 σ->(σ (u1.rt z.1)=σ (u1.rt z.2)↔σ z.1=σ z.2):=λσ h=>by rw[h.1 z.1 (by omega),h.1 z.2 (by omega)]
   cases j with
   | op h=>
    have mo7:Mo u (u1.join (u1.rt z.1) (u1.rt z.2)):=λx y h1 h2 h3=>Qh (M.mo x y h1 h2 h3);have jn7:(u1.join (u1.rt z.1) (u1.rt z.2)).rt a=(u1.join (u1.rt z.1) (u1.rt z.2)).rt b\/(a,b)∈pl:=jz.elim (λh=>.inl (Qh h)) λh=>h.elim .inr λh=>.inl (by rw[<-h];rw[<-h] at e;exact Fj e);have ct:=Ka i1 i2 r1 e;have jo:=Fi M.o i1 i2 r2 e;refine hN (3*(u1.join (u1.rt z.1) (u1.rt z.2)).cnt+(pl++[]).length) _ _ (by rw[List.length_append,List.length_append,List.length_singleton];simp;omega) ⟨_,_,_,_,pl++[],FV,⟨⟨rk7,L7,S8⟩,F8,Ze,jo,?_,M.F,by simpa using lt',λσ=>?_,by simp;omega,mo7,?_⟩,FV⟩
    rotate_left 2
    ·rw[YK];exact jn7
    ·rw[YK];exact ud FV FV h c1 M.o i2 e
    ·rw[<-sz σ,Lz i1 i2 r1 M.o,YK];exact⟨λh=>⟨h.1.1,h.2,(eq2 σ h.1.1).mp h.1.2⟩,λh=>⟨⟨h.1,(eq2 σ h.1).mpr h.2.2⟩,h.2.1⟩⟩
   | k0 h1 h2=>
    have mo7:Mo u (u1.join (u1.rt z.2) (u1.rt z.1)):=λx y h1 h2 h3=>Qh (M.mo x y h1 h2 h3);have jn7:(u1.join (u1.rt z.2) (u1.rt z.1)).rt a=(u1.join (u1.rt z.2) (u1.rt z.1)).rt b\/(a,b)∈pl:=jz.elim (λh=>.inl (Qh h)) λh=>h.elim .inr λh=>.inl (by rw[<-h];rw[<-h] at e;exact(Fj (Ne.symm e)).symm);have ct:=Ka i2 i1 r2 (Ne.symm e);have jo:=Fi M.o i2 i1 r1 (Ne.symm e);refine hN (3*(u1.join (u1.rt z.2) (u1.rt z.1)).cnt+(pl++[]).length) _ _ (by rw[List.length_append,List.length_append,List.length_singleton];simp;omega) ⟨_,_,_,_,pl++[],FV,⟨⟨rk7,L7,S8⟩,F8,Ze,jo,?_,M.F,by simpa using lt',λσ=>?_,by simp;omega,mo7,?_⟩,FV⟩
    rotate_left 2
    ·rw[YK];exact jn7
    ·rw[YK];exact zx FV FV h2 c1 e
    ·rw[<-sz σ,Lz i2 i1 r2 M.o,YK];exact⟨λh=>⟨h.1.1,h.2,(eq2 σ h.1.1).mp h.1.2.symm⟩,λh=>⟨⟨h.1,((eq2 σ h.1).mpr h.2.2).symm⟩,h.2.1⟩⟩
   | @k2 f g h1 h2 h12=>
    have mo7:Mo u (u1.join (u1.rt z.2) (u1.rt z.1)):=λx y h1 h2 h3=>Qh (M.mo x y h1 h2 h3);have jn7:(u1.join (u1.rt z.2) (u1.rt z.1)).rt a=(u1.join (u1.rt z.2) (u1.rt z.1)).rt b\/(a,b)∈pl:=jz.elim (λh=>.inl (Qh h)) λh=>h.elim .inr λh=>.inl (by rw[<-h];rw[<-h] at e;exact(Fj (Ne.symm e)).symm);have ct:=Ka i2 i1 r2 (Ne.symm e);have jo:=Fi M.o i2 i1 r1 (Ne.symm e);have pl2:=zW (f:=f) (g:=g);refine hN (3*(u1.join (u1.rt z.2) (u1.rt z.1)).cnt+(pl++E4 f g).length) _ _ (by rw[BA,BA,BF];omega) ⟨_,_,_,_,pl++E4 f g,FV,⟨⟨rk7,L7,S8⟩,F8,Ze,jo,?_,M.F,λy hy=>?_,λσ=>?_,by rw[BA];omega,mo7,jn7.imp id (BE _)⟩,FV⟩
    ·exact j8 FV FV i1 h1 h2 h12 c1 e
    ·rcases XS.mp hy with k | k
     ·exact lt' y k
     ·have:=CQ (show(y.1,y.2)∈f.ps.zip g.ps from k);rw[<-M.F];exact⟨M.o.ps _ f h1 _ this.1,M.o.ps _ g h2 _ this.2⟩
    ·rw[<-sz σ,Lz i2 i1 r2 M.o];refine⟨λh=>⟨h.1.1,λy hy=>h.2 y (BE _ hy),(eq2 σ h.1.1).mp h.1.2.symm⟩,λh=>⟨⟨h.1,((eq2 σ h.1).mpr h.2.2).symm⟩,λy hy=>?_⟩⟩
     rcases XS.mp hy with k | k
     ·exact h.2.1 y k
     ·refine(Cy (σ:=σ) (f:=f) (g:=g) ?_).2 y k;rw[<-h.1.2 _ f h1,<-h.1.2 _ g h2];exact(eq2 σ h.1).mpr h.2.2
end
abbrev y0 (z:List Nat×Nat):T:=.tup [.tup (z.1.map nT),nT z.2]
section
variable {W:Nat->Calls}{ρ:Prop}{A:Sd}{C C':Hw}{u:Us}{Q:WK}{χ:WX}{n x a b k s:Nat}{o:O}{σ σ0:Nat->Kd}{τ:Sw}{f:Fm}{t:Tr}
def T9 {C1:Hw}{u1:Us}{p:WP}(S:Sl A C1 u1)(F:Fx A C C1)(h:C1 p=none):C p=none:=by
 obtain⟨_,_,S⟩:=S
 cases e:C p with
 | none=>rfl
 | some w=>
  by_cases c:p=A.f
  ·rw[c,S.f] at h;cases h
  ·by_cases d:p=A.l
   ·rw[d,S.l] at h;cases h
   ·rw[F p w c d e] at h;cases h
def Sl.new {p:WP}(S:Sl A C u)(h:C p=none):Sl A (up C p o) u:=by
 obtain⟨rk,L,S⟩:=S;exact⟨rk,L,S.new h⟩
def Ul {C1:Hw}{u1:Us}{p:WP}(S:Sl A C1 u1)(F:Fx A C C1)(h:C1 p=none):Fx A C (up C1 p o):=λc w m1 m2 e=>by
 have q:=F c w m1 m2 e;rw[Zf λz=>by rw[z,h] at q;cases q];exact q
def Qf (R:Rp W ρ){X:WE}(S:Sl A C u)(o:u.Ok)(hn:u.F.length<=8000)(hr:uH f=true)(h0:τ[0]?=some (some (.ref A.r)))(hX:∀{C:Hw} {Q:WK},Q (yo (some f)) C->X τ C Q χ)
  (q:∀C',Sl A C' (u.add (some f))->Fx A C C'->Q (nT u.F.length) C'):Mf (W (n+1)) [("Slots",7)] "known" (Yg 0) (Zt X Zw) τ C Q χ:=by
 obtain⟨rk,L,S0⟩:=id S;refine⟨_,h0,_,_,_,_,FV,S0.r,FV,FV,hX ?_⟩;dsimp only[Zw];exact zT R (n:=n) S o (by omega) (λg h=>by cases h;exact hr) q
def Jb (R:Rp W ρ)(S:Sl A C u)(o:u.Ok)(hn:u.F.length<=8000)(h0:τ[0]?=some (some (.ref A.r)))(q:∀C',Sl A C' (u.add none)->Fx A C C'->Q (nT u.F.length) C'):
  Mf (W (n+2)) [("Slots",6)] "unknown" (Yg 0) Zw τ C Q χ:=by
 obtain⟨rk,L,S0⟩:=id S;exact⟨_,h0,_,_,_,_,FV,S0.r,FV,FV,Ix R (n:=n) S o (by omega) q⟩
def Aw (R:Rp W ρ){X:WE}(S:Sl A C u)(o:u.Ok)(cl:Vn u [])(hs:s<u.F.length)(hf:∀p∈f.ps,p<u.F.length)(w:(¬∃σ0,X6 u σ0/\σ0 s=f.ev σ0)->ρ)(hr:uH f=true)(hn:u.F.length<=8000)
  (h0:τ[0]?=some (some (.ref A.r))) (hk:τ[k]?=some (some (nT s))) (hX:∀{C:Hw} {Q:WK},Q (yo (some f)) C->X τ C Q χ) (q:∀C' u2,Sl A C' u2->Fx A C C'->Ak u s f u2->Mo u u2->u2.rt s=u2.rt u.F.length->Q .non C'):
  Mf (W (n+3)) [("Slots",10)] "make_alike" (Yg 0) (Zt (Yg k) (Zt (Mf (W (n+3)) [("Slots",7)] "known" (Yg 0) (Zt X Zw)) Zw)) τ C Q χ:=by
 obtain⟨rk,L,S0⟩:=id S;refine⟨_,h0,_,_,_,_,FV,S0.r,FV,FV,_,hk,Qf R (n:=n+2) S o hn hr h0 hX λC1 S1 F1=>?_⟩;dsimp only[Zw];have o1:(u.add (some f)).Ok:=Vl o (λg h=>by cases h;exact hf);have hw:(¬∃σ,X6 (u.add (some f)) σ/\σ s=σ u.F.length)->ρ:=λh=>w λ⟨σ0,w1,w2⟩=>by
  have ag:∀i,i<u.F.length->ov u.F.length σ0 (λ_=>f.ev σ0) i=σ0 i:=λi hi=>Xp hi;have fe:f.ev (ov u.F.length σ0 λ_=>f.ev σ0)=f.ev σ0:=Ol λp hp=>ag p (hf p hp);exact h ⟨ov u.F.length σ0 λ_=>f.ev σ0,(W0 o).mpr ⟨V4 o w1 ag,λg h=>by cases h;rw[Wm,fe]⟩,by rw[ag s hs,Wm,w2]⟩
 refine Ob R (n:=n) S1 o1 (Vw o cl) (by rw[Zs];omega) (by rw[Zs];omega) hw (by rw[Zs];omega)
  λC2 u2 S2 F2 o2 c2 e2 sol2 mo2 eq2=>q C2 u2 S2 (F1.trans F2) ⟨o2,c2,e2,λσ=>?_⟩ ((Mo.refl.add (XE _)).trans mo2 (by rw[Zs];omega)) eq2
 rw[sol2,W0 o,and_assoc];exact⟨λh=>⟨h.1,h.2.1 f FV,h.2.2⟩,λh=>⟨h.1,λg z=>by cases z;exact h.2.1,h.2.2⟩⟩
def Jg {C1:Hw}{u1:Us}{as:As}(q:∀C' p u' as,Sl A C' u'->Fx A C C'->C p=none->C' p=some (.lst (as.map y0))->J2 u t s u' as->Rx u s u' (as.map (·.2))->Q (.ref p) C')(S1:Sl A C1 u1)(F1:Fx A C C1)(h:J2 u t s u1 as)(rx:Rx u s u1 (as.map (·.2)))
  (p:WP) (hp:C1 p=none):Q (.ref p) (up C1 p (.lst (as.map y0))):=q _ p u1 as (S1.new hp) (Ul S1 F1 hp) (T9 S1 F1 hp) Ze h rx
def G2 (R:Rp W ρ){oo:Str}{t1 t2:Tr}(S:Sl A C u)(o:u.Ok)(cl:Vn u [])(hs:s<u.F.length)(hn:u.F.length<=7000)(w:(¬∃σ0 G cs,X6 u σ0/\Ji (.does oo t1 t2) G (σ0 s) cs)->ρ)
  (q:∀C' p u' as,Sl A C' u'->Fx A C C'->C p=none->C' p=some (.lst (as.map y0))->J2 u (.does oo t1 t2) s u' as->Rx u s u' (as.map (·.2))->Q (.ref p) C'):W (n+4) Ft [.ref A.r,.str oo,nT s] C Q χ:=by
 refine R.o_does_slots FV ?_;unfold Vv V3;have key:∀(v:Str),v=jZ oo->∀D:We,D.rt=Q->D.xc=χ->(Qn (Iy (Mf (W (n+3)) [("Slots",10)] "make_alike" (Yg 0) (Zt (Yg 2) (Zt (Mf (W (n+3)) [("Slots",7)] "known" (Yg 0) (Zt (Qo (Zt (Yg 3) Zw)) Zw)) Zw))))
   (Qn (O8 (Mf (W (n+3)) [("Slots",7)] "known" (Yg 0) (Zt (Qo (Zt (eC (.str "num")) Zw)) Zw)) (Ig 4)) (Dv (jy (Zt (Qo (Zt (Qo Zw) (Zt (Yg 4) Zw))) (Zt (Qo (Zt (Qo Zw) (Zt (Yg 4) Zw))) Zw)))))) D
   [some (.ref A.r),some (.str oo),some (nT s),some (.str v),none] C:=by
  rintro v rfl D rfl rfl;have we:(¬∃σ0,X6 u σ0/\σ0 s=(Fm.f0 (jZ oo)).ev σ0)->ρ:=λh=>w λ⟨σ0,G,cs,w1,w2⟩=>h ⟨σ0,w1,by generalize σ0 s=kk at w2;cases w2;rfl⟩;have wr:uH (.f0 (jZ oo))=true:=by unfold jZ;split<;>rfl
  refine Aw R (n:=n) (s:=s) (f:=.f0 (jZ oo)) S o cl hs (λp h=>by cases h) we wr (by omega) FV FV (λ{C Q} h=>⟨_,FV,Yy (by show 1<=_;omega),h⟩) λC1 u1 S1 F1 ak mo1 eq1=>?_;have l1:=ak.len;refine Qf R (n:=n+2) (f:=.f0 "num") S1 ak.o (by omega) FV FV (λ{C Q} h=>⟨Yy (by show 1<=_;omega),h⟩) λC2 S2 F2=>?_;refine⟨Yy (by show 0<=_;omega),_,FV,Yy (by show 2<=_;omega),Yy (by show 0<=_;omega),_,FV,Yy (by show 2<=_;omega),Yy (by show 2<=_;omega),λp hp=>?_⟩;exact Jg q S2 (F1.trans F2) (uo o hs ak cl) (lE (o:=some (.f0 (jZ oo))) (o1:=some (.f0 "num")) (mo1.add (by omega)) (by show u1.F++_=_;rw[ak.F,YL];rfl) (.eq (.row (BC ..)) (by rw[Zs];omega) (by
   show(if s=u1.F.length then s else u1.rt s)=(if u.F.length=u1.F.length then u.F.length else u1.rt u.F.length);rw[XX (by omega),XX (by omega)];exact eq1)) (.row (by rw[<-l1];exact XV _ (BC ..)))) p hp
 by_cases c1:oo="<"
 ·exact⟨_,FV,Zx (v:=true) (by rw[c1];exact XU _) ⟨_,FV,Yi (Yi (key _ (by unfold jZ;rw[XY (.inl c1)]) _ FV FV))⟩⟩
 ·refine⟨_,FV,Zx (v:=false) (beq_eq_false_iff_ne.mpr c1) ⟨_,FV,Zk ?_⟩⟩;by_cases c2:oo="="
  ·exact⟨_,FV,Zx (v:=true) (by rw[c2];exact XU _) ⟨_,FV,Yi (key _ (by unfold jZ;rw[XY (.inr c2)]) _ FV FV)⟩⟩
  ·exact⟨_,FV,Zx (v:=false) (beq_eq_false_iff_ne.mpr c2) ⟨_,FV,Zk (key _ (by unfold jZ;rw[XX (by rintro(h | h);exact c1 h;exact c2 h)]) _ FV FV)⟩⟩
def xQ (R:Rp W ρ){c:Str}(hc:c="No"\/c="Yes"\/c="Nil")(S:Sl A C u)(o:u.Ok)(cl:Vn u [])(hs:s<u.F.length)(hn:u.F.length<=7000)(w:(¬∃σ0 G cs,X6 u σ0/\Ji (.sh0 c) G (σ0 s) cs)->ρ)
  (q:∀C' p u' as,Sl A C' u'->Fx A C C'->C p=none->C' p=some (.lst (as.map y0))->J2 u (.sh0 c) s u' as->Rx u s u' (as.map (·.2))->Q (.ref p) C'):W (n+4) Qx [.ref A.r,.str c,nT s] C Q χ:=by
 refine R.o_shape_slots FV ?_;unfold Xo Xt;have iH:∀cc:Str,(cc="No"\/cc="Yes")->c=cc->∀D:We,D.rt=Q->D.xc=χ->∀r:WS,Qn (Iy (Mf (W (n+3)) [("Slots",10)] "make_alike" (Yg 0) (Zt (Yg 2) (Zt (Mf (W (n+3)) [("Slots",7)] "known" (Yg 0) (Zt (Qo (Zt (eC (.str "truth")) Zw)) Zw)) Zw))))
   (Dv (jy Zw)) D [some (.ref A.r),some (.str c),some (nT s),none,none] C:=by
  rintro cc hc rfl D rfl rfl r;have wt:(¬∃σ0,X6 u σ0/\σ0 s=Fe)->ρ:=λh=>w λ⟨σ0,G,cs,w1,w2⟩=>h ⟨σ0,w1,by
   generalize σ0 s=kk at w2
   rcases hc with rfl | rfl
   ·cases w2 with
    | no=>rfl
   ·cases w2 with
    | yes=>rfl⟩
  refine Aw R (n:=n) (s:=s) (f:=.f0 "truth") S o cl hs (λp h=>by cases h) wt FV (by omega) FV FV (λ{C Q} h=>⟨Yy (by show 1<=_;omega),h⟩) λC1 u1 S1 F1 ak mo1 eq1=>?_;exact⟨Yy (by show 0<=_;omega),λp hp=>Jg q S1 F1 (jD hc o hs ak cl) (iM mo1 ak.F (.eq (.row (BC ..)) (by rw[ak.len];omega) eq1)) p hp⟩
 rcases hc with rfl | rfl | rfl
 ·exact⟨_,FV,Zx (v:=true) (by decide+kernel) ⟨_,FV,Yi (Yi (iH "No" (.inl FV) FV _ FV FV Qt))⟩⟩
 ·exact⟨_,FV,Zx (v:=false) (by decide+kernel) ⟨_,FV,Zk ⟨_,FV,Zx (v:=true) (by decide+kernel) ⟨_,FV,Yi (iH "Yes" (.inr FV) FV _ FV FV Qt)⟩⟩⟩⟩
 ·refine⟨_,FV,Zx (v:=false) (by decide+kernel) ⟨_,FV,Zk ⟨_,FV,Zx (v:=false) (by decide+kernel) ⟨_,FV,Zk ?_⟩⟩⟩⟩;refine Jb R (n:=n+1) S o (by omega) FV λC1 S1 F1=>?_;refine⟨_,FV,Zx (v:=false) (by decide+kernel) ⟨_,FV,Zk ?_⟩⟩;have l1:(u.add none).F.length=u.F.length+1:=Zs;have o1:(u.add none).Ok:=Vl o (λg h=>by cases h);have wl:(¬∃σ,X6 (u.add none) σ/\σ s=(Fm.f1 "list" u.F.length).ev σ)->ρ:=λh=>w λ⟨σ0,G,cs,w1,w2⟩=>by
   generalize hk:σ0 s=kk at w2
   cases w2 with
   | @nil _ p0=>
    have ag:∀i,i<u.F.length->ov u.F.length σ0 (λ_=>p0) i=σ0 i:=λi hi=>Xp hi;exact h ⟨ov u.F.length σ0 λ_=>p0,(W0 o).mpr ⟨V4 o w1 ag,λg h=>by cases h⟩,by
     show _=Kd.k1 "list" (ov _ _ _ _);rw[ag s hs,Wm,hk]⟩
  refine Aw R (n:=n) (s:=s) (f:=.f1 "list" u.F.length) S1 o1 (Vw o cl) (by omega) (λp h=>by rw[XQ.mp h];omega) wl FV (by omega) FV FV (λ{C Q} h=>⟨_,FV,Yy (by show 2<=_;omega),h⟩) λC2 u2 S2 F2 ak mo2 eq2=>?_
  ·have mo:Mo u u2:=(Mo.refl.add (XE _)).trans mo2 (by omega);have eF:u2.F=u.F++[none,some (.f1 "list" u.F.length)]:=ak.F.trans (YL ..);have r2:∀ss:List Nat,Nz u2 (s::ss) (u.F.length+1):=λss=>.eq (.row (BC ..)) (by rw[ak.len];omega) (by rw[eq2,l1]);refine⟨_,FV,Zx (v:=true) (by decide+kernel) ⟨_,FV,Yi ?_⟩⟩;exact⟨Yy (by show 0<=_;omega),λp hp=>Jg q S2 (F1.trans F2) (rD o hs cl ak) (lE mo eF (.part (r2 _) (at1 eF) (XQ.mpr FV)) (r2 _)) p hp⟩
def xP (R:Rp W ρ){c:Str}{t1 t2:Tr}(hc:c="Cons"\/c="Pair")(S:Sl A C u)(o:u.Ok)(cl:Vn u [])(hs:s<u.F.length)(hn:u.F.length<=7000)(w:(¬∃σ0 G cs,X6 u σ0/\Ji (.sh2 c t1 t2) G (σ0 s) cs)->ρ)
  (q:∀C' p u' as,Sl A C' u'->Fx A C C'->C p=none->C' p=some (.lst (as.map y0))->J2 u (.sh2 c t1 t2) s u' as->Rx u s u' (as.map (·.2))->Q (.ref p) C'):W (n+4) Qx [.ref A.r,.str c,nT s] C Q χ:=by
 refine R.o_shape_slots FV ?_;unfold Xo Xt;have l1:(u.add none).F.length=u.F.length+1:=Zs;have o1:(u.add none).Ok:=Vl o (λg h=>by cases h)
 rcases hc with rfl | rfl
 ·refine⟨_,FV,Zx (v:=false) (by decide+kernel) ⟨_,FV,Zk ⟨_,FV,Zx (v:=false) (by decide+kernel) ⟨_,FV,Zk ?_⟩⟩⟩⟩;refine Jb R (n:=n+1) S o (by omega) FV λC1 S1 F1=>?_;refine⟨_,FV,Zx (v:=false) (by decide+kernel) ⟨_,FV,Zk ?_⟩⟩;have wl:(¬∃σ,X6 (u.add none) σ/\σ s=(Fm.f1 "list" u.F.length).ev σ)->ρ:=λh=>w λ⟨σ0,G,cs,w1,w2⟩=>by
   generalize hk:σ0 s=kk at w2
   cases w2 with
   | @cons _ _ _ p0=>
    have ag:∀i,i<u.F.length->ov u.F.length σ0 (λ_=>p0) i=σ0 i:=λi hi=>Xp hi;exact h ⟨ov u.F.length σ0 λ_=>p0,(W0 o).mpr ⟨V4 o w1 ag,λg h=>by cases h⟩,by
     show _=Kd.k1 "list" (ov _ _ _ _);rw[ag s hs,Wm,hk]⟩
  refine Aw R (n:=n) (s:=s) (f:=.f1 "list" u.F.length) S1 o1 (Vw o cl) (by omega) (λp h=>by rw[XQ.mp h];omega) wl FV (by omega) FV FV (λ{C Q} h=>⟨_,FV,Yy (by show 2<=_;omega),h⟩) λC2 u2 S2 F2 ak mo2 eq2=>?_
  ·have mo:Mo u u2:=(Mo.refl.add (XE _)).trans mo2 (by omega);have eF:u2.F=u.F++[none,some (.f1 "list" u.F.length)]:=ak.F.trans (YL ..);have r2:∀ss:List Nat,Nz u2 (s::ss) (u.F.length+1):=λss=>.eq (.row (BC ..)) (by rw[ak.len];omega) (by rw[eq2,l1]);refine⟨_,FV,Zx (v:=false) (by decide+kernel) ⟨_,FV,Zk ?_⟩⟩;refine⟨Yy (by show 0<=_;omega),_,FV,Yy (by show 2<=_;omega),Yy (by show 0<=_;omega),_,FV,Yy (by show 2<=_;omega),Yy (by show 2<=_;omega),λp hp=>?_⟩;exact Jg q S2 (F1.trans F2) (uq o hs cl ak) (lE mo eF (.row (XV _ (BC ..))) (r2 _)) p hp
 ·refine⟨_,FV,Zx (v:=false) (by decide+kernel) ⟨_,FV,Zk ⟨_,FV,Zx (v:=false) (by decide+kernel) ⟨_,FV,Zk ?_⟩⟩⟩⟩;refine Jb R (n:=n+1) S o (by omega) FV λC1 S1 F1=>?_;refine⟨_,FV,Zx (v:=true) (by decide+kernel) ⟨_,FV,Yi ?_⟩⟩;refine Jb R (n:=n+1) S1 o1 (by omega) FV λC2 S2 F2=>?_;have o2:((u.add none).add none).Ok:=Vl o1 (λg h=>by cases h);have l2:((u.add none).add none).F.length=u.F.length+2:=by rw[Zs,l1]
  have wl:(¬∃σ,X6 ((u.add none).add none) σ/\σ s=(Fm.f2 "pair" u.F.length (u.F.length+1)).ev σ)->ρ:=λh=>w λ⟨σ0,G,cs,w1,w2⟩=>by
   generalize hk:σ0 s=kk at w2
   cases w2 with
   | @pair _ _ _ p0 q0=>
    have ag:∀i,i<u.F.length->ov u.F.length σ0 (λi=>if i=0 then p0 else q0) i=σ0 i:=λi hi=>Xp hi;exact h ⟨ov u.F.length σ0 λi=>if i=0 then p0 else q0,(W0 o1).mpr ⟨(W0 o).mpr ⟨V4 o w1 ag,λg h=>by cases h⟩,λg h=>by cases h⟩,by
     show _=Kd.k2 "pair" (ov _ _ _ _) (ov _ _ _ _);rw[ag s hs,Wm,Vh,hk];rfl⟩
  have S2':=S2;rw[l1];refine Aw R (n:=n) (s:=s) (f:=.f2 "pair" u.F.length (u.F.length+1)) S2 o2 (Vw o1 (Vw o cl)) (by omega) (λp h=>by simp only[Fm.ps,List.mem_cons,List.not_mem_nil,or_false] at h;omega) wl FV (by omega) FV FV (λ{C Q} h=>⟨_,FV,_,FV,Yy (by show 3<=_;omega),h⟩) λC3 u3 S3 F3 ak mo3 eq3=>?_
  ·have mo:Mo u u3:=((Mo.refl.add (XE _)).add (by omega)).trans mo3 (by omega);have eF:u3.F=u.F++[none,none,some (.f2 "pair" u.F.length (u.F.length+1))]:=ak.F.trans ((YL ..).trans (YL ..));refine⟨Yy (by show 0<=_;omega),_,FV,Yy (by show 2<=_;omega),Yy (by show 0<=_;omega),_,FV,Yy (by show 2<=_;omega),Yy (by show 2<=_;omega),λp hp=>?_⟩;exact Jg q S3 ((F1.trans F2).trans F3) (um o hs cl ak) (gA mo eF (.row (by simp)) (.row (by simp)) (.eq (.row (List.mem_cons_self ..)) (by rw[ak.len];omega) (by rw[eq3,l2]))) p hp
end
def i3:Tr->Prop
 | .sh0 c=>c="No"\/c="Yes"\/c="Nil"
 | .sh2 c _ _=>c="Cons"\/c="Pair"
 | _=>True
def y8 {u:Us}:∀n,∃X,(u.addN n).F=u.F++X
 | 0=>⟨[],(YK _).symm⟩
 | n+1=>by
  obtain⟨X,e⟩:=y8 (u:=u) n;exact⟨X++[none],by show(u.addN n).F++[none]=_;rw[e,YL]⟩
def Tr.isNm:Tr->Bool
 | .nm _=>true
 | _=>false
section
variable {W:Nat->Calls}{ρ:Prop}{A:Sd}{C C':Hw}{u:Us}{Q:WK}{χ:WX}{n x a b k s:Nat}{o:O}{σ σ0:Nat->Kd}{τ:Sw}{f:Fm}{t:Tr}
def Av (R:Rp W ρ)(S:Sl A C u)(o:u.Ok)(hn:u.F.length<=8000)(h0:τ[k]?=some (some (.ref A.r)))(q:∀C',Sl A C' (u.add none)->Fx A C C'->Q (nT u.F.length) C'):
  Mf (W (n+2)) [("Slots",6)] "unknown" (Yg k) Zw τ C Q χ:=by
 obtain⟨rk,L,S0⟩:=id S;exact⟨_,h0,_,_,_,_,FV,S0.r,FV,FV,Ix R (n:=n) S o (by omega) q⟩
def y7 (o:u.Ok):∀n,(u.addN n).Ok
 | 0=>o
 | n+1=>Vl (y7 o n) (λg h=>by cases h)
def li (R:Rp W ρ){t1 t2 t3:Tr}(S:Sl A C u)(o:u.Ok)(cl:Vn u [])(hs:s<u.F.length)(hn:u.F.length<=7000)
  (q:∀C' p u' as,Sl A C' u'->Fx A C C'->C p=none->C' p=some (.lst (as.map y0))->J2 u (.chT t1 t2 t3) s u' as->Rx u s u' (as.map (·.2))->Q (.ref p) C'):W (n+4) Uk [.ref A.r,.str "No",nT s] C Q χ:=by
 refine R.o_choose_slots FV ?_;unfold Jl Jq;refine⟨_,FV,Zx (v:=true) (by decide+kernel) ⟨_,FV,Yi ?_⟩⟩;refine⟨Yy (by show 0<=_;omega),Qf R (n:=n+2) (f:=.f0 "truth") S o (by omega) FV FV (λ{C Q} h=>⟨Yy (by show 1<=_;omega),h⟩) λC1 S1 F1=>?_⟩;refine⟨Yy (by show 2<=_;omega),Yy (by show 0<=_;omega),_,FV,Yy (by show 2<=_;omega),Yy (by show 0<=_;omega),_,FV,Yy (by show 2<=_;omega),Yy (by show 3<=_;omega),λp hp=>?_⟩;exact Jg q S1 F1 (rE o hs cl) (iM (Mo.refl.add (Nat.le_refl _)) FV (.row (by simp))) p hp
def lu (R:Rp W ρ){t1 t2 t3:Tr}{x y:Str}(S:Sl A C u)(o:u.Ok)(cl:Vn u [])(hs:s<u.F.length)(hn:u.F.length<=7000)
  (q:∀C' p u' as,Sl A C' u'->Fx A C C'->C p=none->C' p=some (.lst (as.map y0))->J2 u (.chL t1 t2 x y t3) s u' as->Rx u s u' (as.map (·.2))->Q (.ref p) C'):W (n+4) Uk [.ref A.r,.str "Nil",nT s] C Q χ:=by
 refine R.o_choose_slots FV ?_;unfold Jl Jq;have l1:(u.add none).F.length=u.F.length+1:=Zs;have o1:(u.add none).Ok:=Vl o (λg h=>by cases h);refine⟨_,FV,Zx (v:=false) (by decide+kernel) ⟨_,FV,Zk ?_⟩⟩;refine Jb R (n:=n+1) S o (by omega) FV λC1 S1 F1=>?_;refine⟨_,FV,Zx (v:=false) (by decide+kernel) ⟨_,FV,Zk ?_⟩⟩;refine Qf R (n:=n+2) (f:=.f1 "list" u.F.length) S1 o1 (by omega) FV FV (λ{C Q} h=>⟨_,FV,Yy (by show 2<=_;omega),h⟩) λC2 S2 F2=>?_;rw[l1];refine⟨Yy (by show 0<=_;omega),_,FV,Yy (by show 2<=_;omega),Yy (by show 0<=_;omega),_,FV,Yy (by show 2<=_;omega),_,FV,_,FV,Yy (by show 2<=_;omega),_,FV,Yy (by show 2<=_;omega),Yy (by show 3<=_;omega),λp hp=>?_⟩;have eF:((u.add none).add (some (.f1 "list" u.F.length))).F=u.F++[none,some (.f1 "list" u.F.length)]:=YL ..;exact Jg q S2 (F1.trans F2) (rG o hs cl) (lE ((Mo.refl.add (Nat.le_refl _)).add (by omega)) eF (.part (.row (by simp)) (at1 eF) (List.mem_singleton.mpr FV)) (.row (by simp))) p hp
def lj (R:Rp W ρ){t1 t2:Tr}{x y:Str}(S:Sl A C u)(o:u.Ok)(cl:Vn u [])(hs:s<u.F.length)(hn:u.F.length<=7000)
  (q:∀C' p u' as,Sl A C' u'->Fx A C C'->C p=none->C' p=some (.lst (as.map y0))->J2 u (.chP t1 x y t2) s u' as->Rx u s u' (as.map (·.2))->Q (.ref p) C'):W (n+4) Uk [.ref A.r,.str "Pair",nT s] C Q χ:=by
 refine R.o_choose_slots FV ?_;unfold Jl Jq;have l1:(u.add none).F.length=u.F.length+1:=Zs;have o1:(u.add none).Ok:=Vl o (λg h=>by cases h);have l2:((u.add none).add none).F.length=u.F.length+2:=by rw[Zs,l1]
 have o2:((u.add none).add none).Ok:=Vl o1 (λg h=>by cases h);refine⟨_,FV,Zx (v:=false) (by decide+kernel) ⟨_,FV,Zk ?_⟩⟩;refine Jb R (n:=n+1) S o (by omega) FV λC1 S1 F1=>?_;refine⟨_,FV,Zx (v:=true) (by decide+kernel) ⟨_,FV,Yi ?_⟩⟩;refine Jb R (n:=n+1) S1 o1 (by omega) FV λC2 S2 F2=>?_;rw[l1];refine⟨Yy (by show 0<=_;omega),Qf R (n:=n+2) (f:=.f2 "pair" u.F.length (u.F.length+1)) S2 o2 (by omega) FV FV (λ{C Q} h=>⟨_,FV,_,FV,Yy (by show 3<=_;omega),h⟩) λC3 S3 F3=>?_⟩;rw[l2];refine⟨Yy (by show 2<=_;omega),_,FV,_,FV,Yy (by show 2<=_;omega),_,FV,Yy (by show 2<=_;omega),Yy (by show 2<=_;omega),λp hp=>?_⟩;have eF:(((u.add none).add none).add (some (.f2 "pair" u.F.length (u.F.length+1)))).F=u.F++[none,none,some (.f2 "pair" u.F.length (u.F.length+1))]:=(YL ..).trans (YL ..);exact Jg q S3 ((F1.trans F2).trans F3) (rF o hs cl) (gA (((Mo.refl.add (Nat.le_refl _)).add (by omega)).add (by omega)) eF (.part (.row (by simp)) (fM eF) (List.mem_cons_self ..)) (.part (.row (by simp)) (fM eF) (by simp[Fm.ps])) (.row (by simp))) p hp
def Gw (R:Rp W ρ)(t:Tr)(ht:Tr.isNm t=false)(hl:∀m xs ts b,t=.lt m xs ts b->m<=10)(S:Sl A C u)(o:u.Ok)(cl:Vn u [])(hs:s<u.F.length)(hn:u.F.length<=7000)(hsh:i3 t)(w:(¬∃σ0 G cs,X6 u σ0/\Ji t G (σ0 s) cs)->ρ)
  (q:∀C' p u' as,Sl A C' u'->Fx A C C'->C p=none->C' p=some (.lst (as.map y0))->J2 u t s u' as->Rx u s u' (as.map (·.2))->Q (.ref p) C'):W (n+5) Fp [.ref A.r,tt t,nT s] C Q χ:=by
 refine R.o_part_slots FV ?_;unfold Vs V0;have l1:(u.add none).F.length=u.F.length+1:=Zs;have o1:(u.add none).Ok:=Vl o (λg h=>by cases h)
 cases t with
 | nm x=>cases ht
 | num v=>
  refine⟨_,FV,_,Yf,?_⟩;refine⟨_,FV,Zx (v:=true) (by decide+kernel) ⟨_,FV,Yi ?_⟩⟩;have we:(¬∃σ0,X6 u σ0/\σ0 s=(Fm.f0 "num").ev σ0)->ρ:=λh=>w λ⟨σ0,G,cs,w1,w2⟩=>h ⟨σ0,w1,by generalize σ0 s=kk at w2;cases w2;rfl⟩;refine Aw R (n:=n+1) (s:=s) (f:=.f0 "num") S o cl hs (λp h=>by cases h) we FV (by omega) FV FV (λ{C Q} h=>⟨Yy (by show 1<=_;omega),h⟩) λC1 u1 S1 F1 ak mo1 eq1=>?_;exact⟨Yy (by show 0<=_;omega),λp hp=>Jg q S1 F1 (rC o hs ak cl) (iM mo1 ak.F (.eq (.row (BC ..)) (by rw[ak.len];omega) eq1)) p hp⟩
 | does oo t1 t2=>
  refine⟨_,FV,_,Yf,?_⟩;refine⟨_,FV,Zx (v:=false) (by decide+kernel) ⟨_,FV,Zk ?_⟩⟩;refine⟨_,FV,Zx (v:=true) (by decide+kernel) ⟨_,FV,Yi ?_⟩⟩;refine⟨_,FV,_,FV,_,Sm,_,FV,?_⟩;dsimp only[Zw];exact G2 R (n:=n) S o cl hs hn w q
 | fn x b=>
  refine⟨_,FV,_,Yf,?_⟩;refine⟨_,FV,Zx (v:=false) (by decide+kernel) ⟨_,FV,Zk ?_⟩⟩;refine⟨_,FV,Zx (v:=false) (by decide+kernel) ⟨_,FV,Zk ?_⟩⟩;refine⟨_,FV,Zx (v:=true) (by decide+kernel) ⟨_,FV,Yi ?_⟩⟩;refine Jb R (n:=n+2) S o (by omega) FV λC1 S1 F1=>?_;refine Jb R (n:=n+2) S1 o1 (by omega) FV λC2 S2 F2=>?_;have o2:((u.add none).add none).Ok:=Vl o1 (λg h=>by cases h);have l2:((u.add none).add none).F.length=u.F.length+2:=by rw[Zs,l1]
  have wl:(¬∃σ,X6 ((u.add none).add none) σ/\σ s=(Fm.f2 "to" u.F.length (u.F.length+1)).ev σ)->ρ:=λh=>w λ⟨σ0,G,cs,w1,w2⟩=>by
   generalize hk:σ0 s=kk at w2
   cases w2 with
   | @fn _ _ _ p0 q0=>
    have ag:∀i,i<u.F.length->ov u.F.length σ0 (λi=>if i=0 then p0 else q0) i=σ0 i:=λi hi=>Xp hi;exact h ⟨ov u.F.length σ0 λi=>if i=0 then p0 else q0,(W0 o1).mpr ⟨(W0 o).mpr ⟨V4 o w1 ag,λg h=>by cases h⟩,λg h=>by cases h⟩,by
     show _=Kd.k2 "to" (ov _ _ _ _) (ov _ _ _ _);rw[ag s hs,Wm,Vh,hk];rfl⟩
  rw[l1];refine Aw R (n:=n+1) (s:=s) (f:=.f2 "to" u.F.length (u.F.length+1)) S2 o2 (Vw o1 (Vw o cl)) (by omega) (λp h=>by simp only[Fm.ps,List.mem_cons,List.not_mem_nil,or_false] at h;omega) wl FV (by omega) FV FV (λ{C Q} h=>⟨_,FV,_,FV,Yy (by show 3<=_;omega),h⟩) λC3 u3 S3 F3 ak mo3 eq3=>?_
  ·have mo:Mo u u3:=((Mo.refl.add (XE _)).add (by omega)).trans mo3 (by omega);have eF:u3.F=u.F++[none,none,some (.f2 "to" u.F.length (u.F.length+1))]:=ak.F.trans ((YL ..).trans (YL ..));have r2:∀ss:List Nat,Nz u3 (s::ss) (u.F.length+2):=λss=>.eq (.row (BC ..)) (by rw[ak.len];omega) (by rw[eq3,l2]);refine⟨_,FV,Yy (by show 1<=_;omega),_,FV,Yy (by show 2<=_;omega),Yy (by show 1<=_;omega),λp hp=>?_⟩;exact Jg q S3 ((F1.trans F2).trans F3) (nO o hs cl ak) (gA mo eF (.part (r2 _) (fM eF) (List.mem_cons_self ..)) (.row (by simp)) (r2 _)) p hp
 | call t1 t2=>
  refine⟨_,FV,_,Yf,?_⟩;refine⟨_,FV,Zx (v:=false) (by decide+kernel) ⟨_,FV,Zk ?_⟩⟩;refine⟨_,FV,Zx (v:=false) (by decide+kernel) ⟨_,FV,Zk ?_⟩⟩;refine⟨_,FV,Zx (v:=false) (by decide+kernel) ⟨_,FV,Zk ?_⟩⟩;refine⟨_,FV,Zx (v:=true) (by decide+kernel) ⟨_,FV,Yi ?_⟩⟩;refine Jb R (n:=n+2) S o (by omega) FV λC1 S1 F1=>?_;refine⟨Yy (by show 0<=_;omega),Qf R (n:=n+3) (f:=.f2 "to" u.F.length s) S1 o1 (by omega) FV FV (λ{C Q} h=>⟨_,FV,_,FV,Yy (by show 3<=_;omega),h⟩) λC2 S2 F2=>?_⟩;rw[l1];refine⟨Yy (by show 2<=_;omega),Yy (by show 0<=_;omega),_,FV,Yy (by show 2<=_;omega),Yy (by show 2<=_;omega),λp hp=>?_⟩;exact Jg q S2 (F1.trans F2) (ur o hs cl) (lE ((Mo.refl.add (Nat.le_refl _)).add (by omega)) (List.append_assoc ..) (.row (by simp)) (.row (by simp))) p hp
 | first t1 t2=>
  refine⟨_,FV,_,Yf,?_⟩;refine⟨_,FV,Zx (v:=false) (by decide+kernel) ⟨_,FV,Zk ?_⟩⟩;refine⟨_,FV,Zx (v:=false) (by decide+kernel) ⟨_,FV,Zk ?_⟩⟩;refine⟨_,FV,Zx (v:=false) (by decide+kernel) ⟨_,FV,Zk ?_⟩⟩;refine⟨_,FV,Zx (v:=false) (by decide+kernel) ⟨_,FV,Zk ?_⟩⟩;refine⟨_,FV,Zx (v:=false) (by decide+kernel) ⟨_,FV,Zk ?_⟩⟩;refine⟨_,FV,Zx (v:=false) (by decide+kernel) ⟨_,FV,Zk ?_⟩⟩;refine⟨_,FV,Zx (v:=false) (by decide+kernel) ⟨_,FV,Zk ?_⟩⟩;refine⟨_,FV,Zx (v:=true) (by decide+kernel) ⟨_,FV,Yi ?_⟩⟩;refine⟨Yy (by show 0<=_;omega),Jb R (n:=n+2) S o (by omega) FV λC1 S1 F1=>?_⟩;refine⟨Yy (by show 2<=_;omega),Yy (by show 0<=_;omega),_,FV,Yy (by show 2<=_;omega),Yy (by show 2<=_;omega),λp hp=>?_⟩;exact Jg q S1 F1 (jE o hs cl) (iM (Mo.refl.add (Nat.le_refl _)) FV (.row (by simp))) p hp
 | stop y=>
  refine⟨_,FV,_,Yf,?_⟩;refine⟨_,FV,Zx (v:=false) (by decide+kernel) ⟨_,FV,Zk ?_⟩⟩;refine⟨_,FV,Zx (v:=false) (by decide+kernel) ⟨_,FV,Zk ?_⟩⟩;refine⟨_,FV,Zx (v:=false) (by decide+kernel) ⟨_,FV,Zk ?_⟩⟩;refine⟨_,FV,Zx (v:=false) (by decide+kernel) ⟨_,FV,Zk ?_⟩⟩;refine⟨_,FV,Zx (v:=false) (by decide+kernel) ⟨_,FV,Zk ?_⟩⟩;refine⟨_,FV,Zx (v:=false) (by decide+kernel) ⟨_,FV,Zk ?_⟩⟩;refine⟨_,FV,Zx (v:=false) (by decide+kernel) ⟨_,FV,Zk ?_⟩⟩;refine⟨_,FV,Zx (v:=false) (by decide+kernel) ⟨_,FV,Zk ?_⟩⟩;refine⟨_,FV,Zx (v:=true) (by decide+kernel) ⟨_,FV,Yi ?_⟩⟩;exact⟨Yy (by show 0<=_;omega),λp hp=>Jg q S (Fx.refl _ _) (ul o cl) (eX Mo.refl FV) p hp⟩
 | sh0 c=>
  refine⟨_,FV,_,Yf,?_⟩;refine⟨_,FV,Zx (v:=false) (by decide+kernel) ⟨_,FV,Zk ?_⟩⟩;refine⟨_,FV,Zx (v:=false) (by decide+kernel) ⟨_,FV,Zk ?_⟩⟩;refine⟨_,FV,Zx (v:=false) (by decide+kernel) ⟨_,FV,Zk ?_⟩⟩;refine⟨_,FV,Zx (v:=false) (by decide+kernel) ⟨_,FV,Zk ?_⟩⟩;refine⟨_,FV,Zx (v:=false) (by decide+kernel) ⟨_,FV,Zk ?_⟩⟩;refine⟨_,FV,Zx (v:=true) (by decide+kernel) ⟨_,FV,Yi ?_⟩⟩;refine⟨_,FV,_,FV,_,Sm,_,FV,?_⟩;dsimp only[Zw];exact xQ R (n:=n) hsh S o cl hs hn w q
 | sh2 c t1 t2=>
  refine⟨_,FV,_,Yf,?_⟩;refine⟨_,FV,Zx (v:=false) (by decide+kernel) ⟨_,FV,Zk ?_⟩⟩;refine⟨_,FV,Zx (v:=false) (by decide+kernel) ⟨_,FV,Zk ?_⟩⟩;refine⟨_,FV,Zx (v:=false) (by decide+kernel) ⟨_,FV,Zk ?_⟩⟩;refine⟨_,FV,Zx (v:=false) (by decide+kernel) ⟨_,FV,Zk ?_⟩⟩;refine⟨_,FV,Zx (v:=false) (by decide+kernel) ⟨_,FV,Zk ?_⟩⟩;refine⟨_,FV,Zx (v:=true) (by decide+kernel) ⟨_,FV,Yi ?_⟩⟩;refine⟨_,FV,_,FV,_,Sm,_,FV,?_⟩;dsimp only[Zw];exact xP R (n:=n) hsh S o cl hs hn w q
 | chT t1 t2 t3=>
  refine⟨_,FV,_,Yf,?_⟩;refine⟨_,FV,Zx (v:=false) (by decide+kernel) ⟨_,FV,Zk ?_⟩⟩;refine⟨_,FV,Zx (v:=false) (by decide+kernel) ⟨_,FV,Zk ?_⟩⟩;refine⟨_,FV,Zx (v:=false) (by decide+kernel) ⟨_,FV,Zk ?_⟩⟩;refine⟨_,FV,Zx (v:=false) (by decide+kernel) ⟨_,FV,Zk ?_⟩⟩;refine⟨_,FV,Zx (v:=false) (by decide+kernel) ⟨_,FV,Zk ?_⟩⟩;refine⟨_,FV,Zx (v:=false) (by decide+kernel) ⟨_,FV,Zk ?_⟩⟩;refine⟨_,FV,Zx (v:=true) (by decide+kernel) ⟨_,FV,Yi ?_⟩⟩;refine⟨_,FV,_,FV,_,Hv,_,Yf,_,Yf,_,FV,?_⟩;dsimp only[Zw];exact li R (n:=n) S o cl hs hn q
 | chL t1 t2 x y t3=>
  refine⟨_,FV,_,Yf,?_⟩;refine⟨_,FV,Zx (v:=false) (by decide+kernel) ⟨_,FV,Zk ?_⟩⟩;refine⟨_,FV,Zx (v:=false) (by decide+kernel) ⟨_,FV,Zk ?_⟩⟩;refine⟨_,FV,Zx (v:=false) (by decide+kernel) ⟨_,FV,Zk ?_⟩⟩;refine⟨_,FV,Zx (v:=false) (by decide+kernel) ⟨_,FV,Zk ?_⟩⟩;refine⟨_,FV,Zx (v:=false) (by decide+kernel) ⟨_,FV,Zk ?_⟩⟩;refine⟨_,FV,Zx (v:=false) (by decide+kernel) ⟨_,FV,Zk ?_⟩⟩;refine⟨_,FV,Zx (v:=true) (by decide+kernel) ⟨_,FV,Yi ?_⟩⟩;refine⟨_,FV,_,FV,_,Hv,_,Yf,_,Yf,_,FV,?_⟩;dsimp only[Zw];exact lu R (n:=n) S o cl hs hn q
 | chP t1 x y t2=>
  refine⟨_,FV,_,Yf,?_⟩;refine⟨_,FV,Zx (v:=false) (by decide+kernel) ⟨_,FV,Zk ?_⟩⟩;refine⟨_,FV,Zx (v:=false) (by decide+kernel) ⟨_,FV,Zk ?_⟩⟩;refine⟨_,FV,Zx (v:=false) (by decide+kernel) ⟨_,FV,Zk ?_⟩⟩;refine⟨_,FV,Zx (v:=false) (by decide+kernel) ⟨_,FV,Zk ?_⟩⟩;refine⟨_,FV,Zx (v:=false) (by decide+kernel) ⟨_,FV,Zk ?_⟩⟩;refine⟨_,FV,Zx (v:=false) (by decide+kernel) ⟨_,FV,Zk ?_⟩⟩;refine⟨_,FV,Zx (v:=true) (by decide+kernel) ⟨_,FV,Yi ?_⟩⟩;refine⟨_,FV,_,FV,_,Hv,_,Yf,_,Yf,_,FV,?_⟩;dsimp only[Zw];exact lj R (n:=n) S o cl hs hn q
 | lt m xs ts b=>
  refine⟨_,FV,_,Yf,?_⟩;refine⟨_,FV,Zx (v:=false) (by decide+kernel) ⟨_,FV,Zk ?_⟩⟩;refine⟨_,FV,Zx (v:=false) (by decide+kernel) ⟨_,FV,Zk ?_⟩⟩;refine⟨_,FV,Zx (v:=false) (by decide+kernel) ⟨_,FV,Zk ?_⟩⟩;refine⟨_,FV,Zx (v:=false) (by decide+kernel) ⟨_,FV,Zk ?_⟩⟩;refine⟨_,FV,Zx (v:=true) (by decide+kernel) ⟨_,FV,Yi ?_⟩⟩;refine⟨_,FV,_,Sm,?_⟩;have hm:=hl m xs ts b FV;refine Ts (λi acc C'=>Sl A C' (u.addN i)/\Fx A C C'/\acc=(List.range i).map (λj=>nT (u.F.length+j))) ⟨S,Fx.refl _ _,FV⟩ (λ_ _ _ _ _=>trivial) ?_ ?_
  ·rintro i x acc C1 N hx ⟨S1,F1,rfl⟩ hN;have hi:i<m:=by
    have:=(BB.mp hx).1;simpa using this
   have la:=Uo (u:=u) i;refine Yi (q:=N ((List.range i).map λj=>nT (u.F.length+j)) C1) (Av R (n:=n+2) S1 (y7 o i) (by omega) FV λC2 S2 F2=>⟨Yz (by simp;omega),hN _ _ ⟨S2,F1.trans F2,?_⟩⟩);rw[FD,XL,la];rfl
  ·rintro acc C1 ⟨S1,F1,rfl⟩ p hp;refine⟨_,FV,_,Ze,?_⟩;have em:(List.finRange m).length=m:=FF;have lm:((List.finRange m).map λi=>T.tup [.str (xs i),tt (ts i)]).length=m:=by rw[XI,em]
   rw[lm] at S1 |-;have eo:(List.range m).map (λj=>nT (u.F.length+j))=(Ui u m).map nT:=by
    rw[YE];have:List.range m=(List.finRange m).map Fin.val:=by
     apply List.ext_getElem
     ·simp
     ·intro i h1 h2;simp
    rw[this,YE];rfl
   rw[eo];have S2:Sl A (up C1 p (.lst ((Ui u m).map nT))) (u.addN m):=S1.new hp;have F2:Fx A C (up C1 p (.lst ((Ui u m).map nT))):=Ul S1 F1 hp;generalize up C1 p (.lst ((Ui u m).map nT))=C2 at S2 F2;refine⟨_,FV,?_⟩;have lo:((Ui u m).map nT).length=m:=by rw[XI,XI,em]
   refine Xh (λt=>.tup [.tup ((Ui u m).map nT),t]) trivial (by rw[lo];exact Yy (by omega)) (λx hx R hR=>?_) λp2 hp2=>?_
   ·exact⟨_,FV,_,FV,Yy (by show 2<=_;omega),hR⟩
   refine⟨_,FV,_,FV,Yy (by show 2<=_;omega),Yy (by show 1<=_;omega),λp3 hp3=>?_⟩;have S3:Sl A (up C2 p2 _) (u.addN m):=S2.new (o:=.lst (((Ui u m).map nT).map λt=>.tup [.tup ((Ui u m).map nT),t])) hp2;have F3:Fx A C (up C2 p2 _):=Ul (o:=.lst (((Ui u m).map nT).map λt=>.tup [.tup ((Ui u m).map nT),t])) S2 F2 hp2;have n23:p2≠p3:=λe=>by rw[<-e,Ze] at hp3;cases hp3
   refine⟨_,_,by rw[Zf n23];exact Ze,Ze,by rw[XI,lo];exact Yy (by show m+1<=_;omega),λp4 hp4=>?_⟩;have S4:Sl A (up (up C2 p2 _) p3 _) (u.addN m):=S3.new (o:=.lst [.tup [.tup ((Ui u m).map nT),nT s]]) hp3;have F4:Fx A C (up (up C2 p2 _) p3 _):=Ul (o:=.lst [.tup [.tup ((Ui u m).map nT),nT s]]) S3 F3 hp3;have rx:Rx u s (u.addN m) ((((Ui u m).map λo=>(Ui u m,o))++[(Ui u m,s)]).map (·.2)):=⟨Mo.addN m,y8 m,λx h1 h2=>.row (XV _ (by
    rw[Uo] at h2;rw[XL,YE];refine BE _ (XR.mpr ⟨x,XR.mpr ⟨⟨x-u.F.length,by omega⟩,EO _,?_⟩,FV⟩);show u.F.length+(x-u.F.length)=x;omega))⟩
   have fin:=Jg q S4 F4 (nN (xs:=xs) (ts:=ts) (b:=b) hm o hs cl) rx p4 hp4;have e:∀os:List Nat,((os.map λo=>(os,o))++[(os,s)]).map y0=((os.map nT).map λt=>T.tup [.tup (os.map nT),t])++[.tup [.tup (os.map nT),nT s]]:=λos=>by
    rw[XL,YE,YE];rfl
   rw[e] at fin;exact fin
end
def Kj {kvs:List (Z2×T)}{kk j:Z2}{v:T}:Yr (Jz kvs kk v) j=if j=kk then some v else Yr kvs j:=by
 have key:∀kvs:List (Z2×T),Yr (kvs.map λz=>if z.1=kk then(z.1,v) else z) j=if j=kk/\(kvs.any λz=>decide (z.1=kk))=true then some v else Yr kvs j:=by
  intro kvs
  induction kvs with
  | nil=>simp[Yr]
  | cons z r ih=>
   unfold Yr at ih |-;rw[YI,FG,FG,DJ];by_cases c:z.1=kk
   ·rw[XY c];by_cases d:j=kk
    ·subst d;simp[c]
    ·have:¬z.1=j:=λe=>d (e.symm.trans c);simp only[this,decide_false,d,false_and,if_false];rw[ih];simp[d]
   ·rw[XX c];by_cases d:z.1=j
    ·have:¬j=kk:=λe=>c (d.trans e);simp[d,this]
    ·simp only[d,decide_false,c,Bool.false_or];exact ih
 unfold Jz
 split
 next h=>rw[key];simp[h]
 next h=>
  unfold Yr;rw[List.find?_append];by_cases d:j=kk
  ·subst d;have:kvs.find? (λz=>decide (z.1=j))=none:=List.find?_eq_none.mpr λz hz e=>h (DE.mpr ⟨z,hz,e⟩);rw[this,if_pos rfl];simp
  ·rw[XX d];have:¬kk=j:=λe=>d e.symm
   cases kvs.find? (λz=>decide (z.1=j))<;>simp[this]
section
variable {W:Nat->Calls}{ρ:Prop}{kvs l more:List (Z2×T)}{kk j:Z2}{v:T}
def vq {a b:List (Z2×T)}:Yr (a++b) j=(Yr a j).or (Yr b j):=by
 unfold Yr;rw[List.find?_append]
 cases a.find? λkv=>decide (kv.1=j)<;>rfl
def Km:∀{l base:List (Z2×T)},Yr (l.foldl (λa kv=>Jz a kv.1 kv.2) base) j=(Yr l.reverse j).or (Yr base j)
 | [],base=>rfl
 | p::l,base=>by
  rw[FE,Km (l:=l),CG,vq,Kj,Option.or_assoc];congr 1;unfold Yr;by_cases c:j=p.1
  ·subst c;simp
  ·rw[XX c];have:¬p.1=j:=λe=>c e.symm;simp[this]
def Lj:(Jz kvs kk v).map (·.1)=if (kvs.any λkv=>decide (kv.1=kk))=true then kvs.map (·.1) else kvs.map (·.1)++[kk]:=by
 unfold Jz
 split
 ·rw[YE];congr 1
  funext z
  show(if z.1=kk then(z.1,v) else z).1=z.1
  split<;>rfl
 ·rw[XL];rfl
def pz (h:(kvs.map (·.1)).Nodup):((Jz kvs kk v).map (·.1)).Nodup:=by
 rw[Lj]
 split
 ·exact h
 ·rename_i c;refine EM.mpr ⟨h,BP.mpr ⟨DT,CA⟩,λa ha b hb=>?_⟩;rw[XQ.mp hb];rintro rfl;obtain⟨z,hz,rfl⟩:=XR.mp ha;exact c (List.any_eq_true.mpr ⟨z,hz,by simp⟩)
def yn:∀{l base:List (Z2×T)},(base.map (·.1)).Nodup->((l.foldl (λa kv=>Jz a kv.1 kv.2) base).map (·.1)).Nodup
 | [],_,h=>h
 | p::l,base,h=>by rw[FE];exact yn (pz h)
def yl {l:List (Z2×T)}(h:(l.map (·.1)).Nodup):Yr l j=some v↔(j,v)∈l:=by
 induction l with
 | nil=>simp[Yr]
 | cons p l ih=>
  obtain⟨h1,h2⟩:=BP.mp h;have ih:=ih h2;unfold Yr at ih |-;rw[FG];by_cases c:p.1=j
  ·subst c;simp only[decide_true,Option.map_some,Option.some.injEq,List.mem_cons];refine⟨λe=>.inl (by rw[<-e]),λe=>?_⟩
   rcases e with e | e
   ·rw[<-e]
   ·exact absurd (XR.mpr ⟨_,e,FV⟩) h1
  ·simp only[c,decide_false,List.mem_cons];rw[ih];exact⟨λe=>.inr e,λe=>e.resolve_left λz=>c (by rw[<-z])⟩
def sK {l:List (Z2×T)}(h:(l.map (·.1)).Nodup):Yr l.reverse j=Yr l j:=by
 have hr:(l.reverse.map (·.1)).Nodup:=by rw[DV];exact(List.reverse_perm _).nodup_iff.mpr h
 refine Option.ext λw=>?_;rw[yl hr,yl h,DW]
def jg {ks:List Z2}{ts:List T}:Yr (Ro kvs (Hm Jz ks ts)) j=(Yr (ks.zip ts).reverse j).or (Yr kvs j):=by
 unfold Ro;rw[Km,sK]
 ·unfold Hm;rw[Km]
  cases Yr (ks.zip ts).reverse j<;>rfl
 ·exact yn CA
def tI:(Jz kvs kk v).length<=kvs.length+1:=by
 have h:=congrArg List.length (Lj (kvs:=kvs) (kk:=kk) (v:=v));rw[XI] at h;rw[h]
 split
 ·rw[XI];omega
 ·rw[BA,XI];exact XE _
def Kk:∀{l base:List (Z2×T)},(l.foldl (λa kv=>Jz a kv.1 kv.2) base).length<=base.length+l.length
 | [],_=>XE _
 | p::l,base=>by
  rw[FE,YF];have:=Kk (l:=l) (base:=Jz base p.1 p.2);have:=tI (kvs:=base) (kk:=p.1) (v:=p.2);omega
def jM (kvs:List (Z2×T))(E:Str->Option Nat):Prop:=∀x,Yr kvs (.inr x)=(E x).map nT
def uN {x:Str}:∀{xs:List Str} {ss:List Nat},Yr ((xs.map Sum.inr).zip (ss.map nT)).reverse (.inr x)=((xs.zip ss).reverse.lookup x).map nT:=by
 intro xs ss;have gen:∀l:List (Str×Nat),Yr (l.map λp=>((Sum.inr p.1:Z2),nT p.2)) (.inr x)=(l.lookup x).map nT:=by
  intro l
  induction l with
  | nil=>rfl
  | cons p l ih=>
   obtain⟨a,b⟩:=p;unfold Yr at ih |-;rw[YI,FG,DC];by_cases c:x=a
   ·subst c;simp
   ·have h1:(x==a)=false:=beq_eq_false_iff_ne.mpr c;have h2:¬(Sum.inr a:Z2)=.inr x:=λe=>c (by cases e;rfl);simp only[h1,h2,decide_false];exact ih
 have e:(xs.map (Sum.inr:Str->Z2)).zip (ss.map nT)=(xs.zip ss).map λp=>((Sum.inr p.1:Z2),nT p.2):=by rw[List.zip_map];rfl
 rw[e,<-DV];exact gen _
def sT {E:Str->Option Nat}{xs:List Str}{ss:List Nat}(h:jM kvs E):jM (Ro kvs (Hm Jz (xs.map Sum.inr) (ss.map nT))) (bnd xs ss E):=λx=>by
 rw[jg,uN,h x];unfold bnd
 cases (xs.zip ss).reverse.lookup x<;>rfl
def qr {xs:List Str}{ss:List Nat}:(Hm Jz (xs.map Sum.inr) (ss.map nT)).length<=xs.length:=by
 unfold Hm;refine XN Kk ?_;rw[CT,XI,FT];omega
def jf {xs:List Str}{ss:List Nat}:(Ro kvs (Hm Jz (xs.map Sum.inr) (ss.map nT))).length<=kvs.length+xs.length:=by
 unfold Ro;exact XN Kk (FI qr _)
end
abbrev sS (z:List Str×Tr):List T×T:=(z.1.map T.str,tt z.2)
def qc:∀t:Tr,(∀m xs ts b,t=.lt m xs ts b->m<=10)->∃e,Sc (tt t) e (t.scs.map sS)
 | .num v,_=>⟨_,.other (by decide)⟩
 | .nm v,_=>⟨_,.other (by decide)⟩
 | .stop v,_=>⟨_,.other (by decide)⟩
 | .does _ _ _,_=>⟨_,.does⟩
 | .fn _ _,_=>⟨_,.fun_⟩
 | .call _ _,_=>⟨_,.call⟩
 | .first _ _,_=>⟨_,.first⟩
 | .lt m xs ts b,h=>by
  have hm:=h m xs ts b FV;have e:=Sc.let_ (B:=tt b) (xs:=(List.finRange m).map λi=>(T.str (xs i),tt (ts i))) (by rw[XI,FF];omega);refine⟨none,?_⟩;show Sc (.tup [.str "let",.tup ((List.finRange m).map λi=>.tup [.str (xs i),tt (ts i)]),tt b]) none ((((List.finRange m).map λi=>(Wn xs,ts i))++[(Wn xs,b)]).map sS);have e1:((List.finRange m).map λi=>(T.str (xs i),tt (ts i))).map (·.1)=(Wn xs).map T.str:=by rw[YE,YE];rfl
  rw[e1,YE,YE] at e;rw[XL,YE];exact e
 | .sh0 _,_=>⟨_,.shape (ZNB FV)⟩
 | .sh2 _ _ _,_=>⟨_,.shape (ZNB FV)⟩
 | .chT a n y,_=>⟨_,.choose (ys:=[(.str "No",[],tt n),(.str "Yes",[],tt y)]) (ZNB FV)⟩
 | .chL a n x y c,_=>⟨_,.choose (ys:=[(.str "Nil",[],tt n),(.str "Cons",[.str x,.str y],tt c)]) (ZNB FV)⟩
 | .chP a x y b,_=>⟨_,.choose (ys:=[(.str "Pair",[.str x,.str y],tt b)]) (ZNB FV)⟩
def mq (C:Hw)(N:Nat)(p:Pl)(v:T):Prop:=∃d kv,v=.tup [tt p.2.1,.ref d,nT p.2.2]/\C d=some (.dic kv)/\jM kv p.1/\kv.length<=N
def mq.mono {A:Sd}{C C':Hw}{N:Nat}{p:Pl}{v:T}(h:mq C N p v)(S:∃u,Sl A C u)(F:Fx A C C'):mq C' N p v:=by
 obtain⟨d,kv,h1,h2,h3,h4⟩:=h;obtain⟨u,rk,L,S⟩:=S;exact⟨d,kv,h1,F d _ (λe=>by rw[e,S.f] at h2;cases h2) (λe=>by rw[e,S.l] at h2;cases h2) h2,h3,h4⟩
abbrev Qy (C:Hw)(N:Nat)(ps:List Pl)(vs:List T):Prop:=Paired (mq C N) ps vs
def Qy.mono {A:Sd}{C C':Hw}{N:Nat}{ps:List Pl}{vs:List T}(h:Qy C N ps vs)(S:∃u,Sl A C u)(F:Fx A C C'):Qy C' N ps vs:=by
 induction h with
 | nil=>exact .nil
 | cons a b ih=>exact .cons (a.mono S F) ih
def Qy.snoc {C:Hw}{N:Nat}{ps:List Pl}{vs:List T}{p:Pl}{v:T}(h:Qy C N ps vs)(q:mq C N p v):Qy C N (ps++[p]) (vs++[v]):=by
 induction h with
 | nil=>exact .cons q .nil
 | cons a b ih=>exact .cons a ih
def Qy.keep {C C':Hw}{N:Nat}{ps:List Pl}{vs:List T}(h:Qy C N ps vs)(k:∀c kv,C c=some (.dic kv)->C' c=some (.dic kv)):Qy C' N ps vs:=by
 induction h with
 | nil=>exact .nil
 | cons a b ih=>
  obtain⟨d,kv,h1,h2,h3,h4⟩:=a;exact .cons ⟨d,kv,h1,k d kv h2,h3,h4⟩ ih
def Sl.other {A:Sd}{C:Hw}{u:Us}{o:O}{p:WP}(S:Sl A C u)(h:p≠A.r/\p≠A.f/\p≠A.l):Sl A (up C p o) u:=by
 obtain⟨rk,L,S⟩:=S;exact⟨rk,L,S.other h.1 h.2.1 h.2.2⟩
def J0 {C:Hw}{a b:WP}{o:O}(h:C a=some o)(h':C b=none):a≠b:=λe=>by rw[e,h'] at h;cases h
def Sl.off {A:Sd}{C:Hw}{u:Us}{p:WP}(S:Sl A C u)(hp:C p=none):p≠A.r/\p≠A.f/\p≠A.l:=by
 obtain⟨_,_,h⟩:=S;exact⟨λe=>(by rw[e,h.r] at hp;cases hp),λe=>(by rw[e,h.f] at hp;cases hp),λe=>(by rw[e,h.l] at hp;cases hp)⟩
def ye (E:Str->Option Nat)(t:Tr)(as:As):List Pl:=(t.scs.zip as).map λz=>(bnd z.1.1 z.2.1 E,z.1.2,z.2.2)
def ow {E:Str->Option Nat}{t:Tr}{as:As}(h:as.length=t.scs.length):(ye E t as).map (λz=>z.2.1)=t.scs.map (λz=>z.2):=by
 unfold ye;rw[YE];have:((λz:Pl=>z.2.1)∘λz:(List Str×Tr)×(List Nat×Nat)=>(bnd z.1.1 z.2.1 E,z.1.2,z.2.2))=(λz=>z.2)∘Prod.fst:=rfl;rw[this,<-YE,List.map_fst_zip (by omega)]
def k7 {E:Str->Option Nat}{t:Tr}{as:As}(h:as.length=t.scs.length):(ye E t as).map (λz=>z.2.2)=as.map (λz=>z.2):=by
 unfold ye;rw[YE];have:((λz:Pl=>z.2.2)∘λz:(List Str×Tr)×(List Nat×Nat)=>(bnd z.1.1 z.2.1 E,z.1.2,z.2.2))=(λz=>z.2)∘Prod.snd:=rfl;rw[this,<-YE,List.map_snd_zip (by omega)]
def Dm (E:Str->Option Nat)(t:Tr)(ps:List Pl):Prop:=∀p∈ps,∃z∈t.scs,p.2.1=z.2/\∀x,(x∈z.1\/(E x).isSome=true)->(p.1 x).isSome=true
def rq {xs:List Str}{ss:List Nat}{E:Str->Option Nat}{x:Str}(hl:ss.length=xs.length)(h:x∈xs\/(E x).isSome=true):(bnd xs ss E x).isSome=true:=by
 unfold bnd
 cases e:(xs.zip ss).reverse.lookup x with
 | some i=>rfl
 | none=>
  rcases h with h | h
  ·exfalso;have:x∈(xs.zip ss).reverse.map (·.1):=by
    rw[DV,DW,List.map_fst_zip (by omega)];exact h
   obtain⟨p,hp,hx⟩:=XR.mp this;have hn:=List.lookup_eq_none_iff.mp e p hp;rw[hx] at hn;exact absurd hn (by simp)
  ·exact h
def k8 {E:Str->Option Nat}{t:Tr}{as:As}(h:as.map (λz=>z.1.length)=t.scs.map (λz=>z.1.length)):Dm E t (ye E t as):=λp hp=>by
 obtain⟨z,hz,rfl⟩:=XR.mp hp;refine⟨z.1,(CQ hz).1,FV,λx hx=>rq ?_ hx⟩;obtain⟨i,hi,e⟩:=List.mem_iff_getElem.mp hz;have e2:(t.scs.zip as)[i]?=some z:=by rw[BG hi,e]
 obtain⟨h1,h2⟩:=BN.mp e2;have k:=congrArg (λl:List Nat=>l[i]?) h;simp only[List.getElem?_map,h1,h2,Option.map_some] at k;exact YH k
def qp {E:Str->Option Nat}{t:Tr}{as:As}{σ:Nat->Kd}:(ye E t as).map (Pl.ev σ)=Cb t as σ (λx=>(E x).map σ):=by
 unfold ye Cb;rw[YE];congr 1
 funext z
 show((λx=>(bnd z.1.1 z.2.1 E x).map σ),z.1.2,σ z.2.2)=_;rw[<-rn]
def uX {u u':Us}{E:Str->Option Nat}{t:Tr}{s:Nat}{as:As}(h:J2 u t s u' as)(hb:∀x i,E x=some i->i<u.F.length):uz u (E,t,s) u' (ye E t as) where
 o:=h.o
 c:=h.c
 le:=h.le
 big:=h.big
 ok:=λz hz=>by
  obtain⟨y,hy,rfl⟩:=XR.mp hz;obtain⟨h1,h2⟩:=h.ok y.2 (CQ hy).2;refine⟨h1,λx i e=>?_⟩;have e:bnd y.1.1 y.2.1 E x=some i:=e;unfold bnd at e
  cases l:(y.1.1.zip y.2.1).reverse.lookup x with
  | none=>rw[l] at e;exact XG (hb x i e) h.le
  | some j=>
   rw[l] at e
   cases e
   have:=BR l;exact h2 i (CQ (DW.mp this)).2
 co:=λσ cs h1 h2=>by
  obtain⟨σ',a,b,c⟩:=h.co σ _ cs h1 h2;refine⟨σ',a,b,?_⟩;rw[qp,<-c];congr 1
  funext x
  show(E x).map σ'=(E x).map σ
  cases e:E x with
  | none=>rfl
  | some i=>show some (σ' i)=some (σ i);rw[a i (hb x i e)]
 so:=λσ h1=>by
  obtain⟨a,b⟩:=h.so σ (λx=>(E x).map σ) h1;exact⟨a,by rw[qp];exact b⟩
section
variable {W:Nat->Calls}{ρ:Prop}{A:Sd}{C C':Hw}{u:Us}{Q:WK}{χ:WX}{n s:Nat}{t:Tr}{d:WP}{kv:List (Z2×T)}{E:Str->Option Nat}
def xM:∀(t:Tr),(∀m xs ts b,t=.lt m xs ts b->m<=10)->∀z∈t.scs,z.1.length<=10
 | .num _,_,z,h=>by cases h
 | .nm _,_,z,h=>by cases h
 | .stop _,_,z,h=>by cases h
 | .sh0 _,_,z,h=>by cases h
 | .does _ _ _,_,z,h=>by simp only[Tr.scs,List.mem_cons,List.not_mem_nil,or_false] at h;rcases h with rfl | rfl<;>exact Nat.zero_le _
 | .fn _ _,_,z,h=>by rw[XQ.mp h];exact ZNB FV
 | .call _ _,_,z,h=>by simp only[Tr.scs,List.mem_cons,List.not_mem_nil,or_false] at h;rcases h with rfl | rfl<;>exact Nat.zero_le _
 | .first _ _,_,z,h=>by simp only[Tr.scs,List.mem_cons,List.not_mem_nil,or_false] at h;rcases h with rfl | rfl<;>exact Nat.zero_le _
 | .sh2 _ _ _,_,z,h=>by simp only[Tr.scs,List.mem_cons,List.not_mem_nil,or_false] at h;rcases h with rfl | rfl<;>exact Nat.zero_le _
 | .chT _ _ _,_,z,h=>by simp only[Tr.scs,List.mem_cons,List.not_mem_nil,or_false] at h;rcases h with rfl | rfl | rfl<;>exact Nat.zero_le _
 | .chL _ _ _ _ _,_,z,h=>by simp only[Tr.scs,List.mem_cons,List.not_mem_nil,or_false] at h;rcases h with rfl | rfl | rfl<;>exact ZNB FV
 | .chP _ _ _ _,_,z,h=>by simp only[Tr.scs,List.mem_cons,List.not_mem_nil,or_false] at h;rcases h with rfl | rfl<;>exact ZNB FV
 | .lt m xs ts b,hm,z,h=>by
  have hm:=hm m xs ts b FV;have e:(Wn xs).length<=10:=by rw[XI,FF];exact hm
  rcases XS.mp h with h | h
  ·obtain⟨i,_,rfl⟩:=XR.mp h;exact e
  ·rw[XQ.mp h];exact e
def Dt (R:Rp W ρ){x:Str}(S:Sl A C u)(o:u.Ok)(cl:Vn u [])(hs:s<u.F.length)(hn:u.F.length<=7000)(hE:jM kv E)(hb:∀x i,E x=some i->i<u.F.length)(hd:C d=some (.dic kv))
  (hx:(E x).isSome=true) (w:(¬∃σ0 cs,X6 u σ0/\Ji (.nm x) (λx=>(E x).map σ0) (σ0 s) cs)->ρ)
  (q:∀C' p u' ps vs,Sl A C' u'->Fx A C C'->C p=none->C' p=some (.lst vs)->Qy C' (kv.length+10) ps vs->uz u (E,.nm x,s) u' ps->ps.map (λz=>z.2.1)=(Tr.nm x).scs.map (λz=>z.2)->Rx u s u' (ps.map (·.2.2))->Dm E (.nm x) ps->Q (.ref p) C'):W (n+6) Vj [.ref A.r,tt (.nm x),.ref d,nT s] C Q χ:=by
 refine R.o_places_within rfl ?_;unfold Jy J1;refine⟨_,FV,_,Yf,Zx (v:=true) (by decide+kernel) ⟨_,FV,Yi ?_⟩⟩;obtain⟨i,hi⟩:=Option.isSome_iff_exists.mp hx;have wi:(¬∃σ0,X6 u σ0/\σ0 s=σ0 i)->ρ:=λh=>w λ⟨σ0,cs,w1,w2⟩=>h ⟨σ0,w1,by
  generalize σ0 s=kk at w2
  cases w2 with
  | nm h=>
   have h:(E x).map σ0=some kk:=h;rw[hi] at h;exact(YH h).symm⟩
 obtain⟨rk,L,S0⟩:=id S;refine⟨_,FV,_,_,_,_,FV,S0.r,FV,FV,_,FV,_,FV,_,FV,_,Sm,_,_,_,_,FV,FV,.inl hd,by rw[hE x,hi];rfl,?_⟩;dsimp only[Zw];refine Ob R (n:=n+2) S o cl hs (hb x i hi) wi (by omega) λC1 u1 S1 F1 o1 c1 e1 sol1 mo1 eq1=>?_;refine⟨Yy (by show 0<=_;omega),λp hp=>?_⟩;refine q _ p u1 [] [] (S1.new hp) (Ul S1 F1 hp) (T9 S1 F1 hp) Ze .nil ⟨o1,c1,by rw[e1];exact XE _,by rw[e1];omega,λz hz=>(by cases hz),λσ cs h1 h2=>?_,λσ h1=>?_⟩ FV (eX mo1 e1) (λp h=>by cases h)
 ·have h2:Ji (.nm x) (λx=>(E x).map σ) (σ s) cs:=h2;have z:cs=[]/\σ s=σ i:=by
   generalize σ s=kk at h2
   cases h2 with
   | nm h=>
    have h:(E x).map σ=some kk:=h;rw[hi] at h;exact⟨FV,(YH h).symm⟩
  exact⟨σ,λ_ _=>rfl,(sol1 σ).mpr ⟨h1,z.2⟩,z.1.symm⟩
 ·obtain⟨a,b⟩:=(sol1 σ).mp h1;exact⟨a,.nm (by show(E x).map σ=some (σ s);rw[hi,b];rfl)⟩
def Dr (R:Rp W ρ)(ht:Tr.isNm t=false)(hl:∀m xs ts b,t=.lt m xs ts b->m<=10)(S:Sl A C u)(o:u.Ok)(cl:Vn u [])(hs:s<u.F.length)(hn:u.F.length<=7000)(hE:jM kv E)(hb:∀x i,E x=some i->i<u.F.length)(hd:C d=some (.dic kv))(hk:kv.length<=90000)
  (hsh:i3 t) (w:(¬∃σ0 cs,X6 u σ0/\Ji t (λx=>(E x).map σ0) (σ0 s) cs)->ρ)
  (q:∀C' p u' ps vs,Sl A C' u'->Fx A C C'->C p=none->C' p=some (.lst vs)->Qy C' (kv.length+10) ps vs->uz u (E,t,s) u' ps->ps.map (λz=>z.2.1)=t.scs.map (λz=>z.2)->Rx u s u' (ps.map (·.2.2))->Dm E t ps->Q (.ref p) C'):W (n+6) Vj [.ref A.r,tt t,.ref d,nT s] C Q χ:=by
 refine R.o_places_within rfl ?_;unfold Jy J1;obtain⟨wd,r,et,hw⟩:∃(wd:Str) (r:List T),tt t=.tup (.str wd::r)/\(wd=="name")=false:=by
  cases t with
  | nm x=>cases ht
  | _=>exact⟨_,_,FV,by decide+kernel⟩
 have et':T.tup (.str wd::r)=tt t:=et.symm;rw[et];refine⟨_,FV,_,Yf,Zx (v:=false) hw ⟨_,FV,Zk ?_⟩⟩;refine⟨Yy (by show 0<=_;omega),λp0 hp0=>?_⟩;have S0:Sl A (up C p0 (.lst [])) u:=S.new hp0;have F0:Fx A C (up C p0 (.lst [])):=Ul S (Fx.refl _ _) hp0;have P0:up C p0 (.lst []) p0=some (.lst []):=Ze;generalize up C p0 (.lst [])=C0 at S0 F0 P0;obtain⟨e,sc⟩:=qc t hl;rw[et'];refine⟨_,FV,?_⟩;dsimp only[Zw];refine Dq R (n:=n+3) sc λk C1 x1 hk0 hk1=>?_;have S1:Sl A C1 u:=by
  obtain⟨rk,L,S0⟩:=S0;exact⟨rk,L,⟨x1 _ _ S0.r,x1 _ _ S0.f,x1 _ _ S0.l,S0.lr,S0.ne,S0.ar⟩⟩
 have F1:Fx A C0 C1:=λc w _ _ h=>x1 c w h;refine⟨_,FV,_,FV,_,FV,?_⟩;dsimp only[Zw];refine Gw R (n:=n) t ht hl S1 o cl hs hn hsh (λh=>w λ⟨σ0,cs,w1,w2⟩=>h ⟨σ0,_,cs,w1,w2⟩) λC2 l u2 as S2 F2 hl0 hl1 ask rx=>?_;have fne:∀{c:WP} {o:O} {Cx:Hw},Cx c=some o->(∃u,Sl A C1 u)->True:=λ_ _=>trivial;have nofl:∀{Cx:Hw} {ux:Us} {c:WP},Sl A Cx ux->Cx c=none->c≠A.f/\c≠A.l:=λ{Cx ux c} h hc=>by
  obtain⟨_,_,h⟩:=h;exact⟨λe=>(by rw[e,h.f] at hc;cases hc),λe=>(by rw[e,h.l] at hc;cases hc)⟩
 have k1:=nofl S0 hk0;have l1:=nofl S1 hl0;have p1:=nofl S hp0;have K2:C2 k=some (.lst ((t.scs.map sS).map qd)):=F2 _ _ k1.1 k1.2 hk1;have P2:C2 p0=some (.lst []):=F2 _ _ p1.1 p1.2 (F1 _ _ p1.1 p1.2 P0);have F02:Fx A C C2:=(F0.trans F1).trans F2;have ln:as.length=t.scs.length:=by have:=congrArg List.length ask.n;simpa using this
 refine .inr (.inr ⟨_,_,k,l,FV,K2,hl1,by rw[XI,XI,XI];exact ln.symm,?_⟩);have lz:(M5 ((t.scs.map sS).map qd) (as.map y0)).length=t.scs.length:=by unfold M5;rw[List.length_zipWith,XI,XI,XI];omega
 have dfl:d≠A.f/\d≠A.l:=by
  obtain⟨_,_,h⟩:=S;exact⟨λe=>(by rw[e,h.f] at hd;cases hd),λe=>(by rw[e,h.l] at hd;cases hd)⟩
 have np0k:p0≠k:=λe=>by rw[e,hk0] at P0;cases P0
 have np0l:p0≠l:=λe=>by have:=F1 _ _ p1.1 p1.2 P0;rw[e,hl0] at this;cases this
 have np0d:p0≠d:=λe=>by rw[e,hd] at hp0;cases hp0
 refine Sa (λi τ C'=>∃v5 v6 v7 vs,τ=[some (.ref A.r),some (tt t),some (.ref d),some (nT s),some (.ref p0),v5,v6,v7]/\Sl A C' u2/\Fx A C C'/\C' p0=some (.lst vs)/\Qy C' (kv.length+10) ((ye E t as).take i) vs/\
  C' k=some (.lst ((t.scs.map sS).map qd))/\C' l=some (.lst (as.map y0))) ⟨_,_,_,[],FV,S2,F02,P2,.nil,K2,hl1⟩ (λi τ C' _ h=>by obtain⟨_,_,_,_,_,_,_,_,_,h1,h2⟩:=h;exact⟨h1,h2⟩) ?_ ?_
 ·rintro i x τ C3 N hx ⟨v5,v6,v7,vs,rfl,S3,F3,P3,pl3,K3,L3⟩ hN;have hi:i<t.scs.length:=by rw[<-lz];exact(BB.mp hx).1
  obtain⟨z,hz⟩:∃z,t.scs[i]?=some z:=⟨_,BG hi⟩;obtain⟨y,hy⟩:∃y,as[i]?=some y:=⟨_,BG (by omega)⟩;have hx':(M5 ((t.scs.map sS).map qd) (as.map y0))[i]?=some (.tup [qd (sS z),y0 y]):=zM (by rw[XM,XM,hz];rfl) (by rw[XM,hy];rfl);rw[hx] at hx'
  cases hx'
  have zy:y.1.length=z.1.length:=by
   have h:=congrArg (λl:List Nat=>l[i]?) ask.n;simp only[List.getElem?_map,hz,hy,Option.map_some] at h;exact YH h
  have z10:z.1.length<=10:=xM t hl z (BH hz);have d3:C3 d=some (.dic kv):=F3 _ _ dfl.1 dfl.2 hd;refine⟨_,FV,_,_,FV,_,_,FV,FV,?_⟩;refine⟨_,FV,_,_,FV,.inl d3,λp4 hp4=>?_⟩;refine⟨_,FV,⟨_,_,FV,Ze⟩,_,FV,_,Yf,_,FV,_,Yf,z.1,y.1.map nT,FV,by rw[XI];exact zy.symm,by omega,λp5 hp5=>?_⟩;have n45:p4≠p5:=λe=>by rw[<-e,Ze] at hp5;cases hp5
  refine⟨_,_,_,_,FV,FV,n45,by rw[Zf n45];exact Ze,Ze,?_,?_⟩
  ·have:=qr (xs:=z.1) (ss:=y.1);exact Yy (by omega)
  ·have n04:p0≠p4:=λe=>by rw[<-e,P3] at hp4;cases hp4
   have h5:C3 p5=none:=by rw[Zf n45.symm] at hp5;exact hp5
   have n05:p0≠p5:=λe=>by rw[<-e,P3] at h5;cases h5
   generalize hM:Ro kv (Hm Jz (z.1.map Sum.inr) (y.1.map nT))=mg;have P5:up (up (up C3 p4 (.dic kv)) p5 (.dic (Hm Jz (z.1.map Sum.inr) (y.1.map nT)))) p4 (.dic mg) p0=some (.lst vs):=by rw[Zf n04,Zf n05,Zf n04];exact P3
   have lv:vs.length<=100000:=by
    have:=pl3.length;rw[YM] at this;have hs10:t.scs.length<=11:=by
     have:=ask.n
     cases t with
     | lt m xs ts b=>
      have hm:=hl m xs ts b FV;show(((List.finRange m).map λi=>(Wn xs,ts i))++[(Wn xs,b)]).length<=11;rw[List.length_append,List.length_map,List.length_finRange];simp;omega
     | _=>exact ZNB FV
    omega
   refine⟨_,FV,⟨_,_,FV,P5⟩,_,FV,_,Sm,_,FV,_,FV,_,Sm,Yy (by show 3<=_;omega),_,_,_,FV,FV,P5,Yz lv,?_⟩;have S4:Sl A (up C3 p4 (.dic kv)) u2:=S3.new hp4;have S5:=S4.new (o:=.dic (Hm Jz (z.1.map Sum.inr) (y.1.map nT))) hp5;have S6:=S5.other (o:=.dic mg) (S3.off hp4);have S7:=S6.other (o:=.lst (vs++[.tup [tt z.2,.ref p4,nT y.2]])) (S.off hp0);have c4:=T9 S3 F3 hp4;have c5:=T9 S3 F3 h5;refine hN _ _ ⟨_,_,_,_,FV,S7,λc w m1 m2 h=>?_,Ze,?_,?_,?_⟩
   ·rw[Zf (J0 h hp0),Zf (J0 h c4),Zf (J0 h c5),Zf (J0 h c4)];exact F3 c w m1 m2 h
   ·have hm:(ye E t as)[i]?=some (bnd z.1 y.1 E,z.2,y.2):=by
     unfold ye;rw[XM,show(t.scs.zip as)[i]?=some (z,y) from BN.mpr ⟨hz,hy⟩];rfl
    rw[YD,hm];refine Qy.snoc (pl3.keep λc kv' h=>?_) ⟨p4,mg,FV,by rw[Zf n04.symm];exact Ze,?_,?_⟩
    ·rw[Zf (λe=>by rw[e,P3] at h;cases h),Zf (J0 h hp4),Zf (J0 h h5),Zf (J0 h hp4)];exact h
    ·rw[<-hM];exact sT hE
    ·have:=jf (kvs:=kv) (xs:=z.1) (ss:=y.1);rw[hM] at this;omega
   ·rw[Zf np0k.symm,Zf (J0 K3 hp4),Zf (J0 K3 h5),Zf (J0 K3 hp4)];exact K3
   ·rw[Zf np0l.symm,Zf (J0 L3 hp4),Zf (J0 L3 h5),Zf (J0 L3 hp4)];exact L3
 ·rintro τ C3 ⟨v5,v6,v7,vs,rfl,S3,F3,P3,pl3,K3,L3⟩;rw[lz] at pl3;refine⟨_,FV,?_⟩;have tk:(ye E t as).take t.scs.length=ye E t as:=ER (by unfold ye;rw[XI,CT];omega);rw[tk] at pl3;exact q C3 p0 u2 _ vs S3 F3 hp0 P3 pl3 (uX ask hb) (ow ln) (by rw[k7 ln];exact rx) (k8 ask.n)
def xR (R:Rp W ρ)(hl:∀m xs ts b,t=.lt m xs ts b->m<=10)(S:Sl A C u)(o:u.Ok)(cl:Vn u [])(hs:s<u.F.length)(hn:u.F.length<=7000)(hE:jM kv E)(hb:∀x i,E x=some i->i<u.F.length)(hd:C d=some (.dic kv))(hk:kv.length<=90000)
  (hsh:i3 t) (hx:∀x,t=.nm x->(E x).isSome=true) (w:(¬∃σ0 cs,X6 u σ0/\Ji t (λx=>(E x).map σ0) (σ0 s) cs)->ρ)
  (q:∀C' p u' ps vs,Sl A C' u'->Fx A C C'->C p=none->C' p=some (.lst vs)->Qy C' (kv.length+10) ps vs->uz u (E,t,s) u' ps->ps.map (λz=>z.2.1)=t.scs.map (λz=>z.2)->Rx u s u' (ps.map (·.2.2))->Dm E t ps->Q (.ref p) C'):W (n+6) Vj [.ref A.r,tt t,.ref d,nT s] C Q χ:=by
 cases e:Tr.isNm t with
 | false=>exact Dr R e hl S o cl hs hn hE hb hd hk hsh w q
 | true=>
  cases t with
  | nm x=>exact Dt R S o cl hs hn hE hb hd (hx x FV) w q
  | _=>cases e
def Qy.app {C:Hw}{N:Nat}{ps qs:List Pl}{vs ws:List T}(h:Qy C N ps vs)(q:Qy C N qs ws):Qy C N (ps++qs) (vs++ws):=by
 induction h with
 | nil=>exact q
 | cons a b ih=>exact .cons a ih
def Qy.rev {C:Hw}{N:Nat}{ps:List Pl}{vs:List T}(h:Qy C N ps vs):Qy C N ps.reverse vs.reverse:=by
 induction h with
 | nil=>exact .nil
 | cons a b ih=>rw[CG,CG];exact ih.app (.cons a .nil)
def Qy.more {C:Hw}{N M:Nat}{ps:List Pl}{vs:List T}(h:Qy C N ps vs)(k:N<=M):Qy C M ps vs:=by
 induction h with
 | nil=>exact .nil
 | cons a b ih=>
  obtain⟨d,kv,h1,h2,h3,h4⟩:=a;exact .cons ⟨d,kv,h1,h2,h3,XN h4 k⟩ ih
def xJ:∀t:Tr,1<=t.size:=λt=>by have:=Dn t;omega
def Fc:∀ps:List Pl,ps.length<=tM ps
 | []=>XE _
 | p::ps=>by
  have h:=Fc ps;have h2:=xJ p.2.1;unfold tM at h |-;rw[YI,ET,YF];omega
def Qy.last {C:Hw}{N:Nat}{ps:List Pl}{p:Pl}{vs:List T}(h:Qy C N (p::ps).reverse vs):∃ws v,vs=ws++[v]/\Qy C N ps.reverse ws/\mq C N p v:=by
 have r:=h.rev;rw[List.reverse_reverse] at r
 cases e:vs.reverse with
 | nil=>rw[e] at r;cases r
 | cons v w=>
  rw[e] at r
  cases r with
  | cons a b=>
   refine⟨w.reverse,v,?_,Qy.rev b,a⟩;have:=congrArg List.reverse e;rw[List.reverse_reverse,CG] at this;exact this
def Ce:Nat->List Str->Tr->Prop
 | 0,_,_=>False
 | m+1,bs,t=>(∀x,t=.nm x->x∈bs)/\i3 t/\∀z∈t.scs,Ce m (bs++z.1) z.2
def cz (p:Pl):Prop:=∃m bs,Ce m bs p.2.1/\∀x∈bs,(p.1 x).isSome=true
def yN (R:Rp W ρ)(hl:t.lok)(hz:t.size<=600)(hco:t.cost<=6000){mm:Nat}(hce:Ce mm [] t)(hw:(¬∃k R,HT G0 t k R)->ρ){rt:Nat->Nat}(S:Sl A C ⟨rt,[]⟩)
  (q:∀C' p u rows,Sl A C' u->Fx A C C'->C p=none->C' p=some (.lst (rows.map nT))->Kn t u rows []->(∀x,x<u.F.length->Nz u rows x)->Q (.ref p) C'):W (n+7) Hg [.ref A.r,tt t] C Q χ:=by
 refine R.o_rows_of FV ?_;unfold Qb Ql;refine⟨Yy (by show 0<=_;omega),λpr_ hpr=>?_⟩;have S0:=S.new (o:=.lst []) hpr;have F0:Fx A C (up C pr_ (.lst [])):=Ul S (Fx.refl _ _) hpr;have P0:up C pr_ (.lst []) pr_=some (.lst []):=Ze;generalize up C pr_ (.lst [])=C0 at S0 F0 P0;refine⟨_,FV,λpd hpd=>?_⟩;have S1:=S0.new (o:=.dic []) hpd;have F1:Fx A C (up C0 pd (.dic [])):=Ul S0 F0 hpd;have D1:up C0 pd (.dic []) pd=some (.dic []):=Ze;have P1:up C0 pd (.dic []) pr_=some (.lst []):=by rw[Zf (J0 P0 hpd)];exact P0
 generalize up C0 pd (.dic [])=C1 at S1 F1 D1 P1;have ok0:(⟨rt,[]⟩:Us).Ok:=⟨λx hx=>absurd hx (Nat.not_lt_zero _),λx hx=>absurd hx (Nat.not_lt_zero _),λx f hx=>by simp at hx⟩;refine Jb R (n:=n+4) S1 ok0 (XO _) FV λC2 S2 F2=>?_;refine⟨Yy (by show 3<=_;omega),Yy (by show 1<=_;omega),λpp hpp=>?_⟩;have prf:=S.off hpr;have P2:C2 pr_=some (.lst []):=F2 _ _ prf.2.1 prf.2.2 P1;have pdf:=S0.off hpd;have D2:C2 pd=some (.dic []):=F2 _ _ pdf.2.1 pdf.2.2 D1;have F02:Fx A C C2:=F1.trans F2;have ppf:=S2.off hpp;have npp:pr_≠pp:=J0 P2 hpp;have cpp:=T9 S2 F02 hpp;refine Qa (λm τ C'=>∃v4 u rows ps vs,τ=[some (.ref A.r),some (tt t),some (.ref pr_),some (.ref pp),v4]/\Sl A C' u/\Fx A C C'/\C' pr_=some (.lst (rows.map nT))/\C' pp=some (.lst vs)/\Qy C' (10*rows.length) ps.reverse vs/\Kn t u rows ps/\(∀p∈ps,cz p)/\(∀x,x<u.F.length->Nz u (rows++ps.map (·.2.2)) x)/\m=tM ps) (m:=tM [((λ_=>none),t,0)])
  ⟨none,_,[],[((λ_=>none),t,0)],_,FV,S2.new hpp,Ul S2 F02 hpp,by rw[Zf npp];exact P2,Ze,.cons ⟨pd,[],FV,by rw[Zf (J0 D2 hpp)];exact D2,λx=>rfl,XO _⟩ .nil,Kn.start hl _ (XY FV),λp h=>(by rw[XQ.mp h];exact⟨mm,[],hce,λx h=>(by cases h)⟩),λx h=>(by
   have:x=0:=by have h:x<1:=h;omega
   subst this;exact .row (XQ.mpr FV)),FV⟩ ?_
 rintro m τ C3 N ⟨v4,u3,rows,ps,vs,rfl,S3,F3,R3,P3,pl3,K3,PC3,RC3,rfl⟩ hN;refine⟨_,FV,Yy (by show 0<=_;omega),λp' hp'=>?_⟩;have P4:up C3 p' (.lst []) pp=some (.lst vs):=by rw[Zf (J0 P3 hp')];exact P3
 refine G7 P4 Ze ⟨_,FV,?_⟩;have S4:Sl A (up C3 p' (.lst [])) u3:=S3.new hp';have F4:Fx A C (up C3 p' (.lst [])):=Ul S3 F3 hp';have R4:up C3 p' (.lst []) pr_=some (.lst (rows.map nT)):=by rw[Zf (J0 R3 hp')];exact R3
 have pl4:Qy (up C3 p' (.lst [])) (10*rows.length) ps.reverse vs:=pl3.keep λc kv h=>by rw[Zf (J0 h hp')];exact h
 generalize up C3 p' (.lst [])=C4 at P4 S4 F4 R4 pl4
 cases ps with
 | nil=>
  have:vs=[]:=by have:=pl4.length;exact EK.mp this.symm
  subst this;refine Zk ⟨_,FV,?_⟩;exact q C4 pr_ u3 rows S4 F4 hpr R4 K3 (λx h=>by have:=RC3 x h;rwa [FR,YK] at this)
 | cons p ps=>
  obtain⟨ws,v,rfl,plw,d,kv,rfl,hd,hE,hkv⟩:=pl4.last;have ne:(!(ws++[T.tup [tt p.2.1,.ref d,nT p.2.2]]).isEmpty)=true:=by simp
  rw[ne];refine Yi ?_;have last:(ws++[T.tup [tt p.2.1,.ref d,nT p.2.2]])[(ws++[T.tup [tt p.2.1,.ref d,nT p.2.2]]).length-1]?=some (T.tup [tt p.2.1,.ref d,nT p.2.2]):=by simp
  have dl:(ws++[T.tup [tt p.2.1,.ref d,nT p.2.2]]).dropLast=ws:=by simp
  refine⟨_,FV,⟨_,_,FV,P4⟩,_,_,_,FV,FV,P4,last,?_⟩;rw[dl];have sz:=K3.sz;have lp:=Fc (p::ps);rw[YF] at lp;have lw:ws.length=ps.length:=by have:=plw.length;rw[CP] at this;omega
  have S5:=S4.other (o:=.lst ws) ppf;have R5:up C4 pp (.lst ws) pr_=some (.lst (rows.map nT)):=by rw[Zf npp];exact R4
  have P5:up C4 pp (.lst ws) pp=some (.lst ws):=Ze;have dpp:∀{c:WP} {kv:List (Z2×T)},C4 c=some (.dic kv)->c≠pp:=λh e=>by rw[e,P4] at h;cases h
  have k5:∀c kv,C4 c=some (.dic kv)->up C4 pp (.lst ws) c=some (.dic kv):=λc kv h=>by rw[Zf (dpp h)];exact h
  have F5:Fx A C (up C4 pp (.lst ws)):=λc w m1 m2 h=>by rw[Zf (J0 h cpp)];exact F4 c w m1 m2 h
  have d5:=k5 _ _ hd;have plw5:=plw.keep k5;generalize up C4 pp (.lst ws)=C5 at S5 R5 P5 F5 d5 plw5;refine⟨_,FV,⟨_,_,FV,R5⟩,_,FV,_,Hv,_,_,_,FV,FV,R5,Yz (by rw[XI];omega),?_⟩;have er:rows.map nT++[nT p.2.2]=(rows++[p.2.2]).map nT:=by rw[XL];rfl
  rw[er];have S6:=S5.other (o:=.lst ((rows++[p.2.2]).map nT)) prf;have P6:up C5 pr_ (.lst ((rows++[p.2.2]).map nT)) pp=some (.lst ws):=by rw[Zf npp.symm];exact P5
  have R6:up C5 pr_ (.lst ((rows++[p.2.2]).map nT)) pr_=some (.lst ((rows++[p.2.2]).map nT)):=Ze;have k6:∀c kv,C5 c=some (.dic kv)->up C5 pr_ (.lst ((rows++[p.2.2]).map nT)) c=some (.dic kv):=λc kv h=>by rw[Zf λe=>by rw[e,R5] at h;cases h];exact h
  have F6:Fx A C (up C5 pr_ (.lst ((rows++[p.2.2]).map nT))):=λc w m1 m2 h=>by rw[Zf (J0 h hpr)];exact F5 c w m1 m2 h
  have d6:=k6 _ _ d5;have plw6:=plw5.keep k6;generalize up C5 pr_ (.lst ((rows++[p.2.2]).map nT))=C6 at S6 P6 R6 F6 d6 plw6;obtain⟨hok,hlok⟩:=K3.pk p (BC ..);have ww:(¬∃σ0 cs,X6 u3 σ0/\Ji p.2.1 (λx=>(p.1 x).map σ0) (σ0 p.2.2) cs)->ρ:=λh=>hw λ⟨kk,RR,hT⟩=>by
   obtain⟨σ0,R',w1,w2,w3⟩:=K3.co kk RR hT;obtain⟨cs,r',w4,_,_⟩:=w3.take;exact h ⟨σ0,cs,w1,w4⟩
  obtain⟨m3,bs3,ce3,dom3⟩:=PC3 p (BC ..);obtain⟨m3,rfl⟩:∃k,m3=k+1:=by cases m3 with
   | zero=>exact ce3.elim
   | succ k=>exact⟨k,FV⟩
  have ln:=K3.len;refine⟨_,FV,⟨_,_,FV,P6⟩,_,FV,_,FV,_,Yf,_,FV,_,Sm,_,FV,_,Hv,?_⟩;dsimp only[Zw];refine xR R (n:=n) (t:=p.2.1) (E:=p.1) (s:=p.2.2) (Fb hlok).1 S6 K3.o K3.c hok.1 (by omega) hE hok.2 d6 (by omega) ce3.2.1 (λx h=>dom3 x (ce3.1 x h)) ww λC7 p7 u7 qs v7 S7 F7 hp7 P7 pl7 st hq rx7 dm7=>?_;have P8:C7 pp=some (.lst ws):=F7 _ _ ppf.2.1 ppf.2.2 P6;have R8:C7 pr_=some (.lst ((rows++[p.2.2]).map nT)):=F7 _ _ prf.2.1 prf.2.2 R6;refine⟨_,_,FV,P7,λp8 hp8=>?_⟩;have K9:=K3.step st hq;have lq:=Fc (qs++ps);have s9:=K9.sz;rw[BA] at lq;have l7:v7.length=qs.length:=pl7.length.symm;have P9:up C7 p8 (.lst v7.reverse) pp=some (.lst ws):=by rw[Zf (J0 P8 hp8)];exact P8
  refine⟨_,_,_,_,FV,FV,P9,Ze,by rw[CP];exact Yy (by omega),?_⟩;have S8:=S7.new (o:=.lst v7.reverse) hp8;have S9:=S8.other (o:=.lst (ws++v7.reverse)) ppf;have F67:=F6.trans F7;have c8:=T9 S7 F67 hp8;have k9:∀c kv,C7 c=some (.dic kv)->up (up C7 p8 (.lst v7.reverse)) pp (.lst (ws++v7.reverse)) c=some (.dic kv):=λc kv h=>by
   rw[Zf (λe=>by rw[e,P8] at h;cases h),Zf (J0 h hp8)];exact h
  refine hN (tM (qs++ps)) _ _ (by rw[BA,BF] at s9;omega) ⟨_,u7,rows++[p.2.2],qs++ps,_,FV,S9,λc w m1 m2 h=>?_,?_,Ze,?_,K9,?_,?_,FV⟩
  ·rw[Zf (J0 h cpp),Zf (J0 h c8)];exact F67 c w m1 m2 h
  ·rw[Zf npp,Zf (J0 R8 hp8)];exact R8
  ·rw[List.reverse_append];have lr:(rows++[p.2.2]).length=rows.length+1:=by rw[BA];rfl
   rw[lr];refine Qy.app ?_ ?_
   ·exact((Qy.mono plw6 ⟨_,S6⟩ F7).keep k9).more (by omega)
   ·exact(pl7.rev.keep k9).more (by omega)
  ·intro z hz
   rcases XS.mp hz with h | h
   ·obtain⟨y,hy,e1,e2⟩:=dm7 z h;refine⟨m3,bs3++y.1,by rw[e1];exact ce3.2.2 y hy,λx hx=>e2 x ?_⟩
    rcases XS.mp hx with h | h
    ·exact .inr (dom3 x h)
    ·exact .inl h
   ·exact PC3 z (XV _ h)
  ·intro x hx;by_cases c:x<u3.F.length
   ·refine((RC3 x c).lift K3.o (λi hi=>?_) rx7.mo rx7.ex).1.more λi hi=>.row ?_
    ·rcases XS.mp hi with h | h
     ·exact K3.rl i h
     ·obtain⟨z,hz,rfl⟩:=XR.mp h;exact(K3.pk z hz).1.1
    ·rw[XL];rw[YI] at hi;simp only[List.mem_append,List.mem_cons,List.not_mem_nil,or_false] at hi |-
     rcases hi with h | h | h
     ·exact .inl (.inl h)
     ·exact .inl (.inr h)
     ·exact .inr (.inr h)
   ·refine(rx7.rc x (by omega) hx).more λi hi=>.row ?_;rw[XL];simp only[List.mem_append,List.mem_cons,List.not_mem_nil,or_false] at hi |-
    rcases hi with h | h
    ·exact .inl (.inr h)
    ·exact .inr (.inl h)
end
end K27
namespace Fn
open PySem WL
def Kd.sz:Kd->Nat
 | .op _=>1
 | .k0 _=>1
 | .k1 _ a=>1+a.sz
 | .k2 _ a b=>1+(a.sz+b.sz)
def Kd.ops:Kd->List Nat
 | .op n=>[n]
 | .k0 _=>[]
 | .k1 _ a=>a.ops
 | .k2 _ a b=>a.ops++b.ops
def ext (acc l:List Nat):List Nat:=l.foldl (λa j=>if j∈a then a else a++[j]) acc
def Sb {acc l m:List Nat}:ext acc (l++m)=ext (ext acc l) m:=EL ..
def zo {acc:List Nat}:∀{l:List Nat},(∀j∈l,j∈acc)->ext acc l=acc
 | [],_=>rfl
 | j::l,h=>by
  show ext (if j∈acc then acc else acc++[j]) l=acc;rw[XY (h j (BC ..))];exact zo λi hi=>h i (XV _ hi)
structure Ms where
 P:List Nat
 M:Nat->Option Kd
 O:List Nat
 B:List Nat
def set (M:Nat->Option Kd)(r:Nat)(k:Kd):Nat->Option Kd:=λq=>if q=r then some k else M q
def vl (M:Nat->Option Kd)(q:Nat):Kd:=(M q).getD (.op 0)
def Us.within (u:Us)(f:Fm):List Nat:=f.ps.map u.rt
def Us.told (u:Us)(M:Nat->Option Kd)(f:Fm):Kd:=f.ev λp=>vl M (u.rt p)
inductive ml (u:Us):Ms->Ms->Prop
 | skip {r P M O B k}:M r=some k->ml u ⟨r::P,M,O,B⟩ ⟨P,M,O,B⟩
 | opn {r P M O B}:M r=none->u.F[r]?=some none->ml u ⟨r::P,M,O,B⟩ ⟨P,set M r (.op O.length),O++[r],B⟩
 | beg {r P M O B f}:M r=none->u.F[r]?=some (some f)->r∉B->(∀q∈u.within f,¬(q∈r::B/\M q=none))->ml u ⟨r::P,M,O,B⟩ ⟨u.within f++r::P,M,O,r::B⟩
 | fin {r P M O B f}:M r=none->u.F[r]?=some (some f)->r∈B->(∀q∈u.within f,M q≠none)->ml u ⟨r::P,M,O,B⟩ ⟨P,set M r (u.told M f),O,B⟩
inductive u6 (u:Us):Ms->Nat->Ms->Prop
 | done {s}:u6 u s 0 s
 | step {s s' s'' n}:ml u s s'->u6 u s' n s''->u6 u s (n+1) s''
def u6.app {u:Us}{s s' s'':Ms}{n m:Nat}(h:u6 u s n s')(q:u6 u s' m s''):u6 u s (n+m) s'':=by
 induction h with
 | done=>rw[Nat.zero_add];exact q
 | step a b ih=>rw[Nat.add_right_comm];exact .step a (ih q)
structure Hz (u:Us)(M:Nat->Option Kd)(O:List Nat):Prop where
 root:∀q k,M q=some k->q<u.F.length/\u.rt q=q
 opn:∀q k,M q=some k->u.F[q]?=some none->∃i,k=.op i/\O[i]?=some q
 frm:∀q k f,M q=some k->u.F[q]?=some (some f)->k=u.told M f/\∀p∈u.within f,M p≠none
 ops:∀q k,M q=some k->∀j∈k.ops,j<O.length
 num:∀i q,O[i]?=some q->M q=some (.op i)/\u.F[q]?=some none
structure eB (u:Us)(μ:Nat->Nat)(r:Nat)(M:Nat->Option Kd)(O B:List Nat)(M':Nat->Option Kd)(O' B':List Nat):Prop where
 rd:Hz u M' O'
 keep:∀q k,M q=some k->M' q=some k
 low:∀q,M q=none->M' q≠none->μ q<=μ r
 here:∃k,M' r=some k/\ext (List.range O.length) k.ops=List.range O'.length
 beg:∀q∈B',q∈B\/M' q≠none
 sub:∀q∈B,q∈B'
section
variable {u:Us}{μ:Nat->Nat}{r:Nat}{M M':Nat->Option Kd}{O B:List Nat}
def Jm {k:Kd}:set M r k r=some k:=XY FV
def Jo {q:Nat}{k:Kd}(h:q≠r):set M r k q=M q:=XX h
def Q2 {f:Fm}(h:∀p∈u.within f,M p=M' p):u.told M f=u.told M' f:=Ol λp hp=>by
 unfold vl;rw[h _ (XR.mpr ⟨p,hp,FV⟩)]
def xY {f:Fm}(R:Hz u M O)(hr:r<u.F.length/\u.rt r=r)(hn:M r=none)(hf:u.F[r]?=some (some f))(hw:∀q∈u.within f,M q≠none):Hz u (set M r (u.told M f)) O:=by
 have ne:∀{q k},M q=some k->q≠r:=λh e=>by rw[e,hn] at h;cases h
 have nw:∀q,M q≠none->set M r (u.told M f) q=M q:=λq h=>Jo λe=>h (by rw[e];exact hn);refine⟨λq k h=>?_,λq k h ho=>?_,λq k g h hg=>?_,λq k h j hj=>?_,λi q h=>?_⟩
 ·by_cases c:q=r
  ·rw[c];exact hr
  ·rw[Jo c] at h;exact R.root q k h
 ·by_cases c:q=r
  ·rw[c,hf] at ho;cases ho
  ·rw[Jo c] at h;exact R.opn q k h ho
 ·by_cases c:q=r
  ·subst c;rw[hf] at hg
   cases hg
   rw[Jm] at h
   cases h
   exact⟨Q2 λp hp=>(nw p (hw p hp)).symm,λp hp=>by rw[nw p (hw p hp)];exact hw p hp⟩
  ·rw[Jo c] at h;obtain⟨h1,h2⟩:=R.frm q k g h hg;exact⟨h1.trans (Q2 λp hp=>(nw p (h2 p hp)).symm),λp hp=>by rw[nw p (h2 p hp)];exact h2 p hp⟩
 ·by_cases c:q=r
  ·subst c;rw[Jm] at h
   cases h
   have pv:∀p∈f.ps,∀j∈(vl M (u.rt p)).ops,j<O.length:=λp hp j hj=>by
    cases e:M (u.rt p) with
    | none=>exact absurd e (hw _ (XR.mpr ⟨p,hp,FV⟩))
    | some k=>unfold vl at hj;rw[e] at hj;exact R.ops _ k e j hj
   cases f with
   | f0 g=>cases hj
   | f1 g a=>exact pv a (by simp[Fm.ps]) j hj
   | f2 g a b=>
    rcases XS.mp hj with hj | hj
    ·exact pv a (by simp[Fm.ps]) j hj
    ·exact pv b (by simp[Fm.ps]) j hj
  ·rw[Jo c] at h;exact R.ops q k h j hj
 ·obtain⟨h1,h2⟩:=R.num i q h;exact⟨by rw[Jo (ne h1)];exact h1,h2⟩
def xX (R:Hz u M O)(hr:r<u.F.length/\u.rt r=r)(hn:M r=none)(hf:u.F[r]?=some none):Hz u (set M r (.op O.length)) (O++[r]):=by
 have nw:∀q,M q≠none->set M r (.op O.length) q=M q:=λq h=>Jo λe=>h (by rw[e];exact hn);refine⟨λq k h=>?_,λq k h ho=>?_,λq k g h hg=>?_,λq k h j hj=>?_,λi q h=>?_⟩
 ·by_cases c:q=r
  ·rw[c];exact hr
  ·rw[Jo c] at h;exact R.root q k h
 ·by_cases c:q=r
  ·subst c;rw[Jm] at h
   cases h
   exact⟨O.length,FV,by rw[BM (XE _),DS];rfl⟩
  ·rw[Jo c] at h;obtain⟨i,h1,h2⟩:=R.opn q k h ho;exact⟨i,h1,by rw[BO (BB.mp h2).1];exact h2⟩
 ·by_cases c:q=r
  ·subst c;rw[hf] at hg;cases hg
  ·rw[Jo c] at h;obtain⟨h1,h2⟩:=R.frm q k g h hg;exact⟨h1.trans (Q2 λp hp=>(nw p (h2 p hp)).symm),λp hp=>by rw[nw p (h2 p hp)];exact h2 p hp⟩
 ·rw[BA,BF];by_cases c:q=r
  ·subst c;rw[Jm] at h
   cases h
   rw[XQ.mp hj];omega
  ·rw[Jo c] at h;have:=R.ops q k h j hj;omega
 ·by_cases c:i<O.length
  ·rw[BO c] at h;obtain⟨h1,h2⟩:=R.num i q h;exact⟨by rw[nw q (by rw[h1];intro z;cases z)];exact h1,h2⟩
  ·have hi:i=O.length:=by
    have:=(BB.mp h).1;rw[BA,BF] at this;omega
   subst hi;rw[BM (XE _),DS] at h
   cases h
   exact⟨Jm,hf⟩
def pV {f:Fm}{g:Nat->Kd}:(f.ev g).ops=(f.ps.map λp=>(g p).ops).flatten:=by
 cases f with
 | f0 w=>rfl
 | f1 w a=>show(g a).ops=(g a).ops++[];rw[YK]
 | f2 w a b=>show(g a).ops++(g b).ops=(g a).ops++((g b).ops++[]);rw[YK]
def mf (u:Us)(μ:Nat->Nat)(n:Nat):Prop:=∀r P M O B,μ r<n->r<u.F.length->u.rt r=r->Hz u M O->(∀q∈B,M q=none->μ r<μ q)->∃k M' O' B',u6 u ⟨r::P,M,O,B⟩ k ⟨P,M',O',B'⟩/\eB u μ r M O B M' O' B'
def Dw {m:Nat}(ih:mf u μ m){P:List Nat}:∀(ws:List Nat) (M:Nat->Option Kd) (O B:List Nat),(∀w∈ws,w<u.F.length/\u.rt w=w/\μ w<m)->(∀q∈B,M q=none->m<=μ q)->Hz u M O->
  ∃k M' O' B',u6 u ⟨ws++P,M,O,B⟩ k ⟨P,M',O',B'⟩/\Hz u M' O'/\(∀q k,M q=some k->M' q=some k)/\(∀q,M q=none->M' q≠none->μ q<m)/\(∀w∈ws,M' w≠none)/\
   ext (List.range O.length) (ws.map λw=>(vl M' w).ops).flatten=List.range O'.length/\(∀q∈B',q∈B\/M' q≠none)/\∀q∈B,q∈B'
 | [],M,O,B,_,_,R=>⟨0,M,O,B,.done,R,λ_ _ h=>h,λq h h'=>absurd h h',λw h=>(by cases h),FV,λq h=>.inl h,λq h=>h⟩
 | w::ws,M,O,B,hw,hB,R=>by
  obtain⟨w1,w2,w3⟩:=hw w (BC ..);obtain⟨k1,M1,O1,B1,r1,g1⟩:=ih w (ws++P) M O B w3 w1 w2 R λq hq h=>XG w3 (hB q hq h);have none1:∀q,M1 q=none->M q=none:=λq h=>by
   cases e:M q with
   | none=>rfl
   | some k=>rw[g1.keep q k e] at h;cases h
  obtain⟨k2,M2,O2,B2,r2,R2,kp2,lo2,in2,ex2,be2,su2⟩:=Dw ih ws M1 O1 B1 (λv hv=>hw v (XV _ hv)) (λq hq h=>hB q ((g1.beg q hq).resolve_right λz=>z h) (none1 q h)) g1.rd;obtain⟨kk,h1,h2⟩:=g1.here;have e2:M2 w=some kk:=kp2 w kk h1;refine⟨k1+k2,M2,O2,B2,r1.app r2,R2,λq k h=>kp2 q k (g1.keep q k h),λq h h'=>?_,λv hv=>?_,?_,λq hq=>?_,λq hq=>su2 q (g1.sub q hq)⟩
  ·by_cases c:M1 q=none
   ·exact lo2 q c h'
   ·exact ED (g1.low q h c) w3
  ·rcases BD.mp hv with rfl | hv
   ·rw[e2];intro z;cases z
   ·exact in2 v hv
  ·rw[YI,FN,Sb];have:vl M2 w=kk:=by unfold vl;rw[e2];rfl
   rw[this,h2];exact ex2
  ·rcases be2 q hq with h | h
   ·rcases g1.beg q h with h | h
    ·exact .inl h
    ·refine .inr λz=>h ?_
     cases e:M1 q with
     | none=>rfl
     | some k=>rw[kp2 q k e] at z;cases z
   ·exact .inr h
def oQ (o:u.Ok)(hμ:∀r f,r<u.F.length->u.rt r=r->u.F[r]?=some (some f)->∀q∈u.within f,μ q<μ r):∀n,mf u μ n
 | 0=>λr P M O B h=>absurd h (EB _)
 | n+1=>λr P M O B hn hr1 hr2 R hB=>by
  cases e:M r with
  | some k=>
   refine⟨1,M,O,B,.step (.skip e) .done,R,λ_ _ h=>h,λq h h'=>absurd h h',⟨k,e,zo λj hj=>CI.mpr (R.ops r k e j hj)⟩,λq h=>.inl h,λq h=>h⟩
  | none=>
   obtain⟨fo,hf⟩:∃f,u.F[r]?=some f:=⟨_,BG hr1⟩
   cases fo with
   | none=>
    refine⟨1,_,_,B,.step (.opn e hf) .done,xX R ⟨hr1,hr2⟩ e hf,λq k h=>?_,λq h h'=>?_,⟨_,Jm,?_⟩,λq h=>.inl h,λq h=>h⟩
    ·rw[Jo λz=>by rw[z,e] at h;cases h];exact h
    ·by_cases c:q=r
     ·rw[c];exact XE _
     ·rw[Jo c] at h';exact absurd h h'
    ·show(if O.length∈List.range O.length then List.range O.length else List.range O.length++[O.length])=_;rw[if_neg (by simp),List.length_append,List.length_singleton,List.range_succ]
   | some f=>
    have hw:=hμ r f hr1 hr2 hf;have rB:r∉B:=λh=>BJ _ (hB r h e);have wr:∀w∈u.within f,w<u.F.length/\u.rt w=w/\μ w<μ r:=λw h=>by
     obtain⟨p,hp,rfl⟩:=XR.mp h;have:=o.ps r f hf p hp;exact⟨o.lt p this,o.id p this,hw _ h⟩
    have nb:∀q∈u.within f,¬(q∈r::B/\M q=none):=λq h z=>by
     have l:=hw q h
     rcases BD.mp z.1 with c | c
     ·rw[c] at l;exact BJ _ l
     ·exact BJ _ (Nat.lt_trans l (hB q c z.2))
    have ih:mf u μ (μ r):=λr' P' M' O' B' h=>oQ o hμ n r' P' M' O' B' (by omega);obtain⟨k2,M2,O2,B2,r2,R2,kp2,lo2,in2,ex2,be2,su2⟩:=Dw ih (P:=r::P) (u.within f) M O (r::B) wr (λq hq h=>by
     rcases BD.mp hq with c | c
     ·rw[c];exact XE _
     ·exact CK (hB q c h)) R
    have e2:M2 r=none:=by
     cases z:M2 r with
     | none=>rfl
     | some k=>exact absurd (lo2 r e (by rw[z];intro y;cases y)) (BJ _)
    refine⟨1+(k2+1),_,O2,B2,.app (.step (.beg e hf rB nb) .done) (r2.app (.step (.fin e2 hf (su2 r (BC ..)) in2) .done)),xY R2 ⟨hr1,hr2⟩ e2 hf in2,λq k h=>?_,λq h h'=>?_,⟨_,Jm,?_⟩,λq hq=>?_,λq hq=>su2 q (XV _ hq)⟩
    ·rw[Jo λz=>by rw[z,e] at h;cases h];exact kp2 q k h
    ·by_cases c:q=r
     ·rw[c];exact XE _
     ·rw[Jo c] at h';exact CK (lo2 q h h')
    ·rw[<-ex2];congr 1;show(f.ev λp=>vl M2 (u.rt p)).ops=_;rw[pV];unfold Us.within;rw[YE];rfl
    ·rcases be2 q hq with h | h
     ·rcases BD.mp h with c | c
      ·exact .inr (by rw[c,Jm];intro z;cases z)
      ·exact .inl c
     ·exact .inr (by
       by_cases c:q=r
       ·rw[c,Jm];intro z;cases z
       ·rw[Jo c];exact h)
end
def wW {u:Us}{σ0:Nat->Kd}(o:u.Ok)(h:X6 u σ0):∀r f,r<u.F.length->u.rt r=r->u.F[r]?=some (some f)->∀q∈u.within f,(σ0 q).sz<(σ0 r).sz:=λr f _ _ hf q hq=>by
 obtain⟨p,hp,rfl⟩:=XR.mp hq;rw[<-h.1 p (o.ps r f hf p hp),h.2 r f hf]
 cases f with
 | f0 g=>cases hp
 | f1 g a=>rw[XQ.mp hp];show _<1+(σ0 a).sz;omega
 | f2 g a b=>
  simp only[Fm.ps,List.mem_cons,List.not_mem_nil,or_false] at hp;show _<1+((σ0 a).sz+(σ0 b).sz)
  rcases hp with rfl | rfl<;>omega
structure rL (u:Us)(rows:List Nat)(M:Nat->Option Kd)(O:List Nat):Prop where
 rd:Hz u M O
 all:∀i∈rows,M (u.rt i)≠none
 num:ext [] (rows.map λi=>(vl M (u.rt i)).ops).flatten=List.range O.length
def xZ {u:Us}:Hz u (λ_=>none) []:=⟨λq k h=>(by cases h),λq k h=>(by cases h),λq k f h=>(by cases h),λq k h=>(by cases h),λi q h=>by simp at h⟩
def Kd.put (θ:Nat->Kd):Kd->Kd
 | .op n=>θ n
 | .k0 g=>.k0 g
 | .k1 g a=>.k1 g (a.put θ)
 | .k2 g a b=>.k2 g (a.put θ) (b.put θ)
def pA {θ:Nat->Kd}{f:Fm}{g:Nat->Kd}:(f.ev g).put θ=f.ev λp=>(g p).put θ:=by cases f<;>rfl
structure zJ (t:Tr)(R:List Kd):Prop where
 is:∃k,HT G0 t k R
 wide:∀k' R',HT G0 t k' R'->∃θ,R'=R.map (Kd.put θ)
 num:∃n,ext [] (R.map Kd.ops).flatten=List.range n
section
variable {u:Us}{M:Nat->Option Kd}{O rows:List Nat}{σ σ0:Nat->Kd}{t:Tr}
def Hy (o:u.Ok)(h:X6 u σ0):∀(l:List Nat) (M:Nat->Option Kd) (O:List Nat),(∀i∈l,i<u.F.length)->Hz u M O->∃M' O',Hz u M' O'/\(∀q k,M q=some k->M' q=some k)/\∀i∈l,M' (u.rt i)≠none
 | [],M,O,_,R=>⟨M,O,R,λ_ _ h=>h,λi h=>(by cases h)⟩
 | i::l,M,O,hl,R=>by
  have il:=hl i (BC ..);obtain⟨k,M1,O1,B1,_,g⟩:=oQ (μ:=λq=>(σ0 q).sz) o (wW o h) ((σ0 (u.rt i)).sz+1) (u.rt i) [] M O [] (BK _) (o.lt i il) (o.id i il) R (λq h=>by cases h);obtain⟨M2,O2,R2,k2,a2⟩:=Hy o h l M1 O1 (λj hj=>hl j (XV _ hj)) g.rd;obtain⟨kk,g1,_⟩:=g.here;refine⟨M2,O2,R2,λq k e=>k2 q k (g.keep q k e),λj hj=>?_⟩
  rcases BD.mp hj with rfl | hj
  ·rw[k2 _ kk g1];intro z;cases z
  ·exact a2 j hj
def xu (o:u.Ok)(c:Vn u [])(h:X6 u σ0)(T:rL u rows M O):∃σ1,X6 u σ1/\∀i∈rows,σ1 i=vl M (u.rt i):=by
 obtain⟨M',O',R',kp,al⟩:=Hy o h (List.range u.F.length) M O (λi hi=>CI.mp hi) T.rd;refine⟨λq=>vl M' (u.rt q),⟨λx hx=>by show vl M' (u.rt x)=vl M' (u.rt (u.rt x));rw[o.id x hx],λx f hx=>?_⟩,λi hi=>?_⟩
 ·have xl:=(BB.mp hx).1;obtain⟨g,g1,g2⟩:=c x f hx
  cases e:M' (u.rt x) with
  | none=>exact absurd e (al x (CI.mpr xl))
  | some k=>
   obtain⟨h1,_⟩:=R'.frm _ k g e g1;show vl M' (u.rt x)=_;have ev:vl M' (u.rt x)=k:=by unfold vl;rw[e];rfl
   rw[ev,h1];show g.ev (λp=>vl M' (u.rt p))=f.ev λp=>vl M' (u.rt p)
   cases f with
   | f0 w=>cases g with
    | f0 v=>have:w=v:=g2;rw[this]
    | f1 v c=>exact g2.elim
    | f2 v c d=>exact g2.elim
   | f1 w a=>cases g with
    | f0 v=>exact g2.elim
    | f1 v c=>show Kd.k1 v (vl M' (u.rt c))=Kd.k1 w (vl M' (u.rt a));rw[g2.1,g2.2.nil]
    | f2 v c d=>exact g2.elim
   | f2 w a b=>cases g with
    | f0 v=>exact g2.elim
    | f1 v c=>exact g2.elim
    | f2 v c d=>show Kd.k2 v (vl M' (u.rt c)) (vl M' (u.rt d))=Kd.k2 w (vl M' (u.rt a)) (vl M' (u.rt b));rw[g2.1,g2.2.1.nil,g2.2.2.nil]
 ·show vl M' (u.rt i)=vl M (u.rt i)
  cases e:M (u.rt i) with
  | none=>exact absurd e (T.all i hi)
  | some k=>unfold vl;rw[kp _ k e,e]
def Iu (o:u.Ok)(h:X6 u σ)(R:Hz u M O):∀(n:Nat) q k,(σ q).sz<n->M q=some k->σ q=k.put λi=>σ ((O[i]?).getD 0)
 | 0,q,k,hn,_=>absurd hn (EB _)
 | n+1,q,k,hn,e=>by
  obtain⟨q1,q2⟩:=R.root q k e;obtain⟨fo,hf⟩:∃f,u.F[q]?=some f:=⟨_,BG q1⟩
  cases fo with
  | none=>
   obtain⟨i,rfl,hi⟩:=R.opn q k e hf;show σ q=σ ((O[i]?).getD 0);rw[hi];rfl
  | some f=>
   obtain⟨h1,h2⟩:=R.frm q k f e hf;rw[h1,h.2 q f hf];show f.ev σ=(f.ev λp=>vl M (u.rt p)).put _;rw[pA];refine Ol λp hp=>?_;have pw:u.rt p∈u.within f:=XR.mpr ⟨p,hp,FV⟩
   cases z:M (u.rt p) with
   | none=>exact absurd z (h2 _ pw)
   | some k0=>
    have ev:vl M (u.rt p)=k0:=by unfold vl;rw[z];rfl
    show σ p=(vl M (u.rt p)).put _;rw[ev,h.1 p (o.ps q f hf p hp)];have:=wW o h q f q1 q2 hf _ pw;exact Iu o h R n (u.rt p) k0 (by omega) z
def yJ (K:Kn t u rows [])(h:X6 u σ0)(T:rL u rows M O):zJ t (rows.map λi=>vl M (u.rt i)):=by
 refine⟨?_,λk' R' hR=>?_,⟨O.length,?_⟩⟩
 ·obtain⟨σ1,s1,e1⟩:=xu K.o K.c h T;obtain⟨k,hk⟩:=K.so σ1 [] s1 .nil;rw[YK,BS e1] at hk;exact⟨k,hk⟩
 ·obtain⟨σ,R2,s1,e1,e2⟩:=K.co k' R' hR
  cases e2
  rw[YK] at e1;refine⟨λi=>σ ((O[i]?).getD 0),?_⟩;rw[e1,YE];refine BS λi hi=>?_;have il:=K.rl i hi
  cases z:M (u.rt i) with
  | none=>exact absurd z (T.all i hi)
  | some k0=>
   have ev:vl M (u.rt i)=k0:=by unfold vl;rw[z];rfl
   show σ i=(vl M (u.rt i)).put _;rw[ev,s1.1 i il];exact Iu K.o s1 T.rd ((σ (u.rt i)).sz+1) (u.rt i) k0 (BK _) z
 ·rw[<-T.num,YE];rfl
end
def Od {θ1 θ2:Nat->Kd}:∀(k:Kd),(k.put θ1).put θ2=k->∀i∈k.ops,∃j,θ1 i=.op j/\θ2 j=.op i
 | .op n,h,i,hi=>by
  rw[XQ.mp hi];have h:(θ1 n).put θ2=.op n:=h
  cases e:θ1 n with
  | op j=>rw[e] at h;exact⟨j,FV,h⟩
  | k0 g=>rw[e] at h;cases h
  | k1 g a=>rw[e] at h;cases h
  | k2 g a b=>rw[e] at h;cases h
 | .k0 g,_,i,hi=>by cases hi
 | .k1 g a,h,i,hi=>by
  injection h with _ h
  exact Od a h i hi
 | .k2 g a b,h,i,hi=>by
  injection h with _ h1 h2
  rcases XS.mp hi with hi | hi
  ·exact Od a h1 i hi
  ·exact Od b h2 i hi
def Mp {θ:Nat->Kd}{f:Nat->Nat}:∀(k:Kd),(∀i∈k.ops,θ i=.op (f i))->(k.put θ).ops=k.ops.map f
 | .op n,h=>by show(θ n).ops=[f n];rw[h n (by simp[Kd.ops])];rfl
 | .k0 g,_=>rfl
 | .k1 g a,h=>Mp a h
 | .k2 g a b,h=>by
  show(a.put θ).ops++(b.put θ).ops=(a.ops++b.ops).map f;rw[Mp a λi hi=>h i (BE _ hi),Mp b λi hi=>h i (XT _ hi),XL]
def G9 {j:Nat}:∀{l acc:List Nat},j∈ext acc l↔j∈acc\/j∈l
 | [],acc=>by simp[ext]
 | i::l,acc=>by
  show j∈ext (if i∈acc then acc else acc++[i]) l↔_;rw[G9 (l:=l)];by_cases c:i∈acc
  ·rw[XY c,BD];constructor
   ·rintro(h | h)
    ·exact .inl h
    ·exact .inr (.inr h)
   ·rintro(h | h | h)
    ·exact .inl h
    ·rw[h];exact .inl c
    ·exact .inr h
  ·rw[XX c,XS,XQ,BD,or_assoc]
def Ee {f:Nat->Nat}:∀{l acc:List Nat},(∀a∈acc++l,∀b∈acc++l,f a=f b->a=b)->ext (acc.map f) (l.map f)=(ext acc l).map f
 | [],acc,_=>rfl
 | i::l,acc,h=>by
  show ext (if f i∈acc.map f then acc.map f else acc.map f++[f i]) (l.map f)=(ext (if i∈acc then acc else acc++[i]) l).map f;by_cases c:i∈acc
  ·rw[XY c,XY (XR.mpr ⟨i,c,FV⟩)];exact Ee λa ha b hb=>h a (by rcases XS.mp ha with x | x;exact BE _ x;exact XT _ (XV _ x)) b (by rcases XS.mp hb with x | x;exact BE _ x;exact XT _ (XV _ x))
  ·have n:f i∉acc.map f:=λz=>by
    obtain⟨a,ha,e⟩:=XR.mp z;exact c (h a (BE _ ha) i (XT _ (BC ..)) e▸ha)
   rw[XX c,XX n,show acc.map f++[f i]=(acc++[i]).map f by rw[XL];rfl];exact Ee λa ha b hb=>h a (by rw[YL] at ha;exact ha) b (by rw[YL] at hb;exact hb)
inductive y9 (u:Us)(ρ:Prop)(G:Ms->Prop):Ms->Nat->Prop
 | done {w}:w.P=[]->G w->y9 u ρ G w 0
 | step {w w' n}:ml u w w'->y9 u ρ G w' n->y9 u ρ G w (n+1)
 | bad {r P M O B f}:M r=none->u.F[r]?=some (some f)->r∉B->(∃q∈u.within f,q∈r::B/\M q=none)->ρ->y9 u ρ G ⟨r::P,M,O,B⟩ 1
section
variable {u:Us}{ρ:Prop}{G:Ms->Prop}{M:Nat->Option Kd}{O B rows:List Nat}{r:Nat}
def u6.pln {w w':Ms}{n:Nat}(h:u6 u w n w')(e:w'.P=[])(g:G w'):y9 u ρ G w n:=by
 induction h with
 | done=>exact .done e g
 | step a b ih=>exact .step a (ih e g)
structure Pk (u:Us)(M0:Nat->Option Kd)(r0:Nat)(w:Ms):Prop where
 rd:Hz u w.M w.O
 keep:∀q k,M0 q=some k->w.M q=some k
 here:r0∈w.P\/w.M r0≠none
 pr:∀q∈w.P,q<u.F.length/\u.rt q=q
 bl:w.B.Nodup/\∀q∈w.B,q<u.F.length
 un:∀q∈w.B,w.M q=none->∃X Y,w.P=X++q::Y/\q∉X/\∀f,u.F[q]?=some (some f)->∀p∈u.within f,w.M p≠none\/p∈X
def Lp:∀(n:Nat) (l:List Nat),l.Nodup->(∀x∈l,x<n)->l.length<=n
 | 0,l,_,h=>by
  cases l with
  | nil=>exact XE _
  | cons x l=>exact absurd (h x (BC ..)) (EB _)
 | n+1,l,nd,h=>by
  by_cases c:n∈l
  ·have:=Lp n (l.erase n) (nd.erase n) λx hx=>by
    have h1:=h x (List.mem_of_mem_erase hx);have h2:x≠n:=λe=>by subst e;exact(List.Nodup.not_mem_erase nd) hx
    omega
   rw[List.length_erase_of_mem c] at this;omega
  ·have:=Lp n l nd λx hx=>by
    have h1:=h x hx;have h2:x≠n:=λe=>by subst e;exact c hx
    omega
   omega
def Pk.pop {M0 M':Nat->Option Kd}{r0:Nat}{P O':List Nat}(K:Pk u M0 r0 ⟨r::P,M,O,B⟩)(rd:Hz u M' O')(kp:∀q k,M q=some k->M' q=some k)(hr:M' r≠none):Pk u M0 r0 ⟨P,M',O',B⟩ where
 rd:=rd
 keep:=λq k h=>kp q k (K.keep q k h)
 here:=by
  rcases K.here with h | h
  ·rcases BD.mp h with rfl | h
   ·exact .inr hr
   ·exact .inl h
  ·refine .inr λz=>h ?_;show M r0=none
   cases e:M r0 with
   | none=>rfl
   | some k=>exact nomatch ((kp _ k e).symm.trans z)
 pr:=λq h=>K.pr q (XV _ h)
 bl:=K.bl
 un:=λq hq hn=>by
  have n0:M q=none:=by
   cases e:M q with
   | none=>rfl
   | some k=>exact nomatch ((kp _ k e).symm.trans hn)
  obtain⟨X,Y,e1,e2,e3⟩:=K.un q hq n0
  cases X with
  | nil=>
   injection e1 with e1 _
   rw[e1] at hr;exact absurd hn hr
  | cons x X=>
   injection e1 with e1 e4
   subst e1;refine⟨X,Y,e4,λh=>e2 (XV _ h),λf hf p hp=>?_⟩
   rcases e3 f hf p hp with h | h
   ·refine .inl λz=>h ?_;show M p=none
    cases e:M p with
    | none=>rfl
    | some k=>exact nomatch ((kp _ k e).symm.trans z)
   ·rcases BD.mp h with rfl | h
    ·exact .inl hr
    ·exact .inr h
def Dg (o:u.Ok)(hρ:ρ){M0:Nat->Option Kd}{r0:Nat}(hG:∀w,w.P=[]->Pk u M0 r0 w->G w):∀(m:Nat) (w:Ms),Pk u M0 r0 w->3*(u.F.length-w.B.length)+w.P.length<m->∃k,y9 u ρ G w k
 | 0,w,_,h=>absurd h (EB _)
 | m+1,⟨[],M,O,B⟩,K,_=>⟨0,.done FV (hG _ FV K)⟩
 | m+1,⟨r::P,M,O,B⟩,K,hm=>by
  have hm:3*(u.F.length-B.length)+(P.length+1)<m+1:=hm;obtain⟨r1,r2⟩:=K.pr r (BC ..);have kpS:∀k0 q k,M r=none->M q=some k->set M r k0 q=some k:=λk0 q k e h=>by
   rw[Jo λz=>by rw[z,e] at h;cases h];exact h
  cases e:M r with
  | some k=>
   obtain⟨n,h⟩:=Dg o hρ hG m ⟨P,M,O,B⟩ (K.pop K.rd (λ_ _ h=>h) (by rw[e];intro z;cases z)) (by show 3*(u.F.length-B.length)+P.length<m;omega);exact⟨_,.step (.skip e) h⟩
  | none=>
   obtain⟨fo,hf⟩:∃f,u.F[r]?=some f:=⟨_,BG r1⟩
   cases fo with
   | none=>
    obtain⟨n,h⟩:=Dg o hρ hG m ⟨P,set M r (.op O.length),O++[r],B⟩ (K.pop (xX K.rd ⟨r1,r2⟩ e hf) (λq k=>kpS _ q k e) (by rw[Jm];intro z;cases z)) (by show 3*(u.F.length-B.length)+P.length<m;omega);exact⟨_,.step (.opn e hf) h⟩
   | some f=>
    by_cases hB:r∈B
    ·have hw:∀q∈u.within f,M q≠none:=λq hq=>by
      obtain⟨X,Y,e1,e2,e3⟩:=K.un r hB e
      cases X with
      | nil=>exact(e3 f hf q hq).resolve_right λz=>by cases z
      | cons x X=>
       injection e1 with e1 _
       exact absurd (e1▸BC ..) e2
     obtain⟨n,h⟩:=Dg o hρ hG m ⟨P,set M r (u.told M f),O,B⟩ (K.pop (xY K.rd ⟨r1,r2⟩ e hf hw) (λq k=>kpS _ q k e) (by rw[Jm];intro z;cases z)) (by show 3*(u.F.length-B.length)+P.length<m;omega);exact⟨_,.step (.fin e hf hB hw) h⟩
    ·by_cases bad:∃q∈u.within f,q∈r::B/\M q=none
     ·exact⟨1,.bad e hf hB bad hρ⟩
     ·have nb:∀q∈u.within f,¬(q∈r::B/\M q=none):=λq hq z=>bad ⟨q,hq,z⟩;have wl:(u.within f).length<=2:=by unfold Us.within;rw[List.length_map];cases f<;>simp[Fm.ps]
      have nd:(r::B).Nodup:=BP.mpr ⟨hB,K.bl.1⟩;have bl:∀q∈r::B,q<u.F.length:=λq hq=>by
       rcases BD.mp hq with rfl | hq
       ·exact r1
       ·exact K.bl.2 q hq
      have bn:=Lp u.F.length _ nd bl;rw[YF] at bn;have K':Pk u M0 r0 ⟨u.within f++r::P,M,O,r::B⟩:=by
       refine⟨K.rd,K.keep,?_,?_,⟨nd,bl⟩,?_⟩
       ·rcases K.here with h | h
        ·exact .inl (XT _ h)
        ·exact .inr h
       ·intro q hq
        rcases XS.mp hq with hq | hq
        ·obtain⟨p,hp,rfl⟩:=XR.mp hq;have:=o.ps r f hf p hp;exact⟨o.lt p this,o.id p this⟩
        ·exact K.pr q hq
       ·intro q hq hn;by_cases c:q=r
        ·subst c;refine⟨u.within f,P,rfl,λz=>nb q z ⟨BC ..,e⟩,λg hg p hp=>?_⟩;have hg:u.F[q]?=some (some g):=hg;rw[hf] at hg;cases hg;exact .inr hp
        ·have hq':q∈B:=(BD.mp hq).resolve_left c;obtain⟨X,Y,e1,e2,e3⟩:=K.un q hq' hn;have e1:r::P=X++q::Y:=e1;refine⟨u.within f++X,Y,by show u.within f++r::P=_;rw[e1,YL],λz=>?_,λg hg p hp=>?_⟩
         ·rcases XS.mp z with z | z
          ·exact nb q z ⟨hq,hn⟩
          ·exact e2 z
         ·exact(e3 g hg p hp).imp id λh=>XT _ h
      obtain⟨n,h⟩:=Dg o hρ hG m ⟨u.within f++r::P,M,O,r::B⟩ K' (by
       show 3*(u.F.length-(r::B).length)+(u.within f++r::P).length<m;rw[BA,YF,YF];omega)
      exact⟨_,.step (.beg e hf hB nb) h⟩
def kJ (o:u.Ok)(hρ:(¬∃σ,X6 u σ)->ρ)(hr1:r<u.F.length)(hr2:u.rt r=r)(R:Hz u M O):
  ∃k,y9 u ρ (λw=>Hz u w.M w.O/\(∀q k,M q=some k->w.M q=some k)/\w.M r≠none/\((∃σ,X6 u σ)->∃k,w.M r=some k/\ext (List.range O.length) k.ops=List.range w.O.length)) ⟨[r],M,O,[]⟩ k:=by
 by_cases c:∃σ,X6 u σ
 ·obtain⟨σ0,h⟩:=id c;obtain⟨k,M',O',B',run,g⟩:=oQ (μ:=λq=>(σ0 q).sz) o (wW o h) ((σ0 r).sz+1) r [] M O [] (BK _) hr1 hr2 R (λq h=>by cases h);exact⟨k,run.pln rfl ⟨g.rd,g.keep,(by obtain⟨kk,h1,_⟩:=g.here;show M' r≠none;rw[h1];intro z;cases z),λ_=>g.here⟩⟩
 ·exact Dg o (hρ c) (λw hP K=>⟨K.rd,K.keep,K.here.resolve_left (by rw[hP];intro z;cases z),λh=>absurd h c⟩) (3*u.F.length+2) ⟨[r],M,O,[]⟩
   ⟨R,λ_ _ h=>h,.inl (XQ.mpr FV),λq h=>by rw[XQ.mp h];exact⟨hr1,hr2⟩,⟨CA,λq h=>by cases h⟩,λq h=>by cases h⟩ (by show 3*(u.F.length-0)+1<_;omega)
def yP (o:u.Ok)(c:Vn u [])(R':Hz u M O)(al:∀x,x<u.F.length->M (u.rt x)≠none):X6 u λq=>vl M (u.rt q):=by
 refine⟨λx hx=>by show vl M (u.rt x)=vl M (u.rt (u.rt x));rw[o.id x hx],λx f hx=>?_⟩;have xl:=(BB.mp hx).1;obtain⟨g,g1,g2⟩:=c x f hx
 cases e:M (u.rt x) with
 | none=>exact absurd e (al x xl)
 | some k=>
  obtain⟨h1,_⟩:=R'.frm _ k g e g1;show vl M (u.rt x)=_;have ev:vl M (u.rt x)=k:=by unfold vl;rw[e];rfl
  rw[ev,h1];show g.ev (λp=>vl M (u.rt p))=f.ev λp=>vl M (u.rt p)
  cases f with
  | f0 w=>cases g with
   | f0 v=>have:w=v:=g2;rw[this]
   | f1 v c=>exact g2.elim
   | f2 v c d=>exact g2.elim
  | f1 w a=>cases g with
   | f0 v=>exact g2.elim
   | f1 v c=>show Kd.k1 v (vl M (u.rt c))=Kd.k1 w (vl M (u.rt a));rw[g2.1,g2.2.nil]
   | f2 v c d=>exact g2.elim
  | f2 w a b=>cases g with
   | f0 v=>exact g2.elim
   | f1 v c=>exact g2.elim
   | f2 v c d=>show Kd.k2 v (vl M (u.rt c)) (vl M (u.rt d))=Kd.k2 w (vl M (u.rt a)) (vl M (u.rt b));rw[g2.1,g2.2.1.nil,g2.2.2.nil]
def yQ (c:Vn u [])(R:Hz u M O)(hr:∀i∈rows,M (u.rt i)≠none){x:Nat}(h:Nz u rows x):M (u.rt x)≠none:=by
 induction h with
 | row h=>exact hr _ h
 | eq _ _ h3 ih=>rw[<-h3];exact ih
 | @part i p f _ h2 h3 ih=>
  obtain⟨g,g1,g2⟩:=c i f h2
  cases e:M (u.rt i) with
  | none=>exact absurd e ih
  | some k=>
   obtain⟨_,hp⟩:=R.frm _ k g e g1;have key:∀{a b},a∈g.ps->u.rt b=u.rt a->M (u.rt b)≠none:=λ{a b} ha eq=>by rw[eq];exact hp _ (XR.mpr ⟨a,ha,FV⟩)
   cases f with
   | f0 w=>cases h3
   | f1 w a=>cases g with
    | f0 v=>exact g2.elim
    | f1 v c=>rw[XQ.mp h3];exact key (XQ.mpr FV) g2.2.nil
    | f2 v c d=>exact g2.elim
   | f2 w a b=>cases g with
    | f0 v=>exact g2.elim
    | f1 v c=>exact g2.elim
    | f2 v c d=>
     simp only[Fm.ps,List.mem_cons,List.not_mem_nil,or_false] at h3
     rcases h3 with rfl | rfl
     ·exact key (by simp[Fm.ps]) g2.2.1.nil
     ·exact key (by simp[Fm.ps]) g2.2.2.nil
end
end Fn
namespace K27
open PySem PySem.Spec PyProof.Rows L2 WL Fn
def Jr:Kd->T
 | .op n=>.tup [.str "open",nT n]
 | .k0 g=>.tup [.str g]
 | .k1 g a=>.tup [.str g,Jr a]
 | .k2 g a b=>.tup [.str g,Jr a,Jr b]
def oG {f:Fm}{g:Nat->Kd}:Jr (f.ev g)=.tup (.str f.tag::f.ps.map λp=>Jr (g p)):=by cases f<;>rfl
abbrev ik (q:Nat):Z2:=.inl (q:Int)
def A0 {a b:Nat}(h:ik a=ik b):a=b:=by injection h with h;omega
def V6:∀(n:Nat) (l:List Nat),l.Nodup->(∀x∈l,x<n)->l.length<=n
 | 0,l,_,h=>by
  cases l with
  | nil=>exact XE _
  | cons x l=>exact absurd (h x (BC ..)) (EB _)
 | n+1,l,nd,h=>by
  by_cases c:n∈l
  ·have:=V6 n (l.erase n) (nd.erase n) λx hx=>by
    have h1:=h x (List.mem_of_mem_erase hx);have h2:x≠n:=λe=>by subst e;exact(List.Nodup.not_mem_erase nd) hx
    omega
   rw[List.length_erase_of_mem c] at this;omega
  ·have:=V6 n l nd λx hx=>by
    have h1:=h x hx;have h2:x≠n:=λe=>by subst e;exact c hx
    omega
   omega
structure KD (kv:List (Z2×T))(qs:List Nat)(m:Nat):Prop where
 keys:kv.map (·.1)=qs.map ik
 nd:qs.Nodup
 lt:∀q∈qs,q<m
section
variable {W:Nat->Calls}{ρ:Prop}{kv:List (Z2×T)}{qs:List Nat}{m r:Nat}{v:T}{M:Nat->Option Kd}{k:Kd}{B:List Nat}
def KD.len (h:KD kv qs m):kv.length<=m:=by
 have e:=congrArg List.length h.keys;rw[XI,XI] at e;rw[e];exact V6 m qs h.nd h.lt
def KD.mem (h:KD kv qs m):(Yr kv (ik r)).isSome=true↔r∈qs:=by
 unfold Yr;rw[CW,FO];constructor
 ·rintro⟨z,hz,e⟩;have:z.1∈qs.map ik:=by rw[<-h.keys];exact XR.mpr ⟨z,hz,FV⟩
  obtain⟨q,hq,e2⟩:=XR.mp this;have e3:z.1=ik r:=by simpa using e
  rw[<-A0 (e2.trans e3)];exact hq
 ·intro hr;have:ik r∈kv.map (·.1):=by rw[h.keys];exact XR.mpr ⟨r,hr,FV⟩
  obtain⟨z,hz,e⟩:=XR.mp this;exact⟨z,hz,by simpa using e⟩
def KD.put (h:KD kv qs m)(hn:r∉qs)(hr:r<m):KD (Jz kv (ik r) v) (qs++[r]) m:=by
 refine⟨?_,EM.mpr ⟨h.nd,BP.mpr ⟨DT,CA⟩,λa ha b hb=>by rw[XQ.mp hb];exact λe=>hn (e▸ha)⟩,λq hq=>?_⟩
 ·rw[Lj,XX,h.keys,XL]
  ·rfl
  ·intro e;obtain⟨z,hz,e⟩:=DE.mp e;exact hn (h.mem.mp (by unfold Yr;rw[CW,FO];exact⟨z,hz,e⟩))
 ·rcases XS.mp hq with hq | hq
  ·exact h.lt q hq
  ·rw[XQ.mp hq];exact hr
def DM (kv:List (Z2×T))(M:Nat->Option Kd)(m:Nat):Prop:=(∀q,Yr kv (ik q)=(M q).map Jr)/\∃qs,KD kv qs m
def DB (kv:List (Z2×T))(B:List Nat)(m:Nat):Prop:=∃qs,KD kv qs m/\∀q,q∈qs↔q∈B
def DM.put (h:DM kv M m)(hn:M r=none)(hr:r<m):DM (Jz kv (ik r) (Jr k)) (set M r k) m:=by
 obtain⟨h1,qs,h2⟩:=h;refine⟨λq=>?_,_,h2.put (λz=>?_) hr⟩
 ·rw[Kj];by_cases c:q=r
  ·subst c;rw[XY FV,Jm];rfl
  ·rw[XX λe=>c (A0 e),Jo c];exact h1 q
 ·have:=h2.mem.mpr z;rw[h1 r,hn] at this
  cases this
def DM.isS (h:DM kv M m)(q:Nat):(Yr kv (ik q)).isSome=(M q).isSome:=by rw[h.1 q,CW]
def DB.put (h:DB kv B m)(hn:r∉B)(hr:r<m):DB (Jz kv (ik r) v) (r::B) m:=by
 obtain⟨qs,h1,h2⟩:=h;refine⟨_,h1.put (λz=>hn ((h2 r).mp z)) hr,λq=>?_⟩;rw[XS,XQ,BD,h2 q];exact or_comm
def DB.isS (h:DB kv B m)(q:Nat):(Yr kv (ik q)).isSome=decide (q∈B):=by
 obtain⟨qs,h1,h2⟩:=h;rw[Bool.eq_iff_iff,h1.mem,h2 q,decide_eq_true_iff]
end
def Fy (A:Sd)(ra oa:WP)(C C':Hw):Prop:=∀b o,b≠A.f->b≠A.l->b≠ra->b≠oa->C b=some o->C' b=some o
structure Ds (A:Sd)(C0:Hw)(ra oa ba pa:Addr):Prop where
 ro:ra≠oa
 rb:ra≠ba
 rp:ra≠pa
 ob:oa≠ba
 op:oa≠pa
 bp:ba≠pa
 r:ra≠A.r/\ra≠A.f/\ra≠A.l
 o:oa≠A.r/\oa≠A.f/\oa≠A.l
 b:ba≠A.r/\ba≠A.f/\ba≠A.l
 p:pa≠A.r/\pa≠A.f/\pa≠A.l
 nb:C0 ba=none
 np:C0 pa=none
structure Hq (A:Sd)(C0:Hw)(u:Us)(ra oa ba pa:Addr)(C:Hw)(kv:List (Z2×T))(os:List T)(kb:List (Z2×T))(ps:List T):Prop where
 s:Sl A C u
 f:Fy A ra oa C0 C
 r:C ra=some (.dic kv)
 o:C oa=some (.lst os)
 b:C ba=some (.dic kb)
 p:C pa=some (.lst ps)
section
variable {W:Nat->Calls}{ρ:Prop}{A:Sd}{C0 C C':Hw}{u:Us}{ra oa ba pa:WP}{kv kb kv':List (Z2×T)}{os ps os' ps':List T}{o:O}
def Hq.new {q:WP}(H:Hq A C0 u ra oa ba pa C kv os kb ps)(h:C q=none):Hq A C0 u ra oa ba pa (up C q o) kv os kb ps:=
 have k:∀{c:WP} {w:O},C c=some w->up C q o c=some w:=λe=>by rw[Zf (J0 e h)];exact e
 ⟨H.s.new h,λc w m1 m2 m3 m4 e=>k (H.f c w m1 m2 m3 m4 e),k H.r,k H.o,k H.b,k H.p⟩
def Hq.of (H:Hq A C0 u ra oa ba pa C kv os kb ps)(D:Ds A C0 ra oa ba pa)(S:Sl A C' u)(F:Fx A C C'):Hq A C0 u ra oa ba pa C' kv os kb ps:=
 ⟨S,λc w m1 m2 m3 m4 e=>F c w m1 m2 (H.f c w m1 m2 m3 m4 e),F _ _ D.r.2.1 D.r.2.2 H.r,F _ _ D.o.2.1 D.o.2.2 H.o,F _ _ D.b.2.1 D.b.2.2 H.b,F _ _ D.p.2.1 D.p.2.2 H.p⟩
def Hq.upP (H:Hq A C0 u ra oa ba pa C kv os kb ps)(D:Ds A C0 ra oa ba pa):Hq A C0 u ra oa ba pa (up C pa (.lst ps')) kv os kb ps':=
 ⟨H.s.other D.p,λc w m1 m2 m3 m4 e=>by rw[Zf (J0 e D.np)];exact H.f c w m1 m2 m3 m4 e,by rw[Zf D.rp];exact H.r,by rw[Zf D.op];exact H.o,by rw[Zf D.bp];exact H.b,Ze⟩
def Hq.upR (H:Hq A C0 u ra oa ba pa C kv os kb ps)(D:Ds A C0 ra oa ba pa):Hq A C0 u ra oa ba pa (up C ra (.dic kv')) kv' os kb ps:=
 ⟨H.s.other D.r,λc w m1 m2 m3 m4 e=>by rw[Zf m3];exact H.f c w m1 m2 m3 m4 e,Ze,by rw[Zf D.ro.symm];exact H.o,by rw[Zf D.rb.symm];exact H.b,by rw[Zf D.rp.symm];exact H.p⟩
def Hq.upO (H:Hq A C0 u ra oa ba pa C kv os kb ps)(D:Ds A C0 ra oa ba pa):Hq A C0 u ra oa ba pa (up C oa (.lst os')) kv os' kb ps:=
 ⟨H.s.other D.o,λc w m1 m2 m3 m4 e=>by rw[Zf m4];exact H.f c w m1 m2 m3 m4 e,by rw[Zf D.ro];exact H.r,Ze,by rw[Zf D.ob.symm];exact H.b,by rw[Zf D.op.symm];exact H.p⟩
def Hq.upB (H:Hq A C0 u ra oa ba pa C kv os kb ps)(D:Ds A C0 ra oa ba pa):Hq A C0 u ra oa ba pa (up C ba (.dic kv')) kv os kv' ps:=
 ⟨H.s.other D.b,λc w m1 m2 m3 m4 e=>by rw[Zf (J0 e D.nb)];exact H.f c w m1 m2 m3 m4 e,by rw[Zf D.rb];exact H.r,by rw[Zf D.ob];exact H.o,Ze,by rw[Zf D.bp.symm];exact H.p⟩
end
structure cC (A:Sd)(C0:Hw)(u:Us)(ra oa ba pa:Addr)(C:Hw)(w:Ms):Prop where
 h:∃kv kb,Hq A C0 u ra oa ba pa C kv (w.O.map nT) kb (w.P.reverse.map nT)/\DM kv w.M u.F.length/\DB kb w.B u.F.length
 ol:w.O.Nodup/\∀q∈w.O,q<u.F.length/\w.M q≠none
 bl:w.B.Nodup/\∀q∈w.B,q<u.F.length
 pl:w.P.length<=1+2*w.B.length
 pr:∀q∈w.P,q<u.F.length/\u.rt q=q
section
variable {W:Nat->Calls}{ρ:Prop}{A:Sd}{C C':Hw}{u:Us}{Q:WK}{χ:WX}{n r k:Nat}{ra oa:WP}{kv:List (Z2×T)}{M M':Nat->Option Kd}{O O' B':List Nat}
def ua {x:T}{xs:List T}:Nw (x::xs) none (some 1)=[x]:=by
 unfold Nw HT.sIx;simp
inductive i9 (u:Us)(ρ:Prop)(G:Ms->Prop):Ms->Nat->Prop
 | skip {r P M O B k m}:M r=some k->y9 u ρ G ⟨P,M,O,B⟩ m->i9 u ρ G ⟨r::P,M,O,B⟩ (m+1)
 | opn {r P M O B m}:M r=none->u.F[r]?=some none->y9 u ρ G ⟨P,set M r (.op O.length),O++[r],B⟩ m->i9 u ρ G ⟨r::P,M,O,B⟩ (m+1)
 | beg {r P M O B f m}:M r=none->u.F[r]?=some (some f)->r∉B->((∃q∈u.within f,q∈r::B/\M q=none)->ρ)->((∀q∈u.within f,¬(q∈r::B/\M q=none))->y9 u ρ G ⟨u.within f++r::P,M,O,r::B⟩ m)->i9 u ρ G ⟨r::P,M,O,B⟩ (m+1)
 | fin {r P M O B f m}:M r=none->u.F[r]?=some (some f)->r∈B->(∀q∈u.within f,M q≠none)->y9 u ρ G ⟨P,set M r (u.told M f),O,B⟩ m->i9 u ρ G ⟨r::P,M,O,B⟩ (m+1)
def tT {u:Us}{ρ:Prop}{G:Ms->Prop}{w:Ms}{m:Nat}(h:y9 u ρ G w m)(hP:w.P≠[]):i9 u ρ G w m:=by
 cases h with
 | done e _=>exact absurd e hP
 | step s r=>
  cases s with
  | skip e=>exact .skip e r
  | opn e1 hf1=>exact .opn e1 hf1 r
  | beg e hf hB hw=>exact .beg e hf hB (λ⟨q,h1,h2⟩=>absurd h2 (hw q h1)) λ_=>r
  | fin e hf hB hw=>exact .fin e hf hB hw r
 | bad e hf hB hb hr=>exact .beg e hf hB (λ_=>hr) λh=>by obtain⟨q,h1,h2⟩:=hb;exact absurd h2 (h q h1)
def Gy (R:Rp W ρ)(S:Sl A C u)(o:u.Ok)(hn:u.F.length<=7000)(hr:r<u.F.length)(hrt:u.rt r=r)(hra:C ra=some (.dic kv))(dm:DM kv M u.F.length)(hoa:C oa=some (.lst (O.map nT)))(oa1:oa≠A.f)(oa2:oa≠A.l)
  (ol:O.Nodup/\∀q∈O,q<u.F.length/\M q≠none) {G:Ms->Prop} (run:y9 u ρ G ⟨[r],M,O,[]⟩ k)
  (q:∀C' kv' M' O' B',Sl A C' u->Fy A ra oa C C'->C' ra=some (.dic kv')->DM kv' M' u.F.length->C' oa=some (.lst (O'.map nT))->(O'.Nodup/\∀q∈O',q<u.F.length/\M' q≠none)->G ⟨[],M',O',B'⟩->Q .non C'):W (n+3) Fq [.ref A.r,nT r,.ref ra,.ref oa] C Q χ:=by
 refine R.o_make_ready FV ?_;unfold Vt V1;intro ba hba;refine⟨_,FV,Yy (by show 1<=_;omega),λpa hpa=>?_⟩;have raf:ra≠A.r/\ra≠A.f/\ra≠A.l:=by
  obtain⟨_,_,h⟩:=id S;exact⟨λe=>(by rw[e,h.r] at hra;cases hra),λe=>(by rw[e,h.f] at hra;cases hra),λe=>(by rw[e,h.l] at hra;cases hra)⟩
 have oaf:oa≠A.r:=by
  obtain⟨_,_,h⟩:=id S;exact λe=>(by rw[e,h.r] at hoa;cases hoa)
 have nbp:ba≠pa:=λe=>by rw[<-e,Ze] at hpa;cases hpa
 have hpa0:C pa=none:=by rw[Zf nbp.symm] at hpa;exact hpa
 have D:Ds A C ra oa ba pa:=⟨λe=>(by rw[e,hoa] at hra;cases hra),J0 hra hba,J0 hra hpa0,J0 hoa hba,J0 hoa hpa0,nbp,raf,⟨oaf,oa1,oa2⟩,S.off hba,S.off hpa0,hba,hpa0⟩;have H0:Hq A C u ra oa ba pa (up (up C ba (.dic [])) pa (.lst [nT r])) kv (O.map nT) [] [nT r]:=by
  refine⟨(S.new hba).new hpa,λc w m1 m2 m3 m4 e=>by rw[Zf (J0 e hpa0),Zf (J0 e hba)];exact e,by rw[Zf D.rp,Zf D.rb];exact hra,by rw[Zf D.op,Zf D.ob];exact hoa,by rw[Zf nbp];exact Ze,Ze⟩
 generalize up (up C ba (.dic [])) pa (.lst [nT r])=C1 at H0;refine Qa (λm τ C'=>∃v6 v7 v8 w,τ=[some (.ref A.r),some (nT r),some (.ref ra),some (.ref oa),some (.ref ba),some (.ref pa),v6,v7,v8]/\cC A C u ra oa ba pa C' w/\y9 u ρ G w m) (m:=k)
  ⟨none,none,none,⟨[r],M,O,[]⟩,FV,⟨⟨kv,[],H0,dm,[],⟨FV,CA,λq h=>(by cases h)⟩,λq=>Iff.rfl⟩,ol,⟨CA,λq h=>(by cases h)⟩,XE _,λq h=>by rw[XQ.mp h];exact⟨hr,hrt⟩⟩,run⟩ ?_
 rintro m τ C2 N ⟨v6,v7,v8,w,rfl,⟨⟨kv2,kb2,H2,dm2,db2⟩,ol2,bl2,pl2,pr2⟩,run2⟩ hN;refine⟨_,FV,Yy (by show 0<=_;omega),λp' hp'=>?_⟩;have H3:=H2.new (o:=.lst []) hp';refine G7 H3.p Ze ⟨_,FV,?_⟩;generalize up C2 p' (.lst [])=C3 at H3;have olen:w.O.length<=u.F.length:=V6 _ _ ol2.1 λx hx=>(ol2.2 x hx).1;have blen:w.B.length<=u.F.length:=V6 _ _ bl2.1 bl2.2;by_cases hP0:w.P=[]
 ·obtain⟨Pw,Mw,Ow,Bw⟩:=w;have hP0:Pw=[]:=hP0;subst hP0;refine Zk ?_
  cases run2 with
  | done _ hG=>exact q C3 kv2 Mw Ow Bw H3.s H3.f H3.r dm2 H3.o ol2 hG
  | step s _=>cases s
 ·have nx:=tT run2 hP0;obtain⟨r0,P,eP⟩:∃r0 P,w.P=r0::P:=by cases e:w.P with
   | nil=>exact absurd e hP0
   | cons a b=>exact⟨a,b,FV⟩
  obtain⟨Pw,Mw,Ow,Bw⟩:=w
  cases eP
  dsimp only at H3 dm2 db2 ol2 bl2 pl2 pr2 olen blen;obtain⟨r1,r2⟩:=pr2 r0 (BC ..);have pr3:∀q∈P,q<u.F.length/\u.rt q=q:=λq h=>pr2 q (XV _ h);have eP:(r0::P).reverse.map nT=P.reverse.map nT++[nT r0]:=by simp
  rw[eP] at H3;refine Nt (by show(!((r0::P).reverse.map nT).isEmpty)=true;rw[eP];simp) ?_;have last:(P.reverse.map nT++[nT r0])[(P.reverse.map nT++[nT r0]).length-1]?=some (nT r0):=by simp
  refine⟨_,FV,⟨_,_,FV,H3.p⟩,_,_,_,FV,FV,H3.p,last,?_⟩;rw[List.dropLast_concat];have H4:=H3.upP (ps':=P.reverse.map nT) D;generalize up C3 pa (.lst (P.reverse.map nT))=C4 at H4;have pl3:P.length+1<=1+2*Bw.length:=pl2;refine⟨_,FV,_,FV,_,_,_,FV,FV,.inl H4.r,⟨_,FV,?_⟩⟩
  cases nx with
  | skip e Yp=>
   refine Nt (by rw[XX (by decide),dm2.isS,e];rfl) ?_;exact hN _ _ _ (BK _) ⟨_,_,_,⟨P,Mw,Ow,Bw⟩,FV,⟨⟨kv2,kb2,H4,dm2,db2⟩,ol2,bl2,by show P.length<=1+2*Bw.length;omega,pr3⟩,Yp⟩
  | opn e hf Yp=>
   refine Qw (by rw[XX (by decide),dm2.isS,e];rfl) ?_;obtain⟨_,_,S4⟩:=id H4.s;refine⟨_,FV,_,_,_,_,FV,S4.r,FV,FV,_,FV,?_⟩;dsimp only[Zw];refine O7 R (n:=n) (f:=none) H4.s o r1 (by rw[r2];exact hf) λC5 S5 F5=>?_;have H5:=H4.of D S5 F5;refine⟨_,FV,FV,true,FV,Yi ?_⟩;refine⟨_,FV,_,FV,_,H5.o,Yy (by show 2<=_;omega),_,rfl,_,rfl,_,_,_,rfl,rfl,H5.r,Yz (by obtain⟨_,_,kd⟩:=dm2;have:=kd.len;omega),?_⟩;rw[XI];have H6:=H5.upR (kv':=Jz kv2 (ik r0) (Jr (.op Ow.length))) D;refine⟨_,FV,⟨_,_,FV,H6.o⟩,_,FV,_,_,_,FV,FV,H6.o,Yz (by rw[XI];omega),?_⟩;have H7:=H6.upO (os':=Ow.map nT++[nT r0]) D;have eo:Ow.map nT++[nT r0]=(Ow++[r0]).map nT:=by rw[XL];rfl
   have n0:r0∉Ow:=λh=>(ol2.2 r0 h).2 e;refine hN _ _ _ (BK _) ⟨_,_,_,⟨P,set Mw r0 (.op Ow.length),Ow++[r0],Bw⟩,FV,⟨⟨_,kb2,by rw[eo] at H7 |-;exact H7,dm2.put e r1,db2⟩,⟨?_,λx hx=>?_⟩,bl2,by show P.length<=1+2*Bw.length;omega,pr3⟩,Yp⟩
   ·exact EM.mpr ⟨ol2.1,BP.mpr ⟨DT,CA⟩,λa ha b hb=>by rw[XQ.mp hb];exact λz=>n0 (z▸ha)⟩
   ·rcases XS.mp hx with hx | hx
    ·have:=ol2.2 x hx;exact⟨this.1,by show set Mw r0 _ x≠none;rw[Jo λz=>n0 (by rw[<-z];exact hx)];exact this.2⟩
    ·rw[XQ.mp hx];exact⟨r1,by show set Mw r0 _ r0≠none;rw[Jm];intro z;cases z⟩
  | @beg _ _ _ _ _ f m' e hf hB hbad Yp=>
   refine Qw (by rw[XX (by decide),dm2.isS,e];rfl) ?_;obtain⟨_,_,S4⟩:=id H4.s;refine⟨_,FV,_,_,_,_,FV,S4.r,FV,FV,_,FV,?_⟩;dsimp only[Zw];refine O7 R (n:=n) (f:=some f) H4.s o r1 (by rw[r2];exact hf) λC5 S5 F5=>?_;have H5:=H4.of D S5 F5;rw[Ea];refine⟨_,FV,FV,false,FV,Zk ?_⟩;refine⟨_,FV,_,FV,Lc,?_⟩;rw[Th];have hps:∀p∈f.ps,p<u.F.length:=o.ps r0 f hf;refine Ts (λi acc C'=>Hq A C u ra oa ba pa C' kv2 (Ow.map nT) kb2 (P.reverse.map nT)/\acc=((f.ps.take i).map u.rt).map nT) ⟨H5,FV⟩ (λ_ _ _ _ _=>trivial) ?_ ?_
   ·rintro i x acc C6 N6 hx ⟨H6,rfl⟩ hN6;rw[XM] at hx;obtain⟨p,hp,rfl⟩:∃p,f.ps[i]?=some p/\nT p=x:=by
     cases z:f.ps[i]? with
     | none=>rw[z] at hx;cases hx
     | some p=>rw[z] at hx;exact⟨p,FV,YH hx⟩
    obtain⟨_,_,S6⟩:=id H6.s;have hi:i<f.ps.length:=(BB.mp hp).1;have fl:f.ps.length<=2:=by cases f<;>simp[Fm.ps]
    refine Yi (q:=N6 (((f.ps.take i).map u.rt).map nT) C6) ⟨_,FV,_,_,_,_,FV,S6.r,FV,FV,_,FV,?_⟩;dsimp only[Zw];refine Uh R (n:=n+1) H6.s (hps p (BH hp)) λC7 S7 F7=>⟨Yz (by rw[XI,XI,YM];omega),hN6 _ _ ⟨H6.of D S7 F7,?_⟩⟩;rw[YD,hp,XL,XL];rfl
   rintro acc C6 ⟨H6,rfl⟩ wa hwa;rw[XI,CC];have H7:=H6.new (o:=.lst ((u.within f).map nT)) hwa;have W7:up C6 wa (.lst ((u.within f).map nT)) wa=some (.lst ((u.within f).map nT)):=Ze;have wd:wa≠ra/\wa≠oa/\wa≠ba/\wa≠pa:=⟨(J0 H6.r hwa).symm,(J0 H6.o hwa).symm,(J0 H6.b hwa).symm,(J0 H6.p hwa).symm⟩;show _;generalize hC7:up C6 wa (.lst (((f.ps).map u.rt).map nT))=C7;rw[show up C6 wa (.lst ((u.within f).map nT))=C7 from hC7] at H7 W7;refine⟨_,FV,_,FV,_,_,_,FV,FV,.inl H7.b,⟨_,FV,Qw (by rw[if_neg (by decide),db2.isS];simpa using hB) ?_⟩⟩;refine⟨_,rfl,_,rfl,_,_,_,rfl,rfl,H7.b,Yz (by obtain⟨_,kd,_⟩:=db2;have:=kd.len;omega),?_⟩;have db3:=db2.put (v:=.bl true) hB r1;have H8:=H7.upB (kv':=Jz kb2 (ik r0) (.bl true)) D;have W8:up C7 ba (.dic (Jz kb2 (ik r0) (.bl true))) wa=some (.lst ((u.within f).map nT)):=by rw[Zf wd.2.2.1];exact W7
   generalize up C7 ba (.dic (Jz kb2 (ik r0) (.bl true)))=C8 at H8 W8;have wl:(u.within f).length<=2:=by unfold Us.within;rw[List.length_map];cases f<;>simp[Fm.ps]
   refine⟨_,FV,_,W8,?_⟩;obtain⟨fb,hfb⟩:∃fb:T->T,∀q:Nat,fb (nT q)=.bl (decide (q∈r0::Bw/\Mw q=none)):=⟨λt=>match t with | .int i=>.bl (decide (i.toNat∈r0::Bw/\Mw i.toNat=none)) | _=>.non,λq=>rfl⟩;refine Xh fb W8 (by rw[XI];exact Yy (by omega)) (λx hx R hR=>?_) λp9 hp9=>?_
   ·obtain⟨q0,hq0,rfl⟩:=XR.mp hx;rw[hfb q0] at hR;refine⟨_,FV,_,FV,_,_,_,FV,FV,.inl H8.b,⟨_,FV,?_⟩⟩;by_cases c:q0∈r0::Bw
    ·refine Nt (by rw[if_neg (by decide),db3.isS];simpa using c) ?_;refine⟨_,FV,_,FV,_,_,_,FV,FV,.inl H8.r,?_⟩;rw[XY FV,dm2.isS]
     cases z:Mw q0 with
     | none=>rw[decide_eq_true ⟨c,z⟩] at hR;exact hR
     | some k0=>rw[YG (λy=>by have:=y.2;rw[z] at this;cases this)] at hR;exact hR
    ·rw[YG (λy=>c y.1)] at hR;exact Qw (by rw[if_neg (by decide),db3.isS];simpa using c) hR
   have nf:((u.within f).map nT).map fb=((u.within f).map λq=>decide (q∈r0::Bw/\Mw q=none)).map T.bl:=by
    rw[YE,YE];exact BS λq _=>hfb q
   have H9:=H8.new (o:=.lst (((u.within f).map nT).map fb)) hp9;have W9:up C8 p9 (.lst (((u.within f).map nT).map fb)) wa=some (.lst ((u.within f).map nT)):=by rw[Zf (J0 W8 hp9)];exact W8
   refine⟨_,_,FV,by rw[Ze,nf],⟨_,FV,?_⟩⟩;by_cases hb:∃q∈u.within f,q∈r0::Bw/\Mw q=none
   ·refine Nt (by obtain⟨q,h1,h2⟩:=hb;exact DE.mpr ⟨true,XR.mpr ⟨q,h1,decide_eq_true h2⟩,FV⟩) ?_;exact⟨ZNB FV,R.o_raise_NoKind (hbad hb)⟩
   have hw:∀q∈u.within f,¬(q∈r0::Bw/\Mw q=none):=λq h1 h2=>hb ⟨q,h1,h2⟩;have Yp:=Yp hw;refine Qw (List.any_eq_false.mpr λx hx=>by
    obtain⟨q,h1,rfl⟩:=XR.mp hx;rw[YG (hw q h1)];decide) ?_
   generalize up C8 p9 (.lst (((u.within f).map nT).map fb))=C9 at H9 W9;have lP:P.length<=20000:=by omega
   refine⟨_,FV,⟨_,_,FV,H9.p⟩,_,FV,_,_,_,FV,FV,H9.p,Yz (by rw[XI,CP];omega),?_⟩;have H10:=H9.upP (ps':=P.reverse.map nT++[nT r0]) D;have W10:up C9 pa (.lst (P.reverse.map nT++[nT r0])) wa=some (.lst ((u.within f).map nT)):=by rw[Zf wd.2.2.2];exact W9
   generalize up C9 pa (.lst (P.reverse.map nT++[nT r0]))=C10 at H10 W10;refine⟨_,FV,⟨_,_,FV,H10.p⟩,_,FV,_,_,FV,W10,λp11 hp11=>?_⟩;have H11:=H10.new (o:=.lst ((u.within f).map nT).reverse) hp11;refine⟨_,_,_,_,FV,FV,H11.p,Ze,by rw[CP,XI,BA,XI,CP];exact Yy (by show P.length+1+_<=_;omega),?_⟩;have H12:=H11.upP (ps':=P.reverse.map nT++[nT r0]++((u.within f).map nT).reverse) D;have ep:P.reverse.map nT++[nT r0]++((u.within f).map nT).reverse=(u.within f++r0::P).reverse.map nT:=by simp
   rw[ep] at H12 |-;refine hN m' _ _ (BK _) ⟨_,_,_,⟨u.within f++r0::P,Mw,Ow,r0::Bw⟩,rfl,⟨⟨kv2,_,H12,dm2,db3⟩,ol2,⟨BP.mpr ⟨hB,bl2.1⟩,λx hx=>?_⟩,?_,λx hx=>?_⟩,Yp⟩
   ·rcases BD.mp hx with rfl | hx
    ·exact r1
    ·exact bl2.2 x hx
   ·show(u.within f++r0::P).length<=1+2*(r0::Bw).length;rw[BA,YF,YF];omega
   ·rcases XS.mp hx with hx | hx
    ·obtain⟨p,hp,rfl⟩:=XR.mp hx;exact⟨o.lt p (hps p hp),o.id p (hps p hp)⟩
    ·rcases BD.mp hx with rfl | hx
     ·exact⟨r1,r2⟩
     ·exact pr3 x hx
  | @fin _ _ _ _ _ f m' e hf hB hw Yp=>
   refine Qw (by rw[XX (by decide),dm2.isS,e];rfl) ?_;obtain⟨_,_,S4⟩:=id H4.s;refine⟨_,FV,_,_,_,_,FV,S4.r,FV,FV,_,FV,?_⟩;dsimp only[Zw];refine O7 R (n:=n) (f:=some f) H4.s o r1 (by rw[r2];exact hf) λC5 S5 F5=>?_;have H5:=H4.of D S5 F5;rw[Ea];refine⟨_,FV,FV,false,FV,Zk ?_⟩;refine⟨_,FV,_,FV,Lc,?_⟩;rw[Th];have hps:∀p∈f.ps,p<u.F.length:=o.ps r0 f hf;refine Ts (λi acc C'=>Hq A C u ra oa ba pa C' kv2 (Ow.map nT) kb2 (P.reverse.map nT)/\acc=((f.ps.take i).map u.rt).map nT) ⟨H5,FV⟩ (λ_ _ _ _ _=>trivial) ?_ ?_
   ·rintro i x acc C6 N6 hx ⟨H6,rfl⟩ hN6;rw[XM] at hx;obtain⟨p,hp,rfl⟩:∃p,f.ps[i]?=some p/\nT p=x:=by
     cases z:f.ps[i]? with
     | none=>rw[z] at hx;cases hx
     | some p=>rw[z] at hx;exact⟨p,FV,YH hx⟩
    obtain⟨_,_,S6⟩:=id H6.s;have hi:i<f.ps.length:=(BB.mp hp).1;have fl:f.ps.length<=2:=by cases f<;>simp[Fm.ps]
    refine Yi (q:=N6 (((f.ps.take i).map u.rt).map nT) C6) ⟨_,FV,_,_,_,_,FV,S6.r,FV,FV,_,FV,?_⟩;dsimp only[Zw];refine Uh R (n:=n+1) H6.s (hps p (BH hp)) λC7 S7 F7=>⟨Yz (by rw[XI,XI,YM];omega),hN6 _ _ ⟨H6.of D S7 F7,?_⟩⟩;rw[YD,hp,XL,XL];rfl
   rintro acc C6 ⟨H6,rfl⟩ wa hwa;rw[XI,CC];have H7:=H6.new (o:=.lst ((u.within f).map nT)) hwa;have W7:up C6 wa (.lst ((u.within f).map nT)) wa=some (.lst ((u.within f).map nT)):=Ze;have wd:wa≠ra/\wa≠oa/\wa≠ba/\wa≠pa:=⟨(J0 H6.r hwa).symm,(J0 H6.o hwa).symm,(J0 H6.b hwa).symm,(J0 H6.p hwa).symm⟩;show _;generalize hC7:up C6 wa (.lst (((f.ps).map u.rt).map nT))=C7;rw[show up C6 wa (.lst ((u.within f).map nT))=C7 from hC7] at H7 W7;refine⟨_,FV,_,FV,_,_,_,FV,FV,.inl H7.b,⟨_,FV,Nt (by rw[if_neg (by decide),db2.isS];simpa using hB) ?_⟩⟩;refine⟨_,FV,_,FV,?_⟩;refine⟨_,FV,_,W7,?_⟩;have wl:(u.within f).length<=2:=by unfold Us.within;rw[List.length_map];cases f<;>simp[Fm.ps]
   refine Xh (λt=>match t with | .int i=>Jr (vl Mw i.toNat) | _=>.non) W7 (by rw[XI];exact Yy (by omega)) (λx hx R hR=>?_) λp8 hp8=>?_
   ·obtain⟨q0,hq0,rfl⟩:=XR.mp hx;have hR:R (Jr (vl Mw q0)) C7:=by simpa using hR
    cases z:Mw q0 with
    | none=>exact absurd z (hw q0 hq0)
    | some k0=>
     have ev:vl Mw q0=k0:=by unfold vl;rw[z];rfl
     rw[ev] at hR;exact⟨_,FV,_,FV,_,_,_,_,FV,FV,.inl H7.r,by rw[dm2.1 q0,z];rfl,hR⟩
   refine⟨_,FV,_,Ze,?_⟩;have H8:=H7.new (o:=.lst (((u.within f).map nT).map λt=>match t with | .int i=>Jr (vl Mw i.toNat) | _=>.non)) hp8;refine⟨by rw[ua,XI,XI];exact Yy (by show 1+_<=_;omega),?_⟩;refine⟨_,rfl,_,rfl,_,_,_,rfl,rfl,H8.r,Yz (by obtain⟨_,_,kd⟩:=dm2;have:=kd.len;omega),?_⟩;have val:T.tup (Nw (T.str f.tag::f.ps.map nT) none (some 1)++((u.within f).map nT).map λt=>match t with | .int i=>Jr (vl Mw i.toNat) | _=>.non)=Jr (u.told Mw f):=by
    rw[ua];unfold Us.told Us.within;rw[oG,YE,YE];show T.tup (T.str f.tag::_)=_;congr 2
   rw[val];have H9:=H8.upR (kv':=Jz kv2 (ik r0) (Jr (u.told Mw f))) D;refine hN m' _ _ (BK _) ⟨_,_,_,⟨P,set Mw r0 (u.told Mw f),Ow,Bw⟩,FV,⟨⟨_,kb2,H9,dm2.put e r1,db2⟩,⟨ol2.1,λx hx=>?_⟩,bl2,by show P.length<=1+2*Bw.length;omega,pr3⟩,Yp⟩;have:=ol2.2 x hx;exact⟨this.1,by show set Mw r0 _ x≠none;rw[Jo λz=>this.2 (by rw[z];exact e)];exact this.2⟩
end
structure cx (u:Us)(rows:List Nat)(M:Nat->Option Kd)(O:List Nat):Prop where
 rd:Hz u M O
 all:∀i∈rows,M (u.rt i)≠none
 num:(∃σ,X6 u σ)->ext [] (rows.map λi=>(vl M (u.rt i)).ops).flatten=List.range O.length
section
variable {W:Nat->Calls}{ρ:Prop}{A:Sd}{C C':Hw}{u:Us}{Q:WK}{χ:WX}{n:Nat}{rows:List Nat}{σ0:Nat->Kd}{pr_:WP}
def Gv (R:Rp W ρ)(S:Sl A C u)(o:u.Ok)(hn:u.F.length<=7000)(cl:Vn u [])(hw:(¬∃σ,X6 u σ)->ρ)(hre:∀x,x<u.F.length->Nz u rows x)(hrow:C pr_=some (.lst (rows.map nT)))(pf:pr_≠A.f)(pl:pr_≠A.l)(hlt:∀i∈rows,i<u.F.length)(hlen:rows.length<=7000)
  (q:∀C' p M O,Sl A C' u->Fx A C C'->C p=none->C' p=some (.lst (rows.map λi=>Jr (vl M (u.rt i))))->rL u rows M O->(∃σ,X6 u σ)->O.length<=u.F.length->Q (.ref p) C'):W (n+4) Og [.ref A.r,.ref pr_] C Q χ:=by
 refine R.o_told_kinds FV ?_;unfold Vr Vz;intro ra hra;have S0:=S.new (o:=.dic []) hra;refine⟨Yy (by show 0<=_;omega),λoa hoa=>?_⟩;have nro:ra≠oa:=λe=>by rw[<-e,Ze] at hoa;cases hoa
 have hoa0:C oa=none:=by rw[Zf nro.symm] at hoa;exact hoa
 have S1:=S0.new (o:=.lst []) hoa;have K1:∀{c:WP} {w:O},C c=some w->up (up C ra (.dic [])) oa (.lst []) c=some w:=λe=>by rw[Zf (J0 e hoa0),Zf (J0 e hra)];exact e
 have R1:up (up C ra (.dic [])) oa (.lst []) ra=some (.dic []):=by rw[Zf nro];exact Ze
 have O1:up (up C ra (.dic [])) oa (.lst []) oa=some (.lst []):=Ze;generalize up (up C ra (.dic [])) oa (.lst [])=C1 at S1 K1 R1 O1;have oaf:=S.off hoa0;have raf:=S.off hra;have pro:pr_≠ra/\pr_≠oa:=⟨J0 hrow hra,J0 hrow hoa0⟩;refine⟨_,FV,_,K1 hrow,?_⟩;refine Sa (λi τ C'=>∃v4 M O kv,τ=[some (.ref A.r),some (.ref pr_),some (.ref ra),some (.ref oa),v4]/\Sl A C' u/\(∀c w,c≠A.f->c≠A.l->C c=some w->C' c=some w)/\C' ra=some (.dic kv)/\DM kv M u.F.length/\C' oa=some (.lst (O.map nT))/\(O.Nodup/\∀q∈O,q<u.F.length/\M q≠none)/\
  cx u (rows.take i) M O) ⟨_,(λ_=>none),[],[],FV,S1,λc w _ _ e=>K1 e,R1,⟨λq=>rfl,[],FV,CA,λq h=>(by cases h)⟩,O1,⟨CA,λq h=>(by cases h)⟩,xZ,λi h=>(by cases h),λ_=>rfl⟩ (λi τ C' _ h=>by obtain⟨_,_,_,_,_,_,h,_⟩:=h;exact h _ _ pf pl hrow) ?_ ?_
 ·rintro i x τ C2 N hx ⟨v4,M,O,kv,rfl,S2,K2,R2,dm2,O2,ol2,T2⟩ hN;rw[XM] at hx;obtain⟨s,hs,rfl⟩:∃s,rows[i]?=some s/\nT s=x:=by
   cases z:rows[i]? with
   | none=>rw[z] at hx;cases hx
   | some p=>rw[z] at hx;exact⟨p,FV,YH hx⟩
  have sl:=hlt s (BH hs);obtain⟨_,_,S20⟩:=id S2;refine⟨_,FV,_,FV,_,_,_,_,FV,S20.r,FV,FV,_,FV,?_⟩;dsimp only[Zw];refine Uh R (n:=n+2) S2 sl λC3 S3 F3=>?_;refine⟨_,FV,_,FV,?_⟩;dsimp only[Zw];have R3:=F3 _ _ raf.2.1 raf.2.2 R2;have O3:=F3 _ _ oaf.2.1 oaf.2.2 O2;obtain⟨k,run⟩:=kJ o hw (o.lt s sl) (o.id s sl) T2.rd;refine Gy R (n:=n) S3 o hn (o.lt s sl) (o.id s sl) R3 dm2 O3 oaf.2.1 oaf.2.2 ol2 run λC4 kv4 M' O' B' S4 F4 R4 dm4 O4 ol4 gone=>?_;obtain⟨grd,gkeep,ghere,gnum⟩:=gone;have gkeep:∀q k,M q=some k->M' q=some k:=gkeep;have ghere:M' (u.rt s)≠none:=ghere;refine hN _ _ ⟨_,M',O',kv4,FV,S4,λc w m1 m2 e=>?_,R4,dm4,O4,ol4,grd,λj hj=>?_,λhS=>?_⟩
  ·exact F4 c w m1 m2 (J0 e hra) (J0 e hoa0) (F3 c w m1 m2 (K2 c w m1 m2 e))
  ·rw[YD,hs] at hj
   rcases XS.mp hj with hj | hj
   ·cases z:M (u.rt j) with
    | none=>exact absurd z (T2.all j hj)
    | some k0=>rw[gkeep _ k0 z];intro y;cases y
   ·rw[XQ.mp hj];exact ghere
  ·obtain⟨kk,g1,g2⟩:=gnum hS;have g1:M' (u.rt s)=some kk:=g1;rw[YD,hs];show ext [] ((rows.take i++[s]).map _).flatten=_;rw[XL,List.flatten_append,Sb];have e1:(rows.take i).map (λi=>(vl M' (u.rt i)).ops)=(rows.take i).map λi=>(vl M (u.rt i)).ops:=BS λj hj=>by
    cases z:M (u.rt j) with
    | none=>exact absurd z (T2.all j hj)
    | some k0=>unfold vl;rw[gkeep _ k0 z,z]
   rw[e1,T2.num hS];have e2:vl M' (u.rt s)=kk:=by unfold vl;rw[g1];rfl
   show ext _ ([(vl M' (u.rt s)).ops].flatten)=_;rw[e2,FN,List.flatten_nil,YK];exact g2
 ·rintro τ C2 ⟨v4,M,O,kv,rfl,S2,K2,R2,dm2,O2,ol2,T2⟩;rw[XI,CC] at T2;have hS:∃σ,X6 u σ:=⟨_,yP o cl T2.rd λx hx=>yQ cl T2.rd T2.all (hre x hx)⟩;have T2:rL u rows M O:=⟨T2.rd,T2.all,T2.num hS⟩;have row2:=K2 _ _ pf pl hrow;refine⟨_,FV,_,row2,?_⟩;refine Ts (λi acc C'=>Sl A C' u/\Fx A C2 C'/\acc=(rows.take i).map λi=>Jr (vl M (u.rt i))) ⟨S2,Fx.refl _ _,FV⟩ (λi acc C' _ h=>h.2.1 _ _ pf pl row2) ?_ ?_
  ·rintro i x acc C3 N hx ⟨S3,F3,rfl⟩ hN;rw[XM] at hx;obtain⟨s,hs,rfl⟩:∃s,rows[i]?=some s/\nT s=x:=by
    cases z:rows[i]? with
    | none=>rw[z] at hx;cases hx
    | some p=>rw[z] at hx;exact⟨p,FV,YH hx⟩
   have sm:=BH hs;have sl:=hlt s sm;obtain⟨_,_,S30⟩:=id S3;refine Yi (q:=N ((rows.take i).map λi=>Jr (vl M (u.rt i))) C3) ⟨_,FV,_,FV,_,_,_,_,FV,S30.r,FV,FV,_,FV,?_⟩;dsimp only[Zw];refine Uh R (n:=n+2) S3 sl λC4 S4 F4=>?_;have hi:i<rows.length:=(BB.mp hs).1
   cases z:M (u.rt s) with
   | none=>exact absurd z (T2.all s sm)
   | some k0=>
    have ev:vl M (u.rt s)=k0:=by unfold vl;rw[z];rfl
    refine⟨_,_,_,_,FV,FV,.inl (F4 _ _ raf.2.1 raf.2.2 (F3 _ _ raf.2.1 raf.2.2 R2)),by rw[show Yr kv (Sum.inl ((u.rt s:Nat):Int))=_ from dm2.1 (u.rt s),z];rfl,⟨Yz (by rw[XI,YM];omega),hN _ _ ⟨S4,F3.trans F4,?_⟩⟩⟩;rw[YD,hs,XL];show _=_++[Jr (vl M (u.rt s))];rw[ev]
  ·rintro acc C3 ⟨S3,F3,rfl⟩ p hp;rw[XI,CC];have FC:Fx A C C3:=λc w m1 m2 e=>F3 c w m1 m2 (K2 c w m1 m2 e);exact q _ p M O (S3.new hp) (Ul S3 FC hp) (T9 S3 FC hp) Ze T2 hS (V6 _ _ ol2.1 λx hx=>(ol2.2 x hx).1)
end
end K27
namespace Fn
open PySem WL
def cT (θ:Nat->Kd)(c:Ev×Tr×Kd):Ev×Tr×Kd:=(λx=>(c.1 x).map (Kd.put θ),c.2.1,c.2.2.put θ)
def dQ (R:List Kd):List Nat:=ext [] (R.map Kd.ops).flatten
def dS (R:List Kd):List Kd:=R.map (Kd.put λi=>.op ((dQ R).idxOf i))
def V5 {θ η:Nat->Kd}:∀k:Kd,(∀i∈k.ops,θ i=η i)->k.put θ=k.put η
 | .op n,h=>h n (by simp[Kd.ops])
 | .k0 _,_=>rfl
 | .k1 g a,h=>by show Kd.k1 g _=Kd.k1 g _;rw[V5 a h]
 | .k2 g a b,h=>by show Kd.k2 g _ _=Kd.k2 g _ _;rw[V5 a λi hi=>h i (BE _ hi),V5 b λi hi=>h i (XT _ hi)]
def Cd:Nat->List Str->Tr->Prop
 | 0,_,_=>False
 | m+1,bs,t=>(∀x,t=.nm x->x∈bs)/\∀z∈t.scs,Cd m (bs++z.1) z.2
end Fn
namespace K27
open PySem PySem.Spec PyProof.Rows L2 WL Fn
def Ce.cd:∀{m:Nat} {bs:List Str} {t:Tr},Ce m bs t->Cd m bs t
 | 0,_,_,h=>h.elim
 | m+1,bs,t,h=>⟨h.1,λz hz=>Ce.cd (h.2.2 z hz)⟩
section
variable {W:Nat->Calls}{ρ:Prop}{C C':Hw}{Q:WK}{χ:WX}{d:WP}{t:Tr}
def Du (R:Rp W ρ):∀(m n:Nat) (bs:List Str) (t:Tr) (C:Hw) {Q:WK} {χ:WX},Cd m bs t->t.lok->bs.length+10*m<=10000->C d=some (.dic [])->(∀C',Ex C C'->Q .non C')->W (n+m+2) Ic [tt t,.tup (bs.map T.str),.ref d] C Q χ
 | 0,_,_,_,_,_,_,h,_,_,_,_=>h.elim
 | m+1,n,bs,t,C,Q,χ,hc,hl,hb,hd,q=>by
  refine R.o_gather_free (n:=n+m+2) FV ?_;unfold Wv W1;obtain⟨l1,l2⟩:=Fb hl;obtain⟨e,sc⟩:=qc t l1;have loop:∀D:We,D.nx=(λ_ C'=>Q .non C')->D.xc=χ->xU (sJ (X5 (W (n+m+2)) 0 (Zt (Yg 0) Zw))) (kK (Rt (Ig 3) (Rt (Ig 4) Hh))) (Iy (X5 (W (n+m+2)) 4 (Zt (Yg 4) (Zt (Xm E8 (Yg 1) (Yg 3)) (Zt (Yg 2) Zw))))) D
    [some (tt t),some (.tup (bs.map T.str)),some (.ref d),none,none] C:=by
   intro D hnx hxc;refine⟨_,FV,?_⟩;dsimp only[Zw];refine Dq R (n:=n+m) sc λk C1 x1 hk0 hk1=>⟨_,hk1,?_⟩;refine Sa (λi τ C'=>∃v3 v4,τ=[some (tt t),some (.tup (bs.map T.str)),some (.ref d),v3,v4]/\Ex C1 C') ⟨_,_,FV,Ex.refl _⟩ (λi τ C' _ h=>by obtain⟨_,_,_,h⟩:=h;exact h _ _ hk1) ?_ ?_
   ·rintro i x τ C2 N hx ⟨v3,v4,rfl,x2⟩ hN;rw[XM,XM] at hx;obtain⟨z,hz,rfl⟩:∃z,t.scs[i]?=some z/\qd (sS z)=x:=by
     cases y:t.scs[i]? with
     | none=>rw[y] at hx;cases hx
     | some p=>rw[y] at hx;exact⟨p,FV,YH hx⟩
    have zm:=BH hz;have z10:=xM t l1 z zm;refine⟨_,FV,_,_,FV,_,_,FV,FV,?_⟩;refine⟨_,FV,_,FV,_,FV,by rw[XI,XI];exact Yy (by omega),_,FV,?_⟩;dsimp only[Zw];rw[<-XL];rw[hxc];exact Du R m n (bs++z.1) z.2 C2 (hc.2 z zm) (l2 z zm) (by rw[BA];omega) (x2 _ _ (x1 _ _ hd)) λC3 x3=>hN _ _ ⟨_,_,FV,x2.trans x3⟩
   ·rintro τ C2 ⟨v3,v4,rfl,x2⟩;rw[hnx];exact q C2 (x1.trans x2)
  cases hn:Tr.isNm t with
  | true=>
   cases t with
   | nm x=>
    have hx:=hc.1 x FV;refine⟨_,FV,_,Yf,Zx (v:=true) (by decide+kernel) ⟨_,FV,Yi ⟨_,FV,_,Sm,_,FV,by unfold Ys Z6;rfl,zn,⟨_,FV,Qw (by rw[XY FV,vj,decide_eq_true hx];rfl) ?_⟩⟩⟩⟩;exact loop _ FV FV
   | _=>cases hn
  | false=>
   obtain⟨wd,r,et,hw⟩:∃(wd:Str) (r:List T),tt t=.tup (.str wd::r)/\(wd=="name")=false:=by
    cases t with
    | nm x=>cases hn
    | _=>exact⟨_,_,FV,by decide+kernel⟩
   rw[et] at loop |-;exact⟨_,FV,_,Yf,Zx (v:=false) hw ⟨_,FV,Zk (Zk (loop _ FV FV))⟩⟩
def qX (R:Rp W ρ){m N:Nat}(hN:m+3<=N)(hc:Cd m [] t)(hl:t.lok)(hm:m<=900)(q:∀p C',Ex C C'->C p=none->C' p=some (.lst [])->Q (.ref p) C'):W N oO [tt t] C Q χ:=by
 obtain⟨n,rfl⟩:∃n,N=n+m+3:=⟨N-m-3,by omega⟩;refine R.o_free (n:=n+m+2) FV ?_;unfold Ge E3;intro d hd;refine⟨_,FV,Yy (by show 0<=_;omega),_,FV,?_⟩;dsimp only[Zw];refine Du R m n [] t _ hc hl (by show 0+_<=_;omega) Ze λC1 x1=>?_;refine⟨_,FV,_,[],[],FV,x1 _ _ Ze,FV,by decide,λp ys hp pm _=>?_⟩;have:ys=[]:=List.Perm.eq_nil pm;subst this;have x0:Ex C C1:=(Ex.new hd).trans x1;exact q p _ (x0.trans (Ex.new hp)) (x0.free hp) Ze
def Gx (R:Rp W ρ){m n:Nat}(hc:Ce m [] t)(hl:t.lok)(hm:m<=900)(hz:t.size<=600)(hco:t.cost<=6000)(hw:(¬∃k R,HT G0 t k R)->ρ)
  (q:∀C' p R,Ex C C'->C p=none->C' p=some (.lst (R.map Jr))->zJ t R->(∃n,ext [] (R.map Kd.ops).flatten=List.range n/\n<=1+t.cost)->Q (.ref p) C'):W (n+m+8) sI [tt t] C Q χ:=by
 refine R.o_paper (n:=n+m+7) FV ?_;unfold Mi M4;refine⟨_,FV,?_⟩;dsimp only[Zw];refine qX R (m:=m) (by omega) hc.cd hl hm λp1 C1 x1 hp1 e1=>?_;refine⟨_,FV,Yy (by show 0<=_;omega),λp2 hp2=>?_⟩;refine G7 (xs:=[]) (by rw[Zf (J0 e1 hp2)];exact e1) Ze ⟨_,FV,Zk ?_⟩;have x2:Ex C (up C1 p2 (.lst [])):=x1.trans (Ex.new hp2);generalize up C1 p2 (.lst [])=C2 at x2;show W (n+m+6+1) Ck [] C2 (λx C1=>Dv (X5 (W (n+m+7)) Og (Zt (Yg 2) (Zt (X5 (W (n+m+7)) Hg (Zt (Yg 2) (Zt (Yg 0) Zw))) Zw))) (ZUD Q χ) [some (tt t),some (.ref p1),some x] C1) χ;refine R.o_new_Slots (n:=n+m+6) (vs:=[]) FV λsa hsa=>?_;refine R.o_Slots___init__ (n:=n+m+5) FV ?_;unfold Xd Xj;refine⟨Yy (by show 0<=_;omega),λfa hfa=>?_⟩;have nfs:sa≠fa:=λe=>by rw[<-e,Ze] at hfa;cases hfa
 have hfa0:C2 fa=none:=by rw[Zf nfs.symm] at hfa;exact hfa
 refine⟨_,FV,_,_,_,FV,by rw[Zf nfs];exact Ze,.head _,by decide,?_⟩;refine⟨Yy (by show 0<=_;omega),λla hla=>?_⟩;have nls:sa≠la:=λe=>by rw[<-e,Ze] at hla;cases hla
 have nlf:fa≠la:=λe=>by rw[<-e,Zf nfs.symm,Ze] at hla;cases hla
 have hla0:C2 la=none:=by rw[Zf nls.symm,Zf nlf.symm,Zf nls.symm] at hla;exact hla
 refine⟨_,FV,_,_,_,FV,by rw[Zf nls];exact Ze,.head _,by show 1<1000;decide,?_⟩;have S0:Sl ⟨sa,fa,la⟩ (up (up (up (up (up C2 sa (.ins "Slots" [])) fa (.lst [])) sa (.ins "Slots" (Uv "forms" (.ref fa) []))) la (.lst [])) sa (.ins "Slots" (Uv "leads" (.ref la) (Uv "forms" (.ref fa) [])))) ⟨id,[]⟩:=by
  refine⟨λ_=>0,[],⟨?_,?_,?_,⟨FV,λx y h=>by simp at h⟩,nlf,λf h=>(by cases h)⟩⟩
  ·rw[Ze];rfl
  ·show up _ _ _ fa=_;rw[Zf nfs.symm,Zf nlf,Zf nfs.symm,Ze];rfl
  ·show up _ _ _ la=_;rw[Zf nls.symm,Ze];rfl
 have x3:Ex C2 (up (up (up (up (up C2 sa (.ins "Slots" [])) fa (.lst [])) sa (.ins "Slots" (Uv "forms" (.ref fa) []))) la (.lst [])) sa (.ins "Slots" (Uv "leads" (.ref la) (Uv "forms" (.ref fa) [])))):=λc w h=>by
  rw[Zf (J0 h hsa),Zf (J0 h hla0),Zf (J0 h hsa),Zf (J0 h hfa0),Zf (J0 h hsa)];exact h
 generalize up (up (up (up (up C2 sa (.ins "Slots" [])) fa (.lst [])) sa (.ins "Slots" (Uv "forms" (.ref fa) []))) la (.lst [])) sa (.ins "Slots" (Uv "leads" (.ref la) (Uv "forms" (.ref fa) [])))=C3 at S0 x3;refine⟨FV,?_⟩;refine⟨_,FV,_,FV,_,FV,?_⟩;dsimp only[Zw];refine yN R (n:=n+m) hl hz hco hc hw S0 λC4 p4 u4 rows S4 F4 hp4 P4 K4 re4=>?_;have hw4:(¬∃σ,X6 u4 σ)->ρ:=λh=>hw λ⟨k0,R0,h0⟩=>by
  obtain⟨σ0,_,s0,_,_⟩:=K4.co k0 R0 h0;exact h ⟨σ0,s0⟩
 have pf:=S0.off hp4;have ln:=K4.len;have sz:=K4.sz;refine Gv R (n:=n+m+3) S4 K4.o (by omega) K4.c hw4 re4 P4 pf.2.1 pf.2.2 K4.rl (by omega) λC5 p5 M O S5 F5 hp5 P5 T5 hS oL=>?_;obtain⟨σ0,s0⟩:=hS;have x4:Ex C C4:=λc w h=>by
  have h3:=x3 _ _ (x2 _ _ h);have nf:c≠fa:=J0 (x2 _ _ h) hfa0;have nl:c≠la:=J0 (x2 _ _ h) hla0;exact F4 c w nf nl h3
 have xx:Ex C C5:=λc w h=>F5 c w (J0 (x2 _ _ h) hfa0) (J0 (x2 _ _ h) hla0) (x4 c w h);exact q C5 p5 (rows.map λi=>vl M (u4.rt i)) xx (x4.free hp5) (by rw[YE];exact P5) (yJ K4 s0 T5) ⟨O.length,by rw[<-T5.num,YE];rfl,by omega⟩
end
end K27
namespace Fn
open PySem WL
def HT.head {G:Ev}{t:Tr}{k:Kd}{R:List Kd}(h:HT G t k R):∃R',R=k::R':=by cases h;exact⟨_,FV⟩
def HTs.two {c d:Ev×Tr×Kd}{R:List Kd}(h:HTs [c,d] R):∃r s,R=r++s/\HT c.1 c.2.1 c.2.2 r/\HT d.1 d.2.1 d.2.2 s:=by
 cases h with
 | cons a b=>
  cases b with
  | cons b e=>cases e;exact⟨_,_,by rw[YK],a,b⟩
def HTs.one {c:Ev×Tr×Kd}{R:List Kd}(h:HTs [c] R):HT c.1 c.2.1 c.2.2 R:=by
 cases h with
 | cons a b=>cases b;rw[YK];exact a
def HTs.mk2 {G H:Ev}{t s:Tr}{k l:Kd}{r q:List Kd}(a:HT G t k r)(b:HT H s l q):HTs [(G,t,k),(H,s,l)] (r++q):=by
 have:=HTs.cons a (HTs.cons b HTs.nil);rw[YK] at this;exact this
def HTs.mk1 {G:Ev}{t:Tr}{k:Kd}{r:List Kd}(a:HT G t k r):HTs [(G,t,k)] r:=by
 have:=HTs.cons a HTs.nil;rw[YK] at this;exact this
def jt (θ1 θ2:Nat->Kd)(s:Kd):Nat->Kd:=λi=>if i<1000 then θ1 i else if i<2000 then θ2 (i-1000) else s
def di (R:List Kd):Prop:=∀k∈R,∀i∈k.ops,i<1000
section
variable {θ1 θ2:Nat->Kd}{s:Kd}{R R1 R2:List Kd}{t1 t2:Tr}{m:Nat}{z:Str}
structure bd (m:Nat)(t1 t2:Tr)(R1 R2:List Kd):Prop where
 c1:Cd m [] t1
 c2:Cd m [] t2
 b1:zJ t1 R1
 b2:zJ t2 R2
 l1:di R1
 l2:di R2
def cv (t:Tr)(R:List Kd):Prop:=(∃k,HT G0 t k R)/\∀k' R',HT G0 t k' R'->∃θ,R'=R.map (Kd.put θ)
end
end Fn
namespace K27
open PySem PySem.Spec PyProof.Rows L2 WL Fn
def E5:Kd->List Kd
 | .k1 _ a=>[a]
 | .k2 _ a b=>[a,b]
 | _=>[]
def sA:Kd->Str
 | .op _=>"open"
 | .k0 g=>g
 | .k1 g _=>g
 | .k2 g _ _=>g
def Nk:Nat->Kd->Prop
 | 0,_=>False
 | _+1,.op _=>True
 | m+1,k=>sA k≠"open"/\∀a∈E5 k,Nk m a
def Oe:∀{m n:Nat} {k:Kd},m<=n->Nk m k->Nk n k
 | 0,_,_,_,h=>h.elim
 | _+1,0,_,h,_=>absurd h (Nat.not_succ_le_zero _)
 | _+1,_+1,.op _,_,_=>trivial
 | m+1,n+1,.k0 g,h,q=>⟨q.1,λa ha=>by cases ha⟩
 | m+1,n+1,.k1 g a,h,q=>⟨q.1,λb hb=>Oe (ES h) (q.2 b hb)⟩
 | m+1,n+1,.k2 g a b,h,q=>⟨q.1,λb hb=>Oe (ES h) (q.2 b hb)⟩
def Qj:∀{l acc:List Nat},∃e,ext acc l=acc++e/\e.length<=l.length
 | [],acc=>⟨[],by simp[ext],Nat.le_refl _⟩
 | i::l,acc=>by
  show ∃e,ext (if i∈acc then acc else acc++[i]) l=acc++e/\_;by_cases c:i∈acc
  ·rw[XY c];obtain⟨e,h,h2⟩:=Qj (l:=l) (acc:=acc);exact⟨e,h,by rw[YF];omega⟩
  ·rw[XX c];obtain⟨e,h,h2⟩:=Qj (l:=l) (acc:=acc++[i]);exact⟨i::e,by rw[h,YL];rfl,by rw[YF,YF];omega⟩
def vB {l acc:List Nat}:acc.length<=(ext acc l).length:=by
 obtain⟨e,h,_⟩:=Qj (l:=l) (acc:=acc);rw[h,BA];omega
def vA {L:List Nat}{ps:List Kd}{i:Nat}:(ext L ((ps.take i).map Kd.ops).flatten).length<=(ext L (ps.map Kd.ops).flatten).length:=by
 have:ps=ps.take i++ps.drop i:=(List.take_append_drop ..).symm
 conv=>rhs;rw[this]
 rw[XL,List.flatten_append,Sb];exact vB
def sH {acc l:List Nat}{i:Nat}(h:i∈acc):(ext acc l).idxOf i=acc.idxOf i:=by
 obtain⟨e,h2,_⟩:=Qj (l:=l) (acc:=acc);rw[h2,List.idxOf_append,XY h]
def jJ (kv:List (Z2×T))(L:List Nat):Prop:=(∀j:Nat,Yr kv (ik j)=if j∈L then some (nT (L.idxOf j)) else none)/\kv.length=L.length
def jJ.put {kv:List (Z2×T)}{L:List Nat}{j:Nat}(h:jJ kv L)(hj:j∉L):jJ (Jz kv (ik j) (nT L.length)) (L++[j]):=by
 refine⟨λi=>?_,?_⟩
 ·rw[Kj];by_cases c:i=j
  ·subst c;rw[if_pos FV,if_pos (by simp),List.idxOf_append,if_neg hj];simp
  ·rw[XX λe=>c (A0 e),h.1 i];by_cases d:i∈L
   ·rw[XY d,XY (BE _ d),List.idxOf_append,XY d]
   ·rw[if_neg d,if_neg (by simp[d,c])]
 ·have hn:¬(kv.any λz=>decide (z.1=ik j))=true:=λe=>by
   have g:=h.1 j;rw[XX hj] at g;unfold Yr at g;obtain⟨z,hz,e⟩:=DE.mp e;have:=(FO (p:=λz:Z2×T=>decide (z.1=ik j))).mpr ⟨z,hz,e⟩;rw[Option.map_eq_none_iff] at g;rw[g] at this
   cases this
  unfold Jz;rw[XX hn,BA,BA,h.2];rfl
def Ed (d:WP)(C C':Hw):Prop:=∀c w,c≠d->C c=some w->C' c=some w
def Ed.refl (d:WP)(C:Hw):Ed d C C:=λ_ _ _ h=>h
def Ed.trans {d:WP}{C C1 C2:Hw}(a:Ed d C C1)(b:Ed d C1 C2):Ed d C C2:=λc w n h=>b c w n (a c w n h)
def Ed.new {d p:WP}{C C1:Hw}{o:O}(a:Ed d C C1)(h:C1 p=none):Ed d C (up C1 p o):=λc w n e=>by
 have q:=a c w n e;rw[Zf (J0 q h)];exact q
def nk (L:List Nat)(k:Kd):Kd:=k.put λi=>.op (L.idxOf i)
def oj {L l:List Nat}{k:Kd}(h:∀i∈k.ops,i∈L):nk (ext L l) k=nk L k:=V5 k λi hi=>by rw[sH (h i hi)]
def Lg {d:WP}:∀(m n:Nat) (k:Kd) (L:List Nat) (kv:List (Z2×T)) (C:Hw) {Q:WK} {χ:WX},Nk m k->jJ kv L->C d=some (.dic kv)->(ext L k.ops).length<=90000->
  (∀C' kv',Ed d C C'->C' d=some (.dic kv')->jJ kv' (ext L k.ops)->Q (Jr (nk (ext L k.ops) k)) C')->J8 pr (n+m) Mb [Jr k,.ref d] C Q χ
 | 0,_,_,_,_,_,_,_,h,_,_,_,_=>h.elim
 | m+1,n,k,L,kv,C,Q,χ,hk,hL,hd,hb,q=>by
  refine N7 (n:=n+m) FV ?_;unfold Va Vm;have many:∀g:Str,(g=="open")=false->∀ps:List Kd,ps.length<=2->(∀a∈ps,Nk m a)->Jr k=.tup (.str g::ps.map Jr)->k.ops=(ps.map Kd.ops).flatten->(∀L',Jr (nk L' k)=.tup (.str g::ps.map λa=>Jr (nk L' a)))->
    (Qn (qg (jY (Xm By (Xm Gf (Yg 0) (eC (T.int 0))) (eC (T.str "open")))) (Dv (Qo (Zt (eC (T.str "open")) (Zt (kO (Yg 1) (Xm Gf (Yg 0) (eC (T.int 1))) (ni qz (Zt (Yg 1) Zw))) Zw)))) Qt)
     (Dv (ni z7 (Zt (Xm E8 (jy (Zt (Xm Gf (Yg 0) (eC (T.int 0))) Zw)) (Hl [none,some 1] (sJ (fq (Yg 0) (wQ (eC (T.int 1))) gQ)) (Ig 0) xw (X5 (J8 pr (n+m)) 29 (Zt (Yg 0) (Zt (Yg 1) Zw))))) Zw)))) (ZUD Q χ) [some (Jr k),some (.ref d)] C:=by
   intro g hg ps hp hN e1 e3 e2;rw[e1];refine⟨_,FV,_,Yf,Zx (v:=false) hg ⟨_,FV,Zk ?_⟩⟩;refine⟨_,FV,_,Yf,Yy (by show 1<=_;omega),λp1 hp1=>?_⟩;refine⟨_,FV,_,FV,Lc,?_⟩;rw[Th];have n1:p1≠d:=(J0 hd hp1).symm;have x1:Ed d C (up C p1 (.lst [.str g])):=(Ed.refl _ _).new hp1;have P1:up C p1 (.lst [.str g]) p1=some (.lst [.str g]):=Ze;have D1:up C p1 (.lst [.str g]) d=some (.dic kv):=by rw[Zf n1.symm];exact hd
   generalize up C p1 (.lst [.str g])=C1 at x1 P1 D1;refine Ts (λi acc C'=>∃kv',Ed d C1 C'/\C' d=some (.dic kv')/\jJ kv' (ext L ((ps.take i).map Kd.ops).flatten)/\acc=(ps.take i).map λa=>Jr (nk (ext L ((ps.take i).map Kd.ops).flatten) a)) ⟨kv,Ed.refl _ _,D1,hL,FV⟩ (λ_ _ _ _ _=>trivial) ?_ ?_
   ·rintro i x acc C2 N hx ⟨kv2,x2,D2,hL2,rfl⟩ hN2;rw[XM] at hx;obtain⟨a,ha,rfl⟩:∃a,ps[i]?=some a/\Jr a=x:=by
     cases y:ps[i]? with
     | none=>rw[y] at hx;cases hx
     | some p=>rw[y] at hx;exact⟨p,FV,YH hx⟩
    have hi:i<ps.length:=(BB.mp ha).1;have et:ps.take (i+1)=ps.take i++[a]:=by rw[YD,ha];rfl
    have ef:((ps.take (i+1)).map Kd.ops).flatten=((ps.take i).map Kd.ops).flatten++a.ops:=by rw[et,List.map_append,List.flatten_append];simp
    have fl:=XN (vA (L:=L) (ps:=ps) (i:=i+1)) (e3▸hb);rw[ef,Sb] at fl;refine Yi (q:=N ((ps.take i).map λa=>Jr (nk (ext L ((ps.take i).map Kd.ops).flatten) a)) C2) ⟨_,FV,_,FV,?_⟩;dsimp only[Zw];refine Lg m n a _ kv2 C2 (hN a (BH ha)) hL2 D2 fl λC3 kv3 x3 D3 hL3=>⟨Yz (by rw[XI,YM];omega),hN2 _ _ ⟨kv3,x2.trans x3,D3,by rw[ef,Sb];exact hL3,?_⟩⟩;rw[ef,Sb,et,XL];congr 1;refine BS λb hb=>?_;rw[oj λi hi=>G9.mpr (.inr (List.mem_flatten.mpr ⟨_,XR.mpr ⟨b,hb,FV⟩,hi⟩))]
   ·rintro acc C2 ⟨kv2,x2,D2,hL2,rfl⟩ p3 hp3;rw[XI,CC] at*;rw[<-e3] at hL2 |-;have n3:p3≠d:=(J0 D2 hp3).symm;have P2:=x2 _ _ n1 P1;refine⟨_,_,by rw[Zf (J0 P2 hp3)];exact P2,Ze,Yy (by rw[XI];show 1+_<=_;omega),λp4 hp4=>?_⟩;refine⟨_,FV,_,Ze,?_⟩;have n4:p4≠d:=λe=>by rw[e,Zf n3.symm,D2] at hp4;cases hp4
    have:=q (up (up C2 p3 (.lst (ps.map λa=>Jr (nk (ext L k.ops) a)))) p4 (.lst ([.str g]++ps.map λa=>Jr (nk (ext L k.ops) a)))) kv2 (((x1.trans x2).new hp3).new hp4) (by rw[Zf n4.symm,Zf n3.symm];exact D2) hL2;rw[e2] at this;exact this
  cases k with
  | op i=>
   refine⟨_,FV,_,Yf,Zx (v:=true) (by decide+kernel) ⟨_,FV,Yi ?_⟩⟩;refine⟨_,FV,⟨_,_,FV,hd⟩,_,FV,_,Sm,_,FV,_,_,FV,hd,?_⟩;refine⟨_,_,_,FV,FV,hd,Yz (by rw[hL.2];have:=vB (l:=(Kd.op i).ops) (acc:=L);omega),λv hv=>?_,λhv=>?_⟩
   ·have g:=hL.1 i;by_cases c:i∈L
    ·rw[XY c,show Yr kv (ik i)=some v from hv] at g
     cases g
     have ee:ext L (Kd.op i).ops=L:=zo λj hj=>by rw[XQ.mp hj];exact c
     have:=q C kv (Ed.refl _ _) hd (by rw[ee];exact hL);rw[ee] at this;exact⟨Yy (by show 2<=_;omega),this⟩
    ·rw[XX c,show Yr kv (ik i)=some v from hv] at g
     cases g
   ·have g:=hL.1 i;have c:i∉L:=λc=>by
     rw[XY c,show Yr kv (ik i)=none from hv] at g
     cases g
    have ee:ext L (Kd.op i).ops=L++[i]:=by show(if i∈L then L else L++[i])=_;rw[XX c]
    have ei:(L++[i]).idxOf i=L.length:=by rw[List.idxOf_append,if_neg c];simp
    have:=q (up C d (.dic (Jz kv (ik i) (nT L.length)))) _ (λc w n h=>by rw[Zf n];exact h) Ze (by rw[ee];exact hL.put c);rw[ee] at this;have e4:Jr (nk (L++[i]) (.op i))=.tup [.str "open",nT L.length]:=by show T.tup [.str "open",nT ((L++[i]).idxOf i)]=_;rw[ei]
    rw[e4] at this;rw[hL.2];exact⟨Yy (by show 2<=_;omega),this⟩
  | k0 g=>exact many g (beq_eq_false_iff_ne.mpr hk.1) [] (by decide) (λa h=>by cases h) FV FV (λ_=>rfl)
  | k1 g a=>exact many g (beq_eq_false_iff_ne.mpr hk.1) [a] (ZNB FV) (λb h=>hk.2 b h) FV (by show a.ops=a.ops++[];rw[YK]) (λ_=>rfl)
  | k2 g a b=>exact many g (beq_eq_false_iff_ne.mpr hk.1) [a,b] (ZNB FV) (λb h=>hk.2 b h) FV (by show a.ops++b.ops=a.ops++(b.ops++[]);rw[YK]) (λ_=>rfl)
end K27
namespace Fn
open PySem WL
def wT:Nat->Nat->Tr->Tr
 | 0,a,t=>.sh2 "Pair" t (.num a)
 | 1,_,t=>.sh2 "Pair" (.sh0 "Yes") t
 | 2,_,t=>.sh2 "Cons" t (.sh0 "Nil")
 | _+3,_,t=>.fn "y" t
def wK:Nat->Nat->Kd->Kd
 | 0,_,k=>sC k Ib
 | 1,_,k=>sC Fe k
 | 2,_,k=>Nb k
 | _+3,a,k=>sB (.op a) k
def lT:List Nat->Nat->Tr->Tr
 | [],_,t=>t
 | w::ws,a,t=>lT ws (a+1) (wT w a t)
def lK:List Nat->Nat->Kd->Kd
 | [],_,k=>k
 | w::ws,a,k=>lK ws (a+1) (wK w a k)
def yh {w:Nat}:∀{ws:List Nat} {a:Nat} {t:Tr},lT (ws++[w]) a t=wT w (a+ws.length) (lT ws a t)
 | [],a,t=>rfl
 | v::ws,a,t=>by
  show lT (ws++[w]) (a+1) (wT v a t)=_;rw[yh,YF];show wT w (a+1+ws.length) (lT ws (a+1) (wT v a t))=wT w (a+(ws.length+1)) (lT ws (a+1) (wT v a t));rw[Nat.add_assoc,FS 1]
def yi {w:Nat}:∀{ws:List Nat} {a:Nat} {t:Kd},lK (ws++[w]) a t=wK w (a+ws.length) (lK ws a t)
 | [],a,t=>rfl
 | v::ws,a,t=>by
  show lK (ws++[w]) (a+1) (wK v a t)=_;rw[yi,YF];show wK w (a+1+ws.length) (lK ws (a+1) (wK v a t))=wK w (a+(ws.length+1)) (lK ws (a+1) (wK v a t));rw[Nat.add_assoc,FS 1]
def dT (b:Bool)(t:Tr):Tr:=if b then .sh2 "Pair" t t else t
def dK (b:Bool)(k:Kd):Kd:=if b then sC k k else k
def xo {w a:Nat}{k:Kd}{i:Nat}(h:i∈(wK w a k).ops):i∈k.ops\/i=a:=by
 match w with
 | 0=>simpa[wK,Kd.ops] using Or.inl (b:=i=a) (by simpa[wK,Kd.ops] using h)
 | 1=>exact .inl (by simpa[wK,Kd.ops] using h)
 | 2=>exact .inl (by simpa[wK,Kd.ops] using h)
 | _+3=>
  have:i=a\/i∈k.ops:=by simpa[wK,Kd.ops] using h
  exact this.symm
section
variable {Φ:Ev->Prop}(st:∀G p,Φ G->Φ (bnd ["y"] [p] G))
include st
def Nc:∀(ws:List Nat) (a hi:Nat) (t:Tr) (K:Kd),a+ws.length<=hi->(∀i∈K.ops,hi<=i\/i<a)->
  (∀G k R,Φ G->HT G t k R->∃θ,k=K.put θ)->∀G k R,Φ G->HT G (lT ws a t) k R->∃θ,k=(lK ws a K).put θ
 | [],_,_,_,_,_,_,hb=>hb
 | w::ws,a,hi,t,K,ha,ho,hb=>by
  rw[YF] at ha;refine Nc ws (a+1) hi (wT w a t) (wK w a K) (by omega) (λi hi'=>?_) λG k R hG h=>?_
  ·rcases xo hi' with h | h
   ·rcases ho i h with h | h
    ·exact .inl h
    ·exact .inr (by omega)
   ·exact .inr (by omega)
  ·match w with
   | 0=>
    cases h with
    | mk r c=>
     cases r with
     | @pair _ _ _ p q=>
      obtain⟨r1,r2,_,h1,h2⟩:=c.two;obtain⟨θ,e⟩:=hb G p r1 hG h1
      cases h2 with
      | mk x y=>cases x;exact⟨θ,by rw[e];rfl⟩
   | 1=>
    cases h with
    | mk r c=>
     cases r with
     | @pair _ _ _ p q=>
      obtain⟨r1,r2,_,h1,h2⟩:=c.two;obtain⟨θ,e⟩:=hb G q r2 hG h2
      cases h1 with
      | mk x y=>cases x;exact⟨θ,by rw[e];rfl⟩
   | 2=>
    cases h with
    | mk r c=>
     cases r with
     | @cons _ _ _ p=>
      obtain⟨r1,r2,_,h1,h2⟩:=c.two;obtain⟨θ,e⟩:=hb G p r1 hG h1;exact⟨θ,by rw[e];rfl⟩
   | w+3=>
    cases h with
    | mk r c=>
     cases r with
     | @fn _ _ _ p q=>
      obtain⟨θ,e⟩:=hb _ q _ (st G p hG) c.one;refine⟨λi=>if i=a then p else θ i,?_⟩;show sB p q=sB (if a=a then p else θ a) (K.put _);rw[XY FV,e];congr 1;refine V5 K λi hi'=>?_;have:i≠a:=λz=>by rcases ho i hi' with h | h<;>omega
      show θ i=if i=a then p else θ i
      rw[XX this]
def D7:∀(ws:List Nat) (a:Nat) (t:Tr) (K:Kd),(∀G,Φ G->∃R,HT G t K R)->∀G,Φ G->∃R,HT G (lT ws a t) (lK ws a K) R
 | [],_,_,_,hb=>hb
 | w::ws,a,t,K,hb=>by
  refine D7 ws (a+1) (wT w a t) (wK w a K) λG hG=>?_
  match w with
  | 0=>
   obtain⟨R,h⟩:=hb G hG;exact⟨_,.mk .pair (.mk2 h (.mk .num .nil))⟩
  | 1=>
   obtain⟨R,h⟩:=hb G hG;exact⟨_,.mk .pair (.mk2 (.mk .yes .nil) h)⟩
  | 2=>
   obtain⟨R,h⟩:=hb G hG;exact⟨_,.mk .cons (.mk2 h (.mk .nil .nil))⟩
  | w+3=>
   obtain⟨R,h⟩:=hb _ (st G (.op a) hG);exact⟨_,.mk .fn (.mk1 h)⟩
def Di:∀(ws:List Nat) (a m:Nat) (t:Tr),(∀G k R,Φ G->HT G t k R->m<=k.sz)->∀G k R,Φ G->HT G (lT ws a t) k R->m+ws.length<=k.sz
 | [],_,_,_,hb=>hb
 | w::ws,a,m,t,hb=>λG k R hG h=>by
  have:=Di ws (a+1) (m+1) (wT w a t) (λG k R hG h=>by
   match w with
   | 0=>
    cases h with
    | mk r c=>
     cases r with
     | @pair _ _ _ p q=>
      obtain⟨r1,r2,_,h1,h2⟩:=c.two;have:=hb G p r1 hG h1;show m+1<=1+(p.sz+q.sz);omega
   | 1=>
    cases h with
    | mk r c=>
     cases r with
     | @pair _ _ _ p q=>
      obtain⟨r1,r2,_,h1,h2⟩:=c.two;have:=hb G q r2 hG h2;show m+1<=1+(p.sz+q.sz);omega
   | 2=>
    cases h with
    | mk r c=>
     cases r with
     | @cons _ _ _ p=>
      obtain⟨r1,r2,_,h1,h2⟩:=c.two;have:=hb G p r1 hG h1;show m+1<=1+p.sz;omega
   | w+3=>
    cases h with
    | mk r c=>
     cases r with
     | @fn _ _ _ p q=>
      have:=hb _ q _ (st G p hG) c.one;show m+1<=1+(p.sz+q.sz);omega) G k R hG h
  rw[YF];omega
end
def o0 {L:List (Str×Kd)}:(L.map (·.1)).Nodup->∀{z:Str×Kd},z∈L->L.lookup z.1=some z.2:=by
 induction L with
 | nil=>intro _ z h;cases h
 | cons p L ih=>
  intro nd z hz;obtain⟨a,b⟩:=p;rw[YI] at nd;obtain⟨n1,n2⟩:=BP.mp nd;rw[DC]
  rcases BD.mp hz with rfl | hz
  ·simp
  ·have:(z.1==a)=false:=beq_eq_false_iff_ne.mpr λe=>n1 (XR.mpr ⟨z,hz,e⟩);rw[this];exact ih n2 hz
def mv {n:Nat}{xs:Fin n->Str}{ks:Fin n->Kd}:(Wn xs).zip ((List.finRange n).map ks)=(List.finRange n).map λi=>(xs i,ks i):=List.zip_map' ..
def Mx {n:Nat}{xs:Fin n->Str}{ks:Fin n->Kd}{G:Ev}(inj:∀i j,xs i=xs j->i=j)(i:Fin n):bnd (Wn xs) ((List.finRange n).map ks) G (xs i)=some (ks i):=by
 unfold bnd;rw[mv];have nd:(((List.finRange n).map λi=>(xs i,ks i)).reverse.map (·.1)).Nodup:=by
  rw[DV,(List.reverse_perm _).nodup_iff,YE];exact List.Pairwise.map _ (λa b h e=>h (inj a b e)) (List.nodup_finRange n)
 have:=o0 nd (z:=(xs i,ks i)) (DW.mpr (XR.mpr ⟨i,EO i,FV⟩));rw[show(((List.finRange n).map λi=>(xs i,ks i)).reverse.lookup (xs i))=some (ks i) from this]
def Et {n:Nat}{xs:Fin n->Str}{ks:Fin n->Kd}{G:Ev}{y:Str}(h:∀i,xs i≠y):bnd (Wn xs) ((List.finRange n).map ks) G y=G y:=by
 unfold bnd;rw[mv]
 cases e:(((List.finRange n).map λi=>(xs i,ks i)).reverse.lookup y) with
 | none=>rfl
 | some k=>
  have:=DW.mp (BR e);obtain⟨i,_,e⟩:=XR.mp this;injection e with e _
  exact absurd e (h i)
def ig {p:Kd}{G:Ev}{y:Str}(h:y≠"y"):bnd ["y"] [p] G y=G y:=by
 unfold bnd;rw[show([("y":Str)].zip [p]).reverse=[(("y":Str),p)] from FV,DC,show(y==("y":Str))=false from beq_eq_false_iff_ne.mpr h];rfl
def yB {α:Type}{f:α->Ev×Tr×Kd}:∀{l:List α} {r:List Kd},HTs (l.map f) r->∀i∈l,∃R,HT (f i).1 (f i).2.1 (f i).2.2 R
 | [],_,_,i,hi=>by cases hi
 | a::l,_,h,i,hi=>by
  rw[YI] at h;generalize hf:f a=c at h;obtain⟨G,t,k⟩:=c
  cases h with
  | cons x y=>
   rcases BD.mp hi with rfl | hi
   ·rw[hf];exact⟨_,x⟩
   ·exact yB y i hi
def uA {α:Type}{f:α->Ev×Tr×Kd}:∀{l:List α},(∀i∈l,∃R,HT (f i).1 (f i).2.1 (f i).2.2 R)->∃r,HTs (l.map f) r
 | [],_=>⟨_,.nil⟩
 | a::l,h=>by
  obtain⟨R,h1⟩:=h a (BC ..);obtain⟨r,h2⟩:=uA (l:=l) λi hi=>h i (XV _ hi);exact⟨R++r,by rw[YI];exact .cons h1 h2⟩
structure Dk where
 x:Nat->Str
 ws:Nat->List Nat
 db:Nat->Bool
 e:Tr
 ek:Kd
namespace Dk
def b (D:Dk)(k:Nat):Tr:=if k=9 then D.e else .nm (D.x (k+1))
def t (D:Dk)(k:Nat):Tr:=lT (D.ws k) (10*k) (dT (D.db k) (D.b k))
def kd (D:Dk):Nat->Kd
 | 0=>D.ek
 | d+1=>lK (D.ws (9-d)) (10*(9-d)) (dK (D.db (9-d)) (D.kd d))
def k (D:Dk)(k:Nat):Kd:=D.kd (10-k)
def lt (D:Dk)(s r:Nat)(b:Tr):Tr:=.lt 5 (λi=>D.x (s-(i.val+r)%5)) (λi=>D.t (s-(i.val+r)%5)) b
def whole (D:Dk)(r1 r2:Nat):Tr:=D.lt 9 r2 (D.lt 4 r1 (.nm (D.x 0)))
def En (D:Dk)(κ:Nat->Kd)(lo:Nat)(G:Ev):Prop:=∀k,lo<=k->k<=9->G (D.x k)=some (κ k)
structure Ok (D:Dk):Prop where
 inj:∀i j,i<=9->j<=9->D.x i=D.x j->i=j
 ny:∀i,i<=9->D.x i≠"y"
 wl:∀k,(D.ws k).length<=5
 db:∀k,3<=k->D.db k=false
 op:∀i∈D.ek.ops,1000<=i
section
variable {D:Dk}{κ:Nat->Kd}{lo s r:Nat}{G:Ev}{k:Kd}{R:List Kd}{b:Tr}
def k_at {j:Nat}(h:j<=9):D.k j=lK (D.ws j) (10*j) (dK (D.db j) (D.k (j+1))):=by
 show D.kd (10-j)=lK (D.ws j) (10*j) (dK (D.db j) (D.kd (10-(j+1))));obtain⟨d,rfl⟩:∃d,j=9-d:=⟨9-j,by omega⟩;by_cases c:d<=9
 ·rw[show 10-(9-d)=d+1 by omega,show 10-(9-d+1)=d by omega];rfl
 ·rw[show 10-(9-d)=9+1 by omega,show 9-d=0 by omega];rfl
def gX:D.k 10=D.ek:=rfl
def En.st (o:D.Ok):∀G p,D.En κ lo G->D.En κ lo (bnd ["y"] [p] G):=λG p h j h1 h2=>by rw[ig (o.ny j h2)];exact h j h1 h2
def vd:∀{ws:List Nat} {a:Nat} {K:Kd} {i:Nat},i∈(lK ws a K).ops->i∈K.ops\/(a<=i/\i<a+ws.length)
 | [],_,_,_,h=>.inl h
 | w::ws,a,K,i,h=>by
  rcases vd (ws:=ws) h with h | h
  ·rcases xo h with h | h
   ·exact .inl h
   ·exact .inr (by rw[YF];omega)
  ·exact .inr (by rw[YF];omega)
def zv {b:Bool}{K:Kd}{i:Nat}(h:i∈(dK b K).ops):i∈K.ops:=by
 unfold dK at h
 cases b with
 | false=>exact h
 | true=>rcases XS.mp h with h | h<;>exact h
def qm (o:D.Ok):∀d,d<=10->∀i∈(D.k (10-d)).ops,10*(10-d)<=i
 | 0,_,i,h=>XN (by decide) (o.op i h)
 | d+1,hd,i,h=>by
  rw[k_at (by omega)] at h
  rcases vd h with h | h
  ·have h:=zv h;rw[show 10-(d+1)+1=10-d by omega] at h;have:=qm o d (by omega) i h;omega
  ·omega
def ix (hs:s=9\/s=4)(hr:r<5){j:Nat}(h1:s-4<=j)(h2:j<=s):∃i:Fin 5,s-(i.val+r)%5=j:=⟨⟨((s-j)+5-r)%5,EI _ (by decide)⟩,by show s-(((s-j)+5-r)%5+r)%5=j;omega⟩
def uP (o:D.Ok)(hs:s=9\/s=4)(hr:r<5):∀i j:Fin 5,D.x (s-(i.val+r)%5)=D.x (s-(j.val+r)%5)->i=j:=λi j h=>by
 have:=o.inj _ _ (by omega) (by omega) h;have h1:=i.isLt;have h2:=j.isLt;exact Fin.ext (by omega)
def vb (o:D.Ok)(hs:s=9\/s=4)(hr:r<5)(h:HT G (D.lt s r b) k R):∃(κ:Nat->Kd) (G1:Ev) (Rs Rb:List Kd),R=k::(Rs++Rb)/\(∀j,s-4<=j->j<=s->G1 (D.x j)=some (κ j))/\(∀y,(∀j,s-4<=j->j<=s->D.x j≠y)->G1 y=G y)/\
  (∀j,s-4<=j->j<=s->∃R',HT G1 (D.t j) (κ j) R')/\HT G1 b k Rb:=by
 cases h with
 | mk a c=>
  cases a with
  | @lt _ _ _ _ _ _ ks=>
   obtain⟨Rs,Rb,e,h1,h2⟩:=c.split;have h1:=yB h1;have h2:=HTs.one h2;refine⟨λj=>ks ⟨((s-j)+5-r)%5,EI _ (by decide)⟩,_,Rs,Rb,by rw[e],λj j1 j2=>?_,λy hy=>Et λi=>hy _ (by omega) (by omega),λj j1 j2=>?_,h2⟩
   ·have e:s-(((⟨((s-j)+5-r)%5,EI _ (by decide)⟩:Fin 5)).val+r)%5=j:=by show s-(((s-j)+5-r)%5+r)%5=j;omega
    have:=Mx (ks:=ks) (G:=G) (uP o hs hr) ⟨((s-j)+5-r)%5,EI _ (by decide)⟩;rw[e] at this;exact this
   ·have e:s-(((⟨((s-j)+5-r)%5,EI _ (by decide)⟩:Fin 5)).val+r)%5=j:=by show s-(((s-j)+5-r)%5+r)%5=j;omega
    obtain⟨R',h⟩:=h1 ⟨((s-j)+5-r)%5,EI _ (by decide)⟩ (EO _);refine⟨R',?_⟩;have h:HT _ (D.t (s-(((⟨((s-j)+5-r)%5,EI _ (by decide)⟩:Fin 5)).val+r)%5)) _ R':=h;rw[e] at h;exact h
def whole_inv (o:D.Ok){r1 r2:Nat}(h1:r1<5)(h2:r2<5)(h:HT G0 (D.whole r1 r2) k R):∃κ R1 R2,R=k::(R1++(k::(R2++[k])))/\k=κ 0/\∀j,j<=9->∃G,D.En κ (if j<=4 then 0 else 5) G/\∃R',HT G (D.t j) (κ j) R':=by
 obtain⟨κ1,Ga,Rs,Rb,rfl,a1,a2,a3,a4⟩:=vb o (.inl FV) h2 h;obtain⟨κ2,Gb,Rs2,Rb2,rfl,b1,b2,b3,b4⟩:=vb o (.inr FV) h1 a4;have gb:D.En (λj=>if j<=4 then κ2 j else κ1 j) 0 Gb:=λj _ h9=>by
  show _=some (if j<=4 then κ2 j else κ1 j);by_cases c:j<=4
  ·rw[XY c];exact b1 j (by omega) c
  ·rw[XX c,b2 _ λi i1 i2 e=>by have:=o.inj i j (by omega) h9 e;omega];exact a1 j (by omega) h9
 cases b4 with
 | mk x y=>
  cases x with
  | nm hx=>
   cases y
   refine⟨λj=>if j<=4 then κ2 j else κ1 j,Rs,Rs2,FV,?_,λj h9=>?_⟩
   ·rw[b1 0 (by omega) (by omega)] at hx;exact(YH hx).symm
   ·by_cases c:j<=4
    ·rw[XY c];obtain⟨R',h⟩:=b3 j (by omega) c;refine⟨Gb,gb,R',?_⟩;show HT Gb (D.t j) (if j<=4 then κ2 j else κ1 j) R';rw[XY c];exact h
    ·rw[XX c];obtain⟨R',h⟩:=a3 j (by omega) h9;refine⟨Ga,λi i1 i2=>?_,R',?_⟩
     ·show _=some (if i<=4 then κ2 i else κ1 i);rw[XX (by omega)];exact a1 i (by omega) i2
     ·show HT Ga (D.t j) (if j<=4 then κ2 j else κ1 j) R';rw[XX c];exact h
def uk {j:Nat}(hj:j<9)(hlo:lo<=j+1){G:Ev}{k:Kd}{R:List Kd}(hG:D.En κ lo G)(h:HT G (dT (D.db j) (D.b j)) k R):k=dK (D.db j) (κ (j+1)):=by
 have nm:∀{k R},HT G (D.b j) k R->k=κ (j+1):=λ{k R} h=>by
  unfold Dk.b at h;rw[XX (by omega)] at h
  cases h with
  | mk x y=>
   cases x with
   | nm hx=>rw[hG (j+1) hlo (by omega)] at hx;exact(YH hx).symm
 unfold dT at h;unfold dK
 cases hd:D.db j with
 | false=>rw[hd] at h;exact nm h
 | true=>
  rw[hd] at h;have h:HT G (.sh2 "Pair" (D.b j) (D.b j)) k R:=h
  cases h with
  | mk x y=>
   cases x with
   | @pair _ _ _ p q=>
    obtain⟨_,_,_,y1,y2⟩:=y.two;have e1:p=κ (j+1):=nm y1;have e2:q=κ (j+1):=nm y2;rw[e1,e2];rfl
def kinds_inv (o:D.Ok)(he:∀G k R,D.En κ 5 G->HT G D.e k R->∃θ,k=D.ek.put θ)(hk:∀j,j<=9->∃G,D.En κ (if j<=4 then 0 else 5) G/\∃R',HT G (D.t j) (κ j) R'):∀d,d<=9->∃θ,κ (9-d)=(D.k (9-d)).put θ
 | 0,_=>by
  obtain⟨G,hG,R,h⟩:=hk 9 (by omega);rw[k_at (by omega),show 9-0+1=10 from FV,gX];refine Nc (En.st o) _ _ 1000 _ _ (by have:=o.wl (9-0);omega) (λi hi=>.inl (o.op i (zv hi))) (λG k R hG h=>?_) G (κ 9) R hG h;have d9:D.db 9=false:=o.db 9 (by omega);rw[show D.db (9-0)=false from d9];have h:HT G (dT (D.db 9) (D.b 9)) k R:=h;rw[d9] at h;exact he G k R hG h
 | d+1,hd=>by
  obtain⟨θ,e⟩:=kinds_inv o he hk d (by omega);obtain⟨G,hG,R,h⟩:=hk (9-(d+1)) (by omega);rw[show 9-d=9-(d+1)+1 by omega] at e;rw[k_at (by omega)];refine Nc (En.st o) _ _ (10*(9-(d+1)+1)) _ _ (by have:=o.wl (9-(d+1));omega) (λi hi=>.inl ?_) (λG k R hG h=>⟨θ,?_⟩) G _ R hG h
  ·have:=qm o (10-(9-(d+1)+1)) (by omega) i (by rw[show 10-(10-(9-(d+1)+1))=9-(d+1)+1 by omega];exact zv hi);omega
  ·rw[uk (by omega) (by split<;>omega) hG h,e];unfold dK
   split<;>rfl
def round_no (o:D.Ok){back:Nat}(hb:5<=back)(hb9:back<=9)(he:D.e=.nm (D.x back))(hw:∃j,back<=j/\j<=9/\D.ws j≠[])(hk:∀j,j<=9->∃G,D.En κ (if j<=4 then 0 else 5) G/\∃R',HT G (D.t j) (κ j) R'):False:=by
 have up:∀j,5<=j->j<=9->∀m,(∀G k R,D.En κ 5 G->HT G (D.b j) k R->m<=k.sz)->m+(D.ws j).length<=(κ j).sz:=λj j5 j9 m hm=>by
  obtain⟨G,hG,R,h⟩:=hk j j9;rw[XX (by omega)] at hG;refine Di (En.st o) _ _ m _ (λG k R hG h=>?_) G _ R hG h;rw[o.db j (by omega)] at h;exact hm G k R hG h
 have key:∀d,back+d<=9->(κ back).sz<=(κ (9-d)).sz/\((∃j,9-d<=j/\j<=9/\D.ws j≠[])->(κ back).sz<(κ (9-d)).sz):=by
  intro d
  induction d with
  | zero=>
   intro _;have:=up 9 (by omega) (by omega) (κ back).sz λG k R hG h=>by
    unfold Dk.b at h;rw[XY FV,he] at h
    cases h with
    | mk x y=>
     cases x with
     | nm hx=>rw[hG back hb hb9] at hx;rw[YH hx];exact XE _
   refine⟨by show _<=(κ 9).sz;omega,λ⟨j,j1,j2,j3⟩=>?_⟩;have:j=9:=by omega
   subst this;have:=FJ.mpr j3;show _<(κ 9).sz;omega
  | succ d ih=>
   intro hd;obtain⟨i1,i2⟩:=ih (by omega);have:=up (9-(d+1)) (by omega) (by omega) (κ (9-d)).sz λG k R hG h=>by
    unfold Dk.b at h;rw[XX (by omega)] at h
    cases h with
    | mk x y=>
     cases x with
     | nm hx=>rw[hG _ (by omega) (by omega),show 9-(d+1)+1=9-d by omega] at hx;rw[YH hx];exact XE _
   refine⟨by omega,λ⟨j,j1,j2,j3⟩=>?_⟩;by_cases c:j=9-(d+1)
   ·subst c;have:=FJ.mpr j3;omega
   ·have:=i2 ⟨j,by omega,j2,j3⟩;omega
 obtain⟨j,j1,j2,j3⟩:=hw;have:=(key (9-back) (by omega)).2 ⟨j,by omega,j2,j3⟩;rw[show 9-(9-back)=back by omega] at this;exact BJ _ this
def ql (o:D.Ok)(hs:s=9\/s=4)(hr:r<5)(κ:Nat->Kd)(G1:Ev)(hG:∀j,s-4<=j->j<=s->G1 (D.x j)=some (κ j))(hO:∀y,(∀j,s-4<=j->j<=s->D.x j≠y)->G1 y=G y)(ht:∀j,s-4<=j->j<=s->∃R',HT G1 (D.t j) (κ j) R'){Rb:List Kd}(hb:HT G1 b k Rb):
  ∃R,HT G (D.lt s r b) k R:=by
 have e:bnd (Wn λi:Fin 5=>D.x (s-(i.val+r)%5)) ((List.finRange 5).map λi=>κ (s-(i.val+r)%5)) G=G1:=by
  funext y
  by_cases c:∃i:Fin 5,D.x (s-(i.val+r)%5)=y
  ·obtain⟨i,rfl⟩:=c;rw[Mx (ks:=λi:Fin 5=>κ (s-(i.val+r)%5)) (uP o hs hr) i,hG _ (by omega) (by omega)]
  ·rw[Et λi z=>c ⟨i,z⟩,hO y λj j1 j2 z=>by obtain⟨i,rfl⟩:=ix hs hr j1 j2;exact c ⟨i,z⟩]
 obtain⟨rs,h⟩:=uA (f:=λi:Fin 5=>(bnd (Wn λi:Fin 5=>D.x (s-(i.val+r)%5)) ((List.finRange 5).map λi=>κ (s-(i.val+r)%5)) G,D.t (s-(i.val+r)%5),κ (s-(i.val+r)%5))) (l:=List.finRange 5) λi _=>by
  show ∃R,HT (bnd _ _ G) (D.t (s-(i.val+r)%5)) (κ (s-(i.val+r)%5)) R;rw[e];exact ht _ (by omega) (by omega)
 exact⟨_,.mk (.lt (ks:=λi=>κ (s-(i.val+r)%5))) (h.app (.mk1 (by rw[e];exact hb)))⟩
def whole_mk (o:D.Ok){r1 r2:Nat}(h1:r1<5)(h2:r2<5)(he:∀G,D.En D.k 5 G->∃R,HT G D.e D.ek R):∃R,HT G0 (D.whole r1 r2) (D.k 0) R:=by
 have tk:∀j,j<=9->∀G,D.En D.k (if j<=4 then 0 else 5) G->∃R,HT G (D.t j) (D.k j) R:=λj j9=>by
  rw[k_at j9];refine D7 (En.st o) _ _ _ _ λG hG=>?_;have bk:∃R,HT G (D.b j) (D.k (j+1)) R:=by
   unfold Dk.b;by_cases c:j=9
   ·subst c;rw[XY rfl];exact he G hG
   ·rw[XX c];exact⟨_,.mk (.nm (hG (j+1) (by split<;>omega) (by omega))) .nil⟩
  obtain⟨R,bk⟩:=bk;unfold dT dK
  cases D.db j with
  | false=>exact⟨R,bk⟩
  | true=>exact⟨_,.mk .pair (.mk2 bk bk)⟩
 obtain⟨Ga,a1,a2⟩:∃Ga:Ev,(∀j,5<=j->j<=9->Ga (D.x j)=some (D.k j))/\∀y,(∀j,5<=j->j<=9->D.x j≠y)->Ga y=G0 y:=by
  refine⟨bnd (Wn λi:Fin 5=>D.x (9-(i.val+0)%5)) ((List.finRange 5).map λi=>D.k (9-(i.val+0)%5)) G0,λj j1 j2=>?_,λy hy=>Et λi=>hy _ (by omega) (by omega)⟩;obtain⟨i,rfl⟩:=ix (s:=9) (r:=0) (.inl FV) (by decide) j1 j2;exact Mx (ks:=λi:Fin 5=>D.k (9-(i.val+0)%5)) (uP o (.inl FV) (by decide)) i
 obtain⟨Gb,b1,b2⟩:∃Gb:Ev,(∀j,0<=j->j<=4->Gb (D.x j)=some (D.k j))/\∀y,(∀j,0<=j->j<=4->D.x j≠y)->Gb y=Ga y:=by
  refine⟨bnd (Wn λi:Fin 5=>D.x (4-(i.val+0)%5)) ((List.finRange 5).map λi=>D.k (4-(i.val+0)%5)) Ga,λj j1 j2=>?_,λy hy=>Et λi=>hy _ (by omega) (by omega)⟩;obtain⟨i,rfl⟩:=ix (s:=4) (r:=0) (.inr FV) (by decide) (by omega) j2;exact Mx (ks:=λi:Fin 5=>D.k (4-(i.val+0)%5)) (uP o (.inr FV) (by decide)) i
 have gb:D.En D.k 0 Gb:=λj _ h9=>by
  by_cases c:j<=4
  ·exact b1 j (by omega) c
  ·rw[b2 _ λi i1 i2 e=>by have:=o.inj i j (by omega) h9 e;omega];exact a1 j (by omega) h9
 obtain⟨R1,q1⟩:=ql (G:=Ga) o (.inr FV) h1 D.k Gb (λj j1 j2=>b1 j (by omega) j2) (λy hy=>b2 y λj j1 j2=>hy j (by omega) j2) (λj j1 j2=>tk j (by omega) Gb (by rw[XY j2];exact gb)) (.mk (.nm (b1 0 (by omega) (by omega))) .nil);exact ql (G:=G0) o (.inl FV) h2 D.k Ga (λj j1 j2=>a1 j (by omega) j2) (λy hy=>a2 y λj j1 j2=>hy j (by omega) j2) (λj j1 j2=>tk j (by omega) Ga (by rw[XX (by omega)];exact λi i1 i2=>a1 i i1 i2)) q1
end
end Dk
end Fn
namespace K27
open PySem PySem.Spec PyProof.Rows L2 WL Fn
def sQ {l m:List Nat}{n:Nat}(h:ext [] (l++m)=List.range n):∃n',ext [] l=List.range n':=by
 rw[Sb] at h;obtain⟨e,h2,_⟩:=Qj (l:=m) (acc:=ext [] l);rw[h2] at h;refine⟨(ext [] l).length,?_⟩;have:=congrArg (List.take (ext [] l).length) h;rw[List.take_left] at this;have hl:=congrArg List.length h;rw[BA,BU] at hl;refine this.trans ?_;rw[List.take_range];congr 1;omega
def z0 {t:Tr}{R:List Kd}{K0:Kd}(hb:zJ t R)(hi:∀k R,HT G0 t k R->∃θ,k=K0.put θ)(hm:∃R,HT G0 t K0 R){k:Kd}{R':List Kd}(eR:R=k::R'):k=nk (ext [] K0.ops) K0:=by
 subst eR;obtain⟨k1,h1⟩:=hb.is;obtain⟨R0,h0⟩:=hm;obtain⟨θ2,e2⟩:=hb.wide K0 R0 h0;obtain⟨_,e0⟩:=h0.head;obtain⟨_,e1⟩:=h1.head;have ek:k=k1:=by injection e1
 subst ek;have e2:K0=k.put θ2:=by rw[e0] at e2;injection e2
 obtain⟨θ1,e3⟩:=hi k _ h1;obtain⟨n,hn⟩:=hb.num;rw[YI,FN] at hn;obtain⟨n',hn⟩:=sQ hn;have back:(K0.put θ1).put θ2=K0:=by rw[<-e3];exact e2.symm
 have pb:=Od K0 back;let f:Nat->Nat:=λi=>match θ1 i with | .op j=>j | _=>0
 have fo:∀i∈K0.ops,θ1 i=.op (f i)/\θ2 (f i)=.op i:=λi hi=>by
  obtain⟨j,a,b⟩:=pb i hi;have:f i=j:=by show(match θ1 i with | .op j=>j | _=>0)=j;rw[a]
  rw[this];exact⟨a,b⟩
 have inj:∀a∈K0.ops,∀b∈K0.ops,f a=f b->a=b:=λa ha b hb e=>by
  have x:=(fo a ha).2;rw[e,(fo b hb).2] at x;injection x with x
  exact x.symm
 have eo:k.ops=K0.ops.map f:=by rw[e3];exact Mp K0 λi hi=>(fo i hi).1
 have em:(ext [] K0.ops).map f=List.range n':=by
  rw[<-hn,eo];exact(Ee (acc:=[]) (l:=K0.ops) (f:=f) λa ha b hb=>inj a (by simpa using ha) b (by simpa using hb)).symm
 rw[e3];refine V5 K0 λi hi=>?_;rw[(fo i hi).1];congr 1;have im:i∈ext [] K0.ops:=G9.mpr (.inr hi);have hl:(ext [] K0.ops).idxOf i<(ext [] K0.ops).length:=List.idxOf_lt_length_of_mem im;have g:=congrArg (λl:List Nat=>l[(ext [] K0.ops).idxOf i]?) em;have ge:(ext [] K0.ops)[(ext [] K0.ops).idxOf i]?=some i:=by rw[BG hl,List.getElem_idxOf hl]
 have hl2:(ext [] K0.ops).idxOf i<n':=by have:=congrArg List.length em;rw[XI,BU] at this;omega
 simp only[List.getElem?_map,ge,Option.map_some,List.getElem?_range hl2] at g;exact YH g
def Ce.mono:∀{m n:Nat} {bs:List Str} {t:Tr},m<=n->Ce m bs t->Ce n bs t
 | 0,_,_,_,_,h=>h.elim
 | m+1,0,_,_,h,_=>absurd h (Nat.not_succ_le_zero _)
 | m+1,n+1,bs,t,h,q=>⟨q.1,q.2.1,λz hz=>Ce.mono (ES h) (q.2.2 z hz)⟩
def Wh {m:Nat}{bs:List Str}{t:Tr}(h:t.scs=[])(h1:∀x,t=.nm x->x∈bs)(h2:i3 t):Ce (m+1) bs t:=⟨h1,h2,λz hz=>by rw[h] at hz;cases hz⟩
def Bj {bs:List Str}:∀(ws:List Nat) (a m:Nat) (t:Tr),(∀bs',(∀x∈bs,x∈bs')->Ce (m+1) bs' t)->∀bs',(∀x∈bs,x∈bs')->Ce (m+1+ws.length) bs' (lT ws a t)
 | [],_,_,_,h=>h
 | w::ws,a,m,t,h=>by
  rw[YF,show m+1+(ws.length+1)=m+1+1+ws.length by omega];refine Bj ws (a+1) (m+1) (wT w a t) λbs' hb=>?_
  match w with
  | 0=>
   refine⟨λx e=>(by cases e),.inr FV,λz hz=>?_⟩;simp only[wT,Tr.scs,List.mem_cons,List.not_mem_nil,or_false] at hz
   rcases hz with rfl | rfl
   ·exact h _ λx hx=>BE _ (hb x hx)
   ·exact Wh FV (λx e=>by cases e) trivial
  | 1=>
   refine⟨λx e=>(by cases e),.inr FV,λz hz=>?_⟩;simp only[wT,Tr.scs,List.mem_cons,List.not_mem_nil,or_false] at hz
   rcases hz with rfl | rfl
   ·exact Wh FV (λx e=>by cases e) (.inr (.inl FV))
   ·exact h _ λx hx=>BE _ (hb x hx)
  | 2=>
   refine⟨λx e=>(by cases e),.inl FV,λz hz=>?_⟩;simp only[wT,Tr.scs,List.mem_cons,List.not_mem_nil,or_false] at hz
   rcases hz with rfl | rfl
   ·exact h _ λx hx=>BE _ (hb x hx)
   ·exact Wh FV (λx e=>by cases e) (.inr (.inr FV))
  | w+3=>
   refine⟨λx e=>(by cases e),trivial,λz hz=>?_⟩;simp only[wT,Tr.scs,List.mem_cons,List.not_mem_nil,or_false] at hz;subst hz;exact h _ λx hx=>BE _ (hb x hx)
structure Bg (t:Tr)(s c:Nat):Prop where
 s:t.size<=s
 c:t.cost<=c
 l:t.lok
def Bl:∀(ws:List Nat) (a s c:Nat) (t:Tr),Bg t s c->Bg (lT ws a t) (s+2*ws.length) (c+6*ws.length)
 | [],_,_,_,_,h=>h
 | w::ws,a,s,c,t,h=>by
  rw[YF,show s+2*(ws.length+1)=s+2+2*ws.length by omega,show c+6*(ws.length+1)=c+6+6*ws.length by omega];refine Bl ws (a+1) (s+2) (c+6) (wT w a t) ?_;have h1:=h.s;have h2:=h.c
  match w with
  | 0=>exact⟨by show 1+(t.size+1)<=_;omega,by show 3+(t.cost+3)<=_;omega,h.l,trivial⟩
  | 1=>exact⟨by show 1+(1+t.size)<=_;omega,by show 3+(3+t.cost)<=_;omega,trivial,h.l⟩
  | 2=>exact⟨by show 1+(t.size+1)<=_;omega,by show 3+(t.cost+3)<=_;omega,h.l,trivial⟩
  | w+3=>exact⟨by show 1+t.size<=_;omega,by show 3+t.cost<=_;omega,h.l⟩
def mW {f:Fin 5->Nat}{b:Nat}(h:∀i,f i<=b):((List.finRange 5).map f).sum<=5*b:=by
 rw[show List.finRange 5=[0,1,2,3,4] from rfl];have:=h 0;have:=h 1;have:=h 2;have:=h 3;have:=h 4;simp only[List.map_cons,List.map_nil,List.sum_cons,List.sum_nil];omega
section
variable {D:Dk}{s r r1 r2:Nat}{b:Tr}
def nD (o:D.Ok)(he:Bg D.e 1 3)(j:Nat):Bg (D.t j) 13 39:=by
 have hb:Bg (D.b j) 1 3:=by
  unfold Dk.b
  split
  ·exact he
  ·exact⟨XE _,XE _,trivial⟩
 have hd:Bg (dT (D.db j) (D.b j)) 3 9:=by
  have h1:=hb.s;have h2:=hb.c;unfold dT
  split
  ·exact⟨by show 1+(_+_)<=_;omega,by show 3+(_+_)<=_;omega,hb.l,hb.l⟩
  ·exact⟨by omega,by omega,hb.l⟩
 have h:=Bl (D.ws j) (10*j) 3 9 _ hd;have wl:=o.wl j;exact⟨XN h.s (by omega),XN h.c (by omega),h.l⟩
def qx (o:D.Ok)(he:Bg D.e 1 3){sz c:Nat}(hb:Bg b sz c):Bg (D.lt s r b) (66+sz) (200+c):=by
 have h1:=mW (f:=λi:Fin 5=>(D.t (s-(i.val+r)%5)).size) λi=>(nD o he _).s;have h2:=mW (f:=λi:Fin 5=>(D.t (s-(i.val+r)%5)).cost) λi=>(nD o he _).c;have h3:=hb.s;have h4:=hb.c;refine⟨?_,?_,ZNB FV,λi=>(nD o he _).l,hb.l⟩
 ·show 1+(((List.finRange 5).map λi:Fin 5=>(D.t (s-(i.val+r)%5)).size).sum+b.size)<=_;omega
 ·show 5+(((List.finRange 5).map λi:Fin 5=>(D.t (s-(i.val+r)%5)).cost).sum+b.cost)<=_;omega
def uj (o:D.Ok)(he:Bg D.e 1 3):Bg (D.whole r1 r2) 133 403:=qx o he (qx o he (b:=.nm (D.x 0)) ⟨XE _,XE _,trivial⟩)
def ie (o:D.Ok){j:Nat}(hj:j<=9){bs:List Str}(he:∀bs,(∀j,5<=j->j<=9->D.x j∈bs)->Ce 1 bs D.e)(h:∀i,(if j<=4 then 1 else 5)<=i->i<=9->D.x i∈bs):Ce 7 bs (D.t j):=by
 refine Ce.mono (m:=1+1+(D.ws j).length) (by have:=o.wl j;omega) (Bj (bs:=bs) _ _ 1 _ (λbs' hb=>?_) bs λ_ h=>h);have hbs:Ce 1 bs' (D.b j):=by
  unfold Dk.b;by_cases c:j=9
  ·rw[XY c];exact he _ λi i1 i2=>hb _ (h i (by split<;>omega) i2)
  ·rw[XX c];exact Wh FV (λx e=>by cases e;exact hb _ (h _ (by split<;>omega) (by omega))) trivial
 have hbs2:∀bs'',(∀x∈bs',x∈bs'')->Ce 1 bs'' (D.b j):=λbs'' hb''=>by
  unfold Dk.b;by_cases c:j=9
  ·rw[XY c];exact he _ λi i1 i2=>hb'' _ (hb _ (h i (by split<;>omega) i2))
  ·rw[XX c];exact Wh FV (λx e=>by cases e;exact hb'' _ (hb _ (h _ (by split<;>omega) (by omega)))) trivial
 unfold dT
 split
 ·refine⟨λx e=>(by cases e),.inr FV,λz hz=>?_⟩;simp only[Tr.scs,List.mem_cons,List.not_mem_nil,or_false] at hz
  rcases hz with rfl | rfl<;>exact hbs2 _ λx hx=>BE _ hx
 ·exact Ce.mono (by decide) hbs
def wU (hs:s=9\/s=4)(hr:r<5){j:Nat}(h1:s-4<=j)(h2:j<=s):D.x j∈Wn λi:Fin 5=>D.x (s-(i.val+r)%5):=by
 obtain⟨i,e⟩:=Dk.ix hs hr h1 h2;exact XR.mpr ⟨i,EO i,by rw[e]⟩
def uf (o:D.Ok)(h1:r1<5)(h2:r2<5)(he:∀bs,(∀j,5<=j->j<=9->D.x j∈bs)->Ce 1 bs D.e):Ce 9 [] (D.whole r1 r2):=by
 have inner:∀bs,(∀j,5<=j->j<=9->D.x j∈bs)->Ce 8 bs (D.lt 4 r1 (.nm (D.x 0))):=λbs hb=>by
  refine⟨λx e=>(by cases e),trivial,λz hz=>?_⟩;have all:∀i,i<=9->D.x i∈bs++Wn λi:Fin 5=>D.x (4-(i.val+r1)%5):=λi hi=>by
   by_cases c:i<=4
   ·exact XT _ (wU (.inr FV) h1 (by omega) c)
   ·exact BE _ (hb i (by omega) hi)
  rcases XS.mp hz with hz | hz
  ·obtain⟨i,_,rfl⟩:=XR.mp hz;exact ie o (by omega) he λi _ h9=>all i h9
  ·rw[XQ.mp hz];exact Ce.mono (m:=1) (by decide) (Wh FV (λx e=>by cases e;exact all 0 (by omega)) trivial)
 refine⟨λx e=>(by cases e),trivial,λz hz=>?_⟩;have all:∀i,5<=i->i<=9->D.x i∈[]++Wn λi:Fin 5=>D.x (9-(i.val+r2)%5):=λi h5 h9=>XT _ (wU (.inl FV) h2 h5 h9)
 rcases XS.mp hz with hz | hz
 ·obtain⟨i,_,rfl⟩:=XR.mp hz;refine Ce.mono (m:=7) (by decide) (ie o (by omega) he λi h5 h9=>all i ?_ h9);rw[XX (by omega)] at h5;exact h5
 ·rw[XQ.mp hz];exact inner _ all
def Lq:∀(ws:List Nat) (a m:Nat) (K:Kd),Nk (m+1) K->Nk (m+1+ws.length) (lK ws a K)
 | [],_,_,_,h=>h
 | w::ws,a,m,K,h=>by
  rw[YF,show m+1+(ws.length+1)=m+1+1+ws.length by omega];refine Lq ws (a+1) (m+1) (wK w a K) ?_;have two:∀{g:Str} {p q:Kd},g≠"open"->Nk (m+1) p->Nk (m+1) q->Nk (m+1+1) (.k2 g p q):=λhg hp hq=>⟨hg,λz hz=>by
   simp only[E5,List.mem_cons,List.not_mem_nil,or_false] at hz
   rcases hz with rfl | rfl
   ·exact hp
   ·exact hq⟩
  have k0:∀{g:Str},g≠"open"->Nk (m+1) (.k0 g):=λhg=>⟨hg,λz hz=>by cases hz⟩
  match w with
  | 0=>exact two (by decide) h (k0 (by decide))
  | 1=>exact two (by decide) (k0 (by decide)) h
  | 2=>exact⟨by show(("list":Str):Str)≠"open";decide,λz hz=>by rw[XQ.mp hz];exact h⟩
  | w+3=>exact two (by decide) trivial h
def kt (o:D.Ok)(he:Nk 2 D.ek):∀d,d<=7->Nk (2+5*d) (D.k (10-d))
 | 0,_=>he
 | d+1,hd=>by
  have ih:=kt o he d (by omega);rw[Dk.k_at (by omega),o.db _ (by omega),show 10-(d+1)+1=10-d by omega];have:=Lq (D.ws (10-(d+1))) (10*(10-(d+1))) (1+5*d) (D.k (10-d)) (by rw[show 1+5*d+1=2+5*d by omega];exact ih);exact Oe (by have:=o.wl (10-(d+1));omega) this
def gR {b:Bool}{m:Nat}{K:Kd}(h:Nk m K):Nk (m+1) (dK b K):=by
 unfold dK
 split
 ·exact⟨by show(("pair":Str):Str)≠"open";decide,λz hz=>by
   simp only[E5,List.mem_cons,List.not_mem_nil,or_false] at hz
   rcases hz with rfl | rfl<;>exact h⟩
 ·exact Oe (Nat.le_succ _) h
def ky (o:D.Ok)(he:Nk 2 D.ek):Nk 55 (D.k 0):=by
 have h3:Nk 37 (D.k 3):=kt o he 7 (by decide);have st:∀j m,j<=9->Nk m (D.k (j+1))->Nk (m+6) (D.k j):=λj m hj h=>by
  rw[Dk.k_at hj];exact Oe (by have:=o.wl j;omega) (Lq (D.ws j) (10*j) m _ (gR h))
 exact st 0 49 (by decide) (st 1 43 (by decide) (st 2 37 (by decide) h3))
def D5:∀(ws:List Nat) (a:Nat) (K:Kd),(lK ws a K).ops.length<=K.ops.length+ws.length
 | [],_,_=>XE _
 | w::ws,a,K=>by
  have:=D5 ws (a+1) (wK w a K);have h:(wK w a K).ops.length<=K.ops.length+1:=by
   match w with
   | 0=>show(K.ops++[]).length<=_;rw[YK];omega
   | 1=>show([]++K.ops).length<=_;rw[FU];omega
   | 2=>exact Nat.le_succ _
   | w+3=>show([a]++K.ops).length<=_;rw[BA,BF];omega
  rw[YF];show(lK ws (a+1) (wK w a K)).ops.length<=_;omega
def ki (o:D.Ok)(he:D.ek.ops.length<=1):∀d,d<=10->(D.k (10-d)).ops.length+5<=6*2^d
 | 0,_=>by show D.ek.ops.length+5<=6;omega
 | d+1,hd=>by
  have ih:=ki o he d (by omega);rw[Dk.k_at (by omega),show 10-(d+1)+1=10-d by omega];have:=D5 (D.ws (10-(d+1))) (10*(10-(d+1))) (dK (D.db (10-(d+1))) (D.k (10-d)));have wl:=o.wl (10-(d+1));have dl:(dK (D.db (10-(d+1))) (D.k (10-d))).ops.length<=2*(D.k (10-d)).ops.length:=by
   unfold dK
   split
   ·show((D.k (10-d)).ops++(D.k (10-d)).ops).length<=_;rw[BA];omega
   ·omega
  rw[Nat.pow_succ];omega
end
def gS {m:Nat}(h:Nat.ble m 1000=true:=by rfl):m<=sizeLine:=Yy (XN (Nat.le_of_ble_eq_true h) (by decide))
def cA (cs:List Int)(j:Nat):Int:=cs.getD j 0
def Ni {cs:List Int}{j:Nat}(hl:cs.length=11)(hj:j<11):Oq (cs.map T.int) (j:Int)=some (.int (cA cs j)):=Y8 (by rw[XM,BG (by omega)];unfold cA;rw[List.getD_eq_getElem?_getD,BG (by omega)];rfl)
abbrev nQ:Str:="abcdefghijklmnopqrstuvwxyz"
def ic (cs:List Int):Nat:=nQ.cps.toList.getD (cA cs 10/100%26).toNat 0
def sN (k:Nat):Str:=toString (k:Int)
def xN (cs:List Int)(k:Nat):Str:=⟨#[ic cs]⟩++sN k
def fN:nQ.cps.toList.length=26:=by decide+kernel
def iu {cs:List Int}:Oq nQ.cps.toList (cA cs 10/100%26)=some (ic cs):=by
 have h0:0<=cA cs 10/100%26:=YO _ (by decide);have h1:cA cs 10/100%26<26:=BW _ (by decide);have e:cA cs 10/100%26=(((cA cs 10/100%26).toNat:Nat):Int):=by omega
 rw[e];refine Y8 ?_;unfold ic;rw[List.getD_eq_getElem?_getD];rw[BG (by rw[fN];omega)];rfl
def qZ:∀k:Fin 11,((k.val:Int)).natAbs.log2<1920/\(sN k.val).length<=2:=by decide+kernel
def lD:∀k:Fin 10,(sN k.val).cps.toList=[48+k.val]:=by decide+kernel
def B4 {cs:List Int}{k:Nat}(hk:k<=9):(xN cs k).cps.toList=[ic cs,48+k]:=by
 have h:=lD ⟨k,by omega⟩;have e:(xN cs k).cps.toList=[ic cs]++(sN k).cps.toList:=Array.toList_append ..;rw[e,h];rfl
def qF {cs:List Int}:∀i j,i<=9->j<=9->xN cs i=xN cs j->i=j:=λi j hi hj e=>by
 have:=congrArg (λs:Str=>s.cps.toList) e;simp only[B4 hi,B4 hj,List.cons.injEq,and_true,true_and] at this;omega
def hJ {cs:List Int}:∀i,i<=9->xN cs i≠"y":=λi hi e=>by
 have h:=congrArg (λs:Str=>s.cps.toList.length) e;have h:(xN cs i).cps.toList.length=1:=h;rw[B4 hi] at h;exact absurd h (by show ¬(2=1);decide)
section
variable {C:Hw}{Q:WK}{χ:WX}{n:Nat}{a:WP}{cs:List Int}
def Qe {k:Nat}(hl:cs.length=11)(hk:k<=10)(ha:C a=some (.lst (cs.map T.int)))(q:Q (.str (xN cs k)) C):J8 pr (n+1) Kg [.ref a,nT k] C Q χ:=by
 refine M8 FV ?_;unfold V8 Uq;obtain⟨h1,h2⟩:=qZ ⟨k,by omega⟩;refine⟨_,FV,_,_,ha,Ni (j:=10) hl (by decide),⟨by decide,by decide⟩,by decide,by decide+kernel,_,iu,_,FV,.inl ⟨_,FV,h1,Yy (XN (FI h2 _) (ZNB FV)),q⟩⟩
def mA (cs:List Int)(k:Nat):Int:=cA cs k%(if cA cs 10%8=3 then 6 else 4)
def oy {k:Nat}:0<=mA cs k/\mA cs k<=5:=by
 unfold mA
 split
 ·have:=YO (cA cs k) (show(6:Int)≠0 by decide);have:=BW (cA cs k) (show(0:Int)<6 by decide);omega
 ·have:=YO (cA cs k) (show(4:Int)≠0 by decide);have:=BW (cA cs k) (show(0:Int)<4 by decide);omega
def xS {k:Nat}(hl:cs.length=11)(hk:k<=9)(ha:C a=some (.lst (cs.map T.int)))(q:Q (.int (mA cs k)) C):J8 pr (n+1) Cq [.ref a,nT k] C Q χ:=by
 refine Dd FV ?_;unfold Rg R9;unfold mA at q;by_cases c:cA cs 10%8=3
 ·rw[XY c] at q;refine⟨_,FV,_,_,ha,Ni (j:=10) hl (by decide),by decide,Pa (v:=true) (by rw[c];rfl) ⟨_,FV,Yi ?_⟩⟩;exact⟨_,FV,_,FV,_,_,ha,Ni hl (by omega),_,FV,by decide,q⟩
 ·rw[XX c] at q;refine⟨_,FV,_,_,ha,Ni (j:=10) hl (by decide),by decide,Pa (v:=false) (beq_eq_false_iff_ne.mpr c) ⟨_,FV,Zk ?_⟩⟩;exact⟨_,FV,_,FV,_,_,ha,Ni hl (by omega),_,FV,by decide,q⟩
def qW {w at_:Nat}{t:Tr}{k:Kd}(hw:w<4)(q:Q (.tup [tt (wT w at_ t),Jr (wK w at_ k)]) C):J8 pr (n+1) Co [nT w,tt t,Jr k,nT at_] C Q χ:=by
 refine Db FV ?_;unfold Re Rz
 match w,hw with
 | 0,_=>
  refine⟨_,FV,Pa (v:=true) FV ⟨_,FV,Yi ?_⟩⟩;exact⟨_,FV,_,FV,gS,gS,gS,_,FV,gS,gS,gS,q⟩
 | 1,_=>
  refine⟨_,FV,Pa (v:=false) FV ⟨_,FV,Zk ?_⟩⟩;refine⟨_,FV,Pa (v:=true) FV ⟨_,FV,Yi ?_⟩⟩;exact⟨gS,gS,_,FV,gS,gS,gS,_,FV,gS,gS,q⟩
 | 2,_=>
  refine⟨_,FV,Pa (v:=false) FV ⟨_,FV,Zk ?_⟩⟩;refine⟨_,FV,Pa (v:=false) FV ⟨_,FV,Zk ?_⟩⟩;refine⟨_,FV,Pa (v:=true) FV ⟨_,FV,Yi ?_⟩⟩;exact⟨_,FV,gS,gS,gS,gS,_,FV,gS,gS,q⟩
 | 3,_=>
  refine⟨_,FV,Pa (v:=false) FV ⟨_,FV,Zk ?_⟩⟩;refine⟨_,FV,Pa (v:=false) FV ⟨_,FV,Zk ?_⟩⟩;refine⟨_,FV,Pa (v:=false) FV ⟨_,FV,Zk ?_⟩⟩;exact⟨_,FV,gS,_,FV,gS,_,FV,gS,gS,q⟩
def Kz (cs:List Int):Int:=cA cs 10/8%6
def Ry (cs:List Int):Nat:=if Kz cs>3 then 5+(cA cs 10/48%5).toNat else 10
def eE (cs:List Int):Tr:=if Kz cs>3 then .nm (xN cs (Ry cs)) else if Kz cs=0 then .num (cA cs 10%10^(18:Int).toNat) else if Kz cs=1 then .sh0 "Yes" else if Kz cs=2 then .sh0 "Nil" else .stop "word"
def Bb (cs:List Int):Kd:=if Kz cs>3 then .op 1000000 else if Kz cs=0 then Ib else if Kz cs=1 then Fe else if Kz cs=2 then Nb (.op 1000000) else .op 1000000
def qf (hl:cs.length=11)(ha:C a=some (.lst (cs.map T.int)))(q:∀C',Ex C C'->Q (.tup [tt (eE cs),Jr (Bb cs),nT (Ry cs)]) C'):J8 pr (n+2) zb [.ref a] C Q χ:=by
 refine B8 FV ?_;unfold Q1 Pm;have e6:(10:Int)^(6:Int).toNat=((1000000:Nat):Int):=by decide
 refine⟨_,FV,_,_,ha,Ni (j:=10) hl (by decide),⟨by decide,by decide⟩,by decide,_,FV,?_⟩;have h0:0<=Kz cs:=YO _ (by decide);have h1:Kz cs<6:=BW _ (by decide);by_cases c:Kz cs>3
 ·refine⟨_,FV,Nt (decide_eq_true c) ?_⟩;refine⟨_,FV,_,_,ha,Ni (j:=10) hl (by decide),⟨by decide,by decide⟩,by decide,?_⟩;have b0:0<=cA cs 10/48%5:=YO _ (by decide);have b1:cA cs 10/48%5<5:=BW _ (by decide);have be:Ry cs=5+(cA cs 10/48%5).toNat:=XY c;obtain⟨b,hb⟩:∃b:Nat,cA cs 10/48%5=(b:Int):=⟨(cA cs 10/48%5).toNat,by omega⟩;have be:Ry cs=5+b:=by rw[be,hb];rfl
  rw[hb];refine⟨_,FV,_,FV,?_⟩;dsimp only[Zw];refine Qe (k:=5+b) hl (by omega) ha ?_;refine⟨gS,⟨by decide,by decide,by decide⟩,?_⟩;rw[e6];refine⟨gS,_,FV,gS,?_⟩;have:=q C (Ex.refl _);unfold eE Bb at this;rw[XY c,XY c,be] at this;exact this
 ·refine⟨_,FV,Qw (YG c) ?_⟩;refine⟨_,FV,_,_,ha,Ni (j:=10) hl (by decide),⟨by decide,by decide,by decide⟩,by decide,?_⟩;refine⟨gS,gS,gS,gS,gS,gS,gS,λp1 hp1=>?_⟩;refine⟨gS,gS,⟨by decide,by decide,by decide⟩,?_⟩;rw[e6];refine⟨gS,gS,⟨by decide,by decide,by decide⟩,?_⟩;rw[e6];refine⟨gS,gS,λp2 hp2=>?_⟩;have n12:p1≠p2:=λe=>by rw[<-e,Ze] at hp2;cases hp2
  have x2:=(Ex.new (o:=.lst [T.tup [.str "number",.int (cA cs 10%10^(18:Int).toNat)],.tup [.str "shape",.str "Yes",.tup []],.tup [.str "shape",.str "Nil",.tup []],.tup [.str "stop",.str "word"]]) hp1).trans (Ex.new (o:=.lst [T.tup [.str "num"],.tup [.str "truth"],.tup [.str "list",.tup [.str "open",nT 1000000]],.tup [.str "open",nT 1000000]]) hp2);have q:=q _ x2;unfold eE Bb Ry at q;rw[XX c,XX c,XX c] at q;have P1:up (up C p1 (.lst [T.tup [.str "number",.int (cA cs 10%10^(18:Int).toNat)],.tup [.str "shape",.str "Yes",.tup []],.tup [.str "shape",.str "Nil",.tup []],.tup [.str "stop",.str "word"]])) p2 (.lst [T.tup [.str "num"],.tup [.str "truth"],.tup [.str "list",.tup [.str "open",nT 1000000]],.tup [.str "open",nT 1000000]]) p1=_:=(Zf n12).trans Ze;have P2:up (up C p1 (.lst [T.tup [.str "number",.int (cA cs 10%10^(18:Int).toNat)],.tup [.str "shape",.str "Yes",.tup []],.tup [.str "shape",.str "Nil",.tup []],.tup [.str "stop",.str "word"]])) p2 (.lst [T.tup [.str "num"],.tup [.str "truth"],.tup [.str "list",.tup [.str "open",nT 1000000]],.tup [.str "open",nT 1000000]]) p2=_:=Ze;generalize up (up C p1 (.lst [T.tup [.str "number",.int (cA cs 10%10^(18:Int).toNat)],.tup [.str "shape",.str "Yes",.tup []],.tup [.str "shape",.str "Nil",.tup []],.tup [.str "stop",.str "word"]])) p2 (.lst [T.tup [.str "num"],.tup [.str "truth"],.tup [.str "list",.tup [.str "open",nT 1000000]],.tup [.str "open",nT 1000000]])=C2 at*;have ways:Kz cs=((0:Nat):Int)\/Kz cs=((1:Nat):Int)\/Kz cs=((2:Nat):Int)\/Kz cs=((3:Nat):Int):=by omega
  rcases ways with w | w | w | w
  ·rw[w] at q;refine⟨_,FV,_,FV,_,_,P1,(by rw[show cA cs 10/8%6=_ from w];exact Y8 FV),_,FV,_,FV,_,_,P2,(by rw[show cA cs 10/8%6=_ from w];exact Y8 FV),gS,?_⟩;exact q
  ·rw[w] at q;refine⟨_,FV,_,FV,_,_,P1,(by rw[show cA cs 10/8%6=_ from w];exact Y8 FV),_,FV,_,FV,_,_,P2,(by rw[show cA cs 10/8%6=_ from w];exact Y8 FV),gS,?_⟩;exact q
  ·rw[w] at q;refine⟨_,FV,_,FV,_,_,P1,(by rw[show cA cs 10/8%6=_ from w];exact Y8 FV),_,FV,_,FV,_,_,P2,(by rw[show cA cs 10/8%6=_ from w];exact Y8 FV),gS,?_⟩;exact q
  ·rw[w] at q;refine⟨_,FV,_,FV,_,_,P1,(by rw[show cA cs 10/8%6=_ from w];exact Y8 FV),_,FV,_,FV,_,_,P2,(by rw[show cA cs 10/8%6=_ from w];exact Y8 FV),gS,?_⟩;exact q
end
def xE (k:Kd):k.sz=1+((E5 k).map Kd.sz).sum:=by
 cases k with
 | op n=>rfl
 | k0 g=>rfl
 | k1 g a=>show 1+a.sz=1+(a.sz+0);omega
 | k2 g a b=>show 1+(a.sz+b.sz)=1+(a.sz+(b.sz+0));omega
def Fd {k:Kd}{m:Nat}(h:Nk m k):(∃i,k=.op i)\/(Jr k=.tup (.str (sA k)::(E5 k).map Jr)/\(sA k=="open")=false/\∃m',m=m'+1/\∀a∈E5 k,Nk m' a):=by
 cases m with
 | zero=>exact h.elim
 | succ m=>
  cases k with
  | op n=>exact .inl ⟨n,FV⟩
  | k0 g=>exact .inr ⟨FV,beq_eq_false_iff_ne.mpr h.1,m,FV,h.2⟩
  | k1 g a=>exact .inr ⟨FV,beq_eq_false_iff_ne.mpr h.1,m,FV,h.2⟩
  | k2 g a b=>exact .inr ⟨FV,beq_eq_false_iff_ne.mpr h.1,m,FV,h.2⟩
def Oj:∀{m:Nat} {k:Kd},Nk m k->Z6 (Jr k) m=true
 | 0,_,h=>h.elim
 | m+1,.op _,_=>by unfold Jr Z6 Zv Z6 Zv Z6 Zv;rfl
 | m+1,.k0 _,_=>by unfold Jr Z6 Zv Z6 Zv;rfl
 | m+1,.k1 _ a,h=>by
  have:=Oj (h.2 a (XQ.mpr FV));unfold Jr Z6 Zv Z6 Zv Zv;rw[this];rfl
 | m+1,.k2 _ a b,h=>by
  have h1:=Oj (h.2 a (BC ..));have h2:=Oj (h.2 b (XV _ (XQ.mpr FV)));unfold Jr Z6 Zv Z6 Zv Zv Zv;rw[h1,h2];rfl
section
variable {C:Hw}{Q:WK}{χ:WX}{n:Nat}
def gy {k:Kd}{m:Nat}(h:Nk m k)(q:Q (.tup ((E5 k).map Jr)) C):J8 pr (n+1) Kf [Jr k] C Q χ:=by
 refine M7 FV ?_;unfold V7 Up
 rcases Fd h with⟨i,rfl⟩ | ⟨e,ht,_⟩
 ·exact⟨_,FV,_,Yf,Zx (v:=true) (by decide+kernel) ⟨_,FV,Yi ⟨gS,q⟩⟩⟩
 ·rw[e];refine⟨_,FV,_,Yf,Zx (v:=false) ht ⟨_,FV,Zk ⟨_,FV,_,FV,Lc,?_⟩⟩⟩;rw[Th];exact q
def Dj {ps:List Kd}{i:Nat}{a:Kd}(h:ps[i]?=some a):1+((ps.take (i+1)).map Kd.sz).sum=1+((ps.take i).map Kd.sz).sum+a.sz:=by
 rw[YD,h,XL,EA];show 1+(_+(a.sz+0))=_;omega
def xO:∀(m n:Nat) (k:Kd) (C:Hw) {Q:WK} {χ:WX},Nk m k->Q (nT k.sz) C->J8 pr (n+m+1) oN [Jr k] C Q χ
 | 0,_,_,_,_,_,h,_=>h.elim
 | m+1,n,k,C,Q,χ,h,q=>by
  refine qJ (n:=n+m+1) FV ?_;unfold B5 zI;refine⟨_,FV,?_⟩;dsimp only[Zw];refine gy (n:=n+m) h ?_;have hp:∀a∈E5 k,Nk m a:=by
   rcases Fd h with⟨i,rfl⟩ | ⟨_,_,m',e,hp⟩
   ·intro a ha;cases ha
   ·cases e;exact hp
  refine Sa (λi τ C'=>∃v2,τ=[some (Jr k),some (nT (1+(((E5 k).take i).map Kd.sz).sum)),v2]/\C'=C) ⟨_,FV,FV⟩ (λ_ _ _ _ _=>trivial) ?_ ?_
  ·rintro i x τ C1 N hx ⟨v2,rfl,rfl⟩ hN;rw[XM] at hx;obtain⟨a,ha,rfl⟩:∃a,(E5 k)[i]?=some a/\Jr a=x:=by
    cases y:(E5 k)[i]? with
    | none=>rw[y] at hx;cases hx
    | some p=>rw[y] at hx;exact⟨p,FV,YH hx⟩
   refine⟨_,FV,_,FV,?_⟩;dsimp only[Zw];refine xO m n a _ (hp a (BH ha)) ?_;refine hN _ _ ⟨some (Jr a),?_,FV⟩;rw[Dj ha];rfl
  ·rintro τ C1 ⟨v2,rfl,rfl⟩;rw[XI,CC,<-xE];exact⟨_,FV,q⟩
def zS:∀(m n:Nat) (k:Kd) (C:Hw) {Q:WK} {χ:WX},Nk m k->Q (nT k.sz) C->J8 pr (n+m) Cp [Jr k] C Q χ
 | 0,_,_,_,_,_,h,_=>h.elim
 | m+1,n,k,C,Q,χ,h,q=>by
  refine Dc (n:=n+m) FV ?_;unfold Rf R7
  rcases Fd h with⟨i,rfl⟩ | ⟨e,ht,m',e',hp⟩
  ·exact⟨_,FV,_,Yf,k4 (v:=true) (by decide+kernel) ⟨_,FV,Zk ⟨_,FV,q⟩⟩⟩
  ·cases e'
   rw[e];refine⟨_,FV,_,Yf,k4 (v:=false) ht ⟨_,FV,Yi ⟨_,FV,_,FV,Lc,?_⟩⟩⟩;rw[Th];refine Sa (λi τ C'=>∃v2,τ=[some (.tup (.str (sA k)::(E5 k).map Jr)),some (nT (1+(((E5 k).take i).map Kd.sz).sum)),v2]/\C'=C) ⟨_,FV,FV⟩ (λ_ _ _ _ _=>trivial) ?_ ?_
   ·rintro i x τ C1 N hx ⟨v2,rfl,rfl⟩ hN;rw[XM] at hx;obtain⟨a,ha,rfl⟩:∃a,(E5 k)[i]?=some a/\Jr a=x:=by
     cases y:(E5 k)[i]? with
     | none=>rw[y] at hx;cases hx
     | some p=>rw[y] at hx;exact⟨p,FV,YH hx⟩
    refine⟨_,FV,_,FV,?_⟩;dsimp only[Zw];refine zS m n a _ (hp a (BH ha)) ?_;refine hN _ _ ⟨some (Jr a),?_,FV⟩;rw[Dj ha];rfl
   ·rintro τ C1 ⟨v2,rfl,rfl⟩;rw[XI,CC,<-xE];exact⟨_,FV,q⟩
end
def K5 (cs:List Int)(k:Nat):List Nat:=(List.range (mA cs k).toNat).map λj:Nat=>(cA cs k/18/(3*(j:Int)+1)%4).toNat
def Po (cs:List Int):Dk:=⟨xN cs,K5 cs,λk=>decide (k<3)&&decide (cA cs k/6%3=1),eE cs,Bb cs⟩
def M6 {cs:List Int}{k:Nat}:(K5 cs k).length=(mA cs k).toNat:=by unfold K5;rw[XI,BU]
abbrev Nn (cs:List Int)(k:Nat):T:=.tup [.str (xN cs k),tt ((Po cs).t k)]
section
variable {C:Hw}{Q:WK}{χ:WX}{n:Nat}{a:WP}{cs:List Int}
def W3 (P:Calls):WS:=Qn (xU (fc (Zt (X5 P 27 (Zt (Yg 0) (Zt (Yg 4) Zw))) Zw)) (Ig 6) (O8 (X5 P 25 (Zt (Xm uS (Xm xq (Xm xq (Xm Gf (Yg 0) (Yg 4)) (eC (T.int 18))) (Xm E8 (Xm uR (eC (T.int 3)) (Yg 6)) (eC (T.int 1)))) (eC (T.int 4)))
 (Zt (Yg 5) (Zt (Yg 1) (Zt (Xm E8 (Xm uR (eC (T.int 10)) (Yg 4)) (Yg 6)) Zw))))) (kK (Rt (Ig 5) (Rt (Ig 1) Hh))))) (Iy (iP qK Fa (Yg 2) (Zt (Qo (Zt (X5 P 26 (Zt (Yg 0) (Zt (Yg 4) Zw))) (Zt (Yg 5) Zw))) Zw)))
def Gk {D:We}{k:Nat}{K:Kd}{tb:Tr}{e3 v6:Option T}{p:WP}{vs:List T}(hl:cs.length=11)(hk:k<=9)(A3:C a=some (.lst (cs.map T.int)))(P3:C p=some (.lst vs))(hv:vs.length<=20)
  (q:∀v6,D.nx [some (.ref a),some (Jr (lK (K5 cs k) (10*k) K)),some (.ref p),e3,some (nT k),some (tt (lT (K5 cs k) (10*k) tb)),v6] (up C p (.lst (vs++[.tup [.str (xN cs k),tt (lT (K5 cs k) (10*k) tb)]])))):
  W3 (J8 pr (n+2)) D [some (.ref a),some (Jr K),some (.ref p),e3,some (nT k),some (tt tb),v6] C:=by
 unfold W3;refine⟨_,FV,_,FV,?_⟩;dsimp only[Zw];obtain⟨m0,m5⟩:=oy (cs:=cs) (k:=k);refine xS (n:=n+1) hl hk A3 ⟨_,FV,by omega,by omega,?_⟩;refine Sa (λj τ C'=>∃v6,τ=[some (.ref a),some (Jr (lK ((K5 cs k).take j) (10*k) K)),some (.ref p),e3,some (nT k),some (tt (lT ((K5 cs k).take j) (10*k) tb)),v6]/\C'=C) ⟨_,FV,FV⟩ (λ_ _ _ _ _=>trivial) ?_ ?_
 ·rintro j x τ C1 N hx ⟨v6,rfl,rfl⟩ hN;have hj:j<(mA cs k).toNat:=by
   have:=(BB.mp hx).1;simpa[rng] using this
  have hx':(rng 0 (mA cs k).toNat)[j]?=some (T.int (0+(j:Int))):=by unfold rng;rw[XM,DX hj];rfl
  rw[hx] at hx'
  cases hx'
  have ez:(0:Int)+(j:Int)=(j:Int):=by omega
  rw[ez];obtain⟨w,hw⟩:∃w:Nat,cA cs k/18/(3*(j:Int)+1)%4=(w:Int):=⟨(cA cs k/18/(3*(j:Int)+1)%4).toNat,by have:=YO (cA cs k/18/(3*(j:Int)+1)) (show(4:Int)≠0 by decide);omega⟩;have w4:w<4:=by have:=BW (cA cs k/18/(3*(j:Int)+1)) (show(0:Int)<4 by decide);omega
  have gw:(K5 cs k)[j]?=some w:=by unfold K5;rw[XM,DX hj];show some ((cA cs k/18/(3*(j:Int)+1)%4).toNat)=some w;rw[hw];rfl
  refine⟨_,FV,_,FV,_,_,A3,Ni hl (by omega),⟨by decide,by decide⟩,_,FV,?_,⟨by omega,by omega⟩,by decide,_,FV,_,FV,_,FV,?_,_,FV,?_⟩
  ·exact .inl ⟨by decide,by decide⟩
  ·exact .inl ⟨by decide,by decide⟩
  ·dsimp only[Zw];rw[hw];simp only[E8];rw[show(10:Int)*(k:Int)+(j:Int)=((10*k+j:Nat):Int) by omega];refine qW (n:=n+1) w4 ?_;refine⟨_,FV,_,_,FV,_,_,FV,FV,?_⟩;refine hN _ _ ⟨some (nT j),?_,FV⟩;have tl:((K5 cs k).take j).length=j:=by rw[YM,M6];omega
   rw[YD,gw];show _=[_,some (Jr (lK ((K5 cs k).take j++[w]) _ _)),_,_,_,some (tt (lT ((K5 cs k).take j++[w]) _ _)),_];rw[yi,yh,tl];rfl
 ·rintro τ C1 ⟨v6,rfl,rfl⟩;have el:(K5 cs k).take (rng 0 (mA cs k).toNat).length=K5 cs k:=List.take_of_length_le (by rw[M6];unfold rng;simp);rw[el];refine⟨_,FV,⟨_,_,FV,P3⟩,_,FV,_,FV,?_⟩;dsimp only[Zw];refine Qe (n:=n+1) hl (by omega) A3 ⟨_,FV,gS,_,_,_,FV,FV,P3,Yz (by omega),?_⟩;exact q _
def fP (P:Calls):WS:=Qn (qg (iK (jY (Xm gc (Yg 4) (eC (T.int 3)))) (jY (Xm By (Xm uS (Xm xq (Xm Gf (Yg 0) (Yg 4)) (eC (T.int 6))) (eC (T.int 3))) (eC (T.int 1)))))
 (Qn (O8 (Qo (Zt (eC (T.str "shape")) (Zt (eC (T.str "Pair")) (Zt (Qo (Zt (Yg 5) (Zt (Yg 5) Zw))) Zw)))) (Ig 5)) (O8 (Qo (Zt (eC (T.str "pair")) (Zt (Yg 1) (Zt (Yg 1) Zw)))) (Ig 1))) Qt) (W3 P)
def mD {D:We}{k:Nat}{K:Kd}{tb:Tr}{e3 v6:Option T}{p:WP}{vs:List T}(hl:cs.length=11)(hk:k<=9)(A3:C a=some (.lst (cs.map T.int)))(P3:C p=some (.lst vs))(hv:vs.length<=20)
  (q:∀v6,D.nx [some (.ref a),some (Jr (lK (K5 cs k) (10*k) (dK ((Po cs).db k) K))),some (.ref p),e3,some (nT k),some (tt (lT (K5 cs k) (10*k) (dT ((Po cs).db k) tb))),v6] (up C p (.lst (vs++[.tup [.str (xN cs k),tt (lT (K5 cs k) (10*k) (dT ((Po cs).db k) tb))]])))):
  fP (J8 pr (n+2)) D [some (.ref a),some (Jr K),some (.ref p),e3,some (nT k),some (tt tb),v6] C:=by
 unfold fP;by_cases c:k<3
 ·refine⟨_,FV,_,FV,Nt (decide_eq_true (by omega)) ?_⟩;by_cases d:cA cs k/6%3=1
  ·have ed:(Po cs).db k=true:=by show(decide (k<3)&&decide (cA cs k/6%3=1))=true;rw[decide_eq_true c,decide_eq_true d];rfl
   rw[ed] at q;refine⟨_,FV,_,FV,_,_,A3,Ni hl (by omega),⟨by decide,by decide⟩,by decide,Pa (v:=true) (by rw[d];rfl) ⟨_,FV,Yi ?_⟩⟩;refine⟨_,FV,_,FV,gS,gS,_,FV,_,FV,gS,?_⟩;exact Gk (K:=dK true K) (tb:=dT true tb) hl hk A3 P3 hv q
  ·have ed:(Po cs).db k=false:=by show(decide (k<3)&&decide (cA cs k/6%3=1))=false;rw[YG d,Bool.and_false]
   rw[ed] at q;refine⟨_,FV,_,FV,_,_,A3,Ni hl (by omega),⟨by decide,by decide⟩,by decide,Pa (v:=false) (beq_eq_false_iff_ne.mpr d) ⟨_,FV,Zk ?_⟩⟩;exact Gk (K:=dK false K) (tb:=dT false tb) hl hk A3 P3 hv q
 ·have ed:(Po cs).db k=false:=by show(decide (k<3)&&decide (cA cs k/6%3=1))=false;rw[YG c];rfl
  rw[ed] at q;refine⟨_,FV,_,FV,Qw (YG (by omega)) ?_⟩;exact Gk (K:=dK false K) (tb:=dT false tb) hl hk A3 P3 hv q
def n9 {τ:Sw}{i:Nat}(q:Q (nT (i+1)) C):eC (T.int 1) τ C (λy C2=>E8 (nT i) y C2 Q) χ:=q
def tw (hl:cs.length=11)(ha:C a=some (.lst (cs.map T.int)))(q:∀C' p,Ex C C'->C p=none->C' p=some (.lst ((List.range 10).map λi=>Nn cs (9-i)))->Q (.tup [.ref p,Jr ((Po cs).k 0)]) C'):J8 pr (n+3) Fu [.ref a,Jr (Bb cs)] C Q χ:=by
 refine Gh FV ?_;unfold Tu Sh;refine⟨gS,λp hp=>?_⟩;have A1:up C p (.lst []) a=some (.lst (cs.map T.int)):=by rw[Zf (J0 ha hp)];exact ha
 have P1:up C p (.lst []) p=some (.lst []):=Ze;have x1:Ex C (up C p (.lst [])):=Ex.new hp;generalize up C p (.lst [])=C1 at A1 P1 x1;refine⟨_,FV,?_⟩;dsimp only[Zw];refine qf (n:=n) hl A1 λC2 x2=>⟨_,Yf,?_⟩;have npa:p≠a:=(J0 ha hp).symm;refine⟨9,-1,FV,⟨by decide,by decide,by decide,by decide⟩,?_⟩;refine Sa (λi τ C'=>∃v4 v5 v6,τ=[some (.ref a),some (Jr ((Po cs).kd i)),some (.ref p),some (tt (eE cs)),v4,v5,v6]/\Ed p C C'/\C' p=some (.lst ((List.range i).map λi=>Nn cs (9-i)))) ⟨_,_,_,FV,λc w _ h=>x2 _ _ (x1 _ _ h),x2 _ _ P1⟩ (λ_ _ _ _ _=>trivial) ?_ ?_
 ·rintro i x τ C3 N hx ⟨v4,v5,v6,rfl,x3,P3⟩ hN;have hi:i<10:=by
   have:=(BB.mp hx).1;rw[Oc] at this;exact this
  rw[zU (show i<((9:Int)- -1).toNat from hi)] at hx
  cases hx
  have A3:=x3 _ _ npa.symm ha;have ek:(9:Int)+(i:Int)* -1=((9-i:Nat):Int):=by omega
  rw[ek];refine⟨_,FV,_,FV,?_⟩;dsimp only[Zw];have last:∀(v5':Tr),v5'=(Po cs).b (9-i)->fP (J8 pr (n+2)) {nx:=N,ct:=N,bk:=λτ C'=>Dv (Qo (Zt (Yg 2) (Zt (Yg 1) Zw))) (ZUD Q χ) τ C',rt:=Q,xc:=χ} [some (.ref a),some (Jr ((Po cs).kd i)),some (.ref p),some (tt (eE cs)),some (nT (9-i)),some (tt v5'),v6] C3:=by
   rintro v5' rfl;refine mD hl (by omega) A3 P3 (by rw[XI,BU];omega) λv6'=>?_;refine hN _ _ ⟨_,_,_,FV,λc w n h=>by rw[Zf n];exact x3 c w n h,?_⟩;rw[Ze,FD,XL];rfl
  refine n9 (Qe (k:=9-i+1) (n:=n+1) hl (by omega) A3 ⟨gS,?_⟩);by_cases c:i=0
  ·subst c;refine⟨_,FV,Pa (v:=true) FV ⟨_,FV,Yi ⟨_,FV,?_⟩⟩⟩;exact last _ FV
  ·refine⟨_,FV,Pa (v:=false) (beq_eq_false_iff_ne.mpr (by omega)) ⟨_,FV,Zk ?_⟩⟩;exact last (.nm (xN cs (9-i+1))) (by unfold Dk.b;rw[XX (by omega)];rfl)
 ·rintro τ C3 ⟨v4,v5,v6,rfl,x3,P3⟩;refine⟨_,FV,_,FV,gS,?_⟩;exact q C3 p (λc w h=>x3 c w (J0 h hp) h) hp P3
end
def re {α β:Type}{xs:List α}{f:α->β}{lo hi:Option Int}:Nw (xs.map f) lo hi=(Nw xs lo hi).map f:=by
 unfold Nw;rw[XI,List.map_take,List.map_drop]
def Be {α:Type}{xs:List α}{r:Nat}(h:r<=xs.length):Nw xs (some (r:Int)) none=xs.drop r:=by
 unfold Nw;rw[HT.sIx_nat,HT.sIx_none,Nat.min_eq_left h];exact ER (by rw[EU];omega)
def vZ {α:Type}{xs:List α}{r:Nat}(h:r<=xs.length):Nw xs none (some (r:Int))=xs.take r:=by
 unfold Nw;rw[HT.sIx_nat,HT.sIx_none,Nat.min_eq_left h,List.drop_zero,Nat.sub_zero]
def gB {α:Type}(f:Nat->α):∀r,r<5->((List.range 5).map f).drop r++((List.range 5).map f).take r=(List.finRange 5).map λi=>f ((i.val+r)%5)
 | 0,_=>rfl
 | 1,_=>rfl
 | 2,_=>rfl
 | 3,_=>rfl
 | 4,_=>rfl
 | _+5,h=>by omega
section
variable {C:Hw}{Q:WK}{χ:WX}{n:Nat}{a p:WP}{cs:List Int}
def qe {r s:Nat}{b:Tr}(hr:r<5)(hp:C p=some (.lst ((List.range 5).map λi=>Nn cs (s-i))))(q:∀C',Ex C C'->Q (tt ((Po cs).lt s r b)) C'):J8 pr (n+1) za [.ref p,nT r,tt b] C Q χ:=by
 refine B7 FV ?_;unfold Q0 Pj;refine⟨_,FV,_,FV,_,FV,_,hp,λp1 hp1=>?_⟩;rw[Be (by simp;omega)];have P1:up C p1 (.lst (((List.range 5).map λi=>Nn cs (s-i)).drop r)) p=_:=(Zf (J0 hp hp1)).trans hp;have N1:up C p1 (.lst (((List.range 5).map λi=>Nn cs (s-i)).drop r)) p1=_:=Ze;have x1:=Ex.new (o:=.lst (((List.range 5).map λi=>Nn cs (s-i)).drop r)) hp1;generalize up C p1 (.lst (((List.range 5).map λi=>Nn cs (s-i)).drop r))=C1 at P1 N1 x1;refine⟨_,FV,_,FV,_,FV,_,P1,λp2 hp2=>?_⟩;rw[vZ (by simp;omega)];have N2:up C1 p2 (.lst (((List.range 5).map λi=>Nn cs (s-i)).take r)) p1=_:=(Zf (J0 N1 hp2)).trans N1;refine⟨_,_,N2,Ze,by rw[EU,YM,XI,BU];exact Yy (by omega),λp3 hp3=>?_⟩;refine⟨_,FV,_,Ze,_,FV,gS,?_⟩;rw[gB (λi=>Nn cs (s-i)) r hr];exact q _ ((x1.trans (Ex.new hp2)).trans (Ex.new hp3))
def t7 {ns:List Int}(h63:ns.length<=63)(q:∀(cs:List Int) (C':Hw) (p:WP),cs.length=11->C' p=some (.lst (cs.map T.int))->Q (.ref p) C'):J8 pr (n+1) Fv [.cl (ns.map T.int),.int 11] C Q χ:=by
 refine Gi FV ?_;unfold Tv Si;refine⟨_,FV,_,FV,_,FV,λp1 hp1=>?_⟩;rw[re];have lc:(Nw ns none (some 11)).length<=11:=by
  unfold Nw;rw[YM,show HT.sIx ns.length ns.length (some 11)=min 11 ns.length from HT.sIx_nat _ _ 11];omega
 generalize Nw ns none (some 11)=ds at lc;have P1:up C p1 (.lst (ds.map T.int)) p1=some (.lst (ds.map T.int)):=Ze;generalize up C p1 (.lst (ds.map T.int))=C1 at P1;refine⟨_,FV,_,FV,_,FV,_,FV,_,P1,?_⟩;rw[XI];refine⟨_,FV,by omega,by omega,?_⟩;have en:((11:Int)-(ds.length:Int)).toNat=11-ds.length:=by omega
 rw[en];obtain⟨F,hF⟩:∃F:T->Int,∀i:Int,F (.int i)=(7919*(i+1)+(ns.length:Int))*48271%2147483647:=⟨λt=>match t with | .int i=>(7919*(i+1)+(ns.length:Int))*48271%2147483647 | _=>0,λi=>rfl⟩;refine Xh (λt=>.int (F t)) trivial (by unfold rng;rw[XI,BU];exact Yy (by omega)) (λx hx R hR=>?_) λp2 hp2=>?_
 ·obtain⟨j,hj,rfl⟩:=XR.mp hx;rw[hF] at hR;refine⟨_,FV,.inl ⟨by decide,by decide⟩,_,FV,_,FV,?_⟩;show uE _ _/\_;refine⟨.inr ⟨by decide,by decide⟩,by decide,?_⟩;rw[XI];exact hR
 ·have em:(rng 0 (11-ds.length)).map (λt=>T.int (F t))=((rng 0 (11-ds.length)).map F).map T.int:=by rw[YE];rfl
  rw[em];refine⟨_,_,(Zf (J0 P1 hp2)).trans P1,Ze,?_,λp3 hp3=>?_⟩
  ·rw[XI,XI,XI];unfold rng;rw[XI,BU];exact Yy (by omega)
  ·rw[<-XL];refine q (ds++(rng 0 (11-ds.length)).map F) _ p3 ?_ Ze;rw[BA,XI];unfold rng;rw[XI,BU];omega
end
mutual
def Xq {C:Hw}:∀t:Tr,Fz C (tt t) (tt t)
 | .num v=>.tup (.cons (.str _) (.cons (.int _) .nil))
 | .nm x=>.tup (.cons (.str _) (.cons (.str _) .nil))
 | .stop x=>.tup (.cons (.str _) (.cons (.str _) .nil))
 | .does o a b=>.tup (.cons (.str _) (.cons (.str _) (.cons (Xq a) (.cons (Xq b) .nil))))
 | .fn x b=>.tup (.cons (.str _) (.cons (.str _) (.cons (Xq b) .nil)))
 | .call a b=>.tup (.cons (.str _) (.cons (Xq a) (.cons (Xq b) .nil)))
 | .first a b=>.tup (.cons (.str _) (.cons (Xq a) (.cons (Xq b) .nil)))
 | .lt n xs ts b=>.tup (.cons (.str _) (.cons (.tup (vt (λi=>.tup [.str (xs i),tt (ts i)]) (λi=>.tup (.cons (.str _) (.cons (Xq (ts i)) .nil))) (List.finRange n))) (.cons (Xq b) .nil)))
 | .sh0 c=>.tup (.cons (.str _) (.cons (.str _) (.cons (.tup .nil) .nil)))
 | .sh2 c a b=>.tup (.cons (.str _) (.cons (.str _) (.cons (.tup (.cons (Xq a) (.cons (Xq b) .nil))) .nil)))
 | .chT a n y=>.tup (.cons (.str _) (.cons (Xq a) (.cons (.tup (.cons (.tup (.cons (.str _) (.cons (.tup .nil) (.cons (Xq n) .nil)))) (.cons (.tup (.cons (.str _) (.cons (.tup .nil) (.cons (Xq y) .nil)))) .nil))) .nil)))
 | .chL a n x y c=>.tup (.cons (.str _) (.cons (Xq a) (.cons (.tup (.cons (.tup (.cons (.str _) (.cons (.tup .nil) (.cons (Xq n) .nil)))) (.cons (.tup (.cons (.str _) (.cons (.tup (.cons (.str _) (.cons (.str _) .nil))) (.cons (Xq c) .nil)))) .nil))) .nil)))
 | .chP a x y b=>.tup (.cons (.str _) (.cons (Xq a) (.cons (.tup (.cons (.tup (.cons (.str _) (.cons (.tup (.cons (.str _) (.cons (.str _) .nil))) (.cons (Xq b) .nil)))) .nil)) .nil)))
def vt {C:Hw}{n:Nat}(f:Fin n->T)(h:∀i,Fz C (f i) (f i)):∀l:List (Fin n),Fzs C (l.map f) (l.map f)
 | []=>.nil
 | i::l=>.cons (h i) (vt f h l)
end
section
variable {cs:List Int}{κ:Nat->Kd}
def Sj:(Po cs).Ok where
 inj:=qF
 ny:=hJ
 wl:=λk=>by show(K5 cs k).length<=5;rw[M6];have:=oy (cs:=cs) (k:=k);omega
 db:=λk h=>by show(decide (k<3)&&_)=false;rw[YG (by omega)];rfl
 op:=λi hi=>by
  have hi:i∈(Bb cs).ops:=hi;have:i=1000000:=by
   unfold Bb at hi
   split at hi
   ·exact XQ.mp hi
   ·split at hi
    ·cases hi
    ·split at hi
     ·cases hi
     ·split at hi
      ·exact XQ.mp hi
      ·exact XQ.mp hi
  omega
def ui:(5<=Ry cs/\Ry cs<=9/\Kz cs>3)\/(Ry cs=10/\¬Kz cs>3):=by
 unfold Ry;by_cases c:Kz cs>3
 ·rw[XY c];have b0:=YO (cA cs 10/48) (show(5:Int)≠0 by decide);have b1:=BW (cA cs 10/48) (show(0:Int)<5 by decide);exact .inl ⟨by omega,by omega,c⟩
 ·rw[XX c];exact .inr ⟨FV,c⟩
def fI:Bg (eE cs) 1 3:=by
 unfold eE
 split
 ·exact⟨XE _,XE _,trivial⟩
 ·split
  ·exact⟨XE _,XE _,trivial⟩
  ·split
   ·exact⟨XE _,XE _,trivial⟩
   ·split
    ·exact⟨XE _,XE _,trivial⟩
    ·exact⟨XE _,XE _,trivial⟩
def fF:∀bs,(∀j,5<=j->j<=9->xN cs j∈bs)->Ce 1 bs (eE cs):=λbs h=>by
 unfold eE
 split
 ·rename_i c
  rcases ui (cs:=cs) with⟨b1,b2,_⟩ | ⟨_,n⟩
  ·exact Wh FV (λx e=>by cases e;exact h _ b1 b2) trivial
  ·exact absurd c n
 ·split
  ·exact Wh FV (λx e=>by cases e) trivial
  ·split
   ·exact Wh FV (λx e=>by cases e) (.inr (.inl FV))
   ·split
    ·exact Wh FV (λx e=>by cases e) (.inr (.inr FV))
    ·exact Wh FV (λx e=>by cases e) trivial
def ku:Nk 2 (Bb cs):=by
 unfold Bb
 split
 ·trivial
 ·split
  ·exact⟨by show(("num":Str):Str)≠"open";decide,λa h=>by cases h⟩
  ·split
   ·exact⟨by show(("truth":Str):Str)≠"open";decide,λa h=>by cases h⟩
   ·split
    ·exact⟨by show(("list":Str):Str)≠"open";decide,λa h=>by rw[XQ.mp h];trivial⟩
    ·trivial
def gM:(Bb cs).ops.length<=1:=by
 unfold Bb
 split
 ·exact XE _
 ·split
  ·exact XO _
  ·split
   ·exact XO _
   ·split<;>exact XE _
def uZ (cs:List Int):List Int:=(List.range (10-Ry cs)).map λi=>mA cs (Ry cs+i)
def xF:∀{l:List Int},(∀x∈l,0<=x)->0<=l.sum/\(0<l.sum↔∃x∈l,0<x)
 | [],_=>⟨XW _,⟨λh=>absurd h (Int.lt_irrefl _),λ⟨x,hx,_⟩=>by cases hx⟩⟩
 | a::l,h=>by
  obtain⟨h1,h2⟩:=xF (l:=l) λx hx=>h x (XV _ hx);have h0:=h a (BC ..);rw[ET];refine⟨by omega,λhp=>?_,λ⟨x,hx,hp⟩=>?_⟩
  ·by_cases c:0<a
   ·exact⟨a,BC ..,c⟩
   ·obtain⟨x,hx,hx2⟩:=h2.mp (by omega);exact⟨x,XV _ hx,hx2⟩
  ·rcases BD.mp hx with rfl | hx
   ·omega
   ·have:=h2.mpr ⟨x,hx,hp⟩;omega
def xH:0<(uZ cs).sum↔∃j,Ry cs<=j/\j<=9/\(Po cs).ws j≠[]:=by
 rw[(xF (l:=uZ cs) λx hx=>by obtain⟨i,_,rfl⟩:=XR.mp hx;exact oy.1).2];constructor
 ·rintro⟨x,hx,hp⟩;obtain⟨i,hi,rfl⟩:=XR.mp hx;have:=CI.mp hi;exact⟨Ry cs+i,by omega,by omega,λe=>by have:=congrArg List.length e;rw[show(Po cs).ws (Ry cs+i)=K5 cs (Ry cs+i) from FV,M6] at this;simp at this;omega⟩
 ·rintro⟨j,j1,j2,hj⟩;have hl:=FJ.mpr hj;rw[show(Po cs).ws j=K5 cs j from FV,M6] at hl;exact⟨mA cs j,XR.mpr ⟨j-Ry cs,CI.mpr (by omega),by rw[show Ry cs+(j-Ry cs)=j by omega]⟩,by omega⟩
variable {r1 r2:Nat}
def tE (h1:r1<5)(h2:r2<5)(h:0<(uZ cs).sum):¬∃k R,HT G0 ((Po cs).whole r1 r2) k R:=λ⟨k,R,hT⟩=>by
 obtain⟨κ,_,_,_,_,hk⟩:=Dk.whole_inv Sj h1 h2 hT;obtain⟨j,j1,j2,j3⟩:=xH.mp h
 rcases ui (cs:=cs) with⟨b1,b2,b3⟩ | ⟨b1,_⟩
 ·exact Dk.round_no Sj b1 b2 (by show eE cs=_;unfold eE;rw[XY b3];rfl) ⟨j,j1,j2,j3⟩ hk
 ·omega
abbrev K0 (cs:List Int):Kd:=(Po cs).k 0
abbrev Bz (cs:List Int):Kd:=nk (ext [] (K0 cs).ops) (K0 cs)
def yy (h:¬0<(uZ cs).sum):∀d,Ry cs+d<=10->(Po cs).k (10-d)=Bb cs
 | 0,_=>rfl
 | d+1,hd=>by
  have b5:5<=Ry cs:=by rcases ui (cs:=cs) with⟨b1,_⟩ | ⟨b1,_⟩<;>omega
  have we:(Po cs).ws (10-(d+1))=[]:=Classical.byContradiction λn=>h (xH.mpr ⟨10-(d+1),by omega,by omega,n⟩);rw[Dk.k_at (by omega),we,Sj.db _ (by omega),show 10-(d+1)+1=10-d by omega];exact yy h d (by omega)
def uw (h1:r1<5)(h2:r2<5)(h:¬0<(uZ cs).sum):(∃k R,HT G0 ((Po cs).whole r1 r2) k R)/\∀R,zJ ((Po cs).whole r1 r2) R->∃R1,R=Bz cs::(R1++[Bz cs]):=by
 have mk:=Dk.whole_mk Sj h1 h2 (D:=Po cs) λG hG=>by
  show ∃R,HT G (eE cs) (Bb cs) R;unfold eE Bb;by_cases c:Kz cs>3
  ·rw[XY c,XY c]
   rcases ui (cs:=cs) with⟨b1,b2,_⟩ | ⟨_,n⟩
   ·have e:=yy h (10-Ry cs) (by omega);rw[show 10-(10-Ry cs)=Ry cs by omega] at e;have g:=hG (Ry cs) b1 b2;rw[e] at g;unfold Bb at g;rw[XY c] at g;exact⟨_,.mk (.nm g) .nil⟩
   ·exact absurd c n
  ·rw[XX c,XX c]
   split
   ·exact⟨_,.mk .num .nil⟩
   ·split
    ·exact⟨_,.mk .yes .nil⟩
    ·split
     ·exact⟨_,.mk .nil .nil⟩
     ·exact⟨_,.mk .stop .nil⟩
 have inv:∀k R,HT G0 ((Po cs).whole r1 r2) k R->∃θ,k=(K0 cs).put θ:=λk R hT=>by
  obtain⟨κ,_,_,_,rfl,hk⟩:=Dk.whole_inv Sj h1 h2 hT;refine Dk.kinds_inv Sj (λG k R hG hT=>?_) hk 9 (by decide);have hT:HT G (eE cs) k R:=hT;show ∃θ,k=(Bb cs).put θ;unfold eE at hT;unfold Bb;by_cases c:Kz cs>3
  ·rw[XY c];exact⟨λ_=>k,FV⟩
  ·rw[XX c] at hT |-
   split
   ·rename_i c0;rw[XY c0] at hT
    cases hT with
    | mk x y=>cases x;exact⟨.op,FV⟩
   ·rename_i c0;rw[XX c0] at hT
    split
    ·rename_i c1;rw[XY c1] at hT
     cases hT with
     | mk x y=>cases x;exact⟨.op,FV⟩
    ·rename_i c1;rw[XX c1] at hT
     split
     ·rename_i c2;rw[XY c2] at hT
      cases hT with
      | mk x y=>
       cases x with
       | @nil _ p=>exact⟨λ_=>p,FV⟩
     ·exact⟨λ_=>k,FV⟩
 obtain⟨R0,h0⟩:=mk;refine⟨⟨_,_,h0⟩,λR hb=>?_⟩;obtain⟨k,hT⟩:=hb.is;obtain⟨κ,R1,R2,e,_,_⟩:=Dk.whole_inv Sj h1 h2 hT;have ek:=z0 hb inv ⟨R0,h0⟩ e;refine⟨R1++(k::R2),?_⟩;rw[e,ek];simp
end
def xn {k:Kd}{C:Hw}{Q:WK}(fk:Ys (Jr k))(q:Q (.bl false) C):Oz true (Jr k) (Jr k) C Q:=by
 have e:=Tp _ fk
 cases k<;>(refine⟨fk,fk,?_⟩;show Q (.bl (!_)) C;rw[e];exact q)
def na {C:Hw}{k:Kd}(f:Z6 (Jr k) 99=true):rV C 100 (Jr k) (Jr k) true:=.inl ⟨f,f,(Tp _ f).symm⟩
def sR {C:Hw}{i:Int}:rV C 100 (.int i) (.int i) true:=.inl ⟨by rfl,by rfl,by rw[WL.eqT,XU]⟩
def Mr:∀k:Kd,Z6 (Jr k) k.sz=true
 | .op _=>by unfold Jr Kd.sz Z6 Zv Z6 Zv Z6 Zv;rfl
 | .k0 _=>by unfold Jr Kd.sz Z6 Zv Z6 Zv;rfl
 | .k1 _ a=>by
  have:=Mr a;unfold Jr Kd.sz;rw[FS];unfold Z6 Zv Z6 Zv Zv;rw[this];rfl
 | .k2 _ a b=>by
  have h1:=To _ (Mr a) (show a.sz<=a.sz+b.sz by omega);have h2:=To _ (Mr b) (show b.sz<=a.sz+b.sz by omega);unfold Jr Kd.sz;rw[FS];unfold Z6 Zv Z6 Zv Zv Zv;rw[h1,h2];rfl
def yp {N:Nat}:∀{R:List Kd},(∀k∈R,k.sz<=N)->Zv (R.map Jr) N=true
 | [],_=>by unfold Zv;rfl
 | k::R,h=>by
  rw[YI];unfold Zv;rw[To _ (Mr k) (h k (BC ..)),yp λk hk=>h k (XV _ hk)];rfl
def xD:∀{R:List Kd},∀k∈R,k.sz<=(R.map Kd.sz).sum
 | [],k,h=>by cases h
 | a::R,k,h=>by
  rw[YI,ET]
  rcases BD.mp h with rfl | h
  ·omega
  ·have:=xD k h;omega
def yc {f:Nat->Nat}:∀{m:Nat} {k:Kd},Nk m k->Nk m (k.put λi=>.op (f i))
 | 0,_,h=>h.elim
 | _+1,.op _,_=>trivial
 | _+1,.k0 _,h=>h
 | m+1,.k1 g a,h=>⟨h.1,λb hb=>by rw[XQ.mp hb];exact yc (h.2 a (XQ.mpr FV))⟩
 | m+1,.k2 g a b,h=>⟨h.1,λc hc=>by
   simp only[E5,Kd.put,List.mem_cons,List.not_mem_nil,or_false] at hc
   rcases hc with rfl | rfl
   ·exact yc (h.2 a (by simp[E5]))
   ·exact yc (h.2 b (by simp[E5]))⟩
def rA {xs:List T}{v:T}:Oq (xs++[v]) (-1)=some v:=by
 unfold Oq;have e:jk (xs++[v]).length (-1)=some xs.length:=by
  unfold jk;rw[XX (by decide),BA,BF,XY (by omega)];congr 1;omega
 rw[e];simp
section
variable {C:Hw}{Q:WK}{χ:WX}{n:Nat}{a p:WP}{cs:List Int}
def xT {W:Nat->Calls}{ρ:Prop}(R:Rp W ρ){t:Tr}{m n:Nat}(hc:Ce m [] t)(hl:t.lok)(hm:m<=900)(hz:t.size<=600)(hco:t.cost<=6000)(hw:(¬∃k R,HT G0 t k R)->ρ)
  (q:∀C' k R,Ex C C'->zJ t (k::R)->Q (Jr k) C'):W (n+m+8+1) jp [tt t] C Q χ:=by
 refine R.o_kind_of FV ?_;unfold Qc Qm;refine⟨_,FV,?_⟩;dsimp only[Zw];refine Gx R (n:=n) hc hl hm hz hco hw λC1 p R x1 f1 e1 b1 _=>?_;obtain⟨k,hk⟩:=b1.is;obtain⟨R',rfl⟩:=hk.head;exact⟨_,_,e1,Yf,q C1 k R' x1 b1⟩
def rX {τ:Sw}(hl:cs.length=11)(h1:τ[1]?=some (some (.ref a)))(h4:τ[4]?=some (some (nT (Ry cs))))(A:C a=some (.lst (cs.map T.int)))(q:∀C',Ex C C'->Q (.int (uZ cs).sum) C'):
  ni qy (Zt (Hl [none,some 1] (gZ (Zt (Yg 4) (Zt (eC (T.int 10)) Zw))) (Ig 0) xw (X5 (J8 pr (n+1)) 27 (Zt (Yg 1) (Zt (Yg 0) Zw)))) Zw) τ C Q χ:=by
 have hb:Ry cs<=10:=by rcases ui (cs:=cs) with⟨_,b,_⟩ | ⟨b,_⟩<;>omega
 have cp:Kt [none,some 1] τ=[none,some (.ref a)]:=by unfold Kt;simp[h1]
 refine⟨_,h4,_,_,FV,⟨by omega,by omega,by decide,by decide⟩,?_⟩;rw[cp];have en:((10:Int)-((Ry cs:Nat):Int)).toNat=10-Ry cs:=by omega
 rw[en];obtain⟨F,hF⟩:∃F:T->Int,∀i:Int,F (.int i)=mA cs i.toNat:=⟨λt=>match t with | .int i=>mA cs i.toNat | _=>0,λi=>rfl⟩;refine Xh (λt=>.int (F t)) trivial (by unfold rng;rw[XI,BU];exact Yy (by omega)) (λx hx R hR=>?_) λp2 hp2=>?_
 ·obtain⟨j,hj,rfl⟩:=XR.mp hx;have hj:=CI.mp hj;rw[hF,show(((Ry cs:Nat):Int)+(j:Int)).toNat=Ry cs+j by omega] at hR;refine⟨_,FV,_,FV,?_⟩;dsimp only[Zw];have:=xS (n:=n) (χ:=χ) hl (show Ry cs+j<=9 by omega) A hR;exact this
 ·have em:(rng ((Ry cs:Nat):Int) (10-Ry cs)).map (λt=>T.int (F t))=(uZ cs).map T.int:=by
   unfold rng uZ;rw[YE,YE];refine BS λj _=>?_;show T.int (F (.int _))=T.int _;rw[hF,show(((Ry cs:Nat):Int)+(j:Int)).toNat=Ry cs+j by omega]
  rw[em];exact⟨_,_,FV,Ze,q _ (Ex.new hp2)⟩
end
def gx {C:Hw}{Q:WK}{χ:WX}{t:Tr}(ce:Ce 9 [] t)(hl:t.lok)(hz:t.size<=600)(hc:t.cost<=6000)(no:¬∃k R,HT G0 t k R):J8 pr 59 48 [tt t] C Q χ:=
 Gx (W:=λn j=>J8 pr n (j+36)) dM (n:=42) (m:=9) ce hl (by decide) hz hc (λ_=>trivial) λC' p R _ _ _ hb _=>absurd ⟨_,_,hb.is.choose_spec⟩ no
def law_true (ns:List Int)(h63:ns.length<=63):J8 pr 60 kF [.cl (ns.map T.int)] (λ_=>none) (λv _=>v=.bl true) (λ_ _=>False):=by
 refine mB FV ?_;unfold w_law yD;refine⟨_,FV,?_⟩;dsimp only[Zw,Zt,eC];refine t7 (n:=58) h63 λcs C1 a hl A1=>?_;refine⟨_,FV,?_⟩;dsimp only[Zw];refine qf (n:=57) hl A1 λC2 x2=>⟨_,FV,_,_,FV,_,_,FV,_,_,FV,FV,?_⟩;have A2:=x2 _ _ A1;refine⟨_,FV,_,FV,?_⟩;dsimp only[Zw];refine tw (n:=56) hl A2 λC3 p x3 _ P3=>⟨_,FV,_,_,FV,_,_,FV,FV,?_⟩;have A3:=x3 _ _ A2;refine⟨_,FV,_,FV,_,P3,λp4 hp4=>?_⟩;have c4:Nw ((List.range 10).map λi=>Nn cs (9-i)) (some 5) none=(List.range 5).map λi=>Nn cs (4-i):=(Be (r:=5) (by simp)).trans FV;rw[c4];have N4:up C3 p4 (.lst ((List.range 5).map λi=>Nn cs (4-i))) p4=_:=Ze;have A4:up C3 p4 (.lst ((List.range 5).map λi=>Nn cs (4-i))) a=_:=(Zf (J0 A3 hp4)).trans A3;have P4:up C3 p4 (.lst ((List.range 5).map λi=>Nn cs (4-i))) p=_:=(Zf (J0 P3 hp4)).trans P3;generalize up C3 p4 (.lst ((List.range 5).map λi=>Nn cs (4-i)))=C4 at N4 A4 P4;obtain⟨r1,hr1⟩:∃r:Nat,cA cs 10%5=(r:Int):=⟨(cA cs 10%5).toNat,by have:=YO (cA cs 10) (show(5:Int)≠0 by decide);omega⟩;have h1:r1<5:=by have:=BW (cA cs 10) (show(0:Int)<5 by decide);omega
 obtain⟨r2,hr2⟩:∃r:Nat,cA cs 10/5%5=(r:Int):=⟨(cA cs 10/5%5).toNat,by have:=YO (cA cs 10/5) (show(5:Int)≠0 by decide);omega⟩;have h2:r2<5:=by have:=BW (cA cs 10/5) (show(0:Int)<5 by decide);omega
 refine⟨_,FV,_,_,A4,Ni (j:=10) hl (by decide),by decide,_,FV,?_⟩;dsimp only[Zw,Zt,eC];rw[hr1];refine Qe (k:=0) (n:=58) hl (by decide) A4 ⟨gS,?_⟩;refine qe (n:=58) (s:=4) (b:=.nm (xN cs 0)) h1 N4 λC5 x5=>?_;have A5:=x5 _ _ A4;have P5:=x5 _ _ P4;refine⟨_,FV,_,FV,_,P5,λp6 hp6=>?_⟩;have c6:Nw ((List.range 10).map λi=>Nn cs (9-i)) none (some 5)=(List.range 5).map λi=>Nn cs (9-i):=(vZ (r:=5) (by simp)).trans FV;rw[c6];have N6:up C5 p6 (.lst ((List.range 5).map λi=>Nn cs (9-i))) p6=_:=Ze;have A6:up C5 p6 (.lst ((List.range 5).map λi=>Nn cs (9-i))) a=_:=(Zf (J0 A5 hp6)).trans A5;generalize up C5 p6 (.lst ((List.range 5).map λi=>Nn cs (9-i)))=C6 at N6 A6;refine⟨_,FV,_,_,A6,Ni (j:=10) hl (by decide),⟨by decide,by decide⟩,by decide,_,FV,?_⟩;dsimp only[Zw];rw[hr2];refine qe (n:=58) (s:=9) (b:=(Po cs).lt 4 r1 (.nm (xN cs 0))) h2 N6 λC7 x7=>?_;have A7:=x7 _ _ A6;have et:(Po cs).lt 9 r2 ((Po cs).lt 4 r1 (.nm (xN cs 0)))=(Po cs).whole r1 r2:=rfl;rw[et];refine⟨gS,λp8 hp8=>?_⟩;have A8:up C7 p8 (.lst []) a=_:=(Zf (J0 A7 hp8)).trans A7;generalize up C7 p8 (.lst [])=C8 at A8;have bg:=uj (r1:=r1) (r2:=r2) (Sj (cs:=cs)) fI;have ce:=uf (Sj (cs:=cs)) h1 h2 fF;have bs:=bg.s;have bc:=bg.c;by_cases hs:0<(uZ cs).sum
 ·have no:=tE h1 h2 hs;refine⟨_,FV,[tt ((Po cs).whole r1 r2)],λ_=>none,.cons (Xq _) .nil,λ_ _ h=>(by cases h),_,.tail _ (.head _),?_,?_⟩
  ·exact gx ce bg.l (by omega) (by omega) no
  ·refine rX (n:=58) hl FV FV A8 λC9 x9=>⟨_,FV,Nt (decide_eq_true hs) ⟨_,FV,FV⟩⟩
 ·obtain⟨yes,all⟩:=uw h1 h2 hs;refine⟨_,FV,[tt ((Po cs).whole r1 r2)],λ_=>none,.cons (Xq _) .nil,λ_ _ h=>(by cases h),_,.head _,?_,trivial⟩;refine Gx eY (n:=42) (m:=9) ce bg.l (by decide) (by omega) (by omega) (λh=>h yes) λC' p R _ _ P' hb _=>?_;obtain⟨R1,rfl⟩:=all R hb;have nd:Nk 55 (Bz cs):=yc (ky Sj ku);have fd:Ys (Jr (Bz cs)):=To _ (Oj nd) (by decide);refine .inr ⟨p,_,_,FV,P',yp xD,λp9 hp9=>?_⟩;have A9:up C8 p9 (.lst ((Bz cs::(R1++[Bz cs])).map Jr)) a=_:=(Zf (J0 A8 hp9)).trans A8;have P9:up C8 p9 (.lst ((Bz cs::(R1++[Bz cs])).map Jr)) p9=_:=Ze;generalize up C8 p9 (.lst ((Bz cs::(R1++[Bz cs])).map Jr))=C9 at A9 P9;refine rX (n:=58) hl FV FV A9 λC10 x10=>⟨_,FV,Qw (YG hs) ?_⟩;have P10:=x10 _ _ P9;refine⟨_,FV,λpd hpd=>?_⟩;dsimp only[Zw];have ol:=ki (Sj (cs:=cs)) gM 10 (by decide);have ob:(ext [] (K0 cs).ops).length<=90000:=by
   obtain⟨e,h,h'⟩:=Qj (l:=(K0 cs).ops) (acc:=[]);rw[h,FU];have:(K0 cs).ops.length+5<=6*2^10:=ol;omega
  refine Lg 55 4 (K0 cs) [] [] _ (ky Sj ku) ⟨λj=>rfl,FV⟩ Ze ob λC11 kv x11 _ _=>?_;have P11:C11 p9=some (.lst ((Bz cs::(R1++[Bz cs])).map Jr)):=x11 _ _ (J0 P10 hpd) ((Zf (J0 P10 hpd)).trans P10);have P11':C11 p9=some (.lst (((Bz cs::R1).map Jr)++[Jr (Bz cs)])):=by rw[P11];simp
  refine⟨_,FV,_,FV,Zk ?_⟩;refine⟨_,FV,_,_,P11,Yf,_,FV,xn fd ⟨_,FV,Zk ?_⟩⟩;refine⟨_,FV,_,_,P11',rA,_,FV,xn fd ⟨_,FV,Zk ?_⟩⟩;refine⟨_,FV,_,_,P11,Yf,?_⟩;dsimp only[Zw];refine xO 55 3 (Bz cs) _ nd ?_;refine⟨_,FV,?_⟩;dsimp only[Zw];refine zS 55 4 (Bz cs) _ nd ?_;refine⟨true,sR,_,FV,Zk ?_⟩;refine⟨_,FV,?_⟩;dsimp only[Zw];refine xT eY (n:=41) (m:=9) ce bg.l (by decide) (by omega) (by omega) (λh=>h yes) λC12 k R x12 hb2=>?_;obtain⟨_,e2⟩:=all _ hb2;injection e2 with e2 _
  rw[e2];exact⟨_,FV,true,na (To _ (Oj nd) (by decide)),FV⟩
end K27
open PySem PySem.W PyProof.Rows
def PySem.W.Fast.tw15713557360860357034:=True
def PySem.W.Fast.tw8295791928016834627:=True
def PySem.W.Fast.tw11952428182948504111:=True
def PySem.W.Fast.tw14668330922617467787:PySem.Program:=DP
def PySem.W.Fast.te14668330922617467787:DP=PySem.W.Fast.tw14668330922617467787:=rfl
def PySem.W.Fast.tw9443938167018794028:=True
def PySem.W.Fast.tw8064296921573270417:=True
def PySem.W.Fast.tw15700944998529165732:=True
def PySem.W.Fast.tw2639074291701501189:=True
def PySem.W.Fast.tw10869607303294667793:=True
def PySem.W.Fast.tw7670287001741669841:=True
def PySem.W.Fast.tw9498678580894603102:=True
def PySem.W.Fast.tw5057739473404863559:=True
def PySem.W.Fast.tw2851006448448730730:=True
def PySem.W.Fast.tw3013031485528128467:=True
def PySem.W.Fast.tw373219390649811038:=True
def PySem.W.Fast.tw11499632287729911775:=True
def PySem.W.Fast.tw6088959084819882526:=True
def PySem.W.Fast.tw6067017734882782101:=True
def PySem.W.Fast.tw4638086135662048660:=True
def PySem.W.Fast.tw7127256217648847214:=True
def PySem.W.Fast.tw3918300804015019390:=True
def PySem.W.Fast.tw13760064114374887097:=True
def PySem.W.Fast.tw9241593077817520149:=True
def PySem.W.Fast.tw7527622542804548318:=True
def PySem.W.Fast.tw3774985382982433914:=True
def PySem.W.Fast.tw5776028267666958267:=True
def PySem.W.Fast.tw11958971328840916380:=True
def PySem.W.Fast.tw10348886588757138153:=True
def PySem.W.Fast.tw3025307634813756607:=True
def PySem.W.Fast.tw7963732737222965594:=True
def PySem.W.Fast.tw5172436533671087377:=True
def PySem.W.Fast.tw4468295264380987092:=True
def PySem.W.Fast.tw2361019595894991414:=True
def PySem.W.Fast.tw9464914704115756861:=True
def PySem.W.Fast.tw17268085868763901880:=True
def PySem.W.Fast.tw9132499362730979288:=True
def PySem.W.Fast.tw4055542631372415243:=True
def PySem.W.Fast.tw7768484963011496985:=True
def PySem.W.Fast.tw8856852052694213575:=True
def PySem.W.Fast.tw1607613514955577441:=True
def PySem.W.Fast.tw12402371952484467906:=True
def PySem.W.Fast.tw3953250688304379455:=True
def PySem.W.Fast.tw12645615240769225140:=True
def PySem.W.Fast.tw8568786577687964268:=True
def PySem.W.Fast.tw5892543326997833825:=True
def PySem.W.Fast.tw2177857016894238457:=True
def PySem.W.Fast.tw11802136359291444637:=True
def PySem.W.Fast.tw3115988632800081942:=True
def PySem.W.Fast.tw14828406151745642081:=True
def PySem.W.Fast.tw1114272600875353151:=True
def PySem.W.Fast.tw13717183768880873018:=True
def PySem.W.Fast.tw7010103485441842953:=True
def PySem.W.Fast.tw17753610147952810957:=True
def PySem.W.Fast.tw9351312419919623223:=True
def PySem.W.Fast.tw12842077490553979068:=True
def PySem.W.Fast.tw9616846609076634835:=True
def PySem.W.Fast.tw15322007553472362391:=True
def PySem.W.Fast.tw963495903346298422:=True
def PySem.W.Fast.tw6988750090072324968:=True
def PySem.W.Fast.tw13354409140729833747:=True
def PySem.W.Fast.tw5077848541396991327:=True
def PySem.W.Fast.tw8564801995421024121:=True
def PySem.W.Fast.tw1981647380309895060:=True
set_option maxRecDepth 100000 in
set_option maxHeartbeats 0 in
theorem PySem.Challenge.cw_idlegraph_k27_deep_kinds_holds : PySem.Challenge.rw_idlegraph_k27_deep_kinds.Holds := by
 w_on;o_law;k_head;(case hw=>w_witness2)
 k_fill
 refine L2.walk_ofK (l:=PySem.Challenge.rw_idlegraph_k27_deep_kinds) (n:=63) (k:=60) (x:="_law_script") (CX:=L2.CX0) (sp:=λK=>WL.spW K K27.pr 60 33) rfl (by decide) rfl ⟨rfl,by decide,by decide⟩ (λw h Y=>PySem.W.kIn_of Y) ?F (λK H a ns hl hO hS=>WL.law_sp hO hS (K27.law_true ns hl)) (λ_ _ _ _ z=>z)
 case F=>
  intro w mg fa h KX G hmg
  refine' K27.all_mk KX G hmg ?Qa ?Qb ?Qc ?Qd ?Qe ?Qf ?Qg ?Qh ?Qi ?Qj ?Qk ?Ql ?Qm ?Qn ?Qo ?Qp ?Qq ?Qr ?Qs ?Qt ?Qu ?Qv ?Qw ?Qx ?Qy ?Qz ?Q0 ?Q1 ?Q2 ?Q3 ?Q4 ?Q5 ?Q6 ?Q7 ?Q8 ?Q9 ?Ra ?Rb ?Rc ?Rd ?Re ?Rf ?Rg ?Rh ?Ri ?Rj ?Rk ?Rl ?Rm ?Rn ?Ro ?Rp ?Rq ?Rr ?Rs ?Rt ?Ru
  case Qa|Qd|Qe|Qf|Qg|Qh|Qi|Qj|Qk|Ql|Rk|Rl|Rm|Rn|Ro|Rp|Rq|Rr|Rs|Rt|Ru=>k_is
  (case Qb=>k_exc)
  (case Qc=>exact⟨_,by k_is,by kts_exm⟩)
  case Qm|Qn|Qo|Qp|Qq|Qy|Qz|Q0|Q1|Q2|Q3|Q4|Q5|Q6|Q7|Q8|Q9|Ra|Rb|Rc|Rd|Re|Rf|Rg|Rh|Ri|Rj=>exact⟨_,_,by k_is,⟨_,_,_,_,_,_,_,_,_,rfl,by k_is,by k_is⟩,by k_is⟩
  case Qr|Qs|Qt|Qu|Qv|Qw|Qx=>exact⟨_,_,⟨by k_is,by k_is,by k_is⟩,⟨_,_,_,_,_,_,_,_,_,rfl,by k_is,by k_is⟩,by k_is⟩
