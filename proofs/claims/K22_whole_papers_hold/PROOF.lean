import PyProof.Rows.All
import Wide.All
import OpenK.AllK
import Wide.FinOn
import Lean
import PyProof.EqAt
import PyProof.EqKinds
import PyProof.TupleCall
import KE.KRevIter
import KE.KDictList
import PyProof.ZipIter
import PyProof.Draws
import PyProof.DictWalks
import PyProof.AttrMiss
import PyProof.FactsAll.zip_1
import KE.KDictOf
import PyProof.Rows.FStr
import PyProof.AutoSeq1
import PyProof.EnumMake
import PyProof.CallType
import PyProof.Rows.CallKwBuiltin
import PyProof.DictUpdate
import PyProof.NoPylong
import KE.KDictMeth
import PyProof.DictItemsLoops
import PyProof.SumWalk
import PyProof.SumWalkG
import PyProof.Rows.SumGenD
import PyProof.Rows.StrIntSpec
import PySem.Challenge.RW_idlegraph_k22_whole_papers_hold
set_option Elab.async false
set_option linter.all false
set_option maxRecDepth 100000
set_option maxHeartbeats 4000000
set_option genSizeOf false
set_option bootstrap.genMatcherCode false
set_option compiler.extract_closed false
def XA:=@PySem.wpAny_bind
def XB:=@PySem.wpAny_pure
def XC:=@PySem.Heap.get?_push_of_some
def XD:=@PySem.Heap.lt_size
def XE:=@Nat.le_refl
def XF:=@PySem.Heap.get?_push_size
def XG:=@Nat.lt_of_lt_of_le
def XH:=@Nat.ne_of_lt
def XI:=@List.length_map
def XJ:=@List.size_toArray
def XL:=@List.map_append
def XM:=@List.getElem?_map
def XN:=@Nat.le_trans
def XO:=@Nat.zero_le
def XQ:=@List.mem_singleton
def XR:=@List.mem_map
def XS:=@List.mem_append
def XT:=@List.mem_append_right
def XU:=@beq_self_eq_true
def XV:=@List.mem_cons_of_mem
def XW:=@Int.le_refl
def XX:=@if_neg
def XY:=@if_pos
def XZ:=@PySem.F.plainAttrs_list
def YA:=@PySem.F.type_list_append
def YB:=@PySem.F.slot_list_append
def YC:=@PySem.Str.length_append
def YD:=@List.take_add_one
def YE:=@List.map_map
def YF:=@List.length_cons
def YG:=@decide_eq_false
def YH:=@Option.some.inj
def YI:=@List.map_cons
def YJ:=@Bool.false_ne_true
def YK:=@List.append_nil
def YL:=@List.append_assoc
def YM:=@List.length_take
def YN:=@List.getElem_mem
def YO:=@Int.emod_nonneg
def ZNB (h:Nat.ble a b=true):a<=b:=Nat.le_of_ble_eq_true h
def ZM {α:Type}{x a:α}{l:List α}:x∈a::l↔x=a\/x∈l:=List.mem_cons
def ZN {α:Type}{x:α}:x∈([]:List α)↔False:=⟨List.not_mem_nil,False.elim⟩
abbrev WY:=PySem.W.Frag
abbrev WW:=PySem.Expr
abbrev WV:=PySem.Stmt
abbrev WU:=PySem.Heap
abbrev WR:=PySem.Shared
abbrev WQ:=PySem.Value
abbrev WP:=PySem.Addr
abbrev WO:=PySem.Program
abbrev WN:=PySem.World
abbrev WM:=PySem.Around
abbrev VZ:=PySem.FuncData
def BA:=@List.length_append
def BB:=@List.getElem?_eq_some_iff
def BC:=@List.mem_cons
def BD:=@List.mem_cons_self
def BE:=@List.mem_of_getElem?
def BF:=@PyProof.Rows.callWith_type1
def BG:=@Nat.le_add_right
def BH:=@List.length_singleton
def BI:=@List.mem_append_left
def BJ:=@Nat.lt_succ_self
def BK:=@List.lookup_cons
def BL:=@Nat.lt_irrefl
def BM:=@PySem.F.slot_zip_next
def BN:=@List.length_finRange
def BO:=@List.getElem?_eq_getElem
def BP:=@List.getElem?_append_left
def BQ:=@PySem.W.mg_none_of
def BR:=@List.map_congr_left
def BS:=@List.all_eq_true
def BU:=@List.getElem?_zip_eq_some
def BV:=@List.replicate_succ
def BW:=@List.length_reverse
def BX:=@Nat.lt_succ_of_lt
def BY:=@PySem.Heap.size_push
def BZ:=@List.nodup_cons
def CA:=@List.filter_cons_of_pos
def CB:=@List.take_length
def CC:=@List.getElem?_append_right
def CD:=@List.getElem?_set_self
def CF:=@PySem.boot_len
def CG:=@List.flatten_cons
def CH:=@PySem.mem_of_lookup
def CI:=@Nat.le_of_lt
def CJ:=@Nat.ne_of_gt
def CK:=@List.nodup_nil
def CL:=@List.reverse_cons
def CM:=@PySem.F.args_zip_next_1
def CO:=@PySem.F.entry_zip_next
def CP:=@PySem.Calls.spliced_cons
def CQ:=@PyProof.Rows.slot_tuple_getitem
def CT:=@List.getElem?_set_ne
def CU:=@List.length_set
def CV:=@Int.toNat_natCast
def CW:=@PySem.W.kia_one
def CY:=@List.filter_cons_of_neg
def CZ:=@Bool.and_eq_true
def DA:=@List.any_eq_true
def DC:=@List.mem_range
def DD:=@PySem.Calls.callWith_builtin
def DE:=@List.length_zip
def DF:=@PySem.F.slot_tuple_iterator_next
def DG:=@PySem.Calls.spliced_nil
def DH:=@Option.isSome_map
def DI:=@List.drop_eq_getElem_cons
def DJ:=@PySem.Challenge.pw_idlegraph_k22_whole_papers_hold
def DK:=@Nat.not_lt_of_le
def DL:=@Nat.sub_self
def DN:=@List.map_reverse
def DP:=@Nat.add_lt_add_left
def DQ:=@Nat.lt_add_of_pos_right
def DR:=@List.any_cons
def DS:=@List.of_mem_zip
def DT:=@List.sum_append
def DU:=@Int.emod_lt_of_pos
def DV:=@PySem.Heap.get?_update_other
def DW:=@List.take_of_length_le
def DX:=@List.nodup_append
def DY:=@List.length_replicate
def DZ:=@PySem.Heap.get?_update_self
def EA:=@Array.getElem?_toList
def EB:=@PySem.F.slot_list_pop
def EC:=@PySem.F.type_list_pop
def ED:=@List.not_mem_nil
def EE:=@List.mem_reverse
def EF:=@List.foldl_cons
def EG:=@PySem.F.plain_extend_loop
def EH:=@PySem.F.args_tuple_add_2
def EI:=@Nat.lt_of_le_of_lt
def EJ:=@PySem.F.slot_list_extend
def EK:=@PySem.F.type_list_extend
def EL:=@PySem.F.slot_dict_itemiterator_iter
def EM:=@PySem.F.entry_tuple_add
def EN:=@PySem.F.plainAttrs_dict
def EO:=@List.length_eq_zero_iff
def EQ:=@List.foldl_append
def ER:=@Nat.le_succ_of_le
def ES:=@PySem.F.slot_tuple_add
def ET:=@List.length_drop
def EU:=@List.drop_length
def EV:=@List.getElem?_eq_none
def EW:=@List.mem_iff_getElem?
def EX:=@PySem.F.slot_dict_get
def EY:=@PySem.Calls.evalArgs_plain
def EZ:=@List.length_nil
def FA:=@List.range_succ
def FB:=@List.find?_cons
def FD:=@List.filterMap_cons
def FE:=@List.getElem?_range
def FF:=@PySem.F.args_tuple_iterator_next_1
def FG:=@List.sum_cons
def FH:=@List.length_range
def FI:=@List.map_nil
def FJ:=@List.mem_flatten
def FK:=@Nat.not_lt_zero
theorem FL{α:Sort u}{a:α}:a=a:=rfl
set_option tactic.hygienic false
theorem QzRa (h:1=1:=by rfl):True:=trivial
def QzR:Lean.Syntax:=QzRa._auto_1
theorem QzKa (h:1=1:=by decide+kernel):True:=trivial
def QzK:Lean.Syntax:=QzKa._auto_1
namespace L2
open PySem PySem.Spec PyProof.Rows
abbrev Z0:=Sum Int Str
def Ix:Z0->WQ->Bool
 | .inl k,v=>Value.isInt k v
 | .inr x,v=>Value.isStrOf x v
def dL (w:WN):Z0->Int
 | .inl k=>hashInt k
 | .inr x=>hashStr w x
def Y9:∀{k:Z0} {v:WQ},Ix k v=true->(∃i t,k=Sum.inl i/\v=Value.int i t)\/(∃x t,k=Sum.inr x/\v=Value.str x t)
 | .inl i,v,h=>by
  obtain⟨t,e⟩:=Value.isInt_shape (k:=i) (v:=v) h;exact .inl ⟨i,t,FL,e⟩
 | .inr x,v,h=>by
  obtain⟨t,e⟩:=Value.isStrOf_shape (x:=x) (v:=v) h;exact .inr ⟨x,t,FL,e⟩
def w8 (i:Int)(t:Tok):Ix (.inl i) (.int i t)=true:=by simp[Ix,Value.isInt]
def w6 (x:Str)(t:Tok):Ix (.inr x) (.str x t)=true:=by simp[Ix,Value.isStrOf]
def lG (a b:Int):decide ((Sum.inl a:Z0)=Sum.inl b)=(a==b):=by
 by_cases e:a=b
 ·subst e;simp
 ·have h:¬(Sum.inl a:Z0)=Sum.inl b:=λq=>e (Sum.inl.inj q);rw[YG h];exact(beq_eq_false_iff_ne.mpr e).symm
def lC (a b:Str):decide ((Sum.inr a:Z0)=Sum.inr b)=decide (a=b):=by
 by_cases e:a=b
 ·subst e;simp
 ·have h:¬(Sum.inr a:Z0)=Sum.inr b:=λq=>e (Sum.inr.inj q);rw[YG h,YG e]
def lE (a:Int)(b:Str):decide ((Sum.inl a:Z0)=Sum.inr b)=false:=YG (λq=>nomatch q)
def lD (a:Str)(b:Int):decide ((Sum.inr a:Z0)=Sum.inl b)=false:=YG (λq=>nomatch q)
def Yq (prog:WO)(w:WN):PySem.KeyKind prog w Z0 where
 is:=Ix
 hash:=dL w
 inj:=λv a b ha hb=>by
  rcases Y9 ha with⟨i,t,rfl,rfl⟩ | ⟨x,t,rfl,rfl⟩
  ·rcases Y9 hb with⟨j,u,rfl,e⟩ | ⟨y,u,rfl,e⟩
   ·injection e with e1 _;rw[e1]
   ·exact nomatch e
  ·rcases Y9 hb with⟨j,u,rfl,e⟩ | ⟨y,u,rfl,e⟩
   ·exact nomatch e
   ·injection e with e1 _;rw[e1]
 byValue:=λk v h=>by
  rcases Y9 h with⟨i,t,rfl,rfl⟩ | ⟨x,t,rfl,rfl⟩<;>rfl
 pyHash:=λhv h=>by
  rcases Y9 hv with⟨i,t,rfl,rfl⟩ | ⟨x,t,rfl,rfl⟩
  ·exact wpAny_pyHash_int h
  ·exact wpAny_pyHash_str h
 eqBool:=λhu hv h=>by
  rcases Y9 hu with⟨i,t,rfl,rfl⟩ | ⟨x,t,rfl,rfl⟩
  ·rcases Y9 hv with⟨j,u,rfl,rfl⟩ | ⟨y,u,rfl,rfl⟩
   ·rw[lG] at h;exact wpAny_eqBool_int h
   ·rw[lE] at h;exact SeqAt.EqAt.int_str i t y u _ _ _ _ h
  ·rcases Y9 hv with⟨j,u,rfl,rfl⟩ | ⟨y,u,rfl,rfl⟩
   ·rw[lD] at h;exact SeqAt.EqAt.str_int x t j u _ _ _ _ h
   ·rw[lC] at h;exact wpAny_eqBool_str h
 «strs»:=λk x t v h=>by
  rcases Y9 h with⟨i,u,rfl,e⟩ | ⟨y,u,rfl,e⟩
  ·exact nomatch e
  ·injection e with e1 _
   subst e1
   cases v<;>rfl
def yX (prog:WO)(w:WN)(k:Z0)(v:WQ):(Yq prog w).is k v=Ix k v:=rfl
def zI (prog:WO)(w:WN)(i:Int)(t:Tok):(Yq prog w).is (.inl i) (.int i t)=true:=w8 i t
def zH (prog:WO)(w:WN)(x:Str)(t:Tok):(Yq prog w).is (.inr x) (.str x t)=true:=w6 x t
inductive V where
 | non | bl (b:Bool) | int (i:Int) | str (x:Str) | byt (b:Array UInt8) | flt (b:UInt64) | ref (a:WP) | ty (n:String)
 deriving DecidableEq
def Ye:V->WQ->Prop
 | .non,u=>u=Value.none
 | .bl b,u=>u=Value.bool b
 | .int i,u=>∃t,u=Value.int i t
 | .str x,u=>∃t,u=Value.str x t
 | .byt b,u=>∃t,u=Value.bytes b t
 | .flt b,u=>∃t,u=Value.float b t
 | .ref a,u=>u=Value.ref a
 | .ty n,u=>u=Value.type n
abbrev Yd:List V->List WQ->Prop:=Paired Ye
def Yd.length (r:Yd xs us):xs.length=us.length:=Paired.length r
def Yd.get:∀{xs:List V} {us:List WQ} {i:Nat} {x:V},Yd xs us->xs[i]?=some x->∃u,us[i]?=some u/\Ye x u
 | _,_,_,_,.nil,e=>by simp at e
 | _,_,0,_,.cons r _,e=>by simp at e;subst e;exact⟨_,FL,r⟩
 | _,_,i+1,x,.cons _ t,e=>by
  obtain⟨u,h1,h2⟩:=Yd.get (i:=i) (x:=x) t (by simpa using e);exact⟨u,by simpa using h1,h2⟩
def Yd.set (r:Ye x u):∀{xs:List V} {us:List WQ} (i:Nat),Yd xs us->Yd (xs.set i x) (us.set i u)
 | _,_,_,.nil=>.nil
 | _,_,0,.cons _ t=>.cons r t
 | _,_,i+1,.cons q t=>.cons q (Yd.set r i t)
def Yd.append:∀{xs ys:List V} {us ws:List WQ},Yd xs us->Yd ys ws->Yd (xs++ys) (us++ws)
 | _,_,_,_,.nil,s=>s
 | _,_,_,_,.cons r t,s=>.cons r (Yd.append t s)
def Yd.take:∀{xs:List V} {us:List WQ} (n:Nat),Yd xs us->Yd (xs.take n) (us.take n)
 | _,_,0,_=>.nil
 | _,_,_+1,.nil=>.nil
 | _,_,n+1,.cons r t=>.cons r (Yd.take n t)
def Yd.drop:∀{xs:List V} {us:List WQ} (n:Nat),Yd xs us->Yd (xs.drop n) (us.drop n)
 | _,_,0,r=>r
 | _,_,_+1,.nil=>.nil
 | _,_,n+1,.cons _ t=>Yd.drop n t
def Q9:Option V->Option WQ->Prop
 | some v,some u=>Ye v u
 | none,none=>True
 | _,_=>False
def KV {κ:Type}:List (κ×V)->List (κ×WQ)->Prop:=Paired λ(p:κ×V) (q:κ×WQ)=>p.1=q.1/\Ye p.2 q.2
def kV:Z0->V
 | .inl i=>.int i
 | .inr x=>.str x
inductive HO where
  | lst (xs:List V)
  | tup (xs:List V)
  | dK (kvs:List (Z0×V)) | dT (kvs:List (List Z0×V))
  | set (S:Int->Bool) (n:Nat)
  | ins (C dx:WP) (fs:List (Str×V))
  | own (x:WP)
  | xd (fs:List (Str×V))
  | met (f x:WP)
  | rng (lo hi:Int)
  | frz (o:Obj) (u:HO)
  | tbl (ps:Array WQ)
  | ext (φ:WU->Prop)
abbrev Hp:=WP->Option HO
def Yz (H:Hp)(a:WP)(o:HO):Hp:=λb=>if b=a then some o else H b
def Z3:Yz H a o a=some o:=by unfold Yz;rw[XY rfl]
def Zt {a b:WP}(h:b≠a):Yz H a o b=H b:=by unfold Yz;rw[XX h]
def gC {H:Hp}(h:H a=some o)(h':H b=some u)(d:o≠u):a≠b:=by
 intro e;subst e;rw[h] at h';exact d (YH h')
def Jm {H:Hp}(h:H a=some o)(h':H b=none):a≠b:=by
 intro e;subst e;rw[h] at h';cases h'
section
variable (P:WO)(w:WN)
def Ji (H:Hp)(h:WU)(a:WP):HO->Prop
 | .lst xs=>xs.length<=sizeLine/\∃(its:List WQ) (n:Nat),Yd xs its/\h.get? a=some {cls:=.type "list",data:=.seq its.toArray n}
 | .tup xs=>xs.length<=sizeLine/\∃its:List WQ,Yd xs its/\IsTup h a its.toArray
 | .dK kvs=>kvs.length<=sizeLine/\(a==sysModules)=false/\∃vs,KV kvs vs/\h.DictOf (Yq P w) a vs
 | .dT kvs=>kvs.length<=sizeLine/\(a==sysModules)=false/\∃xs:List (List Z0×WP×WQ),
   Paired (λ(p:List Z0×V) (q:List Z0×WP×WQ)=>p.1=q.1/\H q.2.1=some (.tup (p.1.map kV))/\Ye p.2 q.2.2) kvs xs/\
   ∃o es ep,h.get? a=some o/\o.ExactDict/\o.data=.dict es ep/\es.toList=xs.map (entryOfKey (tupleKind (Yq P w)))/\(xs.map (·.1)).Nodup
 | .set S n=>h.SetOf (intKind P w) a S n
 | .ins C dx fs=>H dx=some (.own a)/\fs.length<=1000/\dx≠a/\h.get? a=some (W.instObj C dx)/\
   ∃mA,h.Ns1 dx mA/\(∀f,Q9 (fs.lookup f) (mA f))/\PySem.Within mA (fs.map (·.1))
 | .own _=>∃o,h.get? a=some o
 | .xd fs=>∃mA,h.Ns1 a mA/\∀f,Q9 (fs.lookup f) (mA f)
 | .rng lo hi=>∃t u v,h.get? a=some {cls:=.type "range",data:=.fields #[.int lo t,.int hi u,.int 1 v]}
 | .frz o u=>h.get? a=some o/\Ji H h a u
 | .tbl ps=>h.get? a=some {cls:=.none,data:=.fields ps}
 | .met f x=>h.get? a=some (W.methodObj (.ref f) (.ref x))
 | .ext φ=>φ h/\(∃o,h.get? a=some o)/\∀h1 h2:WU,φ h1->(∀o,h1.get? a=some o->h2.get? a=some o)->φ h2
def M7 (H:Hp)(h:WU):Prop:=∀a o,H a=some o->Ji P w H h a o
end
section
variable {P:WO}{w:WN}{H H':Hp}{h h':WU}{a:WP}{o:HO}
def Ji.lt (x:Ji P w H h a o):a<h.objs.size:=by
 cases o with
 | lst xs=>obtain⟨_,_,_,_,e⟩:=x;exact XD e
 | tup xs=>obtain⟨_,_,_,p⟩:=x;exact p.lt
 | dK kvs=>obtain⟨_,_,_,_,o,_,_,e,_⟩:=x;exact XD e
 | dT kvs=>obtain⟨_,_,_,_,o,_,_,e,_⟩:=x;exact XD e
 | set S n=>obtain⟨o,_,_,_,e,_⟩:=x;exact XD e
 | ins C dx fs=>obtain⟨_,_,_,e,_⟩:=x;exact XD e
 | own y=>obtain⟨_,e⟩:=x;exact XD e
 | xd fs=>obtain⟨_,⟨_,_,_,e,_⟩,_⟩:=x;exact XD e
 | rng lo hi=>obtain⟨_,_,_,e⟩:=x;exact XD e
 | frz ob u=>obtain⟨e,_⟩:=x;exact XD e
 | tbl ps=>exact XD (show h.get? a=some _ from x)
 | met f y=>exact XD (show h.get? a=some _ from x)
 | ext φ=>obtain⟨_,⟨_,e⟩,_⟩:=x;exact XD e
def Paired.mapP {α β:Type}{F G:α->β->Prop}:∀{l₁:List α} {l₂:List β},Paired F l₁ l₂->(∀a b,F a b->G a b)->Paired G l₁ l₂
 | _,_,.nil,_=>.nil
 | _,_,.cons r t,f=>.cons (f _ _ r) (Paired.mapP t f)
def Ji.stay (x:Ji P w H h a o)(k:∀b u,(b=a\/H b=some (.own a))->h.get? b=some u->h'.get? b=some u)
  (ho:∀b,H b=some (.own a)->H' b=some (.own a)) (ht:∀b xs,H b=some (.tup xs)->H' b=some (.tup xs)):Ji P w H' h' a o:=by
 induction o with
 | lst xs=>obtain⟨z,its,n,r,e⟩:=x;exact⟨z,its,n,r,k _ _ (.inl FL) e⟩
 | tup xs=>obtain⟨z,its,r,ob,e,c⟩:=x;exact⟨z,its,r,ob,k _ _ (.inl FL) e,c⟩
 | dK kvs=>obtain⟨z,y,vs,r,ob,es,ep,e,c⟩:=x;exact⟨z,y,vs,r,ob,es,ep,k _ _ (.inl FL) e,c⟩
 | dT kvs=>
  obtain⟨z,y,xs,r,ob,es,ep,e,c⟩:=x;exact⟨z,y,xs,Paired.mapP r λp q z=>⟨z.1,ht _ _ z.2.1,z.2.2⟩,ob,es,ep,k _ _ (.inl FL) e,c⟩
 | set S n=>obtain⟨ob,es,ep,t,e,c⟩:=x;exact⟨ob,es,ep,t,k _ _ (.inl FL) e,c⟩
 | ins C dx fs=>
  obtain⟨d,z,ne,e,mA,⟨od,es,ep,e2,c⟩,r⟩:=x;exact⟨ho _ d,z,ne,k _ _ (.inl FL) e,mA,⟨od,es,ep,k _ _ (.inr d) e2,c⟩,r⟩
 | own y=>obtain⟨ob,e⟩:=x;exact⟨ob,k _ _ (.inl FL) e⟩
 | xd fs=>obtain⟨mA,⟨od,es,ep,e,c⟩,r⟩:=x;exact⟨mA,⟨od,es,ep,k _ _ (.inl FL) e,c⟩,r⟩
 | rng lo hi=>obtain⟨t,u,v,e⟩:=x;exact⟨t,u,v,k _ _ (.inl FL) e⟩
 | frz ob u ih=>obtain⟨e,q⟩:=x;exact⟨k _ _ (.inl FL) e,ih q⟩
 | tbl ps=>
  have e:h.get? a=some {cls:=.none,data:=.fields ps}:=x;show h'.get? a=some {cls:=.none,data:=.fields ps};exact k a _ (.inl FL) e
 | met f y=>
  have e:h.get? a=some (W.methodObj (.ref f) (.ref y)):=x;show h'.get? a=some (W.methodObj (.ref f) (.ref y));exact k a _ (.inl FL) e
 | ext φ=>obtain⟨p,⟨o,e⟩,st⟩:=x;exact⟨st _ _ p λo q=>k _ _ (.inl FL) q,⟨o,k _ _ (.inl FL) e⟩,st⟩
def M7.lt (x:M7 P w H h)(e:H a=some o):a<h.objs.size:=(x a o e).lt
def M7.fresh (x:M7 P w H h)(e:h.objs.size<=a):H a=none:=by
 cases q:H a with
 | none=>rfl
 | some u=>exact absurd (XG (x.lt q) e) (BL _)
def M7.kept (x:M7 P w H h)(k:∀b u,h.get? b=some u->h'.get? b=some u):M7 P w H h':=λa o e=>
 (x a o e).stay (λb u _ q=>k b u q) (λ_ q=>q) λ_ _ q=>q
def M7.laid (x:M7 P w H h)(k:∀b u,h.get? b=some u->h'.get? b=some u)(hp:h.objs.size<=a)(new:Ji P w (Yz H a o) h' a o):M7 P w (Yz H a o) h':=λb u e=>by
 have hn:=x.fresh hp;by_cases hb:b=a
 ·subst hb;rw[Z3] at e;cases e;exact new
 ·rw[Zt hb] at e;exact(x b u e).stay (λc v _ q=>k c v q) (λc q=>by rw[Zt (Jm q hn)];exact q) λc xs q=>by rw[Zt (Jm q hn)];exact q
end
def Rd (H:Hp)(a:WP)(u:HO):Prop:=H a=some u\/∃o,H a=some (.frz o u)
def Rd.ok (r:Rd H a u)(x:M7 P w H h):Ji P w H h a u:=by
 rcases r with r | ⟨o,r⟩
 ·exact x a u r
 ·obtain⟨_,q⟩:=x a _ r;exact q
def fI:Option HO->Prop
 | some (.lst _)=>True
 | some (.dK _)=>True
 | some (.dT _)=>True
 | some (.set _ _)=>True
 | some (.ins _ _ _)=>True
 | some (.ext _)=>True
 | _=>False
section
variable {P:WO}{w:WN}{H:Hp}{h h':WU}{x e:WP}{o':HO}
def M7.write (ok:M7 P w H h)(mu:fI (H x))(he:e=x\/H e=some (.own x))(k:∀b u,b≠e->h.get? b=some u->h'.get? b=some u)(heo:∃u,h'.get? e=some u)
  (new:Ji P w (Yz H x o') h' x o'):M7 P w (Yz H x o') h':=λb u q=>by
 have nown:∀c y,H c=some (.own y)->c≠x:=λc y r z=>by subst z;rw[r] at mu;exact mu
 have ntup:∀c xs,H c=some (.tup xs)->c≠x:=λc xs r z=>by subst z;rw[r] at mu;exact mu
 by_cases hb:b=x
 ·subst hb;rw[Z3] at q;cases q;exact new
 ·rw[Zt hb] at q;by_cases hbe:b=e
  ·have q':H b=some (.own x):=by
    rcases he with z | z
    ·exact absurd (hbe.trans z) hb
    ·rw[hbe];exact z
   rw[q] at q';cases q';obtain⟨v,hv⟩:=heo;exact⟨v,by rw[hbe];exact hv⟩
  ·refine(ok b u q).stay (λc v hc r=>k c v ?_ r) (λc r=>by rw[Zt (nown c b r)];exact r) λc xs r=>by rw[Zt (ntup c xs r)];exact r
   rcases hc with rfl | hc
   ·exact hbe
   ·rintro rfl
    rcases he with z | z
    ·exact nown c b hc z
    ·rw[hc] at z;cases z;exact hb FL
end
structure Un (fs ex:List Addr)(H H':Hp)(h h':Heap):Prop where
 keep:∀b o,h.get? b=some o->H b=none->b∉fs->b∉ex->h'.get? b=some o
 slot:∀b o,h.get? b=some o->H b=none->b∈fs->b∉ex->∃sl,h'.get? b=some {o with slots:=sl}
 free:∀b o,h.get? b=some o->H b=none->b∉ex->H' b=none
 there:∀b o,h.get? b=some o->b∉ex->∃o',h'.get? b=some o'
 tups:∀b xs,H b=some (.tup xs)->H' b=some (.tup xs)
 frzs:∀b o u,H b=some (.frz o u)->H' b=some (.frz o u)
 tbls:∀b ps,H b=some (.tbl ps)->∃more,H' b=some (.tbl (ps++more))
section
variable {fs fs' ex ex':List WP}{H H1 H2:Hp}{h h1 h2 h':WU}{a x e:WP}{o:HO}
def Un.any (u:Un fs ex H H1 h h1){b:WP}(q:h.get? b=some ob)(n:H b=none)(hx:b∉ex):∃sl,h1.get? b=some {ob with slots:=sl}:=by
 by_cases hb:b∈fs
 ·exact u.slot b ob q n hb hx
 ·exact⟨ob.slots,u.keep b ob q n hb hx⟩
def Un.kept (k:∀b u,h.get? b=some u->h'.get? b=some u):Un fs ex H H h h':=
 ⟨λb ob q _ _ _=>k b ob q,λb ob q _ _ _=>⟨ob.slots,k b ob q⟩,λ_ _ _ n _=>n,λb ob q _=>⟨ob,k b ob q⟩,λ_ _ q=>q,λ_ _ _ q=>q,λ_ ps q=>⟨#[],by rw[q];simp⟩⟩
def Un.refl:Un fs ex H H h h:=Un.kept λ_ _ q=>q
def Un.laid (k:∀b u,h.get? b=some u->h'.get? b=some u)(hp:h.objs.size<=a)(hn:H a=none):Un fs ex H (Yz H a o) h h' where
 keep:=λb u q _ _ _=>k b u q
 slot:=λb u q _ _ _=>⟨u.slots,k b u q⟩
 free:=λb u q n _=>by rw[Zt (XH (XG (XD q) hp))];exact n
 there:=λb u q _=>⟨u,k b u q⟩
 tups:=λb xs q=>by rw[Zt (Jm q hn)];exact q
 frzs:=λb u xs q=>by rw[Zt (Jm q hn)];exact q
 tbls:=λb ps q=>⟨#[],by rw[Zt (Jm q hn),q];simp⟩
def Un.write (mu:fI (H x))(he:e=x\/H e=some (.own x))(k:∀b u,b≠e->h.get? b=some u->h'.get? b=some u)(heo:∃u,h'.get? e=some u):Un fs ex H (Yz H x o) h h':=by
 have hx:∀b,H b=none->b≠x:=λb n z=>by subst z;rw[n] at mu;exact mu
 have hb:∀b,H b=none->b≠e:=λb n z=>by
  subst z
  rcases he with r | r
  ·exact hx b n r
  ·rw[n] at r;cases r
 have hm:∀b u,H b=some u->¬fI (some u)->b≠x:=λb u q nm z=>by subst z;rw[q] at mu;exact nm mu
 refine⟨λb u q n _ _=>k b u (hb b n) q,λb u q n _ _=>⟨u.slots,k b u (hb b n) q⟩,λb u q n _=>by rw[Zt (hx b n)];exact n,λb u q _=>?_,
  λb xs q=>by rw[Zt (hm b _ q λz=>z)];exact q,λb u xs q=>by rw[Zt (hm b _ q λz=>z)];exact q,λb ps q=>⟨#[],by rw[Zt (hm b _ q λz=>z),q];simp⟩⟩
 by_cases hbe:b=e
 ·subst hbe;exact heo
 ·exact⟨u,k b u hbe q⟩
end
def fL (h:WU)(H:Hp):List WP:=(List.range h.objs.size).filter λa=>(H a).isSome
def B0 (h:WU)(H:Hp):WU:=W.hideAll h (fL h H)
def wE (h:WU)(H:Hp):(B0 h H).objs.size=h.objs.size:=W.hideAll_size _ _
def tL {h:WU}{H:Hp}{b:WP}(e:h.get? b=some o)(n:H b=none):(B0 h H).get? b=some o:=
 W.hideAll_get _ e λhm=>by
  have q:(H b).isSome=true:=(List.mem_filter.mp hm).2;rw[n] at q;simp at q
def qA {b:WP}(e:(B0 h H).get? b=some o):h.get? b=some o/\H b=none:=by
 have e':h.get? b=some o:=W.of_hideAll (fL h H) e;refine⟨e',?_⟩
 cases q:H b with
 | none=>rfl
 | some x=>
  have hm:b∈fL h H:=List.mem_filter.mpr ⟨List.mem_range.mpr (Heap.lt_size e'),by simp[q]⟩;have z:(B0 h H).get? b=none:=W.hideAll_none (fL h H) hm;rw[z] at e;cases e
def pQ (g h:WU)(L:WP):List (WP×Obj):=(List.range h.objs.size).filterMap λa=>if a=L\/(g.get? a).isSome=true then none else(h.get? a).map λo=>(a,o)
def J4 (g h:WU)(L d:WP):List (WP×Obj):=(pQ g h L).filter λp=>decide (p.1≠d)
structure Mod (K:W.Frag)(mg:Str->Option Value)(base:Heap):Prop where
 kin:K.In base
 glob:base.Ns mainGlobals mg
 blt:∃mb,base.Ns builtinsNs mb/\∀x:Str,x≠"__name__"->mb x=bootBuiltins x
 nolimit:base.NoLimit
structure Cx where
 prog:WO
 w:WN
 K:WY
 mg:Str->Option WQ
 base:WU
 A:WM
 N:List Str
 s₀:WR
 H₀:Hp
 env:Env
 outer:List Env
 stack:List Env
 ex:List WP
 fn:Str->Bool
 calm:Bool
 pn:List (WP×Obj)
 xe:WQ->WR->Prop
def wG (l:List Env):List WP:=l.filterMap (·.frame)
abbrev Cx.fs (X:Cx):List WP:=wG X.outer
def fS (sc:Scope)(x:Str):Prop:=sc.names.lookup x=some .local\/sc.names.lookup x=some .cell\/sc.names.lookup x=some .free
def ic (sc:Scope)(x:Str):Prop:=sc.names.lookup x=some .local\/sc.names.lookup x=some .cell
def cD (env:Env)(h:WU)(m:Str->Option WQ)(x:Str)(u:WQ):Prop:=
 (env.kindOf x=some .local/\m x=some u)\/((env.kindOf x=some .cell\/env.kindOf x=some .free)/\∃c,env.cells.lookup x=some c/\h.IsCell c (some u))
structure Cx.Ok (X:Cx):Prop where
 mod:Mod X.K X.mg X.base
 kind:X.env.scope.kind=.function
 glob:X.env.globals=mainGlobals
 blt:X.env.builtins=builtinsNs
 above:X.s₀.heap.objs.size<=X.env.locals
 inj:∀x y c,X.env.cells.lookup x=some c->X.env.cells.lookup y=some c->x=y
 has:∀x,(X.env.kindOf x=some .cell\/X.env.kindOf x=some .free)->∃c,X.env.cells.lookup x=some c
 cab:∀x c,X.fn x=true->X.env.cells.lookup x=some c->X.s₀.heap.objs.size<=c
 hd:X.calm=true->X.A.handled=none
 frames:X.A.frames=some X.stack
 stk:X.stack=X.outer\/(X.stack=X.env::X.outer/\X.env.frame=some X.env.locals)
 exf:∀b∈X.ex,b≠X.env.locals/\∀x c,X.env.cells.lookup x=some c->c≠b
 bs:∀b o,X.base.get? b=some o->X.s₀.heap.get? b=some o/\X.H₀ b=none
 bsz:X.base.objs.size<=X.s₀.heap.objs.size
 noex:∀b o,X.base.get? b=some o->b∉X.ex
 exfs:∀b∈X.ex,b∉X.fs
 funs:X.s₀.heap.FunFrames X.base X.outer
 frf:∀b∈X.fs,X.H₀ b=none
structure Zy (X:Cx)(WZ:List (Addr×Obj))(σ:List (Option V))(H:Hp)(s:Shared):Prop where
 ok:X.Ok
 os:s.os=X.s₀.os
 bare:AllBare s.gens
 base:Un X.fs X.ex X.H₀ H X.s₀.heap s.heap
 loc:∃m,s.heap.Ns X.env.locals m/\∀(i:Nat) (x:Str) (v:V),X.N[i]?=some x->σ[i]?=some (some v)->fS X.env.scope x->∃u,Ye v u/\cD X.env s.heap m x u
 cell:∀x c,X.env.cells.lookup x=some c->∃v,s.heap.IsCell c v
 free:H X.env.locals=none
 freeC:∀x c,X.env.cells.lookup x=some c->H c=none
 pin:∀p∈X.pn++WZ,s.heap.get? p.1=some p.2/\H p.1=none/\p.1≠X.env.locals/\p.1∉X.fs/\∀v,p.2.data≠.cell v
 hok:M7 X.prog X.w H s.heap
 len:σ.length=X.N.length
section
variable {X:Cx}{WZ:List (WP×Obj)}{σ:List (Option V)}{H H':Hp}{s:WR}{h':WU}
def Cx.Ok.nofr (ok:X.Ok){b:WP}(e:X.base.get? b=some o):b∉X.fs:=λhb=>by
 have:=(ok.funs.mem hb).1;rw[e] at this;cases this
def Zy.bs (I:Zy X WZ σ H s):∀b o,X.base.get? b=some o->s.heap.get? b=some o/\H b=none:=λb o e=>
 ⟨I.base.keep b o (I.ok.bs b o e).1 (I.ok.bs b o e).2 (I.ok.nofr e) (I.ok.noex b o e),I.base.free b o (I.ok.bs b o e).1 (I.ok.bs b o e).2 (I.ok.noex b o e)⟩
def Zy.bk (I:Zy X WZ σ H s):∀b o,X.base.get? b=some o->s.heap.get? b=some o:=λb o e=>(I.bs b o e).1
def Zy.mod (I:Zy X WZ σ H s):Mod X.K X.mg X.base:=I.ok.mod
def Zy.kIn (I:Zy X WZ σ H s):X.K.In s.heap:=I.ok.mod.kin.keeps I.bk
def Zy.lt (I:Zy X WZ σ H s):X.env.locals<s.heap.objs.size:=let ⟨_,hn,_⟩:=I.loc;hn.lt
def Zy.sz (I:Zy X WZ σ H s):X.s₀.heap.objs.size<=s.heap.objs.size:=XN I.ok.above (CI I.lt)
def Zy.nofs (I:Zy X WZ σ H s){a:WP}(h:s.heap.objs.size<=a):a∉X.fs:=λhb=>by
 obtain⟨_,o,ho,_⟩:=I.ok.funs.mem hb;exact absurd (XG (XD ho) (XN I.sz h)) (BL _)
def Zy.cne (I:Zy X WZ σ H s):∀x c,X.env.cells.lookup x=some c->c≠X.env.locals:=λx c e z=>by
 obtain⟨v,o,ho,hd⟩:=I.cell x c e;obtain⟨m,⟨o',es,ep,ho',hd',_⟩,_⟩:=I.loc;rw[z,ho'] at ho;cases ho;rw[hd'] at hd;cases hd
def Zy.funs (I:Zy X WZ σ H s):s.heap.FunFrames X.base X.outer:=by
 have all:∀(l:List Env),(∀b∈wG l,b∈X.fs)->X.s₀.heap.FunFrames X.base l->s.heap.FunFrames X.base l:=by
  intro l
  induction l with
  | nil=>intro _ _;trivial
  | cons env r ih=>
   intro hs hl;obtain⟨hk,⟨L,o,hf,hn,ho,hd⟩,hr⟩:=hl;have hL:L∈X.fs:=hs L (by unfold wG;rw[FD,hf];exact BD);obtain⟨sl,e⟩:=I.base.slot L o ho (I.ok.frf L hL) hL λz=>I.ok.exfs L z hL;exact⟨hk,⟨L,_,hf,hn,e,hd⟩,ih (λb hb=>hs b (by unfold wG;rw[FD,hf];exact XV _ hb)) hr⟩
 exact all X.outer (λ_ hb=>hb) I.ok.funs
def Zy.stack (I:Zy X WZ σ H s):s.heap.FunFrames X.base X.stack:=by
 rcases I.ok.stk with e | ⟨e,hf⟩
 ·rw[e];exact I.funs
 ·rw[e];obtain⟨m,hn,_⟩:=I.loc;refine .cons (by rw[I.ok.kind];decide) hf hn ?_ I.funs;exact Heap.get?_none_of_le (XN I.ok.bsz I.ok.above)
def Zy.stkSub (I:Zy X WZ σ H s):∀b∈wG X.stack,b∈X.env.locals::X.fs:=λb hb=>by
 rcases I.ok.stk with e | ⟨e,hf⟩
 ·rw[e] at hb;exact XV _ hb
 ·rw[e] at hb;unfold wG at hb;rw[FD,hf] at hb;exact hb
def Zy.stkFree (I:Zy X WZ σ H s):∀b∈wG X.stack,H b=none:=λb hb=>by
 rcases BC.mp (I.stkSub b hb) with e | hb
 ·rw[e];exact I.free
 ·obtain⟨_,o,ho,_⟩:=I.ok.funs.mem hb;exact I.base.free b o ho (I.ok.frf b hb) λz=>I.ok.exfs b z hb
def Zy.step {g':Array GenState}{t':Nat}{d':Drawn}{ch:List WP}(I:Zy X WZ σ H s)
  (hch:∀b∈ch,(b∈X.ex\/X.s₀.heap.objs.size<=b)/\b≠X.env.locals/\(∀x c,X.env.cells.lookup x=some c->c≠b)/\∀p∈X.pn++WZ,p.1≠b)
  (keep:∀b o,b≠X.env.locals->b∉X.fs->b∉ch->s.heap.get? b=some o->H b=none->h'.get? b=some o)
  (slot:∀b o,b≠X.env.locals->b∈X.fs->b∉ch->s.heap.get? b=some o->H b=none->∃sl,h'.get? b=some {o with slots:=sl}) (free:∀b o,b∉ch->s.heap.get? b=some o->H b=none->H' b=none)
  (there:∀b o,b∉ch->s.heap.get? b=some o->∃o',h'.get? b=some o')
  (tups:∀b xs,H b=some (.tup xs)->H' b=some (.tup xs)) (frzs:∀b o u,H b=some (.frz o u)->H' b=some (.frz o u)) (tbls:∀b ps,H b=some (.tbl ps)->∃more,H' b=some (.tbl (ps++more)))
  (ns:∀m,s.heap.Ns X.env.locals m->h'.Ns X.env.locals m) (hok:M7 X.prog X.w H' h') (hg:AllBare g'):
  Zy X WZ σ H' {s with heap:=h',gens:=g',drawn:=d',toks:=t'}:=by
 have neL:∀b o,X.s₀.heap.get? b=some o->b≠X.env.locals:=λb o e=>XH (XG (XD e) I.ok.above);have neC:∀b o,X.s₀.heap.get? b=some o->b∉X.ex->b∉ch:=λb o e hx hb=>by
  rcases (hch b hb).1 with z | z
  ·exact hx z
  ·exact absurd (XG (XD e) z) (BL _)
 have cellK:∀x c,X.env.cells.lookup x=some c->∀v,s.heap.IsCell c v->h'.IsCell c v:=λx c e v ⟨o,ho,hd⟩=>by
  have nch:c∉ch:=λz=>(hch c z).2.2.1 x c e FL;by_cases hc:c∈X.fs
  ·obtain⟨sl,q⟩:=slot c o (I.cne x c e) hc nch ho (I.freeC x c e);exact⟨_,q,hd⟩
  ·exact⟨o,keep c o (I.cne x c e) hc nch ho (I.freeC x c e),hd⟩
 refine⟨I.ok,I.os,hg,⟨λb o e n hb hx=>?_,λb o e n hb hx=>?_,λb o e n hx=>?_,λb o e hx=>?_,λb xs e=>tups b xs (I.base.tups b xs e),λb o xs e=>frzs b o xs (I.base.frzs b o xs e),λb ps e=>?_⟩,?_,λx c e=>?_,?_,λx c e=>?_,λp hp=>?_,hok,I.len⟩
 ·exact keep b o (neL b o e) hb (neC b o e hx) (I.base.keep b o e n hb hx) (I.base.free b o e n hx)
 ·obtain⟨sl,e1⟩:=I.base.slot b o e n hb hx;obtain⟨sl',e2⟩:=slot b _ (neL b o e) hb (neC b o e hx) e1 (I.base.free b o e n hx);exact⟨sl',e2⟩
 ·obtain⟨o',e1⟩:=I.base.there b o e hx;exact free b o' (neC b o e hx) e1 (I.base.free b o e n hx)
 ·obtain⟨o',e1⟩:=I.base.there b o e hx;exact there b o' (neC b o e hx) e1
 ·obtain⟨m1,e1⟩:=I.base.tbls b ps e;obtain⟨m2,e2⟩:=tbls b _ e1;exact⟨m1++m2,by rw[e2,Array.append_assoc]⟩
 ·obtain⟨m,hn,hl⟩:=I.loc;refine⟨m,ns m hn,λi x v e1 e2 e3=>?_⟩;obtain⟨u,r,l⟩:=hl i x v e1 e2 e3;refine⟨u,r,?_⟩
  rcases l with l | ⟨k,c,e,z⟩
  ·exact .inl l
  ·exact .inr ⟨k,c,e,cellK x c e _ z⟩
 ·obtain⟨v,z⟩:=I.cell x c e;exact⟨v,cellK x c e v z⟩
 ·obtain⟨m,⟨o,_,_,ho,_⟩,_⟩:=I.loc;exact free _ o (λz=>(hch _ z).2.1 FL) ho I.free
 ·obtain⟨v,o,ho,hd⟩:=I.cell x c e;exact free c o (λz=>(hch c z).2.2.1 x c e FL) ho (I.freeC x c e)
 ·obtain⟨e,n,ne,nf,d⟩:=I.pin p hp;have nch:p.1∉ch:=λz=>(hch p.1 z).2.2.2 p hp FL;exact⟨keep p.1 p.2 ne nf nch e n,free p.1 p.2 nch e n,ne,nf,d⟩
def Zy.un {t':Nat}(I:Zy X WZ σ H s)(u:Un X.fs [] H H' s.heap h')(hok:M7 X.prog X.w H' h'):Zy X WZ σ H' {s with heap:=h',toks:=t'}:=by
 obtain⟨m,⟨o,es,ep,ho,r⟩,_⟩:=id I.loc;obtain⟨sl,hL⟩:=u.any ho I.free (by simp);exact I.step (g':=s.gens) (d':=s.drawn) (ch:=[]) (λ_ z=>nomatch z) (λb o _ hb _ e n=>u.keep b o e n hb (by simp)) (λb o _ hb _ e n=>u.slot b o e n hb (by simp)) (λb o _ e n=>u.free b o e n (by simp)) (λb o _ e=>u.there b o e (by simp)) u.tups u.frzs u.tbls (λm' hm=>by
  obtain⟨o',es',ep',ho',r'⟩:=hm;rw[ho] at ho';cases ho';exact⟨_,es',ep',hL,r'⟩) hok I.bare
def Zy.call {t':Nat}{d':Drawn}(I:Zy X WZ σ H s)(u:Un (wG X.stack) ch H H' s.heap h')(hok:M7 X.prog X.w H' h')(hg:AllBare g')
  (hch:∀b∈ch,(b∈X.ex\/X.s₀.heap.objs.size<=b)/\b≠X.env.locals/\(∀x c,X.env.cells.lookup x=some c->c≠b)/\∀p∈X.pn++WZ,p.1≠b):
  Zy X WZ σ H' {s with heap:=h',gens:=g',drawn:=d',toks:=t'}:=by
 obtain⟨m,⟨o,es,ep,ho,r⟩,_⟩:=id I.loc;obtain⟨sl,hL⟩:=u.any ho I.free λz=>(hch _ z).2.1 FL;exact I.step (ch:=ch) hch (λb o hL hb hc e n=>u.keep b o e n (λz=>(BC.mp (I.stkSub b z)).elim hL hb) hc) (λb o _ _ hc e n=>u.any e n hc) (λb o hc e n=>u.free b o e n hc) (λb o hc e=>u.there b o e hc) u.tups u.frzs u.tbls (λm' hm=>by
  obtain⟨o',es',ep',ho',r'⟩:=hm;rw[ho] at ho';cases ho';exact⟨_,es',ep',hL,r'⟩) hok hg
def Zy.turned {t':Nat}{it:WP}(I:Zy X WZ σ H s)(k:∀b o,b≠it->s.heap.get? b=some o->h'.get? b=some o)(hn:H it=none)(hL:it≠X.env.locals)
  (h1:it∈X.ex\/X.s₀.heap.objs.size<=it) (h2:∀x c,X.env.cells.lookup x=some c->c≠it) (h3:∀p∈X.pn++WZ,p.1≠it):Zy X WZ σ H {s with heap:=h',toks:=t'}:=by
 have nit:∀b u,H b=some u->b≠it:=λb u e z=>by rw[z,hn] at e;cases e
 refine I.step (g':=s.gens) (d':=s.drawn) (ch:=[it]) (λb hb=>?_) (λb o _ _ hc e _=>k b o (λz=>hc (by simp[z])) e) (λb o _ _ hc e _=>⟨o.slots,k b o (λz=>hc (by simp[z])) e⟩) (λ_ _ _ _ n=>n)
  (λb o hc e=>⟨o,k b o (λz=>hc (by simp[z])) e⟩) (λ_ _ e=>e) (λ_ _ _ e=>e) (λb ps e=>⟨#[],by rw[e];simp⟩) (λm hm=>?_) (λb u e=>?_) I.bare
 ·have e:b=it:=by simpa using hb
  subst e;exact⟨h1,hL,h2,h3⟩
 ·obtain⟨o,es,ep,ho,r⟩:=hm;exact⟨o,es,ep,k _ o (Ne.symm hL) ho,r⟩
 ·refine(I.hok b u e).stay (λc v hc q=>k c v ?_ q) (λ_ q=>q) λ_ _ q=>q
  rcases hc with z | z
  ·rw[z];exact nit b u e
  ·exact nit c _ z
def Zy.tok (I:Zy X WZ σ H s)(t:Nat):Zy X WZ σ H {s with toks:=t}:=I.un (h':=s.heap) (t':=t) Un.refl I.hok
def Zy.kept {t':Nat}(I:Zy X WZ σ H s)(k:∀b u,s.heap.get? b=some u->h'.get? b=some u):Zy X WZ σ H {s with heap:=h',toks:=t'}:=I.un (Un.kept k) (I.hok.kept k)
def Zy.laid {a:WP}{t':Nat}(I:Zy X WZ σ H s)(k:∀b u,s.heap.get? b=some u->h'.get? b=some u)(hp:s.heap.objs.size<=a)(new:Ji X.prog X.w (Yz H a o) h' a o):
  Zy X WZ σ (Yz H a o) {s with heap:=h',toks:=t'}:=I.un (Un.laid k hp (I.hok.fresh hp)) (I.hok.laid k hp new)
def Zy.write {x e:WP}{o:HO}{t':Nat}(I:Zy X WZ σ H s)(mu:fI (H x))(he:e=x\/H e=some (.own x))(k:∀b u,b≠e->s.heap.get? b=some u->h'.get? b=some u)(heo:∃u,h'.get? e=some u)
  (new:Ji X.prog X.w (Yz H x o) h' x o):Zy X WZ σ (Yz H x o) {s with heap:=h',toks:=t'}:=I.un (Un.write mu he k heo) (I.hok.write mu he k heo new)
def Zy.weak {σ':List (Option V)}(I:Zy X WZ σ H s)(hl:σ'.length=σ.length)(w:∀(i:Nat) v,σ'[i]?=some (some v)->σ[i]?=some (some v)):Zy X WZ σ' H s:=
 ⟨I.ok,I.os,I.bare,I.base,let ⟨m,hn,hl'⟩:=I.loc;⟨m,hn,λi x v e1 e2 e3=>hl' i x v e1 (w i v e2) e3⟩,I.cell,I.free,I.freeC,I.pin,I.hok,hl.trans I.len⟩
def Zy.pins_of {pins':List (WP×Obj)}(I:Zy X WZ σ H s)(h:∀p∈pins',s.heap.get? p.1=some p.2/\H p.1=none/\p.1≠X.env.locals/\p.1∉X.fs/\∀v,p.2.data≠.cell v):Zy X pins' σ H s:=
 ⟨I.ok,I.os,I.bare,I.base,I.loc,I.cell,I.free,I.freeC,λp hp=>(XS.mp hp).elim (λz=>I.pin p (BI _ z)) (h p),I.hok,I.len⟩
def zG {N:List Str}(hN:N.Nodup){i j:Nat}(a:N[i]?=some x)(b:N[j]?=some x):i=j:=by
 obtain⟨h1,e1⟩:=BB.mp a;obtain⟨h2,e2⟩:=BB.mp b;exact(List.getElem_inj hN).mp (e1.trans e2.symm)
def Db {M:Model}{A:WM}{E:WQ->WR->Prop}{i:Nat}{Q:Unit->WR->Prop}(I:Zy X WZ σ H s)(hN:X.N.Nodup)(hi:X.N[i]?=some x)(hx:ic X.env.scope x)(r:Ye v u)
  (h:∀s',Zy X WZ (σ.set i (some v)) H s'->(∃a,Heap.SameBut a s.heap s'.heap/\(a=X.env.locals\/X.env.cells.lookup x=some a))->Q () s') (hf:X.fn x=true\/X.env.scope.names.lookup x=some .local:=by first | exact .inl FL | exact .inr FL | assumption):wpAny M A (storeName X.env x u) Q E s:=by
 obtain⟨m,hn,hl⟩:=id I.loc;have hcls:(X.env.scope.kind==.class||(X.env.scope.kind==.module&&X.env.locals !=X.env.globals))=false:=by rw[I.ok.kind];rfl
 have hiσ:i<σ.length:=by rw[I.len];exact(BB.mp hi).1
 have cne:=I.cne;have tracked:∀{a:WP} {h':WU},(∃o,s.heap.get? a=some o/\H a=none)->Heap.SameBut a s.heap h'->M7 X.prog X.w H h':=λ{a h'} ha hs b ob e=>by
  obtain⟨_,_,hfree⟩:=ha;refine(I.hok b ob e).stay (λc w' hc q=>(hs.2 c ?_).trans q) (λ_ q=>q) λ_ _ q=>q;rintro rfl
  rcases hc with rfl | hc
  ·rw[hfree] at e;cases e
  ·rw[hfree] at hc;cases hc
 rcases hx with hk | hk
 ·refine wpAny_storeName_local hk hn (λh' hn' hs=>?_) hcls;obtain⟨oL,_,_,hoL,_⟩:=id hn;refine h _ ⟨I.ok,I.os,I.bare,⟨λb o e n hb hx=>?_,λb o e n hb hx=>?_,I.base.free,λb o e hx=>?_,I.base.tups,I.base.frzs,I.base.tbls⟩,⟨_,hn',λj y v' e1 e2 e3=>?_⟩,λy c e=>?_,I.free,I.freeC,λp hp=>?_,tracked ⟨oL,hoL,I.free⟩ hs,by simpa using I.len⟩ ⟨_,hs,.inl FL⟩
  ·exact(hs.2 b (XH (XG (XD e) I.ok.above))).trans (I.base.keep b o e n hb hx)
  ·obtain⟨sl,e1⟩:=I.base.slot b o e n hb hx;exact⟨sl,(hs.2 b (XH (XG (XD e) I.ok.above))).trans e1⟩
  ·obtain⟨o',e1⟩:=I.base.there b o e hx;exact⟨o',(hs.2 b (XH (XG (XD e) I.ok.above))).trans e1⟩
  ·by_cases hj:j=i
   ·subst hj;rw[hi] at e1;cases e1;rw[CD hiσ] at e2
    cases e2
    exact⟨u,r,.inl ⟨hk,by simp⟩⟩
   ·rw[CT (Ne.symm hj)] at e2;obtain⟨u',r',q⟩:=hl j y v' e1 e2 e3;refine⟨u',r',?_⟩
    rcases q with⟨k,e⟩ | ⟨k,c,e,z⟩
    ·refine .inl ⟨k,?_⟩;have:y≠x:=λe=>hj (zG hN e1 (e▸hi));simp[this,e]
    ·exact .inr ⟨k,c,e,z.sameBut hs (cne y c e)⟩
  ·obtain⟨w',z⟩:=I.cell y c e;exact⟨w',z.sameBut hs (cne y c e)⟩
  ·obtain⟨e,n,ne,nf,d⟩:=I.pin p hp;exact⟨(hs.2 p.1 ne).trans e,n,ne,nf,d⟩
 ·have hfn:X.fn x=true:=by
   rcases hf with z | z
   ·exact z
   ·rw[z] at hk;cases hk
  obtain⟨c,hc⟩:=I.ok.has x (.inl hk);obtain⟨w',z⟩:=I.cell x c hc;refine wpAny_storeName_cell I.ok.kind hk hc z (λh' hc' hs=>?_);obtain⟨oc,hoc,hocd⟩:=id z;refine h {s with heap:=h'} ⟨I.ok,I.os,I.bare,⟨λb o e n hb hx=>?_,λb o e n hb hx=>?_,I.base.free,λb o e hx=>?_,I.base.tups,I.base.frzs,I.base.tbls⟩,⟨m,hn.sameBut hs (Ne.symm (cne x c hc)),λj y v' e1 e2 e3=>?_⟩,λy c' e=>?_,I.free,I.freeC,λp hp=>?_,tracked ⟨oc,hoc,I.freeC x c hc⟩ hs,by simpa using I.len⟩ ⟨c,hs,.inr hc⟩
  ·exact(hs.2 b (XH (XG (XD e) (I.ok.cab x c hfn hc)))).trans (I.base.keep b o e n hb hx)
  ·obtain⟨sl,e1⟩:=I.base.slot b o e n hb hx;exact⟨sl,(hs.2 b (XH (XG (XD e) (I.ok.cab x c hfn hc)))).trans e1⟩
  ·obtain⟨o',e1⟩:=I.base.there b o e hx;exact⟨o',(hs.2 b (XH (XG (XD e) (I.ok.cab x c hfn hc)))).trans e1⟩
  ·by_cases hj:j=i
   ·subst hj;rw[hi] at e1;cases e1;rw[CD hiσ] at e2
    cases e2
    exact⟨u,r,.inr ⟨.inl hk,c,hc,hc'⟩⟩
   ·rw[CT (Ne.symm hj)] at e2;obtain⟨u',r',q⟩:=hl j y v' e1 e2 e3;refine⟨u',r',?_⟩
    rcases q with q | ⟨k,c',e,z'⟩
    ·exact .inl q
    ·refine .inr ⟨k,c',e,z'.sameBut hs ?_⟩;rintro rfl;exact hj (zG hN e1 (I.ok.inj _ _ _ e hc▸hi))
  ·by_cases hcc:c'=c
   ·subst hcc;exact⟨_,hc'⟩
   ·obtain⟨w2,z2⟩:=I.cell y c' e;exact⟨w2,z2.sameBut hs hcc⟩
  ·obtain⟨e,n,ne,nf,d⟩:=I.pin p hp;refine⟨(hs.2 p.1 ?_).trans e,n,ne,nf,d⟩;intro q;rw[q,hoc] at e;have q':oc=p.2:=YH e;exact d w' (by rw[<-q'];exact hocd)
def zi {M:Model}{A:WM}{E:WQ->WR->Prop}{i:Nat}{Q:Unit->WR->Prop}(I:Zy X WZ σ H s)(hN:X.N.Nodup)(hi:X.N[i]?=some x)(hx:ic X.env.scope x)(r:Ye v u)
  (h:∀s',Zy X WZ (σ.set i (some v)) H s'->Q () s') (hf:X.fn x=true\/X.env.scope.names.lookup x=some .local:=by first | exact .inl FL | exact .inr FL | assumption):wpAny M A (storeName X.env x u) Q E s:=
 Db I hN hi hx r (λs' I' _=>h s' I') hf
def Zy.call' {s':WR}(I:Zy X WZ σ H s)(ho:s'.os=s.os)(u:Un (wG X.stack) ch H H' s.heap s'.heap)(hok:M7 X.prog X.w H' s'.heap)(hg:AllBare s'.gens)
  (hch:∀b∈ch,(b∈X.ex\/X.s₀.heap.objs.size<=b)/\b≠X.env.locals/\(∀x c,X.env.cells.lookup x=some c->c≠b)/\∀p∈X.pn++WZ,p.1≠b):Zy X WZ σ H' s':=by
 obtain⟨h',g',d',t',o'⟩:=s';have e:o'=s.os:=ho;subst e;exact I.call (g':=g') (t':=t') (d':=d') u hok hg hch
end
abbrev XK:=WQ->Option WP->Hp->Prop
abbrev St:=List (Option V)
abbrev VK:=V->Hp->Prop
abbrev TE:=St->Hp->VK->Prop
abbrev TT:=St->Hp->(Bool->Hp->Prop)->Prop
abbrev TA:=St->Hp->(List V->Hp->Prop)->Prop
structure E5 where
 nx:St->Hp->Prop
 rt:VK
 bk:St->Hp->Prop:=λ_ _=>False
 ct:St->Hp->Prop:=λ_ _=>False
abbrev TS:=E5->St->Hp->Prop
def EP (X:Cx)(WZ:List (WP×Obj))(σ:St)(Q:VK)(u:WQ)(s':WR):Prop:=∃v H',Zy X WZ σ H' s'/\Ye v u/\Q v H'
def TP (X:Cx)(WZ:List (WP×Obj))(σ:St)(Q:Bool->Hp->Prop)(b:Bool)(s':WR):Prop:=∃H',Zy X WZ σ H' s'/\Q b H'
def AP (X:Cx)(WZ:List (WP×Obj))(σ:St)(Q:List V->Hp->Prop)(us:List WQ)(s':WR):Prop:=∃vs H',Zy X WZ σ H' s'/\Yd vs us/\Q vs H'
def SP (X:Cx)(WZ:List (WP×Obj))(D:E5)(f:Flow)(s':WR):Prop:=
 match f with
 | .next=>∃σ' H',Zy X WZ σ' H' s'/\D.nx σ' H'
 | .brk=>∃σ' H',Zy X WZ σ' H' s'/\D.bk σ' H'
 | .cont=>∃σ' H',Zy X WZ σ' H' s'/\D.ct σ' H'
 | .ret u=>∃v σ' H',Zy X WZ σ' H' s'/\Ye v u/\D.rt v H'
def PE (X:Cx)(e:WW)(t:TE):Prop:=
 ∀(WZ:List (WP×Obj)) (s:WR) (σ:St) (H:Hp) (Q:VK),Zy X WZ σ H s->t σ H Q->wpAny (model X.prog X.w) X.A (eval e X.env) (EP X WZ σ Q) X.xe s
def PT (X:Cx)(e:WW)(t:TT):Prop:=
 ∀(WZ:List (WP×Obj)) (s:WR) (σ:St) (H:Hp) (Q:Bool->Hp->Prop),Zy X WZ σ H s->t σ H Q->wpAny (model X.prog X.w) X.A (isTrue e X.env (eval e X.env)) (TP X WZ σ Q) X.xe s
def PW (X:Cx)(e:WW)(t:TT):Prop:=
 ∀(whole:Sem WQ) (WZ:List (WP×Obj)) (s:WR) (σ:St) (H:Hp) (Q:Bool->Hp->Prop),Zy X WZ σ H s->t σ H Q->wpAny (model X.prog X.w) X.A (isTrue e X.env whole) (TP X WZ σ Q) X.xe s
def PW.pt (h:PW X e t):PT X e t:=h _
def PA (X:Cx)(es:List WW)(t:TA):Prop:=
 ∀(pos:Pos) (WZ:List (WP×Obj)) (s:WR) (σ:St) (H:Hp) (Q:List V->Hp->Prop),Zy X WZ σ H s->t σ H Q->wpAny (model X.prog X.w) X.A (spliced (backTo pos (starEach es X.env))) (AP X WZ σ Q) X.xe s
def PS (X:Cx)(st:WV)(t:TS):Prop:=
 ∀(WZ:List (WP×Obj)) (s:WR) (σ:St) (H:Hp) (D:E5),Zy X WZ σ H s->t D σ H->wpAny (model X.prog X.w) X.A (exec st X.env) (SP X WZ D) X.xe s
def xD (X:Cx)(st:List WV)(t:TS):Prop:=
 ∀(WZ:List (WP×Obj)) (s:WR) (σ:St) (H:Hp) (D:E5),Zy X WZ σ H s->t D σ H->wpAny (model X.prog X.w) X.A (execs st X.env) (SP X WZ D) X.xe s
def Jy {α:Type}{t:Sem α}{Q Q':α->WR->Prop}{E:WQ->WR->Prop}(h:wpAny M A t Q E s)(hQ:∀a s,Q a s->Q' a s):wpAny M A t Q' E s:=wpAny_mono h hQ λ_ _ x=>x
section
variable {X:Cx}
def i5 (i:Nat):TE:=λσ H Q=>∃v,σ[i]?=some (some v)/\Q v H
def tC (v:V):TE:=λ_ H Q=>Q v H
def mC {i:Nat}(hN:X.N[i]?=some x)(hv:fS X.env.scope x)(hd:(x==("__debug__":Str))=false:=by decide)(hcd:(x==("__classdict__":Str))=false:=by decide):PE X (.Name x pos) (i5 i):=by
 intro WZ s σ H Q I h;obtain⟨v,e,h⟩:=h;obtain⟨m,hn,hl⟩:=I.loc;obtain⟨u,r,l⟩:=hl i x v hN e hv;have fin:EP X WZ σ Q u s:=⟨v,H,I,r,h⟩
 rcases l with⟨hk,hm⟩ | ⟨hk,c,hc,hcell⟩
 ·exact wpAny_Name (wpAny_loadName_local I.ok.kind hk hn hm fin) hd
 ·rcases hk with hk | hk
  ·exact wpAny_Name (wpAny_loadName_cell I.ok.kind hk hc hcell fin) hd
  ·exact wpAny_Name (wpAny_loadName_free I.ok.kind hk hc hcell fin hcd) hd
def mJ {i j pos}:PE X (.Constant (.int i) j pos) (tC (.int i)):=λ_ _ _ H _ I h=>wpAny_Constant_int ⟨.int i,H,I.tok _,⟨_,FL⟩,h⟩
def gu {b j pos}:PE X (.Constant (.bool b) j pos) (tC (.bl b)):=λ_ _ _ H _ I h=>Constant_bool ⟨.bl b,H,I,FL,h⟩
def mH {j pos}:PE X (.Constant .none j pos) (tC .non):=λ_ _ _ H _ I h=>Constant_none ⟨.non,H,I,FL,h⟩
def mE {x j pos}:PE X (.Constant (.str x) j pos) (tC (.str x)):=λ_ _ _ H _ I h=>Calls.Constant_str ⟨.str x,H,I.tok _,⟨_,FL⟩,h⟩
def Gl (X:Cx)(x:Str):Prop:=X.env.kindOf x=some .globalImplicit
def jW {E:WQ->WR->Prop}{pos:Pos}{Q:WQ->WR->Prop}(I:Zy X WZ σ H s)(hg:Gl X x)(hm:X.mg x=some u)(h:Q u s)
  (hd:(x==("__debug__":Str))=false:=by decide):wpAny (model X.prog X.w) X.A (eval (.Name x pos) X.env) Q E s:=
 Calls.Name_function_global I.ok.kind hg (Calls.loadGlobal_global (by rw[I.ok.glob];exact I.mod.glob.keeps I.bk) hm h) hd
def Wm {E:WQ->WR->Prop}{pos:Pos}{Q:WQ->WR->Prop}(I:Zy X WZ σ H s)(hg:Gl X x)(hm:X.mg x=none)(hv:bootBuiltins x=some u)(h:Q u s)
  (hn:x≠"__name__":=by decide) (hd:(x==("__debug__":Str))=false:=by decide):wpAny (model X.prog X.w) X.A (eval (.Name x pos) X.env) Q E s:=by
 obtain⟨mb,h1,h2⟩:=I.mod.blt;exact Calls.Name_function_global I.ok.kind hg (Calls.loadGlobal_builtin (by rw[I.ok.glob];exact I.mod.glob.keeps I.bk) hm (by rw[I.ok.blt];exact h1.keeps I.bk) ((h2 x hn).trans hv) h) hd
def q4 (hg:Gl X x)(hm:X.mg x=none)(hv:bootBuiltins x=some u)(r:Ye v u)(hn:x≠"__name__":=by decide)(hd:(x==("__debug__":Str))=false:=by decide):PE X (.Name x pos) (tC v):=
 λ_ _ _ H _ I h=>Wm I hg hm hv ⟨v,H,I,r,h⟩ hn hd
def bS (ta tb:TE)(k:Int->Int->Hp->Prop):St->Hp->Prop:=λσ H=>ta σ H λx H1=>tb σ H1 λy H2=>∃i j,x=.int i/\y=.int j/\k i j H2
def bJ (ta tb:TE):TE:=λσ H Q=>bS ta tb (λi j H2=>(-(2^64)<i/\i<2^64)/\Q (.int (i*j)) H2) σ H
variable {a b:WW}{ta tb:TE}{pos:Pos}
def bL (ta:TE):TE:=λσ H Q=>ta σ H λx H1=>Q (.bl (decide (x=.non))) H1
def tB (t:TE):TT:=λσ H Q=>t σ H λx H1=>∃c,x=.bl c/\Q c H1
variable {tA tB':TT}{J4:List WW}
def iN (t u:TT):TT:=λσ H Q=>t σ H λc H1=>if c=true then u σ H1 Q else Q false H1
def cR (t u:TT):TT:=λσ H Q=>t σ H λc H1=>if c=true then Q true H1 else u σ H1 Q
def i9 (t:TT):TT:=λσ H Q=>t σ H λc H1=>Q (!c) H1
def qf (ha:PT X a tA):PW X (.BoolOp .And [a] pos) tA:=by
 intro wh WZ s σ H Q I h;refine isTrue_and (Jy (ha WZ s σ H Q I h) λc s1 e=>?_)
 cases c with
 | true=>exact isTrue_and_nil e
 | false=>exact e
def me (ha:PT X a tA):PW X (.BoolOp .Or [a] pos) tA:=by
 intro wh WZ s σ H Q I h;refine isTrue_or (Jy (ha WZ s σ H Q I h) λc s1 e=>?_)
 cases c with
 | false=>exact isTrue_or_nil e
 | true=>exact e
def mf (ha:PT X a tA)(hb:PW X (.BoolOp .And (b::J4) pos) tB'):PW X (.BoolOp .And (a::b::J4) pos) (iN tA tB'):=by
 intro wh WZ s σ H Q I h;refine isTrue_and (Jy (ha WZ s σ H _ I h) λc s1 ⟨H1,I1,q1⟩=>?_)
 cases c with
 | true=>exact hb wh WZ s1 σ H1 Q I1 q1
 | false=>exact⟨H1,I1,q1⟩
def gf (ha:PT X a tA)(hb:PW X (.BoolOp .Or (b::J4) pos) tB'):PW X (.BoolOp .Or (a::b::J4) pos) (cR tA tB'):=by
 intro wh WZ s σ H Q I h;refine isTrue_or (Jy (ha WZ s σ H _ I h) λc s1 ⟨H1,I1,q1⟩=>?_)
 cases c with
 | true=>exact⟨H1,I1,q1⟩
 | false=>exact hb wh WZ s1 σ H1 Q I1 q1
def mj (ha:PT X a tA):PT X (.UnaryOp .Not a pos) (i9 tA):=by
 intro WZ s σ H Q I h;exact isTrue_not (ha WZ s σ H (λc H1=>Q (!c) H1) I h)
def oy (ta tb:TE):TE:=λσ H Q=>ta σ H λx H1=>∃c,x=.bl c/\if c=true then tb σ H1 Q else Q (.bl false) H1
def ou (ta:TE):TE:=λσ H Q=>ta σ H λx H1=>∃c,x=.bl c/\Q (.bl (!c)) H1
def mF {op}(h:PE X a t):PE X (.BoolOp op [a] pos) t:=λWZ s σ H Q I hw=>BoolOp_one (h WZ s σ H Q I hw)
def mM (ha:PE X a ta)(hb:PE X (.BoolOp .And (b::J4) pos) tb):PE X (.BoolOp .And (a::b::J4) pos) (oy ta tb):=by
 intro WZ s σ H Q I h;refine BoolOp_and (Jy (ha WZ s σ H _ I h) λv s1 ⟨x,H1,I1,r1,q1⟩=>?_);obtain⟨c,rfl,q1⟩:=q1
 cases r1
 refine wpAny_truthy_bool ?_
 cases c with
 | true=>exact hb WZ s1 σ H1 Q I1 q1
 | false=>exact⟨.bl false,H1,I1,FL,q1⟩
def mG (ha:PE X a ta):PE X (.UnaryOp .Not a pos) (ou ta):=by
 intro WZ s σ H Q I h;refine UnaryOp_ (Jy (ha WZ s σ H _ I h) λv s1 ⟨x,H1,I1,r1,q1⟩=>?_);obtain⟨c,rfl,q1⟩:=q1
 cases r1
 exact not_of (wpAny_truthy_bool ⟨.bl (!c),H1,I1,FL,q1⟩)
def cT (t:TT)(ta tb:TE):TE:=λσ H Q=>t σ H λc H1=>if c=true then ta σ H1 Q else tb σ H1 Q
def uK (hc:PT X c tA)(ha:PE X a ta)(hb:PE X b tb):PE X (.IfExp c a b pos) (cT tA ta tb):=by
 intro WZ s σ H Q I h;refine wpAny_IfExp (Jy (hc WZ s σ H _ I h) λd s1 ⟨H1,I1,q1⟩=>?_)
 cases d with
 | true=>exact ha WZ s1 σ H1 Q I1 q1
 | false=>exact hb WZ s1 σ H1 Q I1 q1
end
def J9 (K:WY)(H:Hp)(a:WP)(xs:List V):Prop:=
 Rd H a (.lst xs)\/
  ∃(o:Obj) (its:Array WQ) (n:Nat),K.lookup a=some o/\o.cls=.type "list"/\o.dict=none/\o.data=.seq its n/\its.size<=sizeLine/\Yd xs its.toList
def Uz (K:WY)(H:Hp)(a:WP)(xs:List V):Prop:=
 Rd H a (.tup xs)\/
  ∃(o:Obj) (its:Array WQ) (n:Nat),K.lookup a=some o/\o.cls=.type "tuple"/\o.data=.seq its n/\its.size<=sizeLine/\Yd xs its.toList
def cu:WQ->Option V
 | .none=>some .non
 | .bool b=>some (.bl b)
 | .int i _=>some (.int i)
 | .str x _=>some (.str x)
 | .bytes b _=>some (.byt b)
 | .float b _=>some (.flt b)
 | .ref a=>some (.ref a)
 | .type n=>some (.ty n)
 | _=>none
def Ye.abs (r:Ye x u):cu u=some x:=by
 cases x with
 | non=>cases r;rfl
 | bl _=>cases r;rfl
 | int _=>obtain⟨t,rfl⟩:=r;rfl
 | str _=>obtain⟨t,rfl⟩:=r;rfl
 | byt _=>obtain⟨t,rfl⟩:=r;rfl
 | flt _=>obtain⟨t,rfl⟩:=r;rfl
 | ref _=>cases r;rfl
 | ty _=>cases r;rfl
def Ye.inj (r:Ye x u)(q:Ye y u):x=y:=YH (r.abs.symm.trans q.abs)
def Yd.inj:∀{xs ys:List V} {us:List WQ},Yd xs us->Yd ys us->xs=ys
 | _,_,_,.nil,.nil=>rfl
 | _,_,_,.cons r t,.cons r' t'=>by rw[r.inj r',Yd.inj t t']
section
variable {X:Cx}{WZ:List (WP×Obj)}{σ:St}{H:Hp}{s:WR}{a:WP}{xs ys:List V}
def J9.of {K:WY}(h:H a=some (.lst xs)):J9 K H a xs:=.inl (.inl h)
def Uz.of {K:WY}(h:H a=some (.tup xs)):Uz K H a xs:=.inl (.inl h)
def Zy.list (I:Zy X WZ σ H s)(h:J9 X.K H a xs):∃its:List WQ,Yd xs its/\PlainL s.heap a its.toArray/\xs.length<=sizeLine:=by
 rcases h with h | ⟨o,its,n,hk,hc,hd,hs,hz,r⟩
 ·obtain⟨z,its,n,r,e⟩:=h.ok I.hok;exact⟨its,r,⟨_,n,e,FL,FL,FL⟩,z⟩
 ·refine⟨its.toList,r,⟨o,n,I.kIn a o hk,hc,hd,by simpa using hs⟩,?_⟩;have e:=r.length;simp only[Array.length_toList] at e;omega
def Zy.tuple (I:Zy X WZ σ H s)(h:Uz X.K H a xs):∃its:List WQ,Yd xs its/\IsTup s.heap a its.toArray/\xs.length<=sizeLine:=by
 rcases h with h | ⟨o,its,n,hk,hc,hs,hz,r⟩
 ·obtain⟨z,its,r,p⟩:=h.ok I.hok;exact⟨its,r,p,z⟩
 ·refine⟨its.toList,r,⟨o,I.kIn a o hk,hc,n,by simpa using hs⟩,?_⟩;have e:=r.length;simp only[Array.length_toList] at e;omega
def Zy.list_inj (I:Zy X WZ σ H s)(h:J9 X.K H a xs)(h':J9 X.K H a ys):xs=ys:=by
 obtain⟨its,r,⟨o,n,e,_,_,d⟩,_⟩:=I.list h;obtain⟨its',r',⟨o',n',e',_,_,d'⟩,_⟩:=I.list h';rw[e] at e';cases e';rw[d] at d';injection d' with d1 _
 have:its=its':=by simpa using congrArg Array.toList d1
 subst this;exact r.inj r'
def Zy.tuple_inj (I:Zy X WZ σ H s)(h:Uz X.K H a xs)(h':Uz X.K H a ys):xs=ys:=by
 obtain⟨its,r,⟨o,e,_,n,d⟩,_⟩:=I.tuple h;obtain⟨its',r',⟨o',e',_,n',d'⟩,_⟩:=I.tuple h';rw[e] at e';cases e';rw[d] at d';injection d' with d1 _
 have:its=its':=by simpa using congrArg Array.toList d1
 subst this;exact r.inj r'
end
abbrev Cx.wish (X:Cx)(E:WQ->WR->Prop):Cx:={X with xe:=E}
abbrev Cx.nox (X:Cx):Cx:=X.wish λ_ _=>False
def Cx.Ok.wish {X:Cx}(ok:X.Ok)(E:WQ->WR->Prop):(X.wish E).Ok:=
 ⟨ok.mod,ok.kind,ok.glob,ok.blt,ok.above,ok.inj,ok.has,ok.cab,ok.hd,ok.frames,ok.stk,ok.exf,ok.bs,ok.bsz,ok.noex,ok.exfs,ok.funs,ok.frf⟩
def Cx.Ok.unwish {X:Cx}{E:WQ->WR->Prop}(ok:(X.wish E).Ok):X.Ok:=
 ⟨ok.mod,ok.kind,ok.glob,ok.blt,ok.above,ok.inj,ok.has,ok.cab,ok.hd,ok.frames,ok.stk,ok.exf,ok.bs,ok.bsz,ok.noex,ok.exfs,ok.funs,ok.frf⟩
section
variable {X:Cx}{WZ:List (WP×Obj)}{σ:St}{H:Hp}{s:WR}{E:WQ->WR->Prop}
def Zy.wish (I:Zy X WZ σ H s)(E:WQ->WR->Prop):Zy (X.wish E) WZ σ H s:=⟨I.ok.wish E,I.os,I.bare,I.base,I.loc,I.cell,I.free,I.freeC,I.pin,I.hok,I.len⟩
def Zy.unwish (I:Zy (X.wish E) WZ σ H s):Zy X WZ σ H s:=⟨I.ok.unwish,I.os,I.bare,I.base,I.loc,I.cell,I.free,I.freeC,I.pin,I.hok,I.len⟩
def SP.unwish {f:Flow}(h:SP (X.wish E) WZ D f s'):SP X WZ D f s':=by
 cases f with
 | next=>obtain⟨σ',H',I,q⟩:=h;exact⟨σ',H',I.unwish,q⟩
 | brk=>obtain⟨σ',H',I,q⟩:=h;exact⟨σ',H',I.unwish,q⟩
 | cont=>obtain⟨σ',H',I,q⟩:=h;exact⟨σ',H',I.unwish,q⟩
 | ret u=>obtain⟨v,σ',H',I,r,q⟩:=h;exact⟨v,σ',H',I.unwish,r,q⟩
def xD.nox {st:List WV}(h:xD X.nox st t):xD X st t:=λWZ s σ H D I hw=>
 wpAny_mono (h WZ s σ H D (I.wish _) hw) (λ_ _ q=>q.unwish) λ_ _ z=>False.elim z
end
section
variable {X:Cx}{st:WV}{J4:List WV}{t u:TS}{e:WW}{te:TE}{pos:Pos}
def iB:TS:=λD σ H=>D.nx σ H
def eI (t u:TS):TS:=λD σ H=>t {D with nx:=u D} σ H
def qj:xD X [] iB:=λ_ _ σ H _ I h=>wpAny_execs_nil ⟨σ,H,I,h⟩
set_option tactic.hygienic true
def uA (h1:PS X st t)(h2:xD X J4 u):xD X (st::J4) (eI t u):=by
 intro WZ s σ H D I h;refine wpAny_execs_cons (Jy (h1 WZ s σ H {D with nx:=u D} I h) λf s1 q=>?_)
 cases f with
 | next=>
  obtain⟨σ',H',I',q⟩:=q;exact h2 WZ s1 σ' H' D I' q
 | ret v=>exact q
 | brk=>exact q
 | cont=>exact q
def qi (h1:PS X st t):xD X [st] t:=by
 intro WZ s σ H D I h;refine wpAny_execs_cons (Jy (h1 WZ s σ H D I h) λf s1 q=>?_)
 cases f with
 | next=>exact wpAny_execs_nil q
 | ret v=>exact q
 | brk=>exact q
 | cont=>exact q
set_option tactic.hygienic false
def iK:TS:=λD σ H=>D.ct σ H
def zw:PS X (.Continue pos) iK:=λ_ _ σ H _ I h=>wpAny_Continue ⟨σ,H,I,h⟩
def Zy.quiet (I:Zy X WZ σ H s):interactive X.env=false:=by simp[interactive,I.ok.kind]
def iG (te:TE):TS:=λD σ H=>te σ H λ_ H1=>D.nx σ H1
def qk (he:PE X e te)(hs:autoParam (swapsWith e none pos.line X.env=pure false) QzR):PS X (.Expr e pos) (iG te):=by
 intro WZ s σ H D I h;exact wpAny_Expr_any (Jy (he WZ s σ H _ I h) λv s1 ⟨x,H1,I1,r1,q1⟩=>⟨σ,H1,I1,q1⟩) I.quiet hs
def eL (te:TE):TS:=λD σ H=>te σ H D.rt
def mq (he:PE X e te):PS X (.Return (some e) pos) (eL te):=by
 intro WZ s σ H D I h;exact wpAny_Return_some (Jy (he WZ s σ H _ I h) λv s1 ⟨x,H1,I1,r1,q1⟩=>⟨x,σ,H1,I1,r1,q1⟩)
def eQ (c:TT)(t u:TS):TS:=λD σ H=>c σ H λb H1=>if b=true then t D σ H1 else u D σ H1
def gg (hc:PT X c tc)(ha:xD X a t)(hb:xD X b u):PS X (.If c a b pos) (eQ tc t u):=by
 intro WZ s σ H D I h;refine wpAny_If (Jy (hc WZ s σ H _ I h) λd s1 ⟨H1,I1,q1⟩=>?_)
 cases d with
 | true=>exact ha WZ s1 σ H1 D I1 q1
 | false=>exact hb WZ s1 σ H1 D I1 q1
def nH:TS:=λ_ _ _=>False
def uC:PS X st nH:=λ_ _ _ _ _ _ h=>h.elim
end
abbrev TG:=V->St->Hp->(St->Hp->Prop)->Prop
abbrev y7:=List V->St->Hp->(St->Hp->Prop)->Prop
def PG (X:Cx)(target:WW)(t:TG):Prop:=
 ∀(WZ:List (WP×Obj)) (s:WR) (σ:St) (H:Hp) (v:V) (u:WQ) (Q:St->Hp->Prop),Zy X WZ σ H s->Ye v u->t v σ H Q->
  wpAny (model X.prog X.w) X.A (assign target X.env u) (λ_ s'=>∃σ' H',Zy X WZ σ' H' s'/\Q σ' H') X.xe s
def fH (X:Cx)(ts:List WW)(t:y7):Prop:=
 ∀(WZ:List (WP×Obj)) (s:WR) (σ:St) (H:Hp) (vs:List V) (us:List WQ) (Q:St->Hp->Prop),Zy X WZ σ H s->Yd vs us->t vs σ H Q->
  wpAny (model X.prog X.w) X.A (assignInOrder ((assignEach ts X.env).map (·.2)) us) (λ_ s'=>∃σ' H',Zy X WZ σ' H' s'/\Q σ' H') X.xe s
abbrev pU:=V->V->V->Hp->(Hp->Prop)->Prop
def kR (X:Cx)(t:pU):Prop:=
 ∀(WZ:List (WP×Obj)) (s:WR) (σ:St) (H:Hp) (o i v:V) (ov iv u:WQ) (Q:Hp->Prop),Zy X WZ σ H s->Ye o ov->Ye i iv->Ye v u->t o i v H Q->
  wpAny (model X.prog X.w) X.A (setItem ov iv u) (λ_ s'=>∃H',Zy X WZ σ H' s'/\Q H') X.xe s
abbrev c7:=V->V->Hp->VK->Prop
section
variable {X:Cx}{pos:Pos}
def Xc (i:Nat):TG:=λv σ H Q=>Q (σ.set i (some v)) H
def Y7 {i:Nat}(hN:X.N.Nodup)(hi:X.N[i]?=some x)(hx:ic X.env.scope x)(hf:X.fn x=true\/X.env.scope.names.lookup x=some .local:=by first | exact .inl FL | exact .inr FL | assumption):PG X (.Name x pos) (Xc i):=by
 intro WZ s σ H v u Q I r h;exact wpAny_assign_Name (zi I hN hi hx r (λs' I'=>⟨_,H,I',h⟩) hf)
def ya:y7:=λvs σ H Q=>vs=[]/\Q σ H
def Sb (t:TG)(u:y7):y7:=λvs σ H Q=>∃v r,vs=v::r/\t v σ H λσ' H'=>u r σ' H' Q
def Ls:fH X [] ya:=by
 intro WZ s σ H vs us Q I r h;obtain⟨e,h⟩:=h;subst e
 cases r
 exact assignInOrder_nil ⟨σ,H,I,h⟩
def Xz (h1:PG X e t)(h2:fH X es u)
  (hs:autoParam ((assignEach (e::es) X.env).map (·.2)=assign e X.env::(assignEach es X.env).map (·.2)) QzR):fH X (e::es) (Sb t u):=by
 intro WZ s σ H vs us Q I r h;obtain⟨v,vr,e1,h⟩:=h;subst e1
 cases r with
 | cons r rr=>
  rw[hs];refine assignInOrder_cons (Jy (h1 WZ s σ H _ _ _ I r h) λ_ s1 ⟨σ1,H1,I1,q1⟩=>?_);exact h2 WZ s1 σ1 H1 _ _ Q I1 rr q1
def zZ (K:WY)(n:Nat)(t:y7):TG:=λv σ H Q=>∃a xs,v=.ref a/\Uz K H a xs/\xs.length=n/\t xs σ H Q
def Gx {k:Nat}{n:Nat}(hc:X.calm=true)(h:fH X es t)
  (hn:autoParam ((assignEach es X.env).length=n) QzR) (hst:autoParam ((assignEach es X.env).findIdx? (·.1)=none) QzR):PG X (.Tuple es k pos) (zZ X.K n t):=by
 intro WZ s σ H v u Q I r hw;obtain⟨a,xs,e1,hq,hl,hw⟩:=hw;subst e1
 cases r
 obtain⟨its,rv,ht,hz⟩:=I.tuple hq;refine assign_Tuple_tuple (I.ok.hd hc) ht (by simp[hn,<-hl,rv.length]) hst λh' hx=>?_;have I1:Zy X WZ σ H {s with heap:=h'}:=I.kept (t':=s.toks) λb o e=>hx b o (XH (XD e)) e;exact h WZ _ σ H xs _ Q I1 (by simpa using rv) hw
def dQ (to ti:TE)(t:pU):TG:=λv σ H Q=>to σ H λo H1=>ti σ H1 λi H2=>t o i v H2 λH3=>Q σ H3
def uH (ho:PE X o to)(hi:PE X i ti)(hs:kR X t)
  (ha:∀v,assign (.Subscript o i pos) X.env v=(do
   let ov <-holding [v] (eval o X.env)
   let iv <-holding [v,ov] (eval i X.env)
   standAt pos
   holding [v,ov,iv] (setItem ov iv v)
   release [v,ov,iv] []):=by intro _;rfl):PG X (.Subscript o i pos) (dQ to ti t):=by
 intro WZ s σ H v u Q I r h;rw[ha];refine XA (wpAny_holding (Jy (ho WZ s σ H _ I h) λov s1 ⟨x,H1,I1,r1,q1⟩=>?_));refine XA (wpAny_holding (Jy (hi WZ s1 σ H1 _ I1 q1) λiv s2 ⟨y,H2,I2,r2,q2⟩=>?_));refine XA (wpAny_standAt (XA (wpAny_holding (Jy (hs WZ s2 σ H2 x y v ov iv u _ I2 r1 r2 r q2) λ_ s3 ⟨H3,I3,q3⟩=>?_))));exact wpAny_release ⟨σ,H3,I3,q3⟩
def iM (te:TE)(g:TG):TS:=λD σ H=>te σ H λx H1=>g x σ H1 D.nx
def my (he:PE X e te)(hg:PG X tg g)(hs:autoParam (swapsWithSole [tg] e pos.line X.env=pure false) QzR)(hw:autoParam (swappedStores [tg] e X.env=pure none) QzR)
  (h1:autoParam ((assignEach [tg] X.env).map (·.2)=[assign tg X.env]) QzR):PS X (.Assign [tg] e pos) (iM te g):=by
 intro WZ s σ H D I h;refine wpAny_Assign_stores (Jy (he WZ s σ H _ I h) λv s1 ⟨x,H1,I1,r1,q1⟩=>?_) hs hw;rw[h1];exact Jy (hg WZ s1 σ H1 x v _ I1 r1 q1) λ_ s2 q=>q
def mn {i:Nat}(hN:X.N.Nodup)(hi:X.N[i]?=some x)(hx:ic X.env.scope x)(he:PE X e te)(hs:autoParam (swapsWith e (some (.Name x pos')) pos.line X.env=pure false) QzR)(hf:X.fn x=true\/X.env.scope.names.lookup x=some .local:=by first | exact .inl FL | exact .inr FL | assumption):
  PS X (.Assign [.Name x pos'] e pos) (iM te (Xc i)):=by
 intro WZ s σ H D I h;refine wpAny_Assign_Name (Jy (he WZ s σ H _ I h) λv s1 ⟨y,H1,I1,r1,q1⟩=>?_) hs;exact zi I1 hN hi hx r1 (λs2 I2=>⟨_,H1,I2,q1⟩) hf
def bI (i j:Nat)(ta:TA):TS:=λD σ H=>ta σ H λvs H1=>∃v w,vs=[v,w]/\D.nx ((σ.set i (some v)).set j (some w)) H1
def bR (i:Nat)(te:TE)(ti:c7):TS:=λD σ H=>∃x,σ[i]?=some (some x)/\te σ H λy H1=>ti x y H1 λz H2=>D.nx (σ.set i (some z)) H2
def cU (to ti te:TE)(tget:V->V->Hp->VK->Prop)(tip:c7)(tset:pU):TS:=λD σ H=>to σ H λo H1=>ti σ H1 λi H2=>tget o i H2 λx H3=>te σ H3 λy H4=>tip x y H4 λz H5=>tset o i z H5 λH6=>D.nx σ H6
def aE (X:Cx)(t:V->V->Hp->VK->Prop):Prop:=
 ∀(WZ:List (WP×Obj)) (s:WR) (σ:St) (H:Hp) (o i:V) (ov iv:WQ) (Q:VK),Zy X WZ σ H s->Ye o ov->Ye i iv->t o i H Q->
  wpAny (model X.prog X.w) X.A (getItem ov iv) (EP X WZ σ Q) X.xe s
def aQ (f:Int->Int->Int):c7:=λx y H Q=>∃i j,x=.int i/\y=.int j/\Q (.int (f i j)) H
def ue (c:TT)(tb:TS):TS:=λD σ H=>∃W:Nat->St->Hp->Prop,(∃m,W m σ H)/\∀m σ H,W m σ H->
 c σ H λb H1=>if b=true then ∃N:St->Hp->Prop,(∀σ' H',N σ' H'->∃m',m'<m/\W m' σ' H')/\tb {D with nx:=N,ct:=N,bk:=D.nx} σ H1 else D.nx σ H1
set_option tactic.hygienic true
def uB (hp:PassesOwn (model X.prog X.w) X.A X.env X.xe)(hc:PT X c tc)(hb:xD X body tb):PS X (.While c body [] pos) (ue tc tb):=by
 intro WZ s σ H D I h;obtain⟨W,⟨m0,w0⟩,turn⟩:=h;refine wpAny_While (codeAny_whileLoop (λn s'=>∃σ' H',Zy X WZ σ' H' s'/\W n σ' H') ?_ m0 ⟨σ,H,I,w0⟩);rintro n s1 ⟨σ1,H1,I1,w1⟩;refine wpAny_passesOwn hp (Jy (hc WZ s1 σ1 H1 _ I1 (turn n σ1 H1 w1)) λb s2 ⟨H2,I2,q2⟩=>?_)
 cases b with
 | true=>
  obtain⟨N,hN,q2⟩:=q2;rw[XY rfl];refine wpAny_passesOwn hp (Jy (hb WZ s2 σ1 H2 _ I2 q2) λf s3 q3=>?_)
  cases f with
  | next=>
   obtain⟨σ3,H3,I3,n3⟩:=q3;obtain⟨m',hm,w3⟩:=hN σ3 H3 n3;exact⟨m',hm,σ3,H3,I3,w3⟩
  | cont=>
   obtain⟨σ3,H3,I3,n3⟩:=q3;obtain⟨m',hm,w3⟩:=hN σ3 H3 n3;exact⟨m',hm,σ3,H3,I3,w3⟩
  | brk=>exact q3
  | ret v=>exact q3
 | false=>
  rw[XX YJ];exact wpAny_execs_nil ⟨σ1,H2,I2,q2⟩
set_option tactic.hygienic false
end
structure It where
 go:Nat->Hp->Prop
 yld:Nat->Hp->V->Hp->Prop
 stop:Nat->Hp->Prop
def M3 (X:Cx)(WZ:List (WP×Obj))(H:Hp)(b:WP):Prop:=
 H b=none/\b≠X.env.locals/\b∉X.fs/\(b∈X.ex\/X.s₀.heap.objs.size<=b)/\(∀x c,X.env.cells.lookup x=some c->c≠b)/\∀p∈X.pn++WZ,p.1≠b
def Zy.fpOk {H H':Hp}{b:WP}(I:Zy X WZ σ H s)(hb:s.heap.objs.size<=b)(hn:H' b=none):M3 X WZ H' b:=by
 refine⟨hn,CJ (XG I.lt hb),I.nofs hb,.inr (XN I.sz hb),λx c e z=>?_,λp hp z=>?_⟩
 ·obtain⟨v,q⟩:=I.cell x c e;exact absurd (XG q.lt (by rw[z];exact hb)) (BL _)
 ·exact absurd (XG (XD (I.pin p hp).1) (by rw[z];exact hb)) (BL _)
structure Eb (P:Program)(w:World)(K:W.Frag)(tg:Expr)(J:It)(fp:List Addr)(it:Addr)(tn:Nat->Heap->Prop):Prop where
 mem:it∈fp
 obj:∀i h,tn i h->∀b∈fp,∃o,h.get? b=some o/\∀v,o.data≠.cell v
 keep:∀i h h',tn i h->(∀b∈fp,∀o,h.get? b=some o->h'.get? b=some o)->tn i h'
 item:∀(X:Cx),X.prog=P->X.w=w->X.K=K->X.calm=true->∀(i:Nat) (WZ:List (WP×Obj)) (s:WR) (σ:St) (H:Hp) (E:WQ->WR->Prop),Zy X WZ σ H s->(∀b∈fp,M3 X WZ H b)->tn i s.heap->J.go i H->
  wpAny (model P w) X.A (pyNext (.ref it)) (λr s1=>∃u,r=some u/\
   wpAny (model P w) X.A (letOwnedTupleGo tg (.ref it) u) (λ_ s2=>∃x H',Zy X WZ σ H' s2/\Ye x u/\J.yld i H x H'/\tn (i+1) s2.heap/\∀b∈fp,H' b=none) E s1) E s
 done:∀(X:Cx),X.prog=P->X.w=w->X.K=K->X.calm=true->∀(i:Nat) (WZ:List (WP×Obj)) (s:WR) (σ:St) (H:Hp) (E:WQ->WR->Prop),Zy X WZ σ H s->(∀b∈fp,M3 X WZ H b)->tn i s.heap->J.stop i H->
  wpAny (model P w) X.A (pyNext (.ref it)) (λr s1=>r=none/\Zy X WZ σ H s1) E s
 self:∀(A:WM) (i:Nat) (s:WR) (Q:WQ->WR->Prop) (E:WQ->WR->Prop),tn i s.heap->Q (.ref it) s->wpAny (model P w) A (pyIter (.ref it)) Q E s
abbrev TI:=St->Hp->(It->Hp->Prop)->Prop
def fG (X:Cx)(WZ:List (WP×Obj))(σ:St)(tg:WW)(R:It->Hp->Prop)(itv:WQ)(s2:WR):Prop:=
 ∃(it:WP) (fp:List WP) (tn:Nat->WU->Prop) (J:It) (H':Hp),itv=.ref it/\Zy X WZ σ H' s2/\Eb X.prog X.w X.K tg J fp it tn/\tn 0 s2.heap/\(∀b∈fp,M3 X WZ H' b)/\R J H'
def PI (X:Cx)(tg iter:WW)(wi:TI):Prop:=
 ∀(WZ:List (WP×Obj)) (s:WR) (σ:St) (H:Hp) (R:It->Hp->Prop),Zy X WZ σ H s->wi σ H R->
  wpAny (model X.prog X.w) X.A (eval iter X.env) (λv s1=>wpAny (model X.prog X.w) X.A (pyIter v) (fG X WZ σ tg R) X.xe s1) X.xe s
def zX {M:Model}{A:WM}{E:WQ->WR->Prop}{s:WR}{tg:WW}{it:WP}{u:WQ}{Q:Unit->WR->Prop}(ho:s.heap.get? it=some o)(hc:o.cls=.type n)(hd:o.data=.fields vs)
  (hn:["enumerate","zip","dict_itemiterator","dict_reverseitemiterator","odict_iterator","itertools.zip_longest","itertools.pairwise"].contains n=false) (hQ:Q () s):wpAny M A (letOwnedTupleGo tg (.ref it) u) Q E s:=by
 unfold letOwnedTupleGo
 cases tg<;>first
  | exact XB hQ
  | (cases u<;>first
    | exact XB hQ
    | (refine XA (wpAny_load ho ?_)
       rw[hc,hd];show wpAny M A (if (["enumerate","zip","dict_itemiterator","dict_reverseitemiterator","odict_iterator","itertools.zip_longest","itertools.pairwise"].contains n&&vs[0]?==some (rawInt _))=true then _ else _) Q E s;rw[XX (by intro h;rw[hn,Bool.false_and] at h;cases h)];exact XB hQ))
def fY (K:WY)(a:WP):It:=
 ⟨λi H=>∃xs x,J9 K H a xs/\xs[i]?=some x,λi H x H'=>H'=H/\∀xs,J9 K H a xs->xs[i]?=some x,λi H=>∃xs,J9 K H a xs/\xs.length<=i⟩
def cH (K:WY)(a:WP):It:=
 ⟨λi H=>∃xs x,Uz K H a xs/\xs[i]?=some x,λi H x H'=>H'=H/\∀xs,Uz K H a xs->xs[i]?=some x,λi H=>∃xs,Uz K H a xs/\xs.length<=i⟩
def fX (lo:Int)(n:Nat):It:=⟨λi _=>i<n,λi H x H'=>H'=H/\x=.int (lo+i),λi _=>n<=i⟩
def xN {K:WY}(a it:WP):Eb P w K tg (fY K a) [it] it (λi h=>h.IsListIter it a i) where
 mem:=by simp
 obj:=λi h st b hb=>by
  have e:b=it:=by simpa using hb
  subst e;obtain⟨o,e,c,d⟩:=st;exact⟨o,e,λv z=>by rw[d] at z;cases z⟩
 keep:=λi h h' st k=>st.at λo e=>k it (by simp) o e
 item:=by
  intro X hP hw hK hc i WZ s σ H E I hf st hg;subst hP hw hK;obtain⟨xs,x,hq,hx⟩:=hg;obtain⟨its,rv,p,hz⟩:=I.list hq;obtain⟨u,hu,ru⟩:=rv.get hx;obtain⟨f0,f1,f2,f3,f4,f5⟩:=hf it (by simp);refine wpAny_pyNext_list_item st p.isList (x:=u) (by simpa using hu) λh' st' sb=>?_;have I1:Zy X WZ σ H {s with heap:=h'}:=I.turned (t':=s.toks) (λb o hb e=>(sb.2 b hb).trans e) f0 f1 f3 f4 f5;obtain⟨o,e,c,d⟩:=id st';exact⟨u,FL,zX (s:={s with heap:=h'}) e c d (by decide) ⟨x,H,I1,ru,⟨FL,λys hy=>by rw[I.list_inj hy hq];exact hx⟩,st',λb hb=>(hf b hb).1⟩⟩
 done:=by
  intro X hP hw hK hc i WZ s σ H E I hf st hg;subst hP hw hK;obtain⟨xs,hq,hx⟩:=hg;obtain⟨its,rv,p,hz⟩:=I.list hq;obtain⟨f0,f1,f2,f3,f4,f5⟩:=hf it (by simp);have hl:=rv.length;exact wpAny_pyNext_list_end (I.ok.hd hc) st p.isList (by simp;omega) λh' eb=>⟨FL,I.turned (t':=s.toks) (λb o hb e=>eb b o hb e) f0 f1 f3 f4 f5⟩
 self:=λ_ _ _ _ _ st h=>wpAny_pyIter_listiter st h
def yE {K:WY}(a it:WP):Eb P w K tg (cH K a) [it] it (λi h=>h.IsTupleIter it a i) where
 mem:=by simp
 obj:=λi h st b hb=>by
  have e:b=it:=by simpa using hb
  subst e;obtain⟨o,e,c,d⟩:=st;exact⟨o,e,λv z=>by rw[d] at z;cases z⟩
 keep:=λi h h' st k=>st.at λo e=>k it (by simp) o e
 item:=by
  intro X hP hw hK hc i WZ s σ H E I hf st hg;subst hP hw hK;obtain⟨xs,x,hq,hx⟩:=hg;obtain⟨its,rv,p,hz⟩:=I.tuple hq;obtain⟨u,hu,ru⟩:=rv.get hx;obtain⟨f0,f1,f2,f3,f4,f5⟩:=hf it (by simp);refine wpAny_pyNext_tuple_item st (show s.heap.IsTuple a its.toArray from p) (x:=u) (by simpa using hu) λh' st' sb=>?_;have I1:Zy X WZ σ H {s with heap:=h'}:=I.turned (t':=s.toks) (λb o hb e=>(sb.2 b hb).trans e) f0 f1 f3 f4 f5;obtain⟨o,e,c,d⟩:=id st';exact⟨u,FL,zX (s:={s with heap:=h'}) e c d (by decide) ⟨x,H,I1,ru,⟨FL,λys hy=>by rw[I.tuple_inj hy hq];exact hx⟩,st',λb hb=>(hf b hb).1⟩⟩
 done:=by
  intro X hP hw hK hc i WZ s σ H E I hf st hg;subst hP hw hK;obtain⟨xs,hq,hx⟩:=hg;obtain⟨its,rv,p,hz⟩:=I.tuple hq;obtain⟨f0,f1,f2,f3,f4,f5⟩:=hf it (by simp);have hl:=rv.length;exact wpAny_pyNext_tuple_end (I.ok.hd hc) st (show s.heap.IsTuple a its.toArray from p) (by simp;omega) λh' eb=>⟨FL,I.turned (t':=s.toks) (λb o hb e=>eb b o hb e) f0 f1 f3 f4 f5⟩
 self:=λ_ _ _ _ _ st h=>wpAny_pyIter_tupleiter st h
def yF {K:WY}(it:WP)(lo:Int)(n:Nat):Eb P w K tg (fX lo n) [it] it (λi h=>IsRangeIter h it (lo+(i:Nat)*1) ((n:Int)-(i:Nat)) 1) where
 mem:=by simp
 obj:=λi h st b hb=>by
  have e:b=it:=by simpa using hb
  subst e;exact⟨_,st,λv z=>by
   have z':Data.fields _=Data.cell v:=z
   cases z'⟩
 keep:=λi h h' st k=>k it (by simp) _ st
 item:=by
  intro X hP hw hK hc i WZ s σ H E I hf st hg;subst hP hw hK;obtain⟨f0,f1,f2,f3,f4,f5⟩:=hf it (by simp);have W:=Walks.range (prog:=X.prog) (w:=X.w) (I.ok.hd hc) it lo 1 n;refine W.item i s _ _ hg st λv h' tk hv st' kk=>?_;obtain⟨t,rfl⟩:=hv;have I1:Zy X WZ σ H {s with heap:=h',toks:=tk}:=I.turned (λb o hb e=>kk b o (by simpa using hb) e) f0 f1 f3 f4 f5;refine⟨_,FL,zX (s:={s with heap:=h',toks:=tk}) (n:="range_iterator") st' FL FL (by decide) ⟨.int (lo+i),H,I1,⟨t,?_⟩,⟨FL,FL⟩,st',λb hb=>(hf b hb).1⟩⟩;rw[Int.mul_one]
 done:=by
  intro X hP hw hK hc i WZ s σ H E I hf st hg;subst hP hw hK;obtain⟨f0,f1,f2,f3,f4,f5⟩:=hf it (by simp);exact wpAny_pyNext_range_end (I.ok.hd hc) st (by have:n<=i:=hg;omega) λh' eb=>⟨FL,I.turned (t':=s.toks) (λb o hb e=>eb b o hb e) f0 f1 f3 f4 f5⟩
 self:=λ_ _ _ _ _ st h=>wpAny_pyIter_rangeiter st h
section
variable {X:Cx}{tg:WW}
def u8 {R:It->Hp->Prop}{E:WQ->WR->Prop}{lo hi:Int}{t u v:Tok}{tk:Nat}(I:Zy X WZ σ H s)(h1: -(2^62)<=lo)(h2:lo<2^62)(h3: -(2^62)<=hi)(h4:hi<2^62)
  (q:R (fX lo (hi-lo).toNat) H):wpAny (model X.prog X.w) X.A (pyIter (.ref s.heap.objs.size)) (fG X WZ σ tg R) E {s with heap:=s.heap.push {cls:=.type "range",data:=.fields #[.int lo t,.int hi u,.int 1 v]},toks:=tk}:=by
 refine wpAny_pyIter_range (IsRange.new ..) (small_one h1 h2 h3 h4) ?_;have I1:Zy X WZ σ H {s with heap:=s.heap.push {cls:=.type "range",data:=.fields #[.int lo t,.int hi u,.int 1 v]},toks:=tk}:=I.kept λb o e=>XC _ e;refine⟨(s.heap.push {cls:=.type "range",data:=.fields #[.int lo t,.int hi u,.int 1 v]}).objs.size,[(s.heap.push {cls:=.type "range",data:=.fields #[.int lo t,.int hi u,.int 1 v]}).objs.size],_,_,H,FL,
  I1.kept (t':=tk) λb o e=>XC _ e,yF _ lo (hi-lo).toNat,?_,λb hb=>?_,q⟩
 ·have e1:lo+((0:Nat):Int)*1=lo:=by simp
  have e2:(((hi-lo).toNat:Nat):Int)-((0:Nat):Int)=Builtin.Range.rangeSize lo hi 1:=by rw[rangeSize_one];split<;>omega
  show IsRangeIter _ _ (lo+((0:Nat):Int)*1) ((((hi-lo).toNat:Nat):Int)-((0:Nat):Int)) 1;rw[e1,e2];exact XF _ FL
 ·have e:b=(s.heap.push {cls:=.type "range",data:=.fields #[.int lo t,.int hi u,.int 1 v]}).objs.size:=by simpa using hb
  subst e;exact I1.fpOk (XE _) (I1.hok.fresh (XE _))
def gO (ta:TA):TI:=λσ H R=>ta σ H λvs H1=>∃j:Int,vs=[.int j]/\ -(2^62)<=j/\j<2^62/\R (fX 0 j.toNat) H1
def xW {a:WW}{p pos:Pos}(hg:Gl X "range")(hm:X.mg "range"=none)(ha:PA X [a] ta)(hs:autoParam (starEach [a] X.env=[(false,eval a X.env)]) QzR):PI X tg (.Call (.Name "range" p) [a] [] pos) (gO ta):=by
 intro WZ s σ H R I h;refine Call_ (Wm I hg hm boot_range (BF (Jy (ha pos WZ s σ H _ I h) λus s1 ⟨vs,H1,I1,r1,q1⟩=>?_) hs FL));obtain⟨j,e,q1,q2,q⟩:=q1;subst e
 cases r1 with
 | cons r rr=>
  cases rr
  obtain⟨t,rfl⟩:=r;exact call_range_1 (u8 I1 (by omega) (by omega) q1 q2 (by simpa using q))
def iF (wi:TI)(g:TG)(tb:TS):TS:=λD σ H=>wi σ H λJ H1=>∃W:Nat->Nat->St->Hp->Prop,(∃m,W 0 m σ H1)/\∀i m σ H,W i m σ H->
 (J.stop i H/\D.nx σ H)\/(J.go i H/\∃N:St->Hp->Prop,(∀σ' H',N σ' H'->∃m',m'<m/\W (i+1) m' σ' H')/\∀x H',J.yld i H x H'->g x σ H' λσ2 H2=>tb {D with nx:=N,ct:=N,bk:=D.nx} σ2 H2)
def Gw (fp:List WP)(h:WU):List (WP×Obj):=fp.filterMap λb=>(h.get? b).map λo=>(b,o)
def Rk {fp:List WP}{h:WU}{b:WP}(hb:b∈fp)(e:h.get? b=some o):(b,o)∈Gw fp h:=List.mem_filterMap.mpr ⟨b,hb,by rw[e];rfl⟩
def wm {p:WP×Obj}(hp:p∈Gw fp h):p.1∈fp/\h.get? p.1=some p.2:=by
 obtain⟨b,hb,e⟩:=List.mem_filterMap.mp hp
 cases q:h.get? b with
 | none=>rw[q] at e;cases e
 | some o=>
  rw[q] at e;have e':(b,o)=p:=YH e;subst e';exact⟨hb,q⟩
def Zy.pinned {fp:List WP}(I:Zy X WZ σ H s)(hf:∀b∈fp,M3 X WZ H b)(ho:∀b∈fp,∃o,s.heap.get? b=some o/\∀v,o.data≠.cell v):Zy X (WZ++Gw fp s.heap) σ H s:=
 I.pins_of λp hp=>(XS.mp hp).elim (λz=>I.pin p (XT _ z)) λz=>by
  obtain⟨hb,e⟩:=wm z;obtain⟨f0,f1,f2,_⟩:=hf p.1 hb;obtain⟨o,e',d⟩:=ho p.1 hb;rw[e] at e';cases e';exact⟨e,f0,f1,f2,d⟩
def Zy.unpinned {WZ pl:List (WP×Obj)}(I:Zy X (WZ++pl) σ H s):Zy X WZ σ H s:=I.pins_of λp hp=>I.pin p (XT _ (BI _ hp))
set_option tactic.hygienic true
def mr {pos:Pos}(hp:PassesOwn (model X.prog X.w) X.A X.env X.xe)(hc:X.calm=true)(hi:PI X tg iter wi)(hg:PG X tg g)(hb:xD X body tb)
  (hs:∀x,foldedSetIterable iter X.env x=pure x:=by intro _;rfl):PS X (.For tg iter body [] pos) (iF wi g tb):=by
 intro WZ s σ H D I h;refine wpAny_For (Jy (hi WZ s σ H _ I h) λv s1 h1=>Jy h1 λitv s2 h2=>?_) hs;obtain⟨it,fp,tn,J,H2,e,I2,T,st2,f2,W,⟨m0,w0⟩,turn⟩:=h2;subst e;have stat:∀{H':Hp},(∀b∈fp,H' b=none)->∀b∈fp,M3 X WZ H' b:=λhn b hb=>⟨hn b hb,(f2 b hb).2⟩;refine codeAny_forLoop_any (λn s'=>∃i σ' H',Zy X WZ σ' H' s'/\tn i s'.heap/\(∀b∈fp,H' b=none)/\W i n σ' H') ?_ m0 ⟨0,σ,H2,I2,st2,λb hb=>(f2 b hb).1,w0⟩;rintro n s3 ⟨i,σ3,H3,I3,st3,fr3,w3⟩
 rcases turn i n σ3 H3 w3 with⟨stop,qn⟩ | ⟨go,N,hN,step⟩
 ·refine wpAny_passesOwn hp (Jy (T.done X FL FL FL hc i WZ s3 σ3 H3 X.xe I3 (stat fr3) st3 stop) λr s4 ⟨hr,I4⟩=>?_);subst hr;exact wpAny_execs_nil ⟨σ3,H3,I4,qn⟩
 ·refine wpAny_passesOwn hp (Jy (T.item X FL FL FL hc i WZ s3 σ3 H3 X.xe I3 (stat fr3) st3 go) λr s4 ⟨u,hr,h4⟩=>?_);subst hr;refine wpAny_passesOwn hp (Jy h4 λ_ s5 ⟨x,H5,I5,r5,y5,st5,fr5⟩=>?_);have I5':=I5.pinned (stat fr5) (T.obj _ _ st5);refine wpAny_passesOwn hp (Jy (hg _ s5 σ3 H5 x u _ I5' r5 (step x H5 y5)) λ_ s6 ⟨σ6,H6,I6,q6⟩=>?_);refine wpAny_passesOwn hp (Jy (hb _ s6 σ6 H6 _ I6 q6) λf s7 q7=>?_);have again:∀{σ7:St} {H7:Hp},Zy X (WZ++Gw fp s5.heap) σ7 H7 s7->N σ7 H7->∃m,m<n/\∃i σ' H',Zy X WZ σ' H' s7/\tn i s7.heap/\(∀b∈fp,H' b=none)/\W i m σ' H':=λ{σ7 H7} I7 n7=>by
   obtain⟨m',hm,w7⟩:=hN σ7 H7 n7;refine⟨m',hm,i+1,σ7,H7,I7.unpinned,T.keep _ _ _ st5 λb hb o e=>(I7.pin (b,o) (XT _ (XT _ (Rk hb e)))).1,λb hb=>?_,w7⟩;obtain⟨o,e,d⟩:=T.obj _ _ st5 b hb;exact(I7.pin (b,o) (XT _ (XT _ (Rk hb e)))).2.1
  cases f with
  | next=>obtain⟨σ7,H7,I7,n7⟩:=q7;exact again I7 n7
  | cont=>obtain⟨σ7,H7,I7,n7⟩:=q7;exact again I7 n7
  | brk=>obtain⟨σ7,H7,I7,q7⟩:=q7;exact⟨σ7,H7,I7.unpinned,q7⟩
  | ret v=>obtain⟨x7,σ7,H7,I7,r7,q7⟩:=q7;exact⟨x7,σ7,H7,I7.unpinned,r7,q7⟩
set_option tactic.hygienic false
end
abbrev R2:=V->V->Hp->VK->Prop
def Kt (X:Cx)(f:WQ->WQ->Sem WQ)(r:R2):Prop:=
 ∀(WZ:List (WP×Obj)) (s:WR) (σ:St) (H:Hp) (x y:V) (v u:WQ) (Q:VK),Zy X WZ σ H s->Ye x v->Ye y u->r x y H Q->
  wpAny (model X.prog X.w) X.A (f v u) (EP X WZ σ Q) X.xe s
def cv (X:Cx)(f:WQ->Sem WQ)(r:V->Hp->VK->Prop):Prop:=
 ∀(WZ:List (WP×Obj)) (s:WR) (σ:St) (H:Hp) (x:V) (v:WQ) (Q:VK),Zy X WZ σ H s->Ye x v->r x H Q->
  wpAny (model X.prog X.w) X.A (f v) (EP X WZ σ Q) X.xe s
def Wy (X:Cx)(f:WQ)(r:List V->Hp->VK->Prop):Prop:=
 ∀(WZ:List (WP×Obj)) (s:WR) (σ:St) (H:Hp) (xs:List V) (us:List WQ) (Q:VK),Zy X WZ σ H s->Yd xs us->r xs H Q->
  wpAny (model X.prog X.w) X.A (call f us) (EP X WZ σ Q) X.xe s
def c6 (X:Cx)(r:V->Hp->(Bool->Hp->Prop)->Prop):Prop:=
 ∀(WZ:List (WP×Obj)) (s:WR) (σ:St) (H:Hp) (x:V) (v:WQ) (Q:Bool->Hp->Prop),Zy X WZ σ H s->Ye x v->r x H Q->
  wpAny (model X.prog X.w) X.A (truthy v) (TP X WZ σ Q) X.xe s
def i8 (r:R2)(ta tb:TE):TE:=λσ H Q=>ta σ H λx H1=>tb σ H1 λy H2=>r x y H2 Q
def cQ (r:V->Hp->VK->Prop)(ta:TE):TE:=λσ H Q=>ta σ H λx H1=>r x H1 Q
def rI (C:Int->Int->Prop)(g:Int->Int->V):R2:=λx y H Q=>∃i j,x=.int i/\y=.int j/\C i j/\Q (g i j) H
def nZ (g:Int->Int->V):R2:=λx y H Q=>∃i j,x=.int i/\y=.int j/\Q (g i j) H
def rU (g:Int->V):V->Hp->VK->Prop:=λx H Q=>∃i,x=.int i/\Q (g i) H
section
variable {X:Cx}{a b c:WW}{ta tb tc:TE}{pos:Pos}
def kC (ha:PE X a ta)(hb:PE X b tb){R:V->V->Hp->Prop}(I:Zy X WZ σ H s)
  (h:ta σ H λx H1=>tb σ H1 λy H2=>R x y H2) {Q:WQ->WR->Prop} {f:WQ->WQ->Sem WQ}
  (hf:∀v u s2 x y H2,Zy X WZ σ H2 s2->Ye x v->Ye y u->R x y H2->wpAny (model X.prog X.w) X.A (f v u) Q X.xe s2):
  wpAny (model X.prog X.w) X.A (eval a X.env) (λv s₁=>wpAny (model X.prog X.w) X.A (eval b X.env) (λu s₂=>wpAny (model X.prog X.w) X.A (f v u) Q X.xe s₂) X.xe s₁) X.xe s:=by
 refine Jy (ha WZ s σ H _ I h) λv s1 ⟨x,H1,I1,r1,q1⟩=>?_;refine Jy (hb WZ s1 σ H1 _ I1 q1) λu s2 ⟨y,H2,I2,r2,q2⟩=>?_;exact hf v u s2 x y H2 I2 r1 r2 q2
def gp (ho:Kt X (binaryOp op) r)(ha:PE X a ta)(hb:PE X b tb):PE X (.BinOp a op b pos) (i8 r ta tb):=by
 intro WZ s σ H Q I h;exact wpAny_BinOp (kC ha hb I h λv u s2 x y H2 I2 rx ry q=>ho WZ s2 σ H2 x y v u Q I2 rx ry q)
def gl {r:V->Hp->VK->Prop}(ho:cv X (unaryOp op) r)(ha:PE X a ta):PE X (.UnaryOp op a pos) (cQ r ta):=by
 intro WZ s σ H Q I h;exact UnaryOp_ (Jy (ha WZ s σ H _ I h) λv s1 ⟨x,H1,I1,r1,q1⟩=>ho WZ s1 σ H1 x v Q I1 r1 q1)
def fQ {f:WQ->WQ->Sem WQ}{C:Int->Int->Prop}{g:Int->Int->Int}
  (rule:∀(i j:Int) (t u:Tok) (s:WR) (Q:WQ->WR->Prop) (E:WQ->WR->Prop),C i j->Q (.int (g i j) s.toks) {s with toks:=s.toks+1}->wpAny (model X.prog X.w) X.A (f (.int i t) (.int j u)) Q E s):
  Kt X f (rI C λi j=>.int (g i j)):=by
 intro WZ s σ H x y v u Q I rx ry h;obtain⟨i,j,rfl,rfl,hc,q⟩:=h;obtain⟨t,rfl⟩:=rx;obtain⟨t',rfl⟩:=ry;exact rule i j t t' s _ _ hc ⟨.int (g i j),H,I.tok _,⟨_,FL⟩,q⟩
def gy {f:WQ->WQ->Sem WQ}{g:Int->Int->Int}
  (rule:∀(i j:Int) (t u:Tok) (s:WR) (Q:WQ->WR->Prop) (E:WQ->WR->Prop),Q (.int (g i j) s.toks) {s with toks:=s.toks+1}->wpAny (model X.prog X.w) X.A (f (.int i t) (.int j u)) Q E s):
  Kt X f (nZ λi j=>.int (g i j)):=by
 intro WZ s σ H x y v u Q I rx ry h;obtain⟨i,j,rfl,rfl,q⟩:=h;obtain⟨t,rfl⟩:=rx;obtain⟨t',rfl⟩:=ry;exact rule i j t t' s _ _ ⟨.int (g i j),H,I.tok _,⟨_,FL⟩,q⟩
def mZ {f:WQ->WQ->Sem WQ}{g:Int->Int->Bool}
  (rule:∀(i j:Int) (t u:Tok) (s:WR) (Q:WQ->WR->Prop) (E:WQ->WR->Prop),Q (.bool (g i j)) s->wpAny (model X.prog X.w) X.A (f (.int i t) (.int j u)) Q E s):
  Kt X f (nZ λi j=>.bl (g i j)):=by
 intro WZ s σ H x y v u Q I rx ry h;obtain⟨i,j,rfl,rfl,q⟩:=h;obtain⟨t,rfl⟩:=rx;obtain⟨t',rfl⟩:=ry;exact rule i j t t' s _ _ ⟨.bl (g i j),H,I,FL,q⟩
def cL (i j:Int):Prop:=0<j/\j<1073741824
def fJ (i j:Int):Prop:=0<=j/\j<=1000000/\i.natAbs<2^64
def oh (i j:Int):Prop:=(-(2^64)<i/\i<2^64)\/(-(2^64)<j/\j<2^64)
def oh.ok (h:oh i j):IntMulOk i j:=by
 rcases h with⟨h1,h2⟩ | ⟨h1,h2⟩
 ·exact .of_left (intBits_le_64 h1 h2)
 ·exact .of_right (intBits_le_64 h1 h2)
def mY:Kt X (binaryOp .Add) (nZ λi j=>.int (i+j)):=gy λ_ _ _ _ _ _ _ q=>add_int q
def mR:Kt X (binaryOp .Sub) (nZ λi j=>.int (i-j)):=gy λ_ _ _ _ _ _ _ q=>sub_int q
def mU:Kt X (binaryOp .Mult) (rI oh λi j=>.int (i*j)):=fQ λ_ _ _ _ _ _ _ hc q=>mul_int q hc.ok
def mV:Kt X (binaryOp .Mod) (rI (λ_ j=>0<j) λi j=>.int (i%j)):=fQ λi j _ _ _ _ _ hc q=>by
 have h1:(0:Int)<j:=hc;exact mod_int' (by omega) (by rw[Int.fmod_eq_emod_of_nonneg i (by omega)];exact q)
def mT:Kt X (binaryOp .Pow) (rI fJ λi j=>.int (i^j.toNat)):=fQ λ_ _ _ _ _ _ _ hc q=>pow_int_small hc.1 hc.2.1 hc.2.2 q
def bF {f:WQ->Sem WQ}{g:Int->Int}
  (rule:∀(i:Int) (t:Tok) (s:WR) (Q:WQ->WR->Prop) (E:WQ->WR->Prop),Q (.int (g i) s.toks) {s with toks:=s.toks+1}->wpAny (model X.prog X.w) X.A (f (.int i t)) Q E s):
  cv X f (rU λi=>.int (g i)):=by
 intro WZ s σ H x v Q I rx h;obtain⟨i,rfl,q⟩:=h;obtain⟨t,rfl⟩:=rx;exact rule i t s _ _ ⟨.int (g i),H,I.tok _,⟨_,FL⟩,q⟩
def n9:cv X (unaryOp .USub) (rU λi=>.int (-i)):=bF λ_ _ _ _ _ q=>neg_int q
end
def bU:V->V->Bool
 | .non,.non=>true | .non,.int _=>true | .int _,.non=>true | .non,.bl _=>true | .bl _,.non=>true | .non,.str _=>true | .str _,.non=>true
 | .int _,.int _=>true | .bl _,.bl _=>true | .str _,.str _=>true | .byt _,.byt _=>true
 | .int _,.str _=>true | .str _,.int _=>true | .bl _,.str _=>true | .str _,.bl _=>true
 | _,_=>false
section
variable {X:Cx}{a b c:WW}{ta tb tc:TE}{pos:Pos}
def tV {Q:VK}{k k':Bool}(I:Zy X WZ σ H s)(q:Q (.bl k) H)(e:k=k'):EP X WZ σ Q (.bool k') s:=by
 subst e;exact⟨.bl k,H,I,FL,q⟩
def gv:Kt X (compareOp .Lt) (nZ λi j=>.bl (decide (i<j))):=mZ λ_ _ _ _ _ _ _ q=>lt_int q
def gw:Kt X (compareOp .Gt) (nZ λi j=>.bl (decide (j<i))):=mZ λ_ _ _ _ _ _ _ q=>gt_int q
def gx:Kt X (compareOp .GtE) (nZ λi j=>.bl (decide (j<=i))):=mZ λ_ _ _ _ _ _ _ q=>ge_int q
def xZ:Kt X (compareOp .Lt) (λx y H Q=>∃i j,x=.str i/\y=.str j/\Q (.bl (decide (i.cps.toList<j.cps.toList))) H):=by
 intro WZ s σ H x y v u Q I rx ry h;obtain⟨i,j,rfl,rfl,q⟩:=h;obtain⟨t,rfl⟩:=rx;obtain⟨t',rfl⟩:=ry;exact lt_str (tV I q FL)
def mW:Kt X (compareOp .Is) (λx y H Q=>y=.non/\Q (.bl (decide (x=.non))) H):=by
 intro WZ s σ H x y v u Q I rx ry h;obtain⟨rfl,q⟩:=h
 cases ry
 refine is_none_gen (tV I q ?_)
 cases x<;>first
  | (cases rx;rfl)
  | (obtain⟨t,rfl⟩:=rx;rfl)
def bf:HO->Bool
 | .lst _=>true
 | .ins _ _ _=>true
 | _=>false
def Kt.or {f:WQ->WQ->Sem WQ}(h:Kt X f r)(h':Kt X f r'):Kt X f (λx y H Q=>r x y H Q\/r' x y H Q):=by
 intro WZ s σ H x y v u Q I rx ry q
 rcases q with q | q
 ·exact h WZ s σ H x y v u Q I rx ry q
 ·exact h' WZ s σ H x y v u Q I rx ry q
def Jr (b:WW){op:CmpOp}(h:op≠.In:=by decide)(h2:op≠.NotIn:=by decide):behindInMarks op b=false:=by
 have e1:(op==CmpOp.In)=false:=by cases op<;>first | rfl | exact absurd FL h
 have e2:(op==CmpOp.NotIn)=false:=by cases op<;>first | rfl | exact absurd FL h2
 cases b<;>simp[behindInMarks,e1,e2]
def qy (ho:Kt X (compareOp op) r)(ha:PE X a ta)(hb:PE X b tb)(hm:behindInMarks op b=false):PE X (.Compare a [op] [b] pos) (i8 r ta tb):=by
 intro WZ s σ H Q I h;exact wpAny_Compare1 (kC ha hb I h λv u s2 x y H2 I2 rx ry q=>ho WZ s2 σ H2 x y v u Q I2 rx ry q) hm
def ot (t:TE):TT:=λσ H Q=>t σ H λx H'=>∃k,x=.bl k/\Q k H'
def qg (ho:Kt X (compareOp op) r)(ha:PE X a ta)(hb:PE X b tb)(hm:behindInMarks op b=false):PT X (.Compare a [op] [b] pos) (ot (i8 r ta tb)):=by
 intro WZ s σ H Q I h;refine wpAny_isTrue_Compare1 (Jy (ha WZ s σ H _ I h) λv s1 ⟨x,H1,I1,r1,q1⟩=>Jy (hb WZ s1 σ H1 _ I1 q1) λu s2 ⟨y,H2,I2,r2,q2⟩=>
  Jy (ho WZ s2 σ H2 x y v u _ I2 r1 r2 q2) λc s3 ⟨z,H3,I3,r3,k,e,q3⟩=>?_) hm
 subst e
 cases r3
 exact wpAny_truthy_bool ⟨H3,I3,q3⟩
def eU (r r':R2)(ta tb tc:TE):TE:=λσ H Q=>ta σ H λx H1=>tb σ H1 λy H2=>r x y H2 λz H3=>∃k,z=.bl k/\
 (if k=true then tc σ H3 λw' H4=>r' y w' H4 Q else Q (.bl false) H3)
def kL (K:WY)(x:V)(H:Hp)(k:Bool):Prop:=
 match x with
 | .non=>k=false
 | .bl b=>k=b
 | .int i=>k=(i !=0)
 | .str y=>y.length<=sizeLine/\k=((y.length:Int) !=0)
 | .byt y=>y.size<=sizeLine/\k=((y.size:Int) !=0)
 | .ref p=>(∃xs,J9 K H p xs/\k=!xs.isEmpty)\/(∃xs,Uz K H p xs/\k=!xs.isEmpty)\/∃kvs,H p=some (.dK kvs)/\k=!kvs.isEmpty
 | _=>False
def jf {κ:Type}{kvs:List (κ×V)}{vs:List (κ×WQ)}(r:KV kvs vs):(!vs.isEmpty)=!kvs.isEmpty:=by
 cases r<;>rfl
def Fe (r:Yd xs its):(!its.toArray.isEmpty)=!xs.isEmpty:=by
 cases r<;>simp
def Mn:(sizeLine:Nat)<2^63:=by rw[sizeLine_eq];decide
def nC:c6 X (λx H Q=>∃k,kL X.K x H k/\Q k H):=by
 intro WZ s σ H x v Q I rx h;obtain⟨k,e,q⟩:=h;have hl:=Mn;have hs:sizeLine=16777216:=sizeLine_eq
 cases x with
 | non=>
  cases rx
  have e':k=false:=e;subst e';exact truthy_none ⟨H,I,q⟩
 | bl b=>
  cases rx
  have e':k=b:=e;subst e';exact wpAny_truthy_bool ⟨H,I,q⟩
 | int i=>
  obtain⟨t,rfl⟩:=rx;have e':k=(i !=0):=e;subst e';exact PySem.P.truthy_int ⟨H,I,q⟩
 | str y=>
  obtain⟨t,rfl⟩:=rx;obtain⟨hy,e'⟩:y.length<=sizeLine/\k=((y.length:Int) !=0):=e;subst e';exact PySem.P.truthy_str (by omega) ⟨H,I.tok _,q⟩
 | byt y=>
  obtain⟨t,rfl⟩:=rx;obtain⟨hy,e'⟩:y.size<=sizeLine/\k=((y.size:Int) !=0):=e;subst e';exact W.truthy_bytes (by omega) ⟨H,I.tok _,q⟩
 | ref p=>
  cases rx
  have e':(∃xs,J9 X.K H p xs/\k=!xs.isEmpty)\/(∃xs,Uz X.K H p xs/\k=!xs.isEmpty)\/∃kvs,H p=some (.dK kvs)/\k=!kvs.isEmpty:=e
  rcases e' with⟨xs,hx,e'⟩ | ⟨xs,hx,e'⟩ | ⟨kvs,hx,e'⟩
  ·subst e';obtain⟨its,r,pl,hz⟩:=I.list hx;have hlen:=r.length;exact wpAny_truthy_list pl.isList (by simp only[List.size_toArray];omega) ⟨H,I.tok _,by rw[Fe r];exact q⟩
  ·subst e';obtain⟨its,r,pl,hz⟩:=I.tuple hx;have hlen:=r.length;exact truthy_tuple pl (by simp only[List.size_toArray];omega) ⟨H,I.tok _,by rw[Fe r];exact q⟩
  ·subst e';obtain⟨hz,hS,vs,r,m⟩:kvs.length<=sizeLine/\(p==sysModules)=false/\∃vs,KV kvs vs/\s.heap.DictOf (Yq X.prog X.w) p vs:=I.hok p _ hx;have hlen:kvs.length=vs.length:=Paired.length r;exact wpAny_truthy_dict hS m (by omega) ⟨H,I.tok _,by rw[jf r];exact q⟩
 | _=>exact(show False from e).elim
def u9 (ha:PE X a ta)(he:∀whole,isTrue a X.env whole=(do let v <-whole;standAt a.pos;holding [v] (truthy v))):
  PT X a (λσ H Q=>ta σ H λx H'=>∃k,kL X.K x H' k/\Q k H'):=by
 intro WZ s σ H Q I h;exact isTrue_plain (Jy (ha WZ s σ H _ I h) λv s1 ⟨x,H1,I1,r1,q1⟩=>nC WZ s1 σ H1 x v Q I1 r1 q1) (he _)
def yV:Kt X (binaryOp .Add) (λx y H Q=>∃i j,x=.str i/\y=.str j/\i.length+j.length<=sizeLine/\Q (.str (i++j)) H):=by
 intro WZ s σ H x y v u Q I rx ry h;obtain⟨i,j,rfl,rfl,hz,q⟩:=h;obtain⟨t,rfl⟩:=rx;obtain⟨t',rfl⟩:=ry;exact add_str (λt' tk=>⟨.str (i++j),H,I.tok _,⟨_,FL⟩,q⟩) hz
def Qh {x:V}(r:Yd [x] us):∃u,us=[u]/\Ye x u:=by
 cases r with
 | cons r1 r2=>cases r2;exact⟨_,FL,r1⟩
def ix {x y:V}(r:Yd [x,y] us):∃u w',us=[u,w']/\Ye x u/\Ye y w':=by
 cases r with
 | cons r1 r2=>
  cases r2 with
  | cons r3 r4=>cases r4;exact⟨_,_,FL,r1,r3⟩
def wP (hc:X.calm=true):Wy X (.builtin "max") (λxs H Q=>∃i j,xs=[.int i,.int j]/\Q (.int (if j>i then j else i)) H):=by
 intro WZ s σ H xs us Q I r h;obtain⟨i,j,rfl,q⟩:=h;obtain⟨u,w',rfl,⟨t,rfl⟩,⟨t',rfl⟩⟩:=ix r;refine max_two_ints (I.ok.hd hc) λh' tk k=>⟨_,H,I.kept k,?_,q⟩;by_cases hj:j>i
 ·rw[XY hj,XY hj];exact⟨_,FL⟩
 ·rw[XX hj,XX hj];exact⟨_,FL⟩
def wQ:Wy X (.type "int") (λxs H Q=>(∃i,xs=[.int i]/\Q (.int i) H)\/∃k,xs=[.bl k]/\Q (.int (if k then 1 else 0)) H):=by
 intro WZ s σ H xs us Q I r h
 rcases h with⟨i,rfl,q⟩ | ⟨k,rfl,q⟩
 ·obtain⟨u,rfl,t,rfl⟩:=Qh r;exact call_int_int ⟨.int i,H,I,⟨_,FL⟩,q⟩
 ·obtain⟨u,rfl,r1⟩:=Qh r
  cases r1
  exact call_int_bool ⟨.int (if k then 1 else 0),H,I.tok _,⟨_,FL⟩,q⟩
def aI (K:WY)(x:V)(H:Hp)(n:Nat):Prop:=
 match x with
 | .str y=>y.length<=sizeLine/\n=y.length
 | .byt y=>y.size<=sizeLine/\n=y.size
 | .ref p=>(∃xs,J9 K H p xs/\n=xs.length)\/∃xs,Uz K H p xs/\n=xs.length
 | _=>False
end
structure j6 (h:Heap)(x dx C:Addr)(mA:Str->Option Value):Prop where
 obj:h.get? x=some (W.instObj C dx)
 ns:h.Ns1 dx mA
 ne:dx≠x
set_option tactic.hygienic true
def w5 {h:WU}(n:h.Ns1 dx mA):∃od,h.get? dx=some od/\∀name,W.lookIn name od=some (mA name):=by
 obtain⟨o,es,ep,ho,hd,hk,_,hm⟩:=n;refine⟨o,ho,λname=>?_⟩;have e:=hm name;unfold nsFind findBy at e;rw[<-Array.find?_toList] at e;unfold W.lookIn;rw[hd];dsimp only
 split
 ·rename_i y q;rw[q] at e;exact congrArg some e
 ·rename_i q;rw[q] at e;have a:es.toList.any (·.refKey)=false:=by
   rw[List.any_eq_false];intro y hy;obtain⟨z,t,hkey⟩:=hk y (Array.mem_toList_iff.mp hy);simp[DictEntry.refKey,hkey]
  have a':¬es.toList.any (·.refKey)=true:=by rw[a];exact YJ
  rw[XX a'];exact congrArg some e
set_option tactic.hygienic false
def j6.look (I:j6 h x dx C mA):∃od,W.InstAt h x (W.instObj C dx) C (some od)/\∀name,W.lookIn name od=some (mA name):=
 let ⟨od,ho,hl⟩:=w5 I.ns
 ⟨od,⟨I.obj,FL,FL,ho⟩,hl⟩
section
variable {prog:WO}{w:WN}{A:WM}{E:WQ->WR->Prop}{s:WR}{K:WY}{x dx C f:WP}{mA:Str->Option WQ}{name:Str}{v:WQ}
def qQ {expr:Bool}{Q:WQ->WR->Prop}(X:K.In s.heap)(I:j6 s.heap x dx C mA)(hg:W.plainGet K C name=true)(hh:W.hasDictIn K C=true)
  (ha:W.findIn K (.ref C) name=some none) (hv:mA name=some v) (hv':W.handedIn v=true) (h:Q v {s with toks:=s.toks+1}):
  wpAny (model prog w) A (getAttr (.ref x) name expr) Q E s:=by
 obtain⟨od,J,hl⟩:=I.look;exact W.get_value X J (W.plainGet_of hg).1 (W.findObj_own hh ha FL (by rw[hl,hv])) hv' h
def tO {pl:Sem Bool}{Q:WQ×List WQ->WR->Prop}(X:K.In s.heap)(I:j6 s.heap x dx C mA)(hg:W.plainGet K C name=true)
  (hf:W.findIn K (.ref C) name=some (some (.ref f))) (ht:W.isFn K (.ref f)=true) (hv:mA name=none) (h:Q (.ref f,[.ref x]) s):
  wpAny (model prog w) A (getMethod (.ref x) name pl) Q E s:=by
 obtain⟨od,J,hl⟩:=I.look;exact W.method_fn X J (W.plainGet_of hg).1 (W.plainGet_of hg).2 hf (beq_iff_eq.mp ht) (by show(W.lookIn name od).map (·.isSome)=some false;rw[hl,hv];rfl) h
def rX {ns:List Str}{Q:Unit->WR->Prop}(X:K.In s.heap)(I:j6 s.heap x dx C mA)
  (hs:W.findIn K (.ref C) "__setattr__"=some (some (.builtin "object.__setattr__"))) (hp:W.plainOver K C=true) (ht:W.takerIn K C name=some none) (hh:W.hasDictIn K C=true)
  (hw:PySem.Within mA ns) (hsz:ns.length<=sizeLine)
  (h:∀h',j6 h' x dx C (λy=>if y=name then some v else mA y)->Heap.SameBut dx s.heap h'->Q () {s with heap:=h',toks:=s.toks+2}):
  wpAny (model prog w) A (setAttr (.ref x) name v) Q E s:=by
 obtain⟨od,J,hl⟩:=I.look;refine W.set_plain X J hs (W.osa_open (s:={s with toks:=s.toks+1}) (r:=none) X J hp ht λb=>?_);obtain⟨cd,hc,hd'⟩:=W.any_some hh;have hx:s.heap.get? x=some ⟨.ref C,some dx,.plain,#[]⟩:=I.obj;refine XA (XB (XA (XA (wpAny_loadPart hx (XA (W.Looks.here (s:={s with toks:=s.toks+1}) (W.looks_clsIn X hc) ?_))))));rw[hd'];refine XB (a:=some dx) (XA (XB (XA ?_)));refine wpAny_nsSet1 (s:={s with toks:=s.toks+1}) I.ns λh' hn2 hs2=>?_;obtain⟨oD,esD,epD,hoD,hdD,hcD⟩:=hn2.count (PySem.Within.cons name v hw);refine XA (wpAny_lookBehind hoD (by rw[hdD];exact pastItsLine_dict (XN hcD (by rw[YF];omega))) ?_);exact XB (h _ ⟨(hs2.2 _ (Ne.symm I.ne)).trans I.obj,hn2,I.ne⟩ hs2)
def uZ {R:Result->WR->Prop}{vs:List WQ}{kw:List (Str×WQ)}(X:K.In s.heap)(hm:W.makesIn K C=true)
  (hi:W.findIn K (.ref C) "__init__"=some (some (.ref f))) (hf:W.typeIn K (.ref f)=some (.type "function"))
  (h:codeAny (model prog w) (A.under (.builtin "type.__call__" ⟨.ref C::vs,kw⟩)) (.call (.ref f) ⟨.ref (s.heap.objs.size+1)::vs,kw⟩) (W.InitBack (s.heap.objs.size+1) R)
   {s with heap:=(s.heap.push W.emptyDict).push (W.instObj C s.heap.objs.size)}):
  codeAny (model prog w) A (.call (.ref C) ⟨vs,kw⟩) R s:=by
 obtain⟨hh,g,d,t,os⟩:=s;exact W.make_core (W.makes_of X hm) (W.looks_findIn X hi) (λself=>W.bind_fn X self hf) (.inl FL) h
end
def Tl (f:Str)(v:V):List (Str×V)->List (Str×V)
 | []=>[(f,v)]
 | (g,x)::r=>if g=f then(g,v)::r else(g,x)::Tl f v r
def Iv (f g:Str)(v:V):∀fs:List (Str×V),(Tl f v fs).lookup g=if g=f then some v else fs.lookup g
 | []=>by
  show List.lookup g [(f,v)]=_;by_cases h:g=f
  ·have hb:(g==f)=true:=beq_iff_eq.mpr h;simp only[List.lookup,hb,if_pos h]
  ·have hb:(g==f)=false:=beq_eq_false_iff_ne.mpr h;simp only[List.lookup,hb,if_neg h]
 | (k,x)::r=>by
  have ih:=Iv f g v r;rw[show Tl f v ((k,x)::r)=(if k=f then(k,v)::r else(k,x)::Tl f v r) from rfl];by_cases hk:k=f
  ·rw[XY hk];by_cases h:g=k
   ·have hb:(g==k)=true:=beq_iff_eq.mpr h;simp only[List.lookup,hb,if_pos (h.trans hk)]
   ·have hb:(g==k)=false:=beq_eq_false_iff_ne.mpr h;simp only[List.lookup,hb,if_neg (λe:g=f=>h (e.trans hk.symm))]
  ·rw[XX hk];by_cases h:g=k
   ·have hb:(g==k)=true:=beq_iff_eq.mpr h;simp only[List.lookup,hb,if_neg (λe:g=f=>hk (h.symm.trans e))]
   ·have hb:(g==k)=false:=beq_eq_false_iff_ne.mpr h;simp only[List.lookup,hb];exact ih
def Ie (f:Str)(v:V):∀fs:List (Str×V),f∈(Tl f v fs).map (·.1)/\∀g,g∈fs.map (·.1)->g∈(Tl f v fs).map (·.1)
 | []=>⟨by simp[Tl],λg h=>by simp at h⟩
 | (k,x)::r=>by
  obtain⟨i1,i2⟩:=Ie f v r;rw[show Tl f v ((k,x)::r)=(if k=f then(k,v)::r else(k,x)::Tl f v r) from rfl];by_cases hk:k=f
  ·rw[XY hk];subst hk;exact⟨by simp,λg h=>by simpa using h⟩
  ·rw[XX hk];refine⟨?_,λg h=>?_⟩
   ·rw[YI];exact XV _ i1
   ·rw[YI] at h |-
    rcases BC.mp h with e | e
    ·exact BC.mpr (.inl e)
    ·exact XV _ (i2 g e)
def Iw (f:Str)(v:V):∀fs:List (Str×V),(Tl f v fs).length<=fs.length+1
 | []=>by simp[Tl]
 | (k,x)::r=>by
  have ih:=Iw f v r;rw[show Tl f v ((k,x)::r)=(if k=f then(k,v)::r else(k,x)::Tl f v r) from rfl];by_cases hk:k=f
  ·rw[XY hk,YF,YF];omega
  ·rw[XX hk,YF,YF];omega
def Q9.some_of (r:Q9 (some v) o):∃u,o=some u/\Ye v u:=by
 cases o with
 | none=>exact(show False from r).elim
 | some u=>exact⟨u,FL,r⟩
def Q9.none_of (r:Q9 none o):o=none:=by
 cases o with
 | none=>rfl
 | some u=>exact(show False from r).elim
def wF (r:Ye v u):W.handedIn u=true:=by
 cases v with
 | non=>cases (show u=Value.none from r);rfl
 | bl b=>cases (show u=Value.bool b from r);rfl
 | int i=>obtain⟨t,e⟩:=(show ∃t,u=Value.int i t from r);cases e;rfl
 | str x=>obtain⟨t,e⟩:=(show ∃t,u=Value.str x t from r);cases e;rfl
 | byt b=>obtain⟨t,e⟩:=(show ∃t,u=Value.bytes b t from r);cases e;rfl
 | flt b=>obtain⟨t,e⟩:=(show ∃t,u=Value.float b t from r);cases e;rfl
 | ref a=>cases (show u=Value.ref a from r);rfl
 | ty n=>cases (show u=Value.type n from r);rfl
section
variable {P:WO}{w:WN}{H H':Hp}{h h':WU}{a C dx:WP}{fs fs':List (Str×V)}
def Hx (hok:M7 P w H h)(e:H a=some (.ins C dx fs)):∃mA,j6 h a dx C mA/\(∀f,Q9 (fs.lookup f) (mA f))/\PySem.Within mA (fs.map (·.1))/\fs.length<=1000/\H dx=some (.own a):=by
 obtain⟨d,z,ne,ob,mA,n,r,q⟩:=(show Ji P w H h a (.ins C dx fs) from hok a _ e);exact⟨mA,⟨ob,n,ne⟩,r,q,z,d⟩
end
structure jB (K:W.Frag)(C:Addr):Prop where
 pg:W.plainGet K C Str.empty=true
 hd:W.hasDictIn K C=true
 po:W.plainOver K C=true
 sa:W.findIn K (.ref C) "__setattr__"=some (some (.builtin "object.__setattr__"))
def jB.get {K:WY}(c:jB K C)(f:Str):W.plainGet K C f=true:=c.pg
def R7 (K:WY)(C:WP)(f:Str):Prop:=W.findIn K (.ref C) f=some none
def R7.taker {K:WY}{f:Str}(n:R7 K C f):W.takerIn K C f=some none:=by
 unfold W.takerIn;rw[show W.findIn K (.ref C) f=some none from n];rfl
structure aN (K:W.Frag)(C:Addr)(f:Str)(v:V)(u:Value):Prop where
 at_:W.findIn K (.ref C) f=some (some u)
 rel:Ye v u
 get:W.specialIn K u "__get__"=some none
 cp:W.copiedNames.contains f=false
structure vb (K:W.Frag)(C:Addr)(m:Str)(f:Addr):Prop where
 at_:W.findIn K (.ref C) m=some (some (.ref f))
 fn:W.isFn K (.ref f)=true
 kp:W.keepIn K (.ref f)=true
section
variable {X:Cx}{WZ:List (WP×Obj)}{σ:St}{H:Hp}{s:WR}{a C dx:WP}{fs:List (Str×V)}{f:Str}{v:V}{A:WM}{E:WQ->WR->Prop}
def ji {b:Bool}{Q:WQ->WR->Prop}(I:Zy X WZ σ H s)(e:H a=some (.ins C dx fs))(c:jB X.K C)(n:R7 X.K C f)(l:fs.lookup f=some v)
  (h:∀u s',Zy X WZ σ H s'->Ye v u->Q u s'):wpAny (model X.prog X.w) A (getAttr (.ref a) f b) Q E s:=by
 obtain⟨mA,O,r,_,_,_⟩:=Hx I.hok e;obtain⟨u,hu,ru⟩:=Q9.some_of (v:=v) (o:=mA f) (by rw[<-l];exact r f);exact qQ I.kIn O (c.get f) c.hd n hu (wF ru) (h u _ (I.tok _) ru)
def Fk {pl:Sem Bool}{Q:WQ×List WQ->WR->Prop}(I:Zy X WZ σ H s)(e:H a=some (.ins C dx fs))(c:jB X.K C)(k:vb X.K C m g)(l:fs.lookup m=none)
  (h:Q (.ref g,[.ref a]) s):wpAny (model X.prog X.w) A (getMethod (.ref a) m pl) Q E s:=by
 obtain⟨mA,O,r,_,_,_⟩:=Hx I.hok e;have hn:mA m=none:=Q9.none_of (by rw[<-l];exact r m);exact tO I.kIn O (c.get m) k.at_ k.fn hn h
def yH {Q:Unit->WR->Prop}(I:Zy X WZ σ H s)(e:H a=some (.ins C dx fs))(c:jB X.K C)(n:R7 X.K C f)(hl:fs.length<1000)(ry:Ye y u)
  (h:∀s',Zy X WZ σ (Yz H a (.ins C dx (Tl f y fs))) s'->Q () s'):wpAny (model X.prog X.w) A (setAttr (.ref a) f u) Q E s:=by
 obtain⟨mA,O,r,wi,_,ho⟩:=Hx I.hok e;have hz:(fs.map (·.1)).length<=sizeLine:=by rw[XI,sizeLine_eq];omega
 refine rX I.kIn O c.sa c.po n.taker c.hd wi hz λh' O' sb=>h _ ?_;have hd:∃o,h'.get? dx=some o:=let ⟨o,_,_,e',_⟩:=O'.ns;⟨o,e'⟩
 refine I.write (x:=a) (e:=dx) (by rw[e];exact True.intro) (.inr ho) (λb q hb z=>(sb.2 b hb).trans z) hd ?_;refine⟨by rw[Zt O.ne];exact ho,?_,O.ne,O'.obj,_,O'.ns,λg=>?_,λg hg=>?_⟩
 ·have:=Iw f y fs;omega
 ·show Q9 ((Tl f y fs).lookup g) (if g=f then some u else mA g);rw[Iv];by_cases q:g=f
  ·rw[XY q,XY q];exact ry
  ·rw[XX q,XX q];exact r g
 ·by_cases q:g=f
  ·rw[q];exact(Ie f y fs).1
  ·refine(Ie f y fs).2 g (wi g λz=>hg ?_);show(if g=f then some u else mA g)=none;rw[XX q];exact z
def Zy.made (I:Zy X WZ σ H s):Zy X WZ σ (Yz (Yz H s.heap.objs.size (.own (s.heap.objs.size+1))) (s.heap.objs.size+1) (.ins C s.heap.objs.size []))
  {s with heap:=(s.heap.push W.emptyDict).push (W.instObj C s.heap.objs.size)}:=by
 have e1:(s.heap.push W.emptyDict).get? s.heap.objs.size=some W.emptyDict:=XF s.heap FL;have e2:((s.heap.push W.emptyDict).push (W.instObj C s.heap.objs.size)).get? (s.heap.objs.size+1)=some (W.instObj C s.heap.objs.size):=by
  have:=XF (s.heap.push W.emptyDict) (o:=W.instObj C s.heap.objs.size) FL
  rwa [BY] at this
 have e3:(s.heap.push W.emptyDict).Ns s.heap.objs.size (λ_=>none):=⟨W.emptyDict,#[],_,e1,FL,(λe he=>absurd he (by simp)),λ_=>rfl⟩;have I1:=I.laid (a:=s.heap.objs.size) (o:=.own (s.heap.objs.size+1)) (h':=s.heap.push W.emptyDict) (t':=s.toks) (λb u q=>XC _ q) (XE _) ⟨_,e1⟩;refine I1.laid (a:=s.heap.objs.size+1) (o:=.ins C s.heap.objs.size []) (t':=s.toks) (λb u q=>XC _ q) (Nat.le_of_eq (BY _ _)) ?_;have ne:s.heap.objs.size≠s.heap.objs.size+1:=XH (BJ _);refine⟨by rw[Zt ne,Z3],XO _,ne,e2,λ_=>none,(Heap.Ns1.of_empty e3).at λo q=>XC _ q,λ_=>True.intro,λy hy=>absurd FL hy⟩
def pK {prog:WO}{w:WN}{pos:Pos}{Q:WQ->WR->Prop}(hb:attributeBase e f env (eval e env)=eval e env)
  (h:wpAny (model prog w) A (eval e env) (λo s₁=>wpAny (model prog w) A (getAttr o f true) Q E s₁) E s):wpAny (model prog w) A (eval (.Attribute e f pos) env) Q E s:=
 Attribute_any_ h (by rw[arm_eval_Attribute,hb])
end
def eS (K:WY)(ta:TE)(f:Str):TE:=λσ H Q=>ta σ H λx H1=>∃a C dx fs v,x=.ref a/\H1 a=some (.ins C dx fs)/\jB K C/\R7 K C f/\fs.lookup f=some v/\Q v H1
def bP (K:WY)(ta:TE)(f:Str):TE:=λσ H Q=>ta σ H λx H1=>∃a C dx fs v u,x=.ref a/\H1 a=some (.ins C dx fs)/\jB K C/\aN K C f v u/\fs.lookup f=none/\Q v H1
def dg (K:WY)(ta tv:TE)(f:Str):TS:=λD σ H=>tv σ H λy H1=>ta σ H1 λx H2=>∃a C dx fs,x=.ref a/\H2 a=some (.ins C dx fs)/\jB K C/\R7 K C f/\fs.length<1000/\
 D.nx σ (Yz H2 a (.ins C dx (Tl f y fs)))
def aL (X:Cx)(op:Operator)(rd:V->V->Hp->VK->Prop):Prop:=
 ∀(WZ:List (WP×Obj)) (s:WR) (σ:St) (H:Hp) (x y:V) (u v:WQ) (Q:VK),Zy X WZ σ H s->Ye x u->Ye y v->rd x y H Q->wpAny (model X.prog X.w) X.A (inplaceOp op u v) (EP X WZ σ Q) X.xe s
def fO (K:WY)(ta tv:TE)(rd:V->V->Hp->VK->Prop)(f:Str):TS:=λD σ H=>ta σ H λx H1=>∃a C dx fs v,x=.ref a/\H1 a=some (.ins C dx fs)/\jB K C/\R7 K C f/\fs.lookup f=some v/\
 tv σ H1 λy H2=>rd v y H2 λz H3=>∃dx' fs',H3 a=some (.ins C dx' fs')/\fs'.length<1000/\D.nx σ (Yz H3 a (.ins C dx' (Tl f z fs')))
section
variable {X:Cx}{o e value:WW}{f:Str}{pos pos' tpos:Pos}{ta tv:TE}
def mK (he:PE X e ta)(hb:attributeBase e f X.env (eval e X.env)=eval e X.env):PE X (.Attribute e f pos) (eS X.K ta f):=by
 intro WZ s σ H Q I h;refine pK hb (Jy (he WZ s σ H _ I h) λu s1 ⟨x,H1,I1,rx,a,C,dx,fs,v,ex,ea,c,n,l,q⟩=>?_);subst ex;obtain rfl:u=Value.ref a:=rx;exact ji I1 ea c n l λu' s2 I2 ru=>⟨v,H1,I2,ru,q⟩
def mv (ha:PE X o ta)(hv:PE X value tv)(hs:swapsWith value (some (.Attribute o f pos')) pos.line X.env=pure false):PS X (.Assign [.Attribute o f pos'] value pos) (dg X.K ta tv f):=by
 intro WZ s σ H D I h;refine plainObj_wpAny_Assign_Attribute (Jy (hv WZ s σ H _ I h) λu s1 ⟨y,H1,I1,ry,q⟩=>Jy (ha WZ s1 σ H1 _ I1 q) λov s2 ⟨x,H2,I2,rx,a,C,dx,fs,ex,ea,c,n,l,q2⟩=>?_) hs;subst ex;obtain rfl:ov=Value.ref a:=rx;exact yH I2 ea c n l ry λs3 I3=>⟨σ,_,I3,q2⟩
end
section
variable {X:Cx}{WZ:List (WP×Obj)}{σ:St}{H:Hp}{s:WR}{A:WM}{E:WQ->WR->Prop}{Q:WQ->WR->Prop}{c:WQ}{b:Bool}
inductive Hl (K:W.Frag)(H:Hp):V->Value->Prop where
 | non:Hl K H .non (.type "NoneType")
 | bl (x:Bool):Hl K H (.bl x) (.type "bool")
 | int (i:Int):Hl K H (.int i) (.type "int")
 | str (x:Str):Hl K H (.str x) (.type "str")
 | flt (x:UInt64):Hl K H (.flt x) (.type "float")
 | lst {a:WP} {xs:List V} (e:H a=some (.lst xs)):Hl K H (.ref a) (.type "list")
 | frz {a:WP} {o:Obj} {xs:List V} (e:H a=some (.frz o (.lst xs))):Hl K H (.ref a) (.type "list")
 | tup {a:WP} {xs:List V} (e:H a=some (.tup xs)):Hl K H (.ref a) (.type "tuple")
 | dK {a:WP} {kvs:List (Z0×V)} (e:H a=some (.dK kvs)):Hl K H (.ref a) (.type "dict")
 | dT {a:WP} {kvs:List (List Z0×V)} (e:H a=some (.dT kvs)):Hl K H (.ref a) (.type "dict")
 | ins {a C dx:WP} {fs:List (Str×V)} (e:H a=some (.ins C dx fs)) (cl:jB K C) (ha:W.findIn K (.ref C) "__class__"=some (some (.builtin "object.__class__")))
   (hn:W.specialIn K (.builtin "object.__class__") "__get__"=some (some (.builtin "getset_descriptor.__get__"))) (htk:W.takesIn K (.builtin "object.__class__")=some true)
   (hm:W.mroIn K C (.type "object")=some true):Hl K H (.ref a) (.ref C)
def Uj (I:Zy X WZ σ H s)(rx:Ye x u)(ty:Hl X.K H x t)(e:W.kitOne X.K t c=some b)(h:∀tk,Q (.bool b) {s with toks:=tk}):
  wpAny (model X.prog X.w) A (call (.builtin "isinstance") [u,c]) Q E s:=by
 cases ty with
 | non=>cases (show u=Value.none from rx);exact CW W.kitx_none I.kIn True.intro e (λz=>nomatch z) h
 | bl y=>cases (show u=Value.bool y from rx);exact CW W.kitx_bool I.kIn True.intro e (λz=>nomatch z) h
 | int i=>obtain⟨t,q⟩:=(show ∃t,u=Value.int i t from rx);cases q;exact CW W.kitx_int I.kIn True.intro e (λz=>nomatch z) h
 | str y=>obtain⟨t,q⟩:=(show ∃t,u=Value.str y t from rx);cases q;exact CW W.kitx_str I.kIn True.intro e (λz=>nomatch z) h
 | flt y=>obtain⟨t,q⟩:=(show ∃t,u=Value.float y t from rx);cases q;exact CW W.kitx_float I.kIn True.intro e (λz=>nomatch z) h
 | @lst a xs ea=>
  cases (show u=Value.ref a from rx)
  obtain⟨_,_,n,_,h1⟩:=(show Ji X.prog X.w H s.heap a (.lst xs) from I.hok a _ ea);exact CW W.kitx_list I.kIn ⟨_,h1,FL⟩ e (λz=>nomatch z) h
 | @frz a ob xs ea=>
  cases (show u=Value.ref a from rx)
  obtain⟨_,_,_,n,_,h1⟩:=(show Ji X.prog X.w H s.heap a (.frz ob (.lst xs)) from I.hok a _ ea);exact CW W.kitx_list I.kIn ⟨_,h1,FL⟩ e (λz=>nomatch z) h
 | @tup a xs ea=>
  cases (show u=Value.ref a from rx)
  obtain⟨_,_,_,p⟩:=(show Ji X.prog X.w H s.heap a (.tup xs) from I.hok a _ ea);obtain⟨o,h1,h2,_⟩:=p;exact CW W.kitx_tuple I.kIn ⟨o,h1,h2⟩ e (λz=>nomatch z) h
 | @dK a kvs ea=>
  cases (show u=Value.ref a from rx)
  obtain⟨_,_,vs,_,p⟩:=(show Ji X.prog X.w H s.heap a (.dK kvs) from I.hok a _ ea);obtain⟨o,es,ep,h1,h2,_⟩:=p;exact CW W.kitx_dict I.kIn ⟨o,h1,h2.1⟩ e (λz=>nomatch z) h
 | @dT a kvs ea=>
  cases (show u=Value.ref a from rx)
  obtain⟨_,_,xs,_,o,es,ep,h1,h2,_⟩:=(show Ji X.prog X.w H s.heap a (.dT kvs) from I.hok a _ ea);exact CW W.kitx_dict I.kIn ⟨o,h1,h2.1⟩ e (λz=>nomatch z) h
 | @ins a C dx fs ea cl ha hn htk hm=>
  cases (show u=Value.ref a from rx)
  obtain⟨mA,O,_⟩:=Hx I.hok ea;obtain⟨od,J,_⟩:=O.look;exact CW (W.kitx_own (cl.get _) cl.hd ha hn htk hm) I.kIn J e (λz=>nomatch z) h
end
structure Wv (k:Nat)(A:Around):Prop where
 hd:A.handled=none
 dp:A.depth+3*k+5<recursionLimit
 un:A.units+16*k+200<cLine
def Wv.deeper {k:Nat}(r:Wv (k+1) A)(env:Env):Wv k (A.deeper env):=
 ⟨r.hd,by have:=r.dp;show A.depth+1+3*k+5<_;omega,by have:=r.un;show A.units+3+16*k+200<_;omega⟩
def ja {A:WM}{us:List WQ}{kw:List (Str×WQ)}:(A.under (.builtin "type.__call__" ⟨.ref C::us,kw⟩)).depth=A.depth+1:=by
 first | rfl | simp[Around.under,Code.weight,Code.isCreation,Code.isGuard,Code.isCaller,Code.frames,Code.isFrame,guardIds]
def yZ {A:WM}{us:List WQ}{kw:List (Str×WQ)}:(A.under (.builtin "type.__call__" ⟨.ref C::us,kw⟩)).units=A.units+1:=by
 first | rfl | simp[Around.under,Code.cUnits,Code.frames,Code.isFrame]
def Wv.make {k:Nat}(r:Wv (k+1) A)(C:WP)(us:List WQ)(kw:List (Str×WQ)):Wv k (A.under (.builtin "type.__call__" ⟨.ref C::us,kw⟩)):=
 ⟨r.hd,by have:=r.dp;rw[ja];omega,by have:=r.un;rw[yZ];omega⟩
def Wv.depth {k:Nat}(r:Wv k A):A.depth<recursionLimit:=by have:=r.dp;omega
def ug:TA:=λ_ H Q=>Q [] H
def ui (ta:TE)(tr:TA):TA:=λσ H Q=>ta σ H λx H1=>tr σ H1 λxs H2=>Q (x::xs) H2
section
variable {X:Cx}{e:WW}{es:List WW}{te:TE}{t:TA}{pos:Pos}
def yU:PA X [] ug:=λ_ _ _ _ H Q I h=>DG ⟨[],H,I,.nil,h⟩
def Ht (ha:PE X e te)(hr:PA X es t)(hs:autoParam (starEach (e::es) X.env=(false,eval e X.env)::starEach es X.env) QzR):PA X (e::es) (ui te t):=by
 intro pos WZ s σ H Q I h;rw[hs];show wpAny _ _ (spliced ((false,eval e X.env)::backTo pos (starEach es X.env))) _ _ s;refine CP (Jy (ha WZ s σ H _ I h) λu s1 ⟨x,H1,I1,r1,q1⟩=>?_);exact Jy (hr pos WZ s1 σ H1 _ I1 q1) λus s2 ⟨xs,H2,I2,r2,q2⟩=>⟨x::xs,H2,I2,.cons r1 r2,q2⟩
def i6 (t:TA):TE:=λσ H Q=>t σ H λxs H1=>xs.length<=sizeLine/\∀p,H1 p=none->Q (.ref p) (Yz H1 p (.tup xs))
def iD (t:TA):TE:=λσ H Q=>t σ H λxs H1=>xs.length<=sizeLine/\∀p,H1 p=none->Q (.ref p) (Yz H1 p (.lst xs))
def mD {x1}(h:PA X es t):PE X (.Tuple es x1 pos) (i6 t):=by
 intro WZ s σ H Q I hq;refine wpAny_Tuple_spliced (Jy (h pos WZ s σ H _ I hq) λus s1 ⟨xs,H1,I1,r,z,q⟩=>⟨by rw[<-r.length];exact z,?_⟩);have hf:H1 s1.heap.objs.size=none:=I1.hok.fresh (XE _);refine⟨.ref s1.heap.objs.size,Yz H1 s1.heap.objs.size (.tup xs),I1.laid (t':=s1.toks) (λb u e=>XC _ e) (XE _) ?_,FL,q _ hf⟩;exact⟨z,us,r,⟨_,XF _ FL,FL,_,FL⟩⟩
def mI (h:PA X es t):PE X (.List es pos) (iD t):=by
 intro WZ s σ H Q I hq;refine wpAny_List_spliced (Jy (h pos WZ s σ H _ I hq) λus s1 ⟨xs,H1,I1,r,z,q⟩=>⟨by rw[<-r.length];exact z,?_⟩);have hf:H1 s1.heap.objs.size=none:=I1.hok.fresh (XE _);refine⟨.ref s1.heap.objs.size,Yz H1 s1.heap.objs.size (.lst xs),I1.laid (t':=s1.toks) (λb u e=>XC _ e) (XE _) ?_,FL,q _ hf⟩;exact⟨z,us,0,r,XF _ FL⟩
end
abbrev Sp:=List V->Hp->VK->XK->Prop
abbrev vF:=List Env->Hp->WR->XK->WQ->WR->Prop
structure j9 (P:Program)(w:World)(K:W.Frag)(mg:Str->Option Value)(base:Heap)(A:Around)(outer:List Env)(s:Shared)(H:Hp):Prop where
 frames:A.frames=some outer
 mod:Mod K mg base
 bs:∀b o,base.get? b=some o->s.heap.get? b=some o/\H b=none
 bsz:base.objs.size<=s.heap.objs.size
 funs:s.heap.FunFrames base outer
 frf:∀b∈wG outer,H b=none
 hok:M7 P w H s.heap
 bare:AllBare s.gens
def CE (outer:List Env)(P:WO)(w:WN)(H:Hp)(s:WR)(Q:VK)(u:WQ)(s':WR):Prop:=
 ∃v H',s'.os=s.os/\AllBare s'.gens/\Un (wG outer) [] H H' s.heap s'.heap/\M7 P w H' s'.heap/\Ye v u/\Q v H'
def CR (CX:vF)(outer:List Env)(P:WO)(w:WN)(H:Hp)(s:WR)(Q:VK)(E:XK)(r:Result)(s':WR):Prop:=
 match r with
 | .ok (.ret u)=>CE outer P w H s Q u s'
 | .ok _=>False
 | .error e=>CX outer H s E e s'
structure U0 (P:Program)(w:World)(K:W.Frag)(mg:Str->Option Value)(base:Heap)(CX:vF)(k:Nat)(f:Addr)(fd:FuncData)(ps:List Str)(sp:Sp):Prop where
 len:∀vs H Q E,sp vs H Q E->vs.length=ps.length
 run:∀(A:WM) (outer:List Env) (s:WR) (H:Hp) (args:Args) (us:List WQ) (vs:List V) (Q:VK) (E:XK),Wv k A->j9 P w K mg base A outer s H->BindsTo s fd args (ps.zip us)->Yd vs us->sp vs H Q E->
  codeAny (model P w) A (.call (.ref f) args) (CR CX outer P w H s Q E) s
def j9.make {K:WY}(e:j9 P w K mg base A outer s H)(C:WP)(us:List WQ)(kw:List (Str×WQ)):
  j9 P w K mg base (A.under (.builtin "type.__call__" ⟨.ref C::us,kw⟩)) outer s H:=⟨by first | exact e.frames | (simpa[Around.under,Code.envs,Code.isFrame,pushEnvs] using e.frames),e.mod,e.bs,e.bsz,e.funs,e.frf,e.hok,e.bare⟩
section
variable {X:Cx}{WZ:List (WP×Obj)}{σ:St}{H:Hp}{s s':WR}
def Zy.env0 (I:Zy X WZ σ H s):j9 X.prog X.w X.K X.mg X.base X.A X.stack s H:=
 ⟨I.ok.frames,I.ok.mod,I.bs,XN I.ok.bsz I.sz,I.stack,I.stkFree,I.hok,I.bare⟩
def Zy.after (I:Zy X WZ σ H s)(h:CE X.stack X.prog X.w H s Q u s'):EP X WZ σ Q u s':=by
 obtain⟨v,H',os,bare,un,hok,r,q⟩:=h;obtain⟨hh,g,d,t,os'⟩:=s';obtain rfl:os'=s.os:=os;exact⟨v,H',I.call (h':=hh) (g':=g) (d':=d) (t':=t) (ch:=[]) un hok bare (λb z=>absurd z (by simp)),r,q⟩
end
def ox (sp:Sp)(dvs:List V)(E:XK)(t:TA):TE:=λσ H Q=>t σ H λvs H1=>sp (vs++dvs) H1 Q E
def cS (C:WP)(m:Str)(sp:Sp)(dvs:List V)(E:XK)(ta:TE)(t:TA):TE:=λσ H Q=>ta σ H λx H1=>∃a dx fs,x=.ref a/\H1 a=some (.ins C dx fs)/\fs.lookup m=none/\
 t σ H1 λvs H2=>sp (x::(vs++dvs)) H2 Q E
def iC (C:WP)(sp:Sp)(dvs:List V)(E:XK)(t:TA):TE:=λσ H Q=>t σ H λvs H1=>∀x dx,H1 x=none->H1 dx=none->dx≠x->
 sp (.ref x::(vs++dvs)) (Yz (Yz H1 dx (.own x)) x (.ins C dx [])) (λv H2=>v=.non/\Q (.ref x) H2) E
def Wz (K:WY)(fd:VZ)(ps:List Str)(ds:List WQ):Prop:=
 ∀(s:WR) (us:List WQ),K.In s.heap->(us++ds).length=ps.length->BindsTo s fd ⟨us,[]⟩ (ps.zip (us++ds))
def Wz.all {K:WY}{ps:List Str}(h:∀us:List WQ,us.length=ps.length->bindArgs fd ⟨us,[]⟩=pure (ps.zip us)):Wz K fd ps []:=λs us _ hl=>by
 rw[YK] at hl |-;exact .of_eq (h us hl)
def Ed (CX:vF)(X:Cx)(E:XK):Prop:=∀(WZ:List (WP×Obj)) (σ:St) (H:Hp) (s:WR) (e:WQ) (s':WR),Zy X WZ σ H s->CX X.stack H s E e s'->X.xe e s'
section
variable {X:Cx}{CX:vF}{k:Nat}{f C:WP}{fd:VZ}{ps:List Str}{sp:Sp}{dvs:List V}{ds:List WQ}{E:XK}{x m:Str}{p pos apos:Pos}{e o:WW}{es:List WW}{ta:TE}{t:TA}
set_option tactic.hygienic true
def yN {WZ:List (WP×Obj)}{σ:St}{H:Hp}{s:WR}{Q:VK}{us:List WQ}{vs:List V}(F:U0 X.prog X.w X.K X.mg X.base CX k f fd ps sp)(hr:Wv k X.A)(hb:Wz X.K fd ps ds)(hd:Yd dvs ds)(hx:Ed CX X E)
  (I:Zy X WZ σ H s) (r:Yd vs us) (h:sp (vs++dvs) H Q E):wpAny (model X.prog X.w) X.A (call (.ref f) us) (EP X WZ σ Q) X.xe s:=by
 have r2:Yd (vs++dvs) (us++ds):=r.append hd;have hl:(us++ds).length=ps.length:=by rw[<-r2.length];exact F.len _ _ _ _ h
 refine wpAny_call (codeAny_mono (F.run X.A X.stack s H ⟨us,[]⟩ (us++ds) (vs++dvs) Q E hr I.env0 (hb s us I.kIn hl) r2 h) λr s' hq=>?_)
 cases r with
 | error e=>exact hx WZ σ H s e s' I hq
 | ok fl=>
  cases fl with
  | ret u=>exact I.after hq
  | next=>exact False.elim hq
  | brk=>exact False.elim hq
  | cont=>exact False.elim hq
set_option tactic.hygienic false
def qz (F:U0 X.prog X.w X.K X.mg X.base CX k f fd ps sp)(hr:Wv k X.A)(hg:Gl X x)(hm:X.mg x=some (.ref f))(hk:W.keepIn X.K (.ref f)=true)(hb:Wz X.K fd ps ds)(hd:Yd dvs ds)(hx:Ed CX X E)
  (ha:PA X (e::es) t) (hdb:(x==("__debug__":Str))=false:=by decide) (he:autoParam (starEach (e::es) X.env=(false,eval e X.env)::starEach es X.env) QzR) (hpl:autoParam ((backTo pos (starEach es X.env)).any (·.1)=false) QzR):
  PE X (.Call (.Name x p) (e::es) [] pos) (ox sp dvs E t):=by
 intro WZ s σ H Q I h;refine wpAny_Call_Name_kw (jW I hg hm ?_ hdb);refine W.callWith_K (h₀:=X.base) I.ok.mod.kin hk (Jy (ha pos WZ s σ H _ I h) λus s1 ⟨vs,H1,I1,r,q⟩=>⟨I1.kIn,?_⟩) he hpl;exact yN F hr hb hd hx I1 r q
structure Mk (K:W.Frag)(C f:Addr):Prop where
 makes:W.makesIn K C=true
 init:W.findIn K (.ref C) "__init__"=some (some (.ref f))
 fn:W.isFn K (.ref f)=true
 kp:W.keepIn K (.ref C)=true
set_option tactic.hygienic true
def u0 {WZ:List (WP×Obj)}{σ:St}{H:Hp}{s:WR}{Q:VK}{us:List WQ}{vs:List V}(M:Mk X.K C f)(F:U0 X.prog X.w X.K X.mg X.base CX k f fd ps sp)(hr:Wv (k+1) X.A)(hb:Wz X.K fd ps ds)(hd:Yd dvs ds)
  (hx:Ed CX X E) (I:Zy X WZ σ H s) (r:Yd vs us)
  (h:∀x dx,H x=none->H dx=none->dx≠x->sp (.ref x::(vs++dvs)) (Yz (Yz H dx (.own x)) x (.ins C dx [])) (λv H2=>v=.non/\Q (.ref x) H2) E):
  wpAny (model X.prog X.w) X.A (call (.ref C) us) (EP X WZ σ Q) X.xe s:=by
 have hq:=h (s.heap.objs.size+1) s.heap.objs.size (I.hok.fresh (Nat.le_succ _)) (I.hok.fresh (XE _)) (XH (BJ _));have I2:=Zy.made (C:=C) I;have r2:Yd (V.ref (s.heap.objs.size+1)::(vs++dvs)) (Value.ref (s.heap.objs.size+1)::(us++ds)):=.cons FL (r.append hd);have hl:(Value.ref (s.heap.objs.size+1)::us++ds).length=ps.length:=by
  have e:=r2.length;rw[F.len _ _ _ _ hq] at e;exact e.symm
 refine wpAny_call (uZ (f:=f) I.kIn M.makes M.init (beq_iff_eq.mp M.fn) (codeAny_mono (F.run _ X.stack _ _ ⟨Value.ref (s.heap.objs.size+1)::us,[]⟩ (Value.ref (s.heap.objs.size+1)::(us++ds)) _ _ E (hr.make C us [])
  (I2.env0.make C us []) (hb _ (Value.ref (s.heap.objs.size+1)::us) I2.kIn hl) r2 hq) λr s' hq'=>?_))
 cases r with
 | error e=>exact hx WZ σ _ _ e s' I2 hq'
 | ok fl=>
  cases fl with
  | ret u=>
   obtain⟨v,H',I3,rv,ev,q3⟩:=I2.after hq';subst ev;exact⟨rv,⟨V.ref (s.heap.objs.size+1),H',I3,FL,q3⟩⟩
  | next=>exact False.elim hq'
  | brk=>exact False.elim hq'
  | cont=>exact False.elim hq'
set_option tactic.hygienic false
def uJ (M:Mk X.K C f)(F:U0 X.prog X.w X.K X.mg X.base CX k f fd ps sp)(hr:Wv (k+1) X.A)(hg:Gl X x)(hm:X.mg x=some (.ref C))(hb:Wz X.K fd ps ds)(hd:Yd dvs ds)(hx:Ed CX X E)
  (hdb:(x==("__debug__":Str))=false:=by decide):PE X (.Call (.Name x p) [] [] pos) (iC C sp dvs E ug):=by
 intro WZ s σ H Q I h;refine wpAny_Call_Name_kw (jW I hg hm ?_ hdb);exact W.callWith_K0 I.kIn M.kp (u0 (us:=[]) M F hr hb hd hx I .nil h)
end
def PK (X:Cx)(kws:List Keyword)(t:TA):Prop:=
 ∀(pos:Pos) (WZ:List (WP×Obj)) (s:WR) (σ:St) (H:Hp) (Q:List V->Hp->Prop),Zy X WZ σ H s->t σ H Q->wpAny (model X.prog X.w) X.A (evalAll ((backToKw pos (keywordEach kws X.env)).map (·.2))) (AP X WZ σ Q) X.xe s
section
variable {X:Cx}{CX:vF}{k:Nat}{f C:WP}{fd:VZ}{ps ks:List Str}{sp:Sp}{E:XK}{x m:Str}{p pos apos kpos:Pos}{e o:WW}{es:List WW}{kws:List Keyword}{te ta:TE}{t tk:TA}{nm:Option Str}
structure cE (K:W.Frag)(fd:FuncData)(ps ks:List Str)(g:List Value->List Value->List Value)(gV:List V->List V->List V):Prop where
 to:∀(s:WR) (us ws:List WQ),K.In s.heap->(g us ws).length=ps.length->BindsTo s fd ⟨us,ks.zip ws⟩ (ps.zip (g us ws))
 rel:∀{vs:List V} {us:List WQ} {zs:List V} {ws:List WQ},Yd vs us->Yd zs ws->Yd (gV vs zs) (g us ws)
variable {g:List WQ->List WQ->List WQ}{gV:List V->List V->List V}
end
structure Z2 (N P:List Str)(sc:Scope):Prop where
 kind:sc.kind=.function
 co:sc.isCoroutine=false
 gen:sc.isGenerator=false
 nd:N.Nodup
 pre:N.take P.length=P
 par:∀x∈P,sc.names.lookup x=some .local\/sc.names.lookup x=some .cell
 nofree:∀y∈sc.names,y.2≠.free
def Dx {kindOf:Str->Option NameKind}{x:Str}:∀{binds:List (Str×WQ)} {m:Str->Option WQ},(∀v,(x,v)∉binds)->bindL kindOf binds m x=m x
 | [],_,_=>rfl
 | (n,v)::r,m,h=>by
  unfold bindL;rw[Dx λw hw=>h w (XV _ hw)]
  split
  ·have:x≠n:=by rintro rfl;exact h v BD
   simp[this]
  ·rfl
def Dz {kindOf:Str->Option NameKind}{x:Str}:∀{binds:List (Str×WQ)} {m:Str->Option WQ},(∀v,(x,v)∉binds)->bindC kindOf binds m x=m x
 | [],_,_=>rfl
 | (n,v)::r,m,h=>by
  unfold bindC;rw[Dz λw hw=>h w (XV _ hw)]
  split
  ·rfl
  ·have:x≠n:=by rintro rfl;exact h v BD
   simp[this]
def Dy {kindOf:Str->Option NameKind}:∀{P:List Str} {vs:List WQ} {i:Nat} {m:Str->Option WQ},P.Nodup->P[i]?=some x->vs[i]?=some v->kindOf x=some .local->
  bindL kindOf (P.zip vs) m x=some v
 | [],_,_,_,_,h,_,_=>by simp at h
 | _::_,[],_,_,_,_,h,_=>by simp at h
 | p::P,w::vs,0,m,nd,h1,h2,hk=>by
  simp at h1 h2;subst h1;subst h2;show bindL kindOf ((p,w)::P.zip vs) m p=_;unfold bindL;rw[Dx λv hv=>(BZ.mp nd).1 (DS hv).1,XY hk];simp
 | p::P,w::vs,i+1,m,nd,h1,h2,hk=>by
  show bindL kindOf ((p,w)::P.zip vs) m x=_;unfold bindL;exact Dy (i:=i) (List.nodup_cons.mp nd).2 (by simpa using h1) (by simpa using h2) hk
def D0 {kindOf:Str->Option NameKind}:∀{P:List Str} {vs:List WQ} {i:Nat} {m:Str->Option WQ},P.Nodup->P[i]?=some x->vs[i]?=some v->kindOf x≠some .local->
  bindC kindOf (P.zip vs) m x=some v
 | [],_,_,_,_,h,_,_=>by simp at h
 | _::_,[],_,_,_,_,h,_=>by simp at h
 | p::P,w::vs,0,m,nd,h1,h2,hk=>by
  simp at h1 h2;subst h1;subst h2;show bindC kindOf ((p,w)::P.zip vs) m p=_;unfold bindC;rw[Dz λv hv=>(BZ.mp nd).1 (DS hv).1,XX hk];simp
 | p::P,w::vs,i+1,m,nd,h1,h2,hk=>by
  show bindC kindOf ((p,w)::P.zip vs) m x=_;unfold bindC;exact D0 (i:=i) (List.nodup_cons.mp nd).2 (by simpa using h1) (by simpa using h2) hk
def start (N:List Str)(vs:List V):St:=vs.map some++List.replicate (N.length-vs.length) none
def ym (CX:vF)(P:WO)(w:WN)(K:WY)(mg:Str->Option WQ)(base:WU)(N:List Str)(qual:Str)(scope:Scope)(f:WP)(cd:WQ)(A:WM)(outer:List Env)(s:WR)(H:Hp)(E:XK):Cx where
 prog:=P
 w:=w
 K:=K
 mg:=mg
 base:=base
 A:=A.deeper (envOfC qual scope s.heap.objs.size f cd)
 N:=N
 s₀:=s
 H₀:=H
 env:=envOfC qual scope s.heap.objs.size f cd
 outer:=outer
 stack:=envOfC qual scope s.heap.objs.size f cd::outer
 ex:=[]
 calm:=true
 fn:=λ_=>true
 pn:=[]
 xe:=λe s'=>wpAny (model P w) (A.deeper (envOfC qual scope s.heap.objs.size f cd)) (leaving (envOfC qual scope s.heap.objs.size f cd) e) (λ_ s''=>CX outer H s E e s'') (λe' s''=>CX outer H s E e' s'') s'
def yp {sc:Scope}(h:sc.names.lookup x=some .cell):∃c,(cellsFrom n sc.names []).lookup x=some c:=by
 have q:=W.cellsFrom_some sc.names n [] (.inl h);exact Option.isSome_iff_exists.mp q
def wC {CX:vF}{P:WO}{w:WN}{K:WY}{mg:Str->Option WQ}{base:WU}{N ps:List Str}{qual:Str}{scope:Scope}{f:WP}{cd:WQ}{A:WM}{outer:List Env}{s s1:WR}{H:Hp}{E:XK}{us:List WQ}{vs:List V}
  (S:Z2 N ps scope) (hd:A.handled=none) (e0:j9 P w K mg base A outer s H) (hl:vs.length=ps.length) (r:Yd vs us)
  (x:InCallC s s.heap.objs.size (bindL (envOfC qual scope s.heap.objs.size f cd).kindOf (ps.zip us) λ_=>none) (cellsFrom (s.heap.objs.size+1) scope.names []) (bindC (envOfC qual scope s.heap.objs.size f cd).kindOf (ps.zip us) λ_=>none) s1):
  Zy (ym CX P w K mg base N qual scope f cd A outer s H E) [] (start N vs) H s1:=by
 have hpl:ps.length<=N.length:=by have:=congrArg List.length S.pre;rw[YM] at this;omega
 obtain⟨h1,tk,rfl,hk⟩:=x.done;have noA:∀b:WP,b∉(ym CX P w K mg base N qual scope f cd A outer s H E).ex:=λb z=>absurd (show b∈([]:List WP) from z) (by simp);refine⟨⟨e0.mod,S.kind,FL,FL,XE _,λy z c h1 h2=>?_,λy hy=>?_,λy c _ h=>?_,λ_=>hd,Around.frames_deeper e0.frames,.inr ⟨FL,FL⟩,λb z=>absurd z (noA b),e0.bs,e0.bsz,λb _ _=>noA b,λb z=>absurd z (noA b),e0.funs,e0.frf⟩,
  rfl,e0.bare,Un.kept hk,⟨_,x.toInCall.ns,λi y v h1 h2 h3=>?_⟩,λy c h=>⟨_,x.cell y c h⟩,e0.hok.fresh (Nat.le_refl _),λy c h=>?_,λp hp=>absurd (show p∈([]:List (WP×Obj)) from hp) (by simp),e0.hok.kept hk,?_⟩
 ·exact name_of_addr x.apart (CH h1) (CH h2)
 ·have hy:scope.names.lookup y=some .cell\/scope.names.lookup y=some .free:=hy
  rcases hy with hy | hy
  ·exact yp hy
  ·exact absurd FL (S.nofree _ (CH hy))
 ·exact CI (x.above y c (CH h))
 ·have hi:i<vs.length:=by
   unfold start at h2;by_cases hi:i<vs.length
   ·exact hi
   ·rw[List.getElem?_append_right (by simpa using hi)] at h2;rw[List.getElem?_replicate] at h2
    split at h2<;>cases h2
  have ha:vs[i]?=some v:=by
   unfold start at h2;rw[List.getElem?_append_left (by simpa using hi),List.getElem?_map] at h2
   cases e:vs[i]? with
   | none=>rw[e] at h2;cases h2
   | some a=>rw[e] at h2;cases h2;rfl
  obtain⟨u,hu,rv⟩:=r.get ha;have hp:ps[i]?=some y:=by
   rw[<-S.pre,List.getElem?_take_of_lt (by omega)];exact h1
  have ndP:ps.Nodup:=by rw[<-S.pre];exact S.nd.sublist (List.take_sublist _ _)
  refine⟨u,rv,?_⟩
  rcases S.par y (BE hp) with k | k
  ·exact .inl ⟨k,Dy ndP hp hu k⟩
  ·obtain⟨c,e⟩:=yp (n:=s.heap.objs.size+1) k;refine .inr ⟨.inl k,c,e,?_⟩;have q:=x.cell y c e;rw[D0 ndP hp hu (by show scope.names.lookup y≠_;rw[k];decide)] at q;exact q
 ·exact e0.hok.fresh (CI (x.above y c (CH h)))
 ·unfold start;show _=N.length;rw[BA,XI,DY];omega
set_option tactic.hygienic true
def gQ {CX:vF}{P:WO}{w:WN}{K:WY}{mg:Str->Option WQ}{base:WU}{k:Nat}{f:WP}{name qual:Str}{params:Arguments}{body:List WV}{scope:Scope}{dV kV doc pm cdv ct oc:WQ}{an od:Option WP}
  {osl:Array (Option WQ)} {N ps:List Str} {sp:Sp} (lk:K.lookup f=some ⟨oc,od,.func (W.fnOf name qual params body scope dV kV doc pm an cdv ct),osl⟩) (hcd:W.codeIn K cdv qual=true) (S:Z2 N ps scope)
  (len:∀vs H Q E,sp vs H Q E->vs.length=ps.length)
  (hbody:∀(A:WM) (outer:List Env) (s:WR) (H:Hp) (vs:List V) (Q:VK) (E:XK),Wv k (A.deeper (envOfC qual scope s.heap.objs.size f cdv))->sp vs H Q E->
   ∃t,xD (ym CX P w K mg base N qual scope f cdv A outer s H E) body t/\t {nx:=λ_ H'=>Q .non H',rt:=Q} (start N vs) H):
  U0 P w K mg base CX (k+1) f (W.fnOf name qual params body scope dV kV doc pm an cdv ct) ps sp:=by
 refine⟨len,λA outer s H args us vs Q E hr e0 hb r hsp=>?_⟩;have hl:=len _ _ _ _ hsp;have KX:K.In s.heap:=e0.mod.kin.keeps λb o e=>(e0.bs b o e).1;have lim:s.heap.NoLimit:=e0.mod.nolimit.keeps λb o e=>(e0.bs b o e).1;have hkind:∀y∈ps.zip us,scope.names.lookup y.1=some .local\/(scope.names.lookup y.1=some .cell/\((cellsFrom (s.heap.objs.size+1) scope.names []).lookup y.1).isSome=true):=λ⟨n,v⟩ hy=>by
  rcases S.par n (DS hy).1 with q | q
  ·exact .inl q
  ·exact .inr ⟨q,W.cellsFrom_some _ _ _ (.inl q)⟩
 refine codeAny_call_function hr.depth (KX _ _ lk) FL S.co S.gen FL (W.codeRec_of KX hcd) (hb _ _ _ _ ?_);refine wpAny_newFunctionEnv_cells S.kind hkind λenv he s1 x=>?_;subst he;refine⟨lim.keeps x.toInCall.keep,codeAny_func ?_⟩;obtain⟨t,ht,hq⟩:=hbody A outer s H vs Q E (hr.deeper _) hsp;have I:Zy (ym CX P w K mg base N qual scope f cdv A outer s H E) [] (start N vs) H s1:=wC S hr.hd e0 hl r x;refine wpAny_mono (ht [] s1 (start N vs) H _ I hq) (λfl s' hs=>?_) λe s' hs=>hs;have fin:∀{σ':St} {H':Hp} {v:V} {u:WQ},Zy (ym CX P w K mg base N qual scope f cdv A outer s H E) [] σ' H' s'->Ye v u->Q v H'->CE outer P w H s Q u s':=
  λ{σ' H' v u} J rv q=>⟨v,H',J.os,J.bare,J.base,J.hok,rv,q⟩
 cases fl with
 | ret u=>
  obtain⟨v,σ',H',J,rv,q⟩:=hs;exact fin J rv q
 | next=>
  obtain⟨σ',H',J,q⟩:=hs;exact fin (v:=V.non) (u:=Value.none) J FL q
 | brk=>
  obtain⟨_,_,_,q⟩:=hs;exact False.elim q
 | cont=>
  obtain⟨_,_,_,q⟩:=hs;exact False.elim q
set_option tactic.hygienic false
section
variable {X:Cx}{x:Str}{p pos:Pos}{e:WW}{es:List WW}{t:TA}{id T:String}{r:List V->Hp->VK->Prop}
def eV (r:List V->Hp->VK->Prop)(t:TA):TE:=λσ H Q=>t σ H λvs H1=>r vs H1 Q
def z0 (hc:Wy X (.builtin id) r)(hg:Gl X x)(hm:X.mg x=none)(hv:bootBuiltins x=some (.builtin id))(ha:PA X (e::es) t)(hn:x≠"__name__":=by decide)(hdb:(x==("__debug__":Str))=false:=by decide)
  (he:autoParam (starEach (e::es) X.env=(false,eval e X.env)::starEach es X.env) QzR) (hpl:autoParam ((backTo pos (starEach es X.env)).any (·.1)=false) QzR):PE X (.Call (.Name x p) (e::es) [] pos) (eV r t):=by
 intro WZ s σ H Q I h;refine wpAny_Call_Name_kw (Wm I hg hm hv ?_ hn hdb);exact PyProof.Rows.callWith_builtin1 (Jy (ha pos WZ s σ H _ I h) λus s1 ⟨vs,H1,I1,r1,q1⟩=>hc WZ s1 σ H1 vs us Q I1 r1 q1) he hpl
def xY (hc:Wy X (.type T) r)(hg:Gl X x)(hm:X.mg x=none)(hv:bootBuiltins x=some (.type T))(ha:PA X (e::es) t)(hn:x≠"__name__":=by decide)(hdb:(x==("__debug__":Str))=false:=by decide)
  (he:autoParam (starEach (e::es) X.env=(false,eval e X.env)::starEach es X.env) QzR) (hpl:autoParam ((backTo pos (starEach es X.env)).any (·.1)=false) QzR):PE X (.Call (.Name x p) (e::es) [] pos) (eV r t):=by
 intro WZ s σ H Q I h;refine wpAny_Call_Name_kw (Wm I hg hm hv ?_ hn hdb);exact BF (Jy (ha pos WZ s σ H _ I h) λus s1 ⟨vs,H1,I1,r1,q1⟩=>hc WZ s1 σ H1 vs us Q I1 r1 q1) he hpl
end
end L2
namespace HT
open PySem PyProof.Rows
def gG:List Int->List Int->Bool
 | [],[]=>false
 | [],_::_=>true
 | _::_,[]=>false
 | x::xs,y::ys=>if x=y then gG xs ys else decide (x<y)
section
open PySem.SeqAt
open PySem.AutoSeq1 (wpAny_loadPart')
open PySem.MeetsSeq PySem.MeetsSeq2 PySem.MeetsSeq3
end
section
variable {prog:WO}{w:WN}{A:WM}{E:WQ->WR->Prop}{s:WR}
def cat_tup {vs ws:List WQ}{Q:WQ->WR->Prop}(ht:IsTup s.heap t vs.toArray)(hb:IsTup s.heap b ws.toArray)(hv:vs≠[])
  (h1:ws=[]->Q (.ref t) s) (h2:ws≠[]->Q (.ref s.heap.objs.size) {s with heap:=s.heap.push {cls:=.type "tuple",data:=.seq (vs++ws).toArray}})
  (hsz:vs.length+ws.length<=sizeLine):wpAny (model prog w) A (binaryOp .Add (.ref t) (.ref b)) Q E s:=by
 obtain⟨⟨cls,dd,data,sl⟩,ho,hc,n,hd⟩:=id ht;obtain⟨⟨cls2,dd2,data2,sl2⟩,ho2,hc2,n2,hd2⟩:=id hb;simp only at hc hd hc2 hd2;subst hc hd hc2 hd2;have e:vs.toArray++ws.toArray=(vs++ws).toArray:=by simp
 by_cases hw:ws=[]
 ·exact concat_meets ⟨_,ho,FL⟩ ⟨_,ho2,FL⟩ noFill_tuple_add seq_tuple_add ES EM (EH _ _)
   (tuple_addW1 t b vs.toArray ws.toArray n n2 dd dd2 sl sl2 (by simpa using hv) (by simp[hw])) ⟨ho,ho2,h1 hw⟩
 ·refine concat_meets ⟨_,ho,FL⟩ ⟨_,ho2,FL⟩ noFill_tuple_add seq_tuple_add ES EM (EH _ _)
   (tuple_addW2 t b vs.toArray ws.toArray n n2 dd dd2 sl sl2 (by simpa using hv) (by simpa using hw) (by rw[List.size_toArray,List.size_toArray];exact hsz)) ⟨ho,ho2,?_⟩
  rw[e];exact h2 hw
def sIx (n d:Nat):Option Int->Nat
 | none=>d
 | some v=>if v<0 then(v+(n:Int)).toNat else min v.toNat n
def nR (n d:Nat)(hd:d<=n)(o:Option Int):sIx n d o<=n:=by
 cases o with
 | none=>exact hd
 | some v=>
  show(if v<0 then(v+(n:Int)).toNat else min v.toNat n)<=n;by_cases hv:v<0
  ·rw[XY hv];omega
  ·rw[XX hv];exact Nat.min_le_right _ _
def xu (v:Int)(n d:Nat):(if v<0 then max (v+(n:Int)) 0 else min v (n:Int))=((sIx n d (some v):Nat):Int):=by
 show(if v<0 then max (v+(n:Int)) 0 else min v (n:Int))=(((if v<0 then(v+(n:Int)).toNat else min v.toNat n):Nat):Int);by_cases hv:v<0
 ·simp only[if_pos hv];omega
 ·simp only[if_neg hv];omega
def j1 (lo hi:Option Int)(n:Nat):Builtin.Slice.sliceAdjust lo hi 1 (n:Int)=(((sIx n 0 lo:Nat):Int),((sIx n n hi:Nat):Int)):=by
 have h1:¬((1:Int)<0):=by omega
 unfold Builtin.Slice.sliceAdjust;simp only[h1,if_false];refine Prod.ext ?_ ?_
 ·cases lo with
  | none=>rfl
  | some v=>exact xu v n 0
 ·cases hi with
  | none=>rfl
  | some v=>exact xu v n n
def yQ (i j:Nat):Builtin.Slice.slicePlaces (i:Int) (j:Int) 1=j-i:=by
 unfold Builtin.Slice.slicePlaces;have h1:(1:Int)>0:=by omega
 simp only[h1,if_true,Int.ediv_one]
 split<;>omega
def Gk {Q:Option Int->WR->Prop}(p:IsPart v o)(h:Q o s):wpAny (model prog w) A (Builtin.Slice.slicePartIndex v) Q E s:=by
 cases p with
 | none=>exact slicePart_none h
 | int i t=>exact slicePart_int h
def T7 {lo hi:Option Int}{n:Nat}{Q:Int×Int×Nat->WR->Prop}(hs:s.heap.IsSliceOf sl vl vu .none)(pl:IsPart vl lo)(pu:IsPart vu hi)
  (h:Q (((sIx n 0 lo:Nat):Int),1,sIx n n hi-sIx n 0 lo) s):wpAny (model prog w) A (Builtin.Slice.sliceApplied (.ref sl) (pure (n:Int))) Q E s:=by
 obtain⟨os,hos,hcs,hds⟩:=id hs;unfold Builtin.Slice.sliceApplied Builtin.Slice.sliceFields;refine XA (XA (wpAny_field hos hds (x:=vl) FL (XA (wpAny_field hos hds (x:=vu) FL (XA (wpAny_field hos hds (x:=.none) FL (XB ?_)))))));refine XA (slicePart_none ?_);show wpAny _ _ (if ((1:Int)==0)=true then _ else _) _ _ s;rw[XX (by decide)];refine XA (Gk pl (XA (Gk pu (XA (XB ?_)))));show wpAny _ _ (match Builtin.Slice.sliceAdjust lo hi 1 (n:Int) with | (lo,hi)=>pure (lo,(1:Int),Builtin.Slice.slicePlaces lo hi 1)) _ _ s;rw[j1 lo hi n];show wpAny _ _ (pure (((sIx n 0 lo:Nat):Int),(1:Int),Builtin.Slice.slicePlaces ((sIx n 0 lo:Nat):Int) ((sIx n n hi:Nat):Int) 1)) _ _ s;rw[yQ];exact XB h
def uF (xs:Array WQ)(i k:Nat):((List.range k).filterMap λ(m:Nat)=>xs[((i:Int)+(m:Int)*1).toNat]?).toArray=((xs.toList.drop i).take k).toArray:=by
 have e:(λ(m:Nat)=>xs[((i:Int)+(m:Int)*1).toNat]?)=λm=>xs[i+m]?:=by
  funext m
  have:((i:Int)+(m:Int)*1).toNat=i+m:=by omega
  rw[this]
 rw[e];have:=pick_run xs i k;rw[List.filterMap_map] at this;have e2:((λx=>xs[x]?)∘λx=>i+x)=λm=>xs[i+m]?:=rfl;rw[e2] at this;rw[this]
def getItem_tuple_cut {lo hi:Option Int}{Q:WQ->WR->Prop}(ht:IsTup s.heap t items)(hs:s.heap.IsSliceOf sl vl vu .none)(pl:IsPart vl lo)(pu:IsPart vu hi)
  (hw:¬(sIx items.size 0 lo=0/\sIx items.size items.size hi=items.size))
  (h:Q (.ref s.heap.objs.size) {s with heap:=s.heap.push {cls:=.type "tuple",data:=.seq ((items.toList.drop (sIx items.size 0 lo)).take (sIx items.size items.size hi-sIx items.size 0 lo)).toArray}})
  (hsz:items.size<=sizeLine):wpAny (model prog w) A (getItem (.ref t) (.ref sl)) Q E s:=by
 have htake:sizeOk (.seq ((items.toList.drop (sIx items.size 0 lo)).take (sIx items.size items.size hi-sIx items.size 0 lo)).toArray):=by
  show((items.toList.drop (sIx items.size 0 lo)).take (sIx items.size items.size hi-sIx items.size 0 lo)).toArray.size<=sizeLine;rw[XJ,YM,ET,Array.length_toList];omega
 have hj:sIx items.size items.size hi<=items.size:=nR _ _ (XE _) hi;obtain⟨os,hos,hcs,hds⟩:=id hs;have hTs:s.TypeIs (.ref sl) "slice":=⟨os,hos,hcs⟩;unfold getItem
 try with_reducible refine wpAny_holding ?_
 first | refine XA (XB ?_) | skip
 refine XA (wpAny_sequenceKey ht.typeIs (by decide) ?_);refine XA (wpAny_callSpecial?_slot (name:=Str.ofString "__getitem__") ht.typeIs CQ
  (wpAny_call_entry CQ ht.typeIs entry_tuple_getitem ?_ (args_tuple_getitem _ _)))
 show wpAny _ _ (Builtin.Tuple.tupleItemsOf (.ref t)>>=_) _ _ s;refine XA (tupleItemsOf_ ht ?_);refine XA (wpAny_typeOf hTs ?_);rw[XY (by decide)];refine XA (T7 hs pl pu ?_);have hno:¬((((sIx items.size 0 lo:Nat):Int)==0&&(1:Int)==1&&(sIx items.size items.size hi-sIx items.size 0 lo)==items.size)=true):=by
  intro q;rw[CZ,CZ] at q;have q1:((sIx items.size 0 lo:Nat):Int)=0:=eq_of_beq q.1.1;have q2:sIx items.size items.size hi-sIx items.size 0 lo=items.size:=eq_of_beq q.2;exact hw ⟨by omega,by omega⟩
 show wpAny _ _ (if (((sIx items.size 0 lo:Nat):Int)==0&&(1:Int)==1&&(sIx items.size items.size hi-sIx items.size 0 lo)==items.size)=true then _ else _) _ _ s;rw[XX hno,uF]
 first
  | exact XA (m:=Builtin.Tuple.tupleExact _) (wpAny_newObj_type (XB ⟨_,FL,XB h⟩) htake)
  | exact XA (m:=Builtin.Tuple.tupleExact _) (wpAny_newObj_type (XA (XB (XB ⟨_,FL,XB h⟩))) htake)
  | exact XA (XA (m:=Builtin.Tuple.tupleExact _) (wpAny_newObj_type (XB (XB ⟨_,FL,XB h⟩)) htake))
  | exact XA (XA (m:=Builtin.Tuple.tupleExact _) (wpAny_newObj_type (XB ⟨_,FL,XB h⟩) htake))
end
end HT
namespace L2
open PySem PySem.Spec PyProof.Rows
abbrev TO:=St->Hp->(Option Int->Hp->Prop)->Prop
def PO (X:Cx)(e:Option WW)(t:TO):Prop:=
 ∀(WZ:List (WP×Obj)) (s:WR) (σ:St) (H:Hp) (Q:Option Int->Hp->Prop),Zy X WZ σ H s->t σ H Q->
  wpAny (model X.prog X.w) X.A (evalPart e X.env) (λu s'=>∃o H',Zy X WZ σ H' s'/\IsPart u o/\Q o H') X.xe s
def rQ:TO:=λ_ H Q=>Q none H
def i7 (t:TE):TO:=λσ H Q=>t σ H λx H1=>∃i,x=.int i/\Q (some i) H1
section
variable {X:Cx}{e:WW}{te:TE}{lo hi:Option WW}{tl th:TO}{pos p2:Pos}
def qp:PO X none rQ:=by
 intro WZ s σ H Q I h;rw[evalPart_none];exact XB ⟨none,H,I,.none,h⟩
def qo (h:PE X e te):PO X (some e) (i7 te):=by
 intro WZ s σ H Q I hw;rw[evalPart_some];refine Jy (h WZ s σ H _ I hw) λu s1 ⟨x,H1,I1,r1,q1⟩=>?_;obtain⟨i,rfl,q⟩:=q1;obtain⟨t,rfl⟩:=r1;exact⟨some i,H1,I1,.int i t,q⟩
def rC (X:Cx)(r:V->Option Int->Option Int->Hp->VK->Prop):Prop:=
 ∀(WZ:List (WP×Obj)) (s:WR) (σ:St) (H:Hp) (x:V) (v vl vu:WQ) (lo hi:Option Int) (sl:WP) (Q:VK),Zy X WZ σ H s->Ye x v->s.heap.IsSliceOf sl vl vu .none->IsPart vl lo->IsPart vu hi->r x lo hi H Q->
  ∃T id,typeLookup (.type T) "__getitem__"=pure (some (.builtin id))/\s.TypeIs v T/\wpAny (model X.prog X.w) X.A (getItem v (.ref sl)) (EP X WZ σ Q) X.xe s
def rC.or {r r':V->Option Int->Option Int->Hp->VK->Prop}(h:rC X r)(h':rC X r'):rC X (λx lo hi H Q=>r x lo hi H Q\/r' x lo hi H Q):=by
 intro WZ s σ H x v vl vu lo hi sl Q I rx hs pl pu q
 rcases q with q | q
 ·exact h WZ s σ H x v vl vu lo hi sl Q I rx hs pl pu q
 ·exact h' WZ s σ H x v vl vu lo hi sl Q I rx hs pl pu q
def bH (r:V->Option Int->Option Int->Hp->VK->Prop)(te:TE)(tl th:TO):TE:=λσ H Q=>te σ H λx H1=>tl σ H1 λl H2=>th σ H2 λu H3=>r x l u H3 Q
def zz {r:V->Option Int->Option Int->Hp->VK->Prop}(hr:rC X r)(he:PE X e te)(hl:PO X lo tl)(hu:PO X hi th):PE X (.Subscript e (.Slice lo hi none p2) pos) (bH r te tl th):=by
 intro WZ s σ H Q I h;refine Subscript_ (Jy (he WZ s σ H _ I h) λv s1 ⟨x,H1,I1,r1,q1⟩=>?_);refine wpAny_Slice (Jy (hl WZ s1 σ H1 _ I1 q1) λvl s2 ⟨l,H2,I2,pl,q2⟩=>Jy (hu WZ s2 σ H2 _ I2 q2) λvu s3 ⟨u,H3,I3,pu,q3⟩=>?_);rw[evalPart_none];refine XB ?_;have I4:Zy X WZ σ H3 {s3 with heap:=s3.heap.push {cls:=.type "slice",data:=.fields #[vl,vu,.none]}}:=I3.kept (t':=s3.toks) λb ob q=>XC _ q;obtain⟨T,id,hT,ht,hg⟩:=hr WZ {s3 with heap:=s3.heap.push {cls:=.type "slice",data:=.fields #[vl,vu,.none]}} σ H3 x v vl vu l u s3.heap.objs.size Q I4 r1 (Heap.IsSliceOf.new ..) pl pu q3;show wpAny (model X.prog X.w) X.A (subscriptTail e (.Slice lo hi none p2) v (.ref s3.heap.objs.size)) (EP X WZ σ Q) X.xe {s3 with heap:=s3.heap.push {cls:=.type "slice",data:=.fields #[vl,vu,.none]}};exact tail_any (ops:=[.ref s3.heap.objs.size,v]) ht hT hg (by with_unfolding_all rfl)
def yn (xs:List V)(lo hi:Option Int):List V:=(xs.drop (HT.sIx xs.length 0 lo)).take (HT.sIx xs.length xs.length hi-HT.sIx xs.length 0 lo)
def He (xs:List V)(lo hi:Option Int):(yn xs lo hi).length<=xs.length:=by
 unfold yn;rw[YM,ET];omega
def dq (K:WY):V->Option Int->Option Int->Hp->VK->Prop:=λx lo hi H Q=>∃a xs,x=.ref a/\Uz K H a xs/\
 ¬(HT.sIx xs.length 0 lo=0/\HT.sIx xs.length xs.length hi=xs.length)/\∀p,H p=none->Q (.ref p) (Yz H p (.tup (yn xs lo hi)))
def ul:rC X (dq X.K):=by
 intro WZ s σ H x v vl vu lo hi sl Q I rx hs pl pu h;obtain⟨a,xs,rfl,hx,hw,q⟩:=h
 cases rx
 obtain⟨its,r,ht,hz⟩:=I.tuple hx;have hlen:its.toArray.size=xs.length:=by rw[XJ];exact r.length.symm
 refine⟨"tuple",_,PyProof.Rows.slot_tuple_getitem.lookup,ht.typeIs,?_⟩;refine HT.getItem_tuple_cut ht hs pl pu (by rw[hlen];exact hw) ?_ (by rw[hlen];exact hz);rw[hlen];refine⟨.ref s.heap.objs.size,_,I.laid (t':=s.toks) (o:=.tup (yn xs lo hi)) (λb ob q=>XC _ q) (XE _) ?_,FL,q _ (I.hok.fresh (XE _))⟩;exact⟨XN (He xs lo hi) hz,_,(r.drop (HT.sIx xs.length 0 lo)).take (HT.sIx xs.length xs.length hi-HT.sIx xs.length 0 lo),IsTup.new _ _⟩
def ge (K:WY):R2:=λx y H Q=>∃a b xs ys,x=.ref a/\y=.ref b/\Uz K H a xs/\Uz K H b ys/\xs≠[]/\xs.length+ys.length<=sizeLine/\
 (ys=[]->Q (.ref a) H)/\(ys≠[]->∀p,H p=none->Q (.ref p) (Yz H p (.tup (xs++ys))))
def Yd.nil_iff (r:Yd xs us):us=[]↔xs=[]:=by
 cases r with
 | nil=>simp
 | cons _ _=>simp
def q8:Kt X (binaryOp .Add) (ge X.K):=by
 intro WZ s σ H x y v u Q I rx ry h;obtain⟨a,b,xs,ys,rfl,rfl,ha,hb,hx,hz,q1,q2⟩:=h
 cases rx
 cases ry
 obtain⟨its,r1,p1,_⟩:=I.tuple ha;obtain⟨its2,r2,p2,_⟩:=I.tuple hb;refine HT.cat_tup p1 p2 (λz=>hx (r1.nil_iff.mp z)) (λz=>⟨.ref a,H,I,FL,q1 (r2.nil_iff.mp z)⟩) (λz=>?_) (by rw[<-r1.length,<-r2.length];exact hz);refine⟨.ref s.heap.objs.size,_,I.laid (t':=s.toks) (o:=.tup (xs++ys)) (λb ob q=>XC _ q) (XE _) ?_,FL,q2 (λw=>z (r2.nil_iff.mpr w)) _ (I.hok.fresh (XE _))⟩;exact⟨by rw[BA];exact hz,_,r1.append r2,IsTup.new _ _⟩
end
def w9 (n:Nat)(i:Int):Option Nat:=if 0<=i then(if i<n then some i.toNat else none) else if-(n:Int)<=i then some (i+n).toNat else none
def Pa {α:Type}(xs:List α)(i:Int):Option α:=(w9 xs.length i).bind λj=>xs[j]?
def jY (h:w9 n i=some j):seqIndex? i n=some j/\j<n/\ -(n:Int)<=i/\i<n:=by
 unfold w9 at h;by_cases h0:0<=i
 ·rw[XY h0] at h;by_cases h1:i<n
  ·rw[XY h1] at h;have e:i.toNat=j:=YH h;exact⟨by rw[seqIndex_of h0 h1,e],by omega,by omega,h1⟩
  ·rw[XX h1] at h;cases h
 ·rw[XX h0] at h;by_cases h1: -(n:Int)<=i
  ·rw[XY h1] at h;have e:(i+n).toNat=j:=YH h;exact⟨by rw[seqIndex_neg (by omega) h1,e],by omega,h1,by omega⟩
  ·rw[XX h1] at h;cases h
def Av {α:Type}{xs:List α}{v:α}(h:Pa xs i=some v):∃j,seqIndex? i xs.length=some j/\xs[j]?=some v/\j<xs.length/\ -(xs.length:Int)<=i/\i<xs.length:=by
 unfold Pa at h
 cases e:w9 xs.length i with
 | none=>rw[e] at h;cases h
 | some j=>
  rw[e] at h;obtain⟨h1,h2,h3,h4⟩:=jY e;exact⟨j,h1,h,h2,h3,h4⟩
def Xu {α:Type}{xs:List α}{j:Nat}{v:α}(h:xs[j]?=some v):Pa xs (j:Int)=some v:=by
 have hj:j<xs.length:=(BB.mp h).1;have e:w9 xs.length (j:Int)=some j:=by
  unfold w9;rw[if_pos (by omega),if_pos (by omega)];simp
 unfold Pa;rw[e];exact h
def sO {α:Type}(xs:List α)(v:α):Pa (xs++[v]) (-1)=some v:=by
 have hl:(xs++[v]).length=xs.length+1:=by simp
 have e:w9 (xs++[v]).length (-1)=some xs.length:=by
  unfold w9;rw[hl,XX (by decide),XY (by omega)];congr 1;omega
 unfold Pa;rw[e];show(xs++[v])[xs.length]?=some v;simp
def xC (b:WW):Prop:=∀o i,subscripted b false o i=operate [o,i] (getItem o i)
def rD (X:Cx)(r:R2):Prop:=
 ∀(value slice:WW) (WZ:List (WP×Obj)) (s:WR) (σ:St) (H:Hp) (x y:V) (v u:WQ) (Q:VK),Zy X WZ σ H s->Ye x v->Ye y u->r x y H Q->
  subscripted slice false v u=operate [v,u] (getItem v u)->wpAny (model X.prog X.w) X.A (subscriptTail value slice v u) (EP X WZ σ Q) X.xe s
def fU (X:Cx)(id:String)(r:V->List V->Hp->VK->Prop):Prop:=
 ∀(WZ:List (WP×Obj)) (s:WR) (σ:St) (H:Hp) (x:V) (xs:List V) (v:WQ) (us:List WQ) (Q:VK),Zy X WZ σ H s->Ye x v->Yd xs us->r x xs H Q->
  wpAny (model X.prog X.w) X.A (call (.builtin id) (v::us)) (EP X WZ σ Q) X.xe s
section
variable {X:Cx}{a b:WW}{ta tb:TE}{pos:Pos}
def rD.or (h:rD X r)(h':rD X r'):rD X (λx y H Q=>r x y H Q\/r' x y H Q):=by
 intro value slice WZ s σ H x y v u Q I rx ry q hs
 rcases q with q | q
 ·exact h value slice WZ s σ H x y v u Q I rx ry q hs
 ·exact h' value slice WZ s σ H x y v u Q I rx ry q hs
def gq (hr:rD X r)(ha:PE X a ta)(hb:PE X b tb)(hs:xC b):PE X (.Subscript a b pos) (i8 r ta tb):=by
 intro WZ s σ H Q I h;exact Subscript_ (kC ha hb I h λv u s2 x y H2 I2 rx ry q=>hr a b WZ s2 σ H2 x y v u Q I2 rx ry q (hs _ _))
def gd (K:WY):R2:=λx y H Q=>∃p xs i v,x=.ref p/\y=.int i/\J9 K H p xs/\Pa xs i=some v/\Q v H
def hZ (K:WY):R2:=λx y H Q=>∃p xs i v,x=.ref p/\y=.int i/\Uz K H p xs/\Pa xs i=some v/\Q v H
def gc:R2:=λx y H Q=>∃z i c,x=.str z/\y=.int i/\z.length<=sizeLine/\Pa z.cps.toList i=some c/\Q (.str ⟨#[c]⟩) H
def qN:rD X (gd X.K):=by
 intro value slice WZ s σ H x y v u Q I rx ry h hs;obtain⟨p,xs,i,z,rfl,rfl,hq,he,q⟩:=h
 cases rx
 obtain⟨t,rfl⟩:=ry;obtain⟨its,r,pl,hz⟩:=I.list hq;obtain⟨j,h1,h2,h3,h4,h5⟩:=Av he;obtain⟨w,ew,rw'⟩:=r.get h2;have hl:=r.length;have hn:=Mn;have fin:EP X WZ σ Q w s:=⟨z,H,I,rw',q⟩;by_cases h0:0<=i
 ·have hj:i.toNat=j:=by
   rw[seqIndex_of h0 h5] at h1;exact YH h1
  exact item_listR pl.isList h0 (by omega) (by rw[hj];simpa using ew) fin hs
 ·have hj:(i+(its.toArray.size:Int)).toNat=j:=by
   rw[seqIndex_neg (by omega) h4] at h1;rw[XJ,<-hl];exact YH h1
  exact subscriptTail_builtinR (x:=w) pl.isList.typeIs slot_list_getitem.lookup
   (wpAny_getItem_list_neg (Q:=λr s'=>r=w/\EP X WZ σ Q r s') pl.isList (by omega) (by rw[List.size_toArray]<;>omega) (by omega) (by rw[hj];simpa using ew) ⟨FL,fin⟩) hs
def lJ:rD X (hZ X.K):=by
 intro value slice WZ s σ H x y v u Q I rx ry h hs;obtain⟨p,xs,i,z,rfl,rfl,hq,he,q⟩:=h
 cases rx
 obtain⟨t,rfl⟩:=ry;obtain⟨its,r,pl,hz⟩:=I.tuple hq;obtain⟨j,h1,h2,h3,h4,h5⟩:=Av he;obtain⟨w,ew,rw'⟩:=r.get h2;have hl:=r.length;have hn:=Mn;have fin:EP X WZ σ Q w s:=⟨z,H,I,rw',q⟩;exact subscriptTail_builtinR (x:=w) pl.typeIs slot_tuple_getitem.lookup
  (getItem_tuple (j:=j) (Q:=λr s'=>r=w/\EP X WZ σ Q r s') pl (by omega) (by omega) (by rw[List.size_toArray,<-hl];exact h1) (by simpa using ew) ⟨FL,fin⟩) hs
def lK:rD X gc:=by
 intro value slice WZ s σ H x y v u Q I rx ry h hs;obtain⟨z,i,c,rfl,rfl,hz,he,q⟩:=h;obtain⟨t,rfl⟩:=rx;obtain⟨t',rfl⟩:=ry;obtain⟨j,h1,h2,h3,h4,h5⟩:=Av he;have hl:z.cps.toList.length=z.length:=by simp[Str.length]
 rw[hl] at h1 h4 h5;have hn:=Mn;exact tail_any (typeIs_str s z t) slot_str_getitem.lookup (getItem_str (c:=c) (by
  have e1:decide (i< -(2^63:Int))=false:=YG (by omega);have e2:decide (i>=2^63)=false:=YG (by omega);rw[e1,e2,Bool.or_false]) (by rw[h1];simpa using h2) ⟨.str ⟨#[c]⟩,H,I.tok _,⟨_,FL⟩,q⟩) hs
def bW (K:WY):R2:=λx y H Q=>gd K x y H Q\/hZ K x y H Q\/gc x y H Q
def lL:rD X (bW X.K):=qN.or (lJ.or lK)
def yY (its:List WQ)(n j:Nat)(u:WQ):Obj.mapSeq (·.setIfInBounds j u) {cls:=.type "list",data:=.seq its.toArray n}={cls:=.type "list",data:=.seq (its.set j u).toArray n}:=by
 simp[Obj.mapSeq]
def Zy.lst (I:Zy X WZ σ H s)(h:H p=some (.lst xs)):
  ∃(its:List WQ) (n:Nat),Yd xs its/\s.heap.get? p=some {cls:=.type "list",data:=.seq its.toArray n}/\xs.length<=sizeLine:=by
 obtain⟨z,its,n,r,e⟩:=I.hok p _ h;exact⟨its,n,r,e,z⟩
def Zy.lstUpd {xs ys:List V}{its its':List WQ}{n n':Nat}{f:Obj->Obj}(I:Zy X WZ σ H s)(h:H p=some (.lst xs))
  (ho:s.heap.get? p=some {cls:=.type "list",data:=.seq its.toArray n}) (hf:f {cls:=.type "list",data:=.seq its.toArray n}={cls:=.type "list",data:=.seq its'.toArray n'}) (r:Yd ys its') (hz:ys.length<=sizeLine) (t:Nat):
  Zy X WZ σ (Yz H p (.lst ys)) {s with heap:=s.heap.update p f,toks:=t}:=by
 have e:(s.heap.update p f).get? p=some {cls:=.type "list",data:=.seq its'.toArray n'}:=by
  rw[DZ f ho (by rw[hf]<;>rfl),hf]
 refine I.write (x:=p) (e:=p) (by rw[h];trivial) (.inl FL) (λb u hb q=>(DV _ _ (Ne.symm hb)).trans q) ⟨_,e⟩ ?_;exact⟨hz,its',n',r,e⟩
def hU:V->V->V->Hp->(Hp->Prop)->Prop:=λo i v H Q=>∃p xs k j,o=.ref p/\i=.int k/\H p=some (.lst xs)/\w9 xs.length k=some j/\Q (Yz H p (.lst (xs.set j v)))
def uo:kR X hU:=by
 intro WZ s σ H o i v ov iv u Q I ro ri rv h;obtain⟨p,xs,k,j,rfl,rfl,hp,hj,q⟩:=h
 cases ro
 obtain⟨t,rfl⟩:=ri;obtain⟨its,n,r,ho,hz⟩:=I.lst hp;obtain⟨h1,h2,h3,h4⟩:=jY hj;have hl:=r.length;have hn:=Mn;have I':Zy X WZ σ (Yz H p (.lst (xs.set j v))) {s with heap:=s.heap.update p (Obj.mapSeq (·.setIfInBounds j u))}:=
  I.lstUpd hp ho (yY its n j u) (r.set rv j) (by rw[CU];exact hz) s.toks
 by_cases h0:0<=k
 ·have hk:k.toNat=j:=by
   rw[seqIndex_of h0 h4] at h1;exact YH h1
  exact W.ki_setAt ho h0 (by omega) (by rw[XJ,<-hl];exact h4) (by rw[hk];exact⟨_,I',q⟩)
 ·have hk:(k+(its.toArray.size:Int)).toNat=j:=by
   rw[seqIndex_neg (by omega) h3] at h1;rw[XJ,<-hl];exact YH h1
  exact W.ki_setBack ho (by omega) (by rw[XJ,<-hl];exact h3) (by omega) (by rw[hk];exact⟨_,I',q⟩)
def Cv (lo hi:Option Int)(n:Nat):(sliceBounds lo hi none n).1=((HT.sIx n 0 lo:Nat):Int)/\(sliceBounds lo hi none n).2.1=((HT.sIx n n hi:Nat):Int)/\(sliceBounds lo hi none n).2.2=1:=by
 refine⟨?_,?_,FL⟩
 ·cases lo with
  | none=>simp[sliceBounds,HT.sIx]
  | some i=>
   simp only[sliceBounds,HT.sIx,Option.getD_none,show(1:Int)>0 by decide,if_true];by_cases h:i<0
   ·simp only[h,if_true]<;>omega
   ·simp only[h,if_false]<;>omega
 ·cases hi with
  | none=>simp[sliceBounds,HT.sIx]
  | some i=>
   simp only[sliceBounds,HT.sIx,Option.getD_none,show(1:Int)>0 by decide,if_true];by_cases h:i<0
   ·simp only[h,if_true]<;>omega
   ·simp only[h,if_false]<;>omega
def Em (its:List WQ)(lo hi:Option Int):slicePick its.toArray lo hi none=((its.drop (HT.sIx its.length 0 lo)).take (HT.sIx its.length its.length hi-HT.sIx its.length 0 lo)).toArray:=by
 obtain⟨h1,h2,h3⟩:=Cv lo hi its.toArray.size;unfold slicePick;rw[h1,h2,h3];simp only[sliceRange_one,pick_run,List.size_toArray]<;>rfl
def dt (K:WY):V->Option Int->Option Int->Hp->VK->Prop:=λx lo hi H Q=>∃a xs,x=.ref a/\J9 K H a xs/\∀p,H p=none->Q (.ref p) (Yz H p (.lst (yn xs lo hi)))
def rV:rC X (dt X.K):=by
 intro WZ s σ H x v vl vu lo hi sl Q I rx hs pl pu h;obtain⟨a,xs,rfl,hx,q⟩:=h
 cases rx
 obtain⟨its,r,ht,hz⟩:=I.list hx;have hlen:=r.length;refine⟨"list",_,slot_list_getitem.lookup,ht.isList.typeIs,?_⟩;refine wpAny_getItem_list_slice ht.isList hs pl pu .none (by simp) ?_ (by rw[List.size_toArray]<;>omega);rw[Em,<-hlen];refine⟨.ref s.heap.objs.size,_,I.laid (t':=s.toks) (o:=.lst (yn xs lo hi)) (λb ob q=>XC _ q) (XE _) ?_,FL,q _ (I.hok.fresh (XE _))⟩;exact⟨XN (He xs lo hi) hz,_,0,(r.drop (HT.sIx xs.length 0 lo)).take (HT.sIx xs.length xs.length hi-HT.sIx xs.length 0 lo),XF _ FL⟩
def yd:V->Bool
 | .non=>true
 | .bl _=>true
 | .int _=>true
 | .str _=>true
 | _=>false
def kg:V->V->Bool
 | .non,.non=>true
 | .bl a,.bl b=>a==b
 | .bl a,.int b=>(if a then 1 else 0)==b
 | .int a,.bl b=>a==(if b then 1 else 0)
 | .int a,.int b=>a==b
 | .str a,.str b=>a==b
 | _,_=>false
def si (ry:Ye y u)(rx:Ye x v)(fy:yd y=true)(fx:yd x=true):SeqAt.EqAt A s u v (kg y x):=by
 cases y with
 | non=>
  cases ry
  cases x with
  | non=>cases rx;exact SeqAt.EqAt.same _
  | bl b=>cases rx;exact SeqAt.EqAt.none_bool b
  | int b=>obtain⟨t,rfl⟩:=rx;exact SeqAt.EqAt.none_int b t
  | str b=>obtain⟨t,rfl⟩:=rx;exact SeqAt.EqAt.none_str b t
  | _=>exact absurd (show false=true from fx) YJ
 | bl a=>
  cases ry
  cases x with
  | non=>cases rx;exact SeqAt.EqAt.bool_none a
  | bl b=>cases rx;exact SeqAt.EqAt.bool_bool a b
  | int b=>obtain⟨t,rfl⟩:=rx;exact SeqAt.EqAt.bool_int a b t
  | str b=>obtain⟨t,rfl⟩:=rx;exact SeqAt.EqAt.bool_str a b t
  | _=>exact absurd (show false=true from fx) YJ
 | int a=>
  obtain⟨t',rfl⟩:=ry
  cases x with
  | non=>cases rx;exact SeqAt.EqAt.int_none a t'
  | bl b=>cases rx;exact SeqAt.EqAt.int_bool a t' b
  | int b=>obtain⟨t,rfl⟩:=rx;exact SeqAt.EqAt.int_int a t' b t
  | str b=>obtain⟨t,rfl⟩:=rx;exact SeqAt.EqAt.int_str a t' b t
  | _=>exact absurd (show false=true from fx) YJ
 | str a=>
  obtain⟨t',rfl⟩:=ry
  cases x with
  | non=>cases rx;exact SeqAt.EqAt.str_none a t'
  | bl b=>cases rx;exact SeqAt.EqAt.str_bool a t' b
  | int b=>obtain⟨t,rfl⟩:=rx;exact SeqAt.EqAt.str_int a t' b t
  | str b=>obtain⟨t,rfl⟩:=rx;exact SeqAt.EqAt.str_str a t' b t
  | _=>exact absurd (show false=true from fx) YJ
 | _=>exact absurd (show false=true from fy) YJ
def aR (x:V)(u:WQ):Bool:=match u with
 | .none=>kg .non x
 | .bool b=>kg (.bl b) x
 | .int i _=>kg (.int i) x
 | .str z _=>kg (.str z) x
 | _=>false
def bh (x:V)(xs:List V):Bool:=xs.any λy=>kg y x
def aP (K:WY)(neg:Bool):R2:=λx y H Q=>∃p xs,y=.ref p/\(J9 K H p xs\/Uz K H p xs)/\yd x=true/\xs.all yd=true/\Q (.bl (if neg then !bh x xs else bh x xs)) H
def Aq:Wy X (.builtin "len") (λxs H Q=>∃p ys,xs=[.ref p]/\(J9 X.K H p ys\/Uz X.K H p ys)/\Q (.int ys.length) H):=by
 intro WZ s σ H xs us Q I r h;obtain⟨p,ys,rfl,hq,q⟩:=h;obtain⟨u,rfl,rx⟩:=Qh r
 cases rx
 have hn:=Mn
 rcases hq with hq | hq
 ·obtain⟨its,r',pl,hz⟩:=I.list hq;have hlen:=r'.length;exact Calls.call_len_list pl.isList (by simp only[List.size_toArray]<;>omega) ⟨.int ys.length,H,I.tok _,⟨s.toks+1,by rw[List.size_toArray,hlen]⟩,q⟩
 ·obtain⟨its,r',pl,hz⟩:=I.tuple hq;have hlen:=r'.length;exact len_tuple pl (by simp only[List.size_toArray]<;>omega) ⟨.int ys.length,H,I.tok _,⟨s.toks+1,by rw[List.size_toArray,hlen]⟩,q⟩
def Ap:Wy X (.builtin "len") (λxs H Q=>∃z,xs=[.str z]/\z.length<=sizeLine/\Q (.int z.length) H):=by
 intro WZ s σ H xs us Q I r h;obtain⟨z,rfl,hz,q⟩:=h;obtain⟨u,rfl,t,rfl⟩:=Qh r;have hn:=Mn;exact len_str (by omega) ⟨.int z.length,H,I.tok _,⟨_,FL⟩,q⟩
def Wy.or {f:WQ}{r r':List V->Hp->VK->Prop}(h:Wy X f r)(h':Wy X f r'):Wy X f (λxs H Q=>r xs H Q\/r' xs H Q):=by
 intro WZ s σ H xs us Q I rs q
 rcases q with q | q
 ·exact h WZ s σ H xs us Q I rs q
 ·exact h' WZ s σ H xs us Q I rs q
def Ao:Wy X (.type "list") (λxs H Q=>∃p ys,xs=[.ref p]/\(J9 X.K H p ys\/Uz X.K H p ys)/\∀l,H l=none->Q (.ref l) (Yz H l (.lst ys))):=by
 intro WZ s σ H xs us Q I r h;obtain⟨p,ys,rfl,hq,q⟩:=h;obtain⟨u,rfl,rx⟩:=Qh r
 cases rx
 have fin:∀(its:List WQ),Yd ys its->ys.length<=sizeLine->∀(h':WU) (c':Nat),(∀b o',s.heap.get? b=some o'->h'.get? b=some o')->
   h'.get? s.heap.objs.size=some {cls:=.type "list",dict:=none,data:=.seq its.toArray c',slots:=#[]}->EP X WZ σ Q (.ref s.heap.objs.size) {s with heap:=h'}:=λits r' hz h' c' kp e=>
  ⟨.ref s.heap.objs.size,_,I.laid (t':=s.toks) kp (XE _) (show Ji X.prog X.w _ h' _ (.lst ys) from⟨hz,its,c',r',e⟩),FL,q _ (I.hok.fresh (XE _))⟩
 rcases hq with hq | hq
 ·obtain⟨its,r',pl,hz⟩:=I.list hq;have hlen:=r'.length;obtain⟨o,ho,hc,n,hd⟩:=pl.isList;exact call_list_seq p (.inl FL) ho hc hd (λh' c' kp e=>fin its r' hz h' c' kp e) (by simp only[List.size_toArray]<;>omega)
 ·obtain⟨its,r',pl,hz⟩:=I.tuple hq;have hlen:=r'.length;obtain⟨o,ho,hc,n,hd⟩:=pl;exact call_list_seq p (.inr FL) ho hc hd (λh' c' kp e=>fin its r' hz h' c' kp e) (by simp only[List.size_toArray]<;>omega)
def Ey:Wy X (.type "tuple") (λxs H Q=>∃p ys,xs=[.ref p]/\((J9 X.K H p ys/\∀l,H l=none->Q (.ref l) (Yz H l (.tup ys)))\/(Uz X.K H p ys/\Q (.ref p) H))):=by
 intro WZ s σ H xs us Q I r h;obtain⟨p,ys,rfl,h⟩:=h;obtain⟨u,rfl,rx⟩:=Qh r
 cases rx
 rcases h with⟨hq,q⟩ | ⟨hq,q⟩
 ·obtain⟨its,r',pl,hz⟩:=I.list hq;have hlen:=r'.length;refine call_tuple_list pl.isList (λh' kp=>?_) (by simp only[List.size_toArray]<;>omega);have I1:Zy X WZ σ H {s with heap:=h'}:=I.kept (t':=s.toks) kp;have I2:Zy X WZ σ (Yz H h'.objs.size (.tup ys)) {s with heap:=h'.push {cls:=.type "tuple",data:=.seq its.toArray}}:=
   I1.laid (t':=s.toks) (λb o e=>XC _ e) (XE _) (show Ji X.prog X.w _ _ _ (.tup ys) from⟨hz,its,r',IsTup.new _ _⟩)
  exact⟨.ref h'.objs.size,_,I2,FL,q _ (I1.hok.fresh (XE _))⟩
 ·obtain⟨its,r',pl,hz⟩:=I.tuple hq;exact call_tuple_same pl ⟨.ref p,H,I,FL,q⟩
def kW (K:WY)(T:String)(x:V)(H:Hp):Prop:=match x with
 | .str _=>T="str"
 | .int _=>T="int"
 | .ref p=>(T="list"/\∃xs,J9 K H p xs)\/(T="tuple"/\∃o,K.lookup p=some o/\o.cls=.type "tuple"/\o.dict=none)\/
   (T="dict"/\((∃kvs,H p=some (.dK kvs))\/∃kvs,H p=some (.dT kvs)))\/(T="set"/\∃S n,H p=some (.set S n))
 | _=>False
def vZ (I:Zy X WZ σ H s)(r:Ye x v)(ty:kW X.K T x H):
  s.TypeIs v T/\∀a,v=.ref a->∃ob,s.heap.get? a=some ob/\ob.dict=none:=by
 cases x with
 | str z=>
  obtain⟨t,rfl⟩:=r
  cases (show T="str" from ty)
  exact⟨typeIs_str s z t,λ_ e=>nomatch e⟩
 | int i=>
  obtain⟨t,rfl⟩:=r
  cases (show T="int" from ty)
  exact⟨typeIs_int s i t,λ_ e=>nomatch e⟩
 | ref p=>
  cases r
  rcases ty with⟨rfl,xs,hq⟩ | ⟨rfl,o,hk,hc,hd⟩ | ⟨rfl,hk⟩ | ⟨rfl,S,n,hk⟩
  ·obtain⟨its,_,pl,_⟩:=I.list hq;refine⟨pl.isList.typeIs,λa e=>?_⟩
   cases e
   obtain⟨o,n,e,c,hd,_⟩:=pl;exact⟨o,e,hd⟩
  ·refine⟨⟨o,I.kIn p o hk,hc⟩,λa e=>?_⟩
   cases e
   exact⟨o,I.kIn _ o hk,hd⟩
  ·have z:∃o,s.heap.get? p=some o/\o.ExactDict:=by
    rcases hk with⟨kvs,hk⟩ | ⟨kvs,hk⟩
    ·obtain⟨_,_,_,_,o,_,_,e,ex,_⟩:=I.hok p _ hk;exact⟨o,e,ex⟩
    ·obtain⟨_,_,_,_,o,_,_,e,ex,_⟩:=I.hok p _ hk;exact⟨o,e,ex⟩
   obtain⟨o,e,ex⟩:=z;refine⟨⟨o,e,ex.1⟩,λa e2=>?_⟩
   cases e2
   exact⟨o,e,ex.2.1⟩
  ·obtain⟨o,_,_,_,e,ex,_⟩:=I.hok p _ hk;refine⟨⟨o,e,ex.1⟩,λa e2=>?_⟩
   cases e2
   exact⟨o,e,ex.2.1⟩
 | _=>exact False.elim ty
def eX (K:WY)(T:String)(r:V->List V->Hp->VK->Prop)(to:TE):TE:=λσ H Q=>to σ H λx H1=>kW K T x H1/\r x [] H1 Q
def bQ (K:WY)(T:String)(r:V->List V->Hp->VK->Prop)(to:TE)(t:TA):TE:=λσ H Q=>to σ H λx H1=>kW K T x H1/\t σ H1 λxs H2=>r x xs H2 Q
variable {o e:WW}{es:List WW}{to:TE}{t:TA}{name:Str}{apos cpos:Pos}{T id:String}{r:V->List V->Hp->VK->Prop}
def mL (pa:PlainAttrs T)(slot:Slot T name id)(hty:typeOf (.builtin id)=pure (.type "method_descriptor"))(hm:fU X id r)(ho:PE X o to)
  (hbase:autoParam (attributeBase o name X.env (eval o X.env)=eval o X.env) QzR) (hline:autoParam ((apos.endLine==cpos.line)=true) QzR):PE X (.Call (.Attribute o name apos) [] [] cpos) (eX X.K T r to):=by
 intro WZ s σ H Q I h;refine wpAny_Call_method0_late hbase hline (Jy (ho WZ s σ H _ I h) λv s1 ⟨x,H1,I1,r1,ty,q1⟩=>?_);obtain⟨h1,h2⟩:=vZ I1 r1 ty;exact⟨T,id,pa,slot,hty,h1,h2,DD FL (PySem.evalArgs_none (hm WZ s1 σ H1 x [] v [] Q I1 r1 .nil q1))⟩
def gt (pa:PlainAttrs T)(slot:Slot T name id)(hty:typeOf (.builtin id)=pure (.type "method_descriptor"))(hm:fU X id r)(ho:PE X o to)(ha:PA X (e::es) t)
  (hbase:autoParam (attributeBase o name X.env (eval o X.env)=eval o X.env) QzR)
  (hfew:autoParam (((backTo cpos (starEach (e::es) X.env)).all (λx=>!x.1)&&(backToKw cpos (keywordEach [] X.env)).all (λx=>x.1.isSome)
   &&decide ((e::es).length+([]:List Keyword).length+(if ([]:List Keyword).isEmpty then 0 else 1)<30))=true) QzR)
  (hline:autoParam ((apos.endLine==cpos.line)=true) QzR) (hs:autoParam (starEach (e::es) X.env=(false,eval e X.env)::starEach es X.env) QzR) (hplain:autoParam ((backTo cpos (starEach es X.env)).any (·.1)=false) QzR):
  PE X (.Call (.Attribute o name apos) (e::es) [] cpos) (bQ X.K T r to t):=by
 intro WZ s σ H Q I h;refine wpAny_Call_method_late hbase hfew hline FL (Jy (ho WZ s σ H _ I h) λv s1 ⟨x,H1,I1,r1,ty,q1⟩=>?_);obtain⟨h1,h2⟩:=vZ I1 r1 ty;refine⟨T,id,pa,slot,hty,h1,h2,?_⟩;have hA:=ha cpos WZ s1 σ H1 _ I1 q1;rw[hs] at hA |-;refine DD (by show(false||(backTo cpos (starEach es X.env)).any (·.1))=false;rw[hplain]<;>rfl) (EY ?_);exact Jy hA λus s2 ⟨vs,H2,I2,r2,q2⟩=>hm WZ s2 σ H2 x vs v us Q I2 r1 r2 q2
/-xs.append(e),list.index on a module's tuple .. are fU facts of 06m-/
end
def fV (X:Cx)(id:String)(r:V->List V->Hp->VK->Prop):Prop:=
 ∀(WZ:List (WP×Obj)) (s:WR) (σ:St) (H:Hp) (x:V) (xs:List V) (v:WQ) (us:List WQ) (Q:VK),Zy X WZ σ H s->Ye x v->Yd xs us->r x xs H Q->
  wpAny (model X.prog X.w) X.A (call (.builtin id) (v::us)) (EP X WZ σ Q) X.xe s
def Yd.one:∀{x:V} {us:List WQ},Yd [x] us->∃u,us=[u]/\Ye x u
 | _,_,.cons r .nil=>⟨_,FL,r⟩
def Yd.two:∀{x y:V} {us:List WQ},Yd [x,y] us->∃u v,us=[u,v]/\Ye x u/\Ye y v
 | _,_,_,.cons r (.cons q .nil)=>⟨_,_,FL,r,q⟩
def Yd.zero:∀{us:List WQ},Yd [] us->us=[]
 | _,.nil=>rfl
def Yd.dropLast (h:Yd xs us):Yd xs.dropLast us.dropLast:=by
 induction h with
 | nil=>exact .nil
 | cons r t ih=>
  cases t with
  | nil=>exact .nil
  | cons q t'=>exact .cons r ih
def Yd.rep (h:Yd xs us):∀k:Nat,Yd (List.replicate k xs).flatten (List.replicate k us).flatten
 | 0=>.nil
 | k+1=>by
  rw[BV,BV,CG,CG];exact Yd.append h (Yd.rep h k)
def jl {α:Type}(l:List α):l.eraseIdx (l.length-1)=l.dropLast:=by
 induction l with
 | nil=>rfl
 | cons a r ih=>
  cases r with
  | nil=>rfl
  | cons b r=>
   have e:(a::b::r).length-1=((b::r).length-1)+1:=by
    have h1:(a::b::r).length=r.length+2:=rfl;have h2:(b::r).length=r.length+1:=rfl;omega
   rw[e,List.eraseIdx_cons_succ,ih]
   all_goals rfl
def Dq (its:List WQ):∀(k:Nat) (acc:List WQ),
  List.foldl (λx1 x2=>x1++x2) acc.toArray (List.replicate k its.toArray)=(acc++(List.replicate k its).flatten).toArray
 | 0,acc=>by simp
 | k+1,acc=>by
  have e:acc.toArray++its.toArray=(acc++its).toArray:=by simp
  have e2:(acc++its)++(List.replicate k its).flatten=acc++(List.replicate (k+1) its).flatten:=by
   rw[BV,CG,YL]
  rw[<-e2,<-Dq its k (acc++its),<-e,BV,EF]
section
variable {X:Cx}{WZ:List (WP×Obj)}{σ:St}{H:Hp}{s:WR}{l b:WP}{xs ys zs:List V}
def Zy.lset {its its':List WQ}{n:Nat}{f:Array WQ->Array WQ}{t':Nat}(I:Zy X WZ σ H s)(hH:H l=some (.lst xs))
  (e:s.heap.get? l=some {cls:=.type "list",data:=.seq its.toArray n}) (hf:f its.toArray=its'.toArray) (hv:Yd ys its') (hz:ys.length<=sizeLine):
  Zy X WZ σ (Yz H l (.lst ys)) {s with heap:=s.heap.update l (Obj.mapSeq f),toks:=t'}:=by
 have q:=PySem.IsL.update e f;rw[hf] at q;refine I.write (x:=l) (e:=l) (by rw[hH];exact trivial) (.inl FL) (λb' u hb hu=>(DV s.heap (Obj.mapSeq f) (Ne.symm hb)).trans hu) ⟨_,q⟩ ?_;exact⟨hz,its',_,hv,q⟩
def Zy.lnew {t':Nat}(I:Zy X WZ σ H s)(hv:Yd ys its)(hz:ys.length<=sizeLine):
  Zy X WZ σ (Yz H s.heap.objs.size (.lst ys)) {s with heap:=s.heap.push {cls:=.type "list",data:=.seq its.toArray},toks:=t'}:=
 I.laid (λ_ _ q=>XC _ q) (XE _) ⟨hz,its,0,hv,XF _ FL⟩
def Zy.fresh (I:Zy X WZ σ H s):H s.heap.objs.size=none:=I.hok.fresh (XE _)
def Zy.lstM (I:Zy X WZ σ H s)(hH:H l=some (.lst xs)):xs.length<=sizeLine/\∃(its:List WQ) (n:Nat),Yd xs its/\xs.length=its.length/\s.heap.get? l=some {cls:=.type "list",data:=.seq its.toArray n}:=by
 obtain⟨z,its,n,r,e⟩:=I.hok l _ hH;exact⟨z,its,n,r,r.length,e⟩
def zF {n:Nat}(h:n<=sizeLine):Builtin.List.listTooLong n=false:=by
 unfold Builtin.List.listTooLong;exact YG (by omega)
end
section
variable {X:Cx}
def qe:V->List V->Hp->VK->Prop:=λx vs H Q=>∃l xs y,x=.ref l/\vs=[y]/\H l=some (.lst xs)/\xs.length<sizeLine/\Q .non (Yz H l (.lst (xs++[y])))
def Dj:fV X "list.append" qe:=by
 intro WZ s σ H x vs v us Q I rx rv h;obtain⟨l,xs,y,rfl,rfl,hH,hz,q⟩:=h
 cases rx
 obtain⟨u,rfl,ru⟩:=rv.one;obtain⟨z,its,n,r,hl,e⟩:=I.lstM hH;refine call_meets F.slot_list_append ⟨_,e,FL⟩ F.entry_list_append (F.args_list_append_2 _ _) (PySem.list_append l its.toArray n u (by rw[XJ];omega)) ⟨e,?_⟩;refine⟨.non,_,I.lset (its':=its++[u]) hH e (by simp) (r.append (.cons ru .nil)) ?_,FL,q⟩;rw[BA,BH];omega
def qd:V->List V->Hp->VK->Prop:=λx vs H Q=>∃l b xs zs,x=.ref l/\vs=[.ref b]/\H l=some (.lst xs)/\H b=some (.lst zs)/\xs.length+zs.length<=sizeLine/\Q .non (Yz H l (.lst (xs++zs)))
def ww:fV X "list.extend" qd:=by
 intro WZ s σ H x vs v us Q I rx rv h;obtain⟨l,b,xs,zs,rfl,rfl,hH,hB,hz,q⟩:=h
 cases rx
 obtain⟨u,rfl,ru⟩:=rv.one
 cases ru
 obtain⟨z,its,n,r,hl,e⟩:=I.lstM hH;obtain⟨z2,its2,n2,r2,hl2,e2⟩:=I.lstM hB;have hsz:its.toArray.size+its2.toArray.size<=sizeLine:=by rw[XJ,XJ];omega
 have hlong:¬(!its.toArray.isEmpty&&Builtin.List.listTooLong (its.toArray.size+its2.toArray.size))=true:=by
  rw[zF hsz,Bool.and_false];exact YJ
 refine call_meets F.slot_list_extend ⟨_,e,FL⟩ F.entry_list_extend (F.args_list_extend_2 _ _)
  (AutoSeq1.list_extend_list_list_0 l its.toArray n b its2.toArray n2 hlong (by rw[XJ];omega) (by omega)) ⟨e,e2,?_⟩
 refine⟨.non,_,I.lset (its':=its++its2) hH e (by simp) (r.append r2) ?_,FL,q⟩;rw[BA];omega
def dv:V->List V->Hp->VK->Prop:=λx vs H Q=>∃l xs y,x=.ref l/\vs=[]/\H l=some (.lst xs)/\xs[xs.length-1]?=some y/\Q y (Yz H l (.lst xs.dropLast))
def li:fV X "list.pop" dv:=by
 intro WZ s σ H x vs v us Q I rx rv h;obtain⟨l,xs,y,rfl,rfl,hH,hy,q⟩:=h
 cases rx
 have hus:=rv.zero;subst hus;obtain⟨z,its,n,r,hl,e⟩:=I.lstM hH;obtain⟨u,hu,ru⟩:=r.get hy;have hy':its.toArray[its.toArray.size-1]?=some u:=by
  show its.toArray[its.length-1]?=some u;rw[<-EA,<-hl];exact hu
 refine call_meets F.slot_list_pop ⟨_,e,FL⟩ F.entry_list_pop (F.args_list_pop_1 _) (MeetsSeq.list_pop_last l its.toArray n u hy' (by rw[XJ];omega)) ⟨e,?_⟩;refine⟨y,_,I.lset (its':=its.dropLast) hH e ?_ r.dropLast ?_,ru,q⟩
 ·show its.toArray.eraseIdxIfInBounds (its.toArray.size-1)=its.dropLast.toArray;rw[XJ,List.eraseIdxIfInBounds_toArray,jl]
 ·rw[List.length_dropLast];omega
def ma:V->List V->Hp->VK->Prop:=λx vs H Q=>∃l xs,x=.ref l/\vs=[]/\H l=some (.lst xs)/\Q .non (Yz H l (.lst []))
def uW:fV X "list.clear" ma:=by
 intro WZ s σ H x vs v us Q I rx rv h;obtain⟨l,xs,rfl,rfl,hH,q⟩:=h
 cases rx
 have hus:=rv.zero;subst hus;obtain⟨z,its,n,r,hl,e⟩:=I.lstM hH;refine call_meets F.slot_list_clear ⟨_,e,FL⟩ F.entry_list_clear (F.args_list_clear_1 _) (AutoSeq1.list_clear_list_0 l its.toArray n (by rw[XJ];omega)) ⟨e,?_⟩;exact⟨.non,_,I.lset (its':=[]) (ys:=[]) hH e FL .nil (XO _),FL,q⟩
def dy:R2:=λx y H Q=>∃l b xs zs,x=.ref l/\y=.ref b/\H l=some (.lst xs)/\H b=some (.lst zs)/\xs.length+zs.length<=sizeLine/\∀p,H p=none->Q (.ref p) (Yz H p (.lst (xs++zs)))
def mX:Kt X (binaryOp .Add) dy:=by
 intro WZ s σ H x y v u Q I rx ry h;obtain⟨l,b,xs,zs,rfl,rfl,hH,hB,hz,q⟩:=h
 cases rx
 cases ry
 obtain⟨z,its,n,r,hl,e⟩:=I.lstM hH;obtain⟨z2,its2,n2,r2,hl2,e2⟩:=I.lstM hB;refine PySem.P.add_list e e2 ?_ (by rw[XJ,XJ];omega);have ea:its.toArray++its2.toArray=(its++its2).toArray:=by simp
 rw[ea];exact⟨.ref _,_,I.lnew (t':=s.toks) (r.append r2) (by rw[BA];omega),FL,q _ I.fresh⟩
def du:R2:=λx y H Q=>∃l k xs,x=.ref l/\y=.int k/\H l=some (.lst xs)/\ -(2^63)<=k/\k<2^63/\xs.length*k.toNat<=sizeLine/\
 ∀p,H p=none->Q (.ref p) (Yz H p (.lst (List.replicate k.toNat xs).flatten))
def qK {α:Type}(xs:List α)(k:Nat):(List.replicate k xs).flatten.length=k*xs.length:=by
 induction k with
 | zero=>simp
 | succ k ih=>rw[BV,CG,BA,ih,Nat.succ_mul,Nat.add_comm]
def mS:Kt X (binaryOp .Mult) du:=by
 intro WZ s σ H x y v u Q I rx ry h;obtain⟨l,k,xs,rfl,rfl,hH,h1,h2,hz,q⟩:=h
 cases rx
 obtain⟨t,rfl⟩:=ry;obtain⟨z,its,n,r,hl,e⟩:=I.lstM hH;have hlen:its.toArray.size*k.toNat<=sizeLine:=by rw[XJ,<-hl];exact hz
 have hcap:¬its.toArray.size*k.toNat>(2^63-1)/8:=by
  have:(sizeLine:Nat)<=(2^63-1)/8:=by decide
  omega
 have hfit:¬(!Builtin.List.listFitsIndex k)=true:=by
  rw[fitsIndex_both h1 h2];exact YJ
 have hlong:¬Builtin.List.listTooLong (its.toArray.size*k.toNat)=true:=by
  rw[zF hlen];exact YJ
 have hnew:List.foldl (λx1 x2=>x1++x2) #[] (List.replicate (if its.toArray.isEmpty=true then 0 else k.toNat) its.toArray)=(List.replicate k.toNat its).flatten.toArray:=by
  have f0:∀m:Nat,List.foldl (λx1 x2=>x1++x2) #[] (List.replicate m its.toArray)=(List.replicate m its).flatten.toArray:=λm=>by
   have:=Dq its m [];rw[List.nil_append] at this;exact this
  rw[f0]
  cases its with
  | nil=>simp
  | cons a r'=>rw[if_neg (by simp)]
 refine wpAny_binaryOp_repeat_ref (T:="list") (U:="int") (by decide) ⟨_,e,FL⟩ (λs'=>typeIs_int s' k t) noFill_list_mul F.fills_int_mul F.slot_int_rmul repeat_list F.slot_int_index.lookup
  (call_meets F.slot_int_rmul (typeIs_int s k t) F.entry_int_rmul (F.args_int_rmul_2 _ _) (int___rmul___int_list k t l its.toArray n)
   ⟨e,FL,⟨_,e,FL⟩,call_meets F.slot_list_mul ⟨_,e,FL⟩ F.entry_list_mul (F.args_list_mul_2 _ _) (AutoListH.list___mul___list_int_3 l its.toArray n k t hfit hcap hlong) ⟨e,?_⟩⟩)
 rw[hnew];exact⟨.ref _,_,I.lnew (t':=s.toks) (r.rep k.toNat) (by rw[qK,Nat.mul_comm];exact hz),FL,q _ I.fresh⟩
end
section
variable {prog:WO}{w:WN}{A:WM}{E:WQ->WR->Prop}{s:WR}
end
section
variable {X:Cx}
end
end L2
namespace Att
open PySem PySem.W PySem.Calls PyProof.Rows
def Hi:∀(ns:List Int) (vs:List WQ),WellAll P h vs (ns.map WData.int)->IntsAre vs ns:=by
 intro ns
 induction ns with
 | nil=>
  intro vs w;rw[FI] at w
  cases w
  exact .nil
 | cons n ns ih=>
  intro vs w;rw[YI] at w
  cases w with
  | cons a b=>
   cases a
   exact .cons _ _ (ih _ b)
def xS {l:OpenLaw}(hn:l.most=some n){P:Params}{h:WU}{args:List WData}{vals:List WQ}
  (hpre:l.row.toRowW.claim.pre args=true) (hwl:WellAll P h vals args):
  ∃a vs ns,vals=[Value.ref a]/\args=[WData.list (ns.map WData.int)]/\h.get? a=some {cls:=.type "list",data:=.seq vs.toArray}/\IntsAre vs ns/\ns.length<=n:=by
 have hsh:WShape.hasAll [] args [.list .int]=true:=(pre_splitW hpre).1;have hc:l.pre.holds [] {args:=args}=true:=(pre_splitW hpre).2;obtain⟨d,r,rfl,h1,h2⟩:=hasAllW_cons hsh;obtain rfl:=hasAllW_nil h2;obtain⟨xs,rfl,h3⟩:=hasW_list h1;obtain⟨ns,rfl⟩:=items_int h3;have hlen:ns.length<=n:=by
  unfold OpenLaw.pre at hc;have h4:(WTm.not (.lt (.lit (.int (n:Int))) (.len (.arg 0)))).holds [] {args:=[.list (ns.map .int)]}=true:=by
   have h4:=(holds_andW hc).1;rw[hn] at h4;exact h4
  have h5:=condW_of h4 (w_not (w_lt w_lit (w_len_list (w_arg FL))));rw[XI] at h5;refine Nat.le_of_not_lt λq=>?_;have q':(n:Int)<((ns.length:Nat):Int):=by omega
  first
   | (rw[decide_eq_true q'] at h5;exact absurd h5 (by decide))
   | (simp at h5;omega)
 cases hwl with
 | cons w1 w2=>
  cases w2
  cases w1 with
  | list ho hall=>exact⟨_,_,ns,FL,FL,ho,Hi ns _ hall,hlen⟩
def xV (l:OpenLaw)(args:List WData):l.row.toRowW.claim.post args (.bool true) args=true:=
 postW_of (r:=l.row.toRowW) (X:=(true==true))
  (show WShape.has [] (.bool true) .bool=true by first | rfl | decide | simp[WShape.has,WShape.arms,WShape.armsAll])
  (show(WTm.eq .res (.lit (.bool true))).value [] {args:=args,res:=some (.bool true),after:=args}=some (.bool (true==true)) from w_eq_bool (w_res FL) w_lit) FL
def attach_call {l:OpenLaw}{n:Nat}{q:WO}{loose:List Str}{XP:(Str->Option WQ)->WU->Prop}{YP:WN->WU->Prop}{d:DefRec}
  (hn:l.most=some n) (hdf:d.params.defaults=[])
  (call:∀(w:WN) (s₀ s₁:WR) (mg mb:Str->Option WQ) (fa:WP) (o:Obj) (pm cd doc:WQ) (a:WP) (vs:List WQ) (ns:List Int),
   Ground q loose [] XP w s₀ mg mb s₁.heap->YP w s₁.heap->
   s₁.heap.get? fa=some o->o.data=.func (docDef d.name d.params d.body d.scope pm cd doc)->s₁.heap.CodeRec cd d.name->mg d.name=some (.ref fa)->
   s₁.heap.get? a=some {cls:=.type "list",data:=.seq vs.toArray}->IntsAre vs ns->ns.length<=n->s₁.gens=#[]->
   codeAny (model l.prog w) callerA (.call (.ref fa) ⟨[.ref a],[]⟩) (λr s'=>r=.ok (.ret (.bool true))/\OldK s₁.heap s'.heap/\s'.os=s₁.os/\AllBare s'.gens) s₁):
  WalkO q loose XP YP l.row.toRowW d [] (λf vs=>PySem.call f vs):=by
 intro w s₀ s₁ mg mb G Y fa o pm cd doc dV kV ho hd hcd hD hmg hg args vals as hpre hlay hrd hwl hlo;obtain rfl:dV=.none:=Dflts.none hD hdf;obtain rfl:kV=.none:=Dflts.noKw hD;obtain⟨a,vs,ns,rfl,rfl,hobj,hints,hlen⟩:=xS hn hpre hwl;refine enter_call (codeAny_mono (call w s₀ s₁ mg mb fa o pm cd doc a vs ns G Y ho (fd_plain hd) hcd hmg hobj hints hlen hg) λr s' hq=>?_);obtain⟨rfl,h2,h3,h4⟩:=hq;exact⟨.inl ⟨.bool true,.bool true,[],FL,λ_=>rfl,.bool true,xV l _,λ_=>⟨List.Pairwise.nil,λ_ hm=>(nomatch hm)⟩⟩,h2,h3,h4⟩
section
variable {prog:WO}{w:WN}{A:WM}{E:WQ->WR->Prop}{s:WR}{K:Frag}
def dJ (h:WU)(L d:WP):List (WP×Obj):=(List.range h.objs.size).filterMap λa=>if a=L\/a=d then none else(h.get? a).map λo=>(a,o)
end
end Att
namespace L2
open PySem PySem.Spec PyProof.Rows
def E8:∀{vs:List WQ} {ns:List Int},IntsAre vs ns->Yd (ns.map V.int) vs
 | _,_,.nil=>.nil
 | _,_,.cons n t h=>.cons ⟨t,FL⟩ (E8 h)
def re (H:Hp):Prop:=∀b,H b=none\/∃o xs,H b=some (.frz o (.lst xs))
set_option tactic.hygienic true
def tq {P:WO}{w:WN}{K:WY}{mg mb:Str->Option WQ}{CX:vF}{k:Nat}{fa a:WP}{fd:VZ}{x:Str}{sp:Sp}{s₁:WR}{vs:List WQ}{ns:List Int}
  (KX:K.In s₁.heap) (hns:s₁.heap.Ns mainGlobals mg) (hb:s₁.heap.Ns builtinsNs mb) (hbb:∀x:Str,x≠"__name__"->mb x=bootBuiltins x) (hlim:s₁.heap.NoLimit) (hg:s₁.gens=#[])
  (ha:s₁.heap.get? a=some {cls:=.type "list",data:=.seq vs.toArray}) (hi:IntsAre vs ns) (hl:ns.length<=sizeLine) (hr:Wv k callerA)
  (F:∀base:WU,K.In base->base.Ns mainGlobals mg->U0 P w K mg base CX k fa fd [x] sp) (hbind:∀(s:WR) (u:WQ),BindsTo s fd ⟨[u],[]⟩ [(x,u)])
  (hsp:∀H:Hp,re H->J9 K H a (ns.map V.int)->sp [.ref a] H (λv _=>v=.bl true) λ_ _ _=>False)
  (hCX:∀H e s',CX [] H s₁ (λ_ _ _=>False) e s'->False):
  codeAny (model P w) callerA (.call (.ref fa) ⟨[.ref a],[]⟩) (λr s'=>r=.ok (.ret (.bool true))/\OldK s₁.heap s'.heap/\s'.os=s₁.os/\AllBare s'.gens) s₁:=by
 have rv:=E8 hi;have lenV:=hi.length;have core:∀H:Hp,re H->J9 K H a (ns.map V.int)->M7 P w H s₁.heap->(∀b,H b≠none->b=a)->(H a≠none->K.lookup a=none)->
   codeAny (model P w) callerA (.call (.ref fa) ⟨[.ref a],[]⟩) (λr s'=>r=.ok (.ret (.bool true))/\OldK s₁.heap s'.heap/\s'.os=s₁.os/\AllBare s'.gens) s₁:=by
  intro H hO hS hok hA hK;have base_of:∀{b:WP} {o:Obj},s₁.heap.get? b=some o->H b=none->(B0 s₁.heap H).get? b=some o:=λe n=>tL e n;have noA:∀{b:WP} {o:Obj} {es:Array DictEntry} {ep:Nat},s₁.heap.get? b=some o->o.data=.dict es ep->H b=none:=λ{b o es ep} e d=>by
   cases q:H b with
   | none=>rfl
   | some u=>
    have e':b=a:=hA b (by rw[q];simp);subst e';rw[ha] at e;cases e;have d':Data.seq vs.toArray _=Data.dict es ep:=d
    cases d'
  have nsK:∀{b:WP} {m:Str->Option WQ},s₁.heap.Ns b m->(B0 s₁.heap H).Ns b m:=λ{b m} ⟨o,es,ep,e,d,r⟩=>⟨o,es,ep,base_of e (noA e d),d,r⟩;have hKb:K.In (B0 s₁.heap H):=λb o e=>base_of (KX b o e) (by
   cases q:H b with
   | none=>rfl
   | some u=>
    have e':b=a:=hA b (by rw[q];simp);subst e';rw[hK (by rw[q];simp)] at e;cases e)
  have hM:Mod K mg (B0 s₁.heap H):=⟨hKb,nsK hns,⟨mb,nsK hb,hbb⟩,let ⟨mc,h1,h2⟩:=hlim;⟨mc,nsK h1,h2⟩⟩;have e0:j9 P w K mg (B0 s₁.heap H) callerA [] s₁ H:=⟨FL,hM,λb o e=>qA e,Nat.le_of_eq (wE _ _),trivial,λb hb=>absurd (show b∈([]:List WP) from hb) (by simp),hok,.of_eq hg⟩;refine codeAny_mono ((F _ hKb (nsK hns)).run callerA [] s₁ H ⟨[.ref a],[]⟩ [.ref a] [.ref a] _ _ hr e0 (hbind s₁ (.ref a)) (.cons FL .nil) (hsp H hO hS)) λr s' h=>?_
  cases r with
  | error e=>exact(hCX H e s' h).elim
  | ok fl=>
   cases fl with
   | next=>exact False.elim h
   | brk=>exact False.elim h
   | cont=>exact False.elim h
   | ret u=>
    obtain⟨v,H',os,bare,un,hok',r',q⟩:=h;have q':v=.bl true:=q;subst q';obtain rfl:u=Value.bool true:=r';refine⟨FL,OldK.of_keep λb o e=>?_,os,bare⟩
    cases q:H b with
    | none=>exact un.keep b o e q (by intro z;exact absurd (show b∈([]:List WP) from z) (by simp)) (by simp)
    | some u=>
     rcases hO b with z | ⟨ob,xs,z⟩
     ·rw[q] at z;cases z
     ·have z2:=un.frzs b ob _ z;obtain⟨e1,_⟩:=hok b _ z;obtain⟨e2,_⟩:=hok' b _ z2;rw[e] at e1;cases e1;exact e2
 cases hk:K.lookup a with
 | some o=>
  have e:=KX a o hk;rw[ha] at e
  cases e
  refine core (λ_=>none) (λ_=>.inl FL) (.inr ⟨_,vs.toArray,_,hk,FL,FL,FL,by rw[List.size_toArray,lenV];exact hl,by simpa using rv⟩) (λb u z=>by have z':(none:Option HO)=some u:=z;cases z') (λb z=>absurd FL z) λz=>absurd FL z
 | none=>
  refine core (λb=>if b=a then some (.frz {cls:=.type "list",data:=.seq vs.toArray} (.lst (ns.map V.int))) else none) (λb=>?_) (.inl (.inr ⟨{cls:=.type "list",data:=.seq vs.toArray},XY FL⟩)) (λb u z=>?_) (λb z=>?_) λ_=>hk
  ·by_cases hb:b=a
   ·exact .inr ⟨_,_,XY hb⟩
   ·exact .inl (XX hb)
  ·by_cases hb:b=a
   ·have z':=(XY hb).symm.trans z
    cases z'
    subst hb;exact⟨ha,by rw[XI];exact hl,vs,_,rv,ha⟩
   ·have z':=(XX hb).symm.trans z
    cases z'
  ·by_cases hb:b=a
   ·exact hb
   ·exact absurd (XX hb) z
set_option tactic.hygienic false
abbrev KOf {K:WY}{h:WU}(_:K.In h):WY:=K
def walk_of {l:W.OpenLaw}{n k:Nat}{q:WO}{loose:List Str}{XP:(Str->Option WQ)->WU->Prop}{YP:WN->WU->Prop}{d:DefRec}{K:Params->WY}{CX:WN->vF}{sp:WN->Sp}{x:Str}
  (hn:l.most=some n) (hn2:n<=sizeLine) (hdf:d.params.defaults=[]) (hr:Wv k callerA)
  (hY:∀(w:WN) (h:WU),YP w h->(K w.params).In h)
  (F:∀(w:WN) (mg:Str->Option WQ) (fa:WP) (h:WU),(K w.params).In h->h.Ns mainGlobals mg->mg d.name=some (.ref fa)->
   ∃fd:VZ,(∀(s:WR) (u:WQ),BindsTo s fd ⟨[u],[]⟩ [(x,u)])/\
    ∀base:WU,(K w.params).In base->base.Ns mainGlobals mg->U0 l.prog w (K w.params) mg base (CX w) k fa fd [x] (sp w))
  (hsp:∀(w:WN) (H:Hp) (a:WP) (ns:List Int),ns.length<=n->re H->J9 (K w.params) H a (ns.map V.int)->sp w [.ref a] H (λv _=>v=.bl true) λ_ _ _=>False)
  (hCX:∀(w:WN) (H:Hp) (s:WR) (e:WQ) (s':WR),CX w [] H s (λ_ _ _=>False) e s'->False):
  W.WalkO q loose XP YP l.row.toRowW d [] (λf vs=>PySem.call f vs):=by
 refine Att.attach_call hn hdf λw s₀ s₁ mg mb fa o pm cd doc a vs ns G Y ho hd hcd hmg hobj hints hlen hg=>?_;have KX:=hY w _ Y;obtain⟨fd,hb,hF⟩:=F w mg fa _ KX G.T.g hmg;exact tq KX G.T.g G.T.b G.T.builtins G.T.nolimit hg hobj hints (XN hlen hn2) hr hF hb (λH hO hS=>hsp w H a ns hlen hO hS) λH e s'=>hCX w H s₁ e s'
def walk_ofK {l:W.OpenLaw}{n k:Nat}{q:WO}{loose:List Str}{XP:(Str->Option WQ)->WU->Prop}{YP:WN->WU->Prop}{d:DefRec}{K:Params->WY}{CX:vF}{sp:WY->Sp}{x:Str}
  (hn:l.most=some n) (hn2:n<=sizeLine) (hdf:d.params.defaults=[]) (hr:Wv k callerA)
  (hY:∀(w:WN) (h:WU),YP w h->(K w.params).In h)
  (F:∀(w:WN) (mg:Str->Option WQ) (fa:WP) (h:WU),(K w.params).In h->h.Ns mainGlobals mg->mg d.name=some (.ref fa)->
   ∃fd:VZ,(∀(s:WR) (u:WQ),BindsTo s fd ⟨[u],[]⟩ [(x,u)])/\
    ∀base:WU,(K w.params).In base->base.Ns mainGlobals mg->U0 l.prog w (K w.params) mg base CX k fa fd [x] (sp (K w.params)))
  (hsp:∀(K:WY) (H:Hp) (a:WP) (ns:List Int),ns.length<=n->re H->J9 K H a (ns.map V.int)->sp K [.ref a] H (λv _=>v=.bl true) λ_ _ _=>False)
  (hCX:∀(H:Hp) (s:WR) (e:WQ) (s':WR),CX [] H s (λ_ _ _=>False) e s'->False):
  W.WalkO q loose XP YP l.row.toRowW d [] (λf vs=>PySem.call f vs):=
 walk_of (K:=K) (CX:=λ_=>CX) (sp:=λw=>sp (K w.params)) hn hn2 hdf hr hY F (λw H a ns h1 h2 h3=>hsp (K w.params) H a ns h1 h2 h3) λ_ H s e s'=>hCX H s e s'
end L2
/-THE LAST THEOREM (shape;LID,My.*are yours):
  My.Adr:a structure of the addresses that your layer names (classes,functions);My.Txt K t:a structure (Prop) of the equations over K;
  My.txt_mk:{K} {implicit addresses ..} (e1:nsIn K mainGlobals "law"=some (some (.ref f))) (e2:K.lookup f=some ⟨oc,od,.func (fnOf "law" "law" params body scope dV kV doc pm an cdv ct),sl⟩) (e3:codeIn K cdv "law"=true) ..:∃t,My.Txt K t
set_option maxRecDepth 100000 in
set_option maxHeartbeats 0 in
set_option tactic.hygienic true
def PySem.Challenge.cw_LID_holds:PySem.Challenge.rw_LID.Holds:=by
 w_on;o_law;k_head;(case hw=>w_witness2)
 k_fill
 refine L2.walk_of (l:=PySem.Challenge.rw_LID) (n:=63) (k:=40) (x:="script") (CX:=λw=>..) (sp:=λ_=>My.sp_law) FL (by decide) FL ⟨FL,by decide,by decide⟩ (λw h Y=>W.kIn_of Y) ?F ?S ?C
 case F=>
  intro w mg fa h KX G hmg;have T:∃t,My.Txt (L2.KOf KX) t:=by
   dsimp only[L2.KOf]--K must stand as «<heap const>w.params» for k_is
   refine' My.txt_mk ?e1 ?e2 ?e3 ..
   (case e1=>W.k_is)--in the order:a name->its address->its object->its parts
   (case e2=>W.k_is)
   ..
  obtain⟨t,T⟩:=T;have e0:=hmg.symm.trans (W.mg_of KX G T.law)
  cases e0--fa is the law's own address
  exact⟨_,λs u=>.of_eq FL,λbase kb nb=>My.law_fn T kb nb⟩--if «.of_eq rfl» comes too early:refine' ⟨_,?b,λbase kb nb=>My.law_fn T kb nb⟩;exact λs u=>.of_eq FL
 case S=>exact λw H a ns hl hO hS=>..
 case C=>exact ..
(the tactic k_is has no namespace:write k_is)-/
set_option tactic.hygienic false
namespace L2
open PySem PySem.Spec PyProof.Rows
def Rm (s:WV)(j:Nat):WV:=match s with
 | .ClassDef _ _ _ body _ _ _ _ _ _ _=>body.getD j (.Pass ⟨0,0,0,0⟩)
 | _=>.Pass ⟨0,0,0,0⟩
def Rw (s:WV):Arguments:=match s with
 | .FunctionDef _ a _ _ _ _ _ _ _ _=>a
 | _=>{posonlyargs:=[],args:=[],vararg:=none,kwonlyargs:=[],kw_defaults:=[],kwarg:=none,defaults:=[]}
def Vm (s:WV):List WV:=match s with
 | .FunctionDef _ _ b _ _ _ _ _ _ _=>b
 | _=>[]
def Zq (s:WV):Scope:=match s with
 | .FunctionDef _ _ _ _ _ _ sc _ _ _=>sc
 | _=>{kind:=.function,names:=[],isGenerator:=false,isCoroutine:=false}
abbrev CX0:vF:=λ_ _ _ _ _ _=>False
abbrev E0:XK:=λ_ _ _=>False
def jO:Ed CX0 X E0:=λ_ _ _ _ _ _ _ h=>h.elim
structure j8 (K:W.Frag)(x qual:Str)(st:Stmt)(f:Addr)(fd:FuncData):Prop where
 ex:∃(oc:WQ) (od:Option WP) (kV doc pm:WQ) (an:Option WP) (cdv ct:WQ) (osl:Array (Option WQ)),
  fd=W.fnOf x qual (Rw st) (Vm st) (Zq st) .none kV doc pm an cdv ct/\K.lookup f=some ⟨oc,od,.func fd,osl⟩/\W.codeIn K cdv qual=true
 kp:W.keepIn K (.ref f)=true
section
variable {P:WO}{w:WN}{K:WY}{mg:Str->Option WQ}{base:WU}
def j8.ok {st:WV}{f:WP}{k:Nat}{sp:Sp}(F:j8 K x qual st f fd)(S:Z2 N ps (Zq st))(len:∀vs H Q E,sp vs H Q E->vs.length=ps.length)
  (hbody:∀(cdv:WQ) (A:WM) (outer:List Env) (s:WR) (H:Hp) (vs:List V) (Q:VK) (E:XK),Wv k (A.deeper (envOfC qual (Zq st) s.heap.objs.size f cdv))->sp vs H Q E->
   ∃t,xD (ym CX0 P w K mg base N qual (Zq st) f cdv A outer s H E).nox (Vm st) t/\t {nx:=λ_ H'=>Q .non H',rt:=Q} (start N vs) H):U0 P w K mg base CX0 (k+1) f fd ps sp:=by
 obtain⟨oc,od,kV,doc,pm,an,cdv,ct,osl,rfl,lk,hcd⟩:=F.ex;refine gQ lk hcd S len λA outer s H vs Q E hr hsp=>?_;obtain⟨t,h,q⟩:=hbody cdv A outer s H vs Q E hr hsp;exact⟨t,h.nox,q⟩
def j8.binds {st:WV}{f:WP}{ps:List Str}(F:j8 K x qual st f fd)
  (h:∀(kV doc pm:WQ) (an:Option WP) (cdv ct:WQ) (us:List WQ),us.length=ps.length->bindArgs (W.fnOf x qual (Rw st) (Vm st) (Zq st) .none kV doc pm an cdv ct) ⟨us,[]⟩=pure (ps.zip us)):Wz K fd ps []:=by
 obtain⟨oc,od,kV,doc,pm,an,cdv,ct,osl,rfl,lk,hcd⟩:=F.ex;exact .all (h kV doc pm an cdv ct)
def lY {st:WV}{f:WP}{oc:WQ}{od an:Option WP}{osl:Array (Option WQ)}{kV doc pm cdv ct:WQ}(l:K.lookup f=some ⟨oc,od,.func (W.fnOf x qual (Rw st) (Vm st) (Zq st) .none kV doc pm an cdv ct),osl⟩)
  (c:W.codeIn K cdv qual=true) (k:W.keepIn K (.ref f)=true):j8 K x qual st f (W.fnOf x qual (Rw st) (Vm st) (Zq st) .none kV doc pm an cdv ct):=⟨⟨oc,od,kV,doc,pm,an,cdv,ct,osl,FL,l,c⟩,k⟩
end
def Nh {n:Nat}(h:n<=1000):n<sizeLine:=EI h (by decide)
section
variable {X:Cx}
end
def aD (H H':Hp):Prop:=∀b o,H b=some o->H' b=some o
section
variable {X:Cx}
def Mv (cap:List (Option Nat))(σ:St):St:=cap.map λo=>o.bind λi=>(σ[i]?).join
def Y2 (X:Cx)(cN:List Str)(scope:Scope)(cl:List (Str×WP))(fp:List WP)(s:WR)(H:Hp):Cx:=
 {X with N:=cN,s₀:=s,H₀:=H,env:=compEnvC scope cl s.heap.objs.size X.env,outer:=X.stack,ex:=fp,fn:=λ_=>false,pn:=[],xe:=λ_ _=>False}
def va (X:Cx)(ifs:List WW)(c:TT):Prop:=
 ∀(WZ:List (WP×Obj)) (s:WR) (σ:St) (H:Hp) (Q:Bool->Hp->Prop),Zy X WZ σ H s->c σ H Q->
  wpAny (model X.prog X.w) X.A (forIn ifs true λc r=>if r=true then do let ok <-isTrue c X.env (eval c X.env);pure (ForInStep.yield ok) else pure (ForInStep.yield r)) (TP X WZ σ Q) X.xe s
def iA:TT:=λ_ H Q=>Q true H
def qr:va X [] iA:=λ_ _ _ H _ I h=>wpAny_tests_nil ⟨H,I,h⟩
def qq (h:PT X e t):va X [e] t:=λWZ s σ H Q I q=>wpAny_tests_one (h WZ s σ H Q I q)
def D9 (js:List Nat)(g:TG):Prop:=∀x σ H Q,g x σ H Q->g x σ H λσ' H'=>Q σ' H'/\σ'.length=σ.length/\∀i,i∉js->σ'[i]?=σ[i]?
def Aw (js:List Nat)(g:y7):Prop:=∀x σ H Q,g x σ H Q->g x σ H λσ' H'=>Q σ' H'/\σ'.length=σ.length/\∀i,i∉js->σ'[i]?=σ[i]?
def Jb {i:Nat}:D9 [i] (Xc i):=λx σ H Q h=>⟨h,by simp,λj hj=>by
 rw[CT];intro e;exact hj (by simp[e])⟩
def Ac:Aw [] ya:=λx σ H Q h=>⟨h.1,h.2,FL,λ_ _=>rfl⟩
def Mx (g:TG):Prop:=∀x σ H (Q Q':St->Hp->Prop),(∀σ' H',Q σ' H'->Q' σ' H')->g x σ H Q->g x σ H Q'
def Ks (g:y7):Prop:=∀x σ H (Q Q':St->Hp->Prop),(∀σ' H',Q σ' H'->Q' σ' H')->g x σ H Q->g x σ H Q'
def Yf:Mx (Xc i):=λx σ H Q Q' h q=>h _ _ q
def Vc:Ks ya:=λx σ H Q Q' h q=>⟨q.1,h _ _ q.2⟩
def J8 (a:Mx g)(b:Ks u):Ks (Sb g u):=λx σ H Q Q' h q=>by
 obtain⟨v,r,e,q⟩:=q;exact⟨v,r,e,a _ _ _ _ _ (λσ' H' z=>b _ _ _ _ _ h z) q⟩
def Ub (a:D9 js g)(am:Mx g)(b:Aw ks u)(bm:Ks u):Aw (js++ks) (Sb g u):=λx σ H Q q=>by
 obtain⟨v,r,e,q⟩:=q;refine⟨v,r,e,am _ _ _ _ _ (λσ' H' z=>?_) (a _ _ _ _ q)⟩;obtain⟨z,l1,k1⟩:=z;refine bm _ _ _ _ _ (λσ2 H2 z2=>?_) (b _ _ _ _ z);obtain⟨z2,l2,k2⟩:=z2;exact⟨z2,l2.trans l1,λi hi=>(k2 i λz=>hi (XT _ z)).trans (k1 i λz=>hi (BI _ z))⟩
def Ab {K:WY}(b:Aw js u):D9 js (zZ K n u):=λx σ H Q q=>by
 obtain⟨a,xs,e,hq,hl,q⟩:=q;exact⟨a,xs,e,hq,hl,b _ _ _ _ q⟩
def bM (cap:List (Option Nat))(g:TG)(c:TT)(te:TE)(σ:St)(Q:WP->Hp->Prop)(J:It)(H1:Hp):Prop:=∀p,H1 p=none->∃W:Nat->Nat->Hp->Prop,(∃m,W 0 m (Yz H1 p (.lst [])))/\∀i m H,W i m H->
 (J.stop i H/\Q p H)\/(J.go i H/\∃N:Hp->Prop,(∀H',N H'->∃m',m'<m/\W (i+1) m' H')/\∀x H',J.yld i H x H'->g x (Mv cap σ) H' λσ2 H2=>c σ2 H2 λb H3=>
  if b=true then te σ2 H3 λv H4=>∃xs,H4 p=some (.lst xs)/\xs.length<sizeLine/\N (Yz H4 p (.lst (xs++[v]))) else N H3)
def Ct (cap:List (Option Nat))(wi:TI)(g:TG)(c:TT)(te:TE):St->Hp->(WP->Hp->Prop)->Prop:=λσ H Q=>wi σ H λJ H1=>bM cap g c te σ Q J H1
structure Ef (X:Cx)(cN:List Str)(cap:List (Option Nat))(scope:Scope)(cl:List (Str×Addr)):Prop where
 clos:closureFor scope X.env=pure cl
 sub:∀n a,cl.lookup n=some a->X.env.cells.lookup n=some a
 cell:∀y∈scope.names,y.2≠.cell
 kind:scope.kind=.function
 names:∀x∈scope.names,x.2=.local->scope.names.lookup x.1=some .local
 len:cap.length=cN.length
 has:∀x,((relabel scope X.env).names.lookup x=some .cell\/(relabel scope X.env).names.lookup x=some .free)->∃a,cl.lookup x=some a
 capd:∀(i j:Nat) (x:Str),cap[i]?=some (some j)->cN[i]?=some x->X.N[j]?=some x/\fS X.env.scope x/\X.env.scope.names.lookup x≠some .local/\((relabel scope X.env).names.lookup x=some .cell\/(relabel scope X.env).names.lookup x=some .free)
def sE:(Mv cap σ).length=cap.length:=XI _
def yq {i:Nat}(h:(Mv cap σ)[i]?=some (some v)):∃j,cap[i]?=some (some j)/\σ[j]?=some (some v):=by
 unfold Mv at h;rw[XM] at h
 cases e:cap[i]? with
 | none=>rw[e] at h;cases h
 | some o=>
  rw[e] at h
  cases o with
  | none=>cases h
  | some j=>
   refine⟨j,FL,?_⟩;simp only[Option.map_some,Option.bind_some,Option.some.injEq] at h
   cases q:σ[j]? with
   | none=>rw[q] at h;cases h
   | some u=>rw[q] at h;simp only[Option.join_some] at h;rw[h]
def jq {cN:List Str}{cap:List (Option Nat)}{scope:Scope}{cl:List (Str×WP)}{fp:List WP}{WZ:List (WP×Obj)}{σ:St}{H:Hp}{s:WR}{h':WU}{m:Str->Option WQ}{tk:Nat}
  (C:Ef X cN cap scope cl) (I:Zy X WZ σ H s) (f:∀b∈fp,M3 X WZ H b) (fl:∀b∈fp,b<s.heap.objs.size) (hn:h'.Ns s.heap.objs.size m) (k:∀b o,s.heap.get? b=some o->h'.get? b=some o):
  Zy (Y2 X cN scope cl fp s H) [] (Mv cap σ) H {s with heap:=h',toks:=tk}:=by
 have hfs:∀b∈fp,b∉wG X.stack:=λb hb z=>by
  rcases BC.mp (I.stkSub b z) with e | z
  ·exact(f b hb).2.1 e
  ·exact(f b hb).2.2.1 z
 have hcl:∀x c,cl.lookup x=some c->∃v,s.heap.IsCell c v:=λx c e=>I.cell x c (C.sub x c e);refine⟨⟨I.ok.mod,?_,I.ok.glob,I.ok.blt,XE _,λx y c e1 e2=>I.ok.inj x y c (C.sub x c e1) (C.sub y c e2),C.has,λ_ _ z=>(nomatch z),I.ok.hd,I.ok.frames,.inl FL,λb hb=>⟨XH (fl b hb),λx c e=>(f b hb).2.2.2.2.1 x c (C.sub x c e)⟩,
   I.bs,Nat.le_trans I.ok.bsz I.sz,λb o e z=>?_,hfs,I.stack,I.stkFree⟩,FL,I.bare,Un.kept k,⟨m,hn,λi x v h1 h2 h3=>?_⟩,λx c e=>?_,I.fresh,λx c e=>I.freeC x c (C.sub x c e),λp hp=>absurd hp (by simp[Y2]),I.hok.kept k,?_⟩
 ·exact C.kind
 ·rcases (f b z).2.2.2.1 with q | q
  ·exact I.ok.noex b o e q
  ·exact absurd (XG (XD (I.ok.bs b o e).1) q) (BL _)
 ·obtain⟨j,hj,hσ⟩:=yq h2;obtain⟨n1,n2,n3,n4⟩:=C.capd i j x hj h1;obtain⟨mo,hno,hlo⟩:=I.loc;obtain⟨u,ru,lk⟩:=hlo j x v n1 hσ n2;refine⟨u,ru,?_⟩
  rcases lk with⟨k1,_⟩ | ⟨_,c,e,z⟩
  ·exact absurd k1 n3
  ·obtain⟨a,ha⟩:=C.has x n4;have ea:=C.sub x a ha;rw[e] at ea;cases ea;obtain⟨o,ho,hd⟩:=z;exact .inr ⟨n4,c,ha,⟨o,k _ _ ho,hd⟩⟩
 ·obtain⟨v,o,ho,hd⟩:=hcl x c e;exact⟨v,o,k _ _ ho,hd⟩
 ·show(Mv cap σ).length=cN.length;rw[sE,C.len]
def yo {cN:List Str}{scope:Scope}{cl:List (Str×WP)}{fp:List WP}{WZ pins':List (WP×Obj)}{σ σ':St}{H H':Hp}{s s':WR}{h':WU}
  (I:Zy X WZ σ H s) (f:∀b∈fp,M3 X WZ H b) (J:Zy (Y2 X cN scope cl fp s H) pins' σ' H' s') (sb:Heap.SameBut s.heap.objs.size s'.heap h'):Zy X WZ σ H' {s' with heap:=h'}:=by
 have ne:∀b o,s.heap.get? b=some o->b≠s.heap.objs.size:=λb o e=>XH (XD e);have B:Un (wG X.stack) fp H H' s.heap s'.heap:=J.base;refine I.call' (s':={s' with heap:=h'}) (ch:=fp) J.os ⟨λb o e n hb hx=>?_,λb o e n hb hx=>?_,B.free,λb o e hx=>?_,B.tups,B.frzs,B.tbls⟩ (λb o e=>?_) J.bare λb hb=>?_
 ·exact(sb.2 b (ne b o e)).trans (B.keep b o e n hb hx)
 ·obtain⟨sl,q⟩:=B.slot b o e n hb hx;exact⟨sl,(sb.2 b (ne b o e)).trans q⟩
 ·obtain⟨o',q⟩:=B.there b o e hx;exact⟨o',(sb.2 b (ne b o e)).trans q⟩
 ·have hf:H' s.heap.objs.size=none:=J.free;refine(J.hok b o e).stay (λc w' hc q=>(sb.2 c ?_).trans q) (λ_ q=>q) λ_ _ q=>q;rintro rfl
  rcases hc with rfl | hc
  ·rw[hf] at e;cases e
  ·rw[hf] at hc;cases hc
 ·obtain⟨f0,f1,f2,f3,f4,f5⟩:=f b hb;exact⟨f3,f1,f4,f5⟩
def Ce {α:Type}{t:Sem α}{Q:α->WR->Prop}{E:WQ->WR->Prop}(h:wpAny M A t Q (λ_ _=>False) s):wpAny M A t Q E s:=wpAny_mono h (λ_ _ q=>q) λ_ _ f=>f.elim
set_option tactic.hygienic true
def wM {tg iter elt:WW}{ifs:List WW}{scope:Scope}{pos:Pos}{cN:List Str}{cap:List (Option Nat)}{cl:List (Str×WP)}{js:List Nat}{g:TG}{c:TT}{te:TE}{fp:List WP}{it D:WP}{tn:Nat->WU->Prop}{J:It}
  {σ:St} {H:Hp} {s s':WR} {Q:WP->Hp->Prop} {R:Result->WR->Prop} {H₀:Hp} (X:Cx)
  (hc:X.calm=true) (hg:PG (Y2 X cN scope cl fp s H₀) tg g) (gm:Mx g) (gk:D9 js g) (hjs:∀j∈js,(cap[j]?).join=none) (ht:va (Y2 X cN scope cl fp s H₀) ifs c) (tm:∀σ H (Q Q':Bool->Hp->Prop),(∀b H',Q b H'->Q' b H')->c σ H Q->c σ H Q') (he:PE (Y2 X cN scope cl fp s H₀) elt te)
  (T:Eb X.prog X.w X.K tg J fp it tn) (W:Nat->Nat->Hp->Prop)
  (turn:∀i m H,W i m H->(J.stop i H/\Q D H)\/(J.go i H/\∃N:Hp->Prop,(∀H',N H'->∃m',m'<m/\W (i+1) m' H')/\∀x H',J.yld i H x H'->g x (Mv cap σ) H' λσ2 H2=>c σ2 H2 λb H3=>
   if b=true then te σ2 H3 λv H4=>∃xs,H4 D=some (.lst xs)/\xs.length<sizeLine/\N (Yz H4 D (.lst (xs++[v]))) else N H3))
  (m:Nat) (w0:W 0 m H) (I:Zy (Y2 X cN scope cl fp s H₀) [] (Mv cap σ) H s') (st:tn 0 s'.heap) (f:∀b∈fp,M3 (Y2 X cN scope cl fp s H₀) [] H b)
  (hR:∀σ' H' s',Zy (Y2 X cN scope cl fp s H₀) [] σ' H' s'->Q D H'->R (.ok .next) s'):
  codeAny (model X.prog X.w) X.A (.compLoop (.ListComp elt [⟨tg,iter,ifs,0⟩] scope pos) 0 (.ref it) (.ref D) (Y2 X cN scope cl fp s H₀).env) R s':=by
 have stat:∀{H':Hp},(∀b∈fp,H' b=none)->∀b∈fp,M3 (Y2 X cN scope cl fp s H₀) [] H' b:=λhn b hb=>⟨hn b hb,(f b hb).2⟩;refine codeAny_loop FL (λn s'=>∃i H',Zy (Y2 X cN scope cl fp s H₀) [] (Mv cap σ) H' s'/\tn i s'.heap/\(∀b∈fp,H' b=none)/\W i n H') ?_ m ⟨0,H,I,st,λb hb=>(f b hb).1,w0⟩;rintro n s3 ⟨i,H3,I3,st3,fr3,w3⟩;show wpAny _ X.A ((compTurn (.ListComp elt [⟨tg,iter,ifs,0⟩] scope pos) 0 (.ref it) (.ref D) (Y2 X cN scope cl fp s H₀).env).onRaise (λx=>do noteFrame x (Y2 X cN scope cl fp s H₀).env;theTreesLotGoes x)) _ _ s3;refine wpAny_noted (Ce ?_);rw[compTurn_list];refine XA (wpAny_standAt (XA ?_))
 rcases turn i n H3 w3 with⟨stop,qn⟩ | ⟨go,N,hN,step⟩
 ·refine Jy (T.done (Y2 X cN scope cl fp s H₀) FL FL FL hc i [] s3 _ H3 _ I3 (stat fr3) st3 stop) λr s4 ⟨hr,I4⟩=>?_;subst hr;exact XB (hR _ _ _ I4 qn)
 ·refine Jy (T.item (Y2 X cN scope cl fp s H₀) FL FL FL hc i [] s3 _ H3 _ I3 (stat fr3) st3 go) λr s4 ⟨u,hr,h4⟩=>?_;subst hr;refine XA (Jy h4 λ_ s5 ⟨x,H5,I5,r5,y5,st5,fr5⟩=>?_);have I5':=I5.pinned (stat fr5) (T.obj _ _ st5);refine XA (Jy (hg _ s5 _ H5 x u _ I5' r5 (gk _ _ _ _ (step x H5 y5))) λ_ s6 ⟨σ6,H6,I6,q6,l6,k6⟩=>?_);have back:∀{H7:Hp} {s7:WR},Zy (Y2 X cN scope cl fp s H₀) ([]++Gw fp s5.heap) σ6 H7 s7->N H7->∃m,m<n/\∃i H',Zy (Y2 X cN scope cl fp s H₀) [] (Mv cap σ) H' s7/\tn i s7.heap/\(∀b∈fp,H' b=none)/\W i m H':=λ{H7 s7} I7 n7=>by
   obtain⟨m',hm,w7⟩:=hN H7 n7;refine⟨m',hm,i+1,H7,I7.unpinned.weak l6.symm λj v hj=>?_,T.keep _ _ _ st5 λb hb o e=>(I7.pin (b,o) (XT _ (XT _ (Rk hb e)))).1,λb hb=>?_,w7⟩
   ·by_cases hjj:j∈js
    ·obtain⟨z,hz,_⟩:=yq hj;have:=hjs j hjj;rw[hz] at this;cases this
    ·rw[k6 j hjj];exact hj
   ·obtain⟨o,e,d⟩:=T.obj _ _ st5 b hb;exact(I7.pin (b,o) (XT _ (XT _ (Rk hb e)))).2.1
  refine XA (Jy (ht _ s6 σ6 H6 _ I6 q6) λb s7 ⟨H7,I7,q7⟩=>?_)
  cases b with
  | false=>
   rw[XX YJ] at q7;exact XB ⟨FL,back I7 q7⟩
  | true=>
   rw[XY rfl] at q7;refine XA (XA (Jy (he _ s7 σ6 H7 _ I7 q7) λy s8 ⟨v,H8,I8,r8,xs,e8,z8,n8⟩=>?_));refine XA (Jy (Dj _ s8 σ6 H8 (.ref D) [v] (.ref D) [y] (λ_ H9=>N H9) I8 FL (.cons r8 .nil) ⟨D,xs,v,FL,FL,e8,z8,n8⟩) λ_ s9 ⟨_,H9,I9,_,q9⟩=>?_);exact XB (XB ⟨FL,back I9 q9⟩)
set_option tactic.hygienic false
section
variable {X:Cx}{tg iter elt:WW}{ifs:List WW}{scope:Scope}{pos:Pos}{cN:List Str}{cap:List (Option Nat)}{cl:List (Str×WP)}{js:List Nat}{wi:TI}{g:TG}{c:TT}{te:TE}
structure yz (X:Cx)(tg iter elt:Expr)(ifs:List Expr)(scope:Scope)(cN:List Str)(cap:List (Option Nat))(cl:List (Str×Addr))(js:List Nat)(wi:TI)(g:TG)(c:TT)(te:TE):Prop where
 calm:X.calm=true
 ok:X.Ok->Ef X cN cap scope cl
 it:PI X tg iter wi
 tgt:∀fp s H,PG (Y2 X cN scope cl fp s H) tg g
 gm:Mx g
 gk:D9 js g
 js0:∀j∈js,(cap[j]?).join=none
 ts:∀fp s H,va (Y2 X cN scope cl fp s H) ifs c
 tm:∀σ H (Q Q':Bool->Hp->Prop),(∀b H',Q b H'->Q' b H')->c σ H Q->c σ H Q'
 el:∀fp s H,PE (Y2 X cN scope cl fp s H) elt te
 fold:∀x,foldedSetIterable iter X.env x=pure x
set_option tactic.hygienic true
def Fw {Q:WP->Hp->Prop}{RR:WQ->WP->Result->WR->Prop}(C:yz X tg iter elt ifs scope cN cap cl js wi g c te)(I:Zy X WZ σ H s)(h:Ct cap wi g c te σ H Q)
  (hRR:∀(D:WP) (fp:List WP) (s3:WR) (H3:Hp) (σ':St) (H':Hp) (s':WR),Zy X WZ σ H3 s3->(∀b∈fp,M3 X WZ H3 b)->Zy (Y2 X cN scope cl fp s3 H3) [] σ' H' s'->Q D H'->RR (.ref D) s3.heap.objs.size (.ok .next) s'):
  wpAny (model X.prog X.w) X.A (eval iter X.env) (λx s₁=>wpAny (model X.prog X.w) X.A (pyIter x) (λit s₂=>wpAny (model X.prog X.w) X.A (newList []) (λacc s₃=>
   wpAny (model X.prog X.w) X.A (newFunctionEnv scope X.env.globals cl [] X.env.qual none .none (some X.env)) (λcenv s₄=>
    codeAny (model X.prog X.w) X.A (.compStart (.ListComp elt [⟨tg,iter,ifs,0⟩] scope pos) 0 it acc {cenv with scope:=relabel scope X.env}) (RR acc cenv.locals) s₄) X.xe s₃) X.xe s₂) X.xe s₁) X.xe s:=by
 refine Jy (C.it WZ s σ H _ I h) λv s1 h1=>Jy h1 λitv s2 h2=>?_;obtain⟨it,fp,tn,J,H2,e,I2,T,st2,f2,R2⟩:=h2;subst e;obtain⟨W,⟨m,w0⟩,turn⟩:=R2 s2.heap.objs.size I2.fresh;have I3:Zy X WZ σ (Yz H2 s2.heap.objs.size (.lst [])) {s2 with heap:=s2.heap.push {cls:=.type "list",data:=.seq ([]:List WQ).toArray},toks:=s2.toks}:=I2.lnew (ys:=[]) (its:=[]) .nil (XO _);have fl:∀b∈fp,b<s2.heap.objs.size:=λb hb=>by
  obtain⟨o,e,_⟩:=T.obj _ _ st2 b hb;exact XD e
 have f3:∀b∈fp,M3 X WZ (Yz H2 s2.heap.objs.size (.lst [])) b:=λb hb=>⟨by rw[Zt (XH (fl b hb))];exact(f2 b hb).1,(f2 b hb).2⟩;refine wpAny_newObj_type (wpAny_newFunctionEnv (C.ok I.ok).cell (by intro y hy;simp at hy) (λh₁ hns₁ hsb₁=>?_) (C.ok I.ok).kind);dsimp only at hns₁ hsb₁ |-;generalize hs3:({s2 with heap:=s2.heap.push {cls:=.type "list",data:=.seq ([]:List WQ).toArray},toks:=s2.toks}:WR)=s3 at I3;have hh3:s3.heap=s2.heap.push {cls:=.type "list",data:=.seq ([]:List WQ).toArray}:=by rw[<-hs3]
 rw[<-hh3] at hns₁ hsb₁ |-;have fl3:∀b∈fp,b<s3.heap.objs.size:=λb hb=>by rw[hh3,BY];exact BX (fl b hb)
 have k1:∀b o,s3.heap.get? b=some o->h₁.get? b=some o:=λb o e=>(hsb₁.2 b (XH (XD e))).trans (XC _ e);have I4:=jq (tk:=s2.toks+([]:List (Str×WQ)).length) (C.ok I.ok) I3 f3 fl3 hns₁ k1;have e4:({s3 with heap:=h₁,toks:=s2.toks+([]:List (Str×WQ)).length}:WR)={s2 with heap:=h₁,toks:=s2.toks+([]:List (Str×WQ)).length}:=by rw[<-hs3]
 rw[e4] at I4;have st4:tn 0 h₁:=T.keep _ _ _ st2 λb hb o e=>k1 b o (by rw[hh3];exact XC _ e);have f4:∀b∈fp,M3 (Y2 X cN scope cl fp s3 (Yz H2 s2.heap.objs.size (.lst []))) [] (Yz H2 s2.heap.objs.size (.lst [])) b:=λb hb=>by
  obtain⟨g0,g1,g2,g3,g4,g5⟩:=f3 b hb;refine⟨g0,Nat.ne_of_lt (fl3 b hb),λz=>?_,.inl hb,λx c e=>g4 x c ((C.ok I.ok).sub x c e),λp hp=>absurd hp (by simp[Y2])⟩
  rcases BC.mp (I3.stkSub b z) with e | z
  ·exact g1 e
  ·exact g2 z
 have loop:codeAny (model X.prog X.w) X.A (.compLoop (.ListComp elt [⟨tg,iter,ifs,0⟩] scope pos) 0 (.ref it) (.ref s2.heap.objs.size) (Y2 X cN scope cl fp s3 (Yz H2 s2.heap.objs.size (.lst []))).env) (RR (.ref s2.heap.objs.size) s3.heap.objs.size)
   {s2 with heap:=h₁,toks:=s2.toks+([]:List (Str×WQ)).length}:=
  wM X C.calm (C.tgt _ _ _) C.gm C.gk C.js0 (C.ts _ _ _) C.tm (C.el _ _ _) T W turn m w0 I4 st4 f4 λσ' H' s' I' q=>hRR _ fp s3 _ σ' H' s' I3 f3 I' q
 exact codeAny_compStart_list loop (T.self _ 0 _ _ _ st4 loop)
set_option tactic.hygienic false
def iL (cap:List (Option Nat))(wi:TI)(g:TG)(c:TT)(te:TE):TE:=λσ H Q=>Ct cap wi g c te σ H λp H'=>Q (.ref p) H'
def qx (C:yz X tg iter elt ifs scope cN cap cl js wi g c te):PE X (.ListComp elt [⟨tg,iter,ifs,0⟩] scope pos) (iL cap wi g c te):=by
 intro WZ s σ H Q I h;rw[eval_ListComp];refine wpAny_comprehension_free (use:=none) FL C.fold (C.ok I.ok).clos (C.ok I.ok).kind (C.ok I.ok).names (Fw (RR:=λacc C'=>compPost (model X.prog X.w) X.A X.xe none (EP X WZ σ Q) acc C') C I h ?_);intro D fp s3 H3 σ' H' s' I3 f3 J q;obtain⟨m,hn,_⟩:=J.loc;exact⟨m,hn,λh' sb=>⟨.ref D,H',yo I3 f3 J sb,FL,q⟩⟩
def uf (i:Nat)(cap:List (Option Nat))(wi:TI)(g:TG)(c:TT)(te:TE):TS:=λD σ H=>Ct cap wi g c te σ H λp H'=>D.nx (σ.set i (some (.ref p))) H'
set_option tactic.hygienic true
def yP {i:Nat}{py spos:Pos}(hN:X.N.Nodup)(hi:X.N[i]?=some y)(hy:X.env.scope.names.lookup y=some .local)
  (hsw:swapsWith (.ListComp elt [⟨tg,iter,ifs,0⟩] scope pos) (some (.Name y py)) spos.line X.env=pure true)
  (C:yz X tg iter elt ifs scope cN cap cl js wi g c te):PS X (.Assign [.Name y py] (.ListComp elt [⟨tg,iter,ifs,0⟩] scope pos) spos) (uf i cap wi g c te):=by
 intro WZ s σ H D I h;rw[exec_Assign_Name_used _ _ _ _ hsw];refine XA (wpAny_standAt (XA ?_));show wpAny _ X.A (do let _ <-comprehension (.ListComp elt [⟨tg,iter,ifs,0⟩] scope pos) scope X.env _ (newList []) false (eval iter X.env) (some (assign (.Name y py) X.env))) _ _ s;refine XA (wpAny_mono (wpAny_comprehension_free (use:=some (assign (.Name y py) X.env)) (Q:=λ_ s'=>SP X WZ D .next s') FL C.fold (C.ok I.ok).clos (C.ok I.ok).kind (C.ok I.ok).names
  (Fw (RR:=λacc C'=>compPost (model X.prog X.w) X.A X.xe (some (assign (.Name y py) X.env)) (λ_ s'=>SP X WZ D .next s') acc C') C I h ?_)) (λ_ s' hq=>XB (XB hq)) λ_ _ e=>e)
 intro D' fp s3 H3 σ' H' s' I3 f3 J q;obtain⟨m,hn,_⟩:=id J.loc;have I4:Zy X WZ σ H' s':=yo I3 f3 J (Heap.SameBut.refl ..);show wpAny _ X.A (assign (.Name y py) X.env (.ref D')) _ _ _;refine wpAny_assign_Name (Db (v:=.ref D') I4 hN hi (.inl hy) FL (λs5 I5 hch=>?_) (.inr hy));obtain⟨a,sb,ha⟩:=hch;have hf:H' s3.heap.objs.size=none:=J.free;have hCL:s3.heap.objs.size≠X.env.locals:=CJ I3.lt;have hcells:∀x c,X.env.cells.lookup x=some c->c≠s3.heap.objs.size:=λx c e=>by
  obtain⟨v,o,ho,_⟩:=I3.cell x c e;exact XH (XD ho)
 have haC:s3.heap.objs.size≠a:=by
  rcases ha with z | z
  ·rw[z];exact hCL
  ·exact Ne.symm (hcells _ _ z)
 refine⟨m,hn.sameBut sb haC,λh6 sb6=>⟨_,H',?_,q⟩⟩;exact I5.turned (h':=h6) (t':=s5.toks) (λb o hb e=>(sb6.2 b hb).trans e) hf hCL (.inr I3.sz) (λx c e=>hcells x c e) λp hp z=>by
  have:=XD (I3.pin p hp).1;rw[z] at this;exact BL _ this
set_option tactic.hygienic false
end
end
def fW (z:Str):It:=⟨λi _=>i<z.cps.size,λi H x H'=>H'=H/\∃c,z.cps[i]?=some c/\x=.str ⟨#[c]⟩,λi _=>i=z.cps.size⟩
def Gh {P:WO}{w:WN}{K:WY}{tg:WW}{it:WP}{z:Str}{t:Tok}(hty:["enumerate","zip","dict_itemiterator","dict_reverseitemiterator","odict_iterator","itertools.zip_longest","itertools.pairwise"].contains ty=false)
  (W:∀A:WM,A.handled=none->Walks P w A it [it] [it] z.cps.size (SignAt z) (λi h=>h.IsStrIter it ty z t i))
  (self:∀(A:WM) (i:Nat) (s:WR) (Q:WQ->WR->Prop) (E:WQ->WR->Prop),s.heap.IsStrIter it ty z t i->Q (.ref it) s->wpAny (model P w) A (pyIter (.ref it)) Q E s):
  Eb P w K tg (fW z) [it] it (λi h=>h.IsStrIter it ty z t i) where
 mem:=by simp
 obj:=λi h st b hb=>by
  have e:b=it:=by simpa using hb
  subst e;obtain⟨o,e,c,d⟩:=st;exact⟨o,e,λv z=>by rw[d] at z;cases z⟩
 keep:=λi h h' st k=>let ⟨o,e,r⟩:=st;⟨o,k it (by simp) o e,r⟩
 item:=by
  intro X hP hw hK hc i WZ s σ H E I hf st hg;subst hP hw hK;obtain⟨f0,f1,f2,f3,f4,f5⟩:=hf it (by simp);refine(W X.A (I.ok.hd hc)).item i s _ _ hg st λv h' tk hv st' kk=>?_;obtain⟨c,u,hcp,rfl⟩:=hv;have I1:Zy X WZ σ H {s with heap:=h',toks:=tk}:=I.turned (λb o hb e=>kk b o (by simpa using hb) e) f0 f1 f3 f4 f5;obtain⟨o,e,c',d⟩:=id st';exact⟨_,FL,zX (s:={s with heap:=h',toks:=tk}) e c' d hty ⟨.str ⟨#[c]⟩,H,I1,⟨u,FL⟩,⟨FL,c,hcp,FL⟩,st',λb hb=>(hf b hb).1⟩⟩
 done:=by
  intro X hP hw hK hc i WZ s σ H E I hf st hg;subst hP hw hK;obtain⟨f0,f1,f2,f3,f4,f5⟩:=hf it (by simp);have e:i=z.cps.size:=hg;subst e;exact(W X.A (I.ok.hd hc)).done s _ _ st λh' tk kk=>⟨FL,I.turned (λb o hb e=>kk b o (by simpa using hb) e) f0 f1 f3 f4 f5⟩
 self:=self
section
variable {X:Cx}{tg:WW}
end
section
variable {X:Cx}{elts:List WW}{ek:Nat}{epos:Pos}
end
section
variable {X:Cx}
def md (K:WY):R2:=λx y H Q=>∃a b ys,x=.ref a/\y=.ref b/\Uz K H a []/\Uz K H b ys/\Q (.ref b) H
def uO:Kt X (binaryOp .Add) (md X.K):=by
 intro WZ s σ H x y v u Q I rx ry h;obtain⟨a,b,ys,rfl,rfl,ha,hb,q⟩:=h
 cases rx
 cases ry
 obtain⟨its,r1,p1,_⟩:=I.tuple ha;obtain⟨its2,r2,p2,_⟩:=I.tuple hb
 cases r1
 obtain⟨⟨cls,dd,data,sl⟩,ho,hc,n,hd⟩:=id p1;obtain⟨⟨cls2,dd2,data2,sl2⟩,ho2,hc2,n2,hd2⟩:=id p2;simp only at hc hd hc2 hd2;subst hc hd hc2 hd2;exact concat_meets ⟨_,ho,FL⟩ ⟨_,ho2,FL⟩ noFill_tuple_add seq_tuple_add ES EM (EH _ _)
  (tuple_addW0 a b _ _ n n2 dd dd2 sl sl2 (by simp)) ⟨ho,ho2,⟨.ref b,H,I,FL,q⟩⟩
def jP (h:IsPart v o):∃l:Option (Int×Tok),v=partValue l/\l.map (·.1)=o:=by
 cases h with
 | none=>exact⟨none,FL,FL⟩
 | int i t=>exact⟨some (i,t),FL,FL⟩
def dr:V->Option Int->Option Int->Hp->VK->Prop:=λx lo hi H Q=>∃z,x=.str z/\z.length<=sizeLine/\Q (.str (Txt.slice z lo hi)) H
set_option tactic.hygienic true
def nK:rC X dr:=by
 intro WZ s σ H x v vl vu lo hi sl Q I rx hs pl pu h;obtain⟨z,rfl,hz,q⟩:=h;obtain⟨t,rfl⟩:=rx;obtain⟨l,rfl,rfl⟩:=jP pl;obtain⟨u,rfl,rfl⟩:=jP pu;refine⟨"str",_,PySem.F.slot_str_getitem.lookup,typeIs_str _ _ _,?_⟩;obtain⟨o,ho,hc,hd⟩:=hs;refine wpAny_getItem_str_slice (l:=l) (u:=u) (st:=none) ⟨o,ho,hc,hd⟩ FL ?_;have hle:=Txt.slice_le z (l.map (·.1)) (u.map (·.1));unfold sliceMade;unfold Txt.slice at q hle;show Made.post (if ((1:Int)==1&&(PySem.Builtin.Str.strSliceIndices (l.map (·.1)) (u.map (·.1)) 1 z.length).length==z.length)=true then _ else Made.str ⟨((PySem.Builtin.Str.strSliceIndices (l.map (·.1)) (u.map (·.1)) 1 z.length).filterMap (z.cps[·]?)).toArray⟩) _ s
 split
 ·rename_i hif;rw[XY hif] at q;exact⟨.str z,H,I,⟨t,FL⟩,q⟩
 ·rename_i hif;rw[XX hif] at q;rw[XX hif] at hle;exact⟨XN hle hz,.str _,H,I.tok _,⟨_,FL⟩,q⟩
set_option tactic.hygienic false
end
def kA:bootBuiltins "max"=some (.builtin "max"):=by decide+kernel
def E1:bootBuiltins "isinstance"=some (.builtin "isinstance"):=by decide+kernel
def pF:bootBuiltins "bool"=some (.type "bool"):=by decide+kernel
def jx:bootBuiltins "int"=some (.type "int"):=by decide+kernel
def k8:bootBuiltins "str"=some (.type "str"):=by decide+kernel
def At:bootBuiltins "list"=some (.type "list"):=by decide+kernel
def Sh:bootBuiltins "tuple"=some (.type "tuple"):=by decide+kernel
section
variable {X:Cx}
structure Ca (P:Program)(w:World)(K:W.Frag)(mg:Str->Option Value)(base:Heap)(k:Nat)(x:Str)(ps:List Str)(sp:Sp):Prop where
 ex:∃(f:WP) (fd:VZ),U0 P w K mg base CX0 k f fd ps sp/\Wz K fd ps []/\W.keepIn K (.ref f)=true/\mg x=some (.ref f)
def gr {k:Nat}{p pos:Pos}{e:WW}{es:List WW}(C:Ca X.prog X.w X.K X.mg X.base k x ps sp)(hr:Wv k X.A)(hg:Gl X x)(ha:PA X (e::es) t)
  (hdb:(x==("__debug__":Str))=false:=by decide) (he:autoParam (starEach (e::es) X.env=(false,eval e X.env)::starEach es X.env) QzR) (hpl:autoParam ((backTo pos (starEach es X.env)).any (·.1)=false) QzR):
  PE X (.Call (.Name x p) (e::es) [] pos) (ox sp [] E0 t):=by
 obtain⟨f,fd,F,B,kp,m⟩:=C.ex;exact qz F hr hg m kp B .nil jO ha hdb he hpl
def Aa {K:WY}(b:Ks u):Mx (zZ K n u):=λx σ H Q Q' h q=>by
 obtain⟨a,xs,e,hq,hl,q⟩:=q;exact⟨a,xs,e,hq,hl,b _ _ _ _ _ h q⟩
set_option tactic.hygienic true
def Ta {k:NameKind}(h:(relabel scope env).names.lookup x=some k):∃k',(x,k')∈scope.names/\(k'=k\/k'=.free):=by
 have m:=CH h;unfold relabel at m;obtain⟨⟨n,k'⟩,hm,e⟩:=XR.mp m;dsimp only at e
 split at e
 ·rename_i hc
  cases e
  refine⟨k',hm,.inr ?_⟩;simp only[Bool.and_eq_true,beq_iff_eq] at hc;exact hc.1.1
 ·cases e
  exact⟨_,hm,.inl FL⟩
set_option tactic.hygienic false
def Np {cN:List Str}{cap:List (Option Nat)}{scope:Scope}(hk:scope.kind=.function)(h1:scope.names.all (λy=>y.2 !=.free&&y.2 !=.cell)=true)(h2:scope.names.all (λy=>y.2 !=.local||scope.names.lookup y.1==some .local)=true)
  (hl:cap.length=cN.length) (hc:cap.all (λo=>o.isNone)=true):Ef X cN cap scope [] where
 clos:=closureFor_none λy hy=>by
  have:=BS.mp h1 y hy;simp only[Bool.and_eq_true,bne_iff_ne,ne_eq] at this;exact this.1
 sub:=λn a h=>by cases h
 cell:=λy hy=>by
  have:=BS.mp h1 y hy;simp only[Bool.and_eq_true,bne_iff_ne,ne_eq] at this;exact this.2
 kind:=hk
 names:=λy hy e=>by
  have:=BS.mp h2 y hy;simp only[Bool.or_eq_true,bne_iff_ne,ne_eq,beq_iff_eq] at this
  rcases this with q | q
  ·exact absurd e q
  ·exact q
 len:=hl
 has:=λx h=>by
  exfalso;have no:∀k',(x,k')∈scope.names->k'≠.free/\k'≠.cell:=λk' hy=>by
   have:=BS.mp h1 _ hy;simpa only[Bool.and_eq_true,bne_iff_ne,ne_eq] using this
  rcases h with h | h
  ·obtain⟨k',hm,e⟩:=Ta h
   rcases e with e | e
   ·exact(no k' hm).2 e
   ·exact(no k' hm).1 e
  ·obtain⟨k',hm,e⟩:=Ta h
   rcases e with e | e
   ·exact(no k' hm).1 e
   ·exact(no k' hm).1 e
 capd:=λi j x h _=>by
  have:=BS.mp hc _ (BE h)
  cases this
def Xq (cells:List (Str×WP)):List (Str×NameKind)->List (Str×WP)->List (Str×WP)
 | [],cs=>cs
 | (n,k)::r,cs=>Xq cells r (if k==.free then(n,(cells.lookup n).getD 0)::cs else cs)
def Mu:∀{names:List (Str×NameKind)} {cs:List (Str×WP)} {p:Str×WP},p∈Xq cells names cs↔p∈cs\/((p.1,NameKind.free)∈names/\p.2=(cells.lookup p.1).getD 0)
 | [],cs,p=>by simp[Xq]
 | (n,k)::r,cs,p=>by
  unfold Xq;rw[Mu];by_cases hk:k=.free
  ·subst hk;simp only[beq_self_eq_true,if_true,List.mem_cons,Prod.mk.injEq,and_true];constructor
   ·rintro((h | h) | h)
    ·subst h;exact .inr ⟨.inl FL,FL⟩
    ·exact .inl h
    ·exact .inr ⟨.inr h.1,h.2⟩
   ·rintro(h | ⟨h | h,e⟩)
    ·exact .inl (.inr h)
    ·refine .inl (.inl ?_);obtain⟨a,b⟩:=p;simp only at h e;subst h;subst e;rfl
    ·exact .inr ⟨h,e⟩
  ·have hb:(k==NameKind.free)=false:=by simpa using hk
   simp only[hb,Bool.false_eq_true,if_false,List.mem_cons,Prod.mk.injEq];constructor
   ·rintro(h | h)
    ·exact .inl h
    ·exact .inr ⟨.inr h.1,h.2⟩
   ·rintro(h | ⟨h | h,e⟩)
    ·exact .inl h
    ·exact absurd h.2.symm hk
    ·exact .inr ⟨h,e⟩
def Ew {scope:Scope}{env:Env}(h:∀n,(n,NameKind.free)∈scope.names->∃c,env.cells.lookup n=some c):closureFor scope env=pure (Xq env.cells scope.names []):=by
 have key:∀(names:List (Str×NameKind)) (cs:List (Str×WP)),(∀n,(n,NameKind.free)∈names->∃c,env.cells.lookup n=some c)->
   (forIn names cs λx r=>(match x with | (name,kind)=>if (kind==NameKind.free)=true then(do let y <-cellOf env name;pure (ForInStep.yield ((name,y)::r))) else pure (ForInStep.yield r):Sem (ForInStep (List (Str×WP)))))=pure (Xq env.cells names cs):=by
  intro names
  induction names with
  | nil=>intro cs _;rfl
  | cons y r ih=>
   obtain⟨n,k⟩:=y;intro cs hn;rw[List.forIn_cons];unfold Xq;by_cases hk:k=.free
   ·subst hk;obtain⟨c,hc⟩:=hn n (BD);simp only[beq_self_eq_true,if_true,cellOf,hc,Option.getD_some];exact ih _ λm hm=>hn m (XV _ hm)
   ·have hb:(k==NameKind.free)=false:=by simpa using hk
    simp only[hb,Bool.false_eq_true,if_false];exact ih _ λm hm=>hn m (XV _ hm)
 unfold closureFor;have:=key scope.names [] h
 first
  | exact this
  | (simp only[bind_pure];exact this)
  | (show(forIn scope.names [] _>>=λr=>pure r)=_;rw[bind_pure];exact this)
def G5 {f:Str->NameKind->NameKind}:∀{names:List (Str×NameKind)} {x:Str},(names.map λy=>(y.1,f y.1 y.2)).lookup x=(names.lookup x).map (f x)
 | [],x=>rfl
 | (n,k)::r,x=>by
  have ih:=@G5 f r x;rw[YI,BK,BK];by_cases hx:x=n
  ·subst hx;simp
  ·have hb:(x==n)=false:=beq_eq_false_iff_ne.mpr hx;simp only[hb];exact ih
def G6:(relabel scope env).names.lookup x=
   (scope.names.lookup x).map λk=>if (k==NameKind.free&&env.scope.kind==.function&&env.kindOf x==some .cell) then NameKind.cell else k:=by
 rw[<-G5 (f:=λn k=>if (k==NameKind.free&&env.scope.kind==.function&&env.kindOf n==some .cell) then NameKind.cell else k)];unfold relabel;congr 1;refine BR λy _=>?_;obtain⟨n,k⟩:=y;dsimp only
 split<;>rfl
def F9 (N:List Str)(outer inner:List (Str×NameKind)):List (Option Nat)->List Str->Bool
 | [],_=>true
 | _,[]=>true
 | none::r,_::xs=>F9 N outer inner r xs
 | some j::r,x::xs=>N[j]?==some x&&outer.lookup x==some .cell&&inner.lookup x==some .free&&F9 N outer inner r xs
def Ip:∀{cap:List (Option Nat)} {cN:List Str},F9 N outer inner cap cN=true->∀(i j:Nat) (x:Str),cap[i]?=some (some j)->cN[i]?=some x->N[j]?=some x/\outer.lookup x=some .cell/\inner.lookup x=some .free
 | [],_,_,i,j,x,h1,_=>by simp at h1
 | _::_,[],_,i,j,x,_,h2=>by simp at h2
 | none::r,y::xs,h,0,j,x,h1,_=>by simp at h1
 | none::r,y::xs,h,i+1,j,x,h1,h2=>Ip (cap:=r) (cN:=xs) (by simpa[F9] using h) i j x (by simpa using h1) (by simpa using h2)
 | some k::r,y::xs,h,0,j,x,h1,h2=>by
  simp only[F9,Bool.and_eq_true,beq_iff_eq] at h;simp at h1 h2;subst h1 h2;exact⟨h.1.1.1,h.1.1.2,h.1.2⟩
 | some k::r,y::xs,h,i+1,j,x,h1,h2=>by
  simp only[F9,Bool.and_eq_true,beq_iff_eq] at h;exact Ip (cap:=r) (cN:=xs) h.2 i j x (by simpa using h1) (by simpa using h2)
def N7 {α β:Type}[BEq α][LawfulBEq α]{x:α}:∀{l:List (α×β)} {b:β},(x,b)∈l->∃c,l.lookup x=some c
 | [],_,h=>by cases h
 | (y,c)::r,b,h=>by
  rw[BK];by_cases hx:x=y
  ·subst hx;simp
  ·have hb:(x==y)=false:=beq_eq_false_iff_ne.mpr hx;rw[hb]
   rcases BC.mp h with e | h
   ·cases e;exact absurd FL hx
   ·exact N7 h
def Ue {cN:List Str}{cap:List (Option Nat)}{scope:Scope}(ok:X.Ok)(hk:scope.kind=.function)(h1:scope.names.all (λy=>y.2 !=.cell)=true)(h2:scope.names.all (λy=>y.2 !=.local||scope.names.lookup y.1==some .local)=true)
  (hl:cap.length=cN.length) (hf:(scope.names.all λy=>y.2 !=.free||X.env.scope.names.lookup y.1==some .cell)=true) (hc:F9 X.N X.env.scope.names scope.names cap cN=true):Ef X cN cap scope (Xq X.env.cells scope.names []):=by
 have hfr:∀n,(n,NameKind.free)∈scope.names->∃c,X.env.cells.lookup n=some c:=λn hn=>by
  have:=BS.mp hf _ hn;simp only[bne_self_eq_false,Bool.false_or,beq_iff_eq] at this;exact ok.has n (.inl this)
 refine⟨Ew hfr,λn a h=>?_,λy hy=>?_,hk,λy hy e=>?_,hl,λx h=>?_,λi j x h1' h2'=>?_⟩
 ·have m:=CH h;rw[Mu] at m
  rcases m with m | ⟨m,e⟩
  ·cases m
  ·obtain⟨c,hc⟩:=hfr n m;simp only[hc,Option.getD_some] at e;rw[hc,e]
 ·have:=BS.mp h1 y hy;simpa using this
 ·have:=BS.mp h2 y hy;simp only[Bool.or_eq_true,bne_iff_ne,ne_eq,beq_iff_eq] at this
  rcases this with q | q
  ·exact absurd e q
  ·exact q
 ·have nc:∀k',(x,k')∈scope.names->k'≠.cell:=λk' hy=>by
   have:=BS.mp h1 _ hy;simpa using this
  have m:(x,NameKind.free)∈scope.names:=by
   rcases h with h | h
   ·obtain⟨k',hm,e⟩:=Ta h
    rcases e with e | e
    ·exact absurd e (nc k' hm)
    ·subst e;exact hm
   ·obtain⟨k',hm,e⟩:=Ta h
    rcases e with e | e<;>(subst e;exact hm)
  exact N7 (b:=(X.env.cells.lookup x).getD 0) (Mu.mpr (.inr ⟨m,FL⟩))
 ·obtain⟨q1,q2,q3⟩:=Ip hc i j x h1' h2';refine⟨q1,.inr (.inl q2),(by rw[q2];simp),?_⟩;rw[G6,q3];simp only[Option.map_some,beq_self_eq_true,Bool.true_and]
  split
  ·exact .inl FL
  ·exact .inr FL
end
def CN (p:WP)(Pv:Nat->List V->Hp->Prop)(i:Nat)(H:Hp):Prop:=∃ys,H p=some (.lst ys)/\ys.length<=i/\Pv i ys H
section
variable {K:WY}{cap:List (Option Nat)}{g:TG}{c:TT}{te:TE}{σ:St}{Q:WP->Hp->Prop}{H:Hp}
end
def eR (g:TG)(tb:TS)(D:E5)(σ:St)(J:It)(H1:Hp):Prop:=∃W:Nat->Nat->St->Hp->Prop,(∃m,W 0 m σ H1)/\∀i m σ H,W i m σ H->
 (J.stop i H/\D.nx σ H)\/(J.go i H/\∃N:St->Hp->Prop,(∀σ' H',N σ' H'->∃m',m'<m/\W (i+1) m' σ' H')/\∀x H',J.yld i H x H'->g x σ H' λσ2 H2=>tb {D with nx:=N,ct:=N,bk:=D.nx} σ2 H2)
section
variable {K:WY}{a:WP}{xs:List V}{g:TG}{tb:TS}{D:E5}{σ:St}{H:Hp}{z:Str}
end
def tyL {K:WY}{H:Hp}(h:H r=some (.lst xs)):kW K "list" (.ref r) H:=by
 unfold kW;exact .inl ⟨FL,xs,J9.of h⟩
def j0 {α:Type}{xs:List α}{i:Int}(h0:0<=i)(h1:i<(xs.length:Int)):∃v,Pa xs i=some v/\v∈xs:=by
 have hk:i.toNat<xs.length:=by omega
 have ek:((i.toNat:Nat):Int)=i:=by omega
 have q:Pa xs ((i.toNat:Nat):Int)=some xs[i.toNat]:=Xu (by simp[hk]);rw[ek] at q;exact⟨xs[i.toNat],q,YN hk⟩
end L2
namespace WL
open PySem PySem.Spec PyProof.Rows L2
inductive T where
 | non | bl (b:Bool) | int (i:Int) | str (x:Str) | tup (xs:List T)
  | ref (a:WP)
  | cl (xs:List T)
inductive O where
 | lst (xs:List T)
 | dic (kvs:List (Z0×T))
 | ins (cn:Str) (fs:List (Str×T))
  | fdic (kvs:List (Z0×T))
abbrev Hw:=WP->Option O
def up (C:Hw)(a:WP)(o:O):Hw:=λb=>if b=a then some o else C b
def Ze:up C a o a=some o:=by unfold up;rw[XY rfl]
def Zg {a b:WP}(h:b≠a):up C a o b=C b:=by unfold up;rw[XX h]
def ng (K:WY)(H:Hp)(a:WP)(xs:List V):Prop:=
 (∃o,H a=some (.frz o (.lst xs)))\/
  ∃(o:Obj) (its:Array WQ) (n:Nat),K.lookup a=some o/\o.cls=.type "list"/\o.dict=none/\o.data=.seq its n/\its.size<=sizeLine/\Yd xs its.toList
def ng.sq {K:WY}(h:ng K H a xs):J9 K H a xs:=by
 rcases h with⟨o,h⟩ | h
 ·exact .inl (.inr ⟨o,h⟩)
 ·exact .inr h
mutual
def Jh (K:WY)(H:Hp)(x:V):T->Prop
 | .non=>x=.non
 | .bl b=>x=.bl b
 | .int i=>x=.int i
 | .str z=>x=.str z
 | .ref a=>x=.ref a
 | .tup ts=>∃a ys,x=.ref a/\Uz K H a ys/\Reps K H ys ts
 | .cl ts=>∃a ys,x=.ref a/\ng K H a ys/\Reps K H ys ts
def Reps (K:WY)(H:Hp)(ys:List V):List T->Prop
 | []=>ys=[]
 | t::ts=>∃y r,ys=y::r/\Jh K H y t/\Reps K H r ts
end
def c9:HO->Prop
 | .tup _=>True
 | .frz _ _=>True
 | _=>False
def Tx (H H':Hp):Prop:=∀b o,H b=some o->c9 o->H' b=some o
def Tx.refl (H:Hp):Tx H H:=λ_ _ h _=>h
def Tx.trans (a:Tx H H1)(b:Tx H1 H2):Tx H H2:=λc o h n=>b c o (a c o h n) n
def Tx.new {H:Hp}(h:H p=none):Tx H (Yz H p o):=λb u q _=>by rw[Zt (Jm q h)];exact q
def Tx.put {H:Hp}(h:H p=some o)(n:¬c9 o):Tx H (Yz H p u):=λb v q s=>by
 by_cases e:b=p
 ·subst e;rw[h] at q;cases q;exact absurd s n
 ·rw[Zt e];exact q
def Tx.sqt {K:WY}(t:Tx H H')(h:Uz K H a xs):Uz K H' a xs:=by
 rcases h with(h | ⟨o,h⟩) | h
 ·exact .inl (.inl (t _ _ h trivial))
 ·exact .inl (.inr ⟨o,t _ _ h trivial⟩)
 ·exact .inr h
def Tx.sqc {K:WY}(t:Tx H H')(h:ng K H a xs):ng K H' a xs:=by
 rcases h with⟨o,h⟩ | h
 ·exact .inl ⟨o,t _ _ h trivial⟩
 ·exact .inr h
mutual
def Jh.tx {K:WY}(t:Tx H H'):∀{v:T},Jh K H x v->Jh K H' x v
 | .non,h=>by simpa[Jh] using h
 | .bl b,h=>by simpa[Jh] using h
 | .int i,h=>by simpa[Jh] using h
 | .str z,h=>by simpa[Jh] using h
 | .ref a,h=>by simpa[Jh] using h
 | .tup ts,h=>by
  unfold Jh at h |-;obtain⟨a,ys,e,q,r⟩:=h;exact⟨a,ys,e,t.sqt q,Reps.tx t r⟩
 | .cl ts,h=>by
  unfold Jh at h |-;obtain⟨a,ys,e,q,r⟩:=h;exact⟨a,ys,e,t.sqc q,Reps.tx t r⟩
def Reps.tx {K:WY}(t:Tx H H'):∀{vs:List T},Reps K H ys vs->Reps K H' ys vs
 | [],h=>by simpa[Reps] using h
 | v::vs,h=>by
  unfold Reps at h |-;obtain⟨y,r,e,q,s⟩:=h;exact⟨y,r,e,Jh.tx t q,Reps.tx t s⟩
end
section
variable {K:WY}{H:Hp}
def Ja:Jh K H (.int i) (.int i):=by unfold Jh;rfl
def Rh:Jh K H (.str i) (.str i):=by unfold Jh;rfl
def Jq:Jh K H (.bl i) (.bl i):=by unfold Jh;rfl
def Nj:Jh K H .non .non:=by unfold Jh;rfl
def Y6:Jh K H (.ref a) (.ref a):=by unfold Jh;rfl
def Ju (h:Uz K H a ys)(r:Reps K H ys ts):Jh K H (.ref a) (.tup ts):=by unfold Jh;exact⟨a,ys,FL,h,r⟩
def Yn (h:Jh K H x (.int i)):x=.int i:=by unfold Jh at h;exact h
def Xm (h:Jh K H x (.str i)):x=.str i:=by unfold Jh at h;exact h
def Py (h:Jh K H x (.bl i)):x=.bl i:=by unfold Jh at h;exact h
def Mm (h:Jh K H x .non):x=.non:=by unfold Jh at h;exact h
def Z1 (h:Jh K H x (.ref a)):x=.ref a:=by unfold Jh at h;exact h
def Yi (h:Jh K H x (.tup ts)):∃a ys,x=.ref a/\Uz K H a ys/\Reps K H ys ts:=by unfold Jh at h;exact h
def N5 (h:Jh K H x (.cl ts)):∃a ys,x=.ref a/\ng K H a ys/\Reps K H ys ts:=by unfold Jh at h;exact h
def Yv:Reps K H [] []:=by unfold Reps;rfl
def Yh (a:Jh K H y t)(b:Reps K H ys ts):Reps K H (y::ys) (t::ts):=by unfold Reps;exact⟨y,ys,FL,a,b⟩
def Xe (h:Reps K H ys []):ys=[]:=by unfold Reps at h;exact h
def Y0 {t:T}{ts:List T}(h:Reps K H ys (t::ts)):∃y r,ys=y::r/\Jh K H y t/\Reps K H r ts:=by unfold Reps at h;exact h
def Reps.length:∀{vs:List T} {ys:List V},Reps K H ys vs->ys.length=vs.length
 | [],_,h=>by rw[Xe h];rfl
 | _::_,_,h=>by obtain⟨y,r,rfl,_,q⟩:=Y0 h;rw[YF,YF,q.length]
def Reps.get:∀{vs:List T} {ys:List V} {i:Nat} {v:T},Reps K H ys vs->vs[i]?=some v->∃y,ys[i]?=some y/\Jh K H y v
 | [],_,_,_,_,e=>by simp at e
 | _::_,_,0,_,h,e=>by obtain⟨y,r,rfl,a,_⟩:=Y0 h;simp at e;subst e;exact⟨y,FL,a⟩
 | _::_,_,i+1,v,h,e=>by
  obtain⟨y,r,rfl,_,q⟩:=Y0 h;obtain⟨z,h1,h2⟩:=Reps.get (i:=i) (v:=v) q (by simpa using e);exact⟨z,by simpa using h1,h2⟩
def Reps.get':∀{vs:List T} {ys:List V} {i:Nat} {y:V},Reps K H ys vs->ys[i]?=some y->∃v,vs[i]?=some v/\Jh K H y v:=λ{vs ys i y} h e=>by
 have hl:=h.length;have hi:i<ys.length:=(BB.mp e).1;have hv:vs[i]?=some (vs[i]'(by omega)):=by simp[hl▸hi]
 obtain⟨z,h1,h2⟩:=h.get hv;rw[e] at h1;cases h1;exact⟨_,hv,h2⟩
def Reps.app:∀{vs ws:List T} {ys zs:List V},Reps K H ys vs->Reps K H zs ws->Reps K H (ys++zs) (vs++ws)
 | [],_,_,_,h,q=>by rw[Xe h];exact q
 | _::_,_,_,_,h,q=>by obtain⟨y,r,rfl,a,b⟩:=Y0 h;exact Yh a (b.app q)
def Reps.take:∀(n:Nat) {vs:List T} {ys:List V},Reps K H ys vs->Reps K H (ys.take n) (vs.take n)
 | 0,_,_,_=>by simpa using Yv
 | _+1,[],_,h=>by rw[Xe h];exact Yv
 | n+1,_::_,_,h=>by obtain⟨y,r,rfl,a,b⟩:=Y0 h;exact Yh a (b.take n)
def Reps.drop:∀(n:Nat) {vs:List T} {ys:List V},Reps K H ys vs->Reps K H (ys.drop n) (vs.drop n)
 | 0,_,_,h=>h
 | _+1,[],_,h=>by rw[Xe h];exact Yv
 | n+1,_::_,_,h=>by obtain⟨y,r,rfl,a,b⟩:=Y0 h;exact b.drop n
def Reps.set (q:Jh K H y v):∀(n:Nat) {vs:List T} {ys:List V},Reps K H ys vs->Reps K H (ys.set n y) (vs.set n v)
 | _,[],_,h=>by rw[Xe h];exact Yv
 | 0,_::_,_,h=>by obtain⟨y,r,rfl,a,b⟩:=Y0 h;exact Yh q b
 | n+1,_::_,_,h=>by obtain⟨y,r,rfl,a,b⟩:=Y0 h;exact Yh a (b.set q n)
def Reps.dropLast (h:Reps K H ys vs):Reps K H ys.dropLast vs.dropLast:=by
 rw[List.dropLast_eq_take,List.dropLast_eq_take,h.length];exact h.take _
def Reps.snoc (h:Reps K H ys vs)(q:Jh K H y v):Reps K H (ys++[y]) (vs++[v]):=h.app (Yh q Yv)
def Reps.reverse:∀{vs:List T} {ys:List V},Reps K H ys vs->Reps K H ys.reverse vs.reverse
 | [],_,h=>by rw[Xe h];exact Yv
 | _::_,_,h=>by obtain⟨y,r,rfl,a,b⟩:=Y0 h;rw[CL,CL];exact b.reverse.snoc a
def Reps.at (h:Reps K H ys vs)(e:Pa vs i=some v):∃y,Pa ys i=some y/\Jh K H y v:=by
 unfold Pa at e |-;rw[h.length]
 cases q:w9 vs.length i with
 | none=>rw[q] at e;cases e
 | some j=>
  rw[q] at e;exact h.get e
def Dh:∀ns:List Int,Reps K H (ns.map V.int) (ns.map T.int)
 | []=>Yv
 | n::r=>Yh Ja (Dh r)
end
abbrev PR (K:WY)(H:Hp){κ:Type}(kvs:List (κ×V))(kws:List (κ×T)):Prop:=PySem.Paired (λp q=>p.1=q.1/\Jh K H p.2 q.2) kvs kws
def E3 (K:WY)(H:Hp)(a:WP):O->Prop
 | .lst xs=>∃ys,H a=some (.lst ys)/\Reps K H ys xs
 | .dic kvs=>∃ks,H a=some (.dK ks)/\PR K H ks kvs
 | .ins cn fs=>∃Cl dx ks,W.nsIn K mainGlobals cn=some (some (.ref Cl))/\H a=some (.ins Cl dx ks)/\PR K H ks fs
 | .fdic kvs=>∃ks,Rd H a (.dK ks)/\PR K H ks kvs
def O.wr:O->Prop
 | .fdic _=>False
 | _=>True
structure Rl (K:W.Frag)(F H:Hp)(C:Hw):Prop where
 obj:∀a o,C a=some o->E3 K H a o
 frm:∀a o,F a=some o->H a=some o/\C a=none
def Lr {K:WY}(t:Tx H H'){κ:Type}{ks:List (κ×V)}{kvs:List (κ×T)}(h:PR K H ks kvs):PR K H' ks kvs:=L2.Paired.mapP h λ_ _ z=>⟨z.1,z.2.tx t⟩
def E3.stay {K:WY}(h:E3 K H a o)(t:Tx H H')(e:H' a=H a):E3 K H' a o:=by
 cases o with
 | lst xs=>obtain⟨ys,q,r⟩:=h;exact⟨ys,e.trans q,r.tx t⟩
 | dic kvs=>obtain⟨ys,q,r⟩:=h;exact⟨ys,e.trans q,Lr t r⟩
 | ins C fs=>obtain⟨Cl,dx,ys,n,q,r⟩:=h;exact⟨Cl,dx,ys,n,e.trans q,Lr t r⟩
 | fdic kvs=>
  obtain⟨ys,q,r⟩:=h;refine⟨ys,?_,Lr t r⟩
  rcases q with q | ⟨o,q⟩
  ·exact .inl (e.trans q)
  ·exact .inr ⟨o,e.trans q⟩
def E3.some {K:WY}(h:E3 K H a o)(wr:o.wr):∃u,H a=some u/\¬c9 u:=by
 cases o with
 | fdic kvs=>exact wr.elim
 | lst xs=>obtain⟨ys,q,r⟩:=h;exact⟨_,q,λz=>z⟩
 | dic kvs=>obtain⟨ys,q,r⟩:=h;exact⟨_,q,λz=>z⟩
 | ins C fs=>obtain⟨Cl,dx,ys,n,q,r⟩:=h;exact⟨_,q,λz=>z⟩
def E3.here {K:WY}(h:E3 K H a o):∃u,H a=Option.some u:=by
 cases o with
 | fdic kvs=>
  obtain⟨ys,q,r⟩:=h
  rcases q with q | ⟨o,q⟩
  ·exact⟨_,q⟩
  ·exact⟨_,q⟩
 | lst xs=>obtain⟨ys,q,r⟩:=h;exact⟨_,q⟩
 | dic kvs=>obtain⟨ys,q,r⟩:=h;exact⟨_,q⟩
 | ins C fs=>obtain⟨Cl,dx,ys,n,q,r⟩:=h;exact⟨_,q⟩
section
variable {K:WY}{F H:Hp}{C:Hw}
def Rl.free (R:Rl K F H C)(h:H p=none):C p=none:=by
 cases e:C p with
 | none=>rfl
 | some o=>obtain⟨u,q⟩:=(R.obj p o e).here;rw[h] at q;cases q
def Rl.lst (R:Rl K F H C)(h:C a=some (.lst xs)):∃ys,H a=some (.lst ys)/\Reps K H ys xs:=R.obj a _ h
def Rl.new (R:Rl K F H C)(h:H p=none)(r:E3 K (Yz H p u) p o):Rl K F (Yz H p u) (up C p o) where
 obj:=λa v e=>by
  by_cases q:a=p
  ·subst q;rw[Ze] at e;cases e;exact r
  ·rw[Zg q] at e;exact(R.obj a v e).stay (Tx.new h) (Zt q)
 frm:=λa v e=>by
  have z:=R.frm a v e;have q:a≠p:=Jm z.1 h;rw[Zt q,Zg q];exact z
def Rl.hid (R:Rl K F H C)(h:H p=none):Rl K F (Yz H p u) C where
 obj:=λa v e=>by
  obtain⟨w,q⟩:=(R.obj a v e).here;exact(R.obj a v e).stay (Tx.new h) (Zt (Jm q h))
 frm:=λa v e=>by
  have z:=R.frm a v e;rw[Zt (Jm z.1 h)];exact z
def Rl.put (R:Rl K F H C)(h:C p=some o)(r:E3 K (Yz H p u) p o')(wr:o.wr:=by trivial):Rl K F (Yz H p u) (up C p o')/\Tx H (Yz H p u):=by
 obtain⟨w,hw,ns⟩:=(R.obj p o h).some wr;have t:Tx H (Yz H p u):=Tx.put hw ns;refine⟨⟨λa v e=>?_,λa v e=>?_⟩,t⟩
 ·by_cases q:a=p
  ·subst q;rw[Ze] at e;cases e;exact r
  ·rw[Zg q] at e;exact(R.obj a v e).stay t (Zt q)
 ·have z:=R.frm a v e;have q:a≠p:=λy=>by subst y;rw[h] at z;cases z.2
  rw[Zt q,Zg q];exact z
def Rl.putL (R:Rl K F H C)(h:C p=some (.lst xs))(r:Reps K H ys' xs'):Rl K F (Yz H p (.lst ys')) (up C p (.lst xs'))/\Tx H (Yz H p (.lst ys')):=by
 obtain⟨w,hw,ns⟩:=(R.obj p _ h).some trivial;exact R.put h ⟨ys',Z3,r.tx (Tx.put hw ns)⟩
def Rl.newL (R:Rl K F H C)(h:H p=none)(r:Reps K H ys xs):Rl K F (Yz H p (.lst ys)) (up C p (.lst xs)):=R.new h ⟨ys,Z3,r.tx (Tx.new h)⟩
end
abbrev Sw:=List (Option T)
abbrev WK:=T->Hw->Prop
structure Xn where
 cls:Str
 fs:List (Str×T)
abbrev WX:=Xn->Hw->Prop
abbrev WE:=Sw->Hw->WK->WX->Prop
abbrev WT:=Sw->Hw->(Bool->Hw->Prop)->WX->Prop
abbrev WA:=Sw->Hw->(List T->Hw->Prop)->WX->Prop
structure We where
 nx:Sw->Hw->Prop
 rt:WK
 bk:Sw->Hw->Prop:=λ_ _=>False
 ct:Sw->Hw->Prop:=λ_ _=>False
 xc:WX:=λ_ _=>False
abbrev WS:=We->Sw->Hw->Prop
abbrev WG:=T->Sw->Hw->(Sw->Hw->Prop)->WX->Prop
abbrev sW:=List T->Sw->Hw->(Sw->Hw->Prop)->WX->Prop
abbrev WI:=Sw->Hw->(List T->(Hw->Prop)->Hw->Prop)->WX->Prop
abbrev W2:=T->T->Hw->WK->Prop
abbrev Calls:=Nat->List T->Hw->WK->WX->Prop
def Yb (i:Nat):WE:=λτ C Q _=>∃v,τ[i]?=some (some v)/\Q v C
def eC (v:T):WE:=λ_ C Q _=>Q v C
def Yk (r:W2)(a b:WE):WE:=λτ C Q χ=>a τ C (λx C1=>b τ C1 (λy C2=>r x y C2 Q) χ) χ
def dW (r:T->Hw->WK->Prop)(a:WE):WE:=λτ C Q χ=>a τ C (λx C1=>r x C1 Q) χ
def Zv:WA:=λ_ C Q _=>Q [] C
def Zz (a:WE)(r:WA):WA:=λτ C Q χ=>a τ C (λx C1=>r τ C1 (λxs C2=>Q (x::xs) C2) χ) χ
def Ik (a:WA):WE:=λτ C Q χ=>a τ C (λxs C1=>xs.length<=sizeLine/\Q (.tup xs) C1) χ
def sj (a:WA):WE:=λτ C Q χ=>a τ C (λxs C1=>xs.length<=sizeLine/\∀p,C1 p=none->Q (.ref p) (up C1 p (.lst xs))) χ
def Qm (P:Calls)(i:Nat)(a:WA):WE:=λτ C Q χ=>a τ C (λxs C1=>P i xs C1 Q χ) χ
def gW (r:List T->Hw->WK->Prop)(a:WA):WE:=λτ C Q χ=>a τ C (λxs C1=>r xs C1 Q) χ
def gS (ty:T->Hw->Prop)(r:T->List T->Hw->WK->Prop)(o:WE)(a:WA):WE:=λτ C Q χ=>o τ C (λx C1=>ty x C1/\a τ C1 (λxs C2=>r x xs C2 Q) χ) χ
def dY (c:WT)(a b:WE):WE:=λτ C Q χ=>c τ C (λk C1=>if k=true then a τ C1 Q χ else b τ C1 Q χ) χ
def kr (a b:WE):WE:=λτ C Q χ=>a τ C (λx C1=>∃k,x=.bl k/\if k=true then b τ C1 Q χ else Q (.bl false) C1) χ
def a6 (a b:WE):WE:=λτ C Q χ=>a τ C (λx C1=>∃k,x=.bl k/\if k=true then Q (.bl true) C1 else b τ C1 Q χ) χ
def km (a:WE):WE:=λτ C Q χ=>a τ C (λx C1=>∃k,x=.bl k/\Q (.bl (!k)) C1) χ
def fK:T->Hw->Bool->Prop
 | .non,_,k=>k=false
 | .bl b,_,k=>k=b
 | .int i,_,k=>k=(i !=0)
 | .str y,_,k=>y.length<=sizeLine/\k=((y.length:Int) !=0)
 | .tup xs,_,k=>k=!xs.isEmpty
 | .cl xs,_,k=>k=!xs.isEmpty
 | .ref a,C,k=>(∃xs,C a=some (.lst xs)/\k=!xs.isEmpty)\/∃kvs,C a=some (.dic kvs)/\k=!kvs.isEmpty
def nG (a:WE):WT:=λτ C Q χ=>a τ C (λx C1=>∃k,fK x C1 k/\Q k C1) χ
def Kz (a:WE):WT:=λτ C Q χ=>a τ C (λx C1=>∃k,x=.bl k/\Q k C1) χ
def eY (a b:WT):WT:=λτ C Q χ=>a τ C (λk C1=>if k=true then b τ C1 Q χ else Q false C1) χ
def El (a b:WT):WT:=λτ C Q χ=>a τ C (λk C1=>if k=true then Q true C1 else b τ C1 Q χ) χ
def eO (a:WT):WT:=λτ C Q χ=>a τ C (λk C1=>Q (!k) C1) χ
def kq (r r':W2)(a b c:WE):WE:=λτ C Q χ=>a τ C (λx C1=>b τ C1 (λy C2=>r x y C2 λz C3=>∃k,z=.bl k/\(if k=true then c τ C3 (λw C4=>r' y w C4 Q) χ else Q (.bl false) C3)) χ) χ
def A4:W2
 | .int i,.int j,C,Q=>Q (.int (i+j)) C
 | .str i,.str j,C,Q=>i.length+j.length<=sizeLine/\Q (.str (i++j)) C
 | .tup xs,.tup ys,C,Q=>xs.length+ys.length<=sizeLine/\Q (.tup (xs++ys)) C
 | .ref a,.ref b,C,Q=>∃xs ys,C a=some (.lst xs)/\C b=some (.lst ys)/\xs.length+ys.length<=sizeLine/\∀p,C p=none->Q (.ref p) (up C p (.lst (xs++ys)))
 | _,_,_,_=>False
def Nt:W2
 | .int i,.int j,C,Q=>Q (.int (i-j)) C
 | _,_,_,_=>False
def yB:W2
 | .int i,.int j,C,Q=>oh i j/\Q (.int (i*j)) C
 | _,_,_,_=>False
def eG:W2
 | .int i,.int j,C,Q=>cL i j/\Q (.int (i/j)) C
 | _,_,_,_=>False
def A3:W2
 | .int i,.int j,C,Q=>0<j/\Q (.int (i%j)) C
 | _,_,_,_=>False
def ip:W2
 | .int i,.int j,C,Q=>fJ i j/\Q (.int (i^j.toNat)) C
 | _,_,_,_=>False
def ir:T->Hw->WK->Prop
 | .int i,C,Q=>Q (.int (-i)) C
 | _,_,_=>False
def eD:W2
 | .int i,.int j,C,Q=>Q (.bl (decide (i<j))) C
 | .str i,.str j,C,Q=>Q (.bl (decide (i.cps.toList<j.cps.toList))) C
 | _,_,_,_=>False
def bE:W2
 | .int i,.int j,C,Q=>Q (.bl (decide (i<=j))) C
 | _,_,_,_=>False
def eE:W2
 | .int i,.int j,C,Q=>Q (.bl (decide (j<i))) C
 | _,_,_,_=>False
def cO:W2
 | .int i,.int j,C,Q=>Q (.bl (decide (j<=i))) C
 | _,_,_,_=>False
mutual
def eqT:T->T->Bool
 | .non,.non=>true
 | .bl a,.bl b=>a==b
 | .bl a,.int b=>(if a then 1 else 0)==b
 | .int a,.bl b=>a==(if b then 1 else 0)
 | .int a,.int b=>a==b
 | .str a,.str b=>a==b
 | .tup xs,.tup ys=>Wi xs ys
 | _,_=>false
def Wi:List T->List T->Bool
 | [],[]=>true
 | x::xs,y::ys=>eqT x y&&Wi xs ys
 | _,_=>false
end
mutual
def Yx:T->Nat->Bool
 | .tup xs,n+1=>Ys xs n
 | .tup _,0=>false
 | .ref _,_=>false
 | .cl _,_=>false
 | _,_=>true
def Ys:List T->Nat->Bool
 | [],_=>true
 | x::xs,n=>Yx x n&&Ys xs n
end
def V1:Nat:=100
def Yr (x:T):Prop:=Yx x V1=true
def Nu (neg:Bool):W2
 | .ref a,.ref b,C,Q=>∃xs ys,C a=some (.lst xs)/\C b=some (.lst ys)/\(xs.length=ys.length->Ys xs V1=true/\Ys ys V1=true)/\Q (.bl (if neg then !Wi xs ys else Wi xs ys)) C
 | .ref a,y,C,Q=>(∃xs,C a=some (.lst xs))/\Yr y/\Q (.bl neg) C
 | x,.ref b,C,Q=>(∃ys,C b=some (.lst ys))/\Yr x/\Q (.bl neg) C
 | x,y,C,Q=>Yr x/\Yr y/\Q (.bl (if neg then !eqT x y else eqT x y)) C
abbrev M6:W2:=Nu false
abbrev eB:W2:=Nu true
def iw:W2:=λx y C Q=>y=.non/\Q (.bl (match x with | .non=>true | _=>false)) C
def iq:W2:=λx y C Q=>y=.non/\Q (.bl (match x with | .non=>false | _=>true)) C
def inL (x:T)(xs:List T):Bool:=xs.any λy=>eqT y x
def nz (neg:Bool):W2
 | .str i,.str j,C,Q=>Q (.bl (if neg then(!(!(Builtin.Str.occurrences j i 0 j.length 1).isEmpty)) else(!(Builtin.Str.occurrences j i 0 j.length 1).isEmpty))) C
 | x,.tup ys,C,Q=>Yr x/\Ys ys V1=true/\Q (.bl (if neg then !inL x ys else inL x ys)) C
 | x,.cl ys,C,Q=>Yr x/\Ys ys V1=true/\Q (.bl (if neg then !inL x ys else inL x ys)) C
 | x,.ref a,C,Q=>∃ys,C a=some (.lst ys)/\Yr x/\Ys ys V1=true/\Q (.bl (if neg then !inL x ys else inL x ys)) C
 | _,_,_,_=>False
abbrev cM:W2:=nz false
abbrev vW:W2:=nz true
def Dw {α:Type}(xs:List α)(lo hi:Option Int):List α:=(xs.drop (HT.sIx xs.length 0 lo)).take (HT.sIx xs.length xs.length hi-HT.sIx xs.length 0 lo)
def Ws:W2
 | .tup xs,.int i,C,Q=>∃v,Pa xs i=some v/\Q v C
 | .cl xs,.int i,C,Q=>∃v,Pa xs i=some v/\Q v C
 | .str z,.int i,C,Q=>z.length<=sizeLine/\∃c,Pa z.cps.toList i=some c/\Q (.str ⟨#[c]⟩) C
 | .ref a,.int i,C,Q=>∃xs v,C a=some (.lst xs)/\Pa xs i=some v/\Q v C
 | _,_,_,_=>False
def cZ:Sw->Hw->(Option Int->Hw->Prop)->WX->Prop:=λ_ C Q _=>Q none C
def oK (a:WE):Sw->Hw->(Option Int->Hw->Prop)->WX->Prop:=λτ C Q χ=>a τ C (λx C1=>∃i,x=.int i/\Q (some i) C1) χ
def eh:T->Option Int->Option Int->Hw->WK->Prop
 | .tup xs,lo,hi,C,Q=>¬(HT.sIx xs.length 0 lo=0/\HT.sIx xs.length xs.length hi=xs.length)/\Q (.tup (Dw xs lo hi)) C
 | .cl xs,lo,hi,C,Q=>∀p,C p=none->Q (.ref p) (up C p (.lst (Dw xs lo hi)))
 | .str z,lo,hi,C,Q=>z.length<=sizeLine/\Q (.str (Txt.slice z lo hi)) C
 | .ref a,lo,hi,C,Q=>∃xs,C a=some (.lst xs)/\∀p,C p=none->Q (.ref p) (up C p (.lst (Dw xs lo hi)))
 | _,_,_,_,_=>False
def bn (a:WE)(lo hi:Sw->Hw->(Option Int->Hw->Prop)->WX->Prop):WE:=λτ C Q χ=>a τ C (λx C1=>lo τ C1 (λl C2=>hi τ C2 (λh C3=>eh x l h C3 Q) χ) χ) χ
def f8:List T->Hw->WK->Prop:=λvs C Q=>∃x,vs=[x]/\match x with
 | .str z=>z.length<=sizeLine/\Q (.int z.length) C
 | .tup xs=>Q (.int xs.length) C
 | .cl xs=>Q (.int xs.length) C
 | .ref a=>∃xs,C a=some (.lst xs)/\Q (.int xs.length) C
 | _=>False
def f6:List T->Hw->WK->Prop:=λvs C Q=>∃i j,vs=[.int i,.int j]/\Q (.int (if j>i then j else i)) C
def cm:List T->Hw->WK->Prop:=λvs C Q=>∃i j,vs=[.int i,.int j]/\Q (.int (if j<i then j else i)) C
def sK:List T->Hw->WK->Prop:=λvs C Q=>∃x,vs=[x]/\match x with
 | .tup xs=>Q (.tup xs) C
 | .cl xs=>Q (.tup xs) C
 | .ref a=>∃xs,C a=some (.lst xs)/\Q (.tup xs) C
 | _=>False
def oX:List T->Hw->WK->Prop:=λvs C Q=>∃x,vs=[x]/\match x with
 | .tup xs=>∀p,C p=none->Q (.ref p) (up C p (.lst xs))
 | .cl xs=>∀p,C p=none->Q (.ref p) (up C p (.lst xs))
 | .ref a=>∃xs,C a=some (.lst xs)/\∀p,C p=none->Q (.ref p) (up C p (.lst xs))
 | _=>False
def iz:T->Hw->String->Prop
 | .non,_,n=>n="NoneType"
 | .bl _,_,n=>n="bool"
 | .int _,_,n=>n="int"
 | .str _,_,n=>n="str"
 | .tup _,_,n=>n="tuple"
 | .cl _,_,n=>n="list"
 | .ref a,C,n=>(n="list"/\∃xs,C a=some (.lst xs))\/(n="dict"/\∃kvs,C a=some (.dic kvs))
def xa (n c:String):Bool:=n==c||(n=="bool"&&c=="int")
def gU (a:WE)(c:String):WE:=λτ C Q χ=>a τ C (λx C1=>∃n,iz x C1 n/\Q (.bl (xa n c)) C1) χ
def rN:T->Hw->Prop:=λx C=>∃a xs,x=.ref a/\C a=some (.lst xs)
def bG:T->Hw->Prop:=λx _=>∃z,x=.str z
def Hv:T->List T->Hw->WK->Prop:=λx vs C Q=>∃a xs y,x=.ref a/\vs=[y]/\C a=some (.lst xs)/\xs.length<sizeLine/\Q .non (up C a (.lst (xs++[y])))
def gD:T->List T->Hw->WK->Prop:=λx vs C Q=>∃a xs y,x=.ref a/\vs=[]/\C a=some (.lst xs)/\xs[xs.length-1]?=some y/\Q y (up C a (.lst xs.dropLast))
def lu:T->List T->Hw->WK->Prop:=λx vs C Q=>∃a xs i k y,x=.ref a/\vs=[.int i]/\C a=some (.lst xs)/\ -(2^63)<=i/\i<2^63/\seqIndex? i xs.length=some k/\xs[k]?=some y/\Q y (up C a (.lst (xs.eraseIdx k)))
def Eu (i:Nat):WG:=λv τ C Q _=>Q (τ.set i (some v)) C
def Dp:sW:=λvs τ C Q _=>vs=[]/\Q τ C
def Ro (g:WG)(gs:sW):sW:=λvs τ C Q χ=>∃v r,vs=v::r/\g v τ C (λτ' C'=>gs r τ' C' Q χ) χ
def gP (gs:sW):WG:=λv τ C Q χ=>∃xs,v=.tup xs/\gs xs τ C Q χ
def bj (o i:WE):WG:=λv τ C Q χ=>o τ C (λx C1=>i τ C1 (λy C2=>∃a xs k j,x=.ref a/\y=.int k/\C2 a=some (.lst xs)/\w9 xs.length k=some j/\Q τ (up C2 a (.lst (xs.set j v)))) χ) χ
def Xl:WS:=λD τ C=>D.nx τ C
def Xy (a b:WS):WS:=λD τ C=>a {D with nx:=b D} τ C
def Ln (e:WE):WS:=λD τ C=>e τ C (λ_ C1=>D.nx τ C1) D.xc
def Be (e:WE):WS:=λD τ C=>e τ C D.rt D.xc
def hJ:WS:=λD _ C=>D.rt .non C
def Eo (c:WT)(a b:WS):WS:=λD τ C=>c τ C (λk C1=>if k=true then a D τ C1 else b D τ C1) D.xc
def Lo (e:WE)(g:WG):WS:=λD τ C=>e τ C (λx C1=>g x τ C1 D.nx D.xc) D.xc
def dh:WS:=λD τ C=>D.bk τ C
def oC:WS:=λD τ C=>D.ct τ C
def yM:WS:=λ_ _ _=>False
def yb (g:WG)(b:WS)(ok:Hw->Prop)(D:We):List T->Sw->Hw->Prop
 | [],τ,C=>ok C/\D.nx τ C
 | x::xs,τ,C=>ok C/\g x τ C (λτ2 C2=>b {D with nx:=yb g b ok D xs,ct:=yb g b ok D xs,bk:=D.nx} τ2 C2) D.xc
def qa (i:WI)(g:WG)(b:WS):WS:=λD τ C=>i τ C (λxs ok C1=>yb g b ok D xs τ C1) D.xc
def lU (e:WE):WI:=λτ C R χ=>e τ C (λv C1=>match v with
 | .tup xs=>R xs (λ_=>True) C1
 | .cl xs=>R xs (λ_=>True) C1
 | .str z=>R (z.cps.toList.map λc=>T.str ⟨#[c]⟩) (λ_=>True) C1
 | .ref a=>∃xs,C1 a=some (.lst xs)/\R xs (λC2=>C2 a=some (.lst xs)) C1
 | _=>False) χ
def rng (lo:Int)(n:Nat):List T:=(List.range n).map λk:Nat=>T.int (lo+k)
def bi (a:WA):WI:=λτ C R χ=>a τ C (λvs C1=>∃j:Int,vs=[.int j]/\ -(2^62)<=j/\j<2^62/\R (rng 0 j.toNat) (λ_=>True) C1) χ
def au (a:WA):WI:=λτ C R χ=>a τ C (λvs C1=>∃i j:Int,vs=[.int i,.int j]/\(-(2^62)<=i/\i<2^62/\ -(2^62)<=j/\j<2^62)/\R (rng i (j-i).toNat) (λ_=>True) C1) χ
def av (a:WA):WI:=λτ C R χ=>a τ C (λvs C1=>∃z,vs=[.str z]/\R (z.cps.toList.zipIdx.map λc=>T.tup [.int c.2,.str ⟨#[c.1]⟩]) (λ_=>True) C1) χ
def Aj (cap:List (Option Nat))(τ:Sw):Sw:=cap.map λo=>o.bind λi=>(τ[i]?).join
def nF:WT:=λ_ C Q _=>Q true C
def Kp (g:WG)(c:WT)(e:WE)(ok:Hw->Prop)(τ:Sw)(Q:List T->Hw->Prop)(χ:WX):List T->List T->Hw->Prop
 | [],acc,C=>ok C/\Q acc C
 | x::xs,acc,C=>ok C/\g x τ C (λτ2 C2=>c τ2 C2 (λb C3=>if b=true then e τ2 C3 (λv C4=>acc.length<sizeLine/\Kp g c e ok τ Q χ xs (acc++[v]) C4) χ else Kp g c e ok τ Q χ xs acc C3) χ) χ
def xo (cap:List (Option Nat))(i:WI)(g:WG)(c:WT)(e:WE):WE:=λτ C Q χ=>i τ C (λxs ok C1=>Kp g c e ok (Aj cap τ) (λvs C2=>∀p,C2 p=none->Q (.ref p) (up C2 p (.lst vs))) χ xs [] C1) χ
structure Df where
 n:Nat
 ar:Nat
 body:Calls->WS
def Yg (pr:List Df):Nat->Calls
 | 0=>λ_ _ _ _ _=>False
 | n+1=>λi vs C Q χ=>∃d,pr[i]?=some d/\vs.length=d.ar/\d.body (Yg pr n) {nx:=λ_ C'=>Q .non C',rt:=Q,xc:=χ} (vs.map some++List.replicate (d.n-d.ar) none) C
section
variable {X:Cx}{WZ:List (WP×Obj)}{σ:L2.St}{H:Hp}{s:WR}
def sc:T->Option V
 | .non=>some .non
 | .bl b=>some (.bl b)
 | .int i=>some (.int i)
 | .str z=>some (.str z)
 | _=>none
def Vb {K:WY}(h:sc v=some z)(r:Jh K H x v):x=z/\yd z=true:=by
 cases v with
 | non=>cases h;exact⟨Mm r,FL⟩
 | bl b=>cases h;exact⟨Py r,FL⟩
 | int i=>cases h;exact⟨Yn r,FL⟩
 | str z=>cases h;exact⟨Xm r,FL⟩
 | _=>cases h
def sf (h:sc v=some a)(h':sc w=some b):eqT v w=kg a b:=by
 cases v<;>cases w<;>cases h<;>cases h'<;>unfold eqT<;>rfl
mutual
def Vr:∀(v:T) {n:Nat},Yx v n=true->eqT v v=true
 | .non,_,_=>by unfold eqT;rfl
 | .bl b,_,_=>by unfold eqT;simp
 | .int b,_,_=>by unfold eqT;simp
 | .str b,_,_=>by unfold eqT;simp
 | .tup xs,0,h=>by unfold Yx at h;cases h
 | .tup xs,n+1,h=>by unfold Yx at h;unfold eqT;exact Nl xs h
 | .ref a,_,h=>by unfold Yx at h;cases h
 | .cl a,_,h=>by unfold Yx at h;cases h
def Nl:∀(v:List T) {n:Nat},Ys v n=true->Wi v v=true
 | [],_,_=>by unfold Wi;rfl
 | x::xs,n,h=>by
  unfold Ys at h;rw[CZ] at h;unfold Wi;rw[Vr x h.1,Nl xs h.2];rfl
end
def Xs (h:Yx v n=true)(e:sc v=none):∃ts m,v=.tup ts/\n=m+1/\Ys ts m=true:=by
 cases v with
 | tup ts=>
  cases n with
  | zero=>unfold Yx at h;cases h
  | succ m=>unfold Yx at h;exact⟨ts,m,FL,FL,h⟩
 | ref a=>unfold Yx at h;cases h
 | cl a=>unfold Yx at h;cases h
 | non=>cases e
 | bl b=>cases e
 | int b=>cases e
 | str b=>cases e
def Wg:∀{vs:List T} {n i:Nat} {v:T},Ys vs n=true->vs[i]?=some v->Yx v n=true
 | [],_,_,_,_,e=>by simp at e
 | x::xs,n,0,v,h,e=>by
  unfold Ys at h;rw[CZ] at h;simp at e;subst e;exact h.1
 | x::xs,n,i+1,v,h,e=>by
  unfold Ys at h;rw[CZ] at h;exact Wg h.2 (by simpa using e)
def Ho (I:Zy X WZ σ H s):∀(n:Nat) {v w:T} {x:V},Yx v n=true->Yx w n=true->Jh X.K H x v->Jh X.K H x w->v=w:=by
 intro n
 induction n with
 | zero=>
  intro v w x fv fw rv rw'
  cases ev:sc v with
  | none=>obtain⟨_,_,_,h,_⟩:=Xs fv ev;cases h
  | some a=>
   cases ew:sc w with
   | none=>obtain⟨_,_,_,h,_⟩:=Xs fw ew;cases h
   | some b=>
    obtain⟨e1,_⟩:=Vb ev rv;obtain⟨e2,_⟩:=Vb ew rw';have e:a=b:=e1.symm.trans e2;subst e
    cases v<;>cases ev<;>cases w<;>cases ew<;>rfl
 | succ n ih=>
  intro v w x fv fw rv rw';have lists:∀{ys:List V} {vs ws:List T},Ys vs n=true->Ys ws n=true->Reps X.K H ys vs->Reps X.K H ys ws->vs=ws:=by
   intro ys vs
   induction vs generalizing ys with
   | nil=>
    intro ws _ _ a b;have:=Xe a;subst this
    cases ws with
    | nil=>rfl
    | cons w ws=>obtain⟨_,_,e,_⟩:=Y0 b;cases e
   | cons v vs ihv=>
    intro ws fa fb a b;obtain⟨y,r,rfl,a1,a2⟩:=Y0 a
    cases ws with
    | nil=>have:=Xe b;cases this
    | cons w ws=>
     obtain⟨y',r',e,b1,b2⟩:=Y0 b
     cases e
     unfold Ys at fa fb;rw[CZ] at fa fb;rw[ih fa.1 fb.1 a1 b1,ihv fa.2 fb.2 a2 b2]
  cases ev:sc v with
  | none=>
   obtain⟨ts,m,rfl,em,ft⟩:=Xs fv ev
   cases em
   obtain⟨a,ys,rfl,hq,r⟩:=Yi rv
   cases ew:sc w with
   | none=>
    obtain⟨us,m',rfl,em,fu⟩:=Xs fw ew
    cases em
    obtain⟨b,zs,e,hq',r'⟩:=Yi rw'
    cases e
    have e:=I.tuple_inj hq hq';subst e;rw[lists ft fu r r']
   | some b=>
    obtain⟨e2,f⟩:=Vb ew rw';subst e2
    cases f
  | some a=>
   obtain⟨e1,f⟩:=Vb ev rv
   cases ew:sc w with
   | none=>
    obtain⟨us,m',rfl,em,fu⟩:=Xs fw ew;obtain⟨b,zs,e,hq',r'⟩:=Yi rw';subst e1;subst e
    cases f
   | some b=>
    obtain⟨e2,_⟩:=Vb ew rw';have e:a=b:=e1.symm.trans e2;subst e
    cases v<;>cases ev<;>cases w<;>cases ew<;>rfl
def r6 (ts us:List T)(j:Nat):Bool:=match ts[j]?,us[j]? with
 | some a,some b=>eqT a b
 | _,_=>true
def Ux:∀(vs ws:List T),((List.range (min vs.length ws.length)).all (r6 vs ws)&&vs.length==ws.length)=Wi vs ws
 | [],[]=>by unfold Wi;rfl
 | [],_::_=>by unfold Wi;simp
 | _::_,[]=>by unfold Wi;simp
 | v::vs,w::ws=>by
  unfold Wi;rw[<-Ux vs ws];rw[YF,YF,show min (vs.length+1) (ws.length+1)=min vs.length ws.length+1 by omega,List.range_succ_eq_map,List.all_cons,List.all_map];have e1:r6 (v::vs) (w::ws) 0=eqT v w:=rfl;have e2:(r6 (v::vs) (w::ws)∘Nat.succ)=r6 vs ws:=by funext j;simp[Function.comp_def,r6]
  rw[e1,e2];simp[Bool.and_assoc]
def xn (I:Zy X WZ σ H s):∀(n:Nat) {v w:T} {x y:V} {u u':WQ} {A:WM},Yx v n=true->Yx w n=true->Jh X.K H x v->Jh X.K H y w->Ye x u->Ye y u'->A.units+n<cLine->
  SeqAt.EqAt A s u u' (eqT v w):=by
 intro n
 induction n with
 | zero=>
  intro v w x y u u' A fv fw rv rw' ru ru' hu
  cases ev:sc v with
  | none=>obtain⟨_,_,_,h,_⟩:=Xs fv ev;cases h
  | some a=>
   cases ew:sc w with
   | none=>obtain⟨_,_,_,h,_⟩:=Xs fw ew;cases h
   | some b=>
    obtain⟨rfl,f1⟩:=Vb ev rv;obtain⟨rfl,f2⟩:=Vb ew rw';rw[sf ev ew];exact si ru ru' f1 f2
 | succ n ih=>
  intro v w x y u u' A fv fw rv rw' ru ru' hu;have hu0:A.units<cLine:=by omega
  cases ev:sc v with
  | some a=>
   obtain⟨rfl,f1⟩:=Vb ev rv
   cases ew:sc w with
   | some b=>
    obtain⟨rfl,f2⟩:=Vb ew rw';rw[sf ev ew];exact si ru ru' f1 f2
   | none=>
    obtain⟨ts,m,rfl,em,ft⟩:=Xs fw ew;obtain⟨b,zs,rfl,hq,r⟩:=Yi rw'
    cases ru'
    obtain⟨its,_,p,_⟩:=I.tuple hq
    cases v with
    | non=>cases ev;cases ru;unfold eqT;exact SeqAt.EqAt.none_tuple p hu0
    | bl c=>cases ev;cases ru;unfold eqT;exact SeqAt.EqAt.bool_tuple c p hu0
    | int i=>cases ev;obtain⟨t,rfl⟩:=ru;unfold eqT;exact SeqAt.EqAt.int_tuple i t p hu0
    | str i=>cases ev;obtain⟨t,rfl⟩:=ru;unfold eqT;exact SeqAt.EqAt.str_tuple i t p hu0
    | _=>cases ev
  | none=>
   obtain⟨ts,m,rfl,em,ft⟩:=Xs fv ev
   cases em
   obtain⟨a,ys,rfl,hq,r⟩:=Yi rv
   cases ru
   obtain⟨its,rI,p,_⟩:=I.tuple hq
   cases ew:sc w with
   | some b=>
    obtain⟨rfl,f2⟩:=Vb ew rw'
    cases w with
    | non=>cases ew;cases ru';unfold eqT;exact SeqAt.EqAt.tuple_none p hu0
    | bl c=>cases ew;cases ru';unfold eqT;exact SeqAt.EqAt.tuple_bool c p hu0
    | int i=>cases ew;obtain⟨t,rfl⟩:=ru';unfold eqT;exact SeqAt.EqAt.tuple_int i t p hu0
    | str i=>cases ew;obtain⟨t,rfl⟩:=ru';unfold eqT;exact SeqAt.EqAt.tuple_str i t p hu0
    | _=>cases ew
   | none=>
    obtain⟨us,m',rfl,em,fu⟩:=Xs fw ew
    cases em
    obtain⟨b,zs,rfl,hq',r'⟩:=Yi rw'
    cases ru'
    obtain⟨its',rI',p',_⟩:=I.tuple hq';by_cases hne:a=b
    ·subst hne;have e:=Ho I (n+1) fv fw (Ju hq r) (Ju hq' r');rw[e,Vr _ fw];exact SeqAt.EqAt.same _
    ·have l1:its.toArray.size=ts.length:=by rw[XJ,<-rI.length,r.length]
     have l2:its'.toArray.size=us.length:=by rw[XJ,<-rI'.length,r'.length]
     have key:=SeqAt.EqAt.of_refs hne (SeqAt.RcAt.tuples (A:=A) (e:=r6 ts us) p p' hu0 (λj h1 h2=>by
      have i1:ts[j]?=some (ts[j]'(by omega)):=by simp[l1▸h1]
      have i2:us[j]?=some (us[j]'(by omega)):=by simp[l2▸h2]
      obtain⟨x1,g1,q1⟩:=r.get i1;obtain⟨x2,g2,q2⟩:=r'.get i2;obtain⟨u1,k1,z1⟩:=rI.get g1;obtain⟨u2,k2,z2⟩:=rI'.get g2;have e1:its.toArray[j]=u1:=by
       have:its[j]?=some its.toArray[j]:=by simp
       rw[k1] at this;exact(YH this).symm
      have e2:its'.toArray[j]=u2:=by
       have:its'[j]?=some its'.toArray[j]:=by simp
       rw[k2] at this;exact(YH this).symm
      rw[e1,e2];unfold r6;simp only[i1,i2];exact ih (Wg ft i1) (Wg fu i2) q1 q2 z1 z2 (by show A.units+1+n<cLine;omega)))
     rw[l1,l2,Ux] at key;unfold eqT;exact key
end
def Xv (K:WY)(H:Hp)(σ:L2.St)(τ:Sw):Prop:=σ.length=τ.length/\∀(i:Nat) (v:T),τ[i]?=some (some v)->∃x,σ[i]?=some (some x)/\Jh K H x v
def Xv.tx {K:WY}(h:Xv K H σ τ)(t:Tx H H'):Xv K H' σ τ:=⟨h.1,λi v e=>let ⟨x,a,b⟩:=h.2 i v e;⟨x,a,b.tx t⟩⟩
def Xv.set {K:WY}(h:Xv K H σ τ)(r:Jh K H x v):Xv K H (σ.set i (some x)) (τ.set i (some v)):=by
 refine⟨by rw[CU,CU];exact h.1,λj w e=>?_⟩;by_cases hj:i=j
 ·subst hj;by_cases hi:i<τ.length
  ·rw[CD hi] at e
   cases e
   exact⟨x,CD (by rw[h.1];exact hi),r⟩
  ·rw[EV (by rw[CU];omega)] at e
   cases e
 ·rw[CT hj] at e |-;exact h.2 j w e
abbrev QE (K:WY)(F H:Hp)(Q:VK)(Q':WK):Prop:=∀x v H' C',Rl K F H' C'->Tx H H'->Jh K H' x v->Q' v C'->Q x H'
abbrev QT (K:WY)(F H:Hp)(Q:Bool->Hp->Prop)(Q':Bool->Hw->Prop):Prop:=∀b H' C',Rl K F H' C'->Tx H H'->Q' b C'->Q b H'
abbrev QA (K:WY)(F H:Hp)(Q:List V->Hp->Prop)(Q':List T->Hw->Prop):Prop:=∀xs vs H' C',Rl K F H' C'->Tx H H'->Reps K H' xs vs->Q' vs C'->Q xs H'
def QE.at {K:WY}{F H H1:Hp}(q:QE K F H Q Q')(t:Tx H H1):QE K F H1 Q Q':=λx v H' C' R t'=>q x v H' C' R (t.trans t')
def Ug (K:WY)(te:TE)(we:WE):Prop:=∀(F H:Hp) (C:Hw) (σ:L2.St) (τ:Sw) (Q:VK) (Q':WK) (χ:WX),Rl K F H C->Xv K H σ τ->we τ C Q' χ->QE K F H Q Q'->te σ H Q
def Mz (K:WY)(te:TT)(we:WT):Prop:=∀(F H:Hp) (C:Hw) (σ:L2.St) (τ:Sw) (Q:Bool->Hp->Prop) (Q':Bool->Hw->Prop) (χ:WX),Rl K F H C->Xv K H σ τ->we τ C Q' χ->QT K F H Q Q'->te σ H Q
def j5 (K:WY)(te:TA)(we:WA):Prop:=∀(F H:Hp) (C:Hw) (σ:L2.St) (τ:Sw) (Q:List V->Hp->Prop) (Q':List T->Hw->Prop) (χ:WX),Rl K F H C->Xv K H σ τ->we τ C Q' χ->QA K F H Q Q'->te σ H Q
def kM (K:WY)(r:R2)(w:W2):Prop:=∀(F H:Hp) (C:Hw) (x y:V) (v u:T) (Q:VK) (Q':WK),Rl K F H C->Jh K H x v->Jh K H y u->w v u C Q'->QE K F H Q Q'->r x y H Q
def fE (K:WY)(r:List V->Hp->VK->Prop)(w:List T->Hw->WK->Prop):Prop:=∀(F H:Hp) (C:Hw) (xs:List V) (vs:List T) (Q:VK) (Q':WK),Rl K F H C->Reps K H xs vs->w vs C Q'->QE K F H Q Q'->r xs H Q
def cB (K:WY)(r:V->List V->Hp->VK->Prop)(w:T->List T->Hw->WK->Prop):Prop:=∀(F H:Hp) (C:Hw) (x:V) (v:T) (xs:List V) (vs:List T) (Q:VK) (Q':WK),Rl K F H C->Jh K H x v->Reps K H xs vs->w v vs C Q'->QE K F H Q Q'->r x xs H Q
def cA (K:WY)(r:V->Hp->VK->Prop)(w:T->Hw->WK->Prop):Prop:=∀(F H:Hp) (C:Hw) (x:V) (v:T) (Q:VK) (Q':WK),Rl K F H C->Jh K H x v->w v C Q'->QE K F H Q Q'->r x H Q
def Js (X:Cx)(e:WW)(w:WE):Prop:=∃t,PE X e t/\Ug X.K t w
def wX (X:Cx)(e:WW)(w:WT):Prop:=∃t,PT X e t/\Mz X.K t w
def kO (X:Cx)(e:WW)(w:WT):Prop:=∃t,PW X e t/\Mz X.K t w
def yu (X:Cx)(es:List WW)(w:WA):Prop:=∃t,PA X es t/\j5 X.K t w
def Hf (X:Cx)(f:WQ->WQ->Sem WQ)(w:W2):Prop:=∃r,Kt X f r/\kM X.K r w
def aJ (X:Cx)(w:W2):Prop:=∃r,rD X r/\kM X.K r w
def Nd (X:Cx)(f:WQ)(w:List T->Hw->WK->Prop):Prop:=∃r,Wy X f r/\fE X.K r w
def ia (X:Cx)(id:String)(w:T->List T->Hw->WK->Prop):Prop:=∃r,fU X id r/\cB X.K r w
section
variable {K:WY}{ta tb tc:TE}{wa wb wc:WE}{r r':R2}{w w':W2}
def iO:Ug K (i5 i) (Yb i):=λF H C σ τ Q Q' χ R S h q=>by
 obtain⟨v,e,h⟩:=h;obtain⟨x,ex,rx⟩:=S.2 i v e;exact⟨x,ex,q x v H C R (Tx.refl H) rx h⟩
def fN (h:∀H,Jh K H x v):Ug K (tC x) (eC v):=λF H C σ τ Q Q' χ R S w q=>q x v H C R (Tx.refl H) (h H) w
def rY (ha:Ug K ta wa)(hb:Ug K tb wb)(hr:kM K r w):Ug K (i8 r ta tb) (Yk w wa wb):=λF H C σ τ Q Q' χ R S h q=>by
 refine ha F H C σ τ _ _ χ R S h λx v H1 C1 R1 t1 rx h1=>?_;refine hb F H1 C1 σ τ _ _ χ R1 (S.tx t1) h1 λy u H2 C2 R2 t2 ry h2=>?_;exact hr F H2 C2 x y v u Q Q' R2 (rx.tx t2) ry h2 (QE.at q (t1.trans t2))
def eZ {r:V->Hp->VK->Prop}{w:T->Hw->WK->Prop}(ha:Ug K ta wa)(hr:cA K r w):Ug K (cQ r ta) (dW w wa):=λF H C σ τ Q Q' χ R S h q=>by
 refine ha F H C σ τ _ _ χ R S h λx v H1 C1 R1 t1 rx h1=>?_;exact hr F H1 C1 x v Q Q' R1 rx h1 (QE.at q t1)
def iU:j5 K ug Zv:=λF H C σ τ Q Q' χ R S h q=>q [] [] H C R (Tx.refl H) Yv h
def nQ (ha:Ug K ta wa)(hb:j5 K t wt):j5 K (ui ta t) (Zz wa wt):=λF H C σ τ Q Q' χ R S h q=>by
 refine ha F H C σ τ _ _ χ R S h λx v H1 C1 R1 t1 rx h1=>?_;exact hb F H1 C1 σ τ _ _ χ R1 (S.tx t1) h1 λxs vs H2 C2 R2 t2 rs h2=>q (x::xs) (v::vs) H2 C2 R2 (t1.trans t2) (Yh (rx.tx t2) rs) h2
def iP (ha:j5 K t wt):Ug K (i6 t) (Ik wt):=λF H C σ τ Q Q' χ R S h q=>by
 refine ha F H C σ τ _ _ χ R S h λxs vs H1 C1 R1 t1 rs h1=>⟨by rw[rs.length];exact h1.1,λp hp=>?_⟩;exact q _ _ _ C1 (R1.hid hp) (t1.trans (Tx.new hp)) (Ju (Uz.of Z3) (rs.tx (Tx.new hp))) h1.2
def iV (ha:j5 K t wt):Ug K (iD t) (sj wt):=λF H C σ τ Q Q' χ R S h q=>by
 refine ha F H C σ τ _ _ χ R S h λxs vs H1 C1 R1 t1 rs h1=>⟨by rw[rs.length];exact h1.1,λp hp=>?_⟩;exact q _ _ _ _ (R1.newL hp rs) (t1.trans (Tx.new hp)) Y6 (h1.2 p (R1.free hp))
def h7 {r:List V->Hp->VK->Prop}{w:List T->Hw->WK->Prop}(hr:fE K r w)(ha:j5 K t wt):Ug K (eV r t) (gW w wt):=λF H C σ τ Q Q' χ R S h q=>by
 refine ha F H C σ τ _ _ χ R S h λxs vs H1 C1 R1 t1 rs h1=>?_;exact hr F H1 C1 xs vs Q Q' R1 rs h1 (QE.at q t1)
def db (hc:Mz K tt wt)(ha:Ug K ta wa)(hb:Ug K tb wb):Ug K (cT tt ta tb) (dY wt wa wb):=λF H C σ τ Q Q' χ R S h q=>by
 refine hc F H C σ τ _ _ χ R S h λk H1 C1 R1 t1 h1=>?_
 cases k with
 | true=>exact ha F H1 C1 σ τ Q Q' χ R1 (S.tx t1) h1 (QE.at q t1)
 | false=>exact hb F H1 C1 σ τ Q Q' χ R1 (S.tx t1) h1 (QE.at q t1)
def h9 (ha:Ug K ta wa)(hb:Ug K tb wb):Ug K (oy ta tb) (kr wa wb):=λF H C σ τ Q Q' χ R S h q=>by
 refine ha F H C σ τ _ _ χ R S h λx v H1 C1 R1 t1 rx h1=>?_;obtain⟨k,rfl,h1⟩:=h1;refine⟨k,Py rx,?_⟩
 cases k with
 | true=>exact hb F H1 C1 σ τ Q Q' χ R1 (S.tx t1) h1 (QE.at q t1)
 | false=>exact q _ _ H1 C1 R1 t1 Jq h1
def iT (ha:Ug K ta wa):Ug K (ou ta) (km wa):=λF H C σ τ Q Q' χ R S h q=>by
 refine ha F H C σ τ _ _ χ R S h λx v H1 C1 R1 t1 rx h1=>?_;obtain⟨k,rfl,h1⟩:=h1;exact⟨k,Py rx,q _ _ H1 C1 R1 t1 Jq h1⟩
def de (ha:Ug K ta wa):Mz K (ot ta) (Kz wa):=λF H C σ τ Q Q' χ R S h q=>by
 refine ha F H C σ τ _ _ χ R S h λx v H1 C1 R1 t1 rx h1=>?_;obtain⟨k,rfl,h1⟩:=h1;exact⟨k,Py rx,q k H1 C1 R1 t1 h1⟩
def iQ (ha:Ug K ta wa):Mz K (λσ H Q=>ta σ H λx H'=>∃k,kL K x H' k/\Q k H') (nG wa):=λF H C σ τ Q Q' χ R S h q=>by
 refine ha F H C σ τ _ _ χ R S h λx v H1 C1 R1 t1 rx h1=>?_;obtain⟨k,hk,h1⟩:=h1;refine⟨k,?_,q k H1 C1 R1 t1 h1⟩;have emp:∀{ys:List V} {xs:List T},Reps K H1 ys xs->ys.isEmpty=xs.isEmpty:=λ{ys xs} r=>by
  have:=r.length
  cases ys<;>cases xs<;>simp_all
 cases v with
 | non=>cases Mm rx;exact hk
 | bl b=>cases Py rx;exact hk
 | int i=>cases Yn rx;exact hk
 | str z=>cases Xm rx;exact hk
 | tup xs=>
  obtain⟨a,ys,rfl,hq,r⟩:=Yi rx;refine .inr (.inl ⟨ys,hq,?_⟩);rw[emp r];exact hk
 | cl xs=>
  obtain⟨a,ys,rfl,hq,r⟩:=N5 rx;refine .inl ⟨ys,hq.sq,?_⟩;rw[emp r];exact hk
 | ref a=>
  cases Z1 rx
  rcases hk with⟨xs,hx,e⟩ | ⟨kvs,hx,e⟩
  ·obtain⟨ys,hy,r⟩:=R1.lst hx;refine .inl ⟨ys,J9.of hy,?_⟩;rw[emp r];exact e
  ·obtain⟨ks,hy,r⟩:=R1.obj a _ hx;refine .inr (.inr ⟨ks,hy,?_⟩);have:=Paired.length r;rw[e]
   cases ks<;>cases kvs<;>simp_all
def df {w w':WT}(ha:Mz K t w)(hb:Mz K u w'):Mz K (iN t u) (eY w w'):=λF H C σ τ Q Q' χ R S h q=>by
 refine ha F H C σ τ _ _ χ R S h λk H1 C1 R1 t1 h1=>?_
 cases k with
 | true=>exact hb F H1 C1 σ τ Q Q' χ R1 (S.tx t1) h1 λb H' C' R' t'=>q b H' C' R' (t1.trans t')
 | false=>exact q _ H1 C1 R1 t1 h1
def iS {w w':WT}(ha:Mz K t w)(hb:Mz K u w'):Mz K (cR t u) (El w w'):=λF H C σ τ Q Q' χ R S h q=>by
 refine ha F H C σ τ _ _ χ R S h λk H1 C1 R1 t1 h1=>?_
 cases k with
 | true=>exact q _ H1 C1 R1 t1 h1
 | false=>exact hb F H1 C1 σ τ Q Q' χ R1 (S.tx t1) h1 λb H' C' R' t'=>q b H' C' R' (t1.trans t')
def da {w:WT}(ha:Mz K t w):Mz K (i9 t) (eO w):=λF H C σ τ Q Q' χ R S h q=>by
 refine ha F H C σ τ _ _ χ R S h λk H1 C1 R1 t1 h1=>?_;exact q _ H1 C1 R1 t1 h1
end
section
variable {X:Cx}
set_option tactic.hygienic true
def Ww:Hf X (binaryOp .Add) A4:=⟨_,mY.or (yV.or (mX.or (uO.or q8))),λF H C x y v u Q Q' R rx ry h q=>by
 cases v<;>cases u<;>first | exact False.elim h | skip
 case int.int i j=>cases Yn rx;cases Yn ry;exact .inl ⟨i,j,FL,FL,q _ _ H C R (Tx.refl H) Ja h⟩
 case str.str i j=>cases Xm rx;cases Xm ry;exact .inr (.inl ⟨i,j,FL,FL,h.1,q _ _ H C R (Tx.refl H) Rh h.2⟩)
 case ref.ref a b=>
  cases Z1 rx;cases Z1 ry
  obtain⟨xs,ys,ha,hb,hl,h⟩:=h;obtain⟨zs,hz,rz⟩:=R.lst ha;obtain⟨ws,hw,rw'⟩:=R.lst hb;exact .inr (.inr (.inl ⟨a,b,zs,ws,FL,FL,hz,hw,by rw[rz.length,rw'.length];exact hl,λp hp=>q _ _ _ _ (R.newL hp (rz.app rw')) (Tx.new hp) Y6 (h p (R.free hp))⟩))
 case tup.tup xs ys=>
  obtain⟨a,zs,rfl,hz,rz⟩:=Yi rx;obtain⟨b,ws,rfl,hw,rw'⟩:=Yi ry;by_cases e:zs=[]
  ·subst e;have e2:xs=[]:=by
    have:=rz.length
    cases xs with
    | nil=>rfl
    | cons _ _=>cases this
   subst e2;exact .inr (.inr (.inr (.inl ⟨a,b,ws,FL,FL,hz,hw,q _ _ H C R (Tx.refl H) (Ju hw rw') h.2⟩)))
  ·refine .inr (.inr (.inr (.inr ⟨a,b,zs,ws,FL,FL,hz,hw,e,by rw[rz.length,rw'.length];exact h.1,λe2=>?_,λe2 p hp=>?_⟩)))
   ·subst e2;have e3:ys=[]:=by
     have:=rw'.length
     cases ys with
     | nil=>rfl
     | cons _ _=>cases this
    subst e3;refine q _ _ H C R (Tx.refl H) (Ju hz rz) ?_;have:=h.2;rw[YK] at this;exact this
   ·exact q _ _ _ C (R.hid hp) (Tx.new hp) (Ju (Uz.of Z3) ((rz.app rw').tx (Tx.new hp))) h.2⟩
def U9:Hf X (binaryOp .Sub) Nt:=⟨_,mR,λF H C x y v u Q Q' R rx ry h q=>by
 cases v<;>cases u<;>first | exact False.elim h | skip
 case int.int i j=>cases Yn rx;cases Yn ry;exact⟨i,j,FL,FL,q _ _ H C R (Tx.refl H) Ja h⟩⟩
def Di:Hf X (binaryOp .Mult) yB:=⟨_,mU,λF H C x y v u Q Q' R rx ry h q=>by
 cases v<;>cases u<;>first | exact False.elim h | skip
 case int.int i j=>cases Yn rx;cases Yn ry;exact⟨i,j,FL,FL,h.1,q _ _ H C R (Tx.refl H) Ja h.2⟩⟩
def Lu:Hf X (binaryOp .Mod) A3:=⟨_,mV,λF H C x y v u Q Q' R rx ry h q=>by
 cases v<;>cases u<;>first | exact False.elim h | skip
 case int.int i j=>cases Yn rx;cases Yn ry;exact⟨i,j,FL,FL,h.1,q _ _ H C R (Tx.refl H) Ja h.2⟩⟩
def g6:Hf X (binaryOp .Pow) ip:=⟨_,mT,λF H C x y v u Q Q' R rx ry h q=>by
 cases v<;>cases u<;>first | exact False.elim h | skip
 case int.int i j=>cases Yn rx;cases Yn ry;exact⟨i,j,FL,FL,h.1,q _ _ H C R (Tx.refl H) Ja h.2⟩⟩
def gA:Hf X (compareOp .Lt) eD:=⟨_,gv.or xZ,λF H C x y v u Q Q' R rx ry h q=>by
 cases v<;>cases u<;>first | exact False.elim h | skip
 case int.int i j=>cases Yn rx;cases Yn ry;exact .inl ⟨i,j,FL,FL,q _ _ H C R (Tx.refl H) Jq h⟩
 case str.str i j=>cases Xm rx;cases Xm ry;exact .inr ⟨i,j,FL,FL,q _ _ H C R (Tx.refl H) Jq h⟩⟩
def wn:Hf X (compareOp .Gt) eE:=⟨_,gw,λF H C x y v u Q Q' R rx ry h q=>by
 cases v<;>cases u<;>first | exact False.elim h | skip
 case int.int i j=>cases Yn rx;cases Yn ry;exact⟨i,j,FL,FL,q _ _ H C R (Tx.refl H) Jq h⟩⟩
def dB:Hf X (compareOp .GtE) cO:=⟨_,gx,λF H C x y v u Q Q' R rx ry h q=>by
 cases v<;>cases u<;>first | exact False.elim h | skip
 case int.int i j=>cases Yn rx;cases Yn ry;exact⟨i,j,FL,FL,q _ _ H C R (Tx.refl H) Jq h⟩⟩
set_option tactic.hygienic false
def dw (X:Cx)(f:WQ->WQ->Sem WQ):R2:=λx y H Q=>∀(WZ:List (WP×Obj)) (s:WR) (σ:L2.St) (v u:WQ),Zy X WZ σ H s->Ye x v->Ye y u->wpAny (model X.prog X.w) X.A (f v u) (EP X WZ σ Q) X.xe s
def Bh {f:WQ->WQ->Sem WQ}:Kt X f (dw X f):=λWZ s σ H x y v u Q I rx ry h=>h WZ s σ v u I rx ry
def zP {A:WM}{n:Nat}(I:Zy X WZ σ H s)(r:Reps X.K H ys ts)(r':Reps X.K H zs us)(rI:Yd ys its)(rI':Yd zs its')
  (f:Ys ts n=true) (f':Ys us n=true) (hu:A.units+n<cLine):
  ∀j (h1:j<its.toArray.size) (h2:j<its'.toArray.size),SeqAt.EqAt A s its.toArray[j] its'.toArray[j] (r6 ts us j):=λj h1 h2=>by
 have l1:its.toArray.size=ts.length:=by rw[XJ,<-rI.length,r.length]
 have l2:its'.toArray.size=us.length:=by rw[XJ,<-rI'.length,r'.length]
 have i1:ts[j]?=some (ts[j]'(by omega)):=by simp[l1▸h1]
 have i2:us[j]?=some (us[j]'(by omega)):=by simp[l2▸h2]
 obtain⟨x1,g1,q1⟩:=r.get i1;obtain⟨x2,g2,q2⟩:=r'.get i2;obtain⟨u1,k1,z1⟩:=rI.get g1;obtain⟨u2,k2,z2⟩:=rI'.get g2;have e1:its.toArray[j]=u1:=by
  have:its[j]?=some its.toArray[j]:=by simp
  rw[k1] at this;exact(YH this).symm
 have e2:its'.toArray[j]=u2:=by
  have:its'[j]?=some its'.toArray[j]:=by simp
  rw[k2] at this;exact(YH this).symm
 rw[e1,e2];unfold r6;simp only[i1,i2];exact xn I n (Wg f i1) (Wg f' i2) q1 q2 z1 z2 hu
def tZ {vs ws:List T}(h:vs.length≠ws.length):Wi vs ws=false:=by
 rw[<-Ux,show(vs.length==ws.length)=false from beq_eq_false_iff_ne.mpr h,Bool.and_false]
def wI {vs ws:List T}(h:vs.length=ws.length):(List.range vs.length).all (r6 vs ws)=Wi vs ws:=by
 rw[<-Ux,h,Nat.min_self,XU,Bool.and_true]
def di {u u':WQ}{A:WM}(I:Zy X WZ σ H s)(fv:Yx v n=true)(fw:Yx w n=true)(rv:Jh X.K H x v)(rw':Jh X.K H y w)
  (ru:Ye x u) (ru':Ye y u') (hu:A.units+n+1<cLine):SeqAt.RcAt A s u u' (eqT v w)/\SeqAt.RcNeAt A s u u' (!eqT v w):=by
 have hu0:A.units<cLine:=by omega
 cases ev:sc v with
 | some a=>
  obtain⟨rfl,f1⟩:=Vb ev rv
  cases ew:sc w with
  | some b=>
   obtain⟨rfl,f2⟩:=Vb ew rw'
   cases v with
   | non=>
    cases ev;cases ru
    cases w with
    | non=>cases ew;cases ru';unfold eqT;exact⟨.none_none,.none_none⟩
    | bl c=>cases ew;cases ru';unfold eqT;exact⟨.none_bool c,.none_bool c⟩
    | int c=>cases ew;obtain⟨t,rfl⟩:=ru';unfold eqT;exact⟨.none_int c t,.none_int c t⟩
    | str c=>cases ew;obtain⟨t,rfl⟩:=ru';unfold eqT;exact⟨.none_str c t,.none_str c t⟩
    | _=>cases ew
   | bl d=>
    cases ev;cases ru
    cases w with
    | non=>cases ew;cases ru';unfold eqT;exact⟨.bool_none d,.bool_none d⟩
    | bl c=>cases ew;cases ru';unfold eqT;exact⟨.bool_bool d c,.bool_bool d c⟩
    | int c=>cases ew;obtain⟨t,rfl⟩:=ru';unfold eqT;exact⟨.bool_int d c t,.bool_int d c t⟩
    | str c=>cases ew;obtain⟨t,rfl⟩:=ru';unfold eqT;exact⟨.bool_str d c t,.bool_str d c t⟩
    | _=>cases ew
   | int d=>
    cases ev;obtain⟨t',rfl⟩:=ru
    cases w with
    | non=>cases ew;cases ru';unfold eqT;exact⟨.int_none d t',.int_none d t'⟩
    | bl c=>cases ew;cases ru';unfold eqT;exact⟨.int_bool d t' c,.int_bool d t' c⟩
    | int c=>cases ew;obtain⟨t,rfl⟩:=ru';unfold eqT;exact⟨.int_int d t' c t,.int_int d t' c t⟩
    | str c=>cases ew;obtain⟨t,rfl⟩:=ru';unfold eqT;exact⟨.int_str d t' c t,.int_str d t' c t⟩
    | _=>cases ew
   | str d=>
    cases ev;obtain⟨t',rfl⟩:=ru
    cases w with
    | non=>cases ew;cases ru';unfold eqT;exact⟨.str_none d t',.str_none d t'⟩
    | bl c=>cases ew;cases ru';unfold eqT;exact⟨.str_bool d t' c,.str_bool d t' c⟩
    | int c=>cases ew;obtain⟨t,rfl⟩:=ru';unfold eqT;exact⟨.str_int d t' c t,.str_int d t' c t⟩
    | str c=>cases ew;obtain⟨t,rfl⟩:=ru';unfold eqT;exact⟨.str_str d t' c t,.str_str d t' c t⟩
    | _=>cases ew
   | _=>cases ev
  | none=>
   obtain⟨ts,m,rfl,em,ft⟩:=Xs fw ew;obtain⟨b,zs,rfl,hq,r⟩:=Yi rw'
   cases ru'
   obtain⟨its,_,p,_⟩:=I.tuple hq
   cases v with
   | non=>cases ev;cases ru;unfold eqT;exact⟨.none_tuple p hu0,.none_tuple p hu0⟩
   | bl c=>cases ev;cases ru;unfold eqT;exact⟨.bool_tuple c p hu0,.bool_tuple c p hu0⟩
   | int i=>cases ev;obtain⟨t,rfl⟩:=ru;unfold eqT;exact⟨.int_tuple i t p hu0,.int_tuple i t p hu0⟩
   | str i=>cases ev;obtain⟨t,rfl⟩:=ru;unfold eqT;exact⟨.str_tuple i t p hu0,.str_tuple i t p hu0⟩
   | _=>cases ev
 | none=>
  obtain⟨ts,m,rfl,em,ft⟩:=Xs fv ev;subst em;obtain⟨a,ys,rfl,hq,r⟩:=Yi rv
  cases ru
  obtain⟨its,rI,p,_⟩:=I.tuple hq
  cases ew:sc w with
  | some b=>
   obtain⟨rfl,f2⟩:=Vb ew rw'
   cases w with
   | non=>cases ew;cases ru';unfold eqT;exact⟨.tuple_none p hu0,.tuple_none p hu0⟩
   | bl c=>cases ew;cases ru';unfold eqT;exact⟨.tuple_bool c p hu0,.tuple_bool c p hu0⟩
   | int i=>cases ew;obtain⟨t,rfl⟩:=ru';unfold eqT;exact⟨.tuple_int i t p hu0,.tuple_int i t p hu0⟩
   | str i=>cases ew;obtain⟨t,rfl⟩:=ru';unfold eqT;exact⟨.tuple_str i t p hu0,.tuple_str i t p hu0⟩
   | _=>cases ew
  | none=>
   obtain⟨us,m',rfl,em,fu⟩:=Xs fw ew
   cases em
   obtain⟨b,zs,rfl,hq',r'⟩:=Yi rw'
   cases ru'
   obtain⟨its',rI',p',_⟩:=I.tuple hq';have l1:its.toArray.size=ts.length:=by rw[XJ,<-rI.length,r.length]
   have l2:its'.toArray.size=us.length:=by rw[XJ,<-rI'.length,r'.length]
   have hi:=zP (A:=A.in1) I r r' rI rI' ft fu (by show A.units+1+m<cLine;omega);have k1:=SeqAt.RcAt.tuples (A:=A) p p' hu0 hi;have k2:=SeqAt.RcNeAt.tuples (A:=A) p p' hu0 hi;rw[l1,l2,Ux] at k1 k2;unfold eqT;exact⟨k1,k2⟩
def jV {A:WM}{a:WP}{its:List WQ}(I:Zy X WZ σ H s)(fw:Yx w n=true)(rw':Jh X.K H y w)(ru':Ye y u')(hu0:A.units<cLine)
  (p:s.heap.IsList a its.toArray):(SeqAt.RcAt A s (.ref a) u' false/\SeqAt.RcNeAt A s (.ref a) u' true)/\(SeqAt.RcAt A s u' (.ref a) false/\SeqAt.RcNeAt A s u' (.ref a) true):=by
 cases w with
 | non=>cases Mm rw';cases ru';exact⟨⟨.list_none p hu0,.list_none p hu0⟩,.none_list p hu0,.none_list p hu0⟩
 | bl c=>cases Py rw';cases ru';exact⟨⟨.list_bool c p hu0,.list_bool c p hu0⟩,.bool_list c p hu0,.bool_list c p hu0⟩
 | int c=>cases Yn rw';obtain⟨t,rfl⟩:=ru';exact⟨⟨.list_int c t p hu0,.list_int c t p hu0⟩,.int_list c t p hu0,.int_list c t p hu0⟩
 | str c=>cases Xm rw';obtain⟨t,rfl⟩:=ru';exact⟨⟨.list_str c t p hu0,.list_str c t p hu0⟩,.str_list c t p hu0,.str_list c t p hu0⟩
 | tup ts=>
  obtain⟨b,zs,rfl,hq,r⟩:=Yi rw'
  cases ru'
  obtain⟨its',_,p',_⟩:=I.tuple hq;exact⟨⟨.list_tuple p p' hu0,.list_tuple p p' hu0⟩,.tuple_list p' p hu0,.tuple_list p' p hu0⟩
 | ref b=>unfold Yx at fw;cases fw
 | cl b=>unfold Yx at fw;cases fw
def oI (neg:Bool)(hu:X.A.units+150<cLine):Hf X (compareOp (if neg then .NotEq else .Eq)) (Nu neg):=⟨_,Bh,λF H C x y v u Q Q' R rx ry h q WZ s σ v' u' I r1 r2=>by
 have fin:∀{k:Bool},SeqAt.RcAt X.A s v' u' k/\SeqAt.RcNeAt X.A s v' u' (!k)->Q (.bl (if neg then !k else k)) H->wpAny (model X.prog X.w) X.A (compareOp (if neg then .NotEq else .Eq) v' u') (EP X WZ σ Q) X.xe s:=λ{k} e hq=>by
  cases neg with
  | true=>exact EqBoolInt.of_rcne e.2 ⟨.bl (!k),H,I,FL,hq⟩
  | false=>exact EqBoolInt.of_rc e.1 ⟨.bl k,H,I,FL,hq⟩
 have two:∀{v u:T},Jh X.K H x v->Jh X.K H y u->Yr v/\Yr u/\Q' (.bl (if neg then !eqT v u else eqT v u)) C->wpAny (model X.prog X.w) X.A (compareOp (if neg then .NotEq else .Eq) v' u') (EP X WZ σ Q) X.xe s:=λ{v u} rx ry h=>
  fin (di I h.1 h.2.1 rx ry r1 r2 (show X.A.units+100+1<cLine by omega)) (q _ _ H C R (Tx.refl H) Jq h.2.2)
 have hn:(if neg then !false else false)=neg:=by cases neg<;>rfl
 have lft:∀{a:WP} {u:T},v'=.ref a->Jh X.K H y u->(∃xs,C a=some (.lst xs))/\Yr u/\Q' (.bl neg) C->wpAny (model X.prog X.w) X.A (compareOp (if neg then .NotEq else .Eq) v' u') (EP X WZ σ Q) X.xe s:=λ{a u} ev ry h=>by
  obtain⟨⟨xs,hx⟩,f,hq⟩:=h;obtain⟨ys,hy,r⟩:=R.lst hx;obtain⟨its,_,p,_⟩:=I.list (J9.of hy);have z:=(jV (A:=X.A) I f ry r2 (by omega) p.isList).1;subst ev;refine fin (k:=false) z ?_;rw[hn];exact q _ _ H C R (Tx.refl H) Jq hq
 have rgt:∀{b:WP} {v:T},u'=.ref b->Jh X.K H x v->(∃xs,C b=some (.lst xs))/\Yr v/\Q' (.bl neg) C->wpAny (model X.prog X.w) X.A (compareOp (if neg then .NotEq else .Eq) v' u') (EP X WZ σ Q) X.xe s:=λ{b v} eu rx h=>by
  obtain⟨⟨xs,hx⟩,f,hq⟩:=h;obtain⟨ys,hy,r⟩:=R.lst hx;obtain⟨its,_,p,_⟩:=I.list (J9.of hy);have z:=(jV (A:=X.A) I f rx r1 (by omega) p.isList).2;subst eu;refine fin (k:=false) z ?_;rw[hn];exact q _ _ H C R (Tx.refl H) Jq hq
 cases v with
 | ref a=>
  have ev:v'=.ref a:=by cases Z1 rx;exact r1
  cases u with
  | ref b=>
   have eu:u'=.ref b:=by cases Z1 ry;exact r2
   obtain⟨xs,ys,ha,hb,hf,hq⟩:=h;obtain⟨zs,hz,rz⟩:=R.lst ha;obtain⟨ws,hw,rw'⟩:=R.lst hb;obtain⟨its,rI,p,_⟩:=I.list (J9.of hz);obtain⟨its',rI',p',_⟩:=I.list (J9.of hw);have l1:its.toArray.size=xs.length:=by rw[XJ,<-rI.length,rz.length]
   have l2:its'.toArray.size=ys.length:=by rw[XJ,<-rI'.length,rw'.length]
   subst ev;subst eu;refine fin ?_ (q _ _ H C R (Tx.refl H) Jq hq);by_cases hl:xs.length=ys.length
   ·obtain⟨f1,f2⟩:=hf hl;have hi:=zP (A:=X.A.in1) I rz rw' rI rI' f1 f2 (by show X.A.units+1+100<cLine;omega);have k1:=SeqAt.RcAt.lists (A:=X.A) p.isList p'.isList (by rw[l1,l2,hl]) (by omega) hi;have k2:=SeqAt.RcNeAt.lists (A:=X.A) p.isList p'.isList (by rw[l1,l2,hl]) (by omega) hi;rw[l1,wI hl] at k1 k2;exact⟨k1,k2⟩
   ·rw[tZ hl];have hne:(its.toArray.size !=its'.toArray.size)=true:=by rw[l1,l2];exact bne_iff_ne.mpr hl
    exact⟨SeqAt.RcAt.lists_lengths p.isList p'.isList hne (by omega),SeqAt.RcNeAt.lists_lengths p.isList p'.isList hne (by omega)⟩
  | non=>exact lft ev ry h
  | bl b=>exact lft ev ry h
  | int b=>exact lft ev ry h
  | str b=>exact lft ev ry h
  | tup b=>exact lft ev ry h
  | cl b=>exact lft ev ry h
 | non=>
  cases u with
  | ref b=>exact rgt (by cases Z1 ry;exact r2) rx h
  | _=>exact two rx ry h
 | bl _=>
  cases u with
  | ref b=>exact rgt (by cases Z1 ry;exact r2) rx h
  | _=>exact two rx ry h
 | int _=>
  cases u with
  | ref b=>exact rgt (by cases Z1 ry;exact r2) rx h
  | _=>exact two rx ry h
 | str _=>
  cases u with
  | ref b=>exact rgt (by cases Z1 ry;exact r2) rx h
  | _=>exact two rx ry h
 | tup _=>
  cases u with
  | ref b=>exact rgt (by cases Z1 ry;exact r2) rx h
  | _=>exact two rx ry h
 | cl _=>
  cases u with
  | ref b=>exact rgt (by cases Z1 ry;exact r2) rx h
  | _=>exact two rx ry h⟩
def Yc (hu:X.A.units+150<cLine):Hf X (compareOp .Eq) M6:=oI false hu
def Bi (hu:X.A.units+150<cLine):Hf X (compareOp .NotEq) eB:=oI true hu
def uT:Hf X (compareOp .Is) iw:=⟨_,mW,λF H C x y v u Q Q' R rx ry h q=>by
 obtain⟨rfl,h⟩:=h;refine⟨Mm ry,?_⟩;have z:=q (.bl _) _ H C R (Tx.refl H) Jq h
 cases v with
 | non=>cases Mm rx;exact z
 | bl _=>cases Py rx;exact z
 | int _=>cases Yn rx;exact z
 | str _=>cases Xm rx;exact z
 | ref _=>cases Z1 rx;exact z
 | tup _=>obtain⟨a,ys,rfl,_⟩:=Yi rx;exact z
 | cl _=>obtain⟨a,ys,rfl,_⟩:=N5 rx;exact z⟩
open Classical in
noncomputable def eqAns (v:T) (us:List WQ) (ts:List T) (u:WQ):Bool:=match (us.zip ts).find? λp=>decide (p.1=u) with
 | some p=>eqT p.2 v
 | none=>false
open Classical in
def yf {v:T}(I:Zy X WZ σ H s)(r:Reps X.K H ys ts)(rI:Yd ys us)(f:Ys ts n=true){j:Nat}(hu:us[j]?=some u)(ht:ts[j]?=some t):
  eqAns v us ts u=eqT t v:=by
 unfold eqAns;have hm:(u,t)∈us.zip ts:=by
  refine EW.mpr ⟨j,?_⟩;rw[BU];exact⟨hu,ht⟩
 cases e:(us.zip ts).find? λp=>decide (p.1=u) with
 | none=>
  have:=List.find?_eq_none.mp e (u,t) hm;simp at this
 | some p=>
  have h1:=List.find?_some e;have h2:=List.mem_of_find?_eq_some e;simp only[decide_eq_true_eq] at h1;obtain⟨i,hi⟩:=EW.mp h2;obtain⟨g1,g2⟩:=BU.mp hi;obtain⟨x1,k1,q1⟩:=r.get g2;obtain⟨x2,k2,q2⟩:=r.get ht;obtain⟨u1,m1,z1⟩:=rI.get k1;obtain⟨u2,m2,z2⟩:=rI.get k2;rw[g1] at m1;cases m1;rw[hu] at m2;cases m2;rw[h1] at z1;have e2:=z1.inj z2;subst e2;show eqT p.2 v=eqT t v;rw[Ho I n (Wg f g2) (Wg f ht) q1 q2]
def xz (I:Zy X WZ σ H s)(r:Reps X.K H ys ts)(rI:Yd ys us)(f:Ys ts n=true):us.any (eqAns v us ts)=inL v ts:=by
 have hl:us.length=ts.length:=by rw[<-rI.length,r.length]
 have hat:∀j,us[j]?.map (eqAns v us ts)=ts[j]?.map λt=>eqT t v:=λj=>by
  by_cases hj:j<us.length
  ·have e1:us[j]?=some us[j]:=by simp[hj]
   have e2:ts[j]?=some (ts[j]'(by omega)):=by simp[hl▸hj]
   rw[e1,e2,Option.map_some,Option.map_some,yf I r rI f e1 e2]
  ·rw[EV (by omega),EV (by omega)];rfl
 have hm:us.map (eqAns v us ts)=ts.map λt=>eqT t v:=by
  refine List.ext_getElem? λj=>?_;rw[XM,XM];exact hat j
 unfold inL;have a1:us.any (eqAns v us ts)=(us.map (eqAns v us ts)).any id:=by rw[List.any_map];rfl
 have a2:(ts.any λy=>eqT y v)=(ts.map λt=>eqT t v).any id:=by rw[List.any_map];rfl
 rw[a1,a2,hm]
def oH (neg:Bool)(hu:X.A.units+150<cLine):Hf X (compareOp (if neg then .NotIn else .In)) (nz neg):=⟨_,Bh,λF H C x y v u Q Q' R rx ry h q WZ s σ v' u' I r1 r2=>by
 have sq:∀{p:WP} {ys:List V} {ts:List T},u'=.ref p->(J9 X.K H p ys\/Uz X.K H p ys)->Reps X.K H ys ts->Yr v->Ys ts V1=true->Q' (.bl (if neg then !inL v ts else inL v ts)) C->
   wpAny (model X.prog X.w) X.A (compareOp (if neg then .NotIn else .In) v' u') (EP X WZ σ Q) X.xe s:=λ{p ys ts} eu hq r fv ft hq'=>by
  subst eu;have at1:∀{its:List WQ},Yd ys its->∀w,w∈its.toArray->SeqAt.EqAt X.A.in1 s w v' (eqAns v its ts w):=λ{its} rI w hw=>by
   have hw':w∈its:=by simpa using hw
   obtain⟨j,hj⟩:=EW.mp hw';have hlt:j<its.length:=(BB.mp hj).1;have hl:its.length=ts.length:=by rw[<-rI.length,r.length]
   have e2:ts[j]?=some (ts[j]'(by omega)):=by simp[hl▸hlt]
   rw[yf I r rI ft hj e2];obtain⟨x2,k2,q2⟩:=r.get e2;obtain⟨u2,m2,z2⟩:=rI.get k2;rw[hj] at m2;cases m2;exact xn I 100 (Wg ft e2) fv q2 rx z2 r1 (by show X.A.units+1+100<cLine;omega)
  rcases hq with hq | hq
  ·obtain⟨its,rI,p,_⟩:=I.list hq;have e:its.toArray.any (eqAns v its ts)=inL v ts:=by rw[<-xz I r rI ft];simp
   cases neg with
   | true=>refine SeqAt.notIn_listAt (eqAns v its ts) p.isList (at1 rI) ⟨.bl _,H,I,FL,?_⟩;rw[e];exact q _ _ H C R (Tx.refl H) Jq hq'
   | false=>refine SeqAt.in_listAt (eqAns v its ts) p.isList (at1 rI) ⟨.bl _,H,I,FL,?_⟩;rw[e];exact q _ _ H C R (Tx.refl H) Jq hq'
  ·obtain⟨its,rI,p,_⟩:=I.tuple hq;have e:its.toArray.any (eqAns v its ts)=inL v ts:=by rw[<-xz I r rI ft];simp
   cases neg with
   | true=>refine SeqAt.notIn_tupleAt (eqAns v its ts) p (at1 rI) ⟨.bl _,H,I,FL,?_⟩;rw[e];exact q _ _ H C R (Tx.refl H) Jq hq'
   | false=>refine SeqAt.in_tupleAt (eqAns v its ts) p (at1 rI) ⟨.bl _,H,I,FL,?_⟩;rw[e];exact q _ _ H C R (Tx.refl H) Jq hq'
 have tpl:∀{ts:List T},Jh X.K H y (.tup ts)->Yr v/\Ys ts V1=true/\Q' (.bl (if neg then !inL v ts else inL v ts)) C->wpAny (model X.prog X.w) X.A (compareOp (if neg then .NotIn else .In) v' u') (EP X WZ σ Q) X.xe s:=λ{ts} ry h=>by
  obtain⟨a,ys,rfl,hq,r⟩:=Yi ry;exact sq r2 (.inr hq) r h.1 h.2.1 h.2.2
 have cls:∀{ts:List T},Jh X.K H y (.cl ts)->Yr v/\Ys ts V1=true/\Q' (.bl (if neg then !inL v ts else inL v ts)) C->wpAny (model X.prog X.w) X.A (compareOp (if neg then .NotIn else .In) v' u') (EP X WZ σ Q) X.xe s:=λ{ts} ry h=>by
  obtain⟨a,ys,rfl,hq,r⟩:=N5 ry;exact sq r2 (.inl hq.sq) r h.1 h.2.1 h.2.2
 have rf:∀{a:WP},Jh X.K H y (.ref a)->(∃ys,C a=some (.lst ys)/\Yr v/\Ys ys V1=true/\Q' (.bl (if neg then !inL v ys else inL v ys)) C)->wpAny (model X.prog X.w) X.A (compareOp (if neg then .NotIn else .In) v' u') (EP X WZ σ Q) X.xe s:=λ{a} ry h=>by
  obtain⟨ts,ht,h1,h2,h3⟩:=h;obtain⟨zs,hz,rz⟩:=R.lst ht
  cases Z1 ry
  exact sq r2 (.inl (J9.of hz)) rz h1 h2 h3
 cases u with
 | tup ts=>cases v<;>exact tpl ry h
 | cl ts=>cases v<;>exact cls ry h
 | ref a=>cases v<;>exact rf ry h
 | str j=>
  cases v with
  | str i=>
   cases Xm rx;cases Xm ry
   obtain⟨t,rfl⟩:=r1;obtain⟨t',rfl⟩:=r2
   cases neg with
   | true=>exact notIn_str ⟨.bl _,H,I,FL,q _ _ H C R (Tx.refl H) Jq h⟩
   | false=>exact in_str ⟨.bl _,H,I,FL,q _ _ H C R (Tx.refl H) Jq h⟩
  | _=>exact False.elim h
 | non=>cases v<;>exact False.elim h
 | bl _=>cases v<;>exact False.elim h
 | int _=>cases v<;>exact False.elim h⟩
def lf (hu:X.A.units+150<cLine):Hf X (compareOp .In) cM:=oH false hu
def qB (hu:X.A.units+150<cLine):Hf X (compareOp .NotIn) vW:=oH true hu
set_option tactic.hygienic true
def dA:aJ X Ws:=⟨_,lL,λF H C x y v u Q Q' R rx ry h q=>by
 cases v<;>cases u<;>first | exact False.elim h | skip
 case tup.int xs i=>
  obtain⟨a,ys,rfl,hq,r⟩:=Yi rx
  cases Yn ry
  obtain⟨v,hv,h⟩:=h;obtain⟨z,hz,rz⟩:=r.at hv;exact .inr (.inl ⟨a,ys,i,z,FL,FL,hq,hz,q _ _ H C R (Tx.refl H) rz h⟩)
 case cl.int xs i=>
  obtain⟨a,ys,rfl,hq,r⟩:=N5 rx
  cases Yn ry
  obtain⟨v,hv,h⟩:=h;obtain⟨z,hz,rz⟩:=r.at hv;exact .inl ⟨a,ys,i,z,FL,FL,hq.sq,hz,q _ _ H C R (Tx.refl H) rz h⟩
 case ref.int a i=>
  cases Z1 rx
  cases Yn ry
  obtain⟨xs,v,hx,hv,h⟩:=h;obtain⟨ys,hy,r⟩:=R.lst hx;obtain⟨z,hz,rz⟩:=r.at hv;exact .inl ⟨a,ys,i,z,FL,FL,J9.of hy,hz,q _ _ H C R (Tx.refl H) rz h⟩
 case str.int z i=>
  cases Xm rx
  cases Yn ry
  obtain⟨hl,c,hc,h⟩:=h;exact .inr (.inr ⟨z,i,c,FL,FL,hl,hc,q _ _ H C R (Tx.refl H) Rh h⟩)⟩
set_option tactic.hygienic false
def bC (X:Cx)(w:T->Option Int->Option Int->Hw->WK->Prop):Prop:=∃r,rC X r/\∀(F H:Hp) (C:Hw) (x:V) (v:T) (lo hi:Option Int) (Q:VK) (Q':WK),Rl X.K F H C->Jh X.K H x v->w v lo hi C Q'->QE X.K F H Q Q'->r x lo hi H Q
def Ko {K:WY}(r:Reps K H ys xs)(lo hi:Option Int):Reps K H (yn ys lo hi) (Dw xs lo hi):=by
 unfold yn Dw;rw[r.length];exact(r.drop _).take _
def d8:bC X eh:=⟨_,ul.or (rV.or nK),λF H C x v lo hi Q Q' R rx h q=>by
 cases v with
 | tup xs=>
  obtain⟨a,ys,rfl,hq,r⟩:=Yi rx;exact .inl ⟨a,ys,FL,hq,by rw[r.length];exact h.1,λp hp=>q _ _ _ C (R.hid hp) (Tx.new hp) (Ju (Uz.of Z3) ((Ko r lo hi).tx (Tx.new hp))) h.2⟩
 | cl xs=>
  obtain⟨a,ys,rfl,hq,r⟩:=N5 rx;exact .inr (.inl ⟨a,ys,FL,hq.sq,λp hp=>q _ _ _ _ (R.newL hp (Ko r lo hi)) (Tx.new hp) Y6 (h p (R.free hp))⟩)
 | ref a=>
  cases Z1 rx
  obtain⟨xs,hx,h⟩:=h;obtain⟨ys,hy,r⟩:=R.lst hx;exact .inr (.inl ⟨a,ys,FL,J9.of hy,λp hp=>q _ _ _ _ (R.newL hp (Ko r lo hi)) (Tx.new hp) Y6 (h p (R.free hp))⟩)
 | str z=>cases Xm rx;exact .inr (.inr ⟨z,FL,h.1,q _ _ H C R (Tx.refl H) Rh h.2⟩)
 | _=>exact False.elim h⟩
def X6 {K:WY}{v:T}(h:Reps K H xs [v]):∃x,xs=[x]/\Jh K H x v:=by
 obtain⟨y,r,rfl,a,b⟩:=Y0 h
 cases Xe b
 exact⟨y,FL,a⟩
def yW {K:WY}{v w:T}(h:Reps K H xs [v,w]):∃x y,xs=[x,y]/\Jh K H x v/\Jh K H y w:=by
 obtain⟨y,r,rfl,a,b⟩:=Y0 h;obtain⟨z,rfl,c⟩:=X6 b;exact⟨y,z,FL,a,c⟩
def Of:Nd X (.builtin "len") f8:=⟨_,Aq.or Ap,λF H C xs vs Q Q' R rs h q=>by
 obtain⟨v,rfl,h⟩:=h;obtain⟨x,rfl,rx⟩:=X6 rs
 cases v with
 | str z=>cases Xm rx;exact .inr ⟨z,FL,h.1,q _ _ H C R (Tx.refl H) Ja h.2⟩
 | tup xs=>
  obtain⟨a,ys,rfl,hq,r⟩:=Yi rx;exact .inl ⟨a,ys,FL,.inr hq,by rw[r.length];exact q _ _ H C R (Tx.refl H) Ja h⟩
 | cl xs=>
  obtain⟨a,ys,rfl,hq,r⟩:=N5 rx;exact .inl ⟨a,ys,FL,.inl hq.sq,by rw[r.length];exact q _ _ H C R (Tx.refl H) Ja h⟩
 | ref a=>
  cases Z1 rx
  obtain⟨xs,hx,h⟩:=h;obtain⟨ys,hy,r⟩:=R.lst hx;exact .inl ⟨a,ys,FL,.inl (J9.of hy),by rw[r.length];exact q _ _ H C R (Tx.refl H) Ja h⟩
 | _=>exact False.elim h⟩
def fm (hc:X.calm=true):Nd X (.builtin "max") f6:=⟨_,wP hc,λF H C xs vs Q Q' R rs h q=>by
 obtain⟨i,j,rfl,h⟩:=h;obtain⟨x,y,rfl,rx,ry⟩:=yW rs
 cases Yn rx;cases Yn ry
 exact⟨i,j,FL,q _ _ H C R (Tx.refl H) Ja h⟩⟩
def zv {K:WY}:∀{bs:List Bool} {ys:List V},Reps K H ys (bs.map T.bl)->ys=bs.map V.bl
 | [],_,h=>Xe h
 | b::bs,_,h=>by obtain⟨y,r,rfl,a,c⟩:=Y0 h;cases Py a;rw[zv c];rfl
def Kq:Nd X (.type "tuple") sK:=⟨_,Ey,λF H C xs vs Q Q' R rs h q=>by
 obtain⟨v,rfl,h⟩:=h;obtain⟨x,rfl,rx⟩:=X6 rs
 cases v with
 | tup xs=>
  obtain⟨a,ys,rfl,hq,r⟩:=Yi rx;exact⟨a,ys,FL,.inr ⟨hq,q _ _ H C R (Tx.refl H) (Ju hq r) h⟩⟩
 | cl xs=>
  obtain⟨a,ys,rfl,hq,r⟩:=N5 rx;exact⟨a,ys,FL,.inl ⟨hq.sq,λp hp=>q _ _ _ C (R.hid hp) (Tx.new hp) (Ju (Uz.of Z3) (r.tx (Tx.new hp))) h⟩⟩
 | ref a=>
  cases Z1 rx
  obtain⟨xs,hx,h⟩:=h;obtain⟨ys,hy,r⟩:=R.lst hx;exact⟨a,ys,FL,.inl ⟨J9.of hy,λp hp=>q _ _ _ C (R.hid hp) (Tx.new hp) (Ju (Uz.of Z3) (r.tx (Tx.new hp))) h⟩⟩
 | _=>exact False.elim h⟩
def sJ:Nd X (.type "list") oX:=⟨_,Ao,λF H C xs vs Q Q' R rs h q=>by
 obtain⟨v,rfl,h⟩:=h;obtain⟨x,rfl,rx⟩:=X6 rs
 cases v with
 | tup xs=>
  obtain⟨a,ys,rfl,hq,r⟩:=Yi rx;exact⟨a,ys,FL,.inr hq,λp hp=>q _ _ _ _ (R.newL hp r) (Tx.new hp) Y6 (h p (R.free hp))⟩
 | cl xs=>
  obtain⟨a,ys,rfl,hq,r⟩:=N5 rx;exact⟨a,ys,FL,.inl hq.sq,λp hp=>q _ _ _ _ (R.newL hp r) (Tx.new hp) Y6 (h p (R.free hp))⟩
 | ref a=>
  cases Z1 rx
  obtain⟨xs,hx,h⟩:=h;obtain⟨ys,hy,r⟩:=R.lst hx;exact⟨a,ys,FL,.inl (J9.of hy),λp hp=>q _ _ _ _ (R.newL hp r) (Tx.new hp) Y6 (h p (R.free hp))⟩
 | _=>exact False.elim h⟩
def Xo:ia X "list.append" Hv:=⟨_,Dj,λF H C x v xs vs Q Q' R rx rs h q=>by
 obtain⟨a,ts,y,rfl,rfl,hx,hl,h⟩:=h
 cases Z1 rx
 obtain⟨z,rfl,rz⟩:=X6 rs;obtain⟨ys,hy,r⟩:=R.lst hx;obtain⟨R',t⟩:=R.putL hx (r.snoc rz);exact⟨a,ys,z,FL,FL,hy,by rw[r.length];exact hl,q _ _ _ _ R' t Nj h⟩⟩
def jT:ia X "list.pop" gD:=⟨_,li,λF H C x v xs vs Q Q' R rx rs h q=>by
 obtain⟨a,ts,y,rfl,rfl,hx,hy,h⟩:=h
 cases Z1 rx
 cases Xe rs
 obtain⟨ys,hys,r⟩:=R.lst hx;obtain⟨z,hz,rz⟩:=r.get hy;obtain⟨R',t⟩:=R.putL hx r.dropLast;exact⟨a,ys,z,FL,FL,hys,by rw[r.length];exact hz,q _ _ _ _ R' t (rz.tx t) h⟩⟩
end
section
variable {X:Cx}{a b c e:WW}{es:List WW}{wa wb wc:WE}{wt wt':WT}{wA:WA}{w w':W2}{pos p apos cpos:Pos}{J4:List WW}
def Zb (i:Nat)(hN:autoParam (X.N[i]?=some x) QzR)(hv:fS X.env.scope x:=by first | exact Or.inl FL | exact Or.inr (Or.inl FL) | exact Or.inr (Or.inr FL))(hd:(x==("__debug__":Str))=false:=by decide)
  (hcd:(x==("__classdict__":Str))=false:=by decide):Js X (.Name x pos) (Yb i):=⟨_,mC hN hv hd hcd,iO⟩
def Zf {i j}:Js X (.Constant (.int i) j pos) (eC (.int i)):=⟨_,mJ,fN λ_=>Ja⟩
def Zi {i j}:Js X (.Constant (.str i) j pos) (eC (.str i)):=⟨_,mE,fN λ_=>Rh⟩
def Io {i j}:Js X (.Constant (.bool i) j pos) (eC (.bl i)):=⟨_,gu,fN λ_=>Jq⟩
def xq {j}:Js X (.Constant .none j pos) (eC .non):=⟨_,mH,fN λ_=>Nj⟩
def aY (K:WY)(mg:Str->Option WQ)(x:Str)(v:T):Prop:=∃z u,mg x=some u/\Ye z u/\∀H,Jh K H z v
def Jc (ho:Hf X (binaryOp op) w)(ha:Js X a wa)(hb:Js X b wb):Js X (.BinOp a op b pos) (Yk w wa wb):=by
 obtain⟨r,h1,h2⟩:=ho;obtain⟨ta,p1,s1⟩:=ha;obtain⟨tb,p2,s2⟩:=hb;exact⟨_,gp h1 p1 p2,rY s1 s2 h2⟩
def fi (ha:Js X a wa):Js X (.UnaryOp .USub a pos) (dW ir wa):=by
 obtain⟨ta,p1,s1⟩:=ha;exact⟨_,gl n9 p1,eZ s1 λF H C x v Q Q' R rx h q=>by
  cases v with
  | int i=>cases Yn rx;exact⟨i,FL,q _ _ H C R (Tx.refl H) Ja h⟩
  | _=>exact False.elim h⟩
def Xg (ho:Hf X (compareOp op) w)(ha:Js X a wa)(hb:Js X b wb)(hm:behindInMarks op b=false):Js X (.Compare a [op] [b] pos) (Yk w wa wb):=by
 obtain⟨r,h1,h2⟩:=ho;obtain⟨ta,p1,s1⟩:=ha;obtain⟨tb,p2,s2⟩:=hb;exact⟨_,qy h1 p1 p2 hm,rY s1 s2 h2⟩
def Km (ha:Js X a wa)(hb:Js X (.BoolOp .And (b::J4) pos) wb):Js X (.BoolOp .And (a::b::J4) pos) (kr wa wb):=by
 obtain⟨ta,p1,s1⟩:=ha;obtain⟨tb,p2,s2⟩:=hb;exact⟨_,mM p1 p2,h9 s1 s2⟩
def Fu {op}(ha:Js X a wa):Js X (.BoolOp op [a] pos) wa:=by
 obtain⟨ta,p1,s1⟩:=ha;exact⟨_,mF p1,s1⟩
def fh (ha:Js X a wa):Js X (.UnaryOp .Not a pos) (km wa):=by
 obtain⟨ta,p1,s1⟩:=ha;exact⟨_,mG p1,iT s1⟩
def fj (hc:wX X c wt)(ha:Js X a wa)(hb:Js X b wb):Js X (.IfExp c a b pos) (dY wt wa wb):=by
 obtain⟨ta,p1,s1⟩:=ha;obtain⟨tb,p2,s2⟩:=hb;obtain⟨tc,p3,s3⟩:=hc;exact⟨_,uK p3 p1 p2,db s3 s1 s2⟩
def Zc:yu X [] Zv:=⟨_,yU,iU⟩
def Za (ha:Js X a wa)(hb:yu X es wA)(hs:autoParam (starEach (a::es) X.env=(false,eval a X.env)::starEach es X.env) QzR):yu X (a::es) (Zz wa wA):=by
 obtain⟨ta,p1,s1⟩:=ha;obtain⟨tb,p2,s2⟩:=hb;exact⟨_,Ht p1 p2 hs,nQ s1 s2⟩
def Zn {x1}(h:yu X es wA):Js X (.Tuple es x1 pos) (Ik wA):=by
 obtain⟨t,p,s⟩:=h;exact⟨_,mD p,iP s⟩
def Z9 (h:yu X es wA):Js X (.List es pos) (sj wA):=by
 obtain⟨t,p,s⟩:=h;exact⟨_,mI p,iV s⟩
def Zs (ha:Js X a wa)(hb:Js X b wb)(hs:xC b:=by exact λ_ _=>rfl):Js X (.Subscript a b pos) (Yk Ws wa wb):=by
 obtain⟨r,h1,h2⟩:=dA (X:=X);obtain⟨ta,p1,s1⟩:=ha;obtain⟨tb,p2,s2⟩:=hb;exact⟨_,gq h1 p1 p2 hs,rY s1 s2 h2⟩
def kY (X:Cx)(e:Option WW)(w:Sw->Hw->(Option Int->Hw->Prop)->WX->Prop):Prop:=∃t,PO X e t/\∀(F H:Hp) (C:Hw) (σ:L2.St) (τ:Sw) (Q:Option Int->Hp->Prop) (Q':Option Int->Hw->Prop) (χ:WX),Rl X.K F H C->Xv X.K H σ τ->w τ C Q' χ->
 (∀o H' C',Rl X.K F H' C'->Tx H H'->Q' o C'->Q o H')->t σ H Q
def Rv:kY X none cZ:=⟨_,qp,λF H C σ τ Q Q' χ R S h q=>q none H C R (Tx.refl H) h⟩
def Ud (ha:Js X a wa):kY X (some a) (oK wa):=by
 obtain⟨ta,p1,s1⟩:=ha;refine⟨_,qo p1,λF H C σ τ Q Q' χ R S h q=>?_⟩;refine s1 F H C σ τ _ _ χ R S h λx v H1 C1 R1 t1 rx h1=>?_;obtain⟨i,rfl,h1⟩:=h1;exact⟨i,Yn rx,q (some i) H1 C1 R1 t1 h1⟩
def jp {lo hi:Option WW}{wl wh:Sw->Hw->(Option Int->Hw->Prop)->WX->Prop}(ha:Js X a wa)(hl:kY X lo wl)(hh:kY X hi wh):Js X (.Subscript a (.Slice lo hi none p2) pos) (bn wa wl wh):=by
 obtain⟨r,h1,h2⟩:=d8 (X:=X);obtain⟨ta,p1,s1⟩:=ha;obtain⟨tl,p3,s3⟩:=hl;obtain⟨th,p4,s4⟩:=hh;refine⟨_,zz h1 p1 p3 p4,λF H C σ τ Q Q' χ R S h q=>?_⟩;refine s1 F H C σ τ _ _ χ R S h λx v H1 C1 R1 t1 rx h1=>?_;refine s3 F H1 C1 σ τ _ _ χ R1 (S.tx t1) h1 λl H2 C2 R2 t2 h2'=>?_;refine s4 F H2 C2 σ τ _ _ χ R2 (S.tx (t1.trans t2)) h2' λu H3 C3 R3 t3 h3=>?_;exact h2 F H3 C3 x v l u Q Q' R3 ((rx.tx t2).tx t3) h3 (QE.at q ((t1.trans t2).trans t3))
def Mt {id:String}{r:List T->Hw->WK->Prop}(hc:Nd X (.builtin id) r)(hg:Gl X x)(hm:X.mg x=none)(hv:bootBuiltins x=some (.builtin id))(ha:yu X (e::es) wA)(hn:x≠"__name__":=by decide)(hdb:(x==("__debug__":Str))=false:=by decide)
  (he:autoParam (starEach (e::es) X.env=(false,eval e X.env)::starEach es X.env) QzR) (hpl:autoParam ((backTo pos (starEach es X.env)).any (·.1)=false) QzR):Js X (.Call (.Name x p) (e::es) [] pos) (gW r wA):=by
 obtain⟨r,h1,h2⟩:=hc;obtain⟨t,p1,s1⟩:=ha;exact⟨_,z0 h1 hg hm hv p1 hn hdb he hpl,h7 h2 s1⟩
def Mr {id:String}{r:List T->Hw->WK->Prop}(hc:Nd X (.type id) r)(hg:Gl X x)(hm:X.mg x=none)(hv:bootBuiltins x=some (.type id))(ha:yu X (e::es) wA)(hn:x≠"__name__":=by decide)(hdb:(x==("__debug__":Str))=false:=by decide)
  (he:autoParam (starEach (e::es) X.env=(false,eval e X.env)::starEach es X.env) QzR) (hpl:autoParam ((backTo pos (starEach es X.env)).any (·.1)=false) QzR):Js X (.Call (.Name x p) (e::es) [] pos) (gW r wA):=by
 obtain⟨r,h1,h2⟩:=hc;obtain⟨t,p1,s1⟩:=ha;exact⟨_,xY h1 hg hm hv p1 hn hdb he hpl,h7 h2 s1⟩
def cw (X:Cx)(Tn:String)(ty:T->Hw->Prop):Prop:=∀(F H:Hp) (C:Hw) (x:V) (v:T),Rl X.K F H C->Jh X.K H x v->ty v C->kW X.K Tn x H
def Je:cw X "list" rN:=λF H C x v R rx h=>by
 obtain⟨a,xs,rfl,hx⟩:=h
 cases Z1 rx
 obtain⟨ys,hy,r⟩:=R.lst hx;exact L2.tyL hy
def Kk {Tn id:String}{ty:T->Hw->Prop}{r:T->List T->Hw->WK->Prop}(pa:PlainAttrs Tn)(slot:Slot Tn name id)(hty:typeOf (.builtin id)=pure (.type "method_descriptor"))(hT:cw X Tn ty)(hm:ia X id r)(ho:Js X o wo)(ha:yu X (e::es) wA)
  (hbase:autoParam (attributeBase o name X.env (eval o X.env)=eval o X.env) QzR)
  (hfew:autoParam (((backTo cpos (starEach (e::es) X.env)).all (λx=>!x.1)&&(backToKw cpos (keywordEach [] X.env)).all (λx=>x.1.isSome)
   &&decide ((e::es).length+([]:List Keyword).length+(if ([]:List Keyword).isEmpty then 0 else 1)<30))=true) QzR)
  (hline:autoParam ((apos.endLine==cpos.line)=true) QzR) (hs:autoParam (starEach (e::es) X.env=(false,eval e X.env)::starEach es X.env) QzR) (hplain:autoParam ((backTo cpos (starEach es X.env)).any (·.1)=false) QzR):
  Js X (.Call (.Attribute o name apos) (e::es) [] cpos) (gS ty r wo wA):=by
 obtain⟨rr,h1,h2⟩:=hm;obtain⟨to,p1,s1⟩:=ho;obtain⟨ta,p2,s2⟩:=ha;refine⟨_,gt pa slot hty h1 p1 p2 hbase hfew hline hs hplain,λF H C σ τ Q Q' χ R S h q=>?_⟩;refine s1 F H C σ τ _ _ χ R S h λx v H1 C1 R1 t1 rx h1'=>⟨hT F H1 C1 x v R1 rx h1'.1,?_⟩;refine s2 F H1 C1 σ τ _ _ χ R1 (S.tx t1) h1'.2 λxs vs H2 C2 R2 t2 rs h2'=>?_;exact h2 F H2 C2 x v xs vs Q Q' R2 (rx.tx t2) rs h2' (QE.at q (t1.trans t2))
def yk {Tn id:String}{ty:T->Hw->Prop}{r:T->List T->Hw->WK->Prop}(pa:PlainAttrs Tn)(slot:Slot Tn name id)(hty:typeOf (.builtin id)=pure (.type "method_descriptor"))(hT:cw X Tn ty)(hm:ia X id r)(ho:Js X o wo)
  (hbase:autoParam (attributeBase o name X.env (eval o X.env)=eval o X.env) QzR) (hline:autoParam ((apos.endLine==cpos.line)=true) QzR):
  Js X (.Call (.Attribute o name apos) [] [] cpos) (gS ty r wo Zv):=by
 obtain⟨rr,h1,h2⟩:=hm;obtain⟨to,p1,s1⟩:=ho;refine⟨_,mL pa slot hty h1 p1 hbase hline,λF H C σ τ Q Q' χ R S h q=>?_⟩;refine s1 F H C σ τ _ _ χ R S h λx v H1 C1 R1 t1 rx h1'=>⟨hT F H1 C1 x v R1 rx h1'.1,?_⟩;exact h2 F H1 C1 x v [] [] Q Q' R1 rx Yv h1'.2 (QE.at q t1)
def qM {K:WY}{n c:String}(hn:n∈["NoneType","bool","int","str","tuple","list","dict"])(hc:c∈["bool","int","str","tuple","list","dict"]):W.kitOne K (.type n) (.type c)=some (xa n c):=by
 simp only[ZM,ZN,or_false] at hn hc
 rcases hn with rfl | rfl | rfl | rfl | rfl | rfl | rfl<;>rcases hc with rfl | rfl | rfl | rfl | rfl | rfl<;>rfl
def rM (h:iz v C n):n∈["NoneType","bool","int","str","tuple","list","dict"]:=by
 cases v with
 | non=>cases h;decide
 | bl _=>cases h;decide
 | int _=>cases h;decide
 | str _=>cases h;decide
 | tup _=>cases h;decide
 | cl _=>cases h;decide
 | ref _=>rcases h with⟨rfl,_⟩ | ⟨rfl,_⟩<;>decide
def lS {F H:Hp}{n c:String}{Q:WQ->WR->Prop}(I:Zy X WZ σ H s)(R:Rl X.K F H C)(rx:Jh X.K H x v)(ru:Ye x u)(hn:iz v C n)(hc:c∈["bool","int","str","tuple","list","dict"])
  (h:∀tk,Q (.bool (xa n c)) {s with toks:=tk}):wpAny (model X.prog X.w) X.A (call (.builtin "isinstance") [u,.type c]) Q X.xe s:=by
 have e:=qM (K:=X.K) (rM hn) hc
 cases v with
 | non=>cases hn;cases Mm rx;exact Uj I ru .non e h
 | bl b=>cases hn;cases Py rx;exact Uj I ru (.bl b) e h
 | int b=>cases hn;cases Yn rx;exact Uj I ru (.int b) e h
 | str b=>cases hn;cases Xm rx;exact Uj I ru (.str b) e h
 | tup xs=>
  cases hn
  obtain⟨a,ys,rfl,hq,r⟩:=Yi rx
  cases ru
  obtain⟨its,_,⟨o,h1,h2,_⟩,_⟩:=I.tuple hq;exact CW W.kitx_tuple I.kIn ⟨o,h1,h2⟩ e (λz=>nomatch z) h
 | cl xs=>
  cases hn
  obtain⟨a,ys,rfl,hq,r⟩:=N5 rx
  cases ru
  obtain⟨its,_,p,_⟩:=I.list hq.sq;obtain⟨o,h1,h2,_⟩:=p.isList;exact CW W.kitx_list I.kIn ⟨o,h1,h2⟩ e (λz=>nomatch z) h
 | ref a=>
  cases Z1 rx
  rcases hn with⟨rfl,xs,hx⟩ | ⟨rfl,kvs,hx⟩
  ·obtain⟨ys,hy,r⟩:=R.lst hx;exact Uj I ru (.lst hy) e h
  ·obtain⟨ks,hy,r⟩:=R.obj a _ hx;exact Uj I ru (.dK hy) e h
def yl {q2:Pos}{c:String}(hg:Gl X "isinstance")(hm:X.mg "isinstance"=none)(hgx:Gl X x)(hmx:X.mg x=none)(hvx:bootBuiltins x=some (.type c))(hc:c∈["bool","int","str","tuple","list","dict"])(ha:Js X a wa)
  (hnx:x≠"__name__":=by decide) (hdx:(x==("__debug__":Str))=false:=by decide) (he:autoParam (starEach [a,.Name x q2] X.env=[(false,eval a X.env),(false,eval (.Name x q2) X.env)]) QzR):Js X (.Call (.Name "isinstance" p) [a,.Name x q2] [] pos) (gU wa c):=by
 obtain⟨ta,p1,s1⟩:=ha;let r:List V->Hp->VK->Prop:=λxs H Q=>∃y F C v n,xs=[y,.ty c]/\Rl X.K F H C/\Jh X.K H y v/\iz v C n/\Q (.bl (xa n c)) H
 have hr:Wy X (.builtin "isinstance") r:=by
  intro WZ s σ H xs us Q I rs h;obtain⟨y,F,C,v,n,rfl,R,ry,hn,q⟩:=h;obtain⟨u,u2,rfl,ru,ru2⟩:=rs.two
  cases ru2
  exact lS I R ry ru hn hc λtk=>⟨.bl _,H,I.tok tk,FL,q⟩
 refine⟨_,z0 hr hg hm E1 (Ht p1 (Ht (q4 (v:=.ty c) hgx hmx hvx FL hnx hdx) yU (by rw[show starEach [Expr.Name x q2] X.env=[(false,eval (.Name x q2) X.env)] from rfl];rfl)) ?_) (by decide) (by decide) ?_ ?_,?_⟩
 ·rw[he];rfl
 ·rw[he];rfl
 ·rfl
 ·intro F H C σ τ Q Q' χ R S h q;refine s1 F H C σ τ _ _ χ R S h λy v H1 C1 R1 t1 ry h1=>?_;obtain⟨n,hn,h1⟩:=h1;exact⟨y,F,C1,v,n,FL,R1,ry,hn,q _ _ H1 C1 R1 t1 Jq h1⟩
def Zj (ho:Hf X (compareOp op) w)(ha:Js X a wa)(hb:Js X b wb)(hm:behindInMarks op b=false:=by exact Jr _):wX X (.Compare a [op] [b] pos) (Kz (Yk w wa wb)):=by
 obtain⟨r,h1,h2⟩:=ho;obtain⟨ta,p1,s1⟩:=ha;obtain⟨tb,p2,s2⟩:=hb;exact⟨_,qg h1 p1 p2 hm,de (rY s1 s2 h2)⟩
def Tq (ha:Js X a wa)(he:∀whole,isTrue a X.env whole=(do let v <-whole;standAt a.pos;holding [v] (truthy v)):=by intro _;rfl):wX X a (nG wa):=by
 obtain⟨ta,p1,s1⟩:=ha;exact⟨_,u9 p1 he,iQ s1⟩
def Hz (ha:wX X a wt):kO X (.BoolOp .And [a] pos) wt:=by
 obtain⟨t,p,s⟩:=ha;exact⟨_,qf p,s⟩
def V2 (ha:wX X a wt):kO X (.BoolOp .Or [a] pos) wt:=by
 obtain⟨t,p,s⟩:=ha;exact⟨_,me p,s⟩
def Fq (ha:wX X a wt)(hb:kO X (.BoolOp .And (b::J4) pos) wt'):kO X (.BoolOp .And (a::b::J4) pos) (eY wt wt'):=by
 obtain⟨t,p,s⟩:=ha;obtain⟨t',p',s'⟩:=hb;exact⟨_,mf p p',df s s'⟩
def Se (ha:wX X a wt)(hb:kO X (.BoolOp .Or (b::J4) pos) wt'):kO X (.BoolOp .Or (a::b::J4) pos) (El wt wt'):=by
 obtain⟨t,p,s⟩:=ha;obtain⟨t',p',s'⟩:=hb;exact⟨_,gf p p',iS s s'⟩
def Nv (h:kO X a wt):wX X a wt:=by
 obtain⟨t,p,s⟩:=h;exact⟨_,p.pt,s⟩
def Rq (ha:wX X a wt):wX X (.UnaryOp .Not a pos) (eO wt):=by
 obtain⟨t,p,s⟩:=ha;exact⟨_,mj p,da s⟩
end
structure og (K:W.Frag)(F H:Hp)(D:E5)(D':We):Prop where
 nx:∀σ τ H' C',Rl K F H' C'->Tx H H'->Xv K H' σ τ->D'.nx τ C'->D.nx σ H'
 rt:∀x v H' C',Rl K F H' C'->Tx H H'->Jh K H' x v->D'.rt v C'->D.rt x H'
 bk:∀σ τ H' C',Rl K F H' C'->Tx H H'->Xv K H' σ τ->D'.bk τ C'->D.bk σ H'
 ct:∀σ τ H' C',Rl K F H' C'->Tx H H'->Xv K H' σ τ->D'.ct τ C'->D.ct σ H'
def og.at {K:WY}{F H H1:Hp}(h:og K F H D D')(t:Tx H H1):og K F H1 D D':=
 ⟨λσ τ H' C' R t'=>h.nx σ τ H' C' R (t.trans t'),λx v H' C' R t'=>h.rt x v H' C' R (t.trans t'),λσ τ H' C' R t'=>h.bk σ τ H' C' R (t.trans t'),λσ τ H' C' R t'=>h.ct σ τ H' C' R (t.trans t')⟩
def wW (K:WY)(t:TS)(w:WS):Prop:=∀(F H:Hp) (C:Hw) (σ:L2.St) (τ:Sw) (D:E5) (D':We),Rl K F H C->Xv K H σ τ->w D' τ C->og K F H D D'->t D σ H
def j4 (K:WY)(t:TG)(w:WG):Prop:=∀(F H:Hp) (C:Hw) (σ:L2.St) (τ:Sw) (x:V) (v:T) (Q:L2.St->Hp->Prop) (Q':Sw->Hw->Prop) (χ:WX),Rl K F H C->Xv K H σ τ->Jh K H x v->w v τ C Q' χ->
 (∀σ' τ' H' C',Rl K F H' C'->Tx H H'->Xv K H' σ' τ'->Q' τ' C'->Q σ' H')->t x σ H Q
def yt (K:WY)(t:y7)(w:sW):Prop:=∀(F H:Hp) (C:Hw) (σ:L2.St) (τ:Sw) (x:List V) (v:List T) (Q:L2.St->Hp->Prop) (Q':Sw->Hw->Prop) (χ:WX),Rl K F H C->Xv K H σ τ->Reps K H x v->w v τ C Q' χ->
 (∀σ' τ' H' C',Rl K F H' C'->Tx H H'->Xv K H' σ' τ'->Q' τ' C'->Q σ' H')->t x σ H Q
def wY (X:Cx)(st:WV)(w:WS):Prop:=∃t,PS X st t/\wW X.K t w
def sZ (X:Cx)(st:List WV)(w:WS):Prop:=∃t,xD X st t/\wW X.K t w
def kP (X:Cx)(e:WW)(w:WG):Prop:=∃t,PG X e t/\j4 X.K t w
def pX (X:Cx)(e:List WW)(w:sW):Prop:=∃t,fH X e t/\yt X.K t w
section
variable {X:Cx}{st:WV}{J4:List WV}{w u:WS}{e tg:WW}{we:WE}{wt:WT}{g:WG}{gs:sW}{pos:Pos}
def Y3 {K:WY}:j4 K (Xc i) (Eu i):=λF H C σ τ x v Q Q' χ R S r h q=>q _ _ H C R (Tx.refl H) (S.set r) h
def Go {K:WY}:yt K ya Dp:=λF H C σ τ x v Q Q' χ R S r h q=>by
 obtain⟨rfl,h⟩:=h;exact⟨Xe r,q _ _ H C R (Tx.refl H) S h⟩
def Vk {K:WY}{u:y7}(a:j4 K t g)(b:yt K u gs):yt K (Sb t u) (Ro g gs):=λF H C σ τ x v Q Q' χ R S r h q=>by
 obtain⟨v1,vs,rfl,h⟩:=h;obtain⟨y,ys,rfl,r1,r2⟩:=Y0 r;refine⟨y,ys,FL,a F H C σ τ y v1 _ _ χ R S r1 h λσ' τ' H' C' R' t' S' h'=>?_⟩;exact b F H' C' σ' τ' ys vs Q Q' χ R' S' (r2.tx t') h' λσ2 τ2 H2 C2 R2 t2=>q σ2 τ2 H2 C2 R2 (t'.trans t2)
def Gn {K:WY}{u:y7}{n:Nat}(b:yt K u gs)(hn:∀vs τ C Q χ,gs vs τ C Q χ->vs.length=n):j4 K (zZ K n u) (gP gs):=λF H C σ τ x v Q Q' χ R S r h q=>by
 obtain⟨vs,rfl,h⟩:=h;obtain⟨a,ys,rfl,hq,rs⟩:=Yi r;exact⟨a,ys,FL,hq,by rw[rs.length];exact hn _ _ _ _ _ h,b F H C σ τ ys vs Q Q' χ R S rs h q⟩
def xE (n:Nat)(gs:sW):Prop:=∀vs τ C Q χ,gs vs τ C Q χ->vs.length=n
def Tp:xE 0 Dp:=λvs τ C Q χ h=>by rw[h.1];rfl
def Yw (b:xE n gs):xE (n+1) (Ro (Eu i) gs):=λvs τ C Q χ h=>by
 obtain⟨v,r,rfl,h⟩:=h;rw[YF,b r _ _ _ _ h]
def Y8 {i:Nat}(hN:X.N.Nodup)(hi:autoParam (X.N[i]?=some x) QzR)(hx:ic X.env.scope x:=by first | exact Or.inl FL | exact Or.inr FL)(hf:X.fn x=true\/X.env.scope.names.lookup x=some .local:=by first | exact .inl FL | exact .inr FL | assumption):kP X (.Name x pos) (Eu i):=⟨_,Y7 hN hi hx hf,Y3⟩
def Im:pX X [] Dp:=⟨_,Ls,Go⟩
def Xt (a:kP X e g)(b:pX X es gs)(hs:autoParam ((assignEach (e::es) X.env).map (·.2)=assign e X.env::(assignEach es X.env).map (·.2)) QzR):pX X (e::es) (Ro g gs):=by
 obtain⟨t,p,s⟩:=a;obtain⟨t',p',s'⟩:=b;exact⟨_,Xz p p' hs,Vk s s'⟩
def Il {k n:Nat}(hc:X.calm=true)(b:pX X es gs)(hl:xE n gs)(hn:autoParam ((assignEach es X.env).length=n) QzR)(hst:autoParam ((assignEach es X.env).findIdx? (·.1)=none) QzR):kP X (.Tuple es k pos) (gP gs):=by
 obtain⟨t,p,s⟩:=b;exact⟨_,Gx hc p hn hst,Gn s hl⟩
def jn (ho:Js X o wo)(hi:Js X i wi)
  (ha:∀v,assign (.Subscript o i pos) X.env v=(do
   let ov <-holding [v] (eval o X.env)
   let iv <-holding [v,ov] (eval i X.env)
   standAt pos
   holding [v,ov,iv] (setItem ov iv v)
   release [v,ov,iv] []):=by intro _;rfl):kP X (.Subscript o i pos) (bj wo wi):=by
 obtain⟨t,p,s⟩:=ho;obtain⟨t',p',s'⟩:=hi;refine⟨_,uH p p' uo ha,λF H C σ τ x v Q Q' χ R S r h q=>?_⟩;refine s F H C σ τ _ _ χ R S h λy vy H1 C1 R1 t1 ry h1=>?_;refine s' F H1 C1 σ τ _ _ χ R1 (S.tx t1) h1 λz vz H2 C2 R2 t2 rz h2=>?_;obtain⟨a,xs,k,j,rfl,rfl,hx,hj,h2⟩:=h2
 cases Z1 ry
 cases Yn rz
 obtain⟨ys,hy,rs⟩:=R2.lst hx;have t12:=t1.trans t2;obtain⟨R',t'⟩:=R2.putL hx (rs.set (r.tx t12) j);exact⟨a,ys,k,j,FL,FL,hy,by rw[rs.length];exact hj,q _ _ _ _ R' (t12.trans t') (S.tx (t12.trans t')) h2⟩
def Zo:sZ X [] Xl:=⟨_,qj,λF H C σ τ D D' R S h d=>d.nx σ τ H C R (Tx.refl H) S h⟩
def Ai:wY X (.Continue pos) oC:=⟨_,zw,λF H C σ τ D D' R S h d=>d.ct σ τ H C R (Tx.refl H) S h⟩
def Ki:wY X st yM:=⟨_,uC,λF H C σ τ D D' R S h d=>h⟩
def Zh (a:wY X st w):sZ X [st] w:=by
 obtain⟨t,p,s⟩:=a;exact⟨_,qi p,s⟩
def Zd (a:wY X st w)(b:sZ X J4 u):sZ X (st::J4) (Xy w u):=by
 obtain⟨t,p,s⟩:=a;obtain⟨t',p',s'⟩:=b;refine⟨_,uA p p',λF H C σ τ D D' R S h d=>?_⟩;exact s F H C σ τ _ _ R S h ⟨λσ' τ' H' C' R' t' S' h'=>s' F H' C' σ' τ' D D' R' S' h' (d.at t'),d.rt,d.bk,d.ct⟩
def Ym (a:Js X e we)(hs:autoParam (swapsWith e none pos.line X.env=pure false) QzR):wY X (.Expr e pos) (Ln we):=by
 obtain⟨t,p,s⟩:=a;refine⟨_,qk p hs,λF H C σ τ D D' R S h d=>?_⟩;exact s F H C σ τ _ _ D'.xc R S h λx v H1 C1 R1 t1 rx h1=>d.nx σ τ H1 C1 R1 t1 (S.tx t1) h1
def Zk (a:Js X e we):wY X (.Return (some e) pos) (Be we):=by
 obtain⟨t,p,s⟩:=a;refine⟨_,mq p,λF H C σ τ D D' R S h d=>?_⟩;exact s F H C σ τ _ _ D'.xc R S h d.rt
def Zx (hc:wX X c wt)(ha:sZ X a wa)(hb:sZ X b wb):wY X (.If c a b pos) (Eo wt wa wb):=by
 obtain⟨t,p,s⟩:=hc;obtain⟨t1,p1,s1⟩:=ha;obtain⟨t2,p2,s2⟩:=hb;refine⟨_,gg p p1 p2,λF H C σ τ D D' R S h d=>?_⟩;refine s F H C σ τ _ _ D'.xc R S h λk H1 C1 R1 t1 h1=>?_
 cases k with
 | true=>exact s1 F H1 C1 σ τ D D' R1 (S.tx t1) h1 (d.at t1)
 | false=>exact s2 F H1 C1 σ τ D D' R1 (S.tx t1) h1 (d.at t1)
def X8 (he:Js X e we)(hg:kP X tg g)(hs:autoParam (swapsWithSole [tg] e pos.line X.env=pure false) QzR)(hw:autoParam (swappedStores [tg] e X.env=pure none) QzR)
  (h1:autoParam ((assignEach [tg] X.env).map (·.2)=[assign tg X.env]) QzR):wY X (.Assign [tg] e pos) (Lo we g):=by
 obtain⟨t,p,s⟩:=he;obtain⟨t',p',s'⟩:=hg;refine⟨_,my p p' hs hw h1,λF H C σ τ D D' R S h d=>?_⟩;refine s F H C σ τ _ _ D'.xc R S h λx v H1 C1 R1 t1 rx h1=>?_;exact s' F H1 C1 σ τ x v _ _ D'.xc R1 (S.tx t1) rx h1 λσ' τ' H' C' R' t'=>d.nx σ' τ' H' C' R' (t1.trans t')
def Zm {i:Nat}(hN:X.N.Nodup)(he:Js X e we)(hi:autoParam (X.N[i]?=some x) QzR)(hx:ic X.env.scope x:=by first | exact Or.inl FL | exact Or.inr FL)(hs:autoParam (swapsWith e (some (.Name x pos')) pos.line X.env=pure false) QzR)
  (hf:X.fn x=true\/X.env.scope.names.lookup x=some .local:=by first | exact .inl FL | exact .inr FL | assumption):wY X (.Assign [.Name x pos'] e pos) (Lo we (Eu i)):=by
 obtain⟨t,p,s⟩:=he;refine⟨_,mn hN hi hx p hs hf,λF H C σ τ D D' R S h d=>?_⟩;refine s F H C σ τ _ _ D'.xc R S h λx v H1 C1 R1 t1 rx h1=>?_;exact Y3 F H1 C1 σ τ x v _ _ D'.xc R1 (S.tx t1) rx h1 λσ' τ' H' C' R' t'=>d.nx σ' τ' H' C' R' (t1.trans t')
end
def Oh (K:WY)(F H0:Hp)(J:It)(xs:List T)(ok:Hw->Prop):Prop:=∀(i:Nat) (H:Hp) (C:Hw),Rl K F H C->Tx H0 H->ok C->
 (i<xs.length->J.go i H/\∀x H',J.yld i H x H'->∃v,xs[i]?=some v/\Rl K F H' C/\Tx H H'/\Jh K H' x v)/\(i=xs.length->J.stop i H)
def kN (K:WY)(wi:TI)(w:WI):Prop:=∀(F H:Hp) (C:Hw) (σ:L2.St) (τ:Sw) (R:It->Hp->Prop) (R':List T->(Hw->Prop)->Hw->Prop) (χ:WX),Rl K F H C->Xv K H σ τ->w τ C R' χ->
 (∀J H' xs ok C',Rl K F H' C'->Tx H H'->(∀F',Oh K F' H' J xs ok)->R' xs ok C'->R J H')->wi σ H R
def pW (X:Cx)(tg e:WW)(w:WI):Prop:=∃t,PI X tg e t/\kN X.K t w
section
variable {X:Cx}{tg e a b:WW}{we:WE}{wA:WA}{pos p:Pos}
def qO {K:WY}{F H0:Hp}:Oh K F H0 (fY K l) xs (λC=>C l=some (.lst xs)):=λi H C R t ok=>by
 obtain⟨ys,hy,r⟩:=R.lst ok;refine⟨λhi=>?_,λhi=>⟨ys,J9.of hy,by rw[r.length];omega⟩⟩;have ev:xs[i]?=some xs[i]:=by simp[hi]
 obtain⟨y,ey,ry⟩:=r.get ev;refine⟨⟨ys,y,J9.of hy,ey⟩,λx H' h=>?_⟩;obtain⟨rfl,h⟩:=h;have e2:=h ys (J9.of hy);rw[ey] at e2;cases e2;exact⟨_,ev,R,Tx.refl _,ry⟩
def gK {K:WY}{F H0:Hp}(h0:ng K H0 l ys)(r0:Reps K H0 ys xs):Oh K F H0 (fY K l) xs (λ_=>True):=λi H C R t ok=>by
 have hy:=(t.sqc h0).sq;have r:=r0.tx t;refine⟨λhi=>?_,λhi=>⟨ys,hy,by rw[r.length];omega⟩⟩;have ev:xs[i]?=some xs[i]:=by simp[hi]
 obtain⟨y,ey,ry⟩:=r.get ev;refine⟨⟨ys,y,hy,ey⟩,λx H' h=>?_⟩;obtain⟨rfl,h⟩:=h;have e2:=h ys hy;rw[ey] at e2;cases e2;exact⟨_,ev,R,Tx.refl _,ry⟩
def lM {K:WY}{F H0:Hp}(h0:Uz K H0 l ys)(r0:Reps K H0 ys xs):Oh K F H0 (cH K l) xs (λ_=>True):=λi H C R t ok=>by
 have hy:=t.sqt h0;have r:=r0.tx t;refine⟨λhi=>?_,λhi=>⟨ys,hy,by rw[r.length];omega⟩⟩;have ev:xs[i]?=some xs[i]:=by simp[hi]
 obtain⟨y,ey,ry⟩:=r.get ev;refine⟨⟨ys,y,hy,ey⟩,λx H' h=>?_⟩;obtain⟨rfl,h⟩:=h;have e2:=h ys hy;rw[ey] at e2;cases e2;exact⟨_,ev,R,Tx.refl _,ry⟩
def lN {K:WY}{F H0:Hp}:Oh K F H0 (fW z) (z.cps.toList.map λc=>T.str ⟨#[c]⟩) (λ_=>True):=λi H C R t ok=>by
 refine⟨λhi=>⟨by show i<z.cps.size;simpa using hi,λx H' h=>?_⟩,λhi=>by show i=z.cps.size;simpa using hi⟩;obtain⟨rfl,c,hc,rfl⟩:=h;refine⟨.str ⟨#[c]⟩,?_,R,Tx.refl _,Rh⟩;rw[XM,EA,hc];rfl
def lO {K:WY}{F H0:Hp}{lo:Int}:Oh K F H0 (fX lo n) (rng lo n) (λ_=>True):=λi H C R t ok=>by
 have hl:(rng lo n).length=n:=by unfold rng;simp
 refine⟨λhi=>⟨by rw[hl] at hi;exact hi,λx H' h=>?_⟩,λhi=>by show n<=i;omega⟩;obtain⟨rfl,rfl⟩:=h;refine⟨.int (lo+i),?_,R,Tx.refl _,Ja⟩;unfold rng;rw[hl] at hi;rw[XM,FE hi];rfl
def uk {R:It->Hp->Prop}(I1:Zy X WZ σ H1 s1)(r1:Ye (.str z) v)(q:R (fW z) H1):wpAny (model X.prog X.w) X.A (pyIter v) (fG X WZ σ tg R) X.xe s1:=by
 obtain⟨t,rfl⟩:=r1;have fin:∀b∈[s1.heap.objs.size],M3 X WZ H1 b:=λb hb=>by
  have e:b=s1.heap.objs.size:=by simpa using hb
  subst e;exact I1.fpOk (XE _) I1.fresh
 cases ha:z.cps.all (·<128)
 ·refine wpAny_pyIter_wide ha ⟨s1.heap.objs.size,[s1.heap.objs.size],_,_,H1,FL,I1.kept (t':=s1.toks) λb o e=>XC _ e,Gh (ty:="str_iterator") (by decide) (λA hA=>Walks.strWide hA _ z t) λ_ _ _ _ _ st h=>wpAny_pyIter_striter_wide st h,⟨_,XF _ FL,FL,FL⟩,fin,q⟩
 ·refine wpAny_pyIter_ascii ha ⟨s1.heap.objs.size,[s1.heap.objs.size],_,_,H1,FL,I1.kept (t':=s1.toks) λb o e=>XC _ e,Gh (ty:="str_ascii_iterator") (by decide) (λA hA=>Walks.strAscii hA _ z t) λ_ _ _ _ _ st h=>wpAny_pyIter_striter_ascii st h,⟨_,XF _ FL,FL,FL⟩,fin,q⟩
def dO (K:WY)(tl:TE):TI:=λσ H R=>tl σ H λx H1=>(∃a,x=.ref a/\(∃xs,J9 K H1 a xs)/\R (fY K a) H1)\/(∃a,x=.ref a/\(∃xs,Uz K H1 a xs)/\R (cH K a) H1)\/∃z,x=.str z/\R (fW z) H1
def mB (hl:PE X e tl):PI X tg e (dO X.K tl):=by
 intro WZ s σ H R I h;refine Jy (hl WZ s σ H _ I h) λv s1 ⟨x,H1,I1,r1,q1⟩=>?_
 rcases q1 with⟨a,rfl,⟨xs,hq⟩,q⟩ | ⟨a,rfl,⟨xs,hq⟩,q⟩ | ⟨z,rfl,q⟩
 ·cases r1
  obtain⟨its,rv,p,hz⟩:=I1.list hq;refine wpAny_pyIter_list p.isList ?_;refine⟨s1.heap.objs.size,[s1.heap.objs.size],_,_,H1,FL,I1.kept (t':=s1.toks) λb o e=>XC _ e,xN a _,⟨_,XF _ FL,FL,FL⟩,λb hb=>?_,q⟩;have e:b=s1.heap.objs.size:=by simpa using hb
  subst e;exact I1.fpOk (XE _) (I1.hok.fresh (XE _))
 ·cases r1
  obtain⟨its,rv,p,hz⟩:=I1.tuple hq;refine wpAny_pyIter_tuple (show s1.heap.IsTuple a its.toArray from p) ?_;refine⟨s1.heap.objs.size,[s1.heap.objs.size],_,_,H1,FL,I1.kept (t':=s1.toks) λb o e=>XC _ e,yE a _,⟨_,XF _ FL,FL,FL⟩,λb hb=>?_,q⟩;have e:b=s1.heap.objs.size:=by simpa using hb
  subst e;exact I1.fpOk (XE _) (I1.hok.fresh (XE _))
 ·exact uk I1 r1 q
def Jx (h:Js X e we):pW X tg e (lU we):=by
 obtain⟨t,p,s⟩:=h;refine⟨_,mB p,λF H C σ τ R R' χ Rr S h q=>?_⟩;refine s F H C σ τ _ _ χ Rr S h λx v H1 C1 R1 t1 rx h1=>?_
 cases v with
 | tup xs=>
  obtain⟨a,ys,rfl,hq,r⟩:=Yi rx;exact .inr (.inl ⟨a,FL,⟨ys,hq⟩,q _ H1 xs _ C1 R1 t1 (λ_=>lM hq r) h1⟩)
 | cl xs=>
  obtain⟨a,ys,rfl,hq,r⟩:=N5 rx;exact .inl ⟨a,FL,⟨ys,hq.sq⟩,q _ H1 xs _ C1 R1 t1 (λ_=>gK hq r) h1⟩
 | str z=>cases Xm rx;exact .inr (.inr ⟨z,FL,q _ H1 _ _ C1 R1 t1 (λ_=>lN) h1⟩)
 | ref a=>
  cases Z1 rx
  obtain⟨xs,hx,h1⟩:=h1;obtain⟨ys,hy,r⟩:=R1.lst hx;exact .inl ⟨a,FL,⟨ys,J9.of hy⟩,q _ H1 xs _ C1 R1 t1 (λ_=>qO) h1⟩
 | _=>exact False.elim h1
def oR (hg:Gl X "range")(hm:X.mg "range"=none)(ha:yu X [a] wA)(hs:autoParam (starEach [a] X.env=[(false,eval a X.env)]) QzR):pW X tg (.Call (.Name "range" p) [a] [] pos) (bi wA):=by
 obtain⟨t,p1,s⟩:=ha;refine⟨_,xW hg hm p1 hs,λF H C σ τ R R' χ Rr S h q=>?_⟩;refine s F H C σ τ _ _ χ Rr S h λxs vs H1 C1 R1 t1 rs h1=>?_;obtain⟨j,rfl,h2,h3,h1⟩:=h1;obtain⟨x,rfl,rx⟩:=X6 rs
 cases Yn rx
 exact⟨j,FL,h2,h3,q _ H1 _ _ C1 R1 t1 (λ_=>lO) h1⟩
end
def rW {K:WY}(hi:kN K wi i)(hg:j4 K g g')(hb:wW K tb b):wW K (iF wi g tb) (qa i g' b):=λF H C σ τ D D' R S h d=>by
 refine hi F H C σ τ _ _ D'.xc R S h λJ H1 xs ok C1 R1 t1 it h1=>?_;have it1:=it F;refine⟨λi m σ H=>m=xs.length-i/\i<=xs.length/\∃τ C,Rl K F H C/\Tx H1 H/\Xv K H σ τ/\yb g' b ok D' (xs.drop i) τ C,⟨xs.length,by simp,Nat.zero_le _,τ,C1,R1,Tx.refl _,S.tx t1,h1⟩,?_⟩;rintro i m σ2 H2 ⟨rfl,hle,τ2,C2,R2,t2,S2,h2⟩;by_cases hlt:i<xs.length
 ·right;have ed:xs.drop i=xs[i]::xs.drop (i+1):=DI hlt;rw[ed] at h2;obtain⟨hok,h2⟩:=h2;obtain⟨hgo,hy⟩:=(it1 i H2 C2 R2 t2 hok).1 hlt;refine⟨hgo,λσ' H'=>∃τ' C',Rl K F H' C'/\Tx H1 H'/\Xv K H' σ' τ'/\yb g' b ok D' (xs.drop (i+1)) τ' C',λσ' H' q=>⟨xs.length-(i+1),by omega,FL,hlt,q⟩,λx H' hx=>?_⟩;obtain⟨v,ev,R3,t3,rv⟩:=hy x H' hx;have:v=xs[i]:=by
   have e:xs[i]?=some xs[i]:=by simp[hlt]
   rw[e] at ev;exact(YH ev).symm
  subst this;refine hg F H' C2 σ2 τ2 x _ _ _ D'.xc R3 (S2.tx t3) rv h2 λσ4 τ4 H4 C4 R4 t4 S4 h4=>?_;have tt:Tx H1 H4:=(t2.trans t3).trans t4;exact hb F H4 C4 σ4 τ4 _ _ R4 S4 h4 ⟨λσ5 τ5 H5 C5 R5 t5 S5 h5=>⟨τ5,C5,R5,tt.trans t5,S5,h5⟩,λx v H5 C5 R5 t5=>d.rt x v H5 C5 R5 ((t1.trans tt).trans t5),λσ5 τ5 H5 C5 R5 t5 S5 h5=>d.nx σ5 τ5 H5 C5 R5 ((t1.trans tt).trans t5) S5 h5,
   λσ5 τ5 H5 C5 R5 t5 S5 h5=>⟨τ5,C5,R5,tt.trans t5,S5,h5⟩⟩
 ·left;have e:i=xs.length:=by omega
  subst e;rw[EU] at h2;obtain⟨hok,h2⟩:=h2;exact⟨(it1 _ H2 C2 R2 t2 hok).2 FL,d.nx σ2 τ2 H2 C2 R2 (t1.trans t2) S2 h2⟩
def Wp {X:Cx}{pos:Pos}(hp:PassesOwn (model X.prog X.w) X.A X.env X.xe)(hc:X.calm=true)(hi:pW X tg iter i)(hg:kP X tg g)(hb:sZ X body b)
  (hs:∀x,foldedSetIterable iter X.env x=pure x:=by intro _;rfl):wY X (.For tg iter body [] pos) (qa i g b):=by
 obtain⟨t,p,s⟩:=hi;obtain⟨t',p',s'⟩:=hg;obtain⟨t2,p2,s2⟩:=hb;exact⟨_,mr hp hc p p' p2 hs,rW s s' s2⟩
def fM (K:WY)(we:WE):TE:=λσ H Q=>∃(F:Hp) (C:Hw) (τ:Sw) (Q':WK) (χ:WX),Rl K F H C/\Xv K H σ τ/\we τ C Q' χ/\QE K F H Q Q'
def xO (K:WY)(wt:WT):TT:=λσ H Q=>∃(F:Hp) (C:Hw) (τ:Sw) (Q':Bool->Hw->Prop) (χ:WX),Rl K F H C/\Xv K H σ τ/\wt τ C Q' χ/\QT K F H Q Q'
def Js.pe (h:Js X e we):PE X e (fM X.K we):=by
 obtain⟨t,p,s⟩:=h;intro WZ st σ H Q I hq;obtain⟨F,C,τ,Q',χ,R,S,hw,q⟩:=hq;exact p WZ st σ H Q I (s F H C σ τ Q Q' χ R S hw q)
def sY (X:Cx)(ifs:List WW)(w:WT):Prop:=∃t,va X ifs t/\Mz X.K t w
def Xf:sY X [] nF:=⟨_,qr,λF H C σ τ Q Q' χ R S h q=>q true H C R (Tx.refl H) h⟩
def qX (h:wX X e wt):sY X [e] wt:=by
 obtain⟨t,p,s⟩:=h;exact⟨t,qq p,s⟩
def sY.pif (h:sY X ifs w):va X ifs (xO X.K w):=by
 obtain⟨t,p,s⟩:=h;intro WZ st σ H Q I hq;obtain⟨F,C,τ,Q',χ,R,S,hw,q⟩:=hq;exact p WZ st σ H Q I (s F H C σ τ Q Q' χ R S hw q)
def Xv.cap {K:WY}(h:Xv K H σ τ)(cap:List (Option Nat)):Xv K H (Mv cap σ) (Aj cap τ):=by
 refine⟨by unfold Mv Aj;rw[XI,XI],λi v e=>?_⟩;unfold Aj at e;unfold Mv;rw[XM] at e |-
 cases ho:cap[i]? with
 | none=>rw[ho] at e;cases e
 | some o=>
  rw[ho] at e
  cases o with
  | none=>simp at e
  | some j=>
   have e':(τ[j]?).join=some v:=by simpa using e
   have e2:τ[j]?=some (some v):=by
    cases hj:τ[j]? with
    | none=>rw[hj] at e';cases e'
    | some z=>rw[hj] at e';rw[show z=some v from e']
   obtain⟨x,hx,r⟩:=h.2 j v e2;exact⟨x,by simp[hx],r⟩
def tS (F:Hp)(p:WP)(ys:List V):Hp:=λb=>if b=p then some (.lst ys) else F b
def Ka {F:Hp}:tS F p ys p=some (.lst ys):=by unfold tS;rw[XY rfl]
def Ad {F:Hp}{p b:WP}(h:b≠p):tS F p ys b=F b:=by unfold tS;rw[XX h]
def zk {K:WY}{cap:List (Option Nat)}{wc:WT}{we:WE}(hi:kN K wi i)(hg:j4 K g wg){F H:Hp}{C:Hw}{σ:L2.St}{τ:Sw}{Q:WP->Hp->Prop}{Q':WK}{χ:WX}
  (R:Rl K F H C) (S:Xv K H σ τ) (h:xo cap i wg wc we τ C Q' χ) (q:∀p H' C',Rl K F H' C'->Tx H H'->Q' (.ref p) C'->Q p H'):Ct cap wi g (xO K wc) (fM K we) σ H Q:=by
 refine hi F H C σ τ _ _ χ R S h λJ H1 xs ok C1 R1 t1 it h1=>?_;intro p hp;have hn:∀a o,F a=some o->a≠p:=λa o e=>Jm (R1.frm a o e).1 hp;refine⟨λi m H2=>m=xs.length-i/\i<=xs.length/\∃C2 ys acc,Rl K (tS F p ys) H2 C2/\Tx H1 H2/\Reps K H2 ys acc/\Kp wg wc we ok (Aj cap τ) (λvs C2=>∀p,C2 p=none->Q' (.ref p) (up C2 p (.lst vs))) χ (xs.drop i) acc C2,
  ⟨xs.length,by simp,Nat.zero_le _,C1,[],[],?_,Tx.new hp,Yv,h1⟩,?_⟩
 ·refine⟨(R1.hid hp).obj,λa o e=>?_⟩;by_cases ea:a=p
  ·subst ea;rw[Ka] at e;cases e;exact⟨Z3,R1.free hp⟩
  ·rw[Ad ea] at e;exact(R1.hid hp).frm a o e
 rintro i m H2 ⟨rfl,hle,C2,ys,acc,R2,t2,ra,h2⟩;by_cases hlt:i<xs.length
 ·right;have ed:xs.drop i=xs[i]::xs.drop (i+1):=DI hlt;rw[ed] at h2;obtain⟨hok,h2⟩:=h2;obtain⟨hgo,hy⟩:=(it (tS F p ys) i H2 C2 R2 t2 hok).1 hlt;refine⟨hgo,λH'=>∃C2 ys acc,Rl K (tS F p ys) H' C2/\Tx H1 H'/\Reps K H' ys acc/\Kp wg wc we ok (Aj cap τ) (λvs C2=>∀p,C2 p=none->Q' (.ref p) (up C2 p (.lst vs))) χ (xs.drop (i+1)) acc C2,
   λH' z=>⟨xs.length-(i+1),by omega,FL,hlt,z⟩,λx H' hx=>?_⟩
  obtain⟨v,ev,R3,t3,rv⟩:=hy x H' hx;have:v=xs[i]:=by
   have e:xs[i]?=some xs[i]:=by simp[hlt]
   rw[e] at ev;exact(YH ev).symm
  subst this;have S3:Xv K H' (Mv cap σ) (Aj cap τ):=(S.tx ((t1.trans t2).trans t3)).cap cap;refine hg (tS F p ys) H' C2 (Mv cap σ) (Aj cap τ) x _ _ _ χ R3 S3 rv h2 λσ4 τ4 H4 C4 R4 t4 S4 h4=>?_;refine⟨tS F p ys,C4,τ4,_,χ,R4,S4,h4,λb H5 C5 R5 t5 h5=>?_⟩;have t15:Tx H2 H5:=(t3.trans t4).trans t5
  cases b with
  | true=>
   refine⟨tS F p ys,C5,τ4,_,χ,R5,S4.tx t5,h5,λy vy H6 C6 R6 t6 ry h6=>?_⟩;obtain⟨e6,n6⟩:=R6.frm p _ Ka;have tp:Tx H6 (Yz H6 p (.lst (ys++[y]))):=Tx.put e6 (λz=>z);refine⟨ys,e6,by rw[ra.length];exact h6.1,C6,ys++[y],acc++[vy],⟨λa o e=>?_,λa o e=>?_⟩,(t2.trans (t15.trans t6)).trans tp,((ra.tx (t15.trans t6)).snoc ry).tx tp,h6.2⟩
   ·have ea:a≠p:=λz=>by subst z;rw[n6] at e;cases e
    exact(R6.obj a o e).stay tp (Zt ea)
   ·by_cases ea:a=p
    ·subst ea;rw[Ka] at e;cases e;exact⟨Z3,n6⟩
    ·rw[Ad ea] at e;rw[Zt ea];exact R6.frm a o (by rw[Ad ea];exact e)
  | false=>exact⟨C5,ys,acc,R5,t2.trans t15,ra.tx t15,h5⟩
 ·left;have e:i=xs.length:=by omega
  subst e;rw[EU] at h2;obtain⟨hok,h2⟩:=h2;refine⟨(it (tS F p ys) _ H2 C2 R2 t2 hok).2 FL,?_⟩;obtain⟨e6,n6⟩:=R2.frm p _ Ka;refine q p H2 (up C2 p (.lst acc)) ⟨λa o e=>?_,λa o e=>?_⟩ (t1.trans t2) (h2 p n6)
  ·by_cases ea:a=p
   ·subst ea;rw[Ze] at e;cases e;exact⟨ys,e6,ra⟩
   ·rw[Zg ea] at e;exact R2.obj a o e
  ·have ea:=hn a o e;rw[Zg ea];exact R2.frm a o (by rw[Ad ea];exact e)
section
variable {X:Cx}{tg iter elt:WW}{ifs:List WW}{scope:Scope}{pos:Pos}{cN:List Str}{cap:List (Option Nat)}{cl:List (Str×WP)}{js:List Nat}{i:WI}{g:TG}{wg:WG}{wc:WT}{we:WE}
def E9 {K:WY}:∀(σ:L2.St) (H:Hp) (Q Q':Bool->Hp->Prop),(∀b H',Q b H'->Q' b H')->xO K w σ H Q->xO K w σ H Q':=λσ H Q Q' m h=>by
 obtain⟨F,C,τ,R',χ,R,S,hw,q⟩:=h;exact⟨F,C,τ,R',χ,R,S,hw,λb H' C' r t h=>m _ _ (q b H' C' r t h)⟩
structure nh (X:Cx)(tg iter elt:Expr)(ifs:List Expr)(scope:Scope)(cN:List Str)(cap:List (Option Nat))(cl:List (Str×Addr))(js:List Nat)(i:WI)(g:TG)(wg:WG)(wc:WT)(we:WE):Prop where
 calm:X.calm=true
 ok:X.Ok->Ef X cN cap scope cl
 it:pW X tg iter i
 tgt:∀fp s H,PG (Y2 X cN scope cl fp s H) tg g
 gm:Mx g
 gk:D9 js g
 sg:j4 X.K g wg
 js0:∀j∈js,(cap[j]?).join=none
 ts:∀fp s H,sY (Y2 X cN scope cl fp s H) ifs wc
 el:∀fp s H,Js (Y2 X cN scope cl fp s H) elt we
 fold:∀x,foldedSetIterable iter X.env x=pure x
def Uy (D:nh X tg iter elt ifs scope cN cap cl js i g wg wc we):Js X (.ListComp elt [⟨tg,iter,ifs,0⟩] scope pos) (xo cap i wg wc we):=by
 obtain⟨wi,p,s⟩:=D.it;have P:yz X tg iter elt ifs scope cN cap cl js wi g (xO X.K wc) (fM X.K we):=⟨D.calm,D.ok,p,D.tgt,D.gm,D.gk,D.js0,λfp s H=>(D.ts fp s H).pif,E9,λfp s H=>(D.el fp s H).pe,D.fold⟩;exact⟨_,qx P,λF H C σ τ Q Q' χ R S h q=>zk s D.sg R S h λp H' C' R' t' h'=>q _ _ H' C' R' t' Y6 h'⟩
def Ru {k:Nat}{py spos:Pos}(hN:X.N.Nodup)(hi:X.N[k]?=some y)(hy:X.env.scope.names.lookup y=some .local)
  (hsw:swapsWith (.ListComp elt [⟨tg,iter,ifs,0⟩] scope pos) (some (.Name y py)) spos.line X.env=pure true)
  (D:nh X tg iter elt ifs scope cN cap cl js i g wg wc we):wY X (.Assign [.Name y py] (.ListComp elt [⟨tg,iter,ifs,0⟩] scope pos) spos) (Lo (xo cap i wg wc we) (Eu k)):=by
 obtain⟨wi,p,s⟩:=D.it;have P:yz X tg iter elt ifs scope cN cap cl js wi g (xO X.K wc) (fM X.K we):=⟨D.calm,D.ok,p,D.tgt,D.gm,D.gk,D.js0,λfp s H=>(D.ts fp s H).pif,E9,λfp s H=>(D.el fp s H).pe,D.fold⟩;exact⟨_,yP hN hi hy hsw P,λF H C σ τ E E' R S h d=>zk s D.sg R S h λp H' C' R' t' h'=>d.nx _ _ H' C' R' t' ((S.tx t').set Y6) h'⟩
end
def Z5 {k:Nat}(hr:Wv k A):A.units+150<cLine:=by have:=hr.un;omega
def spW (K:WY)(pr:List Df)(n i:Nat):Sp:=λvs H Q _=>∃(F:Hp) (C:Hw) (vs':List T) (Q':WK) (χ:WX),Rl K F H C/\Reps K H vs vs'/\Yg pr n i vs' C Q' χ/\QE K F H Q Q'
def Zp {X:Cx}{k i:Nat}{p pos:Pos}{e:WW}{es:List WW}(Cc:Ca X.prog X.w X.K X.mg X.base k x ps (spW X.K pr k i))(hr:Wv k X.A)(hg:Gl X x)(ha:yu X (e::es) wA)
  (hdb:(x==("__debug__":Str))=false:=by decide) (he:autoParam (starEach (e::es) X.env=(false,eval e X.env)::starEach es X.env) QzR) (hpl:autoParam ((backTo pos (starEach es X.env)).any (·.1)=false) QzR):
  Js X (.Call (.Name x p) (e::es) [] pos) (Qm (Yg pr k) i wA):=by
 obtain⟨t,p1,s⟩:=ha;refine⟨_,gr Cc hr hg p1 hdb he hpl,λF H C σ τ Q Q' χ R S h q=>?_⟩;refine s F H C σ τ _ _ χ R S h λxs vs H1 C1 R1 t1 rs h1=>?_;refine⟨F,C1,vs,Q',χ,R1,?_,h1,QE.at q t1⟩;rw[YK];exact rs
def Xv.start {K:WY}(h:Reps K H vs vs')(N:List Str)(m:Nat)(e:m=N.length-vs.length):Xv K H (start N vs) (vs'.map some++List.replicate m none):=by
 refine⟨?_,λi v hv=>?_⟩
 ·unfold L2.start;rw[BA,BA,XI,XI,DY,DY,h.length,e,h.length]
 ·unfold L2.start;by_cases hi:i<vs'.length
  ·rw[BP (by rw[XI];exact hi),XM] at hv
   cases hg:vs'[i]? with
   | none=>rw[hg] at hv;cases hv
   | some z=>
    rw[hg] at hv
    cases hv
    obtain⟨x,hx,r⟩:=h.get hg;refine⟨x,?_,r⟩;rw[BP (by rw[XI,h.length];exact hi),XM,hx];rfl
  ·rw[CC (by rw[XI];omega),List.getElem?_replicate] at hv
   split at hv
   ·cases hv
   ·cases hv
def pC {K:WY}{mg:Str->Option WQ}{st:WV}{f:WP}(F:j8 K x x st f fd)(hb:Wz K fd ps [])(hm:mg x=some (.ref f)):Ca P w K mg base 0 x ps (spW K pr 0 i):=
 ⟨f,fd,⟨λvs H Q E h=>by obtain⟨_,_,_,_,_,_,_,z,_⟩:=h;exact z.elim,λA outer s H args us vs Q E _ _ _ _ h=>by obtain⟨_,_,_,_,_,_,_,z,_⟩:=h;exact z.elim⟩,hb,F.kp,hm⟩
def pD {K:WY}{mg:Str->Option WQ}{st:WV}{f:WP}(F:j8 K x x st f fd)(hb:Wz K fd ps [])(hm:mg x=some (.ref f))(G:U0 P w K mg base CX0 n f fd ps sp):Ca P w K mg base n x ps sp:=
 ⟨f,fd,G,hb,F.kp,hm⟩
def law_sp {K:WY}{ns:List Int}(hO:re H)(hS:J9 K H a (ns.map V.int))(h:Yg pr n i [.cl (ns.map T.int)] (λ_=>none) (λv _=>v=.bl true) (λ_ _=>False)):
  spW K pr n i [.ref a] H (λv _=>v=.bl true) (λ_ _ _=>False):=by
 have hq:ng K H a (ns.map V.int):=by
  rcases hS with(h | ⟨o,h⟩) | h
  ·rcases hO a with e | ⟨o,xs,e⟩
   ·rw[e] at h;cases h
   ·rw[e] at h;cases h
  ·exact .inl ⟨o,h⟩
  ·exact .inr h
 refine⟨λ_=>none,λ_=>none,[.cl (ns.map T.int)],_,_,⟨(λ_ _ e=>by cases e),(λ_ _ e=>by cases e)⟩,Yh ?_ Yv,h,λx v H' C' R t r e=>?_⟩
 ·unfold Jh;exact⟨a,_,FL,hq,Dh ns⟩
 ·subst e;exact Py r
end WL
namespace L2
open PySem PySem.Spec PyProof.Rows
section
variable {κ:Type}[DecidableEq κ]
def Pr (kvs:List (κ×V))(k:κ):Option V:=(kvs.find? λkv=>decide (kv.1=k)).map (·.2)
def Wt (kvs:List (κ×V))(k:κ)(v:V):List (κ×V):=
 if (kvs.any λkv=>decide (kv.1=k))=true then kvs.map (λkv=>if kv.1=k then(kv.1,v) else kv) else kvs++[(k,v)]
def oQ (kvs:List (κ×V))(k:κ):List (κ×V):=kvs.filter λkv=>decide (kv.1≠k)
def M9 {p:κ×V}{r:List (κ×V)}{k:κ}(e:p.1=k):Pr (p::r) k=some p.2:=by simp[Pr,List.find?_cons,e]
def La {p:κ×V}{r:List (κ×V)}{k:κ}(e:¬p.1=k):Pr (p::r) k=Pr r k:=by simp[Pr,List.find?_cons,e]
def A6 (k:κ):∀kvs:List (κ×V),(kvs.any λkv=>decide (kv.1=k))=(Pr kvs k).isSome
 | []=>rfl
 | p::r=>by
  rw[DR];by_cases e:p.1=k
  ·simp only[M9 e,decide_eq_true e,Bool.true_or,Option.isSome_some]
  ·rw[La e,YG e,Bool.false_or];exact A6 k r
def Oc (kvs:List (κ×V))(k:κ)(v:V):(Wt kvs k v).length<=kvs.length+1:=by
 unfold Wt
 split
 ·rw[XI];omega
 ·rw[BA,YF,EZ];omega
def Q9.isSome_eq (r:Q9 o u):o.isSome=u.isSome:=by
 cases o with
 | none=>cases u with
  | none=>rfl
  | some _=>exact(show False from r).elim
 | some _=>cases u with
  | none=>exact(show False from r).elim
  | some _=>rfl
def Q9.getD (r:Q9 o u)(rd:Ye d d'):Ye (o.getD d) (u.getD d'):=by
 cases o with
 | none=>cases u with
  | none=>exact rd
  | some _=>exact(show False from r).elim
 | some _=>cases u with
  | none=>exact(show False from r).elim
  | some _=>exact r
def KV.val (r:KV kvs vs)(k:κ):Q9 (Pr kvs k) (valueAt vs k):=by
 unfold KV at r
 induction r with
 | nil=>exact True.intro
 | @cons p q ps qs h t ih=>
  obtain⟨h1,h2⟩:=h;by_cases e:p.1=k
  ·have e':q.1=k:=h1.symm.trans e;have b:valueAt (q::qs) k=some q.2:=by simp[valueAt,List.find?_cons,e']
   rw[M9 e,b];exact h2
  ·have e':¬q.1=k:=λz=>e (h1.trans z);have b:valueAt (q::qs) k=valueAt qs k:=by simp[valueAt,List.find?_cons,e']
   rw[La e,b];exact ih
def KV.any (r:KV kvs vs)(k:κ):(kvs.any λkv=>decide (kv.1=k))=vs.any λkv=>decide (kv.1=k):=by
 unfold KV at r
 induction r with
 | nil=>rfl
 | cons h t ih=>rw[DR,DR,ih,h.1]
def KV.repl (r:KV kvs vs)(k:κ)(ry:Ye y u):
  KV (kvs.map λkv=>if kv.1=k then(kv.1,y) else kv) (vs.map λkv=>if kv.1=k then(kv.1,u) else kv):=by
 unfold KV at r |-
 induction r with
 | nil=>exact .nil
 | @cons p q ps qs h t ih=>
  rw[YI,YI];refine .cons ?_ ih;obtain⟨h1,h2⟩:=h;by_cases e:p.1=k
  ·rw[XY e,XY (h1.symm.trans e)];exact⟨h1,ry⟩
  ·rw[XX e,XX (λz=>e (h1.trans z))];exact⟨h1,h2⟩
def KV.put (r:KV kvs vs)(k:κ)(ry:Ye y u):KV (Wt kvs k y) (stored vs k u):=by
 unfold Wt stored;rw[r.any k];by_cases e:(vs.any λkv=>decide (kv.1=k))=true
 ·rw[XY e,XY e];exact r.repl k ry
 ·rw[XX e,XX e];exact Paired.snoc r ⟨FL,ry⟩
def KV.length (r:KV kvs vs):kvs.length=vs.length:=Paired.length r
end
def Iy {k:Z0}(r:Ye (kV k) u):(Yq P w).is k u=true:=by
 cases k with
 | inl i=>obtain⟨t,e⟩:=(show ∃t,u=Value.int i t from r);subst e;exact zI P w i t
 | inr x=>obtain⟨t,e⟩:=(show ∃t,u=Value.str x t from r);subst e;exact zH P w x t
def Dk:∀{ks:List Z0} {us:List WQ},Yd (ks.map kV) us->ItemsAre (Yq P w) ks us
 | [],_,r=>by rw[FI] at r;cases r;exact .nil
 | k::ks,_,r=>by
  rw[YI] at r
  cases r with
  | cons h t=>exact .cons (Iy h) (Dk t)
abbrev KT (H:Hp):List (List Z0×V)->List (List Z0×WP×WQ)->Prop:=Paired λp q=>p.1=q.1/\H q.2.1=some (.tup (p.1.map kV))/\Ye p.2 q.2.2
def KT.val (r:KT H kvs xs)(k:List Z0):Q9 (Pr kvs k) ((atKey xs k).map (·.2)):=by
 induction r with
 | nil=>exact True.intro
 | @cons p q ps qs h t ih=>
  obtain⟨h1,_,h2⟩:=h;by_cases e:p.1=k
  ·have e':q.1=k:=h1.symm.trans e;have b:atKey (q::qs) k=some q.2:=by simp[atKey,List.find?_cons,e']
   rw[M9 e,b];exact h2
  ·have e':¬q.1=k:=λz=>e (h1.trans z);have b:atKey (q::qs) k=atKey qs k:=by simp[atKey,List.find?_cons,e']
   rw[La e,b];exact ih
def KT.repl (r:KT H kvs xs)(k:List Z0)(ry:Ye y u):
  KT H (kvs.map λkv=>if kv.1=k then(kv.1,y) else kv) (xs.map (putAt k u)):=by
 induction r with
 | nil=>exact .nil
 | @cons p q ps qs h t ih=>
  rw[YI,YI];refine .cons ?_ ih;obtain⟨h1,h2,h3⟩:=h;unfold putAt;by_cases e:p.1=k
  ·rw[XY e,XY (h1.symm.trans e)];exact⟨h1,h2,ry⟩
  ·rw[XX e,XX (λz=>e (h1.trans z))];exact⟨h1,h2,h3⟩
def KT.put (r:KT H kvs xs)(k:List Z0)(hb:H b=some (.tup (k.map kV)))(ry:Ye y u):
  KT H (Wt kvs k y) (storedH xs k b u):=by
 have e:(kvs.any λkv=>decide (kv.1=k))=(atKey xs k).isSome:=by
  rw[A6,(r.val k).isSome_eq,DH]
 unfold Wt storedH;rw[e];by_cases q:(atKey xs k).isSome=true
 ·rw[XY q,XY q];exact r.repl k ry
 ·rw[XX q,XX q];exact Paired.snoc r ⟨FL,hb,ry⟩
def KT.keeps {H H':Hp}(r:KT H kvs xs)(ht:∀b ys,H b=some (.tup ys)->H' b=some (.tup ys)):KT H' kvs xs:=
 Paired.mapP r λ_ _ z=>⟨z.1,ht _ _ z.2.1,z.2.2⟩
section
variable {P:WO}{w:WN}{H:Hp}{h:WU}{a:WP}
def oE (ok:M7 P w H h)(e:Rd H a u):Ji P w H h a u:=e.ok ok
def Kj (ok:M7 P w H h)(e:Rd H a (.dK kvs)):kvs.length<=sizeLine/\(a==sysModules)=false/\∃vs,KV kvs vs/\h.DictOf (Yq P w) a vs:=
 show Ji P w H h a (.dK kvs) from oE ok e
def xp (ok:M7 P w H h)(e:H a=some (.dK kvs)):kvs.length<=sizeLine/\(a==sysModules)=false/\∃vs,KV kvs vs/\h.DictOf (Yq P w) a vs:=Kj ok (.inl e)
def Ig {ks:List Z0}(ok:M7 P w H h)(e:H a=some (.tup (ks.map kV))):(tupleKind (Yq P w)).is h ks a:=by
 obtain⟨_,its,r,o,h1,h2,n,h3⟩:=(show Ji P w H h a (.tup (ks.map kV)) from ok a _ e);exact⟨o,its.toArray,n,h1,h2,h3,by simpa using Dk r⟩
def Fs (ok:M7 P w H h)(e:Rd H a (.dT kvs)):kvs.length<=sizeLine/\(a==sysModules)=false/\
  ∃xs,KT H kvs xs/\h.DictOfH (tupleKind (Yq P w)) a xs:=by
 obtain⟨z,y,xs,r,o,es,ep,h1,h2,h3,h4,h5⟩:=(show Ji P w H h a (.dT kvs) from oE ok e);refine⟨z,y,xs,r,o,es,ep,h1,h2,h3,h4,λx hx=>?_,h5⟩;have all:∀{l:List (List Z0×V)} {m:List (List Z0×WP×WQ)},KT H l m->∀x∈m,(tupleKind (Yq P w)).is h x.1 x.2.1:=by
  intro l m q
  induction q with
  | nil=>intro x hx;exact nomatch hx
  | @cons p q ps qs hq t ih=>
   intro x hx
   rcases BC.mp hx with e | hx
   ·subst e;exact Ig ok (by rw[<-hq.1];exact hq.2.1)
   ·exact ih x hx
 exact all r x hx
def gY (ok:M7 P w H h)(e:H a=some (.dT kvs)):kvs.length<=sizeLine/\(a==sysModules)=false/\
  ∃xs,KT H kvs xs/\h.DictOfH (tupleKind (Yq P w)) a xs:=Fs ok (.inl e)
end
def E6 (H:Hp)(a:WP)(y:V)(r:Option V):Prop:=
 (∃kvs k,Rd H a (.dK kvs)/\y=kV k/\r=Pr kvs k)\/∃kvs k b,Rd H a (.dT kvs)/\y=.ref b/\H b=some (.tup (k.map kV))/\r=Pr kvs k
def vd (H:Hp)(a:WP)(y v:V)(H':Hp):Prop:=
 (∃kvs k,H a=some (.dK kvs)/\y=kV k/\kvs.length<sizeLine/\H'=Yz H a (.dK (Wt kvs k v)))\/
 ∃kvs k b,H a=some (.dT kvs)/\y=.ref b/\H b=some (.tup (k.map kV))/\kvs.length<sizeLine/\H'=Yz H a (.dT (Wt kvs k v))
def vd.k {H:Hp}{k:Z0}(e:H a=some (.dK kvs))(hl:kvs.length<sizeLine):vd H a (kV k) v (Yz H a (.dK (Wt kvs k v))):=.inl ⟨kvs,k,e,FL,hl,FL⟩
section
variable {X:Cx}{WZ:List (WP×Obj)}{σ:St}{H:Hp}{s:WR}{a:WP}{y v:V}{u r:WQ}{o:Option V}{A:WM}{E:WQ->WR->Prop}
def Zy.big (I:Zy X WZ σ H s):sysModules<s.heap.objs.size:=by
 have h:mainGlobals<s.heap.objs.size:=(I.mod.glob.keeps I.bk).lt;exact Nat.lt_trans (by decide) h
def wL {Q:WQ->WR->Prop}(hu:A.units+1<cLine)(I:Zy X WZ σ H s)(g:E6 H a y (some v))(ry:Ye y u)(h:∀w' s',Zy X WZ σ H s'->Ye v w'->Q w' s'):
  wpAny (model X.prog X.w) A (getItem (.ref a) u) Q E s:=by
 rcases g with⟨kvs,k,e,ey,l⟩ | ⟨kvs,k,b,e,ey,eb,l⟩
 ·subst ey;obtain⟨z,hd,vs,rel,dd⟩:=Kj I.hok e;obtain⟨w',hw,rw'⟩:=Q9.some_of (v:=v) (o:=valueAt vs k) (by rw[l];exact rel.val k);exact wpAny_getItem_of (Iy ry) dd.mapOf hw (h w' _ (I.tok _) rw')
 ·subst ey
  cases (show u=Value.ref b from ry)
  obtain⟨z,hd,xs,rel,dd⟩:=Fs I.hok e;obtain⟨w',hw,rw'⟩:=Q9.some_of (v:=v) (o:=(atKey xs k).map (·.2)) (by rw[l];exact rel.val k);obtain⟨p,hp,hp2⟩:=Option.map_eq_some_iff.mp hw;refine wpAny_getItem_heap (tupleKind_room_in1 hu) (Ig I.hok eb) dd hp ?_;rw[hp2];exact h w' _ (I.tok _) rw'
def ci {Q:WQ->WR->Prop}(hu:A.units+1<cLine)(I:Zy X WZ σ H s)(g:E6 H a y o)(ry:Ye y u)(h:∀s',Zy X WZ σ H s'->Q (.bool o.isSome) s'):
  wpAny (model X.prog X.w) A (compareOp .In u (.ref a)) Q E s:=by
 rcases g with⟨kvs,k,e,ey,l⟩ | ⟨kvs,k,b,e,ey,eb,l⟩
 ·subst ey;obtain⟨z,hd,vs,rel,dd⟩:=Kj I.hok e;refine wpAny_in_of (Iy ry) hd dd.mapOf ?_;rw[<-(rel.val k).isSome_eq,<-l];exact h _ (I.tok _)
 ·subst ey
  cases (show u=Value.ref b from ry)
  obtain⟨z,hd,xs,rel,dd⟩:=Fs I.hok e;refine wpAny_in_heap (tupleKind_room_in1 hu) (Ig I.hok eb) hd dd ?_;have q:=(rel.val k).isSome_eq;rw[DH] at q;rw[<-q,<-l];exact h _ (I.tok _)
def ph {Q:WQ->WR->Prop}(hu:A.units+1<cLine)(I:Zy X WZ σ H s)(g:E6 H a y o)(ry:Ye y u)(h:∀s',Zy X WZ σ H s'->Q (.bool (!o.isSome)) s'):
  wpAny (model X.prog X.w) A (compareOp .NotIn u (.ref a)) Q E s:=by
 rcases g with⟨kvs,k,e,ey,l⟩ | ⟨kvs,k,b,e,ey,eb,l⟩
 ·subst ey;obtain⟨z,hd,vs,rel,dd⟩:=Kj I.hok e;refine wpAny_notIn_of (Iy ry) hd dd.mapOf ?_;rw[<-(rel.val k).isSome_eq,<-l];exact h _ (I.tok _)
 ·subst ey
  cases (show u=Value.ref b from ry)
  obtain⟨z,hd,xs,rel,dd⟩:=Fs I.hok e;refine wpAny_notIn_heap (tupleKind_room_in1 hu) (Ig I.hok eb) hd dd ?_;have q:=(rel.val k).isSome_eq;rw[DH] at q;rw[<-q,<-l];exact h _ (I.tok _)
def Ga {t':Nat}(I:Zy X WZ σ H s)(mu:fI (H a))(hs:Heap.SameBut a s.heap h')(he:∃q,h'.get? a=some q)(new:Ji X.prog X.w (Yz H a ob) h' a ob):
  Zy X WZ σ (Yz H a ob) {s with heap:=h',toks:=t'}:=
 I.write (x:=a) (e:=a) mu (.inl FL) (λb q hb z=>(hs.2 b hb).trans z) he new
def Ft {H':Hp}{h':WU}{kvs:List (Z0×V)}(z:kvs.length<=sizeLine)(hd:(a==sysModules)=false)(rel:KV kvs vs)(dd:h'.DictOf (Yq P w) a vs):
  Ji P w H' h' a (.dK kvs):=⟨z,hd,vs,rel,dd⟩
def wK {Q:Unit->WR->Prop}(hu:A.units+1<cLine)(I:Zy X WZ σ H s)(g:vd H a y v H')(ry:Ye y u)(rv:Ye v r)(h:∀s',Zy X WZ σ H' s'->Q () s'):
  wpAny (model X.prog X.w) A (setItem (.ref a) u r) Q E s:=by
 rcases g with⟨kvs,k,e,ey,l,eH⟩ | ⟨kvs,k,b,e,ey,eb,l,eH⟩
 ·subst ey eH;obtain⟨z,hd,vs,rel,dd⟩:=xp I.hok e;have hz:vs.length<=sizeLine:=by rw[<-rel.length];exact z
  have hl:(Wt kvs k v).length<=sizeLine:=by have:=Oc kvs k v;omega
  refine wpAny_setItem_pairs (hsz:=hz) (Iy ry) dd λh' dd' hs=>h _ ?_;have he:∃q,h'.get? a=some q:=let ⟨q,_,_,hq,_⟩:=dd';⟨q,hq⟩
  exact Ga I (by rw[e];exact True.intro) hs he (Ft hl hd (rel.put k rv) dd')
 ·subst ey eH
  cases (show u=Value.ref b from ry)
  obtain⟨z,hd,xs,rel,dd⟩:=gY I.hok e;have hz:xs.length<=sizeLine:=by rw[<-Paired.length rel];exact z
  have hl:(Wt kvs k v).length<=sizeLine:=by have:=Oc kvs k v;omega
  refine wpAny_setItem_heap (hsz:=hz) (tupleKind_room_in1 hu) (Ig I.hok eb) dd λh' dd' hs=>h _ ?_;obtain⟨q,es,ep,hq,h2,h3,h4,_,h5⟩:=dd';refine Ga I (by rw[e];exact True.intro) hs ⟨q,hq⟩ ⟨hl,hd,_,(rel.put k eb rv).keeps λc ys ec=>?_,q,es,ep,hq,h2,h3,h4,h5⟩;rw[Zt (gC ec e (λz=>nomatch z))];exact ec
end
section
variable {X:Cx}{WZ:List (WP×Obj)}{σ:St}{H:Hp}{s:WR}{a:WP}{kvs:List (Z0×V)}{k:Z0}{u:WQ}{A:WM}{E:WQ->WR->Prop}
end
def kS (i:WW):Prop:=∀ov iv,subscripted i false ov iv=operate [ov,iv] (getItem ov iv)
def rR {prog:WO}{w:WN}{A:WM}{E:WQ->WR->Prop}{s:WR}{env:Env}{value slice:WW}{pos:Pos}{T id:String}{Q:WQ->WR->Prop}
  (hl:typeLookup (.type T) "__getitem__"=pure (some (.builtin id))) (hs:kS slice)
  (h:wpAny (model prog w) A (eval value env) (λo s₁=>wpAny (model prog w) A (eval slice env) (λi s₂=>s₂.TypeIs o T/\wpAny (model prog w) A (getItem o i) Q E s₂) E s₁) E s):
  wpAny (model prog w) A (eval (.Subscript value slice pos) env) Q E s:=by
 refine Subscript_ (wpAny_mono h (λo s₁ h₁=>wpAny_mono h₁ (λi s₂ h₂=>?_) λ_ _ x=>x) λ_ _ x=>x);obtain⟨hT,h₂⟩:=h₂;unfold subscriptTail;refine XA ?_;rw[getitemInPython_of_ne hT.not_modules];refine XA (wpAny_specialOf hT hl ?_);have fin:wpAny (model prog w) A (subscripted slice false o i) (λr s₃=>wpAny (model prog w) A (letTemporaryGo value o r>>=λ_=>pure r) Q E s₃) E s₂:=by
  rw[hs o i];exact wpAny_operating (wpAny_mono h₂ (λr s₃ h₃=>XA (wpAny_letTemporaryGo (XB h₃))) λ_ _ x=>x)
 first
  | exact XB (XA fin)
  | exact XA (XB (XA fin))
  | exact XA fin
def yi (I:Zy X WZ σ H s)(g:E6 H a y o):s.TypeIs (.ref a) "dict":=by
 rcases g with⟨kvs,k,e,_,_⟩ | ⟨kvs,k,b,e,_,_,_⟩
 ·obtain⟨_,_,vs,_,dd⟩:=Kj I.hok e;exact dd.typeIs
 ·obtain⟨_,_,xs,_,dd⟩:=Fs I.hok e;exact dd.typeIs
def iJ (td ty:TE):TE:=λσ H Q=>td σ H λx H1=>ty σ H1 λy H2=>∃a v,x=.ref a/\E6 H2 a y (some v)/\Q v H2
def bO (ty td:TE):TE:=λσ H Q=>ty σ H λy H1=>td σ H1 λx H2=>∃a o,x=.ref a/\E6 H2 a y o/\Q (.bl o.isSome) H2
def cV (td ty tv:TE):TS:=λD σ H=>tv σ H λv H1=>td σ H1 λx H2=>ty σ H2 λy H3=>∃a H4,x=.ref a/\vd H3 a y v H4/\D.nx σ H4
def cY (td ty tv:TE)(rd:V->V->Hp->VK->Prop):TS:=λD σ H=>td σ H λx H1=>ty σ H1 λy H2=>∃a v,x=.ref a/\E6 H2 a y (some v)/\
 tv σ H2 λy2 H3=>rd v y2 H3 λz H4=>∃H5,vd H4 a y z H5/\D.nx σ H5
def cW (td ty:TE):TS:=λD σ H=>td σ H λx H1=>ty σ H1 λy H2=>∃a kvs k,x=.ref a/\H2 a=some (.dK kvs)/\y=kV k/\(Pr kvs k).isSome=true/\D.nx σ (Yz H2 a (.dK (oQ kvs k)))
section
variable {X:Cx}{o i e value:WW}{pos pos' tpos:Pos}{td ty tv:TE}
def qw (hu:X.A.units+1<cLine)(ho:PE X o td)(hi:PE X i ty)(hs:kS i):PE X (.Subscript o i pos) (iJ td ty):=by
 intro WZ s σ H Q I h;refine rR PySem.F.slot_dict_getitem.lookup hs (Jy (ho WZ s σ H _ I h) λu s1 ⟨x,H1,I1,rx,q1⟩=>Jy (hi WZ s1 σ H1 _ I1 q1) λiv s2 ⟨y,H2,I2,ry,a,v,ex,g,q2⟩=>?_);subst ex;obtain rfl:u=Value.ref a:=rx;exact⟨yi I2 g,wL hu I2 g ry λw' s3 I3 rw'=>⟨v,H2,I3,rw',q2⟩⟩
end
def yh (h:WU)(hb:sysModules<h.objs.size):Ji P w H (h.push {cls:=.type "dict",data:=.dict #[]}) h.objs.size (.dK []):=
 ⟨XO _,beq_eq_false_iff_ne.mpr (Ne.symm (XH hb)),[],.nil,Heap.DictOf.new h⟩
def nI:TE:=λ_ H Q=>∀p,H p=none->Q (.ref p) (Yz H p (.dK []))
section
variable {X:Cx}{pos:Pos}
def uL:PE X (.Dict [] [] pos) nI:=λWZ s σ H Q I h=>
 wpAny_Dict_empty ⟨.ref s.heap.objs.size,_,I.laid (a:=s.heap.objs.size) (o:=.dK []) (t':=s.toks) (λ_ _ q=>XC _ q) (XE _) (yh s.heap I.big),FL,h _ (I.hok.fresh (XE _))⟩
end
def Cr:List (TE×TE)->St->Hp->(List (V×V)->Hp->Prop)->Prop
 | [],_,H,Q=>Q [] H
 | (tk,tv)::r,σ,H,Q=>tk σ H λx H1=>tv σ H1 λy H2=>Cr r σ H2 λps H3=>Q ((x,y)::ps) H3
abbrev VV:List (V×V)->List (WQ×WQ)->Prop:=Paired λp q=>Ye p.1 q.1/\Ye p.2 q.2
def fF (X:Cx)(pos:Pos)(keys:List (Option WW))(values:List WW)(trs:List (TE×TE)):Prop:=
 ∀(WZ:List (WP×Obj)) (s:WR) (σ:St) (H:Hp) (Q:List (V×V)->Hp->Prop),Zy X WZ σ H s->Cr trs σ H Q->
  wpAny (model X.prog X.w) X.A (evalPairs (pairTrees keys values X.env pos)) (λvs s'=>∃ps H',Zy X WZ σ H' s'/\VV ps vs/\Q ps H') X.xe s
def qm:fF X pos [] [] []:=λWZ s σ H Q I h=>pairTrees_nil_walk ⟨[],H,I,.nil,h⟩
def uE {k v:WW}(hk:PE X k tk)(hv:PE X v tv)(hr:fF X pos ks vs trs):
  fF X pos (some k::ks) (v::vs) ((tk,tv)::trs):=λWZ s σ H Q I h=>
 pairTrees_cons_walk (Jy (hk WZ s σ H _ I h) λu s1 ⟨x,H1,I1,rx,q1⟩=>Jy (hv WZ s1 σ H1 _ I1 q1) λw2 s2 ⟨y,H2,I2,ry,q2⟩=>
  Jy (hr WZ s2 σ H2 _ I2 q2) λws s3 ⟨ps,H3,I3,rel,q3⟩=>⟨(x,y)::ps,H3,I3,.cons ⟨rx,ry⟩ rel,q3⟩)
def Pz (kvs more:List (Z0×V)):List (Z0×V):=more.foldl (λacc kv=>Wt acc kv.1 kv.2) kvs
def KV.merge:∀{more:List (Z0×V)} {rs:List (Z0×WQ)} {kvs:List (Z0×V)} {vs:List (Z0×WQ)},KV more rs->KV kvs vs->KV (Pz kvs more) (merged vs rs):=by
 intro more rs kvs vs r;unfold KV at r
 induction r generalizing kvs vs with
 | nil=>intro q;exact q
 | @cons p q ps qs h t ih=>
  intro r0;have e:KV (Wt kvs p.1 p.2) (stored vs q.1 q.2):=by
   have:=r0.put p.1 h.2;rw[<-h.1];exact this
  exact ih e
def To:∀(more kvs:List (Z0×V)),(Pz kvs more).length<=kvs.length+more.length
 | [],kvs=>by show kvs.length<=kvs.length+0;omega
 | p::r,kvs=>by
  have h1:=To r (Wt kvs p.1 p.2);have h2:=Oc kvs p.1 p.2;show(Pz (Wt kvs p.1 p.2) r).length<=_;rw[YF];omega
def Fz:∀{kvs:List (Z0×V)} {ws:List (WQ×WQ)},VV (kvs.map λkv=>(kV kv.1,kv.2)) ws->∃rs,Carries (Yq P w) ws rs/\KV kvs rs
 | [],_,r=>by rw[FI] at r;cases r;exact⟨[],True.intro,.nil⟩
 | p::kvs,_,r=>by
  rw[YI] at r
  cases r with
  | @cons a b as bs h t=>
   obtain⟨rs,c,q⟩:=Fz (P:=P) (w:=w) t;obtain⟨b1,b2⟩:=b;exact⟨(p.1,b2)::rs,⟨Iy h.1,FL,c⟩,.cons ⟨FL,h.2⟩ q⟩
def iH (trs:List (TE×TE)):TE:=λσ H Q=>∀p,H p=none->Cr trs σ (Yz H p (.dK [])) λps H2=>H2 p=some (.dK [])/\∃kvs:List (Z0×V),ps=kvs.map (λkv=>(kV kv.1,kv.2))/\kvs.length<=15/\Q (.ref p) (Yz H2 p (.dK (Pz [] kvs)))
def qv (h:fF X pos keys values trs)(hall:keys.all (·.isSome)=true)(hl:keys.length=values.length)(h0:keys≠[])
  (h15:keys.length<=15):PE X (.Dict keys values pos) (iH trs):=by
 intro WZ s σ H Q I q;have hn:=I.hok.fresh (XE s.heap.objs.size);have I1:=I.laid (a:=s.heap.objs.size) (o:=.dK []) (h':=s.heap.push {cls:=.type "dict",data:=.dict #[]}) (t':=s.toks) (λ_ _ q=>XC _ q) (XE _) (yh s.heap I.big);refine wpAny_Dict_walk (knd:=Yq X.prog X.w) hall hl h0 h15 (Jy (h WZ _ σ _ _ I1 (q _ hn)) λws s2 ⟨ps,H2,I2,rel,e,kvs,ep,lk,q2⟩=>?_);subst ep;obtain⟨rs,c,rk⟩:=Fz (P:=X.prog) (w:=X.w) rel;obtain⟨z,hd,vs0,r0,dd⟩:=xp I2.hok e
 cases r0
 refine⟨rs,c,dd,λh' dd' hs=>⟨.ref s.heap.objs.size,_,?_,FL,q2⟩⟩;have hz:(Pz [] kvs).length<=sizeLine:=by
  have h1:=To kvs [];rw[EZ] at h1;rw[sizeLine_eq];omega
 have he:∃q,h'.get? s.heap.objs.size=some q:=let ⟨q,_,_,hq,_⟩:=dd';⟨q,hq⟩
 exact Ga I2 (by rw[e];exact True.intro) hs he (Ft hz hd (rk.merge .nil) dd')
structure M1 (X:Cx)(o:Expr)(m:Str)(apos:Pos)(e:Expr)(cpos:Pos):Prop where
 base:attributeBase o m X.env (eval o X.env)=eval o X.env
 few:((backTo cpos (starEach [e] X.env)).all (λx=>!x.1)&&(backToKw cpos (keywordEach [] X.env)).all (λx=>x.1.isSome)
  &&decide (([e]:List WW).length+([]:List Keyword).length+(if ([]:List Keyword).isEmpty then 0 else 1)<30))=true
 line:(apos.endLine==cpos.line)=true
 trees:backTo cpos (starEach [e] X.env)=[(false,eval e X.env)]
structure M2 (X:Cx)(o:Expr)(m:Str)(apos:Pos)(e f:Expr)(cpos:Pos):Prop where
 base:attributeBase o m X.env (eval o X.env)=eval o X.env
 few:((backTo cpos (starEach [e,f] X.env)).all (λx=>!x.1)&&(backToKw cpos (keywordEach [] X.env)).all (λx=>x.1.isSome)
  &&decide (([e,f]:List WW).length+([]:List Keyword).length+(if ([]:List Keyword).isEmpty then 0 else 1)<30))=true
 line:(apos.endLine==cpos.line)=true
 trees:backTo cpos (starEach [e,f] X.env)=[(false,eval e X.env),(false,eval f X.env)]
def fZ (H:Hp)(a:WP):Prop:=(∃kvs,Rd H a (.dK kvs))\/∃kvs,Rd H a (.dT kvs)
def jg (I:Zy X WZ σ H s)(d:fZ H a):
  s.TypeIs (.ref a) "dict"/\(∀b,Value.ref a=.ref b->∃ob,s.heap.get? b=some ob/\ob.dict=none)/\(a==sysModules)=false:=by
 rcases d with⟨kvs,e⟩ | ⟨kvs,e⟩
 ·obtain⟨_,hd,vs,_,dd⟩:=Kj I.hok e;refine⟨dd.typeIs,λb q=>?_,hd⟩
  cases q
  obtain⟨ob,_,_,h1,h2,_⟩:=dd;exact⟨ob,h1,h2.2.1⟩
 ·obtain⟨_,hd,xs,_,dd⟩:=Fs I.hok e;refine⟨dd.typeIs,λb q=>?_,hd⟩
  cases q
  obtain⟨ob,_,_,h1,h2,_⟩:=dd;exact⟨ob,h1,h2.2.1⟩
section
variable {X:Cx}{WZ:List (WP×Obj)}{σ:St}{H:Hp}{s:WR}{a:WP}{y d:V}{u r:WQ}{o:Option V}{A:WM}{E:WQ->WR->Prop}
def kz {Q:WQ->WR->Prop}(hu:A.units+1<cLine)(I:Zy X WZ σ H s)(g:E6 H a y o)(ry:Ye y u)(rd:Ye d r)(h:∀w' s',Zy X WZ σ H s'->Ye (o.getD d) w'->Q w' s'):
  wpAny (model X.prog X.w) A (call (.builtin "dict.get") [.ref a,u,r]) Q E s:=by
 rcases g with⟨kvs,k,e,ey,l⟩ | ⟨kvs,k,b,e,ey,eb,l⟩
 ·subst ey;obtain⟨z,hd,vs,rel,dd⟩:=Kj I.hok e;refine call_meetsIn EX dd.typeIs PySem.F.entry_dict_get (PySem.F.args_dict_get_3 _ _ _) (meets_dict_get_default (Yq X.prog X.w) a (Iy ry) hd r) ⟨_,dd.mapOf,h _ _ (I.tok _) ?_⟩;rw[l];exact(rel.val k).getD rd
 ·subst ey
  cases (show u=Value.ref b from ry)
  obtain⟨z,hd,xs,rel,dd⟩:=Fs I.hok e;refine call_meetsIn EX dd.typeIs PySem.F.entry_dict_get (PySem.F.args_dict_get_3 _ _ _) (meetsH_dict_get_default (tupleKind (Yq X.prog X.w)) a b hd r) ⟨tupleKind_room_in1 hu,k,xs,Ig I.hok eb,dd,h _ _ (I.tok _) ?_⟩;rw[l];exact(rel.val k).getD rd
end
def nJ (td ty tx:TE):TE:=λσ H Q=>td σ H λx H1=>∃a,x=.ref a/\fZ H1 a/\ty σ H1 λy H2=>tx σ H2 λz H3=>∃o,E6 H3 a y o/\Q (o.getD z) H3
def eT (td ty:TE):TE:=λσ H Q=>td σ H λx H1=>∃a,x=.ref a/\fZ H1 a/\ty σ H1 λy H2=>∃kvs k v,H2 a=some (.dK kvs)/\y=kV k/\Pr kvs k=some v/\Q v (Yz H2 a (.dK (oQ kvs k)))
section
variable {X:Cx}{o e f:WW}{apos cpos:Pos}{td ty tx:TE}
def uM (hu:X.A.units+1<cLine)(ho:PE X o td)(he:PE X e ty)(hf:PE X f tx)(m:M2 X o "get" apos e f cpos):PE X (.Call (.Attribute o "get" apos) [e,f] [] cpos) (nJ td ty tx):=by
 intro WZ s σ H Q I h;refine wpAny_Call_method m.base m.few m.line EN EX PySem.F.type_dict_get (Jy (ho WZ s σ H _ I h) λu s1 ⟨x,H1,I1,rx,a,ex,d,q1⟩=>?_);subst ex;obtain rfl:u=Value.ref a:=rx;obtain⟨t1,t2,_⟩:=jg I1 d;refine⟨t1,t2,?_⟩;rw[m.trees];refine DD FL (EY (CP (Jy (he WZ s1 σ H1 _ I1 q1) λiv s2 ⟨y,H2,I2,ry,q2⟩=>
  CP (Jy (hf WZ s2 σ H2 _ I2 q2) λfv s3 ⟨z,H3,I3,rz,ov,g,q3⟩=>DG ?_))))
 exact kz hu I3 g ry rz λw' s4 I4 rw'=>⟨_,H3,I4,rw',q3⟩
end
section
variable {X:Cx}{WZ:List (WP×Obj)}{σ:St}{H:Hp}{s:WR}{a:WP}{kvs:List (Z0×V)}{A:WM}{E:WQ->WR->Prop}
def sy {Q:WQ->WR->Prop}(I:Zy X WZ σ H s)(e:Rd H a (.dK kvs))(h:∀p s',H p=none->Zy X WZ σ (Yz H p (.dK kvs)) s'->Q (.ref p) s'):wpAny (model X.prog X.w) A (call (.type "dict") [.ref a]) Q E s:=by
 obtain⟨z,hd,vs,rel,dd⟩:=Kj I.hok e;refine kt_call_dict hd dd (by rw[<-rel.length];exact z) λh' dd' hs=>?_;refine h _ _ (I.hok.fresh (XE _)) (I.laid (a:=s.heap.objs.size) (o:=.dK kvs) (t':=s.toks) (λb q hq=>?_) (XE _) (Ft z (beq_eq_false_iff_ne.mpr (Ne.symm (XH I.big))) rel dd'));exact(hs.2 b (XH (XD hq))).trans (XC _ hq)
end
section
variable {X:Cx}{WZ:List (WP×Obj)}{σ:St}{H:Hp}{s:WR}{a:WP}{y:V}{u:WQ}{A:WM}{E:WQ->WR->Prop}
end
end L2
namespace WL
open PySem PySem.Spec PyProof.Rows L2
def Ku (c:WT)(b:WS)(D:We):Nat->Sw->Hw->Prop
 | 0,_,_=>False
 | n+1,τ,C=>c τ C (λk C1=>if k=true then b {D with nx:=Ku c b D n,ct:=Ku c b D n,bk:=D.nx} τ C1 else D.nx τ C1) D.xc
def yL (c:WT)(b:WS):WS:=λD τ C=>∃n,Ku c b D n τ C
def xR {K:WY}(hc:Mz K c c')(hb:wW K tb b'):wW K (ue c tb) (yL c' b'):=λF H C σ τ D D' R S h d=>by
 obtain⟨n,h⟩:=h;refine⟨λm σ H2=>∃τ C,Rl K F H2 C/\Tx H H2/\Xv K H2 σ τ/\Ku c' b' D' m τ C,⟨n,τ,C,R,Tx.refl _,S,h⟩,?_⟩;rintro m σ2 H2 ⟨τ2,C2,R2,t2,S2,h2⟩
 cases m with
 | zero=>exact h2.elim
 | succ m=>
  refine hc F H2 C2 σ2 τ2 _ _ D'.xc R2 S2 h2 λk H3 C3 R3 t3 h3=>?_
  cases k with
  | true=>
   refine⟨λσ' H'=>∃τ' C',Rl K F H' C'/\Tx H H'/\Xv K H' σ' τ'/\Ku c' b' D' m τ' C',λσ' H' z=>⟨m,BJ m,z⟩,?_⟩;have t13:=t2.trans t3;exact hb F H3 C3 σ2 τ2 _ _ R3 (S2.tx t3) h3 ⟨λσ' τ' H' C' R' t' S' h'=>⟨τ',C',R',t13.trans t',S',h'⟩,λx v H' C' R' t'=>d.rt x v H' C' R' (t13.trans t'),λσ' τ' H' C' R' t' S' h'=>d.nx σ' τ' H' C' R' (t13.trans t') S' h',λσ' τ' H' C' R' t' S' h'=>⟨τ',C',R',t13.trans t',S',h'⟩⟩
  | false=>exact d.nx σ2 τ2 H3 C3 R3 (t2.trans t3) (S2.tx t3) h3
def Oe {X:Cx}(hp:PassesOwn (model X.prog X.w) X.A X.env X.xe)(hc:wX X c wc)(hb:sZ X body b):wY X (.While c body [] pos) (yL wc b):=by
 obtain⟨t,p,s⟩:=hc;obtain⟨t',p',s'⟩:=hb;exact⟨_,uB hp p p',xR s s'⟩
def T0 {c:WT}{b:WS}{D:We}(Pv:Nat->Sw->Hw->Prop)(h0:Pv m τ C)
  (hs:∀m τ C (N:Sw->Hw->Prop),Pv m τ C->(∀m' τ' C',m'<m->Pv m' τ' C'->N τ' C')->c τ C (λk C1=>if k=true then b {D with nx:=N,ct:=N,bk:=D.nx} τ C1 else D.nx τ C1) D.xc):yL c b D τ C:=by
 have key:∀(n m:Nat) (τ:Sw) (C:Hw),m<n->Pv m τ C->Ku c b D n τ C:=by
  intro n
  induction n with
  | zero=>intro m τ C h _;omega
  | succ n ih=>intro m τ C hm hp;exact hs m τ C _ hp λm' τ' C' hlt hp'=>ih m' τ' C' (by omega) hp'
 exact⟨m+1,key (m+1) m τ C (BJ m) h0⟩
section
variable {X:Cx}{a b c e o i:WW}{es:List WW}{wa wb wc wo wi:WE}{wA:WA}{pos p p2 apos cpos:Pos}
def cq:List T->Hw->WK->Prop:=λvs C Q=>(∃i:Int,vs=[.int i]/\Q (.int i) C)\/∃k:Bool,vs=[.bl k]/\Q (.int (if k then 1 else 0)) C
def oW:Nd X (.type "int") cq:=⟨_,wQ,λF H C xs vs Q Q' R rs h q=>by
 rcases h with⟨j,rfl,h⟩ | ⟨j,rfl,h⟩
 ·obtain⟨x,rfl,rx⟩:=X6 rs
  cases Yn rx
  exact .inl ⟨j,FL,q _ _ H C R (Tx.refl H) Ja h⟩
 ·obtain⟨x,rfl,rx⟩:=X6 rs
  cases Py rx
  exact .inr ⟨j,FL,q _ _ H C R (Tx.refl H) Ja h⟩⟩
end
def kT:T->Option Z0
 | .int i=>some (.inl i)
 | .str x=>some (.inr x)
 | _=>none
def tK:Z0->T
 | .inl i=>.int i
 | .inr x=>.str x
def Yj (kvs:List (Z0×T))(k:Z0):Option T:=(kvs.find? λkv=>decide (kv.1=k)).map (·.2)
def Yy (kvs:List (Z0×T))(k:Z0)(v:T):List (Z0×T):=
 if (kvs.any λkv=>decide (kv.1=k))=true then kvs.map (λkv=>if kv.1=k then(kv.1,v) else kv) else kvs++[(k,v)]
def Lp {K:WY}{k:Z0}(h:kT v=some k)(r:Jh K H x v):x=kV k:=by
 cases v with
 | int i=>cases h;exact Yn r
 | str z=>cases h;exact Xm r
 | _=>cases h
def PR.get {K:WY}:∀{ks:List (Z0×V)} {kvs:List (Z0×T)} (_:PR K H ks kvs) (k:Z0),(Yj kvs k=none->Pr ks k=none)/\∀v,Yj kvs k=some v->∃x,Pr ks k=some x/\Jh K H x v
 | _,_,.nil,k=>⟨λ_=>rfl,λv h=>by cases h⟩
 | p::r,q::s,.cons h t,k=>by
  obtain⟨e,rp⟩:=h;have ih:=PR.get t k;by_cases c:q.1=k
  ·have c':p.1=k:=e.trans c;rw[M9 c'];unfold Yj;rw[List.find?_cons_of_pos (by simpa using c)];exact⟨(λz=>by cases z),(λv z=>by cases z;exact⟨p.2,FL,rp⟩)⟩
  ·have c':¬p.1=k:=λz=>c (e.symm.trans z);rw[La c'];unfold Yj;rw[List.find?_cons_of_neg (by simpa using c)];exact ih
def PR.any {K:WY}:∀{ks:List (Z0×V)} {kvs:List (Z0×T)} (_:PR K H ks kvs) (k:Z0),(ks.any λkv=>decide (kv.1=k))=kvs.any λkv=>decide (kv.1=k)
 | _,_,.nil,k=>rfl
 | p::r,q::s,.cons h t,k=>by rw[DR,DR,PR.any t k,h.1]
def PR.mapK {K:WY}{k:Z0}(rx:Jh K H x v):∀{ks:List (Z0×V)} {kvs:List (Z0×T)} (_:PR K H ks kvs),PR K H (ks.map λkv=>if kv.1=k then(kv.1,x) else kv) (kvs.map λkv=>if kv.1=k then(kv.1,v) else kv)
 | _,_,.nil=>.nil
 | p::r,q::s,.cons h t=>by
  refine .cons ?_ (PR.mapK rx t);obtain⟨e,rp⟩:=h;by_cases c:q.1=k
  ·have c':p.1=k:=e.trans c;dsimp only;rw[XY c,XY c'];exact⟨e,rx⟩
  ·have c':¬p.1=k:=λz=>c (e.symm.trans z);dsimp only;rw[XX c,XX c'];exact⟨e,rp⟩
def PR.put {K:WY}(h:PR K H ks kvs){k:Z0}(rx:Jh K H x v):PR K H (Wt ks k x) (Yy kvs k v):=by
 unfold Wt Yy;rw[PR.any h k]
 split
 ·exact PR.mapK rx h
 ·exact h.snoc ⟨FL,rx⟩
def PR.length {K:WY}(h:PR K H ks kvs):ks.length=kvs.length:=Paired.length h
section
variable {K:WY}{F H:Hp}{C:Hw}
def Rl.dic (R:Rl K F H C)(h:C a=some (.dic kvs)):∃ks,H a=some (.dK ks)/\PR K H ks kvs:=R.obj a _ h
def Rl.putD (R:Rl K F H C)(h:C p=some (.dic kvs))(r:PR K H ks' kvs'):Rl K F (Yz H p (.dK ks')) (up C p (.dic kvs'))/\Tx H (Yz H p (.dK ks')):=by
 obtain⟨w,hw,ns⟩:=(R.obj p _ h).some trivial;exact R.put h ⟨ks',Z3,Lr (Tx.put hw ns) r⟩
def Rl.newD (R:Rl K F H C)(h:H p=none)(r:PR K H ks kvs):Rl K F (Yz H p (.dK ks)) (up C p (.dic kvs)):=R.new h ⟨ks,Z3,Lr (Tx.new h) r⟩
end
def kn:WE:=λ_ C Q _=>∀p,C p=none->Q (.ref p) (up C p (.dic []))
def dR (o i:WE):WG:=λv τ C Q χ=>o τ C (λx C1=>i τ C1 (λy C2=>∃a kvs k,x=.ref a/\kT y=some k/\C2 a=some (.dic kvs)/\kvs.length<sizeLine/\Q τ (up C2 a (.dic (Yy kvs k v)))) χ) χ
section
variable {X:Cx}{a b c e o i f:WW}{es:List WW}{wa wb wc wo wi wd:WE}{wA:WA}{pos p p2 apos cpos:Pos}
def Rx:Js X (.Dict [] [] pos) kn:=⟨_,uL,λF H C σ τ Q Q' χ R S h q p hp=>q _ _ _ _ (R.newD hp .nil) (Tx.new hp) Y6 (h p (R.free hp))⟩
def hW:V->V->V->Hp->(Hp->Prop)->Prop:=λo i v H Q=>∃p ks k,o=.ref p/\i=kV k/\H p=some (.dK ks)/\ks.length<sizeLine/\Q (Yz H p (.dK (Wt ks k v)))
def uq (hu:X.A.units+150<cLine):kR X hW:=by
 intro WZ s σ H o i v ov iv u Q I ro ri rv h;obtain⟨p,ks,k,rfl,rfl,hp,hl,q⟩:=h
 cases ro
 exact wK (by omega) I (vd.k hp hl) ri rv λs' I'=>⟨_,I',q⟩
def X3 (hu:X.A.units+150<cLine)(ho:Js X o wo)(hi:Js X i wi)
  (ha:∀v,assign (.Subscript o i pos) X.env v=(do
   let ov <-holding [v] (eval o X.env)
   let iv <-holding [v,ov] (eval i X.env)
   standAt pos
   holding [v,ov,iv] (setItem ov iv v)
   release [v,ov,iv] []):=by intro _;rfl):kP X (.Subscript o i pos) (dR wo wi):=by
 obtain⟨t,p,s⟩:=ho;obtain⟨t',p',s'⟩:=hi;refine⟨_,uH p p' (uq hu) ha,λF H C σ τ x v Q Q' χ R S r h q=>?_⟩;refine s F H C σ τ _ _ χ R S h λy vy H1 C1 R1 t1 ry h1=>?_;refine s' F H1 C1 σ τ _ _ χ R1 (S.tx t1) h1 λz vz H2 C2 R2 t2 rz h2=>?_;obtain⟨l,kvs,k,rfl,hk,hC,hl,h2⟩:=h2
 cases Z1 ry
 obtain⟨ks,hH,pr⟩:=R2.dic hC;have t12:=t1.trans t2;obtain⟨R',t'⟩:=R2.putD hC (PR.put pr (k:=k) (r.tx t12));exact⟨l,ks,k,FL,Lp hk rz,hH,by rw[PR.length pr];exact hl,q _ _ _ _ R' (t12.trans t') (S.tx (t12.trans t')) h2⟩
def tQ {K:WY}(pr:PR K H ks kvs)(k:Z0)(rx:Jh K H x v):Jh K H ((Pr ks k).getD x) ((Yj kvs k).getD v):=by
 cases hg:Yj kvs k with
 | none=>rw[(PR.get pr k).1 hg];exact rx
 | some w=>obtain⟨z,hz,rz⟩:=(PR.get pr k).2 w hg;rw[hz];exact rz
end
end WL
namespace L2
open PySem PySem.Spec PyProof.Rows
def ck (w:WN):Bool:=w.params.followText "set-order"
def i0 (e:Int×WQ):Str:=strOf e.2
structure fB (P:Program)(w:World)(h:Heap)(a:Addr)(es:Array (Int×Value))(ep:Nat)(t:SetTable):Prop where
 get:h.get? a=some {cls:=.type "set",dict:=none,data:=.set es ep t,slots:=#[]}
 els:ElemsOf (PySem.strKind P w) es.toList
 fit:t.fits es.size=true
 bnd:es.size<scanBound
 pln:es.size≠0->t.plain=false
 led:t.led=!ck w
 nod:(es.toList.map i0).Nodup
section
variable {prog:WO}{w:WN}{A:WM}{E:WQ->WR->Prop}{s:WR}
end
section
variable {prog:WO}{w:WN}{A:WM}{R:Result->WR->Prop}{I:WP}{fp wr:List WP}{G:Array GenState->Array GenState->Prop}{n:Nat}{P:Nat->WQ->Prop}{St:Nat->WR->Prop}
end
section
variable {prog:WO}{w:WN}{A:WM}{E:WQ->WR->Prop}{s:WR}
def rO (h:StrsAre vs xs):xs.length=vs.length:=by
 induction h with
 | nil=>rfl
 | cons x t h ih=>simp[ih]
def xQ {r:WP}{φ:List Str->Prop}{Q:WQ->WR->Prop}(h64:∀xs,φ xs->xs.length<64)
  (hc:∀(R:List WQ->WR->Prop),(∀(h':WU) (d':Drawn) (tk:Nat) (vs:List WQ) (xs:List Str),(∀b o,s.heap.get? b=some o->h'.get? b=some o)->StrsAre vs xs->φ xs->R vs {s with heap:=h',drawn:=d',toks:=tk})->
   wpAny (model prog w) A.in1 (collect (.ref r)) R E s)
  (h:∀(p:WP) (h1 h':WU) (d':Drawn) (tk:Nat) (vs:List WQ) (n:Nat) (xs xs':List Str),φ xs->h1.objs.size<=p->(∀b o,s.heap.get? b=some o->h1.get? b=some o)->(∀b o,h1.get? b=some o->h'.get? b=some o)->h'.get? p=some (seqObj "list" vs.toArray n)->StrsAre vs xs'->xs'.Perm xs->sortedS xs'=true->
   Q (.ref p) {s with heap:=h',drawn:=d',toks:=tk}):
  wpAny (model prog w) A (call (.builtin "sorted") [.ref r]) Q E s:=by
 refine Calls.call_function_entry kind_sorted plain_sorted entry_sorted (args_sorted1 _) ?_;unfold Builtin.«sorted»;refine XA (m:=checkCount "sorted" 1 1 _) (XB ?_);refine XA (hc _ λh1 d1 tk vs xs k hS hφ=>?_);have hl:vs.length<64:=by rw[<-rO hS];exact h64 xs hφ
 have hz:vs.length<=sizeLine:=by rw[sizeLine_eq];omega
 refine XA (wpAny_newList ?_ hz);have hoL:(h1.push (seqObj "list" vs.toArray 0)).get? h1.objs.size=some (seqObj "list" vs.toArray 0):=XF _ FL;show wpAny _ _ _ _ _ {s with heap:=h1.push (seqObj "list" vs.toArray 0),drawn:=d1,toks:=tk};refine XA (wpAny_holding (wpAny_call_entry slot_list_sort ⟨_,hoL,FL⟩ entry_list_sort (list_sort_treeK strKind_oneLt hoL hS.keysOf (λv₁ v₂ J4 e=>keyKind_strs (by rw[<-e];exact hS)) hl λst' a1 a2=>⟨_,FL,?_⟩) (args_list_sort _)));obtain⟨xs',b1,b2,b3⟩:=sorted_out_str hS a1 a2;obtain⟨n,hn⟩:=sortedHeap_at (out:=(arrOf st').map (·.2)) hoL;refine XB ⟨_,FL,h h1.objs.size h1 _ d1 tk ((arrOf st').map (·.2)).toList n xs xs' hφ (XE _) k (λb o hb=>?_) (by rw[Array.toArray_toList];exact hn) b1 b2 b3⟩;have hlt:=XD hb;rw[sortedHeap_old (XH hlt) (by rw[size_push'];exact BX hlt)];exact XC _ hb
end
section
variable {X:Cx}{WZ:List (WP×Obj)}{s:WR}{σ:St}{H:Hp}
def lH {h':WU}{d':Drawn}{t':Nat}(I:Zy X WZ σ H s)(k:∀b u,s.heap.get? b=some u->h'.get? b=some u):Zy X WZ σ H {s with heap:=h',drawn:=d',toks:=t'}:=by
 refine I.step (g':=s.gens) (ch:=[]) (λ_ z=>nomatch z) (λb o _ _ _ e _=>k b o e) (λb o _ _ _ e _=>⟨o.slots,k b o e⟩) (λb o _ _ n=>n) (λb o _ e=>⟨o,k b o e⟩) (λ_ _ e=>e) (λ_ _ _ e=>e) (λb ps e=>⟨#[],by simpa using e⟩) (λm hm=>?_) (I.hok.kept k) I.bare;obtain⟨o,es,ep,ho,r⟩:=hm;exact⟨o,es,ep,k _ o ho,r⟩
def xJ (h:StrsAre vs xs):Yd (xs.map V.str) vs:=by
 induction h with
 | nil=>exact .nil
 | cons x t h ih=>exact .cons ⟨t,FL⟩ ih
def bT (P:WO)(w:WN)(a:WP)(xs:List Str):HO:=.ext λh=>∃es ep t,fB P w h a es ep t/\∀y,y∈es.toList.map i0↔y∈xs
def lB {p:WP}{h1 h':WU}{d':Drawn}{tk n:Nat}{vs:List WQ}{xs:List Str}(I:Zy X WZ σ H s)(hp:h1.objs.size<=p)(k1:∀b o,s.heap.get? b=some o->h1.get? b=some o)(k2:∀b o,h1.get? b=some o->h'.get? b=some o)
  (g:h'.get? p=some (seqObj "list" vs.toArray n)) (hS:StrsAre vs xs) (hl:xs.length<64):Zy X WZ σ (Yz H p (.lst (xs.map V.str))) {s with heap:=h',drawn:=d',toks:=tk}/\H p=none:=by
 have I1:Zy X WZ σ H {s with heap:=h1,drawn:=d',toks:=tk}:=lH I k1;refine⟨I1.laid (t':=tk) k2 hp ⟨?_,vs,n,xJ hS,g⟩,I1.hok.fresh hp⟩;rw[XI,sizeLine_eq];omega
def jG:∀{l:List WQ} {ts:List Str},l.length=ts.length->(∀(j:Nat) (v:WQ),l[j]?=some v->∃t tk,ts[j]?=some t/\v=.str t tk)->StrsAre l ts
 | [],[],_,_=>.nil
 | v::l,t::ts,e,h=>by
  obtain⟨t',tk,e1,e2⟩:=h 0 v FL
  cases e1
  subst e2;exact .cons _ tk (jG (by simpa using e) λj u hu=>h (j+1) u hu)
def qL {kvs:List (Z0×V)}{vs:List (Z0×WQ)}(h:KV kvs vs):vs.map (·.1)=kvs.map (·.1):=by
 induction h with
 | nil=>rfl
 | cons a b ih=>rw[YI,YI,ih,a.1]
def Al (hc:X.calm=true):Wy X (.builtin "sorted") (λxs H Q=>∃(p:WP) (kvs:List (Z0×V)) (ts:List Str),xs=[.ref p]/\Rd H p (.dK kvs)/\kvs.map (·.1)=ts.map Sum.inr/\ts.length<64/\
  ∀q ys,H q=none->ys.Perm ts->sortedS ys=true->Q (.ref q) (Yz H q (.lst (ys.map V.str)))):=by
 intro WZ s σ H xs us Q I r h;obtain⟨p,kvs,ts,rfl,hp,hk,h64,q⟩:=h;obtain⟨u,rfl,ru⟩:=Qh r
 cases ru
 obtain⟨hz,lo,vs,hkv,hD⟩:=hp.ok I.hok;obtain⟨ep,hat⟩:=hD.dictAt;have hlen:kvs.length=ts.length:=by have:=congrArg List.length hk;simpa using this
 have hlen2:kvs.length=vs.length:=Paired.length hkv;refine xQ (φ:=λys=>ys=ts) (λys e=>by rw[e];exact h64) (λR hR=>W.kdu_collect (A:=X.A.in1) (W.kdl_dict (knd:=Yq X.prog X.w) (kvs:=vs) (ep:=ep) lo) (I.ok.hd hc) hat (by rw[sizeLine_eq];omega) λh' tk acc k hacc=>?_) λq' h1 h' d' tk us n ys ys' e hq k1 k2 g hS e' so=>?_
 ·refine hR h' s.drawn tk acc.toList ts k ?_ FL;refine jG (by rw[Array.length_toList,hacc.1];omega) λj v hv=>?_;obtain⟨k,x,hx,hi⟩:=hacc.2 j v (by rw[<-EA];exact hv);have e1:(vs.map (·.1))[j]?=some k:=by rw[XM,hx];rfl
  rw[qL hkv,hk,XM] at e1
  cases ht:ts[j]? with
  | none=>rw[ht] at e1;cases e1
  | some t=>
   rw[ht] at e1
   cases e1
   rw[yX] at hi
   rcases Y9 hi with⟨i,u,e,_⟩ | ⟨y,u,e,e2⟩
   ·cases e
   ·cases e
    exact⟨_,u,FL,e2⟩
 ·subst e;obtain⟨I2,hf⟩:=lB (d':=d') (tk:=tk) I hq k1 k2 g hS (by rw[e'.length_eq];exact h64);exact⟨.ref q',_,I2,FL,q q' ys' hf e' so⟩
end
end L2
namespace WL
open PySem PySem.Spec PyProof.Rows L2
def kE:List T->Hw->WK->Prop:=λvs C Q=>∃(a:WP) (kvs:List (Z0×T)) (ts:List Str),vs=[.ref a]/\C a=some (.dic kvs)/\kvs.map (·.1)=ts.map Sum.inr/\ts.length<64/\
 ∀q ys,C q=none->ys.Perm ts->sortedS ys=true->Q (.ref q) (up C q (.lst (ys.map T.str)))
def wS:bootBuiltins "sorted"=some (.builtin "sorted"):=by decide+kernel
def PR.keys {K:WY}:∀{ks:List (Z0×V)} {kvs:List (Z0×T)} (_:PR K H ks kvs),ks.map (·.1)=kvs.map (·.1)
 | _,_,.nil=>rfl
 | _,_,.cons h t=>by rw[YI,YI,PR.keys t,h.1]
def zu {K:WY}:∀(ts:List Str),Reps K H (ts.map V.str) (ts.map T.str)
 | []=>Yv
 | t::ts=>Yh Rh (zu ts)
section
variable {X:Cx}{e:WW}{we:WE}{pos p p2 pos2:Pos}
def pJ (hc:X.calm=true):Nd X (.builtin "sorted") kE:=⟨_,Al hc,λF H C xs vs Q Q' R rs h q=>by
 obtain⟨l,kvs,ts,rfl,hC,hk,hl,h⟩:=h;obtain⟨x,rfl,rx⟩:=X6 rs
 cases Z1 rx
 obtain⟨ks,hH,pr⟩:=R.dic hC;refine⟨l,ks,ts,FL,.inl hH,by rw[PR.keys pr];exact hk,hl,λp ys hp e1 e2=>?_⟩;exact q _ _ _ _ (R.newL hp (zu ys)) (Tx.new hp) Y6 (h p ys (R.free hp) e1 e2)⟩
end
end WL
namespace L2
open PySem PySem.Spec PyProof.Rows
def cG (K:WY)(a:WP)(n:Nat):It:=
 ⟨λi H=>i<n/\∃xs x,J9 K H a xs/\xs[n-1-i]?=some x,λi H x H'=>H'=H/\∀xs,J9 K H a xs->xs[n-1-i]?=some x,λi H=>i=n⟩
def ub {K:WY}(a it:WP)(n:Nat):Eb P w K tg (cG K a n) [it] it (λi h=>i<=n/\h.IsRevIter it a ((n:Int)-1-(i:Int))) where
 mem:=by simp
 obj:=λi h st b hb=>by
  have e:b=it:=by simpa using hb
  subst e;obtain⟨_,o,e,c,d⟩:=st;exact⟨o,e,λv z=>by rw[d] at z;cases z⟩
 keep:=λi h h' st k=>⟨st.1,st.2.at λo e=>k it (by simp) o e⟩
 item:=by
  intro X hP hw hK hc i WZ s σ H E I hf st hg;subst hP hw hK;obtain⟨hi,xs,x,hq,hx⟩:=hg;obtain⟨its,rv,p,hz⟩:=I.list hq;obtain⟨u,hu,ru⟩:=rv.get hx;obtain⟨f0,f1,f2,f3,f4,f5⟩:=hf it (by simp);have e1:(n:Int)-1-(i:Int)=((n-1-i:Nat):Int):=by omega
  have hit:=st.2;rw[e1] at hit;refine wpAny_pyNext_rev_item hit p.isList (x:=u) (by simpa using hu) λh' st' sb=>?_;have I1:Zy X WZ σ H {s with heap:=h'}:=I.turned (t':=s.toks) (λb o hb e=>(sb.2 b hb).trans e) f0 f1 f3 f4 f5;have e2:((n-1-i:Nat):Int)-1=(n:Int)-1-((i+1:Nat):Int):=by omega
  rw[e2] at st';obtain⟨o,e,c,d⟩:=id st';exact⟨u,FL,zX (s:={s with heap:=h'}) e c d (by decide) ⟨x,H,I1,ru,⟨FL,λys hy=>by rw[I.list_inj hy hq];exact hx⟩,⟨hi,st'⟩,λb hb=>(hf b hb).1⟩⟩
 done:=by
  intro X hP hw hK hc i WZ s σ H E I hf st hg;subst hP hw hK;have e:i=n:=hg;subst e;obtain⟨f0,f1,f2,f3,f4,f5⟩:=hf it (by simp);have hit:=st.2;rw[show(i:Int)-1-(i:Int)= -1 by omega] at hit;exact wpAny_pyNext_rev_end (I.ok.hd hc) hit λh' eb=>⟨FL,I.turned (t':=s.toks) (λb o hb e=>eb b o hb e) f0 f1 f3 f4 f5⟩
 self:=λ_ _ _ _ _ st h=>wpAny_pyIter_revIter st.2 h
section
variable {X:Cx}{tg:WW}
def dN (K:WY)(ta:TA):TI:=λσ H R=>ta σ H λvs H1=>∃a xs,vs=[.ref a]/\J9 K H1 a xs/\R (cG K a xs.length) H1
def m6 {a:WW}{p pos:Pos}(hg:Gl X "reversed")(hm:X.mg "reversed"=none)(ha:PA X [a] ta)(hs:autoParam (starEach [a] X.env=[(false,eval a X.env)]) QzR)(hb:autoParam (bootBuiltins "reversed"=some (.type "reversed")) QzK):
  PI X tg (.Call (.Name "reversed" p) [a] [] pos) (dN X.K ta):=by
 intro WZ s σ H R I h;refine Call_ (Wm I hg hm hb (BF (Jy (ha pos WZ s σ H _ I h) λus s1 ⟨vs,H1,I1,r1,q1⟩=>?_) hs FL));obtain⟨l,xs,e,hq,q⟩:=q1;subst e;obtain⟨u,rfl,ru⟩:=Qh r1
 cases ru
 obtain⟨its,rv,pl,hz⟩:=I1.list hq;have hl:its.length=xs.length:=by have:=rv.length;omega
 refine call_reversed_list pl.isList ?_;have hit:(s1.heap.push (revObj l ((its.toArray.size:Int)-1))).IsRevIter s1.heap.objs.size l ((xs.length:Int)-1-((0:Nat):Int)):=by
  refine⟨_,XF _ FL,FL,?_⟩;rw[List.size_toArray,hl];simp[revObj]
 refine wpAny_pyIter_revIter (s:={s1 with heap:=s1.heap.push (revObj l ((its.toArray.size:Int)-1))}) hit ?_;refine⟨s1.heap.objs.size,[s1.heap.objs.size],_,_,H1,FL,I1.kept (t':=s1.toks) λb o e=>XC _ e,ub l _ xs.length,⟨XO _,hit⟩,λb hb=>?_,q⟩;have e:b=s1.heap.objs.size:=by simpa using hb
 subst e;exact I1.fpOk (XE _) (I1.hok.fresh (XE _))
end
end L2
namespace WL
open PySem PySem.Spec PyProof.Rows L2
def aq (a:WA):WI:=λτ C R χ=>a τ C (λvs C1=>∃l xs,vs=[.ref l]/\C1 l=some (.lst xs)/\R xs.reverse (λC2=>C2 l=some (.lst xs)) C1) χ
def lQ {K:WY}{F H0:Hp}{xs:List T}:Oh K F H0 (cG K l xs.length) xs.reverse (λC=>C l=some (.lst xs)):=λi H C R t ok=>by
 obtain⟨ys,hy,r⟩:=R.lst ok;refine⟨λhi=>?_,λhi=>by show i=xs.length;rw[hi,BW]⟩;rw[BW] at hi;have ev:xs[xs.length-1-i]?=some (xs[xs.length-1-i]'(by omega)):=BO (by omega);obtain⟨y,ey,ry⟩:=r.get ev;refine⟨⟨hi,ys,y,J9.of hy,ey⟩,λx H' h=>?_⟩;obtain⟨rfl,h⟩:=h;have e2:=h ys (J9.of hy);rw[ey] at e2;cases e2;exact⟨_,by rw[List.getElem?_reverse hi];exact ev,R,Tx.refl _,ry⟩
section
variable {X:Cx}{tg a:WW}{wA:WA}{pos p:Pos}
def kx (hg:Gl X "reversed")(hm:X.mg "reversed"=none)(ha:yu X [a] wA)(hs:autoParam (starEach [a] X.env=[(false,eval a X.env)]) QzR):pW X tg (.Call (.Name "reversed" p) [a] [] pos) (aq wA):=by
 obtain⟨t,p1,s1⟩:=ha;refine⟨_,m6 hg hm p1 hs,λF H C σ τ R R' χ Rr S h q=>?_⟩;refine s1 F H C σ τ _ _ χ Rr S h λxs vs H1 C1 R1 t1 rs h1=>?_;obtain⟨l,us,rfl,hC,h1⟩:=h1;obtain⟨x,rfl,rx⟩:=X6 rs
 cases Z1 rx
 obtain⟨ys,hy,r⟩:=R1.lst hC;refine⟨l,ys,FL,J9.of hy,?_⟩;rw[r.length];exact q _ H1 us.reverse _ C1 R1 t1 (λ_=>lQ) h1
end
end WL
namespace L2
open PySem PySem.Spec PyProof.Rows
section
variable {X:Cx}
end
end L2
namespace WL
open PySem PySem.Spec PyProof.Rows L2
section
variable {X:Cx}
end
end WL
namespace L2
open PySem PySem.Spec PyProof.Rows
def nU:typeLookup (.type "list_reverseiterator") "__len__"=pure none:=by
 rw[typeLookup_type];rw[builtinLookup_eq_fast];kernel_rfl
def qb:typeLookup (.type "list_reverseiterator") "__length_hint__"=pure (some (.builtin "list_reverseiterator.__length_hint__")):=by
 rw[typeLookup_type];rw[builtinLookup_eq_fast];kernel_rfl
section
variable {prog:WO}{w:WN}{A:WM}{E:WQ->WR->Prop}{s:WR}{it l:WP}{i:Int}
def tI {Q:Bool->WR->Prop}(hit:s.heap.IsRevIter it l i)(h:Q false s):wpAny (model prog w) A (Builtin.List.listLengthHint (.ref it)) Q E s:=by
 have hT:=hit.typeIs;unfold Builtin.List.listLengthHint;refine XA (wpAny_specialOf hT nU ?_);show wpAny _ A (specialOf (Value.ref it) (Str.ofString "__length_hint__")>>=_) _ _ _;refine XA (wpAny_specialOf hT qb ?_);generalize hid:("list_reverseiterator.__length_hint__":String)=id0
 wp_delta
 rw[show splitId id0=some ("list_reverseiterator","__length_hint__") from by subst hid;decide+kernel];subst hid;refine XA (wpAny_isInstance (T:="list_reverseiterator") (b:=true) hT (by rw[isSubtype_type];kernel_rfl) ?_);refine wpAny_ite_split (λz=>absurd z (by decide)) (λ_=>?_);refine wpAny_ite_split (λ_=>?_) (λz=>absurd (by decide+kernel) z);refine wpAny_ite_split (λz=>absurd z (by decide+kernel)) (λ_=>?_);exact XB h
def tD {R:Result->WR->Prop}{items:Array WQ}(hh:A.handled=none)(n:Nat)(hn:items.size=n)(hsz:n<=sizeLine)(S:WP)(hSi:S≠it)(hSl:S≠l)(hil:l≠it)
  (hit:s.heap.IsRevIter it l ((n:Int)-1)) (hl:s.heap.IsList l items) (hS:s.heap.get? S=some {cls:=.type "list",data:=.seq #[]})
  (hR:∀s' acc' c',Moved [S,it] (λa b=>b=a) s s'->s'.heap.get? S=some {cls:=.type "list",dict:=none,data:=.seq acc' c',slots:=#[]}->ItemsOf (λi v=>items[items.size-1-i]?=some v) acc' n->R (.ok (.ret .none)) s'):
  wpAny (model prog w) A.in1 (Builtin.«list.__init__» ⟨[.ref S,.ref it],[]⟩)
   (λfin s2=>match fin with | .done f=>R (.ok f) s2 | .again c2=>c2.quiet=true/\codeAny (model prog w) A c2 R s2) (λe s2=>R (.error e) s2) s:=by
 have W:=(Walks.listRev (prog:=prog) (w:=w) (A:=A.in1) hh it l hil items).toS;rw[hn] at W;have hSf:S∉[it,l]:=by simp[hSi,hSl]
 show wpAny _ A.in1 (Builtin.List.listItems (.ref S)>>=λold=>Builtin.List.listUpdate (.ref S) (λ_=>#[])>>=λ_=>letGo old.toList.reverse>>=λ_=>Builtin.List.listExtendWith (.ref S) (.ref it) .none) _ _ s;unfold Builtin.List.listItems;refine XA ?_;refine XA (wpAny_seqItems hS FL (XB ?_));show wpAny _ A.in1 (updateSeq S (λ_=>#[])>>=λ_=>letGo (#[]:Array WQ).toList.reverse>>=λ_=>Builtin.List.listExtendWith (.ref S) (.ref it) .none) _ _ s;refine XA (wpAny_updateSeq hS FL ?_);have hS2:=DZ (Obj.mapSeq (λ_=>(#[]:Array WQ))) hS FL;have oth:∀b o,b≠S->s.heap.get? b=some o->(s.heap.update S (Obj.mapSeq (λ_=>(#[]:Array WQ)))).get? b=some o:=λb o hb e=>
  (DV _ _ (Ne.symm hb)).trans e
 refine XA (wpAny_letGo ?_);unfold Builtin.List.listExtendWith;have hit2:(s.heap.update S (Obj.mapSeq (λ_=>(#[]:Array WQ)))).IsRevIter it l ((n:Int)-1):=hit.at λo e=>oth it o hSi.symm e;have hl2:(s.heap.update S (Obj.mapSeq (λ_=>(#[]:Array WQ)))).IsList l items:=hl.at λo e=>oth l o hSl.symm e;refine XA (wpAny_typeOf (T:="list_reverseiterator") (Heap.IsRevIter.typeIs (s:={s with heap:=_}) hit2) ?_);have h1:Builtin.List.listSameRef (.ref S) (.ref it)=false:=by simp[Builtin.List.listSameRef,hSi]
 have h2:(Value.type "list_reverseiterator"==Value.type "list")=false:=by decide
 have h3:(Value.type "list_reverseiterator"==Value.type "tuple")=false:=by decide
 simp only[h1,h2,h3,Bool.or_false,Bool.false_eq_true,if_false];refine XA (wpAny_pyIter_revIter hit2 ?_);refine XA (wpAny_holding (tI hit2 ?_));have st:(λi (h:WU)=>i<=n/\h.IsRevIter it l ((n:Int)-1-(i:Int))/\h.IsList l items) 0 (s.heap.update S (Obj.mapSeq (λ_=>(#[]:Array WQ)))):=⟨Nat.zero_le _,by simpa using hit2,hl2⟩;refine wpAny_ite_split (λz=>absurd z (by decide+kernel)) (λ_=>?_);refine XB ⟨plainId_quiet EG _,?_⟩;refine codeAny_extend_loopS W hsz S hSf .none n 0 _ #[] _ FL (XO _) st hS2 (ItemsOf.nil _) λs3 acc3 c3 hm hS3 hacc=>?_;refine hR s3 acc3 c3 ⟨λb o hb e=>?_,hm.gens,hm.drawn,hm.os,hm.toks⟩ hS3 (by rw[hn];exact hacc);exact hm.heap b o hb (oth b o (λz=>hb (by rw[z];simp)) e)
def An {Q:WQ->WR->Prop}{items:Array WQ}(hh:A.handled=none)(hsz:items.size<=sizeLine)(hil:l≠it)(hit:s.heap.IsRevIter it l ((items.size:Int)-1))(hl:s.heap.IsList l items)
  (hQ:∀h2 t2 acc2 c2,(∀b o,b≠it->s.heap.get? b=some o->h2.get? b=some o)->h2.get? s.heap.objs.size=some {cls:=.type "list",dict:=none,data:=.seq acc2 c2,slots:=#[]}->ItemsOf (λi v=>items[items.size-1-i]?=some v) acc2 items.size->Q (.ref s.heap.objs.size) {s with heap:=h2,toks:=t2}):
  wpAny (model prog w) A (call (.type "list") [.ref it]) Q E s:=by
 refine callType_codes (Q₁:=λob s1=>ob=.ref s.heap.objs.size/\s1={s with heap:=s.heap.push {cls:=.type "list",data:=.seq #[]}}) PySem.F.called_list (PySem.F.typeCall_list_1 _) PySem.F.entry_list_init (code_list_new _ ⟨FL,FL⟩) λob s1 h1=>?_;obtain⟨rfl,rfl⟩:=h1;have hS:(s.heap.push {cls:=.type "list",data:=.seq #[]}).get? s.heap.objs.size=some {cls:=.type "list",data:=.seq #[]}:=XF _ FL;have ltI:it<s.heap.objs.size:=by obtain⟨_,e,_⟩:=hit;exact XD e
 have ltL:l<s.heap.objs.size:=by obtain⟨_,e,_⟩:=hl;exact XD e
 refine⟨⟨_,hS,FL⟩,PySem.F.args_list_init_2 _ _,tD (A:=A.in1) hh items.size FL hsz _ (CJ ltI) (CJ ltL) hil (hit.at λo e=>XC _ e) (hl.at λo e=>XC _ e) hS λs3 acc3 c3 hm hS3 hacc=>⟨FL,?_⟩⟩;rw[Moved.eq_with hm];exact hQ s3.heap s3.toks acc3 c3 (λb o hb e=>hm.heap b o (by simp only[List.mem_cons,List.not_mem_nil,or_false,not_or];exact⟨Nat.ne_of_lt (Heap.lt_size e),hb⟩) (Heap.get?_push_of_some _ e)) hS3 hacc
end
section
variable {X:Cx}
def A5:∀{xs:List V} {us:List WQ},Yd xs us->Yd xs.reverse us.reverse
 | _,_,.nil=>.nil
 | _,_,.cons r t=>by rw[CL,CL];exact(A5 t).append (.cons r .nil)
def wB {its:List WQ}(h:ItemsOf (λi v=>its.toArray[its.toArray.size-1-i]?=some v) acc its.toArray.size):acc.toList=its.reverse:=by
 obtain⟨h1,h2⟩:=h;have hl:its.toArray.size=its.length:=by simp
 refine List.ext_getElem? λj=>?_;by_cases c:j<acc.size
 ·have e:acc[j]?=some acc[j]:=by simp[c]
  have h3:=h2 j _ e;rw[EA,e,<-h3,hl];rw[List.getElem?_reverse (by omega)];simp
 ·rw[List.getElem?_eq_none (by simp;omega),List.getElem?_eq_none (by simp;omega)]
def iE (K:WY)(ta:TE):TE:=λσ H Q=>ta σ H λx H1=>∃a xs,x=.ref a/\J9 K H1 a xs/\∀p,H1 p=none->Q (.ref p) (Yz H1 p (.lst xs.reverse))
def yS {p pos p2 pos2:Pos}(hc:X.calm=true)(hg:Gl X "list")(hm:X.mg "list"=none)(hg2:Gl X "reversed")(hm2:X.mg "reversed"=none)(ha:PE X a ta)(hs:autoParam (starEach [a] X.env=[(false,eval a X.env)]) QzR)
  (hs2:autoParam (starEach [.Call (.Name "reversed" p2) [a] [] pos2] X.env=[(false,eval (.Call (.Name "reversed" p2) [a] [] pos2) X.env)]) QzR) (hb:autoParam (bootBuiltins "reversed"=some (.type "reversed")) QzK) (hb2:autoParam (bootBuiltins "list"=some (.type "list")) QzK):
  PE X (.Call (.Name "list" p) [.Call (.Name "reversed" p2) [a] [] pos2] [] pos) (iE X.K ta):=by
 intro WZ s σ H Q I h;refine Call_ (Wm I hg hm hb2 (BF ?_ hs2 FL));rw[hs2];show wpAny _ _ (spliced ((false,eval (.Call (.Name "reversed" p2) [a] [] pos2) X.env)::backTo pos [])) _ _ s;refine CP (Call_ (Wm I hg2 hm2 hb (BF ?_ hs FL)));have pa:PA X [a] (ui ta ug):=Ht ha yU hs;refine Jy (pa pos2 WZ s σ H (λxs H1=>match xs with | [x]=>∃a ys,x=.ref a/\J9 X.K H1 a ys/\∀p,H1 p=none->Q (.ref p) (Yz H1 p (.lst ys.reverse)) | _=>False) I h) λus s1 ⟨vs,H1,I1,r1,q1⟩=>?_;have one:∃x,vs=[x]:=by
  match vs,q1 with
  | [x],_=>exact⟨x,FL⟩
  | [],q1=>exact q1.elim
  | _::_::_,q1=>exact q1.elim
 obtain⟨x,rfl⟩:=one;obtain⟨l,ys,rfl,hq,q⟩:=q1;obtain⟨u,rfl,ru⟩:=Qh r1
 cases ru
 obtain⟨its,rv,pl,hz⟩:=I1.list hq;have hlen:=rv.length;refine call_reversed_list pl.isList ?_;have ltL:l<s1.heap.objs.size:=by obtain⟨_,e,_⟩:=pl.isList;exact XD e
 refine DG ?_;have hit:(s1.heap.push (revObj l ((its.toArray.size:Int)-1))).IsRevIter s1.heap.objs.size l ((its.toArray.size:Int)-1):=⟨_,XF _ FL,FL,FL⟩;have hl2:(s1.heap.push (revObj l ((its.toArray.size:Int)-1))).IsList l its.toArray:=pl.isList.at λo e=>XC _ e;refine An (s:={s1 with heap:=s1.heap.push (revObj l ((its.toArray.size:Int)-1))}) (I.ok.hd hc) (by simp only[List.size_toArray];omega) (Nat.ne_of_lt ltL) hit hl2 λh2 t2 acc c2 kp hN hI=>?_;have hp:s1.heap.objs.size<=(s1.heap.push (revObj l ((its.toArray.size:Int)-1))).objs.size:=by rw[BY];omega
 refine⟨.ref _,_,I1.laid (h':=h2) (t':=t2) (λb o e=>kp b o (XH (XD e)) (XC _ e)) hp (show Ji X.prog X.w _ h2 _ (.lst ys.reverse) from⟨by rw[BW];exact hz,its.reverse,c2,A5 rv,?_⟩),FL,q _ (I1.hok.fresh hp)⟩;rw[<-wB hI];exact hN
def aF (X:Cx)(e:WW)(t:TE):Prop:=
 ∀(WZ:List (WP×Obj)) (s:WR) (σ:St) (H:Hp) (Q:VK),Zy X WZ σ H s->t σ H Q->wpAny (model X.prog X.w) X.A (eval e X.env) (λv s'=>1<=s'.toks/\EP X WZ σ Q v s') X.xe s
variable {o e:WW}{es:List WW}{to:TE}{t:TA}{apos cpos:Pos}{z y:Str}{k k1 k2:Nat}{lp lp1 lp2:Pos}
end
end L2
namespace WL
open PySem PySem.Spec PyProof.Rows L2
section
variable {X:Cx}{e o:WW}{we wo:WE}{p p2 pos pos2 apos cpos:Pos}
def qG:T->List T->Hw->WK->Prop:=λx vs C Q=>∃a b xs zs,x=.ref a/\vs=[.ref b]/\C a=some (.lst xs)/\C b=some (.lst zs)/\xs.length+zs.length<=sizeLine/\Q .non (up C a (.lst (xs++zs)))
def Gz:ia X "list.extend" qG:=⟨_,ww,λF H C x v xs vs Q Q' R rx rs h q=>by
 obtain⟨a,b,ts,us,rfl,rfl,ha,hb,hl,h⟩:=h
 cases Z1 rx
 obtain⟨y,rfl,ry⟩:=X6 rs
 cases Z1 ry
 obtain⟨ys,hy,r⟩:=R.lst ha;obtain⟨zs,hz,r2⟩:=R.lst hb;obtain⟨R',t⟩:=R.putL ha (r.app r2);exact⟨a,b,ys,zs,FL,FL,hy,hz,by rw[r.length,r2.length];exact hl,q _ _ _ _ R' t Nj h⟩⟩
def gT (e:WE):WE:=λτ C Q χ=>e τ C (λx C1=>∃a xs,x=.ref a/\C1 a=some (.lst xs)/\∀p,C1 p=none->Q (.ref p) (up C1 p (.lst xs.reverse))) χ
def sw (hc:X.calm=true)(hg:Gl X "list")(hm:X.mg "list"=none)(hg2:Gl X "reversed")(hm2:X.mg "reversed"=none)(he:Js X e we)(hs:autoParam (starEach [e] X.env=[(false,eval e X.env)]) QzR)
  (hs2:autoParam (starEach [.Call (.Name "reversed" p2) [e] [] pos2] X.env=[(false,eval (.Call (.Name "reversed" p2) [e] [] pos2) X.env)]) QzR):
  Js X (.Call (.Name "list" p) [.Call (.Name "reversed" p2) [e] [] pos2] [] pos) (gT we):=by
 obtain⟨t,p1,sm⟩:=he;refine⟨_,yS hc hg hm hg2 hm2 p1 hs hs2,λF H C σ τ Q Q' χ R S h q=>?_⟩;refine sm F H C σ τ _ _ χ R S h λx v H1 C1 R1 t1 rx h1=>?_;obtain⟨a,xs,rfl,hC,h1⟩:=h1
 cases Z1 rx
 obtain⟨ys,hH,rs⟩:=R1.lst hC;exact⟨a,ys,FL,J9.of hH,λb hb=>q _ _ _ _ (R1.newL hb rs.reverse) (t1.trans (Tx.new hb)) Y6 (h1 b (R1.free hb))⟩
def bq:List T->Hw->WK->Prop:=λvs C Q=>(∃i:Int,vs=[.int i]/\i.natAbs.log2<1920/\Q (.str (toString i)) C)\/∃z,vs=[.str z]/\Q (.str z) C
def aW (X:Cx)(e:WW)(w:WE):Prop:=∃t,aF X e t/\Ug X.K t w
def bo (y z:Str)(o:WE):WE:=λτ C Q χ=>o τ C (λx C1=>∃u,x=.str u/\u.length<=1048576/\Q (.str (Txt.replace u y z)) C1) χ
end
end WL
namespace L2
open PySem PySem.Spec PyProof.Rows
section
variable {prog:WO}{w:WN}{A:WM}{E:WQ->WR->Prop}{s:WR}{a b:WP}{oa ob:Obj}{ea eb:Array DictEntry}{pa pb:Nat}
end
section
variable {prog:WO}{w:WN}{A:WM}{E:WQ->WR->Prop}{s:WR}
def rP {Q:WQ->WR->Prop}(hj:s.heap.IsTupleIter jt q i)(hq:s.heap.IsTuple q its)(hx:its[i]?=some x)
  (hQ:∀h2,h2.IsTupleIter jt q (i+1)->Heap.SameBut jt s.heap h2->Q x {s with heap:=h2}):wpAny (model prog w) A (Builtin.SmallTypes.nextOf (.ref jt)) Q E s:=by
 obtain⟨ob,hob,hcl,hda⟩:=id hj;obtain⟨oq,hoq,_,nq,hdq⟩:=hq;unfold Builtin.SmallTypes.nextOf;refine XA (wpAny_callSpecial?_slot (name:=Str.ofString "__next__") hj.typeIs DF (wpAny_call_entry DF hj.typeIs F.entry_tuple_iterator_next ?_ (FF _)));show wpAny _ _ (field (.ref jt) 0>>=_) _ _ s;refine XA (wpAny_field hob hda (x:=.ref q) FL ?_);show wpAny _ _ (if (Value.ref q==Value.none)=true then _ else _) _ _ s;rw[XX (show ¬((Value.ref q==Value.none)=true) from YJ)];show wpAny _ _ (field (.ref jt) 1>>=_) _ _ s;refine XA (wpAny_field hob hda (x:=.int i 0) FL ?_);show wpAny _ _ (seqItems? (.ref q)>>=_) _ _ s;refine XA (wpAny_seqItems hoq hdq ?_);simp only[Int.toNat_natCast,hx];refine wpAny_bind (wpAny_setField hob hda (by simp) (wpAny_pure ⟨x,FL,wpAny_pure (hQ _ ?_ (Heap.SameBut.update ..))⟩));refine⟨_,DZ _ hob (Obj.isFreed_of_fields (Obj.data_mapFields hda _)),(Obj.cls_mapFields ..).trans hcl,?_⟩;rw[Obj.data_mapFields hda];simp[rawInt]
def nD {Q:WQ->WR->Prop}(hh:A.handled=none)(hj:s.heap.IsTupleIter jt q i)(hq:s.heap.IsTuple q its)(hx:its[i]?=none)
  (hE:∀h2 ex,Heap.ExtBut jt s.heap h2->(∃o,h2.get? ex=some o/\o.cls=.type "StopIteration")->E (.ref ex) {s with heap:=h2}):wpAny (model prog w) A (Builtin.SmallTypes.nextOf (.ref jt)) Q E s:=by
 obtain⟨ob,hob,hcl,hda⟩:=id hj;obtain⟨oq,hoq,_,nq,hdq⟩:=hq;unfold Builtin.SmallTypes.nextOf;refine XA (wpAny_callSpecial?_slot (name:=Str.ofString "__next__") hj.typeIs DF (wpAny_call_entry DF hj.typeIs F.entry_tuple_iterator_next ?_ (FF _)));show wpAny _ _ (field (.ref jt) 0>>=_) _ _ s;refine XA (wpAny_field hob hda (x:=.ref q) FL ?_);show wpAny _ _ (if (Value.ref q==Value.none)=true then _ else _) _ _ s;rw[XX (show ¬((Value.ref q==Value.none)=true) from YJ)];show wpAny _ _ (field (.ref jt) 1>>=_) _ _ s;refine XA (wpAny_field hob hda (x:=.int i 0) FL ?_);show wpAny _ _ (seqItems? (.ref q)>>=_) _ _ s;refine XA (wpAny_seqItems hoq hdq ?_);simp only[Int.toNat_natCast,hx];refine wpAny_bind (wpAny_rule (wpAny_bind (wpAny_setField hob hda (by simp) ?_)));refine XA ?_;simp only[newExc,newTuple];refine XA (wpAny_newObj_type ?_ (by size_fits));refine wpAny_bind (m:=firstArgMember _ _) (wpAny_of_eq (a:=Value.none) (by first | rfl | (simp only[firstArgMember]<;>rfl)) ?_);refine wpAny_newObj_type ?_ (by size_fits);simp only[raiseNew];refine XA (wpAny_handled ?_);rw[show A.in1.handled=none from hh];exact XA (XB (wpAny_throw (hE _ _ (((Heap.SameBut.update ..).extBut.push _).push _) ⟨_,XF _ FL,FL⟩)))
end
def Nm {prog:WO}{w:WN}{A:WM}(hh:A.handled=none)(jt q:WP)(hne:q≠jt)(its:Array WQ):
  Draws prog w A jt [jt,q] its.size (λi v=>its[i]?=some v) (λi h=>h.IsTupleIter jt q i/\h.IsTuple q its) where
 live:=λ_ _ st=>let ⟨o,ho,_⟩:=st.1;⟨o,ho⟩
 frame:=λ_ _ _ st k=>⟨st.1.at λo e=>k jt (by simp) o e,st.2.at λo e=>k q (by simp) o e⟩
 item:=λi s Q E hi st hQ=>rP st.1 st.2 (x:=its[i]) (by simp[hi]) λh2 a b=>hQ _ h2 s.toks (by simp[hi]) ⟨a,st.2.extBut b.extBut hne⟩ b
 done:=λs Q E st hE=>nD hh st.1 st.2 (by simp) hE
structure j3 (z TI TO i1 i2:Addr)(f1 f2:List Addr):Prop where
 m1:i1∈f1
 m2:i2∈f2
 z1:z∉f1
 z2:z∉f2
 o1:TO∉f1
 o2:TO∉f2
 a12:i1∉f2
 a21:i2∉f1
 tz:TI≠z
 oz:TO≠z
 io:TI≠TO
 t1:TI≠i1
 t2:TI≠i2
section
variable {prog:WO}{w:WN}{A:WM}{E:WQ->WR->Prop}{s:WR}{z TI TO i1 i2:WP}{f1 f2:List WP}{n:Nat}{P1 P2:Nat->WQ->Prop}{S1 S2:Nat->WU->Prop}
def jD {i:Nat}{u v:WQ}{Q:WQ->WR->Prop}(D1:Draws prog w A i1 f1 n P1 S1)(D2:Draws prog w A i2 f2 n P2 S2)(Z:j3 z TI TO i1 i2 f1 f2)(hi:i<n)
  (hz:IsZip s.heap z TI TO .none) (hTI:IsPair s.heap TI (.ref i1) (.ref i2)) (hTO:IsPair s.heap TO u v) (s1:S1 i s.heap) (s2:S2 i s.heap)
  (hQ:∀x y h2 t2,P1 i x->P2 i y->IsZip h2 z TI TO (rawInt s.heap.objs.size)->IsPair h2 TO x y->S1 (i+1) h2->S2 (i+1) h2->IsPair h2 s.heap.objs.size x y->
   (∀c o,c≠z->c≠TO->c≠i1->c≠i2->s.heap.get? c=some o->h2.get? c=some o)->Q (.ref s.heap.objs.size) {s with heap:=h2,toks:=t2}):
  wpAny (model prog w) A (Builtin.«zip.__next__» ⟨[.ref z],[]⟩) (λfin s2=>∃r,fin=.done (.ret r)/\Q r s2) E s:=by
 show wpAny _ _ (field (.ref z) 2>>=_) _ E s;refine XA (wpAny_field hz FL (x:=.bool false) FL ?_);show wpAny _ _ (field (.ref z) 3>>=_) _ E s;refine XA (wpAny_field hz FL (x:=.ref TI) FL ?_);refine XA (wpAny_seqItems hTI FL ?_);show wpAny _ _ (Builtin.SmallTypes.ownedTupleIsFree (.ref z)>>=_) _ E s;refine XA ?_;unfold Builtin.SmallTypes.ownedTupleIsFree;refine XA (wpAny_field hz FL (x:=.none) FL (XB ?_));simp only[if_true];refine XA (wpAny_rule ?_);refine XA (wpAny_field hz FL (x:=.ref TO) FL ?_);refine wpAny_bind (wpAny_setField_rec hz (by simp) λha hza sa=>?_)
 replace hza:IsZip ha z TI TO .ellipsis:=hza
 refine XA ?_;simp only[List.zipIdx_cons,List.zipIdx_nil,List.forIn_cons,List.forIn_nil];have ne:∀{b c:WP} {l:List WP},b∈l->c∉l->b≠c:=λhb hc e=>hc (e▸hb);have a1:S1 i ha:=D1.frame i _ _ s1 λb hb o e=>sa.extBut _ _ (ne hb Z.z1) e;have a2:S2 i ha:=D2.frame i _ _ s2 λb hb o e=>sa.extBut _ _ (ne hb Z.z2) e;refine XA (XA (wpAny_onRaise ?_));show wpAny _ _ (Builtin.SmallTypes.nextOf (.ref i1)>>=_) _ _ _;refine XA (D1.item i {s with heap:=ha} _ _ hi a1 λx hb tb hx b1 sb=>XB ?_);have b2:S2 i hb:=D2.frame i _ _ a2 λb hm o e=>sb.extBut _ _ (ne hm Z.a12) e;have Oi1:TO≠i1:=λe=>Z.o1 (e▸Z.m1);have Oi2:TO≠i2:=λe=>Z.o2 (e▸Z.m2);have zi1:z≠i1:=λe=>Z.z1 (e▸Z.m1);have zi2:z≠i2:=λe=>Z.z2 (e▸Z.m2);have tob:IsPair hb TO u v:=sb.extBut _ _ Oi1 (sa.extBut _ _ Z.oz hTO);refine XA (wpAny_seqItems tob FL ?_);refine XA (wpAny_updateSeq_pair tob λhc toc sc=>?_)
 replace toc:IsPair hc TO x v:=toc
 refine XA (wpAny_letGo (XB ?_));have c1:S1 (i+1) hc:=D1.frame _ _ _ b1 λb hm o e=>sc.extBut _ _ (ne hm Z.o1) e;have c2:S2 i hc:=D2.frame _ _ _ b2 λb hm o e=>sc.extBut _ _ (ne hm Z.o2) e;refine XA (XA (wpAny_onRaise ?_));show wpAny _ _ (Builtin.SmallTypes.nextOf (.ref i2)>>=_) _ _ _;refine XA (D2.item i {s with heap:=hc,toks:=tb} _ _ hi c2 λy hd td hy d2 sd=>XB ?_);have d1:S1 (i+1) hd:=D1.frame _ _ _ c1 λb hm o e=>sd.extBut _ _ (ne hm Z.a21) e;have tod:IsPair hd TO x v:=sd.extBut _ _ Oi2 toc;refine XA (wpAny_seqItems tod FL ?_);refine XA (wpAny_updateSeq_pair tod λhe toe se=>?_)
 replace toe:IsPair he TO x y:=toe
 refine XA (wpAny_letGo (XB (XB ?_)));have e1:S1 (i+1) he:=D1.frame _ _ _ d1 λb hm o e=>se.extBut _ _ (ne hm Z.o1) e;have e2:S2 (i+1) he:=D2.frame _ _ _ d2 λb hm o e=>se.extBut _ _ (ne hm Z.o2) e;refine XA (wpAny_seqItems toe FL ?_);refine XA (wpAny_newTuple ?_);have hsz:he.objs.size=s.heap.objs.size:=by rw[se.1,sd.1,sc.1,sb.1,sa.1]
 have hze:IsZip he z TI TO .ellipsis:=se.extBut _ _ Z.oz.symm (sd.extBut _ _ zi2 (sc.extBut _ _ Z.oz.symm (sb.extBut _ _ zi1 hza)));have hke:∀c o,c≠z->c≠TO->c≠i1->c≠i2->s.heap.get? c=some o->he.get? c=some o:=λc o n1 n2 n3 n4 e=>se.extBut _ _ n2 (sd.extBut _ _ n4 (sc.extBut _ _ n2 (sb.extBut _ _ n3 (sa.extBut _ _ n1 e))));have hzlt:z<he.objs.size:=XD hze;show wpAny _ _ (Builtin.SmallTypes.ownedTupleHandOut (.ref z) (.ref he.objs.size)>>=_) _ _ _;refine XA ?_;unfold Builtin.SmallTypes.ownedTupleHandOut;have hzf:IsZip (he.push {cls:=.type "tuple",data:=.seq #[x,y]}) z TI TO .ellipsis:=XC _ hze;refine wpAny_bind (wpAny_setField_rec hzf (by simp) λhg hzg sg=>?_)
 replace hzg:IsZip hg z TI TO (rawInt he.objs.size):=hzg
 refine wpAny_setField_rec hzg (by simp) λhk hzk sk=>?_
 replace hzk:IsZip hk z TI TO (rawInt he.objs.size):=hzk
 have up:∀c o,c≠z->he.get? c=some o->hk.get? c=some o:=λc o n1 e=>sk.extBut _ _ n1 (sg.extBut _ _ n1 (XC _ e));have hT:IsPair hk he.objs.size x y:=sk.extBut _ _ (CJ hzlt) (sg.extBut _ _ (CJ hzlt) (XF _ FL));rw[hsz] at hzk hT;refine XB ⟨_,FL,?_⟩;show Q (.ref he.objs.size) _;rw[hsz];exact hQ x y hk td hx hy hzk (up _ _ Z.oz toe) (D1.frame _ _ _ e1 λb hm o e=>up _ o (ne hm Z.z1) e) (D2.frame _ _ _ e2 λb hm o e=>up _ o (ne hm Z.z2) e) hT λc o n1 n2 n3 n4 e=>up c o n1 (hke c o n1 n2 n3 n4 e)
def y8 {u v:WQ}{Q:Fin->WR->Prop}(D1:Draws prog w A i1 f1 n P1 S1)(Z:j3 z TI TO i1 i2 f1 f2)
  (hz:IsZip s.heap z TI TO .none) (hTI:IsPair s.heap TI (.ref i1) (.ref i2)) (hTO:IsPair s.heap TO u v) (s1:S1 n s.heap)
  (hE:∀h2 ex,(∀c o,c≠z->c≠TO->c≠i1->c≠i2->s.heap.get? c=some o->h2.get? c=some o)->(∃o,h2.get? ex=some o/\o.cls=.type "StopIteration")->E (.ref ex) {s with heap:=h2}):
  wpAny (model prog w) A (Builtin.«zip.__next__» ⟨[.ref z],[]⟩) Q E s:=by
 show wpAny _ _ (field (.ref z) 2>>=_) _ E s;refine XA (wpAny_field hz FL (x:=.bool false) FL ?_);show wpAny _ _ (field (.ref z) 3>>=_) _ E s;refine XA (wpAny_field hz FL (x:=.ref TI) FL ?_);refine XA (wpAny_seqItems hTI FL ?_);show wpAny _ _ (Builtin.SmallTypes.ownedTupleIsFree (.ref z)>>=_) _ E s;refine XA ?_;unfold Builtin.SmallTypes.ownedTupleIsFree;refine XA (wpAny_field hz FL (x:=.none) FL (XB ?_));simp only[if_true];refine XA (wpAny_rule ?_);refine XA (wpAny_field hz FL (x:=.ref TO) FL ?_);refine wpAny_bind (wpAny_setField_rec hz (by simp) λha hza sa=>?_)
 replace hza:IsZip ha z TI TO .ellipsis:=hza
 refine XA ?_;simp only[List.zipIdx_cons,List.zipIdx_nil,List.forIn_cons,List.forIn_nil];have ne:∀{b c:WP} {l:List WP},b∈l->c∉l->b≠c:=λhb hc e=>hc (e▸hb);have a1:S1 n ha:=D1.frame n _ _ s1 λb hb o e=>sa.extBut _ _ (ne hb Z.z1) e;refine XA (XA (wpAny_onRaise ?_));show wpAny _ _ (Builtin.SmallTypes.nextOf (.ref i1)>>=_) _ _ _;refine XA (D1.done {s with heap:=ha} _ _ a1 λhb ex sb he=>?_);obtain⟨oe,hoe,hce⟩:=he;have hzb:IsZip hb z TI TO .ellipsis:=sb _ _ (λe=>Z.z1 (e▸Z.m1)) hza;have hez:ex≠z:=λe=>by subst e;rw[hzb] at hoe;cases hoe;simp at hce
 exact wpAny_setField_rec hzb (by simp) λhc _ sc=>hE hc ex (λc o n1 _ n3 _ e=>sc.extBut _ _ n1 (sb _ _ n3 (sa.extBut _ _ n1 e))) ⟨oe,sc.extBut _ _ hez hoe,hce⟩
def A1 (D1:Draws prog w A.in1 i1 f1 n P1 S1)(D2:Draws prog w A.in1 i2 f2 n P2 S2)(Z:j3 z TI TO i1 i2 f1 f2):
  WalksT prog w A z (z::TI::TO::(f1++f2)) [z,TO,i1,i2] n (λi vals=>∃x y,P1 i x/\P2 i y/\vals=#[x,y])
   (λi h=>IsZip h z TI TO .none/\IsPair h TI (.ref i1) (.ref i2)/\(∃a b,IsPair h TO a b)/\S1 i h/\S2 i h)
   (λi T h=>IsZip h z TI TO (rawInt T)/\IsPair h TI (.ref i1) (.ref i2)/\(∃a b,IsPair h TO a b)/\S1 (i+1) h/\S2 (i+1) h/\T∉[z,TO,i1,i2]) where
 sub:=λc hc=>by
  simp only[ZM,ZN,or_false] at hc
  rcases hc with rfl | rfl | rfl | rfl
  ·simp
  ·simp
  ·simp[Z.m1]
  ·simp[Z.m2]
 frame:=λi h h2 st k=>by
  obtain⟨a,b,⟨u,v,c⟩,d,e⟩:=st;exact⟨k z (by simp) _ a,k TI (by simp) _ b,⟨u,v,k TO (by simp) _ c⟩,D1.frame _ _ _ d λx hx o q=>k x (by simp[hx]) o q,D2.frame _ _ _ e λx hx o q=>k x (by simp[hx]) o q⟩
 item:=λi s Q E hi st hQ=>by
  obtain⟨a,b,⟨u,v,c⟩,d,e⟩:=st;have hT:s.TypeIs (.ref z) "zip":=⟨_,a,FL⟩;unfold pyNext;refine XA (wpAny_attempt (wpAny_callSpecial?_slot (name:=Str.ofString "__next__") hT BM (wpAny_call_entry BM hT CO
   (jD D1 D2 Z hi a b c d e λx y h2 t2 hx hy z1 z2 z3 z4 z5 z6=>XB ?_) (CM _))))
  have lt:∀{c o},s.heap.get? c=some o->s.heap.objs.size≠c:=λe=>CJ (XD e);obtain⟨o1,l1⟩:=D1.live _ _ d;obtain⟨o2,l2⟩:=D2.live _ _ e;refine hQ s.heap.objs.size #[x,y] h2 t2 ⟨x,y,hx,hy,FL⟩ (Nat.le_refl _) ⟨_,z5,FL,_,FL⟩ ⟨z1,z6 _ _ Z.tz Z.io Z.t1 Z.t2 b,⟨_,_,z2⟩,z3,z4,?_⟩ λc o hc q=>z6 c o (λx=>hc (by simp[x])) (λx=>hc (by simp[x])) (λx=>hc (by simp[x])) (λx=>hc (by simp[x])) q;simp only[List.mem_cons,List.not_mem_nil,or_false,not_or];exact⟨lt a,lt c,lt l1,lt l2⟩
 go:=λelts k pos i T s Q E hm hQ=>by
  obtain⟨a,b,⟨u,v,c⟩,d,e,_⟩:=hm;refine wpAny_letOwnedTupleGo_zip a λh2 hz2 s2=>hQ h2 ⟨hz2,s2.extBut _ _ Z.tz b,⟨u,v,s2.extBut _ _ Z.oz c⟩,?_,?_⟩ λc o hc q=>s2.extBut _ _ (λx=>hc (by simp[x])) q
  ·exact D1.frame _ _ _ d λx hx o q=>s2.extBut _ _ (λz'=>Z.z1 (z'▸hx)) q
  ·exact D2.frame _ _ _ e λx hx o q=>s2.extBut _ _ (λz'=>Z.z2 (z'▸hx)) q
 apart:=λi T h hm=>hm.2.2.2.2.2
 done:=λs Q E st hQ=>by
  obtain⟨a,b,⟨u,v,c⟩,d,e⟩:=st;have hT:s.TypeIs (.ref z) "zip":=⟨_,a,FL⟩;unfold pyNext;refine XA (wpAny_attempt (wpAny_callSpecial?_slot (name:=Str.ofString "__next__") hT BM (wpAny_call_entry BM hT CO (y8 D1 Z a b c d λh2 ex hk he=>?_) (CM _))));obtain⟨o,ho,hc⟩:=he;refine XA (wpAny_isInstance (T:="StopIteration") (b:=true) ⟨o,ho,hc⟩ isSubtype_stop ?_);exact wpAny_pure (hQ h2 s.toks λc o hc q=>hk c o (λx=>hc (by simp[x])) (λx=>hc (by simp[x])) (λx=>hc (by simp[x])) (λx=>hc (by simp[x])) q)
 self:=λi s Q E st h=>wpAny_pyIter_zip st.1 h
end
abbrev zQ (c:String)(l:WP):Obj:={cls:=.type c,data:=.fields #[.ref l,.int 0 0]}
abbrev zA (h:WU)(c1:String)(l1:WP):WU:=h.push (zQ c1 l1)
abbrev zB (h:WU)(c1:String)(l1:WP)(c2:String)(l2:WP):WU:=(zA h c1 l1).push (zQ c2 l2)
abbrev zC (h:WU)(c1:String)(l1:WP)(c2:String)(l2:WP):WU:=(zB h c1 l1 c2 l2).push {cls:=.type "tuple",data:=.seq #[.ref h.objs.size,.ref (zA h c1 l1).objs.size]}
abbrev zD (h:WU)(c1:String)(l1:WP)(c2:String)(l2:WP):WU:=(zC h c1 l1 c2 l2).push {cls:=.type "tuple",data:=.seq #[.none,.none]}
abbrev zE (h:WU)(c1:String)(l1:WP)(c2:String)(l2:WP):WU:=(zD h c1 l1 c2 l2).push {cls:=.type "zip",data:=.fields #[.none,.bool false,.bool false,.ref (zB h c1 l1 c2 l2).objs.size,.ref (zC h c1 l1 c2 l2).objs.size]}
def oZ (b:Bool)(h:WU)(l:WP)(its:Array WQ):Prop:=if b then h.IsList l its else h.IsTuple l its
def cX (b:Bool):String:=if b then "list_iterator" else "tuple_iterator"
def dI (c b:Bool)(l1 l2:WP)(xs ys:Array WQ):Meets (Builtin.«zip.__new__» ⟨[.type "zip",.ref l1,.ref l2],[]⟩) (λ_ R s=>oZ c s.heap l1 xs/\oZ b s.heap l2 ys/\
  R (.ok (.ret (.ref (zD s.heap (cX c) l1 (cX b) l2).objs.size))) {s with heap:=zE s.heap (cX c) l1 (cX b) l2}):=
 .of_wp λprog w A R s h=>by
  obtain⟨hp,g,d,tk,os⟩:=s;obtain⟨hl1,hl2,h⟩:=h;have hsub:=sub_zip
  cases c
  ·have hL1:Heap.IsTuple (Shared.heap ⟨hp,g,d,tk,os⟩) l1 xs:=hl1
   cases b
   ·have hL2:Heap.IsTuple (Shared.heap ⟨hp.push (zQ "tuple_iterator" l1),g,d,tk,os⟩) l2 ys:=Heap.IsTuple.push hl2 _
    wp_walk using wpAny_pyIter_tuple hL1,wpAny_pyIter_tuple hL2
    exact⟨_,FL,h⟩
   ·have hL2:Heap.IsList (Shared.heap ⟨hp.push (zQ "tuple_iterator" l1),g,d,tk,os⟩) l2 ys:=Heap.IsList.push hl2 _
    wp_walk using wpAny_pyIter_tuple hL1,wpAny_pyIter_list hL2
    exact⟨_,FL,h⟩
  ·have hL1:Heap.IsList (Shared.heap ⟨hp,g,d,tk,os⟩) l1 xs:=hl1
   cases b
   ·have hL2:Heap.IsTuple (Shared.heap ⟨hp.push (zQ "list_iterator" l1),g,d,tk,os⟩) l2 ys:=Heap.IsTuple.push hl2 _
    wp_walk using wpAny_pyIter_list hL1,wpAny_pyIter_tuple hL2
    exact⟨_,FL,h⟩
   ·have hL2:Heap.IsList (Shared.heap ⟨hp.push (zQ "list_iterator" l1),g,d,tk,os⟩) l2 ys:=Heap.IsList.push hl2 _
    wp_walk using wpAny_pyIter_list hL1,wpAny_pyIter_list hL2
    exact⟨_,FL,h⟩
structure pR (h h2:Heap)(c1:String)(l1:Addr)(c2:String)(l2:Addr):Prop where
 zip:IsZip h2 (h.objs.size+4) (h.objs.size+2) (h.objs.size+3) .none
 its:IsPair h2 (h.objs.size+2) (.ref h.objs.size) (.ref (h.objs.size+1))
 own:IsPair h2 (h.objs.size+3) .none .none
 i1:h2.get? h.objs.size=some (zQ c1 l1)
 i2:h2.get? (h.objs.size+1)=some (zQ c2 l2)
 keep:∀c o,h.get? c=some o->h2.get? c=some o
def eg (h:WU)(c1:String)(l1:WP)(c2:String)(l2:WP):pR h (zE h c1 l1 c2 l2) c1 l1 c2 l2/\(zD h c1 l1 c2 l2).objs.size=h.objs.size+4:=by
 have z1:(zA h c1 l1).objs.size=h.objs.size+1:=BY ..;have z2:(zB h c1 l1 c2 l2).objs.size=h.objs.size+2:=by rw[BY,z1]
 have z3:(zC h c1 l1 c2 l2).objs.size=h.objs.size+3:=by rw[BY,z2]
 have z4:(zD h c1 l1 c2 l2).objs.size=h.objs.size+4:=by rw[BY,z3]
 have g5:(zE h c1 l1 c2 l2).get? (zD h c1 l1 c2 l2).objs.size=some _:=XF _ FL;have g4:(zE h c1 l1 c2 l2).get? (zC h c1 l1 c2 l2).objs.size=some _:=XC _ (XF _ FL);have g3:(zE h c1 l1 c2 l2).get? (zB h c1 l1 c2 l2).objs.size=some _:=XC _ (XC _ (XF _ FL));have g2:(zE h c1 l1 c2 l2).get? (zA h c1 l1).objs.size=some _:=XC _ (XC _ (XC _ (XF _ FL)));have g1:(zE h c1 l1 c2 l2).get? h.objs.size=some _:=XC _ (XC _ (XC _ (XC _ (XF _ FL))));rw[z2,z3,z4] at g5;rw[z1,z2] at g3;rw[z3] at g4;rw[z1] at g2;exact⟨⟨g5,g3,g4,g1,g2,λc o x=>XC _ (XC _ (XC _ (XC _ (XC _ x))))⟩,z4⟩
section
variable {prog:WO}{w:WN}{A:WM}{E:WQ->WR->Prop}{s:WR}
def Rz (c b:Bool){Q:WQ->WR->Prop}(hl1:oZ c s.heap l1 xs)(hl2:oZ b s.heap l2 ys)
  (h:∀h2,pR s.heap h2 (cX c) l1 (cX b) l2->Q (.ref (s.heap.objs.size+4)) {s with heap:=h2}):wpAny (model prog w) A (call (.type "zip") [.ref l1,.ref l2]) Q E s:=by
 refine callType_new PySem.F.called_zip (by decide) (PySem.F.typeCall_zip_2 _ _) (PySem.F.newCall_zip_2 _ _) (λobj=>PySem.F.args_object_init_3 obj _ _) PySem.F.entry_zip_new (dI c b l1 l2 xs ys) ⟨hl1,hl2,?_⟩;obtain⟨N,e⟩:=eg s.heap (cX c) l1 (cX b) l2;show _/\_;rw[e];exact⟨⟨_,N.zip,FL⟩,h _ N⟩
def Nf {k l1 l2:WP}(h1:l1<k)(h2:l2<k):j3 (k+4) (k+2) (k+3) k (k+1) [k,l1] [k+1,l2]:=by
 have e:∀{a b:Nat},a≠b->∀{l:List Nat},a∉l->a∉b::l:=λh _ h'=>by simp[h,h']
 have n:∀a:Nat,a∉([]:List Nat):=λa=>by simp
 have L1:(l1:Nat)<k:=h1;have L2:(l2:Nat)<k:=h2;have d:∀{a b:Nat},a<b\/b<a->a≠b:=λh e=>by omega
 exact⟨by simp,by simp,e (d (.inr (Nat.lt_add_of_pos_right (by decide)))) (e (d (.inr (Nat.lt_of_lt_of_le L1 (Nat.le_add_right _ _)))) (n _)),e (d (.inr (Nat.add_lt_add_left (by decide) k))) (e (d (.inr (Nat.lt_of_lt_of_le L2 (Nat.le_add_right _ _)))) (n _)),
  e (d (.inr (DQ (by decide)))) (e (d (.inr (XG L1 (BG _ _)))) (n _)),e (d (.inr (DP (by decide) k))) (e (d (.inr (XG L2 (BG _ _)))) (n _)),
  e (d (.inl (DQ (by decide)))) (e (d (.inr L2)) (n _)),e (d (.inr (DQ (by decide)))) (e (d (.inr (XG L1 (BG _ _)))) (n _)),
  d (.inl (DP (by decide) k)),d (.inl (DP (by decide) k)),d (.inl (DP (by decide) k)),d (.inr (DQ (by decide))),d (.inr (DP (by decide) k))⟩
end
def Ec (b:Bool)(K:WY)(H:Hp)(a:WP)(xs:List V):Prop:=if b then J9 K H a xs else Uz K H a xs
def rE (b:Bool)(h:WU)(it l:WP)(i:Nat):Prop:=if b then h.IsListIter it l i else h.IsTupleIter it l i
def Tc {prog:WO}{w:WN}{A:WM}(b:Bool)(hh:A.handled=none)(it l:WP)(hne:l≠it)(its:Array WQ):
  Draws prog w A it [it,l] its.size (λi v=>its[i]?=some v) (λi h=>rE b h it l i/\oZ b h l its):=by
 cases b
 ·exact Nm hh it l hne its
 ·exact Draws.list hh it l hne its
section
variable {X:Cx}{WZ:List (WP×Obj)}{σ:St}{H:Hp}{s:WR}
def Zy.sqX (I:Zy X WZ σ H s)(h:Ec b X.K H a xs):∃its:List WQ,Yd xs its/\oZ b s.heap a its.toArray:=by
 cases b
 ·obtain⟨its,r,p,_⟩:=I.tuple h;exact⟨its,r,p⟩
 ·obtain⟨its,r,p,_⟩:=I.list h;exact⟨its,r,p.isList⟩
def oZ.lt (p:oZ b h l its):l<h.objs.size:=by
 cases b
 ·obtain⟨_,e,_⟩:=p;exact XD e
 ·obtain⟨_,e,_⟩:=p;exact XD e
def rE.ob {l k:WP}(p:rE b h k l i):∃o,h.get? k=some o/\∀v,o.data≠.cell v:=by
 cases b
 ·obtain⟨o,e,c,d⟩:=p;exact⟨o,e,λv z=>by rw[d] at z;cases z⟩
 ·obtain⟨o,e,c,d⟩:=p;exact⟨o,e,λv z=>by rw[d] at z;cases z⟩
def rE.at {h h':WU}{l k:WP}(p:rE b h k l i)(q:∀o,h.get? k=some o->h'.get? k=some o):rE b h' k l i:=by
 cases b
 ·exact Heap.IsTupleIter.at p q
 ·exact Heap.IsListIter.at p q
def Zy.sqX_inj (I:Zy X WZ σ H s)(h:Ec b X.K H a xs)(h':Ec b X.K H a ys):xs=ys:=by
 cases b
 ·exact I.tuple_inj h h'
 ·exact I.list_inj h h'
end
def cF (z b:Bool)(K:WY)(l1 l2:WP):It:=
 ⟨λi H=>∃xs ys,Ec z K H l1 xs/\Ec b K H l2 ys/\xs.length=ys.length/\i<xs.length,
  λi H x H'=>∃u v T,(∀xs,Ec z K H l1 xs->xs[i]?=some u)/\(∀ys,Ec b K H l2 ys->ys[i]?=some v)/\x=.ref T/\H T=none/\H'=Yz H T (.tup [u,v]),
  λi H=>∃xs ys,Ec z K H l1 xs/\Ec b K H l2 ys/\xs.length=ys.length/\i=xs.length⟩
def ua {P:WO}{w:WN}{K:WY}{elts:List WW}{ek:Nat}{epos:Pos}(z b:Bool){k l1 l2:WP}(h1:l1<k)(h2:l2<k):
  Eb P w K (.Tuple elts ek epos) (cF z b K l1 l2) [k+4,k+2,k+3,k,k+1] (k+4)
   (λi h=>IsZip h (k+4) (k+2) (k+3) .none/\IsPair h (k+2) (.ref k) (.ref (k+1))/\(∃a c,IsPair h (k+3) a c)/\rE z h k l1 i/\rE b h (k+1) l2 i) where
 mem:=by simp
 obj:=λi h st c hc=>by
  obtain⟨a1,a2,⟨u,v,a3⟩,a4,a5⟩:=st;simp only[ZM,ZN,or_false] at hc
  rcases hc with rfl | rfl | rfl | rfl | rfl
  ·exact⟨_,a1,λv z=>by have z':Data.fields _=Data.cell v:=z;cases z'⟩
  ·exact⟨_,a2,λv z=>by have z':Data.seq _ _=Data.cell v:=z;cases z'⟩
  ·exact⟨_,a3,λv z=>by have z':Data.seq _ _=Data.cell v:=z;cases z'⟩
  ·exact a4.ob
  ·exact a5.ob
 keep:=λi h h' st kp=>by
  obtain⟨a1,a2,⟨u,v,a3⟩,a4,a5⟩:=st;exact⟨kp _ (by simp) _ a1,kp _ (by simp) _ a2,⟨u,v,kp _ (by simp) _ a3⟩,a4.at λo e=>kp _ (by simp) o e,a5.at λo e=>kp _ (by simp) o e⟩
 item:=by
  intro X hP hw hK hc i WZ s σ H E I hf st hg;subst hP hw hK;obtain⟨xs,ys,hq1,hq2,hlen,hi⟩:=hg;obtain⟨its1,rv1,p1⟩:=I.sqX hq1;obtain⟨its2,rv2,p2⟩:=I.sqX hq2;obtain⟨a1,a2,a3,a4,a5⟩:=st;have hn1:its1.toArray.size=xs.length:=by rw[XJ,rv1.length]
  have hn2:its2.toArray.size=xs.length:=by rw[XJ,<-rv2.length,hlen]
  have D1:=Tc (prog:=X.prog) (w:=X.w) (A:=X.A.in1) z (I.ok.hd hc) k l1 (XH h1) its1.toArray;have D2:=Tc (prog:=X.prog) (w:=X.w) (A:=X.A.in1) b (I.ok.hd hc) (k+1) l2 (XH (BX h2)) its2.toArray;rw[hn1] at D1;rw[hn2] at D2;have W:=A1 D1 D2 (Nf h1 h2);refine W.item i s _ _ hi ⟨a1,a2,a3,⟨a4,p1⟩,⟨a5,p2⟩⟩ λT vals h' tk hv hT htup hm kk=>?_;obtain⟨x,y,hx,hy,rfl⟩:=hv;refine⟨_,rfl,W.go elts ek epos i T {s with heap:=h',toks:=tk} _ _ hm λh2 st2 kk2=>?_⟩;have hu:xs[i]?=some xs[i]:=by simp[hi]
  have hv:ys[i]?=some (ys[i]'(by omega)):=by simp[show i<ys.length by omega]
  obtain⟨u1,e1,r1⟩:=rv1.get hu;obtain⟨u2,e2,r2⟩:=rv2.get hv;have ex:x=u1:=by
   have:its1[i]?=some x:=by simpa using hx
   rw[e1] at this;exact(YH this).symm
  have ey:y=u2:=by
   have:its2[i]?=some y:=by simpa using hy
   rw[e2] at this;exact(YH this).symm
  subst ex ey;have hTn:H T=none:=I.hok.fresh hT;have hTw:T∉[k+4,k+3,k,k+1]:=W.apart i T h' hm;have sub:∀c,c∈[k+4,k+3,k,k+1]->c∈[k+4,k+2,k+3,k,k+1]:=λc hc=>by
   simp only[ZM,ZN,or_false] at hc |-
   rcases hc with z | z | z | z<;>simp[z]
  have k2:∀c o,c∉[k+4,k+3,k,k+1]->s.heap.get? c=some o->h2.get? c=some o:=λc o hb q=>kk2 c o hb (kk c o hb q);have htup2:IsTup h2 T #[x,y]:=by
   obtain⟨o,ho,r⟩:=htup;exact⟨o,kk2 T o hTw ho,r⟩
  have hfp:∀c∈[k+4,k+3,k,k+1],H c=none:=λc hb=>(hf c (sub c hb)).1;have hne:∀c,c<s.heap.objs.size->c≠T:=λc hb=>XH (XG hb hT);have tracked:∀c u,H c=some u->c≠T/\c∉[k+4,k+3,k,k+1]:=λc u q=>⟨hne c (I.hok.lt q),λz=>by rw[hfp c z] at q;cases q⟩;have I1:Zy X WZ σ (Yz H T (.tup [xs[i],ys[i]'(by omega)])) {s with heap:=h2,gens:=s.gens,drawn:=s.drawn,toks:=tk}:=by
   refine I.step (ch:=[k+4,k+3,k,k+1]) (λc hb=>?_) (λc o _ _ hc q _=>k2 c o hc q) (λc o _ _ hc q _=>⟨o.slots,k2 c o hc q⟩) (λc o hc q n=>by rw[Zt (hne c (XD q))];exact n) (λc o hc q=>⟨o,k2 c o hc q⟩)
    (λc xs q=>by rw[Zt (tracked c _ q).1];exact q) (λc o u q=>by rw[Zt (tracked c _ q).1];exact q) (λc ps q=>⟨#[],by rw[Zt (tracked c _ q).1,q];simp⟩) (λm hm=>?_) (λc u q=>?_) I.bare
   ·obtain⟨f0,f1,f2,f3,f4,f5⟩:=hf c (sub c hb);exact⟨f3,f1,f4,f5⟩
   ·obtain⟨o,es,ep,ho,r⟩:=hm;exact⟨o,es,ep,k2 _ o (λz=>(hf _ (sub _ z)).2.1 FL) ho,r⟩
   ·by_cases hb:c=T
    ·subst hb;rw[Z3] at q;cases q;exact⟨XN (by decide:2<=1000) (CI (Nh (XE _))),[x,y],.cons r1 (.cons r2 .nil),htup2⟩
    ·rw[Zt hb] at q;refine(I.hok c u q).stay (λd v hd r=>k2 d v ?_ r) (λd r=>by rw[Zt (tracked d _ r).1];exact r) λd xs r=>by rw[Zt (tracked d _ r).1];exact r
     rcases hd with rfl | hd
     ·exact(tracked d _ q).2
     ·exact(tracked d _ hd).2
  obtain⟨b1,b2,b3,⟨b4,_⟩,⟨b5,_⟩⟩:=st2;refine⟨.ref T,_,I1,FL,⟨_,_,T,λzs hz=>by rw[I.sqX_inj hz hq1];exact hu,λzs hz=>by rw[I.sqX_inj hz hq2];exact hv,FL,hTn,FL⟩,⟨b1,b2,b3,b4,b5⟩,λc hb=>?_⟩;have hbT:c≠T:=by
   obtain⟨o,ho⟩:∃o,s.heap.get? c=some o:=by
    obtain⟨u,v,a3⟩:=a3;simp only[ZM,ZN,or_false] at hb
    rcases hb with rfl | rfl | rfl | rfl | rfl
    ·exact⟨_,a1⟩
    ·exact⟨_,a2⟩
    ·exact⟨_,a3⟩
    ·exact a4.ob.imp λ_ h=>h.1
    ·exact a5.ob.imp λ_ h=>h.1
   exact hne c (XD ho)
  rw[Zt hbT];exact(hf c hb).1
 done:=by
  intro X hP hw hK hc i WZ s σ H E I hf st hg;subst hP hw hK;obtain⟨xs,ys,hq1,hq2,hlen,hi⟩:=hg;obtain⟨its1,rv1,p1⟩:=I.sqX hq1;obtain⟨its2,rv2,p2⟩:=I.sqX hq2;obtain⟨a1,a2,a3,a4,a5⟩:=st;have hn1:its1.toArray.size=xs.length:=by rw[XJ,rv1.length]
  have hn2:its2.toArray.size=xs.length:=by rw[XJ,<-rv2.length,hlen]
  have D1:=Tc (prog:=X.prog) (w:=X.w) (A:=X.A.in1) z (I.ok.hd hc) k l1 (XH h1) its1.toArray;have D2:=Tc (prog:=X.prog) (w:=X.w) (A:=X.A.in1) b (I.ok.hd hc) (k+1) l2 (XH (BX h2)) its2.toArray;rw[hn1] at D1;rw[hn2] at D2;subst hi;have W:=A1 D1 D2 (Nf h1 h2);have sub:∀c,c∈[k+4,k+3,k,k+1]->c∈[k+4,k+2,k+3,k,k+1]:=λc hc=>by
   simp only[ZM,ZN,or_false] at hc |-
   rcases hc with z | z | z | z<;>simp[z]
  refine W.done s _ _ ⟨a1,a2,a3,⟨a4,p1⟩,⟨a5,p2⟩⟩ λh' tk kk=>⟨FL,?_⟩;exact I.step (g':=s.gens) (d':=s.drawn) (ch:=[k+4,k+3,k,k+1]) (λc hb=>let ⟨f0,f1,f2,f3,f4,f5⟩:=hf c (sub c hb);⟨f3,f1,f4,f5⟩) (λc o _ _ hc q _=>kk c o hc q) (λc o _ _ hc q _=>⟨o.slots,kk c o hc q⟩) (λc o _ _ n=>n) (λc o hc q=>⟨o,kk c o hc q⟩)
    (λ_ _ q=>q) (λ_ _ _ q=>q) (λc ps q=>⟨#[],by rw[q];simp⟩) (λm hm=>let ⟨o,es,ep,ho,r⟩:=hm;⟨o,es,ep,kk _ o (λz=>(hf _ (sub _ z)).2.1 FL) ho,r⟩)
    (λc u q=>(I.hok c u q).stay (λd v hd r=>kk d v (λz=>by
     rcases hd with rfl | hd
     ·rw[(hf _ (sub _ z)).1] at q;cases q
     ·rw[(hf _ (sub _ z)).1] at hd;cases hd) r) (λ_ r=>r) λ_ _ r=>r) I.bare
 self:=λA i s Q E st h=>wpAny_pyIter_zip st.1 h
section
variable {X:Cx}{elts:List WW}{ek:Nat}{epos:Pos}
def dM (K:WY)(ta:TA):TI:=λσ H R=>ta σ H λvs H1=>∃(z b:Bool) (l1 l2:WP) (xs ys:List V),vs=[.ref l1,.ref l2]/\Ec z K H1 l1 xs/\Ec b K H1 l2 ys/\R (cF z b K l1 l2) H1
def mz {a c:WW}{p pos:Pos}(hg:Gl X "zip")(hm:X.mg "zip"=none)(ha:PA X [a,c] ta)(hs:autoParam (starEach [a,c] X.env=(false,eval a X.env)::starEach [c] X.env) QzR)(hp:autoParam ((backTo pos (starEach [c] X.env)).any (·.1)=false) QzR)(hb:autoParam (bootBuiltins "zip"=some (.type "zip")) QzK):
  PI X (.Tuple elts ek epos) (.Call (.Name "zip" p) [a,c] [] pos) (dM X.K ta):=by
 intro WZ s σ H R I h;refine Call_ (Wm I hg hm hb (BF (Jy (ha pos WZ s σ H _ I h) λus s1 ⟨vs,H1,I1,r1,q1⟩=>?_) hs hp));obtain⟨z,b,l1,l2,xs,ys,rfl,hq1,hq2,q⟩:=q1;obtain⟨u,v,rfl,ru,rv⟩:=r1.two
 cases ru
 cases rv
 obtain⟨its1,rv1,p1⟩:=I1.sqX hq1;obtain⟨its2,rv2,p2⟩:=I1.sqX hq2;have fin:∀h2,pR s1.heap h2 (cX z) l1 (cX b) l2->wpAny (model X.prog X.w) X.A (pyIter (.ref (s1.heap.objs.size+4))) (fG X WZ σ (.Tuple elts ek epos) R) X.xe {s1 with heap:=h2}:=λh2 N=>by
  refine wpAny_pyIter_zip (s:={s1 with heap:=h2}) N.zip ?_;refine⟨_,_,_,_,H1,FL,I1.kept (t':=s1.toks) N.keep,ua z b p1.lt p2.lt,⟨N.zip,N.its,⟨_,_,N.own⟩,?_,?_⟩,λc hc=>?_,q⟩
  ·cases z
   ·exact⟨_,N.i1,FL,FL⟩
   ·exact⟨_,N.i1,FL,FL⟩
  ·cases b
   ·exact⟨_,N.i2,FL,FL⟩
   ·exact⟨_,N.i2,FL,FL⟩
  ·have e:s1.heap.objs.size<=c:=by
    simp only[ZM,ZN,or_false] at hc
    rcases hc with rfl | rfl | rfl | rfl | rfl
    ·exact BG _ _
    ·exact BG _ _
    ·exact BG _ _
    ·exact XE _
    ·exact BG _ _
   exact I1.fpOk e (I1.hok.fresh e)
 exact Rz z b p1 p2 fin
end
section
variable {X:Cx}
def yO (bs:List Bool):((List.range bs.length).any λi=>(bs[i]?).getD false)=bs.any id:=by
 rw[Bool.eq_iff_iff,DA,DA];constructor
 ·rintro⟨i,hi,h⟩;have hi':=DC.mp hi;exact⟨bs[i],List.getElem_mem hi',by simpa[hi'] using h⟩
 ·rintro⟨x,hx,h⟩;obtain⟨i,hi,rfl⟩:=List.mem_iff_getElem.mp hx;exact⟨i,List.mem_range.mpr hi,by simpa[hi] using h⟩
def wR (hc:X.calm=true):Wy X (.builtin "any") (λxs H Q=>∃(p:WP) (bs:List Bool),xs=[.ref p]/\J9 X.K H p (bs.map V.bl)/\Q (.bl (bs.any id)) H):=by
 intro WZ s σ H xs us Q I r h;obtain⟨p,bs,rfl,hq,q⟩:=h;obtain⟨u,rfl,ru⟩:=Qh r
 cases ru
 obtain⟨its,rv,pl,hz⟩:=I.list hq;have hl:=pl.isList;have hlt:p<s.heap.objs.size:=by obtain⟨_,e,_⟩:=hl;exact XD e
 have hlen:its.length=bs.length:=by have:=rv.length;simp at this;omega
 refine call_any_walk (wpAny_pyIter_list hl ?_);refine⟨s.heap.objs.size,[s.heap.objs.size,p],[s.heap.objs.size],its.toArray.size,_,_,λi=>(bs[i]?).getD false,FL,Walks.list (A:=X.A.in1) (I.ok.hd hc) _ p (XH hlt) its.toArray,
  ⟨⟨_,XF _ FL,FL,FL⟩,hl.push _⟩,λi v s' Q' E' hP hQ=>?_,λh' tk hk=>?_⟩
 ·have hv:its[i]?=some v:=by simpa using hP
  have hi:i<its.length:=(BB.mp hv).1;have hb:(bs.map V.bl)[i]?=some (.bl bs[i]):=by simp[show i<bs.length by omega]
  obtain⟨u,hu,ru⟩:=rv.get hb;rw[hv] at hu;cases hu
  cases ru
  have e:(bs[i]?).getD false=bs[i]:=by simp[show i<bs.length by omega]
  have hQ2:Q' ((bs[i]?).getD false) s':=hQ;rw[e] at hQ2;exact wpAny_truthy_bool hQ2
 ·have e:((List.range its.toArray.size).any λi=>(bs[i]?).getD false)=bs.any id:=by
   rw[XJ,hlen];exact yO bs
  rw[e];refine⟨.bl (bs.any id),H,I.kept λb o x=>hk b o (λhm=>?_) (XC _ x),FL,q⟩;have:=XQ.mp hm;subst this;exact BL _ (XD x)
end
section
variable {prog:WO}{w:WN}{K:Type}[DecidableEq K]{knd:KeyKind prog w K}
end
end L2
namespace WL
open PySem PySem.Spec PyProof.Rows L2
section
variable {X:Cx}{e o a b f:WW}{we wo wa wb wi wd:WE}{wA:WA}{p p2 pos pos2 apos cpos:Pos}
def kB:bootBuiltins "any"=some (.builtin "any"):=by decide+kernel
def Nq:bootBuiltins "dict"=some (.type "dict"):=by decide+kernel
def cr:List T->Hw->WK->Prop:=λvs C Q=>∃(a:WP) (bs:List Bool),vs=[.ref a]/\C a=some (.lst (bs.map T.bl))/\Q (.bl (bs.any id)) C
def fq (hc:X.calm=true):Nd X (.builtin "any") cr:=⟨_,wR hc,λF H C xs vs Q Q' R rs h q=>by
 obtain⟨a,bs,rfl,hx,h⟩:=h;obtain⟨x,rfl,rx⟩:=X6 rs
 cases Z1 rx
 obtain⟨ys,hy,r⟩:=R.lst hx
 cases zv r
 exact⟨a,bs,FL,J9.of hy,q _ _ H C R (Tx.refl H) Jq h⟩⟩
def gZ (kvs:List (Z0×T))(k:Z0):List (Z0×T):=kvs.filter λkv=>decide (kv.1≠k)
def cb (o i d:WE):WE:=λτ C Q χ=>o τ C (λx C1=>(∃a kvs,x=.ref a/\C1 a=some (.dic kvs))/\i τ C1 (λy C2=>d τ C2 (λz C3=>∃a kvs k,x=.ref a/\kT y=some k/\C3 a=some (.dic kvs)/\
 (∀v,Yj kvs k=some v->Q v (up C3 a (.dic (gZ kvs k))))/\(Yj kvs k=none->Q z C3)) χ) χ) χ
def oF {K:WY}:∀{ks:List (Z0×V)} {kvs:List (Z0×T)} {i:Nat} {p:Z0×V},PR K H ks kvs->ks[i]?=some p->∃q,kvs[i]?=some q/\p.1=q.1/\Jh K H p.2 q.2
 | _,_,_,_,.nil,h=>by simp at h
 | _,_,0,_,.cons a _,h=>by simp at h;subst h;exact⟨_,FL,a.1,a.2⟩
 | _,_,i+1,p,.cons _ t,h=>by
  obtain⟨q,h1,h2⟩:=oF (i:=i) (p:=p) t (by simpa using h);exact⟨q,by simpa using h1,h2⟩
def Tz (xs ys:List T):List T:=List.zipWith (λx y=>T.tup [x,y]) xs ys
def ap (a:WA):WI:=λτ C R χ=>a τ C (λvs C1=>(∃xs ys,vs=[.tup xs,.tup ys]/\xs.length=ys.length/\R (Tz xs ys) (λ_=>True) C1)\/
 (∃xs ys l,vs=[.tup xs,.ref l]/\C1 l=some (.lst ys)/\xs.length=ys.length/\R (Tz xs ys) (λC2=>C2 l=some (.lst ys)) C1)\/
 ∃xs ys k l,vs=[.ref k,.ref l]/\C1 k=some (.lst xs)/\C1 l=some (.lst ys)/\xs.length=ys.length/\R (Tz xs ys) (λC2=>C2 k=some (.lst xs)/\C2 l=some (.lst ys)) C1) χ
def Cb {xs ys:List T}{i:Nat}(hx:xs[i]?=some x)(hy:ys[i]?=some y):(Tz xs ys)[i]?=some (.tup [x,y]):=by
 unfold Tz;rw[List.getElem?_zipWith,hx,hy]
def je {K:WY}{F H0:Hp}(z b:Bool){l1 l2:WP}{xs ys:List T}{ok:Hw->Prop}(hl:xs.length=ys.length)(h1:∀H C,Rl K F H C->Tx H0 H->ok C->∃ys1,Ec z K H l1 ys1/\Reps K H ys1 xs)
  (h2:∀H C,Rl K F H C->Tx H0 H->ok C->∃ys2,Ec b K H l2 ys2/\Reps K H ys2 ys):Oh K F H0 (cF z b K l1 l2) (Tz xs ys) ok:=λi H C R t hok=>by
 obtain⟨ys1,q1,r1'⟩:=h1 H C R t hok;obtain⟨ys2,q2,r2⟩:=h2 H C R t hok;have hlz:(Tz xs ys).length=xs.length:=by unfold Tz;simp;omega
 have e1:=r1'.length;have e2:=r2.length;refine⟨λhi=>?_,λhi=>⟨ys1,ys2,q1,q2,by omega,by omega⟩⟩;rw[hlz] at hi;refine⟨⟨ys1,ys2,q1,q2,by omega,by omega⟩,λx H' h=>?_⟩;obtain⟨u,v,Tt,hu,hv,rfl,hT,rfl⟩:=h;obtain⟨x,hx,rx⟩:=r1'.get' (hu ys1 q1);obtain⟨y,hy,ry⟩:=r2.get' (hv ys2 q2);exact⟨_,Cb hx hy,R.hid hT,Tx.new hT,Ju (Uz.of Z3) (Yh (rx.tx (Tx.new hT)) (Yh (ry.tx (Tx.new hT)) Yv))⟩
def ku {elts:List WW}{ek:Nat}{epos:Pos}(hg:Gl X "zip")(hm:X.mg "zip"=none)(ha:yu X [a,b] wA)(hs:autoParam (starEach [a,b] X.env=(false,eval a X.env)::starEach [b] X.env) QzR)(hp:autoParam ((backTo pos (starEach [b] X.env)).any (·.1)=false) QzR):
  pW X (.Tuple elts ek epos) (.Call (.Name "zip" p) [a,b] [] pos) (ap wA):=by
 obtain⟨t,p1,s⟩:=ha;refine⟨_,mz hg hm p1 hs hp,λF H C σ τ R R' χ Rr S h q=>?_⟩;refine s F H C σ τ _ _ χ Rr S h λxs vs H1 C1 R1 t1 rs h1=>?_
 rcases h1 with⟨ts,us,rfl,hl,h1⟩ | ⟨ts,us,l,rfl,hC,hl,h1⟩ | ⟨ts,us,k,l,rfl,hB,hC,hl,h1⟩<;>obtain⟨x,y,rfl,rx,ry⟩:=yW rs
 ·obtain⟨l1,y1,rfl,q1,r1⟩:=Yi rx;obtain⟨l2,y2,rfl,q2,r2⟩:=Yi ry;exact⟨false,false,l1,l2,y1,y2,FL,q1,q2,q _ H1 _ _ C1 R1 t1 (λF'=>je _ _ hl (λH C _ t _=>⟨y1,t.sqt q1,r1.tx t⟩) λH C _ t _=>⟨y2,t.sqt q2,r2.tx t⟩) h1⟩
 ·obtain⟨l1,y1,rfl,q1,r1⟩:=Yi rx
  cases Z1 ry
  obtain⟨y2,hy,r2⟩:=R1.lst hC;refine⟨false,true,l1,l,y1,y2,FL,q1,J9.of hy,q _ H1 _ _ C1 R1 t1 (λF'=>je _ _ hl (λH C _ t _=>⟨y1,t.sqt q1,r1.tx t⟩) λH C R' t hok=>?_) h1⟩;obtain⟨y3,hy3,r3⟩:=R'.lst hok;exact⟨y3,J9.of hy3,r3⟩
 ·cases Z1 rx
  cases Z1 ry
  obtain⟨y1,hx,r1⟩:=R1.lst hB;obtain⟨y2,hy,r2⟩:=R1.lst hC;refine⟨true,true,k,l,y1,y2,FL,J9.of hx,J9.of hy,q _ H1 _ _ C1 R1 t1 (λF'=>je _ _ hl (λH C R' t hok=>?_) λH C R' t hok=>?_) h1⟩
  ·obtain⟨y3,hy3,r3⟩:=R'.lst hok.1;exact⟨y3,J9.of hy3,r3⟩
  ·obtain⟨y3,hy3,r3⟩:=R'.lst hok.2;exact⟨y3,J9.of hy3,r3⟩
end
end WL
namespace L2
open PySem PySem.Spec PyProof.Rows
section
variable {X:Cx}{WZ:List (WP×Obj)}{σ:St}{H:Hp}{s:WR}
def Zy.freeze (I:Zy X WZ σ H s)(hd:H d=some (.dK ks))(ho:s.heap.get? d=some o):Zy X WZ σ (Yz H d (.frz o (.dK ks))) s:=by
 have ne:∀{b:WP} {u:HO},H b=some u->u≠.dK ks->b≠d:=λq n e=>by subst e;rw[hd] at q;exact n (YH q).symm
 have nn:∀{b:WP},H b=none->b≠d:=λq e=>by subst e;rw[hd] at q;cases q
 refine I.step (h':=s.heap) (g':=s.gens) (d':=s.drawn) (t':=s.toks) (ch:=[]) (λ_ z=>nomatch z) (λb o _ _ _ e _=>e) (λb o _ _ _ e _=>⟨o.slots,e⟩) (λb o _ _ n=>by rw[Zt (nn n)];exact n) (λb o _ e=>⟨o,e⟩)
  (λb xs q=>by rw[Zt (ne q (λz=>nomatch z))];exact q) (λb o u q=>by rw[Zt (ne q (λz=>nomatch z))];exact q) (λb ps q=>⟨#[],by rw[Zt (ne q (λz=>nomatch z)),q];simp⟩) (λm hm=>hm) (λb u q=>?_) I.bare
 have ow:∀{a c:WP},H c=some (.own a)->Yz H d (.frz o (.dK ks)) c=some (.own a):=λq=>by rw[Zt (ne q (λz=>nomatch z))];exact q
 have tu:∀{c:WP} {xs:List V},H c=some (.tup xs)->Yz H d (.frz o (.dK ks)) c=some (.tup xs):=λq=>by rw[Zt (ne q (λz=>nomatch z))];exact q
 by_cases hb:b=d
 ·subst hb;rw[Z3] at q;cases q;exact⟨ho,(I.hok b _ hd).stay (λc v _ r=>r) (λc r=>ow r) λc xs r=>tu r⟩
 ·rw[Zt hb] at q;exact(I.hok b u q).stay (λc v _ r=>r) (λc r=>ow r) λc xs r=>tu r
end
def gL {k:Z0}(h:(Yq P w).is k u=true):Ye (kV k) u:=by
 rcases Y9 (show Ix k u=true from h) with⟨i,t,rfl,rfl⟩ | ⟨x,t,rfl,rfl⟩
 ·exact⟨t,FL⟩
 ·exact⟨t,FL⟩
def aK (o:Obj)(d:WP)(ks:List (Z0×V)):It:=
 ⟨λi H=>H d=some (.frz o (.dK ks))/\i<ks.length,λi H x H'=>H'=H/\∃kv,ks[i]?=some kv/\x=kV kv.1,λi H=>H d=some (.frz o (.dK ks))/\i=ks.length⟩
section
variable {X:Cx}{tg e:WW}
def aw (td:TE):TI:=λσ H R=>td σ H λx H1=>∃d ks,x=.ref d/\Rd H1 d (.dK ks)/\∀o,(∀o',H1 d=some (.frz o' (.dK ks))->o'=o)->R (aK o d ks) (Yz H1 d (.frz o (.dK ks)))
end
end L2
namespace WL
open PySem PySem.Spec PyProof.Rows L2
def Eh (C:Hw)(a:WP)(kvs:List (Z0×T)):Prop:=C a=some (.dic kvs)\/C a=some (.fdic kvs)
def Rl.rd {K:WY}{F H:Hp}(R:Rl K F H C)(h:Eh C a kvs):∃ks,Rd H a (.dK ks)/\PR K H ks kvs:=by
 rcases h with h | h
 ·obtain⟨ks,hH,pr⟩:=R.dic h;exact⟨ks,.inl hH,pr⟩
 ·exact R.obj a _ h
def nV {K:WY}(k:Z0):Jh K H (kV k) (tK k):=by
 cases k with
 | inl i=>exact Ja
 | inr x=>exact Rh
section
variable {X:Cx}{e o a b c f i:WW}{we wo wa wb wi wd:WE}{wA:WA}{p p2 pos pos2 apos cpos:Pos}{tg:WW}
def A2:W2:=λx y C Q=>∃a kvs k v,x=.ref a/\kT y=some k/\Eh C a kvs/\Yj kvs k=some v/\Q v C
def vV (neg:Bool):W2:=λy x C Q=>∃a kvs k,x=.ref a/\kT y=some k/\Eh C a kvs/\Q (.bl (if neg then !(Yj kvs k).isSome else(Yj kvs k).isSome)) C
abbrev en:W2:=vV false
abbrev rK:W2:=vV true
def kj (o i d:WE):WE:=λτ C Q χ=>o τ C (λx C1=>(∃a kvs,x=.ref a/\Eh C1 a kvs)/\i τ C1 (λy C2=>d τ C2 (λz C3=>∃a kvs k,x=.ref a/\kT y=some k/\Eh C3 a kvs/\Q ((Yj kvs k).getD z) C3) χ) χ) χ
def X9 (hu:X.A.units+150<cLine)(ha:Js X a wa)(hb:Js X b wb)(hs:kS b):Js X (.Subscript a b pos) (Yk A2 wa wb):=by
 obtain⟨ta,p1,s1⟩:=ha;obtain⟨tb,p2,s2⟩:=hb;refine⟨_,qw (by omega) p1 p2 hs,λF H C σ τ Q Q' χ R S h q=>?_⟩;refine s1 F H C σ τ _ _ χ R S h λx v H1 C1 R1 t1 rx h1=>?_;refine s2 F H1 C1 σ τ _ _ χ R1 (S.tx t1) h1 λy u H2 C2 R2 t2 ry h2=>?_;obtain⟨l,kvs,k,w,rfl,hk,hC,hg,h2⟩:=h2
 cases Z1 rx
 obtain⟨ks,hH,pr⟩:=R2.rd hC;obtain⟨z,hz,rz⟩:=(PR.get pr k).2 w hg
 cases Lp hk ry
 exact⟨l,z,FL,.inl ⟨ks,k,hH,FL,hz.symm⟩,q _ _ H2 C2 R2 (t1.trans t2) rz h2⟩
def uQ (neg:Bool)(hu:X.A.units+150<cLine):Hf X (compareOp (if neg then .NotIn else .In)) (vV neg):=⟨_,Bh,λF H C y x u v Q Q' R ry rx h q WZ s σ u' v' I r1 r2=>by
 obtain⟨l,kvs,k,rfl,hk,hC,h⟩:=h
 cases Z1 rx
 cases r2
 obtain⟨ks,hH,pr⟩:=R.rd hC
 cases Lp hk ry
 have e:(Pr ks k).isSome=(Yj kvs k).isSome:=by
  cases hg:Yj kvs k with
  | none=>rw[(PR.get pr k).1 hg];rfl
  | some w=>obtain⟨z,hz,_⟩:=(PR.get pr k).2 w hg;rw[hz];rfl
 have fin:=q _ _ H C R (Tx.refl H) Jq h;rw[<-e] at fin;have g:E6 H l (kV k) (Pr ks k):=.inl ⟨ks,k,hH,FL,FL⟩
 cases neg with
 | true=>exact ph (by omega) I g r1 λs' I'=>⟨.bl _,H,I',FL,fin⟩
 | false=>exact ci (by omega) I g r1 λs' I'=>⟨.bl _,H,I',FL,fin⟩⟩
def uR (hu:X.A.units+150<cLine):Hf X (compareOp .In) en:=uQ false hu
def uP (hu:X.A.units+150<cLine):Hf X (compareOp .NotIn) rK:=uQ true hu
def qZ (hu:X.A.units+150<cLine)(ho:Js X o wo)(he:Js X e wi)(hf:Js X f wd)(m:M2 X o "get" apos e f cpos):Js X (.Call (.Attribute o "get" apos) [e,f] [] cpos) (kj wo wi wd):=by
 obtain⟨ta,p1,s1⟩:=ho;obtain⟨tb,p2,s2⟩:=he;obtain⟨tc,p3,s3⟩:=hf;refine⟨_,uM (by omega) p1 p2 p3 m,λF H C σ τ Q Q' χ R S h q=>?_⟩;refine s1 F H C σ τ _ _ χ R S h λx v H1 C1 R1 t1 rx h1=>?_;obtain⟨⟨l,kvs0,rfl,hC0⟩,h1⟩:=h1
 cases Z1 rx
 obtain⟨ks0,hH0,_⟩:=R1.rd hC0;refine⟨l,FL,.inl ⟨ks0,hH0⟩,?_⟩;refine s2 F H1 C1 σ τ _ _ χ R1 (S.tx t1) h1 λy u H2 C2 R2 t2 ry h2=>?_;refine s3 F H2 C2 σ τ _ _ χ R2 (S.tx (t1.trans t2)) h2 λz w H3 C3 R3 t3 rz h3=>?_;obtain⟨l',kvs,k,e',hk,hC,h3⟩:=h3
 cases e'
 obtain⟨ks,hH,pr⟩:=R3.rd hC
 cases Lp hk ry
 exact⟨_,.inl ⟨ks,k,hH,FL,FL⟩,q _ _ H3 C3 R3 ((t1.trans t2).trans t3) (tQ pr k rz) h3⟩
def jw:Wy X (.type "dict") (λxs H Q=>∃(p:WP) (kvs:List (Z0×V)),xs=[.ref p]/\Rd H p (.dK kvs)/\∀r,H r=none->Q (.ref r) (Yz H r (.dK kvs))):=by
 intro WZ s σ H xs us Q I r h;obtain⟨p,kvs,rfl,hp,q⟩:=h;obtain⟨u,rfl,ru⟩:=Qh r
 cases ru
 exact sy I hp λr s2 hr I2=>⟨.ref r,_,I2,FL,q r hr⟩
def sL:List T->Hw->WK->Prop:=λvs C Q=>∃(a:WP) (kvs:List (Z0×T)),vs=[.ref a]/\Eh C a kvs/\∀p,C p=none->Q (.ref p) (up C p (.dic kvs))
def Nr:Nd X (.type "dict") sL:=⟨_,jw,λF H C xs vs Q Q' R rs h q=>by
 obtain⟨a,kvs,rfl,hC,h⟩:=h;obtain⟨x,rfl,rx⟩:=X6 rs
 cases Z1 rx
 obtain⟨ks,hH,pr⟩:=R.rd hC;exact⟨a,ks,FL,hH,λr hr=>q _ _ _ _ (R.newD hr pr) (Tx.new hr) Y6 (h r (R.free hr))⟩⟩
def Rl.frz {K:WY}{F H:Hp}(R:Rl K F H C){o:Obj}(hC:Eh C d kvs)(hH:Rd H d (.dK ks))(ho:∀o',H d=some (.frz o' (.dK ks))->o'=o)(pr:PR K H ks kvs):
  Rl K F (Yz H d (.frz o (.dK ks))) (up C d (.fdic kvs))/\Tx H (Yz H d (.frz o (.dK ks))):=by
 have t:Tx H (Yz H d (.frz o (.dK ks))):=λb u q st=>by
  by_cases e:b=d
  ·subst e
   rcases hH with h | ⟨o',h⟩
   ·rw[h] at q;cases q;exact st.elim
   ·rw[h] at q
    cases q
    rw[Z3,ho o' h]
  ·rw[Zt e];exact q
 refine⟨⟨λa v e=>?_,λa v e=>?_⟩,t⟩
 ·by_cases q:a=d
  ·subst q;rw[Ze] at e;cases e;exact⟨ks,.inr ⟨o,Z3⟩,Lr t pr⟩
  ·rw[Zg q] at e;exact(R.obj a v e).stay t (Zt q)
 ·have z:=R.frm a v e;have q:a≠d:=λy=>by
   subst y
   rcases hC with h | h<;>(rw[h] at z;cases z.2)
  rw[Zt q,Zg q];exact z
end
section
variable {X:Cx}{e o:WW}{we wo wi:WE}{apos cpos:Pos}
end
def U8 (f:Str)(v:T):List (Str×T)->List (Str×T)
 | []=>[(f,v)]
 | (g,x)::r=>if g=f then(g,v)::r else(g,x)::U8 f v r
section
variable {K:WY}{H:Hp}
def jN {f:Str}(q:Jh K H y v):∀{ks:List (Str×V)} {fs:List (Str×T)},PR K H ks fs->PR K H (Tl f y ks) (U8 f v fs)
 | [],[],_=>.cons ⟨FL,q⟩ .nil
 | (k,x)::ks,(g,z)::fs,.cons h r=>by
  obtain⟨e,q'⟩:=h
  cases e
  show PR K H (if k=f then(k,y)::ks else(k,x)::Tl f y ks) (if k=f then(k,v)::fs else(k,z)::U8 f v fs);by_cases c:k=f
  ·rw[XY c,XY c];exact .cons ⟨FL,q⟩ r
  ·rw[XX c,XX c];exact .cons ⟨FL,q'⟩ (jN q r)
def Hs {f:Str}:∀{ks:List (Str×V)} {fs:List (Str×T)},PR K H ks fs->(∀v,fs.lookup f=some v->∃y,ks.lookup f=some y/\Jh K H y v)/\(fs.lookup f=none->ks.lookup f=none)
 | [],[],_=>⟨λv h=>by simp at h,λ_=>rfl⟩
 | (k,x)::ks,(g,z)::fs,.cons h r=>by
  obtain⟨e,q'⟩:=h
  cases e
  by_cases c:f=k
  ·have hb:(f==k)=true:=beq_iff_eq.mpr c;simp only[List.lookup,hb];exact⟨λv h=>by cases h;exact⟨x,FL,q'⟩,λh=>by cases h⟩
  ·have hb:(f==k)=false:=beq_eq_false_iff_ne.mpr c;simp only[List.lookup,hb];exact Hs r
def uD:∀{κ:Type} {ks:List (κ×V)} {fs:List (κ×T)},PR K H ks fs->ks.length=fs.length
 | _,[],[],_=>rfl
 | _,_::_,_::_,.cons _ r=>by rw[YF,YF,uD r]
end
abbrev Eg (K:WY)(cn:Str)(Cl:WP):Prop:=W.nsIn K mainGlobals cn=some (some (.ref Cl))
structure KF (K:W.Frag)(f cn:Str):Prop where
 ex:∃Cl,Eg K cn Cl/\jB K Cl/\R7 K Cl f
def KF.at {K:WY}{f cn:Str}(h:KF K f cn){Cl:WP}(c:Eg K cn Cl):jB K Cl/\R7 K Cl f:=by
 obtain⟨C2,h1,h2⟩:=h.ex;have e:some (some (Value.ref C2))=some (some (Value.ref Cl)):=h1.symm.trans c
 cases e
 exact h2
def dZ (cs:List Str)(f:Str)(o:WE):WE:=λτ C Q χ=>o τ C (λx C1=>∃a cn fs v,x=.ref a/\C1 a=some (.ins cn fs)/\cn∈cs/\fs.lookup f=some v/\Q v C1) χ
def ay (cs:List Str)(f:Str)(o:WE):WG:=λv τ C Q χ=>o τ C (λx C1=>∃a cn fs,x=.ref a/\C1 a=some (.ins cn fs)/\cn∈cs/\fs.length<1000/\Q τ (up C1 a (.ins cn (U8 f v fs)))) χ
def Rl.ins {K:WY}{F H:Hp}(R:Rl K F H C)(h:C a=some (.ins cn fs)):∃Cl dx ks,Eg K cn Cl/\H a=some (.ins Cl dx ks)/\PR K H ks fs:=R.obj a _ h
section
variable {X:Cx}{e o value:WW}{we wo wv:WE}{f:Str}{cs:List Str}{pos pos' apos cpos:Pos}
def Sf (hk:∀cn∈cs,KF X.K f cn)(he:Js X e we)(hb:autoParam (attributeBase e f X.env (eval e X.env)=eval e X.env) QzR):Js X (.Attribute e f pos) (dZ cs f we):=by
 obtain⟨ta,p1,s1⟩:=he;refine⟨_,mK p1 hb,λF H C σ τ Q Q' χ R S h q=>?_⟩;refine s1 F H C σ τ _ _ χ R S h λx v H1 C1 R1 t1 rx h1=>?_;obtain⟨a,cn,fs,v',rfl,hC,hcn,hl,h1⟩:=h1
 cases Z1 rx
 obtain⟨Cl,dx,ks,hc,hH,pr⟩:=R1.ins hC;obtain⟨y,hy,ry⟩:=(Hs pr).1 v' hl;obtain⟨c1,c2⟩:=(hk cn hcn).at hc;exact⟨a,Cl,dx,ks,y,FL,hH,c1,c2,hy,q _ _ H1 C1 R1 t1 ry h1⟩
def sr (hk:∀cn∈cs,KF X.K f cn)(ho:Js X o wo)(hv:Js X value wv)(hs:autoParam (swapsWith value (some (.Attribute o f pos')) pos.line X.env=pure false) QzR):wY X (.Assign [.Attribute o f pos'] value pos) (Lo wv (ay cs f wo)):=by
 obtain⟨ta,p1,s1⟩:=ho;obtain⟨tv,p2,s2⟩:=hv;refine⟨_,mv p1 p2 hs,λF H C σ τ D D' R S h d=>?_⟩;refine s2 F H C σ τ _ _ D'.xc R S h λy v H1 C1 R1 t1 ry h1=>?_;refine s1 F H1 C1 σ τ _ _ D'.xc R1 (S.tx t1) h1 λx u H2 C2 R2 t2 rx h2=>?_;obtain⟨a,cn,fs,rfl,hC,hcn,hl,h2⟩:=h2
 cases Z1 rx
 obtain⟨Cl,dx,ks,hc,hH,pr⟩:=R2.ins hC;obtain⟨c1,c2⟩:=(hk cn hcn).at hc;have tp:Tx H2 (Yz H2 a (.ins Cl dx (Tl f y ks))):=Tx.put hH (λz=>z);obtain⟨R3,t3⟩:=R2.put (u:=.ins Cl dx (Tl f y ks)) (o':=.ins cn (U8 f v fs)) hC ⟨Cl,dx,_,hc,Z3,Lr tp (jN (ry.tx t2) pr)⟩;exact⟨a,Cl,dx,ks,FL,hH,c1,c2,by rw[uD pr];exact hl,d.nx _ _ _ _ R3 ((t1.trans t2).trans t3) (S.tx ((t1.trans t2).trans t3)) h2⟩
end
def uh (MT:WP->L2.Sp->Prop)(m:Str)(E:XK)(ta:TE)(t:TA):TE:=λσ H Q=>ta σ H λx H1=>∃a C dx fs sp,x=.ref a/\H1 a=some (.ins C dx fs)/\MT C sp/\fs.lookup m=none/\t σ H1 λvs H2=>sp (x::vs) H2 Q E
section
variable {X:Cx}{k:Nat}{E:XK}{m:Str}{p pos apos:Pos}{e o:WW}{es:List WW}{ta:TE}{t:TA}{MT:WP->L2.Sp->Prop}
def cC (X:Cx)(k:Nat)(m:Str)(MT:WP->L2.Sp->Prop):Prop:=∀C sp,MT C sp->∃f fd ps,jB X.K C/\vb X.K C m f/\U0 X.prog X.w X.K X.mg X.base CX0 k f fd ps sp/\Wz X.K fd ps []
def uI {pl:Sem Bool}(he:PE X o ta)(hM:cC X k m MT)(hr:Wv k X.A)(ha:PA X (e::es) t)
  (hst:autoParam (starEach (e::es) X.env=(false,eval e X.env)::starEach es X.env) QzR) (hpl:autoParam ((backTo pos (starEach es X.env)).any (·.1)=false) QzR)
  (ht:autoParam (eval (.Call (.Attribute o m apos) (e::es) [] pos) X.env=(do
   let ov <-eval o X.env
   standAt apos.atName
   let (f,first) <-holding [ov] (getMethod ov m pl)
   callWith pos f first (backTo pos (starEach (e::es) X.env)) (backToKw pos (keywordEach [] X.env)))) QzR):
  PE X (.Call (.Attribute o m apos) (e::es) [] pos) (uh MT m E0 ta t):=by
 intro WZ s σ H Q I h;refine W.methodCall_KW (pl:=pl) (Jy (he WZ s σ H _ I h) λu s1 ⟨x,H1,I1,rx,a,C,dx,fs,sp,ex,ea,hmt,l,q⟩=>?_) ht;subst ex;obtain rfl:u=Value.ref a:=rx;obtain⟨f,fd,ps,c,hm,F,hb⟩:=hM C sp hmt;refine Fk I1 ea c hm l ?_;refine W.callWith_K (first:=[.ref a]) (h₀:=X.base) I.ok.mod.kin hm.kp (Jy (ha pos WZ s1 σ H1 _ I1 q) λus s2 ⟨vs,H2,I2,r,q2⟩=>⟨I2.kIn,?_⟩) hst hpl;exact yN (us:=.ref a::us) (vs:=.ref a::vs) (dvs:=[]) F hr hb .nil jO I2 (.cons FL r) (by rw[YK];exact q2)
def xX {pl:Sem Bool}(he:PE X o ta)(hM:cC X k m MT)(hr:Wv k X.A)
  (ht:autoParam (eval (.Call (.Attribute o m apos) [] [] pos) X.env=(do
   let ov <-eval o X.env
   standAt apos.atName
   let (f,first) <-holding [ov] (getMethod ov m pl)
   callWith pos f first (backTo pos (starEach [] X.env)) (backToKw pos (keywordEach [] X.env)))) QzR):
  PE X (.Call (.Attribute o m apos) [] [] pos) (uh MT m E0 ta ug):=by
 intro WZ s σ H Q I h;refine W.methodCall_KW (pl:=pl) (Jy (he WZ s σ H _ I h) λu s1 ⟨x,H1,I1,rx,a,C,dx,fs,sp,ex,ea,hmt,l,q⟩=>?_) ht;subst ex;obtain rfl:u=Value.ref a:=rx;obtain⟨f,fd,ps,c,hm,F,hb⟩:=hM C sp hmt;refine Fk I1 ea c hm l ?_;exact W.callWith_K0 (first:=[.ref a]) I1.kIn hm.kp (yN (us:=[.ref a]) (vs:=[.ref a]) (dvs:=[]) F hr hb .nil jO I1 (.cons FL .nil) q)
end
def Cm (P:WO)(w:WN)(K:WY)(mg:Str->Option WQ)(base:WU)(n:Nat)(cn m:Str)(ps:List Str)(sp:L2.Sp):Prop:=
 ∃Cl f fd,Eg K cn Cl/\jB K Cl/\vb K Cl m f/\U0 P w K mg base CX0 n f fd ps sp/\Wz K fd ps []
def ib (P:WO)(w:WN)(K:WY)(mg:Str->Option WQ)(base:WU)(n:Nat)(pr:List Df)(m:Str)(tb:List (Str×Nat)):Prop:=∀cn i,tb.lookup cn=some i->∃ps,Cm P w K mg base n cn m ps (spW K pr n i)
section
variable {P:WO}{w:WN}{K:WY}{mg:Str->Option WQ}{base:WU}{n:Nat}{pr:List Df}{m:Str}{tb:List (Str×Nat)}
def Yo:ib P w K mg base n pr m []:=λcn i h=>by simp at h
def Ya (h:Cm P w K mg base n cn m ps (spW K pr n i))(r:ib P w K mg base n pr m tb):ib P w K mg base n pr m ((cn,i)::tb):=λc j e=>by
 by_cases q:c=cn
 ·have hb:(c==cn)=true:=beq_iff_eq.mpr q;simp only[List.lookup,hb] at e
  cases e;subst q;exact⟨ps,h⟩
 ·have hb:(c==cn)=false:=beq_eq_false_iff_ne.mpr q;simp only[List.lookup,hb] at e;exact r c j e
end
def Kh (P:Calls)(tb:List (Str×Nat))(m:Str)(o:WE)(a:WA):WE:=λτ C Q χ=>o τ C (λx C1=>∃ad cn fs i,x=.ref ad/\C1 ad=some (.ins cn fs)/\tb.lookup cn=some i/\fs.lookup m=none/\a τ C1 (λvs C2=>P i (x::vs) C2 Q χ) χ) χ
section
variable {X:Cx}{k:Nat}{m:Str}{p pos apos:Pos}{e o:WW}{es:List WW}{wo:WE}{wA:WA}{tb:List (Str×Nat)}{pr:List Df}
def uX (T:ib X.prog X.w X.K X.mg X.base k pr m tb):cC X k m (λC sp=>∃cn i,Eg X.K cn C/\tb.lookup cn=some i/\sp=spW X.K pr k i):=λC sp h=>by
 obtain⟨cn,i,hc,hl,rfl⟩:=h;obtain⟨ps,Cl,f,fd,h1,h2,h3,h4,h5⟩:=T cn i hl;have ee:some (some (Value.ref Cl))=some (some (Value.ref C)):=h1.symm.trans hc
 cases ee
 exact⟨f,fd,ps,h2,h3,h4,h5⟩
def Y4 {pl:Sem Bool}(T:ib X.prog X.w X.K X.mg X.base k pr m tb)(hr:Wv k X.A)(ho:Js X o wo)(ha:yu X (e::es) wA)
  (hst:autoParam (starEach (e::es) X.env=(false,eval e X.env)::starEach es X.env) QzR) (hpl:autoParam ((backTo pos (starEach es X.env)).any (·.1)=false) QzR)
  (ht:autoParam (eval (.Call (.Attribute o m apos) (e::es) [] pos) X.env=(do
   let ov <-eval o X.env
   standAt apos.atName
   let (f,first) <-holding [ov] (getMethod ov m pl)
   callWith pos f first (backTo pos (starEach (e::es) X.env)) (backToKw pos (keywordEach [] X.env)))) QzR):
  Js X (.Call (.Attribute o m apos) (e::es) [] pos) (Kh (Yg pr k) tb m wo wA):=by
 obtain⟨to,p1,s1⟩:=ho;obtain⟨ta,p2,s2⟩:=ha;refine⟨_,uI (pl:=pl) p1 (uX T) hr p2 hst hpl ht,λF H C σ τ Q Q' χ R S h q=>?_⟩;refine s1 F H C σ τ _ _ χ R S h λx v H1 C1 R1 t1 rx h1=>?_;obtain⟨a,cn,fs,i,rfl,hC,hl,hm,h1⟩:=h1
 cases Z1 rx
 obtain⟨Cl,dx,ks,hc,hH,prr⟩:=R1.ins hC;refine⟨a,Cl,dx,ks,_,FL,hH,⟨cn,i,hc,hl,FL⟩,(Hs prr).2 hm,?_⟩;refine s2 F H1 C1 σ τ _ _ χ R1 (S.tx t1) h1 λxs vs H2 C2 R2 t2 rs h2=>?_;exact⟨F,C2,.ref a::vs,Q',χ,R2,Yh Y6 rs,h2,QE.at q (t1.trans t2)⟩
def Vn {pl:Sem Bool}(T:ib X.prog X.w X.K X.mg X.base k pr m tb)(hr:Wv k X.A)(ho:Js X o wo)
  (ht:autoParam (eval (.Call (.Attribute o m apos) [] [] pos) X.env=(do
   let ov <-eval o X.env
   standAt apos.atName
   let (f,first) <-holding [ov] (getMethod ov m pl)
   callWith pos f first (backTo pos (starEach [] X.env)) (backToKw pos (keywordEach [] X.env)))) QzR):
  Js X (.Call (.Attribute o m apos) [] [] pos) (Kh (Yg pr k) tb m wo Zv):=by
 obtain⟨to,p1,s1⟩:=ho;refine⟨_,xX (pl:=pl) p1 (uX T) hr ht,λF H C σ τ Q Q' χ R S h q=>?_⟩;refine s1 F H C σ τ _ _ χ R S h λx v H1 C1 R1 t1 rx h1=>?_;obtain⟨a,cn,fs,i,rfl,hC,hl,hm,h1⟩:=h1
 cases Z1 rx
 obtain⟨Cl,dx,ks,hc,hH,prr⟩:=R1.ins hC;refine⟨a,Cl,dx,ks,_,FL,hH,⟨cn,i,hc,hl,FL⟩,(Hs prr).2 hm,?_⟩;exact⟨F,C1,[.ref a],Q',χ,R1,Yh Y6 Yv,h1,QE.at q t1⟩
end
def xI (cn:Str)(i:Nat)(P:Calls):WS:=λD τ C=>∃vs,τ=vs.map some/\∀p,C p=none->P i (.ref p::vs) (up C p (.ins cn [])) (λv C2=>v=.non/\D.rt (.ref p) C2) D.xc
def Cn (P:WO)(w:WN)(K:WY)(mg:Str->Option WQ)(base:WU)(n:Nat)(pr:List Df)(cn:Str)(i j:Nat):Prop:=
 (∃ar,pr[j]?=some ⟨ar,ar,xI cn i⟩)/\∃Cl f,Eg K cn Cl/\mg cn=some (.ref Cl)/\L2.Mk K Cl f/\(n=0\/∃k fd ps,n=k+1/\U0 P w K mg base CX0 k f fd ps (spW K pr k i)/\Wz K fd ps [])
section
variable {X:Cx}{k i j:Nat}{cn:Str}{p pos:Pos}{e:WW}{es:List WW}{wA:WA}{pr:List Df}
end
def lZ {P:WO}{w:WN}{K:WY}{mg:Str->Option WQ}{base:WU}{st:WV}{f:WP}{pr:List Df}{n i:Nat}(F:j8 K x qual st f fd)(S:Z2 N ps (Zq st))(hd:pr[i]?=some d)(hn:d.n=N.length)(har:d.ar=ps.length)
  (hb:∀(cdv:WQ) (A:WM) (outer:List Env) (s:WR) (H:Hp) (E:XK),Wv n (A.deeper (envOfC qual (Zq st) s.heap.objs.size f cdv))->sZ (ym CX0 P w K mg base N qual (Zq st) f cdv A outer s H E).nox (Vm st) (d.body (Yg pr n))):
  U0 P w K mg base CX0 (n+1) f fd ps (spW K pr (n+1) i):=by
 refine F.ok S (λvs H Q E h=>?_) (λcdv A outer s H vs Q E hr h=>?_)
 ·obtain⟨F',C,vs',Q',χ,R,rs,⟨d',e1,e2,_⟩,_⟩:=h;rw[hd] at e1;cases e1;rw[rs.length,e2,har]
 ·obtain⟨F',C,vs',Q',χ,R,rs,⟨d',e1,e2,h⟩,q⟩:=h;rw[hd] at e1;cases e1;obtain⟨t,p,sm⟩:=hb cdv A outer s H E hr;refine⟨t,p,sm F' H C _ _ _ _ R (Xv.start rs N _ (by rw[rs.length,e2,hn])) h ⟨λσ τ H' C' R' t' _ h'=>q .non .non H' C' R' t' Nj h',q,λ_ _ _ _ _ _ _ z=>z.elim,λ_ _ _ _ _ _ _ z=>z.elim⟩⟩
def wH {K:WY}{f:WP}:U0 P w K mg base CX0 0 f fd ps (spW K pr 0 i):=
 ⟨λvs H Q E h=>by obtain⟨_,_,_,_,_,_,_,z,_⟩:=h;exact z.elim,λA outer s H args us vs Q E _ _ _ _ h=>by obtain⟨_,_,_,_,_,_,_,z,_⟩:=h;exact z.elim⟩
structure Kl (K:W.Frag)(mg:Str->Option Value)(cn:Str)(Cl:Addr):Prop where
 at_:Eg K cn Cl
 mg:mg cn=some (.ref Cl)
 cls:jB K Cl
def oS {K:WY}{Cl f:WP}(k:Kl K mg cn Cl)(m':vb K Cl m f)(G:U0 P w K mg base CX0 n f fd ps sp)(hb:Wz K fd ps []):Cm P w K mg base n cn m ps sp:=
 ⟨Cl,f,fd,k.at_,k.cls,m',G,hb⟩
def px {K:WY}{pr:List Df}{i j ar:Nat}{Cl f:WP}(hj:pr[j]?=some ⟨ar,ar,xI cn i⟩)(k:Kl K mg cn Cl)(M:L2.Mk K Cl f):Cn P w K mg base 0 pr cn i j:=⟨⟨ar,hj⟩,Cl,f,k.at_,k.mg,M,.inl FL⟩
def pA {K:WY}{pr:List Df}{n i j ar:Nat}{Cl f:WP}(hj:pr[j]?=some ⟨ar,ar,xI cn i⟩)(k:Kl K mg cn Cl)(M:L2.Mk K Cl f)(G:U0 P w K mg base CX0 n f fd ps (spW K pr n i))(hb:Wz K fd ps []):Cn P w K mg base (n+1) pr cn i j:=
 ⟨⟨ar,hj⟩,Cl,f,k.at_,k.mg,M,.inr ⟨n,fd,ps,FL,G,hb⟩⟩
def pB {P:WO}{w:WN}{K:WY}{base:WU}{pr:List Df}{n i j ar:Nat}{Cl:WP}{ps:List Str}(hj:pr[j]?=some ⟨ar,ar,xI cn i⟩)(k:Kl K mg cn Cl)(mk:W.makesIn K Cl=true)(kc:W.keepIn K (.ref Cl)=true)
  (h:Cm P w K mg base n cn "__init__" ps (spW K pr n i)):Cn P w K mg base (n+1) pr cn i j:=by
 obtain⟨C2,f,fd,h1,h2,h3,h4,h5⟩:=h;have e:some (some (Value.ref C2))=some (some (Value.ref Cl)):=h1.symm.trans k.at_
 cases e
 exact pA hj k ⟨mk,h3.at_,h3.fn,kc⟩ h4 h5
def X7 {K:WY}{f:Str}:∀cn∈([]:List Str),KF K f cn:=λ_ h=>by cases h
def J7 {K:WY}{f cn:Str}{cs:List Str}(a:KF K f cn)(r:∀c∈cs,KF K f c):∀c∈cn::cs,KF K f c:=λc h=>by
 rcases BC.mp h with rfl | h
 ·exact a
 ·exact r c h
def su:sZ X body yM:=⟨λ_ _ _=>False,λ_ _ _ _ _ _ h=>h.elim,λ_ _ _ _ _ _ _ _ _ h _=>h.elim⟩
def rF (C:Hw):Nat->T->T->Bool->Prop
 | 0,v,w,b=>Yx v 0=true/\Yx w 0=true/\b=eqT v w
 | n+1,v,w,b=>(Yx v n=true/\Yx w n=true/\b=eqT v w)\/
   (∃(xs ys:List T) (e:Nat->Bool),v=.tup xs/\w=.tup ys/\(∀j x y,xs[j]?=some x->ys[j]?=some y->rF C n x y (e j))/\b=((List.range (min xs.length ys.length)).all e&&xs.length==ys.length))\/
   (∃(a a':WP) (xs ys:List T) (e:Nat->Bool),v=.ref a/\w=.ref a'/\C a=some (.lst xs)/\C a'=some (.lst ys)/\(xs.length=ys.length->∀j x y,xs[j]?=some x->ys[j]?=some y->rF C n x y (e j))/\
    b=(if xs.length=ys.length then(List.range xs.length).all e else false))
section
variable {X:Cx}{WZ:List (WP×Obj)}{σ:L2.St}{F H:Hp}{s:WR}{C:Hw}
def yr {e:Nat->Bool}{n:Nat}(h:∀j,j<n->e j=true):(List.range n).all e=true:=by
 rw[BS];intro j hj;exact h j (DC.mp hj)
def ye (I:Zy X WZ σ H s)(R:Rl X.K F H C):∀(n:Nat) {v w:T} {x:V} {b:Bool},rF C n v w b->Jh X.K H x v->Jh X.K H x w->b=true:=by
 intro n
 induction n with
 | zero=>
  intro v w x b h rv rw';obtain⟨f1,f2,rfl⟩:=h;rw[Ho I 0 f1 f2 rv rw'];exact Vr _ f2
 | succ n ih=>
  intro v w x b h rv rw';have lists:∀{zs:List V} {xs ys:List T} {e:Nat->Bool},Reps X.K H zs xs->Reps X.K H zs ys->(∀j x y,xs[j]?=some x->ys[j]?=some y->rF C n x y (e j))->xs.length=ys.length/\∀j,j<xs.length->e j=true:=by
   intro zs xs ys e r1 r2 he;have l1:=r1.length;have l2:=r2.length;refine⟨by omega,λj hj=>?_⟩;have i1:xs[j]?=some (xs[j]'hj):=by simp[hj]
   have i2:ys[j]?=some (ys[j]'(by omega)):=by simp
   obtain⟨u1,g1,q1⟩:=r1.get i1;obtain⟨u2,g2,q2⟩:=r2.get i2;rw[g1] at g2;cases g2;exact ih (he j _ _ i1 i2) q1 q2
  rcases h with⟨f1,f2,rfl⟩ | ⟨xs,ys,e,rfl,rfl,he,rfl⟩ | ⟨a,a',xs,ys,e,rfl,rfl,h1,h2,he,rfl⟩
  ·rw[Ho I n f1 f2 rv rw'];exact Vr _ f2
  ·obtain⟨a,zs,rfl,hq,r⟩:=Yi rv;obtain⟨b,zs',eb,hq',r'⟩:=Yi rw'
   cases eb
   have:=I.tuple_inj hq hq';subst this;obtain⟨hl,ha⟩:=lists r r' he;rw[hl,Nat.min_self,XU,Bool.and_true];exact yr λj hj=>ha j (by omega)
  ·cases Z1 rv
   cases Z1 rw'
   rw[h1] at h2;cases h2;obtain⟨zs,hz,r⟩:=R.lst h1;obtain⟨hl,ha⟩:=lists r r (he FL);rw[XY rfl];exact yr ha
def Br {A:WM}{e:Nat->Bool}(r:Reps X.K H ys ts)(r':Reps X.K H zs us)(rI:Yd ys its)(rI':Yd zs its')
  (he:∀j x y,ts[j]?=some x->us[j]?=some y->∀{x1 x2:V} {u u':WQ},Jh X.K H x1 x->Jh X.K H x2 y->Ye x1 u->Ye x2 u'->SeqAt.EqAt A s u u' (e j)):
  ∀j (h1:j<its.toArray.size) (h2:j<its'.toArray.size),SeqAt.EqAt A s its.toArray[j] its'.toArray[j] (e j):=λj h1 h2=>by
 have l1:its.toArray.size=ts.length:=by rw[XJ,<-rI.length,r.length]
 have l2:its'.toArray.size=us.length:=by rw[XJ,<-rI'.length,r'.length]
 have i1:ts[j]?=some (ts[j]'(by omega)):=by simp[l1▸h1]
 have i2:us[j]?=some (us[j]'(by omega)):=by simp[l2▸h2]
 obtain⟨x1,g1,q1⟩:=r.get i1;obtain⟨x2,g2,q2⟩:=r'.get i2;obtain⟨u1,k1,z1⟩:=rI.get g1;obtain⟨u2,k2,z2⟩:=rI'.get g2;have e1:its.toArray[j]=u1:=by
  have:its[j]?=some its.toArray[j]:=by simp
  rw[k1] at this;exact(YH this).symm
 have e2:its'.toArray[j]=u2:=by
  have:its'[j]?=some its'.toArray[j]:=by simp
  rw[k2] at this;exact(YH this).symm
 rw[e1,e2];exact he j _ _ i1 i2 q1 q2 z1 z2
def oO (I:Zy X WZ σ H s)(R:Rl X.K F H C):∀(n:Nat) {v w:T} {x y:V} {u u':WQ} {A:WM} {b:Bool},rF C n v w b->Jh X.K H x v->Jh X.K H y w->Ye x u->Ye y u'->A.units+n<cLine->SeqAt.EqAt A s u u' b:=by
 intro n
 induction n with
 | zero=>
  intro v w x y u u' A b h rv rw' ru ru' hu;obtain⟨f1,f2,rfl⟩:=h;exact xn I 0 f1 f2 rv rw' ru ru' hu
 | succ n ih=>
  intro v w x y u u' A b h rv rw' ru ru' hu;have hu0:A.units<cLine:=by omega
  have h0:=h
  rcases h with⟨f1,f2,rfl⟩ | ⟨xs,ys,e,rfl,rfl,he,rfl⟩ | ⟨a,a',xs,ys,e,rfl,rfl,h1,h2,he,rfl⟩
  ·exact xn I n f1 f2 rv rw' ru ru' (by omega)
  ·obtain⟨a,zs,rfl,hq,r⟩:=Yi rv;obtain⟨b,zs',rfl,hq',r'⟩:=Yi rw'
   cases ru
   cases ru'
   by_cases hne:a=b
   ·subst hne;have:=ye I R (n+1) h0 rv rw';rw[this];exact SeqAt.EqAt.same _
   ·obtain⟨its,rI,p,_⟩:=I.tuple hq;obtain⟨its',rI',p',_⟩:=I.tuple hq';have l1:its.toArray.size=xs.length:=by rw[XJ,<-rI.length,r.length]
    have l2:its'.toArray.size=ys.length:=by rw[XJ,<-rI'.length,r'.length]
    have key:=SeqAt.EqAt.of_refs hne (SeqAt.RcAt.tuples (A:=A) p p' hu0 (Br (A:=A.in1) r r' rI rI' λj x y hx hy {x1 x2 u u'} q1 q2 z1 z2=>ih (he j x y hx hy) q1 q2 z1 z2 (by show A.units+1+n<cLine;omega)));rw[l1,l2] at key;exact key
  ·cases Z1 rv
   cases Z1 rw'
   cases ru
   cases ru'
   by_cases hne:a=a'
   ·subst hne;have:=ye I R (n+1) h0 rv rw';rw[this];exact SeqAt.EqAt.same _
   ·obtain⟨zs,hz,r⟩:=R.lst h1;obtain⟨zs',hz',r'⟩:=R.lst h2;obtain⟨its,rI,p,_⟩:=I.list (J9.of hz);obtain⟨its',rI',p',_⟩:=I.list (J9.of hz');have l1:its.toArray.size=xs.length:=by rw[XJ,<-rI.length,r.length]
    have l2:its'.toArray.size=ys.length:=by rw[XJ,<-rI'.length,r'.length]
    by_cases hl:xs.length=ys.length
    ·rw[XY hl];have key:=SeqAt.EqAt.of_refs hne (SeqAt.RcAt.lists (A:=A) p.isList p'.isList (by rw[l1,l2,hl]) hu0 (Br (A:=A.in1) r r' rI rI' λj x y hx hy {x1 x2 u u'} q1 q2 z1 z2=>ih (he hl j x y hx hy) q1 q2 z1 z2 (by show A.units+1+n<cLine;omega)));rw[l1] at key;exact key
    ·rw[XX hl];exact SeqAt.EqAt.of_refs hne (SeqAt.RcAt.lists_lengths p.isList p'.isList (by rw[l1,l2];exact bne_iff_ne.mpr hl) hu0)
def bV (I:Zy X WZ σ H s)(R:Rl X.K F H C){A:WM}(h:rF C n v w b)(rv:Jh X.K H x v)(rw':Jh X.K H y w)(ru:Ye x u)(ru':Ye y u')(hu:A.units+n+1<cLine):
  SeqAt.RcAt A s u u' b/\SeqAt.RcNeAt A s u u' (!b):=by
 have hu0:A.units<cLine:=by omega
 cases n with
 | zero=>
  obtain⟨f1,f2,rfl⟩:=h;exact di I f1 f2 rv rw' ru ru' hu
 | succ n=>
  rcases h with⟨f1,f2,rfl⟩ | ⟨xs,ys,e,rfl,rfl,he,rfl⟩ | ⟨a,a',xs,ys,e,rfl,rfl,h1,h2,he,rfl⟩
  ·exact di I f1 f2 rv rw' ru ru' (by omega)
  ·obtain⟨a,zs,rfl,hq,r⟩:=Yi rv;obtain⟨b,zs',rfl,hq',r'⟩:=Yi rw'
   cases ru
   cases ru'
   obtain⟨its,rI,p,_⟩:=I.tuple hq;obtain⟨its',rI',p',_⟩:=I.tuple hq';have l1:its.toArray.size=xs.length:=by rw[XJ,<-rI.length,r.length]
   have l2:its'.toArray.size=ys.length:=by rw[XJ,<-rI'.length,r'.length]
   have hi:=Br (s:=s) (A:=A.in1) (e:=e) r r' rI rI' λj x y hx hy {x1 x2 u u'} q1 q2 z1 z2=>oO I R n (he j x y hx hy) q1 q2 z1 z2 (by show A.units+1+n<cLine;omega);have k1:=SeqAt.RcAt.tuples (A:=A) p p' hu0 hi;have k2:=SeqAt.RcNeAt.tuples (A:=A) p p' hu0 hi;rw[l1,l2] at k1 k2;exact⟨k1,k2⟩
  ·cases Z1 rv
   cases Z1 rw'
   cases ru
   cases ru'
   obtain⟨zs,hz,r⟩:=R.lst h1;obtain⟨zs',hz',r'⟩:=R.lst h2;obtain⟨its,rI,p,_⟩:=I.list (J9.of hz);obtain⟨its',rI',p',_⟩:=I.list (J9.of hz');have l1:its.toArray.size=xs.length:=by rw[XJ,<-rI.length,r.length]
   have l2:its'.toArray.size=ys.length:=by rw[XJ,<-rI'.length,r'.length]
   by_cases hl:xs.length=ys.length
   ·rw[XY hl];have hi:=Br (s:=s) (A:=A.in1) (e:=e) r r' rI rI' λj x y hx hy {x1 x2 u u'} q1 q2 z1 z2=>oO I R n (he hl j x y hx hy) q1 q2 z1 z2 (by show A.units+1+n<cLine;omega);have k1:=SeqAt.RcAt.lists (A:=A) p.isList p'.isList (by rw[l1,l2,hl]) hu0 hi;have k2:=SeqAt.RcNeAt.lists (A:=A) p.isList p'.isList (by rw[l1,l2,hl]) hu0 hi;rw[l1] at k1 k2;exact⟨k1,k2⟩
   ·rw[XX hl];have hne:(its.toArray.size !=its'.toArray.size)=true:=by rw[l1,l2];exact bne_iff_ne.mpr hl
    exact⟨SeqAt.RcAt.lists_lengths p.isList p'.isList hne hu0,SeqAt.RcNeAt.lists_lengths p.isList p'.isList hne hu0⟩
end
def vX (neg:Bool):W2:=λx y C Q=>∃b,rF C 100 x y b/\Q (.bl (if neg then !b else b)) C
abbrev eF:W2:=vX false
abbrev eA:W2:=vX true
section
variable {X:Cx}
def uU (neg:Bool)(hu:X.A.units+150<cLine):Hf X (compareOp (if neg then .NotEq else .Eq)) (vX neg):=⟨_,Bh,λF H C x y v u Q Q' R rx ry h q WZ s σ v' u' I r1 r2=>by
 obtain⟨b,he,hq⟩:=h;have key:=bV (A:=X.A) I R he rx ry r1 r2 (by omega);have hq':=q _ _ H C R (Tx.refl H) Jq hq
 cases neg with
 | true=>exact EqBoolInt.of_rcne key.2 ⟨.bl (!b),H,I,FL,hq'⟩
 | false=>exact EqBoolInt.of_rc key.1 ⟨.bl b,H,I,FL,hq'⟩⟩
def oJ (hu:X.A.units+150<cLine):Hf X (compareOp .Eq) eF:=uU false hu
def oG (hu:X.A.units+150<cLine):Hf X (compareOp .NotEq) eA:=uU true hu
end
structure aM (K:W.Frag)(x qual:Str)(st:Stmt)(f:Addr)(fd:FuncData):Prop where
 ex:∃(oc:WQ) (od:Option WP) (dV kV doc pm:WQ) (an:Option WP) (cdv ct:WQ) (osl:Array (Option WQ)),
  fd=W.fnOf x qual (Rw st) (Vm st) (Zq st) dV kV doc pm an cdv ct/\K.lookup f=some ⟨oc,od,.func fd,osl⟩/\W.codeIn K cdv qual=true
 kp:W.keepIn K (.ref f)=true
def Zaa (P:WO)(w:WN)(K:WY)(mg:Str->Option WQ)(base:WU)(n:Nat)(x:Str)(ps:List Str)(ds:List Int)(sp:L2.Sp):Prop:=
 ∃f fd,U0 P w K mg base CX0 n f fd ps sp/\(∃us:List WQ,Yd (ds.map V.int) us/\∀j,j<=ds.length->Wz K fd ps (us.drop j))/\W.keepIn K (.ref f)=true/\mg x=some (.ref f)
def aB (ws:List T)(a:WA):WA:=λτ C Q χ=>a τ C (λvs C1=>Q (vs++ws) C1) χ
end WL
namespace PySem
open Sem (wp)
namespace F
def lz_entry_ga:entryFor table "zip.__getattribute__"=some Builtin.«object.__getattribute__»:=
 entryFor_alias (id':="object.__getattribute__") (by kernel_rfl) (by first | rfl | decide+kernel) (by decide+kernel) (by kernel_rfl)
def lz_getattr_none:typeLookup (.type "zip") "__getattr__"=pure none:=by rw[typeLookup_type,builtinLookup_eq_fast];kernel_rfl
def lz_keys_none:typeLookup (.type "zip") "keys"=pure none:=by rw[typeLookup_type,builtinLookup_eq_fast];kernel_rfl
end F
section
variable {z:WP}
def tj (fs:Array WQ)(u:Tok):
  Meets (Builtin.«object.__getattribute__» ⟨[.ref z,.str "keys" u],[]⟩) (λA R s=>s.heap.get? z=some {cls:=.type "zip",dict:=none,data:=.fields fs,slots:=#[]}/\raisesAttr (.ref z) "keys" A R s):=
 Meets.of_wp λprog w A R s hs=>by
  obtain⟨ho,hs⟩:=hs;obtain⟨hp,g,d,tk,os⟩:=s;have hT:(⟨hp,g,d,tk,os⟩:WR).TypeIs (.ref z) "zip":=⟨_,ho,FL⟩;have f1:=F.lz_keys_none;unfold Builtin.«object.__getattribute__»
  repeat (any_goals (first | assumption | wp_step))
  exact wpAny_raiseAttrError hs.1 hs.2 (attrMsg_fits (by decide+kernel) (by decide+kernel))
def qI {prog:WO}{w:WN}{A:WM}{E:WQ->WR->Prop}{s:WR}{Q:Option WQ->WR->Prop}(ho:s.heap.get? z=some {cls:=.type "zip",dict:=none,data:=.fields fs,slots:=#[]})(hA:A.handled=none)
  (h:∀h' tk,(∀b ob,s.heap.get? b=some ob->h'.get? b=some ob)->Q none {s with heap:=h',toks:=tk}):wpAny (model prog w) A (getAttr? (.ref z) "keys") Q E s:=by
 obtain⟨hp,g,d,tk,os⟩:=s;have hT:(⟨hp,g,d,tk,os⟩:WR).TypeIs (.ref z) "zip":=⟨_,ho,FL⟩;have f1:=sub_AttributeError;have f3:=F.slot_zip_getattribute.lookup;have f4:=F.slot_zip_getattribute.bind (.ref z);have f5:=F.lz_getattr_none;unfold getAttr? getAttrBy? getAttrBy
 repeat (any_goals (first | assumption | ((with_reducible show wpAny _ _ (call (Value.builtin "zip.__getattribute__") _ _) _ _ _);refine call_meets F.slot_zip_getattribute ⟨_,ho,FL⟩ F.lz_entry_ga (F.args_zip_getattribute_2 _ _) (tj fs _) ⟨ho,hA,λh' tk' e hx=>?_⟩) | wp_step))
 obtain⟨t',u',he⟩:=hx.there;show wpAny _ _ (getattributeRaised _ _ _ _ _ _ _) _ _ _;unfold getattributeRaised
 repeat (any_goals (first | assumption | wp_step))
 exact h h' tk' λb ob q=>hx.keeps b ob q
end
end PySem
namespace L2
open PySem PySem.Spec PyProof.Rows
abbrev M0 (h:WU)(z TI TO T:WP)(b:Bool):Prop:=
 h.get? z=some {cls:=.type "zip",dict:=none,data:=.fields #[rawInt T,.bool b,.bool false,.ref TI,.ref TO],slots:=#[]}
section
variable {prog:WO}{w:WN}{A:WM}{E:WQ->WR->Prop}{s:WR}{z TI TO i1 i2:WP}{f1 f2:List WP}{n:Nat}{P1 P2:Nat->WQ->Prop}{S1 S2:Nat->WU->Prop}
def xG {a:WP}{Q:Option Obj->WR->Prop}(h:Q (s.heap.get? a) s):wpAny M A (loadIfAlive a) Q E s:=λΓ p hΓ=>by
 unfold loadIfAlive;rw[Sem.wp_loadIfAlive];exact(XB (M:=M) (A:=A) (E:=E) h) Γ p hΓ
def jE {Q:Bool->WR->Prop}(hz:M0 s.heap z TI TO T b)(hT:∃o,s.heap.get? T=some o)(hQ:∀h2,M0 h2 z TI TO T true->Heap.SameBut z s.heap h2->Q false {s with heap:=h2}):
  wpAny (model prog w) A (Builtin.SmallTypes.ownedTupleIsFree (.ref z)) Q E s:=by
 obtain⟨oT,hoT⟩:=hT;unfold Builtin.SmallTypes.ownedTupleIsFree;refine XA (wpAny_field hz FL (x:=rawInt T) FL ?_);show wpAny _ _ (loadIfAlive (T:Int).toNat>>=_) _ _ s;refine XA (xG ?_);rw[CV,hoT];simp only[Option.isNone_some,Bool.false_eq_true,if_false];refine XA (wpAny_field hz FL (x:=.bool b) FL ?_)
 cases b with
 | false=>
  rw[XY (by decide)];refine wpAny_bind (wpAny_setField_rec hz (by simp) λha hza sa=>?_);exact XB (hQ ha hza sa)
 | true=>
  rw[XX (by decide)];exact XB (hQ s.heap hz (Heap.SameBut.refl _ _))
def rJ {i:Nat}{T:WP}{b:Bool}{u v:WQ}{Q:WQ->WR->Prop}(D1:Draws prog w A i1 f1 n P1 S1)(D2:Draws prog w A i2 f2 n P2 S2)(Z:j3 z TI TO i1 i2 f1 f2)(hi:i<n)
  (hz:M0 s.heap z TI TO T b) (hT:∃o,s.heap.get? T=some o) (hTI:IsPair s.heap TI (.ref i1) (.ref i2)) (s1:S1 i s.heap) (s2:S2 i s.heap)
  (hQ:∀x y h2 t2 b,P1 i x->P2 i y->M0 h2 z TI TO T b->S1 (i+1) h2->S2 (i+1) h2->IsPair h2 s.heap.objs.size x y->
   (∀c o,c≠z->c≠i1->c≠i2->s.heap.get? c=some o->h2.get? c=some o)->Q (.ref s.heap.objs.size) {s with heap:=h2,toks:=t2}):
  wpAny (model prog w) A (Builtin.«zip.__next__» ⟨[.ref z],[]⟩) (λfin s2=>∃r,fin=.done (.ret r)/\Q r s2) E s:=by
 show wpAny _ _ (field (.ref z) 2>>=_) _ E s;refine XA (wpAny_field hz FL (x:=.bool false) FL ?_);show wpAny _ _ (field (.ref z) 3>>=_) _ E s;refine XA (wpAny_field hz FL (x:=.ref TI) FL ?_);refine XA (wpAny_seqItems hTI FL ?_);show wpAny _ _ (Builtin.SmallTypes.ownedTupleIsFree (.ref z)>>=_) _ E s;refine XA (jE hz hT λha hza sa=>?_);simp only[Bool.false_eq_true,if_false];have ne:∀{b c:WP} {l:List WP},b∈l->c∉l->b≠c:=λhb hc e=>hc (e▸hb);have a1:S1 i ha:=D1.frame i _ _ s1 λb hb o e=>sa.extBut _ _ (ne hb Z.z1) e;have a2:S2 i ha:=D2.frame i _ _ s2 λb hb o e=>sa.extBut _ _ (ne hb Z.z2) e;have zi1:z≠i1:=λe=>Z.z1 (e▸Z.m1);have zi2:z≠i2:=λe=>Z.z2 (e▸Z.m2);rw[<-Array.forIn_toList];simp only[List.forIn_cons,List.forIn_nil];refine XA (XA (XA (wpAny_holding ?_)));show wpAny _ _ (Builtin.SmallTypes.nextOf (.ref i1)>>=_) _ _ _;refine XA (D1.item i {s with heap:=ha} _ _ hi a1 λx hb tb hx b1 sb=>XB ?_);have b2:S2 i hb:=D2.frame i _ _ a2 λb hm o e=>sb.extBut _ _ (ne hm Z.a12) e;refine XB ?_;refine XA (XA (wpAny_holding ?_));show wpAny _ _ (Builtin.SmallTypes.nextOf (.ref i2)>>=_) _ _ _;refine XA (D2.item i {s with heap:=hb,toks:=tb} _ _ hi b2 λy hd td hy d2 sd=>XB ?_);have d1:S1 (i+1) hd:=D1.frame _ _ _ b1 λb hm o e=>sd.extBut _ _ (ne hm Z.a21) e;refine XB ?_;refine XB ?_;refine XA (wpAny_newTuple ?_ (show(2:Nat)<=sizeLine by decide));have hsz:hd.objs.size=s.heap.objs.size:=by rw[sd.1,sb.1,sa.1]
 have hzd:M0 hd z TI TO T true:=sd.extBut _ _ zi2 (sb.extBut _ _ zi1 hza);have up:∀c o,hd.get? c=some o->(hd.push {cls:=.type "tuple",data:=.seq #[x,y]}).get? c=some o:=λc o e=>XC _ e;refine XB ⟨_,FL,?_⟩;show Q (.ref hd.objs.size) _;have hTn:IsPair (hd.push {cls:=.type "tuple",data:=.seq #[x,y]}) hd.objs.size x y:=XF _ FL;rw[hsz] at hTn |-;exact hQ x y _ td true hx hy (up _ _ hzd) (D1.frame _ _ _ d1 λb hm o e=>up _ o e) (D2.frame _ _ _ d2 λb hm o e=>up _ o e) hTn λc o n1 n3 n4 e=>up c o (sd.extBut _ _ n4 (sb.extBut _ _ n3 (sa.extBut _ _ n1 e)))
def nk {T:WP}{b:Bool}{Q:Fin->WR->Prop}(D1:Draws prog w A i1 f1 n P1 S1)(Z:j3 z TI TO i1 i2 f1 f2)
  (hz:M0 s.heap z TI TO T b) (hT:∃o,s.heap.get? T=some o) (hTI:IsPair s.heap TI (.ref i1) (.ref i2)) (s1:S1 n s.heap)
  (hE:∀h2 ex,(∀c o,c≠z->c≠i1->c≠i2->s.heap.get? c=some o->h2.get? c=some o)->(∃o,h2.get? ex=some o/\o.cls=.type "StopIteration")->E (.ref ex) {s with heap:=h2}):
  wpAny (model prog w) A (Builtin.«zip.__next__» ⟨[.ref z],[]⟩) Q E s:=by
 show wpAny _ _ (field (.ref z) 2>>=_) _ E s;refine XA (wpAny_field hz FL (x:=.bool false) FL ?_);show wpAny _ _ (field (.ref z) 3>>=_) _ E s;refine XA (wpAny_field hz FL (x:=.ref TI) FL ?_);refine XA (wpAny_seqItems hTI FL ?_);show wpAny _ _ (Builtin.SmallTypes.ownedTupleIsFree (.ref z)>>=_) _ E s;refine XA (jE hz hT λha hza sa=>?_);simp only[Bool.false_eq_true,if_false];have ne:∀{b c:WP} {l:List WP},b∈l->c∉l->b≠c:=λhb hc e=>hc (e▸hb);have a1:S1 n ha:=D1.frame n _ _ s1 λb hb o e=>sa.extBut _ _ (ne hb Z.z1) e;rw[<-Array.forIn_toList];simp only[List.forIn_cons,List.forIn_nil];refine XA (XA (XA (wpAny_holding ?_)));show wpAny _ _ (Builtin.SmallTypes.nextOf (.ref i1)>>=_) _ _ _;refine XA (D1.done {s with heap:=ha} _ _ a1 λhb ex sb he=>?_);exact hE hb ex (λc o n1 n3 n4 e=>sb _ _ n3 (sa.extBut _ _ n1 e)) he
end
end L2
namespace PySem.F
def lz_entry_loop:entryFor table "dict.update.loop"=some Builtin.«dict.update.loop»:=entryFor_of_tree (by kernel_rfl)
end PySem.F
namespace L2
open PySem PySem.Spec PyProof.Rows
structure ZS (z TI TO i1 i2 l1 l2:Addr)(xs ys:Array Value)(i:Nat)(h:Heap):Prop where
 zip:IsZip h z TI TO .none\/∃T b,M0 h z TI TO T b/\(∃o,h.get? T=some o)/\T≠z/\T≠TO/\T≠i1/\T≠i2
 its:IsPair h TI (.ref i1) (.ref i2)
 own:∃a b,IsPair h TO a b
 s1:h.IsTupleIter i1 l1 i/\h.IsTuple l1 xs
 s2:h.IsTupleIter i2 l2 i/\h.IsTuple l2 ys
def ZS.frame {z TI TO i1 i2 l1 l2:WP}{h h':WU}(Z:ZS z TI TO i1 i2 l1 l2 xs ys i h)(k:∀b∈[z,TI,TO,i1,i2,l1,l2],∀o,h.get? b=some o->h'.get? b=some o)(al:∀b,(∃o,h.get? b=some o)->∃o,h'.get? b=some o):ZS z TI TO i1 i2 l1 l2 xs ys i h':=by
 obtain⟨a,b,⟨u,v,c⟩,d,e⟩:=Z;refine⟨?_,k _ (by simp) _ b,⟨u,v,k _ (by simp) _ c⟩,⟨d.1.at λo q=>k _ (by simp) o q,d.2.at λo q=>k _ (by simp) o q⟩,⟨e.1.at λo q=>k _ (by simp) o q,e.2.at λo q=>k _ (by simp) o q⟩⟩
 rcases a with a | ⟨T,b,a,hT,r⟩
 ·exact .inl (k _ (by simp) _ a)
 ·exact .inr ⟨T,b,k _ (by simp) _ a,al _ hT,r⟩
section
variable {prog:WO}{w:WN}{A:WM}{E:WQ->WR->Prop}{s:WR}{z TI TO i1 i2 l1 l2:WP}{xs ys:Array WQ}
def jC {i:Nat}{Q:Option WQ->WR->Prop}(hh:A.handled=none)(Z:j3 z TI TO i1 i2 [i1,l1] [i2,l2])(h1:l1≠i1)(h2:l2≠i2)(hn:xs.size=ys.size)(hi:i<xs.size)(st:ZS z TI TO i1 i2 l1 l2 xs ys i s.heap)
  (hQ:∀T x y h' tk,xs[i]?=some x->ys[i]?=some y->s.heap.objs.size<=T->IsPair h' T x y->ZS z TI TO i1 i2 l1 l2 xs ys (i+1) h'->(∀b o,b∉[z,TO,i1,i2]->s.heap.get? b=some o->h'.get? b=some o)->Q (some (.ref T)) {s with heap:=h',toks:=tk}):
  wpAny (model prog w) A (pyNext (.ref z)) Q E s:=by
 have D1:=Nm (prog:=prog) (w:=w) (A:=A.in1) hh i1 l1 h1 xs;have D2:=Nm (prog:=prog) (w:=w) (A:=A.in1) hh i2 l2 h2 ys;rw[<-hn] at D2;obtain⟨a,b,⟨u,v,c⟩,d,e⟩:=st;have al:∀{h h':WU},True:=λ{_ _}=>trivial;have lt:∀{c o},s.heap.get? c=some o->s.heap.objs.size≠c:=λe=>CJ (XD e);obtain⟨o1,l1'⟩:=D1.live _ _ d;obtain⟨o2,l2'⟩:=D2.live _ _ e
 rcases a with a | ⟨T,bb,a,hT,t1,t2,t3,t4⟩
 ·have hTy:s.TypeIs (.ref z) "zip":=⟨_,a,FL⟩;unfold pyNext;refine XA (wpAny_attempt (wpAny_callSpecial?_slot (name:=Str.ofString "__next__") hTy BM (wpAny_call_entry BM hTy CO
   (jD D1 D2 Z hi a b c d e λx y h2 t2 hx hy z1 z2 z3 z4 z5 z6=>XB ?_) (CM _))))
  refine hQ _ x y h2 t2 hx hy (XE _) z5 ⟨.inr ⟨_,false,z1,⟨_,z5⟩,lt a,lt c,lt l1',lt l2'⟩,z6 _ _ Z.tz Z.io Z.t1 Z.t2 b,⟨_,_,z2⟩,z3,z4⟩ λc o hc q=>?_;simp only[List.mem_cons,List.not_mem_nil,or_false,not_or] at hc;exact z6 c o hc.1 hc.2.1 hc.2.2.1 hc.2.2.2 q
 ·have hTy:s.TypeIs (.ref z) "zip":=⟨_,a,FL⟩;unfold pyNext;refine XA (wpAny_attempt (wpAny_callSpecial?_slot (name:=Str.ofString "__next__") hTy BM (wpAny_call_entry BM hTy CO
   (rJ (u:=u) (v:=v) D1 D2 Z hi a hT b d e λx y h2 tk b2 hx hy z1 z3 z4 z5 z6=>XB ?_) (CM _))))
  obtain⟨oT,hoT⟩:=hT;have Oi1:TO≠i1:=λe=>Z.o1 (e▸Z.m1);have Oi2:TO≠i2:=λe=>Z.o2 (e▸Z.m2);refine hQ _ x y h2 tk hx hy (XE _) z5 ⟨.inr ⟨T,b2,z1,⟨oT,z6 _ _ t1 t3 t4 hoT⟩,t1,t2,t3,t4⟩,z6 _ _ Z.tz Z.t1 Z.t2 b,⟨_,_,z6 _ _ Z.oz Oi1 Oi2 c⟩,z3,z4⟩ λc o hc q=>?_;simp only[List.mem_cons,List.not_mem_nil,or_false,not_or] at hc;exact z6 c o hc.1 hc.2.2.1 hc.2.2.2 q
def vG {Q:Option WQ->WR->Prop}(hh:A.handled=none)(Z:j3 z TI TO i1 i2 [i1,l1] [i2,l2])(h1:l1≠i1)(st:ZS z TI TO i1 i2 l1 l2 xs ys xs.size s.heap)
  (hQ:∀h' tk,(∀b o,b∉[z,TO,i1,i2]->s.heap.get? b=some o->h'.get? b=some o)->Q none {s with heap:=h',toks:=tk}):
  wpAny (model prog w) A (pyNext (.ref z)) Q E s:=by
 have D1:=Nm (prog:=prog) (w:=w) (A:=A.in1) hh i1 l1 h1 xs;obtain⟨a,b,⟨u,v,c⟩,d,e⟩:=st
 rcases a with a | ⟨T,bb,a,hT,t1,t2,t3,t4⟩
 ·have hTy:s.TypeIs (.ref z) "zip":=⟨_,a,FL⟩;unfold pyNext;refine XA (wpAny_attempt (wpAny_callSpecial?_slot (name:=Str.ofString "__next__") hTy BM (wpAny_call_entry BM hTy CO (y8 D1 Z a b c d λh2 ex hk he=>?_) (CM _))));obtain⟨o,ho,hc⟩:=he;refine XA (wpAny_isInstance (T:="StopIteration") (b:=true) ⟨o,ho,hc⟩ isSubtype_stop ?_);refine XB (hQ h2 s.toks λc o hc q=>?_);simp only[List.mem_cons,List.not_mem_nil,or_false,not_or] at hc;exact hk c o hc.1 hc.2.1 hc.2.2.1 hc.2.2.2 q
 ·have hTy:s.TypeIs (.ref z) "zip":=⟨_,a,FL⟩;unfold pyNext;refine XA (wpAny_attempt (wpAny_callSpecial?_slot (name:=Str.ofString "__next__") hTy BM (wpAny_call_entry BM hTy CO (nk D1 Z a hT b d λh2 ex hk he=>?_) (CM _))));obtain⟨o,ho,hc⟩:=he;refine XA (wpAny_isInstance (T:="StopIteration") (b:=true) ⟨o,ho,hc⟩ isSubtype_stop ?_);refine XB (hQ h2 s.toks λc o hc q=>?_);simp only[List.mem_cons,List.not_mem_nil,or_false,not_or] at hc;exact hk c o hc.1 hc.2.2.1 hc.2.2.2 q
def qW {knd:KeyKind prog w Z0}{d:WP}(hh:A.handled=none)(Z:j3 z TI TO i1 i2 [i1,l1] [i2,l2])(h1:l1≠i1)(h2:l2≠i2)(hn:xs.size=ys.size)(hd:d∉[z,TI,TO,i1,i2,l1,l2])(kk:Nat->Z0)(hk:∀i x,xs[i]?=some x->knd.is (kk i) x=true)(hsz:xs.size<=1000)
  {R:Result->WR->Prop} (h₀:WU) (hlt:∀b o,h₀.get? b=some o->b≠d/\b∉[z,TO,i1,i2])
  (hR:∀h' tk vs,(∀b o,h₀.get? b=some o->h'.get? b=some o)->h'.DictOf knd d vs->vs=((List.range xs.size).foldl (λa j=>stored a (kk j) ((ys[j]?).getD .none)) [])->R (.ok (.ret .none)) {s with heap:=h',toks:=tk}):
  ∀(m i:Nat) (h:WU) (tk:Nat) (vs:List (Z0×WQ)),xs.size-i=m->i<=xs.size->ZS z TI TO i1 i2 l1 l2 xs ys i h->(∀b o,h₀.get? b=some o->h.get? b=some o)->h.DictOf knd d vs->vs.length<=i->vs=((List.range i).foldl (λa j=>stored a (kk j) ((ys[j]?).getD .none)) [])-> 
   codeAny (model prog w) A (.builtin "dict.update.loop" ⟨[.ref d,.ref z,rawInt i,.none],[]⟩) R {s with heap:=h,toks:=tk}:=by
 intro m
 induction m with
 | zero=>
  intro i h tk vs hm hi st keep dd hl hv;have ei:i=xs.size:=by omega
  subst ei;refine codeAny_builtin PySem.F.lz_entry_loop ?_;show wpAny _ _ (pyNext (.ref z)>>=_) _ _ _;refine XA (vG (A:=A.under _) hh Z h1 st λh' tk' kp=>?_);show wpAny _ _ (Builtin.Dict.addKeywords d []>>=_) _ _ _;refine XA (XB (XB ?_));refine hR h' tk' vs (λb o q=>kp b o (hlt b o q).2 (keep b o q)) (dd.at λo q=>kp _ o ?_ q) hv;intro hm;exact hd (by simp only[ZM,ZN,or_false] at hm |-;rcases hm with h | h | h | h<;>simp[h])
 | succ m ih=>
  intro i h tk vs hm hi st keep dd hl hv;refine codeAny_builtin PySem.F.lz_entry_loop ?_;show wpAny _ _ (pyNext (.ref z)>>=_) _ _ _;have hdw:d∉[z,TO,i1,i2]:=λhm=>hd (by simp only[ZM,ZN,or_false] at hm |-;rcases hm with h | h | h | h<;>simp[h]);refine XA (jC (A:=A.under _) hh Z h1 h2 hn (by omega) st λT x y h' tk' hx hy hT hp st' kp=>?_);have dd':h'.DictOf knd d vs:=dd.at λo q=>kp _ o hdw q;show wpAny _ _ (holding [.ref T] _>>=_) _ _ _;refine XA (wpAny_holding ?_);refine XA (wpAny_tryCatch ?_);unfold Builtin.Dict.pairItems;refine XA (wpAny_typeOf (T:="tuple") ⟨_,hp,FL⟩ ?_);rw[XY (by decide)];refine XA (wpAny_seqItems hp FL (XB ?_));show wpAny _ _ (holding [x,y] (dictSet d x y)) _ _ _;refine wpAny_holding ?_;unfold dictSet;refine wpAny_holding (XA (knd.pyHash (hk i x hx) ?_));refine wpAny_dictSetHashed_pairs (hk i x hx) dd' (λh2 dd2 sb=>?_) (XN (show vs.length<=1000 by omega) (by decide));refine XB ⟨Code.quiet_builtin _ (by decide+kernel),?_⟩;have nd:∀b∈[z,TI,TO,i1,i2,l1,l2],b≠d:=λb hb e=>hd (e▸hb);have ei:(rawInt ((i:Int)+1))=rawInt ((i+1:Nat):Int):=by congr 1
  rw[ei];refine ih (i+1) h2 _ (stored vs (kk i) y) (by omega) (by omega) (st'.frame (λb hb o q=>sb.extBut _ _ (nd b hb) q) λb hb=>?_) (λb o q=>sb.extBut _ _ (hlt b o q).1 (kp b o (hlt b o q).2 (keep b o q))) dd2 ?_ ?_
  ·obtain⟨o,q⟩:=hb;by_cases e:b=d
   ·subst e;obtain⟨o',_,_,q',_⟩:=dd2;exact⟨o',q'⟩
   ·exact⟨o,sb.extBut _ _ e q⟩
  ·unfold stored
   split
   ·rw[XI];omega
   ·rw[BA,BH];omega
  ·rw[FA,EQ,<-hv];simp[hy]
def Ar {knd:KeyKind prog w Z0}{Q:WQ->WR->Prop}(hh:A.handled=none)(Z:j3 z TI TO i1 i2 [i1,l1] [i2,l2])(h1:l1≠i1)(h2:l2≠i2)(hn:xs.size=ys.size)(kk:Nat->Z0)(hk:∀i x,xs[i]?=some x->knd.is (kk i) x=true)(hsz:xs.size<=1000)
  (h₀:WU) (hlt:∀b o,h₀.get? b=some o->b∉[z,TO,i1,i2]) (keep:∀b o,h₀.get? b=some o->s.heap.get? b=some o) (hz0:IsZip s.heap z TI TO .none) (st:ZS z TI TO i1 i2 l1 l2 xs ys 0 s.heap)
  (hQ:∀h' tk,(∀b o,h₀.get? b=some o->h'.get? b=some o)->h'.DictOf knd s.heap.objs.size ((List.range xs.size).foldl (λa j=>stored a (kk j) ((ys[j]?).getD .none)) [])->Q (.ref s.heap.objs.size) {s with heap:=h',toks:=tk}):
  wpAny (model prog w) A (call (.type "dict") [.ref z]) Q E s:=by
 refine callType_codes (Q₁:=λobj s₁=>obj=.ref s.heap.objs.size/\s₁={s with heap:=s.heap.push {cls:=.type "dict",data:=.dict #[]}}) PySem.F.kt_called_dict (PySem.F.kt_typeCall_dict_1 _) PySem.F.entry_dict_init (kt_code_dict_new _ ⟨FL,FL⟩) ?_;rintro obj s₁ ⟨rfl,rfl⟩;have hnew:(s.heap.push {cls:=.type "dict",data:=.dict #[]}).DictOf knd s.heap.objs.size []:=Heap.DictOf.new s.heap;have hps:∀b o,s.heap.get? b=some o->(s.heap.push {cls:=.type "dict",data:=.dict #[]}).get? b=some o:=λb o q=>XC _ q;have st1:ZS z TI TO i1 i2 l1 l2 xs ys 0 (s.heap.push {cls:=.type "dict",data:=.dict #[]}):=st.frame (λb _ o q=>hps b o q) λb ⟨o,q⟩=>⟨o,hps b o q⟩;refine⟨hnew.typeIs,PySem.F.args_dict_init_2 _ _,?_⟩;unfold Builtin.«dict.__init__»;refine XA ?_;unfold Builtin.Dict.selfAndRest;refine XA (wpAny_notOrdered_dict hnew.typeIs ?_);show wpAny _ _ (pure (s.heap.objs.size,[Value.ref z])) _ _ _;refine XB ?_;show wpAny _ _ (Builtin.Dict.updateFrom "dict.__init__" s.heap.objs.size (.ref z) [] .none) _ _ _;have hz:=hps _ _ hz0;unfold Builtin.Dict.updateFrom;refine XA (wpAny_typeOf (T:="zip") ⟨_,hz,FL⟩ ?_);rw[XY (by decide)];refine XA (qI hz hh λh' tk' kp=>?_);rw[XY (by decide)];have st2:ZS z TI TO i1 i2 l1 l2 xs ys 0 h':=st1.frame (λb _ o q=>kp b o q) λb ⟨o,q⟩=>⟨o,kp b o q⟩;refine XA (wpAny_rule ?_);refine XA (wpAny_pyIter_zip (kp _ _ hz) ?_);refine XB ⟨Code.quiet_builtin _ (by decide+kernel),?_⟩;have sd:∀b o,s.heap.get? b=some o->b≠s.heap.objs.size:=λb o q=>XH (XD q);have hd:s.heap.objs.size∉[z,TI,TO,i1,i2,l1,l2]:=by
  obtain⟨_,b,⟨u,v,c⟩,d,e⟩:=st;obtain⟨o1,e1,_⟩:=d.1;obtain⟨o2,e2,_⟩:=e.1;obtain⟨o3,e3,_⟩:=d.2;obtain⟨o4,e4,_⟩:=e.2;simp only[List.mem_cons,List.not_mem_nil,or_false,not_or];exact⟨(sd _ _ hz0).symm,(sd _ _ b).symm,(sd _ _ c).symm,(sd _ _ e1).symm,(sd _ _ e2).symm,(sd _ _ e3).symm,(sd _ _ e4).symm⟩
 refine qW (A:=A.in1) (s:=s) (knd:=knd) hh Z h1 h2 hn hd kk hk hsz h₀ (λb o q=>⟨sd b o (keep b o q),hlt b o q⟩) (λh3 tk3 vs k3 d3 hv=>?_) xs.size 0 h' tk' [] FL (XO _) st2 (λb o q=>kp b o (hps b o (keep b o q))) (hnew.at λo q=>kp _ o q) (XE _) FL;subst hv;exact⟨FL,hQ h3 tk3 k3 d3⟩
end
def Dv {α:Type}(put:List (Z0×α)->Z0->α->List (Z0×α))(ks:List Z0)(ys:List α):List (Z0×α):=(ks.zip ys).foldl (λa kv=>put a kv.1 kv.2) []
def kt {α:Type}{put:List (Z0×α)->Z0->α->List (Z0×α)}(hp:∀a k v,(put a k v).length<=a.length+1)(ks:List Z0)(ys:List α):(Dv put ks ys).length<=ks.length:=by
 have key:∀(l:List (Z0×α)) (acc:List (Z0×α)),(l.foldl (λa kv=>put a kv.1 kv.2) acc).length<=acc.length+l.length:=by
  intro l
  induction l with
  | nil=>intro acc;simp
  | cons x l ih=>intro acc;have h1:=ih (put acc x.1 x.2);have h2:=hp acc x.1 x.2;rw[EF,YF];omega
 have h:=key (ks.zip ys) [];rw[DE] at h;unfold Dv;simp only[List.length_nil] at h;omega
def bN (K:WY)(ta:TA):TE:=λσ H Q=>ta σ H λvs H1=>∃(l1 l2:WP) (ks:List Z0) (ys:List V),vs=[.ref l1,.ref l2]/\Uz K H1 l1 (ks.map kV)/\Uz K H1 l2 ys/\ks.length=ys.length/\ks.length<=1000/\
 ∀p,H1 p=none->Q (.ref p) (Yz H1 p (.dK (Dv Wt ks ys)))
def gX {ks:List Z0}{ys:List V}(hl:ks.length=ys.length)(rv:Yd ys us):KV (Dv Wt ks ys) ((List.range ks.length).foldl (λa j=>stored a ((ks[j]?).getD (.inl 0)) ((us.toArray[j]?).getD .none)) []):=by
 have key:∀i,i<=ks.length->KV (((ks.zip ys).take i).foldl (λa kv=>Wt a kv.1 kv.2) []) ((List.range i).foldl (λa j=>stored a ((ks[j]?).getD (.inl 0)) ((us.toArray[j]?).getD .none)) []):=by
  intro i
  induction i with
  | zero=>intro _;exact .nil
  | succ i ih=>
   intro hi;have hk:ks[i]?=some ks[i]:=by simp[show i<ks.length by omega]
   have hy:ys[i]?=some (ys[i]'(by omega)):=by simp[show i<ys.length by omega]
   obtain⟨u,hu,ru⟩:=rv.get hy;have hz:(ks.zip ys)[i]?=some (ks[i],ys[i]'(by omega)):=by rw[BU];exact⟨hk,hy⟩
   have hu':us.toArray[i]?=some u:=by simpa using hu
   rw[FA,EQ,YD,hz,Option.toList_some,EQ];simp only[List.foldl_cons,List.foldl_nil,hk,hu',Option.getD_some];exact(ih (by omega)).put _ ru
 have h:=key ks.length (XE _);rw[DW (by rw[DE];omega)] at h;exact h
section
variable {X:Cx}
def yT {a c:WW}{p pos p2 pos2:Pos}(hc:X.calm=true)(hg:Gl X "dict")(hm:X.mg "dict"=none)(hg2:Gl X "zip")(hm2:X.mg "zip"=none)(ha:PA X [a,c] ta)(hs:autoParam (starEach [a,c] X.env=(false,eval a X.env)::starEach [c] X.env) QzR)(hp:autoParam ((backTo pos2 (starEach [c] X.env)).any (·.1)=false) QzR)
  (hs2:autoParam (starEach [.Call (.Name "zip" p2) [a,c] [] pos2] X.env=[(false,eval (.Call (.Name "zip" p2) [a,c] [] pos2) X.env)]) QzR) (hb:autoParam (bootBuiltins "zip"=some (.type "zip")) QzK) (hb2:autoParam (bootBuiltins "dict"=some (.type "dict")) QzK):
  PE X (.Call (.Name "dict" p) [.Call (.Name "zip" p2) [a,c] [] pos2] [] pos) (bN X.K ta):=by
 intro WZ s σ H Q I h;refine Call_ (Wm I hg hm hb2 (BF ?_ hs2 FL));rw[hs2];show wpAny _ _ (spliced ((false,eval (.Call (.Name "zip" p2) [a,c] [] pos2) X.env)::backTo pos [])) _ _ s;refine CP (Call_ (Wm I hg2 hm2 hb (BF (Jy (ha pos2 WZ s σ H _ I h) λus s1 ⟨vs,H1,I1,r1,q1⟩=>?_) hs hp)));obtain⟨l1,l2,ks,ys,rfl,hq1,hq2,hlen,hsz,q⟩:=q1;obtain⟨u,v,rfl,ru,rv⟩:=r1.two
 cases ru
 cases rv
 obtain⟨its1,rv1,p1,_⟩:=I1.tuple hq1;obtain⟨its2,rv2,p2',_⟩:=I1.tuple hq2;have lt1:l1<s1.heap.objs.size:=by obtain⟨_,e,_⟩:=p1;exact XD e
 have lt2:l2<s1.heap.objs.size:=by obtain⟨_,e,_⟩:=p2';exact XD e
 have n1:its1.toArray.size=ks.length:=by rw[XJ,<-rv1.length,XI]
 have n2:its2.toArray.size=ys.length:=by rw[XJ,<-rv2.length]
 refine Rz false false p1 p2' λh2 N=>?_;refine DG ?_;generalize hk:s1.heap.objs.size=k at N lt1 lt2;have Z:=Nf lt1 lt2;have st:ZS (k+4) (k+2) (k+3) k (k+1) l1 l2 its1.toArray its2.toArray 0 h2:=by
  refine⟨.inl (hk▸N.zip),hk▸N.its,⟨_,_,hk▸N.own⟩,⟨⟨_,hk▸N.i1,FL,FL⟩,Heap.IsTuple.at (show s1.heap.IsTuple l1 its1.toArray from p1) λo q=>N.keep _ o q⟩,⟨⟨_,hk▸N.i2,FL,FL⟩,Heap.IsTuple.at (show s1.heap.IsTuple l2 its2.toArray from p2') λo q=>N.keep _ o q⟩⟩
 have hkk:∀i x,its1.toArray[i]?=some x->(Yq X.prog X.w).is ((ks[i]?).getD (.inl 0)) x=true:=λi x hx=>by
  have hi:i<ks.length:=by
   have:=(Array.getElem?_eq_some_iff.mp hx).1;omega
  have hk':ks[i]?=some ks[i]:=by simp[hi]
  have hm':(ks.map kV)[i]?=some (kV ks[i]):=by rw[XM,hk'];rfl
  obtain⟨u,hu,ru⟩:=rv1.get hm';have:u=x:=by
   have e:its1[i]?=some x:=by simpa using hx
   rw[hu] at e;exact YH e
  subst this;rw[hk'];exact Iy ru
 have old:∀b o,s1.heap.get? b=some o->b∉[k+4,k+3,k,k+1]:=λb o q hb=>by
  have:b<k:=hk▸XD q;simp only[ZM,ZN,or_false] at hb
  rcases hb with e | e | e | e
  ·rw[e] at this;exact DK (BG k 4) this
  ·rw[e] at this;exact DK (BG k 3) this
  ·rw[e] at this;exact BL k this
  ·rw[e] at this;exact DK (BG k 1) this
 refine Ar (s:={s1 with heap:=h2}) (knd:=Yq X.prog X.w) (I.ok.hd hc) Z (XH lt1) (XH (BX lt2)) (by omega) (λj=>(ks[j]?).getD (.inl 0)) hkk (by omega) s1.heap old N.keep (hk▸N.zip) st λh3 tk3 keep dd=>?_;have hp3:s1.heap.objs.size<=h2.objs.size:=by
  have:=XD (hk▸N.zip:IsZip h2 (k+4) (k+2) (k+3) .none);rw[hk];exact XN (BG _ _) (CI this)
 rw[n1] at dd;have big:(h2.objs.size==sysModules)=false:=beq_eq_false_iff_ne.mpr (Ne.symm (XH (XG I1.big hp3)));have zl:(Dv Wt ks ys).length<=sizeLine:=by
  have:=kt (α:=V) (put:=Wt) (λa k v=>by unfold Wt;split<;>simp) ks ys;exact XN (XN this hsz) (by decide)
 exact⟨.ref _,_,I1.laid (h':=h3) (t':=tk3) keep hp3 (Ft zl big (gX hlen rv2) dd),FL,q _ (I1.hok.fresh hp3)⟩
end
end L2
namespace WL
open PySem PySem.Spec PyProof.Rows L2
def a8 (a:WA):WE:=λτ C Q χ=>a τ C (λvs C1=>∃(zs:List Str) (ts:List T),vs=[.tup (zs.map T.str),.tup ts]/\zs.length=ts.length/\zs.length<=1000/\∀p,C1 p=none->Q (.ref p) (up C1 p (.dic (Dv Yy (zs.map Sum.inr) ts)))) χ
def Dg {K:WY}:∀{zs:List Str} {ys:List V},Reps K H ys (zs.map T.str)->ys=(zs.map (Sum.inr:Str->Z0)).map kV
 | [],_,h=>by rw[Xe h];rfl
 | z::zs,_,h=>by obtain⟨y,r,rfl,a,b⟩:=Y0 h;rw[Xm a,Dg b];rfl
def gh {K:WY}(r:Reps K H ys ts):PR K H (Dv Wt ks ys) (Dv Yy ks ts):=by
 unfold Dv;have key:∀(ks:List Z0) (ys:List V) (ts:List T) (a:List (Z0×V)) (b:List (Z0×T)),Reps K H ys ts->PR K H a b->PR K H ((ks.zip ys).foldl (λa kv=>Wt a kv.1 kv.2) a) ((ks.zip ts).foldl (λa kv=>Yy a kv.1 kv.2) b):=by
  intro ks
  induction ks with
  | nil=>intro ys ts a b r h;exact h
  | cons k ks ih=>
   intro ys ts a b r h
   cases ts with
   | nil=>rw[Xe r];exact h
   | cons t ts=>
    obtain⟨y,r',rfl,q,q'⟩:=Y0 r;simp only[List.zip_cons_cons,List.foldl_cons];exact ih _ _ _ _ q' (PR.put h q)
 exact key ks ys ts [] [] r .nil
section
variable {X:Cx}{a c:WW}{wA:WA}{p pos p2 pos2:Pos}
def cj (hc:X.calm=true)(hg:Gl X "dict")(hm:X.mg "dict"=none)(hg2:Gl X "zip")(hm2:X.mg "zip"=none)(ha:yu X [a,c] wA)(hs:autoParam (starEach [a,c] X.env=(false,eval a X.env)::starEach [c] X.env) QzR)(hp:autoParam ((backTo pos2 (starEach [c] X.env)).any (·.1)=false) QzR)
  (hs2:autoParam (starEach [.Call (.Name "zip" p2) [a,c] [] pos2] X.env=[(false,eval (.Call (.Name "zip" p2) [a,c] [] pos2) X.env)]) QzR):Js X (.Call (.Name "dict" p) [.Call (.Name "zip" p2) [a,c] [] pos2] [] pos) (a8 wA):=by
 obtain⟨t,p1,s⟩:=ha;refine⟨_,yT hc hg hm hg2 hm2 p1 hs hp hs2,λF H C σ τ Q Q' χ R S h q=>?_⟩;refine s F H C σ τ _ _ χ R S h λxs vs H1 C1 R1 t1 rs h1=>?_;obtain⟨zs,ts,rfl,hl,hz,h1⟩:=h1;obtain⟨x1,r1,rfl,q1,rs⟩:=Y0 rs;obtain⟨x2,r2,rfl,q2,rs⟩:=Y0 rs
 cases Xe rs
 obtain⟨a1,ys1,rfl,sq1,e1⟩:=Yi q1;obtain⟨a2,ys2,rfl,sq2,e2⟩:=Yi q2
 cases Dg e1
 refine⟨a1,a2,zs.map Sum.inr,ys2,FL,sq1,sq2,by rw[XI,e2.length];exact hl,by rw[XI];exact hz,λpp hpp=>?_⟩;have tn:Tx H1 (Yz H1 pp (.dK (Dv Wt (zs.map Sum.inr) ys2))):=Tx.new hpp;exact q _ _ _ _ (R1.new (o:=.dic (Dv Yy (zs.map Sum.inr) ts)) hpp ⟨_,Z3,Lr tn (gh e2)⟩) (t1.trans tn) Y6 (h1 pp (R1.free hpp))
end
end WL
namespace L2
open PySem PySem.Spec PyProof.Rows
section
variable {X:Cx}
def aO (te:TE):TE:=λσ H Q=>te σ H λx H1=>(∃z:Str,x=.str z/\z.length<=sizeLine/\Q (.str z) H1)\/∃i:Int,x=.int i/\i.natAbs.log2<1920/\Q (.str (toString i)) H1
def tJ:List TE->Str->TE
 | [],out=>λ_ H Q=>Q (.str out) H
 | t::ts,out=>λσ H Q=>t σ H λx H1=>∃z:Str,x=.str z/\(out++z).length<=sizeLine/\tJ ts (out++z) σ H1 Q
inductive fT (X:Cx):List Expr->List TE->Prop
 | nil:fT X [] []
 | cons {e:WW} {es:List WW} {t:TE} {ts:List TE} (h:PE X e t) (r:fT X es ts):fT X (e::es) (t::ts)
end
end L2
namespace WL
open PySem PySem.Spec PyProof.Rows L2
def eJ:List WE->Str->WE
 | [],out=>λ_ C Q _=>Q (.str out) C
 | w::ws,out=>λτ C Q χ=>w τ C (λv C1=>∃z:Str,v=.str z/\(out++z).length<=sizeLine/\eJ ws (out++z) τ C1 Q χ) χ
section
variable {X:Cx}{e k v:WW}{we wk wv:WE}{pos:Pos}
def aX (X:Cx)(es:List WW)(ws:List WE):Prop:=∃ts,fT X es ts/\∀(out:Str),Ug X.K (tJ ts out) (eJ ws out)
def ce (k v:WE):WE:=λτ C Q χ=>∀p,C p=none->k τ (up C p (.dic [])) (λx C1=>v τ C1 (λy C2=>∃kk,kT x=some kk/\C2 p=some (.dic [])/\Q (.ref p) (up C2 p (.dic [(kk,y)]))) χ) χ
end
end WL
namespace L2
open PySem PySem.Spec PyProof.Rows
section
variable {X:Cx}
end
end L2
namespace WL
open PySem PySem.Spec PyProof.Rows L2
section
variable {X:Cx}
end
end WL
namespace L2
open PySem PySem.Spec PyProof.Rows
open AutoSeq1 (wpAny_loadPart')
section
variable {prog:WO}{w:WN}{A:WM}{E:WQ->WR->Prop}{s:WR}
def yg (z:Nat){P:Nat->WQ->Prop}{St:Nat->WU->Prop}(D:Draws prog w A it fp n P St):
  Draws prog w A it fp (n+z) (λi v=>∃j,i=j+z/\P j v) (λi h=>∃j,i=j+z/\St j h) where
 live:=λ_ _ ⟨_,_,st⟩=>D.live _ _ st
 frame:=λ_ _ _ ⟨j,e,st⟩ k=>⟨j,e,D.frame _ _ _ st k⟩
 item:=λi s Q E hi ⟨j,e,st⟩ hQ=>by
  subst e;exact D.item j s Q E (by omega) st λx h' tk hp st' hs=>hQ x h' tk ⟨j,FL,hp⟩ ⟨j+1,by omega,st'⟩ hs
 done:=λs Q E ⟨j,e,st⟩ hE=>by
  have:j=n:=by omega
  subst this;exact D.done s Q E st hE
end
def gB {k l:WP}(h1:l<k):k+1∉[k,l]:=λz=>by
 simp only[ZM,ZN,or_false] at z
 rcases z with z | z
 ·exact Nat.succ_ne_self k z
 ·exact Nat.lt_asymm h1 (z▸BJ k)
section
variable {X:Cx}{elts:List WW}{ek:Nat}{epos:Pos}
def ke (I:Zy X WZ σ H s):∀b∈[s.heap.objs.size+1,s.heap.objs.size],M3 X WZ H b:=λb hb=>by
 have e:s.heap.objs.size<=b:=by
  rcases BC.mp hb with e | hb
  ·omega
  ·have e:b=s.heap.objs.size:=by simpa using hb
   omega
 exact I.fpOk e (I.hok.fresh e)
end
end L2
namespace WL
open PySem PySem.Spec PyProof.Rows L2
def wq (z:Nat)(xs:List T):List T:=xs.zipIdx.map λc=>T.tup [.int ((c.2+z:Nat):Int),c.1]
def Gy:(wq z xs).length=xs.length:=by unfold wq;simp
def jQ {xs:List T}{i:Nat}(h:xs[i]?=some x):(wq z xs)[i]?=some (.tup [.int ((i+z:Nat):Int),x]):=by
 unfold wq;simp[h]
section
variable {X:Cx}{a:WW}{wA:WA}{p pos kp kc:Pos}{j:Nat}
end
section
variable {X:Cx}
def iu:W2:=λx y C Q=>∃a k xs,x=.ref a/\y=.int k/\C a=some (.lst xs)/\0<=k/\k<=1000/\xs.length*k.toNat<=sizeLine/\∀p,C p=none->Q (.ref p) (up C p (.lst (List.replicate k.toNat xs).flatten))
def Reps.rep {K:WY}(h:Reps K H ys vs):∀n:Nat,Reps K H (List.replicate n ys).flatten (List.replicate n vs).flatten
 | 0=>Yv
 | n+1=>by rw[BV,BV,CG,CG];exact h.app (Reps.rep h n)
def uS:Hf X (binaryOp .Mult) iu:=⟨_,mS,λF H C x y v u Q Q' R rx ry h q=>by
 obtain⟨a,k,xs,rfl,rfl,ha,h0,h1,h2,h⟩:=h
 cases Z1 rx;cases Yn ry
 obtain⟨zs,hz,rz⟩:=R.lst ha;exact⟨a,k,zs,FL,FL,hz,by omega,by omega,by rw[rz.length];exact h2,λp hp=>q _ _ _ _ (R.newL hp (rz.rep k.toNat)) (Tx.new hp) Y6 (h p (R.free hp))⟩⟩
end
end WL
namespace L2
open PySem PySem.Spec PyProof.Rows
section
variable {X:Cx}{WZ:List (WP×Obj)}{σ:St}{H:Hp}{s:WR}{a b:WP}{kvs more:List (Z0×V)}{A:WM}{E:WQ->WR->Prop}
def sv {Q:WQ->WR->Prop}(I:Zy X WZ σ H s)(e:H a=some (.dK kvs))(e2:H b=some (.dK more))(hab:a≠b)(hsz:kvs.length+more.length<=sizeLine)(h:∀s',Zy X WZ σ (Yz H a (.dK (Pz kvs more))) s'->Q .none s'):
  wpAny (model X.prog X.w) A (call (.builtin "dict.update") [.ref a,.ref b]) Q E s:=by
 obtain⟨z,hd,vs,rel,dd⟩:=xp I.hok e;obtain⟨z2,hd2,vs2,rel2,dd2⟩:=xp I.hok e2;refine call_meetsIn PySem.F.slot_dict_update dd.typeIs PySem.F.entry_dict_update (PySem.F.args_dict_update_2 _ _) (meets_dict_update (Yq X.prog X.w) a b hab hd2) ⟨vs,vs2,dd,dd2,by rw[<-rel.length,<-rel2.length];exact hsz,λh' dd' _ hs=>h _ ?_⟩;have he:∃q,h'.get? a=some q:=let ⟨q,_,_,hq,_⟩:=dd';⟨q,hq⟩
 exact Ga (t':=s.toks) I (by rw[e];exact True.intro) hs he (Ft (XN (To more kvs) hsz) hd (KV.merge rel2 rel) dd')
end
section
variable {X:Cx}{o e:WW}{apos cpos:Pos}{td ty:TE}
def iI (td ty:TE):TE:=λσ H Q=>td σ H λx H1=>∃a,x=.ref a/\fZ H1 a/\ty σ H1 λy H2=>∃b kvs more,y=.ref b/\a≠b/\H2 a=some (.dK kvs)/\H2 b=some (.dK more)/\kvs.length+more.length<=sizeLine/\Q .non (Yz H2 a (.dK (Pz kvs more)))
def qu (ho:PE X o td)(he:PE X e ty)(m:M1 X o "update" apos e cpos):PE X (.Call (.Attribute o "update" apos) [e] [] cpos) (iI td ty):=by
 intro WZ s σ H Q I h;refine wpAny_Call_method m.base m.few m.line EN PySem.F.slot_dict_update PySem.F.type_dict_update (Jy (ho WZ s σ H _ I h) λu s1 ⟨x,H1,I1,rx,a,ex,d,q1⟩=>?_);subst ex;obtain rfl:u=Value.ref a:=rx;obtain⟨t1,t2,_⟩:=jg I1 d;refine⟨t1,t2,?_⟩;rw[m.trees];refine DD FL (EY (CP (Jy (he WZ s1 σ H1 _ I1 q1) λiv s2 ⟨y,H2,I2,ry,b,kvs,more,ey,hab,ea,eb,hz,q2⟩=>DG ?_)));subst ey;obtain rfl:iv=Value.ref b:=ry;exact sv I2 ea eb hab hz λs3 I3=>⟨.non,_,I3,FL,q2⟩
end
end L2
namespace WL
open PySem PySem.Spec PyProof.Rows L2
def Z8 (kvs more:List (Z0×T)):List (Z0×T):=more.foldl (λacc kv=>Yy acc kv.1 kv.2) kvs
def PR.merge {K:WY}:∀{ms:List (Z0×V)} {mw:List (Z0×T)} {ks:List (Z0×V)} {kw:List (Z0×T)},PR K H ms mw->PR K H ks kw->PR K H (Pz ks ms) (Z8 kw mw):=by
 intro ms mw ks kw r
 induction r generalizing ks kw with
 | nil=>intro q;exact q
 | @cons p q ps qs h t ih=>
  intro r0;have e:PR K H (Wt ks p.1 p.2) (Yy kw q.1 q.2):=by rw[<-h.1];exact PR.put r0 h.2
  exact ih e
abbrev kK:=Sw->Hw->(List (Z0×T)->Hw->Prop)->WX->Prop
def mO:kK:=λ_ C Q _=>Q [] C
def z9 (k v:WE)(r:kK):kK:=λτ C Q χ=>k τ C (λx C1=>v τ C1 (λy C2=>r τ C2 (λps C3=>∃kk,kT x=some kk/\Q ((kk,y)::ps) C3) χ) χ) χ
def jm (r:kK):WE:=λτ C Q χ=>∀p,C p=none->r τ (up C p (.dic [])) (λps C2=>C2 p=some (.dic [])/\ps.length<=15/\Q (.ref p) (up C2 p (.dic (Z8 [] ps)))) χ
def fD (K:WY)(trs:List (TE×TE))(w:kK):Prop:=∀(F H:Hp) (C:Hw) (σ:L2.St) (τ:Sw) (Q:List (V×V)->Hp->Prop) (Q':List (Z0×T)->Hw->Prop) (χ:WX),Rl K F H C->Xv K H σ τ->w τ C Q' χ->
 (∀(kvs:List (Z0×V)) (ps:List (Z0×T)) H' C',Rl K F H' C'->Tx H H'->PR K H' kvs ps->Q' ps C'->Q (kvs.map λkv=>(kV kv.1,kv.2)) H')->Cr trs σ H Q
def pV (X:Cx)(pos:Pos)(ks:List (Option WW))(vs:List WW)(w:kK):Prop:=∃trs,fF X pos ks vs trs/\fD X.K trs w
section
variable {X:Cx}{pos apos cpos:Pos}{k v o e:WW}{ks:List (Option WW)}{vs:List WW}{wk wv wo we:WE}{w:kK}
def Nn:pV X pos [] [] mO:=⟨_,qm,λF H C σ τ Q Q' χ R S h q=>q [] [] H C R (Tx.refl H) .nil h⟩
def Y1 (hk:Js X k wk)(hv:Js X v wv)(hr:pV X pos ks vs w):pV X pos (some k::ks) (v::vs) (z9 wk wv w):=by
 obtain⟨tk,p1,s1⟩:=hk;obtain⟨tv,p2,s2⟩:=hv;obtain⟨tr,p3,s3⟩:=hr;refine⟨_,uE p1 p2 p3,λF H C σ τ Q Q' χ R S h q=>?_⟩;refine s1 F H C σ τ _ _ χ R S h λx u H1 C1 R1 t1 rx h1=>?_;refine s2 F H1 C1 σ τ _ _ χ R1 (S.tx t1) h1 λy u2 H2 C2 R2 t2 ry h2=>?_;refine s3 F H2 C2 σ τ _ _ χ R2 (S.tx (t1.trans t2)) h2 λkvs ps H3 C3 R3 t3 pr h3=>?_;obtain⟨kk,hk,h3⟩:=h3;have ex:x=kV kk:=Lp hk rx;subst ex;exact q ((kk,y)::kvs) ((kk,u2)::ps) H3 C3 R3 ((t1.trans t2).trans t3) (.cons ⟨FL,ry.tx t3⟩ pr) h3
def No (h:pV X pos ks vs w)(hall:autoParam (ks.all (·.isSome)=true) QzR)(hl:autoParam (ks.length=vs.length) QzR)(h0:ks≠[]:=by simp)(h15:ks.length<=15:=by simp):Js X (.Dict ks vs pos) (jm w):=by
 obtain⟨tr,p1,s1⟩:=h;refine⟨_,qv p1 hall hl h0 h15,λF H C σ τ Q Q' χ R S h q=>?_⟩;intro p hp;have tn:Tx H (Yz H p (.dK [])):=Tx.new hp;have R0:Rl X.K F (Yz H p (.dK [])) (up C p (.dic [])):=R.new hp ⟨[],Z3,.nil⟩;refine s1 F _ _ σ τ _ _ χ R0 (S.tx tn) (h p (R.free hp)) λkvs ps H1 C1 R1 t1 pr h1=>?_;obtain⟨hC,hlen,h1⟩:=h1;obtain⟨ks0,hH,pr0⟩:=R1.dic hC
 cases pr0
 obtain⟨R3,t3⟩:=R1.putD hC (PR.merge pr .nil);exact⟨hH,kvs,FL,by rw[pr.length];exact hlen,q _ _ _ _ R3 ((tn.trans t1).trans t3) Y6 h1⟩
def sn (o e:WE):WE:=λτ C Q χ=>o τ C (λx C1=>(∃a kvs,x=.ref a/\C1 a=some (.dic kvs))/\e τ C1 (λy C2=>∃a b kvs more,x=.ref a/\y=.ref b/\a≠b/\C2 a=some (.dic kvs)/\C2 b=some (.dic more)/\kvs.length+more.length<=sizeLine/\Q .non (up C2 a (.dic (Z8 kvs more)))) χ) χ
def Fv (ho:Js X o wo)(he:Js X e we)(m:M1 X o "update" apos e cpos):Js X (.Call (.Attribute o "update" apos) [e] [] cpos) (sn wo we):=by
 obtain⟨ta,p1,s1⟩:=ho;obtain⟨tb,p2,s2⟩:=he;refine⟨_,qu p1 p2 m,λF H C σ τ Q Q' χ R S h q=>?_⟩;refine s1 F H C σ τ _ _ χ R S h λx v H1 C1 R1 t1 rx h1=>?_;obtain⟨⟨l,kvs0,rfl,hC0⟩,h1⟩:=h1
 cases Z1 rx
 obtain⟨ks0,hH0,_⟩:=R1.dic hC0;refine⟨l,FL,.inl ⟨ks0,.inl hH0⟩,?_⟩;refine s2 F H1 C1 σ τ _ _ χ R1 (S.tx t1) h1 λy u H2 C2 R2 t2 ry h2=>?_;obtain⟨a,b,kvs,more,e1,rfl,hab,hCa,hCb,hz,h3⟩:=h2
 cases e1
 cases Z1 ry
 obtain⟨ka,hHa,pa⟩:=R2.dic hCa;obtain⟨kb,hHb,pb⟩:=R2.dic hCb;obtain⟨R3,t3⟩:=R2.putD hCa (PR.merge pb pa);exact⟨b,ka,kb,FL,hab,hHa,hHb,by rw[pa.length,pb.length];exact hz,q _ _ _ _ R3 ((t1.trans t2).trans t3) Nj h3⟩
end
end WL
namespace L2
open PySem PySem.Spec PyProof.Rows
def ni (_ j:Int):Prop:=0<j/\j.natAbs.log2<9000
section
variable {X:Cx}
def uN:Kt X (binaryOp .FloorDiv) (rI ni λi j=>.int (i/j)):=fQ λi j _ _ _ _ _ hc q=>by
 have h1:(0:Int)<j:=hc.1;exact floordiv_int (by omega) (by rw[Int.fdiv_eq_ediv_of_nonneg i (by omega)];exact q) (.inl (PyProof.noPylong_of_log2 hc.2))
end
end L2
namespace WL
open PySem PySem.Spec PyProof.Rows L2
def oi:W2
 | .int i,.int j,C,Q=>ni i j/\Q (.int (i/j)) C
 | _,_,_,_=>False
section
variable {X:Cx}
set_option tactic.hygienic true
def lg:Hf X (binaryOp .FloorDiv) oi:=⟨_,uN,λF H C x y v u Q Q' R rx ry h q=>by
 cases v<;>cases u<;>first | exact False.elim h | skip
 case int.int i j=>cases Yn rx;cases Yn ry;exact⟨i,j,FL,FL,h.1,q _ _ H C R (Tx.refl H) Ja h.2⟩⟩
set_option tactic.hygienic false
end
section
variable {P:WO}{w:WN}{K:WY}{mg:Str->Option WQ}{base h:WU}{x q cn:Str}{st:WV}{ps:List Str}{pr:List Df}{n i j ar:Nat}{sp:Sp}{Cl:WP}
def Fg (K:WY)(x:Str)(st:WV):Prop:=∃f fd,W.nsIn K mainGlobals x=some (some (.ref f))/\j8 K x x st f fd
def Fh (K:WY)(Cl:WP)(x q:Str)(st:WV):Prop:=∃f fd,vb K Cl x f/\j8 K x q st f fd
def Ld (K:WY)(mg:Str->Option WQ)(x:Str)(st:WV)(ps:List Str):Prop:=∃f fd,j8 K x x st f fd/\Wz K fd ps []/\mg x=some (.ref f)
def Lm (K:WY)(Cl:WP)(x q:Str)(st:WV)(ps:List Str):Prop:=∃f fd,vb K Cl x f/\j8 K x q st f fd/\Wz K fd ps []
def Bq (x q:Str)(st:WV)(ps:List Str):Prop:=∀(kV doc pm:WQ) (an:Option WP) (cdv ct:WQ) (us:List WQ),us.length=ps.length->bindArgs (W.fnOf x q (Rw st) (Vm st) (Zq st) .none kV doc pm an cdv ct) ⟨us,[]⟩=pure (ps.zip us)
def Jo (X:K.In h)(G:h.Ns mainGlobals mg)(l:Fg K x st)(hb:Bq x x st ps):Ld K mg x st ps:=by
 obtain⟨f,fd,a,F⟩:=l;exact⟨f,fd,F,F.binds hb,W.mg_of X G a⟩
def Mp (L:Ld K mg x st ps):Ca P w K mg base 0 x ps (spW K pr 0 i):=by
 obtain⟨f,fd,F,B,M⟩:=L;exact pC F B M
def Mo (L:Ld K mg x st ps)(G:∀{f fd},j8 K x x st f fd->U0 P w K mg base CX0 n f fd ps sp):Ca P w K mg base n x ps sp:=by
 obtain⟨f,fd,F,B,M⟩:=L;exact pD F B M (G F)
def G7 (l:Fh K Cl x q st)(hb:Bq x q st ps):Lm K Cl x q st ps:=by
 obtain⟨f,fd,a,F⟩:=l;exact⟨f,fd,a,F,F.binds hb⟩
def lA (k:Kl K mg cn Cl)(L:Lm K Cl x q st ps):Cm P w K mg base 0 cn x ps (spW K pr 0 i):=by
 obtain⟨f,fd,M,F,B⟩:=L;exact oS k M wH B
def ly (k:Kl K mg cn Cl)(L:Lm K Cl x q st ps)(G:∀{f fd},j8 K x q st f fd->U0 P w K mg base CX0 n f fd ps sp):Cm P w K mg base n cn x ps sp:=by
 obtain⟨f,fd,M,F,B⟩:=L;exact oS k M (G F) B
def aj (hj:pr[j]?=some ⟨ar,ar,xI cn i⟩)(k:Kl K mg cn Cl)(mk:W.makesIn K Cl=true)(kc:W.keepIn K (.ref Cl)=true)(L:Lm K Cl "__init__" q st ps):Cn P w K mg base 0 pr cn i j:=by
 obtain⟨f,fd,M,F,B⟩:=L;exact px hj k ⟨mk,M.at_,M.fn,kc⟩
def cP {k:Nat}{Q:Calls}(hP:Yg pr k=Q)(h:Js X e (Qm (Yg pr k) i wA)):Js X e (Qm Q i wA):=hP▸h
def mP {k:Nat}{Q:Calls}(hP:Yg pr k=Q)(h:Js X e (Kh (Yg pr k) tb m wo wA)):Js X e (Kh Q tb m wo wA):=hP▸h
end
end WL
namespace L2
open PySem PySem.Spec PyProof.Rows
def nj:typeLookup (.type "zip") "__len__"=pure none:=by rw[typeLookup_type];rw[builtinLookup_eq_fast];kernel_rfl
def rG:typeLookup (.type "zip") "__length_hint__"=pure none:=by rw[typeLookup_type];rw[builtinLookup_eq_fast];kernel_rfl
abbrev j7 (h:WU)(S:WP)(acc:Array WQ):Prop:=∃c,h.get? S=some {cls:=.type "list",data:=.seq acc c}
section
variable {prog:WO}{w:WN}{A:WM}{E:WQ->WR->Prop}{s:WR}{z TI TO i1 i2 l1 l2:WP}{xs ys:Array WQ}
def tH {Q:Bool->WR->Prop}(hT:s.TypeIs (.ref z) "zip")(h:Q true s):wpAny (model prog w) A (Builtin.List.listLengthHint (.ref z)) Q E s:=by
 unfold Builtin.List.listLengthHint;refine XA (wpAny_specialOf hT nj ?_);show wpAny _ A (specialOf (Value.ref z) (Str.ofString "__length_hint__")>>=_) _ _ _;refine XA (wpAny_specialOf hT rG ?_);exact XB h
def Lb {f:Array WQ->Array WQ}{Q:Unit->WR->Prop}(hS:j7 s.heap S acc)(h1:acc.size<=sizeLine)(h2:(f acc).size<=sizeLine+1)
  (h:∀h',j7 h' S (f acc)->Heap.SameBut S s.heap h'->Q () {s with heap:=h'}):wpAny (model prog w) A (updateSeq S f) Q E s:=by
 obtain⟨c,hS⟩:=hS;refine wpAny_updateSeq hS FL (h _ ⟨_,DZ (Obj.mapSeq f) hS FL⟩ ⟨Heap.size_update ..,λb hb=>DV _ _ (Ne.symm hb)⟩) h1 h2
abbrev yv (h:WU)(as:List WP)(ps:List (WQ×WQ)):Prop:=Paired (λa p=>IsPair h a p.1 p.2) as ps
def yv.at {h h':WU}(p:yv h as ps):(∀a∈as,∀o,h.get? a=some o->h'.get? a=some o)->yv h' as ps:=by
 induction p with
 | nil=>exact λ_=>.nil
 | cons r t ih=>exact λk=>.cons (k _ (BD ..) _ r) (ih λa ha=>k a (XV _ ha))
def yv.app (p:yv h as ps)(q:IsPair h a x y):yv h (as++[a]) (ps++[(x,y)]):=by
 induction p with
 | nil=>exact .cons q .nil
 | cons r t ih=>exact .cons r ih
def yv.mem (p:yv h as ps){a:WP}(q:a∈as):∃o,h.get? a=some o:=by
 induction p with
 | nil=>cases q
 | cons r t ih=>
  rcases BC.mp q with rfl | q
  ·exact⟨_,r⟩
  ·exact ih q
def ZS.alive (st:ZS z TI TO i1 i2 l1 l2 xs ys i h):∀b∈[z,TO,i1,i2],∃o,h.get? b=some o:=by
 obtain⟨a,b,⟨u,v,c⟩,⟨⟨o1,d,_⟩,_⟩,⟨⟨o2,e,_⟩,_⟩⟩:=st;intro x hx;simp only[ZM,ZN,or_false] at hx
 rcases hx with rfl | rfl | rfl | rfl
 ·rcases a with a | ⟨T,b,a,_⟩
  ·exact⟨_,a⟩
  ·exact⟨_,a⟩
 ·exact⟨_,c⟩
 ·exact⟨_,d⟩
 ·exact⟨_,e⟩
def qH {S:WP}(hh:A.handled=none)(Z:j3 z TI TO i1 i2 [i1,l1] [i2,l2])(h1:l1≠i1)(h2:l2≠i2)(hn:xs.size=ys.size)(hS:S∉[z,TI,TO,i1,i2,l1,l2])(hsz:xs.size<=1000)
  {R:Result->WR->Prop} (h₀:WU) (hlt:∀b o,h₀.get? b=some o->b≠S/\b∉[z,TO,i1,i2])
  (hR:∀h' tk as,(∀b o,h₀.get? b=some o->h'.get? b=some o)->j7 h' S (as.map Value.ref).toArray->yv h' as (xs.toList.zip ys.toList)->as.Nodup->(∀a∈as,h₀.objs.size<=a/\a≠S)->R (.ok (.ret .none)) {s with heap:=h',toks:=tk}):
  ∀(m i:Nat) (h:WU) (tk:Nat) (as:List WP),xs.size-i=m->i<=xs.size->ZS z TI TO i1 i2 l1 l2 xs ys i h->(∀b o,h₀.get? b=some o->h.get? b=some o)->h₀.objs.size<=h.objs.size->j7 h S (as.map Value.ref).toArray->as.length=i->yv h as ((xs.toList.zip ys.toList).take i)->as.Nodup->
   (∀a∈as,h₀.objs.size<=a/\a≠S/\a∉[z,TO,i1,i2])->
   codeAny (model prog w) A (.builtin "list.extend.loop" ⟨[.ref S,.ref z,.none],[]⟩) R {s with heap:=h,toks:=tk}:=by
 intro m;have hSw:S∉[z,TO,i1,i2]:=λhm=>hS (by simp only[ZM,ZN,or_false] at hm |-;rcases hm with h | h | h | h<;>simp[h])
 induction m with
 | zero=>
  intro i h tk as hm hi st keep hz ls hl pr nd ha;have ei:i=xs.size:=by omega
  subst ei;refine codeAny_builtin PySem.F.entry_extend_loop ?_;show wpAny _ _ (pyNext (.ref z)>>=_) _ _ _;refine XA (vG (A:=A.under _) hh Z h1 st λh' tk' kp=>?_);refine XB ?_;obtain⟨c,ls⟩:=ls;refine hR h' tk' as (λb o q=>kp b o (hlt b o q).2 (keep b o q)) ⟨c,kp _ _ hSw ls⟩ ?_ nd λa q=>⟨(ha a q).1,(ha a q).2.1⟩;have e:(xs.toList.zip ys.toList).take xs.size=xs.toList.zip ys.toList:=List.take_of_length_le (by rw[List.length_zip];simp;omega);rw[e] at pr;exact yv.at pr λa q o z=>kp a o (ha a q).2.2 z
 | succ m ih=>
  intro i h tk as hm hi st keep hz ls hl pr nd ha;refine codeAny_builtin PySem.F.entry_extend_loop ?_;show wpAny _ _ (pyNext (.ref z)>>=_) _ _ _;refine XA (jC (A:=A.under _) hh Z h1 h2 hn (by omega) st λT x y h' tk' hx hy hT hp st' kp=>?_);obtain⟨c,ls⟩:=ls;have lt:∀{b o},h.get? b=some o->b≠T:=λe=>XH (XG (XD e) hT);have hTS:T≠S:=(lt ls).symm;show wpAny _ _ (updateSeq S (λa=>a.push (.ref T))>>=_) _ _ _;have hsz2:(as.map Value.ref).toArray.size<=1000:=by simp[hl];omega
  have sl:(1000:Nat)<=sizeLine:=by decide
  refine XA (Lb ⟨c,kp _ _ hSw ls⟩ (XN hsz2 sl) (by rw[Array.size_push];exact Nat.succ_le_succ (XN hsz2 sl)) λh3 ls3 sb=>?_);refine XB ⟨plainId_quiet EG _,?_⟩;have nS:∀b∈[z,TI,TO,i1,i2,l1,l2],b≠S:=λb hb e=>hS (e▸hb);have alive:∀b,(∃o,h'.get? b=some o)->∃o,h3.get? b=some o:=λb ⟨o,q⟩=>by
   by_cases e:b=S
   ·subst e;obtain⟨c3,q3⟩:=ls3;exact⟨_,q3⟩
   ·exact⟨o,sb.extBut _ _ e q⟩
  have aT:∀a∈as,a≠T:=λa q e=>by
   subst e;obtain⟨o,hp'⟩:=yv.mem pr q;exact lt hp' FL
  refine ih (i+1) h3 _ (as++[T]) (by omega) (by omega) (st'.frame (λb hb o q=>sb.extBut _ _ (nS b hb) q) alive) (λb o q=>sb.extBut _ _ (hlt b o q).1 (kp b o (hlt b o q).2 (keep b o q))) ?_ ?_ ?_ ?_ ?_ ?_
  ·rw[sb.1];exact CI (EI (XN hz hT) (XD hp))
  ·rw[XL];simpa using ls3
  ·simp[hl]
  ·have hx':xs.toList[i]?=some x:=by simpa using hx
   have hy':ys.toList[i]?=some y:=by simpa using hy
   have e:(xs.toList.zip ys.toList).take (i+1)=(xs.toList.zip ys.toList).take i++[(x,y)]:=by
    rw[YD,show(xs.toList.zip ys.toList)[i]?=some (x,y) from BU.mpr ⟨hx',hy'⟩];rfl
   rw[e];refine yv.app (yv.at pr λa q o z=>sb.extBut _ _ (ha a q).2.1 (kp a o (ha a q).2.2 z)) (sb.extBut _ _ hTS hp)
  ·exact DX.mpr ⟨nd,BZ.mpr ⟨ED,CK⟩,λa q b r=>by rw[XQ.mp r];exact aT a q⟩
  ·intro a q
   rcases XS.mp q with q | q
   ·exact ha a q
   ·rw[XQ.mp q];refine⟨XN hz hT,hTS,λhb=>?_⟩;obtain⟨o,ho⟩:=st.alive _ hb;exact lt ho FL
def t9 {R:Result->WR->Prop}{S:WP}(hh:A.handled=none)(Z:j3 z TI TO i1 i2 [i1,l1] [i2,l2])(h1:l1≠i1)(h2:l2≠i2)(hn:xs.size=ys.size)(hsz:xs.size<=1000)(hSn:S∉[z,TI,TO,i1,i2,l1,l2])
  (h₀:WU) (hlt:∀b o,h₀.get? b=some o->b≠S/\b∉[z,TO,i1,i2]) (keep:∀b o,h₀.get? b=some o->s.heap.get? b=some o) (hz:h₀.objs.size<=s.heap.objs.size) (hz0:IsZip s.heap z TI TO .none) (st:ZS z TI TO i1 i2 l1 l2 xs ys 0 s.heap) (hS:s.heap.get? S=some {cls:=.type "list",data:=.seq #[]})
  (hR:∀h' tk as,(∀b o,h₀.get? b=some o->h'.get? b=some o)->j7 h' S (as.map Value.ref).toArray->yv h' as (xs.toList.zip ys.toList)->as.Nodup->(∀a∈as,h₀.objs.size<=a/\a≠S)->R (.ok (.ret .none)) {s with heap:=h',toks:=tk}):
  wpAny (model prog w) A.in1 (Builtin.«list.__init__» ⟨[.ref S,.ref z],[]⟩)
   (λfin s2=>match fin with | .done f=>R (.ok f) s2 | .again c2=>c2.quiet=true/\codeAny (model prog w) A c2 R s2) (λe s2=>R (.error e) s2) s:=by
 have hSz:S≠z:=λe=>hSn (e▸by simp);have nS:∀b∈[z,TI,TO,i1,i2,l1,l2],b≠S:=λb hb e=>hSn (e▸hb);show wpAny _ A.in1 (Builtin.List.listItems (.ref S)>>=λold=>Builtin.List.listUpdate (.ref S) (λ_=>#[])>>=λ_=>letGo old.toList.reverse>>=λ_=>Builtin.List.listExtendWith (.ref S) (.ref z) .none) _ _ s;unfold Builtin.List.listItems;refine XA ?_;refine XA (wpAny_seqItems hS FL (XB ?_));show wpAny _ A.in1 (updateSeq S (λ_=>#[])>>=λ_=>letGo (#[]:Array WQ).toList.reverse>>=λ_=>Builtin.List.listExtendWith (.ref S) (.ref z) .none) _ _ s;have zl:(0:Nat)<=sizeLine:=XO _;refine XA (Lb (f:=λ_=>#[]) ⟨_,hS⟩ zl (XO _) λha la sa=>?_);have alive:∀{h h':WU} {acc:Array WQ},Heap.SameBut S h h'->j7 h' S acc->∀b,(∃o,h.get? b=some o)->∃o,h'.get? b=some o:=λsb ls b ⟨o,q⟩=>by
  by_cases e:b=S
  ·subst e;obtain⟨c3,q3⟩:=ls;exact⟨_,q3⟩
  ·exact⟨o,sb.extBut _ _ e q⟩
 have sta:ZS z TI TO i1 i2 l1 l2 xs ys 0 ha:=st.frame (λb hb o q=>sa.extBut _ _ (nS b hb) q) (alive sa la);have hza:IsZip ha z TI TO .none:=sa.extBut _ _ hSz.symm hz0;refine XA (wpAny_letGo ?_);unfold Builtin.List.listExtendWith;have hTy:({s with heap:=ha}:WR).TypeIs (.ref z) "zip":=⟨_,hza,FL⟩;refine XA (wpAny_typeOf (T:="zip") hTy ?_);have h1':Builtin.List.listSameRef (.ref S) (.ref z)=false:=by simp[Builtin.List.listSameRef,hSz]
 have h2':(Value.type "zip"==Value.type "list")=false:=by decide
 have h3':(Value.type "zip"==Value.type "tuple")=false:=by decide
 simp only[h1',h2',h3',Bool.or_false,Bool.false_eq_true,if_false];refine XA (wpAny_pyIter_zip (s:={s with heap:=ha}) hza ?_);refine XA (wpAny_holding (tH hTy ?_));refine wpAny_ite_split (λ_=>?_) (λz=>absurd (by rfl) z);refine XA (wpAny_rule ?_);show wpAny _ _ ((updateSeq S (λx=>x.push .none)>>=λ_=>updateSeq S (λx=>x.pop))>>=_) _ _ _;refine wpAny_bind (wpAny_bind (Lb (f:=λx=>x.push .none) la zl (by simp) λhb lb sb=>?_));refine Lb (f:=λx=>x.pop) lb (by simp;decide) (by simp) λhc lc sc=>?_;have stc:ZS z TI TO i1 i2 l1 l2 xs ys 0 hc:=(sta.frame (λb hb' o q=>sb.extBut _ _ (nS b hb') q) (alive sb lb)).frame (λb hb' o q=>sc.extBut _ _ (nS b hb') q) (alive sc lc);refine XB ⟨plainId_quiet EG _,?_⟩;refine qH (s:=s) hh Z h1 h2 hn hSn hsz h₀ hlt hR xs.size 0 hc s.toks [] FL (XO _) stc (λb o q=>?_) ?_ ?_ FL .nil CK (λa q=>nomatch q)
 ·have e:=(hlt b o q).1;exact sc.extBut _ _ e (sb.extBut _ _ e (sa.extBut _ _ e (keep b o q)))
 ·rw[sc.1,sb.1,sa.1];exact hz
 ·simpa using lc
def Am {Q:WQ->WR->Prop}(hh:A.handled=none)(Z:j3 z TI TO i1 i2 [i1,l1] [i2,l2])(h1:l1≠i1)(h2:l2≠i2)(hn:xs.size=ys.size)(hsz:xs.size<=1000)
  (h₀:WU) (hlt:∀b o,h₀.get? b=some o->b∉[z,TO,i1,i2]) (keep:∀b o,h₀.get? b=some o->s.heap.get? b=some o) (hz:h₀.objs.size<=s.heap.objs.size) (hz0:IsZip s.heap z TI TO .none) (st:ZS z TI TO i1 i2 l1 l2 xs ys 0 s.heap)
  (hQ:∀h' tk as,(∀b o,h₀.get? b=some o->h'.get? b=some o)->j7 h' s.heap.objs.size (as.map Value.ref).toArray->yv h' as (xs.toList.zip ys.toList)->as.Nodup->(∀a∈as,h₀.objs.size<=a/\a≠s.heap.objs.size)->Q (.ref s.heap.objs.size) {s with heap:=h',toks:=tk}):
  wpAny (model prog w) A (call (.type "list") [.ref z]) Q E s:=by
 refine callType_codes (Q₁:=λob s1=>ob=.ref s.heap.objs.size/\s1={s with heap:=s.heap.push {cls:=.type "list",data:=.seq #[]}}) PySem.F.called_list (PySem.F.typeCall_list_1 _) PySem.F.entry_list_init (code_list_new _ ⟨FL,FL⟩) λob s1 h1=>?_;obtain⟨rfl,rfl⟩:=h1;have hS:(s.heap.push {cls:=.type "list",data:=.seq #[]}).get? s.heap.objs.size=some {cls:=.type "list",data:=.seq #[]}:=XF _ FL;have hps:∀b o,s.heap.get? b=some o->(s.heap.push {cls:=.type "list",data:=.seq #[]}).get? b=some o:=λb o q=>XC _ q;have ne:∀{b o},s.heap.get? b=some o->b≠s.heap.objs.size:=λq=>XH (XD q);have hSn:s.heap.objs.size∉[z,TI,TO,i1,i2,l1,l2]:=λhm=>by
  simp only[ZM,ZN,or_false] at hm;obtain⟨o1,e1⟩:=st.alive z (by simp);obtain⟨o3,e3⟩:=st.alive TO (by simp);obtain⟨o4,e4⟩:=st.alive i1 (by simp);obtain⟨o5,e5⟩:=st.alive i2 (by simp);obtain⟨o6,e6,_⟩:=st.s1.2;obtain⟨o7,e7,_⟩:=st.s2.2
  rcases hm with e | e | e | e | e | e | e
  ·exact ne e1 e.symm
  ·exact ne st.its e.symm
  ·exact ne e3 e.symm
  ·exact ne e4 e.symm
  ·exact ne e5 e.symm
  ·exact ne e6 e.symm
  ·exact ne e7 e.symm
 refine⟨⟨_,hS,FL⟩,PySem.F.args_list_init_2 _ _,t9 (A:=A.in1) hh Z h1 h2 hn hsz hSn h₀ (λb o q=>⟨ne (keep b o q),hlt b o q⟩) (λb o q=>hps b o (keep b o q)) (by rw[BY];omega) (hps _ _ hz0) (st.frame (λb _ o q=>hps b o q) λb ⟨o,q⟩=>⟨o,hps b o q⟩) hS λh' tk as k ls pr nd ha=>⟨FL,?_⟩⟩;exact hQ h' tk as k ls pr nd ha
end
section
variable {X:Cx}{WZ:List (WP×Obj)}{σ:St}{H:Hp}{s:WR}
def Zy.laids {H':Hp}{h':WU}{t':Nat}(I:Zy X WZ σ H s)(k:∀b u,s.heap.get? b=some u->h'.get? b=some u)(old:∀a o,H a=some o->H' a=some o)(low:∀a,a<s.heap.objs.size->H' a=H a)
  (new:∀a o,s.heap.objs.size<=a->H' a=some o->Ji X.prog X.w H' h' a o):Zy X WZ σ H' {s with heap:=h',toks:=t'}:=by
 refine I.un ⟨λb o q _ _ _=>k b o q,λb o q _ _ _=>⟨o.slots,k b o q⟩,λb o q n _=>(low b (Heap.lt_size q)).trans n,λb o q _=>⟨o,k b o q⟩,λb xs q=>old b _ q,λb o u q=>old b _ q,λb ps q=>⟨#[],by rw[old b _ q];simp⟩⟩ λa o e=>?_;by_cases c:s.heap.objs.size<=a
 ·exact new a o c e
 ·rw[low a (by omega)] at e;exact(I.hok a o e).stay (λb u _ q=>k b u q) (λb q=>old b _ q) λb xs q=>old b _ q
def Su (H:Hp):List WP->List (V×V)->Hp
 | a::as,p::ps=>Su (Yz H a (.tup [p.1,p.2])) as ps
 | _,_=>H
def bK (K:WY)(t:TA):TE:=λσ H Q=>t σ H λvs H1=>∃l1 l2 xs ys,vs=[.ref l1,.ref l2]/\Uz K H1 l1 xs/\Uz K H1 l2 ys/\xs.length=ys.length/\xs.length<=1000/\
 ∀(as:List WP) (p:WP),as.length=xs.length->as.Nodup->p∉as->H1 p=none->(∀a∈as,H1 a=none)->Q (.ref p) (Yz (Su H1 as (xs.zip ys)) p (.lst (as.map V.ref)))
def Ng {a:WP}:∀{as:List WP} {ps:List (V×V)} {H:Hp},a∉as->Su H as ps a=H a
 | [],_,_,_=>by unfold Su;rfl
 | _::_,[],_,_=>by unfold Su;rfl
 | b::as,p::ps,H,h=>by
  unfold Su;rw[Ng λz=>h (XV _ z)];exact Zt λz=>h (by rw[z];exact BD ..)
def jF {a:WP}:∀{as:List WP} {ps:List (V×V)} {H:Hp},as.Nodup->a∈as->as.length=ps.length->Su H as ps a=some o->∃(i:Nat) (p:V×V),as[i]?=some a/\ps[i]?=some p/\o=.tup [p.1,p.2]
 | [],_,_,_,h,_,_=>by cases h
 | _::_,[],_,_,_,h,_=>by cases h
 | b::as,p::ps,H,nd,h,hl,e=>by
  unfold Su at e;obtain⟨n1,n2⟩:=BZ.mp nd;by_cases c:a∈as
  ·obtain⟨i,p',h1,h2,h3⟩:=jF n2 c (by simpa using hl) e;exact⟨i+1,p',by simpa using h1,by simpa using h2,h3⟩
  ·obtain rfl:a=b:=(BC.mp h).resolve_right c;rw[Ng c,Z3] at e;exact⟨0,p,FL,FL,(YH e).symm⟩
def ql (q:yv h as ps):∀{i:Nat} {a:WP},as[i]?=some a->∃p,ps[i]?=some p/\IsPair h a p.1 p.2:=by
 induction q with
 | nil=>intro i a e;simp at e
 | cons r t ih=>
  intro i a e
  cases i with
  | zero=>simp at e;subst e;exact⟨_,FL,r⟩
  | succ i=>exact ih (by simpa using e)
def yR {a c:WW}{p pos p2 pos2:Pos}(hc:X.calm=true)(hg:Gl X "list")(hm:X.mg "list"=none)(hg2:Gl X "zip")(hm2:X.mg "zip"=none)(ha:PA X [a,c] ta)(hs:autoParam (starEach [a,c] X.env=(false,eval a X.env)::starEach [c] X.env) QzR)(hp:autoParam ((backTo pos2 (starEach [c] X.env)).any (·.1)=false) QzR)
  (hs2:autoParam (starEach [.Call (.Name "zip" p2) [a,c] [] pos2] X.env=[(false,eval (.Call (.Name "zip" p2) [a,c] [] pos2) X.env)]) QzR) (hb:autoParam (bootBuiltins "zip"=some (.type "zip")) QzK) (hb2:autoParam (bootBuiltins "list"=some (.type "list")) QzK):
  PE X (.Call (.Name "list" p) [.Call (.Name "zip" p2) [a,c] [] pos2] [] pos) (bK X.K ta):=by
 intro WZ s σ H Q I h;refine Call_ (Wm I hg hm hb2 (BF ?_ hs2 FL));rw[hs2];show wpAny _ _ (spliced ((false,eval (.Call (.Name "zip" p2) [a,c] [] pos2) X.env)::backTo pos [])) _ _ s;refine CP (Call_ (Wm I hg2 hm2 hb (BF (Jy (ha pos2 WZ s σ H _ I h) λus s1 z=>?_) hs hp)));obtain⟨vs,H1,I1,r1,q1⟩:=z;obtain⟨l1,l2,xs,ys,rfl,hq1,hq2,hlen,hsz,q⟩:=q1;obtain⟨u,v,rfl,ru,rv⟩:=r1.two
 cases ru
 cases rv
 obtain⟨its1,rv1,p1,_⟩:=I1.tuple hq1;obtain⟨its2,rv2,p2',_⟩:=I1.tuple hq2;have lt1:l1<s1.heap.objs.size:=by obtain⟨_,e,_⟩:=p1;exact XD e
 have lt2:l2<s1.heap.objs.size:=by obtain⟨_,e,_⟩:=p2';exact XD e
 have n1:its1.toArray.size=xs.length:=by rw[XJ,<-rv1.length]
 have n2:its2.toArray.size=ys.length:=by rw[XJ,<-rv2.length]
 refine Rz false false p1 p2' λh2 N=>?_;refine DG ?_;generalize hk:s1.heap.objs.size=k at N lt1 lt2;have Z:=Nf lt1 lt2;have st:ZS (k+4) (k+2) (k+3) k (k+1) l1 l2 its1.toArray its2.toArray 0 h2:=by
  refine⟨.inl (hk▸N.zip),hk▸N.its,⟨_,_,hk▸N.own⟩,⟨⟨_,hk▸N.i1,FL,FL⟩,Heap.IsTuple.at (show s1.heap.IsTuple l1 its1.toArray from p1) λo q=>N.keep _ o q⟩,⟨⟨_,hk▸N.i2,FL,FL⟩,Heap.IsTuple.at (show s1.heap.IsTuple l2 its2.toArray from p2') λo q=>N.keep _ o q⟩⟩
 have old:∀b o,s1.heap.get? b=some o->b∉[k+4,k+3,k,k+1]:=λb o q hb=>by
  have:b<k:=hk▸XD q;simp only[ZM,ZN,or_false] at hb
  rcases hb with e | e | e | e
  ·rw[e] at this;exact DK (BG k 4) this
  ·rw[e] at this;exact DK (BG k 3) this
  ·rw[e] at this;exact BL k this
  ·rw[e] at this;exact DK (BG k 1) this
 have hp3:s1.heap.objs.size<=h2.objs.size:=by
  have:=XD (hk▸N.zip:IsZip h2 (k+4) (k+2) (k+3) .none);rw[hk];exact XN (BG _ _) (CI this)
 refine Am (s:={s1 with heap:=h2}) (I.ok.hd hc) Z (XH lt1) (XH (BX lt2)) (by omega) (by omega) s1.heap old N.keep hp3 (hk▸N.zip) st λh3 tk3 as keep ls pr nd hn=>?_;obtain⟨c3,ls⟩:=ls;have la:as.length=xs.length:=by
  have e:=pr.length;rw[DE] at e;simp at e n1 n2;omega
 have pa:h2.objs.size∉as:=λz=>(hn _ z).2 FL;have fr:∀a,s1.heap.objs.size<=a->H1 a=none:=λa e=>I1.hok.fresh e;have lz:as.length=(xs.zip ys).length:=by rw[DE];omega
 have sl:(1000:Nat)<=sizeLine:=by decide
 refine⟨.ref _,_,I1.laids (H':=Yz (Su H1 as (xs.zip ys)) h2.objs.size (.lst (as.map V.ref))) (h':=h3) (t':=tk3) keep (λa o e=>?_) (λa e=>?_) (λa o e q2=>?_),FL,q as _ la nd pa (fr _ hp3) λa e=>fr a (hn a e).1⟩
 ·have e1:a≠h2.objs.size:=Jm e (fr _ hp3);rw[Zt e1,Ng λz=>?_]
  ·exact e
  ·rw[fr a (hn a z).1] at e;cases e
 ·have e1:a≠h2.objs.size:=λz=>BL _ (XG (z▸e) hp3);rw[Zt e1,Ng λz=>BL _ (XG e (hn a z).1)]
 ·by_cases c:a=h2.objs.size
  ·subst c;rw[Z3] at q2
   cases q2
   refine⟨by rw[XI,la];omega,as.map Value.ref,c3,?_,ls⟩;clear q h pr nd hn la lz pa ls
   induction as with
   | nil=>exact .nil
   | cons b as ih=>exact .cons FL (ih)
  ·rw[Zt c] at q2;by_cases m:a∈as
   ·obtain⟨i,pp,g1,g2,rfl⟩:=jF nd m lz q2;obtain⟨pv,g3,g4⟩:=ql pr g1;obtain⟨x1,x2⟩:=BU.mp g2;obtain⟨y1,y2⟩:=BU.mp g3;obtain⟨u1,w1,w2⟩:=rv1.get x1;obtain⟨u2,w3,w4⟩:=rv2.get x2;have e1:u1=pv.1:=by rw[w1] at y1;exact YH y1
    have e2:u2=pv.2:=by rw[w3] at y2;exact YH y2
    subst e1 e2;exact⟨by show 2<=sizeLine;decide,[pv.1,pv.2],.cons w2 (.cons w4 .nil),⟨_,g4,FL,_,FL⟩⟩
   ·rw[Ng m,fr a e] at q2;cases q2
end
end L2
namespace WL
open PySem PySem.Spec PyProof.Rows L2
def gi (xs ys:List T):List T:=(xs.zip ys).map λz=>.tup [z.1,z.2]
def a7 (a:WA):WE:=λτ C Q χ=>a τ C (λvs C1=>∃xs ys:List T,vs=[.tup xs,.tup ys]/\xs.length=ys.length/\xs.length<=1000/\∀p,C1 p=none->Q (.ref p) (up C1 p (.lst (gi xs ys)))) χ
def tf {K:WY}{F:Hp}:∀{as:List WP} {vs us:List V} {xs ys:List T} {H:Hp},as.Nodup->as.length=vs.length->vs.length=us.length->(∀a∈as,H a=none)->Rl K F H C->Reps K H vs xs->Reps K H us ys->
  Rl K F (Su H as (vs.zip us)) C/\Tx H (Su H as (vs.zip us))/\Reps K (Su H as (vs.zip us)) (as.map V.ref) (gi xs ys)
 | [],vs,us,xs,ys,H,_,h1,h2,_,R,r1,r2=>by
  cases vs with
  | cons _ _=>cases h1
  | nil=>
   have e:xs=[]:=by have:=r1.length;exact EO.mp this.symm
   subst e;unfold Su;exact⟨R,Tx.refl H,Yv⟩
 | a::as,[],us,xs,ys,H,_,h1,_,_,_,_,_=>by cases h1
 | a::as,v::vs,[],xs,ys,H,_,_,h2,_,_,_,_=>by cases h2
 | a::as,v::vs,u::us,xs,ys,H,nd,h1,h2,hn,R,r1,r2=>by
  cases xs with
  | nil=>have:=r1.length;cases this
  | cons x xs=>
  cases ys with
  | nil=>have:=r2.length;cases this
  | cons y ys=>
  obtain⟨_,_,e1,a1,b1⟩:=Y0 r1
  cases e1
  obtain⟨_,_,e2,a2,b2⟩:=Y0 r2
  cases e2
  obtain⟨n1,n2⟩:=BZ.mp nd;have hp:=hn a (BD ..);have tn:Tx H (Yz H a (.tup [v,u])):=Tx.new hp;rw[List.zip_cons_cons];show Rl K F (Su (Yz H a (.tup [v,u])) as (vs.zip us)) C/\Tx H (Su (Yz H a (.tup [v,u])) as (vs.zip us))/\Reps K (Su (Yz H a (.tup [v,u])) as (vs.zip us)) (V.ref a::as.map V.ref) (.tup [x,y]::gi xs ys);obtain⟨q1,q2,q3⟩:=tf (as:=as) (vs:=vs) (us:=us) (H:=Yz H a (.tup [v,u])) n2 (by simpa using h1) (by simpa using h2) (λb hb=>by
   rw[Zt λz=>n1 (by rw[<-z];exact hb)];exact hn b (XV _ hb)) (R.hid hp) (b1.tx tn) (b2.tx tn)
  refine⟨q1,tn.trans q2,Yh ?_ q3⟩;exact(Ju (Uz.of Z3) (Yh (a1.tx tn) (Yh (a2.tx tn) Yv))).tx q2
section
variable {X:Cx}{a c:WW}{wA:WA}{p pos p2 pos2:Pos}
def cg (hc:X.calm=true)(hg:Gl X "list")(hm:X.mg "list"=none)(hg2:Gl X "zip")(hm2:X.mg "zip"=none)(ha:yu X [a,c] wA)(hs:autoParam (starEach [a,c] X.env=(false,eval a X.env)::starEach [c] X.env) QzR)(hp:autoParam ((backTo pos2 (starEach [c] X.env)).any (·.1)=false) QzR)
  (hs2:autoParam (starEach [.Call (.Name "zip" p2) [a,c] [] pos2] X.env=[(false,eval (.Call (.Name "zip" p2) [a,c] [] pos2) X.env)]) QzR):Js X (.Call (.Name "list" p) [.Call (.Name "zip" p2) [a,c] [] pos2] [] pos) (a7 wA):=by
 obtain⟨t,p1,s⟩:=ha;refine⟨_,yR hc hg hm hg2 hm2 p1 hs hp hs2,λF H C σ τ Q Q' χ R S h q=>?_⟩;refine s F H C σ τ _ _ χ R S h λxs vs H1 C1 R1 t1 rs h1=>?_;obtain⟨zs,ts,rfl,hl,hz,h1⟩:=h1;obtain⟨x1,r1,rfl,q1,rs⟩:=Y0 rs;obtain⟨x2,r2,rfl,q2,rs⟩:=Y0 rs
 cases Xe rs
 obtain⟨a1,ys1,rfl,sq1,e1⟩:=Yi q1;obtain⟨a2,ys2,rfl,sq2,e2⟩:=Yi q2;have l1:=e1.length;have l2:=e2.length;refine⟨a1,a2,ys1,ys2,FL,sq1,sq2,by omega,by omega,λas pp la nd np hpp hn=>?_⟩;obtain⟨g1,g2,g3⟩:=tf nd la (by omega) hn R1 e1 e2;have hp':Su H1 as (ys1.zip ys2) pp=none:=by rw[Ng np];exact hpp
 have tn:Tx (Su H1 as (ys1.zip ys2)) (Yz (Su H1 as (ys1.zip ys2)) pp (.lst (as.map V.ref))):=Tx.new hp';exact q _ _ _ _ (g1.newL hp' g3) (t1.trans (g2.trans tn)) Y6 (h1 pp (R1.free hpp))
end
end WL
namespace L2
open PySem PySem.Spec PyProof.Rows
section
variable {X:Cx}{WZ:List (WP×Obj)}{σ:St}{H:Hp}{s:WR}{a:WP}{kvs:List (Z0×V)}{A:WM}{E:WQ->WR->Prop}{k:Z0}{u r:WQ}{y:V}
end
section
variable {X:Cx}{o e f:WW}{apos cpos:Pos}{td ty tx:TE}
end
end L2
namespace WL
open PySem PySem.Spec PyProof.Rows L2
section
variable {X:Cx}{o e f:WW}{wo wi wd:WE}{apos cpos:Pos}
def a9 (o i d:WE):WE:=λτ C Q χ=>o τ C (λx C1=>(∃a kvs,x=.ref a/\C1 a=some (.dic kvs))/\i τ C1 (λy C2=>d τ C2 (λz C3=>∃a kvs k,x=.ref a/\kT y=some k/\C3 a=some (.dic kvs)/\kvs.length<sizeLine/\
 (∀v,Yj kvs k=some v->Q v C3)/\(Yj kvs k=none->Q z (up C3 a (.dic (Yy kvs k z))))) χ) χ) χ
end
section
variable {X:Cx}{k i j:Nat}{pr:List Df}{cn:Str}{p pos:Pos}
def ky (Cc:Cn X.prog X.w X.K X.mg X.base k pr cn i j)(hr:Wv k X.A)(hg:Gl X cn)
  (hdb:(cn==("__debug__":Str))=false:=by decide):Js X (.Call (.Name cn p) [] [] pos) (Qm (Yg pr k) j Zv):=by
 obtain⟨⟨ar,hj⟩,Cl,f,hc,hm,M,h0 | ⟨k',fd,ps,rfl,F,hb⟩⟩:=Cc
 ·subst h0;exact⟨λσ H Q=>False,λWZ s σ H Q I h=>h.elim,λF H C σ τ Q Q' χ R S h q=>h.elim⟩
 ·refine⟨_,uJ (dvs:=[]) M F hr hg hm hb .nil jO hdb,λF' H C σ τ Q Q' χ R S h q=>?_⟩;show ∀x dx,H x=none->H dx=none->dx≠x->_;intro x dx hx hdx hne;obtain⟨d',e1,e2,h2⟩:=h;rw[hj] at e1
  cases e1
  obtain⟨vs',ev,h2⟩:=h2;have evs:[]=vs':=by
   have:ar-ar=0:=DL _;rw[this,List.replicate_zero,YK] at ev;exact(List.map_inj_right λa b z=>by cases z;rfl).mp ev
  subst evs;have hCx:C x=none:=R.free hx;have R3:Rl X.K F' (Yz H dx (.own x)) C:=R.hid hdx;have hx3:Yz H dx (.own x) x=none:=by rw[Zt hne.symm];exact hx
  have R4:Rl X.K F' (Yz (Yz H dx (.own x)) x (.ins Cl dx [])) (up C x (.ins cn [])):=R3.new hx3 ⟨Cl,dx,[],hc,Z3,.nil⟩;have t4:Tx H (Yz (Yz H dx (.own x)) x (.ins Cl dx [])):=(Tx.new hdx).trans (Tx.new hx3);refine⟨F',_,[.ref x],_,χ,R4,Yh Y6 Yv,h2 x hCx,?_⟩;intro y v H5 C5 R5 t5 ry h5;obtain⟨rfl,h5⟩:=h5;exact⟨Mm ry,q _ _ _ _ R5 (t4.trans t5) Y6 h5⟩
end
end WL
namespace HT
open PySem PySem.Spec PyProof.Rows
section
variable {prog:WO}{w:WN}{A:WM}{E:WQ->WR->Prop}{s:WR}
def getItem_tuple_all {lo hi:Option Int}{Q:WQ->WR->Prop}(ht:IsTup s.heap t items)(hs:s.heap.IsSliceOf sl vl vu .none)(pl:IsPart vl lo)(pu:IsPart vu hi)
  (h1:sIx items.size 0 lo=0) (h2:sIx items.size items.size hi=items.size) (h:Q (.ref t) s):wpAny (model prog w) A (getItem (.ref t) (.ref sl)) Q E s:=by
 obtain⟨os,hos,hcs,hds⟩:=id hs;have hTs:s.TypeIs (.ref sl) "slice":=⟨os,hos,hcs⟩;unfold getItem
 try with_reducible refine wpAny_holding ?_
 first | refine XA (XB ?_) | skip
 refine XA (wpAny_sequenceKey ht.typeIs (by decide) ?_);refine XA (wpAny_callSpecial?_slot (name:=Str.ofString "__getitem__") ht.typeIs CQ
  (wpAny_call_entry CQ ht.typeIs entry_tuple_getitem ?_ (args_tuple_getitem _ _)))
 show wpAny _ _ (Builtin.Tuple.tupleItemsOf (.ref t)>>=_) _ _ s;refine XA (tupleItemsOf_ ht ?_);refine XA (wpAny_typeOf hTs ?_);rw[XY (by decide)];refine XA (T7 hs pl pu ?_);have hyes:(((sIx items.size 0 lo:Nat):Int)==0&&(1:Int)==1&&(sIx items.size items.size hi-sIx items.size 0 lo)==items.size)=true:=by
  rw[h1,h2];simp
 show wpAny _ _ (if (((sIx items.size 0 lo:Nat):Int)==0&&(1:Int)==1&&(sIx items.size items.size hi-sIx items.size 0 lo)==items.size)=true then _ else _) _ _ s;rw[XY hyes];refine XA ?_;unfold Builtin.Tuple.tupleIsExact
 first
  | refine XA (wpAny_typeOf ht.typeIs (XB ?_))
  | refine wpAny_typeOf ht.typeIs ?_
 rw[XY (by decide)];exact XA (wpAny_rule (XB ⟨_,FL,XB h⟩))
end
end HT
namespace L2
open PySem PySem.Spec PyProof.Rows
section
variable {X:Cx}
def dj (K:WY):V->Option Int->Option Int->Hp->VK->Prop:=λx lo hi H Q=>∃a xs,x=.ref a/\Uz K H a xs/\HT.sIx xs.length 0 lo=0/\HT.sIx xs.length xs.length hi=xs.length/\Q (.ref a) H
def rT:rC X (dj X.K):=by
 intro WZ s σ H x v vl vu lo hi sl Q I rx hs pl pu h;obtain⟨a,xs,rfl,hx,h1,h2,q⟩:=h
 cases rx
 obtain⟨its,r,ht,hz⟩:=I.tuple hx;have hlen:its.toArray.size=xs.length:=by rw[XJ];exact r.length.symm
 refine⟨"tuple",_,PyProof.Rows.slot_tuple_getitem.lookup,ht.typeIs,?_⟩;exact HT.getItem_tuple_all ht hs pl pu (by rw[hlen];exact h1) (by rw[hlen];exact h2) ⟨.ref a,H,I,FL,q⟩
end
end L2
namespace WL
open PySem PySem.Spec PyProof.Rows L2
def ij:T->Option Int->Option Int->Hw->WK->Prop
 | .tup xs,lo,hi,C,Q=>Q (.tup (Dw xs lo hi)) C
 | _,_,_,_,_=>False
def dX (a:WE)(lo hi:Sw->Hw->(Option Int->Hw->Prop)->WX->Prop):WE:=λτ C Q χ=>a τ C (λx C1=>lo τ C1 (λl C2=>hi τ C2 (λh C3=>ij x l h C3 Q) χ) χ) χ
section
variable {X:Cx}{a:WW}{wa:WE}{pos:Pos}
def gz:bC X ij:=⟨_,ul.or rT,λF H C x v lo hi Q Q' R rx h q=>by
 cases v with
 | tup xs=>
  obtain⟨a,ys,rfl,hq,r⟩:=Yi rx;by_cases c:HT.sIx ys.length 0 lo=0/\HT.sIx ys.length ys.length hi=ys.length
  ·refine .inr ⟨a,ys,FL,hq,c.1,c.2,q _ _ H C R (Tx.refl H) (Ju hq r) ?_⟩;have e:Dw xs lo hi=xs:=by
    unfold Dw;rw[<-r.length,c.1,c.2];simp[r.length]
   have h:Q' (.tup (Dw xs lo hi)) C:=h;rw[e] at h;exact h
  ·exact .inl ⟨a,ys,FL,hq,c,λp hp=>q _ _ _ C (R.hid hp) (Tx.new hp) (Ju (Uz.of Z3) ((Ko r lo hi).tx (Tx.new hp))) h⟩
 | _=>exact False.elim h⟩
def ff {lo hi:Option WW}{wl wh:Sw->Hw->(Option Int->Hw->Prop)->WX->Prop}(ha:Js X a wa)(hl:kY X lo wl)(hh:kY X hi wh):Js X (.Subscript a (.Slice lo hi none p2) pos) (dX wa wl wh):=by
 obtain⟨r,h1,h2⟩:=gz (X:=X);obtain⟨ta,p1,s1⟩:=ha;obtain⟨tl,p3,s3⟩:=hl;obtain⟨th,p4,s4⟩:=hh;refine⟨_,zz h1 p1 p3 p4,λF H C σ τ Q Q' χ R S h q=>?_⟩;refine s1 F H C σ τ _ _ χ R S h λx v H1 C1 R1 t1 rx h1=>?_;refine s3 F H1 C1 σ τ _ _ χ R1 (S.tx t1) h1 λl H2 C2 R2 t2 h2'=>?_;refine s4 F H2 C2 σ τ _ _ χ R2 (S.tx (t1.trans t2)) h2' λu H3 C3 R3 t3 h3=>?_;exact h2 F H3 C3 x v l u Q Q' R3 ((rx.tx t2).tx t3) h3 (QE.at q ((t1.trans t2).trans t3))
end
end WL
namespace L2
open PySem PySem.Spec PyProof.Rows
def KV.at {κ:Type}[DecidableEq κ]{kvs:List (κ×V)}{vs:List (κ×WQ)}(r:KV kvs vs):∀{i:Nat} {x:κ×V} {y:κ×WQ},kvs[i]?=some x->vs[i]?=some y->x.1=y.1/\Ye x.2 y.2:=by
 unfold KV at r
 induction r with
 | nil=>intro i x y h;cases h
 | cons h t ih=>
  intro i x y h1 h2
  cases i with
  | zero=>cases h1;cases h2;exact h
  | succ i=>exact ih h1 h2
def cJ (o:Obj)(d:WP)(ks:List (Z0×V)):It:=
 ⟨λi H=>H d=some (.frz o (.dK ks))/\i<ks.length,λi H x H'=>∃kv T,ks[i]?=some kv/\x=.ref T/\H T=none/\H'=Yz H T (.tup [kV kv.1,kv.2]),λi H=>H d=some (.frz o (.dK ks))/\i=ks.length⟩
def Fp:entryFor table "dict_itemiterator.__iter__"=some Builtin.«dict_keyiterator.__iter__»:=
 entryFor_alias (id':="dict_keyiterator.__iter__") (by kernel_rfl) FL (by decide+kernel) (by kernel_rfl)
def yG {P:WO}{w:WN}{K:WY}{elts:List WW}{ek:Nat}{epos:Pos}{d it:WP}{o:Obj}{ks:List (Z0×V)}(hod:o.data=.dict es ep):
  Eb P w K (.Tuple elts ek epos) (cJ o d ks) [it] it (λi h=>∃a b,IsItemIter h it d i ks.length ep a b) where
 mem:=by simp
 obj:=λi h st b hb=>by
  have e:b=it:=by simpa using hb
  subst e;obtain⟨u,v,st⟩:=st;exact⟨_,st,λv z=>by have z':Data.fields _=Data.cell v:=z;cases z'⟩
 keep:=λi h h' st k=>by
  obtain⟨u,v,st⟩:=st;exact⟨u,v,k it (by simp) _ st⟩
 item:=by
  intro X hP hw hK hc i WZ s σ H E I hf st hg;subst hP hw hK;obtain⟨hH,hi⟩:=hg;obtain⟨ho,z,sm,vs,rel,o',es',ep',e',xd,dd,kk,pp,nn⟩:=(show Ji X.prog X.w H s.heap d (.frz o (.dK ks)) from I.hok d _ hH);rw[ho] at e'
  cases e'
  rw[hod] at dd
  cases dd
  have hD:s.heap.DictAt (Yq X.prog X.w) d vs ep:=⟨o,es,ho,xd,hod,kk,pp,nn⟩;have hl:ks.length=vs.length:=rel.length;obtain⟨⟨k1,v1⟩,hx⟩:∃y,vs[i]?=some y:=⟨vs[i]'(by omega),by simp[show i<vs.length by omega]⟩;have hk:ks[i]?=some ks[i]:=by simp[hi]
  obtain⟨r1,r2⟩:=rel.at hk hx;obtain⟨f0,f1,f2,f3,f4,f5⟩:=hf it (by simp);obtain⟨a0,b0,st⟩:=st;rw[hl] at st;refine wpAny_pyNext_items_item st hD hx λkey h' hkey st' htup hsz kk1=>⟨_,FL,wpAny_letOwnedTupleGo_items st' λh2 st2 sb2=>?_⟩;have hTi:s.heap.objs.size≠it:=CJ (XD st);have k2:∀c o,c≠it->s.heap.get? c=some o->h2.get? c=some o:=λc o hb q=>sb2.extBut c o hb (kk1 c o hb q);have htup2:h2.get? s.heap.objs.size=some {cls:=.type "tuple",data:=.seq #[key,v1]}:=sb2.extBut _ _ hTi htup;have hTn:H s.heap.objs.size=none:=I.hok.fresh (XE _);have hne:∀c,c<s.heap.objs.size->c≠s.heap.objs.size:=λc hb=>XH hb;have tracked:∀c u,H c=some u->c≠s.heap.objs.size/\c≠it:=λc u q=>⟨hne c (I.hok.lt q),λz=>by rw[z,f0] at q;cases q⟩;have I1:Zy X WZ σ (Yz H s.heap.objs.size (.tup [kV ks[i].1,ks[i].2])) {s with heap:=h2,gens:=s.gens,drawn:=s.drawn,toks:=s.toks}:=by
   refine I.step (ch:=[it]) (λc hb=>?_) (λc o _ _ hc q _=>k2 c o (by simpa using hc) q) (λc o _ _ hc q _=>⟨o.slots,k2 c o (by simpa using hc) q⟩) (λc o hc q n=>by rw[Zt (hne c (Heap.lt_size q))];exact n) (λc o hc q=>⟨o,k2 c o (by simpa using hc) q⟩)
    (λc xs q=>by rw[Zt (tracked c _ q).1];exact q) (λc o u q=>by rw[Zt (tracked c _ q).1];exact q) (λc ps q=>⟨#[],by rw[Zt (tracked c _ q).1,q];simp⟩) (λm hm=>?_) (λc u q=>?_) I.bare
   ·obtain⟨f0,f1,f2,f3,f4,f5⟩:=hf c hb;exact⟨f3,f1,f4,f5⟩
   ·obtain⟨o,es,ep,ho,r⟩:=hm;exact⟨o,es,ep,k2 _ o (λz=>f1 z.symm) ho,r⟩
   ·by_cases hb:c=s.heap.objs.size
    ·subst hb;rw[Z3] at q;cases q;refine⟨XN (by decide:2<=1000) (CI (Nh (XE _))),[key,v1],.cons ?_ (.cons r2 .nil),⟨_,htup2,FL,_,FL⟩⟩;rw[r1];exact gL hkey
    ·rw[Zt hb] at q;refine(I.hok c u q).stay (λd v hd r=>k2 d v ?_ r) (λd r=>by rw[Zt (tracked d _ r).1];exact r) λd xs r=>by rw[Zt (tracked d _ r).1];exact r
     rcases hd with rfl | hd
     ·exact(tracked d _ q).2
     ·exact(tracked d _ hd).2
  rw[<-hl] at st2;refine⟨.ref s.heap.objs.size,_,I1,FL,⟨_,_,hk,FL,hTn,FL⟩,⟨_,_,st2⟩,λc hb=>?_⟩;have e:c=it:=by simpa using hb
  subst e;rw[Zt hTi.symm];exact f0
 done:=by
  intro X hP hw hK hc i WZ s σ H E I hf st hg;subst hP hw hK;obtain⟨hH,hi⟩:=hg;obtain⟨ho,z,sm,vs,rel,o',es',ep',e',xd,dd,kk,pp,nn⟩:=(show Ji X.prog X.w H s.heap d (.frz o (.dK ks)) from I.hok d _ hH);rw[ho] at e'
  cases e'
  rw[hod] at dd
  cases dd
  have hD:s.heap.DictAt (Yq X.prog X.w) d vs ep:=⟨o,es,ho,xd,hod,kk,pp,nn⟩;have hl:ks.length=vs.length:=rel.length;obtain⟨f0,f1,f2,f3,f4,f5⟩:=hf it (by simp);obtain⟨a0,b0,st⟩:=st;rw[hl] at st;exact wpAny_pyNext_items_end (I.ok.hd hc) st hD (by simp;omega) λh' eb=>⟨FL,I.turned (t':=s.toks) (λb o hb e=>eb b o hb e) f0 f1 f3 f4 f5⟩
 self:=λA i s Q E st h=>by
  obtain⟨a,b,st⟩:=st;have hT:s.TypeIs (.ref it) "dict_itemiterator":=⟨_,st,FL⟩;refine wpAny_pyIter_slot hT EL (wpAny_call_entry EL hT Fp ?_ (PySem.F.args_dict_itemiterator_iter_1 _));show wpAny _ _ (ret (.ref it)) _ _ s;exact XB ⟨_,FL,"dict_itemiterator",_,hT,PySem.F.slot_dict_itemiterator_next.lookup,h⟩
section
variable {X:Cx}{e:WW}{elts:List WW}{ek:Nat}{epos apos cpos:Pos}
def dP (td:TE):TI:=λσ H R=>td σ H λx H1=>∃d ks,x=.ref d/\Rd H1 d (.dK ks)/\∀o,(∀o',H1 d=some (.frz o' (.dK ks))->o'=o)->R (cJ o d ks) (Yz H1 d (.frz o (.dK ks)))
def uG (he:PE X e td)(hbase:autoParam (attributeBase e "items" X.env (eval e X.env)=eval e X.env) QzR)(hline:autoParam ((apos.endLine==cpos.line)=true) QzR):
  PI X (.Tuple elts ek epos) (.Call (.Attribute e "items" apos) [] [] cpos) (dP td):=by
 intro WZ s σ H R I h;refine wpAny_Call_method0_late hbase hline (Jy (he WZ s σ H _ I h) λv s1 ⟨x,H1,I1,r1,q1⟩=>?_);obtain⟨d,ks,rfl,hr,q⟩:=q1
 cases r1
 obtain⟨t1,t2,hdS⟩:=jg I1 (.inl ⟨ks,hr⟩);refine⟨"dict","dict.items",EN,PySem.F.slot_dict_items,PySem.F.type_dict_items,t1,t2,DD FL (PySem.evalArgs_none ?_)⟩;obtain⟨z,sm,vs,rel,o,es,ep,ho,xd,dd,kk,pp,nn⟩:=Kj I1.hok hr;have hD:s1.heap.DictAt (Yq X.prog X.w) d vs ep:=⟨o,es,ho,xd,dd,kk,pp,nn⟩;have hl:ks.length=vs.length:=rel.length;have huniq:∀o',H1 d=some (.frz o' (.dK ks))->o'=o:=λo' e=>by
  have:=(show Ji X.prog X.w H1 s1.heap d (.frz o' (.dK ks)) from I1.hok d _ e).1;rw[ho] at this;exact(YH this).symm
 have I2:Zy X WZ σ (Yz H1 d (.frz o (.dK ks))) s1:=by
  rcases hr with hr | ⟨o',hr⟩
  ·exact I1.freeze hr ho
  ·have e:=huniq o' hr;subst e;have:Yz H1 d (.frz o' (.dK ks))=H1:=by
    funext b
    by_cases hb:b=d
    ·subst hb;rw[Z3,hr]
    ·rw[Zt hb]
   rw[this];exact I1
 refine call_meetsIn PySem.F.slot_dict_items t1 PySem.F.entry_dict_items (PySem.F.args_dict_items_1 _) (meets_dict_items (Yq X.prog X.w) d hdS) ⟨⟨vs,o,es,ep,ho,xd,dd,kk,pp,nn⟩,?_⟩;have hV:Heap.IsItemsView (s1.heap.push {cls:=.type "dict_items",data:=.fields #[.ref d]}) s1.heap.objs.size d:=⟨_,XF _ FL,FL,FL⟩;have hD2:Heap.DictAt (Yq X.prog X.w) (s1.heap.push {cls:=.type "dict_items",data:=.fields #[.ref d]}) d vs ep:=hD.at' λo e=>XC _ e;have I3:Zy X WZ σ (Yz H1 d (.frz o (.dK ks))) {s1 with heap:=s1.heap.push {cls:=.type "dict_items",data:=.fields #[.ref d]}}:=I2.kept (t':=s1.toks) λb o e=>XC _ e;refine wpAny_pyIter_items (s:={s1 with heap:=s1.heap.push {cls:=.type "dict_items",data:=.fields #[.ref d]}}) hV hD2 ?_;refine⟨_,[_],_,_,_,FL,I3.kept (t':=s1.toks) λb o e=>XC _ e,yG dd,?_,λb hb=>?_,q o huniq⟩
 ·rw[hl];exact⟨_,_,XF _ FL⟩
 ·have e:=XQ.mp hb;subst e;exact I3.fpOk (XE _) (I3.hok.fresh (XE _))
end
end L2
namespace WL
open PySem PySem.Spec PyProof.Rows L2
section
variable {X:Cx}{e:WW}{we:WE}
def rI (kvs:List (Z0×T)):List T:=kvs.map λkv=>.tup [tK kv.1,kv.2]
def ax (e:WE):WI:=λτ C R χ=>e τ C (λx C1=>∃d kvs,x=.ref d/\Eh C1 d kvs/\R (rI kvs) (λC2=>C2 d=some (.fdic kvs)) (up C1 d (.fdic kvs))) χ
def t8 {K:WY}{F H0:Hp}(hH:H0 d=some (.frz o (.dK ks)))(pr:PR K H0 ks kvs):Oh K F H0 (cJ o d ks) (rI kvs) (λC=>C d=some (.fdic kvs)):=λi H C R t ok=>by
 have h1:H d=some (.frz o (.dK ks)):=t d _ hH trivial;have hl:ks.length=kvs.length:=PR.length pr;have hr:(rI kvs).length=kvs.length:=by unfold rI;simp
 refine⟨λhi=>⟨⟨h1,by omega⟩,λx H' h=>?_⟩,λhi=>⟨h1,by omega⟩⟩;obtain⟨kv,Tt,hk,rfl,hT,rfl⟩:=h;obtain⟨q,h2,h3,h4⟩:=oF pr hk;refine⟨.tup [tK kv.1,q.2],?_,R.hid hT,Tx.new hT,Ju (Uz.of Z3) (Yh ((nV _).tx (Tx.new hT)) (Yh ((h4.tx t).tx (Tx.new hT)) Yv))⟩;unfold rI;rw[XM,h2,h3];rfl
def yj {elts:List WW}{ek:Nat}{epos apos cpos:Pos}(he:Js X e we)(hbase:autoParam (attributeBase e "items" X.env (eval e X.env)=eval e X.env) QzR)(hline:autoParam ((apos.endLine==cpos.line)=true) QzR):
  pW X (.Tuple elts ek epos) (.Call (.Attribute e "items" apos) [] [] cpos) (ax we):=by
 obtain⟨t,p1,s⟩:=he;refine⟨_,uG p1 hbase hline,λF H C σ τ R R' χ Rr S h q=>?_⟩;refine s F H C σ τ _ _ χ Rr S h λx v H1 C1 R1 t1 rx h1=>?_;obtain⟨d,kvs,rfl,hC,h1⟩:=h1
 cases Z1 rx
 obtain⟨ks,hH,pr⟩:=R1.rd hC;refine⟨d,ks,FL,hH,λo ho=>?_⟩;obtain⟨R2,t2⟩:=R1.frz hC hH ho pr;exact q _ _ _ _ _ R2 (t1.trans t2) (λF'=>t8 Z3 (Lr t2 pr)) h1
end
end WL
namespace L2
open PySem PySem.Spec PyProof.Rows
def wO {X:Cx}(hc:X.calm=true):Wy X (.builtin "sum") (λxs H Q=>∃(p:WP) (ns:List Int),xs=[.ref p]/\J9 X.K H p (ns.map V.int)/\Q (.int ns.sum) H):=by
 intro WZ s σ H xs us Q I r h;obtain⟨p,ns,rfl,hq,q⟩:=h;obtain⟨u,rfl,ru⟩:=Qh r
 cases ru
 obtain⟨its,rv,pl,hz⟩:=I.list hq;have hl:=pl.isList;have hlt:p<s.heap.objs.size:=by obtain⟨_,e,_⟩:=hl;exact XD e
 have hlen:its.length=ns.length:=by have:=rv.length;simp at this;omega
 refine call_sum_walkG (wpAny_pyIter_list hl ?_);refine⟨s.heap.objs.size,[s.heap.objs.size,p],[s.heap.objs.size],its.toArray.size,_,_,λi=>ns.getD i 0,FL,Walks.list (A:=X.A.in1) (I.ok.hd hc) _ p (XH hlt) its.toArray,
  ⟨⟨_,XF _ FL,FL,FL⟩,hl.push _⟩,λb hb=>?_,λi v hP=>?_,λh' tk t' hk=>?_⟩
 ·have e:(s.heap.push {cls:=.type "list_iterator",data:=.fields #[.ref p,.int 0 0]}).objs.size=s.heap.objs.size+1:=BY ..;show b<(s.heap.push {cls:=.type "list_iterator",data:=.fields #[.ref p,.int 0 0]}).objs.size;rw[e]
  rcases BC.mp hb with z | z
  ·rw[z];exact BJ _
  ·rw[XQ.mp z];exact BX hlt
 ·have hv:its[i]?=some v:=by simpa using hP
  have hi:i<its.length:=(BB.mp hv).1;have hb:(ns.map V.int)[i]?=some (.int ns[i]):=by simp[show i<ns.length by omega]
  obtain⟨u,hu,ru⟩:=rv.get hb;rw[hv] at hu;cases hu;obtain⟨t,rfl⟩:=ru;exact⟨t,by simp[List.getD,show i<ns.length by omega]⟩
 ·have e:preSum (λi=>ns.getD i 0) its.toArray.size=ns.sum:=by rw[preSum_getD,XJ,hlen,CB]
  rw[e];refine⟨.int ns.sum,H,?_,⟨_,FL⟩,q⟩;exact I.kept (t':=tk) λb o eb=>hk b o (λz=>by
   rw[XQ.mp z] at eb;exact absurd (XD eb) (BL _)) (XC _ eb)
end L2
namespace WL
open PySem PySem.Spec PyProof.Rows L2
def Gu {K:WY}:∀{ns:List Int} {ys:List V},Reps K H ys (ns.map T.int)->ys=ns.map V.int
 | [],ys,h=>by cases Xe h;rfl
 | n::ns,ys,h=>by
  have hl:=h.length
  match ys,hl with
  | y::ys,_=>
   obtain⟨y',e,r⟩:=h.get (i:=0) FL
   cases e
   cases Yn r
   have:=Gu (ns:=ns) (h.drop 1);have e2:ys=ns.map V.int:=this;rw[e2];rfl
def fz:List T->Hw->WK->Prop:=λvs C Q=>∃(a:WP) (ns:List Int),vs=[.ref a]/\C a=some (.lst (ns.map T.int))/\Q (.int ns.sum) C
def pE:bootBuiltins "sum"=some (.builtin "sum"):=by decide+kernel
section
variable {X:Cx}
def kD (hc:X.calm=true):Nd X (.builtin "sum") fz:=⟨_,wO hc,λF H C xs vs Q Q' R rs h q=>by
 obtain⟨a,ns,rfl,hx,h⟩:=h;obtain⟨x,rfl,rx⟩:=X6 rs
 cases Z1 rx
 obtain⟨ys,hy,r⟩:=R.lst hx
 cases Gu r
 exact⟨a,ns,FL,J9.of hy,q _ _ H C R (Tx.refl H) Ja h⟩⟩
def lx:T->List T->Hw->WK->Prop:=λx vs C Q=>∃a xs,x=.ref a/\vs=[]/\C a=some (.lst xs)/\Q .non (up C a (.lst []))
def qF:ia X "list.clear" lx:=⟨_,uW,λF H C x v xs vs Q Q' R rx rs h q=>by
 obtain⟨a,ts,rfl,rfl,hx,h⟩:=h
 cases Z1 rx
 cases Xe rs
 obtain⟨ys,hy,r⟩:=R.lst hx;obtain⟨R',t⟩:=R.putL hx Yv;exact⟨a,ys,FL,FL,hy,q _ _ _ _ R' t Nj h⟩⟩
end
end WL
namespace L2
open PySem PySem.Spec PyProof.Rows
open AutoSeq1 (wpAny_loadPart')
set_option tactic.hygienic true
def zJ (l:WP)(items:Array WQ):
  Meets (Builtin.«enumerate.__new__» ⟨[.type "enumerate",.ref l],[]⟩) (λ_ R s=>s.heap.IsList l items/\
   R (.ok (.ret (.ref (s.heap.push {cls:=.type "list_iterator",data:=.fields #[.ref l,.int 0 0]}).objs.size)))
    {s with heap:=(s.heap.push {cls:=.type "list_iterator",data:=.fields #[.ref l,.int 0 0]}).push {cls:=.type "enumerate",data:=.fields #[.none,.bool false,.ref s.heap.objs.size,rawInt 0,.none,.none]}}):=
 .of_wp λprog w A R s h=>by
  obtain⟨hp,g,d,tk,os⟩:=s;obtain⟨hL,h⟩:=h;have hsub:=sub_enumerate
  wp_walk
  refine wpAny_stack_any λst=>XB ?_
  split
  ·rename_i c _ _ _ _ _
   cases (c==Value.type "enumerate")
   ·wp_walk using wpAny_pyIter_list hL
    exact⟨_,FL,h⟩
   ·wp_walk using wpAny_pyIter_list hL
    exact⟨_,FL,h⟩
  ·wp_walk using wpAny_pyIter_list hL
   exact⟨_,FL,h⟩
set_option tactic.hygienic false
section
variable {prog:WO}{w:WN}{A:WM}{E:WQ->WR->Prop}{s:WR}
def jv {Q:WQ->WR->Prop}(hL:s.heap.IsList l items)
  (h:∀h',IsEnum h' (s.heap.objs.size+1) s.heap.objs.size 0 .none->h'.IsListIter s.heap.objs.size l 0->h'.objs.size=s.heap.objs.size+2->
   (∀b o,s.heap.get? b=some o->h'.get? b=some o)->Q (.ref (s.heap.objs.size+1)) {s with heap:=h'}):
  wpAny (model prog w) A (call (.type "enumerate") [.ref l]) Q E s:=by
 refine callType_new PySem.F.called_enumerate (by decide) (PySem.F.typeCall_enumerate_1 _) (PySem.F.newCall_enumerate_1 _) (λobj=>PySem.F.args_object_init_2 obj _) PySem.F.entry_enumerate_new (zJ l items) ⟨hL,?_⟩;have hz:(s.heap.push {cls:=.type "list_iterator",data:=.fields #[.ref l,.int 0 0]}).objs.size=s.heap.objs.size+1:=BY ..;show _/\_;rw[hz];have he:IsEnum ((s.heap.push {cls:=.type "list_iterator",data:=.fields #[.ref l,.int 0 0]}).push
   {cls:=.type "enumerate",data:=.fields #[.none,.bool false,.ref s.heap.objs.size,rawInt 0,.none,.none]}) (s.heap.objs.size+1) s.heap.objs.size 0 .none:=by
  have:=XF (s.heap.push {cls:=.type "list_iterator",data:=.fields #[.ref l,.int 0 0]})
   (o:={cls:=.type "enumerate",data:=.fields #[.none,.bool false,.ref s.heap.objs.size,rawInt 0,.none,.none]}) FL
  rw[hz] at this;exact this
 refine⟨⟨_,he,FL⟩,h _ he ⟨_,XC _ (XF _ FL),FL,FL⟩ (by rw[BY,hz]) λb o x=>XC _ (XC _ x)⟩
end
def ItL (K:WY)(l:WP):It:=
 ⟨λi H=>∃xs,J9 K H l xs/\i<xs.length,
  λi H x H'=>∃u T,(∀xs,J9 K H l xs->xs[i]?=some u)/\x=.ref T/\H T=none/\H'=Yz H T (.tup [.int ((i:Nat):Int),u]),
  λi H=>∃xs,J9 K H l xs/\i=xs.length⟩
def uc {P:WO}{w:WN}{K:WY}{elts:List WW}{ek:Nat}{epos:Pos}{k l:WP}(h1:l<k):
  Eb P w K (.Tuple elts ek epos) (ItL K l) [k+1,k] (k+1) (λi h=>(∃old,IsEnum h (k+1) k ((i:Nat):Int) old)/\h.IsListIter k l i) where
 mem:=by simp
 obj:=λi h st c hc=>by
  obtain⟨⟨old,a1⟩,a4⟩:=st;simp only[ZM,ZN,or_false] at hc
  rcases hc with rfl | rfl
  ·exact⟨_,a1,λv y=>by have y':Data.fields _=Data.cell v:=y;cases y'⟩
  ·obtain⟨o,e,c,d⟩:=a4;exact⟨o,e,λv z=>by rw[d] at z;cases z⟩
 keep:=λi h h' st kp=>by
  obtain⟨⟨old,a1⟩,a4⟩:=st;exact⟨⟨old,kp _ (by simp) _ a1⟩,a4.at λo e=>kp _ (by simp) o e⟩
 item:=by
  intro X hP hw hK hc i WZ s σ H E I hf st hg;subst hP hw hK;obtain⟨xs,hq1,hi⟩:=hg;obtain⟨its1,rv1,p1',_⟩:=I.list hq1;have p1:=p1'.isList;obtain⟨a1,a4⟩:=st;have hn1:its1.toArray.size=xs.length:=by rw[XJ,rv1.length]
  have D1:=Draws.list (prog:=X.prog) (w:=X.w) (A:=X.A.in1) (I.ok.hd hc) k l (XH h1) its1.toArray;rw[hn1] at D1;have W:=WalksT.enumerateD (yg 0 D1) (k+1) (Nat.succ_ne_self k) (gB h1) (by simp);refine W.item (i+0) s _ _ (by omega) ⟨a1,i,FL,a4,p1⟩ λT vals h' tk hv hT htup hm kk=>?_;obtain⟨t,x,⟨j,ej,hx⟩,rfl⟩:=hv;have ej':j=i:=by omega
  subst ej';refine⟨_,rfl,W.go elts ek epos (j+0) T {s with heap:=h',toks:=tk} _ _ hm λh2 st2 kk2=>?_⟩;have hu:xs[j]?=some xs[j]:=by simp[hi]
  obtain⟨u1,e1,r1⟩:=rv1.get hu;have ex:x=u1:=by
   have:its1[j]?=some x:=by simpa using hx
   rw[e1] at this;exact(YH this).symm
  subst ex;have hTn:H T=none:=I.hok.fresh hT;have hTw:T∉[k+1,k]:=W.apart (j+0) T h' hm;have k2:∀c o,c∉[k+1,k]->s.heap.get? c=some o->h2.get? c=some o:=λc o hb q=>kk2 c o hb (kk c o hb q);have htup2:IsTup h2 T #[.int ((j:Nat):Int) t,x]:=by
   obtain⟨o,ho,r⟩:=htup;exact⟨o,kk2 T o hTw ho,r⟩
  have hfp:∀c∈[k+1,k],H c=none:=λc hb=>(hf c hb).1;have hne:∀c,c<s.heap.objs.size->c≠T:=λc hb=>XH (XG hb hT);have tracked:∀c u,H c=some u->c≠T/\c∉[k+1,k]:=λc u q=>⟨hne c (I.hok.lt q),λz=>by rw[hfp c z] at q;cases q⟩;have I1:Zy X WZ σ (Yz H T (.tup [.int ((j:Nat):Int),xs[j]])) {s with heap:=h2,gens:=s.gens,drawn:=s.drawn,toks:=tk}:=by
   refine I.step (ch:=[k+1,k]) (λc hb=>?_) (λc o _ _ hc q _=>k2 c o hc q) (λc o _ _ hc q _=>⟨o.slots,k2 c o hc q⟩) (λc o hc q n=>by rw[Zt (hne c (XD q))];exact n) (λc o hc q=>⟨o,k2 c o hc q⟩)
    (λc xs q=>by rw[Zt (tracked c _ q).1];exact q) (λc o u q=>by rw[Zt (tracked c _ q).1];exact q) (λc ps q=>⟨#[],by rw[Zt (tracked c _ q).1,q];simp⟩) (λm hm=>?_) (λc u q=>?_) I.bare
   ·obtain⟨f0,f1,f2,f3,f4,f5⟩:=hf c hb;exact⟨f3,f1,f4,f5⟩
   ·obtain⟨o,es,ep,ho,r⟩:=hm;exact⟨o,es,ep,k2 _ o (λz=>(hf _ z).2.1 FL) ho,r⟩
   ·by_cases hb:c=T
    ·subst hb;rw[Z3] at q;cases q;exact⟨XN (by decide:2<=1000) (CI (Nh (XE _))),[.int ((j:Nat):Int) t,x],.cons ⟨t,FL⟩ (.cons r1 .nil),htup2⟩
    ·rw[Zt hb] at q;refine(I.hok c u q).stay (λd v hd r=>k2 d v ?_ r) (λd r=>by rw[Zt (tracked d _ r).1];exact r) λd xs r=>by rw[Zt (tracked d _ r).1];exact r
     rcases hd with rfl | hd
     ·exact(tracked d _ q).2
     ·exact(tracked d _ hd).2
  obtain⟨b1,j2,ej2,b4,_⟩:=st2;have ej3:j2=j+1:=by omega
  subst ej3;refine⟨.ref T,_,I1,FL,⟨_,T,λzs hz=>by rw[I.list_inj hz hq1];exact hu,FL,hTn,FL⟩,⟨b1,b4⟩,λc hb=>?_⟩;have hbT:c≠T:=λz=>hTw (by rw[<-z];exact hb);rw[Zt hbT];exact hfp c hb
 done:=by
  intro X hP hw hK hc i WZ s σ H E I hf st hg;subst hP hw hK;obtain⟨xs,hq1,hi⟩:=hg;obtain⟨its1,rv1,p1',_⟩:=I.list hq1;have p1:=p1'.isList;obtain⟨a1,a4⟩:=st;have hn1:its1.toArray.size=xs.length:=by rw[XJ,rv1.length]
  have D1:=Draws.list (prog:=X.prog) (w:=X.w) (A:=X.A.in1) (I.ok.hd hc) k l (XH h1) its1.toArray;rw[hn1] at D1;subst hi;have W:=WalksT.enumerateD (yg 0 D1) (k+1) (Nat.succ_ne_self k) (gB h1) (by simp);refine W.done s _ _ ⟨a1,_,FL,a4,p1⟩ λh' tk kk=>⟨FL,?_⟩;exact I.step (g':=s.gens) (d':=s.drawn) (ch:=[k+1,k]) (λb hb=>let ⟨f0,f1,f2,f3,f4,f5⟩:=hf b hb;⟨f3,f1,f4,f5⟩) (λb o _ _ hc q _=>kk b o hc q) (λb o _ _ hc q _=>⟨o.slots,kk b o hc q⟩) (λb o _ _ n=>n) (λb o hc q=>⟨o,kk b o hc q⟩)
    (λ_ _ q=>q) (λ_ _ _ q=>q) (λb ps q=>⟨#[],by rw[q];simp⟩) (λm hm=>let ⟨o,es,ep,ho,r⟩:=hm;⟨o,es,ep,kk _ o (λz=>(hf _ z).2.1 FL) ho,r⟩)
    (λb u q=>(I.hok b u q).stay (λd v hd r=>kk d v (λz=>by
     rcases hd with rfl | hd
     ·rw[(hf _ z).1] at q;cases q
     ·rw[(hf _ z).1] at hd;cases hd) r) (λ_ r=>r) λ_ _ r=>r) I.bare
 self:=λA i s Q E st h=>by
  obtain⟨⟨old,he⟩,_⟩:=st;exact wpAny_pyIter_enum he h
section
variable {X:Cx}{elts:List WW}{ek:Nat}{epos:Pos}
def lV (K:WY)(ta:TA):TI:=λσ H R=>ta σ H λvs H1=>∃(l:WP) (xs:List V),vs=[.ref l]/\J9 K H1 l xs/\R (ItL K l) H1
def m7 {a:WW}{p pos:Pos}(hg:Gl X "enumerate")(hm:X.mg "enumerate"=none)(ha:PA X [a] ta)(hs:autoParam (starEach [a] X.env=[(false,eval a X.env)]) QzR)(hb:autoParam (bootBuiltins "enumerate"=some (.type "enumerate")) QzK):
  PI X (.Tuple elts ek epos) (.Call (.Name "enumerate" p) [a] [] pos) (lV X.K ta):=by
 intro WZ s σ H R I h;refine Call_ (Wm I hg hm hb (BF (Jy (ha pos WZ s σ H _ I h) λus s2 ⟨vs,H2,I2,r1,q1⟩=>?_) hs FL));obtain⟨l,xs,rfl,hq,q⟩:=q1;obtain⟨w,rfl,rw'⟩:=r1.one
 cases rw'
 obtain⟨its,rv,pt',_⟩:=I2.list hq;have pt:=pt'.isList;have lt:l<s2.heap.objs.size:=by obtain⟨_,e,_⟩:=pt;exact XD e
 refine jv pt λh' he hit hsz kk=>?_;have I3:Zy X WZ σ H2 {s2 with heap:=h',toks:=s2.toks}:=I2.kept kk;refine wpAny_pyIter_enum (s:={s2 with heap:=h'}) he ?_;exact⟨_,_,_,_,H2,FL,I3,uc lt,⟨⟨_,he⟩,hit⟩,ke I2,q⟩
end
end L2
namespace WL
open PySem PySem.Spec PyProof.Rows L2
def lV (a:WA):WI:=λτ C R χ=>a τ C (λvs C1=>∃l xs,vs=[.ref l]/\C1 l=some (.lst xs)/\R (wq 0 xs) (λC2=>C2 l=some (.lst xs)) C1) χ
section
variable {X:Cx}{a:WW}{wA:WA}{p pos:Pos}
def lR {K:WY}{F H0:Hp}:Oh K F H0 (L2.ItL K l) (wq 0 xs) (λC=>C l=some (.lst xs)):=λi H C R t hok=>by
 obtain⟨ys1,hy,r1'⟩:=R.lst hok;have q1:J9 K H l ys1:=J9.of hy;have e1:=r1'.length;refine⟨λhi=>?_,λhi=>⟨ys1,q1,by rw[Gy] at hi;omega⟩⟩;rw[Gy] at hi;refine⟨⟨ys1,q1,by omega⟩,λx H' h=>?_⟩;obtain⟨u,Tt,hu,rfl,hT,rfl⟩:=h;obtain⟨x,hx,rx⟩:=r1'.get' (hu ys1 q1);exact⟨_,jQ hx,R.hid hT,Tx.new hT,Ju (Uz.of Z3) (Yh Ja (Yh (rx.tx (Tx.new hT)) Yv))⟩
def di_enL {elts:List WW}{ek:Nat}{epos:Pos}(hg:Gl X "enumerate")(hm:X.mg "enumerate"=none)(ha:yu X [a] wA)(hs:autoParam (starEach [a] X.env=[(false,eval a X.env)]) QzR):
  pW X (.Tuple elts ek epos) (.Call (.Name "enumerate" p) [a] [] pos) (lV wA):=by
 obtain⟨t,p1,s⟩:=ha;refine⟨_,m7 hg hm p1 hs (by decide+kernel),λF H C σ τ R R' χ Rr S h q=>?_⟩;refine s F H C σ τ _ _ χ Rr S h λxs vs H1 C1 R1 t1 rs h1=>?_;obtain⟨l,ts,rfl,hl,h1⟩:=h1;obtain⟨x,rfl,rx⟩:=X6 rs
 cases Z1 rx
 obtain⟨ys,hy,r⟩:=R1.lst hl;exact⟨l,ys,FL,J9.of hy,q _ H1 _ _ C1 R1 t1 (λF'=>lR) h1⟩
end
end WL
namespace L2
open PySem PySem.Spec PyProof.Rows Builtin
section
variable {prog:WO}{w:WN}{A:WM}{E:WQ->WR->Prop}{s:WR}{z TI TO i1 i2:WP}{f1 f2:List WP}{n n2:Nat}{P1 P2:Nat->WQ->Prop}{S1 S2:Nat->WU->Prop}
def vH {i:Nat}{u v:WQ}{Q:WQ->WR->Prop}(D1:Draws prog w A i1 f1 n P1 S1)(hn:n<=n2)(D2:Draws prog w A i2 f2 n2 P2 S2)(Z:j3 z TI TO i1 i2 f1 f2)(hi:i<n)
  (hz:IsZip s.heap z TI TO .none) (hTI:IsPair s.heap TI (.ref i1) (.ref i2)) (hTO:IsPair s.heap TO u v) (s1:S1 i s.heap) (s2:S2 i s.heap)
  (hQ:∀x y h2 t2,P1 i x->P2 i y->IsZip h2 z TI TO (rawInt s.heap.objs.size)->IsPair h2 TO x y->S1 (i+1) h2->S2 (i+1) h2->IsPair h2 s.heap.objs.size x y->
   (∀c o,c≠z->c≠TO->c≠i1->c≠i2->s.heap.get? c=some o->h2.get? c=some o)->Q (.ref s.heap.objs.size) {s with heap:=h2,toks:=t2}):
  wpAny (model prog w) A (Builtin.«zip.__next__» ⟨[.ref z],[]⟩) (λfin s2=>∃r,fin=.done (.ret r)/\Q r s2) E s:=by
 show wpAny _ _ (field (.ref z) 2>>=_) _ E s;refine XA (wpAny_field hz FL (x:=.bool false) FL ?_);show wpAny _ _ (field (.ref z) 3>>=_) _ E s;refine XA (wpAny_field hz FL (x:=.ref TI) FL ?_);refine XA (wpAny_seqItems hTI FL ?_);show wpAny _ _ (Builtin.SmallTypes.ownedTupleIsFree (.ref z)>>=_) _ E s;refine XA ?_;unfold Builtin.SmallTypes.ownedTupleIsFree;refine XA (wpAny_field hz FL (x:=.none) FL (XB ?_));simp only[if_true];refine XA (wpAny_rule ?_);refine XA (wpAny_field hz FL (x:=.ref TO) FL ?_);refine wpAny_bind (wpAny_setField_rec hz (by simp) λha hza sa=>?_)
 replace hza:IsZip ha z TI TO .ellipsis:=hza
 refine XA ?_;simp only[List.zipIdx_cons,List.zipIdx_nil,List.forIn_cons,List.forIn_nil];have ne:∀{b c:WP} {l:List WP},b∈l->c∉l->b≠c:=λhb hc e=>hc (e▸hb);have a1:S1 i ha:=D1.frame i _ _ s1 λb hb o e=>sa.extBut _ _ (ne hb Z.z1) e;have a2:S2 i ha:=D2.frame i _ _ s2 λb hb o e=>sa.extBut _ _ (ne hb Z.z2) e;refine XA (XA (wpAny_onRaise ?_));show wpAny _ _ (Builtin.SmallTypes.nextOf (.ref i1)>>=_) _ _ _;refine XA (D1.item i {s with heap:=ha} _ _ hi a1 λx hb tb hx b1 sb=>XB ?_);have b2:S2 i hb:=D2.frame i _ _ a2 λb hm o e=>sb.extBut _ _ (ne hm Z.a12) e;have Oi1:TO≠i1:=λe=>Z.o1 (e▸Z.m1);have Oi2:TO≠i2:=λe=>Z.o2 (e▸Z.m2);have zi1:z≠i1:=λe=>Z.z1 (e▸Z.m1);have zi2:z≠i2:=λe=>Z.z2 (e▸Z.m2);have tob:IsPair hb TO u v:=sb.extBut _ _ Oi1 (sa.extBut _ _ Z.oz hTO);refine XA (wpAny_seqItems tob FL ?_);refine XA (wpAny_updateSeq_pair tob λhc toc sc=>?_)
 replace toc:IsPair hc TO x v:=toc
 refine XA (wpAny_letGo (XB ?_));have c1:S1 (i+1) hc:=D1.frame _ _ _ b1 λb hm o e=>sc.extBut _ _ (ne hm Z.o1) e;have c2:S2 i hc:=D2.frame _ _ _ b2 λb hm o e=>sc.extBut _ _ (ne hm Z.o2) e;refine XA (XA (wpAny_onRaise ?_));show wpAny _ _ (Builtin.SmallTypes.nextOf (.ref i2)>>=_) _ _ _;refine XA (D2.item i {s with heap:=hc,toks:=tb} _ _ (XG hi hn) c2 λy hd td hy d2 sd=>XB ?_);have d1:S1 (i+1) hd:=D1.frame _ _ _ c1 λb hm o e=>sd.extBut _ _ (ne hm Z.a21) e;have tod:IsPair hd TO x v:=sd.extBut _ _ Oi2 toc;refine XA (wpAny_seqItems tod FL ?_);refine XA (wpAny_updateSeq_pair tod λhe toe se=>?_)
 replace toe:IsPair he TO x y:=toe
 refine XA (wpAny_letGo (XB (XB ?_)));have e1:S1 (i+1) he:=D1.frame _ _ _ d1 λb hm o e=>se.extBut _ _ (ne hm Z.o1) e;have e2:S2 (i+1) he:=D2.frame _ _ _ d2 λb hm o e=>se.extBut _ _ (ne hm Z.o2) e;refine XA (wpAny_seqItems toe FL ?_);refine XA (wpAny_newTuple ?_);have hsz:he.objs.size=s.heap.objs.size:=by rw[se.1,sd.1,sc.1,sb.1,sa.1]
 have hze:IsZip he z TI TO .ellipsis:=se.extBut _ _ Z.oz.symm (sd.extBut _ _ zi2 (sc.extBut _ _ Z.oz.symm (sb.extBut _ _ zi1 hza)));have hke:∀c o,c≠z->c≠TO->c≠i1->c≠i2->s.heap.get? c=some o->he.get? c=some o:=λc o n1 n2 n3 n4 e=>se.extBut _ _ n2 (sd.extBut _ _ n4 (sc.extBut _ _ n2 (sb.extBut _ _ n3 (sa.extBut _ _ n1 e))));have hzlt:z<he.objs.size:=XD hze;show wpAny _ _ (Builtin.SmallTypes.ownedTupleHandOut (.ref z) (.ref he.objs.size)>>=_) _ _ _;refine XA ?_;unfold Builtin.SmallTypes.ownedTupleHandOut;have hzf:IsZip (he.push {cls:=.type "tuple",data:=.seq #[x,y]}) z TI TO .ellipsis:=XC _ hze;refine wpAny_bind (wpAny_setField_rec hzf (by simp) λhg hzg sg=>?_)
 replace hzg:IsZip hg z TI TO (rawInt he.objs.size):=hzg
 refine wpAny_setField_rec hzg (by simp) λhk hzk sk=>?_
 replace hzk:IsZip hk z TI TO (rawInt he.objs.size):=hzk
 have up:∀c o,c≠z->he.get? c=some o->hk.get? c=some o:=λc o n1 e=>sk.extBut _ _ n1 (sg.extBut _ _ n1 (XC _ e));have hT:IsPair hk he.objs.size x y:=sk.extBut _ _ (CJ hzlt) (sg.extBut _ _ (CJ hzlt) (XF _ FL));rw[hsz] at hzk hT;refine XB ⟨_,FL,?_⟩;show Q (.ref he.objs.size) _;rw[hsz];exact hQ x y hk td hx hy hzk (up _ _ Z.oz toe) (D1.frame _ _ _ e1 λb hm o e=>up _ o (ne hm Z.z1) e) (D2.frame _ _ _ e2 λb hm o e=>up _ o (ne hm Z.z2) e) hT λc o n1 n2 n3 n4 e=>up c o n1 (hke c o n1 n2 n3 n4 e)
def E7 (D1:Draws prog w A.in1 i1 f1 n P1 S1)(hn:n<=n2)(D2:Draws prog w A.in1 i2 f2 n2 P2 S2)(Z:j3 z TI TO i1 i2 f1 f2):
  WalksT prog w A z (z::TI::TO::(f1++f2)) [z,TO,i1,i2] n (λi vals=>∃x y,P1 i x/\P2 i y/\vals=#[x,y])
   (λi h=>IsZip h z TI TO .none/\IsPair h TI (.ref i1) (.ref i2)/\(∃a b,IsPair h TO a b)/\S1 i h/\S2 i h)
   (λi T h=>IsZip h z TI TO (rawInt T)/\IsPair h TI (.ref i1) (.ref i2)/\(∃a b,IsPair h TO a b)/\S1 (i+1) h/\S2 (i+1) h/\T∉[z,TO,i1,i2]) where
 sub:=λc hc=>by
  simp only[ZM,ZN,or_false] at hc
  rcases hc with rfl | rfl | rfl | rfl
  ·simp
  ·simp
  ·simp[Z.m1]
  ·simp[Z.m2]
 frame:=λi h h2 st k=>by
  obtain⟨a,b,⟨u,v,c⟩,d,e⟩:=st;exact⟨k z (by simp) _ a,k TI (by simp) _ b,⟨u,v,k TO (by simp) _ c⟩,D1.frame _ _ _ d λx hx o q=>k x (by simp[hx]) o q,D2.frame _ _ _ e λx hx o q=>k x (by simp[hx]) o q⟩
 item:=λi s Q E hi st hQ=>by
  obtain⟨a,b,⟨u,v,c⟩,d,e⟩:=st;have hT:s.TypeIs (.ref z) "zip":=⟨_,a,FL⟩;unfold pyNext;refine XA (wpAny_attempt (wpAny_callSpecial?_slot (name:=Str.ofString "__next__") hT BM (wpAny_call_entry BM hT CO
   (vH D1 hn D2 Z hi a b c d e λx y h2 t2 hx hy z1 z2 z3 z4 z5 z6=>XB ?_) (CM _))))
  have lt:∀{c o},s.heap.get? c=some o->s.heap.objs.size≠c:=λe=>CJ (XD e);obtain⟨o1,l1⟩:=D1.live _ _ d;obtain⟨o2,l2⟩:=D2.live _ _ e;refine hQ s.heap.objs.size #[x,y] h2 t2 ⟨x,y,hx,hy,FL⟩ (Nat.le_refl _) ⟨_,z5,FL,_,FL⟩ ⟨z1,z6 _ _ Z.tz Z.io Z.t1 Z.t2 b,⟨_,_,z2⟩,z3,z4,?_⟩ λc o hc q=>z6 c o (λx=>hc (by simp[x])) (λx=>hc (by simp[x])) (λx=>hc (by simp[x])) (λx=>hc (by simp[x])) q;simp only[List.mem_cons,List.not_mem_nil,or_false,not_or];exact⟨lt a,lt c,lt l1,lt l2⟩
 go:=λelts k pos i T s Q E hm hQ=>by
  obtain⟨a,b,⟨u,v,c⟩,d,e,_⟩:=hm;refine wpAny_letOwnedTupleGo_zip a λh2 hz2 s2=>hQ h2 ⟨hz2,s2.extBut _ _ Z.tz b,⟨u,v,s2.extBut _ _ Z.oz c⟩,?_,?_⟩ λc o hc q=>s2.extBut _ _ (λx=>hc (by simp[x])) q
  ·exact D1.frame _ _ _ d λx hx o q=>s2.extBut _ _ (λz'=>Z.z1 (z'▸hx)) q
  ·exact D2.frame _ _ _ e λx hx o q=>s2.extBut _ _ (λz'=>Z.z2 (z'▸hx)) q
 apart:=λi T h hm=>hm.2.2.2.2.2
 done:=λs Q E st hQ=>by
  obtain⟨a,b,⟨u,v,c⟩,d,e⟩:=st;have hT:s.TypeIs (.ref z) "zip":=⟨_,a,FL⟩;unfold pyNext;refine XA (wpAny_attempt (wpAny_callSpecial?_slot (name:=Str.ofString "__next__") hT BM (wpAny_call_entry BM hT CO (y8 D1 Z a b c d λh2 ex hk he=>?_) (CM _))));obtain⟨o,ho,hc⟩:=he;refine XA (wpAny_isInstance (T:="StopIteration") (b:=true) ⟨o,ho,hc⟩ isSubtype_stop ?_);exact wpAny_pure (hQ h2 s.toks λc o hc q=>hk c o (λx=>hc (by simp[x])) (λx=>hc (by simp[x])) (λx=>hc (by simp[x])) (λx=>hc (by simp[x])) q)
 self:=λi s Q E st h=>wpAny_pyIter_zip st.1 h
end
def cI (z b:Bool)(K:WY)(l1 l2:WP):It:=
 ⟨λi H=>∃xs ys,Ec z K H l1 xs/\Ec b K H l2 ys/\xs.length<=ys.length/\i<xs.length,
  λi H x H'=>∃u v T,(∀xs,Ec z K H l1 xs->xs[i]?=some u)/\(∀ys,Ec b K H l2 ys->ys[i]?=some v)/\x=.ref T/\H T=none/\H'=Yz H T (.tup [u,v]),
  λi H=>∃xs ys,Ec z K H l1 xs/\Ec b K H l2 ys/\xs.length<=ys.length/\i=xs.length⟩
def xM {P:WO}{w:WN}{K:WY}{elts:List WW}{ek:Nat}{epos:Pos}(z b:Bool){k l1 l2:WP}(h1:l1<k)(h2:l2<k):
  Eb P w K (.Tuple elts ek epos) (cI z b K l1 l2) [k+4,k+2,k+3,k,k+1] (k+4)
   (λi h=>IsZip h (k+4) (k+2) (k+3) .none/\IsPair h (k+2) (.ref k) (.ref (k+1))/\(∃a c,IsPair h (k+3) a c)/\rE z h k l1 i/\rE b h (k+1) l2 i) where
 mem:=by simp
 obj:=λi h st c hc=>by
  obtain⟨a1,a2,⟨u,v,a3⟩,a4,a5⟩:=st;simp only[ZM,ZN,or_false] at hc
  rcases hc with rfl | rfl | rfl | rfl | rfl
  ·exact⟨_,a1,λv z=>by have z':Data.fields _=Data.cell v:=z;cases z'⟩
  ·exact⟨_,a2,λv z=>by have z':Data.seq _ _=Data.cell v:=z;cases z'⟩
  ·exact⟨_,a3,λv z=>by have z':Data.seq _ _=Data.cell v:=z;cases z'⟩
  ·exact a4.ob
  ·exact a5.ob
 keep:=λi h h' st kp=>by
  obtain⟨a1,a2,⟨u,v,a3⟩,a4,a5⟩:=st;exact⟨kp _ (by simp) _ a1,kp _ (by simp) _ a2,⟨u,v,kp _ (by simp) _ a3⟩,a4.at λo e=>kp _ (by simp) o e,a5.at λo e=>kp _ (by simp) o e⟩
 item:=by
  intro X hP hw hK hc i WZ s σ H E I hf st hg;subst hP hw hK;obtain⟨xs,ys,hq1,hq2,hlen,hi⟩:=hg;obtain⟨its1,rv1,p1⟩:=I.sqX hq1;obtain⟨its2,rv2,p2⟩:=I.sqX hq2;obtain⟨a1,a2,a3,a4,a5⟩:=st;have hn1:its1.toArray.size=xs.length:=by rw[XJ,rv1.length]
  have hn2:xs.length<=its2.toArray.size:=by rw[XJ,<-rv2.length];exact hlen
  have D1:=Tc (prog:=X.prog) (w:=X.w) (A:=X.A.in1) z (I.ok.hd hc) k l1 (XH h1) its1.toArray;have D2:=Tc (prog:=X.prog) (w:=X.w) (A:=X.A.in1) b (I.ok.hd hc) (k+1) l2 (XH (BX h2)) its2.toArray;rw[hn1] at D1;have W:=E7 D1 hn2 D2 (Nf h1 h2);refine W.item i s _ _ hi ⟨a1,a2,a3,⟨a4,p1⟩,⟨a5,p2⟩⟩ λT vals h' tk hv hT htup hm kk=>?_;obtain⟨x,y,hx,hy,rfl⟩:=hv;refine⟨_,rfl,W.go elts ek epos i T {s with heap:=h',toks:=tk} _ _ hm λh2 st2 kk2=>?_⟩;have hu:xs[i]?=some xs[i]:=by simp[hi]
  have hv:ys[i]?=some (ys[i]'(by omega)):=by simp[show i<ys.length by omega]
  obtain⟨u1,e1,r1⟩:=rv1.get hu;obtain⟨u2,e2,r2⟩:=rv2.get hv;have ex:x=u1:=by
   have:its1[i]?=some x:=by simpa using hx
   rw[e1] at this;exact(YH this).symm
  have ey:y=u2:=by
   have:its2[i]?=some y:=by simpa using hy
   rw[e2] at this;exact(YH this).symm
  subst ex ey;have hTn:H T=none:=I.hok.fresh hT;have hTw:T∉[k+4,k+3,k,k+1]:=W.apart i T h' hm;have sub:∀c,c∈[k+4,k+3,k,k+1]->c∈[k+4,k+2,k+3,k,k+1]:=λc hc=>by
   simp only[ZM,ZN,or_false] at hc |-
   rcases hc with z | z | z | z<;>simp[z]
  have k2:∀c o,c∉[k+4,k+3,k,k+1]->s.heap.get? c=some o->h2.get? c=some o:=λc o hb q=>kk2 c o hb (kk c o hb q);have htup2:IsTup h2 T #[x,y]:=by
   obtain⟨o,ho,r⟩:=htup;exact⟨o,kk2 T o hTw ho,r⟩
  have hfp:∀c∈[k+4,k+3,k,k+1],H c=none:=λc hb=>(hf c (sub c hb)).1;have hne:∀c,c<s.heap.objs.size->c≠T:=λc hb=>XH (XG hb hT);have tracked:∀c u,H c=some u->c≠T/\c∉[k+4,k+3,k,k+1]:=λc u q=>⟨hne c (I.hok.lt q),λz=>by rw[hfp c z] at q;cases q⟩;have I1:Zy X WZ σ (Yz H T (.tup [xs[i],ys[i]'(by omega)])) {s with heap:=h2,gens:=s.gens,drawn:=s.drawn,toks:=tk}:=by
   refine I.step (ch:=[k+4,k+3,k,k+1]) (λc hb=>?_) (λc o _ _ hc q _=>k2 c o hc q) (λc o _ _ hc q _=>⟨o.slots,k2 c o hc q⟩) (λc o hc q n=>by rw[Zt (hne c (XD q))];exact n) (λc o hc q=>⟨o,k2 c o hc q⟩)
    (λc xs q=>by rw[Zt (tracked c _ q).1];exact q) (λc o u q=>by rw[Zt (tracked c _ q).1];exact q) (λc ps q=>⟨#[],by rw[Zt (tracked c _ q).1,q];simp⟩) (λm hm=>?_) (λc u q=>?_) I.bare
   ·obtain⟨f0,f1,f2,f3,f4,f5⟩:=hf c (sub c hb);exact⟨f3,f1,f4,f5⟩
   ·obtain⟨o,es,ep,ho,r⟩:=hm;exact⟨o,es,ep,k2 _ o (λz=>(hf _ (sub _ z)).2.1 FL) ho,r⟩
   ·by_cases hb:c=T
    ·subst hb;rw[Z3] at q;cases q;exact⟨XN (by decide:2<=1000) (CI (Nh (XE _))),[x,y],.cons r1 (.cons r2 .nil),htup2⟩
    ·rw[Zt hb] at q;refine(I.hok c u q).stay (λd v hd r=>k2 d v ?_ r) (λd r=>by rw[Zt (tracked d _ r).1];exact r) λd xs r=>by rw[Zt (tracked d _ r).1];exact r
     rcases hd with rfl | hd
     ·exact(tracked d _ q).2
     ·exact(tracked d _ hd).2
  obtain⟨b1,b2,b3,⟨b4,_⟩,⟨b5,_⟩⟩:=st2;refine⟨.ref T,_,I1,FL,⟨_,_,T,λzs hz=>by rw[I.sqX_inj hz hq1];exact hu,λzs hz=>by rw[I.sqX_inj hz hq2];exact hv,FL,hTn,FL⟩,⟨b1,b2,b3,b4,b5⟩,λc hb=>?_⟩;have hbT:c≠T:=by
   obtain⟨o,ho⟩:∃o,s.heap.get? c=some o:=by
    obtain⟨u,v,a3⟩:=a3;simp only[ZM,ZN,or_false] at hb
    rcases hb with rfl | rfl | rfl | rfl | rfl
    ·exact⟨_,a1⟩
    ·exact⟨_,a2⟩
    ·exact⟨_,a3⟩
    ·exact a4.ob.imp λ_ h=>h.1
    ·exact a5.ob.imp λ_ h=>h.1
   exact hne c (XD ho)
  rw[Zt hbT];exact(hf c hb).1
 done:=by
  intro X hP hw hK hc i WZ s σ H E I hf st hg;subst hP hw hK;obtain⟨xs,ys,hq1,hq2,hlen,hi⟩:=hg;obtain⟨its1,rv1,p1⟩:=I.sqX hq1;obtain⟨its2,rv2,p2⟩:=I.sqX hq2;obtain⟨a1,a2,a3,a4,a5⟩:=st;have hn1:its1.toArray.size=xs.length:=by rw[XJ,rv1.length]
  have hn2:xs.length<=its2.toArray.size:=by rw[XJ,<-rv2.length];exact hlen
  have D1:=Tc (prog:=X.prog) (w:=X.w) (A:=X.A.in1) z (I.ok.hd hc) k l1 (XH h1) its1.toArray;have D2:=Tc (prog:=X.prog) (w:=X.w) (A:=X.A.in1) b (I.ok.hd hc) (k+1) l2 (XH (BX h2)) its2.toArray;rw[hn1] at D1;subst hi;have W:=E7 D1 hn2 D2 (Nf h1 h2);have sub:∀c,c∈[k+4,k+3,k,k+1]->c∈[k+4,k+2,k+3,k,k+1]:=λc hc=>by
   simp only[ZM,ZN,or_false] at hc |-
   rcases hc with z | z | z | z<;>simp[z]
  refine W.done s _ _ ⟨a1,a2,a3,⟨a4,p1⟩,⟨a5,p2⟩⟩ λh' tk kk=>⟨FL,?_⟩;exact I.step (g':=s.gens) (d':=s.drawn) (ch:=[k+4,k+3,k,k+1]) (λc hb=>let ⟨f0,f1,f2,f3,f4,f5⟩:=hf c (sub c hb);⟨f3,f1,f4,f5⟩) (λc o _ _ hc q _=>kk c o hc q) (λc o _ _ hc q _=>⟨o.slots,kk c o hc q⟩) (λc o _ _ n=>n) (λc o hc q=>⟨o,kk c o hc q⟩)
    (λ_ _ q=>q) (λ_ _ _ q=>q) (λc ps q=>⟨#[],by rw[q];simp⟩) (λm hm=>let ⟨o,es,ep,ho,r⟩:=hm;⟨o,es,ep,kk _ o (λz=>(hf _ (sub _ z)).2.1 FL) ho,r⟩)
    (λc u q=>(I.hok c u q).stay (λd v hd r=>kk d v (λz=>by
     rcases hd with rfl | hd
     ·rw[(hf _ (sub _ z)).1] at q;cases q
     ·rw[(hf _ (sub _ z)).1] at hd;cases hd) r) (λ_ r=>r) λ_ _ r=>r) I.bare
 self:=λA i s Q E st h=>wpAny_pyIter_zip st.1 h
section
variable {X:Cx}{elts:List WW}{ek:Nat}{epos:Pos}
def gN (K:WY)(ta:TA):TI:=λσ H R=>ta σ H λvs H1=>∃(z b:Bool) (l1 l2:WP) (xs ys:List V),vs=[.ref l1,.ref l2]/\Ec z K H1 l1 xs/\Ec b K H1 l2 ys/\R (cI z b K l1 l2) H1
def qt {a c:WW}{p pos:Pos}(hg:Gl X "zip")(hm:X.mg "zip"=none)(ha:PA X [a,c] ta)(hs:autoParam (starEach [a,c] X.env=(false,eval a X.env)::starEach [c] X.env) QzR)(hp:autoParam ((backTo pos (starEach [c] X.env)).any (·.1)=false) QzR)(hb:autoParam (bootBuiltins "zip"=some (.type "zip")) QzK):
  PI X (.Tuple elts ek epos) (.Call (.Name "zip" p) [a,c] [] pos) (gN X.K ta):=by
 intro WZ s σ H R I h;refine Call_ (Wm I hg hm hb (BF (Jy (ha pos WZ s σ H _ I h) λus s1 ⟨vs,H1,I1,r1,q1⟩=>?_) hs hp));obtain⟨z,b,l1,l2,xs,ys,rfl,hq1,hq2,q⟩:=q1;obtain⟨u,v,rfl,ru,rv⟩:=r1.two
 cases ru
 cases rv
 obtain⟨its1,rv1,p1⟩:=I1.sqX hq1;obtain⟨its2,rv2,p2⟩:=I1.sqX hq2;have fin:∀h2,pR s1.heap h2 (cX z) l1 (cX b) l2->wpAny (model X.prog X.w) X.A (pyIter (.ref (s1.heap.objs.size+4))) (fG X WZ σ (.Tuple elts ek epos) R) X.xe {s1 with heap:=h2}:=λh2 N=>by
  refine wpAny_pyIter_zip (s:={s1 with heap:=h2}) N.zip ?_;refine⟨_,_,_,_,H1,FL,I1.kept (t':=s1.toks) N.keep,xM z b p1.lt p2.lt,⟨N.zip,N.its,⟨_,_,N.own⟩,?_,?_⟩,λc hc=>?_,q⟩
  ·cases z
   ·exact⟨_,N.i1,FL,FL⟩
   ·exact⟨_,N.i1,FL,FL⟩
  ·cases b
   ·exact⟨_,N.i2,FL,FL⟩
   ·exact⟨_,N.i2,FL,FL⟩
  ·have e:s1.heap.objs.size<=c:=by
    simp only[ZM,ZN,or_false] at hc
    rcases hc with rfl | rfl | rfl | rfl | rfl
    ·exact BG _ _
    ·exact BG _ _
    ·exact BG _ _
    ·exact XE _
    ·exact BG _ _
   exact I1.fpOk e (I1.hok.fresh e)
 exact Rz z b p1 p2 fin
end
end L2
namespace WL
open PySem PySem.Spec PyProof.Rows L2
section
variable {X:Cx}{a b:WW}{wA:WA}{p pos:Pos}
def ao (a:WA):WI:=λτ C R χ=>a τ C (λvs C1=>(∃xs ys,vs=[.tup xs,.tup ys]/\xs.length<=ys.length/\R (Tz xs ys) (λ_=>True) C1)\/
 (∃xs ys l,vs=[.tup xs,.ref l]/\C1 l=some (.lst ys)/\xs.length<=ys.length/\R (Tz xs ys) (λC2=>C2 l=some (.lst ys)) C1)\/
 ∃xs ys k l,vs=[.ref k,.ref l]/\C1 k=some (.lst xs)/\C1 l=some (.lst ys)/\xs.length<=ys.length/\R (Tz xs ys) (λC2=>C2 k=some (.lst xs)/\C2 l=some (.lst ys)) C1) χ
def Bs {K:WY}{F H0:Hp}(z b:Bool){l1 l2:WP}{xs ys:List T}{ok:Hw->Prop}(hl:xs.length<=ys.length)(h1:∀H C,Rl K F H C->Tx H0 H->ok C->∃ys1,Ec z K H l1 ys1/\Reps K H ys1 xs)
  (h2:∀H C,Rl K F H C->Tx H0 H->ok C->∃ys2,Ec b K H l2 ys2/\Reps K H ys2 ys):Oh K F H0 (cI z b K l1 l2) (Tz xs ys) ok:=λi H C R t hok=>by
 obtain⟨ys1,q1,r1'⟩:=h1 H C R t hok;obtain⟨ys2,q2,r2⟩:=h2 H C R t hok;have hlz:(Tz xs ys).length=xs.length:=by unfold Tz;simp;omega
 have e1:=r1'.length;have e2:=r2.length;refine⟨λhi=>?_,λhi=>⟨ys1,ys2,q1,q2,by omega,by omega⟩⟩;rw[hlz] at hi;refine⟨⟨ys1,ys2,q1,q2,by omega,by omega⟩,λx H' h=>?_⟩;obtain⟨u,v,Tt,hu,hv,rfl,hT,rfl⟩:=h;obtain⟨x,hx,rx⟩:=r1'.get' (hu ys1 q1);obtain⟨y,hy,ry⟩:=r2.get' (hv ys2 q2);exact⟨_,Cb hx hy,R.hid hT,Tx.new hT,Ju (Uz.of Z3) (Yh (rx.tx (Tx.new hT)) (Yh (ry.tx (Tx.new hT)) Yv))⟩
def qY {elts:List WW}{ek:Nat}{epos:Pos}(hg:Gl X "zip")(hm:X.mg "zip"=none)(ha:yu X [a,b] wA)(hs:autoParam (starEach [a,b] X.env=(false,eval a X.env)::starEach [b] X.env) QzR)(hp:autoParam ((backTo pos (starEach [b] X.env)).any (·.1)=false) QzR):
  pW X (.Tuple elts ek epos) (.Call (.Name "zip" p) [a,b] [] pos) (ao wA):=by
 obtain⟨t,p1,s⟩:=ha;refine⟨_,qt hg hm p1 hs hp,λF H C σ τ R R' χ Rr S h q=>?_⟩;refine s F H C σ τ _ _ χ Rr S h λxs vs H1 C1 R1 t1 rs h1=>?_
 rcases h1 with⟨ts,us,rfl,hl,h1⟩ | ⟨ts,us,l,rfl,hC,hl,h1⟩ | ⟨ts,us,k,l,rfl,hB,hC,hl,h1⟩<;>obtain⟨x,y,rfl,rx,ry⟩:=yW rs
 ·obtain⟨l1,y1,rfl,q1,r1⟩:=Yi rx;obtain⟨l2,y2,rfl,q2,r2⟩:=Yi ry;exact⟨false,false,l1,l2,y1,y2,FL,q1,q2,q _ H1 _ _ C1 R1 t1 (λF'=>Bs _ _ hl (λH C _ t _=>⟨y1,t.sqt q1,r1.tx t⟩) λH C _ t _=>⟨y2,t.sqt q2,r2.tx t⟩) h1⟩
 ·obtain⟨l1,y1,rfl,q1,r1⟩:=Yi rx
  cases Z1 ry
  obtain⟨y2,hy,r2⟩:=R1.lst hC;refine⟨false,true,l1,l,y1,y2,FL,q1,J9.of hy,q _ H1 _ _ C1 R1 t1 (λF'=>Bs _ _ hl (λH C _ t _=>⟨y1,t.sqt q1,r1.tx t⟩) λH C R' t hok=>?_) h1⟩;obtain⟨y3,hy3,r3⟩:=R'.lst hok;exact⟨y3,J9.of hy3,r3⟩
 ·cases Z1 rx
  cases Z1 ry
  obtain⟨y1,hx,r1⟩:=R1.lst hB;obtain⟨y2,hy,r2⟩:=R1.lst hC;refine⟨true,true,k,l,y1,y2,FL,J9.of hx,J9.of hy,q _ H1 _ _ C1 R1 t1 (λF'=>Bs _ _ hl (λH C R' t hok=>?_) λH C R' t hok=>?_) h1⟩
  ·obtain⟨y3,hy3,r3⟩:=R'.lst hok.1;exact⟨y3,J9.of hy3,r3⟩
  ·obtain⟨y3,hy3,r3⟩:=R'.lst hok.2;exact⟨y3,J9.of hy3,r3⟩
end
end WL
namespace K22
open PySem PySem.Spec PyProof.Rows L2 WL
def top (i:Nat):WV:=PySem.Challenge.pw_idlegraph_k22_whole_papers_hold.main.body.getD i (.Pass ⟨0,0,0,0⟩)
 abbrev FM:List Str:=["_law_term_here","_law_kind_here","_law_kinds","_law_names","_law_num","_law_family"]
 abbrev FN:List Str:=["_law_deal_here","_law_way","_law_want","_law_names","_law_fuel","_law_asked","_law_no","_law_one","_law_first","_law_last","_law_kinds","_law_chosen","_law_inner_here"]
 abbrev FO:List Str:=["_law_term_here","_law_kind_here","_law_kinds","_law_names","_law_found","_law_pair","_law_one","_law_inner_here","_law_shape","_law_bound","_law_body"]
 abbrev FP:List Str:=["_law_deal_here","_law_want","_law_names","_law_fuel","_law_way","_law_arg","_law_fun","_law_one"]
 abbrev FQ:List Str:=["_law_deal_here","_law_want","_law_names","_law_fuel","_law_op","_law_one","_law_inner_here","_law_name_here"]
 abbrev FR:List Str:=["slots","term","slot","sort","own","body","given"]
 abbrev FS:List Str:=["_law_script","_law_deal_here","_law_fuel","_law_term_here","_law_rows","_law_kind_here","_law_kept"]
 abbrev FT:List Str:=["_law_deal_here","_law_want","_law_names","_law_fuel"]
 abbrev FU:List Str:=["_law_term_here","_law_kind_here","_law_kinds","_law_names"]
 abbrev FV:List Str:=["_law_deal_here","_law_want","_law_names","_law_fitting"]
 abbrev FW:List Str:=["_law_deal_here","_law_want","_law_names","_law_fuel","_law_bound","_law_k","_law_name_here","_law_inner_here","_law_pairs","_law_kind_here"]
 abbrev FX:List Str:=["_law_term_here","_law_rows","_law_at","_law_names","_law_places","_law_at_part","_law_part","_law_kinds","_law_inner_here","_law_k"]
 abbrev FY:List Str:=["_law_term_here"]
 abbrev FZ:List Str:=["_law_deal_here","_law_way","_law_want","_law_names","_law_fuel"]
 abbrev GA:List Str:=["_law_term_here","_law_rows","_law_at","_law_names"]
 abbrev GB:List Str:=["_law_deal_here","_law_many_here","_law_number","_law_one","_law_other"]
 abbrev GC:List Str:=["slots","slot","ready","opened","begun","pile","here","form","within"]
 abbrev GD:List Str:=["_law_name_here","_law_kind_here","_law_want"]
 abbrev GF:List Str:=["slots","shape","slot"]
 abbrev GG:List Str:=["self","slot"]
 abbrev GH:List Str:=["_law_cells","_law_mixed","_law_number","_law_cell","_law_left"]
 abbrev GI:List Str:=["slots","term","bound","slot","places","scope","asked","inner"]
 abbrev GJ:List Str:=["_law_deal_here","_law_want","_law_names"]
 abbrev GK:List Str:=["_law_deal_here","_law_letters","_law_name_here","_law_k"]
 abbrev GL:List Str:=["_law_deal_here","_law_fuel","_law_way","_law_one"]
 abbrev GM:List Str:=["_law_deal_here","_law_many_here"]
 abbrev GN:List Str:=["self","one","other","pile","pair","left","right"]
 abbrev GO:List Str:=["slots","slot","ready","opened"]
 abbrev GP:List Str:=["_law_term_here","_law_many_here","_law_part"]
 abbrev GQ:List Str:=["_law_kind_here","_law_many_here","_law_part"]
 abbrev GR:List Str:=["shape","names","body"]
 abbrev GS:List Str:=["slots","shape","slot","one","other","whole"]
 abbrev GU:List Str:=["slots","term","bound","slot"]
 abbrev GV:List Str:=["term"]
 abbrev GW:List Str:=["_law_deal_here","_law_fuel"]
 abbrev GX:List Str:=["body","steps","bound","behind","step"]
 abbrev GY:List Str:=["slots","op","slot","outcome","number"]
 abbrev GZ:List Str:=["slots","rows","ready","opened","slot"]
 abbrev HA:List Str:=["_law_cells","_law_mixed"]
 abbrev HB:List Str:=["term","bound","found","names","part"]
 abbrev HC:List Str:=["self","left","right","known","other"]
 abbrev HD:List Str:=["slots","term","rows","pile","place"]
 abbrev HE:List Str:=["slots","shape","slot","one","other"]
 abbrev HF:List Str:=["term","bound","found"]
 abbrev HG:List Str:=["slots","term","slot"]
 abbrev HH:List Str:=["self","left","right"]
 abbrev HI:List Str:=["name","part","names"]
 abbrev HJ:List Str:=["self"]
 abbrev HK:List Str:=["self","one","other"]
 abbrev HL:List Str:=["slots","op","slot"]
 abbrev HM:List Str:=["_law_script"]
 abbrev HN:List Str:=["_law_deal_here"]
 abbrev HQ:List Str:=["_law_kind_here"]
structure Txt (w:World)(K:W.Frag)(mg:Str->Option Value):Prop where
 zbr:mg "any"=none
 zbn:mg "bool"=none
 zam:mg "dict"=none
 zbh:mg "enumerate"=none
 za0:mg "int"=none
 zaj:mg "isinstance"=none
 zal:mg "len"=none
 zap:mg "list"=none
 zbp:mg "max"=none
 za3:mg "range"=none
 zar:mg "reversed"=none
 zbl:mg "sorted"=none
 zbs:mg "str"=none
 zbq:mg "sum"=none
 zan:mg "tuple"=none
 zaw:mg "zip"=none
 zai:KF K "forms" "Slots"
 zaf:KF K "leads" "Slots"
structure Cs (Pg:Program)(w:World)(K:W.Frag)(mg:Str->Option Value)(base:Heap)(n:Nat)(pr:List Df):Prop where
 zaz:Ca Pg w K mg base n "scopes" GV (spW K pr n 0)
 zbb:Ca Pg w K mg base n "let_scopes" ["pairs","body"] (spW K pr n 1)
 za6:Ca Pg w K mg base n "rows_scopes" ["body","steps"] (spW K pr n 2)
 zbo:Ca Pg w K mg base n "free" GV (spW K pr n 3)
 zat:Ca Pg w K mg base n "gather_free" HF (spW K pr n 4)
 zav:Ca Pg w K mg base n "paper" GV (spW K pr n 12)
 zax:Ca Pg w K mg base n "kind_of" GV (spW K pr n 13)
 zbk:Ca Pg w K mg base n "rows_of" ["slots","term"] (spW K pr n 14)
 za2:Ca Pg w K mg base n "places_within" GU (spW K pr n 15)
 za9:Ca Pg w K mg base n "part_slots" HG (spW K pr n 16)
 zbc:Ca Pg w K mg base n "does_slots" HL (spW K pr n 17)
 za5:Ca Pg w K mg base n "shape_slots" GF (spW K pr n 18)
 za4:Ca Pg w K mg base n "choose_slots" GF (spW K pr n 19)
 za8:Ca Pg w K mg base n "told_kinds" ["slots","rows"] (spW K pr n 20)
 zbd:Ca Pg w K mg base n "make_ready" GO (spW K pr n 21)
 zbe:Ca Pg w K mg base n "_law_deal" HA (spW K pr n 22)
 zab:Ca Pg w K mg base n "_law_draw" GM (spW K pr n 23)
 zak:Ca Pg w K mg base n "_law_name" HN (spW K pr n 24)
 zag:Ca Pg w K mg base n "_law_kind" GW (spW K pr n 25)
 zbf:Ca Pg w K mg base n "_law_leaf" GJ (spW K pr n 26)
 zbj:Ca Pg w K mg base n "_law_own" FT (spW K pr n 27)
 zbi:Ca Pg w K mg base n "_law_let" FT (spW K pr n 28)
 za7:Ca Pg w K mg base n "_law_choose" FZ (spW K pr n 29)
 zaa:Ca Pg w K mg base n "_law_term" FT (spW K pr n 30)
 zao:Ca Pg w K mg base n "_law_parts" FY (spW K pr n 31)
 zaq:Ca Pg w K mg base n "_law_many" FY (spW K pr n 32)
 zas:Ca Pg w K mg base n "_law_is_kind" HQ (spW K pr n 33)
 zba:Ca Pg w K mg base n "_law_inner" FU (spW K pr n 34)
 zbg:Ca Pg w K mg base n "_law_fits" FU (spW K pr n 35)
 zau:Ca Pg w K mg base n "_law_walk" GA (spW K pr n 36)
 zbu:Ca Pg w K mg base n "law" HM (spW K pr n 37)
 zbt:Cm Pg w K mg base n "Slots" "__init__" HJ (spW K pr n 5)
 zad:Cm Pg w K mg base n "Slots" "unknown" HJ (spW K pr n 6)
 zac:Cm Pg w K mg base n "Slots" "known" ["self","form"] (spW K pr n 7)
 zah:Cm Pg w K mg base n "Slots" "shared" GG (spW K pr n 8)
 za1:Cm Pg w K mg base n "Slots" "form_of" GG (spW K pr n 9)
 zae:Cm Pg w K mg base n "Slots" "make_alike" HK (spW K pr n 10)
 zay:Cm Pg w K mg base n "Slots" "join_two" HH (spW K pr n 11)
 zbm:Cn Pg w K mg base n pr "Slots" 5 38
def SX (j:Nat)(st:WV)(N:List Str)(q:Str)(Wx:Calls->WS):Prop:=∀{Pg:WO} {w:WN} {K:WY} {mg:Str->Option WQ} {base:WU} {n:Nat} {pr:List Df} {P:Calls} {f:WP} {cdv:WQ} {A:WM} {outer:List Env} {s:WR} {H:Hp} {E:XK},Yg pr n=P->Txt w K mg->Cs Pg w K mg base n pr->
 Wv n (A.deeper (envOfC q (Zq st) s.heap.objs.size f cdv))->sZ (ym CX0 Pg w K mg base N q (Zq st) f cdv A outer s H E).nox ((Vm st).drop j) (Wx P)
local macro_rules | `(tactic| walk_at "sc") => `(tactic| exact ⟨rfl, rfl, rfl, by decide +kernel, rfl, by decide +kernel, by decide +kernel⟩)
abbrev K0:WV:=top 5
def Dc:Z2 ["term","sort"] GV (Zq K0):=by walk_at "sc"
def Ee:{W//SX 0 K0 ["term","sort"] "scopes" W}:=⟨_,λhP T S hr=>by
  have nd:=Dc.nd;have hu:=Z5 hr;exact(Zd (Zm (i:=1) nd (Zs (Zb 0) Zf))
   (Zd (Zx (Zj (Yc hu) (Zb 1) Zi) (Zh (Zk (Z9 (Za (Zn (Za (Zn Zc) (Za (Zs (Zb 0) Zf) Zc))) (Za (Zn (Za (Zn Zc) (Za (Zs (Zb 0) Zf) Zc))) Zc))))) Zo)
   (Zd (Zx (Nv (Se (Zj (Yc hu) (Zb 1) Zi) (V2 (Zj (Yc hu) (Zb 1) Zi)))) (Zh (Zk (Z9 (Za (Zn (Za (Zn Zc) (Za (Zs (Zb 0) Zf) Zc))) (Za (Zn (Za (Zn Zc) (Za (Zs (Zb 0) Zf) Zc))) Zc))))) Zo)
   (Zd (Zx (Zj (Yc hu) (Zb 1) Zi) (Zh (Zk (Z9 (Za (Zn (Za (Zn (Za (Zs (Zb 0) Zf) Zc)) (Za (Zs (Zb 0) Zf) Zc))) Zc)))) Zo)
   (Zd (Zx (Zj (Yc hu) (Zb 1) Zi) (Zh (Zk (cP hP (Zp S.zbb hr (by rfl) (Za (Zs (Zb 0) Zf) (Za (Zs (Zb 0) Zf) Zc)))))) Zo)
   (Zd (Zx (Zj (Yc hu) (Zb 1) Zi) (Zh (Zk (Uy (cN:=["part"]) (cap:=[none]) (cl:=[]) (js:=[0]) (g:=(Xc 0)) ⟨FL,(λ_=>Np FL (by decide+kernel) (by decide+kernel) FL (by decide)),(Jx (Zs (Zb 0) Zf)),(λ_ _ _=>Y7 (i:=0) (show(["part"]:List Str).Nodup by decide+kernel) FL (Or.inl FL)),Yf,Jb,Y3,by decide+kernel,λ_ _ _=>Xf,λ_ _ _=>(Zn (Za (Zn Zc) (Za (Zb 0) Zc))),λ_=>rfl⟩))) Zo)
   (Zd (Zx (Zj (Yc hu) (Zb 1) Zi) (Zh (Zk (Jc Ww (Z9 (Za (Zn (Za (Zn Zc) (Za (Zs (Zb 0) Zf) Zc))) Zc)) (Uy (cN:=GR) (cap:=[none,none,none]) (cl:=[]) (js:=([0]++([1]++([2]++[])))) (g:=(zZ _ 3 (Sb (Xc 0) (Sb (Xc 1) (Sb (Xc 2) ya))))) ⟨FL,(λ_=>Np FL (by decide+kernel) (by decide+kernel) FL (by decide)),(Jx (Zs (Zb 0) Zf)),(λ_ _ _=>Gx (n:=3) FL (Xz (Y7 (i:=0) (show(GR:List Str).Nodup by decide+kernel) FL (Or.inl FL)) (Xz (Y7 (i:=1) (show(GR:List Str).Nodup by decide+kernel) FL (Or.inl FL)) (Xz (Y7 (i:=2) (show(GR:List Str).Nodup by decide+kernel) FL (Or.inl FL)) Ls)))),(Aa (J8 Yf (J8 Yf (J8 Yf Vc)))),(Ab (Ub Jb Yf (Ub Jb Yf (Ub Jb Yf Ac Vc) (J8 Yf Vc)) (J8 Yf (J8 Yf Vc)))),(Gn (Vk Y3 (Vk Y3 (Vk Y3 Go))) (Yw (Yw (Yw Tp)))),by decide+kernel,λ_ _ _=>Xf,λ_ _ _=>(Zn (Za (Zb 1) (Za (Zb 2) Zc))),λ_=>rfl⟩)))) Zo)
   (Zd (Zx (Zj (Yc hu) (Zb 1) Zi) (Zh (Zk (cP hP (Zp S.za6 hr (by rfl) (Za (Zs (Zb 0) Zf) (Za (Zs (Zb 0) Zf) Zc)))))) Zo)
   (Zh (Zk (Z9 Zc)))))))))))⟩
abbrev Ti:WV:=top 6
def N0:Z2 ["pairs","body","names"] ["pairs","body"] (Zq Ti):=by walk_at "sc"
def Qd:{W//SX 0 Ti ["pairs","body","names"] "let_scopes" W}:=⟨_,λhP T S hr=>by
  have nd:=N0.nd;exact(Zd (Zm (i:=2) nd (Mr Kq (by rfl) T.zan Sh (Za (Uy (cN:=["name","part"]) (cap:=[none,none]) (cl:=[]) (js:=([0]++([1]++[]))) (g:=(zZ _ 2 (Sb (Xc 0) (Sb (Xc 1) ya)))) ⟨FL,(λ_=>Np FL (by decide+kernel) (by decide+kernel) FL (by decide)),(Jx (Zb 0)),(λ_ _ _=>Gx (n:=2) FL (Xz (Y7 (i:=0) (show(["name","part"]:List Str).Nodup by decide+kernel) FL (Or.inl FL)) (Xz (Y7 (i:=1) (show(["name","part"]:List Str).Nodup by decide+kernel) FL (Or.inl FL)) Ls))),(Aa (J8 Yf (J8 Yf Vc))),(Ab (Ub Jb Yf (Ub Jb Yf Ac Vc) (J8 Yf Vc))),(Gn (Vk Y3 (Vk Y3 Go)) (Yw (Yw Tp))),by decide+kernel,λ_ _ _=>Xf,λ_ _ _=>(Zb 0),λ_=>rfl⟩) Zc)))
   (Zh (Zk (Jc Ww (Uy (cN:=HI) (cap:=[none,none,some 2]) (cl:=(Xq _ _ [])) (js:=([0]++([1]++[]))) (g:=(zZ _ 2 (Sb (Xc 0) (Sb (Xc 1) ya)))) ⟨FL,(λok=>Ue ok FL (by decide+kernel) (by decide+kernel) FL FL FL),(Jx (Zb 0)),(λ_ _ _=>Gx (n:=2) FL (Xz (Y7 (i:=0) (show(HI:List Str).Nodup by decide+kernel) FL (Or.inl FL)) (Xz (Y7 (i:=1) (show(HI:List Str).Nodup by decide+kernel) FL (Or.inl FL)) Ls))),(Aa (J8 Yf (J8 Yf Vc))),(Ab (Ub Jb Yf (Ub Jb Yf Ac Vc) (J8 Yf Vc))),(Gn (Vk Y3 (Vk Y3 Go)) (Yw (Yw Tp))),by decide+kernel,λ_ _ _=>Xf,λ_ _ _=>(Zn (Za (Zb 2) (Za (Zb 1) Zc))),λ_=>rfl⟩) (Z9 (Za (Zn (Za (Zb 2) (Za (Zb 1) Zc))) Zc))))))⟩
abbrev Up:WV:=top 7
def Gp:Z2 GX ["body","steps"] (Zq Up):=by walk_at "sc"
def Mb:{W//SX 0 Up GX "rows_scopes" W}:=⟨_,λhP T S hr=>by
  exact su⟩
abbrev Cu:WV:=top 8
def jH:Z2 ["term","found"] GV (Zq Cu):=by walk_at "sc"
def jA:{W//SX 0 Cu ["term","found"] "free" W}:=⟨_,λhP T S hr=>by
  have nd:=jH.nd;exact(Zd (Zm (i:=1) nd Rx)
   (Zd (Ym (cP hP (Zp S.zat hr (by rfl) (Za (Zb 0) (Za (Zn Zc) (Za (Zb 1) Zc))))))
   (Zh (Zk (Mt (pJ FL) (by rfl) T.zbl wS (Za (Zb 1) Zc))))))⟩
abbrev Uq:WV:=top 9
def Pu:Z2 HB HF (Zq Uq):=by walk_at "sc"
def Tu:{W//SX 0 Uq HB "gather_free" W}:=⟨_,λhP T S hr=>by
  have nd:=Pu.nd;have hu:=Z5 hr;exact(Zd (Zx (Nv (Fq (Zj (Yc hu) (Zs (Zb 0) Zf) Zi) (Hz (Zj (qB hu) (Zs (Zb 0) Zf) (Zb 1) (by rfl))))) (Zh (X8 Io (X3 hu (Zb 2) (Zs (Zb 0) Zf)))) Zo)
   (Zh (Wp PassesOwn.never FL (Jx (cP hP (Zp S.zaz hr (by rfl) (Za (Zb 0) Zc)))) (Il (n:=2) FL (Xt (Y8 (i:=3) nd) (Xt (Y8 (i:=4) nd) Im)) (Yw (Yw Tp)))
   (Zh (Ym (cP hP (Zp S.zat hr (by rfl) (Za (Zb 4) (Za (Jc Ww (Zb 1) (Zb 3)) (Za (Zb 2) Zc))))))))))⟩
abbrev Wk:WV:=Rm (top 11) 0
def Lk:Z2 HJ HJ (Zq Wk):=by walk_at "sc"
def Vh:{W//SX 0 Wk HJ "Slots.__init__" W}:=⟨_,λhP T S hr=>by
  exact(Zd (sr (J7 T.zai X7) (Zb 0) (Z9 Zc))
   (Zh (sr (J7 T.zaf X7) (Zb 0) (Z9 Zc))))⟩
abbrev W6:WV:=Rm (top 11) 1
def K6:Z2 HJ HJ (Zq W6):=by walk_at "sc"
def V5:{W//SX 0 W6 HJ "Slots.unknown" W}:=⟨_,λhP T S hr=>by
  exact(Zh (Zk (mP hP (Y4 (pl:=_) (Ya S.zac Yo) hr (Zb 0) (Za xq Zc)))))⟩
abbrev Ur:WV:=Rm (top 11) 2
def Px:Z2 ["self","form","slot"] ["self","form"] (Zq Ur):=by walk_at "sc"
def Tw:{W//SX 0 Ur ["self","form","slot"] "Slots.known" W}:=⟨_,λhP T S hr=>by
  have nd:=Px.nd;exact(Zd (Zm (i:=2) nd (Mt Of (by rfl) T.zal CF (Za (Sf (J7 T.zai X7) (Zb 0)) Zc)))
   (Zd (Ym (Kk XZ YB YA Je Xo (Sf (J7 T.zai X7) (Zb 0)) (Za (Zb 1) Zc)))
   (Zd (Ym (Kk XZ YB YA Je Xo (Sf (J7 T.zaf X7) (Zb 0)) (Za (Zb 2) Zc)))
   (Zh (Zk (Zb 2))))))⟩
abbrev Vx:WV:=Rm (top 11) 3
def Ql:Z2 GG GG (Zq Vx):=by walk_at "sc"
def U5:{W//SX 0 Vx GG "Slots.shared" W}:=⟨_,λhP T S hr=>by
  have nd:=Ql.nd;have hu:=Z5 hr;exact(Zd (Oe PassesOwn.never (Zj (Bi hu) (Zs (Sf (J7 T.zaf X7) (Zb 0)) (Zb 1)) (Zb 1))
   (Zd (X8 (Zs (Sf (J7 T.zaf X7) (Zb 0)) (Zs (Sf (J7 T.zaf X7) (Zb 0)) (Zb 1))) (jn (Sf (J7 T.zaf X7) (Zb 0)) (Zb 1)))
   (Zh (Zm (i:=1) nd (Zs (Sf (J7 T.zaf X7) (Zb 0)) (Zb 1))))))
   (Zh (Zk (Zb 1))))⟩
abbrev Va:WV:=Rm (top 11) 4
def Ia:Z2 GG GG (Zq Va):=by walk_at "sc"
def V6:{W//SX 0 Va GG "Slots.form_of" W}:=⟨_,λhP T S hr=>by
  exact(Zh (Zk (Zs (Sf (J7 T.zai X7) (Zb 0)) (mP hP (Y4 (pl:=_) (Ya S.zah Yo) hr (Zb 0) (Za (Zb 1) Zc))))))⟩
abbrev Xw:WV:=Rm (top 11) 5
def V7:Z2 GN HK (Zq Xw):=by walk_at "sc"
def Wc:{W//SX 0 Xw GN "Slots.make_alike" W}:=⟨_,λhP T S hr=>by
  have nd:=V7.nd;have hu:=Z5 hr;exact(Zd (Zm (i:=3) nd (Z9 (Za (Zn (Za (Zb 1) (Za (Zb 2) Zc))) Zc)))
   (Zh (Oe PassesOwn.never (Zj (Bi hu) (Zb 3) (Z9 Zc))
   (Zd (Zm (i:=4) nd (yk XZ EB EC Je jT (Zb 3)))
   (Zd (Zm (i:=5) nd (mP hP (Y4 (pl:=_) (Ya S.zah Yo) hr (Zb 0) (Za (Zs (Zb 4) Zf) Zc))))
   (Zd (Zm (i:=6) nd (mP hP (Y4 (pl:=_) (Ya S.zah Yo) hr (Zb 0) (Za (Zs (Zb 4) Zf) Zc))))
   (Zh (Zx (Zj (Bi hu) (Zb 5) (Zb 6)) (Zh (Ym (Kk XZ EJ EK Je Gz (Zb 3) (Za (mP hP (Y4 (pl:=_) (Ya S.zay Yo) hr (Zb 0) (Za (Zb 5) (Za (Zb 6) Zc)))) Zc)))) Zo))))))))⟩
abbrev Wj:WV:=Rm (top 11) 6
def U7:Z2 HC HH (Zq Wj):=by walk_at "sc"
def Vg:{W//SX 0 Wj HC "Slots.join_two" W}:=⟨_,λhP T S hr=>by
  have nd:=U7.nd;have hu:=Z5 hr;exact(Zd (Zm (i:=3) nd (Zs (Sf (J7 T.zai X7) (Zb 0)) (Zb 1)))
   (Zd (Zm (i:=4) nd (Zs (Sf (J7 T.zai X7) (Zb 0)) (Zb 2)))
   (Zd (Zx (Zj uT (Zb 3) xq) (Zd (X8 (Zb 2) (jn (Sf (J7 T.zaf X7) (Zb 0)) (Zb 1)))
   (Zh (Zk (Z9 Zc)))) Zo)
   (Zd (X8 (Zb 1) (jn (Sf (J7 T.zaf X7) (Zb 0)) (Zb 2)))
   (Zd (Zx (Zj uT (Zb 4) xq) (Zh (Zk (Z9 Zc))) Zo)
   (Zd (Zx (Zj (Bi hu) (Zs (Zb 3) Zf) (Zs (Zb 4) Zf)) (Zh Ki) Zo)
   (Zh (Zk (cg FL (by rfl) T.zap (by rfl) T.zaw (Za (jp (Zb 3) (Ud Zf) Rv) (Za (jp (Zb 4) (Ud Zf) Rv) Zc)))))))))))⟩
abbrev Gj:WV:=top 12
def zn:Z2 ["term","names","slots"] GV (Zq Gj):=by walk_at "sc"
def Ax:{W//SX 0 Gj ["term","names","slots"] "paper" W}:=⟨_,λhP T S hr=>by
  have nd:=zn.nd;have hu:=Z5 hr;exact(Zd (Zm (i:=1) nd (cP hP (Zp S.zbo hr (by rfl) (Za (Zb 0) Zc))))
   (Zd (Zx (Zj (Bi hu) (Zb 1) (Z9 Zc)) (Zh Ki) Zo)
   (Zd (Zm (i:=2) nd (cP hP (ky S.zbm hr (by rfl))))
   (Zh (Zk (cP hP (Zp S.za8 hr (by rfl) (Za (Zb 2) (Za (cP hP (Zp S.zbk hr (by rfl) (Za (Zb 2) (Za (Zb 0) Zc)))) Zc)))))))))⟩
abbrev Ml:WV:=top 13
def yI:Z2 GV GV (Zq Ml):=by walk_at "sc"
def Ir:{W//SX 0 Ml GV "kind_of" W}:=⟨_,λhP T S hr=>by
  exact(Zh (Zk (Zs (cP hP (Zp S.zav hr (by rfl) (Za (Zb 0) Zc))) Zf)))⟩
abbrev Mj:WV:=top 14
def Gq:Z2 HD ["slots","term"] (Zq Mj):=by walk_at "sc"
def Iq:{W//SX 0 Mj HD "rows_of" W}:=⟨_,λhP T S hr=>by
  have nd:=Gq.nd;have hu:=Z5 hr;exact(Zd (Zm (i:=2) nd (Z9 Zc))
   (Zd (Zm (i:=3) nd (Z9 (Za (Zn (Za (Zb 1) (Za Rx (Za (mP hP (Vn (pl:=_) (Ya S.zad Yo) hr (Zb 0))) Zc)))) Zc)))
   (Zd (Oe PassesOwn.never (Zj (Bi hu) (Zb 3) (Z9 Zc))
   (Zd (Zm (i:=4) nd (yk XZ EB EC Je jT (Zb 3)))
   (Zd (Ym (Kk XZ YB YA Je Xo (Zb 2) (Za (Zs (Zb 4) Zf) Zc)))
   (Zh (Ym (Kk XZ EJ EK Je Gz (Zb 3) (Za (sw FL (by rfl) T.zap (by rfl) T.zar (cP hP (Zp S.za2 hr (by rfl) (Za (Zb 0) (Za (Zs (Zb 4) Zf) (Za (Zs (Zb 4) Zf) (Za (Zs (Zb 4) Zf) Zc))))))) Zc)))))))
   (Zh (Zk (Zb 2))))))⟩
abbrev W5:WV:=top 15
def T8:Z2 GI GU (Zq W5):=by walk_at "sc"
def X4:{W//SX 0 W5 GI "places_within" W}:=⟨_,λhP T S hr=>by
  have nd:=T8.nd;have hu:=Z5 hr;exact(Zd (Zx (Zj (Yc hu) (Zs (Zb 1) Zf) Zi) (Zd (Ym (mP hP (Y4 (pl:=_) (Ya S.zae Yo) hr (Zb 0) (Za (Zb 3) (Za (X9 hu (Zb 2) (Zs (Zb 1) Zf) (λ_ _=>rfl)) Zc)))))
   (Zh (Zk (Z9 Zc)))) Zo)
   (Zd (Zm (i:=4) nd (Z9 Zc))
   (Zd (Wp PassesOwn.never FL (ku (by rfl) T.zaw (Za (cP hP (Zp S.zaz hr (by rfl) (Za (Zb 1) Zc))) (Za (cP hP (Zp S.za9 hr (by rfl) (Za (Zb 0) (Za (Zb 1) (Za (Zb 3) Zc))))) Zc))) (Il (n:=2) FL (Xt (Y8 (i:=5) nd) (Xt (Y8 (i:=6) nd) Im)) (Yw (Yw Tp)))
   (Zd (Zm (i:=7) nd (Mr Nr (by rfl) T.zam Nq (Za (Zb 2) Zc)))
   (Zd (Ym (Fv (Zb 7) (cj FL (by rfl) T.zam (by rfl) T.zaw (Za (Zs (Zb 5) Zf) (Za (Zs (Zb 6) Zf) Zc))) ⟨FL,FL,FL,FL⟩))
   (Zh (Ym (Kk XZ YB YA Je Xo (Zb 4) (Za (Zn (Za (Zs (Zb 5) Zf) (Za (Zb 7) (Za (Zs (Zb 6) Zf) Zc)))) Zc)))))))
   (Zh (Zk (Zb 4))))))⟩
abbrev Yt:WV:=top 16
def Xx:Z2 FR HG (Zq Yt):=by walk_at "sc"
def Qv:{W//SX 10 Yt FR "part_slots" W}:=⟨_,λhP T S hr=>by
  exact(Zh Ki)⟩
def Qu:{W//SX 9 Yt FR "part_slots" W}:=⟨_,λhP T S hr=>by
  have hu:=Z5 hr;exact(Zd (Zx (Zj (Yc hu) (Zb 3) Zi) (Zh (Zk (Z9 Zc))) Zo)
   (Qv.2 hP T S hr))⟩
def Qt:{W//SX 8 Yt FR "part_slots" W}:=⟨_,λhP T S hr=>by
  have hu:=Z5 hr;exact(Zd (Zx (Zj (Yc hu) (Zb 3) Zi) (Zh (Zk (Z9 (Za (Zn (Za (Zn Zc) (Za (mP hP (Vn (pl:=_) (Ya S.zad Yo) hr (Zb 0))) Zc))) (Za (Zn (Za (Zn Zc) (Za (Zb 2) Zc))) Zc))))) Zo)
   (Qu.2 hP T S hr))⟩
def Qs:{W//SX 7 Yt FR "part_slots" W}:=⟨_,λhP T S hr=>by
  have hu:=Z5 hr;exact(Zd (Zx (Zj (Yc hu) (Zb 3) Zi) (Zh (Zk (cP hP (Zp S.za4 hr (by rfl) (Za (Zb 0) (Za (Zs (Zs (Zs (Zb 1) Zf) Zf) Zf) (Za (Zb 2) Zc))))))) Zo)
   (Qt.2 hP T S hr))⟩
def Qr:{W//SX 6 Yt FR "part_slots" W}:=⟨_,λhP T S hr=>by
  have hu:=Z5 hr;exact(Zd (Zx (Zj (Yc hu) (Zb 3) Zi) (Zh (Zk (cP hP (Zp S.za5 hr (by rfl) (Za (Zb 0) (Za (Zs (Zb 1) Zf) (Za (Zb 2) Zc))))))) Zo)
   (Qs.2 hP T S hr))⟩
def Qq:{W//SX 5 Yt FR "part_slots" W}:=⟨_,λhP T S hr=>by
  have nd:=Xx.nd;have hu:=Z5 hr;exact(Zd (Zx (Zj (Yc hu) (Zb 3) Zi) (Zd (Zm (i:=4) nd (Mr Kq (by rfl) T.zan Sh (Za (Uy (cN:=["pair","slots"]) (cap:=[none,some 0]) (cl:=(Xq _ _ [])) (js:=[0]) (g:=(Xc 0)) ⟨FL,(λok=>Ue ok FL (by decide+kernel) (by decide+kernel) FL FL FL),(Jx (Zs (Zb 1) Zf)),(λ_ _ _=>Y7 (i:=0) (show(["pair","slots"]:List Str).Nodup by decide+kernel) FL (Or.inl FL)),Yf,Jb,Y3,by decide+kernel,λ_ _ _=>Xf,λ_ _ _=>(mP hP (Vn (pl:=_) (Ya S.zad Yo) hr (Zb 1))),λ_=>rfl⟩) Zc)))
   (Zh (Zk (Jc Ww (Uy (cN:=["one","own"]) (cap:=[none,some 4]) (cl:=(Xq _ _ [])) (js:=[0]) (g:=(Xc 0)) ⟨FL,(λok=>Ue ok FL (by decide+kernel) (by decide+kernel) FL FL FL),(Jx (Zb 4)),(λ_ _ _=>Y7 (i:=0) (show(["one","own"]:List Str).Nodup by decide+kernel) FL (Or.inl FL)),Yf,Jb,Y3,by decide+kernel,λ_ _ _=>Xf,λ_ _ _=>(Zn (Za (Zb 1) (Za (Zb 0) Zc))),λ_=>rfl⟩) (Z9 (Za (Zn (Za (Zb 4) (Za (Zb 2) Zc))) Zc)))))) Zo)
   (Qr.2 hP T S hr))⟩
def Qp:{W//SX 4 Yt FR "part_slots" W}:=⟨_,λhP T S hr=>by
  have nd:=Xx.nd;have hu:=Z5 hr;exact(Zd (Zx (Zj (Yc hu) (Zb 3) Zi) (Zd (Zm (i:=6) nd (mP hP (Vn (pl:=_) (Ya S.zad Yo) hr (Zb 0))))
   (Zh (Zk (Z9 (Za (Zn (Za (Zn Zc) (Za (mP hP (Y4 (pl:=_) (Ya S.zac Yo) hr (Zb 0) (Za (Zn (Za Zi (Za (Zb 6) (Za (Zb 2) Zc)))) Zc))) Zc))) (Za (Zn (Za (Zn Zc) (Za (Zb 6) Zc))) Zc)))))) Zo)
   (Qq.2 hP T S hr))⟩
def Qo:{W//SX 3 Yt FR "part_slots" W}:=⟨_,λhP T S hr=>by
  have nd:=Xx.nd;have hu:=Z5 hr;exact(Zd (Zx (Zj (Yc hu) (Zb 3) Zi) (Zd (Zm (i:=4) nd (mP hP (Vn (pl:=_) (Ya S.zad Yo) hr (Zb 0))))
   (Zd (Zm (i:=5) nd (mP hP (Vn (pl:=_) (Ya S.zad Yo) hr (Zb 0))))
   (Zd (Ym (mP hP (Y4 (pl:=_) (Ya S.zae Yo) hr (Zb 0) (Za (Zb 2) (Za (mP hP (Y4 (pl:=_) (Ya S.zac Yo) hr (Zb 0) (Za (Zn (Za Zi (Za (Zb 4) (Za (Zb 5) Zc)))) Zc))) Zc)))))
   (Zh (Zk (Z9 (Za (Zn (Za (Zn (Za (Zb 4) Zc)) (Za (Zb 5) Zc))) Zc))))))) Zo)
   (Qp.2 hP T S hr))⟩
def Qn:{W//SX 2 Yt FR "part_slots" W}:=⟨_,λhP T S hr=>by
  have hu:=Z5 hr;exact(Zd (Zx (Zj (Yc hu) (Zb 3) Zi) (Zh (Zk (cP hP (Zp S.zbc hr (by rfl) (Za (Zb 0) (Za (Zs (Zb 1) Zf) (Za (Zb 2) Zc))))))) Zo)
   (Qo.2 hP T S hr))⟩
def Qb:{W//SX 0 Yt FR "part_slots" W}:=⟨_,λhP T S hr=>by
  have nd:=Xx.nd;have hu:=Z5 hr;exact(Zd (Zm (i:=3) nd (Zs (Zb 1) Zf))
   (Zd (Zx (Zj (Yc hu) (Zb 3) Zi) (Zd (Ym (mP hP (Y4 (pl:=_) (Ya S.zae Yo) hr (Zb 0) (Za (Zb 2) (Za (mP hP (Y4 (pl:=_) (Ya S.zac Yo) hr (Zb 0) (Za (Zn (Za Zi Zc)) Zc))) Zc)))))
   (Zh (Zk (Z9 Zc)))) Zo)
   (Qn.2 hP T S hr)))⟩
abbrev Tk:WV:=top 17
def N2:Z2 GY HL (Zq Tk):=by walk_at "sc"
def Qe:{W//SX 0 Tk GY "does_slots" W}:=⟨_,λhP T S hr=>by
  have nd:=N2.nd;have hu:=Z5 hr;exact(Zd (Zm (i:=3) nd (fj (Nv (Se (Zj (Yc hu) (Zb 1) Zi) (V2 (Zj (Yc hu) (Zb 1) Zi)))) Zi Zi))
   (Zd (Ym (mP hP (Y4 (pl:=_) (Ya S.zae Yo) hr (Zb 0) (Za (Zb 2) (Za (mP hP (Y4 (pl:=_) (Ya S.zac Yo) hr (Zb 0) (Za (Zn (Za (Zb 3) Zc)) Zc))) Zc)))))
   (Zd (Zm (i:=4) nd (mP hP (Y4 (pl:=_) (Ya S.zac Yo) hr (Zb 0) (Za (Zn (Za Zi Zc)) Zc))))
   (Zh (Zk (Z9 (Za (Zn (Za (Zn Zc) (Za (Zb 4) Zc))) (Za (Zn (Za (Zn Zc) (Za (Zb 4) Zc))) Zc))))))))⟩
abbrev Uo:WV:=top 18
def Pt:Z2 HE GF (Zq Uo):=by walk_at "sc"
def Vp:{W//SX 0 Uo HE "shape_slots" W}:=⟨_,λhP T S hr=>by
  have nd:=Pt.nd;have hu:=Z5 hr;exact(Zd (Zx (Nv (Se (Zj (Yc hu) (Zb 1) Zi) (V2 (Zj (Yc hu) (Zb 1) Zi)))) (Zd (Ym (mP hP (Y4 (pl:=_) (Ya S.zae Yo) hr (Zb 0) (Za (Zb 2) (Za (mP hP (Y4 (pl:=_) (Ya S.zac Yo) hr (Zb 0) (Za (Zn (Za Zi Zc)) Zc))) Zc)))))
   (Zh (Zk (Z9 Zc)))) Zo)
   (Zd (Zm (i:=3) nd (mP hP (Vn (pl:=_) (Ya S.zad Yo) hr (Zb 0))))
   (Zd (Zx (Zj (Yc hu) (Zb 1) Zi) (Zd (Zm (i:=4) nd (mP hP (Vn (pl:=_) (Ya S.zad Yo) hr (Zb 0))))
   (Zd (Ym (mP hP (Y4 (pl:=_) (Ya S.zae Yo) hr (Zb 0) (Za (Zb 2) (Za (mP hP (Y4 (pl:=_) (Ya S.zac Yo) hr (Zb 0) (Za (Zn (Za Zi (Za (Zb 3) (Za (Zb 4) Zc)))) Zc))) Zc)))))
   (Zh (Zk (Z9 (Za (Zn (Za (Zn Zc) (Za (Zb 3) Zc))) (Za (Zn (Za (Zn Zc) (Za (Zb 4) Zc))) Zc))))))) Zo)
   (Zd (Ym (mP hP (Y4 (pl:=_) (Ya S.zae Yo) hr (Zb 0) (Za (Zb 2) (Za (mP hP (Y4 (pl:=_) (Ya S.zac Yo) hr (Zb 0) (Za (Zn (Za Zi (Za (Zb 3) Zc))) Zc))) Zc)))))
   (Zd (Zx (Zj (Yc hu) (Zb 1) Zi) (Zh (Zk (Z9 Zc))) Zo)
   (Zh (Zk (Z9 (Za (Zn (Za (Zn Zc) (Za (Zb 3) Zc))) (Za (Zn (Za (Zn Zc) (Za (Zb 2) Zc))) Zc))))))))))⟩
abbrev Vv:WV:=top 19
def Qj:Z2 GS GF (Zq Vv):=by walk_at "sc"
def Xr:{W//SX 0 Vv GS "choose_slots" W}:=⟨_,λhP T S hr=>by
  have nd:=Qj.nd;have hu:=Z5 hr;exact(Zd (Zx (Zj (Yc hu) (Zb 1) Zi) (Zh (Zk (Z9 (Za (Zn (Za (Zn Zc) (Za (mP hP (Y4 (pl:=_) (Ya S.zac Yo) hr (Zb 0) (Za (Zn (Za Zi Zc)) Zc))) Zc))) (Za (Zn (Za (Zn Zc) (Za (Zb 2) Zc))) (Za (Zn (Za (Zn Zc) (Za (Zb 2) Zc))) Zc)))))) Zo)
   (Zd (Zm (i:=3) nd (mP hP (Vn (pl:=_) (Ya S.zad Yo) hr (Zb 0))))
   (Zd (Zx (Zj (Yc hu) (Zb 1) Zi) (Zd (Zm (i:=4) nd (mP hP (Vn (pl:=_) (Ya S.zad Yo) hr (Zb 0))))
   (Zh (Zk (Z9 (Za (Zn (Za (Zn Zc) (Za (mP hP (Y4 (pl:=_) (Ya S.zac Yo) hr (Zb 0) (Za (Zn (Za Zi (Za (Zb 3) (Za (Zb 4) Zc)))) Zc))) Zc))) (Za (Zn (Za (Zn (Za (Zb 3) (Za (Zb 4) Zc))) (Za (Zb 2) Zc))) Zc)))))) Zo)
   (Zd (Zm (i:=5) nd (mP hP (Y4 (pl:=_) (Ya S.zac Yo) hr (Zb 0) (Za (Zn (Za Zi (Za (Zb 3) Zc))) Zc))))
   (Zh (Zk (Z9 (Za (Zn (Za (Zn Zc) (Za (Zb 5) Zc))) (Za (Zn (Za (Zn Zc) (Za (Zb 2) Zc))) (Za (Zn (Za (Zn (Za (Zb 3) (Za (Zb 5) Zc))) (Za (Zb 2) Zc))) Zc))))))))))⟩
abbrev Tg:WV:=top 20
def Ny:Z2 GZ ["slots","rows"] (Zq Tg):=by walk_at "sc"
def Qa:{W//SX 0 Tg GZ "told_kinds" W}:=⟨_,λhP T S hr=>by
  have nd:=Ny.nd;have hu:=Z5 hr;exact(Zd (Zm (i:=2) nd Rx)
   (Zd (Zm (i:=3) nd (Z9 Zc))
   (Zd (Wp PassesOwn.never FL (Jx (Zb 1)) (Y8 (i:=4) nd)
   (Zh (Ym (cP hP (Zp S.zbd hr (by rfl) (Za (Zb 0) (Za (mP hP (Y4 (pl:=_) (Ya S.zah Yo) hr (Zb 0) (Za (Zb 4) Zc))) (Za (Zb 2) (Za (Zb 3) Zc)))))))))
   (Zh (Zk (Uy (cN:=["slot","ready","slots"]) (cap:=[none,some 2,some 0]) (cl:=(Xq _ _ [])) (js:=[0]) (g:=(Xc 0)) ⟨FL,(λok=>Ue ok FL (by decide+kernel) (by decide+kernel) FL FL FL),(Jx (Zb 1)),(λ_ _ _=>Y7 (i:=0) (show(["slot","ready","slots"]:List Str).Nodup by decide+kernel) FL (Or.inl FL)),Yf,Jb,Y3,by decide+kernel,λ_ _ _=>Xf,λ_ _ _=>(X9 hu (Zb 1) (mP hP (Y4 (pl:=_) (Ya S.zah Yo) hr (Zb 2) (Za (Zb 0) Zc))) (λ_ _=>rfl)),λ_=>rfl⟩))))))⟩
abbrev Th:WV:=top 21
def Nz:Z2 GC GO (Zq Th):=by walk_at "sc"
def Qc:{W//SX 0 Th GC "make_ready" W}:=⟨_,λhP T S hr=>by
  have nd:=Nz.nd;have hu:=Z5 hr;exact(Zd (Zm (i:=4) nd Rx)
   (Zd (Zm (i:=5) nd (Z9 (Za (Zb 1) Zc)))
   (Zh (Oe PassesOwn.never (Zj (Bi hu) (Zb 5) (Z9 Zc))
   (Zd (Zm (i:=6) nd (yk XZ EB EC Je jT (Zb 5)))
   (Zd (Zx (Zj (uR hu) (Zb 6) (Zb 2) (by rfl)) (Zh Ai) Zo)
   (Zd (Zm (i:=7) nd (mP hP (Y4 (pl:=_) (Ya S.za1 Yo) hr (Zb 0) (Za (Zb 6) Zc))))
   (Zd (Zx (Zj uT (Zb 7) xq) (Zd (X8 (Zn (Za Zi (Za (Mt Of (by rfl) T.zal CF (Za (Zb 3) Zc)) Zc))) (X3 hu (Zb 2) (Zb 6)))
   (Zd (Ym (Kk XZ YB YA Je Xo (Zb 3) (Za (Zb 6) Zc)))
   (Zh Ai))) Zo)
   (Zd (Ru (k:=8) (cN:=["part","slots"]) (cap:=[none,some 0]) (cl:=(Xq _ _ [])) (js:=[0]) (g:=(Xc 0)) nd FL FL FL ⟨FL,(λok=>Ue ok FL (by decide+kernel) (by decide+kernel) FL FL FL),(Jx (jp (Zb 7) (Ud Zf) Rv)),(λ_ _ _=>Y7 (i:=0) (show(["part","slots"]:List Str).Nodup by decide+kernel) FL (Or.inl FL)),Yf,Jb,Y3,by decide+kernel,λ_ _ _=>Xf,λ_ _ _=>(mP hP (Y4 (pl:=_) (Ya S.zah Yo) hr (Zb 1) (Za (Zb 0) Zc))),λ_=>rfl⟩)
   (Zd (Zx (Zj (uR hu) (Zb 6) (Zb 4) (by rfl)) (Zd (X8 (Jc Ww (ff (Zb 7) Rv (Ud Zf)) (Mr Kq (by rfl) T.zan Sh (Za (Uy (cN:=["part","ready"]) (cap:=[none,some 2]) (cl:=(Xq _ _ [])) (js:=[0]) (g:=(Xc 0)) ⟨FL,(λok=>Ue ok FL (by decide+kernel) (by decide+kernel) FL FL FL),(Jx (Zb 8)),(λ_ _ _=>Y7 (i:=0) (show(["part","ready"]:List Str).Nodup by decide+kernel) FL (Or.inl FL)),Yf,Jb,Y3,by decide+kernel,λ_ _ _=>Xf,λ_ _ _=>(X9 hu (Zb 1) (Zb 0) (λ_ _=>rfl)),λ_=>rfl⟩) Zc))) (X3 hu (Zb 2) (Zb 6)))
   (Zh Ai)) Zo)
   (Zd (X8 Io (X3 hu (Zb 4) (Zb 6)))
   (Zd (Zx (Tq (Mt (fq FL) (by rfl) T.zbr kB (Za (Uy (cN:=["part","begun","ready"]) (cap:=[none,some 4,some 2]) (cl:=(Xq _ _ [])) (js:=[0]) (g:=(Xc 0)) ⟨FL,(λok=>Ue ok FL (by decide+kernel) (by decide+kernel) FL FL FL),(Jx (Zb 8)),(λ_ _ _=>Y7 (i:=0) (show(["part","begun","ready"]:List Str).Nodup by decide+kernel) FL (Or.inl FL)),Yf,Jb,Y3,by decide+kernel,λ_ _ _=>Xf,λ_ _ _=>(Km (Xg (uR hu) (Zb 0) (Zb 1) (by rfl)) (Fu (Xg (uP hu) (Zb 0) (Zb 2) (by rfl)))),λ_=>rfl⟩) Zc))) (Zh Ki) Zo)
   (Zd (Ym (Kk XZ YB YA Je Xo (Zb 5) (Za (Zb 6) Zc)))
   (Zh (Ym (Kk XZ EJ EK Je Gz (Zb 5) (Za (sw FL (by rfl) T.zap (by rfl) T.zar (Zb 8)) Zc)))))))))))))))))⟩
abbrev Rf:WV:=top 23
def Lj:Z2 GH HA (Zq Rf):=by walk_at "sc"
def Nc:{W//SX 0 Rf GH "_law_deal" W}:=⟨_,λhP T S hr=>by
  have nd:=Lj.nd;exact(Zd (Zm (i:=2) nd Zf)
   (Zd (Wp PassesOwn.never FL (Jx (Zb 0)) (Y8 (i:=3) nd)
   (Zh (Zm (i:=2) nd (Jc Lu (Jc Ww (Jc Di (Zb 2) Zf) (Zb 3)) Zf))))
   (Zd (Ru (k:=4) (cN:=["_law_cell"]) (cap:=[none]) (cl:=[]) (js:=[0]) (g:=(Xc 0)) nd FL FL FL ⟨FL,(λ_=>Np FL (by decide+kernel) (by decide+kernel) FL (by decide)),(kx (by rfl) T.zar (Za (Zb 0) Zc)),(λ_ _ _=>Y7 (i:=0) (show(["_law_cell"]:List Str).Nodup by decide+kernel) FL (Or.inl FL)),Yf,Jb,Y3,by decide+kernel,λ_ _ _=>Xf,λ_ _ _=>(Mt (fm FL) (by rfl) T.zbp kA (Za (Zb 0) (Za (Jc U9 Zf (Zb 0)) Zc))),λ_=>rfl⟩)
   (Zh (Zk (No (Y1 Zi (Zb 1) (Y1 Zi (Zb 2) (Y1 Zi Zf (Y1 Zi (Zb 4) (Y1 Zi Zf Nn)))))))))))⟩
abbrev Re:WV:=top 24
def Li:Z2 GB GM (Zq Re):=by walk_at "sc"
def Nb:{W//SX 0 Re GB "_law_draw" W}:=⟨_,λhP T S hr=>by
  have nd:=Li.nd;have hu:=Z5 hr;exact(Zd (Oe PassesOwn.never (Nv (Fq (Zj (Yc hu) (X9 hu (Zb 0) Zi (λ_ _=>rfl)) Zf) (Fq (Zj wn (Mt Of (by rfl) T.zal CF (Za (X9 hu (Zb 0) Zi (λ_ _=>rfl)) Zc)) Zf) (Hz (Rq (Tq (X9 hu (Zb 0) Zi (λ_ _=>rfl))))))))
   (Zh (X8 (yk XZ EB EC Je jT (X9 hu (Zb 0) Zi (λ_ _=>rfl))) (X3 hu (Zb 0) Zi))))
   (Zd (Zm (i:=2) nd (X9 hu (Zb 0) Zi (λ_ _=>rfl)))
   (Zd (Zx (Zj wn (Zb 2) Zf) (Zd (X8 (Jc lg (Zb 2) (Zb 1)) (X3 hu (Zb 0) Zi))
   (Zh (Zk (Jc Lu (Zb 2) (Zb 1))))) Zo)
   (Zd (Zm (i:=3) nd (Jc Lu (Jc Ww (Jc Di (X9 hu (Zb 0) Zi (λ_ _=>rfl)) Zf) Zf) Zf))
   (Zd (X8 (Jc Lu (Jc Ww (Jc Di (Zb 3) Zf) Zf) Zf) (X3 hu (Zb 0) Zi))
   (Zd (Zm (i:=4) nd (Jc Lu (Jc Di (X9 hu (Zb 0) Zi (λ_ _=>rfl)) (X9 hu (Zb 0) Zi (λ_ _=>rfl))) Zf))
   (Zh (Zk (Jc Lu (Jc Ww (Jc Di (Jc Lu (Jc Di (Zb 3) (Zb 3)) Zf) Zf) (Zb 4)) (Zb 1))))))))))⟩
abbrev Sy:WV:=top 25
def Le:Z2 GK HN (Zq Sy):=by walk_at "sc"
def Op:{W//SX 0 Sy GK "_law_name" W}:=⟨_,λhP T S hr=>by
  have nd:=Le.nd;have hu:=Z5 hr;exact(Zd (Zm (i:=1) nd Zi)
   (Zd (Zx (Zj (Yc hu) (cP hP (Zp S.zab hr (by rfl) (Za (Zb 0) (Za Zf Zc)))) Zf) (Zh (Zk (Zs (Zb 1) (cP hP (Zp S.zab hr (by rfl) (Za (Zb 0) (Za Zf Zc))))))) Zo)
   (Zd (Zm (i:=2) nd (Zs (Zb 1) (cP hP (Zp S.zab hr (by rfl) (Za (Zb 0) (Za Zf Zc))))))
   (Zd (Wp PassesOwn.never FL (oR (by rfl) T.za3 (Za (cP hP (Zp S.zab hr (by rfl) (Za (Zb 0) (Za Zf Zc)))) Zc)) (Y8 (i:=3) nd)
   (Zh (Zm (i:=2) nd (Jc Ww (Zb 2) (Zs (Jc Ww (Zb 1) Zi) (cP hP (Zp S.zab hr (by rfl) (Za (Zb 0) (Za Zf Zc)))))))))
   (Zd (Zx (Zj (lf hu) (Zb 2) (Z9 (Za Zi (Za Zi (Za Zi (Za Zi (Za Zi (Za Zi (Za Zi (Za Zi (Za Zi Zc)))))))))) (by rfl)) (Zh (Zm (i:=2) nd (Jc Ww (Zb 2) Zi))) Zo)
   (Zh (Zk (Zb 2))))))))⟩
abbrev Rc:WV:=top 26
def Lh:Z2 GL GW (Zq Rc):=by walk_at "sc"
def Ox:{W//SX 0 Rc GL "_law_kind" W}:=⟨_,λhP T S hr=>by
  have nd:=Lh.nd;have hu:=Z5 hr;exact(Zd (Zm (i:=2) nd (cP hP (Zp S.zab hr (by rfl) (Za (Zb 0) (Za Zf Zc)))))
   (Zd (Zx (Nv (Se (Zj (Yc hu) (Zb 1) Zf) (V2 (Zj gA (Zb 2) Zf)))) (Zh (Zk (Zs (Z9 (Za (Zn (Za Zi Zc)) (Za (Zn (Za Zi Zc)) (Za (Zn (Za Zi Zc)) Zc)))) (Jc Lu (Zb 2) Zf)))) Zo)
   (Zd (Zm (i:=3) nd (cP hP (Zp S.zag hr (by rfl) (Za (Zb 0) (Za (Jc U9 (Zb 1) Zf) Zc)))))
   (Zd (Zx (Zj (Yc hu) (Zb 2) Zf) (Zh (Zk (Zn (Za Zi (Za (Zb 3) Zc))))) Zo)
   (Zh (Zk (Zn (Za (Zs (Z9 (Za Zi (Za Zi Zc))) (Jc U9 (Zb 2) Zf)) (Za (Zb 3) (Za (cP hP (Zp S.zag hr (by rfl) (Za (Zb 0) (Za (Jc U9 (Zb 1) Zf) Zc)))) Zc))))))))))⟩
abbrev J5:WV:=top 27
def Lg:Z2 FV GJ (Zq J5):=by walk_at "sc"
def Ou:{W//SX 5 J5 FV "_law_leaf" W}:=⟨_,λhP T S hr=>by
  exact(Zh (Zk (Zn (Za Zi (Za Zi (Za (Zn Zc) Zc))))))⟩
def Ot:{W//SX 4 J5 FV "_law_leaf" W}:=⟨_,λhP T S hr=>by
  have hu:=Z5 hr;exact(Zd (Zx (Zj (Yc hu) (Zb 1) (Zn (Za Zi Zc))) (Zh (Zk (Zn (Za Zi (Za (Zs (Z9 (Za Zi (Za Zi Zc))) (cP hP (Zp S.zab hr (by rfl) (Za (Zb 0) (Za Zf Zc))))) (Za (Zn Zc) Zc)))))) Zo)
   (Ou.2 hP T S hr))⟩
def Os:{W//SX 3 J5 FV "_law_leaf" W}:=⟨_,λhP T S hr=>by
  have hu:=Z5 hr;exact(Zd (Zx (Zj (Yc hu) (Zb 1) (Zn (Za Zi Zc))) (Zh (Zk (Zn (Za Zi (Za (cP hP (Zp S.zab hr (by rfl) (Za (Zb 0) (Za (Jc g6 Zf Zf) Zc)))) Zc))))) Zo)
   (Ot.2 hP T S hr))⟩
def U3:{W//SX 2 J5 FV "_law_leaf" W}:=⟨_,λhP T S hr=>by
  have hu:=Z5 hr;exact(Zd (Zx (Nv (Se (Zj (lf hu) (Zs (Zb 1) Zf) (Z9 (Za Zi (Za Zi Zc))) (by rfl)) (V2 (Zj (Yc hu) (cP hP (Zp S.zab hr (by rfl) (Za (Zb 0) (Za Zf Zc)))) Zf)))) (Zh (Zk (Zn (Za Zi (Za (cP hP (Zp S.zak hr (by rfl) (Za (Zb 0) Zc))) Zc))))) Zo)
   (Os.2 hP T S hr))⟩
def Ov:{W//SX 0 J5 FV "_law_leaf" W}:=⟨_,λhP T S hr=>by
  have nd:=Lg.nd;have hu:=Z5 hr;exact(Zd (Ru (k:=3) (cN:=GD) (cap:=[none,none,some 1]) (cl:=(Xq _ _ [])) (js:=([0]++([1]++[]))) (g:=(zZ _ 2 (Sb (Xc 0) (Sb (Xc 1) ya)))) nd FL FL FL ⟨FL,(λok=>Ue ok FL (by decide+kernel) (by decide+kernel) FL FL FL),(yj (Zb 2)),(λ_ _ _=>Gx (n:=2) FL (Xz (Y7 (i:=0) (show(GD:List Str).Nodup by decide+kernel) FL (Or.inl FL)) (Xz (Y7 (i:=1) (show(GD:List Str).Nodup by decide+kernel) FL (Or.inl FL)) Ls))),(Aa (J8 Yf (J8 Yf Vc))),(Ab (Ub Jb Yf (Ub Jb Yf Ac Vc) (J8 Yf Vc))),(Gn (Vk Y3 (Vk Y3 Go)) (Yw (Yw Tp))),by decide+kernel,λ_ _ _=>(qX (Zj (Yc hu) (Zb 1) (Zb 2))),λ_ _ _=>(Zb 0),λ_=>rfl⟩)
   (Zd (Zx (Nv (Fq (Zj wn (Mt Of (by rfl) T.zal CF (Za (Zb 3) Zc)) Zf) (Hz (Zj wn (cP hP (Zp S.zab hr (by rfl) (Za (Zb 0) (Za Zf Zc)))) Zf)))) (Zh (Zk (Zn (Za Zi (Za (Zs (Zb 3) (cP hP (Zp S.zab hr (by rfl) (Za (Zb 0) (Za (Mt Of (by rfl) T.zal CF (Za (Zb 3) Zc)) Zc))))) Zc))))) Zo)
   (U3.2 hP T S hr)))⟩
abbrev Wd:WV:=top 28
def U6:Z2 FQ FT (Zq Wd):=by walk_at "sc"
def Me:{W//SX 4 Wd FQ "_law_own" W}:=⟨_,λhP T S hr=>by
  exact(Zh (Zk (Zn (Za Zi (Za Zi (Za (Zn (Za (Zb 5) (Za (cP hP (Zp S.zaa hr (by rfl) (Za (Zb 0) (Za (Zs (Zb 1) Zf) (Za (Zb 2) (Za (Zb 3) Zc)))))) Zc))) Zc))))))⟩
def Md:{W//SX 2 Wd FQ "_law_own" W}:=⟨_,λhP T S hr=>by
  have nd:=U6.nd;have hu:=Z5 hr;exact(Zd (Zm (i:=5) nd (cP hP (Zp S.zaa hr (by rfl) (Za (Zb 0) (Za (Zs (Zb 1) Zf) (Za (Zb 2) (Za (Zb 3) Zc)))))))
   (Zd (Zx (Zj (Yc hu) (Zs (Zb 1) Zf) Zi) (Zh (Zk (Zn (Za Zi (Za Zi (Za (Zn (Za (Zb 5) (Za (cP hP (Zp S.zaa hr (by rfl) (Za (Zb 0) (Za (Zb 1) (Za (Zb 2) (Za (Zb 3) Zc)))))) Zc))) Zc)))))) Zo)
   (Me.2 hP T S hr)))⟩
def Mc:{W//SX 1 Wd FQ "_law_own" W}:=⟨_,λhP T S hr=>by
  have nd:=U6.nd;have hu:=Z5 hr;exact(Zd (Zx (Zj (Yc hu) (Zs (Zb 1) Zf) Zi) (Zd (Zm (i:=6) nd (Mr Nr (by rfl) T.zam Nq (Za (Zb 2) Zc)))
   (Zd (Zm (i:=7) nd (cP hP (Zp S.zak hr (by rfl) (Za (Zb 0) Zc))))
   (Zd (X8 (Zs (Zb 1) Zf) (X3 hu (Zb 6) (Zb 7)))
   (Zh (Zk (Zn (Za Zi (Za (Zb 7) (Za (cP hP (Zp S.zaa hr (by rfl) (Za (Zb 0) (Za (Zs (Zb 1) Zf) (Za (Zb 6) (Za (Zb 3) Zc)))))) Zc))))))))) Zo)
   (Md.2 hP T S hr))⟩
def M4:{W//SX 0 Wd FQ "_law_own" W}:=⟨_,λhP T S hr=>by
  have nd:=U6.nd;have hu:=Z5 hr;exact(Zd (Zx (Nv (Se (Zj (Yc hu) (Zs (Zb 1) Zf) Zi) (V2 (Zj (Yc hu) (Zs (Zb 1) Zf) Zi)))) (Zd (Zm (i:=4) nd (Zs (Z9 (Za Zi (Za Zi (Za Zi Zc)))) (cP hP (Zp S.zab hr (by rfl) (Za (Zb 0) (Za Zf Zc))))))
   (Zd (Zx (Zj (Yc hu) (Zs (Zb 1) Zf) Zi) (Zh (Zm (i:=4) nd (Zs (Z9 (Za Zi (Za Zi Zc))) (cP hP (Zp S.zab hr (by rfl) (Za (Zb 0) (Za Zf Zc))))))) Zo)
   (Zd (Zm (i:=5) nd (cP hP (Zp S.zaa hr (by rfl) (Za (Zb 0) (Za (Zn (Za Zi Zc)) (Za (Zb 2) (Za (Zb 3) Zc)))))))
   (Zh (Zk (Zn (Za Zi (Za (Zb 4) (Za (Zb 5) (Za (cP hP (Zp S.zaa hr (by rfl) (Za (Zb 0) (Za (Zn (Za Zi Zc)) (Za (Zb 2) (Za (Zb 3) Zc)))))) Zc)))))))))) Zo)
   (Mc.2 hP T S hr))⟩
abbrev Ps:WV:=top 29
def Iu:Z2 FW FT (Zq Ps):=by walk_at "sc"
def M5:{W//SX 0 Ps FW "_law_let" W}:=⟨_,λhP T S hr=>by
  have nd:=Iu.nd;have hu:=Z5 hr;exact(Zd (Zm (i:=4) nd Rx)
   (Zd (Wp PassesOwn.never FL (oR (by rfl) T.za3 (Za (Jc Ww Zf (cP hP (Zp S.zab hr (by rfl) (Za (Zb 0) (Za Zf Zc))))) Zc)) (Y8 (i:=5) nd)
   (Zd (Zm (i:=6) nd (cP hP (Zp S.zak hr (by rfl) (Za (Zb 0) Zc))))
   (Zh (X8 (cP hP (Zp S.zag hr (by rfl) (Za (Zb 0) (Za Zf Zc)))) (X3 hu (Zb 4) (Zb 6))))))
   (Zd (Zm (i:=7) nd (Mr Nr (by rfl) T.zam Nq (Za (Zb 2) Zc)))
   (Zd (Ym (Fv (Zb 7) (Zb 4) ⟨FL,FL,FL,FL⟩))
   (Zd (Zm (i:=8) nd (Z9 Zc))
   (Zd (Wp PassesOwn.never FL (yj (Zb 4)) (Il (n:=2) FL (Xt (Y8 (i:=6) nd) (Xt (Y8 (i:=9) nd) Im)) (Yw (Yw Tp)))
   (Zh (Ym (Kk XZ YB YA Je Xo (Zb 8) (Za (Zn (Za (Zb 6) (Za (cP hP (Zp S.zaa hr (by rfl) (Za (Zb 0) (Za (Zb 9) (Za (Zb 7) (Za (Zb 3) Zc)))))) Zc))) Zc)))))
   (Zh (Zk (Zn (Za Zi (Za (Mr Kq (by rfl) T.zan Sh (Za (Zb 8) Zc)) (Za (cP hP (Zp S.zaa hr (by rfl) (Za (Zb 0) (Za (Zb 1) (Za (Zb 7) (Za (Zb 3) Zc)))))) Zc))))))))))))⟩
abbrev Jl:WV:=top 30
def J3:Z2 FN FZ (Zq Jl):=by walk_at "sc"
def Vf:{W//SX 10 Jl FN "_law_choose" W}:=⟨_,λhP T S hr=>by
  have nd:=J3.nd;exact(Zd (Zm (i:=12) nd (Mr Nr (by rfl) T.zam Nq (Za (Zb 3) Zc)))
   (Zd (Ym (Fv (Zb 12) (No (Y1 (Zb 8) (Zs (Zb 10) Zf) (Y1 (Zb 9) (Zs (Zb 10) Zf) Nn))) ⟨FL,FL,FL,FL⟩))
   (Zd (Ym (Kk XZ YB YA Je Xo (Zb 11) (Za (Zn (Za (Zs (Z9 (Za Zi (Za Zi Zc))) (Jc U9 (Zb 1) Zf)) (Za (Zn (Za (Zb 8) (Za (Zb 9) Zc))) (Za (cP hP (Zp S.zaa hr (by rfl) (Za (Zb 0) (Za (Zb 2) (Za (Zb 12) (Za (Zb 4) Zc)))))) Zc)))) Zc)))
   (Zh (Zk (Zn (Za Zi (Za (Zb 5) (Za (Mr Kq (by rfl) T.zan Sh (Za (Zb 11) Zc)) Zc)))))))))⟩
def Ve:{W//SX 7 Jl FN "_law_choose" W}:=⟨_,λhP T S hr=>by
  have nd:=J3.nd;have hu:=Z5 hr;exact(Zd (Zm (i:=5) nd (cP hP (Zp S.zaa hr (by rfl) (Za (Zb 0) (Za (Zs (Z9 (Za (Zs (Zb 10) Zf) (Za (Zn (Za Zi (Za (Zs (Zb 10) Zf) (Za (Zs (Zb 10) Zf) Zc)))) Zc))) (Jc U9 (Zb 1) Zf)) (Za (Zb 3) (Za (Zb 4) Zc)))))))
   (Zd (Zm (i:=11) nd (Z9 Zc))
   (Zd (Zx (Zj (Yc hu) (Zb 1) Zf) (Zh (Zm (i:=11) nd (Z9 (Za (Zn (Za Zi (Za (Zn Zc) (Za (cP hP (Zp S.zaa hr (by rfl) (Za (Zb 0) (Za (Zb 2) (Za (Zb 3) (Za (Zb 4) Zc)))))) Zc)))) Zc)))) Zo)
   (Vf.2 hP T S hr))))⟩
def Vd:{W//SX 5 Jl FN "_law_choose" W}:=⟨_,λhP T S hr=>by
  have nd:=J3.nd;have hu:=Z5 hr;exact(Zd (Zm (i:=10) nd (Z9 (Za (Zb 7) (Za (Zn (Za Zi (Za (Zb 7) Zc))) Zc))))
   (Zd (Zx (Zj (Yc hu) (Zb 1) Zf) (Zh (Zm (i:=10) nd (Z9 (Za (Zb 7) (Za (cP hP (Zp S.zag hr (by rfl) (Za (Zb 0) (Za Zf Zc)))) Zc))))) Zo)
   (Ve.2 hP T S hr)))⟩
def Si:{W//SX 1 Jl FN "_law_choose" W}:=⟨_,λhP T S hr=>by
  have nd:=J3.nd;have hu:=Z5 hr;exact(Zd (Zm (i:=7) nd (cP hP (Zp S.zag hr (by rfl) (Za (Zb 0) (Za Zf Zc)))))
   (Zd (Zm (i:=8) nd (cP hP (Zp S.zak hr (by rfl) (Za (Zb 0) Zc))))
   (Zd (Zm (i:=9) nd (cP hP (Zp S.zak hr (by rfl) (Za (Zb 0) Zc))))
   (Zd (Zx (Zj (Yc hu) (Zb 8) (Zb 9)) (Zh (Zm (i:=9) nd (Zs (Z9 (Za Zi (Za Zi Zc))) (Mr oW (by rfl) T.za0 jx (Za (Xg (Yc hu) (Zb 8) Zi (Jr _)) Zc))))) Zo)
   (Vd.2 hP T S hr)))))⟩
def Tv:{W//SX 0 Jl FN "_law_choose" W}:=⟨_,λhP T S hr=>by
  have nd:=J3.nd;have hu:=Z5 hr;exact(Zd (Zx (Zj (Yc hu) (Zb 1) Zf) (Zd (Zm (i:=5) nd (cP hP (Zp S.zaa hr (by rfl) (Za (Zb 0) (Za (Zn (Za Zi Zc)) (Za (Zb 3) (Za (Zb 4) Zc)))))))
   (Zd (Zm (i:=6) nd (cP hP (Zp S.zaa hr (by rfl) (Za (Zb 0) (Za (Zb 2) (Za (Zb 3) (Za (Zb 4) Zc)))))))
   (Zh (Zk (Zn (Za Zi (Za (Zb 5) (Za (Zn (Za (Zn (Za Zi (Za (Zn Zc) (Za (Zb 6) Zc)))) (Za (Zn (Za Zi (Za (Zn Zc) (Za (cP hP (Zp S.zaa hr (by rfl) (Za (Zb 0) (Za (Zb 2) (Za (Zb 3) (Za (Zb 4) Zc)))))) Zc)))) Zc))) Zc)))))))) Zo)
   (Si.2 hP T S hr))⟩
abbrev Jf:WV:=top 31
def V9:Z2 FP FT (Zq Jf):=by walk_at "sc"
def On:{W//SX 8 Jf FP "_law_term" W}:=⟨_,λhP T S hr=>by
  exact(Zh (Zk (cP hP (Zp S.za7 hr (by rfl) (Za (Zb 0) (Za (Zb 4) (Za (Zb 1) (Za (Zb 2) (Za (Jc U9 (Zb 3) Zf) Zc)))))))))⟩
def Om:{W//SX 7 Jf FP "_law_term" W}:=⟨_,λhP T S hr=>by
  have nd:=V9.nd;have hu:=Z5 hr;exact(Zd (Zx (Zj (Yc hu) (Zb 4) Zf) (Zd (Zm (i:=7) nd (cP hP (Zp S.zaa hr (by rfl) (Za (Zb 0) (Za (cP hP (Zp S.zag hr (by rfl) (Za (Zb 0) (Za Zf Zc)))) (Za (Zb 2) (Za (Jc U9 (Zb 3) Zf) Zc)))))))
   (Zh (Zk (Zn (Za Zi (Za (Zb 7) (Za (cP hP (Zp S.zaa hr (by rfl) (Za (Zb 0) (Za (Zb 1) (Za (Zb 2) (Za (Jc U9 (Zb 3) Zf) Zc)))))) Zc))))))) Zo)
   (On.2 hP T S hr))⟩
def Ol:{W//SX 6 Jf FP "_law_term" W}:=⟨_,λhP T S hr=>by
  have hu:=Z5 hr;exact(Zd (Zx (Zj (Yc hu) (Zb 4) Zf) (Zh (Zk (cP hP (Zp S.zbi hr (by rfl) (Za (Zb 0) (Za (Zb 1) (Za (Zb 2) (Za (Jc U9 (Zb 3) Zf) Zc)))))))) Zo)
   (Om.2 hP T S hr))⟩
def U2:{W//SX 5 Jf FP "_law_term" W}:=⟨_,λhP T S hr=>by
  have nd:=V9.nd;have hu:=Z5 hr;exact(Zd (Zx (Zj (Yc hu) (Zb 4) Zf) (Zd (Zm (i:=5) nd (cP hP (Zp S.zag hr (by rfl) (Za (Zb 0) (Za Zf Zc)))))
   (Zd (Zm (i:=6) nd (cP hP (Zp S.zaa hr (by rfl) (Za (Zb 0) (Za (Zn (Za Zi (Za (Zb 5) (Za (Zb 1) Zc)))) (Za (Zb 2) (Za (Jc U9 (Zb 3) Zf) Zc)))))))
   (Zh (Zk (Zn (Za Zi (Za (Zb 6) (Za (cP hP (Zp S.zaa hr (by rfl) (Za (Zb 0) (Za (Zb 5) (Za (Zb 2) (Za (Jc U9 (Zb 3) Zf) Zc)))))) Zc)))))))) Zo)
   (Ol.2 hP T S hr))⟩
def Oj:{W//SX 3 Jf FP "_law_term" W}:=⟨_,λhP T S hr=>by
  have hu:=Z5 hr;exact(Zd (X8 (Jc U9 (X9 hu (Zb 0) Zi (λ_ _=>rfl)) Zf) (X3 hu (Zb 0) Zi))
   (Zd (Zx (Nv (Se (Zj gA (Zb 4) Zf) (V2 (Zj (Yc hu) (Zb 4) Zf)))) (Zh (Zk (cP hP (Zp S.zbj hr (by rfl) (Za (Zb 0) (Za (Zb 1) (Za (Zb 2) (Za (Jc U9 (Zb 3) Zf) Zc)))))))) Zo)
   (U2.2 hP T S hr)))⟩
def U1:{W//SX 2 Jf FP "_law_term" W}:=⟨_,λhP T S hr=>by
  have hu:=Z5 hr;exact(Zd (Zx (Zj (Yc hu) (Zb 4) Zf) (Zh (Zk (cP hP (Zp S.zbf hr (by rfl) (Za (Zb 0) (Za (Zb 1) (Za (Zb 2) Zc))))))) Zo)
   (Oj.2 hP T S hr))⟩
def Oo:{W//SX 0 Jf FP "_law_term" W}:=⟨_,λhP T S hr=>by
  have nd:=V9.nd;have hu:=Z5 hr;exact(Zd (Zm (i:=4) nd Zf)
   (Zd (Zx (Nv (Fq (Zj wn (Zb 3) Zf) (Hz (Zj wn (X9 hu (Zb 0) Zi (λ_ _=>rfl)) Zf)))) (Zh (Zm (i:=4) nd (cP hP (Zp S.zab hr (by rfl) (Za (Zb 0) (Za Zf Zc)))))) Zo)
   (U1.2 hP T S hr)))⟩
abbrev Y5:WV:=top 32
def En:Z2 FY FY (Zq Y5):=by walk_at "sc"
def Q1:{W//SX 6 Y5 FY "_law_parts" W}:=⟨_,λhP T S hr=>by
  exact(Zh (Zk (Z9 Zc)))⟩
def Q0:{W//SX 5 Y5 FY "_law_parts" W}:=⟨_,λhP T S hr=>by
  have hu:=Z5 hr;exact(Zd (Zx (Zj (Yc hu) (Zs (Zb 0) Zf) Zi) (Zh (Zk (Jc Ww (Z9 (Za (Zs (Zb 0) Zf) Zc)) (Uy (cN:=["_law_one"]) (cap:=[none]) (cl:=[]) (js:=[0]) (g:=(Xc 0)) ⟨FL,(λ_=>Np FL (by decide+kernel) (by decide+kernel) FL (by decide)),(Jx (Zs (Zb 0) Zf)),(λ_ _ _=>Y7 (i:=0) (show(["_law_one"]:List Str).Nodup by decide+kernel) FL (Or.inl FL)),Yf,Jb,Y3,by decide+kernel,λ_ _ _=>Xf,λ_ _ _=>(Zs (Zb 0) Zf),λ_=>rfl⟩)))) Zo)
   (Q1.2 hP T S hr))⟩
def Qz:{W//SX 4 Y5 FY "_law_parts" W}:=⟨_,λhP T S hr=>by
  have hu:=Z5 hr;exact(Zd (Zx (Zj (Yc hu) (Zs (Zb 0) Zf) Zi) (Zh (Zk (Mr sJ (by rfl) T.zap At (Za (Zs (Zb 0) Zf) Zc)))) Zo)
   (Q0.2 hP T S hr))⟩
def Qy:{W//SX 3 Y5 FY "_law_parts" W}:=⟨_,λhP T S hr=>by
  have hu:=Z5 hr;exact(Zd (Zx (Zj (Yc hu) (Zs (Zb 0) Zf) Zi) (Zh (Zk (Jc Ww (Uy (cN:=["_law_pair"]) (cap:=[none]) (cl:=[]) (js:=[0]) (g:=(Xc 0)) ⟨FL,(λ_=>Np FL (by decide+kernel) (by decide+kernel) FL (by decide)),(Jx (Zs (Zb 0) Zf)),(λ_ _ _=>Y7 (i:=0) (show(["_law_pair"]:List Str).Nodup by decide+kernel) FL (Or.inl FL)),Yf,Jb,Y3,by decide+kernel,λ_ _ _=>Xf,λ_ _ _=>(Zs (Zb 0) Zf),λ_=>rfl⟩) (Z9 (Za (Zs (Zb 0) Zf) Zc))))) Zo)
   (Qz.2 hP T S hr))⟩
def Qx:{W//SX 2 Y5 FY "_law_parts" W}:=⟨_,λhP T S hr=>by
  have hu:=Z5 hr;exact(Zd (Zx (Nv (Se (Zj (Yc hu) (Zs (Zb 0) Zf) Zi) (V2 (Zj (Yc hu) (Zs (Zb 0) Zf) Zi)))) (Zh (Zk (Z9 (Za (Zs (Zb 0) Zf) (Za (Zs (Zb 0) Zf) Zc))))) Zo)
   (Qy.2 hP T S hr))⟩
def Qw:{W//SX 1 Y5 FY "_law_parts" W}:=⟨_,λhP T S hr=>by
  have hu:=Z5 hr;exact(Zd (Zx (Zj (Yc hu) (Zs (Zb 0) Zf) Zi) (Zh (Zk (Z9 (Za (Zs (Zb 0) Zf) Zc)))) Zo)
   (Qx.2 hP T S hr))⟩
def Qf:{W//SX 0 Y5 FY "_law_parts" W}:=⟨_,λhP T S hr=>by
  have hu:=Z5 hr;exact(Zd (Zx (Zj (Yc hu) (Zs (Zb 0) Zf) Zi) (Zh (Zk (Z9 (Za (Zs (Zb 0) Zf) (Za (Zs (Zb 0) Zf) Zc))))) Zo)
   (Qw.2 hP T S hr))⟩
abbrev Sz:WV:=top 33
def Lf:Z2 GP FY (Zq Sz):=by walk_at "sc"
def Oq:{W//SX 0 Sz GP "_law_many" W}:=⟨_,λhP T S hr=>by
  have nd:=Lf.nd;exact(Zd (Zm (i:=1) nd Zf)
   (Zd (Wp PassesOwn.never FL (Jx (cP hP (Zp S.zao hr (by rfl) (Za (Zb 0) Zc)))) (Y8 (i:=2) nd)
   (Zh (Zm (i:=1) nd (Jc Ww (Zb 1) (cP hP (Zp S.zaq hr (by rfl) (Za (Zb 2) Zc)))))))
   (Zh (Zk (Zb 1)))))⟩
abbrev Vw:WV:=top 34
def Qk:Z2 GQ HQ (Zq Vw):=by walk_at "sc"
def Wr:{W//SX 0 Vw GQ "_law_is_kind" W}:=⟨_,λhP T S hr=>by
  have nd:=Qk.nd;have hu:=Z5 hr;exact(Zd (Zx (Nv (Se (Rq (Tq (yl (by rfl) T.zaj (by rfl) T.zan Sh (by decide) (Zb 0)))) (Se (Zj (Yc hu) (Mt Of (by rfl) T.zal CF (Za (Zb 0) Zc)) Zf) (V2 (Rq (Tq (yl (by rfl) T.zaj (by rfl) T.zbs k8 (by decide) (Zs (Zb 0) Zf)))))))) (Zh (Zk Io)) Zo)
   (Zd (Zx (Zj (Yc hu) (Zs (Zb 0) Zf) Zi) (Zh (Zk (Km (Xg (Yc hu) (Mt Of (by rfl) T.zal CF (Za (Zb 0) Zc)) Zf (Jr _)) (Km (yl (by rfl) T.zaj (by rfl) T.za0 jx (by decide) (Zs (Zb 0) Zf)) (Km (fh (yl (by rfl) T.zaj (by rfl) T.zbn pF (by decide) (Zs (Zb 0) Zf))) (Fu (Xg dB (Zs (Zb 0) Zf) Zf (Jr _)))))))) Zo)
   (Zd (Zm (i:=1) nd (No (Y1 Zi Zf (Y1 Zi Zf (Y1 Zi Zf (Y1 Zi Zf (Y1 Zi Zf Nn)))))))
   (Zd (Zx (Zj (Bi hu) (qZ hu (Zb 1) (Zs (Zb 0) Zf) Zf ⟨FL,FL,FL,FL⟩) (Mt Of (by rfl) T.zal CF (Za (Zb 0) Zc))) (Zh (Zk Io)) Zo)
   (Zd (Wp PassesOwn.never FL (Jx (jp (Zb 0) (Ud Zf) Rv)) (Y8 (i:=2) nd)
   (Zh (Zx (Rq (Tq (cP hP (Zp S.zas hr (by rfl) (Za (Zb 2) Zc))))) (Zh (Zk Io)) Zo)))
   (Zh (Zk Io)))))))⟩
abbrev Jw:WV:=top 35
def Vl:Z2 FO FU (Zq Jw):=by walk_at "sc"
def Q4:{W//SX 6 Jw FO "_law_inner" W}:=⟨_,λhP T S hr=>by
  exact(Zh (Zk (Zb 7)))⟩
def Q3:{W//SX 4 Jw FO "_law_inner" W}:=⟨_,λhP T S hr=>by
  have nd:=Vl.nd;have hu:=Z5 hr;exact(Zd (Zm (i:=7) nd (Z9 (Za (Zb 3) Zc)))
   (Zd (Wp PassesOwn.never FL (Jx (Zs (Zb 0) Zf)) (Il (n:=3) FL (Xt (Y8 (i:=8) nd) (Xt (Y8 (i:=9) nd) (Xt (Y8 (i:=10) nd) Im))) (Yw (Yw (Yw Tp))))
   (Zd (Zm (i:=4) nd (Mr Nr (by rfl) T.zam Nq (Za (Zb 3) Zc)))
   (Zd (Zx (Zj (Yc hu) (Zb 8) Zi) (Zh (Ym (Fv (Zb 4) (No (Y1 (Zs (Zb 9) Zf) (Zs (Zs (Zb 2) Zf) Zf) (Y1 (Zs (Zb 9) Zf) (Zs (Zb 2) Zf) Nn))) ⟨FL,FL,FL,FL⟩))) Zo)
   (Zd (Zx (Zj (Yc hu) (Zb 8) Zi) (Zh (Ym (Fv (Zb 4) (No (Y1 (Zs (Zb 9) Zf) (Zs (Zs (Zb 2) Zf) Zf) (Y1 (Zs (Zb 9) Zf) (Zs (Zs (Zb 2) Zf) Zf) Nn))) ⟨FL,FL,FL,FL⟩))) Zo)
   (Zh (Ym (Kk XZ YB YA Je Xo (Zb 7) (Za (Zb 4) Zc))))))))
   (Q4.2 hP T S hr)))⟩
def V4:{W//SX 3 Jw FO "_law_inner" W}:=⟨_,λhP T S hr=>by
  have hu:=Z5 hr;exact(Zd (Zx (Zj (Bi hu) (Zs (Zb 0) Zf) Zi) (Zh (Zk (Jc uS (Z9 (Za (Zb 4) Zc)) (Mt Of (by rfl) T.zal CF (Za (Zb 2) Zc))))) Zo)
   (Q3.2 hP T S hr))⟩
def Q2:{W//SX 2 Jw FO "_law_inner" W}:=⟨_,λhP T S hr=>by
  have nd:=Vl.nd;have hu:=Z5 hr;exact(Zd (Zx (Zj (Yc hu) (Zs (Zb 0) Zf) Zi) (Zh (Wp PassesOwn.never FL (qY (by rfl) T.zaw (Za (Zs (Zb 0) Zf) (Za (Zb 2) Zc))) (Il (n:=2) FL (Xt (Y8 (i:=5) nd) (Xt (Y8 (i:=6) nd) Im)) (Yw (Yw Tp)))
   (Zh (X8 (Zb 6) (X3 hu (Zb 4) (Zs (Zb 5) Zf)))))) Zo)
   (V4.2 hP T S hr))⟩
def Qg:{W//SX 0 Jw FO "_law_inner" W}:=⟨_,λhP T S hr=>by
  have nd:=Vl.nd;have hu:=Z5 hr;exact(Zd (Zm (i:=4) nd (Mr Nr (by rfl) T.zam Nq (Za (Zb 3) Zc)))
   (Zd (Zx (Zj (Yc hu) (Zs (Zb 0) Zf) Zi) (Zh (X8 (Zs (Zb 1) Zf) (X3 hu (Zb 4) (Zs (Zb 0) Zf)))) Zo)
   (Q2.2 hP T S hr)))⟩
abbrev Yp:WV:=top 36
def Rg:Z2 FM FU (Zq Yp):=by walk_at "sc"
def O9:{W//SX 12 Yp FM "_law_fits" W}:=⟨_,λhP T S hr=>by
  have hu:=Z5 hr;exact(Zh (Zk (Xg (Yc hu) (Zb 1) (Zn (Za Zi Zc)) (Jr _))))⟩
def O8:{W//SX 11 Yp FM "_law_fits" W}:=⟨_,λhP T S hr=>by
  have hu:=Z5 hr;exact(Zd (Zx (Zj (Yc hu) (Zs (Zb 0) Zf) Zi) (Zh (Zk (Xg (Yc hu) (Zb 1) (Zn (Za Zi (Za (Zs (Zb 2) Zf) (Za (Zs (Zb 2) Zf) Zc)))) (Jr _)))) Zo)
   (O9.2 hP T S hr))⟩
def O7:{W//SX 10 Yp FM "_law_fits" W}:=⟨_,λhP T S hr=>by
  have hu:=Z5 hr;exact(Zd (Zx (Zj (Yc hu) (Zs (Zb 0) Zf) Zi) (Zh (Zk (Km (Xg (Yc hu) (Zb 1) (Zn (Za Zi (Za (Zs (Zb 2) Zf) Zc))) (Jr _)) (Fu (Xg (Yc hu) (Zs (Zb 2) Zf) (Zb 1) (Jr _)))))) Zo)
   (O8.2 hP T S hr))⟩
def O6:{W//SX 9 Yp FM "_law_fits" W}:=⟨_,λhP T S hr=>by
  have hu:=Z5 hr;exact(Zd (Zx (Zj (Yc hu) (Zs (Zb 0) Zf) Zi) (Zh (Zk (Xg (Yc hu) (Zs (Zb 1) Zf) Zi (Jr _)))) Zo)
   (O7.2 hP T S hr))⟩
def O5:{W//SX 8 Yp FM "_law_fits" W}:=⟨_,λhP T S hr=>by
  have hu:=Z5 hr;exact(Zd (Zx (Zj (Yc hu) (Zs (Zb 0) Zf) Zi) (Zh (Zk Io)) Zo)
   (O6.2 hP T S hr))⟩
def U4:{W//SX 7 Yp FM "_law_fits" W}:=⟨_,λhP T S hr=>by
  have nd:=Rg.nd;have hu:=Z5 hr;exact(Zd (Zx (Zj (Yc hu) (Zs (Zb 0) Zf) Zi) (Zd (Zm (i:=5) nd (X9 hu (No (Y1 Zi Zi (Y1 Zi Zi (Y1 Zi Zi Nn)))) (Zs (Zs (Zs (Zb 0) Zf) Zf) Zf) (λ_ _=>rfl)))
   (Zh (Zk (Km (Xg (Yc hu) (Zs (Zs (Zb 2) Zf) Zf) (Zb 5) (Jr _)) (Fu (Xg (Yc hu) (jp (Zb 2) (Ud Zf) Rv) (Jc uS (Z9 (Za (Zb 1) Zc)) (Mt Of (by rfl) T.zal CF (Za (Zs (Zb 0) Zf) Zc))) (Jr _))))))) Zo)
   (O5.2 hP T S hr))⟩
def O0:{W//SX 6 Yp FM "_law_fits" W}:=⟨_,λhP T S hr=>by
  have hu:=Z5 hr;exact(Zd (Zx (Nv (Se (Zj (Yc hu) (Zs (Zb 0) Zf) Zi) (V2 (Zj (Yc hu) (Zs (Zb 0) Zf) Zi)))) (Zh (Zk (Xg (Yc hu) (Zb 1) (Zs (Zb 2) (fi Zf)) (Jr _)))) Zo)
   (U4.2 hP T S hr))⟩
def Oz:{W//SX 5 Yp FM "_law_fits" W}:=⟨_,λhP T S hr=>by
  have hu:=Z5 hr;exact(Zd (Zx (Zj (Yc hu) (Zs (Zb 0) Zf) Zi) (Zh (Zk (Xg (Yc hu) (Zs (Zb 2) Zf) (Zn (Za Zi (Za (Zs (Zb 2) Zf) (Za (Zb 1) Zc)))) (Jr _)))) Zo)
   (O0.2 hP T S hr))⟩
def Oy:{W//SX 4 Yp FM "_law_fits" W}:=⟨_,λhP T S hr=>by
  have hu:=Z5 hr;exact(Zd (Zx (Zj (Yc hu) (Zs (Zb 0) Zf) Zi) (Zh (Zk (Km (Xg (Yc hu) (Zs (Zb 1) Zf) Zi (Jr _)) (Fu (Xg (Yc hu) (Zs (Zb 1) Zf) (Zs (Zb 2) Zf) (Jr _)))))) Zo)
   (Oz.2 hP T S hr))⟩
def Q6:{W//SX 3 Yp FM "_law_fits" W}:=⟨_,λhP T S hr=>by
  have hu:=Z5 hr;exact(Zd (Zx (Zj (Yc hu) (Zs (Zb 0) Zf) Zi) (Zh (Zk (Km (Xg (Yc hu) (Zb 2) (Z9 (Za (Zb 4) (Za (Zb 4) Zc))) (Jr _)) (Fu (Xg (Yc hu) (Zb 1) (Zs (Z9 (Za (Zb 4) (Za (Zn (Za Zi Zc)) Zc))) (Mr oW (by rfl) T.za0 jx (Za (Xg (lf hu) (Zs (Zb 0) Zf) (Z9 (Za Zi (Za Zi Zc))) (by rfl)) Zc))) (Jr _)))))) Zo)
   (Oy.2 hP T S hr))⟩
def Q5:{W//SX 2 Yp FM "_law_fits" W}:=⟨_,λhP T S hr=>by
  have hu:=Z5 hr;exact(Zd (Zx (Zj (Yc hu) (Zs (Zb 0) Zf) Zi) (Zh (Zk (Xg (Yc hu) (Zb 1) (X9 hu (Zb 3) (Zs (Zb 0) Zf) (λ_ _=>rfl)) (Jr _)))) Zo)
   (Q6.2 hP T S hr))⟩
def Na:{W//SX 0 Yp FM "_law_fits" W}:=⟨_,λhP T S hr=>by
  have nd:=Rg.nd;have hu:=Z5 hr;exact(Zd (Zm (i:=4) nd (Zn (Za Zi Zc)))
   (Zd (Zx (Zj (Yc hu) (Zs (Zb 0) Zf) Zi) (Zh (Zk (Xg (Yc hu) (Zb 1) (Zb 4) (Jr _)))) Zo)
   (Q5.2 hP T S hr)))⟩
abbrev Sv:WV:=top 37
def Lc:Z2 FX GA (Zq Sv):=by walk_at "sc"
def Oi:{W//SX 0 Sv FX "_law_walk" W}:=⟨_,λhP T S hr=>by
  have nd:=Lc.nd;exact(Zd (Zm (i:=4) nd (Z9 Zc))
   (Zd (Zm (i:=5) nd (Jc Ww (Zb 2) Zf))
   (Zd (Wp PassesOwn.never FL (Jx (cP hP (Zp S.zao hr (by rfl) (Za (Zb 0) Zc)))) (Y8 (i:=6) nd)
   (Zd (Ym (Kk XZ YB YA Je Xo (Zb 4) (Za (Zb 5) Zc)))
   (Zh (Zm (i:=5) nd (Jc Ww (Zb 5) (cP hP (Zp S.zaq hr (by rfl) (Za (Zb 6) Zc))))))))
   (Zd (Ru (k:=7) (cN:=["_law_place","_law_rows"]) (cap:=[none,some 1]) (cl:=(Xq _ _ [])) (js:=[0]) (g:=(Xc 0)) nd FL FL FL ⟨FL,(λok=>Ue ok FL (by decide+kernel) (by decide+kernel) FL FL FL),(Jx (Zb 4)),(λ_ _ _=>Y7 (i:=0) (show(["_law_place","_law_rows"]:List Str).Nodup by decide+kernel) FL (Or.inl FL)),Yf,Jb,Y3,by decide+kernel,λ_ _ _=>Xf,λ_ _ _=>(Zs (Zb 1) (Zb 0)),λ_=>rfl⟩)
   (Zd (Zx (Rq (Tq (cP hP (Zp S.zbg hr (by rfl) (Za (Zb 0) (Za (Zs (Zb 1) (Zb 2)) (Za (Zb 7) (Za (Zb 3) Zc)))))))) (Zh (Zk Io)) Zo)
   (Zd (Zm (i:=8) nd (cP hP (Zp S.zba hr (by rfl) (Za (Zb 0) (Za (Zs (Zb 1) (Zb 2)) (Za (Zb 7) (Za (Zb 3) Zc)))))))
   (Zd (Wp PassesOwn.never FL (WL.di_enL (by rfl) T.zbh (Za (cP hP (Zp S.zao hr (by rfl) (Za (Zb 0) Zc))) Zc)) (Il (n:=2) FL (Xt (Y8 (i:=9) nd) (Xt (Y8 (i:=6) nd) Im)) (Yw (Yw Tp)))
   (Zh (Zx (Rq (Tq (cP hP (Zp S.zau hr (by rfl) (Za (Zb 6) (Za (Zb 1) (Za (Zs (Zb 4) (Zb 9)) (Za (Zs (Zb 8) (Zb 9)) Zc)))))))) (Zh (Zk Io)) Zo)))
   (Zh (Zk Io)))))))))⟩
abbrev Tj:WV:=top 38
def Gr:Z2 FS HM (Zq Tj):=by walk_at "sc"
def yy:{W//SX 7 Tj FS "law" W}:=⟨_,λhP T S hr=>by
  have nd:=Gr.nd;have hu:=Z5 hr;exact(Zd (Zm (i:=6) nd (Mr sJ (by rfl) T.zap At (Za (Zb 4) Zc)))
   (Zd (Ym (yk XZ PySem.F.slot_list_clear PySem.F.type_list_clear Je qF (Zb 4)))
   (Zd (Ym (Kk XZ YB YA Je Xo (Zb 4) (Za (Zn (Za Zi Zc)) Zc)))
   (Zh (Zk (Km (Xg (oJ hu) (cP hP (Zp S.zav hr (by rfl) (Za (Zb 3) Zc))) (Zb 6) (Jr _)) (Fu (Xg (oJ hu) (cP hP (Zp S.zax hr (by rfl) (Za (Zb 3) Zc))) (Zs (Zb 6) Zf) (Jr _)))))))))⟩
def yx:{W//SX 6 Tj FS "law" W}:=⟨_,λhP T S hr=>by
  have hu:=Z5 hr;exact(Zd (Zx (Nv (Se (Rq (Tq (cP hP (Zp S.zau hr (by rfl) (Za (Zb 3) (Za (Zb 4) (Za Zf (Za Rx Zc)))))))) (V2 (Zj (oG hu) (cP hP (Zp S.zax hr (by rfl) (Za (Zb 3) Zc))) (Zs (Zb 4) Zf))))) (Zh (Zk Io)) Zo)
   (yy.2 hP T S hr))⟩
def yw:{W//SX 5 Tj FS "law" W}:=⟨_,λhP T S hr=>by
  have nd:=Gr.nd;exact(Zd (Wp PassesOwn.never FL (Jx (Zb 4)) (Y8 (i:=5) nd)
   (Zh (Zx (Rq (Tq (cP hP (Zp S.zas hr (by rfl) (Za (Zb 5) Zc))))) (Zh (Zk Io)) Zo)))
   (yx.2 hP T S hr))⟩
def xF:{W//SX 0 Tj FS "law" W}:=⟨_,λhP T S hr=>by
  have nd:=Gr.nd;have hu:=Z5 hr;exact(Zd (Zm (i:=1) nd (cP hP (Zp S.zbe hr (by rfl) (Za (jp (Zb 0) (Ud Zf) (Ud Zf)) (Za (Xg (Yc hu) (Jc Lu (Mt (kD FL) (by rfl) T.zbq pE (Za (jp (Zb 0) Rv (Ud Zf)) Zc)) Zf) Zf (Jr _)) Zc)))))
   (Zd (Zm (i:=2) nd (Zs (Z9 (Za Zf (Za Zf (Za Zf Zc)))) (cP hP (Zp S.zab hr (by rfl) (Za (Zb 1) (Za Zf Zc))))))
   (Zd (Zm (i:=3) nd (cP hP (Zp S.zaa hr (by rfl) (Za (Zb 1) (Za (cP hP (Zp S.zag hr (by rfl) (Za (Zb 1) (Za Zf Zc)))) (Za Rx (Za (Zb 2) Zc)))))))
   (Zd (Zm (i:=4) nd (cP hP (Zp S.zav hr (by rfl) (Za (Zb 3) Zc))))
   (Zd (Zx (Nv (Se (Rq (Tq (yl (by rfl) T.zaj (by rfl) T.zap At (by decide) (Zb 4)))) (V2 (Zj (oG hu) (Mt Of (by rfl) T.zal CF (Za (Zb 4) Zc)) (cP hP (Zp S.zaq hr (by rfl) (Za (Zb 3) Zc))))))) (Zh (Zk Io)) Zo)
   (yw.2 hP T S hr))))))⟩
def Gc:Calls->WS:=Ee.1
def So:Calls->WS:=Qd.1
def Nw:Calls->WS:=Mb.1
def yA:Calls->WS:=jA.1
def Td:Calls->WS:=Tu.1
def W3:Calls->WS:=Vh.1
def Vt:Calls->WS:=V5.1
def Tf:Calls->WS:=Tw.1
def Ul:Calls->WS:=U5.1
def Vu:Calls->WS:=V6.1
def X5:Calls->WS:=Wc.1
def W0:Calls->WS:=Vg.1
def Cf:Calls->WS:=Ax.1
def Kw:Calls->WS:=Ir.1
def Kv:Calls->WS:=Iq.1
def X1:Calls->WS:=X4.1
def vn:Calls->WS:=Qv.1
def vm:Calls->WS:=Qu.1
def vk:Calls->WS:=Qt.1
def vj:Calls->WS:=Qs.1
def vi:Calls->WS:=Qr.1
def vh:Calls->WS:=Qq.1
def vg:Calls->WS:=Qp.1
def vf:Calls->WS:=Qo.1
def ve:Calls->WS:=Qn.1
def Sm:Calls->WS:=Qb.1
def Sq:Calls->WS:=Qe.1
def Vi:Calls->WS:=Vp.1
def Xh:Calls->WS:=Xr.1
def Sj:Calls->WS:=Qa.1
def Sn:Calls->WS:=Qc.1
def Pq:Calls->WS:=Nc.1
def Pp:Calls->WS:=Nb.1
def Pf:Calls->WS:=Op.1
def Pm:Calls->WS:=Ox.1
def Ge:Calls->WS:=Ou.1
def vM:Calls->WS:=Ot.1
def Gd:Calls->WS:=Os.1
def Pi:Calls->WS:=U3.1
def Pj:Calls->WS:=Ov.1
def rj:Calls->WS:=Me.1
def rh:Calls->WS:=Md.1
def rg:Calls->WS:=Mc.1
def Mf:Calls->WS:=M4.1
def Mg:Calls->WS:=M5.1
def T4:Calls->WS:=Vf.1
def T3:Calls->WS:=Ve.1
def T1:Calls->WS:=Vd.1
def xH:Calls->WS:=Si.1
def Te:Calls->WS:=Tv.1
def vL:Calls->WS:=On.1
def vK:Calls->WS:=Om.1
def vJ:Calls->WS:=Ol.1
def Pd:Calls->WS:=U2.1
def vI:Calls->WS:=Oj.1
def Pc:Calls->WS:=U1.1
def Pe:Calls->WS:=Oo.1
def vw:Calls->WS:=Q1.1
def vv:Calls->WS:=Q0.1
def vt:Calls->WS:=Qz.1
def vq:Calls->WS:=Qy.1
def vp:Calls->WS:=Qx.1
def vo:Calls->WS:=Qw.1
def Sr:Calls->WS:=Qf.1
def Ph:Calls->WS:=Oq.1
def Xi:Calls->WS:=Wr.1
def vA:Calls->WS:=Q4.1
def v9:Calls->WS:=Q3.1
def Vs:Calls->WS:=V4.1
def vx:Calls->WS:=Q2.1
def Ss:Calls->WS:=Qg.1
def vU:Calls->WS:=O9.1
def vT:Calls->WS:=O8.1
def vS:Calls->WS:=O7.1
def vR:Calls->WS:=O6.1
def vQ:Calls->WS:=O5.1
def Pn:Calls->WS:=U4.1
def vP:Calls->WS:=O0.1
def vO:Calls->WS:=Oz.1
def vN:Calls->WS:=Oy.1
def vC:Calls->WS:=Q6.1
def vB:Calls->WS:=Q5.1
def Po:Calls->WS:=Na.1
def Pb:Calls->WS:=Oi.1
def w_law_t1:Calls->WS:=yy.1
def w_law_t2:Calls->WS:=yx.1
def w_law_t3:Calls->WS:=yw.1
def w_law:Calls->WS:=xF.1
abbrev tG:Nat:=0
abbrev Bv:Nat:=1
abbrev rn:Nat:=2
abbrev lT:Nat:=3
abbrev Er:Nat:=4
abbrev wD:Nat:=5
abbrev Hj:Nat:=6
abbrev Et:Nat:=7
abbrev Fj:Nat:=8
abbrev Hk:Nat:=9
abbrev Mq:Nat:=10
abbrev Ih:Nat:=11
abbrev xb:Nat:=12
abbrev Do:Nat:=13
abbrev Dn:Nat:=14
abbrev V0:Nat:=15
abbrev Bt:Nat:=16
abbrev Bx:Nat:=17
abbrev N8:Nat:=18
abbrev Uu:Nat:=19
abbrev Lz:Nat:=20
abbrev Bu:Nat:=21
abbrev zW:Nat:=22
abbrev zV:Nat:=23
abbrev zS:Nat:=24
abbrev Hc:Nat:=25
abbrev zT:Nat:=26
abbrev Ff:Nat:=27
abbrev jh:Nat:=28
abbrev Es:Nat:=29
abbrev Od:Nat:=30
abbrev By:Nat:=31
abbrev I0:Nat:=32
abbrev Fi:Nat:=33
abbrev Bz:Nat:=34
abbrev zU:Nat:=35
abbrev Iz:Nat:=36
abbrev gM:Nat:=37
abbrev zR:Nat:=38
def pr:List Df:=[⟨2,1,Gc⟩,⟨3,2,So⟩,⟨5,2,Nw⟩,⟨2,1,yA⟩,⟨5,3,Td⟩,⟨1,1,W3⟩,⟨1,1,Vt⟩,⟨3,2,Tf⟩,⟨2,2,Ul⟩,⟨2,2,Vu⟩,⟨7,3,X5⟩,⟨5,3,W0⟩,⟨3,1,Cf⟩,⟨1,1,Kw⟩,⟨5,2,Kv⟩,⟨8,4,X1⟩,⟨7,3,Sm⟩,⟨5,3,Sq⟩,⟨5,3,Vi⟩,⟨6,3,Xh⟩,⟨5,2,Sj⟩,⟨9,4,Sn⟩,⟨5,2,Pq⟩,⟨5,2,Pp⟩,⟨4,1,Pf⟩,⟨4,2,Pm⟩,⟨4,3,Pj⟩,⟨8,4,Mf⟩,⟨10,4,Mg⟩,⟨13,5,Te⟩,⟨8,4,Pe⟩,⟨1,1,Sr⟩,⟨3,1,Ph⟩,⟨3,1,Xi⟩,⟨11,4,Ss⟩,⟨6,4,Po⟩,⟨10,4,Pb⟩,⟨7,1,w_law⟩,⟨0,0,xI "Slots" 5⟩]
def ZUU (i a r:Nat)(w:Calls->WS):Prop:=∀{n:Nat}{vs:List T}{C:Hw}{Q:WK}{χ:WX},vs.length=a->w (Yg pr n) {nx:=λ_ C'=>Q .non C',rt:=Q,xc:=χ} (vs.map some++List.replicate r none) C->Yg pr (n+1) i vs C Q χ
def vY:ZUU 0 1 1 Gc:=λhl h=>⟨_,FL,hl,h⟩
def Ck:ZUU 1 2 1 So:=λhl h=>⟨_,FL,hl,h⟩
def rm:ZUU 2 2 3 Nw:=λhl h=>⟨_,FL,hl,h⟩
def nA:ZUU 3 1 1 yA:=λhl h=>⟨_,FL,hl,h⟩
def Ei:ZUU 4 3 2 Td:=λhl h=>⟨_,FL,hl,h⟩
def Ky:ZUU 5 1 0 W3:=λhl h=>⟨_,FL,hl,h⟩
def Hg:ZUU 6 1 0 Vt:=λhl h=>⟨_,FL,hl,h⟩
def Ek:ZUU 7 2 1 Tf:=λhl h=>⟨_,FL,hl,h⟩
def Gg:ZUU 8 2 0 Ul:=λhl h=>⟨_,FL,hl,h⟩
def Hh:ZUU 9 2 0 Vu:=λhl h=>⟨_,FL,hl,h⟩
def Mh:ZUU 10 3 4 X5:=λhl h=>⟨_,FL,hl,h⟩
def Kx:ZUU 11 3 2 W0:=λhl h=>⟨_,FL,hl,h⟩
def rL:ZUU 12 1 2 Cf:=λhl h=>⟨_,FL,hl,h⟩
def xL:ZUU 13 1 0 Kw:=λhl h=>⟨_,FL,hl,h⟩
def xK:ZUU 14 2 3 Kv:=λhl h=>⟨_,FL,hl,h⟩
def Qi:ZUU 15 4 4 X1:=λhl h=>⟨_,FL,hl,h⟩
def Ci:ZUU 16 3 4 Sm:=λhl h=>⟨_,FL,hl,h⟩
def Co:ZUU 17 3 2 Sq:=λhl h=>⟨_,FL,hl,h⟩
def Nx:ZUU 18 3 2 Vi:=λhl h=>⟨_,FL,hl,h⟩
def Um:ZUU 19 3 3 Xh:=λhl h=>⟨_,FL,hl,h⟩
def Ch:ZUU 20 2 3 Sj:=λhl h=>⟨_,FL,hl,h⟩
def Cj:ZUU 21 4 5 Sn:=λhl h=>⟨_,FL,hl,h⟩
def zg:ZUU 22 2 3 Pq:=λhl h=>⟨_,FL,hl,h⟩
def zf:ZUU 23 2 3 Pp:=λhl h=>⟨_,FL,hl,h⟩
def za:ZUU 24 1 3 Pf:=λhl h=>⟨_,FL,hl,h⟩
def zd:ZUU 25 2 2 Pm:=λhl h=>⟨_,FL,hl,h⟩
def zc:ZUU 26 3 1 Pj:=λhl h=>⟨_,FL,hl,h⟩
def yC:ZUU 27 4 4 Mf:=λhl h=>⟨_,FL,hl,h⟩
def yD:ZUU 28 4 6 Mg:=λhl h=>⟨_,FL,hl,h⟩
def Ej:ZUU 29 5 8 Te:=λhl h=>⟨_,FL,hl,h⟩
def A9:ZUU 30 4 4 Pe:=λhl h=>⟨_,FL,hl,h⟩
def Cp:ZUU 31 1 0 Sr:=λhl h=>⟨_,FL,hl,h⟩
def zb:ZUU 32 1 2 Ph:=λhl h=>⟨_,FL,hl,h⟩
def Gf:ZUU 33 1 2 Xi:=λhl h=>⟨_,FL,hl,h⟩
def Cq:ZUU 34 4 7 Ss:=λhl h=>⟨_,FL,hl,h⟩
def ze:ZUU 35 4 2 Po:=λhl h=>⟨_,FL,hl,h⟩
def A8:ZUU 36 4 6 Pb:=λhl h=>⟨_,FL,hl,h⟩
def iy:ZUU 37 1 6 w_law:=λhl h=>⟨_,FL,hl,h⟩
section
variable {n:Nat}{vs:List T}{C:Hw}{Q:WK}{χ:WX}
def A7 (hl:vs.length=0)(h:∀p,C p=none->Yg pr n 5 (.ref p::vs) (up C p (.ins "Slots" [])) (λv C2=>v=.non/\Q (.ref p) C2) χ):Yg pr (n+1) 38 vs C Q χ:=⟨_,FL,hl,vs,YK _,h⟩
end
section
variable {Pg:WO}{w:WN}{K:WY}{mg:Str->Option WQ}{base:WU}{f:WP}{fd:VZ}{n i:Nat}{pr:List Df}{x q:Str}{N ps:List Str}{st:WV}
def Rj (D:{W//SX 0 st N q W})(T:Txt w K mg)(S:Cs Pg w K mg base n pr)(sc:Z2 N ps (Zq st))(hd:pr[i]?=some ⟨N.length,ps.length,D.1⟩)(F:j8 K x q st f fd):U0 Pg w K mg base CX0 (n+1) f fd ps (spW K pr (n+1) i):=lZ F sc hd FL FL λ_ _ _ _ _ _ hr=>D.2 FL T S hr
end
def aU {C:List WQ->Prop}(h:C []):∀us:List WQ,us.length=0->C us
 | [],_=>h
def sI {C:List WQ->Prop}(h:∀a,C [a]):∀us:List WQ,us.length=1->C us
 | [a],_=>h a
def rA {C:List WQ->Prop}(h:∀a b,C [a,b]):∀us:List WQ,us.length=2->C us
 | [a,b],_=>h a b
def oV {C:List WQ->Prop}(h:∀a b c,C [a,b,c]):∀us:List WQ,us.length=3->C us
 | [a,b,c],_=>h a b c
def oU {C:List WQ->Prop}(h:∀a b c d,C [a,b,c,d]):∀us:List WQ,us.length=4->C us
 | [a,b,c,d],_=>h a b c d
def aA {C:List WQ->Prop}(h:∀a b c d e,C [a,b,c,d,e]):∀us:List WQ,us.length=5->C us
 | [a,b,c,d,e],_=>h a b c d e
def aS {C:List WQ->Prop}(h:∀a b c d e f,C [a,b,c,d,e,f]):∀us:List WQ,us.length=6->C us
 | [a,b,c,d,e,f],_=>h a b c d e f
def all_mk {l:W.OpenLaw}{w:WN}{K:WY}{fa Aa:WP}(X:K.In h)(G:h.Ns mainGlobals mg)(hfa:mg "law"=some (.ref fa))
  (Ac:W.nsIn K mainGlobals "Slots"=some (some (.ref Aa)))
  (Ad:W.plainGet K Aa Str.empty=true) (Ae:W.hasDictIn K Aa=true) (Af:W.plainOver K Aa=true) (Ag:W.findIn K (.ref Aa) "__setattr__"=some (some (.builtin "object.__setattr__"))) (Al:W.keepIn K (.ref Aa)=true)
  (Am:W.makesIn K Aa=true)
  (Ah:W.findIn K (.ref Aa) "forms"=some none)
  (Ai:W.findIn K (.ref Aa) "leads"=some none)
  (l0:Fg K "scopes" K0)
  (l1:Fg K "let_scopes" Ti)
  (l2:Fg K "rows_scopes" Up)
  (l3:Fg K "free" Cu)
  (l4:Fg K "gather_free" Uq)
  (l5:Fh K Aa "__init__" "Slots.__init__" Wk)
  (l6:Fh K Aa "unknown" "Slots.unknown" W6)
  (l7:Fh K Aa "known" "Slots.known" Ur)
  (l8:Fh K Aa "shared" "Slots.shared" Vx)
  (l9:Fh K Aa "form_of" "Slots.form_of" Va)
  (A6:Fh K Aa "make_alike" "Slots.make_alike" Xw)
  (A7:Fh K Aa "join_two" "Slots.join_two" Wj)
  (A8:Fg K "paper" Gj)
  (A9:Fg K "kind_of" Ml)
  (AA:Fg K "rows_of" Mj)
  (AB:Fg K "places_within" W5)
  (AC:Fg K "part_slots" Yt)
  (AD:Fg K "does_slots" Tk)
  (AE:Fg K "shape_slots" Uo)
  (AF:Fg K "choose_slots" Vv)
  (AG:Fg K "told_kinds" Tg)
  (AH:Fg K "make_ready" Th)
  (AI:Fg K "_law_deal" Rf)
  (AJ:Fg K "_law_draw" Re)
  (AK:Fg K "_law_name" Sy)
  (AL:Fg K "_law_kind" Rc)
  (AM:Fg K "_law_leaf" J5)
  (AN:Fg K "_law_own" Wd)
  (AO:Fg K "_law_let" Ps)
  (AQ:Fg K "_law_choose" Jl)
  (AR:Fg K "_law_term" Jf)
  (AS:Fg K "_law_parts" Y5)
  (AT:Fg K "_law_many" Sz)
  (AU:Fg K "_law_is_kind" Vw)
  (AV:Fg K "_law_inner" Jw)
  (AW:Fg K "_law_fits" Yp)
  (AX:Fg K "_law_walk" Sv)
  (A5:Fg K "law" Tj)
  (Aw:W.nsIn K mainGlobals "any"=some none)
  (At:W.nsIn K mainGlobals "bool"=some none)
  (Au:W.nsIn K mainGlobals "dict"=some none)
  (An:W.nsIn K mainGlobals "enumerate"=some none)
  (Ay:W.nsIn K mainGlobals "int"=some none)
  (Aj:W.nsIn K mainGlobals "isinstance"=some none)
  (Az:W.nsIn K mainGlobals "len"=some none)
  (Av:W.nsIn K mainGlobals "list"=some none)
  (A1:W.nsIn K mainGlobals "max"=some none)
  (Aq:W.nsIn K mainGlobals "range"=some none)
  (Ao:W.nsIn K mainGlobals "reversed"=some none)
  (Ap:W.nsIn K mainGlobals "sorted"=some none)
  (A2:W.nsIn K mainGlobals "str"=some none)
  (A3:W.nsIn K mainGlobals "sum"=some none)
  (Ar:W.nsIn K mainGlobals "tuple"=some none)
  (A4:W.nsIn K mainGlobals "zip"=some none)
  :∃fd:VZ,(∀(s:WR) (v:WQ),BindsTo s fd ⟨[v],[]⟩ [("_law_script",v)])/\∀base:WU,K.In base->base.Ns mainGlobals mg->U0 l.prog w K mg base CX0 100 fa fd HM (spW K pr 100 37):=by
 have L37:=Jo (ps:=HM) X G A5 λ_ _ _ _ _ _=>sI λ_=>rfl;obtain⟨Ba,_,AY,⟨oc,od,kV,dc,pm,an,cd,ct,sl,rfl,ll,lc⟩,lk⟩:=A5;have AZ:=lY (st:=Tj) ll lc lk;have e:=hfa.symm.trans (W.mg_of X G AY)
 cases e
 have T:Txt w K mg:=⟨BQ X G Aw,BQ X G At,BQ X G Au,BQ X G An,BQ X G Ay,BQ X G Aj,BQ X G Az,BQ X G Av,BQ X G A1,BQ X G Aq,BQ X G Ao,BQ X G Ap,BQ X G A2,BQ X G A3,BQ X G Ar,BQ X G A4,⟨Aa,Ac,⟨Ad,Ae,Af,Ag⟩,Ah⟩,⟨Aa,Ac,⟨Ad,Ae,Af,Ag⟩,Ai⟩⟩;have Ab:Kl K mg "Slots" Aa:=⟨Ac,W.mg_of X G Ac,⟨Ad,Ae,Af,Ag⟩⟩;have L0:=Jo (ps:=GV) X G l0 λ_ _ _ _ _ _=>sI λ_=>rfl;have L1:=Jo (ps:=["pairs","body"]) X G l1 λ_ _ _ _ _ _=>rA λ_ _=>rfl;have L2:=Jo (ps:=["body","steps"]) X G l2 λ_ _ _ _ _ _=>rA λ_ _=>rfl;have L3:=Jo (ps:=GV) X G l3 λ_ _ _ _ _ _=>sI λ_=>rfl;have L4:=Jo (ps:=HF) X G l4 λ_ _ _ _ _ _=>oV λ_ _ _=>rfl;have L5:=G7 (ps:=HJ) l5 λ_ _ _ _ _ _=>sI λ_=>rfl;have L6:=G7 (ps:=HJ) l6 λ_ _ _ _ _ _=>sI λ_=>rfl;have L7:=G7 (ps:=["self","form"]) l7 λ_ _ _ _ _ _=>rA λ_ _=>rfl;have L8:=G7 (ps:=GG) l8 λ_ _ _ _ _ _=>rA λ_ _=>rfl;have L9:=G7 (ps:=GG) l9 λ_ _ _ _ _ _=>rA λ_ _=>rfl;have L10:=G7 (ps:=HK) A6 λ_ _ _ _ _ _=>oV λ_ _ _=>rfl;have L11:=G7 (ps:=HH) A7 λ_ _ _ _ _ _=>oV λ_ _ _=>rfl;have L12:=Jo (ps:=GV) X G A8 λ_ _ _ _ _ _=>sI λ_=>rfl;have L13:=Jo (ps:=GV) X G A9 λ_ _ _ _ _ _=>sI λ_=>rfl;have L14:=Jo (ps:=["slots","term"]) X G AA λ_ _ _ _ _ _=>rA λ_ _=>rfl;have L15:=Jo (ps:=GU) X G AB λ_ _ _ _ _ _=>oU λ_ _ _ _=>rfl;have L16:=Jo (ps:=HG) X G AC λ_ _ _ _ _ _=>oV λ_ _ _=>rfl;have L17:=Jo (ps:=HL) X G AD λ_ _ _ _ _ _=>oV λ_ _ _=>rfl;have L18:=Jo (ps:=GF) X G AE λ_ _ _ _ _ _=>oV λ_ _ _=>rfl;have L19:=Jo (ps:=GF) X G AF λ_ _ _ _ _ _=>oV λ_ _ _=>rfl;have L20:=Jo (ps:=["slots","rows"]) X G AG λ_ _ _ _ _ _=>rA λ_ _=>rfl;have L21:=Jo (ps:=GO) X G AH λ_ _ _ _ _ _=>oU λ_ _ _ _=>rfl;have L22:=Jo (ps:=HA) X G AI λ_ _ _ _ _ _=>rA λ_ _=>rfl;have L23:=Jo (ps:=GM) X G AJ λ_ _ _ _ _ _=>rA λ_ _=>rfl;have L24:=Jo (ps:=HN) X G AK λ_ _ _ _ _ _=>sI λ_=>rfl;have L25:=Jo (ps:=GW) X G AL λ_ _ _ _ _ _=>rA λ_ _=>rfl;have L26:=Jo (ps:=GJ) X G AM λ_ _ _ _ _ _=>oV λ_ _ _=>rfl;have L27:=Jo (ps:=FT) X G AN λ_ _ _ _ _ _=>oU λ_ _ _ _=>rfl;have L28:=Jo (ps:=FT) X G AO λ_ _ _ _ _ _=>oU λ_ _ _ _=>rfl;have L29:=Jo (ps:=FZ) X G AQ λ_ _ _ _ _ _=>aA λ_ _ _ _ _=>rfl;have L30:=Jo (ps:=FT) X G AR λ_ _ _ _ _ _=>oU λ_ _ _ _=>rfl;have L31:=Jo (ps:=FY) X G AS λ_ _ _ _ _ _=>sI λ_=>rfl;have L32:=Jo (ps:=FY) X G AT λ_ _ _ _ _ _=>sI λ_=>rfl;have L33:=Jo (ps:=HQ) X G AU λ_ _ _ _ _ _=>sI λ_=>rfl;have L34:=Jo (ps:=FU) X G AV λ_ _ _ _ _ _=>oU λ_ _ _ _=>rfl;have L35:=Jo (ps:=FU) X G AW λ_ _ _ _ _ _=>oU λ_ _ _ _=>rfl;have L36:=Jo (ps:=GA) X G AX λ_ _ _ _ _ _=>oU λ_ _ _ _=>rfl;refine⟨W.fnOf "law" "law" (Rw Tj) (Vm Tj) (Zq Tj) .none kV dc pm an cd ct,λs v=>.of_eq FL,λbase _ _=>?_⟩;have CS:∀n,Cs l.prog w K mg base n pr:=λn=>by
  induction n with
  | zero=>exact⟨Mp L0,Mp L1,Mp L2,Mp L3,Mp L4,Mp L12,Mp L13,Mp L14,Mp L15,Mp L16,Mp L17,Mp L18,Mp L19,Mp L20,Mp L21,Mp L22,Mp L23,Mp L24,Mp L25,Mp L26,Mp L27,Mp L28,Mp L29,Mp L30,Mp L31,Mp L32,Mp L33,Mp L34,Mp L35,Mp L36,Mp L37,lA Ab L5,lA Ab L6,lA Ab L7,lA Ab L8,lA Ab L9,lA Ab L10,lA Ab L11,aj (j:=38) FL Ab Am Al L5⟩
  | succ n ih=>exact⟨Mo L0 (Rj Ee T ih Dc FL),Mo L1 (Rj Qd T ih N0 FL),Mo L2 (Rj Mb T ih Gp FL),Mo L3 (Rj jA T ih jH FL),Mo L4 (Rj Tu T ih Pu FL),Mo L12 (Rj Ax T ih zn FL),Mo L13 (Rj Ir T ih yI FL),Mo L14 (Rj Iq T ih Gq FL),Mo L15 (Rj X4 T ih T8 FL),Mo L16 (Rj Qb T ih Xx FL),Mo L17 (Rj Qe T ih N2 FL),Mo L18 (Rj Vp T ih Pt FL),Mo L19 (Rj Xr T ih Qj FL),Mo L20 (Rj Qa T ih Ny FL),Mo L21 (Rj Qc T ih Nz FL),Mo L22 (Rj Nc T ih Lj FL),Mo L23 (Rj Nb T ih Li FL),Mo L24 (Rj Op T ih Le FL),Mo L25 (Rj Ox T ih Lh FL),Mo L26 (Rj Ov T ih Lg FL),Mo L27 (Rj M4 T ih U6 FL),Mo L28 (Rj M5 T ih Iu FL),Mo L29 (Rj Tv T ih J3 FL),Mo L30 (Rj Oo T ih V9 FL),Mo L31 (Rj Qf T ih En FL),Mo L32 (Rj Oq T ih Lf FL),Mo L33 (Rj Wr T ih Qk FL),Mo L34 (Rj Qg T ih Vl FL),Mo L35 (Rj Na T ih Rg FL),Mo L36 (Rj Oi T ih Lc FL),Mo L37 (Rj xF T ih Gr FL),ly Ab L5 (Rj Vh T ih Lk FL),ly Ab L6 (Rj V5 T ih K6 FL),ly Ab L7 (Rj Tw T ih Px FL),ly Ab L8 (Rj U5 T ih Ql FL),ly Ab L9 (Rj V6 T ih Ia FL),ly Ab L10 (Rj Wc T ih V7 FL),ly Ab L11 (Rj Vg T ih U7 FL),pB (j:=38) FL Ab Am Al ih.zbt⟩
 exact Rj xF T (CS (99)) Gr FL AZ
end K22
namespace Fn
open PySem WL
inductive Kd where
 | op (n:Nat) | k0 (g:Str) | k1 (g:Str) (a:Kd) | k2 (g:Str) (a b:Kd)
inductive Fm where
 | f0 (g:Str) | f1 (g:Str) (a:Nat) | f2 (g:Str) (a b:Nat)
def Fm.ev (σ:Nat->Kd):Fm->Kd
 | .f0 g=>.k0 g
 | .f1 g a=>.k1 g (σ a)
 | .f2 g a b=>.k2 g (σ a) (σ b)
def Fm.ps:Fm->List Nat
 | .f0 _=>[]
 | .f1 _ a=>[a]
 | .f2 _ a b=>[a,b]
def Fm.tag:Fm->Str
 | .f0 g=>g
 | .f1 g _=>g
 | .f2 g _ _=>g
def Kc {σ σ':Nat->Kd}{f:Fm}(h:∀p∈f.ps,σ p=σ' p):f.ev σ=f.ev σ':=by
 cases f with
 | f0 g=>rfl
 | f1 g a=>show Kd.k1 g _=Kd.k1 g _;rw[h a (by simp[Fm.ps])]
 | f2 g a b=>show Kd.k2 g _ _=Kd.k2 g _ _;rw[h a (by simp[Fm.ps]),h b (by simp[Fm.ps])]
structure Us where
 rt:Nat->Nat
 F:List (Option Fm)
structure Us.Ok (u:Us):Prop where
 lt:∀x,x<u.F.length->u.rt x<u.F.length
 id:∀x,x<u.F.length->u.rt (u.rt x)=u.rt x
 ps:∀(x:Nat) (f:Fm),u.F[x]?=some (some f)->∀p∈f.ps,p<u.F.length
def Ts (u:Us)(σ:Nat->Kd):Prop:=(∀x,x<u.F.length->σ x=σ (u.rt x))/\∀(x:Nat) (f:Fm),u.F[x]?=some (some f)->σ x=f.ev σ
def V8 (E:Nat->Nat->Prop):Fm->Fm->Prop
 | .f0 g,.f0 h=>g=h
 | .f1 g a,.f1 h c=>g=h/\E a c
 | .f2 g a b,.f2 h c d=>g=h/\E a c/\E b d
 | _,_=>False
def V8.imp {E E':Nat->Nat->Prop}(h:∀a b,E a b->E' a b):∀{f g:Fm},V8 E f g->V8 E' f g
 | .f0 _,.f0 _,q=>q
 | .f1 _ _,.f1 _ _,q=>⟨q.1,h _ _ q.2⟩
 | .f2 _ _ _,.f2 _ _ _,q=>⟨q.1,h _ _ q.2.1,h _ _ q.2.2⟩
def V8.refl {E:Nat->Nat->Prop}(h:∀a,E a a):∀f:Fm,V8 E f f
 | .f0 _=>rfl
 | .f1 _ _=>⟨FL,h _⟩
 | .f2 _ _ _=>⟨FL,h _,h _⟩
def V8.trans {E:Nat->Nat->Prop}(h:∀a b c,E a b->E b c->E a c):∀{f g k:Fm},V8 E f g->V8 E g k->V8 E f k
 | .f0 _,.f0 _,.f0 _,p,q=>Eq.trans p q
 | .f1 _ _,.f1 _ _,.f1 _ _,p,q=>⟨p.1.trans q.1,h _ _ _ p.2 q.2⟩
 | .f2 _ _ _,.f2 _ _ _,.f2 _ _ _,p,q=>⟨p.1.trans q.1,h _ _ _ p.2.1 q.2.1,h _ _ _ p.2.2 q.2.2⟩
def V8.symm {E:Nat->Nat->Prop}(h:∀a b,E a b->E b a):∀{f g:Fm},V8 E f g->V8 E g f
 | .f0 _,.f0 _,q=>Eq.symm q
 | .f1 _ _,.f1 _ _,q=>⟨q.1.symm,h _ _ q.2⟩
 | .f2 _ _ _,.f2 _ _ _,q=>⟨q.1.symm,h _ _ q.2.1,h _ _ q.2.2⟩
inductive E4 (u:Us)(pl:List (Nat×Nat)):Nat->Nat->Prop
 | rt {a b:Nat}:u.rt a=u.rt b->E4 u pl a b
 | pr {a b:Nat}:(a,b)∈pl->E4 u pl a b
 | sym {a b:Nat}:E4 u pl a b->E4 u pl b a
 | tr {a b c:Nat}:E4 u pl a b->E4 u pl b c->E4 u pl a c
def E4.nil (h:E4 u [] a b):u.rt a=u.rt b:=by
 induction h with
 | rt e=>exact e
 | pr m=>cases m
 | sym _ ih=>exact ih.symm
 | tr _ _ i j=>exact i.trans j
def E4.mono {u u':Us}{pl pl':List (Nat×Nat)}(h1:∀a b,u.rt a=u.rt b->E4 u' pl' a b)(h2:∀a b,(a,b)∈pl->E4 u' pl' a b){a b:Nat}(h:E4 u pl a b):E4 u' pl' a b:=by
 induction h with
 | rt e=>exact h1 _ _ e
 | pr m=>exact h2 _ _ m
 | sym _ ih=>exact .sym ih
 | tr _ _ i j=>exact .tr i j
def Uk (u:Us)(pl:List (Nat×Nat)):Prop:=∀(x:Nat) (f:Fm),u.F[x]?=some (some f)->∃g,u.F[u.rt x]?=some (some g)/\V8 (E4 u pl) f g
def Us.add (u:Us)(f:Option Fm):Us:={rt:=λx=>if x=u.F.length then x else u.rt x,F:=u.F++[f]}
def Us.join (u:Us)(a b:Nat):Us:={u with rt:=λx=>if u.rt x=a then b else u.rt x}
section
variable {u:Us}{a b x y:Nat}{σ:Nat->Kd}{pl:List (Nat×Nat)}
def Bp (o:u.Ok)(ha:u.rt a=a)(hb:u.rt b=b)(hlb:b<u.F.length)(n:a≠b):(u.join a b).Ok where
 lt:=λx hx=>by
  show(if u.rt x=a then b else u.rt x)<_
  split
  ·exact hlb
  ·exact o.lt x hx
 id:=λx hx=>by
  show(if u.rt (if u.rt x=a then b else u.rt x)=a then b else u.rt (if u.rt x=a then b else u.rt x))=(if u.rt x=a then b else u.rt x);by_cases c:u.rt x=a
  ·rw[XY c,hb,XX (Ne.symm n)]
  ·rw[XX c,o.id x hx,XX c]
 ps:=o.ps
def Bo (e:u.rt x=u.rt y):(u.join a b).rt x=(u.join a b).rt y:=by
 show(if u.rt x=a then b else u.rt x)=(if u.rt y=a then b else u.rt y);rw[e]
def G8 (ha:u.rt a=a)(hb:u.rt b=b)(hla:a<u.F.length)(o:u.Ok):Ts (u.join a b) σ↔Ts u σ/\σ a=σ b:=by
 constructor
 ·rintro⟨h1,h2⟩;have ea:σ a=σ b:=by
   have:=h1 a hla;rw[show(u.join a b).rt a=b from XY ha] at this;exact this
  refine⟨⟨λx hx=>?_,h2⟩,ea⟩;have h:=h1 x hx;by_cases c:u.rt x=a
  ·rw[show(u.join a b).rt x=b from XY c] at h;rw[c,h,ea]
  ·rw[show(u.join a b).rt x=u.rt x from XX c] at h;exact h
 ·rintro⟨⟨h1,h2⟩,ea⟩;refine⟨λx hx=>?_,h2⟩;have h:=h1 x hx;by_cases c:u.rt x=a
  ·rw[show(u.join a b).rt x=b from XY c,h,c,ea]
  ·rw[show(u.join a b).rt x=u.rt x from XX c];exact h
def Us.cnt (u:Us):Nat:=((List.range u.F.length).filter λx=>u.rt x==x).length
def Ag {p q:Nat->Bool}(h:∀x,p x=true->q x=true):∀l:List Nat,(l.filter p).length<=(l.filter q).length
 | []=>XE _
 | x::l=>by
  by_cases c:p x=true
  ·rw[CA c,CA (h x c)];exact Nat.succ_le_succ (Ag h l)
  ·rw[CY c];by_cases d:q x=true
   ·rw[CA d];exact ER (Ag h l)
   ·rw[CY d];exact Ag h l
def Af {p q:Nat->Bool}(h:∀x,p x=true->q x=true)(hp:p a=false)(hq:q a=true):∀l:List Nat,a∈l->(l.filter p).length<(l.filter q).length
 | [],m=>by cases m
 | x::l,m=>by
  by_cases e:x=a
  ·subst e;rw[CY (by rw[hp];decide),CA hq];exact Nat.lt_succ_of_le (Ag h l)
  ·have hm:a∈l:=(BC.mp m).resolve_left λz=>e z.symm;by_cases c:p x=true
   ·rw[CA c,CA (h x c)];exact Nat.succ_lt_succ (Af h hp hq l hm)
   ·rw[CY c];by_cases d:q x=true
    ·rw[CA d];exact BX (Af h hp hq l hm)
    ·rw[CY d];exact Af h hp hq l hm
def Fa (ha:u.rt a=a)(hb:u.rt b=b)(hla:a<u.F.length)(n:a≠b):(u.join a b).cnt<u.cnt:=by
 refine Af (p:=λx=>(u.join a b).rt x==x) (q:=λx=>u.rt x==x) (a:=a) (λx h=>?_) ?_ (beq_iff_eq.mpr ha) _ (DC.mpr hla)
 ·have h:(if u.rt x=a then b else u.rt x)=x:=beq_iff_eq.mp h;by_cases c:u.rt x=a
  ·rw[XY c] at h;subst h;exact absurd (c.symm.trans hb) n
  ·rw[XX c] at h;exact beq_iff_eq.mpr h
 ·refine beq_eq_false_iff_ne.mpr ?_;show(if u.rt a=a then b else u.rt a)≠a;rw[XY ha];exact Ne.symm n
def V3 {f:Option Fm}(o:u.Ok)(h:∀g,f=some g->∀p∈g.ps,p<u.F.length):(u.add f).Ok where
 lt:=λx hx=>by
  have hx:x<(u.F++[f]).length:=hx;show(if x=u.F.length then x else u.rt x)<(u.F++[f]).length;rw[BA,BH] at hx |-
  split
  ·exact hx
  ·have:=o.lt x (by omega);omega
 id:=λx hx=>by
  have hx:x<(u.F++[f]).length:=hx;rw[BA,BH] at hx;show(if (if x=u.F.length then x else u.rt x)=u.F.length then(if x=u.F.length then x else u.rt x) else u.rt (if x=u.F.length then x else u.rt x))=(if x=u.F.length then x else u.rt x);by_cases c:x=u.F.length
  ·rw[XY c,XY c]
  ·have:=o.lt x (by omega);rw[XX c,XX (by omega),o.id x (by omega)]
 ps:=λx g hx p hp=>by
  have hx:(u.F++[f])[x]?=some (some g):=hx;show p<(u.F++[f]).length;rw[BA,BH];by_cases c:x<u.F.length
  ·rw[BP c] at hx;have:=o.ps x g hx p hp;omega
  ·have e:x=u.F.length:=by
    have:=(BB.mp hx).1;rw[BA,BH] at this;omega
   subst e;rw[CC (XE _),DL] at hx;have:=h g (YH hx) p hp;omega
def Kr {f:Option Fm}(h:x<u.F.length):(u.add f).rt x=u.rt x:=XX (by omega)
def xA {f:Option Fm}:(u.add f).rt u.F.length=u.F.length:=XY FL
def Z7 {f:Option Fm}:(u.add f).F.length=u.F.length+1:=by show(u.F++[f]).length=_;rw[BA];rfl
def Gb {f:Option Fm}(h:x<u.F.length):(u.add f).F[x]?=u.F[x]?:=BP h
def sV {f:Option Fm}:(u.add f).F[u.F.length]?=some f:=by show(u.F++[f])[u.F.length]?=_;rw[CC (XE _),DL];rfl
def Vo {f:Option Fm}(o:u.Ok):Ts (u.add f) σ↔Ts u σ/\∀g,f=some g->σ u.F.length=g.ev σ:=by
 constructor
 ·rintro⟨h1,h2⟩;refine⟨⟨λx hx=>?_,λx g hx=>?_⟩,λg e=>h2 _ g (by rw[sV,e])⟩
  ·have:=h1 x (by rw[Z7];omega);rw[Kr hx] at this;exact this
  ·have hl:=(BB.mp hx).1;exact h2 x g (by rw[Gb hl];exact hx)
 ·rintro⟨⟨h1,h2⟩,h3⟩;refine⟨λx hx=>?_,λx g hx=>?_⟩
  ·rw[Z7] at hx;by_cases c:x=u.F.length
   ·subst c;rw[xA]
   ·rw[Kr (by omega)];exact h1 x (by omega)
  ·have hl:=(BB.mp hx).1;rw[Z7] at hl;by_cases c:x=u.F.length
   ·subst c;rw[sV] at hx;exact h3 g (YH hx)
   ·rw[Gb (by omega)] at hx;exact h2 x g hx
def Uf {f:Option Fm}(o:u.Ok)(h:Uk u []):Uk (u.add f) []:=λx g hx=>by
 have hl:=(BB.mp hx).1;rw[Z7] at hl;by_cases c:x=u.F.length
 ·subst c;rw[xA];exact⟨g,hx,V8.refl (λa=>.rt FL) g⟩
 ·rw[Gb (by omega)] at hx;obtain⟨k,h1,h2⟩:=h x g hx;have hr:=o.lt x (by omega);rw[Kr (by omega)];have hk:=o.ps _ k h1;have hg:=o.ps _ g hx;refine⟨k,by rw[Gb hr];exact h1,?_⟩;have key:∀a b,a<u.F.length->b<u.F.length->E4 u [] a b->E4 (u.add f) [] a b:=λa b ha hb e=>.rt (by rw[Kr ha,Kr hb];exact e.nil)
  cases g with
  | f0 w=>cases k with
   | f0 v=>exact h2
   | f1 v c=>exact h2.elim
   | f2 v c d=>exact h2.elim
  | f1 w c=>cases k with
   | f0 v=>exact h2.elim
   | f1 v d=>exact⟨h2.1,key _ _ (hg _ (by simp[Fm.ps])) (hk _ (by simp[Fm.ps])) h2.2⟩
   | f2 v c d=>exact h2.elim
  | f2 w c d=>cases k with
   | f0 v=>exact h2.elim
   | f1 v d=>exact h2.elim
   | f2 v c' d'=>exact⟨h2.1,key _ _ (hg _ (by simp[Fm.ps])) (hk _ (by simp[Fm.ps])) h2.2.1,key _ _ (hg _ (by simp[Fm.ps])) (hk _ (by simp[Fm.ps])) h2.2.2⟩
def Az (f g:Fm):List (Nat×Nat):=f.ps.zip g.ps
def sD {p:Nat×Nat}(e:u.rt p.1=u.rt p.2)(h:Uk u (p::pl)):Uk u pl:=λx f hx=>by
 obtain⟨g,h1,h2⟩:=h x f hx;refine⟨g,h1,h2.imp λc d q=>q.mono (λ_ _ z=>.rt z) λc d m=>?_⟩
 rcases BC.mp m with z | m
 ·subst z;exact .rt e
 ·exact .pr m
def sC {p:Nat×Nat}(e1:u.rt p.1=a)(e2:u.rt p.2=b)(ha:u.F[a]?=some none)(h:Uk u (p::pl))(o:u.Ok)(hb:u.rt b=b)(n:a≠b):Uk (u.join a b) pl:=λx f hx=>by
 obtain⟨g,h1,h2⟩:=h x f hx;have c:u.rt x≠a:=λz=>by rw[z,ha] at h1;cases h1
 refine⟨g,by rw[show(u.join a b).rt x=u.rt x from XX c];exact h1,h2.imp λc d q=>q.mono (λ_ _ z=>.rt (Bo z)) λc d m=>?_⟩
 rcases BC.mp m with z | m
 ·subst z;refine .rt ?_;show(if u.rt c=a then b else u.rt c)=(if u.rt d=a then b else u.rt d);rw[XY e1,XX (by rw[e2];exact Ne.symm n),e2]
 ·exact .pr m
def wN {p:Nat×Nat}{f g:Fm}(e1:u.rt p.1=a)(e2:u.rt p.2=b)(ha:u.rt a=a)(hfa:u.F[a]?=some (some f))(hfb:u.F[b]?=some (some g))(al:f.tag=g.tag/\f.ps.length=g.ps.length)(h:Uk u (p::pl))(n:a≠b):
  Uk (u.join b a) (pl++Az f g):=λx k hx=>by
 obtain⟨k',h1,h2⟩:=h x k hx;have mo:∀c d,E4 u (p::pl) c d->E4 (u.join b a) (pl++Az f g) c d:=λc d q=>q.mono (λ_ _ z=>.rt (Bo z)) λc d m=>by
  rcases BC.mp m with z | m
  ·subst z;refine .rt ?_;show(if u.rt c=b then a else u.rt c)=(if u.rt d=b then a else u.rt d);rw[XX (by rw[e1];exact n),XY e2,e1]
  ·exact .pr (BI _ m)
 have fg:V8 (E4 (u.join b a) (pl++Az f g)) g f:=by
  refine V8.symm (λ_ _ z=>.sym z) ?_;have pr:∀c d,(c,d)∈Az f g->E4 (u.join b a) (pl++Az f g) c d:=λc d m=>.pr (XT _ m)
  cases f with
  | f0 w=>cases g with
   | f0 v=>exact al.1
   | f1 v c=>exact absurd al.2 (by simp[Fm.ps])
   | f2 v c d=>exact absurd al.2 (by simp[Fm.ps])
  | f1 w c=>cases g with
   | f0 v=>exact absurd al.2 (by simp[Fm.ps])
   | f1 v d=>exact⟨al.1,pr _ _ (by simp[Az,Fm.ps])⟩
   | f2 v c d=>exact absurd al.2 (by simp[Fm.ps])
  | f2 w c d=>cases g with
   | f0 v=>exact absurd al.2 (by simp[Fm.ps])
   | f1 v d=>exact absurd al.2 (by simp[Fm.ps])
   | f2 v c' d'=>exact⟨al.1,pr _ _ (by simp[Az,Fm.ps]),pr _ _ (by simp[Az,Fm.ps])⟩
 by_cases c:u.rt x=b
 ·rw[c,hfb] at h1
  cases h1
  exact⟨f,by rw[show(u.join b a).rt x=a from XY c];exact hfa,(h2.imp mo).trans (λ_ _ _ y z=>.tr y z) fg⟩
 ·exact⟨k',by rw[show(u.join b a).rt x=u.rt x from XX c];exact h1,h2.imp mo⟩
def ju {p:Nat×Nat}(e1:u.rt p.1=a)(e2:u.rt p.2=b)(hfb:u.F[b]?=some none)(h:Uk u (p::pl))(n:a≠b):Uk (u.join b a) pl:=λx f hx=>by
 obtain⟨g,h1,h2⟩:=h x f hx;have c:u.rt x≠b:=λz=>by rw[z,hfb] at h1;cases h1
 refine⟨g,by rw[show(u.join b a).rt x=u.rt x from XX c];exact h1,h2.imp λc d q=>q.mono (λ_ _ z=>.rt (Bo z)) λc d m=>?_⟩
 rcases BC.mp m with z | m
 ·subst z;refine .rt ?_;show(if u.rt c=b then a else u.rt c)=(if u.rt d=b then a else u.rt d);rw[XX (by rw[e1];exact n),XY e2,e1]
 ·exact .pr m
def Fo {f g:Fm}(h:f.ev σ=g.ev σ):(f.tag=g.tag/\f.ps.length=g.ps.length)/\∀p∈Az f g,σ p.1=σ p.2:=by
 cases f with
 | f0 w=>cases g with
  | f0 v=>injection h with h;exact⟨⟨h,FL⟩,λp m=>by cases m⟩
  | f1 v c=>cases h
  | f2 v c d=>cases h
 | f1 w c=>cases g with
  | f0 v=>cases h
  | f1 v d=>injection h with h1 h2;exact⟨⟨h1,FL⟩,λp m=>by simp[Az,Fm.ps] at m;subst m;exact h2⟩
  | f2 v c d=>cases h
 | f2 w c d=>cases g with
  | f0 v=>cases h
  | f1 v d=>cases h
  | f2 v c' d'=>injection h with h1 h2 h3;exact⟨⟨h1,FL⟩,λp m=>by
    simp[Az,Fm.ps] at m
    rcases m with rfl | rfl
    ·exact h2
    ·exact h3⟩
end
end Fn
namespace WL
open PySem PySem.Spec PyProof.Rows L2
def Ex (C C':Hw):Prop:=∀a o,C a=some o->C' a=some o
def Ex.refl (C:Hw):Ex C C:=λ_ _ h=>h
def Ex.trans (a:Ex C C1)(b:Ex C1 C2):Ex C C2:=λc o h=>b c o (a c o h)
def cne {C:Hw}(h:C a=some o)(h':C b=none):a≠b:=λe=>by subst e;rw[h] at h';cases h'
def Ex.new {C:Hw}(h:C p=none):Ex C (up C p o):=λa u e=>by rw[Zg (cne e h)];exact e
def Ex.up (e:Ex C C')(h:C p=none):Ex C (up C' p o):=λa u q=>by rw[Zg (cne q h)];exact e a u q
def vE (h:up C p o q=none):q≠p/\C q=none:=by
 have n:q≠p:=λz=>by subst z;rw[Ze] at h;cases h
 rw[Zg n] at h;exact⟨n,h⟩
def Ex.free (e:Ex C C')(h:C' p=none):C p=none:=by
 cases q:C p with
 | none=>rfl
 | some o=>rw[e p o q] at h;cases h
def aZ (p:WP)(C C':Hw):Prop:=∀a o,a≠p->C a=some o->C' a=some o
def Ij:∀(v:T) {n m:Nat},Yx v n=true->n<=m->Yx v m=true:=by
 have key:∀(n:Nat) (v:T) {m:Nat},Yx v n=true->n<=m->Yx v m=true:=by
  intro n
  induction n with
  | zero=>
   intro v m h _
   cases v with
   | tup xs=>unfold Yx at h;cases h
   | ref a=>unfold Yx at h;cases h
   | cl a=>unfold Yx at h;cases h
   | _=>unfold Yx;rfl
  | succ n ih=>
   intro v m h hm;have fl:∀(xs:List T) {m:Nat},Ys xs n=true->n<=m->Ys xs m=true:=by
    intro xs
    induction xs with
    | nil=>intro m _ _;unfold Ys;rfl
    | cons x xs ihx=>
     intro m h hm;unfold Ys at h |-;rw[CZ] at h |-;exact⟨ih x h.1 hm,ihx h.2 hm⟩
   cases v with
   | tup xs=>
    obtain⟨k,rfl⟩:∃k,m=k+1:=⟨m-1,by omega⟩;unfold Yx at h |-;exact fl xs h (by omega)
   | ref a=>unfold Yx at h;cases h
   | cl a=>unfold Yx at h;cases h
   | _=>unfold Yx;rfl
 exact λv {n m}=>key n v
def Dt:∀{xs:List T} {n:Nat},Ys xs n=true↔∀x∈xs,Yx x n=true
 | [],n=>by unfold Ys;simp
 | x::xs,n=>by unfold Ys;rw[Bool.and_eq_true,Dt];simp
def yc:Yx (.str x) n=true:=by unfold Yx;rfl
def tU:Yx (.int x) n=true:=by unfold Yx;rfl
def qS:Yx (.bl x) n=true:=by unfold Yx;rfl
def Fc:Yr (.str x)=True:=eq_true yc
def Fd:Yr (.int x)=True:=eq_true tU
def Dm:Yr (.bl x)=True:=eq_true qS
def jk {xs:List Str}:Ys (xs.map T.str) n=true:=Dt.mpr λx hx=>by obtain⟨y,_,rfl⟩:=XR.mp hx;exact yc
section
variable {n:Bool}{C:Hw}{Q:WK}
def Vj:Nu n (.str a) (.str b) C Q=Q (.bl (if n=true then !(a==b) else a==b)) C:=by
 show(Yr _/\Yr _/\Q (.bl (if n=true then !eqT (.str a) (.str b) else eqT (.str a) (.str b))) C)=_;rw[Fc,Fc,true_and,true_and,show eqT (.str a) (.str b)=(a==b) by unfold eqT;rfl]
def Hm:Nu n (.int a) (.int b) C Q=Q (.bl (if n=true then !(a==b) else a==b)) C:=by
 show(Yr _/\Yr _/\Q (.bl (if n=true then !eqT (.int a) (.int b) else eqT (.int a) (.int b))) C)=_;rw[Fd,Fd,true_and,true_and,show eqT (.int a) (.int b)=(a==b) by unfold eqT;rfl]
def n5:Nu n (.bl a) (.bl b) C Q=Q (.bl (if n=true then !(a==b) else a==b)) C:=by
 show(Yr _/\Yr _/\Q (.bl (if n=true then !eqT (.bl a) (.bl b) else eqT (.bl a) (.bl b))) C)=_;rw[Dm,Dm,true_and,true_and,show eqT (.bl a) (.bl b)=(a==b) by unfold eqT;rfl]
end
section
variable {α:Type}{a b c d e:α}{xs:List α}
def kf:(a::xs).eraseIdx 0=xs:=rfl
def Zr:Pa (a::xs) 0=some a:=Xu (j:=0) FL
def Yl:Pa (a::b::xs) 1=some b:=Xu (j:=1) FL
def Jp:Pa (a::b::c::xs) 2=some c:=Xu (j:=2) FL
def oY:Pa (a::b::c::d::xs) 3=some d:=Xu (j:=3) FL
def fA:Pa (a::b::c::d::e::xs) 4=some e:=Xu (j:=4) FL
def kH:Pa [a] (-1)=some a:=rfl
def sN:Pa [a,b] (-1)=some b:=rfl
def kG:Pa [a,b,c] (-1)=some c:=rfl
def kF:Pa [a,b,c,d] (-1)=some d:=rfl
end
def X2 {g:WG}{b:WS}{ok:Hw->Prop}{D:We}{xs:List T}(Pv:Nat->Sw->Hw->Prop)(h0:Pv 0 τ C)(hok:∀i τ C,i<=xs.length->Pv i τ C->ok C)
  (hs:∀i x τ C (N:Sw->Hw->Prop),xs[i]?=some x->Pv i τ C->(∀τ' C',Pv (i+1) τ' C'->N τ' C')->g x τ C (λτ2 C2=>b {D with nx:=N,ct:=N,bk:=D.nx} τ2 C2) D.xc)
  (hd:∀τ C,Pv xs.length τ C->D.nx τ C):yb g b ok D xs τ C:=by
 have key:∀(k i:Nat) (τ:Sw) (C:Hw),xs.length-i=k->i<=xs.length->Pv i τ C->yb g b ok D (xs.drop i) τ C:=by
  intro k
  induction k with
  | zero=>
   intro i τ C hk hi hp;have e:i=xs.length:=by omega
   subst e;rw[EU];exact⟨hok _ τ C (XE _) hp,hd τ C hp⟩
  | succ k ih=>
   intro i τ C hk hi hp;have hlt:i<xs.length:=by omega
   rw[DI hlt];exact⟨hok i τ C hi hp,hs i _ τ C _ (by simp[hlt]) hp λτ' C' h=>ih (i+1) τ' C' (by omega) hlt h⟩
 exact key xs.length 0 τ C (by simp) (Nat.zero_le _) h0
def jL (lo:Int)(n:Nat):(rng lo n).length=n:=by unfold rng;simp
def qc {lo:Int}{n i:Nat}(h:(rng lo n)[i]?=some x):i<n/\x=.int (lo+i):=by
 have hi:i<n:=by
  have:=(BB.mp h).1;rw[jL] at this;exact this
 unfold rng at h;rw[XM,FE hi] at h
 cases h
 exact⟨hi,FL⟩
def xh {g:WG}{b:WS}{ok:Hw->Prop}{D:We}{lo:Int}{n:Nat}(Pv:Nat->Sw->Hw->Prop)(h0:Pv 0 τ C)(hok:∀C,ok C)
  (hs:∀i τ C (N:Sw->Hw->Prop),i<n->Pv i τ C->(∀τ' C',Pv (i+1) τ' C'->N τ' C')->g (.int (lo+i)) τ C (λτ2 C2=>b {D with nx:=N,ct:=N,bk:=D.nx} τ2 C2) D.xc)
  (hd:∀τ C,Pv n τ C->D.nx τ C):yb g b ok D (rng lo n) τ C:=by
 refine X2 Pv h0 (λ_ _ C _ _=>hok C) (λi x τ C N hx hp hN=>?_) (λτ C h=>hd τ C (by rw[jL] at h;exact h));obtain⟨hi,rfl⟩:=qc hx;exact hs i τ C N hi hp hN
def Sg {g:WG}{c:WT}{e:WE}{ok:Hw->Prop}{τ:Sw}{Q:List T->Hw->Prop}{χ:WX}{xs:List T}(Pv:Nat->List T->Hw->Prop)(h0:Pv 0 [] C)(hok:∀i acc C,i<=xs.length->Pv i acc C->ok C)
  (hs:∀i x acc C (N:List T->Hw->Prop),xs[i]?=some x->Pv i acc C->(∀acc' C',Pv (i+1) acc' C'->N acc' C')->
   g x τ C (λτ2 C2=>c τ2 C2 (λb C3=>if b=true then e τ2 C3 (λv C4=>acc.length<sizeLine/\N (acc++[v]) C4) χ else N acc C3) χ) χ)
  (hd:∀acc C,Pv xs.length acc C->Q acc C):Kp g c e ok τ Q χ xs [] C:=by
 have key:∀(k i:Nat) (acc:List T) (C:Hw),xs.length-i=k->i<=xs.length->Pv i acc C->Kp g c e ok τ Q χ (xs.drop i) acc C:=by
  intro k
  induction k with
  | zero=>
   intro i acc C hk hi hp;have e:i=xs.length:=by omega
   subst e;rw[EU];exact⟨hok _ acc C (XE _) hp,hd acc C hp⟩
  | succ k ih=>
   intro i acc C hk hi hp;have hlt:i<xs.length:=by omega
   rw[DI hlt];exact⟨hok i acc C hi hp,hs i _ acc C _ (by simp[hlt]) hp λacc' C' h=>ih (i+1) acc' C' (by omega) hlt h⟩
 exact key xs.length 0 [] C (by simp) (Nat.zero_le _) h0
def pq {g:WG}{c:WT}{e:WE}{ok:Hw->Prop}{τ:Sw}{Q:List T->Hw->Prop}{χ:WX}{xs:List T}(f:T->Option T)(hok:ok C)(hl:xs.length<=sizeLine)
  (hs:∀x∈xs,∀(R:WK) (N:Hw->Prop),(∀v,f x=some v->R v C)->(f x=none->N C)->g x τ C (λτ2 C2=>c τ2 C2 (λb C3=>if b=true then e τ2 C3 R χ else N C3) χ) χ) (hd:Q (xs.filterMap f) C):Kp g c e ok τ Q χ xs [] C:=by
 refine Sg (λi acc C'=>C'=C/\acc=(xs.take i).filterMap f) ⟨FL,FL⟩ (λi acc C' _ h=>by rw[h.1];exact hok) (λi x acc C' N hx hp hN=>?_) (λacc C' h=>?_)
 ·obtain⟨rfl,rfl⟩:=hp;have hi:i<xs.length:=(BB.mp hx).1;refine hs x (BE hx) _ _ (λv hv=>⟨?_,hN _ _ ⟨FL,?_⟩⟩) (λhv=>hN _ _ ⟨FL,?_⟩)
  ·have:=List.length_filterMap_le f (xs.take i);rw[YM] at this;omega
  ·rw[YD,hx,List.filterMap_append];simp[hv]
  ·rw[YD,hx,List.filterMap_append];simp[hv]
 ·obtain⟨rfl,rfl⟩:=h;rw[CB];exact hd
def Jk {g:WG}{e:WE}{ok:Hw->Prop}{τ:Sw}{Q:List T->Hw->Prop}{χ:WX}{xs:List T}(f:T->T)(hok:ok C)(hl:xs.length<=sizeLine)
  (hs:∀x∈xs,∀R:WK,R (f x) C->g x τ C (λτ2 C2=>e τ2 C2 R χ) χ) (hd:Q (xs.map f) C):Kp g nF e ok τ Q χ xs [] C:=by
 refine Sg (λi acc C'=>C'=C/\acc=(xs.take i).map f) ⟨FL,FL⟩ (λi acc C' _ h=>by rw[h.1];exact hok) (λi x acc C' N hx hp hN=>?_) (λacc C' h=>?_)
 ·obtain⟨rfl,rfl⟩:=hp;have hi:i<xs.length:=(BB.mp hx).1;refine hs x (BE hx) _ ⟨?_,hN _ _ ⟨FL,?_⟩⟩
  ·rw[XI,YM];omega
  ·rw[YD,hx,XL];rfl
 ·obtain⟨rfl,rfl⟩:=h;rw[CB];exact hd
def tE {zs:List Str}:inL (.str z) (zs.map T.str)=decide (z∈zs):=by
 unfold inL;rw[List.any_map]
 induction zs with
 | nil=>rfl
 | cons y ys ih=>
  rw[DR,ih];have e:(((λy=>eqT y (.str z))∘T.str) y)=(y==z):=by show eqT (.str y) (.str z)=_;unfold eqT;rfl
  rw[e];by_cases h:y=z
  ·subst h;simp
  ·have h':z≠y:=λq=>h q.symm;simp[h,h']
def Wl {n:Nat}(h:n<=100000):n<=sizeLine:=XN h (by decide)
def Yu {n:Nat}(h:n<=100000):n<sizeLine:=EI h (by decide)
end WL
namespace K22
open PySem PySem.Spec PyProof.Rows L2 WL Fn
local macro_rules | `(tactic| walk_at "ws") => `(tactic| try simp (config := { decide := true }) only [Yb, eC, Yk, dW, Zv, Zz, Ik, sj, Qm, gW, gS, dY, kr, a6, km, nG, Kz, eY, El, eO, kq, A4, Nt, yB, eG, A3, ip, ir, eD, bE, eE, cO, iw, iq, Ws, cZ, oK, eh, bn, f8, f6, cm, sK, oX, gU, iz, Eu, Dp, Ro, gP, bj, Xl, Xy, Ln, Be, hJ, Eo, Lo, dh, oC, yM, qa, lU, bi, au, av, Aj, nF, xo, rN, bG, Hv, gD, lu, M6, eB, cM, vW, Vj, Hm, kf, Zr, Yl, Jp, oY, fA, kH, sN, kG, kF, n5,
  List.map_cons, FI, List.length_cons, EZ, List.replicate, List.cons_append, List.nil_append, List.getElem?_cons_zero, List.getElem?_cons_succ, List.set_cons_zero, List.set_cons_succ, Option.some.injEq, T.int.injEq, T.str.injEq, T.bl.injEq, T.ref.injEq, T.tup.injEq, T.cl.injEq, exists_eq_left', exists_eq_left, exists_eq', exists_and_left, and_assoc, List.cons.injEq, and_true, true_and, reduceCtorEq, false_and, exists_false, List.append_nil, if_true, if_false, Bool.not_not, decide_eq_true_eq, Bool.not_eq_true', decide_eq_false_iff_not, Bool.false_eq_true, List.nil_eq, Option.bind_none, Option.bind_some, Option.join_some, Nat.reduceAdd, Nat.reduceSub, DL, Nat.zero_add, Nat.sub_zero, beq_iff_eq, Bool.not_false, Bool.not_true])
section
variable {A B:WS}{D:We}{τ:Sw}{C:Hw}{i k:Nat}{v:T}{r:List T}{s s' w:Str}{x y:Int}
def zN (h:τ[0]?=some (some (.tup (v::r))))(q:B D (τ.set k (some v)) C):Xy (Lo (Yk Ws (Yb 0) (eC (.int 0))) (Eu k)) B D τ C:=⟨_,h,_,Zr,q⟩
def zL (h:τ[i]?=some (some (.str w)))(hw:w=s)(q:A {D with nx:=B D} τ C):Xy (Eo (Kz (Yk M6 (Yb i) (eC (.str s)))) A Xl) B D τ C:=by
 refine⟨_,h,?_⟩;simp only[eC];rw[M6,Vj,hw];refine⟨true,by simp,?_⟩;rw[XY rfl];exact q
def Q7 (h:τ[i]?=some (some (.str w)))(hw:w≠s)(q:B D τ C):Xy (Eo (Kz (Yk M6 (Yb i) (eC (.str s)))) A Xl) B D τ C:=by
 refine⟨_,h,?_⟩;simp only[eC];rw[M6,Vj];refine⟨false,by simp[hw],?_⟩;rw[XX (by decide)];exact q
def tw (h:τ[i]?=some (some (.str w)))(hw:w=s\/w=s')(q:A {D with nx:=B D} τ C):Xy (Eo (El (Kz (Yk M6 (Yb i) (eC (.str s)))) (Kz (Yk M6 (Yb i) (eC (.str s'))))) A Xl) B D τ C:=by
 refine⟨_,h,?_⟩;simp only[eC];rw[M6,Vj];by_cases c:w=s
 ·refine⟨true,by simp[c],?_⟩;rw[XY rfl];exact q
 ·refine⟨false,by simp[c],?_⟩;rw[XX (by decide)];refine⟨_,h,?_⟩;simp only[eC];rw[Vj];have c':w=s':=hw.resolve_left c;refine⟨true,by simp[c'],?_⟩;rw[XY rfl];exact q
def zM (h:τ[i]?=some (some (.str w)))(hw:w≠s)(hw':w≠s')(q:B D τ C):Xy (Eo (El (Kz (Yk M6 (Yb i) (eC (.str s)))) (Kz (Yk M6 (Yb i) (eC (.str s'))))) A Xl) B D τ C:=by
 refine⟨_,h,?_⟩;simp only[eC];rw[M6,Vj];refine⟨false,by simp[hw],?_⟩;rw[XX (by decide)];refine⟨_,h,?_⟩;simp only[eC];rw[Vj];refine⟨false,by simp[hw'],?_⟩;rw[XX (by decide)];exact q
end
def o0:List Str:=["does","call","first","fun","let","shape","choose","rows"]
inductive Sc:T->Option Nat->List (List T×T)->Prop
 | does {o A B:T}:Sc (.tup [.str "does",o,A,B]) none [([],A),([],B)]
 | call {A B:T}:Sc (.tup [.str "call",A,B]) none [([],A),([],B)]
 | first {A B:T}:Sc (.tup [.str "first",A,B]) none [([],A),([],B)]
 | fun_ {x B:T}:Sc (.tup [.str "fun",x,B]) none [([x],B)]
 | let_ {B:T} {xs:List (T×T)} (h:xs.length<=1000):Sc (.tup [.str "let",.tup (xs.map λx=>.tup [x.1,x.2]),B]) none (xs.map (λx=>(xs.map (·.1),x.2))++[(xs.map (·.1),B)])
 | shape {c:T} {ps:List T} (h:ps.length<=1000):Sc (.tup [.str "shape",c,.tup ps]) none (ps.map λx=>([],x))
 | choose {E:T} {ys:List (T×List T×T)} (h:ys.length<=1000):Sc (.tup [.str "choose",E,.tup (ys.map λy=>.tup [y.1,.tup y.2.1,y.2.2])]) none (([],E)::ys.map (·.2))
 | other {w:Str} {J4:List T} (h:w∉o0):Sc (.tup (.str w::J4)) none []
def oB (s:List T×T):T:=.tup [.tup s.1,s.2]
section
variable {C:Hw}{Q:WK}{χ:WX}{n:Nat}
def Bb {B:T}{xs:List (T×T)}(h:xs.length<=1000)(q:∀p C',Ex C C'->C p=none->C' p=some (.lst ((xs.map (λx=>(xs.map (·.1),x.2))++[(xs.map (·.1),B)]).map oB))->Q (.ref p) C'):
  Yg pr (n+1) Bv [.tup (xs.map λx=>.tup [x.1,x.2]),B] C Q χ:=by
 refine Ck FL ?_;unfold So Qd
 walk_at "ws"
 have hl:(xs.map λx:T×T=>T.tup [x.1,x.2]).length<=sizeLine:=by rw[XI];exact Wl (by omega)
 refine Jk (λt=>match t with | .tup [a,_]=>a | _=>.non) trivial hl (λx hx R hR=>?_) λp hp=>?_
 ·obtain⟨y,_,rfl⟩:=XR.mp hx
  walk_at "ws"
  exact hR
 refine⟨_,Ze,?_⟩;have e:(xs.map λx:T×T=>T.tup [x.1,x.2]).map (λt=>match t with | .tup [a,_]=>a | _=>T.non)=xs.map (·.1):=by rw[YE];rfl
 rw[e];refine Jk (λt=>match t with | .tup [_,b]=>.tup [.tup (xs.map (·.1)),b] | _=>.non) trivial hl (λx hx R hR=>?_) λp2 hp2=>?_
 ·obtain⟨y,_,rfl⟩:=XR.mp hx
  walk_at "ws"
  exact hR
 intro p3 hp3;obtain⟨n2,e2⟩:=vE hp2;obtain⟨n32,h32⟩:=vE hp3;obtain⟨n31,e3⟩:=vE h32;refine⟨_,by rw[Zg n32.symm];exact Ze,_,Ze,?_,λp4 hp4=>?_⟩
 ·rw[XI,XI];exact Wl (by show xs.length+1<=100000;omega)
 ·obtain⟨n43,h43⟩:=vE hp4;obtain⟨n42,h42⟩:=vE h43;obtain⟨n41,e4⟩:=vE h42;refine q p4 _ ((((Ex.new hp).up e2).up e3).up e4) e4 ?_;rw[Ze,XL,YE,YE];rfl
def zo (h:Sc t e ss)(q:∀p C',Ex C C'->C p=none->C' p=some (.lst (ss.map oB))->Q (.ref p) C'):Yg pr (n+2) tG [t] C Q χ:=by
 refine vY FL ?_;unfold Gc Ee
 cases h with
 | does=>refine zN FL (zL FL FL ?_);walk_at "ws";exact λp hp=>q p _ (Ex.new hp) hp Ze
 | call=>refine zN FL (Q7 FL (by decide+kernel) (tw FL (.inl FL) ?_));walk_at "ws";exact λp hp=>q p _ (Ex.new hp) hp Ze
 | first=>refine zN FL (Q7 FL (by decide+kernel) (tw FL (.inr FL) ?_));walk_at "ws";exact λp hp=>q p _ (Ex.new hp) hp Ze
 | fun_=>refine zN FL (Q7 FL (by decide+kernel) (zM FL (by decide+kernel) (by decide+kernel) (zL FL FL ?_)));walk_at "ws";exact λp hp=>q p _ (Ex.new hp) hp Ze
 | let_ h=>refine zN FL (Q7 FL (by decide+kernel) (zM FL (by decide+kernel) (by decide+kernel) (Q7 FL (by decide+kernel) (zL FL FL ?_))));walk_at "ws";exact Bb h q
 | shape h=>
  refine zN FL (Q7 FL (by decide+kernel) (zM FL (by decide+kernel) (by decide+kernel) (Q7 FL (by decide+kernel) (Q7 FL (by decide+kernel) (zL FL FL ?_)))))
  walk_at "ws"
  refine Jk (λt=>.tup [.tup [],t]) trivial (Wl (by omega)) (λx hx R hR=>?_) λp hp=>q p _ (Ex.new hp) hp ?_
  ·walk_at "ws"
   exact hR
  ·rw[Ze,YE];rfl
 | @choose E ys h=>
  refine zN FL (Q7 FL (by decide+kernel) (zM FL (by decide+kernel) (by decide+kernel) (Q7 FL (by decide+kernel) (Q7 FL (by decide+kernel) (Q7 FL (by decide+kernel) (zL FL FL ?_))))))
  walk_at "ws"
  intro p hp;refine Jk (λt=>match t with | .tup [_,a,b]=>.tup [a,b] | _=>.non) trivial (by rw[XI];exact Wl (by omega)) (λx hx R hR=>?_) λp2 hp2=>?_
  ·obtain⟨y,_,rfl⟩:=XR.mp hx
   walk_at "ws"
   exact hR
  obtain⟨n2,e2⟩:=vE hp2;refine⟨_,by rw[Zg n2.symm];exact Ze,_,Ze,?_,λp3 hp3=>?_⟩
  ·rw[XI,XI];exact Wl (by show 1+_<=_;omega)
  ·obtain⟨n32,h32⟩:=vE hp3;obtain⟨n31,e3⟩:=vE h32;refine q p3 _ (((Ex.new hp).up e2).up e3) e3 ?_;rw[Ze,YI,YE,YE];rfl
 | @other w J4 h=>
  have hw:∀s∈o0,w≠s:=λs hs z=>h (z▸hs);refine zN FL (Q7 FL (hw "does" (by decide)) (zM FL (hw "call" (by decide)) (hw "first" (by decide)) (Q7 FL (hw "fun" (by decide)) (Q7 FL (hw "let" (by decide)) (Q7 FL (hw "shape" (by decide)) (Q7 FL (hw "choose" (by decide)) (Q7 FL (hw "rows" (by decide)) ?_)))))))
  walk_at "ws"
  exact λp hp=>q p _ (Ex.new hp) hp Ze
end
section
variable {C:Hw}{Q:WK}{χ:WX}{τ:Sw}
def Z6 {p q:Prop}(h:p):if true=true then p else q:=h
def Zl {p q:Prop}(h:q):if false=true then p else q:=h
def Fb {p q:Prop}{b:Bool}(hb:b=true)(h:p):if b=true then p else q:=by rw[XY hb];exact h
def Ly {p q:Prop}{b:Bool}(hb:b=false)(h:q):if b=true then p else q:=by subst hb;exact h
def dS {a b:Str}{v:Bool}(h:(a==b)=v)(q:Q (.bl v) C):Nu false (.str a) (.str b) C Q:=by rw[Vj,XX (by decide),h];exact q
def dU {a b:Int}{v:Bool}(h:(a==b)=v)(q:Q (.bl v) C):Nu false (.int a) (.int b) C Q:=by rw[Hm,XX (by decide),h];exact q
def ab {a b:Str}{v:Bool}(h:(a==b)=v)(q:Q (.bl (!v)) C):Nu true (.str a) (.str b) C Q:=by rw[Vj,XY FL,h];exact q
def ac {a b:Int}{v:Bool}(h:(a==b)=v)(q:Q (.bl (!v)) C):Nu true (.int a) (.int b) C Q:=by rw[Hm,XY FL,h];exact q
def Zu {a b:Str}{v:Bool}(h:(a==b)=v)(q:Q (.bl v) C):eC (.str b) τ C (λy C2=>M6 (.str a) y C2 Q) χ:=dS h q
def Q8 {a b:Int}{v:Bool}(h:(a==b)=v)(q:Q (.bl v) C):eC (.int b) τ C (λy C2=>M6 (.int a) y C2 Q) χ:=dU h q
def qE {a b:Str}{v:Bool}(h:(a==b)=v)(q:Q (.bl (!v)) C):eC (.str b) τ C (λy C2=>eB (.str a) y C2 Q) χ:=ab h q
end
structure Sd where
 r:WP
 f:WP
 l:WP
abbrev nT (x:Nat):T:=.int (x:Int)
def xj:Option Fm->T
 | none=>.non
 | some (.f0 g)=>.tup [.str g]
 | some (.f1 g a)=>.tup [.str g,nT a]
 | some (.f2 g a b)=>.tup [.str g,nT a,nT b]
structure LR (rk:Nat->Nat)(L:List Nat)(u:Us):Prop where
 len:L.length=u.F.length
 st:∀x y,L[x]?=some y->y<L.length/\(y=x->u.rt x=x)/\(y≠x->rk y<rk x/\u.rt y=u.rt x)
abbrev sF (A:Sd):List (Str×T):=[("forms",.ref A.f),("leads",.ref A.l)]
structure Sk (rk:Nat->Nat)(L:List Nat)(A:Sd)(C:Hw)(u:Us):Prop where
 r:C A.r=some (.ins "Slots" (sF A))
 f:C A.f=some (.lst (u.F.map xj))
 l:C A.l=some (.lst (L.map nT))
 lr:LR rk L u
 ne:A.f≠A.l
def Sl (A:Sd)(C:Hw)(u:Us):Prop:=∃rk L,Sk rk L A C u
def Fx (A:Sd)(C C':Hw):Prop:=∀b o,b≠A.f->b≠A.l->C b=some o->C' b=some o
def Fx.refl (A:Sd)(C:Hw):Fx A C C:=λ_ _ _ _ h=>h
def Fx.trans (a:Fx A C C1)(b:Fx A C1 C2):Fx A C C2:=λc o n m h=>b c o n m (a c o n m h)
section
variable {rk:Nat->Nat}{L:List Nat}{A:Sd}{C C':Hw}{u:Us}{Q:WK}{χ:WX}{n x:Nat}{o:O}
def Sk.rf (S:Sk rk L A C u):A.r≠A.f:=λe=>by have h:=S.r;rw[e,S.f] at h;cases h
def Sk.rl (S:Sk rk L A C u):A.r≠A.l:=λe=>by have h:=S.r;rw[e,S.l] at h;cases h
def Fx.upl (h:Fx A C C'):Fx A C (up C' A.l o):=λb u n m e=>by rw[Zg m];exact h b u n m e
def Fx.upf (h:Fx A C C'):Fx A C (up C' A.f o):=λb u n m e=>by rw[Zg n];exact h b u n m e
def Fx.new (h:Fx A C C')(hp:C p=none):Fx A C (up C' p o):=λb u n m e=>by
 rw[Zg λz=>by rw[z,hp] at e;cases e];exact h b u n m e
def Sk.lead (S:Sk rk L A C u)(h:LR rk' L' u')(e:u'.F=u.F):Sk rk' L' A (up C A.l (.lst (L'.map nT))) u':=
 ⟨by rw[Zg S.rl];exact S.r,by rw[Zg S.ne,e];exact S.f,Ze,h,S.ne⟩
def Sk.new (S:Sk rk L A C u)(hp:C p=none):Sk rk L A (up C p o) u:=
 have k:∀{b:WP} {w:O},C b=some w->up C p o b=some w:=λ{b w} h=>by rw[Zg λz=>by rw[z,hp] at h;cases h];exact h
 ⟨k S.r,k S.f,k S.l,S.lr,S.ne⟩
def Sk.other {p:WP}(S:Sk rk L A C u)(h1:p≠A.r)(h2:p≠A.f)(h3:p≠A.l):Sk rk L A (up C p o) u:=
 ⟨by rw[Zg h1.symm];exact S.r,by rw[Zg h2.symm];exact S.f,by rw[Zg h3.symm];exact S.l,S.lr,S.ne⟩
def Au {xs:List Nat}{j y:Nat}(h:xs[j]?=some y):Pa (xs.map nT) (j:Int)=some (nT y):=Xu (by rw[XM,h];rfl)
def Bk {a b:Int}{v:Bool}(h:(a==b)=v)(q:Q (.bl (!v)) C):Nu true (.int a) (.int b) C Q:=by rw[Hm,XY FL,h];exact q
def jd {m j:Nat}(h:j<m):w9 m (j:Int)=some j:=by
 unfold w9;rw[XY (by omega),XY (by omega)];rfl
def Vq:(sF A).lookup ("leads":Str)=some (.ref A.l:T):=rfl
def Oa:(sF A).lookup ("forms":Str)=some (.ref A.f:T):=rfl
def qJ {y z w:Nat}(h:LR rk L u)(h1:L[y]?=some z)(n:z≠y)(h2:L[z]?=some w):LR rk (L.set y w) u/\(L.set y w)[y]?=some w/\w<L.length/\rk w<rk y/\u.rt w=u.rt y/\w≠y:=by
 obtain⟨a1,a2,a3⟩:=h.st y z h1;obtain⟨b1,b2,b3⟩:=h.st z w h2;have hy:y<L.length:=(BB.mp h1).1;have hw:rk w<rk y/\u.rt w=u.rt y:=by
  by_cases c:w=z
  ·rw[c];exact a3 n
  ·exact⟨Nat.lt_trans (b3 c).1 (a3 n).1,(b3 c).2.trans (a3 n).2⟩
 have wy:w≠y:=λe=>by have:=hw.1;rw[e] at this;exact BL _ this
 refine⟨⟨by rw[CU];exact h.len,λx v e=>?_⟩,by rw[CD hy],b1,hw.1,hw.2,wy⟩;rw[CU];by_cases c:y=x
 ·subst c;rw[CD hy] at e
  cases e
  exact⟨b1,λz=>absurd z wy,λ_=>hw⟩
 ·rw[CT c] at e;exact h.st x v e
def Ut (S:Sl A C u)(hx:x<u.F.length)(q:∀C',Sl A C' u->Fx A C C'->Q (nT (u.rt x)) C'):Yg pr (n+1) Fj [.ref A.r,nT x] C Q χ:=by
 obtain⟨rk,L,S⟩:=S;refine Gg FL ?_;unfold Ul U5;refine T0 (λm τ C'=>∃y L',τ=[some (.ref A.r),some (nT y)]/\y<u.F.length/\u.rt y=u.rt x/\rk y=m/\Sk rk L' A C' u/\Fx A C C') (m:=rk x) ⟨x,L,FL,hx,FL,FL,S,Fx.refl _ _⟩ ?_;rintro m τ C' N ⟨y,L',rfl,hy,hr,rfl,S',F'⟩ hN;have hl:=S'.lr.len;obtain⟨z,hz⟩:∃z,L'[y]?=some z:=⟨_,BO (by omega)⟩;refine⟨_,FL,_,_,_,_,FL,S'.r,.head _,Vq,_,FL,_,_,S'.l,Au hz,_,FL,?_⟩;obtain⟨z1,z2,z3⟩:=S'.lr.st y z hz;by_cases c:z=y
 ·refine Bk (v:=true) (by rw[c];exact XU _) ⟨_,FL,?_⟩;refine⟨_,FL,?_⟩;rw[show y=u.rt x by rw[<-hr];exact(z2 c).symm];exact q C' ⟨rk,L',S'⟩ F'
 ·refine Bk (v:=false) (beq_eq_false_iff_ne.mpr λe=>c (by omega)) ⟨_,FL,?_⟩;obtain⟨w,hw⟩:∃w,L'[z]?=some w:=⟨_,BO z1⟩;obtain⟨l1,l2,l3,l4,l5,l6⟩:=qJ S'.lr hz c hw;refine⟨_,FL,_,_,_,_,FL,S'.r,.head _,Vq,_,FL,_,_,_,_,FL,S'.r,.head _,Vq,_,FL,_,_,S'.l,Au hz,_,_,S'.l,Au hw,?_⟩;refine⟨_,FL,_,_,_,_,FL,S'.r,.head _,Vq,_,FL,_,_,_,y,FL,FL,S'.l,jd (by rw[XI];omega),?_⟩;have S2:=S'.lead l1 FL;have em:(L'.map nT).set y (nT w)=(L'.set y w).map nT:=List.map_set.symm;rw[em];refine⟨_,FL,_,_,_,_,FL,S2.r,.head _,Vq,_,FL,_,_,S2.l,Au l2,?_⟩;exact hN (rk w) _ _ l4 ⟨w,L'.set y w,FL,by omega,l5.trans hr,FL,S2,F'.upl⟩
def Ib {f:Option Fm}(S:Sl A C u)(o:u.Ok)(hx:x<u.F.length)(hf:u.F[u.rt x]?=some f)(q:∀C',Sl A C' u->Fx A C C'->Q (xj f) C'):Yg pr (n+2) Hk [.ref A.r,nT x] C Q χ:=by
 refine Hh FL ?_;unfold Vu V6;obtain⟨rk,L,S0⟩:=id S;refine⟨_,FL,_,_,_,_,FL,S0.r,.head _,Oa,_,FL,_,_,_,_,FL,S0.r,FL,FL,_,FL,?_⟩;dsimp only[Zv];refine Ut (n:=n) S hx λC' S' F'=>?_;obtain⟨rk',L',S1⟩:=id S';exact⟨_,_,S1.f,Xu (by rw[XM,hf];rfl),q C' S' F'⟩
def jK {f:Option Fm}(S:Sl A C u)(o:u.Ok)(hn:u.F.length<=90000)(q:∀C',Sl A C' (u.add f)->Fx A C C'->Q (nT u.F.length) C'):Yg pr (n+1) Et [.ref A.r,xj f] C Q χ:=by
 refine Ek FL ?_;unfold Tf Tw;obtain⟨rk,L,S⟩:=S;refine⟨_,FL,_,_,_,_,FL,S.r,.head _,Oa,_,FL,_,S.f,?_⟩;refine⟨_,FL,_,_,_,_,FL,S.r,.head _,Oa,⟨_,_,FL,S.f⟩,_,FL,_,_,_,FL,FL,S.f,Yu (by rw[XI];omega),?_⟩;have r1:up C A.f (.lst (u.F.map xj++[xj f])) A.r=some (.ins "Slots" (sF A)):=by rw[Zg S.rf];exact S.r
 have l1:up C A.f (.lst (u.F.map xj++[xj f])) A.l=some (.lst (L.map nT)):=by rw[Zg S.ne.symm];exact S.l
 refine⟨_,FL,_,_,_,_,FL,r1,.head _,Vq,⟨_,_,FL,l1⟩,_,FL,_,_,_,FL,FL,l1,Yu (by rw[XI,S.lr.len];omega),?_⟩;refine⟨_,FL,?_⟩;have ln:(((u.F.map xj).length:Nat):Int)=((u.F.length:Nat):Int):=by rw[XI]
 rw[ln];refine q _ ⟨rk,L++[u.F.length],?_⟩ (((Fx.refl _ _).upf).upl);refine⟨by rw[Zg S.rl];exact r1,?_,?_,⟨by show _=(u.F++[f]).length;rw[BA,BA,S.lr.len];rfl,λx y e=>?_⟩,S.ne⟩
 ·rw[Zg S.ne,Ze];show _=some (O.lst ((u.F++[f]).map xj));rw[XL];rfl
 ·rw[Ze,XL];rfl
 ·have hl:=S.lr.len;rw[BA,BH];by_cases c:x<L.length
  ·rw[BP c] at e;obtain⟨h1,h2,h3⟩:=S.lr.st x y e;have nx:x≠u.F.length:=by omega
   have ny:y≠u.F.length:=by omega
   refine⟨by omega,λz=>?_,λz=>⟨(h3 z).1,?_⟩⟩
   ·show(if x=u.F.length then x else u.rt x)=x;rw[XX nx];exact h2 z
   ·show(if y=u.F.length then y else u.rt y)=(if x=u.F.length then x else u.rt x);rw[XX nx,XX ny];exact(h3 z).2
  ·have hx:x=L.length:=by
    have:=(BB.mp e).1;rw[BA,BH] at this;omega
   subst hx;rw[CC (XE _),DL] at e;have e:u.F.length=y:=YH e;refine⟨by omega,λz=>?_,λz=>absurd (by omega) z⟩;show(if L.length=u.F.length then L.length else u.rt L.length)=L.length;rw[XY hl]
def Dd (S:Sl A C u)(o:u.Ok)(hn:u.F.length<=90000)(q:∀C',Sl A C' (u.add none)->Fx A C C'->Q (nT u.F.length) C'):Yg pr (n+2) Hj [.ref A.r] C Q χ:=by
 refine Hg FL ?_;unfold Vt V5;obtain⟨rk,L,S0⟩:=id S;refine⟨_,FL,_,_,_,_,FL,S0.r,FL,FL,?_⟩;dsimp only[Zv,Zz,eC];exact jK (n:=n) (f:=none) S o hn q
end
section
variable {rk:Nat->Nat}{L:List Nat}{A:Sd}{C C':Hw}{u:Us}{Q:WK}{χ:WX}{n x a b:Nat}{o:O}
def jU (h:LR rk L u)(ha:u.rt a=a)(hb:u.rt b=b)(hla:a<u.F.length)(hlb:b<u.F.length)(n:a≠b):∃rk',LR rk' (L.set a b) (u.join a b):=by
 refine⟨λx=>if u.rt x=a then rk x+rk b+1 else rk x,⟨by rw[CU];exact h.len,λx y e=>?_⟩⟩;have hl:=h.len;have jr:∀z,(u.join a b).rt z=if u.rt z=a then b else u.rt z:=λ_=>rfl
 rw[CU];by_cases c:a=x
 ·subst c;rw[CD (by omega)] at e
  cases e
  refine⟨by omega,λz=>absurd z.symm n,λ_=>⟨?_,?_⟩⟩
  ·show(if u.rt b=a then rk b+rk b+1 else rk b)<(if u.rt a=a then rk a+rk b+1 else rk a);rw[XX (by rw[hb];exact n.symm),XY ha];omega
  ·rw[jr,jr,XX (by rw[hb];exact n.symm),XY ha,hb]
 ·rw[CT c] at e;obtain⟨h1,h2,h3⟩:=h.st x y e;refine⟨h1,λz=>?_,λz=>⟨?_,?_⟩⟩
  ·have r:=h2 z;rw[jr,XX (by rw[r];exact λw=>c w.symm),r]
  ·obtain⟨r1,r2⟩:=h3 z;show(if u.rt y=a then rk y+rk b+1 else rk y)<(if u.rt x=a then rk x+rk b+1 else rk x);rw[r2]
   split<;>omega
  ·rw[jr,jr,(h3 z).2]
def lh {a b:Str}{v:Bool}(h:(a==b)=v)(q:Q (.bl (!v)) C):Nu true (.str a) (.str b) C Q:=by rw[Vj,XY FL,h];exact q
abbrev pT (p:Nat×Nat):T:=.tup [nT p.1,nT p.2]
def Ae {f:Fm}:xj (some f)=.tup (.str f.tag::f.ps.map nT):=by cases f<;>rfl
def Ry {x:T}{xs:List T}:Dw (x::xs) (some 1) none=xs:=by
 unfold Dw HT.sIx;simp
def zj {x:T}{xs:List T}:¬(HT.sIx (x::xs).length 0 (some 1)=0/\HT.sIx (x::xs).length (x::xs).length none=(x::xs).length):=by
 rintro⟨h,_⟩;unfold HT.sIx at h;simp at h
def d0 {f g:Fm}:gi (f.ps.map nT) (g.ps.map nT)=(Az f g).map pT:=by
 unfold gi Az;rw[List.zip_map,YE];rfl
inductive Jn (u:Us)(a b:Nat):Us->List (Nat×Nat)->Prop
 | op:u.F[a]?=some none->Jn u a b (u.join a b) []
 | k0 {f:Fm}:u.F[a]?=some (some f)->u.F[b]?=some none->Jn u a b (u.join b a) []
 | k2 {f g:Fm}:u.F[a]?=some (some f)->u.F[b]?=some (some g)->Jn u a b (u.join b a) (Az f g)
def tW {y:Nat}{f:Option Fm}(h:u.F[y]?=some f):Pa (u.F.map xj) (y:Int)=some (xj f):=Xu (by rw[XM,h];rfl)
def yK (S:Sl A C u)(ha:u.rt a=a)(hb:u.rt b=b)(hla:a<u.F.length)(hlb:b<u.F.length)(ne:a≠b)
  (hev:∀f g:Fm,u.F[a]?=some (some f)->u.F[b]?=some (some g)->f.tag=g.tag/\f.ps.length=g.ps.length)
  (q:∀C' p u' ps,Sl A C' u'->Fx A C C'->C p=none->C' p=some (.lst (ps.map pT))->Jn u a b u' ps->Q (.ref p) C'):Yg pr (n+1) Ih [.ref A.r,nT a,nT b] C Q χ:=by
 refine Kx FL ?_;unfold W0 Vg;obtain⟨rk,L,S⟩:=S;have hl:=S.lr.len;obtain⟨fa,hfa⟩:∃f,u.F[a]?=some f:=⟨_,BO hla⟩;obtain⟨fb,hfb⟩:∃f,u.F[b]?=some f:=⟨_,BO hlb⟩;refine⟨_,FL,_,_,_,_,FL,S.r,.head _,Oa,_,FL,_,_,S.f,tW hfa,?_⟩;refine⟨_,FL,_,_,_,_,FL,S.r,.head _,Oa,_,FL,_,_,S.f,tW hfb,?_⟩;have nil:∀{C1:Hw} {u':Us},Sl A C1 u'->Fx A C C1->Jn u a b u' []->(∀p,C1 p=none->C p=none)->(([]:List T).length<=sizeLine/\∀p,C1 p=none->Q (.ref p) (up C1 p (.lst []))):=λ{C1 u'} S1 F1 j hn=>by
  obtain⟨rk1,L1,S1⟩:=S1;exact⟨by decide,λp hp=>q _ p _ [] ⟨rk1,L1,S1.new hp⟩ (λc w m1 m2 e=>by rw[Zg λz=>by rw[z,hn p hp] at e;cases e];exact F1 c w m1 m2 e) (hn p hp) Ze j⟩
 have nn:∀{L':List Nat} (p:WP),up C A.l (.lst (L'.map nT)) p=none->C p=none:=λ{L'} p hp=>by
  by_cases c:p=A.l
  ·rw[c,Ze] at hp;cases hp
  ·rw[Zg c] at hp;exact hp
 cases fa with
 | none=>
  refine⟨_,FL,FL,true,FL,?_⟩;obtain⟨rk',lr⟩:=jU S.lr ha hb hla hlb ne;have em:(L.map nT).set a (nT b)=(L.set a b).map nT:=List.map_set.symm;refine⟨_,FL,_,FL,_,_,_,_,FL,S.r,.head _,Vq,_,FL,_,_,_,a,FL,FL,S.l,jd (by rw[XI];omega),?_⟩;rw[em];exact nil ⟨rk',_,S.lead lr FL⟩ (Fx.refl _ _).upl (.op hfa) nn
 | some f=>
  rw[Ae];refine⟨_,FL,FL,false,FL,?_⟩;obtain⟨rk',lr⟩:=jU S.lr hb ha hlb hla ne.symm;have em:(L.map nT).set b (nT a)=(L.set b a).map nT:=List.map_set.symm;refine⟨_,FL,_,FL,_,_,_,_,FL,S.r,.head _,Vq,_,FL,_,_,_,b,FL,FL,S.l,jd (by rw[XI];omega),?_⟩;rw[em];have S1:=S.lead lr FL
  cases fb with
  | none=>
   refine⟨_,FL,FL,true,FL,?_⟩;exact nil ⟨rk',_,S1⟩ (Fx.refl _ _).upl (.k0 hfa hfb) nn
  | some g=>
   rw[Ae];refine⟨_,FL,FL,false,FL,?_⟩;obtain⟨e1,e2⟩:=hev f g hfa hfb;refine⟨_,FL,_,Zr,_,FL,_,Zr,lh (v:=true) (by rw[e1];exact XU _) ⟨_,FL,?_⟩⟩;refine⟨_,FL,_,FL,zj,_,FL,_,FL,zj,_,_,FL,?_,?_,λp hp=>?_⟩
   ·rw[Ry,Ry,XI,XI];exact e2
   ·rw[Ry,List.length_map];cases f<;>simp[Fm.ps]
   ·rw[Ry,Ry,d0];have hn:=nn p hp;exact q _ p _ _ ⟨rk',_,S1.new hp⟩ (λc w m1 m2 e=>by rw[Zg λz=>by rw[z,hn] at e;cases e];exact(Fx.refl A C).upl c w m1 m2 e) hn Ze (.k2 hfa hfb)
end
section
variable {rk:Nat->Nat}{L:List Nat}{A:Sd}{C C':Hw}{u:Us}{Q:WK}{χ:WX}{n x a b:Nat}{o:O}{σ σ0:Nat->Kd}
def xt {pl pl':List (Nat×Nat)}(h:∀x∈pl,x∈pl')(q:Uk u pl):Uk u pl':=λx f hx=>by
 obtain⟨g,h1,h2⟩:=q x f hx;exact⟨g,h1,h2.imp λc d e=>e.mono (λ_ _ z=>.rt z) λc d m=>.pr (h _ m)⟩
def tY:Wi [] []=true:=by unfold Wi;rfl
def wJ {x:T}{xs:List T}:Wi (x::xs) []=false:=by unfold Wi;rfl
def Dr {k:Nat}:Ys [] k=true:=by unfold Ys;rfl
def Bj (h1:C p=some (.lst xs))(h2:C p'=some (.lst []))(q:Q (.bl (!xs.isEmpty)) C):Nu true (.ref p) (.ref p') C Q:=by
 refine⟨xs,[],h1,h2,λe=>?_,?_⟩
 ·have:xs=[]:=EO.mp e;subst this;exact⟨Dr,Dr⟩
 ·rw[XY rfl]
  cases xs with
  | nil=>rw[tY];exact q
  | cons x xs=>rw[wJ];exact q
structure aG (A:Sd)(C:Hw)(u:Us)(a b:Nat)(p:Addr)(C':Hw)(u':Us)(pl:List (Nat×Nat)):Prop where
 s:Sl A C' u'
 f:Fx A C C'
 p:C' p=some (.lst (pl.map pT))
 o:u'.Ok
 c:Uk u' pl
 F:u'.F=u.F
 lt:∀z∈pl,z.1<u.F.length/\z.2<u.F.length
 sol:∀σ,(Ts u' σ/\∀z∈pl,σ z.1=σ z.2)↔(Ts u σ/\σ a=σ b)
 m:3*u'.cnt+pl.length<=3*u.cnt+1
def k4:u.cnt<=u.F.length:=by
 unfold Us.cnt;exact XN (List.length_filter_le _ _) (by rw[FH];exact XE _)
def jM {f g:Fm}:(Az f g).length<=2:=by
 unfold Az;rw[DE]
 cases f<;>simp[Fm.ps]<;>omega
def Ll (S:Sl A C u)(o:u.Ok)(cl:Uk u [])(ha:a<u.F.length)(hb:b<u.F.length)(hσ:Ts u σ0)(he:σ0 a=σ0 b)(hn:u.F.length<=9000)
  (q:∀C' u',Sl A C' u'->Fx A C C'->u'.Ok->Uk u' []->u'.F=u.F->(∀σ,Ts u' σ↔Ts u σ/\σ a=σ b)->Q .non C'):Yg pr (n+2) Mq [.ref A.r,nT a,nT b] C Q χ:=by
 refine Mh FL ?_;unfold X5 Wc;refine⟨_,FL,_,FL,ZNB FL,ZNB FL,λp hp=>?_⟩;have cn:=k4 (u:=u);have sl1:(100000:Nat)<=sizeLine:=by decide
 have dis:∀{C1:Hw} {u1:Us},Sl A C u1->p≠A.r/\p≠A.f/\p≠A.l:=λ{C1 u1} h=>by
  obtain⟨_,_,h⟩:=h;exact⟨λe=>(by rw[e,h.r] at hp;cases hp),λe=>(by rw[e,h.f] at hp;cases hp),λe=>(by rw[e,h.l] at hp;cases hp)⟩
 obtain⟨pr_,pf_,pl_⟩:=dis (C1:=C) S;refine T0 (λm τ C'=>∃v4 v5 v6 u' pl,τ=[some (.ref A.r),some (nT a),some (nT b),some (.ref p),v4,v5,v6]/\aG A C u a b p C' u' pl/\m=3*u'.cnt+pl.length) (m:=3*u.cnt+1)
  ⟨none,none,none,u,[(a,b)],FL,⟨?_,?_,?_,o,xt (λ_ h=>by cases h) cl,FL,?_,?_,XE _⟩,FL⟩ ?_
 ·obtain⟨rk,L,S⟩:=S;exact⟨rk,L,S.new hp⟩
 ·exact(Fx.refl _ _).new hp
 ·exact Ze
 ·intro z hz;rw[XQ.mp hz];exact⟨ha,hb⟩
 ·intro σ;exact⟨λh=>⟨h.1,h.2 _ (XQ.mpr FL)⟩,λh=>⟨h.1,λz hz=>by rw[XQ.mp hz];exact h.2⟩⟩
 rintro m τ C1 N ⟨v4,v5,v6,u1,pl,rfl,M,rfl⟩ hN;refine⟨_,FL,ZNB FL,λp' hp'=>?_⟩;have pp:p≠p':=λe=>by have:=M.p;rw[e,hp'] at this;cases this
 have M2p:up C1 p' (.lst []) p=some (.lst (pl.map pT)):=by rw[Zg pp];exact M.p
 refine Bj M2p Ze ⟨_,FL,?_⟩;have F2:Fx A C (up C1 p' (.lst [])):=λc w m1 m2 e=>by
  have h:=M.f c w m1 m2 e;rw[Zg λz=>by rw[z,hp'] at h;cases h];exact h
 obtain⟨rk1,L1,S1⟩:=M.s;have S2:Sk rk1 L1 A (up C1 p' (.lst [])) u1:=S1.new hp'
 rcases List.eq_nil_or_concat pl with rfl | ⟨pl,z,rfl⟩
 ·refine Zl ?_;exact q _ u1 ⟨rk1,L1,S2⟩ F2 M.o M.c M.F λσ=>by
   have h:=M.sol σ;exact⟨λk=>h.mp ⟨k,λz hz=>nomatch hz⟩,λk=>(h.mpr k).1⟩
 ·rw[List.concat_eq_append] at*;have ne:(!((pl++[z]).map pT).isEmpty)=true:=by simp
  rw[ne];refine Z6 ?_;generalize hC2:up C1 p' (.lst [])=C2 at M2p F2 S2;have last:((pl++[z]).map pT)[((pl++[z]).map pT).length-1]?=some (pT z):=by simp
  have dl:((pl++[z]).map pT).dropLast=pl.map pT:=by simp
  refine⟨_,FL,⟨_,_,FL,M2p⟩,_,_,_,FL,FL,M2p,last,?_⟩;rw[dl];have S3:Sk rk1 L1 A (up C2 p (.lst (pl.map pT))) u1:=S2.other pr_ pf_ pl_;have F3:Fx A C (up C2 p (.lst (pl.map pT))):=λc w m1 m2 e=>by rw[Zg λz=>by rw[z,hp] at e;cases e];exact F2 c w m1 m2 e
  have P3:up C2 p (.lst (pl.map pT)) p=some (.lst (pl.map pT)):=Ze;generalize up C2 p (.lst (pl.map pT))=C3 at S3 F3 P3;have hz:=M.lt z (by simp);have lF:u1.F.length=u.F.length:=by rw[M.F]
  refine⟨_,FL,_,_,_,_,FL,S3.r,FL,FL,_,FL,_,Zr,?_⟩;dsimp only[Zv];refine Ut (n:=n) ⟨rk1,L1,S3⟩ (by omega) λC4 S4 F4=>?_;obtain⟨rk4,L4,S4⟩:=S4;have P4:C4 p=some (.lst (pl.map pT)):=F4 _ _ pf_ pl_ P3;refine⟨_,FL,_,_,_,_,FL,S4.r,FL,FL,_,FL,_,Yl,?_⟩;dsimp only[Zv];refine Ut (n:=n) ⟨rk4,L4,S4⟩ (by omega) λC5 S5 F5=>?_;have P5:C5 p=some (.lst (pl.map pT)):=F5 _ _ pf_ pl_ P4;have F6:Fx A C C5:=(F3.trans F4).trans F5;refine⟨_,FL,_,FL,?_⟩;have c1:Uk u1 (z::pl):=xt (λx h=>by rcases XS.mp h with h | h;exact XV _ h;rw[XQ.mp h];exact BD ..) M.c;have sz:∀σ,(Ts u1 σ/\(∀y∈pl,σ y.1=σ y.2)/\σ z.1=σ z.2)↔(Ts u σ/\σ a=σ b):=λσ=>by
   rw[<-M.sol σ];exact⟨λh=>⟨h.1,λy hy=>by rcases List.mem_append.mp hy with k | k;exact h.2.1 y k;rw[List.mem_singleton.mp k];exact h.2.2⟩,λh=>⟨h.1,λy hy=>h.2 y (List.mem_append_left _ hy),h.2 z (by simp)⟩⟩
  have mm:=M.m;rw[BA,BH] at mm;have lt':∀y∈pl,y.1<u.F.length/\y.2<u.F.length:=λy hy=>M.lt y (BI _ hy);by_cases e:u1.rt z.1=u1.rt z.2
  ·refine Bk (v:=true) (by rw[e];exact XU _) ⟨_,FL,Zl ?_⟩;refine hN (3*u1.cnt+pl.length) _ _ (by rw[BA,BH];omega) ⟨_,_,_,u1,pl,FL,⟨S5,F6,P5,M.o,sD e c1,M.F,lt',λσ=>?_,by omega⟩,FL⟩;rw[<-sz σ];exact⟨λh=>⟨h.1,h.2,by rw[h.1.1 _ (by omega),h.1.1 z.2 (by omega),e]⟩,λh=>⟨h.1,h.2.1⟩⟩
  ·refine Bk (v:=false) (beq_eq_false_iff_ne.mpr λk=>e (by omega)) ⟨_,FL,Z6 ?_⟩;obtain⟨rk5,L5,S5⟩:=S5;refine⟨_,FL,⟨_,_,FL,P5⟩,_,FL,_,_,_,_,FL,S5.r,FL,FL,_,FL,_,FL,?_⟩;dsimp only[Zv];obtain⟨hs0,ht0,hz0⟩:=(sz σ0).mpr ⟨hσ,he⟩;have r1:=M.o.lt z.1 (by omega);have r2:=M.o.lt z.2 (by omega);have i1:=M.o.id z.1 (by omega);have i2:=M.o.id z.2 (by omega);have ev:∀f g:Fm,u1.F[u1.rt z.1]?=some (some f)->u1.F[u1.rt z.2]?=some (some g)->f.ev σ0=g.ev σ0:=λf g h1 h2=>by
    rw[<-hs0.2 _ f h1,<-hs0.2 _ g h2,<-hs0.1 _ (by omega),<-hs0.1 _ (by omega)];exact hz0
   refine yK (n:=n) ⟨rk5,L5,S5⟩ i1 i2 r1 r2 e (λf g h1 h2=>(Fo (ev f g h1 h2)).1) λC7 p7 u7 ps S7 F7 hp7 P7 j=>?_;have P8:C7 p=some (.lst (pl.map pT)):=F7 _ _ pf_ pl_ P5;have np:p7≠p:=λk=>by rw[k,P5] at hp7;cases hp7
   have zl:ps.length<=2:=by cases j<;>first | exact jM | exact XO _
   refine⟨_,_,_,_,FL,FL,P8,P7,by rw[XI,XI];omega,?_⟩;rw[<-XL];obtain⟨rk7,L7,S7⟩:=S7;have S8:Sk rk7 L7 A (up C7 p (.lst ((pl++ps).map pT))) u7:=S7.other pr_ pf_ pl_;have F8:Fx A C (up C7 p (.lst ((pl++ps).map pT))):=λc w m1 m2 k=>by rw[Zg λz=>by rw[z,hp] at k;cases k];exact(F6.trans F7) c w m1 m2 k
   have eq2:∀σ,Ts u1 σ->(σ (u1.rt z.1)=σ (u1.rt z.2)↔σ z.1=σ z.2):=λσ h=>by rw[h.1 z.1 (by omega),h.1 z.2 (by omega)]
   cases j with
   | op h=>
    have ct:=Fa i1 i2 r1 e;have jo:=Bp M.o i1 i2 r2 e;refine hN (3*(u1.join (u1.rt z.1) (u1.rt z.2)).cnt+(pl++[]).length) _ _ (by rw[List.length_append,List.length_append,List.length_singleton];simp;omega) ⟨_,_,_,_,pl++[],FL,⟨⟨rk7,L7,S8⟩,F8,Ze,jo,?_,M.F,by simpa using lt',λσ=>?_,by simp;omega⟩,FL⟩
    ·rw[YK];exact sC FL FL h c1 M.o i2 e
    ·rw[<-sz σ,G8 i1 i2 r1 M.o,YK];exact⟨λh=>⟨h.1.1,h.2,(eq2 σ h.1.1).mp h.1.2⟩,λh=>⟨⟨h.1,(eq2 σ h.1).mpr h.2.2⟩,h.2.1⟩⟩
   | k0 h1 h2=>
    have ct:=Fa i2 i1 r2 (Ne.symm e);have jo:=Bp M.o i2 i1 r1 (Ne.symm e);refine hN (3*(u1.join (u1.rt z.2) (u1.rt z.1)).cnt+(pl++[]).length) _ _ (by rw[List.length_append,List.length_append,List.length_singleton];simp;omega) ⟨_,_,_,_,pl++[],FL,⟨⟨rk7,L7,S8⟩,F8,Ze,jo,?_,M.F,by simpa using lt',λσ=>?_,by simp;omega⟩,FL⟩
    ·rw[YK];exact ju FL FL h2 c1 e
    ·rw[<-sz σ,G8 i2 i1 r2 M.o,YK];exact⟨λh=>⟨h.1.1,h.2,(eq2 σ h.1.1).mp h.1.2.symm⟩,λh=>⟨⟨h.1,((eq2 σ h.1).mpr h.2.2).symm⟩,h.2.1⟩⟩
   | @k2 f g h1 h2=>
    have ct:=Fa i2 i1 r2 (Ne.symm e);have jo:=Bp M.o i2 i1 r1 (Ne.symm e);have pl2:=jM (f:=f) (g:=g);refine hN (3*(u1.join (u1.rt z.2) (u1.rt z.1)).cnt+(pl++Az f g).length) _ _ (by rw[BA,BA,BH];omega) ⟨_,_,_,_,pl++Az f g,FL,⟨⟨rk7,L7,S8⟩,F8,Ze,jo,?_,M.F,λy hy=>?_,λσ=>?_,by rw[BA];omega⟩,FL⟩
    ·exact wN FL FL i1 h1 h2 (Fo (ev f g h1 h2)).1 c1 e
    ·rcases XS.mp hy with k | k
     ·exact lt' y k
     ·have:=DS (show(y.1,y.2)∈f.ps.zip g.ps from k);rw[<-M.F];exact⟨M.o.ps _ f h1 _ this.1,M.o.ps _ g h2 _ this.2⟩
    ·rw[<-sz σ,G8 i2 i1 r2 M.o];refine⟨λh=>⟨h.1.1,λy hy=>h.2 y (BI _ hy),(eq2 σ h.1.1).mp h.1.2.symm⟩,λh=>⟨⟨h.1,((eq2 σ h.1).mpr h.2.2).symm⟩,λy hy=>?_⟩⟩
     rcases XS.mp hy with k | k
     ·exact h.2.1 y k
     ·refine(Fo (σ:=σ) (f:=f) (g:=g) ?_).2 y k;rw[<-h.1.2 _ f h1,<-h.1.2 _ g h2];exact(eq2 σ h.1).mpr h.2.2
end
end K22
namespace Fn
open PySem WL
inductive Tr where
 | num (v:Int) | nm (x:Str) | stop (x:Str)
 | does (o:Str) (a b:Tr) | fn (x:Str) (b:Tr) | call (a b:Tr) | first (a b:Tr)
 | lt (n:Nat) (xs:Fin n->Str) (ts:Fin n->Tr) (b:Tr)
 | sh0 (c:Str) | sh2 (c:Str) (a b:Tr)
 | chT (a n y:Tr) | chL (a n:Tr) (x y:Str) (c:Tr) | chP (a:Tr) (x y:Str) (b:Tr)
def tt:Tr->T
 | .num v=>.tup [.str "number",.int v]
 | .nm x=>.tup [.str "name",.str x]
 | .stop x=>.tup [.str "stop",.str x]
 | .does o a b=>.tup [.str "does",.str o,tt a,tt b]
 | .fn x b=>.tup [.str "fun",.str x,tt b]
 | .call a b=>.tup [.str "call",tt a,tt b]
 | .first a b=>.tup [.str "first",tt a,tt b]
 | .lt n xs ts b=>.tup [.str "let",.tup ((List.finRange n).map λi=>.tup [.str (xs i),tt (ts i)]),tt b]
 | .sh0 c=>.tup [.str "shape",.str c,.tup []]
 | .sh2 c a b=>.tup [.str "shape",.str c,.tup [tt a,tt b]]
 | .chT a n y=>.tup [.str "choose",tt a,.tup [.tup [.str "No",.tup [],tt n],.tup [.str "Yes",.tup [],tt y]]]
 | .chL a n x y c=>.tup [.str "choose",tt a,.tup [.tup [.str "Nil",.tup [],tt n],.tup [.str "Cons",.tup [.str x,.str y],tt c]]]
 | .chP a x y b=>.tup [.str "choose",tt a,.tup [.tup [.str "Pair",.tup [.str x,.str y],tt b]]]
def bnd {α:Type}(xs:List Str)(ks:List α)(G:Str->Option α):Str->Option α:=λx=>match (xs.zip ks).reverse.lookup x with | some k=>some k | none=>G x
def pH {α β:Type}{f:α->β}{ks:List α}{G:Str->Option α}:bnd xs (ks.map f) (λx=>(G x).map f)=λx=>(bnd xs ks G x).map f:=by
 funext x
 unfold bnd;have e:(xs.zip (ks.map f)).reverse=((xs.zip ks).reverse).map λp=>(p.1,f p.2):=by
  rw[List.zip_map_right,DN];rfl
 have l:∀l:List (Str×α),(l.map λp=>(p.1,f p.2)).lookup x=(l.lookup x).map f:=by
  intro l
  induction l with
  | nil=>rfl
  | cons p l ih=>
   obtain⟨a,b⟩:=p;simp only[List.map_cons,List.lookup_cons]
   cases x==a
   ·exact ih
   ·rfl
 rw[e,l]
 cases (xs.zip ks).reverse.lookup x<;>rfl
abbrev Ev:=Str->Option Kd
abbrev Xb:Kd:=.k0 "num"
abbrev Ua:Kd:=.k0 "truth"
abbrev Xp (p:Kd):Kd:=.k1 "list" p
abbrev zO (p q:Kd):Kd:=.k2 "pair" p q
abbrev vD (p q:Kd):Kd:=.k2 "to" p q
def Ep (o:Str):Str:=if o="<"\/o="=" then "truth" else "num"
abbrev Wh {n:Nat}(xs:Fin n->Str):List Str:=(List.finRange n).map xs
inductive Jd:Tr->Ev->Kd->List (Ev×Tr×Kd)->Prop
 | num {v G}:Jd (.num v) G Xb []
 | nm {x G k}:G x=some k->Jd (.nm x) G k []
 | stop {w G k}:Jd (.stop w) G k []
 | does {o a b G}:Jd (.does o a b) G (.k0 (Ep o)) [(G,a,Xb),(G,b,Xb)]
 | fn {x b G p r}:Jd (.fn x b) G (vD p r) [(bnd [x] [p] G,b,r)]
 | call {a b G k p}:Jd (.call a b) G k [(G,a,vD p k),(G,b,p)]
 | first {a b G k p}:Jd (.first a b) G k [(G,a,p),(G,b,k)]
 | lt {n xs ts b G k} {ks:Fin n->Kd}:Jd (.lt n xs ts b) G k (((List.finRange n).map λi=>(bnd (Wh xs) ((List.finRange n).map ks) G,ts i,ks i))++[(bnd (Wh xs) ((List.finRange n).map ks) G,b,k)])
 | nil {G p}:Jd (.sh0 "Nil") G (Xp p) []
 | no {G}:Jd (.sh0 "No") G Ua []
 | yes {G}:Jd (.sh0 "Yes") G Ua []
 | cons {a b G p}:Jd (.sh2 "Cons" a b) G (Xp p) [(G,a,p),(G,b,Xp p)]
 | pair {a b G p q}:Jd (.sh2 "Pair" a b) G (zO p q) [(G,a,p),(G,b,q)]
 | chT {a n y G k}:Jd (.chT a n y) G k [(G,a,Ua),(G,n,k),(G,y,k)]
 | chL {a n x y c G k p}:Jd (.chL a n x y c) G k [(G,a,Xp p),(G,n,k),(bnd [x,y] [p,Xp p] G,c,k)]
 | chP {a x y b G k p q}:Jd (.chP a x y b) G k [(G,a,zO p q),(bnd [x,y] [p,q] G,b,k)]
mutual
inductive HT:Ev->Tr->Kd->List Kd->Prop
 | mk {G t k cs rs}:Jd t G k cs->HTs cs rs->HT G t k (k::rs)
inductive HTs:List (Ev×Tr×Kd)->List Kd->Prop
 | nil:HTs [] []
 | cons {G t k r cs rs}:HT G t k r->HTs cs rs->HTs ((G,t,k)::cs) (r++rs)
end
def HTs.app:∀{cs ds:List (Ev×Tr×Kd)} {r s:List Kd},HTs cs r->HTs ds s->HTs (cs++ds) (r++s)
 | [],_,_,_,h,q=>by cases h;exact q
 | _::_,_,_,_,h,q=>by
  cases h with
  | cons a b=>rw[YL];exact .cons a (HTs.app b q)
def HTs.split:∀{cs ds:List (Ev×Tr×Kd)} {r:List Kd},HTs (cs++ds) r->∃a b,r=a++b/\HTs cs a/\HTs ds b
 | [],_,r,h=>⟨[],r,FL,.nil,h⟩
 | _::_,_,_,h=>by
  cases h with
  | cons a b=>
   obtain⟨x,y,rfl,h1,h2⟩:=HTs.split b;exact⟨_,y,(YL ..).symm,.cons a h1,h2⟩
def HTs.take {G:Ev}{t:Tr}{k:Kd}{ds:List (Ev×Tr×Kd)}(h:HTs ((G,t,k)::ds) r):∃cs r',Jd t G k cs/\r=k::r'/\HTs (cs++ds) r':=by
 cases h with
 | cons a b=>
  cases a with
  | mk x y=>exact⟨_,_,x,FL,y.app b⟩
def HTs.give {k:Kd}{cs ds:List (Ev×Tr×Kd)}(x:Jd t G k cs)(h:HTs (cs++ds) r):HTs ((G,t,k)::ds) (k::r):=by
 obtain⟨a,b,rfl,h1,h2⟩:=h.split;exact .cons (.mk x h1) h2
abbrev Pl:=(Str->Option Nat)×Tr×Nat
def Pl.ev (σ:Nat->Kd)(p:Pl):Ev×Tr×Kd:=(λx=>(p.1 x).map σ,p.2.1,σ p.2.2)
def kQ (n:Nat)(p:Pl):Prop:=p.2.2<n/\∀x i,p.1 x=some i->i<n
def gj {σ σ':Nat->Kd}(h:kQ n p)(e:∀i,i<n->σ i=σ' i):Pl.ev σ p=Pl.ev σ' p:=by
 unfold Pl.ev;rw[e _ h.1];congr 1
 funext x
 cases q:p.1 x with
 | none=>rfl
 | some i=>show some (σ i)=some (σ' i);rw[e i (h.2 x i q)]
def Tr.bg:Tr->Nat
 | .lt n _ _ _=>n
 | _=>3
structure sX (u:Us)(p:Pl)(u':Us)(ps:List Pl):Prop where
 o:u'.Ok
 c:Uk u' []
 le:u.F.length<=u'.F.length
 big:u'.F.length<=u.F.length+p.2.1.bg
 ok:∀z∈ps,kQ u'.F.length z
 co:∀σ cs,Ts u σ->Jd p.2.1 (Pl.ev σ p).1 (σ p.2.2) cs->∃σ',(∀i,i<u.F.length->σ' i=σ i)/\Ts u' σ'/\ps.map (Pl.ev σ')=cs
 so:∀σ,Ts u' σ->Ts u σ/\Jd p.2.1 (Pl.ev σ p).1 (σ p.2.2) (ps.map (Pl.ev σ))
def Tr.scs:Tr->List (List Str×Tr)
 | .does _ a b=>[([],a),([],b)]
 | .fn x b=>[([x],b)]
 | .call a b=>[([],a),([],b)]
 | .first a b=>[([],a),([],b)]
 | .lt _ xs ts b=>((List.finRange _).map λi=>(Wh xs,ts i))++[(Wh xs,b)]
 | .sh2 _ a b=>[([],a),([],b)]
 | .chT a n y=>[([],a),([],n),([],y)]
 | .chL a n x y c=>[([],a),([],n),([x,y],c)]
 | .chP a x y b=>[([],a),([x,y],b)]
 | _=>[]
abbrev As:=List (List Nat×Nat)
def zK (t:Tr)(as:As)(σ:Nat->Kd)(G:Ev):List (Ev×Tr×Kd):=(t.scs.zip as).map λz=>(bnd z.1.1 (z.2.1.map σ) G,z.1.2,σ z.2.2)
structure M8 (u u':Us)(P:(Nat->Kd)->Prop):Prop where
 o:u'.Ok
 c:Uk u' []
 le:u.F.length<=u'.F.length
 sol:∀σ,Ts u' σ↔(Ts u σ/\P σ)
structure Xd (u:Us)(t:Tr)(s:Nat)(u':Us)(as:As):Prop where
 o:u'.Ok
 c:Uk u' []
 le:u.F.length<=u'.F.length
 big:u'.F.length<=u.F.length+t.bg
 n:as.map (λz=>z.1.length)=t.scs.map (λz=>z.1.length)
 ok:∀z∈as,z.2<u'.F.length/\∀i∈z.1,i<u'.F.length
 co:∀σ G cs,Ts u σ->Jd t G (σ s) cs->∃σ',(∀i,i<u.F.length->σ' i=σ i)/\Ts u' σ'/\zK t as σ' G=cs
 so:∀σ G,Ts u' σ->Ts u σ/\Jd t G (σ s) (zK t as σ G)
def ov (n:Nat)(σ:Nat->Kd)(ν:Nat->Kd):Nat->Kd:=λi=>if i<n then σ i else ν (i-n)
section
variable {u u1 u2:Us}{P:(Nat->Kd)->Prop}{σ σ' ν:Nat->Kd}{s n:Nat}{f:Fm}{t:Tr}{as:As}
def X0 {i:Nat}(h:i<n):ov n σ ν i=σ i:=XY h
def Wu:ov n σ ν n=ν 0:=by unfold ov;rw[XX (BL _),DL]
def Vy {k:Nat}:ov n σ ν (n+k)=ν k:=by unfold ov;rw[XX (by omega)];congr 1;omega
def Uh (o:u.Ok)(h:Ts u σ)(e:∀i,i<u.F.length->σ' i=σ i):Ts u σ':=by
 refine⟨λx hx=>by rw[e x hx,e _ (o.lt x hx)];exact h.1 x hx,λx f hx=>?_⟩;rw[e x (BB.mp hx).1,h.2 x f hx];exact(Kc λp hp=>e p (o.ps x f hx p hp)).symm
def M8.refl (o:u.Ok)(c:Uk u []):M8 u u λ_=>True:=⟨o,c,XE _,λσ=>⟨λh=>⟨h,trivial⟩,λh=>h.1⟩⟩
def M8.new (e:M8 u u1 P):M8 u (u1.add none) P:=
 ⟨V3 e.o (λg h=>by cases h),Uf e.o e.c,by rw[Z7];exact ER e.le,λσ=>by
  rw[Vo e.o,e.sol];exact⟨λh=>h.1,λh=>⟨h,λg z=>by cases z⟩⟩⟩
def M8.known (e:M8 u u1 P)(hf:∀p∈f.ps,p<u1.F.length):M8 u (u1.add (some f)) λσ=>P σ/\σ u1.F.length=f.ev σ:=
 ⟨V3 e.o (λg h=>by cases h;exact hf),Uf e.o e.c,by rw[Z7];exact ER e.le,λσ=>by
  rw[Vo e.o,e.sol,and_assoc];exact⟨λh=>⟨h.1,h.2.1,h.2.2 f FL⟩,λh=>⟨h.1,h.2.1,λg z=>by cases z;exact h.2.2⟩⟩⟩
structure Ak (u:Us)(s:Nat)(f:Fm)(u2:Us):Prop where
 o:u2.Ok
 c:Uk u2 []
 F:u2.F=u.F++[some f]
 sol:∀σ,Ts u2 σ↔(Ts u σ/\σ u.F.length=f.ev σ/\σ s=σ u.F.length)
def Ak.len (a:Ak u s f u2):u2.F.length=u.F.length+1:=by rw[a.F,BA];rfl
def M8.ak (e:M8 u u1 P)(a:Ak u1 s f u2):M8 u u2 λσ=>P σ/\σ u1.F.length=f.ev σ/\σ s=σ u1.F.length:=
 ⟨a.o,a.c,by rw[a.len];exact ER e.le,λσ=>by rw[a.sol,e.sol,and_assoc]⟩
def Wq {B:Nat}(hB:B<=t.bg)(e:M8 u u' P)(o:u.Ok)(big:u'.F.length<=u.F.length+B)(n:as.map (λz=>z.1.length)=t.scs.map (λz=>z.1.length))(ok:∀z∈as,z.2<u'.F.length/\∀i∈z.1,i<u'.F.length)
  (co:∀σ G cs,Jd t G (σ s) cs->∃ν,P (ov u.F.length σ ν)/\zK t as (ov u.F.length σ ν) G=cs) (so:∀σ G,P σ->Jd t G (σ s) (zK t as σ G)):Xd u t s u' as:=
 ⟨e.o,e.c,e.le,XN big (Nat.add_le_add_left hB _),n,ok,λσ G cs h r=>by
  obtain⟨ν,h1,h2⟩:=co σ G cs r;exact⟨_,λi hi=>X0 hi,(e.sol _).mpr ⟨Uh o h λi hi=>X0 hi,h1⟩,h2⟩,λσ G h=>by
  obtain⟨h1,h2⟩:=(e.sol σ).mp h;exact⟨h1,so σ G h2⟩⟩
def J1 {α:Type}{ks:List α}{G:Str->Option α}:bnd [] ks G=G:=by funext x;rfl
variable {v:Int}{x y w oo:Str}{a b c d:Tr}
def pL (o:u.Ok)(hs:s<u.F.length)(k:Ak u s (.f0 "num") u2)(cl:Uk u []):Xd u (.num v) s u2 []:=by
 refine Wq (B:=3) (XE 3) ((M8.refl o cl).ak k) o (by rw[k.len];omega) FL (λz h=>by cases h) (λσ G cs r=>?_) λσ G h=>?_
 ·generalize hk:σ s=kk at r
  cases r
  exact⟨λ_=>Xb,⟨trivial,by rw[Wu];rfl,by rw[X0 hs,Wu,hk]⟩,FL⟩
 ·rw[h.2.2,h.2.1];exact .num
def sP (o:u.Ok)(cl:Uk u []):Xd u (.stop w) s u []:=by
 refine Wq (B:=3) (XE 3) (M8.refl o cl) o (by omega) FL (λz h=>by cases h) (λσ G cs r=>?_) λσ G h=>.stop;generalize hk:σ s=kk at r
 cases r
 exact⟨λ_=>Xb,trivial,FL⟩
def wT {cc:Str}(hc:cc="No"\/cc="Yes")(o:u.Ok)(hs:s<u.F.length)(k:Ak u s (.f0 "truth") u2)(cl:Uk u []):Xd u (.sh0 cc) s u2 []:=by
 refine Wq (B:=3) (XE 3) ((M8.refl o cl).ak k) o (by rw[k.len];omega) FL (λz h=>by cases h) (λσ G cs r=>?_) λσ G h=>?_
 ·generalize hk:σ s=kk at r;have e:kk=Ua/\cs=[]:=by
   rcases hc with rfl | rfl
   ·cases r with
    | no=>exact⟨FL,FL⟩
   ·cases r with
    | yes=>exact⟨FL,FL⟩
  obtain⟨rfl,rfl⟩:=e;exact⟨λ_=>Ua,⟨trivial,by rw[Wu];rfl,by rw[X0 hs,Wu,hk]⟩,FL⟩
 ·rw[h.2.2,h.2.1]
  rcases hc with rfl | rfl
  ·exact .no
  ·exact .yes
def sR (o:u.Ok)(hs:s<u.F.length)(k:Ak u s (.f0 (Ep oo)) u1)(cl:Uk u []):Xd u (.does oo a b) s (u1.add (some (.f0 "num"))) [([],u1.F.length),([],u1.F.length)]:=by
 have kl:=k.len;refine Wq (B:=3) (XE 3) (((M8.refl o cl).ak k).known (f:=.f0 "num") (λp h=>by cases h)) o (by rw[Z7];omega) FL ?_ (λσ G cs r=>?_) λσ G h=>?_
 ·intro z hz;rw[Z7];simp only[ZM,ZN,or_false] at hz
  rcases hz with rfl | rfl<;>exact⟨BJ _,λi h=>by cases h⟩
 ·generalize hk:σ s=kk at r
  cases r
  refine⟨λi=>if i=0 then .k0 (Ep oo) else Xb,⟨⟨trivial,by rw[Wu];rfl,by rw[X0 hs,Wu,hk];rfl⟩,by rw[kl,Vy];rfl⟩,?_⟩;show[(bnd [] _ G,a,_),(bnd [] _ G,b,_)]=_;simp only[J1];rw[kl,Vy];rfl
 ·rw[h.1.2.2,h.1.2.1];show Jd _ _ _ [(bnd [] _ G,a,_),(bnd [] _ G,b,_)];simp only[J1];rw[h.2];exact .does
def wU (o:u.Ok)(hs:s<u.F.length)(cl:Uk u []):Xd u (.first a b) s (u.add none) [([],u.F.length),([],s)]:=by
 refine Wq (B:=3) (XE 3) (M8.refl o cl).new o (by rw[Z7];omega) FL ?_ (λσ G cs r=>?_) λσ G h=>?_
 ·intro z hz;rw[Z7];simp only[ZM,ZN,or_false] at hz
  rcases hz with rfl | rfl
  ·exact⟨BJ _,λi h=>by cases h⟩
  ·exact⟨by show s<_;omega,λi h=>by cases h⟩
 ·generalize hk:σ s=kk at r
  cases r with
  | @first _ _ _ _ p=>
   refine⟨λ_=>p,trivial,?_⟩;show[(bnd [] _ G,a,_),(bnd [] _ G,b,_)]=_;simp only[J1];rw[Wu,X0 hs,hk]
 ·show Jd _ _ _ [(bnd [] _ G,a,_),(bnd [] _ G,b,_)];simp only[J1];exact .first
def sU (o:u.Ok)(hs:s<u.F.length)(cl:Uk u []):Xd u (.call a b) s ((u.add none).add (some (.f2 "to" u.F.length s))) [([],u.F.length+1),([],u.F.length)]:=by
 have l1:(u.add none).F.length=u.F.length+1:=Z7;refine Wq (B:=3) (Nat.le_refl 3) ((M8.refl o cl).new.known (f:=.f2 "to" u.F.length s) (λp h=>by simp only[Fm.ps,List.mem_cons,List.not_mem_nil,or_false] at h;rcases h with rfl | rfl<;>omega)) o (by rw[Z7,l1];omega) FL ?_ (λσ G cs r=>?_) λσ G h=>?_
 ·intro z hz;rw[Z7,l1];simp only[ZM,ZN,or_false] at hz
  rcases hz with rfl | rfl
  ·exact⟨by show u.F.length+1<_;omega,λi h=>by cases h⟩
  ·exact⟨by show u.F.length<_;omega,λi h=>by cases h⟩
 ·generalize hk:σ s=kk at r
  cases r with
  | @call _ _ _ _ p=>
   refine⟨λi=>if i=0 then p else vD p kk,⟨trivial,?_⟩,?_⟩
   ·rw[l1,Vy];show vD p kk=.k2 "to" (ov _ _ _ _) (ov _ _ _ s);rw[Wu,X0 hs,hk];rfl
   ·show[(bnd [] _ G,a,_),(bnd [] _ G,b,_)]=_;simp only[J1];rw[Wu,Vy];rfl
 ·show Jd _ _ _ [(bnd [] _ G,a,σ (u.F.length+1)),(bnd [] _ G,b,_)];have e:=h.2;rw[l1] at e;simp only[J1];rw[e];exact .call
def kJ (o:u.Ok)(hs:s<u.F.length)(cl:Uk u [])(k:Ak ((u.add none).add none) s (.f2 "to" u.F.length (u.F.length+1)) u2):Xd u (.fn x b) s u2 [([u.F.length],u.F.length+1)]:=by
 have l1:(u.add none).F.length=u.F.length+1:=Z7;have l2:((u.add none).add none).F.length=u.F.length+2:=by rw[Z7,l1]
 have kl:=k.len;refine Wq (B:=3) (XE 3) ((M8.refl o cl).new.new.ak k) o (by omega) FL ?_ (λσ G cs r=>?_) λσ G h=>?_
 ·intro z hz;rw[kl,l2,XQ.mp hz];exact⟨by show u.F.length+1<_;omega,λi h=>by rw[XQ.mp h];omega⟩
 ·generalize hk:σ s=kk at r
  cases r with
  | @fn _ _ _ p rr=>
   refine⟨λi=>if i=0 then p else if i=1 then rr else vD p rr,⟨trivial,?_,?_⟩,?_⟩
   ·rw[l2,Vy];show vD p rr=.k2 "to" (ov _ _ _ _) (ov _ _ _ _);rw[Wu,Vy];rfl
   ·rw[l2,Vy,X0 hs,hk];rfl
   ·show[(bnd [x] [ov _ _ _ _] G,b,ov _ _ _ _)]=_;rw[Wu,Vy];rfl
 ·rw[h.2.2,h.2.1];exact .fn
def pM (o:u.Ok)(hs:s<u.F.length)(cl:Uk u [])(k:Ak (u.add none) s (.f1 "list" u.F.length) u2):Xd u (.sh0 "Nil") s u2 []:=by
 have l1:(u.add none).F.length=u.F.length+1:=Z7;have kl:=k.len;refine Wq (B:=3) (XE 3) ((M8.refl o cl).new.ak k) o (by omega) FL (λz h=>by cases h) (λσ G cs r=>?_) λσ G h=>?_
 ·generalize hk:σ s=kk at r
  cases r with
  | @nil _ p=>
   refine⟨λi=>if i=0 then p else Xp p,⟨trivial,?_,?_⟩,FL⟩
   ·rw[l1,Vy];show Xp p=.k1 "list" (ov _ _ _ _);rw[Wu];rfl
   ·rw[l1,Vy,X0 hs,hk];rfl
 ·rw[h.2.2,h.2.1];exact .nil
def sT (o:u.Ok)(hs:s<u.F.length)(cl:Uk u [])(k:Ak (u.add none) s (.f1 "list" u.F.length) u2):Xd u (.sh2 "Cons" a b) s u2 [([],u.F.length),([],s)]:=by
 have l1:(u.add none).F.length=u.F.length+1:=Z7;have kl:=k.len;refine Wq (B:=3) (XE 3) ((M8.refl o cl).new.ak k) o (by omega) FL ?_ (λσ G cs r=>?_) λσ G h=>?_
 ·intro z hz;rw[kl,l1];simp only[ZM,ZN,or_false] at hz
  rcases hz with rfl | rfl
  ·exact⟨by show u.F.length<_;omega,λi h=>by cases h⟩
  ·exact⟨by show s<_;omega,λi h=>by cases h⟩
 ·generalize hk:σ s=kk at r
  cases r with
  | @cons _ _ _ p=>
   refine⟨λi=>if i=0 then p else Xp p,⟨trivial,?_,?_⟩,?_⟩
   ·rw[l1,Vy];show Xp p=.k1 "list" (ov _ _ _ _);rw[Wu];rfl
   ·rw[l1,Vy,X0 hs,hk];rfl
   ·show[(bnd [] _ G,a,_),(bnd [] _ G,b,_)]=_;simp only[J1];rw[Wu,X0 hs,hk];rfl
 ·show Jd _ _ _ [(bnd [] _ G,a,_),(bnd [] _ G,b,_)];simp only[J1];rw[h.2.2,h.2.1];exact .cons
def sQ (o:u.Ok)(hs:s<u.F.length)(cl:Uk u [])(k:Ak ((u.add none).add none) s (.f2 "pair" u.F.length (u.F.length+1)) u2):Xd u (.sh2 "Pair" a b) s u2 [([],u.F.length),([],u.F.length+1)]:=by
 have l1:(u.add none).F.length=u.F.length+1:=Z7;have l2:((u.add none).add none).F.length=u.F.length+2:=by rw[Z7,l1]
 have kl:=k.len;refine Wq (B:=3) (XE 3) ((M8.refl o cl).new.new.ak k) o (by omega) FL ?_ (λσ G cs r=>?_) λσ G h=>?_
 ·intro z hz;rw[kl,l2];simp only[ZM,ZN,or_false] at hz
  rcases hz with rfl | rfl
  ·exact⟨by show u.F.length<_;omega,λi h=>by cases h⟩
  ·exact⟨by show u.F.length+1<_;omega,λi h=>by cases h⟩
 ·generalize hk:σ s=kk at r
  cases r with
  | @pair _ _ _ p q=>
   refine⟨λi=>if i=0 then p else if i=1 then q else zO p q,⟨trivial,?_,?_⟩,?_⟩
   ·rw[l2,Vy];show zO p q=.k2 "pair" (ov _ _ _ _) (ov _ _ _ _);rw[Wu,Vy];rfl
   ·rw[l2,Vy,X0 hs,hk];rfl
   ·show[(bnd [] _ G,a,_),(bnd [] _ G,b,_)]=_;simp only[J1];rw[Wu,Vy];rfl
 ·show Jd _ _ _ [(bnd [] _ G,a,_),(bnd [] _ G,b,_)];simp only[J1];rw[h.2.2,h.2.1];exact .pair
def pN (o:u.Ok)(hs:s<u.F.length)(cl:Uk u []):Xd u (.chT a b c) s (u.add (some (.f0 "truth"))) [([],u.F.length),([],s),([],s)]:=by
 refine Wq (B:=3) (XE 3) ((M8.refl o cl).known (f:=.f0 "truth") (λp h=>by cases h)) o (by rw[Z7];omega) FL ?_ (λσ G cs r=>?_) λσ G h=>?_
 ·intro z hz;rw[Z7];simp only[ZM,ZN,or_false] at hz
  rcases hz with rfl | rfl | rfl
  ·exact⟨by show u.F.length<_;omega,λi h=>by cases h⟩
  ·exact⟨by show s<_;omega,λi h=>by cases h⟩
  ·exact⟨by show s<_;omega,λi h=>by cases h⟩
 ·generalize hk:σ s=kk at r
  cases r
  refine⟨λ_=>Ua,⟨trivial,by rw[Wu];rfl⟩,?_⟩;show[(bnd [] _ G,a,_),(bnd [] _ G,b,_),(bnd [] _ G,c,_)]=_;simp only[J1];rw[Wu,X0 hs,hk]
 ·show Jd _ _ _ [(bnd [] _ G,a,_),(bnd [] _ G,b,_),(bnd [] _ G,c,_)];simp only[J1];rw[h.2];exact .chT
def pP (o:u.Ok)(hs:s<u.F.length)(cl:Uk u []):Xd u (.chL a b x y c) s ((u.add none).add (some (.f1 "list" u.F.length))) [([],u.F.length+1),([],s),([u.F.length,u.F.length+1],s)]:=by
 have l1:(u.add none).F.length=u.F.length+1:=Z7;refine Wq (B:=3) (XE 3) ((M8.refl o cl).new.known (f:=.f1 "list" u.F.length) (λp h=>by rw[XQ.mp h];omega)) o (by rw[Z7,l1];omega) FL ?_ (λσ G cs r=>?_) λσ G h=>?_
 ·intro z hz;rw[Z7,l1];simp only[ZM,ZN,or_false] at hz
  rcases hz with rfl | rfl | rfl
  ·exact⟨by show u.F.length+1<_;omega,λi h=>by cases h⟩
  ·exact⟨by show s<_;omega,λi h=>by cases h⟩
  ·exact⟨by show s<_;omega,λi h=>by simp only[ZM,ZN,or_false] at h;omega⟩
 ·generalize hk:σ s=kk at r
  cases r with
  | @chL _ _ _ _ _ _ _ p=>
   refine⟨λi=>if i=0 then p else Xp p,⟨trivial,?_⟩,?_⟩
   ·rw[l1,Vy];show Xp p=.k1 "list" (ov _ _ _ _);rw[Wu];rfl
   ·show[(bnd [] _ G,a,_),(bnd [] _ G,b,_),(bnd [x,y] [ov _ _ _ _,ov _ _ _ _] G,c,_)]=_;simp only[J1];rw[Wu,Vy,X0 hs,hk];rfl
 ·show Jd _ _ _ [(bnd [] _ G,a,σ (u.F.length+1)),(bnd [] _ G,b,_),(bnd [x,y] [σ u.F.length,σ (u.F.length+1)] G,c,_)];have e:=h.2;rw[l1] at e;simp only[J1];rw[e];exact .chL
def pO (o:u.Ok)(hs:s<u.F.length)(cl:Uk u []):Xd u (.chP a x y b) s (((u.add none).add none).add (some (.f2 "pair" u.F.length (u.F.length+1)))) [([],u.F.length+2),([u.F.length,u.F.length+1],s)]:=by
 have l1:(u.add none).F.length=u.F.length+1:=Z7;have l2:((u.add none).add none).F.length=u.F.length+2:=by rw[Z7,l1]
 refine Wq (B:=3) (Nat.le_refl 3) ((M8.refl o cl).new.new.known (f:=.f2 "pair" u.F.length (u.F.length+1)) (λp h=>by simp only[Fm.ps,List.mem_cons,List.not_mem_nil,or_false] at h;omega)) o (by rw[Z7,l2];omega) FL ?_ (λσ G cs r=>?_) λσ G h=>?_
 ·intro z hz;rw[Z7,l2];simp only[ZM,ZN,or_false] at hz
  rcases hz with rfl | rfl
  ·exact⟨by show u.F.length+2<_;omega,λi h=>by cases h⟩
  ·exact⟨by show s<_;omega,λi h=>by simp only[ZM,ZN,or_false] at h;omega⟩
 ·generalize hk:σ s=kk at r
  cases r with
  | @chP _ _ _ _ _ _ p q=>
   refine⟨λi=>if i=0 then p else if i=1 then q else zO p q,⟨trivial,?_⟩,?_⟩
   ·rw[l2,Vy];show zO p q=.k2 "pair" (ov _ _ _ _) (ov _ _ _ _);rw[Wu,Vy];rfl
   ·show[(bnd [] _ G,a,_),(bnd [x,y] [ov _ _ _ _,ov _ _ _ _] G,b,_)]=_;simp only[J1];rw[Wu,Vy,Vy,X0 hs,hk];rfl
 ·show Jd _ _ _ [(bnd [] _ G,a,σ (u.F.length+2)),(bnd [x,y] [σ u.F.length,σ (u.F.length+1)] G,b,_)];have e:=h.2;rw[l2] at e;simp only[J1];rw[e];exact .chP
def Us.addN (u:Us):Nat->Us
 | 0=>u
 | n+1=>(u.addN n).add none
def Og:∀n,(u.addN n).F.length=u.F.length+n
 | 0=>rfl
 | n+1=>by show((u.addN n).add none).F.length=_;rw[Z7,Og n];omega
def M8.newN (e:M8 u u1 P):∀n,M8 u (u1.addN n) P
 | 0=>e
 | n+1=>(M8.newN e n).new
abbrev T9 (u:Us)(n:Nat):List Nat:=(List.finRange n).map λi=>u.F.length+i.val
def jX:zK (.lt m xs ts b) (((T9 u m).map λo=>(T9 u m,o))++[(T9 u m,s)]) σ G=
  ((List.finRange m).map λi=>(bnd (Wh xs) ((List.finRange m).map λi=>σ (u.F.length+i.val)) G,ts i,σ (u.F.length+i.val)))++[(bnd (Wh xs) ((List.finRange m).map λi=>σ (u.F.length+i.val)) G,b,σ s)]:=by
 have e:(T9 u m).map σ=(List.finRange m).map λi=>σ (u.F.length+i.val):=by rw[YE];rfl
 unfold zK Tr.scs;rw[List.zip_append (by rw[XI,XI,XI]),XL,YE,List.zip_map',YE,<-e];rfl
def kI {m:Nat}{xs:Fin m->Str}{ts:Fin m->Tr}(hm:m<=10)(o:u.Ok)(hs:s<u.F.length)(cl:Uk u []):Xd u (.lt m xs ts b) s (u.addN m) (((T9 u m).map λo=>(T9 u m,o))++[(T9 u m,s)]):=by
 have lo:∀i∈T9 u m,i<(u.addN m).F.length:=λi hi=>by
  obtain⟨j,_,rfl⟩:=XR.mp hi;rw[Og];have:=j.isLt;omega
 refine Wq (B:=m) (Nat.le_refl m) ((M8.refl o cl).newN m) o (by rw[Og];omega) (by simp[Tr.scs,Function.comp_def]) ?_ (λσ G cs r=>?_) λσ G h=>?_
 ·intro z hz
  rcases XS.mp hz with hz | hz
  ·obtain⟨i,hi,rfl⟩:=XR.mp hz;exact⟨lo i hi,lo⟩
  ·rw[XQ.mp hz];exact⟨by show s<_;rw[Og];omega,lo⟩
 ·generalize hk:σ s=kk at r
  cases r with
  | @lt _ _ _ _ _ _ ks=>
   refine⟨λi=>if h:i<m then ks ⟨i,h⟩ else Xb,trivial,?_⟩;rw[jX,X0 hs,hk];have e:∀i:Fin m,ov u.F.length σ (λi=>if h:i<m then ks ⟨i,h⟩ else Xb) (u.F.length+i.val)=ks i:=λi=>by
    rw[Vy,dif_pos i.isLt]
   simp only[e]
 ·rw[jX];exact .lt (ks:=λi=>σ (u.F.length+i.val))
end
end Fn
namespace K22
open PySem PySem.Spec PyProof.Rows L2 WL Fn
abbrev xy (z:List Nat×Nat):T:=.tup [.tup (z.1.map nT),nT z.2]
section
variable {A:Sd}{C C':Hw}{u:Us}{Q:WK}{χ:WX}{n x a b k s:Nat}{o:O}{σ σ0:Nat->Kd}{τ:Sw}{f:Fm}{t:Tr}
def Rp (S:Sl A C1 u1)(F:Fx A C C1)(h:C1 p=none):C p=none:=by
 obtain⟨_,_,S⟩:=S
 cases e:C p with
 | none=>rfl
 | some w=>
  by_cases c:p=A.f
  ·rw[c,S.f] at h;cases h
  ·by_cases d:p=A.l
   ·rw[d,S.l] at h;cases h
   ·rw[F p w c d e] at h;cases h
def Sl.new (S:Sl A C u)(h:C p=none):Sl A (up C p o) u:=by
 obtain⟨rk,L,S⟩:=S;exact⟨rk,L,S.new h⟩
def Uv (S:Sl A C1 u1)(F:Fx A C C1)(h:C1 p=none):Fx A C (up C1 p o):=λc w m1 m2 e=>by
 have q:=F c w m1 m2 e;rw[Zg λz=>by rw[z,h] at q;cases q];exact q
def Nk {X:WE}(S:Sl A C u)(o:u.Ok)(hn:u.F.length<=8000)(h0:τ[0]?=some (some (.ref A.r)))(hX:∀{C:Hw} {Q:WK},Q (xj (some f)) C->X τ C Q χ)
  (q:∀C',Sl A C' (u.add (some f))->Fx A C C'->Q (nT u.F.length) C'):Kh (Yg pr (n+1)) [("Slots",7)] "known" (Yb 0) (Zz X Zv) τ C Q χ:=by
 obtain⟨rk,L,S0⟩:=id S;refine⟨_,h0,_,_,_,_,FL,S0.r,FL,FL,hX ?_⟩;dsimp only[Zv];exact jK (n:=n) S o (by omega) q
def Jt (S:Sl A C u)(o:u.Ok)(hn:u.F.length<=8000)(h0:τ[0]?=some (some (.ref A.r)))(q:∀C',Sl A C' (u.add none)->Fx A C C'->Q (nT u.F.length) C'):
  Kh (Yg pr (n+2)) [("Slots",6)] "unknown" (Yb 0) Zv τ C Q χ:=by
 obtain⟨rk,L,S0⟩:=id S;exact⟨_,h0,_,_,_,_,FL,S0.r,FL,FL,Dd (n:=n) S o (by omega) q⟩
def jc {X:WE}(S:Sl A C u)(o:u.Ok)(cl:Uk u [])(hs:s<u.F.length)(hf:∀p∈f.ps,p<u.F.length)(w:∃σ0,Ts u σ0/\σ0 s=f.ev σ0)(hn:u.F.length<=8000)
  (h0:τ[0]?=some (some (.ref A.r))) (hk:τ[k]?=some (some (nT s))) (hX:∀{C:Hw} {Q:WK},Q (xj (some f)) C->X τ C Q χ) (q:∀C' u2,Sl A C' u2->Fx A C C'->Ak u s f u2->Q .non C'):
  Kh (Yg pr (n+2)) [("Slots",10)] "make_alike" (Yb 0) (Zz (Yb k) (Zz (Kh (Yg pr (n+2)) [("Slots",7)] "known" (Yb 0) (Zz X Zv)) Zv)) τ C Q χ:=by
 obtain⟨rk,L,S0⟩:=id S;refine⟨_,h0,_,_,_,_,FL,S0.r,FL,FL,_,hk,Nk (n:=n+1) S o hn h0 hX λC1 S1 F1=>?_⟩;dsimp only[Zv];obtain⟨σ0,w1,w2⟩:=w;have o1:(u.add (some f)).Ok:=V3 o (λg h=>by cases h;exact hf);have ag:∀i,i<u.F.length->ov u.F.length σ0 (λ_=>f.ev σ0) i=σ0 i:=λi hi=>X0 hi;have fe:f.ev (ov u.F.length σ0 λ_=>f.ev σ0)=f.ev σ0:=Kc λp hp=>ag p (hf p hp);refine Ll (n:=n) (σ0:=ov u.F.length σ0 λ_=>f.ev σ0) S1 o1 (Uf o cl) (by rw[Z7];omega) (by rw[Z7];omega) ((Vo o).mpr ⟨Uh o w1 ag,λg h=>by cases h;rw[Wu,fe]⟩) (by rw[ag s hs,Wu,w2]) (by rw[Z7];omega)
  λC2 u2 S2 F2 o2 c2 e2 sol2=>q C2 u2 S2 (F1.trans F2) ⟨o2,c2,e2,λσ=>?_⟩
 rw[sol2,Vo o,and_assoc];exact⟨λh=>⟨h.1,h.2.1 f FL,h.2.2⟩,λh=>⟨h.1,λg z=>by cases z;exact h.2.1,h.2.2⟩⟩
def Jv (q:∀C' p u' as,Sl A C' u'->Fx A C C'->C p=none->C' p=some (.lst (as.map xy))->Xd u t s u' as->Q (.ref p) C')(S1:Sl A C1 u1)(F1:Fx A C C1)(h:Xd u t s u1 as)
  (p:WP) (hp:C1 p=none):Q (.ref p) (up C1 p (.lst (as.map xy))):=q _ p u1 as (S1.new hp) (Uv S1 F1 hp) (Rp S1 F1 hp) Ze h
def Jj {m:Nat}(h:m<=100000):m<=sizeLine:=XN h (by decide)
def Bd (S:Sl A C u)(o:u.Ok)(cl:Uk u [])(hs:s<u.F.length)(hn:u.F.length<=7000)(w:∃σ0 G cs,Ts u σ0/\Jd (.does oo t1 t2) G (σ0 s) cs)
  (q:∀C' p u' as,Sl A C' u'->Fx A C C'->C p=none->C' p=some (.lst (as.map xy))->Xd u (.does oo t1 t2) s u' as->Q (.ref p) C'):Yg pr (n+3) Bx [.ref A.r,.str oo,nT s] C Q χ:=by
 refine Co FL ?_;unfold Sq Qe;have key:∀(v:Str),v=Ep oo->∀D:We,D.rt=Q->D.xc=χ->(Xy (Ln (Kh (Yg pr (n+2)) [("Slots",10)] "make_alike" (Yb 0) (Zz (Yb 2) (Zz (Kh (Yg pr (n+2)) [("Slots",7)] "known" (Yb 0) (Zz (Ik (Zz (Yb 3) Zv)) Zv)) Zv))))
   (Xy (Lo (Kh (Yg pr (n+2)) [("Slots",7)] "known" (Yb 0) (Zz (Ik (Zz (eC (.str "num")) Zv)) Zv)) (Eu 4)) (Be (sj (Zz (Ik (Zz (Ik Zv) (Zz (Yb 4) Zv))) (Zz (Ik (Zz (Ik Zv) (Zz (Yb 4) Zv))) Zv)))))) D
   [some (.ref A.r),some (.str oo),some (nT s),some (.str v),none] C:=by
  rintro v rfl D rfl rfl;obtain⟨σ0,G,cs,w1,w2⟩:=w;have we:σ0 s=(Fm.f0 (Ep oo)).ev σ0:=by generalize σ0 s=kk at w2;cases w2;rfl
  refine jc (n:=n) (s:=s) (f:=.f0 (Ep oo)) S o cl hs (λp h=>by cases h) ⟨σ0,w1,we⟩ (by omega) FL FL (λ{C Q} h=>⟨_,FL,Jj (by show 1<=_;omega),h⟩) λC1 u1 S1 F1 ak=>?_;have l1:=ak.len;refine Nk (n:=n+1) (f:=.f0 "num") S1 ak.o (by omega) FL (λ{C Q} h=>⟨Jj (by show 1<=_;omega),h⟩) λC2 S2 F2=>?_;refine⟨Jj (by show 0<=_;omega),_,FL,Jj (by show 2<=_;omega),Jj (by show 0<=_;omega),_,FL,Jj (by show 2<=_;omega),Jj (by show 2<=_;omega),λp hp=>?_⟩;exact Jv q S2 (F1.trans F2) (sR o hs ak cl) p hp
 by_cases c1:oo="<"
 ·exact⟨_,FL,Zu (v:=true) (by rw[c1];exact XU _) ⟨_,FL,Z6 (Z6 (key _ (by unfold Ep;rw[XY (.inl c1)]) _ FL FL))⟩⟩
 ·refine⟨_,FL,Zu (v:=false) (beq_eq_false_iff_ne.mpr c1) ⟨_,FL,Zl ?_⟩⟩;by_cases c2:oo="="
  ·exact⟨_,FL,Zu (v:=true) (by rw[c2];exact XU _) ⟨_,FL,Z6 (key _ (by unfold Ep;rw[XY (.inr c2)]) _ FL FL)⟩⟩
  ·exact⟨_,FL,Zu (v:=false) (beq_eq_false_iff_ne.mpr c2) ⟨_,FL,Zl (key _ (by unfold Ep;rw[XX (by rintro(h | h);exact c1 h;exact c2 h)]) _ FL FL)⟩⟩
def uv (S:Sl A C u)(o:u.Ok)(cl:Uk u [])(hs:s<u.F.length)(hn:u.F.length<=7000)(w:∃σ0 G cs,Ts u σ0/\Jd (.sh0 c) G (σ0 s) cs)
  (q:∀C' p u' as,Sl A C' u'->Fx A C C'->C p=none->C' p=some (.lst (as.map xy))->Xd u (.sh0 c) s u' as->Q (.ref p) C'):Yg pr (n+3) N8 [.ref A.r,.str c,nT s] C Q χ:=by
 refine Nx FL ?_;unfold Vi Vp;obtain⟨σ0,G,cs,w1,w2⟩:=w;have fK:∀cc:Str,(cc="No"\/cc="Yes")->c=cc->σ0 s=Ua->∀D:We,D.rt=Q->D.xc=χ->∀r:WS,Xy (Ln (Kh (Yg pr (n+2)) [("Slots",10)] "make_alike" (Yb 0) (Zz (Yb 2) (Zz (Kh (Yg pr (n+2)) [("Slots",7)] "known" (Yb 0) (Zz (Ik (Zz (eC (.str "truth")) Zv)) Zv)) Zv))))
   (Be (sj Zv)) D [some (.ref A.r),some (.str c),some (nT s),none,none] C:=by
  rintro cc hc rfl hk D rfl rfl r;refine jc (n:=n) (s:=s) (f:=.f0 "truth") S o cl hs (λp h=>by cases h) ⟨σ0,w1,hk⟩ (by omega) FL FL (λ{C Q} h=>⟨Jj (by show 1<=_;omega),h⟩) λC1 u1 S1 F1 ak=>?_;exact⟨Jj (by show 0<=_;omega),λp hp=>Jv q S1 F1 (wT hc o hs ak cl) p hp⟩
 generalize hk:σ0 s=kk at w2
 cases w2 with
 | no=>exact⟨_,FL,Zu (v:=true) (by decide+kernel) ⟨_,FL,Z6 (Z6 (fK "No" (.inl FL) FL hk _ FL FL Xl))⟩⟩
 | yes=>exact⟨_,FL,Zu (v:=false) (by decide+kernel) ⟨_,FL,Zl ⟨_,FL,Zu (v:=true) (by decide+kernel) ⟨_,FL,Z6 (fK "Yes" (.inr FL) FL hk _ FL FL Xl)⟩⟩⟩⟩
 | @nil _ p0=>
  refine⟨_,FL,Zu (v:=false) (by decide+kernel) ⟨_,FL,Zl ⟨_,FL,Zu (v:=false) (by decide+kernel) ⟨_,FL,Zl ?_⟩⟩⟩⟩;refine Jt (n:=n) S o (by omega) FL λC1 S1 F1=>?_;refine⟨_,FL,Zu (v:=false) (by decide+kernel) ⟨_,FL,Zl ?_⟩⟩;have l1:(u.add none).F.length=u.F.length+1:=Z7;have o1:(u.add none).Ok:=V3 o (λg h=>by cases h);have ag:∀i,i<u.F.length->ov u.F.length σ0 (λ_=>p0) i=σ0 i:=λi hi=>X0 hi;refine jc (n:=n) (s:=s) (f:=.f1 "list" u.F.length) S1 o1 (Uf o cl) (by omega) (λp h=>by rw[XQ.mp h];omega) ⟨ov u.F.length σ0 λ_=>p0,(Vo o).mpr ⟨Uh o w1 ag,λg h=>by cases h⟩,?_⟩ (by omega) FL FL (λ{C Q} h=>⟨_,FL,Jj (by show 2<=_;omega),h⟩) λC2 u2 S2 F2 ak=>?_
  ·show _=Kd.k1 "list" (ov _ _ _ _);rw[ag s hs,Wu,hk]
  ·refine⟨_,FL,Zu (v:=true) (by decide+kernel) ⟨_,FL,Z6 ?_⟩⟩;exact⟨Jj (by show 0<=_;omega),λp hp=>Jv q S2 (F1.trans F2) (pM o hs cl ak) p hp⟩
def uu (S:Sl A C u)(o:u.Ok)(cl:Uk u [])(hs:s<u.F.length)(hn:u.F.length<=7000)(w:∃σ0 G cs,Ts u σ0/\Jd (.sh2 c t1 t2) G (σ0 s) cs)
  (q:∀C' p u' as,Sl A C' u'->Fx A C C'->C p=none->C' p=some (.lst (as.map xy))->Xd u (.sh2 c t1 t2) s u' as->Q (.ref p) C'):Yg pr (n+3) N8 [.ref A.r,.str c,nT s] C Q χ:=by
 refine Nx FL ?_;unfold Vi Vp;obtain⟨σ0,G,cs,w1,w2⟩:=w;have l1:(u.add none).F.length=u.F.length+1:=Z7;have o1:(u.add none).Ok:=V3 o (λg h=>by cases h);generalize hk:σ0 s=kk at w2
 cases w2 with
 | @cons _ _ _ p0=>
  refine⟨_,FL,Zu (v:=false) (by decide+kernel) ⟨_,FL,Zl ⟨_,FL,Zu (v:=false) (by decide+kernel) ⟨_,FL,Zl ?_⟩⟩⟩⟩;refine Jt (n:=n) S o (by omega) FL λC1 S1 F1=>?_;refine⟨_,FL,Zu (v:=false) (by decide+kernel) ⟨_,FL,Zl ?_⟩⟩;have ag:∀i,i<u.F.length->ov u.F.length σ0 (λ_=>p0) i=σ0 i:=λi hi=>X0 hi;refine jc (n:=n) (s:=s) (f:=.f1 "list" u.F.length) S1 o1 (Uf o cl) (by omega) (λp h=>by rw[XQ.mp h];omega) ⟨ov u.F.length σ0 λ_=>p0,(Vo o).mpr ⟨Uh o w1 ag,λg h=>by cases h⟩,?_⟩ (by omega) FL FL (λ{C Q} h=>⟨_,FL,Jj (by show 2<=_;omega),h⟩) λC2 u2 S2 F2 ak=>?_
  ·show _=Kd.k1 "list" (ov _ _ _ _);rw[ag s hs,Wu,hk]
  ·refine⟨_,FL,Zu (v:=false) (by decide+kernel) ⟨_,FL,Zl ?_⟩⟩;refine⟨Jj (by show 0<=_;omega),_,FL,Jj (by show 2<=_;omega),Jj (by show 0<=_;omega),_,FL,Jj (by show 2<=_;omega),Jj (by show 2<=_;omega),λp hp=>?_⟩;exact Jv q S2 (F1.trans F2) (sT o hs cl ak) p hp
 | @pair _ _ _ p0 q0=>
  refine⟨_,FL,Zu (v:=false) (by decide+kernel) ⟨_,FL,Zl ⟨_,FL,Zu (v:=false) (by decide+kernel) ⟨_,FL,Zl ?_⟩⟩⟩⟩;refine Jt (n:=n) S o (by omega) FL λC1 S1 F1=>?_;refine⟨_,FL,Zu (v:=true) (by decide+kernel) ⟨_,FL,Z6 ?_⟩⟩;refine Jt (n:=n) S1 o1 (by omega) FL λC2 S2 F2=>?_;have o2:((u.add none).add none).Ok:=V3 o1 (λg h=>by cases h);have l2:((u.add none).add none).F.length=u.F.length+2:=by rw[Z7,l1]
  have ag:∀i,i<u.F.length->ov u.F.length σ0 (λi=>if i=0 then p0 else q0) i=σ0 i:=λi hi=>X0 hi;have S2':=S2;rw[l1];refine jc (n:=n) (s:=s) (f:=.f2 "pair" u.F.length (u.F.length+1)) S2 o2 (Uf o1 (Uf o cl)) (by omega) (λp h=>by simp only[Fm.ps,List.mem_cons,List.not_mem_nil,or_false] at h;omega) ⟨ov u.F.length σ0 λi=>if i=0 then p0 else q0,(Vo o1).mpr ⟨(Vo o).mpr ⟨Uh o w1 ag,λg h=>by cases h⟩,λg h=>by cases h⟩,?_⟩ (by omega) FL FL (λ{C Q} h=>⟨_,FL,_,FL,Jj (by show 3<=_;omega),h⟩) λC3 u3 S3 F3 ak=>?_
  ·show _=Kd.k2 "pair" (ov _ _ _ _) (ov _ _ _ _);rw[ag s hs,Wu,Vy,hk];rfl
  ·refine⟨Jj (by show 0<=_;omega),_,FL,Jj (by show 2<=_;omega),Jj (by show 0<=_;omega),_,FL,Jj (by show 2<=_;omega),Jj (by show 2<=_;omega),λp hp=>?_⟩;exact Jv q S3 ((F1.trans F2).trans F3) (sQ o hs cl ak) p hp
end
def Tr.isNm:Tr->Bool
 | .nm _=>true
 | _=>false
section
variable {A:Sd}{C C':Hw}{u:Us}{Q:WK}{χ:WX}{n x a b k s:Nat}{o:O}{σ σ0:Nat->Kd}{τ:Sw}{f:Fm}{t:Tr}
def jb (S:Sl A C u)(o:u.Ok)(hn:u.F.length<=8000)(h0:τ[k]?=some (some (.ref A.r)))(q:∀C',Sl A C' (u.add none)->Fx A C C'->Q (nT u.F.length) C'):
  Kh (Yg pr (n+2)) [("Slots",6)] "unknown" (Yb k) Zv τ C Q χ:=by
 obtain⟨rk,L,S0⟩:=id S;exact⟨_,h0,_,_,_,_,FL,S0.r,FL,FL,Dd (n:=n) S o (by omega) q⟩
def xB (o:u.Ok):∀n,(u.addN n).Ok
 | 0=>o
 | n+1=>V3 (xB o n) (λg h=>by cases h)
def iX {t1 t2 t3:Tr}(S:Sl A C u)(o:u.Ok)(cl:Uk u [])(hs:s<u.F.length)(hn:u.F.length<=7000)
  (q:∀C' p u' as,Sl A C' u'->Fx A C C'->C p=none->C' p=some (.lst (as.map xy))->Xd u (.chT t1 t2 t3) s u' as->Q (.ref p) C'):Yg pr (n+3) Uu [.ref A.r,.str "No",nT s] C Q χ:=by
 refine Um FL ?_;unfold Xh Xr;refine⟨_,FL,Zu (v:=true) (by decide+kernel) ⟨_,FL,Z6 ?_⟩⟩;refine⟨Jj (by show 0<=_;omega),Nk (n:=n+1) (f:=.f0 "truth") S o (by omega) FL (λ{C Q} h=>⟨Jj (by show 1<=_;omega),h⟩) λC1 S1 F1=>?_⟩;refine⟨Jj (by show 2<=_;omega),Jj (by show 0<=_;omega),_,FL,Jj (by show 2<=_;omega),Jj (by show 0<=_;omega),_,FL,Jj (by show 2<=_;omega),Jj (by show 3<=_;omega),λp hp=>?_⟩;exact Jv q S1 F1 (pN o hs cl) p hp
def iZ {t1 t2 t3:Tr}{x y:Str}(S:Sl A C u)(o:u.Ok)(cl:Uk u [])(hs:s<u.F.length)(hn:u.F.length<=7000)
  (q:∀C' p u' as,Sl A C' u'->Fx A C C'->C p=none->C' p=some (.lst (as.map xy))->Xd u (.chL t1 t2 x y t3) s u' as->Q (.ref p) C'):Yg pr (n+3) Uu [.ref A.r,.str "Nil",nT s] C Q χ:=by
 refine Um FL ?_;unfold Xh Xr;have l1:(u.add none).F.length=u.F.length+1:=Z7;have o1:(u.add none).Ok:=V3 o (λg h=>by cases h);refine⟨_,FL,Zu (v:=false) (by decide+kernel) ⟨_,FL,Zl ?_⟩⟩;refine Jt (n:=n) S o (by omega) FL λC1 S1 F1=>?_;refine⟨_,FL,Zu (v:=false) (by decide+kernel) ⟨_,FL,Zl ?_⟩⟩;refine Nk (n:=n+1) (f:=.f1 "list" u.F.length) S1 o1 (by omega) FL (λ{C Q} h=>⟨_,FL,Jj (by show 2<=_;omega),h⟩) λC2 S2 F2=>?_;rw[l1];refine⟨Jj (by show 0<=_;omega),_,FL,Jj (by show 2<=_;omega),Jj (by show 0<=_;omega),_,FL,Jj (by show 2<=_;omega),_,FL,_,FL,Jj (by show 2<=_;omega),_,FL,Jj (by show 2<=_;omega),Jj (by show 3<=_;omega),λp hp=>?_⟩;exact Jv q S2 (F1.trans F2) (pP o hs cl) p hp
def iY {t1 t2:Tr}{x y:Str}(S:Sl A C u)(o:u.Ok)(cl:Uk u [])(hs:s<u.F.length)(hn:u.F.length<=7000)
  (q:∀C' p u' as,Sl A C' u'->Fx A C C'->C p=none->C' p=some (.lst (as.map xy))->Xd u (.chP t1 x y t2) s u' as->Q (.ref p) C'):Yg pr (n+3) Uu [.ref A.r,.str "Pair",nT s] C Q χ:=by
 refine Um FL ?_;unfold Xh Xr;have l1:(u.add none).F.length=u.F.length+1:=Z7;have o1:(u.add none).Ok:=V3 o (λg h=>by cases h);have l2:((u.add none).add none).F.length=u.F.length+2:=by rw[Z7,l1]
 have o2:((u.add none).add none).Ok:=V3 o1 (λg h=>by cases h);refine⟨_,FL,Zu (v:=false) (by decide+kernel) ⟨_,FL,Zl ?_⟩⟩;refine Jt (n:=n) S o (by omega) FL λC1 S1 F1=>?_;refine⟨_,FL,Zu (v:=true) (by decide+kernel) ⟨_,FL,Z6 ?_⟩⟩;refine Jt (n:=n) S1 o1 (by omega) FL λC2 S2 F2=>?_;rw[l1];refine⟨Jj (by show 0<=_;omega),Nk (n:=n+1) (f:=.f2 "pair" u.F.length (u.F.length+1)) S2 o2 (by omega) FL (λ{C Q} h=>⟨_,FL,_,FL,Jj (by show 3<=_;omega),h⟩) λC3 S3 F3=>?_⟩;rw[l2];refine⟨Jj (by show 2<=_;omega),_,FL,_,FL,Jj (by show 2<=_;omega),_,FL,Jj (by show 2<=_;omega),Jj (by show 2<=_;omega),λp hp=>?_⟩;exact Jv q S3 ((F1.trans F2).trans F3) (pO o hs cl) p hp
def Cz (t:Tr)(ht:Tr.isNm t=false)(hl:∀m xs ts b,t=.lt m xs ts b->m<=10)(S:Sl A C u)(o:u.Ok)(cl:Uk u [])(hs:s<u.F.length)(hn:u.F.length<=7000)(w:∃σ0 G cs,Ts u σ0/\Jd t G (σ0 s) cs)
  (q:∀C' p u' as,Sl A C' u'->Fx A C C'->C p=none->C' p=some (.lst (as.map xy))->Xd u t s u' as->Q (.ref p) C'):Yg pr (n+4) Bt [.ref A.r,tt t,nT s] C Q χ:=by
 refine Ci FL ?_;unfold Sm Qb;have l1:(u.add none).F.length=u.F.length+1:=Z7;have o1:(u.add none).Ok:=V3 o (λg h=>by cases h)
 cases t with
 | nm x=>cases ht
 | num v=>
  refine⟨_,FL,_,Zr,?_⟩;refine⟨_,FL,Zu (v:=true) (by decide+kernel) ⟨_,FL,Z6 ?_⟩⟩;obtain⟨σ0,G,cs,w1,w2⟩:=w;have we:σ0 s=(Fm.f0 "num").ev σ0:=by generalize σ0 s=kk at w2;cases w2;rfl
  refine jc (n:=n+1) (s:=s) (f:=.f0 "num") S o cl hs (λp h=>by cases h) ⟨σ0,w1,we⟩ (by omega) FL FL (λ{C Q} h=>⟨Jj (by show 1<=_;omega),h⟩) λC1 u1 S1 F1 ak=>?_;exact⟨Jj (by show 0<=_;omega),λp hp=>Jv q S1 F1 (pL o hs ak cl) p hp⟩
 | does oo t1 t2=>
  refine⟨_,FL,_,Zr,?_⟩;refine⟨_,FL,Zu (v:=false) (by decide+kernel) ⟨_,FL,Zl ?_⟩⟩;refine⟨_,FL,Zu (v:=true) (by decide+kernel) ⟨_,FL,Z6 ?_⟩⟩;refine⟨_,FL,_,FL,_,Yl,_,FL,?_⟩;dsimp only[Zv];exact Bd (n:=n) S o cl hs hn w q
 | fn x b=>
  refine⟨_,FL,_,Zr,?_⟩;refine⟨_,FL,Zu (v:=false) (by decide+kernel) ⟨_,FL,Zl ?_⟩⟩;refine⟨_,FL,Zu (v:=false) (by decide+kernel) ⟨_,FL,Zl ?_⟩⟩;refine⟨_,FL,Zu (v:=true) (by decide+kernel) ⟨_,FL,Z6 ?_⟩⟩;obtain⟨σ0,G,cs,w1,w2⟩:=w;generalize hk:σ0 s=kk at w2
  cases w2 with
  | @fn _ _ _ p0 q0=>
  refine Jt (n:=n+1) S o (by omega) FL λC1 S1 F1=>?_;refine Jt (n:=n+1) S1 o1 (by omega) FL λC2 S2 F2=>?_;have o2:((u.add none).add none).Ok:=V3 o1 (λg h=>by cases h);have l2:((u.add none).add none).F.length=u.F.length+2:=by rw[Z7,l1]
  have ag:∀i,i<u.F.length->ov u.F.length σ0 (λi=>if i=0 then p0 else q0) i=σ0 i:=λi hi=>X0 hi;rw[l1];refine jc (n:=n+1) (s:=s) (f:=.f2 "to" u.F.length (u.F.length+1)) S2 o2 (Uf o1 (Uf o cl)) (by omega) (λp h=>by simp only[Fm.ps,List.mem_cons,List.not_mem_nil,or_false] at h;omega) ⟨ov u.F.length σ0 λi=>if i=0 then p0 else q0,(Vo o1).mpr ⟨(Vo o).mpr ⟨Uh o w1 ag,λg h=>by cases h⟩,λg h=>by cases h⟩,?_⟩ (by omega) FL FL (λ{C Q} h=>⟨_,FL,_,FL,Jj (by show 3<=_;omega),h⟩) λC3 u3 S3 F3 ak=>?_
  ·show _=Kd.k2 "to" (ov _ _ _ _) (ov _ _ _ _);rw[ag s hs,Wu,Vy,hk];rfl
  ·refine⟨_,FL,Jj (by show 1<=_;omega),_,FL,Jj (by show 2<=_;omega),Jj (by show 1<=_;omega),λp hp=>?_⟩;exact Jv q S3 ((F1.trans F2).trans F3) (kJ o hs cl ak) p hp
 | call t1 t2=>
  refine⟨_,FL,_,Zr,?_⟩;refine⟨_,FL,Zu (v:=false) (by decide+kernel) ⟨_,FL,Zl ?_⟩⟩;refine⟨_,FL,Zu (v:=false) (by decide+kernel) ⟨_,FL,Zl ?_⟩⟩;refine⟨_,FL,Zu (v:=false) (by decide+kernel) ⟨_,FL,Zl ?_⟩⟩;refine⟨_,FL,Zu (v:=true) (by decide+kernel) ⟨_,FL,Z6 ?_⟩⟩;refine Jt (n:=n+1) S o (by omega) FL λC1 S1 F1=>?_;refine⟨Jj (by show 0<=_;omega),Nk (n:=n+2) (f:=.f2 "to" u.F.length s) S1 o1 (by omega) FL (λ{C Q} h=>⟨_,FL,_,FL,Jj (by show 3<=_;omega),h⟩) λC2 S2 F2=>?_⟩;rw[l1];refine⟨Jj (by show 2<=_;omega),Jj (by show 0<=_;omega),_,FL,Jj (by show 2<=_;omega),Jj (by show 2<=_;omega),λp hp=>?_⟩;exact Jv q S2 (F1.trans F2) (sU o hs cl) p hp
 | first t1 t2=>
  refine⟨_,FL,_,Zr,?_⟩;refine⟨_,FL,Zu (v:=false) (by decide+kernel) ⟨_,FL,Zl ?_⟩⟩;refine⟨_,FL,Zu (v:=false) (by decide+kernel) ⟨_,FL,Zl ?_⟩⟩;refine⟨_,FL,Zu (v:=false) (by decide+kernel) ⟨_,FL,Zl ?_⟩⟩;refine⟨_,FL,Zu (v:=false) (by decide+kernel) ⟨_,FL,Zl ?_⟩⟩;refine⟨_,FL,Zu (v:=false) (by decide+kernel) ⟨_,FL,Zl ?_⟩⟩;refine⟨_,FL,Zu (v:=false) (by decide+kernel) ⟨_,FL,Zl ?_⟩⟩;refine⟨_,FL,Zu (v:=false) (by decide+kernel) ⟨_,FL,Zl ?_⟩⟩;refine⟨_,FL,Zu (v:=true) (by decide+kernel) ⟨_,FL,Z6 ?_⟩⟩;refine⟨Jj (by show 0<=_;omega),Jt (n:=n+1) S o (by omega) FL λC1 S1 F1=>?_⟩;refine⟨Jj (by show 2<=_;omega),Jj (by show 0<=_;omega),_,FL,Jj (by show 2<=_;omega),Jj (by show 2<=_;omega),λp hp=>?_⟩;exact Jv q S1 F1 (wU o hs cl) p hp
 | stop y=>
  refine⟨_,FL,_,Zr,?_⟩;refine⟨_,FL,Zu (v:=false) (by decide+kernel) ⟨_,FL,Zl ?_⟩⟩;refine⟨_,FL,Zu (v:=false) (by decide+kernel) ⟨_,FL,Zl ?_⟩⟩;refine⟨_,FL,Zu (v:=false) (by decide+kernel) ⟨_,FL,Zl ?_⟩⟩;refine⟨_,FL,Zu (v:=false) (by decide+kernel) ⟨_,FL,Zl ?_⟩⟩;refine⟨_,FL,Zu (v:=false) (by decide+kernel) ⟨_,FL,Zl ?_⟩⟩;refine⟨_,FL,Zu (v:=false) (by decide+kernel) ⟨_,FL,Zl ?_⟩⟩;refine⟨_,FL,Zu (v:=false) (by decide+kernel) ⟨_,FL,Zl ?_⟩⟩;refine⟨_,FL,Zu (v:=false) (by decide+kernel) ⟨_,FL,Zl ?_⟩⟩;refine⟨_,FL,Zu (v:=true) (by decide+kernel) ⟨_,FL,Z6 ?_⟩⟩;exact⟨Jj (by show 0<=_;omega),λp hp=>Jv q S (Fx.refl _ _) (sP o cl) p hp⟩
 | sh0 c=>
  refine⟨_,FL,_,Zr,?_⟩;refine⟨_,FL,Zu (v:=false) (by decide+kernel) ⟨_,FL,Zl ?_⟩⟩;refine⟨_,FL,Zu (v:=false) (by decide+kernel) ⟨_,FL,Zl ?_⟩⟩;refine⟨_,FL,Zu (v:=false) (by decide+kernel) ⟨_,FL,Zl ?_⟩⟩;refine⟨_,FL,Zu (v:=false) (by decide+kernel) ⟨_,FL,Zl ?_⟩⟩;refine⟨_,FL,Zu (v:=false) (by decide+kernel) ⟨_,FL,Zl ?_⟩⟩;refine⟨_,FL,Zu (v:=true) (by decide+kernel) ⟨_,FL,Z6 ?_⟩⟩;refine⟨_,FL,_,FL,_,Yl,_,FL,?_⟩;dsimp only[Zv];exact uv (n:=n) S o cl hs hn w q
 | sh2 c t1 t2=>
  refine⟨_,FL,_,Zr,?_⟩;refine⟨_,FL,Zu (v:=false) (by decide+kernel) ⟨_,FL,Zl ?_⟩⟩;refine⟨_,FL,Zu (v:=false) (by decide+kernel) ⟨_,FL,Zl ?_⟩⟩;refine⟨_,FL,Zu (v:=false) (by decide+kernel) ⟨_,FL,Zl ?_⟩⟩;refine⟨_,FL,Zu (v:=false) (by decide+kernel) ⟨_,FL,Zl ?_⟩⟩;refine⟨_,FL,Zu (v:=false) (by decide+kernel) ⟨_,FL,Zl ?_⟩⟩;refine⟨_,FL,Zu (v:=true) (by decide+kernel) ⟨_,FL,Z6 ?_⟩⟩;refine⟨_,FL,_,FL,_,Yl,_,FL,?_⟩;dsimp only[Zv];exact uu (n:=n) S o cl hs hn w q
 | chT t1 t2 t3=>
  refine⟨_,FL,_,Zr,?_⟩;refine⟨_,FL,Zu (v:=false) (by decide+kernel) ⟨_,FL,Zl ?_⟩⟩;refine⟨_,FL,Zu (v:=false) (by decide+kernel) ⟨_,FL,Zl ?_⟩⟩;refine⟨_,FL,Zu (v:=false) (by decide+kernel) ⟨_,FL,Zl ?_⟩⟩;refine⟨_,FL,Zu (v:=false) (by decide+kernel) ⟨_,FL,Zl ?_⟩⟩;refine⟨_,FL,Zu (v:=false) (by decide+kernel) ⟨_,FL,Zl ?_⟩⟩;refine⟨_,FL,Zu (v:=false) (by decide+kernel) ⟨_,FL,Zl ?_⟩⟩;refine⟨_,FL,Zu (v:=true) (by decide+kernel) ⟨_,FL,Z6 ?_⟩⟩;refine⟨_,FL,_,FL,_,Jp,_,Zr,_,Zr,_,FL,?_⟩;dsimp only[Zv];exact iX (n:=n) S o cl hs hn q
 | chL t1 t2 x y t3=>
  refine⟨_,FL,_,Zr,?_⟩;refine⟨_,FL,Zu (v:=false) (by decide+kernel) ⟨_,FL,Zl ?_⟩⟩;refine⟨_,FL,Zu (v:=false) (by decide+kernel) ⟨_,FL,Zl ?_⟩⟩;refine⟨_,FL,Zu (v:=false) (by decide+kernel) ⟨_,FL,Zl ?_⟩⟩;refine⟨_,FL,Zu (v:=false) (by decide+kernel) ⟨_,FL,Zl ?_⟩⟩;refine⟨_,FL,Zu (v:=false) (by decide+kernel) ⟨_,FL,Zl ?_⟩⟩;refine⟨_,FL,Zu (v:=false) (by decide+kernel) ⟨_,FL,Zl ?_⟩⟩;refine⟨_,FL,Zu (v:=true) (by decide+kernel) ⟨_,FL,Z6 ?_⟩⟩;refine⟨_,FL,_,FL,_,Jp,_,Zr,_,Zr,_,FL,?_⟩;dsimp only[Zv];exact iZ (n:=n) S o cl hs hn q
 | chP t1 x y t2=>
  refine⟨_,FL,_,Zr,?_⟩;refine⟨_,FL,Zu (v:=false) (by decide+kernel) ⟨_,FL,Zl ?_⟩⟩;refine⟨_,FL,Zu (v:=false) (by decide+kernel) ⟨_,FL,Zl ?_⟩⟩;refine⟨_,FL,Zu (v:=false) (by decide+kernel) ⟨_,FL,Zl ?_⟩⟩;refine⟨_,FL,Zu (v:=false) (by decide+kernel) ⟨_,FL,Zl ?_⟩⟩;refine⟨_,FL,Zu (v:=false) (by decide+kernel) ⟨_,FL,Zl ?_⟩⟩;refine⟨_,FL,Zu (v:=false) (by decide+kernel) ⟨_,FL,Zl ?_⟩⟩;refine⟨_,FL,Zu (v:=true) (by decide+kernel) ⟨_,FL,Z6 ?_⟩⟩;refine⟨_,FL,_,FL,_,Jp,_,Zr,_,Zr,_,FL,?_⟩;dsimp only[Zv];exact iY (n:=n) S o cl hs hn q
 | lt m xs ts b=>
  refine⟨_,FL,_,Zr,?_⟩;refine⟨_,FL,Zu (v:=false) (by decide+kernel) ⟨_,FL,Zl ?_⟩⟩;refine⟨_,FL,Zu (v:=false) (by decide+kernel) ⟨_,FL,Zl ?_⟩⟩;refine⟨_,FL,Zu (v:=false) (by decide+kernel) ⟨_,FL,Zl ?_⟩⟩;refine⟨_,FL,Zu (v:=false) (by decide+kernel) ⟨_,FL,Zl ?_⟩⟩;refine⟨_,FL,Zu (v:=true) (by decide+kernel) ⟨_,FL,Z6 ?_⟩⟩;refine⟨_,FL,_,Yl,?_⟩;have hm:=hl m xs ts b FL;refine Sg (λi acc C'=>Sl A C' (u.addN i)/\Fx A C C'/\acc=(List.range i).map (λj=>nT (u.F.length+j))) ⟨S,Fx.refl _ _,FL⟩ (λ_ _ _ _ _=>trivial) ?_ ?_
  ·rintro i x acc C1 N hx ⟨S1,F1,rfl⟩ hN;have hi:i<m:=by
    have:=(BB.mp hx).1;simpa using this
   have la:=Og (u:=u) i;refine Z6 (q:=N ((List.range i).map λj=>nT (u.F.length+j)) C1) (jb (n:=n+1) S1 (xB o i) (by omega) FL λC2 S2 F2=>⟨Yu (by simp;omega),hN _ _ ⟨S2,F1.trans F2,?_⟩⟩);rw[FA,XL,la];rfl
  ·rintro acc C1 ⟨S1,F1,rfl⟩ p hp;refine⟨_,FL,_,Ze,?_⟩;have em:(List.finRange m).length=m:=BN;have lm:((List.finRange m).map λi=>T.tup [.str (xs i),tt (ts i)]).length=m:=by rw[XI,em]
   rw[lm] at S1 |-;have eo:(List.range m).map (λj=>nT (u.F.length+j))=(T9 u m).map nT:=by
    rw[YE];have:List.range m=(List.finRange m).map Fin.val:=by
     apply List.ext_getElem
     ·simp
     ·intro i h1 h2;simp
    rw[this,YE];rfl
   rw[eo];have S2:Sl A (up C1 p (.lst ((T9 u m).map nT))) (u.addN m):=S1.new hp;have F2:Fx A C (up C1 p (.lst ((T9 u m).map nT))):=Uv S1 F1 hp;generalize up C1 p (.lst ((T9 u m).map nT))=C2 at S2 F2;refine⟨_,FL,?_⟩;have lo:((T9 u m).map nT).length=m:=by rw[XI,XI,em]
   refine Jk (λt=>.tup [.tup ((T9 u m).map nT),t]) trivial (by rw[lo];exact Jj (by omega)) (λx hx R hR=>?_) λp2 hp2=>?_
   ·exact⟨_,FL,_,FL,Jj (by show 2<=_;omega),hR⟩
   refine⟨_,FL,_,FL,Jj (by show 2<=_;omega),Jj (by show 1<=_;omega),λp3 hp3=>?_⟩;have S3:Sl A (up C2 p2 _) (u.addN m):=S2.new (o:=.lst (((T9 u m).map nT).map λt=>.tup [.tup ((T9 u m).map nT),t])) hp2;have F3:Fx A C (up C2 p2 _):=Uv (o:=.lst (((T9 u m).map nT).map λt=>.tup [.tup ((T9 u m).map nT),t])) S2 F2 hp2;have n23:p2≠p3:=λe=>by rw[<-e,Ze] at hp3;cases hp3
   refine⟨_,_,by rw[Zg n23];exact Ze,Ze,by rw[XI,lo];exact Jj (by show m+1<=_;omega),λp4 hp4=>?_⟩;have S4:Sl A (up (up C2 p2 _) p3 _) (u.addN m):=S3.new (o:=.lst [.tup [.tup ((T9 u m).map nT),nT s]]) hp3;have F4:Fx A C (up (up C2 p2 _) p3 _):=Uv (o:=.lst [.tup [.tup ((T9 u m).map nT),nT s]]) S3 F3 hp3;have fin:=Jv q S4 F4 (kI (xs:=xs) (ts:=ts) (b:=b) hm o hs cl) p4 hp4;have e:∀os:List Nat,((os.map λo=>(os,o))++[(os,s)]).map xy=((os.map nT).map λt=>T.tup [.tup (os.map nT),t])++[.tup [.tup (os.map nT),nT s]]:=λos=>by
    rw[XL,YE,YE];rfl
   rw[e] at fin;exact fin
end
set_option tactic.hygienic true
def Sa:Yj (Yy kvs kk v) j=if j=kk then some v else Yj kvs j:=by
 have key:∀kvs:List (Z0×T),Yj (kvs.map λz=>if z.1=kk then(z.1,v) else z) j=if j=kk/\(kvs.any λz=>decide (z.1=kk))=true then some v else Yj kvs j:=by
  intro kvs
  induction kvs with
  | nil=>simp[Yj]
  | cons z r ih=>
   unfold Yj at ih |-;rw[YI,FB,FB,DR];by_cases c:z.1=kk
   ·rw[XY c];by_cases d:j=kk
    ·subst d;simp[c]
    ·have:¬z.1=j:=λe=>d (e.symm.trans c);simp only[this,decide_false,d,false_and,if_false];rw[ih];simp[d]
   ·rw[XX c];by_cases d:z.1=j
    ·have:¬j=kk:=λe=>c (d.trans e);simp[d,this]
    ·simp only[d,decide_false,c,Bool.false_or];exact ih
 unfold Yy
 split
 next h=>rw[key];simp[h]
 next h=>
  unfold Yj;rw[List.find?_append];by_cases d:j=kk
  ·subst d;have:kvs.find? (λz=>decide (z.1=j))=none:=List.find?_eq_none.mpr λz hz e=>h (DA.mpr ⟨z,hz,e⟩);rw[this,if_pos rfl];simp
  ·rw[XX d];have:¬kk=j:=λe=>d e.symm
   cases kvs.find? (λz=>decide (z.1=j))<;>simp[this]
set_option tactic.hygienic false
section
variable {kvs l more:List (Z0×T)}{kk j:Z0}{v:T}
def tP {a b:List (Z0×T)}:Yj (a++b) j=(Yj a j).or (Yj b j):=by
 unfold Yj;rw[List.find?_append]
 cases a.find? λkv=>decide (kv.1=j)<;>rfl
def Fl:∀{l base:List (Z0×T)},Yj (l.foldl (λa kv=>Yy a kv.1 kv.2) base) j=(Yj l.reverse j).or (Yj base j)
 | [],base=>rfl
 | p::l,base=>by
  rw[EF,Fl (l:=l),CL,tP,Sa,Option.or_assoc];congr 1;unfold Yj;by_cases c:j=p.1
  ·subst c;simp
  ·rw[XX c];have:¬p.1=j:=λe=>c e.symm;simp[this]
def Gv:(Yy kvs kk v).map (·.1)=if (kvs.any λkv=>decide (kv.1=kk))=true then kvs.map (·.1) else kvs.map (·.1)++[kk]:=by
 unfold Yy
 split
 ·rw[YE];congr 1
  funext z
  show(if z.1=kk then(z.1,v) else z).1=z.1
  split<;>rfl
 ·rw[XL];rfl
set_option tactic.hygienic true
def mh (h:(kvs.map (·.1)).Nodup):((Yy kvs kk v).map (·.1)).Nodup:=by
 rw[Gv]
 split
 ·exact h
 ·rename_i c;refine DX.mpr ⟨h,BZ.mpr ⟨ED,CK⟩,λa ha b hb=>?_⟩;rw[XQ.mp hb];rintro rfl;obtain⟨z,hz,rfl⟩:=XR.mp ha;exact c (List.any_eq_true.mpr ⟨z,hz,by simp⟩)
set_option tactic.hygienic false
def xi:∀{l base:List (Z0×T)},(base.map (·.1)).Nodup->((l.foldl (λa kv=>Yy a kv.1 kv.2) base).map (·.1)).Nodup
 | [],_,h=>h
 | p::l,base,h=>by rw[EF];exact xi (mh h)
def xf (h:(l.map (·.1)).Nodup):Yj l j=some v↔(j,v)∈l:=by
 induction l with
 | nil=>simp[Yj]
 | cons p l ih=>
  obtain⟨h1,h2⟩:=BZ.mp h;have ih:=ih h2;unfold Yj at ih |-;rw[FB];by_cases c:p.1=j
  ·subst c;simp only[decide_true,Option.map_some,Option.some.injEq,List.mem_cons];refine⟨λe=>.inl (by rw[<-e]),λe=>?_⟩
   rcases e with e | e
   ·rw[<-e]
   ·exact absurd (XR.mpr ⟨_,e,FL⟩) h1
  ·simp only[c,decide_false,List.mem_cons];rw[ih];exact⟨λe=>.inr e,λe=>e.resolve_left λz=>c (by rw[<-z])⟩
def qP (h:(l.map (·.1)).Nodup):Yj l.reverse j=Yj l j:=by
 have hr:(l.reverse.map (·.1)).Nodup:=by rw[DN];exact(List.reverse_perm _).nodup_iff.mpr h
 refine Option.ext λw=>?_;rw[xf hr,xf h,EE]
def wz:Yj (Z8 kvs (Dv Yy ks ts)) j=(Yj (ks.zip ts).reverse j).or (Yj kvs j):=by
 unfold Z8;rw[Fl,qP]
 ·unfold Dv;rw[Fl]
  cases Yj (ks.zip ts).reverse j<;>rfl
 ·exact xi CK
def Hr:(Yy kvs kk v).length<=kvs.length+1:=by
 have h:=congrArg List.length (Gv (kvs:=kvs) (kk:=kk) (v:=v));rw[XI] at h;rw[h]
 split
 ·rw[XI];omega
 ·rw[BA,XI];exact XE _
def Uw:∀{l base:List (Z0×T)},(l.foldl (λa kv=>Yy a kv.1 kv.2) base).length<=base.length+l.length
 | [],_=>XE _
 | p::l,base=>by
  rw[EF,YF];have:=Uw (l:=l) (base:=Yy base p.1 p.2);have:=Hr (kvs:=base) (kk:=p.1) (v:=p.2);omega
def vc (kvs:List (Z0×T))(E:Str->Option Nat):Prop:=∀x,Yj kvs (.inr x)=(E x).map nT
def rH:∀{xs:List Str} {ss:List Nat},Yj ((xs.map Sum.inr).zip (ss.map nT)).reverse (.inr x)=((xs.zip ss).reverse.lookup x).map nT:=by
 intro xs ss;have gen:∀l:List (Str×Nat),Yj (l.map λp=>((Sum.inr p.1:Z0),nT p.2)) (.inr x)=(l.lookup x).map nT:=by
  intro l
  induction l with
  | nil=>rfl
  | cons p l ih=>
   obtain⟨a,b⟩:=p;unfold Yj at ih |-;rw[YI,FB,BK];by_cases c:x=a
   ·subst c;simp
   ·have h1:(x==a)=false:=beq_eq_false_iff_ne.mpr c;have h2:¬(Sum.inr a:Z0)=.inr x:=λe=>c (by cases e;rfl);simp only[h1,h2,decide_false];exact ih
 have e:(xs.map (Sum.inr:Str->Z0)).zip (ss.map nT)=(xs.zip ss).map λp=>((Sum.inr p.1:Z0),nT p.2):=by rw[List.zip_map];rfl
 rw[e,<-DN];exact gen _
def qV {xs:List Str}{ss:List Nat}(h:vc kvs E):vc (Z8 kvs (Dv Yy (xs.map Sum.inr) (ss.map nT))) (bnd xs ss E):=λx=>by
 rw[wz,rH,h x];unfold bnd
 cases (xs.zip ss).reverse.lookup x<;>rfl
def oP {xs:List Str}{ss:List Nat}:(Dv Yy (xs.map Sum.inr) (ss.map nT)).length<=xs.length:=by
 unfold Dv;refine XN Uw ?_;rw[DE,XI,EZ];omega
def wx {xs:List Str}{ss:List Nat}:(Z8 kvs (Dv Yy (xs.map Sum.inr) (ss.map nT))).length<=kvs.length+xs.length:=by
 unfold Z8;exact XN Uw (Nat.add_le_add_left oP _)
end
abbrev sS (z:List Str×Tr):List T×T:=(z.1.map T.str,tt z.2)
def oA:∀t:Tr,(∀m xs ts b,t=.lt m xs ts b->m<=10)->∃e,Sc (tt t) e (t.scs.map sS)
 | .num v,_=>⟨_,.other (by decide)⟩
 | .nm v,_=>⟨_,.other (by decide)⟩
 | .stop v,_=>⟨_,.other (by decide)⟩
 | .does _ _ _,_=>⟨_,.does⟩
 | .fn _ _,_=>⟨_,.fun_⟩
 | .call _ _,_=>⟨_,.call⟩
 | .first _ _,_=>⟨_,.first⟩
 | .lt m xs ts b,h=>by
  have hm:=h m xs ts b FL;have e:=Sc.let_ (B:=tt b) (xs:=(List.finRange m).map λi=>(T.str (xs i),tt (ts i))) (by rw[XI,BN];omega);refine⟨none,?_⟩;show Sc (.tup [.str "let",.tup ((List.finRange m).map λi=>.tup [.str (xs i),tt (ts i)]),tt b]) none ((((List.finRange m).map λi=>(Wh xs,ts i))++[(Wh xs,b)]).map sS);have e1:((List.finRange m).map λi=>(T.str (xs i),tt (ts i))).map (·.1)=(Wh xs).map T.str:=by rw[YE,YE];rfl
  rw[e1,YE,YE] at e;rw[XL,YE];exact e
 | .sh0 _,_=>⟨_,.shape (ZNB FL)⟩
 | .sh2 _ _ _,_=>⟨_,.shape (ZNB FL)⟩
 | .chT a n y,_=>⟨_,.choose (ys:=[(.str "No",[],tt n),(.str "Yes",[],tt y)]) (ZNB FL)⟩
 | .chL a n x y c,_=>⟨_,.choose (ys:=[(.str "Nil",[],tt n),(.str "Cons",[.str x,.str y],tt c)]) (ZNB FL)⟩
 | .chP a x y b,_=>⟨_,.choose (ys:=[(.str "Pair",[.str x,.str y],tt b)]) (ZNB FL)⟩
def kZ (C:Hw)(N:Nat)(p:Pl)(v:T):Prop:=∃d kv,v=.tup [tt p.2.1,.ref d,nT p.2.2]/\C d=some (.dic kv)/\vc kv p.1/\kv.length<=N
def kZ.mono (h:kZ C N p v)(S:∃u,Sl A C u)(F:Fx A C C'):kZ C' N p v:=by
 obtain⟨d,kv,h1,h2,h3,h4⟩:=h;obtain⟨u,rk,L,S⟩:=S;exact⟨d,kv,h1,F d _ (λe=>by rw[e,S.f] at h2;cases h2) (λe=>by rw[e,S.l] at h2;cases h2) h2,h3,h4⟩
abbrev Ma (C:Hw)(N:Nat)(ps:List Pl)(vs:List T):Prop:=Paired (kZ C N) ps vs
def Ma.mono (h:Ma C N ps vs)(S:∃u,Sl A C u)(F:Fx A C C'):Ma C' N ps vs:=by
 induction h with
 | nil=>exact .nil
 | cons a b ih=>exact .cons (a.mono S F) ih
def Ma.snoc (h:Ma C N ps vs)(q:kZ C N p v):Ma C N (ps++[p]) (vs++[v]):=by
 induction h with
 | nil=>exact .cons q .nil
 | cons a b ih=>exact .cons a ih
def Ma.keep {C C':Hw}(h:Ma C N ps vs)(k:∀c kv,C c=some (.dic kv)->C' c=some (.dic kv)):Ma C' N ps vs:=by
 induction h with
 | nil=>exact .nil
 | cons a b ih=>
  obtain⟨d,kv,h1,h2,h3,h4⟩:=a;exact .cons ⟨d,kv,h1,k d kv h2,h3,h4⟩ ih
def Sl.other {p:WP}(S:Sl A C u)(h:p≠A.r/\p≠A.f/\p≠A.l):Sl A (up C p o) u:=by
 obtain⟨rk,L,S⟩:=S;exact⟨rk,L,S.other h.1 h.2.1 h.2.2⟩
def Jg {C:Hw}(h:C a=some o)(h':C b=none):a≠b:=λe=>by rw[e,h'] at h;cases h
def Sl.off (S:Sl A C u)(hp:C p=none):p≠A.r/\p≠A.f/\p≠A.l:=by
 obtain⟨_,_,h⟩:=S;exact⟨λe=>(by rw[e,h.r] at hp;cases hp),λe=>(by rw[e,h.f] at hp;cases hp),λe=>(by rw[e,h.l] at hp;cases hp)⟩
def uY (E:Str->Option Nat)(t:Tr)(as:As):List Pl:=(t.scs.zip as).map λz=>(bnd z.1.1 z.2.1 E,z.1.2,z.2.2)
def lj {t:Tr}{as:As}(h:as.length=t.scs.length):(uY E t as).map (λz=>z.2.1)=t.scs.map (λz=>z.2):=by
 unfold uY;rw[YE];have:((λz:Pl=>z.2.1)∘λz:(List Str×Tr)×(List Nat×Nat)=>(bnd z.1.1 z.2.1 E,z.1.2,z.2.2))=(λz=>z.2)∘Prod.fst:=rfl;rw[this,<-YE,List.map_fst_zip (by omega)]
def oN:(uY E t as).map (Pl.ev σ)=zK t as σ (λx=>(E x).map σ):=by
 unfold uY zK;rw[YE];congr 1
 funext z
 show((λx=>(bnd z.1.1 z.2.1 E x).map σ),z.1.2,σ z.2.2)=_;rw[<-pH]
def rS {E:Str->Option Nat}(h:Xd u t s u' as)(hb:∀x i,E x=some i->i<u.F.length):sX u (E,t,s) u' (uY E t as) where
 o:=h.o
 c:=h.c
 le:=h.le
 big:=h.big
 ok:=λz hz=>by
  obtain⟨y,hy,rfl⟩:=XR.mp hz;obtain⟨h1,h2⟩:=h.ok y.2 (DS hy).2;refine⟨h1,λx i e=>?_⟩;have e:bnd y.1.1 y.2.1 E x=some i:=e;unfold bnd at e
  cases l:(y.1.1.zip y.2.1).reverse.lookup x with
  | none=>rw[l] at e;exact XG (hb x i e) h.le
  | some j=>
   rw[l] at e
   cases e
   have:=CH l;exact h2 i (DS (EE.mp this)).2
 co:=λσ cs h1 h2=>by
  obtain⟨σ',a,b,c⟩:=h.co σ _ cs h1 h2;refine⟨σ',a,b,?_⟩;rw[oN,<-c];congr 1
  funext x
  show(E x).map σ'=(E x).map σ
  cases e:E x with
  | none=>rfl
  | some i=>show some (σ' i)=some (σ i);rw[a i (hb x i e)]
 so:=λσ h1=>by
  obtain⟨a,b⟩:=h.so σ (λx=>(E x).map σ) h1;exact⟨a,by rw[oN];exact b⟩
section
variable {A:Sd}{C C':Hw}{u:Us}{Q:WK}{χ:WX}{n s:Nat}{t:Tr}{d:WP}{kv:List (Z0×T)}{E:Str->Option Nat}
def ur:∀(t:Tr),(∀m xs ts b,t=.lt m xs ts b->m<=10)->∀z∈t.scs,z.1.length<=10
 | .num _,_,z,h=>by cases h
 | .nm _,_,z,h=>by cases h
 | .stop _,_,z,h=>by cases h
 | .sh0 _,_,z,h=>by cases h
 | .does _ _ _,_,z,h=>by simp only[Tr.scs,List.mem_cons,List.not_mem_nil,or_false] at h;rcases h with rfl | rfl<;>exact Nat.zero_le _
 | .fn _ _,_,z,h=>by rw[XQ.mp h];exact ZNB FL
 | .call _ _,_,z,h=>by simp only[Tr.scs,List.mem_cons,List.not_mem_nil,or_false] at h;rcases h with rfl | rfl<;>exact Nat.zero_le _
 | .first _ _,_,z,h=>by simp only[Tr.scs,List.mem_cons,List.not_mem_nil,or_false] at h;rcases h with rfl | rfl<;>exact Nat.zero_le _
 | .sh2 _ _ _,_,z,h=>by simp only[Tr.scs,List.mem_cons,List.not_mem_nil,or_false] at h;rcases h with rfl | rfl<;>exact Nat.zero_le _
 | .chT _ _ _,_,z,h=>by simp only[Tr.scs,List.mem_cons,List.not_mem_nil,or_false] at h;rcases h with rfl | rfl | rfl<;>exact Nat.zero_le _
 | .chL _ _ _ _ _,_,z,h=>by simp only[Tr.scs,List.mem_cons,List.not_mem_nil,or_false] at h;rcases h with rfl | rfl | rfl<;>exact ZNB FL
 | .chP _ _ _ _,_,z,h=>by simp only[Tr.scs,List.mem_cons,List.not_mem_nil,or_false] at h;rcases h with rfl | rfl<;>exact ZNB FL
 | .lt m xs ts b,hm,z,h=>by
  have hm:=hm m xs ts b FL;have e:(Wh xs).length<=10:=by rw[XI,BN];exact hm
  rcases XS.mp h with h | h
  ·obtain⟨i,_,rfl⟩:=XR.mp h;exact e
  ·rw[XQ.mp h];exact e
def zq {x:Str}(S:Sl A C u)(o:u.Ok)(cl:Uk u [])(hs:s<u.F.length)(hn:u.F.length<=7000)(hE:vc kv E)(hb:∀x i,E x=some i->i<u.F.length)(hd:C d=some (.dic kv))
  (w:∃σ0 cs,Ts u σ0/\Jd (.nm x) (λx=>(E x).map σ0) (σ0 s) cs)
  (q:∀C' p u' ps vs,Sl A C' u'->Fx A C C'->C p=none->C' p=some (.lst vs)->Ma C' (kv.length+10) ps vs->sX u (E,.nm x,s) u' ps->ps.map (λz=>z.2.1)=(Tr.nm x).scs.map (λz=>z.2)->Q (.ref p) C'):Yg pr (n+5) V0 [.ref A.r,tt (.nm x),.ref d,nT s] C Q χ:=by
 refine Qi FL ?_;unfold X1 X4;refine⟨_,FL,_,Zr,Zu (v:=true) (by decide+kernel) ⟨_,FL,Z6 ?_⟩⟩;obtain⟨σ0,cs,w1,w2⟩:=w;obtain⟨i,hi,he⟩:∃i,E x=some i/\σ0 i=σ0 s:=by
  generalize σ0 s=kk at w2
  cases w2 with
  | nm h=>
   have h:(E x).map σ0=some kk:=h
   cases e:E x with
   | none=>rw[e] at h;cases h
   | some i=>rw[e] at h;exact⟨i,FL,YH h⟩
 obtain⟨rk,L,S0⟩:=id S;refine⟨_,FL,_,_,_,_,FL,S0.r,FL,FL,_,FL,_,FL,_,FL,_,Yl,_,_,_,_,FL,FL,.inl hd,by rw[hE x,hi];rfl,?_⟩;dsimp only[Zv];refine Ll (n:=n+2) (σ0:=σ0) S o cl hs (hb x i hi) w1 he.symm (by omega) λC1 u1 S1 F1 o1 c1 e1 sol1=>?_;refine⟨Jj (by show 0<=_;omega),λp hp=>?_⟩;refine q _ p u1 [] [] (S1.new hp) (Uv S1 F1 hp) (Rp S1 F1 hp) Ze .nil ⟨o1,c1,by rw[e1];exact XE _,by rw[e1];omega,λz hz=>(by cases hz),λσ cs h1 h2=>?_,λσ h1=>?_⟩ FL
 ·have h2:Jd (.nm x) (λx=>(E x).map σ) (σ s) cs:=h2;have z:cs=[]/\σ s=σ i:=by
   generalize σ s=kk at h2
   cases h2 with
   | nm h=>
    have h:(E x).map σ=some kk:=h;rw[hi] at h;exact⟨FL,(YH h).symm⟩
  exact⟨σ,λ_ _=>rfl,(sol1 σ).mpr ⟨h1,z.2⟩,z.1.symm⟩
 ·obtain⟨a,b⟩:=(sol1 σ).mp h1;exact⟨a,.nm (by show(E x).map σ=some (σ s);rw[hi,b];rfl)⟩
def zp (ht:Tr.isNm t=false)(hl:∀m xs ts b,t=.lt m xs ts b->m<=10)(S:Sl A C u)(o:u.Ok)(cl:Uk u [])(hs:s<u.F.length)(hn:u.F.length<=7000)(hE:vc kv E)(hb:∀x i,E x=some i->i<u.F.length)(hd:C d=some (.dic kv))(hk:kv.length<=90000)
  (w:∃σ0 cs,Ts u σ0/\Jd t (λx=>(E x).map σ0) (σ0 s) cs)
  (q:∀C' p u' ps vs,Sl A C' u'->Fx A C C'->C p=none->C' p=some (.lst vs)->Ma C' (kv.length+10) ps vs->sX u (E,t,s) u' ps->ps.map (λz=>z.2.1)=t.scs.map (λz=>z.2)->Q (.ref p) C'):Yg pr (n+5) V0 [.ref A.r,tt t,.ref d,nT s] C Q χ:=by
 refine Qi FL ?_;unfold X1 X4;obtain⟨wd,r,et,hw⟩:∃(wd:Str) (r:List T),tt t=.tup (.str wd::r)/\(wd=="name")=false:=by
  cases t with
  | nm x=>cases ht
  | _=>exact⟨_,_,FL,by decide+kernel⟩
 have et':T.tup (.str wd::r)=tt t:=et.symm;rw[et];refine⟨_,FL,_,Zr,Zu (v:=false) hw ⟨_,FL,Zl ?_⟩⟩;refine⟨Jj (by show 0<=_;omega),λp0 hp0=>?_⟩;have S0:Sl A (up C p0 (.lst [])) u:=S.new hp0;have F0:Fx A C (up C p0 (.lst [])):=Uv S (Fx.refl _ _) hp0;have P0:up C p0 (.lst []) p0=some (.lst []):=Ze;generalize up C p0 (.lst [])=C0 at S0 F0 P0;obtain⟨e,sc⟩:=oA t hl;rw[et'];refine⟨_,FL,?_⟩;dsimp only[Zv];refine zo (n:=n+2) sc λk C1 x1 hk0 hk1=>?_;have S1:Sl A C1 u:=by
  obtain⟨rk,L,S0⟩:=S0;exact⟨rk,L,⟨x1 _ _ S0.r,x1 _ _ S0.f,x1 _ _ S0.l,S0.lr,S0.ne⟩⟩
 have F1:Fx A C0 C1:=λc w _ _ h=>x1 c w h;refine⟨_,FL,_,FL,_,FL,?_⟩;dsimp only[Zv];obtain⟨σ0,cs,w1,w2⟩:=w;refine Cz (n:=n) t ht hl S1 o cl hs hn ⟨σ0,_,cs,w1,w2⟩ λC2 l u2 as S2 F2 hl0 hl1 ask=>?_;have fne:∀{c:WP} {o:O} {Cx:Hw},Cx c=some o->(∃u,Sl A C1 u)->True:=λ_ _=>trivial;have nofl:∀{Cx:Hw} {ux:Us} {c:WP},Sl A Cx ux->Cx c=none->c≠A.f/\c≠A.l:=λ{Cx ux c} h hc=>by
  obtain⟨_,_,h⟩:=h;exact⟨λe=>(by rw[e,h.f] at hc;cases hc),λe=>(by rw[e,h.l] at hc;cases hc)⟩
 have k1:=nofl S0 hk0;have l1:=nofl S1 hl0;have p1:=nofl S hp0;have K2:C2 k=some (.lst ((t.scs.map sS).map oB)):=F2 _ _ k1.1 k1.2 hk1;have P2:C2 p0=some (.lst []):=F2 _ _ p1.1 p1.2 (F1 _ _ p1.1 p1.2 P0);have F02:Fx A C C2:=(F0.trans F1).trans F2;have ln:as.length=t.scs.length:=by have:=congrArg List.length ask.n;simpa using this
 refine .inr (.inr ⟨_,_,k,l,FL,K2,hl1,by rw[XI,XI,XI];exact ln.symm,?_⟩);have lz:(Tz ((t.scs.map sS).map oB) (as.map xy)).length=t.scs.length:=by unfold Tz;rw[List.length_zipWith,XI,XI,XI];omega
 have dfl:d≠A.f/\d≠A.l:=by
  obtain⟨_,_,h⟩:=S;exact⟨λe=>(by rw[e,h.f] at hd;cases hd),λe=>(by rw[e,h.l] at hd;cases hd)⟩
 have np0k:p0≠k:=λe=>by rw[e,hk0] at P0;cases P0
 have np0l:p0≠l:=λe=>by have:=F1 _ _ p1.1 p1.2 P0;rw[e,hl0] at this;cases this
 have np0d:p0≠d:=λe=>by rw[e,hd] at hp0;cases hp0
 refine X2 (λi τ C'=>∃v5 v6 v7 vs,τ=[some (.ref A.r),some (tt t),some (.ref d),some (nT s),some (.ref p0),v5,v6,v7]/\Sl A C' u2/\Fx A C C'/\C' p0=some (.lst vs)/\Ma C' (kv.length+10) ((uY E t as).take i) vs/\
  C' k=some (.lst ((t.scs.map sS).map oB))/\C' l=some (.lst (as.map xy))) ⟨_,_,_,[],FL,S2,F02,P2,.nil,K2,hl1⟩ (λi τ C' _ h=>by obtain⟨_,_,_,_,_,_,_,_,_,h1,h2⟩:=h;exact⟨h1,h2⟩) ?_ ?_
 ·rintro i x τ C3 N hx ⟨v5,v6,v7,vs,rfl,S3,F3,P3,pl3,K3,L3⟩ hN;have hi:i<t.scs.length:=by rw[<-lz];exact(BB.mp hx).1
  obtain⟨z,hz⟩:∃z,t.scs[i]?=some z:=⟨_,BO hi⟩;obtain⟨y,hy⟩:∃y,as[i]?=some y:=⟨_,BO (by omega)⟩;have hx':(Tz ((t.scs.map sS).map oB) (as.map xy))[i]?=some (.tup [oB (sS z),xy y]):=Cb (by rw[XM,XM,hz];rfl) (by rw[XM,hy];rfl);rw[hx] at hx'
  cases hx'
  have zy:y.1.length=z.1.length:=by
   have h:=congrArg (λl:List Nat=>l[i]?) ask.n;simp only[List.getElem?_map,hz,hy,Option.map_some] at h;exact YH h
  have z10:z.1.length<=10:=ur t hl z (BE hz);have d3:C3 d=some (.dic kv):=F3 _ _ dfl.1 dfl.2 hd;refine⟨_,FL,_,_,FL,_,_,FL,FL,?_⟩;refine⟨_,FL,_,_,FL,.inl d3,λp4 hp4=>?_⟩;refine⟨_,FL,⟨_,_,FL,Ze⟩,_,FL,_,Zr,_,FL,_,Zr,z.1,y.1.map nT,FL,by rw[XI];exact zy.symm,by omega,λp5 hp5=>?_⟩;have n45:p4≠p5:=λe=>by rw[<-e,Ze] at hp5;cases hp5
  refine⟨_,_,_,_,FL,FL,n45,by rw[Zg n45];exact Ze,Ze,?_,?_⟩
  ·have:=oP (xs:=z.1) (ss:=y.1);exact Jj (by omega)
  ·have n04:p0≠p4:=λe=>by rw[<-e,P3] at hp4;cases hp4
   have h5:C3 p5=none:=by rw[Zg n45.symm] at hp5;exact hp5
   have n05:p0≠p5:=λe=>by rw[<-e,P3] at h5;cases h5
   generalize hM:Z8 kv (Dv Yy (z.1.map Sum.inr) (y.1.map nT))=mg;have P5:up (up (up C3 p4 (.dic kv)) p5 (.dic (Dv Yy (z.1.map Sum.inr) (y.1.map nT)))) p4 (.dic mg) p0=some (.lst vs):=by rw[Zg n04,Zg n05,Zg n04];exact P3
   have lv:vs.length<=100000:=by
    have:=pl3.length;rw[YM] at this;have hs10:t.scs.length<=11:=by
     have:=ask.n
     cases t with
     | lt m xs ts b=>
      have hm:=hl m xs ts b FL;show(((List.finRange m).map λi=>(Wh xs,ts i))++[(Wh xs,b)]).length<=11;rw[List.length_append,List.length_map,List.length_finRange];simp;omega
     | _=>exact ZNB FL
    omega
   refine⟨_,FL,⟨_,_,FL,P5⟩,_,FL,_,Yl,_,FL,_,FL,_,Yl,Jj (by show 3<=_;omega),_,_,_,FL,FL,P5,Yu lv,?_⟩;have S4:Sl A (up C3 p4 (.dic kv)) u2:=S3.new hp4;have S5:=S4.new (o:=.dic (Dv Yy (z.1.map Sum.inr) (y.1.map nT))) hp5;have S6:=S5.other (o:=.dic mg) (S3.off hp4);have S7:=S6.other (o:=.lst (vs++[.tup [tt z.2,.ref p4,nT y.2]])) (S.off hp0);have c4:=Rp S3 F3 hp4;have c5:=Rp S3 F3 h5;refine hN _ _ ⟨_,_,_,_,FL,S7,λc w m1 m2 h=>?_,Ze,?_,?_,?_⟩
   ·rw[Zg (Jg h hp0),Zg (Jg h c4),Zg (Jg h c5),Zg (Jg h c4)];exact F3 c w m1 m2 h
   ·have hm:(uY E t as)[i]?=some (bnd z.1 y.1 E,z.2,y.2):=by
     unfold uY;rw[XM,show(t.scs.zip as)[i]?=some (z,y) from BU.mpr ⟨hz,hy⟩];rfl
    rw[YD,hm];refine Ma.snoc (pl3.keep λc kv' h=>?_) ⟨p4,mg,FL,by rw[Zg n04.symm];exact Ze,?_,?_⟩
    ·rw[Zg (λe=>by rw[e,P3] at h;cases h),Zg (Jg h hp4),Zg (Jg h h5),Zg (Jg h hp4)];exact h
    ·rw[<-hM];exact qV hE
    ·have:=wx (kvs:=kv) (xs:=z.1) (ss:=y.1);rw[hM] at this;omega
   ·rw[Zg np0k.symm,Zg (Jg K3 hp4),Zg (Jg K3 h5),Zg (Jg K3 hp4)];exact K3
   ·rw[Zg np0l.symm,Zg (Jg L3 hp4),Zg (Jg L3 h5),Zg (Jg L3 hp4)];exact L3
 ·rintro τ C3 ⟨v5,v6,v7,vs,rfl,S3,F3,P3,pl3,K3,L3⟩;rw[lz] at pl3;refine⟨_,FL,?_⟩;have tk:(uY E t as).take t.scs.length=uY E t as:=DW (by unfold uY;rw[XI,DE];omega);rw[tk] at pl3;exact q C3 p0 u2 _ vs S3 F3 hp0 P3 pl3 (rS ask hb) (lj ln)
end
end K22
namespace Fn
open PySem WL
def Tr.size:Tr->Nat
 | .num _=>1
 | .nm _=>1
 | .stop _=>1
 | .sh0 _=>1
 | .does _ a b=>1+(a.size+b.size)
 | .fn _ b=>1+b.size
 | .call a b=>1+(a.size+b.size)
 | .first a b=>1+(a.size+b.size)
 | .lt n _ ts b=>1+(((List.finRange n).map λi=>(ts i).size).sum+b.size)
 | .sh2 _ a b=>1+(a.size+b.size)
 | .chT a b c=>1+(a.size+(b.size+c.size))
 | .chL a b _ _ c=>1+(a.size+(b.size+c.size))
 | .chP a _ _ b=>1+(a.size+b.size)
def Tr.lok:Tr->Prop
 | .num _=>True
 | .nm _=>True
 | .stop _=>True
 | .sh0 _=>True
 | .does _ a b=>a.lok/\b.lok
 | .fn _ b=>b.lok
 | .call a b=>a.lok/\b.lok
 | .first a b=>a.lok/\b.lok
 | .lt n _ ts b=>n<=10/\(∀i,(ts i).lok)/\b.lok
 | .sh2 _ a b=>a.lok/\b.lok
 | .chT a b c=>a.lok/\b.lok/\c.lok
 | .chL a b _ _ c=>a.lok/\b.lok/\c.lok
 | .chP a _ _ b=>a.lok/\b.lok
def Gm (t:Tr):(t.scs.map λz=>z.2.size).sum+1=t.size:=by
 cases t with
 | lt n xs ts b=>
  show((((List.finRange n).map λi=>(Wh xs,ts i))++[(Wh xs,b)]).map λz=>z.2.size).sum+1=1+(((List.finRange n).map λi=>(ts i).size).sum+b.size);rw[XL,YE,DT];simp only[List.map_cons,List.map_nil,List.sum_cons,List.sum_nil,Nat.add_zero];have:((λz:List Str×Tr=>z.2.size)∘λi=>(Wh xs,ts i))=λi=>(ts i).size:=rfl;rw[this];omega
 | _=>simp[Tr.scs,Tr.size]<;>omega
def Lv {t:Tr}(h:t.lok):(∀m xs ts b,t=.lt m xs ts b->m<=10)/\∀z∈t.scs,z.2.lok:=by
 cases t with
 | lt n xs ts b=>
  refine⟨λm xs' ts' b' e=>(by cases e;exact h.1),λz hz=>?_⟩
  rcases XS.mp hz with hz | hz
  ·obtain⟨i,_,rfl⟩:=XR.mp hz;exact h.2.1 i
  ·rw[XQ.mp hz];exact h.2.2
 | num=>exact⟨λm xs' ts' b' e=>(by cases e),λz hz=>(by cases hz)⟩
 | nm=>exact⟨λm xs' ts' b' e=>(by cases e),λz hz=>(by cases hz)⟩
 | stop=>exact⟨λm xs' ts' b' e=>(by cases e),λz hz=>(by cases hz)⟩
 | sh0=>exact⟨λm xs' ts' b' e=>(by cases e),λz hz=>(by cases hz)⟩
 | fn=>exact⟨λm xs' ts' b' e=>(by cases e),λz hz=>(by rw[XQ.mp hz];exact h)⟩
 | does o a b=>exact⟨λm xs' ts' b' e=>(by cases e),λz hz=>(by simp only[Tr.scs,List.mem_cons,List.not_mem_nil,or_false] at hz;rcases hz with rfl | rfl;exact h.1;exact h.2)⟩
 | call a b=>exact⟨λm xs' ts' b' e=>(by cases e),λz hz=>(by simp only[Tr.scs,List.mem_cons,List.not_mem_nil,or_false] at hz;rcases hz with rfl | rfl;exact h.1;exact h.2)⟩
 | first a b=>exact⟨λm xs' ts' b' e=>(by cases e),λz hz=>(by simp only[Tr.scs,List.mem_cons,List.not_mem_nil,or_false] at hz;rcases hz with rfl | rfl;exact h.1;exact h.2)⟩
 | sh2 o a b=>exact⟨λm xs' ts' b' e=>(by cases e),λz hz=>(by simp only[Tr.scs,List.mem_cons,List.not_mem_nil,or_false] at hz;rcases hz with rfl | rfl;exact h.1;exact h.2)⟩
 | chP a x y b=>exact⟨λm xs' ts' b' e=>(by cases e),λz hz=>(by simp only[Tr.scs,List.mem_cons,List.not_mem_nil,or_false] at hz;rcases hz with rfl | rfl;exact h.1;exact h.2)⟩
 | chT a b c=>exact⟨λm xs' ts' b' e=>(by cases e),λz hz=>(by simp only[Tr.scs,List.mem_cons,List.not_mem_nil,or_false] at hz;rcases hz with rfl | rfl | rfl;exact h.1;exact h.2.1;exact h.2.2)⟩
 | chL a b x y c=>exact⟨λm xs' ts' b' e=>(by cases e),λz hz=>(by simp only[Tr.scs,List.mem_cons,List.not_mem_nil,or_false] at hz;rcases hz with rfl | rfl | rfl;exact h.1;exact h.2.1;exact h.2.2)⟩
def Tr.cost:Tr->Nat
 | .num _=>3
 | .nm _=>3
 | .stop _=>3
 | .sh0 _=>3
 | .does _ a b=>3+(a.cost+b.cost)
 | .fn _ b=>3+b.cost
 | .call a b=>3+(a.cost+b.cost)
 | .first a b=>3+(a.cost+b.cost)
 | .lt n _ ts b=>n+(((List.finRange n).map λi=>(ts i).cost).sum+b.cost)
 | .sh2 _ a b=>3+(a.cost+b.cost)
 | .chT a b c=>3+(a.cost+(b.cost+c.cost))
 | .chL a b _ _ c=>3+(a.cost+(b.cost+c.cost))
 | .chP a _ _ b=>3+(a.cost+b.cost)
def sB (t:Tr):(t.scs.map λz=>z.2.cost).sum+t.bg=t.cost:=by
 cases t with
 | lt n xs ts b=>
  show((((List.finRange n).map λi=>(Wh xs,ts i))++[(Wh xs,b)]).map λz=>z.2.cost).sum+n=n+(((List.finRange n).map λi=>(ts i).cost).sum+b.cost);rw[XL,YE,DT];simp only[List.map_cons,List.map_nil,List.sum_cons,List.sum_nil,Nat.add_zero];have:((λz:List Str×Tr=>z.2.cost)∘λi=>(Wh xs,ts i))=λi=>(ts i).cost:=rfl;rw[this];omega
 | _=>simp[Tr.scs,Tr.cost,Tr.bg]<;>omega
def fP (ps:List Pl):Nat:=(ps.map λp=>p.2.1.cost).sum
def qh (ps:List Pl):Nat:=(ps.map λp=>p.2.1.size).sum
def G0:Ev:=λ_=>none
structure Kn (t:Tr)(u:Us)(rows:List Nat)(ps:List Pl):Prop where
 o:u.Ok
 c:Uk u []
 len:1<=u.F.length/\u.F.length+fP ps<=1+t.cost
 sz:rows.length+qh ps=t.size
 rl:∀i∈rows,i<u.F.length
 pk:∀p∈ps,kQ u.F.length p/\p.2.1.lok
 co:∀k R,HT G0 t k R->∃σ R',Ts u σ/\R=rows.map σ++R'/\HTs (ps.map (Pl.ev σ)) R'
 so:∀σ R',Ts u σ->HTs (ps.map (Pl.ev σ)) R'->∃k,HT G0 t k (rows.map σ++R')
def Kn.step {p:Pl}{ps qs:List Pl}(K:Kn t u rows (p::ps))(s:sX u p u' qs)(hq:qs.map (λz=>z.2.1)=p.2.1.scs.map (λz=>z.2)):Kn t u' (rows++[p.2.2]) (qs++ps) where
 o:=s.o
 c:=s.c
 len:=⟨XN K.len.1 s.le,by
  have h1:=K.len.2;have h2:=sB p.2.1;have h3:=s.big;have e:fP qs=(p.2.1.scs.map λz=>z.2.cost).sum:=by
   unfold fP;have:=congrArg (λl:List Tr=>(l.map Tr.cost).sum) hq;simp only[List.map_map] at this;exact this
  unfold fP at h1 e |-;rw[XL,DT,e];rw[YI,FG] at h1;omega⟩
 sz:=by
  have h1:=K.sz;have h2:=Gm p.2.1;have e:qh qs=(p.2.1.scs.map λz=>z.2.size).sum:=by
   unfold qh;have:=congrArg (λl:List Tr=>(l.map Tr.size).sum) hq;simp only[List.map_map] at this;exact this
  unfold qh at h1 e |-;rw[BA,XL,DT,e];rw[YI,FG] at h1;simp only[List.length_singleton];omega
 rl:=λi hi=>by
  rcases XS.mp hi with hi | hi
  ·exact XG (K.rl i hi) s.le
  ·rw[XQ.mp hi];exact XG (K.pk p (BD ..)).1.1 s.le
 pk:=λz hz=>by
  rcases XS.mp hz with hz | hz
  ·refine⟨s.ok z hz,?_⟩;have:z.2.1∈p.2.1.scs.map (λz=>z.2):=by rw[<-hq];exact XR.mpr ⟨z,hz,FL⟩
   obtain⟨y,hy,e⟩:=XR.mp this;rw[<-e];exact(Lv (K.pk p (BD ..)).2).2 y hy
  ·obtain⟨h1,h2⟩:=K.pk z (XV _ hz);exact⟨⟨XG h1.1 s.le,λx i e=>XG (h1.2 x i e) s.le⟩,h2⟩
 co:=λk R h=>by
  obtain⟨σ,R',h1,h2,h3⟩:=K.co k R h;obtain⟨cs,r',r1,rfl,r3⟩:=h3.take;obtain⟨σ',a,b,c⟩:=s.co σ cs h1 r1;have ep:∀z∈ps,Pl.ev σ z=Pl.ev σ' z:=λz hz=>gj (K.pk z (XV _ hz)).1 λi hi=>(a i hi).symm;refine⟨σ',r',b,?_,?_⟩
  ·rw[h2,XL,YL];have e1:rows.map σ=rows.map σ':=BR λi hi=>(a i (K.rl i hi)).symm;rw[e1];show _=_++(σ' p.2.2::r');rw[a _ (K.pk p (BD ..)).1.1]
  ·rw[XL,c,<-BR ep];exact r3
 so:=λσ R' h1 h2=>by
  obtain⟨a,b⟩:=s.so σ h1;rw[XL] at h2;have h3:=h2.give b;obtain⟨k,h4⟩:=K.so σ (σ p.2.2::R') a h3;exact⟨k,by rw[XL,YL];exact h4⟩
def Kn.start {t:Tr}(h:t.lok)(rt:Nat->Nat)(hr:rt 0=0):Kn t ⟨rt,[none]⟩ [] [(λ_=>none,t,0)] where
 o:=⟨λx hx=>(by have hx:x<1:=hx;have e:x=0:=(by omega);subst e;show rt 0<1;rw[hr];decide),λx hx=>(by have hx:x<1:=hx;have e:x=0:=(by omega);subst e;show rt (rt 0)=rt 0;rw[hr,hr]),λx f hx=>by
  have hx:([none]:List (Option Fm))[x]?=some (some f):=hx
  cases x with
  | zero=>cases hx
  | succ x=>simp at hx⟩
 c:=λx f hx=>by
  have hx:([none]:List (Option Fm))[x]?=some (some f):=hx
  cases x with
  | zero=>cases hx
  | succ x=>simp at hx
 len:=⟨XE _,by show 1+(t.cost+0)<=1+t.cost;omega⟩
 sz:=by show 0+(t.size+0)=_;omega
 rl:=λi hi=>by cases hi
 pk:=λp hp=>by rw[XQ.mp hp];exact⟨⟨BJ 0,λx i e=>by cases e⟩,h⟩
 co:=λk R h=>by
  refine⟨λ_=>k,R,⟨λx hx=>rfl,λx f hx=>?_⟩,FL,?_⟩
  ·have hx:([none]:List (Option Fm))[x]?=some (some f):=hx
   cases x with
   | zero=>cases hx
   | succ x=>simp at hx
  ·have:HTs [(G0,t,k)] (R++[]):=.cons h .nil;rw[YK] at this;exact this
 so:=λσ R' h1 h2=>by
  have h2:HTs [(G0,t,σ 0)] R':=h2
  cases h2 with
  | cons a b=>
   cases b
   rw[YK];exact⟨_,a⟩
end Fn
namespace K22
open PySem PySem.Spec PyProof.Rows L2 WL Fn
section
variable {A:Sd}{C C':Hw}{u:Us}{Q:WK}{χ:WX}{n s:Nat}{t:Tr}{d:WP}{kv:List (Z0×T)}{E:Str->Option Nat}
def uw (hl:∀m xs ts b,t=.lt m xs ts b->m<=10)(S:Sl A C u)(o:u.Ok)(cl:Uk u [])(hs:s<u.F.length)(hn:u.F.length<=7000)(hE:vc kv E)(hb:∀x i,E x=some i->i<u.F.length)(hd:C d=some (.dic kv))(hk:kv.length<=90000)
  (w:∃σ0 cs,Ts u σ0/\Jd t (λx=>(E x).map σ0) (σ0 s) cs)
  (q:∀C' p u' ps vs,Sl A C' u'->Fx A C C'->C p=none->C' p=some (.lst vs)->Ma C' (kv.length+10) ps vs->sX u (E,t,s) u' ps->ps.map (λz=>z.2.1)=t.scs.map (λz=>z.2)->Q (.ref p) C'):Yg pr (n+5) V0 [.ref A.r,tt t,.ref d,nT s] C Q χ:=by
 cases e:Tr.isNm t with
 | false=>exact zp e hl S o cl hs hn hE hb hd hk w q
 | true=>
  cases t with
  | nm x=>exact zq S o cl hs hn hE hb hd w q
  | _=>cases e
def Ma.app (h:Ma C N ps vs)(q:Ma C N qs ws):Ma C N (ps++qs) (vs++ws):=by
 induction h with
 | nil=>exact q
 | cons a b ih=>exact .cons a ih
def Ma.rev (h:Ma C N ps vs):Ma C N ps.reverse vs.reverse:=by
 induction h with
 | nil=>exact .nil
 | cons a b ih=>rw[CL,CL];exact ih.app (.cons a .nil)
def Ma.more {N M:Nat}(h:Ma C N ps vs)(k:N<=M):Ma C M ps vs:=by
 induction h with
 | nil=>exact .nil
 | cons a b ih=>
  obtain⟨d,kv,h1,h2,h3,h4⟩:=a;exact .cons ⟨d,kv,h1,h2,h3,XN h4 k⟩ ih
def um:∀t:Tr,1<=t.size:=λt=>by have:=Gm t;omega
def Bl:∀ps:List Pl,ps.length<=qh ps
 | []=>XE _
 | p::ps=>by
  have h:=Bl ps;have h2:=um p.2.1;unfold qh at h |-;rw[YI,FG,YF];omega
def Ma.last {ps:List Pl}{p:Pl}(h:Ma C N (p::ps).reverse vs):∃ws v,vs=ws++[v]/\Ma C N ps.reverse ws/\kZ C N p v:=by
 have r:=h.rev;rw[List.reverse_reverse] at r
 cases e:vs.reverse with
 | nil=>rw[e] at r;cases r
 | cons v w=>
  rw[e] at r
  cases r with
  | cons a b=>
   refine⟨w.reverse,v,?_,Ma.rev b,a⟩;have:=congrArg List.reverse e;rw[List.reverse_reverse,CL] at this;exact this
def xT (hl:t.lok)(hz:t.size<=600)(hco:t.cost<=6000)(hw:∃k R,HT G0 t k R){rt:Nat->Nat}(S:Sl A C ⟨rt,[]⟩)
  (q:∀C' p u rows,Sl A C' u->Fx A C C'->C p=none->C' p=some (.lst (rows.map nT))->Kn t u rows []->Q (.ref p) C'):Yg pr (n+6) Dn [.ref A.r,tt t] C Q χ:=by
 refine xK FL ?_;unfold Kv Iq;refine⟨Jj (by show 0<=_;omega),λpr_ hpr=>?_⟩;have S0:=S.new (o:=.lst []) hpr;have F0:Fx A C (up C pr_ (.lst [])):=Uv S (Fx.refl _ _) hpr;have P0:up C pr_ (.lst []) pr_=some (.lst []):=Ze;generalize up C pr_ (.lst [])=C0 at S0 F0 P0;refine⟨_,FL,λpd hpd=>?_⟩;have S1:=S0.new (o:=.dic []) hpd;have F1:Fx A C (up C0 pd (.dic [])):=Uv S0 F0 hpd;have D1:up C0 pd (.dic []) pd=some (.dic []):=Ze;have P1:up C0 pd (.dic []) pr_=some (.lst []):=by rw[Zg (Jg P0 hpd)];exact P0
 generalize up C0 pd (.dic [])=C1 at S1 F1 D1 P1;have ok0:(⟨rt,[]⟩:Us).Ok:=⟨λx hx=>absurd hx (Nat.not_lt_zero _),λx hx=>absurd hx (Nat.not_lt_zero _),λx f hx=>by simp at hx⟩;refine Jt (n:=n+3) S1 ok0 (XO _) FL λC2 S2 F2=>?_;refine⟨Jj (by show 3<=_;omega),Jj (by show 1<=_;omega),λpp hpp=>?_⟩;have prf:=S.off hpr;have P2:C2 pr_=some (.lst []):=F2 _ _ prf.2.1 prf.2.2 P1;have pdf:=S0.off hpd;have D2:C2 pd=some (.dic []):=F2 _ _ pdf.2.1 pdf.2.2 D1;have F02:Fx A C C2:=F1.trans F2;have ppf:=S2.off hpp;have npp:pr_≠pp:=Jg P2 hpp;have cpp:=Rp S2 F02 hpp;refine T0 (λm τ C'=>∃v4 u rows ps vs,τ=[some (.ref A.r),some (tt t),some (.ref pr_),some (.ref pp),v4]/\Sl A C' u/\Fx A C C'/\C' pr_=some (.lst (rows.map nT))/\C' pp=some (.lst vs)/\Ma C' (10*rows.length) ps.reverse vs/\Kn t u rows ps/\m=qh ps) (m:=qh [((λ_=>none),t,0)])
  ⟨none,_,[],[((λ_=>none),t,0)],_,FL,S2.new hpp,Uv S2 F02 hpp,by rw[Zg npp];exact P2,Ze,.cons ⟨pd,[],FL,by rw[Zg (Jg D2 hpp)];exact D2,λx=>rfl,XO _⟩ .nil,Kn.start hl _ (XY FL),FL⟩ ?_
 rintro m τ C3 N ⟨v4,u3,rows,ps,vs,rfl,S3,F3,R3,P3,pl3,K3,rfl⟩ hN;refine⟨_,FL,Jj (by show 0<=_;omega),λp' hp'=>?_⟩;have P4:up C3 p' (.lst []) pp=some (.lst vs):=by rw[Zg (Jg P3 hp')];exact P3
 refine Bj P4 Ze ⟨_,FL,?_⟩;have S4:Sl A (up C3 p' (.lst [])) u3:=S3.new hp';have F4:Fx A C (up C3 p' (.lst [])):=Uv S3 F3 hp';have R4:up C3 p' (.lst []) pr_=some (.lst (rows.map nT)):=by rw[Zg (Jg R3 hp')];exact R3
 have pl4:Ma (up C3 p' (.lst [])) (10*rows.length) ps.reverse vs:=pl3.keep λc kv h=>by rw[Zg (Jg h hp')];exact h
 generalize up C3 p' (.lst [])=C4 at P4 S4 F4 R4 pl4
 cases ps with
 | nil=>
  have:vs=[]:=by have:=pl4.length;exact EO.mp this.symm
  subst this;refine Zl ⟨_,FL,?_⟩;exact q C4 pr_ u3 rows S4 F4 hpr R4 K3
 | cons p ps=>
  obtain⟨ws,v,rfl,plw,d,kv,rfl,hd,hE,hkv⟩:=pl4.last;have ne:(!(ws++[T.tup [tt p.2.1,.ref d,nT p.2.2]]).isEmpty)=true:=by simp
  rw[ne];refine Z6 ?_;have last:(ws++[T.tup [tt p.2.1,.ref d,nT p.2.2]])[(ws++[T.tup [tt p.2.1,.ref d,nT p.2.2]]).length-1]?=some (T.tup [tt p.2.1,.ref d,nT p.2.2]):=by simp
  have dl:(ws++[T.tup [tt p.2.1,.ref d,nT p.2.2]]).dropLast=ws:=by simp
  refine⟨_,FL,⟨_,_,FL,P4⟩,_,_,_,FL,FL,P4,last,?_⟩;rw[dl];have sz:=K3.sz;have lp:=Bl (p::ps);rw[YF] at lp;have lw:ws.length=ps.length:=by have:=plw.length;rw[BW] at this;omega
  have S5:=S4.other (o:=.lst ws) ppf;have R5:up C4 pp (.lst ws) pr_=some (.lst (rows.map nT)):=by rw[Zg npp];exact R4
  have P5:up C4 pp (.lst ws) pp=some (.lst ws):=Ze;have dpp:∀{c:WP} {kv:List (Z0×T)},C4 c=some (.dic kv)->c≠pp:=λh e=>by rw[e,P4] at h;cases h
  have k5:∀c kv,C4 c=some (.dic kv)->up C4 pp (.lst ws) c=some (.dic kv):=λc kv h=>by rw[Zg (dpp h)];exact h
  have F5:Fx A C (up C4 pp (.lst ws)):=λc w m1 m2 h=>by rw[Zg (Jg h cpp)];exact F4 c w m1 m2 h
  have d5:=k5 _ _ hd;have plw5:=plw.keep k5;generalize up C4 pp (.lst ws)=C5 at S5 R5 P5 F5 d5 plw5;refine⟨_,FL,⟨_,_,FL,R5⟩,_,FL,_,Jp,_,_,_,FL,FL,R5,Yu (by rw[XI];omega),?_⟩;have er:rows.map nT++[nT p.2.2]=(rows++[p.2.2]).map nT:=by rw[XL];rfl
  rw[er];have S6:=S5.other (o:=.lst ((rows++[p.2.2]).map nT)) prf;have P6:up C5 pr_ (.lst ((rows++[p.2.2]).map nT)) pp=some (.lst ws):=by rw[Zg npp.symm];exact P5
  have R6:up C5 pr_ (.lst ((rows++[p.2.2]).map nT)) pr_=some (.lst ((rows++[p.2.2]).map nT)):=Ze;have k6:∀c kv,C5 c=some (.dic kv)->up C5 pr_ (.lst ((rows++[p.2.2]).map nT)) c=some (.dic kv):=λc kv h=>by rw[Zg λe=>by rw[e,R5] at h;cases h];exact h
  have F6:Fx A C (up C5 pr_ (.lst ((rows++[p.2.2]).map nT))):=λc w m1 m2 h=>by rw[Zg (Jg h hpr)];exact F5 c w m1 m2 h
  have d6:=k6 _ _ d5;have plw6:=plw5.keep k6;generalize up C5 pr_ (.lst ((rows++[p.2.2]).map nT))=C6 at S6 P6 R6 F6 d6 plw6;obtain⟨hok,hlok⟩:=K3.pk p (BD ..);obtain⟨kk,RR,hT⟩:=hw;obtain⟨σ0,R',w1,w2,w3⟩:=K3.co kk RR hT;obtain⟨cs,r',w4,_,_⟩:=w3.take;have ln:=K3.len;refine⟨_,FL,⟨_,_,FL,P6⟩,_,FL,_,FL,_,Zr,_,FL,_,Yl,_,FL,_,Jp,?_⟩;dsimp only[Zv];refine uw (n:=n) (t:=p.2.1) (E:=p.1) (s:=p.2.2) (Lv hlok).1 S6 K3.o K3.c hok.1 (by omega) hE hok.2 d6 (by omega) ⟨σ0,cs,w1,w4⟩ λC7 p7 u7 qs v7 S7 F7 hp7 P7 pl7 st hq=>?_;have P8:C7 pp=some (.lst ws):=F7 _ _ ppf.2.1 ppf.2.2 P6;have R8:C7 pr_=some (.lst ((rows++[p.2.2]).map nT)):=F7 _ _ prf.2.1 prf.2.2 R6;refine⟨_,_,FL,P7,λp8 hp8=>?_⟩;have K9:=K3.step st hq;have lq:=Bl (qs++ps);have s9:=K9.sz;rw[BA] at lq;have l7:v7.length=qs.length:=pl7.length.symm;have P9:up C7 p8 (.lst v7.reverse) pp=some (.lst ws):=by rw[Zg (Jg P8 hp8)];exact P8
  refine⟨_,_,_,_,FL,FL,P9,Ze,by rw[BW];exact Jj (by omega),?_⟩;have S8:=S7.new (o:=.lst v7.reverse) hp8;have S9:=S8.other (o:=.lst (ws++v7.reverse)) ppf;have F67:=F6.trans F7;have c8:=Rp S7 F67 hp8;have k9:∀c kv,C7 c=some (.dic kv)->up (up C7 p8 (.lst v7.reverse)) pp (.lst (ws++v7.reverse)) c=some (.dic kv):=λc kv h=>by
   rw[Zg (λe=>by rw[e,P8] at h;cases h),Zg (Jg h hp8)];exact h
  refine hN (qh (qs++ps)) _ _ (by rw[BA,BH] at s9;omega) ⟨_,u7,rows++[p.2.2],qs++ps,_,FL,S9,λc w m1 m2 h=>?_,?_,Ze,?_,K9,FL⟩
  ·rw[Zg (Jg h cpp),Zg (Jg h c8)];exact F67 c w m1 m2 h
  ·rw[Zg npp,Zg (Jg R8 hp8)];exact R8
  ·rw[List.reverse_append];have lr:(rows++[p.2.2]).length=rows.length+1:=by rw[BA];rfl
   rw[lr];refine Ma.app ?_ ?_
   ·exact((Ma.mono plw6 ⟨_,S6⟩ F7).keep k9).more (by omega)
   ·exact(pl7.rev.keep k9).more (by omega)
end
end K22
namespace Fn
open PySem WL
def Kd.sz:Kd->Nat
 | .op _=>1
 | .k0 _=>1
 | .k1 _ a=>1+a.sz
 | .k2 _ a b=>1+(a.sz+b.sz)
def Kd.ops:Kd->List Nat
 | .op n=>[n]
 | .k0 _=>[]
 | .k1 _ a=>a.ops
 | .k2 _ a b=>a.ops++b.ops
def ext (acc l:List Nat):List Nat:=l.foldl (λa j=>if j∈a then a else a++[j]) acc
def xk {acc l m:List Nat}:ext acc (l++m)=ext (ext acc l) m:=EQ ..
def tX {acc:List Nat}:∀{l:List Nat},(∀j∈l,j∈acc)->ext acc l=acc
 | [],_=>rfl
 | j::l,h=>by
  show ext (if j∈acc then acc else acc++[j]) l=acc;rw[XY (h j (BD ..))];exact tX λi hi=>h i (XV _ hi)
structure Ms where
 P:List Nat
 M:Nat->Option Kd
 O:List Nat
 B:List Nat
def set (M:Nat->Option Kd)(r:Nat)(k:Kd):Nat->Option Kd:=λq=>if q=r then some k else M q
def vl (M:Nat->Option Kd)(q:Nat):Kd:=(M q).getD (.op 0)
def Us.within (u:Us)(f:Fm):List Nat:=f.ps.map u.rt
def Us.told (u:Us)(M:Nat->Option Kd)(f:Fm):Kd:=f.ev λp=>vl M (u.rt p)
inductive fC (u:Us):Ms->Ms->Prop
 | skip {r P M O B k}:M r=some k->fC u ⟨r::P,M,O,B⟩ ⟨P,M,O,B⟩
 | opn {r P M O B}:M r=none->u.F[r]?=some none->fC u ⟨r::P,M,O,B⟩ ⟨P,set M r (.op O.length),O++[r],B⟩
 | beg {r P M O B f}:M r=none->u.F[r]?=some (some f)->r∉B->(∀q∈u.within f,¬(q∈r::B/\M q=none))->fC u ⟨r::P,M,O,B⟩ ⟨u.within f++r::P,M,O,r::B⟩
 | fin {r P M O B f}:M r=none->u.F[r]?=some (some f)->r∈B->(∀q∈u.within f,M q≠none)->fC u ⟨r::P,M,O,B⟩ ⟨P,set M r (u.told M f),O,B⟩
inductive rc (u:Us):Ms->Nat->Ms->Prop
 | done {s}:rc u s 0 s
 | step {s s' s'' n}:fC u s s'->rc u s' n s''->rc u s (n+1) s''
def rc.app (h:rc u s n s')(q:rc u s' m s''):rc u s (n+m) s'':=by
 induction h with
 | done=>rw[Nat.zero_add];exact q
 | step a b ih=>rw[Nat.add_right_comm];exact .step a (ih q)
structure wZ (u:Us)(M:Nat->Option Kd)(O:List Nat):Prop where
 root:∀q k,M q=some k->q<u.F.length/\u.rt q=q
 opn:∀q k,M q=some k->u.F[q]?=some none->∃i,k=.op i/\O[i]?=some q
 frm:∀q k f,M q=some k->u.F[q]?=some (some f)->k=u.told M f/\∀p∈u.within f,M p≠none
 ops:∀q k,M q=some k->∀j∈k.ops,j<O.length
 num:∀i q,O[i]?=some q->M q=some (.op i)/\u.F[q]?=some none
structure cK (u:Us)(μ:Nat->Nat)(r:Nat)(M:Nat->Option Kd)(O B:List Nat)(M':Nat->Option Kd)(O' B':List Nat):Prop where
 rd:wZ u M' O'
 keep:∀q k,M q=some k->M' q=some k
 low:∀q,M q=none->M' q≠none->μ q<=μ r
 here:∃k,M' r=some k/\ext (List.range O.length) k.ops=List.range O'.length
 beg:∀q∈B',q∈B\/M' q≠none
 sub:∀q∈B,q∈B'
section
variable {u:Us}{μ:Nat->Nat}{r:Nat}{M M':Nat->Option Kd}{O B:List Nat}
def Xj {k:Kd}:set M r k r=some k:=XY FL
def J6 {q:Nat}{k:Kd}(h:q≠r):set M r k q=M q:=XX h
def Mi {f:Fm}(h:∀p∈u.within f,M p=M' p):u.told M f=u.told M' f:=Kc λp hp=>by
 unfold vl;rw[h _ (XR.mpr ⟨p,hp,FL⟩)]
def nY {f:Fm}(R:wZ u M O)(hr:r<u.F.length/\u.rt r=r)(hn:M r=none)(hf:u.F[r]?=some (some f))(hw:∀q∈u.within f,M q≠none):wZ u (set M r (u.told M f)) O:=by
 have ne:∀{q k},M q=some k->q≠r:=λh e=>by rw[e,hn] at h;cases h
 have nw:∀q,M q≠none->set M r (u.told M f) q=M q:=λq h=>J6 λe=>h (by rw[e];exact hn);refine⟨λq k h=>?_,λq k h ho=>?_,λq k g h hg=>?_,λq k h j hj=>?_,λi q h=>?_⟩
 ·by_cases c:q=r
  ·rw[c];exact hr
  ·rw[J6 c] at h;exact R.root q k h
 ·by_cases c:q=r
  ·rw[c,hf] at ho;cases ho
  ·rw[J6 c] at h;exact R.opn q k h ho
 ·by_cases c:q=r
  ·subst c;rw[hf] at hg
   cases hg
   rw[Xj] at h
   cases h
   exact⟨Mi λp hp=>(nw p (hw p hp)).symm,λp hp=>by rw[nw p (hw p hp)];exact hw p hp⟩
  ·rw[J6 c] at h;obtain⟨h1,h2⟩:=R.frm q k g h hg;exact⟨h1.trans (Mi λp hp=>(nw p (h2 p hp)).symm),λp hp=>by rw[nw p (h2 p hp)];exact h2 p hp⟩
 ·by_cases c:q=r
  ·subst c;rw[Xj] at h
   cases h
   have pv:∀p∈f.ps,∀j∈(vl M (u.rt p)).ops,j<O.length:=λp hp j hj=>by
    cases e:M (u.rt p) with
    | none=>exact absurd e (hw _ (XR.mpr ⟨p,hp,FL⟩))
    | some k=>unfold vl at hj;rw[e] at hj;exact R.ops _ k e j hj
   cases f with
   | f0 g=>cases hj
   | f1 g a=>exact pv a (by simp[Fm.ps]) j hj
   | f2 g a b=>
    rcases XS.mp hj with hj | hj
    ·exact pv a (by simp[Fm.ps]) j hj
    ·exact pv b (by simp[Fm.ps]) j hj
  ·rw[J6 c] at h;exact R.ops q k h j hj
 ·obtain⟨h1,h2⟩:=R.num i q h;exact⟨by rw[J6 (ne h1)];exact h1,h2⟩
def nX (R:wZ u M O)(hr:r<u.F.length/\u.rt r=r)(hn:M r=none)(hf:u.F[r]?=some none):wZ u (set M r (.op O.length)) (O++[r]):=by
 have nw:∀q,M q≠none->set M r (.op O.length) q=M q:=λq h=>J6 λe=>h (by rw[e];exact hn);refine⟨λq k h=>?_,λq k h ho=>?_,λq k g h hg=>?_,λq k h j hj=>?_,λi q h=>?_⟩
 ·by_cases c:q=r
  ·rw[c];exact hr
  ·rw[J6 c] at h;exact R.root q k h
 ·by_cases c:q=r
  ·subst c;rw[Xj] at h
   cases h
   exact⟨O.length,FL,by rw[CC (XE _),DL];rfl⟩
  ·rw[J6 c] at h;obtain⟨i,h1,h2⟩:=R.opn q k h ho;exact⟨i,h1,by rw[BP (BB.mp h2).1];exact h2⟩
 ·by_cases c:q=r
  ·subst c;rw[hf] at hg;cases hg
  ·rw[J6 c] at h;obtain⟨h1,h2⟩:=R.frm q k g h hg;exact⟨h1.trans (Mi λp hp=>(nw p (h2 p hp)).symm),λp hp=>by rw[nw p (h2 p hp)];exact h2 p hp⟩
 ·rw[BA,BH];by_cases c:q=r
  ·subst c;rw[Xj] at h
   cases h
   rw[XQ.mp hj];omega
  ·rw[J6 c] at h;have:=R.ops q k h j hj;omega
 ·by_cases c:i<O.length
  ·rw[BP c] at h;obtain⟨h1,h2⟩:=R.num i q h;exact⟨by rw[nw q (by rw[h1];intro z;cases z)];exact h1,h2⟩
  ·have hi:i=O.length:=by
    have:=(BB.mp h).1;rw[BA,BH] at this;omega
   subst hi;rw[CC (XE _),DL] at h
   cases h
   exact⟨Xj,hf⟩
def mQ {f:Fm}:(f.ev g).ops=(f.ps.map λp=>(g p).ops).flatten:=by
 cases f with
 | f0 w=>rfl
 | f1 w a=>show(g a).ops=(g a).ops++[];rw[YK]
 | f2 w a b=>show(g a).ops++(g b).ops=(g a).ops++((g b).ops++[]);rw[YK]
def kU (u:Us)(μ:Nat->Nat)(n:Nat):Prop:=∀r P M O B,μ r<n->r<u.F.length->u.rt r=r->wZ u M O->(∀q∈B,M q=none->μ r<μ q)->∃k M' O' B',rc u ⟨r::P,M,O,B⟩ k ⟨P,M',O',B'⟩/\cK u μ r M O B M' O' B'
def zt (ih:kU u μ m){P:List Nat}:∀(ws:List Nat) (M:Nat->Option Kd) (O B:List Nat),(∀w∈ws,w<u.F.length/\u.rt w=w/\μ w<m)->(∀q∈B,M q=none->m<=μ q)->wZ u M O->
  ∃k M' O' B',rc u ⟨ws++P,M,O,B⟩ k ⟨P,M',O',B'⟩/\wZ u M' O'/\(∀q k,M q=some k->M' q=some k)/\(∀q,M q=none->M' q≠none->μ q<m)/\(∀w∈ws,M' w≠none)/\
   ext (List.range O.length) (ws.map λw=>(vl M' w).ops).flatten=List.range O'.length/\(∀q∈B',q∈B\/M' q≠none)/\∀q∈B,q∈B'
 | [],M,O,B,_,_,R=>⟨0,M,O,B,.done,R,λ_ _ h=>h,λq h h'=>absurd h h',λw h=>(by cases h),FL,λq h=>.inl h,λq h=>h⟩
 | w::ws,M,O,B,hw,hB,R=>by
  obtain⟨w1,w2,w3⟩:=hw w (BD ..);obtain⟨k1,M1,O1,B1,r1,g1⟩:=ih w (ws++P) M O B w3 w1 w2 R λq hq h=>XG w3 (hB q hq h);have none1:∀q,M1 q=none->M q=none:=λq h=>by
   cases e:M q with
   | none=>rfl
   | some k=>rw[g1.keep q k e] at h;cases h
  obtain⟨k2,M2,O2,B2,r2,R2,kp2,lo2,in2,ex2,be2,su2⟩:=zt ih ws M1 O1 B1 (λv hv=>hw v (XV _ hv)) (λq hq h=>hB q ((g1.beg q hq).resolve_right λz=>z h) (none1 q h)) g1.rd;obtain⟨kk,h1,h2⟩:=g1.here;have e2:M2 w=some kk:=kp2 w kk h1;refine⟨k1+k2,M2,O2,B2,r1.app r2,R2,λq k h=>kp2 q k (g1.keep q k h),λq h h'=>?_,λv hv=>?_,?_,λq hq=>?_,λq hq=>su2 q (g1.sub q hq)⟩
  ·by_cases c:M1 q=none
   ·exact lo2 q c h'
   ·exact EI (g1.low q h c) w3
  ·rcases BC.mp hv with rfl | hv
   ·rw[e2];intro z;cases z
   ·exact in2 v hv
  ·rw[YI,CG,xk];have:vl M2 w=kk:=by unfold vl;rw[e2];rfl
   rw[this,h2];exact ex2
  ·rcases be2 q hq with h | h
   ·rcases g1.beg q h with h | h
    ·exact .inl h
    ·refine .inr λz=>h ?_
     cases e:M1 q with
     | none=>rfl
     | some k=>rw[kp2 q k e] at z;cases z
   ·exact .inr h
def lX (o:u.Ok)(hμ:∀r f,r<u.F.length->u.rt r=r->u.F[r]?=some (some f)->∀q∈u.within f,μ q<μ r):∀n,kU u μ n
 | 0=>λr P M O B h=>absurd h (FK _)
 | n+1=>λr P M O B hn hr1 hr2 R hB=>by
  cases e:M r with
  | some k=>
   refine⟨1,M,O,B,.step (.skip e) .done,R,λ_ _ h=>h,λq h h'=>absurd h h',⟨k,e,tX λj hj=>DC.mpr (R.ops r k e j hj)⟩,λq h=>.inl h,λq h=>h⟩
  | none=>
   obtain⟨fo,hf⟩:∃f,u.F[r]?=some f:=⟨_,BO hr1⟩
   cases fo with
   | none=>
    refine⟨1,_,_,B,.step (.opn e hf) .done,nX R ⟨hr1,hr2⟩ e hf,λq k h=>?_,λq h h'=>?_,⟨_,Xj,?_⟩,λq h=>.inl h,λq h=>h⟩
    ·rw[J6 λz=>by rw[z,e] at h;cases h];exact h
    ·by_cases c:q=r
     ·rw[c];exact XE _
     ·rw[J6 c] at h';exact absurd h h'
    ·show(if O.length∈List.range O.length then List.range O.length else List.range O.length++[O.length])=_;rw[if_neg (by simp),List.length_append,List.length_singleton,List.range_succ]
   | some f=>
    have hw:=hμ r f hr1 hr2 hf;have rB:r∉B:=λh=>BL _ (hB r h e);have wr:∀w∈u.within f,w<u.F.length/\u.rt w=w/\μ w<μ r:=λw h=>by
     obtain⟨p,hp,rfl⟩:=XR.mp h;have:=o.ps r f hf p hp;exact⟨o.lt p this,o.id p this,hw _ h⟩
    have nb:∀q∈u.within f,¬(q∈r::B/\M q=none):=λq h z=>by
     have l:=hw q h
     rcases BC.mp z.1 with c | c
     ·rw[c] at l;exact BL _ l
     ·exact BL _ (Nat.lt_trans l (hB q c z.2))
    have ih:kU u μ (μ r):=λr' P' M' O' B' h=>lX o hμ n r' P' M' O' B' (by omega);obtain⟨k2,M2,O2,B2,r2,R2,kp2,lo2,in2,ex2,be2,su2⟩:=zt ih (P:=r::P) (u.within f) M O (r::B) wr (λq hq h=>by
     rcases BC.mp hq with c | c
     ·rw[c];exact XE _
     ·exact CI (hB q c h)) R
    have e2:M2 r=none:=by
     cases z:M2 r with
     | none=>rfl
     | some k=>exact absurd (lo2 r e (by rw[z];intro y;cases y)) (BL _)
    refine⟨1+(k2+1),_,O2,B2,.app (.step (.beg e hf rB nb) .done) (r2.app (.step (.fin e2 hf (su2 r (BD ..)) in2) .done)),nY R2 ⟨hr1,hr2⟩ e2 hf in2,λq k h=>?_,λq h h'=>?_,⟨_,Xj,?_⟩,λq hq=>?_,λq hq=>su2 q (XV _ hq)⟩
    ·rw[J6 λz=>by rw[z,e] at h;cases h];exact kp2 q k h
    ·by_cases c:q=r
     ·rw[c];exact XE _
     ·rw[J6 c] at h';exact CI (lo2 q h h')
    ·rw[<-ex2];congr 1;show(f.ev λp=>vl M2 (u.rt p)).ops=_;rw[mQ];unfold Us.within;rw[YE];rfl
    ·rcases be2 q hq with h | h
     ·rcases BC.mp h with c | c
      ·exact .inr (by rw[c,Xj];intro z;cases z)
      ·exact .inl c
     ·exact .inr (by
       by_cases c:q=r
       ·rw[c,Xj];intro z;cases z
       ·rw[J6 c];exact h)
end
end Fn
namespace K22
open PySem PySem.Spec PyProof.Rows L2 WL Fn
def Zw:Kd->T
 | .op n=>.tup [.str "open",nT n]
 | .k0 g=>.tup [.str g]
 | .k1 g a=>.tup [.str g,Zw a]
 | .k2 g a b=>.tup [.str g,Zw a,Zw b]
def lI {f:Fm}:Zw (f.ev g)=.tup (.str f.tag::f.ps.map λp=>Zw (g p)):=by cases f<;>rfl
abbrev ik (q:Nat):Z0:=.inl (q:Int)
def tF (h:ik a=ik b):a=b:=by injection h with h;omega
def Ui:∀(n:Nat) (l:List Nat),l.Nodup->(∀x∈l,x<n)->l.length<=n
 | 0,l,_,h=>by
  cases l with
  | nil=>exact XE _
  | cons x l=>exact absurd (h x (BD ..)) (FK _)
 | n+1,l,nd,h=>by
  by_cases c:n∈l
  ·have:=Ui n (l.erase n) (nd.erase n) λx hx=>by
    have h1:=h x (List.mem_of_mem_erase hx);have h2:x≠n:=λe=>by subst e;exact(List.Nodup.not_mem_erase nd) hx
    omega
   rw[List.length_erase_of_mem c] at this;omega
  ·have:=Ui n l nd λx hx=>by
    have h1:=h x hx;have h2:x≠n:=λe=>by subst e;exact c hx
    omega
   omega
structure KD (kv:List (Z0×T))(qs:List Nat)(m:Nat):Prop where
 keys:kv.map (·.1)=qs.map ik
 nd:qs.Nodup
 lt:∀q∈qs,q<m
section
variable {kv:List (Z0×T)}{qs:List Nat}{m r:Nat}{v:T}{M:Nat->Option Kd}{k:Kd}{B:List Nat}
def KD.len (h:KD kv qs m):kv.length<=m:=by
 have e:=congrArg List.length h.keys;rw[XI,XI] at e;rw[e];exact Ui m qs h.nd h.lt
def KD.mem (h:KD kv qs m):(Yj kv (ik r)).isSome=true↔r∈qs:=by
 unfold Yj;rw[DH,List.find?_isSome];constructor
 ·rintro⟨z,hz,e⟩;have:z.1∈qs.map ik:=by rw[<-h.keys];exact XR.mpr ⟨z,hz,FL⟩
  obtain⟨q,hq,e2⟩:=XR.mp this;have e3:z.1=ik r:=by simpa using e
  rw[<-tF (e2.trans e3)];exact hq
 ·intro hr;have:ik r∈kv.map (·.1):=by rw[h.keys];exact XR.mpr ⟨r,hr,FL⟩
  obtain⟨z,hz,e⟩:=XR.mp this;exact⟨z,hz,by simpa using e⟩
def KD.put (h:KD kv qs m)(hn:r∉qs)(hr:r<m):KD (Yy kv (ik r) v) (qs++[r]) m:=by
 refine⟨?_,DX.mpr ⟨h.nd,BZ.mpr ⟨ED,CK⟩,λa ha b hb=>by rw[XQ.mp hb];exact λe=>hn (e▸ha)⟩,λq hq=>?_⟩
 ·rw[Gv,XX,h.keys,XL]
  ·rfl
  ·intro e;obtain⟨z,hz,e⟩:=DA.mp e;exact hn (h.mem.mp (by unfold Yj;rw[DH,List.find?_isSome];exact⟨z,hz,e⟩))
 ·rcases XS.mp hq with hq | hq
  ·exact h.lt q hq
  ·rw[XQ.mp hq];exact hr
def DM (kv:List (Z0×T))(M:Nat->Option Kd)(m:Nat):Prop:=(∀q,Yj kv (ik q)=(M q).map Zw)/\∃qs,KD kv qs m
def DB (kv:List (Z0×T))(B:List Nat)(m:Nat):Prop:=∃qs,KD kv qs m/\∀q,q∈qs↔q∈B
def DM.put (h:DM kv M m)(hn:M r=none)(hr:r<m):DM (Yy kv (ik r) (Zw k)) (set M r k) m:=by
 obtain⟨h1,qs,h2⟩:=h;refine⟨λq=>?_,_,h2.put (λz=>?_) hr⟩
 ·rw[Sa];by_cases c:q=r
  ·subst c;rw[XY FL,Xj];rfl
  ·rw[XX λe=>c (tF e),J6 c];exact h1 q
 ·have:=h2.mem.mpr z;rw[h1 r,hn] at this
  cases this
def DM.isS (h:DM kv M m)(q:Nat):(Yj kv (ik q)).isSome=(M q).isSome:=by rw[h.1 q,DH]
def DB.put (h:DB kv B m)(hn:r∉B)(hr:r<m):DB (Yy kv (ik r) v) (r::B) m:=by
 obtain⟨qs,h1,h2⟩:=h;refine⟨_,h1.put (λz=>hn ((h2 r).mp z)) hr,λq=>?_⟩;rw[XS,XQ,BC,h2 q];exact or_comm
def DB.isS (h:DB kv B m)(q:Nat):(Yj kv (ik q)).isSome=decide (q∈B):=by
 obtain⟨qs,h1,h2⟩:=h;rw[Bool.eq_iff_iff,h1.mem,h2 q,decide_eq_true_iff]
end
def Fy (A:Sd)(ra oa:WP)(C C':Hw):Prop:=∀b o,b≠A.f->b≠A.l->b≠ra->b≠oa->C b=some o->C' b=some o
structure Ds (A:Sd)(C0:Hw)(ra oa ba pa:Addr):Prop where
 ro:ra≠oa
 rb:ra≠ba
 rp:ra≠pa
 ob:oa≠ba
 op:oa≠pa
 bp:ba≠pa
 r:ra≠A.r/\ra≠A.f/\ra≠A.l
 o:oa≠A.r/\oa≠A.f/\oa≠A.l
 b:ba≠A.r/\ba≠A.f/\ba≠A.l
 p:pa≠A.r/\pa≠A.f/\pa≠A.l
 nb:C0 ba=none
 np:C0 pa=none
structure Hq (A:Sd)(C0:Hw)(u:Us)(ra oa ba pa:Addr)(C:Hw)(kv:List (Z0×T))(os:List T)(kb:List (Z0×T))(ps:List T):Prop where
 s:Sl A C u
 f:Fy A ra oa C0 C
 r:C ra=some (.dic kv)
 o:C oa=some (.lst os)
 b:C ba=some (.dic kb)
 p:C pa=some (.lst ps)
section
variable {A:Sd}{C0 C C':Hw}{u:Us}{ra oa ba pa:WP}{kv kb kv':List (Z0×T)}{os ps os' ps':List T}{o:O}
def Hq.new (H:Hq A C0 u ra oa ba pa C kv os kb ps)(h:C q=none):Hq A C0 u ra oa ba pa (up C q o) kv os kb ps:=
 have k:∀{c:WP} {w:O},C c=some w->up C q o c=some w:=λe=>by rw[Zg (Jg e h)];exact e
 ⟨H.s.new h,λc w m1 m2 m3 m4 e=>k (H.f c w m1 m2 m3 m4 e),k H.r,k H.o,k H.b,k H.p⟩
def Hq.of (H:Hq A C0 u ra oa ba pa C kv os kb ps)(D:Ds A C0 ra oa ba pa)(S:Sl A C' u)(F:Fx A C C'):Hq A C0 u ra oa ba pa C' kv os kb ps:=
 ⟨S,λc w m1 m2 m3 m4 e=>F c w m1 m2 (H.f c w m1 m2 m3 m4 e),F _ _ D.r.2.1 D.r.2.2 H.r,F _ _ D.o.2.1 D.o.2.2 H.o,F _ _ D.b.2.1 D.b.2.2 H.b,F _ _ D.p.2.1 D.p.2.2 H.p⟩
def Hq.upP (H:Hq A C0 u ra oa ba pa C kv os kb ps)(D:Ds A C0 ra oa ba pa):Hq A C0 u ra oa ba pa (up C pa (.lst ps')) kv os kb ps':=
 ⟨H.s.other D.p,λc w m1 m2 m3 m4 e=>by rw[Zg (Jg e D.np)];exact H.f c w m1 m2 m3 m4 e,by rw[Zg D.rp];exact H.r,by rw[Zg D.op];exact H.o,by rw[Zg D.bp];exact H.b,Ze⟩
def Hq.upR (H:Hq A C0 u ra oa ba pa C kv os kb ps)(D:Ds A C0 ra oa ba pa):Hq A C0 u ra oa ba pa (up C ra (.dic kv')) kv' os kb ps:=
 ⟨H.s.other D.r,λc w m1 m2 m3 m4 e=>by rw[Zg m3];exact H.f c w m1 m2 m3 m4 e,Ze,by rw[Zg D.ro.symm];exact H.o,by rw[Zg D.rb.symm];exact H.b,by rw[Zg D.rp.symm];exact H.p⟩
def Hq.upO (H:Hq A C0 u ra oa ba pa C kv os kb ps)(D:Ds A C0 ra oa ba pa):Hq A C0 u ra oa ba pa (up C oa (.lst os')) kv os' kb ps:=
 ⟨H.s.other D.o,λc w m1 m2 m3 m4 e=>by rw[Zg m4];exact H.f c w m1 m2 m3 m4 e,by rw[Zg D.ro];exact H.r,Ze,by rw[Zg D.ob.symm];exact H.b,by rw[Zg D.op.symm];exact H.p⟩
def Hq.upB (H:Hq A C0 u ra oa ba pa C kv os kb ps)(D:Ds A C0 ra oa ba pa):Hq A C0 u ra oa ba pa (up C ba (.dic kv')) kv os kv' ps:=
 ⟨H.s.other D.b,λc w m1 m2 m3 m4 e=>by rw[Zg (Jg e D.nb)];exact H.f c w m1 m2 m3 m4 e,by rw[Zg D.rb];exact H.r,by rw[Zg D.ob];exact H.o,Ze,by rw[Zg D.bp.symm];exact H.p⟩
end
structure aH (A:Sd)(C0:Hw)(u:Us)(ra oa ba pa:Addr)(C:Hw)(w:Ms):Prop where
 h:∃kv kb,Hq A C0 u ra oa ba pa C kv (w.O.map nT) kb (w.P.reverse.map nT)/\DM kv w.M u.F.length/\DB kb w.B u.F.length
 ol:w.O.Nodup/\∀q∈w.O,q<u.F.length/\w.M q≠none
 bl:w.B.Nodup/\∀q∈w.B,q<u.F.length
 pl:w.P.length<=1+2*w.B.length
 pr:∀q∈w.P,q<u.F.length/\u.rt q=q
section
variable {A:Sd}{C C':Hw}{u:Us}{Q:WK}{χ:WX}{n r k:Nat}{ra oa:WP}{kv:List (Z0×T)}{M M':Nat->Option Kd}{O O' B':List Nat}
def sA {x:T}{xs:List T}:Dw (x::xs) none (some 1)=[x]:=by
 unfold Dw HT.sIx;simp
def Ba (S:Sl A C u)(o:u.Ok)(hn:u.F.length<=7000)(hr:r<u.F.length)(hrt:u.rt r=r)(hra:C ra=some (.dic kv))(dm:DM kv M u.F.length)(hoa:C oa=some (.lst (O.map nT)))(oa1:oa≠A.f)(oa2:oa≠A.l)
  (ol:O.Nodup/\∀q∈O,q<u.F.length/\M q≠none) (run:rc u ⟨[r],M,O,[]⟩ k ⟨[],M',O',B'⟩)
  (q:∀C' kv',Sl A C' u->Fy A ra oa C C'->C' ra=some (.dic kv')->DM kv' M' u.F.length->C' oa=some (.lst (O'.map nT))->(O'.Nodup/\∀q∈O',q<u.F.length/\M' q≠none)->Q .non C'):Yg pr (n+3) Bu [.ref A.r,nT r,.ref ra,.ref oa] C Q χ:=by
 refine Cj FL ?_;unfold Sn Qc;intro ba hba;refine⟨_,FL,Jj (by show 1<=_;omega),λpa hpa=>?_⟩;have raf:ra≠A.r/\ra≠A.f/\ra≠A.l:=by
  obtain⟨_,_,h⟩:=id S;exact⟨λe=>(by rw[e,h.r] at hra;cases hra),λe=>(by rw[e,h.f] at hra;cases hra),λe=>(by rw[e,h.l] at hra;cases hra)⟩
 have oaf:oa≠A.r:=by
  obtain⟨_,_,h⟩:=id S;exact λe=>(by rw[e,h.r] at hoa;cases hoa)
 have nbp:ba≠pa:=λe=>by rw[<-e,Ze] at hpa;cases hpa
 have hpa0:C pa=none:=by rw[Zg nbp.symm] at hpa;exact hpa
 have D:Ds A C ra oa ba pa:=⟨λe=>(by rw[e,hoa] at hra;cases hra),Jg hra hba,Jg hra hpa0,Jg hoa hba,Jg hoa hpa0,nbp,raf,⟨oaf,oa1,oa2⟩,S.off hba,S.off hpa0,hba,hpa0⟩;have H0:Hq A C u ra oa ba pa (up (up C ba (.dic [])) pa (.lst [nT r])) kv (O.map nT) [] [nT r]:=by
  refine⟨(S.new hba).new hpa,λc w m1 m2 m3 m4 e=>by rw[Zg (Jg e hpa0),Zg (Jg e hba)];exact e,by rw[Zg D.rp,Zg D.rb];exact hra,by rw[Zg D.op,Zg D.ob];exact hoa,by rw[Zg nbp];exact Ze,Ze⟩
 generalize up (up C ba (.dic [])) pa (.lst [nT r])=C1 at H0;refine T0 (λm τ C'=>∃v6 v7 v8 w,τ=[some (.ref A.r),some (nT r),some (.ref ra),some (.ref oa),some (.ref ba),some (.ref pa),v6,v7,v8]/\aH A C u ra oa ba pa C' w/\rc u w m ⟨[],M',O',B'⟩) (m:=k)
  ⟨none,none,none,⟨[r],M,O,[]⟩,FL,⟨⟨kv,[],H0,dm,[],⟨FL,CK,λq h=>(by cases h)⟩,λq=>Iff.rfl⟩,ol,⟨CK,λq h=>(by cases h)⟩,XE _,λq h=>by rw[XQ.mp h];exact⟨hr,hrt⟩⟩,run⟩ ?_
 rintro m τ C2 N ⟨v6,v7,v8,w,rfl,⟨⟨kv2,kb2,H2,dm2,db2⟩,ol2,bl2,pl2,pr2⟩,run2⟩ hN;refine⟨_,FL,Jj (by show 0<=_;omega),λp' hp'=>?_⟩;have H3:=H2.new (o:=.lst []) hp';refine Bj H3.p Ze ⟨_,FL,?_⟩;generalize up C2 p' (.lst [])=C3 at H3;have olen:w.O.length<=u.F.length:=Ui _ _ ol2.1 λx hx=>(ol2.2 x hx).1;have blen:w.B.length<=u.F.length:=Ui _ _ bl2.1 bl2.2
 cases run2 with
 | done=>
  refine Zl ?_;exact q C3 kv2 H3.s H3.f H3.r dm2 H3.o ol2
 | @step _ w' _ m' st J4=>
  obtain⟨r0,P,eP⟩:∃r0 P,w.P=r0::P:=by cases st<;>exact⟨_,_,FL⟩
  obtain⟨Pw,Mw,Ow,Bw⟩:=w
  cases eP
  dsimp only at H3 dm2 db2 ol2 bl2 pl2 pr2 olen blen;obtain⟨r1,r2⟩:=pr2 r0 (BD ..);have pr3:∀q∈P,q<u.F.length/\u.rt q=q:=λq h=>pr2 q (XV _ h);have eP:(r0::P).reverse.map nT=P.reverse.map nT++[nT r0]:=by simp
  rw[eP] at H3;refine Fb (by show(!((r0::P).reverse.map nT).isEmpty)=true;rw[eP];simp) ?_;have last:(P.reverse.map nT++[nT r0])[(P.reverse.map nT++[nT r0]).length-1]?=some (nT r0):=by simp
  refine⟨_,FL,⟨_,_,FL,H3.p⟩,_,_,_,FL,FL,H3.p,last,?_⟩;rw[List.dropLast_concat];have H4:=H3.upP (ps':=P.reverse.map nT) D;generalize up C3 pa (.lst (P.reverse.map nT))=C4 at H4;have pl3:P.length+1<=1+2*Bw.length:=pl2;refine⟨_,FL,_,FL,_,_,_,FL,FL,.inl H4.r,⟨_,FL,?_⟩⟩;have nxt:∀{fo:Option Fm},Mw r0=none->u.F[r0]?=some fo->∀{D':We} {X:WS} {τ:Sw} {b:Bool},b=false->True:=λ_ _ _ _ _ _ _=>trivial
  cases st with
  | skip e=>
   refine Fb (by rw[XX (by decide),dm2.isS,e];rfl) ?_;exact hN m' _ _ (BJ _) ⟨_,_,_,⟨P,Mw,Ow,Bw⟩,FL,⟨⟨kv2,kb2,H4,dm2,db2⟩,ol2,bl2,by show P.length<=1+2*Bw.length;omega,pr3⟩,J4⟩
  | opn e hf=>
   refine Ly (by rw[XX (by decide),dm2.isS,e];rfl) ?_;obtain⟨_,_,S4⟩:=id H4.s;refine⟨_,FL,_,_,_,_,FL,S4.r,FL,FL,_,FL,?_⟩;dsimp only[Zv];refine Ib (n:=n) (f:=none) H4.s o r1 (by rw[r2];exact hf) λC5 S5 F5=>?_;have H5:=H4.of D S5 F5;refine⟨_,FL,FL,true,FL,Z6 ?_⟩;refine⟨_,FL,_,FL,_,H5.o,Jj (by show 2<=_;omega),_,rfl,_,rfl,_,_,_,rfl,rfl,H5.r,Yu (by obtain⟨_,_,kd⟩:=dm2;have:=kd.len;omega),?_⟩;rw[XI];have H6:=H5.upR (kv':=Yy kv2 (ik r0) (Zw (.op Ow.length))) D;refine⟨_,FL,⟨_,_,FL,H6.o⟩,_,FL,_,_,_,FL,FL,H6.o,Yu (by rw[XI];omega),?_⟩;have H7:=H6.upO (os':=Ow.map nT++[nT r0]) D;have eo:Ow.map nT++[nT r0]=(Ow++[r0]).map nT:=by rw[XL];rfl
   have n0:r0∉Ow:=λh=>(ol2.2 r0 h).2 e;refine hN m' _ _ (BJ _) ⟨_,_,_,⟨P,set Mw r0 (.op Ow.length),Ow++[r0],Bw⟩,FL,⟨⟨_,kb2,by rw[eo] at H7 |-;exact H7,dm2.put e r1,db2⟩,⟨?_,λx hx=>?_⟩,bl2,by show P.length<=1+2*Bw.length;omega,pr3⟩,J4⟩
   ·exact DX.mpr ⟨ol2.1,BZ.mpr ⟨ED,CK⟩,λa ha b hb=>by rw[XQ.mp hb];exact λz=>n0 (z▸ha)⟩
   ·rcases XS.mp hx with hx | hx
    ·have:=ol2.2 x hx;exact⟨this.1,by show set Mw r0 _ x≠none;rw[J6 λz=>n0 (by rw[<-z];exact hx)];exact this.2⟩
    ·rw[XQ.mp hx];exact⟨r1,by show set Mw r0 _ r0≠none;rw[Xj];intro z;cases z⟩
  | @beg _ _ _ _ _ f e hf hB hw=>
   refine Ly (by rw[XX (by decide),dm2.isS,e];rfl) ?_;obtain⟨_,_,S4⟩:=id H4.s;refine⟨_,FL,_,_,_,_,FL,S4.r,FL,FL,_,FL,?_⟩;dsimp only[Zv];refine Ib (n:=n) (f:=some f) H4.s o r1 (by rw[r2];exact hf) λC5 S5 F5=>?_;have H5:=H4.of D S5 F5;rw[Ae];refine⟨_,FL,FL,false,FL,Zl ?_⟩;refine⟨_,FL,_,FL,zj,?_⟩;rw[Ry];have hps:∀p∈f.ps,p<u.F.length:=o.ps r0 f hf;refine Sg (λi acc C'=>Hq A C u ra oa ba pa C' kv2 (Ow.map nT) kb2 (P.reverse.map nT)/\acc=((f.ps.take i).map u.rt).map nT) ⟨H5,FL⟩ (λ_ _ _ _ _=>trivial) ?_ ?_
   ·rintro i x acc C6 N6 hx ⟨H6,rfl⟩ hN6;rw[XM] at hx;obtain⟨p,hp,rfl⟩:∃p,f.ps[i]?=some p/\nT p=x:=by
     cases z:f.ps[i]? with
     | none=>rw[z] at hx;cases hx
     | some p=>rw[z] at hx;exact⟨p,FL,YH hx⟩
    obtain⟨_,_,S6⟩:=id H6.s;have hi:i<f.ps.length:=(BB.mp hp).1;have fl:f.ps.length<=2:=by cases f<;>simp[Fm.ps]
    refine Z6 (q:=N6 (((f.ps.take i).map u.rt).map nT) C6) ⟨_,FL,_,_,_,_,FL,S6.r,FL,FL,_,FL,?_⟩;dsimp only[Zv];refine Ut (n:=n+1) H6.s (hps p (BE hp)) λC7 S7 F7=>⟨Yu (by rw[XI,XI,YM];omega),hN6 _ _ ⟨H6.of D S7 F7,?_⟩⟩;rw[YD,hp,XL,XL];rfl
   rintro acc C6 ⟨H6,rfl⟩ wa hwa;rw[XI,CB];have H7:=H6.new (o:=.lst ((u.within f).map nT)) hwa;have W7:up C6 wa (.lst ((u.within f).map nT)) wa=some (.lst ((u.within f).map nT)):=Ze;have wd:wa≠ra/\wa≠oa/\wa≠ba/\wa≠pa:=⟨(Jg H6.r hwa).symm,(Jg H6.o hwa).symm,(Jg H6.b hwa).symm,(Jg H6.p hwa).symm⟩;show _;generalize hC7:up C6 wa (.lst (((f.ps).map u.rt).map nT))=C7;rw[show up C6 wa (.lst ((u.within f).map nT))=C7 from hC7] at H7 W7;refine⟨_,FL,_,FL,_,_,_,FL,FL,.inl H7.b,⟨_,FL,Ly (by rw[if_neg (by decide),db2.isS];simpa using hB) ?_⟩⟩;refine⟨_,rfl,_,rfl,_,_,_,rfl,rfl,H7.b,Yu (by obtain⟨_,kd,_⟩:=db2;have:=kd.len;omega),?_⟩;have db3:=db2.put (v:=.bl true) hB r1;have H8:=H7.upB (kv':=Yy kb2 (ik r0) (.bl true)) D;have W8:up C7 ba (.dic (Yy kb2 (ik r0) (.bl true))) wa=some (.lst ((u.within f).map nT)):=by rw[Zg wd.2.2.1];exact W7
   generalize up C7 ba (.dic (Yy kb2 (ik r0) (.bl true)))=C8 at H8 W8;have wl:(u.within f).length<=2:=by unfold Us.within;rw[List.length_map];cases f<;>simp[Fm.ps]
   refine⟨_,FL,_,W8,?_⟩;refine Jk (λ_=>.bl false) W8 (by rw[XI];exact Jj (by omega)) (λx hx R hR=>?_) λp9 hp9=>?_
   ·obtain⟨q0,hq0,rfl⟩:=XR.mp hx;refine⟨_,FL,_,FL,_,_,_,FL,FL,.inl H8.b,⟨_,FL,?_⟩⟩;by_cases c:q0∈r0::Bw
    ·refine Fb (by rw[if_neg (by decide),db3.isS];simpa using c) ?_;refine⟨_,FL,_,FL,_,_,_,FL,FL,.inl H8.r,?_⟩;rw[XY FL,dm2.isS]
     cases z:Mw q0 with
     | none=>exact absurd ⟨c,z⟩ (hw q0 hq0)
     | some k0=>exact hR
    ·exact Ly (by rw[if_neg (by decide),db3.isS];simpa using c) hR
   have nf:((u.within f).map nT).map (λ_=>T.bl false)=(List.replicate (u.within f).length false).map T.bl:=by
    rw[YE,List.map_replicate];exact List.map_const' ..
   have H9:=H8.new (o:=.lst (((u.within f).map nT).map λ_=>T.bl false)) hp9;have W9:up C8 p9 (.lst (((u.within f).map nT).map λ_=>T.bl false)) wa=some (.lst ((u.within f).map nT)):=by rw[Zg (Jg W8 hp9)];exact W8
   refine⟨_,_,FL,by rw[Ze,nf],⟨_,FL,Ly (by simp) ?_⟩⟩;generalize up C8 p9 (.lst (((u.within f).map nT).map λ_=>T.bl false))=C9 at H9 W9;have lP:P.length<=20000:=by omega
   refine⟨_,FL,⟨_,_,FL,H9.p⟩,_,FL,_,_,_,FL,FL,H9.p,Yu (by rw[XI,BW];omega),?_⟩;have H10:=H9.upP (ps':=P.reverse.map nT++[nT r0]) D;have W10:up C9 pa (.lst (P.reverse.map nT++[nT r0])) wa=some (.lst ((u.within f).map nT)):=by rw[Zg wd.2.2.2];exact W9
   generalize up C9 pa (.lst (P.reverse.map nT++[nT r0]))=C10 at H10 W10;refine⟨_,FL,⟨_,_,FL,H10.p⟩,_,FL,_,_,FL,W10,λp11 hp11=>?_⟩;have H11:=H10.new (o:=.lst ((u.within f).map nT).reverse) hp11;refine⟨_,_,_,_,FL,FL,H11.p,Ze,by rw[BW,XI,BA,XI,BW];exact Jj (by show P.length+1+_<=_;omega),?_⟩;have H12:=H11.upP (ps':=P.reverse.map nT++[nT r0]++((u.within f).map nT).reverse) D;have ep:P.reverse.map nT++[nT r0]++((u.within f).map nT).reverse=(u.within f++r0::P).reverse.map nT:=by simp
   rw[ep] at H12 |-;refine hN m' _ _ (BJ _) ⟨_,_,_,⟨u.within f++r0::P,Mw,Ow,r0::Bw⟩,rfl,⟨⟨kv2,_,H12,dm2,db3⟩,ol2,⟨BZ.mpr ⟨hB,bl2.1⟩,λx hx=>?_⟩,?_,λx hx=>?_⟩,J4⟩
   ·rcases BC.mp hx with rfl | hx
    ·exact r1
    ·exact bl2.2 x hx
   ·show(u.within f++r0::P).length<=1+2*(r0::Bw).length;rw[BA,YF,YF];omega
   ·rcases XS.mp hx with hx | hx
    ·obtain⟨p,hp,rfl⟩:=XR.mp hx;exact⟨o.lt p (hps p hp),o.id p (hps p hp)⟩
    ·rcases BC.mp hx with rfl | hx
     ·exact⟨r1,r2⟩
     ·exact pr3 x hx
  | @fin _ _ _ _ _ f e hf hB hw=>
   refine Ly (by rw[XX (by decide),dm2.isS,e];rfl) ?_;obtain⟨_,_,S4⟩:=id H4.s;refine⟨_,FL,_,_,_,_,FL,S4.r,FL,FL,_,FL,?_⟩;dsimp only[Zv];refine Ib (n:=n) (f:=some f) H4.s o r1 (by rw[r2];exact hf) λC5 S5 F5=>?_;have H5:=H4.of D S5 F5;rw[Ae];refine⟨_,FL,FL,false,FL,Zl ?_⟩;refine⟨_,FL,_,FL,zj,?_⟩;rw[Ry];have hps:∀p∈f.ps,p<u.F.length:=o.ps r0 f hf;refine Sg (λi acc C'=>Hq A C u ra oa ba pa C' kv2 (Ow.map nT) kb2 (P.reverse.map nT)/\acc=((f.ps.take i).map u.rt).map nT) ⟨H5,FL⟩ (λ_ _ _ _ _=>trivial) ?_ ?_
   ·rintro i x acc C6 N6 hx ⟨H6,rfl⟩ hN6;rw[XM] at hx;obtain⟨p,hp,rfl⟩:∃p,f.ps[i]?=some p/\nT p=x:=by
     cases z:f.ps[i]? with
     | none=>rw[z] at hx;cases hx
     | some p=>rw[z] at hx;exact⟨p,FL,YH hx⟩
    obtain⟨_,_,S6⟩:=id H6.s;have hi:i<f.ps.length:=(BB.mp hp).1;have fl:f.ps.length<=2:=by cases f<;>simp[Fm.ps]
    refine Z6 (q:=N6 (((f.ps.take i).map u.rt).map nT) C6) ⟨_,FL,_,_,_,_,FL,S6.r,FL,FL,_,FL,?_⟩;dsimp only[Zv];refine Ut (n:=n+1) H6.s (hps p (BE hp)) λC7 S7 F7=>⟨Yu (by rw[XI,XI,YM];omega),hN6 _ _ ⟨H6.of D S7 F7,?_⟩⟩;rw[YD,hp,XL,XL];rfl
   rintro acc C6 ⟨H6,rfl⟩ wa hwa;rw[XI,CB];have H7:=H6.new (o:=.lst ((u.within f).map nT)) hwa;have W7:up C6 wa (.lst ((u.within f).map nT)) wa=some (.lst ((u.within f).map nT)):=Ze;have wd:wa≠ra/\wa≠oa/\wa≠ba/\wa≠pa:=⟨(Jg H6.r hwa).symm,(Jg H6.o hwa).symm,(Jg H6.b hwa).symm,(Jg H6.p hwa).symm⟩;show _;generalize hC7:up C6 wa (.lst (((f.ps).map u.rt).map nT))=C7;rw[show up C6 wa (.lst ((u.within f).map nT))=C7 from hC7] at H7 W7;refine⟨_,FL,_,FL,_,_,_,FL,FL,.inl H7.b,⟨_,FL,Fb (by rw[if_neg (by decide),db2.isS];simpa using hB) ?_⟩⟩;refine⟨_,FL,_,FL,?_⟩;refine⟨_,FL,_,W7,?_⟩;have wl:(u.within f).length<=2:=by unfold Us.within;rw[List.length_map];cases f<;>simp[Fm.ps]
   refine Jk (λt=>match t with | .int i=>Zw (vl Mw i.toNat) | _=>.non) W7 (by rw[XI];exact Jj (by omega)) (λx hx R hR=>?_) λp8 hp8=>?_
   ·obtain⟨q0,hq0,rfl⟩:=XR.mp hx;have hR:R (Zw (vl Mw q0)) C7:=by simpa using hR
    cases z:Mw q0 with
    | none=>exact absurd z (hw q0 hq0)
    | some k0=>
     have ev:vl Mw q0=k0:=by unfold vl;rw[z];rfl
     rw[ev] at hR;exact⟨_,FL,_,FL,_,_,_,_,FL,FL,.inl H7.r,by rw[dm2.1 q0,z];rfl,hR⟩
   refine⟨_,FL,_,Ze,?_⟩;have H8:=H7.new (o:=.lst (((u.within f).map nT).map λt=>match t with | .int i=>Zw (vl Mw i.toNat) | _=>.non)) hp8;refine⟨by rw[sA,XI,XI];exact Jj (by show 1+_<=_;omega),?_⟩;refine⟨_,rfl,_,rfl,_,_,_,rfl,rfl,H8.r,Yu (by obtain⟨_,_,kd⟩:=dm2;have:=kd.len;omega),?_⟩;have val:T.tup (Dw (T.str f.tag::f.ps.map nT) none (some 1)++((u.within f).map nT).map λt=>match t with | .int i=>Zw (vl Mw i.toNat) | _=>.non)=Zw (u.told Mw f):=by
    rw[sA];unfold Us.told Us.within;rw[lI,YE,YE];show T.tup (T.str f.tag::_)=_;congr 2
   rw[val];have H9:=H8.upR (kv':=Yy kv2 (ik r0) (Zw (u.told Mw f))) D;refine hN m' _ _ (BJ _) ⟨_,_,_,⟨P,set Mw r0 (u.told Mw f),Ow,Bw⟩,FL,⟨⟨_,kb2,H9,dm2.put e r1,db2⟩,⟨ol2.1,λx hx=>?_⟩,bl2,by show P.length<=1+2*Bw.length;omega,pr3⟩,J4⟩;have:=ol2.2 x hx;exact⟨this.1,by show set Mw r0 _ x≠none;rw[J6 λz=>this.2 (by rw[z];exact e)];exact this.2⟩
end
end K22
namespace Fn
open PySem WL
def uV {u:Us}(o:u.Ok)(h:Ts u σ0):∀r f,r<u.F.length->u.rt r=r->u.F[r]?=some (some f)->∀q∈u.within f,(σ0 q).sz<(σ0 r).sz:=λr f _ _ hf q hq=>by
 obtain⟨p,hp,rfl⟩:=XR.mp hq;rw[<-h.1 p (o.ps r f hf p hp),h.2 r f hf]
 cases f with
 | f0 g=>cases hp
 | f1 g a=>rw[XQ.mp hp];show _<1+(σ0 a).sz;omega
 | f2 g a b=>
  simp only[Fm.ps,List.mem_cons,List.not_mem_nil,or_false] at hp;show _<1+((σ0 a).sz+(σ0 b).sz)
  rcases hp with rfl | rfl<;>omega
structure pS (u:Us)(rows:List Nat)(M:Nat->Option Kd)(O:List Nat):Prop where
 rd:wZ u M O
 all:∀i∈rows,M (u.rt i)≠none
 num:ext [] (rows.map λi=>(vl M (u.rt i)).ops).flatten=List.range O.length
def u6:wZ u (λ_=>none) []:=⟨λq k h=>(by cases h),λq k h=>(by cases h),λq k f h=>(by cases h),λq k h=>(by cases h),λi q h=>by simp at h⟩
def Kd.put (θ:Nat->Kd):Kd->Kd
 | .op n=>θ n
 | .k0 g=>.k0 g
 | .k1 g a=>.k1 g (a.put θ)
 | .k2 g a b=>.k2 g (a.put θ) (b.put θ)
def mi {f:Fm}:(f.ev g).put θ=f.ev λp=>(g p).put θ:=by cases f<;>rfl
structure Ay (t:Tr)(R:List Kd):Prop where
 is:∃k,HT G0 t k R
 wide:∀k' R',HT G0 t k' R'->∃θ,R'=R.map (Kd.put θ)
 num:∃n,ext [] (R.map Kd.ops).flatten=List.range n
section
variable {u:Us}{M:Nat->Option Kd}{O rows:List Nat}{σ σ0:Nat->Kd}{t:Tr}
def D8 (o:u.Ok)(h:Ts u σ0):∀(l:List Nat) (M:Nat->Option Kd) (O:List Nat),(∀i∈l,i<u.F.length)->wZ u M O->∃M' O',wZ u M' O'/\(∀q k,M q=some k->M' q=some k)/\∀i∈l,M' (u.rt i)≠none
 | [],M,O,_,R=>⟨M,O,R,λ_ _ h=>h,λi h=>(by cases h)⟩
 | i::l,M,O,hl,R=>by
  have il:=hl i (BD ..);obtain⟨k,M1,O1,B1,_,g⟩:=lX (μ:=λq=>(σ0 q).sz) o (uV o h) ((σ0 (u.rt i)).sz+1) (u.rt i) [] M O [] (BJ _) (o.lt i il) (o.id i il) R (λq h=>by cases h);obtain⟨M2,O2,R2,k2,a2⟩:=D8 o h l M1 O1 (λj hj=>hl j (XV _ hj)) g.rd;obtain⟨kk,g1,_⟩:=g.here;refine⟨M2,O2,R2,λq k e=>k2 q k (g.keep q k e),λj hj=>?_⟩
  rcases BC.mp hj with rfl | hj
  ·rw[k2 _ kk g1];intro z;cases z
  ·exact a2 j hj
def ud (o:u.Ok)(c:Uk u [])(h:Ts u σ0)(T:pS u rows M O):∃σ1,Ts u σ1/\∀i∈rows,σ1 i=vl M (u.rt i):=by
 obtain⟨M',O',R',kp,al⟩:=D8 o h (List.range u.F.length) M O (λi hi=>DC.mp hi) T.rd;refine⟨λq=>vl M' (u.rt q),⟨λx hx=>by show vl M' (u.rt x)=vl M' (u.rt (u.rt x));rw[o.id x hx],λx f hx=>?_⟩,λi hi=>?_⟩
 ·have xl:=(BB.mp hx).1;obtain⟨g,g1,g2⟩:=c x f hx
  cases e:M' (u.rt x) with
  | none=>exact absurd e (al x (DC.mpr xl))
  | some k=>
   obtain⟨h1,_⟩:=R'.frm _ k g e g1;show vl M' (u.rt x)=_;have ev:vl M' (u.rt x)=k:=by unfold vl;rw[e];rfl
   rw[ev,h1];show g.ev (λp=>vl M' (u.rt p))=f.ev λp=>vl M' (u.rt p)
   cases f with
   | f0 w=>cases g with
    | f0 v=>have:w=v:=g2;rw[this]
    | f1 v c=>exact g2.elim
    | f2 v c d=>exact g2.elim
   | f1 w a=>cases g with
    | f0 v=>exact g2.elim
    | f1 v c=>show Kd.k1 v (vl M' (u.rt c))=Kd.k1 w (vl M' (u.rt a));rw[g2.1,g2.2.nil]
    | f2 v c d=>exact g2.elim
   | f2 w a b=>cases g with
    | f0 v=>exact g2.elim
    | f1 v c=>exact g2.elim
    | f2 v c d=>show Kd.k2 v (vl M' (u.rt c)) (vl M' (u.rt d))=Kd.k2 w (vl M' (u.rt a)) (vl M' (u.rt b));rw[g2.1,g2.2.1.nil,g2.2.2.nil]
 ·show vl M' (u.rt i)=vl M (u.rt i)
  cases e:M (u.rt i) with
  | none=>exact absurd e (T.all i hi)
  | some k=>unfold vl;rw[kp _ k e,e]
def Da (o:u.Ok)(h:Ts u σ)(R:wZ u M O):∀(n:Nat) q k,(σ q).sz<n->M q=some k->σ q=k.put λi=>σ ((O[i]?).getD 0)
 | 0,q,k,hn,_=>absurd hn (FK _)
 | n+1,q,k,hn,e=>by
  obtain⟨q1,q2⟩:=R.root q k e;obtain⟨fo,hf⟩:∃f,u.F[q]?=some f:=⟨_,BO q1⟩
  cases fo with
  | none=>
   obtain⟨i,rfl,hi⟩:=R.opn q k e hf;show σ q=σ ((O[i]?).getD 0);rw[hi];rfl
  | some f=>
   obtain⟨h1,h2⟩:=R.frm q k f e hf;rw[h1,h.2 q f hf];show f.ev σ=(f.ev λp=>vl M (u.rt p)).put _;rw[mi];refine Kc λp hp=>?_;have pw:u.rt p∈u.within f:=XR.mpr ⟨p,hp,FL⟩
   cases z:M (u.rt p) with
   | none=>exact absurd z (h2 _ pw)
   | some k0=>
    have ev:vl M (u.rt p)=k0:=by unfold vl;rw[z];rfl
    show σ p=(vl M (u.rt p)).put _;rw[ev,h.1 p (o.ps q f hf p hp)];have:=uV o h q f q1 q2 hf _ pw;exact Da o h R n (u.rt p) k0 (by omega) z
def xP (K:Kn t u rows [])(h:Ts u σ0)(T:pS u rows M O):Ay t (rows.map λi=>vl M (u.rt i)):=by
 refine⟨?_,λk' R' hR=>?_,⟨O.length,?_⟩⟩
 ·obtain⟨σ1,s1,e1⟩:=ud K.o K.c h T;obtain⟨k,hk⟩:=K.so σ1 [] s1 .nil;rw[YK,BR e1] at hk;exact⟨k,hk⟩
 ·obtain⟨σ,R2,s1,e1,e2⟩:=K.co k' R' hR
  cases e2
  rw[YK] at e1;refine⟨λi=>σ ((O[i]?).getD 0),?_⟩;rw[e1,YE];refine BR λi hi=>?_;have il:=K.rl i hi
  cases z:M (u.rt i) with
  | none=>exact absurd z (T.all i hi)
  | some k0=>
   have ev:vl M (u.rt i)=k0:=by unfold vl;rw[z];rfl
   show σ i=(vl M (u.rt i)).put _;rw[ev,s1.1 i il];exact Da K.o s1 T.rd ((σ (u.rt i)).sz+1) (u.rt i) k0 (BJ _) z
 ·rw[<-T.num,YE];rfl
end
def Lq:∀(k:Kd),(k.put θ1).put θ2=k->∀i∈k.ops,∃j,θ1 i=.op j/\θ2 j=.op i
 | .op n,h,i,hi=>by
  rw[XQ.mp hi];have h:(θ1 n).put θ2=.op n:=h
  cases e:θ1 n with
  | op j=>rw[e] at h;exact⟨j,FL,h⟩
  | k0 g=>rw[e] at h;cases h
  | k1 g a=>rw[e] at h;cases h
  | k2 g a b=>rw[e] at h;cases h
 | .k0 g,_,i,hi=>by cases hi
 | .k1 g a,h,i,hi=>by
  injection h with _ h
  exact Lq a h i hi
 | .k2 g a b,h,i,hi=>by
  injection h with _ h1 h2
  rcases XS.mp hi with hi | hi
  ·exact Lq a h1 i hi
  ·exact Lq b h2 i hi
def Hu {θ:Nat->Kd}{f:Nat->Nat}:∀(k:Kd),(∀i∈k.ops,θ i=.op (f i))->(k.put θ).ops=k.ops.map f
 | .op n,h=>by show(θ n).ops=[f n];rw[h n (by simp[Kd.ops])];rfl
 | .k0 g,_=>rfl
 | .k1 g a,h=>Hu a h
 | .k2 g a b,h=>by
  show(a.put θ).ops++(b.put θ).ops=(a.ops++b.ops).map f;rw[Hu a λi hi=>h i (BI _ hi),Hu b λi hi=>h i (XT _ hi),XL]
def Bg {θ:Nat->Kd}:∀(k:Kd),(∀i∈k.ops,θ i=.op i)->k.put θ=k
 | .op n,h=>h n (by simp[Kd.ops])
 | .k0 g,_=>rfl
 | .k1 g a,h=>by show Kd.k1 g (a.put θ)=_;rw[Bg a h]
 | .k2 g a b,h=>by show Kd.k2 g (a.put θ) (b.put θ)=_;rw[Bg a λi hi=>h i (BI _ hi),Bg b λi hi=>h i (XT _ hi)]
def jS {j:Nat}:∀{l acc:List Nat},j∈ext acc l↔j∈acc\/j∈l
 | [],acc=>by simp[ext]
 | i::l,acc=>by
  show j∈ext (if i∈acc then acc else acc++[i]) l↔_;rw[jS (l:=l)];by_cases c:i∈acc
  ·rw[XY c,BC];constructor
   ·rintro(h | h)
    ·exact .inl h
    ·exact .inr (.inr h)
   ·rintro(h | h | h)
    ·exact .inl h
    ·rw[h];exact .inl c
    ·exact .inr h
  ·rw[XX c,XS,XQ,BC,or_assoc]
def Ah {f:Nat->Nat}:∀{l acc:List Nat},(∀a∈acc++l,∀b∈acc++l,f a=f b->a=b)->ext (acc.map f) (l.map f)=(ext acc l).map f
 | [],acc,_=>rfl
 | i::l,acc,h=>by
  show ext (if f i∈acc.map f then acc.map f else acc.map f++[f i]) (l.map f)=(ext (if i∈acc then acc else acc++[i]) l).map f;by_cases c:i∈acc
  ·rw[XY c,XY (XR.mpr ⟨i,c,FL⟩)];exact Ah λa ha b hb=>h a (by rcases XS.mp ha with x | x;exact BI _ x;exact XT _ (XV _ x)) b (by rcases XS.mp hb with x | x;exact BI _ x;exact XT _ (XV _ x))
  ·have n:f i∉acc.map f:=λz=>by
    obtain⟨a,ha,e⟩:=XR.mp z;exact c (h a (BI _ ha) i (XT _ (BD ..)) e▸ha)
   rw[XX c,XX n,show acc.map f++[f i]=(acc++[i]).map f by rw[XL];rfl];exact Ah λa ha b hb=>h a (by rw[YL] at ha;exact ha) b (by rw[YL] at hb;exact hb)
def Ea (h1:Ay t R1)(h2:Ay t R2):R1=R2:=by
 obtain⟨k1,i1⟩:=h1.is;obtain⟨k2,i2⟩:=h2.is;obtain⟨θ1,e1⟩:=h1.wide k2 R2 i2;obtain⟨θ2,e2⟩:=h2.wide k1 R1 i1;obtain⟨n1,m1⟩:=h1.num;obtain⟨n2,m2⟩:=h2.num;have back:∀k∈R1,(k.put θ1).put θ2=k:=λk hk=>by
  have e:R1=R1.map λk=>(k.put θ1).put θ2:=by
   have:=e2;rw[e1,YE] at this;exact this
  have g:∀(l m:List Kd) (F:Kd->Kd),l=m.map F->l=m->∀k∈m,F k=k:=by
   intro l m F a b;subst b
   induction l with
   | nil=>intro k hk;cases hk
   | cons x l ih=>
    rw[YI] at a;injection a with a1 a2
    intro k hk
    rcases BC.mp hk with rfl | hk
    ·exact a1.symm
    ·exact ih a2 k hk
  exact g R1 R1 _ e FL k hk
 let f:Nat->Nat:=λi=>match θ1 i with | .op j=>j | _=>0
 have fo:∀i∈(R1.map Kd.ops).flatten,θ1 i=.op (f i)/\θ2 (f i)=.op i:=λi hi=>by
  obtain⟨l,hl,hi⟩:=FJ.mp hi;obtain⟨k,hk,rfl⟩:=XR.mp hl;obtain⟨j,a,b⟩:=Lq k (back k hk) i hi;have:f i=j:=by show(match θ1 i with | .op j=>j | _=>0)=j;rw[a]
  rw[this];exact⟨a,b⟩
 have inj:∀a∈(R1.map Kd.ops).flatten,∀b∈(R1.map Kd.ops).flatten,f a=f b->a=b:=λa ha b hb e=>by
  have x:=(fo a ha).2;rw[e,(fo b hb).2] at x;injection x with x
  exact x.symm
 have l2:(R2.map Kd.ops).flatten=((R1.map Kd.ops).flatten).map f:=by
  rw[e1,YE,List.map_flatten,YE];congr 1;refine BR λk hk=>?_;exact Hu k λi hi=>(fo i (FJ.mpr ⟨_,XR.mpr ⟨k,hk,FL⟩,hi⟩)).1
 have rr:List.range n2=(List.range n1).map f:=by
  rw[<-m2,l2,<-m1];exact Ah (acc:=[]) λa ha b hb=>inj a (by simpa using ha) b (by simpa using hb)
 have nn:n2=n1:=by have:=congrArg List.length rr;simpa using this
 subst nn;have fid:∀i,i<n2->f i=i:=λi hi=>by
  have:=congrArg (λl:List Nat=>l[i]?) rr;simp only[List.getElem?_map,List.getElem?_range hi,Option.map_some] at this;exact(YH this).symm
 rw[e1];have id1:R1.map (Kd.put θ1)=R1.map id:=BR λk hk=>Bg k λi hi=>by
  have im:i∈(R1.map Kd.ops).flatten:=FJ.mpr ⟨_,XR.mpr ⟨k,hk,FL⟩,hi⟩;have il:i<n2:=DC.mp (by rw[<-m1];exact jS.mpr (.inr im));rw[(fo i im).1,fid i il]
 rw[id1,List.map_id]
end Fn
namespace K22
open PySem PySem.Spec PyProof.Rows L2 WL Fn
section
variable {A:Sd}{C C':Hw}{u:Us}{Q:WK}{χ:WX}{n:Nat}{rows:List Nat}{σ0:Nat->Kd}{pr_:WP}
def Cw (S:Sl A C u)(o:u.Ok)(hn:u.F.length<=7000)(hσ:Ts u σ0)(hrow:C pr_=some (.lst (rows.map nT)))(pf:pr_≠A.f)(pl:pr_≠A.l)(hlt:∀i∈rows,i<u.F.length)(hlen:rows.length<=7000)
  (q:∀C' p M O,Sl A C' u->Fx A C C'->C p=none->C' p=some (.lst (rows.map λi=>Zw (vl M (u.rt i))))->pS u rows M O->O.length<=u.F.length->Q (.ref p) C'):Yg pr (n+4) Lz [.ref A.r,.ref pr_] C Q χ:=by
 refine Ch FL ?_;unfold Sj Qa;intro ra hra;have S0:=S.new (o:=.dic []) hra;refine⟨Jj (by show 0<=_;omega),λoa hoa=>?_⟩;have nro:ra≠oa:=λe=>by rw[<-e,Ze] at hoa;cases hoa
 have hoa0:C oa=none:=by rw[Zg nro.symm] at hoa;exact hoa
 have S1:=S0.new (o:=.lst []) hoa;have K1:∀{c:WP} {w:O},C c=some w->up (up C ra (.dic [])) oa (.lst []) c=some w:=λe=>by rw[Zg (Jg e hoa0),Zg (Jg e hra)];exact e
 have R1:up (up C ra (.dic [])) oa (.lst []) ra=some (.dic []):=by rw[Zg nro];exact Ze
 have O1:up (up C ra (.dic [])) oa (.lst []) oa=some (.lst []):=Ze;generalize up (up C ra (.dic [])) oa (.lst [])=C1 at S1 K1 R1 O1;have oaf:=S.off hoa0;have raf:=S.off hra;have pro:pr_≠ra/\pr_≠oa:=⟨Jg hrow hra,Jg hrow hoa0⟩;refine⟨_,FL,_,K1 hrow,?_⟩;refine X2 (λi τ C'=>∃v4 M O kv,τ=[some (.ref A.r),some (.ref pr_),some (.ref ra),some (.ref oa),v4]/\Sl A C' u/\(∀c w,c≠A.f->c≠A.l->C c=some w->C' c=some w)/\C' ra=some (.dic kv)/\DM kv M u.F.length/\C' oa=some (.lst (O.map nT))/\(O.Nodup/\∀q∈O,q<u.F.length/\M q≠none)/\
  pS u (rows.take i) M O) ⟨_,(λ_=>none),[],[],FL,S1,λc w _ _ e=>K1 e,R1,⟨λq=>rfl,[],FL,CK,λq h=>(by cases h)⟩,O1,⟨CK,λq h=>(by cases h)⟩,u6,λi h=>(by cases h),FL⟩ (λi τ C' _ h=>by obtain⟨_,_,_,_,_,_,h,_⟩:=h;exact h _ _ pf pl hrow) ?_ ?_
 ·rintro i x τ C2 N hx ⟨v4,M,O,kv,rfl,S2,K2,R2,dm2,O2,ol2,T2⟩ hN;rw[XM] at hx;obtain⟨s,hs,rfl⟩:∃s,rows[i]?=some s/\nT s=x:=by
   cases z:rows[i]? with
   | none=>rw[z] at hx;cases hx
   | some p=>rw[z] at hx;exact⟨p,FL,YH hx⟩
  have sl:=hlt s (BE hs);obtain⟨_,_,S20⟩:=id S2;refine⟨_,FL,_,FL,_,_,_,_,FL,S20.r,FL,FL,_,FL,?_⟩;dsimp only[Zv];refine Ut (n:=n+2) S2 sl λC3 S3 F3=>?_;refine⟨_,FL,_,FL,?_⟩;dsimp only[Zv];have R3:=F3 _ _ raf.2.1 raf.2.2 R2;have O3:=F3 _ _ oaf.2.1 oaf.2.2 O2;obtain⟨k,M',O',B',run,gone⟩:=lX (μ:=λq=>(σ0 q).sz) o (uV o hσ) ((σ0 (u.rt s)).sz+1) (u.rt s) [] M O [] (BJ _) (o.lt s sl) (o.id s sl) T2.rd (λq h=>by cases h);refine Ba (n:=n) S3 o hn (o.lt s sl) (o.id s sl) R3 dm2 O3 oaf.2.1 oaf.2.2 ol2 run λC4 kv4 S4 F4 R4 dm4 O4 ol4=>?_;obtain⟨kk,g1,g2⟩:=gone.here;refine hN _ _ ⟨_,M',O',kv4,FL,S4,λc w m1 m2 e=>?_,R4,dm4,O4,ol4,gone.rd,λj hj=>?_,?_⟩
  ·exact F4 c w m1 m2 (Jg e hra) (Jg e hoa0) (F3 c w m1 m2 (K2 c w m1 m2 e))
  ·rw[YD,hs] at hj
   rcases XS.mp hj with hj | hj
   ·cases z:M (u.rt j) with
    | none=>exact absurd z (T2.all j hj)
    | some k0=>rw[gone.keep _ k0 z];intro y;cases y
   ·rw[XQ.mp hj,g1];intro y;cases y
  ·rw[YD,hs];show ext [] ((rows.take i++[s]).map _).flatten=_;rw[XL,List.flatten_append,xk];have e1:(rows.take i).map (λi=>(vl M' (u.rt i)).ops)=(rows.take i).map λi=>(vl M (u.rt i)).ops:=BR λj hj=>by
    cases z:M (u.rt j) with
    | none=>exact absurd z (T2.all j hj)
    | some k0=>unfold vl;rw[gone.keep _ k0 z,z]
   rw[e1,T2.num];have e2:vl M' (u.rt s)=kk:=by unfold vl;rw[g1];rfl
   show ext _ ([(vl M' (u.rt s)).ops].flatten)=_;rw[e2,CG,List.flatten_nil,YK];exact g2
 ·rintro τ C2 ⟨v4,M,O,kv,rfl,S2,K2,R2,dm2,O2,ol2,T2⟩;rw[XI,CB] at T2;have row2:=K2 _ _ pf pl hrow;refine⟨_,FL,_,row2,?_⟩;refine Sg (λi acc C'=>Sl A C' u/\Fx A C2 C'/\acc=(rows.take i).map λi=>Zw (vl M (u.rt i))) ⟨S2,Fx.refl _ _,FL⟩ (λi acc C' _ h=>h.2.1 _ _ pf pl row2) ?_ ?_
  ·rintro i x acc C3 N hx ⟨S3,F3,rfl⟩ hN;rw[XM] at hx;obtain⟨s,hs,rfl⟩:∃s,rows[i]?=some s/\nT s=x:=by
    cases z:rows[i]? with
    | none=>rw[z] at hx;cases hx
    | some p=>rw[z] at hx;exact⟨p,FL,YH hx⟩
   have sm:=BE hs;have sl:=hlt s sm;obtain⟨_,_,S30⟩:=id S3;refine Z6 (q:=N ((rows.take i).map λi=>Zw (vl M (u.rt i))) C3) ⟨_,FL,_,FL,_,_,_,_,FL,S30.r,FL,FL,_,FL,?_⟩;dsimp only[Zv];refine Ut (n:=n+2) S3 sl λC4 S4 F4=>?_;have hi:i<rows.length:=(BB.mp hs).1
   cases z:M (u.rt s) with
   | none=>exact absurd z (T2.all s sm)
   | some k0=>
    have ev:vl M (u.rt s)=k0:=by unfold vl;rw[z];rfl
    refine⟨_,_,_,_,FL,FL,.inl (F4 _ _ raf.2.1 raf.2.2 (F3 _ _ raf.2.1 raf.2.2 R2)),by rw[show Yj kv (Sum.inl ((u.rt s:Nat):Int))=_ from dm2.1 (u.rt s),z];rfl,⟨Yu (by rw[XI,YM];omega),hN _ _ ⟨S4,F3.trans F4,?_⟩⟩⟩;rw[YD,hs,XL];show _=_++[Zw (vl M (u.rt s))];rw[ev]
  ·rintro acc C3 ⟨S3,F3,rfl⟩ p hp;rw[XI,CB];have FC:Fx A C C3:=λc w m1 m2 e=>F3 c w m1 m2 (K2 c w m1 m2 e);exact q _ p M O (S3.new hp) (Uv S3 FC hp) (Rp S3 FC hp) Ze T2 (Ui _ _ ol2.1 λx hx=>(ol2.2 x hx).1)
end
end K22
namespace Fn
open PySem WL
def bZ (R:List Kd):List Nat:=ext [] (R.map Kd.ops).flatten
def aa (R:List Kd):List Kd:=R.map (Kd.put λi=>.op ((bZ R).idxOf i))
def Cd:Nat->List Str->Tr->Prop
 | 0,_,_=>False
 | m+1,bs,t=>(∀x,t=.nm x->x∈bs)/\∀z∈t.scs,Cd m (bs++z.1) z.2
end Fn
namespace K22
open PySem PySem.Spec PyProof.Rows L2 WL Fn
section
variable {C C':Hw}{Q:WK}{χ:WX}{d:WP}{t:Tr}
def zr:∀(m n:Nat) (bs:List Str) (t:Tr) (C:Hw) {Q:WK} {χ:WX},Cd m bs t->t.lok->bs.length+10*m<=10000->C d=some (.dic [])->(∀C',Ex C C'->Q .non C')->Yg pr (n+m+2) Er [tt t,.tup (bs.map T.str),.ref d] C Q χ
 | 0,_,_,_,_,_,_,h,_,_,_,_=>h.elim
 | m+1,n,bs,t,C,Q,χ,hc,hl,hb,hd,q=>by
  refine Ei (n:=n+m+2) FL ?_;unfold Td Tu;obtain⟨l1,l2⟩:=Lv hl;obtain⟨e,sc⟩:=oA t l1;have loop:∀D:We,D.nx=(λ_ C'=>Q .non C')->D.xc=χ->qa (lU (Qm (Yg pr (n+m+2)) 0 (Zz (Yb 0) Zv))) (gP (Ro (Eu 3) (Ro (Eu 4) Dp))) (Ln (Qm (Yg pr (n+m+2)) 4 (Zz (Yb 4) (Zz (Yk A4 (Yb 1) (Yb 3)) (Zz (Yb 2) Zv))))) D
    [some (tt t),some (.tup (bs.map T.str)),some (.ref d),none,none] C:=by
   intro D hnx hxc;refine⟨_,FL,?_⟩;dsimp only[Zv];refine zo (n:=n+m) sc λk C1 x1 hk0 hk1=>⟨_,hk1,?_⟩;refine X2 (λi τ C'=>∃v3 v4,τ=[some (tt t),some (.tup (bs.map T.str)),some (.ref d),v3,v4]/\Ex C1 C') ⟨_,_,FL,Ex.refl _⟩ (λi τ C' _ h=>by obtain⟨_,_,_,h⟩:=h;exact h _ _ hk1) ?_ ?_
   ·rintro i x τ C2 N hx ⟨v3,v4,rfl,x2⟩ hN;rw[XM,XM] at hx;obtain⟨z,hz,rfl⟩:∃z,t.scs[i]?=some z/\oB (sS z)=x:=by
     cases y:t.scs[i]? with
     | none=>rw[y] at hx;cases hx
     | some p=>rw[y] at hx;exact⟨p,FL,YH hx⟩
    have zm:=BE hz;have z10:=ur t l1 z zm;refine⟨_,FL,_,_,FL,_,_,FL,FL,?_⟩;refine⟨_,FL,_,FL,_,FL,by rw[XI,XI];exact Jj (by omega),_,FL,?_⟩;dsimp only[Zv];rw[<-XL];rw[hxc];exact zr m n (bs++z.1) z.2 C2 (hc.2 z zm) (l2 z zm) (by rw[BA];omega) (x2 _ _ (x1 _ _ hd)) λC3 x3=>hN _ _ ⟨_,_,FL,x2.trans x3⟩
   ·rintro τ C2 ⟨v3,v4,rfl,x2⟩;rw[hnx];exact q C2 (x1.trans x2)
  cases hn:Tr.isNm t with
  | true=>
   cases t with
   | nm x=>
    have hx:=hc.1 x FL;refine⟨_,FL,_,Zr,Zu (v:=true) (by decide+kernel) ⟨_,FL,Z6 ⟨_,FL,_,Yl,_,FL,by unfold Yr Yx;rfl,jk,⟨_,FL,Ly (by rw[XY FL,tE,decide_eq_true hx];rfl) ?_⟩⟩⟩⟩;exact loop _ FL FL
   | _=>cases hn
  | false=>
   obtain⟨wd,r,et,hw⟩:∃(wd:Str) (r:List T),tt t=.tup (.str wd::r)/\(wd=="name")=false:=by
    cases t with
    | nm x=>cases hn
    | _=>exact⟨_,_,FL,by decide+kernel⟩
   rw[et] at loop |-;exact⟨_,FL,_,Zr,Zu (v:=false) hw ⟨_,FL,Zl (Zl (loop _ FL FL))⟩⟩
def nN {m N:Nat}(hN:m+3<=N)(hc:Cd m [] t)(hl:t.lok)(hm:m<=900)(q:∀p C',Ex C C'->C p=none->C' p=some (.lst [])->Q (.ref p) C'):Yg pr N lT [tt t] C Q χ:=by
 obtain⟨n,rfl⟩:∃n,N=n+m+3:=⟨N-m-3,by omega⟩;refine nA (n:=n+m+2) FL ?_;unfold yA jA;intro d hd;refine⟨_,FL,Jj (by show 0<=_;omega),_,FL,?_⟩;dsimp only[Zv];refine zr m n [] t _ hc hl (by show 0+_<=_;omega) Ze λC1 x1=>?_;refine⟨_,FL,_,[],[],FL,x1 _ _ Ze,FL,by decide,λp ys hp pm _=>?_⟩;have:ys=[]:=List.Perm.eq_nil pm;subst this;have x0:Ex C C1:=(Ex.new hd).trans x1;exact q p _ (x0.trans (Ex.new hp)) (x0.free hp) Ze
def jJ {m n:Nat}(hc:Cd m [] t)(hl:t.lok)(hm:m<=900)(hz:t.size<=600)(hco:t.cost<=6000)(hw:∃k R,HT G0 t k R)
  (q:∀C' p R,Ex C C'->C p=none->C' p=some (.lst (R.map Zw))->Ay t R->(∃n,ext [] (R.map Kd.ops).flatten=List.range n/\n<=1+t.cost)->Q (.ref p) C'):Yg pr (n+m+7) xb [tt t] C Q χ:=by
 refine rL (n:=n+m+6) FL ?_;unfold Cf Ax;refine⟨_,FL,?_⟩;dsimp only[Zv];refine nN (m:=m) (by omega) hc hl hm λp1 C1 x1 hp1 e1=>?_;refine⟨_,FL,Jj (by show 0<=_;omega),λp2 hp2=>?_⟩;refine Bj (xs:=[]) (by rw[Zg (Jg e1 hp2)];exact e1) Ze ⟨_,FL,Zl ?_⟩;have x2:Ex C (up C1 p2 (.lst [])):=x1.trans (Ex.new hp2);generalize up C1 p2 (.lst [])=C2 at x2;show Yg pr (n+m+5+1) zR [] C2 (λx C1=>Be (Qm (Yg pr (n+m+6)) Lz (Zz (Yb 2) (Zz (Qm (Yg pr (n+m+6)) Dn (Zz (Yb 2) (Zz (Yb 0) Zv))) Zv))) {nx:=λ_ C'=>Q .non C',rt:=Q,xc:=χ} [some (tt t),some (.ref p1),some x] C1) χ;refine A7 (n:=n+m+5) (vs:=[]) FL λsa hsa=>?_;refine Ky (n:=n+m+4) FL ?_;unfold W3 Vh;refine⟨Jj (by show 0<=_;omega),λfa hfa=>?_⟩;have nfs:sa≠fa:=λe=>by rw[<-e,Ze] at hfa;cases hfa
 have hfa0:C2 fa=none:=by rw[Zg nfs.symm] at hfa;exact hfa
 refine⟨_,FL,_,_,_,FL,by rw[Zg nfs];exact Ze,.head _,by decide,?_⟩;refine⟨Jj (by show 0<=_;omega),λla hla=>?_⟩;have nls:sa≠la:=λe=>by rw[<-e,Ze] at hla;cases hla
 have nlf:fa≠la:=λe=>by rw[<-e,Zg nfs.symm,Ze] at hla;cases hla
 have hla0:C2 la=none:=by rw[Zg nls.symm,Zg nlf.symm,Zg nls.symm] at hla;exact hla
 refine⟨_,FL,_,_,_,FL,by rw[Zg nls];exact Ze,.head _,by show 1<1000;decide,?_⟩;have S0:Sl ⟨sa,fa,la⟩ (up (up (up (up (up C2 sa (.ins "Slots" [])) fa (.lst [])) sa (.ins "Slots" (U8 "forms" (.ref fa) []))) la (.lst [])) sa (.ins "Slots" (U8 "leads" (.ref la) (U8 "forms" (.ref fa) [])))) ⟨id,[]⟩:=by
  refine⟨λ_=>0,[],⟨?_,?_,?_,⟨FL,λx y h=>by simp at h⟩,nlf⟩⟩
  ·rw[Ze];rfl
  ·show up _ _ _ fa=_;rw[Zg nfs.symm,Zg nlf,Zg nfs.symm,Ze];rfl
  ·show up _ _ _ la=_;rw[Zg nls.symm,Ze];rfl
 have x3:Ex C2 (up (up (up (up (up C2 sa (.ins "Slots" [])) fa (.lst [])) sa (.ins "Slots" (U8 "forms" (.ref fa) []))) la (.lst [])) sa (.ins "Slots" (U8 "leads" (.ref la) (U8 "forms" (.ref fa) [])))):=λc w h=>by
  rw[Zg (Jg h hsa),Zg (Jg h hla0),Zg (Jg h hsa),Zg (Jg h hfa0),Zg (Jg h hsa)];exact h
 generalize up (up (up (up (up C2 sa (.ins "Slots" [])) fa (.lst [])) sa (.ins "Slots" (U8 "forms" (.ref fa) []))) la (.lst [])) sa (.ins "Slots" (U8 "leads" (.ref la) (U8 "forms" (.ref fa) [])))=C3 at S0 x3;refine⟨FL,?_⟩;refine⟨_,FL,_,FL,_,FL,?_⟩;dsimp only[Zv];refine xT (n:=n+m) hl hz hco hw S0 λC4 p4 u4 rows S4 F4 hp4 P4 K4=>?_;obtain⟨k0,R0,h0⟩:=hw;obtain⟨σ0,_,s0,_,_⟩:=K4.co k0 R0 h0;have pf:=S0.off hp4;have ln:=K4.len;have sz:=K4.sz;refine Cw (n:=n+m+2) (σ0:=σ0) S4 K4.o (by omega) s0 P4 pf.2.1 pf.2.2 K4.rl (by omega) λC5 p5 M O S5 F5 hp5 P5 T5 oL=>?_;have x4:Ex C C4:=λc w h=>by
  have h3:=x3 _ _ (x2 _ _ h);have nf:c≠fa:=Jg (x2 _ _ h) hfa0;have nl:c≠la:=Jg (x2 _ _ h) hla0;exact F4 c w nf nl h3
 have xx:Ex C C5:=λc w h=>F5 c w (Jg (x2 _ _ h) hfa0) (Jg (x2 _ _ h) hla0) (x4 c w h);exact q C5 p5 (rows.map λi=>vl M (u4.rt i)) xx (x4.free hp5) (by rw[YE];exact P5) (xP K4 s0 T5) ⟨O.length,by rw[<-T5.num,YE];rfl,by omega⟩
end
def jZ {p q:Prop}(h1:p)(h2:q):if b=true then p else q:=by cases b;exact h2;exact h1
def Wo {p q:Prop}{b:Bool}(h1:b=true->p)(h2:b=false->q):if b=true then p else q:=by cases b;exact h2 FL;exact h1 FL
def dk (mx:Bool)(sd nm:Int)(l:WP)(m:Int):List (Z0×T):=[(.inr "mixed",.bl mx),(.inr "seed",.int sd),(.inr "number",.int nm),(.inr "left",.ref l),(.inr "inner",.int m)]
section
variable {mx:Bool}{sd nm v:Int}{l:WP}{m:Int}
def dH:((Sum.inr ("mixed":Str):Z0)=Sum.inr ("seed":Str))=False:=eq_false (by decide+kernel)
def dG:((Sum.inr ("mixed":Str):Z0)=Sum.inr ("number":Str))=False:=eq_false (by decide+kernel)
def bd:((Sum.inr ("mixed":Str):Z0)=Sum.inr ("left":Str))=False:=eq_false (by decide+kernel)
def n04:((Sum.inr ("mixed":Str):Z0)=Sum.inr ("inner":Str))=False:=eq_false (by decide+kernel)
def dF:((Sum.inr ("seed":Str):Z0)=Sum.inr ("number":Str))=False:=eq_false (by decide+kernel)
def bc:((Sum.inr ("seed":Str):Z0)=Sum.inr ("left":Str))=False:=eq_false (by decide+kernel)
def dE:((Sum.inr ("seed":Str):Z0)=Sum.inr ("inner":Str))=False:=eq_false (by decide+kernel)
def n23:((Sum.inr ("number":Str):Z0)=Sum.inr ("left":Str))=False:=eq_false (by decide+kernel)
def dD:((Sum.inr ("number":Str):Z0)=Sum.inr ("inner":Str))=False:=eq_false (by decide+kernel)
def dC:((Sum.inr ("left":Str):Z0)=Sum.inr ("inner":Str))=False:=eq_false (by decide+kernel)
def ae:((Sum.inr ("number":Str):Z0)=Sum.inr ("seed":Str))=False:=eq_false (by decide+kernel)
def n31:((Sum.inr ("left":Str):Z0)=Sum.inr ("seed":Str))=False:=eq_false (by decide+kernel)
def n41:((Sum.inr ("inner":Str):Z0)=Sum.inr ("seed":Str))=False:=eq_false (by decide+kernel)
def n32:((Sum.inr ("left":Str):Z0)=Sum.inr ("number":Str))=False:=eq_false (by decide+kernel)
def n42:((Sum.inr ("inner":Str):Z0)=Sum.inr ("number":Str))=False:=eq_false (by decide+kernel)
def qR:Yj (dk mx sd nm l m) (.inr "mixed")=some (.bl mx):=by simp only[Yj,dk,List.find?,decide_true,Option.map]
def jj:Yj (dk mx sd nm l m) (.inr "seed")=some (.int sd):=by simp only[Yj,dk,List.find?,dH,decide_false,decide_true,Option.map]
def zY:Yj (dk mx sd nm l m) (.inr "number")=some (.int nm):=by simp only[Yj,dk,List.find?,dG,dF,decide_false,decide_true,Option.map]
def tR:Yj (dk mx sd nm l m) (.inr "left")=some (.ref l):=by simp only[Yj,dk,List.find?,bd,bc,n23,decide_false,decide_true,Option.map]
def xg:Yj (dk mx sd nm l m) (.inr "inner")=some (.int m):=by simp only[Yj,dk,List.find?,n04,dE,dD,dC,decide_false,decide_true,Option.map]
def mN:Yy (dk mx sd nm l m) (.inr "seed") (.int v)=dk mx v nm l m:=by simp only[Yy,dk,List.any,List.map,dH,ae,n31,n41,decide_false,decide_true,Bool.or_true,Bool.true_or,if_true,if_false]
def z7:Yy (dk mx sd nm l m) (.inr "number") (.int v)=dk mx sd v l m:=by simp only[Yy,dk,List.any,List.map,dG,dF,n32,n42,decide_false,decide_true,Bool.or_true,Bool.true_or,Bool.false_or,if_true,if_false]
def q5:Yy (dk mx sd nm l m) (.inr "inner") (.int v)=dk mx sd nm l v:=by simp only[Yy,dk,List.any,List.map,n04,dE,dD,dC,decide_false,decide_true,Bool.or_true,Bool.true_or,Bool.false_or,if_true,if_false]
end
def Dl (C:Hw)(a l:WP)(m:Int):Prop:=∃mx sd nm,∃ls:List Int,C a=some (.dic (dk mx sd nm l m))/\C l=some (.lst (ls.map T.int))/\0<=nm/\(∀x∈ls,0<=x)/\(0<=sd/\sd<2147483647)/\a≠l
def E2 (a l:WP)(C C':Hw):Prop:=∀c o,c≠a->c≠l->C c=some o->C' c=some o
def E2.refl:E2 a l C C:=λ_ _ _ _ h=>h
def E2.trans (x:E2 a l C C1)(y:E2 a l C1 C2):E2 a l C C2:=λc o n1 n2 h=>y c o n1 n2 (x c o n1 n2 h)
def E2.new (x:E2 a l C C1)(h:C1 p=none):E2 a l C (up C1 p o):=λc u n1 n2 e=>by
 have q:=x c u n1 n2 e;rw[Zg (Jg q h)];exact q
def Dl.ne (h:Dl C a l m)(hp:C p=none):p≠a/\p≠l:=by
 obtain⟨_,_,_,_,h1,h2,_⟩:=h;exact⟨λe=>(by rw[e,h1] at hp;cases hp),λe=>(by rw[e,h2] at hp;cases hp)⟩
def Dl.at {C C':Hw}(h:Dl C a l m)(ha:∀o,C a=some o->C' a=some o)(hl:∀o,C l=some o->C' l=some o):Dl C' a l m:=by
 obtain⟨mx,sd,nm,ls,h1,h2,r⟩:=h;exact⟨mx,sd,nm,ls,ha _ h1,hl _ h2,r⟩
def Dl.ex (h:Dl C a l m)(x:Ex C C'):Dl C' a l m:=h.at (λo e=>x _ _ e) λo e=>x _ _ e
section
variable {C C':Hw}{Q:WK}{χ:WX}{n:Nat}{a l:WP}{m:Int}
def Xk {many:Int}(h:Dl C a l m)(hm:0<many)(hl:many.natAbs.log2<9000)(q:∀r C',E2 a l C C'->Dl C' a l m->0<=r->r<many->Q (.int r) C'):Yg pr (n+1) zV [.ref a,.int many] C Q χ:=by
 refine zf FL ?_;unfold Pp Nb;obtain⟨mx,sd,nm,ls,h1,h2,h3,h4,⟨h5,h6⟩,hal⟩:=h;refine T0 (m:=ls.length) (λk τ C'=>∃(nm:Int) (ls:List Int),ls.length=k/\τ=[some (.ref a),some (.int many),none,none,none]/\E2 a l C C'/\C' a=some (.dic (dk mx sd nm l m))/\C' l=some (.lst (ls.map T.int))/\0<=nm/\(∀x∈ls,0<=x)) ⟨nm,ls,FL,FL,E2.refl,h1,h2,h3,h4⟩ ?_;rintro k τ C1 N ⟨nm,ls,rfl,rfl,x1,g1,g2,g3,g4⟩ hN;have J4:∀D:We,D.rt=Q->D.xc=χ->(Xy (Lo (Yk A2 (Yb 0) (eC (T.str "number"))) (Eu 2))
   (Xy (Eo (Kz (Yk eE (Yb 2) (eC (T.int 0)))) (Xy (Lo (Yk oi (Yb 2) (Yb 1)) (dR (Yb 0) (eC (T.str "number")))) (Be (Yk A3 (Yb 2) (Yb 1)))) Xl)
    (Xy (Lo (Yk A3 (Yk A4 (Yk yB (Yk A2 (Yb 0) (eC (T.str "seed"))) (eC (T.int 48271))) (eC (T.int 7919))) (eC (T.int 2147483647))) (Eu 3))
     (Xy (Lo (Yk A3 (Yk A4 (Yk yB (Yb 3) (eC (T.int 40692))) (eC (T.int 104729))) (eC (T.int 2147483399))) (dR (Yb 0) (eC (T.str "seed"))))
      (Xy (Lo (Yk A3 (Yk yB (Yk A2 (Yb 0) (eC (T.str "seed"))) (Yk A2 (Yb 0) (eC (T.str "seed")))) (eC (T.int 2147483563))) (Eu 4))
       (Be (Yk A3 (Yk A4 (Yk yB (Yk A3 (Yk yB (Yb 3) (Yb 3)) (eC (T.int 2147483629))) (eC (T.int 2147483563))) (Yb 4)) (Yb 1)))))))) D [some (.ref a),some (.int many),none,none,none] C1:=by
  intro D hrt hxc;refine⟨_,FL,_,_,_,_,FL,FL,.inl g1,zY,?_⟩;refine⟨_,FL,_,FL,Wo (λc=>?_) (λc=>?_)⟩
  ·have c':0<nm:=of_decide_eq_true c;refine⟨_,FL,_,FL,⟨hm,hl⟩,_,FL,_,_,_,FL,FL,g1,ZNB FL,?_⟩;refine⟨_,FL,_,FL,hm,?_⟩;rw[hrt,z7];exact q _ _ (λc o n1 n2 e=>by rw[Zg n1];exact x1 c o n1 n2 e) ⟨mx,sd,_,ls,Ze,by rw[Zg hal.symm];exact g2,Int.ediv_nonneg g3 (Int.le_of_lt hm),g4,⟨h5,h6⟩,hal⟩ (YO _ (by omega)) (DU _ hm)
  ·refine⟨_,FL,_,_,_,_,FL,FL,.inl g1,jj,.inr ⟨by decide,by decide⟩,by decide,?_⟩;have s0:0<=(sd*48271+7919)%2147483647:=YO _ (by decide);have s1:(sd*48271+7919)%2147483647<2147483647:=DU _ (by decide);generalize (sd*48271+7919)%2147483647=o1 at s0 s1;refine⟨_,FL,.inr ⟨by decide,by decide⟩,by decide,_,FL,_,_,_,FL,FL,g1,ZNB FL,?_⟩;rw[mN];have s2:0<=(o1*40692+104729)%2147483399:=YO _ (by decide);have s3:(o1*40692+104729)%2147483399<2147483399:=DU _ (by decide);generalize (o1*40692+104729)%2147483399=o2 at s2 s3;refine⟨_,FL,_,_,_,_,FL,FL,.inl Ze,jj,_,FL,_,_,_,_,FL,FL,.inl Ze,jj,.inl ⟨by omega,by omega⟩,by decide,?_⟩;refine⟨_,FL,_,FL,.inl ⟨by omega,by omega⟩,by decide,.inr ⟨by decide,by decide⟩,_,FL,_,FL,hm,?_⟩;rw[hrt];exact q _ _ (λc o n1 n2 e=>by rw[Zg n1];exact x1 c o n1 n2 e) ⟨mx,o2,nm,ls,Ze,by rw[Zg hal.symm];exact g2,g3,g4,⟨s2,by omega⟩,hal⟩ (YO _ (by omega)) (DU _ hm)
 refine⟨_,FL,_,_,_,_,FL,FL,.inl g1,zY,Q8 FL ⟨_,FL,Wo (λc=>?_) (λc=>Zl (J4 _ FL FL))⟩⟩;refine⟨_,FL,_,_,_,_,FL,FL,.inl g1,tR,_,FL,_,g2,_,FL,Wo (λc2=>?_) (λc2=>Zl (J4 _ FL FL))⟩;refine⟨_,FL,_,_,_,_,FL,FL,.inl g1,qR,_,FL,Wo (λc3=>?_) (λc3=>J4 _ FL FL)⟩
 rcases List.eq_nil_or_concat ls with rfl | ⟨ds,v,rfl⟩
 ·cases c2
 ·rw[List.concat_eq_append] at*;have last:((ds++[v]).map T.int)[((ds++[v]).map T.int).length-1]?=some (.int v):=by simp
  have dl:((ds++[v]).map T.int).dropLast=ds.map T.int:=by simp
  refine⟨_,FL,_,_,_,_,FL,FL,.inl g1,tR,⟨_,_,FL,g2⟩,_,_,_,FL,FL,g2,last,?_⟩;rw[dl];refine⟨_,FL,_,_,_,FL,FL,by rw[Zg hal];exact g1,ZNB FL,?_⟩;rw[z7];refine hN ds.length _ _ (by rw[List.length_append];show _<_+1;omega) ⟨v,ds,FL,FL,λc o n1 n2 e=>by rw[Zg n1,Zg n2];exact x1 c o n1 n2 e,Ze,by rw[Zg hal.symm];exact Ze,g4 v (by simp),λx hx=>g4 x (List.mem_append_left _ hx)⟩
end
def sM {z:Str}{r:Int}{k:Nat}(hz:z.cps.toList.length=k)(h0:0<=r)(h1:r<k):∃c,Pa z.cps.toList r=some c:=by
 obtain⟨v,h,_⟩:=j0 (xs:=z.cps.toList) h0 (by rw[hz];exact h1);exact⟨v,h⟩
def Ob {x:Int}(h:0<x)(h':x<=1000000000000000000):x.natAbs.log2<9000:=by
 have:x.natAbs.log2<64:=(Nat.log2_lt (by omega)).mpr (by omega);omega
def Pk:Nat->Kd->Prop
 | 0,_=>False
 | m+1,k=>k=Xb\/k=Ua\/(∃a,k=Xp a/\Pk m a)\/(∃a b,k=zO a b/\Pk m a/\Pk m b)\/∃a b,k=vD a b/\Pk m a/\Pk m b
def Xa:∀{m m':Nat} {k:Kd},m<=m'->Pk m k->Pk m' k
 | 0,_,_,_,h=>h.elim
 | _+1,0,_,e,_=>absurd e (Nat.not_succ_le_zero _)
 | m+1,m'+1,k,e,h=>by
  have e':=Nat.le_of_succ_le_succ e
  rcases h with rfl | rfl | ⟨a,rfl,h⟩ | ⟨a,b,rfl,h1,h2⟩ | ⟨a,b,rfl,h1,h2⟩
  ·exact .inl FL
  ·exact .inr (.inl FL)
  ·exact .inr (.inr (.inl ⟨a,FL,Xa e' h⟩))
  ·exact .inr (.inr (.inr (.inl ⟨a,b,FL,Xa e' h1,Xa e' h2⟩)))
  ·exact .inr (.inr (.inr (.inr ⟨a,b,FL,Xa e' h1,Xa e' h2⟩)))
section
variable {C C':Hw}{Q:WK}{χ:WX}{n:Nat}{a l:WP}{m:Int}
def gH {c:WT}{A B:WS}{D:We}(p:Bool->Prop)(hc:∀K χ,(∀k,p k->K k C)->c τ C K χ)(h1:p true->A {D with nx:=B D} τ C)(h2:p false->B D τ C):Xy (Eo c A Xl) B D τ C:=
 hc _ _ λk hk=>by
  cases k
  ·exact Zl (h2 hk)
  ·exact Z6 (h1 hk)
def Gs (h:Dl C a l m)(q:∀x C',E2 a l C C'->Dl C' a l m->Q (.str x) C'):Yg pr (n+2) zS [.ref a] C Q χ:=by
 refine za FL ?_;unfold Pf Op;refine⟨_,FL,?_⟩;dsimp only[Zv,Zz,eC];refine Xk (n:=n) h (by decide) (Ob (by decide) (by decide)) λr C1 x1 D1 r0 r1=>dU FL ⟨_,FL,jZ ?_ ?_⟩
 ·refine⟨_,FL,_,FL,?_⟩;dsimp only[Zv,Zz,eC];refine Xk (n:=n) D1 (by decide) (Ob (by decide) (by decide)) λr C2 x2 D2 r0 r1=>?_;obtain⟨c,hc⟩:=sM (z:="abcdefghijklmnopqrstuvwxyz") (k:=26) (by decide+kernel) r0 (by omega);exact⟨by decide,c,hc,q _ _ (x1.trans x2) D2⟩
 refine⟨_,FL,_,FL,?_⟩;dsimp only[Zv,Zz,eC];refine Xk (n:=n) D1 (by decide) (Ob (by decide) (by decide)) λr C2 x2 D2 r0 r1=>?_;obtain⟨c,hc⟩:=sM (z:="abcdefghijklmnopqrstuvwxyz") (k:=26) (by decide+kernel) r0 (by omega);refine⟨by decide,c,hc,?_⟩;refine⟨_,FL,?_⟩;dsimp only[Zv,Zz,eC];refine Xk (n:=n) D2 (by decide) (Ob (by decide) (by decide)) λr C3 x3 D3 r0 r1=>?_;refine⟨_,FL,by omega,by omega,?_⟩;refine xh (λi τ C'=>∃(y:Str) (x3:Option T),y.length<=1+i/\τ=[some (.ref a),some (.str "abcdefghijklmnopqrstuvwxyz"),some (.str y),x3]/\E2 a l C C'/\Dl C' a l m) ⟨⟨#[c]⟩,none,XE 1,FL,(x1.trans x2).trans x3,D3⟩ (λ_=>trivial) ?_ ?_
 ·rintro i τ C4 N hi ⟨y,z3,hy,rfl,x4,D4⟩ hN;refine⟨_,FL,_,FL,by decide+kernel,_,FL,?_⟩;dsimp only[Zv,Zz,eC];refine Xk (n:=n) D4 (by decide) (Ob (by decide) (by decide)) λr C5 x5 D5 r0 r1=>?_;obtain⟨c,hc⟩:=sM (z:=("abcdefghijklmnopqrstuvwxyz":Str)++"0123456789") (k:=36) (by decide+kernel) r0 (by omega);refine⟨by decide+kernel,c,hc,Wl (by show y.length+1<=_;omega),?_⟩;exact hN _ _ ⟨_,_,by have:=YC y ⟨#[c]⟩;have e:(⟨#[c]⟩:Str).length=1:=rfl;omega,FL,x4.trans x5,D5⟩
 ·rintro τ C4 ⟨y,z3,hy,rfl,x4,D4⟩;refine⟨_,FL,ZNB FL,λp hp=>?_⟩;have x5:=x4.new (o:=.lst [.str "fun",.str "let",.str "choose",.str "first",.str "stop",.str "rows",.str "in",.str "when",.str "be"]) hp;have D5:=D4.ex (Ex.new (o:=.lst [.str "fun",.str "let",.str "choose",.str "first",.str "stop",.str "rows",.str "in",.str "when",.str "be"]) hp);refine⟨_,Ze,by rfl,by rfl,_,FL,jZ ?_ ?_⟩
  ·refine⟨_,FL,Wl (by show y.length+1<=_;omega),?_⟩;exact⟨_,FL,q _ _ x5 D5⟩
  ·exact⟨_,FL,q _ _ x5 D5⟩
def Bc:∀(f n:Nat) {C:Hw} {Q:WK} {χ:WX},Dl C a l m->(∀k C',E2 a l C C'->Dl C' a l m->Pk (f+1) k->Q (Zw k) C')->Yg pr (n+f+2) Hc [.ref a,.int f] C Q χ
 | f,n,C,Q,χ,h,q=>by
  refine zd (n:=n+f+1) FL ?_;unfold Pm Ox;refine⟨_,FL,?_⟩;dsimp only[Zv,Zz,eC];refine Xk (n:=n+f) h (by decide) (Ob (by decide) (by decide)) λr C1 x1 D1 r0 r1=>?_;dsimp only[Eu];refine gH (λk=>k=false->f≠0/\3<=r) (λK χ' h=>?_) (λ_=>?_) λh=>?_
  ·refine⟨_,FL,Q8 FL ⟨_,FL,Wo (λ_=>h true λe=>by cases e) (λc0=>?_)⟩⟩;refine⟨_,FL,_,FL,h _ λe=>⟨λe=>?_,?_⟩⟩
   ·subst e;cases c0
   ·have:=of_decide_eq_false e;omega
  ·refine⟨ZNB FL,ZNB FL,ZNB FL,ZNB FL,λp hp=>?_⟩;have x2:=x1.new (o:=.lst [Zw Xb,Zw Ua,Zw Xb]) hp;have D2:=D1.ex (Ex.new (o:=.lst [Zw Xb,Zw Ua,Zw Xb]) hp);have e3:r%3=0\/r%3=1\/r%3=2:=by omega
   refine⟨_,FL,by decide,?_⟩
   rcases e3 with e | e | e<;>rw[e]
   ·exact⟨_,_,Ze,Zr,q Xb _ x2 D2 (.inl FL)⟩
   ·exact⟨_,_,Ze,Yl,q Ua _ x2 D2 (.inr (.inl FL))⟩
   ·exact⟨_,_,Ze,Jp,q Xb _ x2 D2 (.inl FL)⟩
  ·obtain⟨h0,h1⟩:=h FL
   match f,h0,q with
   | f+1,_,q=>
    have hc:((f+1:Nat):Int)-1=(f:Int):=by omega
    refine⟨_,FL,_,FL,?_⟩;dsimp only[Zv,Zz,eC,Nt];rw[hc];refine Bc f n D1 λk1 C2 x2 D2 p1=>?_;refine⟨_,FL,Q8 FL ⟨_,FL,Wo (λc=>?_) (λc=>?_)⟩⟩
    ·exact⟨_,FL,ZNB FL,q (Xp k1) _ (x1.trans x2) D2 (.inr (.inr (.inl ⟨_,FL,p1⟩)))⟩
    ·have h4:r-4=0\/r-4=1:=by
      have:r≠3:=λe=>by rw[e] at c;cases c
      omega
     refine⟨ZNB FL,λp hp=>?_⟩;have x3:=x2.new (o:=.lst [.str "pair",.str "to"]) hp;have D3:=D2.ex (Ex.new (o:=.lst [.str "pair",.str "to"]) hp);refine⟨_,FL,?_⟩;dsimp only[Zv,Zz,eC,Nt]
     rcases h4 with e | e<;>rw[e]
     ·refine⟨_,_,Ze,Zr,_,FL,_,FL,_,FL,?_⟩;dsimp only[Zv,Zz,eC,Nt];rw[hc];exact Bc f n D3 λk2 C4 x4 D4 p2=>⟨ZNB FL,q (zO k1 k2) _ ((x1.trans x3).trans x4) D4 (.inr (.inr (.inr (.inl ⟨_,_,FL,p1,p2⟩))))⟩
     ·refine⟨_,_,Ze,Yl,_,FL,_,FL,_,FL,?_⟩;dsimp only[Zv,Zz,eC,Nt];rw[hc];exact Bc f n D3 λk2 C4 x4 D4 p2=>⟨ZNB FL,q (vD k1 k2) _ ((x1.trans x3).trans x4) D4 (.inr (.inr (.inr (.inr ⟨_,_,FL,p1,p2⟩))))⟩
end
def Ez (a l:WP)(C C':Hw):Prop:=∀c o,c≠a->c≠l->C c=some o->C' c=some o\/∃kv,o=.dic kv/\C' c=some (.fdic kv)
section
variable {a l p:WP}{C C1 C2:Hw}{o:O}{m:Int}
def E2.ez (x:E2 a l C C1):Ez a l C C1:=λc o n1 n2 h=>.inl (x c o n1 n2 h)
def Ez.refl:Ez a l C C:=E2.refl.ez
def Ez.trans (x:Ez a l C C1)(y:Ez a l C1 C2):Ez a l C C2:=λc o n1 n2 h=>by
 rcases x c o n1 n2 h with h | ⟨kv,e,h1⟩
 ·exact y c o n1 n2 h
 ·rcases y c _ n1 n2 h1 with h2 | ⟨kv',e',h2⟩
  ·exact .inr ⟨kv,e,h2⟩
  ·cases e'
def Ez.new (x:Ez a l C C1)(h:C1 p=none):Ez a l C (up C1 p o):=x.trans (E2.refl.new h).ez
def Ez.lst (x:Ez a l C C1)(h:C p=some (.lst xs))(n1:p≠a)(n2:p≠l):C1 p=some (.lst xs):=by
 rcases x p _ n1 n2 h with h | ⟨kv,e,_⟩
 ·exact h
 ·cases e
def Ez.rd (x:Ez a l C C1)(h:Eh C p kv)(n1:p≠a)(n2:p≠l):Eh C1 p kv:=by
 rcases h with h | h
 ·rcases x p _ n1 n2 h with h | ⟨kv',e,h⟩
  ·exact .inl h
  ·cases e;exact .inr h
 ·rcases x p _ n1 n2 h with h | ⟨kv',e,h⟩
  ·exact .inr h
  ·cases e
def Ez.free (x:Ez a l C C1)(h:C1 p=none)(n1:p≠a)(n2:p≠l):C p=none:=by
 cases e:C p with
 | none=>rfl
 | some o=>rcases x p o n1 n2 e with h' | ⟨_,_,h'⟩<;>(rw[h'] at h;cases h)
def Ex.ez (x:Ex C C1):Ez a l C C1:=λc o _ _ h=>.inl (x c o h)
end
def pZ (kv:List (Z0×T))(G:Ev)(bs:List Str):Prop:=∀e∈kv,∃x k,e=(Sum.inr x,Zw k)/\G x=some k/\x∈bs/\Pk 40 k
set_option tactic.hygienic true
def jR {k:Z0}{e:Z0×T}(h:e∈Yy kv k v):e=(k,v)\/(e∈kv/\e.1≠k):=by
 unfold Yy at h
 split at h
 ·obtain⟨z,hz,rfl⟩:=XR.mp h
  split
  ·rename_i c;left;rw[c]
  ·rename_i c;exact .inr ⟨hz,c⟩
 ·rename_i c
  rcases XS.mp h with h | h
  ·refine .inr ⟨h,λe'=>c ?_⟩;exact DA.mpr ⟨e,h,decide_eq_true e'⟩
  ·exact .inl (XQ.mp h)
set_option tactic.hygienic false
def Ic:∀{more kv:List (Z0×T)} {e:Z0×T},e∈Z8 kv more->e∈more\/(e∈kv/\∀z∈more,z.1≠e.1)
 | [],kv,e,h=>.inr ⟨h,λz hz=>by cases hz⟩
 | z::more,kv,e,h=>by
  rcases Ic (more:=more) (kv:=Yy kv z.1 z.2) h with h | ⟨h,h'⟩
  ·exact .inl (XV _ h)
  ·rcases jR h with rfl | ⟨h,hn⟩
   ·exact .inl (BD ..)
   ·exact .inr ⟨h,λy hy=>by rcases BC.mp hy with rfl | hy;exact hn.symm;exact h' y hy⟩
def Uc:∀{m n:Nat} {k:Kd},Pk m k->m<=n->Yx (Zw k) n=true
 | 0,_,_,h,_=>h.elim
 | _+1,0,_,_,h=>absurd h (Nat.not_succ_le_zero _)
 | m+1,n+1,k,h,e=>by
  have e':=Nat.le_of_succ_le_succ e
  rcases h with rfl | rfl | ⟨a,rfl,h⟩ | ⟨a,b,rfl,h1,h2⟩ | ⟨a,b,rfl,h1,h2⟩
  ·rfl
  ·rfl
  ·have:=Uc h e';simp[Zw,Yx,Ys,this]
  ·have h1:=Uc h1 e';have h2:=Uc h2 e';simp[Zw,Yx,Ys,h1,h2]
  ·have h1:=Uc h1 e';have h2:=Uc h2 e';simp[Zw,Yx,Ys,h1,h2]
def J0:WL.eqT (.tup xs) (.tup ys)=Wi xs ys:=by rw[WL.eqT]
def Kg:WL.eqT (.str x) (.str y)=(x==y):=by rw[WL.eqT]
def xm:WL.eqT (.int x) (.int y)=(x==y):=by rw[WL.eqT]
def ki:WL.eqT (.int x) (.tup ys)=false:=by rw[WL.eqT]<;>(intros;simp_all)
def kh:WL.eqT (.tup ys) (.int x)=false:=by rw[WL.eqT]<;>(intros;simp_all)
def Hy:Wi [] []=true:=by rw[Wi]
def Jz {x y:T}{xs ys:List T}:Wi (x::xs) (y::ys)=(WL.eqT x y&&Wi xs ys):=by rw[Wi]
def Ke {y:T}{ys:List T}:Wi [] (y::ys)=false:=by rw[Wi]<;>(intros;simp_all)
def Kf {y:T}{ys:List T}:Wi (y::ys) []=false:=by rw[Wi]<;>(intros;simp_all)
def Bm (k:Kd):∃xs,Zw k=.tup xs:=by cases k<;>exact⟨_,FL⟩
def Du:∀{k k':Kd},WL.eqT (Zw k) (Zw k')=true->k=k'
 | .op i,.op j,h=>by
  simp only[Zw,nT,J0,Jz,Hy,Kg,xm,beq_self_eq_true,Bool.true_and,Bool.and_true,beq_iff_eq] at h;have:i=j:=by omega
  rw[this]
 | .op i,.k0 g,h=>by simp only[Zw,J0,Jz,Kf,Bool.and_false] at h;cases h
 | .op i,.k1 g a,h=>by obtain⟨xs,e⟩:=Bm a;simp only[Zw,nT,e,J0,Jz,ki,Bool.and_false,Bool.false_and] at h;cases h
 | .op i,.k2 g a b,h=>by simp only[Zw,J0,Jz,Ke,Bool.and_false] at h;cases h
 | .k0 g,.op i,h=>by simp only[Zw,J0,Jz,Ke,Bool.and_false] at h;cases h
 | .k0 g,.k0 g',h=>by simp only[Zw,J0,Jz,Hy,Kg,Bool.and_true,beq_iff_eq] at h;rw[h]
 | .k0 g,.k1 g' a,h=>by simp only[Zw,J0,Jz,Ke,Bool.and_false] at h;cases h
 | .k0 g,.k2 g' a b,h=>by simp only[Zw,J0,Jz,Ke,Bool.and_false] at h;cases h
 | .k1 g a,.op i,h=>by obtain⟨xs,e⟩:=Bm a;simp only[Zw,nT,e,J0,Jz,kh,Bool.and_false,Bool.false_and] at h;cases h
 | .k1 g a,.k0 g',h=>by simp only[Zw,J0,Jz,Kf,Bool.and_false] at h;cases h
 | .k1 g a,.k1 g' a',h=>by simp only[Zw,J0,Jz,Hy,Kg,Bool.and_true,Bool.and_eq_true,beq_iff_eq] at h;rw[h.1,Du h.2]
 | .k1 g a,.k2 g' a' b',h=>by simp only[Zw,J0,Jz,Ke,Bool.and_false] at h;cases h
 | .k2 g a b,.op i,h=>by simp only[Zw,J0,Jz,Kf,Bool.and_false] at h;cases h
 | .k2 g a b,.k0 g',h=>by simp only[Zw,J0,Jz,Kf,Bool.and_false] at h;cases h
 | .k2 g a b,.k1 g' a',h=>by simp only[Zw,J0,Jz,Kf,Bool.and_false] at h;cases h
 | .k2 g a b,.k2 g' a' b',h=>by simp only[Zw,J0,Jz,Hy,Kg,Bool.and_true,Bool.and_eq_true,beq_iff_eq] at h;rw[h.1,Du h.2.1,Du h.2.2]
def Cg {k w:Kd}{Q:WK}{v:Bool}(h:WL.eqT (Zw k) (Zw w)=v)(fk:Yr (Zw k))(fw:Yr (Zw w))(q:Q (.bl v) C):Nu false (Zw k) (Zw w) C Q:=by
 subst h
 cases k<;>cases w<;>exact⟨fk,fw,q⟩
def oM {c:WT}{A B:WS}{D:We}(p:Bool->Hw->Prop)(hc:∀(K:Bool->Hw->Prop) χ,(∀k C',p k C'->K k C')->c τ C K χ)(h1:∀C',p true C'->A {D with nx:=B D} τ C')(h2:∀C',p false C'->B D τ C'):Xy (Eo c A Xl) B D τ C:=
 hc _ _ λk C' hk=>by
  cases k
  ·exact Zl (h2 C' hk)
  ·exact Z6 (h1 C' hk)
structure Wf (f:Nat)(bs:List Str)(t:Tr)(u:Int):Prop where
 l:t.lok
 c:Cd (f+1) bs t
 s:(t.size:Int)<=1+6*u
 k:t.cost<=5*t.size
section
variable {C C':Hw}{Q:WK}{χ:WX}{n:Nat}{a l nd:WP}{m:Int}{kv:List (Z0×T)}{G:Ev}{bs:List Str}{w:Kd}{mw:Nat}
def nM {f:Nat}(h:Dl C a l m)(hw:Pk mw w)(hmw:mw<=40)(hn:Eh C nd kv)(na:nd≠a)(nl:nd≠l)(hG:pZ kv G bs)(hl:kv.length<=10000)
  (q:∀t C',Ez a l C C'->Dl C' a l m->HT G t w [w]->Wf f bs t 0->Q (tt t) C'):Yg pr (n+3) zT [.ref a,Zw w,.ref nd] C Q χ:=by
 refine zc FL ?_;unfold Pj Ov;refine⟨_,FL,_,_,FL,hn,?_⟩;have x1:Ez a l C (up C nd (.fdic kv)):=λc o n1 n2 e=>by
  by_cases hc:c=nd
  ·subst hc
   rcases hn with hn | hn
   ·rw[hn] at e;cases e;exact .inr ⟨kv,FL,Ze⟩
   ·rw[hn] at e;cases e;exact .inl Ze
  ·rw[Zg hc];exact .inl e
 have D1:Dl (up C nd (.fdic kv)) a l m:=h.at (λo e=>by rw[Zg na.symm];exact e) λo e=>by rw[Zg nl.symm];exact e
 have N1:up C nd (.fdic kv) nd=some (.fdic kv):=Ze;have vE:∀p,up C nd (.fdic kv) p=none->C p=none:=λp hp=>by
  by_cases hc:p=nd
  ·rw[hc,Ze] at hp;cases hp
  ·rw[Zg hc] at hp;exact hp
 generalize up C nd (.fdic kv)=C1 at x1 D1 N1 vE;have hl2:(WL.rI kv).length<=10000:=by unfold WL.rI;rw[XI];exact hl
 refine pq (f:=λt=>match t with | .tup [.str x,k]=>if WL.eqT k (Zw w)=true then some (.str x) else none | _=>none) N1 (Wl (by omega)) (λt ht R N h1 h2=>?_) ?_
 ·obtain⟨e,he,rfl⟩:=XR.mp ht;obtain⟨x,k,rfl,g1,g2,g3⟩:=hG e he;refine⟨_,FL,_,_,FL,_,_,FL,FL,_,FL,_,FL,Cg FL (Uc g3 (by decide)) (Uc hw (by show mw<=100;omega)) ⟨_,FL,?_⟩⟩;refine Wo (λc=>⟨_,FL,h1 _ ?_⟩) λc=>h2 ?_
  ·show(if WL.eqT (Zw k) (Zw w)=true then _ else _)=_;rw[XY c];rfl
  ·show(if WL.eqT (Zw k) (Zw w)=true then _ else _)=_;rw[XX (by rw[c];decide)]
 have hf:∃fs:List Str,((WL.rI kv).filterMap λt=>match t with | .tup [.str x,k]=>if WL.eqT k (Zw w)=true then some (.str x) else none | _=>none)=fs.map T.str/\(∀x∈fs,G x=some w/\x∈bs)/\fs.length<=10000:=by
  have key:∀kv:List (Z0×T),pZ kv G bs->∃fs:List Str,((WL.rI kv).filterMap λt=>match t with | .tup [.str x,k]=>if WL.eqT k (Zw w)=true then some (.str x) else none | _=>none)=fs.map T.str/\(∀x∈fs,G x=some w/\x∈bs)/\fs.length<=kv.length:=by
   intro kv
   induction kv with
   | nil=>exact λ_=>⟨[],FL,λx h=>(by cases h),XE _⟩
   | cons e r ih=>
    intro hG;obtain⟨fs,i1,i2,i3⟩:=ih λe he=>hG e (XV _ he);obtain⟨x,k,rfl,g1,g2,g3⟩:=hG e (BD ..);by_cases c:WL.eqT (Zw k) (Zw w)=true
    ·refine⟨x::fs,?_,λy hy=>?_,by rw[YF,YF];omega⟩
     ·show List.filterMap _ (.tup [.str x,Zw k]::WL.rI r)=_;rw[List.filterMap_cons_some (b:=.str x) (by show(if WL.eqT (Zw k) (Zw w)=true then _ else _)=_;rw[XY c]),i1];rfl
     ·rcases BC.mp hy with rfl | hy
      ·exact⟨by rw[g1,Du c],g2⟩
      ·exact i2 y hy
    ·refine⟨fs,?_,i2,by rw[YF];omega⟩;show List.filterMap _ (.tup [.str x,Zw k]::WL.rI r)=_;rw[List.filterMap_cons_none (by show(if WL.eqT (Zw k) (Zw w)=true then _ else _)=_;rw[XX c]),i1]
  obtain⟨fs,i1,i2,i3⟩:=key kv hG;exact⟨fs,i1,i2,by omega⟩
 obtain⟨fs,e1,e2,e3⟩:=hf;rw[e1];intro p1 hp1;have x2:=x1.new (o:=.lst (fs.map T.str)) hp1;have D2:=D1.ex (Ex.new (o:=.lst (fs.map T.str)) hp1);have P2:up C1 p1 (.lst (fs.map T.str)) p1=some (.lst (fs.map T.str)):=Ze;obtain⟨n1a,n1l⟩:=D1.ne hp1;have fr2:∀p,up C1 p1 (.lst (fs.map T.str)) p=none->C p=none:=λp hp=>vE p ((Ex.new hp1).free hp);generalize up C1 p1 (.lst (fs.map T.str))=C2 at x2 D2 P2 fr2;have fin:∀(t:Tr) (C3:Hw),Ez a l C2 C3->Dl C3 a l m->HT G t w [w]->Wf f bs t 0->Q (tt t) C3:=λt C3 y3 D3 ht wf=>q t _ (x2.trans y3) D3 ht wf;have wf0:∀t:Tr,t.lok->t.scs=[]->(∀x,t=.nm x->x∈bs)->t.size=1->t.cost<=5->Wf f bs t 0:=λt a b c d e=>⟨a,⟨c,λz hz=>by rw[b] at hz;cases hz⟩,by rw[d];decide,by rw[d];exact e⟩;have t1:∀C3,Ez a l C2 C3->Dl C3 a l m->(∃k,w=Xp k)->Ge (Yg pr (n+2)) {nx:=λ_ C'=>Q .non C',rt:=Q,xc:=χ} [some (.ref a),some (Zw w),some (.ref nd),some (.ref p1)] C3:=λC3 y3 D3 hk=>by
  obtain⟨k,rfl⟩:=hk;exact⟨XO _,ZNB FL,fin (.sh0 "Nil") C3 y3 D3 (.mk .nil .nil) (wf0 _ trivial FL (λx e=>by cases e) FL (by decide))⟩
 have t3:∀C3,Ez a l C2 C3->Dl C3 a l m->(w=Xb\/w=Ua\/∃k,w=Xp k)->Gd (Yg pr (n+2)) {nx:=λ_ C'=>Q .non C',rt:=Q,xc:=χ} [some (.ref a),some (Zw w),some (.ref nd),some (.ref p1)] C3:=λC3 y3 D3 hk=>by
  have fw:Yr (Zw w):=Uc hw (by show mw<=100;omega);refine⟨_,FL,ZNB FL,Cg (w:=Xb) FL fw (by rfl) ⟨_,FL,Wo (λc=>?_) λc=>?_⟩⟩
  ·cases Du c
   refine⟨_,FL,⟨by decide,by decide,by decide⟩,?_⟩;dsimp only[Zv,Zz,eC];refine Xk (n:=n+1) D3 (by decide) (Ob (by decide) (by decide)) λr C4 x4 D4 r0 r1=>?_;exact⟨ZNB FL,fin (.num r) C4 (y3.trans x4.ez) D4 (.mk .num .nil) (wf0 _ trivial FL (λx e=>by cases e) FL (by show 3<=5;decide))⟩
  ·refine⟨_,FL,ZNB FL,Cg (w:=Ua) FL fw (by rfl) ⟨_,FL,Wo (λc2=>?_) λc2=>?_⟩⟩
   ·cases Du c2
    refine⟨ZNB FL,λp3 hp3=>⟨_,FL,?_⟩⟩;dsimp only[Zv,Zz,eC];have D3':=D3.ex (Ex.new (o:=.lst [.str "No",.str "Yes"]) hp3);refine Xk (n:=n+1) D3' (by decide) (Ob (by decide) (by decide)) λr C4 x4 D4 r0 r1=>?_;have P4:=x4 p3 _ (D3.ne hp3).1 (D3.ne hp3).2 Ze;have y4:Ez a l C2 C4:=(y3.new hp3).trans x4.ez;have hr:r=0\/r=1:=by omega
    rcases hr with rfl | rfl
    ·exact⟨_,_,P4,Zr,XO _,ZNB FL,fin (.sh0 "No") C4 y4 D4 (.mk .no .nil) (wf0 _ trivial FL (λx e=>by cases e) FL (by show 3<=5;decide))⟩
    ·exact⟨_,_,P4,Yl,XO _,ZNB FL,fin (.sh0 "Yes") C4 y4 D4 (.mk .yes .nil) (wf0 _ trivial FL (λx e=>by cases e) FL (by show 3<=5;decide))⟩
   ·refine t1 C3 y3 D3 ?_
    rcases hk with rfl | rfl | hk
    ·cases c
    ·cases c2
    ·exact hk
 have t4:∀C3,Ez a l C2 C3->Dl C3 a l m->Pi (Yg pr (n+2)) {nx:=λ_ C'=>Q .non C',rt:=Q,xc:=χ} [some (.ref a),some (Zw w),some (.ref nd),some (.ref p1)] C3:=λC3 y3 D3=>by
  unfold Pi U3;dsimp only;refine oM (λk C'=>Ez a l C2 C'/\Dl C' a l m/\(k=false->w=Xb\/w=Ua\/∃k,w=Xp k)) (λK χ' hK=>?_) (λC4 ⟨y4,D4,_⟩=>?_) (λC4 ⟨y4,D4,h4⟩=>t3 C4 y4 D4 (h4 FL))
  ·obtain⟨g,ws,e⟩:∃g ws,Zw w=.tup (.str g::ws):=by cases w<;>exact⟨_,_,FL⟩
   have hin:WL.inL (.str g) [.str "to",.str "pair"]=false->w=Xb\/w=Ua\/∃k,w=Xp k:=λhh=>by
    match mw,hw with
    | mw+1,hw=>
     rcases hw with rfl | rfl | ⟨x,rfl,_⟩ | ⟨x,y,rfl,_,_⟩ | ⟨x,y,rfl,_,_⟩
     ·exact .inl FL
     ·exact .inr (.inl FL)
     ·exact .inr (.inr ⟨_,FL⟩)
     ·cases e
      exact absurd hh (by decide+kernel)
     ·cases e
      exact absurd hh (by decide+kernel)
   rw[e];refine⟨_,FL,_,Zr,ZNB FL,λp2 hp2=>⟨_,Ze,by rfl,by rfl,_,FL,Wo (λc=>hK true _ ⟨y3.new hp2,D3.ex (Ex.new hp2),λe=>by cases e⟩) (λc=>?_)⟩⟩;refine⟨_,FL,?_⟩;dsimp only[Zv,Zz,eC];exact Xk (n:=n+1) (D3.ex (Ex.new hp2)) (by decide) (Ob (by decide) (by decide)) λr C4 x4 D4 r0 r1=>dU FL ⟨_,FL,hK _ _ ⟨(y3.new hp2).trans x4.ez,D4,λ_=>hin c⟩⟩
  ·refine⟨_,FL,?_⟩;dsimp only[Zv,Zz,eC];exact Gs (n:=n) D4 λx C5 x5 D5=>⟨ZNB FL,fin (.stop x) C5 (y4.trans x5.ez) D5 (.mk .stop .nil) (wf0 _ trivial FL (λx e=>by cases e) FL (by show 3<=5;decide))⟩
 dsimp only[Eu];refine oM (λk C'=>Ez a l C2 C'/\Dl C' a l m/\(k=true->0<fs.length)) (λK χ' hK=>?_) (λC3 ⟨y3,D3,h3⟩=>?_) (λC3 ⟨y3,D3,_⟩=>t4 C3 y3 D3)
 ·refine⟨_,FL,_,FL,_,P2,_,FL,Wo (λc=>?_) (λc=>hK false _ ⟨Ez.refl,D2,λe=>by cases e⟩)⟩;refine⟨_,FL,?_⟩;dsimp only[Zv,Zz,eC];exact Xk (n:=n+1) D2 (by decide) (Ob (by decide) (by decide)) λr C4 x4 D4 r0 r1=>⟨_,FL,hK _ _ ⟨x4.ez,D4,λ_=>by have:=of_decide_eq_true c;rw[XI] at this;omega⟩⟩
 ·have hlen:=h3 FL;have P3:=y3.lst P2 n1a n1l;refine⟨_,FL,_,FL,_,FL,_,FL,_,P3,?_⟩;dsimp only[Zv,Zz,eC];refine Xk (n:=n+1) D3 (by rw[XI];omega) (Ob (by rw[XI];omega) (by rw[XI];omega)) λr C4 x4 D4 r0 r1=>?_;obtain⟨v,h1,h2⟩:=j0 (xs:=fs.map T.str) (i:=r) r0 r1;obtain⟨x,hx,rfl⟩:=XR.mp h2;have P4:=x4 _ _ n1a n1l P3;exact⟨_,_,P4,h1,ZNB FL,fin (.nm x) C4 (y3.trans x4.ez) D4 (.mk (.nm (e2 x hx).1) .nil) (wf0 _ trivial FL (λy e=>by cases e;exact(e2 x hx).2) FL (by show 3<=5;decide))⟩
end
end K22
namespace Fn
open PySem WL
def HT.head {k:Kd}(h:HT G t k R):∃R',R=k::R':=by cases h;exact⟨_,FL⟩
def HTs.mk2 {k l:Kd}(a:HT G t k r)(b:HT H s l q):HTs [(G,t,k),(H,s,l)] (r++q):=by
 have:=HTs.cons a (HTs.cons b HTs.nil);rw[YK] at this;exact this
def HTs.mk1 {k:Kd}(a:HT G t k r):HTs [(G,t,k)] r:=by
 have:=HTs.cons a HTs.nil;rw[YK] at this;exact this
def jt (θ1 θ2:Nat->Kd)(s:Kd):Nat->Kd:=λi=>if i<1000 then θ1 i else if i<2000 then θ2 (i-1000) else s
def bD (R:List Kd):Prop:=∀k∈R,∀i∈k.ops,i<1000
section
variable {θ1 θ2:Nat->Kd}{s:Kd}{R R1 R2:List Kd}{t1 t2:Tr}{m:Nat}{z:Str}
structure aV (m:Nat)(t1 t2:Tr)(R1 R2:List Kd):Prop where
 c1:Cd m [] t1
 c2:Cd m [] t2
 b1:Ay t1 R1
 b2:Ay t2 R2
 l1:bD R1
 l2:bD R2
def aC (t:Tr)(R:List Kd):Prop:=(∃k,HT G0 t k R)/\∀k' R',HT G0 t k' R'->∃θ,R'=R.map (Kd.put θ)
end
end Fn
namespace K22
open PySem PySem.Spec PyProof.Rows L2 WL Fn
def xU {k:Kd}(h:Jd t G k cs):t.size=1+(cs.map λc=>c.2.1.size).sum:=by
 cases h with
 | lt=>show 1+_=1+_;rw[List.map_append,List.sum_append,List.map_map];simp[Function.comp_def]
 | _=>simp[Tr.size]
mutual
def HT.len {k:Kd}:HT G t k R->R.length=t.size
 | .mk r h=>by rw[xU r,<-HTs.len h,YF];omega
def HTs.len:HTs cs R->R.length=(cs.map λc=>c.2.1.size).sum
 | .nil=>rfl
 | .cons a b=>by rw[BA,HT.len a,HTs.len b];rfl
end
def zx {f:Nat}{k:Kd}(h:Pk (30-f) k):Pk 30 k:=Xa (by omega) h
def kX {f:Nat}{k:Kd}(h:Pk (30-(f+1)) k):Pk (30-f) k:=Xa (by omega) h
def d7 {f:Nat}{k:Kd}(hf:f<=22)(h:Pk 5 k):Pk (30-f) k:=Xa (by omega) h
def d4 {f:Nat}{k w:Kd}(hf:f+1<=22)(h:Pk 5 k)(g:Pk (30-(f+1)) w):Pk (30-f) (vD k w):=by
 have e:30-f=(30-(f+1))+1:=by omega
 rw[e];exact .inr (.inr (.inr (.inr ⟨_,_,FL,Xa (by omega) h,g⟩)))
def bY {f:Nat}{k:Kd}(hf:f<=22)(h:Pk 5 k):Pk (30-f) (Xp k):=Xa (m:=6) (by omega) (.inr (.inr (.inl ⟨_,FL,h⟩)))
def bX {f:Nat}{k l:Kd}(hf:f<=22)(h:Pk 5 k)(g:Pk 5 l):Pk (30-f) (zO k l):=Xa (m:=6) (by omega) (.inr (.inr (.inr (.inl ⟨_,_,FL,h,g⟩))))
structure Sx (f:Nat)(C:Hw)(a l:Addr)(m:Int)(nd:Addr)(kv:List (Z0×T))(G:Ev)(bs:List Str):Prop where
 d:Dl C a l m
 m0:0<=m
 m40:m<=40
 rd:Eh C nd kv
 na:nd≠a
 nl:nd≠l
 g:pZ kv G bs
 kl:kv.length+10*f<=5000
 f22:f<=22
structure Gt (C C':Hw)(a l:Addr)(m m':Int):Prop where
 ez:Ez a l C C'
 d:Dl C' a l m'
 m0:0<=m'
 ml:m'<=m
section
variable {f n:Nat}{C C' C1:Hw}{Q:WK}{χ:WX}{a l nd p pb:WP}{m m':Int}{kv:List (Z0×T)}{G:Ev}{bs:List Str}{w w1 w2:Kd}{R R1 R2:List Kd}{u u1 u2 u3:Int}{t t1 t2 t3 b:Tr}{x y:Str}
def Sx.on (s:Sx f C a l m nd kv G bs)(x:Ez a l C C')(d:Dl C' a l m')(h0:0<=m')(h1:m'<=m):Sx f C' a l m' nd kv G bs:=⟨d,h0,by have:=s.m40;omega,x.rd s.rd s.na s.nl,s.na,s.nl,s.g,s.kl,s.f22⟩
def Sx.ex (s:Sx f C a l m nd kv G bs)(x:Ex C C'):Sx f C' a l m nd kv G bs:=s.on (Ex.ez x) (s.d.ex x) s.m0 (XW _)
def Sx.dn (s:Sx (f+1) C a l m nd kv G bs):Sx f C a l m nd kv G bs:=⟨s.d,s.m0,s.m40,s.rd,s.na,s.nl,s.g,by have:=s.kl;omega,by have:=s.f22;omega⟩
structure HP (G:Ev)(t:Tr)(w:Kd)(R:List Kd):Prop where
 h:HT G t w R
 r:∀r∈R,Pk 30 r
def HP.m1 {G1:Ev}(h:Jd t G w [(G1,t1,w1)])(a:HP G1 t1 w1 R1)(hw:Pk 30 w):HP G t w (w::R1):=⟨.mk h (.mk1 a.h),λr hr=>(BC.mp hr).elim (λe=>e▸hw) (a.r r)⟩
def HP.m2 {G1 G2:Ev}(h:Jd t G w [(G1,t1,w1),(G2,t2,w2)])(a:HP G1 t1 w1 R1)(b:HP G2 t2 w2 R2)(hw:Pk 30 w):HP G t w (w::(R1++R2)):=⟨.mk h (.mk2 a.h b.h),λr hr=>(BC.mp hr).elim (λe=>e▸hw) λhr=>(XS.mp hr).elim (a.r r) (b.r r)⟩
def HP.m3 {G1 G2 G3:Ev}{w3:Kd}(h:Jd t G w [(G1,t1,w1),(G2,t2,w2),(G3,t3,w3)])(a:HP G1 t1 w1 R1)(b:HP G2 t2 w2 R2)(c:HP G3 t3 w3 R3)(hw:Pk 30 w):HP G t w (w::(R1++(R2++R3))):=⟨.mk h (.cons a.h (.mk2 b.h c.h)),λr hr=>(BC.mp hr).elim (λe=>e▸hw) λhr=>(XS.mp hr).elim (a.r r) λhr=>(XS.mp hr).elim (b.r r) (c.r r)⟩
def Gt.back (g:Gt C1 C' a l m1 m')(x:Ez a l C C1)(hm:m1<=m):Gt C C' a l m m':=⟨x.trans g.ez,g.d,g.m0,Int.le_trans g.ml hm⟩
def Gt.then (g:Gt C C1 a l m m1)(h:Gt C1 C2 a l m1 m2):Gt C C2 a l m m2:=⟨g.ez.trans h.ez,h.d,h.m0,Int.le_trans h.ml g.ml⟩
def wV (f:Nat):Prop:=∀{n:Nat} {C:Hw} {Q:WK} {χ:WX} {a l nd:WP} {m:Int} {kv:List (Z0×T)} {G:Ev} {bs:List Str} {w:Kd},Sx f C a l m nd kv G bs->Pk (30-f) w->
 (∀t R C' m',Gt C C' a l m m'->HP G t w R->Wf f bs t (m-m')->Q (tt t) C')->Yg pr (n+2*f+8) Od [.ref a,Zw w,.ref nd,.int f] C Q χ
def wV.at (ih:wV f){N:Nat}(hN:2*f+8<=N)(s:Sx f C a l m nd kv G bs)(hw:Pk (30-f) w)(q:∀t R C' m',Gt C C' a l m m'->HP G t w R->Wf f bs t (m-m')->Q (tt t) C'):Yg pr N Od [.ref a,Zw w,.ref nd,.int f] C Q χ:=by
 obtain⟨n,rfl⟩:∃n,N=n+2*f+8:=⟨N-(2*f+8),by omega⟩;exact ih s hw q
def Sx.got (s:Sx f C a l m nd kv G bs)(g:Gt C C1 a l m m1):Sx f C1 a l m1 nd kv G bs:=s.on g.ez g.d g.m0 g.ml
def ii {T:Tr}(h1:Wf f bs t1 u1)(h2:Wf f bs t2 u2)(hl:T.lok)(hs:T.scs=[([],t1),([],t2)])(hn:∀x,T≠.nm x)(hz:T.size=1+(t1.size+t2.size))(hc:T.cost=3+(t1.cost+t2.cost))(hu:u=u1+u2+1):Wf (f+1) bs T u:=by
 refine⟨hl,⟨λx e=>absurd e (hn x),λz hm=>?_⟩,?_,?_⟩
 ·rw[hs] at hm;simp only[ZM,ZN,or_false] at hm
  rcases hm with rfl | rfl
  ·rw[YK];exact h1.c
  ·rw[YK];exact h2.c
 ·have:=h1.s;have:=h2.s;omega
 ·have:=h1.k;have:=h2.k;omega
def ig (h:Wf f (bs++[x]) b u1)(hu:u=u1+1):Wf (f+1) bs (.fn x b) u:=by
 refine⟨h.l,⟨λx e=>(by cases e),λz hm=>?_⟩,?_,?_⟩
 ·rw[XQ.mp hm];exact h.c
 ·have:=h.s;show((1+b.size:Nat):Int)<=_;omega
 ·have:=h.k;show 3+b.cost<=5*(1+b.size);omega
def nt (h1:Wf f bs t1 u1)(h2:Wf f bs t2 u2)(h3:Wf f bs t3 u3)(hu:u=u1+u2+u3+1):Wf (f+1) bs (.chT t1 t2 t3) u:=by
 refine⟨⟨h1.l,h2.l,h3.l⟩,⟨λx e=>(by cases e),λz hm=>?_⟩,?_,?_⟩
 ·simp only[Tr.scs,List.mem_cons,List.not_mem_nil,or_false] at hm
  rcases hm with rfl | rfl | rfl
  ·rw[YK];exact h1.c
  ·rw[YK];exact h2.c
  ·rw[YK];exact h3.c
 ·have:=h1.s;have:=h2.s;have:=h3.s;show((1+(t1.size+(t2.size+t3.size)):Nat):Int)<=_;omega
 ·have:=h1.k;have:=h2.k;have:=h3.k;show 3+(t1.cost+(t2.cost+t3.cost))<=5*(1+(t1.size+(t2.size+t3.size)));omega
def nv (h1:Wf f bs t1 u1)(h2:Wf f bs t2 u2)(h3:Wf f (bs++[x,y]) t3 u3)(hu:u=u1+u2+u3+1):Wf (f+1) bs (.chL t1 t2 x y t3) u:=by
 refine⟨⟨h1.l,h2.l,h3.l⟩,⟨λx e=>(by cases e),λz hm=>?_⟩,?_,?_⟩
 ·simp only[Tr.scs,List.mem_cons,List.not_mem_nil,or_false] at hm
  rcases hm with rfl | rfl | rfl
  ·rw[YK];exact h1.c
  ·rw[YK];exact h2.c
  ·exact h3.c
 ·have:=h1.s;have:=h2.s;have:=h3.s;show((1+(t1.size+(t2.size+t3.size)):Nat):Int)<=_;omega
 ·have:=h1.k;have:=h2.k;have:=h3.k;show 3+(t1.cost+(t2.cost+t3.cost))<=5*(1+(t1.size+(t2.size+t3.size)));omega
def nu (h1:Wf f bs t1 u1)(h2:Wf f (bs++[x,y]) t2 u2)(hu:u=u1+u2+1):Wf (f+1) bs (.chP t1 x y t2) u:=by
 refine⟨⟨h1.l,h2.l⟩,⟨λx e=>(by cases e),λz hm=>?_⟩,?_,?_⟩
 ·simp only[Tr.scs,List.mem_cons,List.not_mem_nil,or_false] at hm
  rcases hm with rfl | rfl
  ·rw[YK];exact h1.c
  ·exact h2.c
 ·have:=h1.s;have:=h2.s;show((1+(t1.size+t2.size):Nat):Int)<=_;omega
 ·have:=h1.k;have:=h2.k;show 3+(t1.cost+t2.cost)<=5*(1+(t1.size+t2.size));omega
def xw {k:Kd}:bnd [x] [k] G x=some k:=by
 unfold bnd;have e:(([x]:List Str).zip [k]).reverse=[(x,k)]:=by simp
 rw[e,BK,XU]
def xv {k:Kd}(h:y≠x):bnd [x] [k] G y=G y:=by
 unfold bnd;have e:(([x]:List Str).zip [k]).reverse=[(x,k)]:=by simp
 rw[e,BK,beq_eq_false_iff_ne.mpr h];rfl
def qD {k:Kd}(h:pZ kv G bs)(hk:Pk 40 k):pZ (Yy kv (.inr x) (Zw k)) (bnd [x] [k] G) (bs++[x]):=λe he=>by
 rcases jR he with rfl | ⟨he,hn⟩
 ·exact⟨x,k,FL,xw,by simp,hk⟩
 ·obtain⟨y,k',rfl,g1,g2,g3⟩:=h e he;exact⟨y,k',FL,by rw[xv λz=>hn (by rw[z])];exact g1,BI _ g2,g3⟩
def iR (ih:wV f)(s:Sx (f+1) C a l m nd kv G bs)(hw:Pk (30-(f+1)) w)(q:∀t R C' m',Gt C C' a l m m'->HP G t w R->Wf (f+1) bs t (m-m'+1)->Q (tt t) C'):Yg pr (n+2*f+9) Ff [.ref a,Zw w,.ref nd,.int f] C Q χ:=by
 refine yC (n:=n+2*f+8) FL ?_;unfold Mf M4;have s0:=s.dn;have f22:=s.f22;have h30:Pk 30 w:=zx hw;have dz:∀(C1:Hw) (o:Str),Ez a l C C1->Dl C1 a l m->w=.k0 (Ep o)->∀{D:We} {x5 x6 x7:Option T},D.rt=Q->D.xc=χ->(Xy (Lo (Qm (Yg pr (n+2*f+8)) 30 (Zz (Yb 0) (Zz (Ik (Zz (eC (T.str "num")) Zv)) (Zz (Yb 2) (Zz (Yb 3) Zv))))) (Eu 5))
   (Be (Ik (Zz (eC (T.str "does")) (Zz (Yb 4) (Zz (Yb 5) (Zz (Qm (Yg pr (n+2*f+8)) 30 (Zz (Yb 0) (Zz (Ik (Zz (eC (T.str "num")) Zv)) (Zz (Yb 2) (Zz (Yb 3) Zv))))) Zv))))))) D [some (.ref a),some (Zw w),some (.ref nd),some (.int f),some (.str o),x5,x6,x7] C1:=by
  intro C1 o y1 D1 ho D x5 x6 x7 hrt hxc;have s1:=s0.on y1 D1 s.m0 (XW _);have hk:Pk (30-f) Xb:=Xa (m:=1) (by omega) (.inl FL);refine⟨_,FL,ZNB FL,_,FL,_,FL,?_⟩;dsimp only[Zv];refine ih.at (w:=Xb) (by omega) s1 hk λt1 R1 C2 m2 g2 H1 W1=>?_;refine⟨_,FL,_,FL,_,FL,ZNB FL,_,FL,_,FL,?_⟩;dsimp only[Zv];refine ih.at (w:=Xb) (by omega) (s1.got g2) hk λt2 R2 C3 m3 g3 H2 W2=>⟨ZNB FL,?_⟩;rw[hrt];refine q (.does o t1 t2) (w::(R1++R2)) _ m3 ((g2.then g3).back y1 (XW _)) ?_ (ii W1 W2 ⟨W1.l,W2.l⟩ FL (λx e=>by cases e) FL FL (by omega));have h30':=h30;rw[ho] at h30' |-;exact HP.m2 .does H1 H2 h30'
 match hm:30-(f+1),hw with
 | mw+1,hw=>
 have e30:30-f=mw+1+1:=by omega
 rcases hw with rfl | rfl | ⟨p0,rfl,h0⟩ | ⟨p0,q0,rfl,h0,h0'⟩ | ⟨p0,q0,rfl,h0,h0'⟩
 ·refine⟨_,FL,_,Zr,Zu (v:=true) (by decide+kernel) ⟨_,FL,Z6 (Z6 ?_)⟩⟩;refine⟨ZNB FL,λp1 hp1=>⟨_,FL,?_⟩⟩;dsimp only[Zv,Zz,eC];have D1:=s.d.ex (Ex.new (o:=.lst [.str "+",.str "-",.str "*"]) hp1);refine Xk (n:=n+2*f+7) D1 (by decide) (Ob (by decide) (by decide)) λr C2 x2 D2 r0 r1=>?_;have P2:=x2 p1 _ (s.d.ne hp1).1 (s.d.ne hp1).2 Ze;have y2:Ez a l C C2:=(Ez.refl.new hp1).trans x2.ez;have hr:∃o,Pa [T.str "+",.str "-",.str "*"] r=some (.str o)/\Xb=.k0 (Ep o):=by
   have:r=0\/r=1\/r=2:=by omega
   rcases this with rfl | rfl | rfl
   ·exact⟨_,Zr,congrArg Kd.k0 (show("num":Str)=Ep "+" by decide+kernel)⟩
   ·exact⟨_,Yl,congrArg Kd.k0 (show("num":Str)=Ep "-" by decide+kernel)⟩
   ·exact⟨_,Jp,congrArg Kd.k0 (show("num":Str)=Ep "*" by decide+kernel)⟩
  obtain⟨o,ho,ho2⟩:=hr;refine⟨_,_,P2,ho,?_⟩;refine⟨_,FL,_,Zr,Zu (v:=false) (by decide+kernel) ⟨_,FL,Zl ?_⟩⟩;exact dz C2 o y2 D2 ho2 FL FL
 ·refine⟨_,FL,_,Zr,Zu (v:=false) (by decide+kernel) ⟨_,FL,Zl ⟨_,FL,_,Zr,Zu (v:=true) (by decide+kernel) ⟨_,FL,Z6 ?_⟩⟩⟩⟩;refine⟨ZNB FL,λp1 hp1=>⟨_,FL,?_⟩⟩;dsimp only[Zv,Zz,eC];have D1:=s.d.ex (Ex.new (o:=.lst [.str "+",.str "-",.str "*"]) hp1);refine Xk (n:=n+2*f+7) D1 (by decide) (Ob (by decide) (by decide)) λr C2 x2 D2 r0 r1=>?_;have P2:=x2 p1 _ (s.d.ne hp1).1 (s.d.ne hp1).2 Ze;have y2:Ez a l C C2:=(Ez.refl.new hp1).trans x2.ez;obtain⟨v,ho,_⟩:=j0 (xs:=[T.str "+",.str "-",.str "*"]) (i:=r) r0 r1;refine⟨_,_,P2,ho,?_⟩;refine⟨_,FL,_,Zr,Zu (v:=true) (by decide+kernel) ⟨_,FL,Z6 ?_⟩⟩;refine⟨ZNB FL,λp3 hp3=>⟨_,FL,?_⟩⟩;dsimp only[Zv,Zz,eC];have D3:=D2.ex (Ex.new (o:=.lst [.str "<",.str "="]) hp3);refine Xk (n:=n+2*f+7) D3 (by decide) (Ob (by decide) (by decide)) λr C4 x4 D4 r0 r1=>?_;have P4:=x4 p3 _ (D2.ne hp3).1 (D2.ne hp3).2 Ze;have y4:Ez a l C C4:=(y2.new hp3).trans x4.ez;have hr:∃o,Pa [T.str "<",.str "="] r=some (.str o)/\Ua=.k0 (Ep o):=by
   have:r=0\/r=1:=by omega
   rcases this with rfl | rfl
   ·exact⟨_,Zr,congrArg Kd.k0 (show("truth":Str)=Ep "<" by decide+kernel)⟩
   ·exact⟨_,Yl,congrArg Kd.k0 (show("truth":Str)=Ep "=" by decide+kernel)⟩
  obtain⟨o,ho,ho2⟩:=hr;refine⟨_,_,P4,ho,?_⟩;exact dz C4 o y4 D4 ho2 FL FL
 ·--a list
  refine⟨_,FL,_,Zr,Zu (v:=false) (by decide+kernel) ⟨_,FL,Zl ⟨_,FL,_,Zr,Zu (v:=false) (by decide+kernel) ⟨_,FL,Zl ?_⟩⟩⟩⟩;refine⟨_,FL,_,Zr,Zu (v:=false) (by decide+kernel) ⟨_,FL,Zl ?_⟩⟩;refine⟨_,FL,_,FL,_,Yl,_,FL,_,FL,?_⟩;dsimp only[Zv];refine ih.at (by omega) s0 (by rw[e30];exact Xa (by omega) h0) λt1 R1 C2 m2 g2 H1 W1=>?_;refine⟨_,FL,_,Zr,Zu (v:=true) (by decide+kernel) ⟨_,FL,Z6 ?_⟩⟩;refine⟨_,FL,_,FL,_,FL,_,FL,_,FL,?_⟩;dsimp only[Zv];refine ih.at (w:=Xp p0) (by omega) (s0.got g2) (by rw[e30];exact Xa (m:=mw+1) (by omega) (.inr (.inr (.inl ⟨_,FL,h0⟩)))) λt2 R2 C3 m3 g3 H2 W2=>⟨ZNB FL,ZNB FL,?_⟩;exact q (.sh2 "Cons" t1 t2) _ _ m3 (g2.then g3) (HP.m2 .cons H1 H2 h30) (ii W1 W2 ⟨W1.l,W2.l⟩ FL (λx e=>by cases e) FL FL (by omega))
 ·--a pair
  refine⟨_,FL,_,Zr,Zu (v:=false) (by decide+kernel) ⟨_,FL,Zl ⟨_,FL,_,Zr,Zu (v:=false) (by decide+kernel) ⟨_,FL,Zl ?_⟩⟩⟩⟩;refine⟨_,FL,_,Zr,Zu (v:=false) (by decide+kernel) ⟨_,FL,Zl ?_⟩⟩;refine⟨_,FL,_,FL,_,Yl,_,FL,_,FL,?_⟩;dsimp only[Zv];refine ih.at (by omega) s0 (by rw[e30];exact Xa (by omega) h0) λt1 R1 C2 m2 g2 H1 W1=>?_;refine⟨_,FL,_,Zr,Zu (v:=false) (by decide+kernel) ⟨_,FL,Zl ?_⟩⟩;refine⟨_,FL,_,FL,_,FL,_,Jp,_,FL,_,FL,?_⟩;dsimp only[Zv];refine ih.at (by omega) (s0.got g2) (by rw[e30];exact Xa (by omega) h0') λt2 R2 C3 m3 g3 H2 W2=>⟨ZNB FL,ZNB FL,?_⟩;exact q (.sh2 "Pair" t1 t2) _ _ m3 (g2.then g3) (HP.m2 .pair H1 H2 h30) (ii W1 W2 ⟨W1.l,W2.l⟩ FL (λx e=>by cases e) FL FL (by omega))
 ·--a function
  refine⟨_,FL,_,Zr,Zu (v:=false) (by decide+kernel) ⟨_,FL,Zl ⟨_,FL,_,Zr,Zu (v:=false) (by decide+kernel) ⟨_,FL,Zl ?_⟩⟩⟩⟩;refine⟨_,FL,_,Zr,Zu (v:=true) (by decide+kernel) ⟨_,FL,Z6 ?_⟩⟩;refine⟨_,FL,_,_,FL,s.rd,λpi hpi=>?_⟩;have D1:=s.d.ex (Ex.new (o:=.dic kv) hpi);obtain⟨n1,n2⟩:=s.d.ne hpi;refine⟨_,FL,?_⟩;dsimp only[Zv];refine Gs (n:=n+2*f+6) D1 λx C2 x2 D2=>?_;have I2:=x2 pi _ n1 n2 Ze;have y2:Ez a l C C2:=(Ez.refl.new hpi).trans x2.ez;refine⟨_,FL,_,Yl,_,FL,_,FL,_,_,_,FL,FL,I2,Yu (by have:=s.kl;omega),?_⟩;have y3:Ez a l C (up C2 pi (.dic (Yy kv (.inr x) (Zw p0)))):=λc o m1 m2 e=>by
   have hc:c≠pi:=λe'=>by rw[e',hpi] at e;cases e
   rw[Zg hc];exact y2 c o m1 m2 e
  have D3:Dl (up C2 pi (.dic (Yy kv (.inr x) (Zw p0)))) a l m:=D2.at (λo e=>by rw[Zg n1.symm];exact e) λo e=>by rw[Zg n2.symm];exact e
  have h0'':Pk 40 p0:=Xa (by omega) h0;have s3:Sx f (up C2 pi (.dic (Yy kv (.inr x) (Zw p0)))) a l m pi (Yy kv (.inr x) (Zw p0)) (bnd [x] [p0] G) (bs++[x]):=⟨D3,s.m0,s.m40,.inl Ze,n1,n2,qD s.g h0'',by have:=Hr (kvs:=kv) (kk:=.inr x) (v:=Zw p0);have:=s.kl;omega,by omega⟩;refine⟨_,FL,_,FL,_,FL,_,Jp,_,FL,_,FL,?_⟩;dsimp only[Zv];refine ih.at (by omega) s3 (by rw[e30];exact Xa (by omega) h0') λt R C4 m4 g4 H4 W4=>⟨ZNB FL,?_⟩;exact q (.fn x t) _ _ m4 (g4.back y3 (XW _)) (HP.m1 .fn H4 h30) (ig W4 FL)
def Ni {N:Nat}(hN:6<=N)(h:Dl C a l m)(q:∀k C',E2 a l C C'->Dl C' a l m->Pk 5 k->Q (Zw k) C'):Yg pr N Hc [.ref a,.int 4] C Q χ:=by
 obtain⟨n,rfl⟩:∃n,N=n+4+2:=⟨N-6,by omega⟩;exact Bc 4 n h q
end
section
variable {f n:Nat}{C C' C1 C2:Hw}{Q:WK}{χ:WX}{a l nd p pb:WP}{m m' m1 m2:Int}{kv:List (Z0×T)}{G:Ev}{bs:List Str}{w w1 w2 k1 k2:Kd}{R R1 R2:List Kd}{u u1 u2 u3:Int}{t t1 t2 t3 b:Tr}{x y:Str}
def be {v1 v2:T}(h:x≠y):Z8 [] [(.inr x,v1),(.inr y,v2)]=[(.inr x,v1),(.inr y,v2)]:=by
 have h':¬((Sum.inr x:Z0)=Sum.inr y):=λe=>h (Sum.inr.inj e);simp[Z8,Yy,h']
def sH (h:x≠y):bnd [x,y] [k1,k2] G x=some k1:=by
 unfold bnd;have e:(([x,y]:List Str).zip [k1,k2]).reverse=[(y,k2),(x,k1)]:=by simp
 rw[e,BK,beq_eq_false_iff_ne.mpr h,BK,XU]
def jy:bnd [x,y] [k1,k2] G y=some k2:=by
 unfold bnd;have e:(([x,y]:List Str).zip [k1,k2]).reverse=[(y,k2),(x,k1)]:=by simp
 rw[e,BK,XU]
def jz {z:Str}(h1:z≠x)(h2:z≠y):bnd [x,y] [k1,k2] G z=G z:=by
 unfold bnd;have e:(([x,y]:List Str).zip [k1,k2]).reverse=[(y,k2),(x,k1)]:=by simp
 rw[e,BK,beq_eq_false_iff_ne.mpr h2,BK,beq_eq_false_iff_ne.mpr h1];rfl
def qC (h:pZ kv G bs)(hxy:x≠y)(h1:Pk 40 k1)(h2:Pk 40 k2):pZ (Z8 kv [(.inr x,Zw k1),(.inr y,Zw k2)]) (bnd [x,y] [k1,k2] G) (bs++[x,y]):=λe he=>by
 rcases Ic he with he | ⟨he,hn⟩
 ·simp only[ZM,ZN,or_false] at he
  rcases he with rfl | rfl
  ·exact⟨x,k1,FL,sH hxy,by simp,h1⟩
  ·exact⟨y,k2,FL,jy,by simp,h2⟩
 ·obtain⟨z,k',rfl,g1,g2,g3⟩:=h e he;have n1:=hn (.inr x,Zw k1) (by simp);have n2:=hn (.inr y,Zw k2) (by simp);exact⟨z,k',FL,by rw[jz (λe=>n1 (by rw[e])) (λe=>n2 (by rw[e]))];exact g1,BI _ g2,g3⟩
def om (ih:wV f){way:Int}{c:Str}{pk pc:WP}{cs:List T}{ta:Tr}{o6 o7:Option T}{N:Nat}(hN:2*f+8<=N)(hway:way=6/\c="Cons"\/way=7/\c="Pair")(s:Sx (f+1) C1 a l m1 nd kv G bs)(hxy:x≠y)
  (K8:C1 pk=some (.lst [Zw k1,Zw k2])) (ka:pk≠a) (kl:pk≠l) (g:Gt C C1 a l m m1) (P11:C1 pc=some (.lst cs)) (ca:pc≠a) (cl:pc≠l) (cf:C pc=none) (hw:Pk (30-(f+1)) w) (hk1:Pk 40 k1) (hk2:Pk 40 k2) (hcs:cs.length<=3)
  (q:∀tb Rb C' m',Gt C C' a l m m'->HP (bnd [x,y] [k1,k2] G) tb w Rb->Wf f (bs++[x,y]) tb (m1-m')->m'<=m1->Q (.tup [.str "choose",tt ta,.tup (cs++[.tup [.str c,.tup [.str x,.str y],tt tb]])]) C'):
  T4 (Yg pr N) {nx:=λ_ C'=>Q .non C',rt:=Q,xc:=χ} [some (.ref a),some (.int way),some (Zw w),some (.ref nd),some (.int f),some (tt ta),o6,o7,some (.str x),some (.str y),some (.ref pk),some (.ref pc),none] C1:=by
 unfold T4 Vf;refine⟨_,FL,_,_,FL,s.rd,λpi hpi=>?_⟩;have x1:=Ex.new (o:=.dic kv) hpi;obtain⟨n1,n2⟩:=s.d.ne hpi;refine⟨_,FL,⟨_,_,FL,Ze⟩,λpd hpd=>?_⟩;have x2:=x1.trans (Ex.new (o:=.dic []) hpd);have K2:=x2 _ _ K8;have nid:pi≠pd:=λe=>by rw[e,Ze] at hpd;cases hpd
 refine⟨_,FL,_,FL,_,_,K2,Zr,_,FL,_,FL,_,_,K2,Yl,_,FL,_,FL,Ze,ZNB FL,?_⟩;rw[be hxy];refine⟨_,_,_,_,FL,FL,nid,by rw[Zg nid,Zg nid];exact Ze,Ze,Jj (by have:=s.kl;show kv.length+2<=_;omega),?_⟩;generalize hC3:up (up (up (up C1 pi (.dic kv)) pd (.dic [])) pd (.dic [(.inr x,Zw k1),(.inr y,Zw k2)])) pi (.dic (Z8 kv [(.inr x,Zw k1),(.inr y,Zw k2)]))=C3;have hpd1:C1 pd=none:=x1.free hpd;have e3:Ex C1 C3:=λc' o e=>by
  have h1:c'≠pi:=Jg e hpi;have h2:c'≠pd:=Jg e hpd1;rw[<-hC3,Zg h1,Zg h2,Zg h2,Zg h1];exact e
 have I3:C3 pi=some (.dic (Z8 kv [(.inr x,Zw k1),(.inr y,Zw k2)])):=by rw[<-hC3];exact Ze
 have s3:Sx f C3 a l m1 pi (Z8 kv [(.inr x,Zw k1),(.inr y,Zw k2)]) (bnd [x,y] [k1,k2] G) (bs++[x,y]):=⟨s.d.ex e3,s.m0,s.m40,.inl I3,n1,n2,qC s.g hxy hk1 hk2,by
  have:=Uw (l:=[(Sum.inr x,Zw k1),(Sum.inr y,Zw k2)]) (base:=kv);have:(Z8 kv [(.inr x,Zw k1),(.inr y,Zw k2)]).length<=kv.length+2:=this;have:=s.kl;omega,by have:=s.f22;omega⟩
 have P11':=e3 _ _ P11;have g3:Gt C C3 a l m m1:=⟨g.ez.trans (Ex.ez e3),s3.d,g.m0,g.ml⟩;clear hC3 I3 x1 x2 K2;have hi:∃i:Int,way-6=i/\Pa [T.str "Cons",.str "Pair"] i=some (.str c):=by
  rcases hway with⟨rfl,rfl⟩ | ⟨rfl,rfl⟩
  ·exact⟨0,by decide,Zr⟩
  ·exact⟨1,by decide,Yl⟩
 obtain⟨i,hi,hat⟩:=hi;refine⟨_,FL,⟨_,_,FL,P11'⟩,ZNB FL,λp5 hp5=>⟨_,FL,?_⟩⟩;dsimp only[eC,Nt];rw[hi];have x5':=Ex.new (o:=.lst [T.str "Cons",.str "Pair"]) hp5;refine⟨_,_,Ze,hat,_,FL,_,FL,ZNB FL,_,FL,_,FL,_,FL,_,FL,?_⟩;dsimp only[Zv];refine ih.at (by omega) (s3.ex x5') (kX hw) λtb Rb C4 m4 g4 H4 W4=>?_;have P4:=g4.ez.lst (x5' _ _ P11') ca cl;refine⟨ZNB FL,_,_,_,FL,FL,P4,Yu (by omega),?_⟩;refine⟨_,FL,_,FL,_,FL,_,Ze,ZNB FL,?_⟩;have G4:Gt C C4 a l m m4:=⟨(g3.ez.trans (Ex.ez x5')).trans g4.ez,g4.d,g4.m0,Int.le_trans g4.ml g.ml⟩;refine q tb Rb _ m4 ⟨λc' o h1 h2 e=>?_,G4.d.at (λo e=>by rw[Zg ca.symm];exact e) (λo e=>by rw[Zg cl.symm];exact e),G4.m0,G4.ml⟩ H4 W4 g4.ml;have hc:c'≠pc:=Jg e cf;rw[Zg hc];exact G4.ez c' o h1 h2 e
def oj (ih:wV f){way:Int}{o5 o6 o7:Option T}{N:Nat}(hN:2*f+8<=N)(hway:way=6/\k2=Xp k1\/way=7)(hd:Dl C a l m)(s:Sx (f+1) C1 a l m nd kv G bs)(e1:Ez a l C C1)(hxy:x≠y)(K8:C1 pk=some (.lst [Zw k1,Zw k2]))(ka:pk≠a)(kl:pk≠l)
  (hw:Pk (30-(f+1)) w) (hk1:Pk 5 k1) (hk2:way=7->Pk 5 k2) (q:∀t R C' m',Gt C C' a l m m'->HP G t w R->Wf (f+1) bs t (m-m'+1)->Q (tt t) C'):
  T3 (Yg pr N) {nx:=λ_ C'=>Q .non C',rt:=Q,xc:=χ} [some (.ref a),some (.int way),some (Zw w),some (.ref nd),some (.int f),o5,o6,o7,some (.str x),some (.str y),some (.ref pk),none,none] C1:=by
 unfold T3 Ve;have f22:=s.f22;obtain⟨i,wa,hi,hat,hpa⟩:∃(i:Int) (wa:Kd),way-6=i/\Pa [Zw k2,Zw (zO k1 k2)] i=some (Zw wa)/\(Pk (30-f) wa/\(way=6/\wa=Xp k1/\k2=Xp k1\/way=7/\wa=zO k1 k2)):=by
  rcases hway with⟨rfl,rfl⟩ | rfl
  ·exact⟨0,Xp k1,by decide,Zr,bY (by omega) hk1,.inl ⟨FL,FL,FL⟩⟩
  ·exact⟨1,zO k1 k2,by decide,Yl,bX (by omega) hk1 (hk2 FL),.inr ⟨FL,FL⟩⟩
 obtain⟨hpa,hwa⟩:=hpa;have k40:Pk 40 k2:=by
  rcases hway with⟨_,rfl⟩ | e
  ·exact Xa (m:=6) (by omega) (.inr (.inr (.inl ⟨_,FL,hk1⟩)))
  ·exact Xa (by omega) (hk2 e)
 refine⟨_,FL,_,FL,_,_,K8,Yl,_,FL,_,_,K8,Zr,_,FL,_,_,K8,Yl,ZNB FL,ZNB FL,λpl hpl=>⟨_,FL,?_⟩⟩;dsimp only[eC,Nt];rw[hi];refine⟨_,_,Ze,hat,_,FL,_,FL,?_⟩;dsimp only[Zv];have x2:=Ex.new (o:=.lst [Zw k2,Zw (zO k1 k2)]) hpl;have s2:=s.ex x2;have e2:=e1.new (o:=.lst [Zw k2,Zw (zO k1 k2)]) hpl;have K2:=x2 _ _ K8;show Yg pr N Od [.ref a,Zw wa,.ref nd,.int f] _ _ _;refine ih.at (by omega) s2.dn hpa λta Ra C5 m5 ga Ha Wa=>?_;have K5:=ga.ez.lst K2 ka kl;have s5:=s2.got ga;refine⟨XO _,λpc hpc=>?_⟩;have x7:=Ex.new (o:=.lst []) hpc;have s7:=s5.ex x7;have K7:=x7 _ _ K5;obtain⟨c1,c2⟩:=s5.d.ne hpc;have g5:Gt C C5 a l m m5:=ga.back e2 (XW _);have cf:C pc=none:=g5.ez.free hpc c1 c2;have g7:Gt C (up C5 pc (.lst [])) a l m m5:=⟨g5.ez.new hpc,s7.d,g5.m0,g5.ml⟩;have P7:up C5 pc (.lst []) pc=some (.lst []):=Ze
 rcases hwa with⟨rfl,rfl,rfl⟩ | ⟨rfl,rfl⟩
 ·refine⟨_,FL,Q8 (v:=true) FL ⟨_,FL,Z6 ?_⟩⟩;refine⟨XO _,_,FL,_,FL,_,FL,_,FL,?_⟩;dsimp only[Zv];refine ih.at (by omega) s7.dn (kX hw) λtn Rn C8 m8 gn Hn Wn=>?_;have g8:Gt C C8 a l m m8:=g7.then gn;have s8:=s7.got gn;have K8':=gn.ez.lst K7 ka kl;refine⟨ZNB FL,ZNB FL,λpd hpd=>?_⟩;have x9:=Ex.new (o:=.lst [.tup [.str "Nil",.tup [],tt tn]]) hpd;obtain⟨d1,d2⟩:=s8.d.ne hpd;refine om (c:="Cons") ih hN (.inl ⟨FL,FL⟩) (s8.ex x9) hxy (x9 _ _ K8') ka kl ⟨g8.ez.new hpd,s8.d.ex x9,g8.m0,g8.ml⟩ Ze d1 d2 (g8.ez.free hpd d1 d2) hw (Xa (by omega) hk1) k40 (by show 1<=3;decide) λtb Rb C' m' gb Hb Wb hm=>?_;exact q (.chL ta tn x y tb) _ C' m' gb (HP.m3 .chL Ha Hn Hb (zx hw)) (nv Wa Wn Wb (by omega))
 ·refine⟨_,FL,Q8 (v:=false) FL ⟨_,FL,Zl ?_⟩⟩;refine om (c:="Pair") ih hN (.inr ⟨FL,FL⟩) s7 hxy K7 ka kl g7 P7 c1 c2 cf hw (Xa (by omega) hk1) k40 (by show 0<=3;decide) λtb Rb C' m' gb Hb Wb hm=>?_;exact q (.chP ta x y tb) _ C' m' gb (HP.m2 .chP Ha Hb (zx hw)) (nu Wa Wb (by omega))
def uz (ih:wV f){way:Int}(hway:way=5\/way=6\/way=7)(s:Sx (f+1) C a l m nd kv G bs)(hw:Pk (30-(f+1)) w)(q:∀t R C' m',Gt C C' a l m m'->HP G t w R->Wf (f+1) bs t (m-m'+1)->Q (tt t) C'):Yg pr (n+2*f+9) Es [.ref a,.int way,Zw w,.ref nd,.int f] C Q χ:=by
 refine Ej (n:=n+2*f+8) FL ?_;unfold Te Tv;have f22:=s.f22;have s0:=s.dn
 rcases hway with rfl | hway
 ·refine⟨_,FL,Q8 (v:=true) FL ⟨_,FL,Z6 ?_⟩⟩;refine⟨_,FL,ZNB FL,_,FL,_,FL,?_⟩;dsimp only[Zv];refine ih.at (w:=Ua) (by omega) s0 (Xa (m:=1) (by omega) (.inr (.inl FL))) λta Ra C1 m1 ga Ha Wa=>?_;refine⟨_,FL,_,FL,_,FL,_,FL,?_⟩;dsimp only[Zv];have s1:=s0.got ga;refine ih.at (by omega) s1 (kX hw) λt1 R1 C2 m2 g1 H1 W1=>?_;have s2:=s1.got g1;refine⟨_,FL,XO _,_,FL,ZNB FL,XO _,_,FL,_,FL,_,FL,_,FL,?_⟩;dsimp only[Zv];refine ih.at (by omega) s2 (kX hw) λt2 R2 C3 m3 g2 H2 W2=>⟨ZNB FL,ZNB FL,ZNB FL,?_⟩;exact q (.chT ta t1 t2) _ _ m3 ((ga.then g1).then g2) (HP.m3 .chT Ha H1 H2 (zx hw)) (nt Wa W1 W2 (by omega))
 refine⟨_,rfl,Q8 rfl ⟨_,rfl,Ly (by rcases hway with rfl | rfl<;>rfl) ?_⟩⟩;refine⟨_,FL,?_⟩;dsimp only[Zv,Zz,eC];refine Ni (by omega) s.d λk1 C1 x1 D1 hk1=>?_;refine⟨_,FL,?_⟩;dsimp only[Zv,Zz,eC];refine Gs (n:=n+2*f+6) D1 λx C2 x2 D2=>?_;refine⟨_,FL,?_⟩;dsimp only[Zv,Zz,eC];refine Gs (n:=n+2*f+6) D2 λy0 C3 x3 D3=>?_;dsimp only[Eu];have e3:Ez a l C C3:=((x1.trans x2).trans x3).ez;have J4:∀(C3:Hw) (y:Str),x≠y->Ez a l C C3->Dl C3 a l m->T1 (Yg pr (n+2*f+8)) {nx:=λ_ C'=>Q .non C',rt:=Q,xc:=χ} [some (.ref a),some (.int way),some (Zw w),some (.ref nd),some (.int f),none,none,some (Zw k1),some (.str x),some (.str y),none,none,none] C3:=by
  intro C3 y hxy e3 D3;unfold T1 Vd;have s3:=s.on e3 D3 s.m0 (XW _);refine⟨_,FL,_,FL,ZNB FL,ZNB FL,λpk hpk=>?_⟩;have x4:=Ex.new (o:=.lst [Zw k1,Zw (Xp k1)]) hpk;obtain⟨n1,n2⟩:=D3.ne hpk
  rcases hway with rfl | rfl
  ·refine⟨_,FL,Q8 (v:=false) FL ⟨_,FL,Zl ?_⟩⟩;exact oj (k1:=k1) (k2:=Xp k1) ih (by omega) (.inl ⟨FL,FL⟩) s.d (s3.ex x4) (e3.new hpk) hxy Ze n1 n2 hw hk1 (λe=>by cases e) q
  ·refine⟨_,FL,Q8 (v:=true) FL ⟨_,FL,Z6 ?_⟩⟩;refine⟨_,FL,_,FL,?_⟩;dsimp only[Zv,Zz,eC];refine Ni (by omega) (D3.ex x4) λk2 C5 x5 D5 hk2=>⟨ZNB FL,λpk2 hpk2=>?_⟩;obtain⟨n3,n4⟩:=D5.ne hpk2;have e5:Ez a l C C5:=(e3.new hpk).trans x5.ez;exact oj (k1:=k1) (k2:=k2) ih (by omega) (.inr FL) s.d ((s.on e5 D5 s.m0 (XW _)).ex (Ex.new hpk2)) (e5.new hpk2) hxy Ze n3 n4 hw hk1 (λ_=>hk2) q
 refine⟨_,FL,_,FL,dS FL ⟨_,FL,Wo (λc=>?_) (λc=>J4 C3 y0 (λe=>by rw[e,XU] at c;cases c) e3 D3)⟩⟩;refine⟨ZNB FL,λpz hpz=>⟨_,FL,Zu FL (.inr ⟨_,FL,?_⟩)⟩⟩;have e4:=e3.new (o:=.lst [.str "z",.str "y"]) hpz;have D4:=D3.ex (Ex.new (o:=.lst [.str "z",.str "y"]) hpz);by_cases hz:x="z"
 ·have hb:(x=="z")=true:=by rw[hz];exact XU _
  rw[hb];exact⟨_,_,Ze,Yl,J4 _ "y" (by rw[hz];decide+kernel) e4 D4⟩
 ·have hb:(x=="z")=false:=beq_eq_false_iff_ne.mpr hz;rw[hb];exact⟨_,_,Ze,Zr,J4 _ "z" hz e4 D4⟩
end
def bz (zs:List (Str×Kd)):List (Z0×T):=zs.map λz=>(Sum.inr z.1,Zw z.2)
def k7 {zs:List (Str×Kd)}{k:Kd}(hn:(zs.map (·.1)).Nodup)(hp:∀z∈zs,Pk 5 z.2)(hk:Pk 5 k):∃zs',Yy (bz zs) (.inr x) (Zw k)=bz zs'/\(zs'.map (·.1)).Nodup/\zs'.length<=zs.length+1/\∀z∈zs',Pk 5 z.2:=by
 by_cases c:x∈zs.map (·.1)
 ·refine⟨zs.map λz=>if z.1=x then(z.1,k) else z,?_,?_,by rw[XI];omega,λz hz=>?_⟩
  ·unfold Yy bz;rw[XY]
   ·rw[YE,YE];refine BR λz _=>?_;show(if (Sum.inr z.1:Z0)=Sum.inr x then(Sum.inr z.1,Zw k) else(Sum.inr z.1,Zw z.2))=(Sum.inr (if z.1=x then(z.1,k) else z).1,Zw (if z.1=x then(z.1,k) else z).2);by_cases e:z.1=x
    ·rw[XY (by rw[e]),XY e]
    ·rw[XX λh=>e (Sum.inr.inj h),XX e]
   ·obtain⟨z,hz,e⟩:=XR.mp c;exact DA.mpr ⟨(Sum.inr z.1,Zw z.2),XR.mpr ⟨z,hz,FL⟩,decide_eq_true (by show(Sum.inr z.1:Z0)=Sum.inr x;rw[e])⟩
  ·have:(zs.map λz=>if z.1=x then(z.1,k) else z).map (·.1)=zs.map (·.1):=by
    rw[YE];refine BR λz _=>?_;show(if z.1=x then(z.1,k) else z).1=z.1
    split<;>rfl
   rw[this];exact hn
  ·obtain⟨y,hy,rfl⟩:=XR.mp hz
   split
   ·exact hk
   ·exact hp y hy
 ·refine⟨zs++[(x,k)],?_,?_,by rw[BA];exact XE _,λz hz=>?_⟩
  ·unfold Yy bz;rw[XX,XL];rfl;intro h;obtain⟨e,he,hd⟩:=DA.mp h;obtain⟨z,hz,rfl⟩:=XR.mp he;exact c (XR.mpr ⟨z,hz,Sum.inr.inj (of_decide_eq_true hd)⟩)
  ·rw[XL,DX];exact⟨hn,by simp,λa ha b hb=>by rw[List.mem_singleton.mp hb];exact λe=>c (by have e':a=x:=e;rw[<-e'];exact ha)⟩
  ·rcases XS.mp hz with hz | hz
   ·exact hp z hz
   ·rw[XQ.mp hz];exact hk
def gF {L:List (Str×Kd)}:(L.map (·.1)).Nodup->∀{z:Str×Kd},z∈L->L.lookup z.1=some z.2:=by
 induction L with
 | nil=>intro _ z h;cases h
 | cons y r ih=>
  intro hn z hz;rw[YI,BZ] at hn
  rcases BC.mp hz with rfl | hz
  ·rw[BK,XU]
  ·have:z.1≠y.1:=λe=>hn.1 (XR.mpr ⟨z,hz,e⟩);rw[BK,beq_eq_false_iff_ne.mpr this];exact ih hn.2 hz
def gE {L:List (Str×Kd)}{x:Str}:x∉L.map (·.1)->L.lookup x=none:=by
 induction L with
 | nil=>intro _;rfl
 | cons y r ih=>
  intro hn;rw[YI,BC,not_or] at hn;rw[BK,beq_eq_false_iff_ne.mpr hn.1];exact ih hn.2
def ie (zs:List (Str×Kd)):(zs.map (·.1)).zip (zs.map (·.2))=zs:=by
 induction zs with
 | nil=>rfl
 | cons z r ih=>rw[YI,YI,List.zip_cons_cons,ih]
def pI {zs:List (Str×Kd)}(hn:(zs.map (·.1)).Nodup){z:Str×Kd}(hz:z∈zs):bnd (zs.map (·.1)) (zs.map (·.2)) G z.1=some z.2:=by
 unfold bnd;rw[ie,gF (by rw[DN];exact((List.reverse_perm (zs.map (·.1))).nodup_iff).mpr hn) (EE.mpr hz)]
def pG {zs:List (Str×Kd)}{x:Str}(h:x∉zs.map (·.1)):bnd (zs.map (·.1)) (zs.map (·.2)) G x=G x:=by
 unfold bnd;rw[ie,gE (by rw[DN,EE];exact h)]
def wu {zs:List (Str×Kd)}(h:pZ kv G bs)(hn:(zs.map (·.1)).Nodup)(hp:∀z∈zs,Pk 5 z.2):pZ (Z8 kv (bz zs)) (bnd (zs.map (·.1)) (zs.map (·.2)) G) (bs++zs.map (·.1)):=λe he=>by
 rcases Ic he with he | ⟨he,hne⟩
 ·obtain⟨z,hz,rfl⟩:=XR.mp he;exact⟨z.1,z.2,FL,pI hn hz,XT _ (XR.mpr ⟨z,hz,FL⟩),Xa (by decide) (hp z hz)⟩
 ·obtain⟨x,k',rfl,g1,g2,g3⟩:=h e he;refine⟨x,k',FL,?_,BI _ g2,g3⟩;rw[pG λhx=>?_]
  ·exact g1
  ·obtain⟨z,hz,e⟩:=XR.mp hx;exact hne (Sum.inr z.1,Zw z.2) (XR.mpr ⟨z,hz,FL⟩) (by show(Sum.inr z.1:Z0)=Sum.inr x;rw[e])
def Tb {α β:Type}(l:List α)(f:α->β):(List.finRange l.length).map (λi=>f (l[i]))=l.map f:=by
 refine List.ext_getElem (by simp) λi h1 h2=>?_;simp
def ltL (ys:List (Str×Kd×Tr))(b:Tr):Tr:=.lt ys.length (λi=>(ys[i]).1) (λi=>(ys[i]).2.2) b
def nB:tt (ltL ys b)=.tup [.str "let",.tup (ys.map λy=>.tup [.str y.1,tt y.2.2]),tt b]:=by
 unfold ltL;rw[tt,<-Tb ys λy=>T.tup [.str y.1,tt y.2.2]]
section
variable {ys:List (Str×Kd×Tr)}{b:Tr}{G:Ev}{k:Kd}{R Rb:List Kd}{f:Nat}{bs:List Str}{u u1 u2:Int}
def lW (h:HTs (ys.map λy=>(bnd (ys.map (·.1)) (ys.map (·.2.1)) G,y.2.2,y.2.1)) R)(hb:HT (bnd (ys.map (·.1)) (ys.map (·.2.1)) G) b k Rb):HT G (ltL ys b) k (k::(R++Rb)):=by
 have r:Jd (ltL ys b) G k _:=Jd.lt (ks:=λi:_root_.Fin ys.length=>(ys[i]).2.1);have e1:Wh (λi:_root_.Fin ys.length=>(ys[i]).1)=ys.map (·.1):=Tb ys (·.1);have e2:(List.finRange ys.length).map (λi:_root_.Fin ys.length=>(ys[i]).2.1)=ys.map (·.2.1):=Tb ys (·.2.1);rw[e1,e2,Tb ys λy=>(bnd (ys.map (·.1)) (ys.map (·.2.1)) G,y.2.2,y.2.1)] at r;exact .mk r (HTs.app h (.mk1 hb))
def nr (hl:ys.length<=5)(h:∀y∈ys,y.2.2.lok/\Cd (f+1) (bs++ys.map (·.1)) y.2.2)(hs:(((ys.map λy=>y.2.2.size).sum:Nat):Int)<=ys.length+6*u1)(hc:(ys.map λy=>y.2.2.cost).sum<=5*(ys.map λy=>y.2.2.size).sum)(hb:Wf f (bs++ys.map (·.1)) b u2)(hu:u=u1+u2+1):Wf (f+1) bs (ltL ys b) u:=by
 have e1:Wh (λi:_root_.Fin ys.length=>(ys[i]).1)=ys.map (·.1):=Tb ys (·.1);refine⟨⟨by omega,λi=>(h _ (YN _)).1,hb.l⟩,⟨λx e=>(by cases e),λz hz=>?_⟩,?_,?_⟩
 ·have hz:z∈((List.finRange ys.length).map λi=>(Wh (λi:_root_.Fin ys.length=>(ys[i]).1),(ys[i]).2.2))++[(Wh (λi:_root_.Fin ys.length=>(ys[i]).1),b)]:=hz;rw[e1] at hz
  rcases XS.mp hz with hz | hz
  ·obtain⟨i,_,rfl⟩:=XR.mp hz;exact(h _ (YN _)).2
  ·rw[XQ.mp hz];exact hb.c
 ·show((1+(((List.finRange ys.length).map λi=>(ys[i]).2.2.size).sum+b.size):Nat):Int)<=_;rw[Tb ys λy=>y.2.2.size];have:=hb.s;omega
 ·show ys.length+(((List.finRange ys.length).map λi=>(ys[i]).2.2.cost).sum+b.cost)<=5*(1+(((List.finRange ys.length).map λi=>(ys[i]).2.2.size).sum+b.size));rw[Tb ys λy=>y.2.2.size,Tb ys λy=>y.2.2.cost];have:=hb.k;omega
end
section
variable {f n:Nat}{C C' C1 C2:Hw}{Q:WK}{χ:WX}{a l nd p pb:WP}{m m' m1 m2:Int}{kv:List (Z0×T)}{G:Ev}{bs:List Str}{w w1 w2 k1 k2:Kd}{R R1 R2:List Kd}{u u1 u2 u3:Int}{t t1 t2 t3 b:Tr}{x y:Str}
def Gi {α:Type}{g:α->Nat}{l:List α}{x:α}:((l++[x]).map g).sum=(l.map g).sum+g x:=by simp
def iW (ih:wV f)(s:Sx (f+1) C a l m nd kv G bs)(hw:Pk (30-(f+1)) w)(q:∀t R C' m',Gt C C' a l m m'->HP G t w R->Wf (f+1) bs t (m-m'+1)->Q (tt t) C'):Yg pr (n+2*f+9) jh [.ref a,Zw w,.ref nd,.int f] C Q χ:=by
 refine yD (n:=n+2*f+8) FL ?_;unfold Mg M5;have f22:=s.f22;intro pb hpb;obtain⟨nb1,nb2⟩:=s.d.ne hpb;have D1:=s.d.ex (Ex.new (o:=.dic []) hpb);refine⟨_,FL,?_⟩;dsimp only[Zv,Zz,eC];refine Xk (n:=n+2*f+7) D1 (by decide) (Ob (by decide) (by decide)) λr C2 x2 D2 r0 r1=>?_;dsimp only[A4];refine⟨_,FL,by omega,by omega,?_⟩;refine xh (λi τ C'=>∃(zs:List (Str×Kd)) (x5 x6:Option T),τ=[some (.ref a),some (Zw w),some (.ref nd),some (.int f),some (.ref pb),x5,x6,none,none,none]/\Ez a l C C'/\Dl C' a l m/\C' pb=some (.dic (bz zs))/\(zs.map (·.1)).Nodup/\zs.length<=i/\∀z∈zs,Pk 5 z.2)
  ⟨[],_,_,FL,(Ez.refl.new hpb).trans x2.ez,D2,x2 pb _ nb1 nb2 Ze,by simp,Nat.le_refl _,λz h=>by cases h⟩ (λ_=>trivial) ?_ ?_
 ·rintro i τ C3 N hi ⟨zs,z5,z6,rfl,e3,D3,B3,n3,l3,k3⟩ hN;refine⟨_,FL,?_⟩;dsimp only[Zv,Zz,eC];refine Gs (n:=n+2*f+6) D3 λx C4 x4 D4=>?_;refine⟨_,FL,?_⟩;dsimp only[Zv,Zz,eC];refine Ni (by omega) D4 λk C5 x5 D5 hk=>?_;have B5:=x5 pb _ nb1 nb2 (x4 pb _ nb1 nb2 B3);obtain⟨zs',e',n',l',k'⟩:=k7 (x:=x) n3 k3 hk;refine⟨_,FL,_,FL,_,_,_,FL,FL,B5,Yu (by unfold bz;rw[XI];omega),?_⟩;rw[e'];refine hN _ _ ⟨zs',_,_,FL,?_,D5.at (λo e=>by rw[Zg nb1.symm];exact e) (λo e=>by rw[Zg nb2.symm];exact e),Ze,n',by omega,k'⟩;have e5:=(e3.trans x4.ez).trans x5.ez;exact λc o h1 h2 e=>by rw[Zg (Jg e hpb)];exact e5 c o h1 h2 e
 rintro τ C3 ⟨zs,z5,z6,rfl,e3,D3,B3,n3,l3,k3⟩;have l5:zs.length<=5:=by omega
 have s3:=s.on e3 D3 s.m0 (XW _);clear D1 D2 x2;refine⟨_,FL,_,_,FL,s3.rd,λpi hpi=>?_⟩;obtain⟨ni1,ni2⟩:=D3.ne hpi;have nib:pi≠pb:=(Jg B3 hpi).symm;refine⟨_,FL,⟨_,_,FL,Ze⟩,_,FL,_,_,_,_,FL,FL,nib,Ze,by rw[Zg nib.symm];exact B3,Jj (by have:=s.kl;show kv.length+(bz zs).length<=_;unfold bz;rw[XI];omega),?_⟩;generalize hC4:up (up C3 pi (.dic kv)) pi (.dic (Z8 kv (bz zs)))=C4;have x4:Ex C3 C4:=λc o e=>by rw[<-hC4,Zg (Jg e hpi),Zg (Jg e hpi)];exact e
 have I4:C4 pi=some (.dic (Z8 kv (bz zs))):=by rw[<-hC4];exact Ze
 have D4:=D3.ex x4;have B4:=x4 _ _ B3;have s4:Sx f C4 a l m pi (Z8 kv (bz zs)) (bnd (zs.map (·.1)) (zs.map (·.2)) G) (bs++zs.map (·.1)):=⟨D4,s.m0,s.m40,.inl I4,ni1,ni2,wu s.g n3 k3,by
  have h1:(Z8 kv (bz zs)).length<=kv.length+(bz zs).length:=Uw;have h2:(bz zs).length=zs.length:=XI ..;have:=s.kl;omega,by omega⟩
 have e4:Ez a l C C4:=e3.trans (Ex.ez x4);clear hC4 x4 I4;refine⟨XO _,λpp hpp=>?_⟩;obtain⟨np1,np2⟩:=D4.ne hpp;have npb:pp≠pb:=(Jg B4 hpp).symm;have npi:pi≠pp:=by rcases s4.rd with h | h<;>exact Jg h hpp
 have x6:=Ex.new (o:=.lst []) hpp;have P6:up C4 pp (.lst []) pp=some (.lst []):=Ze;generalize up C4 pp (.lst [])=C6 at x6 P6;have s6:=s4.ex x6;have B6:=x6 _ _ B4;have e6:Ez a l C C6:=e4.trans (Ex.ez x6);have fpp:C pp=none:=e4.free hpp np1 np2;refine⟨_,FL,_,_,FL,.inl B6,?_⟩;have s7:Sx f (up C6 pb (.fdic (bz zs))) a l m pi (Z8 kv (bz zs)) (bnd (zs.map (·.1)) (zs.map (·.2)) G) (bs++zs.map (·.1)):=
  ⟨s6.d.at (λo e=>by rw[Zg nb1.symm];exact e) (λo e=>by rw[Zg nb2.symm];exact e),s6.m0,s6.m40,(by rcases s6.rd with h | h;exact .inl (by rw[Zg nib];exact h);exact .inr (by rw[Zg nib];exact h)),ni1,ni2,s6.g,s6.kl,s6.f22⟩
 have e7:Ez a l C (up C6 pb (.fdic (bz zs))):=λc o h1 h2 e=>by rw[Zg (Jg e hpb)];exact e6 c o h1 h2 e
 have P7:up C6 pb (.fdic (bz zs)) pp=some (.lst []):=by rw[Zg npb];exact P6
 have B7:up C6 pb (.fdic (bz zs)) pb=some (.fdic (bz zs)):=Ze;generalize up C6 pb (.fdic (bz zs))=C7 at s7 e7 P7 B7;clear x6 P6 s6 B6 e6 hpp hpi s4 D4 B4 e4 s3 D3 B3 e3;refine X2 (λi τ C'=>∃(ys:List (Str×Kd×Tr)) (Rs:List Kd) (m':Int) (x5 x6 x9:Option T),τ=[some (.ref a),some (Zw w),some (.ref nd),some (.int f),some (.ref pb),x5,x6,some (.ref pi),some (.ref pp),x9]/\
   Sx f C' a l m' pi (Z8 kv (bz zs)) (bnd (zs.map (·.1)) (zs.map (·.2)) G) (bs++zs.map (·.1))/\Gt C C' a l m m'/\C' pp=some (.lst (ys.map λy=>.tup [.str y.1,tt y.2.2]))/\C' pb=some (.fdic (bz zs))/\
   (ys.map λy=>(y.1,y.2.1))=zs.take i/\(HTs (ys.map λy=>(bnd (zs.map (·.1)) (zs.map (·.2)) G,y.2.2,y.2.1)) Rs/\∀r∈Rs,Pk 30 r)/\(∀y∈ys,y.2.2.lok/\Cd (f+1) (bs++zs.map (·.1)) y.2.2)/\
   (((ys.map λy=>y.2.2.size).sum:Nat):Int)<=ys.length+6*(m-m')/\(ys.map λy=>y.2.2.cost).sum<=5*(ys.map λy=>y.2.2.size).sum)
  ⟨[],[],m,_,_,_,FL,s7,⟨e7,s7.d,s7.m0,XW _⟩,P7,B7,FL,⟨.nil,λr h=>(by cases h)⟩,λy h=>(by cases h),(by show(0:Int)<=0+6*(m-m);omega),XE _⟩ ?_ ?_ ?_
 ·rintro i τ C' _ ⟨ys,Rs,m',_,_,_,_,_,_,_,h,_⟩;exact h
 ·rintro i v τ C8 N hv ⟨ys,Rs,m',y5,y6,y9,rfl,s8,g8,P8,B8,hys,⟨hH,hHr⟩,hok,hsz,hco⟩ hN;have hv':∃z,zs[i]?=some z/\v=.tup [.str z.1,Zw z.2]:=by
   unfold WL.rI bz at hv;rw[YE,XM] at hv
   cases e:zs[i]? with
   | none=>rw[e] at hv;cases hv
   | some z=>rw[e] at hv;exact⟨z,FL,(YH hv).symm⟩
  obtain⟨z,hz,rfl⟩:=hv';have hi:i<zs.length:=(BB.mp hz).1;refine⟨_,FL,_,_,FL,_,_,FL,FL,?_⟩;refine⟨_,FL,⟨_,_,FL,P8⟩,_,FL,_,FL,_,FL,_,FL,_,FL,?_⟩;dsimp only[Zv];refine ih.at (by omega) s8 (Xa (by omega) (k3 z (BE hz))) λt Rt C9 m9 g9 H9 W9=>?_;have P9:=g9.ez.lst P8 np1 np2;have G9:=g8.then g9;have s9:=s8.got g9;have B9:C9 pb=some (.fdic (bz zs)):=by
   rcases g9.ez pb _ nb1 nb2 B8 with h | ⟨_,e,_⟩
   ·exact h
   ·cases e
  refine⟨ZNB FL,_,_,_,FL,FL,P9,Yu (by rw[XI];have:=congrArg List.length hys;rw[XI,YM] at this;omega),?_⟩;have eM:(ys.map λy=>T.tup [.str y.1,tt y.2.2])++[.tup [.str z.1,tt t]]=(ys++[(z.1,z.2,t)]).map λy=>T.tup [.str y.1,tt y.2.2]:=by rw[XL];rfl
  rw[eM];have G10:Gt C (up C9 pp (.lst ((ys++[(z.1,z.2,t)]).map λy=>.tup [.str y.1,tt y.2.2]))) a l m m9:=
   ⟨λc o h1 h2 e=>by rw[Zg (Jg e fpp)];exact G9.ez c o h1 h2 e,G9.d.at (λo e=>by rw[Zg np1.symm];exact e) (λo e=>by rw[Zg np2.symm];exact e),G9.m0,G9.ml⟩
  have s10:Sx f (up C9 pp (.lst ((ys++[(z.1,z.2,t)]).map λy=>.tup [.str y.1,tt y.2.2]))) a l m9 pi (Z8 kv (bz zs)) (bnd (zs.map (·.1)) (zs.map (·.2)) G) (bs++zs.map (·.1)):=
   ⟨G10.d,s9.m0,s9.m40,(by rcases s9.rd with h | h;exact .inl (by rw[Zg npi];exact h);exact .inr (by rw[Zg npi];exact h)),ni1,ni2,s9.g,s9.kl,s9.f22⟩
  refine hN _ _ ⟨ys++[(z.1,z.2,t)],Rs++Rt,m9,_,_,_,FL,s10,G10,Ze,by rw[Zg npb.symm];exact B9,?_,?_,?_,?_,?_⟩
  ·rw[XL,hys,YD,hz];rfl
  ·rw[XL];exact⟨HTs.app hH (.mk1 H9.h),λr hr=>(XS.mp hr).elim (hHr r) (H9.r r)⟩
  ·intro y hy
   rcases XS.mp hy with hy | hy
   ·exact hok y hy
   ·rw[XQ.mp hy];exact⟨W9.l,W9.c⟩
  ·rw[Gi,BA];have:=W9.s;show((_+t.size:Nat):Int)<=((ys.length+1:Nat):Int)+_;omega
  ·rw[Gi,Gi];have:=W9.k;show _+t.cost<=5*(_+t.size);omega
 ·rintro τ C8 ⟨ys,Rs,m',y5,y6,y9,rfl,s8,g8,P8,B8,hys,⟨hH,hHr⟩,hok,hsz,hco⟩;have hz2:(WL.rI (bz zs)).length=zs.length:=by unfold WL.rI bz;rw[XI,XI]
  rw[hz2] at hys;rw[CB] at hys;subst hys;have f1:(ys.map λy=>(y.1,y.2.1)).map (·.1)=ys.map (·.1):=by rw[YE];rfl
  have f2:(ys.map λy=>(y.1,y.2.1)).map (·.2)=ys.map (·.2.1):=by rw[YE];rfl
  rw[f1,f2] at s8 hH;rw[f1] at hok;rw[XI] at l5;refine⟨_,FL,_,FL,_,P8,_,FL,_,FL,_,FL,_,FL,?_⟩;dsimp only[Zv];refine ih.at (by omega) s8 (kX hw) λtb Rb C9 m9 g9 H9 W9=>⟨ZNB FL,?_⟩;rw[<-nB];exact q (ltL ys tb) _ _ m9 (g8.then g9) ⟨lW hH H9.h,λr hr=>(BC.mp hr).elim (λe=>e▸zx hw) λhr=>(XS.mp hr).elim (hHr r) (H9.r r)⟩ (nr l5 hok hsz hco W9 (by omega))
def i4 (ih:wV f){r:Int}(r0:0<r)(r1:r<10)(s:Sx (f+1) C a l m nd kv G bs)(hw:Pk (30-(f+1)) w)(q:∀t R C' m',Gt C C' a l m m'->HP G t w R->Wf (f+1) bs t (m-m'+1)->Q (tt t) C'):
  (Xy (Eo (El (Kz (Yk eD (Yb 4) (eC (T.int 3)))) (Kz (Yk M6 (Yb 4) (eC (T.int 9))))) (Be (Qm (Yg pr (n+2*f+9)) Ff (Zz (Yb 0) (Zz (Yb 1) (Zz (Yb 2) (Zz (Yk Nt (Yb 3) (eC (T.int 1))) Zv)))))) Xl) (Pd (Yg pr (n+2*f+9))))
   {nx:=λ_ C'=>Q .non C',rt:=Q,xc:=χ} [some (.ref a),some (Zw w),some (.ref nd),some (.int ((f+1:Nat):Int)),some (.int r),none,none,none] C:=by
 have hc:((f+1:Nat):Int)-1=(f:Int):=by omega
 have f22:=s.f22;refine gH (λk=>k=false->3<=r/\r≠9) (λK χ' h=>?_) (λ_=>?_) λh=>?_
 ·refine⟨_,FL,_,FL,Wo (λ_=>h true λe=>by cases e) (λc0=>?_)⟩;refine⟨_,FL,Q8 FL ⟨_,FL,h _ λe=>⟨?_,λe'=>?_⟩⟩⟩
  ·have:=of_decide_eq_false c0;omega
  ·rw[e'] at e;cases e
 ·refine⟨_,FL,_,FL,_,FL,_,FL,?_⟩;dsimp only[Zv,eC,Nt];rw[hc];exact iR ih s hw q
 obtain⟨r3,r9⟩:=h FL;unfold Pd U2;refine⟨_,FL,Q8 FL ⟨_,FL,Wo (λc3=>?_) (λc3=>?_)⟩⟩
 ·refine⟨_,FL,?_⟩;dsimp only[Zv,Zz,eC];refine Ni (by omega) s.d λka C1 x1 D1 hk=>?_;have s1:=s.on x1.ez D1 s.m0 (XW _);refine⟨_,FL,_,FL,_,FL,ZNB FL,_,FL,_,FL,?_⟩;dsimp only[Zv,eC,Nt];rw[hc];refine ih.at (w:=vD ka w) (by omega) s1.dn (d4 f22 hk hw) λt1 R1 C2 m2 g2 H1 W1=>?_;refine⟨_,FL,_,FL,_,FL,_,FL,_,FL,?_⟩;dsimp only[Zv,eC,Nt];rw[hc];refine ih.at (by omega) (s1.dn.got g2) (d7 (by omega) hk) λt2 R2 C3 m3 g3 H2 W2=>⟨ZNB FL,?_⟩;exact q (.call t1 t2) _ _ m3 ((g2.then g3).back x1.ez (XW _)) (HP.m2 .call H1 H2 (zx hw)) (ii W1 W2 ⟨W1.l,W2.l⟩ FL (λx e=>by cases e) FL FL (by omega))
 refine⟨_,FL,Q8 FL ⟨_,FL,Wo (λc4=>?_) (λc4=>?_)⟩⟩
 ·refine⟨_,FL,_,FL,_,FL,_,FL,?_⟩;dsimp only[Zv,eC,Nt];rw[hc];exact iW ih s hw q
 refine⟨_,FL,Q8 FL ⟨_,FL,Wo (λc8=>?_) (λc8=>?_)⟩⟩
 ·refine⟨_,FL,_,FL,?_⟩;dsimp only[Zv,Zz,eC];refine Ni (by omega) s.d λka C1 x1 D1 hk=>⟨_,FL,_,FL,?_⟩;dsimp only[Zv,eC,Nt];rw[hc];have s1:=s.on x1.ez D1 s.m0 (XW _);refine ih.at (by omega) s1.dn (d7 (by omega) hk) λt1 R1 C2 m2 g2 H1 W1=>?_;refine⟨_,FL,_,FL,_,FL,_,FL,_,FL,?_⟩;dsimp only[Zv,eC,Nt];rw[hc];refine ih.at (by omega) (s1.dn.got g2) (kX hw) λt2 R2 C3 m3 g3 H2 W2=>⟨ZNB FL,?_⟩;exact q (.first t1 t2) _ _ m3 ((g2.then g3).back x1.ez (XW _)) (HP.m2 .first H1 H2 (zx hw)) (ii W1 W2 ⟨W1.l,W2.l⟩ FL (λx e=>by cases e) FL FL (by omega))
 refine⟨_,FL,_,FL,_,FL,_,FL,_,FL,?_⟩;dsimp only[Zv,eC,Nt];rw[hc];refine uz ih ?_ s hw q;have h3:r≠3:=λe=>by rw[e] at c3;cases c3
 have h4:r≠4:=λe=>by rw[e] at c4;cases c4
 have h8:r≠8:=λe=>by rw[e] at c8;cases c8
 omega
def jI (ih:∀f',f=f'+1->wV f'):wV f:=λ{n C Q χ a l nd m kv G bs w} s hw q=>by
  refine A9 (n:=n+2*f+7) FL ?_;unfold Pe Oo;have f22:=s.f22;have t7:∀(C1:Hw) (r:Int),Ez a l C C1->Dl C1 a l m->0<=r->r<10->(r≠0->f≠0/\0<m)->Pc (Yg pr (n+2*f+7)) {nx:=λ_ C'=>Q .non C',rt:=Q,xc:=χ} [some (.ref a),some (Zw w),some (.ref nd),some (.int f),some (.int r),none,none,none] C1:=by
   intro C1 r e1 D1 r0 r1 hr;unfold Pc U1;have s1:=s.on e1 D1 s.m0 (XW _);refine⟨_,FL,Q8 FL ⟨_,FL,Wo (λc=>?_) (λc=>?_)⟩⟩
   ·refine⟨_,FL,_,FL,_,FL,?_⟩;dsimp only[Zv];refine nM (n:=n+2*f+4) (f:=f) D1 hw (by omega) s1.rd s.na s.nl s.g (by have:=s.kl;omega) λt C2 e2 D2 H2 W2=>?_;exact q t [w] C2 m ⟨e1.trans e2,D2,s.m0,XW _⟩ ⟨H2,λr hr=>by rw[XQ.mp hr];exact zx hw⟩ (by have e:m-m=0:=(by omega);rw[e];exact W2)
   ·have hr0:r≠0:=λe=>by rw[e] at c;cases c
    obtain⟨hf,hm⟩:=hr hr0;obtain⟨f',hf'⟩:∃f',f=f'+1:=⟨f-1,by omega⟩;have ih':wV f':=ih f' hf';subst hf';have hN:n+2*(f'+1)+7=n+2*f'+9:=by omega
    rw[hN]
    ·obtain⟨mx,sd,nm,ls,h1,h2,h3,h4,h5,hal⟩:=D1;refine⟨_,FL,_,_,_,_,FL,FL,.inl h1,xg,_,FL,_,_,_,FL,FL,h1,ZNB FL,?_⟩;rw[q5];have e2:Ez a l C1 (up C1 a (.dic (dk mx sd nm l (m-1)))):=λc o n1 n2 e=>by rw[Zg n1];exact .inl e
     have D2:Dl (up C1 a (.dic (dk mx sd nm l (m-1)))) a l (m-1):=⟨mx,sd,nm,ls,Ze,by rw[Zg hal.symm];exact h2,h3,h4,h5,hal⟩;have s2:=s1.on e2 D2 (by omega) (by omega);refine i4 (n:=n) ih' (by omega) r1 s2 hw λt R C' m' g H W=>?_;refine q t R C' m' (g.back (e1.trans e2) (by omega)) H ?_;have e:m-1-m'+1=m-m':=by omega
     rw[e] at W;exact W
  have hD:=s.d;obtain⟨mx,sd,nm,ls,h1,h2,h3,h4,h5,hal⟩:=s.d;refine⟨_,FL,_,FL,Wo (λc=>?_) (λc=>Zl (t7 C 0 Ez.refl hD (by decide) (by decide) λe=>absurd FL e))⟩;refine⟨_,FL,_,_,_,_,FL,FL,.inl h1,xg,_,FL,Wo (λc2=>?_) (λc2=>t7 C 0 Ez.refl hD (by decide) (by decide) λe=>absurd FL e)⟩;refine⟨_,FL,?_⟩;dsimp only[Zv,Zz,eC];refine Xk (n:=n+2*f+6) hD (by decide) (Ob (by decide) (by decide)) λr C2 x2 D2 r0 r1=>?_;exact t7 C2 r x2.ez D2 r0 r1 λ_=>⟨λe=>(by have:=of_decide_eq_true c;omega),of_decide_eq_true c2⟩
def nL (f:Nat):wV f:=by
 induction f with
 | zero=>exact jI λf' e=>by omega
 | succ f ih=>exact jI λf' e=>by cases e;exact ih
end
section
variable {C C' C1:Hw}{Q:WK}{χ:WX}{n:Nat}
def Cy (t:Tr)(hl:t.lok)(q:∀C' p,Ex C C'->C p=none->C' p=some (.lst (t.scs.map λz=>tt z.2))->Q (.ref p) C'):Yg pr (n+1) By [tt t] C Q χ:=by
 refine Cp FL ?_;unfold Sr Qf;have no:∀{g s:Str} {ws:List T} {A B:WS} {D:We},(g==s)=false->tt t=.tup (.str g::ws)->B D [some (tt t)] C->Xy (Eo (Kz (Yk M6 (Yk Ws (Yb 0) (eC (T.int 0))) (eC (T.str s)))) A Xl) B D [some (tt t)] C:=λ{g s ws A B D} h e k=>⟨_,FL,by rw[e];exact⟨_,Zr,Zu (v:=false) h ⟨_,FL,Zl (by rw[<-e];exact k)⟩⟩⟩;have no2:∀{g s s':Str} {ws:List T} {A B:WS} {D:We},(g==s)=false->(g==s')=false->tt t=.tup (.str g::ws)->B D [some (tt t)] C->Xy (Eo (El (Kz (Yk M6 (Yk Ws (Yb 0) (eC (T.int 0))) (eC (T.str s)))) (Kz (Yk M6 (Yk Ws (Yb 0) (eC (T.int 0))) (eC (T.str s'))))) A Xl) B D [some (tt t)] C:=λ{g s s' ws A B D} h h' e k=>⟨_,FL,by rw[e];exact⟨_,Zr,Zu (v:=false) h ⟨_,FL,Zl ⟨_,FL,_,Zr,Zu (v:=false) h' ⟨_,FL,Zl (by rw[<-e];exact k)⟩⟩⟩⟩⟩
 cases t with
 | num v=>
  refine no (g:="number") (by decide+kernel) FL (no (g:="number") (by decide+kernel) FL (no2 (g:="number") (by decide+kernel) (by decide+kernel) FL (no (g:="number") (by decide+kernel) FL (no (g:="number") (by decide+kernel) FL (no (g:="number") (by decide+kernel) FL ?_)))));exact⟨XO _,λp hp=>q _ p (Ex.new hp) hp Ze⟩
 | nm v=>
  refine no (g:="name") (by decide+kernel) FL (no (g:="name") (by decide+kernel) FL (no2 (g:="name") (by decide+kernel) (by decide+kernel) FL (no (g:="name") (by decide+kernel) FL (no (g:="name") (by decide+kernel) FL (no (g:="name") (by decide+kernel) FL ?_)))));exact⟨XO _,λp hp=>q _ p (Ex.new hp) hp Ze⟩
 | stop v=>
  refine no (g:="stop") (by decide+kernel) FL (no (g:="stop") (by decide+kernel) FL (no2 (g:="stop") (by decide+kernel) (by decide+kernel) FL (no (g:="stop") (by decide+kernel) FL (no (g:="stop") (by decide+kernel) FL (no (g:="stop") (by decide+kernel) FL ?_)))));exact⟨XO _,λp hp=>q _ p (Ex.new hp) hp Ze⟩
 | does o t1 t2=>
  refine⟨_,FL,_,Zr,Zu (v:=true) (by decide+kernel) ⟨_,FL,Z6 ?_⟩⟩;exact⟨_,FL,_,Jp,_,FL,_,oY,ZNB FL,λp hp=>q _ p (Ex.new hp) hp Ze⟩
 | fn x b=>
  refine no (g:="fun") (by decide+kernel) FL ?_;refine⟨_,FL,_,Zr,Zu (v:=true) (by decide+kernel) ⟨_,FL,Z6 ?_⟩⟩;exact⟨_,FL,_,Jp,ZNB FL,λp hp=>q _ p (Ex.new hp) hp Ze⟩
 | call t1 t2=>
  refine no (g:="call") (by decide+kernel) FL (no (g:="call") (by decide+kernel) FL ?_);refine⟨_,FL,_,Zr,Zu (v:=true) (by decide+kernel) ⟨_,FL,Z6 (Z6 ?_)⟩⟩;exact⟨_,FL,_,Yl,_,FL,_,Jp,ZNB FL,λp hp=>q _ p (Ex.new hp) hp Ze⟩
 | first t1 t2=>
  refine no (g:="first") (by decide+kernel) FL (no (g:="first") (by decide+kernel) FL ?_);refine⟨_,FL,_,Zr,Zu (v:=false) (by decide+kernel) ⟨_,FL,Zl ⟨_,FL,_,Zr,Zu (v:=true) (by decide+kernel) ⟨_,FL,Z6 ?_⟩⟩⟩⟩;exact⟨_,FL,_,Yl,_,FL,_,Jp,ZNB FL,λp hp=>q _ p (Ex.new hp) hp Ze⟩
 | sh0 c=>
  refine no (g:="shape") (by decide+kernel) FL (no (g:="shape") (by decide+kernel) FL (no2 (g:="shape") (by decide+kernel) (by decide+kernel) FL (no (g:="shape") (by decide+kernel) FL ?_)));refine⟨_,FL,_,Zr,Zu (v:=true) (by decide+kernel) ⟨_,FL,Z6 ?_⟩⟩;exact⟨_,FL,_,Jp,_,FL,λp hp=>q _ p (Ex.new hp) hp Ze⟩
 | sh2 c t1 t2=>
  refine no (g:="shape") (by decide+kernel) FL (no (g:="shape") (by decide+kernel) FL (no2 (g:="shape") (by decide+kernel) (by decide+kernel) FL (no (g:="shape") (by decide+kernel) FL ?_)));refine⟨_,FL,_,Zr,Zu (v:=true) (by decide+kernel) ⟨_,FL,Z6 ?_⟩⟩;exact⟨_,FL,_,Jp,_,FL,λp hp=>q _ p (Ex.new hp) hp Ze⟩
 | lt k xs ts b=>
  refine no (g:="let") (by decide+kernel) FL (no (g:="let") (by decide+kernel) FL (no2 (g:="let") (by decide+kernel) (by decide+kernel) FL ?_));refine⟨_,FL,_,Zr,Zu (v:=true) (by decide+kernel) ⟨_,FL,Z6 ?_⟩⟩;refine⟨_,FL,_,Yl,?_⟩;have hk:k<=10:=hl.1;refine Jk (λt=>match t with | .tup [_,v]=>v | _=>.non) trivial (by rw[XI,BN];exact Wl (by omega)) (λx hx R hR=>?_) λp1 hp1=>?_
  ·obtain⟨i,_,rfl⟩:=XR.mp hx;exact⟨_,FL,_,Yl,hR⟩
  have e:(((List.finRange k).map λi=>T.tup [.str (xs i),tt (ts i)]).map λt=>match t with | .tup [_,v]=>v | _=>.non)=(List.finRange k).map λi=>tt (ts i):=by rw[YE];rfl
  rw[e];have x1:=Ex.new (o:=.lst ((List.finRange k).map λi=>tt (ts i))) hp1;refine⟨_,FL,_,Jp,ZNB FL,λp2 hp2=>?_⟩;have P1:up (up C p1 (.lst ((List.finRange k).map λi=>tt (ts i)))) p2 (.lst [tt b]) p1=some (.lst ((List.finRange k).map λi=>tt (ts i))):=(Ex.new hp2) _ _ Ze;have x2:=x1.trans (Ex.new (o:=.lst [tt b]) hp2);refine⟨_,_,P1,Ze,Jj (by rw[XI,BN];show k+1<=_;omega),λp3 hp3=>?_⟩;refine q _ p3 (x2.trans (Ex.new hp3)) (x2.free hp3) ?_;rw[Ze];show some (O.lst _)=some (O.lst ((((List.finRange k).map λi=>(Wh xs,ts i))++[(Wh xs,b)]).map λz=>tt z.2));rw[XL,YE];rfl
 | chT t1 t2 t3=>
  refine no (g:="choose") (by decide+kernel) FL (no (g:="choose") (by decide+kernel) FL (no2 (g:="choose") (by decide+kernel) (by decide+kernel) FL (no (g:="choose") (by decide+kernel) FL (no (g:="choose") (by decide+kernel) FL ?_))));refine⟨_,FL,_,Zr,Zu (v:=true) (by decide+kernel) ⟨_,FL,Z6 ?_⟩⟩;refine⟨_,FL,_,Yl,ZNB FL,λp1 hp1=>⟨_,FL,_,Jp,?_⟩⟩;refine Jk (λt=>match t with | .tup [_,_,v]=>v | _=>.non) trivial (ZNB FL) (λx hx R hR=>?_) λp2 hp2=>?_
  ·simp only[ZM,ZN,or_false] at hx
   rcases hx with rfl | rfl<;>exact⟨_,FL,_,Jp,hR⟩
  have P1:=(Ex.new (o:=.lst [tt t2,tt t3]) hp2) _ _ (Ze (C:=C) (a:=p1) (o:=.lst [tt t1]));exact⟨_,_,P1,Ze,ZNB FL,λp3 hp3=>q _ p3 (((Ex.new hp1).trans (Ex.new hp2)).trans (Ex.new hp3)) ((Ex.new hp1).free ((Ex.new hp2).free hp3)) Ze⟩
 | chL t1 t2 x y t3=>
  refine no (g:="choose") (by decide+kernel) FL (no (g:="choose") (by decide+kernel) FL (no2 (g:="choose") (by decide+kernel) (by decide+kernel) FL (no (g:="choose") (by decide+kernel) FL (no (g:="choose") (by decide+kernel) FL ?_))));refine⟨_,FL,_,Zr,Zu (v:=true) (by decide+kernel) ⟨_,FL,Z6 ?_⟩⟩;refine⟨_,FL,_,Yl,ZNB FL,λp1 hp1=>⟨_,FL,_,Jp,?_⟩⟩;refine Jk (λt=>match t with | .tup [_,_,v]=>v | _=>.non) trivial (ZNB FL) (λx hx R hR=>?_) λp2 hp2=>?_
  ·simp only[ZM,ZN,or_false] at hx
   rcases hx with rfl | rfl<;>exact⟨_,FL,_,Jp,hR⟩
  have P1:=(Ex.new (o:=.lst [tt t2,tt t3]) hp2) _ _ (Ze (C:=C) (a:=p1) (o:=.lst [tt t1]));exact⟨_,_,P1,Ze,ZNB FL,λp3 hp3=>q _ p3 (((Ex.new hp1).trans (Ex.new hp2)).trans (Ex.new hp3)) ((Ex.new hp1).free ((Ex.new hp2).free hp3)) Ze⟩
 | chP t1 x y t2=>
  refine no (g:="choose") (by decide+kernel) FL (no (g:="choose") (by decide+kernel) FL (no2 (g:="choose") (by decide+kernel) (by decide+kernel) FL (no (g:="choose") (by decide+kernel) FL (no (g:="choose") (by decide+kernel) FL ?_))));refine⟨_,FL,_,Zr,Zu (v:=true) (by decide+kernel) ⟨_,FL,Z6 ?_⟩⟩;refine⟨_,FL,_,Yl,ZNB FL,λp1 hp1=>⟨_,FL,_,Jp,?_⟩⟩;refine Jk (λt=>match t with | .tup [_,_,v]=>v | _=>.non) trivial (ZNB FL) (λx hx R hR=>?_) λp2 hp2=>?_
  ·cases XQ.mp hx;exact⟨_,FL,_,Jp,hR⟩
  have P1:=(Ex.new (o:=.lst [tt t2]) hp2) _ _ (Ze (C:=C) (a:=p1) (o:=.lst [tt t1]));exact⟨_,_,P1,Ze,ZNB FL,λp3 hp3=>q _ p3 (((Ex.new hp1).trans (Ex.new hp2)).trans (Ex.new hp3)) ((Ex.new hp1).free ((Ex.new hp2).free hp3)) Ze⟩
def yJ:∀(m n:Nat) (t:Tr) (bs:List Str) (C:Hw) {Q:WK} {χ:WX},Cd m bs t->t.lok->(∀C',Ex C C'->Q (nT t.size) C')->Yg pr (n+m+1) I0 [tt t] C Q χ
 | 0,_,_,_,_,_,_,h,_,_=>h.elim
 | m+1,n,t,bs,C,Q,χ,h,hl,q=>by
  refine zb (n:=n+m+1) FL ?_;unfold Ph Oq;refine⟨_,FL,?_⟩;dsimp only[Zv];refine Cy (n:=n+m) t hl λC1 p x1 f1 P1=>⟨_,P1,?_⟩;refine X2 (λi τ C'=>∃x2:Option T,τ=[some (tt t),some (nT (1+((t.scs.take i).map λz=>z.2.size).sum)),x2]/\Ex C1 C') ⟨none,FL,Ex.refl _⟩ (λi τ C' _ h=>by obtain⟨_,_,h⟩:=h;exact h _ _ P1) ?_ ?_
  ·rintro i v τ C2 N hv ⟨x2,rfl,e2⟩ hN;rw[XM] at hv;obtain⟨z,hz,rfl⟩:∃z,t.scs[i]?=some z/\v=tt z.2:=by
    cases e:t.scs[i]? with
    | none=>rw[e] at hv;cases hv
    | some z=>rw[e] at hv;exact⟨z,FL,(YH hv).symm⟩
   have hm:=BE hz;refine⟨_,FL,_,FL,?_⟩;dsimp only[Zv];refine yJ m n z.2 _ C2 (h.2 z hm) ((Lv hl).2 z hm) λC3 x3=>hN _ _ ⟨some (tt z.2),?_,e2.trans x3⟩;rw[YD,hz,XL,DT];have e:(1+(((t.scs.take i).map λz=>z.2.size).sum+((some z).toList.map λz=>z.2.size).sum):Nat)=(1+((t.scs.take i).map λz=>z.2.size).sum)+z.2.size:=by
    show 1+(_+(z.2.size+0))=_;omega
   rw[e];rfl
  ·rintro τ C2 ⟨x2,rfl,e2⟩;rw[XI,CB];have e:=Gm t;have e':1+(t.scs.map λz=>z.2.size).sum=t.size:=by omega
   rw[e'];exact⟨_,FL,q C2 (x1.trans e2)⟩
end
def bB:((Sum.inr ("num":Str):Z0)=Sum.inr ("truth":Str))=False:=eq_false (by decide+kernel)
def bA:((Sum.inr ("num":Str):Z0)=Sum.inr ("list":Str))=False:=eq_false (by decide+kernel)
def b8:((Sum.inr ("num":Str):Z0)=Sum.inr ("pair":Str))=False:=eq_false (by decide+kernel)
def b7:((Sum.inr ("num":Str):Z0)=Sum.inr ("to":Str))=False:=eq_false (by decide+kernel)
def a12:((Sum.inr ("truth":Str):Z0)=Sum.inr ("list":Str))=False:=eq_false (by decide+kernel)
def b6:((Sum.inr ("truth":Str):Z0)=Sum.inr ("pair":Str))=False:=eq_false (by decide+kernel)
def bx:((Sum.inr ("truth":Str):Z0)=Sum.inr ("to":Str))=False:=eq_false (by decide+kernel)
def bw:((Sum.inr ("list":Str):Z0)=Sum.inr ("pair":Str))=False:=eq_false (by decide+kernel)
def bv:((Sum.inr ("list":Str):Z0)=Sum.inr ("to":Str))=False:=eq_false (by decide+kernel)
def bu:((Sum.inr ("pair":Str):Z0)=Sum.inr ("to":Str))=False:=eq_false (by decide+kernel)
def ak:List (Z0×T):=[(.inr "num",.int 1),(.inr "truth",.int 1),(.inr "list",.int 2),(.inr "pair",.int 3),(.inr "to",.int 3)]
def ah:Z8 [] [(.inr "num",T.int 1),(.inr "truth",.int 1),(.inr "list",.int 2),(.inr "pair",.int 3),(.inr "to",.int 3)]=ak:=by
 simp only[ak,Z8,List.foldl,Yy,List.any,bB,bA,b8,b7,a12,b6,bx,bw,bv,bu,decide_false,Bool.or_false,Bool.false_eq_true,if_false,List.nil_append,List.cons_append]
def g0:Yj ak (.inr "num")=some (.int 1):=by simp only[Yj,ak,List.find?,decide_true,Option.map]
def g1:Yj ak (.inr "truth")=some (.int 1):=by simp only[Yj,ak,List.find?,bB,decide_false,decide_true,Option.map]
def g2:Yj ak (.inr "list")=some (.int 2):=by simp only[Yj,ak,List.find?,bA,a12,decide_false,decide_true,Option.map]
def g3:Yj ak (.inr "pair")=some (.int 3):=by simp only[Yj,ak,List.find?,b8,b6,bw,decide_false,decide_true,Option.map]
def g4:Yj ak (.inr "to")=some (.int 3):=by simp only[Yj,ak,List.find?,b7,bx,bv,bu,decide_false,decide_true,Option.map]
section
variable {θ:Nat->Kd}
def De:∀(m n:Nat) (k:Kd) (C:Hw) {Q:WK} {χ:WX},Pk m (k.put θ)->(∀C',Ex C C'->Q (.bl true) C')->Yg pr (n+m) Fi [Zw k] C Q χ
 | 0,_,_,_,_,_,h,_=>h.elim
 | m+1,n,k,C,Q,χ,hp,q=>by
  refine Gf (n:=n+m) FL ?_;have many:∀(g:Str) (ps:List Kd),(g=="open")=false->Yj ak (.inr g)=some (nT (ps.length+1))->(∀a∈ps,Pk m (a.put θ))->Zw k=.tup (.str g::ps.map Zw)->
    Xi (Yg pr (n+m)) {nx:=λ_ C'=>Q .non C',rt:=Q,xc:=χ} [some (Zw k),none,none] C:=by
   intro g ps hg hl hps e1;unfold Xi Wr;rw[e1];refine⟨_,FL,"tuple",FL,_,FL,Zl ?_⟩;refine⟨_,FL,_,FL,Q8 FL ⟨_,FL,Ly ?_ ?_⟩⟩
   ·exact beq_eq_false_iff_ne.mpr (by rw[YF];omega)
   refine⟨_,FL,_,Zr,"str",FL,_,FL,Zl ?_⟩;refine⟨_,FL,_,Zr,Zu (v:=false) hg ⟨_,FL,Zl ?_⟩⟩;intro pd hpd;refine⟨_,FL,_,FL,_,FL,_,FL,_,FL,Ze,ZNB FL,?_⟩;rw[ah];have x1:Ex C (up (up C pd (.dic [])) pd (.dic ak)):=λc o e=>by rw[Zg (Jg e hpd),Zg (Jg e hpd)];exact e
   have D1:up (up C pd (.dic [])) pd (.dic ak) pd=some (.dic ak):=Ze;generalize up (up C pd (.dic [])) pd (.dic ak)=C1 at x1 D1;refine⟨_,FL,⟨_,_,FL,.inl D1⟩,_,FL,_,Zr,_,_,_,FL,FL,.inl D1,_,FL,_,FL,?_⟩;rw[hl];refine ac (v:=true) (by rw[YF,XI];exact XU _) ⟨_,FL,Zl ?_⟩;refine⟨_,FL,_,FL,zj,?_⟩;rw[Ry];refine X2 (λi τ C'=>∃x2:Option T,τ=[some (.tup (.str g::ps.map Zw)),some (.ref pd),x2]/\Ex C1 C') ⟨_,FL,Ex.refl _⟩ (λ_ _ _ _ _=>trivial) ?_ ?_
   ·rintro i v τ C2 M hv ⟨x2,rfl,e2⟩ hM;rw[XM] at hv;obtain⟨b,hb,rfl⟩:∃b,ps[i]?=some b/\v=Zw b:=by
     cases e:ps[i]? with
     | none=>rw[e] at hv;cases hv
     | some b=>rw[e] at hv;exact⟨b,FL,(YH hv).symm⟩
    refine⟨_,FL,?_⟩;dsimp only[Zv];exact De m n b C2 (hps b (BE hb)) λC3 x3=>⟨true,FL,Zl (hM _ _ ⟨_,FL,e2.trans x3⟩)⟩
   ·rintro τ C2 ⟨x2,rfl,e2⟩;exact q C2 (x1.trans e2)
  cases k with
  | op i=>
   unfold Xi Wr;refine⟨_,FL,"tuple",FL,_,FL,Zl ?_⟩;refine⟨_,FL,_,FL,Q8 (v:=false) FL ⟨_,FL,Zl ?_⟩⟩;refine⟨_,FL,_,Zr,"str",FL,_,FL,Zl ?_⟩;refine⟨_,FL,_,Zr,Zu (v:=true) (by decide+kernel) ⟨_,FL,Z6 ?_⟩⟩;refine⟨_,FL,_,FL,Q8 (v:=true) FL ⟨_,FL,Z6 ?_⟩⟩;refine⟨_,FL,_,Yl,"int",FL,_,FL,Fb (by decide+kernel) ?_⟩;refine⟨_,FL,_,Yl,"int",FL,_,FL,_,FL,Fb (by decide+kernel) ?_⟩;refine⟨_,FL,_,Yl,?_⟩;show Q (.bl (decide ((0:Int)<=(i:Int)))) C;rw[decide_eq_true (by omega)];exact q C (Ex.refl _)
  | k0 g=>
   rcases hp with e | e | ⟨x,e,h1⟩ | ⟨x,y,e,h1,h2⟩ | ⟨x,y,e,h1,h2⟩<;>cases e
   ·exact many _ [] (by decide+kernel) g0 (λa h=>by cases h) FL
   ·exact many _ [] (by decide+kernel) g1 (λa h=>by cases h) FL
  | k1 g a=>
   have hp:Pk (m+1) (.k1 g (a.put θ)):=hp
   rcases hp with e | e | ⟨x,e,h1⟩ | ⟨x,y,e,h1,h2⟩ | ⟨x,y,e,h1,h2⟩<;>cases e
   exact many _ [a] (by decide+kernel) g2 (λb h=>by rw[XQ.mp h];exact h1) FL
  | k2 g a b=>
   have hp:Pk (m+1) (.k2 g (a.put θ) (b.put θ)):=hp
   rcases hp with e | e | ⟨x,e,h1⟩ | ⟨x,y,e,h1,h2⟩ | ⟨x,y,e,h1,h2⟩<;>cases e
   ·refine many _ [a,b] (by decide+kernel) g3 (λc h=>?_) FL;simp only[ZM,ZN,or_false] at h
    rcases h with rfl | rfl
    ·exact h1
    ·exact h2
   ·refine many _ [a,b] (by decide+kernel) g4 (λc h=>?_) FL;simp only[ZM,ZN,or_false] at h
    rcases h with rfl | rfl
    ·exact h1
    ·exact h2
end
def pY (C:Hw)(d:WP)(G:Ev)(B:Nat):Prop:=∃kv,Eh C d kv/\kv.length<=B/\∀x k,G x=some k->Yj kv (.inr x)=some (Zw k)
def pY.ex (h:pY C d G B)(x:Ex C C'):pY C' d G B:=by
 obtain⟨kv,h1,h2⟩:=h;exact⟨kv,h1.elim (λh=>.inl (x _ _ h)) (λh=>.inr (x _ _ h)),h2⟩
section
variable {C C' C1:Hw}{Q:WK}{χ:WX}{n B:Nat}{τ:Sw}{A S:WS}{D:We}{g s s':Str}{ws:List T}{k:Kd}
def Z4 (h0:τ[0]?=some (some (.tup (.str g::ws))))(h:(g==s)=false)(q:S D τ C):Xy (Eo (Kz (Yk M6 (Yk Ws (Yb 0) (eC (T.int 0))) (eC (T.str s)))) A Xl) S D τ C:=⟨_,h0,_,Zr,Zu (v:=false) h ⟨_,FL,Zl q⟩⟩
def Bn (h0:τ[0]?=some (some (.tup (.str s::ws))))(q:A {D with nx:=S D} τ C):Xy (Eo (Kz (Yk M6 (Yk Ws (Yb 0) (eC (T.int 0))) (eC (T.str s)))) A Xl) S D τ C:=⟨_,h0,_,Zr,Zu (v:=true) (XU _) ⟨_,FL,Z6 q⟩⟩
def Lw (h0:τ[0]?=some (some (.tup (.str g::ws))))(h:(g==s)=false)(h':(g==s')=false)(q:S D τ C):Xy (Eo (El (Kz (Yk M6 (Yk Ws (Yb 0) (eC (T.int 0))) (eC (T.str s)))) (Kz (Yk M6 (Yk Ws (Yb 0) (eC (T.int 0))) (eC (T.str s'))))) A Xl) S D τ C:=
 ⟨_,h0,_,Zr,Zu (v:=false) h ⟨_,FL,Zl ⟨_,h0,_,Zr,Zu (v:=false) h' ⟨_,FL,Zl q⟩⟩⟩⟩
def gJ (h0:τ[0]?=some (some (.tup (.str s::ws))))(q:A {D with nx:=S D} τ C):Xy (Eo (El (Kz (Yk M6 (Yk Ws (Yb 0) (eC (T.int 0))) (eC (T.str s)))) (Kz (Yk M6 (Yk Ws (Yb 0) (eC (T.int 0))) (eC (T.str s'))))) A Xl) S D τ C:=
 ⟨_,h0,_,Zr,Zu (v:=true) (XU _) ⟨_,FL,Z6 (Z6 q)⟩⟩
def gI (h0:τ[0]?=some (some (.tup (.str s'::ws))))(h:(s'==s)=false)(q:A {D with nx:=S D} τ C):Xy (Eo (El (Kz (Yk M6 (Yk Ws (Yb 0) (eC (T.int 0))) (eC (T.str s)))) (Kz (Yk M6 (Yk Ws (Yb 0) (eC (T.int 0))) (eC (T.str s'))))) A Xl) S D τ C:=
 ⟨_,h0,_,Zr,Zu (v:=false) h ⟨_,FL,Zl ⟨_,h0,_,Zr,Zu (v:=true) (XU _) ⟨_,FL,Z6 q⟩⟩⟩⟩
def Lx {v:T}(h0:τ[0]?=some (some (.tup (v::.str g::ws))))(h:(g==s)=false)(q:S D τ C):Xy (Eo (Kz (Yk M6 (Yk Ws (Yb 0) (eC (T.int 1))) (eC (T.str s)))) A Xl) S D τ C:=⟨_,h0,_,Yl,Zu (v:=false) h ⟨_,FL,Zl q⟩⟩
def t0 {v:T}(h0:τ[0]?=some (some (.tup (v::.str s::ws))))(q:A {D with nx:=S D} τ C):Xy (Eo (Kz (Yk M6 (Yk Ws (Yb 0) (eC (T.int 1))) (eC (T.str s)))) A Xl) S D τ C:=⟨_,h0,_,Yl,Zu (v:=true) (XU _) ⟨_,FL,Z6 q⟩⟩
def J2 (f:Yr (Zw k))(q:Q (.bl true) C):Nu false (Zw k) (Zw k) C Q:=Cg (Vr _ f) f f q
end
def tT {xs:List T}(h:∀x∈xs,Yx x m=true):Ys xs m=true:=by
 induction xs with
 | nil=>rfl
 | cons x r ih=>
  show(Yx x m&&Ys r m)=true;rw[h x (BD ..),ih λy hy=>h y (XV _ hy)];rfl
def bt:((Sum.inr ("Nil":Str):Z0)=Sum.inr ("No":Str))=False:=eq_false (by decide+kernel)
def br:((Sum.inr ("Nil":Str):Z0)=Sum.inr ("Pair":Str))=False:=eq_false (by decide+kernel)
def fR:((Sum.inr ("No":Str):Z0)=Sum.inr ("Pair":Str))=False:=eq_false (by decide+kernel)
def rq:List (Z0×T):=[(.inr "Nil",.str "list"),(.inr "No",.str "truth"),(.inr "Pair",.str "pair")]
def af:Z8 [] [(.inr "Nil",T.str "list"),(.inr "No",.str "truth"),(.inr "Pair",.str "pair")]=rq:=by
 simp only[rq,Z8,List.foldl,Yy,List.any,bt,br,fR,decide_false,Bool.or_false,Bool.false_eq_true,if_false,List.nil_append,List.cons_append]
def gR {c fam:Str}(h:(c="Nil"/\fam="list")\/(c="No"/\fam="truth")\/(c="Pair"/\fam="pair")):Yj rq (.inr c)=some (.str fam):=by
 rcases h with⟨rfl,rfl⟩ | ⟨rfl,rfl⟩ | ⟨rfl,rfl⟩
 ·simp only[Yj,rq,List.find?,decide_true,Option.map]
 ·simp only[Yj,rq,List.find?,bt,decide_false,decide_true,Option.map]
 ·simp only[Yj,rq,List.find?,br,fR,decide_false,decide_true,Option.map]
def nW {x:T}:∀n:Nat,(List.replicate n [x]).flatten=List.replicate n x
 | 0=>rfl
 | n+1=>by rw[BV,CG,nW n,BV];rfl
section
variable {C C' C1:Hw}{Q:WK}{χ:WX}{n B:Nat}{t:Tr}{G:Ev}{k:Kd}{cs:List (Ev×Tr×Kd)}{pk nd:WP}
def nE {c1:Str}{J4 ws:List T}{ta:T}{al:List T}(hg:Zw k0=.tup (.str fam::ws))(hf:(c1="Nil"/\fam="list")\/(c1="No"/\fam="truth")\/(c1="Pair"/\fam="pair"))
  (P:C pk=some (.lst (Zw k0::List.replicate (al.length+1) (Zw k)))) (hal:al.length<=5) (fk:Yr (Zw k)) (q:∀C',Ex C C'->Q (.bl true) C'):
  Pn (Yg pr n) {nx:=λ_ C'=>Q .non C',rt:=Q,xc:=χ} [some (.tup [.str "choose",ta,.tup (.tup (.str c1::J4)::al)]),some (Zw k),some (.ref pk),some (.ref nd),some (Zw Xb),none] C:=by
 unfold Pn U4;refine Bn FL ?_;intro pd hpd;refine⟨_,FL,_,FL,_,FL,Ze,ZNB FL,?_⟩;rw[af];have x1:Ex C (up (up C pd (.dic [])) pd (.dic rq)):=λc o e=>by rw[Zg (Jg e hpd),Zg (Jg e hpd)];exact e
 have D1:up (up C pd (.dic [])) pd (.dic rq) pd=some (.dic rq):=Ze;generalize up (up C pd (.dic [])) pd (.dic rq)=C1 at x1 D1;have P1:=x1 _ _ P;refine⟨_,FL,_,Jp,_,Zr,_,Zr,_,_,_,_,FL,FL,.inl D1,gR hf,?_⟩;refine⟨_,FL,_,_,P1,Zr,?_⟩;rw[hg];refine⟨_,Zr,_,FL,dS (v:=true) (XU _) ⟨_,FL,Z6 ?_⟩⟩;refine⟨_,FL,_,FL,_,P1,λp2 hp2=>?_⟩;rw[Ry];refine⟨_,FL,ZNB FL,λp3 hp3=>⟨_,FL,_,Jp,_,FL,?_⟩⟩;have x2:=Ex.new (o:=.lst (List.replicate (al.length+1) (Zw k))) hp2;have x3:=Ex.new (o:=.lst [Zw k]) hp3;refine⟨_,_,_,FL,FL,Ze,by omega,by rw[YF];omega,Jj (by rw[CV];show 1*(al.length+1)<=_;omega),λp4 hp4=>?_⟩;have e4:(List.replicate ((((.tup (.str c1::J4)::al:List T).length:Nat):Int).toNat) [Zw k]).flatten=List.replicate (al.length+1) (Zw k):=by
  rw[CV,nW];rfl
 rw[e4];have x4:=Ex.new (o:=.lst (List.replicate (al.length+1) (Zw k))) hp4;have fl:Ys (List.replicate (al.length+1) (Zw k)) V1=true:=tT λx hx=>by rw[List.eq_of_mem_replicate hx];exact fk
 refine⟨_,_,x4 _ _ (x3 _ _ Ze),Ze,λ_=>⟨fl,fl⟩,?_⟩;have e5:Wi (List.replicate (al.length+1) (Zw k)) (List.replicate (al.length+1) (Zw k))=true:=Nl _ fl;show Q (.bl (if false=true then _ else Wi _ _)) _;rw[XX (by decide),e5];exact q _ (((x1.trans x2).trans x3).trans x4)
def nO (h:Jd t G k cs)(P:C pk=some (.lst (cs.map λc=>Zw c.2.2)))(hn:pY C nd G B)(fk:Yr (Zw k))(fc:∀c∈cs,Yr (Zw c.2.2))(q:∀C',Ex C C'->Q (.bl true) C'):Yg pr (n+1) zU [tt t,Zw k,.ref pk,.ref nd] C Q χ:=by
 refine ze FL ?_;unfold Po Na;refine⟨ZNB FL,?_⟩
 cases h with
 | num=>exact Bn FL ⟨_,FL,_,FL,J2 (k:=Xb) fk (q C (Ex.refl _))⟩
 | nm hx=>
  obtain⟨kv,h1,_,h2⟩:=hn;refine Z4 FL (by decide+kernel) (Bn FL ?_);exact⟨_,FL,_,FL,_,FL,_,Yl,_,_,_,_,FL,FL,h1,h2 _ _ hx,J2 fk (q C (Ex.refl _))⟩
 | stop=>
  exact Z4 FL (by decide+kernel) (Z4 FL (by decide+kernel) (Z4 FL (by decide+kernel) (Z4 FL (by decide+kernel) (Z4 FL (by decide+kernel) (Lw FL (by decide+kernel) (by decide+kernel) (Z4 FL (by decide+kernel) (Bn FL (q C (Ex.refl _)))))))))
 | @does o a b _=>
  refine Z4 FL (by decide+kernel) (Z4 FL (by decide+kernel) (Bn FL ?_));have fn:Yr (Zw Xb):=by rfl
  have fl:Ys [Zw Xb,Zw Xb] V1=true:=by rfl
  refine⟨_,FL,_,FL,_,FL,ZNB FL,λp1 hp1=>?_⟩;have x1:=Ex.new (o:=.lst [Zw Xb,Zw Xb]) hp1;refine⟨_,_,x1 _ _ P,Ze,λ_=>⟨fl,fl⟩,_,FL,Fb (Nl [Zw Xb,Zw Xb] fl) ?_⟩;refine⟨_,FL,_,FL,ZNB FL,ZNB FL,λp2 hp2=>?_⟩;have x2:=x1.trans (Ex.new (o:=.lst [Zw Xb,Zw Ua]) hp2);refine⟨_,FL,_,Yl,ZNB FL,λp3 hp3=>⟨_,Ze,by rfl,by rfl,.inr ⟨_,FL,?_⟩⟩⟩;have P2:=(Ex.new (o:=.lst [T.str "<",.str "="]) hp3) _ _ (Ze (C:=up C p1 (.lst [Zw Xb,Zw Xb])) (a:=p2) (o:=.lst [Zw Xb,Zw Ua]));have x3:=x2.trans (Ex.new (o:=.lst [T.str "<",.str "="]) hp3);by_cases hc:o="<"\/o="="
  ·have e1:(if false=true then !WL.inL (.str o) [.str "<",.str "="] else WL.inL (.str o) [.str "<",.str "="])=true:=by
    rcases hc with rfl | rfl<;>decide+kernel
   rw[e1];have ek:Kd.k0 (Ep o)=Ua:=by unfold Ep;rw[XY hc]
   rw[ek];exact⟨_,_,P2,Yl,J2 (k:=Ua) (by rfl) (q _ x3)⟩
  ·have e1:(if false=true then !WL.inL (.str o) [.str "<",.str "="] else WL.inL (.str o) [.str "<",.str "="])=false:=by
    rw[XX (by decide)];unfold WL.inL;simp only[List.any,Kg,Bool.or_false];rw[not_or] at hc;rw[beq_eq_false_iff_ne.mpr (Ne.symm hc.1),beq_eq_false_iff_ne.mpr (Ne.symm hc.2)];rfl
   rw[e1];have ek:Kd.k0 (Ep o)=Xb:=by unfold Ep;rw[XX hc]
   rw[ek];exact⟨_,_,P2,Zr,J2 (k:=Xb) (by rfl) (q _ x3)⟩
 | @fn x b _ p r=>
  refine Z4 FL (by decide+kernel) (Z4 FL (by decide+kernel) (Z4 FL (by decide+kernel) (Bn FL ?_)));exact⟨_,FL,_,Zr,Zu (v:=true) (by decide+kernel) ⟨_,FL,Z6 ⟨_,FL,_,Jp,_,FL,_,_,P,Zr,J2 (fc (bnd [x] [p] G,b,r) (by simp)) (q C (Ex.refl _))⟩⟩⟩
 | @call a b _ _ p=>
  refine Z4 FL (by decide+kernel) (Z4 FL (by decide+kernel) (Z4 FL (by decide+kernel) (Z4 FL (by decide+kernel) (Bn FL ?_))));exact⟨_,FL,_,_,P,Zr,_,FL,_,_,P,Yl,_,FL,ZNB FL,J2 (k:=vD p k) (fc (G,a,vD p k) (by simp)) (q C (Ex.refl _))⟩
 | @first a b _ _ p=>
  refine Z4 FL (by decide+kernel) (Z4 FL (by decide+kernel) (Z4 FL (by decide+kernel) (Z4 FL (by decide+kernel) (Z4 FL (by decide+kernel) (gI FL (by decide+kernel) ?_)))));exact⟨_,FL,_,FL,_,_,P,sN,J2 fk (q C (Ex.refl _))⟩
 | @lt m xs ts b _ _ ks=>
  refine Z4 FL (by decide+kernel) (Z4 FL (by decide+kernel) (Z4 FL (by decide+kernel) (Z4 FL (by decide+kernel) (Z4 FL (by decide+kernel) (gJ FL ?_)))));rw[XL] at P;exact⟨_,FL,_,FL,_,_,P,sO _ _,J2 fk (q C (Ex.refl _))⟩
 | @nil _ p=>
  refine Z4 FL (by decide+kernel) (Z4 FL (by decide+kernel) (Z4 FL (by decide+kernel) (Z4 FL (by decide+kernel) (Z4 FL (by decide+kernel) (Lw FL (by decide+kernel) (by decide+kernel) (Z4 FL (by decide+kernel) (Z4 FL (by decide+kernel) (t0 FL ?_))))))));exact⟨_,FL,_,Zr,Zu (v:=true) (by decide+kernel) (q C (Ex.refl _))⟩
 | no=>
  refine Z4 FL (by decide+kernel) (Z4 FL (by decide+kernel) (Z4 FL (by decide+kernel) (Z4 FL (by decide+kernel) (Z4 FL (by decide+kernel) (Lw FL (by decide+kernel) (by decide+kernel) (Z4 FL (by decide+kernel) (Z4 FL (by decide+kernel) (Lx FL (by decide+kernel) (Lx FL (by decide+kernel) (Lx FL (by decide+kernel) ?_))))))))));exact⟨_,FL,ZNB FL,J2 (k:=Ua) (by rfl) (q C (Ex.refl _))⟩
 | yes=>
  refine Z4 FL (by decide+kernel) (Z4 FL (by decide+kernel) (Z4 FL (by decide+kernel) (Z4 FL (by decide+kernel) (Z4 FL (by decide+kernel) (Lw FL (by decide+kernel) (by decide+kernel) (Z4 FL (by decide+kernel) (Z4 FL (by decide+kernel) (Lx FL (by decide+kernel) (Lx FL (by decide+kernel) (Lx FL (by decide+kernel) ?_))))))))));exact⟨_,FL,ZNB FL,J2 (k:=Ua) (by rfl) (q C (Ex.refl _))⟩
 | @cons a b _ p=>
  refine Z4 FL (by decide+kernel) (Z4 FL (by decide+kernel) (Z4 FL (by decide+kernel) (Z4 FL (by decide+kernel) (Z4 FL (by decide+kernel) (Lw FL (by decide+kernel) (by decide+kernel) (Z4 FL (by decide+kernel) (Z4 FL (by decide+kernel) (Lx FL (by decide+kernel) (t0 FL ?_)))))))));exact⟨_,FL,_,FL,_,_,P,Zr,ZNB FL,J2 (k:=Xp p) fk ⟨_,FL,Z6 ⟨_,FL,_,_,P,Yl,_,FL,J2 (k:=Xp p) fk (q C (Ex.refl _))⟩⟩⟩
 | @pair a b _ p r=>
  refine Z4 FL (by decide+kernel) (Z4 FL (by decide+kernel) (Z4 FL (by decide+kernel) (Z4 FL (by decide+kernel) (Z4 FL (by decide+kernel) (Lw FL (by decide+kernel) (by decide+kernel) (Z4 FL (by decide+kernel) (Z4 FL (by decide+kernel) (Lx FL (by decide+kernel) (Lx FL (by decide+kernel) (t0 FL ?_))))))))));exact⟨_,FL,_,FL,_,_,P,Zr,_,FL,_,_,P,Yl,ZNB FL,J2 (k:=zO p r) fk (q C (Ex.refl _))⟩
 | @chT a n0 y _ _=>
  refine Z4 FL (by decide+kernel) (Z4 FL (by decide+kernel) (Z4 FL (by decide+kernel) (Z4 FL (by decide+kernel) (Z4 FL (by decide+kernel) (Lw FL (by decide+kernel) (by decide+kernel) ?_)))));exact nE (k0:=Ua) (al:=[.tup [.str "Yes",.tup [],tt y]]) FL (.inr (.inl ⟨FL,FL⟩)) P (by show 1<=5;decide) fk q
 | @chL a n0 x y c _ _ p=>
  refine Z4 FL (by decide+kernel) (Z4 FL (by decide+kernel) (Z4 FL (by decide+kernel) (Z4 FL (by decide+kernel) (Z4 FL (by decide+kernel) (Lw FL (by decide+kernel) (by decide+kernel) ?_)))));exact nE (k0:=Xp p) (al:=[.tup [.str "Cons",.tup [.str x,.str y],tt c]]) FL (.inl ⟨FL,FL⟩) P (by show 1<=5;decide) fk q
 | @chP a x y b _ _ p r=>
  refine Z4 FL (by decide+kernel) (Z4 FL (by decide+kernel) (Z4 FL (by decide+kernel) (Z4 FL (by decide+kernel) (Z4 FL (by decide+kernel) (Lw FL (by decide+kernel) (by decide+kernel) ?_)))));exact nE (k0:=zO p r) (al:=[]) FL (.inr (.inr ⟨FL,FL⟩)) P (by show 0<=5;decide) fk q
end
def Hd (kv:List (Z0×T))(G:Ev):Prop:=∀x k,G x=some k->Yj kv (.inr x)=some (Zw k)
def tN (h:Hd kv G):Hd (Yy kv (.inr x) (Zw p)) (bnd [x] [p] G):=λy k e=>by
 rw[Sa];by_cases c:y=x
 ·subst c;rw[xw] at e
  cases e
  rw[XY rfl]
 ·rw[xv c] at e;rw[XX λz=>c (Sum.inr.inj z)];exact h y k e
def tM (h:Hd kv G):Hd (Z8 kv (Z8 [] [(.inr x,Zw p),(.inr y,Zw q)])) (bnd [x,y] [p,q] G)/\(Z8 [] [((.inr x:Z0),Zw p),(.inr y,Zw q)]).length<=2:=by
 by_cases c:x=y
 ·subst c;have e:Z8 [] [((.inr x:Z0),Zw p),(.inr x,Zw q)]=[(.inr x,Zw q)]:=by simp[Z8,Yy]
  rw[e];refine⟨λz k hz=>?_,by show 1<=2;decide⟩;show Yj (Yy kv (.inr x) (Zw q)) (.inr z)=_;rw[Sa];by_cases cz:z=x
  ·subst cz;rw[jy] at hz
   cases hz
   rw[XY rfl]
  ·rw[jz cz cz] at hz;rw[XX λz=>cz (Sum.inr.inj z)];exact h z k hz
 ·rw[be c];refine⟨λz k hz=>?_,XE _⟩;show Yj (Yy (Yy kv (.inr x) (Zw p)) (.inr y) (Zw q)) (.inr z)=_;rw[Sa];by_cases cy:z=y
  ·subst cy;rw[jy] at hz
   cases hz
   rw[XY rfl]
  ·rw[XX λz=>cy (Sum.inr.inj z),Sa];by_cases cx:z=x
   ·subst cx;rw[sH c] at hz
    cases hz
    rw[XY rfl]
   ·rw[jz cx cy] at hz;rw[XX λz=>cx (Sum.inr.inj z)];exact h z k hz
def sG {xs:List Str}{ks:List Kd}{x:Str}{k:Kd}(hl:xs.length=ks.length):bnd (xs++[x]) (ks++[k]) G=bnd [x] [k] (bnd xs ks G):=by
 funext y
 unfold bnd;rw[List.zip_append hl,List.reverse_append];have e:(([x]:List Str).zip [k]).reverse=[(x,k)]:=by simp
 rw[e,List.singleton_append,BK,BK];by_cases c:(y==x)=true
 ·rw[c]
 ·rw[Bool.eq_false_iff.mpr c];rfl
section
variable {C C' C1:Hw}{Q:WK}{χ:WX}{n B:Nat}{t:Tr}{G G':Ev}{k:Kd}{cs:List (Ev×Tr×Kd)}{pk nd pf:WP}
def T6 {g:Str}{ws:List T}{x5 x6:Option T}(hg:(g=="choose")=false)(P:C1 pk=some (.lst (cs.map λc=>Zw c.2.2)))(F:C1 pf=some (.dic kv))(hk:Hd kv G')(hl:kv.length<=B+10)(hcs:∀c∈cs,c.1=G')(hc:cs.length<=20)(x0:Ex C C1)
  (q:∀C' p (ds:List WP),Ex C C'->C' p=some (.lst (ds.map T.ref))->ds.length=cs.length->(∀(i:Nat) (c:Ev×Tr×Kd) (d:WP),cs[i]?=some c->ds[i]?=some d->pY C' d c.1 (B+10))->Q (.ref p) C'):
  Vs (Yg pr n) {nx:=λ_ C'=>Q .non C',rt:=Q,xc:=χ} [some (.tup (.str g::ws)),some (Zw k),some (.ref pk),some (.ref nd),some (.ref pf),x5,x6,none,none,none,none] C1:=by
 unfold Vs V4;refine⟨_,FL,_,Zr,qE (v:=false) hg ⟨_,FL,Z6 ?_⟩⟩;refine⟨_,FL,ZNB FL,λp1 hp1=>⟨_,FL,_,FL,_,(Ex.new hp1) _ _ P,?_⟩⟩;have x1:=Ex.new (o:=.lst [T.ref pf]) hp1;refine⟨_,_,_,FL,FL,Ze,by omega,by rw[XI];omega,Jj (by rw[CV,XI];show 1*_<=_;omega),λp2 hp2=>?_⟩;have e:(List.replicate (((cs.map λc=>Zw c.2.2).length:Nat):Int).toNat [T.ref pf]).flatten=(List.replicate cs.length pf).map T.ref:=by
  rw[CV,nW,XI,List.map_replicate]
 rw[e];have x2:=x1.trans (Ex.new (o:=.lst ((List.replicate cs.length pf).map T.ref)) hp2);refine q _ p2 (List.replicate cs.length pf) (x0.trans x2) Ze (DY ..) λi c d hi hd=>?_;have e1:d=pf:=List.eq_of_mem_replicate (BE hd);rw[e1,hcs c (BE hi)];exact⟨kv,.inl (x2 _ _ F),hl,hk⟩
def zh {c:Str}{xs:List T}{body:T}{ks0:List T}{os:List WP}{o4 o5 o6 o8 o9 o10:Option T}{D:We}{tm kk:T}(P:C pk=some (.lst (Zw k0::ks0)))(hn:Eh C nd kv)(hk:Hd kv G)(hl:kv.length<=B)(hB:B<=4000)(P7:C p7=some (.lst (os.map T.ref)))(ho:os.length<=5)(n7k:p7≠pk)(n7d:p7≠nd)
  (hsh:((c=="Cons")=false/\(c=="Pair")=false/\G'=G)\/(∃x y p,c="Cons"/\xs=[.str x,.str y]/\k0=Xp p/\G'=bnd [x,y] [p,Xp p] G)\/(∃x y p r,c="Pair"/\xs=[.str x,.str y]/\k0=zO p r/\G'=bnd [x,y] [p,r] G))
  (q:∀C' d o8 o9 o10,(∀a o,a≠p7->C a=some o->C' a=some o)->C' p7=some (.lst ((os++[d]).map T.ref))->pY C' d G' (B+10)->d≠p7->C d=none->D.nx [some tm,some kk,some (.ref pk),some (.ref nd),some (.ref d),o5,o6,some (.ref p7),o8,o9,o10] C'):
  (gP (Ro (Eu 8) (Ro (Eu 9) (Ro (Eu 10) Dp)))) (.tup [.str c,.tup xs,body]) [some tm,some kk,some (.ref pk),some (.ref nd),o4,o5,o6,some (.ref p7),o8,o9,o10] C (λτ2 C2=> 
   (Xy (Lo (gW sL (Zz (Yb 3) Zv)) (Eu 4)) (Xy (Eo (Kz (Yk M6 (Yb 8) (eC (T.str "Cons")))) (Ln (sn (Yb 4) (jm (z9 (Yk Ws (Yb 9) (eC (T.int 0))) (Yk Ws (Yk Ws (Yb 2) (eC (T.int 0))) (eC (T.int 1))) (z9 (Yk Ws (Yb 9) (eC (T.int 1))) (Yk Ws (Yb 2) (eC (T.int 0))) mO))))) Xl)
    (Xy (Eo (Kz (Yk M6 (Yb 8) (eC (T.str "Pair")))) (Ln (sn (Yb 4) (jm (z9 (Yk Ws (Yb 9) (eC (T.int 0))) (Yk Ws (Yk Ws (Yb 2) (eC (T.int 0))) (eC (T.int 1))) (z9 (Yk Ws (Yb 9) (eC (T.int 1))) (Yk Ws (Yk Ws (Yb 2) (eC (T.int 0))) (eC (T.int 2))) mO))))) Xl)
     (Ln (gS rN Hv (Yb 7) (Zz (Yb 4) Zv)))))) D τ2 C2) χ:=by
 refine⟨_,FL,_,_,FL,_,_,FL,_,_,FL,FL,?_⟩;refine⟨_,FL,_,_,FL,hn,λd hd=>?_⟩;have x1:=Ex.new (o:=.dic kv) hd;have nd7:d≠p7:=(Jg P7 hd).symm;have P1:=x1 _ _ P;have P71:=x1 _ _ P7;have fin:∀(C2:Hw) (kv':List (Z0×T)) (o8 o9 o10:Option T),(∀a o,C a=some o->C2 a=some o)->C2 d=some (.dic kv')->Hd kv' G'->kv'.length<=B+10->(Ln (gS rN Hv (Yb 7) (Zz (Yb 4) Zv))) D [some tm,some kk,some (.ref pk),some (.ref nd),some (.ref d),o5,o6,some (.ref p7),o8,o9,o10] C2:=λC2 kv' o8 o9 o10 x2 D2 h2 l2=>by
  refine⟨_,FL,⟨_,_,FL,x2 _ _ P7⟩,_,FL,_,_,_,FL,FL,x2 _ _ P7,Yu (by rw[XI];omega),?_⟩;refine q _ d o8 o9 o10 (λa o h e=>by rw[Zg h];exact x2 a o e) (by rw[Ze,XL];rfl) ⟨kv',.inl (by rw[Zg nd7];exact D2),l2,h2⟩ nd7 hd
 rcases hsh with⟨h1,h2,rfl⟩ | ⟨x,y,p,rfl,rfl,rfl,rfl⟩ | ⟨x,y,p,r,rfl,rfl,rfl,rfl⟩
 ·refine⟨_,FL,Zu (v:=false) h1 ⟨_,FL,Zl ?_⟩⟩;refine⟨_,FL,Zu (v:=false) h2 ⟨_,FL,Zl ?_⟩⟩;exact fin _ kv _ _ _ (λa o e=>x1 a o e) Ze hk (by omega)
 ·refine⟨_,FL,Zu (v:=true) (by decide+kernel) ⟨_,FL,Z6 ?_⟩⟩;refine⟨_,FL,⟨_,_,FL,Ze⟩,λpd hpd=>?_⟩;have x2:=x1.trans (Ex.new (o:=.dic []) hpd);have ndp:d≠pd:=λe=>by rw[e,Ze] at hpd;cases hpd
  have P2:=x2 _ _ P;obtain⟨t1,t2⟩:=tM (x:=x) (y:=y) (p:=p) (q:=Xp p) hk;refine⟨_,FL,_,Zr,_,FL,_,_,P2,Zr,_,Yl,_,FL,_,Yl,_,FL,_,_,P2,Zr,_,FL,_,FL,Ze,ZNB FL,?_⟩;refine⟨_,_,_,_,FL,FL,ndp,by rw[Zg ndp,Zg ndp];exact Ze,Ze,Jj (by show kv.length+(Z8 [] [((.inr x:Z0),Zw p),(.inr y,Zw (Xp p))]).length<=_;omega),?_⟩;refine⟨_,FL,Zu (v:=false) (by decide+kernel) ⟨_,FL,Zl ?_⟩⟩;refine fin _ (Z8 kv (Z8 [] [(.inr x,Zw p),(.inr y,Zw (Xp p))])) _ _ _ (λa o e=>?_) Ze t1 ?_
  ·rw[Zg (Jg e hd),Zg (Jg (x1 _ _ e) hpd)];exact x2 _ _ e
  ·have:(Z8 kv (Z8 [] [((.inr x:Z0),Zw p),(.inr y,Zw (Xp p))])).length<=kv.length+(Z8 [] [((.inr x:Z0),Zw p),(.inr y,Zw (Xp p))]).length:=Uw;omega
 ·refine⟨_,FL,Zu (v:=false) (by decide+kernel) ⟨_,FL,Zl ?_⟩⟩;refine⟨_,FL,Zu (v:=true) (by decide+kernel) ⟨_,FL,Z6 ?_⟩⟩;refine⟨_,FL,⟨_,_,FL,Ze⟩,λpd hpd=>?_⟩;have x2:=x1.trans (Ex.new (o:=.dic []) hpd);have ndp:d≠pd:=λe=>by rw[e,Ze] at hpd;cases hpd
  have P2:=x2 _ _ P;obtain⟨t1,t2⟩:=tM (x:=x) (y:=y) (p:=p) (q:=r) hk;refine⟨_,FL,_,Zr,_,FL,_,_,P2,Zr,_,Yl,_,FL,_,Yl,_,FL,_,_,P2,Zr,_,Jp,_,FL,_,FL,Ze,ZNB FL,?_⟩;refine⟨_,_,_,_,FL,FL,ndp,by rw[Zg ndp,Zg ndp];exact Ze,Ze,Jj (by show kv.length+(Z8 [] [((.inr x:Z0),Zw p),(.inr y,Zw r)]).length<=_;omega),?_⟩;refine fin _ (Z8 kv (Z8 [] [(.inr x,Zw p),(.inr y,Zw r)])) _ _ _ (λa o e=>?_) Ze t1 ?_
  ·rw[Zg (Jg e hd),Zg (Jg (x1 _ _ e) hpd)];exact x2 _ _ e
  ·have:(Z8 kv (Z8 [] [((.inr x:Z0),Zw p),(.inr y,Zw r)])).length<=kv.length+(Z8 [] [((.inr x:Z0),Zw p),(.inr y,Zw r)]).length:=Uw;omega
def rZ (h:Jd t G k cs)(P:C pk=some (.lst (cs.map λc=>Zw c.2.2)))(hn:pY C nd G B)(hB:B<=4000)(hl:t.lok)
  (q:∀C' p (ds:List WP),Ex C C'->C' p=some (.lst (ds.map T.ref))->ds.length=cs.length->(∀(i:Nat) (c:Ev×Tr×Kd) (d:WP),cs[i]?=some c->ds[i]?=some d->pY C' d c.1 (B+10))->Q (.ref p) C'):Yg pr (n+1) Bz [tt t,Zw k,.ref pk,.ref nd] C Q χ:=by
 refine Cq FL ?_;unfold Ss Qg;obtain⟨kv,h1,h2,h3⟩:=hn;refine⟨_,FL,_,_,FL,h1,λpf hpf=>?_⟩;have x1:=Ex.new (o:=.dic kv) hpf;have F1:up C pf (.dic kv) pf=some (.dic kv):=Ze;have P1:=x1 _ _ P;have hd3:Hd kv G:=h3
 cases h with
 | num=>exact Z4 FL (by decide+kernel) (Z4 FL (by decide+kernel) (T6 (by decide+kernel) P1 F1 hd3 (by omega) (λc h=>by cases h) (by decide) x1 q))
 | nm hx=>exact Z4 FL (by decide+kernel) (Z4 FL (by decide+kernel) (T6 (by decide+kernel) P1 F1 hd3 (by omega) (λc h=>by cases h) (by decide) x1 q))
 | stop=>exact Z4 FL (by decide+kernel) (Z4 FL (by decide+kernel) (T6 (by decide+kernel) P1 F1 hd3 (by omega) (λc h=>by cases h) (by decide) x1 q))
 | nil=>exact Z4 FL (by decide+kernel) (Z4 FL (by decide+kernel) (T6 (by decide+kernel) P1 F1 hd3 (by omega) (λc h=>by cases h) (by decide) x1 q))
 | no=>exact Z4 FL (by decide+kernel) (Z4 FL (by decide+kernel) (T6 (by decide+kernel) P1 F1 hd3 (by omega) (λc h=>by cases h) (by decide) x1 q))
 | yes=>exact Z4 FL (by decide+kernel) (Z4 FL (by decide+kernel) (T6 (by decide+kernel) P1 F1 hd3 (by omega) (λc h=>by cases h) (by decide) x1 q))
 | does=>exact Z4 FL (by decide+kernel) (Z4 FL (by decide+kernel) (T6 (by decide+kernel) P1 F1 hd3 (by omega) (λc h=>by simp only[ZM,ZN,or_false] at h;rcases h with rfl | rfl<;>rfl) (ZNB FL) x1 q))
 | call=>exact Z4 FL (by decide+kernel) (Z4 FL (by decide+kernel) (T6 (by decide+kernel) P1 F1 hd3 (by omega) (λc h=>by simp only[ZM,ZN,or_false] at h;rcases h with rfl | rfl<;>rfl) (ZNB FL) x1 q))
 | first=>exact Z4 FL (by decide+kernel) (Z4 FL (by decide+kernel) (T6 (by decide+kernel) P1 F1 hd3 (by omega) (λc h=>by simp only[ZM,ZN,or_false] at h;rcases h with rfl | rfl<;>rfl) (ZNB FL) x1 q))
 | cons=>exact Z4 FL (by decide+kernel) (Z4 FL (by decide+kernel) (T6 (by decide+kernel) P1 F1 hd3 (by omega) (λc h=>by simp only[ZM,ZN,or_false] at h;rcases h with rfl | rfl<;>rfl) (ZNB FL) x1 q))
 | pair=>exact Z4 FL (by decide+kernel) (Z4 FL (by decide+kernel) (T6 (by decide+kernel) P1 F1 hd3 (by omega) (λc h=>by simp only[ZM,ZN,or_false] at h;rcases h with rfl | rfl<;>rfl) (ZNB FL) x1 q))
 | @fn x b _ p r=>
  refine Bn FL ?_;refine⟨_,FL,_,Yl,_,FL,_,FL,_,Yl,_,_,_,FL,FL,F1,Yu (by omega),?_⟩;refine Z4 FL (by decide+kernel) ?_;have x2:Ex C (up (up C pf (.dic kv)) pf (.dic (Yy kv (.inr x) (Zw p)))):=λc o e=>by rw[Zg (Jg e hpf)];exact x1 _ _ e
  exact T6 (by decide+kernel) (x2 _ _ P) Ze (tN hd3) (by have:=Hr (kvs:=kv) (kk:=.inr x) (v:=Zw p);omega) (λc h=>by rw[XQ.mp h]) (ZNB FL) x2 q
 | @lt mm xs ts b _ _ ks=>
  refine Z4 FL (by decide+kernel) (Bn FL ?_);have hm10:mm<=10:=hl.1;have ek:((((List.finRange mm).map λi=>(bnd (Wh xs) ((List.finRange mm).map ks) G,ts i,ks i))++[(bnd (Wh xs) ((List.finRange mm).map ks) G,b,k)]).map λc:Ev×Tr×Kd=>Zw c.2.2)=((List.finRange mm).map λi=>Zw (ks i))++[Zw k]:=by
   rw[XL,YE];rfl
  have P1':=P1;rw[ek] at P1';have fin:∀(C2:Hw) (kv':List (Z0×T)) (x5 x6:Option T),Ex C C2->C2 pf=some (.dic kv')->Hd kv' (bnd (Wh xs) ((List.finRange mm).map ks) G)->kv'.length<=B+10->Vs (Yg pr n) {nx:=λ_ C'=>Q .non C',rt:=Q,xc:=χ} [some (tt (.lt mm xs ts b)),some (Zw k),some (.ref pk),some (.ref nd),some (.ref pf),x5,x6,none,none,none,none] C2:=λC2 kv' x5 x6 x2 F2 H2 l2=>by
   refine T6 (by decide+kernel) (x2 _ _ P) F2 H2 l2 (λc h=>?_) ?_ x2 q
   ·rcases XS.mp h with h | h
    ·obtain⟨i,_,rfl⟩:=XR.mp h;rfl
    ·rw[XQ.mp h]
   ·rw[BA,XI,BN];show mm+1<=20;omega
  have npk:pk≠pf:=Jg P hpf;refine⟨_,FL,_,Yl,_,FL,.inr (.inl ⟨_,_,_,FL,P1',by rw[XI,BA,XI];omega,?_⟩)⟩;have zl:(Tz ((List.finRange mm).map λi=>T.tup [.str (xs i),tt (ts i)]) (((List.finRange mm).map λi=>Zw (ks i))++[Zw k])).length=mm:=by
   unfold Tz;rw[List.length_zipWith,BA,XI,XI,BN];omega
  refine X2 (λi τ C'=>∃(kv':List (Z0×T)) (x5 x6:Option T),τ=[some (tt (.lt mm xs ts b)),some (Zw k),some (.ref pk),some (.ref nd),some (.ref pf),x5,x6,none,none,none,none]/\(∀a o,a≠pf->up C pf (.dic kv) a=some o->C' a=some o)/\C' pf=some (.dic kv')/\Hd kv' (bnd ((Wh xs).take i) (((List.finRange mm).map ks).take i) G)/\kv'.length<=kv.length+i) ⟨kv,_,_,FL,λ_ _ _ h=>h,F1,hd3,XE _⟩ (λi τ C' _ h=>by obtain⟨_,_,_,_,h,_⟩:=h;exact h _ _ npk P1') ?_ ?_
  ·rintro i v τ C2 N hv ⟨kv',x5,x6,rfl,e2,F2,H2,l2⟩ hN;have hi:i<mm:=by rw[<-zl];exact(BB.mp hv).1
   obtain rfl:v=.tup [.tup [.str (xs ⟨i,hi⟩),tt (ts ⟨i,hi⟩)],Zw (ks ⟨i,hi⟩)]:=by
    unfold Tz at hv;rw[List.getElem?_zipWith,XM,BP (by rw[XI,BN];exact hi),XM] at hv;have ef:(List.finRange mm)[i]?=some ⟨i,hi⟩:=by simp[hi]
    rw[ef] at hv;exact(YH hv).symm
   refine⟨_,FL,_,_,FL,_,_,FL,FL,?_⟩;refine⟨_,FL,_,FL,_,FL,_,Zr,_,_,_,FL,FL,F2,Yu (by omega),?_⟩;refine hN _ _ ⟨Yy kv' (.inr (xs ⟨i,hi⟩)) (Zw (ks ⟨i,hi⟩)),_,_,FL,λa o h e=>by rw[Zg h];exact e2 a o h e,Ze,?_,by have:=Hr (kvs:=kv') (kk:=.inr (xs ⟨i,hi⟩)) (v:=Zw (ks ⟨i,hi⟩));omega⟩;have ef:(List.finRange mm)[i]?=some ⟨i,hi⟩:=by simp[hi]
   have e1:(Wh xs).take (i+1)=(Wh xs).take i++[xs ⟨i,hi⟩]:=by
    rw[YD];congr 1;show((List.finRange mm).map xs)[i]?.toList=_;rw[XM,ef];rfl
   have e2':((List.finRange mm).map ks).take (i+1)=((List.finRange mm).map ks).take i++[ks ⟨i,hi⟩]:=by
    rw[YD];congr 1;rw[XM,ef];rfl
   rw[e1,e2',sG (by rw[YM,YM,XI,XI])];exact tN H2
  ·rintro τ C2 ⟨kv',x5,x6,rfl,e2,F2,H2,l2⟩;rw[zl] at H2 l2;rw[DW (by rw[XI,BN];omega),DW (by rw[XI,BN];omega)] at H2;exact fin C2 kv' _ _ (λa o e=>e2 a o (Jg e hpf) (x1 _ _ e)) F2 H2 (by omega)
 | @chT a n0 y _ _=>
  refine Z4 FL (by decide+kernel) (Z4 FL (by decide+kernel) ?_);refine⟨_,FL,_,Zr,qE (v:=true) (by decide+kernel) ⟨_,FL,Zl ?_⟩⟩;refine⟨_,FL,ZNB FL,λp7 hp7=>?_⟩;have x2:=x1.trans (Ex.new (o:=.lst [T.ref nd]) hp7);have P2:=x2 _ _ P;have rd2:Eh (up (up C pf (.dic kv)) p7 (.lst [T.ref nd])) nd kv:=h1.elim (λh=>.inl (x2 _ _ h)) (λh=>.inr (x2 _ _ h));have L2:up (up C pf (.dic kv)) p7 (.lst [T.ref nd]) p7=some (.lst ([nd].map T.ref)):=Ze;have f7:C p7=none:=x1.free hp7;have n7k:p7≠pk:=(Jg P f7).symm;have n7d:p7≠nd:=by rcases h1 with h | h<;>exact(Jg h f7).symm
  generalize up (up C pf (.dic kv)) p7 (.lst [T.ref nd])=C2 at x2 P2 rd2 L2;refine⟨_,FL,_,Jp,trivial,?_⟩;refine zh P2 rd2 hd3 h2 hB L2 (ZNB FL) n7k n7d (.inl ⟨by decide+kernel,by decide+kernel,FL⟩) λC3 d1 o8 o9 o10 e3 L3 N3 nd1 fd1=>⟨trivial,?_⟩;have rd3:Eh C3 nd kv:=rd2.elim (λh=>.inl (e3 _ _ n7d.symm h)) (λh=>.inr (e3 _ _ n7d.symm h));refine zh (e3 _ _ n7k.symm P2) rd3 hd3 h2 hB L3 (ZNB FL) n7k n7d (.inl ⟨by decide+kernel,by decide+kernel,FL⟩) λC4 d2 o8 o9 o10 e4 L4 N4 nd2 fd2=>⟨trivial,_,FL,?_⟩;have rd4:Eh C4 nd kv:=rd3.elim (λh=>.inl (e4 _ _ n7d.symm h)) (λh=>.inr (e4 _ _ n7d.symm h));obtain⟨kv3,r3,l3,m3⟩:=N3;refine q C4 p7 [nd,d1,d2] (λa o e=>e4 a o (Jg e f7) (e3 a o (Jg e f7) (x2 a o e))) L4 FL λi c' d' hi hd'=>?_
  match i with
  | 0=>cases hi;cases hd';exact⟨kv,rd4,by omega,hd3⟩
  | 1=>cases hi;cases hd';exact⟨kv3,r3.elim (λh=>.inl (e4 _ _ nd1 h)) (λh=>.inr (e4 _ _ nd1 h)),l3,m3⟩
  | 2=>cases hi;cases hd';exact N4
  | i+3=>cases hi
 | @chL a n0 x y c _ _ p=>
  refine Z4 FL (by decide+kernel) (Z4 FL (by decide+kernel) ?_);refine⟨_,FL,_,Zr,qE (v:=true) (by decide+kernel) ⟨_,FL,Zl ?_⟩⟩;refine⟨_,FL,ZNB FL,λp7 hp7=>?_⟩;have x2:=x1.trans (Ex.new (o:=.lst [T.ref nd]) hp7);have P2:=x2 _ _ P;have rd2:Eh (up (up C pf (.dic kv)) p7 (.lst [T.ref nd])) nd kv:=h1.elim (λh=>.inl (x2 _ _ h)) (λh=>.inr (x2 _ _ h));have L2:up (up C pf (.dic kv)) p7 (.lst [T.ref nd]) p7=some (.lst ([nd].map T.ref)):=Ze;have f7:C p7=none:=x1.free hp7;have n7k:p7≠pk:=(Jg P f7).symm;have n7d:p7≠nd:=by rcases h1 with h | h<;>exact(Jg h f7).symm
  generalize up (up C pf (.dic kv)) p7 (.lst [T.ref nd])=C2 at x2 P2 rd2 L2;refine⟨_,FL,_,Jp,trivial,?_⟩;refine zh P2 rd2 hd3 h2 hB L2 (ZNB FL) n7k n7d (.inl ⟨by decide+kernel,by decide+kernel,FL⟩) λC3 d1 o8 o9 o10 e3 L3 N3 nd1 fd1=>⟨trivial,?_⟩;have rd3:Eh C3 nd kv:=rd2.elim (λh=>.inl (e3 _ _ n7d.symm h)) (λh=>.inr (e3 _ _ n7d.symm h));refine zh (e3 _ _ n7k.symm P2) rd3 hd3 h2 hB L3 (ZNB FL) n7k n7d (.inr (.inl ⟨x,y,p,FL,FL,FL,FL⟩)) λC4 d2 o8 o9 o10 e4 L4 N4 nd2 fd2=>⟨trivial,_,FL,?_⟩;have rd4:Eh C4 nd kv:=rd3.elim (λh=>.inl (e4 _ _ n7d.symm h)) (λh=>.inr (e4 _ _ n7d.symm h));obtain⟨kv3,r3,l3,m3⟩:=N3;refine q C4 p7 [nd,d1,d2] (λa o e=>e4 a o (Jg e f7) (e3 a o (Jg e f7) (x2 a o e))) L4 FL λi c' d' hi hd'=>?_
  match i with
  | 0=>cases hi;cases hd';exact⟨kv,rd4,by omega,hd3⟩
  | 1=>cases hi;cases hd';exact⟨kv3,r3.elim (λh=>.inl (e4 _ _ nd1 h)) (λh=>.inr (e4 _ _ nd1 h)),l3,m3⟩
  | 2=>cases hi;cases hd';exact N4
  | i+3=>cases hi
 | @chP a x y b _ _ p r=>
  refine Z4 FL (by decide+kernel) (Z4 FL (by decide+kernel) ?_);refine⟨_,FL,_,Zr,qE (v:=true) (by decide+kernel) ⟨_,FL,Zl ?_⟩⟩;refine⟨_,FL,ZNB FL,λp7 hp7=>?_⟩;have x2:=x1.trans (Ex.new (o:=.lst [T.ref nd]) hp7);have P2:=x2 _ _ P;have rd2:Eh (up (up C pf (.dic kv)) p7 (.lst [T.ref nd])) nd kv:=h1.elim (λh=>.inl (x2 _ _ h)) (λh=>.inr (x2 _ _ h));have L2:up (up C pf (.dic kv)) p7 (.lst [T.ref nd]) p7=some (.lst ([nd].map T.ref)):=Ze;have f7:C p7=none:=x1.free hp7;have n7k:p7≠pk:=(Jg P f7).symm;have n7d:p7≠nd:=by rcases h1 with h | h<;>exact(Jg h f7).symm
  generalize up (up C pf (.dic kv)) p7 (.lst [T.ref nd])=C2 at x2 P2 rd2 L2;refine⟨_,FL,_,Jp,trivial,?_⟩;refine zh P2 rd2 hd3 h2 hB L2 (ZNB FL) n7k n7d (.inr (.inr ⟨x,y,p,r,FL,FL,FL,FL⟩)) λC3 d1 o8 o9 o10 e3 L3 N3 nd1 fd1=>⟨trivial,_,FL,?_⟩;have rd3:Eh C3 nd kv:=rd2.elim (λh=>.inl (e3 _ _ n7d.symm h)) (λh=>.inr (e3 _ _ n7d.symm h));refine q C3 p7 [nd,d1] (λa o e=>e3 a o (Jg e f7) (x2 a o e)) L3 FL λi c' d' hi hd'=>?_
  match i with
  | 0=>cases hi;cases hd';exact⟨kv,rd3,by omega,hd3⟩
  | 1=>cases hi;cases hd';exact N3
  | i+2=>cases hi
end
def u5 {k:Kd}(h:Jd t G k cs):(cs.map λc=>c.2.1)=t.scs.map λz=>z.2:=by
 cases h with
 | lt=>show List.map _ (_++_)=List.map _ (_++_);rw[XL,XL,YE,YE];rfl
 | _=>rfl
def Vz (cs:List (Ev×Tr×Kd))(i:Nat):Nat:=((cs.take i).map λc=>c.2.1.size).sum
def wj {cs:List (Ev×Tr×Kd)}{i:Nat}(h:cs[i]?=some c):Vz cs (i+1)=Vz cs i+c.2.1.size:=by
 unfold Vz;rw[YD,h,XL,DT];show _+(c.2.1.size+0)=_;omega
set_option tactic.hygienic true
def HTs.at:∀{cs:List (Ev×Tr×Kd)} {Rs:List Kd} {i:Nat} {c:Ev×Tr×Kd},HTs cs Rs->cs[i]?=some c->∃Ri,HT c.1 c.2.1 c.2.2 Ri/\(Rs.drop (Vz cs i)).take Ri.length=Ri/\Vz cs i+Ri.length<=Rs.length
 | [],_,_,_,_,h=>by cases h
 | c0::cs,Rs,0,c,h,e=>by
  cases e
  cases h with
  | cons a b=>
   rename_i r rs;refine⟨r,a,?_,?_⟩
   ·show((r++rs).drop 0).take r.length=r;simp
   ·show 0+r.length<=(r++rs).length;rw[BA];omega
 | c0::cs,Rs,i+1,c,h,e=>by
  cases h with
  | cons a b=>
   rename_i G t k r rs;obtain⟨Ri,h1,h2,h3⟩:=HTs.at (i:=i) b e;have eo:Vz ((G,t,k)::cs) (i+1)=r.length+Vz cs i:=by
    rw[HT.len a];unfold Vz;rw[List.take_succ_cons,YI,FG]
   refine⟨Ri,h1,?_,?_⟩
   ·rw[eo,<-List.drop_drop,List.drop_left];exact h2
   ·rw[eo,BA];omega
set_option tactic.hygienic false
def Bf {A R:List Kd}{s x:Nat}(h:(A.drop s).take R.length=R)(e:R[x]?=some r):A[s+x]?=some r:=by
 have hx:x<R.length:=(BB.mp e).1;rw[<-h,List.getElem?_take_of_lt hx,List.getElem?_drop] at e;exact e
def uj {A R S:List Kd}(h:(A.drop s).take R.length=R)(e:(R.drop o).take S.length=S)(hl:o+S.length<=R.length):(A.drop (s+o)).take S.length=S:=by
 have h1:R.drop o=((A.drop s).take R.length).drop o:=by rw[h]
 rw[h1,List.drop_take,List.take_take,List.drop_drop] at e;rw[Nat.min_eq_left (by omega)] at e;exact e
section
variable {pw:WP}{A:List Kd}
def ut:∀(m n:Nat) (t:Tr) (bs:List Str) (G:Ev) (k:Kd) (R:List Kd) (s B:Nat) (nd:WP) (C:Hw) {Q:WK} {χ:WX},Cd m bs t->t.lok->HT G t k R->(∀r∈R,Yr (Zw r))->C pw=some (.lst (A.map Zw))->(A.drop s).take R.length=R->pY C nd G B->B+10*m<=4000->
  (∀C',Ex C C'->Q (.bl true) C')->Yg pr (n+2*m+2) Iz [tt t,.ref pw,nT s,.ref nd] C Q χ
 | 0,_,_,_,_,_,_,_,_,_,_,_,_,h,_,_,_,_,_,_,_,_=>h.elim
 | m+1,n,t,bs,G,k,R,s,B,nd,C,Q,χ,hc,hl,hT,hf,hA,hR,hn,hB,q=>by
  have eN:n+2*(m+1)+2=(n+2*m+3)+1:=by omega
  rw[eN];refine A8 (n:=n+2*m+3) FL ?_;unfold Pb Oi
  cases hT with
  | @mk _ _ _ cs Rs rule hs=>
  have hsc:=u5 rule;have hcl:cs.length=t.scs.length:=by have:=congrArg List.length hsc;rwa [XI,XI] at this
  have hsz:Rs.length+1<=A.length:=by
   have:=congrArg List.length hR;rw[YM,YF,ET] at this;omega
  have kid:∀(i:Nat) (c:Ev×Tr×Kd),cs[i]?=some c->∃z∈t.scs,z.2=c.2.1:=λi c hi=>by
   have:c.2.1∈t.scs.map λz=>z.2:=by rw[<-hsc];exact XR.mpr ⟨c,BE hi,FL⟩
   obtain⟨z,hz,e⟩:=XR.mp this;exact⟨z,hz,e⟩
  have kcd:∀(i:Nat) (c:Ev×Tr×Kd),cs[i]?=some c->(∃bs',Cd m bs' c.2.1)/\c.2.1.lok:=λi c hi=>by
   obtain⟨z,hz,e⟩:=kid i c hi;rw[<-e];exact⟨⟨_,hc.2 z hz⟩,(Lv hl).2 z hz⟩
  have eP:(t.scs.map λz=>tt z.2)=cs.map λc=>tt c.2.1:=by
   have:=congrArg (List.map tt) hsc;rw[YE,YE] at this;exact this.symm
  have hc20:cs.length<=20:=by
   cases rule with
   | lt=>have:=hl.1;rw[BA,XI,BN];show _+1<=20;omega
   | _=>exact ZNB FL
  have head:∀(i:Nat) (c:Ev×Tr×Kd),cs[i]?=some c->A[s+1+Vz cs i]?=some c.2.2:=λi c hi=>by
   obtain⟨Ri,h1,h2,h3⟩:=HTs.at hs hi;obtain⟨R',rfl⟩:=h1.head;have e0:(k::Rs)[1+Vz cs i]?=some c.2.2:=by
    rw[Nat.add_comm,List.getElem?_cons_succ];have:=Bf (A:=Rs) (s:=Vz cs i) (x:=0) h2 FL;exact this
   have:=Bf hR e0;rw[<-Nat.add_assoc] at this;exact this
  refine⟨XO _,λp4 hp4=>?_⟩;have x4:=Ex.new (o:=.lst []) hp4;have P4:up C p4 (.lst []) p4=some (.lst []):=Ze;generalize up C p4 (.lst [])=C4 at x4 P4;refine⟨_,FL,?_⟩;have e1:((s:Int)+1)=((s+1:Nat):Int):=by omega
  dsimp only[eC,A4,nT];rw[e1];refine⟨_,FL,?_⟩;dsimp only[Zv];refine Cy (n:=n+2*m+2) t hl λC5 p5 x5 f5 P5=>?_;rw[eP] at P5;have n45:p5≠p4:=(Jg P4 f5).symm;refine⟨_,P5,?_⟩;refine X2 (λi τ C'=>∃x6:Option T,τ=[some (tt t),some (.ref pw),some (nT s),some (.ref nd),some (.ref p4),some (nT (s+1+Vz cs i)),x6,none,none,none]/\(∀a o,a≠p4->C5 a=some o->C' a=some o)/\C' p4=some (.lst ((List.range i).map λj=>nT (s+1+Vz cs j)))) ⟨none,FL,λ_ _ _ h=>h,x5 _ _ P4⟩ (λi τ C' _ h=>by obtain⟨_,_,h,_⟩:=h;exact h _ _ n45 P5) ?_ ?_
  ·rintro i v τ C6 N hv ⟨x6,rfl,e6,L6⟩ hN;rw[XM] at hv;obtain⟨c,hci,rfl⟩:∃c,cs[i]?=some c/\v=tt c.2.1:=by
    cases e:cs[i]? with
    | none=>rw[e] at hv;cases hv
    | some c=>rw[e] at hv;exact⟨c,FL,(YH hv).symm⟩
   have hi:i<cs.length:=(BB.mp hci).1;obtain⟨⟨bs',hcd⟩,hlc⟩:=kcd i c hci;refine⟨_,FL,⟨_,_,FL,L6⟩,_,FL,_,_,_,FL,FL,L6,Yu (by rw[XI,FH];omega),?_⟩;refine⟨_,FL,_,FL,?_⟩;dsimp only[Zv];have eM:n+2*m+3=(n+m+2)+m+1:=by omega
   rw[eM];refine yJ m (n+m+2) c.2.1 bs' _ hcd hlc λC7 x7=>?_;refine hN _ _ ⟨some (tt c.2.1),?_,λa o h e=>x7 _ _ (by rw[Zg h];exact e6 a o h e),?_⟩
   ·rw[wj hci];have e:((s+1+Vz cs i:Nat):Int)+(c.2.1.size:Int)=((s+1+(Vz cs i+c.2.1.size):Nat):Int):=by omega
    show[_,_,_,_,_,some (T.int _),_,_,_,_]=_;rw[e]
   ·rw[FA,XL];exact x7 _ _ Ze
  rintro τ C6 ⟨x6,rfl,e6,L6⟩;rw[XI] at L6 |-;have f4:∀a o,C a=some o->a≠p4:=λa o e=>Jg e hp4;have x06:Ex C C6:=λa o e=>e6 a o (f4 a o e) (x5 _ _ (x4 _ _ e));clear P4 P5 x5 e6 n45 f5 x4;refine⟨_,FL,_,L6,?_⟩;refine Jk (λv=>match v with | .int i=>(((A[i.toNat]?).map Zw).getD .non) | _=>.non) L6 (by rw[XI,FH];exact Wl (by omega)) (λv hv R hR=>?_) λp7 hp7=>?_
  ·obtain⟨j,hj,rfl⟩:=XR.mp hv;have hj':=DC.mp hj;obtain⟨c,hcj⟩:∃c,cs[j]?=some c:=⟨cs[j],by simp[hj']⟩;have hh:=head j c hcj;refine⟨_,FL,_,FL,_,_,x06 _ _ hA,Xu (j:=s+1+Vz cs j) (v:=Zw c.2.2) (by rw[XM,hh];rfl),?_⟩;have e:((match nT (s+1+Vz cs j) with | .int i=>(((A[i.toNat]?).map Zw).getD .non) | _=>.non):T)=Zw c.2.2:=by
    show((A[((s+1+Vz cs j:Nat):Int).toNat]?).map Zw).getD .non=_;rw[CV,hh];rfl
   rw[e] at hR;exact hR
  have eK:(((List.range cs.length).map λj=>nT (s+1+Vz cs j)).map λv=>match v with | .int i=>(((A[i.toNat]?).map Zw).getD .non) | _=>.non)=cs.map λc=>Zw c.2.2:=by
   rw[YE];refine List.ext_getElem (by simp) λj h1 h2=>?_;rw[XI] at h2;simp only[List.getElem_map,List.getElem_range];have hh:=head j cs[j] (by simp[h2]);show((A[((s+1+Vz cs j:Nat):Int).toNat]?).map Zw).getD .non=_;rw[CV,hh];rfl
  rw[eK];have x07:=x06.trans (Ex.new (o:=.lst (cs.map λc=>Zw c.2.2)) hp7);have L7:=(Ex.new (o:=.lst (cs.map λc=>Zw c.2.2)) hp7) _ _ L6;have K7:up C6 p7 (.lst (cs.map λc=>Zw c.2.2)) p7=some (.lst (cs.map λc=>Zw c.2.2)):=Ze;generalize up C6 p7 (.lst (cs.map λc=>Zw c.2.2))=C7 at x07 L7 K7;clear L6 hp7 x06;have A0:A[s]?=some k:=Bf (x:=0) hR FL;have hat:Pa (A.map Zw) (s:Int)=some (Zw k):=Xu (by rw[XM,A0];rfl);refine⟨_,FL,_,FL,_,FL,_,_,x07 _ _ hA,hat,_,FL,_,FL,?_⟩;dsimp only[Zv];refine nO (n:=n+2*m+2) rule K7 (hn.ex x07) (hf k (BD ..)) (λc hc'=>?_) λC8 x8=>⟨true,FL,Zl ?_⟩
  ·obtain⟨i,hi⟩:=List.getElem?_of_mem hc';obtain⟨Ri,h1,h2,h3⟩:=HTs.at hs hi;obtain⟨R',rfl⟩:=h1.head;refine hf _ (XV _ ?_);have:=Bf (A:=Rs) (s:=Vz cs i) (x:=0) h2 FL;exact BE this
  have x08:=x07.trans x8;refine⟨_,FL,_,FL,_,FL,_,_,x08 _ _ hA,hat,_,FL,_,FL,?_⟩;dsimp only[Zv];refine rZ (n:=n+2*m+2) rule (x8 _ _ K7) (hn.ex x08) (by omega) hl λC9 p9 ds x9 L9 d9 N9=>?_;have x09:=x08.trans x9;have PL:=x9 _ _ (x8 _ _ L7);refine⟨_,FL,?_⟩;dsimp only[Zv];refine Cy (n:=n+2*m+2) t hl λC10 p10 x10 f10 P10=>?_;rw[eP] at P10;refine⟨_,_,FL,P10,?_⟩;refine X2 (λi τ C'=>∃(o6 o9:Option T),τ=[some (tt t),some (.ref pw),some (nT s),some (.ref nd),some (.ref p4),some (nT (s+1+Vz cs cs.length)),o6,some (.ref p7),some (.ref p9),o9]/\Ex C10 C') ⟨_,_,FL,Ex.refl _⟩ (λi τ C' _ h=>by obtain⟨_,_,_,h⟩:=h;exact h _ _ P10) ?_ ?_
  ·rintro i v τ C11 N hv ⟨o6,o9,rfl,x11⟩ hN;have hi:i<cs.length:=by
    have:=(BB.mp hv).1;rw[Gy,XI] at this;exact this
   obtain⟨c,hci⟩:∃c,cs[i]?=some c:=⟨cs[i],by simp[hi]⟩;obtain rfl:v=.tup [.int ((i+0:Nat):Int),tt c.2.1]:=by
    have:=jQ (z:=0) (xs:=cs.map λc=>tt c.2.1) (i:=i) (x:=tt c.2.1) (by rw[XM,hci];rfl);rw[this] at hv;exact(YH hv).symm
   obtain⟨d,hd⟩:∃d,ds[i]?=some d:=⟨ds[i]'(by omega),by simp[show i<ds.length by omega]⟩;have x911:=x10.trans x11;obtain⟨⟨bs',hcd⟩,hlc⟩:=kcd i c hci;obtain⟨Ri,h1,h2,h3⟩:=HTs.at hs hci;refine⟨_,FL,_,_,FL,_,_,FL,FL,?_⟩;refine⟨_,FL,_,FL,_,FL,_,FL,_,_,x911 _ _ PL,Xu (j:=i) (v:=nT (s+1+Vz cs i)) (by rw[XM,FE hi];rfl),_,FL,_,FL,_,_,x911 _ _ L9,Xu (j:=i) (v:=T.ref d) (by rw[XM,hd];rfl),?_⟩;dsimp only[Zv];have eW:n+2*m+3=(n+1)+2*m+2:=by omega
   rw[eW];refine ut m (n+1) c.2.1 bs' c.1 c.2.2 Ri (s+1+Vz cs i) (B+10) d C11 hcd hlc h1 (λr hr=>?_) (x911 _ _ (x09 _ _ hA)) ?_ ((N9 i c d hci hd).ex x911) (by omega) λC12 x12=>⟨true,FL,Zl ?_⟩
   ·refine hf r (XV _ ?_);rw[<-h2] at hr;exact List.mem_of_mem_drop (List.mem_of_mem_take hr)
   ·have e0:((k::Rs).drop (1+Vz cs i)).take Ri.length=Ri:=by rw[Nat.add_comm,List.drop_succ_cons];exact h2
    have:=uj hR e0 (by rw[YF];omega);rw[<-Nat.add_assoc] at this;exact this
   ·exact hN _ _ ⟨_,_,FL,x11.trans x12⟩
  ·rintro τ C11 ⟨o6,o9,rfl,x11⟩;exact q C11 ((x09.trans x10).trans x11)
end
def Ii (h:Yx (.tup xs) n=true):∃n',n=n'+1/\Ys xs n'=true:=by
 cases n with
 | zero=>unfold Yx at h;cases h
 | succ n=>unfold Yx at h;exact⟨n,FL,h⟩
def Kb:∀{n:Nat} {k:Kd},Yx (Zw (k.put θ)) n=true->Yx (Zw k) n=true
 | n,.op i,h=>by
  obtain⟨xs,e⟩:=Bm (θ i);have h:Yx (Zw (θ i)) n=true:=h;rw[e] at h;obtain⟨n',rfl,_⟩:=Ii h;simp[Zw,Yx,Ys]
 | n,.k0 g,h=>h
 | n,.k1 g a,h=>by
  obtain⟨n',rfl,h'⟩:=Ii (xs:=[.str g,Zw (a.put θ)]) h;simp only[Ys,Bool.and_eq_true,Bool.and_true] at h';have:=Kb h'.2;simp[Zw,Yx,Ys,this]
 | n,.k2 g a b,h=>by
  obtain⟨n',rfl,h'⟩:=Ii (xs:=[.str g,Zw (a.put θ),Zw (b.put θ)]) h;simp only[Ys,Bool.and_eq_true,Bool.and_true] at h';have h1:=Kb h'.2.1;have h2:=Kb h'.2.2;simp[Zw,Yx,Ys,h1,h2]
def e9 {k:Kd}{Q:WK}(fk:Yr (Zw k))(q:Q (.bl false) C):Nu true (Zw k) (Zw k) C Q:=by
 have e:=Vr _ fk
 cases k<;>(refine⟨fk,fk,?_⟩;show Q (.bl (!_)) C;rw[e];exact q)
section
variable {C C':Hw}{Q:WK}{χ:WX}{n f:Nat}{t:Tr}{w:Kd}{R:List Kd}{po:WP}{u:Int}{a l:WP}{m:Int}
def uy {m:Nat}{N:Nat}(hN:m+8<=N)(hc:Cd m [] t)(hl:t.lok)(hm:m<=900)(hz:t.size<=600)(hco:t.cost<=6000)(hw:∃k R,HT G0 t k R)
  (q:∀C' k R,Ex C C'->Ay t (k::R)->Q (Zw k) C'):Yg pr N Do [tt t] C Q χ:=by
 obtain⟨n,rfl⟩:∃n,N=n+m+7+1:=⟨N-(m+8),by omega⟩;refine xL FL ?_;unfold Kw Ir;refine⟨_,FL,?_⟩;dsimp only[Zv];refine jJ (n:=n) hc hl hm hz hco hw λC1 p R x1 f1 e1 b1 _=>?_;obtain⟨k,hk⟩:=b1.is;obtain⟨R',rfl⟩:=hk.head;exact⟨_,_,e1,Zr,q C1 k R' x1 b1⟩
def ai {v1 v2 v3 v4 v5:T}:Z8 [] [(.inr "mixed",v1),(.inr "seed",v2),(.inr "number",v3),(.inr "left",v4),(.inr "inner",v5)]=[(.inr "mixed",v1),(.inr "seed",v2),(.inr "number",v3),(.inr "left",v4),(.inr "inner",v5)]:=by
 simp only[Z8,List.foldl,Yy,List.any,dH,dG,bd,n04,dF,bc,dE,n23,dD,dC,decide_false,Bool.or_false,Bool.false_eq_true,if_false,List.nil_append,List.cons_append]
def nP {cs:List Int}(hc:C pc=some (.lst (cs.map T.int)))(hl:cs.length<=1000)(q:∀a l C',Ex C C'->C a=none->Dl C' a l 40->Q (.ref a) C'):Yg pr (n+1) zW [.ref pc,.bl mx] C Q χ:=by
 refine zg FL ?_;unfold Pq Nc;refine⟨_,FL,_,hc,?_⟩;refine X2 (λi τ C'=>∃(v:Int) (x3:Option T),τ=[some (.ref pc),some (.bl mx),some (.int v),x3,none]/\C'=C/\0<=v/\v<2147483647) ⟨7919,_,FL,FL,by decide,by decide⟩ (λi τ C' _ h=>by obtain⟨_,_,_,rfl,_⟩:=h;exact hc) ?_ ?_
 ·rintro i y τ C' N hy ⟨v,x3,rfl,rfl,v0,v1⟩ hN;rw[XM] at hy;obtain⟨c,hc',rfl⟩:∃c,cs[i]?=some c/\y=.int c:=by
   cases e:cs[i]? with
   | none=>rw[e] at hy;cases hy
   | some c=>rw[e] at hy;exact⟨c,FL,(YH hy).symm⟩
  refine⟨_,FL,.inr ⟨by decide,by decide⟩,_,FL,by decide,?_⟩;exact hN _ _ ⟨_,_,FL,FL,YO _ (by decide),DU _ (by decide)⟩
 ·rintro τ C' ⟨v,x3,rfl,rfl,v0,v1⟩;refine⟨_,FL,_,_,FL,hc,?_⟩;refine Jk (λt=>match t with | .int c=>.int (if 0-c>c then 0-c else c) | _=>.non) hc (by rw[BW,XI];exact Wl (by omega)) (λx hx R hR=>?_) λpl hpl=>?_
  ·rw[EE] at hx;obtain⟨c,_,rfl⟩:=XR.mp hx;exact⟨_,FL,_,FL,_,_,FL,hR⟩
  have e:((cs.map T.int).reverse.map λt=>match t with | .int c=>T.int (if 0-c>c then 0-c else c) | _=>.non)=(cs.reverse.map λc=>if 0-c>c then 0-c else c).map T.int:=by
   rw[<-DN,YE,YE];rfl
  rw[e];intro pa hpa;have x1:=Ex.new (o:=.lst ((cs.reverse.map λc=>if 0-c>c then 0-c else c).map T.int)) hpl;have L2:up (up C' pl (.lst ((cs.reverse.map λc=>if 0-c>c then 0-c else c).map T.int))) pa (.dic []) pl=_:=(Ex.new hpa) _ _ Ze;have nal:pa≠pl:=λe=>by rw[e,Ze] at hpa;cases hpa
  refine⟨_,FL,_,FL,_,FL,_,FL,_,FL,_,FL,_,FL,_,FL,Ze,ZNB FL,?_⟩;rw[ai];refine q pa pl _ (λc o e=>?_) (x1.free hpa) ⟨mx,v,0,_,Ze,by rw[Zg nal.symm];exact L2,by decide,λy hy=>?_,⟨v0,v1⟩,nal⟩
  ·have h1:c≠pa:=Jg (x1 _ _ e) hpa;rw[Zg h1,Zg h1];exact x1 _ _ e
  ·obtain⟨c,_,rfl⟩:=XR.mp hy
   split<;>omega
end
def xr {α β:Type}{xs:List α}{f:α->β}{lo hi:Option Int}:Dw (xs.map f) lo hi=(Dw xs lo hi).map f:=by
 unfold Dw;rw[XI,List.map_take,List.map_drop]
def pj {α:Type}{xs:List α}{lo hi:Option Int}:(Dw xs lo hi).length<=xs.length:=by
 unfold Dw;rw[YM,ET];omega
def sh {k:Kd}(f:Yx (Zw k) 99=true):rF C 100 (Zw k) (Zw k) true:=.inl ⟨f,f,(Vr _ f).symm⟩
def qU:rF C 100 (.int i) (.int i) true:=.inl ⟨by rfl,by rfl,by rw[xm,XU]⟩
def qT {C:Hw}{R:List Kd}(ha:C a=some (.lst (R.map Zw)))(hb:C b=some (.lst (R.map Zw)))(h:∀k∈R,Yx (Zw k) 90=true):rF C 100 (.ref a) (.ref b) true:=by
 refine .inr (.inr ⟨_,_,_,_,λ_=>true,FL,FL,ha,hb,λ_ j x y hx hy=>?_,?_⟩)
 ·rw[hx] at hy
  cases hy
  obtain⟨k,hk,rfl⟩:=XR.mp (BE hx);have hf:=Ij _ (h k hk) (show 90<=98 by decide);exact .inl ⟨hf,hf,(Vr _ hf).symm⟩
 ·rw[XY rfl];exact(BS.mpr λ_ _=>rfl).symm
def law_true (ns:List Int)(h63:ns.length<=63):Yg pr 100 gM [.cl (ns.map T.int)] (λ_=>none) (λv _=>v=.bl true) (λ_ _=>False):=by
 refine iy FL ?_;unfold w_law xF;refine⟨_,FL,_,FL,_,FL,λpc hpc=>?_⟩;rw[xr];have lc:=pj (xs:=ns) (lo:=some 1) (hi:=some 63);generalize Dw ns (some 1) (some 63)=cs at lc;have C1:up (λ_=>none) pc (.lst (cs.map T.int)) pc=some (.lst (cs.map T.int)):=Ze;generalize up (λ_=>none) pc (.lst (cs.map T.int))=H1 at C1;refine⟨_,FL,_,FL,λp2 hp2=>?_⟩;rw[xr];refine⟨_,_,FL,Ze,by decide,Q8 FL ?_⟩;dsimp only[Zv];refine nP (n:=98) ((Ex.new hp2) _ _ C1) (by omega) λa l H3 x3 f3 D3=>?_;refine⟨ZNB FL,λp4 hp4=>⟨_,FL,?_⟩⟩;dsimp only[Zv,Zz,eC];have D4:=D3.ex (Ex.new (o:=.lst [.int 9,.int 22,.int 9]) hp4);refine Xk (n:=98) D4 (by decide) (Ob (by decide) (by decide)) λr H5 x5 D5 r0 r1=>?_;have P5:=x5 p4 _ (D3.ne hp4).1 (D3.ne hp4).2 Ze;have hf:∃f:Nat,Pa [T.int 9,.int 22,.int 9] r=some (.int f)/\f<=22:=by
  have:r=0\/r=1\/r=2:=by omega
  rcases this with rfl | rfl | rfl
  ·exact⟨9,Zr,by decide⟩
  ·exact⟨22,Yl,by decide⟩
  ·exact⟨9,Jp,by decide⟩
 obtain⟨f,hf1,hf⟩:=hf;refine⟨_,_,P5,hf1,?_⟩;refine⟨_,FL,_,FL,?_⟩;dsimp only[Zv,Zz,eC];refine Ni (by decide) D5 λk H6 x6 D6 hk=>?_;intro nd hnd;have D7:=D6.ex (Ex.new (o:=.dic []) hnd);refine⟨_,FL,?_⟩;dsimp only[Zv];have sx:Sx f (up H6 nd (.dic [])) a l 40 nd [] G0 []:=⟨D7,by decide,by decide,.inl Ze,(D6.ne hnd).1,(D6.ne hnd).2,λe h=>(by cases h),(by show 0+10*f<=5000;omega),hf⟩;refine wV.at (nL f) (by omega) sx (d7 hf hk) λt R H8 m' g8 HT8 W8=>?_;have hz:t.size<=241:=by have:=W8.s;have:=g8.m0;omega
 have hco:=W8.k;have pp:∀{C:Hw} {Q:WK} {χ:WX},(∀C' p R,Ex C C'->C p=none->C' p=some (.lst (R.map Zw))->Ay t R->Q (.ref p) C')->Yg pr 99 xb [tt t] C Q χ:=λ{C Q χ} q=>by
  have e99:99=(91-f)+(f+1)+7:=by omega
  rw[e99];exact jJ W8.c W8.l (by omega) (by omega) (by omega) ⟨_,_,HT8.h⟩ λC' p R x f' e b _=>q C' p R x f' e b
 have ko:∀{C:Hw} {Q:WK} {χ:WX},(∀C' k R,Ex C C'->Ay t (k::R)->Q (Zw k) C')->Yg pr 99 Do [tt t] C Q χ:=λ{C Q χ} q=>uy (m:=f+1) (by omega) W8.c W8.l (by omega) (by omega) (by omega) ⟨_,_,HT8.h⟩ q;refine⟨_,FL,?_⟩;dsimp only[Zv];refine pp λH9 p9 R9 x9 f9 P9 b9=>?_;obtain⟨k9,hk9⟩:=b9.is;obtain⟨R9',rfl⟩:=hk9.head;have hlen:=HT.len hk9;obtain⟨θ,rfl⟩:=b9.wide k R HT8.h;have hPk:∀r∈k9::R9',Pk 30 (r.put θ):=λr hr=>HT8.r _ (XR.mpr ⟨r,hr,FL⟩);have fl:∀r∈k9::R9',Yx (Zw r) 90=true:=λr hr=>Kb (θ:=θ) (Uc (hPk r hr) (by decide));have fl100:∀r∈k9::R9',Yr (Zw r):=λr hr=>Ij _ (fl r hr) (by decide);have el:((((k9::R9').map Zw).length:Nat):Int)=(t.size:Int):=by rw[XI,hlen]
 refine⟨_,FL,"list",.inl ⟨FL,_,P9⟩,_,FL,Zl ?_⟩;refine⟨_,FL,_,FL,_,P9,_,FL,?_⟩;dsimp only[Zv];have e1:99=(97-f)+(f+1)+1:=by omega
 rw[el];have many:∀{C:Hw} {Q:WK} {χ:WX},(∀C',Ex C C'->Q (nT t.size) C')->Yg pr 99 I0 [tt t] C Q χ:=λ{C Q χ} q=>by
  rw[e1];exact yJ (f+1) (97-f) t [] C W8.c W8.l q
 refine many λH10 x10=>⟨true,qU,_,FL,Zl ?_⟩;have P10:=x10 _ _ P9;refine⟨_,FL,_,P10,?_⟩;refine X2 (λi τ C'=>∃x5:Option T,τ=[some (.cl (ns.map T.int)),some (.ref a),some (.int f),some (tt t),some (.ref p9),x5,none]/\Ex H10 C') ⟨_,FL,Ex.refl _⟩ (λi τ C' _ h=>by obtain⟨_,_,h⟩:=h;exact h _ _ P10) ?_ ?_
 ·rintro i v τ C2 N hv ⟨x5,rfl,e2⟩ hN;rw[XM] at hv;obtain⟨r,hr,rfl⟩:∃r,(k9::R9')[i]?=some r/\v=Zw r:=by
   cases e:(k9::R9')[i]? with
   | none=>rw[e] at hv;cases hv
   | some r=>rw[e] at hv;exact⟨r,FL,(YH hv).symm⟩
  refine⟨_,FL,?_⟩;dsimp only[Zv];exact De (θ:=θ) 30 69 r C2 (hPk r (BE hr)) λC3 x3=>⟨true,FL,Zl (hN _ _ ⟨_,FL,e2.trans x3⟩)⟩
 rintro τ C2 ⟨x5',rfl,e2⟩;have P2:=e2 _ _ P10;refine⟨_,FL,_,FL,λd hd=>?_⟩;have x3':=Ex.new (o:=.dic []) hd;have walk:∀{C:Hw} {Q:WK} {χ:WX},C p9=some (.lst ((k9::R9').map Zw))->C d=some (.dic [])->(∀C',Ex C C'->Q (.bl true) C')->Yg pr 99 Iz [tt t,.ref p9,.int 0,.ref d] C Q χ:=λ{C Q χ} hA hd q=>by
  have e2:99=(95-2*f)+2*(f+1)+2:=by omega
  rw[e2];exact ut (f+1) (95-2*f) t [] G0 k9 (k9::R9') 0 0 d C W8.c W8.l hk9 fl100 hA (by rw[List.drop_zero,CB]) ⟨[],.inl hd,XE _,λx k h=>by cases h⟩ (by omega) q
 dsimp only[Zv];refine walk (x3' _ _ P2) Ze λH11 x11=>⟨true,FL,Zl ?_⟩;have P11:=x11 _ _ (x3' _ _ P2);refine⟨_,FL,?_⟩;dsimp only[Zv];refine ko λH12 k12 R12 x12 fR=>?_
 cases Ea fR b9
 have P12:=x12 _ _ P11;have fk:=Ij _ (fl k9 (BD ..)) (show 90<=99 by decide);refine⟨_,FL,_,_,P12,Zr,true,sh fk,_,FL,Zl ?_⟩;refine⟨_,FL,_,FL,_,P12,λp6 hp6=>?_⟩;have n69:p9≠p6:=Jg P12 hp6;have P13:=(Ex.new (o:=.lst ((k9::R9').map Zw)) hp6) _ _ P12;have K13:up H12 p6 (.lst ((k9::R9').map Zw)) p6=some (.lst ((k9::R9').map Zw)):=Ze;generalize up H12 p6 (.lst ((k9::R9').map Zw))=H13 at P13 K13;refine⟨_,FL,⟨_,_,FL,P13⟩,_,_,FL,FL,P13,?_⟩;refine⟨_,FL,⟨_,_,FL,Ze⟩,ZNB FL,_,_,_,FL,FL,Ze,Yu (ZNB FL),?_⟩;have K14:up (up H13 p9 (.lst [])) p9 (.lst ([]++[.tup [.str "num"]])) p6=some (.lst ((k9::R9').map Zw)):=by rw[Zg n69.symm,Zg n69.symm];exact K13
 generalize up (up H13 p9 (.lst [])) p9 (.lst ([]++[.tup [.str "num"]]))=H14 at K14;refine⟨_,FL,?_⟩;dsimp only[Zv];refine pp λH15 p15 R15 x15 f15 P15 b15=>?_
 cases Ea b15 b9
 refine⟨_,FL,true,qT P15 (x15 _ _ K14) fl,_,FL,Z6 ?_⟩;refine⟨_,FL,?_⟩;dsimp only[Zv];refine ko λH16 k16 R16 x16 b16=>?_
 cases Ea b16 b9
 exact⟨_,FL,_,_,x16 _ _ (x15 _ _ K14),Zr,true,sh fk,FL⟩
end K22
open PySem PySem.W PyProof.Rows
def PySem.W.Fast.tw9191769784982715133:=True
def PySem.W.Fast.tw12047473855723747745:=True
def PySem.W.Fast.tw10215931314664973912:=True
def PySem.W.Fast.tw12225083703118811880:PySem.Program:=DJ
def PySem.W.Fast.te12225083703118811880:DJ=PySem.W.Fast.tw12225083703118811880:=rfl
def PySem.W.Fast.tw7968444900659871681:=True
def PySem.W.Fast.tw14918245017857943892:=True
def PySem.W.Fast.tw252113630665120662:=True
def PySem.W.Fast.tw7215850915196221094:=True
def PySem.W.Fast.tw13153643202235134283:=True
def PySem.W.Fast.tw6963676556418817342:=True
def PySem.W.Fast.tw12768118182517667048:=True
def PySem.W.Fast.tw10226173905696291432:=True
def PySem.W.Fast.tw13309437024416079486:=True
def PySem.W.Fast.tw2277089883885361177:=True
def PySem.W.Fast.tw10151959959196845617:=True
def PySem.W.Fast.tw1620557726278032544:=True
def PySem.W.Fast.tw7721698231667451197:=True
def PySem.W.Fast.tw7168628450821116534:=True
def PySem.W.Fast.tw17521718439966860001:=True
def PySem.W.Fast.tw18281324648618567051:=True
def PySem.W.Fast.tw17368381071900318994:=True
def PySem.W.Fast.tw12766004440520787703:=True
def PySem.W.Fast.tw10101990007558655496:=True
def PySem.W.Fast.tw5700224118866893481:=True
def PySem.W.Fast.tw13627924370463375378:=True
def PySem.W.Fast.tw10022691215504028347:=True
def PySem.W.Fast.tw16949659896693543582:=True
def PySem.W.Fast.tw8370129403717504817:=True
def PySem.W.Fast.tw70389302139941064:=True
def PySem.W.Fast.tw8206125481957880460:=True
def PySem.W.Fast.tw5287860871487714074:=True
def PySem.W.Fast.tw2850479274201793873:=True
def PySem.W.Fast.tw9002482207137751992:=True
def PySem.W.Fast.tw9960148062094922840:=True
def PySem.W.Fast.tw2443421825925918442:=True
def PySem.W.Fast.tw15019187727108253229:=True
def PySem.W.Fast.tw4937930809182396138:=True
def PySem.W.Fast.tw18081891723895138647:=True
def PySem.W.Fast.tw9257063823532637330:=True
def PySem.W.Fast.tw4724294416225413041:=True
def PySem.W.Fast.tw4867859469449444500:=True
def PySem.W.Fast.tw10648831583452212604:=True
def PySem.W.Fast.tw17631557754860282954:=True
def PySem.W.Fast.tw9645708440233418086:=True
def PySem.W.Fast.tw8800724468351552817:=True
def PySem.W.Fast.tw13935424788207534714:=True
def PySem.W.Fast.tw7312083849050878696:=True
def PySem.W.Fast.tw7510531048263630910:=True
def PySem.W.Fast.tw5101685251307366011:=True
def PySem.W.Fast.tw6172044609853724089:=True
def PySem.W.Fast.tw5823482777038769873:=True
def PySem.W.Fast.tw10131440178785394330:=True
def PySem.W.Fast.tw17366156410682480746:=True
def PySem.W.Fast.tw16900457516364379023:=True
def PySem.W.Fast.tw6572559065027598233:=True
def PySem.W.Fast.tw1222313685123131707:=True
def PySem.W.Fast.tw10286039855477153512:=True
def PySem.W.Fast.tw6366273075973624751:=True
def PySem.W.Fast.tw16520171031106221540:=True
def PySem.W.Fast.tw18254571607311722806:=True
def PySem.W.Fast.tw96194856787272552:=True
def PySem.W.Fast.tw7719511355346912278:=True
def PySem.W.Fast.tw3799661334977130016:=True
def PySem.W.Fast.tw5502740258820619725:=True
def PySem.W.Fast.tw5403458166443676558:=True
def PySem.W.Fast.tw14750527522005310149:=True
def PySem.W.Fast.tw7872005590155234523:=True
def PySem.W.Fast.tw1757282430173505219:=True
def PySem.W.Fast.tw16405334360687805326:=True
def PySem.W.Fast.tw16962454197682180342:=True
def PySem.W.Fast.tw11540716216056500622:=True
def PySem.W.Fast.tw17080646347455965288:=True
def PySem.W.Fast.tw2598511144505144589:=True
def PySem.W.Fast.tw1238227079756829574:=True
def PySem.W.Fast.tw12545239773745086224:=True
def PySem.W.Fast.tw16121101818614103187:=True
def PySem.W.Fast.tw14974669046110013564:=True
def PySem.W.Fast.tw9790097423533832176:=True
def PySem.W.Fast.tw4577571784544838073:=True
def PySem.W.Fast.tw10679713470282167615:=True
def PySem.W.Fast.tw3756032435228872508:=True
def PySem.W.Fast.tw14468061187295789960:=True
def PySem.W.Fast.tw10398528660333549430:=True
def PySem.W.Fast.tw13856509900793920699:=True
set_option tactic.hygienic true
set_option maxRecDepth 100000 in
set_option maxHeartbeats 0 in
theorem PySem.Challenge.cw_idlegraph_k22_whole_papers_hold_holds : PySem.Challenge.rw_idlegraph_k22_whole_papers_hold.Holds := by
 w_on;o_law;k_head;(case hw=>w_witness2)
 k_fill
 refine L2.walk_ofK (l:=PySem.Challenge.rw_idlegraph_k22_whole_papers_hold) (n:=63) (k:=100) (x:="_law_script") (CX:=L2.CX0) (sp:=λK=>WL.spW K K22.pr 100 37) rfl (by decide) rfl ⟨rfl,by decide,by decide⟩ (λw h Y=>PySem.W.kIn_of Y) ?F (λK H a ns hl hO hS=>WL.law_sp hO hS (K22.law_true ns hl)) (λ_ _ _ _ z=>z)
 case F=>
  intro w mg fa h KX G hmg
  refine' K22.all_mk KX G hmg ?Qa ?Qb ?Qc ?Qd ?Qe ?Qf ?Qg ?Qh ?Qi ?Qj ?Qk ?Ql ?Qm ?Qn ?Qo ?Qp ?Qq ?Qr ?Qs ?Qt ?Qu ?Qv ?Qw ?Qx ?Qy ?Qz ?Q0 ?Q1 ?Q2 ?Q3 ?Q4 ?Q5 ?Q6 ?Q7 ?Q8 ?Q9 ?Ra ?Rb ?Rc ?Rd ?Re ?Rf ?Rg ?Rh ?Ri ?Rj ?Rk ?Rl ?Rm ?Rn ?Ro ?Rp ?Rq ?Rr ?Rs ?Rt ?Ru ?Rv ?Rw ?Rx ?Ry ?Rz ?R0
  case Qa|Qb|Qc|Qd|Qe|Qf|Qg|Qh|Qi|Rl|Rm|Rn|Ro|Rp|Rq|Rr|Rs|Rt|Ru|Rv|Rw|Rx|Ry|Rz|R0=>k_is
  case Qj|Qk|Ql|Qm|Qn|Qv|Qw|Qx|Qy|Qz|Q0|Q1|Q2|Q3|Q4|Q5|Q6|Q7|Q8|Q9|Ra|Rb|Rc|Rd|Re|Rf|Rg|Rh|Ri|Rj|Rk=>exact⟨_,_,by k_is,⟨_,_,_,_,_,_,_,_,_,rfl,by k_is,by k_is⟩,by k_is⟩
  case Qo|Qp|Qq|Qr|Qs|Qt|Qu=>exact⟨_,_,⟨by k_is,by k_is,by k_is⟩,⟨_,_,_,_,_,_,_,_,_,rfl,by k_is,by k_is⟩,by k_is⟩
