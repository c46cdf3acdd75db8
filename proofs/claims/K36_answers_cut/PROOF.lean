import PyProof.Rows.All
import Wide.All
import OpenK.AllK
import Wide.FinOn
import Lean
import PyProof.EqAt
import PyProof.EqKinds
import PyProof.TupleCall
import KE.KRevIter
import KE.KDictList
import PyProof.ZipIter
import PyProof.Draws
import PyProof.DictWalks
import PyProof.AttrMiss
import PyProof.FactsAll.zip_1
import KE.KDictOf
import PyProof.Rows.FStr
import PyProof.AutoSeq1
import PyProof.EnumMake
import PyProof.CallType
import PyProof.Rows.CallKwBuiltin
import PyProof.StrBlockH
import KE.KIntText
import KE.IntTextLaws
import OpenK.KTop
import PyProof.Rows.StrIntSpec
import PyProof.StrReplace2
import PyProof.StrCalls6
import PyProof.StrBlockL
import PySem.Challenge.RW_idlegraph_k36_answers_cut
set_option Elab.async false
set_option linter.all false
set_option maxRecDepth 100000
set_option maxHeartbeats 4000000
set_option genSizeOf false
set_option compiler.extract_closed false
def XA:=@PySem.wpAny_bind
def XB:=@PySem.wpAny_pure
def XC:=@PySem.Heap.get?_push_of_some
def XD:=@PySem.Heap.lt_size
def XE:=@Nat.le_refl
def XF:=@PySem.Heap.get?_push_size
def XG:=@Nat.lt_of_lt_of_le
def XH:=@Nat.ne_of_lt
def XI:=@List.length_map
def XJ:=@List.size_toArray
def XL:=@List.map_append
def XM:=@List.getElem?_map
def XN:=@Nat.le_trans
def XO:=@Nat.zero_le
def XQ:=@List.mem_singleton
def XR:=@List.mem_map
def XS:=@List.mem_append
def XT:=@List.mem_append_right
def XU:=@beq_self_eq_true
def XV:=@List.mem_cons_of_mem
def XW:=@Int.le_refl
def XX:=@if_neg
def XY:=@if_pos
def XZ:=@PySem.F.plainAttrs_list
def YA:=@PySem.F.type_list_append
def YB:=@PySem.F.slot_list_append
def YC:=@PySem.Str.length_append
def YD:=@List.take_add_one
def YE:=@List.map_map
def YF:=@List.length_cons
def YG:=@decide_eq_false
def YH:=@Option.some.inj
def YI:=@List.map_cons
def YJ:=@Bool.false_ne_true
def YK:=@List.append_nil
def YL:=@List.append_assoc
def YM:=@List.length_take
def YN:=@List.getElem_mem
def YO:=@Int.emod_nonneg
def ZNB (h:Nat.ble a b=true):a<=b:=Nat.le_of_ble_eq_true h
def ZM {α:Type}{x a:α}{l:List α}:x∈a::l↔x=a\/x∈l:=List.mem_cons
def ZN {α:Type}{x:α}:x∈([]:List α)↔False:=⟨List.not_mem_nil,False.elim⟩
abbrev WY:=PySem.W.Frag
abbrev WW:=PySem.Expr
abbrev WV:=PySem.Stmt
abbrev WU:=PySem.Heap
abbrev WR:=PySem.Shared
abbrev WQ:=PySem.Value
abbrev WP:=PySem.Addr
abbrev WO:=PySem.Program
abbrev WN:=PySem.World
abbrev WM:=PySem.Around
abbrev VZ:=PySem.FuncData
def PX:=@List.length_append
def PY:=@List.getElem?_eq_some_iff
def PZ:=@PySem.W.mg_of
def QB:=@List.mem_of_getElem?
def QC:=@Int.emod_lt_of_pos
def QD:=@List.mem_cons
def QF:=@PyProof.Rows.callWith_type1
def QG:=@PySem.boot_len
def QH:=@PySem.Calls.spliced_cons
def QI:=@PySem.F.slot_zip_next
def QJ:=@Nat.le_add_right
def QK:=@List.take_length
def QL:=@List.getElem?_append_left
def QM:=@List.map_congr_left
def QN:=@PySem.F.slot_list_pop
def QO:=@PySem.F.type_list_pop
def QP:=@List.mem_cons_self
def QQ:=@List.mem_append_left
def QR:=@List.all_eq_true
def QS:=@PySem.W.mg_none_of
def QU:=@PySem.Heap.size_push
def QV:=@PySem.mem_of_lookup
def QW:=@PySem.Calls.callWith_builtin
def QX:=@Option.map_eq_some_iff
def QY:=@List.drop_eq_getElem_cons
def QZ:=@List.length_finRange
def RA:=@Nat.lt_irrefl
def RB:=@PySem.W.kia_one
def RC:=@List.length_eq_zero_iff
def RD:=@Array.length_toList
def RE:=@Bool.and_eq_true
def RF:=@List.getElem?_append_right
def RG:=@PySem.F.slot_tuple_iterator_next
def RH:=@PySem.Calls.spliced_nil
def RI:=@PySem.F.args_zip_next_1
def RJ:=@List.foldl_append
def RK:=@PySem.Calls.evalArgs_plain
def RL:=@Nat.ne_of_gt
def RM:=@Nat.lt_succ_self
def RN:=@PySem.F.entry_zip_next
def RO:=@Nat.add_lt_add_left
def RP:=@Nat.lt_add_of_pos_right
def RQ:=@List.of_mem_zip
def RS:=@List.getElem?_set_self
def RT:=@PySem.Challenge.pw_idlegraph_k36_answers_cut
def RU:=@Array.getElem?_toList
def RV:=@List.getElem?_set_ne
def RW:=@List.length_drop
def RX:=@List.any_eq_true
def RY:=@List.any_cons
def RZ:=@List.getD_eq_getElem?_getD
def SA:=@List.getElem?_range
def SB:=@List.length_reverse
def SD:=@List.nodup_cons
def SE:=@List.getElem?_zip_eq_some
def SF:=@Nat.le_of_lt
def SG:=@Nat.le_of_eq
def SH:=@PySem.W.callWith_K
def SI:=@PySem.F.args_tuple_add_2
def SJ:=@List.find?_eq_none
def SK:=@List.getElem?_eq_getElem
def SL:=@List.nodup_nil
def SM:=@PySem.F.entry_tuple_add
def SN:=@Nat.lt_succ_of_lt
def SO:=@List.reverse_cons
def SQ:=@Option.isSome_map
def SR:=@Bool.eq_false_iff
def SS:=@PySem.F.slot_tuple_add
def SU:=@List.take_of_length_le
def SV:=@PySem.F.plainAttrs_str
def SW:=@Option.map_eq_none_iff
def SX:=@List.drop_length
def SY:=@List.length_replicate
def SZ:=@List.dropLast_eq_take
def TB:=@List.getElem?_eq_none
def TC:=@List.mem_iff_getElem?
def TD:=@PySem.F.slot_dict_pop
def TF:=@PySem.F.slot_dict_get
def TH:=@PyProof.Rows.slot_tuple_getitem
def TJ:=@List.eraseIdxIfInBounds_toArray
def TK:=@List.length_dropLast
def TL:=@List.map_nil
def TM:=@List.length_nil
def TN:=@List.filterMap_cons
def TQ:=@PySem.F.args_tuple_iterator_next_1
def TR:=@List.find?_map
def TU:=@PySem.Calls.Constant_str
def TV:=@List.mem_filterMap
def TW:=@List.filterMap_map
def TX:=@List.getElem?_inj
def TY:=@List.map_dropLast
def TZ:=@List.getLast?_map
def UA:=@PySem.W.cellsFrom_some
def UB:=@List.lookup_cons
def UC:=@Nat.not_lt_of_le
def UD:=@List.cons_append
def UE:=@List.length_set
def UF:=@List.length_zip
theorem VS{α:Sort u}{a:α}:a=a:=rfl
namespace L2
open PySem PySem.Spec PyProof.Rows
abbrev Jb:=Sum Int Str
def Ci:Jb->WQ->Bool
 | .inl k,v=>Value.isInt k v
 | .inr x,v=>Value.isStrOf x v
def ae (w:WN):Jb->Int
 | .inl k=>hashInt k
 | .inr x=>hashStr w x
def Xz:∀{k:Jb} {v:WQ},Ci k v=true->(∃i t,k=Sum.inl i/\v=Value.int i t)\/(∃x t,k=Sum.inr x/\v=Value.str x t)
 | .inl i,v,h=>by
  obtain⟨t,e⟩:=Value.isInt_shape (k:=i) (v:=v) h;exact .inl ⟨i,t,VS,e⟩
 | .inr x,v,h=>by
  obtain⟨t,e⟩:=Value.isStrOf_shape (x:=x) (v:=v) h;exact .inr ⟨x,t,VS,e⟩
def uF (i:Int)(t:Tok):Ci (.inl i) (.int i t)=true:=by simp[Ci,Value.isInt]
def uE (x:Str)(t:Tok):Ci (.inr x) (.str x t)=true:=by simp[Ci,Value.isStrOf]
def gf (a b:Int):decide ((Sum.inl a:Jb)=Sum.inl b)=(a==b):=by
 by_cases e:a=b
 ·subst e;simp
 ·have h:¬(Sum.inl a:Jb)=Sum.inl b:=λq=>e (Sum.inl.inj q);rw[YG h];exact(beq_eq_false_iff_ne.mpr e).symm
def hZ (a b:Str):decide ((Sum.inr a:Jb)=Sum.inr b)=decide (a=b):=by
 by_cases e:a=b
 ·subst e;simp
 ·have h:¬(Sum.inr a:Jb)=Sum.inr b:=λq=>e (Sum.inr.inj q);rw[YG h,YG e]
def gd (a:Int)(b:Str):decide ((Sum.inl a:Jb)=Sum.inr b)=false:=YG (λq=>nomatch q)
def gc (a:Str)(b:Int):decide ((Sum.inr a:Jb)=Sum.inl b)=false:=YG (λq=>nomatch q)
def Jq (prog:WO)(w:WN):PySem.KeyKind prog w Jb where
 is:=Ci
 hash:=ae w
 inj:=λv a b ha hb=>by
  rcases Xz ha with⟨i,t,rfl,rfl⟩ | ⟨x,t,rfl,rfl⟩
  ·rcases Xz hb with⟨j,u,rfl,e⟩ | ⟨y,u,rfl,e⟩
   ·injection e with e1 _;rw[e1]
   ·exact nomatch e
  ·rcases Xz hb with⟨j,u,rfl,e⟩ | ⟨y,u,rfl,e⟩
   ·exact nomatch e
   ·injection e with e1 _;rw[e1]
 byValue:=λk v h=>by
  rcases Xz h with⟨i,t,rfl,rfl⟩ | ⟨x,t,rfl,rfl⟩<;>rfl
 pyHash:=λhv h=>by
  rcases Xz hv with⟨i,t,rfl,rfl⟩ | ⟨x,t,rfl,rfl⟩
  ·exact wpAny_pyHash_int h
  ·exact wpAny_pyHash_str h
 eqBool:=λhu hv h=>by
  rcases Xz hu with⟨i,t,rfl,rfl⟩ | ⟨x,t,rfl,rfl⟩
  ·rcases Xz hv with⟨j,u,rfl,rfl⟩ | ⟨y,u,rfl,rfl⟩
   ·rw[gf] at h;exact wpAny_eqBool_int h
   ·rw[gd] at h;exact SeqAt.EqAt.int_str i t y u _ _ _ _ h
  ·rcases Xz hv with⟨j,u,rfl,rfl⟩ | ⟨y,u,rfl,rfl⟩
   ·rw[gc] at h;exact SeqAt.EqAt.str_int x t j u _ _ _ _ h
   ·rw[hZ] at h;exact wpAny_eqBool_str h
 «strs»:=λk x t v h=>by
  rcases Xz h with⟨i,u,rfl,e⟩ | ⟨y,u,rfl,e⟩
  ·exact nomatch e
  ·injection e with e1 _
   subst e1
   cases v<;>rfl
def yK (prog:WO)(w:WN)(i:Int)(t:Tok):(Jq prog w).is (.inl i) (.int i t)=true:=uF i t
def yJ (prog:WO)(w:WN)(x:Str)(t:Tok):(Jq prog w).is (.inr x) (.str x t)=true:=uE x t
inductive V where
 | non | bl (b:Bool) | int (i:Int) | str (x:Str) | byt (b:Array UInt8) | flt (b:UInt64) | ref (a:WP) | ty (n:String)
 deriving DecidableEq
def Yh:V->WQ->Prop
 | .non,u=>u=Value.none
 | .bl b,u=>u=Value.bool b
 | .int i,u=>∃t,u=Value.int i t
 | .str x,u=>∃t,u=Value.str x t
 | .byt b,u=>∃t,u=Value.bytes b t
 | .flt b,u=>∃t,u=Value.float b t
 | .ref a,u=>u=Value.ref a
 | .ty n,u=>u=Value.type n
abbrev Yd:List V->List WQ->Prop:=Paired Yh
def Yd.length (r:Yd xs us):xs.length=us.length:=Paired.length r
def Yd.get:∀{xs:List V} {us:List WQ} {i:Nat} {x:V},Yd xs us->xs[i]?=some x->∃u,us[i]?=some u/\Yh x u
 | _,_,_,_,.nil,e=>by simp at e
 | _,_,0,_,.cons r _,e=>by simp at e;subst e;exact⟨_,VS,r⟩
 | _,_,i+1,x,.cons _ t,e=>by
  obtain⟨u,h1,h2⟩:=Yd.get (i:=i) (x:=x) t (by simpa using e);exact⟨u,by simpa using h1,h2⟩
def Yd.append:∀{xs ys:List V} {us ws:List WQ},Yd xs us->Yd ys ws->Yd (xs++ys) (us++ws)
 | _,_,_,_,.nil,s=>s
 | _,_,_,_,.cons r t,s=>.cons r (Yd.append t s)
def Yd.take:∀{xs:List V} {us:List WQ} (n:Nat),Yd xs us->Yd (xs.take n) (us.take n)
 | _,_,0,_=>.nil
 | _,_,_+1,.nil=>.nil
 | _,_,n+1,.cons r t=>.cons r (Yd.take n t)
def Yd.drop:∀{xs:List V} {us:List WQ} (n:Nat),Yd xs us->Yd (xs.drop n) (us.drop n)
 | _,_,0,r=>r
 | _,_,_+1,.nil=>.nil
 | _,_,n+1,.cons _ t=>Yd.drop n t
def Qj:Option V->Option WQ->Prop
 | some v,some u=>Yh v u
 | none,none=>True
 | _,_=>False
def KV {κ:Type}:List (κ×V)->List (κ×WQ)->Prop:=Paired λ(p:κ×V) (q:κ×WQ)=>p.1=q.1/\Yh p.2 q.2
def kV:Jb->V
 | .inl i=>.int i
 | .inr x=>.str x
inductive HO where
  | lst (xs:List V)
  | tup (xs:List V)
  | dK (kvs:List (Jb×V)) | dT (kvs:List (List Jb×V))
  | set (S:Int->Bool) (n:Nat)
  | ins (C dx:WP) (fs:List (Str×V))
  | own (x:WP)
  | xd (fs:List (Str×V))
  | met (f x:WP)
  | rng (lo hi:Int)
  | frz (o:Obj) (u:HO)
  | tbl (ps:Array WQ)
  | ext (φ:WU->Prop)
abbrev Hp:=WP->Option HO
def J7 (H:Hp)(a:WP)(o:HO):Hp:=λb=>if b=a then some o else H b
def Yy:J7 H a o a=some o:=by unfold J7;rw[XY rfl]
def Yi {a b:WP}(h:b≠a):J7 H a o b=H b:=by unfold J7;rw[XX h]
def dU {H:Hp}(h:H a=some o)(h':H b=some u)(d:o≠u):a≠b:=by
 intro e;subst e;rw[h] at h';exact d (YH h')
def Wa {H:Hp}(h:H a=some o)(h':H b=none):a≠b:=by
 intro e;subst e;rw[h] at h';cases h'
section
variable (P:WO)(w:WN)
def X1 (H:Hp)(h:WU)(a:WP):HO->Prop
 | .lst xs=>xs.length<=sizeLine/\∃(its:List WQ) (n:Nat),Yd xs its/\h.get? a=some {cls:=.type "list",data:=.seq its.toArray n}
 | .tup xs=>xs.length<=sizeLine/\∃its:List WQ,Yd xs its/\IsTup h a its.toArray
 | .dK kvs=>kvs.length<=sizeLine/\(a==sysModules)=false/\∃vs,KV kvs vs/\h.DictOf (Jq P w) a vs
 | .dT kvs=>kvs.length<=sizeLine/\(a==sysModules)=false/\∃xs:List (List Jb×WP×WQ),
   Paired (λ(p:List Jb×V) (q:List Jb×WP×WQ)=>p.1=q.1/\H q.2.1=some (.tup (p.1.map kV))/\Yh p.2 q.2.2) kvs xs/\
   ∃o es ep,h.get? a=some o/\o.ExactDict/\o.data=.dict es ep/\es.toList=xs.map (entryOfKey (tupleKind (Jq P w)))/\(xs.map (·.1)).Nodup
 | .set S n=>h.SetOf (intKind P w) a S n
 | .ins C dx fs=>H dx=some (.own a)/\fs.length<=1000/\dx≠a/\h.get? a=some (W.instObj C dx)/\
   ∃mA,h.Ns1 dx mA/\(∀f,Qj (fs.lookup f) (mA f))/\PySem.Within mA (fs.map (·.1))
 | .own _=>∃o,h.get? a=some o
 | .xd fs=>∃mA,h.Ns1 a mA/\∀f,Qj (fs.lookup f) (mA f)
 | .rng lo hi=>∃t u v,h.get? a=some {cls:=.type "range",data:=.fields #[.int lo t,.int hi u,.int 1 v]}
 | .frz o u=>h.get? a=some o/\X1 H h a u
 | .tbl ps=>h.get? a=some {cls:=.none,data:=.fields ps}
 | .met f x=>h.get? a=some (W.methodObj (.ref f) (.ref x))
 | .ext φ=>φ h/\(∃o,h.get? a=some o)/\∀h1 h2:WU,φ h1->(∀o,h1.get? a=some o->h2.get? a=some o)->φ h2
def Ro (H:Hp)(h:WU):Prop:=∀a o,H a=some o->X1 P w H h a o
end
section
variable {P:WO}{w:WN}{H H':Hp}{h h':WU}{a:WP}{o:HO}
def X1.lt (x:X1 P w H h a o):a<h.objs.size:=by
 cases o with
 | lst xs=>obtain⟨_,_,_,_,e⟩:=x;exact XD e
 | tup xs=>obtain⟨_,_,_,p⟩:=x;exact p.lt
 | dK kvs=>obtain⟨_,_,_,_,o,_,_,e,_⟩:=x;exact XD e
 | dT kvs=>obtain⟨_,_,_,_,o,_,_,e,_⟩:=x;exact XD e
 | set S n=>obtain⟨o,_,_,_,e,_⟩:=x;exact XD e
 | ins C dx fs=>obtain⟨_,_,_,e,_⟩:=x;exact XD e
 | own y=>obtain⟨_,e⟩:=x;exact XD e
 | xd fs=>obtain⟨_,⟨_,_,_,e,_⟩,_⟩:=x;exact XD e
 | rng lo hi=>obtain⟨_,_,_,e⟩:=x;exact XD e
 | frz ob u=>obtain⟨e,_⟩:=x;exact XD e
 | tbl ps=>exact XD (show h.get? a=some _ from x)
 | met f y=>exact XD (show h.get? a=some _ from x)
 | ext φ=>obtain⟨_,⟨_,e⟩,_⟩:=x;exact XD e
def Paired.mapP {α β:Type}{F G:α->β->Prop}:∀{l₁:List α} {l₂:List β},Paired F l₁ l₂->(∀a b,F a b->G a b)->Paired G l₁ l₂
 | _,_,.nil,_=>.nil
 | _,_,.cons r t,f=>.cons (f _ _ r) (Paired.mapP t f)
def X1.stay (x:X1 P w H h a o)(k:∀b u,(b=a\/H b=some (.own a))->h.get? b=some u->h'.get? b=some u)
  (ho:∀b,H b=some (.own a)->H' b=some (.own a)) (ht:∀b xs,H b=some (.tup xs)->H' b=some (.tup xs)):X1 P w H' h' a o:=by
 induction o with
 | lst xs=>obtain⟨z,its,n,r,e⟩:=x;exact⟨z,its,n,r,k _ _ (.inl VS) e⟩
 | tup xs=>obtain⟨z,its,r,ob,e,c⟩:=x;exact⟨z,its,r,ob,k _ _ (.inl VS) e,c⟩
 | dK kvs=>obtain⟨z,y,vs,r,ob,es,ep,e,c⟩:=x;exact⟨z,y,vs,r,ob,es,ep,k _ _ (.inl VS) e,c⟩
 | dT kvs=>
  obtain⟨z,y,xs,r,ob,es,ep,e,c⟩:=x;exact⟨z,y,xs,Paired.mapP r λp q z=>⟨z.1,ht _ _ z.2.1,z.2.2⟩,ob,es,ep,k _ _ (.inl VS) e,c⟩
 | set S n=>obtain⟨ob,es,ep,t,e,c⟩:=x;exact⟨ob,es,ep,t,k _ _ (.inl VS) e,c⟩
 | ins C dx fs=>
  obtain⟨d,z,ne,e,mA,⟨od,es,ep,e2,c⟩,r⟩:=x;exact⟨ho _ d,z,ne,k _ _ (.inl VS) e,mA,⟨od,es,ep,k _ _ (.inr d) e2,c⟩,r⟩
 | own y=>obtain⟨ob,e⟩:=x;exact⟨ob,k _ _ (.inl VS) e⟩
 | xd fs=>obtain⟨mA,⟨od,es,ep,e,c⟩,r⟩:=x;exact⟨mA,⟨od,es,ep,k _ _ (.inl VS) e,c⟩,r⟩
 | rng lo hi=>obtain⟨t,u,v,e⟩:=x;exact⟨t,u,v,k _ _ (.inl VS) e⟩
 | frz ob u ih=>obtain⟨e,q⟩:=x;exact⟨k _ _ (.inl VS) e,ih q⟩
 | tbl ps=>
  have e:h.get? a=some {cls:=.none,data:=.fields ps}:=x;show h'.get? a=some {cls:=.none,data:=.fields ps};exact k a _ (.inl VS) e
 | met f y=>
  have e:h.get? a=some (W.methodObj (.ref f) (.ref y)):=x;show h'.get? a=some (W.methodObj (.ref f) (.ref y));exact k a _ (.inl VS) e
 | ext φ=>obtain⟨p,⟨o,e⟩,st⟩:=x;exact⟨st _ _ p λo q=>k _ _ (.inl VS) q,⟨o,k _ _ (.inl VS) e⟩,st⟩
def Ro.lt (x:Ro P w H h)(e:H a=some o):a<h.objs.size:=(x a o e).lt
def Ro.fresh (x:Ro P w H h)(e:h.objs.size<=a):H a=none:=by
 cases q:H a with
 | none=>rfl
 | some u=>exact absurd (XG (x.lt q) e) (RA _)
def Ro.kept (x:Ro P w H h)(k:∀b u,h.get? b=some u->h'.get? b=some u):Ro P w H h':=λa o e=>
 (x a o e).stay (λb u _ q=>k b u q) (λ_ q=>q) λ_ _ q=>q
def Ro.laid (x:Ro P w H h)(k:∀b u,h.get? b=some u->h'.get? b=some u)(hp:h.objs.size<=a)(new:X1 P w (J7 H a o) h' a o):Ro P w (J7 H a o) h':=λb u e=>by
 have hn:=x.fresh hp;by_cases hb:b=a
 ·subst hb;rw[Yy] at e;cases e;exact new
 ·rw[Yi hb] at e;exact(x b u e).stay (λc v _ q=>k c v q) (λc q=>by rw[Yi (Wa q hn)];exact q) λc xs q=>by rw[Yi (Wa q hn)];exact q
end
def Rd (H:Hp)(a:WP)(u:HO):Prop:=H a=some u\/∃o,H a=some (.frz o u)
def Rd.ok (r:Rd H a u)(x:Ro P w H h):X1 P w H h a u:=by
 rcases r with r | ⟨o,r⟩
 ·exact x a u r
 ·obtain⟨_,q⟩:=x a _ r;exact q
def cV:Option HO->Prop
 | some (.lst _)=>True
 | some (.dK _)=>True
 | some (.dT _)=>True
 | some (.set _ _)=>True
 | some (.ins _ _ _)=>True
 | some (.ext _)=>True
 | _=>False
section
variable {P:WO}{w:WN}{H:Hp}{h h':WU}{x e:WP}{o':HO}
def Ro.write (ok:Ro P w H h)(mu:cV (H x))(he:e=x\/H e=some (.own x))(k:∀b u,b≠e->h.get? b=some u->h'.get? b=some u)(heo:∃u,h'.get? e=some u)
  (new:X1 P w (J7 H x o') h' x o'):Ro P w (J7 H x o') h':=λb u q=>by
 have nown:∀c y,H c=some (.own y)->c≠x:=λc y r z=>by subst z;rw[r] at mu;exact mu
 have ntup:∀c xs,H c=some (.tup xs)->c≠x:=λc xs r z=>by subst z;rw[r] at mu;exact mu
 by_cases hb:b=x
 ·subst hb;rw[Yy] at q;cases q;exact new
 ·rw[Yi hb] at q;by_cases hbe:b=e
  ·have q':H b=some (.own x):=by
    rcases he with z | z
    ·exact absurd (hbe.trans z) hb
    ·rw[hbe];exact z
   rw[q] at q';cases q';obtain⟨v,hv⟩:=heo;exact⟨v,by rw[hbe];exact hv⟩
  ·refine(ok b u q).stay (λc v hc r=>k c v ?_ r) (λc r=>by rw[Yi (nown c b r)];exact r) λc xs r=>by rw[Yi (ntup c xs r)];exact r
   rcases hc with rfl | hc
   ·exact hbe
   ·rintro rfl
    rcases he with z | z
    ·exact nown c b hc z
    ·rw[hc] at z;cases z;exact hb VS
end
structure Un (fs ex:List Addr)(H H':Hp)(h h':Heap):Prop where
 keep:∀b o,h.get? b=some o->H b=none->b∉fs->b∉ex->h'.get? b=some o
 slot:∀b o,h.get? b=some o->H b=none->b∈fs->b∉ex->∃sl,h'.get? b=some {o with slots:=sl}
 free:∀b o,h.get? b=some o->H b=none->b∉ex->H' b=none
 there:∀b o,h.get? b=some o->b∉ex->∃o',h'.get? b=some o'
 tups:∀b xs,H b=some (.tup xs)->H' b=some (.tup xs)
 frzs:∀b o u,H b=some (.frz o u)->H' b=some (.frz o u)
 tbls:∀b ps,H b=some (.tbl ps)->∃more,H' b=some (.tbl (ps++more))
section
variable {fs fs' ex ex':List WP}{H H1 H2:Hp}{h h1 h2 h':WU}{a x e:WP}{o:HO}
def Un.any (u:Un fs ex H H1 h h1){b:WP}(q:h.get? b=some ob)(n:H b=none)(hx:b∉ex):∃sl,h1.get? b=some {ob with slots:=sl}:=by
 by_cases hb:b∈fs
 ·exact u.slot b ob q n hb hx
 ·exact⟨ob.slots,u.keep b ob q n hb hx⟩
def Un.kept (k:∀b u,h.get? b=some u->h'.get? b=some u):Un fs ex H H h h':=
 ⟨λb ob q _ _ _=>k b ob q,λb ob q _ _ _=>⟨ob.slots,k b ob q⟩,λ_ _ _ n _=>n,λb ob q _=>⟨ob,k b ob q⟩,λ_ _ q=>q,λ_ _ _ q=>q,λ_ ps q=>⟨#[],by rw[q];simp⟩⟩
def Un.refl:Un fs ex H H h h:=Un.kept λ_ _ q=>q
def Un.laid (k:∀b u,h.get? b=some u->h'.get? b=some u)(hp:h.objs.size<=a)(hn:H a=none):Un fs ex H (J7 H a o) h h' where
 keep:=λb u q _ _ _=>k b u q
 slot:=λb u q _ _ _=>⟨u.slots,k b u q⟩
 free:=λb u q n _=>by rw[Yi (XH (XG (XD q) hp))];exact n
 there:=λb u q _=>⟨u,k b u q⟩
 tups:=λb xs q=>by rw[Yi (Wa q hn)];exact q
 frzs:=λb u xs q=>by rw[Yi (Wa q hn)];exact q
 tbls:=λb ps q=>⟨#[],by rw[Yi (Wa q hn),q];simp⟩
def Un.write (mu:cV (H x))(he:e=x\/H e=some (.own x))(k:∀b u,b≠e->h.get? b=some u->h'.get? b=some u)(heo:∃u,h'.get? e=some u):Un fs ex H (J7 H x o) h h':=by
 have hx:∀b,H b=none->b≠x:=λb n z=>by subst z;rw[n] at mu;exact mu
 have hb:∀b,H b=none->b≠e:=λb n z=>by
  subst z
  rcases he with r | r
  ·exact hx b n r
  ·rw[n] at r;cases r
 have hm:∀b u,H b=some u->¬cV (some u)->b≠x:=λb u q nm z=>by subst z;rw[q] at mu;exact nm mu
 refine⟨λb u q n _ _=>k b u (hb b n) q,λb u q n _ _=>⟨u.slots,k b u (hb b n) q⟩,λb u q n _=>by rw[Yi (hx b n)];exact n,λb u q _=>?_,
  λb xs q=>by rw[Yi (hm b _ q λz=>z)];exact q,λb u xs q=>by rw[Yi (hm b _ q λz=>z)];exact q,λb ps q=>⟨#[],by rw[Yi (hm b _ q λz=>z),q];simp⟩⟩
 by_cases hbe:b=e
 ·subst hbe;exact heo
 ·exact⟨u,k b u hbe q⟩
end
def bc (h:WU)(H:Hp):List WP:=(List.range h.objs.size).filter λa=>(H a).isSome
def za (h:WU)(H:Hp):WU:=W.hideAll h (bc h H)
def uK (h:WU)(H:Hp):(za h H).objs.size=h.objs.size:=W.hideAll_size _ _
def qR {h:WU}{H:Hp}{b:WP}(e:h.get? b=some o)(n:H b=none):(za h H).get? b=some o:=
 W.hideAll_get _ e λhm=>by
  have q:(H b).isSome=true:=(List.mem_filter.mp hm).2;rw[n] at q;simp at q
def mi {b:WP}(e:(za h H).get? b=some o):h.get? b=some o/\H b=none:=by
 have e':h.get? b=some o:=W.of_hideAll (bc h H) e;refine⟨e',?_⟩
 cases q:H b with
 | none=>rfl
 | some x=>
  have hm:b∈bc h H:=List.mem_filter.mpr ⟨List.mem_range.mpr (Heap.lt_size e'),by simp[q]⟩;have z:(za h H).get? b=none:=W.hideAll_none (bc h H) hm;rw[z] at e;cases e
def ly (g h:WU)(L:WP):List (WP×Obj):=(List.range h.objs.size).filterMap λa=>if a=L\/(g.get? a).isSome=true then none else(h.get? a).map λo=>(a,o)
def Jk (g h:WU)(L d:WP):List (WP×Obj):=(ly g h L).filter λp=>decide (p.1≠d)
structure Mod (K:W.Frag)(mg:Str->Option Value)(base:Heap):Prop where
 kin:K.In base
 glob:base.Ns mainGlobals mg
 blt:∃mb,base.Ns builtinsNs mb/\∀x:Str,x≠"__name__"->mb x=bootBuiltins x
 nolimit:base.NoLimit
structure Cx where
 prog:WO
 w:WN
 K:WY
 mg:Str->Option WQ
 base:WU
 A:WM
 N:List Str
 s₀:WR
 H₀:Hp
 env:Env
 outer:List Env
 stack:List Env
 ex:List WP
 fn:Str->Bool
 calm:Bool
 pn:List (WP×Obj)
 xe:WQ->WR->Prop
def uN (l:List Env):List WP:=l.filterMap (·.frame)
abbrev Cx.fs (X:Cx):List WP:=uN X.outer
def bi (sc:Scope)(x:Str):Prop:=sc.names.lookup x=some .local\/sc.names.lookup x=some .cell\/sc.names.lookup x=some .free
def oo (sc:Scope)(x:Str):Prop:=sc.names.lookup x=some .local\/sc.names.lookup x=some .cell
def aS (env:Env)(h:WU)(m:Str->Option WQ)(x:Str)(u:WQ):Prop:=
 (env.kindOf x=some .local/\m x=some u)\/((env.kindOf x=some .cell\/env.kindOf x=some .free)/\∃c,env.cells.lookup x=some c/\h.IsCell c (some u))
structure Cx.Ok (X:Cx):Prop where
 mod:Mod X.K X.mg X.base
 kind:X.env.scope.kind=.function
 glob:X.env.globals=mainGlobals
 blt:X.env.builtins=builtinsNs
 above:X.s₀.heap.objs.size<=X.env.locals
 inj:∀x y c,X.env.cells.lookup x=some c->X.env.cells.lookup y=some c->x=y
 has:∀x,(X.env.kindOf x=some .cell\/X.env.kindOf x=some .free)->∃c,X.env.cells.lookup x=some c
 cab:∀x c,X.fn x=true->X.env.cells.lookup x=some c->X.s₀.heap.objs.size<=c
 hd:X.calm=true->X.A.handled=none
 frames:X.A.frames=some X.stack
 stk:X.stack=X.outer\/(X.stack=X.env::X.outer/\X.env.frame=some X.env.locals)
 exf:∀b∈X.ex,b≠X.env.locals/\∀x c,X.env.cells.lookup x=some c->c≠b
 bs:∀b o,X.base.get? b=some o->X.s₀.heap.get? b=some o/\X.H₀ b=none
 bsz:X.base.objs.size<=X.s₀.heap.objs.size
 noex:∀b o,X.base.get? b=some o->b∉X.ex
 exfs:∀b∈X.ex,b∉X.fs
 funs:X.s₀.heap.FunFrames X.base X.outer
 frf:∀b∈X.fs,X.H₀ b=none
structure Z7 (X:Cx)(WZ:List (Addr×Obj))(σ:List (Option V))(H:Hp)(s:Shared):Prop where
 ok:X.Ok
 os:s.os=X.s₀.os
 bare:AllBare s.gens
 base:Un X.fs X.ex X.H₀ H X.s₀.heap s.heap
 loc:∃m,s.heap.Ns X.env.locals m/\∀(i:Nat) (x:Str) (v:V),X.N[i]?=some x->σ[i]?=some (some v)->bi X.env.scope x->∃u,Yh v u/\aS X.env s.heap m x u
 cell:∀x c,X.env.cells.lookup x=some c->∃v,s.heap.IsCell c v
 free:H X.env.locals=none
 freeC:∀x c,X.env.cells.lookup x=some c->H c=none
 pin:∀p∈X.pn++WZ,s.heap.get? p.1=some p.2/\H p.1=none/\p.1≠X.env.locals/\p.1∉X.fs/\∀v,p.2.data≠.cell v
 hok:Ro X.prog X.w H s.heap
 len:σ.length=X.N.length
section
variable {X:Cx}{WZ:List (WP×Obj)}{σ:List (Option V)}{H H':Hp}{s:WR}{h':WU}
def Cx.Ok.nofr (ok:X.Ok){b:WP}(e:X.base.get? b=some o):b∉X.fs:=λhb=>by
 have:=(ok.funs.mem hb).1;rw[e] at this;cases this
def Z7.bs (I:Z7 X WZ σ H s):∀b o,X.base.get? b=some o->s.heap.get? b=some o/\H b=none:=λb o e=>
 ⟨I.base.keep b o (I.ok.bs b o e).1 (I.ok.bs b o e).2 (I.ok.nofr e) (I.ok.noex b o e),I.base.free b o (I.ok.bs b o e).1 (I.ok.bs b o e).2 (I.ok.noex b o e)⟩
def Z7.bk (I:Z7 X WZ σ H s):∀b o,X.base.get? b=some o->s.heap.get? b=some o:=λb o e=>(I.bs b o e).1
def Z7.mod (I:Z7 X WZ σ H s):Mod X.K X.mg X.base:=I.ok.mod
def Z7.kIn (I:Z7 X WZ σ H s):X.K.In s.heap:=I.ok.mod.kin.keeps I.bk
def Z7.lt (I:Z7 X WZ σ H s):X.env.locals<s.heap.objs.size:=let ⟨_,hn,_⟩:=I.loc;hn.lt
def Z7.sz (I:Z7 X WZ σ H s):X.s₀.heap.objs.size<=s.heap.objs.size:=XN I.ok.above (SF I.lt)
def Z7.nofs (I:Z7 X WZ σ H s){a:WP}(h:s.heap.objs.size<=a):a∉X.fs:=λhb=>by
 obtain⟨_,o,ho,_⟩:=I.ok.funs.mem hb;exact absurd (XG (XD ho) (XN I.sz h)) (RA _)
def Z7.cne (I:Z7 X WZ σ H s):∀x c,X.env.cells.lookup x=some c->c≠X.env.locals:=λx c e z=>by
 obtain⟨v,o,ho,hd⟩:=I.cell x c e;obtain⟨m,⟨o',es,ep,ho',hd',_⟩,_⟩:=I.loc;rw[z,ho'] at ho;cases ho;rw[hd'] at hd;cases hd
def Z7.funs (I:Z7 X WZ σ H s):s.heap.FunFrames X.base X.outer:=by
 have all:∀(l:List Env),(∀b∈uN l,b∈X.fs)->X.s₀.heap.FunFrames X.base l->s.heap.FunFrames X.base l:=by
  intro l
  induction l with
  | nil=>intro _ _;trivial
  | cons env r ih=>
   intro hs hl;obtain⟨hk,⟨L,o,hf,hn,ho,hd⟩,hr⟩:=hl;have hL:L∈X.fs:=hs L (by unfold uN;rw[TN,hf];exact QP);obtain⟨sl,e⟩:=I.base.slot L o ho (I.ok.frf L hL) hL λz=>I.ok.exfs L z hL;exact⟨hk,⟨L,_,hf,hn,e,hd⟩,ih (λb hb=>hs b (by unfold uN;rw[TN,hf];exact XV _ hb)) hr⟩
 exact all X.outer (λ_ hb=>hb) I.ok.funs
def Z7.stack (I:Z7 X WZ σ H s):s.heap.FunFrames X.base X.stack:=by
 rcases I.ok.stk with e | ⟨e,hf⟩
 ·rw[e];exact I.funs
 ·rw[e];obtain⟨m,hn,_⟩:=I.loc;refine .cons (by rw[I.ok.kind];decide) hf hn ?_ I.funs;exact Heap.get?_none_of_le (XN I.ok.bsz I.ok.above)
def Z7.stkSub (I:Z7 X WZ σ H s):∀b∈uN X.stack,b∈X.env.locals::X.fs:=λb hb=>by
 rcases I.ok.stk with e | ⟨e,hf⟩
 ·rw[e] at hb;exact XV _ hb
 ·rw[e] at hb;unfold uN at hb;rw[TN,hf] at hb;exact hb
def Z7.stkFree (I:Z7 X WZ σ H s):∀b∈uN X.stack,H b=none:=λb hb=>by
 rcases QD.mp (I.stkSub b hb) with e | hb
 ·rw[e];exact I.free
 ·obtain⟨_,o,ho,_⟩:=I.ok.funs.mem hb;exact I.base.free b o ho (I.ok.frf b hb) λz=>I.ok.exfs b z hb
def Z7.step {g':Array GenState}{t':Nat}{d':Drawn}{ch:List WP}(I:Z7 X WZ σ H s)
  (hch:∀b∈ch,(b∈X.ex\/X.s₀.heap.objs.size<=b)/\b≠X.env.locals/\(∀x c,X.env.cells.lookup x=some c->c≠b)/\∀p∈X.pn++WZ,p.1≠b)
  (keep:∀b o,b≠X.env.locals->b∉X.fs->b∉ch->s.heap.get? b=some o->H b=none->h'.get? b=some o)
  (slot:∀b o,b≠X.env.locals->b∈X.fs->b∉ch->s.heap.get? b=some o->H b=none->∃sl,h'.get? b=some {o with slots:=sl}) (free:∀b o,b∉ch->s.heap.get? b=some o->H b=none->H' b=none)
  (there:∀b o,b∉ch->s.heap.get? b=some o->∃o',h'.get? b=some o')
  (tups:∀b xs,H b=some (.tup xs)->H' b=some (.tup xs)) (frzs:∀b o u,H b=some (.frz o u)->H' b=some (.frz o u)) (tbls:∀b ps,H b=some (.tbl ps)->∃more,H' b=some (.tbl (ps++more)))
  (ns:∀m,s.heap.Ns X.env.locals m->h'.Ns X.env.locals m) (hok:Ro X.prog X.w H' h') (hg:AllBare g'):
  Z7 X WZ σ H' {s with heap:=h',gens:=g',drawn:=d',toks:=t'}:=by
 have neL:∀b o,X.s₀.heap.get? b=some o->b≠X.env.locals:=λb o e=>XH (XG (XD e) I.ok.above);have neC:∀b o,X.s₀.heap.get? b=some o->b∉X.ex->b∉ch:=λb o e hx hb=>by
  rcases (hch b hb).1 with z | z
  ·exact hx z
  ·exact absurd (XG (XD e) z) (RA _)
 have cellK:∀x c,X.env.cells.lookup x=some c->∀v,s.heap.IsCell c v->h'.IsCell c v:=λx c e v ⟨o,ho,hd⟩=>by
  have nch:c∉ch:=λz=>(hch c z).2.2.1 x c e VS;by_cases hc:c∈X.fs
  ·obtain⟨sl,q⟩:=slot c o (I.cne x c e) hc nch ho (I.freeC x c e);exact⟨_,q,hd⟩
  ·exact⟨o,keep c o (I.cne x c e) hc nch ho (I.freeC x c e),hd⟩
 refine⟨I.ok,I.os,hg,⟨λb o e n hb hx=>?_,λb o e n hb hx=>?_,λb o e n hx=>?_,λb o e hx=>?_,λb xs e=>tups b xs (I.base.tups b xs e),λb o xs e=>frzs b o xs (I.base.frzs b o xs e),λb ps e=>?_⟩,?_,λx c e=>?_,?_,λx c e=>?_,λp hp=>?_,hok,I.len⟩
 ·exact keep b o (neL b o e) hb (neC b o e hx) (I.base.keep b o e n hb hx) (I.base.free b o e n hx)
 ·obtain⟨sl,e1⟩:=I.base.slot b o e n hb hx;obtain⟨sl',e2⟩:=slot b _ (neL b o e) hb (neC b o e hx) e1 (I.base.free b o e n hx);exact⟨sl',e2⟩
 ·obtain⟨o',e1⟩:=I.base.there b o e hx;exact free b o' (neC b o e hx) e1 (I.base.free b o e n hx)
 ·obtain⟨o',e1⟩:=I.base.there b o e hx;exact there b o' (neC b o e hx) e1
 ·obtain⟨m1,e1⟩:=I.base.tbls b ps e;obtain⟨m2,e2⟩:=tbls b _ e1;exact⟨m1++m2,by rw[e2,Array.append_assoc]⟩
 ·obtain⟨m,hn,hl⟩:=I.loc;refine⟨m,ns m hn,λi x v e1 e2 e3=>?_⟩;obtain⟨u,r,l⟩:=hl i x v e1 e2 e3;refine⟨u,r,?_⟩
  rcases l with l | ⟨k,c,e,z⟩
  ·exact .inl l
  ·exact .inr ⟨k,c,e,cellK x c e _ z⟩
 ·obtain⟨v,z⟩:=I.cell x c e;exact⟨v,cellK x c e v z⟩
 ·obtain⟨m,⟨o,_,_,ho,_⟩,_⟩:=I.loc;exact free _ o (λz=>(hch _ z).2.1 VS) ho I.free
 ·obtain⟨v,o,ho,hd⟩:=I.cell x c e;exact free c o (λz=>(hch c z).2.2.1 x c e VS) ho (I.freeC x c e)
 ·obtain⟨e,n,ne,nf,d⟩:=I.pin p hp;have nch:p.1∉ch:=λz=>(hch p.1 z).2.2.2 p hp VS;exact⟨keep p.1 p.2 ne nf nch e n,free p.1 p.2 nch e n,ne,nf,d⟩
def Z7.un {t':Nat}(I:Z7 X WZ σ H s)(u:Un X.fs [] H H' s.heap h')(hok:Ro X.prog X.w H' h'):Z7 X WZ σ H' {s with heap:=h',toks:=t'}:=by
 obtain⟨m,⟨o,es,ep,ho,r⟩,_⟩:=id I.loc;obtain⟨sl,hL⟩:=u.any ho I.free (by simp);exact I.step (g':=s.gens) (d':=s.drawn) (ch:=[]) (λ_ z=>nomatch z) (λb o _ hb _ e n=>u.keep b o e n hb (by simp)) (λb o _ hb _ e n=>u.slot b o e n hb (by simp)) (λb o _ e n=>u.free b o e n (by simp)) (λb o _ e=>u.there b o e (by simp)) u.tups u.frzs u.tbls (λm' hm=>by
  obtain⟨o',es',ep',ho',r'⟩:=hm;rw[ho] at ho';cases ho';exact⟨_,es',ep',hL,r'⟩) hok I.bare
def Z7.call {t':Nat}{d':Drawn}(I:Z7 X WZ σ H s)(u:Un (uN X.stack) ch H H' s.heap h')(hok:Ro X.prog X.w H' h')(hg:AllBare g')
  (hch:∀b∈ch,(b∈X.ex\/X.s₀.heap.objs.size<=b)/\b≠X.env.locals/\(∀x c,X.env.cells.lookup x=some c->c≠b)/\∀p∈X.pn++WZ,p.1≠b):
  Z7 X WZ σ H' {s with heap:=h',gens:=g',drawn:=d',toks:=t'}:=by
 obtain⟨m,⟨o,es,ep,ho,r⟩,_⟩:=id I.loc;obtain⟨sl,hL⟩:=u.any ho I.free λz=>(hch _ z).2.1 VS;exact I.step (ch:=ch) hch (λb o hL hb hc e n=>u.keep b o e n (λz=>(QD.mp (I.stkSub b z)).elim hL hb) hc) (λb o _ _ hc e n=>u.any e n hc) (λb o hc e n=>u.free b o e n hc) (λb o hc e=>u.there b o e hc) u.tups u.frzs u.tbls (λm' hm=>by
  obtain⟨o',es',ep',ho',r'⟩:=hm;rw[ho] at ho';cases ho';exact⟨_,es',ep',hL,r'⟩) hok hg
def Z7.turned {t':Nat}{it:WP}(I:Z7 X WZ σ H s)(k:∀b o,b≠it->s.heap.get? b=some o->h'.get? b=some o)(hn:H it=none)(hL:it≠X.env.locals)
  (h1:it∈X.ex\/X.s₀.heap.objs.size<=it) (h2:∀x c,X.env.cells.lookup x=some c->c≠it) (h3:∀p∈X.pn++WZ,p.1≠it):Z7 X WZ σ H {s with heap:=h',toks:=t'}:=by
 have nit:∀b u,H b=some u->b≠it:=λb u e z=>by rw[z,hn] at e;cases e
 refine I.step (g':=s.gens) (d':=s.drawn) (ch:=[it]) (λb hb=>?_) (λb o _ _ hc e _=>k b o (λz=>hc (by simp[z])) e) (λb o _ _ hc e _=>⟨o.slots,k b o (λz=>hc (by simp[z])) e⟩) (λ_ _ _ _ n=>n)
  (λb o hc e=>⟨o,k b o (λz=>hc (by simp[z])) e⟩) (λ_ _ e=>e) (λ_ _ _ e=>e) (λb ps e=>⟨#[],by rw[e];simp⟩) (λm hm=>?_) (λb u e=>?_) I.bare
 ·have e:b=it:=by simpa using hb
  subst e;exact⟨h1,hL,h2,h3⟩
 ·obtain⟨o,es,ep,ho,r⟩:=hm;exact⟨o,es,ep,k _ o (Ne.symm hL) ho,r⟩
 ·refine(I.hok b u e).stay (λc v hc q=>k c v ?_ q) (λ_ q=>q) λ_ _ q=>q
  rcases hc with z | z
  ·rw[z];exact nit b u e
  ·exact nit c _ z
def Z7.tok (I:Z7 X WZ σ H s)(t:Nat):Z7 X WZ σ H {s with toks:=t}:=I.un (h':=s.heap) (t':=t) Un.refl I.hok
def Z7.kept {t':Nat}(I:Z7 X WZ σ H s)(k:∀b u,s.heap.get? b=some u->h'.get? b=some u):Z7 X WZ σ H {s with heap:=h',toks:=t'}:=I.un (Un.kept k) (I.hok.kept k)
def Z7.laid {a:WP}{t':Nat}(I:Z7 X WZ σ H s)(k:∀b u,s.heap.get? b=some u->h'.get? b=some u)(hp:s.heap.objs.size<=a)(new:X1 X.prog X.w (J7 H a o) h' a o):
  Z7 X WZ σ (J7 H a o) {s with heap:=h',toks:=t'}:=I.un (Un.laid k hp (I.hok.fresh hp)) (I.hok.laid k hp new)
def Z7.write {x e:WP}{o:HO}{t':Nat}(I:Z7 X WZ σ H s)(mu:cV (H x))(he:e=x\/H e=some (.own x))(k:∀b u,b≠e->s.heap.get? b=some u->h'.get? b=some u)(heo:∃u,h'.get? e=some u)
  (new:X1 X.prog X.w (J7 H x o) h' x o):Z7 X WZ σ (J7 H x o) {s with heap:=h',toks:=t'}:=I.un (Un.write mu he k heo) (I.hok.write mu he k heo new)
def Z7.weak {σ':List (Option V)}(I:Z7 X WZ σ H s)(hl:σ'.length=σ.length)(w:∀(i:Nat) v,σ'[i]?=some (some v)->σ[i]?=some (some v)):Z7 X WZ σ' H s:=
 ⟨I.ok,I.os,I.bare,I.base,let ⟨m,hn,hl'⟩:=I.loc;⟨m,hn,λi x v e1 e2 e3=>hl' i x v e1 (w i v e2) e3⟩,I.cell,I.free,I.freeC,I.pin,I.hok,hl.trans I.len⟩
def Z7.pins_of {pins':List (WP×Obj)}(I:Z7 X WZ σ H s)(h:∀p∈pins',s.heap.get? p.1=some p.2/\H p.1=none/\p.1≠X.env.locals/\p.1∉X.fs/\∀v,p.2.data≠.cell v):Z7 X pins' σ H s:=
 ⟨I.ok,I.os,I.bare,I.base,I.loc,I.cell,I.free,I.freeC,λp hp=>(XS.mp hp).elim (λz=>I.pin p (QQ _ z)) (h p),I.hok,I.len⟩
def yH {N:List Str}(hN:N.Nodup){i j:Nat}(a:N[i]?=some x)(b:N[j]?=some x):i=j:=by
 obtain⟨h1,e1⟩:=PY.mp a;obtain⟨h2,e2⟩:=PY.mp b;exact(List.getElem_inj hN).mp (e1.trans e2.symm)
def Dx {M:Model}{A:WM}{E:WQ->WR->Prop}{i:Nat}{Q:Unit->WR->Prop}(I:Z7 X WZ σ H s)(hN:X.N.Nodup)(hi:X.N[i]?=some x)(hx:oo X.env.scope x)(r:Yh v u)
  (h:∀s',Z7 X WZ (σ.set i (some v)) H s'->(∃a,Heap.SameBut a s.heap s'.heap/\(a=X.env.locals\/X.env.cells.lookup x=some a))->Q () s') (hf:X.fn x=true\/X.env.scope.names.lookup x=some .local:=by first | exact .inl VS | exact .inr VS | assumption):wpAny M A (storeName X.env x u) Q E s:=by
 obtain⟨m,hn,hl⟩:=id I.loc;have hcls:(X.env.scope.kind==.class||(X.env.scope.kind==.module&&X.env.locals !=X.env.globals))=false:=by rw[I.ok.kind];rfl
 have hiσ:i<σ.length:=by rw[I.len];exact(PY.mp hi).1
 have cne:=I.cne;have tracked:∀{a:WP} {h':WU},(∃o,s.heap.get? a=some o/\H a=none)->Heap.SameBut a s.heap h'->Ro X.prog X.w H h':=λ{a h'} ha hs b ob e=>by
  obtain⟨_,_,hfree⟩:=ha;refine(I.hok b ob e).stay (λc w' hc q=>(hs.2 c ?_).trans q) (λ_ q=>q) λ_ _ q=>q;rintro rfl
  rcases hc with rfl | hc
  ·rw[hfree] at e;cases e
  ·rw[hfree] at hc;cases hc
 rcases hx with hk | hk
 ·refine wpAny_storeName_local hk hn (λh' hn' hs=>?_) hcls;obtain⟨oL,_,_,hoL,_⟩:=id hn;refine h _ ⟨I.ok,I.os,I.bare,⟨λb o e n hb hx=>?_,λb o e n hb hx=>?_,I.base.free,λb o e hx=>?_,I.base.tups,I.base.frzs,I.base.tbls⟩,⟨_,hn',λj y v' e1 e2 e3=>?_⟩,λy c e=>?_,I.free,I.freeC,λp hp=>?_,tracked ⟨oL,hoL,I.free⟩ hs,by simpa using I.len⟩ ⟨_,hs,.inl VS⟩
  ·exact(hs.2 b (XH (XG (XD e) I.ok.above))).trans (I.base.keep b o e n hb hx)
  ·obtain⟨sl,e1⟩:=I.base.slot b o e n hb hx;exact⟨sl,(hs.2 b (XH (XG (XD e) I.ok.above))).trans e1⟩
  ·obtain⟨o',e1⟩:=I.base.there b o e hx;exact⟨o',(hs.2 b (XH (XG (XD e) I.ok.above))).trans e1⟩
  ·by_cases hj:j=i
   ·subst hj;rw[hi] at e1;cases e1;rw[RS hiσ] at e2
    cases e2
    exact⟨u,r,.inl ⟨hk,by simp⟩⟩
   ·rw[RV (Ne.symm hj)] at e2;obtain⟨u',r',q⟩:=hl j y v' e1 e2 e3;refine⟨u',r',?_⟩
    rcases q with⟨k,e⟩ | ⟨k,c,e,z⟩
    ·refine .inl ⟨k,?_⟩;have:y≠x:=λe=>hj (yH hN e1 (e▸hi));simp[this,e]
    ·exact .inr ⟨k,c,e,z.sameBut hs (cne y c e)⟩
  ·obtain⟨w',z⟩:=I.cell y c e;exact⟨w',z.sameBut hs (cne y c e)⟩
  ·obtain⟨e,n,ne,nf,d⟩:=I.pin p hp;exact⟨(hs.2 p.1 ne).trans e,n,ne,nf,d⟩
 ·have hfn:X.fn x=true:=by
   rcases hf with z | z
   ·exact z
   ·rw[z] at hk;cases hk
  obtain⟨c,hc⟩:=I.ok.has x (.inl hk);obtain⟨w',z⟩:=I.cell x c hc;refine wpAny_storeName_cell I.ok.kind hk hc z (λh' hc' hs=>?_);obtain⟨oc,hoc,hocd⟩:=id z;refine h {s with heap:=h'} ⟨I.ok,I.os,I.bare,⟨λb o e n hb hx=>?_,λb o e n hb hx=>?_,I.base.free,λb o e hx=>?_,I.base.tups,I.base.frzs,I.base.tbls⟩,⟨m,hn.sameBut hs (Ne.symm (cne x c hc)),λj y v' e1 e2 e3=>?_⟩,λy c' e=>?_,I.free,I.freeC,λp hp=>?_,tracked ⟨oc,hoc,I.freeC x c hc⟩ hs,by simpa using I.len⟩ ⟨c,hs,.inr hc⟩
  ·exact(hs.2 b (XH (XG (XD e) (I.ok.cab x c hfn hc)))).trans (I.base.keep b o e n hb hx)
  ·obtain⟨sl,e1⟩:=I.base.slot b o e n hb hx;exact⟨sl,(hs.2 b (XH (XG (XD e) (I.ok.cab x c hfn hc)))).trans e1⟩
  ·obtain⟨o',e1⟩:=I.base.there b o e hx;exact⟨o',(hs.2 b (XH (XG (XD e) (I.ok.cab x c hfn hc)))).trans e1⟩
  ·by_cases hj:j=i
   ·subst hj;rw[hi] at e1;cases e1;rw[RS hiσ] at e2
    cases e2
    exact⟨u,r,.inr ⟨.inl hk,c,hc,hc'⟩⟩
   ·rw[RV (Ne.symm hj)] at e2;obtain⟨u',r',q⟩:=hl j y v' e1 e2 e3;refine⟨u',r',?_⟩
    rcases q with q | ⟨k,c',e,z'⟩
    ·exact .inl q
    ·refine .inr ⟨k,c',e,z'.sameBut hs ?_⟩;rintro rfl;exact hj (yH hN e1 (I.ok.inj _ _ _ e hc▸hi))
  ·by_cases hcc:c'=c
   ·subst hcc;exact⟨_,hc'⟩
   ·obtain⟨w2,z2⟩:=I.cell y c' e;exact⟨w2,z2.sameBut hs hcc⟩
  ·obtain⟨e,n,ne,nf,d⟩:=I.pin p hp;refine⟨(hs.2 p.1 ?_).trans e,n,ne,nf,d⟩;intro q;rw[q,hoc] at e;have q':oc=p.2:=YH e;exact d w' (by rw[<-q'];exact hocd)
def Mx {M:Model}{A:WM}{E:WQ->WR->Prop}{i:Nat}{Q:Unit->WR->Prop}(I:Z7 X WZ σ H s)(hN:X.N.Nodup)(hi:X.N[i]?=some x)(hx:oo X.env.scope x)(r:Yh v u)
  (h:∀s',Z7 X WZ (σ.set i (some v)) H s'->Q () s') (hf:X.fn x=true\/X.env.scope.names.lookup x=some .local:=by first | exact .inl VS | exact .inr VS | assumption):wpAny M A (storeName X.env x u) Q E s:=
 Dx I hN hi hx r (λs' I' _=>h s' I') hf
def Z7.call' {s':WR}(I:Z7 X WZ σ H s)(ho:s'.os=s.os)(u:Un (uN X.stack) ch H H' s.heap s'.heap)(hok:Ro X.prog X.w H' s'.heap)(hg:AllBare s'.gens)
  (hch:∀b∈ch,(b∈X.ex\/X.s₀.heap.objs.size<=b)/\b≠X.env.locals/\(∀x c,X.env.cells.lookup x=some c->c≠b)/\∀p∈X.pn++WZ,p.1≠b):Z7 X WZ σ H' s':=by
 obtain⟨h',g',d',t',o'⟩:=s';have e:o'=s.os:=ho;subst e;exact I.call (g':=g') (t':=t') (d':=d') u hok hg hch
end
abbrev XK:=WQ->Option WP->Hp->Prop
abbrev St:=List (Option V)
abbrev VK:=V->Hp->Prop
abbrev TE:=St->Hp->VK->Prop
abbrev TT:=St->Hp->(Bool->Hp->Prop)->Prop
abbrev TA:=St->Hp->(List V->Hp->Prop)->Prop
structure K2 where
 nx:St->Hp->Prop
 rt:VK
 bk:St->Hp->Prop:=λ_ _=>False
 ct:St->Hp->Prop:=λ_ _=>False
abbrev TS:=K2->St->Hp->Prop
def EP (X:Cx)(WZ:List (WP×Obj))(σ:St)(Q:VK)(u:WQ)(s':WR):Prop:=∃v H',Z7 X WZ σ H' s'/\Yh v u/\Q v H'
def TP (X:Cx)(WZ:List (WP×Obj))(σ:St)(Q:Bool->Hp->Prop)(b:Bool)(s':WR):Prop:=∃H',Z7 X WZ σ H' s'/\Q b H'
def AP (X:Cx)(WZ:List (WP×Obj))(σ:St)(Q:List V->Hp->Prop)(us:List WQ)(s':WR):Prop:=∃vs H',Z7 X WZ σ H' s'/\Yd vs us/\Q vs H'
def SP (X:Cx)(WZ:List (WP×Obj))(D:K2)(f:Flow)(s':WR):Prop:=
 match f with
 | .next=>∃σ' H',Z7 X WZ σ' H' s'/\D.nx σ' H'
 | .brk=>∃σ' H',Z7 X WZ σ' H' s'/\D.bk σ' H'
 | .cont=>∃σ' H',Z7 X WZ σ' H' s'/\D.ct σ' H'
 | .ret u=>∃v σ' H',Z7 X WZ σ' H' s'/\Yh v u/\D.rt v H'
def PE (X:Cx)(e:WW)(t:TE):Prop:=
 ∀(WZ:List (WP×Obj)) (s:WR) (σ:St) (H:Hp) (Q:VK),Z7 X WZ σ H s->t σ H Q->wpAny (model X.prog X.w) X.A (eval e X.env) (EP X WZ σ Q) X.xe s
def PT (X:Cx)(e:WW)(t:TT):Prop:=
 ∀(WZ:List (WP×Obj)) (s:WR) (σ:St) (H:Hp) (Q:Bool->Hp->Prop),Z7 X WZ σ H s->t σ H Q->wpAny (model X.prog X.w) X.A (isTrue e X.env (eval e X.env)) (TP X WZ σ Q) X.xe s
def PW (X:Cx)(e:WW)(t:TT):Prop:=
 ∀(whole:Sem WQ) (WZ:List (WP×Obj)) (s:WR) (σ:St) (H:Hp) (Q:Bool->Hp->Prop),Z7 X WZ σ H s->t σ H Q->wpAny (model X.prog X.w) X.A (isTrue e X.env whole) (TP X WZ σ Q) X.xe s
def PW.pt (h:PW X e t):PT X e t:=h _
def PA (X:Cx)(es:List WW)(t:TA):Prop:=
 ∀(pos:Pos) (WZ:List (WP×Obj)) (s:WR) (σ:St) (H:Hp) (Q:List V->Hp->Prop),Z7 X WZ σ H s->t σ H Q->wpAny (model X.prog X.w) X.A (spliced (backTo pos (starEach es X.env))) (AP X WZ σ Q) X.xe s
def PS (X:Cx)(st:WV)(t:TS):Prop:=
 ∀(WZ:List (WP×Obj)) (s:WR) (σ:St) (H:Hp) (D:K2),Z7 X WZ σ H s->t D σ H->wpAny (model X.prog X.w) X.A (exec st X.env) (SP X WZ D) X.xe s
def wC (X:Cx)(st:List WV)(t:TS):Prop:=
 ∀(WZ:List (WP×Obj)) (s:WR) (σ:St) (H:Hp) (D:K2),Z7 X WZ σ H s->t D σ H->wpAny (model X.prog X.w) X.A (execs st X.env) (SP X WZ D) X.xe s
def J5 {α:Type}{t:Sem α}{Q Q':α->WR->Prop}{E:WQ->WR->Prop}(h:wpAny M A t Q E s)(hQ:∀a s,Q a s->Q' a s):wpAny M A t Q' E s:=wpAny_mono h hQ λ_ _ x=>x
section
variable {X:Cx}
def fV (i:Nat):TE:=λσ H Q=>∃v,σ[i]?=some (some v)/\Q v H
def tC (v:V):TE:=λ_ H Q=>Q v H
def iA {i:Nat}(hN:X.N[i]?=some x)(hv:bi X.env.scope x)(hd:(x==("__debug__":Str))=false:=by decide)(hcd:(x==("__classdict__":Str))=false:=by decide):PE X (.Name x pos) (fV i):=by
 intro WZ s σ H Q I h;obtain⟨v,e,h⟩:=h;obtain⟨m,hn,hl⟩:=I.loc;obtain⟨u,r,l⟩:=hl i x v hN e hv;have fin:EP X WZ σ Q u s:=⟨v,H,I,r,h⟩
 rcases l with⟨hk,hm⟩ | ⟨hk,c,hc,hcell⟩
 ·exact wpAny_Name (wpAny_loadName_local I.ok.kind hk hn hm fin) hd
 ·rcases hk with hk | hk
  ·exact wpAny_Name (wpAny_loadName_cell I.ok.kind hk hc hcell fin) hd
  ·exact wpAny_Name (wpAny_loadName_free I.ok.kind hk hc hcell fin hcd) hd
def rM {i j pos}:PE X (.Constant (.int i) j pos) (tC (.int i)):=λ_ _ _ H _ I h=>wpAny_Constant_int ⟨.int i,H,I.tok _,⟨_,VS⟩,h⟩
def dG {b j pos}:PE X (.Constant (.bool b) j pos) (tC (.bl b)):=λ_ _ _ H _ I h=>Constant_bool ⟨.bl b,H,I,VS,h⟩
def iD {j pos}:PE X (.Constant .none j pos) (tC .non):=λ_ _ _ H _ I h=>Constant_none ⟨.non,H,I,VS,h⟩
def iC {x j pos}:PE X (.Constant (.str x) j pos) (tC (.str x)):=λ_ _ _ H _ I h=>TU ⟨.str x,H,I.tok _,⟨_,VS⟩,h⟩
def Gl (X:Cx)(x:Str):Prop:=X.env.kindOf x=some .globalImplicit
def Qw {E:WQ->WR->Prop}{pos:Pos}{Q:WQ->WR->Prop}(I:Z7 X WZ σ H s)(hg:Gl X x)(hm:X.mg x=some u)(h:Q u s)
  (hd:(x==("__debug__":Str))=false:=by decide):wpAny (model X.prog X.w) X.A (eval (.Name x pos) X.env) Q E s:=
 Calls.Name_function_global I.ok.kind hg (Calls.loadGlobal_global (by rw[I.ok.glob];exact I.mod.glob.keeps I.bk) hm h) hd
def Rh {E:WQ->WR->Prop}{pos:Pos}{Q:WQ->WR->Prop}(I:Z7 X WZ σ H s)(hg:Gl X x)(hm:X.mg x=none)(hv:bootBuiltins x=some u)(h:Q u s)
  (hn:x≠"__name__":=by decide) (hd:(x==("__debug__":Str))=false:=by decide):wpAny (model X.prog X.w) X.A (eval (.Name x pos) X.env) Q E s:=by
 obtain⟨mb,h1,h2⟩:=I.mod.blt;exact Calls.Name_function_global I.ok.kind hg (Calls.loadGlobal_builtin (by rw[I.ok.glob];exact I.mod.glob.keeps I.bk) hm (by rw[I.ok.blt];exact h1.keeps I.bk) ((h2 x hn).trans hv) h) hd
def nS (hg:Gl X x)(hm:X.mg x=some u)(r:Yh v u)(hd:(x==("__debug__":Str))=false:=by decide):PE X (.Name x pos) (tC v):=
 λ_ _ _ H _ I h=>Qw I hg hm ⟨v,H,I,r,h⟩ hd
def nY (hg:Gl X x)(hm:X.mg x=none)(hv:bootBuiltins x=some u)(r:Yh v u)(hn:x≠"__name__":=by decide)(hd:(x==("__debug__":Str))=false:=by decide):PE X (.Name x pos) (tC v):=
 λ_ _ _ H _ I h=>Rh I hg hm hv ⟨v,H,I,r,h⟩ hn hd
def Za8 (ta tb:TE)(k:Int->Int->Hp->Prop):St->Hp->Prop:=λσ H=>ta σ H λx H1=>tb σ H1 λy H2=>∃i j,x=.int i/\y=.int j/\k i j H2
def Za0 (ta tb:TE):TE:=λσ H Q=>Za8 ta tb (λi j H2=>(-(2^64)<i/\i<2^64)/\Q (.int (i*j)) H2) σ H
variable {a b:WW}{ta tb:TE}{pos:Pos}
def Za1 (ta:TE):TE:=λσ H Q=>ta σ H λx H1=>Q (.bl (decide (x=.non))) H1
def tB (t:TE):TT:=λσ H Q=>t σ H λx H1=>∃c,x=.bl c/\Q c H1
variable {tA tB':TT}{Jk:List WW}
def eO (t u:TT):TT:=λσ H Q=>t σ H λc H1=>if c=true then u σ H1 Q else Q false H1
def aZ (t u:TT):TT:=λσ H Q=>t σ H λc H1=>if c=true then Q true H1 else u σ H1 Q
def eg (t:TT):TT:=λσ H Q=>t σ H λc H1=>Q (!c) H1
def nu (ha:PT X a tA):PW X (.BoolOp .And [a] pos) tA:=by
 intro wh WZ s σ H Q I h;refine isTrue_and (J5 (ha WZ s σ H Q I h) λc s1 e=>?_)
 cases c with
 | true=>exact isTrue_and_nil e
 | false=>exact e
def ip (ha:PT X a tA):PW X (.BoolOp .Or [a] pos) tA:=by
 intro wh WZ s σ H Q I h;refine isTrue_or (J5 (ha WZ s σ H Q I h) λc s1 e=>?_)
 cases c with
 | false=>exact isTrue_or_nil e
 | true=>exact e
def ir (ha:PT X a tA)(hb:PW X (.BoolOp .And (b::Jk) pos) tB'):PW X (.BoolOp .And (a::b::Jk) pos) (eO tA tB'):=by
 intro wh WZ s σ H Q I h;refine isTrue_and (J5 (ha WZ s σ H _ I h) λc s1 ⟨H1,I1,q1⟩=>?_)
 cases c with
 | true=>exact hb wh WZ s1 σ H1 Q I1 q1
 | false=>exact⟨H1,I1,q1⟩
def dy (ha:PT X a tA)(hb:PW X (.BoolOp .Or (b::Jk) pos) tB'):PW X (.BoolOp .Or (a::b::Jk) pos) (aZ tA tB'):=by
 intro wh WZ s σ H Q I h;refine isTrue_or (J5 (ha WZ s σ H _ I h) λc s1 ⟨H1,I1,q1⟩=>?_)
 cases c with
 | true=>exact⟨H1,I1,q1⟩
 | false=>exact hb wh WZ s1 σ H1 Q I1 q1
def iu (ha:PT X a tA):PT X (.UnaryOp .Not a pos) (eg tA):=by
 intro WZ s σ H Q I h;exact isTrue_not (ha WZ s σ H (λc H1=>Q (!c) H1) I h)
def Zae (ta tb:TE):TE:=λσ H Q=>ta σ H λx H1=>∃c,x=.bl c/\if c=true then tb σ H1 Q else Q (.bl false) H1
def Zab (t:TT)(ta tb:TE):TE:=λσ H Q=>t σ H λc H1=>if c=true then ta σ H1 Q else tb σ H1 Q
def rN (hc:PT X c tA)(ha:PE X a ta)(hb:PE X b tb):PE X (.IfExp c a b pos) (Zab tA ta tb):=by
 intro WZ s σ H Q I h;refine wpAny_IfExp (J5 (hc WZ s σ H _ I h) λd s1 ⟨H1,I1,q1⟩=>?_)
 cases d with
 | true=>exact ha WZ s1 σ H1 Q I1 q1
 | false=>exact hb WZ s1 σ H1 Q I1 q1
end
def Ug (K:WY)(H:Hp)(a:WP)(xs:List V):Prop:=
 Rd H a (.lst xs)\/
  ∃(o:Obj) (its:Array WQ) (n:Nat),K.lookup a=some o/\o.cls=.type "list"/\o.dict=none/\o.data=.seq its n/\its.size<=sizeLine/\Yd xs its.toList
def Tg (K:WY)(H:Hp)(a:WP)(xs:List V):Prop:=
 Rd H a (.tup xs)\/
  ∃(o:Obj) (its:Array WQ) (n:Nat),K.lookup a=some o/\o.cls=.type "tuple"/\o.data=.seq its n/\its.size<=sizeLine/\Yd xs its.toList
def aI:WQ->Option V
 | .none=>some .non
 | .bool b=>some (.bl b)
 | .int i _=>some (.int i)
 | .str x _=>some (.str x)
 | .bytes b _=>some (.byt b)
 | .float b _=>some (.flt b)
 | .ref a=>some (.ref a)
 | .type n=>some (.ty n)
 | _=>none
def Yh.abs (r:Yh x u):aI u=some x:=by
 cases x with
 | non=>cases r;rfl
 | bl _=>cases r;rfl
 | int _=>obtain⟨t,rfl⟩:=r;rfl
 | str _=>obtain⟨t,rfl⟩:=r;rfl
 | byt _=>obtain⟨t,rfl⟩:=r;rfl
 | flt _=>obtain⟨t,rfl⟩:=r;rfl
 | ref _=>cases r;rfl
 | ty _=>cases r;rfl
def Yh.inj (r:Yh x u)(q:Yh y u):x=y:=YH (r.abs.symm.trans q.abs)
def Yd.inj:∀{xs ys:List V} {us:List WQ},Yd xs us->Yd ys us->xs=ys
 | _,_,_,.nil,.nil=>rfl
 | _,_,_,.cons r t,.cons r' t'=>by rw[r.inj r',Yd.inj t t']
section
variable {X:Cx}{WZ:List (WP×Obj)}{σ:St}{H:Hp}{s:WR}{a:WP}{xs ys:List V}
def Ug.of {K:WY}(h:H a=some (.lst xs)):Ug K H a xs:=.inl (.inl h)
def Tg.of {K:WY}(h:H a=some (.tup xs)):Tg K H a xs:=.inl (.inl h)
def Z7.list (I:Z7 X WZ σ H s)(h:Ug X.K H a xs):∃its:List WQ,Yd xs its/\PlainL s.heap a its.toArray/\xs.length<=sizeLine:=by
 rcases h with h | ⟨o,its,n,hk,hc,hd,hs,hz,r⟩
 ·obtain⟨z,its,n,r,e⟩:=h.ok I.hok;exact⟨its,r,⟨_,n,e,VS,VS,VS⟩,z⟩
 ·refine⟨its.toList,r,⟨o,n,I.kIn a o hk,hc,hd,by simpa using hs⟩,?_⟩;have e:=r.length;simp only[Array.length_toList] at e;omega
def Z7.tuple (I:Z7 X WZ σ H s)(h:Tg X.K H a xs):∃its:List WQ,Yd xs its/\IsTup s.heap a its.toArray/\xs.length<=sizeLine:=by
 rcases h with h | ⟨o,its,n,hk,hc,hs,hz,r⟩
 ·obtain⟨z,its,r,p⟩:=h.ok I.hok;exact⟨its,r,p,z⟩
 ·refine⟨its.toList,r,⟨o,I.kIn a o hk,hc,n,by simpa using hs⟩,?_⟩;have e:=r.length;simp only[Array.length_toList] at e;omega
def Z7.list_inj (I:Z7 X WZ σ H s)(h:Ug X.K H a xs)(h':Ug X.K H a ys):xs=ys:=by
 obtain⟨its,r,⟨o,n,e,_,_,d⟩,_⟩:=I.list h;obtain⟨its',r',⟨o',n',e',_,_,d'⟩,_⟩:=I.list h';rw[e] at e';cases e';rw[d] at d';injection d' with d1 _
 have:its=its':=by simpa using congrArg Array.toList d1
 subst this;exact r.inj r'
def Z7.tuple_inj (I:Z7 X WZ σ H s)(h:Tg X.K H a xs)(h':Tg X.K H a ys):xs=ys:=by
 obtain⟨its,r,⟨o,e,_,n,d⟩,_⟩:=I.tuple h;obtain⟨its',r',⟨o',e',_,n',d'⟩,_⟩:=I.tuple h';rw[e] at e';cases e';rw[d] at d';injection d' with d1 _
 have:its=its':=by simpa using congrArg Array.toList d1
 subst this;exact r.inj r'
end
abbrev Cx.wish (X:Cx)(E:WQ->WR->Prop):Cx:={X with xe:=E}
abbrev Cx.nox (X:Cx):Cx:=X.wish λ_ _=>False
def Cx.Ok.wish {X:Cx}(ok:X.Ok)(E:WQ->WR->Prop):(X.wish E).Ok:=
 ⟨ok.mod,ok.kind,ok.glob,ok.blt,ok.above,ok.inj,ok.has,ok.cab,ok.hd,ok.frames,ok.stk,ok.exf,ok.bs,ok.bsz,ok.noex,ok.exfs,ok.funs,ok.frf⟩
def Cx.Ok.unwish {X:Cx}{E:WQ->WR->Prop}(ok:(X.wish E).Ok):X.Ok:=
 ⟨ok.mod,ok.kind,ok.glob,ok.blt,ok.above,ok.inj,ok.has,ok.cab,ok.hd,ok.frames,ok.stk,ok.exf,ok.bs,ok.bsz,ok.noex,ok.exfs,ok.funs,ok.frf⟩
section
variable {X:Cx}{WZ:List (WP×Obj)}{σ:St}{H:Hp}{s:WR}{E:WQ->WR->Prop}
def Z7.wish (I:Z7 X WZ σ H s)(E:WQ->WR->Prop):Z7 (X.wish E) WZ σ H s:=⟨I.ok.wish E,I.os,I.bare,I.base,I.loc,I.cell,I.free,I.freeC,I.pin,I.hok,I.len⟩
def Z7.unwish (I:Z7 (X.wish E) WZ σ H s):Z7 X WZ σ H s:=⟨I.ok.unwish,I.os,I.bare,I.base,I.loc,I.cell,I.free,I.freeC,I.pin,I.hok,I.len⟩
def SP.unwish {f:Flow}(h:SP (X.wish E) WZ D f s'):SP X WZ D f s':=by
 cases f with
 | next=>obtain⟨σ',H',I,q⟩:=h;exact⟨σ',H',I.unwish,q⟩
 | brk=>obtain⟨σ',H',I,q⟩:=h;exact⟨σ',H',I.unwish,q⟩
 | cont=>obtain⟨σ',H',I,q⟩:=h;exact⟨σ',H',I.unwish,q⟩
 | ret u=>obtain⟨v,σ',H',I,r,q⟩:=h;exact⟨v,σ',H',I.unwish,r,q⟩
def wC.nox {st:List WV}(h:wC X.nox st t):wC X st t:=λWZ s σ H D I hw=>
 wpAny_mono (h WZ s σ H D (I.wish _) hw) (λ_ _ q=>q.unwish) λ_ _ z=>False.elim z
end
section
variable {X:Cx}{st:WV}{Jk:List WV}{t u:TS}{e:WW}{te:TE}{pos:Pos}
def er:TS:=λD σ H=>D.nx σ H
def kM (t u:TS):TS:=λD σ H=>t {D with nx:=u D} σ H
def nz:wC X [] er:=λ_ _ σ H _ I h=>wpAny_execs_nil ⟨σ,H,I,h⟩
def rq (h1:PS X st t)(h2:wC X Jk u):wC X (st::Jk) (kM t u):=by
 intro WZ s σ H D I h;refine wpAny_execs_cons (J5 (h1 WZ s σ H {D with nx:=u D} I h) λf s1 q=>?_)
 cases f with
 | next=>
  obtain⟨σ',H',I',q⟩:=q;exact h2 WZ s1 σ' H' D I' q
 | ret v=>exact q
 | brk=>exact q
 | cont=>exact q
def ny (h1:PS X st t):wC X [st] t:=by
 intro WZ s σ H D I h;refine wpAny_execs_cons (J5 (h1 WZ s σ H D I h) λf s1 q=>?_)
 cases f with
 | next=>exact wpAny_execs_nil q
 | ret v=>exact q
 | brk=>exact q
 | cont=>exact q
def eL:TS:=λD σ H=>D.ct σ H
def yx:PS X (.Continue pos) eL:=λ_ _ σ H _ I h=>wpAny_Continue ⟨σ,H,I,h⟩
def Z7.quiet (I:Z7 X WZ σ H s):interactive X.env=false:=by simp[interactive,I.ok.kind]
def eG (te:TE):TS:=λD σ H=>te σ H λ_ H1=>D.nx σ H1
def nB (he:PE X e te)(hs:swapsWith e none pos.line X.env=pure false:=by rfl):PS X (.Expr e pos) (eG te):=by
 intro WZ s σ H D I h;exact wpAny_Expr_any (J5 (he WZ s σ H _ I h) λv s1 ⟨x,H1,I1,r1,q1⟩=>⟨σ,H1,I1,q1⟩) I.quiet hs
def fY (te:TE):TS:=λD σ H=>te σ H D.rt
def ix (he:PE X e te):PS X (.Return (some e) pos) (fY te):=by
 intro WZ s σ H D I h;exact wpAny_Return_some (J5 (he WZ s σ H _ I h) λv s1 ⟨x,H1,I1,r1,q1⟩=>⟨x,σ,H1,I1,r1,q1⟩)
def fX:TS:=λD _ H=>D.rt .non H
def nA:PS X (.Return none pos) fX:=λ_ _ σ H _ I h=>wpAny_Return_none ⟨.non,σ,H,I,VS,h⟩
def bB (c:TT)(t u:TS):TS:=λD σ H=>c σ H λb H1=>if b=true then t D σ H1 else u D σ H1
def dz (hc:PT X c tc)(ha:wC X a t)(hb:wC X b u):PS X (.If c a b pos) (bB tc t u):=by
 intro WZ s σ H D I h;refine wpAny_If (J5 (hc WZ s σ H _ I h) λd s1 ⟨H1,I1,q1⟩=>?_)
 cases d with
 | true=>exact ha WZ s1 σ H1 D I1 q1
 | false=>exact hb WZ s1 σ H1 D I1 q1
def b0:TS:=λ_ _ _=>False
end
abbrev TG:=V->St->Hp->(St->Hp->Prop)->Prop
abbrev jI:=List V->St->Hp->(St->Hp->Prop)->Prop
def PG (X:Cx)(target:WW)(t:TG):Prop:=
 ∀(WZ:List (WP×Obj)) (s:WR) (σ:St) (H:Hp) (v:V) (u:WQ) (Q:St->Hp->Prop),Z7 X WZ σ H s->Yh v u->t v σ H Q->
  wpAny (model X.prog X.w) X.A (assign target X.env u) (λ_ s'=>∃σ' H',Z7 X WZ σ' H' s'/\Q σ' H') X.xe s
def cT (X:Cx)(ts:List WW)(t:jI):Prop:=
 ∀(WZ:List (WP×Obj)) (s:WR) (σ:St) (H:Hp) (vs:List V) (us:List WQ) (Q:St->Hp->Prop),Z7 X WZ σ H s->Yd vs us->t vs σ H Q->
  wpAny (model X.prog X.w) X.A (assignInOrder ((assignEach ts X.env).map (·.2)) us) (λ_ s'=>∃σ' H',Z7 X WZ σ' H' s'/\Q σ' H') X.xe s
abbrev lB:=V->V->V->Hp->(Hp->Prop)->Prop
def cR (X:Cx)(t:lB):Prop:=
 ∀(WZ:List (WP×Obj)) (s:WR) (σ:St) (H:Hp) (o i v:V) (ov iv u:WQ) (Q:Hp->Prop),Z7 X WZ σ H s->Yh o ov->Yh i iv->Yh v u->t o i v H Q->
  wpAny (model X.prog X.w) X.A (setItem ov iv u) (λ_ s'=>∃H',Z7 X WZ σ H' s'/\Q H') X.xe s
abbrev aL:=V->V->Hp->VK->Prop
section
variable {X:Cx}{pos:Pos}
def Vm (i:Nat):TG:=λv σ H Q=>Q (σ.set i (some v)) H
def Wh {i:Nat}(hN:X.N.Nodup)(hi:X.N[i]?=some x)(hx:oo X.env.scope x)(hf:X.fn x=true\/X.env.scope.names.lookup x=some .local:=by first | exact .inl VS | exact .inr VS | assumption):PG X (.Name x pos) (Vm i):=by
 intro WZ s σ H v u Q I r h;exact wpAny_assign_Name (Mx I hN hi hx r (λs' I'=>⟨_,H,I',h⟩) hf)
def ji:jI:=λvs σ H Q=>vs=[]/\Q σ H
def Qc (t:TG)(u:jI):jI:=λvs σ H Q=>∃v r,vs=v::r/\t v σ H λσ' H'=>u r σ' H' Q
def Lk:cT X [] ji:=by
 intro WZ s σ H vs us Q I r h;obtain⟨e,h⟩:=h;subst e
 cases r
 exact assignInOrder_nil ⟨σ,H,I,h⟩
def Vr (h1:PG X e t)(h2:cT X es u)
  (hs:(assignEach (e::es) X.env).map (·.2)=assign e X.env::(assignEach es X.env).map (·.2):=by rfl):cT X (e::es) (Qc t u):=by
 intro WZ s σ H vs us Q I r h;obtain⟨v,vr,e1,h⟩:=h;subst e1
 cases r with
 | cons r rr=>
  rw[hs];refine assignInOrder_cons (J5 (h1 WZ s σ H _ _ _ I r h) λ_ s1 ⟨σ1,H1,I1,q1⟩=>?_);exact h2 WZ s1 σ1 H1 _ _ Q I1 rr q1
def jh (K:WY)(n:Nat)(t:jI):TG:=λv σ H Q=>∃a xs,v=.ref a/\Tg K H a xs/\xs.length=n/\t xs σ H Q
def Gm {k:Nat}{n:Nat}(hc:X.calm=true)(h:cT X es t)
  (hn:(assignEach es X.env).length=n:=by rfl) (hst:(assignEach es X.env).findIdx? (·.1)=none:=by rfl):PG X (.Tuple es k pos) (jh X.K n t):=by
 intro WZ s σ H v u Q I r hw;obtain⟨a,xs,e1,hq,hl,hw⟩:=hw;subst e1
 cases r
 obtain⟨its,rv,ht,hz⟩:=I.tuple hq;refine assign_Tuple_tuple (I.ok.hd hc) ht (by simp[hn,<-hl,rv.length]) hst λh' hx=>?_;have I1:Z7 X WZ σ H {s with heap:=h'}:=I.kept (t':=s.toks) λb o e=>hx b o (XH (XD e)) e;exact h WZ _ σ H xs _ Q I1 (by simpa using rv) hw
def ao (to ti:TE)(t:lB):TG:=λv σ H Q=>to σ H λo H1=>ti σ H1 λi H2=>t o i v H2 λH3=>Q σ H3
def i9 (ho:PE X o to)(hi:PE X i ti)(hs:cR X t)
  (ha:∀v,assign (.Subscript o i pos) X.env v=(do
   let ov <-holding [v] (eval o X.env)
   let iv <-holding [v,ov] (eval i X.env)
   standAt pos
   holding [v,ov,iv] (setItem ov iv v)
   release [v,ov,iv] []):=by intro _;rfl):PG X (.Subscript o i pos) (ao to ti t):=by
 intro WZ s σ H v u Q I r h;rw[ha];refine XA (wpAny_holding (J5 (ho WZ s σ H _ I h) λov s1 ⟨x,H1,I1,r1,q1⟩=>?_));refine XA (wpAny_holding (J5 (hi WZ s1 σ H1 _ I1 q1) λiv s2 ⟨y,H2,I2,r2,q2⟩=>?_));refine XA (wpAny_standAt (XA (wpAny_holding (J5 (hs WZ s2 σ H2 x y v ov iv u _ I2 r1 r2 r q2) λ_ s3 ⟨H3,I3,q3⟩=>?_))));exact wpAny_release ⟨σ,H3,I3,q3⟩
def oK (te:TE)(g:TG):TS:=λD σ H=>te σ H λx H1=>g x σ H1 D.nx
def i4 (he:PE X e te)(hg:PG X tg g)(hs:swapsWithSole [tg] e pos.line X.env=pure false:=by rfl)(hw:swappedStores [tg] e X.env=pure none:=by rfl)
  (h1:(assignEach [tg] X.env).map (·.2)=[assign tg X.env]:=by rfl):PS X (.Assign [tg] e pos) (oK te g):=by
 intro WZ s σ H D I h;refine wpAny_Assign_stores (J5 (he WZ s σ H _ I h) λv s1 ⟨x,H1,I1,r1,q1⟩=>?_) hs hw;rw[h1];exact J5 (hg WZ s1 σ H1 x v _ I1 r1 q1) λ_ s2 q=>q
def iw {i:Nat}(hN:X.N.Nodup)(hi:X.N[i]?=some x)(hx:oo X.env.scope x)(he:PE X e te)(hs:swapsWith e (some (.Name x pos')) pos.line X.env=pure false:=by rfl)(hf:X.fn x=true\/X.env.scope.names.lookup x=some .local:=by first | exact .inl VS | exact .inr VS | assumption):
  PS X (.Assign [.Name x pos'] e pos) (oK te (Vm i)):=by
 intro WZ s σ H D I h;refine wpAny_Assign_Name (J5 (he WZ s σ H _ I h) λv s1 ⟨y,H1,I1,r1,q1⟩=>?_) hs;exact Mx I1 hN hi hx r1 (λs2 I2=>⟨_,H1,I2,q1⟩) hf
def Zaz (i j:Nat)(ta:TA):TS:=λD σ H=>ta σ H λvs H1=>∃v w,vs=[v,w]/\D.nx ((σ.set i (some v)).set j (some w)) H1
def Za7 (i:Nat)(te:TE)(ti:aL):TS:=λD σ H=>∃x,σ[i]?=some (some x)/\te σ H λy H1=>ti x y H1 λz H2=>D.nx (σ.set i (some z)) H2
def Zad (to ti te:TE)(tget:V->V->Hp->VK->Prop)(tip:aL)(tset:lB):TS:=λD σ H=>to σ H λo H1=>ti σ H1 λi H2=>tget o i H2 λx H3=>te σ H3 λy H4=>tip x y H4 λz H5=>tset o i z H5 λH6=>D.nx σ H6
def Zbq (X:Cx)(t:V->V->Hp->VK->Prop):Prop:=
 ∀(WZ:List (WP×Obj)) (s:WR) (σ:St) (H:Hp) (o i:V) (ov iv:WQ) (Q:VK),Z7 X WZ σ H s->Yh o ov->Yh i iv->t o i H Q->
  wpAny (model X.prog X.w) X.A (getItem ov iv) (EP X WZ σ Q) X.xe s
def Zb0 (f:Int->Int->Int):aL:=λx y H Q=>∃i j,x=.int i/\y=.int j/\Q (.int (f i j)) H
def sn (c:TT)(tb:TS):TS:=λD σ H=>∃W:Nat->St->Hp->Prop,(∃m,W m σ H)/\∀m σ H,W m σ H->
 c σ H λb H1=>if b=true then ∃N:St->Hp->Prop,(∀σ' H',N σ' H'->∃m',m'<m/\W m' σ' H')/\tb {D with nx:=N,ct:=N,bk:=D.nx} σ H1 else D.nx σ H1
def rC (hp:PassesOwn (model X.prog X.w) X.A X.env X.xe)(hc:PT X c tc)(hb:wC X body tb):PS X (.While c body [] pos) (sn tc tb):=by
 intro WZ s σ H D I h;obtain⟨W,⟨m0,w0⟩,turn⟩:=h;refine wpAny_While (codeAny_whileLoop (λn s'=>∃σ' H',Z7 X WZ σ' H' s'/\W n σ' H') ?_ m0 ⟨σ,H,I,w0⟩);rintro n s1 ⟨σ1,H1,I1,w1⟩;refine wpAny_passesOwn hp (J5 (hc WZ s1 σ1 H1 _ I1 (turn n σ1 H1 w1)) λb s2 ⟨H2,I2,q2⟩=>?_)
 cases b with
 | true=>
  obtain⟨N,hN,q2⟩:=q2;rw[XY rfl];refine wpAny_passesOwn hp (J5 (hb WZ s2 σ1 H2 _ I2 q2) λf s3 q3=>?_)
  cases f with
  | next=>
   obtain⟨σ3,H3,I3,n3⟩:=q3;obtain⟨m',hm,w3⟩:=hN σ3 H3 n3;exact⟨m',hm,σ3,H3,I3,w3⟩
  | cont=>
   obtain⟨σ3,H3,I3,n3⟩:=q3;obtain⟨m',hm,w3⟩:=hN σ3 H3 n3;exact⟨m',hm,σ3,H3,I3,w3⟩
  | brk=>exact q3
  | ret v=>exact q3
 | false=>
  rw[XX YJ];exact wpAny_execs_nil ⟨σ1,H2,I2,q2⟩
end
structure It where
 go:Nat->Hp->Prop
 yld:Nat->Hp->V->Hp->Prop
 stop:Nat->Hp->Prop
def Mp (X:Cx)(WZ:List (WP×Obj))(H:Hp)(b:WP):Prop:=
 H b=none/\b≠X.env.locals/\b∉X.fs/\(b∈X.ex\/X.s₀.heap.objs.size<=b)/\(∀x c,X.env.cells.lookup x=some c->c≠b)/\∀p∈X.pn++WZ,p.1≠b
def Z7.fpOk {H H':Hp}{b:WP}(I:Z7 X WZ σ H s)(hb:s.heap.objs.size<=b)(hn:H' b=none):Mp X WZ H' b:=by
 refine⟨hn,RL (XG I.lt hb),I.nofs hb,.inr (XN I.sz hb),λx c e z=>?_,λp hp z=>?_⟩
 ·obtain⟨v,q⟩:=I.cell x c e;exact absurd (XG q.lt (by rw[z];exact hb)) (RA _)
 ·exact absurd (XG (XD (I.pin p hp).1) (by rw[z];exact hb)) (RA _)
structure jD (P:Program)(w:World)(K:W.Frag)(tg:Expr)(J:It)(fp:List Addr)(it:Addr)(tn:Nat->Heap->Prop):Prop where
 mem:it∈fp
 obj:∀i h,tn i h->∀b∈fp,∃o,h.get? b=some o/\∀v,o.data≠.cell v
 keep:∀i h h',tn i h->(∀b∈fp,∀o,h.get? b=some o->h'.get? b=some o)->tn i h'
 item:∀(X:Cx),X.prog=P->X.w=w->X.K=K->X.calm=true->∀(i:Nat) (WZ:List (WP×Obj)) (s:WR) (σ:St) (H:Hp) (E:WQ->WR->Prop),Z7 X WZ σ H s->(∀b∈fp,Mp X WZ H b)->tn i s.heap->J.go i H->
  wpAny (model P w) X.A (pyNext (.ref it)) (λr s1=>∃u,r=some u/\
   wpAny (model P w) X.A (letOwnedTupleGo tg (.ref it) u) (λ_ s2=>∃x H',Z7 X WZ σ H' s2/\Yh x u/\J.yld i H x H'/\tn (i+1) s2.heap/\∀b∈fp,H' b=none) E s1) E s
 done:∀(X:Cx),X.prog=P->X.w=w->X.K=K->X.calm=true->∀(i:Nat) (WZ:List (WP×Obj)) (s:WR) (σ:St) (H:Hp) (E:WQ->WR->Prop),Z7 X WZ σ H s->(∀b∈fp,Mp X WZ H b)->tn i s.heap->J.stop i H->
  wpAny (model P w) X.A (pyNext (.ref it)) (λr s1=>r=none/\Z7 X WZ σ H s1) E s
 self:∀(A:WM) (i:Nat) (s:WR) (Q:WQ->WR->Prop) (E:WQ->WR->Prop),tn i s.heap->Q (.ref it) s->wpAny (model P w) A (pyIter (.ref it)) Q E s
abbrev TI:=St->Hp->(It->Hp->Prop)->Prop
def cS (X:Cx)(WZ:List (WP×Obj))(σ:St)(tg:WW)(R:It->Hp->Prop)(itv:WQ)(s2:WR):Prop:=
 ∃(it:WP) (fp:List WP) (tn:Nat->WU->Prop) (J:It) (H':Hp),itv=.ref it/\Z7 X WZ σ H' s2/\jD X.prog X.w X.K tg J fp it tn/\tn 0 s2.heap/\(∀b∈fp,Mp X WZ H' b)/\R J H'
def PI (X:Cx)(tg iter:WW)(wi:TI):Prop:=
 ∀(WZ:List (WP×Obj)) (s:WR) (σ:St) (H:Hp) (R:It->Hp->Prop),Z7 X WZ σ H s->wi σ H R->
  wpAny (model X.prog X.w) X.A (eval iter X.env) (λv s1=>wpAny (model X.prog X.w) X.A (pyIter v) (cS X WZ σ tg R) X.xe s1) X.xe s
def v0 {M:Model}{A:WM}{E:WQ->WR->Prop}{s:WR}{tg:WW}{it:WP}{u:WQ}{Q:Unit->WR->Prop}(ho:s.heap.get? it=some o)(hc:o.cls=.type n)(hd:o.data=.fields vs)
  (hn:["enumerate","zip","dict_itemiterator","dict_reverseitemiterator","odict_iterator","itertools.zip_longest","itertools.pairwise"].contains n=false) (hQ:Q () s):wpAny M A (letOwnedTupleGo tg (.ref it) u) Q E s:=by
 unfold letOwnedTupleGo
 cases tg<;>first
  | exact XB hQ
  | (cases u<;>first
    | exact XB hQ
    | (refine XA (wpAny_load ho ?_)
       rw[hc,hd];show wpAny M A (if (["enumerate","zip","dict_itemiterator","dict_reverseitemiterator","odict_iterator","itertools.zip_longest","itertools.pairwise"].contains n&&vs[0]?==some (rawInt _))=true then _ else _) Q E s;rw[XX (by intro h;rw[hn,Bool.false_and] at h;cases h)];exact XB hQ))
def bt (K:WY)(a:WP):It:=
 ⟨λi H=>∃xs x,Ug K H a xs/\xs[i]?=some x,λi H x H'=>H'=H/\∀xs,Ug K H a xs->xs[i]?=some x,λi H=>∃xs,Ug K H a xs/\xs.length<=i⟩
def aV (K:WY)(a:WP):It:=
 ⟨λi H=>∃xs x,Tg K H a xs/\xs[i]?=some x,λi H x H'=>H'=H/\∀xs,Tg K H a xs->xs[i]?=some x,λi H=>∃xs,Tg K H a xs/\xs.length<=i⟩
def br (lo:Int)(n:Nat):It:=⟨λi _=>i<n,λi H x H'=>H'=H/\x=.int (lo+i),λi _=>n<=i⟩
def vZ {K:WY}(a it:WP):jD P w K tg (bt K a) [it] it (λi h=>h.IsListIter it a i) where
 mem:=by simp
 obj:=λi h st b hb=>by
  have e:b=it:=by simpa using hb
  subst e;obtain⟨o,e,c,d⟩:=st;exact⟨o,e,λv z=>by rw[d] at z;cases z⟩
 keep:=λi h h' st k=>st.at λo e=>k it (by simp) o e
 item:=by
  intro X hP hw hK hc i WZ s σ H E I hf st hg;subst hP hw hK;obtain⟨xs,x,hq,hx⟩:=hg;obtain⟨its,rv,p,hz⟩:=I.list hq;obtain⟨u,hu,ru⟩:=rv.get hx;obtain⟨f0,f1,f2,f3,f4,f5⟩:=hf it (by simp);refine wpAny_pyNext_list_item st p.isList (x:=u) (by simpa using hu) λh' st' sb=>?_;have I1:Z7 X WZ σ H {s with heap:=h'}:=I.turned (t':=s.toks) (λb o hb e=>(sb.2 b hb).trans e) f0 f1 f3 f4 f5;obtain⟨o,e,c,d⟩:=id st';exact⟨u,VS,v0 (s:={s with heap:=h'}) e c d (by decide) ⟨x,H,I1,ru,⟨VS,λys hy=>by rw[I.list_inj hy hq];exact hx⟩,st',λb hb=>(hf b hb).1⟩⟩
 done:=by
  intro X hP hw hK hc i WZ s σ H E I hf st hg;subst hP hw hK;obtain⟨xs,hq,hx⟩:=hg;obtain⟨its,rv,p,hz⟩:=I.list hq;obtain⟨f0,f1,f2,f3,f4,f5⟩:=hf it (by simp);have hl:=rv.length;exact wpAny_pyNext_list_end (I.ok.hd hc) st p.isList (by simp;omega) λh' eb=>⟨VS,I.turned (t':=s.toks) (λb o hb e=>eb b o hb e) f0 f1 f3 f4 f5⟩
 self:=λ_ _ _ _ _ st h=>wpAny_pyIter_listiter st h
def jR {K:WY}(a it:WP):jD P w K tg (aV K a) [it] it (λi h=>h.IsTupleIter it a i) where
 mem:=by simp
 obj:=λi h st b hb=>by
  have e:b=it:=by simpa using hb
  subst e;obtain⟨o,e,c,d⟩:=st;exact⟨o,e,λv z=>by rw[d] at z;cases z⟩
 keep:=λi h h' st k=>st.at λo e=>k it (by simp) o e
 item:=by
  intro X hP hw hK hc i WZ s σ H E I hf st hg;subst hP hw hK;obtain⟨xs,x,hq,hx⟩:=hg;obtain⟨its,rv,p,hz⟩:=I.tuple hq;obtain⟨u,hu,ru⟩:=rv.get hx;obtain⟨f0,f1,f2,f3,f4,f5⟩:=hf it (by simp);refine wpAny_pyNext_tuple_item st (show s.heap.IsTuple a its.toArray from p) (x:=u) (by simpa using hu) λh' st' sb=>?_;have I1:Z7 X WZ σ H {s with heap:=h'}:=I.turned (t':=s.toks) (λb o hb e=>(sb.2 b hb).trans e) f0 f1 f3 f4 f5;obtain⟨o,e,c,d⟩:=id st';exact⟨u,VS,v0 (s:={s with heap:=h'}) e c d (by decide) ⟨x,H,I1,ru,⟨VS,λys hy=>by rw[I.tuple_inj hy hq];exact hx⟩,st',λb hb=>(hf b hb).1⟩⟩
 done:=by
  intro X hP hw hK hc i WZ s σ H E I hf st hg;subst hP hw hK;obtain⟨xs,hq,hx⟩:=hg;obtain⟨its,rv,p,hz⟩:=I.tuple hq;obtain⟨f0,f1,f2,f3,f4,f5⟩:=hf it (by simp);have hl:=rv.length;exact wpAny_pyNext_tuple_end (I.ok.hd hc) st (show s.heap.IsTuple a its.toArray from p) (by simp;omega) λh' eb=>⟨VS,I.turned (t':=s.toks) (λb o hb e=>eb b o hb e) f0 f1 f3 f4 f5⟩
 self:=λ_ _ _ _ _ st h=>wpAny_pyIter_tupleiter st h
def jS {K:WY}(it:WP)(lo:Int)(n:Nat):jD P w K tg (br lo n) [it] it (λi h=>IsRangeIter h it (lo+(i:Nat)*1) ((n:Int)-(i:Nat)) 1) where
 mem:=by simp
 obj:=λi h st b hb=>by
  have e:b=it:=by simpa using hb
  subst e;exact⟨_,st,λv z=>by
   have z':Data.fields _=Data.cell v:=z
   cases z'⟩
 keep:=λi h h' st k=>k it (by simp) _ st
 item:=by
  intro X hP hw hK hc i WZ s σ H E I hf st hg;subst hP hw hK;obtain⟨f0,f1,f2,f3,f4,f5⟩:=hf it (by simp);have W:=Walks.range (prog:=X.prog) (w:=X.w) (I.ok.hd hc) it lo 1 n;refine W.item i s _ _ hg st λv h' tk hv st' kk=>?_;obtain⟨t,rfl⟩:=hv;have I1:Z7 X WZ σ H {s with heap:=h',toks:=tk}:=I.turned (λb o hb e=>kk b o (by simpa using hb) e) f0 f1 f3 f4 f5;refine⟨_,VS,v0 (s:={s with heap:=h',toks:=tk}) (n:="range_iterator") st' VS VS (by decide) ⟨.int (lo+i),H,I1,⟨t,?_⟩,⟨VS,VS⟩,st',λb hb=>(hf b hb).1⟩⟩;rw[Int.mul_one]
 done:=by
  intro X hP hw hK hc i WZ s σ H E I hf st hg;subst hP hw hK;obtain⟨f0,f1,f2,f3,f4,f5⟩:=hf it (by simp);exact wpAny_pyNext_range_end (I.ok.hd hc) st (by have:n<=i:=hg;omega) λh' eb=>⟨VS,I.turned (t':=s.toks) (λb o hb e=>eb b o hb e) f0 f1 f3 f4 f5⟩
 self:=λ_ _ _ _ _ st h=>wpAny_pyIter_rangeiter st h
section
variable {X:Cx}{tg:WW}
def sY {R:It->Hp->Prop}{E:WQ->WR->Prop}{lo hi:Int}{t u v:Tok}{tk:Nat}(I:Z7 X WZ σ H s)(h1: -(2^62)<=lo)(h2:lo<2^62)(h3: -(2^62)<=hi)(h4:hi<2^62)
  (q:R (br lo (hi-lo).toNat) H):wpAny (model X.prog X.w) X.A (pyIter (.ref s.heap.objs.size)) (cS X WZ σ tg R) E {s with heap:=s.heap.push {cls:=.type "range",data:=.fields #[.int lo t,.int hi u,.int 1 v]},toks:=tk}:=by
 refine wpAny_pyIter_range (IsRange.new ..) (small_one h1 h2 h3 h4) ?_;have I1:Z7 X WZ σ H {s with heap:=s.heap.push {cls:=.type "range",data:=.fields #[.int lo t,.int hi u,.int 1 v]},toks:=tk}:=I.kept λb o e=>XC _ e;refine⟨(s.heap.push {cls:=.type "range",data:=.fields #[.int lo t,.int hi u,.int 1 v]}).objs.size,[(s.heap.push {cls:=.type "range",data:=.fields #[.int lo t,.int hi u,.int 1 v]}).objs.size],_,_,H,VS,
  I1.kept (t':=tk) λb o e=>XC _ e,jS _ lo (hi-lo).toNat,?_,λb hb=>?_,q⟩
 ·have e1:lo+((0:Nat):Int)*1=lo:=by simp
  have e2:(((hi-lo).toNat:Nat):Int)-((0:Nat):Int)=Builtin.Range.rangeSize lo hi 1:=by rw[rangeSize_one];split<;>omega
  show IsRangeIter _ _ (lo+((0:Nat):Int)*1) ((((hi-lo).toNat:Nat):Int)-((0:Nat):Int)) 1;rw[e1,e2];exact XF _ VS
 ·have e:b=(s.heap.push {cls:=.type "range",data:=.fields #[.int lo t,.int hi u,.int 1 v]}).objs.size:=by simpa using hb
  subst e;exact I1.fpOk (XE _) (I1.hok.fresh (XE _))
def cu (ta:TA):TI:=λσ H R=>ta σ H λvs H1=>∃j:Int,vs=[.int j]/\ -(2^62)<=j/\j<2^62/\R (br 0 j.toNat) H1
def uq {a:WW}{p pos:Pos}(hg:Gl X "range")(hm:X.mg "range"=none)(ha:PA X [a] ta)(hs:starEach [a] X.env=[(false,eval a X.env)]:=by rfl):PI X tg (.Call (.Name "range" p) [a] [] pos) (cu ta):=by
 intro WZ s σ H R I h;refine Call_ (Rh I hg hm boot_range (QF (J5 (ha pos WZ s σ H _ I h) λus s1 ⟨vs,H1,I1,r1,q1⟩=>?_) hs VS));obtain⟨j,e,q1,q2,q⟩:=q1;subst e
 cases r1 with
 | cons r rr=>
  cases rr
  obtain⟨t,rfl⟩:=r;exact call_range_1 (sY I1 (by omega) (by omega) q1 q2 (by simpa using q))
def eF (wi:TI)(g:TG)(tb:TS):TS:=λD σ H=>wi σ H λJ H1=>∃W:Nat->Nat->St->Hp->Prop,(∃m,W 0 m σ H1)/\∀i m σ H,W i m σ H->
 (J.stop i H/\D.nx σ H)\/(J.go i H/\∃N:St->Hp->Prop,(∀σ' H',N σ' H'->∃m',m'<m/\W (i+1) m' σ' H')/\∀x H',J.yld i H x H'->g x σ H' λσ2 H2=>tb {D with nx:=N,ct:=N,bk:=D.nx} σ2 H2)
def Gk (fp:List WP)(h:WU):List (WP×Obj):=fp.filterMap λb=>(h.get? b).map λo=>(b,o)
def Qv {fp:List WP}{h:WU}{b:WP}(hb:b∈fp)(e:h.get? b=some o):(b,o)∈Gk fp h:=TV.mpr ⟨b,hb,by rw[e];rfl⟩
def uz {p:WP×Obj}(hp:p∈Gk fp h):p.1∈fp/\h.get? p.1=some p.2:=by
 obtain⟨b,hb,e⟩:=TV.mp hp
 cases q:h.get? b with
 | none=>rw[q] at e;cases e
 | some o=>
  rw[q] at e;have e':(b,o)=p:=YH e;subst e';exact⟨hb,q⟩
def Z7.pinned {fp:List WP}(I:Z7 X WZ σ H s)(hf:∀b∈fp,Mp X WZ H b)(ho:∀b∈fp,∃o,s.heap.get? b=some o/\∀v,o.data≠.cell v):Z7 X (WZ++Gk fp s.heap) σ H s:=
 I.pins_of λp hp=>(XS.mp hp).elim (λz=>I.pin p (XT _ z)) λz=>by
  obtain⟨hb,e⟩:=uz z;obtain⟨f0,f1,f2,_⟩:=hf p.1 hb;obtain⟨o,e',d⟩:=ho p.1 hb;rw[e] at e';cases e';exact⟨e,f0,f1,f2,d⟩
def Z7.unpinned {WZ pl:List (WP×Obj)}(I:Z7 X (WZ++pl) σ H s):Z7 X WZ σ H s:=I.pins_of λp hp=>I.pin p (XT _ (QQ _ hp))
def iy {pos:Pos}(hp:PassesOwn (model X.prog X.w) X.A X.env X.xe)(hc:X.calm=true)(hi:PI X tg iter wi)(hg:PG X tg g)(hb:wC X body tb)
  (hs:∀x,foldedSetIterable iter X.env x=pure x:=by intro _;rfl):PS X (.For tg iter body [] pos) (eF wi g tb):=by
 intro WZ s σ H D I h;refine wpAny_For (J5 (hi WZ s σ H _ I h) λv s1 h1=>J5 h1 λitv s2 h2=>?_) hs;obtain⟨it,fp,tn,J,H2,e,I2,T,st2,f2,W,⟨m0,w0⟩,turn⟩:=h2;subst e;have stat:∀{H':Hp},(∀b∈fp,H' b=none)->∀b∈fp,Mp X WZ H' b:=λhn b hb=>⟨hn b hb,(f2 b hb).2⟩;refine codeAny_forLoop_any (λn s'=>∃i σ' H',Z7 X WZ σ' H' s'/\tn i s'.heap/\(∀b∈fp,H' b=none)/\W i n σ' H') ?_ m0 ⟨0,σ,H2,I2,st2,λb hb=>(f2 b hb).1,w0⟩;rintro n s3 ⟨i,σ3,H3,I3,st3,fr3,w3⟩
 rcases turn i n σ3 H3 w3 with⟨stop,qn⟩ | ⟨go,N,hN,step⟩
 ·refine wpAny_passesOwn hp (J5 (T.done X VS VS VS hc i WZ s3 σ3 H3 X.xe I3 (stat fr3) st3 stop) λr s4 ⟨hr,I4⟩=>?_);subst hr;exact wpAny_execs_nil ⟨σ3,H3,I4,qn⟩
 ·refine wpAny_passesOwn hp (J5 (T.item X VS VS VS hc i WZ s3 σ3 H3 X.xe I3 (stat fr3) st3 go) λr s4 ⟨u,hr,h4⟩=>?_);subst hr;refine wpAny_passesOwn hp (J5 h4 λ_ s5 ⟨x,H5,I5,r5,y5,st5,fr5⟩=>?_);have I5':=I5.pinned (stat fr5) (T.obj _ _ st5);refine wpAny_passesOwn hp (J5 (hg _ s5 σ3 H5 x u _ I5' r5 (step x H5 y5)) λ_ s6 ⟨σ6,H6,I6,q6⟩=>?_);refine wpAny_passesOwn hp (J5 (hb _ s6 σ6 H6 _ I6 q6) λf s7 q7=>?_);have again:∀{σ7:St} {H7:Hp},Z7 X (WZ++Gk fp s5.heap) σ7 H7 s7->N σ7 H7->∃m,m<n/\∃i σ' H',Z7 X WZ σ' H' s7/\tn i s7.heap/\(∀b∈fp,H' b=none)/\W i m σ' H':=λ{σ7 H7} I7 n7=>by
   obtain⟨m',hm,w7⟩:=hN σ7 H7 n7;refine⟨m',hm,i+1,σ7,H7,I7.unpinned,T.keep _ _ _ st5 λb hb o e=>(I7.pin (b,o) (XT _ (XT _ (Qv hb e)))).1,λb hb=>?_,w7⟩;obtain⟨o,e,d⟩:=T.obj _ _ st5 b hb;exact(I7.pin (b,o) (XT _ (XT _ (Qv hb e)))).2.1
  cases f with
  | next=>obtain⟨σ7,H7,I7,n7⟩:=q7;exact again I7 n7
  | cont=>obtain⟨σ7,H7,I7,n7⟩:=q7;exact again I7 n7
  | brk=>obtain⟨σ7,H7,I7,q7⟩:=q7;exact⟨σ7,H7,I7.unpinned,q7⟩
  | ret v=>obtain⟨x7,σ7,H7,I7,r7,q7⟩:=q7;exact⟨x7,σ7,H7,I7.unpinned,r7,q7⟩
end
abbrev R2:=V->V->Hp->VK->Prop
def Mm (X:Cx)(f:WQ->WQ->Sem WQ)(r:R2):Prop:=
 ∀(WZ:List (WP×Obj)) (s:WR) (σ:St) (H:Hp) (x y:V) (v u:WQ) (Q:VK),Z7 X WZ σ H s->Yh x v->Yh y u->r x y H Q->
  wpAny (model X.prog X.w) X.A (f v u) (EP X WZ σ Q) X.xe s
def aJ (X:Cx)(f:WQ->Sem WQ)(r:V->Hp->VK->Prop):Prop:=
 ∀(WZ:List (WP×Obj)) (s:WR) (σ:St) (H:Hp) (x:V) (v:WQ) (Q:VK),Z7 X WZ σ H s->Yh x v->r x H Q->
  wpAny (model X.prog X.w) X.A (f v) (EP X WZ σ Q) X.xe s
def Uh (X:Cx)(f:WQ)(r:List V->Hp->VK->Prop):Prop:=
 ∀(WZ:List (WP×Obj)) (s:WR) (σ:St) (H:Hp) (xs:List V) (us:List WQ) (Q:VK),Z7 X WZ σ H s->Yd xs us->r xs H Q->
  wpAny (model X.prog X.w) X.A (call f us) (EP X WZ σ Q) X.xe s
def aK (X:Cx)(r:V->Hp->(Bool->Hp->Prop)->Prop):Prop:=
 ∀(WZ:List (WP×Obj)) (s:WR) (σ:St) (H:Hp) (x:V) (v:WQ) (Q:Bool->Hp->Prop),Z7 X WZ σ H s->Yh x v->r x H Q->
  wpAny (model X.prog X.w) X.A (truthy v) (TP X WZ σ Q) X.xe s
def fo (r:R2)(ta tb:TE):TE:=λσ H Q=>ta σ H λx H1=>tb σ H1 λy H2=>r x y H2 Q
def aY (r:V->Hp->VK->Prop)(ta:TE):TE:=λσ H Q=>ta σ H λx H1=>r x H1 Q
def rI (C:Int->Int->Prop)(g:Int->Int->V):R2:=λx y H Q=>∃i j,x=.int i/\y=.int j/\C i j/\Q (g i j) H
def ik (g:Int->Int->V):R2:=λx y H Q=>∃i j,x=.int i/\y=.int j/\Q (g i j) H
def rU (g:Int->V):V->Hp->VK->Prop:=λx H Q=>∃i,x=.int i/\Q (g i) H
section
variable {X:Cx}{a b c:WW}{ta tb tc:TE}{pos:Pos}
def gT (ha:PE X a ta)(hb:PE X b tb){R:V->V->Hp->Prop}(I:Z7 X WZ σ H s)
  (h:ta σ H λx H1=>tb σ H1 λy H2=>R x y H2) {Q:WQ->WR->Prop} {f:WQ->WQ->Sem WQ}
  (hf:∀v u s2 x y H2,Z7 X WZ σ H2 s2->Yh x v->Yh y u->R x y H2->wpAny (model X.prog X.w) X.A (f v u) Q X.xe s2):
  wpAny (model X.prog X.w) X.A (eval a X.env) (λv s₁=>wpAny (model X.prog X.w) X.A (eval b X.env) (λu s₂=>wpAny (model X.prog X.w) X.A (f v u) Q X.xe s₂) X.xe s₁) X.xe s:=by
 refine J5 (ha WZ s σ H _ I h) λv s1 ⟨x,H1,I1,r1,q1⟩=>?_;refine J5 (hb WZ s1 σ H1 _ I1 q1) λu s2 ⟨y,H2,I2,r2,q2⟩=>?_;exact hf v u s2 x y H2 I2 r1 r2 q2
def dA (ho:Mm X (binaryOp op) r)(ha:PE X a ta)(hb:PE X b tb):PE X (.BinOp a op b pos) (fo r ta tb):=by
 intro WZ s σ H Q I h;exact wpAny_BinOp (gT ha hb I h λv u s2 x y H2 I2 rx ry q=>ho WZ s2 σ H2 x y v u Q I2 rx ry q)
def d7 {r:V->Hp->VK->Prop}(ho:aJ X (unaryOp op) r)(ha:PE X a ta):PE X (.UnaryOp op a pos) (aY r ta):=by
 intro WZ s σ H Q I h;exact UnaryOp_ (J5 (ha WZ s σ H _ I h) λv s1 ⟨x,H1,I1,r1,q1⟩=>ho WZ s1 σ H1 x v Q I1 r1 q1)
def bf {f:WQ->WQ->Sem WQ}{C:Int->Int->Prop}{g:Int->Int->Int}
  (rule:∀(i j:Int) (t u:Tok) (s:WR) (Q:WQ->WR->Prop) (E:WQ->WR->Prop),C i j->Q (.int (g i j) s.toks) {s with toks:=s.toks+1}->wpAny (model X.prog X.w) X.A (f (.int i t) (.int j u)) Q E s):
  Mm X f (rI C λi j=>.int (g i j)):=by
 intro WZ s σ H x y v u Q I rx ry h;obtain⟨i,j,rfl,rfl,hc,q⟩:=h;obtain⟨t,rfl⟩:=rx;obtain⟨t',rfl⟩:=ry;exact rule i j t t' s _ _ hc ⟨.int (g i j),H,I.tok _,⟨_,VS⟩,q⟩
def dL {f:WQ->WQ->Sem WQ}{g:Int->Int->Int}
  (rule:∀(i j:Int) (t u:Tok) (s:WR) (Q:WQ->WR->Prop) (E:WQ->WR->Prop),Q (.int (g i j) s.toks) {s with toks:=s.toks+1}->wpAny (model X.prog X.w) X.A (f (.int i t) (.int j u)) Q E s):
  Mm X f (ik λi j=>.int (g i j)):=by
 intro WZ s σ H x y v u Q I rx ry h;obtain⟨i,j,rfl,rfl,q⟩:=h;obtain⟨t,rfl⟩:=rx;obtain⟨t',rfl⟩:=ry;exact rule i j t t' s _ _ ⟨.int (g i j),H,I.tok _,⟨_,VS⟩,q⟩
def iQ {f:WQ->WQ->Sem WQ}{g:Int->Int->Bool}
  (rule:∀(i j:Int) (t u:Tok) (s:WR) (Q:WQ->WR->Prop) (E:WQ->WR->Prop),Q (.bool (g i j)) s->wpAny (model X.prog X.w) X.A (f (.int i t) (.int j u)) Q E s):
  Mm X f (ik λi j=>.bl (g i j)):=by
 intro WZ s σ H x y v u Q I rx ry h;obtain⟨i,j,rfl,rfl,q⟩:=h;obtain⟨t,rfl⟩:=rx;obtain⟨t',rfl⟩:=ry;exact rule i j t t' s _ _ ⟨.bl (g i j),H,I,VS,q⟩
def cZ (i j:Int):Prop:=0<j/\j<1073741824
def lI (i j:Int):Prop:=0<=j/\j<=1000000/\i.natAbs<2^64
def tE (i j:Int):Prop:=(-(2^64)<i/\i<2^64)\/(-(2^64)<j/\j<2^64)
def tE.ok (h:tE i j):IntMulOk i j:=by
 rcases h with⟨h1,h2⟩ | ⟨h1,h2⟩
 ·exact .of_left (intBits_le_64 h1 h2)
 ·exact .of_right (intBits_le_64 h1 h2)
def iP:Mm X (binaryOp .Add) (ik λi j=>.int (i+j)):=dL λ_ _ _ _ _ _ _ q=>add_int q
def iJ:Mm X (binaryOp .Sub) (ik λi j=>.int (i-j)):=dL λ_ _ _ _ _ _ _ q=>sub_int q
def iL:Mm X (binaryOp .Mult) (rI tE λi j=>.int (i*j)):=bf λ_ _ _ _ _ _ _ hc q=>mul_int q hc.ok
def me:Mm X (binaryOp .FloorDiv) (rI cZ λi j=>.int (i/j)):=bf λi j _ _ _ _ _ hc q=>by
 have h1:(0:Int)<j:=hc.1;have h2:j<1073741824:=hc.2;exact floordiv_int (by omega) (by rw[Int.fdiv_eq_ediv_of_nonneg i (by omega)];exact q) (.inl (PyProof.noPylong_small (by omega)))
def iM:Mm X (binaryOp .Mod) (rI (λ_ j=>0<j) λi j=>.int (i%j)):=bf λi j _ _ _ _ _ hc q=>by
 have h1:(0:Int)<j:=hc;exact mod_int' (by omega) (by rw[Int.fmod_eq_emod_of_nonneg i (by omega)];exact q)
def iK:Mm X (binaryOp .Pow) (rI lI λi j=>.int (i^j.toNat)):=bf λ_ _ _ _ _ _ _ hc q=>pow_int_small hc.1 hc.2.1 hc.2.2 q
def Zaw {f:WQ->Sem WQ}{g:Int->Int}
  (rule:∀(i:Int) (t:Tok) (s:WR) (Q:WQ->WR->Prop) (E:WQ->WR->Prop),Q (.int (g i) s.toks) {s with toks:=s.toks+1}->wpAny (model X.prog X.w) X.A (f (.int i t)) Q E s):
  aJ X f (rU λi=>.int (g i)):=by
 intro WZ s σ H x v Q I rx h;obtain⟨i,rfl,q⟩:=h;obtain⟨t,rfl⟩:=rx;exact rule i t s _ _ ⟨.int (g i),H,I.tok _,⟨_,VS⟩,q⟩
def kG:aJ X (unaryOp .USub) (rU λi=>.int (-i)):=Zaw λ_ _ _ _ _ q=>neg_int q
end
def Zba:V->V->Bool
 | .non,.non=>true | .non,.int _=>true | .int _,.non=>true | .non,.bl _=>true | .bl _,.non=>true | .non,.str _=>true | .str _,.non=>true
 | .int _,.int _=>true | .bl _,.bl _=>true | .str _,.str _=>true | .byt _,.byt _=>true
 | .int _,.str _=>true | .str _,.int _=>true | .bl _,.str _=>true | .str _,.bl _=>true
 | _,_=>false
section
variable {X:Cx}{a b c:WW}{ta tb tc:TE}{pos:Pos}
def xY {Q:VK}{k k':Bool}(I:Z7 X WZ σ H s)(q:Q (.bl k) H)(e:k=k'):EP X WZ σ Q (.bool k') s:=by
 subst e;exact⟨.bl k,H,I,VS,q⟩
def dH:Mm X (compareOp .Lt) (ik λi j=>.bl (decide (i<j))):=iQ λ_ _ _ _ _ _ _ q=>lt_int q
def dI:Mm X (compareOp .LtE) (ik λi j=>.bl (decide (i<=j))):=iQ λ_ _ _ _ _ _ _ q=>le_int q
def dJ:Mm X (compareOp .Gt) (ik λi j=>.bl (decide (j<i))):=iQ λ_ _ _ _ _ _ _ q=>gt_int q
def uw:Mm X (compareOp .Lt) (λx y H Q=>∃i j,x=.str i/\y=.str j/\Q (.bl (decide (i.cps.toList<j.cps.toList))) H):=by
 intro WZ s σ H x y v u Q I rx ry h;obtain⟨i,j,rfl,rfl,q⟩:=h;obtain⟨t,rfl⟩:=rx;obtain⟨t',rfl⟩:=ry;exact lt_str (xY I q VS)
def iN:Mm X (compareOp .Is) (λx y H Q=>y=.non/\Q (.bl (decide (x=.non))) H):=by
 intro WZ s σ H x y v u Q I rx ry h;obtain⟨rfl,q⟩:=h
 cases ry
 refine is_none_gen (xY I q ?_)
 cases x<;>first
  | (cases rx;rfl)
  | (obtain⟨t,rfl⟩:=rx;rfl)
def md:Mm X (compareOp .IsNot) (λx y H Q=>y=.non/\Q (.bl (!decide (x=.non))) H):=by
 intro WZ s σ H x y v u Q I rx ry h;obtain⟨rfl,q⟩:=h
 cases ry
 refine isnot_none_gen (xY I q ?_)
 cases x<;>first
  | (cases rx;rfl)
  | (obtain⟨t,rfl⟩:=rx;rfl)
def Zaj:HO->Bool
 | .lst _=>true
 | .ins _ _ _=>true
 | _=>false
def Mm.or {f:WQ->WQ->Sem WQ}(h:Mm X f r)(h':Mm X f r'):Mm X f (λx y H Q=>r x y H Q\/r' x y H Q):=by
 intro WZ s σ H x y v u Q I rx ry q
 rcases q with q | q
 ·exact h WZ s σ H x y v u Q I rx ry q
 ·exact h' WZ s σ H x y v u Q I rx ry q
def P9 (b:WW){op:CmpOp}(h:op≠.In:=by decide)(h2:op≠.NotIn:=by decide):behindInMarks op b=false:=by
 have e1:(op==CmpOp.In)=false:=by cases op<;>first | rfl | exact absurd VS h
 have e2:(op==CmpOp.NotIn)=false:=by cases op<;>first | rfl | exact absurd VS h2
 cases b<;>simp[behindInMarks,e1,e2]
def nX (ho:Mm X (compareOp op) r)(ha:PE X a ta)(hb:PE X b tb)(hm:behindInMarks op b=false):PE X (.Compare a [op] [b] pos) (fo r ta tb):=by
 intro WZ s σ H Q I h;exact wpAny_Compare1 (gT ha hb I h λv u s2 x y H2 I2 rx ry q=>ho WZ s2 σ H2 x y v u Q I2 rx ry q) hm
def so (t:TE):TT:=λσ H Q=>t σ H λx H'=>∃k,x=.bl k/\Q k H'
def nv (ho:Mm X (compareOp op) r)(ha:PE X a ta)(hb:PE X b tb)(hm:behindInMarks op b=false):PT X (.Compare a [op] [b] pos) (so (fo r ta tb)):=by
 intro WZ s σ H Q I h;refine wpAny_isTrue_Compare1 (J5 (ha WZ s σ H _ I h) λv s1 ⟨x,H1,I1,r1,q1⟩=>J5 (hb WZ s1 σ H1 _ I1 q1) λu s2 ⟨y,H2,I2,r2,q2⟩=>
  J5 (ho WZ s2 σ H2 x y v u _ I2 r1 r2 q2) λc s3 ⟨z,H3,I3,r3,k,e,q3⟩=>?_) hm
 subst e
 cases r3
 exact wpAny_truthy_bool ⟨H3,I3,q3⟩
def sy (r r':R2)(ta tb tc:TE):TE:=λσ H Q=>ta σ H λx H1=>tb σ H1 λy H2=>r x y H2 λz H3=>∃k,z=.bl k/\
 (if k=true then tc σ H3 λw' H4=>r' y w' H4 Q else Q (.bl false) H3)
def rj (ho:Mm X (compareOp op) r)(ho':Mm X (compareOp op') r')(ha:PE X a ta)(hb:PE X b tb)(hc:PE X c tc)
  (hm:lastMarks [op,op'] [b,c]=false:=by with_unfolding_all rfl):PT X (.Compare a [op,op'] [b,c] pos) (so (sy r r' ta tb tc)):=by
 intro WZ s σ H Q I h;refine isTrue_chain (J5 (ha WZ s σ H _ I h) λv s1 ⟨x,H1,I1,r1,q1⟩=>test_link (J5 (hb WZ s1 σ H1 _ I1 q1) λu s2 ⟨y,H2,I2,r2,q2⟩=>
  J5 (ho WZ s2 σ H2 x y v u _ I2 r1 r2 q2) λd s3 ⟨z,H3,I3,r3,k,e,q3⟩=>?_)) hm
 subst e
 cases r3
 refine wpAny_truthy_bool ?_
 cases k with
 | false=>
  obtain⟨k',e',q'⟩:=q3
  cases e'
  exact ite_ff ⟨H3,I3,q'⟩
 | true=>
  refine ite_tt (test_last (J5 (hc WZ s3 σ H3 _ I3 q3) λw' s4 ⟨z',H4,I4,r4,q4⟩=>J5 (ho' WZ s4 σ H4 y z' u w' _ I4 r2 r4 q4) λd' s5 ⟨z2,H5,I5,r5,k2,e2,q5⟩=>?_));subst e2
  cases r5
  exact wpAny_truthy_bool ⟨H5,I5,q5⟩
def ff (K:WY)(x:V)(H:Hp)(k:Bool):Prop:=
 match x with
 | .non=>k=false
 | .bl b=>k=b
 | .int i=>k=(i !=0)
 | .str y=>y.length<=sizeLine/\k=((y.length:Int) !=0)
 | .byt y=>y.size<=sizeLine/\k=((y.size:Int) !=0)
 | .ref p=>(∃xs,Ug K H p xs/\k=!xs.isEmpty)\/(∃xs,Tg K H p xs/\k=!xs.isEmpty)\/∃kvs,H p=some (.dK kvs)/\k=!kvs.isEmpty
 | _=>False
def xM {κ:Type}{kvs:List (κ×V)}{vs:List (κ×WQ)}(r:KV kvs vs):(!vs.isEmpty)=!kvs.isEmpty:=by
 cases r<;>rfl
def Ff (r:Yd xs its):(!its.toArray.isEmpty)=!xs.isEmpty:=by
 cases r<;>simp
def Ko:(sizeLine:Nat)<2^63:=by rw[sizeLine_eq];decide
def kJ:aK X (λx H Q=>∃k,ff X.K x H k/\Q k H):=by
 intro WZ s σ H x v Q I rx h;obtain⟨k,e,q⟩:=h;have hl:=Ko;have hs:sizeLine=16777216:=sizeLine_eq
 cases x with
 | non=>
  cases rx
  have e':k=false:=e;subst e';exact truthy_none ⟨H,I,q⟩
 | bl b=>
  cases rx
  have e':k=b:=e;subst e';exact wpAny_truthy_bool ⟨H,I,q⟩
 | int i=>
  obtain⟨t,rfl⟩:=rx;have e':k=(i !=0):=e;subst e';exact PySem.P.truthy_int ⟨H,I,q⟩
 | str y=>
  obtain⟨t,rfl⟩:=rx;obtain⟨hy,e'⟩:y.length<=sizeLine/\k=((y.length:Int) !=0):=e;subst e';exact PySem.P.truthy_str (by omega) ⟨H,I.tok _,q⟩
 | byt y=>
  obtain⟨t,rfl⟩:=rx;obtain⟨hy,e'⟩:y.size<=sizeLine/\k=((y.size:Int) !=0):=e;subst e';exact W.truthy_bytes (by omega) ⟨H,I.tok _,q⟩
 | ref p=>
  cases rx
  have e':(∃xs,Ug X.K H p xs/\k=!xs.isEmpty)\/(∃xs,Tg X.K H p xs/\k=!xs.isEmpty)\/∃kvs,H p=some (.dK kvs)/\k=!kvs.isEmpty:=e
  rcases e' with⟨xs,hx,e'⟩ | ⟨xs,hx,e'⟩ | ⟨kvs,hx,e'⟩
  ·subst e';obtain⟨its,r,pl,hz⟩:=I.list hx;have hlen:=r.length;exact wpAny_truthy_list pl.isList (by simp only[List.size_toArray];omega) ⟨H,I.tok _,by rw[Ff r];exact q⟩
  ·subst e';obtain⟨its,r,pl,hz⟩:=I.tuple hx;have hlen:=r.length;exact truthy_tuple pl (by simp only[List.size_toArray];omega) ⟨H,I.tok _,by rw[Ff r];exact q⟩
  ·subst e';obtain⟨hz,hS,vs,r,m⟩:kvs.length<=sizeLine/\(p==sysModules)=false/\∃vs,KV kvs vs/\s.heap.DictOf (Jq X.prog X.w) p vs:=I.hok p _ hx;have hlen:kvs.length=vs.length:=Paired.length r;exact wpAny_truthy_dict hS m (by omega) ⟨H,I.tok _,by rw[xM r];exact q⟩
 | _=>exact(show False from e).elim
def rg (ha:PE X a ta)(he:∀whole,isTrue a X.env whole=(do let v <-whole;standAt a.pos;holding [v] (truthy v))):
  PT X a (λσ H Q=>ta σ H λx H'=>∃k,ff X.K x H' k/\Q k H'):=by
 intro WZ s σ H Q I h;exact isTrue_plain (J5 (ha WZ s σ H _ I h) λv s1 ⟨x,H1,I1,r1,q1⟩=>kJ WZ s1 σ H1 x v Q I1 r1 q1) (he _)
def xv:Mm X (binaryOp .Add) (λx y H Q=>∃i j,x=.str i/\y=.str j/\i.length+j.length<=sizeLine/\Q (.str (i++j)) H):=by
 intro WZ s σ H x y v u Q I rx ry h;obtain⟨i,j,rfl,rfl,hz,q⟩:=h;obtain⟨t,rfl⟩:=rx;obtain⟨t',rfl⟩:=ry;exact add_str (λt' tk=>⟨.str (i++j),H,I.tok _,⟨_,VS⟩,q⟩) hz
def Ru {x:V}(r:Yd [x] us):∃u,us=[u]/\Yh x u:=by
 cases r with
 | cons r1 r2=>cases r2;exact⟨_,VS,r1⟩
def fN {x y:V}(r:Yd [x,y] us):∃u w',us=[u,w']/\Yh x u/\Yh y w':=by
 cases r with
 | cons r1 r2=>
  cases r2 with
  | cons r3 r4=>cases r4;exact⟨_,_,VS,r1,r3⟩
def uV (hc:X.calm=true):Uh X (.builtin "max") (λxs H Q=>∃i j,xs=[.int i,.int j]/\Q (.int (if j>i then j else i)) H):=by
 intro WZ s σ H xs us Q I r h;obtain⟨i,j,rfl,q⟩:=h;obtain⟨u,w',rfl,⟨t,rfl⟩,⟨t',rfl⟩⟩:=fN r;refine max_two_ints (I.ok.hd hc) λh' tk k=>⟨_,H,I.kept k,?_,q⟩;by_cases hj:j>i
 ·rw[XY hj,XY hj];exact⟨_,VS⟩
 ·rw[XX hj,XX hj];exact⟨_,VS⟩
def uW:Uh X (.type "int") (λxs H Q=>(∃i,xs=[.int i]/\Q (.int i) H)\/∃k,xs=[.bl k]/\Q (.int (if k then 1 else 0)) H):=by
 intro WZ s σ H xs us Q I r h
 rcases h with⟨i,rfl,q⟩ | ⟨k,rfl,q⟩
 ·obtain⟨u,rfl,t,rfl⟩:=Ru r;exact call_int_int ⟨.int i,H,I,⟨_,VS⟩,q⟩
 ·obtain⟨u,rfl,r1⟩:=Ru r
  cases r1
  exact call_int_bool ⟨.int (if k then 1 else 0),H,I.tok _,⟨_,VS⟩,q⟩
def zu:Uh X (.type "str") (λxs H Q=>∃i,xs=[.int i]/\i.natAbs.log2<1920/\Q (.str (toString i)) H):=by
 intro WZ s σ H xs us Q I r h;obtain⟨i,rfl,hz,q⟩:=h;obtain⟨u,rfl,t,rfl⟩:=Ru r;exact PySem.P.str_of_int hz ⟨.str _,H,I.tok _,⟨_,VS⟩,q⟩
def Zbs (K:WY)(x:V)(H:Hp)(n:Nat):Prop:=
 match x with
 | .str y=>y.length<=sizeLine/\n=y.length
 | .byt y=>y.size<=sizeLine/\n=y.size
 | .ref p=>(∃xs,Ug K H p xs/\n=xs.length)\/∃xs,Tg K H p xs/\n=xs.length
 | _=>False
end
structure wD (h:Heap)(x dx C:Addr)(mA:Str->Option Value):Prop where
 obj:h.get? x=some (W.instObj C dx)
 ns:h.Ns1 dx mA
 ne:dx≠x
def uA {h:WU}(n:h.Ns1 dx mA):∃od,h.get? dx=some od/\∀name,W.lookIn name od=some (mA name):=by
 obtain⟨o,es,ep,ho,hd,hk,_,hm⟩:=n;refine⟨o,ho,λname=>?_⟩;have e:=hm name;unfold nsFind findBy at e;rw[<-Array.find?_toList] at e;unfold W.lookIn;rw[hd];dsimp only
 split
 ·rename_i y q;rw[q] at e;exact congrArg some e
 ·rename_i q;rw[q] at e;have a:es.toList.any (·.refKey)=false:=by
   rw[List.any_eq_false];intro y hy;obtain⟨z,t,hkey⟩:=hk y (Array.mem_toList_iff.mp hy);simp[DictEntry.refKey,hkey]
  have a':¬es.toList.any (·.refKey)=true:=by rw[a];exact YJ
  rw[XX a'];exact congrArg some e
def wD.look (I:wD h x dx C mA):∃od,W.InstAt h x (W.instObj C dx) C (some od)/\∀name,W.lookIn name od=some (mA name):=
 let ⟨od,ho,hl⟩:=uA I.ns
 ⟨od,⟨I.obj,VS,VS,ho⟩,hl⟩
section
variable {prog:WO}{w:WN}{A:WM}{E:WQ->WR->Prop}{s:WR}{K:WY}{x dx C f:WP}{mA:Str->Option WQ}{name:Str}{v:WQ}
def mE {expr:Bool}{Q:WQ->WR->Prop}(X:K.In s.heap)(I:wD s.heap x dx C mA)(hg:W.plainGet K C name=true)(hh:W.hasDictIn K C=true)
  (ha:W.findIn K (.ref C) name=some none) (hv:mA name=some v) (hv':W.handedIn v=true) (h:Q v {s with toks:=s.toks+1}):
  wpAny (model prog w) A (getAttr (.ref x) name expr) Q E s:=by
 obtain⟨od,J,hl⟩:=I.look;exact W.get_value X J (W.plainGet_of hg).1 (W.findObj_own hh ha VS (by rw[hl,hv])) hv' h
def qS {pl:Sem Bool}{Q:WQ×List WQ->WR->Prop}(X:K.In s.heap)(I:wD s.heap x dx C mA)(hg:W.plainGet K C name=true)
  (hf:W.findIn K (.ref C) name=some (some (.ref f))) (ht:W.isFn K (.ref f)=true) (hv:mA name=none) (h:Q (.ref f,[.ref x]) s):
  wpAny (model prog w) A (getMethod (.ref x) name pl) Q E s:=by
 obtain⟨od,J,hl⟩:=I.look;exact W.method_fn X J (W.plainGet_of hg).1 (W.plainGet_of hg).2 hf (beq_iff_eq.mp ht) (by show(W.lookIn name od).map (·.isSome)=some false;rw[hl,hv];rfl) h
def oR {ns:List Str}{Q:Unit->WR->Prop}(X:K.In s.heap)(I:wD s.heap x dx C mA)
  (hs:W.findIn K (.ref C) "__setattr__"=some (some (.builtin "object.__setattr__"))) (hp:W.plainOver K C=true) (ht:W.takerIn K C name=some none) (hh:W.hasDictIn K C=true)
  (hw:PySem.Within mA ns) (hsz:ns.length<=sizeLine)
  (h:∀h',wD h' x dx C (λy=>if y=name then some v else mA y)->Heap.SameBut dx s.heap h'->Q () {s with heap:=h',toks:=s.toks+2}):
  wpAny (model prog w) A (setAttr (.ref x) name v) Q E s:=by
 obtain⟨od,J,hl⟩:=I.look;refine W.set_plain X J hs (W.osa_open (s:={s with toks:=s.toks+1}) (r:=none) X J hp ht λb=>?_);obtain⟨cd,hc,hd'⟩:=W.any_some hh;have hx:s.heap.get? x=some ⟨.ref C,some dx,.plain,#[]⟩:=I.obj;refine XA (XB (XA (XA (wpAny_loadPart hx (XA (W.Looks.here (s:={s with toks:=s.toks+1}) (W.looks_clsIn X hc) ?_))))));rw[hd'];refine XB (a:=some dx) (XA (XB (XA ?_)));refine wpAny_nsSet1 (s:={s with toks:=s.toks+1}) I.ns λh' hn2 hs2=>?_;obtain⟨oD,esD,epD,hoD,hdD,hcD⟩:=hn2.count (PySem.Within.cons name v hw);refine XA (wpAny_lookBehind hoD (by rw[hdD];exact pastItsLine_dict (XN hcD (by rw[YF];omega))) ?_);exact XB (h _ ⟨(hs2.2 _ (Ne.symm I.ne)).trans I.obj,hn2,I.ne⟩ hs2)
def qt {R:Result->WR->Prop}{vs:List WQ}{kw:List (Str×WQ)}(X:K.In s.heap)(hm:W.makesIn K C=true)
  (hi:W.findIn K (.ref C) "__init__"=some (some (.ref f))) (hf:W.typeIn K (.ref f)=some (.type "function"))
  (h:codeAny (model prog w) (A.under (.builtin "type.__call__" ⟨.ref C::vs,kw⟩)) (.call (.ref f) ⟨.ref (s.heap.objs.size+1)::vs,kw⟩) (W.InitBack (s.heap.objs.size+1) R)
   {s with heap:=(s.heap.push W.emptyDict).push (W.instObj C s.heap.objs.size)}):
  codeAny (model prog w) A (.call (.ref C) ⟨vs,kw⟩) R s:=by
 obtain⟨hh,g,d,t,os⟩:=s;exact W.make_core (W.makes_of X hm) (W.looks_findIn X hi) (λself=>W.bind_fn X self hf) (.inl VS) h
end
def Rf (f:Str)(v:V):List (Str×V)->List (Str×V)
 | []=>[(f,v)]
 | (g,x)::r=>if g=f then(g,v)::r else(g,x)::Rf f v r
def K9 (f g:Str)(v:V):∀fs:List (Str×V),(Rf f v fs).lookup g=if g=f then some v else fs.lookup g
 | []=>by
  show List.lookup g [(f,v)]=_;by_cases h:g=f
  ·have hb:(g==f)=true:=beq_iff_eq.mpr h;simp only[List.lookup,hb,if_pos h]
  ·have hb:(g==f)=false:=beq_eq_false_iff_ne.mpr h;simp only[List.lookup,hb,if_neg h]
 | (k,x)::r=>by
  have ih:=K9 f g v r;rw[show Rf f v ((k,x)::r)=(if k=f then(k,v)::r else(k,x)::Rf f v r) from rfl];by_cases hk:k=f
  ·rw[XY hk];by_cases h:g=k
   ·have hb:(g==k)=true:=beq_iff_eq.mpr h;simp only[List.lookup,hb,if_pos (h.trans hk)]
   ·have hb:(g==k)=false:=beq_eq_false_iff_ne.mpr h;simp only[List.lookup,hb,if_neg (λe:g=f=>h (e.trans hk.symm))]
  ·rw[XX hk];by_cases h:g=k
   ·have hb:(g==k)=true:=beq_iff_eq.mpr h;simp only[List.lookup,hb,if_neg (λe:g=f=>hk (h.symm.trans e))]
   ·have hb:(g==k)=false:=beq_eq_false_iff_ne.mpr h;simp only[List.lookup,hb];exact ih
def Kq (f:Str)(v:V):∀fs:List (Str×V),f∈(Rf f v fs).map (·.1)/\∀g,g∈fs.map (·.1)->g∈(Rf f v fs).map (·.1)
 | []=>⟨by simp[Rf],λg h=>by simp at h⟩
 | (k,x)::r=>by
  obtain⟨i1,i2⟩:=Kq f v r;rw[show Rf f v ((k,x)::r)=(if k=f then(k,v)::r else(k,x)::Rf f v r) from rfl];by_cases hk:k=f
  ·rw[XY hk];subst hk;exact⟨by simp,λg h=>by simpa using h⟩
  ·rw[XX hk];refine⟨?_,λg h=>?_⟩
   ·rw[YI];exact XV _ i1
   ·rw[YI] at h |-
    rcases QD.mp h with e | e
    ·exact QD.mpr (.inl e)
    ·exact XV _ (i2 g e)
def Ib (f:Str)(v:V):∀fs:List (Str×V),(Rf f v fs).length<=fs.length+1
 | []=>by simp[Rf]
 | (k,x)::r=>by
  have ih:=Ib f v r;rw[show Rf f v ((k,x)::r)=(if k=f then(k,v)::r else(k,x)::Rf f v r) from rfl];by_cases hk:k=f
  ·rw[XY hk,YF,YF];omega
  ·rw[XX hk,YF,YF];omega
def Qj.some_of (r:Qj (some v) o):∃u,o=some u/\Yh v u:=by
 cases o with
 | none=>exact(show False from r).elim
 | some u=>exact⟨u,VS,r⟩
def Qj.none_of (r:Qj none o):o=none:=by
 cases o with
 | none=>rfl
 | some u=>exact(show False from r).elim
def uL (r:Yh v u):W.handedIn u=true:=by
 cases v with
 | non=>cases (show u=Value.none from r);rfl
 | bl b=>cases (show u=Value.bool b from r);rfl
 | int i=>obtain⟨t,e⟩:=(show ∃t,u=Value.int i t from r);cases e;rfl
 | str x=>obtain⟨t,e⟩:=(show ∃t,u=Value.str x t from r);cases e;rfl
 | byt b=>obtain⟨t,e⟩:=(show ∃t,u=Value.bytes b t from r);cases e;rfl
 | flt b=>obtain⟨t,e⟩:=(show ∃t,u=Value.float b t from r);cases e;rfl
 | ref a=>cases (show u=Value.ref a from r);rfl
 | ty n=>cases (show u=Value.type n from r);rfl
section
variable {P:WO}{w:WN}{H H':Hp}{h h':WU}{a C dx:WP}{fs fs':List (Str×V)}
def Hf (hok:Ro P w H h)(e:H a=some (.ins C dx fs)):∃mA,wD h a dx C mA/\(∀f,Qj (fs.lookup f) (mA f))/\PySem.Within mA (fs.map (·.1))/\fs.length<=1000/\H dx=some (.own a):=by
 obtain⟨d,z,ne,ob,mA,n,r,q⟩:=(show X1 P w H h a (.ins C dx fs) from hok a _ e);exact⟨mA,⟨ob,n,ne⟩,r,q,z,d⟩
end
structure wF (K:W.Frag)(C:Addr):Prop where
 pg:W.plainGet K C Str.empty=true
 hd:W.hasDictIn K C=true
 po:W.plainOver K C=true
 sa:W.findIn K (.ref C) "__setattr__"=some (some (.builtin "object.__setattr__"))
def wF.get {K:WY}(c:wF K C)(f:Str):W.plainGet K C f=true:=c.pg
def Q0 (K:WY)(C:WP)(f:Str):Prop:=W.findIn K (.ref C) f=some none
def Q0.taker {K:WY}{f:Str}(n:Q0 K C f):W.takerIn K C f=some none:=by
 unfold W.takerIn;rw[show W.findIn K (.ref C) f=some none from n];rfl
structure Zbw (K:W.Frag)(C:Addr)(f:Str)(v:V)(u:Value):Prop where
 at_:W.findIn K (.ref C) f=some (some u)
 rel:Yh v u
 get:W.specialIn K u "__get__"=some none
 cp:W.copiedNames.contains f=false
structure lF (K:W.Frag)(C:Addr)(m:Str)(f:Addr):Prop where
 at_:W.findIn K (.ref C) m=some (some (.ref f))
 fn:W.isFn K (.ref f)=true
 kp:W.keepIn K (.ref f)=true
section
variable {X:Cx}{WZ:List (WP×Obj)}{σ:St}{H:Hp}{s:WR}{a C dx:WP}{fs:List (Str×V)}{f:Str}{v:V}{A:WM}{E:WQ->WR->Prop}
def xV {b:Bool}{Q:WQ->WR->Prop}(I:Z7 X WZ σ H s)(e:H a=some (.ins C dx fs))(c:wF X.K C)(n:Q0 X.K C f)(l:fs.lookup f=some v)
  (h:∀u s',Z7 X WZ σ H s'->Yh v u->Q u s'):wpAny (model X.prog X.w) A (getAttr (.ref a) f b) Q E s:=by
 obtain⟨mA,O,r,_,_,_⟩:=Hf I.hok e;obtain⟨u,hu,ru⟩:=Qj.some_of (v:=v) (o:=mA f) (by rw[<-l];exact r f);exact mE I.kIn O (c.get f) c.hd n hu (uL ru) (h u _ (I.tok _) ru)
def Fi {pl:Sem Bool}{Q:WQ×List WQ->WR->Prop}(I:Z7 X WZ σ H s)(e:H a=some (.ins C dx fs))(c:wF X.K C)(k:lF X.K C m g)(l:fs.lookup m=none)
  (h:Q (.ref g,[.ref a]) s):wpAny (model X.prog X.w) A (getMethod (.ref a) m pl) Q E s:=by
 obtain⟨mA,O,r,_,_,_⟩:=Hf I.hok e;have hn:mA m=none:=Qj.none_of (by rw[<-l];exact r m);exact qS I.kIn O (c.get m) k.at_ k.fn hn h
def jY {Q:Unit->WR->Prop}(I:Z7 X WZ σ H s)(e:H a=some (.ins C dx fs))(c:wF X.K C)(n:Q0 X.K C f)(hl:fs.length<1000)(ry:Yh y u)
  (h:∀s',Z7 X WZ σ (J7 H a (.ins C dx (Rf f y fs))) s'->Q () s'):wpAny (model X.prog X.w) A (setAttr (.ref a) f u) Q E s:=by
 obtain⟨mA,O,r,wi,_,ho⟩:=Hf I.hok e;have hz:(fs.map (·.1)).length<=sizeLine:=by rw[XI,sizeLine_eq];omega
 refine oR I.kIn O c.sa c.po n.taker c.hd wi hz λh' O' sb=>h _ ?_;have hd:∃o,h'.get? dx=some o:=let ⟨o,_,_,e',_⟩:=O'.ns;⟨o,e'⟩
 refine I.write (x:=a) (e:=dx) (by rw[e];exact True.intro) (.inr ho) (λb q hb z=>(sb.2 b hb).trans z) hd ?_;refine⟨by rw[Yi O.ne];exact ho,?_,O.ne,O'.obj,_,O'.ns,λg=>?_,λg hg=>?_⟩
 ·have:=Ib f y fs;omega
 ·show Qj ((Rf f y fs).lookup g) (if g=f then some u else mA g);rw[K9];by_cases q:g=f
  ·rw[XY q,XY q];exact ry
  ·rw[XX q,XX q];exact r g
 ·by_cases q:g=f
  ·rw[q];exact(Kq f y fs).1
  ·refine(Kq f y fs).2 g (wi g λz=>hg ?_);show(if g=f then some u else mA g)=none;rw[XX q];exact z
def Z7.made (I:Z7 X WZ σ H s):Z7 X WZ σ (J7 (J7 H s.heap.objs.size (.own (s.heap.objs.size+1))) (s.heap.objs.size+1) (.ins C s.heap.objs.size []))
  {s with heap:=(s.heap.push W.emptyDict).push (W.instObj C s.heap.objs.size)}:=by
 have e1:(s.heap.push W.emptyDict).get? s.heap.objs.size=some W.emptyDict:=XF s.heap VS;have e2:((s.heap.push W.emptyDict).push (W.instObj C s.heap.objs.size)).get? (s.heap.objs.size+1)=some (W.instObj C s.heap.objs.size):=by
  have:=XF (s.heap.push W.emptyDict) (o:=W.instObj C s.heap.objs.size) VS
  rwa [QU] at this
 have e3:(s.heap.push W.emptyDict).Ns s.heap.objs.size (λ_=>none):=⟨W.emptyDict,#[],_,e1,VS,(λe he=>absurd he (by simp)),λ_=>rfl⟩;have I1:=I.laid (a:=s.heap.objs.size) (o:=.own (s.heap.objs.size+1)) (h':=s.heap.push W.emptyDict) (t':=s.toks) (λb u q=>XC _ q) (XE _) ⟨_,e1⟩;refine I1.laid (a:=s.heap.objs.size+1) (o:=.ins C s.heap.objs.size []) (t':=s.toks) (λb u q=>XC _ q) (SG (QU _ _)) ?_;have ne:s.heap.objs.size≠s.heap.objs.size+1:=XH (RM _);refine⟨by rw[Yi ne,Yy],XO _,ne,e2,λ_=>none,(Heap.Ns1.of_empty e3).at λo q=>XC _ q,λ_=>True.intro,λy hy=>absurd VS hy⟩
def lx {prog:WO}{w:WN}{pos:Pos}{Q:WQ->WR->Prop}(hb:attributeBase e f env (eval e env)=eval e env)
  (h:wpAny (model prog w) A (eval e env) (λo s₁=>wpAny (model prog w) A (getAttr o f true) Q E s₁) E s):wpAny (model prog w) A (eval (.Attribute e f pos) env) Q E s:=
 Attribute_any_ h (by rw[arm_eval_Attribute,hb])
end
def bD (K:WY)(ta:TE)(f:Str):TE:=λσ H Q=>ta σ H λx H1=>∃a C dx fs v,x=.ref a/\H1 a=some (.ins C dx fs)/\wF K C/\Q0 K C f/\fs.lookup f=some v/\Q v H1
def Za6 (K:WY)(ta:TE)(f:Str):TE:=λσ H Q=>ta σ H λx H1=>∃a C dx fs v u,x=.ref a/\H1 a=some (.ins C dx fs)/\wF K C/\Zbw K C f v u/\fs.lookup f=none/\Q v H1
def bO (K:WY)(ta tv:TE)(f:Str):TS:=λD σ H=>tv σ H λy H1=>ta σ H1 λx H2=>∃a C dx fs,x=.ref a/\H2 a=some (.ins C dx fs)/\wF K C/\Q0 K C f/\fs.length<1000/\
 D.nx σ (J7 H2 a (.ins C dx (Rf f y fs)))
def Zbv (X:Cx)(op:Operator)(rd:V->V->Hp->VK->Prop):Prop:=
 ∀(WZ:List (WP×Obj)) (s:WR) (σ:St) (H:Hp) (x y:V) (u v:WQ) (Q:VK),Z7 X WZ σ H s->Yh x u->Yh y v->rd x y H Q->wpAny (model X.prog X.w) X.A (inplaceOp op u v) (EP X WZ σ Q) X.xe s
def be (K:WY)(ta tv:TE)(rd:V->V->Hp->VK->Prop)(f:Str):TS:=λD σ H=>ta σ H λx H1=>∃a C dx fs v,x=.ref a/\H1 a=some (.ins C dx fs)/\wF K C/\Q0 K C f/\fs.lookup f=some v/\
 tv σ H1 λy H2=>rd v y H2 λz H3=>∃dx' fs',H3 a=some (.ins C dx' fs')/\fs'.length<1000/\D.nx σ (J7 H3 a (.ins C dx' (Rf f z fs')))
section
variable {X:Cx}{o e value:WW}{f:Str}{pos pos' tpos:Pos}{ta tv:TE}
def iF (he:PE X e ta)(hb:attributeBase e f X.env (eval e X.env)=eval e X.env):PE X (.Attribute e f pos) (bD X.K ta f):=by
 intro WZ s σ H Q I h;refine lx hb (J5 (he WZ s σ H _ I h) λu s1 ⟨x,H1,I1,rx,a,C,dx,fs,v,ex,ea,c,n,l,q⟩=>?_);subst ex;obtain rfl:u=Value.ref a:=rx;exact xV I1 ea c n l λu' s2 I2 ru=>⟨v,H1,I2,ru,q⟩
def iz (ha:PE X o ta)(hv:PE X value tv)(hs:swapsWith value (some (.Attribute o f pos')) pos.line X.env=pure false):PS X (.Assign [.Attribute o f pos'] value pos) (bO X.K ta tv f):=by
 intro WZ s σ H D I h;refine plainObj_wpAny_Assign_Attribute (J5 (hv WZ s σ H _ I h) λu s1 ⟨y,H1,I1,ry,q⟩=>J5 (ha WZ s1 σ H1 _ I1 q) λov s2 ⟨x,H2,I2,rx,a,C,dx,fs,ex,ea,c,n,l,q2⟩=>?_) hs;subst ex;obtain rfl:ov=Value.ref a:=rx;exact jY I2 ea c n l ry λs3 I3=>⟨σ,_,I3,q2⟩
end
section
variable {X:Cx}{WZ:List (WP×Obj)}{σ:St}{H:Hp}{s:WR}{A:WM}{E:WQ->WR->Prop}{Q:WQ->WR->Prop}{c:WQ}{b:Bool}
inductive Ix (K:W.Frag)(H:Hp):V->Value->Prop where
 | non:Ix K H .non (.type "NoneType")
 | bl (x:Bool):Ix K H (.bl x) (.type "bool")
 | int (i:Int):Ix K H (.int i) (.type "int")
 | str (x:Str):Ix K H (.str x) (.type "str")
 | flt (x:UInt64):Ix K H (.flt x) (.type "float")
 | lst {a:WP} {xs:List V} (e:H a=some (.lst xs)):Ix K H (.ref a) (.type "list")
 | frz {a:WP} {o:Obj} {xs:List V} (e:H a=some (.frz o (.lst xs))):Ix K H (.ref a) (.type "list")
 | tup {a:WP} {xs:List V} (e:H a=some (.tup xs)):Ix K H (.ref a) (.type "tuple")
 | dK {a:WP} {kvs:List (Jb×V)} (e:H a=some (.dK kvs)):Ix K H (.ref a) (.type "dict")
 | dT {a:WP} {kvs:List (List Jb×V)} (e:H a=some (.dT kvs)):Ix K H (.ref a) (.type "dict")
 | ins {a C dx:WP} {fs:List (Str×V)} (e:H a=some (.ins C dx fs)) (cl:wF K C) (ha:W.findIn K (.ref C) "__class__"=some (some (.builtin "object.__class__")))
   (hn:W.specialIn K (.builtin "object.__class__") "__get__"=some (some (.builtin "getset_descriptor.__get__"))) (htk:W.takesIn K (.builtin "object.__class__")=some true)
   (hm:W.mroIn K C (.type "object")=some true):Ix K H (.ref a) (.ref C)
def T2 (I:Z7 X WZ σ H s)(rx:Yh x u)(ty:Ix X.K H x t)(e:W.kitOne X.K t c=some b)(h:∀tk,Q (.bool b) {s with toks:=tk}):
  wpAny (model X.prog X.w) A (call (.builtin "isinstance") [u,c]) Q E s:=by
 cases ty with
 | non=>cases (show u=Value.none from rx);exact RB W.kitx_none I.kIn True.intro e (λz=>nomatch z) h
 | bl y=>cases (show u=Value.bool y from rx);exact RB W.kitx_bool I.kIn True.intro e (λz=>nomatch z) h
 | int i=>obtain⟨t,q⟩:=(show ∃t,u=Value.int i t from rx);cases q;exact RB W.kitx_int I.kIn True.intro e (λz=>nomatch z) h
 | str y=>obtain⟨t,q⟩:=(show ∃t,u=Value.str y t from rx);cases q;exact RB W.kitx_str I.kIn True.intro e (λz=>nomatch z) h
 | flt y=>obtain⟨t,q⟩:=(show ∃t,u=Value.float y t from rx);cases q;exact RB W.kitx_float I.kIn True.intro e (λz=>nomatch z) h
 | @lst a xs ea=>
  cases (show u=Value.ref a from rx)
  obtain⟨_,_,n,_,h1⟩:=(show X1 X.prog X.w H s.heap a (.lst xs) from I.hok a _ ea);exact RB W.kitx_list I.kIn ⟨_,h1,VS⟩ e (λz=>nomatch z) h
 | @frz a ob xs ea=>
  cases (show u=Value.ref a from rx)
  obtain⟨_,_,_,n,_,h1⟩:=(show X1 X.prog X.w H s.heap a (.frz ob (.lst xs)) from I.hok a _ ea);exact RB W.kitx_list I.kIn ⟨_,h1,VS⟩ e (λz=>nomatch z) h
 | @tup a xs ea=>
  cases (show u=Value.ref a from rx)
  obtain⟨_,_,_,p⟩:=(show X1 X.prog X.w H s.heap a (.tup xs) from I.hok a _ ea);obtain⟨o,h1,h2,_⟩:=p;exact RB W.kitx_tuple I.kIn ⟨o,h1,h2⟩ e (λz=>nomatch z) h
 | @dK a kvs ea=>
  cases (show u=Value.ref a from rx)
  obtain⟨_,_,vs,_,p⟩:=(show X1 X.prog X.w H s.heap a (.dK kvs) from I.hok a _ ea);obtain⟨o,es,ep,h1,h2,_⟩:=p;exact RB W.kitx_dict I.kIn ⟨o,h1,h2.1⟩ e (λz=>nomatch z) h
 | @dT a kvs ea=>
  cases (show u=Value.ref a from rx)
  obtain⟨_,_,xs,_,o,es,ep,h1,h2,_⟩:=(show X1 X.prog X.w H s.heap a (.dT kvs) from I.hok a _ ea);exact RB W.kitx_dict I.kIn ⟨o,h1,h2.1⟩ e (λz=>nomatch z) h
 | @ins a C dx fs ea cl ha hn htk hm=>
  cases (show u=Value.ref a from rx)
  obtain⟨mA,O,_⟩:=Hf I.hok ea;obtain⟨od,J,_⟩:=O.look;exact RB (W.kitx_own (cl.get _) cl.hd ha hn htk hm) I.kIn J e (λz=>nomatch z) h
end
structure Wj (k:Nat)(A:Around):Prop where
 hd:A.handled=none
 dp:A.depth+3*k+5<recursionLimit
 un:A.units+16*k+200<cLine
def Wj.deeper {k:Nat}(r:Wj (k+1) A)(env:Env):Wj k (A.deeper env):=
 ⟨r.hd,by have:=r.dp;show A.depth+1+3*k+5<_;omega,by have:=r.un;show A.units+3+16*k+200<_;omega⟩
def xH {A:WM}{us:List WQ}{kw:List (Str×WQ)}:(A.under (.builtin "type.__call__" ⟨.ref C::us,kw⟩)).depth=A.depth+1:=by
 first | rfl | simp[Around.under,Code.weight,Code.isCreation,Code.isGuard,Code.isCaller,Code.frames,Code.isFrame,guardIds]
def xG {A:WM}{us:List WQ}{kw:List (Str×WQ)}:(A.under (.builtin "type.__call__" ⟨.ref C::us,kw⟩)).units=A.units+1:=by
 first | rfl | simp[Around.under,Code.cUnits,Code.frames,Code.isFrame]
def Wj.make {k:Nat}(r:Wj (k+1) A)(C:WP)(us:List WQ)(kw:List (Str×WQ)):Wj k (A.under (.builtin "type.__call__" ⟨.ref C::us,kw⟩)):=
 ⟨r.hd,by have:=r.dp;rw[xH];omega,by have:=r.un;rw[xG];omega⟩
def Wj.depth {k:Nat}(r:Wj k A):A.depth<recursionLimit:=by have:=r.dp;omega
def sw:TA:=λ_ H Q=>Q [] H
def ya (ta:TE)(tr:TA):TA:=λσ H Q=>ta σ H λx H1=>tr σ H1 λxs H2=>Q (x::xs) H2
section
variable {X:Cx}{e:WW}{es:List WW}{te:TE}{t:TA}{pos:Pos}
def xu:PA X [] sw:=λ_ _ _ _ H Q I h=>RH ⟨[],H,I,.nil,h⟩
def Hb (ha:PE X e te)(hr:PA X es t)(hs:starEach (e::es) X.env=(false,eval e X.env)::starEach es X.env:=by rfl):PA X (e::es) (ya te t):=by
 intro pos WZ s σ H Q I h;rw[hs];show wpAny _ _ (spliced ((false,eval e X.env)::backTo pos (starEach es X.env))) _ _ s;refine QH (J5 (ha WZ s σ H _ I h) λu s1 ⟨x,H1,I1,r1,q1⟩=>?_);exact J5 (hr pos WZ s1 σ H1 _ I1 q1) λus s2 ⟨xs,H2,I2,r2,q2⟩=>⟨x::xs,H2,I2,.cons r1 r2,q2⟩
def fW (t:TA):TE:=λσ H Q=>t σ H λxs H1=>xs.length<=sizeLine/\∀p,H1 p=none->Q (.ref p) (J7 H1 p (.tup xs))
def eB (t:TA):TE:=λσ H Q=>t σ H λxs H1=>xs.length<=sizeLine/\∀p,H1 p=none->Q (.ref p) (J7 H1 p (.lst xs))
def iB {x1}(h:PA X es t):PE X (.Tuple es x1 pos) (fW t):=by
 intro WZ s σ H Q I hq;refine wpAny_Tuple_spliced (J5 (h pos WZ s σ H _ I hq) λus s1 ⟨xs,H1,I1,r,z,q⟩=>⟨by rw[<-r.length];exact z,?_⟩);have hf:H1 s1.heap.objs.size=none:=I1.hok.fresh (XE _);refine⟨.ref s1.heap.objs.size,J7 H1 s1.heap.objs.size (.tup xs),I1.laid (t':=s1.toks) (λb u e=>XC _ e) (XE _) ?_,VS,q _ hf⟩;exact⟨z,us,r,⟨_,XF _ VS,VS,_,VS⟩⟩
def iE (h:PA X es t):PE X (.List es pos) (eB t):=by
 intro WZ s σ H Q I hq;refine wpAny_List_spliced (J5 (h pos WZ s σ H _ I hq) λus s1 ⟨xs,H1,I1,r,z,q⟩=>⟨by rw[<-r.length];exact z,?_⟩);have hf:H1 s1.heap.objs.size=none:=I1.hok.fresh (XE _);refine⟨.ref s1.heap.objs.size,J7 H1 s1.heap.objs.size (.lst xs),I1.laid (t':=s1.toks) (λb u e=>XC _ e) (XE _) ?_,VS,q _ hf⟩;exact⟨z,us,0,r,XF _ VS⟩
end
abbrev Sp:=List V->Hp->VK->XK->Prop
abbrev tL:=List Env->Hp->WR->XK->WQ->WR->Prop
structure jF (P:Program)(w:World)(K:W.Frag)(mg:Str->Option Value)(base:Heap)(A:Around)(outer:List Env)(s:Shared)(H:Hp):Prop where
 frames:A.frames=some outer
 mod:Mod K mg base
 bs:∀b o,base.get? b=some o->s.heap.get? b=some o/\H b=none
 bsz:base.objs.size<=s.heap.objs.size
 funs:s.heap.FunFrames base outer
 frf:∀b∈uN outer,H b=none
 hok:Ro P w H s.heap
 bare:AllBare s.gens
def CE (outer:List Env)(P:WO)(w:WN)(H:Hp)(s:WR)(Q:VK)(u:WQ)(s':WR):Prop:=
 ∃v H',s'.os=s.os/\AllBare s'.gens/\Un (uN outer) [] H H' s.heap s'.heap/\Ro P w H' s'.heap/\Yh v u/\Q v H'
def CR (CX:tL)(outer:List Env)(P:WO)(w:WN)(H:Hp)(s:WR)(Q:VK)(E:XK)(r:Result)(s':WR):Prop:=
 match r with
 | .ok (.ret u)=>CE outer P w H s Q u s'
 | .ok _=>False
 | .error e=>CX outer H s E e s'
structure Yx (P:Program)(w:World)(K:W.Frag)(mg:Str->Option Value)(base:Heap)(CX:tL)(k:Nat)(f:Addr)(fd:FuncData)(ps:List Str)(sp:Sp):Prop where
 len:∀vs H Q E,sp vs H Q E->vs.length=ps.length
 run:∀(A:WM) (outer:List Env) (s:WR) (H:Hp) (args:Args) (us:List WQ) (vs:List V) (Q:VK) (E:XK),Wj k A->jF P w K mg base A outer s H->BindsTo s fd args (ps.zip us)->Yd vs us->sp vs H Q E->
  codeAny (model P w) A (.call (.ref f) args) (CR CX outer P w H s Q E) s
def jF.make {K:WY}(e:jF P w K mg base A outer s H)(C:WP)(us:List WQ)(kw:List (Str×WQ)):
  jF P w K mg base (A.under (.builtin "type.__call__" ⟨.ref C::us,kw⟩)) outer s H:=⟨by first | exact e.frames | (simpa[Around.under,Code.envs,Code.isFrame,pushEnvs] using e.frames),e.mod,e.bs,e.bsz,e.funs,e.frf,e.hok,e.bare⟩
section
variable {X:Cx}{WZ:List (WP×Obj)}{σ:St}{H:Hp}{s s':WR}
def Z7.env0 (I:Z7 X WZ σ H s):jF X.prog X.w X.K X.mg X.base X.A X.stack s H:=
 ⟨I.ok.frames,I.ok.mod,I.bs,XN I.ok.bsz I.sz,I.stack,I.stkFree,I.hok,I.bare⟩
def Z7.after (I:Z7 X WZ σ H s)(h:CE X.stack X.prog X.w H s Q u s'):EP X WZ σ Q u s':=by
 obtain⟨v,H',os,bare,un,hok,r,q⟩:=h;obtain⟨hh,g,d,t,os'⟩:=s';obtain rfl:os'=s.os:=os;exact⟨v,H',I.call (h':=hh) (g':=g) (d':=d) (t':=t) (ch:=[]) un hok bare (λb z=>absurd z (by simp)),r,q⟩
end
def yb (sp:Sp)(dvs:List V)(E:XK)(t:TA):TE:=λσ H Q=>t σ H λvs H1=>sp (vs++dvs) H1 Q E
def Zaa (C:WP)(m:Str)(sp:Sp)(dvs:List V)(E:XK)(ta:TE)(t:TA):TE:=λσ H Q=>ta σ H λx H1=>∃a dx fs,x=.ref a/\H1 a=some (.ins C dx fs)/\fs.lookup m=none/\
 t σ H1 λvs H2=>sp (x::(vs++dvs)) H2 Q E
def eA (C:WP)(sp:Sp)(dvs:List V)(E:XK)(t:TA):TE:=λσ H Q=>t σ H λvs H1=>∀x dx,H1 x=none->H1 dx=none->dx≠x->
 sp (.ref x::(vs++dvs)) (J7 (J7 H1 dx (.own x)) x (.ins C dx [])) (λv H2=>v=.non/\Q (.ref x) H2) E
def Ya (K:WY)(fd:VZ)(ps:List Str)(ds:List WQ):Prop:=
 ∀(s:WR) (us:List WQ),K.In s.heap->(us++ds).length=ps.length->BindsTo s fd ⟨us,[]⟩ (ps.zip (us++ds))
def Ya.all {K:WY}{ps:List Str}(h:∀us:List WQ,us.length=ps.length->bindArgs fd ⟨us,[]⟩=pure (ps.zip us)):Ya K fd ps []:=λs us _ hl=>by
 rw[YK] at hl |-;exact .of_eq (h us hl)
def Ml (CX:tL)(X:Cx)(E:XK):Prop:=∀(WZ:List (WP×Obj)) (σ:St) (H:Hp) (s:WR) (e:WQ) (s':WR),Z7 X WZ σ H s->CX X.stack H s E e s'->X.xe e s'
section
variable {X:Cx}{CX:tL}{k:Nat}{f C:WP}{fd:VZ}{ps:List Str}{sp:Sp}{dvs:List V}{ds:List WQ}{E:XK}{x m:Str}{p pos apos:Pos}{e o:WW}{es:List WW}{ta:TE}{t:TA}
def Bv {WZ:List (WP×Obj)}{σ:St}{H:Hp}{s:WR}{Q:VK}{us:List WQ}{vs:List V}(F:Yx X.prog X.w X.K X.mg X.base CX k f fd ps sp)(hr:Wj k X.A)(hb:Ya X.K fd ps ds)(hd:Yd dvs ds)(hx:Ml CX X E)
  (I:Z7 X WZ σ H s) (r:Yd vs us) (h:sp (vs++dvs) H Q E):wpAny (model X.prog X.w) X.A (call (.ref f) us) (EP X WZ σ Q) X.xe s:=by
 have r2:Yd (vs++dvs) (us++ds):=r.append hd;have hl:(us++ds).length=ps.length:=by rw[<-r2.length];exact F.len _ _ _ _ h
 refine wpAny_call (codeAny_mono (F.run X.A X.stack s H ⟨us,[]⟩ (us++ds) (vs++dvs) Q E hr I.env0 (hb s us I.kIn hl) r2 h) λr s' hq=>?_)
 cases r with
 | error e=>exact hx WZ σ H s e s' I hq
 | ok fl=>
  cases fl with
  | ret u=>exact I.after hq
  | next=>exact False.elim hq
  | brk=>exact False.elim hq
  | cont=>exact False.elim hq
def vg (F:Yx X.prog X.w X.K X.mg X.base CX k f fd ps sp)(hr:Wj k X.A)(hg:Gl X x)(hm:X.mg x=some (.ref f))(hk:W.keepIn X.K (.ref f)=true)(hb:Ya X.K fd ps ds)(hd:Yd dvs ds)(hx:Ml CX X E)
  (ha:PA X (e::es) t) (hdb:(x==("__debug__":Str))=false:=by decide) (he:starEach (e::es) X.env=(false,eval e X.env)::starEach es X.env:=by rfl) (hpl:(backTo pos (starEach es X.env)).any (·.1)=false:=by rfl):
  PE X (.Call (.Name x p) (e::es) [] pos) (yb sp dvs E t):=by
 intro WZ s σ H Q I h;refine wpAny_Call_Name_kw (Qw I hg hm ?_ hdb);refine SH (h₀:=X.base) I.ok.mod.kin hk (J5 (ha pos WZ s σ H _ I h) λus s1 ⟨vs,H1,I1,r,q⟩=>⟨I1.kIn,?_⟩) he hpl;exact Bv F hr hb hd hx I1 r q
def rR (F:Yx X.prog X.w X.K X.mg X.base CX k f fd ps sp)(hr:Wj k X.A)(hg:Gl X x)(hm:X.mg x=some (.ref f))(hk:W.keepIn X.K (.ref f)=true)(hb:Ya X.K fd ps ds)(hd:Yd dvs ds)(hx:Ml CX X E)
  (hdb:(x==("__debug__":Str))=false:=by decide):PE X (.Call (.Name x p) [] [] pos) (yb sp dvs E sw):=by
 intro WZ s σ H Q I h;refine wpAny_Call_Name_kw (Qw I hg hm ?_ hdb);exact W.callWith_K0 I.kIn hk (Bv (us:=[]) F hr hb hd hx I .nil h)
structure Mk (K:W.Frag)(C f:Addr):Prop where
 makes:W.makesIn K C=true
 init:W.findIn K (.ref C) "__init__"=some (some (.ref f))
 fn:W.isFn K (.ref f)=true
 kp:W.keepIn K (.ref C)=true
def sX {WZ:List (WP×Obj)}{σ:St}{H:Hp}{s:WR}{Q:VK}{us:List WQ}{vs:List V}(M:Mk X.K C f)(F:Yx X.prog X.w X.K X.mg X.base CX k f fd ps sp)(hr:Wj (k+1) X.A)(hb:Ya X.K fd ps ds)(hd:Yd dvs ds)
  (hx:Ml CX X E) (I:Z7 X WZ σ H s) (r:Yd vs us)
  (h:∀x dx,H x=none->H dx=none->dx≠x->sp (.ref x::(vs++dvs)) (J7 (J7 H dx (.own x)) x (.ins C dx [])) (λv H2=>v=.non/\Q (.ref x) H2) E):
  wpAny (model X.prog X.w) X.A (call (.ref C) us) (EP X WZ σ Q) X.xe s:=by
 have hq:=h (s.heap.objs.size+1) s.heap.objs.size (I.hok.fresh (Nat.le_succ _)) (I.hok.fresh (XE _)) (XH (RM _));have I2:=Z7.made (C:=C) I;have r2:Yd (V.ref (s.heap.objs.size+1)::(vs++dvs)) (Value.ref (s.heap.objs.size+1)::(us++ds)):=.cons VS (r.append hd);have hl:(Value.ref (s.heap.objs.size+1)::us++ds).length=ps.length:=by
  have e:=r2.length;rw[F.len _ _ _ _ hq] at e;exact e.symm
 refine wpAny_call (qt (f:=f) I.kIn M.makes M.init (beq_iff_eq.mp M.fn) (codeAny_mono (F.run _ X.stack _ _ ⟨Value.ref (s.heap.objs.size+1)::us,[]⟩ (Value.ref (s.heap.objs.size+1)::(us++ds)) _ _ E (hr.make C us [])
  (I2.env0.make C us []) (hb _ (Value.ref (s.heap.objs.size+1)::us) I2.kIn hl) r2 hq) λr s' hq'=>?_))
 cases r with
 | error e=>exact hx WZ σ _ _ e s' I2 hq'
 | ok fl=>
  cases fl with
  | ret u=>
   obtain⟨v,H',I3,rv,ev,q3⟩:=I2.after hq';subst ev;exact⟨rv,⟨V.ref (s.heap.objs.size+1),H',I3,VS,q3⟩⟩
  | next=>exact False.elim hq'
  | brk=>exact False.elim hq'
  | cont=>exact False.elim hq'
def nR (M:Mk X.K C f)(F:Yx X.prog X.w X.K X.mg X.base CX k f fd ps sp)(hr:Wj (k+1) X.A)(hg:Gl X x)(hm:X.mg x=some (.ref C))(hb:Ya X.K fd ps ds)(hd:Yd dvs ds)(hx:Ml CX X E)
  (ha:PA X (e::es) t) (hdb:(x==("__debug__":Str))=false:=by decide) (he:starEach (e::es) X.env=(false,eval e X.env)::starEach es X.env:=by rfl) (hpl:(backTo pos (starEach es X.env)).any (·.1)=false:=by rfl):
  PE X (.Call (.Name x p) (e::es) [] pos) (eA C sp dvs E t):=by
 intro WZ s σ H Q I h;refine wpAny_Call_Name_kw (Qw I hg hm ?_ hdb);refine SH (h₀:=X.base) I.ok.mod.kin M.kp (J5 (ha pos WZ s σ H _ I h) λus s1 ⟨vs,H1,I1,r,q⟩=>⟨I1.kIn,?_⟩) he hpl;exact sX M F hr hb hd hx I1 r q
end
def PK (X:Cx)(kws:List Keyword)(t:TA):Prop:=
 ∀(pos:Pos) (WZ:List (WP×Obj)) (s:WR) (σ:St) (H:Hp) (Q:List V->Hp->Prop),Z7 X WZ σ H s->t σ H Q->wpAny (model X.prog X.w) X.A (evalAll ((backToKw pos (keywordEach kws X.env)).map (·.2))) (AP X WZ σ Q) X.xe s
section
variable {X:Cx}{CX:tL}{k:Nat}{f C:WP}{fd:VZ}{ps ks:List Str}{sp:Sp}{E:XK}{x m:Str}{p pos apos kpos:Pos}{e o:WW}{es:List WW}{kws:List Keyword}{te ta:TE}{t tk:TA}{nm:Option Str}
structure aT (K:W.Frag)(fd:FuncData)(ps ks:List Str)(g:List Value->List Value->List Value)(gV:List V->List V->List V):Prop where
 to:∀(s:WR) (us ws:List WQ),K.In s.heap->(g us ws).length=ps.length->BindsTo s fd ⟨us,ks.zip ws⟩ (ps.zip (g us ws))
 rel:∀{vs:List V} {us:List WQ} {zs:List V} {ws:List WQ},Yd vs us->Yd zs ws->Yd (gV vs zs) (g us ws)
variable {g:List WQ->List WQ->List WQ}{gV:List V->List V->List V}
end
structure Zy (N P:List Str)(sc:Scope):Prop where
 kind:sc.kind=.function
 co:sc.isCoroutine=false
 gen:sc.isGenerator=false
 nd:N.Nodup
 pre:N.take P.length=P
 par:∀x∈P,sc.names.lookup x=some .local\/sc.names.lookup x=some .cell
 nofree:∀y∈sc.names,y.2≠.free
def Cr {kindOf:Str->Option NameKind}{x:Str}:∀{binds:List (Str×WQ)} {m:Str->Option WQ},(∀v,(x,v)∉binds)->bindL kindOf binds m x=m x
 | [],_,_=>rfl
 | (n,v)::r,m,h=>by
  unfold bindL;rw[Cr λw hw=>h w (XV _ hw)]
  split
  ·have:x≠n:=by rintro rfl;exact h v QP
   simp[this]
  ·rfl
def Cu {kindOf:Str->Option NameKind}{x:Str}:∀{binds:List (Str×WQ)} {m:Str->Option WQ},(∀v,(x,v)∉binds)->bindC kindOf binds m x=m x
 | [],_,_=>rfl
 | (n,v)::r,m,h=>by
  unfold bindC;rw[Cu λw hw=>h w (XV _ hw)]
  split
  ·rfl
  ·have:x≠n:=by rintro rfl;exact h v QP
   simp[this]
def Ct {kindOf:Str->Option NameKind}:∀{P:List Str} {vs:List WQ} {i:Nat} {m:Str->Option WQ},P.Nodup->P[i]?=some x->vs[i]?=some v->kindOf x=some .local->
  bindL kindOf (P.zip vs) m x=some v
 | [],_,_,_,_,h,_,_=>by simp at h
 | _::_,[],_,_,_,_,h,_=>by simp at h
 | p::P,w::vs,0,m,nd,h1,h2,hk=>by
  simp at h1 h2;subst h1;subst h2;show bindL kindOf ((p,w)::P.zip vs) m p=_;unfold bindL;rw[Cr λv hv=>(SD.mp nd).1 (RQ hv).1,XY hk];simp
 | p::P,w::vs,i+1,m,nd,h1,h2,hk=>by
  show bindL kindOf ((p,w)::P.zip vs) m x=_;unfold bindL;exact Ct (i:=i) (List.nodup_cons.mp nd).2 (by simpa using h1) (by simpa using h2) hk
def Cv {kindOf:Str->Option NameKind}:∀{P:List Str} {vs:List WQ} {i:Nat} {m:Str->Option WQ},P.Nodup->P[i]?=some x->vs[i]?=some v->kindOf x≠some .local->
  bindC kindOf (P.zip vs) m x=some v
 | [],_,_,_,_,h,_,_=>by simp at h
 | _::_,[],_,_,_,_,h,_=>by simp at h
 | p::P,w::vs,0,m,nd,h1,h2,hk=>by
  simp at h1 h2;subst h1;subst h2;show bindC kindOf ((p,w)::P.zip vs) m p=_;unfold bindC;rw[Cu λv hv=>(SD.mp nd).1 (RQ hv).1,XX hk];simp
 | p::P,w::vs,i+1,m,nd,h1,h2,hk=>by
  show bindC kindOf ((p,w)::P.zip vs) m x=_;unfold bindC;exact Cv (i:=i) (List.nodup_cons.mp nd).2 (by simpa using h1) (by simpa using h2) hk
def start (N:List Str)(vs:List V):St:=vs.map some++List.replicate (N.length-vs.length) none
def Kz (CX:tL)(P:WO)(w:WN)(K:WY)(mg:Str->Option WQ)(base:WU)(N:List Str)(qual:Str)(scope:Scope)(f:WP)(cd:WQ)(A:WM)(outer:List Env)(s:WR)(H:Hp)(E:XK):Cx where
 prog:=P
 w:=w
 K:=K
 mg:=mg
 base:=base
 A:=A.deeper (envOfC qual scope s.heap.objs.size f cd)
 N:=N
 s₀:=s
 H₀:=H
 env:=envOfC qual scope s.heap.objs.size f cd
 outer:=outer
 stack:=envOfC qual scope s.heap.objs.size f cd::outer
 ex:=[]
 calm:=true
 fn:=λ_=>true
 pn:=[]
 xe:=λe s'=>wpAny (model P w) (A.deeper (envOfC qual scope s.heap.objs.size f cd)) (leaving (envOfC qual scope s.heap.objs.size f cd) e) (λ_ s''=>CX outer H s E e s'') (λe' s''=>CX outer H s E e' s'') s'
def jz {sc:Scope}(h:sc.names.lookup x=some .cell):∃c,(cellsFrom n sc.names []).lookup x=some c:=by
 have q:=UA sc.names n [] (.inl h);exact Option.isSome_iff_exists.mp q
def Co {CX:tL}{P:WO}{w:WN}{K:WY}{mg:Str->Option WQ}{base:WU}{N ps:List Str}{qual:Str}{scope:Scope}{f:WP}{cd:WQ}{A:WM}{outer:List Env}{s s1:WR}{H:Hp}{E:XK}{us:List WQ}{vs:List V}
  (S:Zy N ps scope) (hd:A.handled=none) (e0:jF P w K mg base A outer s H) (hl:vs.length=ps.length) (r:Yd vs us)
  (x:InCallC s s.heap.objs.size (bindL (envOfC qual scope s.heap.objs.size f cd).kindOf (ps.zip us) λ_=>none) (cellsFrom (s.heap.objs.size+1) scope.names []) (bindC (envOfC qual scope s.heap.objs.size f cd).kindOf (ps.zip us) λ_=>none) s1):
  Z7 (Kz CX P w K mg base N qual scope f cd A outer s H E) [] (start N vs) H s1:=by
 have hpl:ps.length<=N.length:=by have:=congrArg List.length S.pre;rw[YM] at this;omega
 obtain⟨h1,tk,rfl,hk⟩:=x.done;have noA:∀b:WP,b∉(Kz CX P w K mg base N qual scope f cd A outer s H E).ex:=λb z=>absurd (show b∈([]:List WP) from z) (by simp);refine⟨⟨e0.mod,S.kind,VS,VS,XE _,λy z c h1 h2=>?_,λy hy=>?_,λy c _ h=>?_,λ_=>hd,Around.frames_deeper e0.frames,.inr ⟨VS,VS⟩,λb z=>absurd z (noA b),e0.bs,e0.bsz,λb _ _=>noA b,λb z=>absurd z (noA b),e0.funs,e0.frf⟩,
  rfl,e0.bare,Un.kept hk,⟨_,x.toInCall.ns,λi y v h1 h2 h3=>?_⟩,λy c h=>⟨_,x.cell y c h⟩,e0.hok.fresh (Nat.le_refl _),λy c h=>?_,λp hp=>absurd (show p∈([]:List (WP×Obj)) from hp) (by simp),e0.hok.kept hk,?_⟩
 ·exact name_of_addr x.apart (QV h1) (QV h2)
 ·have hy:scope.names.lookup y=some .cell\/scope.names.lookup y=some .free:=hy
  rcases hy with hy | hy
  ·exact jz hy
  ·exact absurd VS (S.nofree _ (QV hy))
 ·exact SF (x.above y c (QV h))
 ·have hi:i<vs.length:=by
   unfold start at h2;by_cases hi:i<vs.length
   ·exact hi
   ·rw[List.getElem?_append_right (by simpa using hi)] at h2;rw[List.getElem?_replicate] at h2
    split at h2<;>cases h2
  have ha:vs[i]?=some v:=by
   unfold start at h2;rw[List.getElem?_append_left (by simpa using hi),List.getElem?_map] at h2
   cases e:vs[i]? with
   | none=>rw[e] at h2;cases h2
   | some a=>rw[e] at h2;cases h2;rfl
  obtain⟨u,hu,rv⟩:=r.get ha;have hp:ps[i]?=some y:=by
   rw[<-S.pre,List.getElem?_take_of_lt (by omega)];exact h1
  have ndP:ps.Nodup:=by rw[<-S.pre];exact S.nd.sublist (List.take_sublist _ _)
  refine⟨u,rv,?_⟩
  rcases S.par y (QB hp) with k | k
  ·exact .inl ⟨k,Ct ndP hp hu k⟩
  ·obtain⟨c,e⟩:=jz (n:=s.heap.objs.size+1) k;refine .inr ⟨.inl k,c,e,?_⟩;have q:=x.cell y c e;rw[Cv ndP hp hu (by show scope.names.lookup y≠_;rw[k];decide)] at q;exact q
 ·exact e0.hok.fresh (SF (x.above y c (QV h)))
 ·unfold start;show _=N.length;rw[PX,XI,SY];omega
def ke {CX:tL}{P:WO}{w:WN}{K:WY}{mg:Str->Option WQ}{base:WU}{k:Nat}{f:WP}{name qual:Str}{params:Arguments}{body:List WV}{scope:Scope}{dV kV doc pm cdv ct oc:WQ}{an od:Option WP}
  {osl:Array (Option WQ)} {N ps:List Str} {sp:Sp} (lk:K.lookup f=some ⟨oc,od,.func (W.fnOf name qual params body scope dV kV doc pm an cdv ct),osl⟩) (hcd:W.codeIn K cdv qual=true) (S:Zy N ps scope)
  (len:∀vs H Q E,sp vs H Q E->vs.length=ps.length)
  (hbody:∀(A:WM) (outer:List Env) (s:WR) (H:Hp) (vs:List V) (Q:VK) (E:XK),Wj k (A.deeper (envOfC qual scope s.heap.objs.size f cdv))->sp vs H Q E->
   ∃t,wC (Kz CX P w K mg base N qual scope f cdv A outer s H E) body t/\t {nx:=λ_ H'=>Q .non H',rt:=Q} (start N vs) H):
  Yx P w K mg base CX (k+1) f (W.fnOf name qual params body scope dV kV doc pm an cdv ct) ps sp:=by
 refine⟨len,λA outer s H args us vs Q E hr e0 hb r hsp=>?_⟩;have hl:=len _ _ _ _ hsp;have KX:K.In s.heap:=e0.mod.kin.keeps λb o e=>(e0.bs b o e).1;have lim:s.heap.NoLimit:=e0.mod.nolimit.keeps λb o e=>(e0.bs b o e).1;have hkind:∀y∈ps.zip us,scope.names.lookup y.1=some .local\/(scope.names.lookup y.1=some .cell/\((cellsFrom (s.heap.objs.size+1) scope.names []).lookup y.1).isSome=true):=λ⟨n,v⟩ hy=>by
  rcases S.par n (RQ hy).1 with q | q
  ·exact .inl q
  ·exact .inr ⟨q,UA _ _ _ (.inl q)⟩
 refine codeAny_call_function hr.depth (KX _ _ lk) VS S.co S.gen VS (W.codeRec_of KX hcd) (hb _ _ _ _ ?_);refine wpAny_newFunctionEnv_cells S.kind hkind λenv he s1 x=>?_;subst he;refine⟨lim.keeps x.toInCall.keep,codeAny_func ?_⟩;obtain⟨t,ht,hq⟩:=hbody A outer s H vs Q E (hr.deeper _) hsp;have I:Z7 (Kz CX P w K mg base N qual scope f cdv A outer s H E) [] (start N vs) H s1:=Co S hr.hd e0 hl r x;refine wpAny_mono (ht [] s1 (start N vs) H _ I hq) (λfl s' hs=>?_) λe s' hs=>hs;have fin:∀{σ':St} {H':Hp} {v:V} {u:WQ},Z7 (Kz CX P w K mg base N qual scope f cdv A outer s H E) [] σ' H' s'->Yh v u->Q v H'->CE outer P w H s Q u s':=
  λ{σ' H' v u} J rv q=>⟨v,H',J.os,J.bare,J.base,J.hok,rv,q⟩
 cases fl with
 | ret u=>
  obtain⟨v,σ',H',J,rv,q⟩:=hs;exact fin J rv q
 | next=>
  obtain⟨σ',H',J,q⟩:=hs;exact fin (v:=V.non) (u:=Value.none) J VS q
 | brk=>
  obtain⟨_,_,_,q⟩:=hs;exact False.elim q
 | cont=>
  obtain⟨_,_,_,q⟩:=hs;exact False.elim q
section
variable {X:Cx}{x:Str}{p pos:Pos}{e:WW}{es:List WW}{t:TA}{id T:String}{r:List V->Hp->VK->Prop}
def bF (r:List V->Hp->VK->Prop)(t:TA):TE:=λσ H Q=>t σ H λvs H1=>r vs H1 Q
def yy (hc:Uh X (.builtin id) r)(hg:Gl X x)(hm:X.mg x=none)(hv:bootBuiltins x=some (.builtin id))(ha:PA X (e::es) t)(hn:x≠"__name__":=by decide)(hdb:(x==("__debug__":Str))=false:=by decide)
  (he:starEach (e::es) X.env=(false,eval e X.env)::starEach es X.env:=by rfl) (hpl:(backTo pos (starEach es X.env)).any (·.1)=false:=by rfl):PE X (.Call (.Name x p) (e::es) [] pos) (bF r t):=by
 intro WZ s σ H Q I h;refine wpAny_Call_Name_kw (Rh I hg hm hv ?_ hn hdb);exact PyProof.Rows.callWith_builtin1 (J5 (ha pos WZ s σ H _ I h) λus s1 ⟨vs,H1,I1,r1,q1⟩=>hc WZ s1 σ H1 vs us Q I1 r1 q1) he hpl
def uu (hc:Uh X (.type T) r)(hg:Gl X x)(hm:X.mg x=none)(hv:bootBuiltins x=some (.type T))(ha:PA X (e::es) t)(hn:x≠"__name__":=by decide)(hdb:(x==("__debug__":Str))=false:=by decide)
  (he:starEach (e::es) X.env=(false,eval e X.env)::starEach es X.env:=by rfl) (hpl:(backTo pos (starEach es X.env)).any (·.1)=false:=by rfl):PE X (.Call (.Name x p) (e::es) [] pos) (bF r t):=by
 intro WZ s σ H Q I h;refine wpAny_Call_Name_kw (Rh I hg hm hv ?_ hn hdb);exact QF (J5 (ha pos WZ s σ H _ I h) λus s1 ⟨vs,H1,I1,r1,q1⟩=>hc WZ s1 σ H1 vs us Q I1 r1 q1) he hpl
end
end L2
namespace HT
open PySem PyProof.Rows
def ca:List Int->List Int->Bool
 | [],[]=>false
 | [],_::_=>true
 | _::_,[]=>false
 | x::xs,y::ys=>if x=y then ca xs ys else decide (x<y)
section
open PySem.SeqAt
open PySem.AutoSeq1 (wpAny_loadPart')
open PySem.MeetsSeq PySem.MeetsSeq2 PySem.MeetsSeq3
end
section
variable {prog:WO}{w:WN}{A:WM}{E:WQ->WR->Prop}{s:WR}
def cat_tup {vs ws:List WQ}{Q:WQ->WR->Prop}(ht:IsTup s.heap t vs.toArray)(hb:IsTup s.heap b ws.toArray)(hv:vs≠[])
  (h1:ws=[]->Q (.ref t) s) (h2:ws≠[]->Q (.ref s.heap.objs.size) {s with heap:=s.heap.push {cls:=.type "tuple",data:=.seq (vs++ws).toArray}})
  (hsz:vs.length+ws.length<=sizeLine):wpAny (model prog w) A (binaryOp .Add (.ref t) (.ref b)) Q E s:=by
 obtain⟨⟨cls,dd,data,sl⟩,ho,hc,n,hd⟩:=id ht;obtain⟨⟨cls2,dd2,data2,sl2⟩,ho2,hc2,n2,hd2⟩:=id hb;simp only at hc hd hc2 hd2;subst hc hd hc2 hd2;have e:vs.toArray++ws.toArray=(vs++ws).toArray:=by simp
 by_cases hw:ws=[]
 ·exact concat_meets ⟨_,ho,VS⟩ ⟨_,ho2,VS⟩ noFill_tuple_add seq_tuple_add SS SM (SI _ _)
   (tuple_addW1 t b vs.toArray ws.toArray n n2 dd dd2 sl sl2 (by simpa using hv) (by simp[hw])) ⟨ho,ho2,h1 hw⟩
 ·refine concat_meets ⟨_,ho,VS⟩ ⟨_,ho2,VS⟩ noFill_tuple_add seq_tuple_add SS SM (SI _ _)
   (tuple_addW2 t b vs.toArray ws.toArray n n2 dd dd2 sl sl2 (by simpa using hv) (by simpa using hw) (by rw[List.size_toArray,List.size_toArray];exact hsz)) ⟨ho,ho2,?_⟩
  rw[e];exact h2 hw
def sIx (n d:Nat):Option Int->Nat
 | none=>d
 | some v=>if v<0 then(v+(n:Int)).toNat else min v.toNat n
def ic (n d:Nat)(hd:d<=n)(o:Option Int):sIx n d o<=n:=by
 cases o with
 | none=>exact hd
 | some v=>
  show(if v<0 then(v+(n:Int)).toNat else min v.toNat n)<=n;by_cases hv:v<0
  ·rw[XY hv];omega
  ·rw[XX hv];exact Nat.min_le_right _ _
def vK (v:Int)(n d:Nat):(if v<0 then max (v+(n:Int)) 0 else min v (n:Int))=((sIx n d (some v):Nat):Int):=by
 show(if v<0 then max (v+(n:Int)) 0 else min v (n:Int))=(((if v<0 then(v+(n:Int)).toNat else min v.toNat n):Nat):Int);by_cases hv:v<0
 ·simp only[if_pos hv];omega
 ·simp only[if_neg hv];omega
def w8 (lo hi:Option Int)(n:Nat):Builtin.Slice.sliceAdjust lo hi 1 (n:Int)=(((sIx n 0 lo:Nat):Int),((sIx n n hi:Nat):Int)):=by
 have h1:¬((1:Int)<0):=by omega
 unfold Builtin.Slice.sliceAdjust;simp only[h1,if_false];refine Prod.ext ?_ ?_
 ·cases lo with
  | none=>rfl
  | some v=>exact vK v n 0
 ·cases hi with
  | none=>rfl
  | some v=>exact vK v n n
def xp (i j:Nat):Builtin.Slice.slicePlaces (i:Int) (j:Int) 1=j-i:=by
 unfold Builtin.Slice.slicePlaces;have h1:(1:Int)>0:=by omega
 simp only[h1,if_true,Int.ediv_one]
 split<;>omega
def Hv {Q:Option Int->WR->Prop}(p:IsPart v o)(h:Q o s):wpAny (model prog w) A (Builtin.Slice.slicePartIndex v) Q E s:=by
 cases p with
 | none=>exact slicePart_none h
 | int i t=>exact slicePart_int h
def Kg {lo hi:Option Int}{n:Nat}{Q:Int×Int×Nat->WR->Prop}(hs:s.heap.IsSliceOf sl vl vu .none)(pl:IsPart vl lo)(pu:IsPart vu hi)
  (h:Q (((sIx n 0 lo:Nat):Int),1,sIx n n hi-sIx n 0 lo) s):wpAny (model prog w) A (Builtin.Slice.sliceApplied (.ref sl) (pure (n:Int))) Q E s:=by
 obtain⟨os,hos,hcs,hds⟩:=id hs;unfold Builtin.Slice.sliceApplied Builtin.Slice.sliceFields;refine XA (XA (wpAny_field hos hds (x:=vl) VS (XA (wpAny_field hos hds (x:=vu) VS (XA (wpAny_field hos hds (x:=.none) VS (XB ?_)))))));refine XA (slicePart_none ?_);show wpAny _ _ (if ((1:Int)==0)=true then _ else _) _ _ s;rw[XX (by decide)];refine XA (Hv pl (XA (Hv pu (XA (XB ?_)))));show wpAny _ _ (match Builtin.Slice.sliceAdjust lo hi 1 (n:Int) with | (lo,hi)=>pure (lo,(1:Int),Builtin.Slice.slicePlaces lo hi 1)) _ _ s;rw[w8 lo hi n];show wpAny _ _ (pure (((sIx n 0 lo:Nat):Int),(1:Int),Builtin.Slice.slicePlaces ((sIx n 0 lo:Nat):Int) ((sIx n n hi:Nat):Int) 1)) _ _ s;rw[xp];exact XB h
def rJ (xs:Array WQ)(i k:Nat):((List.range k).filterMap λ(m:Nat)=>xs[((i:Int)+(m:Int)*1).toNat]?).toArray=((xs.toList.drop i).take k).toArray:=by
 have e:(λ(m:Nat)=>xs[((i:Int)+(m:Int)*1).toNat]?)=λm=>xs[i+m]?:=by
  funext m
  have:((i:Int)+(m:Int)*1).toNat=i+m:=by omega
  rw[this]
 rw[e];have:=pick_run xs i k;rw[TW] at this;have e2:((λx=>xs[x]?)∘λx=>i+x)=λm=>xs[i+m]?:=rfl;rw[e2] at this;rw[this]
def getItem_tuple_cut {lo hi:Option Int}{Q:WQ->WR->Prop}(ht:IsTup s.heap t items)(hs:s.heap.IsSliceOf sl vl vu .none)(pl:IsPart vl lo)(pu:IsPart vu hi)
  (hw:¬(sIx items.size 0 lo=0/\sIx items.size items.size hi=items.size))
  (h:Q (.ref s.heap.objs.size) {s with heap:=s.heap.push {cls:=.type "tuple",data:=.seq ((items.toList.drop (sIx items.size 0 lo)).take (sIx items.size items.size hi-sIx items.size 0 lo)).toArray}})
  (hsz:items.size<=sizeLine):wpAny (model prog w) A (getItem (.ref t) (.ref sl)) Q E s:=by
 have htake:sizeOk (.seq ((items.toList.drop (sIx items.size 0 lo)).take (sIx items.size items.size hi-sIx items.size 0 lo)).toArray):=by
  show((items.toList.drop (sIx items.size 0 lo)).take (sIx items.size items.size hi-sIx items.size 0 lo)).toArray.size<=sizeLine;rw[XJ,YM,RW,RD];omega
 have hj:sIx items.size items.size hi<=items.size:=ic _ _ (XE _) hi;obtain⟨os,hos,hcs,hds⟩:=id hs;have hTs:s.TypeIs (.ref sl) "slice":=⟨os,hos,hcs⟩;unfold getItem
 try with_reducible refine wpAny_holding ?_
 first | refine XA (XB ?_) | skip
 refine XA (wpAny_sequenceKey ht.typeIs (by decide) ?_);refine XA (wpAny_callSpecial?_slot (name:=Str.ofString "__getitem__") ht.typeIs TH
  (wpAny_call_entry TH ht.typeIs entry_tuple_getitem ?_ (args_tuple_getitem _ _)))
 show wpAny _ _ (Builtin.Tuple.tupleItemsOf (.ref t)>>=_) _ _ s;refine XA (tupleItemsOf_ ht ?_);refine XA (wpAny_typeOf hTs ?_);rw[XY (by decide)];refine XA (Kg hs pl pu ?_);have hno:¬((((sIx items.size 0 lo:Nat):Int)==0&&(1:Int)==1&&(sIx items.size items.size hi-sIx items.size 0 lo)==items.size)=true):=by
  intro q;rw[RE,RE] at q;have q1:((sIx items.size 0 lo:Nat):Int)=0:=eq_of_beq q.1.1;have q2:sIx items.size items.size hi-sIx items.size 0 lo=items.size:=eq_of_beq q.2;exact hw ⟨by omega,by omega⟩
 show wpAny _ _ (if (((sIx items.size 0 lo:Nat):Int)==0&&(1:Int)==1&&(sIx items.size items.size hi-sIx items.size 0 lo)==items.size)=true then _ else _) _ _ s;rw[XX hno,rJ]
 first
  | exact XA (m:=Builtin.Tuple.tupleExact _) (wpAny_newObj_type (XB ⟨_,VS,XB h⟩) htake)
  | exact XA (m:=Builtin.Tuple.tupleExact _) (wpAny_newObj_type (XA (XB (XB ⟨_,VS,XB h⟩))) htake)
  | exact XA (XA (m:=Builtin.Tuple.tupleExact _) (wpAny_newObj_type (XB (XB ⟨_,VS,XB h⟩)) htake))
  | exact XA (XA (m:=Builtin.Tuple.tupleExact _) (wpAny_newObj_type (XB ⟨_,VS,XB h⟩) htake))
end
end HT
namespace L2
open PySem PySem.Spec PyProof.Rows
abbrev TO:=St->Hp->(Option Int->Hp->Prop)->Prop
def PO (X:Cx)(e:Option WW)(t:TO):Prop:=
 ∀(WZ:List (WP×Obj)) (s:WR) (σ:St) (H:Hp) (Q:Option Int->Hp->Prop),Z7 X WZ σ H s->t σ H Q->
  wpAny (model X.prog X.w) X.A (evalPart e X.env) (λu s'=>∃o H',Z7 X WZ σ H' s'/\IsPart u o/\Q o H') X.xe s
def oJ:TO:=λ_ H Q=>Q none H
def fZ (t:TE):TO:=λσ H Q=>t σ H λx H1=>∃i,x=.int i/\Q (some i) H1
section
variable {X:Cx}{e:WW}{te:TE}{lo hi:Option WW}{tl th:TO}{pos p2:Pos}
def nO:PO X none oJ:=by
 intro WZ s σ H Q I h;rw[evalPart_none];exact XB ⟨none,H,I,.none,h⟩
def nN (h:PE X e te):PO X (some e) (fZ te):=by
 intro WZ s σ H Q I hw;rw[evalPart_some];refine J5 (h WZ s σ H _ I hw) λu s1 ⟨x,H1,I1,r1,q1⟩=>?_;obtain⟨i,rfl,q⟩:=q1;obtain⟨t,rfl⟩:=r1;exact⟨some i,H1,I1,.int i t,q⟩
def lC (X:Cx)(r:V->Option Int->Option Int->Hp->VK->Prop):Prop:=
 ∀(WZ:List (WP×Obj)) (s:WR) (σ:St) (H:Hp) (x:V) (v vl vu:WQ) (lo hi:Option Int) (sl:WP) (Q:VK),Z7 X WZ σ H s->Yh x v->s.heap.IsSliceOf sl vl vu .none->IsPart vl lo->IsPart vu hi->r x lo hi H Q->
  ∃T id,typeLookup (.type T) "__getitem__"=pure (some (.builtin id))/\s.TypeIs v T/\wpAny (model X.prog X.w) X.A (getItem v (.ref sl)) (EP X WZ σ Q) X.xe s
def lC.or {r r':V->Option Int->Option Int->Hp->VK->Prop}(h:lC X r)(h':lC X r'):lC X (λx lo hi H Q=>r x lo hi H Q\/r' x lo hi H Q):=by
 intro WZ s σ H x v vl vu lo hi sl Q I rx hs pl pu q
 rcases q with q | q
 ·exact h WZ s σ H x v vl vu lo hi sl Q I rx hs pl pu q
 ·exact h' WZ s σ H x v vl vu lo hi sl Q I rx hs pl pu q
def Zay (r:V->Option Int->Option Int->Hp->VK->Prop)(te:TE)(tl th:TO):TE:=λσ H Q=>te σ H λx H1=>tl σ H1 λl H2=>th σ H2 λu H3=>r x l u H3 Q
def rK {r:V->Option Int->Option Int->Hp->VK->Prop}(hr:lC X r)(he:PE X e te)(hl:PO X lo tl)(hu:PO X hi th):PE X (.Subscript e (.Slice lo hi none p2) pos) (Zay r te tl th):=by
 intro WZ s σ H Q I h;refine Subscript_ (J5 (he WZ s σ H _ I h) λv s1 ⟨x,H1,I1,r1,q1⟩=>?_);refine wpAny_Slice (J5 (hl WZ s1 σ H1 _ I1 q1) λvl s2 ⟨l,H2,I2,pl,q2⟩=>J5 (hu WZ s2 σ H2 _ I2 q2) λvu s3 ⟨u,H3,I3,pu,q3⟩=>?_);rw[evalPart_none];refine XB ?_;have I4:Z7 X WZ σ H3 {s3 with heap:=s3.heap.push {cls:=.type "slice",data:=.fields #[vl,vu,.none]}}:=I3.kept (t':=s3.toks) λb ob q=>XC _ q;obtain⟨T,id,hT,ht,hg⟩:=hr WZ {s3 with heap:=s3.heap.push {cls:=.type "slice",data:=.fields #[vl,vu,.none]}} σ H3 x v vl vu l u s3.heap.objs.size Q I4 r1 (Heap.IsSliceOf.new ..) pl pu q3;show wpAny (model X.prog X.w) X.A (subscriptTail e (.Slice lo hi none p2) v (.ref s3.heap.objs.size)) (EP X WZ σ Q) X.xe {s3 with heap:=s3.heap.push {cls:=.type "slice",data:=.fields #[vl,vu,.none]}};exact tail_any (ops:=[.ref s3.heap.objs.size,v]) ht hT hg (by with_unfolding_all rfl)
def Rm (xs:List V)(lo hi:Option Int):List V:=(xs.drop (HT.sIx xs.length 0 lo)).take (HT.sIx xs.length xs.length hi-HT.sIx xs.length 0 lo)
def Ig (xs:List V)(lo hi:Option Int):(Rm xs lo hi).length<=xs.length:=by
 unfold Rm;rw[YM,RW];omega
def bR (K:WY):V->Option Int->Option Int->Hp->VK->Prop:=λx lo hi H Q=>∃a xs,x=.ref a/\Tg K H a xs/\
 ¬(HT.sIx xs.length 0 lo=0/\HT.sIx xs.length xs.length hi=xs.length)/\∀p,H p=none->Q (.ref p) (J7 H p (.tup (Rm xs lo hi)))
def kS:lC X (bR X.K):=by
 intro WZ s σ H x v vl vu lo hi sl Q I rx hs pl pu h;obtain⟨a,xs,rfl,hx,hw,q⟩:=h
 cases rx
 obtain⟨its,r,ht,hz⟩:=I.tuple hx;have hlen:its.toArray.size=xs.length:=by rw[XJ];exact r.length.symm
 refine⟨"tuple",_,PyProof.Rows.slot_tuple_getitem.lookup,ht.typeIs,?_⟩;refine HT.getItem_tuple_cut ht hs pl pu (by rw[hlen];exact hw) ?_ (by rw[hlen];exact hz);rw[hlen];refine⟨.ref s.heap.objs.size,_,I.laid (t':=s.toks) (o:=.tup (Rm xs lo hi)) (λb ob q=>XC _ q) (XE _) ?_,VS,q _ (I.hok.fresh (XE _))⟩;exact⟨XN (Ig xs lo hi) hz,_,(r.drop (HT.sIx xs.length 0 lo)).take (HT.sIx xs.length xs.length hi-HT.sIx xs.length 0 lo),IsTup.new _ _⟩
def dw (K:WY):R2:=λx y H Q=>∃a b xs ys,x=.ref a/\y=.ref b/\Tg K H a xs/\Tg K H b ys/\xs≠[]/\xs.length+ys.length<=sizeLine/\
 (ys=[]->Q (.ref a) H)/\(ys≠[]->∀p,H p=none->Q (.ref p) (J7 H p (.tup (xs++ys))))
def Yd.nil_iff (r:Yd xs us):us=[]↔xs=[]:=by
 cases r with
 | nil=>simp
 | cons _ _=>simp
def mf:Mm X (binaryOp .Add) (dw X.K):=by
 intro WZ s σ H x y v u Q I rx ry h;obtain⟨a,b,xs,ys,rfl,rfl,ha,hb,hx,hz,q1,q2⟩:=h
 cases rx
 cases ry
 obtain⟨its,r1,p1,_⟩:=I.tuple ha;obtain⟨its2,r2,p2,_⟩:=I.tuple hb;refine HT.cat_tup p1 p2 (λz=>hx (r1.nil_iff.mp z)) (λz=>⟨.ref a,H,I,VS,q1 (r2.nil_iff.mp z)⟩) (λz=>?_) (by rw[<-r1.length,<-r2.length];exact hz);refine⟨.ref s.heap.objs.size,_,I.laid (t':=s.toks) (o:=.tup (xs++ys)) (λb ob q=>XC _ q) (XE _) ?_,VS,q2 (λw=>z (r2.nil_iff.mpr w)) _ (I.hok.fresh (XE _))⟩;exact⟨by rw[PX];exact hz,_,r1.append r2,IsTup.new _ _⟩
end
def qI (n:Nat)(i:Int):Option Nat:=if 0<=i then(if i<n then some i.toNat else none) else if-(n:Int)<=i then some (i+n).toNat else none
def Q7 {α:Type}(xs:List α)(i:Int):Option α:=(qI xs.length i).bind λj=>xs[j]?
def vq (h:qI n i=some j):seqIndex? i n=some j/\j<n/\ -(n:Int)<=i/\i<n:=by
 unfold qI at h;by_cases h0:0<=i
 ·rw[XY h0] at h;by_cases h1:i<n
  ·rw[XY h1] at h;have e:i.toNat=j:=YH h;exact⟨by rw[seqIndex_of h0 h1,e],by omega,by omega,h1⟩
  ·rw[XX h1] at h;cases h
 ·rw[XX h0] at h;by_cases h1: -(n:Int)<=i
  ·rw[XY h1] at h;have e:(i+n).toNat=j:=YH h;exact⟨by rw[seqIndex_neg (by omega) h1,e],by omega,h1,by omega⟩
  ·rw[XX h1] at h;cases h
def zF {α:Type}{xs:List α}{v:α}(h:Q7 xs i=some v):∃j,seqIndex? i xs.length=some j/\xs[j]?=some v/\j<xs.length/\ -(xs.length:Int)<=i/\i<xs.length:=by
 unfold Q7 at h
 cases e:qI xs.length i with
 | none=>rw[e] at h;cases h
 | some j=>
  rw[e] at h;obtain⟨h1,h2,h3,h4⟩:=vq e;exact⟨j,h1,h,h2,h3,h4⟩
def Ow {α:Type}{xs:List α}{j:Nat}{v:α}(h:xs[j]?=some v):Q7 xs (j:Int)=some v:=by
 have hj:j<xs.length:=(PY.mp h).1;have e:qI xs.length (j:Int)=some j:=by
  unfold qI;rw[if_pos (by omega),if_pos (by omega)];simp
 unfold Q7;rw[e];exact h
def vT (b:WW):Prop:=∀o i,subscripted b false o i=operate [o,i] (getItem o i)
def ot (X:Cx)(r:R2):Prop:=
 ∀(value slice:WW) (WZ:List (WP×Obj)) (s:WR) (σ:St) (H:Hp) (x y:V) (v u:WQ) (Q:VK),Z7 X WZ σ H s->Yh x v->Yh y u->r x y H Q->
  subscripted slice false v u=operate [v,u] (getItem v u)->wpAny (model X.prog X.w) X.A (subscriptTail value slice v u) (EP X WZ σ Q) X.xe s
def fj (X:Cx)(id:String)(r:V->List V->Hp->VK->Prop):Prop:=
 ∀(WZ:List (WP×Obj)) (s:WR) (σ:St) (H:Hp) (x:V) (xs:List V) (v:WQ) (us:List WQ) (Q:VK),Z7 X WZ σ H s->Yh x v->Yd xs us->r x xs H Q->
  wpAny (model X.prog X.w) X.A (call (.builtin id) (v::us)) (EP X WZ σ Q) X.xe s
section
variable {X:Cx}{a b:WW}{ta tb:TE}{pos:Pos}
def ot.or (h:ot X r)(h':ot X r'):ot X (λx y H Q=>r x y H Q\/r' x y H Q):=by
 intro value slice WZ s σ H x y v u Q I rx ry q hs
 rcases q with q | q
 ·exact h value slice WZ s σ H x y v u Q I rx ry q hs
 ·exact h' value slice WZ s σ H x y v u Q I rx ry q hs
def dB (hr:ot X r)(ha:PE X a ta)(hb:PE X b tb)(hs:vT b):PE X (.Subscript a b pos) (fo r ta tb):=by
 intro WZ s σ H Q I h;exact Subscript_ (gT ha hb I h λv u s2 x y H2 I2 rx ry q=>hr a b WZ s2 σ H2 x y v u Q I2 rx ry q (hs _ _))
def dv (K:WY):R2:=λx y H Q=>∃p xs i v,x=.ref p/\y=.int i/\Ug K H p xs/\Q7 xs i=some v/\Q v H
def dt (K:WY):R2:=λx y H Q=>∃p xs i v,x=.ref p/\y=.int i/\Tg K H p xs/\Q7 xs i=some v/\Q v H
def du:R2:=λx y H Q=>∃z i c,x=.str z/\y=.int i/\z.length<=sizeLine/\Q7 z.cps.toList i=some c/\Q (.str ⟨#[c]⟩) H
def m6:ot X (dv X.K):=by
 intro value slice WZ s σ H x y v u Q I rx ry h hs;obtain⟨p,xs,i,z,rfl,rfl,hq,he,q⟩:=h
 cases rx
 obtain⟨t,rfl⟩:=ry;obtain⟨its,r,pl,hz⟩:=I.list hq;obtain⟨j,h1,h2,h3,h4,h5⟩:=zF he;obtain⟨w,ew,rw'⟩:=r.get h2;have hl:=r.length;have hn:=Ko;have fin:EP X WZ σ Q w s:=⟨z,H,I,rw',q⟩;by_cases h0:0<=i
 ·have hj:i.toNat=j:=by
   rw[seqIndex_of h0 h5] at h1;exact YH h1
  exact item_listR pl.isList h0 (by omega) (by rw[hj];simpa using ew) fin hs
 ·have hj:(i+(its.toArray.size:Int)).toNat=j:=by
   rw[seqIndex_neg (by omega) h4] at h1;rw[XJ,<-hl];exact YH h1
  exact subscriptTail_builtinR (x:=w) pl.isList.typeIs slot_list_getitem.lookup
   (wpAny_getItem_list_neg (Q:=λr s'=>r=w/\EP X WZ σ Q r s') pl.isList (by omega) (by rw[List.size_toArray]<;>omega) (by omega) (by rw[hj];simpa using ew) ⟨VS,fin⟩) hs
def gi:ot X (dt X.K):=by
 intro value slice WZ s σ H x y v u Q I rx ry h hs;obtain⟨p,xs,i,z,rfl,rfl,hq,he,q⟩:=h
 cases rx
 obtain⟨t,rfl⟩:=ry;obtain⟨its,r,pl,hz⟩:=I.tuple hq;obtain⟨j,h1,h2,h3,h4,h5⟩:=zF he;obtain⟨w,ew,rw'⟩:=r.get h2;have hl:=r.length;have hn:=Ko;have fin:EP X WZ σ Q w s:=⟨z,H,I,rw',q⟩;exact subscriptTail_builtinR (x:=w) pl.typeIs slot_tuple_getitem.lookup
  (getItem_tuple (j:=j) (Q:=λr s'=>r=w/\EP X WZ σ Q r s') pl (by omega) (by omega) (by rw[List.size_toArray,<-hl];exact h1) (by simpa using ew) ⟨VS,fin⟩) hs
def gj:ot X du:=by
 intro value slice WZ s σ H x y v u Q I rx ry h hs;obtain⟨z,i,c,rfl,rfl,hz,he,q⟩:=h;obtain⟨t,rfl⟩:=rx;obtain⟨t',rfl⟩:=ry;obtain⟨j,h1,h2,h3,h4,h5⟩:=zF he;have hl:z.cps.toList.length=z.length:=by simp[Str.length]
 rw[hl] at h1 h4 h5;have hn:=Ko;exact tail_any (typeIs_str s z t) slot_str_getitem.lookup (getItem_str (c:=c) (by
  have e1:decide (i< -(2^63:Int))=false:=YG (by omega);have e2:decide (i>=2^63)=false:=YG (by omega);rw[e1,e2,Bool.or_false]) (by rw[h1];simpa using h2) ⟨.str ⟨#[c]⟩,H,I.tok _,⟨_,VS⟩,q⟩) hs
def Zbd (K:WY):R2:=λx y H Q=>dv K x y H Q\/dt K x y H Q\/du x y H Q
def gn:ot X (Zbd X.K):=m6.or (gi.or gj)
def Z7.lst (I:Z7 X WZ σ H s)(h:H p=some (.lst xs)):
  ∃(its:List WQ) (n:Nat),Yd xs its/\s.heap.get? p=some {cls:=.type "list",data:=.seq its.toArray n}/\xs.length<=sizeLine:=by
 obtain⟨z,its,n,r,e⟩:=I.hok p _ h;exact⟨its,n,r,e,z⟩
def Bp (lo hi:Option Int)(n:Nat):(sliceBounds lo hi none n).1=((HT.sIx n 0 lo:Nat):Int)/\(sliceBounds lo hi none n).2.1=((HT.sIx n n hi:Nat):Int)/\(sliceBounds lo hi none n).2.2=1:=by
 refine⟨?_,?_,VS⟩
 ·cases lo with
  | none=>simp[sliceBounds,HT.sIx]
  | some i=>
   simp only[sliceBounds,HT.sIx,Option.getD_none,show(1:Int)>0 by decide,if_true];by_cases h:i<0
   ·simp only[h,if_true]<;>omega
   ·simp only[h,if_false]<;>omega
 ·cases hi with
  | none=>simp[sliceBounds,HT.sIx]
  | some i=>
   simp only[sliceBounds,HT.sIx,Option.getD_none,show(1:Int)>0 by decide,if_true];by_cases h:i<0
   ·simp only[h,if_true]<;>omega
   ·simp only[h,if_false]<;>omega
def Er (its:List WQ)(lo hi:Option Int):slicePick its.toArray lo hi none=((its.drop (HT.sIx its.length 0 lo)).take (HT.sIx its.length its.length hi-HT.sIx its.length 0 lo)).toArray:=by
 obtain⟨h1,h2,h3⟩:=Bp lo hi its.toArray.size;unfold slicePick;rw[h1,h2,h3];simp only[sliceRange_one,pick_run,List.size_toArray]<;>rfl
def bT (K:WY):V->Option Int->Option Int->Hp->VK->Prop:=λx lo hi H Q=>∃a xs,x=.ref a/\Ug K H a xs/\∀p,H p=none->Q (.ref p) (J7 H p (.lst (Rm xs lo hi)))
def oP:lC X (bT X.K):=by
 intro WZ s σ H x v vl vu lo hi sl Q I rx hs pl pu h;obtain⟨a,xs,rfl,hx,q⟩:=h
 cases rx
 obtain⟨its,r,ht,hz⟩:=I.list hx;have hlen:=r.length;refine⟨"list",_,slot_list_getitem.lookup,ht.isList.typeIs,?_⟩;refine wpAny_getItem_list_slice ht.isList hs pl pu .none (by simp) ?_ (by rw[List.size_toArray]<;>omega);rw[Er,<-hlen];refine⟨.ref s.heap.objs.size,_,I.laid (t':=s.toks) (o:=.lst (Rm xs lo hi)) (λb ob q=>XC _ q) (XE _) ?_,VS,q _ (I.hok.fresh (XE _))⟩;exact⟨XN (Ig xs lo hi) hz,_,0,(r.drop (HT.sIx xs.length 0 lo)).take (HT.sIx xs.length xs.length hi-HT.sIx xs.length 0 lo),XF _ VS⟩
def jl:V->Bool
 | .non=>true
 | .bl _=>true
 | .int _=>true
 | .str _=>true
 | _=>false
def gD:V->V->Bool
 | .non,.non=>true
 | .bl a,.bl b=>a==b
 | .bl a,.int b=>(if a then 1 else 0)==b
 | .int a,.bl b=>a==(if b then 1 else 0)
 | .int a,.int b=>a==b
 | .str a,.str b=>a==b
 | _,_=>false
def pc (ry:Yh y u)(rx:Yh x v)(fy:jl y=true)(fx:jl x=true):SeqAt.EqAt A s u v (gD y x):=by
 cases y with
 | non=>
  cases ry
  cases x with
  | non=>cases rx;exact SeqAt.EqAt.same _
  | bl b=>cases rx;exact SeqAt.EqAt.none_bool b
  | int b=>obtain⟨t,rfl⟩:=rx;exact SeqAt.EqAt.none_int b t
  | str b=>obtain⟨t,rfl⟩:=rx;exact SeqAt.EqAt.none_str b t
  | _=>exact absurd (show false=true from fx) YJ
 | bl a=>
  cases ry
  cases x with
  | non=>cases rx;exact SeqAt.EqAt.bool_none a
  | bl b=>cases rx;exact SeqAt.EqAt.bool_bool a b
  | int b=>obtain⟨t,rfl⟩:=rx;exact SeqAt.EqAt.bool_int a b t
  | str b=>obtain⟨t,rfl⟩:=rx;exact SeqAt.EqAt.bool_str a b t
  | _=>exact absurd (show false=true from fx) YJ
 | int a=>
  obtain⟨t',rfl⟩:=ry
  cases x with
  | non=>cases rx;exact SeqAt.EqAt.int_none a t'
  | bl b=>cases rx;exact SeqAt.EqAt.int_bool a t' b
  | int b=>obtain⟨t,rfl⟩:=rx;exact SeqAt.EqAt.int_int a t' b t
  | str b=>obtain⟨t,rfl⟩:=rx;exact SeqAt.EqAt.int_str a t' b t
  | _=>exact absurd (show false=true from fx) YJ
 | str a=>
  obtain⟨t',rfl⟩:=ry
  cases x with
  | non=>cases rx;exact SeqAt.EqAt.str_none a t'
  | bl b=>cases rx;exact SeqAt.EqAt.str_bool a t' b
  | int b=>obtain⟨t,rfl⟩:=rx;exact SeqAt.EqAt.str_int a t' b t
  | str b=>obtain⟨t,rfl⟩:=rx;exact SeqAt.EqAt.str_str a t' b t
  | _=>exact absurd (show false=true from fx) YJ
 | _=>exact absurd (show false=true from fy) YJ
def Zb1 (x:V)(u:WQ):Bool:=match u with
 | .none=>gD .non x
 | .bool b=>gD (.bl b) x
 | .int i _=>gD (.int i) x
 | .str z _=>gD (.str z) x
 | _=>false
def bg (x:V)(xs:List V):Bool:=xs.any λy=>gD y x
def Zbz (K:WY)(neg:Bool):R2:=λx y H Q=>∃p xs,y=.ref p/\(Ug K H p xs\/Tg K H p xs)/\jl x=true/\xs.all jl=true/\Q (.bl (if neg then !bg x xs else bg x xs)) H
def zy:Uh X (.builtin "len") (λxs H Q=>∃p ys,xs=[.ref p]/\(Ug X.K H p ys\/Tg X.K H p ys)/\Q (.int ys.length) H):=by
 intro WZ s σ H xs us Q I r h;obtain⟨p,ys,rfl,hq,q⟩:=h;obtain⟨u,rfl,rx⟩:=Ru r
 cases rx
 have hn:=Ko
 rcases hq with hq | hq
 ·obtain⟨its,r',pl,hz⟩:=I.list hq;have hlen:=r'.length;exact Calls.call_len_list pl.isList (by simp only[List.size_toArray]<;>omega) ⟨.int ys.length,H,I.tok _,⟨s.toks+1,by rw[List.size_toArray,hlen]⟩,q⟩
 ·obtain⟨its,r',pl,hz⟩:=I.tuple hq;have hlen:=r'.length;exact len_tuple pl (by simp only[List.size_toArray]<;>omega) ⟨.int ys.length,H,I.tok _,⟨s.toks+1,by rw[List.size_toArray,hlen]⟩,q⟩
def zx:Uh X (.builtin "len") (λxs H Q=>∃z,xs=[.str z]/\z.length<=sizeLine/\Q (.int z.length) H):=by
 intro WZ s σ H xs us Q I r h;obtain⟨z,rfl,hz,q⟩:=h;obtain⟨u,rfl,t,rfl⟩:=Ru r;have hn:=Ko;exact len_str (by omega) ⟨.int z.length,H,I.tok _,⟨_,VS⟩,q⟩
def Uh.or {f:WQ}{r r':List V->Hp->VK->Prop}(h:Uh X f r)(h':Uh X f r'):Uh X f (λxs H Q=>r xs H Q\/r' xs H Q):=by
 intro WZ s σ H xs us Q I rs q
 rcases q with q | q
 ·exact h WZ s σ H xs us Q I rs q
 ·exact h' WZ s σ H xs us Q I rs q
def zw:Uh X (.type "list") (λxs H Q=>∃p ys,xs=[.ref p]/\(Ug X.K H p ys\/Tg X.K H p ys)/\∀l,H l=none->Q (.ref l) (J7 H l (.lst ys))):=by
 intro WZ s σ H xs us Q I r h;obtain⟨p,ys,rfl,hq,q⟩:=h;obtain⟨u,rfl,rx⟩:=Ru r
 cases rx
 have fin:∀(its:List WQ),Yd ys its->ys.length<=sizeLine->∀(h':WU) (c':Nat),(∀b o',s.heap.get? b=some o'->h'.get? b=some o')->
   h'.get? s.heap.objs.size=some {cls:=.type "list",dict:=none,data:=.seq its.toArray c',slots:=#[]}->EP X WZ σ Q (.ref s.heap.objs.size) {s with heap:=h'}:=λits r' hz h' c' kp e=>
  ⟨.ref s.heap.objs.size,_,I.laid (t':=s.toks) kp (XE _) (show X1 X.prog X.w _ h' _ (.lst ys) from⟨hz,its,c',r',e⟩),VS,q _ (I.hok.fresh (XE _))⟩
 rcases hq with hq | hq
 ·obtain⟨its,r',pl,hz⟩:=I.list hq;have hlen:=r'.length;obtain⟨o,ho,hc,n,hd⟩:=pl.isList;exact call_list_seq p (.inl VS) ho hc hd (λh' c' kp e=>fin its r' hz h' c' kp e) (by simp only[List.size_toArray]<;>omega)
 ·obtain⟨its,r',pl,hz⟩:=I.tuple hq;have hlen:=r'.length;obtain⟨o,ho,hc,n,hd⟩:=pl;exact call_list_seq p (.inr VS) ho hc hd (λh' c' kp e=>fin its r' hz h' c' kp e) (by simp only[List.size_toArray]<;>omega)
def Dl:Uh X (.type "tuple") (λxs H Q=>∃p ys,xs=[.ref p]/\((Ug X.K H p ys/\∀l,H l=none->Q (.ref l) (J7 H l (.tup ys)))\/(Tg X.K H p ys/\Q (.ref p) H))):=by
 intro WZ s σ H xs us Q I r h;obtain⟨p,ys,rfl,h⟩:=h;obtain⟨u,rfl,rx⟩:=Ru r
 cases rx
 rcases h with⟨hq,q⟩ | ⟨hq,q⟩
 ·obtain⟨its,r',pl,hz⟩:=I.list hq;have hlen:=r'.length;refine call_tuple_list pl.isList (λh' kp=>?_) (by simp only[List.size_toArray]<;>omega);have I1:Z7 X WZ σ H {s with heap:=h'}:=I.kept (t':=s.toks) kp;have I2:Z7 X WZ σ (J7 H h'.objs.size (.tup ys)) {s with heap:=h'.push {cls:=.type "tuple",data:=.seq its.toArray}}:=
   I1.laid (t':=s.toks) (λb o e=>XC _ e) (XE _) (show X1 X.prog X.w _ _ _ (.tup ys) from⟨hz,its,r',IsTup.new _ _⟩)
  exact⟨.ref h'.objs.size,_,I2,VS,q _ (I1.hok.fresh (XE _))⟩
 ·obtain⟨its,r',pl,hz⟩:=I.tuple hq;exact call_tuple_same pl ⟨.ref p,H,I,VS,q⟩
def kI (K:WY)(T:String)(x:V)(H:Hp):Prop:=match x with
 | .str _=>T="str"
 | .int _=>T="int"
 | .ref p=>(T="list"/\∃xs,Ug K H p xs)\/(T="tuple"/\∃o,K.lookup p=some o/\o.cls=.type "tuple"/\o.dict=none)\/
   (T="dict"/\((∃kvs,H p=some (.dK kvs))\/∃kvs,H p=some (.dT kvs)))\/(T="set"/\∃S n,H p=some (.set S n))
 | _=>False
def jP (I:Z7 X WZ σ H s)(r:Yh x v)(ty:kI X.K T x H):
  s.TypeIs v T/\∀a,v=.ref a->∃ob,s.heap.get? a=some ob/\ob.dict=none:=by
 cases x with
 | str z=>
  obtain⟨t,rfl⟩:=r
  cases (show T="str" from ty)
  exact⟨typeIs_str s z t,λ_ e=>nomatch e⟩
 | int i=>
  obtain⟨t,rfl⟩:=r
  cases (show T="int" from ty)
  exact⟨typeIs_int s i t,λ_ e=>nomatch e⟩
 | ref p=>
  cases r
  rcases ty with⟨rfl,xs,hq⟩ | ⟨rfl,o,hk,hc,hd⟩ | ⟨rfl,hk⟩ | ⟨rfl,S,n,hk⟩
  ·obtain⟨its,_,pl,_⟩:=I.list hq;refine⟨pl.isList.typeIs,λa e=>?_⟩
   cases e
   obtain⟨o,n,e,c,hd,_⟩:=pl;exact⟨o,e,hd⟩
  ·refine⟨⟨o,I.kIn p o hk,hc⟩,λa e=>?_⟩
   cases e
   exact⟨o,I.kIn _ o hk,hd⟩
  ·have z:∃o,s.heap.get? p=some o/\o.ExactDict:=by
    rcases hk with⟨kvs,hk⟩ | ⟨kvs,hk⟩
    ·obtain⟨_,_,_,_,o,_,_,e,ex,_⟩:=I.hok p _ hk;exact⟨o,e,ex⟩
    ·obtain⟨_,_,_,_,o,_,_,e,ex,_⟩:=I.hok p _ hk;exact⟨o,e,ex⟩
   obtain⟨o,e,ex⟩:=z;refine⟨⟨o,e,ex.1⟩,λa e2=>?_⟩
   cases e2
   exact⟨o,e,ex.2.1⟩
  ·obtain⟨o,_,_,_,e,ex,_⟩:=I.hok p _ hk;refine⟨⟨o,e,ex.1⟩,λa e2=>?_⟩
   cases e2
   exact⟨o,e,ex.2.1⟩
 | _=>exact False.elim ty
def bG (K:WY)(T:String)(r:V->List V->Hp->VK->Prop)(to:TE):TE:=λσ H Q=>to σ H λx H1=>kI K T x H1/\r x [] H1 Q
def Zac (K:WY)(T:String)(r:V->List V->Hp->VK->Prop)(to:TE)(t:TA):TE:=λσ H Q=>to σ H λx H1=>kI K T x H1/\t σ H1 λxs H2=>r x xs H2 Q
variable {o e:WW}{es:List WW}{to:TE}{t:TA}{name:Str}{apos cpos:Pos}{T id:String}{r:V->List V->Hp->VK->Prop}
def iG (pa:PlainAttrs T)(slot:Slot T name id)(hty:typeOf (.builtin id)=pure (.type "method_descriptor"))(hm:fj X id r)(ho:PE X o to)
  (hbase:attributeBase o name X.env (eval o X.env)=eval o X.env:=by rfl) (hline:(apos.endLine==cpos.line)=true:=by rfl):PE X (.Call (.Attribute o name apos) [] [] cpos) (bG X.K T r to):=by
 intro WZ s σ H Q I h;refine wpAny_Call_method0_late hbase hline (J5 (ho WZ s σ H _ I h) λv s1 ⟨x,H1,I1,r1,ty,q1⟩=>?_);obtain⟨h1,h2⟩:=jP I1 r1 ty;exact⟨T,id,pa,slot,hty,h1,h2,QW VS (PySem.evalArgs_none (hm WZ s1 σ H1 x [] v [] Q I1 r1 .nil q1))⟩
def dF (pa:PlainAttrs T)(slot:Slot T name id)(hty:typeOf (.builtin id)=pure (.type "method_descriptor"))(hm:fj X id r)(ho:PE X o to)(ha:PA X (e::es) t)
  (hbase:attributeBase o name X.env (eval o X.env)=eval o X.env:=by rfl)
  (hfew:((backTo cpos (starEach (e::es) X.env)).all (λx=>!x.1)&&(backToKw cpos (keywordEach [] X.env)).all (λx=>x.1.isSome)
   &&decide ((e::es).length+([]:List Keyword).length+(if ([]:List Keyword).isEmpty then 0 else 1)<30))=true:=by rfl)
  (hline:(apos.endLine==cpos.line)=true:=by rfl) (hs:starEach (e::es) X.env=(false,eval e X.env)::starEach es X.env:=by rfl) (hplain:(backTo cpos (starEach es X.env)).any (·.1)=false:=by rfl):
  PE X (.Call (.Attribute o name apos) (e::es) [] cpos) (Zac X.K T r to t):=by
 intro WZ s σ H Q I h;refine wpAny_Call_method_late hbase hfew hline VS (J5 (ho WZ s σ H _ I h) λv s1 ⟨x,H1,I1,r1,ty,q1⟩=>?_);obtain⟨h1,h2⟩:=jP I1 r1 ty;refine⟨T,id,pa,slot,hty,h1,h2,?_⟩;have hA:=ha cpos WZ s1 σ H1 _ I1 q1;rw[hs] at hA |-;refine QW (by show(false||(backTo cpos (starEach es X.env)).any (·.1))=false;rw[hplain]<;>rfl) (RK ?_);exact J5 hA λus s2 ⟨vs,H2,I2,r2,q2⟩=>hm WZ s2 σ H2 x vs v us Q I2 r1 r2 q2
/-xs.append(e),list.index on a module's tuple .. are fj facts of 06m-/
end
def cW (X:Cx)(id:String)(r:V->List V->Hp->VK->Prop):Prop:=
 ∀(WZ:List (WP×Obj)) (s:WR) (σ:St) (H:Hp) (x:V) (xs:List V) (v:WQ) (us:List WQ) (Q:VK),Z7 X WZ σ H s->Yh x v->Yd xs us->r x xs H Q->
  wpAny (model X.prog X.w) X.A (call (.builtin id) (v::us)) (EP X WZ σ Q) X.xe s
def Yd.one:∀{x:V} {us:List WQ},Yd [x] us->∃u,us=[u]/\Yh x u
 | _,_,.cons r .nil=>⟨_,VS,r⟩
def Yd.two:∀{x y:V} {us:List WQ},Yd [x,y] us->∃u v,us=[u,v]/\Yh x u/\Yh y v
 | _,_,_,.cons r (.cons q .nil)=>⟨_,_,VS,r,q⟩
def Yd.zero:∀{us:List WQ},Yd [] us->us=[]
 | _,.nil=>rfl
def Yd.dropLast (h:Yd xs us):Yd xs.dropLast us.dropLast:=by
 induction h with
 | nil=>exact .nil
 | cons r t ih=>
  cases t with
  | nil=>exact .nil
  | cons q t'=>exact .cons r ih
def Yd.eraseIdx:∀{xs:List V} {us:List WQ} (i:Nat),Yd xs us->Yd (xs.eraseIdx i) (us.eraseIdx i)
 | _,_,_,.nil=>.nil
 | _,_,0,.cons _ t=>t
 | _,_,i+1,.cons r t=>.cons r (Yd.eraseIdx i t)
def xZ {α:Type}(l:List α):l.eraseIdx (l.length-1)=l.dropLast:=by
 induction l with
 | nil=>rfl
 | cons a r ih=>
  cases r with
  | nil=>rfl
  | cons b r=>
   have e:(a::b::r).length-1=((b::r).length-1)+1:=by
    have h1:(a::b::r).length=r.length+2:=rfl;have h2:(b::r).length=r.length+1:=rfl;omega
   rw[e,List.eraseIdx_cons_succ,ih]
   all_goals rfl
def Ch {α:Type}:∀(l:List α) (i:Nat),(l.eraseIdx i).length<=l.length
 | [],_=>XE _
 | _::_,0=>Nat.le_succ _
 | _::r,i+1=>Nat.succ_le_succ (Ch r i)
section
variable {X:Cx}{WZ:List (WP×Obj)}{σ:St}{H:Hp}{s:WR}{l b:WP}{xs ys zs:List V}
def Z7.lset {its its':List WQ}{n:Nat}{f:Array WQ->Array WQ}{t':Nat}(I:Z7 X WZ σ H s)(hH:H l=some (.lst xs))
  (e:s.heap.get? l=some {cls:=.type "list",data:=.seq its.toArray n}) (hf:f its.toArray=its'.toArray) (hv:Yd ys its') (hz:ys.length<=sizeLine):
  Z7 X WZ σ (J7 H l (.lst ys)) {s with heap:=s.heap.update l (Obj.mapSeq f),toks:=t'}:=by
 have q:=PySem.IsL.update e f;rw[hf] at q;refine I.write (x:=l) (e:=l) (by rw[hH];exact trivial) (.inl VS) (λb' u hb hu=>(Heap.get?_update_other s.heap (Obj.mapSeq f) (Ne.symm hb)).trans hu) ⟨_,q⟩ ?_;exact⟨hz,its',_,hv,q⟩
def Z7.lnew {t':Nat}(I:Z7 X WZ σ H s)(hv:Yd ys its)(hz:ys.length<=sizeLine):
  Z7 X WZ σ (J7 H s.heap.objs.size (.lst ys)) {s with heap:=s.heap.push {cls:=.type "list",data:=.seq its.toArray},toks:=t'}:=
 I.laid (λ_ _ q=>XC _ q) (XE _) ⟨hz,its,0,hv,XF _ VS⟩
def Z7.fresh (I:Z7 X WZ σ H s):H s.heap.objs.size=none:=I.hok.fresh (XE _)
def Z7.lstM (I:Z7 X WZ σ H s)(hH:H l=some (.lst xs)):xs.length<=sizeLine/\∃(its:List WQ) (n:Nat),Yd xs its/\xs.length=its.length/\s.heap.get? l=some {cls:=.type "list",data:=.seq its.toArray n}:=by
 obtain⟨z,its,n,r,e⟩:=I.hok l _ hH;exact⟨z,its,n,r,r.length,e⟩
def qk {n:Nat}(h:n<=sizeLine):Builtin.List.listTooLong n=false:=by
 unfold Builtin.List.listTooLong;exact YG (by omega)
end
section
variable {X:Cx}
def np:V->List V->Hp->VK->Prop:=λx vs H Q=>∃l xs y,x=.ref l/\vs=[y]/\H l=some (.lst xs)/\xs.length<sizeLine/\Q .non (J7 H l (.lst (xs++[y])))
def Cd:cW X "list.append" np:=by
 intro WZ s σ H x vs v us Q I rx rv h;obtain⟨l,xs,y,rfl,rfl,hH,hz,q⟩:=h
 cases rx
 obtain⟨u,rfl,ru⟩:=rv.one;obtain⟨z,its,n,r,hl,e⟩:=I.lstM hH;refine call_meets F.slot_list_append ⟨_,e,VS⟩ F.entry_list_append (F.args_list_append_2 _ _) (PySem.list_append l its.toArray n u (by rw[XJ];omega)) ⟨e,?_⟩;refine⟨.non,_,I.lset (its':=its++[u]) hH e (by simp) (r.append (.cons ru .nil)) ?_,VS,q⟩;rw[PX,List.length_singleton];omega
def nk:V->List V->Hp->VK->Prop:=λx vs H Q=>∃l b xs zs,x=.ref l/\vs=[.ref b]/\H l=some (.lst xs)/\H b=some (.lst zs)/\xs.length+zs.length<=sizeLine/\Q .non (J7 H l (.lst (xs++zs)))
def u7:cW X "list.extend" nk:=by
 intro WZ s σ H x vs v us Q I rx rv h;obtain⟨l,b,xs,zs,rfl,rfl,hH,hB,hz,q⟩:=h
 cases rx
 obtain⟨u,rfl,ru⟩:=rv.one
 cases ru
 obtain⟨z,its,n,r,hl,e⟩:=I.lstM hH;obtain⟨z2,its2,n2,r2,hl2,e2⟩:=I.lstM hB;have hsz:its.toArray.size+its2.toArray.size<=sizeLine:=by rw[XJ,XJ];omega
 have hlong:¬(!its.toArray.isEmpty&&Builtin.List.listTooLong (its.toArray.size+its2.toArray.size))=true:=by
  rw[qk hsz,Bool.and_false];exact YJ
 refine call_meets F.slot_list_extend ⟨_,e,VS⟩ F.entry_list_extend (F.args_list_extend_2 _ _)
  (AutoSeq1.list_extend_list_list_0 l its.toArray n b its2.toArray n2 hlong (by rw[XJ];omega) (by omega)) ⟨e,e2,?_⟩
 refine⟨.non,_,I.lset (its':=its++its2) hH e (by simp) (r.append r2) ?_,VS,q⟩;rw[PX];omega
def bU:V->List V->Hp->VK->Prop:=λx vs H Q=>∃l xs y,x=.ref l/\vs=[]/\H l=some (.lst xs)/\xs[xs.length-1]?=some y/\Q y (J7 H l (.lst xs.dropLast))
def iX:cW X "list.pop" bU:=by
 intro WZ s σ H x vs v us Q I rx rv h;obtain⟨l,xs,y,rfl,rfl,hH,hy,q⟩:=h
 cases rx
 have hus:=rv.zero;subst hus;obtain⟨z,its,n,r,hl,e⟩:=I.lstM hH;obtain⟨u,hu,ru⟩:=r.get hy;have hy':its.toArray[its.toArray.size-1]?=some u:=by
  show its.toArray[its.length-1]?=some u;rw[<-RU,<-hl];exact hu
 refine call_meets F.slot_list_pop ⟨_,e,VS⟩ F.entry_list_pop (F.args_list_pop_1 _) (MeetsSeq.list_pop_last l its.toArray n u hy' (by rw[XJ];omega)) ⟨e,?_⟩;refine⟨y,_,I.lset (its':=its.dropLast) hH e ?_ r.dropLast ?_,ru,q⟩
 ·show its.toArray.eraseIdxIfInBounds (its.toArray.size-1)=its.dropLast.toArray;rw[XJ,TJ,xZ]
 ·rw[TK];omega
def ij:V->List V->Hp->VK->Prop:=λx vs H Q=>∃l xs i k y,x=.ref l/\vs=[.int i]/\H l=some (.lst xs)/\ -(2^63)<=i/\i<2^63/\seqIndex? i xs.length=some k/\xs[k]?=some y/\Q y (J7 H l (.lst (xs.eraseIdx k)))
def qo:cW X "list.pop" ij:=by
 intro WZ s σ H x vs v us Q I rx rv h;obtain⟨l,xs,i,k,y,rfl,rfl,hH,h1,h2,hk,hy,q⟩:=h
 cases rx
 obtain⟨u,rfl,ru⟩:=rv.one;obtain⟨t,rfl⟩:=ru;obtain⟨z,its,n,r,hl,e⟩:=I.lstM hH;obtain⟨w,hw,rw'⟩:=r.get hy;refine call_meets F.slot_list_pop ⟨_,e,VS⟩ F.entry_list_pop (F.args_list_pop_2 _ _)
  (MeetsSeq.list_pop_at l its.toArray n i t k w (fitsIndex_both h1 h2) (by rw[XJ,<-hl];exact hk) (by rw[<-RU];exact hw) (by rw[XJ];omega)) ⟨e,?_⟩
 refine⟨y,_,I.lset (its':=its.eraseIdx k) hH e ?_ (r.eraseIdx k) ?_,rw',q⟩
 ·show its.toArray.eraseIdxIfInBounds k=(its.eraseIdx k).toArray;rw[TJ]
 ·have:=Ch xs k;omega
def bW:R2:=λx y H Q=>∃l b xs zs,x=.ref l/\y=.ref b/\H l=some (.lst xs)/\H b=some (.lst zs)/\xs.length+zs.length<=sizeLine/\∀p,H p=none->Q (.ref p) (J7 H p (.lst (xs++zs)))
def iO:Mm X (binaryOp .Add) bW:=by
 intro WZ s σ H x y v u Q I rx ry h;obtain⟨l,b,xs,zs,rfl,rfl,hH,hB,hz,q⟩:=h
 cases rx
 cases ry
 obtain⟨z,its,n,r,hl,e⟩:=I.lstM hH;obtain⟨z2,its2,n2,r2,hl2,e2⟩:=I.lstM hB;refine PySem.P.add_list e e2 ?_ (by rw[XJ,XJ];omega);have ea:its.toArray++its2.toArray=(its++its2).toArray:=by simp
 rw[ea];exact⟨.ref _,_,I.lnew (t':=s.toks) (r.append r2) (by rw[PX];omega),VS,q _ I.fresh⟩
def Zbc:R2:=λx y H Q=>∃l k xs,x=.ref l/\y=.int k/\H l=some (.lst xs)/\ -(2^63)<=k/\k<2^63/\xs.length*k.toNat<=sizeLine/\
 ∀p,H p=none->Q (.ref p) (J7 H p (.lst (List.replicate k.toNat xs).flatten))
end
section
variable {prog:WO}{w:WN}{A:WM}{E:WQ->WR->Prop}{s:WR}
end
section
variable {X:Cx}
end
end L2
namespace Att
open PySem PySem.W PySem.Calls PyProof.Rows
def Iu:∀(ns:List Int) (vs:List WQ),WellAll P h vs (ns.map WData.int)->IntsAre vs ns:=by
 intro ns
 induction ns with
 | nil=>
  intro vs w;rw[TL] at w
  cases w
  exact .nil
 | cons n ns ih=>
  intro vs w;rw[YI] at w
  cases w with
  | cons a b=>
   cases a
   exact .cons _ _ (ih _ b)
def ud {l:OpenLaw}(hn:l.most=some n){P:Params}{h:WU}{args:List WData}{vals:List WQ}
  (hpre:l.row.toRowW.claim.pre args=true) (hwl:WellAll P h vals args):
  ∃a vs ns,vals=[Value.ref a]/\args=[WData.list (ns.map WData.int)]/\h.get? a=some {cls:=.type "list",data:=.seq vs.toArray}/\IntsAre vs ns/\ns.length<=n:=by
 have hsh:WShape.hasAll [] args [.list .int]=true:=(pre_splitW hpre).1;have hc:l.pre.holds [] {args:=args}=true:=(pre_splitW hpre).2;obtain⟨d,r,rfl,h1,h2⟩:=hasAllW_cons hsh;obtain rfl:=hasAllW_nil h2;obtain⟨xs,rfl,h3⟩:=hasW_list h1;obtain⟨ns,rfl⟩:=items_int h3;have hlen:ns.length<=n:=by
  unfold OpenLaw.pre at hc;have h4:(WTm.not (.lt (.lit (.int (n:Int))) (.len (.arg 0)))).holds [] {args:=[.list (ns.map .int)]}=true:=by
   have h4:=(holds_andW hc).1;rw[hn] at h4;exact h4
  have h5:=condW_of h4 (w_not (w_lt w_lit (w_len_list (w_arg VS))));rw[XI] at h5;refine Nat.le_of_not_lt λq=>?_;have q':(n:Int)<((ns.length:Nat):Int):=by omega
  first
   | (rw[decide_eq_true q'] at h5;exact absurd h5 (by decide))
   | (simp at h5;omega)
 cases hwl with
 | cons w1 w2=>
  cases w2
  cases w1 with
  | list ho hall=>exact⟨_,_,ns,VS,VS,ho,Iu ns _ hall,hlen⟩
def uo (l:OpenLaw)(args:List WData):l.row.toRowW.claim.post args (.bool true) args=true:=
 postW_of (r:=l.row.toRowW) (X:=(true==true))
  (show WShape.has [] (.bool true) .bool=true by first | rfl | decide | simp[WShape.has,WShape.arms,WShape.armsAll])
  (show(WTm.eq .res (.lit (.bool true))).value [] {args:=args,res:=some (.bool true),after:=args}=some (.bool (true==true)) from w_eq_bool (w_res VS) w_lit) VS
def attach_call {l:OpenLaw}{n:Nat}{q:WO}{loose:List Str}{XP:(Str->Option WQ)->WU->Prop}{YP:WN->WU->Prop}{d:DefRec}
  (hn:l.most=some n) (hdf:d.params.defaults=[])
  (call:∀(w:WN) (s₀ s₁:WR) (mg mb:Str->Option WQ) (fa:WP) (o:Obj) (pm cd doc:WQ) (a:WP) (vs:List WQ) (ns:List Int),
   Ground q loose [] XP w s₀ mg mb s₁.heap->YP w s₁.heap->
   s₁.heap.get? fa=some o->o.data=.func (docDef d.name d.params d.body d.scope pm cd doc)->s₁.heap.CodeRec cd d.name->mg d.name=some (.ref fa)->
   s₁.heap.get? a=some {cls:=.type "list",data:=.seq vs.toArray}->IntsAre vs ns->ns.length<=n->s₁.gens=#[]->
   codeAny (model l.prog w) callerA (.call (.ref fa) ⟨[.ref a],[]⟩) (λr s'=>r=.ok (.ret (.bool true))/\OldK s₁.heap s'.heap/\s'.os=s₁.os/\AllBare s'.gens) s₁):
  WalkO q loose XP YP l.row.toRowW d [] (λf vs=>PySem.call f vs):=by
 intro w s₀ s₁ mg mb G Y fa o pm cd doc dV kV ho hd hcd hD hmg hg args vals as hpre hlay hrd hwl hlo;obtain rfl:dV=.none:=Dflts.none hD hdf;obtain rfl:kV=.none:=Dflts.noKw hD;obtain⟨a,vs,ns,rfl,rfl,hobj,hints,hlen⟩:=ud hn hpre hwl;refine enter_call (codeAny_mono (call w s₀ s₁ mg mb fa o pm cd doc a vs ns G Y ho (fd_plain hd) hcd hmg hobj hints hlen hg) λr s' hq=>?_);obtain⟨rfl,h2,h3,h4⟩:=hq;exact⟨.inl ⟨.bool true,.bool true,[],VS,λ_=>rfl,.bool true,uo l _,λ_=>⟨List.Pairwise.nil,λ_ hm=>(nomatch hm)⟩⟩,h2,h3,h4⟩
section
variable {prog:WO}{w:WN}{A:WM}{E:WQ->WR->Prop}{s:WR}{K:Frag}
def ac (h:WU)(L d:WP):List (WP×Obj):=(List.range h.objs.size).filterMap λa=>if a=L\/a=d then none else(h.get? a).map λo=>(a,o)
end
end Att
namespace L2
open PySem PySem.Spec PyProof.Rows
def Ds:∀{vs:List WQ} {ns:List Int},IntsAre vs ns->Yd (ns.map V.int) vs
 | _,_,.nil=>.nil
 | _,_,.cons n t h=>.cons ⟨t,VS⟩ (Ds h)
def pX (H:Hp):Prop:=∀b,H b=none\/∃o xs,H b=some (.frz o (.lst xs))
def qC {P:WO}{w:WN}{K:WY}{mg mb:Str->Option WQ}{CX:tL}{k:Nat}{fa a:WP}{fd:VZ}{x:Str}{sp:Sp}{s₁:WR}{vs:List WQ}{ns:List Int}
  (KX:K.In s₁.heap) (hns:s₁.heap.Ns mainGlobals mg) (hb:s₁.heap.Ns builtinsNs mb) (hbb:∀x:Str,x≠"__name__"->mb x=bootBuiltins x) (hlim:s₁.heap.NoLimit) (hg:s₁.gens=#[])
  (ha:s₁.heap.get? a=some {cls:=.type "list",data:=.seq vs.toArray}) (hi:IntsAre vs ns) (hl:ns.length<=sizeLine) (hr:Wj k callerA)
  (F:∀base:WU,K.In base->base.Ns mainGlobals mg->Yx P w K mg base CX k fa fd [x] sp) (hbind:∀(s:WR) (u:WQ),BindsTo s fd ⟨[u],[]⟩ [(x,u)])
  (hsp:∀H:Hp,pX H->Ug K H a (ns.map V.int)->sp [.ref a] H (λv _=>v=.bl true) λ_ _ _=>False)
  (hCX:∀H e s',CX [] H s₁ (λ_ _ _=>False) e s'->False):
  codeAny (model P w) callerA (.call (.ref fa) ⟨[.ref a],[]⟩) (λr s'=>r=.ok (.ret (.bool true))/\OldK s₁.heap s'.heap/\s'.os=s₁.os/\AllBare s'.gens) s₁:=by
 have rv:=Ds hi;have lenV:=hi.length;have core:∀H:Hp,pX H->Ug K H a (ns.map V.int)->Ro P w H s₁.heap->(∀b,H b≠none->b=a)->(H a≠none->K.lookup a=none)->
   codeAny (model P w) callerA (.call (.ref fa) ⟨[.ref a],[]⟩) (λr s'=>r=.ok (.ret (.bool true))/\OldK s₁.heap s'.heap/\s'.os=s₁.os/\AllBare s'.gens) s₁:=by
  intro H hO hS hok hA hK;have base_of:∀{b:WP} {o:Obj},s₁.heap.get? b=some o->H b=none->(za s₁.heap H).get? b=some o:=λe n=>qR e n;have noA:∀{b:WP} {o:Obj} {es:Array DictEntry} {ep:Nat},s₁.heap.get? b=some o->o.data=.dict es ep->H b=none:=λ{b o es ep} e d=>by
   cases q:H b with
   | none=>rfl
   | some u=>
    have e':b=a:=hA b (by rw[q];simp);subst e';rw[ha] at e;cases e;have d':Data.seq vs.toArray _=Data.dict es ep:=d
    cases d'
  have nsK:∀{b:WP} {m:Str->Option WQ},s₁.heap.Ns b m->(za s₁.heap H).Ns b m:=λ{b m} ⟨o,es,ep,e,d,r⟩=>⟨o,es,ep,base_of e (noA e d),d,r⟩;have hKb:K.In (za s₁.heap H):=λb o e=>base_of (KX b o e) (by
   cases q:H b with
   | none=>rfl
   | some u=>
    have e':b=a:=hA b (by rw[q];simp);subst e';rw[hK (by rw[q];simp)] at e;cases e)
  have hM:Mod K mg (za s₁.heap H):=⟨hKb,nsK hns,⟨mb,nsK hb,hbb⟩,let ⟨mc,h1,h2⟩:=hlim;⟨mc,nsK h1,h2⟩⟩;have e0:jF P w K mg (za s₁.heap H) callerA [] s₁ H:=⟨VS,hM,λb o e=>mi e,Nat.le_of_eq (uK _ _),trivial,λb hb=>absurd (show b∈([]:List WP) from hb) (by simp),hok,.of_eq hg⟩;refine codeAny_mono ((F _ hKb (nsK hns)).run callerA [] s₁ H ⟨[.ref a],[]⟩ [.ref a] [.ref a] _ _ hr e0 (hbind s₁ (.ref a)) (.cons VS .nil) (hsp H hO hS)) λr s' h=>?_
  cases r with
  | error e=>exact(hCX H e s' h).elim
  | ok fl=>
   cases fl with
   | next=>exact False.elim h
   | brk=>exact False.elim h
   | cont=>exact False.elim h
   | ret u=>
    obtain⟨v,H',os,bare,un,hok',r',q⟩:=h;have q':v=.bl true:=q;subst q';obtain rfl:u=Value.bool true:=r';refine⟨VS,OldK.of_keep λb o e=>?_,os,bare⟩
    cases q:H b with
    | none=>exact un.keep b o e q (by intro z;exact absurd (show b∈([]:List WP) from z) (by simp)) (by simp)
    | some u=>
     rcases hO b with z | ⟨ob,xs,z⟩
     ·rw[q] at z;cases z
     ·have z2:=un.frzs b ob _ z;obtain⟨e1,_⟩:=hok b _ z;obtain⟨e2,_⟩:=hok' b _ z2;rw[e] at e1;cases e1;exact e2
 cases hk:K.lookup a with
 | some o=>
  have e:=KX a o hk;rw[ha] at e
  cases e
  refine core (λ_=>none) (λ_=>.inl VS) (.inr ⟨_,vs.toArray,_,hk,VS,VS,VS,by rw[List.size_toArray,lenV];exact hl,by simpa using rv⟩) (λb u z=>by have z':(none:Option HO)=some u:=z;cases z') (λb z=>absurd VS z) λz=>absurd VS z
 | none=>
  refine core (λb=>if b=a then some (.frz {cls:=.type "list",data:=.seq vs.toArray} (.lst (ns.map V.int))) else none) (λb=>?_) (.inl (.inr ⟨{cls:=.type "list",data:=.seq vs.toArray},XY VS⟩)) (λb u z=>?_) (λb z=>?_) λ_=>hk
  ·by_cases hb:b=a
   ·exact .inr ⟨_,_,XY hb⟩
   ·exact .inl (XX hb)
  ·by_cases hb:b=a
   ·have z':=(XY hb).symm.trans z
    cases z'
    subst hb;exact⟨ha,by rw[XI];exact hl,vs,_,rv,ha⟩
   ·have z':=(XX hb).symm.trans z
    cases z'
  ·by_cases hb:b=a
   ·exact hb
   ·exact absurd (XX hb) z
abbrev KOf {K:WY}{h:WU}(_:K.In h):WY:=K
def walk_of {l:W.OpenLaw}{n k:Nat}{q:WO}{loose:List Str}{XP:(Str->Option WQ)->WU->Prop}{YP:WN->WU->Prop}{d:DefRec}{K:Params->WY}{CX:WN->tL}{sp:WN->Sp}{x:Str}
  (hn:l.most=some n) (hn2:n<=sizeLine) (hdf:d.params.defaults=[]) (hr:Wj k callerA)
  (hY:∀(w:WN) (h:WU),YP w h->(K w.params).In h)
  (F:∀(w:WN) (mg:Str->Option WQ) (fa:WP) (h:WU),(K w.params).In h->h.Ns mainGlobals mg->mg d.name=some (.ref fa)->
   ∃fd:VZ,(∀(s:WR) (u:WQ),BindsTo s fd ⟨[u],[]⟩ [(x,u)])/\
    ∀base:WU,(K w.params).In base->base.Ns mainGlobals mg->Yx l.prog w (K w.params) mg base (CX w) k fa fd [x] (sp w))
  (hsp:∀(w:WN) (H:Hp) (a:WP) (ns:List Int),ns.length<=n->pX H->Ug (K w.params) H a (ns.map V.int)->sp w [.ref a] H (λv _=>v=.bl true) λ_ _ _=>False)
  (hCX:∀(w:WN) (H:Hp) (s:WR) (e:WQ) (s':WR),CX w [] H s (λ_ _ _=>False) e s'->False):
  W.WalkO q loose XP YP l.row.toRowW d [] (λf vs=>PySem.call f vs):=by
 refine Att.attach_call hn hdf λw s₀ s₁ mg mb fa o pm cd doc a vs ns G Y ho hd hcd hmg hobj hints hlen hg=>?_;have KX:=hY w _ Y;obtain⟨fd,hb,hF⟩:=F w mg fa _ KX G.T.g hmg;exact qC KX G.T.g G.T.b G.T.builtins G.T.nolimit hg hobj hints (XN hlen hn2) hr hF hb (λH hO hS=>hsp w H a ns hlen hO hS) λH e s'=>hCX w H s₁ e s'
def walk_ofK {l:W.OpenLaw}{n k:Nat}{q:WO}{loose:List Str}{XP:(Str->Option WQ)->WU->Prop}{YP:WN->WU->Prop}{d:DefRec}{K:Params->WY}{CX:tL}{sp:WY->Sp}{x:Str}
  (hn:l.most=some n) (hn2:n<=sizeLine) (hdf:d.params.defaults=[]) (hr:Wj k callerA)
  (hY:∀(w:WN) (h:WU),YP w h->(K w.params).In h)
  (F:∀(w:WN) (mg:Str->Option WQ) (fa:WP) (h:WU),(K w.params).In h->h.Ns mainGlobals mg->mg d.name=some (.ref fa)->
   ∃fd:VZ,(∀(s:WR) (u:WQ),BindsTo s fd ⟨[u],[]⟩ [(x,u)])/\
    ∀base:WU,(K w.params).In base->base.Ns mainGlobals mg->Yx l.prog w (K w.params) mg base CX k fa fd [x] (sp (K w.params)))
  (hsp:∀(K:WY) (H:Hp) (a:WP) (ns:List Int),ns.length<=n->pX H->Ug K H a (ns.map V.int)->sp K [.ref a] H (λv _=>v=.bl true) λ_ _ _=>False)
  (hCX:∀(H:Hp) (s:WR) (e:WQ) (s':WR),CX [] H s (λ_ _ _=>False) e s'->False):
  W.WalkO q loose XP YP l.row.toRowW d [] (λf vs=>PySem.call f vs):=
 walk_of (K:=K) (CX:=λ_=>CX) (sp:=λw=>sp (K w.params)) hn hn2 hdf hr hY F (λw H a ns h1 h2 h3=>hsp (K w.params) H a ns h1 h2 h3) λ_ H s e s'=>hCX H s e s'
end L2
/-THE LAST THEOREM (shape;LID,My.*are yours):
  My.Adr:a structure of the addresses that your layer names (classes,functions);My.Txt K t:a structure (Prop) of the equations over K;
  My.txt_mk:{K} {implicit addresses ..} (e1:nsIn K mainGlobals "law"=some (some (.ref f))) (e2:K.lookup f=some ⟨oc,od,.func (fnOf "law" "law" params body scope dV kV doc pm an cdv ct),sl⟩) (e3:codeIn K cdv "law"=true) ..:∃t,My.Txt K t
set_option maxRecDepth 100000 in
set_option maxHeartbeats 0 in
def PySem.Challenge.cw_LID_holds:PySem.Challenge.rw_LID.Holds:=by
 w_on;o_law;k_head;(case hw=>w_witness2)
 k_fill
 refine L2.walk_of (l:=PySem.Challenge.rw_LID) (n:=63) (k:=40) (x:="script") (CX:=λw=>..) (sp:=λ_=>My.sp_law) VS (by decide) VS ⟨VS,by decide,by decide⟩ (λw h Y=>W.kIn_of Y) ?F ?S ?C
 case F=>
  intro w mg fa h KX G hmg;have T:∃t,My.Txt (L2.KOf KX) t:=by
   dsimp only[L2.KOf]--K must stand as «<heap const>w.params» for k_is
   refine' My.txt_mk ?e1 ?e2 ?e3 ..
   (case e1=>W.k_is)--in the order:a name->its address->its object->its parts
   (case e2=>W.k_is)
   ..
  obtain⟨t,T⟩:=T;have e0:=hmg.symm.trans (PZ KX G T.law)
  cases e0--fa is the law's own address
  exact⟨_,λs u=>.of_eq VS,λbase kb nb=>My.law_fn T kb nb⟩--if «.of_eq rfl» comes too early:refine' ⟨_,?b,λbase kb nb=>My.law_fn T kb nb⟩;exact λs u=>.of_eq VS
 case S=>exact λw H a ns hl hO hS=>..
 case C=>exact ..
(the tactic k_is has no namespace:write k_is)-/
namespace L2
open PySem PySem.Spec PyProof.Rows
def J6 (s:WV)(j:Nat):WV:=match s with
 | .ClassDef _ _ _ body _ _ _ _ _ _ _=>body.getD j (.Pass ⟨0,0,0,0⟩)
 | _=>.Pass ⟨0,0,0,0⟩
def Zz (s:WV):Arguments:=match s with
 | .FunctionDef _ a _ _ _ _ _ _ _ _=>a
 | _=>{posonlyargs:=[],args:=[],vararg:=none,kwonlyargs:=[],kw_defaults:=[],kwarg:=none,defaults:=[]}
def Zm (s:WV):List WV:=match s with
 | .FunctionDef _ _ b _ _ _ _ _ _ _=>b
 | _=>[]
def Zk (s:WV):Scope:=match s with
 | .FunctionDef _ _ _ _ _ _ sc _ _ _=>sc
 | _=>{kind:=.function,names:=[],isGenerator:=false,isCoroutine:=false}
abbrev CX0:tL:=λ_ _ _ _ _ _=>False
abbrev E0:XK:=λ_ _ _=>False
def Gn:Ml CX0 X E0:=λ_ _ _ _ _ _ _ h=>h.elim
structure V1 (K:W.Frag)(x qual:Str)(st:Stmt)(f:Addr)(fd:FuncData):Prop where
 ex:∃(oc:WQ) (od:Option WP) (kV doc pm:WQ) (an:Option WP) (cdv ct:WQ) (osl:Array (Option WQ)),
  fd=W.fnOf x qual (Zz st) (Zm st) (Zk st) .none kV doc pm an cdv ct/\K.lookup f=some ⟨oc,od,.func fd,osl⟩/\W.codeIn K cdv qual=true
 kp:W.keepIn K (.ref f)=true
section
variable {P:WO}{w:WN}{K:WY}{mg:Str->Option WQ}{base:WU}
def V1.ok {st:WV}{f:WP}{k:Nat}{sp:Sp}(F:V1 K x qual st f fd)(S:Zy N ps (Zk st))(len:∀vs H Q E,sp vs H Q E->vs.length=ps.length)
  (hbody:∀(cdv:WQ) (A:WM) (outer:List Env) (s:WR) (H:Hp) (vs:List V) (Q:VK) (E:XK),Wj k (A.deeper (envOfC qual (Zk st) s.heap.objs.size f cdv))->sp vs H Q E->
   ∃t,wC (Kz CX0 P w K mg base N qual (Zk st) f cdv A outer s H E).nox (Zm st) t/\t {nx:=λ_ H'=>Q .non H',rt:=Q} (start N vs) H):Yx P w K mg base CX0 (k+1) f fd ps sp:=by
 obtain⟨oc,od,kV,doc,pm,an,cdv,ct,osl,rfl,lk,hcd⟩:=F.ex;refine ke lk hcd S len λA outer s H vs Q E hr hsp=>?_;obtain⟨t,h,q⟩:=hbody cdv A outer s H vs Q E hr hsp;exact⟨t,h.nox,q⟩
def V1.binds {st:WV}{f:WP}{ps:List Str}(F:V1 K x qual st f fd)
  (h:∀(kV doc pm:WQ) (an:Option WP) (cdv ct:WQ) (us:List WQ),us.length=ps.length->bindArgs (W.fnOf x qual (Zz st) (Zm st) (Zk st) .none kV doc pm an cdv ct) ⟨us,[]⟩=pure (ps.zip us)):Ya K fd ps []:=by
 obtain⟨oc,od,kV,doc,pm,an,cdv,ct,osl,rfl,lk,hcd⟩:=F.ex;exact .all (h kV doc pm an cdv ct)
def Yc {st:WV}{f:WP}{oc:WQ}{od an:Option WP}{osl:Array (Option WQ)}{kV doc pm cdv ct:WQ}(l:K.lookup f=some ⟨oc,od,.func (W.fnOf x qual (Zz st) (Zm st) (Zk st) .none kV doc pm an cdv ct),osl⟩)
  (c:W.codeIn K cdv qual=true) (k:W.keepIn K (.ref f)=true):V1 K x qual st f (W.fnOf x qual (Zz st) (Zm st) (Zk st) .none kV doc pm an cdv ct):=⟨⟨oc,od,kV,doc,pm,an,cdv,ct,osl,VS,l,c⟩,k⟩
end
def Dy {n:Nat}(h:n<=1000):n<sizeLine:=Nat.lt_of_le_of_lt h (by decide)
section
variable {X:Cx}
end
def Zbp (H H':Hp):Prop:=∀b o,H b=some o->H' b=some o
section
variable {X:Cx}
def Mf (cap:List (Option Nat))(σ:St):St:=cap.map λo=>o.bind λi=>(σ[i]?).join
def Jt (X:Cx)(cN:List Str)(scope:Scope)(cl:List (Str×WP))(fp:List WP)(s:WR)(H:Hp):Cx:=
 {X with N:=cN,s₀:=s,H₀:=H,env:=compEnvC scope cl s.heap.objs.size X.env,outer:=X.stack,ex:=fp,fn:=λ_=>false,pn:=[],xe:=λ_ _=>False}
def tu (X:Cx)(ifs:List WW)(c:TT):Prop:=
 ∀(WZ:List (WP×Obj)) (s:WR) (σ:St) (H:Hp) (Q:Bool->Hp->Prop),Z7 X WZ σ H s->c σ H Q->
  wpAny (model X.prog X.w) X.A (forIn ifs true λc r=>if r=true then do let ok <-isTrue c X.env (eval c X.env);pure (ForInStep.yield ok) else pure (ForInStep.yield r)) (TP X WZ σ Q) X.xe s
def eo:TT:=λ_ H Q=>Q true H
def nQ:tu X [] eo:=λ_ _ _ H _ I h=>wpAny_tests_nil ⟨H,I,h⟩
def nP (h:PT X e t):tu X [e] t:=λWZ s σ H Q I q=>wpAny_tests_one (h WZ s σ H Q I q)
def Cz (js:List Nat)(g:TG):Prop:=∀x σ H Q,g x σ H Q->g x σ H λσ' H'=>Q σ' H'/\σ'.length=σ.length/\∀i,i∉js->σ'[i]?=σ[i]?
def zJ (js:List Nat)(g:jI):Prop:=∀x σ H Q,g x σ H Q->g x σ H λσ' H'=>Q σ' H'/\σ'.length=σ.length/\∀i,i∉js->σ'[i]?=σ[i]?
def Wy {i:Nat}:Cz [i] (Vm i):=λx σ H Q h=>⟨h,by simp,λj hj=>by
 rw[RV];intro e;exact hj (by simp[e])⟩
def zd:zJ [] ji:=λx σ H Q h=>⟨h.1,h.2,VS,λ_ _=>rfl⟩
def Mh (g:TG):Prop:=∀x σ H (Q Q':St->Hp->Prop),(∀σ' H',Q σ' H'->Q' σ' H')->g x σ H Q->g x σ H Q'
def L7 (g:jI):Prop:=∀x σ H (Q Q':St->Hp->Prop),(∀σ' H',Q σ' H'->Q' σ' H')->g x σ H Q->g x σ H Q'
def Ys:Mh (Vm i):=λx σ H Q Q' h q=>h _ _ q
def Ur:L7 ji:=λx σ H Q Q' h q=>⟨q.1,h _ _ q.2⟩
def Wx (a:Mh g)(b:L7 u):L7 (Qc g u):=λx σ H Q Q' h q=>by
 obtain⟨v,r,e,q⟩:=q;exact⟨v,r,e,a _ _ _ _ _ (λσ' H' z=>b _ _ _ _ _ h z) q⟩
def Tr (a:Cz js g)(am:Mh g)(b:zJ ks u)(bm:L7 u):zJ (js++ks) (Qc g u):=λx σ H Q q=>by
 obtain⟨v,r,e,q⟩:=q;refine⟨v,r,e,am _ _ _ _ _ (λσ' H' z=>?_) (a _ _ _ _ q)⟩;obtain⟨z,l1,k1⟩:=z;refine bm _ _ _ _ _ (λσ2 H2 z2=>?_) (b _ _ _ _ z);obtain⟨z2,l2,k2⟩:=z2;exact⟨z2,l2.trans l1,λi hi=>(k2 i λz=>hi (XT _ z)).trans (k1 i λz=>hi (QQ _ z))⟩
def zc {K:WY}(b:zJ js u):Cz js (jh K n u):=λx σ H Q q=>by
 obtain⟨a,xs,e,hq,hl,q⟩:=q;exact⟨a,xs,e,hq,hl,b _ _ _ _ q⟩
def Za2 (cap:List (Option Nat))(g:TG)(c:TT)(te:TE)(σ:St)(Q:WP->Hp->Prop)(J:It)(H1:Hp):Prop:=∀p,H1 p=none->∃W:Nat->Nat->Hp->Prop,(∃m,W 0 m (J7 H1 p (.lst [])))/\∀i m H,W i m H->
 (J.stop i H/\Q p H)\/(J.go i H/\∃N:Hp->Prop,(∀H',N H'->∃m',m'<m/\W (i+1) m' H')/\∀x H',J.yld i H x H'->g x (Mf cap σ) H' λσ2 H2=>c σ2 H2 λb H3=>
  if b=true then te σ2 H3 λv H4=>∃xs,H4 p=some (.lst xs)/\xs.length<sizeLine/\N (J7 H4 p (.lst (xs++[v]))) else N H3)
def Bm (cap:List (Option Nat))(wi:TI)(g:TG)(c:TT)(te:TE):St->Hp->(WP->Hp->Prop)->Prop:=λσ H Q=>wi σ H λJ H1=>Za2 cap g c te σ Q J H1
structure Ee (X:Cx)(cN:List Str)(cap:List (Option Nat))(scope:Scope)(cl:List (Str×Addr)):Prop where
 clos:closureFor scope X.env=pure cl
 sub:∀n a,cl.lookup n=some a->X.env.cells.lookup n=some a
 cell:∀y∈scope.names,y.2≠.cell
 kind:scope.kind=.function
 names:∀x∈scope.names,x.2=.local->scope.names.lookup x.1=some .local
 len:cap.length=cN.length
 has:∀x,((relabel scope X.env).names.lookup x=some .cell\/(relabel scope X.env).names.lookup x=some .free)->∃a,cl.lookup x=some a
 capd:∀(i j:Nat) (x:Str),cap[i]?=some (some j)->cN[i]?=some x->X.N[j]?=some x/\bi X.env.scope x/\X.env.scope.names.lookup x≠some .local/\((relabel scope X.env).names.lookup x=some .cell\/(relabel scope X.env).names.lookup x=some .free)
def pJ:(Mf cap σ).length=cap.length:=XI _
def j7 {i:Nat}(h:(Mf cap σ)[i]?=some (some v)):∃j,cap[i]?=some (some j)/\σ[j]?=some (some v):=by
 unfold Mf at h;rw[XM] at h
 cases e:cap[i]? with
 | none=>rw[e] at h;cases h
 | some o=>
  rw[e] at h
  cases o with
  | none=>cases h
  | some j=>
   refine⟨j,VS,?_⟩;simp only[Option.map_some,Option.bind_some,Option.some.injEq] at h
   cases q:σ[j]? with
   | none=>rw[q] at h;cases h
   | some u=>rw[q] at h;simp only[Option.join_some] at h;rw[h]
def wq {cN:List Str}{cap:List (Option Nat)}{scope:Scope}{cl:List (Str×WP)}{fp:List WP}{WZ:List (WP×Obj)}{σ:St}{H:Hp}{s:WR}{h':WU}{m:Str->Option WQ}{tk:Nat}
  (C:Ee X cN cap scope cl) (I:Z7 X WZ σ H s) (f:∀b∈fp,Mp X WZ H b) (fl:∀b∈fp,b<s.heap.objs.size) (hn:h'.Ns s.heap.objs.size m) (k:∀b o,s.heap.get? b=some o->h'.get? b=some o):
  Z7 (Jt X cN scope cl fp s H) [] (Mf cap σ) H {s with heap:=h',toks:=tk}:=by
 have hfs:∀b∈fp,b∉uN X.stack:=λb hb z=>by
  rcases QD.mp (I.stkSub b z) with e | z
  ·exact(f b hb).2.1 e
  ·exact(f b hb).2.2.1 z
 have hcl:∀x c,cl.lookup x=some c->∃v,s.heap.IsCell c v:=λx c e=>I.cell x c (C.sub x c e);refine⟨⟨I.ok.mod,?_,I.ok.glob,I.ok.blt,XE _,λx y c e1 e2=>I.ok.inj x y c (C.sub x c e1) (C.sub y c e2),C.has,λ_ _ z=>(nomatch z),I.ok.hd,I.ok.frames,.inl VS,λb hb=>⟨XH (fl b hb),λx c e=>(f b hb).2.2.2.2.1 x c (C.sub x c e)⟩,
   I.bs,Nat.le_trans I.ok.bsz I.sz,λb o e z=>?_,hfs,I.stack,I.stkFree⟩,VS,I.bare,Un.kept k,⟨m,hn,λi x v h1 h2 h3=>?_⟩,λx c e=>?_,I.fresh,λx c e=>I.freeC x c (C.sub x c e),λp hp=>absurd hp (by simp[Jt]),I.hok.kept k,?_⟩
 ·exact C.kind
 ·rcases (f b z).2.2.2.1 with q | q
  ·exact I.ok.noex b o e q
  ·exact absurd (XG (XD (I.ok.bs b o e).1) q) (RA _)
 ·obtain⟨j,hj,hσ⟩:=j7 h2;obtain⟨n1,n2,n3,n4⟩:=C.capd i j x hj h1;obtain⟨mo,hno,hlo⟩:=I.loc;obtain⟨u,ru,lk⟩:=hlo j x v n1 hσ n2;refine⟨u,ru,?_⟩
  rcases lk with⟨k1,_⟩ | ⟨_,c,e,z⟩
  ·exact absurd k1 n3
  ·obtain⟨a,ha⟩:=C.has x n4;have ea:=C.sub x a ha;rw[e] at ea;cases ea;obtain⟨o,ho,hd⟩:=z;exact .inr ⟨n4,c,ha,⟨o,k _ _ ho,hd⟩⟩
 ·obtain⟨v,o,ho,hd⟩:=hcl x c e;exact⟨v,o,k _ _ ho,hd⟩
 ·show(Mf cap σ).length=cN.length;rw[pJ,C.len]
def jy {cN:List Str}{scope:Scope}{cl:List (Str×WP)}{fp:List WP}{WZ pins':List (WP×Obj)}{σ σ':St}{H H':Hp}{s s':WR}{h':WU}
  (I:Z7 X WZ σ H s) (f:∀b∈fp,Mp X WZ H b) (J:Z7 (Jt X cN scope cl fp s H) pins' σ' H' s') (sb:Heap.SameBut s.heap.objs.size s'.heap h'):Z7 X WZ σ H' {s' with heap:=h'}:=by
 have ne:∀b o,s.heap.get? b=some o->b≠s.heap.objs.size:=λb o e=>XH (XD e);have B:Un (uN X.stack) fp H H' s.heap s'.heap:=J.base;refine I.call' (s':={s' with heap:=h'}) (ch:=fp) J.os ⟨λb o e n hb hx=>?_,λb o e n hb hx=>?_,B.free,λb o e hx=>?_,B.tups,B.frzs,B.tbls⟩ (λb o e=>?_) J.bare λb hb=>?_
 ·exact(sb.2 b (ne b o e)).trans (B.keep b o e n hb hx)
 ·obtain⟨sl,q⟩:=B.slot b o e n hb hx;exact⟨sl,(sb.2 b (ne b o e)).trans q⟩
 ·obtain⟨o',q⟩:=B.there b o e hx;exact⟨o',(sb.2 b (ne b o e)).trans q⟩
 ·have hf:H' s.heap.objs.size=none:=J.free;refine(J.hok b o e).stay (λc w' hc q=>(sb.2 c ?_).trans q) (λ_ q=>q) λ_ _ q=>q;rintro rfl
  rcases hc with rfl | hc
  ·rw[hf] at e;cases e
  ·rw[hf] at hc;cases hc
 ·obtain⟨f0,f1,f2,f3,f4,f5⟩:=f b hb;exact⟨f3,f1,f4,f5⟩
def Bc {α:Type}{t:Sem α}{Q:α->WR->Prop}{E:WQ->WR->Prop}(h:wpAny M A t Q (λ_ _=>False) s):wpAny M A t Q E s:=wpAny_mono h (λ_ _ q=>q) λ_ _ f=>f.elim
def uU {tg iter elt:WW}{ifs:List WW}{scope:Scope}{pos:Pos}{cN:List Str}{cap:List (Option Nat)}{cl:List (Str×WP)}{js:List Nat}{g:TG}{c:TT}{te:TE}{fp:List WP}{it D:WP}{tn:Nat->WU->Prop}{J:It}
  {σ:St} {H:Hp} {s s':WR} {Q:WP->Hp->Prop} {R:Result->WR->Prop} {H₀:Hp} (X:Cx)
  (hc:X.calm=true) (hg:PG (Jt X cN scope cl fp s H₀) tg g) (gm:Mh g) (gk:Cz js g) (hjs:∀j∈js,(cap[j]?).join=none) (ht:tu (Jt X cN scope cl fp s H₀) ifs c) (tm:∀σ H (Q Q':Bool->Hp->Prop),(∀b H',Q b H'->Q' b H')->c σ H Q->c σ H Q') (he:PE (Jt X cN scope cl fp s H₀) elt te)
  (T:jD X.prog X.w X.K tg J fp it tn) (W:Nat->Nat->Hp->Prop)
  (turn:∀i m H,W i m H->(J.stop i H/\Q D H)\/(J.go i H/\∃N:Hp->Prop,(∀H',N H'->∃m',m'<m/\W (i+1) m' H')/\∀x H',J.yld i H x H'->g x (Mf cap σ) H' λσ2 H2=>c σ2 H2 λb H3=>
   if b=true then te σ2 H3 λv H4=>∃xs,H4 D=some (.lst xs)/\xs.length<sizeLine/\N (J7 H4 D (.lst (xs++[v]))) else N H3))
  (m:Nat) (w0:W 0 m H) (I:Z7 (Jt X cN scope cl fp s H₀) [] (Mf cap σ) H s') (st:tn 0 s'.heap) (f:∀b∈fp,Mp (Jt X cN scope cl fp s H₀) [] H b)
  (hR:∀σ' H' s',Z7 (Jt X cN scope cl fp s H₀) [] σ' H' s'->Q D H'->R (.ok .next) s'):
  codeAny (model X.prog X.w) X.A (.compLoop (.ListComp elt [⟨tg,iter,ifs,0⟩] scope pos) 0 (.ref it) (.ref D) (Jt X cN scope cl fp s H₀).env) R s':=by
 have stat:∀{H':Hp},(∀b∈fp,H' b=none)->∀b∈fp,Mp (Jt X cN scope cl fp s H₀) [] H' b:=λhn b hb=>⟨hn b hb,(f b hb).2⟩;refine codeAny_loop VS (λn s'=>∃i H',Z7 (Jt X cN scope cl fp s H₀) [] (Mf cap σ) H' s'/\tn i s'.heap/\(∀b∈fp,H' b=none)/\W i n H') ?_ m ⟨0,H,I,st,λb hb=>(f b hb).1,w0⟩;rintro n s3 ⟨i,H3,I3,st3,fr3,w3⟩;show wpAny _ X.A ((compTurn (.ListComp elt [⟨tg,iter,ifs,0⟩] scope pos) 0 (.ref it) (.ref D) (Jt X cN scope cl fp s H₀).env).onRaise (λx=>do noteFrame x (Jt X cN scope cl fp s H₀).env;theTreesLotGoes x)) _ _ s3;refine wpAny_noted (Bc ?_);rw[compTurn_list];refine XA (wpAny_standAt (XA ?_))
 rcases turn i n H3 w3 with⟨stop,qn⟩ | ⟨go,N,hN,step⟩
 ·refine J5 (T.done (Jt X cN scope cl fp s H₀) VS VS VS hc i [] s3 _ H3 _ I3 (stat fr3) st3 stop) λr s4 ⟨hr,I4⟩=>?_;subst hr;exact XB (hR _ _ _ I4 qn)
 ·refine J5 (T.item (Jt X cN scope cl fp s H₀) VS VS VS hc i [] s3 _ H3 _ I3 (stat fr3) st3 go) λr s4 ⟨u,hr,h4⟩=>?_;subst hr;refine XA (J5 h4 λ_ s5 ⟨x,H5,I5,r5,y5,st5,fr5⟩=>?_);have I5':=I5.pinned (stat fr5) (T.obj _ _ st5);refine XA (J5 (hg _ s5 _ H5 x u _ I5' r5 (gk _ _ _ _ (step x H5 y5))) λ_ s6 ⟨σ6,H6,I6,q6,l6,k6⟩=>?_);have back:∀{H7:Hp} {s7:WR},Z7 (Jt X cN scope cl fp s H₀) ([]++Gk fp s5.heap) σ6 H7 s7->N H7->∃m,m<n/\∃i H',Z7 (Jt X cN scope cl fp s H₀) [] (Mf cap σ) H' s7/\tn i s7.heap/\(∀b∈fp,H' b=none)/\W i m H':=λ{H7 s7} I7 n7=>by
   obtain⟨m',hm,w7⟩:=hN H7 n7;refine⟨m',hm,i+1,H7,I7.unpinned.weak l6.symm λj v hj=>?_,T.keep _ _ _ st5 λb hb o e=>(I7.pin (b,o) (XT _ (XT _ (Qv hb e)))).1,λb hb=>?_,w7⟩
   ·by_cases hjj:j∈js
    ·obtain⟨z,hz,_⟩:=j7 hj;have:=hjs j hjj;rw[hz] at this;cases this
    ·rw[k6 j hjj];exact hj
   ·obtain⟨o,e,d⟩:=T.obj _ _ st5 b hb;exact(I7.pin (b,o) (XT _ (XT _ (Qv hb e)))).2.1
  refine XA (J5 (ht _ s6 σ6 H6 _ I6 q6) λb s7 ⟨H7,I7,q7⟩=>?_)
  cases b with
  | false=>
   rw[XX YJ] at q7;exact XB ⟨VS,back I7 q7⟩
  | true=>
   rw[XY rfl] at q7;refine XA (XA (J5 (he _ s7 σ6 H7 _ I7 q7) λy s8 ⟨v,H8,I8,r8,xs,e8,z8,n8⟩=>?_));refine XA (J5 (Cd _ s8 σ6 H8 (.ref D) [v] (.ref D) [y] (λ_ H9=>N H9) I8 VS (.cons r8 .nil) ⟨D,xs,v,VS,VS,e8,z8,n8⟩) λ_ s9 ⟨_,H9,I9,_,q9⟩=>?_);exact XB (XB ⟨VS,back I9 q9⟩)
section
variable {X:Cx}{tg iter elt:WW}{ifs:List WW}{scope:Scope}{pos:Pos}{cN:List Str}{cap:List (Option Nat)}{cl:List (Str×WP)}{js:List Nat}{wi:TI}{g:TG}{c:TT}{te:TE}
structure jG (X:Cx)(tg iter elt:Expr)(ifs:List Expr)(scope:Scope)(cN:List Str)(cap:List (Option Nat))(cl:List (Str×Addr))(js:List Nat)(wi:TI)(g:TG)(c:TT)(te:TE):Prop where
 calm:X.calm=true
 ok:X.Ok->Ee X cN cap scope cl
 it:PI X tg iter wi
 tgt:∀fp s H,PG (Jt X cN scope cl fp s H) tg g
 gm:Mh g
 gk:Cz js g
 js0:∀j∈js,(cap[j]?).join=none
 ts:∀fp s H,tu (Jt X cN scope cl fp s H) ifs c
 tm:∀σ H (Q Q':Bool->Hp->Prop),(∀b H',Q b H'->Q' b H')->c σ H Q->c σ H Q'
 el:∀fp s H,PE (Jt X cN scope cl fp s H) elt te
 fold:∀x,foldedSetIterable iter X.env x=pure x
def Fw {Q:WP->Hp->Prop}{RR:WQ->WP->Result->WR->Prop}(C:jG X tg iter elt ifs scope cN cap cl js wi g c te)(I:Z7 X WZ σ H s)(h:Bm cap wi g c te σ H Q)
  (hRR:∀(D:WP) (fp:List WP) (s3:WR) (H3:Hp) (σ':St) (H':Hp) (s':WR),Z7 X WZ σ H3 s3->(∀b∈fp,Mp X WZ H3 b)->Z7 (Jt X cN scope cl fp s3 H3) [] σ' H' s'->Q D H'->RR (.ref D) s3.heap.objs.size (.ok .next) s'):
  wpAny (model X.prog X.w) X.A (eval iter X.env) (λx s₁=>wpAny (model X.prog X.w) X.A (pyIter x) (λit s₂=>wpAny (model X.prog X.w) X.A (newList []) (λacc s₃=>
   wpAny (model X.prog X.w) X.A (newFunctionEnv scope X.env.globals cl [] X.env.qual none .none (some X.env)) (λcenv s₄=>
    codeAny (model X.prog X.w) X.A (.compStart (.ListComp elt [⟨tg,iter,ifs,0⟩] scope pos) 0 it acc {cenv with scope:=relabel scope X.env}) (RR acc cenv.locals) s₄) X.xe s₃) X.xe s₂) X.xe s₁) X.xe s:=by
 refine J5 (C.it WZ s σ H _ I h) λv s1 h1=>J5 h1 λitv s2 h2=>?_;obtain⟨it,fp,tn,J,H2,e,I2,T,st2,f2,R2⟩:=h2;subst e;obtain⟨W,⟨m,w0⟩,turn⟩:=R2 s2.heap.objs.size I2.fresh;have I3:Z7 X WZ σ (J7 H2 s2.heap.objs.size (.lst [])) {s2 with heap:=s2.heap.push {cls:=.type "list",data:=.seq ([]:List WQ).toArray},toks:=s2.toks}:=I2.lnew (ys:=[]) (its:=[]) .nil (XO _);have fl:∀b∈fp,b<s2.heap.objs.size:=λb hb=>by
  obtain⟨o,e,_⟩:=T.obj _ _ st2 b hb;exact XD e
 have f3:∀b∈fp,Mp X WZ (J7 H2 s2.heap.objs.size (.lst [])) b:=λb hb=>⟨by rw[Yi (XH (fl b hb))];exact(f2 b hb).1,(f2 b hb).2⟩;refine wpAny_newObj_type (wpAny_newFunctionEnv (C.ok I.ok).cell (by intro y hy;simp at hy) (λh₁ hns₁ hsb₁=>?_) (C.ok I.ok).kind);dsimp only at hns₁ hsb₁ |-;generalize hs3:({s2 with heap:=s2.heap.push {cls:=.type "list",data:=.seq ([]:List WQ).toArray},toks:=s2.toks}:WR)=s3 at I3;have hh3:s3.heap=s2.heap.push {cls:=.type "list",data:=.seq ([]:List WQ).toArray}:=by rw[<-hs3]
 rw[<-hh3] at hns₁ hsb₁ |-;have fl3:∀b∈fp,b<s3.heap.objs.size:=λb hb=>by rw[hh3,QU];exact SN (fl b hb)
 have k1:∀b o,s3.heap.get? b=some o->h₁.get? b=some o:=λb o e=>(hsb₁.2 b (XH (XD e))).trans (XC _ e);have I4:=wq (tk:=s2.toks+([]:List (Str×WQ)).length) (C.ok I.ok) I3 f3 fl3 hns₁ k1;have e4:({s3 with heap:=h₁,toks:=s2.toks+([]:List (Str×WQ)).length}:WR)={s2 with heap:=h₁,toks:=s2.toks+([]:List (Str×WQ)).length}:=by rw[<-hs3]
 rw[e4] at I4;have st4:tn 0 h₁:=T.keep _ _ _ st2 λb hb o e=>k1 b o (by rw[hh3];exact XC _ e);have f4:∀b∈fp,Mp (Jt X cN scope cl fp s3 (J7 H2 s2.heap.objs.size (.lst []))) [] (J7 H2 s2.heap.objs.size (.lst [])) b:=λb hb=>by
  obtain⟨g0,g1,g2,g3,g4,g5⟩:=f3 b hb;refine⟨g0,Nat.ne_of_lt (fl3 b hb),λz=>?_,.inl hb,λx c e=>g4 x c ((C.ok I.ok).sub x c e),λp hp=>absurd hp (by simp[Jt])⟩
  rcases QD.mp (I3.stkSub b z) with e | z
  ·exact g1 e
  ·exact g2 z
 have loop:codeAny (model X.prog X.w) X.A (.compLoop (.ListComp elt [⟨tg,iter,ifs,0⟩] scope pos) 0 (.ref it) (.ref s2.heap.objs.size) (Jt X cN scope cl fp s3 (J7 H2 s2.heap.objs.size (.lst []))).env) (RR (.ref s2.heap.objs.size) s3.heap.objs.size)
   {s2 with heap:=h₁,toks:=s2.toks+([]:List (Str×WQ)).length}:=
  uU X C.calm (C.tgt _ _ _) C.gm C.gk C.js0 (C.ts _ _ _) C.tm (C.el _ _ _) T W turn m w0 I4 st4 f4 λσ' H' s' I' q=>hRR _ fp s3 _ σ' H' s' I3 f3 I' q
 exact codeAny_compStart_list loop (T.self _ 0 _ _ _ st4 loop)
def eN (cap:List (Option Nat))(wi:TI)(g:TG)(c:TT)(te:TE):TE:=λσ H Q=>Bm cap wi g c te σ H λp H'=>Q (.ref p) H'
def nW (C:jG X tg iter elt ifs scope cN cap cl js wi g c te):PE X (.ListComp elt [⟨tg,iter,ifs,0⟩] scope pos) (eN cap wi g c te):=by
 intro WZ s σ H Q I h;rw[eval_ListComp];refine wpAny_comprehension_free (use:=none) VS C.fold (C.ok I.ok).clos (C.ok I.ok).kind (C.ok I.ok).names (Fw (RR:=λacc C'=>compPost (model X.prog X.w) X.A X.xe none (EP X WZ σ Q) acc C') C I h ?_);intro D fp s3 H3 σ' H' s' I3 f3 J q;obtain⟨m,hn,_⟩:=J.loc;exact⟨m,hn,λh' sb=>⟨.ref D,H',jy I3 f3 J sb,VS,q⟩⟩
def sr (i:Nat)(cap:List (Option Nat))(wi:TI)(g:TG)(c:TT)(te:TE):TS:=λD σ H=>Bm cap wi g c te σ H λp H'=>D.nx (σ.set i (some (.ref p))) H'
def xo {i:Nat}{py spos:Pos}(hN:X.N.Nodup)(hi:X.N[i]?=some y)(hy:X.env.scope.names.lookup y=some .local)
  (hsw:swapsWith (.ListComp elt [⟨tg,iter,ifs,0⟩] scope pos) (some (.Name y py)) spos.line X.env=pure true)
  (C:jG X tg iter elt ifs scope cN cap cl js wi g c te):PS X (.Assign [.Name y py] (.ListComp elt [⟨tg,iter,ifs,0⟩] scope pos) spos) (sr i cap wi g c te):=by
 intro WZ s σ H D I h;rw[exec_Assign_Name_used _ _ _ _ hsw];refine XA (wpAny_standAt (XA ?_));show wpAny _ X.A (do let _ <-comprehension (.ListComp elt [⟨tg,iter,ifs,0⟩] scope pos) scope X.env _ (newList []) false (eval iter X.env) (some (assign (.Name y py) X.env))) _ _ s;refine XA (wpAny_mono (wpAny_comprehension_free (use:=some (assign (.Name y py) X.env)) (Q:=λ_ s'=>SP X WZ D .next s') VS C.fold (C.ok I.ok).clos (C.ok I.ok).kind (C.ok I.ok).names
  (Fw (RR:=λacc C'=>compPost (model X.prog X.w) X.A X.xe (some (assign (.Name y py) X.env)) (λ_ s'=>SP X WZ D .next s') acc C') C I h ?_)) (λ_ s' hq=>XB (XB hq)) λ_ _ e=>e)
 intro D' fp s3 H3 σ' H' s' I3 f3 J q;obtain⟨m,hn,_⟩:=id J.loc;have I4:Z7 X WZ σ H' s':=jy I3 f3 J (Heap.SameBut.refl ..);show wpAny _ X.A (assign (.Name y py) X.env (.ref D')) _ _ _;refine wpAny_assign_Name (Dx (v:=.ref D') I4 hN hi (.inl hy) VS (λs5 I5 hch=>?_) (.inr hy));obtain⟨a,sb,ha⟩:=hch;have hf:H' s3.heap.objs.size=none:=J.free;have hCL:s3.heap.objs.size≠X.env.locals:=RL I3.lt;have hcells:∀x c,X.env.cells.lookup x=some c->c≠s3.heap.objs.size:=λx c e=>by
  obtain⟨v,o,ho,_⟩:=I3.cell x c e;exact XH (XD ho)
 have haC:s3.heap.objs.size≠a:=by
  rcases ha with z | z
  ·rw[z];exact hCL
  ·exact Ne.symm (hcells _ _ z)
 refine⟨m,hn.sameBut sb haC,λh6 sb6=>⟨_,H',?_,q⟩⟩;exact I5.turned (h':=h6) (t':=s5.toks) (λb o hb e=>(sb6.2 b hb).trans e) hf hCL (.inr I3.sz) (λx c e=>hcells x c e) λp hp z=>by
  have:=XD (I3.pin p hp).1;rw[z] at this;exact RA _ this
end
end
def bq (z:Str):It:=⟨λi _=>i<z.cps.size,λi H x H'=>H'=H/\∃c,z.cps[i]?=some c/\x=.str ⟨#[c]⟩,λi _=>i=z.cps.size⟩
def Ht {P:WO}{w:WN}{K:WY}{tg:WW}{it:WP}{z:Str}{t:Tok}(hty:["enumerate","zip","dict_itemiterator","dict_reverseitemiterator","odict_iterator","itertools.zip_longest","itertools.pairwise"].contains ty=false)
  (W:∀A:WM,A.handled=none->Walks P w A it [it] [it] z.cps.size (SignAt z) (λi h=>h.IsStrIter it ty z t i))
  (self:∀(A:WM) (i:Nat) (s:WR) (Q:WQ->WR->Prop) (E:WQ->WR->Prop),s.heap.IsStrIter it ty z t i->Q (.ref it) s->wpAny (model P w) A (pyIter (.ref it)) Q E s):
  jD P w K tg (bq z) [it] it (λi h=>h.IsStrIter it ty z t i) where
 mem:=by simp
 obj:=λi h st b hb=>by
  have e:b=it:=by simpa using hb
  subst e;obtain⟨o,e,c,d⟩:=st;exact⟨o,e,λv z=>by rw[d] at z;cases z⟩
 keep:=λi h h' st k=>let ⟨o,e,r⟩:=st;⟨o,k it (by simp) o e,r⟩
 item:=by
  intro X hP hw hK hc i WZ s σ H E I hf st hg;subst hP hw hK;obtain⟨f0,f1,f2,f3,f4,f5⟩:=hf it (by simp);refine(W X.A (I.ok.hd hc)).item i s _ _ hg st λv h' tk hv st' kk=>?_;obtain⟨c,u,hcp,rfl⟩:=hv;have I1:Z7 X WZ σ H {s with heap:=h',toks:=tk}:=I.turned (λb o hb e=>kk b o (by simpa using hb) e) f0 f1 f3 f4 f5;obtain⟨o,e,c',d⟩:=id st';exact⟨_,VS,v0 (s:={s with heap:=h',toks:=tk}) e c' d hty ⟨.str ⟨#[c]⟩,H,I1,⟨u,VS⟩,⟨VS,c,hcp,VS⟩,st',λb hb=>(hf b hb).1⟩⟩
 done:=by
  intro X hP hw hK hc i WZ s σ H E I hf st hg;subst hP hw hK;obtain⟨f0,f1,f2,f3,f4,f5⟩:=hf it (by simp);have e:i=z.cps.size:=hg;subst e;exact(W X.A (I.ok.hd hc)).done s _ _ st λh' tk kk=>⟨VS,I.turned (λb o hb e=>kk b o (by simpa using hb) e) f0 f1 f3 f4 f5⟩
 self:=self
section
variable {X:Cx}{tg:WW}
end
section
variable {X:Cx}{elts:List WW}{ek:Nat}{epos:Pos}
end
section
variable {X:Cx}
def im (K:WY):R2:=λx y H Q=>∃a b ys,x=.ref a/\y=.ref b/\Tg K H a []/\Tg K H b ys/\Q (.ref b) H
def rX:Mm X (binaryOp .Add) (im X.K):=by
 intro WZ s σ H x y v u Q I rx ry h;obtain⟨a,b,ys,rfl,rfl,ha,hb,q⟩:=h
 cases rx
 cases ry
 obtain⟨its,r1,p1,_⟩:=I.tuple ha;obtain⟨its2,r2,p2,_⟩:=I.tuple hb
 cases r1
 obtain⟨⟨cls,dd,data,sl⟩,ho,hc,n,hd⟩:=id p1;obtain⟨⟨cls2,dd2,data2,sl2⟩,ho2,hc2,n2,hd2⟩:=id p2;simp only at hc hd hc2 hd2;subst hc hd hc2 hd2;exact concat_meets ⟨_,ho,VS⟩ ⟨_,ho2,VS⟩ noFill_tuple_add seq_tuple_add SS SM (SI _ _)
  (tuple_addW0 a b _ _ n n2 dd dd2 sl sl2 (by simp)) ⟨ho,ho2,⟨.ref b,H,I,VS,q⟩⟩
def vh (h:IsPart v o):∃l:Option (Int×Tok),v=partValue l/\l.map (·.1)=o:=by
 cases h with
 | none=>exact⟨none,VS,VS⟩
 | int i t=>exact⟨some (i,t),VS,VS⟩
def bS:V->Option Int->Option Int->Hp->VK->Prop:=λx lo hi H Q=>∃z,x=.str z/\z.length<=sizeLine/\Q (.str (Txt.slice z lo hi)) H
def kU:lC X bS:=by
 intro WZ s σ H x v vl vu lo hi sl Q I rx hs pl pu h;obtain⟨z,rfl,hz,q⟩:=h;obtain⟨t,rfl⟩:=rx;obtain⟨l,rfl,rfl⟩:=vh pl;obtain⟨u,rfl,rfl⟩:=vh pu;refine⟨"str",_,PySem.F.slot_str_getitem.lookup,typeIs_str _ _ _,?_⟩;obtain⟨o,ho,hc,hd⟩:=hs;refine wpAny_getItem_str_slice (l:=l) (u:=u) (st:=none) ⟨o,ho,hc,hd⟩ VS ?_;have hle:=Txt.slice_le z (l.map (·.1)) (u.map (·.1));unfold sliceMade;unfold Txt.slice at q hle;show Made.post (if ((1:Int)==1&&(PySem.Builtin.Str.strSliceIndices (l.map (·.1)) (u.map (·.1)) 1 z.length).length==z.length)=true then _ else Made.str ⟨((PySem.Builtin.Str.strSliceIndices (l.map (·.1)) (u.map (·.1)) 1 z.length).filterMap (z.cps[·]?)).toArray⟩) _ s
 split
 ·rename_i hif;rw[XY hif] at q;exact⟨.str z,H,I,⟨t,VS⟩,q⟩
 ·rename_i hif;rw[XX hif] at q;rw[XX hif] at hle;exact⟨XN hle hz,.str _,H,I.tok _,⟨_,VS⟩,q⟩
end
def gQ:bootBuiltins "max"=some (.builtin "max"):=by decide+kernel
def Dm:bootBuiltins "isinstance"=some (.builtin "isinstance"):=by decide+kernel
def gR:bootBuiltins "int"=some (.type "int"):=by decide+kernel
def Ea:bootBuiltins "str"=some (.type "str"):=by decide+kernel
def ll:bootBuiltins "list"=some (.type "list"):=by decide+kernel
def Of:bootBuiltins "tuple"=some (.type "tuple"):=by decide+kernel
section
variable {X:Cx}
structure Ca (P:Program)(w:World)(K:W.Frag)(mg:Str->Option Value)(base:Heap)(k:Nat)(x:Str)(ps:List Str)(sp:Sp):Prop where
 ex:∃(f:WP) (fd:VZ),Yx P w K mg base CX0 k f fd ps sp/\Ya K fd ps []/\W.keepIn K (.ref f)=true/\mg x=some (.ref f)
def dE {k:Nat}{p pos:Pos}{e:WW}{es:List WW}(C:Ca X.prog X.w X.K X.mg X.base k x ps sp)(hr:Wj k X.A)(hg:Gl X x)(ha:PA X (e::es) t)
  (hdb:(x==("__debug__":Str))=false:=by decide) (he:starEach (e::es) X.env=(false,eval e X.env)::starEach es X.env:=by rfl) (hpl:(backTo pos (starEach es X.env)).any (·.1)=false:=by rfl):
  PE X (.Call (.Name x p) (e::es) [] pos) (yb sp [] E0 t):=by
 obtain⟨f,fd,F,B,kp,m⟩:=C.ex;exact vg F hr hg m kp B .nil Gn ha hdb he hpl
def zb {K:WY}(b:L7 u):Mh (jh K n u):=λx σ H Q Q' h q=>by
 obtain⟨a,xs,e,hq,hl,q⟩:=q;exact⟨a,xs,e,hq,hl,b _ _ _ _ _ h q⟩
def Sv {k:NameKind}(h:(relabel scope env).names.lookup x=some k):∃k',(x,k')∈scope.names/\(k'=k\/k'=.free):=by
 have m:=QV h;unfold relabel at m;obtain⟨⟨n,k'⟩,hm,e⟩:=XR.mp m;dsimp only at e
 split at e
 ·rename_i hc
  cases e
  refine⟨k',hm,.inr ?_⟩;simp only[Bool.and_eq_true,beq_iff_eq] at hc;exact hc.1.1
 ·cases e
  exact⟨_,hm,.inl VS⟩
def Hn {cN:List Str}{cap:List (Option Nat)}{scope:Scope}(hk:scope.kind=.function)(h1:scope.names.all (λy=>y.2 !=.free&&y.2 !=.cell)=true)(h2:scope.names.all (λy=>y.2 !=.local||scope.names.lookup y.1==some .local)=true)
  (hl:cap.length=cN.length) (hc:cap.all (λo=>o.isNone)=true):Ee X cN cap scope [] where
 clos:=closureFor_none λy hy=>by
  have:=QR.mp h1 y hy;simp only[Bool.and_eq_true,bne_iff_ne,ne_eq] at this;exact this.1
 sub:=λn a h=>by cases h
 cell:=λy hy=>by
  have:=QR.mp h1 y hy;simp only[Bool.and_eq_true,bne_iff_ne,ne_eq] at this;exact this.2
 kind:=hk
 names:=λy hy e=>by
  have:=QR.mp h2 y hy;simp only[Bool.or_eq_true,bne_iff_ne,ne_eq,beq_iff_eq] at this
  rcases this with q | q
  ·exact absurd e q
  ·exact q
 len:=hl
 has:=λx h=>by
  exfalso;have no:∀k',(x,k')∈scope.names->k'≠.free/\k'≠.cell:=λk' hy=>by
   have:=QR.mp h1 _ hy;simpa only[Bool.and_eq_true,bne_iff_ne,ne_eq] using this
  rcases h with h | h
  ·obtain⟨k',hm,e⟩:=Sv h
   rcases e with e | e
   ·exact(no k' hm).2 e
   ·exact(no k' hm).1 e
  ·obtain⟨k',hm,e⟩:=Sv h
   rcases e with e | e
   ·exact(no k' hm).1 e
   ·exact(no k' hm).1 e
 capd:=λi j x h _=>by
  have:=QR.mp hc _ (QB h)
  cases this
def Ud (cells:List (Str×WP)):List (Str×NameKind)->List (Str×WP)->List (Str×WP)
 | [],cs=>cs
 | (n,k)::r,cs=>Ud cells r (if k==.free then(n,(cells.lookup n).getD 0)::cs else cs)
def Me:∀{names:List (Str×NameKind)} {cs:List (Str×WP)} {p:Str×WP},p∈Ud cells names cs↔p∈cs\/((p.1,NameKind.free)∈names/\p.2=(cells.lookup p.1).getD 0)
 | [],cs,p=>by simp[Ud]
 | (n,k)::r,cs,p=>by
  unfold Ud;rw[Me];by_cases hk:k=.free
  ·subst hk;simp only[beq_self_eq_true,if_true,List.mem_cons,Prod.mk.injEq,and_true];constructor
   ·rintro((h | h) | h)
    ·subst h;exact .inr ⟨.inl VS,VS⟩
    ·exact .inl h
    ·exact .inr ⟨.inr h.1,h.2⟩
   ·rintro(h | ⟨h | h,e⟩)
    ·exact .inl (.inr h)
    ·refine .inl (.inl ?_);obtain⟨a,b⟩:=p;simp only at h e;subst h;subst e;rfl
    ·exact .inr ⟨h,e⟩
  ·have hb:(k==NameKind.free)=false:=by simpa using hk
   simp only[hb,Bool.false_eq_true,if_false,List.mem_cons,Prod.mk.injEq];constructor
   ·rintro(h | h)
    ·exact .inl h
    ·exact .inr ⟨.inr h.1,h.2⟩
   ·rintro(h | ⟨h | h,e⟩)
    ·exact .inl h
    ·exact absurd h.2.symm hk
    ·exact .inr ⟨h,e⟩
def Dj {scope:Scope}{env:Env}(h:∀n,(n,NameKind.free)∈scope.names->∃c,env.cells.lookup n=some c):closureFor scope env=pure (Ud env.cells scope.names []):=by
 have key:∀(names:List (Str×NameKind)) (cs:List (Str×WP)),(∀n,(n,NameKind.free)∈names->∃c,env.cells.lookup n=some c)->
   (forIn names cs λx r=>(match x with | (name,kind)=>if (kind==NameKind.free)=true then(do let y <-cellOf env name;pure (ForInStep.yield ((name,y)::r))) else pure (ForInStep.yield r):Sem (ForInStep (List (Str×WP)))))=pure (Ud env.cells names cs):=by
  intro names
  induction names with
  | nil=>intro cs _;rfl
  | cons y r ih=>
   obtain⟨n,k⟩:=y;intro cs hn;rw[List.forIn_cons];unfold Ud;by_cases hk:k=.free
   ·subst hk;obtain⟨c,hc⟩:=hn n (QP);simp only[beq_self_eq_true,if_true,cellOf,hc,Option.getD_some];exact ih _ λm hm=>hn m (XV _ hm)
   ·have hb:(k==NameKind.free)=false:=by simpa using hk
    simp only[hb,Bool.false_eq_true,if_false];exact ih _ λm hm=>hn m (XV _ hm)
 unfold closureFor;have:=key scope.names [] h
 first
  | exact this
  | (simp only[bind_pure];exact this)
  | (show(forIn scope.names [] _>>=λr=>pure r)=_;rw[bind_pure];exact this)
def G7 {f:Str->NameKind->NameKind}:∀{names:List (Str×NameKind)} {x:Str},(names.map λy=>(y.1,f y.1 y.2)).lookup x=(names.lookup x).map (f x)
 | [],x=>rfl
 | (n,k)::r,x=>by
  have ih:=@G7 f r x;rw[YI,UB,UB];by_cases hx:x=n
  ·subst hx;simp
  ·have hb:(x==n)=false:=beq_eq_false_iff_ne.mpr hx;simp only[hb];exact ih
def G8:(relabel scope env).names.lookup x=
   (scope.names.lookup x).map λk=>if (k==NameKind.free&&env.scope.kind==.function&&env.kindOf x==some .cell) then NameKind.cell else k:=by
 rw[<-G7 (f:=λn k=>if (k==NameKind.free&&env.scope.kind==.function&&env.kindOf n==some .cell) then NameKind.cell else k)];unfold relabel;congr 1;refine QM λy _=>?_;obtain⟨n,k⟩:=y;dsimp only
 split<;>rfl
def Fy (N:List Str)(outer inner:List (Str×NameKind)):List (Option Nat)->List Str->Bool
 | [],_=>true
 | _,[]=>true
 | none::r,_::xs=>Fy N outer inner r xs
 | some j::r,x::xs=>N[j]?==some x&&outer.lookup x==some .cell&&inner.lookup x==some .free&&Fy N outer inner r xs
def K0:∀{cap:List (Option Nat)} {cN:List Str},Fy N outer inner cap cN=true->∀(i j:Nat) (x:Str),cap[i]?=some (some j)->cN[i]?=some x->N[j]?=some x/\outer.lookup x=some .cell/\inner.lookup x=some .free
 | [],_,_,i,j,x,h1,_=>by simp at h1
 | _::_,[],_,i,j,x,_,h2=>by simp at h2
 | none::r,y::xs,h,0,j,x,h1,_=>by simp at h1
 | none::r,y::xs,h,i+1,j,x,h1,h2=>K0 (cap:=r) (cN:=xs) (by simpa[Fy] using h) i j x (by simpa using h1) (by simpa using h2)
 | some k::r,y::xs,h,0,j,x,h1,h2=>by
  simp only[Fy,Bool.and_eq_true,beq_iff_eq] at h;simp at h1 h2;subst h1 h2;exact⟨h.1.1.1,h.1.1.2,h.1.2⟩
 | some k::r,y::xs,h,i+1,j,x,h1,h2=>by
  simp only[Fy,Bool.and_eq_true,beq_iff_eq] at h;exact K0 (cap:=r) (cN:=xs) h.2 i j x (by simpa using h1) (by simpa using h2)
def Nh {α β:Type}[BEq α][LawfulBEq α]{x:α}:∀{l:List (α×β)} {b:β},(x,b)∈l->∃c,l.lookup x=some c
 | [],_,h=>by cases h
 | (y,c)::r,b,h=>by
  rw[UB];by_cases hx:x=y
  ·subst hx;simp
  ·have hb:(x==y)=false:=beq_eq_false_iff_ne.mpr hx;rw[hb]
   rcases QD.mp h with e | h
   ·cases e;exact absurd VS hx
   ·exact Nh h
def Ov {cN:List Str}{cap:List (Option Nat)}{scope:Scope}(ok:X.Ok)(hk:scope.kind=.function)(h1:scope.names.all (λy=>y.2 !=.cell)=true)(h2:scope.names.all (λy=>y.2 !=.local||scope.names.lookup y.1==some .local)=true)
  (hl:cap.length=cN.length) (hf:(scope.names.all λy=>y.2 !=.free||X.env.scope.names.lookup y.1==some .cell)=true) (hc:Fy X.N X.env.scope.names scope.names cap cN=true):Ee X cN cap scope (Ud X.env.cells scope.names []):=by
 have hfr:∀n,(n,NameKind.free)∈scope.names->∃c,X.env.cells.lookup n=some c:=λn hn=>by
  have:=QR.mp hf _ hn;simp only[bne_self_eq_false,Bool.false_or,beq_iff_eq] at this;exact ok.has n (.inl this)
 refine⟨Dj hfr,λn a h=>?_,λy hy=>?_,hk,λy hy e=>?_,hl,λx h=>?_,λi j x h1' h2'=>?_⟩
 ·have m:=QV h;rw[Me] at m
  rcases m with m | ⟨m,e⟩
  ·cases m
  ·obtain⟨c,hc⟩:=hfr n m;simp only[hc,Option.getD_some] at e;rw[hc,e]
 ·have:=QR.mp h1 y hy;simpa using this
 ·have:=QR.mp h2 y hy;simp only[Bool.or_eq_true,bne_iff_ne,ne_eq,beq_iff_eq] at this
  rcases this with q | q
  ·exact absurd e q
  ·exact q
 ·have nc:∀k',(x,k')∈scope.names->k'≠.cell:=λk' hy=>by
   have:=QR.mp h1 _ hy;simpa using this
  have m:(x,NameKind.free)∈scope.names:=by
   rcases h with h | h
   ·obtain⟨k',hm,e⟩:=Sv h
    rcases e with e | e
    ·exact absurd e (nc k' hm)
    ·subst e;exact hm
   ·obtain⟨k',hm,e⟩:=Sv h
    rcases e with e | e<;>(subst e;exact hm)
  exact Nh (b:=(X.env.cells.lookup x).getD 0) (Me.mpr (.inr ⟨m,VS⟩))
 ·obtain⟨q1,q2,q3⟩:=K0 hc i j x h1' h2';refine⟨q1,.inr (.inl q2),(by rw[q2];simp),?_⟩;rw[G8,q3];simp only[Option.map_some,beq_self_eq_true,Bool.true_and]
  split
  ·exact .inl VS
  ·exact .inr VS
end
def CN (p:WP)(Pv:Nat->List V->Hp->Prop)(i:Nat)(H:Hp):Prop:=∃ys,H p=some (.lst ys)/\ys.length<=i/\Pv i ys H
section
variable {K:WY}{cap:List (Option Nat)}{g:TG}{c:TT}{te:TE}{σ:St}{Q:WP->Hp->Prop}{H:Hp}
end
def bC (g:TG)(tb:TS)(D:K2)(σ:St)(J:It)(H1:Hp):Prop:=∃W:Nat->Nat->St->Hp->Prop,(∃m,W 0 m σ H1)/\∀i m σ H,W i m σ H->
 (J.stop i H/\D.nx σ H)\/(J.go i H/\∃N:St->Hp->Prop,(∀σ' H',N σ' H'->∃m',m'<m/\W (i+1) m' σ' H')/\∀x H',J.yld i H x H'->g x σ H' λσ2 H2=>tb {D with nx:=N,ct:=N,bk:=D.nx} σ2 H2)
section
variable {K:WY}{a:WP}{xs:List V}{g:TG}{tb:TS}{D:K2}{σ:St}{H:Hp}{z:Str}
end
def tyL {K:WY}{H:Hp}(h:H r=some (.lst xs)):kI K "list" (.ref r) H:=by
 unfold kI;exact .inl ⟨VS,xs,Ug.of h⟩
def K1 {α:Type}{xs:List α}{i:Int}(h0:0<=i)(h1:i<(xs.length:Int)):∃v,Q7 xs i=some v/\v∈xs:=by
 have hk:i.toNat<xs.length:=by omega
 have ek:((i.toNat:Nat):Int)=i:=by omega
 have q:Q7 xs ((i.toNat:Nat):Int)=some xs[i.toNat]:=Ow (by simp[hk]);rw[ek] at q;exact⟨xs[i.toNat],q,YN hk⟩
end L2
namespace WL
open PySem PySem.Spec PyProof.Rows L2
inductive T where
 | non | bl (b:Bool) | int (i:Int) | str (x:Str) | tup (xs:List T)
  | ref (a:WP)
  | cl (xs:List T)
inductive O where
 | lst (xs:List T)
 | dic (kvs:List (Jb×T))
 | ins (cn:Str) (fs:List (Str×T))
  | fdic (kvs:List (Jb×T))
abbrev Hw:=WP->Option O
def up (C:Hw)(a:WP)(o:O):Hw:=λb=>if b=a then some o else C b
def Zn:up C a o a=some o:=by unfold up;rw[XY rfl]
def Z0 {a b:WP}(h:b≠a):up C a o b=C b:=by unfold up;rw[XX h]
def wM:up (up C a o) a u=up C a u:=by
 funext b;unfold up;split<;>rfl
def kt (K:WY)(H:Hp)(a:WP)(xs:List V):Prop:=
 (∃o,H a=some (.frz o (.lst xs)))\/
  ∃(o:Obj) (its:Array WQ) (n:Nat),K.lookup a=some o/\o.cls=.type "list"/\o.dict=none/\o.data=.seq its n/\its.size<=sizeLine/\Yd xs its.toList
def kt.sq {K:WY}(h:kt K H a xs):Ug K H a xs:=by
 rcases h with⟨o,h⟩ | h
 ·exact .inl (.inr ⟨o,h⟩)
 ·exact .inr h
mutual
def Xh (K:WY)(H:Hp)(x:V):T->Prop
 | .non=>x=.non
 | .bl b=>x=.bl b
 | .int i=>x=.int i
 | .str z=>x=.str z
 | .ref a=>x=.ref a
 | .tup ts=>∃a ys,x=.ref a/\Tg K H a ys/\Reps K H ys ts
 | .cl ts=>∃a ys,x=.ref a/\kt K H a ys/\Reps K H ys ts
def Reps (K:WY)(H:Hp)(ys:List V):List T->Prop
 | []=>ys=[]
 | t::ts=>∃y r,ys=y::r/\Xh K H y t/\Reps K H r ts
end
def aM:HO->Prop
 | .tup _=>True
 | .frz _ _=>True
 | _=>False
def Tx (H H':Hp):Prop:=∀b o,H b=some o->aM o->H' b=some o
def Tx.refl (H:Hp):Tx H H:=λ_ _ h _=>h
def Tx.trans (a:Tx H H1)(b:Tx H1 H2):Tx H H2:=λc o h n=>b c o (a c o h n) n
def Tx.new {H:Hp}(h:H p=none):Tx H (J7 H p o):=λb u q _=>by rw[Yi (Wa q h)];exact q
def Tx.put {H:Hp}(h:H p=some o)(n:¬aM o):Tx H (J7 H p u):=λb v q s=>by
 by_cases e:b=p
 ·subst e;rw[h] at q;cases q;exact absurd s n
 ·rw[Yi e];exact q
def Tx.sqt {K:WY}(t:Tx H H')(h:Tg K H a xs):Tg K H' a xs:=by
 rcases h with(h | ⟨o,h⟩) | h
 ·exact .inl (.inl (t _ _ h trivial))
 ·exact .inl (.inr ⟨o,t _ _ h trivial⟩)
 ·exact .inr h
def Tx.sqc {K:WY}(t:Tx H H')(h:kt K H a xs):kt K H' a xs:=by
 rcases h with⟨o,h⟩ | h
 ·exact .inl ⟨o,t _ _ h trivial⟩
 ·exact .inr h
mutual
def Xh.tx {K:WY}(t:Tx H H'):∀{v:T},Xh K H x v->Xh K H' x v
 | .non,h=>by simpa[Xh] using h
 | .bl b,h=>by simpa[Xh] using h
 | .int i,h=>by simpa[Xh] using h
 | .str z,h=>by simpa[Xh] using h
 | .ref a,h=>by simpa[Xh] using h
 | .tup ts,h=>by
  unfold Xh at h |-;obtain⟨a,ys,e,q,r⟩:=h;exact⟨a,ys,e,t.sqt q,Reps.tx t r⟩
 | .cl ts,h=>by
  unfold Xh at h |-;obtain⟨a,ys,e,q,r⟩:=h;exact⟨a,ys,e,t.sqc q,Reps.tx t r⟩
def Reps.tx {K:WY}(t:Tx H H'):∀{vs:List T},Reps K H ys vs->Reps K H' ys vs
 | [],h=>by simpa[Reps] using h
 | v::vs,h=>by
  unfold Reps at h |-;obtain⟨y,r,e,q,s⟩:=h;exact⟨y,r,e,Xh.tx t q,Reps.tx t s⟩
end
section
variable {K:WY}{H:Hp}
def Xe:Xh K H (.int i) (.int i):=by unfold Xh;rfl
def Xc:Xh K H (.str i) (.str i):=by unfold Xh;rfl
def Xf:Xh K H (.bl i) (.bl i):=by unfold Xh;rfl
def Tl:Xh K H .non .non:=by unfold Xh;rfl
def Xd:Xh K H (.ref a) (.ref a):=by unfold Xh;rfl
def Vk (h:Tg K H a ys)(r:Reps K H ys ts):Xh K H (.ref a) (.tup ts):=by unfold Xh;exact⟨a,ys,VS,h,r⟩
def Yo (h:Xh K H x (.int i)):x=.int i:=by unfold Xh at h;exact h
def Jy (h:Xh K H x (.str i)):x=.str i:=by unfold Xh at h;exact h
def P8 (h:Xh K H x (.bl i)):x=.bl i:=by unfold Xh at h;exact h
def Qt (h:Xh K H x .non):x=.non:=by unfold Xh at h;exact h
def Yb (h:Xh K H x (.ref a)):x=.ref a:=by unfold Xh at h;exact h
def Yw (h:Xh K H x (.tup ts)):∃a ys,x=.ref a/\Tg K H a ys/\Reps K H ys ts:=by unfold Xh at h;exact h
def P7 (h:Xh K H x (.cl ts)):∃a ys,x=.ref a/\kt K H a ys/\Reps K H ys ts:=by unfold Xh at h;exact h
def Jv:Reps K H [] []:=by unfold Reps;rfl
def Yn (a:Xh K H y t)(b:Reps K H ys ts):Reps K H (y::ys) (t::ts):=by unfold Reps;exact⟨y,ys,VS,a,b⟩
def Vo (h:Reps K H ys []):ys=[]:=by unfold Reps at h;exact h
def J2 {t:T}{ts:List T}(h:Reps K H ys (t::ts)):∃y r,ys=y::r/\Xh K H y t/\Reps K H r ts:=by unfold Reps at h;exact h
def Reps.length:∀{vs:List T} {ys:List V},Reps K H ys vs->ys.length=vs.length
 | [],_,h=>by rw[Vo h];rfl
 | _::_,_,h=>by obtain⟨y,r,rfl,_,q⟩:=J2 h;rw[YF,YF,q.length]
def Reps.get:∀{vs:List T} {ys:List V} {i:Nat} {v:T},Reps K H ys vs->vs[i]?=some v->∃y,ys[i]?=some y/\Xh K H y v
 | [],_,_,_,_,e=>by simp at e
 | _::_,_,0,_,h,e=>by obtain⟨y,r,rfl,a,_⟩:=J2 h;simp at e;subst e;exact⟨y,VS,a⟩
 | _::_,_,i+1,v,h,e=>by
  obtain⟨y,r,rfl,_,q⟩:=J2 h;obtain⟨z,h1,h2⟩:=Reps.get (i:=i) (v:=v) q (by simpa using e);exact⟨z,by simpa using h1,h2⟩
def Reps.get':∀{vs:List T} {ys:List V} {i:Nat} {y:V},Reps K H ys vs->ys[i]?=some y->∃v,vs[i]?=some v/\Xh K H y v:=λ{vs ys i y} h e=>by
 have hl:=h.length;have hi:i<ys.length:=(PY.mp e).1;have hv:vs[i]?=some (vs[i]'(by omega)):=by simp[hl▸hi]
 obtain⟨z,h1,h2⟩:=h.get hv;rw[e] at h1;cases h1;exact⟨_,hv,h2⟩
def Reps.app:∀{vs ws:List T} {ys zs:List V},Reps K H ys vs->Reps K H zs ws->Reps K H (ys++zs) (vs++ws)
 | [],_,_,_,h,q=>by rw[Vo h];exact q
 | _::_,_,_,_,h,q=>by obtain⟨y,r,rfl,a,b⟩:=J2 h;exact Yn a (b.app q)
def Reps.take:∀(n:Nat) {vs:List T} {ys:List V},Reps K H ys vs->Reps K H (ys.take n) (vs.take n)
 | 0,_,_,_=>by simpa using Jv
 | _+1,[],_,h=>by rw[Vo h];exact Jv
 | n+1,_::_,_,h=>by obtain⟨y,r,rfl,a,b⟩:=J2 h;exact Yn a (b.take n)
def Reps.drop:∀(n:Nat) {vs:List T} {ys:List V},Reps K H ys vs->Reps K H (ys.drop n) (vs.drop n)
 | 0,_,_,h=>h
 | _+1,[],_,h=>by rw[Vo h];exact Jv
 | n+1,_::_,_,h=>by obtain⟨y,r,rfl,a,b⟩:=J2 h;exact b.drop n
def Reps.erase:∀(n:Nat) {vs:List T} {ys:List V},Reps K H ys vs->Reps K H (ys.eraseIdx n) (vs.eraseIdx n)
 | _,[],_,h=>by rw[Vo h];exact Jv
 | 0,_::_,_,h=>by obtain⟨y,r,rfl,a,b⟩:=J2 h;exact b
 | n+1,_::_,_,h=>by obtain⟨y,r,rfl,a,b⟩:=J2 h;exact Yn a (b.erase n)
def Reps.dropLast (h:Reps K H ys vs):Reps K H ys.dropLast vs.dropLast:=by
 rw[SZ,SZ,h.length];exact h.take _
def Reps.snoc (h:Reps K H ys vs)(q:Xh K H y v):Reps K H (ys++[y]) (vs++[v]):=h.app (Yn q Jv)
def Reps.reverse:∀{vs:List T} {ys:List V},Reps K H ys vs->Reps K H ys.reverse vs.reverse
 | [],_,h=>by rw[Vo h];exact Jv
 | _::_,_,h=>by obtain⟨y,r,rfl,a,b⟩:=J2 h;rw[SO,SO];exact b.reverse.snoc a
def Reps.at (h:Reps K H ys vs)(e:Q7 vs i=some v):∃y,Q7 ys i=some y/\Xh K H y v:=by
 unfold Q7 at e |-;rw[h.length]
 cases q:qI vs.length i with
 | none=>rw[q] at e;cases e
 | some j=>
  rw[q] at e;exact h.get e
def Ki:∀ns:List Int,Reps K H (ns.map V.int) (ns.map T.int)
 | []=>Jv
 | n::r=>Yn Xe (Ki r)
def D4:∀ns:List Str,Reps K H (ns.map V.str) (ns.map T.str)
 | []=>Jv
 | n::r=>Yn Xc (D4 r)
end
abbrev PR (K:WY)(H:Hp){κ:Type}(kvs:List (κ×V))(kws:List (κ×T)):Prop:=PySem.Paired (λp q=>p.1=q.1/\Xh K H p.2 q.2) kvs kws
def Dp (K:WY)(H:Hp)(a:WP):O->Prop
 | .lst xs=>∃ys,H a=some (.lst ys)/\Reps K H ys xs
 | .dic kvs=>∃ks,H a=some (.dK ks)/\PR K H ks kvs
 | .ins cn fs=>∃Cl dx ks,W.nsIn K mainGlobals cn=some (some (.ref Cl))/\H a=some (.ins Cl dx ks)/\PR K H ks fs
 | .fdic kvs=>∃ks,Rd H a (.dK ks)/\PR K H ks kvs
def O.wr:O->Prop
 | .fdic _=>False
 | _=>True
structure Rl (K:W.Frag)(F H:Hp)(C:Hw):Prop where
 obj:∀a o,C a=some o->Dp K H a o
 frm:∀a o,F a=some o->H a=some o/\C a=none
def Gi {K:WY}(t:Tx H H'){κ:Type}{ks:List (κ×V)}{kvs:List (κ×T)}(h:PR K H ks kvs):PR K H' ks kvs:=L2.Paired.mapP h λ_ _ z=>⟨z.1,z.2.tx t⟩
def Dp.stay {K:WY}(h:Dp K H a o)(t:Tx H H')(e:H' a=H a):Dp K H' a o:=by
 cases o with
 | lst xs=>obtain⟨ys,q,r⟩:=h;exact⟨ys,e.trans q,r.tx t⟩
 | dic kvs=>obtain⟨ys,q,r⟩:=h;exact⟨ys,e.trans q,Gi t r⟩
 | ins C fs=>obtain⟨Cl,dx,ys,n,q,r⟩:=h;exact⟨Cl,dx,ys,n,e.trans q,Gi t r⟩
 | fdic kvs=>
  obtain⟨ys,q,r⟩:=h;refine⟨ys,?_,Gi t r⟩
  rcases q with q | ⟨o,q⟩
  ·exact .inl (e.trans q)
  ·exact .inr ⟨o,e.trans q⟩
def Dp.some {K:WY}(h:Dp K H a o)(wr:o.wr):∃u,H a=some u/\¬aM u:=by
 cases o with
 | fdic kvs=>exact wr.elim
 | lst xs=>obtain⟨ys,q,r⟩:=h;exact⟨_,q,λz=>z⟩
 | dic kvs=>obtain⟨ys,q,r⟩:=h;exact⟨_,q,λz=>z⟩
 | ins C fs=>obtain⟨Cl,dx,ys,n,q,r⟩:=h;exact⟨_,q,λz=>z⟩
def Dp.here {K:WY}(h:Dp K H a o):∃u,H a=Option.some u:=by
 cases o with
 | fdic kvs=>
  obtain⟨ys,q,r⟩:=h
  rcases q with q | ⟨o,q⟩
  ·exact⟨_,q⟩
  ·exact⟨_,q⟩
 | lst xs=>obtain⟨ys,q,r⟩:=h;exact⟨_,q⟩
 | dic kvs=>obtain⟨ys,q,r⟩:=h;exact⟨_,q⟩
 | ins C fs=>obtain⟨Cl,dx,ys,n,q,r⟩:=h;exact⟨_,q⟩
section
variable {K:WY}{F H:Hp}{C:Hw}
def Rl.free (R:Rl K F H C)(h:H p=none):C p=none:=by
 cases e:C p with
 | none=>rfl
 | some o=>obtain⟨u,q⟩:=(R.obj p o e).here;rw[h] at q;cases q
def Rl.lst (R:Rl K F H C)(h:C a=some (.lst xs)):∃ys,H a=some (.lst ys)/\Reps K H ys xs:=R.obj a _ h
def Rl.new (R:Rl K F H C)(h:H p=none)(r:Dp K (J7 H p u) p o):Rl K F (J7 H p u) (up C p o) where
 obj:=λa v e=>by
  by_cases q:a=p
  ·subst q;rw[Zn] at e;cases e;exact r
  ·rw[Z0 q] at e;exact(R.obj a v e).stay (Tx.new h) (Yi q)
 frm:=λa v e=>by
  have z:=R.frm a v e;have q:a≠p:=Wa z.1 h;rw[Yi q,Z0 q];exact z
def Rl.hid (R:Rl K F H C)(h:H p=none):Rl K F (J7 H p u) C where
 obj:=λa v e=>by
  obtain⟨w,q⟩:=(R.obj a v e).here;exact(R.obj a v e).stay (Tx.new h) (Yi (Wa q h))
 frm:=λa v e=>by
  have z:=R.frm a v e;rw[Yi (Wa z.1 h)];exact z
def Rl.put (R:Rl K F H C)(h:C p=some o)(r:Dp K (J7 H p u) p o')(wr:o.wr:=by trivial):Rl K F (J7 H p u) (up C p o')/\Tx H (J7 H p u):=by
 obtain⟨w,hw,ns⟩:=(R.obj p o h).some wr;have t:Tx H (J7 H p u):=Tx.put hw ns;refine⟨⟨λa v e=>?_,λa v e=>?_⟩,t⟩
 ·by_cases q:a=p
  ·subst q;rw[Zn] at e;cases e;exact r
  ·rw[Z0 q] at e;exact(R.obj a v e).stay t (Yi q)
 ·have z:=R.frm a v e;have q:a≠p:=λy=>by subst y;rw[h] at z;cases z.2
  rw[Yi q,Z0 q];exact z
def Rl.putL (R:Rl K F H C)(h:C p=some (.lst xs))(r:Reps K H ys' xs'):Rl K F (J7 H p (.lst ys')) (up C p (.lst xs'))/\Tx H (J7 H p (.lst ys')):=by
 obtain⟨w,hw,ns⟩:=(R.obj p _ h).some trivial;exact R.put h ⟨ys',Yy,r.tx (Tx.put hw ns)⟩
def Rl.newL (R:Rl K F H C)(h:H p=none)(r:Reps K H ys xs):Rl K F (J7 H p (.lst ys)) (up C p (.lst xs)):=R.new h ⟨ys,Yy,r.tx (Tx.new h)⟩
end
abbrev Sw:=List (Option T)
abbrev WK:=T->Hw->Prop
structure Xn where
 cls:Str
 fs:List (Str×T)
abbrev WX:=Xn->Hw->Prop
abbrev WE:=Sw->Hw->WK->WX->Prop
abbrev WT:=Sw->Hw->(Bool->Hw->Prop)->WX->Prop
abbrev WA:=Sw->Hw->(List T->Hw->Prop)->WX->Prop
structure We where
 nx:Sw->Hw->Prop
 rt:WK
 bk:Sw->Hw->Prop:=λ_ _=>False
 ct:Sw->Hw->Prop:=λ_ _=>False
 xc:WX:=λ_ _=>False
abbrev WS:=We->Sw->Hw->Prop
abbrev WG:=T->Sw->Hw->(Sw->Hw->Prop)->WX->Prop
abbrev pS:=List T->Sw->Hw->(Sw->Hw->Prop)->WX->Prop
abbrev WI:=Sw->Hw->(List T->(Hw->Prop)->Hw->Prop)->WX->Prop
abbrev W2:=T->T->Hw->WK->Prop
abbrev Calls:=Nat->List T->Hw->WK->WX->Prop
def Zd (i:Nat):WE:=λτ C Q _=>∃v,τ[i]?=some (some v)/\Q v C
def eC (v:T):WE:=λ_ C Q _=>Q v C
def Zf (r:W2)(a b:WE):WE:=λτ C Q χ=>a τ C (λx C1=>b τ C1 (λy C2=>r x y C2 Q) χ) χ
def kh (r:T->Hw->WK->Prop)(a:WE):WE:=λτ C Q χ=>a τ C (λx C1=>r x C1 Q) χ
def Zg:WA:=λ_ C Q _=>Q [] C
def Zb (a:WE)(r:WA):WA:=λτ C Q χ=>a τ C (λx C1=>r τ C1 (λxs C2=>Q (x::xs) C2) χ) χ
def Zs (a:WA):WE:=λτ C Q χ=>a τ C (λxs C1=>xs.length<=sizeLine/\Q (.tup xs) C1) χ
def W5 (a:WA):WE:=λτ C Q χ=>a τ C (λxs C1=>xs.length<=sizeLine/\∀p,C1 p=none->Q (.ref p) (up C1 p (.lst xs))) χ
def Z6 (P:Calls)(i:Nat)(a:WA):WE:=λτ C Q χ=>a τ C (λxs C1=>P i xs C1 Q χ) χ
def Oq (r:List T->Hw->WK->Prop)(a:WA):WE:=λτ C Q χ=>a τ C (λxs C1=>r xs C1 Q) χ
def N9 (ty:T->Hw->Prop)(r:T->List T->Hw->WK->Prop)(o:WE)(a:WA):WE:=λτ C Q χ=>o τ C (λx C1=>ty x C1/\a τ C1 (λxs C2=>r x xs C2 Q) χ) χ
def uP (c:WT)(a b:WE):WE:=λτ C Q χ=>c τ C (λk C1=>if k=true then a τ C1 Q χ else b τ C1 Q χ) χ
def aw (a b:WE):WE:=λτ C Q χ=>a τ C (λx C1=>∃k,x=.bl k/\if k=true then b τ C1 Q χ else Q (.bl false) C1) χ
def Zbj (a b:WE):WE:=λτ C Q χ=>a τ C (λx C1=>∃k,x=.bl k/\if k=true then Q (.bl true) C1 else b τ C1 Q χ) χ
def au (a:WE):WE:=λτ C Q χ=>a τ C (λx C1=>∃k,x=.bl k/\Q (.bl (!k)) C1) χ
def bx:T->Hw->Bool->Prop
 | .non,_,k=>k=false
 | .bl b,_,k=>k=b
 | .int i,_,k=>k=(i !=0)
 | .str y,_,k=>y.length<=sizeLine/\k=((y.length:Int) !=0)
 | .tup xs,_,k=>k=!xs.isEmpty
 | .cl xs,_,k=>k=!xs.isEmpty
 | .ref a,C,k=>(∃xs,C a=some (.lst xs)/\k=!xs.isEmpty)\/∃kvs,C a=some (.dic kvs)/\k=!kvs.isEmpty
def Im (a:WE):WT:=λτ C Q χ=>a τ C (λx C1=>∃k,bx x C1 k/\Q k C1) χ
def Yu (a:WE):WT:=λτ C Q χ=>a τ C (λx C1=>∃k,x=.bl k/\Q k C1) χ
def wN (a b:WT):WT:=λτ C Q χ=>a τ C (λk C1=>if k=true then b τ C1 Q χ else Q false C1) χ
def Ke (a b:WT):WT:=λτ C Q χ=>a τ C (λk C1=>if k=true then Q true C1 else b τ C1 Q χ) χ
def fq (a:WT):WT:=λτ C Q χ=>a τ C (λk C1=>Q (!k) C1) χ
def zf (r r':W2)(a b c:WE):WE:=λτ C Q χ=>a τ C (λx C1=>b τ C1 (λy C2=>r x y C2 λz C3=>∃k,z=.bl k/\(if k=true then c τ C3 (λw C4=>r' y w C4 Q) χ else Q (.bl false) C3)) χ) χ
def Wc:W2
 | .int i,.int j,C,Q=>Q (.int (i+j)) C
 | .str i,.str j,C,Q=>i.length+j.length<=sizeLine/\Q (.str (i++j)) C
 | .tup xs,.tup ys,C,Q=>xs.length+ys.length<=sizeLine/\Q (.tup (xs++ys)) C
 | .ref a,.ref b,C,Q=>∃xs ys,C a=some (.lst xs)/\C b=some (.lst ys)/\xs.length+ys.length<=sizeLine/\∀p,C p=none->Q (.ref p) (up C p (.lst (xs++ys)))
 | _,_,_,_=>False
def Jr:W2
 | .int i,.int j,C,Q=>Q (.int (i-j)) C
 | _,_,_,_=>False
def Hq:W2
 | .int i,.int j,C,Q=>tE i j/\Q (.int (i*j)) C
 | _,_,_,_=>False
def Vn:W2
 | .int i,.int j,C,Q=>cZ i j/\Q (.int (i/j)) C
 | _,_,_,_=>False
def J3:W2
 | .int i,.int j,C,Q=>0<j/\Q (.int (i%j)) C
 | _,_,_,_=>False
def jJ:W2
 | .int i,.int j,C,Q=>lI i j/\Q (.int (i^j.toNat)) C
 | _,_,_,_=>False
def jK:T->Hw->WK->Prop
 | .int i,C,Q=>Q (.int (-i)) C
 | _,_,_=>False
def wK:W2
 | .int i,.int j,C,Q=>Q (.bl (decide (i<j))) C
 | .str i,.str j,C,Q=>Q (.bl (decide (i.cps.toList<j.cps.toList))) C
 | _,_,_,_=>False
def fM:W2
 | .int i,.int j,C,Q=>Q (.bl (decide (i<=j))) C
 | _,_,_,_=>False
def tR:W2
 | .int i,.int j,C,Q=>Q (.bl (decide (j<i))) C
 | _,_,_,_=>False
def Zav:W2
 | .int i,.int j,C,Q=>Q (.bl (decide (j<=i))) C
 | _,_,_,_=>False
mutual
def eqT:T->T->Bool
 | .non,.non=>true
 | .bl a,.bl b=>a==b
 | .bl a,.int b=>(if a then 1 else 0)==b
 | .int a,.bl b=>a==(if b then 1 else 0)
 | .int a,.int b=>a==b
 | .str a,.str b=>a==b
 | .tup xs,.tup ys=>Qe xs ys
 | _,_=>false
def Qe:List T->List T->Bool
 | [],[]=>true
 | x::xs,y::ys=>eqT x y&&Qe xs ys
 | _,_=>false
end
mutual
def W4:T->Nat->Bool
 | .tup xs,n+1=>Xv xs n
 | .tup _,0=>false
 | .ref _,_=>false
 | .cl _,_=>false
 | _,_=>true
def Xv:List T->Nat->Bool
 | [],_=>true
 | x::xs,n=>W4 x n&&Xv xs n
end
def Rj:Nat:=100
def J0 (x:T):Prop:=W4 x Rj=true
def Hr (neg:Bool):W2
 | .ref a,.ref b,C,Q=>∃xs ys,C a=some (.lst xs)/\C b=some (.lst ys)/\(xs.length=ys.length->Xv xs Rj=true/\Xv ys Rj=true)/\Q (.bl (if neg then !Qe xs ys else Qe xs ys)) C
 | .ref a,y,C,Q=>(∃xs,C a=some (.lst xs))/\J0 y/\Q (.bl neg) C
 | x,.ref b,C,Q=>(∃ys,C b=some (.lst ys))/\J0 x/\Q (.bl neg) C
 | x,y,C,Q=>J0 x/\J0 y/\Q (.bl (if neg then !eqT x y else eqT x y)) C
abbrev Jw:W2:=Hr false
abbrev wJ:W2:=Hr true
def Ik:W2:=λx y C Q=>y=.non/\Q (.bl (match x with | .non=>true | _=>false)) C
def zP:W2:=λx y C Q=>y=.non/\Q (.bl (match x with | .non=>false | _=>true)) C
def Hg (x:T)(xs:List T):Bool:=xs.any λy=>eqT y x
def oE (neg:Bool):W2
 | .str i,.str j,C,Q=>Q (.bl (if neg then(!(!(Builtin.Str.occurrences j i 0 j.length 1).isEmpty)) else(!(Builtin.Str.occurrences j i 0 j.length 1).isEmpty))) C
 | x,.tup ys,C,Q=>J0 x/\Xv ys Rj=true/\Q (.bl (if neg then !Hg x ys else Hg x ys)) C
 | x,.cl ys,C,Q=>J0 x/\Xv ys Rj=true/\Q (.bl (if neg then !Hg x ys else Hg x ys)) C
 | x,.ref a,C,Q=>∃ys,C a=some (.lst ys)/\J0 x/\Xv ys Rj=true/\Q (.bl (if neg then !Hg x ys else Hg x ys)) C
 | _,_,_,_=>False
abbrev lL:W2:=oE false
abbrev kE:W2:=oE true
def vJ {α:Type}(xs:List α)(lo hi:Option Int):List α:=(xs.drop (HT.sIx xs.length 0 lo)).take (HT.sIx xs.length xs.length hi-HT.sIx xs.length 0 lo)
def Zv:W2
 | .tup xs,.int i,C,Q=>∃v,Q7 xs i=some v/\Q v C
 | .cl xs,.int i,C,Q=>∃v,Q7 xs i=some v/\Q v C
 | .str z,.int i,C,Q=>z.length<=sizeLine/\∃c,Q7 z.cps.toList i=some c/\Q (.str ⟨#[c]⟩) C
 | .ref a,.int i,C,Q=>∃xs v,C a=some (.lst xs)/\Q7 xs i=some v/\Q v C
 | _,_,_,_=>False
def lS:Sw->Hw->(Option Int->Hw->Prop)->WX->Prop:=λ_ C Q _=>Q none C
def Su (a:WE):Sw->Hw->(Option Int->Hw->Prop)->WX->Prop:=λτ C Q χ=>a τ C (λx C1=>∃i,x=.int i/\Q (some i) C1) χ
def bv:T->Option Int->Option Int->Hw->WK->Prop
 | .tup xs,lo,hi,C,Q=>¬(HT.sIx xs.length 0 lo=0/\HT.sIx xs.length xs.length hi=xs.length)/\Q (.tup (vJ xs lo hi)) C
 | .cl xs,lo,hi,C,Q=>∀p,C p=none->Q (.ref p) (up C p (.lst (vJ xs lo hi)))
 | .str z,lo,hi,C,Q=>z.length<=sizeLine/\Q (.str (Txt.slice z lo hi)) C
 | .ref a,lo,hi,C,Q=>∃xs,C a=some (.lst xs)/\∀p,C p=none->Q (.ref p) (up C p (.lst (vJ xs lo hi)))
 | _,_,_,_,_=>False
def pf (a:WE)(lo hi:Sw->Hw->(Option Int->Hw->Prop)->WX->Prop):WE:=λτ C Q χ=>a τ C (λx C1=>lo τ C1 (λl C2=>hi τ C2 (λh C3=>bv x l h C3 Q) χ) χ) χ
def O9:List T->Hw->WK->Prop:=λvs C Q=>∃x,vs=[x]/\match x with
 | .str z=>z.length<=sizeLine/\Q (.int z.length) C
 | .tup xs=>Q (.int xs.length) C
 | .cl xs=>Q (.int xs.length) C
 | .ref a=>∃xs,C a=some (.lst xs)/\Q (.int xs.length) C
 | _=>False
def lw:List T->Hw->WK->Prop:=λvs C Q=>∃i j,vs=[.int i,.int j]/\Q (.int (if j>i then j else i)) C
def aF:List T->Hw->WK->Prop:=λvs C Q=>∃i j,vs=[.int i,.int j]/\Q (.int (if j<i then j else i)) C
def Mg:List T->Hw->WK->Prop:=λvs C Q=>∃x,vs=[x]/\match x with
 | .tup xs=>Q (.tup xs) C
 | .cl xs=>Q (.tup xs) C
 | .ref a=>∃xs,C a=some (.lst xs)/\Q (.tup xs) C
 | _=>False
def vM:List T->Hw->WK->Prop:=λvs C Q=>∃x,vs=[x]/\match x with
 | .tup xs=>∀p,C p=none->Q (.ref p) (up C p (.lst xs))
 | .cl xs=>∀p,C p=none->Q (.ref p) (up C p (.lst xs))
 | .ref a=>∃xs,C a=some (.lst xs)/\∀p,C p=none->Q (.ref p) (up C p (.lst xs))
 | _=>False
def fS:T->Hw->String->Prop
 | .non,_,n=>n="NoneType"
 | .bl _,_,n=>n="bool"
 | .int _,_,n=>n="int"
 | .str _,_,n=>n="str"
 | .tup _,_,n=>n="tuple"
 | .cl _,_,n=>n="list"
 | .ref a,C,n=>(n="list"/\∃xs,C a=some (.lst xs))\/(n="dict"/\∃kvs,C a=some (.dic kvs))
def Id (n c:String):Bool:=n==c||(n=="bool"&&c=="int")
def mK (a:WE)(c:String):WE:=λτ C Q χ=>a τ C (λx C1=>∃n,fS x C1 n/\Q (.bl (Id n c)) C1) χ
def Uj:T->Hw->Prop:=λx C=>∃a xs,x=.ref a/\C a=some (.lst xs)
def ba:T->Hw->Prop:=λx _=>∃z,x=.str z
def Ww:T->List T->Hw->WK->Prop:=λx vs C Q=>∃a xs y,x=.ref a/\vs=[y]/\C a=some (.lst xs)/\xs.length<sizeLine/\Q .non (up C a (.lst (xs++[y])))
def At:T->List T->Hw->WK->Prop:=λx vs C Q=>∃a xs y,x=.ref a/\vs=[]/\C a=some (.lst xs)/\xs[xs.length-1]?=some y/\Q y (up C a (.lst xs.dropLast))
def xJ:T->List T->Hw->WK->Prop:=λx vs C Q=>∃a xs i k y,x=.ref a/\vs=[.int i]/\C a=some (.lst xs)/\ -(2^63)<=i/\i<2^63/\seqIndex? i xs.length=some k/\xs[k]?=some y/\Q y (up C a (.lst (xs.eraseIdx k)))
def Yq (i:Nat):WG:=λv τ C Q _=>Q (τ.set i (some v)) C
def Q4:pS:=λvs τ C Q _=>vs=[]/\Q τ C
def Wb (g:WG)(gs:pS):pS:=λvs τ C Q χ=>∃v r,vs=v::r/\g v τ C (λτ' C'=>gs r τ' C' Q χ) χ
def tG (gs:pS):WG:=λv τ C Q χ=>∃xs,v=.tup xs/\gs xs τ C Q χ
def Zbi (o i:WE):WG:=λv τ C Q χ=>o τ C (λx C1=>i τ C1 (λy C2=>∃a xs k j,x=.ref a/\y=.int k/\C2 a=some (.lst xs)/\qI xs.length k=some j/\Q τ (up C2 a (.lst (xs.set j v)))) χ) χ
def Z8:WS:=λD τ C=>D.nx τ C
def Zq (a b:WS):WS:=λD τ C=>a {D with nx:=b D} τ C
def Ja (e:WE):WS:=λD τ C=>e τ C (λ_ C1=>D.nx τ C1) D.xc
def Yj (e:WE):WS:=λD τ C=>e τ C D.rt D.xc
def yq:WS:=λD _ C=>D.rt .non C
def Ju (c:WT)(a b:WS):WS:=λD τ C=>c τ C (λk C1=>if k=true then a D τ C1 else b D τ C1) D.xc
def Zw (e:WE)(g:WG):WS:=λD τ C=>e τ C (λx C1=>g x τ C1 D.nx D.xc) D.xc
def bP:WS:=λD τ C=>D.bk τ C
def wU:WS:=λD τ C=>D.ct τ C
def xl:WS:=λ_ _ _=>False
def jj (g:WG)(b:WS)(ok:Hw->Prop)(D:We):List T->Sw->Hw->Prop
 | [],τ,C=>ok C/\D.nx τ C
 | x::xs,τ,C=>ok C/\g x τ C (λτ2 C2=>b {D with nx:=jj g b ok D xs,ct:=jj g b ok D xs,bk:=D.nx} τ2 C2) D.xc
def Nw (i:WI)(g:WG)(b:WS):WS:=λD τ C=>i τ C (λxs ok C1=>jj g b ok D xs τ C1) D.xc
def Sf (e:WE):WI:=λτ C R χ=>e τ C (λv C1=>match v with
 | .tup xs=>R xs (λ_=>True) C1
 | .cl xs=>R xs (λ_=>True) C1
 | .str z=>R (z.cps.toList.map λc=>T.str ⟨#[c]⟩) (λ_=>True) C1
 | .ref a=>∃xs,C1 a=some (.lst xs)/\R xs (λC2=>C2 a=some (.lst xs)) C1
 | _=>False) χ
def rng (lo:Int)(n:Nat):List T:=(List.range n).map λk:Nat=>T.int (lo+k)
def fA (a:WA):WI:=λτ C R χ=>a τ C (λvs C1=>∃j:Int,vs=[.int j]/\ -(2^62)<=j/\j<2^62/\R (rng 0 j.toNat) (λ_=>True) C1) χ
def Zbf (a:WA):WI:=λτ C R χ=>a τ C (λvs C1=>∃i j:Int,vs=[.int i,.int j]/\(-(2^62)<=i/\i<2^62/\ -(2^62)<=j/\j<2^62)/\R (rng i (j-i).toNat) (λ_=>True) C1) χ
def Zbg (a:WA):WI:=λτ C R χ=>a τ C (λvs C1=>∃z,vs=[.str z]/\R (z.cps.toList.zipIdx.map λc=>T.tup [.int c.2,.str ⟨#[c.1]⟩]) (λ_=>True) C1) χ
def Dk (cap:List (Option Nat))(τ:Sw):Sw:=cap.map λo=>o.bind λi=>(τ[i]?).join
def Bl:WT:=λ_ C Q _=>Q true C
def L5 (g:WG)(c:WT)(e:WE)(ok:Hw->Prop)(τ:Sw)(Q:List T->Hw->Prop)(χ:WX):List T->List T->Hw->Prop
 | [],acc,C=>ok C/\Q acc C
 | x::xs,acc,C=>ok C/\g x τ C (λτ2 C2=>c τ2 C2 (λb C3=>if b=true then e τ2 C3 (λv C4=>acc.length<sizeLine/\L5 g c e ok τ Q χ xs (acc++[v]) C4) χ else L5 g c e ok τ Q χ xs acc C3) χ) χ
def Uc (cap:List (Option Nat))(i:WI)(g:WG)(c:WT)(e:WE):WE:=λτ C Q χ=>i τ C (λxs ok C1=>L5 g c e ok (Dk cap τ) (λvs C2=>∀p,C2 p=none->Q (.ref p) (up C2 p (.lst vs))) χ xs [] C1) χ
structure Df where
 n:Nat
 ar:Nat
 body:Calls->WS
def Z9 (pr:List Df):Nat->Calls
 | 0=>λ_ _ _ _ _=>False
 | n+1=>λi vs C Q χ=>∃d,pr[i]?=some d/\vs.length=d.ar/\d.body (Z9 pr n) {nx:=λ_ C'=>Q .non C',rt:=Q,xc:=χ} (vs.map some++List.replicate (d.n-d.ar) none) C
section
variable {X:Cx}{WZ:List (WP×Obj)}{σ:L2.St}{H:Hp}{s:WR}
def sc:T->Option V
 | .non=>some .non
 | .bl b=>some (.bl b)
 | .int i=>some (.int i)
 | .str z=>some (.str z)
 | _=>none
def Um {K:WY}(h:sc v=some z)(r:Xh K H x v):x=z/\jl z=true:=by
 cases v with
 | non=>cases h;exact⟨Qt r,VS⟩
 | bl b=>cases h;exact⟨P8 r,VS⟩
 | int i=>cases h;exact⟨Yo r,VS⟩
 | str z=>cases h;exact⟨Jy r,VS⟩
 | _=>cases h
def qZ (h:sc v=some a)(h':sc w=some b):eqT v w=gD a b:=by
 cases v<;>cases w<;>cases h<;>cases h'<;>unfold eqT<;>rfl
mutual
def Od:∀(v:T) {n:Nat},W4 v n=true->eqT v v=true
 | .non,_,_=>by unfold eqT;rfl
 | .bl b,_,_=>by unfold eqT;simp
 | .int b,_,_=>by unfold eqT;simp
 | .str b,_,_=>by unfold eqT;simp
 | .tup xs,0,h=>by unfold W4 at h;cases h
 | .tup xs,n+1,h=>by unfold W4 at h;unfold eqT;exact Cq xs h
 | .ref a,_,h=>by unfold W4 at h;cases h
 | .cl a,_,h=>by unfold W4 at h;cases h
def Cq:∀(v:List T) {n:Nat},Xv v n=true->Qe v v=true
 | [],_,_=>by unfold Qe;rfl
 | x::xs,n,h=>by
  unfold Xv at h;rw[RE] at h;unfold Qe;rw[Od x h.1,Cq xs h.2];rfl
end
def Vj (h:W4 v n=true)(e:sc v=none):∃ts m,v=.tup ts/\n=m+1/\Xv ts m=true:=by
 cases v with
 | tup ts=>
  cases n with
  | zero=>unfold W4 at h;cases h
  | succ m=>unfold W4 at h;exact⟨ts,m,VS,VS,h⟩
 | ref a=>unfold W4 at h;cases h
 | cl a=>unfold W4 at h;cases h
 | non=>cases e
 | bl b=>cases e
 | int b=>cases e
 | str b=>cases e
def Vy:∀{vs:List T} {n i:Nat} {v:T},Xv vs n=true->vs[i]?=some v->W4 v n=true
 | [],_,_,_,_,e=>by simp at e
 | x::xs,n,0,v,h,e=>by
  unfold Xv at h;rw[RE] at h;simp at e;subst e;exact h.1
 | x::xs,n,i+1,v,h,e=>by
  unfold Xv at h;rw[RE] at h;exact Vy h.2 (by simpa using e)
def I0 (I:Z7 X WZ σ H s):∀(n:Nat) {v w:T} {x:V},W4 v n=true->W4 w n=true->Xh X.K H x v->Xh X.K H x w->v=w:=by
 intro n
 induction n with
 | zero=>
  intro v w x fv fw rv rw'
  cases ev:sc v with
  | none=>obtain⟨_,_,_,h,_⟩:=Vj fv ev;cases h
  | some a=>
   cases ew:sc w with
   | none=>obtain⟨_,_,_,h,_⟩:=Vj fw ew;cases h
   | some b=>
    obtain⟨e1,_⟩:=Um ev rv;obtain⟨e2,_⟩:=Um ew rw';have e:a=b:=e1.symm.trans e2;subst e
    cases v<;>cases ev<;>cases w<;>cases ew<;>rfl
 | succ n ih=>
  intro v w x fv fw rv rw';have lists:∀{ys:List V} {vs ws:List T},Xv vs n=true->Xv ws n=true->Reps X.K H ys vs->Reps X.K H ys ws->vs=ws:=by
   intro ys vs
   induction vs generalizing ys with
   | nil=>
    intro ws _ _ a b;have:=Vo a;subst this
    cases ws with
    | nil=>rfl
    | cons w ws=>obtain⟨_,_,e,_⟩:=J2 b;cases e
   | cons v vs ihv=>
    intro ws fa fb a b;obtain⟨y,r,rfl,a1,a2⟩:=J2 a
    cases ws with
    | nil=>have:=Vo b;cases this
    | cons w ws=>
     obtain⟨y',r',e,b1,b2⟩:=J2 b
     cases e
     unfold Xv at fa fb;rw[RE] at fa fb;rw[ih fa.1 fb.1 a1 b1,ihv fa.2 fb.2 a2 b2]
  cases ev:sc v with
  | none=>
   obtain⟨ts,m,rfl,em,ft⟩:=Vj fv ev
   cases em
   obtain⟨a,ys,rfl,hq,r⟩:=Yw rv
   cases ew:sc w with
   | none=>
    obtain⟨us,m',rfl,em,fu⟩:=Vj fw ew
    cases em
    obtain⟨b,zs,e,hq',r'⟩:=Yw rw'
    cases e
    have e:=I.tuple_inj hq hq';subst e;rw[lists ft fu r r']
   | some b=>
    obtain⟨e2,f⟩:=Um ew rw';subst e2
    cases f
  | some a=>
   obtain⟨e1,f⟩:=Um ev rv
   cases ew:sc w with
   | none=>
    obtain⟨us,m',rfl,em,fu⟩:=Vj fw ew;obtain⟨b,zs,e,hq',r'⟩:=Yw rw';subst e1;subst e
    cases f
   | some b=>
    obtain⟨e2,_⟩:=Um ew rw';have e:a=b:=e1.symm.trans e2;subst e
    cases v<;>cases ev<;>cases w<;>cases ew<;>rfl
def oi (ts us:List T)(j:Nat):Bool:=match ts[j]?,us[j]? with
 | some a,some b=>eqT a b
 | _,_=>true
def Sg:∀(vs ws:List T),((List.range (min vs.length ws.length)).all (oi vs ws)&&vs.length==ws.length)=Qe vs ws
 | [],[]=>by unfold Qe;rfl
 | [],_::_=>by unfold Qe;simp
 | _::_,[]=>by unfold Qe;simp
 | v::vs,w::ws=>by
  unfold Qe;rw[<-Sg vs ws];rw[YF,YF,show min (vs.length+1) (ws.length+1)=min vs.length ws.length+1 by omega,List.range_succ_eq_map,List.all_cons,List.all_map];have e1:oi (v::vs) (w::ws) 0=eqT v w:=rfl;have e2:(oi (v::vs) (w::ws)∘Nat.succ)=oi vs ws:=by funext j;simp[Function.comp_def,oi]
  rw[e1,e2];simp[Bool.and_assoc]
def jn (I:Z7 X WZ σ H s):∀(n:Nat) {v w:T} {x y:V} {u u':WQ} {A:WM},W4 v n=true->W4 w n=true->Xh X.K H x v->Xh X.K H y w->Yh x u->Yh y u'->A.units+n<cLine->
  SeqAt.EqAt A s u u' (eqT v w):=by
 intro n
 induction n with
 | zero=>
  intro v w x y u u' A fv fw rv rw' ru ru' hu
  cases ev:sc v with
  | none=>obtain⟨_,_,_,h,_⟩:=Vj fv ev;cases h
  | some a=>
   cases ew:sc w with
   | none=>obtain⟨_,_,_,h,_⟩:=Vj fw ew;cases h
   | some b=>
    obtain⟨rfl,f1⟩:=Um ev rv;obtain⟨rfl,f2⟩:=Um ew rw';rw[qZ ev ew];exact pc ru ru' f1 f2
 | succ n ih=>
  intro v w x y u u' A fv fw rv rw' ru ru' hu;have hu0:A.units<cLine:=by omega
  cases ev:sc v with
  | some a=>
   obtain⟨rfl,f1⟩:=Um ev rv
   cases ew:sc w with
   | some b=>
    obtain⟨rfl,f2⟩:=Um ew rw';rw[qZ ev ew];exact pc ru ru' f1 f2
   | none=>
    obtain⟨ts,m,rfl,em,ft⟩:=Vj fw ew;obtain⟨b,zs,rfl,hq,r⟩:=Yw rw'
    cases ru'
    obtain⟨its,_,p,_⟩:=I.tuple hq
    cases v with
    | non=>cases ev;cases ru;unfold eqT;exact SeqAt.EqAt.none_tuple p hu0
    | bl c=>cases ev;cases ru;unfold eqT;exact SeqAt.EqAt.bool_tuple c p hu0
    | int i=>cases ev;obtain⟨t,rfl⟩:=ru;unfold eqT;exact SeqAt.EqAt.int_tuple i t p hu0
    | str i=>cases ev;obtain⟨t,rfl⟩:=ru;unfold eqT;exact SeqAt.EqAt.str_tuple i t p hu0
    | _=>cases ev
  | none=>
   obtain⟨ts,m,rfl,em,ft⟩:=Vj fv ev
   cases em
   obtain⟨a,ys,rfl,hq,r⟩:=Yw rv
   cases ru
   obtain⟨its,rI,p,_⟩:=I.tuple hq
   cases ew:sc w with
   | some b=>
    obtain⟨rfl,f2⟩:=Um ew rw'
    cases w with
    | non=>cases ew;cases ru';unfold eqT;exact SeqAt.EqAt.tuple_none p hu0
    | bl c=>cases ew;cases ru';unfold eqT;exact SeqAt.EqAt.tuple_bool c p hu0
    | int i=>cases ew;obtain⟨t,rfl⟩:=ru';unfold eqT;exact SeqAt.EqAt.tuple_int i t p hu0
    | str i=>cases ew;obtain⟨t,rfl⟩:=ru';unfold eqT;exact SeqAt.EqAt.tuple_str i t p hu0
    | _=>cases ew
   | none=>
    obtain⟨us,m',rfl,em,fu⟩:=Vj fw ew
    cases em
    obtain⟨b,zs,rfl,hq',r'⟩:=Yw rw'
    cases ru'
    obtain⟨its',rI',p',_⟩:=I.tuple hq';by_cases hne:a=b
    ·subst hne;have e:=I0 I (n+1) fv fw (Vk hq r) (Vk hq' r');rw[e,Od _ fw];exact SeqAt.EqAt.same _
    ·have l1:its.toArray.size=ts.length:=by rw[XJ,<-rI.length,r.length]
     have l2:its'.toArray.size=us.length:=by rw[XJ,<-rI'.length,r'.length]
     have key:=SeqAt.EqAt.of_refs hne (SeqAt.RcAt.tuples (A:=A) (e:=oi ts us) p p' hu0 (λj h1 h2=>by
      have i1:ts[j]?=some (ts[j]'(by omega)):=by simp[l1▸h1]
      have i2:us[j]?=some (us[j]'(by omega)):=by simp[l2▸h2]
      obtain⟨x1,g1,q1⟩:=r.get i1;obtain⟨x2,g2,q2⟩:=r'.get i2;obtain⟨u1,k1,z1⟩:=rI.get g1;obtain⟨u2,k2,z2⟩:=rI'.get g2;have e1:its.toArray[j]=u1:=by
       have:its[j]?=some its.toArray[j]:=by simp
       rw[k1] at this;exact(YH this).symm
      have e2:its'.toArray[j]=u2:=by
       have:its'[j]?=some its'.toArray[j]:=by simp
       rw[k2] at this;exact(YH this).symm
      rw[e1,e2];unfold oi;simp only[i1,i2];exact ih (Vy ft i1) (Vy fu i2) q1 q2 z1 z2 (by show A.units+1+n<cLine;omega)))
     rw[l1,l2,Sg] at key;unfold eqT;exact key
end
def Ve (K:WY)(H:Hp)(σ:L2.St)(τ:Sw):Prop:=σ.length=τ.length/\∀(i:Nat) (v:T),τ[i]?=some (some v)->∃x,σ[i]?=some (some x)/\Xh K H x v
def Ve.tx {K:WY}(h:Ve K H σ τ)(t:Tx H H'):Ve K H' σ τ:=⟨h.1,λi v e=>let ⟨x,a,b⟩:=h.2 i v e;⟨x,a,b.tx t⟩⟩
def Ve.set {K:WY}(h:Ve K H σ τ)(r:Xh K H x v):Ve K H (σ.set i (some x)) (τ.set i (some v)):=by
 refine⟨by rw[UE,UE];exact h.1,λj w e=>?_⟩;by_cases hj:i=j
 ·subst hj;by_cases hi:i<τ.length
  ·rw[RS hi] at e
   cases e
   exact⟨x,RS (by rw[h.1];exact hi),r⟩
  ·rw[TB (by rw[UE];omega)] at e
   cases e
 ·rw[RV hj] at e |-;exact h.2 j w e
abbrev QE (K:WY)(F H:Hp)(Q:VK)(Q':WK):Prop:=∀x v H' C',Rl K F H' C'->Tx H H'->Xh K H' x v->Q' v C'->Q x H'
abbrev QT (K:WY)(F H:Hp)(Q:Bool->Hp->Prop)(Q':Bool->Hw->Prop):Prop:=∀b H' C',Rl K F H' C'->Tx H H'->Q' b C'->Q b H'
abbrev QA (K:WY)(F H:Hp)(Q:List V->Hp->Prop)(Q':List T->Hw->Prop):Prop:=∀xs vs H' C',Rl K F H' C'->Tx H H'->Reps K H' xs vs->Q' vs C'->Q xs H'
def QE.at {K:WY}{F H H1:Hp}(q:QE K F H Q Q')(t:Tx H H1):QE K F H1 Q Q':=λx v H' C' R t'=>q x v H' C' R (t.trans t')
def Ty (K:WY)(te:TE)(we:WE):Prop:=∀(F H:Hp) (C:Hw) (σ:L2.St) (τ:Sw) (Q:VK) (Q':WK) (χ:WX),Rl K F H C->Ve K H σ τ->we τ C Q' χ->QE K F H Q Q'->te σ H Q
def Mi (K:WY)(te:TT)(we:WT):Prop:=∀(F H:Hp) (C:Hw) (σ:L2.St) (τ:Sw) (Q:Bool->Hp->Prop) (Q':Bool->Hw->Prop) (χ:WX),Rl K F H C->Ve K H σ τ->we τ C Q' χ->QT K F H Q Q'->te σ H Q
def zI (K:WY)(te:TA)(we:WA):Prop:=∀(F H:Hp) (C:Hw) (σ:L2.St) (τ:Sw) (Q:List V->Hp->Prop) (Q':List T->Hw->Prop) (χ:WX),Rl K F H C->Ve K H σ τ->we τ C Q' χ->QA K F H Q Q'->te σ H Q
def pT (K:WY)(r:R2)(w:W2):Prop:=∀(F H:Hp) (C:Hw) (x y:V) (v u:T) (Q:VK) (Q':WK),Rl K F H C->Xh K H x v->Xh K H y u->w v u C Q'->QE K F H Q Q'->r x y H Q
def cO (K:WY)(r:List V->Hp->VK->Prop)(w:List T->Hw->WK->Prop):Prop:=∀(F H:Hp) (C:Hw) (xs:List V) (vs:List T) (Q:VK) (Q':WK),Rl K F H C->Reps K H xs vs->w vs C Q'->QE K F H Q Q'->r xs H Q
def aO (K:WY)(r:V->List V->Hp->VK->Prop)(w:T->List T->Hw->WK->Prop):Prop:=∀(F H:Hp) (C:Hw) (x:V) (v:T) (xs:List V) (vs:List T) (Q:VK) (Q':WK),Rl K F H C->Xh K H x v->Reps K H xs vs->w v vs C Q'->QE K F H Q Q'->r x xs H Q
def aN (K:WY)(r:V->Hp->VK->Prop)(w:T->Hw->WK->Prop):Prop:=∀(F H:Hp) (C:Hw) (x:V) (v:T) (Q:VK) (Q':WK),Rl K F H C->Xh K H x v->w v C Q'->QE K F H Q Q'->r x H Q
def X0 (X:Cx)(e:WW)(w:WE):Prop:=∃t,PE X e t/\Ty X.K t w
def vR (X:Cx)(e:WW)(w:WT):Prop:=∃t,PT X e t/\Mi X.K t w
def fh (X:Cx)(e:WW)(w:WT):Prop:=∃t,PW X e t/\Mi X.K t w
def Dn (X:Cx)(es:List WW)(w:WA):Prop:=∃t,PA X es t/\zI X.K t w
def L9 (X:Cx)(f:WQ->WQ->Sem WQ)(w:W2):Prop:=∃r,Mm X f r/\pT X.K r w
def Zbt (X:Cx)(w:W2):Prop:=∃r,ot X r/\pT X.K r w
def Nm (X:Cx)(f:WQ)(w:List T->Hw->WK->Prop):Prop:=∃r,Uh X f r/\cO X.K r w
def om (X:Cx)(id:String)(w:T->List T->Hw->WK->Prop):Prop:=∃r,fj X id r/\aO X.K r w
section
variable {K:WY}{ta tb tc:TE}{wa wb wc:WE}{r r':R2}{w w':W2}
def eW:Ty K (fV i) (Zd i):=λF H C σ τ Q Q' χ R S h q=>by
 obtain⟨v,e,h⟩:=h;obtain⟨x,ex,rx⟩:=S.2 i v e;exact⟨x,ex,q x v H C R (Tx.refl H) rx h⟩
def fz (h:∀H,Xh K H x v):Ty K (tC x) (eC v):=λF H C σ τ Q Q' χ R S w q=>q x v H C R (Tx.refl H) (h H) w
def sO (ha:Ty K ta wa)(hb:Ty K tb wb)(hr:pT K r w):Ty K (fo r ta tb) (Zf w wa wb):=λF H C σ τ Q Q' χ R S h q=>by
 refine ha F H C σ τ _ _ χ R S h λx v H1 C1 R1 t1 rx h1=>?_;refine hb F H1 C1 σ τ _ _ χ R1 (S.tx t1) h1 λy u H2 C2 R2 t2 ry h2=>?_;exact hr F H2 C2 x y v u Q Q' R2 (rx.tx t2) ry h2 (QE.at q (t1.trans t2))
def bK {r:V->Hp->VK->Prop}{w:T->Hw->WK->Prop}(ha:Ty K ta wa)(hr:aN K r w):Ty K (aY r ta) (kh w wa):=λF H C σ τ Q Q' χ R S h q=>by
 refine ha F H C σ τ _ _ χ R S h λx v H1 C1 R1 t1 rx h1=>?_;exact hr F H1 C1 x v Q Q' R1 rx h1 (QE.at q t1)
def de:zI K sw Zg:=λF H C σ τ Q Q' χ R S h q=>q [] [] H C R (Tx.refl H) Jv h
def xk (ha:Ty K ta wa)(hb:zI K t wt):zI K (ya ta t) (Zb wa wt):=λF H C σ τ Q Q' χ R S h q=>by
 refine ha F H C σ τ _ _ χ R S h λx v H1 C1 R1 t1 rx h1=>?_;exact hb F H1 C1 σ τ _ _ χ R1 (S.tx t1) h1 λxs vs H2 C2 R2 t2 rs h2=>q (x::xs) (v::vs) H2 C2 R2 (t1.trans t2) (Yn (rx.tx t2) rs) h2
def eX (ha:zI K t wt):Ty K (fW t) (Zs wt):=λF H C σ τ Q Q' χ R S h q=>by
 refine ha F H C σ τ _ _ χ R S h λxs vs H1 C1 R1 t1 rs h1=>⟨by rw[rs.length];exact h1.1,λp hp=>?_⟩;exact q _ _ _ C1 (R1.hid hp) (t1.trans (Tx.new hp)) (Vk (Tg.of Yy) (rs.tx (Tx.new hp))) h1.2
def df (ha:zI K t wt):Ty K (eB t) (W5 wt):=λF H C σ τ Q Q' χ R S h q=>by
 refine ha F H C σ τ _ _ χ R S h λxs vs H1 C1 R1 t1 rs h1=>⟨by rw[rs.length];exact h1.1,λp hp=>?_⟩;exact q _ _ _ _ (R1.newL hp rs) (t1.trans (Tx.new hp)) Xd (h1.2 p (R1.free hp))
def dk {r:List V->Hp->VK->Prop}{w:List T->Hw->WK->Prop}(hr:cO K r w)(ha:zI K t wt):Ty K (bF r t) (Oq w wt):=λF H C σ τ Q Q' χ R S h q=>by
 refine ha F H C σ τ _ _ χ R S h λxs vs H1 C1 R1 t1 rs h1=>?_;exact hr F H1 C1 xs vs Q Q' R1 rs h1 (QE.at q t1)
def bM (hc:Mi K tt wt)(ha:Ty K ta wa)(hb:Ty K tb wb):Ty K (Zab tt ta tb) (uP wt wa wb):=λF H C σ τ Q Q' χ R S h q=>by
 refine hc F H C σ τ _ _ χ R S h λk H1 C1 R1 t1 h1=>?_
 cases k with
 | true=>exact ha F H1 C1 σ τ Q Q' χ R1 (S.tx t1) h1 (QE.at q t1)
 | false=>exact hb F H1 C1 σ τ Q Q' χ R1 (S.tx t1) h1 (QE.at q t1)
def oX (ha:Ty K ta wa)(hb:Ty K tb wb)(hc:Ty K tc wc)(hr:pT K r w)(hr':pT K r' w'):Ty K (sy r r' ta tb tc) (zf w w' wa wb wc):=λF H C σ τ Q Q' χ R S h q=>by
 refine ha F H C σ τ _ _ χ R S h λx v H1 C1 R1 t1 rx h1=>?_;refine hb F H1 C1 σ τ _ _ χ R1 (S.tx t1) h1 λy u H2 C2 R2 t2 ry h2=>?_;refine hr F H2 C2 x y v u _ _ R2 (rx.tx t2) ry h2 λz z' H3 C3 R3 t3 rz h3=>?_;obtain⟨k,rfl,h3⟩:=h3;refine⟨k,P8 rz,?_⟩
 cases k with
 | true=>
  refine hc F H3 C3 σ τ _ _ χ R3 (S.tx ((t1.trans t2).trans t3)) h3 λa b H4 C4 R4 t4 rb h4=>?_;exact hr' F H4 C4 y a u b Q Q' R4 ((ry.tx t3).tx t4) rb h4 (QE.at q (((t1.trans t2).trans t3).trans t4))
 | false=>exact q _ _ H3 C3 R3 ((t1.trans t2).trans t3) Xf h3
def dj (ha:Ty K ta wa):Mi K (so ta) (Yu wa):=λF H C σ τ Q Q' χ R S h q=>by
 refine ha F H C σ τ _ _ χ R S h λx v H1 C1 R1 t1 rx h1=>?_;obtain⟨k,rfl,h1⟩:=h1;exact⟨k,P8 rx,q k H1 C1 R1 t1 h1⟩
def eY (ha:Ty K ta wa):Mi K (λσ H Q=>ta σ H λx H'=>∃k,ff K x H' k/\Q k H') (Im wa):=λF H C σ τ Q Q' χ R S h q=>by
 refine ha F H C σ τ _ _ χ R S h λx v H1 C1 R1 t1 rx h1=>?_;obtain⟨k,hk,h1⟩:=h1;refine⟨k,?_,q k H1 C1 R1 t1 h1⟩;have emp:∀{ys:List V} {xs:List T},Reps K H1 ys xs->ys.isEmpty=xs.isEmpty:=λ{ys xs} r=>by
  have:=r.length
  cases ys<;>cases xs<;>simp_all
 cases v with
 | non=>cases Qt rx;exact hk
 | bl b=>cases P8 rx;exact hk
 | int i=>cases Yo rx;exact hk
 | str z=>cases Jy rx;exact hk
 | tup xs=>
  obtain⟨a,ys,rfl,hq,r⟩:=Yw rx;refine .inr (.inl ⟨ys,hq,?_⟩);rw[emp r];exact hk
 | cl xs=>
  obtain⟨a,ys,rfl,hq,r⟩:=P7 rx;refine .inl ⟨ys,hq.sq,?_⟩;rw[emp r];exact hk
 | ref a=>
  cases Yb rx
  rcases hk with⟨xs,hx,e⟩ | ⟨kvs,hx,e⟩
  ·obtain⟨ys,hy,r⟩:=R1.lst hx;refine .inl ⟨ys,Ug.of hy,?_⟩;rw[emp r];exact e
  ·obtain⟨ks,hy,r⟩:=R1.obj a _ hx;refine .inr (.inr ⟨ks,hy,?_⟩);have:=Paired.length r;rw[e]
   cases ks<;>cases kvs<;>simp_all
def bN {w w':WT}(ha:Mi K t w)(hb:Mi K u w'):Mi K (eO t u) (wN w w'):=λF H C σ τ Q Q' χ R S h q=>by
 refine ha F H C σ τ _ _ χ R S h λk H1 C1 R1 t1 h1=>?_
 cases k with
 | true=>exact hb F H1 C1 σ τ Q Q' χ R1 (S.tx t1) h1 λb H' C' R' t'=>q b H' C' R' (t1.trans t')
 | false=>exact q _ H1 C1 R1 t1 h1
def dc {w w':WT}(ha:Mi K t w)(hb:Mi K u w'):Mi K (aZ t u) (Ke w w'):=λF H C σ τ Q Q' χ R S h q=>by
 refine ha F H C σ τ _ _ χ R S h λk H1 C1 R1 t1 h1=>?_
 cases k with
 | true=>exact q _ H1 C1 R1 t1 h1
 | false=>exact hb F H1 C1 σ τ Q Q' χ R1 (S.tx t1) h1 λb H' C' R' t'=>q b H' C' R' (t1.trans t')
def bL {w:WT}(ha:Mi K t w):Mi K (eg t) (fq w):=λF H C σ τ Q Q' χ R S h q=>by
 refine ha F H C σ τ _ _ χ R S h λk H1 C1 R1 t1 h1=>?_;exact q _ H1 C1 R1 t1 h1
end
section
variable {X:Cx}
def Xr:L9 X (binaryOp .Add) Wc:=⟨_,iP.or (xv.or (iO.or (rX.or mf))),λF H C x y v u Q Q' R rx ry h q=>by
 cases v<;>cases u<;>first | exact False.elim h | skip
 case int.int i j=>cases Yo rx;cases Yo ry;exact .inl ⟨i,j,VS,VS,q _ _ H C R (Tx.refl H) Xe h⟩
 case str.str i j=>cases Jy rx;cases Jy ry;exact .inr (.inl ⟨i,j,VS,VS,h.1,q _ _ H C R (Tx.refl H) Xc h.2⟩)
 case ref.ref a b=>
  cases Yb rx;cases Yb ry
  obtain⟨xs,ys,ha,hb,hl,h⟩:=h;obtain⟨zs,hz,rz⟩:=R.lst ha;obtain⟨ws,hw,rw'⟩:=R.lst hb;exact .inr (.inr (.inl ⟨a,b,zs,ws,VS,VS,hz,hw,by rw[rz.length,rw'.length];exact hl,λp hp=>q _ _ _ _ (R.newL hp (rz.app rw')) (Tx.new hp) Xd (h p (R.free hp))⟩))
 case tup.tup xs ys=>
  obtain⟨a,zs,rfl,hz,rz⟩:=Yw rx;obtain⟨b,ws,rfl,hw,rw'⟩:=Yw ry;by_cases e:zs=[]
  ·subst e;have e2:xs=[]:=by
    have:=rz.length
    cases xs with
    | nil=>rfl
    | cons _ _=>cases this
   subst e2;exact .inr (.inr (.inr (.inl ⟨a,b,ws,VS,VS,hz,hw,q _ _ H C R (Tx.refl H) (Vk hw rw') h.2⟩)))
  ·refine .inr (.inr (.inr (.inr ⟨a,b,zs,ws,VS,VS,hz,hw,e,by rw[rz.length,rw'.length];exact h.1,λe2=>?_,λe2 p hp=>?_⟩)))
   ·subst e2;have e3:ys=[]:=by
     have:=rw'.length
     cases ys with
     | nil=>rfl
     | cons _ _=>cases this
    subst e3;refine q _ _ H C R (Tx.refl H) (Vk hz rz) ?_;have:=h.2;rw[YK] at this;exact this
   ·exact q _ _ _ C (R.hid hp) (Tx.new hp) (Vk (Tg.of Yy) ((rz.app rw').tx (Tx.new hp))) h.2⟩
def Xx:L9 X (binaryOp .Sub) Jr:=⟨_,iJ,λF H C x y v u Q Q' R rx ry h q=>by
 cases v<;>cases u<;>first | exact False.elim h | skip
 case int.int i j=>cases Yo rx;cases Yo ry;exact⟨i,j,VS,VS,q _ _ H C R (Tx.refl H) Xe h⟩⟩
def K8:L9 X (binaryOp .Mult) Hq:=⟨_,iL,λF H C x y v u Q Q' R rx ry h q=>by
 cases v<;>cases u<;>first | exact False.elim h | skip
 case int.int i j=>cases Yo rx;cases Yo ry;exact⟨i,j,VS,VS,h.1,q _ _ H C R (Tx.refl H) Xe h.2⟩⟩
def Xy:L9 X (binaryOp .FloorDiv) Vn:=⟨_,me,λF H C x y v u Q Q' R rx ry h q=>by
 cases v<;>cases u<;>first | exact False.elim h | skip
 case int.int i j=>cases Yo rx;cases Yo ry;exact⟨i,j,VS,VS,h.1,q _ _ H C R (Tx.refl H) Xe h.2⟩⟩
def Yr:L9 X (binaryOp .Mod) J3:=⟨_,iM,λF H C x y v u Q Q' R rx ry h q=>by
 cases v<;>cases u<;>first | exact False.elim h | skip
 case int.int i j=>cases Yo rx;cases Yo ry;exact⟨i,j,VS,VS,h.1,q _ _ H C R (Tx.refl H) Xe h.2⟩⟩
def yE:L9 X (binaryOp .Pow) jJ:=⟨_,iK,λF H C x y v u Q Q' R rx ry h q=>by
 cases v<;>cases u<;>first | exact False.elim h | skip
 case int.int i j=>cases Yo rx;cases Yo ry;exact⟨i,j,VS,VS,h.1,q _ _ H C R (Tx.refl H) Xe h.2⟩⟩
def yF:L9 X (compareOp .Lt) wK:=⟨_,dH.or uw,λF H C x y v u Q Q' R rx ry h q=>by
 cases v<;>cases u<;>first | exact False.elim h | skip
 case int.int i j=>cases Yo rx;cases Yo ry;exact .inl ⟨i,j,VS,VS,q _ _ H C R (Tx.refl H) Xf h⟩
 case str.str i j=>cases Jy rx;cases Jy ry;exact .inr ⟨i,j,VS,VS,q _ _ H C R (Tx.refl H) Xf h⟩⟩
def dP:L9 X (compareOp .LtE) fM:=⟨_,dI,λF H C x y v u Q Q' R rx ry h q=>by
 cases v<;>cases u<;>first | exact False.elim h | skip
 case int.int i j=>cases Yo rx;cases Yo ry;exact⟨i,j,VS,VS,q _ _ H C R (Tx.refl H) Xf h⟩⟩
def yG:L9 X (compareOp .Gt) tR:=⟨_,dJ,λF H C x y v u Q Q' R rx ry h q=>by
 cases v<;>cases u<;>first | exact False.elim h | skip
 case int.int i j=>cases Yo rx;cases Yo ry;exact⟨i,j,VS,VS,q _ _ H C R (Tx.refl H) Xf h⟩⟩
def bV (X:Cx)(f:WQ->WQ->Sem WQ):R2:=λx y H Q=>∀(WZ:List (WP×Obj)) (s:WR) (σ:L2.St) (v u:WQ),Z7 X WZ σ H s->Yh x v->Yh y u->wpAny (model X.prog X.w) X.A (f v u) (EP X WZ σ Q) X.xe s
def Go {f:WQ->WQ->Sem WQ}:Mm X f (bV X f):=λWZ s σ H x y v u Q I rx ry h=>h WZ s σ v u I rx ry
def yY {A:WM}{n:Nat}(I:Z7 X WZ σ H s)(r:Reps X.K H ys ts)(r':Reps X.K H zs us)(rI:Yd ys its)(rI':Yd zs its')
  (f:Xv ts n=true) (f':Xv us n=true) (hu:A.units+n<cLine):
  ∀j (h1:j<its.toArray.size) (h2:j<its'.toArray.size),SeqAt.EqAt A s its.toArray[j] its'.toArray[j] (oi ts us j):=λj h1 h2=>by
 have l1:its.toArray.size=ts.length:=by rw[XJ,<-rI.length,r.length]
 have l2:its'.toArray.size=us.length:=by rw[XJ,<-rI'.length,r'.length]
 have i1:ts[j]?=some (ts[j]'(by omega)):=by simp[l1▸h1]
 have i2:us[j]?=some (us[j]'(by omega)):=by simp[l2▸h2]
 obtain⟨x1,g1,q1⟩:=r.get i1;obtain⟨x2,g2,q2⟩:=r'.get i2;obtain⟨u1,k1,z1⟩:=rI.get g1;obtain⟨u2,k2,z2⟩:=rI'.get g2;have e1:its.toArray[j]=u1:=by
  have:its[j]?=some its.toArray[j]:=by simp
  rw[k1] at this;exact(YH this).symm
 have e2:its'.toArray[j]=u2:=by
  have:its'[j]?=some its'.toArray[j]:=by simp
  rw[k2] at this;exact(YH this).symm
 rw[e1,e2];unfold oi;simp only[i1,i2];exact jn I n (Vy f i1) (Vy f' i2) q1 q2 z1 z2 hu
def qY {vs ws:List T}(h:vs.length≠ws.length):Qe vs ws=false:=by
 rw[<-Sg,show(vs.length==ws.length)=false from beq_eq_false_iff_ne.mpr h,Bool.and_false]
def uO {vs ws:List T}(h:vs.length=ws.length):(List.range vs.length).all (oi vs ws)=Qe vs ws:=by
 rw[<-Sg,h,Nat.min_self,XU,Bool.and_true]
def bQ {u u':WQ}{A:WM}(I:Z7 X WZ σ H s)(fv:W4 v n=true)(fw:W4 w n=true)(rv:Xh X.K H x v)(rw':Xh X.K H y w)
  (ru:Yh x u) (ru':Yh y u') (hu:A.units+n+1<cLine):SeqAt.RcAt A s u u' (eqT v w)/\SeqAt.RcNeAt A s u u' (!eqT v w):=by
 have hu0:A.units<cLine:=by omega
 cases ev:sc v with
 | some a=>
  obtain⟨rfl,f1⟩:=Um ev rv
  cases ew:sc w with
  | some b=>
   obtain⟨rfl,f2⟩:=Um ew rw'
   cases v with
   | non=>
    cases ev;cases ru
    cases w with
    | non=>cases ew;cases ru';unfold eqT;exact⟨.none_none,.none_none⟩
    | bl c=>cases ew;cases ru';unfold eqT;exact⟨.none_bool c,.none_bool c⟩
    | int c=>cases ew;obtain⟨t,rfl⟩:=ru';unfold eqT;exact⟨.none_int c t,.none_int c t⟩
    | str c=>cases ew;obtain⟨t,rfl⟩:=ru';unfold eqT;exact⟨.none_str c t,.none_str c t⟩
    | _=>cases ew
   | bl d=>
    cases ev;cases ru
    cases w with
    | non=>cases ew;cases ru';unfold eqT;exact⟨.bool_none d,.bool_none d⟩
    | bl c=>cases ew;cases ru';unfold eqT;exact⟨.bool_bool d c,.bool_bool d c⟩
    | int c=>cases ew;obtain⟨t,rfl⟩:=ru';unfold eqT;exact⟨.bool_int d c t,.bool_int d c t⟩
    | str c=>cases ew;obtain⟨t,rfl⟩:=ru';unfold eqT;exact⟨.bool_str d c t,.bool_str d c t⟩
    | _=>cases ew
   | int d=>
    cases ev;obtain⟨t',rfl⟩:=ru
    cases w with
    | non=>cases ew;cases ru';unfold eqT;exact⟨.int_none d t',.int_none d t'⟩
    | bl c=>cases ew;cases ru';unfold eqT;exact⟨.int_bool d t' c,.int_bool d t' c⟩
    | int c=>cases ew;obtain⟨t,rfl⟩:=ru';unfold eqT;exact⟨.int_int d t' c t,.int_int d t' c t⟩
    | str c=>cases ew;obtain⟨t,rfl⟩:=ru';unfold eqT;exact⟨.int_str d t' c t,.int_str d t' c t⟩
    | _=>cases ew
   | str d=>
    cases ev;obtain⟨t',rfl⟩:=ru
    cases w with
    | non=>cases ew;cases ru';unfold eqT;exact⟨.str_none d t',.str_none d t'⟩
    | bl c=>cases ew;cases ru';unfold eqT;exact⟨.str_bool d t' c,.str_bool d t' c⟩
    | int c=>cases ew;obtain⟨t,rfl⟩:=ru';unfold eqT;exact⟨.str_int d t' c t,.str_int d t' c t⟩
    | str c=>cases ew;obtain⟨t,rfl⟩:=ru';unfold eqT;exact⟨.str_str d t' c t,.str_str d t' c t⟩
    | _=>cases ew
   | _=>cases ev
  | none=>
   obtain⟨ts,m,rfl,em,ft⟩:=Vj fw ew;obtain⟨b,zs,rfl,hq,r⟩:=Yw rw'
   cases ru'
   obtain⟨its,_,p,_⟩:=I.tuple hq
   cases v with
   | non=>cases ev;cases ru;unfold eqT;exact⟨.none_tuple p hu0,.none_tuple p hu0⟩
   | bl c=>cases ev;cases ru;unfold eqT;exact⟨.bool_tuple c p hu0,.bool_tuple c p hu0⟩
   | int i=>cases ev;obtain⟨t,rfl⟩:=ru;unfold eqT;exact⟨.int_tuple i t p hu0,.int_tuple i t p hu0⟩
   | str i=>cases ev;obtain⟨t,rfl⟩:=ru;unfold eqT;exact⟨.str_tuple i t p hu0,.str_tuple i t p hu0⟩
   | _=>cases ev
 | none=>
  obtain⟨ts,m,rfl,em,ft⟩:=Vj fv ev;subst em;obtain⟨a,ys,rfl,hq,r⟩:=Yw rv
  cases ru
  obtain⟨its,rI,p,_⟩:=I.tuple hq
  cases ew:sc w with
  | some b=>
   obtain⟨rfl,f2⟩:=Um ew rw'
   cases w with
   | non=>cases ew;cases ru';unfold eqT;exact⟨.tuple_none p hu0,.tuple_none p hu0⟩
   | bl c=>cases ew;cases ru';unfold eqT;exact⟨.tuple_bool c p hu0,.tuple_bool c p hu0⟩
   | int i=>cases ew;obtain⟨t,rfl⟩:=ru';unfold eqT;exact⟨.tuple_int i t p hu0,.tuple_int i t p hu0⟩
   | str i=>cases ew;obtain⟨t,rfl⟩:=ru';unfold eqT;exact⟨.tuple_str i t p hu0,.tuple_str i t p hu0⟩
   | _=>cases ew
  | none=>
   obtain⟨us,m',rfl,em,fu⟩:=Vj fw ew
   cases em
   obtain⟨b,zs,rfl,hq',r'⟩:=Yw rw'
   cases ru'
   obtain⟨its',rI',p',_⟩:=I.tuple hq';have l1:its.toArray.size=ts.length:=by rw[XJ,<-rI.length,r.length]
   have l2:its'.toArray.size=us.length:=by rw[XJ,<-rI'.length,r'.length]
   have hi:=yY (A:=A.in1) I r r' rI rI' ft fu (by show A.units+1+m<cLine;omega);have k1:=SeqAt.RcAt.tuples (A:=A) p p' hu0 hi;have k2:=SeqAt.RcNeAt.tuples (A:=A) p p' hu0 hi;rw[l1,l2,Sg] at k1 k2;unfold eqT;exact⟨k1,k2⟩
def vo {A:WM}{a:WP}{its:List WQ}(I:Z7 X WZ σ H s)(fw:W4 w n=true)(rw':Xh X.K H y w)(ru':Yh y u')(hu0:A.units<cLine)
  (p:s.heap.IsList a its.toArray):(SeqAt.RcAt A s (.ref a) u' false/\SeqAt.RcNeAt A s (.ref a) u' true)/\(SeqAt.RcAt A s u' (.ref a) false/\SeqAt.RcNeAt A s u' (.ref a) true):=by
 cases w with
 | non=>cases Qt rw';cases ru';exact⟨⟨.list_none p hu0,.list_none p hu0⟩,.none_list p hu0,.none_list p hu0⟩
 | bl c=>cases P8 rw';cases ru';exact⟨⟨.list_bool c p hu0,.list_bool c p hu0⟩,.bool_list c p hu0,.bool_list c p hu0⟩
 | int c=>cases Yo rw';obtain⟨t,rfl⟩:=ru';exact⟨⟨.list_int c t p hu0,.list_int c t p hu0⟩,.int_list c t p hu0,.int_list c t p hu0⟩
 | str c=>cases Jy rw';obtain⟨t,rfl⟩:=ru';exact⟨⟨.list_str c t p hu0,.list_str c t p hu0⟩,.str_list c t p hu0,.str_list c t p hu0⟩
 | tup ts=>
  obtain⟨b,zs,rfl,hq,r⟩:=Yw rw'
  cases ru'
  obtain⟨its',_,p',_⟩:=I.tuple hq;exact⟨⟨.list_tuple p p' hu0,.list_tuple p p' hu0⟩,.tuple_list p' p hu0,.tuple_list p' p hu0⟩
 | ref b=>unfold W4 at fw;cases fw
 | cl b=>unfold W4 at fw;cases fw
def lR (neg:Bool)(hu:X.A.units+150<cLine):L9 X (compareOp (if neg then .NotEq else .Eq)) (Hr neg):=⟨_,Go,λF H C x y v u Q Q' R rx ry h q WZ s σ v' u' I r1 r2=>by
 have fin:∀{k:Bool},SeqAt.RcAt X.A s v' u' k/\SeqAt.RcNeAt X.A s v' u' (!k)->Q (.bl (if neg then !k else k)) H->wpAny (model X.prog X.w) X.A (compareOp (if neg then .NotEq else .Eq) v' u') (EP X WZ σ Q) X.xe s:=λ{k} e hq=>by
  cases neg with
  | true=>exact EqBoolInt.of_rcne e.2 ⟨.bl (!k),H,I,VS,hq⟩
  | false=>exact EqBoolInt.of_rc e.1 ⟨.bl k,H,I,VS,hq⟩
 have two:∀{v u:T},Xh X.K H x v->Xh X.K H y u->J0 v/\J0 u/\Q' (.bl (if neg then !eqT v u else eqT v u)) C->wpAny (model X.prog X.w) X.A (compareOp (if neg then .NotEq else .Eq) v' u') (EP X WZ σ Q) X.xe s:=λ{v u} rx ry h=>
  fin (bQ I h.1 h.2.1 rx ry r1 r2 (show X.A.units+100+1<cLine by omega)) (q _ _ H C R (Tx.refl H) Xf h.2.2)
 have hn:(if neg then !false else false)=neg:=by cases neg<;>rfl
 have lft:∀{a:WP} {u:T},v'=.ref a->Xh X.K H y u->(∃xs,C a=some (.lst xs))/\J0 u/\Q' (.bl neg) C->wpAny (model X.prog X.w) X.A (compareOp (if neg then .NotEq else .Eq) v' u') (EP X WZ σ Q) X.xe s:=λ{a u} ev ry h=>by
  obtain⟨⟨xs,hx⟩,f,hq⟩:=h;obtain⟨ys,hy,r⟩:=R.lst hx;obtain⟨its,_,p,_⟩:=I.list (Ug.of hy);have z:=(vo (A:=X.A) I f ry r2 (by omega) p.isList).1;subst ev;refine fin (k:=false) z ?_;rw[hn];exact q _ _ H C R (Tx.refl H) Xf hq
 have rgt:∀{b:WP} {v:T},u'=.ref b->Xh X.K H x v->(∃xs,C b=some (.lst xs))/\J0 v/\Q' (.bl neg) C->wpAny (model X.prog X.w) X.A (compareOp (if neg then .NotEq else .Eq) v' u') (EP X WZ σ Q) X.xe s:=λ{b v} eu rx h=>by
  obtain⟨⟨xs,hx⟩,f,hq⟩:=h;obtain⟨ys,hy,r⟩:=R.lst hx;obtain⟨its,_,p,_⟩:=I.list (Ug.of hy);have z:=(vo (A:=X.A) I f rx r1 (by omega) p.isList).2;subst eu;refine fin (k:=false) z ?_;rw[hn];exact q _ _ H C R (Tx.refl H) Xf hq
 cases v with
 | ref a=>
  have ev:v'=.ref a:=by cases Yb rx;exact r1
  cases u with
  | ref b=>
   have eu:u'=.ref b:=by cases Yb ry;exact r2
   obtain⟨xs,ys,ha,hb,hf,hq⟩:=h;obtain⟨zs,hz,rz⟩:=R.lst ha;obtain⟨ws,hw,rw'⟩:=R.lst hb;obtain⟨its,rI,p,_⟩:=I.list (Ug.of hz);obtain⟨its',rI',p',_⟩:=I.list (Ug.of hw);have l1:its.toArray.size=xs.length:=by rw[XJ,<-rI.length,rz.length]
   have l2:its'.toArray.size=ys.length:=by rw[XJ,<-rI'.length,rw'.length]
   subst ev;subst eu;refine fin ?_ (q _ _ H C R (Tx.refl H) Xf hq);by_cases hl:xs.length=ys.length
   ·obtain⟨f1,f2⟩:=hf hl;have hi:=yY (A:=X.A.in1) I rz rw' rI rI' f1 f2 (by show X.A.units+1+100<cLine;omega);have k1:=SeqAt.RcAt.lists (A:=X.A) p.isList p'.isList (by rw[l1,l2,hl]) (by omega) hi;have k2:=SeqAt.RcNeAt.lists (A:=X.A) p.isList p'.isList (by rw[l1,l2,hl]) (by omega) hi;rw[l1,uO hl] at k1 k2;exact⟨k1,k2⟩
   ·rw[qY hl];have hne:(its.toArray.size !=its'.toArray.size)=true:=by rw[l1,l2];exact bne_iff_ne.mpr hl
    exact⟨SeqAt.RcAt.lists_lengths p.isList p'.isList hne (by omega),SeqAt.RcNeAt.lists_lengths p.isList p'.isList hne (by omega)⟩
  | non=>exact lft ev ry h
  | bl b=>exact lft ev ry h
  | int b=>exact lft ev ry h
  | str b=>exact lft ev ry h
  | tup b=>exact lft ev ry h
  | cl b=>exact lft ev ry h
 | non=>
  cases u with
  | ref b=>exact rgt (by cases Yb ry;exact r2) rx h
  | _=>exact two rx ry h
 | bl _=>
  cases u with
  | ref b=>exact rgt (by cases Yb ry;exact r2) rx h
  | _=>exact two rx ry h
 | int _=>
  cases u with
  | ref b=>exact rgt (by cases Yb ry;exact r2) rx h
  | _=>exact two rx ry h
 | str _=>
  cases u with
  | ref b=>exact rgt (by cases Yb ry;exact r2) rx h
  | _=>exact two rx ry h
 | tup _=>
  cases u with
  | ref b=>exact rgt (by cases Yb ry;exact r2) rx h
  | _=>exact two rx ry h
 | cl _=>
  cases u with
  | ref b=>exact rgt (by cases Yb ry;exact r2) rx h
  | _=>exact two rx ry h⟩
def Yk (hu:X.A.units+150<cLine):L9 X (compareOp .Eq) Jw:=lR false hu
def u0 (hu:X.A.units+150<cLine):L9 X (compareOp .NotEq) wJ:=lR true hu
def G1:L9 X (compareOp .Is) Ik:=⟨_,iN,λF H C x y v u Q Q' R rx ry h q=>by
 obtain⟨rfl,h⟩:=h;refine⟨Qt ry,?_⟩;have z:=q (.bl _) _ H C R (Tx.refl H) Xf h
 cases v with
 | non=>cases Qt rx;exact z
 | bl _=>cases P8 rx;exact z
 | int _=>cases Yo rx;exact z
 | str _=>cases Jy rx;exact z
 | ref _=>cases Yb rx;exact z
 | tup _=>obtain⟨a,ys,rfl,_⟩:=Yw rx;exact z
 | cl _=>obtain⟨a,ys,rfl,_⟩:=P7 rx;exact z⟩
def qh:L9 X (compareOp .IsNot) zP:=⟨_,md,λF H C x y v u Q Q' R rx ry h q=>by
 obtain⟨rfl,h⟩:=h;refine⟨Qt ry,?_⟩;have z:=q (.bl _) _ H C R (Tx.refl H) Xf h
 cases v with
 | non=>cases Qt rx;exact z
 | bl _=>cases P8 rx;exact z
 | int _=>cases Yo rx;exact z
 | str _=>cases Jy rx;exact z
 | ref _=>cases Yb rx;exact z
 | tup _=>obtain⟨a,ys,rfl,_⟩:=Yw rx;exact z
 | cl _=>obtain⟨a,ys,rfl,_⟩:=P7 rx;exact z⟩
open Classical in
noncomputable def eqAns (v:T) (us:List WQ) (ts:List T) (u:WQ):Bool:=match (us.zip ts).find? λp=>decide (p.1=u) with
 | some p=>eqT p.2 v
 | none=>false
open Classical in
def jo {v:T}(I:Z7 X WZ σ H s)(r:Reps X.K H ys ts)(rI:Yd ys us)(f:Xv ts n=true){j:Nat}(hu:us[j]?=some u)(ht:ts[j]?=some t):
  eqAns v us ts u=eqT t v:=by
 unfold eqAns;have hm:(u,t)∈us.zip ts:=by
  refine TC.mpr ⟨j,?_⟩;rw[SE];exact⟨hu,ht⟩
 cases e:(us.zip ts).find? λp=>decide (p.1=u) with
 | none=>
  have:=SJ.mp e (u,t) hm;simp at this
 | some p=>
  have h1:=List.find?_some e;have h2:=List.mem_of_find?_eq_some e;simp only[decide_eq_true_eq] at h1;obtain⟨i,hi⟩:=TC.mp h2;obtain⟨g1,g2⟩:=SE.mp hi;obtain⟨x1,k1,q1⟩:=r.get g2;obtain⟨x2,k2,q2⟩:=r.get ht;obtain⟨u1,m1,z1⟩:=rI.get k1;obtain⟨u2,m2,z2⟩:=rI.get k2;rw[g1] at m1;cases m1;rw[hu] at m2;cases m2;rw[h1] at z1;have e2:=z1.inj z2;subst e2;show eqT p.2 v=eqT t v;rw[I0 I n (Vy f g2) (Vy f ht) q1 q2]
def vN (I:Z7 X WZ σ H s)(r:Reps X.K H ys ts)(rI:Yd ys us)(f:Xv ts n=true):us.any (eqAns v us ts)=Hg v ts:=by
 have hl:us.length=ts.length:=by rw[<-rI.length,r.length]
 have hat:∀j,us[j]?.map (eqAns v us ts)=ts[j]?.map λt=>eqT t v:=λj=>by
  by_cases hj:j<us.length
  ·have e1:us[j]?=some us[j]:=by simp[hj]
   have e2:ts[j]?=some (ts[j]'(by omega)):=by simp[hl▸hj]
   rw[e1,e2,Option.map_some,Option.map_some,jo I r rI f e1 e2]
  ·rw[TB (by omega),TB (by omega)];rfl
 have hm:us.map (eqAns v us ts)=ts.map λt=>eqT t v:=by
  refine List.ext_getElem? λj=>?_;rw[XM,XM];exact hat j
 unfold Hg;have a1:us.any (eqAns v us ts)=(us.map (eqAns v us ts)).any id:=by rw[List.any_map];rfl
 have a2:(ts.any λy=>eqT y v)=(ts.map λt=>eqT t v).any id:=by rw[List.any_map];rfl
 rw[a1,a2,hm]
def dQ (neg:Bool)(hu:X.A.units+150<cLine):L9 X (compareOp (if neg then .NotIn else .In)) (oE neg):=⟨_,Go,λF H C x y v u Q Q' R rx ry h q WZ s σ v' u' I r1 r2=>by
 have sq:∀{p:WP} {ys:List V} {ts:List T},u'=.ref p->(Ug X.K H p ys\/Tg X.K H p ys)->Reps X.K H ys ts->J0 v->Xv ts Rj=true->Q' (.bl (if neg then !Hg v ts else Hg v ts)) C->
   wpAny (model X.prog X.w) X.A (compareOp (if neg then .NotIn else .In) v' u') (EP X WZ σ Q) X.xe s:=λ{p ys ts} eu hq r fv ft hq'=>by
  subst eu;have at1:∀{its:List WQ},Yd ys its->∀w,w∈its.toArray->SeqAt.EqAt X.A.in1 s w v' (eqAns v its ts w):=λ{its} rI w hw=>by
   have hw':w∈its:=by simpa using hw
   obtain⟨j,hj⟩:=TC.mp hw';have hlt:j<its.length:=(PY.mp hj).1;have hl:its.length=ts.length:=by rw[<-rI.length,r.length]
   have e2:ts[j]?=some (ts[j]'(by omega)):=by simp[hl▸hlt]
   rw[jo I r rI ft hj e2];obtain⟨x2,k2,q2⟩:=r.get e2;obtain⟨u2,m2,z2⟩:=rI.get k2;rw[hj] at m2;cases m2;exact jn I 100 (Vy ft e2) fv q2 rx z2 r1 (by show X.A.units+1+100<cLine;omega)
  rcases hq with hq | hq
  ·obtain⟨its,rI,p,_⟩:=I.list hq;have e:its.toArray.any (eqAns v its ts)=Hg v ts:=by rw[<-vN I r rI ft];simp
   cases neg with
   | true=>refine SeqAt.notIn_listAt (eqAns v its ts) p.isList (at1 rI) ⟨.bl _,H,I,VS,?_⟩;rw[e];exact q _ _ H C R (Tx.refl H) Xf hq'
   | false=>refine SeqAt.in_listAt (eqAns v its ts) p.isList (at1 rI) ⟨.bl _,H,I,VS,?_⟩;rw[e];exact q _ _ H C R (Tx.refl H) Xf hq'
  ·obtain⟨its,rI,p,_⟩:=I.tuple hq;have e:its.toArray.any (eqAns v its ts)=Hg v ts:=by rw[<-vN I r rI ft];simp
   cases neg with
   | true=>refine SeqAt.notIn_tupleAt (eqAns v its ts) p (at1 rI) ⟨.bl _,H,I,VS,?_⟩;rw[e];exact q _ _ H C R (Tx.refl H) Xf hq'
   | false=>refine SeqAt.in_tupleAt (eqAns v its ts) p (at1 rI) ⟨.bl _,H,I,VS,?_⟩;rw[e];exact q _ _ H C R (Tx.refl H) Xf hq'
 have tpl:∀{ts:List T},Xh X.K H y (.tup ts)->J0 v/\Xv ts Rj=true/\Q' (.bl (if neg then !Hg v ts else Hg v ts)) C->wpAny (model X.prog X.w) X.A (compareOp (if neg then .NotIn else .In) v' u') (EP X WZ σ Q) X.xe s:=λ{ts} ry h=>by
  obtain⟨a,ys,rfl,hq,r⟩:=Yw ry;exact sq r2 (.inr hq) r h.1 h.2.1 h.2.2
 have cls:∀{ts:List T},Xh X.K H y (.cl ts)->J0 v/\Xv ts Rj=true/\Q' (.bl (if neg then !Hg v ts else Hg v ts)) C->wpAny (model X.prog X.w) X.A (compareOp (if neg then .NotIn else .In) v' u') (EP X WZ σ Q) X.xe s:=λ{ts} ry h=>by
  obtain⟨a,ys,rfl,hq,r⟩:=P7 ry;exact sq r2 (.inl hq.sq) r h.1 h.2.1 h.2.2
 have rf:∀{a:WP},Xh X.K H y (.ref a)->(∃ys,C a=some (.lst ys)/\J0 v/\Xv ys Rj=true/\Q' (.bl (if neg then !Hg v ys else Hg v ys)) C)->wpAny (model X.prog X.w) X.A (compareOp (if neg then .NotIn else .In) v' u') (EP X WZ σ Q) X.xe s:=λ{a} ry h=>by
  obtain⟨ts,ht,h1,h2,h3⟩:=h;obtain⟨zs,hz,rz⟩:=R.lst ht
  cases Yb ry
  exact sq r2 (.inl (Ug.of hz)) rz h1 h2 h3
 cases u with
 | tup ts=>cases v<;>exact tpl ry h
 | cl ts=>cases v<;>exact cls ry h
 | ref a=>cases v<;>exact rf ry h
 | str j=>
  cases v with
  | str i=>
   cases Jy rx;cases Jy ry
   obtain⟨t,rfl⟩:=r1;obtain⟨t',rfl⟩:=r2
   cases neg with
   | true=>exact notIn_str ⟨.bl _,H,I,VS,q _ _ H C R (Tx.refl H) Xf h⟩
   | false=>exact in_str ⟨.bl _,H,I,VS,q _ _ H C R (Tx.refl H) Xf h⟩
  | _=>exact False.elim h
 | non=>cases v<;>exact False.elim h
 | bl _=>cases v<;>exact False.elim h
 | int _=>cases v<;>exact False.elim h⟩
def qi (hu:X.A.units+150<cLine):L9 X (compareOp .In) lL:=dQ false hu
def bY:Zbt X Zv:=⟨_,gn,λF H C x y v u Q Q' R rx ry h q=>by
 cases v<;>cases u<;>first | exact False.elim h | skip
 case tup.int xs i=>
  obtain⟨a,ys,rfl,hq,r⟩:=Yw rx
  cases Yo ry
  obtain⟨v,hv,h⟩:=h;obtain⟨z,hz,rz⟩:=r.at hv;exact .inr (.inl ⟨a,ys,i,z,VS,VS,hq,hz,q _ _ H C R (Tx.refl H) rz h⟩)
 case cl.int xs i=>
  obtain⟨a,ys,rfl,hq,r⟩:=P7 rx
  cases Yo ry
  obtain⟨v,hv,h⟩:=h;obtain⟨z,hz,rz⟩:=r.at hv;exact .inl ⟨a,ys,i,z,VS,VS,hq.sq,hz,q _ _ H C R (Tx.refl H) rz h⟩
 case ref.int a i=>
  cases Yb rx
  cases Yo ry
  obtain⟨xs,v,hx,hv,h⟩:=h;obtain⟨ys,hy,r⟩:=R.lst hx;obtain⟨z,hz,rz⟩:=r.at hv;exact .inl ⟨a,ys,i,z,VS,VS,Ug.of hy,hz,q _ _ H C R (Tx.refl H) rz h⟩
 case str.int z i=>
  cases Jy rx
  cases Yo ry
  obtain⟨hl,c,hc,h⟩:=h;exact .inr (.inr ⟨z,i,c,VS,VS,hl,hc,q _ _ H C R (Tx.refl H) Xc h⟩)⟩
def Zbo (X:Cx)(w:T->Option Int->Option Int->Hw->WK->Prop):Prop:=∃r,lC X r/\∀(F H:Hp) (C:Hw) (x:V) (v:T) (lo hi:Option Int) (Q:VK) (Q':WK),Rl X.K F H C->Xh X.K H x v->w v lo hi C Q'->QE X.K F H Q Q'->r x lo hi H Q
def Fv {K:WY}(r:Reps K H ys xs)(lo hi:Option Int):Reps K H (Rm ys lo hi) (vJ xs lo hi):=by
 unfold Rm vJ;rw[r.length];exact(r.drop _).take _
def bX:Zbo X bv:=⟨_,kS.or (oP.or kU),λF H C x v lo hi Q Q' R rx h q=>by
 cases v with
 | tup xs=>
  obtain⟨a,ys,rfl,hq,r⟩:=Yw rx;exact .inl ⟨a,ys,VS,hq,by rw[r.length];exact h.1,λp hp=>q _ _ _ C (R.hid hp) (Tx.new hp) (Vk (Tg.of Yy) ((Fv r lo hi).tx (Tx.new hp))) h.2⟩
 | cl xs=>
  obtain⟨a,ys,rfl,hq,r⟩:=P7 rx;exact .inr (.inl ⟨a,ys,VS,hq.sq,λp hp=>q _ _ _ _ (R.newL hp (Fv r lo hi)) (Tx.new hp) Xd (h p (R.free hp))⟩)
 | ref a=>
  cases Yb rx
  obtain⟨xs,hx,h⟩:=h;obtain⟨ys,hy,r⟩:=R.lst hx;exact .inr (.inl ⟨a,ys,VS,Ug.of hy,λp hp=>q _ _ _ _ (R.newL hp (Fv r lo hi)) (Tx.new hp) Xd (h p (R.free hp))⟩)
 | str z=>cases Jy rx;exact .inr (.inr ⟨z,VS,h.1,q _ _ H C R (Tx.refl H) Xc h.2⟩)
 | _=>exact False.elim h⟩
def Vd {K:WY}{v:T}(h:Reps K H xs [v]):∃x,xs=[x]/\Xh K H x v:=by
 obtain⟨y,r,rfl,a,b⟩:=J2 h
 cases Vo b
 exact⟨y,VS,a⟩
def Am {K:WY}{v w:T}(h:Reps K H xs [v,w]):∃x y,xs=[x,y]/\Xh K H x v/\Xh K H y w:=by
 obtain⟨y,r,rfl,a,b⟩:=J2 h;obtain⟨z,rfl,c⟩:=Vd b;exact⟨y,z,VS,a,c⟩
def Qi:Nm X (.builtin "len") O9:=⟨_,zy.or zx,λF H C xs vs Q Q' R rs h q=>by
 obtain⟨v,rfl,h⟩:=h;obtain⟨x,rfl,rx⟩:=Vd rs
 cases v with
 | str z=>cases Jy rx;exact .inr ⟨z,VS,h.1,q _ _ H C R (Tx.refl H) Xe h.2⟩
 | tup xs=>
  obtain⟨a,ys,rfl,hq,r⟩:=Yw rx;exact .inl ⟨a,ys,VS,.inr hq,by rw[r.length];exact q _ _ H C R (Tx.refl H) Xe h⟩
 | cl xs=>
  obtain⟨a,ys,rfl,hq,r⟩:=P7 rx;exact .inl ⟨a,ys,VS,.inl hq.sq,by rw[r.length];exact q _ _ H C R (Tx.refl H) Xe h⟩
 | ref a=>
  cases Yb rx
  obtain⟨xs,hx,h⟩:=h;obtain⟨ys,hy,r⟩:=R.lst hx;exact .inl ⟨a,ys,VS,.inl (Ug.of hy),by rw[r.length];exact q _ _ H C R (Tx.refl H) Xe h⟩
 | _=>exact False.elim h⟩
def cE (hc:X.calm=true):Nm X (.builtin "max") lw:=⟨_,uV hc,λF H C xs vs Q Q' R rs h q=>by
 obtain⟨i,j,rfl,h⟩:=h;obtain⟨x,y,rfl,rx,ry⟩:=Am rs
 cases Yo rx;cases Yo ry
 exact⟨i,j,VS,q _ _ H C R (Tx.refl H) Xe h⟩⟩
def yr {K:WY}:∀{bs:List Bool} {ys:List V},Reps K H ys (bs.map T.bl)->ys=bs.map V.bl
 | [],_,h=>Vo h
 | b::bs,_,h=>by obtain⟨y,r,rfl,a,c⟩:=J2 h;cases P8 a;rw[yr c];rfl
def L6:Nm X (.type "tuple") Mg:=⟨_,Dl,λF H C xs vs Q Q' R rs h q=>by
 obtain⟨v,rfl,h⟩:=h;obtain⟨x,rfl,rx⟩:=Vd rs
 cases v with
 | tup xs=>
  obtain⟨a,ys,rfl,hq,r⟩:=Yw rx;exact⟨a,ys,VS,.inr ⟨hq,q _ _ H C R (Tx.refl H) (Vk hq r) h⟩⟩
 | cl xs=>
  obtain⟨a,ys,rfl,hq,r⟩:=P7 rx;exact⟨a,ys,VS,.inl ⟨hq.sq,λp hp=>q _ _ _ C (R.hid hp) (Tx.new hp) (Vk (Tg.of Yy) (r.tx (Tx.new hp))) h⟩⟩
 | ref a=>
  cases Yb rx
  obtain⟨xs,hx,h⟩:=h;obtain⟨ys,hy,r⟩:=R.lst hx;exact⟨a,ys,VS,.inl ⟨Ug.of hy,λp hp=>q _ _ _ C (R.hid hp) (Tx.new hp) (Vk (Tg.of Yy) (r.tx (Tx.new hp))) h⟩⟩
 | _=>exact False.elim h⟩
def gU:Nm X (.type "list") vM:=⟨_,zw,λF H C xs vs Q Q' R rs h q=>by
 obtain⟨v,rfl,h⟩:=h;obtain⟨x,rfl,rx⟩:=Vd rs
 cases v with
 | tup xs=>
  obtain⟨a,ys,rfl,hq,r⟩:=Yw rx;exact⟨a,ys,VS,.inr hq,λp hp=>q _ _ _ _ (R.newL hp r) (Tx.new hp) Xd (h p (R.free hp))⟩
 | cl xs=>
  obtain⟨a,ys,rfl,hq,r⟩:=P7 rx;exact⟨a,ys,VS,.inl hq.sq,λp hp=>q _ _ _ _ (R.newL hp r) (Tx.new hp) Xd (h p (R.free hp))⟩
 | ref a=>
  cases Yb rx
  obtain⟨xs,hx,h⟩:=h;obtain⟨ys,hy,r⟩:=R.lst hx;exact⟨a,ys,VS,.inl (Ug.of hy),λp hp=>q _ _ _ _ (R.newL hp r) (Tx.new hp) Xd (h p (R.free hp))⟩
 | _=>exact False.elim h⟩
def Ua:om X "list.append" Ww:=⟨_,Cd,λF H C x v xs vs Q Q' R rx rs h q=>by
 obtain⟨a,ts,y,rfl,rfl,hx,hl,h⟩:=h
 cases Yb rx
 obtain⟨z,rfl,rz⟩:=Vd rs;obtain⟨ys,hy,r⟩:=R.lst hx;obtain⟨R',t⟩:=R.putL hx (r.snoc rz);exact⟨a,ys,z,VS,VS,hy,by rw[r.length];exact hl,q _ _ _ _ R' t Tl h⟩⟩
def G5:om X "list.pop" At:=⟨_,iX,λF H C x v xs vs Q Q' R rx rs h q=>by
 obtain⟨a,ts,y,rfl,rfl,hx,hy,h⟩:=h
 cases Yb rx
 cases Vo rs
 obtain⟨ys,hys,r⟩:=R.lst hx;obtain⟨z,hz,rz⟩:=r.get hy;obtain⟨R',t⟩:=R.putL hx r.dropLast;exact⟨a,ys,z,VS,VS,hys,by rw[r.length];exact hz,q _ _ _ _ R' t (rz.tx t) h⟩⟩
def mt:om X "list.pop" xJ:=⟨_,qo,λF H C x v xs vs Q Q' R rx rs h q=>by
 obtain⟨a,ts,i,k,y,rfl,rfl,hx,h1,h2,hk,hy,h⟩:=h
 cases Yb rx
 obtain⟨z,rfl,rz⟩:=Vd rs
 cases Yo rz
 obtain⟨ys,hys,r⟩:=R.lst hx;obtain⟨z,hz,rz⟩:=r.get hy;obtain⟨R',t⟩:=R.putL hx (r.erase k);exact⟨a,ys,i,k,z,VS,VS,hys,h1,h2,by rw[r.length];exact hk,hz,q _ _ _ _ R' t (rz.tx t) h⟩⟩
end
section
variable {X:Cx}{a b c e:WW}{es:List WW}{wa wb wc:WE}{wt wt':WT}{wA:WA}{w w':W2}{pos p apos cpos:Pos}{Jk:List WW}
def Zc (i:Nat)(hN:X.N[i]?=some x:=by rfl)(hv:bi X.env.scope x:=by first | exact Or.inl VS | exact Or.inr (Or.inl VS) | exact Or.inr (Or.inr VS))(hd:(x==("__debug__":Str))=false:=by decide)
  (hcd:(x==("__classdict__":Str))=false:=by decide):X0 X (.Name x pos) (Zd i):=⟨_,iA hN hv hd hcd,eW⟩
def Zh {i j}:X0 X (.Constant (.int i) j pos) (eC (.int i)):=⟨_,rM,fz λ_=>Xe⟩
def Zj {i j}:X0 X (.Constant (.str i) j pos) (eC (.str i)):=⟨_,iC,fz λ_=>Xc⟩
def uS {i j}:X0 X (.Constant (.bool i) j pos) (eC (.bl i)):=⟨_,dG,fz λ_=>Xf⟩
def Uf {j}:X0 X (.Constant .none j pos) (eC .non):=⟨_,iD,fz λ_=>Tl⟩
def aW (K:WY)(mg:Str->Option WQ)(x:Str)(v:T):Prop:=∃z u,mg x=some u/\Yh z u/\∀H,Xh K H z v
def cB (hg:Gl X x)(h:aW X.K X.mg x v)(hd:(x==("__debug__":Str))=false:=by decide):X0 X (.Name x pos) (eC v):=by
 obtain⟨z,u,h1,h2,h3⟩:=h;exact⟨_,nS hg h1 h2 hd,fz h3⟩
def Zx (ho:L9 X (binaryOp op) w)(ha:X0 X a wa)(hb:X0 X b wb):X0 X (.BinOp a op b pos) (Zf w wa wb):=by
 obtain⟨r,h1,h2⟩:=ho;obtain⟨ta,p1,s1⟩:=ha;obtain⟨tb,p2,s2⟩:=hb;exact⟨_,dA h1 p1 p2,sO s1 s2 h2⟩
def jw (ha:X0 X a wa):X0 X (.UnaryOp .USub a pos) (kh jK wa):=by
 obtain⟨ta,p1,s1⟩:=ha;exact⟨_,d7 kG p1,bK s1 λF H C x v Q Q' R rx h q=>by
  cases v with
  | int i=>cases Yo rx;exact⟨i,VS,q _ _ H C R (Tx.refl H) Xe h⟩
  | _=>exact False.elim h⟩
def L4 (ho:L9 X (compareOp op) w)(ha:X0 X a wa)(hb:X0 X b wb)(hm:behindInMarks op b=false):X0 X (.Compare a [op] [b] pos) (Zf w wa wb):=by
 obtain⟨r,h1,h2⟩:=ho;obtain⟨ta,p1,s1⟩:=ha;obtain⟨tb,p2,s2⟩:=hb;exact⟨_,nX h1 p1 p2 hm,sO s1 s2 h2⟩
def Ft (hc:vR X c wt)(ha:X0 X a wa)(hb:X0 X b wb):X0 X (.IfExp c a b pos) (uP wt wa wb):=by
 obtain⟨ta,p1,s1⟩:=ha;obtain⟨tb,p2,s2⟩:=hb;obtain⟨tc,p3,s3⟩:=hc;exact⟨_,rN p3 p1 p2,bM s3 s1 s2⟩
def Ze:Dn X [] Zg:=⟨_,xu,de⟩
def Za (ha:X0 X a wa)(hb:Dn X es wA)(hs:starEach (a::es) X.env=(false,eval a X.env)::starEach es X.env:=by rfl):Dn X (a::es) (Zb wa wA):=by
 obtain⟨ta,p1,s1⟩:=ha;obtain⟨tb,p2,s2⟩:=hb;exact⟨_,Hb p1 p2 hs,xk s1 s2⟩
def Zo {x1}(h:Dn X es wA):X0 X (.Tuple es x1 pos) (Zs wA):=by
 obtain⟨t,p,s⟩:=h;exact⟨_,iB p,eX s⟩
def Xa (h:Dn X es wA):X0 X (.List es pos) (W5 wA):=by
 obtain⟨t,p,s⟩:=h;exact⟨_,iE p,df s⟩
def Z1 (ha:X0 X a wa)(hb:X0 X b wb)(hs:vT b:=by exact λ_ _=>rfl):X0 X (.Subscript a b pos) (Zf Zv wa wb):=by
 obtain⟨r,h1,h2⟩:=bY (X:=X);obtain⟨ta,p1,s1⟩:=ha;obtain⟨tb,p2,s2⟩:=hb;exact⟨_,dB h1 p1 p2 hs,sO s1 s2 h2⟩
def bj (X:Cx)(e:Option WW)(w:Sw->Hw->(Option Int->Hw->Prop)->WX->Prop):Prop:=∃t,PO X e t/\∀(F H:Hp) (C:Hw) (σ:L2.St) (τ:Sw) (Q:Option Int->Hp->Prop) (Q':Option Int->Hw->Prop) (χ:WX),Rl X.K F H C->Ve X.K H σ τ->w τ C Q' χ->
 (∀o H' C',Rl X.K F H' C'->Tx H H'->Q' o C'->Q o H')->t σ H Q
def Os:bj X none lS:=⟨_,nO,λF H C σ τ Q Q' χ R S h q=>q none H C R (Tx.refl H) h⟩
def Vu (ha:X0 X a wa):bj X (some a) (Su wa):=by
 obtain⟨ta,p1,s1⟩:=ha;refine⟨_,nN p1,λF H C σ τ Q Q' χ R S h q=>?_⟩;refine s1 F H C σ τ _ _ χ R S h λx v H1 C1 R1 t1 rx h1=>?_;obtain⟨i,rfl,h1⟩:=h1;exact⟨i,Yo rx,q (some i) H1 C1 R1 t1 h1⟩
def zo {lo hi:Option WW}{wl wh:Sw->Hw->(Option Int->Hw->Prop)->WX->Prop}(ha:X0 X a wa)(hl:bj X lo wl)(hh:bj X hi wh):X0 X (.Subscript a (.Slice lo hi none p2) pos) (pf wa wl wh):=by
 obtain⟨r,h1,h2⟩:=bX (X:=X);obtain⟨ta,p1,s1⟩:=ha;obtain⟨tl,p3,s3⟩:=hl;obtain⟨th,p4,s4⟩:=hh;refine⟨_,rK h1 p1 p3 p4,λF H C σ τ Q Q' χ R S h q=>?_⟩;refine s1 F H C σ τ _ _ χ R S h λx v H1 C1 R1 t1 rx h1=>?_;refine s3 F H1 C1 σ τ _ _ χ R1 (S.tx t1) h1 λl H2 C2 R2 t2 h2'=>?_;refine s4 F H2 C2 σ τ _ _ χ R2 (S.tx (t1.trans t2)) h2' λu H3 C3 R3 t3 h3=>?_;exact h2 F H3 C3 x v l u Q Q' R3 ((rx.tx t2).tx t3) h3 (QE.at q ((t1.trans t2).trans t3))
def Mc {id:String}{r:List T->Hw->WK->Prop}(hc:Nm X (.builtin id) r)(hg:Gl X x)(hm:X.mg x=none)(hv:bootBuiltins x=some (.builtin id))(ha:Dn X (e::es) wA)(hn:x≠"__name__":=by decide)(hdb:(x==("__debug__":Str))=false:=by decide)
  (he:starEach (e::es) X.env=(false,eval e X.env)::starEach es X.env:=by rfl) (hpl:(backTo pos (starEach es X.env)).any (·.1)=false:=by rfl):X0 X (.Call (.Name x p) (e::es) [] pos) (Oq r wA):=by
 obtain⟨r,h1,h2⟩:=hc;obtain⟨t,p1,s1⟩:=ha;exact⟨_,yy h1 hg hm hv p1 hn hdb he hpl,dk h2 s1⟩
def Fp {id:String}{r:List T->Hw->WK->Prop}(hc:Nm X (.type id) r)(hg:Gl X x)(hm:X.mg x=none)(hv:bootBuiltins x=some (.type id))(ha:Dn X (e::es) wA)(hn:x≠"__name__":=by decide)(hdb:(x==("__debug__":Str))=false:=by decide)
  (he:starEach (e::es) X.env=(false,eval e X.env)::starEach es X.env:=by rfl) (hpl:(backTo pos (starEach es X.env)).any (·.1)=false:=by rfl):X0 X (.Call (.Name x p) (e::es) [] pos) (Oq r wA):=by
 obtain⟨r,h1,h2⟩:=hc;obtain⟨t,p1,s1⟩:=ha;exact⟨_,uu h1 hg hm hv p1 hn hdb he hpl,dk h2 s1⟩
def cL (X:Cx)(Tn:String)(ty:T->Hw->Prop):Prop:=∀(F H:Hp) (C:Hw) (x:V) (v:T),Rl X.K F H C->Xh X.K H x v->ty v C->kI X.K Tn x H
def J1:cL X "list" Uj:=λF H C x v R rx h=>by
 obtain⟨a,xs,rfl,hx⟩:=h
 cases Yb rx
 obtain⟨ys,hy,r⟩:=R.lst hx;exact L2.tyL hy
def tV:cL X "str" ba:=λF H C x v R rx h=>by
 obtain⟨z,rfl⟩:=h
 cases Jy rx
 unfold kI;rfl
def Mb {Tn id:String}{ty:T->Hw->Prop}{r:T->List T->Hw->WK->Prop}(pa:PlainAttrs Tn)(slot:Slot Tn name id)(hty:typeOf (.builtin id)=pure (.type "method_descriptor"))(hT:cL X Tn ty)(hm:om X id r)(ho:X0 X o wo)(ha:Dn X (e::es) wA)
  (hbase:attributeBase o name X.env (eval o X.env)=eval o X.env:=by rfl)
  (hfew:((backTo cpos (starEach (e::es) X.env)).all (λx=>!x.1)&&(backToKw cpos (keywordEach [] X.env)).all (λx=>x.1.isSome)
   &&decide ((e::es).length+([]:List Keyword).length+(if ([]:List Keyword).isEmpty then 0 else 1)<30))=true:=by rfl)
  (hline:(apos.endLine==cpos.line)=true:=by rfl) (hs:starEach (e::es) X.env=(false,eval e X.env)::starEach es X.env:=by rfl) (hplain:(backTo cpos (starEach es X.env)).any (·.1)=false:=by rfl):
  X0 X (.Call (.Attribute o name apos) (e::es) [] cpos) (N9 ty r wo wA):=by
 obtain⟨rr,h1,h2⟩:=hm;obtain⟨to,p1,s1⟩:=ho;obtain⟨ta,p2,s2⟩:=ha;refine⟨_,dF pa slot hty h1 p1 p2 hbase hfew hline hs hplain,λF H C σ τ Q Q' χ R S h q=>?_⟩;refine s1 F H C σ τ _ _ χ R S h λx v H1 C1 R1 t1 rx h1'=>⟨hT F H1 C1 x v R1 rx h1'.1,?_⟩;refine s2 F H1 C1 σ τ _ _ χ R1 (S.tx t1) h1'.2 λxs vs H2 C2 R2 t2 rs h2'=>?_;exact h2 F H2 C2 x v xs vs Q Q' R2 (rx.tx t2) rs h2' (QE.at q (t1.trans t2))
def Fq {Tn id:String}{ty:T->Hw->Prop}{r:T->List T->Hw->WK->Prop}(pa:PlainAttrs Tn)(slot:Slot Tn name id)(hty:typeOf (.builtin id)=pure (.type "method_descriptor"))(hT:cL X Tn ty)(hm:om X id r)(ho:X0 X o wo)
  (hbase:attributeBase o name X.env (eval o X.env)=eval o X.env:=by rfl) (hline:(apos.endLine==cpos.line)=true:=by rfl):
  X0 X (.Call (.Attribute o name apos) [] [] cpos) (N9 ty r wo Zg):=by
 obtain⟨rr,h1,h2⟩:=hm;obtain⟨to,p1,s1⟩:=ho;refine⟨_,iG pa slot hty h1 p1 hbase hline,λF H C σ τ Q Q' χ R S h q=>?_⟩;refine s1 F H C σ τ _ _ χ R S h λx v H1 C1 R1 t1 rx h1'=>⟨hT F H1 C1 x v R1 rx h1'.1,?_⟩;exact h2 F H1 C1 x v [] [] Q Q' R1 rx Jv h1'.2 (QE.at q t1)
def m3 {K:WY}{n c:String}(hn:n∈["NoneType","bool","int","str","tuple","list","dict"])(hc:c∈["bool","int","str","tuple","list","dict"]):W.kitOne K (.type n) (.type c)=some (Id n c):=by
 simp only[ZM,ZN,or_false] at hn hc
 rcases hn with rfl | rfl | rfl | rfl | rfl | rfl | rfl<;>rcases hc with rfl | rfl | rfl | rfl | rfl | rfl<;>rfl
def oH (h:fS v C n):n∈["NoneType","bool","int","str","tuple","list","dict"]:=by
 cases v with
 | non=>cases h;decide
 | bl _=>cases h;decide
 | int _=>cases h;decide
 | str _=>cases h;decide
 | tup _=>cases h;decide
 | cl _=>cases h;decide
 | ref _=>rcases h with⟨rfl,_⟩ | ⟨rfl,_⟩<;>decide
def gv {F H:Hp}{n c:String}{Q:WQ->WR->Prop}(I:Z7 X WZ σ H s)(R:Rl X.K F H C)(rx:Xh X.K H x v)(ru:Yh x u)(hn:fS v C n)(hc:c∈["bool","int","str","tuple","list","dict"])
  (h:∀tk,Q (.bool (Id n c)) {s with toks:=tk}):wpAny (model X.prog X.w) X.A (call (.builtin "isinstance") [u,.type c]) Q X.xe s:=by
 have e:=m3 (K:=X.K) (oH hn) hc
 cases v with
 | non=>cases hn;cases Qt rx;exact T2 I ru .non e h
 | bl b=>cases hn;cases P8 rx;exact T2 I ru (.bl b) e h
 | int b=>cases hn;cases Yo rx;exact T2 I ru (.int b) e h
 | str b=>cases hn;cases Jy rx;exact T2 I ru (.str b) e h
 | tup xs=>
  cases hn
  obtain⟨a,ys,rfl,hq,r⟩:=Yw rx
  cases ru
  obtain⟨its,_,⟨o,h1,h2,_⟩,_⟩:=I.tuple hq;exact RB W.kitx_tuple I.kIn ⟨o,h1,h2⟩ e (λz=>nomatch z) h
 | cl xs=>
  cases hn
  obtain⟨a,ys,rfl,hq,r⟩:=P7 rx
  cases ru
  obtain⟨its,_,p,_⟩:=I.list hq.sq;obtain⟨o,h1,h2,_⟩:=p.isList;exact RB W.kitx_list I.kIn ⟨o,h1,h2⟩ e (λz=>nomatch z) h
 | ref a=>
  cases Yb rx
  rcases hn with⟨rfl,xs,hx⟩ | ⟨rfl,kvs,hx⟩
  ·obtain⟨ys,hy,r⟩:=R.lst hx;exact T2 I ru (.lst hy) e h
  ·obtain⟨ks,hy,r⟩:=R.obj a _ hx;exact T2 I ru (.dK hy) e h
def kl {q2:Pos}{c:String}(hg:Gl X "isinstance")(hm:X.mg "isinstance"=none)(hgx:Gl X x)(hmx:X.mg x=none)(hvx:bootBuiltins x=some (.type c))(hc:c∈["bool","int","str","tuple","list","dict"])(ha:X0 X a wa)
  (hnx:x≠"__name__":=by decide) (hdx:(x==("__debug__":Str))=false:=by decide) (he:starEach [a,.Name x q2] X.env=[(false,eval a X.env),(false,eval (.Name x q2) X.env)]:=by rfl):X0 X (.Call (.Name "isinstance" p) [a,.Name x q2] [] pos) (mK wa c):=by
 obtain⟨ta,p1,s1⟩:=ha;let r:List V->Hp->VK->Prop:=λxs H Q=>∃y F C v n,xs=[y,.ty c]/\Rl X.K F H C/\Xh X.K H y v/\fS v C n/\Q (.bl (Id n c)) H
 have hr:Uh X (.builtin "isinstance") r:=by
  intro WZ s σ H xs us Q I rs h;obtain⟨y,F,C,v,n,rfl,R,ry,hn,q⟩:=h;obtain⟨u,u2,rfl,ru,ru2⟩:=rs.two
  cases ru2
  exact gv I R ry ru hn hc λtk=>⟨.bl _,H,I.tok tk,VS,q⟩
 refine⟨_,yy hr hg hm Dm (Hb p1 (Hb (nY (v:=.ty c) hgx hmx hvx VS hnx hdx) xu (by rw[show starEach [Expr.Name x q2] X.env=[(false,eval (.Name x q2) X.env)] from rfl];rfl)) ?_) (by decide) (by decide) ?_ ?_,?_⟩
 ·rw[he];rfl
 ·rw[he];rfl
 ·rfl
 ·intro F H C σ τ Q Q' χ R S h q;refine s1 F H C σ τ _ _ χ R S h λy v H1 C1 R1 t1 ry h1=>?_;obtain⟨n,hn,h1⟩:=h1;exact⟨y,F,C1,v,n,VS,R1,ry,hn,q _ _ H1 C1 R1 t1 Xf h1⟩
def Zp (ho:L9 X (compareOp op) w)(ha:X0 X a wa)(hb:X0 X b wb)(hm:behindInMarks op b=false:=by exact P9 _):vR X (.Compare a [op] [b] pos) (Yu (Zf w wa wb)):=by
 obtain⟨r,h1,h2⟩:=ho;obtain⟨ta,p1,s1⟩:=ha;obtain⟨tb,p2,s2⟩:=hb;exact⟨_,nv h1 p1 p2 hm,dj (sO s1 s2 h2)⟩
def pq (ho:L9 X (compareOp op) w)(ho':L9 X (compareOp op') w')(ha:X0 X a wa)(hb:X0 X b wb)(hc:X0 X c wc)(hm:lastMarks [op,op'] [b,c]=false:=by with_unfolding_all rfl):
  vR X (.Compare a [op,op'] [b,c] pos) (Yu (zf w w' wa wb wc)):=by
 obtain⟨r,h1,h2⟩:=ho;obtain⟨r',h1',h2'⟩:=ho';obtain⟨ta,p1,s1⟩:=ha;obtain⟨tb,p2,s2⟩:=hb;obtain⟨tc,p3,s3⟩:=hc;exact⟨_,rj h1 h1' p1 p2 p3 hm,dj (oX s1 s2 s3 h2 h2')⟩
def Qz (ha:X0 X a wa)(he:∀whole,isTrue a X.env whole=(do let v <-whole;standAt a.pos;holding [v] (truthy v)):=by intro _;rfl):vR X a (Im wa):=by
 obtain⟨ta,p1,s1⟩:=ha;exact⟨_,rg p1 he,eY s1⟩
def Tv (ha:vR X a wt):fh X (.BoolOp .And [a] pos) wt:=by
 obtain⟨t,p,s⟩:=ha;exact⟨_,nu p,s⟩
def Ky (ha:vR X a wt):fh X (.BoolOp .Or [a] pos) wt:=by
 obtain⟨t,p,s⟩:=ha;exact⟨_,ip p,s⟩
def Rk (ha:vR X a wt)(hb:fh X (.BoolOp .And (b::Jk) pos) wt'):fh X (.BoolOp .And (a::b::Jk) pos) (wN wt wt'):=by
 obtain⟨t,p,s⟩:=ha;obtain⟨t',p',s'⟩:=hb;exact⟨_,ir p p',bN s s'⟩
def Ie (ha:vR X a wt)(hb:fh X (.BoolOp .Or (b::Jk) pos) wt'):fh X (.BoolOp .Or (a::b::Jk) pos) (Ke wt wt'):=by
 obtain⟨t,p,s⟩:=ha;obtain⟨t',p',s'⟩:=hb;exact⟨_,dy p p',dc s s'⟩
def Ma (h:fh X a wt):vR X a wt:=by
 obtain⟨t,p,s⟩:=h;exact⟨_,p.pt,s⟩
def wn (ha:vR X a wt):vR X (.UnaryOp .Not a pos) (fq wt):=by
 obtain⟨t,p,s⟩:=ha;exact⟨_,iu p,bL s⟩
end
structure lH (K:W.Frag)(F H:Hp)(D:K2)(D':We):Prop where
 nx:∀σ τ H' C',Rl K F H' C'->Tx H H'->Ve K H' σ τ->D'.nx τ C'->D.nx σ H'
 rt:∀x v H' C',Rl K F H' C'->Tx H H'->Xh K H' x v->D'.rt v C'->D.rt x H'
 bk:∀σ τ H' C',Rl K F H' C'->Tx H H'->Ve K H' σ τ->D'.bk τ C'->D.bk σ H'
 ct:∀σ τ H' C',Rl K F H' C'->Tx H H'->Ve K H' σ τ->D'.ct τ C'->D.ct σ H'
def lH.at {K:WY}{F H H1:Hp}(h:lH K F H D D')(t:Tx H H1):lH K F H1 D D':=
 ⟨λσ τ H' C' R t'=>h.nx σ τ H' C' R (t.trans t'),λx v H' C' R t'=>h.rt x v H' C' R (t.trans t'),λσ τ H' C' R t'=>h.bk σ τ H' C' R (t.trans t'),λσ τ H' C' R t'=>h.ct σ τ H' C' R (t.trans t')⟩
def zH (K:WY)(t:TS)(w:WS):Prop:=∀(F H:Hp) (C:Hw) (σ:L2.St) (τ:Sw) (D:K2) (D':We),Rl K F H C->Ve K H σ τ->w D' τ C->lH K F H D D'->t D σ H
def wB (K:WY)(t:TG)(w:WG):Prop:=∀(F H:Hp) (C:Hw) (σ:L2.St) (τ:Sw) (x:V) (v:T) (Q:L2.St->Hp->Prop) (Q':Sw->Hw->Prop) (χ:WX),Rl K F H C->Ve K H σ τ->Xh K H x v->w v τ C Q' χ->
 (∀σ' τ' H' C',Rl K F H' C'->Tx H H'->Ve K H' σ' τ'->Q' τ' C'->Q σ' H')->t x σ H Q
def jE (K:WY)(t:jI)(w:pS):Prop:=∀(F H:Hp) (C:Hw) (σ:L2.St) (τ:Sw) (x:List V) (v:List T) (Q:L2.St->Hp->Prop) (Q':Sw->Hw->Prop) (χ:WX),Rl K F H C->Ve K H σ τ->Reps K H x v->w v τ C Q' χ->
 (∀σ' τ' H' C',Rl K F H' C'->Tx H H'->Ve K H' σ' τ'->Q' τ' C'->Q σ' H')->t x σ H Q
def Mj (X:Cx)(st:WV)(w:WS):Prop:=∃t,PS X st t/\zH X.K t w
def V2 (X:Cx)(st:List WV)(w:WS):Prop:=∃t,wC X st t/\zH X.K t w
def fD (X:Cx)(e:WW)(w:WG):Prop:=∃t,PG X e t/\wB X.K t w
def lD (X:Cx)(e:List WW)(w:pS):Prop:=∃t,cT X e t/\jE X.K t w
section
variable {X:Cx}{st:WV}{Jk:List WV}{w u:WS}{e tg:WW}{we:WE}{wt:WT}{g:WG}{gs:pS}{pos:Pos}
def Xb {K:WY}:wB K (Vm i) (Yq i):=λF H C σ τ x v Q Q' χ R S r h q=>q _ _ H C R (Tx.refl H) (S.set r) h
def Hy {K:WY}:jE K ji Q4:=λF H C σ τ x v Q Q' χ R S r h q=>by
 obtain⟨rfl,h⟩:=h;exact⟨Vo r,q _ _ H C R (Tx.refl H) S h⟩
def U1 {K:WY}{u:jI}(a:wB K t g)(b:jE K u gs):jE K (Qc t u) (Wb g gs):=λF H C σ τ x v Q Q' χ R S r h q=>by
 obtain⟨v1,vs,rfl,h⟩:=h;obtain⟨y,ys,rfl,r1,r2⟩:=J2 r;refine⟨y,ys,VS,a F H C σ τ y v1 _ _ χ R S r1 h λσ' τ' H' C' R' t' S' h'=>?_⟩;exact b F H' C' σ' τ' ys vs Q Q' χ R' S' (r2.tx t') h' λσ2 τ2 H2 C2 R2 t2=>q σ2 τ2 H2 C2 R2 (t'.trans t2)
def Hx {K:WY}{u:jI}{n:Nat}(b:jE K u gs)(hn:∀vs τ C Q χ,gs vs τ C Q χ->vs.length=n):wB K (jh K n u) (tG gs):=λF H C σ τ x v Q Q' χ R S r h q=>by
 obtain⟨vs,rfl,h⟩:=h;obtain⟨a,ys,rfl,hq,rs⟩:=Yw r;exact⟨a,ys,VS,hq,by rw[rs.length];exact hn _ _ _ _ _ h,b F H C σ τ ys vs Q Q' χ R S rs h q⟩
def vU (n:Nat)(gs:pS):Prop:=∀vs τ C Q χ,gs vs τ C Q χ->vs.length=n
def Oc:vU 0 Q4:=λvs τ C Q χ h=>by rw[h.1];rfl
def J4 (b:vU n gs):vU (n+1) (Wb (Yq i) gs):=λvs τ C Q χ h=>by
 obtain⟨v,r,rfl,h⟩:=h;rw[YF,b r _ _ _ _ h]
def Wi {i:Nat}(hN:X.N.Nodup)(hi:X.N[i]?=some x:=by rfl)(hx:oo X.env.scope x:=by first | exact Or.inl VS | exact Or.inr VS)(hf:X.fn x=true\/X.env.scope.names.lookup x=some .local:=by first | exact .inl VS | exact .inr VS | assumption):fD X (.Name x pos) (Yq i):=⟨_,Wh hN hi hx hf,Xb⟩
def zk:lD X [] Q4:=⟨_,Lk,Hy⟩
def Sz (a:fD X e g)(b:lD X es gs)(hs:(assignEach (e::es) X.env).map (·.2)=assign e X.env::(assignEach es X.env).map (·.2):=by rfl):lD X (e::es) (Wb g gs):=by
 obtain⟨t,p,s⟩:=a;obtain⟨t',p',s'⟩:=b;exact⟨_,Vr p p' hs,U1 s s'⟩
def zj {k n:Nat}(hc:X.calm=true)(b:lD X es gs)(hl:vU n gs)(hn:(assignEach es X.env).length=n:=by rfl)(hst:(assignEach es X.env).findIdx? (·.1)=none:=by rfl):fD X (.Tuple es k pos) (tG gs):=by
 obtain⟨t,p,s⟩:=b;exact⟨_,Gm hc p hn hst,Hx s hl⟩
def Z4:V2 X [] Z8:=⟨_,nz,λF H C σ τ D D' R S h d=>d.nx σ τ H C R (Tx.refl H) S h⟩
def vB:Mj X (.Continue pos) wU:=⟨_,yx,λF H C σ τ D D' R S h d=>d.ct σ τ H C R (Tx.refl H) S h⟩
def Zl (a:Mj X st w):V2 X [st] w:=by
 obtain⟨t,p,s⟩:=a;exact⟨_,ny p,s⟩
def Zi (a:Mj X st w)(b:V2 X Jk u):V2 X (st::Jk) (Zq w u):=by
 obtain⟨t,p,s⟩:=a;obtain⟨t',p',s'⟩:=b;refine⟨_,rq p p',λF H C σ τ D D' R S h d=>?_⟩;exact s F H C σ τ _ _ R S h ⟨λσ' τ' H' C' R' t' S' h'=>s' F H' C' σ' τ' D D' R' S' h' (d.at t'),d.rt,d.bk,d.ct⟩
def Yg (a:X0 X e we)(hs:swapsWith e none pos.line X.env=pure false:=by rfl):Mj X (.Expr e pos) (Ja we):=by
 obtain⟨t,p,s⟩:=a;refine⟨_,nB p hs,λF H C σ τ D D' R S h d=>?_⟩;exact s F H C σ τ _ _ D'.xc R S h λx v H1 C1 R1 t1 rx h1=>d.nx σ τ H1 C1 R1 t1 (S.tx t1) h1
def Zu (a:X0 X e we):Mj X (.Return (some e) pos) (Yj we):=by
 obtain⟨t,p,s⟩:=a;refine⟨_,ix p,λF H C σ τ D D' R S h d=>?_⟩;exact s F H C σ τ _ _ D'.xc R S h d.rt
def zg:Mj X (.Return none pos) yq:=⟨_,nA,λF H C σ τ D D' R S h d=>d.rt .non .non H C R (Tx.refl H) Tl h⟩
def Z3 (hc:vR X c wt)(ha:V2 X a wa)(hb:V2 X b wb):Mj X (.If c a b pos) (Ju wt wa wb):=by
 obtain⟨t,p,s⟩:=hc;obtain⟨t1,p1,s1⟩:=ha;obtain⟨t2,p2,s2⟩:=hb;refine⟨_,dz p p1 p2,λF H C σ τ D D' R S h d=>?_⟩;refine s F H C σ τ _ _ D'.xc R S h λk H1 C1 R1 t1 h1=>?_
 cases k with
 | true=>exact s1 F H1 C1 σ τ D D' R1 (S.tx t1) h1 (d.at t1)
 | false=>exact s2 F H1 C1 σ τ D D' R1 (S.tx t1) h1 (d.at t1)
def px (he:X0 X e we)(hg:fD X tg g)(hs:swapsWithSole [tg] e pos.line X.env=pure false:=by rfl)(hw:swappedStores [tg] e X.env=pure none:=by rfl)
  (h1:(assignEach [tg] X.env).map (·.2)=[assign tg X.env]:=by rfl):Mj X (.Assign [tg] e pos) (Zw we g):=by
 obtain⟨t,p,s⟩:=he;obtain⟨t',p',s'⟩:=hg;refine⟨_,i4 p p' hs hw h1,λF H C σ τ D D' R S h d=>?_⟩;refine s F H C σ τ _ _ D'.xc R S h λx v H1 C1 R1 t1 rx h1=>?_;exact s' F H1 C1 σ τ x v _ _ D'.xc R1 (S.tx t1) rx h1 λσ' τ' H' C' R' t'=>d.nx σ' τ' H' C' R' (t1.trans t')
def Zr {i:Nat}(hN:X.N.Nodup)(he:X0 X e we)(hi:X.N[i]?=some x:=by rfl)(hx:oo X.env.scope x:=by first | exact Or.inl VS | exact Or.inr VS)(hs:swapsWith e (some (.Name x pos')) pos.line X.env=pure false:=by rfl)
  (hf:X.fn x=true\/X.env.scope.names.lookup x=some .local:=by first | exact .inl VS | exact .inr VS | assumption):Mj X (.Assign [.Name x pos'] e pos) (Zw we (Yq i)):=by
 obtain⟨t,p,s⟩:=he;refine⟨_,iw hN hi hx p hs hf,λF H C σ τ D D' R S h d=>?_⟩;refine s F H C σ τ _ _ D'.xc R S h λx v H1 C1 R1 t1 rx h1=>?_;exact Xb F H1 C1 σ τ x v _ _ D'.xc R1 (S.tx t1) rx h1 λσ' τ' H' C' R' t'=>d.nx σ' τ' H' C' R' (t1.trans t')
end
def Ij (K:WY)(F H0:Hp)(J:It)(xs:List T)(ok:Hw->Prop):Prop:=∀(i:Nat) (H:Hp) (C:Hw),Rl K F H C->Tx H0 H->ok C->
 (i<xs.length->J.go i H/\∀x H',J.yld i H x H'->∃v,xs[i]?=some v/\Rl K F H' C/\Tx H H'/\Xh K H' x v)/\(i=xs.length->J.stop i H)
def fg (K:WY)(wi:TI)(w:WI):Prop:=∀(F H:Hp) (C:Hw) (σ:L2.St) (τ:Sw) (R:It->Hp->Prop) (R':List T->(Hw->Prop)->Hw->Prop) (χ:WX),Rl K F H C->Ve K H σ τ->w τ C R' χ->
 (∀J H' xs ok C',Rl K F H' C'->Tx H H'->(∀F',Ij K F' H' J xs ok)->R' xs ok C'->R J H')->wi σ H R
def fC (X:Cx)(tg e:WW)(w:WI):Prop:=∃t,PI X tg e t/\fg X.K t w
section
variable {X:Cx}{tg e a b:WW}{we:WE}{wA:WA}{pos p:Pos}
def m7 {K:WY}{F H0:Hp}:Ij K F H0 (bt K l) xs (λC=>C l=some (.lst xs)):=λi H C R t ok=>by
 obtain⟨ys,hy,r⟩:=R.lst ok;refine⟨λhi=>?_,λhi=>⟨ys,Ug.of hy,by rw[r.length];omega⟩⟩;have ev:xs[i]?=some xs[i]:=by simp[hi]
 obtain⟨y,ey,ry⟩:=r.get ev;refine⟨⟨ys,y,Ug.of hy,ey⟩,λx H' h=>?_⟩;obtain⟨rfl,h⟩:=h;have e2:=h ys (Ug.of hy);rw[ey] at e2;cases e2;exact⟨_,ev,R,Tx.refl _,ry⟩
def cj {K:WY}{F H0:Hp}(h0:kt K H0 l ys)(r0:Reps K H0 ys xs):Ij K F H0 (bt K l) xs (λ_=>True):=λi H C R t ok=>by
 have hy:=(t.sqc h0).sq;have r:=r0.tx t;refine⟨λhi=>?_,λhi=>⟨ys,hy,by rw[r.length];omega⟩⟩;have ev:xs[i]?=some xs[i]:=by simp[hi]
 obtain⟨y,ey,ry⟩:=r.get ev;refine⟨⟨ys,y,hy,ey⟩,λx H' h=>?_⟩;obtain⟨rfl,h⟩:=h;have e2:=h ys hy;rw[ey] at e2;cases e2;exact⟨_,ev,R,Tx.refl _,ry⟩
def gp {K:WY}{F H0:Hp}(h0:Tg K H0 l ys)(r0:Reps K H0 ys xs):Ij K F H0 (aV K l) xs (λ_=>True):=λi H C R t ok=>by
 have hy:=t.sqt h0;have r:=r0.tx t;refine⟨λhi=>?_,λhi=>⟨ys,hy,by rw[r.length];omega⟩⟩;have ev:xs[i]?=some xs[i]:=by simp[hi]
 obtain⟨y,ey,ry⟩:=r.get ev;refine⟨⟨ys,y,hy,ey⟩,λx H' h=>?_⟩;obtain⟨rfl,h⟩:=h;have e2:=h ys hy;rw[ey] at e2;cases e2;exact⟨_,ev,R,Tx.refl _,ry⟩
def gq {K:WY}{F H0:Hp}:Ij K F H0 (bq z) (z.cps.toList.map λc=>T.str ⟨#[c]⟩) (λ_=>True):=λi H C R t ok=>by
 refine⟨λhi=>⟨by show i<z.cps.size;simpa using hi,λx H' h=>?_⟩,λhi=>by show i=z.cps.size;simpa using hi⟩;obtain⟨rfl,c,hc,rfl⟩:=h;refine⟨.str ⟨#[c]⟩,?_,R,Tx.refl _,Xc⟩;rw[XM,RU,hc];rfl
def gr {K:WY}{F H0:Hp}{lo:Int}:Ij K F H0 (br lo n) (rng lo n) (λ_=>True):=λi H C R t ok=>by
 have hl:(rng lo n).length=n:=by unfold rng;simp
 refine⟨λhi=>⟨by rw[hl] at hi;exact hi,λx H' h=>?_⟩,λhi=>by show n<=i;omega⟩;obtain⟨rfl,rfl⟩:=h;refine⟨.int (lo+i),?_,R,Tx.refl _,Xe⟩;unfold rng;rw[hl] at hi;rw[XM,SA hi];rfl
def sB {R:It->Hp->Prop}(I1:Z7 X WZ σ H1 s1)(r1:Yh (.str z) v)(q:R (bq z) H1):wpAny (model X.prog X.w) X.A (pyIter v) (cS X WZ σ tg R) X.xe s1:=by
 obtain⟨t,rfl⟩:=r1;have fin:∀b∈[s1.heap.objs.size],Mp X WZ H1 b:=λb hb=>by
  have e:b=s1.heap.objs.size:=by simpa using hb
  subst e;exact I1.fpOk (XE _) I1.fresh
 cases ha:z.cps.all (·<128)
 ·refine wpAny_pyIter_wide ha ⟨s1.heap.objs.size,[s1.heap.objs.size],_,_,H1,VS,I1.kept (t':=s1.toks) λb o e=>XC _ e,Ht (ty:="str_iterator") (by decide) (λA hA=>Walks.strWide hA _ z t) λ_ _ _ _ _ st h=>wpAny_pyIter_striter_wide st h,⟨_,XF _ VS,VS,VS⟩,fin,q⟩
 ·refine wpAny_pyIter_ascii ha ⟨s1.heap.objs.size,[s1.heap.objs.size],_,_,H1,VS,I1.kept (t':=s1.toks) λb o e=>XC _ e,Ht (ty:="str_ascii_iterator") (by decide) (λA hA=>Walks.strAscii hA _ z t) λ_ _ _ _ _ st h=>wpAny_pyIter_striter_ascii st h,⟨_,XF _ VS,VS,VS⟩,fin,q⟩
def aj (K:WY)(tl:TE):TI:=λσ H R=>tl σ H λx H1=>(∃a,x=.ref a/\(∃xs,Ug K H1 a xs)/\R (bt K a) H1)\/(∃a,x=.ref a/\(∃xs,Tg K H1 a xs)/\R (aV K a) H1)\/∃z,x=.str z/\R (bq z) H1
def i8 (hl:PE X e tl):PI X tg e (aj X.K tl):=by
 intro WZ s σ H R I h;refine J5 (hl WZ s σ H _ I h) λv s1 ⟨x,H1,I1,r1,q1⟩=>?_
 rcases q1 with⟨a,rfl,⟨xs,hq⟩,q⟩ | ⟨a,rfl,⟨xs,hq⟩,q⟩ | ⟨z,rfl,q⟩
 ·cases r1
  obtain⟨its,rv,p,hz⟩:=I1.list hq;refine wpAny_pyIter_list p.isList ?_;refine⟨s1.heap.objs.size,[s1.heap.objs.size],_,_,H1,VS,I1.kept (t':=s1.toks) λb o e=>XC _ e,vZ a _,⟨_,XF _ VS,VS,VS⟩,λb hb=>?_,q⟩;have e:b=s1.heap.objs.size:=by simpa using hb
  subst e;exact I1.fpOk (XE _) (I1.hok.fresh (XE _))
 ·cases r1
  obtain⟨its,rv,p,hz⟩:=I1.tuple hq;refine wpAny_pyIter_tuple (show s1.heap.IsTuple a its.toArray from p) ?_;refine⟨s1.heap.objs.size,[s1.heap.objs.size],_,_,H1,VS,I1.kept (t':=s1.toks) λb o e=>XC _ e,jR a _,⟨_,XF _ VS,VS,VS⟩,λb hb=>?_,q⟩;have e:b=s1.heap.objs.size:=by simpa using hb
  subst e;exact I1.fpOk (XE _) (I1.hok.fresh (XE _))
 ·exact sB I1 r1 q
def Vp (h:X0 X e we):fC X tg e (Sf we):=by
 obtain⟨t,p,s⟩:=h;refine⟨_,i8 p,λF H C σ τ R R' χ Rr S h q=>?_⟩;refine s F H C σ τ _ _ χ Rr S h λx v H1 C1 R1 t1 rx h1=>?_
 cases v with
 | tup xs=>
  obtain⟨a,ys,rfl,hq,r⟩:=Yw rx;exact .inr (.inl ⟨a,VS,⟨ys,hq⟩,q _ H1 xs _ C1 R1 t1 (λ_=>gp hq r) h1⟩)
 | cl xs=>
  obtain⟨a,ys,rfl,hq,r⟩:=P7 rx;exact .inl ⟨a,VS,⟨ys,hq.sq⟩,q _ H1 xs _ C1 R1 t1 (λ_=>cj hq r) h1⟩
 | str z=>cases Jy rx;exact .inr (.inr ⟨z,VS,q _ H1 _ _ C1 R1 t1 (λ_=>gq) h1⟩)
 | ref a=>
  cases Yb rx
  obtain⟨xs,hx,h1⟩:=h1;obtain⟨ys,hy,r⟩:=R1.lst hx;exact .inl ⟨a,VS,⟨ys,Ug.of hy⟩,q _ H1 xs _ C1 R1 t1 (λ_=>m7) h1⟩
 | _=>exact False.elim h1
def vF (hg:Gl X "range")(hm:X.mg "range"=none)(ha:Dn X [a] wA)(hs:starEach [a] X.env=[(false,eval a X.env)]:=by rfl):fC X tg (.Call (.Name "range" p) [a] [] pos) (fA wA):=by
 obtain⟨t,p1,s⟩:=ha;refine⟨_,uq hg hm p1 hs,λF H C σ τ R R' χ Rr S h q=>?_⟩;refine s F H C σ τ _ _ χ Rr S h λxs vs H1 C1 R1 t1 rs h1=>?_;obtain⟨j,rfl,h2,h3,h1⟩:=h1;obtain⟨x,rfl,rx⟩:=Vd rs
 cases Yo rx
 exact⟨j,VS,h2,h3,q _ H1 _ _ C1 R1 t1 (λ_=>gr) h1⟩
end
def oQ {K:WY}(hi:fg K wi i)(hg:wB K g g')(hb:zH K tb b):zH K (eF wi g tb) (Nw i g' b):=λF H C σ τ D D' R S h d=>by
 refine hi F H C σ τ _ _ D'.xc R S h λJ H1 xs ok C1 R1 t1 it h1=>?_;have it1:=it F;refine⟨λi m σ H=>m=xs.length-i/\i<=xs.length/\∃τ C,Rl K F H C/\Tx H1 H/\Ve K H σ τ/\jj g' b ok D' (xs.drop i) τ C,⟨xs.length,by simp,Nat.zero_le _,τ,C1,R1,Tx.refl _,S.tx t1,h1⟩,?_⟩;rintro i m σ2 H2 ⟨rfl,hle,τ2,C2,R2,t2,S2,h2⟩;by_cases hlt:i<xs.length
 ·right;have ed:xs.drop i=xs[i]::xs.drop (i+1):=QY hlt;rw[ed] at h2;obtain⟨hok,h2⟩:=h2;obtain⟨hgo,hy⟩:=(it1 i H2 C2 R2 t2 hok).1 hlt;refine⟨hgo,λσ' H'=>∃τ' C',Rl K F H' C'/\Tx H1 H'/\Ve K H' σ' τ'/\jj g' b ok D' (xs.drop (i+1)) τ' C',λσ' H' q=>⟨xs.length-(i+1),by omega,VS,hlt,q⟩,λx H' hx=>?_⟩;obtain⟨v,ev,R3,t3,rv⟩:=hy x H' hx;have:v=xs[i]:=by
   have e:xs[i]?=some xs[i]:=by simp[hlt]
   rw[e] at ev;exact(YH ev).symm
  subst this;refine hg F H' C2 σ2 τ2 x _ _ _ D'.xc R3 (S2.tx t3) rv h2 λσ4 τ4 H4 C4 R4 t4 S4 h4=>?_;have tt:Tx H1 H4:=(t2.trans t3).trans t4;exact hb F H4 C4 σ4 τ4 _ _ R4 S4 h4 ⟨λσ5 τ5 H5 C5 R5 t5 S5 h5=>⟨τ5,C5,R5,tt.trans t5,S5,h5⟩,λx v H5 C5 R5 t5=>d.rt x v H5 C5 R5 ((t1.trans tt).trans t5),λσ5 τ5 H5 C5 R5 t5 S5 h5=>d.nx σ5 τ5 H5 C5 R5 ((t1.trans tt).trans t5) S5 h5,
   λσ5 τ5 H5 C5 R5 t5 S5 h5=>⟨τ5,C5,R5,tt.trans t5,S5,h5⟩⟩
 ·left;have e:i=xs.length:=by omega
  subst e;rw[SX] at h2;obtain⟨hok,h2⟩:=h2;exact⟨(it1 _ H2 C2 R2 t2 hok).2 VS,d.nx σ2 τ2 H2 C2 R2 (t1.trans t2) S2 h2⟩
def U8 {X:Cx}{pos:Pos}(hp:PassesOwn (model X.prog X.w) X.A X.env X.xe)(hc:X.calm=true)(hi:fC X tg iter i)(hg:fD X tg g)(hb:V2 X body b)
  (hs:∀x,foldedSetIterable iter X.env x=pure x:=by intro _;rfl):Mj X (.For tg iter body [] pos) (Nw i g b):=by
 obtain⟨t,p,s⟩:=hi;obtain⟨t',p',s'⟩:=hg;obtain⟨t2,p2,s2⟩:=hb;exact⟨_,iy hp hc p p' p2 hs,oQ s s' s2⟩
def bd (K:WY)(we:WE):TE:=λσ H Q=>∃(F:Hp) (C:Hw) (τ:Sw) (Q':WK) (χ:WX),Rl K F H C/\Ve K H σ τ/\we τ C Q' χ/\QE K F H Q Q'
def ua (K:WY)(wt:WT):TT:=λσ H Q=>∃(F:Hp) (C:Hw) (τ:Sw) (Q':Bool->Hw->Prop) (χ:WX),Rl K F H C/\Ve K H σ τ/\wt τ C Q' χ/\QT K F H Q Q'
def X0.pe (h:X0 X e we):PE X e (bd X.K we):=by
 obtain⟨t,p,s⟩:=h;intro WZ st σ H Q I hq;obtain⟨F,C,τ,Q',χ,R,S,hw,q⟩:=hq;exact p WZ st σ H Q I (s F H C σ τ Q Q' χ R S hw q)
def pV (X:Cx)(ifs:List WW)(w:WT):Prop:=∃t,tu X ifs t/\Mi X.K t w
def Ot:pV X [] Bl:=⟨_,nQ,λF H C σ τ Q Q' χ R S h q=>q true H C R (Tx.refl H) h⟩
def Hj (h:vR X e wt):pV X [e] wt:=by
 obtain⟨t,p,s⟩:=h;exact⟨t,nP p,s⟩
def pV.pif (h:pV X ifs w):tu X ifs (ua X.K w):=by
 obtain⟨t,p,s⟩:=h;intro WZ st σ H Q I hq;obtain⟨F,C,τ,Q',χ,R,S,hw,q⟩:=hq;exact p WZ st σ H Q I (s F H C σ τ Q Q' χ R S hw q)
def Ve.cap {K:WY}(h:Ve K H σ τ)(cap:List (Option Nat)):Ve K H (Mf cap σ) (Dk cap τ):=by
 refine⟨by unfold Mf Dk;rw[XI,XI],λi v e=>?_⟩;unfold Dk at e;unfold Mf;rw[XM] at e |-
 cases ho:cap[i]? with
 | none=>rw[ho] at e;cases e
 | some o=>
  rw[ho] at e
  cases o with
  | none=>simp at e
  | some j=>
   have e':(τ[j]?).join=some v:=by simpa using e
   have e2:τ[j]?=some (some v):=by
    cases hj:τ[j]? with
    | none=>rw[hj] at e';cases e'
    | some z=>rw[hj] at e';rw[show z=some v from e']
   obtain⟨x,hx,r⟩:=h.2 j v e2;exact⟨x,by simp[hx],r⟩
def qV (F:Hp)(p:WP)(ys:List V):Hp:=λb=>if b=p then some (.lst ys) else F b
def Lz {F:Hp}:qV F p ys p=some (.lst ys):=by unfold qV;rw[XY rfl]
def ze {F:Hp}{p b:WP}(h:b≠p):qV F p ys b=F b:=by unfold qV;rw[XX h]
def yg {K:WY}{cap:List (Option Nat)}{wc:WT}{we:WE}(hi:fg K wi i)(hg:wB K g wg){F H:Hp}{C:Hw}{σ:L2.St}{τ:Sw}{Q:WP->Hp->Prop}{Q':WK}{χ:WX}
  (R:Rl K F H C) (S:Ve K H σ τ) (h:Uc cap i wg wc we τ C Q' χ) (q:∀p H' C',Rl K F H' C'->Tx H H'->Q' (.ref p) C'->Q p H'):Bm cap wi g (ua K wc) (bd K we) σ H Q:=by
 refine hi F H C σ τ _ _ χ R S h λJ H1 xs ok C1 R1 t1 it h1=>?_;intro p hp;have hn:∀a o,F a=some o->a≠p:=λa o e=>Wa (R1.frm a o e).1 hp;refine⟨λi m H2=>m=xs.length-i/\i<=xs.length/\∃C2 ys acc,Rl K (qV F p ys) H2 C2/\Tx H1 H2/\Reps K H2 ys acc/\L5 wg wc we ok (Dk cap τ) (λvs C2=>∀p,C2 p=none->Q' (.ref p) (up C2 p (.lst vs))) χ (xs.drop i) acc C2,
  ⟨xs.length,by simp,Nat.zero_le _,C1,[],[],?_,Tx.new hp,Jv,h1⟩,?_⟩
 ·refine⟨(R1.hid hp).obj,λa o e=>?_⟩;by_cases ea:a=p
  ·subst ea;rw[Lz] at e;cases e;exact⟨Yy,R1.free hp⟩
  ·rw[ze ea] at e;exact(R1.hid hp).frm a o e
 rintro i m H2 ⟨rfl,hle,C2,ys,acc,R2,t2,ra,h2⟩;by_cases hlt:i<xs.length
 ·right;have ed:xs.drop i=xs[i]::xs.drop (i+1):=QY hlt;rw[ed] at h2;obtain⟨hok,h2⟩:=h2;obtain⟨hgo,hy⟩:=(it (qV F p ys) i H2 C2 R2 t2 hok).1 hlt;refine⟨hgo,λH'=>∃C2 ys acc,Rl K (qV F p ys) H' C2/\Tx H1 H'/\Reps K H' ys acc/\L5 wg wc we ok (Dk cap τ) (λvs C2=>∀p,C2 p=none->Q' (.ref p) (up C2 p (.lst vs))) χ (xs.drop (i+1)) acc C2,
   λH' z=>⟨xs.length-(i+1),by omega,VS,hlt,z⟩,λx H' hx=>?_⟩
  obtain⟨v,ev,R3,t3,rv⟩:=hy x H' hx;have:v=xs[i]:=by
   have e:xs[i]?=some xs[i]:=by simp[hlt]
   rw[e] at ev;exact(YH ev).symm
  subst this;have S3:Ve K H' (Mf cap σ) (Dk cap τ):=(S.tx ((t1.trans t2).trans t3)).cap cap;refine hg (qV F p ys) H' C2 (Mf cap σ) (Dk cap τ) x _ _ _ χ R3 S3 rv h2 λσ4 τ4 H4 C4 R4 t4 S4 h4=>?_;refine⟨qV F p ys,C4,τ4,_,χ,R4,S4,h4,λb H5 C5 R5 t5 h5=>?_⟩;have t15:Tx H2 H5:=(t3.trans t4).trans t5
  cases b with
  | true=>
   refine⟨qV F p ys,C5,τ4,_,χ,R5,S4.tx t5,h5,λy vy H6 C6 R6 t6 ry h6=>?_⟩;obtain⟨e6,n6⟩:=R6.frm p _ Lz;have tp:Tx H6 (J7 H6 p (.lst (ys++[y]))):=Tx.put e6 (λz=>z);refine⟨ys,e6,by rw[ra.length];exact h6.1,C6,ys++[y],acc++[vy],⟨λa o e=>?_,λa o e=>?_⟩,(t2.trans (t15.trans t6)).trans tp,((ra.tx (t15.trans t6)).snoc ry).tx tp,h6.2⟩
   ·have ea:a≠p:=λz=>by subst z;rw[n6] at e;cases e
    exact(R6.obj a o e).stay tp (Yi ea)
   ·by_cases ea:a=p
    ·subst ea;rw[Lz] at e;cases e;exact⟨Yy,n6⟩
    ·rw[ze ea] at e;rw[Yi ea];exact R6.frm a o (by rw[ze ea];exact e)
  | false=>exact⟨C5,ys,acc,R5,t2.trans t15,ra.tx t15,h5⟩
 ·left;have e:i=xs.length:=by omega
  subst e;rw[SX] at h2;obtain⟨hok,h2⟩:=h2;refine⟨(it (qV F p ys) _ H2 C2 R2 t2 hok).2 VS,?_⟩;obtain⟨e6,n6⟩:=R2.frm p _ Lz;refine q p H2 (up C2 p (.lst acc)) ⟨λa o e=>?_,λa o e=>?_⟩ (t1.trans t2) (h2 p n6)
  ·by_cases ea:a=p
   ·subst ea;rw[Zn] at e;cases e;exact⟨ys,e6,ra⟩
   ·rw[Z0 ea] at e;exact R2.obj a o e
  ·have ea:=hn a o e;rw[Z0 ea];exact R2.frm a o (by rw[ze ea];exact e)
section
variable {X:Cx}{tg iter elt:WW}{ifs:List WW}{scope:Scope}{pos:Pos}{cN:List Str}{cap:List (Option Nat)}{cl:List (Str×WP)}{js:List Nat}{i:WI}{g:TG}{wg:WG}{wc:WT}{we:WE}
def Dv {K:WY}:∀(σ:L2.St) (H:Hp) (Q Q':Bool->Hp->Prop),(∀b H',Q b H'->Q' b H')->ua K w σ H Q->ua K w σ H Q':=λσ H Q Q' m h=>by
 obtain⟨F,C,τ,R',χ,R,S,hw,q⟩:=h;exact⟨F,C,τ,R',χ,R,S,hw,λb H' C' r t h=>m _ _ (q b H' C' r t h)⟩
structure ku (X:Cx)(tg iter elt:Expr)(ifs:List Expr)(scope:Scope)(cN:List Str)(cap:List (Option Nat))(cl:List (Str×Addr))(js:List Nat)(i:WI)(g:TG)(wg:WG)(wc:WT)(we:WE):Prop where
 calm:X.calm=true
 ok:X.Ok->Ee X cN cap scope cl
 it:fC X tg iter i
 tgt:∀fp s H,PG (Jt X cN scope cl fp s H) tg g
 gm:Mh g
 gk:Cz js g
 sg:wB X.K g wg
 js0:∀j∈js,(cap[j]?).join=none
 ts:∀fp s H,pV (Jt X cN scope cl fp s H) ifs wc
 el:∀fp s H,X0 (Jt X cN scope cl fp s H) elt we
 fold:∀x,foldedSetIterable iter X.env x=pure x
def Oe (D:ku X tg iter elt ifs scope cN cap cl js i g wg wc we):X0 X (.ListComp elt [⟨tg,iter,ifs,0⟩] scope pos) (Uc cap i wg wc we):=by
 obtain⟨wi,p,s⟩:=D.it;have P:jG X tg iter elt ifs scope cN cap cl js wi g (ua X.K wc) (bd X.K we):=⟨D.calm,D.ok,p,D.tgt,D.gm,D.gk,D.js0,λfp s H=>(D.ts fp s H).pif,Dv,λfp s H=>(D.el fp s H).pe,D.fold⟩;exact⟨_,nW P,λF H C σ τ Q Q' χ R S h q=>yg s D.sg R S h λp H' C' R' t' h'=>q _ _ H' C' R' t' Xd h'⟩
def Fn {k:Nat}{py spos:Pos}(hN:X.N.Nodup)(hi:X.N[k]?=some y)(hy:X.env.scope.names.lookup y=some .local)
  (hsw:swapsWith (.ListComp elt [⟨tg,iter,ifs,0⟩] scope pos) (some (.Name y py)) spos.line X.env=pure true)
  (D:ku X tg iter elt ifs scope cN cap cl js i g wg wc we):Mj X (.Assign [.Name y py] (.ListComp elt [⟨tg,iter,ifs,0⟩] scope pos) spos) (Zw (Uc cap i wg wc we) (Yq k)):=by
 obtain⟨wi,p,s⟩:=D.it;have P:jG X tg iter elt ifs scope cN cap cl js wi g (ua X.K wc) (bd X.K we):=⟨D.calm,D.ok,p,D.tgt,D.gm,D.gk,D.js0,λfp s H=>(D.ts fp s H).pif,Dv,λfp s H=>(D.el fp s H).pe,D.fold⟩;exact⟨_,xo hN hi hy hsw P,λF H C σ τ E E' R S h d=>yg s D.sg R S h λp H' C' R' t' h'=>d.nx _ _ H' C' R' t' ((S.tx t').set Xd) h'⟩
end
def Yv {k:Nat}(hr:Wj k A):A.units+150<cLine:=by have:=hr.un;omega
def spW (K:WY)(pr:List Df)(n i:Nat):Sp:=λvs H Q _=>∃(F:Hp) (C:Hw) (vs':List T) (Q':WK) (χ:WX),Rl K F H C/\Reps K H vs vs'/\Z9 pr n i vs' C Q' χ/\QE K F H Q Q'
def Z5 {X:Cx}{k i:Nat}{p pos:Pos}{e:WW}{es:List WW}(Cc:Ca X.prog X.w X.K X.mg X.base k x ps (spW X.K pr k i))(hr:Wj k X.A)(hg:Gl X x)(ha:Dn X (e::es) wA)
  (hdb:(x==("__debug__":Str))=false:=by decide) (he:starEach (e::es) X.env=(false,eval e X.env)::starEach es X.env:=by rfl) (hpl:(backTo pos (starEach es X.env)).any (·.1)=false:=by rfl):
  X0 X (.Call (.Name x p) (e::es) [] pos) (Z6 (Z9 pr k) i wA):=by
 obtain⟨t,p1,s⟩:=ha;refine⟨_,dE Cc hr hg p1 hdb he hpl,λF H C σ τ Q Q' χ R S h q=>?_⟩;refine s F H C σ τ _ _ χ R S h λxs vs H1 C1 R1 t1 rs h1=>?_;refine⟨F,C1,vs,Q',χ,R1,?_,h1,QE.at q t1⟩;rw[YK];exact rs
def Ve.start {K:WY}(h:Reps K H vs vs')(N:List Str)(m:Nat)(e:m=N.length-vs.length):Ve K H (start N vs) (vs'.map some++List.replicate m none):=by
 refine⟨?_,λi v hv=>?_⟩
 ·unfold L2.start;rw[PX,PX,XI,XI,SY,SY,h.length,e,h.length]
 ·unfold L2.start;by_cases hi:i<vs'.length
  ·rw[QL (by rw[XI];exact hi),XM] at hv
   cases hg:vs'[i]? with
   | none=>rw[hg] at hv;cases hv
   | some z=>
    rw[hg] at hv
    cases hv
    obtain⟨x,hx,r⟩:=h.get hg;refine⟨x,?_,r⟩;rw[QL (by rw[XI,h.length];exact hi),XM,hx];rfl
  ·rw[RF (by rw[XI];omega),List.getElem?_replicate] at hv
   split at hv
   ·cases hv
   ·cases hv
def Y3 {K:WY}{mg:Str->Option WQ}{st:WV}{f:WP}(F:V1 K x x st f fd)(hb:Ya K fd ps [])(hm:mg x=some (.ref f)):Ca P w K mg base 0 x ps (spW K pr 0 i):=
 ⟨f,fd,⟨λvs H Q E h=>by obtain⟨_,_,_,_,_,_,_,z,_⟩:=h;exact z.elim,λA outer s H args us vs Q E _ _ _ _ h=>by obtain⟨_,_,_,_,_,_,_,z,_⟩:=h;exact z.elim⟩,hb,F.kp,hm⟩
def Y4 {K:WY}{mg:Str->Option WQ}{st:WV}{f:WP}(F:V1 K x x st f fd)(hb:Ya K fd ps [])(hm:mg x=some (.ref f))(G:Yx P w K mg base CX0 n f fd ps sp):Ca P w K mg base n x ps sp:=
 ⟨f,fd,G,hb,F.kp,hm⟩
def law_sp {K:WY}{ns:List Int}(hO:pX H)(hS:Ug K H a (ns.map V.int))(h:Z9 pr n i [.cl (ns.map T.int)] (λ_=>none) (λv _=>v=.bl true) (λ_ _=>False)):
  spW K pr n i [.ref a] H (λv _=>v=.bl true) (λ_ _ _=>False):=by
 have hq:kt K H a (ns.map V.int):=by
  rcases hS with(h | ⟨o,h⟩) | h
  ·rcases hO a with e | ⟨o,xs,e⟩
   ·rw[e] at h;cases h
   ·rw[e] at h;cases h
  ·exact .inl ⟨o,h⟩
  ·exact .inr h
 refine⟨λ_=>none,λ_=>none,[.cl (ns.map T.int)],_,_,⟨(λ_ _ e=>by cases e),(λ_ _ e=>by cases e)⟩,Yn ?_ Jv,h,λx v H' C' R t r e=>?_⟩
 ·unfold Xh;exact⟨a,_,VS,hq,Ki ns⟩
 ·subst e;exact P8 r
end WL
namespace L2
open PySem PySem.Spec PyProof.Rows
section
variable {κ:Type}[DecidableEq κ]
def Sh (kvs:List (κ×V))(k:κ):Option V:=(kvs.find? λkv=>decide (kv.1=k)).map (·.2)
def Up (kvs:List (κ×V))(k:κ)(v:V):List (κ×V):=
 if (kvs.any λkv=>decide (kv.1=k))=true then kvs.map (λkv=>if kv.1=k then(kv.1,v) else kv) else kvs++[(k,v)]
def L0 (kvs:List (κ×V))(k:κ):List (κ×V):=kvs.filter λkv=>decide (kv.1≠k)
def Mr {p:κ×V}{r:List (κ×V)}{k:κ}(e:p.1=k):Sh (p::r) k=some p.2:=by simp[Sh,List.find?_cons,e]
def Mt {p:κ×V}{r:List (κ×V)}{k:κ}(e:¬p.1=k):Sh (p::r) k=Sh r k:=by simp[Sh,List.find?_cons,e]
def zS (k:κ):∀kvs:List (κ×V),(kvs.any λkv=>decide (kv.1=k))=(Sh kvs k).isSome
 | []=>rfl
 | p::r=>by
  rw[RY];by_cases e:p.1=k
  ·simp only[Mr e,decide_eq_true e,Bool.true_or,Option.isSome_some]
  ·rw[Mt e,YG e,Bool.false_or];exact zS k r
def Oa (kvs:List (κ×V))(k:κ)(v:V):(Up kvs k v).length<=kvs.length+1:=by
 unfold Up
 split
 ·rw[XI];omega
 ·rw[PX,YF,TM];omega
def Qj.isSome_eq (r:Qj o u):o.isSome=u.isSome:=by
 cases o with
 | none=>cases u with
  | none=>rfl
  | some _=>exact(show False from r).elim
 | some _=>cases u with
  | none=>exact(show False from r).elim
  | some _=>rfl
def Qj.getD (r:Qj o u)(rd:Yh d d'):Yh (o.getD d) (u.getD d'):=by
 cases o with
 | none=>cases u with
  | none=>exact rd
  | some _=>exact(show False from r).elim
 | some _=>cases u with
  | none=>exact(show False from r).elim
  | some _=>exact r
def KV.val (r:KV kvs vs)(k:κ):Qj (Sh kvs k) (valueAt vs k):=by
 unfold KV at r
 induction r with
 | nil=>exact True.intro
 | @cons p q ps qs h t ih=>
  obtain⟨h1,h2⟩:=h;by_cases e:p.1=k
  ·have e':q.1=k:=h1.symm.trans e;have b:valueAt (q::qs) k=some q.2:=by simp[valueAt,List.find?_cons,e']
   rw[Mr e,b];exact h2
  ·have e':¬q.1=k:=λz=>e (h1.trans z);have b:valueAt (q::qs) k=valueAt qs k:=by simp[valueAt,List.find?_cons,e']
   rw[Mt e,b];exact ih
def KV.any (r:KV kvs vs)(k:κ):(kvs.any λkv=>decide (kv.1=k))=vs.any λkv=>decide (kv.1=k):=by
 unfold KV at r
 induction r with
 | nil=>rfl
 | cons h t ih=>rw[RY,RY,ih,h.1]
def KV.repl (r:KV kvs vs)(k:κ)(ry:Yh y u):
  KV (kvs.map λkv=>if kv.1=k then(kv.1,y) else kv) (vs.map λkv=>if kv.1=k then(kv.1,u) else kv):=by
 unfold KV at r |-
 induction r with
 | nil=>exact .nil
 | @cons p q ps qs h t ih=>
  rw[YI,YI];refine .cons ?_ ih;obtain⟨h1,h2⟩:=h;by_cases e:p.1=k
  ·rw[XY e,XY (h1.symm.trans e)];exact⟨h1,ry⟩
  ·rw[XX e,XX (λz=>e (h1.trans z))];exact⟨h1,h2⟩
def KV.put (r:KV kvs vs)(k:κ)(ry:Yh y u):KV (Up kvs k y) (stored vs k u):=by
 unfold Up stored;rw[r.any k];by_cases e:(vs.any λkv=>decide (kv.1=k))=true
 ·rw[XY e,XY e];exact r.repl k ry
 ·rw[XX e,XX e];exact Paired.snoc r ⟨VS,ry⟩
def KV.drop (r:KV kvs vs)(k:κ):KV (L0 kvs k) (without vs k):=by
 unfold KV at r |-;unfold L0 without
 induction r with
 | nil=>exact .nil
 | @cons p q ps qs h t ih=>
  obtain⟨h1,h2⟩:=h;rw[List.filter_cons,List.filter_cons];by_cases e:p.1=k
  ·have a:¬decide (p.1≠k)=true:=by simp[e]
   have b:¬decide (q.1≠k)=true:=by simp[h1.symm.trans e]
   rw[XX a,XX b];exact ih
  ·have e':¬q.1=k:=λz=>e (h1.trans z);have a:decide (p.1≠k)=true:=by simp[e]
   have b:decide (q.1≠k)=true:=by simp[e']
   rw[XY a,XY b];exact .cons ⟨h1,h2⟩ ih
def KV.length (r:KV kvs vs):kvs.length=vs.length:=Paired.length r
def pz (kvs:List (κ×V))(k:κ):(L0 kvs k).length<=kvs.length:=List.length_filter_le _ _
end
def Nk {k:Jb}(r:Yh (kV k) u):(Jq P w).is k u=true:=by
 cases k with
 | inl i=>obtain⟨t,e⟩:=(show ∃t,u=Value.int i t from r);subst e;exact yK P w i t
 | inr x=>obtain⟨t,e⟩:=(show ∃t,u=Value.str x t from r);subst e;exact yJ P w x t
def Cj:∀{ks:List Jb} {us:List WQ},Yd (ks.map kV) us->ItemsAre (Jq P w) ks us
 | [],_,r=>by rw[TL] at r;cases r;exact .nil
 | k::ks,_,r=>by
  rw[YI] at r
  cases r with
  | cons h t=>exact .cons (Nk h) (Cj t)
abbrev KT (H:Hp):List (List Jb×V)->List (List Jb×WP×WQ)->Prop:=Paired λp q=>p.1=q.1/\H q.2.1=some (.tup (p.1.map kV))/\Yh p.2 q.2.2
def KT.val (r:KT H kvs xs)(k:List Jb):Qj (Sh kvs k) ((atKey xs k).map (·.2)):=by
 induction r with
 | nil=>exact True.intro
 | @cons p q ps qs h t ih=>
  obtain⟨h1,_,h2⟩:=h;by_cases e:p.1=k
  ·have e':q.1=k:=h1.symm.trans e;have b:atKey (q::qs) k=some q.2:=by simp[atKey,List.find?_cons,e']
   rw[Mr e,b];exact h2
  ·have e':¬q.1=k:=λz=>e (h1.trans z);have b:atKey (q::qs) k=atKey qs k:=by simp[atKey,List.find?_cons,e']
   rw[Mt e,b];exact ih
def KT.repl (r:KT H kvs xs)(k:List Jb)(ry:Yh y u):
  KT H (kvs.map λkv=>if kv.1=k then(kv.1,y) else kv) (xs.map (putAt k u)):=by
 induction r with
 | nil=>exact .nil
 | @cons p q ps qs h t ih=>
  rw[YI,YI];refine .cons ?_ ih;obtain⟨h1,h2,h3⟩:=h;unfold putAt;by_cases e:p.1=k
  ·rw[XY e,XY (h1.symm.trans e)];exact⟨h1,h2,ry⟩
  ·rw[XX e,XX (λz=>e (h1.trans z))];exact⟨h1,h2,h3⟩
def KT.put (r:KT H kvs xs)(k:List Jb)(hb:H b=some (.tup (k.map kV)))(ry:Yh y u):
  KT H (Up kvs k y) (storedH xs k b u):=by
 have e:(kvs.any λkv=>decide (kv.1=k))=(atKey xs k).isSome:=by
  rw[zS,(r.val k).isSome_eq,SQ]
 unfold Up storedH;rw[e];by_cases q:(atKey xs k).isSome=true
 ·rw[XY q,XY q];exact r.repl k ry
 ·rw[XX q,XX q];exact Paired.snoc r ⟨VS,hb,ry⟩
def KT.keeps {H H':Hp}(r:KT H kvs xs)(ht:∀b ys,H b=some (.tup ys)->H' b=some (.tup ys)):KT H' kvs xs:=
 Paired.mapP r λ_ _ z=>⟨z.1,ht _ _ z.2.1,z.2.2⟩
section
variable {P:WO}{w:WN}{H:Hp}{h:WU}{a:WP}
def lQ (ok:Ro P w H h)(e:Rd H a u):X1 P w H h a u:=e.ok ok
def Nl (ok:Ro P w H h)(e:Rd H a (.dK kvs)):kvs.length<=sizeLine/\(a==sysModules)=false/\∃vs,KV kvs vs/\h.DictOf (Jq P w) a vs:=
 show X1 P w H h a (.dK kvs) from lQ ok e
def vE (ok:Ro P w H h)(e:H a=some (.dK kvs)):kvs.length<=sizeLine/\(a==sysModules)=false/\∃vs,KV kvs vs/\h.DictOf (Jq P w) a vs:=Nl ok (.inl e)
def Kr {ks:List Jb}(ok:Ro P w H h)(e:H a=some (.tup (ks.map kV))):(tupleKind (Jq P w)).is h ks a:=by
 obtain⟨_,its,r,o,h1,h2,n,h3⟩:=(show X1 P w H h a (.tup (ks.map kV)) from ok a _ e);exact⟨o,its.toArray,n,h1,h2,h3,by simpa using Cj r⟩
def Fl (ok:Ro P w H h)(e:Rd H a (.dT kvs)):kvs.length<=sizeLine/\(a==sysModules)=false/\
  ∃xs,KT H kvs xs/\h.DictOfH (tupleKind (Jq P w)) a xs:=by
 obtain⟨z,y,xs,r,o,es,ep,h1,h2,h3,h4,h5⟩:=(show X1 P w H h a (.dT kvs) from lQ ok e);refine⟨z,y,xs,r,o,es,ep,h1,h2,h3,h4,λx hx=>?_,h5⟩;have all:∀{l:List (List Jb×V)} {m:List (List Jb×WP×WQ)},KT H l m->∀x∈m,(tupleKind (Jq P w)).is h x.1 x.2.1:=by
  intro l m q
  induction q with
  | nil=>intro x hx;exact nomatch hx
  | @cons p q ps qs hq t ih=>
   intro x hx
   rcases QD.mp hx with e | hx
   ·subst e;exact Kr ok (by rw[<-hq.1];exact hq.2.1)
   ·exact ih x hx
 exact all r x hx
def cy (ok:Ro P w H h)(e:H a=some (.dT kvs)):kvs.length<=sizeLine/\(a==sysModules)=false/\
  ∃xs,KT H kvs xs/\h.DictOfH (tupleKind (Jq P w)) a xs:=Fl ok (.inl e)
end
def Dq (H:Hp)(a:WP)(y:V)(r:Option V):Prop:=
 (∃kvs k,Rd H a (.dK kvs)/\y=kV k/\r=Sh kvs k)\/∃kvs k b,Rd H a (.dT kvs)/\y=.ref b/\H b=some (.tup (k.map kV))/\r=Sh kvs k
def tD (H:Hp)(a:WP)(y v:V)(H':Hp):Prop:=
 (∃kvs k,H a=some (.dK kvs)/\y=kV k/\kvs.length<sizeLine/\H'=J7 H a (.dK (Up kvs k v)))\/
 ∃kvs k b,H a=some (.dT kvs)/\y=.ref b/\H b=some (.tup (k.map kV))/\kvs.length<sizeLine/\H'=J7 H a (.dT (Up kvs k v))
def tD.k {H:Hp}{k:Jb}(e:H a=some (.dK kvs))(hl:kvs.length<sizeLine):tD H a (kV k) v (J7 H a (.dK (Up kvs k v))):=.inl ⟨kvs,k,e,VS,hl,VS⟩
section
variable {X:Cx}{WZ:List (WP×Obj)}{σ:St}{H:Hp}{s:WR}{a:WP}{y v:V}{u r:WQ}{o:Option V}{A:WM}{E:WQ->WR->Prop}
def Z7.big (I:Z7 X WZ σ H s):sysModules<s.heap.objs.size:=by
 have h:mainGlobals<s.heap.objs.size:=(I.mod.glob.keeps I.bk).lt;exact Nat.lt_trans (by decide) h
def uR {Q:WQ->WR->Prop}(hu:A.units+1<cLine)(I:Z7 X WZ σ H s)(g:Dq H a y (some v))(ry:Yh y u)(h:∀w' s',Z7 X WZ σ H s'->Yh v w'->Q w' s'):
  wpAny (model X.prog X.w) A (getItem (.ref a) u) Q E s:=by
 rcases g with⟨kvs,k,e,ey,l⟩ | ⟨kvs,k,b,e,ey,eb,l⟩
 ·subst ey;obtain⟨z,hd,vs,rel,dd⟩:=Nl I.hok e;obtain⟨w',hw,rw'⟩:=Qj.some_of (v:=v) (o:=valueAt vs k) (by rw[l];exact rel.val k);exact wpAny_getItem_of (Nk ry) dd.mapOf hw (h w' _ (I.tok _) rw')
 ·subst ey
  cases (show u=Value.ref b from ry)
  obtain⟨z,hd,xs,rel,dd⟩:=Fl I.hok e;obtain⟨w',hw,rw'⟩:=Qj.some_of (v:=v) (o:=(atKey xs k).map (·.2)) (by rw[l];exact rel.val k);obtain⟨p,hp,hp2⟩:=QX.mp hw;refine wpAny_getItem_heap (tupleKind_room_in1 hu) (Kr I.hok eb) dd hp ?_;rw[hp2];exact h w' _ (I.tok _) rw'
def ay {Q:WQ->WR->Prop}(hu:A.units+1<cLine)(I:Z7 X WZ σ H s)(g:Dq H a y o)(ry:Yh y u)(h:∀s',Z7 X WZ σ H s'->Q (.bool o.isSome) s'):
  wpAny (model X.prog X.w) A (compareOp .In u (.ref a)) Q E s:=by
 rcases g with⟨kvs,k,e,ey,l⟩ | ⟨kvs,k,b,e,ey,eb,l⟩
 ·subst ey;obtain⟨z,hd,vs,rel,dd⟩:=Nl I.hok e;refine wpAny_in_of (Nk ry) hd dd.mapOf ?_;rw[<-(rel.val k).isSome_eq,<-l];exact h _ (I.tok _)
 ·subst ey
  cases (show u=Value.ref b from ry)
  obtain⟨z,hd,xs,rel,dd⟩:=Fl I.hok e;refine wpAny_in_heap (tupleKind_room_in1 hu) (Kr I.hok eb) hd dd ?_;have q:=(rel.val k).isSome_eq;rw[SQ] at q;rw[<-q,<-l];exact h _ (I.tok _)
def mU {Q:WQ->WR->Prop}(hu:A.units+1<cLine)(I:Z7 X WZ σ H s)(g:Dq H a y o)(ry:Yh y u)(h:∀s',Z7 X WZ σ H s'->Q (.bool (!o.isSome)) s'):
  wpAny (model X.prog X.w) A (compareOp .NotIn u (.ref a)) Q E s:=by
 rcases g with⟨kvs,k,e,ey,l⟩ | ⟨kvs,k,b,e,ey,eb,l⟩
 ·subst ey;obtain⟨z,hd,vs,rel,dd⟩:=Nl I.hok e;refine wpAny_notIn_of (Nk ry) hd dd.mapOf ?_;rw[<-(rel.val k).isSome_eq,<-l];exact h _ (I.tok _)
 ·subst ey
  cases (show u=Value.ref b from ry)
  obtain⟨z,hd,xs,rel,dd⟩:=Fl I.hok e;refine wpAny_notIn_heap (tupleKind_room_in1 hu) (Kr I.hok eb) hd dd ?_;have q:=(rel.val k).isSome_eq;rw[SQ] at q;rw[<-q,<-l];exact h _ (I.tok _)
def Hl {t':Nat}(I:Z7 X WZ σ H s)(mu:cV (H a))(hs:Heap.SameBut a s.heap h')(he:∃q,h'.get? a=some q)(new:X1 X.prog X.w (J7 H a ob) h' a ob):
  Z7 X WZ σ (J7 H a ob) {s with heap:=h',toks:=t'}:=
 I.write (x:=a) (e:=a) mu (.inl VS) (λb q hb z=>(hs.2 b hb).trans z) he new
def Fo {H':Hp}{h':WU}{kvs:List (Jb×V)}(z:kvs.length<=sizeLine)(hd:(a==sysModules)=false)(rel:KV kvs vs)(dd:h'.DictOf (Jq P w) a vs):
  X1 P w H' h' a (.dK kvs):=⟨z,hd,vs,rel,dd⟩
def uQ {Q:Unit->WR->Prop}(hu:A.units+1<cLine)(I:Z7 X WZ σ H s)(g:tD H a y v H')(ry:Yh y u)(rv:Yh v r)(h:∀s',Z7 X WZ σ H' s'->Q () s'):
  wpAny (model X.prog X.w) A (setItem (.ref a) u r) Q E s:=by
 rcases g with⟨kvs,k,e,ey,l,eH⟩ | ⟨kvs,k,b,e,ey,eb,l,eH⟩
 ·subst ey eH;obtain⟨z,hd,vs,rel,dd⟩:=vE I.hok e;have hz:vs.length<=sizeLine:=by rw[<-rel.length];exact z
  have hl:(Up kvs k v).length<=sizeLine:=by have:=Oa kvs k v;omega
  refine wpAny_setItem_pairs (hsz:=hz) (Nk ry) dd λh' dd' hs=>h _ ?_;have he:∃q,h'.get? a=some q:=let ⟨q,_,_,hq,_⟩:=dd';⟨q,hq⟩
  exact Hl I (by rw[e];exact True.intro) hs he (Fo hl hd (rel.put k rv) dd')
 ·subst ey eH
  cases (show u=Value.ref b from ry)
  obtain⟨z,hd,xs,rel,dd⟩:=cy I.hok e;have hz:xs.length<=sizeLine:=by rw[<-Paired.length rel];exact z
  have hl:(Up kvs k v).length<=sizeLine:=by have:=Oa kvs k v;omega
  refine wpAny_setItem_heap (hsz:=hz) (tupleKind_room_in1 hu) (Kr I.hok eb) dd λh' dd' hs=>h _ ?_;obtain⟨q,es,ep,hq,h2,h3,h4,_,h5⟩:=dd';refine Hl I (by rw[e];exact True.intro) hs ⟨q,hq⟩ ⟨hl,hd,_,(rel.put k eb rv).keeps λc ys ec=>?_,q,es,ep,hq,h2,h3,h4,h5⟩;rw[Yi (dU ec e (λz=>nomatch z))];exact ec
end
section
variable {X:Cx}{WZ:List (WP×Obj)}{σ:St}{H:Hp}{s:WR}{a:WP}{kvs:List (Jb×V)}{k:Jb}{u:WQ}{A:WM}{E:WQ->WR->Prop}
def cz {more:List WQ}{Q:WQ->WR->Prop}(I:Z7 X WZ σ H s)(e:H a=some (.dK kvs))(ry:Yh (kV k) u)(l:Sh kvs k=some v)(hm:more=[]\/∃x,more=[x])
  (h:∀w' s',Z7 X WZ σ (J7 H a (.dK (L0 kvs k))) s'->Yh v w'->Q w' s'):wpAny (model X.prog X.w) A (call (.builtin "dict.pop") (.ref a::u::more)) Q E s:=by
 obtain⟨z,hd,vs,rel,dd⟩:=vE I.hok e;obtain⟨w',hw,rw'⟩:=Qj.some_of (v:=v) (o:=valueAt vs k) (by rw[<-l];exact rel.val k);have hp:(keyPart u).isSome=true:=by
  cases k with
  | inl i=>obtain⟨t,q⟩:=(show ∃t,u=Value.int i t from ry);subst q;rfl
  | inr x=>obtain⟨t,q⟩:=(show ∃t,u=Value.str x t from ry);subst q;rfl
 have ha:argsOk "dict.pop" ⟨.ref a::u::more,[]⟩:=by
  rcases hm with q | ⟨x,q⟩
  ·subst q;exact PySem.F.args_dict_pop_2 _ _
  ·subst q;exact PySem.F.args_dict_pop_3 _ _ _
 refine call_meetsIn TD dd.typeIs PySem.F.entry_dict_pop ha (meets_dict_pop_there (Jq X.prog X.w) a (Nk ry) more hm hp)
  ⟨vs,w',dd,by rw[<-rel.length];exact z,hw,λh' dd' hs=>h w' _ ?_ rw'⟩
 have he:∃q,h'.get? a=some q:=let ⟨q,_,_,hq,_⟩:=dd';⟨q,hq⟩
 exact Hl I (by rw[e];exact True.intro) hs he (Fo (XN (pz kvs k) z) hd (rel.drop k) dd')
def gK {Q:WQ->WR->Prop}(I:Z7 X WZ σ H s)(e:H a=some (.dK kvs))(ry:Yh (kV k) u)(l:Sh kvs k=none)(h:∀s',Z7 X WZ σ H s'->Q r s'):
  wpAny (model X.prog X.w) A (call (.builtin "dict.pop") [.ref a,u,r]) Q E s:=by
 obtain⟨z,hd,vs,rel,dd⟩:=vE I.hok e;have hn:valueAt vs k=none:=Qj.none_of (by rw[<-l];exact rel.val k);have hp:(keyPart u).isSome=true:=by
  cases k with
  | inl i=>obtain⟨t,q⟩:=(show ∃t,u=Value.int i t from ry);subst q;rfl
  | inr x=>obtain⟨t,q⟩:=(show ∃t,u=Value.str x t from ry);subst q;rfl
 exact call_meetsIn TD dd.typeIs PySem.F.entry_dict_pop (PySem.F.args_dict_pop_3 _ _ _) (meets_dict_pop_default (Jq X.prog X.w) a (Nk ry) hd hp r) ⟨vs,dd,hn,h _ (I.tok _)⟩
end
def fi (i:WW):Prop:=∀ov iv,subscripted i false ov iv=operate [ov,iv] (getItem ov iv)
def oM {prog:WO}{w:WN}{A:WM}{E:WQ->WR->Prop}{s:WR}{env:Env}{value slice:WW}{pos:Pos}{T id:String}{Q:WQ->WR->Prop}
  (hl:typeLookup (.type T) "__getitem__"=pure (some (.builtin id))) (hs:fi slice)
  (h:wpAny (model prog w) A (eval value env) (λo s₁=>wpAny (model prog w) A (eval slice env) (λi s₂=>s₂.TypeIs o T/\wpAny (model prog w) A (getItem o i) Q E s₂) E s₁) E s):
  wpAny (model prog w) A (eval (.Subscript value slice pos) env) Q E s:=by
 refine Subscript_ (wpAny_mono h (λo s₁ h₁=>wpAny_mono h₁ (λi s₂ h₂=>?_) λ_ _ x=>x) λ_ _ x=>x);obtain⟨hT,h₂⟩:=h₂;unfold subscriptTail;refine XA ?_;rw[getitemInPython_of_ne hT.not_modules];refine XA (wpAny_specialOf hT hl ?_);have fin:wpAny (model prog w) A (subscripted slice false o i) (λr s₃=>wpAny (model prog w) A (letTemporaryGo value o r>>=λ_=>pure r) Q E s₃) E s₂:=by
  rw[hs o i];exact wpAny_operating (wpAny_mono h₂ (λr s₃ h₃=>XA (wpAny_letTemporaryGo (XB h₃))) λ_ _ x=>x)
 first
  | exact XB (XA fin)
  | exact XA (XB (XA fin))
  | exact XA fin
def jv (I:Z7 X WZ σ H s)(g:Dq H a y o):s.TypeIs (.ref a) "dict":=by
 rcases g with⟨kvs,k,e,_,_⟩ | ⟨kvs,k,b,e,_,_,_⟩
 ·obtain⟨_,_,vs,_,dd⟩:=Nl I.hok e;exact dd.typeIs
 ·obtain⟨_,_,xs,_,dd⟩:=Fl I.hok e;exact dd.typeIs
def eK (td ty:TE):TE:=λσ H Q=>td σ H λx H1=>ty σ H1 λy H2=>∃a v,x=.ref a/\Dq H2 a y (some v)/\Q v H2
def Za5 (ty td:TE):TE:=λσ H Q=>ty σ H λy H1=>td σ H1 λx H2=>∃a o,x=.ref a/\Dq H2 a y o/\Q (.bl o.isSome) H2
def Zaf (td ty tv:TE):TS:=λD σ H=>tv σ H λv H1=>td σ H1 λx H2=>ty σ H2 λy H3=>∃a H4,x=.ref a/\tD H3 a y v H4/\D.nx σ H4
def Zah (td ty tv:TE)(rd:V->V->Hp->VK->Prop):TS:=λD σ H=>td σ H λx H1=>ty σ H1 λy H2=>∃a v,x=.ref a/\Dq H2 a y (some v)/\
 tv σ H2 λy2 H3=>rd v y2 H3 λz H4=>∃H5,tD H4 a y z H5/\D.nx σ H5
def Zag (td ty:TE):TS:=λD σ H=>td σ H λx H1=>ty σ H1 λy H2=>∃a kvs k,x=.ref a/\H2 a=some (.dK kvs)/\y=kV k/\(Sh kvs k).isSome=true/\D.nx σ (J7 H2 a (.dK (L0 kvs k)))
section
variable {X:Cx}{o i e value:WW}{pos pos' tpos:Pos}{td ty tv:TE}
def nV (hu:X.A.units+1<cLine)(ho:PE X o td)(hi:PE X i ty)(hs:fi i):PE X (.Subscript o i pos) (eK td ty):=by
 intro WZ s σ H Q I h;refine oM PySem.F.slot_dict_getitem.lookup hs (J5 (ho WZ s σ H _ I h) λu s1 ⟨x,H1,I1,rx,q1⟩=>J5 (hi WZ s1 σ H1 _ I1 q1) λiv s2 ⟨y,H2,I2,ry,a,v,ex,g,q2⟩=>?_);subst ex;obtain rfl:u=Value.ref a:=rx;exact⟨jv I2 g,uR hu I2 g ry λw' s3 I3 rw'=>⟨v,H2,I3,rw',q2⟩⟩
end
def ju (h:WU)(hb:sysModules<h.objs.size):X1 P w H (h.push {cls:=.type "dict",data:=.dict #[]}) h.objs.size (.dK []):=
 ⟨XO _,beq_eq_false_iff_ne.mpr (Ne.symm (XH hb)),[],.nil,Heap.DictOf.new h⟩
def kP:TE:=λ_ H Q=>∀p,H p=none->Q (.ref p) (J7 H p (.dK []))
section
variable {X:Cx}{pos:Pos}
def rP:PE X (.Dict [] [] pos) kP:=λWZ s σ H Q I h=>
 wpAny_Dict_empty ⟨.ref s.heap.objs.size,_,I.laid (a:=s.heap.objs.size) (o:=.dK []) (t':=s.toks) (λ_ _ q=>XC _ q) (XE _) (ju s.heap I.big),VS,h _ (I.hok.fresh (XE _))⟩
end
def jW:List (TE×TE)->St->Hp->(List (V×V)->Hp->Prop)->Prop
 | [],_,H,Q=>Q [] H
 | (tk,tv)::r,σ,H,Q=>tk σ H λx H1=>tv σ H1 λy H2=>jW r σ H2 λps H3=>Q ((x,y)::ps) H3
abbrev VV:List (V×V)->List (WQ×WQ)->Prop:=Paired λp q=>Yh p.1 q.1/\Yh p.2 q.2
def bo (X:Cx)(pos:Pos)(keys:List (Option WW))(values:List WW)(trs:List (TE×TE)):Prop:=
 ∀(WZ:List (WP×Obj)) (s:WR) (σ:St) (H:Hp) (Q:List (V×V)->Hp->Prop),Z7 X WZ σ H s->jW trs σ H Q->
  wpAny (model X.prog X.w) X.A (evalPairs (pairTrees keys values X.env pos)) (λvs s'=>∃ps H',Z7 X WZ σ H' s'/\VV ps vs/\Q ps H') X.xe s
def nM:bo X pos [] [] []:=λWZ s σ H Q I h=>pairTrees_nil_walk ⟨[],H,I,.nil,h⟩
def rG {k v:WW}(hk:PE X k tk)(hv:PE X v tv)(hr:bo X pos ks vs trs):
  bo X pos (some k::ks) (v::vs) ((tk,tv)::trs):=λWZ s σ H Q I h=>
 pairTrees_cons_walk (J5 (hk WZ s σ H _ I h) λu s1 ⟨x,H1,I1,rx,q1⟩=>J5 (hv WZ s1 σ H1 _ I1 q1) λw2 s2 ⟨y,H2,I2,ry,q2⟩=>
  J5 (hr WZ s2 σ H2 _ I2 q2) λws s3 ⟨ps,H3,I3,rel,q3⟩=>⟨(x,y)::ps,H3,I3,.cons ⟨rx,ry⟩ rel,q3⟩)
def G3 (kvs more:List (Jb×V)):List (Jb×V):=more.foldl (λacc kv=>Up acc kv.1 kv.2) kvs
def KV.merge:∀{more:List (Jb×V)} {rs:List (Jb×WQ)} {kvs:List (Jb×V)} {vs:List (Jb×WQ)},KV more rs->KV kvs vs->KV (G3 kvs more) (merged vs rs):=by
 intro more rs kvs vs r;unfold KV at r
 induction r generalizing kvs vs with
 | nil=>intro q;exact q
 | @cons p q ps qs h t ih=>
  intro r0;have e:KV (Up kvs p.1 p.2) (stored vs q.1 q.2):=by
   have:=r0.put p.1 h.2;rw[<-h.1];exact this
  exact ih e
def Ni:∀(more kvs:List (Jb×V)),(G3 kvs more).length<=kvs.length+more.length
 | [],kvs=>by show kvs.length<=kvs.length+0;omega
 | p::r,kvs=>by
  have h1:=Ni r (Up kvs p.1 p.2);have h2:=Oa kvs p.1 p.2;show(G3 (Up kvs p.1 p.2) r).length<=_;rw[YF];omega
def Fx:∀{kvs:List (Jb×V)} {ws:List (WQ×WQ)},VV (kvs.map λkv=>(kV kv.1,kv.2)) ws->∃rs,Carries (Jq P w) ws rs/\KV kvs rs
 | [],_,r=>by rw[TL] at r;cases r;exact⟨[],True.intro,.nil⟩
 | p::kvs,_,r=>by
  rw[YI] at r
  cases r with
  | @cons a b as bs h t=>
   obtain⟨rs,c,q⟩:=Fx (P:=P) (w:=w) t;obtain⟨b1,b2⟩:=b;exact⟨(p.1,b2)::rs,⟨Nk h.1,VS,c⟩,.cons ⟨VS,h.2⟩ q⟩
def eI (trs:List (TE×TE)):TE:=λσ H Q=>∀p,H p=none->jW trs σ (J7 H p (.dK [])) λps H2=>H2 p=some (.dK [])/\∃kvs:List (Jb×V),ps=kvs.map (λkv=>(kV kv.1,kv.2))/\kvs.length<=15/\Q (.ref p) (J7 H2 p (.dK (G3 [] kvs)))
def nT (h:bo X pos keys values trs)(hall:keys.all (·.isSome)=true)(hl:keys.length=values.length)(h0:keys≠[])
  (h15:keys.length<=15):PE X (.Dict keys values pos) (eI trs):=by
 intro WZ s σ H Q I q;have hn:=I.hok.fresh (XE s.heap.objs.size);have I1:=I.laid (a:=s.heap.objs.size) (o:=.dK []) (h':=s.heap.push {cls:=.type "dict",data:=.dict #[]}) (t':=s.toks) (λ_ _ q=>XC _ q) (XE _) (ju s.heap I.big);refine wpAny_Dict_walk (knd:=Jq X.prog X.w) hall hl h0 h15 (J5 (h WZ _ σ _ _ I1 (q _ hn)) λws s2 ⟨ps,H2,I2,rel,e,kvs,ep,lk,q2⟩=>?_);subst ep;obtain⟨rs,c,rk⟩:=Fx (P:=X.prog) (w:=X.w) rel;obtain⟨z,hd,vs0,r0,dd⟩:=vE I2.hok e
 cases r0
 refine⟨rs,c,dd,λh' dd' hs=>⟨.ref s.heap.objs.size,_,?_,VS,q2⟩⟩;have hz:(G3 [] kvs).length<=sizeLine:=by
  have h1:=Ni kvs [];rw[TM] at h1;rw[sizeLine_eq];omega
 have he:∃q,h'.get? s.heap.objs.size=some q:=let ⟨q,_,_,hq,_⟩:=dd';⟨q,hq⟩
 exact Hl I2 (by rw[e];exact True.intro) hs he (Fo hz hd (rk.merge .nil) dd')
structure M1 (X:Cx)(o:Expr)(m:Str)(apos:Pos)(e:Expr)(cpos:Pos):Prop where
 base:attributeBase o m X.env (eval o X.env)=eval o X.env
 few:((backTo cpos (starEach [e] X.env)).all (λx=>!x.1)&&(backToKw cpos (keywordEach [] X.env)).all (λx=>x.1.isSome)
  &&decide (([e]:List WW).length+([]:List Keyword).length+(if ([]:List Keyword).isEmpty then 0 else 1)<30))=true
 line:(apos.endLine==cpos.line)=true
 trees:backTo cpos (starEach [e] X.env)=[(false,eval e X.env)]
structure M2 (X:Cx)(o:Expr)(m:Str)(apos:Pos)(e f:Expr)(cpos:Pos):Prop where
 base:attributeBase o m X.env (eval o X.env)=eval o X.env
 few:((backTo cpos (starEach [e,f] X.env)).all (λx=>!x.1)&&(backToKw cpos (keywordEach [] X.env)).all (λx=>x.1.isSome)
  &&decide (([e,f]:List WW).length+([]:List Keyword).length+(if ([]:List Keyword).isEmpty then 0 else 1)<30))=true
 line:(apos.endLine==cpos.line)=true
 trees:backTo cpos (starEach [e,f] X.env)=[(false,eval e X.env),(false,eval f X.env)]
def bu (H:Hp)(a:WP):Prop:=(∃kvs,Rd H a (.dK kvs))\/∃kvs,Rd H a (.dT kvs)
def qL (I:Z7 X WZ σ H s)(d:bu H a):
  s.TypeIs (.ref a) "dict"/\(∀b,Value.ref a=.ref b->∃ob,s.heap.get? b=some ob/\ob.dict=none)/\(a==sysModules)=false:=by
 rcases d with⟨kvs,e⟩ | ⟨kvs,e⟩
 ·obtain⟨_,hd,vs,_,dd⟩:=Nl I.hok e;refine⟨dd.typeIs,λb q=>?_,hd⟩
  cases q
  obtain⟨ob,_,_,h1,h2,_⟩:=dd;exact⟨ob,h1,h2.2.1⟩
 ·obtain⟨_,hd,xs,_,dd⟩:=Fl I.hok e;refine⟨dd.typeIs,λb q=>?_,hd⟩
  cases q
  obtain⟨ob,_,_,h1,h2,_⟩:=dd;exact⟨ob,h1,h2.2.1⟩
section
variable {X:Cx}{WZ:List (WP×Obj)}{σ:St}{H:Hp}{s:WR}{a:WP}{y d:V}{u r:WQ}{o:Option V}{A:WM}{E:WQ->WR->Prop}
def gM {Q:WQ->WR->Prop}(hu:A.units+1<cLine)(I:Z7 X WZ σ H s)(g:Dq H a y o)(ry:Yh y u)(h:∀w' s',Z7 X WZ σ H s'->Yh (o.getD .non) w'->Q w' s'):
  wpAny (model X.prog X.w) A (call (.builtin "dict.get") [.ref a,u]) Q E s:=by
 rcases g with⟨kvs,k,e,ey,l⟩ | ⟨kvs,k,b,e,ey,eb,l⟩
 ·subst ey;obtain⟨z,hd,vs,rel,dd⟩:=Nl I.hok e;refine call_meetsIn TF dd.typeIs PySem.F.entry_dict_get (PySem.F.args_dict_get_2 _ _) (meets_dict_get (Jq X.prog X.w) a (Nk ry) hd) ⟨_,dd.mapOf,h _ _ (I.tok _) ?_⟩;rw[l];exact(rel.val k).getD VS
 ·subst ey
  cases (show u=Value.ref b from ry)
  obtain⟨z,hd,xs,rel,dd⟩:=Fl I.hok e;refine call_meetsIn TF dd.typeIs PySem.F.entry_dict_get (PySem.F.args_dict_get_2 _ _) (meetsH_dict_get (tupleKind (Jq X.prog X.w)) a b hd) ⟨tupleKind_room_in1 hu,k,xs,Kr I.hok eb,dd,h _ _ (I.tok _) ?_⟩;rw[l];exact(rel.val k).getD VS
end
def kQ (td ty:TE):TE:=λσ H Q=>td σ H λx H1=>∃a,x=.ref a/\bu H1 a/\ty σ H1 λy H2=>∃o,Dq H2 a y o/\Q (o.getD .non) H2
def bE (td ty:TE):TE:=λσ H Q=>td σ H λx H1=>∃a,x=.ref a/\bu H1 a/\ty σ H1 λy H2=>∃kvs k v,H2 a=some (.dK kvs)/\y=kV k/\Sh kvs k=some v/\Q v (J7 H2 a (.dK (L0 kvs k)))
def kO (td ty tx:TE):TE:=λσ H Q=>td σ H λx H1=>∃a,x=.ref a/\bu H1 a/\ty σ H1 λy H2=>tx σ H2 λz H3=>∃kvs k,H3 a=some (.dK kvs)/\y=kV k/\
 (∀v,Sh kvs k=some v->Q v (J7 H3 a (.dK (L0 kvs k))))/\(Sh kvs k=none->Q z H3)
section
variable {X:Cx}{o e f:WW}{apos cpos:Pos}{td ty tx:TE}
def rQ (hu:X.A.units+1<cLine)(ho:PE X o td)(he:PE X e ty)(m:M1 X o "get" apos e cpos):PE X (.Call (.Attribute o "get" apos) [e] [] cpos) (kQ td ty):=by
 intro WZ s σ H Q I h;refine wpAny_Call_method m.base m.few m.line PySem.F.plainAttrs_dict TF PySem.F.type_dict_get (J5 (ho WZ s σ H _ I h) λu s1 ⟨x,H1,I1,rx,a,ex,d,q1⟩=>?_);subst ex;obtain rfl:u=Value.ref a:=rx;obtain⟨t1,t2,_⟩:=qL I1 d;refine⟨t1,t2,?_⟩;rw[m.trees];refine QW VS (RK (QH (J5 (he WZ s1 σ H1 _ I1 q1) λiv s2 ⟨y,H2,I2,ry,ov,g,q2⟩=>RH ?_)));exact gM hu I2 g ry λw' s3 I3 rw'=>⟨_,H2,I3,rw',q2⟩
def rO (ho:PE X o td)(he:PE X e ty)(hf:PE X f tx)(m:M2 X o "pop" apos e f cpos):PE X (.Call (.Attribute o "pop" apos) [e,f] [] cpos) (kO td ty tx):=by
 intro WZ s σ H Q I h;refine wpAny_Call_method m.base m.few m.line PySem.F.plainAttrs_dict TD PySem.F.type_dict_pop (J5 (ho WZ s σ H _ I h) λu s1 ⟨x,H1,I1,rx,a,ex,d,q1⟩=>?_);subst ex;obtain rfl:u=Value.ref a:=rx;obtain⟨t1,t2,_⟩:=qL I1 d;refine⟨t1,t2,?_⟩;rw[m.trees];refine QW VS (RK (QH (J5 (he WZ s1 σ H1 _ I1 q1) λiv s2 ⟨y,H2,I2,ry,q2⟩=>
  QH (J5 (hf WZ s2 σ H2 _ I2 q2) λfv s3 ⟨z,H3,I3,rz,kvs,k,ea,ey,q3,q4⟩=>RH ?_))))
 subst ey
 cases l:Sh kvs k with
 | some v=>exact cz I3 ea ry l (.inr ⟨fv,VS⟩) λw' s4 I4 rw'=>⟨v,_,I4,rw',q3 v l⟩
 | none=>exact gK I3 ea ry l λs4 I4=>⟨z,H3,I4,rz,q4 l⟩
end
section
variable {X:Cx}{WZ:List (WP×Obj)}{σ:St}{H:Hp}{s:WR}{a:WP}{kvs:List (Jb×V)}{A:WM}{E:WQ->WR->Prop}
def pF {Q:WQ->WR->Prop}(I:Z7 X WZ σ H s)(e:Rd H a (.dK kvs))(h:∀p s',H p=none->Z7 X WZ σ (J7 H p (.dK kvs)) s'->Q (.ref p) s'):wpAny (model X.prog X.w) A (call (.type "dict") [.ref a]) Q E s:=by
 obtain⟨z,hd,vs,rel,dd⟩:=Nl I.hok e;refine kt_call_dict hd dd (by rw[<-rel.length];exact z) λh' dd' hs=>?_;refine h _ _ (I.hok.fresh (XE _)) (I.laid (a:=s.heap.objs.size) (o:=.dK kvs) (t':=s.toks) (λb q hq=>?_) (XE _) (Fo z (beq_eq_false_iff_ne.mpr (Ne.symm (XH I.big))) rel dd'));exact(hs.2 b (XH (XD hq))).trans (XC _ hq)
end
section
variable {X:Cx}{WZ:List (WP×Obj)}{σ:St}{H:Hp}{s:WR}{a:WP}{y:V}{u:WQ}{A:WM}{E:WQ->WR->Prop}
end
end L2
namespace WL
open PySem PySem.Spec PyProof.Rows L2
def Ka (c:WT)(b:WS)(D:We):Nat->Sw->Hw->Prop
 | 0,_,_=>False
 | n+1,τ,C=>c τ C (λk C1=>if k=true then b {D with nx:=Ka c b D n,ct:=Ka c b D n,bk:=D.nx} τ C1 else D.nx τ C1) D.xc
def Gg (c:WT)(b:WS):WS:=λD τ C=>∃n,Ka c b D n τ C
def uc {K:WY}(hc:Mi K c c')(hb:zH K tb b'):zH K (sn c tb) (Gg c' b'):=λF H C σ τ D D' R S h d=>by
 obtain⟨n,h⟩:=h;refine⟨λm σ H2=>∃τ C,Rl K F H2 C/\Tx H H2/\Ve K H2 σ τ/\Ka c' b' D' m τ C,⟨n,τ,C,R,Tx.refl _,S,h⟩,?_⟩;rintro m σ2 H2 ⟨τ2,C2,R2,t2,S2,h2⟩
 cases m with
 | zero=>exact h2.elim
 | succ m=>
  refine hc F H2 C2 σ2 τ2 _ _ D'.xc R2 S2 h2 λk H3 C3 R3 t3 h3=>?_
  cases k with
  | true=>
   refine⟨λσ' H'=>∃τ' C',Rl K F H' C'/\Tx H H'/\Ve K H' σ' τ'/\Ka c' b' D' m τ' C',λσ' H' z=>⟨m,RM m,z⟩,?_⟩;have t13:=t2.trans t3;exact hb F H3 C3 σ2 τ2 _ _ R3 (S2.tx t3) h3 ⟨λσ' τ' H' C' R' t' S' h'=>⟨τ',C',R',t13.trans t',S',h'⟩,λx v H' C' R' t'=>d.rt x v H' C' R' (t13.trans t'),λσ' τ' H' C' R' t' S' h'=>d.nx σ' τ' H' C' R' (t13.trans t') S' h',λσ' τ' H' C' R' t' S' h'=>⟨τ',C',R',t13.trans t',S',h'⟩⟩
  | false=>exact d.nx σ2 τ2 H3 C3 R3 (t2.trans t3) (S2.tx t3) h3
def jp {X:Cx}(hp:PassesOwn (model X.prog X.w) X.A X.env X.xe)(hc:vR X c wc)(hb:V2 X body b):Mj X (.While c body [] pos) (Gg wc b):=by
 obtain⟨t,p,s⟩:=hc;obtain⟨t',p',s'⟩:=hb;exact⟨_,rC hp p p',uc s s'⟩
def Dr {c:WT}{b:WS}{D:We}(Pv:Nat->Sw->Hw->Prop)(h0:Pv m τ C)
  (hs:∀m τ C (N:Sw->Hw->Prop),Pv m τ C->(∀m' τ' C',m'<m->Pv m' τ' C'->N τ' C')->c τ C (λk C1=>if k=true then b {D with nx:=N,ct:=N,bk:=D.nx} τ C1 else D.nx τ C1) D.xc):Gg c b D τ C:=by
 have key:∀(n m:Nat) (τ:Sw) (C:Hw),m<n->Pv m τ C->Ka c b D n τ C:=by
  intro n
  induction n with
  | zero=>intro m τ C h _;omega
  | succ n ih=>intro m τ C hm hp;exact hs m τ C _ hp λm' τ' C' hlt hp'=>ih m' τ' C' (by omega) hp'
 exact⟨m+1,key (m+1) m τ C (RM m) h0⟩
section
variable {X:Cx}{a b c e o i:WW}{es:List WW}{wa wb wc wo wi:WE}{wA:WA}{pos p p2 apos cpos:Pos}
def cH:List T->Hw->WK->Prop:=λvs C Q=>(∃i:Int,vs=[.int i]/\Q (.int i) C)\/∃k:Bool,vs=[.bl k]/\Q (.int (if k then 1 else 0)) C
def cF:Nm X (.type "int") cH:=⟨_,uW,λF H C xs vs Q Q' R rs h q=>by
 rcases h with⟨j,rfl,h⟩ | ⟨j,rfl,h⟩
 ·obtain⟨x,rfl,rx⟩:=Vd rs
  cases Yo rx
  exact .inl ⟨j,VS,q _ _ H C R (Tx.refl H) Xe h⟩
 ·obtain⟨x,rfl,rx⟩:=Vd rs
  cases P8 rx
  exact .inr ⟨j,VS,q _ _ H C R (Tx.refl H) Xe h⟩⟩
end
def kT:T->Option Jb
 | .int i=>some (.inl i)
 | .str x=>some (.inr x)
 | _=>none
def Wz (kvs:List (Jb×T))(k:Jb):Option T:=(kvs.find? λkv=>decide (kv.1=k)).map (·.2)
def Nx (kvs:List (Jb×T))(k:Jb)(v:T):List (Jb×T):=
 if (kvs.any λkv=>decide (kv.1=k))=true then kvs.map (λkv=>if kv.1=k then(kv.1,v) else kv) else kvs++[(k,v)]
def Oj {K:WY}{k:Jb}(h:kT v=some k)(r:Xh K H x v):x=kV k:=by
 cases v with
 | int i=>cases h;exact Yo r
 | str z=>cases h;exact Jy r
 | _=>cases h
def PR.get {K:WY}:∀{ks:List (Jb×V)} {kvs:List (Jb×T)} (_:PR K H ks kvs) (k:Jb),(Wz kvs k=none->Sh ks k=none)/\∀v,Wz kvs k=some v->∃x,Sh ks k=some x/\Xh K H x v
 | _,_,.nil,k=>⟨λ_=>rfl,λv h=>by cases h⟩
 | p::r,q::s,.cons h t,k=>by
  obtain⟨e,rp⟩:=h;have ih:=PR.get t k;by_cases c:q.1=k
  ·have c':p.1=k:=e.trans c;rw[Mr c'];unfold Wz;rw[List.find?_cons_of_pos (by simpa using c)];exact⟨(λz=>by cases z),(λv z=>by cases z;exact⟨p.2,VS,rp⟩)⟩
  ·have c':¬p.1=k:=λz=>c (e.symm.trans z);rw[Mt c'];unfold Wz;rw[List.find?_cons_of_neg (by simpa using c)];exact ih
def PR.any {K:WY}:∀{ks:List (Jb×V)} {kvs:List (Jb×T)} (_:PR K H ks kvs) (k:Jb),(ks.any λkv=>decide (kv.1=k))=kvs.any λkv=>decide (kv.1=k)
 | _,_,.nil,k=>rfl
 | p::r,q::s,.cons h t,k=>by rw[RY,RY,PR.any t k,h.1]
def PR.mapK {K:WY}{k:Jb}(rx:Xh K H x v):∀{ks:List (Jb×V)} {kvs:List (Jb×T)} (_:PR K H ks kvs),PR K H (ks.map λkv=>if kv.1=k then(kv.1,x) else kv) (kvs.map λkv=>if kv.1=k then(kv.1,v) else kv)
 | _,_,.nil=>.nil
 | p::r,q::s,.cons h t=>by
  refine .cons ?_ (PR.mapK rx t);obtain⟨e,rp⟩:=h;by_cases c:q.1=k
  ·have c':p.1=k:=e.trans c;dsimp only;rw[XY c,XY c'];exact⟨e,rx⟩
  ·have c':¬p.1=k:=λz=>c (e.symm.trans z);dsimp only;rw[XX c,XX c'];exact⟨e,rp⟩
def PR.put {K:WY}(h:PR K H ks kvs){k:Jb}(rx:Xh K H x v):PR K H (Up ks k x) (Nx kvs k v):=by
 unfold Up Nx;rw[PR.any h k]
 split
 ·exact PR.mapK rx h
 ·exact h.snoc ⟨VS,rx⟩
def PR.length {K:WY}(h:PR K H ks kvs):ks.length=kvs.length:=Paired.length h
section
variable {K:WY}{F H:Hp}{C:Hw}
def Rl.dic (R:Rl K F H C)(h:C a=some (.dic kvs)):∃ks,H a=some (.dK ks)/\PR K H ks kvs:=R.obj a _ h
def Rl.putD (R:Rl K F H C)(h:C p=some (.dic kvs))(r:PR K H ks' kvs'):Rl K F (J7 H p (.dK ks')) (up C p (.dic kvs'))/\Tx H (J7 H p (.dK ks')):=by
 obtain⟨w,hw,ns⟩:=(R.obj p _ h).some trivial;exact R.put h ⟨ks',Yy,Gi (Tx.put hw ns) r⟩
def Rl.newD (R:Rl K F H C)(h:H p=none)(r:PR K H ks kvs):Rl K F (J7 H p (.dK ks)) (up C p (.dic kvs)):=R.new h ⟨ks,Yy,Gi (Tx.new h) r⟩
end
def Kx:WE:=λ_ C Q _=>∀p,C p=none->Q (.ref p) (up C p (.dic []))
def ap (o i:WE):WG:=λv τ C Q χ=>o τ C (λx C1=>i τ C1 (λy C2=>∃a kvs k,x=.ref a/\kT y=some k/\C2 a=some (.dic kvs)/\kvs.length<sizeLine/\Q τ (up C2 a (.dic (Nx kvs k v)))) χ) χ
section
variable {X:Cx}{a b c e o i f:WW}{es:List WW}{wa wb wc wo wi wd:WE}{wA:WA}{pos p p2 apos cpos:Pos}
def zp:X0 X (.Dict [] [] pos) Kx:=⟨_,rP,λF H C σ τ Q Q' χ R S h q p hp=>q _ _ _ _ (R.newD hp .nil) (Tx.new hp) Xd (h p (R.free hp))⟩
def dq:V->V->V->Hp->(Hp->Prop)->Prop:=λo i v H Q=>∃p ks k,o=.ref p/\i=kV k/\H p=some (.dK ks)/\ks.length<sizeLine/\Q (J7 H p (.dK (Up ks k v)))
def sG (hu:X.A.units+150<cLine):cR X dq:=by
 intro WZ s σ H o i v ov iv u Q I ro ri rv h;obtain⟨p,ks,k,rfl,rfl,hp,hl,q⟩:=h
 cases ro
 exact uQ (by omega) I (tD.k hp hl) ri rv λs' I'=>⟨_,I',q⟩
def vG (hu:X.A.units+150<cLine)(ho:X0 X o wo)(hi:X0 X i wi)
  (ha:∀v,assign (.Subscript o i pos) X.env v=(do
   let ov <-holding [v] (eval o X.env)
   let iv <-holding [v,ov] (eval i X.env)
   standAt pos
   holding [v,ov,iv] (setItem ov iv v)
   release [v,ov,iv] []):=by intro _;rfl):fD X (.Subscript o i pos) (ap wo wi):=by
 obtain⟨t,p,s⟩:=ho;obtain⟨t',p',s'⟩:=hi;refine⟨_,i9 p p' (sG hu) ha,λF H C σ τ x v Q Q' χ R S r h q=>?_⟩;refine s F H C σ τ _ _ χ R S h λy vy H1 C1 R1 t1 ry h1=>?_;refine s' F H1 C1 σ τ _ _ χ R1 (S.tx t1) h1 λz vz H2 C2 R2 t2 rz h2=>?_;obtain⟨l,kvs,k,rfl,hk,hC,hl,h2⟩:=h2
 cases Yb ry
 obtain⟨ks,hH,pr⟩:=R2.dic hC;have t12:=t1.trans t2;obtain⟨R',t'⟩:=R2.putD hC (PR.put pr (k:=k) (r.tx t12));exact⟨l,ks,k,VS,Oj hk rz,hH,by rw[PR.length pr];exact hl,q _ _ _ _ R' (t12.trans t') (S.tx (t12.trans t')) h2⟩
def qT {K:WY}(pr:PR K H ks kvs)(k:Jb)(rx:Xh K H x v):Xh K H ((Sh ks k).getD x) ((Wz kvs k).getD v):=by
 cases hg:Wz kvs k with
 | none=>rw[(PR.get pr k).1 hg];exact rx
 | some w=>obtain⟨z,hz,rz⟩:=(PR.get pr k).2 w hg;rw[hz];exact rz
end
end WL
namespace L2
open PySem PySem.Spec PyProof.Rows
def aD (w:WN):Bool:=w.params.followText "set-order"
def fT (e:Int×WQ):Str:=strOf e.2
structure cM (P:Program)(w:World)(h:Heap)(a:Addr)(es:Array (Int×Value))(ep:Nat)(t:SetTable):Prop where
 get:h.get? a=some {cls:=.type "set",dict:=none,data:=.set es ep t,slots:=#[]}
 els:ElemsOf (PySem.strKind P w) es.toList
 fit:t.fits es.size=true
 bnd:es.size<scanBound
 pln:es.size≠0->t.plain=false
 led:t.led=!aD w
 nod:(es.toList.map fT).Nodup
section
variable {prog:WO}{w:WN}{A:WM}{E:WQ->WR->Prop}{s:WR}
end
section
variable {prog:WO}{w:WN}{A:WM}{R:Result->WR->Prop}{I:WP}{fp wr:List WP}{G:Array GenState->Array GenState->Prop}{n:Nat}{P:Nat->WQ->Prop}{St:Nat->WR->Prop}
end
section
variable {prog:WO}{w:WN}{A:WM}{E:WQ->WR->Prop}{s:WR}
end
section
variable {X:Cx}{WZ:List (WP×Obj)}{s:WR}{σ:St}{H:Hp}
def Za9 (P:WO)(w:WN)(a:WP)(xs:List Str):HO:=.ext λh=>∃es ep t,cM P w h a es ep t/\∀y,y∈es.toList.map fT↔y∈xs
end
end L2
namespace WL
open PySem PySem.Spec PyProof.Rows L2
section
variable {X:Cx}{e:WW}{we:WE}{pos p p2 pos2:Pos}
end
end WL
namespace L2
open PySem PySem.Spec PyProof.Rows
section
variable {X:Cx}{tg:WW}
end
end L2
namespace WL
open PySem PySem.Spec PyProof.Rows L2
section
variable {X:Cx}{tg a:WW}{wA:WA}{pos p:Pos}
end
end WL
namespace L2
open PySem PySem.Spec PyProof.Rows
section
variable {X:Cx}
def wP:∀{zs:List Str} {us:List WQ},Yd (zs.map V.str) us->StrsAre us zs
 | [],us,h=>by rw[h.zero];exact .nil
 | z::zs,us,h=>by
  cases h with
  | cons a b=>obtain⟨t,rfl⟩:=a;exact .cons z t (wP b)
def dr (K:WY):V->List V->Hp->VK->Prop:=λx vs H Q=>∃z p zs,x=.str z/\vs=[.ref p]/\Ug K H p (zs.map V.str)/\z.length<=16/\(zs.map (·.length)).sum+zs.length<=1048576/\Q (.str (Txt.join z zs)) H
def mm:fj X "str.join" (dr X.K):=by
 intro WZ s σ H x vs v us Q I rx rv h;obtain⟨z,p,zs,rfl,rfl,hq,h1,h2,q⟩:=h;obtain⟨t,rfl⟩:=rx;obtain⟨u,rfl,ru⟩:=Ru rv
 cases ru
 obtain⟨its,rI,pl,hz⟩:=I.list hq;exact join_listW pl.isList (wP rI) h1 h2 λt' k=>⟨.str _,H,I.tok _,⟨_,VS⟩,q⟩
end
end L2
namespace WL
open PySem PySem.Spec PyProof.Rows L2
section
variable {X:Cx}
def Gh {K:WY}:∀{bs:List Str} {ys:List V},Reps K H ys (bs.map T.str)->ys=bs.map V.str
 | [],_,h=>Vo h
 | b::bs,_,h=>by obtain⟨y,r,rfl,a,c⟩:=J2 h;cases Jy a;rw[Gh c];rfl
def lU:T->List T->Hw->WK->Prop:=λx vs C Q=>∃z p zs,x=.str z/\vs=[.ref p]/\C p=some (.lst (zs.map T.str))/\z.length<=16/\(zs.map (·.length)).sum+zs.length<=1048576/\Q (.str (Txt.join z zs)) C
def hJ:om X "str.join" lU:=⟨_,mm,λF H C x v xs vs Q Q' R rx rs h q=>by
 obtain⟨z,p,zs,rfl,rfl,hx,h1,h2,h⟩:=h
 cases Jy rx
 obtain⟨y,rfl,ry⟩:=Vd rs
 cases Yb ry
 obtain⟨ys,hy,r⟩:=R.lst hx
 cases Gh r
 exact⟨z,p,zs,VS,VS,Ug.of hy,h1,h2,q _ _ H C R (Tx.refl H) Xc h⟩⟩
end
end WL
namespace L2
open PySem PySem.Spec PyProof.Rows
def ie:typeLookup (.type "list_reverseiterator") "__len__"=pure none:=by
 rw[typeLookup_type];rw[builtinLookup_eq_fast];kernel_rfl
def oY:typeLookup (.type "list_reverseiterator") "__length_hint__"=pure (some (.builtin "list_reverseiterator.__length_hint__")):=by
 rw[typeLookup_type];rw[builtinLookup_eq_fast];kernel_rfl
section
variable {prog:WO}{w:WN}{A:WM}{E:WQ->WR->Prop}{s:WR}{it l:WP}{i:Int}
def qQ {Q:Bool->WR->Prop}(hit:s.heap.IsRevIter it l i)(h:Q false s):wpAny (model prog w) A (Builtin.List.listLengthHint (.ref it)) Q E s:=by
 have hT:=hit.typeIs;unfold Builtin.List.listLengthHint;refine XA (wpAny_specialOf hT ie ?_);show wpAny _ A (specialOf (Value.ref it) (Str.ofString "__length_hint__")>>=_) _ _ _;refine XA (wpAny_specialOf hT oY ?_);generalize hid:("list_reverseiterator.__length_hint__":String)=id0
 wp_delta
 rw[show splitId id0=some ("list_reverseiterator","__length_hint__") from by subst hid;decide+kernel];subst hid;refine XA (wpAny_isInstance (T:="list_reverseiterator") (b:=true) hT (by rw[isSubtype_type];kernel_rfl) ?_);refine wpAny_ite_split (λz=>absurd z (by decide)) (λ_=>?_);refine wpAny_ite_split (λ_=>?_) (λz=>absurd (by decide+kernel) z);refine wpAny_ite_split (λz=>absurd z (by decide+kernel)) (λ_=>?_);exact XB h
def qM {R:Result->WR->Prop}{items:Array WQ}(hh:A.handled=none)(n:Nat)(hn:items.size=n)(hsz:n<=sizeLine)(S:WP)(hSi:S≠it)(hSl:S≠l)(hil:l≠it)
  (hit:s.heap.IsRevIter it l ((n:Int)-1)) (hl:s.heap.IsList l items) (hS:s.heap.get? S=some {cls:=.type "list",data:=.seq #[]})
  (hR:∀s' acc' c',Moved [S,it] (λa b=>b=a) s s'->s'.heap.get? S=some {cls:=.type "list",dict:=none,data:=.seq acc' c',slots:=#[]}->ItemsOf (λi v=>items[items.size-1-i]?=some v) acc' n->R (.ok (.ret .none)) s'):
  wpAny (model prog w) A.in1 (Builtin.«list.__init__» ⟨[.ref S,.ref it],[]⟩)
   (λfin s2=>match fin with | .done f=>R (.ok f) s2 | .again c2=>c2.quiet=true/\codeAny (model prog w) A c2 R s2) (λe s2=>R (.error e) s2) s:=by
 have W:=(Walks.listRev (prog:=prog) (w:=w) (A:=A.in1) hh it l hil items).toS;rw[hn] at W;have hSf:S∉[it,l]:=by simp[hSi,hSl]
 show wpAny _ A.in1 (Builtin.List.listItems (.ref S)>>=λold=>Builtin.List.listUpdate (.ref S) (λ_=>#[])>>=λ_=>letGo old.toList.reverse>>=λ_=>Builtin.List.listExtendWith (.ref S) (.ref it) .none) _ _ s;unfold Builtin.List.listItems;refine XA ?_;refine XA (wpAny_seqItems hS VS (XB ?_));show wpAny _ A.in1 (updateSeq S (λ_=>#[])>>=λ_=>letGo (#[]:Array WQ).toList.reverse>>=λ_=>Builtin.List.listExtendWith (.ref S) (.ref it) .none) _ _ s;refine XA (wpAny_updateSeq hS VS ?_);have hS2:=Heap.get?_update_self (Obj.mapSeq (λ_=>(#[]:Array WQ))) hS VS;have oth:∀b o,b≠S->s.heap.get? b=some o->(s.heap.update S (Obj.mapSeq (λ_=>(#[]:Array WQ)))).get? b=some o:=λb o hb e=>
  (Heap.get?_update_other _ _ (Ne.symm hb)).trans e
 refine XA (wpAny_letGo ?_);unfold Builtin.List.listExtendWith;have hit2:(s.heap.update S (Obj.mapSeq (λ_=>(#[]:Array WQ)))).IsRevIter it l ((n:Int)-1):=hit.at λo e=>oth it o hSi.symm e;have hl2:(s.heap.update S (Obj.mapSeq (λ_=>(#[]:Array WQ)))).IsList l items:=hl.at λo e=>oth l o hSl.symm e;refine XA (wpAny_typeOf (T:="list_reverseiterator") (Heap.IsRevIter.typeIs (s:={s with heap:=_}) hit2) ?_);have h1:Builtin.List.listSameRef (.ref S) (.ref it)=false:=by simp[Builtin.List.listSameRef,hSi]
 have h2:(Value.type "list_reverseiterator"==Value.type "list")=false:=by decide
 have h3:(Value.type "list_reverseiterator"==Value.type "tuple")=false:=by decide
 simp only[h1,h2,h3,Bool.or_false,Bool.false_eq_true,if_false];refine XA (wpAny_pyIter_revIter hit2 ?_);refine XA (wpAny_holding (qQ hit2 ?_));have st:(λi (h:WU)=>i<=n/\h.IsRevIter it l ((n:Int)-1-(i:Int))/\h.IsList l items) 0 (s.heap.update S (Obj.mapSeq (λ_=>(#[]:Array WQ)))):=⟨Nat.zero_le _,by simpa using hit2,hl2⟩;refine wpAny_ite_split (λz=>absurd z (by decide+kernel)) (λ_=>?_);refine XB ⟨plainId_quiet PySem.F.plain_extend_loop _,?_⟩;refine codeAny_extend_loopS W hsz S hSf .none n 0 _ #[] _ VS (XO _) st hS2 (ItemsOf.nil _) λs3 acc3 c3 hm hS3 hacc=>?_;refine hR s3 acc3 c3 ⟨λb o hb e=>?_,hm.gens,hm.drawn,hm.os,hm.toks⟩ hS3 (by rw[hn];exact hacc);exact hm.heap b o hb (oth b o (λz=>hb (by rw[z];simp)) e)
def zv {Q:WQ->WR->Prop}{items:Array WQ}(hh:A.handled=none)(hsz:items.size<=sizeLine)(hil:l≠it)(hit:s.heap.IsRevIter it l ((items.size:Int)-1))(hl:s.heap.IsList l items)
  (hQ:∀h2 t2 acc2 c2,(∀b o,b≠it->s.heap.get? b=some o->h2.get? b=some o)->h2.get? s.heap.objs.size=some {cls:=.type "list",dict:=none,data:=.seq acc2 c2,slots:=#[]}->ItemsOf (λi v=>items[items.size-1-i]?=some v) acc2 items.size->Q (.ref s.heap.objs.size) {s with heap:=h2,toks:=t2}):
  wpAny (model prog w) A (call (.type "list") [.ref it]) Q E s:=by
 refine callType_codes (Q₁:=λob s1=>ob=.ref s.heap.objs.size/\s1={s with heap:=s.heap.push {cls:=.type "list",data:=.seq #[]}}) PySem.F.called_list (PySem.F.typeCall_list_1 _) PySem.F.entry_list_init (code_list_new _ ⟨VS,VS⟩) λob s1 h1=>?_;obtain⟨rfl,rfl⟩:=h1;have hS:(s.heap.push {cls:=.type "list",data:=.seq #[]}).get? s.heap.objs.size=some {cls:=.type "list",data:=.seq #[]}:=XF _ VS;have ltI:it<s.heap.objs.size:=by obtain⟨_,e,_⟩:=hit;exact XD e
 have ltL:l<s.heap.objs.size:=by obtain⟨_,e,_⟩:=hl;exact XD e
 refine⟨⟨_,hS,VS⟩,PySem.F.args_list_init_2 _ _,qM (A:=A.in1) hh items.size VS hsz _ (RL ltI) (RL ltL) hil (hit.at λo e=>XC _ e) (hl.at λo e=>XC _ e) hS λs3 acc3 c3 hm hS3 hacc=>⟨VS,?_⟩⟩;rw[Moved.eq_with hm];exact hQ s3.heap s3.toks acc3 c3 (λb o hb e=>hm.heap b o (by simp only[List.mem_cons,List.not_mem_nil,or_false,not_or];exact⟨Nat.ne_of_lt (Heap.lt_size e),hb⟩) (Heap.get?_push_of_some _ e)) hS3 hacc
end
section
variable {X:Cx}
def zQ:∀{xs:List V} {us:List WQ},Yd xs us->Yd xs.reverse us.reverse
 | _,_,.nil=>.nil
 | _,_,.cons r t=>by rw[SO,SO];exact(zQ t).append (.cons r .nil)
def uG {its:List WQ}(h:ItemsOf (λi v=>its.toArray[its.toArray.size-1-i]?=some v) acc its.toArray.size):acc.toList=its.reverse:=by
 obtain⟨h1,h2⟩:=h;have hl:its.toArray.size=its.length:=by simp
 refine List.ext_getElem? λj=>?_;by_cases c:j<acc.size
 ·have e:acc[j]?=some acc[j]:=by simp[c]
  have h3:=h2 j _ e;rw[RU,e,<-h3,hl];rw[List.getElem?_reverse (by omega)];simp
 ·rw[List.getElem?_eq_none (by simp;omega),List.getElem?_eq_none (by simp;omega)]
def eE (K:WY)(ta:TE):TE:=λσ H Q=>ta σ H λx H1=>∃a xs,x=.ref a/\Ug K H1 a xs/\∀p,H1 p=none->Q (.ref p) (J7 H1 p (.lst xs.reverse))
def xr {p pos p2 pos2:Pos}(hc:X.calm=true)(hg:Gl X "list")(hm:X.mg "list"=none)(hg2:Gl X "reversed")(hm2:X.mg "reversed"=none)(ha:PE X a ta)(hs:starEach [a] X.env=[(false,eval a X.env)]:=by rfl)
  (hs2:starEach [.Call (.Name "reversed" p2) [a] [] pos2] X.env=[(false,eval (.Call (.Name "reversed" p2) [a] [] pos2) X.env)]:=by rfl) (hb:bootBuiltins "reversed"=some (.type "reversed"):=by decide+kernel) (hb2:bootBuiltins "list"=some (.type "list"):=by decide+kernel):
  PE X (.Call (.Name "list" p) [.Call (.Name "reversed" p2) [a] [] pos2] [] pos) (eE X.K ta):=by
 intro WZ s σ H Q I h;refine Call_ (Rh I hg hm hb2 (QF ?_ hs2 VS));rw[hs2];show wpAny _ _ (spliced ((false,eval (.Call (.Name "reversed" p2) [a] [] pos2) X.env)::backTo pos [])) _ _ s;refine QH (Call_ (Rh I hg2 hm2 hb (QF ?_ hs VS)));have pa:PA X [a] (ya ta sw):=Hb ha xu hs;refine J5 (pa pos2 WZ s σ H (λxs H1=>match xs with | [x]=>∃a ys,x=.ref a/\Ug X.K H1 a ys/\∀p,H1 p=none->Q (.ref p) (J7 H1 p (.lst ys.reverse)) | _=>False) I h) λus s1 ⟨vs,H1,I1,r1,q1⟩=>?_;have one:∃x,vs=[x]:=by
  match vs,q1 with
  | [x],_=>exact⟨x,VS⟩
  | [],q1=>exact q1.elim
  | _::_::_,q1=>exact q1.elim
 obtain⟨x,rfl⟩:=one;obtain⟨l,ys,rfl,hq,q⟩:=q1;obtain⟨u,rfl,ru⟩:=Ru r1
 cases ru
 obtain⟨its,rv,pl,hz⟩:=I1.list hq;have hlen:=rv.length;refine call_reversed_list pl.isList ?_;have ltL:l<s1.heap.objs.size:=by obtain⟨_,e,_⟩:=pl.isList;exact XD e
 refine RH ?_;have hit:(s1.heap.push (revObj l ((its.toArray.size:Int)-1))).IsRevIter s1.heap.objs.size l ((its.toArray.size:Int)-1):=⟨_,XF _ VS,VS,VS⟩;have hl2:(s1.heap.push (revObj l ((its.toArray.size:Int)-1))).IsList l its.toArray:=pl.isList.at λo e=>XC _ e;refine zv (s:={s1 with heap:=s1.heap.push (revObj l ((its.toArray.size:Int)-1))}) (I.ok.hd hc) (by simp only[List.size_toArray];omega) (Nat.ne_of_lt ltL) hit hl2 λh2 t2 acc c2 kp hN hI=>?_;have hp:s1.heap.objs.size<=(s1.heap.push (revObj l ((its.toArray.size:Int)-1))).objs.size:=by rw[QU];omega
 refine⟨.ref _,_,I1.laid (h':=h2) (t':=t2) (λb o e=>kp b o (XH (XD e)) (XC _ e)) hp (show X1 X.prog X.w _ h2 _ (.lst ys.reverse) from⟨by rw[SB];exact hz,its.reverse,c2,zQ rv,?_⟩),VS,q _ (I1.hok.fresh hp)⟩;rw[<-uG hI];exact hN
def Zbr (X:Cx)(e:WW)(t:TE):Prop:=
 ∀(WZ:List (WP×Obj)) (s:WR) (σ:St) (H:Hp) (Q:VK),Z7 X WZ σ H s->t σ H Q->wpAny (model X.prog X.w) X.A (eval e X.env) (λv s'=>1<=s'.toks/\EP X WZ σ Q v s') X.xe s
def jU {α:Type}{t:Sem α}{Q:α->WR->Prop}{E:WQ->WR->Prop}{s:WR}(h1:1<=s.toks)(h:wpAny M A t Q E s):wpAny M A t (λa s'=>1<=s'.toks/\Q a s') E s:=
 wpAny_mono (wpAny_toks_of h1 h) (λ_ _ z=>z) λ_ _ z=>z.2
variable {o e:WW}{es:List WW}{to:TE}{t:TA}{apos cpos:Pos}{z y:Str}{k k1 k2:Nat}{lp lp1 lp2:Pos}
end
end L2
namespace WL
open PySem PySem.Spec PyProof.Rows L2
section
variable {X:Cx}{e o:WW}{we wo:WE}{p p2 pos pos2 apos cpos:Pos}
def Av:T->List T->Hw->WK->Prop:=λx vs C Q=>∃a b xs zs,x=.ref a/\vs=[.ref b]/\C a=some (.lst xs)/\C b=some (.lst zs)/\xs.length+zs.length<=sizeLine/\Q .non (up C a (.lst (xs++zs)))
def yU:om X "list.extend" Av:=⟨_,u7,λF H C x v xs vs Q Q' R rx rs h q=>by
 obtain⟨a,b,ts,us,rfl,rfl,ha,hb,hl,h⟩:=h
 cases Yb rx
 obtain⟨y,rfl,ry⟩:=Vd rs
 cases Yb ry
 obtain⟨ys,hy,r⟩:=R.lst ha;obtain⟨zs,hz,r2⟩:=R.lst hb;obtain⟨R',t⟩:=R.putL ha (r.app r2);exact⟨a,b,ys,zs,VS,VS,hy,hz,by rw[r.length,r2.length];exact hl,q _ _ _ _ R' t Tl h⟩⟩
def ki (e:WE):WE:=λτ C Q χ=>e τ C (λx C1=>∃a xs,x=.ref a/\C1 a=some (.lst xs)/\∀p,C1 p=none->Q (.ref p) (up C1 p (.lst xs.reverse))) χ
def gL (hc:X.calm=true)(hg:Gl X "list")(hm:X.mg "list"=none)(hg2:Gl X "reversed")(hm2:X.mg "reversed"=none)(he:X0 X e we)(hs:starEach [e] X.env=[(false,eval e X.env)]:=by rfl)
  (hs2:starEach [.Call (.Name "reversed" p2) [e] [] pos2] X.env=[(false,eval (.Call (.Name "reversed" p2) [e] [] pos2) X.env)]:=by rfl):
  X0 X (.Call (.Name "list" p) [.Call (.Name "reversed" p2) [e] [] pos2] [] pos) (ki we):=by
 obtain⟨t,p1,sm⟩:=he;refine⟨_,xr hc hg hm hg2 hm2 p1 hs hs2,λF H C σ τ Q Q' χ R S h q=>?_⟩;refine sm F H C σ τ _ _ χ R S h λx v H1 C1 R1 t1 rx h1=>?_;obtain⟨a,xs,rfl,hC,h1⟩:=h1
 cases Yb rx
 obtain⟨ys,hH,rs⟩:=R1.lst hC;exact⟨a,ys,VS,Ug.of hH,λb hb=>q _ _ _ _ (R1.newL hb rs.reverse) (t1.trans (Tx.new hb)) Xd (h1 b (R1.free hb))⟩
def zt:Uh X (.type "str") (λxs H Q=>∃z,xs=[.str z]/\Q (.str z) H):=by
 intro WZ s σ H xs us Q I r h;obtain⟨z,rfl,q⟩:=h;obtain⟨u,rfl,t,rfl⟩:=Ru r;exact PySem.P.str_of_str ⟨.str z,H,I,⟨_,VS⟩,q⟩
def jA:List T->Hw->WK->Prop:=λvs C Q=>(∃i:Int,vs=[.int i]/\i.natAbs.log2<1920/\Q (.str (toString i)) C)\/∃z,vs=[.str z]/\Q (.str z) C
def wz:Nm X (.type "str") jA:=⟨_,zu.or zt,λF H C xs vs Q Q' R rs h q=>by
 rcases h with⟨j,rfl,hl,h⟩ | ⟨z,rfl,h⟩
 ·obtain⟨x,rfl,rx⟩:=Vd rs
  cases Yo rx
  exact .inl ⟨j,VS,hl,q _ _ H C R (Tx.refl H) Xc h⟩
 ·obtain⟨x,rfl,rx⟩:=Vd rs
  cases Jy rx
  exact .inr ⟨z,VS,q _ _ H C R (Tx.refl H) Xc h⟩⟩
def Zb2 (X:Cx)(e:WW)(w:WE):Prop:=∃t,Zbr X e t/\Ty X.K t w
def pi (y z:Str)(o:WE):WE:=λτ C Q χ=>o τ C (λx C1=>∃u,x=.str u/\u.length<=1048576/\Q (.str (Txt.replace u y z)) C1) χ
end
end WL
namespace L2
open PySem PySem.Spec PyProof.Rows
section
variable {prog:WO}{w:WN}{A:WM}{E:WQ->WR->Prop}{s:WR}{a b:WP}{oa ob:Obj}{ea eb:Array DictEntry}{pa pb:Nat}
def wQ {d:WP}{Q:Unit->WR->Prop}(hd:(d==sysModules)=false)(h:Q () s):wpAny (model prog w) A (Builtin.Dict.showsAll d) Q E s:=by
 unfold Builtin.Dict.showsAll;rw[XX (by rw[hd];exact YJ)];exact XB h
def oO {id:String}{Q:Bool->WR->Prop}(sa:(a==sysModules)=false)(sb:(b==sysModules)=false)(ha:s.heap.get? a=some oa)(da:oa.data=.dict ea pa)(hb:s.heap.get? b=some ob)(db:ob.data=.dict eb pb)
  (hne:(ea.size !=eb.size)=true) (q:Q false s):wpAny (model prog w) A (Builtin.Dict.samePairs id a b) Q E s:=by
 unfold Builtin.Dict.samePairs;refine XA (wQ sa (XA (wQ sb ?_)));refine XA (wpAny_dictEntries ha da ?_);refine XA (wpAny_dictEntries hb db ?_);rw[XY hne];exact XA (wpAny_rule (XB q))
def oN {K:Type}[DecidableEq K]{knd:KeyKind prog w K}{id:String}{Q:Bool->WR->Prop}(sa:(a==sysModules)=false)(sb:(b==sysModules)=false)(ha:s.heap.get? a=some oa)(da:oa.data=.dict ea pa)(hb:s.heap.get? b=some ob)(db:ob.data=.dict eb pb)
  (hk:KeysOf knd eb) (hsz:ea.size=eb.size)
  (hv:∀i (h1:i<ea.size) (h2:i<eb.size),∃k,knd.is k ea[i].key=true/\ea[i].hash=knd.hash k/\(eb.findIdx? λe=>knd.is k e.key)=some i/\SeqAt.EqAt A s ea[i].val eb[i].val true) (q:Q true s):
  wpAny (model prog w) A (Builtin.Dict.samePairs id a b) Q E s:=by
 unfold Builtin.Dict.samePairs;refine XA (wQ sa (XA (wQ sb ?_)));refine XA (wpAny_dictEntries ha da ?_);refine XA (wpAny_dictEntries hb db ?_);rw[if_neg (by simp[hsz])];refine XA (wpAny_dictEpoch ha da ?_);refine XA ?_;rw[Std.Legacy.Range.forIn_eq_forIn_range'];simp only[Std.Legacy.Range.size,Nat.sub_zero,Nat.add_sub_cancel,Nat.div_one];refine wpAny_forIn_list _ (λJk r s2=>∃i,Jk=List.range' i (ea.size-i)/\i<=ea.size/\r.1=none/\s2=s) _ ?_ ?_ _ _ ⟨0,by simp,Nat.zero_le _,VS,VS⟩
 ·rintro x Jk r s2 ⟨i,hr,hi,hr1,rfl⟩;have hlt:i<ea.size:=by
   rcases Nat.lt_or_ge i ea.size with h | h
   ·exact h
   ·rw[Nat.sub_eq_zero_of_le h] at hr;simp at hr
  obtain⟨rfl,hrest⟩:x=i/\Jk=List.range' (i+1) (ea.size-(i+1)):=by
   have e:ea.size-i=(ea.size-(i+1))+1:=by omega
   rw[e,List.range'_succ] at hr;injection hr with h1 h2
   exact⟨h1,h2⟩
  have hltb:x<eb.size:=by omega
  obtain⟨k,k1,k2,k3,k4⟩:=hv x hlt hltb;refine XA (wpAny_dictEntries ha da ?_);rw[Array.getElem?_eq_getElem hlt];refine XA (wpAny_holding ?_);rw[k2];refine XA (wpAny_dictFind_of k1 hb db hk ?_);rw[k3];refine XA (wpAny_dictEntries hb db ?_);rw[Array.getElem?_eq_getElem hltb];refine wpAny_holding (k4 prog w _ _ ?_);rw[XX (by decide)];refine XA (wpAny_dictEpoch ha da ?_);rw[if_neg (by simp)];exact XB ⟨x+1,hrest,hlt,VS,VS⟩
 ·rintro r s2 ⟨i,hr,hi,hr1,rfl⟩;rw[hr1];exact XB q
def v9 (wanted:Bool){k:Bool}{R:Result->WR->Prop}(ha:s.TypeIs (.ref a) "dict")(hb:s.TypeIs (.ref b) "dict")
  (hs:∀(id:String) (Q:Bool->WR->Prop),Q k s->wpAny (model prog w) A.in1 (Builtin.Dict.samePairs id a b) Q (λe s2=>R (.error e) s2) s) (h:R (.ok (.ret (.bool (k==wanted)))) s):
  wpAny (model prog w) A.in1 ((if wanted then Builtin.«dict.__eq__» else Builtin.«dict.__ne__») ⟨[.ref a,.ref b],[]⟩)
   (λfin s2=>match fin with | .done f=>R (.ok f) s2 | .again c2=>c2.quiet=true/\codeAny (model prog w) A c2 R s2) (λe s2=>R (.error e) s2) s:=by
 cases wanted
 ·rw[XX (by decide)];unfold Builtin.«dict.__ne__»
  wp_delta
  unfold Builtin.Dict.dictSlotArgs;refine XA (XA (wpAny_notOrdered_dict ha ?_));refine XA (wpAny_of_eq (a:=(Value.ref a,[Value.ref b])) VS (XB ?_));refine XA (wpAny_isInstance (T:="dict") (b:=true) hb (by rw[isSubtype_type];kernel_rfl) ?_);rw[XX (by decide)];refine XA (XB (XA (XB (XA (hs _ _ ?_)))));exact XB h
 ·rw[XY rfl];unfold Builtin.«dict.__eq__»
  wp_delta
  unfold Builtin.Dict.dictSlotArgs;refine XA (XA (wpAny_notOrdered_dict ha ?_));refine XA (wpAny_of_eq (a:=(Value.ref a,[Value.ref b])) VS (XB ?_));refine XA (wpAny_isInstance (T:="dict") (b:=true) hb (by rw[isSubtype_type];kernel_rfl) ?_);rw[XX (by decide)];refine XA (XB (XA (XB (XA (hs _ _ ?_)))));exact XB h
def mQ {k:Bool}{Q:WQ->WR->Prop}(hu:A.units<cLine)(ha:s.TypeIs (.ref a) "dict")(hb:s.TypeIs (.ref b) "dict")
  (hs:∀(E:WQ->WR->Prop) (id:String) (Q:Bool->WR->Prop),Q k s->wpAny (model prog w) A.in1 (Builtin.Dict.samePairs id a b) Q E s) (h:Q (.bool (k==true)) s):wpAny (model prog w) A (richCompare .Eq (.ref a) (.ref b)) Q E s:=
 wpAny_richCompare_same_room ha hb PySem.F.slot_dict_eq (wpAny_call (codeAny_call_builtin PySem.F.slot_dict_eq.plain PySem.F.entry_dict_eq (PySem.F.slot_dict_eq.check _ _ _ _ _ _ _ _ ha (PySem.F.args_dict_eq_2 _ _)
  (v9 (R:=λr s2=>match r with | .ok (.ret v)=>v≠.notImplemented/\Q v s2 | .ok _=>False | .error e=>E e s2) true ha hb (λid Q q=>hs _ id Q q) ⟨(λz=>nomatch z),h⟩)))) hu
def mP {k:Bool}{Q:WQ->WR->Prop}(hu:A.units<cLine)(ha:s.TypeIs (.ref a) "dict")(hb:s.TypeIs (.ref b) "dict")
  (hs:∀(E:WQ->WR->Prop) (id:String) (Q:Bool->WR->Prop),Q k s->wpAny (model prog w) A.in1 (Builtin.Dict.samePairs id a b) Q E s) (h:Q (.bool (k==false)) s):wpAny (model prog w) A (richCompare .NotEq (.ref a) (.ref b)) Q E s:=
 wpAny_richCompare_same_room ha hb PySem.F.slot_dict_ne (wpAny_call (codeAny_call_builtin PySem.F.slot_dict_ne.plain PySem.F.entry_dict_ne (PySem.F.slot_dict_ne.check _ _ _ _ _ _ _ _ ha (PySem.F.args_dict_ne_2 _ _)
  (v9 (R:=λr s2=>match r with | .ok (.ret v)=>v≠.notImplemented/\Q v s2 | .ok _=>False | .error e=>E e s2) false ha hb (λid Q q=>hs _ id Q q) ⟨(λz=>nomatch z),h⟩)))) hu
end
section
variable {prog:WO}{w:WN}{A:WM}{E:WQ->WR->Prop}{s:WR}
def oI {Q:WQ->WR->Prop}(hj:s.heap.IsTupleIter jt q i)(hq:s.heap.IsTuple q its)(hx:its[i]?=some x)
  (hQ:∀h2,h2.IsTupleIter jt q (i+1)->Heap.SameBut jt s.heap h2->Q x {s with heap:=h2}):wpAny (model prog w) A (Builtin.SmallTypes.nextOf (.ref jt)) Q E s:=by
 obtain⟨ob,hob,hcl,hda⟩:=id hj;obtain⟨oq,hoq,_,nq,hdq⟩:=hq;unfold Builtin.SmallTypes.nextOf;refine XA (wpAny_callSpecial?_slot (name:=Str.ofString "__next__") hj.typeIs RG (wpAny_call_entry RG hj.typeIs F.entry_tuple_iterator_next ?_ (TQ _)));show wpAny _ _ (field (.ref jt) 0>>=_) _ _ s;refine XA (wpAny_field hob hda (x:=.ref q) VS ?_);show wpAny _ _ (if (Value.ref q==Value.none)=true then _ else _) _ _ s;rw[XX (show ¬((Value.ref q==Value.none)=true) from YJ)];show wpAny _ _ (field (.ref jt) 1>>=_) _ _ s;refine XA (wpAny_field hob hda (x:=.int i 0) VS ?_);show wpAny _ _ (seqItems? (.ref q)>>=_) _ _ s;refine XA (wpAny_seqItems hoq hdq ?_);simp only[Int.toNat_natCast,hx];refine wpAny_bind (wpAny_setField hob hda (by simp) (wpAny_pure ⟨x,VS,wpAny_pure (hQ _ ?_ (Heap.SameBut.update ..))⟩));refine⟨_,Heap.get?_update_self _ hob (Obj.isFreed_of_fields (Obj.data_mapFields hda _)),(Obj.cls_mapFields ..).trans hcl,?_⟩;rw[Obj.data_mapFields hda];simp[rawInt]
def kK {Q:WQ->WR->Prop}(hh:A.handled=none)(hj:s.heap.IsTupleIter jt q i)(hq:s.heap.IsTuple q its)(hx:its[i]?=none)
  (hE:∀h2 ex,Heap.ExtBut jt s.heap h2->(∃o,h2.get? ex=some o/\o.cls=.type "StopIteration")->E (.ref ex) {s with heap:=h2}):wpAny (model prog w) A (Builtin.SmallTypes.nextOf (.ref jt)) Q E s:=by
 obtain⟨ob,hob,hcl,hda⟩:=id hj;obtain⟨oq,hoq,_,nq,hdq⟩:=hq;unfold Builtin.SmallTypes.nextOf;refine XA (wpAny_callSpecial?_slot (name:=Str.ofString "__next__") hj.typeIs RG (wpAny_call_entry RG hj.typeIs F.entry_tuple_iterator_next ?_ (TQ _)));show wpAny _ _ (field (.ref jt) 0>>=_) _ _ s;refine XA (wpAny_field hob hda (x:=.ref q) VS ?_);show wpAny _ _ (if (Value.ref q==Value.none)=true then _ else _) _ _ s;rw[XX (show ¬((Value.ref q==Value.none)=true) from YJ)];show wpAny _ _ (field (.ref jt) 1>>=_) _ _ s;refine XA (wpAny_field hob hda (x:=.int i 0) VS ?_);show wpAny _ _ (seqItems? (.ref q)>>=_) _ _ s;refine XA (wpAny_seqItems hoq hdq ?_);simp only[Int.toNat_natCast,hx];refine wpAny_bind (wpAny_rule (wpAny_bind (wpAny_setField hob hda (by simp) ?_)));refine XA ?_;simp only[newExc,newTuple];refine XA (wpAny_newObj_type ?_ (by size_fits));refine wpAny_bind (m:=firstArgMember _ _) (wpAny_of_eq (a:=Value.none) (by first | rfl | (simp only[firstArgMember]<;>rfl)) ?_);refine wpAny_newObj_type ?_ (by size_fits);simp only[raiseNew];refine XA (wpAny_handled ?_);rw[show A.in1.handled=none from hh];exact XA (XB (wpAny_throw (hE _ _ (((Heap.SameBut.update ..).extBut.push _).push _) ⟨_,XF _ VS,VS⟩)))
end
def Vz {prog:WO}{w:WN}{A:WM}(hh:A.handled=none)(jt q:WP)(hne:q≠jt)(its:Array WQ):
  Draws prog w A jt [jt,q] its.size (λi v=>its[i]?=some v) (λi h=>h.IsTupleIter jt q i/\h.IsTuple q its) where
 live:=λ_ _ st=>let ⟨o,ho,_⟩:=st.1;⟨o,ho⟩
 frame:=λ_ _ _ st k=>⟨st.1.at λo e=>k jt (by simp) o e,st.2.at λo e=>k q (by simp) o e⟩
 item:=λi s Q E hi st hQ=>oI st.1 st.2 (x:=its[i]) (by simp[hi]) λh2 a b=>hQ _ h2 s.toks (by simp[hi]) ⟨a,st.2.extBut b.extBut hne⟩ b
 done:=λs Q E st hE=>kK hh st.1 st.2 (by simp) hE
structure ol (z TI TO i1 i2:Addr)(f1 f2:List Addr):Prop where
 m1:i1∈f1
 m2:i2∈f2
 z1:z∉f1
 z2:z∉f2
 o1:TO∉f1
 o2:TO∉f2
 a12:i1∉f2
 a21:i2∉f1
 tz:TI≠z
 oz:TO≠z
 io:TI≠TO
 t1:TI≠i1
 t2:TI≠i2
section
variable {prog:WO}{w:WN}{A:WM}{E:WQ->WR->Prop}{s:WR}{z TI TO i1 i2:WP}{f1 f2:List WP}{n:Nat}{P1 P2:Nat->WQ->Prop}{S1 S2:Nat->WU->Prop}
def wG {i:Nat}{u v:WQ}{Q:WQ->WR->Prop}(D1:Draws prog w A i1 f1 n P1 S1)(D2:Draws prog w A i2 f2 n P2 S2)(Z:ol z TI TO i1 i2 f1 f2)(hi:i<n)
  (hz:IsZip s.heap z TI TO .none) (hTI:IsPair s.heap TI (.ref i1) (.ref i2)) (hTO:IsPair s.heap TO u v) (s1:S1 i s.heap) (s2:S2 i s.heap)
  (hQ:∀x y h2 t2,P1 i x->P2 i y->IsZip h2 z TI TO (rawInt s.heap.objs.size)->IsPair h2 TO x y->S1 (i+1) h2->S2 (i+1) h2->IsPair h2 s.heap.objs.size x y->
   (∀c o,c≠z->c≠TO->c≠i1->c≠i2->s.heap.get? c=some o->h2.get? c=some o)->Q (.ref s.heap.objs.size) {s with heap:=h2,toks:=t2}):
  wpAny (model prog w) A (Builtin.«zip.__next__» ⟨[.ref z],[]⟩) (λfin s2=>∃r,fin=.done (.ret r)/\Q r s2) E s:=by
 show wpAny _ _ (field (.ref z) 2>>=_) _ E s;refine XA (wpAny_field hz VS (x:=.bool false) VS ?_);show wpAny _ _ (field (.ref z) 3>>=_) _ E s;refine XA (wpAny_field hz VS (x:=.ref TI) VS ?_);refine XA (wpAny_seqItems hTI VS ?_);show wpAny _ _ (Builtin.SmallTypes.ownedTupleIsFree (.ref z)>>=_) _ E s;refine XA ?_;unfold Builtin.SmallTypes.ownedTupleIsFree;refine XA (wpAny_field hz VS (x:=.none) VS (XB ?_));simp only[if_true];refine XA (wpAny_rule ?_);refine XA (wpAny_field hz VS (x:=.ref TO) VS ?_);refine wpAny_bind (wpAny_setField_rec hz (by simp) λha hza sa=>?_)
 replace hza:IsZip ha z TI TO .ellipsis:=hza
 refine XA ?_;simp only[List.zipIdx_cons,List.zipIdx_nil,List.forIn_cons,List.forIn_nil];have ne:∀{b c:WP} {l:List WP},b∈l->c∉l->b≠c:=λhb hc e=>hc (e▸hb);have a1:S1 i ha:=D1.frame i _ _ s1 λb hb o e=>sa.extBut _ _ (ne hb Z.z1) e;have a2:S2 i ha:=D2.frame i _ _ s2 λb hb o e=>sa.extBut _ _ (ne hb Z.z2) e;refine XA (XA (wpAny_onRaise ?_));show wpAny _ _ (Builtin.SmallTypes.nextOf (.ref i1)>>=_) _ _ _;refine XA (D1.item i {s with heap:=ha} _ _ hi a1 λx hb tb hx b1 sb=>XB ?_);have b2:S2 i hb:=D2.frame i _ _ a2 λb hm o e=>sb.extBut _ _ (ne hm Z.a12) e;have Oi1:TO≠i1:=λe=>Z.o1 (e▸Z.m1);have Oi2:TO≠i2:=λe=>Z.o2 (e▸Z.m2);have zi1:z≠i1:=λe=>Z.z1 (e▸Z.m1);have zi2:z≠i2:=λe=>Z.z2 (e▸Z.m2);have tob:IsPair hb TO u v:=sb.extBut _ _ Oi1 (sa.extBut _ _ Z.oz hTO);refine XA (wpAny_seqItems tob VS ?_);refine XA (wpAny_updateSeq_pair tob λhc toc sc=>?_)
 replace toc:IsPair hc TO x v:=toc
 refine XA (wpAny_letGo (XB ?_));have c1:S1 (i+1) hc:=D1.frame _ _ _ b1 λb hm o e=>sc.extBut _ _ (ne hm Z.o1) e;have c2:S2 i hc:=D2.frame _ _ _ b2 λb hm o e=>sc.extBut _ _ (ne hm Z.o2) e;refine XA (XA (wpAny_onRaise ?_));show wpAny _ _ (Builtin.SmallTypes.nextOf (.ref i2)>>=_) _ _ _;refine XA (D2.item i {s with heap:=hc,toks:=tb} _ _ hi c2 λy hd td hy d2 sd=>XB ?_);have d1:S1 (i+1) hd:=D1.frame _ _ _ c1 λb hm o e=>sd.extBut _ _ (ne hm Z.a21) e;have tod:IsPair hd TO x v:=sd.extBut _ _ Oi2 toc;refine XA (wpAny_seqItems tod VS ?_);refine XA (wpAny_updateSeq_pair tod λhe toe se=>?_)
 replace toe:IsPair he TO x y:=toe
 refine XA (wpAny_letGo (XB (XB ?_)));have e1:S1 (i+1) he:=D1.frame _ _ _ d1 λb hm o e=>se.extBut _ _ (ne hm Z.o1) e;have e2:S2 (i+1) he:=D2.frame _ _ _ d2 λb hm o e=>se.extBut _ _ (ne hm Z.o2) e;refine XA (wpAny_seqItems toe VS ?_);refine XA (wpAny_newTuple ?_);have hsz:he.objs.size=s.heap.objs.size:=by rw[se.1,sd.1,sc.1,sb.1,sa.1]
 have hze:IsZip he z TI TO .ellipsis:=se.extBut _ _ Z.oz.symm (sd.extBut _ _ zi2 (sc.extBut _ _ Z.oz.symm (sb.extBut _ _ zi1 hza)));have hke:∀c o,c≠z->c≠TO->c≠i1->c≠i2->s.heap.get? c=some o->he.get? c=some o:=λc o n1 n2 n3 n4 e=>se.extBut _ _ n2 (sd.extBut _ _ n4 (sc.extBut _ _ n2 (sb.extBut _ _ n3 (sa.extBut _ _ n1 e))));have hzlt:z<he.objs.size:=XD hze;show wpAny _ _ (Builtin.SmallTypes.ownedTupleHandOut (.ref z) (.ref he.objs.size)>>=_) _ _ _;refine XA ?_;unfold Builtin.SmallTypes.ownedTupleHandOut;have hzf:IsZip (he.push {cls:=.type "tuple",data:=.seq #[x,y]}) z TI TO .ellipsis:=XC _ hze;refine wpAny_bind (wpAny_setField_rec hzf (by simp) λhg hzg sg=>?_)
 replace hzg:IsZip hg z TI TO (rawInt he.objs.size):=hzg
 refine wpAny_setField_rec hzg (by simp) λhk hzk sk=>?_
 replace hzk:IsZip hk z TI TO (rawInt he.objs.size):=hzk
 have up:∀c o,c≠z->he.get? c=some o->hk.get? c=some o:=λc o n1 e=>sk.extBut _ _ n1 (sg.extBut _ _ n1 (XC _ e));have hT:IsPair hk he.objs.size x y:=sk.extBut _ _ (RL hzlt) (sg.extBut _ _ (RL hzlt) (XF _ VS));rw[hsz] at hzk hT;refine XB ⟨_,VS,?_⟩;show Q (.ref he.objs.size) _;rw[hsz];exact hQ x y hk td hx hy hzk (up _ _ Z.oz toe) (D1.frame _ _ _ e1 λb hm o e=>up _ o (ne hm Z.z1) e) (D2.frame _ _ _ e2 λb hm o e=>up _ o (ne hm Z.z2) e) hT λc o n1 n2 n3 n4 e=>up c o n1 (hke c o n1 n2 n3 n4 e)
def tM {u v:WQ}{Q:Fin->WR->Prop}(D1:Draws prog w A i1 f1 n P1 S1)(Z:ol z TI TO i1 i2 f1 f2)
  (hz:IsZip s.heap z TI TO .none) (hTI:IsPair s.heap TI (.ref i1) (.ref i2)) (hTO:IsPair s.heap TO u v) (s1:S1 n s.heap)
  (hE:∀h2 ex,(∀c o,c≠z->c≠TO->c≠i1->c≠i2->s.heap.get? c=some o->h2.get? c=some o)->(∃o,h2.get? ex=some o/\o.cls=.type "StopIteration")->E (.ref ex) {s with heap:=h2}):
  wpAny (model prog w) A (Builtin.«zip.__next__» ⟨[.ref z],[]⟩) Q E s:=by
 show wpAny _ _ (field (.ref z) 2>>=_) _ E s;refine XA (wpAny_field hz VS (x:=.bool false) VS ?_);show wpAny _ _ (field (.ref z) 3>>=_) _ E s;refine XA (wpAny_field hz VS (x:=.ref TI) VS ?_);refine XA (wpAny_seqItems hTI VS ?_);show wpAny _ _ (Builtin.SmallTypes.ownedTupleIsFree (.ref z)>>=_) _ E s;refine XA ?_;unfold Builtin.SmallTypes.ownedTupleIsFree;refine XA (wpAny_field hz VS (x:=.none) VS (XB ?_));simp only[if_true];refine XA (wpAny_rule ?_);refine XA (wpAny_field hz VS (x:=.ref TO) VS ?_);refine wpAny_bind (wpAny_setField_rec hz (by simp) λha hza sa=>?_)
 replace hza:IsZip ha z TI TO .ellipsis:=hza
 refine XA ?_;simp only[List.zipIdx_cons,List.zipIdx_nil,List.forIn_cons,List.forIn_nil];have ne:∀{b c:WP} {l:List WP},b∈l->c∉l->b≠c:=λhb hc e=>hc (e▸hb);have a1:S1 n ha:=D1.frame n _ _ s1 λb hb o e=>sa.extBut _ _ (ne hb Z.z1) e;refine XA (XA (wpAny_onRaise ?_));show wpAny _ _ (Builtin.SmallTypes.nextOf (.ref i1)>>=_) _ _ _;refine XA (D1.done {s with heap:=ha} _ _ a1 λhb ex sb he=>?_);obtain⟨oe,hoe,hce⟩:=he;have hzb:IsZip hb z TI TO .ellipsis:=sb _ _ (λe=>Z.z1 (e▸Z.m1)) hza;have hez:ex≠z:=λe=>by subst e;rw[hzb] at hoe;cases hoe;simp at hce
 exact wpAny_setField_rec hzb (by simp) λhc _ sc=>hE hc ex (λc o n1 _ n3 _ e=>sc.extBut _ _ n1 (sb _ _ n3 (sa.extBut _ _ n1 e))) ⟨oe,sc.extBut _ _ hez hoe,hce⟩
def zN (D1:Draws prog w A.in1 i1 f1 n P1 S1)(D2:Draws prog w A.in1 i2 f2 n P2 S2)(Z:ol z TI TO i1 i2 f1 f2):
  WalksT prog w A z (z::TI::TO::(f1++f2)) [z,TO,i1,i2] n (λi vals=>∃x y,P1 i x/\P2 i y/\vals=#[x,y])
   (λi h=>IsZip h z TI TO .none/\IsPair h TI (.ref i1) (.ref i2)/\(∃a b,IsPair h TO a b)/\S1 i h/\S2 i h)
   (λi T h=>IsZip h z TI TO (rawInt T)/\IsPair h TI (.ref i1) (.ref i2)/\(∃a b,IsPair h TO a b)/\S1 (i+1) h/\S2 (i+1) h/\T∉[z,TO,i1,i2]) where
 sub:=λc hc=>by
  simp only[ZM,ZN,or_false] at hc
  rcases hc with rfl | rfl | rfl | rfl
  ·simp
  ·simp
  ·simp[Z.m1]
  ·simp[Z.m2]
 frame:=λi h h2 st k=>by
  obtain⟨a,b,⟨u,v,c⟩,d,e⟩:=st;exact⟨k z (by simp) _ a,k TI (by simp) _ b,⟨u,v,k TO (by simp) _ c⟩,D1.frame _ _ _ d λx hx o q=>k x (by simp[hx]) o q,D2.frame _ _ _ e λx hx o q=>k x (by simp[hx]) o q⟩
 item:=λi s Q E hi st hQ=>by
  obtain⟨a,b,⟨u,v,c⟩,d,e⟩:=st;have hT:s.TypeIs (.ref z) "zip":=⟨_,a,VS⟩;unfold pyNext;refine XA (wpAny_attempt (wpAny_callSpecial?_slot (name:=Str.ofString "__next__") hT QI (wpAny_call_entry QI hT RN
   (wG D1 D2 Z hi a b c d e λx y h2 t2 hx hy z1 z2 z3 z4 z5 z6=>XB ?_) (RI _))))
  have lt:∀{c o},s.heap.get? c=some o->s.heap.objs.size≠c:=λe=>RL (XD e);obtain⟨o1,l1⟩:=D1.live _ _ d;obtain⟨o2,l2⟩:=D2.live _ _ e;refine hQ s.heap.objs.size #[x,y] h2 t2 ⟨x,y,hx,hy,VS⟩ (Nat.le_refl _) ⟨_,z5,VS,_,VS⟩ ⟨z1,z6 _ _ Z.tz Z.io Z.t1 Z.t2 b,⟨_,_,z2⟩,z3,z4,?_⟩ λc o hc q=>z6 c o (λx=>hc (by simp[x])) (λx=>hc (by simp[x])) (λx=>hc (by simp[x])) (λx=>hc (by simp[x])) q;simp only[List.mem_cons,List.not_mem_nil,or_false,not_or];exact⟨lt a,lt c,lt l1,lt l2⟩
 go:=λelts k pos i T s Q E hm hQ=>by
  obtain⟨a,b,⟨u,v,c⟩,d,e,_⟩:=hm;refine wpAny_letOwnedTupleGo_zip a λh2 hz2 s2=>hQ h2 ⟨hz2,s2.extBut _ _ Z.tz b,⟨u,v,s2.extBut _ _ Z.oz c⟩,?_,?_⟩ λc o hc q=>s2.extBut _ _ (λx=>hc (by simp[x])) q
  ·exact D1.frame _ _ _ d λx hx o q=>s2.extBut _ _ (λz'=>Z.z1 (z'▸hx)) q
  ·exact D2.frame _ _ _ e λx hx o q=>s2.extBut _ _ (λz'=>Z.z2 (z'▸hx)) q
 apart:=λi T h hm=>hm.2.2.2.2.2
 done:=λs Q E st hQ=>by
  obtain⟨a,b,⟨u,v,c⟩,d,e⟩:=st;have hT:s.TypeIs (.ref z) "zip":=⟨_,a,VS⟩;unfold pyNext;refine XA (wpAny_attempt (wpAny_callSpecial?_slot (name:=Str.ofString "__next__") hT QI (wpAny_call_entry QI hT RN (tM D1 Z a b c d λh2 ex hk he=>?_) (RI _))));obtain⟨o,ho,hc⟩:=he;refine XA (wpAny_isInstance (T:="StopIteration") (b:=true) ⟨o,ho,hc⟩ isSubtype_stop ?_);exact wpAny_pure (hQ h2 s.toks λc o hc q=>hk c o (λx=>hc (by simp[x])) (λx=>hc (by simp[x])) (λx=>hc (by simp[x])) (λx=>hc (by simp[x])) q)
 self:=λi s Q E st h=>wpAny_pyIter_zip st.1 h
end
abbrev m8 (c:String)(l:WP):Obj:={cls:=.type c,data:=.fields #[.ref l,.int 0 0]}
abbrev zA (h:WU)(c1:String)(l1:WP):WU:=h.push (m8 c1 l1)
abbrev zB (h:WU)(c1:String)(l1:WP)(c2:String)(l2:WP):WU:=(zA h c1 l1).push (m8 c2 l2)
abbrev zC (h:WU)(c1:String)(l1:WP)(c2:String)(l2:WP):WU:=(zB h c1 l1 c2 l2).push {cls:=.type "tuple",data:=.seq #[.ref h.objs.size,.ref (zA h c1 l1).objs.size]}
abbrev zD (h:WU)(c1:String)(l1:WP)(c2:String)(l2:WP):WU:=(zC h c1 l1 c2 l2).push {cls:=.type "tuple",data:=.seq #[.none,.none]}
abbrev zE (h:WU)(c1:String)(l1:WP)(c2:String)(l2:WP):WU:=(zD h c1 l1 c2 l2).push {cls:=.type "zip",data:=.fields #[.none,.bool false,.bool false,.ref (zB h c1 l1 c2 l2).objs.size,.ref (zC h c1 l1 c2 l2).objs.size]}
def dX (l1 l2:WP)(xs ys:Array WQ):Meets (Builtin.«zip.__new__» ⟨[.type "zip",.ref l1,.ref l2],[]⟩) (λ_ R s=>s.heap.IsTuple l1 xs/\s.heap.IsList l2 ys/\
  R (.ok (.ret (.ref (zD s.heap "tuple_iterator" l1 "list_iterator" l2).objs.size))) {s with heap:=zE s.heap "tuple_iterator" l1 "list_iterator" l2}):=
 .of_wp λprog w A R s h=>by
  obtain⟨hp,g,d,tk,os⟩:=s;obtain⟨hl1,hl2,h⟩:=h;have hsub:=sub_zip;have hL1:Heap.IsTuple (Shared.heap ⟨hp,g,d,tk,os⟩) l1 xs:=hl1;have hL2:Heap.IsList (Shared.heap ⟨hp.push {cls:=.type "tuple_iterator",data:=.fields #[.ref l1,.int 0 0]},g,d,tk,os⟩) l2 ys:=Heap.IsList.push hl2 _
  wp_walk using wpAny_pyIter_tuple hL1,wpAny_pyIter_list hL2
  exact⟨_,VS,h⟩
def dW (l1 l2:WP)(xs ys:Array WQ):Meets (Builtin.«zip.__new__» ⟨[.type "zip",.ref l1,.ref l2],[]⟩) (λ_ R s=>s.heap.IsTuple l1 xs/\s.heap.IsTuple l2 ys/\
  R (.ok (.ret (.ref (zD s.heap "tuple_iterator" l1 "tuple_iterator" l2).objs.size))) {s with heap:=zE s.heap "tuple_iterator" l1 "tuple_iterator" l2}):=
 .of_wp λprog w A R s h=>by
  obtain⟨hp,g,d,tk,os⟩:=s;obtain⟨hl1,hl2,h⟩:=h;have hsub:=sub_zip;have hL1:Heap.IsTuple (Shared.heap ⟨hp,g,d,tk,os⟩) l1 xs:=hl1;have hL2:Heap.IsTuple (Shared.heap ⟨hp.push {cls:=.type "tuple_iterator",data:=.fields #[.ref l1,.int 0 0]},g,d,tk,os⟩) l2 ys:=Heap.IsTuple.push hl2 _
  wp_walk using wpAny_pyIter_tuple hL1,wpAny_pyIter_tuple hL2
  exact⟨_,VS,h⟩
structure lA (h h2:Heap)(c1:String)(l1:Addr)(c2:String)(l2:Addr):Prop where
 zip:IsZip h2 (h.objs.size+4) (h.objs.size+2) (h.objs.size+3) .none
 its:IsPair h2 (h.objs.size+2) (.ref h.objs.size) (.ref (h.objs.size+1))
 own:IsPair h2 (h.objs.size+3) .none .none
 i1:h2.get? h.objs.size=some (m8 c1 l1)
 i2:h2.get? (h.objs.size+1)=some (m8 c2 l2)
 keep:∀c o,h.get? c=some o->h2.get? c=some o
def fJ (h:WU)(c1:String)(l1:WP)(c2:String)(l2:WP):lA h (zE h c1 l1 c2 l2) c1 l1 c2 l2/\(zD h c1 l1 c2 l2).objs.size=h.objs.size+4:=by
 have z1:(zA h c1 l1).objs.size=h.objs.size+1:=QU ..;have z2:(zB h c1 l1 c2 l2).objs.size=h.objs.size+2:=by rw[QU,z1]
 have z3:(zC h c1 l1 c2 l2).objs.size=h.objs.size+3:=by rw[QU,z2]
 have z4:(zD h c1 l1 c2 l2).objs.size=h.objs.size+4:=by rw[QU,z3]
 have g5:(zE h c1 l1 c2 l2).get? (zD h c1 l1 c2 l2).objs.size=some _:=XF _ VS;have g4:(zE h c1 l1 c2 l2).get? (zC h c1 l1 c2 l2).objs.size=some _:=XC _ (XF _ VS);have g3:(zE h c1 l1 c2 l2).get? (zB h c1 l1 c2 l2).objs.size=some _:=XC _ (XC _ (XF _ VS));have g2:(zE h c1 l1 c2 l2).get? (zA h c1 l1).objs.size=some _:=XC _ (XC _ (XC _ (XF _ VS)));have g1:(zE h c1 l1 c2 l2).get? h.objs.size=some _:=XC _ (XC _ (XC _ (XC _ (XF _ VS))));rw[z2,z3,z4] at g5;rw[z1,z2] at g3;rw[z3] at g4;rw[z1] at g2;exact⟨⟨g5,g3,g4,g1,g2,λc o x=>XC _ (XC _ (XC _ (XC _ (XC _ x))))⟩,z4⟩
section
variable {prog:WO}{w:WN}{A:WM}{E:WQ->WR->Prop}{s:WR}
def j8 {Q:WQ->WR->Prop}(hl1:s.heap.IsTuple l1 xs)(hl2:s.heap.IsList l2 ys)
  (h:∀h2,lA s.heap h2 "tuple_iterator" l1 "list_iterator" l2->Q (.ref (s.heap.objs.size+4)) {s with heap:=h2}):wpAny (model prog w) A (call (.type "zip") [.ref l1,.ref l2]) Q E s:=by
 refine callType_new PySem.F.called_zip (by decide) (PySem.F.typeCall_zip_2 _ _) (PySem.F.newCall_zip_2 _ _) (λobj=>PySem.F.args_object_init_3 obj _ _) PySem.F.entry_zip_new (dX l1 l2 xs ys) ⟨hl1,hl2,?_⟩;obtain⟨N,e⟩:=fJ s.heap "tuple_iterator" l1 "list_iterator" l2;show _/\_;rw[e];exact⟨⟨_,N.zip,VS⟩,h _ N⟩
def Ih {Q:WQ->WR->Prop}(hl1:s.heap.IsTuple l1 xs)(hl2:s.heap.IsTuple l2 ys)
  (h:∀h2,lA s.heap h2 "tuple_iterator" l1 "tuple_iterator" l2->Q (.ref (s.heap.objs.size+4)) {s with heap:=h2}):wpAny (model prog w) A (call (.type "zip") [.ref l1,.ref l2]) Q E s:=by
 refine callType_new PySem.F.called_zip (by decide) (PySem.F.typeCall_zip_2 _ _) (PySem.F.newCall_zip_2 _ _) (λobj=>PySem.F.args_object_init_3 obj _ _) PySem.F.entry_zip_new (dW l1 l2 xs ys) ⟨hl1,hl2,?_⟩;obtain⟨N,e⟩:=fJ s.heap "tuple_iterator" l1 "tuple_iterator" l2;show _/\_;rw[e];exact⟨⟨_,N.zip,VS⟩,h _ N⟩
def Bb {k l1 l2:WP}(h1:l1<k)(h2:l2<k):ol (k+4) (k+2) (k+3) k (k+1) [k,l1] [k+1,l2]:=by
 have e:∀{a b:Nat},a≠b->∀{l:List Nat},a∉l->a∉b::l:=λh _ h'=>by simp[h,h']
 have n:∀a:Nat,a∉([]:List Nat):=λa=>by simp
 have L1:(l1:Nat)<k:=h1;have L2:(l2:Nat)<k:=h2;have d:∀{a b:Nat},a<b\/b<a->a≠b:=λh e=>by omega
 exact⟨by simp,by simp,e (d (.inr (Nat.lt_add_of_pos_right (by decide)))) (e (d (.inr (Nat.lt_of_lt_of_le L1 (Nat.le_add_right _ _)))) (n _)),e (d (.inr (Nat.add_lt_add_left (by decide) k))) (e (d (.inr (Nat.lt_of_lt_of_le L2 (Nat.le_add_right _ _)))) (n _)),
  e (d (.inr (RP (by decide)))) (e (d (.inr (XG L1 (QJ _ _)))) (n _)),e (d (.inr (RO (by decide) k))) (e (d (.inr (XG L2 (QJ _ _)))) (n _)),
  e (d (.inl (RP (by decide)))) (e (d (.inr L2)) (n _)),e (d (.inr (RP (by decide)))) (e (d (.inr (XG L1 (QJ _ _)))) (n _)),
  d (.inl (RO (by decide) k)),d (.inl (RO (by decide) k)),d (.inl (RO (by decide) k)),d (.inr (RP (by decide))),d (.inr (RO (by decide) k))⟩
end
def kr (b:Bool)(K:WY)(H:Hp)(a:WP)(xs:List V):Prop:=if b then Ug K H a xs else Tg K H a xs
def Zas (b:Bool)(h:WU)(it l:WP)(i:Nat):Prop:=if b then h.IsListIter it l i else h.IsTupleIter it l i
def Zaq (b:Bool)(h:WU)(l:WP)(its:Array WQ):Prop:=if b then h.IsList l its else h.IsTuple l its
def cX (b:Bool):String:=if b then "list_iterator" else "tuple_iterator"
def vC {prog:WO}{w:WN}{A:WM}(b:Bool)(hh:A.handled=none)(it l:WP)(hne:l≠it)(its:Array WQ):
  Draws prog w A it [it,l] its.size (λi v=>its[i]?=some v) (λi h=>Zas b h it l i/\Zaq b h l its):=by
 cases b
 ·exact Vz hh it l hne its
 ·exact Draws.list hh it l hne its
section
variable {X:Cx}{WZ:List (WP×Obj)}{σ:St}{H:Hp}{s:WR}
def Z7.sqX (I:Z7 X WZ σ H s)(h:kr b X.K H a xs):∃its:List WQ,Yd xs its/\Zaq b s.heap a its.toArray:=by
 cases b
 ·obtain⟨its,r,p,_⟩:=I.tuple h;exact⟨its,r,p⟩
 ·obtain⟨its,r,p,_⟩:=I.list h;exact⟨its,r,p.isList⟩
def Z7.sqX_inj (I:Z7 X WZ σ H s)(h:kr b X.K H a xs)(h':kr b X.K H a ys):xs=ys:=by
 cases b
 ·exact I.tuple_inj h h'
 ·exact I.list_inj h h'
end
def aU (b:Bool)(K:WY)(l1 l2:WP):It:=
 ⟨λi H=>∃xs ys,Tg K H l1 xs/\kr b K H l2 ys/\xs.length=ys.length/\i<xs.length,
  λi H x H'=>∃u v T,(∀xs,Tg K H l1 xs->xs[i]?=some u)/\(∀ys,kr b K H l2 ys->ys[i]?=some v)/\x=.ref T/\H T=none/\H'=J7 H T (.tup [u,v]),
  λi H=>∃xs ys,Tg K H l1 xs/\kr b K H l2 ys/\xs.length=ys.length/\i=xs.length⟩
def tX {P:WO}{w:WN}{K:WY}{elts:List WW}{ek:Nat}{epos:Pos}(b:Bool){k l1 l2:WP}(h1:l1<k)(h2:l2<k):
  jD P w K (.Tuple elts ek epos) (aU b K l1 l2) [k+4,k+2,k+3,k,k+1] (k+4)
   (λi h=>IsZip h (k+4) (k+2) (k+3) .none/\IsPair h (k+2) (.ref k) (.ref (k+1))/\(∃a c,IsPair h (k+3) a c)/\h.IsTupleIter k l1 i/\Zas b h (k+1) l2 i) where
 mem:=by simp
 obj:=λi h st c hc=>by
  obtain⟨a1,a2,⟨u,v,a3⟩,a4,a5⟩:=st;simp only[ZM,ZN,or_false] at hc
  rcases hc with rfl | rfl | rfl | rfl | rfl
  ·exact⟨_,a1,λv z=>by have z':Data.fields _=Data.cell v:=z;cases z'⟩
  ·exact⟨_,a2,λv z=>by have z':Data.seq _ _=Data.cell v:=z;cases z'⟩
  ·exact⟨_,a3,λv z=>by have z':Data.seq _ _=Data.cell v:=z;cases z'⟩
  ·obtain⟨o,e,c,d⟩:=a4;exact⟨o,e,λv z=>by rw[d] at z;cases z⟩
  ·cases b
   ·obtain⟨o,e,c,d⟩:=a5;exact⟨o,e,λv z=>by rw[d] at z;cases z⟩
   ·obtain⟨o,e,c,d⟩:=a5;exact⟨o,e,λv z=>by rw[d] at z;cases z⟩
 keep:=λi h h' st kp=>by
  obtain⟨a1,a2,⟨u,v,a3⟩,a4,a5⟩:=st;refine⟨kp _ (by simp) _ a1,kp _ (by simp) _ a2,⟨u,v,kp _ (by simp) _ a3⟩,a4.at λo e=>kp _ (by simp) o e,?_⟩
  cases b
  ·exact Heap.IsTupleIter.at a5 λo e=>kp _ (by simp) o e
  ·exact Heap.IsListIter.at a5 λo e=>kp _ (by simp) o e
 item:=by
  intro X hP hw hK hc i WZ s σ H E I hf st hg;subst hP hw hK;obtain⟨xs,ys,hq1,hq2,hlen,hi⟩:=hg;obtain⟨its1,rv1,p1,_⟩:=I.tuple hq1;obtain⟨its2,rv2,p2⟩:=I.sqX hq2;obtain⟨a1,a2,a3,a4,a5⟩:=st;have hn1:its1.toArray.size=xs.length:=by rw[XJ,rv1.length]
  have hn2:its2.toArray.size=xs.length:=by rw[XJ,<-rv2.length,hlen]
  have D1:=Vz (prog:=X.prog) (w:=X.w) (A:=X.A.in1) (I.ok.hd hc) k l1 (XH h1) its1.toArray;have D2:=vC (prog:=X.prog) (w:=X.w) (A:=X.A.in1) b (I.ok.hd hc) (k+1) l2 (XH (SN h2)) its2.toArray;rw[hn1] at D1;rw[hn2] at D2;have W:=zN D1 D2 (Bb h1 h2);refine W.item i s _ _ hi ⟨a1,a2,a3,⟨a4,p1⟩,⟨a5,p2⟩⟩ λT vals h' tk hv hT htup hm kk=>?_;obtain⟨x,y,hx,hy,rfl⟩:=hv;refine⟨_,rfl,W.go elts ek epos i T {s with heap:=h',toks:=tk} _ _ hm λh2 st2 kk2=>?_⟩;have hu:xs[i]?=some xs[i]:=by simp[hi]
  have hv:ys[i]?=some (ys[i]'(by omega)):=by simp[show i<ys.length by omega]
  obtain⟨u1,e1,r1⟩:=rv1.get hu;obtain⟨u2,e2,r2⟩:=rv2.get hv;have ex:x=u1:=by
   have:its1[i]?=some x:=by simpa using hx
   rw[e1] at this;exact(YH this).symm
  have ey:y=u2:=by
   have:its2[i]?=some y:=by simpa using hy
   rw[e2] at this;exact(YH this).symm
  subst ex ey;have hTn:H T=none:=I.hok.fresh hT;have hTw:T∉[k+4,k+3,k,k+1]:=W.apart i T h' hm;have sub:∀c,c∈[k+4,k+3,k,k+1]->c∈[k+4,k+2,k+3,k,k+1]:=λc hc=>by
   simp only[ZM,ZN,or_false] at hc |-
   rcases hc with z | z | z | z<;>simp[z]
  have k2:∀c o,c∉[k+4,k+3,k,k+1]->s.heap.get? c=some o->h2.get? c=some o:=λc o hb q=>kk2 c o hb (kk c o hb q);have htup2:IsTup h2 T #[x,y]:=by
   obtain⟨o,ho,r⟩:=htup;exact⟨o,kk2 T o hTw ho,r⟩
  have hfp:∀c∈[k+4,k+3,k,k+1],H c=none:=λc hb=>(hf c (sub c hb)).1;have hne:∀c,c<s.heap.objs.size->c≠T:=λc hb=>XH (XG hb hT);have tracked:∀c u,H c=some u->c≠T/\c∉[k+4,k+3,k,k+1]:=λc u q=>⟨hne c (I.hok.lt q),λz=>by rw[hfp c z] at q;cases q⟩;have I1:Z7 X WZ σ (J7 H T (.tup [xs[i],ys[i]'(by omega)])) {s with heap:=h2,gens:=s.gens,drawn:=s.drawn,toks:=tk}:=by
   refine I.step (ch:=[k+4,k+3,k,k+1]) (λc hb=>?_) (λc o _ _ hc q _=>k2 c o hc q) (λc o _ _ hc q _=>⟨o.slots,k2 c o hc q⟩) (λc o hc q n=>by rw[Yi (hne c (XD q))];exact n) (λc o hc q=>⟨o,k2 c o hc q⟩)
    (λc xs q=>by rw[Yi (tracked c _ q).1];exact q) (λc o u q=>by rw[Yi (tracked c _ q).1];exact q) (λc ps q=>⟨#[],by rw[Yi (tracked c _ q).1,q];simp⟩) (λm hm=>?_) (λc u q=>?_) I.bare
   ·obtain⟨f0,f1,f2,f3,f4,f5⟩:=hf c (sub c hb);exact⟨f3,f1,f4,f5⟩
   ·obtain⟨o,es,ep,ho,r⟩:=hm;exact⟨o,es,ep,k2 _ o (λz=>(hf _ (sub _ z)).2.1 VS) ho,r⟩
   ·by_cases hb:c=T
    ·subst hb;rw[Yy] at q;cases q;exact⟨XN (by decide:2<=1000) (SF (Dy (XE _))),[x,y],.cons r1 (.cons r2 .nil),htup2⟩
    ·rw[Yi hb] at q;refine(I.hok c u q).stay (λd v hd r=>k2 d v ?_ r) (λd r=>by rw[Yi (tracked d _ r).1];exact r) λd xs r=>by rw[Yi (tracked d _ r).1];exact r
     rcases hd with rfl | hd
     ·exact(tracked d _ q).2
     ·exact(tracked d _ hd).2
  obtain⟨b1,b2,b3,⟨b4,_⟩,⟨b5,_⟩⟩:=st2;refine⟨.ref T,_,I1,VS,⟨_,_,T,λzs hz=>by rw[I.tuple_inj hz hq1];exact hu,λzs hz=>by rw[I.sqX_inj hz hq2];exact hv,VS,hTn,VS⟩,⟨b1,b2,b3,b4,b5⟩,λc hb=>?_⟩;have hbT:c≠T:=by
   obtain⟨o,ho⟩:∃o,s.heap.get? c=some o:=by
    obtain⟨u,v,a3⟩:=a3;simp only[ZM,ZN,or_false] at hb
    rcases hb with rfl | rfl | rfl | rfl | rfl
    ·exact⟨_,a1⟩
    ·exact⟨_,a2⟩
    ·exact⟨_,a3⟩
    ·obtain⟨o,e,_⟩:=a4;exact⟨o,e⟩
    ·cases b
     ·obtain⟨o,e,_⟩:=a5;exact⟨o,e⟩
     ·obtain⟨o,e,_⟩:=a5;exact⟨o,e⟩
   exact hne c (XD ho)
  rw[Yi hbT];exact(hf c hb).1
 done:=by
  intro X hP hw hK hc i WZ s σ H E I hf st hg;subst hP hw hK;obtain⟨xs,ys,hq1,hq2,hlen,hi⟩:=hg;obtain⟨its1,rv1,p1,_⟩:=I.tuple hq1;obtain⟨its2,rv2,p2⟩:=I.sqX hq2;obtain⟨a1,a2,a3,a4,a5⟩:=st;have hn1:its1.toArray.size=xs.length:=by rw[XJ,rv1.length]
  have hn2:its2.toArray.size=xs.length:=by rw[XJ,<-rv2.length,hlen]
  have D1:=Vz (prog:=X.prog) (w:=X.w) (A:=X.A.in1) (I.ok.hd hc) k l1 (XH h1) its1.toArray;have D2:=vC (prog:=X.prog) (w:=X.w) (A:=X.A.in1) b (I.ok.hd hc) (k+1) l2 (XH (SN h2)) its2.toArray;rw[hn1] at D1;rw[hn2] at D2;subst hi;have W:=zN D1 D2 (Bb h1 h2);have sub:∀c,c∈[k+4,k+3,k,k+1]->c∈[k+4,k+2,k+3,k,k+1]:=λc hc=>by
   simp only[ZM,ZN,or_false] at hc |-
   rcases hc with z | z | z | z<;>simp[z]
  refine W.done s _ _ ⟨a1,a2,a3,⟨a4,p1⟩,⟨a5,p2⟩⟩ λh' tk kk=>⟨VS,?_⟩;exact I.step (g':=s.gens) (d':=s.drawn) (ch:=[k+4,k+3,k,k+1]) (λc hb=>let ⟨f0,f1,f2,f3,f4,f5⟩:=hf c (sub c hb);⟨f3,f1,f4,f5⟩) (λc o _ _ hc q _=>kk c o hc q) (λc o _ _ hc q _=>⟨o.slots,kk c o hc q⟩) (λc o _ _ n=>n) (λc o hc q=>⟨o,kk c o hc q⟩)
    (λ_ _ q=>q) (λ_ _ _ q=>q) (λc ps q=>⟨#[],by rw[q];simp⟩) (λm hm=>let ⟨o,es,ep,ho,r⟩:=hm;⟨o,es,ep,kk _ o (λz=>(hf _ (sub _ z)).2.1 VS) ho,r⟩)
    (λc u q=>(I.hok c u q).stay (λd v hd r=>kk d v (λz=>by
     rcases hd with rfl | hd
     ·rw[(hf _ (sub _ z)).1] at q;cases q
     ·rw[(hf _ (sub _ z)).1] at hd;cases hd) r) (λ_ r=>r) λ_ _ r=>r) I.bare
 self:=λA i s Q E st h=>wpAny_pyIter_zip st.1 h
section
variable {X:Cx}{elts:List WW}{ek:Nat}{epos:Pos}
def ai (K:WY)(ta:TA):TI:=λσ H R=>ta σ H λvs H1=>∃(b:Bool) (l1 l2:WP) (xs ys:List V),vs=[.ref l1,.ref l2]/\Tg K H1 l1 xs/\kr b K H1 l2 ys/\R (aU b K l1 l2) H1
def i6 {a c:WW}{p pos:Pos}(hg:Gl X "zip")(hm:X.mg "zip"=none)(ha:PA X [a,c] ta)(hs:starEach [a,c] X.env=(false,eval a X.env)::starEach [c] X.env:=by rfl)(hp:(backTo pos (starEach [c] X.env)).any (·.1)=false:=by rfl)(hb:bootBuiltins "zip"=some (.type "zip"):=by decide+kernel):
  PI X (.Tuple elts ek epos) (.Call (.Name "zip" p) [a,c] [] pos) (ai X.K ta):=by
 intro WZ s σ H R I h;refine Call_ (Rh I hg hm hb (QF (J5 (ha pos WZ s σ H _ I h) λus s1 ⟨vs,H1,I1,r1,q1⟩=>?_) hs hp));obtain⟨b,l1,l2,xs,ys,rfl,hq1,hq2,q⟩:=q1;obtain⟨u,v,rfl,ru,rv⟩:=r1.two
 cases ru
 cases rv
 obtain⟨its1,rv1,p1,_⟩:=I1.tuple hq1;obtain⟨its2,rv2,p2⟩:=I1.sqX hq2;have lt1:l1<s1.heap.objs.size:=by obtain⟨_,e,_⟩:=p1;exact XD e
 have lt2:l2<s1.heap.objs.size:=by
  cases b
  ·obtain⟨_,e,_⟩:=p2;exact XD e
  ·obtain⟨_,e,_⟩:=p2;exact XD e
 have fin:∀h2,lA s1.heap h2 "tuple_iterator" l1 (cX b) l2->wpAny (model X.prog X.w) X.A (pyIter (.ref (s1.heap.objs.size+4))) (cS X WZ σ (.Tuple elts ek epos) R) X.xe {s1 with heap:=h2}:=λh2 N=>by
  refine wpAny_pyIter_zip (s:={s1 with heap:=h2}) N.zip ?_;refine⟨_,_,_,_,H1,VS,I1.kept (t':=s1.toks) N.keep,tX b lt1 lt2,⟨N.zip,N.its,⟨_,_,N.own⟩,⟨_,N.i1,VS,VS⟩,?_⟩,λc hc=>?_,q⟩
  ·cases b
   ·exact⟨_,N.i2,VS,VS⟩
   ·exact⟨_,N.i2,VS,VS⟩
  ·have e:s1.heap.objs.size<=c:=by
    simp only[ZM,ZN,or_false] at hc
    rcases hc with rfl | rfl | rfl | rfl | rfl
    ·exact QJ _ _
    ·exact QJ _ _
    ·exact QJ _ _
    ·exact XE _
    ·exact QJ _ _
   exact I1.fpOk e (I1.hok.fresh e)
 cases b
 ·exact Ih p1 p2 fin
 ·exact j8 p1 p2 fin
end
section
variable {X:Cx}
def xn (bs:List Bool):((List.range bs.length).any λi=>(bs[i]?).getD false)=bs.any id:=by
 rw[Bool.eq_iff_iff,RX,RX];constructor
 ·rintro⟨i,hi,h⟩;have hi':=List.mem_range.mp hi;exact⟨bs[i],List.getElem_mem hi',by simpa[hi'] using h⟩
 ·rintro⟨x,hx,h⟩;obtain⟨i,hi,rfl⟩:=List.mem_iff_getElem.mp hx;exact⟨i,List.mem_range.mpr hi,by simpa[hi] using h⟩
def uX (hc:X.calm=true):Uh X (.builtin "any") (λxs H Q=>∃(p:WP) (bs:List Bool),xs=[.ref p]/\Ug X.K H p (bs.map V.bl)/\Q (.bl (bs.any id)) H):=by
 intro WZ s σ H xs us Q I r h;obtain⟨p,bs,rfl,hq,q⟩:=h;obtain⟨u,rfl,ru⟩:=Ru r
 cases ru
 obtain⟨its,rv,pl,hz⟩:=I.list hq;have hl:=pl.isList;have hlt:p<s.heap.objs.size:=by obtain⟨_,e,_⟩:=hl;exact XD e
 have hlen:its.length=bs.length:=by have:=rv.length;simp at this;omega
 refine call_any_walk (wpAny_pyIter_list hl ?_);refine⟨s.heap.objs.size,[s.heap.objs.size,p],[s.heap.objs.size],its.toArray.size,_,_,λi=>(bs[i]?).getD false,VS,Walks.list (A:=X.A.in1) (I.ok.hd hc) _ p (XH hlt) its.toArray,
  ⟨⟨_,XF _ VS,VS,VS⟩,hl.push _⟩,λi v s' Q' E' hP hQ=>?_,λh' tk hk=>?_⟩
 ·have hv:its[i]?=some v:=by simpa using hP
  have hi:i<its.length:=(PY.mp hv).1;have hb:(bs.map V.bl)[i]?=some (.bl bs[i]):=by simp[show i<bs.length by omega]
  obtain⟨u,hu,ru⟩:=rv.get hb;rw[hv] at hu;cases hu
  cases ru
  have e:(bs[i]?).getD false=bs[i]:=by simp[show i<bs.length by omega]
  have hQ2:Q' ((bs[i]?).getD false) s':=hQ;rw[e] at hQ2;exact wpAny_truthy_bool hQ2
 ·have e:((List.range its.toArray.size).any λi=>(bs[i]?).getD false)=bs.any id:=by
   rw[XJ,hlen];exact xn bs
  rw[e];refine⟨.bl (bs.any id),H,I.kept λb o x=>hk b o (λhm=>?_) (XC _ x),VS,q⟩;have:=XQ.mp hm;subst this;exact RA _ (XD x)
end
section
variable {prog:WO}{w:WN}{K:Type}[DecidableEq K]{knd:KeyKind prog w K}
def Ll:∀{es:List DictEntry} {kvs:List (K×WQ)} {i:Nat} {e:DictEntry},Pairs knd es kvs->es[i]?=some e->∃kv,kvs[i]?=some kv/\knd.is kv.1 e.key=true/\e.val=kv.2
 | _,_,_,_,.nil,h=>by simp at h
 | _,_,0,_,.cons a b _,h=>by simp at h;subst h;exact⟨_,VS,a,b⟩
 | _,_,i+1,e,.cons _ _ t,h=>by
  obtain⟨kv,h1,h2⟩:=Ll (i:=i) (e:=e) t (by simpa using h);exact⟨kv,by simpa using h1,h2⟩
def mH {es:Array DictEntry}(hp:Pairs knd es.toList kvs)(hn:(kvs.map (·.1)).Nodup){i:Nat}(hi:kvs[i]?=some kv)(hl:i<es.size):(es.findIdx? λe=>knd.is kv.1 e.key)=some i:=by
 rw[Array.findIdx?_eq_some_iff_getElem];have at_:∀j (hj:j<es.size),∃kv',kvs[j]?=some kv'/\knd.is kv'.1 es[j].key=true:=λj hj=>by
  obtain⟨kv',h1,h2,_⟩:=Ll (i:=j) (e:=es[j]) hp (by simp[hj]);exact⟨kv',h1,h2⟩
 refine⟨hl,?_,λj hj=>?_⟩
 ·obtain⟨kv',h1,h2⟩:=at_ i hl;rw[hi] at h1;cases h1;exact h2
 ·obtain⟨kv',h1,h2⟩:=at_ j (by omega);rw[KeyKind.is_eq_decide h2];intro z;have hk:kv.1=kv'.1:=by simpa using z
  have e1:(kvs.map (·.1))[i]?=some kv.1:=by rw[XM,hi];rfl
  have e2:(kvs.map (·.1))[j]?=some kv.1:=by rw[XM,h1,hk];rfl
  have:=(TX (by rw[XI];exact(PY.mp hi).1) hn).mp (e1.trans e2.symm);omega
end
end L2
namespace WL
open PySem PySem.Spec PyProof.Rows L2
section
variable {X:Cx}{e o a b f:WW}{we wo wa wb wi wd:WE}{wA:WA}{p p2 pos pos2 apos cpos:Pos}
def gS:bootBuiltins "any"=some (.builtin "any"):=by decide+kernel
def lm:bootBuiltins "dict"=some (.type "dict"):=by decide+kernel
def cI:List T->Hw->WK->Prop:=λvs C Q=>∃(a:WP) (bs:List Bool),vs=[.ref a]/\C a=some (.lst (bs.map T.bl))/\Q (.bl (bs.any id)) C
def cG (hc:X.calm=true):Nm X (.builtin "any") cI:=⟨_,uX hc,λF H C xs vs Q Q' R rs h q=>by
 obtain⟨a,bs,rfl,hx,h⟩:=h;obtain⟨x,rfl,rx⟩:=Vd rs
 cases Yb rx
 obtain⟨ys,hy,r⟩:=R.lst hx
 cases yr r
 exact⟨a,bs,VS,Ug.of hy,q _ _ H C R (Tx.refl H) Xf h⟩⟩
def jq (kvs:List (Jb×T))(k:Jb):List (Jb×T):=kvs.filter λkv=>decide (kv.1≠k)
def PR.drop {K:WY}{k:Jb}:∀{ks:List (Jb×V)} {kvs:List (Jb×T)},PR K H ks kvs->PR K H (L0 ks k) (jq kvs k)
 | _,_,.nil=>.nil
 | p::r,q::s,.cons h t=>by
  have ih:=PR.drop (k:=k) t;unfold L0 jq at ih |-;by_cases c:q.1=k
  ·have c':p.1=k:=h.1.trans c;rw[List.filter_cons_of_neg (by simp[c']),List.filter_cons_of_neg (by simp[c])];exact ih
  ·have c':¬p.1=k:=λz=>c (h.1.symm.trans z);rw[List.filter_cons_of_pos (by simp[c']),List.filter_cons_of_pos (by simp[c])];exact .cons h ih
def wm (o i d:WE):WE:=λτ C Q χ=>o τ C (λx C1=>(∃a kvs,x=.ref a/\C1 a=some (.dic kvs))/\i τ C1 (λy C2=>d τ C2 (λz C3=>∃a kvs k,x=.ref a/\kT y=some k/\C3 a=some (.dic kvs)/\
 (∀v,Wz kvs k=some v->Q v (up C3 a (.dic (jq kvs k))))/\(Wz kvs k=none->Q z C3)) χ) χ) χ
def mV (ho:X0 X o wo)(he:X0 X e wi)(hf:X0 X f wd)(m:M2 X o "pop" apos e f cpos):X0 X (.Call (.Attribute o "pop" apos) [e,f] [] cpos) (wm wo wi wd):=by
 obtain⟨ta,p1,s1⟩:=ho;obtain⟨tb,p2,s2⟩:=he;obtain⟨tc,p3,s3⟩:=hf;refine⟨_,rO p1 p2 p3 m,λF H C σ τ Q Q' χ R S h q=>?_⟩;refine s1 F H C σ τ _ _ χ R S h λx v H1 C1 R1 t1 rx h1=>?_;obtain⟨⟨l,kvs0,rfl,hC0⟩,h1⟩:=h1
 cases Yb rx
 obtain⟨ks0,hH0,_⟩:=R1.dic hC0;refine⟨l,VS,.inl ⟨ks0,.inl hH0⟩,?_⟩;refine s2 F H1 C1 σ τ _ _ χ R1 (S.tx t1) h1 λy u H2 C2 R2 t2 ry h2=>?_;refine s3 F H2 C2 σ τ _ _ χ R2 (S.tx (t1.trans t2)) h2 λz w H3 C3 R3 t3 rz h3=>?_;obtain⟨l',kvs,k,e',hk,hC,h4,h5⟩:=h3
 cases e'
 obtain⟨ks,hH,pr⟩:=R3.dic hC;have t:=(t1.trans t2).trans t3;refine⟨ks,k,hH,Oj hk (ry.tx t3),λv hv=>?_,λhv=>?_⟩
 ·cases hg:Wz kvs k with
  | none=>rw[(PR.get pr k).1 hg] at hv;cases hv
  | some w=>
   obtain⟨z',hz,rz'⟩:=(PR.get pr k).2 w hg;rw[hz] at hv;cases hv;obtain⟨R',t'⟩:=R3.putD hC (PR.drop (k:=k) pr);exact q _ _ _ _ R' (t.trans t') (rz'.tx t') (h4 w hg)
 ·have hn:Wz kvs k=none:=by
   cases hg:Wz kvs k with
   | none=>rfl
   | some w=>obtain⟨z',hz,_⟩:=(PR.get pr k).2 w hg;rw[hz] at hv;cases hv
  exact q _ _ H3 C3 R3 t rz (h5 hn)
def rE {K:WY}:∀{ks:List (Jb×V)} {kvs:List (Jb×T)} {i:Nat} {p:Jb×V},PR K H ks kvs->ks[i]?=some p->∃q,kvs[i]?=some q/\p.1=q.1/\Xh K H p.2 q.2
 | _,_,_,_,.nil,h=>by simp at h
 | _,_,0,_,.cons a _,h=>by simp at h;subst h;exact⟨_,VS,a.1,a.2⟩
 | _,_,i+1,p,.cons _ t,h=>by
  obtain⟨q,h1,h2⟩:=rE (i:=i) (p:=p) t (by simpa using h);exact⟨q,by simpa using h1,h2⟩
def qD:∀{ks:List (Jb×V)} {vs:List (Jb×WQ)} {i:Nat} {p:Jb×WQ},KV ks vs->vs[i]?=some p->∃q,ks[i]?=some q/\q.1=p.1/\Yh q.2 p.2
 | _,_,_,_,.nil,h=>by simp at h
 | _,_,0,_,.cons a _,h=>by simp at h;subst h;exact⟨_,VS,a.1,a.2⟩
 | _,_,i+1,p,.cons _ t,h=>by
  obtain⟨q,h1,h2⟩:=qD (i:=i) (p:=p) t (by simpa using h);exact⟨q,by simpa using h1,h2⟩
def Ba (xs ys:List T):List T:=List.zipWith (λx y=>T.tup [x,y]) xs ys
def ah (a:WA):WI:=λτ C R χ=>a τ C (λvs C1=>(∃xs ys,vs=[.tup xs,.tup ys]/\xs.length=ys.length/\R (Ba xs ys) (λ_=>True) C1)\/
 ∃xs ys l,vs=[.tup xs,.ref l]/\C1 l=some (.lst ys)/\xs.length=ys.length/\R (Ba xs ys) (λC2=>C2 l=some (.lst ys)) C1) χ
def o9 {xs ys:List T}{i:Nat}(hx:xs[i]?=some x)(hy:ys[i]?=some y):(Ba xs ys)[i]?=some (.tup [x,y]):=by
 unfold Ba;rw[List.getElem?_zipWith,hx,hy]
def qJ {K:WY}{F H0:Hp}(b:Bool){l1 l2:WP}{xs ys:List T}{ok:Hw->Prop}(h1:Tg K H0 l1 ys1)(r1:Reps K H0 ys1 xs)(hl:xs.length=ys.length)
  (h2:∀H C,Rl K F H C->Tx H0 H->ok C->∃ys2,kr b K H l2 ys2/\Reps K H ys2 ys):Ij K F H0 (aU b K l1 l2) (Ba xs ys) ok:=λi H C R t hok=>by
 have q1:=t.sqt h1;have r1':=r1.tx t;obtain⟨ys2,q2,r2⟩:=h2 H C R t hok;have hlz:(Ba xs ys).length=xs.length:=by unfold Ba;simp;omega
 have e1:=r1'.length;have e2:=r2.length;refine⟨λhi=>?_,λhi=>⟨ys1,ys2,q1,q2,by omega,by omega⟩⟩;rw[hlz] at hi;refine⟨⟨ys1,ys2,q1,q2,by omega,by omega⟩,λx H' h=>?_⟩;obtain⟨u,v,Tt,hu,hv,rfl,hT,rfl⟩:=h;obtain⟨x,hx,rx⟩:=r1'.get' (hu ys1 q1);obtain⟨y,hy,ry⟩:=r2.get' (hv ys2 q2);exact⟨_,o9 hx hy,R.hid hT,Tx.new hT,Vk (Tg.of Yy) (Yn (rx.tx (Tx.new hT)) (Yn (ry.tx (Tx.new hT)) Jv))⟩
def gI {elts:List WW}{ek:Nat}{epos:Pos}(hg:Gl X "zip")(hm:X.mg "zip"=none)(ha:Dn X [a,b] wA)(hs:starEach [a,b] X.env=(false,eval a X.env)::starEach [b] X.env:=by rfl)(hp:(backTo pos (starEach [b] X.env)).any (·.1)=false:=by rfl):
  fC X (.Tuple elts ek epos) (.Call (.Name "zip" p) [a,b] [] pos) (ah wA):=by
 obtain⟨t,p1,s⟩:=ha;refine⟨_,i6 hg hm p1 hs hp,λF H C σ τ R R' χ Rr S h q=>?_⟩;refine s F H C σ τ _ _ χ Rr S h λxs vs H1 C1 R1 t1 rs h1=>?_
 rcases h1 with⟨ts,us,rfl,hl,h1⟩ | ⟨ts,us,l,rfl,hC,hl,h1⟩
 ·obtain⟨x,y,rfl,rx,ry⟩:=Am rs;obtain⟨l1,y1,rfl,q1,r1⟩:=Yw rx;obtain⟨l2,y2,rfl,q2,r2⟩:=Yw ry;exact⟨false,l1,l2,y1,y2,VS,q1,q2,q _ H1 _ _ C1 R1 t1 (λF'=>qJ false q1 r1 hl λH C _ t _=>⟨y2,t.sqt q2,r2.tx t⟩) h1⟩
 ·obtain⟨x,y,rfl,rx,ry⟩:=Am rs;obtain⟨l1,y1,rfl,q1,r1⟩:=Yw rx
  cases Yb ry
  obtain⟨y2,hy,r2⟩:=R1.lst hC;refine⟨true,l1,l,y1,y2,VS,q1,Ug.of hy,q _ H1 _ _ C1 R1 t1 (λF'=>qJ true q1 r1 hl λH C R' t hok=>?_) h1⟩;obtain⟨y3,hy3,r3⟩:=R'.lst hok;exact⟨y3,Ug.of hy3,r3⟩
end
end WL
namespace L2
open PySem PySem.Spec PyProof.Rows
section
variable {X:Cx}{WZ:List (WP×Obj)}{σ:St}{H:Hp}{s:WR}
end
def Zbu (o:Obj)(d:WP)(ks:List (Jb×V)):It:=
 ⟨λi H=>H d=some (.frz o (.dK ks))/\i<ks.length,λi H x H'=>H'=H/\∃kv,ks[i]?=some kv/\x=kV kv.1,λi H=>H d=some (.frz o (.dK ks))/\i=ks.length⟩
section
variable {X:Cx}{tg e:WW}
def Zbh (td:TE):TI:=λσ H R=>td σ H λx H1=>∃d ks,x=.ref d/\Rd H1 d (.dK ks)/\∀o,(∀o',H1 d=some (.frz o' (.dK ks))->o'=o)->R (Zbu o d ks) (J7 H1 d (.frz o (.dK ks)))
end
end L2
namespace WL
open PySem PySem.Spec PyProof.Rows L2
def RdC (C:Hw)(a:WP)(kvs:List (Jb×T)):Prop:=C a=some (.dic kvs)\/C a=some (.fdic kvs)
def Rl.rd {K:WY}{F H:Hp}(R:Rl K F H C)(h:RdC C a kvs):∃ks,Rd H a (.dK ks)/\PR K H ks kvs:=by
 rcases h with h | h
 ·obtain⟨ks,hH,pr⟩:=R.dic h;exact⟨ks,.inl hH,pr⟩
 ·exact R.obj a _ h
section
variable {X:Cx}{e o a b c f i:WW}{we wo wa wb wi wd:WE}{wA:WA}{p p2 pos pos2 apos cpos:Pos}{tg:WW}
def tP:W2:=λx y C Q=>∃a kvs k v,x=.ref a/\kT y=some k/\RdC C a kvs/\Wz kvs k=some v/\Q v C
def lJ (neg:Bool):W2:=λy x C Q=>∃a kvs k,x=.ref a/\kT y=some k/\RdC C a kvs/\Q (.bl (if neg then !(Wz kvs k).isSome else(Wz kvs k).isSome)) C
abbrev fK:W2:=lJ false
def pD (hu:X.A.units+150<cLine)(ha:X0 X a wa)(hb:X0 X b wb)(hs:fi b):X0 X (.Subscript a b pos) (Zf tP wa wb):=by
 obtain⟨ta,p1,s1⟩:=ha;obtain⟨tb,p2,s2⟩:=hb;refine⟨_,nV (by omega) p1 p2 hs,λF H C σ τ Q Q' χ R S h q=>?_⟩;refine s1 F H C σ τ _ _ χ R S h λx v H1 C1 R1 t1 rx h1=>?_;refine s2 F H1 C1 σ τ _ _ χ R1 (S.tx t1) h1 λy u H2 C2 R2 t2 ry h2=>?_;obtain⟨l,kvs,k,w,rfl,hk,hC,hg,h2⟩:=h2
 cases Yb rx
 obtain⟨ks,hH,pr⟩:=R2.rd hC;obtain⟨z,hz,rz⟩:=(PR.get pr k).2 w hg
 cases Oj hk ry
 exact⟨l,z,VS,.inl ⟨ks,k,hH,VS,hz.symm⟩,q _ _ H2 C2 R2 (t1.trans t2) rz h2⟩
def iT (neg:Bool)(hu:X.A.units+150<cLine):L9 X (compareOp (if neg then .NotIn else .In)) (lJ neg):=⟨_,Go,λF H C y x u v Q Q' R ry rx h q WZ s σ u' v' I r1 r2=>by
 obtain⟨l,kvs,k,rfl,hk,hC,h⟩:=h
 cases Yb rx
 cases r2
 obtain⟨ks,hH,pr⟩:=R.rd hC
 cases Oj hk ry
 have e:(Sh ks k).isSome=(Wz kvs k).isSome:=by
  cases hg:Wz kvs k with
  | none=>rw[(PR.get pr k).1 hg];rfl
  | some w=>obtain⟨z,hz,_⟩:=(PR.get pr k).2 w hg;rw[hz];rfl
 have fin:=q _ _ H C R (Tx.refl H) Xf h;rw[<-e] at fin;have g:Dq H l (kV k) (Sh ks k):=.inl ⟨ks,k,hH,VS,VS⟩
 cases neg with
 | true=>exact mU (by omega) I g r1 λs' I'=>⟨.bl _,H,I',VS,fin⟩
 | false=>exact ay (by omega) I g r1 λs' I'=>⟨.bl _,H,I',VS,fin⟩⟩
def dM (hu:X.A.units+150<cLine):L9 X (compareOp .In) fK:=iT false hu
def ww:Uh X (.type "dict") (λxs H Q=>∃(p:WP) (kvs:List (Jb×V)),xs=[.ref p]/\Rd H p (.dK kvs)/\∀r,H r=none->Q (.ref r) (J7 H r (.dK kvs))):=by
 intro WZ s σ H xs us Q I r h;obtain⟨p,kvs,rfl,hp,q⟩:=h;obtain⟨u,rfl,ru⟩:=Ru r
 cases ru
 exact pF I hp λr s2 hr I2=>⟨.ref r,_,I2,VS,q r hr⟩
def pN:List T->Hw->WK->Prop:=λvs C Q=>∃(a:WP) (kvs:List (Jb×T)),vs=[.ref a]/\RdC C a kvs/\∀p,C p=none->Q (.ref p) (up C p (.dic kvs))
def lr:Nm X (.type "dict") pN:=⟨_,ww,λF H C xs vs Q Q' R rs h q=>by
 obtain⟨a,kvs,rfl,hC,h⟩:=h;obtain⟨x,rfl,rx⟩:=Vd rs
 cases Yb rx
 obtain⟨ks,hH,pr⟩:=R.rd hC;exact⟨a,ks,VS,hH,λr hr=>q _ _ _ _ (R.newD hr pr) (Tx.new hr) Xd (h r (R.free hr))⟩⟩
def lK (neg:Bool):W2:=λx y C Q=>∃a b ka kb,x=.ref a/\y=.ref b/\RdC C a ka/\RdC C b kb/\
 ((ka.length≠kb.length/\Q (.bl neg) C)\/(ka=kb/\(∀kv∈ka,J0 kv.2)/\Q (.bl (!neg)) C))
abbrev kD:W2:=lK false
def iU (neg:Bool)(hu:X.A.units+150<cLine):L9 X (compareOp (if neg then .NotEq else .Eq)) (lK neg):=⟨_,Go,λF H C x y u v Q Q' R rx ry h q WZ s σ u' v' I r1 r2=>by
 obtain⟨a,b,ka,kb,rfl,rfl,ha,hb,h⟩:=h
 cases Yb rx
 cases Yb ry
 cases r1
 cases r2
 obtain⟨ks,hH,pr⟩:=R.rd ha;obtain⟨ls,hL,pl⟩:=R.rd hb;obtain⟨z1,sa,va,rela,oa,ea,pa,hoa,xa,da,kka,pra,na⟩:=Nl I.hok hH;obtain⟨z2,sb,vb,relb,ob,eb,pb,hob,xb,db,kkb,prb,nb⟩:=Nl I.hok hL;have hsa:ea.size=ka.length:=by rw[<-PR.length pr,rela.length,<-Pairs.length pra];simp
 have hsb:eb.size=kb.length:=by rw[<-PR.length pl,relb.length,<-Pairs.length prb];simp
 have Ta:s.TypeIs (.ref a) "dict":=⟨_,hoa,xa.1⟩;have Tb:s.TypeIs (.ref b) "dict":=⟨_,hob,xb.1⟩;have fin:∀k:Bool,(∀(E:WQ->WR->Prop) (id:String) (Q:Bool->WR->Prop),Q k s->wpAny (model X.prog X.w) X.A.in1 (Builtin.Dict.samePairs id a b) Q E s)->Q (.bl (if neg then !k else k)) H->
   wpAny (model X.prog X.w) X.A (compareOp (if neg then .NotEq else .Eq) (.ref a) (.ref b)) (EP X WZ σ Q) X.xe s:=λk hs hq=>by
  cases neg with
  | true=>exact mP (k:=k) (by omega) Ta Tb hs ⟨.bl (!k),H,I,by cases k<;>rfl,hq⟩
  | false=>exact mQ (k:=k) (by omega) Ta Tb hs ⟨.bl k,H,I,by cases k<;>rfl,hq⟩
 rcases h with⟨hne,h⟩ | ⟨rfl,hfl,h⟩
 ·refine fin false (λE id Q' q'=>oO sa sb hoa da hob db (by simp[hsa,hsb,hne]) q') ?_;have:=q _ _ H C R (Tx.refl H) Xf h
  cases neg<;>exact this
 ·refine fin true (λE id Q' q'=>oN sa sb hoa da hob db kkb (by rw[hsa,hsb]) (λi h1 h2=>?_) q') ?_
  ·obtain⟨kva,e1,e2,e3⟩:=Ll (i:=i) (e:=ea[i]) pra (by simp[h1]);obtain⟨kvb,f1,f2,f3⟩:=Ll (i:=i) (e:=eb[i]) prb (by simp[h2]);obtain⟨qa,g1,g2,g3⟩:=qD rela e1;obtain⟨qb,g4,g5,g6⟩:=qD relb f1;obtain⟨ta,j1,j2,j3⟩:=rE pr g1;obtain⟨tb,j4,j5,j6⟩:=rE pl g4;rw[j1] at j4
   cases j4
   have ek:kva.1=kvb.1:=by rw[<-g2,<-g5,j2,j5]
   obtain⟨k',hk1,hk2⟩:=kka ea[i] (Array.getElem_mem h1);have:=(Jq X.prog X.w).inj _ _ _ hk1 e2;subst this;refine⟨kva.1,e2,hk2,by rw[ek];exact mH prb nb f1 h2,?_⟩;have hf:=hfl ta (QB j1);have:=jn I 100 (A:=X.A.in1) hf hf j3 j6 g3 g6 (show X.A.units+1+100<cLine by omega);rw[Od ta.2 hf] at this;rw[e3,f3];exact this
  ·have:=q _ _ H C R (Tx.refl H) Xf h
   cases neg<;>exact this⟩
def dN (hu:X.A.units+150<cLine):L9 X (compareOp .Eq) kD:=iU false hu
end
section
variable {X:Cx}{e o:WW}{we wo wi:WE}{apos cpos:Pos}
def wj (o i:WE):WE:=λτ C Q χ=>o τ C (λx C1=>(∃a kvs,x=.ref a/\RdC C1 a kvs)/\i τ C1 (λy C2=>∃a kvs k,x=.ref a/\kT y=some k/\RdC C2 a kvs/\Q ((Wz kvs k).getD .non) C2) χ) χ
def mS (hu:X.A.units+150<cLine)(ho:X0 X o wo)(he:X0 X e wi)(m:M1 X o "get" apos e cpos):X0 X (.Call (.Attribute o "get" apos) [e] [] cpos) (wj wo wi):=by
 obtain⟨ta,p1,s1⟩:=ho;obtain⟨tb,p2,s2⟩:=he;refine⟨_,rQ (by omega) p1 p2 m,λF H C σ τ Q Q' χ R S h q=>?_⟩;refine s1 F H C σ τ _ _ χ R S h λx v H1 C1 R1 t1 rx h1=>?_;obtain⟨⟨l,kvs0,rfl,hC0⟩,h1⟩:=h1
 cases Yb rx
 obtain⟨ks0,hH0,_⟩:=R1.rd hC0;refine⟨l,VS,.inl ⟨ks0,hH0⟩,?_⟩;refine s2 F H1 C1 σ τ _ _ χ R1 (S.tx t1) h1 λy u H2 C2 R2 t2 ry h2=>?_;obtain⟨l',kvs,k,e',hk,hC,h2⟩:=h2
 cases e'
 obtain⟨ks,hH,pr⟩:=R2.rd hC
 cases Oj hk ry
 exact⟨_,.inl ⟨ks,k,hH,VS,VS⟩,q _ _ H2 C2 R2 (t1.trans t2) (qT pr k Tl) h2⟩
end
def Vq (f:Str)(v:T):List (Str×T)->List (Str×T)
 | []=>[(f,v)]
 | (g,x)::r=>if g=f then(g,v)::r else(g,x)::Vq f v r
section
variable {K:WY}{H:Hp}
def vf {f:Str}(q:Xh K H y v):∀{ks:List (Str×V)} {fs:List (Str×T)},PR K H ks fs->PR K H (Rf f y ks) (Vq f v fs)
 | [],[],_=>.cons ⟨VS,q⟩ .nil
 | (k,x)::ks,(g,z)::fs,.cons h r=>by
  obtain⟨e,q'⟩:=h
  cases e
  show PR K H (if k=f then(k,y)::ks else(k,x)::Rf f y ks) (if k=f then(k,v)::fs else(k,z)::Vq f v fs);by_cases c:k=f
  ·rw[XY c,XY c];exact .cons ⟨VS,q⟩ r
  ·rw[XX c,XX c];exact .cons ⟨VS,q'⟩ (vf q r)
def Ha {f:Str}:∀{ks:List (Str×V)} {fs:List (Str×T)},PR K H ks fs->(∀v,fs.lookup f=some v->∃y,ks.lookup f=some y/\Xh K H y v)/\(fs.lookup f=none->ks.lookup f=none)
 | [],[],_=>⟨λv h=>by simp at h,λ_=>rfl⟩
 | (k,x)::ks,(g,z)::fs,.cons h r=>by
  obtain⟨e,q'⟩:=h
  cases e
  by_cases c:f=k
  ·have hb:(f==k)=true:=beq_iff_eq.mpr c;simp only[List.lookup,hb];exact⟨λv h=>by cases h;exact⟨x,VS,q'⟩,λh=>by cases h⟩
  ·have hb:(f==k)=false:=beq_eq_false_iff_ne.mpr c;simp only[List.lookup,hb];exact Ha r
def rD:∀{κ:Type} {ks:List (κ×V)} {fs:List (κ×T)},PR K H ks fs->ks.length=fs.length
 | _,[],[],_=>rfl
 | _,_::_,_::_,.cons _ r=>by rw[YF,YF,rD r]
end
abbrev Ef (K:WY)(cn:Str)(Cl:WP):Prop:=W.nsIn K mainGlobals cn=some (some (.ref Cl))
structure KF (K:W.Frag)(f cn:Str):Prop where
 ex:∃Cl,Ef K cn Cl/\wF K Cl/\Q0 K Cl f
def KF.at {K:WY}{f cn:Str}(h:KF K f cn){Cl:WP}(c:Ef K cn Cl):wF K Cl/\Q0 K Cl f:=by
 obtain⟨C2,h1,h2⟩:=h.ex;have e:some (some (Value.ref C2))=some (some (Value.ref Cl)):=h1.symm.trans c
 cases e
 exact h2
def Xt (cs:List Str)(f:Str)(o:WE):WE:=λτ C Q χ=>o τ C (λx C1=>∃a cn fs v,x=.ref a/\C1 a=some (.ins cn fs)/\cn∈cs/\fs.lookup f=some v/\Q v C1) χ
def O8 (cs:List Str)(f:Str)(o:WE):WG:=λv τ C Q χ=>o τ C (λx C1=>∃a cn fs,x=.ref a/\C1 a=some (.ins cn fs)/\cn∈cs/\fs.length<1000/\Q τ (up C1 a (.ins cn (Vq f v fs)))) χ
def Rl.ins {K:WY}{F H:Hp}(R:Rl K F H C)(h:C a=some (.ins cn fs)):∃Cl dx ks,Ef K cn Cl/\H a=some (.ins Cl dx ks)/\PR K H ks fs:=R.obj a _ h
section
variable {X:Cx}{e o value:WW}{we wo wv:WE}{f:Str}{cs:List Str}{pos pos' apos cpos:Pos}
def Ji (hk:∀cn∈cs,KF X.K f cn)(he:X0 X e we)(hb:attributeBase e f X.env (eval e X.env)=eval e X.env:=by rfl):X0 X (.Attribute e f pos) (Xt cs f we):=by
 obtain⟨ta,p1,s1⟩:=he;refine⟨_,iF p1 hb,λF H C σ τ Q Q' χ R S h q=>?_⟩;refine s1 F H C σ τ _ _ χ R S h λx v H1 C1 R1 t1 rx h1=>?_;obtain⟨a,cn,fs,v',rfl,hC,hcn,hl,h1⟩:=h1
 cases Yb rx
 obtain⟨Cl,dx,ks,hc,hH,pr⟩:=R1.ins hC;obtain⟨y,hy,ry⟩:=(Ha pr).1 v' hl;obtain⟨c1,c2⟩:=(hk cn hcn).at hc;exact⟨a,Cl,dx,ks,y,VS,hH,c1,c2,hy,q _ _ H1 C1 R1 t1 ry h1⟩
def Js (hk:∀cn∈cs,KF X.K f cn)(ho:X0 X o wo)(hv:X0 X value wv)(hs:swapsWith value (some (.Attribute o f pos')) pos.line X.env=pure false:=by rfl):Mj X (.Assign [.Attribute o f pos'] value pos) (Zw wv (O8 cs f wo)):=by
 obtain⟨ta,p1,s1⟩:=ho;obtain⟨tv,p2,s2⟩:=hv;refine⟨_,iz p1 p2 hs,λF H C σ τ D D' R S h d=>?_⟩;refine s2 F H C σ τ _ _ D'.xc R S h λy v H1 C1 R1 t1 ry h1=>?_;refine s1 F H1 C1 σ τ _ _ D'.xc R1 (S.tx t1) h1 λx u H2 C2 R2 t2 rx h2=>?_;obtain⟨a,cn,fs,rfl,hC,hcn,hl,h2⟩:=h2
 cases Yb rx
 obtain⟨Cl,dx,ks,hc,hH,pr⟩:=R2.ins hC;obtain⟨c1,c2⟩:=(hk cn hcn).at hc;have tp:Tx H2 (J7 H2 a (.ins Cl dx (Rf f y ks))):=Tx.put hH (λz=>z);obtain⟨R3,t3⟩:=R2.put (u:=.ins Cl dx (Rf f y ks)) (o':=.ins cn (Vq f v fs)) hC ⟨Cl,dx,_,hc,Yy,Gi tp (vf (ry.tx t2) pr)⟩;exact⟨a,Cl,dx,ks,VS,hH,c1,c2,by rw[rD pr];exact hl,d.nx _ _ _ _ R3 ((t1.trans t2).trans t3) (S.tx ((t1.trans t2).trans t3)) h2⟩
end
def sx (MT:WP->L2.Sp->Prop)(m:Str)(E:XK)(ta:TE)(t:TA):TE:=λσ H Q=>ta σ H λx H1=>∃a C dx fs sp,x=.ref a/\H1 a=some (.ins C dx fs)/\MT C sp/\fs.lookup m=none/\t σ H1 λvs H2=>sp (x::vs) H2 Q E
section
variable {X:Cx}{k:Nat}{E:XK}{m:Str}{p pos apos:Pos}{e o:WW}{es:List WW}{ta:TE}{t:TA}{MT:WP->L2.Sp->Prop}
def aR (X:Cx)(k:Nat)(m:Str)(MT:WP->L2.Sp->Prop):Prop:=∀C sp,MT C sp->∃f fd ps,wF X.K C/\lF X.K C m f/\Yx X.prog X.w X.K X.mg X.base CX0 k f fd ps sp/\Ya X.K fd ps []
def rL {pl:Sem Bool}(he:PE X o ta)(hM:aR X k m MT)(hr:Wj k X.A)(ha:PA X (e::es) t)
  (hst:starEach (e::es) X.env=(false,eval e X.env)::starEach es X.env:=by rfl) (hpl:(backTo pos (starEach es X.env)).any (·.1)=false:=by rfl)
  (ht:eval (.Call (.Attribute o m apos) (e::es) [] pos) X.env=(do
   let ov <-eval o X.env
   standAt apos.atName
   let (f,first) <-holding [ov] (getMethod ov m pl)
   callWith pos f first (backTo pos (starEach (e::es) X.env)) (backToKw pos (keywordEach [] X.env))):=by rfl):
  PE X (.Call (.Attribute o m apos) (e::es) [] pos) (sx MT m E0 ta t):=by
 intro WZ s σ H Q I h;refine W.methodCall_KW (pl:=pl) (J5 (he WZ s σ H _ I h) λu s1 ⟨x,H1,I1,rx,a,C,dx,fs,sp,ex,ea,hmt,l,q⟩=>?_) ht;subst ex;obtain rfl:u=Value.ref a:=rx;obtain⟨f,fd,ps,c,hm,F,hb⟩:=hM C sp hmt;refine Fi I1 ea c hm l ?_;refine SH (first:=[.ref a]) (h₀:=X.base) I.ok.mod.kin hm.kp (J5 (ha pos WZ s1 σ H1 _ I1 q) λus s2 ⟨vs,H2,I2,r,q2⟩=>⟨I2.kIn,?_⟩) hst hpl;exact Bv (us:=.ref a::us) (vs:=.ref a::vs) (dvs:=[]) F hr hb .nil Gn I2 (.cons VS r) (by rw[YK];exact q2)
def ur {pl:Sem Bool}(he:PE X o ta)(hM:aR X k m MT)(hr:Wj k X.A)
  (ht:eval (.Call (.Attribute o m apos) [] [] pos) X.env=(do
   let ov <-eval o X.env
   standAt apos.atName
   let (f,first) <-holding [ov] (getMethod ov m pl)
   callWith pos f first (backTo pos (starEach [] X.env)) (backToKw pos (keywordEach [] X.env))):=by rfl):
  PE X (.Call (.Attribute o m apos) [] [] pos) (sx MT m E0 ta sw):=by
 intro WZ s σ H Q I h;refine W.methodCall_KW (pl:=pl) (J5 (he WZ s σ H _ I h) λu s1 ⟨x,H1,I1,rx,a,C,dx,fs,sp,ex,ea,hmt,l,q⟩=>?_) ht;subst ex;obtain rfl:u=Value.ref a:=rx;obtain⟨f,fd,ps,c,hm,F,hb⟩:=hM C sp hmt;refine Fi I1 ea c hm l ?_;exact W.callWith_K0 (first:=[.ref a]) I1.kIn hm.kp (Bv (us:=[.ref a]) (vs:=[.ref a]) (dvs:=[]) F hr hb .nil Gn I1 (.cons VS .nil) q)
end
def Cm (P:WO)(w:WN)(K:WY)(mg:Str->Option WQ)(base:WU)(n:Nat)(cn m:Str)(ps:List Str)(sp:L2.Sp):Prop:=
 ∃Cl f fd,Ef K cn Cl/\wF K Cl/\lF K Cl m f/\Yx P w K mg base CX0 n f fd ps sp/\Ya K fd ps []
def fH (P:WO)(w:WN)(K:WY)(mg:Str->Option WQ)(base:WU)(n:Nat)(pr:List Df)(m:Str)(tb:List (Str×Nat)):Prop:=∀cn i,tb.lookup cn=some i->∃ps,Cm P w K mg base n cn m ps (spW K pr n i)
section
variable {P:WO}{w:WN}{K:WY}{mg:Str->Option WQ}{base:WU}{n:Nat}{pr:List Df}{m:Str}{tb:List (Str×Nat)}
def Jg:fH P w K mg base n pr m []:=λcn i h=>by simp at h
def Yp (h:Cm P w K mg base n cn m ps (spW K pr n i))(r:fH P w K mg base n pr m tb):fH P w K mg base n pr m ((cn,i)::tb):=λc j e=>by
 by_cases q:c=cn
 ·have hb:(c==cn)=true:=beq_iff_eq.mpr q;simp only[List.lookup,hb] at e
  cases e;subst q;exact⟨ps,h⟩
 ·have hb:(c==cn)=false:=beq_eq_false_iff_ne.mpr q;simp only[List.lookup,hb] at e;exact r c j e
end
def Vl (P:Calls)(tb:List (Str×Nat))(m:Str)(o:WE)(a:WA):WE:=λτ C Q χ=>o τ C (λx C1=>∃ad cn fs i,x=.ref ad/\C1 ad=some (.ins cn fs)/\tb.lookup cn=some i/\fs.lookup m=none/\a τ C1 (λvs C2=>P i (x::vs) C2 Q χ) χ) χ
section
variable {X:Cx}{k:Nat}{m:Str}{p pos apos:Pos}{e o:WW}{es:List WW}{wo:WE}{wA:WA}{tb:List (Str×Nat)}{pr:List Df}
def qp (T:fH X.prog X.w X.K X.mg X.base k pr m tb):aR X k m (λC sp=>∃cn i,Ef X.K cn C/\tb.lookup cn=some i/\sp=spW X.K pr k i):=λC sp h=>by
 obtain⟨cn,i,hc,hl,rfl⟩:=h;obtain⟨ps,Cl,f,fd,h1,h2,h3,h4,h5⟩:=T cn i hl;have ee:some (some (Value.ref Cl))=some (some (Value.ref C)):=h1.symm.trans hc
 cases ee
 exact⟨f,fd,ps,h2,h3,h4,h5⟩
def Xu {pl:Sem Bool}(T:fH X.prog X.w X.K X.mg X.base k pr m tb)(hr:Wj k X.A)(ho:X0 X o wo)(ha:Dn X (e::es) wA)
  (hst:starEach (e::es) X.env=(false,eval e X.env)::starEach es X.env:=by rfl) (hpl:(backTo pos (starEach es X.env)).any (·.1)=false:=by rfl)
  (ht:eval (.Call (.Attribute o m apos) (e::es) [] pos) X.env=(do
   let ov <-eval o X.env
   standAt apos.atName
   let (f,first) <-holding [ov] (getMethod ov m pl)
   callWith pos f first (backTo pos (starEach (e::es) X.env)) (backToKw pos (keywordEach [] X.env))):=by rfl):
  X0 X (.Call (.Attribute o m apos) (e::es) [] pos) (Vl (Z9 pr k) tb m wo wA):=by
 obtain⟨to,p1,s1⟩:=ho;obtain⟨ta,p2,s2⟩:=ha;refine⟨_,rL (pl:=pl) p1 (qp T) hr p2 hst hpl ht,λF H C σ τ Q Q' χ R S h q=>?_⟩;refine s1 F H C σ τ _ _ χ R S h λx v H1 C1 R1 t1 rx h1=>?_;obtain⟨a,cn,fs,i,rfl,hC,hl,hm,h1⟩:=h1
 cases Yb rx
 obtain⟨Cl,dx,ks,hc,hH,prr⟩:=R1.ins hC;refine⟨a,Cl,dx,ks,_,VS,hH,⟨cn,i,hc,hl,VS⟩,(Ha prr).2 hm,?_⟩;refine s2 F H1 C1 σ τ _ _ χ R1 (S.tx t1) h1 λxs vs H2 C2 R2 t2 rs h2=>?_;exact⟨F,C2,.ref a::vs,Q',χ,R2,Yn Xd rs,h2,QE.at q (t1.trans t2)⟩
def S6 {pl:Sem Bool}(T:fH X.prog X.w X.K X.mg X.base k pr m tb)(hr:Wj k X.A)(ho:X0 X o wo)
  (ht:eval (.Call (.Attribute o m apos) [] [] pos) X.env=(do
   let ov <-eval o X.env
   standAt apos.atName
   let (f,first) <-holding [ov] (getMethod ov m pl)
   callWith pos f first (backTo pos (starEach [] X.env)) (backToKw pos (keywordEach [] X.env))):=by rfl):
  X0 X (.Call (.Attribute o m apos) [] [] pos) (Vl (Z9 pr k) tb m wo Zg):=by
 obtain⟨to,p1,s1⟩:=ho;refine⟨_,ur (pl:=pl) p1 (qp T) hr ht,λF H C σ τ Q Q' χ R S h q=>?_⟩;refine s1 F H C σ τ _ _ χ R S h λx v H1 C1 R1 t1 rx h1=>?_;obtain⟨a,cn,fs,i,rfl,hC,hl,hm,h1⟩:=h1
 cases Yb rx
 obtain⟨Cl,dx,ks,hc,hH,prr⟩:=R1.ins hC;refine⟨a,Cl,dx,ks,_,VS,hH,⟨cn,i,hc,hl,VS⟩,(Ha prr).2 hm,?_⟩;exact⟨F,C1,[.ref a],Q',χ,R1,Yn Xd Jv,h1,QE.at q t1⟩
end
def tQ (cn:Str)(i:Nat)(P:Calls):WS:=λD τ C=>∃vs,τ=vs.map some/\∀p,C p=none->P i (.ref p::vs) (up C p (.ins cn [])) (λv C2=>v=.non/\D.rt (.ref p) C2) D.xc
def Cn (P:WO)(w:WN)(K:WY)(mg:Str->Option WQ)(base:WU)(n:Nat)(pr:List Df)(cn:Str)(i j:Nat):Prop:=
 (∃ar,pr[j]?=some ⟨ar,ar,tQ cn i⟩)/\∃Cl f,Ef K cn Cl/\mg cn=some (.ref Cl)/\L2.Mk K Cl f/\(n=0\/∃k fd ps,n=k+1/\Yx P w K mg base CX0 k f fd ps (spW K pr k i)/\Ya K fd ps [])
section
variable {X:Cx}{k i j:Nat}{cn:Str}{p pos:Pos}{e:WW}{es:List WW}{wA:WA}{pr:List Df}
def cA (Cc:Cn X.prog X.w X.K X.mg X.base k pr cn i j)(hr:Wj k X.A)(hg:Gl X cn)(ha:Dn X (e::es) wA)
  (hdb:(cn==("__debug__":Str))=false:=by decide) (he:starEach (e::es) X.env=(false,eval e X.env)::starEach es X.env:=by rfl) (hpl:(backTo pos (starEach es X.env)).any (·.1)=false:=by rfl):
  X0 X (.Call (.Name cn p) (e::es) [] pos) (Z6 (Z9 pr k) j wA):=by
 obtain⟨⟨ar,hj⟩,Cl,f,hc,hm,M,h0 | ⟨k',fd,ps,rfl,F,hb⟩⟩:=Cc
 ·subst h0;obtain⟨ta,p2,s2⟩:=ha;refine⟨λσ H Q=>ta σ H λ_ _=>False,λWZ s σ H Q I h=>?_,λF H C σ τ Q Q' χ R S h q=>?_⟩
  ·refine wpAny_Call_Name_kw (Qw I hg hm ?_ hdb);exact SH (h₀:=X.base) I.ok.mod.kin M.kp (J5 (p2 pos WZ s σ H _ I h) λus s1 ⟨vs,H1,I1,r,q⟩=>q.elim) he hpl
  ·exact s2 F H C σ τ _ _ χ R S h λxs vs H2 C2 R2 t2 rs h2=>h2.elim
 ·obtain⟨ta,p2,s2⟩:=ha;refine⟨_,nR (dvs:=[]) M F hr hg hm hb .nil Gn p2 hdb he hpl,λF' H C σ τ Q Q' χ R S h q=>?_⟩;refine s2 F' H C σ τ _ _ χ R S h λxs vs H2 C2 R2 t2 rs h2=>?_;intro x dx hx hdx hne;obtain⟨d',e1,e2,h2⟩:=h2;rw[hj] at e1
  cases e1
  obtain⟨vs',ev,h2⟩:=h2;have evs:vs=vs':=by
   have:ar-ar=0:=Nat.sub_self _;rw[this,List.replicate_zero,YK] at ev;exact(List.map_inj_right λa b z=>by cases z;rfl).mp ev
  subst evs;have hCx:C2 x=none:=R2.free hx;have R3:Rl X.K F' (J7 H2 dx (.own x)) C2:=R2.hid hdx;have hx3:J7 H2 dx (.own x) x=none:=by rw[Yi hne.symm];exact hx
  have R4:Rl X.K F' (J7 (J7 H2 dx (.own x)) x (.ins Cl dx [])) (up C2 x (.ins cn [])):=R3.new hx3 ⟨Cl,dx,[],hc,Yy,.nil⟩;have t4:Tx H2 (J7 (J7 H2 dx (.own x)) x (.ins Cl dx [])):=(Tx.new hdx).trans (Tx.new hx3);refine⟨F',_,.ref x::vs,_,χ,R4,?_,h2 x hCx,?_⟩
  ·rw[YK];exact Yn Xd (rs.tx t4)
  ·intro y v H5 C5 R5 t5 ry h5;obtain⟨rfl,h5⟩:=h5;exact⟨Qt ry,q _ _ H5 C5 R5 ((t2.trans t4).trans t5) Xd h5⟩
end
def Yf {P:WO}{w:WN}{K:WY}{mg:Str->Option WQ}{base:WU}{st:WV}{f:WP}{pr:List Df}{n i:Nat}(F:V1 K x qual st f fd)(S:Zy N ps (Zk st))(hd:pr[i]?=some d)(hn:d.n=N.length)(har:d.ar=ps.length)
  (hb:∀(cdv:WQ) (A:WM) (outer:List Env) (s:WR) (H:Hp) (E:XK),Wj n (A.deeper (envOfC qual (Zk st) s.heap.objs.size f cdv))->V2 (Kz CX0 P w K mg base N qual (Zk st) f cdv A outer s H E).nox (Zm st) (d.body (Z9 pr n))):
  Yx P w K mg base CX0 (n+1) f fd ps (spW K pr (n+1) i):=by
 refine F.ok S (λvs H Q E h=>?_) (λcdv A outer s H vs Q E hr h=>?_)
 ·obtain⟨F',C,vs',Q',χ,R,rs,⟨d',e1,e2,_⟩,_⟩:=h;rw[hd] at e1;cases e1;rw[rs.length,e2,har]
 ·obtain⟨F',C,vs',Q',χ,R,rs,⟨d',e1,e2,h⟩,q⟩:=h;rw[hd] at e1;cases e1;obtain⟨t,p,sm⟩:=hb cdv A outer s H E hr;refine⟨t,p,sm F' H C _ _ _ _ R (Ve.start rs N _ (by rw[rs.length,e2,hn])) h ⟨λσ τ H' C' R' t' _ h'=>q .non .non H' C' R' t' Tl h',q,λ_ _ _ _ _ _ _ z=>z.elim,λ_ _ _ _ _ _ _ z=>z.elim⟩⟩
def Yt {K:WY}{f:WP}:Yx P w K mg base CX0 0 f fd ps (spW K pr 0 i):=
 ⟨λvs H Q E h=>by obtain⟨_,_,_,_,_,_,_,z,_⟩:=h;exact z.elim,λA outer s H args us vs Q E _ _ _ _ h=>by obtain⟨_,_,_,_,_,_,_,z,_⟩:=h;exact z.elim⟩
structure Kl (K:W.Frag)(mg:Str->Option Value)(cn:Str)(Cl:Addr):Prop where
 at_:Ef K cn Cl
 mg:mg cn=some (.ref Cl)
 cls:wF K Cl
def Jj {K:WY}{Cl f:WP}(k:Kl K mg cn Cl)(m':lF K Cl m f)(G:Yx P w K mg base CX0 n f fd ps sp)(hb:Ya K fd ps []):Cm P w K mg base n cn m ps sp:=
 ⟨Cl,f,fd,k.at_,k.cls,m',G,hb⟩
def lh {K:WY}{pr:List Df}{i j ar:Nat}{Cl f:WP}(hj:pr[j]?=some ⟨ar,ar,tQ cn i⟩)(k:Kl K mg cn Cl)(M:L2.Mk K Cl f):Cn P w K mg base 0 pr cn i j:=⟨⟨ar,hj⟩,Cl,f,k.at_,k.mg,M,.inl VS⟩
def li {K:WY}{pr:List Df}{n i j ar:Nat}{Cl f:WP}(hj:pr[j]?=some ⟨ar,ar,tQ cn i⟩)(k:Kl K mg cn Cl)(M:L2.Mk K Cl f)(G:Yx P w K mg base CX0 n f fd ps (spW K pr n i))(hb:Ya K fd ps []):Cn P w K mg base (n+1) pr cn i j:=
 ⟨⟨ar,hj⟩,Cl,f,k.at_,k.mg,M,.inr ⟨n,fd,ps,VS,G,hb⟩⟩
def lj {P:WO}{w:WN}{K:WY}{base:WU}{pr:List Df}{n i j ar:Nat}{Cl:WP}{ps:List Str}(hj:pr[j]?=some ⟨ar,ar,tQ cn i⟩)(k:Kl K mg cn Cl)(mk:W.makesIn K Cl=true)(kc:W.keepIn K (.ref Cl)=true)
  (h:Cm P w K mg base n cn "__init__" ps (spW K pr n i)):Cn P w K mg base (n+1) pr cn i j:=by
 obtain⟨C2,f,fd,h1,h2,h3,h4,h5⟩:=h;have e:some (some (Value.ref C2))=some (some (Value.ref Cl)):=h1.symm.trans k.at_
 cases e
 exact li hj k ⟨mk,h3.at_,h3.fn,kc⟩ h4 h5
def Z2 {K:WY}{f:Str}:∀cn∈([]:List Str),KF K f cn:=λ_ h=>by cases h
def Zt {K:WY}{f cn:Str}{cs:List Str}(a:KF K f cn)(r:∀c∈cs,KF K f c):∀c∈cn::cs,KF K f c:=λc h=>by
 rcases QD.mp h with rfl | h
 ·exact a
 ·exact r c h
def yt {K:WY}{sl:Array (Option WQ)}{od:Option WP}(l:K.lookup a=some ⟨.type "tuple",od,.seq its n,sl⟩)(hz:its.size<=sizeLine)(v:Yd xs its.toList)(r:Reps K H xs ts):Xh K H (.ref a) (.tup ts):=
 Vk (.inr ⟨_,its,n,l,VS,VS,hz,v⟩) r
def pB:V2 X body xl:=⟨λ_ _ _=>False,λ_ _ _ _ _ _ h=>h.elim,λ_ _ _ _ _ _ _ _ _ h _=>h.elim⟩
def fm (C:Hw):Nat->T->T->Bool->Prop
 | 0,v,w,b=>W4 v 0=true/\W4 w 0=true/\b=eqT v w
 | n+1,v,w,b=>(W4 v n=true/\W4 w n=true/\b=eqT v w)\/
   (∃(xs ys:List T) (e:Nat->Bool),v=.tup xs/\w=.tup ys/\(∀j x y,xs[j]?=some x->ys[j]?=some y->fm C n x y (e j))/\b=((List.range (min xs.length ys.length)).all e&&xs.length==ys.length))\/
   (∃(a a':WP) (xs ys:List T) (e:Nat->Bool),v=.ref a/\w=.ref a'/\C a=some (.lst xs)/\C a'=some (.lst ys)/\(xs.length=ys.length->∀j x y,xs[j]?=some x->ys[j]?=some y->fm C n x y (e j))/\
    b=(if xs.length=ys.length then(List.range xs.length).all e else false))
section
variable {X:Cx}{WZ:List (WP×Obj)}{σ:L2.St}{F H:Hp}{s:WR}{C:Hw}
def jC {e:Nat->Bool}{n:Nat}(h:∀j,j<n->e j=true):(List.range n).all e=true:=by
 rw[QR];intro j hj;exact h j (List.mem_range.mp hj)
def jm (I:Z7 X WZ σ H s)(R:Rl X.K F H C):∀(n:Nat) {v w:T} {x:V} {b:Bool},fm C n v w b->Xh X.K H x v->Xh X.K H x w->b=true:=by
 intro n
 induction n with
 | zero=>
  intro v w x b h rv rw';obtain⟨f1,f2,rfl⟩:=h;rw[I0 I 0 f1 f2 rv rw'];exact Od _ f2
 | succ n ih=>
  intro v w x b h rv rw';have lists:∀{zs:List V} {xs ys:List T} {e:Nat->Bool},Reps X.K H zs xs->Reps X.K H zs ys->(∀j x y,xs[j]?=some x->ys[j]?=some y->fm C n x y (e j))->xs.length=ys.length/\∀j,j<xs.length->e j=true:=by
   intro zs xs ys e r1 r2 he;have l1:=r1.length;have l2:=r2.length;refine⟨by omega,λj hj=>?_⟩;have i1:xs[j]?=some (xs[j]'hj):=by simp[hj]
   have i2:ys[j]?=some (ys[j]'(by omega)):=by simp
   obtain⟨u1,g1,q1⟩:=r1.get i1;obtain⟨u2,g2,q2⟩:=r2.get i2;rw[g1] at g2;cases g2;exact ih (he j _ _ i1 i2) q1 q2
  rcases h with⟨f1,f2,rfl⟩ | ⟨xs,ys,e,rfl,rfl,he,rfl⟩ | ⟨a,a',xs,ys,e,rfl,rfl,h1,h2,he,rfl⟩
  ·rw[I0 I n f1 f2 rv rw'];exact Od _ f2
  ·obtain⟨a,zs,rfl,hq,r⟩:=Yw rv;obtain⟨b,zs',eb,hq',r'⟩:=Yw rw'
   cases eb
   have:=I.tuple_inj hq hq';subst this;obtain⟨hl,ha⟩:=lists r r' he;rw[hl,Nat.min_self,XU,Bool.and_true];exact jC λj hj=>ha j (by omega)
  ·cases Yb rv
   cases Yb rw'
   rw[h1] at h2;cases h2;obtain⟨zs,hz,r⟩:=R.lst h1;obtain⟨hl,ha⟩:=lists r r (he VS);rw[XY rfl];exact jC ha
def A0 {A:WM}{e:Nat->Bool}(r:Reps X.K H ys ts)(r':Reps X.K H zs us)(rI:Yd ys its)(rI':Yd zs its')
  (he:∀j x y,ts[j]?=some x->us[j]?=some y->∀{x1 x2:V} {u u':WQ},Xh X.K H x1 x->Xh X.K H x2 y->Yh x1 u->Yh x2 u'->SeqAt.EqAt A s u u' (e j)):
  ∀j (h1:j<its.toArray.size) (h2:j<its'.toArray.size),SeqAt.EqAt A s its.toArray[j] its'.toArray[j] (e j):=λj h1 h2=>by
 have l1:its.toArray.size=ts.length:=by rw[XJ,<-rI.length,r.length]
 have l2:its'.toArray.size=us.length:=by rw[XJ,<-rI'.length,r'.length]
 have i1:ts[j]?=some (ts[j]'(by omega)):=by simp[l1▸h1]
 have i2:us[j]?=some (us[j]'(by omega)):=by simp[l2▸h2]
 obtain⟨x1,g1,q1⟩:=r.get i1;obtain⟨x2,g2,q2⟩:=r'.get i2;obtain⟨u1,k1,z1⟩:=rI.get g1;obtain⟨u2,k2,z2⟩:=rI'.get g2;have e1:its.toArray[j]=u1:=by
  have:its[j]?=some its.toArray[j]:=by simp
  rw[k1] at this;exact(YH this).symm
 have e2:its'.toArray[j]=u2:=by
  have:its'[j]?=some its'.toArray[j]:=by simp
  rw[k2] at this;exact(YH this).symm
 rw[e1,e2];exact he j _ _ i1 i2 q1 q2 z1 z2
def kg (I:Z7 X WZ σ H s)(R:Rl X.K F H C):∀(n:Nat) {v w:T} {x y:V} {u u':WQ} {A:WM} {b:Bool},fm C n v w b->Xh X.K H x v->Xh X.K H y w->Yh x u->Yh y u'->A.units+n<cLine->SeqAt.EqAt A s u u' b:=by
 intro n
 induction n with
 | zero=>
  intro v w x y u u' A b h rv rw' ru ru' hu;obtain⟨f1,f2,rfl⟩:=h;exact jn I 0 f1 f2 rv rw' ru ru' hu
 | succ n ih=>
  intro v w x y u u' A b h rv rw' ru ru' hu;have hu0:A.units<cLine:=by omega
  have h0:=h
  rcases h with⟨f1,f2,rfl⟩ | ⟨xs,ys,e,rfl,rfl,he,rfl⟩ | ⟨a,a',xs,ys,e,rfl,rfl,h1,h2,he,rfl⟩
  ·exact jn I n f1 f2 rv rw' ru ru' (by omega)
  ·obtain⟨a,zs,rfl,hq,r⟩:=Yw rv;obtain⟨b,zs',rfl,hq',r'⟩:=Yw rw'
   cases ru
   cases ru'
   by_cases hne:a=b
   ·subst hne;have:=jm I R (n+1) h0 rv rw';rw[this];exact SeqAt.EqAt.same _
   ·obtain⟨its,rI,p,_⟩:=I.tuple hq;obtain⟨its',rI',p',_⟩:=I.tuple hq';have l1:its.toArray.size=xs.length:=by rw[XJ,<-rI.length,r.length]
    have l2:its'.toArray.size=ys.length:=by rw[XJ,<-rI'.length,r'.length]
    have key:=SeqAt.EqAt.of_refs hne (SeqAt.RcAt.tuples (A:=A) p p' hu0 (A0 (A:=A.in1) r r' rI rI' λj x y hx hy {x1 x2 u u'} q1 q2 z1 z2=>ih (he j x y hx hy) q1 q2 z1 z2 (by show A.units+1+n<cLine;omega)));rw[l1,l2] at key;exact key
  ·cases Yb rv
   cases Yb rw'
   cases ru
   cases ru'
   by_cases hne:a=a'
   ·subst hne;have:=jm I R (n+1) h0 rv rw';rw[this];exact SeqAt.EqAt.same _
   ·obtain⟨zs,hz,r⟩:=R.lst h1;obtain⟨zs',hz',r'⟩:=R.lst h2;obtain⟨its,rI,p,_⟩:=I.list (Ug.of hz);obtain⟨its',rI',p',_⟩:=I.list (Ug.of hz');have l1:its.toArray.size=xs.length:=by rw[XJ,<-rI.length,r.length]
    have l2:its'.toArray.size=ys.length:=by rw[XJ,<-rI'.length,r'.length]
    by_cases hl:xs.length=ys.length
    ·rw[XY hl];have key:=SeqAt.EqAt.of_refs hne (SeqAt.RcAt.lists (A:=A) p.isList p'.isList (by rw[l1,l2,hl]) hu0 (A0 (A:=A.in1) r r' rI rI' λj x y hx hy {x1 x2 u u'} q1 q2 z1 z2=>ih (he hl j x y hx hy) q1 q2 z1 z2 (by show A.units+1+n<cLine;omega)));rw[l1] at key;exact key
    ·rw[XX hl];exact SeqAt.EqAt.of_refs hne (SeqAt.RcAt.lists_lengths p.isList p'.isList (by rw[l1,l2];exact bne_iff_ne.mpr hl) hu0)
def Zbb (I:Z7 X WZ σ H s)(R:Rl X.K F H C){A:WM}(h:fm C n v w b)(rv:Xh X.K H x v)(rw':Xh X.K H y w)(ru:Yh x u)(ru':Yh y u')(hu:A.units+n+1<cLine):
  SeqAt.RcAt A s u u' b/\SeqAt.RcNeAt A s u u' (!b):=by
 have hu0:A.units<cLine:=by omega
 cases n with
 | zero=>
  obtain⟨f1,f2,rfl⟩:=h;exact bQ I f1 f2 rv rw' ru ru' hu
 | succ n=>
  rcases h with⟨f1,f2,rfl⟩ | ⟨xs,ys,e,rfl,rfl,he,rfl⟩ | ⟨a,a',xs,ys,e,rfl,rfl,h1,h2,he,rfl⟩
  ·exact bQ I f1 f2 rv rw' ru ru' (by omega)
  ·obtain⟨a,zs,rfl,hq,r⟩:=Yw rv;obtain⟨b,zs',rfl,hq',r'⟩:=Yw rw'
   cases ru
   cases ru'
   obtain⟨its,rI,p,_⟩:=I.tuple hq;obtain⟨its',rI',p',_⟩:=I.tuple hq';have l1:its.toArray.size=xs.length:=by rw[XJ,<-rI.length,r.length]
   have l2:its'.toArray.size=ys.length:=by rw[XJ,<-rI'.length,r'.length]
   have hi:=A0 (s:=s) (A:=A.in1) (e:=e) r r' rI rI' λj x y hx hy {x1 x2 u u'} q1 q2 z1 z2=>kg I R n (he j x y hx hy) q1 q2 z1 z2 (by show A.units+1+n<cLine;omega);have k1:=SeqAt.RcAt.tuples (A:=A) p p' hu0 hi;have k2:=SeqAt.RcNeAt.tuples (A:=A) p p' hu0 hi;rw[l1,l2] at k1 k2;exact⟨k1,k2⟩
  ·cases Yb rv
   cases Yb rw'
   cases ru
   cases ru'
   obtain⟨zs,hz,r⟩:=R.lst h1;obtain⟨zs',hz',r'⟩:=R.lst h2;obtain⟨its,rI,p,_⟩:=I.list (Ug.of hz);obtain⟨its',rI',p',_⟩:=I.list (Ug.of hz');have l1:its.toArray.size=xs.length:=by rw[XJ,<-rI.length,r.length]
   have l2:its'.toArray.size=ys.length:=by rw[XJ,<-rI'.length,r'.length]
   by_cases hl:xs.length=ys.length
   ·rw[XY hl];have hi:=A0 (s:=s) (A:=A.in1) (e:=e) r r' rI rI' λj x y hx hy {x1 x2 u u'} q1 q2 z1 z2=>kg I R n (he hl j x y hx hy) q1 q2 z1 z2 (by show A.units+1+n<cLine;omega);have k1:=SeqAt.RcAt.lists (A:=A) p.isList p'.isList (by rw[l1,l2,hl]) hu0 hi;have k2:=SeqAt.RcNeAt.lists (A:=A) p.isList p'.isList (by rw[l1,l2,hl]) hu0 hi;rw[l1] at k1 k2;exact⟨k1,k2⟩
   ·rw[XX hl];have hne:(its.toArray.size !=its'.toArray.size)=true:=by rw[l1,l2];exact bne_iff_ne.mpr hl
    exact⟨SeqAt.RcAt.lists_lengths p.isList p'.isList hne hu0,SeqAt.RcNeAt.lists_lengths p.isList p'.isList hne hu0⟩
end
def lM (neg:Bool):W2:=λx y C Q=>∃b,fm C 100 x y b/\Q (.bl (if neg then !b else b)) C
abbrev fL:W2:=lM true
section
variable {X:Cx}
def iV (neg:Bool)(hu:X.A.units+150<cLine):L9 X (compareOp (if neg then .NotEq else .Eq)) (lM neg):=⟨_,Go,λF H C x y v u Q Q' R rx ry h q WZ s σ v' u' I r1 r2=>by
 obtain⟨b,he,hq⟩:=h;have key:=Zbb (A:=X.A) I R he rx ry r1 r2 (by omega);have hq':=q _ _ H C R (Tx.refl H) Xf hq
 cases neg with
 | true=>exact EqBoolInt.of_rcne key.2 ⟨.bl (!b),H,I,VS,hq'⟩
 | false=>exact EqBoolInt.of_rc key.1 ⟨.bl b,H,I,VS,hq'⟩⟩
def dO (hu:X.A.units+150<cLine):L9 X (compareOp .NotEq) fL:=iV true hu
end
structure fk (K:W.Frag)(x qual:Str)(st:Stmt)(f:Addr)(fd:FuncData):Prop where
 ex:∃(oc:WQ) (od:Option WP) (dV kV doc pm:WQ) (an:Option WP) (cdv ct:WQ) (osl:Array (Option WQ)),
  fd=W.fnOf x qual (Zz st) (Zm st) (Zk st) dV kV doc pm an cdv ct/\K.lookup f=some ⟨oc,od,.func fd,osl⟩/\W.codeIn K cdv qual=true
 kp:W.keepIn K (.ref f)=true
def gz {P:WO}{w:WN}{K:WY}{mg:Str->Option WQ}{base:WU}{st:WV}{f:WP}{pr:List Df}{n i:Nat}(F:fk K x qual st f fd)(S:Zy N ps (Zk st))(hd:pr[i]?=some d)(hn:d.n=N.length)(har:d.ar=ps.length)
  (hb:∀(cdv:WQ) (A:WM) (outer:List Env) (s:WR) (H:Hp) (E:XK),Wj n (A.deeper (envOfC qual (Zk st) s.heap.objs.size f cdv))->V2 (Kz CX0 P w K mg base N qual (Zk st) f cdv A outer s H E).nox (Zm st) (d.body (Z9 pr n))):
  Yx P w K mg base CX0 (n+1) f fd ps (spW K pr (n+1) i):=by
 obtain⟨oc,od,dV,kV,doc,pm,an,cdv,ct,osl,rfl,lk,hcd⟩:=F.ex;refine ke lk hcd S (λvs H Q E h=>?_) λA outer s H vs Q E hr h=>?_
 ·obtain⟨F',C,vs',Q',χ,R,rs,⟨d',e1,e2,_⟩,_⟩:=h;rw[hd] at e1;cases e1;rw[rs.length,e2,har]
 ·obtain⟨F',C,vs',Q',χ,R,rs,⟨d',e1,e2,h⟩,q⟩:=h;rw[hd] at e1;cases e1;obtain⟨t,p,sm⟩:=hb cdv A outer s H E hr;exact⟨t,p.nox,sm F' H C _ _ _ _ R (Ve.start rs N _ (by rw[rs.length,e2,hn])) h ⟨λσ τ H' C' R' t' _ h'=>q .non .non H' C' R' t' Tl h',q,λ_ _ _ _ _ _ _ z=>z.elim,λ_ _ _ _ _ _ _ z=>z.elim⟩⟩
def Zat (P:WO)(w:WN)(K:WY)(mg:Str->Option WQ)(base:WU)(n:Nat)(x:Str)(ps:List Str)(ds:List Int)(sp:L2.Sp):Prop:=
 ∃f fd,Yx P w K mg base CX0 n f fd ps sp/\(∃us:List WQ,Yd (ds.map V.int) us/\∀j,j<=ds.length->Ya K fd ps (us.drop j))/\W.keepIn K (.ref f)=true/\mg x=some (.ref f)
def fe (ws:List T)(a:WA):WA:=λτ C Q χ=>a τ C (λvs C1=>Q (vs++ws) C1) χ
def zR:∀{vs:List V} {us:List WQ},Yd vs us->∀j,Yd (vs.drop j) (us.drop j)
 | _,_,h,0=>by simpa using h
 | _,_,.nil,j+1=>.nil
 | _,_,.cons _ r,j+1=>zR r j
def vI {X:Cx}{k i:Nat}{p pos:Pos}{e:WW}{es:List WW}{ws:List T}(j:Nat)(Cc:Zat X.prog X.w X.K X.mg X.base k x ps ds (spW X.K pr k i))(hr:Wj k X.A)(hg:Gl X x)(ha:Dn X (e::es) wA)(hj:j<=ds.length:=by decide)(hws:(ds.drop j).map T.int=ws:=by rfl)
  (hdb:(x==("__debug__":Str))=false:=by decide) (he:starEach (e::es) X.env=(false,eval e X.env)::starEach es X.env:=by rfl) (hpl:(backTo pos (starEach es X.env)).any (·.1)=false:=by rfl):
  X0 X (.Call (.Name x p) (e::es) [] pos) (Z6 (Z9 pr k) i (fe ws wA)):=by
 subst hws;obtain⟨t,p1,s⟩:=ha;obtain⟨f,fd,G,⟨us,hv,hb⟩,hk,hm⟩:=Cc;have hv2:Yd ((ds.drop j).map V.int) (us.drop j):=by
  rw[List.map_drop];exact zR hv j
 refine⟨_,vg (dvs:=(ds.drop j).map V.int) G hr hg hm hk (hb j hj) hv2 Gn p1 hdb he hpl,λF H C σ τ Q Q' χ R S h q=>?_⟩;refine s F H C σ τ _ _ χ R S h λxs vs H1 C1 R1 t1 rs h1=>?_;exact⟨F,C1,vs++(ds.drop j).map T.int,Q',χ,R1,rs.app (Ki _),h1,QE.at q t1⟩
end WL
namespace PySem
open Sem (wp)
namespace F
def lz_entry_ga:entryFor table "zip.__getattribute__"=some Builtin.«object.__getattribute__»:=
 entryFor_alias (id':="object.__getattribute__") (by kernel_rfl) (by first | rfl | decide+kernel) (by decide+kernel) (by kernel_rfl)
def lz_getattr_none:typeLookup (.type "zip") "__getattr__"=pure none:=by rw[typeLookup_type,builtinLookup_eq_fast];kernel_rfl
def lz_keys_none:typeLookup (.type "zip") "keys"=pure none:=by rw[typeLookup_type,builtinLookup_eq_fast];kernel_rfl
end F
section
variable {z:WP}
def qA (fs:Array WQ)(u:Tok):
  Meets (Builtin.«object.__getattribute__» ⟨[.ref z,.str "keys" u],[]⟩) (λA R s=>s.heap.get? z=some {cls:=.type "zip",dict:=none,data:=.fields fs,slots:=#[]}/\raisesAttr (.ref z) "keys" A R s):=
 Meets.of_wp λprog w A R s hs=>by
  obtain⟨ho,hs⟩:=hs;obtain⟨hp,g,d,tk,os⟩:=s;have hT:(⟨hp,g,d,tk,os⟩:WR).TypeIs (.ref z) "zip":=⟨_,ho,VS⟩;have f1:=F.lz_keys_none;unfold Builtin.«object.__getattribute__»
  repeat (any_goals (first | assumption | wp_step))
  exact wpAny_raiseAttrError hs.1 hs.2 (attrMsg_fits (by decide+kernel) (by decide+kernel))
def mw {prog:WO}{w:WN}{A:WM}{E:WQ->WR->Prop}{s:WR}{Q:Option WQ->WR->Prop}(ho:s.heap.get? z=some {cls:=.type "zip",dict:=none,data:=.fields fs,slots:=#[]})(hA:A.handled=none)
  (h:∀h' tk,(∀b ob,s.heap.get? b=some ob->h'.get? b=some ob)->Q none {s with heap:=h',toks:=tk}):wpAny (model prog w) A (getAttr? (.ref z) "keys") Q E s:=by
 obtain⟨hp,g,d,tk,os⟩:=s;have hT:(⟨hp,g,d,tk,os⟩:WR).TypeIs (.ref z) "zip":=⟨_,ho,VS⟩;have f1:=sub_AttributeError;have f3:=F.slot_zip_getattribute.lookup;have f4:=F.slot_zip_getattribute.bind (.ref z);have f5:=F.lz_getattr_none;unfold getAttr? getAttrBy? getAttrBy
 repeat (any_goals (first | assumption | ((with_reducible show wpAny _ _ (call (Value.builtin "zip.__getattribute__") _ _) _ _ _);refine call_meets F.slot_zip_getattribute ⟨_,ho,VS⟩ F.lz_entry_ga (F.args_zip_getattribute_2 _ _) (qA fs _) ⟨ho,hA,λh' tk' e hx=>?_⟩) | wp_step))
 obtain⟨t',u',he⟩:=hx.there;show wpAny _ _ (getattributeRaised _ _ _ _ _ _ _) _ _ _;unfold getattributeRaised
 repeat (any_goals (first | assumption | wp_step))
 exact h h' tk' λb ob q=>hx.keeps b ob q
end
end PySem
namespace L2
open PySem PySem.Spec PyProof.Rows
abbrev Mo (h:WU)(z TI TO T:WP)(b:Bool):Prop:=
 h.get? z=some {cls:=.type "zip",dict:=none,data:=.fields #[rawInt T,.bool b,.bool false,.ref TI,.ref TO],slots:=#[]}
section
variable {prog:WO}{w:WN}{A:WM}{E:WQ->WR->Prop}{s:WR}{z TI TO i1 i2:WP}{f1 f2:List WP}{n:Nat}{P1 P2:Nat->WQ->Prop}{S1 S2:Nat->WU->Prop}
def vW {a:WP}{Q:Option Obj->WR->Prop}(h:Q (s.heap.get? a) s):wpAny M A (loadIfAlive a) Q E s:=λΓ p hΓ=>by
 unfold loadIfAlive;rw[Sem.wp_loadIfAlive];exact(XB (M:=M) (A:=A) (E:=E) h) Γ p hΓ
def wH {Q:Bool->WR->Prop}(hz:Mo s.heap z TI TO T b)(hT:∃o,s.heap.get? T=some o)(hQ:∀h2,Mo h2 z TI TO T true->Heap.SameBut z s.heap h2->Q false {s with heap:=h2}):
  wpAny (model prog w) A (Builtin.SmallTypes.ownedTupleIsFree (.ref z)) Q E s:=by
 obtain⟨oT,hoT⟩:=hT;unfold Builtin.SmallTypes.ownedTupleIsFree;refine XA (wpAny_field hz VS (x:=rawInt T) VS ?_);show wpAny _ _ (loadIfAlive (T:Int).toNat>>=_) _ _ s;refine XA (vW ?_);rw[Int.toNat_natCast,hoT];simp only[Option.isNone_some,Bool.false_eq_true,if_false];refine XA (wpAny_field hz VS (x:=.bool b) VS ?_)
 cases b with
 | false=>
  rw[XY (by decide)];refine wpAny_bind (wpAny_setField_rec hz (by simp) λha hza sa=>?_);exact XB (hQ ha hza sa)
 | true=>
  rw[XX (by decide)];exact XB (hQ s.heap hz (Heap.SameBut.refl _ _))
def oA {i:Nat}{T:WP}{b:Bool}{u v:WQ}{Q:WQ->WR->Prop}(D1:Draws prog w A i1 f1 n P1 S1)(D2:Draws prog w A i2 f2 n P2 S2)(Z:ol z TI TO i1 i2 f1 f2)(hi:i<n)
  (hz:Mo s.heap z TI TO T b) (hT:∃o,s.heap.get? T=some o) (hTI:IsPair s.heap TI (.ref i1) (.ref i2)) (s1:S1 i s.heap) (s2:S2 i s.heap)
  (hQ:∀x y h2 t2 b,P1 i x->P2 i y->Mo h2 z TI TO T b->S1 (i+1) h2->S2 (i+1) h2->IsPair h2 s.heap.objs.size x y->
   (∀c o,c≠z->c≠i1->c≠i2->s.heap.get? c=some o->h2.get? c=some o)->Q (.ref s.heap.objs.size) {s with heap:=h2,toks:=t2}):
  wpAny (model prog w) A (Builtin.«zip.__next__» ⟨[.ref z],[]⟩) (λfin s2=>∃r,fin=.done (.ret r)/\Q r s2) E s:=by
 show wpAny _ _ (field (.ref z) 2>>=_) _ E s;refine XA (wpAny_field hz VS (x:=.bool false) VS ?_);show wpAny _ _ (field (.ref z) 3>>=_) _ E s;refine XA (wpAny_field hz VS (x:=.ref TI) VS ?_);refine XA (wpAny_seqItems hTI VS ?_);show wpAny _ _ (Builtin.SmallTypes.ownedTupleIsFree (.ref z)>>=_) _ E s;refine XA (wH hz hT λha hza sa=>?_);simp only[Bool.false_eq_true,if_false];have ne:∀{b c:WP} {l:List WP},b∈l->c∉l->b≠c:=λhb hc e=>hc (e▸hb);have a1:S1 i ha:=D1.frame i _ _ s1 λb hb o e=>sa.extBut _ _ (ne hb Z.z1) e;have a2:S2 i ha:=D2.frame i _ _ s2 λb hb o e=>sa.extBut _ _ (ne hb Z.z2) e;have zi1:z≠i1:=λe=>Z.z1 (e▸Z.m1);have zi2:z≠i2:=λe=>Z.z2 (e▸Z.m2);rw[<-Array.forIn_toList];simp only[List.forIn_cons,List.forIn_nil];refine XA (XA (XA (wpAny_holding ?_)));show wpAny _ _ (Builtin.SmallTypes.nextOf (.ref i1)>>=_) _ _ _;refine XA (D1.item i {s with heap:=ha} _ _ hi a1 λx hb tb hx b1 sb=>XB ?_);have b2:S2 i hb:=D2.frame i _ _ a2 λb hm o e=>sb.extBut _ _ (ne hm Z.a12) e;refine XB ?_;refine XA (XA (wpAny_holding ?_));show wpAny _ _ (Builtin.SmallTypes.nextOf (.ref i2)>>=_) _ _ _;refine XA (D2.item i {s with heap:=hb,toks:=tb} _ _ hi b2 λy hd td hy d2 sd=>XB ?_);have d1:S1 (i+1) hd:=D1.frame _ _ _ b1 λb hm o e=>sd.extBut _ _ (ne hm Z.a21) e;refine XB ?_;refine XB ?_;refine XA (wpAny_newTuple ?_ (show(2:Nat)<=sizeLine by decide));have hsz:hd.objs.size=s.heap.objs.size:=by rw[sd.1,sb.1,sa.1]
 have hzd:Mo hd z TI TO T true:=sd.extBut _ _ zi2 (sb.extBut _ _ zi1 hza);have up:∀c o,hd.get? c=some o->(hd.push {cls:=.type "tuple",data:=.seq #[x,y]}).get? c=some o:=λc o e=>XC _ e;refine XB ⟨_,VS,?_⟩;show Q (.ref hd.objs.size) _;have hTn:IsPair (hd.push {cls:=.type "tuple",data:=.seq #[x,y]}) hd.objs.size x y:=XF _ VS;rw[hsz] at hTn |-;exact hQ x y _ td true hx hy (up _ _ hzd) (D1.frame _ _ _ d1 λb hm o e=>up _ o e) (D2.frame _ _ _ d2 λb hm o e=>up _ o e) hTn λc o n1 n3 n4 e=>up c o (sd.extBut _ _ n4 (sb.extBut _ _ n3 (sa.extBut _ _ n1 e)))
def kz {T:WP}{b:Bool}{Q:Fin->WR->Prop}(D1:Draws prog w A i1 f1 n P1 S1)(Z:ol z TI TO i1 i2 f1 f2)
  (hz:Mo s.heap z TI TO T b) (hT:∃o,s.heap.get? T=some o) (hTI:IsPair s.heap TI (.ref i1) (.ref i2)) (s1:S1 n s.heap)
  (hE:∀h2 ex,(∀c o,c≠z->c≠i1->c≠i2->s.heap.get? c=some o->h2.get? c=some o)->(∃o,h2.get? ex=some o/\o.cls=.type "StopIteration")->E (.ref ex) {s with heap:=h2}):
  wpAny (model prog w) A (Builtin.«zip.__next__» ⟨[.ref z],[]⟩) Q E s:=by
 show wpAny _ _ (field (.ref z) 2>>=_) _ E s;refine XA (wpAny_field hz VS (x:=.bool false) VS ?_);show wpAny _ _ (field (.ref z) 3>>=_) _ E s;refine XA (wpAny_field hz VS (x:=.ref TI) VS ?_);refine XA (wpAny_seqItems hTI VS ?_);show wpAny _ _ (Builtin.SmallTypes.ownedTupleIsFree (.ref z)>>=_) _ E s;refine XA (wH hz hT λha hza sa=>?_);simp only[Bool.false_eq_true,if_false];have ne:∀{b c:WP} {l:List WP},b∈l->c∉l->b≠c:=λhb hc e=>hc (e▸hb);have a1:S1 n ha:=D1.frame n _ _ s1 λb hb o e=>sa.extBut _ _ (ne hb Z.z1) e;rw[<-Array.forIn_toList];simp only[List.forIn_cons,List.forIn_nil];refine XA (XA (XA (wpAny_holding ?_)));show wpAny _ _ (Builtin.SmallTypes.nextOf (.ref i1)>>=_) _ _ _;refine XA (D1.done {s with heap:=ha} _ _ a1 λhb ex sb he=>?_);exact hE hb ex (λc o n1 n3 n4 e=>sb _ _ n3 (sa.extBut _ _ n1 e)) he
end
end L2
namespace PySem.F
def lz_entry_loop:entryFor table "dict.update.loop"=some Builtin.«dict.update.loop»:=entryFor_of_tree (by kernel_rfl)
end PySem.F
namespace L2
open PySem PySem.Spec PyProof.Rows
structure ZS (z TI TO i1 i2 l1 l2:Addr)(xs ys:Array Value)(i:Nat)(h:Heap):Prop where
 zip:IsZip h z TI TO .none\/∃T b,Mo h z TI TO T b/\(∃o,h.get? T=some o)/\T≠z/\T≠TO/\T≠i1/\T≠i2
 its:IsPair h TI (.ref i1) (.ref i2)
 own:∃a b,IsPair h TO a b
 s1:h.IsTupleIter i1 l1 i/\h.IsTuple l1 xs
 s2:h.IsTupleIter i2 l2 i/\h.IsTuple l2 ys
def ZS.frame {z TI TO i1 i2 l1 l2:WP}{h h':WU}(Z:ZS z TI TO i1 i2 l1 l2 xs ys i h)(k:∀b∈[z,TI,TO,i1,i2,l1,l2],∀o,h.get? b=some o->h'.get? b=some o)(al:∀b,(∃o,h.get? b=some o)->∃o,h'.get? b=some o):ZS z TI TO i1 i2 l1 l2 xs ys i h':=by
 obtain⟨a,b,⟨u,v,c⟩,d,e⟩:=Z;refine⟨?_,k _ (by simp) _ b,⟨u,v,k _ (by simp) _ c⟩,⟨d.1.at λo q=>k _ (by simp) o q,d.2.at λo q=>k _ (by simp) o q⟩,⟨e.1.at λo q=>k _ (by simp) o q,e.2.at λo q=>k _ (by simp) o q⟩⟩
 rcases a with a | ⟨T,b,a,hT,r⟩
 ·exact .inl (k _ (by simp) _ a)
 ·exact .inr ⟨T,b,k _ (by simp) _ a,al _ hT,r⟩
section
variable {prog:WO}{w:WN}{A:WM}{E:WQ->WR->Prop}{s:WR}{z TI TO i1 i2 l1 l2:WP}{xs ys:Array WQ}
def ou {i:Nat}{Q:Option WQ->WR->Prop}(hh:A.handled=none)(Z:ol z TI TO i1 i2 [i1,l1] [i2,l2])(h1:l1≠i1)(h2:l2≠i2)(hn:xs.size=ys.size)(hi:i<xs.size)(st:ZS z TI TO i1 i2 l1 l2 xs ys i s.heap)
  (hQ:∀T x y h' tk,xs[i]?=some x->ys[i]?=some y->s.heap.objs.size<=T->IsPair h' T x y->ZS z TI TO i1 i2 l1 l2 xs ys (i+1) h'->(∀b o,b∉[z,TO,i1,i2]->s.heap.get? b=some o->h'.get? b=some o)->Q (some (.ref T)) {s with heap:=h',toks:=tk}):
  wpAny (model prog w) A (pyNext (.ref z)) Q E s:=by
 have D1:=Vz (prog:=prog) (w:=w) (A:=A.in1) hh i1 l1 h1 xs;have D2:=Vz (prog:=prog) (w:=w) (A:=A.in1) hh i2 l2 h2 ys;rw[<-hn] at D2;obtain⟨a,b,⟨u,v,c⟩,d,e⟩:=st;have al:∀{h h':WU},True:=λ{_ _}=>trivial;have lt:∀{c o},s.heap.get? c=some o->s.heap.objs.size≠c:=λe=>RL (XD e);obtain⟨o1,l1'⟩:=D1.live _ _ d;obtain⟨o2,l2'⟩:=D2.live _ _ e
 rcases a with a | ⟨T,bb,a,hT,t1,t2,t3,t4⟩
 ·have hTy:s.TypeIs (.ref z) "zip":=⟨_,a,VS⟩;unfold pyNext;refine XA (wpAny_attempt (wpAny_callSpecial?_slot (name:=Str.ofString "__next__") hTy QI (wpAny_call_entry QI hTy RN
   (wG D1 D2 Z hi a b c d e λx y h2 t2 hx hy z1 z2 z3 z4 z5 z6=>XB ?_) (RI _))))
  refine hQ _ x y h2 t2 hx hy (XE _) z5 ⟨.inr ⟨_,false,z1,⟨_,z5⟩,lt a,lt c,lt l1',lt l2'⟩,z6 _ _ Z.tz Z.io Z.t1 Z.t2 b,⟨_,_,z2⟩,z3,z4⟩ λc o hc q=>?_;simp only[List.mem_cons,List.not_mem_nil,or_false,not_or] at hc;exact z6 c o hc.1 hc.2.1 hc.2.2.1 hc.2.2.2 q
 ·have hTy:s.TypeIs (.ref z) "zip":=⟨_,a,VS⟩;unfold pyNext;refine XA (wpAny_attempt (wpAny_callSpecial?_slot (name:=Str.ofString "__next__") hTy QI (wpAny_call_entry QI hTy RN
   (oA (u:=u) (v:=v) D1 D2 Z hi a hT b d e λx y h2 tk b2 hx hy z1 z3 z4 z5 z6=>XB ?_) (RI _))))
  obtain⟨oT,hoT⟩:=hT;have Oi1:TO≠i1:=λe=>Z.o1 (e▸Z.m1);have Oi2:TO≠i2:=λe=>Z.o2 (e▸Z.m2);refine hQ _ x y h2 tk hx hy (XE _) z5 ⟨.inr ⟨T,b2,z1,⟨oT,z6 _ _ t1 t3 t4 hoT⟩,t1,t2,t3,t4⟩,z6 _ _ Z.tz Z.t1 Z.t2 b,⟨_,_,z6 _ _ Z.oz Oi1 Oi2 c⟩,z3,z4⟩ λc o hc q=>?_;simp only[List.mem_cons,List.not_mem_nil,or_false,not_or] at hc;exact z6 c o hc.1 hc.2.2.1 hc.2.2.2 q
def kx {Q:Option WQ->WR->Prop}(hh:A.handled=none)(Z:ol z TI TO i1 i2 [i1,l1] [i2,l2])(h1:l1≠i1)(st:ZS z TI TO i1 i2 l1 l2 xs ys xs.size s.heap)
  (hQ:∀h' tk,(∀b o,b∉[z,TO,i1,i2]->s.heap.get? b=some o->h'.get? b=some o)->Q none {s with heap:=h',toks:=tk}):
  wpAny (model prog w) A (pyNext (.ref z)) Q E s:=by
 have D1:=Vz (prog:=prog) (w:=w) (A:=A.in1) hh i1 l1 h1 xs;obtain⟨a,b,⟨u,v,c⟩,d,e⟩:=st
 rcases a with a | ⟨T,bb,a,hT,t1,t2,t3,t4⟩
 ·have hTy:s.TypeIs (.ref z) "zip":=⟨_,a,VS⟩;unfold pyNext;refine XA (wpAny_attempt (wpAny_callSpecial?_slot (name:=Str.ofString "__next__") hTy QI (wpAny_call_entry QI hTy RN (tM D1 Z a b c d λh2 ex hk he=>?_) (RI _))));obtain⟨o,ho,hc⟩:=he;refine XA (wpAny_isInstance (T:="StopIteration") (b:=true) ⟨o,ho,hc⟩ isSubtype_stop ?_);refine XB (hQ h2 s.toks λc o hc q=>?_);simp only[List.mem_cons,List.not_mem_nil,or_false,not_or] at hc;exact hk c o hc.1 hc.2.1 hc.2.2.1 hc.2.2.2 q
 ·have hTy:s.TypeIs (.ref z) "zip":=⟨_,a,VS⟩;unfold pyNext;refine XA (wpAny_attempt (wpAny_callSpecial?_slot (name:=Str.ofString "__next__") hTy QI (wpAny_call_entry QI hTy RN (kz D1 Z a hT b d λh2 ex hk he=>?_) (RI _))));obtain⟨o,ho,hc⟩:=he;refine XA (wpAny_isInstance (T:="StopIteration") (b:=true) ⟨o,ho,hc⟩ isSubtype_stop ?_);refine XB (hQ h2 s.toks λc o hc q=>?_);simp only[List.mem_cons,List.not_mem_nil,or_false,not_or] at hc;exact hk c o hc.1 hc.2.2.1 hc.2.2.2 q
def mL {knd:KeyKind prog w Jb}{d:WP}(hh:A.handled=none)(Z:ol z TI TO i1 i2 [i1,l1] [i2,l2])(h1:l1≠i1)(h2:l2≠i2)(hn:xs.size=ys.size)(hd:d∉[z,TI,TO,i1,i2,l1,l2])(kk:Nat->Jb)(hk:∀i x,xs[i]?=some x->knd.is (kk i) x=true)(hsz:xs.size<=1000)
  {R:Result->WR->Prop} (h₀:WU) (hlt:∀b o,h₀.get? b=some o->b≠d/\b∉[z,TO,i1,i2])
  (hR:∀h' tk vs,(∀b o,h₀.get? b=some o->h'.get? b=some o)->h'.DictOf knd d vs->vs=((List.range xs.size).foldl (λa j=>stored a (kk j) ((ys[j]?).getD .none)) [])->R (.ok (.ret .none)) {s with heap:=h',toks:=tk}):
  ∀(m i:Nat) (h:WU) (tk:Nat) (vs:List (Jb×WQ)),xs.size-i=m->i<=xs.size->ZS z TI TO i1 i2 l1 l2 xs ys i h->(∀b o,h₀.get? b=some o->h.get? b=some o)->h.DictOf knd d vs->vs.length<=i->vs=((List.range i).foldl (λa j=>stored a (kk j) ((ys[j]?).getD .none)) [])-> 
   codeAny (model prog w) A (.builtin "dict.update.loop" ⟨[.ref d,.ref z,rawInt i,.none],[]⟩) R {s with heap:=h,toks:=tk}:=by
 intro m
 induction m with
 | zero=>
  intro i h tk vs hm hi st keep dd hl hv;have ei:i=xs.size:=by omega
  subst ei;refine codeAny_builtin PySem.F.lz_entry_loop ?_;show wpAny _ _ (pyNext (.ref z)>>=_) _ _ _;refine XA (kx (A:=A.under _) hh Z h1 st λh' tk' kp=>?_);show wpAny _ _ (Builtin.Dict.addKeywords d []>>=_) _ _ _;refine XA (XB (XB ?_));refine hR h' tk' vs (λb o q=>kp b o (hlt b o q).2 (keep b o q)) (dd.at λo q=>kp _ o ?_ q) hv;intro hm;exact hd (by simp only[ZM,ZN,or_false] at hm |-;rcases hm with h | h | h | h<;>simp[h])
 | succ m ih=>
  intro i h tk vs hm hi st keep dd hl hv;refine codeAny_builtin PySem.F.lz_entry_loop ?_;show wpAny _ _ (pyNext (.ref z)>>=_) _ _ _;have hdw:d∉[z,TO,i1,i2]:=λhm=>hd (by simp only[ZM,ZN,or_false] at hm |-;rcases hm with h | h | h | h<;>simp[h]);refine XA (ou (A:=A.under _) hh Z h1 h2 hn (by omega) st λT x y h' tk' hx hy hT hp st' kp=>?_);have dd':h'.DictOf knd d vs:=dd.at λo q=>kp _ o hdw q;show wpAny _ _ (holding [.ref T] _>>=_) _ _ _;refine XA (wpAny_holding ?_);refine XA (wpAny_tryCatch ?_);unfold Builtin.Dict.pairItems;refine XA (wpAny_typeOf (T:="tuple") ⟨_,hp,VS⟩ ?_);rw[XY (by decide)];refine XA (wpAny_seqItems hp VS (XB ?_));show wpAny _ _ (holding [x,y] (dictSet d x y)) _ _ _;refine wpAny_holding ?_;unfold dictSet;refine wpAny_holding (XA (knd.pyHash (hk i x hx) ?_));refine wpAny_dictSetHashed_pairs (hk i x hx) dd' (λh2 dd2 sb=>?_) (XN (show vs.length<=1000 by omega) (by decide));refine XB ⟨Code.quiet_builtin _ (by decide+kernel),?_⟩;have nd:∀b∈[z,TI,TO,i1,i2,l1,l2],b≠d:=λb hb e=>hd (e▸hb);have ei:(rawInt ((i:Int)+1))=rawInt ((i+1:Nat):Int):=by congr 1
  rw[ei];refine ih (i+1) h2 _ (stored vs (kk i) y) (by omega) (by omega) (st'.frame (λb hb o q=>sb.extBut _ _ (nd b hb) q) λb hb=>?_) (λb o q=>sb.extBut _ _ (hlt b o q).1 (kp b o (hlt b o q).2 (keep b o q))) dd2 ?_ ?_
  ·obtain⟨o,q⟩:=hb;by_cases e:b=d
   ·subst e;obtain⟨o',_,_,q',_⟩:=dd2;exact⟨o',q'⟩
   ·exact⟨o,sb.extBut _ _ e q⟩
  ·unfold stored
   split
   ·rw[XI];omega
   ·rw[PX,List.length_singleton];omega
  ·rw[List.range_succ,RJ,<-hv];simp[hy]
def zz {knd:KeyKind prog w Jb}{Q:WQ->WR->Prop}(hh:A.handled=none)(Z:ol z TI TO i1 i2 [i1,l1] [i2,l2])(h1:l1≠i1)(h2:l2≠i2)(hn:xs.size=ys.size)(kk:Nat->Jb)(hk:∀i x,xs[i]?=some x->knd.is (kk i) x=true)(hsz:xs.size<=1000)
  (h₀:WU) (hlt:∀b o,h₀.get? b=some o->b∉[z,TO,i1,i2]) (keep:∀b o,h₀.get? b=some o->s.heap.get? b=some o) (hz0:IsZip s.heap z TI TO .none) (st:ZS z TI TO i1 i2 l1 l2 xs ys 0 s.heap)
  (hQ:∀h' tk,(∀b o,h₀.get? b=some o->h'.get? b=some o)->h'.DictOf knd s.heap.objs.size ((List.range xs.size).foldl (λa j=>stored a (kk j) ((ys[j]?).getD .none)) [])->Q (.ref s.heap.objs.size) {s with heap:=h',toks:=tk}):
  wpAny (model prog w) A (call (.type "dict") [.ref z]) Q E s:=by
 refine callType_codes (Q₁:=λobj s₁=>obj=.ref s.heap.objs.size/\s₁={s with heap:=s.heap.push {cls:=.type "dict",data:=.dict #[]}}) PySem.F.kt_called_dict (PySem.F.kt_typeCall_dict_1 _) PySem.F.entry_dict_init (kt_code_dict_new _ ⟨VS,VS⟩) ?_;rintro obj s₁ ⟨rfl,rfl⟩;have hnew:(s.heap.push {cls:=.type "dict",data:=.dict #[]}).DictOf knd s.heap.objs.size []:=Heap.DictOf.new s.heap;have hps:∀b o,s.heap.get? b=some o->(s.heap.push {cls:=.type "dict",data:=.dict #[]}).get? b=some o:=λb o q=>XC _ q;have st1:ZS z TI TO i1 i2 l1 l2 xs ys 0 (s.heap.push {cls:=.type "dict",data:=.dict #[]}):=st.frame (λb _ o q=>hps b o q) λb ⟨o,q⟩=>⟨o,hps b o q⟩;refine⟨hnew.typeIs,PySem.F.args_dict_init_2 _ _,?_⟩;unfold Builtin.«dict.__init__»;refine XA ?_;unfold Builtin.Dict.selfAndRest;refine XA (wpAny_notOrdered_dict hnew.typeIs ?_);show wpAny _ _ (pure (s.heap.objs.size,[Value.ref z])) _ _ _;refine XB ?_;show wpAny _ _ (Builtin.Dict.updateFrom "dict.__init__" s.heap.objs.size (.ref z) [] .none) _ _ _;have hz:=hps _ _ hz0;unfold Builtin.Dict.updateFrom;refine XA (wpAny_typeOf (T:="zip") ⟨_,hz,VS⟩ ?_);rw[XY (by decide)];refine XA (mw hz hh λh' tk' kp=>?_);rw[XY (by decide)];have st2:ZS z TI TO i1 i2 l1 l2 xs ys 0 h':=st1.frame (λb _ o q=>kp b o q) λb ⟨o,q⟩=>⟨o,kp b o q⟩;refine XA (wpAny_rule ?_);refine XA (wpAny_pyIter_zip (kp _ _ hz) ?_);refine XB ⟨Code.quiet_builtin _ (by decide+kernel),?_⟩;have sd:∀b o,s.heap.get? b=some o->b≠s.heap.objs.size:=λb o q=>XH (XD q);have hd:s.heap.objs.size∉[z,TI,TO,i1,i2,l1,l2]:=by
  obtain⟨_,b,⟨u,v,c⟩,d,e⟩:=st;obtain⟨o1,e1,_⟩:=d.1;obtain⟨o2,e2,_⟩:=e.1;obtain⟨o3,e3,_⟩:=d.2;obtain⟨o4,e4,_⟩:=e.2;simp only[List.mem_cons,List.not_mem_nil,or_false,not_or];exact⟨(sd _ _ hz0).symm,(sd _ _ b).symm,(sd _ _ c).symm,(sd _ _ e1).symm,(sd _ _ e2).symm,(sd _ _ e3).symm,(sd _ _ e4).symm⟩
 refine mL (A:=A.in1) (s:=s) (knd:=knd) hh Z h1 h2 hn hd kk hk hsz h₀ (λb o q=>⟨sd b o (keep b o q),hlt b o q⟩) (λh3 tk3 vs k3 d3 hv=>?_) xs.size 0 h' tk' [] VS (XO _) st2 (λb o q=>kp b o (hps b o (keep b o q))) (hnew.at λo q=>kp _ o q) (XE _) VS;subst hv;exact⟨VS,hQ h3 tk3 k3 d3⟩
end
def tH {α:Type}(put:List (Jb×α)->Jb->α->List (Jb×α))(ks:List Jb)(ys:List α):List (Jb×α):=(ks.zip ys).foldl (λa kv=>put a kv.1 kv.2) []
def gF {α:Type}{put:List (Jb×α)->Jb->α->List (Jb×α)}(hp:∀a k v,(put a k v).length<=a.length+1)(ks:List Jb)(ys:List α):(tH put ks ys).length<=ks.length:=by
 have key:∀(l:List (Jb×α)) (acc:List (Jb×α)),(l.foldl (λa kv=>put a kv.1 kv.2) acc).length<=acc.length+l.length:=by
  intro l
  induction l with
  | nil=>intro acc;simp
  | cons x l ih=>intro acc;have h1:=ih (put acc x.1 x.2);have h2:=hp acc x.1 x.2;rw[List.foldl_cons,YF];omega
 have h:=key (ks.zip ys) [];rw[UF] at h;unfold tH;simp only[List.length_nil] at h;omega
def Za4 (K:WY)(ta:TA):TE:=λσ H Q=>ta σ H λvs H1=>∃(l1 l2:WP) (ks:List Jb) (ys:List V),vs=[.ref l1,.ref l2]/\Tg K H1 l1 (ks.map kV)/\Tg K H1 l2 ys/\ks.length=ys.length/\ks.length<=1000/\
 ∀p,H1 p=none->Q (.ref p) (J7 H1 p (.dK (tH Up ks ys)))
def cx {ks:List Jb}{ys:List V}(hl:ks.length=ys.length)(rv:Yd ys us):KV (tH Up ks ys) ((List.range ks.length).foldl (λa j=>stored a ((ks[j]?).getD (.inl 0)) ((us.toArray[j]?).getD .none)) []):=by
 have key:∀i,i<=ks.length->KV (((ks.zip ys).take i).foldl (λa kv=>Up a kv.1 kv.2) []) ((List.range i).foldl (λa j=>stored a ((ks[j]?).getD (.inl 0)) ((us.toArray[j]?).getD .none)) []):=by
  intro i
  induction i with
  | zero=>intro _;exact .nil
  | succ i ih=>
   intro hi;have hk:ks[i]?=some ks[i]:=by simp[show i<ks.length by omega]
   have hy:ys[i]?=some (ys[i]'(by omega)):=by simp[show i<ys.length by omega]
   obtain⟨u,hu,ru⟩:=rv.get hy;have hz:(ks.zip ys)[i]?=some (ks[i],ys[i]'(by omega)):=by rw[SE];exact⟨hk,hy⟩
   have hu':us.toArray[i]?=some u:=by simpa using hu
   rw[List.range_succ,RJ,YD,hz,Option.toList_some,RJ];simp only[List.foldl_cons,List.foldl_nil,hk,hu',Option.getD_some];exact(ih (by omega)).put _ ru
 have h:=key ks.length (XE _);rw[SU (by rw[UF];omega)] at h;exact h
section
variable {X:Cx}
def xt {a c:WW}{p pos p2 pos2:Pos}(hc:X.calm=true)(hg:Gl X "dict")(hm:X.mg "dict"=none)(hg2:Gl X "zip")(hm2:X.mg "zip"=none)(ha:PA X [a,c] ta)(hs:starEach [a,c] X.env=(false,eval a X.env)::starEach [c] X.env:=by rfl)(hp:(backTo pos2 (starEach [c] X.env)).any (·.1)=false:=by rfl)
  (hs2:starEach [.Call (.Name "zip" p2) [a,c] [] pos2] X.env=[(false,eval (.Call (.Name "zip" p2) [a,c] [] pos2) X.env)]:=by rfl) (hb:bootBuiltins "zip"=some (.type "zip"):=by decide+kernel) (hb2:bootBuiltins "dict"=some (.type "dict"):=by decide+kernel):
  PE X (.Call (.Name "dict" p) [.Call (.Name "zip" p2) [a,c] [] pos2] [] pos) (Za4 X.K ta):=by
 intro WZ s σ H Q I h;refine Call_ (Rh I hg hm hb2 (QF ?_ hs2 VS));rw[hs2];show wpAny _ _ (spliced ((false,eval (.Call (.Name "zip" p2) [a,c] [] pos2) X.env)::backTo pos [])) _ _ s;refine QH (Call_ (Rh I hg2 hm2 hb (QF (J5 (ha pos2 WZ s σ H _ I h) λus s1 ⟨vs,H1,I1,r1,q1⟩=>?_) hs hp)));obtain⟨l1,l2,ks,ys,rfl,hq1,hq2,hlen,hsz,q⟩:=q1;obtain⟨u,v,rfl,ru,rv⟩:=r1.two
 cases ru
 cases rv
 obtain⟨its1,rv1,p1,_⟩:=I1.tuple hq1;obtain⟨its2,rv2,p2',_⟩:=I1.tuple hq2;have lt1:l1<s1.heap.objs.size:=by obtain⟨_,e,_⟩:=p1;exact XD e
 have lt2:l2<s1.heap.objs.size:=by obtain⟨_,e,_⟩:=p2';exact XD e
 have n1:its1.toArray.size=ks.length:=by rw[XJ,<-rv1.length,XI]
 have n2:its2.toArray.size=ys.length:=by rw[XJ,<-rv2.length]
 refine Ih p1 p2' λh2 N=>?_;refine RH ?_;generalize hk:s1.heap.objs.size=k at N lt1 lt2;have Z:=Bb lt1 lt2;have st:ZS (k+4) (k+2) (k+3) k (k+1) l1 l2 its1.toArray its2.toArray 0 h2:=by
  refine⟨.inl (hk▸N.zip),hk▸N.its,⟨_,_,hk▸N.own⟩,⟨⟨_,hk▸N.i1,VS,VS⟩,Heap.IsTuple.at (show s1.heap.IsTuple l1 its1.toArray from p1) λo q=>N.keep _ o q⟩,⟨⟨_,hk▸N.i2,VS,VS⟩,Heap.IsTuple.at (show s1.heap.IsTuple l2 its2.toArray from p2') λo q=>N.keep _ o q⟩⟩
 have hkk:∀i x,its1.toArray[i]?=some x->(Jq X.prog X.w).is ((ks[i]?).getD (.inl 0)) x=true:=λi x hx=>by
  have hi:i<ks.length:=by
   have:=(Array.getElem?_eq_some_iff.mp hx).1;omega
  have hk':ks[i]?=some ks[i]:=by simp[hi]
  have hm':(ks.map kV)[i]?=some (kV ks[i]):=by rw[XM,hk'];rfl
  obtain⟨u,hu,ru⟩:=rv1.get hm';have:u=x:=by
   have e:its1[i]?=some x:=by simpa using hx
   rw[hu] at e;exact YH e
  subst this;rw[hk'];exact Nk ru
 have old:∀b o,s1.heap.get? b=some o->b∉[k+4,k+3,k,k+1]:=λb o q hb=>by
  have:b<k:=hk▸XD q;simp only[ZM,ZN,or_false] at hb
  rcases hb with e | e | e | e
  ·rw[e] at this;exact UC (QJ k 4) this
  ·rw[e] at this;exact UC (QJ k 3) this
  ·rw[e] at this;exact RA k this
  ·rw[e] at this;exact UC (QJ k 1) this
 refine zz (s:={s1 with heap:=h2}) (knd:=Jq X.prog X.w) (I.ok.hd hc) Z (XH lt1) (XH (SN lt2)) (by omega) (λj=>(ks[j]?).getD (.inl 0)) hkk (by omega) s1.heap old N.keep (hk▸N.zip) st λh3 tk3 keep dd=>?_;have hp3:s1.heap.objs.size<=h2.objs.size:=by
  have:=XD (hk▸N.zip:IsZip h2 (k+4) (k+2) (k+3) .none);rw[hk];exact XN (QJ _ _) (SF this)
 rw[n1] at dd;have big:(h2.objs.size==sysModules)=false:=beq_eq_false_iff_ne.mpr (Ne.symm (XH (XG I1.big hp3)));have zl:(tH Up ks ys).length<=sizeLine:=by
  have:=gF (α:=V) (put:=Up) (λa k v=>by unfold Up;split<;>simp) ks ys;exact XN (XN this hsz) (by decide)
 exact⟨.ref _,_,I1.laid (h':=h3) (t':=tk3) keep hp3 (Fo zl big (cx hlen rv2) dd),VS,q _ (I1.hok.fresh hp3)⟩
end
end L2
namespace WL
open PySem PySem.Spec PyProof.Rows L2
def Zal (a:WA):WE:=λτ C Q χ=>a τ C (λvs C1=>∃(zs:List Str) (ts:List T),vs=[.tup (zs.map T.str),.tup ts]/\zs.length=ts.length/\zs.length<=1000/\∀p,C1 p=none->Q (.ref p) (up C1 p (.dic (tH Nx (zs.map Sum.inr) ts)))) χ
def D5 {K:WY}:∀{zs:List Str} {ys:List V},Reps K H ys (zs.map T.str)->ys=(zs.map (Sum.inr:Str->Jb)).map kV
 | [],_,h=>by rw[Vo h];rfl
 | z::zs,_,h=>by obtain⟨y,r,rfl,a,b⟩:=J2 h;rw[Jy a,D5 b];rfl
def d0 {K:WY}(r:Reps K H ys ts):PR K H (tH Up ks ys) (tH Nx ks ts):=by
 unfold tH;have key:∀(ks:List Jb) (ys:List V) (ts:List T) (a:List (Jb×V)) (b:List (Jb×T)),Reps K H ys ts->PR K H a b->PR K H ((ks.zip ys).foldl (λa kv=>Up a kv.1 kv.2) a) ((ks.zip ts).foldl (λa kv=>Nx a kv.1 kv.2) b):=by
  intro ks
  induction ks with
  | nil=>intro ys ts a b r h;exact h
  | cons k ks ih=>
   intro ys ts a b r h
   cases ts with
   | nil=>rw[Vo r];exact h
   | cons t ts=>
    obtain⟨y,r',rfl,q,q'⟩:=J2 r;simp only[List.zip_cons_cons,List.foldl_cons];exact ih _ _ _ _ q' (PR.put h q)
 exact key ks ys ts [] [] r .nil
section
variable {X:Cx}{a c:WW}{wA:WA}{p pos p2 pos2:Pos}
def az (hc:X.calm=true)(hg:Gl X "dict")(hm:X.mg "dict"=none)(hg2:Gl X "zip")(hm2:X.mg "zip"=none)(ha:Dn X [a,c] wA)(hs:starEach [a,c] X.env=(false,eval a X.env)::starEach [c] X.env:=by rfl)(hp:(backTo pos2 (starEach [c] X.env)).any (·.1)=false:=by rfl)
  (hs2:starEach [.Call (.Name "zip" p2) [a,c] [] pos2] X.env=[(false,eval (.Call (.Name "zip" p2) [a,c] [] pos2) X.env)]:=by rfl):X0 X (.Call (.Name "dict" p) [.Call (.Name "zip" p2) [a,c] [] pos2] [] pos) (Zal wA):=by
 obtain⟨t,p1,s⟩:=ha;refine⟨_,xt hc hg hm hg2 hm2 p1 hs hp hs2,λF H C σ τ Q Q' χ R S h q=>?_⟩;refine s F H C σ τ _ _ χ R S h λxs vs H1 C1 R1 t1 rs h1=>?_;obtain⟨zs,ts,rfl,hl,hz,h1⟩:=h1;obtain⟨x1,r1,rfl,q1,rs⟩:=J2 rs;obtain⟨x2,r2,rfl,q2,rs⟩:=J2 rs
 cases Vo rs
 obtain⟨a1,ys1,rfl,sq1,e1⟩:=Yw q1;obtain⟨a2,ys2,rfl,sq2,e2⟩:=Yw q2
 cases D5 e1
 refine⟨a1,a2,zs.map Sum.inr,ys2,VS,sq1,sq2,by rw[XI,e2.length];exact hl,by rw[XI];exact hz,λpp hpp=>?_⟩;have tn:Tx H1 (J7 H1 pp (.dK (tH Up (zs.map Sum.inr) ys2))):=Tx.new hpp;exact q _ _ _ _ (R1.new (o:=.dic (tH Nx (zs.map Sum.inr) ts)) hpp ⟨_,Yy,Gi tn (d0 e2)⟩) (t1.trans tn) Xd (h1 pp (R1.free hpp))
end
end WL
namespace L2
open PySem PySem.Spec PyProof.Rows
section
variable {X:Cx}
def Za3 (te:TE):TE:=λσ H Q=>te σ H λx H1=>(∃z:Str,x=.str z/\z.length<=sizeLine/\Q (.str z) H1)\/∃i:Int,x=.int i/\i.natAbs.log2<1920/\Q (.str (toString i)) H1
def dC (h:PE X e te):PE X (.FormattedValue e (-1) none pos) (Za3 te):=by
 intro WZ s σ H Q I q;refine FormattedValue_plain (J5 (h WZ s σ H _ I q) λu s1 ⟨x,H1,I1,rx,q1⟩=>?_)
 rcases q1 with⟨z,rfl,hz,q1⟩ | ⟨i,rfl,hi,q1⟩
 ·obtain⟨t,rfl⟩:=rx;exact formatField_str (λt' tk=>⟨.str z,H1,I1.tok _,⟨t',VS⟩,q1⟩) hz
 ·obtain⟨t,rfl⟩:=rx;exact formatField_int_small hi ⟨.str (toString i),H1,I1.tok _,⟨_,VS⟩,q1⟩
def tJ:List TE->Str->TE
 | [],out=>λ_ H Q=>Q (.str out) H
 | t::ts,out=>λσ H Q=>t σ H λx H1=>∃z:Str,x=.str z/\(out++z).length<=sizeLine/\tJ ts (out++z) σ H1 Q
inductive fG (X:Cx):List Expr->List TE->Prop
 | nil:fG X [] []
 | cons {e:WW} {es:List WW} {t:TE} {ts:List TE} (h:PE X e t) (r:fG X es ts):fG X (e::es) (t::ts)
def pj (h:fG X es ts):∀{WZ:List (WP×Obj)} {s:WR} {σ:St} {H:Hp} {Q:VK} {out:Str},out.length<=sizeLine->Z7 X WZ σ H s->tJ ts out σ H Q->wpAny (model X.prog X.w) X.A (joinParts out (evalEach es X.env)) (EP X WZ σ Q) X.xe s:=by
 induction h with
 | nil=>
  intro WZ s σ H Q out ho I q;exact joinParts_nil ⟨.str out,H,I.tok _,⟨_,VS⟩,q⟩ ho
 | @cons e es t ts h r ih=>
  intro WZ s σ H Q out ho I q;show wpAny _ _ (joinParts out (eval e X.env::evalEach es X.env)) _ _ s;refine joinParts_cons (J5 (h WZ s σ H _ I q) λu s1 ⟨x,H1,I1,rx,z,ex,hz,q1⟩=>?_);subst ex;obtain⟨t',rfl⟩:=rx;exact⟨hz,ih hz I1 q1⟩
def ut {v1 v2:WW}{Jk:List WW}(h:fG X (v1::v2::Jk) ts):PE X (.JoinedStr (v1::v2::Jk) pos) (tJ ts Str.empty):=by
 intro WZ s σ H Q I q;exact JoinedStr_many (pj h (XO _) I q)
end
end L2
namespace WL
open PySem PySem.Spec PyProof.Rows L2
def av (e:WE):WE:=λτ C Q χ=>e τ C (λx C1=>(∃z:Str,x=.str z/\z.length<=sizeLine/\Q (.str z) C1)\/∃i:Int,x=.int i/\i.natAbs.log2<1920/\Q (.str (toString i)) C1) χ
def eJ:List WE->Str->WE
 | [],out=>λ_ C Q _=>Q (.str out) C
 | w::ws,out=>λτ C Q χ=>w τ C (λv C1=>∃z:Str,v=.str z/\(out++z).length<=sizeLine/\eJ ws (out++z) τ C1 Q χ) χ
section
variable {X:Cx}{e k v:WW}{we wk wv:WE}{pos:Pos}
def cC (he:X0 X e we):X0 X (.FormattedValue e (-1) none pos) (av we):=by
 obtain⟨t,p,s⟩:=he;refine⟨_,dC p,λF H C σ τ Q Q' χ R S h q=>?_⟩;refine s F H C σ τ _ _ χ R S h λx u H1 C1 R1 t1 rx h1=>?_
 rcases h1 with⟨z,rfl,hz,h1⟩ | ⟨i,rfl,hi,h1⟩
 ·cases Jy rx
  exact .inl ⟨z,VS,hz,q _ _ H1 C1 R1 t1 Xc h1⟩
 ·cases Yo rx
  exact .inr ⟨i,VS,hi,q _ _ H1 C1 R1 t1 Xc h1⟩
def bn (X:Cx)(es:List WW)(ws:List WE):Prop:=∃ts,fG X es ts/\∀(out:Str),Ty X.K (tJ ts out) (eJ ws out)
def gH:bn X [] []:=⟨[],.nil,λout F H C σ τ Q Q' χ R S h q=>q _ _ H C R (Tx.refl H) Xc h⟩
def zi (he:X0 X e we)(hr:bn X es ws):bn X (e::es) (we::ws):=by
 obtain⟨t,p,s⟩:=he;obtain⟨ts,ps,ss⟩:=hr;refine⟨t::ts,.cons p ps,λout F H C σ τ Q Q' χ R S h q=>?_⟩;refine s F H C σ τ _ _ χ R S h λx u H1 C1 R1 t1 rx h1=>?_;obtain⟨z,rfl,hz,h1⟩:=h1
 cases Jy rx
 exact⟨z,VS,hz,ss (out++z) F H1 C1 σ τ _ _ χ R1 (S.tx t1) h1 (QE.at q t1)⟩
def pE {v1 v2:WW}{Jk:List WW}(h:bn X (v1::v2::Jk) ws):X0 X (.JoinedStr (v1::v2::Jk) pos) (eJ ws Str.empty):=by
 obtain⟨ts,ps,ss⟩:=h;exact⟨_,ut ps,ss _⟩
def pk (k v:WE):WE:=λτ C Q χ=>∀p,C p=none->k τ (up C p (.dic [])) (λx C1=>v τ C1 (λy C2=>∃kk,kT x=some kk/\C2 p=some (.dic [])/\Q (.ref p) (up C2 p (.dic [(kk,y)]))) χ) χ
def mW (hk:X0 X k wk)(hv:X0 X v wv):X0 X (.Dict [some k] [v] pos) (pk wk wv):=by
 obtain⟨tk,p1,s1⟩:=hk;obtain⟨tv,p2,s2⟩:=hv;refine⟨_,nT (rG p1 p2 nM) VS VS (by simp) (by simp),λF H C σ τ Q Q' χ R S h q=>?_⟩;intro p hp;have tn:Tx H (J7 H p (.dK [])):=Tx.new hp;have R0:Rl X.K F (J7 H p (.dK [])) (up C p (.dic [])):=R.new hp ⟨[],Yy,.nil⟩;refine s1 F _ _ σ τ _ _ χ R0 (S.tx tn) (h p (R.free hp)) λx u H1 C1 R1 t1 rx h1=>?_;refine s2 F H1 C1 σ τ _ _ χ R1 (S.tx (tn.trans t1)) h1 λy u2 H2 C2 R2 t2 ry h2=>?_;obtain⟨kk,hk,hC,h2⟩:=h2;obtain⟨ks,hH,pr⟩:=R2.dic hC
 cases pr
 have ex:x=kV kk:=Oj hk rx;subst ex;have tp:Tx H2 (J7 H2 p (.dK [(kk,y)])):=Tx.put hH (λz=>z);obtain⟨R3,t3⟩:=R2.put (u:=.dK [(kk,y)]) (o':=.dic [(kk,u2)]) hC ⟨_,Yy,.cons ⟨VS,ry.tx tp⟩ .nil⟩;exact⟨hH,[(kk,y)],VS,by simp,q _ _ _ _ R3 (((tn.trans t1).trans t2).trans t3) Xd h2⟩
end
end WL
namespace L2
open PySem PySem.Spec PyProof.Rows
section
variable {X:Cx}
def nj:V->List V->Hp->VK->Prop:=λx vs H Q=>∃l xs i y,x=.ref l/\vs=[.int i,y]/\H l=some (.lst xs)/\0<=i/\i.toNat<=xs.length/\xs.length<sizeLine/\Q .non (J7 H l (.lst (xs.take i.toNat++y::xs.drop i.toNat)))
def gx {its:List WQ}{w:WQ}{i:Int}{k:Nat}(h0:0<=i)(hk:i.toNat=k)(hl:k<=its.length):
  (its.toArray.extract 0 (if i<0 then(i+(its.toArray.size:Int)).toNat else min i.toNat its.toArray.size)).push w++its.toArray.extract (if i<0 then(i+(its.toArray.size:Int)).toNat else min i.toNat its.toArray.size)=(its.take k++w::its.drop k).toArray:=by
 rw[XX (by omega),hk,XJ,Nat.min_eq_left hl];apply Array.toList_inj.mp;simp;exact SU (by rw[RW];omega)
def u6:cW X "list.insert" nj:=by
 intro WZ s σ H x vs v us Q I rx rv h;obtain⟨l,xs,i,y,rfl,rfl,hH,h0,hk,hz,q⟩:=h
 cases rx
 obtain⟨u,w,rfl,ru,rw'⟩:=rv.two;obtain⟨t,rfl⟩:=ru;obtain⟨z,its,n,r,hl,e⟩:=I.lstM hH;have hfit:Builtin.List.listFitsIndex i=true:=by
  have h1: -(2^63:Int)<=i:=by omega
  have h2:i<2^63:=by
   have:sizeLine<2^63:=by decide
   omega
  exact fitsIndex_both h1 h2
 refine call_meets F.slot_list_insert ⟨_,e,VS⟩ F.entry_list_insert (F.args_list_insert_3 _ _ _) (PySem.AutoSeq1.list_insert_list_int_val_1 l its.toArray n i t w (by simp[hfit]) (by rw[List.size_toArray];omega)) ⟨e,?_⟩;refine⟨.non,_,I.lset (its':=its.take i.toNat++w::its.drop i.toNat) hH e (gx h0 VS (by omega)) ((r.take i.toNat).append (.cons rw' (r.drop i.toNat))) ?_,VS,q⟩;simp;omega
end
end L2
namespace WL
open PySem PySem.Spec PyProof.Rows L2
section
variable {X:Cx}
def Au:T->List T->Hw->WK->Prop:=λx vs C Q=>∃a xs i y,x=.ref a/\vs=[.int i,y]/\C a=some (.lst xs)/\0<=i/\i.toNat<=xs.length/\xs.length<sizeLine/\Q .non (up C a (.lst (xs.take i.toNat++y::xs.drop i.toNat)))
def yT:om X "list.insert" Au:=⟨_,u6,λF H C x v xs vs Q Q' R rx rs h q=>by
 obtain⟨a,ts,i,y,rfl,rfl,hx,h0,hk,hl,h⟩:=h
 cases Yb rx
 obtain⟨z1,z2,rfl,r1,r2⟩:=Am rs
 cases Yo r1
 obtain⟨ys,hy,r⟩:=R.lst hx;obtain⟨R',t⟩:=R.putL hx ((r.take i.toNat).app (Yn r2 (r.drop i.toNat)));exact⟨a,ys,i,z2,VS,VS,hy,h0,by rw[r.length];exact hk,by rw[r.length];exact hl,q _ _ _ _ R' t Tl h⟩⟩
end
end WL
namespace L2
open PySem PySem.Spec PyProof.Rows
open AutoSeq1 (wpAny_loadPart')
def yM (l:WP)(items:Array WQ)(t:Tok):
  Meets (Builtin.«enumerate.__new__» ⟨[.type "enumerate",.ref l],[("start",.int 1 t)]⟩) (λ_ R s=>s.heap.IsTuple l items/\
   R (.ok (.ret (.ref (s.heap.push {cls:=.type "tuple_iterator",data:=.fields #[.ref l,.int 0 0]}).objs.size)))
    {s with heap:=(s.heap.push {cls:=.type "tuple_iterator",data:=.fields #[.ref l,.int 0 0]}).push {cls:=.type "enumerate",data:=.fields #[.none,.bool false,.ref s.heap.objs.size,rawInt 1,.none,.none]}}):=
 .of_wp λprog w A R s h=>by
  obtain⟨hp,g,d,tk,os⟩:=s;obtain⟨hL,h⟩:=h;have hsub:=sub_enumerate
  wp_walk
  refine wpAny_stack_any λst=>XB ?_
  split
  ·rename_i c _ _ _ _ _
   cases (c==Value.type "enumerate")
   ·wp_walk using wpAny_pyIter_tuple hL
    exact⟨_,VS,h⟩
   ·wp_walk using wpAny_pyIter_tuple hL
    exact⟨_,VS,h⟩
  ·wp_walk using wpAny_pyIter_tuple hL
   exact⟨_,VS,h⟩
def pG (a:WQ)(t:Tok):checkTypeCall "enumerate" ⟨[a],[("start",.int 1 t)]⟩=pure ():=by kernel_rfl
def pH (a:WQ)(t:Tok):checkBuiltinCall "enumerate.__new__" ⟨[.type "enumerate",a],[("start",.int 1 t)]⟩=pure ():=by kernel_rfl
def xN {self a:WQ}:Meets (Builtin.«object.__init__» ⟨[self,a],[("start",.int 1 t)]⟩) (λ_ R s=>s.TypeIs self "enumerate"/\R (.ok (.ret .none)) s):=by
 refine Meets.of_wp λprog w A R s hs=>?_;obtain⟨hT,hq⟩:=hs;have hl:=F.called_enumerate.init.lookup;have hm:=F.called_enumerate.made;have hne:(some "enumerate.__new__" !=some "object.__new__")=true:=by decide
 repeat (any_goals (first | assumption | wp_step))
 exact⟨_,VS,hq⟩
section
variable {prog:WO}{w:WN}{A:WM}{E:WQ->WR->Prop}{s:WR}
def pR (obj a:WQ)(t:Tok):argsOk "object.__init__" ⟨[obj,a],[("start",.int 1 t)]⟩:=by
 unfold argsOk;rw[signature?_of (id:="object.__init__") (n:=['_','_','t','i','n','i','_','_']) (o:=['t','c','e','j','b','o']) (by kernel_rfl) F.owner_object];kernel_rfl
def j9 {a:WQ}{Q:WQ->WR->Prop}(g:Meets (Builtin.«enumerate.__new__» ⟨[.type "enumerate",a],[("start",.int 1 t)]⟩) S)
  (h:S A.in1 (wants (λobj s₁=>s₁.TypeIs obj "enumerate"/\Q obj s₁) E) s):wpAny (model prog w) A (call (.type "enumerate") [a] [("start",.int 1 t)]) Q E s:=by
 have ft:=F.called_enumerate;obtain⟨c,tl,hmro⟩:=ft.mro;have hmade:=ft.made;have hsub:=ft.sub;have hct:=pG a t;refine wpAny_call (codeAny_of_tree ?_);show wpAny _ _ (callAny (.type "enumerate") _) _ _ _;refine XB ⟨Code.quiet_builtin _ (by decide+kernel),codeAny_builtin F.entry_type_call ?_⟩;rw[Around.under_plain (weight_type_call_type "enumerate" [a] [("start",.int 1 t)]) (units_type_call_type "enumerate" [a] [("start",.int 1 t)])];have h1:=ft.notType;have h2:=ft.canCreate
 repeat (any_goals (first | assumption | wp_step))
 refine codeAny_mono (codeAny_call_builtin ft.plain F.entry_enumerate_new (wpAny_of_eq (pH a t) (g prog w A.in1 _ s h))) λr s₁ hr=>?_
 cases r with
 | error e=>exact hr
 | ok fl=>
  cases fl with
  | ret obj=>
   have hT:=hr.1;have hli:=ft.init.lookup;have hbi:=ft.init.bind obj
   repeat (any_goals (first | assumption | wp_step))
   refine codeAny_mono (codeAny_call_builtin ft.init.plain F.entry_object_init (ft.init.check _ _ _ _ _ _ _ _ hT (pR obj a t) (xN prog w A.in1 (wants (λr s₂=>r=.none/\Q obj s₂) E) s₁ ⟨hT,VS,hr.2⟩))) λr₂ s₂ hr₂=>?_
   cases r₂ with
   | error e=>exact hr₂
   | ok fl₂=>
    cases fl₂ with
    | ret r=>
     obtain⟨rfl,hq⟩:=hr₂
     repeat (any_goals (first | assumption | wp_step))
    | _=>exact hr₂.elim
  | _=>exact hr.elim
def wu {t:Tok}{Q:WQ->WR->Prop}(hL:s.heap.IsTuple l items)
  (h:∀h',IsEnum h' (s.heap.objs.size+1) s.heap.objs.size 1 .none->h'.IsTupleIter s.heap.objs.size l 0->h'.objs.size=s.heap.objs.size+2->
   (∀b o,s.heap.get? b=some o->h'.get? b=some o)->Q (.ref (s.heap.objs.size+1)) {s with heap:=h'}):
  wpAny (model prog w) A (call (.type "enumerate") [.ref l] [("start",.int 1 t)]) Q E s:=by
 refine j9 (yM l items t) ⟨hL,?_⟩;have hz:(s.heap.push {cls:=.type "tuple_iterator",data:=.fields #[.ref l,.int 0 0]}).objs.size=s.heap.objs.size+1:=QU ..;show _/\_;rw[hz];have he:IsEnum ((s.heap.push {cls:=.type "tuple_iterator",data:=.fields #[.ref l,.int 0 0]}).push
   {cls:=.type "enumerate",data:=.fields #[.none,.bool false,.ref s.heap.objs.size,rawInt 1,.none,.none]}) (s.heap.objs.size+1) s.heap.objs.size 1 .none:=by
  have:=XF (s.heap.push {cls:=.type "tuple_iterator",data:=.fields #[.ref l,.int 0 0]})
   (o:={cls:=.type "enumerate",data:=.fields #[.none,.bool false,.ref s.heap.objs.size,rawInt 1,.none,.none]}) VS
  rw[hz] at this;exact this
 refine⟨⟨_,he,VS⟩,h _ he ⟨_,XC _ (XF _ VS),VS,VS⟩ (by rw[QU,hz]) λb o x=>XC _ (XC _ x)⟩
def jr {P:Nat->WQ->Prop}{St:Nat->WU->Prop}(D:Draws prog w A it fp n P St):
  Draws prog w A it fp (n+1) (λi v=>∃j,i=j+1/\P j v) (λi h=>∃j,i=j+1/\St j h) where
 live:=λ_ _ ⟨_,_,st⟩=>D.live _ _ st
 frame:=λ_ _ _ ⟨j,e,st⟩ k=>⟨j,e,D.frame _ _ _ st k⟩
 item:=λi s Q E hi ⟨j,e,st⟩ hQ=>by
  subst e;exact D.item j s Q E (by omega) st λx h' tk hp st' hs=>hQ x h' tk ⟨j,VS,hp⟩ ⟨j+1,VS,st'⟩ hs
 done:=λs Q E ⟨j,e,st⟩ hE=>by
  have:j=n:=by omega
  subst this;exact D.done s Q E st hE
end
def It1 (K:WY)(l:WP):It:=
 ⟨λi H=>∃xs,Tg K H l xs/\i<xs.length,
  λi H x H'=>∃u T,(∀xs,Tg K H l xs->xs[i]?=some u)/\x=.ref T/\H T=none/\H'=J7 H T (.tup [.int ((i+1:Nat):Int),u]),
  λi H=>∃xs,Tg K H l xs/\i=xs.length⟩
def dS {k l:WP}(h1:l<k):k+1∉[k,l]:=λz=>by
 simp only[ZM,ZN,or_false] at z
 rcases z with z | z
 ·exact Nat.succ_ne_self k z
 ·exact Nat.lt_asymm h1 (z▸RM k)
def tY {P:WO}{w:WN}{K:WY}{elts:List WW}{ek:Nat}{epos:Pos}{k l:WP}(h1:l<k):
  jD P w K (.Tuple elts ek epos) (It1 K l) [k+1,k] (k+1) (λi h=>(∃old,IsEnum h (k+1) k ((i+1:Nat):Int) old)/\h.IsTupleIter k l i) where
 mem:=by simp
 obj:=λi h st c hc=>by
  obtain⟨⟨old,a1⟩,a4⟩:=st;simp only[ZM,ZN,or_false] at hc
  rcases hc with rfl | rfl
  ·exact⟨_,a1,λv z=>by have z':Data.fields _=Data.cell v:=z;cases z'⟩
  ·obtain⟨o,e,c,d⟩:=a4;exact⟨o,e,λv z=>by rw[d] at z;cases z⟩
 keep:=λi h h' st kp=>by
  obtain⟨⟨old,a1⟩,a4⟩:=st;exact⟨⟨old,kp _ (by simp) _ a1⟩,a4.at λo e=>kp _ (by simp) o e⟩
 item:=by
  intro X hP hw hK hc i WZ s σ H E I hf st hg;subst hP hw hK;obtain⟨xs,hq1,hi⟩:=hg;obtain⟨its1,rv1,p1,_⟩:=I.tuple hq1;obtain⟨a1,a4⟩:=st;have hn1:its1.toArray.size=xs.length:=by rw[XJ,rv1.length]
  have D1:=Vz (prog:=X.prog) (w:=X.w) (A:=X.A.in1) (I.ok.hd hc) k l (XH h1) its1.toArray;rw[hn1] at D1;have W:=WalksT.enumerateD (jr D1) (k+1) (Nat.succ_ne_self k) (dS h1) (by simp);refine W.item (i+1) s _ _ (by omega) ⟨a1,i,VS,a4,p1⟩ λT vals h' tk hv hT htup hm kk=>?_;obtain⟨t,x,⟨j,ej,hx⟩,rfl⟩:=hv;have ej':j=i:=by omega
  subst ej';refine⟨_,rfl,W.go elts ek epos (j+1) T {s with heap:=h',toks:=tk} _ _ hm λh2 st2 kk2=>?_⟩;have hu:xs[j]?=some xs[j]:=by simp[hi]
  obtain⟨u1,e1,r1⟩:=rv1.get hu;have ex:x=u1:=by
   have:its1[j]?=some x:=by simpa using hx
   rw[e1] at this;exact(YH this).symm
  subst ex;have hTn:H T=none:=I.hok.fresh hT;have hTw:T∉[k+1,k]:=W.apart (j+1) T h' hm;have k2:∀c o,c∉[k+1,k]->s.heap.get? c=some o->h2.get? c=some o:=λc o hb q=>kk2 c o hb (kk c o hb q);have htup2:IsTup h2 T #[.int ((j+1:Nat):Int) t,x]:=by
   obtain⟨o,ho,r⟩:=htup;exact⟨o,kk2 T o hTw ho,r⟩
  have hfp:∀c∈[k+1,k],H c=none:=λc hb=>(hf c hb).1;have hne:∀c,c<s.heap.objs.size->c≠T:=λc hb=>XH (XG hb hT);have tracked:∀c u,H c=some u->c≠T/\c∉[k+1,k]:=λc u q=>⟨hne c (I.hok.lt q),λz=>by rw[hfp c z] at q;cases q⟩;have I1:Z7 X WZ σ (J7 H T (.tup [.int ((j+1:Nat):Int),xs[j]])) {s with heap:=h2,gens:=s.gens,drawn:=s.drawn,toks:=tk}:=by
   refine I.step (ch:=[k+1,k]) (λc hb=>?_) (λc o _ _ hc q _=>k2 c o hc q) (λc o _ _ hc q _=>⟨o.slots,k2 c o hc q⟩) (λc o hc q n=>by rw[Yi (hne c (XD q))];exact n) (λc o hc q=>⟨o,k2 c o hc q⟩)
    (λc xs q=>by rw[Yi (tracked c _ q).1];exact q) (λc o u q=>by rw[Yi (tracked c _ q).1];exact q) (λc ps q=>⟨#[],by rw[Yi (tracked c _ q).1,q];simp⟩) (λm hm=>?_) (λc u q=>?_) I.bare
   ·obtain⟨f0,f1,f2,f3,f4,f5⟩:=hf c hb;exact⟨f3,f1,f4,f5⟩
   ·obtain⟨o,es,ep,ho,r⟩:=hm;exact⟨o,es,ep,k2 _ o (λz=>(hf _ z).2.1 VS) ho,r⟩
   ·by_cases hb:c=T
    ·subst hb;rw[Yy] at q;cases q;exact⟨XN (by decide:2<=1000) (SF (Dy (XE _))),[.int ((j+1:Nat):Int) t,x],.cons ⟨t,VS⟩ (.cons r1 .nil),htup2⟩
    ·rw[Yi hb] at q;refine(I.hok c u q).stay (λd v hd r=>k2 d v ?_ r) (λd r=>by rw[Yi (tracked d _ r).1];exact r) λd xs r=>by rw[Yi (tracked d _ r).1];exact r
     rcases hd with rfl | hd
     ·exact(tracked d _ q).2
     ·exact(tracked d _ hd).2
  obtain⟨b1,j2,ej2,b4,_⟩:=st2;have ej3:j2=j+1:=by omega
  subst ej3;refine⟨.ref T,_,I1,VS,⟨_,T,λzs hz=>by rw[I.tuple_inj hz hq1];exact hu,VS,hTn,VS⟩,⟨b1,b4⟩,λc hb=>?_⟩;have hbT:c≠T:=λz=>hTw (by rw[<-z];exact hb);rw[Yi hbT];exact hfp c hb
 done:=by
  intro X hP hw hK hc i WZ s σ H E I hf st hg;subst hP hw hK;obtain⟨xs,hq1,hi⟩:=hg;obtain⟨its1,rv1,p1,_⟩:=I.tuple hq1;obtain⟨a1,a4⟩:=st;have hn1:its1.toArray.size=xs.length:=by rw[XJ,rv1.length]
  have D1:=Vz (prog:=X.prog) (w:=X.w) (A:=X.A.in1) (I.ok.hd hc) k l (XH h1) its1.toArray;rw[hn1] at D1;subst hi;have W:=WalksT.enumerateD (jr D1) (k+1) (Nat.succ_ne_self k) (dS h1) (by simp);refine W.done s _ _ ⟨a1,_,VS,a4,p1⟩ λh' tk kk=>⟨VS,?_⟩;exact I.step (g':=s.gens) (d':=s.drawn) (ch:=[k+1,k]) (λb hb=>let ⟨f0,f1,f2,f3,f4,f5⟩:=hf b hb;⟨f3,f1,f4,f5⟩) (λb o _ _ hc q _=>kk b o hc q) (λb o _ _ hc q _=>⟨o.slots,kk b o hc q⟩) (λb o _ _ n=>n) (λb o hc q=>⟨o,kk b o hc q⟩)
    (λ_ _ q=>q) (λ_ _ _ q=>q) (λb ps q=>⟨#[],by rw[q];simp⟩) (λm hm=>let ⟨o,es,ep,ho,r⟩:=hm;⟨o,es,ep,kk _ o (λz=>(hf _ z).2.1 VS) ho,r⟩)
    (λb u q=>(I.hok b u q).stay (λd v hd r=>kk d v (λz=>by
     rcases hd with rfl | hd
     ·rw[(hf _ z).1] at q;cases q
     ·rw[(hf _ z).1] at hd;cases hd) r) (λ_ r=>r) λ_ _ r=>r) I.bare
 self:=λA i s Q E st h=>by
  obtain⟨⟨old,he⟩,_⟩:=st;exact wpAny_pyIter_enum he h
def Fz {M:Model}{A:WM}{E:WQ->WR->Prop}{s:WR}{pos:Pos}{T:String}{args:List (Bool×Sem WQ)}{keywords:List (Option Str×Sem WQ)}{Q:WQ->WR->Prop}
  (hplain:args.any (·.1)=false) (hkw:keywords.any (·.1.isNone)=false)
  (h:wpAny M A (evalArgs (.type T) true args keywords) (λa s₁=>wpAny M A (call (.type T) a.pos a.kw) Q E s₁) E s):
  wpAny M A (callWith pos (.type T) [] args keywords) Q E s:=by
 unfold callWith;refine XA (wpAny_holding (wpAny_mono h (λa s₁ h₁=>XA (wpAny_standAt ?_)) λ_ _ x=>x));simp only[hplain,hkw,Bool.or_false];refine XA (XB ?_);exact XA (wpAny_mono h₁ (λr s₂ hr=>XA (wpAny_holding (wpAny_point (XB hr)))) λ_ _ x=>x)
section
variable {X:Cx}{elts:List WW}{ek:Nat}{epos:Pos}
def iEn1 (K:WY)(ta:TA):TI:=λσ H R=>ta σ H λvs H1=>∃(l:WP) (xs:List V),vs=[.ref l]/\Tg K H1 l xs/\R (It1 K l) H1
def i7 {a:WW}{p pos kp kc:Pos}{j:Nat}(hg:Gl X "enumerate")(hm:X.mg "enumerate"=none)(ha:PA X [a] ta)
  (hs:starEach [a] X.env=[(false,eval a X.env)]:=by rfl) (hb:bootBuiltins "enumerate"=some (.type "enumerate"):=by decide+kernel)
  (he:eval (.Call (.Name "enumerate" p) [a] [⟨some "start",.Constant (.int 1) j kc,kp⟩] pos) X.env=(do callWith pos (<-eval (.Name "enumerate" p) X.env) [] (backTo pos (starEach [a] X.env)) (backToKw pos (keywordEach [⟨some "start",.Constant (.int 1) j kc,kp⟩] X.env))):=by rfl):
  PI X (.Tuple elts ek epos) (.Call (.Name "enumerate" p) [a] [⟨some "start",.Constant (.int 1) j kc,kp⟩] pos) (iEn1 X.K ta):=by
 intro WZ s σ H R I h;rw[he];refine XA (Rh I hg hm hb ?_);refine Fz (by rw[hs];rfl) VS ?_;have hargs:backTo pos (starEach [a] X.env)=(false,eval a X.env)::backTo pos []\/True:=.inr trivial;have key:wpAny (model X.prog X.w) X.A (spliced (backTo pos (starEach [a] X.env))) (λvs s₁=>wpAny (model X.prog X.w) X.A (evalAll ((backToKw pos (keywordEach [⟨some "start",.Constant (.int 1) j kc,kp⟩] X.env)).map (·.2)))
   (λkvs s₂=>wpAny (model X.prog X.w) X.A (call (.type "enumerate") vs ((backToKw pos (keywordEach [⟨some "start",.Constant (.int 1) j kc,kp⟩] X.env)).filterMap (·.1)|>.zip kvs)) (λv s1=>wpAny (model X.prog X.w) X.A (pyIter v) (cS X WZ σ (.Tuple elts ek epos) R) X.xe s1) X.xe s₂) X.xe s₁) X.xe s:=by
  refine J5 (ha pos WZ s σ H _ I h) λus s1 ⟨vs,H1,I1,r1,q1⟩=>?_;refine kws_cons ?_;refine J5 (rM (X:=X) WZ s1 σ H1 (λv H2=>v=.int 1/\H2=H1) I1 ⟨VS,VS⟩) λu s2 ⟨v,H2,I2,r2,ev,eH⟩=>?_;subst ev eH;obtain⟨t,rfl⟩:=r2;refine kws_nil ?_;obtain⟨l,xs,rfl,hq,q⟩:=q1;obtain⟨w,rfl,rw'⟩:=r1.one
  cases rw'
  obtain⟨its,rv,pt,_⟩:=I2.tuple hq;have lt:l<s2.heap.objs.size:=by obtain⟨_,e,_⟩:=pt;exact XD e
  show wpAny _ _ (call (.type "enumerate") [.ref l] [("start",.int 1 t)]) _ _ s2;refine wu pt λh' he hit hsz kk=>?_;have I3:Z7 X WZ σ H2 {s2 with heap:=h',toks:=s2.toks}:=I2.kept kk;refine wpAny_pyIter_enum (s:={s2 with heap:=h'}) he ?_;have fin:∀b∈[s2.heap.objs.size+1,s2.heap.objs.size],Mp X WZ H2 b:=λb hb=>by
   have e:s2.heap.objs.size<=b:=by
    rcases QD.mp hb with e | hb
    ·omega
    ·have e:b=s2.heap.objs.size:=by simpa using hb
     omega
   exact I2.fpOk e (I2.hok.fresh e)
  exact⟨_,_,_,_,H2,VS,I3,tY lt,⟨⟨_,he⟩,hit⟩,fin,q⟩
 rw[hs] at key |-;exact evalArgs_kwB VS key
end
end L2
namespace WL
open PySem PySem.Spec PyProof.Rows L2
def u5 (xs:List T):List T:=xs.zipIdx.map λc=>T.tup [.int ((c.2+1:Nat):Int),c.1]
def Lq:(u5 xs).length=xs.length:=by unfold u5;simp
def vi {xs:List T}{i:Nat}(h:xs[i]?=some x):(u5 xs)[i]?=some (.tup [.int ((i+1:Nat):Int),x]):=by
 unfold u5;simp[h]
def iEn1 (a:WA):WI:=λτ C R χ=>a τ C (λvs C1=>∃xs,vs=[.tup xs]/\R (u5 xs) (λ_=>True) C1) χ
section
variable {X:Cx}{a:WW}{wA:WA}{p pos kp kc:Pos}{j:Nat}
def gu {K:WY}{F H0:Hp}(q1:Tg K H0 l1 ys1)(r1:Reps K H0 ys1 xs):Ij K F H0 (L2.It1 K l1) (u5 xs) (λ_=>True):=λi H C R t hok=>by
 have q1:=t.sqt q1;have r1':=r1.tx t;have e1:=r1'.length;refine⟨λhi=>?_,λhi=>⟨ys1,q1,by rw[Lq] at hi;omega⟩⟩;rw[Lq] at hi;refine⟨⟨ys1,q1,by omega⟩,λx H' h=>?_⟩;obtain⟨u,Tt,hu,rfl,hT,rfl⟩:=h;obtain⟨x,hx,rx⟩:=r1'.get' (hu ys1 q1);exact⟨_,vi hx,R.hid hT,Tx.new hT,Vk (Tg.of Yy) (Yn Xe (Yn (rx.tx (Tx.new hT)) Jv))⟩
def gJ {elts:List WW}{ek:Nat}{epos:Pos}(hg:Gl X "enumerate")(hm:X.mg "enumerate"=none)(ha:Dn X [a] wA)(hs:starEach [a] X.env=[(false,eval a X.env)]:=by rfl)
  (he:eval (.Call (.Name "enumerate" p) [a] [⟨some "start",.Constant (.int 1) j kc,kp⟩] pos) X.env=(do callWith pos (<-eval (.Name "enumerate" p) X.env) [] (backTo pos (starEach [a] X.env)) (backToKw pos (keywordEach [⟨some "start",.Constant (.int 1) j kc,kp⟩] X.env))):=by rfl):
  fC X (.Tuple elts ek epos) (.Call (.Name "enumerate" p) [a] [⟨some "start",.Constant (.int 1) j kc,kp⟩] pos) (iEn1 wA):=by
 obtain⟨t,p1,s⟩:=ha;refine⟨_,i7 hg hm p1 hs (by decide+kernel) he,λF H C σ τ R R' χ Rr S h q=>?_⟩;refine s F H C σ τ _ _ χ Rr S h λxs vs H1 C1 R1 t1 rs h1=>?_;obtain⟨ts,rfl,h1⟩:=h1;obtain⟨x,rfl,rx⟩:=Vd rs;obtain⟨l1,y1,rfl,q1,r1⟩:=Yw rx;exact⟨l1,y1,VS,q1,q _ H1 _ _ C1 R1 t1 (λF'=>gu q1 r1) h1⟩
end
def mX {X:Cx}{k i:Nat}{p pos:Pos}(Cc:Ca X.prog X.w X.K X.mg X.base k x ps (spW X.K pr k i))(hr:Wj k X.A)(hg:Gl X x)
  (hdb:(x==("__debug__":Str))=false:=by decide):X0 X (.Call (.Name x p) [] [] pos) (Z6 (Z9 pr k) i Zg):=by
 obtain⟨f,fd,F,B,kp,m⟩:=Cc.ex;refine⟨_,rR F hr hg m kp B .nil Gn hdb,λF H C σ τ Q Q' χ R S h q=>?_⟩;exact⟨F,C,[],Q',χ,R,Jv,h,q⟩
section
variable {X:Cx}
end
end WL
namespace L2
open PySem PySem.Spec PyProof.Rows
section
variable {X:Cx}
def Dt:∀(k:Nat) (zs:List Str),Yd (zs.map V.str) (strsFrom k zs)
 | _,[]=>.nil
 | k,z::zs=>.cons ⟨_,VS⟩ (Dt (k+1) zs)
def ii:V->List V->Hp->VK->Prop:=λx vs H Q=>∃z y,x=.str z/\vs=[.str y]/\(y.length==0)=false/\z.length<=sizeLine/\(Txt.split z y).length<=sizeLine/\∀p,H p=none->Q (.ref p) (J7 H p (.lst ((Txt.split z y).map V.str)))
def Fa {zs:List Str}{k:Nat}{Q:VK}(I:Z7 X WZ σ H s)(hv:Yd (zs.map V.str) us)(hl:zs.length<=sizeLine)(q:∀p,H p=none->Q (.ref p) (J7 H p (.lst (zs.map V.str)))):
  EP X WZ σ Q (.ref s.heap.objs.size) {s with heap:=s.heap.push {cls:=.type "list",data:=.seq us.toArray},toks:=k}:=by
 have hok:X1 X.prog X.w (J7 H s.heap.objs.size (.lst (zs.map V.str))) (s.heap.push {cls:=.type "list",data:=.seq us.toArray}) s.heap.objs.size (.lst (zs.map V.str)):=
  ⟨by rw[XI];exact hl,us,_,hv,XF _ VS⟩
 exact⟨.ref s.heap.objs.size,_,I.laid (t':=k) (λb u q=>XC _ q) (XE _) hok,VS,q _ (I.hok.fresh (XE _))⟩
def qm:fj X "str.split" ii:=by
 intro WZ s σ H x vs v us Q I rx rv h;obtain⟨z,y,rfl,rfl,hy,hz,hl,q⟩:=h;obtain⟨t,rfl⟩:=rx;obtain⟨u,rfl,ru⟩:=Ru rv;obtain⟨t2,rfl⟩:=ru;have slot:=PySem.F.slot_str_split;have go:∀{S:PySem.Spec},Meets (Builtin.«str.split» {pos:=[Value.str z t,Value.str y t2]}) S->S X.A (wants (EP X WZ σ Q) X.xe) s->wpAny (model X.prog X.w) X.A (call (Value.builtin "str.split") [Value.str z t,Value.str y t2]) (EP X WZ σ Q) X.xe s:=
  λm hS=>call_meets slot (typeIs_str _ _ _) PySem.F.entry_str_split (PySem.F.args_str_split_2 _ _) m hS
 have one:∀{us:List WQ},us=[Value.str z t]->Yd ([z].map V.str) us:=λe=>by subst e;exact .cons ⟨_,VS⟩ .nil
 by_cases c1:(decide (z.length<y.length)||decide (Builtin.Str.strKind z<Builtin.Str.strKind y))=true
 ·have e:Txt.split z y=[z]:=by unfold Txt.split;rw[XY c1]
  rw[e] at q;exact go (meets_str_split_cannot_occur z y t t2 c1) (Fa (us:=[Value.str z t]) I (one VS) (show 1<=sizeLine by decide) q)
 ·by_cases c2:(Builtin.Str.occurrences z y 0 z.length (z.length+1)).isEmpty=true
  ·have e:Txt.split z y=[z]:=by unfold Txt.split;rw[XX c1,XY c2]
   rw[e] at q;exact go (meets_str_split_not_found z y t t2 (SR.mpr c1) hy c2) (Fa (us:=[Value.str z t]) I (one VS) (show 1<=sizeLine by decide) q)
  ·have e:Txt.split z y=Builtin.Str.partsBetween z (Builtin.Str.occurrences z y 0 z.length (z.length+1)) y.length:=by unfold Txt.split;rw[XX c1,XX c2]
   rw[e] at q hl;exact go (meets_str_split_sep z y t t2 (SR.mpr c1) hy (SR.mpr c2) hz hl) (Fa I (Dt _ _) hl q)
end
end L2
namespace WL
open PySem PySem.Spec PyProof.Rows L2
section
variable {X:Cx}
def qy:T->List T->Hw->WK->Prop:=λx vs C Q=>∃z y,x=.str z/\vs=[.str y]/\(y.length==0)=false/\z.length<=sizeLine/\(Txt.split z y).length<=sizeLine/\∀p,C p=none->Q (.ref p) (up C p (.lst ((Txt.split z y).map T.str)))
def mr:om X "str.split" qy:=⟨_,qm,λF H C x v xs vs Q Q' R rx rs h q=>by
 obtain⟨z,y,rfl,rfl,h1,h2,h3,h⟩:=h
 cases Jy rx
 obtain⟨u,rfl,ry⟩:=Vd rs
 cases Jy ry
 exact⟨z,y,VS,VS,h1,h2,h3,λp hp=>q _ _ _ _ (R.newL hp (D4 _)) (Tx.new hp) Xd (h p (R.free hp))⟩⟩
end
end WL
namespace L2
open PySem PySem.Spec PyProof.Rows
section
variable {prog:WO}{w:WN}{A:WM}{E:WQ->WR->Prop}{s:WR}
end
section
variable {X:Cx}
end
end L2
namespace WL
open PySem PySem.Spec PyProof.Rows L2
section
variable {X:Cx}{e:WW}{we:WE}{pos p p2 pos2:Pos}
def bh (we:WE):WE:=λτ C Q χ=>we τ C (λv C1=>∃ts:List Str,((v=.tup (ts.map T.str))\/∃a,v=.ref a/\C1 a=some (.lst (ts.map T.str)))/\ts.length+1<scanBound/\∀ys:List Str,ys.Nodup->(∀y,y∈ys↔y∈ts)->Q (.int (ys.length:Int)) C1) χ
end
end WL
namespace L2
open PySem PySem.Spec PyProof.Rows
section
variable {X:Cx}{st:WV}{Jk:List WV}{t u:TS}{pos:Pos}
def fU {α:Type}{t:Sem α}{Q:α->WR->Prop}{E:WQ->WR->Prop}{s:WR}(h1:1<=s.toks)(h:wpAny M A t (λa s'=>1<=s'.toks->Q a s') E s):wpAny M A t Q E s:=
 J5 (jU h1 h) λ_ _ z=>z.2 z.1
def tK (X:Cx)(e:WW)(t:TE):Prop:=
 ∀(WZ:List (WP×Obj)) (s:WR) (σ:St) (H:Hp) (Q:VK),1<=s.toks->Z7 X WZ σ H s->t σ H Q->wpAny (model X.prog X.w) X.A (eval e X.env) (EP X WZ σ Q) X.xe s
def aQ (X:Cx)(es:List WW)(t:TA):Prop:=
 ∀(pos:Pos) (WZ:List (WP×Obj)) (s:WR) (σ:St) (H:Hp) (Q:List V->Hp->Prop),1<=s.toks->Z7 X WZ σ H s->t σ H Q->wpAny (model X.prog X.w) X.A (spliced (backTo pos (starEach es X.env))) (AP X WZ σ Q) X.xe s
def fE (X:Cx)(st:WV)(t:TS):Prop:=
 ∀(WZ:List (WP×Obj)) (s:WR) (σ:St) (H:Hp) (D:K2),1<=s.toks->Z7 X WZ σ H s->t D σ H->wpAny (model X.prog X.w) X.A (exec st X.env) (SP X WZ D) X.xe s
def Do (X:Cx)(st:List WV)(t:TS):Prop:=
 ∀(WZ:List (WP×Obj)) (s:WR) (σ:St) (H:Hp) (D:K2),1<=s.toks->Z7 X WZ σ H s->t D σ H->wpAny (model X.prog X.w) X.A (execs st X.env) (SP X WZ D) X.xe s
def aP (X:Cx)(st:WV)(t:TS):Prop:=
 ∀(WZ:List (WP×Obj)) (s:WR) (σ:St) (H:Hp) (D:K2),Z7 X WZ σ H s->t D σ H->wpAny (model X.prog X.w) X.A (exec st X.env) (λf s'=>1<=s'.toks/\SP X WZ D f s') X.xe s
def PE.one {t:TE}(h:PE X e t):tK X e t:=λWZ s σ H Q _ I q=>h WZ s σ H Q I q
def PA.one {t:TA}(h:PA X es t):aQ X es t:=λpos WZ s σ H Q _ I q=>h pos WZ s σ H Q I q
def PS.one (h:PS X st t):fE X st t:=λWZ s σ H D _ I q=>h WZ s σ H D I q
def ul (h1:fE X st t)(h2:Do X Jk u):Do X (st::Jk) (kM t u):=by
 intro WZ s σ H D k I h;refine wpAny_execs_cons (J5 (jU k (h1 WZ s σ H {D with nx:=u D} k I h)) λf s1 q=>?_);obtain⟨k1,q⟩:=q
 cases f with
 | next=>
  obtain⟨σ',H',I',q⟩:=q;exact h2 WZ s1 σ' H' D k1 I' q
 | ret v=>exact q
 | brk=>exact q
 | cont=>exact q
def uk (h1:aP X st t)(h2:Do X Jk u):wC X (st::Jk) (kM t u):=by
 intro WZ s σ H D I h;refine wpAny_execs_cons (J5 (h1 WZ s σ H {D with nx:=u D} I h) λf s1 q=>?_);obtain⟨k1,q⟩:=q
 cases f with
 | next=>
  obtain⟨σ',H',I',q⟩:=q;exact h2 WZ s1 σ' H' D k1 I' q
 | ret v=>exact q
 | brk=>exact q
 | cont=>exact q
def rA (h1:fE X st t):Do X [st] t:=by
 intro WZ s σ H D k I h;refine wpAny_execs_cons (J5 (h1 WZ s σ H D k I h) λf s1 q=>?_)
 cases f with
 | next=>exact wpAny_execs_nil q
 | ret v=>exact q
 | brk=>exact q
 | cont=>exact q
def nD (he:tK X e te):fE X (.Return (some e) pos) (fY te):=by
 intro WZ s σ H D k I h;exact wpAny_Return_some (J5 (he WZ s σ H _ k I h) λv s1 ⟨x,H1,I1,r1,q1⟩=>⟨x,σ,H1,I1,r1,q1⟩)
def nC {i:Nat}(hN:X.N.Nodup)(hi:X.N[i]?=some x)(hx:oo X.env.scope x)(he:tK X e te)(hs:swapsWith e (some (.Name x pos')) pos.line X.env=pure false:=by rfl)(hf:X.fn x=true\/X.env.scope.names.lookup x=some .local:=by first | exact .inl VS | exact .inr VS | assumption):
  fE X (.Assign [.Name x pos'] e pos) (oK te (Vm i)):=by
 intro WZ s σ H D k I h;refine wpAny_Assign_Name (J5 (he WZ s σ H _ k I h) λv s1 ⟨y,H1,I1,r1,q1⟩=>?_) hs;exact Mx I1 hN hi hx r1 (λs2 I2=>⟨_,H1,I2,q1⟩) hf
def yz {apos cpos:Pos}{z y:Str}{k1 k2:Nat}{lp1 lp2:Pos}(ho:tK X o to)(hyz:(y==z)=false)(hz:z.length<=14)
  (hbase:attributeBase o "replace" X.env (eval o X.env)=eval o X.env:=by rfl)
  (hfew:((backTo cpos (starEach [.Constant (.str y) k1 lp1,.Constant (.str z) k2 lp2] X.env)).all (λx=>!x.1)&&(backToKw cpos (keywordEach [] X.env)).all (λx=>x.1.isSome)
   &&decide ([Expr.Constant (.str y) k1 lp1,.Constant (.str z) k2 lp2].length+([]:List Keyword).length+(if ([]:List Keyword).isEmpty then 0 else 1)<30))=true:=by rfl)
  (hline:(apos.endLine==cpos.line)=true:=by rfl)
  (hs:starEach [.Constant (.str y) k1 lp1,.Constant (.str z) k2 lp2] X.env=[(false,eval (.Constant (.str y) k1 lp1) X.env),(false,eval (.Constant (.str z) k2 lp2) X.env)]:=by rfl):
  tK X (.Call (.Attribute o "replace" apos) [.Constant (.str y) k1 lp1,.Constant (.str z) k2 lp2] [] cpos) (λσ H Q=>to σ H λx H1=>∃u,x=.str u/\u.length<=1048576/\Q (.str (Txt.replace u y z)) H1):=by
 intro WZ s σ H Q k I h;refine wpAny_Call_method_late hbase hfew hline VS (J5 (jU k (ho WZ s σ H _ k I h)) λv s1 ⟨h1,x,H1,I1,r1,q1⟩=>?_);obtain⟨u,rfl,hu,q⟩:=q1;obtain⟨t0,rfl⟩:=r1;refine⟨"str","str.replace",SV,PySem.F.slot_str_replace,PySem.F.type_str_replace,typeIs_str _ _ _,(λ_ q=>nomatch q),?_⟩;rw[hs];refine QW (by rfl) (RK ?_);show wpAny _ _ (spliced ((false,eval (.Constant (.str y) k1 lp1) X.env)::[(false,_)])) _ _ s1;refine QH (TU ?_);refine QH (TU (k:=k2) (pos:=lp2) ?_);refine RH ?_;refine SC.replaceW (by show s1.toks≠0;omega) (by show s1.toks+1≠0;omega) (by show s1.toks≠s1.toks+1;omega) hyz hu hz λt' k'=>?_;exact⟨.str _,H1,I1.tok k',⟨_,VS⟩,q⟩
end
structure L8 (P:Program)(w:World)(K:W.Frag)(mg:Str->Option Value)(base:Heap)(k:Nat)(f:Addr)(fd:FuncData)(ps:List Str)(sp:Sp):Prop where
 len:∀vs H Q E,sp vs H Q E->vs.length=ps.length
 run:∀(A:WM) (outer:List Env) (s:WR) (H:Hp) (args:Args) (us:List WQ) (vs:List V) (Q:VK) (E:XK),1<=s.toks->Wj k A->jF P w K mg base A outer s H->BindsTo s fd args (ps.zip us)->Yd vs us->sp vs H Q E->
  codeAny (model P w) A (.call (.ref f) args) (CR CX0 outer P w H s Q E) s
def Yx.one {K:WY}{k:Nat}{f:WP}(F:Yx P w K mg base CX0 k f fd ps sp):L8 P w K mg base k f fd ps sp:=
 ⟨F.len,λA outer s H args us vs Q E _=>F.run A outer s H args us vs Q E⟩
section
variable {X:Cx}{k:Nat}{f:WP}{fd:VZ}{ps:List Str}{sp:Sp}{x:Str}{p pos:Pos}{e:WW}{es:List WW}{t:TA}
def wV {WZ:List (WP×Obj)}{σ:St}{H:Hp}{s:WR}{Q:VK}{us:List WQ}{vs:List V}(F:L8 X.prog X.w X.K X.mg X.base k f fd ps sp)(hr:Wj k X.A)(hb:Ya X.K fd ps [])(h1:1<=s.toks)
  (I:Z7 X WZ σ H s) (r:Yd vs us) (h:sp (vs++[]) H Q E0):wpAny (model X.prog X.w) X.A (call (.ref f) us) (EP X WZ σ Q) X.xe s:=by
 have r2:Yd (vs++[]) (us++[]):=r.append .nil;have hl:(us++[]).length=ps.length:=by rw[<-r2.length];exact F.len _ _ _ _ h
 refine wpAny_call (codeAny_mono (F.run X.A X.stack s H ⟨us,[]⟩ (us++[]) (vs++[]) Q E0 h1 hr I.env0 (hb s us I.kIn hl) r2 h) λr s' hq=>?_)
 cases r with
 | error e=>exact(Gn:Ml CX0 X E0) WZ σ H s e s' I hq
 | ok fl=>
  cases fl with
  | ret u=>exact I.after hq
  | next=>exact False.elim hq
  | brk=>exact False.elim hq
  | cont=>exact False.elim hq
structure fI (P:Program)(w:World)(K:W.Frag)(mg:Str->Option Value)(base:Heap)(k:Nat)(x:Str)(ps:List Str)(sp:Sp):Prop where
 ex:∃(f:WP) (fd:VZ),L8 P w K mg base k f fd ps sp/\Ya K fd ps []/\W.keepIn K (.ref f)=true/\mg x=some (.ref f)
def Ca.one {K:WY}(C:Ca P w K mg base k x ps sp):fI P w K mg base k x ps sp:=by
 obtain⟨f,fd,F,r⟩:=C.ex;exact⟨f,fd,F.one,r⟩
def iH (C:fI X.prog X.w X.K X.mg X.base k x ps sp)(hr:Wj k X.A)(hg:Gl X x)(ha:aQ X (e::es) t)
  (hdb:(x==("__debug__":Str))=false:=by decide) (he:starEach (e::es) X.env=(false,eval e X.env)::starEach es X.env:=by rfl) (hpl:(backTo pos (starEach es X.env)).any (·.1)=false:=by rfl):
  tK X (.Call (.Name x p) (e::es) [] pos) (yb sp [] E0 t):=by
 obtain⟨f,fd,F,B,kp,m⟩:=C.ex;intro WZ s σ H Q h1 I h;refine wpAny_Call_Name_kw (Qw I hg m ?_ hdb);refine SH (h₀:=X.base) I.ok.mod.kin kp (J5 (jU h1 (ha pos WZ s σ H _ h1 I h)) λus s1 ⟨k1,vs,H1,I1,r,q⟩=>⟨I1.kIn,?_⟩) he hpl;exact wV F hr B k1 I1 r q
end
def gA {P:WO}{w:WN}{K:WY}{mg:Str->Option WQ}{base:WU}{k:Nat}{f:WP}{name qual:Str}{params:Arguments}{body:List WV}{scope:Scope}{dV kV doc pm cdv ct oc:WQ}{an od:Option WP}
  {osl:Array (Option WQ)} {N ps:List Str} {sp:Sp} (lk:K.lookup f=some ⟨oc,od,.func (W.fnOf name qual params body scope dV kV doc pm an cdv ct),osl⟩) (hcd:W.codeIn K cdv qual=true) (S:Zy N ps scope)
  (len:∀vs H Q E,sp vs H Q E->vs.length=ps.length)
  (hbody:∀(A:WM) (outer:List Env) (s:WR) (H:Hp) (vs:List V) (Q:VK) (E:XK),Wj k (A.deeper (envOfC qual scope s.heap.objs.size f cdv))->sp vs H Q E->
   ∃t,Do (Kz CX0 P w K mg base N qual scope f cdv A outer s H E) body t/\t {nx:=λ_ H'=>Q .non H',rt:=Q} (start N vs) H):
  L8 P w K mg base (k+1) f (W.fnOf name qual params body scope dV kV doc pm an cdv ct) ps sp:=by
 refine⟨len,λA outer s H args us vs Q E h1 hr e0 hb r hsp=>?_⟩;have hl:=len _ _ _ _ hsp;have KX:K.In s.heap:=e0.mod.kin.keeps λb o e=>(e0.bs b o e).1;have lim:s.heap.NoLimit:=e0.mod.nolimit.keeps λb o e=>(e0.bs b o e).1;have hkind:∀y∈ps.zip us,scope.names.lookup y.1=some .local\/(scope.names.lookup y.1=some .cell/\((cellsFrom (s.heap.objs.size+1) scope.names []).lookup y.1).isSome=true):=λ⟨n,v⟩ hy=>by
  rcases S.par n (RQ hy).1 with q | q
  ·exact .inl q
  ·exact .inr ⟨q,UA _ _ _ (.inl q)⟩
 refine codeAny_call_function hr.depth (KX _ _ lk) VS S.co S.gen VS (W.codeRec_of KX hcd) (hb _ _ _ _ ?_);refine fU h1 (wpAny_newFunctionEnv_cells S.kind hkind λenv he s1 x k1=>?_);subst he;refine⟨lim.keeps x.toInCall.keep,codeAny_func ?_⟩;obtain⟨t,ht,hq⟩:=hbody A outer s H vs Q E (hr.deeper _) hsp;have I:Z7 (Kz CX0 P w K mg base N qual scope f cdv A outer s H E) [] (start N vs) H s1:=Co S hr.hd e0 hl r x;refine wpAny_mono (ht [] s1 (start N vs) H _ k1 I hq) (λfl s' hs=>?_) λe s' hs=>hs;have fin:∀{σ':St} {H':Hp} {v:V} {u:WQ},Z7 (Kz CX0 P w K mg base N qual scope f cdv A outer s H E) [] σ' H' s'->Yh v u->Q v H'->CE outer P w H s Q u s':=
  λ{σ' H' v u} J rv q=>⟨v,H',J.os,J.bare,J.base,J.hok,rv,q⟩
 cases fl with
 | ret u=>
  obtain⟨v,σ',H',J,rv,q⟩:=hs;exact fin J rv q
 | next=>
  obtain⟨σ',H',J,q⟩:=hs;exact fin (v:=V.non) (u:=Value.none) J VS q
 | brk=>
  obtain⟨_,_,_,q⟩:=hs;exact False.elim q
 | cont=>
  obtain⟨_,_,_,q⟩:=hs;exact False.elim q
def Do.nox {X:Cx}{st:List WV}(h:Do X.nox st t):Do X st t:=λWZ s σ H D k I hw=>
 wpAny_mono (h WZ s σ H D k (I.wish _) hw) (λf s' q=>q.unwish) λ_ _ z=>z.elim
section
variable {P:WO}{w:WN}{K:WY}{mg:Str->Option WQ}{base:WU}
def V1.ok1 {st:WV}{f:WP}{k:Nat}{sp:Sp}(F:V1 K x qual st f fd)(S:Zy N ps (Zk st))(len:∀vs H Q E,sp vs H Q E->vs.length=ps.length)
  (hbody:∀(cdv:WQ) (A:WM) (outer:List Env) (s:WR) (H:Hp) (vs:List V) (Q:VK) (E:XK),Wj k (A.deeper (envOfC qual (Zk st) s.heap.objs.size f cdv))->sp vs H Q E->
   ∃t,Do (Kz CX0 P w K mg base N qual (Zk st) f cdv A outer s H E).nox (Zm st) t/\t {nx:=λ_ H'=>Q .non H',rt:=Q} (start N vs) H):L8 P w K mg base (k+1) f fd ps sp:=by
 obtain⟨oc,od,kV,doc,pm,an,cdv,ct,osl,rfl,lk,hcd⟩:=F.ex;refine gA lk hcd S len λA outer s H vs Q E hr hsp=>?_;obtain⟨t,h,q⟩:=hbody cdv A outer s H vs Q E hr hsp;exact⟨t,h.nox,q⟩
end
end L2
namespace WL
open PySem PySem.Spec PyProof.Rows L2
def Ec (X:Cx)(e:WW)(w:WE):Prop:=∃t,tK X e t/\Ty X.K t w
def cQ (X:Cx)(es:List WW)(w:WA):Prop:=∃t,aQ X es t/\zI X.K t w
def pU (X:Cx)(st:WV)(w:WS):Prop:=∃t,fE X st t/\zH X.K t w
def cP (X:Cx)(st:WV)(w:WS):Prop:=∃t,aP X st t/\zH X.K t w
def tj (X:Cx)(st:List WV)(w:WS):Prop:=∃t,Do X st t/\zH X.K t w
section
variable {X:Cx}{e a b o:WW}{es:List WW}{st:WV}{Jk:List WV}{we wa wb wo:WE}{wA:WA}{w u:WS}{pos p cpos apos:Pos}
def X0.one (h:X0 X e we):Ec X e we:=by obtain⟨t,p,s⟩:=h;exact⟨t,p.one,s⟩
def Dn.one (h:Dn X es wA):cQ X es wA:=by obtain⟨t,p,s⟩:=h;exact⟨t,p.one,s⟩
def Mj.one (h:Mj X st w):pU X st w:=by obtain⟨t,p,s⟩:=h;exact⟨t,p.one,s⟩
def Fu {y z:Str}{k1 k2:Nat}{lp1 lp2:Pos}(ho:Ec X o wo)(hyz:(y==z)=false)(hz:z.length<=14)
  (hbase:attributeBase o "replace" X.env (eval o X.env)=eval o X.env:=by rfl)
  (hfew:((backTo cpos (starEach [.Constant (.str y) k1 lp1,.Constant (.str z) k2 lp2] X.env)).all (λx=>!x.1)&&(backToKw cpos (keywordEach [] X.env)).all (λx=>x.1.isSome)
   &&decide ([Expr.Constant (.str y) k1 lp1,.Constant (.str z) k2 lp2].length+([]:List Keyword).length+(if ([]:List Keyword).isEmpty then 0 else 1)<30))=true:=by rfl)
  (hline:(apos.endLine==cpos.line)=true:=by rfl)
  (hs:starEach [.Constant (.str y) k1 lp1,.Constant (.str z) k2 lp2] X.env=[(false,eval (.Constant (.str y) k1 lp1) X.env),(false,eval (.Constant (.str z) k2 lp2) X.env)]:=by rfl):
  Ec X (.Call (.Attribute o "replace" apos) [.Constant (.str y) k1 lp1,.Constant (.str z) k2 lp2] [] cpos) (pi y z wo):=by
 obtain⟨t,p1,sm⟩:=ho;refine⟨_,yz p1 hyz hz hbase hfew hline hs,λF H C σ τ Q Q' χ R S h q=>?_⟩;refine sm F H C σ τ _ _ χ R S h λx v H1 C1 R1 t1 rx h1=>?_;obtain⟨u,rfl,hu,h1⟩:=h1
 cases Jy rx
 exact⟨u,VS,hu,q _ _ H1 C1 R1 t1 Xc h1⟩
def mN (a:Ec X e we):pU X (.Return (some e) pos) (Yj we):=by
 obtain⟨t,p,s⟩:=a;refine⟨_,nD p,λF H C σ τ D D' R S h d=>?_⟩;exact s F H C σ τ _ _ D'.xc R S h d.rt
def mM {i:Nat}(hN:X.N.Nodup)(he:Ec X e we)(hi:X.N[i]?=some x:=by rfl)(hx:oo X.env.scope x:=by first | exact Or.inl VS | exact Or.inr VS)(hs:swapsWith e (some (.Name x pos')) pos.line X.env=pure false:=by rfl)
  (hf:X.fn x=true\/X.env.scope.names.lookup x=some .local:=by first | exact .inl VS | exact .inr VS | assumption):pU X (.Assign [.Name x pos'] e pos) (Zw we (Yq i)):=by
 obtain⟨t,p,s⟩:=he;refine⟨_,nC hN hi hx p hs hf,λF H C σ τ D D' R S h d=>?_⟩;refine s F H C σ τ _ _ D'.xc R S h λx v H1 C1 R1 t1 rx h1=>?_;exact Xb F H1 C1 σ τ x v _ _ D'.xc R1 (S.tx t1) rx h1 λσ' τ' H' C' R' t'=>d.nx σ' τ' H' C' R' (t1.trans t')
def vH (a:pU X st w):tj X [st] w:=by
 obtain⟨t,p,s⟩:=a;exact⟨_,rA p,s⟩
def J9 (a:pU X st w)(b:tj X Jk u):tj X (st::Jk) (Zq w u):=by
 obtain⟨t,p,s⟩:=a;obtain⟨t',p',s'⟩:=b;refine⟨_,ul p p',λF H C σ τ D D' R S h d=>?_⟩;exact s F H C σ τ _ _ R S h ⟨λσ' τ' H' C' R' t' S' h'=>s' F H' C' σ' τ' D D' R' S' h' (d.at t'),d.rt,d.bk,d.ct⟩
def pA (a:cP X st w)(b:tj X Jk u):V2 X (st::Jk) (Zq w u):=by
 obtain⟨t,p,s⟩:=a;obtain⟨t',p',s'⟩:=b;refine⟨_,uk p p',λF H C σ τ D D' R S h d=>?_⟩;exact s F H C σ τ _ _ R S h ⟨λσ' τ' H' C' R' t' S' h'=>s' F H' C' σ' τ' D D' R' S' h' (d.at t'),d.rt,d.bk,d.ct⟩
def mZ {k i:Nat}(Cc:fI X.prog X.w X.K X.mg X.base k x ps (spW X.K pr k i))(hr:Wj k X.A)(hg:Gl X x)(ha:cQ X (e::es) wA)
  (hdb:(x==("__debug__":Str))=false:=by decide) (he:starEach (e::es) X.env=(false,eval e X.env)::starEach es X.env:=by rfl) (hpl:(backTo pos (starEach es X.env)).any (·.1)=false:=by rfl):
  Ec X (.Call (.Name x p) (e::es) [] pos) (Z6 (Z9 pr k) i wA):=by
 obtain⟨t,p1,s⟩:=ha;refine⟨_,iH Cc hr hg p1 hdb he hpl,λF H C σ τ Q Q' χ R S h q=>?_⟩;refine s F H C σ τ _ _ χ R S h λxs vs H1 C1 R1 t1 rs h1=>?_;refine⟨F,C1,vs,Q',χ,R1,?_,h1,QE.at q t1⟩;rw[YK];exact rs
end
def g9 {P:WO}{w:WN}{K:WY}{mg:Str->Option WQ}{base:WU}{st:WV}{f:WP}{pr:List Df}{n i:Nat}(F:V1 K x qual st f fd)(S:Zy N ps (Zk st))(hd:pr[i]?=some d)(hn:d.n=N.length)(har:d.ar=ps.length)
  (hb:∀(cdv:WQ) (A:WM) (outer:List Env) (s:WR) (H:Hp) (E:XK),Wj n (A.deeper (envOfC qual (Zk st) s.heap.objs.size f cdv))->tj (Kz CX0 P w K mg base N qual (Zk st) f cdv A outer s H E).nox (Zm st) (d.body (Z9 pr n))):
  L8 P w K mg base (n+1) f fd ps (spW K pr (n+1) i):=by
 refine F.ok1 S (λvs H Q E h=>?_) (λcdv A outer s H vs Q E hr h=>?_)
 ·obtain⟨F',C,vs',Q',χ,R,rs,⟨d',e1,e2,_⟩,_⟩:=h;rw[hd] at e1;cases e1;rw[rs.length,e2,har]
 ·obtain⟨F',C,vs',Q',χ,R,rs,⟨d',e1,e2,h⟩,q⟩:=h;rw[hd] at e1;cases e1;obtain⟨t,p,sm⟩:=hb cdv A outer s H E hr;refine⟨t,p,sm F' H C _ _ _ _ R (Ve.start rs N _ (by rw[rs.length,e2,hn])) h ⟨λσ τ H' C' R' t' _ h'=>q .non .non H' C' R' t' Tl h',q,λ_ _ _ _ _ _ _ z=>z.elim,λ_ _ _ _ _ _ _ z=>z.elim⟩⟩
def xW {K:WY}{f:WP}:L8 P w K mg base 0 f fd ps (spW K pr 0 i):=
 ⟨λvs H Q E h=>by obtain⟨_,_,_,_,_,_,_,z,_⟩:=h;exact z.elim,λA outer s H args us vs Q E _ _ _ _ _ h=>by obtain⟨_,_,_,_,_,_,_,z,_⟩:=h;exact z.elim⟩
def pK {K:WY}{mg:Str->Option WQ}{st:WV}{f:WP}(F:V1 K x x st f fd)(hb:Ya K fd ps [])(hm:mg x=some (.ref f)):fI P w K mg base 0 x ps (spW K pr 0 i):=
 ⟨f,fd,xW,hb,F.kp,hm⟩
def pL {K:WY}{mg:Str->Option WQ}{st:WV}{f:WP}(F:V1 K x x st f fd)(hb:Ya K fd ps [])(hm:mg x=some (.ref f))(G:L8 P w K mg base n f fd ps sp):fI P w K mg base n x ps sp:=
 ⟨f,fd,G,hb,F.kp,hm⟩
end WL
namespace L2
open PySem PySem.Spec PyProof.Rows
def cY (P:Params):List DictEntry->List (Str×Int)->Prop
 | [],[]=>True
 | e::l,(x,i)::r=>((∃t,e.key=.str x t)/\e.hash=PyData.keyHash P x/\∃t,e.val=.int i t)/\cY P l r
 | _,_=>False
structure Zb3 (w:World)(K:W.Frag)(mg:Str->Option Value)(x:Str)(kvs:List (Str×Int)):Prop where
 ex:∃(a:WP) (es:Array DictEntry) (n:Nat),mg x=some (.ref a)/\(a==sysModules)=false/\K.lookup a=some ⟨.type "dict",none,.dict es n,#[]⟩/\cY w.params es.toList kvs
end L2
namespace WL
open PySem PySem.Spec PyProof.Rows L2
def Zau:W2:=λv u C Q=>match v,u with
 | .ref a,.tup ts=>(∃xs,C a=some (.lst xs))/\(∃zs:List Str,ts=zs.map T.str)/\Q (.bl false) C
 | v,u=>lL v u C Q
end WL
namespace L2
open PySem PySem.Spec PyProof.Rows
section
variable {X:Cx}{pos p:Pos}{e:WW}{es:List WW}{te:TE}{t:TA}
def cU (X:Cx)(es:List WW)(t:TA):Prop:=
 ∀(pos:Pos) (WZ:List (WP×Obj)) (s:WR) (σ:St) (H:Hp) (Q:List V->Hp->Prop),Z7 X WZ σ H s->t σ H Q->wpAny (model X.prog X.w) X.A (spliced (backTo pos (starEach es X.env))) (λus s'=>1<=s'.toks/\AP X WZ σ Q us s') X.xe s
def nZ (hr:PA X es t)(hs:starEach (.Constant (.int i) j lp::es) X.env=(false,eval (.Constant (.int i) j lp) X.env)::starEach es X.env:=by rfl):cU X (.Constant (.int i) j lp::es) (ya (tC (.int i)) t):=by
 intro pos WZ s σ H Q I h;rw[hs];show wpAny _ _ (spliced ((false,eval (.Constant (.int i) j lp) X.env)::backTo pos (starEach es X.env))) _ _ s;refine QH (wpAny_Constant_int ?_);refine fU (s:={s with toks:=s.toks+1}) (Nat.le_add_left _ _) ?_;exact J5 (hr pos WZ _ σ H _ (I.tok _) h) λus s2 ⟨xs,H2,I2,r2,q2⟩ k=>⟨k,.int i::xs,H2,I2,.cons ⟨_,VS⟩ r2,q2⟩
def rV (ha:PE X e te)(hr:cU X es t)(hs:starEach (e::es) X.env=(false,eval e X.env)::starEach es X.env:=by rfl):cU X (e::es) (ya te t):=by
 intro pos WZ s σ H Q I h;rw[hs];show wpAny _ _ (spliced ((false,eval e X.env)::backTo pos (starEach es X.env))) _ _ s;refine QH (J5 (ha WZ s σ H _ I h) λu s1 ⟨x,H1,I1,r1,q1⟩=>?_);exact J5 (hr pos WZ s1 σ H1 _ I1 q1) λus s2 ⟨k,xs,H2,I2,r2,q2⟩=>⟨k,x::xs,H2,I2,.cons r1 r2,q2⟩
def rB {k i:Nat}{pos' apos:Pos}(C:Ca X.prog X.w X.K X.mg X.base k x ps sp)(hr:Wj k X.A)(hg:Gl X x)(ha:cU X (e::es) t)(hN:X.N.Nodup)(hi:X.N[i]?=some y)(hx:oo X.env.scope y)
  (hdb:(x==("__debug__":Str))=false:=by decide) (he:starEach (e::es) X.env=(false,eval e X.env)::starEach es X.env:=by rfl) (hpl:(backTo pos (starEach es X.env)).any (·.1)=false:=by rfl)
  (hs:swapsWith (.Call (.Name x p) (e::es) [] pos) (some (.Name y pos')) apos.line X.env=pure false:=by rfl) (hf:X.fn y=true\/X.env.scope.names.lookup y=some .local:=by first | exact .inl VS | exact .inr VS | assumption):
  aP X (.Assign [.Name y pos'] (.Call (.Name x p) (e::es) [] pos) apos) (oK (yb sp [] E0 t) (Vm i)):=by
 obtain⟨f,fd,F,B,kp,m⟩:=C.one.ex;intro WZ s σ H D I h;refine wpAny_Assign_Name (wpAny_Call_Name_kw (Qw I hg m ?_ hdb)) hs;refine SH (h₀:=X.base) I.ok.mod.kin kp (J5 (ha pos WZ s σ H _ I h) λus s1 ⟨k1,vs,H1,I1,r,q⟩=>⟨I1.kIn,?_⟩) he hpl;refine J5 (jU k1 (wV F hr B k1 I1 r q)) λv s2 ⟨k2,y',H2,I2,r2,q2⟩=>?_;exact jU k2 (Mx I2 hN hi hx r2 (λs3 I3=>⟨_,H2,I3,q2⟩) hf)
end
end L2
namespace WL
open PySem PySem.Spec PyProof.Rows L2
section
variable {X:Cx}{pos p:Pos}{a b e:WW}{es Jk:List WW}{wa wb:WE}{wA:WA}
def lE (X:Cx)(es:List WW)(w:WA):Prop:=∃t,cU X es t/\zI X.K t w
def mR (hb:Dn X es wA)(hs:starEach (.Constant (.int i) j lp::es) X.env=(false,eval (.Constant (.int i) j lp) X.env)::starEach es X.env:=by rfl):lE X (.Constant (.int i) j lp::es) (Zb (eC (.int i)) wA):=by
 obtain⟨t,p,s⟩:=hb;exact⟨_,nZ p hs,xk (fz λ_=>Xe) s⟩
def pC (ha:X0 X a wa)(hb:lE X es wA)(hs:starEach (a::es) X.env=(false,eval a X.env)::starEach es X.env:=by rfl):lE X (a::es) (Zb wa wA):=by
 obtain⟨ta,p1,s1⟩:=ha;obtain⟨tb,p2,s2⟩:=hb;exact⟨_,rV p1 p2 hs,xk s1 s2⟩
def pv {k i j:Nat}{pos' apos:Pos}(Cc:Ca X.prog X.w X.K X.mg X.base k x ps (spW X.K pr k i))(hr:Wj k X.A)(hg:Gl X x)(ha:lE X (e::es) wA)(hN:X.N.Nodup)(hi:X.N[j]?=some y:=by rfl)(hx:oo X.env.scope y:=by first | exact Or.inl VS | exact Or.inr VS)
  (hdb:(x==("__debug__":Str))=false:=by decide) (he:starEach (e::es) X.env=(false,eval e X.env)::starEach es X.env:=by rfl) (hpl:(backTo pos (starEach es X.env)).any (·.1)=false:=by rfl)
  (hs:swapsWith (.Call (.Name x p) (e::es) [] pos) (some (.Name y pos')) apos.line X.env=pure false:=by rfl) (hf:X.fn y=true\/X.env.scope.names.lookup y=some .local:=by first | exact .inl VS | exact .inr VS | assumption):
  cP X (.Assign [.Name y pos'] (.Call (.Name x p) (e::es) [] pos) apos) (Zw (Z6 (Z9 pr k) i wA) (Yq j)):=by
 obtain⟨t,p1,s⟩:=ha;refine⟨_,rB Cc hr hg p1 hN hi hx hdb he hpl hs hf,λF H C σ τ D D' R S h d=>?_⟩;refine s F H C σ τ _ _ D'.xc R S h λxs vs H1 C1 R1 t1 rs h1=>?_;refine⟨F,C1,vs,_,D'.xc,R1,?_,h1,QE.at (Q':=λx C1=>Yq j x τ C1 D'.nx D'.xc) (λx v H2 C2 R2 t2 rx h2=>?_) t1⟩
 ·rw[YK];exact rs
 ·exact Xb F H2 C2 σ τ x v _ _ D'.xc R2 (S.tx t2) rx h2 λσ' τ' H' C' R' t'=>d.nx σ' τ' H' C' R' (t2.trans t')
end
end WL
namespace L2
open PySem PySem.Spec PyProof.Rows
section
variable {X:Cx}{o e:WW}{es:List WW}{to:TE}{t:TA}{T name:Str}{Tn id:String}{r:V->List V->Hp->VK->Prop}{apos cpos:Pos}
def iI (pa:PlainAttrs Tn)(slot:Slot Tn name id)(hty:typeOf (.builtin id)=pure (.type "method_descriptor"))(hm:fj X id r)(ho:tK X o to)(ha:PA X (e::es) t)
  (hbase:attributeBase o name X.env (eval o X.env)=eval o X.env:=by rfl)
  (hfew:((backTo cpos (starEach (e::es) X.env)).all (λx=>!x.1)&&(backToKw cpos (keywordEach [] X.env)).all (λx=>x.1.isSome)
   &&decide ((e::es).length+([]:List Keyword).length+(if ([]:List Keyword).isEmpty then 0 else 1)<30))=true:=by rfl)
  (hline:(apos.endLine==cpos.line)=true:=by rfl) (hs:starEach (e::es) X.env=(false,eval e X.env)::starEach es X.env:=by rfl) (hplain:(backTo cpos (starEach es X.env)).any (·.1)=false:=by rfl):
  tK X (.Call (.Attribute o name apos) (e::es) [] cpos) (Zac X.K Tn r to t):=by
 intro WZ s σ H Q k I h;refine wpAny_Call_method_late hbase hfew hline VS (J5 (ho WZ s σ H _ k I h) λv s1 ⟨x,H1,I1,r1,ty,q1⟩=>?_);obtain⟨h1,h2⟩:=jP I1 r1 ty;refine⟨Tn,id,pa,slot,hty,h1,h2,?_⟩;have hA:=ha cpos WZ s1 σ H1 _ I1 q1;rw[hs] at hA |-;refine QW (by show(false||(backTo cpos (starEach es X.env)).any (·.1))=false;rw[hplain]<;>rfl) (RK ?_);exact J5 hA λus s2 ⟨vs,H2,I2,r2,q2⟩=>hm WZ s2 σ H2 x vs v us Q I2 r1 r2 q2
def rS {r:R2}(ho:Mm X (compareOp op) r)(ha:tK X a ta)(hb:tK X b tb)(hm:behindInMarks op b=false):tK X (.Compare a [op] [b] pos) (fo r ta tb):=by
 intro WZ s σ H Q k I h;refine wpAny_Compare1 (J5 (jU k (ha WZ s σ H _ k I h)) λv s1 ⟨k1,x,H1,I1,r1,q1⟩=>?_) hm;refine J5 (hb WZ s1 σ H1 _ k1 I1 q1) λu s2 ⟨y,H2,I2,r2,q2⟩=>?_;exact ho WZ s2 σ H2 x y v u Q I2 r1 r2 q2
end
end L2
namespace WL
open PySem PySem.Spec PyProof.Rows L2
section
variable {X:Cx}{o e:WW}{es:List WW}{wo:WE}{wA:WA}{name:Str}{Tn id:String}{ty:T->Hw->Prop}{r:T->List T->Hw->WK->Prop}{apos cpos:Pos}
def cD (pa:PlainAttrs Tn)(slot:Slot Tn name id)(hty:typeOf (.builtin id)=pure (.type "method_descriptor"))(hT:cL X Tn ty)(hm:om X id r)(ho:Ec X o wo)(ha:Dn X (e::es) wA)
  (hbase:attributeBase o name X.env (eval o X.env)=eval o X.env:=by rfl)
  (hfew:((backTo cpos (starEach (e::es) X.env)).all (λx=>!x.1)&&(backToKw cpos (keywordEach [] X.env)).all (λx=>x.1.isSome)
   &&decide ((e::es).length+([]:List Keyword).length+(if ([]:List Keyword).isEmpty then 0 else 1)<30))=true:=by rfl)
  (hline:(apos.endLine==cpos.line)=true:=by rfl) (hs:starEach (e::es) X.env=(false,eval e X.env)::starEach es X.env:=by rfl) (hplain:(backTo cpos (starEach es X.env)).any (·.1)=false:=by rfl):
  Ec X (.Call (.Attribute o name apos) (e::es) [] cpos) (N9 ty r wo wA):=by
 obtain⟨rr,h1,h2⟩:=hm;obtain⟨to,p1,s1⟩:=ho;obtain⟨ta,p2,s2⟩:=ha;refine⟨_,iI pa slot hty h1 p1 p2 hbase hfew hline hs hplain,λF H C σ τ Q Q' χ R S h q=>?_⟩;refine s1 F H C σ τ _ _ χ R S h λx v H1 C1 R1 t1 rx h1'=>⟨hT F H1 C1 x v R1 rx h1'.1,?_⟩;refine s2 F H1 C1 σ τ _ _ χ R1 (S.tx t1) h1'.2 λxs vs H2 C2 R2 t2 rs h2'=>?_;exact h2 F H2 C2 x v xs vs Q Q' R2 (rx.tx t2) rs h2' (QE.at q (t1.trans t2))
def mY (ho:L9 X (compareOp op) w)(ha:Ec X a wa)(hb:Ec X b wb)(hm:behindInMarks op b=false):Ec X (.Compare a [op] [b] pos) (Zf w wa wb):=by
 obtain⟨r,h1,h2⟩:=ho;obtain⟨ta,p1,s1⟩:=ha;obtain⟨tb,p2,s2⟩:=hb;exact⟨_,rS h1 p1 p2 hm,sO s1 s2 h2⟩
end
end WL
namespace K36
open PySem PySem.Spec PyProof.Rows L2 WL
def g_MARKS:T:=.tup [.str "at",.str "shut",.str "ring"]
def g_VALUES:T:=.tup [.str "number",.str "fun",.str "made"]
def Jl (P:Calls):WS:=
  (Zq (Zw (Zf Zv (Zd 0) (eC (.int 0))) (Yq 2))
  (Zq (Ju (Yu (Zf Jw (Zd 2) (eC (.str "does")))) (Yj (Zs (Zb (eC (.str "does")) (Zb (Zf Zv (Zd 0) (eC (.int 1))) (Zb (Zf Zv (Zd 1) (eC (.int 0))) (Zb (Zf Zv (Zd 1) (eC (.int 1))) Zg)))))) Z8)
  (Zq (Ju (Ke (Yu (Zf Jw (Zd 2) (eC (.str "call")))) (Yu (Zf Jw (Zd 2) (eC (.str "first"))))) (Yj (Zs (Zb (Zd 2) (Zb (Zf Zv (Zd 1) (eC (.int 0))) (Zb (Zf Zv (Zd 1) (eC (.int 1))) Zg))))) Z8)
  (Zq (Ju (Yu (Zf Jw (Zd 2) (eC (.str "fun")))) (Yj (Zs (Zb (eC (.str "fun")) (Zb (Zf Zv (Zd 0) (eC (.int 1))) (Zb (Zf Zv (Zd 1) (eC (.int 0))) Zg))))) Z8)
  (Zq (Ju (Yu (Zf Jw (Zd 2) (eC (.str "let")))) (Yj (Zs (Zb (eC (.str "let")) (Zb (Z6 P 1 (Zb (Zf Zv (Zd 0) (eC (.int 1))) (Zb (pf (Zd 1) lS (Su (kh jK (eC (.int 1))))) Zg))) (Zb (Zf Zv (Zd 1) (kh jK (eC (.int 1)))) Zg))))) Z8)
  (Zq (Ju (Yu (Zf Jw (Zd 2) (eC (.str "shape")))) (Yj (Zs (Zb (eC (.str "shape")) (Zb (Zf Zv (Zd 0) (eC (.int 1))) (Zb (Oq Mg (Zb (Zd 1) Zg)) Zg))))) Z8)
  (Zq (Ju (Yu (Zf Jw (Zd 2) (eC (.str "choose")))) (Yj (Zs (Zb (eC (.str "choose")) (Zb (Zf Zv (Zd 1) (eC (.int 0))) (Zb (Z6 P 1 (Zb (Zf Zv (Zd 0) (eC (.int 2))) (Zb (pf (Zd 1) (Su (eC (.int 1))) lS) Zg))) Zg))))) Z8)
  (Zq (Ju (Yu (Zf Jw (Zd 2) (eC (.str "rows")))) (Yj (Zs (Zb (eC (.str "rows")) (Zb (Zf Zv (Zd 1) (eC (.int 0))) (Zb (Z6 P 1 (Zb (Zf Zv (Zd 0) (eC (.int 2))) (Zb (pf (Zd 1) (Su (eC (.int 1))) lS) Zg))) Zg))))) Z8)
  (Yj (Zd 0))))))))))
def V3 (P:Calls):WS:=
  (Yj (Oq Mg (Zb (Uc [none,none] (ah (Zb (Zd 0) (Zb (Zd 1) Zg))) (tG (Wb (Yq 0) (Wb (Yq 1) Q4))) Bl (Zf Wc (pf (Zd 0) lS (Su (kh jK (eC (.int 1))))) (Zs (Zb (Zd 1) Zg)))) Zg)))
def Q9 (P:Calls):WS:=
  (Zq (Zw (Zf Zv (Zd 0) (eC (.int 0))) (Yq 1))
  (Zq (Ju (Yu (Zf Jw (Zd 1) (eC (.str "does")))) (Yj (W5 (Zb (Zs (Zb (Zs Zg) (Zb (Zf Zv (Zd 0) (eC (.int 2))) Zg))) (Zb (Zs (Zb (Zs Zg) (Zb (Zf Zv (Zd 0) (eC (.int 3))) Zg))) Zg)))) Z8)
  (Zq (Ju (Ke (Yu (Zf Jw (Zd 1) (eC (.str "call")))) (Yu (Zf Jw (Zd 1) (eC (.str "first"))))) (Yj (W5 (Zb (Zs (Zb (Zs Zg) (Zb (Zf Zv (Zd 0) (eC (.int 1))) Zg))) (Zb (Zs (Zb (Zs Zg) (Zb (Zf Zv (Zd 0) (eC (.int 2))) Zg))) Zg)))) Z8)
  (Zq (Ju (Yu (Zf Jw (Zd 1) (eC (.str "fun")))) (Yj (W5 (Zb (Zs (Zb (Zs (Zb (Zf Zv (Zd 0) (eC (.int 1))) Zg)) (Zb (Zf Zv (Zd 0) (eC (.int 2))) Zg))) Zg))) Z8)
  (Zq (Ju (Yu (Zf Jw (Zd 1) (eC (.str "let")))) (Yj (Z6 P 3 (Zb (Zf Zv (Zd 0) (eC (.int 1))) (Zb (Zf Zv (Zd 0) (eC (.int 2))) Zg)))) Z8)
  (Zq (Ju (Yu (Zf Jw (Zd 1) (eC (.str "shape")))) (Yj (Uc [none] (Sf (Zf Zv (Zd 0) (eC (.int 2)))) (Yq 0) Bl (Zs (Zb (Zs Zg) (Zb (Zd 0) Zg))))) Z8)
  (Zq (Ju (Yu (Zf Jw (Zd 1) (eC (.str "choose")))) (Yj (Zf Wc (W5 (Zb (Zs (Zb (Zs Zg) (Zb (Zf Zv (Zd 0) (eC (.int 1))) Zg))) Zg)) (Uc [none,none,none] (Sf (Zf Zv (Zd 0) (eC (.int 2)))) (tG (Wb (Yq 0) (Wb (Yq 1) (Wb (Yq 2) Q4)))) Bl (Zs (Zb (Zd 1) (Zb (Zd 2) Zg)))))) Z8)
  (Zq (Ju (Yu (Zf Jw (Zd 1) (eC (.str "rows")))) (Yj (Z6 P 4 (Zb (Zf Zv (Zd 0) (eC (.int 1))) (Zb (Zf Zv (Zd 0) (eC (.int 2))) Zg)))) Z8)
  (Yj (W5 Zg))))))))))
def V4 (P:Calls):WS:=
  (Zq (Zw (Oq Mg (Zb (Uc [none,none] (Sf (Zd 0)) (tG (Wb (Yq 0) (Wb (Yq 1) Q4))) Bl (Zd 0)) Zg)) (Yq 2))
  (Yj (Zf Wc (Uc [none,none,some 2] (Sf (Zd 0)) (tG (Wb (Yq 0) (Wb (Yq 1) Q4))) Bl (Zs (Zb (Zd 2) (Zb (Zd 1) Zg)))) (W5 (Zb (Zs (Zb (Zd 2) (Zb (Zd 1) Zg))) Zg)))))
def Us (P:Calls):WS:=
  xl
def zO (P:Calls):WS:=
  (Zq (Zw (Z6 P 6 (Zb (Zd 0) (Zb (Zd 1) Zg))) (Yq 2))
  (Yj (uP (Yu (Zf Ik (Zd 2) (eC (.non)))) (Zd 0) (Zd 2))))
def Qp (P:Calls):WS:=
  (Yj (uP (Im (Zd 2)) (eC (.non)) (Z6 P 0 (Zb (Zd 0) (Zb (Zd 3) Zg)))))
def Qo (P:Calls):WS:=
  (Zq (Zw (eC (.bl true)) (Yq 2))
  (Zq (Zw (W5 Zg) (Yq 3))
  (Zq (Nw (Sf (Z6 P 2 (Zb (Zd 0) Zg))) (tG (Wb (Yq 4) (Wb (Yq 5) Q4)))
  (Zq (Zw (uP (Yu (Zf Jw (Zd 4) (Zs Zg))) (Zd 1) (Z6 P 7 (Zb (Zd 1) (Zb (Zd 4) Zg)))) (Yq 6))
  (Zq (Zw (uP (Yu (Zf kD (Zd 6) Kx)) (eC (.non)) (Z6 P 6 (Zb (Zd 5) (Zb (Zd 6) Zg)))) (Yq 7))
  (Zq (Ju (Yu (Zf zP (Zd 7) (eC (.non)))) (Zw (eC (.bl false)) (Yq 2)) Z8)
  (Ja (N9 Uj Ww (Zd 3) (Zb (uP (Yu (Zf Ik (Zd 7) (eC (.non)))) (Zd 5) (Zd 7)) Zg)))))))
  (Qp P))))
def Tz (P:Calls):WS:=
  (Zq (Ju (Yu (Zf Jw (Zf Zv (Zd 0) (eC (.int 0))) (eC (.str "name")))) (Yj (wj (Zd 1) (Zf Zv (Zd 0) (eC (.int 1))))) Z8)
  (Qo P))
def Rp (P:Calls):WS:=
  (Zq (Ju (fq (Im (Oq cI (Zb (Uc [none,some 0] (Sf (Zd 1)) (Yq 0) Bl (Zf fK (Zd 0) (Zd 1))) Zg)))) (Yj (Zd 0)) Z8)
  (Zq (Zw (Oq pN (Zb (Zd 0) Zg)) (Yq 2))
  (Zq (Nw (Sf (Zd 1)) (Yq 3)
  (Ja (wm (Zd 2) (Zd 3) (eC (.non)))))
  (Yj (Zd 2)))))
def Og (P:Calls):WS:=
  (Yj (Zf lL (Zf Zv (Zd 0) (eC (.int 0))) (eC g_MARKS)))
def Qn (P:Calls):WS:=
  (Yj (Zf lL (Zf Zv (Zd 0) (eC (.int 0))) (eC g_VALUES)))
def Qm (P:Calls):WS:=
  (Zq (Ju (Yu (Zf Jw (Zd 0) (eC (.str "<")))) (Yj (Z6 P 11 (Zb (Zf wK (Zd 1) (Zd 2)) Zg))) Z8)
  (Zq (Ju (Yu (Zf Jw (Zd 0) (eC (.str "=")))) (Yj (Z6 P 11 (Zb (Zf Jw (Zd 1) (Zd 2)) Zg))) Z8)
  (Zq (Ju (Yu (Zf Jw (Zd 0) (eC (.str "+")))) (Zw (Zf Wc (Zd 1) (Zd 2)) (Yq 3)) (Ju (Yu (Zf Jw (Zd 0) (eC (.str "-")))) (Zw (Zf Jr (Zd 1) (Zd 2)) (Yq 3)) (Zw (Zf Hq (Zd 1) (Zd 2)) (Yq 3))))
  (Yj (Zs (Zb (eC (.str "number")) (Zb (Zf J3 (Zd 3) (Zf jJ (eC (.int 10)) (eC (.int 18)))) Zg)))))))
def Iy (P:Calls):WS:=
  (Yj (Zs (Zb (eC (.str "made")) (Zb (uP (Im (Zd 0)) (eC (.str "Yes")) (eC (.str "No"))) (Zb (Zs Zg) Zg)))))
def Mq (P:Calls):WS:=
  (Zq (Zw (Z6 P 13 (Zb (Zd 0) (Zb (Zd 1) Zg))) (Yq 2))
  (Zq (Ju (Yu (Zf Ik (Zd 2) (eC (.non)))) (Yj (eC (.non))) Z8)
  (Yj (Z6 P 5 (Zb (Zf Zv (Zd 2) (eC (.int 2))) (Zb (Zal (Zb (Zf Zv (Zd 2) (eC (.int 1))) (Zb (Zf Zv (Zd 0) (eC (.int 2))) Zg))) Zg))))))
def Vf (P:Calls):WS:=
  (Zq (Ju (Yu (Zf wJ (Zf Zv (Zd 0) (eC (.int 0))) (eC (.str "made")))) (Yj (eC (.non))) Z8)
  (Zq (Nw (Sf (Zd 1)) (Yq 2)
  (Ju (Yu (Zf Jw (Zf Zv (Zd 2) (eC (.int 0))) (Zf Zv (Zd 0) (eC (.int 1))))) (Yj (Zd 2)) Z8))
  (Yj (eC (.non)))))
def Bd (P:Calls):WS:=
  (Zq (Ju (Yu (Zf Jw (Zf Zv (Zd 1) (eC (.int 0))) (eC (.str "give")))) (Yj (Zf Jw (Zf Zv (Zd 0) (eC (.int 0))) (eC (.str "fun")))) Z8)
  (Zq (Ju (Yu (Zf Jw (Zf Zv (Zd 1) (eC (.int 0))) (eC (.str "pick")))) (Yj (Zf zP (Z6 P 13 (Zb (Zd 0) (Zb (Zf Zv (Zd 1) (eC (.int 1))) Zg))) (eC (.non)))) Z8)
  (Zq (Ju (Ke (Yu (Zf Jw (Zf Zv (Zd 1) (eC (.int 0))) (eC (.str "left")))) (Yu (Zf Jw (Zf Zv (Zd 1) (eC (.int 0))) (eC (.str "right"))))) (Yj (Zf Jw (Zf Zv (Zd 0) (eC (.int 0))) (eC (.str "number")))) Z8)
  (Yj (eC (.bl true))))))
def W7 (P:Calls):WS:=
  (Zq (Zw (eC (.non)) (O8 ["Runner"] "hand" (Zd 0)))
  (Zq (Zw (eC (.int 0)) (O8 ["Runner"] "wanted" (Zd 0)))
  (Zq (Zw (W5 Zg) (O8 ["Runner"] "pile" (Zd 0)))
  (Zq (Zw (W5 (Zb (Zs (Zb (Zd 2) (Zb (Zd 1) Zg))) Zg)) (O8 ["Runner"] "still" (Zd 0)))
  (Zq (Zw (W5 Zg) (O8 ["Runner"] "told" (Zd 0)))
  (Zq (Zw Kx (O8 ["Runner"] "things" (Zd 0)))
  (Zq (Zw (W5 Zg) (O8 ["Runner"] "labels" (Zd 0)))
  (Zq (Zw (W5 Zg) (O8 ["Runner"] "log" (Zd 0)))
  (Zq (Zw (eC (.int 0)) (O8 ["Runner"] "steps" (Zd 0)))
  (Zq (Zw (eC (.int 0)) (O8 ["Runner"] "cells" (Zd 0)))
  (Zq (Zw (eC (.int 0)) (O8 ["Runner"] "firsts" (Zd 0)))
  (Zw (eC (.non)) (O8 ["Runner"] "ending" (Zd 0))))))))))))))
def Sn (P:Calls):WS:=
  (Zq (Ja (Vl P [("Runner",17)] "advance" (Zd 0) (Zb (Zd 1) Zg)))
  (Yj (Vl P [("Runner",18)] "outcome" (Zd 0) Zg)))
def Vi (P:Calls):WS:=
  (Zq (Ja (Vl P [("Runner",19)] "settle" (Zd 0) Zg))
  (Gg (wN (Yu (Zf Ik (Xt ["Runner"] "ending" (Zd 0)) (eC (.non)))) (Yu (Zf wK (Xt ["Runner"] "steps" (Zd 0)) (Zd 1))))
  (Zq (Zw (Zf Wc (Xt ["Runner"] "steps" (Zd 0)) (eC (.int 1))) (O8 ["Runner"] "steps" (Zd 0)))
  (Zq (Ja (Vl P [("Runner",22)] "take_step" (Zd 0) Zg))
  (Ja (Vl P [("Runner",19)] "settle" (Zd 0) Zg))))))
def Vg (P:Calls):WS:=
  (Zq (Zw (uP (Yu (Zf Ik (Xt ["Runner"] "ending" (Zd 0)) (eC (.non)))) (Zs (Zb (eC (.str "spent")) (Zb (eC (.str "")) Zg))) (Xt ["Runner"] "ending" (Zd 0))) (Yq 1))
  (Yj (Zs (Zb (Zf Zv (Zd 1) (eC (.int 0))) (Zb (Zf Zv (Zd 1) (eC (.int 1))) (Zb (Zs (Zb (Xt ["Runner"] "steps" (Zd 0)) (Zb (Xt ["Runner"] "cells" (Zd 0)) (Zb (Xt ["Runner"] "firsts" (Zd 0)) Zg)))) (Zb (Oq vM (Zb (Xt ["Runner"] "log" (Zd 0)) Zg)) Zg)))))))
def Vs (P:Calls):WS:=
  (Gg (Yu (Zf Ik (Xt ["Runner"] "ending" (Zd 0)) (eC (.non))))
  (Ju (Yu (Zf Ik (Xt ["Runner"] "hand" (Zd 0)) (eC (.non)))) (Ja (Vl P [("Runner",20)] "tell_next" (Zd 0) Zg)) (Ju (Yu (Zf Jw (Zf Zv (Xt ["Runner"] "hand" (Zd 0)) (eC (.int 0))) (eC (.str "stop")))) (Zw (Zs (Zb (eC (.str "stop")) (Zb (Zf Zv (Xt ["Runner"] "hand" (Zd 0)) (eC (.int 1))) Zg))) (O8 ["Runner"] "ending" (Zd 0))) (Ju (fq (Im (Z6 P 9 (Zb (Xt ["Runner"] "hand" (Zd 0)) Zg)))) yq (Ju (Yu (Zf Jw (Xt ["Runner"] "pile" (Zd 0)) (W5 Zg))) (Ja (Vl P [("Runner",21)] "tell_value" (Zd 0) Zg)) (Ju (Yu (Zf Jw (Zf Zv (Zf Zv (Xt ["Runner"] "pile" (Zd 0)) (kh jK (eC (.int 1)))) (eC (.int 0))) (eC (.str "back")))) (Ja (Vl P [("Runner",34)] "come_back" (Zd 0) (Zb (Zf Zv (Vl P [("Runner",26)] "take_frame" (Zd 0) Zg) (eC (.int 1))) Zg))) (Ju (Im (Z6 P 14 (Zb (Xt ["Runner"] "hand" (Zd 0)) (Zb (Zf Zv (Xt ["Runner"] "pile" (Zd 0)) (kh jK (eC (.int 1)))) Zg)))) yq (Zw (Zs (Zb (eC (.str "stuck")) (Zb (eC (.str "")) Zg))) (O8 ["Runner"] "ending" (Zd 0))))))))))
def Wm (P:Calls):WS:=
  (Zq (Ju (Yu (Zf Jw (Xt ["Runner"] "still" (Zd 0)) (W5 Zg))) (Zq (Zw (Zs (Zb (eC (.str "told")) (Zb (N9 ba lU (eC (.str "")) (Zb (Xt ["Runner"] "told" (Zd 0)) Zg)) Zg))) (O8 ["Runner"] "ending" (Zd 0)))
  yq) Z8)
  (Zq (Zw (N9 Uj At (Xt ["Runner"] "still" (Zd 0)) Zg) (Yq 1))
  (Ju (Im (mK (Zd 1) "str")) (Ja (N9 Uj Ww (Xt ["Runner"] "told" (Zd 0)) (Zb (Zd 1) Zg))) (Ju (Yu (Zf fM (Zf Zv (Zd 1) (eC (.int 0))) (eC (.int 0)))) (Ja (N9 Uj Ww (Xt ["Runner"] "told" (Zd 0)) (Zb (eC (.str "?")) Zg))) (Zq (Zw (Zf Zv (Zd 1) (eC (.int 0))) (O8 ["Runner"] "wanted" (Zd 0)))
  (Zw (Zf Zv (Zd 1) (eC (.int 1))) (O8 ["Runner"] "hand" (Zd 0))))))))
def Wd (P:Calls):WS:=
  (Zq (Ja (N9 Uj Av (Xt ["Runner"] "still" (Zd 0)) (Zb (ki (Z6 P 35 (Zb (Xt ["Runner"] "hand" (Zd 0)) (Zb (Zf Jr (Xt ["Runner"] "wanted" (Zd 0)) (eC (.int 1))) Zg)))) Zg)))
  (Zw (eC (.non)) (O8 ["Runner"] "hand" (Zd 0))))
def Wn (P:Calls):WS:=
  (Ju (Im (Z6 P 9 (Zb (Xt ["Runner"] "hand" (Zd 0)) Zg))) (Ja (Vl P [("Runner",24)] "use_value" (Zd 0) (Zb (Xt ["Runner"] "hand" (Zd 0)) (Zb (Vl P [("Runner",26)] "take_frame" (Zd 0) Zg) Zg)))) (Ja (Vl P [("Runner",23)] "take_apart" (Zd 0) (Zb (Xt ["Runner"] "hand" (Zd 0)) Zg))))
def Wg (P:Calls):WS:=
  (Zq (Zw (Zf Zv (Zd 1) (eC (.int 0))) (Yq 2))
  (Ju (Yu (Zf Jw (Zd 2) (eC (.str "call")))) (Ja (Vl P [("Runner",25)] "go_into" (Zd 0) (Zb (Zf Zv (Zd 1) (eC (.int 1))) (Zb (Zs (Zb (eC (.str "give")) (Zb (Zf Zv (Zd 1) (eC (.int 2))) Zg))) Zg)))) (Ju (Yu (Zf Jw (Zd 2) (eC (.str "does")))) (Ja (Vl P [("Runner",25)] "go_into" (Zd 0) (Zb (Zf Zv (Zd 1) (eC (.int 2))) (Zb (Zs (Zb (eC (.str "left")) (Zb (Zf Zv (Zd 1) (eC (.int 1))) (Zb (Zf Zv (Zd 1) (eC (.int 3))) Zg)))) Zg)))) (Ju (Yu (Zf Jw (Zd 2) (eC (.str "choose")))) (Ja (Vl P [("Runner",25)] "go_into" (Zd 0) (Zb (Zf Zv (Zd 1) (eC (.int 1))) (Zb (Zs (Zb (eC (.str "pick")) (Zb (Zf Zv (Zd 1) (eC (.int 2))) Zg))) Zg)))) (Ju (Yu (Zf Jw (Zd 2) (eC (.str "first")))) (Zq (Zw (Zf Wc (Xt ["Runner"] "firsts" (Zd 0)) (eC (.int 1))) (O8 ["Runner"] "firsts" (Zd 0)))
  (Ja (Vl P [("Runner",25)] "go_into" (Zd 0) (Zb (Zf Zv (Zd 1) (eC (.int 1))) (Zb (Zs (Zb (eC (.str "first")) (Zb (Zf Zv (Zd 1) (eC (.int 2))) Zg))) Zg))))) (Ju (Yu (Zf Jw (Zd 2) (eC (.str "let")))) (Ja (Vl P [("Runner",27)] "bind" (Zd 0) (Zb (Zf Zv (Zd 1) (eC (.int 1))) (Zb (Zf Zv (Zd 1) (eC (.int 2))) Zg)))) (Ju (Yu (Zf Jw (Zd 2) (eC (.str "shape")))) (Ja (Vl P [("Runner",28)] "make" (Zd 0) (Zb (Zf Zv (Zd 1) (eC (.int 1))) (Zb (Zf Zv (Zd 1) (eC (.int 2))) Zg)))) (Ja (Vl P [("Runner",33)] "enter" (Zd 0) (Zb (Zf Zv (Zd 1) (eC (.int 1))) Zg))))))))))
def Wl (P:Calls):WS:=
  (Ju (Yu (Zf Jw (Zf Zv (Zd 2) (eC (.int 0))) (eC (.str "give")))) (Zq (Zw (Vl P [("Runner",29)] "mark_for" (Zd 0) (Zb (Zf Zv (Zd 1) (eC (.int 1))) (Zb (Zf Zv (Zd 2) (eC (.int 1))) Zg))) (Yq 3))
  (Zw (Z6 P 5 (Zb (Zf Zv (Zd 1) (eC (.int 2))) (Zb (pk (Zf Zv (Zd 1) (eC (.int 1))) (Zd 3)) Zg))) (O8 ["Runner"] "hand" (Zd 0)))) (Ju (Yu (Zf Jw (Zf Zv (Zd 2) (eC (.int 0))) (eC (.str "pick")))) (Zw (Z6 P 12 (Zb (Zd 1) (Zb (Zf Zv (Zd 2) (eC (.int 1))) Zg))) (O8 ["Runner"] "hand" (Zd 0))) (Ju (Yu (Zf Jw (Zf Zv (Zd 2) (eC (.int 0))) (eC (.str "left")))) (Ja (Vl P [("Runner",25)] "go_into" (Zd 0) (Zb (Zf Zv (Zd 2) (eC (.int 2))) (Zb (Zs (Zb (eC (.str "right")) (Zb (Zf Zv (Zd 2) (eC (.int 1))) (Zb (Zf Zv (Zd 1) (eC (.int 1))) Zg)))) Zg)))) (Ju (Yu (Zf Jw (Zf Zv (Zd 2) (eC (.int 0))) (eC (.str "right")))) (Zw (Z6 P 10 (Zb (Zf Zv (Zd 2) (eC (.int 1))) (Zb (Zf Zv (Zd 2) (eC (.int 2))) (Zb (Zf Zv (Zd 1) (eC (.int 1))) Zg)))) (O8 ["Runner"] "hand" (Zd 0))) (Zw (Zf Zv (Zd 2) (eC (.int 1))) (O8 ["Runner"] "hand" (Zd 0)))))))
def Vh (P:Calls):WS:=
  (Zq (Ja (N9 Uj Ww (Xt ["Runner"] "pile" (Zd 0)) (Zb (Zd 2) Zg)))
  (Zw (Zd 1) (O8 ["Runner"] "hand" (Zd 0))))
def Wf (P:Calls):WS:=
  (Yj (N9 Uj At (Xt ["Runner"] "pile" (Zd 0)) Zg))
def Uy (P:Calls):WS:=
  (Zq (Zw Kx (Yq 3))
  (Zq (Nw (Sf (Zd 1)) (tG (Wb (Yq 4) (Wb (Yq 5) Q4)))
  (Zw (Vl P [("Runner",30)] "bear" (Zd 0) (Zb (Zd 4) Zg)) (ap (Zd 3) (Zd 4))))
  (Zq (Nw (Sf (Zd 1)) (tG (Wb (Yq 4) (Wb (Yq 5) Q4)))
  (Ja (Vl P [("Runner",32)] "keep" (Zd 0) (Zb (Zf Zv (Zf tP (Zd 3) (Zd 4)) (eC (.int 1))) (Zb (Z6 P 5 (Zb (Zd 5) (Zb (Zd 3) Zg))) Zg)))))
  (Zw (Z6 P 5 (Zb (Zd 2) (Zb (Zd 3) Zg))) (O8 ["Runner"] "hand" (Zd 0))))))
def Rt (P:Calls):WS:=
  (Zw (Zs (Zb (eC (.str "made")) (Zb (Zd 1) (Zb (Oq Mg (Zb (Zd 3) Zg)) Zg)))) (O8 ["Runner"] "hand" (Zd 0)))
def Ui (P:Calls):WS:=
  (Zq (Zw (W5 Zg) (Yq 3))
  (Zq (Nw (WL.iEn1 (Zb (Zd 2) Zg)) (tG (Wb (Yq 4) (Wb (Yq 5) Q4)))
  (Ja (N9 Uj Ww (Zd 3) (Zb (Vl P [("Runner",29)] "mark_for" (Zd 0) (Zb (eJ [(av (Zd 1)),(eC (.str ".")),(av (Zd 4))] Str.empty) (Zb (Zd 5) Zg))) Zg))))
  (Rt P)))
def Uw (P:Calls):WS:=
  (Zq (Ju (Yu (Zf Jw (Zd 1) (eC (.str "Cons")))) (Zw (Zf Wc (Xt ["Runner"] "cells" (Zd 0)) (eC (.int 1))) (O8 ["Runner"] "cells" (Zd 0))) Z8)
  (Ui P))
def W6 (P:Calls):WS:=
  (Zq (Ju (Im (Z6 P 8 (Zb (Zd 2) Zg))) (Yj (Zd 2)) Z8)
  (Zq (Zw (Vl P [("Runner",30)] "bear" (Zd 0) (Zb (Zd 1) Zg)) (Yq 3))
  (Zq (Ja (Vl P [("Runner",32)] "keep" (Zd 0) (Zb (Zf Zv (Zd 3) (eC (.int 1))) (Zb (Zd 2) Zg))))
  (Yj (Zd 3)))))
def Uz (P:Calls):WS:=
  (Zq (Zw (Oq O9 (Zb (Xt ["Runner"] "labels" (Zd 0)) Zg)) (Yq 2))
  (Zq (Ja (N9 Uj Ww (Xt ["Runner"] "labels" (Zd 0)) (Zb (Zd 1) Zg)))
  (Zq (Ja (Vl P [("Runner",31)] "note" (Zd 0) (Zb (eC (.str "born")) (Zb (Zd 2) Zg))))
  (Yj (Zs (Zb (eC (.str "at")) (Zb (Zd 2) Zg)))))))
def Uv (P:Calls):WS:=
  (Ja (N9 Uj Ww (Xt ["Runner"] "log" (Zd 0)) (Zb (Zs (Zb (Zd 1) (Zb (Zd 2) (Zb (Zf Zv (Xt ["Runner"] "labels" (Zd 0)) (Zd 2)) (Zb (Xt ["Runner"] "steps" (Zd 0)) Zg))))) Zg)))
def Ux (P:Calls):WS:=
  (Zw (Zd 2) (ap (Xt ["Runner"] "things" (Zd 0)) (Zd 1)))
def V6 (P:Calls):WS:=
  (Zq (Ja (Vl P [("Runner",31)] "note" (Zd 0) (Zb (eC (.str "enter")) (Zb (Zd 1) Zg))))
  (Ja (Vl P [("Runner",25)] "go_into" (Zd 0) (Zb (Zf tP (Xt ["Runner"] "things" (Zd 0)) (Zd 1)) (Zb (Zs (Zb (eC (.str "back")) (Zb (Zd 1) Zg))) Zg)))))
def Wo (P:Calls):WS:=
  (Ja (Vl P [("Runner",31)] "note" (Zd 0) (Zb (eC (.str "back")) (Zb (Zd 1) Zg))))
def Sj (P:Calls):WS:=
  (Zq (Ju (Yu (Zf Jw (Zf Zv (Zd 0) (eC (.int 0))) (eC (.str "number")))) (Yj (W5 (Zb (Oq jA (Zb (Zf Zv (Zd 0) (eC (.int 1))) Zg)) Zg))) Z8)
  (Zq (Ju (Yu (Zf Jw (Zf Zv (Zd 0) (eC (.int 0))) (eC (.str "fun")))) (Yj (W5 (Zb (eC (.str "fun")) Zg))) Z8)
  (Zq (Ju (Yu (Zf Jw (Zf Zv (Zd 0) (eC (.int 2))) (Zs Zg))) (Yj (W5 (Zb (Zf Zv (Zd 0) (eC (.int 1))) Zg))) Z8)
  (Zq (Zw (W5 (Zb (Zf Wc (eC (.str "(")) (Zf Zv (Zd 0) (eC (.int 1)))) Zg)) (Yq 2))
  (Zq (Nw (Sf (Zf Zv (Zd 0) (eC (.int 2)))) (Yq 3)
  (Ja (N9 Uj Av (Zd 2) (Zb (W5 (Zb (eC (.str " ")) (Zb (Zs (Zb (Zd 1) (Zb (Zd 3) Zg))) Zg))) Zg))))
  (Yj (Zf Wc (Zd 2) (W5 (Zb (eC (.str ")")) Zg)))))))))
def wI (P:Calls):WS:=
  (Yj (Vl P [("Runner",16)] "go" (Z6 P 49 (Zb (Zd 0) (Zb (Zd 1) Zg))) (Zb (Zd 2) Zg)))
def V5 (P:Calls):WS:=
  (Zq (Zw (W5 Zg) (Yq 2))
  (Zq (Nw (fA (Zb (Zd 1) Zg)) (Yq 3)
  (Zq (Zw (eC (.int 0)) (Yq 4))
  (Zq (Ju (Yu (Zf tR (Oq O9 (Zb (Zd 0) Zg)) (eC (.int 0)))) (Zw (Zf J3 (Zf Zv (Zd 0) (Zf J3 (Zd 3) (Oq O9 (Zb (Zd 0) Zg)))) (Zf jJ (eC (.int 10)) (eC (.int 18)))) (Yq 4)) Z8)
  (Ja (N9 Uj Ww (Zd 2) (Zb (Zf Wc (Zd 4) (Zf Hq (eC (.int 7919)) (Zf Vn (Zd 3) (Oq lw (Zb (eC (.int 1)) (Zb (Oq O9 (Zb (Zd 0) Zg)) Zg)))))) Zg))))))
  (Yj (Zd 2))))
def Sk (P:Calls):WS:=
  (Zq (Zw (W5 Zg) (Yq 1))
  (Zq (Zw (eC (.str "abcdeghijklmnopqrsuvwxyz0123456789")) (Yq 2))
  (Zq (Nw (fA (Zb (eC (.int 3)) Zg)) (Yq 3)
  (Zq (Zw (N9 Uj At (Zd 0) Zg) (Yq 4))
  (Zq (Zw (Zf Wc (Zf Zv (eC (.str "ab")) (Zf J3 (Zd 3) (eC (.int 2)))) (Zf Zv (Zd 2) (Zf J3 (Zd 4) (eC (.int 34))))) (Yq 5))
  (Zq (Nw (fA (Zb (Zf J3 (Zf Vn (Zd 4) (eC (.int 34))) (eC (.int 7))) Zg)) (Yq 6)
  (Zw (Zf Wc (Zd 5) (Zf Zv (Zd 2) (Zf J3 (Zf Wc (Zf Vn (Zd 4) (eC (.int 238))) (Zf Hq (Zf Hq (eC (.int 5)) (Zd 6)) (Zd 6))) (eC (.int 34))))) (Yq 5)))
  (Zq (Ju (Ke (Yu (Zf lL (Zd 5) (Zd 1))) (Yu (Zf Jw (Zd 5) (eC (.str "be"))))) (Zw (Zf Wc (eC (.str "k")) (Oq jA (Zb (Zd 3) Zg))) (Yq 5)) Z8)
  (Ja (N9 Uj Ww (Zd 1) (Zb (Zd 5) Zg))))))))
  (Yj (Zd 1)))))
def Wk (P:Calls):WS:=
  (Zq (Zw (Zs (Zb (eC (.str "shape")) (Zb (eC (.str "Nil")) (Zb (Zs Zg) Zg)))) (Yq 1))
  (Zq (Zw (W5 (Zb (Zs (Zb (eC (.str "number")) (Zb (eC (.int 3)) Zg))) (Zb (Zs (Zb (eC (.str "shape")) (Zb (eC (.str "Yes")) (Zb (Zs Zg) Zg)))) (Zb (Zd 1) (Zb (Zs (Zb (eC (.str "fun")) (Zb (eC (.str "x")) (Zb (Zs (Zb (eC (.str "name")) (Zb (eC (.str "x")) Zg))) Zg)))) Zg))))) (Yq 2))
  (Zq (Zw (Zf Wc (Zd 2) (W5 (Zb (Zs (Zb (eC (.str "shape")) (Zb (eC (.str "Cons")) (Zb (Zs (Zb (Zs (Zb (eC (.str "number")) (Zb (eC (.int 3)) Zg))) (Zb (Zd 1) Zg))) Zg)))) (Zb (Zs (Zb (eC (.str "shape")) (Zb (eC (.str "Pair")) (Zb (Zs (Zb (Zs (Zb (eC (.str "number")) (Zb (eC (.int 3)) Zg))) (Zb (Zd 1) Zg))) Zg)))) Zg)))) (Yq 2))
  (Yj (Zf Zv (Zd 2) (Zd 0))))))
def Pl (P:Calls):WS:=
  (Zq (Zw (Zs (Zb (eC (.str "shape")) (Zb (eC (.str "Cons")) (Zb (Zs (Zb (Zs (Zb (eC (.str "number")) (Zb (Zf J3 (Zf Vn (Zd 1) (eC (.int 768))) (eC (.int 8))) Zg))) (Zb (Zd 4) Zg))) Zg)))) (Yq 5))
  (Yj (Zf Zv (W5 (Zb (Zd 4) (Zb (Zd 5) (Zb (Zs (Zb (eC (.str "shape")) (Zb (eC (.str "Cons")) (Zb (Zs (Zb (Zs (Zb (eC (.str "number")) (Zb (Zf J3 (Zf Vn (Zd 1) (eC (.int 96))) (eC (.int 8))) Zg))) (Zb (Zd 5) Zg))) Zg)))) Zg)))) (Zf J3 (Zf Vn (Zd 1) (eC (.int 4))) (eC (.int 3))))))
def Pk (P:Calls):WS:=
  (Zq (Zw (Zs (Zb (eC (.str "shape")) (Zb (eC (.str "Nil")) (Zb (Zs Zg) Zg)))) (Yq 4))
  (Zq (Ju (Yu (Zf Jw (Zd 0) (eC (.str "p")))) (Yj (Zs (Zb (eC (.str "shape")) (Zb (eC (.str "Pair")) (Zb (Zs (Zb (Zs (Zb (eC (.str "number")) (Zb (Zf J3 (Zd 1) (Zf jJ (eC (.int 10)) (eC (.int 18)))) Zg))) (Zb (Zd 4) Zg))) Zg))))) Z8)
  (Pl P)))
def Pj (P:Calls):WS:=
  (Zq (Ju (Yu (Zf Jw (Zd 0) (eC (.str "f")))) (Yj (Zs (Zb (eC (.str "fun")) (Zb (eC (.str "x")) (Zb (Zs (Zb (eC (.str "does")) (Zb (Zf Zv (eC (.str "+-*")) (Zf J3 (Zf Vn (Zd 1) (eC (.int 4))) (eC (.int 3)))) (Zb (Zs (Zb (eC (.str "number")) (Zb (Zf J3 (Zf Vn (Zd 1) (eC (.int 12))) (eC (.int 100))) Zg))) (Zb (Zs (Zb (eC (.str "name")) (Zb (eC (.str "x")) Zg))) Zg))))) Zg))))) Z8)
  (Pk P))
def Pi (P:Calls):WS:=
  (Zq (Ju (Yu (Zf Jw (Zd 0) (eC (.str "t")))) (Yj (Zs (Zb (eC (.str "shape")) (Zb (Zf Zv (W5 (Zb (eC (.str "No")) (Zb (eC (.str "Yes")) Zg))) (Zf J3 (Zf Vn (Zd 1) (eC (.int 4))) (eC (.int 2)))) (Zb (Zs Zg) Zg))))) Z8)
  (Pj P))
def T9 (P:Calls):WS:=
  (Zq (Ju (Yu (Zf Jw (Zd 0) (eC (.str "n")))) (Yj (Zs (Zb (eC (.str "number")) (Zb (Zf Zv (W5 (Zb (Zf J3 (Zf Vn (Zd 1) (eC (.int 4))) (eC (.int 4))) (Zb (Zf J3 (Zf Hq (Zd 1) (eC (.int 982451653))) (Zf jJ (eC (.int 10)) (eC (.int 18)))) Zg))) (Zf J3 (Zf Vn (Zd 1) (eC (.int 16))) (eC (.int 2)))) Zg)))) Z8)
  (Pi P))
def Ph (P:Calls):WS:=
  (Zq (Ju (Yu (zf wK wK (eC (.int 4)) (Zf J3 (Zd 1) (eC (.int 149))) (eC (.int 11)))) (Yj (Z6 P 39 (Zb (Zf Jr (Zf J3 (Zd 1) (eC (.int 149))) (eC (.int 5))) Zg))) Z8)
  (T9 P))
def T8 (P:Calls):WS:=
  (Zq (Ju (Yu (Zf Jw (Zf J3 (Zd 1) (eC (.int 31))) (eC (.int 8)))) (Yj (Zs (Zb (eC (.str "stop")) (Zb (Zf Wc (eC (.str "boo")) (Oq jA (Zb (Zf J3 (Zf Vn (Zd 1) (eC (.int 31))) (eC (.int 100))) Zg))) Zg)))) Z8)
  (Ph P))
def T7 (P:Calls):WS:=
  (Zq (Ju (wN (Yu (Zf Jw (Zf J3 (Zd 1) (eC (.int 31))) (eC (.int 8)))) (wN (Yu (Zf Jw (Zf J3 (Zf Vn (Zd 1) (eC (.int 31))) (eC (.int 2))) (eC (.int 0)))) (Yu (Zf tR (Oq O9 (Zb (Zd 2) Zg)) (eC (.int 0)))))) (Yj (Zs (Zb (eC (.str "stop")) (Zb (Zf Zv (Zf Zv (Zd 2) (Zf J3 (Zf Vn (Zd 1) (eC (.int 62))) (Oq O9 (Zb (Zd 2) Zg)))) (eC (.int 0))) Zg)))) Z8)
  (T8 P))
def Sl (P:Calls):WS:=
  (Zq (Zw (Uc [none,some 0] (Sf (Zd 2)) (Yq 0) (Yu (Zf Jw (Zf Zv (Zd 0) (eC (.int 1))) (Zd 1))) (Zf Zv (Zd 0) (eC (.int 0)))) (Yq 3))
  (Zq (Ju (wN (Yu (Zf tR (Oq O9 (Zb (Zd 3) Zg)) (eC (.int 0)))) (Yu (Zf tR (Zf J3 (Zd 1) (eC (.int 4))) (eC (.int 0))))) (Yj (Zs (Zb (eC (.str "name")) (Zb (Zf Zv (Zd 3) (Zf J3 (Zf Vn (Zd 1) (eC (.int 4))) (Oq O9 (Zb (Zd 3) Zg)))) Zg)))) Z8)
  (T7 P)))
def Ti (P:Calls):WS:=
  (Yj (Zf Wc (Uc [none,some 1] (Sf (Zd 0)) (Yq 0) (Yu (Zf wJ (Zf Zv (Zd 0) (eC (.int 0))) (Zd 1))) (Zd 0)) (W5 (Zb (Zs (Zb (Zd 1) (Zb (Zd 2) Zg))) Zg))))
def Rb (P:Calls):WS:=
  (Zq (Zw (Z6 P 44 (Zb (eC (.str "n")) (Zb (Zd 2) (Zb (Zd 3) (Zb (Zd 4) (Zb (Zf Jr (Zd 5) (eC (.int 1))) Zg)))))) (Yq 6))
  (Yj (Zs (Zb (eC (.str "shape")) (Zb (Zf Zv (W5 (Zb (eC (.str "Cons")) (Zb (eC (.str "Pair")) Zg))) (Oq cH (Zb (Zf Jw (Zd 0) (eC (.str "p"))) Zg))) (Zb (Zs (Zb (Zd 6) (Zb (Z6 P 44 (Zb (eC (.str "l")) (Zb (Zd 2) (Zb (Zd 3) (Zb (Zd 4) (Zb (Zf Jr (Zd 5) (eC (.int 1))) Zg)))))) Zg))) Zg))))))
def Ra (P:Calls):WS:=
  (Zq (Ju (wN (Yu (Zf Jw (Zd 0) (eC (.str "l")))) (Yu (Zf Jw (Zf J3 (Zd 1) (eC (.int 4))) (eC (.int 1))))) (Zq (Zw (Z6 P 44 (Zb (eC (.str "f")) (Zb (Zd 2) (Zb (Zd 3) (Zb (Zd 4) (Zb (Zf Jr (Zd 5) (eC (.int 1))) Zg)))))) (Yq 6))
  (Yj (Zs (Zb (eC (.str "call")) (Zb (Zs (Zb (eC (.str "call")) (Zb (Zs (Zb (eC (.str "name")) (Zb (eC (.str "each")) Zg))) (Zb (Zd 6) Zg)))) (Zb (Z6 P 44 (Zb (eC (.str "l")) (Zb (Zd 2) (Zb (Zd 3) (Zb (Zd 4) (Zb (Zf Jr (Zd 5) (eC (.int 1))) Zg)))))) Zg)))))) Z8)
  (Rb P))
def S9 (P:Calls):WS:=
  (Zq (Ju (wN (Yu (Zf Jw (Zd 0) (eC (.str "l")))) (Yu (Zf Jw (Zf J3 (Zd 1) (eC (.int 4))) (eC (.int 0))))) (Yj (Zs (Zb (eC (.str "call")) (Zb (Zs (Zb (eC (.str "name")) (Zb (eC (.str "from")) Zg))) (Zb (Z6 P 44 (Zb (eC (.str "n")) (Zb (Zd 2) (Zb (Zd 3) (Zb (Zd 4) (Zb (Zf Jr (Zd 5) (eC (.int 1))) Zg)))))) Zg))))) Z8)
  (Ra P))
def S8 (P:Calls):WS:=
  (Zq (Ju (Yu (Zf Jw (Zd 0) (eC (.str "f")))) (Zq (Zw (Zf Zv (Zd 4) (Zf J3 (Zd 1) (Oq O9 (Zb (Zd 4) Zg)))) (Yq 8))
  (Yj (Zs (Zb (eC (.str "fun")) (Zb (Zd 8) (Zb (Z6 P 44 (Zb (eC (.str "n")) (Zb (Zd 2) (Zb (Z6 P 41 (Zb (Zd 3) (Zb (Zd 8) (Zb (eC (.str "n")) Zg)))) (Zb (Zd 4) (Zb (Zf Jr (Zd 5) (eC (.int 1))) Zg)))))) Zg)))))) Z8)
  (S9 P))
def S7 (P:Calls):WS:=
  (Zq (Ju (Yu (Zf lL (Zd 0) (eC (.str "nt")))) (Zq (Zw (Z6 P 44 (Zb (eC (.str "n")) (Zb (Zd 2) (Zb (Zd 3) (Zb (Zd 4) (Zb (Zf Jr (Zd 5) (eC (.int 1))) Zg)))))) (Yq 6))
  (Zq (Zw (Z6 P 44 (Zb (eC (.str "n")) (Zb (Zd 2) (Zb (Zd 3) (Zb (Zd 4) (Zb (Zf Jr (Zd 5) (eC (.int 1))) Zg)))))) (Yq 7))
  (Zq (Ju (Yu (Zf Jw (Zd 0) (eC (.str "n")))) (Yj (Zs (Zb (eC (.str "does")) (Zb (Zf Zv (eC (.str "+-*")) (Zf J3 (Zf Vn (Zd 1) (eC (.int 3))) (eC (.int 3)))) (Zb (Zd 6) (Zb (Zd 7) Zg)))))) Z8)
  (Yj (Zs (Zb (eC (.str "does")) (Zb (Zf Zv (eC (.str "<=")) (Zf J3 (Zf Vn (Zd 1) (eC (.int 3))) (eC (.int 2)))) (Zb (Zd 6) (Zb (Zd 7) Zg))))))))) Z8)
  (S8 P))
def Qq (P:Calls):WS:=
  (Zq (Ju (wN (Yu (Zf Jw (Zd 0) (eC (.str "n")))) (Yu (Zf Jw (Zf J3 (Zd 1) (eC (.int 3))) (eC (.int 0))))) (Zq (Zw (Z6 P 44 (Zb (eC (.str "f")) (Zb (Zd 2) (Zb (Zd 3) (Zb (Zd 4) (Zb (Zf Jr (Zd 5) (eC (.int 1))) Zg)))))) (Yq 6))
  (Yj (Zs (Zb (eC (.str "call")) (Zb (Zd 6) (Zb (Z6 P 44 (Zb (eC (.str "n")) (Zb (Zd 2) (Zb (Zd 3) (Zb (Zd 4) (Zb (Zf Jr (Zd 5) (eC (.int 1))) Zg)))))) Zg)))))) Z8)
  (S7 P))
def Rs (P:Calls):WS:=
  (Yj (Zs (Zb (eC (.str "choose")) (Zb (Zd 6) (Zb (Zs (Zb (Zs (Zb (eC (.str "Nil")) (Zb (Zs Zg) (Zb (Z6 P 40 (Zb (Zd 0) (Zb (Zf Vn (Zd 1) (eC (.int 9))) (Zb (Zd 3) Zg)))) Zg)))) (Zb (Zs (Zb (eC (.str "Cons")) (Zb (Zs (Zb (Zd 8) (Zb (Zd 9) Zg))) (Zb (Zd 11) Zg)))) Zg))) Zg)))))
def Rq (P:Calls):WS:=
  (Zq (Zw (Zf Zv (Zd 4) (Zf J3 (Zf Vn (Zd 1) (eC (.int 3))) (Oq O9 (Zb (Zd 4) Zg)))) (Yq 8))
  (Zq (Zw (Zf Zv (Uc [none,some 8] (Sf (Zd 4)) (Yq 0) (Yu (Zf wJ (Zd 0) (Zd 1))) (Zd 0)) (eC (.int 0))) (Yq 9))
  (Zq (Zw (Z6 P 44 (Zb (Zf Zv (eC (.str "lp")) (Zf Jr (Zf J3 (Zd 1) (eC (.int 3))) (eC (.int 1)))) (Zb (Zd 2) (Zb (Zd 3) (Zb (Zd 4) (Zb (Zf Jr (Zd 5) (eC (.int 1))) Zg)))))) (Yq 6))
  (Zq (Zw (Z6 P 41 (Zb (Z6 P 41 (Zb (Zd 3) (Zb (Zd 8) (Zb (eC (.str "n")) Zg)))) (Zb (Zd 9) (Zb (eC (.str "l")) Zg)))) (Yq 10))
  (Zq (Zw (Z6 P 44 (Zb (Zd 0) (Zb (Zd 2) (Zb (Zd 10) (Zb (Zd 4) (Zb (Zf Jr (Zd 5) (eC (.int 1))) Zg)))))) (Yq 11))
  (Zq (Ju (Yu (Zf Jw (Zf J3 (Zd 1) (eC (.int 3))) (eC (.int 2)))) (Yj (Zs (Zb (eC (.str "choose")) (Zb (Zd 6) (Zb (Zs (Zb (Zs (Zb (eC (.str "Pair")) (Zb (Zs (Zb (Zd 8) (Zb (Zd 9) Zg))) (Zb (Zd 11) Zg)))) Zg)) Zg))))) Z8)
  (Rs P)))))))
def Uu (P:Calls):WS:=
  (Zq (Ju (Yu (Zf Jw (Zf J3 (Zd 1) (eC (.int 3))) (eC (.int 0)))) (Zq (Zw (Z6 P 44 (Zb (eC (.str "t")) (Zb (Zd 2) (Zb (Zd 3) (Zb (Zd 4) (Zb (Zf Jr (Zd 5) (eC (.int 1))) Zg)))))) (Yq 6))
  (Zq (Zw (Z6 P 44 (Zb (Zd 0) (Zb (Zd 2) (Zb (Zd 3) (Zb (Zd 4) (Zb (Zf Jr (Zd 5) (eC (.int 1))) Zg)))))) (Yq 7))
  (Yj (Zs (Zb (eC (.str "choose")) (Zb (Zd 6) (Zb (Zs (Zb (Zs (Zb (eC (.str "No")) (Zb (Zs Zg) (Zb (Zd 7) Zg)))) (Zb (Zs (Zb (eC (.str "Yes")) (Zb (Zs Zg) (Zb (Z6 P 44 (Zb (Zd 0) (Zb (Zd 2) (Zb (Zd 3) (Zb (Zd 4) (Zb (Zf Jr (Zd 5) (eC (.int 1))) Zg)))))) Zg)))) Zg))) Zg))))))) Z8)
  (Rq P))
def T6 (P:Calls):WS:=
  (Yj (Zs (Zb (eC (.str "let")) (Zb (Oq Mg (Zb (Zd 12) Zg)) (Zb (Z6 P 44 (Zb (Zd 0) (Zb (Zd 1) (Zb (Zd 10) (Zb (Zd 3) (Zb (Zf Jr (Zd 4) (eC (.int 1))) Zg)))))) Zg)))))
def T5 (P:Calls):WS:=
  (Zq (Zw (W5 (Zb (Zs (Zb (Zd 9) (Zb (Z6 P 44 (Zb (Zd 7) (Zb (Zd 1) (Zb (Zd 10) (Zb (Zd 3) (Zb (Zf Jr (Zd 4) (eC (.int 1))) Zg)))))) Zg))) Zg)) (Yq 12))
  (Zq (Ja (N9 Uj Au (Zd 12) (Zb (Zf J3 (Zf Vn (Zd 5) (eC (.int 50))) (eC (.int 2))) (Zb (Zs (Zb (Zf Zv (Zd 11) (eC (.int 0))) (Zb (Z6 P 44 (Zb (eC (.str "l")) (Zb (Zd 1) (Zb (Zd 10) (Zb (Zd 3) (Zb (Zf Jr (Zd 4) (eC (.int 1))) Zg)))))) Zg))) Zg))))
  (Zq (Ju (Yu (Zf Jw (Zf J3 (Zf Vn (Zd 5) (eC (.int 25))) (eC (.int 2))) (eC (.int 0)))) (Ja (N9 Uj Au (Zd 12) (Zb (Zf J3 (Zf Vn (Zd 5) (eC (.int 100))) (eC (.int 3))) (Zb (Zs (Zb (Zf Zv (Zd 11) (eC (.int 1))) (Zb (Z6 P 44 (Zb (eC (.str "n")) (Zb (Zd 1) (Zb (Zd 10) (Zb (Zd 3) (Zb (Zf Jr (Zd 4) (eC (.int 1))) Zg)))))) Zg))) Zg)))) Z8)
  (T6 P))))
def Pf (P:Calls):WS:=
  (Zq (Zw (Uc [none,some 9] (Sf (Zd 3)) (Yq 0) (Yu (Zf wJ (Zd 0) (Zd 1))) (Zd 0)) (Yq 11))
  (Zq (Zw (Z6 P 41 (Zb (Zd 10) (Zb (Zf Zv (Zd 11) (eC (.int 0))) (Zb (eC (.str "l")) Zg)))) (Yq 10))
  (Zq (Ju (Yu (Zf Jw (Zf J3 (Zf Vn (Zd 5) (eC (.int 25))) (eC (.int 2))) (eC (.int 0)))) (Zw (Z6 P 41 (Zb (Zd 10) (Zb (Zf Zv (Zd 11) (eC (.int 1))) (Zb (eC (.str "n")) Zg)))) (Yq 10)) Z8)
  (T5 P))))
def Pe (P:Calls):WS:=
  (Zq (Zw (Zf Zv (Zd 3) (Zf J3 (Zf Vn (Zd 5) (eC (.int 5))) (Oq O9 (Zb (Zd 3) Zg)))) (Yq 9))
  (Zq (Zw (Z6 P 41 (Zb (Zd 2) (Zb (Zd 9) (Zb (Zd 7) Zg)))) (Yq 10))
  (Zq (Ju (Yu (Zf Jw (Zd 6) (eC (.int 6)))) (Zq (Zw (Z6 P 44 (Zb (Zd 7) (Zb (Zd 1) (Zb (Zd 2) (Zb (Zd 3) (Zb (Zf Jr (Zd 4) (eC (.int 1))) Zg)))))) (Yq 8))
  (Yj (Zs (Zb (eC (.str "call")) (Zb (Zs (Zb (eC (.str "fun")) (Zb (Zd 9) (Zb (Z6 P 44 (Zb (Zd 0) (Zb (Zd 1) (Zb (Zd 10) (Zb (Zd 3) (Zb (Zf Jr (Zd 4) (eC (.int 1))) Zg)))))) Zg)))) (Zb (Zd 8) Zg)))))) Z8)
  (Pf P))))
def Pd (P:Calls):WS:=
  (Zq (Zw (Zf Zv (eC (.str "nlftp")) (Zf J3 (Zd 5) (eC (.int 5)))) (Yq 7))
  (Zq (Ju (Yu (Zf Jw (Zd 6) (eC (.int 5)))) (Zq (Zw (Z6 P 44 (Zb (Zd 7) (Zb (Zd 1) (Zb (Zd 2) (Zb (Zd 3) (Zb (Zf Jr (Zd 4) (eC (.int 1))) Zg)))))) (Yq 8))
  (Yj (Zs (Zb (eC (.str "first")) (Zb (Zd 8) (Zb (Z6 P 44 (Zb (Zd 0) (Zb (Zd 1) (Zb (Zd 2) (Zb (Zd 3) (Zb (Zf Jr (Zd 4) (eC (.int 1))) Zg)))))) Zg)))))) Z8)
  (Pe P)))
def Pb (P:Calls):WS:=
  (Zq (Ju (Yu (Zf Jw (Zd 6) (eC (.int 4)))) (Yj (Z6 P 43 (Zb (Zd 0) (Zb (Zd 5) (Zb (Zd 1) (Zb (Zd 2) (Zb (Zd 3) (Zb (Zd 4) Zg)))))))) Z8)
  (Pd P))
def Pa (P:Calls):WS:=
  (Zq (Zw (Zf J3 (Zd 5) (eC (.int 8))) (Yq 6))
  (Zq (Zw (Zf Vn (Zd 5) (eC (.int 8))) (Yq 5))
  (Zq (Ju (Yu (Zf wK (Zd 6) (eC (.int 4)))) (Yj (Z6 P 42 (Zb (Zd 0) (Zb (Zd 5) (Zb (Zd 1) (Zb (Zd 2) (Zb (Zd 3) (Zb (Zd 4) Zg)))))))) Z8)
  (Pb P))))
def T4 (P:Calls):WS:=
  (Zq (Ju (Ke (Yu (Zf Jw (Zd 4) (eC (.int 0)))) (Ke (Yu (Zf Jw (Oq O9 (Zb (Zd 1) Zg)) (eC (.int 0)))) (Yu (Zf Jw (Zf J3 (Zd 5) (eC (.int 8))) (eC (.int 0)))))) (Yj (Z6 P 40 (Zb (Zd 0) (Zb (Zf Vn (Zd 5) (eC (.int 8))) (Zb (Zd 2) Zg))))) Z8)
  (Pa P))
def U2 (P:Calls):WS:=
  (Zq (Zw (eC (.int 0)) (Yq 5))
  (Zq (Ju (Yu (Zf tR (Oq O9 (Zb (Zd 1) Zg)) (eC (.int 0)))) (Zw (N9 Uj xJ (Zd 1) (Zb (eC (.int 0)) Zg)) (Yq 5)) Z8)
  (T4 P)))
def Sm (P:Calls):WS:=
  (Zq (Zw (Zs (Zb (eC (.str "call")) (Zb (Zs (Zb (eC (.str "call")) (Zb (Zs (Zb (eC (.str "name")) (Zb (eC (.str "each")) Zg))) (Zb (Zs (Zb (eC (.str "name")) (Zb (eC (.str "f")) Zg))) Zg)))) (Zb (Zs (Zb (eC (.str "name")) (Zb (eC (.str "t")) Zg))) Zg)))) (Yq 0))
  (Zq (Zw (Zs (Zb (eC (.str "shape")) (Zb (eC (.str "Cons")) (Zb (Zs (Zb (Zs (Zb (eC (.str "call")) (Zb (Zs (Zb (eC (.str "name")) (Zb (eC (.str "f")) Zg))) (Zb (Zs (Zb (eC (.str "name")) (Zb (eC (.str "h")) Zg))) Zg)))) (Zb (Zd 0) Zg))) Zg)))) (Yq 1))
  (Zq (Zw (Zs (Zb (Zs (Zb (eC (.str "Nil")) (Zb (Zs Zg) (Zb (Zs (Zb (eC (.str "shape")) (Zb (eC (.str "Nil")) (Zb (Zs Zg) Zg)))) Zg)))) (Zb (Zs (Zb (eC (.str "Cons")) (Zb (Zs (Zb (eC (.str "h")) (Zb (eC (.str "t")) Zg))) (Zb (Zd 1) Zg)))) Zg))) (Yq 2))
  (Yj (Zs (Zb (eC (.str "fun")) (Zb (eC (.str "f")) (Zb (Zs (Zb (eC (.str "fun")) (Zb (eC (.str "l")) (Zb (Zs (Zb (eC (.str "choose")) (Zb (Zs (Zb (eC (.str "name")) (Zb (eC (.str "l")) Zg))) (Zb (Zd 2) Zg)))) Zg)))) Zg))))))))
def Ut (P:Calls):WS:=
  (Zq (Zw (Zf Wc (Zf Wc (eC (.str "c")) (pf (Zf Zv (Zd 2) (eC (.int 0))) (Su (eC (.int 1))) (Su (eC (.int 5))))) (eC (.str "0"))) (Yq 4))
  (Zq (Zw (Zf Wc (Zf Wc (eC (.str "d")) (pf (Zf Zv (Zd 2) (eC (.int 1))) (Su (eC (.int 1))) (Su (eC (.int 5))))) (eC (.str "0"))) (Yq 5))
  (Zq (Zw (W5 (Zb (Zs (Zb (Zd 4) (Zb (eC (.str "n")) Zg))) (Zb (Zs (Zb (Zd 5) (Zb (eC (.str "l")) Zg))) Zg))) (Yq 6))
  (Zq (Zw (Zs (Zb (eC (.str "call")) (Zb (Zs (Zb (eC (.str "name")) (Zb (eC (.str "from")) Zg))) (Zb (Zs (Zb (eC (.str "does")) (Zb (eC (.str "+")) (Zb (Zs (Zb (eC (.str "name")) (Zb (eC (.str "n")) Zg))) (Zb (Zs (Zb (eC (.str "number")) (Zb (eC (.int 1)) Zg))) Zg))))) Zg)))) (Yq 7))
  (Zq (Zw (Zs (Zb (eC (.str "fun")) (Zb (eC (.str "n")) (Zb (Zs (Zb (eC (.str "shape")) (Zb (eC (.str "Cons")) (Zb (Zs (Zb (Zs (Zb (eC (.str "name")) (Zb (eC (.str "n")) Zg))) (Zb (Zd 7) Zg))) Zg)))) Zg)))) (Yq 8))
  (Zq (Zw (Z6 P 44 (Zb (eC (.str "n")) (Zb (pf (Zd 1) lS (Su (eC (.int 4)))) (Zb (Zd 6) (Zb (Zd 2) (Zb (eC (.int 2)) Zg)))))) (Yq 9))
  (Zq (Zw (Z6 P 44 (Zb (eC (.str "l")) (Zb (pf (Zd 1) (Su (eC (.int 4))) (Su (eC (.int 8)))) (Zb (Zd 6) (Zb (Zd 2) (Zb (eC (.int 2)) Zg)))))) (Yq 10))
  (Zq (Zw (Zs (Zb (Zs (Zb (eC (.str "from")) (Zb (Zd 8) Zg))) (Zb (Zs (Zb (Zd 4) (Zb (Zd 9) Zg))) (Zb (Zs (Zb (eC (.str "each")) (Zb (Z6 P 45 Zg) Zg))) (Zb (Zs (Zb (Zd 5) (Zb (Zd 10) Zg))) Zg))))) (Yq 11))
  (Yj (Zs (Zb (eC (.str "let")) (Zb (Zd 11) (Zb (Z6 P 44 (Zb (Zd 0) (Zb (pf (Zd 1) (Su (eC (.int 8))) lS) (Zb (Zd 6) (Zb (Zd 2) (Zb (Zd 3) Zg)))))) Zg)))))))))))))
def Qr (P:Calls):WS:=
  (Zq (Zw (N9 ba qy (pi ")" " )" (pi "(" "( " (Zd 0))) (Zb (eC (.str " ")) Zg)) (Yq 2))
  (Zq (Zw (eC (.str "")) (Yq 3))
  (Zq (Zw (eC (.int 0)) (Yq 4))
  (Zq (Nw (Sf (Zd 2)) (Yq 5)
  (Zq (Ju (Yu (Zf Jw (Zd 5) (eC (.str ")")))) (Zq (Zw (Zf Jr (Zd 4) (eC (.int 1))) (Yq 4))
  (Zq (Ju (Yu (Zf wK (Zd 4) (Zd 1))) (Zw (Zf Wc (Zd 3) (eC (.str ")"))) (Yq 3)) Z8)
  wU)) Z8)
  (Zq (Zw (Zd 4) (Yq 6))
  (Zq (Ju (Yu (Zf Jw (Zd 5) (eC (.str "(")))) (Zw (Zf Wc (Zd 4) (eC (.int 1))) (Yq 4)) (Ju (wN (Yu (Zf tR (Zd 4) (eC (.int 0)))) (Yu (Zf lL (Zd 5) (W5 (Zb (eC (.str "Cons")) (Zb (eC (.str "Pair")) Zg)))))) (Zq (Zw (Zf Jr (Zd 4) (eC (.int 1))) (Yq 6))
  (Zq (Ju (Yu (Zf wK (Zd 6) (Zd 1))) (Zw (Zf Wc (Zd 3) (Zd 5)) (Yq 3)) Z8)
  wU)) Z8))
  (Zq (Ju (wN (Yu (Zf tR (Zd 6) (eC (.int 0)))) (Yu (Zf fM (Zd 6) (Zd 1)))) (Zw (Zf Wc (Zd 3) (eC (.str " "))) (Yq 3)) Z8)
  (Ju (Yu (Zf Jw (Zd 6) (Zd 1))) (Zw (Zf Wc (Zd 3) (eC (.str "?"))) (Yq 3)) (Ju (Yu (Zf wK (Zd 6) (Zd 1))) (Zw (Zf Wc (Zd 3) (Zd 5)) (Yq 3)) Z8)))))))
  (Yj (Zd 3))))))
def w_law_t1 (P:Calls):WS:=
  (Yj (Zf Jw (Zf Zv (Zd 11) (eC (.int 1))) (Z6 P 47 (Zb (Zf Zv (Zd 10) (eC (.int 1))) (Zb (Zd 4) Zg)))))
def w_law_t2 (P:Calls):WS:=
  (Zq (Ju (wN (Yu (Zf Jw (Zd 4) (eC (.int 0)))) (Yu (Zf fL (Zf Zv (Zd 11) (eC (.int 2))) (Zs (Zb (eC (.int 0)) (Zb (eC (.int 0)) (Zb (eC (.int 0)) Zg))))))) (Yj (eC (.bl false))) Z8)
  (w_law_t1 P))
def w_law_t3 (P:Calls):WS:=
  (Zq (Zw (Z6 P 36 (fe [] (Zb (Zd 7) (Zb (Zd 4) (Zb (eC (.int 70)) Zg))))) (Yq 11))
  (Zq (Ju (Ke (Yu (Zf wJ (Zf Zv (Zd 11) (eC (.int 0))) (eC (.str "told")))) (Ke (Yu (Zf tR (Zf Zv (Zf Zv (Zd 11) (eC (.int 2))) (eC (.int 0))) (Zf Zv (Zf Zv (Zd 10) (eC (.int 2))) (eC (.int 0))))) (fq (Im (mK (Zf Zv (Zd 11) (eC (.int 1))) "str"))))) (Yj (eC (.bl false))) Z8)
  (w_law_t2 P)))
def w_law_t4 (P:Calls):WS:=
  (Zq (Zw (Z6 P 36 (fe [] (Zb (Zd 7) (Zb (Zd 3) (Zb (eC (.int 70)) Zg))))) (Yq 10))
  (Zq (Ju (Yu (Zf wJ (Zf Zv (Zd 10) (eC (.int 0))) (eC (.str "told")))) (Yj (eC (.bl true))) Z8)
  (w_law_t3 P)))
def w_law (P:Calls):WS:=
  (Zq (Zw (Z6 P 37 (Zb (Zd 0) (Zb (eC (.int 27)) Zg))) (Yq 1))
  (Zq (Zw (Z6 P 38 (Zb (Zd 1) Zg)) (Yq 2))
  (Zq (Zw (Zf J3 (N9 Uj At (Zd 1) Zg) (eC (.int 7))) (Yq 3))
  (Zq (Zw (Zf J3 (N9 Uj At (Zd 1) Zg) (Zf Wc (Zd 3) (eC (.int 1)))) (Yq 4))
  (Zq (Zw (Zf Zv (eC (.str "llplnt")) (Zf J3 (N9 Uj At (Zd 1) Zg) (eC (.int 6)))) (Yq 5))
  (Zq (Zw (N9 Uj At (Zd 1) Zg) (Yq 6))
  (Zq (Zw (Z6 P 46 (Zb (Zd 5) (Zb (Zd 1) (Zb (Zd 2) (Zb (eC (.int 4)) Zg))))) (Yq 7))
  (Zq (Nw (fA (Zb (Zf J3 (Zd 6) (eC (.int 7))) Zg)) (Yq 8)
  (Zq (Zw (Zs (Zb (eC (.str "number")) (Zb (Zf J3 (Zf Hq (Zf Vn (Zd 6) (Zf Wc (eC (.int 7)) (Zd 8))) (eC (.int 982451653))) (Zf jJ (eC (.int 10)) (eC (.int 18)))) Zg))) (Yq 9))
  (Ju (Yu (Zf Jw (Zf J3 (Zf Vn (Zd 6) (Zf Wc (eC (.int 8)) (Zf Hq (eC (.int 3)) (Zd 8)))) (eC (.int 3))) (eC (.int 0)))) (Zw (Zs (Zb (eC (.str "shape")) (Zb (eC (.str "Pair")) (Zb (Zs (Zb (Zd 7) (Zb (Zd 9) Zg))) Zg)))) (Yq 7)) (Ju (Yu (Zf Jw (Zf J3 (Zf Vn (Zd 6) (Zf Wc (eC (.int 8)) (Zf Hq (eC (.int 3)) (Zd 8)))) (eC (.int 3))) (eC (.int 1)))) (Zw (Zs (Zb (eC (.str "shape")) (Zb (eC (.str "Cons")) (Zb (Zs (Zb (Zs (Zb (eC (.str "shape")) (Zb (eC (.str "Cons")) (Zb (Zs (Zb (Zd 9) (Zb (Zs (Zb (eC (.str "shape")) (Zb (eC (.str "Nil")) (Zb (Zs Zg) Zg)))) Zg))) Zg)))) (Zb (Zd 7) Zg))) Zg)))) (Yq 7)) (Zw (Zs (Zb (eC (.str "shape")) (Zb (eC (.str "Cons")) (Zb (Zs (Zb (Zd 9) (Zb (Zd 7) Zg))) Zg)))) (Yq 7))))))
  (w_law_t4 P)))))))))
abbrev A6:Nat:=0
abbrev Lw:Nat:=1
abbrev qO:Nat:=2
abbrev A7:Nat:=3
abbrev oh:Nat:=4
abbrev cq:Nat:=5
abbrev uJ:Nat:=6
abbrev uH:Nat:=7
abbrev uI:Nat:=8
abbrev xP:Nat:=9
abbrev xO:Nat:=10
abbrev mC:Nat:=11
abbrev qP:Nat:=12
abbrev Qb:Nat:=13
abbrev gy:Nat:=14
abbrev vx:Nat:=15
abbrev lX:Nat:=16
abbrev Ku:Nat:=17
abbrev Ks:Nat:=18
abbrev Iv:Nat:=19
abbrev N5:Nat:=20
abbrev O5:Nat:=21
abbrev N6:Nat:=22
abbrev O7:Nat:=23
abbrev N4:Nat:=24
abbrev Kt:Nat:=25
abbrev O6:Nat:=26
abbrev Dg:Nat:=27
abbrev Dd:Nat:=28
abbrev Lx:Nat:=29
abbrev Dh:Nat:=30
abbrev Dc:Nat:=31
abbrev De:Nat:=32
abbrev Fg:Nat:=33
abbrev N7:Nat:=34
abbrev jb:Nat:=35
abbrev cm:Nat:=36
abbrev A8:Nat:=37
abbrev jc:Nat:=38
abbrev N3:Nat:=39
abbrev jd:Nat:=40
abbrev A9:Nat:=41
abbrev xQ:Nat:=42
abbrev Db:Nat:=43
abbrev Ob:Nat:=44
abbrev je:Nat:=45
abbrev Da:Nat:=46
abbrev xR:Nat:=47
abbrev cr:Nat:=48
abbrev mD:Nat:=49
def pr:List Df:=[⟨3,2,Jl⟩,⟨2,2,V3⟩,⟨2,1,Q9⟩,⟨3,2,V4⟩,⟨5,2,Us⟩,⟨3,2,zO⟩,⟨8,2,Tz⟩,⟨4,2,Rp⟩,⟨1,1,Og⟩,⟨1,1,Qn⟩,⟨4,3,Qm⟩,⟨1,1,Iy⟩,⟨3,2,Mq⟩,⟨3,2,Vf⟩,⟨2,2,Bd⟩,⟨3,3,W7⟩,⟨2,2,Sn⟩,⟨2,2,Vi⟩,⟨2,1,Vg⟩,⟨1,1,Vs⟩,⟨2,1,Wm⟩,⟨1,1,Wd⟩,⟨1,1,Wn⟩,⟨3,2,Wg⟩,⟨4,3,Wl⟩,⟨3,3,Vh⟩,⟨1,1,Wf⟩,⟨6,3,Uy⟩,⟨6,3,Uw⟩,⟨4,3,W6⟩,⟨3,2,Uz⟩,⟨3,3,Uv⟩,⟨3,3,Ux⟩,⟨2,2,V6⟩,⟨2,2,Wo⟩,⟨4,2,Sj⟩,⟨3,3,wI⟩,⟨5,2,V5⟩,⟨7,1,Sk⟩,⟨3,1,Wk⟩,⟨6,3,Sl⟩,⟨3,3,Ti⟩,⟨9,6,Qq⟩,⟨12,6,Uu⟩,⟨13,5,U2⟩,⟨3,0,Sm⟩,⟨12,4,Ut⟩,⟨7,2,Qr⟩,⟨12,1,w_law⟩,⟨2,2,tQ "Runner" 15⟩]
def ZUU (i a r:Nat)(w:Calls->WS):Prop:=∀{n:Nat}{vs:List T}{C:Hw}{Q:WK}{χ:WX},vs.length=a->w (Z9 pr n) {nx:=λ_ C'=>Q .non C',rt:=Q,xc:=χ} (vs.map some++List.replicate r none) C->Z9 pr (n+1) i vs C Q χ
def Wp:ZUU 0 2 1 Jl:=λhl h=>⟨_,VS,hl,h⟩
def Be:ZUU 1 2 0 V3:=λhl h=>⟨_,VS,hl,h⟩
def tT:ZUU 2 1 1 Q9:=λhl h=>⟨_,VS,hl,h⟩
def Bg:ZUU 3 2 1 V4:=λhl h=>⟨_,VS,hl,h⟩
def pY:ZUU 4 2 3 Us:=λhl h=>⟨_,VS,hl,h⟩
def fQ:ZUU 5 2 1 zO:=λhl h=>⟨_,VS,hl,h⟩
def Du:ZUU 6 2 6 Tz:=λhl h=>⟨_,VS,hl,h⟩
def vX:ZUU 7 2 2 Rp:=λhl h=>⟨_,VS,hl,h⟩
def vY:ZUU 8 1 0 Og:=λhl h=>⟨_,VS,hl,h⟩
def jM:ZUU 9 1 0 Qn:=λhl h=>⟨_,VS,hl,h⟩
def jL:ZUU 10 3 1 Qm:=λhl h=>⟨_,VS,hl,h⟩
def oG:ZUU 11 1 0 Iy:=λhl h=>⟨_,VS,hl,h⟩
def tU:ZUU 12 2 1 Mq:=λhl h=>⟨_,VS,hl,h⟩
def Rv:ZUU 13 2 1 Vf:=λhl h=>⟨_,VS,hl,h⟩
def kH:ZUU 14 2 0 Bd:=λhl h=>⟨_,VS,hl,h⟩
def Mv:ZUU 15 3 0 W7:=λhl h=>⟨_,VS,hl,h⟩
def zY:ZUU 16 2 0 Sn:=λhl h=>⟨_,VS,hl,h⟩
def Kd:ZUU 17 2 0 Vi:=λhl h=>⟨_,VS,hl,h⟩
def Kb:ZUU 18 1 1 Vg:=λhl h=>⟨_,VS,hl,h⟩
def Il:ZUU 19 1 0 Vs:=λhl h=>⟨_,VS,hl,h⟩
def Np:ZUU 20 1 1 Wm:=λhl h=>⟨_,VS,hl,h⟩
def Ox:ZUU 21 1 0 Wd:=λhl h=>⟨_,VS,hl,h⟩
def Nq:ZUU 22 1 0 Wn:=λhl h=>⟨_,VS,hl,h⟩
def Oz:ZUU 23 2 1 Wg:=λhl h=>⟨_,VS,hl,h⟩
def No:ZUU 24 3 1 Wl:=λhl h=>⟨_,VS,hl,h⟩
def Kc:ZUU 25 3 0 Vh:=λhl h=>⟨_,VS,hl,h⟩
def Oy:ZUU 26 1 0 Wf:=λhl h=>⟨_,VS,hl,h⟩
def Eo:ZUU 27 3 3 Uy:=λhl h=>⟨_,VS,hl,h⟩
def El:ZUU 28 3 3 Uw:=λhl h=>⟨_,VS,hl,h⟩
def Mu:ZUU 29 3 1 W6:=λhl h=>⟨_,VS,hl,h⟩
def Ep:ZUU 30 2 1 Uz:=λhl h=>⟨_,VS,hl,h⟩
def Ek:ZUU 31 3 0 Uv:=λhl h=>⟨_,VS,hl,h⟩
def Em:ZUU 32 3 0 Ux:=λhl h=>⟨_,VS,hl,h⟩
def Hs:ZUU 33 2 0 V6:=λhl h=>⟨_,VS,hl,h⟩
def Nr:ZUU 34 2 0 Wo:=λhl h=>⟨_,VS,hl,h⟩
def zU:ZUU 35 2 2 Sj:=λhl h=>⟨_,VS,hl,h⟩
def fP:ZUU 36 3 0 wI:=λhl h=>⟨_,VS,hl,h⟩
def Bh:ZUU 37 2 3 V5:=λhl h=>⟨_,VS,hl,h⟩
def zV:ZUU 38 1 6 Sk:=λhl h=>⟨_,VS,hl,h⟩
def Nn:ZUU 39 1 2 Wk:=λhl h=>⟨_,VS,hl,h⟩
def zW:ZUU 40 3 3 Sl:=λhl h=>⟨_,VS,hl,h⟩
def Bi:ZUU 41 3 0 Ti:=λhl h=>⟨_,VS,hl,h⟩
def jN:ZUU 42 6 3 Qq:=λhl h=>⟨_,VS,hl,h⟩
def Ej:ZUU 43 6 6 Uu:=λhl h=>⟨_,VS,hl,h⟩
def K3:ZUU 44 5 8 U2:=λhl h=>⟨_,VS,hl,h⟩
def zX:ZUU 45 0 3 Sm:=λhl h=>⟨_,VS,hl,h⟩
def Ei:ZUU 46 4 8 Ut:=λhl h=>⟨_,VS,hl,h⟩
def jO:ZUU 47 2 5 Qr:=λhl h=>⟨_,VS,hl,h⟩
def fR:ZUU 48 1 11 w_law:=λhl h=>⟨_,VS,hl,h⟩
section
variable {n:Nat}{vs:List T}{C:Hw}{Q:WK}{χ:WX}
def Bf (hl:vs.length=2)(h:∀p,C p=none->Z9 pr n 15 (.ref p::vs) (up C p (.ins "Runner" [])) (λv C2=>v=.non/\Q (.ref p) C2) χ):Z9 pr (n+1) 49 vs C Q χ:=⟨_,VS,hl,vs,YK _,h⟩
end
def top (i:Nat):WV:=PySem.Challenge.pw_idlegraph_k36_answers_cut.main.body.getD i (.Pass ⟨0,0,0,0⟩)
 abbrev UG:List Str:=["_law_kind","_law_draw","_law_draws_here","_law_names","_law_pool_here","_law_deep"]
 abbrev UH:List Str:=["_law_kind","_law_draws_here","_law_names","_law_pool_here","_law_deep"]
 abbrev UI:List Str:=["_law_kind","_law_draws_here","_law_pool_here","_law_deep"]
 abbrev UJ:List Str:=["_law_names","_law_name","_law_kind"]
 abbrev UK:List Str:=["value","alternatives"]
 abbrev UL:List Str:=["self"]
 abbrev UM:List Str:=["self","number"]
 abbrev UN:List Str:=["_law_kind","_law_draw","_law_names"]
 abbrev UO:List Str:=["self","most"]
 abbrev UP:List Str:=["self","event","number"]
 abbrev UQ:List Str:=["term","marks"]
 abbrev UR:List Str:=["self","number","text"]
 abbrev US:List Str:=["term","depth","most"]
 abbrev UT:List Str:=["self","term","depth"]
 abbrev UU:List Str:=["self","term","frame"]
 abbrev UV:List Str:=["_law_script","_law_many"]
 abbrev UW:List Str:=["_law_text","_law_most"]
 abbrev UX:List Str:=["self","value","frame"]
 abbrev UY:List Str:=["self","shape","given"]
 abbrev UZ:List Str:=["shape","names","body"]
 abbrev VA:List Str:=["term"]
 abbrev VB:List Str:=["self","pairs","body"]
 abbrev VC:List Str:=["self","label","text"]
 abbrev VD:List Str:=["tuples","lasts"]
 abbrev VE:List Str:=["Runner"]
 abbrev VF:List Str:=["value","frame"]
 abbrev VG:List Str:=["op","one","other"]
 abbrev VH:List Str:=["_law_draws_here"]
 abbrev VI:List Str:=["_law_script"]
 abbrev VJ:List Str:=["name","part","names"]
 abbrev VL:List Str:=["marks","names"]
 abbrev VM:List Str:=["value","depth"]
 abbrev VN:List Str:=["term","given"]
 abbrev VO:List Str:=["pairs","body"]
 abbrev VP:List Str:=["body","steps"]
 abbrev VQ:List Str:=["self","label"]
 abbrev VR:List Str:=["self","term"]
structure Txt (w:World)(K:W.Frag)(mg:Str->Option Value):Prop where
 zb7:mg "any"=none
 zbo:mg "dict"=none
 zbv:mg "enumerate"=none
 zb8:mg "int"=none
 za1:mg "isinstance"=none
 zah:mg "len"=none
 zbp:mg "list"=none
 zb6:mg "max"=none
 zax:mg "range"=none
 zbx:mg "reversed"=none
 za0:mg "str"=none
 zat:mg "tuple"=none
 zbz:mg "zip"=none
 g_MARKS:aW K mg "MARKS" g_MARKS
 g_VALUES:aW K mg "VALUES" g_VALUES
 zak:KF K "cells" "Runner"
 zac:KF K "ending" "Runner"
 zaj:KF K "firsts" "Runner"
 zab:KF K "hand" "Runner"
 zai:KF K "labels" "Runner"
 zas:KF K "log" "Runner"
 zaf:KF K "pile" "Runner"
 zae:KF K "steps" "Runner"
 zal:KF K "still" "Runner"
 zan:KF K "things" "Runner"
 zam:KF K "told" "Runner"
 zao:KF K "wanted" "Runner"
structure Cs (Pg:Program)(w:World)(K:W.Frag)(mg:Str->Option Value)(base:Heap)(n:Nat):Prop where
 zbn:Ca Pg w K mg base n "with_parts" VN (spW K pr n 0)
 zar:Ca Pg w K mg base n "with_lasts" VD (spW K pr n 1)
 zb3:Ca Pg w K mg base n "scopes" VA (spW K pr n 2)
 zbm:Ca Pg w K mg base n "let_scopes" VO (spW K pr n 3)
 zbj:Ca Pg w K mg base n "rows_scopes" VP (spW K pr n 4)
 za4:Ca Pg w K mg base n "put" UQ (spW K pr n 5)
 zbc:Ca Pg w K mg base n "changed" UQ (spW K pr n 6)
 zb0:Ca Pg w K mg base n "without" VL (spW K pr n 7)
 zb1:Ca Pg w K mg base n "is_mark" VA (spW K pr n 8)
 za3:Ca Pg w K mg base n "is_value" VA (spW K pr n 9)
 zby:Ca Pg w K mg base n "reckoned" VG (spW K pr n 10)
 zbg:Ca Pg w K mg base n "truth" ["holds"] (spW K pr n 11)
 zb2:Ca Pg w K mg base n "picked" UK (spW K pr n 12)
 zav:Ca Pg w K mg base n "alternative_of" UK (spW K pr n 13)
 zb5:Ca Pg w K mg base n "fits" VF (spW K pr n 14)
 zbs:Ca Pg w K mg base n "pieces_of" VM (spW K pr n 35)
 c_run:Zat Pg w K mg base n "run" US [8,400] (spW K pr n 36)
 zbq:Ca Pg w K mg base n "_law_draws" UV (spW K pr n 37)
 zbt:Ca Pg w K mg base n "_law_pool" VH (spW K pr n 38)
 za8:Ca Pg w K mg base n "_law_ill_matched" ["_law_k"] (spW K pr n 39)
 za2:Ca Pg w K mg base n "_law_leaf" UN (spW K pr n 40)
 zag:Ca Pg w K mg base n "_law_bound" UJ (spW K pr n 41)
 zbw:Ca Pg w K mg base n "_law_own" UG (spW K pr n 42)
 zbh:Ca Pg w K mg base n "_law_choice" UG (spW K pr n 43)
 zaa:Ca Pg w K mg base n "_law_term" UH (spW K pr n 44)
 zbu:Ca Pg w K mg base n "_law_each" [] (spW K pr n 45)
 zbi:Ca Pg w K mg base n "_law_closed" UI (spW K pr n 46)
 c__law_cut:fI Pg w K mg base n "_law_cut" UW (spW K pr n 47)
 zb9:Ca Pg w K mg base n "law" VI (spW K pr n 48)
 zca:Cm Pg w K mg base n "Runner" "__init__" UT (spW K pr n 15)
 zbr:Cm Pg w K mg base n "Runner" "go" UO (spW K pr n 16)
 zbe:Cm Pg w K mg base n "Runner" "advance" UO (spW K pr n 17)
 zbd:Cm Pg w K mg base n "Runner" "outcome" UL (spW K pr n 18)
 zaw:Cm Pg w K mg base n "Runner" "settle" UL (spW K pr n 19)
 zba:Cm Pg w K mg base n "Runner" "tell_next" UL (spW K pr n 20)
 za6:Cm Pg w K mg base n "Runner" "tell_value" UL (spW K pr n 21)
 zbb:Cm Pg w K mg base n "Runner" "take_step" UL (spW K pr n 22)
 za5:Cm Pg w K mg base n "Runner" "take_apart" VR (spW K pr n 23)
 za7:Cm Pg w K mg base n "Runner" "use_value" UX (spW K pr n 24)
 zad:Cm Pg w K mg base n "Runner" "go_into" UU (spW K pr n 25)
 zaq:Cm Pg w K mg base n "Runner" "take_frame" UL (spW K pr n 26)
 zbl:Cm Pg w K mg base n "Runner" "bind" VB (spW K pr n 27)
 zbk:Cm Pg w K mg base n "Runner" "make" UY (spW K pr n 28)
 zau:Cm Pg w K mg base n "Runner" "mark_for" VC (spW K pr n 29)
 zay:Cm Pg w K mg base n "Runner" "bear" VQ (spW K pr n 30)
 zap:Cm Pg w K mg base n "Runner" "note" UP (spW K pr n 31)
 zaz:Cm Pg w K mg base n "Runner" "keep" UR (spW K pr n 32)
 zbf:Cm Pg w K mg base n "Runner" "enter" UM (spW K pr n 33)
 za9:Cm Pg w K mg base n "Runner" "come_back" UM (spW K pr n 34)
 zb4:Cn Pg w K mg base n pr "Runner" 15 49
section
variable {Pg:WO}{w:WN}{K:WY}{mg:Str->Option WQ}{base:WU}{f:WP}{fd:VZ}{n:Nat}
def ZFK (Pg:WO)(w:WN)(K:WY)(mg:Str->Option WQ)(base:WU)(n:Nat)(x q:Str)(st:WV)(ps:List Str)(i:Nat):Prop:=∀{f:WP} {fd:VZ},Txt w K mg->Cs Pg w K mg base n->V1 K x q st f fd->Yx Pg w K mg base CX0 (n+1) f fd ps (spW K pr (n+1) i)
local macro_rules | `(tactic| walk_at "sc") => `(tactic| exact ⟨rfl, rfl, rfl, by decide +kernel, rfl, by decide +kernel, by decide +kernel⟩)
abbrev X2:WV:=top 1
def Nb:Zy ["term","given","sort"] VN (Zk X2):=by walk_at "sc"
def Eu:ZFK Pg w K mg base n "with_parts" "with_parts" X2 VN 0:=λT S F=>Yf F Nb VS VS VS λ_ _ _ _ _ _ hr=>by
  have hu:=Yv hr;show V2 _ _ (Jl _);exact(Zi (Zr Nb.nd (Z1 (Zc 0) Zh))
   (Zi (Z3 (Zp (Yk hu) (Zc 2) Zj) (Zl (Zu (Zo (Za Zj (Za (Z1 (Zc 0) Zh) (Za (Z1 (Zc 1) Zh) (Za (Z1 (Zc 1) Zh) Ze))))))) Z4)
   (Zi (Z3 (Ma (Ie (Zp (Yk hu) (Zc 2) Zj) (Ky (Zp (Yk hu) (Zc 2) Zj)))) (Zl (Zu (Zo (Za (Zc 2) (Za (Z1 (Zc 1) Zh) (Za (Z1 (Zc 1) Zh) Ze)))))) Z4)
   (Zi (Z3 (Zp (Yk hu) (Zc 2) Zj) (Zl (Zu (Zo (Za Zj (Za (Z1 (Zc 0) Zh) (Za (Z1 (Zc 1) Zh) Ze)))))) Z4)
   (Zi (Z3 (Zp (Yk hu) (Zc 2) Zj) (Zl (Zu (Zo (Za Zj (Za (Z5 S.zar hr (by rfl) (Za (Z1 (Zc 0) Zh) (Za (zo (Zc 1) Os (Vu (jw Zh))) Ze))) (Za (Z1 (Zc 1) (jw Zh)) Ze)))))) Z4)
   (Zi (Z3 (Zp (Yk hu) (Zc 2) Zj) (Zl (Zu (Zo (Za Zj (Za (Z1 (Zc 0) Zh) (Za (Fp L6 (by rfl) T.zat Of (Za (Zc 1) Ze)) Ze)))))) Z4)
   (Zi (Z3 (Zp (Yk hu) (Zc 2) Zj) (Zl (Zu (Zo (Za Zj (Za (Z1 (Zc 1) Zh) (Za (Z5 S.zar hr (by rfl) (Za (Z1 (Zc 0) Zh) (Za (zo (Zc 1) (Vu Zh) Os) Ze))) Ze)))))) Z4)
   (Zi (Z3 (Zp (Yk hu) (Zc 2) Zj) (Zl (Zu (Zo (Za Zj (Za (Z1 (Zc 1) Zh) (Za (Z5 S.zar hr (by rfl) (Za (Z1 (Zc 0) Zh) (Za (zo (Zc 1) (Vu Zh) Os) Ze))) Ze)))))) Z4)
   (Zl (Zu (Zc 0)))))))))))
abbrev X3:WV:=top 2
def Nc:Zy VD VD (Zk X3):=by walk_at "sc"
def Ew:ZFK Pg w K mg base n "with_lasts" "with_lasts" X3 VD 1:=λT S F=>Yf F Nc VS VS VS λ_ _ _ _ _ _ hr=>by
  show V2 _ _ (V3 (Z9 pr n));exact(Zl (Zu (Fp L6 (by rfl) T.zat Of (Za (Oe (cN:=["one","last"]) (cap:=[none,none]) (cl:=[]) (js:=([0]++([1]++[]))) (g:=(jh _ 2 (Qc (Vm 0) (Qc (Vm 1) ji)))) ⟨VS,(λ_=>Hn VS (by decide+kernel) (by decide+kernel) VS (by decide)),(gI (by rfl) T.zbz (Za (Zc 0) (Za (Zc 1) Ze))),(λ_ _ _=>Gm (n:=2) VS (Vr (Wh (i:=0) (show(["one","last"]:List Str).Nodup by decide+kernel) VS (Or.inl VS)) (Vr (Wh (i:=1) (show(["one","last"]:List Str).Nodup by decide+kernel) VS (Or.inl VS)) Lk))),(zb (Wx Ys (Wx Ys Ur))),(zc (Tr Wy Ys (Tr Wy Ys zd Ur) (Wx Ys Ur))),(Hx (U1 Xb (U1 Xb Hy)) (J4 (J4 Oc))),by decide+kernel,λ_ _ _=>Ot,λ_ _ _=>(Zx Xr (zo (Zc 0) Os (Vu (jw Zh))) (Zo (Za (Zc 1) Ze))),λ_=>rfl⟩) Ze))))
abbrev Uk:WV:=top 4
def Dz:Zy ["term","sort"] VA (Zk Uk):=by walk_at "sc"
def ux:ZFK Pg w K mg base n "scopes" "scopes" Uk VA 2:=λT S F=>Yf F Dz VS VS VS λ_ _ _ _ _ _ hr=>by
  have hu:=Yv hr;show V2 _ _ (Q9 _);exact(Zi (Zr Dz.nd (Z1 (Zc 0) Zh))
   (Zi (Z3 (Zp (Yk hu) (Zc 1) Zj) (Zl (Zu (Xa (Za (Zo (Za (Zo Ze) (Za (Z1 (Zc 0) Zh) Ze))) (Za (Zo (Za (Zo Ze) (Za (Z1 (Zc 0) Zh) Ze))) Ze))))) Z4)
   (Zi (Z3 (Ma (Ie (Zp (Yk hu) (Zc 1) Zj) (Ky (Zp (Yk hu) (Zc 1) Zj)))) (Zl (Zu (Xa (Za (Zo (Za (Zo Ze) (Za (Z1 (Zc 0) Zh) Ze))) (Za (Zo (Za (Zo Ze) (Za (Z1 (Zc 0) Zh) Ze))) Ze))))) Z4)
   (Zi (Z3 (Zp (Yk hu) (Zc 1) Zj) (Zl (Zu (Xa (Za (Zo (Za (Zo (Za (Z1 (Zc 0) Zh) Ze)) (Za (Z1 (Zc 0) Zh) Ze))) Ze)))) Z4)
   (Zi (Z3 (Zp (Yk hu) (Zc 1) Zj) (Zl (Zu (Z5 S.zbm hr (by rfl) (Za (Z1 (Zc 0) Zh) (Za (Z1 (Zc 0) Zh) Ze))))) Z4)
   (Zi (Z3 (Zp (Yk hu) (Zc 1) Zj) (Zl (Zu (Oe (cN:=["part"]) (cap:=[none]) (cl:=[]) (js:=[0]) (g:=(Vm 0)) ⟨VS,(λ_=>Hn VS (by decide+kernel) (by decide+kernel) VS (by decide)),(Vp (Z1 (Zc 0) Zh)),(λ_ _ _=>Wh (i:=0) (show(["part"]:List Str).Nodup by decide+kernel) VS (Or.inl VS)),Ys,Wy,Xb,by decide+kernel,λ_ _ _=>Ot,λ_ _ _=>(Zo (Za (Zo Ze) (Za (Zc 0) Ze))),λ_=>rfl⟩))) Z4)
   (Zi (Z3 (Zp (Yk hu) (Zc 1) Zj) (Zl (Zu (Zx Xr (Xa (Za (Zo (Za (Zo Ze) (Za (Z1 (Zc 0) Zh) Ze))) Ze)) (Oe (cN:=UZ) (cap:=[none,none,none]) (cl:=[]) (js:=([0]++([1]++([2]++[])))) (g:=(jh _ 3 (Qc (Vm 0) (Qc (Vm 1) (Qc (Vm 2) ji))))) ⟨VS,(λ_=>Hn VS (by decide+kernel) (by decide+kernel) VS (by decide)),(Vp (Z1 (Zc 0) Zh)),(λ_ _ _=>Gm (n:=3) VS (Vr (Wh (i:=0) (show(UZ:List Str).Nodup by decide+kernel) VS (Or.inl VS)) (Vr (Wh (i:=1) (show(UZ:List Str).Nodup by decide+kernel) VS (Or.inl VS)) (Vr (Wh (i:=2) (show(UZ:List Str).Nodup by decide+kernel) VS (Or.inl VS)) Lk)))),(zb (Wx Ys (Wx Ys (Wx Ys Ur)))),(zc (Tr Wy Ys (Tr Wy Ys (Tr Wy Ys zd Ur) (Wx Ys Ur)) (Wx Ys (Wx Ys Ur)))),(Hx (U1 Xb (U1 Xb (U1 Xb Hy))) (J4 (J4 (J4 Oc)))),by decide+kernel,λ_ _ _=>Ot,λ_ _ _=>(Zo (Za (Zc 1) (Za (Zc 2) Ze))),λ_=>rfl⟩)))) Z4)
   (Zi (Z3 (Zp (Yk hu) (Zc 1) Zj) (Zl (Zu (Z5 S.zbj hr (by rfl) (Za (Z1 (Zc 0) Zh) (Za (Z1 (Zc 0) Zh) Ze))))) Z4)
   (Zl (Zu (Xa Ze)))))))))))
abbrev X4:WV:=top 5
def Nd:Zy ["pairs","body","names"] VO (Zk X4):=by walk_at "sc"
def Ey:ZFK Pg w K mg base n "let_scopes" "let_scopes" X4 VO 3:=λT S F=>Yf F Nd VS VS VS λ_ _ _ _ _ _ hr=>by
  show V2 _ _ (V4 (Z9 pr n));exact(Zi (Zr Nd.nd (Fp L6 (by rfl) T.zat Of (Za (Oe (cN:=["name","part"]) (cap:=[none,none]) (cl:=[]) (js:=([0]++([1]++[]))) (g:=(jh _ 2 (Qc (Vm 0) (Qc (Vm 1) ji)))) ⟨VS,(λ_=>Hn VS (by decide+kernel) (by decide+kernel) VS (by decide)),(Vp (Zc 0)),(λ_ _ _=>Gm (n:=2) VS (Vr (Wh (i:=0) (show(["name","part"]:List Str).Nodup by decide+kernel) VS (Or.inl VS)) (Vr (Wh (i:=1) (show(["name","part"]:List Str).Nodup by decide+kernel) VS (Or.inl VS)) Lk))),(zb (Wx Ys (Wx Ys Ur))),(zc (Tr Wy Ys (Tr Wy Ys zd Ur) (Wx Ys Ur))),(Hx (U1 Xb (U1 Xb Hy)) (J4 (J4 Oc))),by decide+kernel,λ_ _ _=>Ot,λ_ _ _=>(Zc 0),λ_=>rfl⟩) Ze)))
   (Zl (Zu (Zx Xr (Oe (cN:=VJ) (cap:=[none,none,some 2]) (cl:=(Ud _ _ [])) (js:=([0]++([1]++[]))) (g:=(jh _ 2 (Qc (Vm 0) (Qc (Vm 1) ji)))) ⟨VS,(λok=>Ov ok VS (by decide+kernel) (by decide+kernel) VS VS VS),(Vp (Zc 0)),(λ_ _ _=>Gm (n:=2) VS (Vr (Wh (i:=0) (show(VJ:List Str).Nodup by decide+kernel) VS (Or.inl VS)) (Vr (Wh (i:=1) (show(VJ:List Str).Nodup by decide+kernel) VS (Or.inl VS)) Lk))),(zb (Wx Ys (Wx Ys Ur))),(zc (Tr Wy Ys (Tr Wy Ys zd Ur) (Wx Ys Ur))),(Hx (U1 Xb (U1 Xb Hy)) (J4 (J4 Oc))),by decide+kernel,λ_ _ _=>Ot,λ_ _ _=>(Zo (Za (Zc 2) (Za (Zc 1) Ze))),λ_=>rfl⟩) (Xa (Za (Zo (Za (Zc 2) (Za (Zc 1) Ze))) Ze))))))
abbrev Xi:WV:=top 6
def Po:Zy ["body","steps","bound","behind","step"] VP (Zk Xi):=by walk_at "sc"
def Gr:ZFK Pg w K mg base n "rows_scopes" "rows_scopes" Xi VP 4:=λT S F=>Yf F Po VS VS VS λ_ _ _ _ _ _ hr=>by
  show V2 _ _ (Us (Z9 pr n));exact pB
abbrev Nv:WV:=top 8
def sI:Zy ["term","marks","given"] UQ (Zk Nv):=by walk_at "sc"
def iS:ZFK Pg w K mg base n "put" "put" Nv UQ 5:=λT S F=>Yf F sI VS VS VS λ_ _ _ _ _ _ hr=>by
  show V2 _ _ (zO _);exact(Zi (Zr sI.nd (Z5 S.zbc hr (by rfl) (Za (Zc 0) (Za (Zc 1) Ze))))
   (Zl (Zu (Ft (Zp G1 (Zc 2) Uf) (Zc 0) (Zc 2)))))
abbrev Vx:WV:=top 9
def Gb:Zy ["term","marks","stays","given","names","part","left","one"] UQ (Zk Vx):=by walk_at "sc"
def xC:ZFK Pg w K mg base n "changed" "changed" Vx UQ 6:=λT S F=>Yf F Gb VS VS VS λ_ _ _ _ _ _ hr=>by
  have nd:=Gb.nd;have hu:=Yv hr;show V2 _ (Zm Vx) (Tz (Z9 pr n));unfold Tz Qo Qp;exact(Zi (Z3 (Zp (Yk hu) (Z1 (Zc 0) Zh) Zj) (Zl (Zu (mS hu (Zc 1) (Z1 (Zc 0) Zh) ⟨VS,VS,VS,VS⟩))) Z4)
   (Zi (Zr nd uS)
   (Zi (Zr nd (Xa Ze))
   (Zi (U8 PassesOwn.never VS (Vp (Z5 S.zb3 hr (by rfl) (Za (Zc 0) Ze))) (zj (n:=2) VS (Sz (Wi nd) (Sz (Wi nd) zk)) (J4 (J4 Oc)))
   (Zi (Zr nd (Ft (Zp (Yk hu) (Zc 4) (Zo Ze)) (Zc 1) (Z5 S.zb0 hr (by rfl) (Za (Zc 1) (Za (Zc 4) Ze)))))
   (Zi (Zr nd (Ft (Zp (dN hu) (Zc 6) zp) Uf (Z5 S.zbc hr (by rfl) (Za (Zc 5) (Za (Zc 6) Ze)))))
   (Zi (Z3 (Zp qh (Zc 7) Uf) (Zl (Zr nd uS)) Z4)
   (Zl (Yg (Mb XZ YB YA J1 Ua (Zc 3) (Za (Ft (Zp G1 (Zc 7) Uf) (Zc 5) (Zc 7)) Ze))))))))
   (Zl (Zu (Ft (Qz (Zc 2)) Uf (Z5 S.zbn hr (by rfl) (Za (Zc 0) (Za (Zc 3) Ze))))))))))
abbrev Vv:WV:=top 10
def Hz:Zy ["marks","names","left","name"] VL (Zk Vv):=by walk_at "sc"
def xA:ZFK Pg w K mg base n "without" "without" Vv VL 7:=λT S F=>Yf F Hz VS VS VS λ_ _ _ _ _ _ hr=>by
  show V2 _ _ (Rp (Z9 pr n));exact(Zi (Z3 (wn (Qz (Mc (cG VS) (by rfl) T.zb7 gS (Za (Oe (cN:=["name","marks"]) (cap:=[none,some 0]) (cl:=(Ud _ _ [])) (js:=[0]) (g:=(Vm 0)) ⟨VS,(λok=>Ov ok VS (by decide+kernel) (by decide+kernel) VS VS VS),(Vp (Zc 1)),(λ_ _ _=>Wh (i:=0) (show(["name","marks"]:List Str).Nodup by decide+kernel) VS (Or.inl VS)),Ys,Wy,Xb,by decide+kernel,λ_ _ _=>Ot,λ_ _ _=>(L4 (dM (Yv hr)) (Zc 0) (Zc 1) (by rfl)),λ_=>rfl⟩) Ze)))) (Zl (Zu (Zc 0))) Z4)
   (Zi (Zr Hz.nd (Fp lr (by rfl) T.zbo lm (Za (Zc 0) Ze)))
   (Zi (U8 PassesOwn.never VS (Vp (Zc 1)) (Wi Hz.nd)
   (Zl (Yg (mV (Zc 2) (Zc 3) Uf ⟨VS,VS,VS,VS⟩))))
   (Zl (Zu (Zc 2))))))
abbrev Vw:WV:=top 14
def Ga:Zy VA VA (Zk Vw):=by walk_at "sc"
def xB:ZFK Pg w K mg base n "is_mark" "is_mark" Vw VA 8:=λT S F=>Yf F Ga VS VS VS λ_ _ _ _ _ _ hr=>by
  show V2 _ _ (Og (Z9 pr n));exact(Zl (Zu (L4 (qi (Yv hr)) (Z1 (Zc 0) Zh) (cB (by rfl) T.g_MARKS) (by rfl))))
abbrev W9:WV:=top 15
def K5:Zy VA VA (Zk W9):=by walk_at "sc"
def y9:ZFK Pg w K mg base n "is_value" "is_value" W9 VA 9:=λT S F=>Yf F K5 VS VS VS λ_ _ _ _ _ _ hr=>by
  show V2 _ _ (Qn (Z9 pr n));exact(Zl (Zu (L4 (qi (Yv hr)) (Z1 (Zc 0) Zh) (cB (by rfl) T.g_VALUES) (by rfl))))
abbrev W8:WV:=top 16
def K4:Zy ["op","one","other","outcome"] VG (Zk W8):=by walk_at "sc"
def y0:ZFK Pg w K mg base n "reckoned" "reckoned" W8 VG 10:=λT S F=>Yf F K4 VS VS VS λ_ _ _ _ _ _ hr=>by
  have hu:=Yv hr;show V2 _ _ (Qm _);exact(Zi (Z3 (Zp (Yk hu) (Zc 0) Zj) (Zl (Zu (Z5 S.zbg hr (by rfl) (Za (L4 yF (Zc 1) (Zc 2) (P9 _)) Ze)))) Z4)
   (Zi (Z3 (Zp (Yk hu) (Zc 0) Zj) (Zl (Zu (Z5 S.zbg hr (by rfl) (Za (L4 (Yk hu) (Zc 1) (Zc 2) (P9 _)) Ze)))) Z4)
   (Zi (Z3 (Zp (Yk hu) (Zc 0) Zj) (Zl (Zr K4.nd (Zx Xr (Zc 1) (Zc 2)))) (Zl (Z3 (Zp (Yk hu) (Zc 0) Zj) (Zl (Zr K4.nd (Zx Xx (Zc 1) (Zc 2)))) (Zl (Zr K4.nd (Zx K8 (Zc 1) (Zc 2)))))))
   (Zl (Zu (Zo (Za Zj (Za (Zx Yr (Zc 3) (Zx yE Zh Zh)) Ze))))))))
abbrev Sa:WV:=top 17
def yi:Zy ["holds"] ["holds"] (Zk Sa):=by walk_at "sc"
def qd:ZFK Pg w K mg base n "truth" "truth" Sa ["holds"] 11:=λT S F=>Yf F yi VS VS VS λ_ _ _ _ _ _ hr=>by
  show V2 _ _ (Iy (Z9 pr n));exact(Zl (Zu (Zo (Za Zj (Za (Ft (Qz (Zc 0)) Zj Zj) (Za (Zo Ze) Ze))))))
abbrev Ul:WV:=top 18
def D3:Zy ["value","alternatives","found"] UK (Zk Ul):=by walk_at "sc"
def uy:ZFK Pg w K mg base n "picked" "picked" Ul UK 12:=λT S F=>Yf F D3 VS VS VS λ_ _ _ _ _ _ hr=>by
  show V2 _ _ (Mq _);exact(Zi (Zr D3.nd (Z5 S.zav hr (by rfl) (Za (Zc 0) (Za (Zc 1) Ze))))
   (Zi (Z3 (Zp G1 (Zc 2) Uf) (Zl (Zu Uf)) Z4)
   (Zl (Zu (Z5 S.za4 hr (by rfl) (Za (Z1 (Zc 2) Zh) (Za (az VS (by rfl) T.zbo (by rfl) T.zbz (Za (Z1 (Zc 2) Zh) (Za (Z1 (Zc 0) Zh) Ze))) Ze)))))))
abbrev Jm:WV:=top 19
def So:Zy ["value","alternatives","alternative"] UK (Zk Jm):=by walk_at "sc"
def Lm:ZFK Pg w K mg base n "alternative_of" "alternative_of" Jm UK 13:=λT S F=>Yf F So VS VS VS λ_ _ _ _ _ _ hr=>by
  show V2 _ _ (Vf (Z9 pr n));exact(Zi (Z3 (Zp (u0 (Yv hr)) (Z1 (Zc 0) Zh) Zj) (Zl (Zu Uf)) Z4)
   (Zi (U8 PassesOwn.never VS (Vp (Zc 1)) (Wi So.nd)
   (Zl (Z3 (Zp (Yk (Yv hr)) (Z1 (Zc 2) Zh) (Z1 (Zc 0) Zh)) (Zl (Zu (Zc 2))) Z4)))
   (Zl (Zu Uf))))
abbrev Qs:WV:=top 20
def wR:Zy VF VF (Zk Qs):=by walk_at "sc"
def mh:ZFK Pg w K mg base n "fits" "fits" Qs VF 14:=λT S F=>Yf F wR VS VS VS λ_ _ _ _ _ _ hr=>by
  have hu:=Yv hr;show V2 _ _ (Bd _);exact(Zi (Z3 (Zp (Yk hu) (Z1 (Zc 1) Zh) Zj) (Zl (Zu (L4 (Yk hu) (Z1 (Zc 0) Zh) Zj (P9 _)))) Z4)
   (Zi (Z3 (Zp (Yk hu) (Z1 (Zc 1) Zh) Zj) (Zl (Zu (L4 qh (Z5 S.zav hr (by rfl) (Za (Zc 0) (Za (Z1 (Zc 1) Zh) Ze))) Uf (P9 _)))) Z4)
   (Zi (Z3 (Ma (Ie (Zp (Yk hu) (Z1 (Zc 1) Zh) Zj) (Ky (Zp (Yk hu) (Z1 (Zc 1) Zh) Zj)))) (Zl (Zu (L4 (Yk hu) (Z1 (Zc 0) Zh) Zj (P9 _)))) Z4)
   (Zl (Zu uS)))))
abbrev Jf:WV:=J6 (top 22) 0
def Se:Zy UT UT (Zk Jf):=by walk_at "sc"
def Nz:ZFK Pg w K mg base n "__init__" "Runner.__init__" Jf UT 15:=λT S F=>Yf F Se VS VS VS λ_ _ _ _ _ _ hr=>by
  show V2 _ _ (W7 (Z9 pr n));exact(Zi (Js (Zt T.zab Z2) (Zc 0) Uf)
   (Zi (Js (Zt T.zao Z2) (Zc 0) Zh)
   (Zi (Js (Zt T.zaf Z2) (Zc 0) (Xa Ze))
   (Zi (Js (Zt T.zal Z2) (Zc 0) (Xa (Za (Zo (Za (Zc 2) (Za (Zc 1) Ze))) Ze)))
   (Zi (Js (Zt T.zam Z2) (Zc 0) (Xa Ze))
   (Zi (Js (Zt T.zan Z2) (Zc 0) zp)
   (Zi (Js (Zt T.zai Z2) (Zc 0) (Xa Ze))
   (Zi (Js (Zt T.zas Z2) (Zc 0) (Xa Ze))
   (Zi (Js (Zt T.zae Z2) (Zc 0) Zh)
   (Zi (Js (Zt T.zak Z2) (Zc 0) Zh)
   (Zi (Js (Zt T.zaj Z2) (Zc 0) Zh)
   (Zl (Js (Zt T.zac Z2) (Zc 0) Uf)))))))))))))
abbrev Wv:WV:=J6 (top 22) 1
def Lf:Zy UO UO (Zk Wv):=by walk_at "sc"
def Ak:ZFK Pg w K mg base n "go" "Runner.go" Wv UO 16:=λT S F=>Yf F Lf VS VS VS λ_ _ _ _ _ _ hr=>by
  show V2 _ _ (Sn _);exact(Zi (Yg (Xu (Yp S.zbe Jg) hr (Zc 0) (Za (Zc 1) Ze)))
   (Zl (Zu (S6 (Yp S.zbd Jg) hr (Zc 0)))))
abbrev Jp:WV:=J6 (top 22) 2
def Ss:Zy UO UO (Zk Jp):=by walk_at "sc"
def Lp:ZFK Pg w K mg base n "advance" "Runner.advance" Jp UO 17:=λT S F=>Yf F Ss VS VS VS λ_ _ _ _ _ _ hr=>by
  show V2 _ _ (Vi _);exact(Zi (Yg (S6 (Yp S.zaw Jg) hr (Zc 0)))
   (Zl (jp PassesOwn.never (Ma (Rk (Zp G1 (Ji (Zt T.zac Z2) (Zc 0)) Uf) (Tv (Zp yF (Ji (Zt T.zae Z2) (Zc 0)) (Zc 1)))))
   (Zi (Js (Zt T.zae Z2) (Zc 0) (Zx Xr (Ji (Zt T.zae Z2) (Zc 0)) Zh))
   (Zi (Yg (S6 (Yp S.zbb Jg) hr (Zc 0)))
   (Zl (Yg (S6 (Yp S.zaw Jg) hr (Zc 0)))))))))
abbrev Jn:WV:=J6 (top 22) 3
def Sq:Zy ["self","ending"] UL (Zk Jn):=by walk_at "sc"
def Ln:ZFK Pg w K mg base n "outcome" "Runner.outcome" Jn UL 18:=λT S F=>Yf F Sq VS VS VS λ_ _ _ _ _ _ hr=>by
  show V2 _ _ (Vg (Z9 pr n));exact(Zi (Zr Sq.nd (Ft (Zp G1 (Ji (Zt T.zac Z2) (Zc 0)) Uf) (Zo (Za Zj (Za Zj Ze))) (Ji (Zt T.zac Z2) (Zc 0))))
   (Zl (Zu (Zo (Za (Z1 (Zc 1) Zh) (Za (Z1 (Zc 1) Zh) (Za (Zo (Za (Ji (Zt T.zae Z2) (Zc 0)) (Za (Ji (Zt T.zak Z2) (Zc 0)) (Za (Ji (Zt T.zaj Z2) (Zc 0)) Ze)))) (Za (Fp gU (by rfl) T.zbp ll (Za (Ji (Zt T.zas Z2) (Zc 0)) Ze)) Ze))))))))
abbrev Jx:WV:=J6 (top 22) 4
def Rw:Zy UL UL (Zk Jx):=by walk_at "sc"
def Km:ZFK Pg w K mg base n "settle" "Runner.settle" Jx UL 19:=λT S F=>Yf F Rw VS VS VS λ_ _ _ _ _ _ hr=>by
  have hu:=Yv hr;show V2 _ _ (Vs _);exact(Zl (jp PassesOwn.never (Zp G1 (Ji (Zt T.zac Z2) (Zc 0)) Uf)
   (Zl (Z3 (Zp G1 (Ji (Zt T.zab Z2) (Zc 0)) Uf) (Zl (Yg (S6 (Yp S.zba Jg) hr (Zc 0)))) (Zl (Z3 (Zp (Yk hu) (Z1 (Ji (Zt T.zab Z2) (Zc 0)) Zh) Zj) (Zl (Js (Zt T.zac Z2) (Zc 0) (Zo (Za Zj (Za (Z1 (Ji (Zt T.zab Z2) (Zc 0)) Zh) Ze))))) (Zl (Z3 (wn (Qz (Z5 S.za3 hr (by rfl) (Za (Ji (Zt T.zab Z2) (Zc 0)) Ze)))) (Zl zg) (Zl (Z3 (Zp (Yk hu) (Ji (Zt T.zaf Z2) (Zc 0)) (Xa Ze)) (Zl (Yg (S6 (Yp S.za6 Jg) hr (Zc 0)))) (Zl (Z3 (Zp (Yk hu) (Z1 (Z1 (Ji (Zt T.zaf Z2) (Zc 0)) (jw Zh)) Zh) Zj) (Zl (Yg (Xu (Yp S.za9 Jg) hr (Zc 0) (Za (Z1 (S6 (Yp S.zaq Jg) hr (Zc 0)) Zh) Ze)))) (Zl (Z3 (Qz (Z5 S.zb5 hr (by rfl) (Za (Ji (Zt T.zab Z2) (Zc 0)) (Za (Z1 (Ji (Zt T.zaf Z2) (Zc 0)) (jw Zh)) Ze)))) (Zl zg) (Zl (Js (Zt T.zac Z2) (Zc 0) (Zo (Za Zj (Za Zj Ze)))))))))))))))))))
abbrev Y7:WV:=J6 (top 22) 5
def Td:Zy ["self","piece"] UL (Zk Y7):=by walk_at "sc"
def O2:ZFK Pg w K mg base n "tell_next" "Runner.tell_next" Y7 UL 20:=λT S F=>Yf F Td VS VS VS λ_ _ _ _ _ _ hr=>by
  show V2 _ _ (Wm (Z9 pr n));exact(Zi (Z3 (Zp (Yk (Yv hr)) (Ji (Zt T.zal Z2) (Zc 0)) (Xa Ze)) (Zi (Js (Zt T.zac Z2) (Zc 0) (Zo (Za Zj (Za (Mb SV PySem.F.slot_str_join PySem.F.type_str_join tV hJ Zj (Za (Ji (Zt T.zam Z2) (Zc 0)) Ze)) Ze))))
   (Zl zg)) Z4)
   (Zi (Zr Td.nd (Fq XZ QN QO J1 G5 (Ji (Zt T.zal Z2) (Zc 0))))
   (Zl (Z3 (Qz (kl (by rfl) T.za1 (by rfl) T.za0 Ea (by decide) (Zc 1))) (Zl (Yg (Mb XZ YB YA J1 Ua (Ji (Zt T.zam Z2) (Zc 0)) (Za (Zc 1) Ze)))) (Zl (Z3 (Zp dP (Z1 (Zc 1) Zh) Zh) (Zl (Yg (Mb XZ YB YA J1 Ua (Ji (Zt T.zam Z2) (Zc 0)) (Za Zj Ze)))) (Zi (Js (Zt T.zao Z2) (Zc 0) (Z1 (Zc 1) Zh))
   (Zl (Js (Zt T.zab Z2) (Zc 0) (Z1 (Zc 1) Zh))))))))))
abbrev Yz:WV:=J6 (top 22) 6
def U4:Zy UL UL (Zk Yz):=by walk_at "sc"
def P4:ZFK Pg w K mg base n "tell_value" "Runner.tell_value" Yz UL 21:=λT S F=>Yf F U4 VS VS VS λ_ _ _ _ _ _ hr=>by
  show V2 _ _ (Wd _);exact(Zi (Yg (Mb XZ PySem.F.slot_list_extend PySem.F.type_list_extend J1 yU (Ji (Zt T.zal Z2) (Zc 0)) (Za (gL VS (by rfl) T.zbp (by rfl) T.zbx (Z5 S.zbs hr (by rfl) (Za (Ji (Zt T.zab Z2) (Zc 0)) (Za (Zx Xx (Ji (Zt T.zao Z2) (Zc 0)) Zh) Ze)))) Ze)))
   (Zl (Js (Zt T.zab Z2) (Zc 0) Uf)))
abbrev Y8:WV:=J6 (top 22) 7
def Te:Zy UL UL (Zk Y8):=by walk_at "sc"
def O3:ZFK Pg w K mg base n "take_step" "Runner.take_step" Y8 UL 22:=λT S F=>Yf F Te VS VS VS λ_ _ _ _ _ _ hr=>by
  show V2 _ _ (Wn _);exact(Zl (Z3 (Qz (Z5 S.za3 hr (by rfl) (Za (Ji (Zt T.zab Z2) (Zc 0)) Ze))) (Zl (Yg (Xu (Yp S.za7 Jg) hr (Zc 0) (Za (Ji (Zt T.zab Z2) (Zc 0)) (Za (S6 (Yp S.zaq Jg) hr (Zc 0)) Ze))))) (Zl (Yg (Xu (Yp S.za5 Jg) hr (Zc 0) (Za (Ji (Zt T.zab Z2) (Zc 0)) Ze))))))
abbrev Y1:WV:=J6 (top 22) 8
def U6:Zy ["self","term","sort"] VR (Zk Y1):=by walk_at "sc"
def P6:ZFK Pg w K mg base n "take_apart" "Runner.take_apart" Y1 VR 23:=λT S F=>Yf F U6 VS VS VS λ_ _ _ _ _ _ hr=>by
  have hu:=Yv hr;show V2 _ _ (Wg _);exact(Zi (Zr U6.nd (Z1 (Zc 1) Zh))
   (Zl (Z3 (Zp (Yk hu) (Zc 2) Zj) (Zl (Yg (Xu (Yp S.zad Jg) hr (Zc 0) (Za (Z1 (Zc 1) Zh) (Za (Zo (Za Zj (Za (Z1 (Zc 1) Zh) Ze))) Ze))))) (Zl (Z3 (Zp (Yk hu) (Zc 2) Zj) (Zl (Yg (Xu (Yp S.zad Jg) hr (Zc 0) (Za (Z1 (Zc 1) Zh) (Za (Zo (Za Zj (Za (Z1 (Zc 1) Zh) (Za (Z1 (Zc 1) Zh) Ze)))) Ze))))) (Zl (Z3 (Zp (Yk hu) (Zc 2) Zj) (Zl (Yg (Xu (Yp S.zad Jg) hr (Zc 0) (Za (Z1 (Zc 1) Zh) (Za (Zo (Za Zj (Za (Z1 (Zc 1) Zh) Ze))) Ze))))) (Zl (Z3 (Zp (Yk hu) (Zc 2) Zj) (Zi (Js (Zt T.zaj Z2) (Zc 0) (Zx Xr (Ji (Zt T.zaj Z2) (Zc 0)) Zh))
   (Zl (Yg (Xu (Yp S.zad Jg) hr (Zc 0) (Za (Z1 (Zc 1) Zh) (Za (Zo (Za Zj (Za (Z1 (Zc 1) Zh) Ze))) Ze)))))) (Zl (Z3 (Zp (Yk hu) (Zc 2) Zj) (Zl (Yg (Xu (Yp S.zbl Jg) hr (Zc 0) (Za (Z1 (Zc 1) Zh) (Za (Z1 (Zc 1) Zh) Ze))))) (Zl (Z3 (Zp (Yk hu) (Zc 2) Zj) (Zl (Yg (Xu (Yp S.zbk Jg) hr (Zc 0) (Za (Z1 (Zc 1) Zh) (Za (Z1 (Zc 1) Zh) Ze))))) (Zl (Yg (Xu (Yp S.zbf Jg) hr (Zc 0) (Za (Z1 (Zc 1) Zh) Ze)))))))))))))))))
abbrev Y6:WV:=J6 (top 22) 9
def Tc:Zy ["self","value","frame","mark"] UX (Zk Y6):=by walk_at "sc"
def O1:ZFK Pg w K mg base n "use_value" "Runner.use_value" Y6 UX 24:=λT S F=>Yf F Tc VS VS VS λ_ _ _ _ _ _ hr=>by
  have hu:=Yv hr;show V2 _ _ (Wl _);exact(Zl (Z3 (Zp (Yk hu) (Z1 (Zc 2) Zh) Zj) (Zi (Zr Tc.nd (Xu (Yp S.zau Jg) hr (Zc 0) (Za (Z1 (Zc 1) Zh) (Za (Z1 (Zc 2) Zh) Ze))))
   (Zl (Js (Zt T.zab Z2) (Zc 0) (Z5 S.za4 hr (by rfl) (Za (Z1 (Zc 1) Zh) (Za (mW (Z1 (Zc 1) Zh) (Zc 3)) Ze)))))) (Zl (Z3 (Zp (Yk hu) (Z1 (Zc 2) Zh) Zj) (Zl (Js (Zt T.zab Z2) (Zc 0) (Z5 S.zb2 hr (by rfl) (Za (Zc 1) (Za (Z1 (Zc 2) Zh) Ze))))) (Zl (Z3 (Zp (Yk hu) (Z1 (Zc 2) Zh) Zj) (Zl (Yg (Xu (Yp S.zad Jg) hr (Zc 0) (Za (Z1 (Zc 2) Zh) (Za (Zo (Za Zj (Za (Z1 (Zc 2) Zh) (Za (Z1 (Zc 1) Zh) Ze)))) Ze))))) (Zl (Z3 (Zp (Yk hu) (Z1 (Zc 2) Zh) Zj) (Zl (Js (Zt T.zab Z2) (Zc 0) (Z5 S.zby hr (by rfl) (Za (Z1 (Zc 2) Zh) (Za (Z1 (Zc 2) Zh) (Za (Z1 (Zc 1) Zh) Ze)))))) (Zl (Js (Zt T.zab Z2) (Zc 0) (Z1 (Zc 2) Zh)))))))))))
abbrev Jo:WV:=J6 (top 22) 10
def Sr:Zy UU UU (Zk Jo):=by walk_at "sc"
def Lo:ZFK Pg w K mg base n "go_into" "Runner.go_into" Jo UU 25:=λT S F=>Yf F Sr VS VS VS λ_ _ _ _ _ _ hr=>by
  show V2 _ _ (Vh (Z9 pr n));exact(Zi (Yg (Mb XZ YB YA J1 Ua (Ji (Zt T.zaf Z2) (Zc 0)) (Za (Zc 2) Ze)))
   (Zl (Js (Zt T.zab Z2) (Zc 0) (Zc 1))))
abbrev Y0:WV:=J6 (top 22) 11
def U5:Zy UL UL (Zk Y0):=by walk_at "sc"
def P5:ZFK Pg w K mg base n "take_frame" "Runner.take_frame" Y0 UL 26:=λT S F=>Yf F U5 VS VS VS λ_ _ _ _ _ _ hr=>by
  show V2 _ _ (Wf (Z9 pr n));exact(Zl (Zu (Fq XZ QN QO J1 G5 (Ji (Zt T.zaf Z2) (Zc 0)))))
abbrev Xp:WV:=J6 (top 22) 12
def Px:Zy ["self","pairs","body","marks","name","text"] VB (Zk Xp):=by walk_at "sc"
def Gy:ZFK Pg w K mg base n "bind" "Runner.bind" Xp VB 27:=λT S F=>Yf F Px VS VS VS λ_ _ _ _ _ _ hr=>by
  have nd:=Px.nd;show V2 _ _ (Uy _);exact(Zi (Zr nd zp)
   (Zi (U8 PassesOwn.never VS (Vp (Zc 1)) (zj (n:=2) VS (Sz (Wi nd) (Sz (Wi nd) zk)) (J4 (J4 Oc)))
   (Zl (px (Xu (Yp S.zay Jg) hr (Zc 0) (Za (Zc 4) Ze)) (vG (Yv hr) (Zc 3) (Zc 4)))))
   (Zi (U8 PassesOwn.never VS (Vp (Zc 1)) (zj (n:=2) VS (Sz (Wi nd) (Sz (Wi nd) zk)) (J4 (J4 Oc)))
   (Zl (Yg (Xu (Yp S.zaz Jg) hr (Zc 0) (Za (Z1 (pD (Yv hr) (Zc 3) (Zc 4) (λ_ _=>rfl)) Zh) (Za (Z5 S.za4 hr (by rfl) (Za (Zc 5) (Za (Zc 3) Ze))) Ze))))))
   (Zl (Js (Zt T.zab Z2) (Zc 0) (Z5 S.za4 hr (by rfl) (Za (Zc 2) (Za (Zc 3) Ze))))))))
abbrev Xm:WV:=J6 (top 22) 13
def Pt:Zy ["self","shape","given","marks","place","part"] UY (Zk Xm):=by walk_at "sc"
def Gw:ZFK Pg w K mg base n "make" "Runner.make" Xm UY 28:=λT S F=>Yf F Pt VS VS VS λ_ _ _ _ _ _ hr=>by
  show V2 _ (Zm Xm) (Uw (Z9 pr n));unfold Uw Ui Rt;exact(Zi (Z3 (Zp (Yk (Yv hr)) (Zc 1) Zj) (Zl (Js (Zt T.zak Z2) (Zc 0) (Zx Xr (Ji (Zt T.zak Z2) (Zc 0)) Zh))) Z4)
   (Zi (Zr Pt.nd (Xa Ze))
   (Zi (U8 PassesOwn.never VS (gJ (by rfl) T.zbv (Za (Zc 2) Ze)) (zj (n:=2) VS (Sz (Wi Pt.nd) (Sz (Wi Pt.nd) zk)) (J4 (J4 Oc)))
   (Zl (Yg (Mb XZ YB YA J1 Ua (Zc 3) (Za (Xu (Yp S.zau Jg) hr (Zc 0) (Za (pE (zi (cC (Zc 1)) (zi Zj (zi (cC (Zc 4)) gH)))) (Za (Zc 5) Ze))) Ze)))))
   (Zl (Js (Zt T.zab Z2) (Zc 0) (Zo (Za Zj (Za (Zc 1) (Za (Fp L6 (by rfl) T.zat Of (Za (Zc 3) Ze)) Ze)))))))))
abbrev Je:WV:=J6 (top 22) 14
def Sd:Zy ["self","label","text","mark"] VC (Zk Je):=by walk_at "sc"
def Ny:ZFK Pg w K mg base n "mark_for" "Runner.mark_for" Je VC 29:=λT S F=>Yf F Sd VS VS VS λ_ _ _ _ _ _ hr=>by
  show V2 _ _ (W6 _);exact(Zi (Z3 (Qz (Z5 S.zb1 hr (by rfl) (Za (Zc 2) Ze))) (Zl (Zu (Zc 2))) Z4)
   (Zi (Zr Sd.nd (Xu (Yp S.zay Jg) hr (Zc 0) (Za (Zc 1) Ze)))
   (Zi (Yg (Xu (Yp S.zaz Jg) hr (Zc 0) (Za (Z1 (Zc 3) Zh) (Za (Zc 2) Ze))))
   (Zl (Zu (Zc 3))))))
abbrev Xq:WV:=J6 (top 22) 15
def Py:Zy ["self","label","number"] VQ (Zk Xq):=by walk_at "sc"
def Gz:ZFK Pg w K mg base n "bear" "Runner.bear" Xq VQ 30:=λT S F=>Yf F Py VS VS VS λ_ _ _ _ _ _ hr=>by
  show V2 _ _ (Uz _);exact(Zi (Zr Py.nd (Mc Qi (by rfl) T.zah QG (Za (Ji (Zt T.zai Z2) (Zc 0)) Ze)))
   (Zi (Yg (Mb XZ YB YA J1 Ua (Ji (Zt T.zai Z2) (Zc 0)) (Za (Zc 1) Ze)))
   (Zi (Yg (Xu (Yp S.zap Jg) hr (Zc 0) (Za Zj (Za (Zc 2) Ze))))
   (Zl (Zu (Zo (Za Zj (Za (Zc 2) Ze))))))))
abbrev Xl:WV:=J6 (top 22) 16
def Ps:Zy UP UP (Zk Xl):=by walk_at "sc"
def Gv:ZFK Pg w K mg base n "note" "Runner.note" Xl UP 31:=λT S F=>Yf F Ps VS VS VS λ_ _ _ _ _ _ hr=>by
  show V2 _ _ (Uv (Z9 pr n));exact(Zl (Yg (Mb XZ YB YA J1 Ua (Ji (Zt T.zas Z2) (Zc 0)) (Za (Zo (Za (Zc 1) (Za (Zc 2) (Za (Z1 (Ji (Zt T.zai Z2) (Zc 0)) (Zc 2)) (Za (Ji (Zt T.zae Z2) (Zc 0)) Ze))))) Ze))))
abbrev Xo:WV:=J6 (top 22) 17
def Pu:Zy UR UR (Zk Xo):=by walk_at "sc"
def Gx:ZFK Pg w K mg base n "keep" "Runner.keep" Xo UR 32:=λT S F=>Yf F Pu VS VS VS λ_ _ _ _ _ _ hr=>by
  show V2 _ _ (Ux (Z9 pr n));exact(Zl (px (Zc 2) (vG (Yv hr) (Ji (Zt T.zan Z2) (Zc 0)) (Zc 1))))
abbrev J8:WV:=J6 (top 22) 18
def Q1:Zy UM UM (Zk J8):=by walk_at "sc"
def Ip:ZFK Pg w K mg base n "enter" "Runner.enter" J8 UM 33:=λT S F=>Yf F Q1 VS VS VS λ_ _ _ _ _ _ hr=>by
  show V2 _ _ (V6 _);exact(Zi (Yg (Xu (Yp S.zap Jg) hr (Zc 0) (Za Zj (Za (Zc 1) Ze))))
   (Zl (Yg (Xu (Yp S.zad Jg) hr (Zc 0) (Za (pD (Yv hr) (Ji (Zt T.zan Z2) (Zc 0)) (Zc 1) (λ_ _=>rfl)) (Za (Zo (Za Zj (Za (Zc 1) Ze))) Ze))))))
abbrev Y9:WV:=J6 (top 22) 19
def Tf:Zy UM UM (Zk Y9):=by walk_at "sc"
def O4:ZFK Pg w K mg base n "come_back" "Runner.come_back" Y9 UM 34:=λT S F=>Yf F Tf VS VS VS λ_ _ _ _ _ _ hr=>by
  show V2 _ _ (Wo _);exact(Zl (Yg (Xu (Yp S.zap Jg) hr (Zc 0) (Za Zj (Za (Zc 1) Ze)))))
abbrev Wq:WV:=top 23
def La:Zy ["value","depth","pieces","mark"] VM (Zk Wq):=by walk_at "sc"
def Ae:ZFK Pg w K mg base n "pieces_of" "pieces_of" Wq VM 35:=λT S F=>Yf F La VS VS VS λ_ _ _ _ _ _ hr=>by
  have hu:=Yv hr;show V2 _ _ (Sj (Z9 pr n));exact(Zi (Z3 (Zp (Yk hu) (Z1 (Zc 0) Zh) Zj) (Zl (Zu (Xa (Za (Fp wz (by rfl) T.za0 Ea (Za (Z1 (Zc 0) Zh) Ze)) Ze)))) Z4)
   (Zi (Z3 (Zp (Yk hu) (Z1 (Zc 0) Zh) Zj) (Zl (Zu (Xa (Za Zj Ze)))) Z4)
   (Zi (Z3 (Zp (Yk hu) (Z1 (Zc 0) Zh) (Zo Ze)) (Zl (Zu (Xa (Za (Z1 (Zc 0) Zh) Ze)))) Z4)
   (Zi (Zr La.nd (Xa (Za (Zx Xr Zj (Z1 (Zc 0) Zh)) Ze)))
   (Zi (U8 PassesOwn.never VS (Vp (Z1 (Zc 0) Zh)) (Wi La.nd)
   (Zl (Yg (Mb XZ PySem.F.slot_list_extend PySem.F.type_list_extend J1 yU (Zc 2) (Za (Xa (Za Zj (Za (Zo (Za (Zc 1) (Za (Zc 3) Ze))) Ze))) Ze)))))
   (Zl (Zu (Zx Xr (Zc 2) (Xa (Za Zj Ze))))))))))
abbrev Rc:WV:=top 25
def sH:Zy US US (Zk Rc):=by walk_at "sc"
def iR (T:Txt w K mg)(S:Cs Pg w K mg base n)(F:fk K "run" "run" Rc f fd):Yx Pg w K mg base CX0 (n+1) f fd US (spW K pr (n+1) 36):=gz F sH VS VS VS λcdv A outer s H E hr=>by
  show V2 _ _ (wI _);exact(Zl (Zu (Xu (Yp S.zbr Jg) hr (cA S.zb4 hr (by rfl) (Za (Zc 0) (Za (Zc 1) Ze))) (Za (Zc 2) Ze))))
abbrev X6:WV:=top 27
def Nf:Zy ["_law_script","_law_many","_law_found","_law_k","_law_cell"] UV (Zk X6):=by walk_at "sc"
def Ez:ZFK Pg w K mg base n "_law_draws" "_law_draws" X6 UV 37:=λT S F=>Yf F Nf VS VS VS λ_ _ _ _ _ _ hr=>by
  show V2 _ _ (V5 (Z9 pr n));exact(Zi (Zr Nf.nd (Xa Ze))
   (Zi (U8 PassesOwn.never VS (vF (by rfl) T.zax (Za (Zc 1) Ze)) (Wi Nf.nd)
   (Zi (Zr Nf.nd Zh)
   (Zi (Z3 (Zp yG (Mc Qi (by rfl) T.zah QG (Za (Zc 0) Ze)) Zh) (Zl (Zr Nf.nd (Zx Yr (Z1 (Zc 0) (Zx Yr (Zc 3) (Mc Qi (by rfl) T.zah QG (Za (Zc 0) Ze)))) (Zx yE Zh Zh)))) Z4)
   (Zl (Yg (Mb XZ YB YA J1 Ua (Zc 2) (Za (Zx Xr (Zc 4) (Zx K8 Zh (Zx Xy (Zc 3) (Mc (cE VS) (by rfl) T.zb6 gQ (Za Zh (Za (Mc Qi (by rfl) T.zah QG (Za (Zc 0) Ze)) Ze)))))) Ze)))))))
   (Zl (Zu (Zc 2)))))
abbrev Ws:WV:=top 28
def Lc:Zy ["_law_draws_here","_law_pool_here","_law_signs","_law_k","_law_draw","_law_name","_law_j"] VH (Zk Ws):=by walk_at "sc"
def Ah:ZFK Pg w K mg base n "_law_pool" "_law_pool" Ws VH 38:=λT S F=>Yf F Lc VS VS VS λ_ _ _ _ _ _ hr=>by
  have nd:=Lc.nd;show V2 _ _ (Sk (Z9 pr n));exact(Zi (Zr nd (Xa Ze))
   (Zi (Zr nd Zj)
   (Zi (U8 PassesOwn.never VS (vF (by rfl) T.zax (Za Zh Ze)) (Wi nd)
   (Zi (Zr nd (Fq XZ QN QO J1 G5 (Zc 0)))
   (Zi (Zr nd (Zx Xr (Z1 Zj (Zx Yr (Zc 3) Zh)) (Z1 (Zc 2) (Zx Yr (Zc 4) Zh))))
   (Zi (U8 PassesOwn.never VS (vF (by rfl) T.zax (Za (Zx Yr (Zx Xy (Zc 4) Zh) Zh) Ze)) (Wi nd)
   (Zl (Zr nd (Zx Xr (Zc 5) (Z1 (Zc 2) (Zx Yr (Zx Xr (Zx Xy (Zc 4) Zh) (Zx K8 (Zx K8 Zh (Zc 6)) (Zc 6))) Zh))))))
   (Zi (Z3 (Ma (Ie (Zp (qi (Yv hr)) (Zc 5) (Zc 1) (by rfl)) (Ky (Zp (Yk (Yv hr)) (Zc 5) Zj)))) (Zl (Zr nd (Zx Xr Zj (Fp wz (by rfl) T.za0 Ea (Za (Zc 3) Ze))))) Z4)
   (Zl (Yg (Mb XZ YB YA J1 Ua (Zc 1) (Za (Zc 5) Ze)))))))))
   (Zl (Zu (Zc 1))))))
abbrev Y5:WV:=top 29
def U9:Zy ["_law_k","_law_nil","_law_some"] ["_law_k"] (Zk Y5):=by walk_at "sc"
def O0:ZFK Pg w K mg base n "_law_ill_matched" "_law_ill_matched" Y5 ["_law_k"] 39:=λT S F=>Yf F U9 VS VS VS λ_ _ _ _ _ _ hr=>by
  show V2 _ _ (Wk (Z9 pr n));exact(Zi (Zr U9.nd (Zo (Za Zj (Za Zj (Za (Zo Ze) Ze)))))
   (Zi (Zr U9.nd (Xa (Za (Zo (Za Zj (Za Zh Ze))) (Za (Zo (Za Zj (Za Zj (Za (Zo Ze) Ze)))) (Za (Zc 1) (Za (Zo (Za Zj (Za Zj (Za (Zo (Za Zj (Za Zj Ze))) Ze)))) Ze))))))
   (Zi (Zr U9.nd (Zx Xr (Zc 2) (Xa (Za (Zo (Za Zj (Za Zj (Za (Zo (Za (Zo (Za Zj (Za Zh Ze))) (Za (Zc 1) Ze))) Ze)))) (Za (Zo (Za Zj (Za Zj (Za (Zo (Za (Zo (Za Zj (Za Zh Ze))) (Za (Zc 1) Ze))) Ze)))) Ze)))))
   (Zl (Zu (Z1 (Zc 2) (Zc 0)))))))
abbrev Wt:WV:=top 30
def Ld:Zy ["_law_kind","_law_draw","_law_names","_law_mine","_law_nil","_law_one"] UN (Zk Wt):=by walk_at "sc"
def Ai:ZFK Pg w K mg base n "_law_leaf" "_law_leaf" Wt UN 40:=λT S F=>Yf F Ld VS VS VS λ_ _ _ _ _ _ hr=>by
  have hu:=Yv hr;show V2 _ (Zm Wt) (Sl (Z9 pr n));unfold Sl T7 T8 Ph T9 Pi Pj Pk Pl;exact(Zi (Fn (k:=3) (cN:=["_law_pair","_law_kind"]) (cap:=[none,some 0]) (cl:=(Ud _ _ [])) (js:=[0]) (g:=(Vm 0)) Ld.nd VS VS VS ⟨VS,(λok=>Ov ok VS (by decide+kernel) (by decide+kernel) VS VS VS),(Vp (Zc 2)),(λ_ _ _=>Wh (i:=0) (show(["_law_pair","_law_kind"]:List Str).Nodup by decide+kernel) VS (Or.inl VS)),Ys,Wy,Xb,by decide+kernel,λ_ _ _=>(Hj (Zp (Yk hu) (Z1 (Zc 0) Zh) (Zc 1))),λ_ _ _=>(Z1 (Zc 0) Zh),λ_=>rfl⟩)
   (Zi (Z3 (Ma (Rk (Zp yG (Mc Qi (by rfl) T.zah QG (Za (Zc 3) Ze)) Zh) (Tv (Zp yG (Zx Yr (Zc 1) Zh) Zh)))) (Zl (Zu (Zo (Za Zj (Za (Z1 (Zc 3) (Zx Yr (Zx Xy (Zc 1) Zh) (Mc Qi (by rfl) T.zah QG (Za (Zc 3) Ze)))) Ze))))) Z4)
   (Zi (Z3 (Ma (Rk (Zp (Yk hu) (Zx Yr (Zc 1) Zh) Zh) (Rk (Zp (Yk hu) (Zx Yr (Zx Xy (Zc 1) Zh) Zh) Zh) (Tv (Zp yG (Mc Qi (by rfl) T.zah QG (Za (Zc 2) Ze)) Zh))))) (Zl (Zu (Zo (Za Zj (Za (Z1 (Z1 (Zc 2) (Zx Yr (Zx Xy (Zc 1) Zh) (Mc Qi (by rfl) T.zah QG (Za (Zc 2) Ze)))) Zh) Ze))))) Z4)
   (Zi (Z3 (Zp (Yk hu) (Zx Yr (Zc 1) Zh) Zh) (Zl (Zu (Zo (Za Zj (Za (Zx Xr Zj (Fp wz (by rfl) T.za0 Ea (Za (Zx Yr (Zx Xy (Zc 1) Zh) Zh) Ze))) Ze))))) Z4)
   (Zi (Z3 (pq yF yF Zh (Zx Yr (Zc 1) Zh) Zh) (Zl (Zu (Z5 S.za8 hr (by rfl) (Za (Zx Xx (Zx Yr (Zc 1) Zh) Zh) Ze)))) Z4)
   (Zi (Z3 (Zp (Yk hu) (Zc 0) Zj) (Zl (Zu (Zo (Za Zj (Za (Z1 (Xa (Za (Zx Yr (Zx Xy (Zc 1) Zh) Zh) (Za (Zx Yr (Zx K8 (Zc 1) Zh) (Zx yE Zh Zh)) Ze))) (Zx Yr (Zx Xy (Zc 1) Zh) Zh)) Ze))))) Z4)
   (Zi (Z3 (Zp (Yk hu) (Zc 0) Zj) (Zl (Zu (Zo (Za Zj (Za (Z1 (Xa (Za Zj (Za Zj Ze))) (Zx Yr (Zx Xy (Zc 1) Zh) Zh)) (Za (Zo Ze) Ze)))))) Z4)
   (Zi (Z3 (Zp (Yk hu) (Zc 0) Zj) (Zl (Zu (Zo (Za Zj (Za Zj (Za (Zo (Za Zj (Za (Z1 Zj (Zx Yr (Zx Xy (Zc 1) Zh) Zh)) (Za (Zo (Za Zj (Za (Zx Yr (Zx Xy (Zc 1) Zh) Zh) Ze))) (Za (Zo (Za Zj (Za Zj Ze))) Ze))))) Ze)))))) Z4)
   (Zi (Zr Ld.nd (Zo (Za Zj (Za Zj (Za (Zo Ze) Ze)))))
   (Zi (Z3 (Zp (Yk hu) (Zc 0) Zj) (Zl (Zu (Zo (Za Zj (Za Zj (Za (Zo (Za (Zo (Za Zj (Za (Zx Yr (Zc 1) (Zx yE Zh Zh)) Ze))) (Za (Zc 4) Ze))) Ze)))))) Z4)
   (Zi (Zr Ld.nd (Zo (Za Zj (Za Zj (Za (Zo (Za (Zo (Za Zj (Za (Zx Yr (Zx Xy (Zc 1) Zh) Zh) Ze))) (Za (Zc 4) Ze))) Ze)))))
   (Zl (Zu (Z1 (Xa (Za (Zc 4) (Za (Zc 5) (Za (Zo (Za Zj (Za Zj (Za (Zo (Za (Zo (Za Zj (Za (Zx Yr (Zx Xy (Zc 1) Zh) Zh) Ze))) (Za (Zc 5) Ze))) Ze)))) Ze)))) (Zx Yr (Zx Xy (Zc 1) Zh) Zh)))))))))))))))
abbrev X8:WV:=top 31
def Ng:Zy UJ UJ (Zk X8):=by walk_at "sc"
def E7:ZFK Pg w K mg base n "_law_bound" "_law_bound" X8 UJ 41:=λT S F=>Yf F Ng VS VS VS λ_ _ _ _ _ _ hr=>by
  show V2 _ _ (Ti (Z9 pr n));exact(Zl (Zu (Zx Xr (Oe (cN:=["_law_pair","_law_name"]) (cap:=[none,some 1]) (cl:=(Ud _ _ [])) (js:=[0]) (g:=(Vm 0)) ⟨VS,(λok=>Ov ok VS (by decide+kernel) (by decide+kernel) VS VS VS),(Vp (Zc 0)),(λ_ _ _=>Wh (i:=0) (show(["_law_pair","_law_name"]:List Str).Nodup by decide+kernel) VS (Or.inl VS)),Ys,Wy,Xb,by decide+kernel,λ_ _ _=>(Hj (Zp (u0 (Yv hr)) (Z1 (Zc 0) Zh) (Zc 1))),λ_ _ _=>(Zc 0),λ_=>rfl⟩) (Xa (Za (Zo (Za (Zc 1) (Za (Zc 2) Ze))) Ze)))))
abbrev Va:WV:=top 32
def K6:Zy ["_law_kind","_law_draw","_law_draws_here","_law_names","_law_pool_here","_law_deep","_law_one","_law_other","_law_name"] UG (Zk Va):=by walk_at "sc"
def yA:ZFK Pg w K mg base n "_law_own" "_law_own" Va UG 42:=λT S F=>Yf F K6 VS VS VS λ_ _ _ _ _ _ hr=>by
  have nd:=K6.nd;have hu:=Yv hr;show V2 _ (Zm Va) (Qq (Z9 pr n));unfold Qq S7 S8 S9 Ra Rb;exact(Zi (Z3 (Ma (Rk (Zp (Yk hu) (Zc 0) Zj) (Tv (Zp (Yk hu) (Zx Yr (Zc 1) Zh) Zh)))) (Zi (Zr nd (Z5 S.zaa hr (by rfl) (Za Zj (Za (Zc 2) (Za (Zc 3) (Za (Zc 4) (Za (Zx Xx (Zc 5) Zh) Ze)))))))
   (Zl (Zu (Zo (Za Zj (Za (Zc 6) (Za (Z5 S.zaa hr (by rfl) (Za Zj (Za (Zc 2) (Za (Zc 3) (Za (Zc 4) (Za (Zx Xx (Zc 5) Zh) Ze)))))) Ze))))))) Z4)
   (Zi (Z3 (Zp (qi hu) (Zc 0) Zj (by rfl)) (Zi (Zr nd (Z5 S.zaa hr (by rfl) (Za Zj (Za (Zc 2) (Za (Zc 3) (Za (Zc 4) (Za (Zx Xx (Zc 5) Zh) Ze)))))))
   (Zi (Zr nd (Z5 S.zaa hr (by rfl) (Za Zj (Za (Zc 2) (Za (Zc 3) (Za (Zc 4) (Za (Zx Xx (Zc 5) Zh) Ze)))))))
   (Zi (Z3 (Zp (Yk hu) (Zc 0) Zj) (Zl (Zu (Zo (Za Zj (Za (Z1 Zj (Zx Yr (Zx Xy (Zc 1) Zh) Zh)) (Za (Zc 6) (Za (Zc 7) Ze))))))) Z4)
   (Zl (Zu (Zo (Za Zj (Za (Z1 Zj (Zx Yr (Zx Xy (Zc 1) Zh) Zh)) (Za (Zc 6) (Za (Zc 7) Ze)))))))))) Z4)
   (Zi (Z3 (Zp (Yk hu) (Zc 0) Zj) (Zi (Zr nd (Z1 (Zc 4) (Zx Yr (Zc 1) (Mc Qi (by rfl) T.zah QG (Za (Zc 4) Ze)))))
   (Zl (Zu (Zo (Za Zj (Za (Zc 8) (Za (Z5 S.zaa hr (by rfl) (Za Zj (Za (Zc 2) (Za (Z5 S.zag hr (by rfl) (Za (Zc 3) (Za (Zc 8) (Za Zj Ze)))) (Za (Zc 4) (Za (Zx Xx (Zc 5) Zh) Ze)))))) Ze))))))) Z4)
   (Zi (Z3 (Ma (Rk (Zp (Yk hu) (Zc 0) Zj) (Tv (Zp (Yk hu) (Zx Yr (Zc 1) Zh) Zh)))) (Zl (Zu (Zo (Za Zj (Za (Zo (Za Zj (Za Zj Ze))) (Za (Z5 S.zaa hr (by rfl) (Za Zj (Za (Zc 2) (Za (Zc 3) (Za (Zc 4) (Za (Zx Xx (Zc 5) Zh) Ze)))))) Ze)))))) Z4)
   (Zi (Z3 (Ma (Rk (Zp (Yk hu) (Zc 0) Zj) (Tv (Zp (Yk hu) (Zx Yr (Zc 1) Zh) Zh)))) (Zi (Zr nd (Z5 S.zaa hr (by rfl) (Za Zj (Za (Zc 2) (Za (Zc 3) (Za (Zc 4) (Za (Zx Xx (Zc 5) Zh) Ze)))))))
   (Zl (Zu (Zo (Za Zj (Za (Zo (Za Zj (Za (Zo (Za Zj (Za Zj Ze))) (Za (Zc 6) Ze)))) (Za (Z5 S.zaa hr (by rfl) (Za Zj (Za (Zc 2) (Za (Zc 3) (Za (Zc 4) (Za (Zx Xx (Zc 5) Zh) Ze)))))) Ze))))))) Z4)
   (Zi (Zr nd (Z5 S.zaa hr (by rfl) (Za Zj (Za (Zc 2) (Za (Zc 3) (Za (Zc 4) (Za (Zx Xx (Zc 5) Zh) Ze)))))))
   (Zl (Zu (Zo (Za Zj (Za (Z1 (Xa (Za Zj (Za Zj Ze))) (Fp cF (by rfl) T.zb8 gR (Za (L4 (Yk hu) (Zc 0) Zj (P9 _)) Ze))) (Za (Zo (Za (Zc 6) (Za (Z5 S.zaa hr (by rfl) (Za Zj (Za (Zc 2) (Za (Zc 3) (Za (Zc 4) (Za (Zx Xx (Zc 5) Zh) Ze)))))) Ze))) Ze))))))))))))
abbrev Xk:WV:=top 33
def Pr:Zy ["_law_kind","_law_draw","_law_draws_here","_law_names","_law_pool_here","_law_deep","_law_one","_law_no","_law_head","_law_tail","_law_inner","_law_body"] UG (Zk Xk):=by walk_at "sc"
def Gu:ZFK Pg w K mg base n "_law_choice" "_law_choice" Xk UG 43:=λT S F=>Yf F Pr VS VS VS λ_ _ _ _ _ _ hr=>by
  have nd:=Pr.nd;have hu:=Yv hr;show V2 _ (Zm Xk) (Uu (Z9 pr n));unfold Uu Rq Rs;exact(Zi (Z3 (Zp (Yk hu) (Zx Yr (Zc 1) Zh) Zh) (Zi (Zr nd (Z5 S.zaa hr (by rfl) (Za Zj (Za (Zc 2) (Za (Zc 3) (Za (Zc 4) (Za (Zx Xx (Zc 5) Zh) Ze)))))))
   (Zi (Zr nd (Z5 S.zaa hr (by rfl) (Za (Zc 0) (Za (Zc 2) (Za (Zc 3) (Za (Zc 4) (Za (Zx Xx (Zc 5) Zh) Ze)))))))
   (Zl (Zu (Zo (Za Zj (Za (Zc 6) (Za (Zo (Za (Zo (Za Zj (Za (Zo Ze) (Za (Zc 7) Ze)))) (Za (Zo (Za Zj (Za (Zo Ze) (Za (Z5 S.zaa hr (by rfl) (Za (Zc 0) (Za (Zc 2) (Za (Zc 3) (Za (Zc 4) (Za (Zx Xx (Zc 5) Zh) Ze)))))) Ze)))) Ze))) Ze)))))))) Z4)
   (Zi (Zr nd (Z1 (Zc 4) (Zx Yr (Zx Xy (Zc 1) Zh) (Mc Qi (by rfl) T.zah QG (Za (Zc 4) Ze)))))
   (Zi (Zr nd (Z1 (Oe (cN:=["_law_name","_law_head"]) (cap:=[none,some 8]) (cl:=(Ud _ _ [])) (js:=[0]) (g:=(Vm 0)) ⟨VS,(λok=>Ov ok VS (by decide+kernel) (by decide+kernel) VS VS VS),(Vp (Zc 4)),(λ_ _ _=>Wh (i:=0) (show(["_law_name","_law_head"]:List Str).Nodup by decide+kernel) VS (Or.inl VS)),Ys,Wy,Xb,by decide+kernel,λ_ _ _=>(Hj (Zp (u0 hu) (Zc 0) (Zc 1))),λ_ _ _=>(Zc 0),λ_=>rfl⟩) Zh))
   (Zi (Zr nd (Z5 S.zaa hr (by rfl) (Za (Z1 Zj (Zx Xx (Zx Yr (Zc 1) Zh) Zh)) (Za (Zc 2) (Za (Zc 3) (Za (Zc 4) (Za (Zx Xx (Zc 5) Zh) Ze)))))))
   (Zi (Zr nd (Z5 S.zag hr (by rfl) (Za (Z5 S.zag hr (by rfl) (Za (Zc 3) (Za (Zc 8) (Za Zj Ze)))) (Za (Zc 9) (Za Zj Ze)))))
   (Zi (Zr nd (Z5 S.zaa hr (by rfl) (Za (Zc 0) (Za (Zc 2) (Za (Zc 10) (Za (Zc 4) (Za (Zx Xx (Zc 5) Zh) Ze)))))))
   (Zi (Z3 (Zp (Yk hu) (Zx Yr (Zc 1) Zh) Zh) (Zl (Zu (Zo (Za Zj (Za (Zc 6) (Za (Zo (Za (Zo (Za Zj (Za (Zo (Za (Zc 8) (Za (Zc 9) Ze))) (Za (Zc 11) Ze)))) Ze)) Ze)))))) Z4)
   (Zl (Zu (Zo (Za Zj (Za (Zc 6) (Za (Zo (Za (Zo (Za Zj (Za (Zo Ze) (Za (Z5 S.za2 hr (by rfl) (Za (Zc 0) (Za (Zx Xy (Zc 1) Zh) (Za (Zc 3) Ze)))) Ze)))) (Za (Zo (Za Zj (Za (Zo (Za (Zc 8) (Za (Zc 9) Ze))) (Za (Zc 11) Ze)))) Ze))) Ze)))))))))))))
abbrev Wr:WV:=top 34
def Lb:Zy ["_law_kind","_law_draws_here","_law_names","_law_pool_here","_law_deep","_law_draw","_law_way","_law_other","_law_one","_law_name","_law_inner","_law_rest","_law_pairs"] UH (Zk Wr):=by walk_at "sc"
def Ag:ZFK Pg w K mg base n "_law_term" "_law_term" Wr UH 44:=λT S F=>Yf F Lb VS VS VS λ_ _ _ _ _ _ hr=>by
  have nd:=Lb.nd;have hu:=Yv hr;show V2 _ (Zm Wr) (U2 (Z9 pr n));unfold U2 T4 Pa Pb Pd Pe Pf T5 T6;exact(Zi (Zr nd Zh)
   (Zi (Z3 (Zp yG (Mc Qi (by rfl) T.zah QG (Za (Zc 1) Ze)) Zh) (Zl (Zr nd (Mb XZ QN QO J1 mt (Zc 1) (Za Zh Ze)))) Z4)
   (Zi (Z3 (Ma (Ie (Zp (Yk hu) (Zc 4) Zh) (Ie (Zp (Yk hu) (Mc Qi (by rfl) T.zah QG (Za (Zc 1) Ze)) Zh) (Ky (Zp (Yk hu) (Zx Yr (Zc 5) Zh) Zh))))) (Zl (Zu (Z5 S.za2 hr (by rfl) (Za (Zc 0) (Za (Zx Xy (Zc 5) Zh) (Za (Zc 2) Ze)))))) Z4)
   (Zi (Zr nd (Zx Yr (Zc 5) Zh))
   (Zi (Zr nd (Zx Xy (Zc 5) Zh))
   (Zi (Z3 (Zp yF (Zc 6) Zh) (Zl (Zu (Z5 S.zbw hr (by rfl) (Za (Zc 0) (Za (Zc 5) (Za (Zc 1) (Za (Zc 2) (Za (Zc 3) (Za (Zc 4) Ze))))))))) Z4)
   (Zi (Z3 (Zp (Yk hu) (Zc 6) Zh) (Zl (Zu (Z5 S.zbh hr (by rfl) (Za (Zc 0) (Za (Zc 5) (Za (Zc 1) (Za (Zc 2) (Za (Zc 3) (Za (Zc 4) Ze))))))))) Z4)
   (Zi (Zr nd (Z1 Zj (Zx Yr (Zc 5) Zh)))
   (Zi (Z3 (Zp (Yk hu) (Zc 6) Zh) (Zi (Zr nd (Z5 S.zaa hr (by rfl) (Za (Zc 7) (Za (Zc 1) (Za (Zc 2) (Za (Zc 3) (Za (Zx Xx (Zc 4) Zh) Ze)))))))
   (Zl (Zu (Zo (Za Zj (Za (Zc 8) (Za (Z5 S.zaa hr (by rfl) (Za (Zc 0) (Za (Zc 1) (Za (Zc 2) (Za (Zc 3) (Za (Zx Xx (Zc 4) Zh) Ze)))))) Ze))))))) Z4)
   (Zi (Zr nd (Z1 (Zc 3) (Zx Yr (Zx Xy (Zc 5) Zh) (Mc Qi (by rfl) T.zah QG (Za (Zc 3) Ze)))))
   (Zi (Zr nd (Z5 S.zag hr (by rfl) (Za (Zc 2) (Za (Zc 9) (Za (Zc 7) Ze)))))
   (Zi (Z3 (Zp (Yk hu) (Zc 6) Zh) (Zi (Zr nd (Z5 S.zaa hr (by rfl) (Za (Zc 7) (Za (Zc 1) (Za (Zc 2) (Za (Zc 3) (Za (Zx Xx (Zc 4) Zh) Ze)))))))
   (Zl (Zu (Zo (Za Zj (Za (Zo (Za Zj (Za (Zc 9) (Za (Z5 S.zaa hr (by rfl) (Za (Zc 0) (Za (Zc 1) (Za (Zc 10) (Za (Zc 3) (Za (Zx Xx (Zc 4) Zh) Ze)))))) Ze)))) (Za (Zc 8) Ze))))))) Z4)
   (Zi (Fn (k:=11) (cN:=["_law_one","_law_name"]) (cap:=[none,some 9]) (cl:=(Ud _ _ [])) (js:=[0]) (g:=(Vm 0)) nd VS VS VS ⟨VS,(λok=>Ov ok VS (by decide+kernel) (by decide+kernel) VS VS VS),(Vp (Zc 3)),(λ_ _ _=>Wh (i:=0) (show(["_law_one","_law_name"]:List Str).Nodup by decide+kernel) VS (Or.inl VS)),Ys,Wy,Xb,by decide+kernel,λ_ _ _=>(Hj (Zp (u0 hu) (Zc 0) (Zc 1))),λ_ _ _=>(Zc 0),λ_=>rfl⟩)
   (Zi (Zr nd (Z5 S.zag hr (by rfl) (Za (Zc 10) (Za (Z1 (Zc 11) Zh) (Za Zj Ze)))))
   (Zi (Z3 (Zp (Yk hu) (Zx Yr (Zx Xy (Zc 5) Zh) Zh) Zh) (Zl (Zr nd (Z5 S.zag hr (by rfl) (Za (Zc 10) (Za (Z1 (Zc 11) Zh) (Za Zj Ze)))))) Z4)
   (Zi (Zr nd (Xa (Za (Zo (Za (Zc 9) (Za (Z5 S.zaa hr (by rfl) (Za (Zc 7) (Za (Zc 1) (Za (Zc 10) (Za (Zc 3) (Za (Zx Xx (Zc 4) Zh) Ze)))))) Ze))) Ze)))
   (Zi (Yg (Mb XZ PySem.F.slot_list_insert PySem.F.type_list_insert J1 yT (Zc 12) (Za (Zx Yr (Zx Xy (Zc 5) Zh) Zh) (Za (Zo (Za (Z1 (Zc 11) Zh) (Za (Z5 S.zaa hr (by rfl) (Za Zj (Za (Zc 1) (Za (Zc 10) (Za (Zc 3) (Za (Zx Xx (Zc 4) Zh) Ze)))))) Ze))) Ze))))
   (Zi (Z3 (Zp (Yk hu) (Zx Yr (Zx Xy (Zc 5) Zh) Zh) Zh) (Zl (Yg (Mb XZ PySem.F.slot_list_insert PySem.F.type_list_insert J1 yT (Zc 12) (Za (Zx Yr (Zx Xy (Zc 5) Zh) Zh) (Za (Zo (Za (Z1 (Zc 11) Zh) (Za (Z5 S.zaa hr (by rfl) (Za Zj (Za (Zc 1) (Za (Zc 10) (Za (Zc 3) (Za (Zx Xx (Zc 4) Zh) Ze)))))) Ze))) Ze))))) Z4)
   (Zl (Zu (Zo (Za Zj (Za (Fp L6 (by rfl) T.zat Of (Za (Zc 12) Ze)) (Za (Z5 S.zaa hr (by rfl) (Za (Zc 0) (Za (Zc 1) (Za (Zc 10) (Za (Zc 3) (Za (Zx Xx (Zc 4) Zh) Ze)))))) Ze))))))))))))))))))))))))
abbrev Wu:WV:=top 35
def Le:Zy ["_law_go","_law_cell","_law_picks"] [] (Zk Wu):=by walk_at "sc"
def Aj:ZFK Pg w K mg base n "_law_each" "_law_each" Wu [] 45:=λT S F=>Yf F Le VS VS VS λ_ _ _ _ _ _ hr=>by
  show V2 _ _ (Sm (Z9 pr n));exact(Zi (Zr Le.nd (Zo (Za Zj (Za (Zo (Za Zj (Za (Zo (Za Zj (Za Zj Ze))) (Za (Zo (Za Zj (Za Zj Ze))) Ze)))) (Za (Zo (Za Zj (Za Zj Ze))) Ze)))))
   (Zi (Zr Le.nd (Zo (Za Zj (Za Zj (Za (Zo (Za (Zo (Za Zj (Za (Zo (Za Zj (Za Zj Ze))) (Za (Zo (Za Zj (Za Zj Ze))) Ze)))) (Za (Zc 0) Ze))) Ze)))))
   (Zi (Zr Le.nd (Zo (Za (Zo (Za Zj (Za (Zo Ze) (Za (Zo (Za Zj (Za Zj (Za (Zo Ze) Ze)))) Ze)))) (Za (Zo (Za Zj (Za (Zo (Za Zj (Za Zj Ze))) (Za (Zc 1) Ze)))) Ze))))
   (Zl (Zu (Zo (Za Zj (Za Zj (Za (Zo (Za Zj (Za Zj (Za (Zo (Za Zj (Za (Zo (Za Zj (Za Zj Ze))) (Za (Zc 2) Ze)))) Ze)))) Ze)))))))))
abbrev Xj:WV:=top 36
def Pp:Zy ["_law_kind","_law_draws_here","_law_pool_here","_law_deep","_law_number_name","_law_list_name","_law_here","_law_more","_law_start","_law_one","_law_other","_law_pairs"] UI (Zk Xj):=by walk_at "sc"
def Gs:ZFK Pg w K mg base n "_law_closed" "_law_closed" Xj UI 46:=λT S F=>Yf F Pp VS VS VS λ_ _ _ _ _ _ hr=>by
  have nd:=Pp.nd;show V2 _ _ (Ut _);exact(Zi (Zr nd (Zx Xr (Zx Xr Zj (zo (Z1 (Zc 2) Zh) (Vu Zh) (Vu Zh))) Zj))
   (Zi (Zr nd (Zx Xr (Zx Xr Zj (zo (Z1 (Zc 2) Zh) (Vu Zh) (Vu Zh))) Zj))
   (Zi (Zr nd (Xa (Za (Zo (Za (Zc 4) (Za Zj Ze))) (Za (Zo (Za (Zc 5) (Za Zj Ze))) Ze))))
   (Zi (Zr nd (Zo (Za Zj (Za (Zo (Za Zj (Za Zj Ze))) (Za (Zo (Za Zj (Za Zj (Za (Zo (Za Zj (Za Zj Ze))) (Za (Zo (Za Zj (Za Zh Ze))) Ze))))) Ze)))))
   (Zi (Zr nd (Zo (Za Zj (Za Zj (Za (Zo (Za Zj (Za Zj (Za (Zo (Za (Zo (Za Zj (Za Zj Ze))) (Za (Zc 7) Ze))) Ze)))) Ze)))))
   (Zi (Zr nd (Z5 S.zaa hr (by rfl) (Za Zj (Za (zo (Zc 1) Os (Vu Zh)) (Za (Zc 6) (Za (Zc 2) (Za Zh Ze)))))))
   (Zi (Zr nd (Z5 S.zaa hr (by rfl) (Za Zj (Za (zo (Zc 1) (Vu Zh) (Vu Zh)) (Za (Zc 6) (Za (Zc 2) (Za Zh Ze)))))))
   (Zi (Zr nd (Zo (Za (Zo (Za Zj (Za (Zc 8) Ze))) (Za (Zo (Za (Zc 4) (Za (Zc 9) Ze))) (Za (Zo (Za Zj (Za (mX S.zbu hr (by rfl)) Ze))) (Za (Zo (Za (Zc 5) (Za (Zc 10) Ze))) Ze))))))
   (Zl (Zu (Zo (Za Zj (Za (Zc 11) (Za (Z5 S.zaa hr (by rfl) (Za (Zc 0) (Za (zo (Zc 1) (Vu Zh) Os) (Za (Zc 6) (Za (Zc 2) (Za (Zc 3) Ze)))))) Ze))))))))))))))
abbrev Vb:WV:=top 37
def K7:Zy ["_law_text","_law_most","_law_words","_law_found","_law_within","_law_word","_law_level"] UW (Zk Vb):=by walk_at "sc"
def yB (T:Txt w K mg)(S:Cs Pg w K mg base n)(F:V1 K "_law_cut" "_law_cut" Vb f fd):L8 Pg w K mg base (n+1) f fd UW (spW K pr (n+1) 47):=g9 F K7 VS VS VS λcdv A outer s H E hr=>by
  have nd:=K7.nd;have hu:=Yv hr;show tj _ _ (Qr (Z9 pr n));exact(J9 (mM nd (cD SV PySem.F.slot_str_split PySem.F.type_str_split tV mr (Fu (Fu (X0.one (Zc 0)) (by decide+kernel) (by decide+kernel)) (by decide+kernel) (by decide+kernel)) (Za Zj Ze)))
   (J9 (Mj.one (Zr nd Zj))
   (J9 (Mj.one (Zr nd Zh))
   (J9 (Mj.one (U8 PassesOwn.never VS (Vp (Zc 2)) (Wi nd)
   (Zi (Z3 (Zp (Yk hu) (Zc 5) Zj) (Zi (Zr nd (Zx Xx (Zc 4) Zh))
   (Zi (Z3 (Zp yF (Zc 4) (Zc 1)) (Zl (Zr nd (Zx Xr (Zc 3) Zj))) Z4)
   (Zl vB))) Z4)
   (Zi (Zr nd (Zc 4))
   (Zi (Z3 (Zp (Yk hu) (Zc 5) Zj) (Zl (Zr nd (Zx Xr (Zc 4) Zh))) (Zl (Z3 (Ma (Rk (Zp yG (Zc 4) Zh) (Tv (Zp (qi hu) (Zc 5) (Xa (Za Zj (Za Zj Ze))) (by rfl))))) (Zi (Zr nd (Zx Xx (Zc 4) Zh))
   (Zi (Z3 (Zp yF (Zc 6) (Zc 1)) (Zl (Zr nd (Zx Xr (Zc 3) (Zc 5)))) Z4)
   (Zl vB))) Z4)))
   (Zi (Z3 (Ma (Rk (Zp yG (Zc 6) Zh) (Tv (Zp dP (Zc 6) (Zc 1))))) (Zl (Zr nd (Zx Xr (Zc 3) Zj))) Z4)
   (Zl (Z3 (Zp (Yk hu) (Zc 6) (Zc 1)) (Zl (Zr nd (Zx Xr (Zc 3) Zj))) (Zl (Z3 (Zp yF (Zc 6) (Zc 1)) (Zl (Zr nd (Zx Xr (Zc 3) (Zc 5)))) Z4))))))))))
   (vH (Mj.one (Zu (Zc 3))))))))
abbrev Re:WV:=top 38
def sJ:Zy ["_law_script","_law_draws_here","_law_pool_here","_law_deep","_law_less","_law_kind","_law_around","_law_term_here","_law_k","_law_one","_law_whole","_law_part"] VI (Zk Re):=by walk_at "sc"
def qf:ZFK Pg w K mg base n "law" "law" Re VI 48:=λT S F=>Yf F sJ VS VS VS λ_ _ _ _ _ _ hr=>by
  have nd:=sJ.nd;have hu:=Yv hr;show V2 _ (Zm Re) (w_law (Z9 pr n));unfold w_law w_law_t4 w_law_t3 w_law_t2 w_law_t1;exact(pA (pv (j:=1) S.zbq hr (by rfl) (pC (Zc 0) (mR Ze)) nd)
   (J9 (Mj.one (Zr nd (Z5 S.zbt hr (by rfl) (Za (Zc 1) Ze))))
   (J9 (Mj.one (Zr nd (Zx Yr (Fq XZ QN QO J1 G5 (Zc 1)) Zh)))
   (J9 (Mj.one (Zr nd (Zx Yr (Fq XZ QN QO J1 G5 (Zc 1)) (Zx Xr (Zc 3) Zh))))
   (J9 (Mj.one (Zr nd (Z1 Zj (Zx Yr (Fq XZ QN QO J1 G5 (Zc 1)) Zh))))
   (J9 (Mj.one (Zr nd (Fq XZ QN QO J1 G5 (Zc 1))))
   (J9 (Mj.one (Zr nd (Z5 S.zbi hr (by rfl) (Za (Zc 5) (Za (Zc 1) (Za (Zc 2) (Za Zh Ze)))))))
   (J9 (Mj.one (U8 PassesOwn.never VS (vF (by rfl) T.zax (Za (Zx Yr (Zc 6) Zh) Ze)) (Wi nd)
   (Zi (Zr nd (Zo (Za Zj (Za (Zx Yr (Zx K8 (Zx Xy (Zc 6) (Zx Xr Zh (Zc 8))) Zh) (Zx yE Zh Zh)) Ze))))
   (Zl (Z3 (Zp (Yk hu) (Zx Yr (Zx Xy (Zc 6) (Zx Xr Zh (Zx K8 Zh (Zc 8)))) Zh) Zh) (Zl (Zr nd (Zo (Za Zj (Za Zj (Za (Zo (Za (Zc 7) (Za (Zc 9) Ze))) Ze)))))) (Zl (Z3 (Zp (Yk hu) (Zx Yr (Zx Xy (Zc 6) (Zx Xr Zh (Zx K8 Zh (Zc 8)))) Zh) Zh) (Zl (Zr nd (Zo (Za Zj (Za Zj (Za (Zo (Za (Zo (Za Zj (Za Zj (Za (Zo (Za (Zc 9) (Za (Zo (Za Zj (Za Zj (Za (Zo Ze) Ze)))) Ze))) Ze)))) (Za (Zc 7) Ze))) Ze)))))) (Zl (Zr nd (Zo (Za Zj (Za Zj (Za (Zo (Za (Zc 9) (Za (Zc 7) Ze))) Ze)))))))))))))
   (J9 (Mj.one (Zr nd (vI 2 S.c_run hr (by rfl) (Za (Zc 7) (Za (Zc 3) (Za Zh Ze))))))
   (J9 (Mj.one (Z3 (Zp (u0 hu) (Z1 (Zc 10) Zh) Zj) (Zl (Zu uS)) Z4))
   (J9 (Mj.one (Zr nd (vI 2 S.c_run hr (by rfl) (Za (Zc 7) (Za (Zc 4) (Za Zh Ze))))))
   (J9 (Mj.one (Z3 (Ma (Ie (Zp (u0 hu) (Z1 (Zc 11) Zh) Zj) (Ie (Zp yG (Z1 (Z1 (Zc 11) Zh) Zh) (Z1 (Z1 (Zc 10) Zh) Zh)) (Ky (wn (Qz (kl (by rfl) T.za1 (by rfl) T.za0 Ea (by decide) (Z1 (Zc 11) Zh)))))))) (Zl (Zu uS)) Z4))
   (J9 (Mj.one (Z3 (Ma (Rk (Zp (Yk hu) (Zc 4) Zh) (Tv (Zp (dO hu) (Z1 (Zc 11) Zh) (Zo (Za Zh (Za Zh (Za Zh Ze)))))))) (Zl (Zu uS)) Z4))
   (vH (mN (mY (Yk hu) (X0.one (Z1 (Zc 11) Zh)) (mZ S.c__law_cut hr (by rfl) (Dn.one (Za (Z1 (Zc 10) Zh) (Za (Zc 4) Ze)))) (P9 _)))))))))))))))))
end
def Zbm {C:List WQ->Prop}(h:C []):∀us:List WQ,us.length=0->C us
 | [],_=>h
def uY {C:List WQ->Prop}(h:∀a,C [a]):∀us:List WQ,us.length=1->C us
 | [a],_=>h a
def z0 {C:List WQ->Prop}(h:∀a b,C [a,b]):∀us:List WQ,us.length=2->C us
 | [a,b],_=>h a b
def pM {C:List WQ->Prop}(h:∀a b c,C [a,b,c]):∀us:List WQ,us.length=3->C us
 | [a,b,c],_=>h a b c
def Zbl {C:List WQ->Prop}(h:∀a b c d,C [a,b,c,d]):∀us:List WQ,us.length=4->C us
 | [a,b,c,d],_=>h a b c d
def Zbk {C:List WQ->Prop}(h:∀a b c d e,C [a,b,c,d,e]):∀us:List WQ,us.length=5->C us
 | [a,b,c,d,e],_=>h a b c d e
def Zam {C:List WQ->Prop}(h:∀a b c d e f,C [a,b,c,d,e,f]):∀us:List WQ,us.length=6->C us
 | [a,b,c,d,e,f],_=>h a b c d e f
def all_mk {l:W.OpenLaw}{w:WN}{K:WY}{fa f0 f1 f2 f3 f4 f5 f6 f7 f8 f9 D4 D5 D7 D9 DA CJ CK CL CM CO CP CQ CT CU CV CW CY CZ Da Db Dc Dd De Dg Dh DB Dj DC DE DF DG DH DI DJ DK DL DM DN DO Aa:WP}(X:K.In h)(G:h.Ns mainGlobals mg)(hfa:mg "law"=some (.ref fa))
  {Mb Mc Md Me Mf Mg Mh Mi Mj Ml Mm Mo Mp Mq Mr Mt Mu Mv Mw Mx DP DQ DR DS DT DU DV DW DX DY DZ Ea Eb Ec Ed Ee Ef Eg Ei Ej Ek El Em Eo Ep Er Es Et E9 EA EB EC ED EE EF EG EH EI EJ EK EL EM EN EO EQ ER ES ET EU EV EW EX EY Be EZ Fa Fb Fc Fd Fe Ff Fg Fh Fi Fj Fk Fl Fn Fo Fp Fq Ft Fu Fv Fw Fx Fy Bf:Option WP} {Mz MA MB MC MD ME MF MG MH MI Fz FA FB FC FD FE FF FG FH FI FJ FK FL FM FN FO FP FQ FR FS FT FU FV FW FX FY FZ Ga Gb Gc Ge Gf Gg Gh Gi Gj Gk Gm Gn:Array (Option WQ)} {MJ MK ML MM Kz MN MO MP MQ MR K0 MS MU MV MW MX K1 MY MZ Na Nb Nc K2 Nd Nf Ng Nh Ni K3 Nj Nk Nl Nm Nn K4 No Np Nq Nr Nt K5 Nu Nw Nx N0 N1 K6 N3 N4 N5 N6 N7 K7 N8 N9 NA NB NC K8 ND Go Gp Gq G0 Bg G1 G2 G3 G4 G5 Bh G6 G7 G8 G9 GA Bi GB GC GD GE GF Bj GG GH GI GJ GK Bl GL GM GN GO GP Bm GQ GR GS GT GU Bn GV GW GX GY GZ Bo Ha Hb Hc He Hf Bp Hg Hh Hi Hj Hk Bq Hl Hm Hn Ho Hq Br Hr Hs Ht Hu Hv Bs Hx Hy Hz HA HB Bt HC HD HE HF HG Bu HH HI HJ HK HL Bv HM HN HP HQ HR Bw HS HU HV HW HX Bx HY HZ Ia Ib Ic By Id Ie Ig Ih Ii Bz Ij Ik Il Im Io BA Iq Ir Iu Iv Iw BB Ix Iy Iz I0 IA BC IB IC ID IE IF BD IG IH II IJ IK BE IL IM IN IO IP BF IQ IR IS IT IU BG IV IW BH BI BJ AZ BK IX IY IZ Ja BL Jb Jc Jd Jg Jh BM Ji Jk Jl Jq Jr BN Js Jt Ju Jw Jy BO Jz J0 J1 J2 J3 BP J4 J5 J6 J7 J9 BQ JA JB JC JD JE BR JF JG JH JI JJ BS JK JL JM JN JO BT JP JQ JR JS JT BU JU JV JW JX JY BV JZ Ka BW BX BY Ba BZ:WQ}
  (Ac:W.nsIn K mainGlobals "Runner"=some (some (.ref Aa)))
  (Af:W.plainGet K Aa Str.empty=true) (Am:W.hasDictIn K Aa=true) (An:W.plainOver K Aa=true) (Ao:W.findIn K (.ref Aa) "__setattr__"=some (some (.builtin "object.__setattr__"))) (AN:W.keepIn K (.ref Aa)=true)
  (AO:W.makesIn K Aa=true)
  (AG:W.findIn K (.ref Aa) "cells"=some none)
  (AB:W.findIn K (.ref Aa) "ending"=some none)
  (AC:W.findIn K (.ref Aa) "firsts"=some none)
  (AJ:W.findIn K (.ref Aa) "hand"=some none)
  (AD:W.findIn K (.ref Aa) "labels"=some none)
  (AM:W.findIn K (.ref Aa) "log"=some none)
  (AK:W.findIn K (.ref Aa) "pile"=some none)
  (AH:W.findIn K (.ref Aa) "steps"=some none)
  (AI:W.findIn K (.ref Aa) "still"=some none)
  (AE:W.findIn K (.ref Aa) "things"=some none)
  (AL:W.findIn K (.ref Aa) "told"=some none)
  (AF:W.findIn K (.ref Aa) "wanted"=some none)
  (Ap:W.findIn K (.ref Aa) "__init__"=some (some (.ref CJ)))
  (A9:W.findIn K (.ref Aa) "go"=some (some (.ref CK)))
  (Ay:W.findIn K (.ref Aa) "advance"=some (some (.ref CL)))
  (Az:W.findIn K (.ref Aa) "outcome"=some (some (.ref CM)))
  (A1:W.findIn K (.ref Aa) "settle"=some (some (.ref CO)))
  (At:W.findIn K (.ref Aa) "tell_next"=some (some (.ref CP)))
  (Aq:W.findIn K (.ref Aa) "tell_value"=some (some (.ref CQ)))
  (Au:W.findIn K (.ref Aa) "take_step"=some (some (.ref CT)))
  (Ar:W.findIn K (.ref Aa) "take_apart"=some (some (.ref CU)))
  (Av:W.findIn K (.ref Aa) "use_value"=some (some (.ref CV)))
  (A0:W.findIn K (.ref Aa) "go_into"=some (some (.ref CW)))
  (As:W.findIn K (.ref Aa) "take_frame"=some (some (.ref CY)))
  (A3:W.findIn K (.ref Aa) "bind"=some (some (.ref CZ)))
  (A4:W.findIn K (.ref Aa) "make"=some (some (.ref Da)))
  (Ax:W.findIn K (.ref Aa) "mark_for"=some (some (.ref Db)))
  (A5:W.findIn K (.ref Aa) "bear"=some (some (.ref Dc)))
  (A6:W.findIn K (.ref Aa) "note"=some (some (.ref Dd)))
  (A7:W.findIn K (.ref Aa) "keep"=some (some (.ref De)))
  (A2:W.findIn K (.ref Aa) "enter"=some (some (.ref Dg)))
  (Aw:W.findIn K (.ref Aa) "come_back"=some (some (.ref Dh)))
  (a0:W.nsIn K mainGlobals "with_parts"=some (some (.ref f0)))
  (l0:K.lookup f0=some ⟨MJ,Mb,.func (W.fnOf "with_parts" "with_parts" (Zz X2) (Zm X2) (Zk X2) .none MK ML MM Mc Kz MN),Mz⟩) (c0:W.codeIn K Kz "with_parts"=true) (k0:W.keepIn K (.ref f0)=true)
  (a1:W.nsIn K mainGlobals "with_lasts"=some (some (.ref f1)))
  (l1:K.lookup f1=some ⟨MO,Md,.func (W.fnOf "with_lasts" "with_lasts" (Zz X3) (Zm X3) (Zk X3) .none MP MQ MR Me K0 MS),MA⟩) (c1:W.codeIn K K0 "with_lasts"=true) (k1:W.keepIn K (.ref f1)=true)
  (a2:W.nsIn K mainGlobals "scopes"=some (some (.ref f2)))
  (l2:K.lookup f2=some ⟨MU,Mf,.func (W.fnOf "scopes" "scopes" (Zz Uk) (Zm Uk) (Zk Uk) .none MV MW MX Mg K1 MY),MB⟩) (c2:W.codeIn K K1 "scopes"=true) (k2:W.keepIn K (.ref f2)=true)
  (a3:W.nsIn K mainGlobals "let_scopes"=some (some (.ref f3)))
  (l3:K.lookup f3=some ⟨MZ,Mh,.func (W.fnOf "let_scopes" "let_scopes" (Zz X4) (Zm X4) (Zk X4) .none Na Nb Nc Mi K2 Nd),MC⟩) (c3:W.codeIn K K2 "let_scopes"=true) (k3:W.keepIn K (.ref f3)=true)
  (a4:W.nsIn K mainGlobals "rows_scopes"=some (some (.ref f4)))
  (l4:K.lookup f4=some ⟨Nf,Mj,.func (W.fnOf "rows_scopes" "rows_scopes" (Zz Xi) (Zm Xi) (Zk Xi) .none Ng Nh Ni Ml K3 Nj),MD⟩) (c4:W.codeIn K K3 "rows_scopes"=true) (k4:W.keepIn K (.ref f4)=true)
  (a5:W.nsIn K mainGlobals "put"=some (some (.ref f5)))
  (l5:K.lookup f5=some ⟨Nk,Mm,.func (W.fnOf "put" "put" (Zz Nv) (Zm Nv) (Zk Nv) .none Nl Nm Nn Mo K4 No),ME⟩) (c5:W.codeIn K K4 "put"=true) (k5:W.keepIn K (.ref f5)=true)
  (a6:W.nsIn K mainGlobals "changed"=some (some (.ref f6)))
  (l6:K.lookup f6=some ⟨Np,Mp,.func (W.fnOf "changed" "changed" (Zz Vx) (Zm Vx) (Zk Vx) .none Nq Nr Nt Mq K5 Nu),MF⟩) (c6:W.codeIn K K5 "changed"=true) (k6:W.keepIn K (.ref f6)=true)
  (a7:W.nsIn K mainGlobals "without"=some (some (.ref f7)))
  (l7:K.lookup f7=some ⟨Nw,Mr,.func (W.fnOf "without" "without" (Zz Vv) (Zm Vv) (Zk Vv) .none Nx N0 N1 Mt K6 N3),MG⟩) (c7:W.codeIn K K6 "without"=true) (k7:W.keepIn K (.ref f7)=true)
  (a8:W.nsIn K mainGlobals "is_mark"=some (some (.ref f8)))
  (l8:K.lookup f8=some ⟨N4,Mu,.func (W.fnOf "is_mark" "is_mark" (Zz Vw) (Zm Vw) (Zk Vw) .none N5 N6 N7 Mv K7 N8),MH⟩) (c8:W.codeIn K K7 "is_mark"=true) (k8:W.keepIn K (.ref f8)=true)
  (a9:W.nsIn K mainGlobals "is_value"=some (some (.ref f9)))
  (l9:K.lookup f9=some ⟨N9,Mw,.func (W.fnOf "is_value" "is_value" (Zz W9) (Zm W9) (Zk W9) .none NA NB NC Mx K8 ND),MI⟩) (c9:W.codeIn K K8 "is_value"=true) (k9:W.keepIn K (.ref f9)=true)
  (NE:W.nsIn K mainGlobals "reckoned"=some (some (.ref D4)))
  (NF:K.lookup D4=some ⟨Go,DP,.func (W.fnOf "reckoned" "reckoned" (Zz W8) (Zm W8) (Zk W8) .none Gp Gq G0 DQ Bg G1),Fz⟩) (NG:W.codeIn K Bg "reckoned"=true) (NH:W.keepIn K (.ref D4)=true)
  (NI:W.nsIn K mainGlobals "truth"=some (some (.ref D5)))
  (NJ:K.lookup D5=some ⟨G2,DR,.func (W.fnOf "truth" "truth" (Zz Sa) (Zm Sa) (Zk Sa) .none G3 G4 G5 DS Bh G6),FA⟩) (NK:W.codeIn K Bh "truth"=true) (NL:W.keepIn K (.ref D5)=true)
  (NM:W.nsIn K mainGlobals "picked"=some (some (.ref D7)))
  (NN:K.lookup D7=some ⟨G7,DT,.func (W.fnOf "picked" "picked" (Zz Ul) (Zm Ul) (Zk Ul) .none G8 G9 GA DU Bi GB),FB⟩) (NO:W.codeIn K Bi "picked"=true) (NP:W.keepIn K (.ref D7)=true)
  (NQ:W.nsIn K mainGlobals "alternative_of"=some (some (.ref D9)))
  (NR:K.lookup D9=some ⟨GC,DV,.func (W.fnOf "alternative_of" "alternative_of" (Zz Jm) (Zm Jm) (Zk Jm) .none GD GE GF DW Bj GG),FC⟩) (NS:W.codeIn K Bj "alternative_of"=true) (NT:W.keepIn K (.ref D9)=true)
  (NU:W.nsIn K mainGlobals "fits"=some (some (.ref DA)))
  (NV:K.lookup DA=some ⟨GH,DX,.func (W.fnOf "fits" "fits" (Zz Qs) (Zm Qs) (Zk Qs) .none GI GJ GK DY Bl GL),FD⟩) (NW:W.codeIn K Bl "fits"=true) (NX:W.keepIn K (.ref DA)=true)
  (Bb:W.isFn K (.ref CJ)=true)
  (NY:K.lookup CJ=some ⟨GM,DZ,.func (W.fnOf "__init__" "Runner.__init__" (Zz Jf) (Zm Jf) (Zk Jf) .none GN GO GP Ea Bm GQ),FE⟩) (NZ:W.codeIn K Bm "Runner.__init__"=true) (Kb:W.keepIn K (.ref CJ)=true)
  (Cd:W.isFn K (.ref CK)=true)
  (Oa:K.lookup CK=some ⟨GR,Eb,.func (W.fnOf "go" "Runner.go" (Zz Wv) (Zm Wv) (Zk Wv) .none GS GT GU Ec Bn GV),FF⟩) (Ob:W.codeIn K Bn "Runner.go"=true) (Kc:W.keepIn K (.ref CK)=true)
  (Ce:W.isFn K (.ref CL)=true)
  (Oc:K.lookup CL=some ⟨GW,Ed,.func (W.fnOf "advance" "Runner.advance" (Zz Jp) (Zm Jp) (Zk Jp) .none GX GY GZ Ee Bo Ha),FG⟩) (Od:W.codeIn K Bo "Runner.advance"=true) (Kd:W.keepIn K (.ref CL)=true)
  (Cf:W.isFn K (.ref CM)=true)
  (Oe:K.lookup CM=some ⟨Hb,Ef,.func (W.fnOf "outcome" "Runner.outcome" (Zz Jn) (Zm Jn) (Zk Jn) .none Hc He Hf Eg Bp Hg),FH⟩) (Of:W.codeIn K Bp "Runner.outcome"=true) (Ke:W.keepIn K (.ref CM)=true)
  (Cg:W.isFn K (.ref CO)=true)
  (Og:K.lookup CO=some ⟨Hh,Ei,.func (W.fnOf "settle" "Runner.settle" (Zz Jx) (Zm Jx) (Zk Jx) .none Hi Hj Hk Ej Bq Hl),FI⟩) (Oh:W.codeIn K Bq "Runner.settle"=true) (Kf:W.keepIn K (.ref CO)=true)
  (Ch:W.isFn K (.ref CP)=true)
  (Oi:K.lookup CP=some ⟨Hm,Ek,.func (W.fnOf "tell_next" "Runner.tell_next" (Zz Y7) (Zm Y7) (Zk Y7) .none Hn Ho Hq El Br Hr),FJ⟩) (Oj:W.codeIn K Br "Runner.tell_next"=true) (Kg:W.keepIn K (.ref CP)=true)
  (Ci:W.isFn K (.ref CQ)=true)
  (Ol:K.lookup CQ=some ⟨Hs,Em,.func (W.fnOf "tell_value" "Runner.tell_value" (Zz Yz) (Zm Yz) (Zk Yz) .none Ht Hu Hv Eo Bs Hx),FK⟩) (Om:W.codeIn K Bs "Runner.tell_value"=true) (Kh:W.keepIn K (.ref CQ)=true)
  (Cj:W.isFn K (.ref CT)=true)
  (On:K.lookup CT=some ⟨Hy,Ep,.func (W.fnOf "take_step" "Runner.take_step" (Zz Y8) (Zm Y8) (Zk Y8) .none Hz HA HB Er Bt HC),FL⟩) (Oo:W.codeIn K Bt "Runner.take_step"=true) (Ki:W.keepIn K (.ref CT)=true)
  (Ck:W.isFn K (.ref CU)=true)
  (Op:K.lookup CU=some ⟨HD,Es,.func (W.fnOf "take_apart" "Runner.take_apart" (Zz Y1) (Zm Y1) (Zk Y1) .none HE HF HG Et Bu HH),FM⟩) (Oq:W.codeIn K Bu "Runner.take_apart"=true) (Kj:W.keepIn K (.ref CU)=true)
  (Co:W.isFn K (.ref CV)=true)
  (Os:K.lookup CV=some ⟨HI,E9,.func (W.fnOf "use_value" "Runner.use_value" (Zz Y6) (Zm Y6) (Zk Y6) .none HJ HK HL EA Bv HM),FN⟩) (Ot:W.codeIn K Bv "Runner.use_value"=true) (Kk:W.keepIn K (.ref CV)=true)
  (Cp:W.isFn K (.ref CW)=true)
  (Ou:K.lookup CW=some ⟨HN,EB,.func (W.fnOf "go_into" "Runner.go_into" (Zz Jo) (Zm Jo) (Zk Jo) .none HP HQ HR EC Bw HS),FO⟩) (Ov:W.codeIn K Bw "Runner.go_into"=true) (Kn:W.keepIn K (.ref CW)=true)
  (Cq:W.isFn K (.ref CY)=true)
  (Ow:K.lookup CY=some ⟨HU,ED,.func (W.fnOf "take_frame" "Runner.take_frame" (Zz Y0) (Zm Y0) (Zk Y0) .none HV HW HX EE Bx HY),FP⟩) (Ox:W.codeIn K Bx "Runner.take_frame"=true) (Ko:W.keepIn K (.ref CY)=true)
  (Cr:W.isFn K (.ref CZ)=true)
  (Oy:K.lookup CZ=some ⟨HZ,EF,.func (W.fnOf "bind" "Runner.bind" (Zz Xp) (Zm Xp) (Zk Xp) .none Ia Ib Ic EG By Id),FQ⟩) (Oz:W.codeIn K By "Runner.bind"=true) (Kq:W.keepIn K (.ref CZ)=true)
  (Ct:W.isFn K (.ref Da)=true)
  (O5:K.lookup Da=some ⟨Ie,EH,.func (W.fnOf "make" "Runner.make" (Zz Xm) (Zm Xm) (Zk Xm) .none Ig Ih Ii EI Bz Ij),FR⟩) (O6:W.codeIn K Bz "Runner.make"=true) (Kr:W.keepIn K (.ref Da)=true)
  (Cu:W.isFn K (.ref Db)=true)
  (O7:K.lookup Db=some ⟨Ik,EJ,.func (W.fnOf "mark_for" "Runner.mark_for" (Zz Je) (Zm Je) (Zk Je) .none Il Im Io EK BA Iq),FS⟩) (O8:W.codeIn K BA "Runner.mark_for"=true) (Ks:W.keepIn K (.ref Db)=true)
  (Cv:W.isFn K (.ref Dc)=true)
  (O9:K.lookup Dc=some ⟨Ir,EL,.func (W.fnOf "bear" "Runner.bear" (Zz Xq) (Zm Xq) (Zk Xq) .none Iu Iv Iw EM BB Ix),FT⟩) (OA:W.codeIn K BB "Runner.bear"=true) (Kt:W.keepIn K (.ref Dc)=true)
  (Cw:W.isFn K (.ref Dd)=true)
  (OB:K.lookup Dd=some ⟨Iy,EN,.func (W.fnOf "note" "Runner.note" (Zz Xl) (Zm Xl) (Zk Xl) .none Iz I0 IA EO BC IB),FU⟩) (OC:W.codeIn K BC "Runner.note"=true) (Ku:W.keepIn K (.ref Dd)=true)
  (Cy:W.isFn K (.ref De)=true)
  (OD:K.lookup De=some ⟨IC,EQ,.func (W.fnOf "keep" "Runner.keep" (Zz Xo) (Zm Xo) (Zk Xo) .none ID IE IF ER BD IG),FV⟩) (OE:W.codeIn K BD "Runner.keep"=true) (Kv:W.keepIn K (.ref De)=true)
  (Cz:W.isFn K (.ref Dg)=true)
  (OF:K.lookup Dg=some ⟨IH,ES,.func (W.fnOf "enter" "Runner.enter" (Zz J8) (Zm J8) (Zk J8) .none II IJ IK ET BE IL),FW⟩) (OG:W.codeIn K BE "Runner.enter"=true) (Kw:W.keepIn K (.ref Dg)=true)
  (CA:W.isFn K (.ref Dh)=true)
  (OH:K.lookup Dh=some ⟨IM,EU,.func (W.fnOf "come_back" "Runner.come_back" (Zz Y9) (Zm Y9) (Zk Y9) .none IN IO IP EV BF IQ),FX⟩) (OI:W.codeIn K BF "Runner.come_back"=true) (Kx:W.keepIn K (.ref Dh)=true)
  (OJ:W.nsIn K mainGlobals "pieces_of"=some (some (.ref DB)))
  (OK:K.lookup DB=some ⟨IR,EW,.func (W.fnOf "pieces_of" "pieces_of" (Zz Wq) (Zm Wq) (Zk Wq) .none IS IT IU EX BG IV),FY⟩) (OL:W.codeIn K BG "pieces_of"=true) (OM:W.keepIn K (.ref DB)=true)
  {T_run:WP} {dc_run:WQ} {dd_run:Option WP} {dn_run:Nat} {ds_run:Array (Option WQ)} {dt_run_0 dt_run_1:Tok}
  (ON:W.nsIn K mainGlobals "run"=some (some (.ref Dj)))
  (OO:K.lookup Dj=some ⟨IW,EY,.func (W.fnOf "run" "run" (Zz Rc) (Zm Rc) (Zk Rc) (.ref T_run) BH BI BJ Be AZ BK),FZ⟩) (OP:W.codeIn K AZ "run"=true) (Ky:W.keepIn K (.ref Dj)=true)
  (dl_run:K.lookup T_run=some ⟨dc_run,dd_run,.seq #[.int 8 dt_run_0,.int 400 dt_run_1] dn_run,ds_run⟩)
  (OQ:W.nsIn K mainGlobals "_law_draws"=some (some (.ref DC)))
  (OR:K.lookup DC=some ⟨IX,EZ,.func (W.fnOf "_law_draws" "_law_draws" (Zz X6) (Zm X6) (Zk X6) .none IY IZ Ja Fa BL Jb),Ga⟩) (OS:W.codeIn K BL "_law_draws"=true) (OT:W.keepIn K (.ref DC)=true)
  (OU:W.nsIn K mainGlobals "_law_pool"=some (some (.ref DE)))
  (OV:K.lookup DE=some ⟨Jc,Fb,.func (W.fnOf "_law_pool" "_law_pool" (Zz Ws) (Zm Ws) (Zk Ws) .none Jd Jg Jh Fc BM Ji),Gb⟩) (OW:W.codeIn K BM "_law_pool"=true) (OX:W.keepIn K (.ref DE)=true)
  (OY:W.nsIn K mainGlobals "_law_ill_matched"=some (some (.ref DF)))
  (OZ:K.lookup DF=some ⟨Jk,Fd,.func (W.fnOf "_law_ill_matched" "_law_ill_matched" (Zz Y5) (Zm Y5) (Zk Y5) .none Jl Jq Jr Fe BN Js),Gc⟩) (Pa:W.codeIn K BN "_law_ill_matched"=true) (Pb:W.keepIn K (.ref DF)=true)
  (Pd:W.nsIn K mainGlobals "_law_leaf"=some (some (.ref DG)))
  (Pe:K.lookup DG=some ⟨Jt,Ff,.func (W.fnOf "_law_leaf" "_law_leaf" (Zz Wt) (Zm Wt) (Zk Wt) .none Ju Jw Jy Fg BO Jz),Ge⟩) (Pf:W.codeIn K BO "_law_leaf"=true) (Ph:W.keepIn K (.ref DG)=true)
  (Pi:W.nsIn K mainGlobals "_law_bound"=some (some (.ref DH)))
  (Pj:K.lookup DH=some ⟨J0,Fh,.func (W.fnOf "_law_bound" "_law_bound" (Zz X8) (Zm X8) (Zk X8) .none J1 J2 J3 Fi BP J4),Gf⟩) (Pk:W.codeIn K BP "_law_bound"=true) (Pl:W.keepIn K (.ref DH)=true)
  (Pm:W.nsIn K mainGlobals "_law_own"=some (some (.ref DI)))
  (Pn:K.lookup DI=some ⟨J5,Fj,.func (W.fnOf "_law_own" "_law_own" (Zz Va) (Zm Va) (Zk Va) .none J6 J7 J9 Fk BQ JA),Gg⟩) (Po:W.codeIn K BQ "_law_own"=true) (Pp:W.keepIn K (.ref DI)=true)
  (Pr:W.nsIn K mainGlobals "_law_choice"=some (some (.ref DJ)))
  (Ps:K.lookup DJ=some ⟨JB,Fl,.func (W.fnOf "_law_choice" "_law_choice" (Zz Xk) (Zm Xk) (Zk Xk) .none JC JD JE Fn BR JF),Gh⟩) (Pt:W.codeIn K BR "_law_choice"=true) (Pu:W.keepIn K (.ref DJ)=true)
  (Px:W.nsIn K mainGlobals "_law_term"=some (some (.ref DK)))
  (Py:K.lookup DK=some ⟨JG,Fo,.func (W.fnOf "_law_term" "_law_term" (Zz Wr) (Zm Wr) (Zk Wr) .none JH JI JJ Fp BS JK),Gi⟩) (Pz:W.codeIn K BS "_law_term"=true) (P3:W.keepIn K (.ref DK)=true)
  (P7:W.nsIn K mainGlobals "_law_each"=some (some (.ref DL)))
  (P8:K.lookup DL=some ⟨JL,Fq,.func (W.fnOf "_law_each" "_law_each" (Zz Wu) (Zm Wu) (Zk Wu) .none JM JN JO Ft BT JP),Gj⟩) (P9:W.codeIn K BT "_law_each"=true) (PB:W.keepIn K (.ref DL)=true)
  (PC:W.nsIn K mainGlobals "_law_closed"=some (some (.ref DM)))
  (PD:K.lookup DM=some ⟨JQ,Fu,.func (W.fnOf "_law_closed" "_law_closed" (Zz Xj) (Zm Xj) (Zk Xj) .none JR JS JT Fv BU JU),Gk⟩) (PF:W.codeIn K BU "_law_closed"=true) (PH:W.keepIn K (.ref DM)=true)
  (PJ:W.nsIn K mainGlobals "_law_cut"=some (some (.ref DN)))
  (PL:K.lookup DN=some ⟨JV,Fw,.func (W.fnOf "_law_cut" "_law_cut" (Zz Vb) (Zm Vb) (Zk Vb) .none JW JX JY Fx BV JZ),Gm⟩) (PM:W.codeIn K BV "_law_cut"=true) (PN:W.keepIn K (.ref DN)=true)
  (K9:W.nsIn K mainGlobals "law"=some (some (.ref DO)))
  (PP:K.lookup DO=some ⟨Ka,Fy,.func (W.fnOf "law" "law" (Zz Re) (Zm Re) (Zk Re) .none BW BX BY Bf Ba BZ),Gn⟩) (PQ:W.codeIn K Ba "law"=true) (PU:W.keepIn K (.ref DO)=true)
  (CB:W.nsIn K mainGlobals "any"=some none)
  (Bc:W.nsIn K mainGlobals "dict"=some none)
  (AR:W.nsIn K mainGlobals "enumerate"=some none)
  (CC:W.nsIn K mainGlobals "int"=some none)
  (AQ:W.nsIn K mainGlobals "isinstance"=some none)
  (CD:W.nsIn K mainGlobals "len"=some none)
  (Bd:W.nsIn K mainGlobals "list"=some none)
  (CF:W.nsIn K mainGlobals "max"=some none)
  (AX:W.nsIn K mainGlobals "range"=some none)
  (AS:W.nsIn K mainGlobals "reversed"=some none)
  (CG:W.nsIn K mainGlobals "str"=some none)
  (AY:W.nsIn K mainGlobals "tuple"=some none)
  (CH:W.nsIn K mainGlobals "zip"=some none)
  {gt_MARKS_0:Tok}
  {gt_MARKS_1:Tok}
  {gt_MARKS_2:Tok}
  {AA:WP} {gn_MARKS:Nat} {gs_MARKS:Array (Option WQ)} (AV:K.lookup AA=some ⟨.type "tuple",none,.seq #[.str "at" gt_MARKS_0,.str "shut" gt_MARKS_1,.str "ring" gt_MARKS_2] gn_MARKS,gs_MARKS⟩)
  (AW:W.nsIn K mainGlobals "MARKS"=some (some (.ref AA)))
  {gt_VALUES_0:Tok}
  {gt_VALUES_1:Tok}
  {gt_VALUES_2:Tok}
  {A8:WP} {gn_VALUES:Nat} {gs_VALUES:Array (Option WQ)} (AT:K.lookup A8=some ⟨.type "tuple",none,.seq #[.str "number" gt_VALUES_0,.str "fun" gt_VALUES_1,.str "made" gt_VALUES_2] gn_VALUES,gs_VALUES⟩)
  (AU:W.nsIn K mainGlobals "VALUES"=some (some (.ref A8)))
  :∃fd:VZ,(∀(s:WR) (v:WQ),BindsTo s fd ⟨[v],[]⟩ [("_law_script",v)])/\∀base:WU,K.In base->base.Ns mainGlobals mg->Yx l.prog w K mg base CX0 60 fa fd VI (spW K pr 60 48):=by
 have e:=hfa.symm.trans (PZ X G K9)
 cases e
 have T:Txt w K mg:=⟨QS X G CB,QS X G Bc,QS X G AR,QS X G CC,QS X G AQ,QS X G CD,QS X G Bd,QS X G CF,QS X G AX,QS X G AS,QS X G CG,QS X G AY,QS X G CH,⟨.ref AA,.ref AA,PZ X G AW,VS,λH=>(yt (xs:=[V.str "at",V.str "shut",V.str "ring"]) AV (show 3<=sizeLine by decide) (.cons ⟨_,VS⟩ (.cons ⟨_,VS⟩ (.cons ⟨_,VS⟩ .nil))) (Yn Xc (Yn Xc (Yn Xc Jv))))⟩,⟨.ref A8,.ref A8,PZ X G AU,VS,λH=>(yt (xs:=[V.str "number",V.str "fun",V.str "made"]) AT (show 3<=sizeLine by decide) (.cons ⟨_,VS⟩ (.cons ⟨_,VS⟩ (.cons ⟨_,VS⟩ .nil))) (Yn Xc (Yn Xc (Yn Xc Jv))))⟩,⟨Aa,Ac,⟨Af,Am,An,Ao⟩,AG⟩,⟨Aa,Ac,⟨Af,Am,An,Ao⟩,AB⟩,⟨Aa,Ac,⟨Af,Am,An,Ao⟩,AC⟩,⟨Aa,Ac,⟨Af,Am,An,Ao⟩,AJ⟩,⟨Aa,Ac,⟨Af,Am,An,Ao⟩,AD⟩,⟨Aa,Ac,⟨Af,Am,An,Ao⟩,AM⟩,⟨Aa,Ac,⟨Af,Am,An,Ao⟩,AK⟩,⟨Aa,Ac,⟨Af,Am,An,Ao⟩,AH⟩,⟨Aa,Ac,⟨Af,Am,An,Ao⟩,AI⟩,⟨Aa,Ac,⟨Af,Am,An,Ao⟩,AE⟩,⟨Aa,Ac,⟨Af,Am,An,Ao⟩,AL⟩,⟨Aa,Ac,⟨Af,Am,An,Ao⟩,AF⟩⟩;have Ab:Kl K mg "Runner" Aa:=⟨Ac,PZ X G Ac,⟨Af,Am,An,Ao⟩⟩;have F0:=Yc (st:=X2) l0 c0 k0;have B0:Ya K _ VN []:=F0.binds (λ_ _ _ _ _ _=>z0 λ_ _=>rfl);have M0:=PZ X G a0;have F1:=Yc (st:=X3) l1 c1 k1;have B1:Ya K _ VD []:=F1.binds (λ_ _ _ _ _ _=>z0 λ_ _=>rfl);have M1:=PZ X G a1;have F2:=Yc (st:=Uk) l2 c2 k2;have B2:Ya K _ VA []:=F2.binds (λ_ _ _ _ _ _=>uY λ_=>rfl);have M2:=PZ X G a2;have F3:=Yc (st:=X4) l3 c3 k3;have B3:Ya K _ VO []:=F3.binds (λ_ _ _ _ _ _=>z0 λ_ _=>rfl);have M3:=PZ X G a3;have F4:=Yc (st:=Xi) l4 c4 k4;have B4:Ya K _ VP []:=F4.binds (λ_ _ _ _ _ _=>z0 λ_ _=>rfl);have M4:=PZ X G a4;have F5:=Yc (st:=Nv) l5 c5 k5;have B5:Ya K _ UQ []:=F5.binds (λ_ _ _ _ _ _=>z0 λ_ _=>rfl);have M5:=PZ X G a5;have F6:=Yc (st:=Vx) l6 c6 k6;have B6:Ya K _ UQ []:=F6.binds (λ_ _ _ _ _ _=>z0 λ_ _=>rfl);have M6:=PZ X G a6;have F7:=Yc (st:=Vv) l7 c7 k7;have B7:Ya K _ VL []:=F7.binds (λ_ _ _ _ _ _=>z0 λ_ _=>rfl);have M7:=PZ X G a7;have F8:=Yc (st:=Vw) l8 c8 k8;have B8:Ya K _ VA []:=F8.binds (λ_ _ _ _ _ _=>uY λ_=>rfl);have M8:=PZ X G a8;have F9:=Yc (st:=W9) l9 c9 k9;have B9:Ya K _ VA []:=F9.binds (λ_ _ _ _ _ _=>uY λ_=>rfl);have M9:=PZ X G a9;have Dk:=Yc (st:=W8) NF NG NH;have KA:Ya K _ VG []:=Dk.binds (λ_ _ _ _ _ _=>pM λ_ _ _=>rfl);have KB:=PZ X G NE;have Dl:=Yc (st:=Sa) NJ NK NL;have KC:Ya K _ ["holds"] []:=Dl.binds (λ_ _ _ _ _ _=>uY λ_=>rfl);have KD:=PZ X G NI;have Dm:=Yc (st:=Ul) NN NO NP;have KE:Ya K _ UK []:=Dm.binds (λ_ _ _ _ _ _=>z0 λ_ _=>rfl);have KG:=PZ X G NM;have Dn:=Yc (st:=Jm) NR NS NT;have KH:Ya K _ UK []:=Dn.binds (λ_ _ _ _ _ _=>z0 λ_ _=>rfl);have KI:=PZ X G NQ;have Do:=Yc (st:=Qs) NV NW NX;have KJ:Ya K _ VF []:=Do.binds (λ_ _ _ _ _ _=>z0 λ_ _=>rfl);have KK:=PZ X G NU;have KL:=Yc (st:=Jf) NY NZ Kb;have KM:Ya K _ UT []:=KL.binds (λ_ _ _ _ _ _=>pM λ_ _ _=>rfl);have KN:=Yc (st:=Wv) Oa Ob Kc;have KO:Ya K _ UO []:=KN.binds (λ_ _ _ _ _ _=>z0 λ_ _=>rfl);have KP:=Yc (st:=Jp) Oc Od Kd;have KQ:Ya K _ UO []:=KP.binds (λ_ _ _ _ _ _=>z0 λ_ _=>rfl);have KR:=Yc (st:=Jn) Oe Of Ke;have KS:Ya K _ UL []:=KR.binds (λ_ _ _ _ _ _=>uY λ_=>rfl);have KU:=Yc (st:=Jx) Og Oh Kf;have KW:Ya K _ UL []:=KU.binds (λ_ _ _ _ _ _=>uY λ_=>rfl);have KY:=Yc (st:=Y7) Oi Oj Kg;have KZ:Ya K _ UL []:=KY.binds (λ_ _ _ _ _ _=>uY λ_=>rfl);have La:=Yc (st:=Yz) Ol Om Kh;have Lb:Ya K _ UL []:=La.binds (λ_ _ _ _ _ _=>uY λ_=>rfl);have Lc:=Yc (st:=Y8) On Oo Ki;have Ld:Ya K _ UL []:=Lc.binds (λ_ _ _ _ _ _=>uY λ_=>rfl);have Le:=Yc (st:=Y1) Op Oq Kj;have Lf:Ya K _ VR []:=Le.binds (λ_ _ _ _ _ _=>z0 λ_ _=>rfl);have Lg:=Yc (st:=Y6) Os Ot Kk;have Lh:Ya K _ UX []:=Lg.binds (λ_ _ _ _ _ _=>pM λ_ _ _=>rfl);have Li:=Yc (st:=Jo) Ou Ov Kn;have Lj:Ya K _ UU []:=Li.binds (λ_ _ _ _ _ _=>pM λ_ _ _=>rfl);have Lk:=Yc (st:=Y0) Ow Ox Ko;have Ll:Ya K _ UL []:=Lk.binds (λ_ _ _ _ _ _=>uY λ_=>rfl);have Lq:=Yc (st:=Xp) Oy Oz Kq;have Lr:Ya K _ VB []:=Lq.binds (λ_ _ _ _ _ _=>pM λ_ _ _=>rfl);have Ls:=Yc (st:=Xm) O5 O6 Kr;have Lu:Ya K _ UY []:=Ls.binds (λ_ _ _ _ _ _=>pM λ_ _ _=>rfl);have Lv:=Yc (st:=Je) O7 O8 Ks;have Lw:Ya K _ VC []:=Lv.binds (λ_ _ _ _ _ _=>pM λ_ _ _=>rfl);have Lx:=Yc (st:=Xq) O9 OA Kt;have Ly:Ya K _ VQ []:=Lx.binds (λ_ _ _ _ _ _=>z0 λ_ _=>rfl);have Lz:=Yc (st:=Xl) OB OC Ku;have L0:Ya K _ UP []:=Lz.binds (λ_ _ _ _ _ _=>pM λ_ _ _=>rfl);have L3:=Yc (st:=Xo) OD OE Kv;have L4:Ya K _ UR []:=L3.binds (λ_ _ _ _ _ _=>pM λ_ _ _=>rfl);have L5:=Yc (st:=J8) OF OG Kw;have L6:Ya K _ UM []:=L5.binds (λ_ _ _ _ _ _=>z0 λ_ _=>rfl);have L7:=Yc (st:=Y9) OH OI Kx;have L8:Ya K _ UM []:=L7.binds (λ_ _ _ _ _ _=>z0 λ_ _=>rfl);have Dp:=Yc (st:=Wq) OK OL OM;have L9:Ya K _ VM []:=Dp.binds (λ_ _ _ _ _ _=>z0 λ_ _=>rfl);have LA:=PZ X G OJ;have PV:fk K "run" "run" Rc Dj _:=⟨⟨_,_,_,_,_,_,_,_,_,_,VS,OO,OP⟩,Ky⟩;have LB:∃us:List WQ,Yd (([8,400]:List Int).map V.int) us/\∀j,j<=2->Ya K (W.fnOf "run" "run" (Zz Rc) (Zm Rc) (Zk Rc) (.ref T_run) BH BI BJ Be AZ BK) US (us.drop j):=⟨[.int 8 dt_run_0,.int 400 dt_run_1],.cons ⟨_,VS⟩ (.cons ⟨_,VS⟩ (.nil)),λj hj=>match j,hj with | 0,_=>(λs us kin hl=>(match us,(show us.length=1 by simpa using hl) with | [_],_=>W.binds_K kin VS dl_run VS VS VS)) | 1,_=>(λs us kin hl=>(match us,(show us.length=2 by simpa using hl) with | [_,_],_=>W.binds_K kin VS dl_run VS VS VS)) | 2,_=>(λs us kin hl=>(match us,(show us.length=3 by simpa using hl) with | [_,_,_],_=>W.binds_K kin VS dl_run VS VS VS)) | (j+3),h=>absurd h (by omega)⟩;have LC:=PZ X G ON;have Dq:=Yc (st:=X6) OR OS OT;have LD:Ya K _ UV []:=Dq.binds (λ_ _ _ _ _ _=>z0 λ_ _=>rfl);have LE:=PZ X G OQ;have Dr:=Yc (st:=Ws) OV OW OX;have LF:Ya K _ VH []:=Dr.binds (λ_ _ _ _ _ _=>uY λ_=>rfl);have LG:=PZ X G OU;have Ds:=Yc (st:=Y5) OZ Pa Pb;have LH:Ya K _ ["_law_k"] []:=Ds.binds (λ_ _ _ _ _ _=>uY λ_=>rfl);have LI:=PZ X G OY;have Dt:=Yc (st:=Wt) Pe Pf Ph;have LJ:Ya K _ UN []:=Dt.binds (λ_ _ _ _ _ _=>pM λ_ _ _=>rfl);have LK:=PZ X G Pd;have Du:=Yc (st:=X8) Pj Pk Pl;have LL:Ya K _ UJ []:=Du.binds (λ_ _ _ _ _ _=>pM λ_ _ _=>rfl);have LM:=PZ X G Pi;have Dv:=Yc (st:=Va) Pn Po Pp;have LN:Ya K _ UG []:=Dv.binds (λ_ _ _ _ _ _=>Zam λ_ _ _ _ _ _=>rfl);have LO:=PZ X G Pm;have Dw:=Yc (st:=Xk) Ps Pt Pu;have LP:Ya K _ UG []:=Dw.binds (λ_ _ _ _ _ _=>Zam λ_ _ _ _ _ _=>rfl);have LQ:=PZ X G Pr;have Dx:=Yc (st:=Wr) Py Pz P3;have LR:Ya K _ UH []:=Dx.binds (λ_ _ _ _ _ _=>Zbk λ_ _ _ _ _=>rfl);have LS:=PZ X G Px;have Dy:=Yc (st:=Wu) P8 P9 PB;have LT:Ya K _ [] []:=Dy.binds (λ_ _ _ _ _ _=>Zbm VS);have LU:=PZ X G P7;have Dz:=Yc (st:=Xj) PD PF PH;have LV:Ya K _ UI []:=Dz.binds (λ_ _ _ _ _ _=>Zbl λ_ _ _ _=>rfl);have LW:=PZ X G PC;have D3:=Yc (st:=Vb) PL PM PN;have LX:Ya K _ UW []:=D3.binds (λ_ _ _ _ _ _=>z0 λ_ _=>rfl);have LY:=PZ X G PJ;have CI:=Yc (st:=Re) PP PQ PU;have LZ:Ya K _ VI []:=CI.binds (λ_ _ _ _ _ _=>uY λ_=>rfl);have Ma:=PZ X G K9;refine⟨W.fnOf "law" "law" (Zz Re) (Zm Re) (Zk Re) .none BW BX BY Bf Ba BZ,λs v=>.of_eq VS,λbase _ _=>?_⟩;have CS:∀n,Cs l.prog w K mg base n:=λn=>by
  induction n with
  | zero=>exact⟨Y3 F0 B0 M0,Y3 F1 B1 M1,Y3 F2 B2 M2,Y3 F3 B3 M3,Y3 F4 B4 M4,Y3 F5 B5 M5,Y3 F6 B6 M6,Y3 F7 B7 M7,Y3 F8 B8 M8,Y3 F9 B9 M9,Y3 Dk KA KB,Y3 Dl KC KD,Y3 Dm KE KG,Y3 Dn KH KI,Y3 Do KJ KK,Y3 Dp L9 LA,⟨_,_,Yt,LB,Ky,LC⟩,Y3 Dq LD LE,Y3 Dr LF LG,Y3 Ds LH LI,Y3 Dt LJ LK,Y3 Du LL LM,Y3 Dv LN LO,Y3 Dw LP LQ,Y3 Dx LR LS,Y3 Dy LT LU,Y3 Dz LV LW,pK D3 LX LY,Y3 CI LZ Ma,Jj Ab ⟨Ap,Bb,Kb⟩ Yt KM,Jj Ab ⟨A9,Cd,Kc⟩ Yt KO,Jj Ab ⟨Ay,Ce,Kd⟩ Yt KQ,Jj Ab ⟨Az,Cf,Ke⟩ Yt KS,Jj Ab ⟨A1,Cg,Kf⟩ Yt KW,Jj Ab ⟨At,Ch,Kg⟩ Yt KZ,Jj Ab ⟨Aq,Ci,Kh⟩ Yt Lb,Jj Ab ⟨Au,Cj,Ki⟩ Yt Ld,Jj Ab ⟨Ar,Ck,Kj⟩ Yt Lf,Jj Ab ⟨Av,Co,Kk⟩ Yt Lh,Jj Ab ⟨A0,Cp,Kn⟩ Yt Lj,Jj Ab ⟨As,Cq,Ko⟩ Yt Ll,Jj Ab ⟨A3,Cr,Kq⟩ Yt Lr,Jj Ab ⟨A4,Ct,Kr⟩ Yt Lu,Jj Ab ⟨Ax,Cu,Ks⟩ Yt Lw,Jj Ab ⟨A5,Cv,Kt⟩ Yt Ly,Jj Ab ⟨A6,Cw,Ku⟩ Yt L0,Jj Ab ⟨A7,Cy,Kv⟩ Yt L4,Jj Ab ⟨A2,Cz,Kw⟩ Yt L6,Jj Ab ⟨Aw,CA,Kx⟩ Yt L8,lh (j:=49) VS Ab ⟨AO,Ap,Bb,AN⟩⟩
  | succ n ih=>exact⟨Y4 F0 B0 M0 (Eu T ih F0),Y4 F1 B1 M1 (Ew T ih F1),Y4 F2 B2 M2 (ux T ih F2),Y4 F3 B3 M3 (Ey T ih F3),Y4 F4 B4 M4 (Gr T ih F4),Y4 F5 B5 M5 (iS T ih F5),Y4 F6 B6 M6 (xC T ih F6),Y4 F7 B7 M7 (xA T ih F7),Y4 F8 B8 M8 (xB T ih F8),Y4 F9 B9 M9 (y9 T ih F9),Y4 Dk KA KB (y0 T ih Dk),Y4 Dl KC KD (qd T ih Dl),Y4 Dm KE KG (uy T ih Dm),Y4 Dn KH KI (Lm T ih Dn),Y4 Do KJ KK (mh T ih Do),Y4 Dp L9 LA (Ae T ih Dp),⟨_,_,iR T ih PV,LB,Ky,LC⟩,Y4 Dq LD LE (Ez T ih Dq),Y4 Dr LF LG (Ah T ih Dr),Y4 Ds LH LI (O0 T ih Ds),Y4 Dt LJ LK (Ai T ih Dt),Y4 Du LL LM (E7 T ih Du),Y4 Dv LN LO (yA T ih Dv),Y4 Dw LP LQ (Gu T ih Dw),Y4 Dx LR LS (Ag T ih Dx),Y4 Dy LT LU (Aj T ih Dy),Y4 Dz LV LW (Gs T ih Dz),pL D3 LX LY (yB T ih D3),Y4 CI LZ Ma (qf T ih CI),Jj Ab ⟨Ap,Bb,Kb⟩ (Nz T ih KL) KM,Jj Ab ⟨A9,Cd,Kc⟩ (Ak T ih KN) KO,Jj Ab ⟨Ay,Ce,Kd⟩ (Lp T ih KP) KQ,Jj Ab ⟨Az,Cf,Ke⟩ (Ln T ih KR) KS,Jj Ab ⟨A1,Cg,Kf⟩ (Km T ih KU) KW,Jj Ab ⟨At,Ch,Kg⟩ (O2 T ih KY) KZ,Jj Ab ⟨Aq,Ci,Kh⟩ (P4 T ih La) Lb,Jj Ab ⟨Au,Cj,Ki⟩ (O3 T ih Lc) Ld,Jj Ab ⟨Ar,Ck,Kj⟩ (P6 T ih Le) Lf,Jj Ab ⟨Av,Co,Kk⟩ (O1 T ih Lg) Lh,Jj Ab ⟨A0,Cp,Kn⟩ (Lo T ih Li) Lj,Jj Ab ⟨As,Cq,Ko⟩ (P5 T ih Lk) Ll,Jj Ab ⟨A3,Cr,Kq⟩ (Gy T ih Lq) Lr,Jj Ab ⟨A4,Ct,Kr⟩ (Gw T ih Ls) Lu,Jj Ab ⟨Ax,Cu,Ks⟩ (Ny T ih Lv) Lw,Jj Ab ⟨A5,Cv,Kt⟩ (Gz T ih Lx) Ly,Jj Ab ⟨A6,Cw,Ku⟩ (Gv T ih Lz) L0,Jj Ab ⟨A7,Cy,Kv⟩ (Gx T ih L3) L4,Jj Ab ⟨A2,Cz,Kw⟩ (Ip T ih L5) L6,Jj Ab ⟨Aw,CA,Kx⟩ (O4 T ih L7) L8,lj (j:=49) VS Ab AO AN ih.zca⟩
 exact qf T (CS (59)) CI
end K36
namespace WL
open PySem PySem.Spec PyProof.Rows L2
def Ex (C C':Hw):Prop:=∀a o,C a=some o->C' a=some o
def Ex.refl (C:Hw):Ex C C:=λ_ _ h=>h
def Ex.trans (a:Ex C C1)(b:Ex C1 C2):Ex C C2:=λc o h=>b c o (a c o h)
def cne {C:Hw}(h:C a=some o)(h':C b=none):a≠b:=λe=>by subst e;rw[h] at h';cases h'
def Ex.new {C:Hw}(h:C p=none):Ex C (up C p o):=λa u e=>by rw[Z0 (cne e h)];exact e
def Ex.up (e:Ex C C')(h:C p=none):Ex C (up C' p o):=λa u q=>by rw[Z0 (cne q h)];exact e a u q
def jH (h:up C p o q=none):q≠p/\C q=none:=by
 have n:q≠p:=λz=>by subst z;rw[Zn] at h;cases h
 rw[Z0 n] at h;exact⟨n,h⟩
def Ex.free (e:Ex C C')(h:C' p=none):C p=none:=by
 cases q:C p with
 | none=>rfl
 | some o=>rw[e p o q] at h;cases h
def Qk (p:WP)(C C':Hw):Prop:=∀a o,a≠p->C a=some o->C' a=some o
def Qk.refl (p:WP)(C:Hw):Qk p C C:=λ_ _ _ h=>h
def Qk.trans (a:Qk p C C1)(b:Qk p C1 C2):Qk p C C2:=λc o n h=>b c o n (a c o n h)
def Ex.exB (e:Ex C C')(p:WP):Qk p C C':=λa o _ h=>e a o h
def Qk.put (e:Qk p C C'):Qk p C (WL.up C' p o):=λa u n h=>by rw[Z0 n];exact e a u n h
def Qk.new (e:Qk p C C')(h:C q=none):Qk p C (WL.up C' q o):=λa u n z=>by rw[Z0 (cne z h)];exact e a u n z
def Kv:∀{xs:List T} {n:Nat},Xv xs n=true↔∀x∈xs,W4 x n=true
 | [],n=>by unfold Xv;simp
 | x::xs,n=>by unfold Xv;rw[Bool.and_eq_true,Kv];simp
def Fk {xs:List T}(h:∀x∈xs,W4 x n=true):W4 (.tup xs) (n+1)=true:=by unfold W4;exact Kv.mpr h
def U7:W4 (.str x) n=true:=by unfold W4;rfl
def jk:W4 (.int x) n=true:=by unfold W4;rfl
def mF:W4 (.bl x) n=true:=by unfold W4;rfl
def Fd:J0 (.str x)=True:=eq_true U7
def Fe:J0 (.int x)=True:=eq_true jk
def Ck:J0 (.bl x)=True:=eq_true mF
def xX {xs:List Str}:Xv (xs.map T.str) n=true:=Kv.mpr λx hx=>by obtain⟨y,_,rfl⟩:=XR.mp hx;exact U7
section
variable {n:Bool}{C:Hw}{Q:WK}
def V7:Hr n (.str a) (.str b) C Q=Q (.bl (if n=true then !(a==b) else a==b)) C:=by
 show(J0 _/\J0 _/\Q (.bl (if n=true then !eqT (.str a) (.str b) else eqT (.str a) (.str b))) C)=_;rw[Fd,Fd,true_and,true_and,show eqT (.str a) (.str b)=(a==b) by unfold eqT;rfl]
def wL:Hr n (.int a) (.int b) C Q=Q (.bl (if n=true then !(a==b) else a==b)) C:=by
 show(J0 _/\J0 _/\Q (.bl (if n=true then !eqT (.int a) (.int b) else eqT (.int a) (.int b))) C)=_;rw[Fe,Fe,true_and,true_and,show eqT (.int a) (.int b)=(a==b) by unfold eqT;rfl]
def kF:Hr n (.bl a) (.bl b) C Q=Q (.bl (if n=true then !(a==b) else a==b)) C:=by
 show(J0 _/\J0 _/\Q (.bl (if n=true then !eqT (.bl a) (.bl b) else eqT (.bl a) (.bl b))) C)=_;rw[Ck,Ck,true_and,true_and,show eqT (.bl a) (.bl b)=(a==b) by unfold eqT;rfl]
end
section
variable {α:Type}{a b c d e:α}{xs:List α}
def gC:(a::xs).eraseIdx 0=xs:=rfl
def Yl:Q7 (a::xs) 0=some a:=Ow (j:=0) VS
def Jc:Q7 (a::b::xs) 1=some b:=Ow (j:=1) VS
def V0:Q7 (a::b::c::xs) 2=some c:=Ow (j:=2) VS
def pQ:Q7 (a::b::c::d::xs) 3=some d:=Ow (j:=3) VS
def kn:Q7 (a::b::c::d::e::xs) 4=some e:=Ow (j:=4) VS
def gZ:Q7 [a] (-1)=some a:=rfl
def gY:Q7 [a,b] (-1)=some b:=rfl
def gX:Q7 [a,b,c] (-1)=some c:=rfl
def gW:Q7 [a,b,c,d] (-1)=some d:=rfl
end
def Tu {g:WG}{b:WS}{ok:Hw->Prop}{D:We}{xs:List T}(Pv:Nat->Sw->Hw->Prop)(h0:Pv 0 τ C)(hok:∀i τ C,i<=xs.length->Pv i τ C->ok C)
  (hs:∀i x τ C (N:Sw->Hw->Prop),xs[i]?=some x->Pv i τ C->(∀τ' C',Pv (i+1) τ' C'->N τ' C')->g x τ C (λτ2 C2=>b {D with nx:=N,ct:=N,bk:=D.nx} τ2 C2) D.xc)
  (hd:∀τ C,Pv xs.length τ C->D.nx τ C):jj g b ok D xs τ C:=by
 have key:∀(k i:Nat) (τ:Sw) (C:Hw),xs.length-i=k->i<=xs.length->Pv i τ C->jj g b ok D (xs.drop i) τ C:=by
  intro k
  induction k with
  | zero=>
   intro i τ C hk hi hp;have e:i=xs.length:=by omega
   subst e;rw[SX];exact⟨hok _ τ C (XE _) hp,hd τ C hp⟩
  | succ k ih=>
   intro i τ C hk hi hp;have hlt:i<xs.length:=by omega
   rw[QY hlt];exact⟨hok i τ C hi hp,hs i _ τ C _ (by simp[hlt]) hp λτ' C' h=>ih (i+1) τ' C' (by omega) hlt h⟩
 exact key xs.length 0 τ C (by simp) (Nat.zero_le _) h0
def wY (lo:Int)(n:Nat):(rng lo n).length=n:=by unfold rng;simp
def oZ {lo:Int}{n i:Nat}(h:(rng lo n)[i]?=some x):i<n/\x=.int (lo+i):=by
 have hi:i<n:=by
  have:=(PY.mp h).1;rw[wY] at this;exact this
 unfold rng at h;rw[XM,SA hi] at h
 cases h
 exact⟨hi,VS⟩
def Hh {g:WG}{b:WS}{ok:Hw->Prop}{D:We}{lo:Int}{n:Nat}(Pv:Nat->Sw->Hw->Prop)(h0:Pv 0 τ C)(hok:∀C,ok C)
  (hs:∀i τ C (N:Sw->Hw->Prop),i<n->Pv i τ C->(∀τ' C',Pv (i+1) τ' C'->N τ' C')->g (.int (lo+i)) τ C (λτ2 C2=>b {D with nx:=N,ct:=N,bk:=D.nx} τ2 C2) D.xc)
  (hd:∀τ C,Pv n τ C->D.nx τ C):jj g b ok D (rng lo n) τ C:=by
 refine Tu Pv h0 (λ_ _ C _ _=>hok C) (λi x τ C N hx hp hN=>?_) (λτ C h=>hd τ C (by rw[wY] at h;exact h));obtain⟨hi,rfl⟩:=oZ hx;exact hs i τ C N hi hp hN
def jx {g:WG}{c:WT}{e:WE}{ok:Hw->Prop}{τ:Sw}{Q:List T->Hw->Prop}{χ:WX}{xs:List T}(Pv:Nat->List T->Hw->Prop)(h0:Pv 0 [] C)(hok:∀i acc C,i<=xs.length->Pv i acc C->ok C)
  (hs:∀i x acc C (N:List T->Hw->Prop),xs[i]?=some x->Pv i acc C->(∀acc' C',Pv (i+1) acc' C'->N acc' C')->
   g x τ C (λτ2 C2=>c τ2 C2 (λb C3=>if b=true then e τ2 C3 (λv C4=>acc.length<sizeLine/\N (acc++[v]) C4) χ else N acc C3) χ) χ)
  (hd:∀acc C,Pv xs.length acc C->Q acc C):L5 g c e ok τ Q χ xs [] C:=by
 have key:∀(k i:Nat) (acc:List T) (C:Hw),xs.length-i=k->i<=xs.length->Pv i acc C->L5 g c e ok τ Q χ (xs.drop i) acc C:=by
  intro k
  induction k with
  | zero=>
   intro i acc C hk hi hp;have e:i=xs.length:=by omega
   subst e;rw[SX];exact⟨hok _ acc C (XE _) hp,hd acc C hp⟩
  | succ k ih=>
   intro i acc C hk hi hp;have hlt:i<xs.length:=by omega
   rw[QY hlt];exact⟨hok i acc C hi hp,hs i _ acc C _ (by simp[hlt]) hp λacc' C' h=>ih (i+1) acc' C' (by omega) hlt h⟩
 exact key xs.length 0 [] C (by simp) (Nat.zero_le _) h0
def zr {g:WG}{c:WT}{e:WE}{ok:Hw->Prop}{τ:Sw}{Q:List T->Hw->Prop}{χ:WX}{xs:List T}(f:T->Option T)(hok:ok C)(hl:xs.length<=sizeLine)
  (hs:∀x∈xs,∀(R:WK) (N:Hw->Prop),(∀v,f x=some v->R v C)->(f x=none->N C)->g x τ C (λτ2 C2=>c τ2 C2 (λb C3=>if b=true then e τ2 C3 R χ else N C3) χ) χ) (hd:Q (xs.filterMap f) C):L5 g c e ok τ Q χ xs [] C:=by
 refine jx (λi acc C'=>C'=C/\acc=(xs.take i).filterMap f) ⟨VS,VS⟩ (λi acc C' _ h=>by rw[h.1];exact hok) (λi x acc C' N hx hp hN=>?_) (λacc C' h=>?_)
 ·obtain⟨rfl,rfl⟩:=hp;have hi:i<xs.length:=(PY.mp hx).1;refine hs x (QB hx) _ _ (λv hv=>⟨?_,hN _ _ ⟨VS,?_⟩⟩) (λhv=>hN _ _ ⟨VS,?_⟩)
  ·have:=List.length_filterMap_le f (xs.take i);rw[YM] at this;omega
  ·rw[YD,hx,List.filterMap_append];simp[hv]
  ·rw[YD,hx,List.filterMap_append];simp[hv]
 ·obtain⟨rfl,rfl⟩:=h;rw[QK];exact hd
def T3 {g:WG}{e:WE}{ok:Hw->Prop}{τ:Sw}{Q:List T->Hw->Prop}{χ:WX}{xs:List T}(f:T->T)(hok:ok C)(hl:xs.length<=sizeLine)
  (hs:∀x∈xs,∀R:WK,R (f x) C->g x τ C (λτ2 C2=>e τ2 C2 R χ) χ) (hd:Q (xs.map f) C):L5 g Bl e ok τ Q χ xs [] C:=by
 refine jx (λi acc C'=>C'=C/\acc=(xs.take i).map f) ⟨VS,VS⟩ (λi acc C' _ h=>by rw[h.1];exact hok) (λi x acc C' N hx hp hN=>?_) (λacc C' h=>?_)
 ·obtain⟨rfl,rfl⟩:=hp;have hi:i<xs.length:=(PY.mp hx).1;refine hs x (QB hx) _ ⟨?_,hN _ _ ⟨VS,?_⟩⟩
  ·rw[XI,YM];omega
  ·rw[YD,hx,XL];rfl
 ·obtain⟨rfl,rfl⟩:=h;rw[QK];exact hd
def qN {zs:List Str}:Hg (.str z) (zs.map T.str)=decide (z∈zs):=by
 unfold Hg;rw[List.any_map]
 induction zs with
 | nil=>rfl
 | cons y ys ih=>
  rw[RY,ih];have e:(((λy=>eqT y (.str z))∘T.str) y)=(y==z):=by show eqT (.str y) (.str z)=_;unfold eqT;rfl
  rw[e];by_cases h:y=z
  ·subst h;simp
  ·have h':z≠y:=λq=>h q.symm;simp[h,h']
def oC {z:Str}{zs:List Str}{C:Hw}{Q:WK}(h:C a=some (.lst (zs.map T.str)))(q:Q (.bl (if n=true then !decide (z∈zs) else decide (z∈zs))) C):oE n (.str z) (.ref a) C Q:=
 ⟨zs.map T.str,h,U7,xX,by rw[qN];exact q⟩
def pP {ds:List Int}{i:Int}(h0:0<=i)(h1:i<(ds.length:Int)):∃d,Q7 (ds.map T.int) i=some (.int d)/\d∈ds:=by
 obtain⟨v,h,m⟩:=K1 (xs:=ds.map T.int) h0 (by simpa using h1);obtain⟨d,hd,rfl⟩:=XR.mp m;exact⟨d,h,hd⟩
def rH {ds:List Int}(h:0<ds.length):∃d,(ds.map T.int)[(ds.map T.int).length-1]?=some (.int d)/\d∈ds/\(ds.map T.int).dropLast=ds.dropLast.map T.int/\ds.dropLast.length=ds.length-1/\∀x∈ds.dropLast,x∈ds:=by
 have hlt:ds.length-1<ds.length:=by omega
 refine⟨ds[ds.length-1],?_,YN hlt,?_,TK,λx hx=>(List.dropLast_sublist ds).subset hx⟩
 ·rw[XI,XM,SK hlt];rfl
 ·rw[TY]
def bI {n:Nat}(h:0<n):seqIndex? 0 n=some 0:=by
 have:=(vq (n:=n) (i:=0) (j:=0) (by unfold qI;simp;omega)).1;exact this
def Ym {n:Nat}(h:n<=100000):n<=sizeLine:=XN h (by decide)
def Vc {n:Nat}(h:n<=100000):n<sizeLine:=Nat.lt_of_le_of_lt h (by decide)
end WL
namespace K36
open PySem PySem.Spec PyProof.Rows L2 WL
local macro_rules | `(tactic| walk_at "ws") => `(tactic| try simp (config := { decide := true }) only [Zd, eC, Zf, kh, Zg, Zb, Zs, W5, Z6, Oq, N9, uP, aw, Zbj, au, Im, Yu, wN, Ke, fq, zf, Wc, Jr, Hq, Vn, J3, jJ, jK, wK, fM, tR, Zav, Ik, zP, Zv, lS, Su, bv, pf, O9, lw, aF, Mg, vM, mK, fS, Yq, Q4, Wb, tG, Zbi, Z8, Zq, Ja, Yj, yq, Ju, Zw, bP, wU, xl, Nw, Sf, fA, Zbf, Zbg, Dk, Bl, Uc, Uj, ba, Ww, At, xJ, Jw, wJ, lL, kE, V7, wL, gC, Yl, Jc, V0, pQ, kn, gZ, gY, gX, gW, kF,
  List.map_cons, TL, List.length_cons, TM, List.replicate, UD, List.nil_append, List.getElem?_cons_zero, List.getElem?_cons_succ, List.set_cons_zero, List.set_cons_succ, Option.some.injEq, T.int.injEq, T.str.injEq, T.bl.injEq, T.ref.injEq, T.tup.injEq, T.cl.injEq, exists_eq_left', exists_eq_left, exists_eq', exists_and_left, and_assoc, List.cons.injEq, and_true, true_and, reduceCtorEq, false_and, exists_false, List.append_nil, if_true, if_false, Bool.not_not, decide_eq_true_eq, Bool.not_eq_true', decide_eq_false_iff_not, Bool.false_eq_true, List.nil_eq, Option.bind_none, Option.bind_some, Option.join_some, Nat.reduceAdd, Nat.reduceSub, Nat.sub_self, Nat.zero_add, Nat.sub_zero, beq_iff_eq, Bool.not_false, Bool.not_true])
section
variable {A B:WS}{D:We}{τ:Sw}{C:Hw}{i k:Nat}{v:T}{r:List T}{s s' w:Str}{x y:Int}
def N1 (h:τ[0]?=some (some (.tup (v::r))))(q:B D (τ.set k (some v)) C):Zq (Zw (Zf Zv (Zd 0) (eC (.int 0))) (Yq k)) B D τ C:=⟨_,h,_,Yl,q⟩
def Q3 (h:τ[i]?=some (some (.str w)))(hw:w=s)(q:A {D with nx:=B D} τ C):Zq (Ju (Yu (Zf Jw (Zd i) (eC (.str s)))) A Z8) B D τ C:=by
 refine⟨_,h,?_⟩;simp only[eC];rw[Jw,V7,hw];refine⟨true,by simp,?_⟩;rw[XY rfl];exact q
def W3 (h:τ[i]?=some (some (.str w)))(hw:w≠s)(q:B D τ C):Zq (Ju (Yu (Zf Jw (Zd i) (eC (.str s)))) A Z8) B D τ C:=by
 refine⟨_,h,?_⟩;simp only[eC];rw[Jw,V7];refine⟨false,by simp[hw],?_⟩;rw[XX (by decide)];exact q
def xK (h:τ[i]?=some (some (.str w)))(hw:w=s\/w=s')(q:A {D with nx:=B D} τ C):Zq (Ju (Ke (Yu (Zf Jw (Zd i) (eC (.str s)))) (Yu (Zf Jw (Zd i) (eC (.str s'))))) A Z8) B D τ C:=by
 refine⟨_,h,?_⟩;simp only[eC];rw[Jw,V7];by_cases c:w=s
 ·refine⟨true,by simp[c],?_⟩;rw[XY rfl];exact q
 ·refine⟨false,by simp[c],?_⟩;rw[XX (by decide)];refine⟨_,h,?_⟩;simp only[eC];rw[V7];have c':w=s':=hw.resolve_left c;refine⟨true,by simp[c'],?_⟩;rw[XY rfl];exact q
def Nj (h:τ[i]?=some (some (.str w)))(hw:w≠s)(hw':w≠s')(q:B D τ C):Zq (Ju (Ke (Yu (Zf Jw (Zd i) (eC (.str s)))) (Yu (Zf Jw (Zd i) (eC (.str s'))))) A Z8) B D τ C:=by
 refine⟨_,h,?_⟩;simp only[eC];rw[Jw,V7];refine⟨false,by simp[hw],?_⟩;rw[XX (by decide)];refine⟨_,h,?_⟩;simp only[eC];rw[V7];refine⟨false,by simp[hw'],?_⟩;rw[XX (by decide)];exact q
def qG (h:τ[0]?=some (some (.tup (.str w::r))))(hw:w=s)(q:A {D with nx:=B D} τ C):Zq (Ju (Yu (Zf Jw (Zf Zv (Zd 0) (eC (.int 0))) (eC (.str s)))) A Z8) B D τ C:=by
 refine⟨_,h,_,Yl,?_⟩;simp only[eC];rw[Jw,V7,hw];refine⟨true,by simp,?_⟩;rw[XY rfl];exact q
def qH (h:τ[0]?=some (some (.tup (.str w::r))))(hw:w≠s)(q:B D τ C):Zq (Ju (Yu (Zf Jw (Zf Zv (Zd 0) (eC (.int 0))) (eC (.str s)))) A Z8) B D τ C:=by
 refine⟨_,h,_,Yl,?_⟩;simp only[eC];rw[Jw,V7];refine⟨false,by simp[hw],?_⟩;rw[XX (by decide)];exact q
end
def yf:List Str:=["does","call","first","fun","let","shape","choose","rows"]
inductive Sc:T->Option Nat->List (List T×T)->Prop
 | does {o A B:T}:Sc (.tup [.str "does",o,A,B]) none [([],A),([],B)]
 | call {A B:T}:Sc (.tup [.str "call",A,B]) none [([],A),([],B)]
 | first {A B:T}:Sc (.tup [.str "first",A,B]) none [([],A),([],B)]
 | fun_ {x B:T}:Sc (.tup [.str "fun",x,B]) none [([x],B)]
 | let_ {B:T} {xs:List (T×T)} (h:xs.length<=1000):Sc (.tup [.str "let",.tup (xs.map λx=>.tup [x.1,x.2]),B]) none (xs.map (λx=>(xs.map (·.1),x.2))++[(xs.map (·.1),B)])
 | shape {c:T} {ps:List T} (h:ps.length<=1000):Sc (.tup [.str "shape",c,.tup ps]) none (ps.map λx=>([],x))
 | choose {E:T} {ys:List (T×List T×T)} (h:ys.length<=1000):Sc (.tup [.str "choose",E,.tup (ys.map λy=>.tup [y.1,.tup y.2.1,y.2.2])]) none (([],E)::ys.map (·.2))
 | other {w:Str} {Jk:List T} (h:w∉yf):Sc (.tup (.str w::Jk)) none []
def bJ (s:List T×T):T:=.tup [.tup s.1,s.2]
section
variable {C:Hw}{Q:WK}{χ:WX}{n:Nat}
def Bt {B:T}{xs:List (T×T)}(h:xs.length<=1000)(q:∀p C',Ex C C'->C p=none->C' p=some (.lst ((xs.map (λx=>(xs.map (·.1),x.2))++[(xs.map (·.1),B)]).map bJ))->Q (.ref p) C'):
  Z9 pr (n+1) A7 [.tup (xs.map λx=>.tup [x.1,x.2]),B] C Q χ:=by
 refine Bg VS ?_;unfold V4
 walk_at "ws"
 have hl:(xs.map λx:T×T=>T.tup [x.1,x.2]).length<=sizeLine:=by rw[XI];exact Ym (by omega)
 refine T3 (λt=>match t with | .tup [a,_]=>a | _=>.non) trivial hl (λx hx R hR=>?_) λp hp=>?_
 ·obtain⟨y,_,rfl⟩:=XR.mp hx
  walk_at "ws"
  exact hR
 refine⟨_,Zn,?_⟩;have e:(xs.map λx:T×T=>T.tup [x.1,x.2]).map (λt=>match t with | .tup [a,_]=>a | _=>T.non)=xs.map (·.1):=by rw[YE];rfl
 rw[e];refine T3 (λt=>match t with | .tup [_,b]=>.tup [.tup (xs.map (·.1)),b] | _=>.non) trivial hl (λx hx R hR=>?_) λp2 hp2=>?_
 ·obtain⟨y,_,rfl⟩:=XR.mp hx
  walk_at "ws"
  exact hR
 intro p3 hp3;obtain⟨n2,e2⟩:=jH hp2;obtain⟨n32,h32⟩:=jH hp3;obtain⟨n31,e3⟩:=jH h32;refine⟨_,by rw[Z0 n32.symm];exact Zn,_,Zn,?_,λp4 hp4=>?_⟩
 ·rw[XI,XI];exact Ym (by show xs.length+1<=100000;omega)
 ·obtain⟨n43,h43⟩:=jH hp4;obtain⟨n42,h42⟩:=jH h43;obtain⟨n41,e4⟩:=jH h42;refine q p4 _ ((((Ex.new hp).up e2).up e3).up e4) e4 ?_;rw[Zn,XL,YE,YE];rfl
def sK (h:Sc t e ss)(q:∀p C',Ex C C'->C p=none->C' p=some (.lst (ss.map bJ))->Q (.ref p) C'):Z9 pr (n+2) qO [t] C Q χ:=by
 refine tT VS ?_;unfold Q9
 cases h with
 | does=>refine N1 VS (Q3 VS VS ?_);walk_at "ws";exact λp hp=>q p _ (Ex.new hp) hp Zn
 | call=>refine N1 VS (W3 VS (by decide+kernel) (xK VS (.inl VS) ?_));walk_at "ws";exact λp hp=>q p _ (Ex.new hp) hp Zn
 | first=>refine N1 VS (W3 VS (by decide+kernel) (xK VS (.inr VS) ?_));walk_at "ws";exact λp hp=>q p _ (Ex.new hp) hp Zn
 | fun_=>refine N1 VS (W3 VS (by decide+kernel) (Nj VS (by decide+kernel) (by decide+kernel) (Q3 VS VS ?_)));walk_at "ws";exact λp hp=>q p _ (Ex.new hp) hp Zn
 | let_ h=>refine N1 VS (W3 VS (by decide+kernel) (Nj VS (by decide+kernel) (by decide+kernel) (W3 VS (by decide+kernel) (Q3 VS VS ?_))));walk_at "ws";exact Bt h q
 | shape h=>
  refine N1 VS (W3 VS (by decide+kernel) (Nj VS (by decide+kernel) (by decide+kernel) (W3 VS (by decide+kernel) (W3 VS (by decide+kernel) (Q3 VS VS ?_)))))
  walk_at "ws"
  refine T3 (λt=>.tup [.tup [],t]) trivial (Ym (by omega)) (λx hx R hR=>?_) λp hp=>q p _ (Ex.new hp) hp ?_
  ·walk_at "ws"
   exact hR
  ·rw[Zn,YE];rfl
 | @choose E ys h=>
  refine N1 VS (W3 VS (by decide+kernel) (Nj VS (by decide+kernel) (by decide+kernel) (W3 VS (by decide+kernel) (W3 VS (by decide+kernel) (W3 VS (by decide+kernel) (Q3 VS VS ?_))))))
  walk_at "ws"
  intro p hp;refine T3 (λt=>match t with | .tup [_,a,b]=>.tup [a,b] | _=>.non) trivial (by rw[XI];exact Ym (by omega)) (λx hx R hR=>?_) λp2 hp2=>?_
  ·obtain⟨y,_,rfl⟩:=XR.mp hx
   walk_at "ws"
   exact hR
  obtain⟨n2,e2⟩:=jH hp2;refine⟨_,by rw[Z0 n2.symm];exact Zn,_,Zn,?_,λp3 hp3=>?_⟩
  ·rw[XI,XI];exact Ym (by show 1+_<=_;omega)
  ·obtain⟨n32,h32⟩:=jH hp3;obtain⟨n31,e3⟩:=jH h32;refine q p3 _ (((Ex.new hp).up e2).up e3) e3 ?_;rw[Zn,YI,YE,YE];rfl
 | @other w Jk h=>
  have hw:∀s∈yf,w≠s:=λs hs z=>h (z▸hs);refine N1 VS (W3 VS (hw "does" (by decide)) (Nj VS (hw "call" (by decide)) (hw "first" (by decide)) (W3 VS (hw "fun" (by decide)) (W3 VS (hw "let" (by decide)) (W3 VS (hw "shape" (by decide)) (W3 VS (hw "choose" (by decide)) (W3 VS (hw "rows" (by decide)) ?_)))))))
  walk_at "ws"
  exact λp hp=>q p _ (Ex.new hp) hp Zn
end
section
variable {C:Hw}{Q:WK}{χ:WX}{τ:Sw}
def Xs {p q:Prop}(h:p):if true=true then p else q:=h
def Jh {p q:Prop}(h:q):if false=true then p else q:=h
def Fc {p q:Prop}{b:Bool}(hb:b=true)(h:p):if b=true then p else q:=by rw[XY hb];exact h
def Ic {p q:Prop}{b:Bool}(hb:b=false)(h:q):if b=true then p else q:=by subst hb;exact h
def cw {a b:Str}{v:Bool}(h:(a==b)=v)(q:Q (.bl v) C):Hr false (.str a) (.str b) C Q:=by rw[V7,XX (by decide),h];exact q
def aq {a b:Int}{v:Bool}(h:(a==b)=v)(q:Q (.bl v) C):Hr false (.int a) (.int b) C Q:=by rw[wL,XX (by decide),h];exact q
def aa {a b:Str}{v:Bool}(h:(a==b)=v)(q:Q (.bl (!v)) C):Hr true (.str a) (.str b) C Q:=by rw[V7,XY VS,h];exact q
def W0 {a b:Str}{v:Bool}(h:(a==b)=v)(q:Q (.bl v) C):eC (.str b) τ C (λy C2=>Jw (.str a) y C2 Q) χ:=cw h q
def Qf {a b:Int}{v:Bool}(h:(a==b)=v)(q:Q (.bl v) C):eC (.int b) τ C (λy C2=>Jw (.int a) y C2 Q) χ:=aq h q
def ml {a b:Str}{v:Bool}(h:(a==b)=v)(q:Q (.bl (!v)) C):eC (.str b) τ C (λy C2=>wJ (.str a) y C2 Q) χ:=aa h q
end
open PySem PySem.Spec PyProof.Rows L2 WL
abbrev Ms:=List (Str×T)
def dm (M:Ms):List (Jb×T):=M.map λkv=>((Sum.inr kv.1:Jb),kv.2)
def Jz (M:Ms)(ns:List Str):Ms:=M.filter λkv=>decide (kv.1∉ns)
def Ub:Jz M []=M:=by unfold Jz;simp
def uD:Jz (Jz M a) b=Jz M (a++b):=by
 unfold Jz;rw[List.filter_filter];refine List.filter_congr λkv _=>?_;simp only[List.mem_append,not_or];by_cases h1:kv.1∈a<;>by_cases h2:kv.1∈b<;>simp[h1,h2]
def zh:Wz (dm M) (.inr x)=(M.find? λkv=>decide (kv.1=x)).map (·.2):=by
 unfold Wz dm;rw[TR,Option.map_map];congr 1;congr 1
 funext kv
 simp
def vD:Wz (dm M) (.inr x)=none↔x∉M.map (·.1):=by
 rw[zh,SW,SJ];constructor
 ·intro h hx;obtain⟨kv,h1,rfl⟩:=XR.mp hx;exact h kv h1 (by simp)
 ·intro h kv h1 h2;exact h (List.mem_map.mpr ⟨kv,h1,by simpa using h2⟩)
def kj:∀{M:Ms} {i:Nat} {kv:Str×T},(M.map (·.1)).Nodup->M[i]?=some kv->Wz (dm M) (.inr kv.1)=some kv.2
 | [],_,_,_,h=>by simp at h
 | z::M,0,kv,_,h=>by simp at h;subst h;rw[zh];simp
 | z::M,i+1,kv,hn,h=>by
  rw[YI,SD] at hn;have h':M[i]?=some kv:=by simpa using h
  have ne:¬z.1=kv.1:=λe=>hn.1 (e▸XR.mpr ⟨kv,QB h',VS⟩);have ih:=kj hn.2 h';rw[zh] at ih |-;rw[List.find?_cons_of_neg (by simpa using ne)];exact ih
def mO:jq (dm M) (.inr x)=dm (Jz M [x]):=by
 unfold jq dm Jz;rw[List.filter_map];congr 1;refine List.filter_congr λkv _=>?_;simp
def Cg {M:Ms}{ns:List Str}(h:∀x∈ns,x∉M.map (·.1)):Jz M ns=M:=by
 unfold Jz;rw[List.filter_eq_self];intro kv hk;simp only[decide_eq_true_eq];exact λhn=>h _ hn (XR.mpr ⟨kv,hk,VS⟩)
def p0 {L:Ms}{x:Str}(h:x∉L.map (·.1)):Nx (dm L) (.inr x) v=dm (L++[(x,v)]):=by
 unfold Nx;rw[XX]
 ·unfold dm;rw[XL];rfl
 ·rw[RX];rintro⟨kv,hk,e⟩;unfold dm at hk;obtain⟨z,hz,rfl⟩:=XR.mp hk;exact h (List.mem_map.mpr ⟨z,hz,by simpa using e⟩)
def p9:(dm M).length=M.length:=by unfold dm;simp
def gG:(dm M).length=0↔M=[]:=by rw[p9,RC]
def _root_.WL.RdC.ex {k:List (Jb×T)}(h:RdC C a k)(e:Ex C C'):RdC C' a k:=h.imp (e _ _) (e _ _)
section
variable {C:Hw}{Q:WK}{χ:WX}{n:Nat}
def ue {ns:List Str}(h5:ns.length<=1000)(ha:RdC C a (dm M))(q:∀p C',Ex C C'->RdC C' p (dm (Jz M ns))->Q (.ref p) C'):
  Z9 pr (n+1) uH [.ref a,.tup (ns.map T.str)] C Q χ:=by
 refine vX VS ?_;unfold Rp
 walk_at "ws"
 refine T3 (λt=>match t with | .str x=>.bl (Wz (dm M) (.inr x)).isSome | _=>.non) trivial (by rw[XI];exact Ym (by omega)) (λx hx R hR=>?_) λp hp=>?_
 ·obtain⟨y,_,rfl⟩:=XR.mp hx
  walk_at "ws"
  exact⟨a,dm M,.inr y,VS,VS,ha,hR⟩
 have e:(ns.map T.str).map (λt=>match t with | .str x=>T.bl (Wz (dm M) (.inr x)).isSome | _=>T.non)=(ns.map λx=>(Wz (dm M) (.inr x)).isSome).map T.bl:=by rw[YE,YE];rfl
 rw[e];refine⟨p,_,VS,Zn,_,VS,?_⟩;have ha1:=ha.ex (Ex.new (o:=.lst ((ns.map λx=>(Wz (dm M) (.inr x)).isSome).map T.bl)) hp);by_cases c:((ns.map λx=>(Wz (dm M) (.inr x)).isSome).any id)=true
 ·rw[if_neg (by rw[c];simp)];refine⟨a,dm M,VS,ha1,λr hr=>?_⟩;obtain⟨nr,hr0⟩:=jH hr
  walk_at "ws"
  refine Tu (λi τ C'=>∃x3,τ=[some (.ref a),some (.tup (ns.map T.str)),some (.ref r),x3]/\Ex C C'/\C' r=some (.dic (dm (Jz M (ns.take i))))) ⟨none,VS,(Ex.new hp).up hr0,by rw[List.take_zero,Ub];exact Zn⟩ (λ_ _ _ _ _=>trivial) ?_ ?_
  ·rintro i x τ C' N hx ⟨x3,rfl,hE,hr'⟩ hN;rw[XM] at hx
   cases hz:ns[i]? with
   | none=>rw[hz] at hx;cases hx
   | some y=>
    rw[hz] at hx
    cases hx
    walk_at "ws"
    simp only[wm]
    walk_at "ws"
    have et:Jz M (ns.take (i+1))=Jz (Jz M (ns.take i)) [y]:=by rw[uD,YD,hz];rfl
    refine⟨⟨_,hr'⟩,_,.inr y,VS,hr',λv hv=>hN _ _ ⟨_,VS,hE.up hr0,?_⟩,λhv=>hN _ _ ⟨_,VS,hE,?_⟩⟩
    ·rw[Zn,mO,et]
    ·rw[et,Cg (M:=Jz M (ns.take i)) (ns:=[y])]
     ·exact hr'
     ·intro x hx;rw[XQ] at hx;subst hx;exact vD.mp hv
  ·rintro τ C' ⟨x3,rfl,hE,hr'⟩;rw[XI,QK] at hr'
   walk_at "ws"
   exact q r C' hE (.inl hr')
 ·rw[XY (by rw[SR.mpr c])];refine q a _ (Ex.new hp) ?_;rw[Cg]
  ·exact ha1
  ·intro x hx;refine vD.mp ?_
   cases hg:Wz (dm M) (.inr x) with
   | none=>rfl
   | some v=>
    refine absurd ?_ c;rw[RX];exact⟨true,XR.mpr ⟨x,hx,by rw[hg];rfl⟩,VS⟩
def Bq {xs:List (List T)}(hb:C b=some (.lst ys))(hl:xs.length=ys.length)(h1:xs.length<=1000)(hx:∀x∈xs,x≠[]/\x.length<=1000)(q:∀C',Ex C C'->Q (.tup ((xs.zip ys).map λz=>.tup (z.1.dropLast++[z.2]))) C'):
  Z9 pr (n+1) Lw [.tup (xs.map T.tup),.ref b] C Q χ:=by
 refine Be VS ?_;unfold V3
 walk_at "ws"
 simp only[ah]
 walk_at "ws"
 refine .inr ⟨ys,hb,by rw[XI];exact hl,?_⟩;have ez:Ba (xs.map T.tup) ys=(xs.zip ys).map λz=>.tup [.tup z.1,z.2]:=by
  unfold Ba;rw[List.zipWith_map_left,List.zip,List.map_zipWith]
 rw[ez];refine T3 (λt=>match t with | .tup [.tup x,y]=>.tup (x.dropLast++[y]) | _=>.non) hb (by rw[XI,UF];exact Ym (by omega)) (λx hx' R hR=>?_) λp hp=>?_
 ·obtain⟨z,hz,rfl⟩:=XR.mp hx';obtain⟨hz1,hz2⟩:=hx z.1 (RQ hz).1
  walk_at "ws"
  have hpos:0<z.1.length:=List.length_pos_iff.mpr hz1;have e:HT.sIx z.1.length z.1.length (some (-1))=z.1.length-1:=by unfold HT.sIx;simp;omega
  have e2:vJ z.1 none (some (-1))=z.1.dropLast:=by
   unfold vJ;rw[e,SZ];simp[HT.sIx]
  refine⟨λh=>?_,?_,?_⟩
  ·have:=h.2;rw[e] at this;omega
  ·rw[e2];rw[TK];exact Ym (by show _+1<=_;omega)
  ·rw[e2];exact hR
 ·refine⟨_,Zn,?_⟩;rw[YE];exact q _ (Ex.new hp)
end
open PySem PySem.Spec PyProof.Rows L2 WL
def PT (f:Nat)(t:T)(M:Ms)(t':T):Prop:=∀{n:Nat} {C:Hw} {Q:WK} {χ:WX} {a:WP},RdC C a (dm M)->(∀o C',Ex C C'->(o=t'\/(o=.non/\t'=t))->Q o C')->Z9 pr (n+f+4) uJ [t,.ref a] C Q χ
def kq (t:T)(ts:List T)(t':T):Prop:=∀{n:Nat} {C:Hw} {Q:WK} {χ:WX} {b:WP},C b=some (.lst ts)->(∀C',Ex C C'->Q t' C')->Z9 pr (n+2) A6 [t,.ref b] C Q χ
def PT.mono {f g:Nat}(h:PT f t M t')(hl:f<=g):PT g t M t':=by
 intro n C Q χ a ha q;rw[show n+g+4=(n+(g-f))+f+4 by omega];exact h ha q
def PT.put {f:Nat}(h:PT f t M t')(ht:∃l,t'=.tup l){n:Nat}{Q:WK}(ha:RdC C a (dm M))(q:∀C',Ex C C'->Q t' C'):Z9 pr (n+f+5) cq [t,.ref a] C Q χ:=by
 refine fQ VS ?_;unfold zO
 walk_at "ws"
 refine h (n:=n) ha λo C' hE ho=>?_;obtain⟨l,rfl⟩:=ht
 rcases ho with rfl | ⟨rfl,rfl⟩
 ·walk_at "ws"
  exact q _ hE
 ·walk_at "ws"
  exact q _ hE
abbrev Sp:=List Str×T
def lO (z:Sp):List T×T:=(z.1.map T.str,z.2)
def v8 {l:List Str}:J0 (.tup (l.map T.str)):=Fk λx hx=>by obtain⟨y,_,rfl⟩:=XR.mp hx;exact U7
def Pz {f:Nat}{Jk:List T}{ss:List Sp}{us:List T}{t':T}{M:Ms}(h:Sc (.tup (.str w::Jk)) e (ss.map lO))(hw:w≠"name")(h5:∀z∈ss,z.1.length<=1000)(hl:ss.length<=1000)(hu:us.length=ss.length)
  (hP:∀(i:Nat) (z:Sp) (u:T),ss[i]?=some z->us[i]?=some u->(Jz M z.1≠[]->PT f z.2 (Jz M z.1) u)/\(Jz M z.1=[]->u=z.2)/\∃l,u=.tup l) (hwp:kq (.tup (.str w::Jk)) us t')
  (hst:us=ss.map (·.2)->t'=.tup (.str w::Jk)):PT (f+1) (.tup (.str w::Jk)) M t':=by
 intro n C Q χ a ha q;refine Du VS ?_;unfold Tz
 walk_at "ws"
 rw[XX hw];unfold Qo
 walk_at "ws"
 intro p hp;refine sK (n:=n+f+2) h λb C1 hE hb0 hb1=>?_;have hE0:Ex C C1:=(Ex.new hp).trans hE;have hp1:=hE _ _ (Zn (C:=C) (a:=p));have bp:b≠p:=(jH hb0).1;refine⟨_,hb1,?_⟩;refine Tu (λi τ C'=>∃x4 x5 x6 x7,∃st:Bool,τ=[some (.tup (.str w::Jk)),some (.ref a),some (.bl st),some (.ref p),x4,x5,x6,x7]/\Ex C C'/\C' b=some (.lst ((ss.map lO).map bJ))/\C' p=some (.lst (us.take i))/\(st=true->us.take i=(ss.take i).map (·.2)))
  ⟨none,none,none,none,true,VS,hE0,hb1,hp1,λ_=>rfl⟩ (λi τ C' _ ⟨_,_,_,_,_,_,_,h,_⟩=>h) ?_ ?_
 ·rintro i x τ C' N hx ⟨x4,x5,x6,x7,st,rfl,hE',hb',hp',hs'⟩ hN;rw[YE,XM] at hx
  cases hz:ss[i]? with
  | none=>rw[hz] at hx;cases hx
  | some z=>
   rw[hz] at hx
   cases hx
   have mz:=QB hz;have hi:i<ss.length:=(PY.mp hz).1;have hui:us[i]?=some (us[i]'(by omega)):=by simp[show i<us.length by omega]
   generalize us[i]'(by omega)=u at hui;have hPz:=hP i z u hz hui;show tG _ (.tup [.tup (z.1.map T.str),z.2]) _ _ _ _;have fin:∀C4,Ex C' C4->∀x4 x5 x6 x7 (s2:Bool),(s2=true->st=true/\u=z.2)->∃xs,C4 p=some (.lst xs)/\xs.length<sizeLine/\N [some (.tup (.str w::Jk)),some (.ref a),some (.bl s2),some (.ref p),x4,x5,x6,x7] (up C4 p (.lst (xs++[u]))):=λC4 hE5 x4 x5 x6 x7 s2 h2=>by
    refine⟨_,hE5 _ _ hp',?_,hN _ _ ⟨x4,x5,x6,x7,s2,VS,?_,?_,?_,λe=>?_⟩⟩
    ·rw[YM];exact Vc (by omega)
    ·exact(hE'.trans hE5).up hp
    ·rw[Z0 bp];exact hE5 _ _ hb'
    ·rw[Zn,YD,hui];rfl
    ·rw[YD,YD,hz,hui,XL,hs' (h2 e).1,(h2 e).2];rfl
   have hr:∀(l:WP) (C2:Hw),Ex C' C2->RdC C2 l (dm (Jz M z.1))->∀(D:We),D.nx=N-> 
     Zq (Zw (uP (Yu (Zf kD (Zd 6) Kx)) (eC (.non)) (Z6 (Z9 pr (n+(f+1)+3)) 6 (Zb (Zd 5) (Zb (Zd 6) Zg)))) (Yq 7))
     (Zq (Ju (Yu (Zf zP (Zd 7) (eC (.non)))) (Zw (eC (.bl false)) (Yq 2)) Z8)
     (Ja (N9 Uj Ww (Zd 3) (Zb (uP (Yu (Zf Ik (Zd 7) (eC (.non)))) (Zd 5) (Zd 7)) Zg)))) D
     [some (.tup (.str w::Jk)),some (.ref a),some (.bl st),some (.ref p),some (.tup (z.1.map T.str)),some z.2,some (.ref l),x7] C2:=by
    intro l C2 hE2 hl2 D hD
    walk_at "ws"
    intro p3 hp3;have hE3:Ex C2 (up C2 p3 (.dic [])):=Ex.new hp3;refine⟨l,p3,_,[],VS,VS,hl2.ex hE3,.inl Zn,?_⟩;rw[hD];by_cases c:Jz M z.1=[]
    ·refine .inr ⟨by rw[c];rfl,by rw[c];simp[dm],_,VS,?_⟩;rw[XY (by decide)];have hg:=hPz.2.1 c;obtain⟨xs,h1,h2,h3⟩:=fin _ (hE2.trans hE3) (some (.tup (z.1.map T.str))) (some z.2) (some (.ref l)) (some .non) st λe=>⟨e,hg⟩;rw[hg] at h3;exact⟨⟨_,h1⟩,_,h1,h2,h3⟩
    ·refine .inl ⟨λhh=>c (gG.mp hh),_,VS,?_⟩;rw[XX (by decide)];refine hPz.1 c (n:=n) (hl2.ex hE3) λo C4 hE4 ho=>?_;obtain⟨lt,hlt⟩:=hPz.2.2
     rcases ho with ho | ⟨rfl,hg⟩
     ·have ho':=ho.symm;subst ho';have:=fin C4 (hE2.trans (hE3.trans hE4)) (some (.tup (z.1.map T.str))) (some z.2) (some (.ref l)) (some u) false (by simp);rw[hlt] at this |-;obtain⟨xs,h1,h2,h3⟩:=this
      walk_at "ws"
      exact⟨⟨_,h1⟩,_,h1,h2,h3⟩
     ·obtain⟨xs,h1,h2,h3⟩:=fin C4 (hE2.trans (hE3.trans hE4)) (some (.tup (z.1.map T.str))) (some z.2) (some (.ref l)) (some .non) st λe=>⟨e,hg⟩;rw[hg] at h3
      walk_at "ws"
      exact⟨⟨_,h1⟩,_,h1,h2,h3⟩
   have key:∀(K:WK) (χ:WX),(∀l C2,Ex C' C2->RdC C2 l (dm (Jz M z.1))->K (.ref l) C2)->uP (Yu (Zf Jw (Zd 4) (Zs Zg))) (Zd 1) (Z6 (Z9 pr (n+(f+1)+3)) 7 (Zb (Zd 1) (Zb (Zd 4) Zg)))
     [some (.tup (.str w::Jk)),some (.ref a),some (.bl st),some (.ref p),some (.tup (z.1.map T.str)),some z.2,x6,x7] C' K χ:=by
    intro K χ hK
    walk_at "ws"
    refine⟨v8,v8 (l:=[]),_,VS,?_⟩
    cases hz1:z.1 with
    | nil=>
     rw[hz1] at hK;rw[Ub] at hK;exact hK a C' (Ex.refl _) (ha.ex hE')
    | cons y ys=>
     rw[<-hz1];rw[if_neg (by rw[hz1];simp[WL.eqT,Qe])];exact ue (n:=n+f+3) (h5 z mz) (ha.ex hE') hK
   refine⟨_,VS,_,_,VS,_,_,VS,VS,?_⟩;refine key _ _ ?_;intro l C2 hE2 hl2;exact hr l C2 hE2 hl2 _ VS
 ·rintro τ C' ⟨x4,x5,x6,x7,st,rfl,hE',hb',hp',hs'⟩;rw[XI,XI,<-hu,QK] at hp';rw[XI,XI,QK,<-hu,QK] at hs';unfold Qp
  walk_at "ws"
  cases st with
  | true=>
   refine⟨true,VS,?_⟩;rw[XY rfl];exact q _ _ hE' (.inr ⟨VS,hst (hs' VS)⟩)
  | false=>
   refine⟨false,VS,?_⟩;rw[XX (by decide)];exact hwp (n:=n+f+2) hp' λC5 hE5=>q _ C5 (hE'.trans hE5) (.inl VS)
def ve:PT 0 (.tup [.str "name",.str x]) M ((Wz (dm M) (.inr x)).getD (.tup [.str "name",.str x])):=by
 intro n C Q χ a ha q;refine Du VS ?_;unfold Tz
 walk_at "ws"
 simp only[wj]
 walk_at "ws"
 refine⟨⟨_,ha⟩,_,.inr x,VS,ha,q _ _ (Ex.refl _) ?_⟩
 cases Wz (dm M) (.inr x) with
 | none=>exact .inr ⟨VS,VS⟩
 | some v=>exact .inl VS
section
variable {C:Hw}{Q:WK}{χ:WX}{n:Nat}
def eV {α:Type}{Z:List α}{pre:α->List T}{o nw:α->T}(hb:C b=some (.lst (Z.map nw)))(h1:Z.length<=1000)(hx:∀z∈Z,(pre z).length<=100)(q:∀C',Ex C C'->Q (.tup (Z.map λz=>.tup (pre z++[nw z]))) C'):
  Z9 pr (n+1) Lw [.tup (Z.map λz=>.tup (pre z++[o z])),.ref b] C Q χ:=by
 have e:(Z.map λz=>T.tup (pre z++[o z]))=(Z.map λz=>pre z++[o z]).map T.tup:=by rw[YE];rfl
 rw[e];refine Bq hb (by simp) (by simpa using h1) (λx hx'=>?_) λC' hE=>?_
 ·obtain⟨z,hz,rfl⟩:=XR.mp hx';have:=hx z hz;exact⟨by simp,by rw[List.length_append,List.length_singleton];omega⟩
 ·have e2:(((Z.map λz=>pre z++[o z]).zip (Z.map nw)).map λz=>T.tup (z.1.dropLast++[z.2]))=Z.map λz=>T.tup (pre z++[nw z]):=by
   rw[List.zip_map',YE];refine QM λz _=>?_;simp only[Function.comp,List.dropLast_concat]
  rw[e2];exact q C' hE
end
def oB {o A B A' B':T}:kq (.tup [.str "does",o,A,B]) [A',B'] (.tup [.str "does",o,A',B']):=by
 intro n C Q χ b hb q;refine Wp VS ?_;unfold Jl;refine N1 VS (Q3 VS VS ?_)
 walk_at "ws"
 exact⟨_,hb,_,Yl,_,hb,_,Jc,q _ (Ex.refl _)⟩
def kA {w:Str}{A B A' B':T}(h:w="call"\/w="first"):kq (.tup [.str w,A,B]) [A',B'] (.tup [.str w,A',B']):=by
 intro n C Q χ b hb q;refine Wp VS ?_;unfold Jl;refine N1 rfl (W3 rfl (by rcases h with rfl | rfl<;>decide+kernel) (xK VS h ?_))
 walk_at "ws"
 exact⟨_,hb,_,Yl,_,hb,_,Jc,q _ (Ex.refl _)⟩
def kC {x A A':T}:kq (.tup [.str "fun",x,A]) [A'] (.tup [.str "fun",x,A']):=by
 intro n C Q χ b hb q;refine Wp VS ?_;unfold Jl;refine N1 VS (W3 VS (by decide+kernel) (Nj VS (by decide+kernel) (by decide+kernel) (Q3 VS VS ?_)))
 walk_at "ws"
 exact⟨_,hb,_,Yl,q _ (Ex.refl _)⟩
def zM {c:T}:kq (.tup [.str "shape",c,.tup ps]) ps' (.tup [.str "shape",c,.tup ps']):=by
 intro n C Q χ b hb q;refine Wp VS ?_;unfold Jl;refine N1 VS (W3 VS (by decide+kernel) (Nj VS (by decide+kernel) (by decide+kernel) (W3 VS (by decide+kernel) (W3 VS (by decide+kernel) (Q3 VS VS ?_)))))
 walk_at "ws"
 exact⟨_,hb,q _ (Ex.refl _)⟩
def tO {w:Str}{Jk ts:List T}(h:w∉yf):kq (.tup (.str w::Jk)) ts (.tup (.str w::Jk)):=by
 intro n C Q χ b hb q;refine Wp VS ?_;unfold Jl;have hw:∀s∈yf,w≠s:=λs hs z=>h (z▸hs);refine N1 VS (W3 VS (hw "does" (by decide)) (Nj VS (hw "call" (by decide)) (hw "first" (by decide)) (W3 VS (hw "fun" (by decide)) (W3 VS (hw "let" (by decide)) (W3 VS (hw "shape" (by decide)) (W3 VS (hw "choose" (by decide)) (W3 VS (hw "rows" (by decide)) ?_)))))))
 walk_at "ws"
 exact q _ (Ex.refl _)
def aB {α:Type}{a:α}{r:List α}:vJ (a::r) (some 1) none=r:=by
 unfold vJ;have e1:HT.sIx (a::r).length 0 (some 1)=1:=by unfold HT.sIx;simp
 have e2:HT.sIx (a::r).length (a::r).length none=(a::r).length:=by unfold HT.sIx;simp
 rw[e1,e2];simp
def aA {α:Type}{a:α}{r:List α}:vJ (r++[a]) none (some (-1))=r:=by
 unfold vJ;have e1:HT.sIx (r++[a]).length 0 none=0:=by unfold HT.sIx;simp
 have e2:HT.sIx (r++[a]).length (r++[a]).length (some (-1))=r.length:=by unfold HT.sIx;simp;omega
 rw[e1,e2];simp
def Zao {a:T}{r:List T}:Q7 (r++[a]) (-1)=some a:=by
 unfold Q7 qI;rw[if_neg (by decide),if_pos (by simp;omega)];have e:((-1:Int)+((r++[a]).length:Nat)).toNat=r.length:=by simp;omega
 rw[e];simp
def kB {α:Type}{Z:List α}{x:α->Str}{o nw:α->T}{B B':T}(h1:Z.length<=1000):kq (.tup [.str "let",.tup (Z.map λz=>.tup [.str (x z),o z]),B]) (Z.map nw++[B']) (.tup [.str "let",.tup (Z.map λz=>.tup [.str (x z),nw z]),B']):=by
 intro n C Q χ b hb q;refine Wp VS ?_;unfold Jl;refine N1 VS (W3 VS (by decide+kernel) (Nj VS (by decide+kernel) (by decide+kernel) (W3 VS (by decide+kernel) (Q3 VS VS ?_))))
 walk_at "ws"
 refine⟨_,hb,λp hp=>?_⟩;simp only[aA];refine eV (n:=n) (pre:=λz=>[T.str (x z)]) (o:=o) (nw:=nw) Zn h1 (by simp) λC' hE=>?_;refine⟨_,hE _ _ ((Ex.new hp) _ _ hb),_,Zao,?_⟩;exact q _ ((Ex.new hp).trans hE)
def vV {α:Type}{Z:List α}{c:α->Str}{ns:α->List Str}{o nw:α->T}{E E':T}(h1:Z.length<=1000):
  kq (.tup [.str "choose",E,.tup (Z.map λz=>.tup [.str (c z),.tup ((ns z).map T.str),o z])]) (E'::Z.map nw) (.tup [.str "choose",E',.tup (Z.map λz=>.tup [.str (c z),.tup ((ns z).map T.str),nw z])]):=by
 intro n C Q χ b hb q;refine Wp VS ?_;unfold Jl;refine N1 VS (W3 VS (by decide+kernel) (Nj VS (by decide+kernel) (by decide+kernel) (W3 VS (by decide+kernel) (W3 VS (by decide+kernel) (W3 VS (by decide+kernel) (Q3 VS VS ?_))))))
 walk_at "ws"
 refine⟨_,hb,_,Yl,_,hb,λp hp=>?_⟩;simp only[aB];refine eV (n:=n) (pre:=λz=>[T.str (c z),.tup ((ns z).map T.str)]) (o:=o) (nw:=nw) Zn h1 (by simp) λC' hE=>?_;exact q _ ((Ex.new hp).trans hE)
open PySem PySem.Spec PyProof.Rows L2 WL
def Pq (f:Nat)(A:T)(M:Ms)(A':T):Prop:=PT f A M A'/\(M=[]->A'=A)/\∃l,A'=.tup l
abbrev bZ (x:Str):T:=.tup [.str "name",.str x]
section
variable {f:Nat}{M:Ms}{A B A' B':T}
def Pq.mono {g:Nat}(h:Pq f A M A')(hl:f<=g):Pq g A M A':=⟨PT.mono h.1 hl,h.2.1,h.2.2⟩
def Ax (h:M=[]):Jz M ns=[]:=by subst h;rfl
def hp1 (hA:Pq f A (Jz M ns) A'):∀(i:Nat) (z:Sp) (u:T),[(ns,A)][i]?=some z->[A'][i]?=some u->(Jz M z.1≠[]->PT f z.2 (Jz M z.1) u)/\(Jz M z.1=[]->u=z.2)/\∃l,u=.tup l:=by
 intro i z u hz hu
 match i with
 | 0=>simp at hz hu;subst hz;subst hu;exact⟨λ_=>hA.1,hA.2⟩
 | i+1=>simp at hz
def hp2 (hA:Pq f A (Jz M ns) A')(hB:Pq f B (Jz M ms) B'):∀(i:Nat) (z:Sp) (u:T),[(ns,A),(ms,B)][i]?=some z->[A',B'][i]?=some u->(Jz M z.1≠[]->PT f z.2 (Jz M z.1) u)/\(Jz M z.1=[]->u=z.2)/\∃l,u=.tup l:=by
 intro i z u hz hu
 match i with
 | 0=>simp at hz hu;subst hz;subst hu;exact⟨λ_=>hA.1,hA.2⟩
 | 1=>simp at hz hu;subst hz;subst hu;exact⟨λ_=>hB.1,hB.2⟩
 | i+2=>simp at hz
def nK {o:T}(hA:Pq f A M A')(hB:Pq f B M B'):Pq (f+1) (.tup [.str "does",o,A,B]) M (.tup [.str "does",o,A',B']):=
 ⟨Pz (ss:=[([],A),([],B)]) (us:=[A',B']) .does (by decide+kernel) (by simp) (by simp) VS (hp2 (by rw[Ub];exact hA) (by rw[Ub];exact hB)) oB (λh=>by simp at h;rw[h.1,h.2]),λh=>by rw[hA.2.1 h,hB.2.1 h],_,VS⟩
def rF {w:Str}(hw:w="call"\/w="first")(hA:Pq f A M A')(hB:Pq f B M B'):Pq (f+1) (.tup [.str w,A,B]) M (.tup [.str w,A',B']):=
 ⟨Pz (ss:=[([],A),([],B)]) (us:=[A',B']) (e:=none) (by rcases hw with rfl | rfl;exact .call;exact .first) (by rcases hw with rfl | rfl<;>decide+kernel) (by simp) (by simp) VS (hp2 (by rw[Ub];exact hA) (by rw[Ub];exact hB)) (kA hw) (λh=>by simp at h;rw[h.1,h.2]),λh=>by rw[hA.2.1 h,hB.2.1 h],_,VS⟩
def i5 {x:Str}(hA:Pq f A (Jz M [x]) A'):Pq (f+1) (.tup [.str "fun",.str x,A]) M (.tup [.str "fun",.str x,A']):=
 ⟨Pz (ss:=[([x],A)]) (us:=[A']) .fun_ (by decide+kernel) (by simp) (by simp) VS (hp1 hA) kC (λh=>by simp at h;rw[h]),λh=>by rw[hA.2.1 (Ax h)],_,VS⟩
def nH (hA:Pq f A M A')(hB:Pq f B M B'):Pq (f+1) (.tup [.str "shape",.str c,.tup [A,B]]) M (.tup [.str "shape",.str c,.tup [A',B']]):=
 ⟨Pz (ss:=[([],A),([],B)]) (us:=[A',B']) (.shape (ps:=[A,B]) (by simp)) (by decide+kernel) (by simp) (by simp) VS (hp2 (by rw[Ub];exact hA) (by rw[Ub];exact hB)) (zM (ps:=[A,B])) (λh=>by simp at h;rw[h.1,h.2]),λh=>by rw[hA.2.1 h,hB.2.1 h],_,VS⟩
def Gj {w:Str}{Jk:List T}(hn:w≠"name")(hw:w∉yf):Pq 1 (.tup (.str w::Jk)) M (.tup (.str w::Jk)):=
 ⟨Pz (f:=0) (ss:=[]) (us:=[]) (.other hw) hn (by simp) (by simp) VS (by simp) (tO hw) (λ_=>rfl),λ_=>rfl,_,VS⟩
def nE (h:Wz (dm M) (.inr x)=some (.tup m)):Pq 0 (bZ x) M (.tup m):=by
 refine⟨?_,λe=>?_,_,VS⟩
 ·have:=@ve x M;rw[h] at this;exact @this
 ·subst e;simp[dm,Wz] at h
def nI (h:Wz (dm M) (.inr x)=none):Pq 0 (bZ x) M (bZ x):=by
 refine⟨?_,λe=>rfl,_,VS⟩;have:=@ve x M;rw[h] at this;exact @this
end
abbrev Cw (i:Nat):T:=.tup [.str "at",.int (i:Int)]
abbrev big:Int:=1000000000000000000
open PySem PySem.Spec PyProof.Rows L2 WL
section
variable {f:Nat}{M:Ms}{A B A' B' E E':T}
def Gd (f:Nat)(M:Ms)(z:Sp)(u:T):Prop:=(Jz M z.1≠[]->PT f z.2 (Jz M z.1) u)/\(Jz M z.1=[]->u=z.2)/\∃l,u=.tup l
def lY {α:Type}{Z:List α}{s:α->Sp}{u:α->T}(h:∀z∈Z,Gd f M (s z) (u z)):∀(i:Nat) (z:Sp) (v:T),(Z.map s)[i]?=some z->(Z.map u)[i]?=some v->(Jz M z.1≠[]->PT f z.2 (Jz M z.1) v)/\(Jz M z.1=[]->v=z.2)/\∃l,v=.tup l:=by
 intro i z v hz hv;rw[XM] at hz hv
 cases e:Z[i]? with
 | none=>rw[e] at hz;cases hz
 | some x=>
  rw[e] at hz hv
  cases hz;cases hv
  exact h x (QB e)
def nJ {α:Type}{Z:List α}{x:α->Str}{o g:α->T}(h5:Z.length<=5)(hz:∀z∈Z,Pq f (o z) (Jz M (Z.map x)) (g z))(hB:Pq f B (Jz M (Z.map x)) B'):
  Pq (f+1) (.tup [.str "let",.tup (Z.map λz=>.tup [.str (x z),o z]),B]) M (.tup [.str "let",.tup (Z.map λz=>.tup [.str (x z),g z]),B']):=by
 have e0:(Z.map λz=>T.tup [.str (x z),o z])=(Z.map λz=>((T.str (x z),o z):T×T)).map λx=>.tup [x.1,x.2]:=by rw[YE];rfl
 have hS:Sc (.tup [.str "let",.tup (Z.map λz=>.tup [.str (x z),o z]),B]) none ((Z.map (λz=>((Z.map x,o z):Sp))++[(Z.map x,B)]).map lO):=by
  have:=Sc.let_ (B:=B) (xs:=Z.map λz=>(T.str (x z),o z)) (by rw[XI];omega);rw[<-e0] at this;have e1:(Z.map (λz=>((Z.map x,o z):Sp))++[(Z.map x,B)]).map lO=(Z.map λz=>((T.str (x z),o z):T×T)).map (λy=>((Z.map λz=>((T.str (x z),o z):T×T)).map (·.1),y.2))++[((Z.map λz=>((T.str (x z),o z):T×T)).map (·.1),B)]:=by
   simp only[List.map_append,List.map_map,List.map_cons,List.map_nil,Function.comp_def,lO]
  rw[e1];exact this
 refine⟨?_,λh=>?_,_,VS⟩
 ·refine Pz (us:=Z.map g++[B']) hS (by decide+kernel) (λz hz'=>?_) (by simp;omega) (by simp) ?_ (kB (Z:=Z) (x:=x) (o:=o) (nw:=g) (by omega)) ?_
  ·simp only[List.mem_append,List.mem_map,List.mem_singleton] at hz'
   rcases hz' with⟨y,_,rfl⟩ | rfl<;>simp<;>omega
  ·have:=lY (f:=f) (M:=M) (Z:=Z.map some++[none]) (s:=λu=>match u with | some z=>((Z.map x,o z):Sp) | none=>(Z.map x,B)) (u:=λu=>match u with | some z=>g z | none=>B') (λu hu=>by
    simp only[List.mem_append,List.mem_map,List.mem_singleton] at hu
    rcases hu with⟨y,hy,rfl⟩ | rfl
    ·exact⟨λ_=>(hz y hy).1,(hz y hy).2⟩
    ·exact⟨λ_=>hB.1,hB.2⟩)
   simp only[List.map_append,List.map_map,List.map_cons,List.map_nil] at this;exact this
  ·intro h;rw[XL,YE] at h;have h':=List.append_inj h (by simp);have hb:B'=B:=by simpa using h'.2
   have hg:∀z∈Z,g z=o z:=λz hz'=>List.map_inj_left.mp h'.1 z hz';rw[hb];congr 4;exact QM λz hz'=>by rw[hg z hz']
 ·have hg:∀z∈Z,g z=o z:=λz hz'=>(hz z hz').2.1 (Ax h);rw[hB.2.1 (Ax h)];congr 4;exact QM λz hz'=>by rw[hg z hz']
def um {α:Type}{Z:List α}{c:α->Str}{ns:α->List Str}{o g:α->T}(h5:Z.length<=5)(h2:∀a∈Z,(ns a).length<=2)(hE:Pq f E M E')(hz:∀a∈Z,Pq f (o a) (Jz M (ns a)) (g a)):
  Pq (f+1) (.tup [.str "choose",E,.tup (Z.map λa=>.tup [.str (c a),.tup ((ns a).map T.str),o a])]) M (.tup [.str "choose",E',.tup (Z.map λa=>.tup [.str (c a),.tup ((ns a).map T.str),g a])]):=by
 have e0:(Z.map λa=>T.tup [.str (c a),.tup ((ns a).map T.str),o a])=(Z.map λa=>((T.str (c a),(ns a).map T.str,o a):T×List T×T)).map λy=>.tup [y.1,.tup y.2.1,y.2.2]:=by rw[YE];rfl
 have hS:Sc (.tup [.str "choose",E,.tup (Z.map λa=>.tup [.str (c a),.tup ((ns a).map T.str),o a])]) none (((([],E):Sp)::Z.map (λa=>((ns a,o a):Sp))).map lO):=by
  have:=Sc.choose (E:=E) (ys:=Z.map λa=>(T.str (c a),(ns a).map T.str,o a)) (by rw[XI];omega);rw[<-e0] at this;have e1:((([],E):Sp)::Z.map (λa=>((ns a,o a):Sp))).map lO=([],E)::(Z.map λa=>((T.str (c a),(ns a).map T.str,o a):T×List T×T)).map (·.2):=by
   simp only[List.map_map,List.map_cons,lO];rfl
  rw[e1];exact this
 refine⟨?_,λh=>?_,_,VS⟩
 ·refine Pz (us:=E'::Z.map g) hS (by decide+kernel) (λz hz'=>?_) (by simp;omega) (by simp) ?_ (vV (Z:=Z) (c:=c) (ns:=ns) (o:=o) (nw:=g) (by omega)) ?_
  ·simp only[List.mem_cons,List.mem_map] at hz'
   rcases hz' with rfl | ⟨y,hy,rfl⟩
   ·simp
   ·have:=h2 y hy;show(ns y).length<=_;omega
  ·have:=lY (f:=f) (M:=M) (Z:=none::Z.map some) (s:=λu=>match u with | some a=>((ns a,o a):Sp) | none=>([],E)) (u:=λu=>match u with | some a=>g a | none=>E') (λu hu=>by
    simp only[List.mem_cons,List.mem_map] at hu
    rcases hu with rfl | ⟨y,hy,rfl⟩
    ·show Gd f M ([],E) E';unfold Gd;rw[Ub];exact⟨λ_=>hE.1,hE.2⟩
    ·exact⟨λ_=>(hz y hy).1,(hz y hy).2⟩)
   simp only[List.map_map,List.map_cons] at this;exact this
  ·intro h;rw[YI,YE] at h;injection h with h1 h2'
   have hg:∀a∈Z,g a=o a:=λz hz'=>List.map_inj_left.mp h2' z hz';rw[h1];congr 5;exact QM λz hz'=>by rw[hg z hz']
 ·have hg:∀z∈Z,g z=o z:=λz hz'=>(hz z hz').2.1 (Ax h);rw[hE.2.1 h];congr 5;exact QM λz hz'=>by rw[hg z hz']
def nF:Pq 1 (.tup [.str "shape",.str c,.tup []]) M (.tup [.str "shape",.str c,.tup []]):=
 ⟨Pz (f:=0) (ss:=[]) (us:=[]) (.shape (ps:=[]) (by simp)) (by decide+kernel) (by simp) (by simp) VS (by simp) (zM (ps:=[])) (λ_=>rfl),λ_=>rfl,_,VS⟩
end
open PySem PySem.Spec PyProof.Rows L2 WL
inductive Tm where
 | nm (x:Str) | num (v:Int) | stop (x:Str) | at_ (i:Nat)
 | shp0 (c:Str) | shp2 (c:Str) (a b:Tm)
 | does (o:Str) (a b:Tm) | call (a b:Tm) | first (a b:Tm) | fn (x:Str) (b:Tm)
 | lt (n:Nat) (xs:Fin n->Str) (ts:Fin n->Tm) (b:Tm)
 | ch (e:Tm) (n:Nat) (cs:Fin n->Str) (ns:Fin n->List Str) (bs:Fin n->Tm)
def tt:Tm->T
 | .nm x=>.tup [.str "name",.str x]
 | .num v=>.tup [.str "number",.int v]
 | .stop x=>.tup [.str "stop",.str x]
 | .at_ i=>.tup [.str "at",.int (i:Int)]
 | .shp0 c=>.tup [.str "shape",.str c,.tup []]
 | .shp2 c a b=>.tup [.str "shape",.str c,.tup [tt a,tt b]]
 | .does o a b=>.tup [.str "does",.str o,tt a,tt b]
 | .call a b=>.tup [.str "call",tt a,tt b]
 | .first a b=>.tup [.str "first",tt a,tt b]
 | .fn x b=>.tup [.str "fun",.str x,tt b]
 | .lt n xs ts b=>.tup [.str "let",.tup ((List.finRange n).map λi=>.tup [.str (xs i),tt (ts i)]),tt b]
 | .ch e n cs ns bs=>.tup [.str "choose",tt e,.tup ((List.finRange n).map λi=>.tup [.str (cs i),.tup ((ns i).map T.str),tt (bs i)])]
abbrev V9 {n:Nat}(xs:Fin n->Str):List Str:=(List.finRange n).map xs
def zn (M:Str->Option Nat)(ns:List Str):Str->Option Nat:=λx=>if x∈ns then none else M x
def pu (M:Str->Option Nat):Tm->Tm
 | .nm x=>match M x with | some i=>.at_ i | none=>.nm x
 | .num v=>.num v
 | .stop x=>.stop x
 | .at_ i=>.at_ i
 | .shp0 c=>.shp0 c
 | .shp2 c a b=>.shp2 c (pu M a) (pu M b)
 | .does o a b=>.does o (pu M a) (pu M b)
 | .call a b=>.call (pu M a) (pu M b)
 | .first a b=>.first (pu M a) (pu M b)
 | .fn x b=>.fn x (pu (zn M [x]) b)
 | .lt n xs ts b=>.lt n xs (λi=>pu (zn M (V9 xs)) (ts i)) (pu (zn M (V9 xs)) b)
 | .ch e n cs ns bs=>.ch (pu M e) n cs ns (λi=>pu (zn M (ns i)) (bs i))
def ar (c:Str):Nat:=if c="Cons"\/c="Pair" then 2 else 0
def jB (c:Str):ar c<=2:=by unfold ar;split<;>omega
abbrev cl (c:Str):Prop:=1<=c.length/\c.length<=4/\c∈([("Nil":Str),("Yes":Str),("No":Str),("Cons":Str),("Pair":Str)]:List Str)
def gl (x:Str):Prop:=1<=x.length/\x.length<=100
def ok (L:Nat):Nat->List Str->Tm->Prop
 | _,Γ,.nm x=>x∈Γ
 | _,_,.num v=>0<=v/\v<big
 | _,_,.stop x=>gl x
 | _,_,.at_ i=>i<L
 | _,_,.shp0 c=>cl c/\ar c=0
 | d,Γ,.shp2 c a b=>1<=d/\(cl c/\ar c=2)/\ok L (d-1) Γ a/\ok L (d-1) Γ b
 | d,Γ,.does _ a b=>1<=d/\ok L (d-1) Γ a/\ok L (d-1) Γ b
 | d,Γ,.call a b=>1<=d/\ok L (d-1) Γ a/\ok L (d-1) Γ b
 | d,Γ,.first a b=>1<=d/\ok L (d-1) Γ a/\ok L (d-1) Γ b
 | d,Γ,.fn x b=>1<=d/\gl x/\ok L (d-1) (x::Γ) b
 | d,Γ,.lt n xs ts b=>1<=d/\(1<=n/\n<=5/\(V9 xs).Nodup/\∀i,gl (xs i))/\(∀i,ok L (d-1) (V9 xs++Γ) (ts i))/\ok L (d-1) (V9 xs++Γ) b
 | d,Γ,.ch e n cs ns bs=>1<=d/\(n<=5/\∀i,(ns i).length=ar (cs i)/\(ns i).Nodup)/\ok L (d-1) Γ e/\∀i,ok L (d-1) (ns i++Γ) (bs i)
def Xw {L L':Nat}(hL:L<=L'):∀{t:Tm} {d d':Nat} {Γ:List Str},ok L d Γ t->d<=d'->ok L' d' Γ t:=by
 intro t
 induction t with
 | nm x=>intro d d' Γ h _;exact h
 | num v=>intro d d' Γ h _;exact h
 | stop x=>intro d d' Γ h _;exact h
 | at_ i=>intro d d' Γ h _;exact XG h hL
 | shp0 c=>intro d d' Γ h _;exact h
 | shp2 c a b iha ihb=>intro d d' Γ h hd;exact⟨by have:=h.1;omega,h.2.1,iha h.2.2.1 (by omega),ihb h.2.2.2 (by omega)⟩
 | does o a b iha ihb=>intro d d' Γ h hd;exact⟨by have:=h.1;omega,iha h.2.1 (by omega),ihb h.2.2 (by omega)⟩
 | call a b iha ihb=>intro d d' Γ h hd;exact⟨by have:=h.1;omega,iha h.2.1 (by omega),ihb h.2.2 (by omega)⟩
 | first a b iha ihb=>intro d d' Γ h hd;exact⟨by have:=h.1;omega,iha h.2.1 (by omega),ihb h.2.2 (by omega)⟩
 | fn x b ih=>intro d d' Γ h hd;exact⟨by have:=h.1;omega,h.2.1,ih h.2.2 (by omega)⟩
 | lt n xs ts b iht ihb=>intro d d' Γ h hd;exact⟨by have:=h.1;omega,h.2.1,λi=>iht i (h.2.2.1 i) (by omega),ihb h.2.2.2 (by omega)⟩
 | ch e n cs ns bs ihe ihb=>intro d d' Γ h hd;exact⟨by have:=h.1;omega,h.2.1,ihe h.2.2.1 (by omega),λi=>ihb i (h.2.2.2 i) (by omega)⟩
def Hk {M:Str->Option Nat}{ns Γ Γ':List Str}(h:∀x∈Γ,M x≠none\/x∈Γ'):∀x∈ns++Γ,zn M ns x≠none\/x∈ns++Γ':=λx hx=>by
 by_cases c:x∈ns
 ·exact .inr (QQ _ c)
 ·rcases XS.mp hx with hx | hx
  ·exact absurd hx c
  ·rcases h x hx with h | h
   ·exact .inl (by unfold zn;rw[XX c];exact h)
   ·exact .inr (XT _ h)
def L3 (h:zn M ns x=some i):M x=some i:=by
 unfold zn at h
 split at h
 ·cases h
 ·exact h
def vd:∀{t:Tm} {d:Nat} {Γ Γ':List Str} {M:Str->Option Nat},ok L d Γ t->(∀x i,M x=some i->i<L)->(∀x∈Γ,M x≠none\/x∈Γ')->ok L d Γ' (pu M t):=by
 intro t
 induction t with
 | nm x=>
  intro d Γ Γ' M h hM hΓ;unfold pu
  cases e:M x with
  | some i=>exact hM x i e
  | none=>exact(hΓ x h).resolve_left λz=>z e
 | num v=>intro d Γ Γ' M h hM hΓ;exact h
 | stop x=>intro d Γ Γ' M h hM hΓ;exact h
 | at_ i=>intro d Γ Γ' M h hM hΓ;exact h
 | shp0 c=>intro d Γ Γ' M h hM hΓ;exact h
 | shp2 c a b iha ihb=>intro d Γ Γ' M h hM hΓ;exact⟨h.1,h.2.1,iha h.2.2.1 hM hΓ,ihb h.2.2.2 hM hΓ⟩
 | does o a b iha ihb=>intro d Γ Γ' M h hM hΓ;exact⟨h.1,iha h.2.1 hM hΓ,ihb h.2.2 hM hΓ⟩
 | call a b iha ihb=>intro d Γ Γ' M h hM hΓ;exact⟨h.1,iha h.2.1 hM hΓ,ihb h.2.2 hM hΓ⟩
 | first a b iha ihb=>intro d Γ Γ' M h hM hΓ;exact⟨h.1,iha h.2.1 hM hΓ,ihb h.2.2 hM hΓ⟩
 | fn x b ih=>intro d Γ Γ' M h hM hΓ;exact⟨h.1,h.2.1,ih h.2.2 (λy i e=>hM y i (L3 e)) (Hk (ns:=[x]) hΓ)⟩
 | lt n xs ts b iht ihb=>intro d Γ Γ' M h hM hΓ;exact⟨h.1,h.2.1,λi=>iht i (h.2.2.1 i) (λy i e=>hM y i (L3 e)) (Hk hΓ),ihb h.2.2.2 (λy i e=>hM y i (L3 e)) (Hk hΓ)⟩
 | ch e n cs ns bs ihe ihb=>intro d Γ Γ' M h hM hΓ;exact⟨h.1,h.2.1,ihe h.2.2.1 hM hΓ,λi=>ihb i (h.2.2.2 i) (λy i e=>hM y i (L3 e)) (Hk hΓ)⟩
def Qa:Tm->Bool
 | .num _=>true
 | .fn _ _=>true
 | _=>false
abbrev Mn:=List (Str×Nat)
def mT (M:Mn):Ms:=M.map λz=>(z.1,Cw z.2)
def mo (M:Mn):Str->Option Nat:=λx=>(M.find? λz=>decide (z.1=x)).map (·.2)
def Ia (M:Mn)(ns:List Str):Mn:=M.filter λz=>decide (z.1∉ns)
def He:Jz (mT M) ns=mT (Ia M ns):=by
 unfold Jz mT Ia;rw[List.filter_map];rfl
def Hc:mo (Ia M ns)=zn (mo M) ns:=by
 funext x
 unfold mo Ia zn;rw[List.find?_filter];by_cases c:x∈ns
 ·rw[XY c];rw[SJ.mpr]
  ·rfl
  ·intro z _ h;simp at h;exact h.1 (h.2▸c)
 ·rw[XX c];congr 1;congr 1
  funext z
  by_cases e:z.1=x
  ·simp[e,c]
  ·simp[e]
def qx:Wz (dm (mT M)) (.inr x)=(mo M x).map Cw:=by
 rw[zh];unfold mT mo;rw[TR];simp only[Option.map_map];rfl
def tZ (t:Tm):∃w r,tt t=.tup (.str w::r):=by cases t<;>exact⟨_,_,VS⟩
def Bz:∀{t:Tm} {d:Nat} {Γ:List Str} {M:Mn},ok L d Γ t->Pq (d+1) (tt t) (mT M) (tt (pu (mo M) t)):=by
 intro t
 induction t with
 | nm x=>
  intro d Γ M h;unfold pu
  cases e:mo M x with
  | some i=>exact(nE (by rw[qx,e];rfl)).mono (by omega)
  | none=>exact(nI (by rw[qx,e];rfl)).mono (by omega)
 | num v=>intro d Γ M h;exact(Gj (by decide+kernel) (by decide+kernel)).mono (by omega)
 | stop x=>intro d Γ M h;exact(Gj (by decide+kernel) (by decide+kernel)).mono (by omega)
 | at_ i=>intro d Γ M h;exact(Gj (by decide+kernel) (by decide+kernel)).mono (by omega)
 | shp0 c=>intro d Γ M h;exact nF.mono (by omega)
 | shp2 c a b iha ihb=>intro d Γ M h;have h1:=h.1;exact(nH (iha h.2.2.1) (ihb h.2.2.2)).mono (by omega)
 | does o a b iha ihb=>intro d Γ M h;have h1:=h.1;exact(nK (iha h.2.1) (ihb h.2.2)).mono (by omega)
 | call a b iha ihb=>intro d Γ M h;have h1:=h.1;exact(rF (.inl VS) (iha h.2.1) (ihb h.2.2)).mono (by omega)
 | first a b iha ihb=>intro d Γ M h;have h1:=h.1;exact(rF (.inr VS) (iha h.2.1) (ihb h.2.2)).mono (by omega)
 | fn x b ih=>
  intro d Γ M h;have h1:=h.1;have:=ih (M:=Ia M [x]) h.2.2;rw[<-He,Hc] at this;exact(i5 this).mono (by omega)
 | lt n xs ts b iht ihb=>
  intro d Γ M h;have h1:=h.1;have hb:=ihb (M:=Ia M (V9 xs)) h.2.2.2;rw[<-He,Hc] at hb;refine(nJ (Z:=List.finRange n) (x:=xs) (o:=λi=>tt (ts i)) (g:=λi=>tt (pu (zn (mo M) (V9 xs)) (ts i))) (by rw[QZ];exact h.2.1.2.1) (λi _=>?_) hb).mono (by omega);have:=iht i (M:=Ia M (V9 xs)) (h.2.2.1 i);rw[<-He,Hc] at this;exact this
 | ch e n cs ns bs ihe ihb=>
  intro d Γ M h;have h1:=h.1;refine(um (Z:=List.finRange n) (c:=cs) (ns:=ns) (o:=λi=>tt (bs i)) (g:=λi=>tt (pu (zn (mo M) (ns i)) (bs i))) (by rw[QZ];exact h.2.1.1) (λi _=>?_) (ihe h.2.2.1) (λi _=>?_)).mono (by omega)
  ·rw[(h.2.1.2 i).1];exact jB _
  ·have:=ihb i (M:=Ia M (ns i)) (h.2.2.2 i);rw[<-He,Hc] at this;exact this
open PySem PySem.Spec PyProof.Rows L2 WL
abbrev Ad:=Fin 7->WP
abbrev Al:=Str×List Str×Tm
def fB (a:Al):T:=.tup [.str a.1,.tup (a.2.1.map T.str),tt a.2.2]
inductive Fm where
 | give (t:Tm)
 | pick (al:List Al)
 | left (o:Str) (t:Tm)
 | right (o:Str) (x:Int)
 | first (t:Tm)
 | back (i:Nat)
def Iw:Fm->T
 | .give t=>.tup [.str "give",tt t]
 | .pick al=>.tup [.str "pick",.tup (al.map fB)]
 | .left o t=>.tup [.str "left",.str o,tt t]
 | .right o x=>.tup [.str "right",.str o,.int x]
 | .first t=>.tup [.str "first",tt t]
 | .back i=>.tup [.str "back",.int (i:Int)]
inductive Pc where
 | word (x:Str)
 | part (d:Int) (t:Tm)
def Et:Pc->T
 | .word x=>.str x
 | .part d t=>.tup [.int d,tt t]
inductive Hd where
 | no
 | tm (t:Tm)
 | made (c:Str) (ms:List Nat)
def hT:Hd->T
 | .no=>.non
 | .tm t=>tt t
 | .made c ms=>.tup [.str "made",.str c,.tup (ms.map Cw)]
inductive En where
 | no | told (x:Str) | stop (x:Str) | stuck
def eT:En->T
 | .no=>.non
 | .told x=>.tup [.str "told",.str x]
 | .stop x=>.tup [.str "stop",.str x]
 | .stuck=>.tup [.str "stuck",.str ""]
structure Ev where
 ev:Str
 i:Nat
 l:Str
 k:Int
def kf (e:Ev):T:=.tup [.str e.ev,.int (e.i:Int),.str e.l,.int e.k]
structure St where
 h:Hd
 w:Int
 P:List Fm
 S:List Pc
 U:List Str
 D:List Tm
 L:List Str
 G:List Ev
 k:Int
 c:Int
 f:Int
 e:En
def Fs (A:Ad)(s:St):List (Str×T):=[("hand",hT s.h),("wanted",.int s.w),("pile",.ref (A 1)),("still",.ref (A 2)),("told",.ref (A 3)),("things",.ref (A 4)),("labels",.ref (A 5)),("log",.ref (A 6)),("steps",.int s.k),("cells",.int s.c),("firsts",.int s.f),("ending",eT s.e)]
def dD (D:List Tm):List (Jb×T):=D.zipIdx.map λx=>((Sum.inl (x.2:Int):Jb),tt x.1)
structure Rn (A:Ad)(C:Hw)(s:St):Prop where
 r:C (A 0)=some (.ins "Runner" (Fs A s))
 pp:C (A 1)=some (.lst (s.P.map Iw))
 ps:C (A 2)=some (.lst (s.S.map Et))
 pt:C (A 3)=some (.lst (s.U.map T.str))
 pd:C (A 4)=some (.dic (dD s.D))
 pl:C (A 5)=some (.lst (s.L.map T.str))
 pg:C (A 6)=some (.lst (s.G.map kf))
def Di (A:Ad):Prop:=∀i j:Fin 7,i≠j->A i≠A j
def Fr (A:Ad)(C C':Hw):Prop:=∀a o,(∀i,a≠A i)->C a=some o->C' a=some o
section
variable {A:Ad}{s:St}
def Sx:(Fs A s).lookup ("hand":Str)=some (hT s.h):=rfl
def uC:(Fs A s).lookup ("wanted":Str)=some (.int s.w:T):=rfl
def Lv:(Fs A s).lookup ("pile":Str)=some (.ref (A 1):T):=rfl
def G9:(Fs A s).lookup ("still":Str)=some (.ref (A 2):T):=rfl
def Aw:(Fs A s).lookup ("told":Str)=some (.ref (A 3):T):=rfl
def Ce:(Fs A s).lookup ("things":Str)=some (.ref (A 4):T):=rfl
def Kn:(Fs A s).lookup ("labels":Str)=some (.ref (A 5):T):=rfl
def qB:(Fs A s).lookup ("log":Str)=some (.ref (A 6):T):=rfl
def Lu:(Fs A s).lookup ("steps":Str)=some (.int s.k:T):=rfl
def yW:(Fs A s).lookup ("cells":Str)=some (.int s.c:T):=rfl
def Cf:(Fs A s).lookup ("firsts":Str)=some (.int s.f:T):=rfl
def On:(Fs A s).lookup ("ending":Str)=some (eT s.e):=rfl
def Tp:Vq "hand" (hT h) (Fs A s)=Fs A {s with h:=h}:=rfl
def ui:Vq "wanted" (.int x) (Fs A s)=Fs A {s with w:=x}:=rfl
def Kj:Vq "ending" (eT e) (Fs A s)=Fs A {s with e:=e}:=rfl
def rh:Vq "steps" (.int x) (Fs A s)=Fs A {s with k:=x}:=rfl
def rm:Vq "cells" (.int x) (Fs A s)=Fs A {s with c:=x}:=rfl
def uj:Vq "firsts" (.int x) (Fs A s)=Fs A {s with f:=x}:=rfl
def Nu {i:Nat}:List.lookup ("Runner":Str) [("Runner",i)]=some i:=rfl
def cv:(Fs A s).length<1000:=ZNB VS
end
section
variable {A:Ad}{C C' C2:Hw}{s s':St}{o:O}
def Fr.refl (A:Ad)(C:Hw):Fr A C C:=λ_ _ _ h=>h
def Fr.trans (a:Fr A C C')(b:Fr A C' C2):Fr A C C2:=λc o h1 h=>b c o h1 (a c o h1 h)
def Fr.up (f:Fr A C C')(i:Fin 7):Fr A C (up C' (A i) o):=λc u h1 h=>by rw[Z0 (h1 i)];exact f c u h1 h
def Fr.ex (f:Fr A C C')(e:Ex C' C2):Fr A C C2:=λc u h1 h=>e _ _ (f c u h1 h)
def Ex.fr (f:Ex C C'):Fr A C C':=λc u _ h=>f c u h
def Rn.ex (R:Rn A C s)(f:Ex C C'):Rn A C' s:=⟨f _ _ R.r,f _ _ R.pp,f _ _ R.ps,f _ _ R.pt,f _ _ R.pd,f _ _ R.pl,f _ _ R.pg⟩
def Rn.s0 (R:Rn A C s)(d:Di A)(s':St)(h1:s'.P=s.P:=by rfl)(h2:s'.S=s.S:=by rfl)(h3:s'.U=s.U:=by rfl)(h4:s'.D=s.D:=by rfl)(h5:s'.L=s.L:=by rfl)(h6:s'.G=s.G:=by rfl):Rn A (up C (A 0) (.ins "Runner" (Fs A s'))) s':=
 ⟨Zn,by rw[Z0 (d 1 0 (by decide)),h1];exact R.pp,by rw[Z0 (d 2 0 (by decide)),h2];exact R.ps,by rw[Z0 (d 3 0 (by decide)),h3];exact R.pt,by rw[Z0 (d 4 0 (by decide)),h4];exact R.pd,by rw[Z0 (d 5 0 (by decide)),h5];exact R.pl,by rw[Z0 (d 6 0 (by decide)),h6];exact R.pg⟩
def Rn.s1 (R:Rn A C s)(d:Di A)(P:List Fm):Rn A (up C (A 1) (.lst (P.map Iw))) {s with P:=P}:=
 ⟨by rw[Z0 (d 0 1 (by decide))];exact R.r,Zn,by rw[Z0 (d 2 1 (by decide))];exact R.ps,by rw[Z0 (d 3 1 (by decide))];exact R.pt,by rw[Z0 (d 4 1 (by decide))];exact R.pd,by rw[Z0 (d 5 1 (by decide))];exact R.pl,by rw[Z0 (d 6 1 (by decide))];exact R.pg⟩
def Rn.s2 (R:Rn A C s)(d:Di A)(S:List Pc):Rn A (up C (A 2) (.lst (S.map Et))) {s with S:=S}:=
 ⟨by rw[Z0 (d 0 2 (by decide))];exact R.r,by rw[Z0 (d 1 2 (by decide))];exact R.pp,Zn,by rw[Z0 (d 3 2 (by decide))];exact R.pt,by rw[Z0 (d 4 2 (by decide))];exact R.pd,by rw[Z0 (d 5 2 (by decide))];exact R.pl,by rw[Z0 (d 6 2 (by decide))];exact R.pg⟩
def Rn.s3 (R:Rn A C s)(d:Di A)(U:List Str):Rn A (up C (A 3) (.lst (U.map T.str))) {s with U:=U}:=
 ⟨by rw[Z0 (d 0 3 (by decide))];exact R.r,by rw[Z0 (d 1 3 (by decide))];exact R.pp,by rw[Z0 (d 2 3 (by decide))];exact R.ps,Zn,by rw[Z0 (d 4 3 (by decide))];exact R.pd,by rw[Z0 (d 5 3 (by decide))];exact R.pl,by rw[Z0 (d 6 3 (by decide))];exact R.pg⟩
def Rn.s4 (R:Rn A C s)(d:Di A)(D:List Tm):Rn A (up C (A 4) (.dic (dD D))) {s with D:=D}:=
 ⟨by rw[Z0 (d 0 4 (by decide))];exact R.r,by rw[Z0 (d 1 4 (by decide))];exact R.pp,by rw[Z0 (d 2 4 (by decide))];exact R.ps,by rw[Z0 (d 3 4 (by decide))];exact R.pt,Zn,by rw[Z0 (d 5 4 (by decide))];exact R.pl,by rw[Z0 (d 6 4 (by decide))];exact R.pg⟩
def Rn.s5 (R:Rn A C s)(d:Di A)(L:List Str):Rn A (up C (A 5) (.lst (L.map T.str))) {s with L:=L}:=
 ⟨by rw[Z0 (d 0 5 (by decide))];exact R.r,by rw[Z0 (d 1 5 (by decide))];exact R.pp,by rw[Z0 (d 2 5 (by decide))];exact R.ps,by rw[Z0 (d 3 5 (by decide))];exact R.pt,by rw[Z0 (d 4 5 (by decide))];exact R.pd,Zn,by rw[Z0 (d 6 5 (by decide))];exact R.pg⟩
def Rn.s6 (R:Rn A C s)(d:Di A)(G:List Ev):Rn A (up C (A 6) (.lst (G.map kf))) {s with G:=G}:=
 ⟨by rw[Z0 (d 0 6 (by decide))];exact R.r,by rw[Z0 (d 1 6 (by decide))];exact R.pp,by rw[Z0 (d 2 6 (by decide))];exact R.ps,by rw[Z0 (d 3 6 (by decide))];exact R.pt,by rw[Z0 (d 4 6 (by decide))];exact R.pd,by rw[Z0 (d 5 6 (by decide))];exact R.pl,Zn⟩
end
def gP {i:Nat}:Wz (dD D) (.inl (i:Int))=(D[i]?).map tt:=by
 have key:∀(D:List Tm) (b i:Nat),Wz ((D.zipIdx b).map λx=>((Sum.inl (x.2:Int):Jb),tt x.1)) (.inl ((b+i:Nat):Int))=(D[i]?).map tt:=by
  intro D
  induction D with
  | nil=>intro b i;rfl
  | cons t D ih=>
   intro b i;rw[List.zipIdx_cons,YI];unfold Wz
   cases i with
   | zero=>rw[List.find?_cons_of_pos (by simp)];simp
   | succ i=>
    rw[List.find?_cons_of_neg (by simp;omega)];have:=ih (b+1) i;unfold Wz at this;rw[show b+1+i=b+(i+1) by omega] at this;simpa using this
 have:=key D 0 i;rw[Nat.zero_add] at this;exact this
def gN:Nx (dD D) (.inl (D.length:Int)) (tt t)=dD (D++[t]):=by
 unfold Nx;rw[XX]
 ·unfold dD;rw[List.zipIdx_append,List.map_append];simp
 ·rw[RX];rintro⟨kv,hk,e⟩;unfold dD at hk;obtain⟨z,hz,rfl⟩:=XR.mp hk;have:=List.mem_zipIdx hz;simp at e;omega
def gO:(dD D).length=D.length:=by unfold dD;simp
section
variable {A:Ad}{C:Hw}{s:St}{Q:WK}{χ:WX}{n i:Nat}{τ:Sw}{f m:Str}{b:WS}{D:We}{Pc:Calls}{Qg:Sw->Hw->Prop}{v:T}
def gs (hp:Vq f v (Fs A s)=Fs A s')(R:Rn A C s)(q:Qg (some (.ref (A 0))::τ) (up C (A 0) (.ins "Runner" (Fs A s')))):O8 VE f (Zd 0) v (some (.ref (A 0))::τ) C Qg χ:=
 ⟨_,VS,_,_,_,VS,R.r,.head _,cv,hp▸q⟩
def xI:(Fs A s).lookup ("note":Str)=none:=rfl
def qw:(Fs A s).lookup ("bear":Str)=none:=rfl
def qv:(Fs A s).lookup ("keep":Str)=none:=rfl
def mv:(Fs A s).lookup ("enter":Str)=none:=rfl
def yV:(Fs A s).lookup ("come_back":Str)=none:=rfl
def G6:(Fs A s).lookup ("mark_for":Str)=none:=rfl
def qu:(Fs A s).lookup ("make":Str)=none:=rfl
def hV:(Fs A s).lookup ("bind":Str)=none:=rfl
def Ls:(Fs A s).lookup ("take_frame":Str)=none:=rfl
def T1:(Fs A s).lookup ("go_into":Str)=none:=rfl
def yO:(Fs A s).lookup ("use_value":Str)=none:=rfl
def Ar:(Fs A s).lookup ("take_apart":Str)=none:=rfl
def yR:(Fs A s).lookup ("take_step":Str)=none:=rfl
def Aq:(Fs A s).lookup ("tell_value":Str)=none:=rfl
def yQ:(Fs A s).lookup ("tell_next":Str)=none:=rfl
def yS:(Fs A s).lookup ("settle":Str)=none:=rfl
def u9:(Fs A s).lookup ("advance":Str)=none:=rfl
def u8:(Fs A s).lookup ("outcome":Str)=none:=rfl
def ab:(Fs A s).lookup ("go":Str)=none:=rfl
def nt (s:St)(ev:Str)(i:Nat)(l:Str):Ev:=⟨ev,i,l,s.k⟩
def Zbn {xs:List T}(h:xs[i]?=some x):Q7 xs (i:Int)=some x:=by
 unfold Q7;have hi:i<xs.length:=(PY.mp h).1;simp[qI,hi];exact(PY.mp h).2
def xi {j:Nat}(d:Di A)(R:Rn A C s)(hj:s.L[j]?=some l)(hg:s.G.length<=100000)(q:Q .non (up C (A 6) (.lst ((s.G++[nt s ev j l]).map kf)))):Z9 pr (n+1) Dc [.ref (A 0),.str ev,.int (j:Int)] C Q χ:=by
 refine Ek VS ?_;refine⟨_,VS,_,_,_,_,VS,R.r,.head _,qB,⟨_,_,VS,R.pg⟩,?_⟩;refine⟨_,VS,_,VS,_,VS,_,_,_,_,VS,R.r,.head _,Kn,_,VS,?_⟩;have e:s.G.map kf++[kf (nt s ev j l)]=(s.G++[nt s ev j l]).map kf:=by rw[XL];rfl
 rw[<-e] at q;refine⟨_,_,R.pl,Zbn (x:=.str l) (by rw[XM,hj];rfl),_,VS,_,_,_,_,VS,R.r,.head _,Lu,ZNB VS,_,_,_,VS,VS,R.pg,Vc (by rw[XI];exact hg),q⟩
end
open PySem PySem.Spec PyProof.Rows L2 WL
def Ii (s:St)(l:Str):St:={s with L:=s.L++[l],G:=s.G++[nt s "born" s.L.length l]}
def yX (s:St)(t:Tm):St:={s with D:=s.D++[t]}
def og:Tm->Bool
 | .at_ _=>true
 | _=>false
def Ql:Hd->Bool
 | .no=>false
 | .tm t=>Qa t
 | .made _ _=>true
def W1 (s:St)(l:Str)(t:Tm):St:=if og t=true then s else yX (Ii s l) t
def Ir (s:St):Tm->Nat
 | .at_ i=>i
 | _=>s.L.length
def iY (h:og t=true):tt t=Cw (Ir s t):=by cases t<;>first | rfl | cases h
def Lr (h:og t=false):Ir s t=s.L.length:=by cases t<;>first | rfl | cases h
def Zbe {r:List T}(e:tt t=.tup (.str w::r)):Hg (.str w) [.str "at",.str "shut",.str "ring"]=og t:=by
 cases t<;>(unfold tt at e;injection e with e;injection e with e _;injection e with e;subst e;first | (show _=false;decide+kernel) | (show _=true;decide+kernel))
def bg {r:List T}(e:hT h=.tup (.str w::r)):Hg (.str w) [.str "number",.str "fun",.str "made"]=Ql h:=by
 cases h with
 | no=>cases e
 | made c ms=>unfold hT at e;injection e with e;injection e with e _;injection e with e;subst e;show _=true;decide+kernel
 | tm t=>cases t<;>(unfold hT tt at e;injection e with e;injection e with e _;injection e with e;subst e;first | (show _=false;decide+kernel) | (show _=true;decide+kernel))
def xS {h:Hd}(n:h≠.no):∃w r,hT h=.tup (.str w::r):=by
 cases h with
 | no=>exact absurd VS n
 | made c ms=>exact⟨_,_,VS⟩
 | tm t=>exact tZ t
section
variable {A:Ad}{C:Hw}{s:St}{Q:WK}{χ:WX}{n:Nat}
def ug (q:Q (.bl (og t)) C):Z9 pr (n+1) uI [tt t] C Q χ:=by
 obtain⟨w,r,e⟩:=tZ t;rw[<-Zbe e] at q;rw[e];exact vY VS ⟨_,VS,_,Yl,U7,by decide,q⟩
def Gf {h:Hd}(hn:h≠.no)(q:Q (.bl (Ql h)) C):Z9 pr (n+1) xP [hT h] C Q χ:=by
 obtain⟨w,r,e⟩:=xS hn;rw[<-bg e] at q;rw[e];exact jM VS ⟨_,VS,_,Yl,U7,by decide,q⟩
def sT (d:Di A)(R:Rn A C s)(hL:s.L.length<=100000)(hg:s.G.length<=100000)(q:∀C',Fr A C C'->Rn A C' (Ii s l)->Q (Cw s.L.length) C'):Z9 pr (n+2) Dh [.ref (A 0),.str l] C Q χ:=by
 refine Ep VS ?_;refine⟨_,VS,_,_,_,_,VS,R.r,.head _,Kn,_,VS,_,R.pl,?_⟩;refine⟨_,VS,_,_,_,_,VS,R.r,.head _,Kn,⟨_,_,VS,R.pl⟩,_,VS,_,_,_,VS,VS,R.pl,Vc (by rw[XI];exact hL),?_⟩;have e:s.L.map T.str++[.str l]=(s.L++[l]).map T.str:=by rw[XL];rfl
 have el:((s.L.map T.str).length:Int)=((s.L.length:Nat):Int):=by rw[XI]
 rw[e,el];have R1:=R.s5 d (s.L++[l]);refine⟨_,VS,_,_,_,_,VS,R1.r,Nu,xI,_,VS,?_⟩;dsimp only[Zg];refine xi (n:=n) (j:=s.L.length) (l:=l) d R1 (by simp) hg ?_;exact⟨_,VS,ZNB VS,q _ (((Fr.refl _ _).up 5).up 6) (R1.s6 d _)⟩
def sQ (d:Di A)(R:Rn A C s)(hD:s.D.length<=100000)(q:∀C',Fr A C C'->Rn A C' (yX s t)->Q .non C'):Z9 pr (n+1) De [.ref (A 0),.int (s.D.length:Int),tt t] C Q χ:=by
 refine Em VS ?_;refine⟨_,VS,_,VS,_,_,_,_,VS,R.r,.head _,Ce,_,VS,_,_,_,VS,VS,R.pd,Vc (by rw[gO];exact hD),?_⟩;rw[gN];exact q _ ((Fr.refl _ _).up 4) (R.s4 d _)
def T0 {h:Hd}{f:Fm}(d:Di A)(R:Rn A C s)(hl:s.P.length<=100000)(q:∀C',Fr A C C'->Rn A C' {s with P:=s.P++[f],h:=h}->Q .non C'):Z9 pr (n+1) Kt [.ref (A 0),hT h,Iw f] C Q χ:=by
 refine Kc VS ?_;refine⟨_,VS,_,_,_,_,VS,R.r,.head _,Lv,⟨_,_,VS,R.pp⟩,_,VS,_,_,_,VS,VS,R.pp,Vc (by rw[XI];exact hl),?_⟩;have e:s.P.map Iw++[Iw f]=(s.P++[f]).map Iw:=by rw[XL];rfl
 rw[e];have R1:=R.s1 d (s.P++[f]);refine⟨_,VS,gs (χ:=χ) Tp R1 ?_⟩;exact q _ (((Fr.refl _ _).up 1).up 0) (R1.s0 d _)
def Lh {P:List Fm}{f:Fm}(d:Di A)(R:Rn A C s)(hP:s.P=P++[f])(q:∀C',Fr A C C'->Rn A C' {s with P:=P}->Q (Iw f) C'):Z9 pr (n+1) O6 [.ref (A 0)] C Q χ:=by
 refine Oy VS ?_;have hpp:=R.pp;rw[hP,XL] at hpp;refine⟨_,VS,_,_,_,_,VS,R.r,.head _,Lv,⟨_,_,VS,hpp⟩,_,_,_,VS,VS,hpp,(by simp:(P.map Iw++[f].map Iw)[(P.map Iw++[f].map Iw).length-1]?=some (Iw f)),?_⟩;have e:(P.map Iw++[f].map Iw).dropLast=P.map Iw:=by simp
 rw[e];exact q _ ((Fr.refl _ _).up 1) (R.s1 d P)
def oV {j:Nat}(d:Di A)(R:Rn A C s)(hj:s.L[j]?=some l)(ht:s.D[j]?=some t)(hg:s.G.length<=100000)(hl:s.P.length<=100000)(q:∀C',Fr A C C'->Rn A C' {s with P:=s.P++[.back j],h:=.tm t,G:=s.G++[nt s "enter" j l]}->Q .non C'):Z9 pr (n+2) Fg [.ref (A 0),.int (j:Int)] C Q χ:=by
 refine Hs VS ?_;refine⟨_,VS,_,_,_,_,VS,R.r,Nu,xI,_,VS,?_⟩;dsimp only[Zg];refine xi (n:=n) (ev:="enter") d R hj hg ?_;have R1:=R.s6 d (s.G++[nt s "enter" j l]);refine⟨_,VS,_,_,_,_,VS,R1.r,Nu,T1,_,VS,_,_,_,_,VS,R1.r,.head _,Ce,_,VS,?_⟩;refine⟨_,_,_,tt t,VS,VS,.inl R1.pd,by rw[gP];exact congrArg (Option.map tt) ht,_,VS,ZNB VS,?_⟩;dsimp only[Zg];exact T0 (n:=n) (h:=.tm t) (f:=.back j) d R1 hl λC' hF R'=>q C' (((Fr.refl _ _).up 6).trans hF) R'
def yo {j:Nat}(d:Di A)(R:Rn A C s)(hj:s.L[j]?=some l)(hg:s.G.length<=100000)(q:∀C',Fr A C C'->Rn A C' {s with G:=s.G++[nt s "back" j l]}->Q .non C'):Z9 pr (n+2) N7 [.ref (A 0),.int (j:Int)] C Q χ:=by
 refine Nr VS ?_;refine⟨_,VS,_,_,_,_,VS,R.r,Nu,xI,_,VS,?_⟩;dsimp only[Zg];exact xi (n:=n) (ev:="back") d R hj hg (q _ ((Fr.refl _ _).up 6) (R.s6 d _))
def Ge (d:Di A)(R:Rn A C s)(hDL:s.D.length=s.L.length)(hL:s.L.length<=100000)(hg:s.G.length<=100000)(q:∀C',Fr A C C'->Rn A C' (W1 s l t)->Q (Cw (Ir s t)) C'):Z9 pr (n+3) Lx [.ref (A 0),.str l,tt t] C Q χ:=by
 refine Mu VS ⟨_,VS,?_⟩;dsimp only[Zg];refine ug (n:=n+1) ⟨_,VS,?_⟩
 cases c:og t with
 | true=>
  refine Xs ⟨_,VS,?_⟩;have:=q C (Fr.refl _ _);unfold W1 at this;rw[XY c,<-iY c] at this;exact this R
 | false=>
  refine Jh ?_;refine⟨_,VS,_,_,_,_,VS,R.r,Nu,qw,_,VS,?_⟩;dsimp only[Zg];refine sT (n:=n) d R hL hg λC1 hF1 R1=>?_;refine⟨_,VS,_,_,_,_,VS,R1.r,Nu,qv,_,VS,_,Jc,_,VS,?_⟩;have e:((s.L.length:Nat):Int)=(((Ii s l).D.length:Nat):Int):=by show _=((s.D.length:Nat):Int);rw[hDL]
  dsimp only[Zg];rw[e];refine sQ (n:=n+1) d R1 (by show s.D.length<=_;omega) λC2 hF2 R2=>⟨_,VS,?_⟩;have:=q C2 (hF1.trans hF2);unfold W1 at this;rw[XX (by rw[c];decide),Lr c] at this;exact this R2
end
open PySem PySem.Spec PyProof.Rows L2 WL
def Rn.fresh (R:Rn A C s)(h:C p=none):∀i,p≠A i:=λi e=>by
 subst e
 match i with
 | 0=>rw[R.r] at h;cases h
 | 1=>rw[R.pp] at h;cases h
 | 2=>rw[R.ps] at h;cases h
 | 3=>rw[R.pt] at h;cases h
 | 4=>rw[R.pd] at h;cases h
 | 5=>rw[R.pl] at h;cases h
 | 6=>rw[R.pg] at h;cases h
def Rn.off {p:WP}(R:Rn A C s)(h:∀i,p≠A i):Rn A (up C p o) s:=
 ⟨by rw[Z0 (h 0).symm];exact R.r,by rw[Z0 (h 1).symm];exact R.pp,by rw[Z0 (h 2).symm];exact R.ps,by rw[Z0 (h 3).symm];exact R.pt,by rw[Z0 (h 4).symm];exact R.pd,by rw[Z0 (h 5).symm];exact R.pl,by rw[Z0 (h 6).symm];exact R.pg⟩
def E9 (c:Str)(i:Nat):Str:=Str.empty++c++(".":Str)++Str.ofString (toString ((i:Nat):Int))
def sA (s:St)(c:Str)(ts:List Tm):Nat->St
 | 0=>s
 | i+1=>match ts[i]? with | some t=>W1 (sA s c ts i) (E9 c (i+1)) t | none=>sA s c ts i
def mA (s:St)(c:Str)(ts:List Tm):Nat->List Nat
 | 0=>[]
 | i+1=>match ts[i]? with | some t=>mA s c ts i++[Ir (sA s c ts i) t] | none=>mA s c ts i
def mn {s:St}(h:s.D.length=s.L.length):(W1 s l t).D.length=(W1 s l t).L.length/\(W1 s l t).L.length<=s.L.length+1/\(W1 s l t).G.length<=s.G.length+1:=by
 unfold W1
 split
 ·exact⟨h,by omega,by omega⟩
 ·simp only[yX,Ii,List.length_append,List.length_cons,List.length_nil];omega
def sV {s:St}(h:s.D.length=s.L.length):∀i,(sA s c ts i).D.length=(sA s c ts i).L.length/\(sA s c ts i).L.length<=s.L.length+i/\(sA s c ts i).G.length<=s.G.length+i
 | 0=>⟨h,XE _,XE _⟩
 | i+1=>by
  obtain⟨a,b,e⟩:=sV h i;unfold sA
  cases ts[i]? with
  | none=>exact⟨a,by simp only;omega,by simp only;omega⟩
  | some t=>
   obtain⟨a',b',e'⟩:=mn (l:=E9 c (i+1)) (t:=t) a;exact⟨a',by simp only;omega,by simp only;omega⟩
def hW {ts:List Tm}(h:ts.length<=2):∀i,(mA s c ts i).length<=1000:=λi=>by
 have key:∀i,(mA s c ts i).length<=min i ts.length:=λi=>by
  induction i with
  | zero=>simp[mA]
  | succ i ih=>
   unfold mA
   cases e:ts[i]? with
   | none=>simp only;omega
   | some t=>
    have:=(PY.mp e).1;simp only[List.length_append,List.length_cons,List.length_nil];omega
 have:=key i;omega
def Ye (s:St)(c:Str):St:=if c="Cons" then {s with c:=s.c+1} else s
def Rz (s:St)(c:Str)(ts:List Tm):St:={sA (Ye s c) c ts ts.length with h:=.made c (mA (Ye s c) c ts ts.length)}
def uB {i:Nat}(h:i<=100):((i:Nat):Int).natAbs.log2<1920:=by
 by_cases h0:i=0
 ·subst h0;decide
 ·exact(Nat.log2_lt (by omega)).mpr (XG (show i<2^7 by omega) (Nat.pow_le_pow_right (by decide) (by decide)))
def mx {c:Str}{i:Nat}(hc:c.length<=4)(hi:i=1\/i=2):(Str.empty++c).length<=4/\(Str.empty++c++(".":Str)).length<=5/\(E9 c i).length<=6:=by
 have h0:(Str.empty++c).length=Str.empty.length+c.length:=YC _ _;have h1:(Str.empty++c++(".":Str)).length=(Str.empty++c).length+(".":Str).length:=YC _ _;have h2:(E9 c i).length=(Str.empty++c++(".":Str)).length+(Str.ofString (toString ((i:Nat):Int))).length:=YC _ _;have e0:Str.empty.length=0:=by decide
 have e1:(".":Str).length=1:=by decide+kernel
 have e2:(Str.ofString (toString ((i:Nat):Int))).length=1:=by rcases hi with rfl | rfl<;>decide+kernel
 omega
section
variable {A:Ad}{C:Hw}{s:St}{Q:WK}{χ:WX}{n:Nat}
def sP {c:Str}{ts:List Tm}(d:Di A)(R:Rn A C s)(hc:c.length<=4)(h2:ts.length<=2)(hDL:s.D.length=s.L.length)(hL:s.L.length<=90000)(hg:s.G.length<=90000)
  (q:∀C',Fr A C C'->Rn A C' (Rz s c ts)->Q .non C'):Z9 pr (n+4) Dd [.ref (A 0),.str c,.tup (ts.map tt)] C Q χ:=by
 refine El VS ?_;have fin:∀C1,Fr A C C1->Rn A C1 (Ye s c)->Ui (Z9 pr (n+3)) {nx:=λ_ C'=>Q .non C',rt:=Q,xc:=χ} [some (.ref (A 0)),some (.str c),some (.tup (ts.map tt)),none,none,none] C1:=by
  intro C1 hF1 R1;have hDL':(Ye s c).D.length=(Ye s c).L.length:=by unfold Ye;split<;>exact hDL
  have hL':(Ye s c).L.length<=90000:=by unfold Ye;split<;>exact hL
  have hg':(Ye s c).G.length<=90000:=by unfold Ye;split<;>exact hg
  have emk:Rz s c ts={sA (Ye s c) c ts ts.length with h:=.made c (mA (Ye s c) c ts ts.length)}:=rfl;rw[emk] at q;generalize Ye s c=s1 at R1 hDL' hL' hg' q;refine⟨ZNB VS,λa ha=>?_⟩;have hfr:=R1.fresh ha;have R1':=R1.ex (Ex.new (o:=.lst []) ha);refine⟨_,VS,_,VS,?_⟩;refine Tu (λi τ C'=>∃x4 x5,τ=[some (.ref (A 0)),some (.str c),some (.tup (ts.map tt)),some (.ref a),x4,x5]/\Fr A C C'/\Rn A C' (sA s1 c ts i)/\C' a=some (.lst ((mA s1 c ts i).map Cw))) ⟨none,none,VS,hF1.ex (Ex.new ha),R1',Zn⟩ (λ_ _ _ _ _=>trivial) ?_ ?_
  ·rintro i x τ C' N hx ⟨x4,x5,rfl,hF,R2,hC⟩ hN;have hi:i<ts.length:=by have:=(PY.mp hx).1;rw[Lq,XI] at this;exact this
   have hti:ts[i]?=some (ts[i]'hi):=by simp[hi]
   generalize ts[i]'hi=t at hti;rw[vi (x:=tt t) (by rw[XM,hti];rfl)] at hx
   cases hx
   obtain⟨l1,l2,l3⟩:=sV (c:=c) (ts:=ts) hDL' i;obtain⟨k1,k2,k3⟩:=mx (i:=i+1) hc (by omega);refine⟨_,VS,_,_,VS,_,_,VS,VS,?_⟩;refine⟨_,VS,⟨_,_,VS,hC⟩,_,VS,_,_,_,_,VS,R2.r,Nu,G6,?_⟩;refine⟨_,VS,.inl ⟨_,VS,Ym (by omega),_,VS,Ym (by omega),_,VS,Ym (by omega),_,VS,.inr ⟨_,VS,uB (by omega),_,VS,Ym (by exact XN k3 (by omega)),?_⟩⟩⟩;refine⟨_,VS,?_⟩;dsimp only[Zg];have hm:=Ge (A:=A) (C:=C') (s:=sA s1 c ts i) (l:=E9 c (i+1)) (t:=t) (n:=n) (χ:=χ) (Q:=λv C2=>∃a_1 xs y,(T.ref a)=.ref a_1/\[v]=[y]/\C2 a_1=some (.lst xs)/\xs.length<sizeLine/\N [some (.ref (A 0)),some (.str c),some (.tup (ts.map tt)),some (.ref a),some (.int ((i+1:Nat):Int)),some (tt t)] (up C2 a_1 (.lst (xs++[y])))) d R2 l1 (by omega) (by omega) λC2 hF2 R3=>?_
   ·exact hm
   ·have hC2:=hF2 _ _ hfr hC;have hlm:(mA s1 c ts i).length<=1000:=hW h2 i;refine⟨_,_,_,VS,VS,hC2,Vc (by rw[XI];omega),hN _ _ ⟨_,_,VS,?_,?_,?_⟩⟩
    ·exact λb o h1 h=>by
      have:b≠a:=λe=>by subst e;have z:=hF1 _ _ h1 h;rw[ha] at z;cases z
      rw[Z0 this];exact hF2 _ _ h1 (hF _ _ h1 h)
    ·have e:sA s1 c ts (i+1)=W1 (sA s1 c ts i) (E9 c (i+1)) t:=by rw[sA,hti]
     rw[e];exact R3.off hfr
    ·have e:mA s1 c ts (i+1)=mA s1 c ts i++[Ir (sA s1 c ts i) t]:=by rw[mA,hti]
     rw[e,XL];exact Zn
  ·rintro τ C' ⟨x4,x5,rfl,hF,R2,hC⟩;rw[Lq,XI] at R2 hC;refine⟨_,VS,_,VS,_,VS,_,hC,ZNB VS,?_⟩;exact gs (χ:=χ) (Tp (h:=.made c (mA s1 c ts ts.length))) R2 (q _ (hF.up 0) (R2.s0 d _))
 refine⟨_,VS,?_⟩;by_cases hcs:c="Cons"
 ·refine W0 (v:=true) (by rw[hcs];exact XU _) ⟨true,VS,Xs ?_⟩;refine⟨_,VS,_,_,_,_,VS,R.r,.head _,yW,?_⟩;refine gs (χ:=χ) rm R ?_;refine fin _ ((Fr.refl _ _).up 0) ?_;have e:Ye s c={s with c:=s.c+1}:=by unfold Ye;rw[XY hcs]
  rw[e];exact R.s0 d _
 ·refine W0 (v:=false) (by simpa using hcs) ⟨false,VS,Jh ?_⟩;refine fin _ (Fr.refl _ _) ?_;have e:Ye s c=s:=by unfold Ye;rw[XX hcs]
  rw[e];exact R
end
open PySem PySem.Spec PyProof.Rows L2 WL
def bA (s:St)(ns:List Str):Nat->St
 | 0=>s
 | i+1=>match ns[i]? with | some x=>Ii (bA s ns i) x | none=>bA s ns i
def mB (b:Nat)(ns:List Str):Nat->Mn
 | 0=>[]
 | i+1=>match ns[i]? with | some x=>mB b ns i++[(x,b+i)] | none=>mB b ns i
def w6 {ns:List Str}:∀i,i<=ns.length->(bA s ns i).L.length=s.L.length+i/\(bA s ns i).G.length=s.G.length+i/\(bA s ns i).D=s.D/\(bA s ns i).P=s.P/\(bA s ns i).S=s.S/\(bA s ns i).U=s.U/\(bA s ns i).k=s.k/\(bA s ns i).w=s.w/\(bA s ns i).c=s.c/\(bA s ns i).f=s.f/\(bA s ns i).e=s.e
 | 0,_=>⟨VS,VS,VS,VS,VS,VS,VS,VS,VS,VS,VS⟩
 | i+1,h=>by
  obtain⟨h1,h2,h3⟩:=w6 (s:=s) (ns:=ns) i (by omega);have e:ns[i]?=some (ns[i]'(by omega)):=by simp[show i<ns.length by omega]
  unfold bA;rw[e];refine⟨?_,?_,h3⟩
  ·show((bA s ns i).L++[_]).length=_;rw[PX,h1];rfl
  ·show((bA s ns i).G++[_]).length=_;rw[PX,h2];rfl
def Om {ns:List Str}:∀i,i<=ns.length->(mB b ns i).map (·.1)=ns.take i
 | 0,_=>by simp[mB]
 | i+1,h=>by
  have e:ns[i]?=some (ns[i]'(by omega)):=by simp[show i<ns.length by omega]
  rw[mB,e,XL,Om i (by omega),YD,e];rfl
def lV {ns:List Str}:∀{i j:Nat} {x:Str},i<=ns.length->j<i->ns[j]?=some x->(mB b ns i)[j]?=some (x,b+j)
 | 0,_,_,_,h,_=>by omega
 | i+1,j,x,hi,hj,hx=>by
  have e:ns[i]?=some (ns[i]'(by omega)):=by simp[show i<ns.length by omega]
  have hl:(mB b ns i).length=i:=by have:=congrArg List.length (Om (b:=b) (ns:=ns) i (by omega));rw[XI,YM] at this;omega
  rw[mB,e];by_cases c:j=i
  ·subst c;rw[e] at hx;cases hx;simp[hl]
  ·simp only;rw[QL (by omega)];exact lV (by omega) (by omega) hx
def qz {ns:List Str}:∀{i:Nat},i<=ns.length->∀kv∈mB b ns i,kv.2<b+i
 | 0,_,kv,h=>by simp[mB] at h
 | i+1,hi,kv,h=>by
  have e:ns[i]?=some (ns[i]'(by omega)):=by simp[show i<ns.length by omega]
  rw[mB,e] at h;simp only[List.mem_append,List.mem_singleton] at h
  rcases h with h | rfl
  ·have:=qz (i:=i) (by omega) kv h;omega
  ·show b+i<_;omega
def Ao (s:St)(ns:List Str):Mn:=mB s.L.length ns ns.length
def vL (s:St)(ns:List Str)(ts:List Tm)(B':Tm):St:={bA s ns ns.length with D:=s.D++ts,h:=.tm B'}
def As:(mT M).map (·.1)=M.map (·.1):=by unfold mT;rw[YE];rfl
section
variable {A:Ad}{C:Hw}{s:St}{Q:WK}{χ:WX}{n f:Nat}
def kZ {α:Type}{Z:List α}{x:α->Str}{o g:α->Tm}{B B':Tm}(d:Di A)(R:Rn A C s)(h5:Z.length<=5)(hn:(Z.map x).Nodup)(hDL:s.D.length=s.L.length)(hL:s.L.length<=90000)(hg:s.G.length<=90000)
  (hz:∀z∈Z,Pq f (tt (o z)) (mT (Ao s (Z.map x))) (tt (g z))) (hB:Pq f (tt B) (mT (Ao s (Z.map x))) (tt B')) (q:∀C',Fr A C C'->Rn A C' (vL s (Z.map x) (Z.map g) B')->Q .non C'):Z9 pr (n+f+6) Dg [.ref (A 0),.tup (Z.map λz=>.tup [.str (x z),tt (o z)]),tt B] C Q χ:=by
 refine Eo VS ?_;refine λa ha=>?_;have hfr:=R.fresh ha;have R0:=R.ex (Ex.new (o:=.dic []) ha);have hnl:(Z.map x).length=Z.length:=XI _;refine⟨_,VS,?_⟩;refine Tu (λi τ C'=>∃x4 x5,τ=[some (.ref (A 0)),some (.tup (Z.map λz=>.tup [.str (x z),tt (o z)])),some (tt B),some (.ref a),x4,x5]/\Fr A C C'/\Rn A C' (bA s (Z.map x) i)/\C' a=some (.dic (dm (mT (mB s.L.length (Z.map x) i))))) ⟨none,none,VS,(Fr.refl _ _).ex (Ex.new ha),R0,Zn⟩ (λ_ _ _ _ _=>trivial) ?_ ?_
 ·rintro i y τ C' N hx ⟨x4,x5,rfl,hF,R2,hC⟩ hN;rw[XM] at hx
  cases hzi:Z[i]? with
  | none=>rw[hzi] at hx;cases hx
  | some z=>
   rw[hzi] at hx
   cases hx
   have hi:i<Z.length:=(PY.mp hzi).1;have hni:(Z.map x)[i]?=some (x z):=by rw[XM,hzi];rfl
   obtain⟨b1,b2,b3⟩:=w6 (s:=s) (ns:=Z.map x) i (by omega);have hkey:(x z)∉(mB s.L.length (Z.map x) i).map (·.1):=λhm=>by
    rw[Om i (by omega)] at hm;obtain⟨j,hj⟩:=List.getElem?_of_mem hm;rw[List.getElem?_take] at hj
    split at hj
    ·rename_i hji;have:=(TX (i:=j) (j:=i) (by omega) hn).mp (by rw[hj,hni]);omega
    ·cases hj
   refine⟨_,VS,_,_,VS,_,_,VS,VS,?_⟩;refine⟨_,VS,_,_,_,_,VS,R2.r,Nu,qw,_,VS,?_⟩;dsimp only[Zg];refine sT (n:=n+f+3) (l:=(x z)) d R2 (by omega) (by omega) λC2 hF2 R3=>?_;have hC2:=hF2 _ _ hfr hC;refine⟨_,VS,_,VS,_,_,_,VS,VS,hC2,?_,?_⟩
   ·have hl:=congrArg List.length (Om (b:=s.L.length) (ns:=Z.map x) i (by omega));rw[XI,YM] at hl;rw[p9];unfold mT;rw[XI];exact Vc (by omega)
   ·rw[p0 (by rw[As];exact hkey),b1];refine hN _ _ ⟨_,_,VS,?_,?_,?_⟩
    ·exact λb o h1' h=>by
      have:b≠a:=λe=>by subst e;rw[ha] at h;cases h
      rw[Z0 this];exact hF2 _ _ h1' (hF _ _ h1' h)
    ·have e:bA s (Z.map x) (i+1)=Ii (bA s (Z.map x) i) (x z):=by rw[bA,hni]
     rw[e];exact R3.off hfr
    ·have e:mT (mB s.L.length (Z.map x) (i+1))=mT (mB s.L.length (Z.map x) i)++[((x z),Cw (s.L.length+i))]:=by rw[mB,hni];unfold mT;rw[XL];rfl
     rw[e];exact Zn
 ·rintro τ C' ⟨x4,x5,rfl,hF,R2,hC⟩;rw[XI] at R2 hC;have eM:mB s.L.length (Z.map x) Z.length=Ao s (Z.map x):=by unfold Ao;rw[hnl]
  rw[eM] at hC;obtain⟨b1,b2,b3,b4,b5,b6,b7,b8,b9,b10,b11⟩:=w6 (s:=s) (ns:=Z.map x) Z.length (by omega);generalize hs2:bA s (Z.map x) Z.length=s2 at R2 b1 b2 b3 b4 b5 b6 b7 b8 b9 b10 b11;refine⟨_,VS,?_⟩;refine Tu (λi τ C'=>∃x4 x5,τ=[some (.ref (A 0)),some (.tup (Z.map λz=>.tup [.str (x z),tt (o z)])),some (tt B),some (.ref a),x4,x5]/\Fr A C C'/\Rn A C' {s2 with D:=s.D++(Z.take i).map g}/\C' a=some (.dic (dm (mT (Ao s (Z.map x)))))) ⟨x4,x5,VS,hF,by rw[List.take_zero,TL,YK,<-b3];exact R2,hC⟩ (λ_ _ _ _ _=>trivial) ?_ ?_
  ·rintro i y τ C' N hx ⟨x4,x5,rfl,hF,R3,hC⟩ hN;rw[XM] at hx
   cases hzi:Z[i]? with
   | none=>rw[hzi] at hx;cases hx
   | some z=>
    rw[hzi] at hx
    cases hx
    have hi:i<Z.length:=(PY.mp hzi).1;have hni:(Z.map x)[i]?=some (x z):=by rw[XM,hzi];rfl
    have hget:Wz (dm (mT (Ao s (Z.map x)))) (.inr (x z))=some (Cw (s.L.length+i)):=by
     have hk:((mT (Ao s (Z.map x))).map (·.1)).Nodup:=by rw[As];unfold Ao;rw[Om _ (by omega),SU (by omega)];exact hn
     exact kj (kv:=((x z),Cw (s.L.length+i))) (i:=i) hk (by unfold mT Ao;rw[XM,lV (x:=x z) (by omega) (by omega) hni];rfl)
    have hzm:=QB hzi;refine⟨_,VS,_,_,VS,_,_,VS,VS,?_⟩;refine⟨_,VS,_,_,_,_,VS,R3.r,Nu,qv,?_⟩;refine⟨_,VS,_,VS,_,_,_,_,VS,VS,.inl hC,hget,_,Jc,?_⟩;refine⟨_,VS,_,VS,?_⟩;dsimp only[Zg];refine PT.put (hz z hzm).1 (hz z hzm).2.2 (n:=n) (.inl hC) λC2 hE2=>?_;have R4:=R3.ex hE2;have eD:((s.L.length+i:Nat):Int)=((({s2 with D:=s.D++(Z.take i).map g}:St).D.length:Nat):Int):=by
     show _=(((s.D++(Z.take i).map g).length:Nat):Int);rw[PX,XI,YM,hDL];congr 2;omega
    rw[eD];refine sQ (n:=n+f+4) d R4 (by show(s.D++(Z.take i).map g).length<=_;rw[PX,XI,YM];omega) λC3 hF3 R5=>?_;refine hN _ _ ⟨_,_,VS,(hF.ex hE2).trans hF3,?_,hF3 _ _ hfr (hE2 _ _ hC)⟩;have e:s.D++(Z.take (i+1)).map g=s.D++(Z.take i).map g++[g z]:=by rw[YD,hzi,XL,YL];rfl
    rw[e];exact R5
  ·rintro τ C' ⟨x4,x5,rfl,hF,R3,hC⟩;rw[XI,QK] at R3;refine⟨_,VS,_,VS,?_⟩;dsimp only[Zg];refine PT.put hB.1 hB.2.2 (n:=n) (.inl hC) λC2 hE2=>?_;have R4:=R3.ex hE2;refine gs (χ:=χ) (Tp (h:=.tm B')) R4 ?_;have:=q (up C2 (A 0) (.ins "Runner" (Fs A {s2 with D:=s.D++Z.map g,h:=.tm B'}))) ((hF.ex hE2).up 0);unfold vL at this;rw[hnl,hs2] at this;exact this (R4.s0 d _)
end
open PySem PySem.Spec PyProof.Rows L2 WL
def Q2 (o:Str)(x y:Int):Hd:=
 if o="<" then .made (if decide (x<y)=true then "Yes" else "No") [] else if o="=" then .made (if (x==y)=true then "Yes" else "No") []
 else .tm (.num ((if o="+" then x+y else if o="-" then x-y else x*y)%big))
def Tw (sh:Str)(al:List Al):Option Al:=al.find? λa=>decide (a.1=sh)
section
variable {C:Hw}{Q:WK}{χ:WX}{n f:Nat}
def wS (q:Q (.tup [.str "made",.str (if b=true then "Yes" else "No"),.tup []]) C):Z9 pr (n+1) mC [.bl b] C Q χ:=by
 refine oG VS ⟨_,VS,_,VS,?_⟩
 cases b
 ·exact Jh ⟨ZNB VS,ZNB VS,q⟩
 ·exact Xs ⟨ZNB VS,ZNB VS,q⟩
def xh {x y:Int}(hx:0<=x)(hx':x<big)(q:Q (hT (Q2 op x y)) C):Z9 pr (n+2) xO [.str op,.int x,.int y] C Q χ:=by
 refine jL VS ?_;have p:lI 10 18:=⟨by decide,by decide,by decide⟩;have hx'':x<1000000000000000000:=hx';unfold Q2 at q;by_cases c1:op="<"
 ·rw[XY c1] at q;refine Q3 VS c1 ⟨_,VS,_,VS,?_⟩;dsimp only[wK,Zg];exact wS q
 rw[XX c1] at q;refine W3 VS c1 ?_;by_cases c2:op="="
 ·rw[XY c2] at q;refine Q3 VS c2 ⟨_,VS,_,VS,aq VS ?_⟩;dsimp only[Zg];exact wS q
 rw[XX c2] at q;refine W3 VS c2 ?_;by_cases c3:op="+"
 ·rw[XY c3] at q;exact⟨_,VS,W0 (v:=true) (by rw[c3];exact XU _) ⟨true,VS,Xs ⟨_,VS,_,VS,_,VS,p,by decide,ZNB VS,q⟩⟩⟩
 rw[XX c3] at q;by_cases c4:op="-"
 ·rw[XY c4] at q;exact⟨_,VS,W0 (v:=false) (by simpa using c3) ⟨false,VS,Jh ⟨_,VS,W0 (v:=true) (by rw[c4];exact beq_self_eq_true _) ⟨true,VS,Xs ⟨_,VS,_,VS,_,VS,p,by decide,ZNB VS,q⟩⟩⟩⟩⟩
 rw[XX c4] at q;exact⟨_,VS,W0 (v:=false) (by simpa using c3) ⟨false,VS,Jh ⟨_,VS,W0 (v:=false) (by simpa using c4) ⟨false,VS,Jh ⟨_,VS,_,VS,.inl ⟨by omega,by omega⟩,_,VS,p,by decide,ZNB VS,q⟩⟩⟩⟩⟩
def sU {w:Str}{Jk:List T}{al:T}(hw:w≠"made")(q:Q .non C):Z9 pr (n+1) Qb [.tup (.str w::Jk),al] C Q χ:=
 Rv VS ⟨_,VS,_,Yl,ml (v:=false) (by simpa using hw) ⟨_,VS,Xs q⟩⟩
def yp {ms:T}(q:Q (match Tw sh al with | some a=>fB a | none=>.non) C):Z9 pr (n+1) Qb [.tup [.str "made",.str sh,ms],.tup (al.map fB)] C Q χ:=by
 refine Rv VS ⟨_,VS,_,Yl,ml (v:=true) (XU _) ⟨_,VS,Jh ⟨_,VS,?_⟩⟩⟩;unfold Tw at q;refine Tu (λi τ C'=>∃x2,τ=[some (.tup [.str "made",.str sh,ms]),some (.tup (al.map fB)),x2]/\C'=C/\(al.take i).find? (λa=>decide (a.1=sh))=none) ⟨none,VS,VS,VS⟩ (λ_ _ _ _ _=>trivial) ?_ ?_
 ·rintro i t τ C' N ht ⟨x2,rfl,rfl,hf⟩ hN;rw[XM] at ht
  cases hz:al[i]? with
  | none=>rw[hz] at ht;cases ht
  | some z=>
   rw[hz] at ht
   cases ht
   have hsplit:al=al.take i++z::al.drop (i+1):=by
    obtain⟨hi,hz'⟩:=PY.mp hz;rw[<-hz',<-QY hi,List.take_append_drop]
   have et:al.take (i+1)=al.take i++[z]:=by rw[YD,hz];rfl
   refine⟨_,VS,_,Yl,_,VS,_,Jc,?_⟩;by_cases c:z.1=sh
   ·have:al.find? (λa=>decide (a.1=sh))=some z:=by rw[hsplit,List.find?_append,hf];simp[c]
    rw[this] at q;exact cw (v:=true) (by rw[c];exact XU _) ⟨true,VS,Xs ⟨_,VS,q⟩⟩
   ·refine cw (v:=false) (by simpa using c) ⟨false,VS,Jh (hN _ _ ⟨_,VS,VS,?_⟩)⟩;rw[et,List.find?_append,hf];simp[c]
 ·rintro τ C' ⟨x2,rfl,rfl,hf⟩;rw[XI,QK] at hf;rw[hf] at q;exact q
def ky {ns:List Str}{ms:List Nat}(hl:ns.length=ms.length)(hn:ns.Nodup):tH Nx (ns.map Sum.inr) (ms.map Cw)=dm (mT (ns.zip ms)):=by
 have key:∀(ns:List Str) (ms:List Nat) (M:Mn),ns.Nodup->(∀x∈ns,x∉M.map (·.1))->((ns.map (Sum.inr:Str->Jb)).zip (ms.map Cw)).foldl (λa kv=>Nx a kv.1 kv.2) (dm (mT M))=dm (mT (M++ns.zip ms)):=by
  intro ns
  induction ns with
  | nil=>intro ms M _ _;simp
  | cons x ns ih=>
   intro ms M hn hd
   cases ms with
   | nil=>simp
   | cons m ms=>
    rw[YI,YI,List.zip_cons_cons,List.foldl_cons,List.zip_cons_cons];have e:Nx (dm (mT M)) (.inr x) (Cw m)=dm (mT (M++[(x,m)])):=by
     rw[p0 (by rw[As];exact hd x (by simp))];unfold mT;rw[List.map_append];rfl
    show List.foldl _ (Nx (dm (mT M)) (.inr x) (Cw m)) _=_;rw[e,ih ms (M++[(x,m)]) (SD.mp hn).2 (λy hy=>?_),YL]
    ·rfl
    ·rw[XL,XS,not_or];refine⟨hd y (by simp[hy]),?_⟩;intro h;simp at h;subst h;exact(SD.mp hn).1 hy
 have:=key ns ms [] hn (by simp);exact this
def sN {ms:List Nat}(ha:Tw sh al=some a)(hl:a.2.1.length=ms.length)(h5:a.2.1.length<=100)(hn:a.2.1.Nodup)(hB:PT f (tt a.2.2) (mT (a.2.1.zip ms)) B')(ht:∃l,B'=.tup l)(q:∀C',Ex C C'->Q B' C'):
  Z9 pr (n+f+6) qP [hT (.made sh ms),.tup (al.map fB)] C Q χ:=by
 refine tU VS ⟨_,VS,_,VS,?_⟩;dsimp only[Zg];refine yp (n:=n+f+4) ?_;rw[ha];refine⟨_,VS,VS,false,VS,Jh ⟨_,VS,_,V0,?_⟩⟩;refine⟨_,VS,_,Jc,_,VS,_,V0,?_⟩;refine⟨a.2.1,ms.map Cw,VS,by rw[XI];exact hl,by omega,λp hp=>?_⟩;rw[ky hl hn];dsimp only[Zg];exact PT.put (n:=n) (t':=B') hB ht (.inl Zn) λC' hE=>q C' ((Ex.new hp).trans hE)
def isFn:Hd->Bool
 | .tm (.fn _ _)=>true
 | _=>false
def yZ:Hd->Bool
 | .tm (.num _)=>true
 | _=>false
def Qd (h:Hd):Fm->Bool
 | .give _=>isFn h
 | .pick al=>match h with | .made c _=>(Tw c al).isSome | _=>false
 | .left _ _=>yZ h
 | .right _ _=>yZ h
 | .first _=>true
 | .back _=>true
def gw {r:List T}(e:hT h=.tup (.str w::r)):(w=="fun")=isFn h:=by
 cases h with
 | no=>cases e
 | made c ms=>unfold hT at e;injection e with e;injection e with e _;injection e with e;subst e;show _=false;decide+kernel
 | tm t=>cases t<;>(unfold hT tt at e;injection e with e;injection e with e _;injection e with e;subst e;first | (show _=false;decide+kernel) | (show _=true;decide+kernel))
def qK {r:List T}(e:hT h=.tup (.str w::r)):(w=="number")=yZ h:=by
 cases h with
 | no=>cases e
 | made c ms=>unfold hT at e;injection e with e;injection e with e _;injection e with e;subst e;show _=false;decide+kernel
 | tm t=>cases t<;>(unfold hT tt at e;injection e with e;injection e with e _;injection e with e;subst e;first | (show _=false;decide+kernel) | (show _=true;decide+kernel))
def zZ {r:List T}(e:tt t=.tup (.str w::r)):w≠"made":=by
 cases t<;>(unfold tt at e;injection e with e;injection e with e _;injection e with e;subst e;decide+kernel)
def qU {r:List T}{X:WE}{D:We}{τ:Sw}(q:X [some v,some (.tup (.str a::r))] C D.rt D.xc):Zq (Ju (Yu (Zf Jw (Zf Zv (Zd 1) (eC (.int 0))) (eC (.str a)))) (Yj X) Z8) B D [some v,some (.tup (.str a::r))] C:=
 ⟨_,VS,_,Yl,W0 (v:=true) (XU _) ⟨true,VS,Xs q⟩⟩
def Ly {a z:Str}{r:List T}{X B:WS}(h:(z==a)=false)(q:B D [some v,some (.tup (.str z::r))] C):Zq (Ju (Yu (Zf Jw (Zf Zv (Zd 1) (eC (.int 0))) (eC (.str a)))) X Z8) B D [some v,some (.tup (.str z::r))] C:=
 ⟨_,VS,_,Yl,W0 (v:=false) h ⟨false,VS,Jh q⟩⟩
def kX {h:Hd}(hn:h≠.no)(q:Q (.bl (Qd h fr)) C):Z9 pr (n+2) gy [hT h,Iw fr] C Q χ:=by
 refine kH VS ?_;obtain⟨w,r,e⟩:=xS hn
 cases fr with
 | give t=>
  have q':Q (.bl (isFn h)) C:=q;rw[<-gw e] at q';rw[e];exact qU (τ:=[]) ⟨_,VS,_,Yl,W0 VS q'⟩
 | pick al=>
  refine Ly (by decide+kernel) (qU (τ:=[]) ⟨_,VS,_,VS,_,Jc,?_⟩);dsimp only[Zg]
  cases h with
  | no=>exact absurd VS hn
  | made c ms=>
   refine yp (n:=n) ?_;have q':Q (.bl (Tw c al).isSome) C:=q
   cases ha:Tw c al with
   | none=>rw[ha] at q';exact⟨VS,q'⟩
   | some a=>rw[ha] at q';exact⟨VS,q'⟩
  | tm t=>
   have hw:=zZ e;rw[e];exact sU hw ⟨VS,q⟩
 | left o t=>
  have q':Q (.bl (yZ h)) C:=q;rw[<-qK e] at q';rw[e];exact Ly (by decide+kernel) (Ly (by decide+kernel) ⟨_,VS,_,Yl,W0 (v:=true) (XU _) ⟨true,VS,Xs (Xs ⟨_,VS,_,Yl,W0 VS q'⟩)⟩⟩)
 | right o x=>
  have q':Q (.bl (yZ h)) C:=q;rw[<-qK e] at q';rw[e];exact Ly (by decide+kernel) (Ly (by decide+kernel) ⟨_,VS,_,Yl,W0 (v:=false) (by decide+kernel) ⟨false,VS,Jh ⟨_,VS,_,Yl,W0 (v:=true) (XU _) ⟨true,VS,Xs ⟨_,VS,_,Yl,W0 VS q'⟩⟩⟩⟩⟩)
 | first t=>exact Ly (by decide+kernel) (Ly (by decide+kernel) ⟨_,VS,_,Yl,W0 (v:=false) (by decide+kernel) ⟨false,VS,Jh ⟨_,VS,_,Yl,W0 (v:=false) (by decide+kernel) ⟨false,VS,Jh q⟩⟩⟩⟩)
 | back i=>exact Ly (by decide+kernel) (Ly (by decide+kernel) ⟨_,VS,_,Yl,W0 (v:=false) (by decide+kernel) ⟨false,VS,Jh ⟨_,VS,_,Yl,W0 (v:=false) (by decide+kernel) ⟨false,VS,Jh q⟩⟩⟩⟩)
end
open PySem PySem.Spec PyProof.Rows L2 WL
abbrev N0 (v:Int):Str:=Str.ofString (toString v)
def Es:Hd->Int->List Pc
 | .tm (.num v),_=>[.word (N0 v)]
 | .tm (.fn _ _),_=>[.word "fun"]
 | .made c [],_=>[.word c]
 | .made c ms,D=>.word ("("++c)::(ms.flatMap λi=>[.word " ",.part D (.at_ i)])++[.word ")"]
 | _,_=>[]
def Dw (s:St):St:=match s.S.getLast? with
 | none=>{s with e:=.told (Txt.join "" s.U)}
 | some (.word x)=>{s with S:=s.S.dropLast,U:=s.U++[x]}
 | some (.part D t)=>if D<=0 then {s with S:=s.S.dropLast,U:=s.U++[("?":Str)]} else {s with S:=s.S.dropLast,w:=D,h:=.tm t}
def pZ (s:St):St:={s with S:=s.S++(Es s.h (s.w-1)).reverse,h:=.no}
def lW (s:St)(i:Nat):Str:=(s.L[i]?).getD ""
def uZ (s:St)(i:Nat):St:={s with P:=s.P.dropLast,G:=s.G++[nt s "back" i (lW s i)]}
def Qy:Hd->Option Str
 | .tm (.stop x)=>some x
 | _=>none
def Tq:Fm->Option Nat
 | .back i=>some i
 | _=>none
def Kw:En->Bool
 | .no=>true
 | _=>false
def Iq:Hd->Bool
 | .no=>true
 | _=>false
def one (s:St):Option St:=
 if Kw s.e=true then
  if Iq s.h=true then some (Dw s)
  else match Qy s.h with
  | some x=>some {s with e:=.stop x}
  | none=>if Ql s.h=true then
    match s.P.getLast? with
    | none=>some (pZ s)
    | some f=>match Tq f with
     | some i=>some (uZ s i)
     | none=>if Qd s.h f=true then none else some {s with e:=.stuck}
   else none
 else none
def mu (s:St):Nat:=if Kw s.e=true then(if Iq s.h=true then s.S.length+2 else if Ql s.h=true then s.P.length+s.S.length+12 else 1) else 0
def yd:Nat->St->St
 | 0,s=>s
 | m+1,s=>match one s with | some s'=>yd m s' | none=>s
def Tj (s:St):St:=yd (mu s) s
def lZ (s:St)(h:Hd)(f:Fm):St:={s with P:=s.P++[f],h:=h}
def zL (s:St):Tm->St
 | .call a b=>lZ s (.tm a) (.give b)
 | .does o a b=>lZ s (.tm a) (.left o b)
 | .ch e n cs ns bs=>lZ s (.tm e) (.pick ((List.finRange n).map λi=>(cs i,ns i,bs i)))
 | .first a b=>lZ {s with f:=s.f+1} (.tm a) (.first b)
 | .lt n xs ts b=>vL s (V9 xs) ((List.finRange n).map λi=>pu (mo (Ao s (V9 xs))) (ts i)) (pu (mo (Ao s (V9 xs))) b)
 | .shp0 c=>Rz s c []
 | .shp2 c a b=>Rz s c [a,b]
 | .at_ i=>{s with P:=s.P++[.back i],h:=.tm ((s.D[i]?).getD (.nm "")),G:=s.G++[nt s "enter" i (lW s i)]}
 | _=>s
def zT (s:St)(h:Hd):Fm->St
 | .give t=>match h with | .tm (.fn x b)=>{W1 s x t with h:=.tm (pu (mo [(x,Ir s t)]) b)} | _=>s
 | .pick al=>match h with | .made c ms=>(match Tw c al with | some a=>{s with h:=.tm (pu (mo (a.2.1.zip ms)) a.2.2)} | none=>s) | _=>s
 | .left o t=>match h with | .tm (.num v)=>lZ s (.tm t) (.right o v) | _=>s
 | .right o x=>match h with | .tm (.num v)=>{s with h:=Q2 o x v} | _=>s
 | .first t=>{s with h:=.tm t}
 | .back _=>s
def stp (s:St):St:=if Ql s.h=true then(match s.P.getLast? with | some f=>zT {s with P:=s.P.dropLast} s.h f | none=>s) else(match s.h with | .tm t=>zL s t | _=>s)
def tf (m:Int):Nat->St->St
 | 0,s=>s
 | n+1,s=>if Kw s.e=true/\s.k<m then tf m n (Tj (stp {s with k:=s.k+1})) else s
def Ro (L d:Nat):Hd->Prop
 | .no=>True
 | .tm t=>ok L d [] t
 | .made c ms=>cl c/\ms.length=ar c/\∀i∈ms,i<L
def Zbx (L d:Nat)(a:Al):Prop:=a.2.1.length=ar a.1/\a.2.1.Nodup/\ok L d a.2.1 a.2.2
def wE (L d:Nat):Fm->Prop
 | .give t=>ok L d [] t
 | .pick al=>∀a∈al,Zbx L d a
 | .left _ t=>ok L d [] t
 | .right _ x=>0<=x/\x<big
 | .first t=>ok L d [] t
 | .back i=>i<L
def fF (L d:Nat):Pc->Prop
 | .word x=>x.length<=100
 | .part _ t=>ok L d [] t/\Qa t=false
structure Ok (d:Nat)(s:St):Prop where
 h:Ro s.L.length d s.h
 hp:s.h=.no->s.P=[]
 P:∀f∈s.P,wE s.L.length d f
 S:∀p∈s.S,fF s.L.length d p
 U:∀x∈s.U,x.length<=100
 D:s.D.length=s.L.length
 D':∀t∈s.D,ok s.L.length d [] t
 k0:0<=s.k/\s.k<=1000
 nL:(s.L.length:Int)<=5*s.k
 nG:(s.G.length:Int)+(s.P.length:Int)<=6*s.k
 nU:(s.U.length:Int)+(s.S.length:Int)+(if Ql s.h=true then 6 else 0)<=6*s.k+8
def wE.lift {L L' d:Nat}(hL:L<=L'){f:Fm}(q:wE L d f):wE L' d f:=by
 cases f with
 | give t=>exact Xw hL q (XE _)
 | pick al=>exact λa ha=>⟨(q a ha).1,(q a ha).2.1,Xw hL (q a ha).2.2 (XE _)⟩
 | left o t=>exact Xw hL q (XE _)
 | right o x=>exact q
 | first t=>exact Xw hL q (XE _)
 | back i=>exact XG q hL
def fF.lift {L L' d:Nat}(hL:L<=L')(q:fF L d p):fF L' d p:=by
 cases p with
 | word x=>exact q
 | part D t=>exact⟨Xw hL q.1 (XE _),q.2⟩
def R7 {α:Type}{l:List α}{x:α}(h:l.getLast?=some x):x∈l:=List.mem_of_getLast? h
def Qx {α:Type}{l:List α}{x:α}(h:l.getLast?=some x):l=l.dropLast++[x]:=by
 have hn:l≠[]:=λe=>by subst e;cases h
 rw[List.getLast?_eq_some_getLast hn] at h
 cases h
 exact(List.dropLast_concat_getLast hn).symm
def Oo {α:Type}{l:List α}(h:l.getLast?=none):l=[]:=List.getLast?_eq_none_iff.mp h
def Fb {α:Type}{l:List α}{x:α}(h:l.getLast?=some x):l.length=l.dropLast.length+1:=by
 have:=congrArg List.length (Qx h);rw[PX] at this;exact this
def Ry {α:Type}{l:List α}{x:α}(h:x∈l.dropLast):x∈l:=(List.dropLast_sublist l).subset h
def mj {v:Int}(h0:0<=v)(h1:v<big):(N0 v).length<=100:=by
 obtain⟨m,rfl⟩:∃m:Nat,v=m:=⟨v.toNat,by omega⟩;show(Str.ofString (toString (Int.ofNat m))).length<=100;rw[text_ofNat];show((Nat.toDigits 10 m).map Char.toNat).toArray.size<=100;rw[XJ,XI];have:(Nat.toDigits 10 m).length<=18:=digits10_le (by decide) (by simp only[big] at h1;omega);omega
def rT (q:Ro L d h):(∀p∈Es h D,fF L d p)/\(Es h D).length<=6:=by
 have h1:("(":Str).length=1:=by decide+kernel
 have h2:(" ":Str).length=1:=by decide+kernel
 have h3:(")":Str).length=1:=by decide+kernel
 have h4:("fun":Str).length=3:=by decide+kernel
 cases h with
 | no=>exact⟨λp hp=>(by cases hp),by show 0<=6;omega⟩
 | tm t=>
  cases t with
  | num v=>exact⟨λp hp=>by rw[XQ.mp hp];exact mj q.1 q.2,by show 1<=6;omega⟩
  | fn x b=>exact⟨λp hp=>by rw[XQ.mp hp];show("fun":Str).length<=100;omega,by show 1<=6;omega⟩
  | _=>exact⟨λp hp=>(by cases hp),by show 0<=6;omega⟩
 | made c ms=>
  obtain⟨⟨q0,q1⟩,q2,q3⟩:=q;have hl:ms.length<=2:=by rw[q2];exact jB c
  have hc:("("++c:Str).length=("(":Str).length+c.length:=YC _ _
  match ms,q2,q3,hl with
  | [],_,_,_=>exact⟨λp hp=>by rw[XQ.mp hp];show c.length<=100;omega,by show 1<=6;omega⟩
  | [a],_,q3,_=>
   refine⟨λp hp=>?_,by show 4<=6;omega⟩;simp only[Es,List.flatMap_cons,List.flatMap_nil,List.append_nil,List.cons_append,List.nil_append,List.mem_cons,List.not_mem_nil,or_false] at hp
   rcases hp with rfl | rfl | rfl | rfl
   ·show("("++c:Str).length<=100;omega
   ·show(" ":Str).length<=100;omega
   ·exact⟨q3 a (by simp),VS⟩
   ·show(")":Str).length<=100;omega
  | [a,b],_,q3,_=>
   refine⟨λp hp=>?_,by show 6<=6;omega⟩;simp only[Es,List.flatMap_cons,List.flatMap_nil,List.append_nil,List.cons_append,List.nil_append,List.mem_cons,List.not_mem_nil,or_false] at hp
   rcases hp with rfl | rfl | rfl | rfl | rfl | rfl
   ·show("("++c:Str).length<=100;omega
   ·show(" ":Str).length<=100;omega
   ·exact⟨q3 a (by simp),VS⟩
   ·show(" ":Str).length<=100;omega
   ·exact⟨q3 b (by simp),VS⟩
   ·show(")":Str).length<=100;omega
def Rg (q:Ok d s)(h:one s=some s'):Ok d s'/\mu s'<mu s/\s'.k=s.k:=by
 unfold one at h
 split at h
 next he=>
  have hm:mu s=if Iq s.h=true then s.S.length+2 else if Ql s.h=true then s.P.length+s.S.length+12 else 1:=by unfold mu;rw[XY he]
  split at h
  next hno=>
   cases h
   have hh:s.h=.no:=by revert hno;cases s.h<;>simp[Iq]
   have hP:=q.hp hh;rw[XY hno] at hm;have hv:Ql s.h=false:=by rw[hh];rfl
   have hU:=q.nU;rw[XX (by rw[hv];decide)] at hU;unfold Dw
   cases hl:s.S.getLast? with
   | none=>exact⟨⟨q.h,q.hp,q.P,q.S,q.U,q.D,q.D',q.k0,q.nL,q.nG,q.nU⟩,by rw[hm];show 0<_;omega,VS⟩
   | some p=>
    have hlen:=Fb hl;have hp:=q.S p (R7 hl)
    cases p with
    | word x=>
     refine⟨⟨q.h,q.hp,q.P,λy hy=>q.S y (Ry hy),λy hy=>?_,q.D,q.D',q.k0,q.nL,q.nG,?_⟩,?_,VS⟩
     ·rcases XS.mp hy with hy | hy
      ·exact q.U y hy
      ·rw[XQ.mp hy];exact hp
     ·show(((s.U++[x]).length:Nat):Int)+_+(if Ql s.h=true then 6 else 0)<=_;rw[XX (by rw[hv];decide),PX];simp only[List.length_cons,List.length_nil];omega
     ·rw[hm];unfold mu;show(if Kw s.e=true then(if Iq s.h=true then s.S.dropLast.length+2 else _) else _)<_;rw[XY he,XY hno];omega
    | part D t=>
     simp only
     split
     ·refine⟨⟨q.h,q.hp,q.P,λy hy=>q.S y (Ry hy),λy hy=>?_,q.D,q.D',q.k0,q.nL,q.nG,?_⟩,?_,VS⟩
      ·rcases XS.mp hy with hy | hy
       ·exact q.U y hy
       ·rw[XQ.mp hy];exact XN (SG (by decide+kernel:("?":Str).length=1)) (by omega)
      ·show(((s.U++[("?":Str)]).length:Nat):Int)+_+(if Ql s.h=true then 6 else 0)<=_;rw[XX (by rw[hv];decide),PX];simp only[List.length_cons,List.length_nil];omega
      ·rw[hm];unfold mu;show(if Kw s.e=true then(if Iq s.h=true then s.S.dropLast.length+2 else _) else _)<_;rw[XY he,XY hno];omega
     ·have hvt:Ql (.tm t)=false:=hp.2;refine⟨⟨hp.1,λz=>(by cases z),q.P,λy hy=>q.S y (Ry hy),q.U,q.D,q.D',q.k0,q.nL,q.nG,?_⟩,?_,VS⟩
      ·show _+_+(if Ql (.tm t)=true then 6 else 0)<=_;rw[XX (by rw[hvt];decide)];simp only;omega
      ·rw[hm];unfold mu;show(if Kw s.e=true then(if false=true then _ else if Ql (.tm t)=true then _ else 1) else _)<_;rw[XY he,XX (by decide),XX (by rw[hvt];decide)];omega
  next hno=>
   rw[XX hno] at hm;have hnh:s.h≠.no:=λe=>hno (by rw[e];rfl)
   split at h
   next x hx=>
    cases h
    exact⟨⟨q.h,q.hp,q.P,q.S,q.U,q.D,q.D',q.k0,q.nL,q.nG,q.nU⟩,by rw[hm];show 0<_;split<;>omega,VS⟩
   next hx=>
    split at h
    next hv=>
     rw[XY hv] at hm;have hU:=q.nU;rw[XY hv] at hU
     split at h
     next hl=>
      cases h
      have hP:=Oo hl;obtain⟨c1,c2⟩:=rT (D:=s.w-1) q.h;refine⟨⟨trivial,λ_=>hP,q.P,λy hy=>?_,q.U,q.D,q.D',q.k0,q.nL,q.nG,?_⟩,?_,VS⟩
      ·rcases XS.mp hy with hy | hy
       ·exact q.S y hy
       ·exact c1 y (List.mem_reverse.mp hy)
      ·show _+(((s.S++(Es s.h (s.w-1)).reverse).length:Nat):Int)+(if false=true then 6 else 0)<=_;rw[XX (by decide),PX,SB];simp only[pZ];omega
      ·rw[hm];unfold mu pZ;show(if Kw s.e=true then(s.S++(Es s.h (s.w-1)).reverse).length+2 else _)<_;rw[XY he,PX,SB];omega
     next f hl=>
      have hlen:=Fb hl;have hf:=q.P f (R7 hl)
      split at h
      next i hi=>
       cases h
       have hG:=q.nG;refine⟨⟨q.h,λz=>absurd z hnh,λy hy=>q.P y (Ry hy),q.S,q.U,q.D,q.D',q.k0,q.nL,?_,q.nU⟩,?_,VS⟩
       ·show(((s.G++[nt s "back" i (lW s i)]).length:Nat):Int)+((s.P.dropLast.length:Nat):Int)<=6*s.k;rw[PX];simp only[List.length_cons,List.length_nil];omega
       ·rw[hm];unfold mu uZ;show(if Kw s.e=true then(if Iq s.h=true then _ else if Ql s.h=true then s.P.dropLast.length+s.S.length+12 else 1) else _)<_;rw[XY he,XX hno,XY hv];omega
      next hi=>
       split at h
       ·cases h
       ·cases h
        exact⟨⟨q.h,q.hp,q.P,q.S,q.U,q.D,q.D',q.k0,q.nL,q.nG,q.nU⟩,by rw[hm];show 0<_;omega,VS⟩
    next=>cases h
 next=>cases h
def Hu:∀(m:Nat) {s:St},Ok d s->mu s<=m->Ok d (yd m s)/\one (yd m s)=none/\(yd m s).k=s.k
 | 0,s,q,hm=>by
  cases h:one s with
  | none=>exact⟨q,h,VS⟩
  | some s'=>have:=(Rg q h).2.1;omega
 | m+1,s,q,hm=>by
  cases h:one s with
  | none=>unfold yd;rw[h];exact⟨q,h,VS⟩
  | some s'=>
   obtain⟨q',hl,hk⟩:=Rg q h;have:=Hu m q' (by omega);unfold yd;rw[h];exact⟨this.1,this.2.1,this.2.2.trans hk⟩
open PySem PySem.Spec PyProof.Rows L2 WL
def ax {s:St}(he:Kw s.e=true)(h:one s=none):Iq s.h=false/\Qy s.h=none/\(Ql s.h=true->∃f,s.P.getLast?=some f/\Tq f=none/\Qd s.h f=true):=by
 unfold one at h;rw[XY he] at h
 split at h
 ·cases h
 next hno=>
  refine⟨by simpa using hno,?_⟩
  split at h
  ·cases h
  next hs=>
   refine⟨hs,λhv=>?_⟩;rw[XY hv] at h
   split at h
   ·cases h
   next f hl=>
    split at h
    ·cases h
    next hb=>
     split at h
     next hf=>exact⟨f,hl,hb,hf⟩
     ·cases h
structure vS (d:Nat)(s:St):Prop where
 h:Ro s.L.length d s.h
 P:∀f∈s.P,wE s.L.length d f
 S:∀p∈s.S,fF s.L.length d p
 U:∀x∈s.U,x.length<=100
 D:s.D.length=s.L.length
 D':∀t∈s.D,ok s.L.length d [] t
 k0:0<=s.k/\s.k<=1000
 nL:(s.L.length:Int)+5<=5*s.k
 nG:(s.G.length:Int)+(s.P.length:Int)+6<=6*s.k
 nU:(s.U.length:Int)+(s.S.length:Int)+6<=6*s.k+8
def Ok.pre (q:Ok d s)(hk:s.k<1000):vS d {s with k:=s.k+1}:=by
 have h1:=q.k0;have h2:=q.nL;have h3:=q.nG;have h4:=q.nU;refine⟨q.h,q.P,q.S,q.U,q.D,q.D',⟨?_,?_⟩,?_,?_,?_⟩
 ·show 0<=s.k+1;omega
 ·show s.k+1<=1000;omega
 ·show _<=5*(s.k+1);simp only;omega
 ·show _<=6*(s.k+1);simp only;omega
 ·show _<=6*(s.k+1)+8;simp only
  split at h4<;>omega
def Kk {s s':St}(p:vS d s)(new:List Tm)(ha:new.length<=5)(hL:s'.L.length=s.L.length+new.length)(hD:s'.D=s.D++new)(hok:∀t∈new,ok s'.L.length d [] t)(hP:∀f∈s'.P,wE s'.L.length d f)
  (hS:s'.S=s.S) (hU:s'.U=s.U) (hk:s'.k=s.k) (hG:s'.G.length+s'.P.length<=s.G.length+s.P.length+6) (hh:Ro s'.L.length d s'.h) (hne:s'.h≠.no):Ok d s':=by
 have h2:=p.nL;have h3:=p.nG;have h4:=p.nU;have hle:s.L.length<=s'.L.length:=by omega
 refine⟨hh,λz=>absurd z hne,hP,λy hy=>(p.S y (hS▸hy)).lift hle,λy hy=>p.U y (hU▸hy),?_,λt ht=>?_,by rw[hk];exact p.k0,?_,?_,?_⟩
 ·rw[hD,PX,hL,p.D]
 ·rw[hD] at ht
  rcases XS.mp ht with ht | ht
  ·exact Xw hle (p.D' t ht) (XE _)
  ·exact hok t ht
 ·rw[hk];omega
 ·rw[hk];omega
 ·rw[hS,hU,hk];split<;>omega
def xF {M:Mn}{x:Str}(h:x∈M.map (·.1)):mo M x≠none:=by
 unfold mo;intro e;rw[SW,SJ] at e;obtain⟨z,hz,rfl⟩:=XR.mp h;exact e z hz (by simp)
def xD (h:mo M x=some i):∃z∈M,z.2=i:=by
 unfold mo at h;obtain⟨z,hz,rfl⟩:=QX.mp h;exact⟨z,List.mem_of_find?_eq_some hz,VS⟩
def qr:(Ao s ns).map (·.1)=ns:=by unfold Ao;rw[Om _ (XE _),QK]
def mq (h:mo (Ao s ns) x=some i):i<s.L.length+ns.length:=by
 obtain⟨z,hz,rfl⟩:=xD h;exact qz (XE _) z hz
def jf {f:Fm}(p:vS d s)(hh:Ro s.L.length d h)(hne:h≠.no)(hf:wE s.L.length d f):Ok d (lZ s h f):=by
 refine Kk p [] (by simp) VS (by simp[lZ]) (λt ht=>by cases ht) (λy hy=>?_) VS VS VS ?_ hh hne
 ·rcases XS.mp hy with hy | hy
  ·exact p.P y hy
  ·rw[XQ.mp hy];exact hf
 ·show s.G.length+(s.P++[f]).length<=_;rw[List.length_append];simp only[List.length_cons,List.length_nil];omega
def Ue {L d:Nat}(h:ok L (d-1) Γ t):ok L d Γ t:=Xw (XE _) h (by omega)
def lq (p:vS d s)(h:ok s.L.length d [] (.lt n xs ts b)):Ok d (zL s (.lt n xs ts b)):=by
 obtain⟨h1,⟨h2,h3,h4,h5⟩,h6,h7⟩:=h;have hl:(V9 xs).length=n:=by simp
 obtain⟨b1,b2,b3,b4,b5,b6,b7,b8,b9,b10,b11⟩:=w6 (s:=s) (ns:=V9 xs) (V9 xs).length (XE _);have hcov:∀x∈V9 xs++[],mo (Ao s (V9 xs)) x≠none\/x∈([]:List Str):=λx hx=>.inl (xF (by rw[qr];simpa using hx));have hval:∀x i,mo (Ao s (V9 xs)) x=some i->i<s.L.length+n:=λx i e=>by have:=mq e;rw[hl] at this;exact this
 have hL:(zL s (.lt n xs ts b)).L.length=s.L.length+n:=by show(bA s (V9 xs) (V9 xs).length).L.length=_;rw[b1,hl]
 refine Kk p ((List.finRange n).map λi=>pu (mo (Ao s (V9 xs))) (ts i)) (by simp;omega) (by rw[hL];simp) VS (λt ht=>?_) (λy hy=>?_) b5 b6 b7 ?_ ?_ (by intro z;cases z)
 ·obtain⟨i,_,rfl⟩:=XR.mp ht;rw[hL];exact vd (Xw (by omega) (Ue (h6 i)) (XE _)) hval hcov
 ·rw[hL];have hy':y∈s.P:=by have:(zL s (.lt n xs ts b)).P=s.P:=b4;rw[this] at hy;exact hy
  exact(p.P y hy').lift (by omega)
 ·show(bA s (V9 xs) (V9 xs).length).G.length+(bA s (V9 xs) (V9 xs).length).P.length<=_;rw[b2,b4,hl];omega
 ·rw[hL];exact vd (Xw (by omega) (Ue h7) (XE _)) hval hcov
def dY:∃new,(W1 s l t).D=s.D++new/\(W1 s l t).L.length=s.L.length+new.length/\new.length<=1/\(∀u∈new,u=t)/\(W1 s l t).G.length=s.G.length+new.length/\(W1 s l t).P=s.P/\(W1 s l t).S=s.S/\(W1 s l t).U=s.U/\(W1 s l t).k=s.k/\((∀i,t=.at_ i->i<s.L.length)->Ir s t<(W1 s l t).L.length):=by
 unfold W1
 cases c:og t with
 | true=>
  rw[XY rfl];refine⟨[],by simp,by simp,by simp,by simp,by simp,VS,VS,VS,VS,λh=>?_⟩
  cases t<;>first | exact h _ VS | cases c
 | false=>
  rw[XX (by decide)];refine⟨[t],VS,?_,by simp,by simp,?_,VS,VS,VS,VS,λh=>?_⟩
  ·show(s.L++[l]).length=_;simp
  ·show(s.G++[_]).length=_;simp
  ·rw[Lr c];show _<(s.L++[l]).length;simp
def dl {s:St}{ts:List Tm}(hts:∀t∈ts,∀i,t=.at_ i->i<s.L.length):∀i,i<=ts.length->∃new,(sA s c ts i).D=s.D++new/\(sA s c ts i).L.length=s.L.length+new.length/\new.length<=i/\(∀u∈new,u∈ts)/\(sA s c ts i).G.length=s.G.length+new.length/\(sA s c ts i).P=s.P/\(sA s c ts i).S=s.S/\(sA s c ts i).U=s.U/\(sA s c ts i).k=s.k/\(mA s c ts i).length=i/\∀j∈mA s c ts i,j<(sA s c ts i).L.length
 | 0,_=>⟨[],by simp[sA],by simp[sA],by simp,by simp,by simp[sA],VS,VS,VS,VS,VS,λj hj=>by cases hj⟩
 | i+1,hi=>by
  obtain⟨new,a1,a2,a3,a4,a5,a6,a7,a8,a9,a10,a11⟩:=dl (c:=c) hts i (by omega);have e:ts[i]?=some (ts[i]'(by omega)):=by simp[show i<ts.length by omega]
  have hm:ts[i]'(by omega)∈ts:=YN _;generalize ts[i]'(by omega)=t at e hm;obtain⟨nw,b1,b2,b3,b4,b5,b6,b7,b8,b9,b10⟩:=dY (s:=sA s c ts i) (l:=E9 c (i+1)) (t:=t);have es:sA s c ts (i+1)=W1 (sA s c ts i) (E9 c (i+1)) t:=by rw[sA,e]
  have em:mA s c ts (i+1)=mA s c ts i++[Ir (sA s c ts i) t]:=by rw[mA,e]
  rw[es,em];refine⟨new++nw,by rw[b1,a1,YL],by rw[b2,a2,PX];omega,by rw[PX];omega,λu hu=>?_,by rw[b5,a5,PX];omega,b6.trans a6,b7.trans a7,b8.trans a8,b9.trans a9,by rw[PX,a10];rfl,λj hj=>?_⟩
  ·rcases XS.mp hu with hu | hu
   ·exact a4 u hu
   ·rw[b4 u hu];exact hm
  ·rcases XS.mp hj with hj | hj
   ·have:=a11 j hj;rw[b2];omega
   ·rw[XQ.mp hj];exact b10 λk hk=>by have:=hts t hm k hk;rw[a2];omega
def vk {ts:List Tm}(p:vS d s)(hc:cl c)(ha:ts.length=ar c)(h:∀t∈ts,ok s.L.length d [] t):Ok d (Rz s c ts):=by
 have h2:ts.length<=2:=by rw[ha];exact jB c
 have e1:(Ye s c).L=s.L:=by unfold Ye;split<;>rfl
 have e2:(Ye s c).D=s.D:=by unfold Ye;split<;>rfl
 have e3:(Ye s c).G=s.G:=by unfold Ye;split<;>rfl
 have e4:(Ye s c).P=s.P:=by unfold Ye;split<;>rfl
 have e5:(Ye s c).S=s.S:=by unfold Ye;split<;>rfl
 have e6:(Ye s c).U=s.U:=by unfold Ye;split<;>rfl
 have e7:(Ye s c).k=s.k:=by unfold Ye;split<;>rfl
 obtain⟨new,a1,a2,a3,a4,a5,a6,a7,a8,a9,a10,a11⟩:=dl (s:=Ye s c) (c:=c) (ts:=ts) (λt ht i e=>by rw[e1];have:=h t ht;rw[e] at this;exact this) ts.length (XE _);rw[e1] at a2;rw[e2] at a1;rw[e3] at a5;rw[e4] at a6;have hL:(Rz s c ts).L.length=s.L.length+new.length:=a2;refine Kk p new (by omega) hL a1 (λt ht=>?_) (λy hy=>?_) (a7.trans e5) (a8.trans e6) (a9.trans e7) ?_ ?_ (by intro z;cases z)
 ·rw[hL];exact Xw (by omega) (h t (a4 t ht)) (XE _)
 ·rw[hL];have hy':y∈s.P:=by have:(Rz s c ts).P=s.P:=a6;rw[this] at hy;exact hy
  exact(p.P y hy').lift (by omega)
 ·show(sA (Ye s c) c ts ts.length).G.length+(sA (Ye s c) c ts ts.length).P.length<=_;rw[a5,a6];omega
 ·exact⟨hc,a10.trans ha,a11⟩
def cK (p:vS d s)(h:ok s.L.length d [] t)(hv:Qa t=false)(hs:Qy (.tm t)=none):Ok d (zL s t):=by
 cases t with
 | nm x=>cases h
 | num v=>cases hv
 | stop x=>cases hs
 | fn x b=>cases hv
 | at_ i=>
  have hi:i<s.D.length:=by rw[p.D];exact h
  have e:s.D[i]?=some (s.D[i]'hi):=by simp[hi]
  refine Kk p [] (by simp) VS (by simp[zL]) (λt ht=>by cases ht) (λy hy=>?_) VS VS VS ?_ ?_ (by intro z;cases z)
  ·rcases XS.mp hy with hy | hy
   ·exact p.P y hy
   ·rw[XQ.mp hy];exact h
  ·show(s.G++[_]).length+(s.P++[_]).length<=_;rw[List.length_append,List.length_append];simp only[List.length_cons,List.length_nil];omega
  ·show ok s.L.length d [] ((s.D[i]?).getD (.nm ""));rw[e];exact p.D' _ (YN hi)
 | shp0 c=>exact vk p h.1 h.2.symm (λt ht=>by cases ht)
 | shp2 c a b=>
  refine vk p h.2.1.1 h.2.1.2.symm (λt ht=>?_);simp only[ZM,ZN,or_false] at ht
  rcases ht with rfl | rfl
  ·exact Ue h.2.2.1
  ·exact Ue h.2.2.2
 | does o a b=>exact jf p (Ue h.2.1) (by intro z;cases z) (Ue h.2.2)
 | call a b=>exact jf p (Ue h.2.1) (by intro z;cases z) (Ue h.2.2)
 | first a b=>exact jf (s:={s with f:=s.f+1}) ⟨p.h,p.P,p.S,p.U,p.D,p.D',p.k0,p.nL,p.nG,p.nU⟩ (Ue h.2.1) (by intro z;cases z) (Ue h.2.2)
 | lt n xs ts b=>exact lq p h
 | ch e n cs ns bs=>
  refine jf p (Ue h.2.2.1) (by intro z;cases z) ?_;intro a ha;obtain⟨i,_,rfl⟩:=XR.mp ha;have:=Ue (h.2.2.2 i);rw[YK] at this;exact⟨(h.2.1.2 i).1,(h.2.1.2 i).2,this⟩
def vS.pop {f:Fm}(p:vS d s)(h:s.P.getLast?=some f):vS d {s with P:=s.P.dropLast}:=by
 have hl:=Fb h;have:=p.nG;exact⟨p.h,λy hy=>p.P y (Ry hy),p.S,p.U,p.D,p.D',p.k0,p.nL,by show _+((s.P.dropLast.length:Nat):Int)+6<=_;simp only;omega,p.nU⟩
def By:Ro L d (Q2 o x y)/\Q2 o x y≠.no:=by
 unfold Q2;have a1:cl "Yes"/\ar "Yes"=0:=by decide+kernel
 have a2:cl "No"/\ar "No"=0:=by decide+kernel
 split
 ·refine⟨?_,by intro z;cases z⟩
  split
  ·exact⟨a1.1,a1.2.symm,λi hi=>by cases hi⟩
  ·exact⟨a2.1,a2.2.symm,λi hi=>by cases hi⟩
 ·split
  ·refine⟨?_,by intro z;cases z⟩
   split
   ·exact⟨a1.1,a1.2.symm,λi hi=>by cases hi⟩
   ·exact⟨a2.1,a2.2.symm,λi hi=>by cases hi⟩
  ·exact⟨⟨YO _ (by decide),QC _ (by decide)⟩,by intro z;cases z⟩
def vO (h:Tw c al=some a):a∈al/\a.1=c:=by
 unfold Tw at h;exact⟨List.mem_of_find?_eq_some h,by simpa using List.find?_some h⟩
def o7 {ns:List Str}{ms:List Nat}(hl:ns.length=ms.length){x:Str}(h:x∈ns):mo (ns.zip ms) x≠none:=xF (by rw[List.map_fst_zip (by omega)];exact h)
def oy {ns:List Str}{ms:List Nat}{L:Nat}(h:∀i∈ms,i<L){i:Nat}(e:mo (ns.zip ms) x=some i):i<L:=by
 obtain⟨z,hz,rfl⟩:=xD e;exact h _ (RQ hz).2
def jZ (p:vS d s)(hh:Ro s.L.length d h)(hne:h≠.no):Ok d {s with h:=h}:=
 Kk p [] (by simp) VS (by simp) (λt ht=>by cases ht) p.P VS VS VS (by show s.G.length+s.P.length<=_;omega) hh hne
def A3 (e:isFn h=true):∃x b,h=.tm (.fn x b):=by
 cases h with
 | no=>cases e
 | made c ms=>cases e
 | tm t=>cases t<;>first | exact⟨_,_,VS⟩ | cases e
def Op (e:yZ h=true):∃v,h=.tm (.num v):=by
 cases h with
 | no=>cases e
 | made c ms=>cases e
 | tm t=>cases t<;>first | exact⟨_,VS⟩ | cases e
def A2 (e:Qd h (.pick al)=true):∃c ms a,h=.made c ms/\Tw c al=some a:=by
 cases h with
 | no=>cases e
 | tm t=>cases e
 | made c ms=>
  have e':(Tw c al).isSome=true:=e
  cases ha:Tw c al with
  | none=>rw[ha] at e';cases e'
  | some a=>exact⟨c,ms,a,VS,ha⟩
def fO {f:Fm}(p:vS d s)(hf:wE s.L.length d f)(hb:Tq f=none)(hft:Qd s.h f=true):Ok d (zT s s.h f):=by
 have hh:=p.h
 cases f with
 | give t=>
  obtain⟨x,b,hs⟩:=A3 hft;rw[hs] at hh |-
  ·obtain⟨new,a1,a2,a3,a4,a5,a6,a7,a8,a9,a10⟩:=dY (s:=s) (l:=x) (t:=t);have hN:=a10 λi e=>by have:ok s.L.length d [] t:=hf;rw[e] at this;exact this
   have hL:(zT s (.tm (.fn x b)) (.give t)).L.length=s.L.length+new.length:=a2;refine Kk p new (by omega) hL a1 (λu hu=>?_) (λy hy=>?_) a7 a8 a9 ?_ ?_ (by intro z;cases z)
   ·rw[hL,a4 u hu];exact Xw (by omega) hf (XE _)
   ·rw[hL];have hy':y∈s.P:=by have:(zT s (.tm (.fn x b)) (.give t)).P=s.P:=a6;rw[this] at hy;exact hy
    exact(p.P y hy').lift (by omega)
   ·show(W1 s x t).G.length+(W1 s x t).P.length<=_;rw[a5,a6];omega
   ·refine vd (Xw (by show _<=(W1 s x t).L.length;omega) (Ue hh.2.2) (XE _)) (λy i e=>?_) (λy hy=>.inl ?_)
    ·obtain⟨z,hz,rfl⟩:=xD e;rw[XQ.mp hz];exact hN
    ·exact xF (by simpa using hy)
 | pick al=>
  obtain⟨c,ms,a,hs,ha⟩:=A2 hft;rw[hs] at hh |-;obtain⟨m1,m2⟩:=vO ha;obtain⟨o1,o2,o3⟩:=hf a m1;have hl:a.2.1.length=ms.length:=by rw[o1,m2,hh.2.1]
  show Ok d (match Tw c al with | some a=>{s with h:=.tm (pu (mo (a.2.1.zip ms)) a.2.2)} | none=>s);rw[ha];exact jZ p (vd o3 (λx i e=>oy hh.2.2 e) (λx hx=>.inl (o7 hl hx))) (by intro z;cases z)
 | left o t=>
  obtain⟨v,hs⟩:=Op hft;rw[hs] at hh |-;exact jf p hf (by intro z;cases z) hh
 | right o x=>
  obtain⟨v,hs⟩:=Op hft;rw[hs] at hh |-;exact jZ p By.1 (By (L:=0) (d:=0)).2
 | first t=>exact jZ p hf (by intro z;cases z)
 | back i=>cases hb
def Bn (q:Ok d s)(he:Kw s.e=true)(h1:one s=none)(hk:s.k<1000):Ok d (stp {s with k:=s.k+1}):=by
 obtain⟨d1,d2,d3⟩:=ax he h1;have p:=q.pre hk;have e:stp {s with k:=s.k+1}=(if Ql s.h=true then(match s.P.getLast? with | some f=>zT {s with k:=s.k+1,P:=s.P.dropLast} s.h f | none=>{s with k:=s.k+1}) else(match s.h with | .tm t=>zL {s with k:=s.k+1} t | _=>{s with k:=s.k+1})):=rfl;rw[e];by_cases hv:Ql s.h=true
 ·obtain⟨f,f1,f2,f3⟩:=d3 hv;rw[XY hv,f1];exact fO (p.pop f1) (q.P f (R7 f1)) f2 f3
 ·rw[XX hv];have hh:=q.h;obtain⟨t,hs,hvt⟩:∃t,s.h=.tm t/\Qa t=false:=by
   revert d1 hv
   cases s.h with
   | no=>intro d1;cases d1
   | made c ms=>intro _ hv;exact absurd VS hv
   | tm t=>
    intro _ hv;exact⟨t,VS,by simpa[Ql] using hv⟩
  have e2:(match s.h with | .tm t=>zL {s with k:=s.k+1} t | _=>{s with k:=s.k+1})=zL {s with k:=s.k+1} t:=by rw[hs]
  rw[e2];rw[hs] at hh d2;exact cK p hh hvt d2
def sC {s:St}{f:Fm}(hv:Ql s.h=true)(hl:s.P.getLast?=some f):stp s=zT {s with P:=s.P.dropLast} s.h f:=by unfold stp;rw[XY hv,hl]
def sD {s:St}(hs:s.h=.tm t)(hv:Qa t=false):stp s=zL s t:=by
 unfold stp;rw[hs,XX (by show ¬Qa t=true;rw[hv];decide)]
structure Q5 (s s':St):Prop where
 g:∃n,s'.G=s.G++n/\∀r∈n,r.k=s.k
 c:s.c<=s'.c
 f:s.f<=s'.f
 k:s'.k=s.k
def Q5.refl (s:St):Q5 s s:=⟨⟨[],by simp,λr hr=>by cases hr⟩,Int.le_refl _,Int.le_refl _,VS⟩
def Q5.trans (a:Q5 s s')(b:Q5 s' s''):Q5 s s'':=by
 obtain⟨n,a1,a2⟩:=a.g;obtain⟨m,b1,b2⟩:=b.g;refine⟨⟨n++m,by rw[b1,a1,YL],λr hr=>?_⟩,Int.le_trans a.c b.c,Int.le_trans a.f b.f,b.k.trans a.k⟩
 rcases XS.mp hr with hr | hr
 ·exact a2 r hr
 ·rw[b2 r hr,a.k]
def N8 {s s':St}(hG:s'.G=s.G)(hc:s'.c=s.c)(hf:s'.f=s.f)(hk:s'.k=s.k):Q5 s s':=⟨⟨[],by rw[hG,YK],λr hr=>by cases hr⟩,by omega,by omega,hk⟩
def An:Q5 s (W1 s l t)/\(W1 s l t).e=s.e:=by
 unfold W1
 split
 ·exact⟨Q5.refl s,VS⟩
 ·exact⟨⟨⟨_,VS,λr hr=>by rw[XQ.mp hr];rfl⟩,XW _,XW _,VS⟩,VS⟩
def sW:∀i,Q5 s (sA s c ts i)/\(sA s c ts i).e=s.e
 | 0=>⟨Q5.refl s,VS⟩
 | i+1=>by
  obtain⟨a,b⟩:=sW (s:=s) (c:=c) (ts:=ts) i;unfold sA
  cases ts[i]? with
  | none=>exact⟨a,b⟩
  | some t=>exact⟨a.trans An.1,An.2.trans b⟩
def pO:∀i,Q5 s (bA s ns i)/\(bA s ns i).e=s.e
 | 0=>⟨Q5.refl s,VS⟩
 | i+1=>by
  obtain⟨a,b⟩:=pO (s:=s) (ns:=ns) i;unfold bA
  cases ns[i]? with
  | none=>exact⟨a,b⟩
  | some t=>exact⟨a.trans ⟨⟨_,VS,λr hr=>by rw[XQ.mp hr];rfl⟩,XW _,XW _,VS⟩,b⟩
def Q5.to {s s' s'':St}(a:Q5 s s')(hG:s''.G=s'.G)(hc:s''.c=s'.c)(hf:s''.f=s'.f)(hk:s''.k=s'.k):Q5 s s'':=a.trans (N8 hG hc hf hk)
def yN:Q5 s (Rz s c ts)/\(Rz s c ts).e=s.e:=by
 have h0:Q5 s (Ye s c)/\(Ye s c).e=s.e:=by
  unfold Ye
  split
  ·exact⟨⟨⟨[],by simp,λr hr=>by cases hr⟩,by show s.c<=s.c+1;omega,Int.le_refl _,VS⟩,VS⟩
  ·exact⟨Q5.refl s,VS⟩
 obtain⟨a,b⟩:=sW (s:=Ye s c) (c:=c) (ts:=ts) ts.length;exact⟨(h0.1.trans a).to VS VS VS VS,b.trans h0.2⟩
def fc:Q5 s (zL s t)/\(zL s t).e=s.e:=by
 cases t with
 | lt n xs ts b=>
  obtain⟨a,b'⟩:=pO (s:=s) (ns:=V9 xs) (V9 xs).length;exact⟨a.to VS VS VS VS,b'⟩
 | shp0 c=>exact yN
 | shp2 c a b=>exact yN
 | at_ i=>exact⟨⟨⟨_,VS,λr hr=>by rw[XQ.mp hr];rfl⟩,XW _,XW _,VS⟩,VS⟩
 | first a b=>exact⟨⟨⟨[],by simp[zL,lZ],λr hr=>by cases hr⟩,Int.le_refl _,by show s.f<=s.f+1;omega,VS⟩,VS⟩
 | _=>exact⟨N8 VS VS VS VS,VS⟩
def tS {f:Fm}:Q5 s (zT s h f)/\(zT s h f).e=s.e:=by
 cases f with
 | give t=>
  cases h with
  | no=>exact⟨Q5.refl s,VS⟩
  | made c ms=>exact⟨Q5.refl s,VS⟩
  | tm u=>
   cases u with
   | fn x b=>exact⟨An.1.to VS VS VS VS,An.2⟩
   | _=>exact⟨Q5.refl s,VS⟩
 | pick al=>
  cases h with
  | no=>exact⟨Q5.refl s,VS⟩
  | tm u=>exact⟨Q5.refl s,VS⟩
  | made c ms=>
   have e:zT s (.made c ms) (.pick al)=(match Tw c al with | some a=>{s with h:=.tm (pu (mo (a.2.1.zip ms)) a.2.2)} | none=>s):=rfl;rw[e]
   cases Tw c al with
   | some a=>exact⟨N8 VS VS VS VS,VS⟩
   | none=>exact⟨Q5.refl s,VS⟩
 | left o t=>
  cases h with
  | no=>exact⟨Q5.refl s,VS⟩
  | made c ms=>exact⟨Q5.refl s,VS⟩
  | tm u=>
   cases u with
   | num v=>exact⟨N8 VS VS VS VS,VS⟩
   | _=>exact⟨Q5.refl s,VS⟩
 | right o x=>
  cases h with
  | no=>exact⟨Q5.refl s,VS⟩
  | made c ms=>exact⟨Q5.refl s,VS⟩
  | tm u=>
   cases u with
   | num v=>exact⟨N8 VS VS VS VS,VS⟩
   | _=>exact⟨Q5.refl s,VS⟩
 | first t=>exact⟨N8 VS VS VS VS,VS⟩
 | back i=>exact⟨Q5.refl s,VS⟩
def Bo:Q5 s (stp s)/\(stp s).e=s.e:=by
 unfold stp
 split
 ·split
  ·exact⟨(N8 (s:=s) (s':={s with P:=s.P.dropLast}) VS VS VS VS).trans tS.1,tS.2⟩
  ·exact⟨Q5.refl s,VS⟩
 ·split
  ·exact fc
  ·exact⟨Q5.refl s,VS⟩
open PySem PySem.Spec PyProof.Rows L2 WL
def lg {v:Int}(h0:0<=v)(h1:v<big):v.natAbs.log2<1920:=by
 have h2:v.natAbs<2^64:=by simp only[big] at h1;omega
 have:v.natAbs.log2<64:=by
  by_cases c:v.natAbs=0
  ·rw[c];decide
  ·exact(Nat.log2_lt c).mpr h2
 omega
def mG {i n:Nat}:W4 (Cw i) (n+1)=true:=Fk λx hx=>by
 simp only[ZM,ZN,or_false] at hx
 rcases hx with rfl | rfl
 ·exact U7
 ·exact jk
def v7 {ms:List Nat}:J0 (.tup (ms.map Cw)):=Fk λx hx=>by obtain⟨i,_,rfl⟩:=XR.mp hx;exact mG
def qX {ms:List Nat}{Q:WK}{b:Bool}(hb:ms.isEmpty=b)(q:Q (.bl b) C):Hr false (.tup (ms.map Cw)) (.tup []) C Q:=by
 refine⟨v7,v7 (ms:=[]),?_⟩;have e:WL.eqT (.tup (ms.map Cw)) (.tup [])=b:=by
  subst hb;unfold WL.eqT
  cases ms with
  | nil=>unfold Qe;rfl
  | cons a r=>rw[YI];unfold Qe;rfl
 rw[e];exact q
section
variable {A:Ad}{C:Hw}{s:St}{Q:WK}{χ:WX}{n d:Nat}
def sM (hv:Ql h=true)(ho:Ro L d h)(q:∀p C',C p=none->Ex C C'->C' p=some (.lst ((Es h D).map Et))->Q (.ref p) C'):Z9 pr (n+1) jb [hT h,.int D] C Q χ:=by
 refine zU VS ?_
 cases h with
 | no=>cases hv
 | tm t=>
  cases t with
  | num v=>
   refine qG VS VS ?_;exact⟨_,VS,_,Jc,.inl ⟨v,VS,lg ho.1 ho.2,ZNB VS,λp hp=>q p _ hp (Ex.new hp) Zn⟩⟩
  | fn x b=>
   refine qH VS (by decide+kernel) (qG VS VS ?_);exact⟨ZNB VS,λp hp=>q p _ hp (Ex.new hp) Zn⟩
  | _=>cases hv
 | made c ms=>
  refine qH VS (by decide+kernel) (qH VS (by decide+kernel) ?_);refine⟨_,VS,_,V0,XO _,?_⟩;obtain⟨⟨o0,o1⟩,o2,o3⟩:=ho;have hl:ms.length<=2:=by rw[o2];exact jB c
  have hc1:("(":Str).length=1:=by decide+kernel
  cases hm:ms with
  | nil=>
   refine qX (ms:=[]) VS ⟨true,VS,Xs ?_⟩;rw[hm] at q;exact⟨_,VS,_,Jc,ZNB VS,λp hp=>q p _ hp (Ex.new hp) Zn⟩
  | cons a r=>
   rw[<-hm];refine qX (ms:=ms) (by rw[hm];rfl) ⟨false,VS,Jh ?_⟩;refine⟨_,VS,_,Jc,Ym (by omega),ZNB VS,λp hp=>?_⟩;refine⟨_,VS,_,V0,?_⟩;have ep:Es (.made c ms) D=.word ("("++c)::(ms.flatMap λi=>[.word " ",.part D (.at_ i)])++[.word ")"]:=by rw[hm];rfl
   rw[ep] at q;refine Tu (λi τ C'=>∃x3,τ=[some (.tup [.str "made",.str c,.tup (ms.map Cw)]),some (.int D),some (.ref p),x3]/\Ex C C'/\C' p=some (.lst ((.word ("("++c)::((ms.take i).flatMap λi=>[.word " ",.part D (.at_ i)])).map Et))) ⟨none,VS,Ex.new hp,Zn⟩ (λ_ _ _ _ _=>trivial) ?_ ?_
   ·rintro i y τ C' N hy ⟨x3,rfl,hE,hC⟩ hN;rw[XM] at hy
    cases hi:ms[i]? with
    | none=>rw[hi] at hy;cases hy
    | some m=>
     rw[hi] at hy
     cases hy
     have hil:i<ms.length:=(PY.mp hi).1;refine⟨_,VS,⟨_,_,VS,hC⟩,_,VS,_,VS,ZNB VS,ZNB VS,λp2 hp2=>?_⟩;have hne:p≠p2:=cne hC hp2;refine⟨_,_,_,_,VS,VS,by rw[Z0 hne];exact hC,Zn,Ym ?_,hN _ _ ⟨_,VS,?_,?_⟩⟩
     ·have:((ms.take i).flatMap λi=>[Pc.word " ",.part D (.at_ i)]).length<=2*2:=by
       match ms,hl with
       | [],_=>simp
       | [a],_=>cases i<;>simp
       | [a,b],_=>match i with | 0=>simp | 1=>simp | k+2=>simp
      simp only[List.length_map,List.length_cons,List.length_nil];omega
     ·exact(hE.trans (Ex.new hp2)).up hp
     ·rw[Zn,YD,hi,List.flatMap_append,<-UD,XL];rfl
   ·rintro τ C' ⟨x3,rfl,hE,hC⟩;rw[XI,QK] at hC;refine⟨_,VS,ZNB VS,λp2 hp2=>?_⟩;have hne:p≠p2:=cne hC hp2;refine⟨_,_,by rw[Z0 hne];exact hC,Zn,Ym ?_,λp3 hp3=>?_⟩
    ·have:(ms.flatMap λi=>[Pc.word " ",.part D (.at_ i)]).length<=2*2:=by
      match ms,hl with
      | [],_=>simp
      | [a],_=>simp
      | [a,b],_=>simp
     simp only[List.length_map,List.length_cons,List.length_nil];omega
    ·obtain⟨n32,hp3'⟩:=jH hp3;refine q p3 _ (hE.free hp3') ((hE.trans (Ex.new hp2)).trans (Ex.new hp3)) ?_;rw[Zn,XL];rfl
def Br (di:Di A)(R:Rn A C s)(hv:Ql s.h=true)(ho:Ro s.L.length d s.h)(hS:s.S.length<=90000)(q:∀C',Fr A C C'->Rn A C' (pZ s)->Q .non C'):Z9 pr (n+2) O5 [.ref (A 0)] C Q χ:=by
 refine Ox VS ?_;refine⟨_,VS,_,_,_,_,VS,R.r,.head _,G9,⟨_,_,VS,R.ps⟩,_,VS,_,_,_,_,VS,R.r,.head _,Sx,?_⟩;refine⟨_,VS,_,_,_,_,VS,R.r,.head _,uC,?_⟩;dsimp only[Jr,eC,Zg];refine sM (n:=n) hv ho λp C1 hp hE hp1=>?_;have R1:=R.ex hE;have hl6:=(rT (D:=s.w-1) ho).2;refine⟨_,_,VS,hp1,λp2 hp2=>?_⟩;have R2:=R1.ex (Ex.new (o:=.lst ((Es s.h (s.w-1)).map Et).reverse) hp2);refine⟨_,_,_,_,VS,VS,R2.ps,Zn,Ym (by rw[XI,SB,XI];omega),?_⟩;have e:s.S.map Et++((Es s.h (s.w-1)).map Et).reverse=(s.S++(Es s.h (s.w-1)).reverse).map Et:=by rw[XL,List.map_reverse]
 rw[e];have R3:=R2.s2 di (s.S++(Es s.h (s.w-1)).reverse);refine gs (χ:=χ) (Tp (h:=.no)) R3 ?_;exact q _ (((Ex.fr (hE.trans (Ex.new hp2))).up 2).up 0) (R3.s0 di _)
def ag:Id "str" "str"=true:=by decide+kernel
def af:Id "tuple" "str"=false:=by decide+kernel
def aX:bx (.bl (Id "str" "str")) c true:=by rw[ag];rfl
def Zax:bx (.bl (Id "tuple" "str")) c false:=by rw[af];rfl
def Hi {c:Hw}{xs:List T}{b:Bool}(hb:xs.isEmpty=b)(h1:c a=some (.lst xs))(h2:c p=some (.lst []))(q:Q (.bl b) c):Hr false (.ref a) (.ref p) c Q:=by
 refine⟨_,_,h1,h2,λh=>?_,?_⟩
 ·have:xs=[]:=RC.mp h;subst this;exact⟨by unfold Xv;rfl,by unfold Xv;rfl⟩
 ·have e:Qe xs []=b:=by
   subst hb
   cases xs with
   | nil=>unfold Qe;rfl
   | cons a r=>unfold Qe;rfl
  rw[e];exact q
def m5 {xs:List Str}(h:∀x∈xs,x.length<=100):(xs.map (·.length)).sum<=100*xs.length:=by
 induction xs with
 | nil=>simp
 | cons a r ih=>
  have h1:=h a (by simp);have h2:=ih λx hx=>h x (by simp[hx]);rw[YI,List.sum_cons,YF];omega
def yl (di:Di A)(R:Rn A C s)(hU:∀x∈s.U,x.length<=100)(hl:s.U.length<=9000)(q:∀C',Fr A C C'->Rn A C' (Dw s)->Q .non C'):Z9 pr (n+1) N5 [.ref (A 0)] C Q χ:=by
 refine Np VS ?_;refine⟨_,VS,_,_,_,_,VS,R.r,.head _,G9,XO _,λp hp=>?_⟩;have R1:=R.ex (Ex.new (o:=.lst []) hp);have F1:Fr A C (up C p (.lst [])):=Ex.fr (Ex.new hp)
 cases hs:s.S.getLast? with
 | none=>
  have e0:=Oo hs;have et:Dw s={s with e:=.told (Txt.join "" s.U)}:=by unfold Dw;rw[hs]
  rw[et] at q;refine Hi (b:=true) (by rw[e0];rfl) R1.ps Zn ⟨true,VS,Xs ?_⟩;have hj:=m5 hU;refine⟨⟨_,VS⟩,_,VS,_,_,_,_,VS,R1.r,.head _,Aw,_,_,s.U,VS,VS,R1.pt,XO _,by omega,ZNB VS,?_⟩;refine gs (χ:=χ) (Kj (e:=.told (Txt.join "" s.U))) R1 ?_;exact q _ (F1.up 0) (R1.s0 di _)
 | some y=>
  have sp:=Qx hs;generalize s.S.dropLast=S' at sp;have eS:s.S.map Et=S'.map Et++[Et y]:=by rw[sp,XL];rfl
  have hne:(s.S.map Et).isEmpty=false:=by rw[eS];simp
  refine Hi hne R1.ps Zn ⟨false,VS,Jh ?_⟩;have hps:=R1.ps;rw[eS] at hps;refine⟨_,VS,_,_,_,_,VS,R1.r,.head _,G9,⟨_,_,VS,hps⟩,_,_,_,VS,VS,hps,(by simp:(S'.map Et++[Et y])[(S'.map Et++[Et y]).length-1]?=some (Et y)),?_⟩;have ed:(S'.map Et++[Et y]).dropLast=S'.map Et:=by simp
  rw[ed];have R2:=R1.s2 di S';have F2:=F1.up 2 (o:=.lst (S'.map Et));have edl:s.S.dropLast=S':=by rw[sp];simp
  cases y with
  | word x=>
   have et:Dw s={s with S:=S',U:=s.U++[x]}:=by unfold Dw;rw[hs];simp only;rw[edl]
   rw[et] at q;refine⟨_,VS,_,VS,true,aX,Xs ?_⟩;refine⟨_,VS,_,_,_,_,VS,R2.r,.head _,Aw,⟨_,_,VS,R2.pt⟩,_,VS,_,_,_,VS,VS,R2.pt,Vc (by rw[XI];show s.U.length<=_;omega),?_⟩;have e:s.U.map T.str++[.str x]=(s.U++[x]).map T.str:=by rw[XL];rfl
   have:=q _ (F2.up 3) (R2.s3 di (s.U++[x]));rw[<-e] at this;exact this
  | part D t=>
   refine⟨_,VS,_,VS,false,Zax,Jh ?_⟩;refine⟨_,VS,_,Yl,decide (D<=0),VS,?_⟩;by_cases c:D<=0
   ·have et:Dw s={s with S:=S',U:=s.U++[("?":Str)]}:=by unfold Dw;rw[hs];simp only;rw[if_pos c,edl]
    rw[et] at q;refine Fc (decide_eq_true c) ?_;refine⟨_,VS,_,_,_,_,VS,R2.r,.head _,Aw,⟨_,_,VS,R2.pt⟩,_,_,_,VS,VS,R2.pt,Vc (by rw[XI];show s.U.length<=_;omega),?_⟩;have e:s.U.map T.str++[.str "?"]=(s.U++[("?":Str)]).map T.str:=by rw[XL];rfl
    have:=q _ (F2.up 3) (R2.s3 di (s.U++[("?":Str)]));rw[<-e] at this;exact this
   ·have et:Dw s={s with S:=S',w:=D,h:=.tm t}:=by unfold Dw;rw[hs];simp only;rw[if_neg c,edl]
    rw[et] at q;refine Ic (YG c) ?_;refine⟨_,VS,_,Yl,?_⟩;refine gs (χ:=χ) (ui (x:=D)) R2 ?_;have R3:=R2.s0 di {s with S:=S',w:=D};refine⟨_,VS,_,Jc,?_⟩;refine gs (χ:=χ) (Tp (h:=.tm t)) R3 ?_;exact q _ ((F2.up 0).up 0) (R3.s0 di _)
def gE {τ:Sw}{K:Bool->Hw->Prop}(R:Rn A C s)(q:K (Kw s.e) C):Yu (Zf Ik (Xt VE "ending" (Zd 0)) (eC (.non))) (some (.ref (A 0))::τ) C K χ:=by
 refine⟨_,VS,_,_,_,_,VS,R.r,.head _,On,VS,_,VS,?_⟩;have e:(match eT s.e with | .non=>true | _=>false)=Kw s.e:=by cases s.e<;>rfl
 rw[<-e] at q;exact q
def ak {τ:Sw}{K:Bool->Hw->Prop}(R:Rn A C s)(q:K (Iq s.h) C):Yu (Zf Ik (Xt VE "hand" (Zd 0)) (eC (.non))) (some (.ref (A 0))::τ) C K χ:=by
 refine⟨_,VS,_,_,_,_,VS,R.r,.head _,Sx,VS,_,VS,?_⟩;have e:(match hT s.h with | .non=>true | _=>false)=Iq s.h:=by
  cases s.h with
  | no=>rfl
  | made c ms=>rfl
  | tm t=>cases t<;>rfl
 rw[<-e] at q;exact q
def bH {r:List T}(e:hT h=.tup (.str w::r)):(w=="stop")=(Qy h).isSome:=by
 cases h with
 | no=>cases e
 | made c ms=>unfold hT at e;injection e with e;injection e with e _;injection e with e;subst e;show _=false;decide+kernel
 | tm t=>cases t<;>(unfold hT tt at e;injection e with e;injection e with e _;injection e with e;subst e;first | (show _=false;decide+kernel) | (show _=true;decide+kernel))
def aE {f:Fm}:∃w r,Iw f=.tup (.str w::r)/\(w=="back")=(Tq f).isSome:=by
 cases f<;>exact⟨_,_,VS,by first | (show _=false;decide+kernel) | (show _=true;decide+kernel)⟩
def tN {P:Calls}{τ:Sw}{D:We}(R:Rn A C s)(hm:(Fs A s).lookup m=none)(q:P i [.ref (A 0)] C (λ_ C1=>D.nx (some (.ref (A 0))::τ) C1) D.xc):Ja (Vl P [("Runner",i)] m (Zd 0) Zg) D (some (.ref (A 0))::τ) C:=
 ⟨_,VS,_,_,_,_,VS,R.r,Nu,hm,q⟩
def Gq (he:Kw s.e=true)(hno:Iq s.h=true):one s=some (Dw s):=by unfold one;rw[XY he,XY hno]
def rZ (he:Kw s.e=true)(hno:Iq s.h=false)(hst:Qy s.h=some x):one s=some {s with e:=.stop x}:=by
 unfold one;rw[XY he,XX (by rw[hno];decide),hst]
def xw (he:Kw s.e=true)(hno:Iq s.h=false)(hst:Qy s.h=none)(hv:Ql s.h=false):one s=none:=by
 unfold one;rw[XY he,XX (by rw[hno];decide),hst];exact XX (by rw[hv];decide)
def Gp (he:Kw s.e=true)(hno:Iq s.h=false)(hst:Qy s.h=none)(hv:Ql s.h=true):one s=(match s.P.getLast? with | none=>some (pZ s) | some f=>match Tq f with | some i=>some (uZ s i) | none=>if Qd s.h f=true then none else some {s with e:=.stuck}):=by
 unfold one;rw[XY he,XX (by rw[hno];decide),hst];exact XY hv
def rY (h1:one s=(match s.P.getLast? with | none=>some (pZ s) | some f=>match Tq f with | some i=>some (uZ s i) | none=>if Qd s.h f=true then none else some {s with e:=.stuck}))(hl:s.P.getLast?=none):one s=some (pZ s):=by rw[h1,hl]
def xz {f:Fm}(h1:one s=(match s.P.getLast? with | none=>some (pZ s) | some f=>match Tq f with | some i=>some (uZ s i) | none=>if Qd s.h f=true then none else some {s with e:=.stuck}))(hl:s.P.getLast?=some f)(hb:Tq f=some i):one s=some (uZ s i):=by
 rw[h1,hl];show(match Tq f with | some i=>_ | none=>_)=_;rw[hb]
def xy {f:Fm}(h1:one s=(match s.P.getLast? with | none=>some (pZ s) | some f=>match Tq f with | some i=>some (uZ s i) | none=>if Qd s.h f=true then none else some {s with e:=.stuck}))(hl:s.P.getLast?=some f)(hb:Tq f=none)(hf:Qd s.h f=true):one s=none:=by
 rw[h1,hl];show(match Tq f with | some i=>_ | none=>_)=_;rw[hb];exact XY hf
def qc {f:Fm}(h1:one s=(match s.P.getLast? with | none=>some (pZ s) | some f=>match Tq f with | some i=>some (uZ s i) | none=>if Qd s.h f=true then none else some {s with e:=.stuck}))(hl:s.P.getLast?=some f)(hb:Tq f=none)(hf:Qd s.h f=false):one s=some {s with e:=.stuck}:=by
 rw[h1,hl];show(match Tq f with | some i=>_ | none=>_)=_;rw[hb];exact XX (by rw[hf];decide)
def yn (di:Di A)(R:Rn A C s)(o:Ok d s)(q:∀C',Fr A C C'->Rn A C' (Tj s)->Q .non C'):Z9 pr (n+4) Iv [.ref (A 0)] C Q χ:=by
 refine Il VS ?_;unfold Tj at q;generalize hX:yd (mu s) s=X at q;refine Dr (λm τ C'=>τ=[some (.ref (A 0))]/\∃s',Rn A C' s'/\Ok d s'/\Fr A C C'/\mu s'<=m/\yd m s'=X) (m:=mu s) ⟨VS,s,R,o,Fr.refl _ _,XE _,hX⟩ ?_;rintro m τ C' N ⟨rfl,s',R',o',hF,hm,hx⟩ hN;have nxt:∀s2 C2,one s'=some s2->Rn A C2 s2->Fr A C' C2->N [some (.ref (A 0))] C2:=λs2 C2 h1 R2 F2=>by
  obtain⟨o2,l2,_⟩:=Rg o' h1;obtain⟨m1,rfl⟩:∃m1,m=m1+1:=⟨m-1,by omega⟩;refine hN m1 _ _ (by omega) ⟨VS,s2,R2,o2,hF.trans F2,by omega,?_⟩;unfold yd at hx;rw[h1] at hx;exact hx
 have fin:∀C2,one s'=none->Ex C' C2->Q .non C2:=λC2 h1 E2=>by
  have e:yd m s'=s':=by cases m with | zero=>rfl | succ m1=>unfold yd;rw[h1]
  rw[e] at hx;subst hx;exact q C2 (hF.ex E2) (R'.ex E2)
 have b1:=o'.nU;have b2:=o'.k0;have b3:=o'.nG;have hS9:s'.S.length<=90000:=by split at b1<;>omega
 have hU9:s'.U.length<=9000:=by split at b1<;>omega
 have hG9:s'.G.length<=90000:=by omega
 refine gE R' ?_
 cases he:Kw s'.e with
 | false=>
  refine Jh (fin C' ?_ (Ex.refl _));unfold one;rw[XX (by rw[he];decide)]
 | true=>
  refine Xs (ak R' ?_)
  cases hno:Iq s'.h with
  | true=>
   refine Xs (tN R' yQ ?_);exact yl (n:=n+2) di R' o'.U hU9 λC2 F2 R2=>nxt _ C2 (Gq he hno) R2 F2
  | false=>
   refine Jh ?_;have hnh:s'.h≠.no:=λe=>by rw[e] at hno;cases hno
   obtain⟨w,r,ew⟩:=xS hnh;have lk':(Fs A s').lookup ("hand":Str)=some (.tup (.str w::r)):=by rw[<-ew];rfl
   refine⟨_,VS,_,_,_,_,VS,R'.r,.head _,lk',_,Yl,W0 (bH ew) ⟨_,VS,?_⟩⟩
   cases hst:Qy s'.h with
   | some x=>
    refine Xs ?_;have eh:s'.h=.tm (.stop x):=by
     revert hst
     cases s'.h with
     | no=>intro z;cases z
     | made c ms=>intro z;cases z
     | tm t=>cases t<;>intro z<;>first | (cases z;rfl) | cases z
    have lk2:(Fs A s').lookup ("hand":Str)=some (.tup [.str "stop",.str x]):=by rw[Sx,eh];rfl
    refine⟨_,VS,_,_,_,_,VS,R'.r,.head _,lk2,_,Jc,ZNB VS,?_⟩;refine gs (χ:=χ) (Kj (e:=.stop x)) R' ?_;exact nxt _ _ (rZ he hno hst) (R'.s0 di _) ((Fr.refl _ _).up 0)
   | none=>
    refine Jh ?_;refine⟨_,VS,_,_,_,_,VS,R'.r,.head _,Sx,?_⟩;dsimp only[Zg];refine Gf (n:=n+2) hnh ⟨_,VS,?_⟩
    cases hv:Ql s'.h with
    | false=>
     exact Xs (fin C' (xw he hno hst hv) (Ex.refl _))
    | true=>
     refine Jh ?_;refine⟨_,VS,_,_,_,_,VS,R'.r,.head _,Lv,XO _,λp hp=>?_⟩;have E1:Ex C' (up C' p (.lst [])):=Ex.new hp;have R1:=R'.ex E1;have one1:=Gp he hno hst hv
     cases hl:s'.P.getLast? with
     | none=>
      have e0:=Oo hl;refine Hi (b:=true) (by rw[e0];rfl) R1.pp Zn ⟨true,VS,Xs ?_⟩;refine tN R1 Aq ?_;exact Br (n:=n+1) di R1 hv o'.h hS9 λC2 F2 R2=>nxt _ C2 (rY one1 hl) R2 ((Ex.fr E1).trans F2)
     | some f=>
      have sp:=Qx hl;generalize hP':s'.P.dropLast=P' at sp;have eP:s'.P.map Iw=P'.map Iw++[Iw f]:=by rw[sp,XL];rfl
      refine Hi (b:=false) (by rw[eP];simp) R1.pp Zn ⟨false,VS,Jh ?_⟩;have hpp:=R1.pp;rw[eP] at hpp;have atL:Q7 (P'.map Iw++[Iw f]) (-1)=some (Iw f):=Zao;obtain⟨wf,rf,ef,hbk⟩:=aE (f:=f);refine⟨_,VS,_,_,_,_,VS,R1.r,.head _,Lv,_,_,hpp,atL,?_⟩;rw[ef];refine⟨_,Yl,W0 hbk ⟨_,VS,?_⟩⟩
      cases hb:Tq f with
      | some i=>
       refine Xs ?_;have eb:f=.back i:=by
        revert hb
        cases f<;>intro z<;>first | (cases z;rfl) | cases z
       subst eb;have hfo:=o'.P _ (R7 hl);have hil:i<s'.L.length:=hfo;have hj:s'.L[i]?=some (lW s' i):=by unfold lW;simp[hil]
       refine⟨_,VS,_,_,_,_,VS,R1.r,Nu,yV,_,VS,_,_,_,_,VS,R1.r,Nu,Ls,?_⟩;dsimp only[Zg];refine Lh (n:=n+2) (P:=P') (f:=.back i) di R1 sp λC2 F2 R2=>⟨_,Jc,?_⟩;refine yo (n:=n+1) (j:=i) (l:=lW s' i) di R2 hj (by show s'.G.length<=_;omega) λC3 F3 R3=>?_;refine nxt (uZ s' i) C3 (xz one1 hl VS) ?_ ((Ex.fr E1).trans (F2.trans F3));unfold uZ;rw[hP'];exact R3
      | none=>
       refine Jh ?_;refine⟨_,VS,_,_,_,_,VS,R1.r,.head _,Sx,_,VS,_,_,_,_,VS,R1.r,.head _,Lv,_,_,hpp,atL,?_⟩;dsimp only[Zg];refine kX (n:=n+1) hnh ⟨_,VS,?_⟩
       cases hft:Qd s'.h f with
       | true=>
        exact Xs (fin _ (xy one1 hl hb hft) E1)
       | false=>
        refine Jh ?_;refine⟨ZNB VS,?_⟩;refine gs (χ:=χ) (Kj (e:=.stuck)) R1 ?_;exact nxt _ _ (qc one1 hl hb hft) (R1.s0 di _) ((Ex.fr E1).up 0)
end
open PySem PySem.Spec PyProof.Rows L2 WL
section
variable {A:Ad}{C:Hw}{s:St}{Q:WK}{χ:WX}{n d:Nat}
def oF {r:List T}{X Y:WS}{τ:Sw}(h2:τ[2]?=some (some (.tup (.str a::r))))(q:X D τ C):Ju (Yu (Zf Jw (Zf Zv (Zd 2) (eC (.int 0))) (eC (.str a)))) X Y D τ C:=⟨_,h2,_,Yl,W0 (v:=true) (XU _) ⟨true,VS,Xs q⟩⟩
def Eg {a z:Str}{r:List T}{X Y:WS}{τ:Sw}(h2:τ[2]?=some (some (.tup (.str z::r))))(hn:(z==a)=false)(q:Y D τ C):Ju (Yu (Zf Jw (Zf Zv (Zd 2) (eC (.int 0))) (eC (.str a)))) X Y D τ C:=⟨_,h2,_,Yl,W0 (v:=false) hn ⟨false,VS,Jh q⟩⟩
def jV {X Y:WS}{τ:Sw}(h2:τ[2]?=some (some (.str a)))(q:X D τ C):Ju (Yu (Zf Jw (Zd 2) (eC (.str a)))) X Y D τ C:=⟨_,h2,W0 (v:=true) (XU _) ⟨true,VS,Xs q⟩⟩
def U3 {a z:Str}{X Y:WS}{τ:Sw}(h2:τ[2]?=some (some (.str z)))(hn:(z==a)=false)(q:Y D τ C):Ju (Yu (Zf Jw (Zd 2) (eC (.str a)))) X Y D τ C:=⟨_,h2,W0 (v:=false) hn ⟨false,VS,Jh q⟩⟩
def yj {f:Fm}(di:Di A)(R:Rn A C s)(p:vS d s)(hf:wE s.L.length d f)(hb:Tq f=none)(hft:Qd s.h f=true)(q:∀C',Fr A C C'->Rn A C' (zT s s.h f)->Q .non C'):Z9 pr (n+d+8) N4 [.ref (A 0),hT s.h,Iw f] C Q χ:=by
 refine No VS ?_;have hh:=p.h;have b1:=p.k0;have b2:=p.nL;have b3:=p.nG;have hL9:s.L.length<=90000:=by omega
 have hG9:s.G.length<=90000:=by omega
 have hP9:s.P.length<=90000:=by omega
 cases f with
 | give t=>
  obtain⟨x,b,hs⟩:=A3 hft;rw[hs] at hh q |-
  ·skip
   refine oF VS ?_;refine⟨_,VS,_,_,_,_,VS,R.r,Nu,G6,_,VS,_,Jc,_,VS,_,Jc,?_⟩;dsimp only[Zg];refine Ge (n:=n+d+4) (l:=x) (t:=t) di R p.D (by omega) (by omega) λC1 F1 R1=>?_;refine⟨_,VS,_,V0,λa ha=>⟨_,VS,_,Jc,_,VS,_,VS,Zn,?_⟩⟩;dsimp only[Zg];have E2:∀o,Ex C1 (up (up C1 a (.dic [])) a o):=λo=>(Ex.new ha).up ha;have hpu:=Bz (M:=[(x,Ir s t)]) (Ue hh.2.2);refine PT.put (n:=n) (f:=d+2) (M:=mT [(x,Ir s t)]) (t':=tt (pu (mo [(x,Ir s t)]) b)) (hpu.mono (Nat.le_succ _)).1 hpu.2.2 (.inl Zn) λC3 E3=>?_;have R3:=(R1.ex (E2 _)).ex E3;refine gs (χ:=χ) (Tp (h:=.tm (pu (mo [(x,Ir s t)]) b))) R3 ?_;exact q _ (((F1.ex (E2 _)).ex E3).up 0) (R3.s0 di _)
 | pick al=>
  obtain⟨c,ms,a,hs,ha⟩:=A2 hft;rw[hs] at hh q |-
  ··skip
    obtain⟨m1,m2⟩:=vO ha;obtain⟨o1,o2,o3⟩:=hf a m1;have hl:a.2.1.length=ms.length:=by rw[o1,m2,hh.2.1]
    have eu:zT s (.made c ms) (.pick al)={s with h:=.tm (pu (mo (a.2.1.zip ms)) a.2.2)}:=by
     show(match Tw c al with | some a=>{s with h:=.tm (pu (mo (a.2.1.zip ms)) a.2.2)} | none=>s)=_;rw[ha]
    rw[eu] at q;refine Eg VS (by decide+kernel) (oF VS ?_);refine⟨_,VS,_,VS,_,Jc,?_⟩;dsimp only[Zg];have hpu:=Bz (M:=a.2.1.zip ms) o3;refine sN (n:=n) (f:=d+1) (B':=tt (pu (mo (a.2.1.zip ms)) a.2.2)) ha hl (by have:=jB a.1;omega) o2 hpu.1 hpu.2.2 λC3 E3=>?_;have R3:=R.ex E3;refine gs (χ:=χ) (Tp (h:=.tm (pu (mo (a.2.1.zip ms)) a.2.2))) R3 ?_;exact q _ ((Ex.fr E3).up 0) (R3.s0 di _)
 | left o t=>
  obtain⟨v,hs⟩:=Op hft;rw[hs] at hh q |-
  ·skip
   refine Eg VS (by decide+kernel) (Eg VS (by decide+kernel) (oF VS ?_));refine⟨_,VS,_,_,_,_,VS,R.r,Nu,T1,_,VS,_,V0,_,VS,_,Jc,_,VS,_,Jc,ZNB VS,?_⟩;dsimp only[Zg];exact T0 (n:=n+d+6) (h:=.tm t) (f:=.right o v) di R (by omega) q
 | right o x=>
  obtain⟨v,hs⟩:=Op hft;rw[hs] at hh q |-
  ·skip
   refine Eg VS (by decide+kernel) (Eg VS (by decide+kernel) (Eg VS (by decide+kernel) (oF VS ?_)));refine⟨_,VS,_,Jc,_,VS,_,V0,_,VS,_,Jc,?_⟩;dsimp only[Zg];refine xh (n:=n+d+5) hf.1 hf.2 ?_;refine gs (χ:=χ) (Tp (h:=Q2 o x v)) R ?_;exact q _ ((Fr.refl _ _).up 0) (R.s0 di _)
 | first t=>
  refine Eg VS (by decide+kernel) (Eg VS (by decide+kernel) (Eg VS (by decide+kernel) (Eg VS (by decide+kernel) ?_)));refine⟨_,VS,_,Jc,?_⟩;refine gs (χ:=χ) (Tp (h:=.tm t)) R ?_;exact q _ ((Fr.refl _ _).up 0) (R.s0 di _)
 | back i=>cases hb
def Bs (di:Di A)(R:Rn A C s)(p:vS d s)(h:ok s.L.length d [] t)(hv:Qa t=false)(hs:Qy (.tm t)=none)(q:∀C',Fr A C C'->Rn A C' (zL s t)->Q .non C'):Z9 pr (n+d+8) O7 [.ref (A 0),tt t] C Q χ:=by
 refine Oz VS ?_;have b1:=p.k0;have b2:=p.nL;have b3:=p.nG;have hL9:s.L.length<=90000:=by omega
 have hG9:s.G.length<=90000:=by omega
 have hP9:s.P.length<=90000:=by omega
 cases t with
 | nm x=>cases h
 | num v=>cases hv
 | stop x=>cases hs
 | fn x b=>cases hv
 | call a b=>
  refine⟨_,VS,_,Yl,jV VS ?_⟩;refine⟨_,VS,_,_,_,_,VS,R.r,Nu,T1,_,VS,_,Jc,_,VS,_,V0,ZNB VS,?_⟩;dsimp only[Zg];exact T0 (n:=n+d+6) (h:=.tm a) (f:=.give b) di R (by omega) q
 | does o a b=>
  refine⟨_,VS,_,Yl,U3 VS (by decide+kernel) (jV VS ?_)⟩;refine⟨_,VS,_,_,_,_,VS,R.r,Nu,T1,_,VS,_,V0,_,VS,_,Jc,_,VS,_,pQ,ZNB VS,?_⟩;dsimp only[Zg];exact T0 (n:=n+d+6) (h:=.tm a) (f:=.left o b) di R (by omega) q
 | ch e m cs ns bs=>
  refine⟨_,VS,_,Yl,U3 VS (by decide+kernel) (U3 VS (by decide+kernel) (jV VS ?_))⟩;refine⟨_,VS,_,_,_,_,VS,R.r,Nu,T1,_,VS,_,Jc,_,VS,_,V0,ZNB VS,?_⟩;dsimp only[Zg];have ef:Iw (.pick ((List.finRange m).map λi=>(cs i,ns i,bs i)))=.tup [.str "pick",.tup ((List.finRange m).map λi=>.tup [.str (cs i),.tup ((ns i).map T.str),tt (bs i)])]:=by
   show T.tup [.str "pick",.tup (List.map fB (List.map (λi=>(cs i,ns i,bs i)) (List.finRange m)))]=_;rw[YE];rfl
  have:=T0 (Q:=λ_ C1=>Q .non C1) (χ:=χ) (n:=n+d+6) (h:=.tm e) (f:=.pick ((List.finRange m).map λi=>(cs i,ns i,bs i))) di R (by omega) q;rw[ef] at this;exact this
 | first a b=>
  refine⟨_,VS,_,Yl,U3 VS (by decide+kernel) (U3 VS (by decide+kernel) (U3 VS (by decide+kernel) (jV VS ?_)))⟩;refine⟨_,VS,_,_,_,_,VS,R.r,.head _,Cf,?_⟩;refine gs (χ:=χ) (uj (x:=s.f+1)) R ?_;have R1:=R.s0 di {s with f:=s.f+1};refine⟨_,VS,_,_,_,_,VS,R1.r,Nu,T1,_,VS,_,Jc,_,VS,_,V0,ZNB VS,?_⟩;dsimp only[Zg];exact T0 (n:=n+d+6) (h:=.tm a) (f:=.first b) di R1 (by show s.P.length<=_;omega) λC' F R'=>q C' (((Fr.refl _ _).up 0).trans F) R'
 | lt m xs ts b=>
  refine⟨_,VS,_,Yl,U3 VS (by decide+kernel) (U3 VS (by decide+kernel) (U3 VS (by decide+kernel) (U3 VS (by decide+kernel) (jV VS ?_))))⟩;refine⟨_,VS,_,_,_,_,VS,R.r,Nu,hV,_,VS,_,Jc,_,VS,_,V0,?_⟩;dsimp only[Zg];obtain⟨h1,⟨h2,h3,h4,h5⟩,h6,h7⟩:=h;refine kZ (n:=n) (f:=d+1) (Z:=List.finRange m) (x:=xs) (o:=ts) (g:=λi=>pu (mo (Ao s (V9 xs))) (ts i)) (B:=b) (B':=pu (mo (Ao s (V9 xs))) b) di R (by rw[QZ];exact h3) h4 p.D hL9 hG9 (λi _=>?_) ?_ q
  ·exact Bz (Ue (h6 i))
  ·exact Bz (Ue h7)
 | shp0 c=>
  refine⟨_,VS,_,Yl,U3 VS (by decide+kernel) (U3 VS (by decide+kernel) (U3 VS (by decide+kernel) (U3 VS (by decide+kernel) (U3 VS (by decide+kernel) (jV VS ?_)))))⟩;refine⟨_,VS,_,_,_,_,VS,R.r,Nu,qu,_,VS,_,Jc,_,VS,_,V0,?_⟩;dsimp only[Zg];exact sP (n:=n+d+3) (c:=c) (ts:=[]) di R h.1.2.1 (by simp) p.D hL9 hG9 q
 | shp2 c a b=>
  refine⟨_,VS,_,Yl,U3 VS (by decide+kernel) (U3 VS (by decide+kernel) (U3 VS (by decide+kernel) (U3 VS (by decide+kernel) (U3 VS (by decide+kernel) (jV VS ?_)))))⟩;refine⟨_,VS,_,_,_,_,VS,R.r,Nu,qu,_,VS,_,Jc,_,VS,_,V0,?_⟩;dsimp only[Zg];exact sP (n:=n+d+3) (c:=c) (ts:=[a,b]) di R h.2.1.1.2.1 (by simp) p.D hL9 hG9 q
 | at_ i=>
  refine⟨_,VS,_,Yl,U3 VS (by decide+kernel) (U3 VS (by decide+kernel) (U3 VS (by decide+kernel) (U3 VS (by decide+kernel) (U3 VS (by decide+kernel) (U3 VS (by decide+kernel) ?_)))))⟩;refine⟨_,VS,_,_,_,_,VS,R.r,Nu,mv,_,VS,_,Jc,?_⟩;dsimp only[Zg];have hi:i<s.L.length:=h;have hd:i<s.D.length:=by rw[p.D];exact h
  exact oV (n:=n+d+5) (j:=i) (l:=lW s i) (t:=(s.D[i]?).getD (.nm "")) di R (by unfold lW;simp[hi]) (by simp[hd]) (by omega) (by omega) q
def ym (di:Di A)(R:Rn A C s)(p:vS d s)(hno:Iq s.h=false)(hst:Qy s.h=none)(hd:Ql s.h=true->∃f,s.P.getLast?=some f/\Tq f=none/\Qd s.h f=true)(q:∀C',Fr A C C'->Rn A C' (stp s)->Q .non C'):Z9 pr (n+d+9) N6 [.ref (A 0)] C Q χ:=by
 refine Nq VS ?_;have hnh:s.h≠.no:=λe=>by rw[e] at hno;cases hno
 refine⟨_,VS,_,_,_,_,VS,R.r,.head _,Sx,?_⟩;dsimp only[Zg];refine Gf (n:=n+d+7) hnh ⟨_,VS,?_⟩
 cases hv:Ql s.h with
 | true=>
  refine Xs ?_;obtain⟨f,f1,f2,f3⟩:=hd hv;rw[sC hv f1] at q;refine⟨_,VS,_,_,_,_,VS,R.r,Nu,yO,_,VS,_,_,_,_,VS,R.r,.head _,Sx,_,VS,_,_,_,_,VS,R.r,Nu,Ls,?_⟩;dsimp only[Zg];refine Lh (n:=n+d+7) (P:=s.P.dropLast) (f:=f) di R (Qx f1) λC1 F1 R1=>?_;exact yj (n:=n) (s:={s with P:=s.P.dropLast}) di R1 (p.pop f1) (p.P f (R7 f1)) f2 f3 λC' F R'=>q C' (F1.trans F) R'
 | false=>
  refine Jh ?_;have hh:=p.h;obtain⟨t,hs,hvt⟩:∃t,s.h=.tm t/\Qa t=false:=by
   revert hno hv
   cases s.h with
   | no=>intro d1;cases d1
   | made c ms=>intro _ hv;cases hv
   | tm t=>intro _ hv;exact⟨t,VS,hv⟩
  have lk':(Fs A s).lookup ("hand":Str)=some (tt t):=by rw[Sx,hs];rfl
  refine⟨_,VS,_,_,_,_,VS,R.r,Nu,Ar,_,VS,_,_,_,_,VS,R.r,.head _,lk',?_⟩;dsimp only[Zg];rw[sD hs hvt] at q;rw[hs] at hh hst;exact Bs (n:=n) di R p hh hvt hst q
def zG {m:Int}(h:¬(Kw s.e=true/\s.k<m)):tf m j s=s:=by
 cases j with
 | zero=>rfl
 | succ j=>unfold tf;rw[XX h]
def uh {m:Int}(di:Di A)(R:Rn A C s)(o:Ok d s)(hm:m<=1000)(q:∀C',Fr A C C'->Rn A C' (tf m (m-s.k).toNat (Tj s))->Q .non C'):Z9 pr (n+d+10) Ku [.ref (A 0),.int m] C Q χ:=by
 refine Kd VS ?_;refine⟨_,VS,_,_,_,_,VS,R.r,Nu,yS,?_⟩;dsimp only[Zg];refine yn (n:=n+d+5) di R o λC1 F1 R1=>?_;obtain⟨o1,n1,k1⟩:=Hu (mu s) o (XE _);generalize hX:tf m (m-s.k).toNat (Tj s)=X at q;refine Dr (λj τ C'=>τ=[some (.ref (A 0)),some (.int m)]/\∃s',Rn A C' s'/\Ok d s'/\one s'=none/\Fr A C C'/\j=(m-s'.k).toNat/\tf m j s'=X) (m:=(m-s.k).toNat) ⟨VS,Tj s,R1,o1,n1,F1,by show _=(m-(yd (mu s) s).k).toNat;rw[k1],hX⟩ ?_;rintro j τ C' N ⟨rfl,s',R',o',n',hF,hj,hx⟩ hN;refine gE R' ?_
 cases he:Kw s'.e with
 | false=>
  refine Jh (Jh ?_);rw[zG (λz=>by rw[he] at z;cases z.1)] at hx;subst hx;exact q C' hF R'
 | true=>
  refine Xs ?_;refine⟨_,VS,_,_,_,_,VS,R'.r,.head _,Lu,_,VS,decide (s'.k<m),VS,?_⟩;by_cases c:s'.k<m
  ·refine Fc (decide_eq_true c) ?_;refine⟨_,VS,_,_,_,_,VS,R'.r,.head _,Lu,?_⟩;refine gs (χ:=χ) (rh (x:=s'.k+1)) R' ?_;have R2:=R'.s0 di {s' with k:=s'.k+1};obtain⟨d1,d2,d3⟩:=ax he n';refine⟨_,VS,_,_,_,_,VS,R2.r,Nu,yR,?_⟩;dsimp only[Zg];refine ym (n:=n) (s:={s' with k:=s'.k+1}) di R2 (o'.pre (by omega)) d1 d2 d3 λC3 F3 R3=>?_;have o3:=Bn o' he n' (by omega);refine⟨_,VS,_,_,_,_,VS,R3.r,Nu,yS,?_⟩;dsimp only[Zg];refine yn (n:=n+d+5) di R3 o3 λC4 F4 R4=>?_;obtain⟨o4,n4,k4⟩:=Hu (mu (stp {s' with k:=s'.k+1})) o3 (XE _);have k3:(stp {s' with k:=s'.k+1}).k=s'.k+1:=Bo.1.k;obtain⟨j1,rfl⟩:∃j1,j=j1+1:=⟨j-1,by omega⟩;refine hN j1 _ _ (by omega) ⟨VS,_,R4,o4,n4,((hF.trans ((Fr.refl _ _).up 0)).trans F3).trans F4,?_,?_⟩
   ·show j1=(m-(yd _ _).k).toNat;rw[k4,k3];omega
   ·unfold tf at hx;rw[XY ⟨he,c⟩] at hx;exact hx
  ·refine Ic (YG c) ?_;rw[zG (λz=>c z.2)] at hx;subst hx;exact q C' hF R'
def ew:En->Str
 | .no=>"spent"
 | .told _=>"told"
 | .stop _=>"stop"
 | .stuck=>"stuck"
def ex:En->Str
 | .no=>""
 | .told x=>x
 | .stop x=>x
 | .stuck=>""
def ma (s:St)(p:WP):T:=.tup [.str (ew s.e),.str (ex s.e),.tup [.int s.k,.int s.c,.int s.f],.ref p]
def uf (R:Rn A C s)(q:∀p C',Ex C C'->C p=none->C' p=some (.lst (s.G.map kf))->Q (ma s p) C'):Z9 pr (n+1) Ks [.ref (A 0)] C Q χ:=by
 refine Kb VS ?_;have key:Zs (Zb (Zf Zv (Zd 1) (eC (.int 0))) (Zb (Zf Zv (Zd 1) (eC (.int 1))) (Zb (Zs (Zb (Xt VE "steps" (Zd 0)) (Zb (Xt VE "cells" (Zd 0)) (Zb (Xt VE "firsts" (Zd 0)) Zg)))) (Zb (Oq vM (Zb (Xt VE "log" (Zd 0)) Zg)) Zg)))) [some (.ref (A 0)),some (.tup [.str (ew s.e),.str (ex s.e)])] C Q χ:=by
  refine⟨_,VS,_,Yl,?_⟩;refine⟨_,VS,_,Jc,?_⟩;refine⟨_,VS,_,_,_,_,VS,R.r,.head _,Lu,?_⟩;refine⟨_,VS,_,_,_,_,VS,R.r,.head _,yW,?_⟩;refine⟨_,VS,_,_,_,_,VS,R.r,.head _,Cf,?_⟩;refine⟨ZNB VS,?_⟩;refine⟨_,VS,_,_,_,_,VS,R.r,.head _,qB,?_⟩;refine⟨_,VS,_,R.pg,λp hp=>⟨ZNB VS,?_⟩⟩;exact q p _ (Ex.new hp) hp Zn
 refine gE R ?_
 cases he:s.e with
 | no=>
  rw[he] at key;exact Xs ⟨ZNB VS,key⟩
 | told x=>
  rw[he] at key;exact Jh ⟨_,VS,_,_,_,_,VS,R.r,.head _,by rw[On,he];rfl,key⟩
 | stop x=>
  rw[he] at key;exact Jh ⟨_,VS,_,_,_,_,VS,R.r,.head _,by rw[On,he];rfl,key⟩
 | stuck=>
  rw[he] at key;exact Jh ⟨_,VS,_,_,_,_,VS,R.r,.head _,by rw[On,he];rfl,key⟩
end
open PySem PySem.Spec PyProof.Rows L2 WL
def A5 (t:Tm)(D:Int):St:=⟨.no,0,[],[.part D t],[],[],[],[],0,0,0,.no⟩
def fin (t:Tm)(D m:Int):St:=tf m m.toNat (Tj (A5 t D))
def A4 (h:ok 0 d [] t)(hv:Qa t=false):Ok d (A5 t D):=
 ⟨trivial,λ_=>rfl,λf hf=>(by cases hf),λp hp=>by rw[XQ.mp hp];exact⟨h,hv⟩,λx hx=>(by cases hx),VS,λt ht=>(by cases ht),⟨XW _,by show(0:Int)<=1000;decide⟩,by show(0:Int)<=5*0;decide,by show(0:Int)+0<=6*0;decide,by show(0:Int)+1+0<=6*0+8;decide⟩
section
variable {C:Hw}{Q:WK}{χ:WX}{n d:Nat}
def Ol {f:Str}:∀{fs:List (Str×T)} {m:Nat},fs.length<=m->(Vq f v fs).length<=m+1
 | [],m,_=>by simp[Vq]
 | (g,x)::fs,m,h=>by
  rw[YF] at h;unfold Vq
  split
  ·rw[YF];omega
  ·have:=Ol (f:=f) (v:=v) (fs:=fs) (m:=fs.length) (XE _);rw[YF];omega
def ia {m:Nat}{f:Str}{B:WS}{τ:Sw}{fs:List (Str×T)}(hr:C r=some (.ins "Runner" fs))(h0:τ[0]?=some (some (.ref r)))(hl:fs.length<=m)(hm:m<1000)(q:∀C',C' r=some (.ins "Runner" (Vq f v fs))->(Vq f v fs).length<=m+1->Qk r C C'->B D τ C'):Zq (Zw (eC v) (O8 VE f (Zd 0))) B D τ C:=
 ⟨_,h0,r,_,_,VS,hr,by simp,by omega,q _ Zn (Ol hl) λa o h e=>by rw[Z0 h];exact e⟩
def il {m:Nat}{f:Str}{a:WA}{B:WS}{D:We}{τ:Sw}{fs:List (Str×T)}(hr:C r=some (.ins "Runner" fs))(h0:τ[0]?=some (some (.ref r)))(hl:fs.length<=m)(hm:m<1000)(ha:∀Q:List T->Hw->Prop,Q xs C->a τ C Q D.xc)(hx:xs.length<=1000)
  (q:∀p C',C p=none->p≠r->C' p=some (.lst xs)->C' r=some (.ins "Runner" (Vq f (.ref p) fs))->(Vq f (.ref p) fs).length<=m+1->Qk r C C'->B D τ C'):Zq (Zw (W5 a) (O8 VE f (Zd 0))) B D τ C:=by
 refine ha _ ⟨Ym (by omega),λp hp=>?_⟩;have hne:r≠p:=cne hr hp;refine⟨_,h0,r,_,_,VS,by rw[Z0 hne];exact hr,by simp,by omega,q p _ hp hne.symm (by rw[Z0 hne.symm];exact Zn) Zn (Ol hl) λa o h e=>?_⟩;rw[Z0 h,Z0 (cne e hp)];exact e
def id0 {m:Nat}{f:Str}{B:WS}{D:We}{τ:Sw}{fs:List (Str×T)}(hr:C r=some (.ins "Runner" fs))(h0:τ[0]?=some (some (.ref r)))(hl:fs.length<=m)(hm:m<1000)
  (q:∀p C',C p=none->p≠r->C' p=some (.dic [])->C' r=some (.ins "Runner" (Vq f (.ref p) fs))->(Vq f (.ref p) fs).length<=m+1->Qk r C C'->B D τ C'):Zq (Zw Kx (O8 VE f (Zd 0))) B D τ C:=by
 intro p hp;have hne:r≠p:=cne hr hp;refine⟨_,h0,r,_,_,VS,by rw[Z0 hne];exact hr,by simp,by omega,q p _ hp hne.symm (by rw[Z0 hne.symm];exact Zn) Zn (Ol hl) λa o h e=>?_⟩;rw[Z0 h,Z0 (cne e hp)];exact e
def dZ (r0 p1 p2 p3 p4 p5 p6:WP):Ad:=λi=>match i with | 0=>r0 | 1=>p1 | 2=>p2 | 3=>p3 | 4=>p4 | 5=>p5 | 6=>p6
def iZ {r0 p1 p2 p3 p4 p5 p6:WP}(h:[r0,p1,p2,p3,p4,p5,p6].Nodup):Di (dZ r0 p1 p2 p3 p4 p5 p6):=by
 intro i j hij e;have hi:∀k:Fin 7,[r0,p1,p2,p3,p4,p5,p6][k.val]?=some (dZ r0 p1 p2 p3 p4 p5 p6 k):=λk=>by
  match k with
  | 0=>rfl | 1=>rfl | 2=>rfl | 3=>rfl | 4=>rfl | 5=>rfl | 6=>rfl
 exact hij (Fin.ext ((TX (by exact i.isLt) h).mp (by rw[hi i,hi j,e])))
def lP {D m:Int}(ho:ok 0 d [] t)(hv:Qa t=false)(hm:m<=1000)
  (q:∀(p:WP) (C':Hw),Ex C C'->C p=none->C' p=some (.lst ((fin t D m).G.map kf))->Q (ma (fin t D m) p) C'):Z9 pr (n+d+12) cm [tt t,.int D,.int m] C Q χ:=by
 refine fP VS ?_;refine⟨_,VS,_,VS,?_⟩;dsimp only[Zg];refine Bf VS λr0 hr0=>?_;refine Mv VS ?_;refine ia (m:=0) Zn VS (by simp) (by decide) λC1 r1 l1 x1=>?_;refine ia r1 VS l1 (by decide) λC2 r2 l2 x2=>?_;refine il (xs:=[]) r2 VS l2 (by decide) (λQ h=>h) (by decide) λpp C3 n3 ne3 p3 r3 l3 x3=>?_;refine il (xs:=[.tup [.int D,tt t]]) r3 VS l3 (by decide) (λQ h=>⟨_,VS,_,VS,Ym (by simp),h⟩) (by simp) λps C4 n4 ne4 p4 r4 l4 x4=>?_;refine il (xs:=[]) r4 VS l4 (by decide) (λQ h=>h) (by decide) λpt C5 n5 ne5 p5 r5 l5 x5=>?_;refine id0 r5 VS l5 (by decide) λpd C6 n6 ne6 p6 r6 l6 x6=>?_;refine il (xs:=[]) r6 VS l6 (by decide) (λQ h=>h) (by decide) λpl C7 n7 ne7 p7 r7 l7 x7=>?_;refine il (xs:=[]) r7 VS l7 (by decide) (λQ h=>h) (by decide) λpg C8 n8 ne8 p8 r8 l8 x8=>?_;refine ia r8 VS l8 (by decide) λC9 r9 l9 x9=>?_;refine ia r9 VS l9 (by decide) λCa ra la xa=>?_;refine ia ra VS la (by decide) λCb rb lb xb=>?_;refine⟨_,VS,r0,_,_,VS,rb,by simp,by omega,?_⟩;generalize hCc:up Cb r0 _=Cc;have xc:Qk r0 Cb Cc:=hCc▸λa o h e=>by rw[Z0 h];exact e
 have rc:Cc r0=some (.ins "Runner" (Fs (dZ r0 pp ps pt pd pl pg) (A5 t D))):=hCc▸Zn;clear hCc;have g8:Qk r0 C8 Cc:=((x9.trans xa).trans xb).trans xc;have g7:=x8.trans g8;have g6:=x7.trans g7;have g5:=x6.trans g6;have g4:=x5.trans g5;have g3:=x4.trans g4;have a4:C4 pp=_:=x4 _ _ ne3 p3;have a5:C5 pp=_:=x5 _ _ ne3 a4;have a6:C6 pp=_:=x6 _ _ ne3 a5;have a7:C7 pp=_:=x7 _ _ ne3 a6;have b5:C5 ps=_:=x5 _ _ ne4 p4;have b6:C6 ps=_:=x6 _ _ ne4 b5;have b7:C7 ps=_:=x7 _ _ ne4 b6;have c6:C6 pt=_:=x6 _ _ ne5 p5;have c7:C7 pt=_:=x7 _ _ ne5 c6;have e7:C7 pd=_:=x7 _ _ ne6 p6;have hnd:[r0,pp,ps,pt,pd,pl,pg].Nodup:=by
  simp only[List.nodup_cons,List.mem_cons,List.not_mem_nil,or_false,not_or,not_false_eq_true,List.nodup_nil,and_true];exact⟨⟨ne3.symm,ne4.symm,ne5.symm,ne6.symm,ne7.symm,ne8.symm⟩,⟨cne p3 n4,cne a4 n5,cne a5 n6,cne a6 n7,cne a7 n8⟩,⟨cne p4 n5,cne b5 n6,cne b6 n7,cne b7 n8⟩,⟨cne p5 n6,cne c6 n7,cne c7 n8⟩,⟨cne p6 n7,cne e7 n8⟩,cne p7 n8⟩
 have di:=iZ hnd;have R:Rn (dZ r0 pp ps pt pd pl pg) Cc (A5 t D):=⟨rc,g3 _ _ ne3 p3,g4 _ _ ne4 p4,g5 _ _ ne5 p5,g6 _ _ ne6 p6,g7 _ _ ne7 p7,g8 _ _ ne8 p8⟩;have fr:∀C',Fr (dZ r0 pp ps pt pd pl pg) Cc C'->Ex C C':=λC' f a o h=>by
  have hne:=cne h hr0;have h1:C1 a=some o:=x1 _ _ hne (by rw[Z0 hne];exact h);have h2:C2 a=some o:=x2 _ _ hne h1;have h3:=x3 _ _ hne h2;have h4:=x4 _ _ hne h3;have h5:=x5 _ _ hne h4;have h6:=x6 _ _ hne h5;have h7:=x7 _ _ hne h6;refine f a o (λi=>?_) (g7 _ _ hne h7)
  match i with
  | 0=>exact hne
  | 1=>exact cne h2 n3
  | 2=>exact cne h3 n4
  | 3=>exact cne h4 n5
  | 4=>exact cne h5 n6
  | 5=>exact cne h6 n7
  | 6=>exact cne h7 n8
 clear l1 l2 l3 l4 l5 l6 l7 l8 l9 la lb r1 r2 r3 r4 r5 r6 r7 r8 r9 ra rb x1 x2 x3 x4 x5 x6 x7 x8 x9 xa xb xc g3 g4 g5 g6 g7 g8 p3 p4 p5 p6 p7 p8 n3 n4 n5 n6 n7 n8 ne3 ne4 ne5 ne6 ne7 ne8 a4 a5 a6 a7 b5 b6 b7 c6 c7 e7;refine⟨VS,_,_,_,_,VS,rc,Nu,ab (s:=A5 t D),_,VS,?_⟩;dsimp only[Zg];refine zY VS ?_;refine⟨_,VS,_,_,_,_,VS,rc,Nu,u9 (s:=A5 t D),_,VS,?_⟩;dsimp only[Zg];refine uh (n:=n) di R (A4 ho hv) hm λC' F R'=>?_;have ef:tf m (m-(A5 t D).k).toNat (Tj (A5 t D))=fin t D m:=by show tf m (m-0).toNat _=_;rw[Int.sub_zero];rfl
 rw[ef] at R';refine⟨_,VS,_,_,_,_,VS,R'.r,Nu,u8,?_⟩;dsimp only[Zg];refine uf (n:=n+d+9) R' λp C2 hE hp hG=>?_;exact q p C2 ((fr C' F).trans hE) ((fr C' F).free hp) hG
end
open PySem PySem.Spec PyProof.Rows L2 WL
inductive Ho (m:Int):Nat->St->St->Prop
 | one {n:Nat} {s s1 r:St} (h:one s=some s1) (q:Ho m n s1 r):Ho m (n+1) s r
 | stp {n:Nat} {s r:St} (h:K36.one s=none) (he:Kw s.e=true) (hk:s.k<m) (q:Ho m n (K36.stp {s with k:=s.k+1}) r):Ho m (n+1) s r
 | out {s:St} (h:K36.one s=none) (he:¬(Kw s.e=true/\s.k<m)):Ho m 0 s s
section
variable {m:Int}{d:Nat}{s s1 s2 r r':St}{n n':Nat}
def wW (a:Ho m n s r):∀{n':Nat} {r':St},Ho m n' s r'->r=r':=by
 induction a with
 | one h q ih=>
  intro n' r' b
  cases b with
  | one h2 q2=>rw[h] at h2;cases h2;exact ih q2
  | stp h2 _ _ _=>rw[h] at h2;cases h2
  | out h2 _=>rw[h] at h2;cases h2
 | stp h he hk q ih=>
  intro n' r' b
  cases b with
  | one h2 q2=>rw[h] at h2;cases h2
  | stp _ _ _ q2=>exact ih q2
  | out _ h3=>exact absurd ⟨he,hk⟩ h3
 | out h he=>
  intro n' r' b
  cases b with
  | one h2 q2=>rw[h] at h2;cases h2
  | stp _ h3 h4 _=>exact absurd ⟨h3,h4⟩ he
  | out _ _=>rfl
def Bu:∀(j:Nat) {s:St},(∃n,Ho m n (yd j s) r)->∃n,Ho m n s r
 | 0,s,h=>h
 | j+1,s,⟨n,h⟩=>by
  cases e:one s with
  | none=>unfold yd at h;rw[e] at h;exact⟨n,h⟩
  | some s1=>
   unfold yd at h;rw[e] at h;obtain⟨n',h'⟩:=Bu j ⟨n,h⟩;exact⟨_,.one e h'⟩
def wX (hm:m<=1000):∀(j:Nat) {s:St},Ok d s->one s=none->(m-s.k).toNat=j->∃n,Ho m n s (tf m j s)
 | 0,s,q,h,hj=>⟨0,.out h (by rintro⟨_,z⟩;omega)⟩
 | j+1,s,q,h,hj=>by
  by_cases c:Kw s.e=true/\s.k<m
  ·have e:tf m (j+1) s=tf m j (Tj (stp {s with k:=s.k+1})):=by show(if _ then _ else _)=_;rw[XY c]
   have q2:=Bn q c.1 h (by omega);obtain⟨q3,h3,k3⟩:=Hu (mu (stp {s with k:=s.k+1})) q2 (XE _);have hk:(stp {s with k:=s.k+1}).k=s.k+1:=(Bo (s:={s with k:=s.k+1})).1.k;obtain⟨n,h4⟩:=wX hm j q3 h3 (by rw[k3,hk];omega);obtain⟨n',h5⟩:=Bu _ ⟨n,h4⟩;exact⟨_,by rw[e];exact .stp h c.1 c.2 h5⟩
  ·exact⟨0,by rw[zG c];exact .out h c⟩
def Bw (hm:m<=1000)(ho:ok 0 d [] t)(hv:Qa t=false):∃n,Ho m n (A5 t D) (fin t D m):=by
 obtain⟨q,h,k⟩:=Hu (mu (A5 t D)) (A4 (D:=D) ho hv) (XE _);obtain⟨n,h1⟩:=wX hm m.toNat q h (by rw[k];show(m-0).toNat=_;rw[Int.sub_zero]);exact Bu _ ⟨n,h1⟩
def tq (m:Int)(s s1:St):Prop:=∀n r,Ho m n s1 r->∃n',Ho m n' s r
def tq.refl:tq m s s:=λn r h=>⟨n,h⟩
def tq.trans (a:tq m s s1)(b:tq m s1 s2):tq m s s2:=λn r h=>by obtain⟨n',h'⟩:=b n r h;exact a n' r h'
def To (h:one s=some s1):tq m s s1:=λn r q=>⟨_,.one h q⟩
def ni (h:one s=none)(he:s.e=.no)(hk:s.k<m):tq m s (stp {s with k:=s.k+1}):=λn r q=>⟨_,.stp h (by rw[he];rfl) hk q⟩
def Ab (he:Kw s.e=false):one s=none:=by unfold one;rw[XX (by rw[he];decide)]
def Bx (he:Kw s.e=false)(q:Ho m n s r):r=s:=by
 cases q with
 | one h _=>rw[Ab he] at h;cases h
 | stp _ h2 _ _=>rw[he] at h2;cases h2
 | out _ _=>rfl
end
def gt (g:List Nat)(i:Nat):Nat:=g.getD i 0
def rn (g:List Nat):Tm->Tm
 | .nm x=>.nm x
 | .num v=>.num v
 | .stop x=>.stop x
 | .at_ i=>.at_ (gt g i)
 | .shp0 c=>.shp0 c
 | .shp2 c a b=>.shp2 c (rn g a) (rn g b)
 | .does o a b=>.does o (rn g a) (rn g b)
 | .call a b=>.call (rn g a) (rn g b)
 | .first a b=>.first (rn g a) (rn g b)
 | .fn x b=>.fn x (rn g b)
 | .lt n xs ts b=>.lt n xs (λi=>rn g (ts i)) (rn g b)
 | .ch e n cs ns bs=>.ch (rn g e) n cs ns (λi=>rn g (bs i))
def zK (g:List Nat):Hd->Hd
 | .no=>.no
 | .tm t=>.tm (rn g t)
 | .made c ms=>.made c (ms.map (gt g))
def ig (g:List Nat)(a:Al):Al:=(a.1,a.2.1,rn g a.2.2)
def Io (g:List Nat):Fm->Fm
 | .give t=>.give (rn g t)
 | .pick al=>.pick (al.map (ig g))
 | .left o t=>.left o (rn g t)
 | .right o x=>.right o x
 | .first t=>.first (rn g t)
 | .back i=>.back (gt g i)
section
variable {g h:List Nat}{L d:Nat}
def Fh {i:Nat}(hi:i<g.length):gt (g++h) i=gt g i:=by unfold gt;rw[RZ,RZ,QL hi]
def Kh (hL:L<=g.length):∀{t:Tm} {d:Nat} {Γ:List Str},ok L d Γ t->rn (g++h) t=rn g t:=by
 intro t
 induction t with
 | nm x=>intro _ _ _;rfl
 | num v=>intro _ _ _;rfl
 | stop x=>intro _ _ _;rfl
 | at_ i=>intro _ _ k;show Tm.at_ _=Tm.at_ _;rw[Fh (XG k hL)]
 | shp0 c=>intro _ _ _;rfl
 | shp2 c a b iha ihb=>intro _ _ k;show Tm.shp2 c _ _=Tm.shp2 c _ _;rw[iha k.2.2.1,ihb k.2.2.2]
 | does o a b iha ihb=>intro _ _ k;show Tm.does o _ _=Tm.does o _ _;rw[iha k.2.1,ihb k.2.2]
 | call a b iha ihb=>intro _ _ k;show Tm.call _ _=Tm.call _ _;rw[iha k.2.1,ihb k.2.2]
 | first a b iha ihb=>intro _ _ k;show Tm.first _ _=Tm.first _ _;rw[iha k.2.1,ihb k.2.2]
 | fn x b ih=>intro _ _ k;show Tm.fn x _=Tm.fn x _;rw[ih k.2.2]
 | lt n xs ts b iht ihb=>intro _ _ k;show Tm.lt n xs _ _=Tm.lt n xs _ _;rw[ihb k.2.2.2,funext λi=>iht i (k.2.2.1 i)]
 | ch e n cs ns bs ihe ihb=>intro _ _ k;show Tm.ch _ n cs ns _=Tm.ch _ n cs ns _;rw[ihe k.2.2.1,funext λi=>ihb i (k.2.2.2 i)]
def zm {M:Str->Option Nat}{f:Nat->Nat}:zn (λx=>(M x).map f) ns=λx=>(zn M ns x).map f:=by
 funext x;unfold zn;split<;>rfl
def sZ:∀{t:Tm} {M:Str->Option Nat},pu (λx=>(M x).map (gt g)) (rn g t)=rn g (pu M t):=by
 intro t
 induction t with
 | nm x=>intro M;show(match (M x).map (gt g) with | some i=>Tm.at_ i | none=>.nm x)=rn g (match M x with | some i=>.at_ i | none=>.nm x);cases M x<;>rfl
 | num v=>intro _;rfl
 | stop x=>intro _;rfl
 | at_ i=>intro _;rfl
 | shp0 c=>intro _;rfl
 | shp2 c a b iha ihb=>intro M;show Tm.shp2 c _ _=Tm.shp2 c _ _;rw[iha,ihb]
 | does o a b iha ihb=>intro M;show Tm.does o _ _=Tm.does o _ _;rw[iha,ihb]
 | call a b iha ihb=>intro M;show Tm.call _ _=Tm.call _ _;rw[iha,ihb]
 | first a b iha ihb=>intro M;show Tm.first _ _=Tm.first _ _;rw[iha,ihb]
 | fn x b ih=>intro M;show Tm.fn x (pu (zn _ _) _)=Tm.fn x _;rw[zm,ih]
 | lt n xs ts b iht ihb=>intro M;show Tm.lt n xs (λi=>pu (zn _ _) _) (pu (zn _ _) _)=Tm.lt n xs _ _;rw[zm,ihb,funext λi=>iht i]
 | ch e n cs ns bs ihe ihb=>intro M;show Tm.ch _ n cs ns (λi=>pu (zn _ _) _)=Tm.ch _ n cs ns _;rw[ihe];congr 1;funext i;rw[zm,ihb i]
def xE {M:Mn}:mo (M.map λz=>(z.1,gt g z.2))=λx=>(mo M x).map (gt g):=by
 funext x
 unfold mo;rw[TR,Option.map_map,Option.map_map];rfl
def A1 {h:Hd}:Ql (zK g h)=Ql h:=by
 cases h with
 | no=>rfl
 | tm t=>cases t<;>rfl
 | made c ms=>rfl
def vt {h:Hd}:Qy (zK g h)=Qy h:=by
 cases h with
 | no=>rfl
 | tm t=>cases t<;>rfl
 | made c ms=>rfl
def ql {h:Hd}:Iq (zK g h)=Iq h:=by cases h<;>rfl
def m9:Qa (rn g t)=Qa t:=by cases t<;>rfl
def xL:og (rn g t)=og t:=by cases t<;>rfl
def vv {f:Fm}:Tq (Io g f)=(Tq f).map (gt g):=by cases f<;>rfl
def vP {al:List Al}:Tw c (al.map (ig g))=(Tw c al).map (ig g):=by
 unfold Tw;rw[TR];rfl
def gB {h:Hd}{f:Fm}:Qd (zK g h) (Io g f)=Qd h f:=by
 have h1:isFn (zK g h)=isFn h:=by
  cases h with
  | no=>rfl
  | tm t=>cases t<;>rfl
  | made c ms=>rfl
 have h2:yZ (zK g h)=yZ h:=by
  cases h with
  | no=>rfl
  | tm t=>cases t<;>rfl
  | made c ms=>rfl
 cases f with
 | give t=>exact h1
 | pick al=>
  cases h with
  | no=>rfl
  | tm t=>rfl
  | made c ms=>show(Tw c (al.map (ig g))).isSome=(Tw c al).isSome;rw[vP,SQ]
 | left o t=>exact h2
 | right o x=>exact h2
 | first t=>rfl
 | back i=>rfl
end
open PySem PySem.Spec PyProof.Rows L2 WL
structure Th (g:List Nat)(D' D:List Tm):Prop where
 len:D.length=g.length
 at_:∀(i:Nat) (t:Tm),D[i]?=some t->D'[gt g i]?=some (rn g t)
def Th.more (h:Th g D' D)(R:List Tm):Th g (D'++R) D:=⟨h.len,λi t e=>by
 have:=h.at_ i t e;rw[QL (PY.mp this).1];exact this⟩
structure Sy (δ:Int)(g:List Nat)(s' s:St):Prop where
 h:s'.h=zK g s.h
 P:s'.P=s.P.map (Io g)
 w:s'.w=s.w+δ
 D:Th g s'.D s.D
 L':s'.D.length=s'.L.length
 e':s'.e=.no
 e:s.e=.no
 k:s.k<=s'.k
section
variable {δ:Int}{g:List Nat}{s s':St}{d:Nat}{m:Int}
def xT {n:Nat}{R:List Nat}{j x:Nat}(h:g.length=n)(hx:R[j]?=some x):gt (g++R) (n+j)=x:=by
 unfold gt;rw[RZ,RF (by omega),show n+j-g.length=j by omega,hx];rfl
def Iz {L:Nat}{R:List Nat}(hL:L=g.length)(h:ok L d [] t):rn (g++R) t=rn g t:=Kh (SG hL) h
def Th.add (h:Th g D' D){L:Nat}(hL:L=D.length)(ho:∀t∈D,ok L d [] t)(new:List Tm):Th (g++(List.range new.length).map (D'.length+·)) (D'++new.map (rn (g++(List.range new.length).map (D'.length+·)))) (D++new):=by
 refine⟨by rw[PX,PX,h.len,XI,List.length_range],λi t e=>?_⟩;by_cases c:i<D.length
 ·rw[QL c] at e;have h1:=h.at_ i t e;rw[Fh (by rw[<-h.len];exact c),Kh (L:=L) (by rw[hL,h.len];exact XE _) (ho t (QB e)),QL (PY.mp h1).1];exact h1
 ·rw[RF (by omega)] at e;have hi:i-D.length<new.length:=(PY.mp e).1;have h1:gt (g++(List.range new.length).map (D'.length+·)) i=D'.length+(i-D.length):=by
   have:=xT (g:=g) (n:=D.length) (R:=(List.range new.length).map (D'.length+·)) (j:=i-D.length) (x:=D'.length+(i-D.length)) h.len.symm (by rw[XM,SA hi];rfl)
   rwa [show D.length+(i-D.length)=i by omega] at this
  rw[h1,RF (by omega),show D'.length+(i-D.length)-D'.length=i-D.length by omega,XM,e];rfl
def Th.add1 (h:Th g D' D){L:Nat}(hL:L=D.length)(ho:∀t∈D,ok L d [] t){t:Tm}(ht:ok L d [] t):Th (g++[D'.length]) (D'++[rn g t]) (D++[t]):=by
 have:=h.add hL ho [t];rw[show(List.range [t].length).map (D'.length+·)=[D'.length] from rfl] at this;rw[show[t].map (rn (g++[D'.length]))=[rn g t] by rw[<-Kh (h:=[D'.length]) (L:=L) (by rw[hL,h.len];exact XE _) ht];rfl] at this;exact this
def qq {l:Str}{t:Tm}(T:Th g s'.D s.D)(hL':s'.D.length=s'.L.length)(hL:s.D.length=s.L.length)(ho:∀t∈s.D,ok s.L.length d [] t)(ht:ok s.L.length d [] t):
  ∃R,Th (g++R) (W1 s' l (rn g t)).D (W1 s l t).D/\(W1 s' l (rn g t)).D.length=(W1 s' l (rn g t)).L.length/\(W1 s l t).D.length=(W1 s l t).L.length/\Ir s' (rn g t)=gt (g++R) (Ir s t)/\(∀u∈(W1 s l t).D,ok (W1 s l t).L.length d [] u)/\s.L.length<=(W1 s l t).L.length/\Ir s t<(W1 s l t).L.length:=by
 cases hm:og t with
 | true=>
  have e1:W1 s l t=s:=by unfold W1;rw[XY hm]
  have e2:W1 s' l (rn g t)=s':=by unfold W1;rw[XY (by rw[xL,hm])]
  refine⟨[],?_⟩;rw[e1,e2,YK];refine⟨T,hL',hL,?_,ho,XE _,?_⟩
  ·cases t<;>first | rfl | (cases hm)
  ·cases t<;>first | exact ht | (cases hm)
 | false=>
  have e1:W1 s l t=yX (Ii s l) t:=by unfold W1;rw[XX (by rw[hm];decide)]
  have e2:W1 s' l (rn g t)=yX (Ii s' l) (rn g t):=by unfold W1;rw[XX (by rw[xL,hm];decide)]
  refine⟨[s'.D.length],?_⟩;rw[e1,e2];have l1:(s.D++[t]).length=(s.L++[l]).length:=by rw[PX,PX,hL];rfl
  refine⟨T.add1 hL.symm ho ht,?_,l1,?_,λu hu=>?_,?_,?_⟩
  ·show(s'.D++[rn g t]).length=(s'.L++[l]).length;rw[PX,PX,hL'];rfl
  ·rw[Lr hm,Lr (by rw[xL,hm]),<-hL',<-hL];exact(xT (j:=0) T.len.symm VS).symm
  ·show ok (s.L++[l]).length d [] u;have hle:s.L.length<=(s.L++[l]).length:=by rw[PX];omega
   rcases XS.mp hu with hu | hu
   ·exact Xw hle (ho u hu) (XE _)
   ·rw[XQ.mp hu];exact Xw hle ht (XE _)
  ·show s.L.length<=(s.L++[l]).length;rw[PX];omega
  ·rw[Lr hm];show s.L.length<(s.L++[l]).length;rw[PX];exact RM _
def Qu:(W1 s l t).P=s.P/\(W1 s l t).S=s.S/\(W1 s l t).U=s.U/\(W1 s l t).k=s.k/\(W1 s l t).w=s.w/\(W1 s l t).e=s.e/\∃R,(W1 s l t).D=s.D++R:=by
 unfold W1;split
 ·exact⟨VS,VS,VS,VS,VS,VS,[],by rw[YK]⟩
 ·exact⟨VS,VS,VS,VS,VS,VS,[t],VS⟩
structure Kp (s s1:St):Prop where
 S:s1.S=s.S
 U:s1.U=s.U
 w:s1.w=s.w
 D:∃R,s1.D=s.D++R
def Kp.refl:Kp s s:=⟨VS,VS,VS,[],by rw[YK]⟩
def Kp.of {s1:St}(h1:s1.S=s.S)(h2:s1.U=s.U)(h3:s1.w=s.w)(h4:s1.D=s.D):Kp s s1:=⟨h1,h2,h3,[],by rw[YK];exact h4⟩
def Kp.trans (a:Kp s s1)(b:Kp s1 s2):Kp s s2:=by
 obtain⟨R,e⟩:=a.D;obtain⟨R',e'⟩:=b.D;exact⟨b.S.trans a.S,b.U.trans a.U,b.w.trans a.w,R++R',by rw[e',e,YL]⟩
def qF:Kp s (W1 s l t):=by
 obtain⟨_,h2,h3,_,h5,_,h7⟩:=Qu (s:=s) (l:=l) (t:=t);exact⟨h2,h3,h5,h7⟩
def G4 {a b:Tm}:Rz s c [a,b]={W1 (W1 (Ye s c) (E9 c 1) a) (E9 c 2) b with h:=.made c [Ir (Ye s c) a,Ir (W1 (Ye s c) (E9 c 1) a) b]}:=rfl
def Qh:(Ye s c).D=s.D/\(Ye s c).L=s.L/\(Ye s c).P=s.P/\(Ye s c).S=s.S/\(Ye s c).U=s.U/\(Ye s c).k=s.k/\(Ye s c).w=s.w/\(Ye s c).e=s.e:=by
 unfold Ye;split<;>exact⟨VS,VS,VS,VS,VS,VS,VS,VS⟩
def vp {ts:List Tm}(h:ts=[]\/∃a b,ts=[a,b]):Kp s (Rz s c ts):=by
 obtain⟨c1,c2,c3,c4,c5,c6,c7,c8⟩:=Qh (s:=s) (c:=c)
 rcases h with rfl | ⟨a,b,rfl⟩
 ·exact Kp.of c4 c5 c7 c1
 ·rw[G4];exact(Kp.of c4 c5 c7 c1).trans ((qF (l:=E9 c 1) (t:=a)).trans ((qF (l:=E9 c 2) (t:=b)).trans (Kp.of VS VS VS VS)))
def my:Kp s (vL s ns ts b):=by
 obtain⟨_,_,hD,hP,hS,hU,hkk,hw,_,_,_⟩:=w6 (s:=s) (ns:=ns) ns.length (XE _);exact⟨hS,hU,hw,ts,VS⟩
def cg:Kp s (zL s t):=by
 cases t with
 | nm x=>exact Kp.refl
 | num v=>exact Kp.refl
 | stop x=>exact Kp.refl
 | at_ i=>exact Kp.of VS VS VS VS
 | shp0 c=>exact vp (.inl VS)
 | shp2 c a b=>exact vp (.inr ⟨_,_,VS⟩)
 | does o a b=>exact Kp.of VS VS VS VS
 | call a b=>exact Kp.of VS VS VS VS
 | first a b=>exact Kp.of VS VS VS VS
 | fn x b=>exact Kp.refl
 | lt n xs ts b=>exact my
 | ch e n cs ns bs=>exact Kp.of VS VS VS VS
def cf {f:Fm}:Kp s (zT s h f):=by
 unfold zT
 cases f with
 | give t=>simp only;split<;>first | exact(qF (l:=_) (t:=t)).trans (Kp.of VS VS VS VS) | exact Kp.refl
 | pick al=>
  simp only;split
  ·split<;>first | exact Kp.of VS VS VS VS | exact Kp.refl
  ·exact Kp.refl
 | left o t=>simp only;split<;>first | exact Kp.of VS VS VS VS | exact Kp.refl
 | right o x=>simp only;split<;>first | exact Kp.of VS VS VS VS | exact Kp.refl
 | first t=>exact Kp.of VS VS VS VS
 | back i=>exact Kp.refl
def qE:Kp s (stp {s with k:=s.k+1}):=by
 unfold stp
 split
 ·split
  ·exact Kp.trans (s1:={s with k:=s.k+1,P:=s.P.dropLast}) (Kp.of VS VS VS VS) cf
  ·exact Kp.of VS VS VS VS
 ·split
  ·exact(Kp.of rfl rfl rfl rfl:Kp s {s with k:=s.k+1}).trans cg
  ·exact Kp.of VS VS VS VS
end
open PySem PySem.Spec PyProof.Rows L2 WL
section
variable {δ:Int}{g:List Nat}{s s':St}{d:Nat}{m:Int}
def nh {L:Nat}{R:List Nat}(hL:L=g.length){f:Fm}(h:wE L d f):Io (g++R) f=Io g f:=by
 cases f with
 | give t=>show Fm.give _=Fm.give _;rw[Iz hL h]
 | pick al=>
  show Fm.pick _=Fm.pick _;congr 1;refine QM λa ha=>?_;show(_,_,_)=(_,_,_);rw[Kh (SG hL) (h a ha).2.2]
 | left o t=>show Fm.left _ _=Fm.left _ _;rw[Iz hL h]
 | right o x=>rfl
 | first t=>show Fm.first _=Fm.first _;rw[Iz hL h]
 | back i=>show Fm.back _=Fm.back _;rw[Fh (hL▸h)]
def pW {L:Nat}{R:List Nat}{P:List Fm}(hL:L=g.length)(h:∀f∈P,wE L d f):P.map (Io g)=P.map (Io (g++R)):=QM λf hf=>(nh hL (h f hf)).symm
def ng:zK g (Q2 o x y)=Q2 o x y:=by unfold Q2;split<;>(try split)<;>rfl
def eR (Y:Sy δ g s' s)(ht:s.h=.tm t)(q:Ok d s)(hv:Qa t=false)(hst:Qy (.tm t)=none):∃R,Sy δ (g++R) (zL {s' with k:=s'.k+1} (rn g t)) (zL {s with k:=s.k+1} t):=by
 obtain⟨h,w,P,S,U,D,L,G,k,c,f,e⟩:=s;obtain⟨h',w',P',S',U',D',L',G',k',c',f',e'⟩:=s';obtain⟨yh,yP,yw,yD,yL,ye',ye,yk⟩:=Y;simp only at ht yh yP yw yL ye' ye yk;subst ht yh yP yw ye' ye;have hDL:D.length=L.length:=q.D;have hg:L.length=g.length:=by rw[<-hDL];exact yD.len
 have hok:ok L.length d [] t:=q.h;have hk:k+1<=k'+1:=by omega
 have hP:∀f∈P,wE L.length d f:=q.P;have hDo:∀t∈D,ok L.length d [] t:=q.D';have go:∀{a:Tm} {fr:Fm} {f1 f2:Int},∃R,Sy δ (g++R) ⟨.tm (rn g a),w+δ,P.map (Io g)++[Io g fr],S',U',D',L',G',k'+1,c',f1,.no⟩ ⟨.tm a,w,P++[fr],S,U,D,L,G,k+1,c,f2,.no⟩:=λ{a fr f1 f2}=>
  ⟨[],by rw[YK];exact⟨VS,by show _=(P++[fr]).map (Io g);rw[XL];rfl,VS,yD,yL,VS,VS,hk⟩⟩
 cases t with
 | nm x=>cases hok
 | num v=>cases hv
 | stop x=>cases hst
 | fn x b=>cases hv
 | call a b=>exact go (fr:=.give b)
 | does o a b=>exact go (fr:=.left o b)
 | first a b=>exact go (fr:=.first b)
 | ch e n cs ns bs=>
  have:=go (a:=e) (fr:=.pick ((List.finRange n).map λi=>(cs i,ns i,bs i))) (f1:=f') (f2:=f);rw[show Io g (.pick ((List.finRange n).map λi=>(cs i,ns i,bs i)))=.pick ((List.finRange n).map λi=>(cs i,ns i,rn g (bs i))) by show Fm.pick _=Fm.pick _;rw[YE];rfl] at this;exact this
 | at_ i=>
  have hi:i<D.length:=by rw[hDL];exact hok
  have h1:D[i]?=some D[i]:=SK hi;have h2:=yD.at_ _ _ h1;refine⟨[],?_⟩;rw[YK];refine⟨?_,?_,VS,yD,yL,VS,VS,hk⟩
  ·show Hd.tm ((D'[gt g i]?).getD _)=zK g (.tm ((D[i]?).getD _));rw[h1,h2];rfl
  ·show P.map (Io g)++[Fm.back (gt g i)]=(P++[Fm.back i]).map (Io g);rw[XL];rfl
 | shp0 cc=>
  obtain⟨c1,c2,c3,c4,c5,c6,c7,c8⟩:=Qh (s:=⟨.tm (.shp0 cc),w,P,S,U,D,L,G,k+1,c,f,.no⟩) (c:=cc);obtain⟨b1,b2,b3,b4,b5,b6,b7,b8⟩:=Qh (s:=⟨zK g (.tm (.shp0 cc)),w+δ,P.map (Io g),S',U',D',L',G',k'+1,c',f',.no⟩) (c:=cc);refine⟨[],?_⟩;rw[YK];exact⟨VS,by show(Ye _ cc).P=(Ye _ cc).P.map _;rw[b3,c3],by show(Ye _ cc).w=(Ye _ cc).w+δ;rw[b7,c7],by show Th g (Ye _ cc).D (Ye _ cc).D;rw[b1,c1];exact yD,by show(Ye _ cc).D.length=(Ye _ cc).L.length;rw[b1,b2];exact yL,by show(Ye _ cc).e=_;rw[b8],by show(Ye _ cc).e=_;rw[c8],by show(Ye _ cc).k<=(Ye _ cc).k;rw[b6,c6];exact hk⟩
 | shp2 cc a b=>
  obtain⟨c1,c2,c3,c4,c5,c6,c7,c8⟩:=Qh (s:=⟨.tm (.shp2 cc a b),w,P,S,U,D,L,G,k+1,c,f,.no⟩) (c:=cc);obtain⟨b1,b2,b3,b4,b5,b6,b7,b8⟩:=Qh (s:=⟨zK g (.tm (.shp2 cc a b)),w+δ,P.map (Io g),S',U',D',L',G',k'+1,c',f',.no⟩) (c:=cc);show ∃R,Sy δ (g++R) (Rz _ cc [rn g a,rn g b]) (Rz _ cc [a,b]);rw[G4,G4];generalize Ye _ cc=s0' at b1 b2 b3 b4 b5 b6 b7 b8 |-;generalize Ye _ cc=s0 at c1 c2 c3 c4 c5 c6 c7 c8 |-;simp only at c1 c2 c3 c6 c7 c8 b1 b2 b3 b6 b7 b8;have oa:ok s0.L.length d [] a:=by rw[c2];exact Ue hok.2.2.1
  have ob:ok s0.L.length d [] b:=by rw[c2];exact Ue hok.2.2.2
  obtain⟨R1,t1,l1',l1,n1,o1,le1,lt1⟩:=qq (l:=E9 cc 1) (t:=a) (s:=s0) (s':=s0') (g:=g) (d:=d) (by rw[b1,c1];exact yD) (by rw[b1,b2];exact yL) (by rw[c1,c2];exact hDL) (by rw[c1,c2];exact hDo) oa;obtain⟨x1,x2,x3,x4,x5,x6,_⟩:=Qu (s:=s0) (l:=E9 cc 1) (t:=a);obtain⟨z1,z2,z3,z4,z5,z6,_⟩:=Qu (s:=s0') (l:=E9 cc 1) (t:=rn g a);have eb:rn g b=rn (g++R1) b:=(Iz (by rw[c2];exact hg) ob).symm;generalize hs1:W1 s0 (E9 cc 1) a=s1 at*;generalize hs1':W1 s0' (E9 cc 1) (rn g a)=s1' at*;obtain⟨R2,t2,l2',l2,n2,o2,le2,lt2⟩:=qq (l:=E9 cc 2) (t:=b) (s:=s1) (s':=s1') (g:=g++R1) (d:=d) t1 l1' l1 o1 (Xw le1 ob (XE _));obtain⟨y1,y2,y3,y4,y5,y6,_⟩:=Qu (s:=s1) (l:=E9 cc 2) (t:=b);obtain⟨v1,v2,v3,v4,v5,v6,_⟩:=Qu (s:=s1') (l:=E9 cc 2) (t:=rn (g++R1) b);have hm1:gt (g++R1) (Ir s0 a)=gt (g++R1++R2) (Ir s0 a):=(Fh (by rw[<-t1.len,l1];exact lt1)).symm;refine⟨R1++R2,?_⟩;rw[<-YL,eb];refine⟨?_,?_,?_,t2,l2',?_,?_,?_⟩
  ·show Hd.made cc [Ir s0' (rn g a),Ir s1' (rn (g++R1) b)]=Hd.made cc [gt (g++R1++R2) (Ir s0 a),gt (g++R1++R2) (Ir s1 b)];rw[n1,n2,hm1]
  ·show(W1 s1' _ _).P=(W1 s1 _ _).P.map _;rw[v1,z1,b3,y1,x1,c3,YL];exact pW hg hP
  ·show(W1 s1' _ _).w=(W1 s1 _ _).w+δ;rw[v5,z5,b7,y5,x5,c7]
  ·show(W1 s1' _ _).e=_;rw[v6,z6,b8]
  ·show(W1 s1 _ _).e=_;rw[y6,x6,c8]
  ·show(W1 s1 _ _).k<=(W1 s1' _ _).k;rw[v4,z4,b6,y4,x4,c6];exact hk
 | lt n xs ts b=>
  have hn:(V9 xs).length=n:=by rw[XI,QZ]
  generalize hR:(List.range n).map (D'.length+·)=R;have hmB:∀i,i<=(V9 xs).length->mB L'.length (V9 xs) i=(mB L.length (V9 xs) i).map λz=>(z.1,gt (g++R) z.2):=by
   intro i
   induction i with
   | zero=>intro _;rfl
   | succ i ih=>
    intro hi;have hx:(V9 xs)[i]?=some (V9 xs)[i]:=SK (by omega);show(match (V9 xs)[i]? with | some x=>mB L'.length (V9 xs) i++[(x,L'.length+i)] | none=>_)=(match (V9 xs)[i]? with | some x=>mB L.length (V9 xs) i++[(x,L.length+i)] | none=>_).map _;rw[hx];simp only[List.map_append,List.map_cons,List.map_nil];rw[ih (by omega),xT (g:=g) (n:=L.length) (j:=i) (x:=D'.length+i) hg.symm (by rw[<-hR,XM,SA (by omega)];rfl),yL]
  have hM:mo (mB L'.length (V9 xs) (V9 xs).length)=λx=>(mo (mB L.length (V9 xs) (V9 xs).length) x).map (gt (g++R)):=by rw[hmB _ (XE _),xE]
  have hpu:∀{t:Tm} {dd:Nat} {Γ:List Str},ok L.length dd Γ t->pu (mo (mB L'.length (V9 xs) (V9 xs).length)) (rn g t)=rn (g++R) (pu (mo (mB L.length (V9 xs) (V9 xs).length)) t):=λ{t dd Γ} h=>by
   rw[hM,<-Kh (h:=R) (SG hg) h,sZ]
  obtain⟨p1,_,p3,p4,p5,p6,p7,p8,_,_,p11⟩:=w6 (s:=⟨.tm (.lt n xs ts b),w,P,S,U,D,L,G,k+1,c,f,.no⟩) (ns:=V9 xs) (V9 xs).length (XE _);obtain⟨r1,_,r3,r4,r5,r6,r7,r8,_,_,r11⟩:=w6 (s:=⟨zK g (.tm (.lt n xs ts b)),w+δ,P.map (Io g),S',U',D',L',G',k'+1,c',f',.no⟩) (ns:=V9 xs) (V9 xs).length (XE _);have hT:=yD.add (d:=d) hDL.symm hDo ((List.finRange n).map λi=>pu (mo (mB L.length (V9 xs) (V9 xs).length)) (ts i));rw[XI,QZ,hR,YE] at hT;have eT:((List.finRange n).map λi=>pu (mo (mB L'.length (V9 xs) (V9 xs).length)) (rn g (ts i)))=(List.finRange n).map (rn (g++R)∘λi=>pu (mo (mB L.length (V9 xs) (V9 xs).length)) (ts i)):=QM λi _=>hpu (hok.2.2.1 i);refine⟨R,⟨?_,?_,?_,?_,?_,?_,?_,?_⟩⟩
  ·show Hd.tm (pu (mo (mB L'.length (V9 xs) (V9 xs).length)) (rn g b))=Hd.tm _;rw[hpu hok.2.2.2];rfl
  ·show(bA _ _ _).P=(bA _ _ _).P.map _;rw[r4,p4];exact pW hg hP
  ·show(bA _ _ _).w=(bA _ _ _).w+δ;rw[r8,p8]
  ·show Th _ (D'++_) (D++_);rw[<-eT] at hT;exact hT
  ·show(D'++List.map _ _).length=(bA _ _ _).L.length;rw[r1,PX,XI,QZ,hn,yL]
  ·show(bA _ _ _).e=_;rw[r11]
  ·show(bA _ _ _).e=_;rw[p11]
  ·show(bA _ _ _).k<=(bA _ _ _).k;rw[r7,p7];exact hk
def eQ (Y:Sy δ g s' s)(hl:s.P.getLast?=some fr)(q:Ok d s)(hb:Tq fr=none)(hf:Qd s.h fr=true):
  ∃R,Sy δ (g++R) (zT {s' with k:=s'.k+1,P:=s'.P.dropLast} s'.h (Io g fr)) (zT {s with k:=s.k+1,P:=s.P.dropLast} s.h fr):=by
 obtain⟨h,w,P,S,U,D,L,G,k,c,f,e⟩:=s;obtain⟨h',w',P',S',U',D',L',G',k',c',f',e'⟩:=s';obtain⟨yh,yP,yw,yD,yL,ye',ye,yk⟩:=Y;simp only at hl yh yP yw yL ye' ye yk hf;subst yh yP yw ye' ye;have hDL:D.length=L.length:=q.D;have hg:L.length=g.length:=by rw[<-hDL];exact yD.len
 have hk:k+1<=k'+1:=by omega
 have hP:∀f∈P,wE L.length d f:=q.P;have hfr:wE L.length d fr:=hP fr (R7 hl);have hP0:∀f∈P.dropLast,wE L.length d f:=λf hf=>hP f (Ry hf);have hDo:∀t∈D,ok L.length d [] t:=q.D';have eP:(P.map (Io g)).dropLast=P.dropLast.map (Io g):=TY.symm;dsimp only;rw[eP];generalize P.dropLast=P0 at hP0;have hh:Ro L.length d h:=q.h
 cases fr with
 | give t=>
  obtain⟨x,b,rfl⟩:=A3 hf;obtain⟨R,t1,l1',l1,n1,o1,le1,lt1⟩:=qq (l:=x) (t:=t) (s:=⟨.tm (.fn x b),w,P0,S,U,D,L,G,k+1,c,f,.no⟩) (s':=⟨zK g (.tm (.fn x b)),w+δ,P0.map (Io g),S',U',D',L',G',k'+1,c',f',.no⟩) (g:=g) (d:=d) yD yL hDL hDo hfr;obtain⟨x1,x2,x3,x4,x5,x6,_⟩:=Qu (s:=⟨.tm (.fn x b),w,P0,S,U,D,L,G,k+1,c,f,.no⟩) (l:=x) (t:=t);obtain⟨z1,z2,z3,z4,z5,z6,_⟩:=Qu (s:=⟨zK g (.tm (.fn x b)),w+δ,P0.map (Io g),S',U',D',L',G',k'+1,c',f',.no⟩) (l:=x) (t:=rn g t);refine⟨R,⟨?_,?_,?_,t1,l1',?_,?_,?_⟩⟩
  ·show Hd.tm (pu (mo [(x,Ir _ (rn g t))]) (rn g b))=Hd.tm (rn (g++R) (pu (mo [(x,Ir _ t)]) b));rw[n1,<-Kh (h:=R) (SG hg) hh.2.2,<-sZ,<-xE];rfl
  ·show(W1 _ _ _).P=(W1 _ _ _).P.map _;rw[z1,x1];exact pW hg hP0
  ·show(W1 _ _ _).w=(W1 _ _ _).w+δ;rw[z5,x5]
  ·show(W1 _ _ _).e=_;rw[z6]
  ·show(W1 _ _ _).e=_;rw[x6]
  ·show(W1 _ _ _).k<=(W1 _ _ _).k;rw[z4,x4];exact hk
 | pick al=>
  obtain⟨cc,ms,a,rfl,ha⟩:=A2 hf;have ha':Tw cc (al.map (ig g))=some (ig g a):=by rw[vP,ha];rfl
  refine⟨[],?_⟩;rw[YK];show Sy δ g (match Tw cc (al.map (ig g)) with | some a=>_ | none=>_) (match Tw cc al with | some a=>_ | none=>_);rw[ha,ha'];refine⟨?_,VS,VS,yD,yL,VS,VS,hk⟩;show Hd.tm (pu (mo (a.2.1.zip (ms.map (gt g)))) (rn g a.2.2))=Hd.tm (rn g (pu (mo (a.2.1.zip ms)) a.2.2));rw[<-sZ,<-xE,List.zip_map_right];rfl
 | left o t=>
  obtain⟨v,rfl⟩:=Op hf;refine⟨[],?_⟩;rw[YK];exact⟨VS,by show P0.map (Io g)++[Fm.right o v]=(P0++[Fm.right o v]).map (Io g);rw[XL];rfl,VS,yD,yL,VS,VS,hk⟩
 | right o x=>
  obtain⟨v,rfl⟩:=Op hf;refine⟨[],?_⟩;rw[YK];exact⟨by show Q2 o x v=zK g (Q2 o x v);rw[ng],VS,VS,yD,yL,VS,VS,hk⟩
 | first t=>
  refine⟨[],?_⟩;rw[YK];exact⟨VS,VS,VS,yD,yL,VS,VS,hk⟩
 | back i=>cases hb
def kR (Y:Sy δ g s' s)(q:Ok d s)(hno:Iq s.h=false)(hst:Qy s.h=none)(hv:Ql s.h=true->∃f,s.P.getLast?=some f/\Tq f=none/\Qd s.h f=true):
  one s=none/\∃R,Sy δ (g++R) (stp {s' with k:=s'.k+1}) (stp {s with k:=s.k+1}):=by
 have he:Kw s.e=true:=by rw[Y.e];rfl
 cases c:Ql s.h with
 | true=>
  obtain⟨f,hl,hb,hf⟩:=hv c;have hl':s'.P.getLast?=some (Io g f):=by rw[Y.P,TZ,hl];rfl
  refine⟨xy (Gp he hno hst c) hl hb hf,?_⟩;rw[sC (s:={s with k:=s.k+1}) c hl,sC (s:={s' with k:=s'.k+1}) (by show Ql s'.h=true;rw[Y.h,A1,c]) hl'];exact eQ Y hl q hb hf
 | false=>
  refine⟨xw he hno hst c,?_⟩;obtain⟨t,ht⟩:∃t,s.h=.tm t:=by
   revert hno c
   cases s.h with
   | no=>intro z;cases z
   | tm t=>intro _ _;exact⟨t,VS⟩
   | made _ _=>intro _ z;cases z
  have hvt:Qa t=false:=by rw[ht] at c;exact c
  rw[sD (s:={s with k:=s.k+1}) ht hvt,sD (s:={s' with k:=s'.k+1}) (t:=rn g t) (by show s'.h=_;rw[Y.h,ht];rfl) (by rw[m9,hvt])];exact eR Y ht q hvt (by rw[ht] at hst;exact hst)
end
open PySem PySem.Spec PyProof.Rows L2 WL
section
variable {m:Int}{d d':Nat}{r':St}{x:Str}
def aH {s:St}(h:s.h≠.no):(zL s t).h≠.no:=by
 cases t<;>first | exact h | (intro z;cases z)
def bw {s:St}{f:Fm}(h:s.h≠.no):(zT s hd f).h≠.no:=by
 unfold zT
 cases f with
 | give t=>simp only;split<;>first | exact h | (intro z;cases z)
 | pick al=>
  simp only;split
  ·split<;>first | exact h | (intro z;cases z)
  ·exact h
 | left o t=>simp only;split<;>first | exact h | (intro z;cases z)
 | right o x=>simp only;split<;>first | exact h | exact(By (L:=0) (d:=0)).2
 | first t=>intro z;cases z
 | back i=>exact h
def eU {s:St}(h:s.h≠.no):(stp s).h≠.no:=by
 unfold stp
 split
 ·split
  ·exact bw h
  ·exact h
 ·split
  ·exact aH h
  ·exact h
def Li (q:Ho m n s r')(hx:r'.e=.told x)(he:s.e=.no):(∃n1 s1,n=n1+1/\one s=some s1/\Ho m n1 s1 r')\/(∃n1,n=n1+1/\one s=none/\s.k<m/\Ho m n1 (stp {s with k:=s.k+1}) r'):=by
 cases q with
 | one h q=>exact .inl ⟨_,_,VS,h,q⟩
 | stp h _ hk q=>exact .inr ⟨_,VS,h,hk,q⟩
 | out _ _=>rw[he] at hx;cases hx
def ev (hm:m<=1000)(hx:r'.e=.told x):∀(n:Nat) {s':St},Ho m n s' r'->Ok d' s'->s'.e=.no->s'.h≠.no->
  ∃n1 s1',n1<=n/\Ho m n1 s1' r'/\Ql s1'.h=true/\s1'.P=[]/\s1'.e=.no/\Ok d' s1'/\Kp s' s1'/\s'.k<=s1'.k/\∀{δ:Int} {g:List Nat} {s:St},Sy δ g s' s->Ok d s->∃s1 R,tq m s s1/\Sy δ (g++R) s1' s1/\Ok d s1/\Kp s s1:=by
 intro n
 induction n with
 | zero=>intro s' q _ he _;rcases Li q hx he with⟨_,_,z,_⟩ | ⟨_,z,_⟩<;>omega
 | succ n ih=>
  intro s' q o he hh;have hen:Kw s'.e=true:=by rw[he];rfl
  have hno:Iq s'.h=false:=by revert hh;cases s'.h<;>simp[Iq]
  by_cases fin:Ql s'.h=true/\s'.P=[]
  ·exact⟨n+1,s',XE _,q,fin.1,fin.2,he,o,Kp.refl,XW _,λ{δ g s} Y o2=>⟨s,[],tq.refl,by rw[YK];exact Y,o2,Kp.refl⟩⟩
  have hst:Qy s'.h=none:=by
   cases e:Qy s'.h with
   | none=>rfl
   | some y=>
    have h1:=rZ hen hno e
    rcases Li q hx he with⟨n1,s1,_,h2,q1⟩ | ⟨_,_,h2,_⟩
    ·rw[h1] at h2;cases h2;have:=Bx (by rfl) q1;rw[this] at hx;cases hx
    ·rw[h1] at h2;cases h2
  rcases Li q hx he with⟨n1,s1,hn,h2,q1⟩ | ⟨n1,hn,h2,hk,q1⟩
  ·obtain rfl:n1=n:=by omega
   have hv:Ql s'.h=true:=by
    cases c:Ql s'.h with
    | true=>rfl
    | false=>rw[xw hen hno hst c] at h2;cases h2
   have hP:s'.P≠[]:=λz=>fin ⟨hv,z⟩;obtain⟨f',hl'⟩:∃f,s'.P.getLast?=some f:=by
    cases e:s'.P.getLast? with
    | none=>exact absurd (Oo e) hP
    | some f=>exact⟨f,VS⟩
   cases hb':Tq f' with
   | none=>
    cases c:Qd s'.h f' with
    | true=>rw[xy (Gp hen hno hst hv) hl' hb' c] at h2;cases h2
    | false=>
     rw[qc (Gp hen hno hst hv) hl' hb' c] at h2;cases h2;have:=Bx (by rfl) q1;rw[this] at hx;cases hx
   | some i'=>
    have h3:=xz (Gp hen hno hst hv) hl' hb';obtain⟨o1,_,k1⟩:=Rg o h2;rw[h3] at h2;cases h2;obtain⟨n2,s2',a1,a2,a3,a4,a5,a6,a7,a8,a9⟩:=ih q1 o1 he hh;refine⟨n2,s2',by omega,a2,a3,a4,a5,a6,Kp.trans (s1:=uZ s' i') (Kp.of VS VS VS VS) a7,a8,λ{δ g s} Y o2=>?_⟩;have hen2:Kw s.e=true:=by rw[Y.e];rfl
    have hno2:Iq s.h=false:=by rw[<-ql (g:=g),<-Y.h];exact hno
    have hst2:Qy s.h=none:=by rw[<-vt (g:=g),<-Y.h];exact hst
    have hv2:Ql s.h=true:=by rw[<-A1 (g:=g),<-Y.h];exact hv
    obtain⟨f,hl,ef⟩:∃f,s.P.getLast?=some f/\Io g f=f':=by
     rw[Y.P,TZ] at hl';obtain⟨f,e1,e2⟩:=QX.mp hl';exact⟨f,e1,e2⟩
    obtain⟨i,hb⟩:∃i,Tq f=some i:=by
     rw[<-ef,vv] at hb';obtain⟨i,e1,_⟩:=QX.mp hb';exact⟨i,e1⟩
    have h4:=xz (Gp hen2 hno2 hst2 hv2) hl hb;obtain⟨o3,_,k3⟩:=Rg o2 h4;obtain⟨s3,R,b1,b2,b3,b4⟩:=a9 (δ:=δ) (g:=g) (s:=uZ s i) ⟨Y.h,by show s'.P.dropLast=s.P.dropLast.map _;rw[Y.P,TY],Y.w,Y.D,Y.L',Y.e',Y.e,Y.k⟩ o3;exact⟨s3,R,(To h4).trans b1,b2,b3,Kp.trans (s1:=uZ s i) (Kp.of VS VS VS VS) b4⟩
  ·obtain rfl:n1=n:=by omega
   obtain⟨_,_,hd⟩:=ax hen h2;have o1:=Bn o hen h2 (by omega);have ge:=(Bo (s:={s' with k:=s'.k+1}));have he1:(stp {s' with k:=s'.k+1}).e=.no:=ge.2.trans he;have hk1:(stp {s' with k:=s'.k+1}).k=s'.k+1:=ge.1.k;have hh1:(stp {s' with k:=s'.k+1}).h≠.no:=eU (s:={s' with k:=s'.k+1}) hh;obtain⟨n2,s2',a1,a2,a3,a4,a5,a6,a7,a8,a9⟩:=ih q1 o1 he1 hh1;refine⟨n2,s2',by omega,a2,a3,a4,a5,a6,qE.trans a7,by omega,λ{δ g s} Y o2=>?_⟩;have hno2:Iq s.h=false:=by rw[<-ql (g:=g),<-Y.h];exact hno
   have hst2:Qy s.h=none:=by rw[<-vt (g:=g),<-Y.h];exact hst
   obtain⟨h4,R,Y2⟩:=kR Y o2 hno2 hst2 (λhv2=>by
    obtain⟨f',hl',hb',hf'⟩:=hd (by rw[Y.h,A1,hv2]);rw[Y.P,TZ] at hl';obtain⟨f,e1,e2⟩:=QX.mp hl';refine⟨f,e1,?_,?_⟩
    ·rw[<-e2,vv] at hb';exact SW.mp hb'
    ·rw[<-e2,Y.h,gB] at hf';exact hf')
   have hk2:s.k<m:=by have:=Y.k;omega
   have o3:=Bn o2 (by rw[Y.e];rfl) h4 (by omega);obtain⟨s3,R2,b1,b2,b3,b4⟩:=a9 Y2 o3;exact⟨s3,R++R2,(ni h4 Y.e hk2).trans b1,by rw[<-YL];exact b2,b3,qE.trans b4⟩
end
open PySem PySem.Spec PyProof.Rows L2 WL
inductive Vt where
 | leaf (x:Str)
 | node (c:Str) (a b:Vt)
def Uq:Vt->List Str
 | .leaf x=>[x]
 | .node c a b=>[("(":Str)++c,(" ":Str)]++Uq a++[(" ":Str)]++Uq b++[(")":Str)]
def Rm:Nat->Vt->Vt
 | 0,_=>.leaf "?"
 | _+1,.leaf x=>.leaf x
 | n+1,.node c a b=>.node c (Rm n a) (Rm n b)
def Pw (x:Str):Prop:=1<=x.length/\x.length<=18/\(∀ch∈x.cps.toList,ch≠32/\ch≠40/\ch≠41)/\x≠"Cons"/\x≠"Pair"
def lG:Vt->Prop
 | .leaf x=>Pw x
 | .node c a b=>(c="Cons"\/c="Pair")/\lG a/\lG b
instance {x:Str}:Decidable (Pw x):=by unfold Pw;infer_instance
def tW {α:Type}:∀{l:List α},l.length=2->∃i j,l=[i,j]
 | [i,j],_=>⟨i,j,VS⟩
def iq {v:Int}(h0:0<=v)(h1:v<big):Pw (N0 v):=by
 obtain⟨m,rfl⟩:∃m:Nat,v=(m:Int):=⟨v.toNat,by omega⟩;have hm:m<10^18:=by simp only[big] at h1;omega
 have e:N0 (m:Int)=⟨((Nat.toDigits 10 m).map Char.toNat).toArray⟩:=text_ofNat m;have hl:(N0 (m:Int)).length=(Nat.toDigits 10 m).length:=by rw[e];show Array.size _=_;simp
 have l1:=digits10_le (k:=18) (by decide) hm;have l2:=tDigits_len_ge 10 m;have hd2:∀c∈(N0 (m:Int)).cps.toList,48<=c/\c<=57:=λc hc=>by
  rw[e] at hc;have hc:c∈(Nat.toDigits 10 m).map Char.toNat:=by simpa using hc
  obtain⟨ch,hch,rfl⟩:=XR.mp hc;have hd:=Nat.isDigit_of_mem_toDigits (b:=10) (by decide) (by decide) hch;unfold Char.isDigit at hd;rw[RE,decide_eq_true_eq,decide_eq_true_eq] at hd;exact⟨hd.1,hd.2⟩
 refine⟨by omega,by omega,λc hc=>by have:=hd2 c hc;omega,λz=>?_,λz=>?_⟩
 ·have:=hd2 67 (by rw[z];decide+kernel);omega
 ·have:=hd2 80 (by rw[z];decide+kernel);omega
def ce (hv:Ql h'=true)(ho:Ro L d h'):
  (∃x,Pw x/\(∀D,Es h' D=[.word x])/\∀g h,h'=zK g h->∀D,Es h D=[.word x])\/∃c i j,h'=.made c [i,j]/\(c="Cons"\/c="Pair"):=by
 cases h' with
 | no=>cases hv
 | tm t=>
  cases t with
  | num v=>
   refine .inl ⟨N0 v,iq ho.1 ho.2,λ_=>rfl,λg h e D=>?_⟩
   cases h with
   | no=>cases e
   | made _ _=>cases e
   | tm t=>cases t<;>first | (cases e;rfl) | cases e
  | fn x b=>
   refine .inl ⟨"fun",by decide+kernel,λ_=>rfl,λg h e D=>?_⟩
   cases h with
   | no=>cases e
   | made _ _=>cases e
   | tm t=>cases t<;>first | (cases e;rfl) | cases e
  | _=>cases hv
 | made c ms=>
  obtain⟨⟨_,_,hc⟩,hl,_⟩:=ho;have h5:c="Nil"\/c="Yes"\/c="No"\/c="Cons"\/c="Pair":=by simpa using hc
  have leaf0:ms=[]->Pw c->∃x,Pw x/\(∀D,Es (.made c ms) D=[.word x])/\∀g h,Hd.made c ms=zK g h->∀D,Es h D=[.word x]:=λe hp=>by
   subst e;refine⟨c,hp,λ_=>rfl,λg h e D=>?_⟩
   cases h with
   | no=>cases e
   | tm _=>cases e
   | made c2 m2=>
    cases m2 with
    | nil=>cases e;rfl
    | cons _ _=>cases e
  rcases h5 with rfl | rfl | rfl | rfl | rfl
  ·exact .inl (leaf0 (RC.mp (hl.trans (by decide+kernel))) (by decide+kernel))
  ·exact .inl (leaf0 (RC.mp (hl.trans (by decide+kernel))) (by decide+kernel))
  ·exact .inl (leaf0 (RC.mp (hl.trans (by decide+kernel))) (by decide+kernel))
  ·obtain⟨i,j,rfl⟩:=tW (hl.trans (by decide+kernel:ar "Cons"=2));exact .inr ⟨_,i,j,VS,.inl VS⟩
  ·obtain⟨i,j,rfl⟩:=tW (hl.trans (by decide+kernel:ar "Pair"=2));exact .inr ⟨_,i,j,VS,.inr VS⟩
section
variable {m:Int}{d d':Nat}{s s1 r':St}{x y:Str}{S S1:List Pc}{U:List Str}{D:List Tm}{dd k:Int}{t:Tm}{n:Nat}
def Tk (q:Ho m n s r')(hx:r'.e=.told x)(he:s.e=.no)(h1:one s=some s1):∃n1,n=n1+1/\Ho m n1 s1 r':=by
 rcases Li q hx he with⟨n1,s2,hn,h2,q1⟩ | ⟨n1,hn,h2,_⟩
 ·rw[h1] at h2;cases h2;exact⟨n1,hn,q1⟩
 ·rw[h1] at h2;cases h2
structure Ts (d:Nat)(S:List Pc)(U:List Str)(D:List Tm)(k:Int)(s:St):Prop where
 h:s.h=.no
 e:s.e=.no
 S:s.S=S
 U:s.U=U
 D:s.D=D
 k:s.k=k
 o:Ok d s
def jT (z:Ts d S U D k s):one s=some (Dw s):=Gq (by rw[z.e];rfl) (by rw[z.h];rfl)
def ow (z:Ts d (S++[.word y]) U D k s):∃s1,one s=some s1/\Ts d S (U++[y]) D k s1:=by
 have h1:=jT z;have e:Dw s={s with S:=S,U:=s.U++[y]}:=by unfold Dw;rw[z.S];simp only[List.getLast?_concat,List.dropLast_concat]
 rw[e] at h1;exact⟨_,h1,z.h,z.e,VS,by rw[<-z.U],z.D,z.k,(Rg z.o h1).1⟩
def oq (z:Ts d (S++[.part dd t]) U D k s)(hd:dd<=0):∃s1,one s=some s1/\Ts d S (U++[("?":Str)]) D k s1:=by
 have h1:=jT z;have e:Dw s={s with S:=S,U:=s.U++[("?":Str)]}:=by unfold Dw;rw[z.S];simp only[List.getLast?_concat,List.dropLast_concat];rw[if_pos hd]
 rw[e] at h1;exact⟨_,h1,z.h,z.e,VS,by rw[<-z.U],z.D,z.k,(Rg z.o h1).1⟩
def Zai (z:Ts d (S++[.part dd t]) U D k s)(hd:0<dd):one s=some {s with S:=S,w:=dd,h:=.tm t}:=by
 have h1:=jT z;have e:Dw s={s with S:=S,w:=dd,h:=.tm t}:=by unfold Dw;rw[z.S];simp only[List.getLast?_concat,List.dropLast_concat];rw[if_neg (by omega)]
 rw[e] at h1;exact h1
def ov (hv:Ql s.h=true)(he:s.e=.no)(hP:s.P=[])(hS:s.S=S)(hU:s.U=U)(hw:s.w=dd)(ho:Ok d s):∃s1,one s=some s1/\Ts d (S++(Es s.h (dd-1)).reverse) U s.D s.k s1:=by
 have h1:Iq s.h=false:=by revert hv;cases s.h<;>simp[Iq,Ql]
 have h2:Qy s.h=none:=by
  revert hv
  cases s.h with
  | no=>intro z;cases z
  | tm t=>cases t<;>first | (intro _;rfl) | (intro z;cases z)
  | made _ _=>intro _;rfl
 have h3:=rY (Gp (by rw[he];rfl) h1 h2 hv) (by rw[hP];rfl);refine⟨_,h3,VS,he,?_,hU,VS,VS,(Rg ho h3).1⟩;show s.S++(Es s.h (s.w-1)).reverse=_;rw[hS,hw]
def Zar (m:Int)(d:Nat)(dd:Int)(t:Tm)(D D1:List Tm)(k k1:Int)(τ:Vt):Prop:=∀{δ:Int} {g:List Nat} {s:St} {S00:List Pc} {t0:Tm} {U0:List Str} {D0:List Tm} {k0:Int},Ts d (S00++[.part (dd-δ) t0]) U0 D0 k0 s->t=rn g t0->0<=dd-δ->0<=δ->Th g D D0->k0<=k->
 ∃s1 R D2 k2,tq m s s1/\Ts d S00 (U0++Uq (Rm (dd-δ).toNat τ)) D2 k2 s1/\Th (g++R) D1 D2/\k2<=k1
def rW {D1:List Tm}{k1:Int}{τ:Vt}(hD:∃R,D1=D++R)(hk:k<=k1)(H:∀{δ:Int} {g:List Nat} {s:St} {S00:List Pc} {t0:Tm} {U0:List Str} {D0:List Tm} {k0:Int},Ts d (S00++[.part (dd-δ) t0]) U0 D0 k0 s->t=rn g t0->0<dd-δ->0<=δ->Th g D D0->k0<=k->
  ∃s1 R D2 k2,tq m s s1/\Ts d S00 (U0++Uq (Rm (dd-δ).toNat τ)) D2 k2 s1/\Th (g++R) D1 D2/\k2<=k1):Zar m d dd t D D1 k k1 τ:=by
 intro δ g s S00 t0 U0 D0 k0 z h4 h5 h6 h7 h8;by_cases c:0<dd-δ
 ·exact H z h4 c h6 h7 h8
 ·obtain⟨s1,ho,z1⟩:=oq z (by omega);obtain⟨R,rfl⟩:=hD;refine⟨s1,[],D0,k0,To ho,?_,by rw[YK];exact h7.more R,Int.le_trans h8 hk⟩;rw[show(dd-δ).toNat=0 by omega];exact z1
def p6 {i j:Nat}:S++(Es (.made c [i,j]) dd).reverse=S++[.word ")"]++[.part dd (.at_ j)]++[.word " "]++[.part dd (.at_ i)]++[.word " "]++[.word (("(":Str)++c)]:=by
 simp only[List.append_assoc];rfl
def pn {c:Str}:U++[("(":Str)++c]++[(" ":Str)]++Uq a++[(" ":Str)]++Uq b++[(")":Str)]=U++Uq (.node c a b):=by
 simp only[Uq,List.append_assoc,List.cons_append,List.nil_append]
def bz (hm:m<=1000)(hx:r'.e=.told x):∀(N n:Nat) {s':St} {S0:List Pc} {dd:Int} {t:Tm} {U:List Str} {D:List Tm} {k:Int},n<=N->Ho m n s' r'->Ts d' (S0++[.part dd t]) U D k s'->
  ∃τ n1 s1' D1 k1,n1<n/\Ho m n1 s1' r'/\Ts d' S0 (U++Uq τ) D1 k1 s1'/\k<=k1/\(∃R,D1=D++R)/\lG τ/\Zar m d dd t D D1 k k1 τ:=by
 intro N
 induction N with
 | zero=>intro n s' S0 dd t U D k hn q z;rcases Li q hx z.e with⟨_,_,z,_⟩ | ⟨_,z,_⟩<;>omega
 | succ N ih=>
  intro n s' S0 dd t U D k hn q z;by_cases c:dd<=0
  ·obtain⟨s1,h1,z1⟩:=oq z c;obtain⟨n1,rfl,q1⟩:=Tk q hx z.e h1;exact⟨.leaf "?",n1,s1,D,k,by omega,q1,z1,XW _,⟨[],by rw[YK]⟩,by show Pw _;decide+kernel,rW ⟨[],by rw[YK]⟩ (XW _) λ_ _ _ _ _ _=>by omega⟩
  have c:0<dd:=by omega
  have h1:=Zai z c;obtain⟨n1,rfl,q1⟩:=Tk q hx z.e h1;obtain⟨n2,s2,hn2,q2,v2,P2,e2,o2,kp2,k2,oth2⟩:=ev (d:=d) hm hx n1 q1 (Rg z.o h1).1 z.e (by intro z;cases z);obtain⟨s3,h3,z3⟩:=ov v2 e2 P2 (S:=S0) (U:=U) (dd:=dd) kp2.S (kp2.U.trans z.U) kp2.w o2;obtain⟨n3,rfl,q3⟩:=Tk q2 hx e2 h3;have hD2:∃R,s2.D=D++R:=by rw[<-z.D];exact kp2.D
  have hk2:k<=s2.k:=by rw[<-z.k];exact k2
  have val:∀{δ:Int} {g:List Nat} {s:St} {S00:List Pc} {t0:Tm} {U0:List Str} {D0:List Tm} {k0:Int},Ts d (S00++[.part (dd-δ) t0]) U0 D0 k0 s->t=rn g t0->0<dd-δ->0<=δ->Th g D D0->k0<=k->
    ∃(s1:St) (R:List Nat) (hv:Hd) (L:Nat) (D2:List Tm) (k2:Int),tq m s s1/\Ts d (S00++(Es hv (dd-δ-1)).reverse) U0 D2 k2 s1/\s2.h=zK (g++R) hv/\Th (g++R) s2.D D2/\k2<=s2.k/\Ro L d hv/\D2.length=L:=by
   intro δ g s S00 t0 U0 D0 k0 y y4 y5 y6 y7 y8;have z1:=Zai y y5;obtain⟨s1,R,a1,a2,a3,a4⟩:=oth2 (δ:=δ) (g:=g) (s:={s with S:=S00,w:=dd-δ,h:=.tm t0}) ⟨by show Hd.tm t=Hd.tm _;rw[y4],by show s'.P=s.P.map _;rw[z.o.hp z.h,y.o.hp y.h];rfl,by show dd=dd-δ+δ;omega,by show Th g s'.D s.D;rw[z.D,y.D];exact y7,z.o.D,z.e,y.e,by show s.k<=s'.k;rw[z.k,y.k];exact y8⟩ (Rg y.o z1).1;have v1:Ql s1.h=true:=by rw[<-A1 (g:=g++R),<-a2.h];exact v2
   have p1:s1.P=[]:=by have:=a2.P;rw[P2] at this;exact List.map_eq_nil_iff.mp this.symm
   obtain⟨s4,b1,b2⟩:=ov v1 a2.e p1 (S:=S00) (U:=U0) (dd:=dd-δ) a4.S (a4.U.trans y.U) a4.w a3;exact⟨s4,R,s1.h,_,_,_,(To z1).trans (a1.trans (To b1)),b2,a2.h,a2.D,a2.k,a3.h,a3.D⟩
  rcases ce v2 o2.h with⟨y,hy,p1,p2⟩ | ⟨cc,i,j,hij,hcc⟩
  ·rw[p1] at z3;obtain⟨s4,h4,z4⟩:=ow z3;obtain⟨n4,rfl,q4⟩:=Tk q3 hx z3.e h4;refine⟨.leaf y,n4,s4,_,_,by omega,q4,z4,hk2,hD2,hy,rW hD2 hk2 λ{δ g s S00 t0 U0 D0 k0} y1 y4 y5 y6 y7 y8=>?_⟩;obtain⟨s1,R,hv,L,D2,k2,a1,a2,a5,a6,a7,_,_⟩:=val y1 y4 y5 y6 y7 y8;rw[p2 _ _ a5] at a2;obtain⟨s5,h5,z5⟩:=ow a2;refine⟨s5,R,D2,k2,a1.trans (To h5),?_,a6,a7⟩;rw[show(dd-δ).toNat=(dd-δ).toNat-1+1 by omega];exact z5
  ·rw[hij,p6] at z3;obtain⟨s4,h4,z4⟩:=ow z3;obtain⟨n4,rfl,q4⟩:=Tk q3 hx z3.e h4;obtain⟨s5,h5,z5⟩:=ow z4;obtain⟨n5,rfl,q5⟩:=Tk q4 hx z4.e h5;obtain⟨τ1,n6,s6,D6,k6,hn6,q6,z6,l6,⟨R6,d6⟩,g6,oth6⟩:=ih n5 (by omega) q5 z5;obtain⟨s7,h7,z7⟩:=ow z6;obtain⟨n7,rfl,q7⟩:=Tk q6 hx z6.e h7;obtain⟨τ2,n8,s8,D8,k8,hn8,q8,z8,l8,⟨R8,d8⟩,g8,oth8⟩:=ih n7 (by omega) q7 z7;obtain⟨s9,h9,z9⟩:=ow z8;obtain⟨n9,rfl,q9⟩:=Tk q8 hx z8.e h9;rw[pn] at z9;have hD:∃R,D8=D++R:=by obtain⟨R2,w2⟩:=hD2;exact⟨R2++(R6++R8),by rw[d8,d6,w2,YL,YL]⟩
   have hk8:k<=k8:=by omega
   refine⟨.node cc τ1 τ2,n9,s9,D8,k8,by omega,q9,z9,hk8,hD,⟨hcc,g6,g8⟩,rW hD hk8 λ{δ g s S00 t0 U0 D0 k0} y1 y4 y5 y6 y7 y8=>?_⟩;obtain⟨s1,R,hv,L,D2,k2,a1,a2,a5,a6,a7,a8,a9⟩:=val y1 y4 y5 y6 y7 y8;obtain⟨i0,j0,rfl,hi0,hj0⟩:∃i0 j0,hv=.made cc [i0,j0]/\gt (g++R) i0=i/\gt (g++R) j0=j:=by
    rw[hij] at a5
    cases hv with
    | no=>cases a5
    | tm _=>cases a5
    | made c2 m2=>
     match m2,a5 with
     | [i0,j0],z=>cases z;exact⟨i0,j0,VS,VS,VS⟩
   rw[p6,show dd-δ-1=dd-1-δ by omega] at a2;obtain⟨t4,b4,w4⟩:=ow a2;obtain⟨t5,b5,w5⟩:=ow w4;obtain⟨t6,Q6,E6,c6,x1,x2,x3,x4⟩:=oth6 w5 (by show Tm.at_ i=Tm.at_ _;rw[hi0]) (by omega) y6 a6 a7;obtain⟨t7,b7,w7⟩:=ow x2;have hj1:gt (g++R++Q6) j0=j:=by rw[Fh (by rw[<-a6.len,a9];exact a8.2.2 j0 (by simp))];exact hj0
   obtain⟨t8,Q8,E8,c8,u1,u2,u3,u4⟩:=oth8 w7 (by show Tm.at_ j=Tm.at_ _;rw[hj1]) (by omega) y6 x3 x4;obtain⟨t9,b9,w9⟩:=ow u2;rw[pn] at w9;refine⟨t9,R++Q6++Q8,E8,c8,a1.trans ((To b4).trans ((To b5).trans (x1.trans ((To b7).trans (u1.trans (To b9)))))),?_,by rw[<-YL,<-YL];exact u3,u4⟩;rw[show(dd-δ).toNat=(dd-1-δ).toNat+1 by omega];exact w9
def jQ {D D':Int}(hm:m<=1000)(ho:ok 0 d [] t)(hv:Qa t=false)(hx:(fin t D' m).e=.told x)(h0:0<=D)(hD:D<=D'):
  ∃τ,lG τ/\(Uq τ).length<=6008/\x=Txt.join "" (Uq τ)/\(fin t D m).e=.told (Txt.join "" (Uq (Rm D.toNat τ)))/\(fin t D m).k<=(fin t D' m).k:=by
 obtain⟨n,q⟩:=Bw (D:=D') hm ho hv;obtain⟨τ,n1,s1,D1,k1,hn,q1,z1,_,_,g1,oth⟩:=bz (d:=d) hm hx n n (S0:=[]) (dd:=D') (t:=t) (XE _) q ⟨VS,VS,VS,VS,VS,VS,A4 ho hv⟩;have hend:∀{s:St},s.h=.no->s.e=.no->s.S=[]->one s=some {s with e:=.told (Txt.join "" s.U)}:=λ{s} a b c=>by
  rw[Gq (by rw[b];rfl) (by rw[a];rfl)];unfold Dw;rw[c];rfl
 obtain⟨n2,_,q2⟩:=Tk q1 hx z1.e (hend z1.h z1.e z1.S);have r1:=Bx (by rfl) q2;have hx1:x=Txt.join "" s1.U:=by rw[r1] at hx;cases hx;rfl
 obtain⟨s2,R,D2,k2,a1,a2,_,a7⟩:=oth (δ:=D'-D) (g:=[]) (s:=A5 t D) (S00:=[]) (t0:=t) ⟨VS,VS,by show[Pc.part D t]=[.part (D'-(D'-D)) t];rw[show D'-(D'-D)=D by omega],VS,VS,VS,A4 ho hv⟩ (by
  have:∀{t:Tm} {Γ:List Str} {d:Nat},ok 0 d Γ t->t=rn [] t:=λ{t}=>by
   induction t with
   | nm x=>intro _ _ _;rfl
   | num v=>intro _ _ _;rfl
   | stop x=>intro _ _ _;rfl
   | at_ i=>intro _ _ k;exact absurd k (Nat.not_lt_zero _)
   | shp0 c=>intro _ _ _;rfl
   | shp2 c a b iha ihb=>intro _ _ k;show _=Tm.shp2 c _ _;rw[<-iha k.2.2.1,<-ihb k.2.2.2]
   | does o a b iha ihb=>intro _ _ k;show _=Tm.does o _ _;rw[<-iha k.2.1,<-ihb k.2.2]
   | call a b iha ihb=>intro _ _ k;show _=Tm.call _ _;rw[<-iha k.2.1,<-ihb k.2.2]
   | first a b iha ihb=>intro _ _ k;show _=Tm.first _ _;rw[<-iha k.2.1,<-ihb k.2.2]
   | fn x b ih=>intro _ _ k;show _=Tm.fn x _;rw[<-ih k.2.2]
   | lt n xs ts b iht ihb=>intro _ _ k;show _=Tm.lt n xs _ _;rw[<-ihb k.2.2.2,<-funext λi=>iht i (k.2.2.1 i)]
   | ch e n cs ns bs ihe ihb=>intro _ _ k;show _=Tm.ch _ n cs ns _;rw[<-ihe k.2.2.1,<-funext λi=>ihb i (k.2.2.2 i)]
  exact this ho) (by omega) (by omega) ⟨VS,λi t e=>by cases e⟩ (XW _)
 have b1:=hend a2.h a2.e a2.S;have b2:Ho m 0 {s2 with e:=.told (Txt.join "" s2.U)} {s2 with e:=.told (Txt.join "" s2.U)}:=.out (Ab rfl) (by rintro⟨z,_⟩;cases z);obtain⟨n3,q3⟩:=a1 _ _ (.one b1 b2);obtain⟨n4,q4⟩:=Bw (D:=D) hm ho hv;have r2:=wW q4 q3;have hn8:(Uq τ).length<=6008:=by
  have b:=z1.o.nU;have c:=z1.o.k0;have e:s1.U.length=(Uq τ).length:=by rw[z1.U];exact congrArg List.length (List.nil_append _)
  split at b<;>omega
 refine⟨τ,g1,hn8,?_,?_,?_⟩
 ·rw[hx1,z1.U];rfl
 ·rw[r2];show En.told (Txt.join "" s2.U)=_;rw[a2.U,show D'-(D'-D)=D by omega];rfl
 ·rw[r1,r2];show s2.k<=s1.k;rw[a2.k,z1.k];exact a7
end
namespace WL
open PySem PySem.Builtin PySem.Builtin.Str PySem.StrLaws
section
variable {x y:Str}{a b:Nat}
def uM {z p:Str}{q:Str}{r:List Str}:(glued z (p::q::r)).cps.toList=p.cps.toList++z.cps.toList++(glued z (q::r)).cps.toList:=by
 rw[glued_eq_join,glued_eq_join];show(p++z++Str.join z (q::r)).cps.toList=_;rw[Str.cps_append,Str.cps_append];simp
end
def Si (a:Nat)(z:List Nat)(l:List Nat):List Nat:=l.flatMap λc=>if c=a then z else[c]
def Rx (a:Nat):Nat->List Nat->List Nat
 | i,c::r=>if c=a then i::Rx a (i+1) r else Rx a (i+1) r
 | _,[]=>[]
def Na (a:Nat):List Nat->List (List Nat)
 | []=>[[]]
 | c::r=>if c=a then[]::Na a r else match Na a r with
  | p::ps=>(c::p)::ps
  | []=>[[c]]
def Kf (a:Nat):∀l,∃p ps,Na a l=p::ps
 | []=>⟨_,_,VS⟩
 | c::r=>by
  unfold Na
  split
  ·exact⟨_,_,VS⟩
  ·obtain⟨p,ps,e⟩:=Kf a r;rw[e];exact⟨_,_,VS⟩
section
variable {x y:Str}{a:Nat}
def wO (hy:y.cps.toList=[a]):subAt x y i=true↔∃r,x.cps.toList.drop i=a::r:=by
 have h2:y.length=1:=by show y.cps.size=1;rw[<-RD,hy];rfl
 rw[subAt_eq,hy,h2,beq_iff_eq]
 match x.cps.toList.drop i with
 | []=>simp
 | u::r=>simp
def qg (hy:y.cps.toList=[a]):∀(m i:Nat) (acc:Array Nat) (free:Nat),x.length+1-i=m->i<=x.length+1->free<=i->acc.size<=i->
  (forIn (List.range' i (x.length+1-i)) (acc,free) (occBody x y x.length (x.length+1))).run.fst.toList=acc.toList++Rx a i (x.cps.toList.drop i):=by
 have h2:y.length=1:=by show y.cps.size=1;rw[<-RD,hy];rfl
 have hL:x.cps.toList.length=x.length:=by simp[Str.length]
 intro m
 induction m with
 | zero=>
  intro i acc free hm hi hf ha;rw[hm];have:x.cps.toList.drop i=[]:=List.drop_eq_nil_of_le (by omega);rw[this];simp[Rx]
 | succ k ih=>
  intro i acc free hm hi hf ha;rw[hm,List.range'_succ,List.forIn_cons];have hk':x.length+1-(i+1)=k:=by omega
  by_cases hs:subAt x y i=true
  ·obtain⟨r,hr⟩:=(wO hy).mp hs;have hlen:i+1<=x.length:=by
    have:=congrArg List.length hr;rw[RW,hL,YF] at this;omega
   have hb:occBody x y x.length (x.length+1) i (acc,free)=pure (ForInStep.yield (acc.push i,i+1)):=by
    unfold occBody;rw[XY ⟨⟨⟨by show acc.size<_;omega,hf⟩,by rw[h2];omega⟩,hs⟩,h2]
   rw[hb];show(forIn (List.range' (i+1) k) (acc.push i,i+1) (occBody x y x.length (x.length+1))).run.fst.toList=_;have e:=ih (i+1) (acc.push i) (i+1) (by omega) (by omega) (Nat.le_refl _) (by simp;omega);rw[hk'] at e;rw[e,hr];have hd:x.cps.toList.drop (i+1)=r:=by
    rw[<-List.drop_drop,hr];rfl
   rw[hd];simp[Rx]
  ·have hb:occBody x y x.length (x.length+1) i (acc,free)=pure (ForInStep.yield (acc,free)):=by
    unfold occBody;rw[XX (λh=>hs h.2)]
   rw[hb];show(forIn (List.range' (i+1) k) (acc,free) (occBody x y x.length (x.length+1))).run.fst.toList=_;have e:=ih (i+1) acc free (by omega) (by omega) (by omega) (by omega);rw[hk'] at e;rw[e];have hn:¬∃r,x.cps.toList.drop i=a::r:=λh=>hs ((wO hy).mpr h);have hd:x.cps.toList.drop (i+1)=(x.cps.toList.drop i).drop 1:=by rw[List.drop_drop]
   rw[hd]
   match hx:x.cps.toList.drop i with
   | []=>simp[Rx]
   | u::r=>
    have:¬(u=a):=λh1=>hn ⟨r,by rw[hx,h1]⟩;show _=acc.toList++(if u=a then _ else _);rw[XX this];rfl
def yC (hy:y.cps.toList=[a]):occurrences x y 0 x.length (x.length+1)=Rx a 0 x.cps.toList:=by
 rw[occ_eq];have:=qg (x:=x) hy (x.length+1) 0 #[] 0 VS (XO _) (XE _) (XE _);simpa using this
def uv:∀(m i lo:Nat),x.length-i=m->lo<=i->i<=x.length->∀p ps,Na a (x.cps.toList.drop i)=p::ps->
  (partsFrom x 1 lo (Rx a i (x.cps.toList.drop i))).map (λz=>z.cps.toList)=((x.cps.toList.drop lo).take (i-lo)++p)::ps:=by
 have hL:x.cps.toList.length=x.length:=by simp[Str.length]
 intro m
 induction m with
 | zero=>
  intro i lo hm hlo hi p ps hs;have hx:x.cps.toList.drop i=[]:=List.drop_eq_nil_of_le (by omega);rw[hx] at hs |-
  cases hs
  show[(strSub x lo x.length).cps.toList]=_;rw[strSub_toList,YK,show i-lo=x.length-lo by omega]
 | succ k ih=>
  intro i lo hm hlo hi p ps hs
  match hx:x.cps.toList.drop i with
  | []=>
   have:=congrArg List.length hx;rw[RW,hL,TM] at this;omega
  | u::r=>
   rw[hx] at hs;have hd1:x.cps.toList.drop (i+1)=r:=by rw[<-List.drop_drop,hx];rfl
   by_cases c:u=a
   ·have e1:Rx a i (u::r)=i::Rx a (i+1) r:=by simp[Rx,c]
    have e2:Na a (u::r)=[]::Na a r:=by simp[Na,c]
    rw[e2] at hs
    cases hs
    obtain⟨p',ps',e'⟩:=Kf a r;have e3:=ih (i+1) (i+1) (by omega) (XE _) (by omega) p' ps' (by rw[hd1];exact e');rw[hd1] at e3;rw[e1];show(strSub x lo i).cps.toList::(partsFrom x 1 (i+1) (Rx a (i+1) r)).map _=_;rw[e3,strSub_toList,e'];simp
   ·have e1:Rx a i (u::r)=Rx a (i+1) r:=by simp[Rx,c]
    obtain⟨p',ps',e'⟩:=Kf a r;have e2:Na a (u::r)=(u::p')::ps':=by simp[Na,c,e']
    rw[e2] at hs
    cases hs
    have e3:=ih (i+1) lo (by omega) (by omega) (by omega) p' _ (by rw[hd1];exact e');rw[hd1] at e3;rw[e1,e3];have:(x.cps.toList.drop lo).take (i+1-lo)=(x.cps.toList.drop lo).take (i-lo)++[u]:=by
     rw[show i+1-lo=(i-lo)+1 by omega,YD,List.getElem?_drop,show lo+(i-lo)=i by omega];have hu:x.cps.toList[i]?=some u:=by
      have:=congrArg (·[0]?) hx;simpa using this
     rw[hu];rfl
    rw[this];simp
def gl (z:List Nat):List (List Nat)->List Nat
 | []=>[]
 | [p]=>p
 | p::q::r=>p++z++gl z (q::r)
def jg:∀ps:List Str,(glued z ps).cps.toList=gl z.cps.toList (ps.map λp=>p.cps.toList)
 | []=>by rw[glued_eq_join];rfl
 | [p]=>by rw[glued_eq_join];rfl
 | p::q::r=>by rw[uM,jg (q::r)];rfl
def xU:∀l,gl z (Na a l)=Si a z l
 | []=>rfl
 | c::r=>by
  obtain⟨p,ps,e⟩:=Kf a r;have ih:=xU (z:=z) r;by_cases h:c=a
  ·have e2:Na a (c::r)=[]::p::ps:=by simp[Na,h,e]
   rw[e2];show[]++z++gl z (p::ps)=_;rw[<-e,ih];simp[Si,h]
  ·have e2:Na a (c::r)=(c::p)::ps:=by simp[Na,h,e]
   rw[e2];rw[e] at ih;have:Si a z (c::r)=c::Si a z r:=by simp[Si,h]
   rw[this,<-ih]
   cases ps with
   | nil=>rfl
   | cons q r=>rfl
def G0:∀{i:Nat} {l:List Nat},Rx a i l=[]->∀c∈l,c≠a
 | _,[],_=>λc hc=>by cases hc
 | i,c::r,h=>by
  by_cases e:c=a
  ·simp[Rx,e] at h
  ·have h':Rx a (i+1) r=[]:=by simpa[Rx,e] using h
   intro d hd
   rcases QD.mp hd with rfl | hd
   ·exact e
   ·exact G0 h' d hd
def Sb:∀{l:List Nat},(∀c∈l,c≠a)->Na a l=[l]
 | [],_=>rfl
 | c::r,h=>by
  have e:=Sb (l:=r) λd hd=>h d (by simp[hd]);simp[Na,h c (by simp),e]
def Uo:∀{l:List Nat},(∀c∈l,c≠a)->Si a z l=l:=λ{l} h=>by
 rw[<-xU,Sb h];rfl
def D7:(partsFrom x 1 0 (Rx a 0 x.cps.toList)).map (λz=>z.cps.toList)=Na a x.cps.toList:=by
 obtain⟨p,ps,e⟩:=Kf a x.cps.toList;have:=uv (x:=x) (a:=a) x.length 0 0 VS (Nat.le_refl _) (Nat.zero_le _) p ps (by simpa using e);simp only[List.drop_zero,Nat.sub_self,List.take_zero,List.nil_append] at this;rw[this,e]
def Lj (hy:y.cps.toList=[a]):(Txt.replace x y z).cps.toList=Si a z.cps.toList x.cps.toList:=by
 have h2:y.length=1:=by show y.cps.size=1;rw[<-RD,hy];rfl
 unfold Txt.replace;rw[yC hy];have h20:(y.length==0&&z.length==0)=false:=by rw[h2];rfl
 rw[h20,Bool.or_false]
 split
 ·rename_i h;exact(Uo (G0 (List.isEmpty_iff.mp h))).symm
 ·rw[partsBetween_eq,h2,jg,D7,xU]
def ub (hy:y.cps.toList=[a])(hk:∀x:Str,¬Builtin.Str.strKind x<Builtin.Str.strKind y):(Txt.split x y).map (λz=>z.cps.toList)=Na a x.cps.toList:=by
 have h2:y.length=1:=by show y.cps.size=1;rw[<-RD,hy];rfl
 unfold Txt.split;rw[yC hy]
 split
 ·rename_i h;rw[Bool.or_eq_true,decide_eq_true_eq,decide_eq_true_eq] at h
  rcases h with h | h
  ·have:x.cps.toList=[]:=List.eq_nil_of_length_eq_zero (by rw[h2] at h;have e:x.cps.toList.length=x.length:=(by simp[Str.length]);omega);rw[List.map_singleton,this];rfl
  ·exact absurd h (hk x)
 ·split
  ·rename_i h;rw[Sb (G0 (List.isEmpty_iff.mp h))];rfl
  ·rw[partsBetween_eq,h2];exact D7
end
def Zby (l:List Nat):List (List Nat):=(Na 32 l).filter λp=>!p.isEmpty
def Mz:∀{l r:List Nat},Na 32 (l++32::r)=Na 32 l++Na 32 r
 | [],r=>by simp[Na]
 | c::l,r=>by
  have ih:=Mz (l:=l) (r:=r);obtain⟨p,ps,e⟩:=Kf 32 l;by_cases h:c=32
  ·simp[Na,h,ih]
  ·have f1:Na 32 (c::(l++32::r))=(c::p)::(ps++Na 32 r):=by
    have:Na 32 (c::(l++32::r))=match Na 32 (l++32::r) with
     | p::ps=>(c::p)::ps
     | []=>[[c]]:=by
     show(if c=32 then _ else _)=_;rw[XX h]
    rw[this,ih,e];rfl
   have f2:Na 32 (c::l)=(c::p)::ps:=by simp[Na,h,e]
   rw[UD,f1,f2];rfl
def Bk (l:List Nat):Prop:=l=[]\/∃q,l=q++[32]
end WL
open PySem PySem.Spec PyProof.Rows L2 WL
def Oh {a b:Str}(h:a.cps.toList=b.cps.toList):a=b:=Str.ext' (Array.toList_inj.mp h)
def Md (x y:Str):(x++y).cps.toList=x.cps.toList++y.cps.toList:=by rw[Str.cps_append,Array.toList_append]
def Az (ws:List Str):(Txt.join ("":Str) ws).cps.toList=ws.flatMap λw=>w.cps.toList:=by
 show(PySem.Builtin.Str.glued ("":Str) ws).cps.toList=_;rw[PySem.StrLaws.glued_eq_join]
 induction ws with
 | nil=>rfl
 | cons w r ih=>
  cases r with
  | nil=>show w.cps.toList=w.cps.toList++[];rw[YK]
  | cons v r=>
   show(w++("":Str)++Str.join ("":Str) (v::r)).cps.toList=_;rw[Md,Md,ih];show w.cps.toList++[]++_=w.cps.toList++_;rw[YK];rfl
def Nt (τ:Vt):Str:=Txt.join "" (Uq τ)
def Pm:Nt (.leaf x)=x:=Oh (by unfold Nt;rw[Az];simp[Uq])
def Mw:(Nt (.node c a b)).cps.toList=40::(c.cps.toList++32::((Nt a).cps.toList++32::((Nt b).cps.toList++[41]))):=by
 unfold Nt;rw[Az,Az,Az];simp only[Uq,List.flatMap_append,List.flatMap_cons,List.flatMap_nil,List.append_nil,Md,List.append_assoc];rfl
def fl:Vt->List Nat
 | .leaf x=>x.cps.toList
 | .node c a b=>[40]++32::(c.cps.toList++32::(fl a++32::(fl b++32::[41])))
def wT:Vt->List Str
 | .leaf x=>[x]
 | .node c a b=>("(":Str)::c::(wT a++wT b++[(")":Str)])
def vc {z l r:List Nat}:Si a z (l++r)=Si a z l++Si a z r:=by unfold Si;rw[List.flatMap_append]
def yu {a c:Nat}{z r:List Nat}:Si a z (c::r)=(if c=a then z else[c])++Si a z r:=by unfold Si;rw[List.flatMap_cons]
def pI {c:Str}(h:c="Cons"\/c="Pair"):c.length=4/\∀ch∈c.cps.toList,ch≠32/\ch≠40/\ch≠41:=by rcases h with rfl | rfl<;>decide+kernel
def xm:∀{τ:Vt},lG τ->Si 41 [32,41] (Si 40 [40,32] (Nt τ).cps.toList)=fl τ
 | .leaf x,h=>by
  rw[Pm,Uo λc hc=>(h.2.2.1 c hc).2.1,Uo λc hc=>(h.2.2.1 c hc).2.2];rfl
 | .node c a b,h=>by
  have hc:=(pI h.1).2;have ia:=xm h.2.1;have ib:=xm h.2.2;rw[Mw];simp only[yu,vc];rw[Uo (a:=40) (l:=c.cps.toList) λx hx=>(hc x hx).2.1,Uo (a:=41) (l:=c.cps.toList) λx hx=>(hc x hx).2.2,ia,ib];simp[Si,fl]
def jX:∀{τ:Vt},lG τ->Na 32 (fl τ)=(wT τ).map λw=>w.cps.toList
 | .leaf x,h=>Sb λc hc=>(h.2.2.1 c hc).1
 | .node c a b,h=>by
  have hc:=(pI h.1).2;unfold fl;rw[Mz,Mz,Mz,Mz,jX h.2.1,jX h.2.2,Sb (l:=c.cps.toList) λx hx=>(hc x hx).1,Sb (l:=[40]) (by decide),Sb (l:=[41]) (by decide)];show _=(("(":Str)::c::(wT a++wT b++[(")":Str)])).map _;simp only[List.map_cons,List.map_append,List.map_nil,List.cons_append,List.nil_append,List.append_assoc];rfl
def yc:∀{xs ys:List Str},xs.map (λw=>w.cps.toList)=ys.map (λw=>w.cps.toList)->xs=ys
 | [],[],_=>rfl
 | x::xs,y::ys,h=>by
  rw[YI,YI] at h;injection h with h1 h2
  rw[Oh h1,yc h2]
 | [],_::_,h=>by simp at h
 | _::_,[],h=>by simp at h
def Ou (z:Str):z.cps.toList.length=z.length:=by simp[Str.length]
def Ay:∀{τ:Vt},lG τ->(Nt τ).length<=18*(Uq τ).length/\(Si 40 [40,32] (Nt τ).cps.toList).length<=18*(Uq τ).length/\(fl τ).length<=18*(Uq τ).length/\(wT τ).length<=2*(Uq τ).length/\∀w∈wT τ,w.length<=18
 | .leaf x,h=>by
  have hx:Si 40 [40,32] x.cps.toList=x.cps.toList:=Uo λc hc=>(h.2.2.1 c hc).2.1;have:=h.2.1;rw[Pm,hx];simp only[fl,Uq,wT,Ou,List.length_cons,List.length_nil,List.mem_singleton];exact⟨by omega,by omega,by omega,by omega,λw hw=>by rw[hw];omega⟩
 | .node c a b,h=>by
  obtain⟨a1,a2,a3,a4,a5⟩:=Ay h.2.1;obtain⟨b1,b2,b3,b4,b5⟩:=Ay h.2.2;obtain⟨c1,c2⟩:=pI h.1;rw[<-Ou] at a1 b1 c1;have hx:Si 40 [40,32] c.cps.toList=c.cps.toList:=Uo λx hx=>(c2 x hx).2.1;have c3:c.cps.size=4:=by rw[<-RD];exact c1
  refine⟨?_,?_,?_,?_,λw hw=>?_⟩
  ·rw[<-Ou,Mw];simp only[Uq,List.length_cons,List.length_append,List.length_nil];omega
  ·rw[Mw];simp only[yu,vc,hx];simp[Si,Uq] at a2 b2 |-;omega
  ·simp only[fl,Uq,List.length_cons,List.length_append,List.length_nil];omega
  ·simp only[wT,Uq,List.length_cons,List.length_append,List.length_nil];omega
  ·simp only[wT,List.mem_cons,List.mem_append,List.not_mem_nil,or_false] at hw;rw[Ou] at c1
   rcases hw with rfl | rfl | (hw | hw) | rfl
   ·decide+kernel
   ·omega
   ·exact a5 w hw
   ·exact b5 w hw
   ·decide+kernel
def tF (most l:Int)(f w:Str):Str:=if l=most then(if l>0/\l<=most then f++(" ":Str) else f)++("?":Str) else if l<most then(if l>0/\l<=most then f++(" ":Str) else f)++w else(if l>0/\l<=most then f++(" ":Str) else f)
def Xg (most:Int)(z:Int×Str)(w:Str):Int×Str:=
 if w=")" then(z.1-1,if z.1-1<most then z.2++(")":Str) else z.2)
 else if w="(" then(z.1+1,tF most z.1 z.2 "(")
 else if z.1>0/\(w="Cons"\/w="Pair") then(z.1,if z.1-1<most then z.2++w else z.2)
 else(z.1,tF most z.1 z.2 w)
def xf (most l:Int)(τ:Vt):Str:=if l>most then "" else(if l=0 then("":Str) else(" ":Str))++Nt (Rm (most-l).toNat τ)
def Lg {x:Str}:x++("":Str)=x:=Oh (by rw[Md];exact YK _)
def Gc {x y z:Str}:x++y++z=x++(y++z):=Oh (by simp only[Md,List.append_assoc])
def yI {x:Str}:("":Str)++x=x:=Oh (by rw[Md];rfl)
def vm {most l:Int}(hl:0<=l){f w:Str}:tF most l f w=if l>most then f else f++((if l=0 then("":Str) else(" ":Str))++if l=most then("?":Str) else w):=by
 by_cases c1:l>most
 ·rw[XY c1];unfold tF;rw[XX (show ¬l=most by omega),XX (show ¬l<most by omega),XX (show ¬(l>0/\l<=most) by omega)]
 ·have hq:(if l>0/\l<=most then f++(" ":Str) else f)=f++(if l=0 then("":Str) else(" ":Str)):=by
   by_cases c2:l=0
   ·rw[XX (show ¬(l>0/\l<=most) by omega),XY c2,Lg]
   ·rw[XY (show l>0/\l<=most by omega),XX c2]
  unfold tF;rw[hq,XX c1];by_cases c3:l=most
  ·rw[XY c3,XY c3,Gc]
  ·rw[XX c3,XY (show l<most by omega),XX c3,Gc]
def Fj:∀{τ:Vt},lG τ->∀(l:Int) (f:Str),0<=l->(wT τ).foldl (Xg most) (l,f)=(l,f++xf most l τ)
 | .leaf x,h,l,f,hl=>by
  obtain⟨h1,_,h3,h4,h5⟩:=h;have n1:x≠")":=λe=>(h3 41 (by rw[e];decide+kernel)).2.2 VS;have n2:x≠"(":=λe=>(h3 40 (by rw[e];decide+kernel)).2.1 VS;show Xg most (l,f) x=_;unfold Xg;rw[XX n1,XX n2,XX (by rintro⟨_,z | z⟩;exact h4 z;exact h5 z)];simp only;rw[vm hl];unfold xf;by_cases c:l>most
  ·rw[XY c,XY c,Lg]
  ·rw[XX c,XX c];by_cases c2:l=most
   ·rw[XY c2,show(most-l).toNat=0 by omega];show(l,_)=(l,f++(_++Nt (.leaf "?")));rw[Pm]
   ·rw[XX c2,show(most-l).toNat=(most-l).toNat-1+1 by omega];show(l,_)=(l,f++(_++Nt (.leaf x)));rw[Pm]
 | .node c a b,h,l,f,hl=>by
  have hc:=h.1;have m1:c≠")":=by rcases hc with rfl | rfl<;>decide+kernel
  have m2:c≠"(":=by rcases hc with rfl | rfl<;>decide+kernel
  have s1:Xg most (l,f) "("=(l+1,tF most l f "("):=by unfold Xg;rw[XX (by decide+kernel),XY rfl]
  have s2:∀f,Xg most (l+1,f) c=(l+1,if l<most then f++c else f):=λf=>by
   unfold Xg;rw[XX m1,XX m2,XY ⟨by show l+1>0;omega,hc⟩];simp only;rw[show l+1-1=l by omega]
  have s3:∀f,Xg most (l+1,f) ")"=(l,if l<most then f++(")":Str) else f):=λf=>by
   unfold Xg;rw[XY rfl];simp only;rw[show l+1-1=l by omega]
  have ia:=λf=>Fj (most:=most) h.2.1 (l+1) f (by omega);have ib:=λf=>Fj (most:=most) h.2.2 (l+1) f (by omega);show(wT a++wT b++[(")":Str)]).foldl (Xg most) (Xg most (Xg most (l,f) "(") c)=_;rw[s1,s2,RJ,RJ,ia,ib];show Xg most (l+1,_) ")"=_;rw[s3,vm hl];have ga:∀τ,l+1>most->xf most (l+1) τ="":=λτ h=>by unfold xf;rw[XY h]
  have gb:∀τ,¬l+1>most->xf most (l+1) τ=(" ":Str)++Nt (Rm (most-(l+1)).toNat τ):=λτ h=>by unfold xf;rw[XX h,XX (show ¬l+1=0 by omega)]
  by_cases c1:l>most
  ·have e:xf most l (.node c a b)="":=by unfold xf;rw[XY c1]
   rw[XX (show ¬l<most by omega),XX (show ¬l<most by omega),XY c1,e,ga a (by omega),ga b (by omega)];simp only[Lg]
  ·rw[XX c1];by_cases c2:l=most
   ·have e:xf most l (.node c a b)=(if l=0 then("":Str) else(" ":Str))++("?":Str):=by
     unfold xf;rw[XX c1,show(most-l).toNat=0 by omega];show _++Nt (.leaf "?")=_;rw[Pm]
    rw[XX (show ¬l<most by omega),XX (show ¬l<most by omega),XY c2,e,ga a (by omega),ga b (by omega)];simp only[Lg]
   ·have e:xf most l (.node c a b)=(if l=0 then("":Str) else(" ":Str))++Nt (.node c (Rm (most-(l+1)).toNat a) (Rm (most-(l+1)).toNat b)):=by
     unfold xf;rw[XX c1,show(most-l).toNat=(most-(l+1)).toNat+1 by omega];rfl
    rw[XY (show l<most by omega),XY (show l<most by omega),XX c2,e,gb a (by omega),gb b (by omega)];refine Prod.ext VS (Oh ?_);simp only[Md,Mw,List.append_assoc];rfl
open PySem PySem.Spec PyProof.Rows L2 WL
def vn {f w:Str}(h:w.length<=18):(tF most l f w).length<=f.length+20:=by
 have c1:(" ":Str).length=1:=by decide+kernel
 have c2:("?":Str).length=1:=by decide+kernel
 have q:(if l>0/\l<=most then f++(" ":Str) else f).length<=f.length+1:=by split<;>(try rw[YC])<;>omega
 unfold tF
 split
 ·rw[YC];omega
 ·split
  ·rw[YC];omega
  ·omega
def uT {w:Str}(h:w.length<=18):(Xg most z w).2.length<=z.2.length+20:=by
 have c1:(")":Str).length=1:=by decide+kernel
 have c2:("(":Str).length=1:=by decide+kernel
 unfold Xg
 split
 ·simp only;split<;>(try rw[Str.length_append])<;>omega
 ·split
  ·exact vn (by omega)
  ·split
   ·simp only;split<;>(try rw[Str.length_append])<;>omega
   ·exact vn h
def Ri {p q:Prop}{b:Bool}(h1:b=true->p)(h2:b=false->q):if b=true then p else q:=by cases b;exact h2 VS;exact h1 VS
section
variable {C:Hw}{Q:WK}{χ:WX}{n:Nat}
def wy {m:Nat}(h:m<=1000000):m<=sizeLine:=XN h (by decide)
def dh {most:Int}(hg:lG v)(hp:(Uq v).length<=6008)(h0:0<=most)(q:∀C',Ex C C'->Q (.str (Nt (Rm most.toNat v))) C'):Z9 pr (n+1) xR [.str (Nt v),.int most] C Q χ:=by
 obtain⟨l1,l2,l3,l4,l5⟩:=Ay hg;have e1:(Txt.replace (Nt v) "(" "( ").cps.toList=Si 40 [40,32] (Nt v).cps.toList:=Lj VS;have e2:(Txt.replace (Txt.replace (Nt v) "(" "( ") ")" " )").cps.toList=fl v:=by rw[Lj (a:=41) VS,e1];exact xm hg
 have k1:(Txt.replace (Nt v) "(" "( ").length<=200000:=by rw[<-Ou,e1];omega
 have k2:(Txt.replace (Txt.replace (Nt v) "(" "( ") ")" " )").length<=200000:=by rw[<-Ou,e2];omega
 have hk:∀z:Str,¬Builtin.Str.strKind z<Builtin.Str.strKind (" ":Str):=λz=>by
  have e:Builtin.Str.strKind (" ":Str)=1:=by decide+kernel
  rw[e];unfold Builtin.Str.strKind
  split
  ·decide
  ·split<;>decide
 have hw:Txt.split (Txt.replace (Txt.replace (Nt v) "(" "( ") ")" " )") " "=wT v:=yc (by rw[ub (a:=32) VS hk,e2];exact jX hg);refine jO VS ?_;refine⟨_,VS,_,VS,by omega,_,VS,by omega,?_⟩;refine⟨⟨_,VS⟩,_,_,VS,VS,by decide+kernel,wy (by omega),by rw[hw];exact wy (by omega),λpl hpl=>?_⟩;rw[hw];generalize hC1:up C pl (.lst ((wT v).map T.str))=C1;have E1:Ex C C1:=hC1▸Ex.new hpl;have hpl1:C1 pl=some (.lst ((wT v).map T.str)):=hC1▸Zn;refine⟨_,VS,_,hpl1,?_⟩;refine Tu (λi τ C'=>Ex C1 C'/\∃x5 x6,τ=[some (.str (Nt v)),some (.int most),some (.ref pl),some (.str (((wT v).take i).foldl (Xg most) (0,"")).2),some (.int (((wT v).take i).foldl (Xg most) (0,"")).1),x5,x6]/\(((wT v).take i).foldl (Xg most) (0,"")).2.length<=20*i) ⟨Ex.refl C1,none,none,VS,by show("":Str).length<=0;decide+kernel⟩ (λi τ C' _ h=>h.1 _ _ hpl1) (λi x τ C' N hx hP hN=>?_) (λτ C' hP=>?_)
 ·obtain⟨hE,x5,x6,rfl,hlen⟩:=hP;rw[XM] at hx;obtain⟨w,hw1,rfl⟩:=QX.mp hx;have hi:i<(wT v).length:=(PY.mp hw1).1;have wl:=l5 w (QB hw1);have hfold:((wT v).take (i+1)).foldl (Xg most) (0,"")=Xg most (((wT v).take i).foldl (Xg most) (0,"")) w:=by rw[YD,RJ,hw1];rfl
  have fin:∀wi' f' C'',Ex C1 C''->Xg most (((wT v).take i).foldl (Xg most) (0,"")) w=(wi',f')->∀y6,N [some (.str (Nt v)),some (.int most),some (.ref pl),some (.str f'),some (.int wi'),some (.str w),y6] C'':=λwi' f' C'' hE' hc y6=>by
   refine hN _ _ ⟨hE',some (.str w),y6,?_,?_⟩
   ·rw[hfold,hc]
   ·rw[hfold];have:=uT (most:=most) (z:=((wT v).take i).foldl (Xg most) (0,"")) wl;omega
  have c1:(" ":Str).length=1:=by decide+kernel
  have c2:("?":Str).length=1:=by decide+kernel
  have c3:(")":Str).length=1:=by decide+kernel
  generalize hz:((wT v).take i).foldl (Xg most) (0,"")=z at fin hlen;obtain⟨wi,f⟩:=z;simp only at hlen;clear hN hz hfold;refine⟨_,VS,W0 VS ⟨_,VS,Ri (λb1=>?_) (λb1=>?_)⟩⟩
  ·have hw2:w=")":=eq_of_beq b1;refine⟨_,VS,_,VS,_,VS,_,VS,Ri (λb2=>?_) (λb2=>?_)⟩
   ·refine⟨_,VS,wy (by show f.length+(")":Str).length<=_;omega),?_⟩;exact fin _ _ _ hE (by unfold Xg;rw[XY hw2,XY (of_decide_eq_true b2)]) _
   ·exact fin _ _ _ hE (by unfold Xg;rw[XY hw2,XX (of_decide_eq_false b2)]) _
  have n1:w≠")":=λe=>by rw[e] at b1;revert b1;decide+kernel
  have tail:∀(l wi':Int) (C2:Hw),Ex C1 C2->Xg most (wi,f) w=(wi',tF most l f w)->(Zq (Ju (wN (Yu (Zf tR (Zd 6) (eC (.int 0)))) (Yu (Zf fM (Zd 6) (Zd 1)))) (Zw (Zf Wc (Zd 3) (eC (.str " "))) (Yq 3)) Z8)
    (Ju (Yu (Zf Jw (Zd 6) (Zd 1))) (Zw (Zf Wc (Zd 3) (eC (.str "?"))) (Yq 3)) (Ju (Yu (Zf wK (Zd 6) (Zd 1))) (Zw (Zf Wc (Zd 3) (Zd 5)) (Yq 3)) Z8)))
    {nx:=N,rt:=Q,ct:=N,bk:=λ_ _=>False,xc:=χ} [some (.str (Nt v)),some (.int most),some (.ref pl),some (.str f),some (.int wi'),some (.str w),some (.int l)] C2:=by
   intro l wi' C2 hE2 hc;have last:∀f1:Str,f1.length<=f.length+1->(tF most l f w=if l=most then f1++("?":Str) else if l<most then f1++w else f1)->(Ju (Yu (Zf Jw (Zd 6) (Zd 1))) (Zw (Zf Wc (Zd 3) (eC (.str "?"))) (Yq 3)) (Ju (Yu (Zf wK (Zd 6) (Zd 1))) (Zw (Zf Wc (Zd 3) (Zd 5)) (Yq 3)) Z8))
     {nx:=N,rt:=Q,ct:=N,bk:=λ_ _=>False,xc:=χ} [some (.str (Nt v)),some (.int most),some (.ref pl),some (.str f1),some (.int wi'),some (.str w),some (.int l)] C2:=by
    intro f1 hf1 hl1;refine⟨_,VS,_,VS,aq VS ⟨_,VS,Ri (λb2=>?_) (λb2=>?_)⟩⟩
    ·refine⟨_,VS,wy (by omega),?_⟩;rw[XY (eq_of_beq b2)] at hl1;exact fin _ _ _ hE2 (by rw[hc,hl1]) _
    ·have n2:¬l=most:=λe=>by rw[e] at b2;simp at b2
     rw[XX n2] at hl1;refine⟨_,VS,_,VS,_,VS,Ri (λb3=>?_) (λb3=>?_)⟩
     ·refine⟨_,VS,_,VS,wy (by omega),?_⟩;rw[XY (of_decide_eq_true b3)] at hl1;exact fin _ _ _ hE2 (by rw[hc,hl1]) _
     ·rw[XX (of_decide_eq_false b3)] at hl1;exact fin _ _ _ hE2 (by rw[hc,hl1]) _
   have no:¬(l>0/\l<=most)->(Ju (Yu (Zf Jw (Zd 6) (Zd 1))) (Zw (Zf Wc (Zd 3) (eC (.str "?"))) (Yq 3)) (Ju (Yu (Zf wK (Zd 6) (Zd 1))) (Zw (Zf Wc (Zd 3) (Zd 5)) (Yq 3)) Z8))
     {nx:=N,rt:=Q,ct:=N,bk:=λ_ _=>False,xc:=χ} [some (.str (Nt v)),some (.int most),some (.ref pl),some (.str f),some (.int wi'),some (.str w),some (.int l)] C2:=λh=>last f (by omega) (by unfold tF;rw[XX h])
   refine⟨_,VS,_,VS,Ri (λb2=>?_) (λb2=>Jh (no λz=>of_decide_eq_false b2 z.1))⟩;refine⟨_,VS,_,VS,_,VS,Ri (λb3=>?_) (λb3=>no λz=>of_decide_eq_false b3 z.2)⟩;refine⟨_,VS,wy (by omega),?_⟩;exact last (f++(" ":Str)) (by rw[YC];omega) (by unfold tF;rw[XY (show l>0/\l<=most from⟨of_decide_eq_true b2,of_decide_eq_true b3⟩)])
  refine⟨_,VS,_,VS,W0 VS ⟨_,VS,Ri (λb2=>?_) (λb2=>?_)⟩⟩
  ·have hw2:w="(":=eq_of_beq b2;refine⟨_,VS,?_⟩;exact tail wi (wi+1) C' hE (by unfold Xg;rw[XX n1,XY hw2,hw2])
  have n2:w≠"(":=λe=>by rw[e] at b2;revert b2;decide+kernel
  have plain:∀C2,Ex C1 C2->¬(wi>0/\(w="Cons"\/w="Pair"))->_:=λC2 hE2 hno=>tail wi wi C2 hE2 (by unfold Xg;rw[XX n1,XX n2,XX hno]);refine⟨_,VS,_,VS,Ri (λb3=>?_) (λb3=>Jh (plain C' hE λz=>of_decide_eq_false b3 z.1))⟩;refine⟨_,VS,ZNB VS,λp2 hp2=>?_⟩;have hE2:Ex C1 (up C' p2 (.lst [.str "Cons",.str "Pair"])):=hE.trans (Ex.new hp2);have hin:Hg (.str w) [.str "Cons",.str "Pair"]=true↔(w="Cons"\/w="Pair"):=by
   unfold Hg;simp only[List.any_cons,List.any_nil,Bool.or_false,Bool.or_eq_true];unfold WL.eqT;rw[beq_iff_eq,beq_iff_eq];exact⟨λz=>z.imp Eq.symm Eq.symm,λz=>z.imp Eq.symm Eq.symm⟩
  refine⟨_,Zn,U7,VS,_,VS,Ri (λb4=>?_) (λb4=>plain _ hE2 λz=>by rw[XX (by decide),hin.mpr z.2] at b4;cases b4)⟩;rw[XX (by decide)] at b4;have hcp:wi>0/\(w="Cons"\/w="Pair"):=⟨of_decide_eq_true b3,hin.mp b4⟩;refine⟨_,VS,_,VS,_,VS,_,VS,Ri (λb5=>?_) (λb5=>?_)⟩
  ·refine⟨_,VS,_,VS,wy (by show f.length+w.length<=_;omega),?_⟩;exact fin _ _ _ hE2 (by unfold Xg;rw[XX n1,XX n2,XY hcp,XY (of_decide_eq_true b5)]) _
  ·exact fin _ _ _ hE2 (by unfold Xg;rw[XX n1,XX n2,XY hcp,XX (of_decide_eq_false b5)]) _
 ·obtain⟨hE,x5,x6,rfl,_⟩:=hP;rw[XI,QK,Fj hg 0 "" (XW _)];refine⟨_,VS,?_⟩;have e:("":Str)++xf most 0 v=Nt (Rm most.toNat v):=by
   unfold xf;rw[XX (by omega),XY VS,yI,yI,Int.sub_zero]
  show Q (.str (("":Str)++xf most 0 v)) C';rw[e];exact q C' (E1.trans hE)
end
open PySem PySem.Spec PyProof.Rows L2 WL
def D9 (z:Str×Str):T:=.tup [.str z.1,.str z.2]
def tw (Γ:List Str)(ns:List (Str×Str)):Prop:=∀z∈ns,z.1∈Γ/\gl z.1
def Jd {p q:Prop}(h1:p)(h2:q):if b=true then p else q:=by cases b;exact h2;exact h1
def R9 {p q:Prop}{b:Bool}(h1:b=true->p)(h2:b=false->q):if b=true then p else q:=by cases b;exact h2 VS;exact h1 VS
def iW {ns:List (Str×Str)}{f:T->Option T}{g:Str×Str->Option Str}(h:∀z,f (D9 z)=(g z).map T.str):(ns.map D9).filterMap f=(ns.filterMap g).map T.str:=by
 rw[TW,List.map_filterMap];congr 1
 funext z
 exact h z
def qj {x:Int}(h0:0<=x)(h1:x<1000000000000000000):(Str.ofString (toString x)).length<=18:=by
 obtain⟨m,rfl⟩:∃m:Nat,x=m:=⟨x.toNat,by omega⟩;show(Str.ofString (toString (Int.ofNat m))).length<=18;rw[text_ofNat];show((Nat.toDigits 10 m).map Char.toNat).toArray.size<=18;rw[XJ,XI];exact digits10_le (by decide) (by omega)
def lT {x:Int}(h0:0<=x)(h1:x<1000000000000000000):x.natAbs.log2<1920:=by
 have h2:x.natAbs<2^64:=by omega
 have:x.natAbs.log2<64:=by
  by_cases c:x.natAbs=0
  ·rw[c];decide
  ·exact(Nat.log2_lt c).mpr h2
 omega
def a3 {α:Type}{a b c:α}{x:Int}:∃v,Q7 [a,b,c] (x%3)=some v/\(v=a\/v=b\/v=c):=by
 have h0:x%3=0\/x%3=1\/x%3=2:=by omega
 rcases h0 with e | e | e<;>rw[e]
 ·exact⟨_,Yl,.inl VS⟩
 ·exact⟨_,Jc,.inr (.inl VS)⟩
 ·exact⟨_,V0,.inr (.inr VS)⟩
def a2 {α:Type}{a b:α}{x:Int}:∃v,Q7 [a,b] (x%2)=some v/\(v=a\/v=b):=by
 have h0:x%2=0\/x%2=1:=by omega
 rcases h0 with e | e<;>rw[e]
 ·exact⟨_,Yl,.inl VS⟩
 ·exact⟨_,Jc,.inr VS⟩
def wx {z:Str}{n:Nat}{x:Int}(hz:z.cps.toList.length=n)(hn:0<n):∃c,Q7 z.cps.toList (x%(n:Int))=some c:=by
 obtain⟨v,h,_⟩:=K1 (xs:=z.cps.toList) (i:=x%(n:Int)) (YO _ (by omega)) (by rw[hz];exact QC _ (by omega));exact⟨v,h⟩
def oj:cl "Nil"/\ar "Nil"=0:=by decide+kernel
def aG:cl "Yes"/\ar "Yes"=0:=by decide+kernel
def Zap:cl "No"/\ar "No"=0:=by decide+kernel
def tI:cl "Cons"/\ar "Cons"=2:=by decide+kernel
def cJ:cl "Pair"/\ar "Pair"=2:=by decide+kernel
def cb:gl "x":=⟨by decide+kernel,by decide+kernel⟩
def G2:Tm:=.shp0 "Nil"
section
variable {C:Hw}{Q:WK}{χ:WX}{n:Nat}
def dg {x:Int}(hx:0<=x)(hx':x<6)(q:∀t C',Ex C C'->ok 0 2 Γ t->Q (tt t) C'):Z9 pr (n+1) N3 [.int x] C Q χ:=by
 refine Nn VS ?_;refine⟨ZNB VS,ZNB VS,?_⟩;refine⟨ZNB VS,ZNB VS,ZNB VS,_,VS,ZNB VS,ZNB VS,ZNB VS,λp hp=>?_⟩;refine⟨_,VS,ZNB VS,_,VS,ZNB VS,ZNB VS,ZNB VS,_,VS,ZNB VS,ZNB VS,ZNB VS,λp2 hp2=>?_⟩;have hne:p≠p2:=(jH hp2).1.symm;refine⟨_,_,by rw[Z0 hne];exact Zn,Zn,ZNB VS,λp3 hp3=>?_⟩;have hE:∀o,Ex C (up (up (up C p _) p2 _) p3 o):=λo=>((Ex.new hp).trans (Ex.new hp2)).trans (Ex.new hp3);have h0:x=0\/x=1\/x=2\/x=3\/x=4\/x=5:=by omega
 have n3:ok 0 1 Γ (.num 3):=⟨by decide,by decide⟩;have nl:ok 0 1 Γ G2:=oj
 rcases h0 with rfl | rfl | rfl | rfl | rfl | rfl
 ·exact⟨_,VS,_,VS,_,_,Zn,Yl,q (.num 3) _ (hE _) ⟨by decide,by decide⟩⟩
 ·exact⟨_,VS,_,VS,_,_,Zn,Jc,q (.shp0 "Yes") _ (hE _) aG⟩
 ·exact⟨_,VS,_,VS,_,_,Zn,V0,q G2 _ (hE _) oj⟩
 ·exact⟨_,VS,_,VS,_,_,Zn,pQ,q (.fn "x" (.nm "x")) _ (hE _) ⟨by decide,cb,QP⟩⟩
 ·exact⟨_,VS,_,VS,_,_,Zn,kn,q (.shp2 "Cons" (.num 3) G2) _ (hE _) ⟨by decide,tI,n3,nl⟩⟩
 ·exact⟨_,VS,_,VS,_,_,Zn,VS,q (.shp2 "Pair" (.num 3) G2) _ (hE _) ⟨by decide,cJ,n3,nl⟩⟩
def Oi {ns:List (Str×Str)}{x kd:Str}(ha:C a=some (.lst (ns.map D9)))(hn:tw Γ ns)(hx:gl x)(hl:ns.length<=1000)
  (q:∀p ns' C',Ex C C'->C p=none->C' p=some (.lst (ns'.map D9))->tw (x::Γ) ns'->ns'.length<=ns.length+1->Q (.ref p) C'):Z9 pr (n+1) A9 [.ref a,.str x,.str kd] C Q χ:=by
 refine Bi VS ?_;refine⟨_,VS,_,ha,?_⟩;refine zr (f:=λt=>match t with | .tup [.str y,_]=>if y=x then none else some t | _=>none) ha (by rw[XI];exact Ym (by omega)) (λt ht R N h1 h2=>?_) ?_
 ·obtain⟨z,_,rfl⟩:=XR.mp ht;refine⟨_,VS,_,Yl,_,VS,aa VS ⟨_,VS,?_⟩⟩;by_cases c:z.1=x
  ·refine Ic (by rw[c,XU];rfl) (h2 ?_);show(if z.1=x then none else _)=none;rw[XY c]
  ·refine Fc (by rw[beq_eq_false_iff_ne.mpr c];rfl) ⟨_,VS,h1 _ ?_⟩;show(if z.1=x then none else _)=_;rw[XX c]
 ·intro p hp;refine⟨_,VS,_,VS,ZNB VS,ZNB VS,λp2 hp2=>?_⟩;have hne:p≠p2:=(jH hp2).1.symm;have em:∃ns2:List (Str×Str),((ns.map D9).filterMap λt=>match t with | .tup [.str y,_]=>if y=x then none else some t | _=>none)=ns2.map D9/\(∀z∈ns2,z∈ns)/\ns2.length<=ns.length:=by
   clear ha hn hl q hp hp2 hne
   induction ns with
   | nil=>exact⟨[],VS,λz hz=>(by cases hz),XE _⟩
   | cons z r ih=>
    obtain⟨ns2,i1,i2,i3⟩:=ih;by_cases c:z.1=x
    ·refine⟨ns2,?_,λy hy=>XV _ (i2 y hy),by rw[YF];omega⟩;rw[YI,List.filterMap_cons_none (by show(if z.1=x then none else _)=_;rw[XY c]),i1]
    ·refine⟨z::ns2,?_,λy hy=>?_,by rw[YF,YF];omega⟩
     ·rw[YI,List.filterMap_cons_some (b:=D9 z) (by show(if z.1=x then none else _)=_;rw[XX c]),i1];rfl
     ·rcases QD.mp hy with rfl | hy
      ·exact QP
      ·exact XV _ (i2 y hy)
  obtain⟨ns2,e1,e2,e3⟩:=em;rw[e1] at hp2 |-;refine⟨_,_,by rw[Z0 hne];exact Zn,Zn,by rw[XI];exact Ym (by show ns2.length+1<=_;omega),λp3 hp3=>?_⟩;refine q p3 (ns2++[(x,kd)]) _ (((Ex.new hp).trans (Ex.new hp2)).trans (Ex.new hp3)) ((jH (jH hp3).2).2) ?_ (λz hz=>?_) (by rw[PX];show ns2.length+1<=_;omega)
  ·rw[Zn,XL];rfl
  ·rcases XS.mp hz with hz | hz
   ·exact⟨XV _ (hn z (e2 z hz)).1,(hn z (e2 z hz)).2⟩
   ·rw[XQ.mp hz];exact⟨QP,hx⟩
def xj {ns:List (Str×Str)}(ha:C a=some (.lst (ns.map D9)))(hn:tw Γ ns)(hl:ns.length<=1000)(q:∀t C',Ex C C'->ok 0 2 Γ t->Q (tt t) C'):Z9 pr (n+2) jd [.str kd,.int x,.ref a] C Q χ:=by
 refine zW VS ?_;refine⟨_,VS,_,ha,?_⟩;refine zr (f:=λt=>match t with | .tup [.str y,.str k]=>if k=kd then some (.str y) else none | _=>none) ha (by rw[XI];exact Ym (by omega)) (λt ht R N h1 h2=>?_) ?_
 ·obtain⟨z,_,rfl⟩:=XR.mp ht;refine⟨_,VS,_,Jc,_,VS,cw VS ⟨_,VS,?_⟩⟩;by_cases c:z.2=kd
  ·refine Fc (by rw[c];exact XU _) ⟨_,VS,_,Yl,h1 _ ?_⟩;show(if z.2=kd then _ else _)=_;rw[XY c]
  ·refine Ic (beq_eq_false_iff_ne.mpr c) (h2 ?_);show(if z.2=kd then _ else _)=_;rw[XX c]
 rw[iW (g:=λz=>if z.2=kd then some z.1 else none) (λz=>by show(if z.2=kd then _ else _)=_;split<;>rfl)];have hmine:∀y∈ns.filterMap (λz=>if z.2=kd then some z.1 else none),y∈Γ:=λy hy=>by
  obtain⟨z,hz,e⟩:=TV.mp hy
  split at e
  ·cases e;exact(hn z hz).1
  ·cases e
 generalize ns.filterMap (λz=>if z.2=kd then some z.1 else none)=mine at hmine;intro p hp;have E1:Ex C (up C p (.lst (mine.map T.str))):=Ex.new hp;have ha1:=E1 _ _ ha;have hp1:(up C p (.lst (mine.map T.str))) p=some (.lst (mine.map T.str)):=Zn;generalize up C p (.lst (mine.map T.str))=C1 at E1 ha1 hp1;have p18:lI 10 18:=⟨by decide,by decide,by decide⟩;have n0:∀y:Int,ok 0 1 Γ (.num (y%8)):=λy=>⟨by omega,by simp only[big];omega⟩;have t8:T7 (Z9 pr (n+1)) {nx:=λ_ C'=>Q .non C',rt:=Q,xc:=χ} [some (.str kd),some (.int x),some (.ref a),some (.ref p),none,none] C1:=by
  have t5:T9 (Z9 pr (n+1)) {nx:=λ_ C'=>Q .non C',rt:=Q,xc:=χ} [some (.str kd),some (.int x),some (.ref a),some (.ref p),none,none] C1:=by
   refine⟨_,VS,W0 VS ⟨_,VS,Jd ?_ ?_⟩⟩
   ·obtain⟨v,h1,h2⟩:=a2 (a:=T.int (x/4%4)) (b:=T.int (x*982451653%10^(18:Int).toNat)) (x:=x/16);refine⟨_,VS,⟨by decide,by decide⟩,by decide,_,VS,.inr ⟨by decide,by decide⟩,p18,by decide,ZNB VS,λp2 hp2=>?_⟩;refine⟨_,VS,⟨by decide,by decide⟩,by decide,_,_,Zn,h1,ZNB VS,?_⟩
    rcases h2 with rfl | rfl
    ·exact q (.num _) _ (E1.trans (Ex.new hp2)) ⟨by omega,by simp only[big];omega⟩
    ·exact q (.num _) _ (E1.trans (Ex.new hp2)) ⟨YO _ (by decide),QC _ (by decide)⟩
   refine⟨_,VS,W0 VS ⟨_,VS,Jd ?_ ?_⟩⟩
   ·obtain⟨v,h1,h2⟩:=a2 (a:=T.str "No") (b:=T.str "Yes") (x:=x/4);refine⟨ZNB VS,λp2 hp2=>⟨_,VS,⟨by decide,by decide⟩,by decide,_,_,Zn,h1,XO _,ZNB VS,?_⟩⟩
    rcases h2 with rfl | rfl
    ·exact q (.shp0 "No") _ (E1.trans (Ex.new hp2)) Zap
    ·exact q (.shp0 "Yes") _ (E1.trans (Ex.new hp2)) aG
   refine⟨_,VS,W0 VS ⟨_,VS,Jd ?_ ?_⟩⟩
   ·obtain⟨ch,h1⟩:=wx (z:="+-*") (n:=3) (x:=x/4) (by decide+kernel) (by decide);refine⟨_,VS,⟨by decide,by decide⟩,by decide,by decide,ch,h1,_,VS,⟨by decide,by decide⟩,by decide,ZNB VS,ZNB VS,ZNB VS,ZNB VS,?_⟩;exact q (.fn "x" (.does ⟨#[ch]⟩ (.num (x/12%100)) (.nm "x"))) _ E1 ⟨by decide,cb,by decide,⟨by omega,by simp only[big];omega⟩,List.mem_cons_self⟩
   refine⟨XO _,ZNB VS,?_⟩;refine⟨_,VS,W0 VS ⟨_,VS,Jd ?_ ?_⟩⟩
   ·refine⟨_,VS,p18,by decide,ZNB VS,_,VS,ZNB VS,ZNB VS,?_⟩;exact q (.shp2 "Pair" (.num _) G2) _ E1 ⟨by decide,cJ,⟨YO _ (by decide),QC _ (by decide)⟩,oj⟩
   refine⟨_,VS,⟨by decide,by decide⟩,by decide,ZNB VS,_,VS,ZNB VS,ZNB VS,?_⟩;obtain⟨v,h1,h2⟩:=a3 (a:=tt G2) (b:=tt (.shp2 "Cons" (.num (x/768%8)) G2)) (c:=tt (.shp2 "Cons" (.num (x/96%8)) (.shp2 "Cons" (.num (x/768%8)) G2))) (x:=x/4);refine⟨_,VS,_,VS,_,VS,⟨by decide,by decide⟩,by decide,ZNB VS,_,VS,ZNB VS,ZNB VS,ZNB VS,λp2 hp2=>?_⟩;refine⟨_,VS,⟨by decide,by decide⟩,by decide,_,_,Zn,h1,?_⟩
   rcases h2 with rfl | rfl | rfl
   ·exact q G2 _ (E1.trans (Ex.new hp2)) oj
   ·exact q _ _ (E1.trans (Ex.new hp2)) ⟨by decide,tI,n0 _,oj⟩
   ·exact q _ _ (E1.trans (Ex.new hp2)) ⟨by decide,tI,n0 _,by decide,tI,⟨by omega,by simp only[big];omega⟩,oj⟩
  have t7:T8 (Z9 pr (n+1)) {nx:=λ_ C'=>Q .non C',rt:=Q,xc:=χ} [some (.str kd),some (.int x),some (.ref a),some (.ref p),none,none] C1:=by
   refine⟨_,VS,by decide,Qf VS ⟨_,VS,Jd ?_ ?_⟩⟩
   ·have hx0:0<=x/31%100:=by omega
    have hx1:x/31%100<1000000000000000000:=by omega
    have hb:("boo":Str).length=3:=by decide+kernel
    have hle:=qj hx0 hx1;have hla:(("boo":Str)++Str.ofString (toString (x/31%100))).length=("boo":Str).length+(Str.ofString (toString (x/31%100))).length:=YC _ _;refine⟨_,VS,⟨by decide,by decide⟩,by decide,.inl ⟨_,VS,lT hx0 hx1,Ym (by omega),ZNB VS,?_⟩⟩;exact q (.stop _) _ E1 ⟨by show 1<=(("boo":Str)++Str.ofString (toString (x/31%100))).length;omega,by show(("boo":Str)++Str.ofString (toString (x/31%100))).length<=100;omega⟩
   refine⟨_,VS,by decide,_,VS,R9 (λh4=>⟨_,VS,R9 (λh11=>?_) (λ_=>t5)⟩) (λ_=>⟨_,VS,t5⟩)⟩;refine⟨_,VS,by decide,?_⟩;dsimp only[Zg,Jr,eC];have h4':=of_decide_eq_true h4;have h11':=of_decide_eq_true h11;exact dg (n:=n) (by omega) (by omega) λt C' hE ho=>q t C' (E1.trans hE) ho
  refine⟨_,VS,by decide,Qf VS ⟨_,VS,Jd ?_ t7⟩⟩;refine⟨_,VS,⟨by decide,by decide⟩,by decide,Qf VS ⟨_,VS,Jd ?_ t7⟩⟩;refine⟨_,VS,_,VS,_,ha1,_,VS,R9 (λhc=>?_) (λ_=>t7)⟩;have hc':((ns.map D9).length:Int)>0:=of_decide_eq_true hc;obtain⟨v,h1,h2⟩:=K1 (xs:=ns.map D9) (i:=x/62%((ns.map D9).length:Int)) (YO _ (by omega)) (QC _ hc');obtain⟨z,hz,rfl⟩:=XR.mp h2;refine⟨_,VS,_,VS,⟨by decide,by decide⟩,_,VS,_,VS,_,ha1,hc',_,_,ha1,h1,_,Yl,ZNB VS,?_⟩;exact q (.stop z.1) _ E1 (hn z hz).2
 refine⟨_,VS,_,VS,_,hp1,_,VS,R9 (λhc=>?_) (λ_=>Jh t8)⟩;have hc':((mine.map T.str).length:Int)>0:=of_decide_eq_true hc;refine⟨_,VS,by decide,_,VS,Jd ?_ t8⟩;obtain⟨v,h1,h2⟩:=K1 (xs:=mine.map T.str) (i:=x/4%((mine.map T.str).length:Int)) (YO _ (by omega)) (QC _ hc');obtain⟨y,hy,rfl⟩:=XR.mp h2;refine⟨_,VS,_,VS,⟨by decide,by decide⟩,_,VS,_,VS,_,hp1,hc',_,_,hp1,h1,ZNB VS,?_⟩;exact q (.nm y) _ E1 (hmine y hy)
end
open PySem PySem.Spec PyProof.Rows L2 WL
def Ap {α β:Type}(l:List α)(f:α->β):(List.finRange l.length).map (λi=>f (l[i]))=l.map f:=by
 refine List.ext_getElem (by simp) λi h1 h2=>?_;simp
def ltL (zs:List (Str×Tm))(b:Tm):Tm:=.lt zs.length (λi=>(zs[i]).1) (λi=>(zs[i]).2) b
def km (e:Tm)(as:List (Str×List Str×Tm)):Tm:=.ch e as.length (λi=>(as[i]).1) (λi=>(as[i]).2.1) (λi=>(as[i]).2.2)
def yv (z:Str×Tm):T:=.tup [.str z.1,tt z.2]
def Zan (a:Str×List Str×Tm):T:=.tup [.str a.1,.tup (a.2.1.map T.str),tt a.2.2]
def sf:tt (ltL zs b)=.tup [.str "let",.tup (zs.map yv),tt b]:=by
 unfold ltL;rw[tt,<-Ap zs yv];rfl
def Bj:tt (km e as)=.tup [.str "choose",tt e,.tup (as.map Zan)]:=by
 unfold km;rw[tt,<-Ap as Zan];rfl
def dR {α:Type}{l:List α}{f:α->Str}:V9 (λi:Fin l.length=>f (l[i]))=l.map f:=Ap l f
def Ac:∀{t:Tm} {d:Nat} {Γ Γ':List Str},ok L d Γ t->(∀x∈Γ,x∈Γ')->ok L d Γ' t:=by
 have app:∀{ns Γ Γ':List Str},(∀x∈Γ,x∈Γ')->∀x∈ns++Γ,x∈ns++Γ':=λh x hx=>by
  rcases XS.mp hx with hx | hx
  ·exact QQ _ hx
  ·exact XT _ (h x hx)
 intro t
 induction t with
 | nm x=>intro d Γ Γ' h hs;exact hs x h
 | num v=>intro d Γ Γ' h hs;exact h
 | stop x=>intro d Γ Γ' h hs;exact h
 | at_ i=>intro d Γ Γ' h hs;exact h
 | shp0 c=>intro d Γ Γ' h hs;exact h
 | shp2 c a b iha ihb=>intro d Γ Γ' h hs;exact⟨h.1,h.2.1,iha h.2.2.1 hs,ihb h.2.2.2 hs⟩
 | does o a b iha ihb=>intro d Γ Γ' h hs;exact⟨h.1,iha h.2.1 hs,ihb h.2.2 hs⟩
 | call a b iha ihb=>intro d Γ Γ' h hs;exact⟨h.1,iha h.2.1 hs,ihb h.2.2 hs⟩
 | first a b iha ihb=>intro d Γ Γ' h hs;exact⟨h.1,iha h.2.1 hs,ihb h.2.2 hs⟩
 | fn x b ih=>intro d Γ Γ' h hs;exact⟨h.1,h.2.1,ih h.2.2 (app (ns:=[x]) hs)⟩
 | lt n xs ts b iht ihb=>intro d Γ Γ' h hs;exact⟨h.1,h.2.1,λi=>iht i (h.2.2.1 i) (app hs),ihb h.2.2.2 (app hs)⟩
 | ch e n cs ns bs ihe ihb=>intro d Γ Γ' h hs;exact⟨h.1,h.2.1,ihe h.2.2.1 hs,λi=>ihb i (h.2.2.2 i) (app hs)⟩
def qe {L d:Nat}{Γ:List Str}{zs:List (Str×Tm)}(hd:1<=d)(h1:1<=zs.length)(h5:zs.length<=5)(hn:(zs.map (·.1)).Nodup)(hl:∀z∈zs,gl z.1)(hz:∀z∈zs,ok L (d-1) (zs.map (·.1)++Γ) z.2)(hb:ok L (d-1) (zs.map (·.1)++Γ) b):ok L d Γ (ltL zs b):=by
 have e:=dR (l:=zs) (f:=λz:Str×Tm=>z.1);unfold ltL;refine⟨hd,⟨h1,h5,?_,λi=>hl _ (YN _)⟩,λi=>?_,?_⟩
 ·rw[e];exact hn
 ·rw[e];exact hz _ (YN _)
 ·rw[e];exact hb
def Af {L d:Nat}{as:List (Str×List Str×Tm)}(hd:1<=d)(h5:as.length<=5)(hn:∀a∈as,a.2.1.length=ar a.1/\a.2.1.Nodup)(he:ok L (d-1) Γ e)(hz:∀a∈as,ok L (d-1) (a.2.1++Γ) a.2.2):ok L d Γ (km e as):=
 ⟨hd,⟨h5,λi=>hn _ (YN _)⟩,he,λi=>hz _ (YN _)⟩
structure Ed (pl:List Str):Prop where
 l:pl.length=3
 n:pl.Nodup
 s5:∀x∈pl,1<=x.length/\x.length<=50
def Ed.s (h:Ed pl)(x:Str)(hx:x∈pl):gl x:=⟨(h.s5 x hx).1,XN (h.s5 x hx).2 (by decide)⟩
structure Env (k:Nat)(C:Hw)(p a b:Addr)(ds:List Int)(ns:List (Str×Str))(pl Γ:List Str):Prop where
 hp:C p=some (.lst (ds.map T.int))
 ha:C a=some (.lst (ns.map D9))
 hn:tw Γ ns
 hl:ns.length+4*k<=100
 hb:C b=some (.lst (pl.map T.str))
 pl:Ed pl
 nap:a≠p
 nbp:b≠p
 fr:("from":Str)∈Γ
 ea:("each":Str)∈Γ
section
variable {C C':Hw}{Q:WK}{χ:WX}{n k:Nat}{p a b:WP}{ds ds':List Int}{ns:List (Str×Str)}{pl Γ:List Str}{kd:Str}{x:Int}
def Env.dn (e:Env (k+1) C p a b ds ns pl Γ):Env k C p a b ds ns pl Γ:=⟨e.hp,e.ha,e.hn,by have:=e.hl;omega,e.hb,e.pl,e.nap,e.nbp,e.fr,e.ea⟩
def Env.on (e:Env k C p a b ds ns pl Γ)(h:Qk p C C')(hp:C' p=some (.lst (ds'.map T.int))):Env k C' p a b ds' ns pl Γ:=⟨hp,h _ _ e.nap e.ha,e.hn,e.hl,h _ _ e.nbp e.hb,e.pl,e.nap,e.nbp,e.fr,e.ea⟩
def Env.ex (e:Env k C p a b ds ns pl Γ)(h:Ex C C'):Env k C' p a b ds ns pl Γ:=e.on (h.exB p) (h _ _ e.hp)
def Env.bind {ns2:List (Str×Str)}(e:Env (k+1) C p a b ds ns pl Γ)(h:Ex C C')(h0:C p2=none)(h2:C' p2=some (.lst (ns2.map D9)))(hn:tw Γ' ns2)(hl:ns2.length<=ns.length+3)(hs:∀y∈Γ,y∈Γ'):Env k C' p p2 b ds ns2 pl Γ':=
 ⟨h _ _ e.hp,h2,hn,by have:=e.hl;omega,h _ _ e.hb,e.pl,(cne e.hp h0).symm,e.nbp,hs _ e.fr,hs _ e.ea⟩
def Eb (k:Nat):Prop:=∀{n:Nat} {C:Hw} {Q:WK} {χ:WX} {kd:Str} {p a b:WP} {ds:List Int} {ns:List (Str×Str)} {pl Γ:List Str},Env k C p a b ds ns pl Γ->
 (∀t C' (ds':List Int),Qk p C C'->C' p=some (.lst (ds'.map T.int))->ok 0 (2*k+3) Γ t->Q (tt t) C')->Z9 pr (n+2*k+3) Ob [.str kd,.ref p,.ref a,.ref b,.int k] C Q χ
def V8 (ih:Eb k)(hx:x=k)(e:Env k C p a b ds ns pl Γ)(q:∀t C' (ds':List Int),Qk p C C'->C' p=some (.lst (ds'.map T.int))->ok 0 (2*k+3) Γ t->Q (tt t) C'):Z9 pr (n+2*k+3) Ob [.str kd,.ref p,.ref a,.ref b,.int x] C Q χ:=by
 subst hx;exact ih e q
def P3 {d d':Nat}(h:ok 0 d Γ t)(hd:d<=d'):ok 0 d' Γ t:=Xw (XE _) h hd
def ck:((k+1:Nat):Int)-1=(k:Int):=by omega
def Aa (hb:C b=some (.lst (pl.map T.str)))(h:Ed pl)(y:Int):∃z,z∈pl/\Q7 (pl.map T.str) (y%((pl.map T.str).length:Int))=some (.str z):=by
 have h3:=h.l;obtain⟨v,h1,h2⟩:=K1 (xs:=pl.map T.str) (i:=y%((pl.map T.str).length:Int)) (YO _ (by rw[XI];omega)) (QC _ (by rw[XI];omega));obtain⟨z,hz,rfl⟩:=XR.mp h2;exact⟨z,hz,h1⟩
def xq (h:Ed pl):(0:Int)<((pl.map T.str).length:Int):=by rw[XI,h.l];decide
def wZ (h:Ed pl){z:Str}(hz:z∈pl):∃u v,pl.filter (λy=>decide (y≠z))=[u,v]/\[z,u,v].Nodup/\gl u/\gl v:=by
 have h1:=h.l;have h2:=h.n;have h3:=h.s
 match pl,h1,h2,h3,hz with
 | [a,b,c],_,h2,h3,hz=>
  have ha:=h3 a (by simp);have hb:=h3 b (by simp);have hc:=h3 c (by simp);simp only[List.nodup_cons,List.mem_cons,List.not_mem_nil,or_false,not_or,not_false_eq_true,List.nodup_nil,and_true] at h2;obtain⟨⟨n1,n2⟩,n3⟩:=h2;simp only[ZM,ZN,or_false] at hz
  rcases hz with rfl | rfl | rfl
  ·exact⟨b,c,by simp[Ne.symm n1,Ne.symm n2],by simp[n1,n2,n3],hb,hc⟩
  ·exact⟨a,c,by simp[n1,Ne.symm n3],by simp[Ne.symm n1,n2,n3],ha,hc⟩
  ·exact⟨a,b,by simp[n2,n3],by simp[Ne.symm n2,Ne.symm n3,n1],ha,hb⟩
def sL {τ:Sw}{i j:Nat}(hi:τ[i]?=some (some (.ref b)))(hj:τ[j]?=some (some (.str z)))(hb:C b=some (.lst (pl.map T.str)))(h:Ed pl)(q:∀p2,C p2=none->Q (.ref p2) (up C p2 (.lst ((pl.filter λy=>decide (y≠z)).map T.str)))):
  Uc [none,some j] (Sf (Zd i)) (Yq 0) (Yu (Zf wJ (Zd 0) (Zd 1))) (Zd 0) τ C Q χ:=by
 refine⟨_,hi,_,hb,?_⟩;have h3:=h.l;have ec:Dk [none,some j] τ=[none,some (.str z)]:=by
  show[none,(τ[j]?).join]=_;rw[hj];rfl
 rw[ec];refine zr (f:=λt=>match t with | .str y=>if y=z then none else some (.str y) | _=>none) hb (by rw[XI];exact Ym (by omega)) (λt ht R N h1 h2=>?_) ?_
 ·obtain⟨y,_,rfl⟩:=XR.mp ht;refine⟨_,VS,_,VS,aa VS ⟨_,VS,?_⟩⟩;by_cases c:y=z
  ·refine Ic (by rw[c,XU];rfl) (h2 ?_);show(if y=z then none else _)=none;rw[XY c]
  ·refine Fc (by rw[beq_eq_false_iff_ne.mpr c];rfl) ⟨_,VS,h1 _ ?_⟩;show(if y=z then none else _)=_;rw[XX c]
 ·have e:(pl.map T.str).filterMap (λt=>match t with | .str y=>if y=z then none else some (.str y) | _=>none)=(pl.filter λy=>decide (y≠z)).map T.str:=by
   rw[TW,<-List.filterMap_eq_filter,List.map_filterMap];congr 1
   funext y
   show(if y=z then none else some (T.str y))=Option.map T.str (if decide (y≠z)=true then some y else none);by_cases c:y=z
   ·simp[c]
   ·simp[c]
  rw[e];exact q
def oU {B:WS}{τ:Sw}{z u v:Str}{i j m:Nat}(hi:τ[i]?=some (some (.ref b)))(hj:τ[j]?=some (some (.str z)))(hb:C b=some (.lst (pl.map T.str)))(h:Ed pl)(hf:pl.filter (λy=>decide (y≠z))=[u,v])(q:∀p2,C p2=none->B D (τ.set m (some (.str u))) (up C p2 (.lst ([u,v].map T.str)))):
  Zq (Zw (Zf Zv (Uc [none,some j] (Sf (Zd i)) (Yq 0) (Yu (Zf wJ (Zd 0) (Zd 1))) (Zd 0)) (eC (.int 0))) (Yq m)) B D τ C:=by
 show Uc [none,some j] (Sf (Zd i)) (Yq 0) (Yu (Zf wJ (Zd 0) (Zd 1))) (Zd 0) τ C (λx C1=>Zv x (.int 0) C1 λy C2=>B D (τ.set m (some y)) C2) D.xc;refine sL hi hj hb h λp2 hp2=>?_;rw[hf];exact⟨_,_,Zn,Yl,q p2 hp2⟩
def oS {B:WS}{τ:Sw}{z u v:Str}{i j m:Nat}(hi:τ[i]?=some (some (.ref b)))(hj:τ[j]?=some (some (.str z)))(hb:C b=some (.lst (pl.map T.str)))(h:Ed pl)(hf:pl.filter (λy=>decide (y≠z))=[u,v])(q:∀p2,C p2=none->B D (τ.set m (some (.ref p2))) (up C p2 (.lst ([u,v].map T.str)))):
  Zq (Zw (Uc [none,some j] (Sf (Zd i)) (Yq 0) (Yu (Zf wJ (Zd 0) (Zd 1))) (Zd 0)) (Yq m)) B D τ C:=by
 show Uc [none,some j] (Sf (Zd i)) (Yq 0) (Yu (Zf wJ (Zd 0) (Zd 1))) (Zd 0) τ C (λx C1=>B D (τ.set m (some x)) C1) D.xc;refine sL hi hj hb h λp2 hp2=>?_;rw[hf];exact q p2 hp2
def eZ (ih:Eb k)(e:Env (k+1) C p a b ds ns pl Γ)(q:∀t C' (ds':List Int),Qk p C C'->C' p=some (.lst (ds'.map T.int))->ok 0 (2*k+5) Γ t->Q (tt t) C'):Z9 pr (n+2*k+4) xQ [.str kd,.int x,.ref p,.ref a,.ref b,.int ((k+1:Nat):Int)] C Q χ:=by
 refine jN VS ?_;have e0:=e.dn;have t1:Rb (Z9 pr (n+2*k+3)) {nx:=λ_ C'=>Q .non C',rt:=Q,xc:=χ} [some (.str kd),some (.int x),some (.ref p),some (.ref a),some (.ref b),some (.int ((k+1:Nat):Int)),none,none,none] C:=by
  refine⟨_,VS,_,VS,_,VS,_,VS,?_⟩;dsimp only[Zg,Jr,eC];refine V8 ih ck e0 λt1 C1 d1 x1 h1 o1=>?_;refine⟨ZNB VS,λp2 hp2=>⟨_,VS,W0 VS (.inr ⟨_,VS,?_⟩)⟩⟩;have E2:Qk p C (up C1 p2 (.lst [.str "Cons",.str "Pair"])):=x1.trans ((Ex.new hp2).exB p);have e2:=e0.on E2 (by rw[Z0 (cne h1 hp2)];exact h1);have fin:∀c:Str,(c="Cons"\/c="Pair")->Zb (Zs (Zb (Zd 6) (Zb (Z6 (Z9 pr (n+2*k+3)) 44 (Zb (eC (.str "l")) (Zb (Zd 2) (Zb (Zd 3) (Zb (Zd 4) (Zb (Zf Jr (Zd 5) (eC (.int 1))) Zg)))))) Zg))) Zg [some (.str kd),some (.int x),some (.ref p),some (.ref a),some (.ref b),some (.int ((k+1:Nat):Int)),some (tt t1),none,none] (up C1 p2 (.lst [.str "Cons",.str "Pair"])) (λxs C1=>([T.str "shape",T.str c]++xs).length<=sizeLine/\Q (.tup ([T.str "shape",T.str c]++xs)) C1) χ:=λc hc=>by
   refine⟨_,VS,_,VS,_,VS,_,VS,_,VS,?_⟩;dsimp only[Zg,Jr,eC];refine V8 ih ck e2 λt2 C3 d3 x3 h3 o3=>?_;refine⟨ZNB VS,ZNB VS,?_⟩;refine q (.shp2 c t1 t2) C3 d3 (E2.trans x3) h3 ⟨by omega,by rcases hc with rfl | rfl;exact tI;exact cJ,P3 o1 (by omega),P3 o3 (by omega)⟩
  cases hk:(kd==("p":Str)) with
  | true=>exact⟨_,_,Zn,Jc,fin "Pair" (.inr VS)⟩
  | false=>exact⟨_,_,Zn,Yl,fin "Cons" (.inl VS)⟩
 have t2:Ra (Z9 pr (n+2*k+3)) {nx:=λ_ C'=>Q .non C',rt:=Q,xc:=χ} [some (.str kd),some (.int x),some (.ref p),some (.ref a),some (.ref b),some (.int ((k+1:Nat):Int)),none,none,none] C:=by
  refine⟨_,VS,W0 VS ⟨_,VS,Jd ?_ t1⟩⟩;refine⟨_,VS,by decide,Qf VS ⟨_,VS,Jd ?_ t1⟩⟩;refine⟨_,VS,_,VS,_,VS,_,VS,?_⟩;dsimp only[Zg,Jr,eC];refine V8 ih ck e0 λt1 C1 d1 x1 h1 o1=>?_;have e1:=e0.on x1 h1;refine⟨ZNB VS,_,VS,ZNB VS,_,VS,_,VS,_,VS,_,VS,?_⟩;dsimp only[Zg,Jr,eC];refine V8 ih ck e1 λt2 C2 d2 x2 h2 o2=>?_;refine⟨ZNB VS,?_⟩;exact q (.call (.call (.nm "each") t1) t2) C2 d2 (x1.trans x2) h2 ⟨by omega,⟨by omega,e.ea,P3 o1 (by omega)⟩,P3 o2 (by omega)⟩
 have t3:S9 (Z9 pr (n+2*k+3)) {nx:=λ_ C'=>Q .non C',rt:=Q,xc:=χ} [some (.str kd),some (.int x),some (.ref p),some (.ref a),some (.ref b),some (.int ((k+1:Nat):Int)),none,none,none] C:=by
  refine⟨_,VS,W0 VS ⟨_,VS,Jd ?_ t2⟩⟩;refine⟨_,VS,by decide,Qf VS ⟨_,VS,Jd ?_ t2⟩⟩;refine⟨ZNB VS,_,VS,_,VS,_,VS,_,VS,?_⟩;dsimp only[Zg,Jr,eC];refine V8 ih ck e0 λt1 C1 d1 x1 h1 o1=>?_;refine⟨ZNB VS,?_⟩;exact q (.call (.nm "from") t1) C1 d1 x1 h1 ⟨by omega,e.fr,P3 o1 (by omega)⟩
 have t4:S8 (Z9 pr (n+2*k+3)) {nx:=λ_ C'=>Q .non C',rt:=Q,xc:=χ} [some (.str kd),some (.int x),some (.ref p),some (.ref a),some (.ref b),some (.int ((k+1:Nat):Int)),none,none,none] C:=by
  refine⟨_,VS,W0 VS ⟨_,VS,Jd ?_ t3⟩⟩;obtain⟨z,hz,hat⟩:=Aa e.hb e.pl x;refine⟨_,VS,_,VS,_,VS,_,VS,_,e.hb,xq e.pl,_,_,e.hb,hat,?_⟩;refine⟨_,VS,_,VS,_,VS,_,VS,?_⟩;dsimp only[Zg,Zb,eC];refine Oi (n:=n+2*k+2) e.ha e.hn (e.pl.s z hz) (by have:=e.hl;omega) λp2 ns2 C1 E1 hp2 h2 n2 l2=>?_;have e1:=e.bind E1 hp2 h2 n2 (by omega) (λy hy=>XV _ hy);refine⟨_,VS,_,VS,?_⟩;dsimp only[Zg,Jr,eC];refine V8 ih ck e1 λt1 C2 d2 x2 h3 o1=>?_;refine⟨ZNB VS,?_⟩;exact q (.fn z t1) C2 d2 ((E1.exB p).trans x2) h3 ⟨by omega,e.pl.s z hz,P3 o1 (by omega)⟩
 have t5:S7 (Z9 pr (n+2*k+3)) {nx:=λ_ C'=>Q .non C',rt:=Q,xc:=χ} [some (.str kd),some (.int x),some (.ref p),some (.ref a),some (.ref b),some (.int ((k+1:Nat):Int)),none,none,none] C:=by
  refine⟨_,VS,_,VS,Jd ?_ t4⟩;refine⟨_,VS,_,VS,_,VS,_,VS,?_⟩;dsimp only[Zg,Jr,eC];refine V8 ih ck e0 λt1 C1 d1 x1 h1 o1=>?_;have e1:=e0.on x1 h1;refine⟨_,VS,_,VS,_,VS,_,VS,?_⟩;dsimp only[Zg,Jr,eC];refine V8 ih ck e1 λt2 C2 d2 x2 h2 o2=>?_;refine⟨_,VS,W0 VS ⟨_,VS,Jd ?_ ?_⟩⟩
  ·obtain⟨ch,hc⟩:=wx (z:="+-*") (n:=3) (x:=x/3) (by decide+kernel) (by decide);refine⟨_,VS,⟨by decide,by decide⟩,by decide,by decide,ch,hc,_,VS,_,VS,ZNB VS,?_⟩;exact q (.does ⟨#[ch]⟩ t1 t2) C2 d2 (x1.trans x2) h2 ⟨by omega,P3 o1 (by omega),P3 o2 (by omega)⟩
  ·obtain⟨ch,hc⟩:=wx (z:="<=") (n:=2) (x:=x/3) (by decide+kernel) (by decide);refine⟨_,VS,⟨by decide,by decide⟩,by decide,by decide,ch,hc,_,VS,_,VS,ZNB VS,?_⟩;exact q (.does ⟨#[ch]⟩ t1 t2) C2 d2 (x1.trans x2) h2 ⟨by omega,P3 o1 (by omega),P3 o2 (by omega)⟩
 refine⟨_,VS,W0 VS ⟨_,VS,Jd ?_ t5⟩⟩;refine⟨_,VS,by decide,Qf VS ⟨_,VS,Jd ?_ t5⟩⟩;refine⟨_,VS,_,VS,_,VS,_,VS,?_⟩;dsimp only[Zg,Jr,eC];refine V8 ih ck e0 λt1 C1 d1 x1 h1 o1=>?_;have e1:=e0.on x1 h1;refine⟨_,VS,_,VS,_,VS,_,VS,_,VS,?_⟩;dsimp only[Zg,Jr,eC];refine V8 ih ck e1 λt2 C2 d2 x2 h2 o2=>?_;refine⟨ZNB VS,?_⟩;exact q (.call t1 t2) C2 d2 (x1.trans x2) h2 ⟨by omega,P3 o1 (by omega),P3 o2 (by omega)⟩
def aC (h:¬x%3=0):∃c,Q7 (Str.ofString "lp").cps.toList (x%3-1)=some c:=by
 have h0:x%3=1\/x%3=2:=by omega
 rcases h0 with e | e<;>rw[e]
 ·exact⟨_,VS⟩
 ·exact⟨_,VS⟩
def sS (ih:Eb k)(e:Env (k+1) C p a b ds ns pl Γ)(q:∀t C' (ds':List Int),Qk p C C'->C' p=some (.lst (ds'.map T.int))->ok 0 (2*k+5) Γ t->Q (tt t) C'):Z9 pr (n+2*k+4) Db [.str kd,.int x,.ref p,.ref a,.ref b,.int ((k+1:Nat):Int)] C Q χ:=by
 refine Ej VS ?_;have e0:=e.dn;refine⟨_,VS,by decide,Qf VS ⟨_,VS,R9 (λ_=>?_) (λhx3=>?_)⟩⟩
 ·refine⟨_,VS,_,VS,_,VS,_,VS,?_⟩;dsimp only[Zg,Jr,eC];refine V8 ih ck e0 λt1 C1 d1 x1 h1 o1=>?_;have e1:=e0.on x1 h1;refine⟨_,VS,_,VS,_,VS,_,VS,_,VS,?_⟩;dsimp only[Zg,Jr,eC];refine V8 ih ck e1 λt2 C2 d2 x2 h2 o2=>?_;have e2:=e1.on x2 h2;refine⟨_,VS,XO _,_,VS,ZNB VS,XO _,_,VS,_,VS,_,VS,_,VS,_,VS,?_⟩;dsimp only[Zg,Jr,eC];refine V8 ih ck e2 λt3 C3 d3 x3 h3 o3=>?_;refine⟨ZNB VS,ZNB VS,ZNB VS,?_⟩;have:=q (km t1 [("No",[],t2),("Yes",[],t3)]) C3 d3 ((x1.trans x2).trans x3) h3 (Af (by omega) (by simp) (λz hz=>?_) (P3 o1 (by omega)) (λz hz=>?_))
  ·rw[Bj] at this;exact this
  ·simp only[ZM,ZN,or_false] at hz
   rcases hz with rfl | rfl
   ·exact⟨Zap.2.symm,SL⟩
   ·exact⟨aG.2.symm,SL⟩
  ·simp only[ZM,ZN,or_false] at hz
   rcases hz with rfl | rfl
   ·exact P3 o2 (by omega)
   ·exact P3 o3 (by omega)
 ·have hx3':¬x%3=0:=by simpa using hx3
  obtain⟨z,hz,hat⟩:=Aa e.hb e.pl (x/3);obtain⟨u,v,hf,hnd,lu,lv⟩:=wZ e.pl hz;have hzu:z≠u:=by simp only[List.nodup_cons,List.mem_cons,not_or] at hnd;exact hnd.1.1
  refine⟨_,VS,_,VS,⟨by decide,by decide⟩,_,VS,_,VS,_,e.hb,xq e.pl,_,_,e.hb,hat,?_⟩;refine oU VS VS e.hb e.pl hf λp2 hp2=>?_;have E1:Ex C (up C p2 (.lst ([u,v].map T.str))):=Ex.new hp2;generalize up C p2 (.lst ([u,v].map T.str))=C1 at E1;have e1:=e.ex E1;obtain⟨ch,hc⟩:=aC hx3';refine⟨_,VS,by decide,by decide,ch,hc,_,VS,_,VS,_,VS,_,VS,?_⟩;dsimp only[Zg,Jr,eC];refine V8 ih ck e1.dn λt1 C2 d2 x2 h2 o2=>?_;have e2:=e1.on x2 h2;refine⟨_,VS,_,VS,?_⟩;dsimp only[Zg,Zb,eC];refine Oi (n:=n+2*k+2) e2.ha e2.hn (e.pl.s z hz) (by have:=e.hl;omega) λp3 ns3 C3 E3 hp3 h3 n3 l3=>?_;refine⟨_,VS,?_⟩;dsimp only[Zg,Zb,eC];refine Oi (n:=n+2*k+2) h3 n3 lu (by have:=e.hl;omega) λp4 ns4 C4 E4 hp4 h4 n4 l4=>?_;have E34:Ex C2 C4:=E3.trans E4;have e4:Env k C4 p p4 b d2 ns4 pl ([z,u]++Γ):=e2.bind E34 (E3.free hp4) h4 (λy hy=>⟨by have:=(n4 y hy).1;simp only[List.mem_cons,List.cons_append,List.nil_append] at this |-;exact or_left_comm.mp this,(n4 y hy).2⟩) (by omega) (λy hy=>List.mem_append_right _ hy);refine⟨_,VS,_,VS,_,VS,_,VS,_,VS,?_⟩;dsimp only[Zg,Jr,eC];refine V8 ih ck e4 λt2 C5 d5 x5 h5 o5=>?_;have X5:Qk p C C5:=((((E1.exB p).trans x2).trans (E34.exB p)).trans x5);have nzu:([z,u]:List Str).Nodup:=by simp[hzu]
  refine⟨_,VS,by decide,Qf VS ⟨_,VS,Jd ?_ ?_⟩⟩
  ·refine⟨_,VS,_,VS,_,VS,ZNB VS,_,VS,ZNB VS,ZNB VS,ZNB VS,?_⟩;have:=q (km t1 [("Pair",[z,u],t2)]) C5 d5 X5 h5 (Af (by omega) (by simp) (λy hy=>?_) (P3 o2 (by omega)) (λy hy=>?_))
   ·rw[Bj] at this;exact this
   ·rw[XQ.mp hy];exact⟨cJ.2.symm,nzu⟩
   ·rw[XQ.mp hy];exact P3 o5 (by omega)
  ·refine⟨_,VS,XO _,_,VS,_,VS,⟨by decide,by decide⟩,_,VS,?_⟩;dsimp only[Zg];have ha5:C5 a=some (.lst (ns.map D9)):=X5 _ _ e.nap e.ha;refine xj (n:=n+2*k+1) ha5 e.hn (by have:=e.hl;omega) λt3 C6 E6 o6=>?_;refine⟨ZNB VS,_,VS,_,VS,ZNB VS,_,VS,ZNB VS,ZNB VS,ZNB VS,?_⟩;have:=q (km t1 [("Nil",[],t3),("Cons",[z,u],t2)]) C6 d5 (X5.trans (E6.exB p)) (E6 _ _ h5) (Af (by omega) (by simp) (λy hy=>?_) (P3 o2 (by omega)) (λy hy=>?_))
   ·rw[Bj] at this;exact this
   ·simp only[ZM,ZN,or_false] at hy
    rcases hy with rfl | rfl
    ·exact⟨oj.2.symm,SL⟩
    ·exact⟨tI.2.symm,nzu⟩
   ·simp only[ZM,ZN,or_false] at hy
    rcases hy with rfl | rfl
    ·exact P3 o6 (by omega)
    ·exact P3 o5 (by omega)
end
open PySem PySem.Spec PyProof.Rows L2 WL
section
variable {C C':Hw}{Q:WK}{χ:WX}{n k:Nat}{p a b:WP}{ds ds':List Int}{ns:List (Str×Str)}{pl Γ:List Str}{kd:Str}{x:Int}
def sj {τr:List (Option T)}(hp:C p=some (.lst (ds.map T.int)))(q:∀d (r:List Int) C1,Qk p C C1->C1 p=some (.lst (r.map T.int))->T4 P D [some (.str kd),some (.ref p),some (.ref a),some (.ref b),some (.int (k:Int)),some (.int d),none,none,none,none,none,none,none] C1):
  U2 P D [some (.str kd),some (.ref p),some (.ref a),some (.ref b),some (.int (k:Int)),none,none,none,none,none,none,none,none] C:=by
 refine⟨_,VS,_,VS,_,hp,decide (((ds.map T.int).length:Int)>0),VS,?_⟩
 cases ds with
 | nil=>exact Ic (YG (by decide)) (q 0 [] C (Qk.refl _ _) hp)
 | cons d r=>
  refine Fc (decide_eq_true (by rw[XI,YF];omega)) ?_;refine⟨_,VS,⟨_,_,VS,hp⟩,_,_,_,0,_,VS,VS,hp,by decide,by decide,bI (Nat.succ_pos _),VS,?_⟩;exact q d r (up C p (.lst (r.map T.int))) (Qk.put (Qk.refl _ _)) Zn
def Pn (ih:Eb k)(hx:x=k)(e:Env k C p a b ds ns pl Γ)(q:∀t C' (ds':List Int),Qk p C C'->C' p=some (.lst (ds'.map T.int))->ok 0 (2*k+3) Γ t->Q (tt t) C'):Z9 pr (n+2*(k+1)+2) Ob [.str kd,.ref p,.ref a,.ref b,.int x] C Q χ:=by
 rw[show n+2*(k+1)+2=(n+1)+2*k+3 by omega];exact V8 ih hx e q
def ja {α:Type}(zs:List α)(y:α)(i:Nat):(zs.take i++y::zs.drop i).Perm (y::zs):=by
 have:=List.perm_middle (a:=y) (l₁:=zs.take i) (l₂:=zs.drop i)
 rwa [List.take_append_drop] at this
def vw {α β:Type}(f:α->β)(l:List α)(y:α)(i:Nat):(l.map f).take i++f y::(l.map f).drop i=(l.take i++y::l.drop i).map f:=by
 rw[XL,YI,List.map_take,List.map_drop]
def si {zs:List (Str×Tm)}(hp:(zs.map (·.1)).Perm ys)(h:ok 0 d (ys++Γ) t):ok 0 d (zs.map (·.1)++Γ) t:=Ac h λx hx=>by
 rcases XS.mp hx with hx | hx
 ·exact QQ _ (hp.mem_iff.mpr hx)
 ·exact XT _ hx
def xg:∀k,Eb k:=by
 intro k
 induction k with
 | zero=>
  intro n C Q χ kd p a b ds ns pl Γ e q;refine K3 VS (sj (k:=0) (τr:=[]) e.hp λd r C1 x1 h1=>?_);refine⟨_,VS,Qf (v:=true) VS ⟨true,VS,Xs (Xs ?_)⟩⟩;refine⟨_,VS,_,VS,⟨by decide,by decide⟩,_,VS,?_⟩;dsimp only[Zg];have e1:=e.on x1 h1;exact xj (n:=n) e1.ha e1.hn (by have:=e.hl;omega) λt C2 E2 o2=>q t C2 r (x1.trans (E2.exB p)) (E2 _ _ h1) (P3 o2 (by omega))
 | succ k ih=>
  intro n C Q χ kd p a b ds ns pl Γ e q;refine K3 VS (sj (k:=k+1) (τr:=[]) e.hp λd r C1 x1 h1=>?_);have e1:=e.on x1 h1;have hl9:ns.length<=100:=by have:=e.hl;omega
  have leaf:Z6 (Z9 pr (n+2*(k+1)+2)) 40 (Zb (Zd 0) (Zb (Zf Vn (Zd 5) (eC (.int 8))) (Zb (Zd 2) Zg))) [some (.str kd),some (.ref p),some (.ref a),some (.ref b),some (.int ((k+1:Nat):Int)),some (.int d),none,none,none,none,none,none,none] C1 Q χ:=by
   refine⟨_,VS,_,VS,⟨by decide,by decide⟩,_,VS,?_⟩;dsimp only[Zg];exact xj (n:=n+2*k+2) e1.ha e1.hn (by omega) λt C2 E2 o2=>q t C2 r (x1.trans (E2.exB p)) (E2 _ _ h1) (P3 o2 (by omega))
  refine⟨_,VS,Qf VS ⟨_,VS,Jd (Xs leaf) ?_⟩⟩;refine⟨_,VS,_,VS,_,h1,Qf VS ⟨_,VS,Jd (Xs leaf) ?_⟩⟩;refine⟨_,VS,by decide,Qf VS ⟨_,VS,Jd leaf ?_⟩⟩;refine⟨_,VS,by decide,?_⟩;refine⟨_,VS,⟨by decide,by decide⟩,?_⟩;have hw0:0<=d%8:=by omega
  have hw1:d%8<8:=by omega
  generalize d%8=w at hw0 hw1;generalize d/8=x;refine⟨_,VS,_,VS,R9 (λ_=>?_) (λc4=>?_)⟩
  ·refine⟨_,VS,_,VS,_,VS,_,VS,_,VS,_,VS,?_⟩;dsimp only[Zg];exact eZ (n:=n) ih e1 λt C2 d2 x2 h2 o2=>q t C2 d2 (x1.trans x2) h2 (P3 o2 (by omega))
  refine⟨_,VS,Qf VS ⟨_,VS,Jd ?_ ?_⟩⟩
  ·refine⟨_,VS,_,VS,_,VS,_,VS,_,VS,_,VS,?_⟩;dsimp only[Zg];exact sS (n:=n) ih e1 λt C2 d2 x2 h2 o2=>q t C2 d2 (x1.trans x2) h2 (P3 o2 (by omega))
  obtain⟨ch,hc⟩:=wx (z:="nlftp") (n:=5) (x:=x) (by decide+kernel) (by decide);refine⟨_,VS,by decide,by decide,ch,hc,?_⟩;generalize (⟨#[ch]⟩:Str)=oth;refine⟨_,VS,Qf VS ⟨_,VS,Jd ?_ ?_⟩⟩
  ·refine⟨_,VS,_,VS,_,VS,_,VS,_,VS,?_⟩;dsimp only[Zg,Jr,eC];refine Pn (n:=n) ih ck e1.dn λt1 C2 d2 x2 h2 o2=>?_;have e2:=e1.dn.on x2 h2;refine⟨_,VS,_,VS,_,VS,_,VS,_,VS,_,VS,?_⟩;dsimp only[Zg,Jr,eC];refine Pn (n:=n) ih ck e2 λt2 C3 d3 x3 h3 o3=>?_;refine⟨ZNB VS,?_⟩;exact q (.first t1 t2) C3 d3 ((x1.trans x2).trans x3) h3 ⟨by omega,P3 o2 (by omega),P3 o3 (by omega)⟩
  obtain⟨z,hz,hat⟩:=Aa e1.hb e1.pl (x/5);have lz:=e1.pl.s z hz;refine⟨_,VS,_,VS,⟨by decide,by decide⟩,_,VS,_,VS,_,e1.hb,xq e1.pl,_,_,e1.hb,hat,?_⟩;refine⟨_,VS,_,VS,_,VS,?_⟩;dsimp only[Zg];refine Oi (n:=n+2*k+3) e1.ha e1.hn lz (by omega) λp2 ns2 C2 E2 hp2 h2 n2 l2=>?_;have e2:=e1.ex E2;refine⟨_,VS,Qf VS ⟨_,VS,Jd ?_ ?_⟩⟩
  ·refine⟨_,VS,_,VS,_,VS,_,VS,_,VS,?_⟩;dsimp only[Zg,Jr,eC];refine Pn (n:=n) ih ck e2.dn λt1 C3 d3 x3 h3 o3=>?_;have e3:Env k C3 p p2 b d3 ns2 pl (z::Γ):=(e1.bind E2 hp2 h2 n2 (by omega) (λy hy=>XV _ hy)).on x3 h3;refine⟨_,VS,_,VS,_,VS,_,VS,_,VS,_,VS,?_⟩;dsimp only[Zg,Jr,eC];refine Pn (n:=n) ih ck e3 λt2 C4 d4 x4 h4 o4=>?_;refine⟨ZNB VS,_,VS,ZNB VS,?_⟩;exact q (.call (.fn z t2) t1) C4 d4 (((x1.trans (E2.exB p)).trans x3).trans x4) h4 ⟨by omega,⟨by omega,lz,P3 o4 (by omega)⟩,P3 o3 (by omega)⟩
  obtain⟨u,v,hf,hnd,lu,lv⟩:=wZ e1.pl hz;refine oS VS VS e2.hb e2.pl hf λp3 hp3=>?_;have E3:Ex C2 (up C2 p3 (.lst ([u,v].map T.str))):=Ex.new hp3;have h3:(up C2 p3 (.lst ([u,v].map T.str))) p3=some (.lst ([u,v].map T.str)):=Zn;generalize up C2 p3 (.lst ([u,v].map T.str))=C3 at E3 h3;refine⟨_,VS,_,VS,_,_,h3,Yl,?_⟩;dsimp only[Zg,Zb,eC];refine Oi (n:=n+2*k+3) (E3 _ _ h2) n2 lu (by omega) λp4 ns4 C4 E4 hp4 h4 n4 l4=>?_;have h34:=E4 _ _ h3;have Jk:∀(p5:WP) (ns5:List (Str×Str)) (C5:Hw) (ys:List Str) (two:Bool),Ex C4 C5->C1 p5=none->C5 p5=some (.lst (ns5.map D9))->tw (ys++Γ) ns5->ns5.length<=ns.length+3->ys=(if two=true then[z,u,v] else[z,u])->(two=decide (x/25%2=0))->
    T5 (Z9 pr (n+2*(k+1)+2)) {nx:=λ_ C'=>Q .non C',rt:=Q,xc:=χ} [some (.str kd),some (.ref p),some (.ref a),some (.ref b),some (.int ((k+1:Nat):Int)),some (.int x),some (.int w),some (.str oth),none,some (.str z),some (.ref p5),some (.ref p3),none] C5:=by
   intro p5 ns5 C5 ys two E5 hp5 h5 n5 l5 hys htw;have E15:Ex C1 C5:=((E2.trans E3).trans E4).trans E5;have e5:Env k C5 p p5 b r ns5 pl (ys++Γ):=e1.bind E15 hp5 h5 n5 l5 (λy hy=>XT _ hy);have h35:=E5 _ _ h34;have p3p:p3≠p:=(cne (E2 _ _ h1) hp3).symm;have ysn:ys.Nodup:=by
    rw[hys]
    cases two with
    | true=>exact hnd
    | false=>
     show([z,u]:List Str).Nodup;simp only[List.nodup_cons,List.mem_cons,List.not_mem_nil,or_false,not_or,not_false_eq_true,List.nodup_nil,and_true] at hnd |-;exact hnd.1.1
   refine⟨_,VS,_,VS,_,VS,_,VS,_,VS,_,VS,?_⟩;dsimp only[Zg,Jr,eC];refine Pn (n:=n) ih ck e5 λt1 C6 d6 x6 h6 o6=>?_;refine⟨ZNB VS,ZNB VS,λp7 hp7=>?_⟩;have n7p:p7≠p:=(cne h6 hp7).symm;have hp75:C5 p7=none:=by
    cases hh:C5 p7 with
    | none=>rfl
    | some o=>have:=x6 _ _ n7p hh;rw[hp7] at this;cases this
   have X7:Qk p C5 (up C6 p7 (.lst [.tup [.str z,tt t1]])):=x6.new hp75;have h7:(up C6 p7 (.lst [.tup [.str z,tt t1]])) p7=some (.lst ([(z,t1)].map yv)):=Zn;have h7p:(up C6 p7 (.lst [.tup [.str z,tt t1]])) p=some (.lst (d6.map T.int)):=by rw[Z0 n7p.symm];exact h6
   generalize up C6 p7 (.lst [.tup [.str z,tt t1]])=C7 at X7 h7 h7p;have e7:=e5.on X7 h7p;have done:∀(zs:List (Str×Tm)) (C9:Hw) (d9:List Int),Qk p C5 C9->C9 p=some (.lst (d9.map T.int))->C9 p7=some (.lst (zs.map yv))->(zs.map (·.1)).Perm ys->1<=zs.length->zs.length<=5->(∀y∈zs,ok 0 (2*k+3) (ys++Γ) y.2)->(∀y∈zs,gl y.1)->
     T6 (Z9 pr (n+2*(k+1)+2)) {nx:=λ_ C'=>Q .non C',rt:=Q,xc:=χ} [some (.str kd),some (.ref p),some (.ref a),some (.ref b),some (.int ((k+1:Nat):Int)),some (.int x),some (.int w),some (.str oth),none,some (.str z),some (.ref p5),some (.ref p3),some (.ref p7)] C9:=by
    intro zs C9 d9 X9 h9 h97 pm hz1 hz5 hzo hzl;have e9:=e5.on X9 h9;refine⟨_,VS,_,VS,_,h97,_,VS,_,VS,_,VS,_,VS,_,VS,?_⟩;dsimp only[Zg,Jr,eC];refine Pn (n:=n) ih ck e9 λt4 Cx dx xx hx ox=>?_;refine⟨ZNB VS,?_⟩;have:=q (ltL zs t4) Cx dx (((x1.trans (E15.exB p)).trans X9).trans xx) hx (qe (by omega) hz1 hz5 (pm.nodup_iff.mpr ysn) hzl (λy hy=>P3 (si pm (hzo y hy)) (by omega)) (P3 (si pm ox) (by omega)));rw[sf] at this;exact this
   refine⟨_,VS,⟨_,_,VS,h7⟩,_,VS,⟨by decide,by decide⟩,by decide,_,VS,_,_,X7 _ _ p3p h35,Yl,_,VS,_,VS,_,VS,_,VS,?_⟩;dsimp only[Zg,Jr,eC];refine Pn (n:=n) ih ck e7 λt2 C8 d8 x8 h8 o8=>?_;have h87:=x8 _ _ n7p h7;have hi0:0<=x/50%2:=by omega
   have hi1:(x/50%2).toNat<=1:=by omega
   refine⟨ZNB VS,_,_,_,_,VS,VS,h87,hi0,by rw[XI];exact hi1,ZNB VS,?_⟩;generalize (x/50%2).toNat=i2 at hi1;have ez:([(z,t1)].map yv).take i2++.tup [.str u,tt t2]::([(z,t1)].map yv).drop i2=([(z,t1)].take i2++(u,t2)::[(z,t1)].drop i2).map yv:=vw yv [(z,t1)] (u,t2) i2;rw[ez];have pm:=ja [(z,t1)] (u,t2) i2;generalize [(z,t1)].take i2++(u,t2)::[(z,t1)].drop i2=zs2 at pm;have X9:Qk p C5 (up C8 p7 (.lst (zs2.map yv))):=(X7.trans x8).new hp75;have h9:(up C8 p7 (.lst (zs2.map yv))) p7=some (.lst (zs2.map yv)):=Zn;have h9p:(up C8 p7 (.lst (zs2.map yv))) p=some (.lst (d8.map T.int)):=by rw[Z0 n7p.symm];exact h8
   generalize up C8 p7 (.lst (zs2.map yv))=C9 at X9 h9 h9p;have l2:zs2.length=2:=pm.length_eq;have pm1:(zs2.map (·.1)).Perm [u,z]:=pm.map _;have ok2:∀y∈zs2,ok 0 (2*k+3) (ys++Γ) y.2/\gl y.1:=λy hy=>by
    have:=pm.mem_iff.mp hy;simp only[ZM,ZN,or_false] at this
    rcases this with rfl | rfl
    ·exact⟨o8,lu⟩
    ·exact⟨o6,lz⟩
   refine⟨_,VS,⟨by decide,by decide⟩,by decide,Qf VS ⟨_,VS,R9 (λhb=>?_) (λhb=>?_)⟩⟩
   ·have h2:two=true:=by rw[htw];exact decide_eq_true (by simpa using hb)
    subst h2;have e9:=e5.on X9 h9p;refine⟨_,VS,⟨_,_,VS,h9⟩,_,VS,⟨by decide,by decide⟩,by decide,_,VS,_,_,X9 _ _ p3p h35,Jc,_,VS,_,VS,_,VS,_,VS,?_⟩;dsimp only[Zg,Jr,eC];refine Pn (n:=n) ih ck e9 λt3 Ca da xa ha oa=>?_;have ha9:=xa _ _ n7p h9;have hj0:0<=x/100%3:=by omega
    have hj1:(x/100%3).toNat<=2:=by omega
    refine⟨ZNB VS,_,_,_,_,VS,VS,ha9,hj0,by rw[XI,l2];exact hj1,by rw[XI,l2];decide,?_⟩;generalize (x/100%3).toNat=i3 at hj1;have ey:(zs2.map yv).take i3++.tup [.str v,tt t3]::(zs2.map yv).drop i3=(zs2.take i3++(v,t3)::zs2.drop i3).map yv:=vw yv zs2 (v,t3) i3;rw[ey];have pn:=ja zs2 (v,t3) i3;generalize zs2.take i3++(v,t3)::zs2.drop i3=zs3 at pn;have l3:zs3.length=3:=by rw[pn.length_eq,YF,l2]
    have pn1:(zs3.map (·.1)).Perm ys:=by
     refine(pn.map _).trans ?_;rw[hys,XY VS,YI];refine(List.Perm.cons v pm1).trans ?_;show[v,u,z].Perm [z,u,v];exact(List.reverse_perm [z,u,v])
    refine done zs3 _ da ((X9.trans xa).new hp75) (by rw[Z0 n7p.symm];exact ha) Zn pn1 (by omega) (by omega) (λy hy=>?_) (λy hy=>?_)
    ·rcases QD.mp (pn.mem_iff.mp hy) with rfl | hy
     ·exact oa
     ·exact(ok2 y hy).1
    ·rcases QD.mp (pn.mem_iff.mp hy) with rfl | hy
     ·exact lv
     ·exact(ok2 y hy).2
   ·have h2:two=false:=by rw[htw];exact decide_eq_false (by simpa using hb)
    subst h2;have pm2:(zs2.map (·.1)).Perm ys:=by
     refine pm1.trans ?_;rw[hys,XX (by decide)];exact(List.reverse_perm [z,u])
    exact done zs2 C9 d8 X9 h9p h9 pm2 (by omega) (by omega) (λy hy=>(ok2 y hy).1) (λy hy=>(ok2 y hy).2)
  have f4:C1 p4=none:=((E2.trans E3)).free hp4;refine⟨_,VS,⟨by decide,by decide⟩,by decide,Qf VS ⟨_,VS,R9 (λhb=>?_) (λhb=>?_)⟩⟩
  ·refine⟨_,VS,_,VS,_,_,h34,Jc,?_⟩;dsimp only[Zg,Zb,eC];refine Oi (n:=n+2*k+3) h4 n4 lv (by omega) λp5 ns5 C5 E5 hp5 h5 n5 l5=>?_;refine Jk p5 ns5 C5 [z,u,v] true E5 (((E2.trans E3).trans E4).free hp5) h5 (λy hy=>⟨?_,(n5 y hy).2⟩) (by omega) VS (by rw[decide_eq_true (by simpa using hb)]);have:=(n5 y hy).1;simp only[List.mem_cons,List.cons_append,List.nil_append] at this |-
   rcases this with h | h | h | h
   ·exact .inr (.inr (.inl h))
   ·exact .inr (.inl h)
   ·exact .inl h
   ·exact .inr (.inr (.inr h))
  ·refine Jk p4 ns4 C4 [z,u] false (Ex.refl _) f4 h4 (λy hy=>⟨?_,(n4 y hy).2⟩) (by omega) VS (by rw[decide_eq_false (by simpa using hb)]);have:=(n4 y hy).1;simp only[List.mem_cons,List.cons_append,List.nil_append] at this |-;exact or_left_comm.mp this
def Zak:Tm:=.call (.call (.nm "each") (.nm "f")) (.nm "t")
def vA:Tm:=.fn "f" (.fn "l" (km (.nm "l") [("Nil",[],G2),("Cons",["h","t"],.shp2 "Cons" (.call (.nm "f") (.nm "h")) Zak)]))
def mJ (h:("each":Str)∈Γ):ok 0 7 Γ vA:=by
 have l1:gl "f":=⟨by decide+kernel,by decide+kernel⟩;have l2:gl "l":=⟨by decide+kernel,by decide+kernel⟩;have hht:(["h","t"]:List Str).Nodup:=by decide+kernel
 refine⟨by decide,l1,by decide,l2,Af (by decide) (by simp) (λz hz=>?_) (List.mem_cons_self) (λz hz=>?_)⟩
 ·simp only[ZM,ZN,or_false] at hz
  rcases hz with rfl | rfl
  ·exact⟨oj.2.symm,SL⟩
  ·exact⟨tI.2.symm,hht⟩
 ·simp only[ZM,ZN,or_false] at hz
  rcases hz with rfl | rfl
  ·exact oj
  ·refine⟨by decide,tI,⟨by decide,?_,?_⟩,by decide,⟨by decide,?_,?_⟩,?_⟩<;>show(_:Str)∈_<;>simp[h]
def kY (q:Q (tt vA) C):Z9 pr (n+1) je [] C Q χ:=by
 refine zX VS ?_;refine⟨ZNB VS,ZNB VS,ZNB VS,ZNB VS,ZNB VS,?_⟩;refine⟨ZNB VS,ZNB VS,ZNB VS,_,VS,ZNB VS,ZNB VS,?_⟩;refine⟨XO _,XO _,ZNB VS,ZNB VS,ZNB VS,_,VS,ZNB VS,ZNB VS,?_⟩;refine⟨ZNB VS,_,VS,ZNB VS,ZNB VS,ZNB VS,?_⟩;have e:tt vA=.tup [.str "fun",.str "f",.tup [.str "fun",.str "l",tt (km (.nm "l") [("Nil",[],G2),("Cons",["h","t"],.shp2 "Cons" (.call (.nm "f") (.nm "h")) Zak)])]]:=rfl;rw[e,Bj] at q;exact q
end
open PySem PySem.Spec PyProof.Rows L2 WL
def ko (x:Str):Prop:=∃c r,x.cps.toList=c::r/\(c=97\/c=98)
def kN (i:Nat):Str:=("k":Str)++Str.ofString (toString (0+(i:Int)))
def Hm (x y:Str):(x++y).cps.toList=x.cps.toList++y.cps.toList:=by
 show(x.cps++y.cps).toList=_;exact Array.toList_append
def vQ {x y:Str}(h:ko x):ko (x++y):=by
 obtain⟨c,r,e,hc⟩:=h;exact⟨c,r++y.cps.toList,by rw[Hm,e];rfl,hc⟩
def m4 (i:Nat):∃r,(kN i).cps.toList=107::r:=by
 unfold kN;rw[Hm];exact⟨(Str.ofString (toString (0+(i:Int)))).cps.toList,VS⟩
def ci:¬ko (kN i):=λ⟨c,r,e,hc⟩=>by
 obtain⟨r',e'⟩:=m4 i;rw[e'] at e;injection e with e _
 omega
def gh {i j:Nat}(h:i<j)(hj:j<3):kN i≠kN j:=by
 have h0:(i=0/\j=1)\/(i=0/\j=2)\/(i=1/\j=2):=by omega
 rcases h0 with⟨rfl,rfl⟩ | ⟨rfl,rfl⟩ | ⟨rfl,rfl⟩<;>decide+kernel
def gg {i:Nat}(hi:i<3):(Str.ofString (toString (0+(i:Int)))).length<=18/\1<=(kN i).length/\(kN i).length<=19:=by
 have h1:=qj (x:=0+(i:Int)) (by omega) (by omega);have h2:(kN i).length=("k":Str).length+(Str.ofString (toString (0+(i:Int)))).length:=YC _ _;have h3:("k":Str).length=1:=by decide+kernel
 omega
structure Cy (i:Nat)(pl:List Str):Prop where
 l:pl.length=i
 n:pl.Nodup
 s:∀x∈pl,(1<=x.length/\x.length<=50)/\(ko x\/∃j,j<i/\x=kN j)
def Cy.add (h:Cy i pl){x:Str}(hl:1<=x.length/\x.length<=50)(hx:ko x\/x=kN i)(hn:x∉pl):Cy (i+1) (pl++[x]):=by
 refine⟨by rw[PX,h.l];rfl,?_,λy hy=>?_⟩
 ·rw[List.nodup_append];refine⟨h.n,by simp,λa ha b hb=>?_⟩;rw[XQ.mp hb];exact λe=>hn (e▸ha)
 ·rcases XS.mp hy with hy | hy
  ·exact⟨(h.s y hy).1,(h.s y hy).2.imp_right λ⟨j,hj,e⟩=>⟨j,by omega,e⟩⟩
  ·rw[XQ.mp hy];exact⟨hl,hx.imp_right λe=>⟨i,by omega,e⟩⟩
def Cy.new (h:Cy i pl)(hi:i<3):kN i∉pl:=λhm=>by
 rcases (h.s _ hm).2 with ha | ⟨j,hj,e⟩
 ·exact ci ha
 ·exact gh hj hi e.symm
def lN:Str:="abcdeghijklmnopqrsuvwxyz0123456789"
section
variable {C C':Hw}{Q:WK}{χ:WX}{n:Nat}{p a b:WP}{ds ds':List Int}{pl Γ:List Str}{kd:Str}{x:Int}
def kW {m:Nat}(hp:C p=some (.lst (ds.map T.int)))(h3:ds.length=m+3)
  (q:∀b pl (ds':List Int) C',Qk p C C'->b≠p->C' b=some (.lst (pl.map T.str))->Ed pl->C' p=some (.lst (ds'.map T.int))->ds'.length=m->Q (.ref b) C'):Z9 pr (n+1) jc [.ref p] C Q χ:=by
 refine zV VS ?_;refine⟨XO _,λb hb=>?_⟩;have nbp:b≠p:=(cne hp hb).symm;refine⟨_,VS,by decide,by decide,?_⟩;refine Hh (n:=3) (λi τ C'=>∃x3 x4 x5 x6,∃(pl:List Str) (ds':List Int),τ=[some (.ref p),some (.ref b),some (.str lN),x3,x4,x5,x6]/\Qk p C C'/\C' b=some (.lst (pl.map T.str))/\Cy i pl/\C' p=some (.lst (ds'.map T.int))/\ds'.length+i=m+3)
  ⟨none,none,none,none,[],ds,VS,(Ex.new hb).exB p,Zn,⟨VS,SL,λx hx=>by cases hx⟩,by rw[Z0 nbp.symm];exact hp,by omega⟩ (λ_=>trivial) ?_ ?_
 ·rintro i τ C' N hi ⟨x3,x4,x5,x6,pl,ds',rfl,hE,hb',hI,hp',hl⟩ hN;obtain⟨d,d1,d2,d3,d4,d5⟩:=rH (ds:=ds') (by omega);refine⟨_,VS,⟨_,_,VS,hp'⟩,_,_,_,VS,VS,hp',d1,?_⟩;rw[d3];have hE2:Qk p C (up C' p (.lst (ds'.dropLast.map T.int))):=hE.put;have hb2:(up C' p (.lst (ds'.dropLast.map T.int))) b=some (.lst (pl.map T.str)):=by rw[Z0 nbp];exact hb'
  have hp2:(up C' p (.lst (ds'.dropLast.map T.int))) p=some (.lst (ds'.dropLast.map T.int)):=Zn;generalize up C' p (.lst (ds'.dropLast.map T.int))=C2 at hE2 hb2 hp2;have hab:(Str.ofString "ab").cps.toList.length=2:=by decide+kernel
  obtain⟨ch,hc,hcm⟩:=K1 (xs:=(Str.ofString "ab").cps.toList) (i:=(0+(i:Int))%2) (YO _ (by decide)) (by rw[hab];exact QC _ (by decide));have hcm':ch=97\/ch=98:=by
   have e:(Str.ofString "ab").cps.toList=[97,98]:=by decide+kernel
   rw[e] at hcm;simpa using hcm
  have hs34:lN.cps.toList.length=34:=by decide+kernel
  have hsl:lN.length<=sizeLine:=by decide+kernel
  obtain⟨sg,hsg⟩:=wx (z:=lN) (n:=34) (x:=d) hs34 (by decide);refine⟨_,VS,by decide,by decide,ch,hc,_,VS,_,VS,by decide,hsl,sg,hsg,Ym (by show 1+1<=100000;decide),?_⟩;have ha0:ko ((⟨#[ch]⟩:Str)++⟨#[sg]⟩):=vQ ⟨ch,[],VS,hcm'⟩;have hl0:((⟨#[ch]⟩:Str)++⟨#[sg]⟩).length=2:=by rw[YC];rfl
  generalize (⟨#[ch]⟩:Str)++⟨#[sg]⟩=x0 at ha0 hl0;have hr0:0<=d/34%7:=by omega
  have hr7:d/34%7<7:=by omega
  refine⟨_,VS,⟨by decide,by decide⟩,by decide,_,VS,by omega,by omega,?_⟩;refine Hh (n:=(d/34%7).toNat) (λj τ C'=>∃x6,∃y:Str,τ=[some (.ref p),some (.ref b),some (.str lN),some (.int (0+(i:Int))),some (.int d),some (.str y),x6]/\C'=C2/\ko y/\y.length=2+j) ⟨x6,x0,VS,VS,ha0,hl0⟩ (λ_=>trivial) ?_ ?_
  ·rintro j τ C' N2 hj ⟨x6,y,rfl,rfl,hay,hly⟩ hN2;obtain⟨sg,hsg⟩:=wx (z:=lN) (n:=34) (x:=d/238+5*(0+(j:Int))*(0+(j:Int))) hs34 (by decide);refine⟨_,VS,_,VS,_,VS,⟨by decide,by decide⟩,_,VS,.inl ⟨by decide,by decide⟩,_,VS,.inl ⟨by omega,by omega⟩,by decide,hsl,sg,hsg,Ym (by show y.length+1<=_;omega),?_⟩;exact hN2 _ _ ⟨_,_,VS,VS,vQ hay,by rw[YC,hly];rfl⟩
  ·rintro τ C' ⟨x6,y,rfl,rfl,hay,hly⟩;have hly':1<=y.length/\y.length<=50:=by omega
   have last:∀(D1:We) (z:Str),D1.nx=N->(1<=z.length/\z.length<=50)->(ko z\/z=kN i)->z∉pl->Ja (N9 Uj Ww (Zd 1) (Zb (Zd 5) Zg)) D1 [some (.ref p),some (.ref b),some (.str lN),some (.int (0+(i:Int))),some (.int d),some (.str z),x6] C':=λD1 z hD hz hza hzn=>by
    refine⟨_,VS,⟨_,_,VS,hb2⟩,_,VS,_,_,_,VS,VS,hb2,Vc (by rw[XI,hI.l];omega),?_⟩;rw[hD];refine hN _ _ ⟨_,_,_,_,pl++[z],ds'.dropLast,VS,?_,?_,hI.add hz hza hzn,by rw[Z0 nbp.symm];exact hp2,by omega⟩
    ·exact λc o hc h=>by
      have:c≠b:=λe=>by subst e;rw[hb] at h;cases h
      rw[Z0 this];exact hE2 _ _ hc h
    ·rw[Zn,XL];rfl
   have kk:∀(D1 D2:We),D1.nx=N->D2.nx=Ja (N9 Uj Ww (Zd 1) (Zb (Zd 5) Zg)) D1->Zw (Zf Wc (eC (.str "k")) (Oq jA (Zb (Zd 3) Zg))) (Yq 5) D2 [some (.ref p),some (.ref b),some (.str lN),some (.int (0+(i:Int))),some (.int d),some (.str y),x6] C':=λD1 D2 hD1 hD2=>by
    have hk:=gg hi;have hk1:("k":Str).length=1:=by decide+kernel
    refine⟨_,VS,.inl ⟨_,VS,lT (by omega) (by omega),Ym (by show("k":Str).length+(Str.ofString (toString (0+(i:Int)))).length<=_;omega),?_⟩⟩;show D2.nx _ _;rw[hD2];exact last D1 (kN i) hD1 (by omega) (.inr VS) (hI.new hi)
   refine⟨_,VS,_,VS,oC hb2 ⟨_,VS,R9 (λ_=>Xs (kk _ _ VS VS)) (λhnin=>?_)⟩⟩;have hnin':y∉pl:=of_decide_eq_false hnin;refine⟨_,VS,W0 VS ⟨_,VS,Jd (kk _ _ VS VS) ?_⟩⟩;exact last _ y VS hly' (.inl hay) hnin'
 ·rintro τ C' ⟨x3,x4,x5,x6,pl,ds',rfl,hE,hb',hI,hp',hl⟩;exact⟨_,VS,q b pl ds' C' hE nbp hb' ⟨hI.l,hI.n,λx hx=>(hI.s x hx).1⟩ hp' (by omega)⟩
def zq {α β:Type}{xs:List α}{f:α->β}{lo hi:Option Int}:vJ (xs.map f) lo hi=(vJ xs lo hi).map f:=by
 unfold vJ;rw[XI,List.map_take,List.map_drop]
def Qk.fresh (h:C p2=none)(e:Qk p2 (up C p2 o) C'):Ex C C':=λa u hu=>e _ _ (cne hu h) (by rw[Z0 (cne hu h)];exact hu)
def sF:Tm:=.fn "n" (.shp2 "Cons" (.nm "n") (.call (.nm "from") (.does "+" (.nm "n") (.num 1))))
def sE (h:("from":Str)∈Γ):ok 0 4 Γ sF:=by
 have l1:gl "n":=⟨by decide+kernel,by decide+kernel⟩;exact⟨by decide,l1,by decide,tI,QP,by decide,XV _ h,by decide,QP,by decide,by decide⟩
def vj {c:Nat}{x y:Str}:((⟨#[c]⟩:Str)++x++y).cps.toList=c::(x.cps.toList++y.cps.toList):=by rw[Hm,Hm];rfl
def Cp {x y:Str}{c c':Nat}{r r':List Nat}(hx:x.cps.toList=c::r)(hy:y.cps.toList=c'::r')(h:c≠c'):x≠y:=λe=>by
 rw[e,hy] at hx;injection hx with hx _
 exact h hx.symm
def sR (hp:C p=some (.lst (ds.map T.int)))(hb:C b=some (.lst (pl.map T.str)))(hpl:Ed pl)(q:∀t C',Ex C C'->ok 0 12 [] t->Qa t=false->Q (tt t) C'):Z9 pr (n+13) Da [.str kd,.ref p,.ref b,.int 4] C Q χ:=by
 refine Ei VS ?_;have h1:=hpl.l;have h3:=hpl.s5
 match pl,h1,hb,hpl,h3 with
 | [u,v,w],_,hb,hpl,h3=>
  have lu:=h3 u (by simp);have lv:=h3 v (by simp);have lc:("c":Str).length=1:=by decide+kernel
  have ld:("d":Str).length=1:=by decide+kernel
  have l0:("0":Str).length=1:=by decide+kernel
  have su:=Txt.slice_le u (some 1) (some 5);have sv:=Txt.slice_le v (some 1) (some 5);refine⟨_,VS,_,_,hb,Yl,_,VS,_,VS,Ym (by omega),Ym (by omega),Ym (by rw[YC];omega),?_⟩;refine⟨_,VS,_,_,hb,Jc,_,VS,_,VS,Ym (by omega),Ym (by omega),Ym (by rw[YC];omega),?_⟩;have hnl:gl (("c":Str)++Txt.slice u (some 1) (some 5)++("0":Str)):=by constructor<;>(rw[YC,YC];omega)
  have hll:gl (("d":Str)++Txt.slice v (some 1) (some 5)++("0":Str)):=by constructor<;>(rw[YC,YC];omega)
  obtain⟨rn,en⟩:∃r,(("c":Str)++Txt.slice u (some 1) (some 5)++("0":Str)).cps.toList=99::r:=⟨_,vj (c:=99)⟩;obtain⟨rl,el⟩:∃r,(("d":Str)++Txt.slice v (some 1) (some 5)++("0":Str)).cps.toList=100::r:=⟨_,vj (c:=100)⟩;generalize ("c":Str)++Txt.slice u (some 1) (some 5)++("0":Str)=nn at hnl en;generalize ("d":Str)++Txt.slice v (some 1) (some 5)++("0":Str)=ln at hll el;obtain⟨rf,ef⟩:∃r,("from":Str).cps.toList=102::r:=⟨_,VS⟩;obtain⟨re,ee⟩:∃r,("each":Str).cps.toList=101::r:=⟨_,VS⟩;have hnd:([("from":Str),nn,"each",ln]:List Str).Nodup:=by
   simp only[List.nodup_cons,List.mem_cons,List.not_mem_nil,or_false,not_or,not_false_eq_true,List.nodup_nil,and_true];exact⟨⟨Cp ef en (by decide),Cp ef ee (by decide),Cp ef el (by decide)⟩,⟨Cp en ee (by decide),Cp en el (by decide)⟩,Cp ee el (by decide)⟩
  refine⟨_,VS,ZNB VS,_,VS,ZNB VS,ZNB VS,λph hph=>?_⟩;have Eh:Ex C (up C ph (.lst ([(nn,("n":Str)),(ln,"l")].map D9))):=Ex.new hph;have hh:(up C ph (.lst ([(nn,("n":Str)),(ln,"l")].map D9))) ph=some (.lst ([(nn,("n":Str)),(ln,"l")].map D9)):=Zn;have ehere:([.tup [.str nn,.str "n"],.tup [.str ln,.str "l"]]:List T)=[(nn,("n":Str)),(ln,"l")].map D9:=rfl;rw[ehere];generalize up C ph (.lst ([(nn,("n":Str)),(ln,"l")].map D9))=C0 at Eh hh;have hp0:=Eh _ _ hp;have hb0:=Eh _ _ hb;have sub:∀(k:Nat) (C1:Hw) (ds1:List Int) (p1:WP),k<=4->Ex C0 C1->C1 p1=none->Env k (up C1 p1 (.lst (ds1.map T.int))) p1 ph b ds1 [(nn,("n":Str)),(ln,"l")] [u,v,w] ["from",nn,"each",ln]:=λk C1 ds1 p1 hk E1 hp1=>by
   refine⟨Zn,by rw[Z0 (cne (E1 _ _ hh) hp1)];exact E1 _ _ hh,λz hz=>?_,by show 2+4*k<=100;omega,by rw[Z0 (cne (E1 _ _ hb0) hp1)];exact E1 _ _ hb0,hpl,cne (E1 _ _ hh) hp1,cne (E1 _ _ hb0) hp1,by simp,by simp⟩;simp only[ZM,ZN,or_false] at hz
   rcases hz with rfl | rfl
   ·exact⟨by simp,hnl⟩
   ·exact⟨by simp,hll⟩
  refine⟨ZNB VS,ZNB VS,ZNB VS,ZNB VS,ZNB VS,?_⟩;refine⟨ZNB VS,_,VS,ZNB VS,ZNB VS,ZNB VS,?_⟩;refine⟨_,VS,_,VS,_,hp0,λp1 hp1=>⟨_,VS,_,VS,?_⟩⟩;dsimp only[Zg,Zb,eC];rw[zq];refine V8 (n:=n+5) (xg 2) VS (sub 2 C0 _ p1 (by decide) (Ex.refl _) hp1) λt1 C1 d1 x1 k1 o1=>?_;have E1:Ex C0 C1:=Qk.fresh hp1 x1;refine⟨_,VS,_,VS,_,VS,_,E1 _ _ hp0,λp2 hp2=>⟨_,VS,_,VS,?_⟩⟩;dsimp only[Zg,Zb,eC];rw[zq];refine V8 (n:=n+5) (xg 2) VS (sub 2 C1 _ p2 (by decide) E1 hp2) λt2 C2 d2 x2 k2 o2=>?_;have E2:Ex C0 C2:=E1.trans (Qk.fresh hp2 x2);refine⟨_,VS,ZNB VS,_,VS,_,VS,ZNB VS,?_⟩;dsimp only[Zb,Zg,eC,Z6,Zs];refine kY (n:=n+11) ?_;refine⟨ZNB VS,_,VS,_,VS,ZNB VS,ZNB VS,?_⟩;refine⟨_,VS,_,VS,_,VS,_,VS,_,E2 _ _ hp0,λp3 hp3=>⟨_,VS,_,VS,_,VS,?_⟩⟩;dsimp only[Zg,Zb,eC];rw[zq];refine V8 (n:=n+1) (xg 4) VS (sub 4 C2 _ p3 (by decide) E2 hp3) λt3 C3 d3 x3 k3 o3=>?_;have E3:Ex C0 C3:=E2.trans (Qk.fresh hp3 x3);refine⟨ZNB VS,?_⟩;have lf:gl "from":=⟨by decide+kernel,by decide+kernel⟩;have le:gl "each":=⟨by decide+kernel,by decide+kernel⟩;have:=q (ltL [("from",sF),(nn,t1),("each",vA),(ln,t2)] t3) C3 (Eh.trans E3) (qe (by decide) (by simp) (by simp) hnd (λz hz=>?_) (λz hz=>?_) (P3 (Ac o3 λx hx=>List.mem_append_left _ hx) (by decide))) VS
  ·rw[sf] at this;exact this
  ·simp only[ZM,ZN,or_false] at hz
   rcases hz with rfl | rfl | rfl | rfl
   ·exact lf
   ·exact hnl
   ·exact le
   ·exact hll
  ·simp only[ZM,ZN,or_false] at hz
   rcases hz with rfl | rfl | rfl | rfl
   ·exact P3 (sE (by simp)) (by decide)
   ·exact P3 (Ac o1 λx hx=>QQ _ hx) (by decide)
   ·exact P3 (mJ (by simp)) (by decide)
   ·exact P3 (Ac o2 λx hx=>QQ _ hx) (by decide)
end
open PySem PySem.Spec PyProof.Rows L2 WL
section
variable {C:Hw}{Q:WK}{χ:WX}{n:Nat}
def oW {ns:List Int}{m:Nat}(h63:ns.length<=63)(hm:m<=100)(q:∀p (ds:List Int),C p=none->ds.length=m->(∀d∈ds,0<=d)->Q (.ref p) (up C p (.lst (ds.map T.int)))):
  Z9 pr (n+1) A8 [.cl (ns.map T.int),.int m] C Q χ:=by
 refine Bh VS ?_;unfold V5;refine⟨XO _,λp hp=>?_⟩;refine⟨_,VS,_,VS,by omega,by omega,?_⟩;refine Hh (λi τ C'=>∃x3 x4,∃ds:List Int,τ=[some (.cl (ns.map T.int)),some (.int m),some (.ref p),x3,x4]/\C'=up C p (.lst (ds.map T.int))/\ds.length=i/\∀d∈ds,0<=d) ⟨none,none,[],VS,VS,VS,by simp⟩ (λ_=>trivial) ?_ ?_
 ·rintro i τ C' N hi ⟨x3,x4,ds,rfl,rfl,hd,hn⟩ hN;have hlen:((ns.map T.int).length:Int)=(ns.length:Int):=by rw[XI]
  have fin:∀(u:Int) (D':We),0<=u->D'.nx=N->Ja (N9 Uj Ww (Zd 2) (Zb (Zf Wc (Zd 4) (Zf Hq (eC (.int 7919)) (Zf Vn (Zd 3) (Oq lw (Zb (eC (.int 1)) (Zb (Oq O9 (Zb (Zd 0) Zg)) Zg)))))) Zg)) D' [some (.cl (ns.map T.int)),some (.int m),some (.ref p),some (.int (0+i)),some (.int u)] (up C p (.lst (ds.map T.int))):=λu D' hu hD=>by
   refine⟨_,VS,⟨_,_,VS,Zn⟩,_,VS,_,VS,_,VS,_,VS,_,_,VS,⟨by split<;>omega,by split<;>omega⟩,.inl ⟨by decide,by decide⟩,_,_,_,VS,VS,Zn,Vc (by rw[XI];omega),?_⟩;have hdv:(0:Int)<=(0+(i:Int))/(if ((ns.map T.int).length:Int)>1 then((ns.map T.int).length:Int) else 1):=Int.ediv_nonneg (by omega) (by split<;>omega);rw[hD];generalize (0+(i:Int))/(if ((ns.map T.int).length:Int)>1 then((ns.map T.int).length:Int) else 1)=t at hdv |-;refine hN _ _ ⟨_,_,ds++[u+7919*t],VS,?_,by rw[PX,hd];rfl,?_⟩
   ·rw[wM,XL];rfl
   ·intro x hx
    rcases XS.mp hx with hx | hx
    ·exact hn x hx
    ·rw[XQ.mp hx];omega
  refine⟨_,VS,_,VS,decide (((ns.map T.int).length:Int)>0),VS,?_⟩;by_cases c:((ns.map T.int).length:Int)>0
  ·refine Fc (decide_eq_true c) ?_;obtain⟨d,h1,h2⟩:=pP (ds:=ns) (i:=(0+(i:Int))%((ns.map T.int).length:Int)) (YO _ (by omega)) (by rw[hlen];exact QC _ (by omega));exact⟨_,VS,_,VS,_,VS,_,VS,c,_,h1,⟨by decide,by decide,by decide⟩,by decide,fin _ _ (YO d (b:=10^Int.toNat 18) (by decide)) VS⟩
  ·exact Ic (YG c) (fin 0 _ (XW _) VS)
 ·rintro τ C' ⟨x3,x4,ds,rfl,rfl,hd,hn⟩;exact⟨_,VS,q p ds hp hd hn⟩
end
def qW {D m:Int}(hm:m<=1000)(ho:ok 0 d [] t)(hv:Qa t=false)(h:D<=0):(fin t D m).k=0/\(fin t D m).c=0/\(fin t D m).f=0:=by
 obtain⟨n,q⟩:=Bw (D:=D) hm ho hv;have h1:one (A5 t D)=some {A5 t D with S:=[],U:=(A5 t D).U++[("?":Str)]}:=by
  rw[Gq VS rfl];show some (if D<=0 then _ else _)=_;rw[XY h];rfl
 have h2:one {A5 t D with S:=[],U:=(A5 t D).U++[("?":Str)]}=some {A5 t D with S:=[],U:=(A5 t D).U++[("?":Str)],e:=.told (Txt.join "" ((A5 t D).U++[("?":Str)]))}:=Gq VS VS;have r:=wW q (.one h1 (.one h2 (.out (Ab rfl) (by rintro⟨z,_⟩;cases z))));rw[r];exact⟨VS,VS,VS⟩
def mI (h:(ew e=="told")=true):∃x,e=.told x:=by
 cases e with
 | no=>revert h;show(("spent":Str)=="told")=true->_;intro z;exact absurd z (by decide+kernel)
 | told x=>exact⟨x,VS⟩
 | stop x=>revert h;show(("stop":Str)=="told")=true->_;intro z;exact absurd z (by decide+kernel)
 | stuck=>revert h;show(("stuck":Str)=="told")=true->_;intro z;exact absurd z (by decide+kernel)
section
variable {C:Hw}{x0 x1 x2 x5 x6 x8 x9:Option T}{deep Jz:Int}{t:Tm}{DD:We}
def kL (hD:DD.rt=λv _=>v=T.bl true)(ho:ok 0 18 [] t)(hv:Qa t=false)(h0:0<=Jz)(hl:Jz<=deep):
  w_law_t4 (Z9 pr 59) DD [x0,x1,x2,some (.int deep),some (.int Jz),x5,x6,some (tt t),x8,x9,none,none] C:=by
 refine⟨_,VS,_,VS,?_⟩;dsimp only[Zg,Zb,eC,List.cons_append,List.nil_append];refine lP (n:=29) (d:=18) ho hv (by decide) λpw C1 E1 _ _=>?_;refine⟨_,VS,_,Yl,ml VS ⟨_,VS,R9 (λb1=>?_) (λb1=>?_)⟩⟩
 ·show DD.rt _ _;rw[hD]
 obtain⟨x,hx⟩:=mI (by rw[Bool.not_eq_false'] at b1;exact b1);obtain⟨v,hg,hp,e1,e2,hk⟩:=jQ (by decide) ho hv hx h0 hl;refine⟨_,VS,_,VS,?_⟩;dsimp only[Zg,Zb,eC,List.cons_append,List.nil_append];refine lP (n:=29) (d:=18) ho hv (by decide) λpp C2 E2 _ _=>?_;refine⟨_,VS,_,Yl,ml (v:=true) (by rw[e2];exact(by decide+kernel:(("told":Str)=="told")=true)) ⟨_,VS,Jh ?_⟩⟩;refine⟨_,VS,_,V0,_,Yl,_,VS,_,V0,_,Yl,_,VS,Ic (YG (by omega)) ?_⟩;refine⟨_,VS,_,Jc,_,VS,true,aX,Jh ?_⟩;have w1:ex (fin t deep 70).e=Nt v:=by rw[hx];exact e1
 have w2:ex (fin t Jz 70).e=Nt (Rm Jz.toNat v):=by rw[e2];rfl
 have last:w_law_t1 (Z9 pr 59) DD [x0,x1,x2,some (.int deep),some (.int Jz),x5,x6,some (tt t),x8,x9,some (ma (fin t deep 70) pw),some (ma (fin t Jz 70) pp)] C2:=by
  refine⟨_,VS,_,Jc,_,VS,_,Jc,_,VS,?_⟩;dsimp only[Zg];rw[w1];refine dh (n:=58) hg hp h0 λC3 _=>?_;refine cw (v:=true) (by rw[w2];exact XU _) ?_;rw[hD]
 refine⟨_,VS,Qf VS ⟨_,VS,R9 (λb2=>?_) (λb2=>Jh last)⟩⟩;have hl0:Jz=0:=eq_of_beq b2;obtain⟨z1,z2,z3⟩:=qW (m:=70) (by decide) ho hv (Int.le_of_eq hl0);refine⟨_,VS,_,V0,ZNB VS,true,?_,_,VS,Jh last⟩;rw[z1,z2,z3];refine .inl ⟨?_,?_,?_⟩
 ·decide+kernel
 ·decide+kernel
 ·decide+kernel
end
def law_true (ns:List Int)(h63:ns.length<=63):Z9 pr 60 cr [.cl (ns.map T.int)] (λ_=>none) (λv _=>v=.bl true) (λ_ _=>False):=by
 refine fR VS ?_;refine⟨_,VS,?_⟩;dsimp only[Zg,Zb,eC];refine oW (n:=58) (m:=27) h63 (by decide) λp ds hp hl hn=>?_;refine⟨_,VS,?_⟩;dsimp only[Zg];refine kW (n:=58) (m:=24) Zn hl λb pl d1 C1 x1 nb hb hpl hp1 hl1=>?_;obtain⟨y1,a1,_,a3,a4,_⟩:=rH (ds:=d1) (by omega);refine⟨_,VS,⟨_,_,VS,hp1⟩,_,_,_,VS,VS,hp1,a1,by decide,?_⟩;rw[a3];obtain⟨y2,b1,_,b3,b4,_⟩:=rH (ds:=d1.dropLast) (by omega);refine⟨_,VS,⟨_,_,VS,Zn⟩,_,_,_,VS,VS,Zn,b1,_,VS,by omega,?_⟩;rw[b3,wM];obtain⟨y3,c1,_,c3,c4,_⟩:=rH (ds:=d1.dropLast.dropLast) (by omega);obtain⟨ch,hc⟩:=wx (z:="llplnt") (n:=6) (x:=y3) (by decide+kernel) (by decide);refine⟨_,VS,⟨_,_,VS,Zn⟩,_,_,_,VS,VS,Zn,c1,by decide,by decide,ch,hc,?_⟩;rw[c3,wM];obtain⟨y4,e1,_,e3,e4,_⟩:=rH (ds:=d1.dropLast.dropLast.dropLast) (by omega);refine⟨_,VS,⟨_,_,VS,Zn⟩,_,_,_,VS,VS,Zn,e1,?_⟩;rw[e3,wM];have hb2:(up C1 p (.lst (d1.dropLast.dropLast.dropLast.dropLast.map T.int))) b=some (.lst (pl.map T.str)):=by rw[Z0 nb];exact hb
 refine⟨_,VS,_,VS,_,VS,?_⟩;dsimp only[Zg,Zb,eC];refine sR (n:=46) Zn hb2 hpl λt C2 E2 ho hv=>?_;have hd0:0<=y1%7:=by omega
 have hd6:y1%7<=6:=by omega
 have hl0:0<=y2%(y1%7+1):=YO _ (by omega);have hl6:y2%(y1%7+1)<=y1%7:=by have:=QC y2 (show 0<y1%7+1 by omega);omega
 generalize y2%(y1%7+1)=Jz at hl0 hl6;generalize y1%7=deep at hd0 hd6 hl6;have hb18:(10:Int)^Int.toNat 18=big:=by decide+kernel
 have hbig:(0:Int)<big:=by decide
 refine⟨_,VS,by decide,_,VS,by omega,by omega,?_⟩;refine Hh (λi τ C'=>C'=C2/\∃t x8 x9,τ=[some (.cl (ns.map T.int)),some (.ref p),some (.ref b),some (.int deep),some (.int Jz),some (.str ⟨#[ch]⟩),some (.int y4),some (tt t),x8,x9,none,none]/\ok 0 (12+i) [] t/\Qa t=false) ⟨VS,t,none,none,VS,ho,hv⟩ (λ_=>trivial) ?_ ?_
 ·rintro i τ C' N hi ⟨rfl,t,x8,x9,rfl,ho,hv⟩ hN;have hi7:i<7:=by omega
  have hM:∀{x:Int},tE x 982451653:=.inr ⟨by decide,by decide⟩;refine⟨_,VS,_,VS,⟨by omega,by omega⟩,hM,⟨by decide,by decide,by decide⟩,by decide,ZNB VS,?_⟩;rw[hb18];have hv0:0<=y4/(7+(0+(i:Int)))*982451653%big:=YO _ (by omega);have hv1:y4/(7+(0+(i:Int)))*982451653%big<big:=QC _ hbig;generalize y4/(7+(0+(i:Int)))*982451653%big=v at hv0 hv1;have hC3:tE 3 (0+(i:Int)):=.inl ⟨by decide,by decide⟩;have ok1:∀{c:Str} {a b:Tm},(cl c/\ar c=2)->ok 0 (12+i) [] a->ok 0 (12+i) [] b->ok 0 (12+(i+1)) [] (.shp2 c a b):=λh ha hb=>⟨by omega,h,ha,hb⟩;refine⟨_,VS,_,VS,hC3,⟨by omega,by omega⟩,by decide,Qf VS ⟨_,VS,R9 (λb1=>?_) (λb1=>?_)⟩⟩
  ·refine⟨_,VS,_,VS,ZNB VS,ZNB VS,?_⟩;exact hN _ _ ⟨VS,.shp2 "Pair" t (.num v),_,_,VS,ok1 cJ ho ⟨hv0,hv1⟩,VS⟩
  refine⟨_,VS,_,VS,hC3,⟨by omega,by omega⟩,by decide,Qf VS ⟨_,VS,R9 (λb2=>?_) (λb2=>?_)⟩⟩
  ·refine⟨_,VS,ZNB VS,ZNB VS,ZNB VS,ZNB VS,_,VS,ZNB VS,ZNB VS,?_⟩;exact hN _ _ ⟨VS,.shp2 "Cons" (.shp2 "Cons" (.num v) (.shp0 "Nil")) t,_,_,VS,ok1 tI ⟨by omega,tI,⟨hv0,hv1⟩,oj⟩ ho,VS⟩
  ·refine⟨_,VS,_,VS,ZNB VS,ZNB VS,?_⟩;exact hN _ _ ⟨VS,.shp2 "Cons" (.num v) t,_,_,VS,ok1 tI ⟨hv0,hv1⟩ ho,VS⟩
 ·rintro τ C' ⟨rfl,t,x8,x9,rfl,ho,hv⟩;exact kL VS (Xw (XE _) ho (by omega)) hv hl0 hl6
end K36
open PySem PySem.W PyProof.Rows
namespace PySem.W.Fast
def tw8078965300533938996:=0
def tw5116349028287168812:=0
def tw12283416700056347769:=0
def tw18299354611415436536:=0
def tw14355877281672713731:=0
def tw7116190482377115428:=0
def tw8323253468562232230:=0
def tw8874873238296943676:=0
def tw9136616889211490025:=0
def tw4322268526597236085:=0
def tw9474548944773839758:=0
def tw17727830980858585853:=0
def tw13989399477367797337:=0
def tw2511912451728074571:=0
def tw9175774236367808601:=0
def tw5094045114900500006:=0
def tw11591679578836142813:=0
def tw964502115119531061:=0
def tw12387154777875444425:=0
def tw11306183782550978958:=0
def tw10834248529472698139:=0
def tw9772762592859811352:=0
def tw16414766793168122233:=0
def tw14194397548287605048:=0
def tw690864630689405036:=0
def tw10813323258959838381:=0
def tw3480008481681222439:=0
def tw6580396563548070884:=0
def tw8563100477314919006:=0
def tw14439432859135592590:=0
def tw3054420329049114030:=0
def tw5536910971225276711:=0
def tw2761118267309085312:=0
def tw139800813870075093:=0
def tw10822805959195637902:=0
def tw8987054363363554733:=0
def tw6775256454101944321:=0
def tw9981388148584988524:=0
def tw3435049182544189104:=0
def tw2007843748081910819:=0
def tw18083934460805354908:=0
def tw10144699171940876665:=0
def tw11766285190506243172:=0
def tw11594605048361472674:=0
def tw11287238122524128353:=0
def tw10805727292996643499:=0
def tw16203666667609515783:=0
def tw1263701879762987047:=0
def tw5983316936138201003:=0
def tw8261198137207462940:=0
def tw1277363857131755353:=0
def tw2937224003664266788:=0
def tw11302788933719379712:=0
def tw13141362811056584393:=0
def tw2166810107200479265:=0
def tw12850526561773304895:=0
def tw10640836548724611272:=0
def tw5538016684268651407:=0
def tw11323525031849922325:=0
def tw10969795311481746248:=0
def tw1561253961621321648:=0
def tw14348051753754467847:=0
def tw32861879431129007:=0
def tw4981312837730575473:=0
def tw11727894028308501525:=0
def tw12514716696524076230:=0
def tw9521989211840793358:=0
def tw10429393094338954688:=0
def tw1548321827304846657:=0
def tw7302941712682165864:=0
def tw15732201879278266988:=0
def tw10491078815704738857:=0
def tw3400572031646236344:=0
def tw17215726357913325798:=0
def tw13210127383759673934:=0
def tw4997265014412378689:=0
def tw4870534160060384721:=0
def tw3128293944096325753:=0
def tw4186999140012578107:=0
def tw9125681695945614848:=0
def tw12882701364204860648:=0
def tw11640680737823987994:=0
def tw6031744666756870508:=0
def tw919222294660685912:=0
def tw2983765198403023261:=0
def tw1152895685058794278:=0
def tw8301329738295987230:=0
def tw869082955304242846:=0
def tw5060347885451182392:=0
def tw13998995127729999228:=0
def tw2872980205853270704:=0
def tw11874111939565375178:=0
def tw14033431503178225583:=0
def tw1105452090560997193:=0
def tw6401178427127093563:=0
def tw18047486355805327986:=0
def tw16286518334868267362:=0
def tw9904070339678383363:=0
def tw9390664740090176863:=0
def tw4318673268857462464:=0
def tw17081640052904835818:=0
def tw4096768907803740759:=0
def tw6499467400979967204:=0
def tw14088412947663070223:=0
def tw13625862380094299642:=0
def tw7300787756277078430:=0
def tw8957341337615153784:=0
def tw2486654314771413310:=0
def tw10872693361257939669:=0
def tw18189106396392983562:=0
def tw12144109146754115464:=0
def tw5100056708682122315:=0
end PySem.W.Fast
def PySem.W.Fast.tw2694559274000908596:PySem.Program:=RT
def PySem.W.Fast.te2694559274000908596:RT=PySem.W.Fast.tw2694559274000908596:=rfl
set_option maxRecDepth 100000 in
set_option maxHeartbeats 0 in
theorem PySem.Challenge.cw_idlegraph_k36_answers_cut_holds : PySem.Challenge.rw_idlegraph_k36_answers_cut.Holds := by
 w_on;o_law;k_head;(case hw=>w_witness2)
 k_fill
 refine L2.walk_ofK (l:=PySem.Challenge.rw_idlegraph_k36_answers_cut) (n:=63) (k:=60) (x:="_law_script") (CX:=L2.CX0) (sp:=λK=>WL.spW K K36.pr 60 48) rfl (by decide) rfl ⟨rfl,by decide,by decide⟩ (λw h Y=>PySem.W.kIn_of Y) ?F (λK H a ns hl hO hS=>WL.law_sp hO hS (K36.law_true ns hl)) (λ_ _ _ _ z=>z)
 case F=>
  intro w mg fa h KX G hmg
  refine' K36.all_mk KX G hmg ?Qa ?Qb ?Qc ?Qd ?Qe ?Qf ?Qg ?Qh ?Qi ?Qj ?Qk ?Ql ?Qm ?Qn ?Qo ?Qp ?Qq ?Qr ?Qs ?Qt ?Qu ?Qv ?Qw ?Qx ?Qy ?Qz ?Q0 ?Q1 ?Q2 ?Q3 ?Q4 ?Q5 ?Q6 ?Q7 ?Q8 ?Q9 ?Ra ?Rb ?Rc ?Rd ?Re ?Rf ?Rg ?Rh ?Ri ?Rj ?Rk ?Rl ?Rm ?Rn ?Ro ?Rp ?Rq ?Rr ?Rs ?Rt ?Ru ?Rv ?Rw ?Rx ?Ry ?Rz ?R0 ?R1 ?R2 ?R3 ?R4 ?R5 ?R6 ?R7 ?R8 ?R9 ?Sa ?Sb ?Sc ?Sd ?Se ?Sf ?Sg ?Sh ?Si ?Sj ?Sk ?Sl ?Sm ?Sn ?So ?Sp ?Sq ?Sr ?Ss ?St ?Su ?Sv ?Sw ?Sx ?Sy ?Sz ?S0 ?S1 ?S2 ?S3 ?S4 ?S5 ?S6 ?S7 ?S8 ?S9 ?Ta ?Tb ?Tc ?Td ?Te ?Tf ?Tg ?Th ?Ti ?Tj ?Tk ?Tl ?Tm ?Tn ?To ?Tp ?Tq ?Tr ?Ts ?Tt ?Tu ?Tv ?Tw ?Tx ?Ty ?Tz ?T0 ?T1 ?T2 ?T3 ?T4 ?T5 ?T6 ?T7 ?T8 ?T9 ?Ua ?Ub ?Uc ?Ud ?Ue ?Uf ?Ug ?Uh ?Ui ?Uj ?Uk ?Ul ?Um ?Un ?Uo ?Up ?Uq ?Ur ?Us ?Ut ?Uu ?Uv ?Uw ?Ux ?Uy ?Uz ?U0 ?U1 ?U2 ?U3 ?U4 ?U5 ?U6 ?U7 ?U8 ?U9 ?Va ?Vb ?Vc ?Vd ?Ve ?Vf ?Vg ?Vh ?Vi ?Vj ?Vk ?Vl ?Vm ?Vn ?Vo ?Vp ?Vq ?Vr ?Vs ?Vt ?Vu ?Vv ?Vw ?Vx ?Vy ?Vz ?V0 ?V1 ?V2 ?V3 ?V4 ?V5 ?V6 ?V7 ?V8 ?V9 ?Wa ?Wb ?Wc ?Wd ?We ?Wf ?Wg ?Wh ?Wi ?Wj ?Wk ?Wl ?Wm ?Wn ?Wo ?Wp ?Wq ?Wr ?Ws ?Wt ?Wu ?Wv ?Ww ?Wx ?Wy ?Wz ?W0 ?W1 ?W2 ?W3 ?W4 ?W5 ?W6 ?Na ?W7 ?W9 ?W8
  case Qa=>k_is
  case Qb=>k_is
  case Qc=>k_is
  case Qd=>k_is
  case Qe=>k_is
  case Qf=>k_is
  case Qg=>k_is
  case Qh=>k_is
  case Qi=>k_is
  case Qj=>k_is
  case Qk=>k_is
  case Ql=>k_is
  case Qm=>k_is
  case Qn=>k_is
  case Qo=>k_is
  case Qp=>k_is
  case Qq=>k_is
  case Qr=>k_is
  case Qs=>k_is
  case Qt=>k_is
  case Qu=>k_is
  case Qv=>k_is
  case Qw=>k_is
  case Qx=>k_is
  case Qy=>k_is
  case Qz=>k_is
  case Q0=>k_is
  case Q1=>k_is
  case Q2=>k_is
  case Q3=>k_is
  case Q4=>k_is
  case Q5=>k_is
  case Q6=>k_is
  case Q7=>k_is
  case Q8=>k_is
  case Q9=>k_is
  case Ra=>k_is
  case Rb=>k_is
  case Rc=>k_is
  case Rd=>k_is
  case Re=>k_is
  case Rf=>k_is
  case Rg=>k_is
  case Rh=>k_is
  case Ri=>k_is
  case Rj=>k_is
  case Rk=>k_is
  case Rl=>k_is
  case Rm=>k_is
  case Rn=>k_is
  case Ro=>k_is
  case Rp=>k_is
  case Rq=>k_is
  case Rr=>k_is
  case Rs=>k_is
  case Rt=>k_is
  case Ru=>k_is
  case Rv=>k_is
  case Rw=>k_is
  case Rx=>k_is
  case Ry=>k_is
  case Rz=>k_is
  case R0=>k_is
  case R1=>k_is
  case R2=>k_is
  case R3=>k_is
  case R4=>k_is
  case R5=>k_is
  case R6=>k_is
  case R7=>k_is
  case R8=>k_is
  case R9=>k_is
  case Sa=>k_is
  case Sb=>k_is
  case Sc=>k_is
  case Sd=>k_is
  case Se=>k_is
  case Sf=>k_is
  case Sg=>k_is
  case Sh=>k_is
  case Si=>k_is
  case Sj=>k_is
  case Sk=>k_is
  case Sl=>k_is
  case Sm=>k_is
  case Sn=>k_is
  case So=>k_is
  case Sp=>k_is
  case Sq=>k_is
  case Sr=>k_is
  case Ss=>k_is
  case St=>k_is
  case Su=>k_is
  case Sv=>k_is
  case Sw=>k_is
  case Sx=>k_is
  case Sy=>k_is
  case Sz=>k_is
  case S0=>k_is
  case S1=>k_is
  case S2=>k_is
  case S3=>k_is
  case S4=>k_is
  case S5=>k_is
  case S6=>k_is
  case S7=>k_is
  case S8=>k_is
  case S9=>k_is
  case Ta=>k_is
  case Tb=>k_is
  case Tc=>k_is
  case Td=>k_is
  case Te=>k_is
  case Tf=>k_is
  case Tg=>k_is
  case Th=>k_is
  case Ti=>k_is
  case Tj=>k_is
  case Tk=>k_is
  case Tl=>k_is
  case Tm=>k_is
  case Tn=>k_is
  case To=>k_is
  case Tp=>k_is
  case Tq=>k_is
  case Tr=>k_is
  case Ts=>k_is
  case Tt=>k_is
  case Tu=>k_is
  case Tv=>k_is
  case Tw=>k_is
  case Tx=>k_is
  case Ty=>k_is
  case Tz=>k_is
  case T0=>k_is
  case T1=>k_is
  case T2=>k_is
  case T3=>k_is
  case T4=>k_is
  case T5=>k_is
  case T6=>k_is
  case T7=>k_is
  case T8=>k_is
  case T9=>k_is
  case Ua=>k_is
  case Ub=>k_is
  case Uc=>k_is
  case Ud=>k_is
  case Ue=>k_is
  case Uf=>k_is
  case Ug=>k_is
  case Uh=>k_is
  case Ui=>k_is
  case Uj=>k_is
  case Uk=>k_is
  case Ul=>k_is
  case Um=>k_is
  case Un=>k_is
  case Uo=>k_is
  case Up=>k_is
  case Uq=>k_is
  case Ur=>k_is
  case Us=>k_is
  case Ut=>k_is
  case Uu=>k_is
  case Uv=>k_is
  case Uw=>k_is
  case Ux=>k_is
  case Uy=>k_is
  case Uz=>k_is
  case U0=>k_is
  case U1=>k_is
  case U2=>k_is
  case U3=>k_is
  case U4=>k_is
  case U5=>k_is
  case U6=>k_is
  case U7=>k_is
  case U8=>k_is
  case U9=>k_is
  case Va=>k_is
  case Vb=>k_is
  case Vc=>k_is
  case Vd=>k_is
  case Ve=>k_is
  case Vf=>k_is
  case Vg=>k_is
  case Vh=>k_is
  case Vi=>k_is
  case Vj=>k_is
  case Vk=>k_is
  case Vl=>k_is
  case Vm=>k_is
  case Vn=>k_is
  case Vo=>k_is
  case Vp=>k_is
  case Vq=>k_is
  case Vr=>k_is
  case Vs=>k_is
  case Vt=>k_is
  case Vu=>k_is
  case Vv=>k_is
  case Vw=>k_is
  case Vx=>k_is
  case Vy=>k_is
  case Vz=>k_is
  case V0=>k_is
  case V1=>k_is
  case V2=>k_is
  case V3=>k_is
  case V4=>k_is
  case V5=>k_is
  case V6=>k_is
  case V7=>k_is
  case V8=>k_is
  case V9=>k_is
  case Wa=>k_is
  case Wb=>k_is
  case Wc=>k_is
  case Wd=>k_is
  case We=>k_is
  case Wf=>k_is
  case Wg=>k_is
  case Wh=>k_is
  case Wi=>k_is
  case Wj=>k_is
  case Wk=>k_is
  case Wl=>k_is
  case Wm=>k_is
  case Wn=>k_is
  case Wo=>k_is
  case Wp=>k_is
  case Wq=>k_is
  case Wr=>k_is
  case Ws=>k_is
  case Wt=>k_is
  case Wu=>k_is
  case Wv=>k_is
  case Ww=>k_is
  case Wx=>k_is
  case Wy=>k_is
  case Wz=>k_is
  case W0=>k_is
  case W1=>k_is
  case W2=>k_is
  case W3=>k_is
  case W4=>k_is
  case W5=>k_is
  case W6=>k_is
  case W7=>k_is
  case W8=>k_is
  case W9=>k_is
  case Na=>k_is
