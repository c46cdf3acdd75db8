import PyProof.Rows.All
import Wide.All
import OpenK.AllK
import Wide.FinOn
import Lean
import PyProof.EqAt
import PyProof.EqKinds
import PyProof.TupleCall
import KE.KRevIter
import KE.KDictList
import PyProof.ZipIter
import PyProof.Draws
import PyProof.DictWalks
import PyProof.AttrMiss
import PyProof.FactsAll.zip_1
import KE.KDictOf
import PyProof.Rows.FStr
import PyProof.AutoSeq1
import PyProof.EnumMake
import PyProof.CallType
import PyProof.Rows.CallKwBuiltin
import PyProof.DictUpdate
import PyProof.NoPylong
import PyProof.Rows.StrIntSpec
import PySem.Challenge.RW_idlegraph_k38_whole_by_names
set_option Elab.async false
set_option linter.all false
set_option maxRecDepth 100000
set_option maxHeartbeats 4000000
set_option genSizeOf false
set_option tactic.hygienic false
set_option bootstrap.genMatcherCode false
set_option compiler.extract_closed false
def XA:=@PySem.wpAny_bind
def XB:=@PySem.wpAny_pure
def XC:=@PySem.Heap.get?_push_of_some
def XD:=@PySem.Heap.lt_size
def XE:=@Nat.le_refl
def XF:=@PySem.Heap.get?_push_size
def XG:=@Nat.lt_of_lt_of_le
def XH:=@Nat.ne_of_lt
def XI:=@List.length_map
def XJ:=@List.size_toArray
def XL:=@List.map_append
def XM:=@List.getElem?_map
def XN:=@Nat.le_trans
def XO:=@Nat.zero_le
def XQ:=@List.mem_singleton
def XR:=@List.mem_map
def XS:=@List.mem_append
def XT:=@List.mem_append_right
def XU:=@beq_self_eq_true
def XV:=@List.mem_cons_of_mem
def XW:=@Int.le_refl
def XX:=@if_neg
def XY:=@if_pos
def XZ:=@PySem.F.plainAttrs_list
def YA:=@PySem.F.type_list_append
def YB:=@PySem.F.slot_list_append
def YC:=@PySem.Str.length_append
def YD:=@List.take_add_one
def YE:=@List.map_map
def YF:=@List.length_cons
def YG:=@decide_eq_false
def YH:=@Option.some.inj
def YI:=@List.map_cons
def YJ:=@Bool.false_ne_true
def YK:=@List.append_nil
def YL:=@List.append_assoc
def YM:=@List.length_take
def YN:=@List.getElem_mem
def YO:=@Int.emod_nonneg
def ZNB (h:Nat.ble a b=true):a<=b:=Nat.le_of_ble_eq_true h
def ZM {α:Type}{x a:α}{l:List α}:x∈a::l↔x=a\/x∈l:=List.mem_cons
def ZN {α:Type}{x:α}:x∈([]:List α)↔False:=⟨List.not_mem_nil,False.elim⟩
abbrev WY:=PySem.W.Frag
abbrev WW:=PySem.Expr
abbrev WV:=PySem.Stmt
abbrev WU:=PySem.Heap
abbrev WR:=PySem.Shared
abbrev WQ:=PySem.Value
abbrev WP:=PySem.Addr
abbrev WO:=PySem.Program
abbrev WN:=PySem.World
abbrev WM:=PySem.Around
abbrev VZ:=PySem.FuncData
def BW:=@List.getElem?_eq_some_iff
def BX:=@List.length_append
def BY:=@PySem.boot_len
def BZ:=@PyProof.Rows.callWith_type1
def CA:=@List.mem_append_left
def CB:=@Int.emod_lt_of_pos
def CC:=@PySem.F.slot_list_pop
def CD:=@PySem.F.type_list_pop
def CF:=@List.mem_of_getElem?
def CG:=@List.take_length
def CH:=@List.mem_cons
def CI:=@PySem.F.slot_zip_next
def CJ:=@List.all_eq_true
def CK:=@Nat.le_add_right
def CL:=@PySem.Heap.size_push
def CM:=@List.mem_cons_self
def CO:=@PySem.W.mg_none_of
def CP:=@List.length_finRange
def CQ:=@PySem.mem_of_lookup
def CT:=@PySem.Calls.spliced_cons
def CU:=@List.getElem?_eq_none
def CV:=@List.drop_eq_getElem_cons
def CW:=@List.getElem?_eq_getElem
def CY:=@Nat.lt_irrefl
def CZ:=@PySem.W.kia_one
def DA:=@List.map_congr_left
def DB:=@PySem.Calls.callWith_builtin
def DC:=@Option.map_eq_some_iff
def DD:=@List.find?_eq_none
def DE:=@List.any_cons
def DF:=@PySem.F.slot_tuple_iterator_next
def DG:=@PySem.Calls.spliced_nil
def DH:=@PySem.F.args_zip_next_1
def DI:=@List.getElem?_zip_eq_some
def DJ:=@Nat.ne_of_gt
def DK:=@Bool.and_eq_true
def DL:=@PySem.F.entry_zip_next
def DM:=@List.any_eq_true
def DN:=@Nat.add_lt_add_left
def DP:=@PySem.Challenge.pw_idlegraph_k38_whole_by_names
def DQ:=@Nat.lt_add_of_pos_right
def DR:=@List.of_mem_zip
def DS:=@List.getElem?_set_self
def DT:=@List.getElem?_inj
def DU:=@Array.getElem?_toList
def DV:=@List.mem_iff_getElem?
def DW:=@List.getElem?_set_ne
def DX:=@Nat.lt_succ_self
def DY:=@PySem.Calls.evalArgs_plain
def DZ:=@List.filterMap_cons
def EA:=@List.length_reverse
def EB:=@List.nodup_cons
def EC:=@List.mem_of_find?_eq_some
def ED:=@List.getElem?_append_left
def EE:=@List.length_zip
def EF:=@Nat.le_of_lt
def EG:=@PySem.F.args_tuple_add_2
def EH:=@List.nodup_nil
def EI:=@PySem.F.entry_tuple_add
def EJ:=@PySem.F.plainAttrs_dict
def EK:=@Nat.lt_succ_of_lt
def EL:=@List.reverse_cons
def EM:=@List.ext_getElem?
def EN:=@PySem.F.slot_tuple_add
def EO:=@List.take_of_length_le
def EQ:=@List.map_take
def ER:=@List.length_drop
def ES:=@List.drop_length
def ET:=@List.length_replicate
def EU:=@List.dropLast_eq_take
def EV:=@PySem.F.slot_dict_pop
def EW:=@PySem.F.slot_dict_get
def EX:=@PyProof.Rows.slot_tuple_getitem
def EY:=@List.eraseIdxIfInBounds_toArray
def EZ:=@List.length_dropLast
def FA:=@List.map_nil
def FB:=@List.find?_cons
def FC:=@List.getElem?_range
def FD:=@PySem.F.args_tuple_iterator_next_1
def FE:=@List.mem_filterMap
def FF:=@List.filterMap_map
def FG:=@List.map_drop
def FH:=@Option.isSome_map
def FI:=@List.foldl_append
def FJ:=@PySem.W.mg_of
def FK:=@PySem.W.callWith_K
def FL:=@List.lookup_cons
def FM:=@Nat.not_lt_of_le
def FN:=@List.map_fst_zip
def FO:=@List.length_set
def FP:=@List.length_nil
theorem FQ{α:Sort u}{a:α}:a=a:=rfl
theorem QzRa (h:1=1:=by rfl):True:=trivial
def QzR:Lean.Syntax:=QzRa._auto_1
theorem QzDa (h:1=1:=by decide):True:=trivial
def QzD:Lean.Syntax:=QzDa._auto_1
theorem QzFa (h:1=1\/1=2:=by first | exact .inl FQ | exact .inr FQ | assumption):True:=trivial
def QzF:Lean.Syntax:=QzFa._auto_1
theorem QzKa (h:1=1:=by decide+kernel):True:=trivial
def QzK:Lean.Syntax:=QzKa._auto_1
noncomputable section
namespace L2
open PySem PySem.Spec PyProof.Rows
abbrev Yo:=Sum Int Str
def Ai:Yo->WQ->Bool
 | .inl k,v=>Value.isInt k v
 | .inr x,v=>Value.isStrOf x v
def Zaz (w:WN):Yo->Int
 | .inl k=>hashInt k
 | .inr x=>hashStr w x
def Jz:∀{k:Yo} {v:WQ},Ai k v=true->(∃i t,k=Sum.inl i/\v=Value.int i t)\/(∃x t,k=Sum.inr x/\v=Value.str x t)
 | .inl i,v,h=>by
  obtain⟨t,e⟩:=Value.isInt_shape (k:=i) (v:=v) h;exact .inl ⟨i,t,FQ,e⟩
 | .inr x,v,h=>by
  obtain⟨t,e⟩:=Value.isStrOf_shape (x:=x) (v:=v) h;exact .inr ⟨x,t,FQ,e⟩
def uV (i:Int)(t:Tok):Ai (.inl i) (.int i t)=true:=by simp[Ai,Value.isInt]
def uU (x:Str)(t:Tok):Ai (.inr x) (.str x t)=true:=by simp[Ai,Value.isStrOf]
def gW (a b:Int):decide ((Sum.inl a:Yo)=Sum.inl b)=(a==b):=by
 by_cases e:a=b
 ·subst e;simp
 ·have h:¬(Sum.inl a:Yo)=Sum.inl b:=λq=>e (Sum.inl.inj q);rw[YG h];exact(beq_eq_false_iff_ne.mpr e).symm
def gS (a b:Str):decide ((Sum.inr a:Yo)=Sum.inr b)=decide (a=b):=by
 by_cases e:a=b
 ·subst e;simp
 ·have h:¬(Sum.inr a:Yo)=Sum.inr b:=λq=>e (Sum.inr.inj q);rw[YG h,YG e]
def gU (a:Int)(b:Str):decide ((Sum.inl a:Yo)=Sum.inr b)=false:=YG (λq=>nomatch q)
def gT (a:Str)(b:Int):decide ((Sum.inr a:Yo)=Sum.inl b)=false:=YG (λq=>nomatch q)
def Yw (prog:WO)(w:WN):PySem.KeyKind prog w Yo where
 is:=Ai
 hash:=Zaz w
 inj:=λv a b ha hb=>by
  rcases Jz ha with⟨i,t,rfl,rfl⟩ | ⟨x,t,rfl,rfl⟩
  ·rcases Jz hb with⟨j,u,rfl,e⟩ | ⟨y,u,rfl,e⟩
   ·injection e with e1 _;rw[e1]
   ·exact nomatch e
  ·rcases Jz hb with⟨j,u,rfl,e⟩ | ⟨y,u,rfl,e⟩
   ·exact nomatch e
   ·injection e with e1 _;rw[e1]
 byValue:=λk v h=>by
  rcases Jz h with⟨i,t,rfl,rfl⟩ | ⟨x,t,rfl,rfl⟩<;>rfl
 pyHash:=λhv h=>by
  rcases Jz hv with⟨i,t,rfl,rfl⟩ | ⟨x,t,rfl,rfl⟩
  ·exact wpAny_pyHash_int h
  ·exact wpAny_pyHash_str h
 eqBool:=λhu hv h=>by
  rcases Jz hu with⟨i,t,rfl,rfl⟩ | ⟨x,t,rfl,rfl⟩
  ·rcases Jz hv with⟨j,u,rfl,rfl⟩ | ⟨y,u,rfl,rfl⟩
   ·rw[gW] at h;exact wpAny_eqBool_int h
   ·rw[gU] at h;exact SeqAt.EqAt.int_str i t y u _ _ _ _ h
  ·rcases Jz hv with⟨j,u,rfl,rfl⟩ | ⟨y,u,rfl,rfl⟩
   ·rw[gT] at h;exact SeqAt.EqAt.str_int x t j u _ _ _ _ h
   ·rw[gS] at h;exact wpAny_eqBool_str h
 «strs»:=λk x t v h=>by
  rcases Jz h with⟨i,u,rfl,e⟩ | ⟨y,u,rfl,e⟩
  ·exact nomatch e
  ·injection e with e1 _
   subst e1
   cases v<;>rfl
def jh (prog:WO)(w:WN)(i:Int)(t:Tok):(Yw prog w).is (.inl i) (.int i t)=true:=uV i t
def jg (prog:WO)(w:WN)(x:Str)(t:Tok):(Yw prog w).is (.inr x) (.str x t)=true:=uU x t
inductive V where
 | non | bl (b:Bool) | int (i:Int) | str (x:Str) | byt (b:Array UInt8) | flt (b:UInt64) | ref (a:WP) | ty (n:String)
 deriving DecidableEq
def Yg:V->WQ->Prop
 | .non,u=>u=Value.none
 | .bl b,u=>u=Value.bool b
 | .int i,u=>∃t,u=Value.int i t
 | .str x,u=>∃t,u=Value.str x t
 | .byt b,u=>∃t,u=Value.bytes b t
 | .flt b,u=>∃t,u=Value.float b t
 | .ref a,u=>u=Value.ref a
 | .ty n,u=>u=Value.type n
abbrev Yf:List V->List WQ->Prop:=Paired Yg
def Yf.length (r:Yf xs us):xs.length=us.length:=Paired.length r
theorem Yf.get:∀{xs:List V} {us:List WQ} {i:Nat} {x:V},Yf xs us->xs[i]?=some x->∃u,us[i]?=some u/\Yg x u
 | _,_,_,_,.nil,e=>by simp at e
 | _,_,0,_,.cons r _,e=>by simp at e;subst e;exact⟨_,FQ,r⟩
 | _,_,i+1,x,.cons _ t,e=>by
  obtain⟨u,h1,h2⟩:=Yf.get (i:=i) (x:=x) t (by simpa using e);exact⟨u,by simpa using h1,h2⟩
theorem Yf.append:∀{xs ys:List V} {us ws:List WQ},Yf xs us->Yf ys ws->Yf (xs++ys) (us++ws)
 | _,_,_,_,.nil,s=>s
 | _,_,_,_,.cons r t,s=>.cons r (Yf.append t s)
theorem Yf.take:∀{xs:List V} {us:List WQ} (n:Nat),Yf xs us->Yf (xs.take n) (us.take n)
 | _,_,0,_=>.nil
 | _,_,_+1,.nil=>.nil
 | _,_,n+1,.cons r t=>.cons r (Yf.take n t)
theorem Yf.drop:∀{xs:List V} {us:List WQ} (n:Nat),Yf xs us->Yf (xs.drop n) (us.drop n)
 | _,_,0,r=>r
 | _,_,_+1,.nil=>.nil
 | _,_,n+1,.cons _ t=>Yf.drop n t
def S6:Option V->Option WQ->Prop
 | some v,some u=>Yg v u
 | none,none=>True
 | _,_=>False
def KV {κ:Type}:List (κ×V)->List (κ×WQ)->Prop:=Paired λ(p:κ×V) (q:κ×WQ)=>p.1=q.1/\Yg p.2 q.2
def kV:Yo->V
 | .inl i=>.int i
 | .inr x=>.str x
inductive HO where
  | lst (xs:List V)
  | tup (xs:List V)
  | dK (kvs:List (Yo×V)) | dT (kvs:List (List Yo×V))
  | set (S:Int->Bool) (n:Nat)
  | ins (C dx:WP) (fs:List (Str×V))
  | own (x:WP)
  | xd (fs:List (Str×V))
  | met (f x:WP)
  | rng (lo hi:Int)
  | frz (o:Obj) (u:HO)
  | tbl (ps:Array WQ)
  | ext (φ:WU->Prop)
abbrev Hp:=WP->Option HO
def Je (H:Hp)(a:WP)(o:HO):Hp:=λb=>if b=a then some o else H b
def Yq:Je H a o a=some o:=by unfold Je;rw[XY rfl]
def Yd {a b:WP}(h:b≠a):Je H a o b=H b:=by unfold Je;rw[XX h]
def bd {H:Hp}(h:H a=some o)(h':H b=some u)(d:o≠u):a≠b:=by
 intro e;subst e;rw[h] at h';exact d (YH h')
def J0 {H:Hp}(h:H a=some o)(h':H b=none):a≠b:=by
 intro e;subst e;rw[h] at h';cases h'
section
variable (P:WO)(w:WN)
def J1 (H:Hp)(h:WU)(a:WP):HO->Prop
 | .lst xs=>xs.length<=sizeLine/\∃(its:List WQ) (n:Nat),Yf xs its/\h.get? a=some {cls:=.type "list",data:=.seq its.toArray n}
 | .tup xs=>xs.length<=sizeLine/\∃its:List WQ,Yf xs its/\IsTup h a its.toArray
 | .dK kvs=>kvs.length<=sizeLine/\(a==sysModules)=false/\∃vs,KV kvs vs/\h.DictOf (Yw P w) a vs
 | .dT kvs=>kvs.length<=sizeLine/\(a==sysModules)=false/\∃xs:List (List Yo×WP×WQ),
   Paired (λ(p:List Yo×V) (q:List Yo×WP×WQ)=>p.1=q.1/\H q.2.1=some (.tup (p.1.map kV))/\Yg p.2 q.2.2) kvs xs/\
   ∃o es ep,h.get? a=some o/\o.ExactDict/\o.data=.dict es ep/\es.toList=xs.map (entryOfKey (tupleKind (Yw P w)))/\(xs.map (·.1)).Nodup
 | .set S n=>h.SetOf (intKind P w) a S n
 | .ins C dx fs=>H dx=some (.own a)/\fs.length<=1000/\dx≠a/\h.get? a=some (W.instObj C dx)/\
   ∃mA,h.Ns1 dx mA/\(∀f,S6 (fs.lookup f) (mA f))/\PySem.Within mA (fs.map (·.1))
 | .own _=>∃o,h.get? a=some o
 | .xd fs=>∃mA,h.Ns1 a mA/\∀f,S6 (fs.lookup f) (mA f)
 | .rng lo hi=>∃t u v,h.get? a=some {cls:=.type "range",data:=.fields #[.int lo t,.int hi u,.int 1 v]}
 | .frz o u=>h.get? a=some o/\J1 H h a u
 | .tbl ps=>h.get? a=some {cls:=.none,data:=.fields ps}
 | .met f x=>h.get? a=some (W.methodObj (.ref f) (.ref x))
 | .ext φ=>φ h/\(∃o,h.get? a=some o)/\∀h1 h2:WU,φ h1->(∀o,h1.get? a=some o->h2.get? a=some o)->φ h2
def Td (H:Hp)(h:WU):Prop:=∀a o,H a=some o->J1 P w H h a o
end
section
variable {P:WO}{w:WN}{H H':Hp}{h h':WU}{a:WP}{o:HO}
def J1.lt (x:J1 P w H h a o):a<h.objs.size:=by
 cases o with
 | lst xs=>obtain⟨_,_,_,_,e⟩:=x;exact XD e
 | tup xs=>obtain⟨_,_,_,p⟩:=x;exact p.lt
 | dK kvs=>obtain⟨_,_,_,_,o,_,_,e,_⟩:=x;exact XD e
 | dT kvs=>obtain⟨_,_,_,_,o,_,_,e,_⟩:=x;exact XD e
 | set S n=>obtain⟨o,_,_,_,e,_⟩:=x;exact XD e
 | ins C dx fs=>obtain⟨_,_,_,e,_⟩:=x;exact XD e
 | own y=>obtain⟨_,e⟩:=x;exact XD e
 | xd fs=>obtain⟨_,⟨_,_,_,e,_⟩,_⟩:=x;exact XD e
 | rng lo hi=>obtain⟨_,_,_,e⟩:=x;exact XD e
 | frz ob u=>obtain⟨e,_⟩:=x;exact XD e
 | tbl ps=>exact XD (show h.get? a=some _ from x)
 | met f y=>exact XD (show h.get? a=some _ from x)
 | ext φ=>obtain⟨_,⟨_,e⟩,_⟩:=x;exact XD e
theorem Paired.mapP {α β:Type}{F G:α->β->Prop}:∀{l₁:List α} {l₂:List β},Paired F l₁ l₂->(∀a b,F a b->G a b)->Paired G l₁ l₂
 | _,_,.nil,_=>.nil
 | _,_,.cons r t,f=>.cons (f _ _ r) (Paired.mapP t f)
def J1.stay (x:J1 P w H h a o)(k:∀b u,(b=a\/H b=some (.own a))->h.get? b=some u->h'.get? b=some u)
  (ho:∀b,H b=some (.own a)->H' b=some (.own a)) (ht:∀b xs,H b=some (.tup xs)->H' b=some (.tup xs)):J1 P w H' h' a o:=by
 induction o with
 | lst xs=>obtain⟨z,its,n,r,e⟩:=x;exact⟨z,its,n,r,k _ _ (.inl FQ) e⟩
 | tup xs=>obtain⟨z,its,r,ob,e,c⟩:=x;exact⟨z,its,r,ob,k _ _ (.inl FQ) e,c⟩
 | dK kvs=>obtain⟨z,y,vs,r,ob,es,ep,e,c⟩:=x;exact⟨z,y,vs,r,ob,es,ep,k _ _ (.inl FQ) e,c⟩
 | dT kvs=>
  obtain⟨z,y,xs,r,ob,es,ep,e,c⟩:=x;exact⟨z,y,xs,Paired.mapP r λp q z=>⟨z.1,ht _ _ z.2.1,z.2.2⟩,ob,es,ep,k _ _ (.inl FQ) e,c⟩
 | set S n=>obtain⟨ob,es,ep,t,e,c⟩:=x;exact⟨ob,es,ep,t,k _ _ (.inl FQ) e,c⟩
 | ins C dx fs=>
  obtain⟨d,z,ne,e,mA,⟨od,es,ep,e2,c⟩,r⟩:=x;exact⟨ho _ d,z,ne,k _ _ (.inl FQ) e,mA,⟨od,es,ep,k _ _ (.inr d) e2,c⟩,r⟩
 | own y=>obtain⟨ob,e⟩:=x;exact⟨ob,k _ _ (.inl FQ) e⟩
 | xd fs=>obtain⟨mA,⟨od,es,ep,e,c⟩,r⟩:=x;exact⟨mA,⟨od,es,ep,k _ _ (.inl FQ) e,c⟩,r⟩
 | rng lo hi=>obtain⟨t,u,v,e⟩:=x;exact⟨t,u,v,k _ _ (.inl FQ) e⟩
 | frz ob u ih=>obtain⟨e,q⟩:=x;exact⟨k _ _ (.inl FQ) e,ih q⟩
 | tbl ps=>
  have e:h.get? a=some {cls:=.none,data:=.fields ps}:=x;show h'.get? a=some {cls:=.none,data:=.fields ps};exact k a _ (.inl FQ) e
 | met f y=>
  have e:h.get? a=some (W.methodObj (.ref f) (.ref y)):=x;show h'.get? a=some (W.methodObj (.ref f) (.ref y));exact k a _ (.inl FQ) e
 | ext φ=>obtain⟨p,⟨o,e⟩,st⟩:=x;exact⟨st _ _ p λo q=>k _ _ (.inl FQ) q,⟨o,k _ _ (.inl FQ) e⟩,st⟩
def Td.lt (x:Td P w H h)(e:H a=some o):a<h.objs.size:=(x a o e).lt
def Td.fresh (x:Td P w H h)(e:h.objs.size<=a):H a=none:=by
 cases q:H a with
 | none=>rfl
 | some u=>exact absurd (XG (x.lt q) e) (CY _)
def Td.kept (x:Td P w H h)(k:∀b u,h.get? b=some u->h'.get? b=some u):Td P w H h':=λa o e=>
 (x a o e).stay (λb u _ q=>k b u q) (λ_ q=>q) λ_ _ q=>q
def Td.laid (x:Td P w H h)(k:∀b u,h.get? b=some u->h'.get? b=some u)(hp:h.objs.size<=a)(new:J1 P w (Je H a o) h' a o):Td P w (Je H a o) h':=λb u e=>by
 have hn:=x.fresh hp;by_cases hb:b=a
 ·subst hb;rw[Yq] at e;cases e;exact new
 ·rw[Yd hb] at e;exact(x b u e).stay (λc v _ q=>k c v q) (λc q=>by rw[Yd (J0 q hn)];exact q) λc xs q=>by rw[Yd (J0 q hn)];exact q
end
def Rd (H:Hp)(a:WP)(u:HO):Prop:=H a=some u\/∃o,H a=some (.frz o u)
def Rd.ok (r:Rd H a u)(x:Td P w H h):J1 P w H h a u:=by
 rcases r with r | ⟨o,r⟩
 ·exact x a u r
 ·obtain⟨_,q⟩:=x a _ r;exact q
def aj:Option HO->Prop
 | some (.lst _)=>True
 | some (.dK _)=>True
 | some (.dT _)=>True
 | some (.set _ _)=>True
 | some (.ins _ _ _)=>True
 | some (.ext _)=>True
 | _=>False
section
variable {P:WO}{w:WN}{H:Hp}{h h':WU}{x e:WP}{o':HO}
def Td.write (ok:Td P w H h)(mu:aj (H x))(he:e=x\/H e=some (.own x))(k:∀b u,b≠e->h.get? b=some u->h'.get? b=some u)(heo:∃u,h'.get? e=some u)
  (new:J1 P w (Je H x o') h' x o'):Td P w (Je H x o') h':=λb u q=>by
 have nown:∀c y,H c=some (.own y)->c≠x:=λc y r z=>by subst z;rw[r] at mu;exact mu
 have ntup:∀c xs,H c=some (.tup xs)->c≠x:=λc xs r z=>by subst z;rw[r] at mu;exact mu
 by_cases hb:b=x
 ·subst hb;rw[Yq] at q;cases q;exact new
 ·rw[Yd hb] at q;by_cases hbe:b=e
  ·have q':H b=some (.own x):=by
    rcases he with z | z
    ·exact absurd (hbe.trans z) hb
    ·rw[hbe];exact z
   rw[q] at q';cases q';obtain⟨v,hv⟩:=heo;exact⟨v,by rw[hbe];exact hv⟩
  ·refine(ok b u q).stay (λc v hc r=>k c v ?_ r) (λc r=>by rw[Yd (nown c b r)];exact r) λc xs r=>by rw[Yd (ntup c xs r)];exact r
   rcases hc with rfl | hc
   ·exact hbe
   ·rintro rfl
    rcases he with z | z
    ·exact nown c b hc z
    ·rw[hc] at z;cases z;exact hb FQ
end
structure Un (fs ex:List Addr)(H H':Hp)(h h':Heap):Prop where
 keep:∀b o,h.get? b=some o->H b=none->b∉fs->b∉ex->h'.get? b=some o
 slot:∀b o,h.get? b=some o->H b=none->b∈fs->b∉ex->∃sl,h'.get? b=some {o with slots:=sl}
 free:∀b o,h.get? b=some o->H b=none->b∉ex->H' b=none
 there:∀b o,h.get? b=some o->b∉ex->∃o',h'.get? b=some o'
 tups:∀b xs,H b=some (.tup xs)->H' b=some (.tup xs)
 frzs:∀b o u,H b=some (.frz o u)->H' b=some (.frz o u)
 tbls:∀b ps,H b=some (.tbl ps)->∃more,H' b=some (.tbl (ps++more))
section
variable {fs fs' ex ex':List WP}{H H1 H2:Hp}{h h1 h2 h':WU}{a x e:WP}{o:HO}
def Un.any (u:Un fs ex H H1 h h1){b:WP}(q:h.get? b=some ob)(n:H b=none)(hx:b∉ex):∃sl,h1.get? b=some {ob with slots:=sl}:=by
 by_cases hb:b∈fs
 ·exact u.slot b ob q n hb hx
 ·exact⟨ob.slots,u.keep b ob q n hb hx⟩
def Un.kept (k:∀b u,h.get? b=some u->h'.get? b=some u):Un fs ex H H h h':=
 ⟨λb ob q _ _ _=>k b ob q,λb ob q _ _ _=>⟨ob.slots,k b ob q⟩,λ_ _ _ n _=>n,λb ob q _=>⟨ob,k b ob q⟩,λ_ _ q=>q,λ_ _ _ q=>q,λ_ ps q=>⟨#[],by rw[q];simp⟩⟩
def Un.refl:Un fs ex H H h h:=Un.kept λ_ _ q=>q
def Un.laid (k:∀b u,h.get? b=some u->h'.get? b=some u)(hp:h.objs.size<=a)(hn:H a=none):Un fs ex H (Je H a o) h h' where
 keep:=λb u q _ _ _=>k b u q
 slot:=λb u q _ _ _=>⟨u.slots,k b u q⟩
 free:=λb u q n _=>by rw[Yd (XH (XG (XD q) hp))];exact n
 there:=λb u q _=>⟨u,k b u q⟩
 tups:=λb xs q=>by rw[Yd (J0 q hn)];exact q
 frzs:=λb u xs q=>by rw[Yd (J0 q hn)];exact q
 tbls:=λb ps q=>⟨#[],by rw[Yd (J0 q hn),q];simp⟩
def Un.write (mu:aj (H x))(he:e=x\/H e=some (.own x))(k:∀b u,b≠e->h.get? b=some u->h'.get? b=some u)(heo:∃u,h'.get? e=some u):Un fs ex H (Je H x o) h h':=by
 have hx:∀b,H b=none->b≠x:=λb n z=>by subst z;rw[n] at mu;exact mu
 have hb:∀b,H b=none->b≠e:=λb n z=>by
  subst z
  rcases he with r | r
  ·exact hx b n r
  ·rw[n] at r;cases r
 have hm:∀b u,H b=some u->¬aj (some u)->b≠x:=λb u q nm z=>by subst z;rw[q] at mu;exact nm mu
 refine⟨λb u q n _ _=>k b u (hb b n) q,λb u q n _ _=>⟨u.slots,k b u (hb b n) q⟩,λb u q n _=>by rw[Yd (hx b n)];exact n,λb u q _=>?_,
  λb xs q=>by rw[Yd (hm b _ q λz=>z)];exact q,λb u xs q=>by rw[Yd (hm b _ q λz=>z)];exact q,λb ps q=>⟨#[],by rw[Yd (hm b _ q λz=>z),q];simp⟩⟩
 by_cases hbe:b=e
 ·subst hbe;exact heo
 ·exact⟨u,k b u hbe q⟩
end
def aw (h:WU)(H:Hp):List WP:=(List.range h.objs.size).filter λa=>(H a).isSome
def zS (h:WU)(H:Hp):WU:=W.hideAll h (aw h H)
def tj (h:WU)(H:Hp):(zS h H).objs.size=h.objs.size:=W.hideAll_size _ _
def p9 {h:WU}{H:Hp}{b:WP}(e:h.get? b=some o)(n:H b=none):(zS h H).get? b=some o:=
 W.hideAll_get _ e λhm=>by
  have q:(H b).isSome=true:=(List.mem_filter.mp hm).2;rw[n] at q;simp at q
def mN {b:WP}(e:(zS h H).get? b=some o):h.get? b=some o/\H b=none:=by
 have e':h.get? b=some o:=W.of_hideAll (aw h H) e;refine⟨e',?_⟩
 cases q:H b with
 | none=>rfl
 | some x=>
  have hm:b∈aw h H:=List.mem_filter.mpr ⟨List.mem_range.mpr (Heap.lt_size e'),by simp[q]⟩;have z:(zS h H).get? b=none:=W.hideAll_none (aw h H) hm;rw[z] at e;cases e
def kj (g h:WU)(L:WP):List (WP×Obj):=(List.range h.objs.size).filterMap λa=>if a=L\/(g.get? a).isSome=true then none else(h.get? a).map λo=>(a,o)
def Y4 (g h:WU)(L d:WP):List (WP×Obj):=(kj g h L).filter λp=>decide (p.1≠d)
structure Mod (K:W.Frag)(mg:Str->Option Value)(base:Heap):Prop where
 kin:K.In base
 glob:base.Ns mainGlobals mg
 blt:∃mb,base.Ns builtinsNs mb/\∀x:Str,x≠"__name__"->mb x=bootBuiltins x
 nolimit:base.NoLimit
structure Cx where
 prog:WO
 w:WN
 K:WY
 mg:Str->Option WQ
 base:WU
 A:WM
 N:List Str
 s₀:WR
 H₀:Hp
 env:Env
 outer:List Env
 stack:List Env
 ex:List WP
 fn:Str->Bool
 calm:Bool
 pn:List (WP×Obj)
 xe:WQ->WR->Prop
def tw (l:List Env):List WP:=l.filterMap (·.frame)
abbrev Cx.fs (X:Cx):List WP:=tw X.outer
def aC (sc:Scope)(x:Str):Prop:=sc.names.lookup x=some .local\/sc.names.lookup x=some .cell\/sc.names.lookup x=some .free
def de (sc:Scope)(x:Str):Prop:=sc.names.lookup x=some .local\/sc.names.lookup x=some .cell
def Zby (env:Env)(h:WU)(m:Str->Option WQ)(x:Str)(u:WQ):Prop:=
 (env.kindOf x=some .local/\m x=some u)\/((env.kindOf x=some .cell\/env.kindOf x=some .free)/\∃c,env.cells.lookup x=some c/\h.IsCell c (some u))
structure Cx.Ok (X:Cx):Prop where
 mod:Mod X.K X.mg X.base
 kind:X.env.scope.kind=.function
 glob:X.env.globals=mainGlobals
 blt:X.env.builtins=builtinsNs
 above:X.s₀.heap.objs.size<=X.env.locals
 inj:∀x y c,X.env.cells.lookup x=some c->X.env.cells.lookup y=some c->x=y
 has:∀x,(X.env.kindOf x=some .cell\/X.env.kindOf x=some .free)->∃c,X.env.cells.lookup x=some c
 cab:∀x c,X.fn x=true->X.env.cells.lookup x=some c->X.s₀.heap.objs.size<=c
 hd:X.calm=true->X.A.handled=none
 frames:X.A.frames=some X.stack
 stk:X.stack=X.outer\/(X.stack=X.env::X.outer/\X.env.frame=some X.env.locals)
 exf:∀b∈X.ex,b≠X.env.locals/\∀x c,X.env.cells.lookup x=some c->c≠b
 bs:∀b o,X.base.get? b=some o->X.s₀.heap.get? b=some o/\X.H₀ b=none
 bsz:X.base.objs.size<=X.s₀.heap.objs.size
 noex:∀b o,X.base.get? b=some o->b∉X.ex
 exfs:∀b∈X.ex,b∉X.fs
 funs:X.s₀.heap.FunFrames X.base X.outer
 frf:∀b∈X.fs,X.H₀ b=none
structure Z2 (X:Cx)(WZ:List (Addr×Obj))(σ:List (Option V))(H:Hp)(s:Shared):Prop where
 ok:X.Ok
 os:s.os=X.s₀.os
 bare:AllBare s.gens
 base:Un X.fs X.ex X.H₀ H X.s₀.heap s.heap
 loc:∃m,s.heap.Ns X.env.locals m/\∀(i:Nat) (x:Str) (v:V),X.N[i]?=some x->σ[i]?=some (some v)->aC X.env.scope x->∃u,Yg v u/\Zby X.env s.heap m x u
 cell:∀x c,X.env.cells.lookup x=some c->∃v,s.heap.IsCell c v
 free:H X.env.locals=none
 freeC:∀x c,X.env.cells.lookup x=some c->H c=none
 pin:∀p∈X.pn++WZ,s.heap.get? p.1=some p.2/\H p.1=none/\p.1≠X.env.locals/\p.1∉X.fs/\∀v,p.2.data≠.cell v
 hok:Td X.prog X.w H s.heap
 len:σ.length=X.N.length
section
variable {X:Cx}{WZ:List (WP×Obj)}{σ:List (Option V)}{H H':Hp}{s:WR}{h':WU}
def Cx.Ok.nofr (ok:X.Ok){b:WP}(e:X.base.get? b=some o):b∉X.fs:=λhb=>by
 have:=(ok.funs.mem hb).1;rw[e] at this;cases this
def Z2.bs (I:Z2 X WZ σ H s):∀b o,X.base.get? b=some o->s.heap.get? b=some o/\H b=none:=λb o e=>
 ⟨I.base.keep b o (I.ok.bs b o e).1 (I.ok.bs b o e).2 (I.ok.nofr e) (I.ok.noex b o e),I.base.free b o (I.ok.bs b o e).1 (I.ok.bs b o e).2 (I.ok.noex b o e)⟩
def Z2.bk (I:Z2 X WZ σ H s):∀b o,X.base.get? b=some o->s.heap.get? b=some o:=λb o e=>(I.bs b o e).1
def Z2.mod (I:Z2 X WZ σ H s):Mod X.K X.mg X.base:=I.ok.mod
def Z2.kIn (I:Z2 X WZ σ H s):X.K.In s.heap:=I.ok.mod.kin.keeps I.bk
def Z2.lt (I:Z2 X WZ σ H s):X.env.locals<s.heap.objs.size:=let ⟨_,hn,_⟩:=I.loc;hn.lt
def Z2.sz (I:Z2 X WZ σ H s):X.s₀.heap.objs.size<=s.heap.objs.size:=XN I.ok.above (EF I.lt)
def Z2.nofs (I:Z2 X WZ σ H s){a:WP}(h:s.heap.objs.size<=a):a∉X.fs:=λhb=>by
 obtain⟨_,o,ho,_⟩:=I.ok.funs.mem hb;exact absurd (XG (XD ho) (XN I.sz h)) (CY _)
def Z2.cne (I:Z2 X WZ σ H s):∀x c,X.env.cells.lookup x=some c->c≠X.env.locals:=λx c e z=>by
 obtain⟨v,o,ho,hd⟩:=I.cell x c e;obtain⟨m,⟨o',es,ep,ho',hd',_⟩,_⟩:=I.loc;rw[z,ho'] at ho;cases ho;rw[hd'] at hd;cases hd
def Z2.funs (I:Z2 X WZ σ H s):s.heap.FunFrames X.base X.outer:=by
 have all:∀(l:List Env),(∀b∈tw l,b∈X.fs)->X.s₀.heap.FunFrames X.base l->s.heap.FunFrames X.base l:=by
  intro l
  induction l with
  | nil=>intro _ _;trivial
  | cons env r ih=>
   intro hs hl;obtain⟨hk,⟨L,o,hf,hn,ho,hd⟩,hr⟩:=hl;have hL:L∈X.fs:=hs L (by unfold tw;rw[DZ,hf];exact CM);obtain⟨sl,e⟩:=I.base.slot L o ho (I.ok.frf L hL) hL λz=>I.ok.exfs L z hL;exact⟨hk,⟨L,_,hf,hn,e,hd⟩,ih (λb hb=>hs b (by unfold tw;rw[DZ,hf];exact XV _ hb)) hr⟩
 exact all X.outer (λ_ hb=>hb) I.ok.funs
def Z2.stack (I:Z2 X WZ σ H s):s.heap.FunFrames X.base X.stack:=by
 rcases I.ok.stk with e | ⟨e,hf⟩
 ·rw[e];exact I.funs
 ·rw[e];obtain⟨m,hn,_⟩:=I.loc;refine .cons (by rw[I.ok.kind];decide) hf hn ?_ I.funs;exact Heap.get?_none_of_le (XN I.ok.bsz I.ok.above)
def Z2.stkSub (I:Z2 X WZ σ H s):∀b∈tw X.stack,b∈X.env.locals::X.fs:=λb hb=>by
 rcases I.ok.stk with e | ⟨e,hf⟩
 ·rw[e] at hb;exact XV _ hb
 ·rw[e] at hb;unfold tw at hb;rw[DZ,hf] at hb;exact hb
def Z2.stkFree (I:Z2 X WZ σ H s):∀b∈tw X.stack,H b=none:=λb hb=>by
 rcases CH.mp (I.stkSub b hb) with e | hb
 ·rw[e];exact I.free
 ·obtain⟨_,o,ho,_⟩:=I.ok.funs.mem hb;exact I.base.free b o ho (I.ok.frf b hb) λz=>I.ok.exfs b z hb
def Z2.step {g':Array GenState}{t':Nat}{d':Drawn}{ch:List WP}(I:Z2 X WZ σ H s)
  (hch:∀b∈ch,(b∈X.ex\/X.s₀.heap.objs.size<=b)/\b≠X.env.locals/\(∀x c,X.env.cells.lookup x=some c->c≠b)/\∀p∈X.pn++WZ,p.1≠b)
  (keep:∀b o,b≠X.env.locals->b∉X.fs->b∉ch->s.heap.get? b=some o->H b=none->h'.get? b=some o)
  (slot:∀b o,b≠X.env.locals->b∈X.fs->b∉ch->s.heap.get? b=some o->H b=none->∃sl,h'.get? b=some {o with slots:=sl}) (free:∀b o,b∉ch->s.heap.get? b=some o->H b=none->H' b=none)
  (there:∀b o,b∉ch->s.heap.get? b=some o->∃o',h'.get? b=some o')
  (tups:∀b xs,H b=some (.tup xs)->H' b=some (.tup xs)) (frzs:∀b o u,H b=some (.frz o u)->H' b=some (.frz o u)) (tbls:∀b ps,H b=some (.tbl ps)->∃more,H' b=some (.tbl (ps++more)))
  (ns:∀m,s.heap.Ns X.env.locals m->h'.Ns X.env.locals m) (hok:Td X.prog X.w H' h') (hg:AllBare g'):
  Z2 X WZ σ H' {s with heap:=h',gens:=g',drawn:=d',toks:=t'}:=by
 have neL:∀b o,X.s₀.heap.get? b=some o->b≠X.env.locals:=λb o e=>XH (XG (XD e) I.ok.above);have neC:∀b o,X.s₀.heap.get? b=some o->b∉X.ex->b∉ch:=λb o e hx hb=>by
  rcases (hch b hb).1 with z | z
  ·exact hx z
  ·exact absurd (XG (XD e) z) (CY _)
 have cellK:∀x c,X.env.cells.lookup x=some c->∀v,s.heap.IsCell c v->h'.IsCell c v:=λx c e v ⟨o,ho,hd⟩=>by
  have nch:c∉ch:=λz=>(hch c z).2.2.1 x c e FQ;by_cases hc:c∈X.fs
  ·obtain⟨sl,q⟩:=slot c o (I.cne x c e) hc nch ho (I.freeC x c e);exact⟨_,q,hd⟩
  ·exact⟨o,keep c o (I.cne x c e) hc nch ho (I.freeC x c e),hd⟩
 refine⟨I.ok,I.os,hg,⟨λb o e n hb hx=>?_,λb o e n hb hx=>?_,λb o e n hx=>?_,λb o e hx=>?_,λb xs e=>tups b xs (I.base.tups b xs e),λb o xs e=>frzs b o xs (I.base.frzs b o xs e),λb ps e=>?_⟩,?_,λx c e=>?_,?_,λx c e=>?_,λp hp=>?_,hok,I.len⟩
 ·exact keep b o (neL b o e) hb (neC b o e hx) (I.base.keep b o e n hb hx) (I.base.free b o e n hx)
 ·obtain⟨sl,e1⟩:=I.base.slot b o e n hb hx;obtain⟨sl',e2⟩:=slot b _ (neL b o e) hb (neC b o e hx) e1 (I.base.free b o e n hx);exact⟨sl',e2⟩
 ·obtain⟨o',e1⟩:=I.base.there b o e hx;exact free b o' (neC b o e hx) e1 (I.base.free b o e n hx)
 ·obtain⟨o',e1⟩:=I.base.there b o e hx;exact there b o' (neC b o e hx) e1
 ·obtain⟨m1,e1⟩:=I.base.tbls b ps e;obtain⟨m2,e2⟩:=tbls b _ e1;exact⟨m1++m2,by rw[e2,Array.append_assoc]⟩
 ·obtain⟨m,hn,hl⟩:=I.loc;refine⟨m,ns m hn,λi x v e1 e2 e3=>?_⟩;obtain⟨u,r,l⟩:=hl i x v e1 e2 e3;refine⟨u,r,?_⟩
  rcases l with l | ⟨k,c,e,z⟩
  ·exact .inl l
  ·exact .inr ⟨k,c,e,cellK x c e _ z⟩
 ·obtain⟨v,z⟩:=I.cell x c e;exact⟨v,cellK x c e v z⟩
 ·obtain⟨m,⟨o,_,_,ho,_⟩,_⟩:=I.loc;exact free _ o (λz=>(hch _ z).2.1 FQ) ho I.free
 ·obtain⟨v,o,ho,hd⟩:=I.cell x c e;exact free c o (λz=>(hch c z).2.2.1 x c e FQ) ho (I.freeC x c e)
 ·obtain⟨e,n,ne,nf,d⟩:=I.pin p hp;have nch:p.1∉ch:=λz=>(hch p.1 z).2.2.2 p hp FQ;exact⟨keep p.1 p.2 ne nf nch e n,free p.1 p.2 nch e n,ne,nf,d⟩
def Z2.un {t':Nat}(I:Z2 X WZ σ H s)(u:Un X.fs [] H H' s.heap h')(hok:Td X.prog X.w H' h'):Z2 X WZ σ H' {s with heap:=h',toks:=t'}:=by
 obtain⟨m,⟨o,es,ep,ho,r⟩,_⟩:=id I.loc;obtain⟨sl,hL⟩:=u.any ho I.free (by simp);exact I.step (g':=s.gens) (d':=s.drawn) (ch:=[]) (λ_ z=>nomatch z) (λb o _ hb _ e n=>u.keep b o e n hb (by simp)) (λb o _ hb _ e n=>u.slot b o e n hb (by simp)) (λb o _ e n=>u.free b o e n (by simp)) (λb o _ e=>u.there b o e (by simp)) u.tups u.frzs u.tbls (λm' hm=>by
  obtain⟨o',es',ep',ho',r'⟩:=hm;rw[ho] at ho';cases ho';exact⟨_,es',ep',hL,r'⟩) hok I.bare
def Z2.call {t':Nat}{d':Drawn}(I:Z2 X WZ σ H s)(u:Un (tw X.stack) ch H H' s.heap h')(hok:Td X.prog X.w H' h')(hg:AllBare g')
  (hch:∀b∈ch,(b∈X.ex\/X.s₀.heap.objs.size<=b)/\b≠X.env.locals/\(∀x c,X.env.cells.lookup x=some c->c≠b)/\∀p∈X.pn++WZ,p.1≠b):
  Z2 X WZ σ H' {s with heap:=h',gens:=g',drawn:=d',toks:=t'}:=by
 obtain⟨m,⟨o,es,ep,ho,r⟩,_⟩:=id I.loc;obtain⟨sl,hL⟩:=u.any ho I.free λz=>(hch _ z).2.1 FQ;exact I.step (ch:=ch) hch (λb o hL hb hc e n=>u.keep b o e n (λz=>(CH.mp (I.stkSub b z)).elim hL hb) hc) (λb o _ _ hc e n=>u.any e n hc) (λb o hc e n=>u.free b o e n hc) (λb o hc e=>u.there b o e hc) u.tups u.frzs u.tbls (λm' hm=>by
  obtain⟨o',es',ep',ho',r'⟩:=hm;rw[ho] at ho';cases ho';exact⟨_,es',ep',hL,r'⟩) hok hg
def Z2.turned {t':Nat}{it:WP}(I:Z2 X WZ σ H s)(k:∀b o,b≠it->s.heap.get? b=some o->h'.get? b=some o)(hn:H it=none)(hL:it≠X.env.locals)
  (h1:it∈X.ex\/X.s₀.heap.objs.size<=it) (h2:∀x c,X.env.cells.lookup x=some c->c≠it) (h3:∀p∈X.pn++WZ,p.1≠it):Z2 X WZ σ H {s with heap:=h',toks:=t'}:=by
 have nit:∀b u,H b=some u->b≠it:=λb u e z=>by rw[z,hn] at e;cases e
 refine I.step (g':=s.gens) (d':=s.drawn) (ch:=[it]) (λb hb=>?_) (λb o _ _ hc e _=>k b o (λz=>hc (by simp[z])) e) (λb o _ _ hc e _=>⟨o.slots,k b o (λz=>hc (by simp[z])) e⟩) (λ_ _ _ _ n=>n)
  (λb o hc e=>⟨o,k b o (λz=>hc (by simp[z])) e⟩) (λ_ _ e=>e) (λ_ _ _ e=>e) (λb ps e=>⟨#[],by rw[e];simp⟩) (λm hm=>?_) (λb u e=>?_) I.bare
 ·have e:b=it:=by simpa using hb
  subst e;exact⟨h1,hL,h2,h3⟩
 ·obtain⟨o,es,ep,ho,r⟩:=hm;exact⟨o,es,ep,k _ o (Ne.symm hL) ho,r⟩
 ·refine(I.hok b u e).stay (λc v hc q=>k c v ?_ q) (λ_ q=>q) λ_ _ q=>q
  rcases hc with z | z
  ·rw[z];exact nit b u e
  ·exact nit c _ z
def Z2.tok (I:Z2 X WZ σ H s)(t:Nat):Z2 X WZ σ H {s with toks:=t}:=I.un (h':=s.heap) (t':=t) Un.refl I.hok
def Z2.kept {t':Nat}(I:Z2 X WZ σ H s)(k:∀b u,s.heap.get? b=some u->h'.get? b=some u):Z2 X WZ σ H {s with heap:=h',toks:=t'}:=I.un (Un.kept k) (I.hok.kept k)
def Z2.laid {a:WP}{t':Nat}(I:Z2 X WZ σ H s)(k:∀b u,s.heap.get? b=some u->h'.get? b=some u)(hp:s.heap.objs.size<=a)(new:J1 X.prog X.w (Je H a o) h' a o):
  Z2 X WZ σ (Je H a o) {s with heap:=h',toks:=t'}:=I.un (Un.laid k hp (I.hok.fresh hp)) (I.hok.laid k hp new)
def Z2.write {x e:WP}{o:HO}{t':Nat}(I:Z2 X WZ σ H s)(mu:aj (H x))(he:e=x\/H e=some (.own x))(k:∀b u,b≠e->s.heap.get? b=some u->h'.get? b=some u)(heo:∃u,h'.get? e=some u)
  (new:J1 X.prog X.w (Je H x o) h' x o):Z2 X WZ σ (Je H x o) {s with heap:=h',toks:=t'}:=I.un (Un.write mu he k heo) (I.hok.write mu he k heo new)
def Z2.weak {σ':List (Option V)}(I:Z2 X WZ σ H s)(hl:σ'.length=σ.length)(w:∀(i:Nat) v,σ'[i]?=some (some v)->σ[i]?=some (some v)):Z2 X WZ σ' H s:=
 ⟨I.ok,I.os,I.bare,I.base,let ⟨m,hn,hl'⟩:=I.loc;⟨m,hn,λi x v e1 e2 e3=>hl' i x v e1 (w i v e2) e3⟩,I.cell,I.free,I.freeC,I.pin,I.hok,hl.trans I.len⟩
def Z2.pins_of {pins':List (WP×Obj)}(I:Z2 X WZ σ H s)(h:∀p∈pins',s.heap.get? p.1=some p.2/\H p.1=none/\p.1≠X.env.locals/\p.1∉X.fs/\∀v,p.2.data≠.cell v):Z2 X pins' σ H s:=
 ⟨I.ok,I.os,I.bare,I.base,I.loc,I.cell,I.free,I.freeC,λp hp=>(XS.mp hp).elim (λz=>I.pin p (CA _ z)) (h p),I.hok,I.len⟩
def jf {N:List Str}(hN:N.Nodup){i j:Nat}(a:N[i]?=some x)(b:N[j]?=some x):i=j:=by
 obtain⟨h1,e1⟩:=BW.mp a;obtain⟨h2,e2⟩:=BW.mp b;exact(List.getElem_inj hN).mp (e1.trans e2.symm)
def B0 {M:Model}{A:WM}{E:WQ->WR->Prop}{i:Nat}{Q:Unit->WR->Prop}(I:Z2 X WZ σ H s)(hN:X.N.Nodup)(hi:X.N[i]?=some x)(hx:de X.env.scope x)(r:Yg v u)
  (h:∀s',Z2 X WZ (σ.set i (some v)) H s'->(∃a,Heap.SameBut a s.heap s'.heap/\(a=X.env.locals\/X.env.cells.lookup x=some a))->Q () s') (hf:autoParam (X.fn x=true\/X.env.scope.names.lookup x=some .local) QzF):wpAny M A (storeName X.env x u) Q E s:=by
 obtain⟨m,hn,hl⟩:=id I.loc;have hcls:(X.env.scope.kind==.class||(X.env.scope.kind==.module&&X.env.locals !=X.env.globals))=false:=by rw[I.ok.kind];rfl
 have hiσ:i<σ.length:=by rw[I.len];exact(BW.mp hi).1
 have cne:=I.cne;have tracked:∀{a:WP} {h':WU},(∃o,s.heap.get? a=some o/\H a=none)->Heap.SameBut a s.heap h'->Td X.prog X.w H h':=λ{a h'} ha hs b ob e=>by
  obtain⟨_,_,hfree⟩:=ha;refine(I.hok b ob e).stay (λc w' hc q=>(hs.2 c ?_).trans q) (λ_ q=>q) λ_ _ q=>q;rintro rfl
  rcases hc with rfl | hc
  ·rw[hfree] at e;cases e
  ·rw[hfree] at hc;cases hc
 rcases hx with hk | hk
 ·refine wpAny_storeName_local hk hn (λh' hn' hs=>?_) hcls;obtain⟨oL,_,_,hoL,_⟩:=id hn;refine h _ ⟨I.ok,I.os,I.bare,⟨λb o e n hb hx=>?_,λb o e n hb hx=>?_,I.base.free,λb o e hx=>?_,I.base.tups,I.base.frzs,I.base.tbls⟩,⟨_,hn',λj y v' e1 e2 e3=>?_⟩,λy c e=>?_,I.free,I.freeC,λp hp=>?_,tracked ⟨oL,hoL,I.free⟩ hs,by simpa using I.len⟩ ⟨_,hs,.inl FQ⟩
  ·exact(hs.2 b (XH (XG (XD e) I.ok.above))).trans (I.base.keep b o e n hb hx)
  ·obtain⟨sl,e1⟩:=I.base.slot b o e n hb hx;exact⟨sl,(hs.2 b (XH (XG (XD e) I.ok.above))).trans e1⟩
  ·obtain⟨o',e1⟩:=I.base.there b o e hx;exact⟨o',(hs.2 b (XH (XG (XD e) I.ok.above))).trans e1⟩
  ·by_cases hj:j=i
   ·subst hj;rw[hi] at e1;cases e1;rw[DS hiσ] at e2
    cases e2
    exact⟨u,r,.inl ⟨hk,by simp⟩⟩
   ·rw[DW (Ne.symm hj)] at e2;obtain⟨u',r',q⟩:=hl j y v' e1 e2 e3;refine⟨u',r',?_⟩
    rcases q with⟨k,e⟩ | ⟨k,c,e,z⟩
    ·refine .inl ⟨k,?_⟩;have:y≠x:=λe=>hj (jf hN e1 (e▸hi));simp[this,e]
    ·exact .inr ⟨k,c,e,z.sameBut hs (cne y c e)⟩
  ·obtain⟨w',z⟩:=I.cell y c e;exact⟨w',z.sameBut hs (cne y c e)⟩
  ·obtain⟨e,n,ne,nf,d⟩:=I.pin p hp;exact⟨(hs.2 p.1 ne).trans e,n,ne,nf,d⟩
 ·have hfn:X.fn x=true:=by
   rcases hf with z | z
   ·exact z
   ·rw[z] at hk;cases hk
  obtain⟨c,hc⟩:=I.ok.has x (.inl hk);obtain⟨w',z⟩:=I.cell x c hc;refine wpAny_storeName_cell I.ok.kind hk hc z (λh' hc' hs=>?_);obtain⟨oc,hoc,hocd⟩:=id z;refine h {s with heap:=h'} ⟨I.ok,I.os,I.bare,⟨λb o e n hb hx=>?_,λb o e n hb hx=>?_,I.base.free,λb o e hx=>?_,I.base.tups,I.base.frzs,I.base.tbls⟩,⟨m,hn.sameBut hs (Ne.symm (cne x c hc)),λj y v' e1 e2 e3=>?_⟩,λy c' e=>?_,I.free,I.freeC,λp hp=>?_,tracked ⟨oc,hoc,I.freeC x c hc⟩ hs,by simpa using I.len⟩ ⟨c,hs,.inr hc⟩
  ·exact(hs.2 b (XH (XG (XD e) (I.ok.cab x c hfn hc)))).trans (I.base.keep b o e n hb hx)
  ·obtain⟨sl,e1⟩:=I.base.slot b o e n hb hx;exact⟨sl,(hs.2 b (XH (XG (XD e) (I.ok.cab x c hfn hc)))).trans e1⟩
  ·obtain⟨o',e1⟩:=I.base.there b o e hx;exact⟨o',(hs.2 b (XH (XG (XD e) (I.ok.cab x c hfn hc)))).trans e1⟩
  ·by_cases hj:j=i
   ·subst hj;rw[hi] at e1;cases e1;rw[DS hiσ] at e2
    cases e2
    exact⟨u,r,.inr ⟨.inl hk,c,hc,hc'⟩⟩
   ·rw[DW (Ne.symm hj)] at e2;obtain⟨u',r',q⟩:=hl j y v' e1 e2 e3;refine⟨u',r',?_⟩
    rcases q with q | ⟨k,c',e,z'⟩
    ·exact .inl q
    ·refine .inr ⟨k,c',e,z'.sameBut hs ?_⟩;rintro rfl;exact hj (jf hN e1 (I.ok.inj _ _ _ e hc▸hi))
  ·by_cases hcc:c'=c
   ·subst hcc;exact⟨_,hc'⟩
   ·obtain⟨w2,z2⟩:=I.cell y c' e;exact⟨w2,z2.sameBut hs hcc⟩
  ·obtain⟨e,n,ne,nf,d⟩:=I.pin p hp;refine⟨(hs.2 p.1 ?_).trans e,n,ne,nf,d⟩;intro q;rw[q,hoc] at e;have q':oc=p.2:=YH e;exact d w' (by rw[<-q'];exact hocd)
def yN {M:Model}{A:WM}{E:WQ->WR->Prop}{i:Nat}{Q:Unit->WR->Prop}(I:Z2 X WZ σ H s)(hN:X.N.Nodup)(hi:X.N[i]?=some x)(hx:de X.env.scope x)(r:Yg v u)
  (h:∀s',Z2 X WZ (σ.set i (some v)) H s'->Q () s') (hf:autoParam (X.fn x=true\/X.env.scope.names.lookup x=some .local) QzF):wpAny M A (storeName X.env x u) Q E s:=
 B0 I hN hi hx r (λs' I' _=>h s' I') hf
def Z2.call' {s':WR}(I:Z2 X WZ σ H s)(ho:s'.os=s.os)(u:Un (tw X.stack) ch H H' s.heap s'.heap)(hok:Td X.prog X.w H' s'.heap)(hg:AllBare s'.gens)
  (hch:∀b∈ch,(b∈X.ex\/X.s₀.heap.objs.size<=b)/\b≠X.env.locals/\(∀x c,X.env.cells.lookup x=some c->c≠b)/\∀p∈X.pn++WZ,p.1≠b):Z2 X WZ σ H' s':=by
 obtain⟨h',g',d',t',o'⟩:=s';have e:o'=s.os:=ho;subst e;exact I.call (g':=g') (t':=t') (d':=d') u hok hg hch
end
abbrev XK:=WQ->Option WP->Hp->Prop
abbrev St:=List (Option V)
abbrev VK:=V->Hp->Prop
abbrev TE:=St->Hp->VK->Prop
abbrev TT:=St->Hp->(Bool->Hp->Prop)->Prop
abbrev TA:=St->Hp->(List V->Hp->Prop)->Prop
structure Bu where
 nx:St->Hp->Prop
 rt:VK
 bk:St->Hp->Prop:=λ_ _=>False
 ct:St->Hp->Prop:=λ_ _=>False
abbrev TS:=Bu->St->Hp->Prop
def EP (X:Cx)(WZ:List (WP×Obj))(σ:St)(Q:VK)(u:WQ)(s':WR):Prop:=∃v H',Z2 X WZ σ H' s'/\Yg v u/\Q v H'
def TP (X:Cx)(WZ:List (WP×Obj))(σ:St)(Q:Bool->Hp->Prop)(b:Bool)(s':WR):Prop:=∃H',Z2 X WZ σ H' s'/\Q b H'
def AP (X:Cx)(WZ:List (WP×Obj))(σ:St)(Q:List V->Hp->Prop)(us:List WQ)(s':WR):Prop:=∃vs H',Z2 X WZ σ H' s'/\Yf vs us/\Q vs H'
def SP (X:Cx)(WZ:List (WP×Obj))(D:Bu)(f:Flow)(s':WR):Prop:=
 match f with
 | .next=>∃σ' H',Z2 X WZ σ' H' s'/\D.nx σ' H'
 | .brk=>∃σ' H',Z2 X WZ σ' H' s'/\D.bk σ' H'
 | .cont=>∃σ' H',Z2 X WZ σ' H' s'/\D.ct σ' H'
 | .ret u=>∃v σ' H',Z2 X WZ σ' H' s'/\Yg v u/\D.rt v H'
def PE (X:Cx)(e:WW)(t:TE):Prop:=
 ∀(WZ:List (WP×Obj)) (s:WR) (σ:St) (H:Hp) (Q:VK),Z2 X WZ σ H s->t σ H Q->wpAny (model X.prog X.w) X.A (eval e X.env) (EP X WZ σ Q) X.xe s
def PT (X:Cx)(e:WW)(t:TT):Prop:=
 ∀(WZ:List (WP×Obj)) (s:WR) (σ:St) (H:Hp) (Q:Bool->Hp->Prop),Z2 X WZ σ H s->t σ H Q->wpAny (model X.prog X.w) X.A (isTrue e X.env (eval e X.env)) (TP X WZ σ Q) X.xe s
def PW (X:Cx)(e:WW)(t:TT):Prop:=
 ∀(whole:Sem WQ) (WZ:List (WP×Obj)) (s:WR) (σ:St) (H:Hp) (Q:Bool->Hp->Prop),Z2 X WZ σ H s->t σ H Q->wpAny (model X.prog X.w) X.A (isTrue e X.env whole) (TP X WZ σ Q) X.xe s
def PW.pt (h:PW X e t):PT X e t:=h _
def PA (X:Cx)(es:List WW)(t:TA):Prop:=
 ∀(pos:Pos) (WZ:List (WP×Obj)) (s:WR) (σ:St) (H:Hp) (Q:List V->Hp->Prop),Z2 X WZ σ H s->t σ H Q->wpAny (model X.prog X.w) X.A (spliced (backTo pos (starEach es X.env))) (AP X WZ σ Q) X.xe s
def PS (X:Cx)(st:WV)(t:TS):Prop:=
 ∀(WZ:List (WP×Obj)) (s:WR) (σ:St) (H:Hp) (D:Bu),Z2 X WZ σ H s->t D σ H->wpAny (model X.prog X.w) X.A (exec st X.env) (SP X WZ D) X.xe s
def uk (X:Cx)(st:List WV)(t:TS):Prop:=
 ∀(WZ:List (WP×Obj)) (s:WR) (σ:St) (H:Hp) (D:Bu),Z2 X WZ σ H s->t D σ H->wpAny (model X.prog X.w) X.A (execs st X.env) (SP X WZ D) X.xe s
def Js {α:Type}{t:Sem α}{Q Q':α->WR->Prop}{E:WQ->WR->Prop}(h:wpAny M A t Q E s)(hQ:∀a s,Q a s->Q' a s):wpAny M A t Q' E s:=wpAny_mono h hQ λ_ _ x=>x
section
variable {X:Cx}
def d0 (i:Nat):TE:=λσ H Q=>∃v,σ[i]?=some (some v)/\Q v H
def tC (v:V):TE:=λ_ H Q=>Q v H
def gp {i:Nat}(hN:X.N[i]?=some x)(hv:aC X.env.scope x)(hd:autoParam ((x==("__debug__":Str))=false) QzD)(hcd:autoParam ((x==("__classdict__":Str))=false) QzD):PE X (.Name x pos) (d0 i):=by
 intro WZ s σ H Q I h;obtain⟨v,e,h⟩:=h;obtain⟨m,hn,hl⟩:=I.loc;obtain⟨u,r,l⟩:=hl i x v hN e hv;have fin:EP X WZ σ Q u s:=⟨v,H,I,r,h⟩
 rcases l with⟨hk,hm⟩ | ⟨hk,c,hc,hcell⟩
 ·exact wpAny_Name (wpAny_loadName_local I.ok.kind hk hn hm fin) hd
 ·rcases hk with hk | hk
  ·exact wpAny_Name (wpAny_loadName_cell I.ok.kind hk hc hcell fin) hd
  ·exact wpAny_Name (wpAny_loadName_free I.ok.kind hk hc hcell fin hcd) hd
def ql {i j pos}:PE X (.Constant (.int i) j pos) (tC (.int i)):=λ_ _ _ H _ I h=>wpAny_Constant_int ⟨.int i,H,I.tok _,⟨_,FQ⟩,h⟩
def cO {b j pos}:PE X (.Constant (.bool b) j pos) (tC (.bl b)):=λ_ _ _ H _ I h=>Constant_bool ⟨.bl b,H,I,FQ,h⟩
def gv {j pos}:PE X (.Constant .none j pos) (tC .non):=λ_ _ _ H _ I h=>Constant_none ⟨.non,H,I,FQ,h⟩
def gr {x j pos}:PE X (.Constant (.str x) j pos) (tC (.str x)):=λ_ _ _ H _ I h=>Calls.Constant_str ⟨.str x,H,I.tok _,⟨_,FQ⟩,h⟩
def Gl (X:Cx)(x:Str):Prop:=X.env.kindOf x=some .globalImplicit
def Ln {E:WQ->WR->Prop}{pos:Pos}{Q:WQ->WR->Prop}(I:Z2 X WZ σ H s)(hg:Gl X x)(hm:X.mg x=some u)(h:Q u s)
  (hd:autoParam ((x==("__debug__":Str))=false) QzD):wpAny (model X.prog X.w) X.A (eval (.Name x pos) X.env) Q E s:=
 Calls.Name_function_global I.ok.kind hg (Calls.loadGlobal_global (by rw[I.ok.glob];exact I.mod.glob.keeps I.bk) hm h) hd
def Vo {E:WQ->WR->Prop}{pos:Pos}{Q:WQ->WR->Prop}(I:Z2 X WZ σ H s)(hg:Gl X x)(hm:X.mg x=none)(hv:bootBuiltins x=some u)(h:Q u s)
  (hn:autoParam (x≠"__name__") QzD) (hd:autoParam ((x==("__debug__":Str))=false) QzD):wpAny (model X.prog X.w) X.A (eval (.Name x pos) X.env) Q E s:=by
 obtain⟨mb,h1,h2⟩:=I.mod.blt;exact Calls.Name_function_global I.ok.kind hg (Calls.loadGlobal_builtin (by rw[I.ok.glob];exact I.mod.glob.keeps I.bk) hm (by rw[I.ok.blt];exact h1.keeps I.bk) ((h2 x hn).trans hv) h) hd
def m9 (hg:Gl X x)(hm:X.mg x=some u)(r:Yg v u)(hd:autoParam ((x==("__debug__":Str))=false) QzD):PE X (.Name x pos) (tC v):=
 λ_ _ _ H _ I h=>Ln I hg hm ⟨v,H,I,r,h⟩ hd
def mG (hg:Gl X x)(hm:X.mg x=none)(hv:bootBuiltins x=some u)(r:Yg v u)(hn:autoParam (x≠"__name__") QzD)(hd:autoParam ((x==("__debug__":Str))=false) QzD):PE X (.Name x pos) (tC v):=
 λ_ _ _ H _ I h=>Vo I hg hm hv ⟨v,H,I,r,h⟩ hn hd
def Zc8 (ta tb:TE)(k:Int->Int->Hp->Prop):St->Hp->Prop:=λσ H=>ta σ H λx H1=>tb σ H1 λy H2=>∃i j,x=.int i/\y=.int j/\k i j H2
def Zcz (ta tb:TE):TE:=λσ H Q=>Zc8 ta tb (λi j H2=>(-(2^64)<i/\i<2^64)/\Q (.int (i*j)) H2) σ H
variable {a b:WW}{ta tb:TE}{pos:Pos}
def Zc0 (ta:TE):TE:=λσ H Q=>ta σ H λx H1=>Q (.bl (decide (x=.non))) H1
def tB (t:TE):TT:=λσ H Q=>t σ H λx H1=>∃c,x=.bl c/\Q c H1
variable {tA tB':TT}{Y4:List WW}
def dU (t u:TT):TT:=λσ H Q=>t σ H λc H1=>if c=true then u σ H1 Q else Q false H1
def Zca (t u:TT):TT:=λσ H Q=>t σ H λc H1=>if c=true then Q true H1 else u σ H1 Q
def dF (t:TT):TT:=λσ H Q=>t σ H λc H1=>Q (!c) H1
def ma (ha:PT X a tA):PW X (.BoolOp .And [a] pos) tA:=by
 intro wh WZ s σ H Q I h;refine isTrue_and (Js (ha WZ s σ H Q I h) λc s1 e=>?_)
 cases c with
 | true=>exact isTrue_and_nil e
 | false=>exact e
def iZ (ha:PT X a tA):PW X (.BoolOp .Or [a] pos) tA:=by
 intro wh WZ s σ H Q I h;refine isTrue_or (Js (ha WZ s σ H Q I h) λc s1 e=>?_)
 cases c with
 | false=>exact isTrue_or_nil e
 | true=>exact e
def hJ (ha:PT X a tA)(hb:PW X (.BoolOp .And (b::Y4) pos) tB'):PW X (.BoolOp .And (a::b::Y4) pos) (dU tA tB'):=by
 intro wh WZ s σ H Q I h;refine isTrue_and (Js (ha WZ s σ H _ I h) λc s1 zZ=>?_);obtain⟨H1,I1,q1⟩:=zZ
 cases c with
 | true=>exact hb wh WZ s1 σ H1 Q I1 q1
 | false=>exact⟨H1,I1,q1⟩
def cB (ha:PT X a tA)(hb:PW X (.BoolOp .Or (b::Y4) pos) tB'):PW X (.BoolOp .Or (a::b::Y4) pos) (Zca tA tB'):=by
 intro wh WZ s σ H Q I h;refine isTrue_or (Js (ha WZ s σ H _ I h) λc s1 zZ=>?_);obtain⟨H1,I1,q1⟩:=zZ
 cases c with
 | true=>exact⟨H1,I1,q1⟩
 | false=>exact hb wh WZ s1 σ H1 Q I1 q1
def hV (ha:PT X a tA):PT X (.UnaryOp .Not a pos) (dF tA):=by
 intro WZ s σ H Q I h;exact isTrue_not (ha WZ s σ H (λc H1=>Q (!c) H1) I h)
def kC (ta tb:TE):TE:=λσ H Q=>ta σ H λx H1=>∃c,x=.bl c/\if c=true then tb σ H1 Q else Q (.bl false) H1
def dC (ta tb:TE):TE:=λσ H Q=>ta σ H λx H1=>∃c,x=.bl c/\if c=true then Q (.bl true) H1 else tb σ H1 Q
def gt {op}(h:PE X a t):PE X (.BoolOp op [a] pos) t:=λWZ s σ H Q I hw=>BoolOp_one (h WZ s σ H Q I hw)
def gz (ha:PE X a ta)(hb:PE X (.BoolOp .And (b::Y4) pos) tb):PE X (.BoolOp .And (a::b::Y4) pos) (kC ta tb):=by
 intro WZ s σ H Q I h;refine BoolOp_and (Js (ha WZ s σ H _ I h) λv s1 zZ=>?_);obtain⟨x,H1,I1,r1,q1⟩:=zZ;obtain⟨c,rfl,q1⟩:=q1
 cases r1
 refine wpAny_truthy_bool ?_
 cases c with
 | true=>exact hb WZ s1 σ H1 Q I1 q1
 | false=>exact⟨.bl false,H1,I1,FQ,q1⟩
def cH (ha:PE X a ta)(hb:PE X (.BoolOp .Or (b::Y4) pos) tb):PE X (.BoolOp .Or (a::b::Y4) pos) (dC ta tb):=by
 intro WZ s σ H Q I h;refine BoolOp_or (Js (ha WZ s σ H _ I h) λv s1 zZ=>?_);obtain⟨x,H1,I1,r1,q1⟩:=zZ;obtain⟨c,rfl,q1⟩:=q1
 cases r1
 refine wpAny_truthy_bool ?_
 cases c with
 | false=>exact hb WZ s1 σ H1 Q I1 q1
 | true=>exact⟨.bl true,H1,I1,FQ,q1⟩
def Zcc (t:TT)(ta tb:TE):TE:=λσ H Q=>t σ H λc H1=>if c=true then ta σ H1 Q else tb σ H1 Q
def qm (hc:PT X c tA)(ha:PE X a ta)(hb:PE X b tb):PE X (.IfExp c a b pos) (Zcc tA ta tb):=by
 intro WZ s σ H Q I h;refine wpAny_IfExp (Js (hc WZ s σ H _ I h) λd s1 zZ=>?_);obtain⟨H1,I1,q1⟩:=zZ
 cases d with
 | true=>exact ha WZ s1 σ H1 Q I1 q1
 | false=>exact hb WZ s1 σ H1 Q I1 q1
end
def Ws (K:WY)(H:Hp)(a:WP)(xs:List V):Prop:=
 Rd H a (.lst xs)\/
  ∃(o:Obj) (its:Array WQ) (n:Nat),K.lookup a=some o/\o.cls=.type "list"/\o.dict=none/\o.data=.seq its n/\its.size<=sizeLine/\Yf xs its.toList
def U8 (K:WY)(H:Hp)(a:WP)(xs:List V):Prop:=
 Rd H a (.tup xs)\/
  ∃(o:Obj) (its:Array WQ) (n:Nat),K.lookup a=some o/\o.cls=.type "tuple"/\o.data=.seq its n/\its.size<=sizeLine/\Yf xs its.toList
noncomputable def Zbp:WQ->Option V
 | .none=>some .non
 | .bool b=>some (.bl b)
 | .int i _=>some (.int i)
 | .str x _=>some (.str x)
 | .bytes b _=>some (.byt b)
 | .float b _=>some (.flt b)
 | .ref a=>some (.ref a)
 | .type n=>some (.ty n)
 | _=>none
def Yg.abs (r:Yg x u):Zbp u=some x:=by
 cases x with
 | non=>cases r;rfl
 | bl _=>cases r;rfl
 | int _=>obtain⟨t,rfl⟩:=r;rfl
 | str _=>obtain⟨t,rfl⟩:=r;rfl
 | byt _=>obtain⟨t,rfl⟩:=r;rfl
 | flt _=>obtain⟨t,rfl⟩:=r;rfl
 | ref _=>cases r;rfl
 | ty _=>cases r;rfl
def Yg.inj (r:Yg x u)(q:Yg y u):x=y:=YH (r.abs.symm.trans q.abs)
theorem Yf.inj {xs ys:List V}{us:List WQ}(h:Yf xs us)(g:Yf ys us):xs=ys:=by
 induction h generalizing ys with
 | nil=>cases g;rfl
 | cons r t i=>cases g with | cons r' t'=>rw[r.inj r',i t']
section
variable {X:Cx}{WZ:List (WP×Obj)}{σ:St}{H:Hp}{s:WR}{a:WP}{xs ys:List V}
def Ws.of {K:WY}(h:H a=some (.lst xs)):Ws K H a xs:=.inl (.inl h)
def U8.of {K:WY}(h:H a=some (.tup xs)):U8 K H a xs:=.inl (.inl h)
def Z2.list (I:Z2 X WZ σ H s)(h:Ws X.K H a xs):∃its:List WQ,Yf xs its/\PlainL s.heap a its.toArray/\xs.length<=sizeLine:=by
 rcases h with h | ⟨o,its,n,hk,hc,hd,hs,hz,r⟩
 ·obtain⟨z,its,n,r,e⟩:=h.ok I.hok;exact⟨its,r,⟨_,n,e,FQ,FQ,FQ⟩,z⟩
 ·refine⟨its.toList,r,⟨o,n,I.kIn a o hk,hc,hd,by simpa using hs⟩,?_⟩;have e:=r.length;simp only[Array.length_toList] at e;omega
def Z2.tuple (I:Z2 X WZ σ H s)(h:U8 X.K H a xs):∃its:List WQ,Yf xs its/\IsTup s.heap a its.toArray/\xs.length<=sizeLine:=by
 rcases h with h | ⟨o,its,n,hk,hc,hs,hz,r⟩
 ·obtain⟨z,its,r,p⟩:=h.ok I.hok;exact⟨its,r,p,z⟩
 ·refine⟨its.toList,r,⟨o,I.kIn a o hk,hc,n,by simpa using hs⟩,?_⟩;have e:=r.length;simp only[Array.length_toList] at e;omega
def Z2.list_inj (I:Z2 X WZ σ H s)(h:Ws X.K H a xs)(h':Ws X.K H a ys):xs=ys:=by
 obtain⟨its,r,⟨o,n,e,_,_,d⟩,_⟩:=I.list h;obtain⟨its',r',⟨o',n',e',_,_,d'⟩,_⟩:=I.list h';rw[e] at e';cases e';rw[d] at d';injection d' with d1 _
 have:its=its':=by simpa using congrArg Array.toList d1
 subst this;exact r.inj r'
def Z2.tuple_inj (I:Z2 X WZ σ H s)(h:U8 X.K H a xs)(h':U8 X.K H a ys):xs=ys:=by
 obtain⟨its,r,⟨o,e,_,n,d⟩,_⟩:=I.tuple h;obtain⟨its',r',⟨o',e',_,n',d'⟩,_⟩:=I.tuple h';rw[e] at e';cases e';rw[d] at d';injection d' with d1 _
 have:its=its':=by simpa using congrArg Array.toList d1
 subst this;exact r.inj r'
end
abbrev Cx.wish (X:Cx)(E:WQ->WR->Prop):Cx:={X with xe:=E}
abbrev Cx.nox (X:Cx):Cx:=X.wish λ_ _=>False
def Cx.Ok.wish {X:Cx}(ok:X.Ok)(E:WQ->WR->Prop):(X.wish E).Ok:=
 ⟨ok.mod,ok.kind,ok.glob,ok.blt,ok.above,ok.inj,ok.has,ok.cab,ok.hd,ok.frames,ok.stk,ok.exf,ok.bs,ok.bsz,ok.noex,ok.exfs,ok.funs,ok.frf⟩
def Cx.Ok.unwish {X:Cx}{E:WQ->WR->Prop}(ok:(X.wish E).Ok):X.Ok:=
 ⟨ok.mod,ok.kind,ok.glob,ok.blt,ok.above,ok.inj,ok.has,ok.cab,ok.hd,ok.frames,ok.stk,ok.exf,ok.bs,ok.bsz,ok.noex,ok.exfs,ok.funs,ok.frf⟩
section
variable {X:Cx}{WZ:List (WP×Obj)}{σ:St}{H:Hp}{s:WR}{E:WQ->WR->Prop}
def Z2.wish (I:Z2 X WZ σ H s)(E:WQ->WR->Prop):Z2 (X.wish E) WZ σ H s:=⟨I.ok.wish E,I.os,I.bare,I.base,I.loc,I.cell,I.free,I.freeC,I.pin,I.hok,I.len⟩
def Z2.unwish (I:Z2 (X.wish E) WZ σ H s):Z2 X WZ σ H s:=⟨I.ok.unwish,I.os,I.bare,I.base,I.loc,I.cell,I.free,I.freeC,I.pin,I.hok,I.len⟩
def SP.unwish {f:Flow}(h:SP (X.wish E) WZ D f s'):SP X WZ D f s':=by
 cases f with
 | next=>obtain⟨σ',H',I,q⟩:=h;exact⟨σ',H',I.unwish,q⟩
 | brk=>obtain⟨σ',H',I,q⟩:=h;exact⟨σ',H',I.unwish,q⟩
 | cont=>obtain⟨σ',H',I,q⟩:=h;exact⟨σ',H',I.unwish,q⟩
 | ret u=>obtain⟨v,σ',H',I,r,q⟩:=h;exact⟨v,σ',H',I.unwish,r,q⟩
def uk.nox {st:List WV}(h:uk X.nox st t):uk X st t:=λWZ s σ H D I hw=>
 wpAny_mono (h WZ s σ H D (I.wish _) hw) (λ_ _ q=>q.unwish) λ_ _ z=>False.elim z
end
section
variable {X:Cx}{st:WV}{Y4:List WV}{t u:TS}{e:WW}{te:TE}{pos:Pos}
def dH:TS:=λD σ H=>D.nx σ H
def aO (t u:TS):TS:=λD σ H=>t {D with nx:=u D} σ H
def mh:uk X [] dH:=λ_ _ σ H _ I h=>wpAny_execs_nil ⟨σ,H,I,h⟩
def qd (h1:PS X st t)(h2:uk X Y4 u):uk X (st::Y4) (aO t u):=by
 intro WZ s σ H D I h;refine wpAny_execs_cons (Js (h1 WZ s σ H {D with nx:=u D} I h) λf s1 q=>?_)
 cases f with
 | next=>
  obtain⟨σ',H',I',q⟩:=q;exact h2 WZ s1 σ' H' D I' q
 | ret v=>exact q
 | brk=>exact q
 | cont=>exact q
def mf (h1:PS X st t):uk X [st] t:=by
 intro WZ s σ H D I h;refine wpAny_execs_cons (Js (h1 WZ s σ H D I h) λf s1 q=>?_)
 cases f with
 | next=>exact wpAny_execs_nil q
 | ret v=>exact q
 | brk=>exact q
 | cont=>exact q
def Z2.quiet (I:Z2 X WZ σ H s):interactive X.env=false:=by simp[interactive,I.ok.kind]
def dN (te:TE):TS:=λD σ H=>te σ H λ_ H1=>D.nx σ H1
def mj (he:PE X e te)(hs:autoParam (swapsWith e none pos.line X.env=pure false) QzR):PS X (.Expr e pos) (dN te):=by
 intro WZ s σ H D I h;exact wpAny_Expr_any (Js (he WZ s σ H _ I h) λv s1 ⟨x,H1,I1,r1,q1⟩=>⟨σ,H1,I1,q1⟩) I.quiet hs
def aP (te:TE):TS:=λD σ H=>te σ H D.rt
def gb (he:PE X e te):PS X (.Return (some e) pos) (aP te):=by
 intro WZ s σ H D I h;exact wpAny_Return_some (Js (he WZ s σ H _ I h) λv s1 ⟨x,H1,I1,r1,q1⟩=>⟨x,σ,H1,I1,r1,q1⟩)
def dA:TS:=λD _ H=>D.rt .non H
def mi:PS X (.Return none pos) dA:=λ_ _ σ H _ I h=>wpAny_Return_none ⟨.non,σ,H,I,FQ,h⟩
def aS (c:TT)(t u:TS):TS:=λD σ H=>c σ H λb H1=>if b=true then t D σ H1 else u D σ H1
def cE (hc:PT X c tc)(ha:uk X a t)(hb:uk X b u):PS X (.If c a b pos) (aS tc t u):=by
 intro WZ s σ H D I h;refine wpAny_If (Js (hc WZ s σ H _ I h) λd s1 zZ=>?_);obtain⟨H1,I1,q1⟩:=zZ
 cases d with
 | true=>exact ha WZ s1 σ H1 D I1 q1
 | false=>exact hb WZ s1 σ H1 D I1 q1
def aR:TS:=λ_ _ _=>False
end
abbrev TG:=V->St->Hp->(St->Hp->Prop)->Prop
abbrev xt:=List V->St->Hp->(St->Hp->Prop)->Prop
def PG (X:Cx)(target:WW)(t:TG):Prop:=
 ∀(WZ:List (WP×Obj)) (s:WR) (σ:St) (H:Hp) (v:V) (u:WQ) (Q:St->Hp->Prop),Z2 X WZ σ H s->Yg v u->t v σ H Q->
  wpAny (model X.prog X.w) X.A (assign target X.env u) (λ_ s'=>∃σ' H',Z2 X WZ σ' H' s'/\Q σ' H') X.xe s
def ai (X:Cx)(ts:List WW)(t:xt):Prop:=
 ∀(WZ:List (WP×Obj)) (s:WR) (σ:St) (H:Hp) (vs:List V) (us:List WQ) (Q:St->Hp->Prop),Z2 X WZ σ H s->Yf vs us->t vs σ H Q->
  wpAny (model X.prog X.w) X.A (assignInOrder ((assignEach ts X.env).map (·.2)) us) (λ_ s'=>∃σ' H',Z2 X WZ σ' H' s'/\Q σ' H') X.xe s
abbrev ko:=V->V->V->Hp->(Hp->Prop)->Prop
def af (X:Cx)(t:ko):Prop:=
 ∀(WZ:List (WP×Obj)) (s:WR) (σ:St) (H:Hp) (o i v:V) (ov iv u:WQ) (Q:Hp->Prop),Z2 X WZ σ H s->Yg o ov->Yg i iv->Yg v u->t o i v H Q->
  wpAny (model X.prog X.w) X.A (setItem ov iv u) (λ_ s'=>∃H',Z2 X WZ σ H' s'/\Q H') X.xe s
abbrev Zbt:=V->V->Hp->VK->Prop
section
variable {X:Cx}{pos:Pos}
def Xd (i:Nat):TG:=λv σ H Q=>Q (σ.set i (some v)) H
def Jf {i:Nat}(hN:X.N.Nodup)(hi:X.N[i]?=some x)(hx:de X.env.scope x)(hf:autoParam (X.fn x=true\/X.env.scope.names.lookup x=some .local) QzF):PG X (.Name x pos) (Xd i):=by
 intro WZ s σ H v u Q I r h;exact wpAny_assign_Name (yN I hN hi hx r (λs' I'=>⟨_,H,I',h⟩) hf)
def jH:xt:=λvs σ H Q=>vs=[]/\Q σ H
def Sz (t:TG)(u:xt):xt:=λvs σ H Q=>∃v r,vs=v::r/\t v σ H λσ' H'=>u r σ' H' Q
def Lf:ai X [] jH:=by
 intro WZ s σ H vs us Q I r h;obtain⟨e,h⟩:=h;subst e
 cases r
 exact assignInOrder_nil ⟨σ,H,I,h⟩
def X3 (h1:PG X e t)(h2:ai X es u)
  (hs:autoParam ((assignEach (e::es) X.env).map (·.2)=assign e X.env::(assignEach es X.env).map (·.2)) QzR):ai X (e::es) (Sz t u):=by
 intro WZ s σ H vs us Q I r h;obtain⟨v,vr,e1,h⟩:=h;subst e1
 cases r with
 | cons r rr=>
  rw[hs];refine assignInOrder_cons (Js (h1 WZ s σ H _ _ _ I r h) λ_ s1 zZ=>?_);obtain⟨σ1,H1,I1,q1⟩:=zZ;exact h2 WZ s1 σ1 H1 _ _ Q I1 rr q1
def jG (K:WY)(n:Nat)(t:xt):TG:=λv σ H Q=>∃a xs,v=.ref a/\U8 K H a xs/\xs.length=n/\t xs σ H Q
def Es {k:Nat}{n:Nat}(hc:X.calm=true)(h:ai X es t)
  (hn:autoParam ((assignEach es X.env).length=n) QzR) (hst:autoParam ((assignEach es X.env).findIdx? (·.1)=none) QzR):PG X (.Tuple es k pos) (jG X.K n t):=by
 intro WZ s σ H v u Q I r hw;obtain⟨a,xs,e1,hq,hl,hw⟩:=hw;subst e1
 cases r
 obtain⟨its,rv,ht,hz⟩:=I.tuple hq;refine assign_Tuple_tuple (I.ok.hd hc) ht (by simp[hn,<-hl,rv.length]) hst λh' hx=>?_;have I1:Z2 X WZ σ H {s with heap:=h'}:=I.kept (t':=s.toks) λb o e=>hx b o (XH (XD e)) e;exact h WZ _ σ H xs _ Q I1 (by simpa using rv) hw
def Za7 (to ti:TE)(t:ko):TG:=λv σ H Q=>to σ H λo H1=>ti σ H1 λi H2=>t o i v H2 λH3=>Q σ H3
def gn (ho:PE X o to)(hi:PE X i ti)(hs:af X t)
  (ha:∀v,assign (.Subscript o i pos) X.env v=(do
   let ov <-holding [v] (eval o X.env)
   let iv <-holding [v,ov] (eval i X.env)
   standAt pos
   holding [v,ov,iv] (setItem ov iv v)
   release [v,ov,iv] []):=by intro _;rfl):PG X (.Subscript o i pos) (Za7 to ti t):=by
 intro WZ s σ H v u Q I r h;rw[ha];refine XA (wpAny_holding (Js (ho WZ s σ H _ I h) λov s1 zZ=>?_));obtain⟨x,H1,I1,r1,q1⟩:=zZ;refine XA (wpAny_holding (Js (hi WZ s1 σ H1 _ I1 q1) λiv s2 zZ=>?_));obtain⟨y,H2,I2,r2,q2⟩:=zZ;refine XA (wpAny_standAt (XA (wpAny_holding (Js (hs WZ s2 σ H2 x y v ov iv u _ I2 r1 r2 r q2) λ_ s3 zZ=>?_))));obtain⟨H3,I3,q3⟩:=zZ;exact wpAny_release ⟨σ,H3,I3,q3⟩
def dS (te:TE)(g:TG):TS:=λD σ H=>te σ H λx H1=>g x σ H1 D.nx
def ge (he:PE X e te)(hg:PG X tg g)(hs:autoParam (swapsWithSole [tg] e pos.line X.env=pure false) QzR)(hw:autoParam (swappedStores [tg] e X.env=pure none) QzR)
  (h1:autoParam ((assignEach [tg] X.env).map (·.2)=[assign tg X.env]) QzR):PS X (.Assign [tg] e pos) (dS te g):=by
 intro WZ s σ H D I h;refine wpAny_Assign_stores (Js (he WZ s σ H _ I h) λv s1 zZ=>?_) hs hw;obtain⟨x,H1,I1,r1,q1⟩:=zZ;rw[h1];exact Js (hg WZ s1 σ H1 x v _ I1 r1 q1) λ_ s2 q=>q
def hZ {i:Nat}(hN:X.N.Nodup)(hi:X.N[i]?=some x)(hx:de X.env.scope x)(he:PE X e te)(hs:autoParam (swapsWith e (some (.Name x pos')) pos.line X.env=pure false) QzR)(hf:autoParam (X.fn x=true\/X.env.scope.names.lookup x=some .local) QzF):
  PS X (.Assign [.Name x pos'] e pos) (dS te (Xd i)):=by
 intro WZ s σ H D I h;refine wpAny_Assign_Name (Js (he WZ s σ H _ I h) λv s1 zZ=>?_) hs;obtain⟨y,H1,I1,r1,q1⟩:=zZ;exact yN I1 hN hi hx r1 (λs2 I2=>⟨_,H1,I2,q1⟩) hf
def Zcy (i j:Nat)(ta:TA):TS:=λD σ H=>ta σ H λvs H1=>∃v w,vs=[v,w]/\D.nx ((σ.set i (some v)).set j (some w)) H1
def Zc7 (i:Nat)(te:TE)(ti:Zbt):TS:=λD σ H=>∃x,σ[i]?=some (some x)/\te σ H λy H1=>ti x y H1 λz H2=>D.nx (σ.set i (some z)) H2
def Zcd (to ti te:TE)(tget:V->V->Hp->VK->Prop)(tip:Zbt)(tset:ko):TS:=λD σ H=>to σ H λo H1=>ti σ H1 λi H2=>tget o i H2 λx H3=>te σ H3 λy H4=>tip x y H4 λz H5=>tset o i z H5 λH6=>D.nx σ H6
def Zdp (X:Cx)(t:V->V->Hp->VK->Prop):Prop:=
 ∀(WZ:List (WP×Obj)) (s:WR) (σ:St) (H:Hp) (o i:V) (ov iv:WQ) (Q:VK),Z2 X WZ σ H s->Yg o ov->Yg i iv->t o i H Q->
  wpAny (model X.prog X.w) X.A (getItem ov iv) (EP X WZ σ Q) X.xe s
def Zdy (f:Int->Int->Int):Zbt:=λx y H Q=>∃i j,x=.int i/\y=.int j/\Q (.int (f i j)) H
def sQ (c:TT)(tb:TS):TS:=λD σ H=>∃W:Nat->St->Hp->Prop,(∃m,W m σ H)/\∀m σ H,W m σ H->
 c σ H λb H1=>if b=true then ∃N:St->Hp->Prop,(∀σ' H',N σ' H'->∃m',m'<m/\W m' σ' H')/\tb {D with nx:=N,ct:=N,bk:=D.nx} σ H1 else D.nx σ H1
def qe (hp:PassesOwn (model X.prog X.w) X.A X.env X.xe)(hc:PT X c tc)(hb:uk X body tb):PS X (.While c body [] pos) (sQ tc tb):=by
 intro WZ s σ H D I h;obtain⟨W,⟨m0,w0⟩,turn⟩:=h;refine wpAny_While (codeAny_whileLoop (λn s'=>∃σ' H',Z2 X WZ σ' H' s'/\W n σ' H') ?_ m0 ⟨σ,H,I,w0⟩);rintro n s1 ⟨σ1,H1,I1,w1⟩;refine wpAny_passesOwn hp (Js (hc WZ s1 σ1 H1 _ I1 (turn n σ1 H1 w1)) λb s2 zZ=>?_);obtain⟨H2,I2,q2⟩:=zZ
 cases b with
 | true=>
  obtain⟨N,hN,q2⟩:=q2;rw[XY rfl];refine wpAny_passesOwn hp (Js (hb WZ s2 σ1 H2 _ I2 q2) λf s3 q3=>?_)
  cases f with
  | next=>
   obtain⟨σ3,H3,I3,n3⟩:=q3;obtain⟨m',hm,w3⟩:=hN σ3 H3 n3;exact⟨m',hm,σ3,H3,I3,w3⟩
  | cont=>
   obtain⟨σ3,H3,I3,n3⟩:=q3;obtain⟨m',hm,w3⟩:=hN σ3 H3 n3;exact⟨m',hm,σ3,H3,I3,w3⟩
  | brk=>exact q3
  | ret v=>exact q3
 | false=>
  rw[XX YJ];exact wpAny_execs_nil ⟨σ1,H2,I2,q2⟩
end
structure It where
 go:Nat->Hp->Prop
 yld:Nat->Hp->V->Hp->Prop
 stop:Nat->Hp->Prop
def Mq (X:Cx)(WZ:List (WP×Obj))(H:Hp)(b:WP):Prop:=
 H b=none/\b≠X.env.locals/\b∉X.fs/\(b∈X.ex\/X.s₀.heap.objs.size<=b)/\(∀x c,X.env.cells.lookup x=some c->c≠b)/\∀p∈X.pn++WZ,p.1≠b
def Z2.fpOk {H H':Hp}{b:WP}(I:Z2 X WZ σ H s)(hb:s.heap.objs.size<=b)(hn:H' b=none):Mq X WZ H' b:=by
 refine⟨hn,DJ (XG I.lt hb),I.nofs hb,.inr (XN I.sz hb),λx c e z=>?_,λp hp z=>?_⟩
 ·obtain⟨v,q⟩:=I.cell x c e;exact absurd (XG q.lt (by rw[z];exact hb)) (CY _)
 ·exact absurd (XG (XD (I.pin p hp).1) (by rw[z];exact hb)) (CY _)
structure jY (P:Program)(w:World)(K:W.Frag)(tg:Expr)(J:It)(fp:List Addr)(it:Addr)(tn:Nat->Heap->Prop):Prop where
 mem:it∈fp
 obj:∀i h,tn i h->∀b∈fp,∃o,h.get? b=some o/\∀v,o.data≠.cell v
 keep:∀i h h',tn i h->(∀b∈fp,∀o,h.get? b=some o->h'.get? b=some o)->tn i h'
 item:∀(X:Cx),X.prog=P->X.w=w->X.K=K->X.calm=true->∀(i:Nat) (WZ:List (WP×Obj)) (s:WR) (σ:St) (H:Hp) (E:WQ->WR->Prop),Z2 X WZ σ H s->(∀b∈fp,Mq X WZ H b)->tn i s.heap->J.go i H->
  wpAny (model P w) X.A (pyNext (.ref it)) (λr s1=>∃u,r=some u/\
   wpAny (model P w) X.A (letOwnedTupleGo tg (.ref it) u) (λ_ s2=>∃x H',Z2 X WZ σ H' s2/\Yg x u/\J.yld i H x H'/\tn (i+1) s2.heap/\∀b∈fp,H' b=none) E s1) E s
 done:∀(X:Cx),X.prog=P->X.w=w->X.K=K->X.calm=true->∀(i:Nat) (WZ:List (WP×Obj)) (s:WR) (σ:St) (H:Hp) (E:WQ->WR->Prop),Z2 X WZ σ H s->(∀b∈fp,Mq X WZ H b)->tn i s.heap->J.stop i H->
  wpAny (model P w) X.A (pyNext (.ref it)) (λr s1=>r=none/\Z2 X WZ σ H s1) E s
 self:∀(A:WM) (i:Nat) (s:WR) (Q:WQ->WR->Prop) (E:WQ->WR->Prop),tn i s.heap->Q (.ref it) s->wpAny (model P w) A (pyIter (.ref it)) Q E s
abbrev TI:=St->Hp->(It->Hp->Prop)->Prop
def ah (X:Cx)(WZ:List (WP×Obj))(σ:St)(tg:WW)(R:It->Hp->Prop)(itv:WQ)(s2:WR):Prop:=
 ∃(it:WP) (fp:List WP) (tn:Nat->WU->Prop) (J:It) (H':Hp),itv=.ref it/\Z2 X WZ σ H' s2/\jY X.prog X.w X.K tg J fp it tn/\tn 0 s2.heap/\(∀b∈fp,Mq X WZ H' b)/\R J H'
def PI (X:Cx)(tg iter:WW)(wi:TI):Prop:=
 ∀(WZ:List (WP×Obj)) (s:WR) (σ:St) (H:Hp) (R:It->Hp->Prop),Z2 X WZ σ H s->wi σ H R->
  wpAny (model X.prog X.w) X.A (eval iter X.env) (λv s1=>wpAny (model X.prog X.w) X.A (pyIter v) (ah X WZ σ tg R) X.xe s1) X.xe s
def vN {M:Model}{A:WM}{E:WQ->WR->Prop}{s:WR}{tg:WW}{it:WP}{u:WQ}{Q:Unit->WR->Prop}(ho:s.heap.get? it=some o)(hc:o.cls=.type n)(hd:o.data=.fields vs)
  (hn:["enumerate","zip","dict_itemiterator","dict_reverseitemiterator","odict_iterator","itertools.zip_longest","itertools.pairwise"].contains n=false) (hQ:Q () s):wpAny M A (letOwnedTupleGo tg (.ref it) u) Q E s:=by
 unfold letOwnedTupleGo
 cases tg<;>first
  | exact XB hQ
  | (cases u<;>first
    | exact XB hQ
    | (refine XA (wpAny_load ho ?_)
       rw[hc,hd];show wpAny M A (if (["enumerate","zip","dict_itemiterator","dict_reverseitemiterator","odict_iterator","itertools.zip_longest","itertools.pairwise"].contains n&&vs[0]?==some (rawInt _))=true then _ else _) Q E s;rw[XX (by intro h;rw[hn,Bool.false_and] at h;cases h)];exact XB hQ))
def aH (K:WY)(a:WP):It:=
 ⟨λi H=>∃xs x,Ws K H a xs/\xs[i]?=some x,λi H x H'=>H'=H/\∀xs,Ws K H a xs->xs[i]?=some x,λi H=>∃xs,Ws K H a xs/\xs.length<=i⟩
def Zb1 (K:WY)(a:WP):It:=
 ⟨λi H=>∃xs x,U8 K H a xs/\xs[i]?=some x,λi H x H'=>H'=H/\∀xs,U8 K H a xs->xs[i]?=some x,λi H=>∃xs,U8 K H a xs/\xs.length<=i⟩
def ap (lo:Int)(n:Nat):It:=⟨λi _=>i<n,λi H x H'=>H'=H/\x=.int (lo+i),λi _=>n<=i⟩
def uy {K:WY}(a it:WP):jY P w K tg (aH K a) [it] it (λi h=>h.IsListIter it a i) where
 mem:=by simp
 obj:=λi h st b hb=>by
  have e:b=it:=by simpa using hb
  subst e;obtain⟨o,e,c,d⟩:=st;exact⟨o,e,λv z=>by rw[d] at z;cases z⟩
 keep:=λi h h' st k=>st.at λo e=>k it (by simp) o e
 item:=by
  intro X hP hw hK hc i WZ s σ H E I hf st hg;subst hP hw hK;obtain⟨xs,x,hq,hx⟩:=hg;obtain⟨its,rv,p,hz⟩:=I.list hq;obtain⟨u,hu,ru⟩:=rv.get hx;obtain⟨f0,f1,f2,f3,f4,f5⟩:=hf it (by simp);refine wpAny_pyNext_list_item st p.isList (x:=u) (by simpa using hu) λh' st' sb=>?_;have I1:Z2 X WZ σ H {s with heap:=h'}:=I.turned (t':=s.toks) (λb o hb e=>(sb.2 b hb).trans e) f0 f1 f3 f4 f5;obtain⟨o,e,c,d⟩:=id st';exact⟨u,FQ,vN (s:={s with heap:=h'}) e c d (by decide) ⟨x,H,I1,ru,⟨FQ,λys hy=>by rw[I.list_inj hy hq];exact hx⟩,st',λb hb=>(hf b hb).1⟩⟩
 done:=by
  intro X hP hw hK hc i WZ s σ H E I hf st hg;subst hP hw hK;obtain⟨xs,hq,hx⟩:=hg;obtain⟨its,rv,p,hz⟩:=I.list hq;obtain⟨f0,f1,f2,f3,f4,f5⟩:=hf it (by simp);have hl:=rv.length;exact wpAny_pyNext_list_end (I.ok.hd hc) st p.isList (by simp;omega) λh' eb=>⟨FQ,I.turned (t':=s.toks) (λb o hb e=>eb b o hb e) f0 f1 f3 f4 f5⟩
 self:=λ_ _ _ _ _ st h=>wpAny_pyIter_listiter st h
def xz {K:WY}(a it:WP):jY P w K tg (Zb1 K a) [it] it (λi h=>h.IsTupleIter it a i) where
 mem:=by simp
 obj:=λi h st b hb=>by
  have e:b=it:=by simpa using hb
  subst e;obtain⟨o,e,c,d⟩:=st;exact⟨o,e,λv z=>by rw[d] at z;cases z⟩
 keep:=λi h h' st k=>st.at λo e=>k it (by simp) o e
 item:=by
  intro X hP hw hK hc i WZ s σ H E I hf st hg;subst hP hw hK;obtain⟨xs,x,hq,hx⟩:=hg;obtain⟨its,rv,p,hz⟩:=I.tuple hq;obtain⟨u,hu,ru⟩:=rv.get hx;obtain⟨f0,f1,f2,f3,f4,f5⟩:=hf it (by simp);refine wpAny_pyNext_tuple_item st (show s.heap.IsTuple a its.toArray from p) (x:=u) (by simpa using hu) λh' st' sb=>?_;have I1:Z2 X WZ σ H {s with heap:=h'}:=I.turned (t':=s.toks) (λb o hb e=>(sb.2 b hb).trans e) f0 f1 f3 f4 f5;obtain⟨o,e,c,d⟩:=id st';exact⟨u,FQ,vN (s:={s with heap:=h'}) e c d (by decide) ⟨x,H,I1,ru,⟨FQ,λys hy=>by rw[I.tuple_inj hy hq];exact hx⟩,st',λb hb=>(hf b hb).1⟩⟩
 done:=by
  intro X hP hw hK hc i WZ s σ H E I hf st hg;subst hP hw hK;obtain⟨xs,hq,hx⟩:=hg;obtain⟨its,rv,p,hz⟩:=I.tuple hq;obtain⟨f0,f1,f2,f3,f4,f5⟩:=hf it (by simp);have hl:=rv.length;exact wpAny_pyNext_tuple_end (I.ok.hd hc) st (show s.heap.IsTuple a its.toArray from p) (by simp;omega) λh' eb=>⟨FQ,I.turned (t':=s.toks) (λb o hb e=>eb b o hb e) f0 f1 f3 f4 f5⟩
 self:=λ_ _ _ _ _ st h=>wpAny_pyIter_tupleiter st h
def xA {K:WY}(it:WP)(lo:Int)(n:Nat):jY P w K tg (ap lo n) [it] it (λi h=>IsRangeIter h it (lo+(i:Nat)*1) ((n:Int)-(i:Nat)) 1) where
 mem:=by simp
 obj:=λi h st b hb=>by
  have e:b=it:=by simpa using hb
  subst e;exact⟨_,st,λv z=>by
   have z':Data.fields _=Data.cell v:=z
   cases z'⟩
 keep:=λi h h' st k=>k it (by simp) _ st
 item:=by
  intro X hP hw hK hc i WZ s σ H E I hf st hg;subst hP hw hK;obtain⟨f0,f1,f2,f3,f4,f5⟩:=hf it (by simp);have W:=Walks.range (prog:=X.prog) (w:=X.w) (I.ok.hd hc) it lo 1 n;refine W.item i s _ _ hg st λv h' tk hv st' kk=>?_;obtain⟨t,rfl⟩:=hv;have I1:Z2 X WZ σ H {s with heap:=h',toks:=tk}:=I.turned (λb o hb e=>kk b o (by simpa using hb) e) f0 f1 f3 f4 f5;refine⟨_,FQ,vN (s:={s with heap:=h',toks:=tk}) (n:="range_iterator") st' FQ FQ (by decide) ⟨.int (lo+i),H,I1,⟨t,?_⟩,⟨FQ,FQ⟩,st',λb hb=>(hf b hb).1⟩⟩;rw[Int.mul_one]
 done:=by
  intro X hP hw hK hc i WZ s σ H E I hf st hg;subst hP hw hK;obtain⟨f0,f1,f2,f3,f4,f5⟩:=hf it (by simp);exact wpAny_pyNext_range_end (I.ok.hd hc) st (by have:n<=i:=hg;omega) λh' eb=>⟨FQ,I.turned (t':=s.toks) (λb o hb e=>eb b o hb e) f0 f1 f3 f4 f5⟩
 self:=λ_ _ _ _ _ st h=>wpAny_pyIter_rangeiter st h
section
variable {X:Cx}{tg:WW}
def ja {R:It->Hp->Prop}{E:WQ->WR->Prop}{lo hi:Int}{t u v:Tok}{tk:Nat}(I:Z2 X WZ σ H s)(h1: -(2^62)<=lo)(h2:lo<2^62)(h3: -(2^62)<=hi)(h4:hi<2^62)
  (q:R (ap lo (hi-lo).toNat) H):wpAny (model X.prog X.w) X.A (pyIter (.ref s.heap.objs.size)) (ah X WZ σ tg R) E {s with heap:=s.heap.push {cls:=.type "range",data:=.fields #[.int lo t,.int hi u,.int 1 v]},toks:=tk}:=by
 refine wpAny_pyIter_range (IsRange.new ..) (small_one h1 h2 h3 h4) ?_;have I1:Z2 X WZ σ H {s with heap:=s.heap.push {cls:=.type "range",data:=.fields #[.int lo t,.int hi u,.int 1 v]},toks:=tk}:=I.kept λb o e=>XC _ e;refine⟨(s.heap.push {cls:=.type "range",data:=.fields #[.int lo t,.int hi u,.int 1 v]}).objs.size,[(s.heap.push {cls:=.type "range",data:=.fields #[.int lo t,.int hi u,.int 1 v]}).objs.size],_,_,H,FQ,
  I1.kept (t':=tk) λb o e=>XC _ e,xA _ lo (hi-lo).toNat,?_,λb hb=>?_,q⟩
 ·have e1:lo+((0:Nat):Int)*1=lo:=by simp
  have e2:(((hi-lo).toNat:Nat):Int)-((0:Nat):Int)=Builtin.Range.rangeSize lo hi 1:=by rw[rangeSize_one];split<;>omega
  show IsRangeIter _ _ (lo+((0:Nat):Int)*1) ((((hi-lo).toNat:Nat):Int)-((0:Nat):Int)) 1;rw[e1,e2];exact XF _ FQ
 ·have e:b=(s.heap.push {cls:=.type "range",data:=.fields #[.int lo t,.int hi u,.int 1 v]}).objs.size:=by simpa using hb
  subst e;exact I1.fpOk (XE _) (I1.hok.fresh (XE _))
def bB (ta:TA):TI:=λσ H R=>ta σ H λvs H1=>∃j:Int,vs=[.int j]/\ -(2^62)<=j/\j<2^62/\R (ap 0 j.toNat) H1
def bz (ta:TA):TI:=λσ H R=>ta σ H λvs H1=>∃i j:Int,vs=[.int i,.int j]/\(-(2^62)<=i/\i<2^62/\ -(2^62)<=j/\j<2^62)/\R (ap i (j-i).toNat) H1
def uD {a:WW}{p pos:Pos}(hg:Gl X "range")(hm:X.mg "range"=none)(ha:PA X [a] ta)(hs:autoParam (starEach [a] X.env=[(false,eval a X.env)]) QzR):PI X tg (.Call (.Name "range" p) [a] [] pos) (bB ta):=by
 intro WZ s σ H R I h;refine Call_ (Vo I hg hm boot_range (BZ (Js (ha pos WZ s σ H _ I h) λus s1 zZ=>?_) hs FQ));obtain⟨vs,H1,I1,r1,q1⟩:=zZ;obtain⟨j,e,q1,q2,q⟩:=q1;subst e
 cases r1 with
 | cons r rr=>
  cases rr
  obtain⟨t,rfl⟩:=r;exact call_range_1 (ja I1 (by omega) (by omega) q1 q2 (by simpa using q))
def uC {a b:WW}{p pos:Pos}(hg:Gl X "range")(hm:X.mg "range"=none)(ha:PA X [a,b] ta)(hs:autoParam (starEach [a,b] X.env=[(false,eval a X.env),(false,eval b X.env)]) QzR)(hs2:autoParam (starEach [b] X.env=[(false,eval b X.env)]) QzR):
  PI X tg (.Call (.Name "range" p) [a,b] [] pos) (bz ta):=by
 intro WZ s σ H R I h;refine Call_ (Vo I hg hm boot_range (BZ (Js (ha pos WZ s σ H _ I h) λus s1 ⟨vs,H1,I1,r1,q1⟩=>?_) (by rw[hs,hs2]) (by rw[hs2];rfl)));obtain⟨i,j,e,⟨q1,q2,q3,q4⟩,q⟩:=q1;subst e
 cases r1 with
 | cons r rr=>
  cases rr with
  | cons r' rr=>
   cases rr
   obtain⟨t,rfl⟩:=r;obtain⟨t',rfl⟩:=r';exact call_range_2 (ja I1 q1 q2 q3 q4 q)
def dM (wi:TI)(g:TG)(tb:TS):TS:=λD σ H=>wi σ H λJ H1=>∃W:Nat->Nat->St->Hp->Prop,(∃m,W 0 m σ H1)/\∀i m σ H,W i m σ H->
 (J.stop i H/\D.nx σ H)\/(J.go i H/\∃N:St->Hp->Prop,(∀σ' H',N σ' H'->∃m',m'<m/\W (i+1) m' σ' H')/\∀x H',J.yld i H x H'->g x σ H' λσ2 H2=>tb {D with nx:=N,ct:=N,bk:=D.nx} σ2 H2)
def Er (fp:List WP)(h:WU):List (WP×Obj):=fp.filterMap λb=>(h.get? b).map λo=>(b,o)
def R8 {fp:List WP}{h:WU}{b:WP}(hb:b∈fp)(e:h.get? b=some o):(b,o)∈Er fp h:=FE.mpr ⟨b,hb,by rw[e];rfl⟩
def uI {p:WP×Obj}(hp:p∈Er fp h):p.1∈fp/\h.get? p.1=some p.2:=by
 obtain⟨b,hb,e⟩:=FE.mp hp
 cases q:h.get? b with
 | none=>rw[q] at e;cases e
 | some o=>
  rw[q] at e;have e':(b,o)=p:=YH e;subst e';exact⟨hb,q⟩
def Z2.pinned {fp:List WP}(I:Z2 X WZ σ H s)(hf:∀b∈fp,Mq X WZ H b)(ho:∀b∈fp,∃o,s.heap.get? b=some o/\∀v,o.data≠.cell v):Z2 X (WZ++Er fp s.heap) σ H s:=
 I.pins_of λp hp=>(XS.mp hp).elim (λz=>I.pin p (XT _ z)) λz=>by
  obtain⟨hb,e⟩:=uI z;obtain⟨f0,f1,f2,_⟩:=hf p.1 hb;obtain⟨o,e',d⟩:=ho p.1 hb;rw[e] at e';cases e';exact⟨e,f0,f1,f2,d⟩
def Z2.unpinned {WZ pl:List (WP×Obj)}(I:Z2 X (WZ++pl) σ H s):Z2 X WZ σ H s:=I.pins_of λp hp=>I.pin p (XT _ (CA _ hp))
def gc {pos:Pos}(hp:PassesOwn (model X.prog X.w) X.A X.env X.xe)(hc:X.calm=true)(hi:PI X tg iter wi)(hg:PG X tg g)(hb:uk X body tb)
  (hs:∀x,foldedSetIterable iter X.env x=pure x:=by intro _;rfl):PS X (.For tg iter body [] pos) (dM wi g tb):=by
 intro WZ s σ H D I h;refine wpAny_For (Js (hi WZ s σ H _ I h) λv s1 h1=>Js h1 λitv s2 h2=>?_) hs;obtain⟨it,fp,tn,J,H2,e,I2,T,st2,f2,W,⟨m0,w0⟩,turn⟩:=h2;subst e;have stat:∀{H':Hp},(∀b∈fp,H' b=none)->∀b∈fp,Mq X WZ H' b:=λhn b hb=>⟨hn b hb,(f2 b hb).2⟩;refine codeAny_forLoop_any (λn s'=>∃i σ' H',Z2 X WZ σ' H' s'/\tn i s'.heap/\(∀b∈fp,H' b=none)/\W i n σ' H') ?_ m0 ⟨0,σ,H2,I2,st2,λb hb=>(f2 b hb).1,w0⟩;rintro n s3 ⟨i,σ3,H3,I3,st3,fr3,w3⟩
 rcases turn i n σ3 H3 w3 with⟨stop,qn⟩ | ⟨go,N,hN,step⟩
 ·refine wpAny_passesOwn hp (Js (T.done X FQ FQ FQ hc i WZ s3 σ3 H3 X.xe I3 (stat fr3) st3 stop) λr s4 zZ=>?_);obtain⟨hr,I4⟩:=zZ;subst hr;exact wpAny_execs_nil ⟨σ3,H3,I4,qn⟩
 ·refine wpAny_passesOwn hp (Js (T.item X FQ FQ FQ hc i WZ s3 σ3 H3 X.xe I3 (stat fr3) st3 go) λr s4 zZ=>?_);obtain⟨u,hr,h4⟩:=zZ;subst hr;refine wpAny_passesOwn hp (Js h4 λ_ s5 zZ=>?_);obtain⟨x,H5,I5,r5,y5,st5,fr5⟩:=zZ;have I5':=I5.pinned (stat fr5) (T.obj _ _ st5);refine wpAny_passesOwn hp (Js (hg _ s5 σ3 H5 x u _ I5' r5 (step x H5 y5)) λ_ s6 zZ=>?_);obtain⟨σ6,H6,I6,q6⟩:=zZ;refine wpAny_passesOwn hp (Js (hb _ s6 σ6 H6 _ I6 q6) λf s7 q7=>?_);have again:∀{σ7:St} {H7:Hp},Z2 X (WZ++Er fp s5.heap) σ7 H7 s7->N σ7 H7->∃m,m<n/\∃i σ' H',Z2 X WZ σ' H' s7/\tn i s7.heap/\(∀b∈fp,H' b=none)/\W i m σ' H':=λ{σ7 H7} I7 n7=>by
   obtain⟨m',hm,w7⟩:=hN σ7 H7 n7;refine⟨m',hm,i+1,σ7,H7,I7.unpinned,T.keep _ _ _ st5 λb hb o e=>(I7.pin (b,o) (XT _ (XT _ (R8 hb e)))).1,λb hb=>?_,w7⟩;obtain⟨o,e,d⟩:=T.obj _ _ st5 b hb;exact(I7.pin (b,o) (XT _ (XT _ (R8 hb e)))).2.1
  cases f with
  | next=>obtain⟨σ7,H7,I7,n7⟩:=q7;exact again I7 n7
  | cont=>obtain⟨σ7,H7,I7,n7⟩:=q7;exact again I7 n7
  | brk=>obtain⟨σ7,H7,I7,q7⟩:=q7;exact⟨σ7,H7,I7.unpinned,q7⟩
  | ret v=>obtain⟨x7,σ7,H7,I7,r7,q7⟩:=q7;exact⟨x7,σ7,H7,I7.unpinned,r7,q7⟩
end
abbrev R2:=V->V->Hp->VK->Prop
def Ot (X:Cx)(f:WQ->WQ->Sem WQ)(r:R2):Prop:=
 ∀(WZ:List (WP×Obj)) (s:WR) (σ:St) (H:Hp) (x y:V) (v u:WQ) (Q:VK),Z2 X WZ σ H s->Yg x v->Yg y u->r x y H Q->
  wpAny (model X.prog X.w) X.A (f v u) (EP X WZ σ Q) X.xe s
def Zbr (X:Cx)(f:WQ->Sem WQ)(r:V->Hp->VK->Prop):Prop:=
 ∀(WZ:List (WP×Obj)) (s:WR) (σ:St) (H:Hp) (x:V) (v:WQ) (Q:VK),Z2 X WZ σ H s->Yg x v->r x H Q->
  wpAny (model X.prog X.w) X.A (f v) (EP X WZ σ Q) X.xe s
def Vl (X:Cx)(f:WQ)(r:List V->Hp->VK->Prop):Prop:=
 ∀(WZ:List (WP×Obj)) (s:WR) (σ:St) (H:Hp) (xs:List V) (us:List WQ) (Q:VK),Z2 X WZ σ H s->Yf xs us->r xs H Q->
  wpAny (model X.prog X.w) X.A (call f us) (EP X WZ σ Q) X.xe s
def Zbs (X:Cx)(r:V->Hp->(Bool->Hp->Prop)->Prop):Prop:=
 ∀(WZ:List (WP×Obj)) (s:WR) (σ:St) (H:Hp) (x:V) (v:WQ) (Q:Bool->Hp->Prop),Z2 X WZ σ H s->Yg x v->r x H Q->
  wpAny (model X.prog X.w) X.A (truthy v) (TP X WZ σ Q) X.xe s
def dE (r:R2)(ta tb:TE):TE:=λσ H Q=>ta σ H λx H1=>tb σ H1 λy H2=>r x y H2 Q
def Zb9 (r:V->Hp->VK->Prop)(ta:TE):TE:=λσ H Q=>ta σ H λx H1=>r x H1 Q
def rI (C:Int->Int->Prop)(g:Int->Int->V):R2:=λx y H Q=>∃i j,x=.int i/\y=.int j/\C i j/\Q (g i j) H
def kH (g:Int->Int->V):R2:=λx y H Q=>∃i j,x=.int i/\y=.int j/\Q (g i j) H
def rU (g:Int->V):V->Hp->VK->Prop:=λx H Q=>∃i,x=.int i/\Q (g i) H
section
variable {X:Cx}{a b c:WW}{ta tb tc:TE}{pos:Pos}
def fR (ha:PE X a ta)(hb:PE X b tb){R:V->V->Hp->Prop}(I:Z2 X WZ σ H s)
  (h:ta σ H λx H1=>tb σ H1 λy H2=>R x y H2) {Q:WQ->WR->Prop} {f:WQ->WQ->Sem WQ}
  (hf:∀v u s2 x y H2,Z2 X WZ σ H2 s2->Yg x v->Yg y u->R x y H2->wpAny (model X.prog X.w) X.A (f v u) Q X.xe s2):
  wpAny (model X.prog X.w) X.A (eval a X.env) (λv s₁=>wpAny (model X.prog X.w) X.A (eval b X.env) (λu s₂=>wpAny (model X.prog X.w) X.A (f v u) Q X.xe s₂) X.xe s₁) X.xe s:=by
 refine Js (ha WZ s σ H _ I h) λv s1 zZ=>?_;obtain⟨x,H1,I1,r1,q1⟩:=zZ;refine Js (hb WZ s1 σ H1 _ I1 q1) λu s2 zZ=>?_;obtain⟨y,H2,I2,r2,q2⟩:=zZ;exact hf v u s2 x y H2 I2 r1 r2 q2
def cI (ho:Ot X (binaryOp op) r)(ha:PE X a ta)(hb:PE X b tb):PE X (.BinOp a op b pos) (dE r ta tb):=by
 intro WZ s σ H Q I h;exact wpAny_BinOp (fR ha hb I h λv u s2 x y H2 I2 rx ry q=>ho WZ s2 σ H2 x y v u Q I2 rx ry q)
def cG {r:V->Hp->VK->Prop}(ho:Zbr X (unaryOp op) r)(ha:PE X a ta):PE X (.UnaryOp op a pos) (Zb9 r ta):=by
 intro WZ s σ H Q I h;exact UnaryOp_ (Js (ha WZ s σ H _ I h) λv s1 ⟨x,H1,I1,r1,q1⟩=>ho WZ s1 σ H1 x v Q I1 r1 q1)
def eQ {f:WQ->WQ->Sem WQ}{C:Int->Int->Prop}{g:Int->Int->Int}
  (rule:∀(i j:Int) (t u:Tok) (s:WR) (Q:WQ->WR->Prop) (E:WQ->WR->Prop),C i j->Q (.int (g i j) s.toks) {s with toks:=s.toks+1}->wpAny (model X.prog X.w) X.A (f (.int i t) (.int j u)) Q E s):
  Ot X f (rI C λi j=>.int (g i j)):=by
 intro WZ s σ H x y v u Q I rx ry h;obtain⟨i,j,rfl,rfl,hc,q⟩:=h;obtain⟨t,rfl⟩:=rx;obtain⟨t',rfl⟩:=ry;exact rule i j t t' s _ _ hc ⟨.int (g i j),H,I.tok _,⟨_,FQ⟩,q⟩
def cV {f:WQ->WQ->Sem WQ}{g:Int->Int->Int}
  (rule:∀(i j:Int) (t u:Tok) (s:WR) (Q:WQ->WR->Prop) (E:WQ->WR->Prop),Q (.int (g i j) s.toks) {s with toks:=s.toks+1}->wpAny (model X.prog X.w) X.A (f (.int i t) (.int j u)) Q E s):
  Ot X f (kH λi j=>.int (g i j)):=by
 intro WZ s σ H x y v u Q I rx ry h;obtain⟨i,j,rfl,rfl,q⟩:=h;obtain⟨t,rfl⟩:=rx;obtain⟨t',rfl⟩:=ry;exact rule i j t t' s _ _ ⟨.int (g i j),H,I.tok _,⟨_,FQ⟩,q⟩
def mL {f:WQ->WQ->Sem WQ}{g:Int->Int->Bool}
  (rule:∀(i j:Int) (t u:Tok) (s:WR) (Q:WQ->WR->Prop) (E:WQ->WR->Prop),Q (.bool (g i j)) s->wpAny (model X.prog X.w) X.A (f (.int i t) (.int j u)) Q E s):
  Ot X f (kH λi j=>.bl (g i j)):=by
 intro WZ s σ H x y v u Q I rx ry h;obtain⟨i,j,rfl,rfl,q⟩:=h;obtain⟨t,rfl⟩:=rx;obtain⟨t',rfl⟩:=ry;exact rule i j t t' s _ _ ⟨.bl (g i j),H,I,FQ,q⟩
def au (i j:Int):Prop:=0<j/\j<1073741824
def oM (i j:Int):Prop:=0<=j/\j<=1000000/\i.natAbs<2^64
def oN (i j:Int):Prop:=(-(2^64)<i/\i<2^64)\/(-(2^64)<j/\j<2^64)
def oN.ok (h:oN i j):IntMulOk i j:=by
 rcases h with⟨h1,h2⟩ | ⟨h1,h2⟩
 ·exact .of_left (intBits_le_64 h1 h2)
 ·exact .of_right (intBits_le_64 h1 h2)
def gF:Ot X (binaryOp .Add) (kH λi j=>.int (i+j)):=cV λ_ _ _ _ _ _ _ q=>add_int q
def g9:Ot X (binaryOp .Sub) (kH λi j=>.int (i-j)):=cV λ_ _ _ _ _ _ _ q=>sub_int q
def gB:Ot X (binaryOp .Mult) (rI oN λi j=>.int (i*j)):=eQ λ_ _ _ _ _ _ _ hc q=>mul_int q hc.ok
def mJ:Ot X (binaryOp .FloorDiv) (rI au λi j=>.int (i/j)):=eQ λi j _ _ _ _ _ hc q=>by
 have h1:(0:Int)<j:=hc.1;have h2:j<1073741824:=hc.2;exact floordiv_int (by omega) (by rw[Int.fdiv_eq_ediv_of_nonneg i (by omega)];exact q) (.inl (PyProof.noPylong_small (by omega)))
def gC:Ot X (binaryOp .Mod) (rI (λ_ j=>0<j) λi j=>.int (i%j)):=eQ λi j _ _ _ _ _ hc q=>by
 have h1:(0:Int)<j:=hc;exact mod_int' (by omega) (by rw[Int.fmod_eq_emod_of_nonneg i (by omega)];exact q)
def gA:Ot X (binaryOp .Pow) (rI oM λi j=>.int (i^j.toNat)):=eQ λ_ _ _ _ _ _ _ hc q=>pow_int_small hc.1 hc.2.1 hc.2.2 q
def Zcw {f:WQ->Sem WQ}{g:Int->Int}
  (rule:∀(i:Int) (t:Tok) (s:WR) (Q:WQ->WR->Prop) (E:WQ->WR->Prop),Q (.int (g i) s.toks) {s with toks:=s.toks+1}->wpAny (model X.prog X.w) X.A (f (.int i t)) Q E s):
  Zbr X f (rU λi=>.int (g i)):=by
 intro WZ s σ H x v Q I rx h;obtain⟨i,rfl,q⟩:=h;obtain⟨t,rfl⟩:=rx;exact rule i t s _ _ ⟨.int (g i),H,I.tok _,⟨_,FQ⟩,q⟩
def iA:Zbr X (unaryOp .USub) (rU λi=>.int (-i)):=Zcw λ_ _ _ _ _ q=>neg_int q
end
def Zda:V->V->Bool
 | .non,.non=>true | .non,.int _=>true | .int _,.non=>true | .non,.bl _=>true | .bl _,.non=>true | .non,.str _=>true | .str _,.non=>true
 | .int _,.int _=>true | .bl _,.bl _=>true | .str _,.str _=>true | .byt _,.byt _=>true
 | .int _,.str _=>true | .str _,.int _=>true | .bl _,.str _=>true | .str _,.bl _=>true
 | _,_=>false
section
variable {X:Cx}{a b c:WW}{ta tb tc:TE}{pos:Pos}
def wG {Q:VK}{k k':Bool}(I:Z2 X WZ σ H s)(q:Q (.bl k) H)(e:k=k'):EP X WZ σ Q (.bool k') s:=by
 subst e;exact⟨.bl k,H,I,FQ,q⟩
def cR:Ot X (compareOp .Lt) (kH λi j=>.bl (decide (i<j))):=mL λ_ _ _ _ _ _ _ q=>lt_int q
def cS:Ot X (compareOp .LtE) (kH λi j=>.bl (decide (i<=j))):=mL λ_ _ _ _ _ _ _ q=>le_int q
def cT:Ot X (compareOp .Gt) (kH λi j=>.bl (decide (j<i))):=mL λ_ _ _ _ _ _ _ q=>gt_int q
def cU:Ot X (compareOp .GtE) (kH λi j=>.bl (decide (j<=i))):=mL λ_ _ _ _ _ _ _ q=>ge_int q
def uH:Ot X (compareOp .Lt) (λx y H Q=>∃i j,x=.str i/\y=.str j/\Q (.bl (decide (i.cps.toList<j.cps.toList))) H):=by
 intro WZ s σ H x y v u Q I rx ry h;obtain⟨i,j,rfl,rfl,q⟩:=h;obtain⟨t,rfl⟩:=rx;obtain⟨t',rfl⟩:=ry;exact lt_str (wG I q FQ)
def gD:Ot X (compareOp .Is) (λx y H Q=>y=.non/\Q (.bl (decide (x=.non))) H):=by
 intro WZ s σ H x y v u Q I rx ry h;obtain⟨rfl,q⟩:=h
 cases ry
 refine is_none_gen (wG I q ?_)
 cases x<;>first
  | (cases rx;rfl)
  | (obtain⟨t,rfl⟩:=rx;rfl)
def mI:Ot X (compareOp .IsNot) (λx y H Q=>y=.non/\Q (.bl (!decide (x=.non))) H):=by
 intro WZ s σ H x y v u Q I rx ry h;obtain⟨rfl,q⟩:=h
 cases ry
 refine isnot_none_gen (wG I q ?_)
 cases x<;>first
  | (cases rx;rfl)
  | (obtain⟨t,rfl⟩:=rx;rfl)
def Zcj:HO->Bool
 | .lst _=>true
 | .ins _ _ _=>true
 | _=>false
def Ot.or {f:WQ->WQ->Sem WQ}(h:Ot X f r)(h':Ot X f r'):Ot X f (λx y H Q=>r x y H Q\/r' x y H Q):=by
 intro WZ s σ H x y v u Q I rx ry q
 rcases q with q | q
 ·exact h WZ s σ H x y v u Q I rx ry q
 ·exact h' WZ s σ H x y v u Q I rx ry q
def Xk (b:WW){op:CmpOp}(h:autoParam (op≠.In) QzD)(h2:autoParam (op≠.NotIn) QzD):behindInMarks op b=false:=by
 have e1:(op==CmpOp.In)=false:=by cases op<;>first | rfl | exact absurd FQ h
 have e2:(op==CmpOp.NotIn)=false:=by cases op<;>first | rfl | exact absurd FQ h2
 cases b<;>simp[behindInMarks,e1,e2]
def mF (ho:Ot X (compareOp op) r)(ha:PE X a ta)(hb:PE X b tb)(hm:behindInMarks op b=false):PE X (.Compare a [op] [b] pos) (dE r ta tb):=by
 intro WZ s σ H Q I h;exact wpAny_Compare1 (fR ha hb I h λv u s2 x y H2 I2 rx ry q=>ho WZ s2 σ H2 x y v u Q I2 rx ry q) hm
def sR (t:TE):TT:=λσ H Q=>t σ H λx H'=>∃k,x=.bl k/\Q k H'
def me (ho:Ot X (compareOp op) r)(ha:PE X a ta)(hb:PE X b tb)(hm:behindInMarks op b=false):PT X (.Compare a [op] [b] pos) (sR (dE r ta tb)):=by
 intro WZ s σ H Q I h;refine wpAny_isTrue_Compare1 (Js (ha WZ s σ H _ I h) λv s1 zZ=>?_) hm;obtain⟨x,H1,I1,r1,q1⟩:=zZ;refine Js (hb WZ s1 σ H1 _ I1 q1) λu s2 zZ=>?_;obtain⟨y,H2,I2,r2,q2⟩:=zZ;refine Js (ho WZ s2 σ H2 x y v u _ I2 r1 r2 q2) λc s3 zZ=>?_;obtain⟨z,H3,I3,r3,k,e,q3⟩:=zZ
 subst e
 cases r3
 exact wpAny_truthy_bool ⟨H3,I3,q3⟩
def sX (r r':R2)(ta tb tc:TE):TE:=λσ H Q=>ta σ H λx H1=>tb σ H1 λy H2=>r x y H2 λz H3=>∃k,z=.bl k/\
 (if k=true then tc σ H3 λw' H4=>r' y w' H4 Q else Q (.bl false) H3)
def rZ (ho:Ot X (compareOp op) r)(ho':Ot X (compareOp op') r')(ha:PE X a ta)(hb:PE X b tb)(hc:PE X c tc)
  (hm:lastMarks [op,op'] [b,c]=false:=by with_unfolding_all rfl):PT X (.Compare a [op,op'] [b,c] pos) (sR (sX r r' ta tb tc)):=by
 intro WZ s σ H Q I h;refine isTrue_chain (Js (ha WZ s σ H _ I h) λv s1 zZ=>?_) hm;obtain⟨x,H1,I1,r1,q1⟩:=zZ;refine test_link (Js (hb WZ s1 σ H1 _ I1 q1) λu s2 zZ=>?_);obtain⟨y,H2,I2,r2,q2⟩:=zZ;refine Js (ho WZ s2 σ H2 x y v u _ I2 r1 r2 q2) λd s3 zZ=>?_;obtain⟨z,H3,I3,r3,k,e,q3⟩:=zZ
 subst e
 cases r3
 refine wpAny_truthy_bool ?_
 cases k with
 | false=>
  obtain⟨k',e',q'⟩:=q3
  cases e'
  exact ite_ff ⟨H3,I3,q'⟩
 | true=>
  refine ite_tt (test_last (Js (hc WZ s3 σ H3 _ I3 q3) λw' s4 zZ=>?_));obtain⟨z',H4,I4,r4,q4⟩:=zZ;refine Js (ho' WZ s4 σ H4 y z' u w' _ I4 r2 r4 q4) λd' s5 zZ=>?_;obtain⟨z2,H5,I5,r5,k2,e2,q5⟩:=zZ;subst e2
  cases r5
  exact wpAny_truthy_bool ⟨H5,I5,q5⟩
def eE (K:WY)(x:V)(H:Hp)(k:Bool):Prop:=
 match x with
 | .non=>k=false
 | .bl b=>k=b
 | .int i=>k=(i !=0)
 | .str y=>y.length<=sizeLine/\k=((y.length:Int) !=0)
 | .byt y=>y.size<=sizeLine/\k=((y.size:Int) !=0)
 | .ref p=>(∃xs,Ws K H p xs/\k=!xs.isEmpty)\/(∃xs,U8 K H p xs/\k=!xs.isEmpty)\/∃kvs,H p=some (.dK kvs)/\k=!kvs.isEmpty
 | _=>False
def wx {κ:Type}{kvs:List (κ×V)}{vs:List (κ×WQ)}(r:KV kvs vs):(!vs.isEmpty)=!kvs.isEmpty:=by
 cases r<;>rfl
def Dc (r:Yf xs its):(!its.toArray.isEmpty)=!xs.isEmpty:=by
 cases r<;>simp
def Ii:(sizeLine:Nat)<2^63:=by rw[sizeLine_eq];decide
def iD:Zbs X (λx H Q=>∃k,eE X.K x H k/\Q k H):=by
 intro WZ s σ H x v Q I rx h;obtain⟨k,e,q⟩:=h;have hl:=Ii;have hs:sizeLine=16777216:=sizeLine_eq
 cases x with
 | non=>
  cases rx
  have e':k=false:=e;subst e';exact truthy_none ⟨H,I,q⟩
 | bl b=>
  cases rx
  have e':k=b:=e;subst e';exact wpAny_truthy_bool ⟨H,I,q⟩
 | int i=>
  obtain⟨t,rfl⟩:=rx;have e':k=(i !=0):=e;subst e';exact PySem.P.truthy_int ⟨H,I,q⟩
 | str y=>
  obtain⟨t,rfl⟩:=rx;obtain⟨hy,e'⟩:y.length<=sizeLine/\k=((y.length:Int) !=0):=e;subst e';exact PySem.P.truthy_str (by omega) ⟨H,I.tok _,q⟩
 | byt y=>
  obtain⟨t,rfl⟩:=rx;obtain⟨hy,e'⟩:y.size<=sizeLine/\k=((y.size:Int) !=0):=e;subst e';exact W.truthy_bytes (by omega) ⟨H,I.tok _,q⟩
 | ref p=>
  cases rx
  have e':(∃xs,Ws X.K H p xs/\k=!xs.isEmpty)\/(∃xs,U8 X.K H p xs/\k=!xs.isEmpty)\/∃kvs,H p=some (.dK kvs)/\k=!kvs.isEmpty:=e
  rcases e' with⟨xs,hx,e'⟩ | ⟨xs,hx,e'⟩ | ⟨kvs,hx,e'⟩
  ·subst e';obtain⟨its,r,pl,hz⟩:=I.list hx;have hlen:=r.length;exact wpAny_truthy_list pl.isList (by simp only[List.size_toArray];omega) ⟨H,I.tok _,by rw[Dc r];exact q⟩
  ·subst e';obtain⟨its,r,pl,hz⟩:=I.tuple hx;have hlen:=r.length;exact truthy_tuple pl (by simp only[List.size_toArray];omega) ⟨H,I.tok _,by rw[Dc r];exact q⟩
  ·subst e';obtain⟨hz,hS,vs,r,m⟩:kvs.length<=sizeLine/\(p==sysModules)=false/\∃vs,KV kvs vs/\s.heap.DictOf (Yw X.prog X.w) p vs:=I.hok p _ hx;have hlen:kvs.length=vs.length:=Paired.length r;exact wpAny_truthy_dict hS m (by omega) ⟨H,I.tok _,by rw[wx r];exact q⟩
 | _=>exact(show False from e).elim
def rX (ha:PE X a ta)(he:∀whole,isTrue a X.env whole=(do let v <-whole;standAt a.pos;holding [v] (truthy v))):
  PT X a (λσ H Q=>ta σ H λx H'=>∃k,eE X.K x H' k/\Q k H'):=by
 intro WZ s σ H Q I h;exact isTrue_plain (Js (ha WZ s σ H _ I h) λv s1 ⟨x,H1,I1,r1,q1⟩=>iD WZ s1 σ H1 x v Q I1 r1 q1) (he _)
def xS:Ot X (binaryOp .Add) (λx y H Q=>∃i j,x=.str i/\y=.str j/\i.length+j.length<=sizeLine/\Q (.str (i++j)) H):=by
 intro WZ s σ H x y v u Q I rx ry h;obtain⟨i,j,rfl,rfl,hz,q⟩:=h;obtain⟨t,rfl⟩:=rx;obtain⟨t',rfl⟩:=ry;exact add_str (λt' tk=>⟨.str (i++j),H,I.tok _,⟨_,FQ⟩,q⟩) hz
def Qi {x:V}(r:Yf [x] us):∃u,us=[u]/\Yg x u:=by
 cases r with
 | cons r1 r2=>cases r2;exact⟨_,FQ,r1⟩
def tF:Vl X (.type "int") (λxs H Q=>(∃i,xs=[.int i]/\Q (.int i) H)\/∃k,xs=[.bl k]/\Q (.int (if k then 1 else 0)) H):=by
 intro WZ s σ H xs us Q I r h
 rcases h with⟨i,rfl,q⟩ | ⟨k,rfl,q⟩
 ·obtain⟨u,rfl,t,rfl⟩:=Qi r;exact call_int_int ⟨.int i,H,I,⟨_,FQ⟩,q⟩
 ·obtain⟨u,rfl,r1⟩:=Qi r
  cases r1
  exact call_int_bool ⟨.int (if k then 1 else 0),H,I.tok _,⟨_,FQ⟩,q⟩
def yj:Vl X (.type "str") (λxs H Q=>∃i,xs=[.int i]/\i.natAbs.log2<1920/\Q (.str (toString i)) H):=by
 intro WZ s σ H xs us Q I r h;obtain⟨i,rfl,hz,q⟩:=h;obtain⟨u,rfl,t,rfl⟩:=Qi r;exact PySem.P.str_of_int hz ⟨.str _,H,I.tok _,⟨_,FQ⟩,q⟩
def Zdr (K:WY)(x:V)(H:Hp)(n:Nat):Prop:=
 match x with
 | .str y=>y.length<=sizeLine/\n=y.length
 | .byt y=>y.size<=sizeLine/\n=y.size
 | .ref p=>(∃xs,Ws K H p xs/\n=xs.length)\/∃xs,U8 K H p xs/\n=xs.length
 | _=>False
end
structure wZ (h:Heap)(x dx C:Addr)(mA:Str->Option Value):Prop where
 obj:h.get? x=some (W.instObj C dx)
 ns:h.Ns1 dx mA
 ne:dx≠x
set_option tactic.hygienic true
def uQ {h:WU}(n:h.Ns1 dx mA):∃od,h.get? dx=some od/\∀name,W.lookIn name od=some (mA name):=by
 obtain⟨o,es,ep,ho,hd,hk,_,hm⟩:=n;refine⟨o,ho,λname=>?_⟩;have e:=hm name;unfold nsFind findBy at e;rw[<-Array.find?_toList] at e;unfold W.lookIn;rw[hd];dsimp only
 split
 ·rename_i y q;rw[q] at e;exact congrArg some e
 ·rename_i q;rw[q] at e;have a:es.toList.any (·.refKey)=false:=by
   rw[List.any_eq_false];intro y hy;obtain⟨z,t,hkey⟩:=hk y (Array.mem_toList_iff.mp hy);simp[DictEntry.refKey,hkey]
  have a':¬es.toList.any (·.refKey)=true:=by rw[a];exact YJ
  rw[XX a'];exact congrArg some e
set_option tactic.hygienic false
def wZ.look (I:wZ h x dx C mA):∃od,W.InstAt h x (W.instObj C dx) C (some od)/\∀name,W.lookIn name od=some (mA name):=
 let ⟨od,ho,hl⟩:=uQ I.ns
 ⟨od,⟨I.obj,FQ,FQ,ho⟩,hl⟩
section
variable {prog:WO}{w:WN}{A:WM}{E:WQ->WR->Prop}{s:WR}{K:WY}{x dx C f:WP}{mA:Str->Option WQ}{name:Str}{v:WQ}
def lD {expr:Bool}{Q:WQ->WR->Prop}(X:K.In s.heap)(I:wZ s.heap x dx C mA)(hg:W.plainGet K C name=true)(hh:W.hasDictIn K C=true)
  (ha:W.findIn K (.ref C) name=some none) (hv:mA name=some v) (hv':W.handedIn v=true) (h:Q v {s with toks:=s.toks+1}):
  wpAny (model prog w) A (getAttr (.ref x) name expr) Q E s:=by
 obtain⟨od,J,hl⟩:=I.look;exact W.get_value X J (W.plainGet_of hg).1 (W.findObj_own hh ha FQ (by rw[hl,hv])) hv' h
def pE {pl:Sem Bool}{Q:WQ×List WQ->WR->Prop}(X:K.In s.heap)(I:wZ s.heap x dx C mA)(hg:W.plainGet K C name=true)
  (hf:W.findIn K (.ref C) name=some (some (.ref f))) (ht:W.isFn K (.ref f)=true) (hv:mA name=none) (h:Q (.ref f,[.ref x]) s):
  wpAny (model prog w) A (getMethod (.ref x) name pl) Q E s:=by
 obtain⟨od,J,hl⟩:=I.look;exact W.method_fn X J (W.plainGet_of hg).1 (W.plainGet_of hg).2 hf (beq_iff_eq.mp ht) (by show(W.lookIn name od).map (·.isSome)=some false;rw[hl,hv];rfl) h
def nE {ns:List Str}{Q:Unit->WR->Prop}(X:K.In s.heap)(I:wZ s.heap x dx C mA)
  (hs:W.findIn K (.ref C) "__setattr__"=some (some (.builtin "object.__setattr__"))) (hp:W.plainOver K C=true) (ht:W.takerIn K C name=some none) (hh:W.hasDictIn K C=true)
  (hw:PySem.Within mA ns) (hsz:ns.length<=sizeLine)
  (h:∀h',wZ h' x dx C (λy=>if y=name then some v else mA y)->Heap.SameBut dx s.heap h'->Q () {s with heap:=h',toks:=s.toks+2}):
  wpAny (model prog w) A (setAttr (.ref x) name v) Q E s:=by
 obtain⟨od,J,hl⟩:=I.look;refine W.set_plain X J hs (W.osa_open (s:={s with toks:=s.toks+1}) (r:=none) X J hp ht λb=>?_);obtain⟨cd,hc,hd'⟩:=W.any_some hh;have hx:s.heap.get? x=some ⟨.ref C,some dx,.plain,#[]⟩:=I.obj;refine XA (XB (XA (XA (wpAny_loadPart hx (XA (W.Looks.here (s:={s with toks:=s.toks+1}) (W.looks_clsIn X hc) ?_))))));rw[hd'];refine XB (a:=some dx) (XA (XB (XA ?_)));refine wpAny_nsSet1 (s:={s with toks:=s.toks+1}) I.ns λh' hn2 hs2=>?_;obtain⟨oD,esD,epD,hoD,hdD,hcD⟩:=hn2.count (PySem.Within.cons name v hw);refine XA (wpAny_lookBehind hoD (by rw[hdD];exact pastItsLine_dict (XN hcD (by rw[YF];omega))) ?_);exact XB (h _ ⟨(hs2.2 _ (Ne.symm I.ne)).trans I.obj,hn2,I.ne⟩ hs2)
def qK {R:Result->WR->Prop}{vs:List WQ}{kw:List (Str×WQ)}(X:K.In s.heap)(hm:W.makesIn K C=true)
  (hi:W.findIn K (.ref C) "__init__"=some (some (.ref f))) (hf:W.typeIn K (.ref f)=some (.type "function"))
  (h:codeAny (model prog w) (A.under (.builtin "type.__call__" ⟨.ref C::vs,kw⟩)) (.call (.ref f) ⟨.ref (s.heap.objs.size+1)::vs,kw⟩) (W.InitBack (s.heap.objs.size+1) R)
   {s with heap:=(s.heap.push W.emptyDict).push (W.instObj C s.heap.objs.size)}):
  codeAny (model prog w) A (.call (.ref C) ⟨vs,kw⟩) R s:=by
 obtain⟨hh,g,d,t,os⟩:=s;exact W.make_core (W.makes_of X hm) (W.looks_findIn X hi) (λself=>W.bind_fn X self hf) (.inl FQ) h
end
noncomputable def T8 (f:Str)(v:V):List (Str×V)->List (Str×V)
 | []=>[(f,v)]
 | (g,x)::r=>if g=f then(g,v)::r else(g,x)::T8 f v r
theorem Hr (f g:Str)(v:V):∀fs:List (Str×V),(T8 f v fs).lookup g=if g=f then some v else fs.lookup g
 | []=>by
  show List.lookup g [(f,v)]=_;by_cases h:g=f
  ·have hb:(g==f)=true:=beq_iff_eq.mpr h;simp only[List.lookup,hb,if_pos h]
  ·have hb:(g==f)=false:=beq_eq_false_iff_ne.mpr h;simp only[List.lookup,hb,if_neg h]
 | (k,x)::r=>by
  have ih:=Hr f g v r;rw[show T8 f v ((k,x)::r)=(if k=f then(k,v)::r else(k,x)::T8 f v r) from rfl];by_cases hk:k=f
  ·rw[XY hk];by_cases h:g=k
   ·have hb:(g==k)=true:=beq_iff_eq.mpr h;simp only[List.lookup,hb,if_pos (h.trans hk)]
   ·have hb:(g==k)=false:=beq_eq_false_iff_ne.mpr h;simp only[List.lookup,hb,if_neg (λe:g=f=>h (e.trans hk.symm))]
  ·rw[XX hk];by_cases h:g=k
   ·have hb:(g==k)=true:=beq_iff_eq.mpr h;simp only[List.lookup,hb,if_neg (λe:g=f=>hk (h.symm.trans e))]
   ·have hb:(g==k)=false:=beq_eq_false_iff_ne.mpr h;simp only[List.lookup,hb];exact ih
theorem Ij (f:Str)(v:V):∀fs:List (Str×V),f∈(T8 f v fs).map (·.1)/\∀g,g∈fs.map (·.1)->g∈(T8 f v fs).map (·.1)
 | []=>⟨by simp[T8],λg h=>by simp at h⟩
 | (k,x)::r=>by
  obtain⟨i1,i2⟩:=Ij f v r;rw[show T8 f v ((k,x)::r)=(if k=f then(k,v)::r else(k,x)::T8 f v r) from rfl];by_cases hk:k=f
  ·rw[XY hk];subst hk;exact⟨by simp,λg h=>by simpa using h⟩
  ·rw[XX hk];refine⟨?_,λg h=>?_⟩
   ·rw[YI];exact XV _ i1
   ·rw[YI] at h |-
    rcases CH.mp h with e | e
    ·exact CH.mpr (.inl e)
    ·exact XV _ (i2 g e)
theorem Ht (f:Str)(v:V):∀fs:List (Str×V),(T8 f v fs).length<=fs.length+1
 | []=>by simp[T8]
 | (k,x)::r=>by
  have ih:=Ht f v r;rw[show T8 f v ((k,x)::r)=(if k=f then(k,v)::r else(k,x)::T8 f v r) from rfl];by_cases hk:k=f
  ·rw[XY hk,YF,YF];omega
  ·rw[XX hk,YF,YF];omega
def S6.some_of (r:S6 (some v) o):∃u,o=some u/\Yg v u:=by
 cases o with
 | none=>exact(show False from r).elim
 | some u=>exact⟨u,FQ,r⟩
def S6.none_of (r:S6 none o):o=none:=by
 cases o with
 | none=>rfl
 | some u=>exact(show False from r).elim
def tq (r:Yg v u):W.handedIn u=true:=by
 cases v with
 | non=>cases (show u=Value.none from r);rfl
 | bl b=>cases (show u=Value.bool b from r);rfl
 | int i=>obtain⟨t,e⟩:=(show ∃t,u=Value.int i t from r);cases e;rfl
 | str x=>obtain⟨t,e⟩:=(show ∃t,u=Value.str x t from r);cases e;rfl
 | byt b=>obtain⟨t,e⟩:=(show ∃t,u=Value.bytes b t from r);cases e;rfl
 | flt b=>obtain⟨t,e⟩:=(show ∃t,u=Value.float b t from r);cases e;rfl
 | ref a=>cases (show u=Value.ref a from r);rfl
 | ty n=>cases (show u=Value.type n from r);rfl
section
variable {P:WO}{w:WN}{H H':Hp}{h h':WU}{a C dx:WP}{fs fs':List (Str×V)}
def G9 (hok:Td P w H h)(e:H a=some (.ins C dx fs)):∃mA,wZ h a dx C mA/\(∀f,S6 (fs.lookup f) (mA f))/\PySem.Within mA (fs.map (·.1))/\fs.length<=1000/\H dx=some (.own a):=by
 obtain⟨d,z,ne,ob,mA,n,r,q⟩:=(show J1 P w H h a (.ins C dx fs) from hok a _ e);exact⟨mA,⟨ob,n,ne⟩,r,q,z,d⟩
end
structure ve (K:W.Frag)(C:Addr):Prop where
 pg:W.plainGet K C Str.empty=true
 hd:W.hasDictIn K C=true
 po:W.plainOver K C=true
 sa:W.findIn K (.ref C) "__setattr__"=some (some (.builtin "object.__setattr__"))
def ve.get {K:WY}(c:ve K C)(f:Str):W.plainGet K C f=true:=c.pg
def Qb (K:WY)(C:WP)(f:Str):Prop:=W.findIn K (.ref C) f=some none
def Qb.taker {K:WY}{f:Str}(n:Qb K C f):W.takerIn K C f=some none:=by
 unfold W.takerIn;rw[show W.findIn K (.ref C) f=some none from n];rfl
structure Zdv (K:W.Frag)(C:Addr)(f:Str)(v:V)(u:Value):Prop where
 at_:W.findIn K (.ref C) f=some (some u)
 rel:Yg v u
 get:W.specialIn K u "__get__"=some none
 cp:W.copiedNames.contains f=false
structure tN (K:W.Frag)(C:Addr)(m:Str)(f:Addr):Prop where
 at_:W.findIn K (.ref C) m=some (some (.ref f))
 fn:W.isFn K (.ref f)=true
 kp:W.keepIn K (.ref f)=true
section
variable {X:Cx}{WZ:List (WP×Obj)}{σ:St}{H:Hp}{s:WR}{a C dx:WP}{fs:List (Str×V)}{f:Str}{v:V}{A:WM}{E:WQ->WR->Prop}
def wE {b:Bool}{Q:WQ->WR->Prop}(I:Z2 X WZ σ H s)(e:H a=some (.ins C dx fs))(c:ve X.K C)(n:Qb X.K C f)(l:fs.lookup f=some v)
  (h:∀u s',Z2 X WZ σ H s'->Yg v u->Q u s'):wpAny (model X.prog X.w) A (getAttr (.ref a) f b) Q E s:=by
 obtain⟨mA,O,r,_,_,_⟩:=G9 I.hok e;obtain⟨u,hu,ru⟩:=S6.some_of (v:=v) (o:=mA f) (by rw[<-l];exact r f);exact lD I.kIn O (c.get f) c.hd n hu (tq ru) (h u _ (I.tok _) ru)
def Dg {pl:Sem Bool}{Q:WQ×List WQ->WR->Prop}(I:Z2 X WZ σ H s)(e:H a=some (.ins C dx fs))(c:ve X.K C)(k:tN X.K C m g)(l:fs.lookup m=none)
  (h:Q (.ref g,[.ref a]) s):wpAny (model X.prog X.w) A (getMethod (.ref a) m pl) Q E s:=by
 obtain⟨mA,O,r,_,_,_⟩:=G9 I.hok e;have hn:mA m=none:=S6.none_of (by rw[<-l];exact r m);exact pE I.kIn O (c.get m) k.at_ k.fn hn h
def xE {Q:Unit->WR->Prop}(I:Z2 X WZ σ H s)(e:H a=some (.ins C dx fs))(c:ve X.K C)(n:Qb X.K C f)(hl:fs.length<1000)(ry:Yg y u)
  (h:∀s',Z2 X WZ σ (Je H a (.ins C dx (T8 f y fs))) s'->Q () s'):wpAny (model X.prog X.w) A (setAttr (.ref a) f u) Q E s:=by
 obtain⟨mA,O,r,wi,_,ho⟩:=G9 I.hok e;have hz:(fs.map (·.1)).length<=sizeLine:=by rw[XI,sizeLine_eq];omega
 refine nE I.kIn O c.sa c.po n.taker c.hd wi hz λh' O' sb=>h _ ?_;have hd:∃o,h'.get? dx=some o:=let ⟨o,_,_,e',_⟩:=O'.ns;⟨o,e'⟩
 refine I.write (x:=a) (e:=dx) (by rw[e];exact True.intro) (.inr ho) (λb q hb z=>(sb.2 b hb).trans z) hd ?_;refine⟨by rw[Yd O.ne];exact ho,?_,O.ne,O'.obj,_,O'.ns,λg=>?_,λg hg=>?_⟩
 ·have:=Ht f y fs;omega
 ·show S6 ((T8 f y fs).lookup g) (if g=f then some u else mA g);rw[Hr];by_cases q:g=f
  ·rw[XY q,XY q];exact ry
  ·rw[XX q,XX q];exact r g
 ·by_cases q:g=f
  ·rw[q];exact(Ij f y fs).1
  ·refine(Ij f y fs).2 g (wi g λz=>hg ?_);show(if g=f then some u else mA g)=none;rw[XX q];exact z
def Z2.made (I:Z2 X WZ σ H s):Z2 X WZ σ (Je (Je H s.heap.objs.size (.own (s.heap.objs.size+1))) (s.heap.objs.size+1) (.ins C s.heap.objs.size []))
  {s with heap:=(s.heap.push W.emptyDict).push (W.instObj C s.heap.objs.size)}:=by
 have e1:(s.heap.push W.emptyDict).get? s.heap.objs.size=some W.emptyDict:=XF s.heap FQ;have e2:((s.heap.push W.emptyDict).push (W.instObj C s.heap.objs.size)).get? (s.heap.objs.size+1)=some (W.instObj C s.heap.objs.size):=by
  have:=XF (s.heap.push W.emptyDict) (o:=W.instObj C s.heap.objs.size) FQ
  rwa [CL] at this
 have e3:(s.heap.push W.emptyDict).Ns s.heap.objs.size (λ_=>none):=⟨W.emptyDict,#[],_,e1,FQ,(λe he=>absurd he (by simp)),λ_=>rfl⟩;have I1:=I.laid (a:=s.heap.objs.size) (o:=.own (s.heap.objs.size+1)) (h':=s.heap.push W.emptyDict) (t':=s.toks) (λb u q=>XC _ q) (XE _) ⟨_,e1⟩;refine I1.laid (a:=s.heap.objs.size+1) (o:=.ins C s.heap.objs.size []) (t':=s.toks) (λb u q=>XC _ q) (Nat.le_of_eq (CL _ _)) ?_;have ne:s.heap.objs.size≠s.heap.objs.size+1:=XH (DX _);refine⟨by rw[Yd ne,Yq],XO _,ne,e2,λ_=>none,(Heap.Ns1.of_empty e3).at λo q=>XC _ q,λ_=>True.intro,λy hy=>absurd FQ hy⟩
def kg {prog:WO}{w:WN}{pos:Pos}{Q:WQ->WR->Prop}(hb:attributeBase e f env (eval e env)=eval e env)
  (h:wpAny (model prog w) A (eval e env) (λo s₁=>wpAny (model prog w) A (getAttr o f true) Q E s₁) E s):wpAny (model prog w) A (eval (.Attribute e f pos) env) Q E s:=
 Attribute_any_ h (by rw[arm_eval_Attribute,hb])
end
def aU (K:WY)(ta:TE)(f:Str):TE:=λσ H Q=>ta σ H λx H1=>∃a C dx fs v,x=.ref a/\H1 a=some (.ins C dx fs)/\ve K C/\Qb K C f/\fs.lookup f=some v/\Q v H1
def Zc5 (K:WY)(ta:TE)(f:Str):TE:=λσ H Q=>ta σ H λx H1=>∃a C dx fs v u,x=.ref a/\H1 a=some (.ins C dx fs)/\ve K C/\Zdv K C f v u/\fs.lookup f=none/\Q v H1
def Zaf (K:WY)(ta tv:TE)(f:Str):TS:=λD σ H=>tv σ H λy H1=>ta σ H1 λx H2=>∃a C dx fs,x=.ref a/\H2 a=some (.ins C dx fs)/\ve K C/\Qb K C f/\fs.length<1000/\
 D.nx σ (Je H2 a (.ins C dx (T8 f y fs)))
def Zdu (X:Cx)(op:Operator)(rd:V->V->Hp->VK->Prop):Prop:=
 ∀(WZ:List (WP×Obj)) (s:WR) (σ:St) (H:Hp) (x y:V) (u v:WQ) (Q:VK),Z2 X WZ σ H s->Yg x u->Yg y v->rd x y H Q->wpAny (model X.prog X.w) X.A (inplaceOp op u v) (EP X WZ σ Q) X.xe s
def az (K:WY)(ta tv:TE)(rd:V->V->Hp->VK->Prop)(f:Str):TS:=λD σ H=>ta σ H λx H1=>∃a C dx fs v,x=.ref a/\H1 a=some (.ins C dx fs)/\ve K C/\Qb K C f/\fs.lookup f=some v/\
 tv σ H1 λy H2=>rd v y H2 λz H3=>∃dx' fs',H3 a=some (.ins C dx' fs')/\fs'.length<1000/\D.nx σ (Je H3 a (.ins C dx' (T8 f z fs')))
section
variable {X:Cx}{o e value:WW}{f:Str}{pos pos' tpos:Pos}{ta tv:TE}
def gx (he:PE X e ta)(hb:attributeBase e f X.env (eval e X.env)=eval e X.env):PE X (.Attribute e f pos) (aU X.K ta f):=by
 intro WZ s σ H Q I h;refine kg hb (Js (he WZ s σ H _ I h) λu s1 zZ=>?_);obtain⟨x,H1,I1,rx,a,C,dx,fs,v,ex,ea,c,n,l,q⟩:=zZ;subst ex;obtain rfl:u=Value.ref a:=rx;exact wE I1 ea c n l λu' s2 I2 ru=>⟨v,H1,I2,ru,q⟩
def gd (ha:PE X o ta)(hv:PE X value tv)(hs:swapsWith value (some (.Attribute o f pos')) pos.line X.env=pure false):PS X (.Assign [.Attribute o f pos'] value pos) (Zaf X.K ta tv f):=by
 intro WZ s σ H D I h;refine plainObj_wpAny_Assign_Attribute (Js (hv WZ s σ H _ I h) λu s1 zZ=>?_) hs;obtain⟨y,H1,I1,ry,q⟩:=zZ;refine Js (ha WZ s1 σ H1 _ I1 q) λov s2 zZ=>?_;obtain⟨x,H2,I2,rx,a,C,dx,fs,ex,ea,c,n,l,q2⟩:=zZ;subst ex;obtain rfl:ov=Value.ref a:=rx;exact xE I2 ea c n l ry λs3 I3=>⟨σ,_,I3,q2⟩
end
section
variable {X:Cx}{WZ:List (WP×Obj)}{σ:St}{H:Hp}{s:WR}{A:WM}{E:WQ->WR->Prop}{Q:WQ->WR->Prop}{c:WQ}{b:Bool}
inductive Gw (K:W.Frag)(H:Hp):V->Value->Prop where
 | non:Gw K H .non (.type "NoneType")
 | bl (x:Bool):Gw K H (.bl x) (.type "bool")
 | int (i:Int):Gw K H (.int i) (.type "int")
 | str (x:Str):Gw K H (.str x) (.type "str")
 | flt (x:UInt64):Gw K H (.flt x) (.type "float")
 | lst {a:WP} {xs:List V} (e:H a=some (.lst xs)):Gw K H (.ref a) (.type "list")
 | frz {a:WP} {o:Obj} {xs:List V} (e:H a=some (.frz o (.lst xs))):Gw K H (.ref a) (.type "list")
 | tup {a:WP} {xs:List V} (e:H a=some (.tup xs)):Gw K H (.ref a) (.type "tuple")
 | dK {a:WP} {kvs:List (Yo×V)} (e:H a=some (.dK kvs)):Gw K H (.ref a) (.type "dict")
 | dT {a:WP} {kvs:List (List Yo×V)} (e:H a=some (.dT kvs)):Gw K H (.ref a) (.type "dict")
 | ins {a C dx:WP} {fs:List (Str×V)} (e:H a=some (.ins C dx fs)) (cl:ve K C) (ha:W.findIn K (.ref C) "__class__"=some (some (.builtin "object.__class__")))
   (hn:W.specialIn K (.builtin "object.__class__") "__get__"=some (some (.builtin "getset_descriptor.__get__"))) (htk:W.takesIn K (.builtin "object.__class__")=some true)
   (hm:W.mroIn K C (.type "object")=some true):Gw K H (.ref a) (.ref C)
def Ua (I:Z2 X WZ σ H s)(rx:Yg x u)(ty:Gw X.K H x t)(e:W.kitOne X.K t c=some b)(h:∀tk,Q (.bool b) {s with toks:=tk}):
  wpAny (model X.prog X.w) A (call (.builtin "isinstance") [u,c]) Q E s:=by
 cases ty with
 | non=>cases (show u=Value.none from rx);exact CZ W.kitx_none I.kIn True.intro e (λz=>nomatch z) h
 | bl y=>cases (show u=Value.bool y from rx);exact CZ W.kitx_bool I.kIn True.intro e (λz=>nomatch z) h
 | int i=>obtain⟨t,q⟩:=(show ∃t,u=Value.int i t from rx);cases q;exact CZ W.kitx_int I.kIn True.intro e (λz=>nomatch z) h
 | str y=>obtain⟨t,q⟩:=(show ∃t,u=Value.str y t from rx);cases q;exact CZ W.kitx_str I.kIn True.intro e (λz=>nomatch z) h
 | flt y=>obtain⟨t,q⟩:=(show ∃t,u=Value.float y t from rx);cases q;exact CZ W.kitx_float I.kIn True.intro e (λz=>nomatch z) h
 | @lst a xs ea=>
  cases (show u=Value.ref a from rx)
  obtain⟨_,_,n,_,h1⟩:=(show J1 X.prog X.w H s.heap a (.lst xs) from I.hok a _ ea);exact CZ W.kitx_list I.kIn ⟨_,h1,FQ⟩ e (λz=>nomatch z) h
 | @frz a ob xs ea=>
  cases (show u=Value.ref a from rx)
  obtain⟨_,_,_,n,_,h1⟩:=(show J1 X.prog X.w H s.heap a (.frz ob (.lst xs)) from I.hok a _ ea);exact CZ W.kitx_list I.kIn ⟨_,h1,FQ⟩ e (λz=>nomatch z) h
 | @tup a xs ea=>
  cases (show u=Value.ref a from rx)
  obtain⟨_,_,_,p⟩:=(show J1 X.prog X.w H s.heap a (.tup xs) from I.hok a _ ea);obtain⟨o,h1,h2,_⟩:=p;exact CZ W.kitx_tuple I.kIn ⟨o,h1,h2⟩ e (λz=>nomatch z) h
 | @dK a kvs ea=>
  cases (show u=Value.ref a from rx)
  obtain⟨_,_,vs,_,p⟩:=(show J1 X.prog X.w H s.heap a (.dK kvs) from I.hok a _ ea);obtain⟨o,es,ep,h1,h2,_⟩:=p;exact CZ W.kitx_dict I.kIn ⟨o,h1,h2.1⟩ e (λz=>nomatch z) h
 | @dT a kvs ea=>
  cases (show u=Value.ref a from rx)
  obtain⟨_,_,xs,_,o,es,ep,h1,h2,_⟩:=(show J1 X.prog X.w H s.heap a (.dT kvs) from I.hok a _ ea);exact CZ W.kitx_dict I.kIn ⟨o,h1,h2.1⟩ e (λz=>nomatch z) h
 | @ins a C dx fs ea cl ha hn htk hm=>
  cases (show u=Value.ref a from rx)
  obtain⟨mA,O,_⟩:=G9 I.hok ea;obtain⟨od,J,_⟩:=O.look;exact CZ (W.kitx_own (cl.get _) cl.hd ha hn htk hm) I.kIn J e (λz=>nomatch z) h
end
structure X8 (k:Nat)(A:Around):Prop where
 hd:A.handled=none
 dp:A.depth+3*k+5<recursionLimit
 un:A.units+16*k+200<cLine
def X8.deeper {k:Nat}(r:X8 (k+1) A)(env:Env):X8 k (A.deeper env):=
 ⟨r.hd,by have:=r.dp;show A.depth+1+3*k+5<_;omega,by have:=r.un;show A.units+3+16*k+200<_;omega⟩
def wm {A:WM}{us:List WQ}{kw:List (Str×WQ)}:(A.under (.builtin "type.__call__" ⟨.ref C::us,kw⟩)).depth=A.depth+1:=by
 first | rfl | simp[Around.under,Code.weight,Code.isCreation,Code.isGuard,Code.isCaller,Code.frames,Code.isFrame,guardIds]
def wj {A:WM}{us:List WQ}{kw:List (Str×WQ)}:(A.under (.builtin "type.__call__" ⟨.ref C::us,kw⟩)).units=A.units+1:=by
 first | rfl | simp[Around.under,Code.cUnits,Code.frames,Code.isFrame]
def X8.make {k:Nat}(r:X8 (k+1) A)(C:WP)(us:List WQ)(kw:List (Str×WQ)):X8 k (A.under (.builtin "type.__call__" ⟨.ref C::us,kw⟩)):=
 ⟨r.hd,by have:=r.dp;rw[wm];omega,by have:=r.un;rw[wj];omega⟩
def X8.depth {k:Nat}(r:X8 k A):A.depth<recursionLimit:=by have:=r.dp;omega
def sU:TA:=λ_ H Q=>Q [] H
def sW (ta:TE)(tr:TA):TA:=λσ H Q=>ta σ H λx H1=>tr σ H1 λxs H2=>Q (x::xs) H2
section
variable {X:Cx}{e:WW}{es:List WW}{te:TE}{t:TA}{pos:Pos}
def xR:PA X [] sU:=λ_ _ _ _ H Q I h=>DG ⟨[],H,I,.nil,h⟩
def G1 (ha:PE X e te)(hr:PA X es t)(hs:autoParam (starEach (e::es) X.env=(false,eval e X.env)::starEach es X.env) QzR):PA X (e::es) (sW te t):=by
 intro pos WZ s σ H Q I h;rw[hs];show wpAny _ _ (spliced ((false,eval e X.env)::backTo pos (starEach es X.env))) _ _ s;refine CT (Js (ha WZ s σ H _ I h) λu s1 zZ=>?_);obtain⟨x,H1,I1,r1,q1⟩:=zZ;exact Js (hr pos WZ s1 σ H1 _ I1 q1) λus s2 ⟨xs,H2,I2,r2,q2⟩=>⟨x::xs,H2,I2,.cons r1 r2,q2⟩
def d7 (t:TA):TE:=λσ H Q=>t σ H λxs H1=>xs.length<=sizeLine/\∀p,H1 p=none->Q (.ref p) (Je H1 p (.tup xs))
def dJ (t:TA):TE:=λσ H Q=>t σ H λxs H1=>xs.length<=sizeLine/\∀p,H1 p=none->Q (.ref p) (Je H1 p (.lst xs))
def gq {x1}(h:PA X es t):PE X (.Tuple es x1 pos) (d7 t):=by
 intro WZ s σ H Q I hq;refine wpAny_Tuple_spliced (Js (h pos WZ s σ H _ I hq) λus s1 ⟨xs,H1,I1,r,z,q⟩=>⟨by rw[<-r.length];exact z,?_⟩);have hf:H1 s1.heap.objs.size=none:=I1.hok.fresh (XE _);refine⟨.ref s1.heap.objs.size,Je H1 s1.heap.objs.size (.tup xs),I1.laid (t':=s1.toks) (λb u e=>XC _ e) (XE _) ?_,FQ,q _ hf⟩;exact⟨z,us,r,⟨_,XF _ FQ,FQ,_,FQ⟩⟩
def gw (h:PA X es t):PE X (.List es pos) (dJ t):=by
 intro WZ s σ H Q I hq;refine wpAny_List_spliced (Js (h pos WZ s σ H _ I hq) λus s1 ⟨xs,H1,I1,r,z,q⟩=>⟨by rw[<-r.length];exact z,?_⟩);have hf:H1 s1.heap.objs.size=none:=I1.hok.fresh (XE _);refine⟨.ref s1.heap.objs.size,Je H1 s1.heap.objs.size (.lst xs),I1.laid (t':=s1.toks) (λb u e=>XC _ e) (XE _) ?_,FQ,q _ hf⟩;exact⟨z,us,0,r,XF _ FQ⟩
end
abbrev Sp:=List V->Hp->VK->XK->Prop
abbrev tW:=List Env->Hp->WR->XK->WQ->WR->Prop
structure vd (P:Program)(w:World)(K:W.Frag)(mg:Str->Option Value)(base:Heap)(A:Around)(outer:List Env)(s:Shared)(H:Hp):Prop where
 frames:A.frames=some outer
 mod:Mod K mg base
 bs:∀b o,base.get? b=some o->s.heap.get? b=some o/\H b=none
 bsz:base.objs.size<=s.heap.objs.size
 funs:s.heap.FunFrames base outer
 frf:∀b∈tw outer,H b=none
 hok:Td P w H s.heap
 bare:AllBare s.gens
def CE (outer:List Env)(P:WO)(w:WN)(H:Hp)(s:WR)(Q:VK)(u:WQ)(s':WR):Prop:=
 ∃v H',s'.os=s.os/\AllBare s'.gens/\Un (tw outer) [] H H' s.heap s'.heap/\Td P w H' s'.heap/\Yg v u/\Q v H'
def CR (CX:tW)(outer:List Env)(P:WO)(w:WN)(H:Hp)(s:WR)(Q:VK)(E:XK)(r:Result)(s':WR):Prop:=
 match r with
 | .ok (.ret u)=>CE outer P w H s Q u s'
 | .ok _=>False
 | .error e=>CX outer H s E e s'
structure Vk (P:Program)(w:World)(K:W.Frag)(mg:Str->Option Value)(base:Heap)(CX:tW)(k:Nat)(f:Addr)(fd:FuncData)(ps:List Str)(sp:Sp):Prop where
 len:∀vs H Q E,sp vs H Q E->vs.length=ps.length
 run:∀(A:WM) (outer:List Env) (s:WR) (H:Hp) (args:Args) (us:List WQ) (vs:List V) (Q:VK) (E:XK),X8 k A->vd P w K mg base A outer s H->BindsTo s fd args (ps.zip us)->Yf vs us->sp vs H Q E->
  codeAny (model P w) A (.call (.ref f) args) (CR CX outer P w H s Q E) s
def vd.make {K:WY}(e:vd P w K mg base A outer s H)(C:WP)(us:List WQ)(kw:List (Str×WQ)):
  vd P w K mg base (A.under (.builtin "type.__call__" ⟨.ref C::us,kw⟩)) outer s H:=⟨by first | exact e.frames | (simpa[Around.under,Code.envs,Code.isFrame,pushEnvs] using e.frames),e.mod,e.bs,e.bsz,e.funs,e.frf,e.hok,e.bare⟩
section
variable {X:Cx}{WZ:List (WP×Obj)}{σ:St}{H:Hp}{s s':WR}
def Z2.env0 (I:Z2 X WZ σ H s):vd X.prog X.w X.K X.mg X.base X.A X.stack s H:=
 ⟨I.ok.frames,I.ok.mod,I.bs,XN I.ok.bsz I.sz,I.stack,I.stkFree,I.hok,I.bare⟩
def Z2.after (I:Z2 X WZ σ H s)(h:CE X.stack X.prog X.w H s Q u s'):EP X WZ σ Q u s':=by
 obtain⟨v,H',os,bare,un,hok,r,q⟩:=h;obtain⟨hh,g,d,t,os'⟩:=s';obtain rfl:os'=s.os:=os;exact⟨v,H',I.call (h':=hh) (g':=g) (d':=d) (t':=t) (ch:=[]) un hok bare (λb z=>absurd z (by simp)),r,q⟩
end
def sY (sp:Sp)(dvs:List V)(E:XK)(t:TA):TE:=λσ H Q=>t σ H λvs H1=>sp (vs++dvs) H1 Q E
def Zcb (C:WP)(m:Str)(sp:Sp)(dvs:List V)(E:XK)(ta:TE)(t:TA):TE:=λσ H Q=>ta σ H λx H1=>∃a dx fs,x=.ref a/\H1 a=some (.ins C dx fs)/\fs.lookup m=none/\
 t σ H1 λvs H2=>sp (x::(vs++dvs)) H2 Q E
def dI (C:WP)(sp:Sp)(dvs:List V)(E:XK)(t:TA):TE:=λσ H Q=>t σ H λvs H1=>∀x dx,H1 x=none->H1 dx=none->dx≠x->
 sp (.ref x::(vs++dvs)) (Je (Je H1 dx (.own x)) x (.ins C dx [])) (λv H2=>v=.non/\Q (.ref x) H2) E
def Wo (K:WY)(fd:VZ)(ps:List Str)(ds:List WQ):Prop:=
 ∀(s:WR) (us:List WQ),K.In s.heap->(us++ds).length=ps.length->BindsTo s fd ⟨us,[]⟩ (ps.zip (us++ds))
def Wo.all {K:WY}{ps:List Str}(h:∀us:List WQ,us.length=ps.length->bindArgs fd ⟨us,[]⟩=pure (ps.zip us)):Wo K fd ps []:=λs us _ hl=>by
 rw[YK] at hl |-;exact .of_eq (h us hl)
def Iz (CX:tW)(X:Cx)(E:XK):Prop:=∀(WZ:List (WP×Obj)) (σ:St) (H:Hp) (s:WR) (e:WQ) (s':WR),Z2 X WZ σ H s->CX X.stack H s E e s'->X.xe e s'
section
variable {X:Cx}{CX:tW}{k:Nat}{f C:WP}{fd:VZ}{ps:List Str}{sp:Sp}{dvs:List V}{ds:List WQ}{E:XK}{x m:Str}{p pos apos:Pos}{e o:WW}{es:List WW}{ta:TE}{t:TA}
def zr {WZ:List (WP×Obj)}{σ:St}{H:Hp}{s:WR}{Q:VK}{us:List WQ}{vs:List V}(F:Vk X.prog X.w X.K X.mg X.base CX k f fd ps sp)(hr:X8 k X.A)(hb:Wo X.K fd ps ds)(hd:Yf dvs ds)(hx:Iz CX X E)
  (I:Z2 X WZ σ H s) (r:Yf vs us) (h:sp (vs++dvs) H Q E):wpAny (model X.prog X.w) X.A (call (.ref f) us) (EP X WZ σ Q) X.xe s:=by
 have r2:Yf (vs++dvs) (us++ds):=r.append hd;have hl:(us++ds).length=ps.length:=by rw[<-r2.length];exact F.len _ _ _ _ h
 refine wpAny_call (codeAny_mono (F.run X.A X.stack s H ⟨us,[]⟩ (us++ds) (vs++dvs) Q E hr I.env0 (hb s us I.kIn hl) r2 h) λr s' hq=>?_)
 cases r with
 | error e=>exact hx WZ σ H s e s' I hq
 | ok fl=>
  cases fl with
  | ret u=>exact I.after hq
  | next=>exact False.elim hq
  | brk=>exact False.elim hq
  | cont=>exact False.elim hq
def vA (F:Vk X.prog X.w X.K X.mg X.base CX k f fd ps sp)(hr:X8 k X.A)(hg:Gl X x)(hm:X.mg x=some (.ref f))(hk:W.keepIn X.K (.ref f)=true)(hb:Wo X.K fd ps ds)(hd:Yf dvs ds)(hx:Iz CX X E)
  (ha:PA X (e::es) t) (hdb:autoParam ((x==("__debug__":Str))=false) QzD) (he:autoParam (starEach (e::es) X.env=(false,eval e X.env)::starEach es X.env) QzR) (hpl:autoParam ((backTo pos (starEach es X.env)).any (·.1)=false) QzR):
  PE X (.Call (.Name x p) (e::es) [] pos) (sY sp dvs E t):=by
 intro WZ s σ H Q I h;refine wpAny_Call_Name_kw (Ln I hg hm ?_ hdb);refine FK (h₀:=X.base) I.ok.mod.kin hk (Js (ha pos WZ s σ H _ I h) λus s1 zZ=>?_) he hpl;obtain⟨vs,H1,I1,r,q⟩:=zZ;refine ⟨I1.kIn,?_⟩;exact zr F hr hb hd hx I1 r q
def qr (F:Vk X.prog X.w X.K X.mg X.base CX k f fd ps sp)(hr:X8 k X.A)(hg:Gl X x)(hm:X.mg x=some (.ref f))(hk:W.keepIn X.K (.ref f)=true)(hb:Wo X.K fd ps ds)(hd:Yf dvs ds)(hx:Iz CX X E)
  (hdb:autoParam ((x==("__debug__":Str))=false) QzD):PE X (.Call (.Name x p) [] [] pos) (sY sp dvs E sU):=by
 intro WZ s σ H Q I h;refine wpAny_Call_Name_kw (Ln I hg hm ?_ hdb);exact W.callWith_K0 I.kIn hk (zr (us:=[]) F hr hb hd hx I .nil h)
structure Mk (K:W.Frag)(C f:Addr):Prop where
 makes:W.makesIn K C=true
 init:W.findIn K (.ref C) "__init__"=some (some (.ref f))
 fn:W.isFn K (.ref f)=true
 kp:W.keepIn K (.ref C)=true
def rV {WZ:List (WP×Obj)}{σ:St}{H:Hp}{s:WR}{Q:VK}{us:List WQ}{vs:List V}(M:Mk X.K C f)(F:Vk X.prog X.w X.K X.mg X.base CX k f fd ps sp)(hr:X8 (k+1) X.A)(hb:Wo X.K fd ps ds)(hd:Yf dvs ds)
  (hx:Iz CX X E) (I:Z2 X WZ σ H s) (r:Yf vs us)
  (h:∀x dx,H x=none->H dx=none->dx≠x->sp (.ref x::(vs++dvs)) (Je (Je H dx (.own x)) x (.ins C dx [])) (λv H2=>v=.non/\Q (.ref x) H2) E):
  wpAny (model X.prog X.w) X.A (call (.ref C) us) (EP X WZ σ Q) X.xe s:=by
 have hq:=h (s.heap.objs.size+1) s.heap.objs.size (I.hok.fresh (Nat.le_succ _)) (I.hok.fresh (XE _)) (XH (DX _));have I2:=Z2.made (C:=C) I;have r2:Yf (V.ref (s.heap.objs.size+1)::(vs++dvs)) (Value.ref (s.heap.objs.size+1)::(us++ds)):=.cons FQ (r.append hd);have hl:(Value.ref (s.heap.objs.size+1)::us++ds).length=ps.length:=by
  have e:=r2.length;rw[F.len _ _ _ _ hq] at e;exact e.symm
 refine wpAny_call (qK (f:=f) I.kIn M.makes M.init (beq_iff_eq.mp M.fn) (codeAny_mono (F.run _ X.stack _ _ ⟨Value.ref (s.heap.objs.size+1)::us,[]⟩ (Value.ref (s.heap.objs.size+1)::(us++ds)) _ _ E (hr.make C us [])
  (I2.env0.make C us []) (hb _ (Value.ref (s.heap.objs.size+1)::us) I2.kIn hl) r2 hq) λr s' hq'=>?_))
 cases r with
 | error e=>exact hx WZ σ _ _ e s' I2 hq'
 | ok fl=>
  cases fl with
  | ret u=>
   obtain⟨v,H',I3,rv,ev,q3⟩:=I2.after hq';subst ev;exact⟨rv,⟨V.ref (s.heap.objs.size+1),H',I3,FQ,q3⟩⟩
  | next=>exact False.elim hq'
  | brk=>exact False.elim hq'
  | cont=>exact False.elim hq'
def m8 (M:Mk X.K C f)(F:Vk X.prog X.w X.K X.mg X.base CX k f fd ps sp)(hr:X8 (k+1) X.A)(hg:Gl X x)(hm:X.mg x=some (.ref C))(hb:Wo X.K fd ps ds)(hd:Yf dvs ds)(hx:Iz CX X E)
  (ha:PA X (e::es) t) (hdb:autoParam ((x==("__debug__":Str))=false) QzD) (he:autoParam (starEach (e::es) X.env=(false,eval e X.env)::starEach es X.env) QzR) (hpl:autoParam ((backTo pos (starEach es X.env)).any (·.1)=false) QzR):
  PE X (.Call (.Name x p) (e::es) [] pos) (dI C sp dvs E t):=by
 intro WZ s σ H Q I h;refine wpAny_Call_Name_kw (Ln I hg hm ?_ hdb);refine FK (h₀:=X.base) I.ok.mod.kin M.kp (Js (ha pos WZ s σ H _ I h) λus s1 zZ=>?_) he hpl;obtain⟨vs,H1,I1,r,q⟩:=zZ;refine ⟨I1.kIn,?_⟩;exact rV M F hr hb hd hx I1 r q
end
def PK (X:Cx)(kws:List Keyword)(t:TA):Prop:=
 ∀(pos:Pos) (WZ:List (WP×Obj)) (s:WR) (σ:St) (H:Hp) (Q:List V->Hp->Prop),Z2 X WZ σ H s->t σ H Q->wpAny (model X.prog X.w) X.A (evalAll ((backToKw pos (keywordEach kws X.env)).map (·.2))) (AP X WZ σ Q) X.xe s
section
variable {X:Cx}{CX:tW}{k:Nat}{f C:WP}{fd:VZ}{ps ks:List Str}{sp:Sp}{E:XK}{x m:Str}{p pos apos kpos:Pos}{e o:WW}{es:List WW}{kws:List Keyword}{te ta:TE}{t tk:TA}{nm:Option Str}
structure Zbz (K:W.Frag)(fd:FuncData)(ps ks:List Str)(g:List Value->List Value->List Value)(gV:List V->List V->List V):Prop where
 to:∀(s:WR) (us ws:List WQ),K.In s.heap->(g us ws).length=ps.length->BindsTo s fd ⟨us,ks.zip ws⟩ (ps.zip (g us ws))
 rel:∀{vs:List V} {us:List WQ} {zs:List V} {ws:List WQ},Yf vs us->Yf zs ws->Yf (gV vs zs) (g us ws)
variable {g:List WQ->List WQ->List WQ}{gV:List V->List V->List V}
end
structure Zu (N P:List Str)(sc:Scope):Prop where
 kind:sc.kind=.function
 co:sc.isCoroutine=false
 gen:sc.isGenerator=false
 nd:N.Nodup
 pre:N.take P.length=P
 par:∀x∈P,sc.names.lookup x=some .local\/sc.names.lookup x=some .cell
 nofree:∀y∈sc.names,y.2≠.free
theorem At {kindOf:Str->Option NameKind}{x:Str}:∀{binds:List (Str×WQ)} {m:Str->Option WQ},(∀v,(x,v)∉binds)->bindL kindOf binds m x=m x
 | [],_,_=>rfl
 | (n,v)::r,m,h=>by
  unfold bindL;rw[At λw hw=>h w (XV _ hw)]
  split
  ·have:x≠n:=by rintro rfl;exact h v CM
   simp[this]
  ·rfl
theorem Av {kindOf:Str->Option NameKind}{x:Str}:∀{binds:List (Str×WQ)} {m:Str->Option WQ},(∀v,(x,v)∉binds)->bindC kindOf binds m x=m x
 | [],_,_=>rfl
 | (n,v)::r,m,h=>by
  unfold bindC;rw[Av λw hw=>h w (XV _ hw)]
  split
  ·rfl
  ·have:x≠n:=by rintro rfl;exact h v CM
   simp[this]
theorem Au {kindOf:Str->Option NameKind}:∀{P:List Str} {vs:List WQ} {i:Nat} {m:Str->Option WQ},P.Nodup->P[i]?=some x->vs[i]?=some v->kindOf x=some .local->
  bindL kindOf (P.zip vs) m x=some v
 | [],_,_,_,_,h,_,_=>by simp at h
 | _::_,[],_,_,_,_,h,_=>by simp at h
 | p::P,w::vs,0,m,nd,h1,h2,hk=>by
  simp at h1 h2;subst h1;subst h2;show bindL kindOf ((p,w)::P.zip vs) m p=_;unfold bindL;rw[At λv hv=>(EB.mp nd).1 (DR hv).1,XY hk];simp
 | p::P,w::vs,i+1,m,nd,h1,h2,hk=>by
  show bindL kindOf ((p,w)::P.zip vs) m x=_;unfold bindL;exact Au (i:=i) (List.nodup_cons.mp nd).2 (by simpa using h1) (by simpa using h2) hk
theorem Aw {kindOf:Str->Option NameKind}:∀{P:List Str} {vs:List WQ} {i:Nat} {m:Str->Option WQ},P.Nodup->P[i]?=some x->vs[i]?=some v->kindOf x≠some .local->
  bindC kindOf (P.zip vs) m x=some v
 | [],_,_,_,_,h,_,_=>by simp at h
 | _::_,[],_,_,_,_,h,_=>by simp at h
 | p::P,w::vs,0,m,nd,h1,h2,hk=>by
  simp at h1 h2;subst h1;subst h2;show bindC kindOf ((p,w)::P.zip vs) m p=_;unfold bindC;rw[Av λv hv=>(EB.mp nd).1 (DR hv).1,XX hk];simp
 | p::P,w::vs,i+1,m,nd,h1,h2,hk=>by
  show bindC kindOf ((p,w)::P.zip vs) m x=_;unfold bindC;exact Aw (i:=i) (List.nodup_cons.mp nd).2 (by simpa using h1) (by simpa using h2) hk
def start (N:List Str)(vs:List V):St:=vs.map some++List.replicate (N.length-vs.length) none
def yf (CX:tW)(P:WO)(w:WN)(K:WY)(mg:Str->Option WQ)(base:WU)(N:List Str)(qual:Str)(scope:Scope)(f:WP)(cd:WQ)(A:WM)(outer:List Env)(s:WR)(H:Hp)(E:XK):Cx where
 prog:=P
 w:=w
 K:=K
 mg:=mg
 base:=base
 A:=A.deeper (envOfC qual scope s.heap.objs.size f cd)
 N:=N
 s₀:=s
 H₀:=H
 env:=envOfC qual scope s.heap.objs.size f cd
 outer:=outer
 stack:=envOfC qual scope s.heap.objs.size f cd::outer
 ex:=[]
 calm:=true
 fn:=λ_=>true
 pn:=[]
 xe:=λe s'=>wpAny (model P w) (A.deeper (envOfC qual scope s.heap.objs.size f cd)) (leaving (envOfC qual scope s.heap.objs.size f cd) e) (λ_ s''=>CX outer H s E e s'') (λe' s''=>CX outer H s E e' s'') s'
def jT {sc:Scope}(h:sc.names.lookup x=some .cell):∃c,(cellsFrom n sc.names []).lookup x=some c:=by
 have q:=W.cellsFrom_some sc.names n [] (.inl h);exact Option.isSome_iff_exists.mp q
def uX {CX:tW}{P:WO}{w:WN}{K:WY}{mg:Str->Option WQ}{base:WU}{N ps:List Str}{qual:Str}{scope:Scope}{f:WP}{cd:WQ}{A:WM}{outer:List Env}{s s1:WR}{H:Hp}{E:XK}{us:List WQ}{vs:List V}
  (S:Zu N ps scope) (hd:A.handled=none) (e0:vd P w K mg base A outer s H) (hl:vs.length=ps.length) (r:Yf vs us)
  (x:InCallC s s.heap.objs.size (bindL (envOfC qual scope s.heap.objs.size f cd).kindOf (ps.zip us) λ_=>none) (cellsFrom (s.heap.objs.size+1) scope.names []) (bindC (envOfC qual scope s.heap.objs.size f cd).kindOf (ps.zip us) λ_=>none) s1):
  Z2 (yf CX P w K mg base N qual scope f cd A outer s H E) [] (start N vs) H s1:=by
 have hpl:ps.length<=N.length:=by have:=congrArg List.length S.pre;rw[YM] at this;omega
 obtain⟨h1,tk,rfl,hk⟩:=x.done;have noA:∀b:WP,b∉(yf CX P w K mg base N qual scope f cd A outer s H E).ex:=λb z=>absurd (show b∈([]:List WP) from z) (by simp);refine⟨⟨e0.mod,S.kind,FQ,FQ,XE _,λy z c h1 h2=>?_,λy hy=>?_,λy c _ h=>?_,λ_=>hd,Around.frames_deeper e0.frames,.inr ⟨FQ,FQ⟩,λb z=>absurd z (noA b),e0.bs,e0.bsz,λb _ _=>noA b,λb z=>absurd z (noA b),e0.funs,e0.frf⟩,
  rfl,e0.bare,Un.kept hk,⟨_,x.toInCall.ns,λi y v h1 h2 h3=>?_⟩,λy c h=>⟨_,x.cell y c h⟩,e0.hok.fresh (Nat.le_refl _),λy c h=>?_,λp hp=>absurd (show p∈([]:List (WP×Obj)) from hp) (by simp),e0.hok.kept hk,?_⟩
 ·exact name_of_addr x.apart (CQ h1) (CQ h2)
 ·have hy:scope.names.lookup y=some .cell\/scope.names.lookup y=some .free:=hy
  rcases hy with hy | hy
  ·exact jT hy
  ·exact absurd FQ (S.nofree _ (CQ hy))
 ·exact EF (x.above y c (CQ h))
 ·have hi:i<vs.length:=by
   unfold start at h2;by_cases hi:i<vs.length
   ·exact hi
   ·rw[List.getElem?_append_right (by simpa using hi)] at h2;rw[List.getElem?_replicate] at h2
    split at h2<;>cases h2
  have ha:vs[i]?=some v:=by
   unfold start at h2;rw[List.getElem?_append_left (by simpa using hi),List.getElem?_map] at h2
   cases e:vs[i]? with
   | none=>rw[e] at h2;cases h2
   | some a=>rw[e] at h2;cases h2;rfl
  obtain⟨u,hu,rv⟩:=r.get ha;have hp:ps[i]?=some y:=by
   rw[<-S.pre,List.getElem?_take_of_lt (by omega)];exact h1
  have ndP:ps.Nodup:=by rw[<-S.pre];exact S.nd.sublist (List.take_sublist _ _)
  refine⟨u,rv,?_⟩
  rcases S.par y (CF hp) with k | k
  ·exact .inl ⟨k,Au ndP hp hu k⟩
  ·obtain⟨c,e⟩:=jT (n:=s.heap.objs.size+1) k;refine .inr ⟨.inl k,c,e,?_⟩;have q:=x.cell y c e;rw[Aw ndP hp hu (by show scope.names.lookup y≠_;rw[k];decide)] at q;exact q
 ·exact e0.hok.fresh (EF (x.above y c (CQ h)))
 ·unfold start;show _=N.length;rw[BX,XI,ET];omega
def kS {CX:tW}{P:WO}{w:WN}{K:WY}{mg:Str->Option WQ}{base:WU}{k:Nat}{f:WP}{name qual:Str}{params:Arguments}{body:List WV}{scope:Scope}{dV kV doc pm cdv ct oc:WQ}{an od:Option WP}
  {osl:Array (Option WQ)} {N ps:List Str} {sp:Sp} (lk:K.lookup f=some ⟨oc,od,.func (W.fnOf name qual params body scope dV kV doc pm an cdv ct),osl⟩) (hcd:W.codeIn K cdv qual=true) (S:Zu N ps scope)
  (len:∀vs H Q E,sp vs H Q E->vs.length=ps.length)
  (hbody:∀(A:WM) (outer:List Env) (s:WR) (H:Hp) (vs:List V) (Q:VK) (E:XK),X8 k (A.deeper (envOfC qual scope s.heap.objs.size f cdv))->sp vs H Q E->
   ∃t,uk (yf CX P w K mg base N qual scope f cdv A outer s H E) body t/\t {nx:=λ_ H'=>Q .non H',rt:=Q} (start N vs) H):
  Vk P w K mg base CX (k+1) f (W.fnOf name qual params body scope dV kV doc pm an cdv ct) ps sp:=by
 refine⟨len,λA outer s H args us vs Q E hr e0 hb r hsp=>?_⟩;have hl:=len _ _ _ _ hsp;have KX:K.In s.heap:=e0.mod.kin.keeps λb o e=>(e0.bs b o e).1;have lim:s.heap.NoLimit:=e0.mod.nolimit.keeps λb o e=>(e0.bs b o e).1;have hkind:∀y∈ps.zip us,scope.names.lookup y.1=some .local\/(scope.names.lookup y.1=some .cell/\((cellsFrom (s.heap.objs.size+1) scope.names []).lookup y.1).isSome=true):=λ⟨n,v⟩ hy=>by
  rcases S.par n (DR hy).1 with q | q
  ·exact .inl q
  ·exact .inr ⟨q,W.cellsFrom_some _ _ _ (.inl q)⟩
 refine codeAny_call_function hr.depth (KX _ _ lk) FQ S.co S.gen FQ (W.codeRec_of KX hcd) (hb _ _ _ _ ?_);refine wpAny_newFunctionEnv_cells S.kind hkind λenv he s1 x=>?_;subst he;refine⟨lim.keeps x.toInCall.keep,codeAny_func ?_⟩;obtain⟨t,ht,hq⟩:=hbody A outer s H vs Q E (hr.deeper _) hsp;have I:Z2 (yf CX P w K mg base N qual scope f cdv A outer s H E) [] (start N vs) H s1:=uX S hr.hd e0 hl r x;refine wpAny_mono (ht [] s1 (start N vs) H _ I hq) (λfl s' hs=>?_) λe s' hs=>hs;have fin:∀{σ':St} {H':Hp} {v:V} {u:WQ},Z2 (yf CX P w K mg base N qual scope f cdv A outer s H E) [] σ' H' s'->Yg v u->Q v H'->CE outer P w H s Q u s':=
  λ{σ' H' v u} J rv q=>⟨v,H',J.os,J.bare,J.base,J.hok,rv,q⟩
 cases fl with
 | ret u=>
  obtain⟨v,σ',H',J,rv,q⟩:=hs;exact fin J rv q
 | next=>
  obtain⟨σ',H',J,q⟩:=hs;exact fin (v:=V.non) (u:=Value.none) J FQ q
 | brk=>
  obtain⟨_,_,_,q⟩:=hs;exact False.elim q
 | cont=>
  obtain⟨_,_,_,q⟩:=hs;exact False.elim q
section
variable {X:Cx}{x:Str}{p pos:Pos}{e:WW}{es:List WW}{t:TA}{id T:String}{r:List V->Hp->VK->Prop}
def aW (r:List V->Hp->VK->Prop)(t:TA):TE:=λσ H Q=>t σ H λvs H1=>r vs H1 Q
def jd (hc:Vl X (.builtin id) r)(hg:Gl X x)(hm:X.mg x=none)(hv:bootBuiltins x=some (.builtin id))(ha:PA X (e::es) t)(hn:autoParam (x≠"__name__") QzD)(hdb:autoParam ((x==("__debug__":Str))=false) QzD)
  (he:autoParam (starEach (e::es) X.env=(false,eval e X.env)::starEach es X.env) QzR) (hpl:autoParam ((backTo pos (starEach es X.env)).any (·.1)=false) QzR):PE X (.Call (.Name x p) (e::es) [] pos) (aW r t):=by
 intro WZ s σ H Q I h;refine wpAny_Call_Name_kw (Vo I hg hm hv ?_ hn hdb);exact PyProof.Rows.callWith_builtin1 (Js (ha pos WZ s σ H _ I h) λus s1 ⟨vs,H1,I1,r1,q1⟩=>hc WZ s1 σ H1 vs us Q I1 r1 q1) he hpl
def uG (hc:Vl X (.type T) r)(hg:Gl X x)(hm:X.mg x=none)(hv:bootBuiltins x=some (.type T))(ha:PA X (e::es) t)(hn:autoParam (x≠"__name__") QzD)(hdb:autoParam ((x==("__debug__":Str))=false) QzD)
  (he:autoParam (starEach (e::es) X.env=(false,eval e X.env)::starEach es X.env) QzR) (hpl:autoParam ((backTo pos (starEach es X.env)).any (·.1)=false) QzR):PE X (.Call (.Name x p) (e::es) [] pos) (aW r t):=by
 intro WZ s σ H Q I h;refine wpAny_Call_Name_kw (Vo I hg hm hv ?_ hn hdb);exact BZ (Js (ha pos WZ s σ H _ I h) λus s1 ⟨vs,H1,I1,r1,q1⟩=>hc WZ s1 σ H1 vs us Q I1 r1 q1) he hpl
end
end L2
namespace HT
open PySem PyProof.Rows
def bn:List Int->List Int->Bool
 | [],[]=>false
 | [],_::_=>true
 | _::_,[]=>false
 | x::xs,y::ys=>if x=y then bn xs ys else decide (x<y)
section
open PySem.SeqAt
open PySem.AutoSeq1 (wpAny_loadPart')
open PySem.MeetsSeq PySem.MeetsSeq2 PySem.MeetsSeq3
end
section
variable {prog:WO}{w:WN}{A:WM}{E:WQ->WR->Prop}{s:WR}
def cat_tup {vs ws:List WQ}{Q:WQ->WR->Prop}(ht:IsTup s.heap t vs.toArray)(hb:IsTup s.heap b ws.toArray)(hv:vs≠[])
  (h1:ws=[]->Q (.ref t) s) (h2:ws≠[]->Q (.ref s.heap.objs.size) {s with heap:=s.heap.push {cls:=.type "tuple",data:=.seq (vs++ws).toArray}})
  (hsz:vs.length+ws.length<=sizeLine):wpAny (model prog w) A (binaryOp .Add (.ref t) (.ref b)) Q E s:=by
 obtain⟨⟨cls,dd,data,sl⟩,ho,hc,n,hd⟩:=id ht;obtain⟨⟨cls2,dd2,data2,sl2⟩,ho2,hc2,n2,hd2⟩:=id hb;simp only at hc hd hc2 hd2;subst hc hd hc2 hd2;have e:vs.toArray++ws.toArray=(vs++ws).toArray:=by simp
 by_cases hw:ws=[]
 ·exact concat_meets ⟨_,ho,FQ⟩ ⟨_,ho2,FQ⟩ noFill_tuple_add seq_tuple_add EN EI (EG _ _)
   (tuple_addW1 t b vs.toArray ws.toArray n n2 dd dd2 sl sl2 (by simpa using hv) (by simp[hw])) ⟨ho,ho2,h1 hw⟩
 ·refine concat_meets ⟨_,ho,FQ⟩ ⟨_,ho2,FQ⟩ noFill_tuple_add seq_tuple_add EN EI (EG _ _)
   (tuple_addW2 t b vs.toArray ws.toArray n n2 dd dd2 sl sl2 (by simpa using hv) (by simpa using hw) (by rw[List.size_toArray,List.size_toArray];exact hsz)) ⟨ho,ho2,?_⟩
  rw[e];exact h2 hw
def sIx (n d:Nat):Option Int->Nat
 | none=>d
 | some v=>if v<0 then(v+(n:Int)).toNat else min v.toNat n
def iU (n d:Nat)(hd:d<=n)(o:Option Int):sIx n d o<=n:=by
 cases o with
 | none=>exact hd
 | some v=>
  show(if v<0 then(v+(n:Int)).toNat else min v.toNat n)<=n;by_cases hv:v<0
  ·rw[XY hv];omega
  ·rw[XX hv];exact Nat.min_le_right _ _
def vX (v:Int)(n d:Nat):(if v<0 then max (v+(n:Int)) 0 else min v (n:Int))=((sIx n d (some v):Nat):Int):=by
 show(if v<0 then max (v+(n:Int)) 0 else min v (n:Int))=(((if v<0 then(v+(n:Int)).toNat else min v.toNat n):Nat):Int);by_cases hv:v<0
 ·simp only[if_pos hv];omega
 ·simp only[if_neg hv];omega
def wW (lo hi:Option Int)(n:Nat):Builtin.Slice.sliceAdjust lo hi 1 (n:Int)=(((sIx n 0 lo:Nat):Int),((sIx n n hi:Nat):Int)):=by
 have h1:¬((1:Int)<0):=by omega
 unfold Builtin.Slice.sliceAdjust;simp only[h1,if_false];refine Prod.ext ?_ ?_
 ·cases lo with
  | none=>rfl
  | some v=>exact vX v n 0
 ·cases hi with
  | none=>rfl
  | some v=>exact vX v n n
def xN (i j:Nat):Builtin.Slice.slicePlaces (i:Int) (j:Int) 1=j-i:=by
 unfold Builtin.Slice.slicePlaces;have h1:(1:Int)>0:=by omega
 simp only[h1,if_true,Int.ediv_one]
 split<;>omega
def Ea {Q:Option Int->WR->Prop}(p:IsPart v o)(h:Q o s):wpAny (model prog w) A (Builtin.Slice.slicePartIndex v) Q E s:=by
 cases p with
 | none=>exact slicePart_none h
 | int i t=>exact slicePart_int h
def Kz {lo hi:Option Int}{n:Nat}{Q:Int×Int×Nat->WR->Prop}(hs:s.heap.IsSliceOf sl vl vu .none)(pl:IsPart vl lo)(pu:IsPart vu hi)
  (h:Q (((sIx n 0 lo:Nat):Int),1,sIx n n hi-sIx n 0 lo) s):wpAny (model prog w) A (Builtin.Slice.sliceApplied (.ref sl) (pure (n:Int))) Q E s:=by
 obtain⟨os,hos,hcs,hds⟩:=id hs;unfold Builtin.Slice.sliceApplied Builtin.Slice.sliceFields;refine XA (XA (wpAny_field hos hds (x:=vl) FQ (XA (wpAny_field hos hds (x:=vu) FQ (XA (wpAny_field hos hds (x:=.none) FQ (XB ?_)))))));refine XA (slicePart_none ?_);show wpAny _ _ (if ((1:Int)==0)=true then _ else _) _ _ s;rw[XX (by decide)];refine XA (Ea pl (XA (Ea pu (XA (XB ?_)))));show wpAny _ _ (match Builtin.Slice.sliceAdjust lo hi 1 (n:Int) with | (lo,hi)=>pure (lo,(1:Int),Builtin.Slice.slicePlaces lo hi 1)) _ _ s;rw[wW lo hi n];show wpAny _ _ (pure (((sIx n 0 lo:Nat):Int),(1:Int),Builtin.Slice.slicePlaces ((sIx n 0 lo:Nat):Int) ((sIx n n hi:Nat):Int) 1)) _ _ s;rw[xN];exact XB h
def qi (xs:Array WQ)(i k:Nat):((List.range k).filterMap λ(m:Nat)=>xs[((i:Int)+(m:Int)*1).toNat]?).toArray=((xs.toList.drop i).take k).toArray:=by
 have e:(λ(m:Nat)=>xs[((i:Int)+(m:Int)*1).toNat]?)=λm=>xs[i+m]?:=by
  funext m
  have:((i:Int)+(m:Int)*1).toNat=i+m:=by omega
  rw[this]
 rw[e];have:=pick_run xs i k;rw[FF] at this;have e2:((λx=>xs[x]?)∘λx=>i+x)=λm=>xs[i+m]?:=rfl;rw[e2] at this;rw[this]
def getItem_tuple_cut {lo hi:Option Int}{Q:WQ->WR->Prop}(ht:IsTup s.heap t items)(hs:s.heap.IsSliceOf sl vl vu .none)(pl:IsPart vl lo)(pu:IsPart vu hi)
  (hw:¬(sIx items.size 0 lo=0/\sIx items.size items.size hi=items.size))
  (h:Q (.ref s.heap.objs.size) {s with heap:=s.heap.push {cls:=.type "tuple",data:=.seq ((items.toList.drop (sIx items.size 0 lo)).take (sIx items.size items.size hi-sIx items.size 0 lo)).toArray}})
  (hsz:items.size<=sizeLine):wpAny (model prog w) A (getItem (.ref t) (.ref sl)) Q E s:=by
 have htake:sizeOk (.seq ((items.toList.drop (sIx items.size 0 lo)).take (sIx items.size items.size hi-sIx items.size 0 lo)).toArray):=by
  show((items.toList.drop (sIx items.size 0 lo)).take (sIx items.size items.size hi-sIx items.size 0 lo)).toArray.size<=sizeLine;rw[XJ,YM,ER,Array.length_toList];omega
 have hj:sIx items.size items.size hi<=items.size:=iU _ _ (XE _) hi;obtain⟨os,hos,hcs,hds⟩:=id hs;have hTs:s.TypeIs (.ref sl) "slice":=⟨os,hos,hcs⟩;unfold getItem
 try with_reducible refine wpAny_holding ?_
 first | refine XA (XB ?_) | skip
 refine XA (wpAny_sequenceKey ht.typeIs (by decide) ?_);refine XA (wpAny_callSpecial?_slot (name:=Str.ofString "__getitem__") ht.typeIs EX
  (wpAny_call_entry EX ht.typeIs entry_tuple_getitem ?_ (args_tuple_getitem _ _)))
 show wpAny _ _ (Builtin.Tuple.tupleItemsOf (.ref t)>>=_) _ _ s;refine XA (tupleItemsOf_ ht ?_);refine XA (wpAny_typeOf hTs ?_);rw[XY (by decide)];refine XA (Kz hs pl pu ?_);have hno:¬((((sIx items.size 0 lo:Nat):Int)==0&&(1:Int)==1&&(sIx items.size items.size hi-sIx items.size 0 lo)==items.size)=true):=by
  intro q;rw[DK,DK] at q;have q1:((sIx items.size 0 lo:Nat):Int)=0:=eq_of_beq q.1.1;have q2:sIx items.size items.size hi-sIx items.size 0 lo=items.size:=eq_of_beq q.2;exact hw ⟨by omega,by omega⟩
 show wpAny _ _ (if (((sIx items.size 0 lo:Nat):Int)==0&&(1:Int)==1&&(sIx items.size items.size hi-sIx items.size 0 lo)==items.size)=true then _ else _) _ _ s;rw[XX hno,qi]
 first
  | exact XA (m:=Builtin.Tuple.tupleExact _) (wpAny_newObj_type (XB ⟨_,FQ,XB h⟩) htake)
  | exact XA (m:=Builtin.Tuple.tupleExact _) (wpAny_newObj_type (XA (XB (XB ⟨_,FQ,XB h⟩))) htake)
  | exact XA (XA (m:=Builtin.Tuple.tupleExact _) (wpAny_newObj_type (XB (XB ⟨_,FQ,XB h⟩)) htake))
  | exact XA (XA (m:=Builtin.Tuple.tupleExact _) (wpAny_newObj_type (XB ⟨_,FQ,XB h⟩) htake))
end
end HT
namespace L2
open PySem PySem.Spec PyProof.Rows
abbrev TO:=St->Hp->(Option Int->Hp->Prop)->Prop
def PO (X:Cx)(e:Option WW)(t:TO):Prop:=
 ∀(WZ:List (WP×Obj)) (s:WR) (σ:St) (H:Hp) (Q:Option Int->Hp->Prop),Z2 X WZ σ H s->t σ H Q->
  wpAny (model X.prog X.w) X.A (evalPart e X.env) (λu s'=>∃o H',Z2 X WZ σ H' s'/\IsPart u o/\Q o H') X.xe s
def nz:TO:=λ_ H Q=>Q none H
def dB (t:TE):TO:=λσ H Q=>t σ H λx H1=>∃i,x=.int i/\Q (some i) H1
section
variable {X:Cx}{e:WW}{te:TE}{lo hi:Option WW}{tl th:TO}{pos p2:Pos}
def m5:PO X none nz:=by
 intro WZ s σ H Q I h;rw[evalPart_none];exact XB ⟨none,H,I,.none,h⟩
def m4 (h:PE X e te):PO X (some e) (dB te):=by
 intro WZ s σ H Q I hw;rw[evalPart_some];refine Js (h WZ s σ H _ I hw) λu s1 zZ=>?_;obtain⟨x,H1,I1,r1,q1⟩:=zZ;obtain⟨i,rfl,q⟩:=q1;obtain⟨t,rfl⟩:=r1;exact⟨some i,H1,I1,.int i t,q⟩
def kq (X:Cx)(r:V->Option Int->Option Int->Hp->VK->Prop):Prop:=
 ∀(WZ:List (WP×Obj)) (s:WR) (σ:St) (H:Hp) (x:V) (v vl vu:WQ) (lo hi:Option Int) (sl:WP) (Q:VK),Z2 X WZ σ H s->Yg x v->s.heap.IsSliceOf sl vl vu .none->IsPart vl lo->IsPart vu hi->r x lo hi H Q->
  ∃T id,typeLookup (.type T) "__getitem__"=pure (some (.builtin id))/\s.TypeIs v T/\wpAny (model X.prog X.w) X.A (getItem v (.ref sl)) (EP X WZ σ Q) X.xe s
def kq.or {r r':V->Option Int->Option Int->Hp->VK->Prop}(h:kq X r)(h':kq X r'):kq X (λx lo hi H Q=>r x lo hi H Q\/r' x lo hi H Q):=by
 intro WZ s σ H x v vl vu lo hi sl Q I rx hs pl pu q
 rcases q with q | q
 ·exact h WZ s σ H x v vl vu lo hi sl Q I rx hs pl pu q
 ·exact h' WZ s σ H x v vl vu lo hi sl Q I rx hs pl pu q
def Zcx (r:V->Option Int->Option Int->Hp->VK->Prop)(te:TE)(tl th:TO):TE:=λσ H Q=>te σ H λx H1=>tl σ H1 λl H2=>th σ H2 λu H3=>r x l u H3 Q
def qj {r:V->Option Int->Option Int->Hp->VK->Prop}(hr:kq X r)(he:PE X e te)(hl:PO X lo tl)(hu:PO X hi th):PE X (.Subscript e (.Slice lo hi none p2) pos) (Zcx r te tl th):=by
 intro WZ s σ H Q I h;refine Subscript_ (Js (he WZ s σ H _ I h) λv s1 zZ=>?_);obtain⟨x,H1,I1,r1,q1⟩:=zZ;refine wpAny_Slice (Js (hl WZ s1 σ H1 _ I1 q1) λvl s2 zZ=>?_);obtain⟨l,H2,I2,pl,q2⟩:=zZ;refine Js (hu WZ s2 σ H2 _ I2 q2) λvu s3 zZ=>?_;obtain⟨u,H3,I3,pu,q3⟩:=zZ;rw[evalPart_none];refine XB ?_;have I4:Z2 X WZ σ H3 {s3 with heap:=s3.heap.push {cls:=.type "slice",data:=.fields #[vl,vu,.none]}}:=I3.kept (t':=s3.toks) λb ob q=>XC _ q;obtain⟨T,id,hT,ht,hg⟩:=hr WZ {s3 with heap:=s3.heap.push {cls:=.type "slice",data:=.fields #[vl,vu,.none]}} σ H3 x v vl vu l u s3.heap.objs.size Q I4 r1 (Heap.IsSliceOf.new ..) pl pu q3;show wpAny (model X.prog X.w) X.A (subscriptTail e (.Slice lo hi none p2) v (.ref s3.heap.objs.size)) (EP X WZ σ Q) X.xe {s3 with heap:=s3.heap.push {cls:=.type "slice",data:=.fields #[vl,vu,.none]}};exact tail_any (ops:=[.ref s3.heap.objs.size,v]) ht hT hg (by with_unfolding_all rfl)
def jQ (xs:List V)(lo hi:Option Int):List V:=(xs.drop (HT.sIx xs.length 0 lo)).take (HT.sIx xs.length xs.length hi-HT.sIx xs.length 0 lo)
def Hx (xs:List V)(lo hi:Option Int):(jQ xs lo hi).length<=xs.length:=by
 unfold jQ;rw[YM,ER];omega
def Zai (K:WY):V->Option Int->Option Int->Hp->VK->Prop:=λx lo hi H Q=>∃a xs,x=.ref a/\U8 K H a xs/\
 ¬(HT.sIx xs.length 0 lo=0/\HT.sIx xs.length xs.length hi=xs.length)/\∀p,H p=none->Q (.ref p) (Je H p (.tup (jQ xs lo hi)))
def iL:kq X (Zai X.K):=by
 intro WZ s σ H x v vl vu lo hi sl Q I rx hs pl pu h;obtain⟨a,xs,rfl,hx,hw,q⟩:=h
 cases rx
 obtain⟨its,r,ht,hz⟩:=I.tuple hx;have hlen:its.toArray.size=xs.length:=by rw[XJ];exact r.length.symm
 refine⟨"tuple",_,PyProof.Rows.slot_tuple_getitem.lookup,ht.typeIs,?_⟩;refine HT.getItem_tuple_cut ht hs pl pu (by rw[hlen];exact hw) ?_ (by rw[hlen];exact hz);rw[hlen];refine⟨.ref s.heap.objs.size,_,I.laid (t':=s.toks) (o:=.tup (jQ xs lo hi)) (λb ob q=>XC _ q) (XE _) ?_,FQ,q _ (I.hok.fresh (XE _))⟩;exact⟨XN (Hx xs lo hi) hz,_,(r.drop (HT.sIx xs.length 0 lo)).take (HT.sIx xs.length xs.length hi-HT.sIx xs.length 0 lo),IsTup.new _ _⟩
def cA (K:WY):R2:=λx y H Q=>∃a b xs ys,x=.ref a/\y=.ref b/\U8 K H a xs/\U8 K H b ys/\xs≠[]/\xs.length+ys.length<=sizeLine/\
 (ys=[]->Q (.ref a) H)/\(ys≠[]->∀p,H p=none->Q (.ref p) (Je H p (.tup (xs++ys))))
def Yf.nil_iff (r:Yf xs us):us=[]↔xs=[]:=by
 cases r with
 | nil=>simp
 | cons _ _=>simp
def mK:Ot X (binaryOp .Add) (cA X.K):=by
 intro WZ s σ H x y v u Q I rx ry h;obtain⟨a,b,xs,ys,rfl,rfl,ha,hb,hx,hz,q1,q2⟩:=h
 cases rx
 cases ry
 obtain⟨its,r1,p1,_⟩:=I.tuple ha;obtain⟨its2,r2,p2,_⟩:=I.tuple hb;refine HT.cat_tup p1 p2 (λz=>hx (r1.nil_iff.mp z)) (λz=>⟨.ref a,H,I,FQ,q1 (r2.nil_iff.mp z)⟩) (λz=>?_) (by rw[<-r1.length,<-r2.length];exact hz);refine⟨.ref s.heap.objs.size,_,I.laid (t':=s.toks) (o:=.tup (xs++ys)) (λb ob q=>XC _ q) (XE _) ?_,FQ,q2 (λw=>z (r2.nil_iff.mpr w)) _ (I.hok.fresh (XE _))⟩;exact⟨by rw[BX];exact hz,_,r1.append r2,IsTup.new _ _⟩
end
def tR (n:Nat)(i:Int):Option Nat:=if 0<=i then(if i<n then some i.toNat else none) else if-(n:Int)<=i then some (i+n).toNat else none
def Sg {α:Type}(xs:List α)(i:Int):Option α:=(tR xs.length i).bind λj=>xs[j]?
def vH (h:tR n i=some j):seqIndex? i n=some j/\j<n/\ -(n:Int)<=i/\i<n:=by
 unfold tR at h;by_cases h0:0<=i
 ·rw[XY h0] at h;by_cases h1:i<n
  ·rw[XY h1] at h;have e:i.toNat=j:=YH h;exact⟨by rw[seqIndex_of h0 h1,e],by omega,by omega,h1⟩
  ·rw[XX h1] at h;cases h
 ·rw[XX h0] at h;by_cases h1: -(n:Int)<=i
  ·rw[XY h1] at h;have e:(i+n).toNat=j:=YH h;exact⟨by rw[seqIndex_neg (by omega) h1,e],by omega,h1,by omega⟩
  ·rw[XX h1] at h;cases h
def yr {α:Type}{xs:List α}{v:α}(h:Sg xs i=some v):∃j,seqIndex? i xs.length=some j/\xs[j]?=some v/\j<xs.length/\ -(xs.length:Int)<=i/\i<xs.length:=by
 unfold Sg at h
 cases e:tR xs.length i with
 | none=>rw[e] at h;cases h
 | some j=>
  rw[e] at h;obtain⟨h1,h2,h3,h4⟩:=vH e;exact⟨j,h1,h,h2,h3,h4⟩
def Og {α:Type}{xs:List α}{j:Nat}{v:α}(h:xs[j]?=some v):Sg xs (j:Int)=some v:=by
 have hj:j<xs.length:=(BW.mp h).1;have e:tR xs.length (j:Int)=some j:=by
  unfold tR;rw[if_pos (by omega),if_pos (by omega)];simp
 unfold Sg;rw[e];exact h
def uj (b:WW):Prop:=∀o i,subscripted b false o i=operate [o,i] (getItem o i)
def oV (X:Cx)(r:R2):Prop:=
 ∀(value slice:WW) (WZ:List (WP×Obj)) (s:WR) (σ:St) (H:Hp) (x y:V) (v u:WQ) (Q:VK),Z2 X WZ σ H s->Yg x v->Yg y u->r x y H Q->
  subscripted slice false v u=operate [v,u] (getItem v u)->wpAny (model X.prog X.w) X.A (subscriptTail value slice v u) (EP X WZ σ Q) X.xe s
def ak (X:Cx)(id:String)(r:V->List V->Hp->VK->Prop):Prop:=
 ∀(WZ:List (WP×Obj)) (s:WR) (σ:St) (H:Hp) (x:V) (xs:List V) (v:WQ) (us:List WQ) (Q:VK),Z2 X WZ σ H s->Yg x v->Yf xs us->r x xs H Q->
  wpAny (model X.prog X.w) X.A (call (.builtin id) (v::us)) (EP X WZ σ Q) X.xe s
section
variable {X:Cx}{a b:WW}{ta tb:TE}{pos:Pos}
def oV.or (h:oV X r)(h':oV X r'):oV X (λx y H Q=>r x y H Q\/r' x y H Q):=by
 intro value slice WZ s σ H x y v u Q I rx ry q hs
 rcases q with q | q
 ·exact h value slice WZ s σ H x y v u Q I rx ry q hs
 ·exact h' value slice WZ s σ H x y v u Q I rx ry q hs
def cJ (hr:oV X r)(ha:PE X a ta)(hb:PE X b tb)(hs:uj b):PE X (.Subscript a b pos) (dE r ta tb):=by
 intro WZ s σ H Q I h;exact Subscript_ (fR ha hb I h λv u s2 x y H2 I2 rx ry q=>hr a b WZ s2 σ H2 x y v u Q I2 rx ry q (hs _ _))
def c9 (K:WY):R2:=λx y H Q=>∃p xs i v,x=.ref p/\y=.int i/\Ws K H p xs/\Sg xs i=some v/\Q v H
def c5 (K:WY):R2:=λx y H Q=>∃p xs i v,x=.ref p/\y=.int i/\U8 K H p xs/\Sg xs i=some v/\Q v H
def c8:R2:=λx y H Q=>∃z i c,x=.str z/\y=.int i/\z.length<=sizeLine/\Sg z.cps.toList i=some c/\Q (.str ⟨#[c]⟩) H
def lr:oV X (c9 X.K):=by
 intro value slice WZ s σ H x y v u Q I rx ry h hs;obtain⟨p,xs,i,z,rfl,rfl,hq,he,q⟩:=h
 cases rx
 obtain⟨t,rfl⟩:=ry;obtain⟨its,r,pl,hz⟩:=I.list hq;obtain⟨j,h1,h2,h3,h4,h5⟩:=yr he;obtain⟨w,ew,rw'⟩:=r.get h2;have hl:=r.length;have hn:=Ii;have fin:EP X WZ σ Q w s:=⟨z,H,I,rw',q⟩;by_cases h0:0<=i
 ·have hj:i.toNat=j:=by
   rw[seqIndex_of h0 h5] at h1;exact YH h1
  exact item_listR pl.isList h0 (by omega) (by rw[hj];simpa using ew) fin hs
 ·have hj:(i+(its.toArray.size:Int)).toNat=j:=by
   rw[seqIndex_neg (by omega) h4] at h1;rw[XJ,<-hl];exact YH h1
  exact subscriptTail_builtinR (x:=w) pl.isList.typeIs slot_list_getitem.lookup
   (wpAny_getItem_list_neg (Q:=λr s'=>r=w/\EP X WZ σ Q r s') pl.isList (by omega) (by rw[List.size_toArray]<;>omega) (by omega) (by rw[hj];simpa using ew) ⟨FQ,fin⟩) hs
def gZ:oV X (c5 X.K):=by
 intro value slice WZ s σ H x y v u Q I rx ry h hs;obtain⟨p,xs,i,z,rfl,rfl,hq,he,q⟩:=h
 cases rx
 obtain⟨t,rfl⟩:=ry;obtain⟨its,r,pl,hz⟩:=I.tuple hq;obtain⟨j,h1,h2,h3,h4,h5⟩:=yr he;obtain⟨w,ew,rw'⟩:=r.get h2;have hl:=r.length;have hn:=Ii;have fin:EP X WZ σ Q w s:=⟨z,H,I,rw',q⟩;exact subscriptTail_builtinR (x:=w) pl.typeIs slot_tuple_getitem.lookup
  (getItem_tuple (j:=j) (Q:=λr s'=>r=w/\EP X WZ σ Q r s') pl (by omega) (by omega) (by rw[List.size_toArray,<-hl];exact h1) (by simpa using ew) ⟨FQ,fin⟩) hs
def fc:oV X c8:=by
 intro value slice WZ s σ H x y v u Q I rx ry h hs;obtain⟨z,i,c,rfl,rfl,hz,he,q⟩:=h;obtain⟨t,rfl⟩:=rx;obtain⟨t',rfl⟩:=ry;obtain⟨j,h1,h2,h3,h4,h5⟩:=yr he;have hl:z.cps.toList.length=z.length:=by simp[Str.length]
 rw[hl] at h1 h4 h5;have hn:=Ii;exact tail_any (typeIs_str s z t) slot_str_getitem.lookup (getItem_str (c:=c) (by
  have e1:decide (i< -(2^63:Int))=false:=YG (by omega);have e2:decide (i>=2^63)=false:=YG (by omega);rw[e1,e2,Bool.or_false]) (by rw[h1];simpa using h2) ⟨.str ⟨#[c]⟩,H,I.tok _,⟨_,FQ⟩,q⟩) hs
def Zdd (K:WY):R2:=λx y H Q=>c9 K x y H Q\/c5 K x y H Q\/c8 x y H Q
def fe:oV X (Zdd X.K):=lr.or (gZ.or fc)
def Z2.lst (I:Z2 X WZ σ H s)(h:H p=some (.lst xs)):
  ∃(its:List WQ) (n:Nat),Yf xs its/\s.heap.get? p=some {cls:=.type "list",data:=.seq its.toArray n}/\xs.length<=sizeLine:=by
 obtain⟨z,its,n,r,e⟩:=I.hok p _ h;exact⟨its,n,r,e,z⟩
def zh (lo hi:Option Int)(n:Nat):(sliceBounds lo hi none n).1=((HT.sIx n 0 lo:Nat):Int)/\(sliceBounds lo hi none n).2.1=((HT.sIx n n hi:Nat):Int)/\(sliceBounds lo hi none n).2.2=1:=by
 refine⟨?_,?_,FQ⟩
 ·cases lo with
  | none=>simp[sliceBounds,HT.sIx]
  | some i=>
   simp only[sliceBounds,HT.sIx,Option.getD_none,show(1:Int)>0 by decide,if_true];by_cases h:i<0
   ·simp only[h,if_true]<;>omega
   ·simp only[h,if_false]<;>omega
 ·cases hi with
  | none=>simp[sliceBounds,HT.sIx]
  | some i=>
   simp only[sliceBounds,HT.sIx,Option.getD_none,show(1:Int)>0 by decide,if_true];by_cases h:i<0
   ·simp only[h,if_true]<;>omega
   ·simp only[h,if_false]<;>omega
def Ct (its:List WQ)(lo hi:Option Int):slicePick its.toArray lo hi none=((its.drop (HT.sIx its.length 0 lo)).take (HT.sIx its.length its.length hi-HT.sIx its.length 0 lo)).toArray:=by
 obtain⟨h1,h2,h3⟩:=zh lo hi its.toArray.size;unfold slicePick;rw[h1,h2,h3];simp only[sliceRange_one,pick_run,List.size_toArray]<;>rfl
def Zak (K:WY):V->Option Int->Option Int->Hp->VK->Prop:=λx lo hi H Q=>∃a xs,x=.ref a/\Ws K H a xs/\∀p,H p=none->Q (.ref p) (Je H p (.lst (jQ xs lo hi)))
def nC:kq X (Zak X.K):=by
 intro WZ s σ H x v vl vu lo hi sl Q I rx hs pl pu h;obtain⟨a,xs,rfl,hx,q⟩:=h
 cases rx
 obtain⟨its,r,ht,hz⟩:=I.list hx;have hlen:=r.length;refine⟨"list",_,slot_list_getitem.lookup,ht.isList.typeIs,?_⟩;refine wpAny_getItem_list_slice ht.isList hs pl pu .none (by simp) ?_ (by rw[List.size_toArray]<;>omega);rw[Ct,<-hlen];refine⟨.ref s.heap.objs.size,_,I.laid (t':=s.toks) (o:=.lst (jQ xs lo hi)) (λb ob q=>XC _ q) (XE _) ?_,FQ,q _ (I.hok.fresh (XE _))⟩;exact⟨XN (Hx xs lo hi) hz,_,0,(r.drop (HT.sIx xs.length 0 lo)).take (HT.sIx xs.length xs.length hi-HT.sIx xs.length 0 lo),XF _ FQ⟩
def jI:V->Bool
 | .non=>true
 | .bl _=>true
 | .int _=>true
 | .str _=>true
 | _=>false
noncomputable def f9:V->V->Bool
 | .non,.non=>true
 | .bl a,.bl b=>a==b
 | .bl a,.int b=>(if a then 1 else 0)==b
 | .int a,.bl b=>a==(if b then 1 else 0)
 | .int a,.int b=>a==b
 | .str a,.str b=>a==b
 | _,_=>false
def pO (ry:Yg y u)(rx:Yg x v)(fy:jI y=true)(fx:jI x=true):SeqAt.EqAt A s u v (f9 y x):=by
 cases y with
 | non=>
  cases ry
  cases x with
  | non=>cases rx;exact SeqAt.EqAt.same _
  | bl b=>cases rx;exact SeqAt.EqAt.none_bool b
  | int b=>obtain⟨t,rfl⟩:=rx;exact SeqAt.EqAt.none_int b t
  | str b=>obtain⟨t,rfl⟩:=rx;exact SeqAt.EqAt.none_str b t
  | _=>exact absurd (show false=true from fx) YJ
 | bl a=>
  cases ry
  cases x with
  | non=>cases rx;exact SeqAt.EqAt.bool_none a
  | bl b=>cases rx;exact SeqAt.EqAt.bool_bool a b
  | int b=>obtain⟨t,rfl⟩:=rx;exact SeqAt.EqAt.bool_int a b t
  | str b=>obtain⟨t,rfl⟩:=rx;exact SeqAt.EqAt.bool_str a b t
  | _=>exact absurd (show false=true from fx) YJ
 | int a=>
  obtain⟨t',rfl⟩:=ry
  cases x with
  | non=>cases rx;exact SeqAt.EqAt.int_none a t'
  | bl b=>cases rx;exact SeqAt.EqAt.int_bool a t' b
  | int b=>obtain⟨t,rfl⟩:=rx;exact SeqAt.EqAt.int_int a t' b t
  | str b=>obtain⟨t,rfl⟩:=rx;exact SeqAt.EqAt.int_str a t' b t
  | _=>exact absurd (show false=true from fx) YJ
 | str a=>
  obtain⟨t',rfl⟩:=ry
  cases x with
  | non=>cases rx;exact SeqAt.EqAt.str_none a t'
  | bl b=>cases rx;exact SeqAt.EqAt.str_bool a t' b
  | int b=>obtain⟨t,rfl⟩:=rx;exact SeqAt.EqAt.str_int a t' b t
  | str b=>obtain⟨t,rfl⟩:=rx;exact SeqAt.EqAt.str_str a t' b t
  | _=>exact absurd (show false=true from fx) YJ
 | _=>exact absurd (show false=true from fy) YJ
def Zdz (x:V)(u:WQ):Bool:=match u with
 | .none=>f9 .non x
 | .bool b=>f9 (.bl b) x
 | .int i _=>f9 (.int i) x
 | .str z _=>f9 (.str z) x
 | _=>false
def bu (x:V)(xs:List V):Bool:=xs.any λy=>f9 y x
def Zdx (K:WY)(neg:Bool):R2:=λx y H Q=>∃p xs,y=.ref p/\(Ws K H p xs\/U8 K H p xs)/\jI x=true/\xs.all jI=true/\Q (.bl (if neg then !bu x xs else bu x xs)) H
def yn:Vl X (.builtin "len") (λxs H Q=>∃p ys,xs=[.ref p]/\(Ws X.K H p ys\/U8 X.K H p ys)/\Q (.int ys.length) H):=by
 intro WZ s σ H xs us Q I r h;obtain⟨p,ys,rfl,hq,q⟩:=h;obtain⟨u,rfl,rx⟩:=Qi r
 cases rx
 have hn:=Ii
 rcases hq with hq | hq
 ·obtain⟨its,r',pl,hz⟩:=I.list hq;have hlen:=r'.length;exact Calls.call_len_list pl.isList (by simp only[List.size_toArray]<;>omega) ⟨.int ys.length,H,I.tok _,⟨s.toks+1,by rw[List.size_toArray,hlen]⟩,q⟩
 ·obtain⟨its,r',pl,hz⟩:=I.tuple hq;have hlen:=r'.length;exact len_tuple pl (by simp only[List.size_toArray]<;>omega) ⟨.int ys.length,H,I.tok _,⟨s.toks+1,by rw[List.size_toArray,hlen]⟩,q⟩
def ym:Vl X (.builtin "len") (λxs H Q=>∃z,xs=[.str z]/\z.length<=sizeLine/\Q (.int z.length) H):=by
 intro WZ s σ H xs us Q I r h;obtain⟨z,rfl,hz,q⟩:=h;obtain⟨u,rfl,t,rfl⟩:=Qi r;have hn:=Ii;exact len_str (by omega) ⟨.int z.length,H,I.tok _,⟨_,FQ⟩,q⟩
def Vl.or {f:WQ}{r r':List V->Hp->VK->Prop}(h:Vl X f r)(h':Vl X f r'):Vl X f (λxs H Q=>r xs H Q\/r' xs H Q):=by
 intro WZ s σ H xs us Q I rs q
 rcases q with q | q
 ·exact h WZ s σ H xs us Q I rs q
 ·exact h' WZ s σ H xs us Q I rs q
def yl:Vl X (.type "list") (λxs H Q=>∃p ys,xs=[.ref p]/\(Ws X.K H p ys\/U8 X.K H p ys)/\∀l,H l=none->Q (.ref l) (Je H l (.lst ys))):=by
 intro WZ s σ H xs us Q I r h;obtain⟨p,ys,rfl,hq,q⟩:=h;obtain⟨u,rfl,rx⟩:=Qi r
 cases rx
 have fin:∀(its:List WQ),Yf ys its->ys.length<=sizeLine->∀(h':WU) (c':Nat),(∀b o',s.heap.get? b=some o'->h'.get? b=some o')->
   h'.get? s.heap.objs.size=some {cls:=.type "list",dict:=none,data:=.seq its.toArray c',slots:=#[]}->EP X WZ σ Q (.ref s.heap.objs.size) {s with heap:=h'}:=λits r' hz h' c' kp e=>
  ⟨.ref s.heap.objs.size,_,I.laid (t':=s.toks) kp (XE _) (show J1 X.prog X.w _ h' _ (.lst ys) from⟨hz,its,c',r',e⟩),FQ,q _ (I.hok.fresh (XE _))⟩
 rcases hq with hq | hq
 ·obtain⟨its,r',pl,hz⟩:=I.list hq;have hlen:=r'.length;obtain⟨o,ho,hc,n,hd⟩:=pl.isList;exact call_list_seq p (.inl FQ) ho hc hd (λh' c' kp e=>fin its r' hz h' c' kp e) (by simp only[List.size_toArray]<;>omega)
 ·obtain⟨its,r',pl,hz⟩:=I.tuple hq;have hlen:=r'.length;obtain⟨o,ho,hc,n,hd⟩:=pl;exact call_list_seq p (.inr FQ) ho hc hd (λh' c' kp e=>fin its r' hz h' c' kp e) (by simp only[List.size_toArray]<;>omega)
def Br:Vl X (.type "tuple") (λxs H Q=>∃p ys,xs=[.ref p]/\((Ws X.K H p ys/\∀l,H l=none->Q (.ref l) (Je H l (.tup ys)))\/(U8 X.K H p ys/\Q (.ref p) H))):=by
 intro WZ s σ H xs us Q I r h;obtain⟨p,ys,rfl,h⟩:=h;obtain⟨u,rfl,rx⟩:=Qi r
 cases rx
 rcases h with⟨hq,q⟩ | ⟨hq,q⟩
 ·obtain⟨its,r',pl,hz⟩:=I.list hq;have hlen:=r'.length;refine call_tuple_list pl.isList (λh' kp=>?_) (by simp only[List.size_toArray]<;>omega);have I1:Z2 X WZ σ H {s with heap:=h'}:=I.kept (t':=s.toks) kp;have I2:Z2 X WZ σ (Je H h'.objs.size (.tup ys)) {s with heap:=h'.push {cls:=.type "tuple",data:=.seq its.toArray}}:=
   I1.laid (t':=s.toks) (λb o e=>XC _ e) (XE _) (show J1 X.prog X.w _ _ _ (.tup ys) from⟨hz,its,r',IsTup.new _ _⟩)
  exact⟨.ref h'.objs.size,_,I2,FQ,q _ (I1.hok.fresh (XE _))⟩
 ·obtain⟨its,r',pl,hz⟩:=I.tuple hq;exact call_tuple_same pl ⟨.ref p,H,I,FQ,q⟩
def iC (K:WY)(T:String)(x:V)(H:Hp):Prop:=match x with
 | .str _=>T="str"
 | .int _=>T="int"
 | .ref p=>(T="list"/\∃xs,Ws K H p xs)\/(T="tuple"/\∃o,K.lookup p=some o/\o.cls=.type "tuple"/\o.dict=none)\/
   (T="dict"/\((∃kvs,H p=some (.dK kvs))\/∃kvs,H p=some (.dT kvs)))\/(T="set"/\∃S n,H p=some (.set S n))
 | _=>False
def sL (I:Z2 X WZ σ H s)(r:Yg x v)(ty:iC X.K T x H):
  s.TypeIs v T/\∀a,v=.ref a->∃ob,s.heap.get? a=some ob/\ob.dict=none:=by
 cases x with
 | str z=>
  obtain⟨t,rfl⟩:=r
  cases (show T="str" from ty)
  exact⟨typeIs_str s z t,λ_ e=>nomatch e⟩
 | int i=>
  obtain⟨t,rfl⟩:=r
  cases (show T="int" from ty)
  exact⟨typeIs_int s i t,λ_ e=>nomatch e⟩
 | ref p=>
  cases r
  rcases ty with⟨rfl,xs,hq⟩ | ⟨rfl,o,hk,hc,hd⟩ | ⟨rfl,hk⟩ | ⟨rfl,S,n,hk⟩
  ·obtain⟨its,_,pl,_⟩:=I.list hq;refine⟨pl.isList.typeIs,λa e=>?_⟩
   cases e
   obtain⟨o,n,e,c,hd,_⟩:=pl;exact⟨o,e,hd⟩
  ·refine⟨⟨o,I.kIn p o hk,hc⟩,λa e=>?_⟩
   cases e
   exact⟨o,I.kIn _ o hk,hd⟩
  ·have z:∃o,s.heap.get? p=some o/\o.ExactDict:=by
    rcases hk with⟨kvs,hk⟩ | ⟨kvs,hk⟩
    ·obtain⟨_,_,_,_,o,_,_,e,ex,_⟩:=I.hok p _ hk;exact⟨o,e,ex⟩
    ·obtain⟨_,_,_,_,o,_,_,e,ex,_⟩:=I.hok p _ hk;exact⟨o,e,ex⟩
   obtain⟨o,e,ex⟩:=z;refine⟨⟨o,e,ex.1⟩,λa e2=>?_⟩
   cases e2
   exact⟨o,e,ex.2.1⟩
  ·obtain⟨o,_,_,_,e,ex,_⟩:=I.hok p _ hk;refine⟨⟨o,e,ex.1⟩,λa e2=>?_⟩
   cases e2
   exact⟨o,e,ex.2.1⟩
 | _=>exact False.elim ty
def aX (K:WY)(T:String)(r:V->List V->Hp->VK->Prop)(to:TE):TE:=λσ H Q=>to σ H λx H1=>iC K T x H1/\r x [] H1 Q
def Zc6 (K:WY)(T:String)(r:V->List V->Hp->VK->Prop)(to:TE)(t:TA):TE:=λσ H Q=>to σ H λx H1=>iC K T x H1/\t σ H1 λxs H2=>r x xs H2 Q
variable {o e:WW}{es:List WW}{to:TE}{t:TA}{name:Str}{apos cpos:Pos}{T id:String}{r:V->List V->Hp->VK->Prop}
def gy (pa:PlainAttrs T)(slot:Slot T name id)(hty:typeOf (.builtin id)=pure (.type "method_descriptor"))(hm:ak X id r)(ho:PE X o to)
  (hbase:autoParam (attributeBase o name X.env (eval o X.env)=eval o X.env) QzR) (hline:autoParam ((apos.endLine==cpos.line)=true) QzR):PE X (.Call (.Attribute o name apos) [] [] cpos) (aX X.K T r to):=by
 intro WZ s σ H Q I h;refine wpAny_Call_method0_late hbase hline (Js (ho WZ s σ H _ I h) λv s1 zZ=>?_);obtain⟨x,H1,I1,r1,ty,q1⟩:=zZ;obtain⟨h1,h2⟩:=sL I1 r1 ty;exact⟨T,id,pa,slot,hty,h1,h2,DB FQ (PySem.evalArgs_none (hm WZ s1 σ H1 x [] v [] Q I1 r1 .nil q1))⟩
def cM (pa:PlainAttrs T)(slot:Slot T name id)(hty:typeOf (.builtin id)=pure (.type "method_descriptor"))(hm:ak X id r)(ho:PE X o to)(ha:PA X (e::es) t)
  (hbase:autoParam (attributeBase o name X.env (eval o X.env)=eval o X.env) QzR)
  (hfew:autoParam (((backTo cpos (starEach (e::es) X.env)).all (λx=>!x.1)&&(backToKw cpos (keywordEach [] X.env)).all (λx=>x.1.isSome)
   &&decide ((e::es).length+([]:List Keyword).length+(if ([]:List Keyword).isEmpty then 0 else 1)<30))=true) QzR)
  (hline:autoParam ((apos.endLine==cpos.line)=true) QzR) (hs:autoParam (starEach (e::es) X.env=(false,eval e X.env)::starEach es X.env) QzR) (hplain:autoParam ((backTo cpos (starEach es X.env)).any (·.1)=false) QzR):
  PE X (.Call (.Attribute o name apos) (e::es) [] cpos) (Zc6 X.K T r to t):=by
 intro WZ s σ H Q I h;refine wpAny_Call_method_late hbase hfew hline FQ (Js (ho WZ s σ H _ I h) λv s1 zZ=>?_);obtain⟨x,H1,I1,r1,ty,q1⟩:=zZ;obtain⟨h1,h2⟩:=sL I1 r1 ty;refine⟨T,id,pa,slot,hty,h1,h2,?_⟩;have hA:=ha cpos WZ s1 σ H1 _ I1 q1;rw[hs] at hA |-;refine DB (by show(false||(backTo cpos (starEach es X.env)).any (·.1))=false;rw[hplain]<;>rfl) (DY ?_);exact Js hA λus s2 ⟨vs,H2,I2,r2,q2⟩=>hm WZ s2 σ H2 x vs v us Q I2 r1 r2 q2
/-xs.append(e),list.index on a module's tuple .. are ak facts of 06m-/
end
def ao (X:Cx)(id:String)(r:V->List V->Hp->VK->Prop):Prop:=
 ∀(WZ:List (WP×Obj)) (s:WR) (σ:St) (H:Hp) (x:V) (xs:List V) (v:WQ) (us:List WQ) (Q:VK),Z2 X WZ σ H s->Yg x v->Yf xs us->r x xs H Q->
  wpAny (model X.prog X.w) X.A (call (.builtin id) (v::us)) (EP X WZ σ Q) X.xe s
def Yf.one {x:V}{us:List WQ}(h:Yf [x] us):∃u,us=[u]/\Yg x u:=by
 cases h with | cons r t=>cases t;exact⟨_,FQ,r⟩
def Yf.two {x y:V}{us:List WQ}(h:Yf [x,y] us):∃u v,us=[u,v]/\Yg x u/\Yg y v:=by
 cases h with | cons r t=>obtain⟨v,rfl,q⟩:=Yf.one t;exact⟨_,_,FQ,r,q⟩
def Yf.zero:∀{us:List WQ},Yf [] us->us=[]
 | _,.nil=>rfl
def Yf.dropLast (h:Yf xs us):Yf xs.dropLast us.dropLast:=by
 induction h with
 | nil=>exact .nil
 | cons r t ih=>
  cases t with
  | nil=>exact .nil
  | cons q t'=>exact .cons r ih
theorem Yf.eraseIdx:∀{xs:List V} {us:List WQ} (i:Nat),Yf xs us->Yf (xs.eraseIdx i) (us.eraseIdx i)
 | _,_,_,.nil=>.nil
 | _,_,0,.cons _ t=>t
 | _,_,i+1,.cons r t=>.cons r (Yf.eraseIdx i t)
def wH {α:Type}(l:List α):l.eraseIdx (l.length-1)=l.dropLast:=by
 induction l with
 | nil=>rfl
 | cons a r ih=>
  cases r with
  | nil=>rfl
  | cons b r=>
   have e:(a::b::r).length-1=((b::r).length-1)+1:=by
    have h1:(a::b::r).length=r.length+2:=rfl;have h2:(b::r).length=r.length+1:=rfl;omega
   rw[e,List.eraseIdx_cons_succ,ih]
   all_goals rfl
theorem Ah {α:Type}:∀(l:List α) (i:Nat),(l.eraseIdx i).length<=l.length
 | [],_=>XE _
 | _::_,0=>Nat.le_succ _
 | _::r,i+1=>Nat.succ_le_succ (Ah r i)
section
variable {X:Cx}{WZ:List (WP×Obj)}{σ:St}{H:Hp}{s:WR}{l b:WP}{xs ys zs:List V}
def Z2.lset {its its':List WQ}{n:Nat}{f:Array WQ->Array WQ}{t':Nat}(I:Z2 X WZ σ H s)(hH:H l=some (.lst xs))
  (e:s.heap.get? l=some {cls:=.type "list",data:=.seq its.toArray n}) (hf:f its.toArray=its'.toArray) (hv:Yf ys its') (hz:ys.length<=sizeLine):
  Z2 X WZ σ (Je H l (.lst ys)) {s with heap:=s.heap.update l (Obj.mapSeq f),toks:=t'}:=by
 have q:=PySem.IsL.update e f;rw[hf] at q;refine I.write (x:=l) (e:=l) (by rw[hH];exact trivial) (.inl FQ) (λb' u hb hu=>(Heap.get?_update_other s.heap (Obj.mapSeq f) (Ne.symm hb)).trans hu) ⟨_,q⟩ ?_;exact⟨hz,its',_,hv,q⟩
def Z2.lnew {t':Nat}(I:Z2 X WZ σ H s)(hv:Yf ys its)(hz:ys.length<=sizeLine):
  Z2 X WZ σ (Je H s.heap.objs.size (.lst ys)) {s with heap:=s.heap.push {cls:=.type "list",data:=.seq its.toArray},toks:=t'}:=
 I.laid (λ_ _ q=>XC _ q) (XE _) ⟨hz,its,0,hv,XF _ FQ⟩
def Z2.fresh (I:Z2 X WZ σ H s):H s.heap.objs.size=none:=I.hok.fresh (XE _)
def Z2.lstM (I:Z2 X WZ σ H s)(hH:H l=some (.lst xs)):xs.length<=sizeLine/\∃(its:List WQ) (n:Nat),Yf xs its/\xs.length=its.length/\s.heap.get? l=some {cls:=.type "list",data:=.seq its.toArray n}:=by
 obtain⟨z,its,n,r,e⟩:=I.hok l _ hH;exact⟨z,its,n,r,r.length,e⟩
def qG {n:Nat}(h:n<=sizeLine):Builtin.List.listTooLong n=false:=by
 unfold Builtin.List.listTooLong;exact YG (by omega)
end
section
variable {X:Cx}
def nZ:V->List V->Hp->VK->Prop:=λx vs H Q=>∃l xs y,x=.ref l/\vs=[y]/\H l=some (.lst xs)/\xs.length<sizeLine/\Q .non (Je H l (.lst (xs++[y])))
def B9:ao X "list.append" nZ:=by
 intro WZ s σ H x vs v us Q I rx rv h;obtain⟨l,xs,y,rfl,rfl,hH,hz,q⟩:=h
 cases rx
 obtain⟨u,rfl,ru⟩:=rv.one;obtain⟨z,its,n,r,hl,e⟩:=I.lstM hH;refine call_meets F.slot_list_append ⟨_,e,FQ⟩ F.entry_list_append (F.args_list_append_2 _ _) (PySem.list_append l its.toArray n u (by rw[XJ];omega)) ⟨e,?_⟩;refine⟨.non,_,I.lset (its':=its++[u]) hH e (by simp) (r.append (.cons ru .nil)) ?_,FQ,q⟩;rw[BX,List.length_singleton];omega
def nY:V->List V->Hp->VK->Prop:=λx vs H Q=>∃l b xs zs,x=.ref l/\vs=[.ref b]/\H l=some (.lst xs)/\H b=some (.lst zs)/\xs.length+zs.length<=sizeLine/\Q .non (Je H l (.lst (xs++zs)))
def uL:ao X "list.extend" nY:=by
 intro WZ s σ H x vs v us Q I rx rv h;obtain⟨l,b,xs,zs,rfl,rfl,hH,hB,hz,q⟩:=h
 cases rx
 obtain⟨u,rfl,ru⟩:=rv.one
 cases ru
 obtain⟨z,its,n,r,hl,e⟩:=I.lstM hH;obtain⟨z2,its2,n2,r2,hl2,e2⟩:=I.lstM hB;have hsz:its.toArray.size+its2.toArray.size<=sizeLine:=by rw[XJ,XJ];omega
 have hlong:¬(!its.toArray.isEmpty&&Builtin.List.listTooLong (its.toArray.size+its2.toArray.size))=true:=by
  rw[qG hsz,Bool.and_false];exact YJ
 refine call_meets F.slot_list_extend ⟨_,e,FQ⟩ F.entry_list_extend (F.args_list_extend_2 _ _)
  (AutoSeq1.list_extend_list_list_0 l its.toArray n b its2.toArray n2 hlong (by rw[XJ];omega) (by omega)) ⟨e,e2,?_⟩
 refine⟨.non,_,I.lset (its':=its++its2) hH e (by simp) (r.append r2) ?_,FQ,q⟩;rw[BX];omega
def Zal:V->List V->Hp->VK->Prop:=λx vs H Q=>∃l xs y,x=.ref l/\vs=[]/\H l=some (.lst xs)/\xs[xs.length-1]?=some y/\Q y (Je H l (.lst xs.dropLast))
def gK:ao X "list.pop" Zal:=by
 intro WZ s σ H x vs v us Q I rx rv h;obtain⟨l,xs,y,rfl,rfl,hH,hy,q⟩:=h
 cases rx
 have hus:=rv.zero;subst hus;obtain⟨z,its,n,r,hl,e⟩:=I.lstM hH;obtain⟨u,hu,ru⟩:=r.get hy;have hy':its.toArray[its.toArray.size-1]?=some u:=by
  show its.toArray[its.length-1]?=some u;rw[<-DU,<-hl];exact hu
 refine call_meets F.slot_list_pop ⟨_,e,FQ⟩ F.entry_list_pop (F.args_list_pop_1 _) (MeetsSeq.list_pop_last l its.toArray n u hy' (by rw[XJ];omega)) ⟨e,?_⟩;refine⟨y,_,I.lset (its':=its.dropLast) hH e ?_ r.dropLast ?_,ru,q⟩
 ·show its.toArray.eraseIdxIfInBounds (its.toArray.size-1)=its.dropLast.toArray;rw[XJ,EY,wH]
 ·rw[EZ];omega
def iX:V->List V->Hp->VK->Prop:=λx vs H Q=>∃l xs i k y,x=.ref l/\vs=[.int i]/\H l=some (.lst xs)/\ -(2^63)<=i/\i<2^63/\seqIndex? i xs.length=some k/\xs[k]?=some y/\Q y (Je H l (.lst (xs.eraseIdx k)))
def qH:ao X "list.pop" iX:=by
 intro WZ s σ H x vs v us Q I rx rv h;obtain⟨l,xs,i,k,y,rfl,rfl,hH,h1,h2,hk,hy,q⟩:=h
 cases rx
 obtain⟨u,rfl,ru⟩:=rv.one;obtain⟨t,rfl⟩:=ru;obtain⟨z,its,n,r,hl,e⟩:=I.lstM hH;obtain⟨w,hw,rw'⟩:=r.get hy;refine call_meets F.slot_list_pop ⟨_,e,FQ⟩ F.entry_list_pop (F.args_list_pop_2 _ _)
  (MeetsSeq.list_pop_at l its.toArray n i t k w (fitsIndex_both h1 h2) (by rw[XJ,<-hl];exact hk) (by rw[<-DU];exact hw) (by rw[XJ];omega)) ⟨e,?_⟩
 refine⟨y,_,I.lset (its':=its.eraseIdx k) hH e ?_ (r.eraseIdx k) ?_,rw',q⟩
 ·show its.toArray.eraseIdxIfInBounds k=(its.eraseIdx k).toArray;rw[EY]
 ·have:=Ah xs k;omega
def Zan:R2:=λx y H Q=>∃l b xs zs,x=.ref l/\y=.ref b/\H l=some (.lst xs)/\H b=some (.lst zs)/\xs.length+zs.length<=sizeLine/\∀p,H p=none->Q (.ref p) (Je H p (.lst (xs++zs)))
def gE:Ot X (binaryOp .Add) Zan:=by
 intro WZ s σ H x y v u Q I rx ry h;obtain⟨l,b,xs,zs,rfl,rfl,hH,hB,hz,q⟩:=h
 cases rx
 cases ry
 obtain⟨z,its,n,r,hl,e⟩:=I.lstM hH;obtain⟨z2,its2,n2,r2,hl2,e2⟩:=I.lstM hB;refine PySem.P.add_list e e2 ?_ (by rw[XJ,XJ];omega);have ea:its.toArray++its2.toArray=(its++its2).toArray:=by simp
 rw[ea];exact⟨.ref _,_,I.lnew (t':=s.toks) (r.append r2) (by rw[BX];omega),FQ,q _ I.fresh⟩
def Zdc:R2:=λx y H Q=>∃l k xs,x=.ref l/\y=.int k/\H l=some (.lst xs)/\ -(2^63)<=k/\k<2^63/\xs.length*k.toNat<=sizeLine/\
 ∀p,H p=none->Q (.ref p) (Je H p (.lst (List.replicate k.toNat xs).flatten))
end
section
variable {prog:WO}{w:WN}{A:WM}{E:WQ->WR->Prop}{s:WR}
end
section
variable {X:Cx}
end
end L2
namespace Att
open PySem PySem.W PySem.Calls PyProof.Rows
def Gq:∀(ns:List Int) (vs:List WQ),WellAll P h vs (ns.map WData.int)->IntsAre vs ns:=by
 intro ns
 induction ns with
 | nil=>
  intro vs w;rw[FA] at w
  cases w
  exact .nil
 | cons n ns ih=>
  intro vs w;rw[YI] at w
  cases w with
  | cons a b=>
   cases a
   exact .cons _ _ (ih _ b)
def u3 {l:OpenLaw}(hn:l.most=some n){P:Params}{h:WU}{args:List WData}{vals:List WQ}
  (hpre:l.row.toRowW.claim.pre args=true) (hwl:WellAll P h vals args):
  ∃a vs ns,vals=[Value.ref a]/\args=[WData.list (ns.map WData.int)]/\h.get? a=some {cls:=.type "list",data:=.seq vs.toArray}/\IntsAre vs ns/\ns.length<=n:=by
 have hsh:WShape.hasAll [] args [.list .int]=true:=(pre_splitW hpre).1;have hc:l.pre.holds [] {args:=args}=true:=(pre_splitW hpre).2;obtain⟨d,r,rfl,h1,h2⟩:=hasAllW_cons hsh;obtain rfl:=hasAllW_nil h2;obtain⟨xs,rfl,h3⟩:=hasW_list h1;obtain⟨ns,rfl⟩:=items_int h3;have hlen:ns.length<=n:=by
  unfold OpenLaw.pre at hc;have h4:(WTm.not (.lt (.lit (.int (n:Int))) (.len (.arg 0)))).holds [] {args:=[.list (ns.map .int)]}=true:=by
   have h4:=(holds_andW hc).1;rw[hn] at h4;exact h4
  have h5:=condW_of h4 (w_not (w_lt w_lit (w_len_list (w_arg FQ))));rw[XI] at h5;refine Nat.le_of_not_lt λq=>?_;have q':(n:Int)<((ns.length:Nat):Int):=by omega
  first
   | (rw[decide_eq_true q'] at h5;exact absurd h5 (by decide))
   | (simp at h5;omega)
 cases hwl with
 | cons w1 w2=>
  cases w2
  cases w1 with
  | list ho hall=>exact⟨_,_,ns,FQ,FQ,ho,Gq ns _ hall,hlen⟩
def uB (l:OpenLaw)(args:List WData):l.row.toRowW.claim.post args (.bool true) args=true:=
 postW_of (r:=l.row.toRowW) (X:=(true==true))
  (show WShape.has [] (.bool true) .bool=true by first | rfl | decide | simp[WShape.has,WShape.arms,WShape.armsAll])
  (show(WTm.eq .res (.lit (.bool true))).value [] {args:=args,res:=some (.bool true),after:=args}=some (.bool (true==true)) from w_eq_bool (w_res FQ) w_lit) FQ
def attach_call {l:OpenLaw}{n:Nat}{q:WO}{loose:List Str}{XP:(Str->Option WQ)->WU->Prop}{YP:WN->WU->Prop}{d:DefRec}
  (hn:l.most=some n) (hdf:d.params.defaults=[])
  (call:∀(w:WN) (s₀ s₁:WR) (mg mb:Str->Option WQ) (fa:WP) (o:Obj) (pm cd doc:WQ) (a:WP) (vs:List WQ) (ns:List Int),
   Ground q loose [] XP w s₀ mg mb s₁.heap->YP w s₁.heap->
   s₁.heap.get? fa=some o->o.data=.func (docDef d.name d.params d.body d.scope pm cd doc)->s₁.heap.CodeRec cd d.name->mg d.name=some (.ref fa)->
   s₁.heap.get? a=some {cls:=.type "list",data:=.seq vs.toArray}->IntsAre vs ns->ns.length<=n->s₁.gens=#[]->
   codeAny (model l.prog w) callerA (.call (.ref fa) ⟨[.ref a],[]⟩) (λr s'=>r=.ok (.ret (.bool true))/\OldK s₁.heap s'.heap/\s'.os=s₁.os/\AllBare s'.gens) s₁):
  WalkO q loose XP YP l.row.toRowW d [] (λf vs=>PySem.call f vs):=by
 intro w s₀ s₁ mg mb G Y fa o pm cd doc dV kV ho hd hcd hD hmg hg args vals as hpre hlay hrd hwl hlo;obtain rfl:dV=.none:=Dflts.none hD hdf;obtain rfl:kV=.none:=Dflts.noKw hD;obtain⟨a,vs,ns,rfl,rfl,hobj,hints,hlen⟩:=u3 hn hpre hwl;refine enter_call (codeAny_mono (call w s₀ s₁ mg mb fa o pm cd doc a vs ns G Y ho (fd_plain hd) hcd hmg hobj hints hlen hg) λr s' hq=>?_);obtain⟨rfl,h2,h3,h4⟩:=hq;exact⟨.inl ⟨.bool true,.bool true,[],FQ,λ_=>rfl,.bool true,uB l _,λ_=>⟨List.Pairwise.nil,λ_ hm=>(nomatch hm)⟩⟩,h2,h3,h4⟩
section
variable {prog:WO}{w:WN}{A:WM}{E:WQ->WR->Prop}{s:WR}{K:Frag}
def Zay (h:WU)(L d:WP):List (WP×Obj):=(List.range h.objs.size).filterMap λa=>if a=L\/a=d then none else(h.get? a).map λo=>(a,o)
end
end Att
namespace L2
open PySem PySem.Spec PyProof.Rows
theorem Bx:∀{vs:List WQ} {ns:List Int},IntsAre vs ns->Yf (ns.map V.int) vs
 | _,_,.nil=>.nil
 | _,_,.cons n t h=>.cons ⟨t,FQ⟩ (Bx h)
def oH (H:Hp):Prop:=∀b,H b=none\/∃o xs,H b=some (.frz o (.lst xs))
def qW {P:WO}{w:WN}{K:WY}{mg mb:Str->Option WQ}{CX:tW}{k:Nat}{fa a:WP}{fd:VZ}{x:Str}{sp:Sp}{s₁:WR}{vs:List WQ}{ns:List Int}
  (KX:K.In s₁.heap) (hns:s₁.heap.Ns mainGlobals mg) (hb:s₁.heap.Ns builtinsNs mb) (hbb:∀x:Str,x≠"__name__"->mb x=bootBuiltins x) (hlim:s₁.heap.NoLimit) (hg:s₁.gens=#[])
  (ha:s₁.heap.get? a=some {cls:=.type "list",data:=.seq vs.toArray}) (hi:IntsAre vs ns) (hl:ns.length<=sizeLine) (hr:X8 k callerA)
  (F:∀base:WU,K.In base->base.Ns mainGlobals mg->Vk P w K mg base CX k fa fd [x] sp) (hbind:∀(s:WR) (u:WQ),BindsTo s fd ⟨[u],[]⟩ [(x,u)])
  (hsp:∀H:Hp,oH H->Ws K H a (ns.map V.int)->sp [.ref a] H (λv _=>v=.bl true) λ_ _ _=>False)
  (hCX:∀H e s',CX [] H s₁ (λ_ _ _=>False) e s'->False):
  codeAny (model P w) callerA (.call (.ref fa) ⟨[.ref a],[]⟩) (λr s'=>r=.ok (.ret (.bool true))/\OldK s₁.heap s'.heap/\s'.os=s₁.os/\AllBare s'.gens) s₁:=by
 have rv:=Bx hi;have lenV:=hi.length;have core:∀H:Hp,oH H->Ws K H a (ns.map V.int)->Td P w H s₁.heap->(∀b,H b≠none->b=a)->(H a≠none->K.lookup a=none)->
   codeAny (model P w) callerA (.call (.ref fa) ⟨[.ref a],[]⟩) (λr s'=>r=.ok (.ret (.bool true))/\OldK s₁.heap s'.heap/\s'.os=s₁.os/\AllBare s'.gens) s₁:=by
  intro H hO hS hok hA hK;have base_of:∀{b:WP} {o:Obj},s₁.heap.get? b=some o->H b=none->(zS s₁.heap H).get? b=some o:=λe n=>p9 e n;have noA:∀{b:WP} {o:Obj} {es:Array DictEntry} {ep:Nat},s₁.heap.get? b=some o->o.data=.dict es ep->H b=none:=λ{b o es ep} e d=>by
   cases q:H b with
   | none=>rfl
   | some u=>
    have e':b=a:=hA b (by rw[q];simp);subst e';rw[ha] at e;cases e;have d':Data.seq vs.toArray _=Data.dict es ep:=d
    cases d'
  have nsK:∀{b:WP} {m:Str->Option WQ},s₁.heap.Ns b m->(zS s₁.heap H).Ns b m:=λ{b m} ⟨o,es,ep,e,d,r⟩=>⟨o,es,ep,base_of e (noA e d),d,r⟩;have hKb:K.In (zS s₁.heap H):=λb o e=>base_of (KX b o e) (by
   cases q:H b with
   | none=>rfl
   | some u=>
    have e':b=a:=hA b (by rw[q];simp);subst e';rw[hK (by rw[q];simp)] at e;cases e)
  have hM:Mod K mg (zS s₁.heap H):=⟨hKb,nsK hns,⟨mb,nsK hb,hbb⟩,let ⟨mc,h1,h2⟩:=hlim;⟨mc,nsK h1,h2⟩⟩;have e0:vd P w K mg (zS s₁.heap H) callerA [] s₁ H:=⟨FQ,hM,λb o e=>mN e,Nat.le_of_eq (tj _ _),trivial,λb hb=>absurd (show b∈([]:List WP) from hb) (by simp),hok,.of_eq hg⟩;refine codeAny_mono ((F _ hKb (nsK hns)).run callerA [] s₁ H ⟨[.ref a],[]⟩ [.ref a] [.ref a] _ _ hr e0 (hbind s₁ (.ref a)) (.cons FQ .nil) (hsp H hO hS)) λr s' h=>?_
  cases r with
  | error e=>exact(hCX H e s' h).elim
  | ok fl=>
   cases fl with
   | next=>exact False.elim h
   | brk=>exact False.elim h
   | cont=>exact False.elim h
   | ret u=>
    obtain⟨v,H',os,bare,un,hok',r',q⟩:=h;have q':v=.bl true:=q;subst q';obtain rfl:u=Value.bool true:=r';refine⟨FQ,OldK.of_keep λb o e=>?_,os,bare⟩
    cases q:H b with
    | none=>exact un.keep b o e q (by intro z;exact absurd (show b∈([]:List WP) from z) (by simp)) (by simp)
    | some u=>
     rcases hO b with z | ⟨ob,xs,z⟩
     ·rw[q] at z;cases z
     ·have z2:=un.frzs b ob _ z;obtain⟨e1,_⟩:=hok b _ z;obtain⟨e2,_⟩:=hok' b _ z2;rw[e] at e1;cases e1;exact e2
 cases hk:K.lookup a with
 | some o=>
  have e:=KX a o hk;rw[ha] at e
  cases e
  refine core (λ_=>none) (λ_=>.inl FQ) (.inr ⟨_,vs.toArray,_,hk,FQ,FQ,FQ,by rw[List.size_toArray,lenV];exact hl,by simpa using rv⟩) (λb u z=>by have z':(none:Option HO)=some u:=z;cases z') (λb z=>absurd FQ z) λz=>absurd FQ z
 | none=>
  refine core (λb=>if b=a then some (.frz {cls:=.type "list",data:=.seq vs.toArray} (.lst (ns.map V.int))) else none) (λb=>?_) (.inl (.inr ⟨{cls:=.type "list",data:=.seq vs.toArray},XY FQ⟩)) (λb u z=>?_) (λb z=>?_) λ_=>hk
  ·by_cases hb:b=a
   ·exact .inr ⟨_,_,XY hb⟩
   ·exact .inl (XX hb)
  ·by_cases hb:b=a
   ·have z':=(XY hb).symm.trans z
    cases z'
    subst hb;exact⟨ha,by rw[XI];exact hl,vs,_,rv,ha⟩
   ·have z':=(XX hb).symm.trans z
    cases z'
  ·by_cases hb:b=a
   ·exact hb
   ·exact absurd (XX hb) z
abbrev KOf {K:WY}{h:WU}(_:K.In h):WY:=K
def walk_of {l:W.OpenLaw}{n k:Nat}{q:WO}{loose:List Str}{XP:(Str->Option WQ)->WU->Prop}{YP:WN->WU->Prop}{d:DefRec}{K:Params->WY}{CX:WN->tW}{sp:WN->Sp}{x:Str}
  (hn:l.most=some n) (hn2:n<=sizeLine) (hdf:d.params.defaults=[]) (hr:X8 k callerA)
  (hY:∀(w:WN) (h:WU),YP w h->(K w.params).In h)
  (F:∀(w:WN) (mg:Str->Option WQ) (fa:WP) (h:WU),(K w.params).In h->h.Ns mainGlobals mg->mg d.name=some (.ref fa)->
   ∃fd:VZ,(∀(s:WR) (u:WQ),BindsTo s fd ⟨[u],[]⟩ [(x,u)])/\
    ∀base:WU,(K w.params).In base->base.Ns mainGlobals mg->Vk l.prog w (K w.params) mg base (CX w) k fa fd [x] (sp w))
  (hsp:∀(w:WN) (H:Hp) (a:WP) (ns:List Int),ns.length<=n->oH H->Ws (K w.params) H a (ns.map V.int)->sp w [.ref a] H (λv _=>v=.bl true) λ_ _ _=>False)
  (hCX:∀(w:WN) (H:Hp) (s:WR) (e:WQ) (s':WR),CX w [] H s (λ_ _ _=>False) e s'->False):
  W.WalkO q loose XP YP l.row.toRowW d [] (λf vs=>PySem.call f vs):=by
 refine Att.attach_call hn hdf λw s₀ s₁ mg mb fa o pm cd doc a vs ns G Y ho hd hcd hmg hobj hints hlen hg=>?_;have KX:=hY w _ Y;obtain⟨fd,hb,hF⟩:=F w mg fa _ KX G.T.g hmg;exact qW KX G.T.g G.T.b G.T.builtins G.T.nolimit hg hobj hints (XN hlen hn2) hr hF hb (λH hO hS=>hsp w H a ns hlen hO hS) λH e s'=>hCX w H s₁ e s'
def walk_ofK {l:W.OpenLaw}{n k:Nat}{q:WO}{loose:List Str}{XP:(Str->Option WQ)->WU->Prop}{YP:WN->WU->Prop}{d:DefRec}{K:Params->WY}{CX:tW}{sp:WY->Sp}{x:Str}
  (hn:l.most=some n) (hn2:n<=sizeLine) (hdf:d.params.defaults=[]) (hr:X8 k callerA)
  (hY:∀(w:WN) (h:WU),YP w h->(K w.params).In h)
  (F:∀(w:WN) (mg:Str->Option WQ) (fa:WP) (h:WU),(K w.params).In h->h.Ns mainGlobals mg->mg d.name=some (.ref fa)->
   ∃fd:VZ,(∀(s:WR) (u:WQ),BindsTo s fd ⟨[u],[]⟩ [(x,u)])/\
    ∀base:WU,(K w.params).In base->base.Ns mainGlobals mg->Vk l.prog w (K w.params) mg base CX k fa fd [x] (sp (K w.params)))
  (hsp:∀(K:WY) (H:Hp) (a:WP) (ns:List Int),ns.length<=n->oH H->Ws K H a (ns.map V.int)->sp K [.ref a] H (λv _=>v=.bl true) λ_ _ _=>False)
  (hCX:∀(H:Hp) (s:WR) (e:WQ) (s':WR),CX [] H s (λ_ _ _=>False) e s'->False):
  W.WalkO q loose XP YP l.row.toRowW d [] (λf vs=>PySem.call f vs):=
 walk_of (K:=K) (CX:=λ_=>CX) (sp:=λw=>sp (K w.params)) hn hn2 hdf hr hY F (λw H a ns h1 h2 h3=>hsp (K w.params) H a ns h1 h2 h3) λ_ H s e s'=>hCX H s e s'
end L2
/-THE LAST THEOREM (shape;LID,My.*are yours):
  My.Adr:a structure of the addresses that your layer names (classes,functions);My.Txt K t:a structure (Prop) of the equations over K;
  My.txt_mk:{K} {implicit addresses ..} (e1:nsIn K mainGlobals "law"=some (some (.ref f))) (e2:K.lookup f=some ⟨oc,od,.func (fnOf "law" "law" params body scope dV kV doc pm an cdv ct),sl⟩) (e3:codeIn K cdv "law"=true) ..:∃t,My.Txt K t
set_option maxRecDepth 100000 in
set_option maxHeartbeats 0 in
def PySem.Challenge.cw_LID_holds:PySem.Challenge.rw_LID.Holds:=by
 w_on;o_law;k_head;(case hw=>w_witness2)
 k_fill
 refine L2.walk_of (l:=PySem.Challenge.rw_LID) (n:=63) (k:=40) (x:="script") (CX:=λw=>..) (sp:=λ_=>My.sp_law) FQ (by decide) FQ ⟨FQ,by decide,by decide⟩ (λw h Y=>W.kIn_of Y) ?F ?S ?C
 case F=>
  intro w mg fa h KX G hmg;have T:∃t,My.Txt (L2.KOf KX) t:=by
   dsimp only[L2.KOf]--K must stand as «<heap const>w.params» for k_is
   refine' My.txt_mk ?e1 ?e2 ?e3 ..
   (case e1=>W.k_is)--in the order:a name->its address->its object->its parts
   (case e2=>W.k_is)
   ..
  obtain⟨t,T⟩:=T;have e0:=hmg.symm.trans (FJ KX G T.law)
  cases e0--fa is the law's own address
  exact⟨_,λs u=>.of_eq FQ,λbase kb nb=>My.law_fn T kb nb⟩--if «.of_eq rfl» comes too early:refine' ⟨_,?b,λbase kb nb=>My.law_fn T kb nb⟩;exact λs u=>.of_eq FQ
 case S=>exact λw H a ns hl hO hS=>..
 case C=>exact ..
(the tactic k_is has no namespace:write k_is)-/
namespace L2
open PySem PySem.Spec PyProof.Rows
def Jg (s:WV)(j:Nat):WV:=match s with
 | .ClassDef _ _ _ body _ _ _ _ _ _ _=>body.getD j (.Pass ⟨0,0,0,0⟩)
 | _=>.Pass ⟨0,0,0,0⟩
def V4 (s:WV):Arguments:=match s with
 | .FunctionDef _ a _ _ _ _ _ _ _ _=>a
 | _=>{posonlyargs:=[],args:=[],vararg:=none,kwonlyargs:=[],kw_defaults:=[],kwarg:=none,defaults:=[]}
def Xs (s:WV):List WV:=match s with
 | .FunctionDef _ _ b _ _ _ _ _ _ _=>b
 | _=>[]
def Zk (s:WV):Scope:=match s with
 | .FunctionDef _ _ _ _ _ _ sc _ _ _=>sc
 | _=>{kind:=.function,names:=[],isGenerator:=false,isCoroutine:=false}
abbrev CX0:tW:=λ_ _ _ _ _ _=>False
abbrev E0:XK:=λ_ _ _=>False
def B6:Iz CX0 X E0:=λ_ _ _ _ _ _ _ h=>h.elim
structure vc (K:W.Frag)(x qual:Str)(st:Stmt)(f:Addr)(fd:FuncData):Prop where
 ex:∃(oc:WQ) (od:Option WP) (kV doc pm:WQ) (an:Option WP) (cdv ct:WQ) (osl:Array (Option WQ)),
  fd=W.fnOf x qual (V4 st) (Xs st) (Zk st) .none kV doc pm an cdv ct/\K.lookup f=some ⟨oc,od,.func fd,osl⟩/\W.codeIn K cdv qual=true
 kp:W.keepIn K (.ref f)=true
section
variable {P:WO}{w:WN}{K:WY}{mg:Str->Option WQ}{base:WU}
def vc.ok {st:WV}{f:WP}{k:Nat}{sp:Sp}(F:vc K x qual st f fd)(S:Zu N ps (Zk st))(len:∀vs H Q E,sp vs H Q E->vs.length=ps.length)
  (hbody:∀(cdv:WQ) (A:WM) (outer:List Env) (s:WR) (H:Hp) (vs:List V) (Q:VK) (E:XK),X8 k (A.deeper (envOfC qual (Zk st) s.heap.objs.size f cdv))->sp vs H Q E->
   ∃t,uk (yf CX0 P w K mg base N qual (Zk st) f cdv A outer s H E).nox (Xs st) t/\t {nx:=λ_ H'=>Q .non H',rt:=Q} (start N vs) H):Vk P w K mg base CX0 (k+1) f fd ps sp:=by
 obtain⟨oc,od,kV,doc,pm,an,cdv,ct,osl,rfl,lk,hcd⟩:=F.ex;refine kS lk hcd S len λA outer s H vs Q E hr hsp=>?_;obtain⟨t,h,q⟩:=hbody cdv A outer s H vs Q E hr hsp;exact⟨t,h.nox,q⟩
def vc.binds {st:WV}{f:WP}{ps:List Str}(F:vc K x qual st f fd)
  (h:∀(kV doc pm:WQ) (an:Option WP) (cdv ct:WQ) (us:List WQ),us.length=ps.length->bindArgs (W.fnOf x qual (V4 st) (Xs st) (Zk st) .none kV doc pm an cdv ct) ⟨us,[]⟩=pure (ps.zip us)):Wo K fd ps []:=by
 obtain⟨oc,od,kV,doc,pm,an,cdv,ct,osl,rfl,lk,hcd⟩:=F.ex;exact .all (h kV doc pm an cdv ct)
def fq {st:WV}{f:WP}{oc:WQ}{od an:Option WP}{osl:Array (Option WQ)}{kV doc pm cdv ct:WQ}(l:K.lookup f=some ⟨oc,od,.func (W.fnOf x qual (V4 st) (Xs st) (Zk st) .none kV doc pm an cdv ct),osl⟩)
  (c:W.codeIn K cdv qual=true) (k:W.keepIn K (.ref f)=true):vc K x qual st f (W.fnOf x qual (V4 st) (Xs st) (Zk st) .none kV doc pm an cdv ct):=⟨⟨oc,od,kV,doc,pm,an,cdv,ct,osl,FQ,l,c⟩,k⟩
end
def B2 {n:Nat}(h:n<=1000):n<sizeLine:=Nat.lt_of_le_of_lt h (by decide)
section
variable {X:Cx}
end
def Zdo (H H':Hp):Prop:=∀b o,H b=some o->H' b=some o
section
variable {X:Cx}
def Mi (cap:List (Option Nat))(σ:St):St:=cap.map λo=>o.bind λi=>(σ[i]?).join
def Y7 (X:Cx)(cN:List Str)(scope:Scope)(cl:List (Str×WP))(fp:List WP)(s:WR)(H:Hp):Cx:=
 {X with N:=cN,s₀:=s,H₀:=H,env:=compEnvC scope cl s.heap.objs.size X.env,outer:=X.stack,ex:=fp,fn:=λ_=>false,pn:=[],xe:=λ_ _=>False}
def tL (X:Cx)(ifs:List WW)(c:TT):Prop:=
 ∀(WZ:List (WP×Obj)) (s:WR) (σ:St) (H:Hp) (Q:Bool->Hp->Prop),Z2 X WZ σ H s->c σ H Q->
  wpAny (model X.prog X.w) X.A (forIn ifs true λc r=>if r=true then do let ok <-isTrue c X.env (eval c X.env);pure (ForInStep.yield ok) else pure (ForInStep.yield r)) (TP X WZ σ Q) X.xe s
def dG:TT:=λ_ H Q=>Q true H
def m7:tL X [] dG:=λ_ _ _ H _ I h=>wpAny_tests_nil ⟨H,I,h⟩
def m6 (h:PT X e t):tL X [e] t:=λWZ s σ H Q I q=>wpAny_tests_one (h WZ s σ H Q I q)
def A0 (js:List Nat)(g:TG):Prop:=∀x σ H Q,g x σ H Q->g x σ H λσ' H'=>Q σ' H'/\σ'.length=σ.length/\∀i,i∉js->σ'[i]?=σ[i]?
def yt (js:List Nat)(g:xt):Prop:=∀x σ H Q,g x σ H Q->g x σ H λσ' H'=>Q σ' H'/\σ'.length=σ.length/\∀i,i∉js->σ'[i]?=σ[i]?
def Jp {i:Nat}:A0 [i] (Xd i):=λx σ H Q h=>⟨h,by simp,λj hj=>by
 rw[DW];intro e;exact hj (by simp[e])⟩
def zX:yt [] jH:=λx σ H Q h=>⟨h.1,h.2,FQ,λ_ _=>rfl⟩
def Ml (g:TG):Prop:=∀x σ H (Q Q':St->Hp->Prop),(∀σ' H',Q σ' H'->Q' σ' H')->g x σ H Q->g x σ H Q'
def Kg (g:xt):Prop:=∀x σ H (Q Q':St->Hp->Prop),(∀σ' H',Q σ' H'->Q' σ' H')->g x σ H Q->g x σ H Q'
def Yi:Ml (Xd i):=λx σ H Q Q' h q=>h _ _ q
def W9:Kg jH:=λx σ H Q Q' h q=>⟨q.1,h _ _ q.2⟩
def J7 (a:Ml g)(b:Kg u):Kg (Sz g u):=λx σ H Q Q' h q=>by
 obtain⟨v,r,e,q⟩:=q;exact⟨v,r,e,a _ _ _ _ _ (λσ' H' z=>b _ _ _ _ _ h z) q⟩
def V2 (a:A0 js g)(am:Ml g)(b:yt ks u)(bm:Kg u):yt (js++ks) (Sz g u):=λx σ H Q q=>by
 obtain⟨v,r,e,q⟩:=q;refine⟨v,r,e,am _ _ _ _ _ (λσ' H' z=>?_) (a _ _ _ _ q)⟩;obtain⟨z,l1,k1⟩:=z;refine bm _ _ _ _ _ (λσ2 H2 z2=>?_) (b _ _ _ _ z);obtain⟨z2,l2,k2⟩:=z2;exact⟨z2,l2.trans l1,λi hi=>(k2 i λz=>hi (XT _ z)).trans (k1 i λz=>hi (CA _ z))⟩
def zV {K:WY}(b:yt js u):A0 js (jG K n u):=λx σ H Q q=>by
 obtain⟨a,xs,e,hq,hl,q⟩:=q;exact⟨a,xs,e,hq,hl,b _ _ _ _ q⟩
def Zc1 (cap:List (Option Nat))(g:TG)(c:TT)(te:TE)(σ:St)(Q:WP->Hp->Prop)(J:It)(H1:Hp):Prop:=∀p,H1 p=none->∃W:Nat->Nat->Hp->Prop,(∃m,W 0 m (Je H1 p (.lst [])))/\∀i m H,W i m H->
 (J.stop i H/\Q p H)\/(J.go i H/\∃N:Hp->Prop,(∀H',N H'->∃m',m'<m/\W (i+1) m' H')/\∀x H',J.yld i H x H'->g x (Mi cap σ) H' λσ2 H2=>c σ2 H2 λb H3=>
  if b=true then te σ2 H3 λv H4=>∃xs,H4 p=some (.lst xs)/\xs.length<sizeLine/\N (Je H4 p (.lst (xs++[v]))) else N H3)
def zf (cap:List (Option Nat))(wi:TI)(g:TG)(c:TT)(te:TE):St->Hp->(WP->Hp->Prop)->Prop:=λσ H Q=>wi σ H λJ H1=>Zc1 cap g c te σ Q J H1
structure D5 (X:Cx)(cN:List Str)(cap:List (Option Nat))(scope:Scope)(cl:List (Str×Addr)):Prop where
 clos:closureFor scope X.env=pure cl
 sub:∀n a,cl.lookup n=some a->X.env.cells.lookup n=some a
 cell:∀y∈scope.names,y.2≠.cell
 kind:scope.kind=.function
 names:∀x∈scope.names,x.2=.local->scope.names.lookup x.1=some .local
 len:cap.length=cN.length
 has:∀x,((relabel scope X.env).names.lookup x=some .cell\/(relabel scope X.env).names.lookup x=some .free)->∃a,cl.lookup x=some a
 capd:∀(i j:Nat) (x:Str),cap[i]?=some (some j)->cN[i]?=some x->X.N[j]?=some x/\aC X.env.scope x/\X.env.scope.names.lookup x≠some .local/\((relabel scope X.env).names.lookup x=some .cell\/(relabel scope X.env).names.lookup x=some .free)
def ot:(Mi cap σ).length=cap.length:=XI _
def jU {i:Nat}(h:(Mi cap σ)[i]?=some (some v)):∃j,cap[i]?=some (some j)/\σ[j]?=some (some v):=by
 unfold Mi at h;rw[XM] at h
 cases e:cap[i]? with
 | none=>rw[e] at h;cases h
 | some o=>
  rw[e] at h
  cases o with
  | none=>cases h
  | some j=>
   refine⟨j,FQ,?_⟩;simp only[Option.map_some,Option.bind_some,Option.some.injEq] at h
   cases q:σ[j]? with
   | none=>rw[q] at h;cases h
   | some u=>rw[q] at h;simp only[Option.join_some] at h;rw[h]
def wN {cN:List Str}{cap:List (Option Nat)}{scope:Scope}{cl:List (Str×WP)}{fp:List WP}{WZ:List (WP×Obj)}{σ:St}{H:Hp}{s:WR}{h':WU}{m:Str->Option WQ}{tk:Nat}
  (C:D5 X cN cap scope cl) (I:Z2 X WZ σ H s) (f:∀b∈fp,Mq X WZ H b) (fl:∀b∈fp,b<s.heap.objs.size) (hn:h'.Ns s.heap.objs.size m) (k:∀b o,s.heap.get? b=some o->h'.get? b=some o):
  Z2 (Y7 X cN scope cl fp s H) [] (Mi cap σ) H {s with heap:=h',toks:=tk}:=by
 have hfs:∀b∈fp,b∉tw X.stack:=λb hb z=>by
  rcases CH.mp (I.stkSub b z) with e | z
  ·exact(f b hb).2.1 e
  ·exact(f b hb).2.2.1 z
 have hcl:∀x c,cl.lookup x=some c->∃v,s.heap.IsCell c v:=λx c e=>I.cell x c (C.sub x c e);refine⟨⟨I.ok.mod,?_,I.ok.glob,I.ok.blt,XE _,λx y c e1 e2=>I.ok.inj x y c (C.sub x c e1) (C.sub y c e2),C.has,λ_ _ z=>(nomatch z),I.ok.hd,I.ok.frames,.inl FQ,λb hb=>⟨XH (fl b hb),λx c e=>(f b hb).2.2.2.2.1 x c (C.sub x c e)⟩,
   I.bs,Nat.le_trans I.ok.bsz I.sz,λb o e z=>?_,hfs,I.stack,I.stkFree⟩,FQ,I.bare,Un.kept k,⟨m,hn,λi x v h1 h2 h3=>?_⟩,λx c e=>?_,I.fresh,λx c e=>I.freeC x c (C.sub x c e),λp hp=>absurd hp (by simp[Y7]),I.hok.kept k,?_⟩
 ·exact C.kind
 ·rcases (f b z).2.2.2.1 with q | q
  ·exact I.ok.noex b o e q
  ·exact absurd (XG (XD (I.ok.bs b o e).1) q) (CY _)
 ·obtain⟨j,hj,hσ⟩:=jU h2;obtain⟨n1,n2,n3,n4⟩:=C.capd i j x hj h1;obtain⟨mo,hno,hlo⟩:=I.loc;obtain⟨u,ru,lk⟩:=hlo j x v n1 hσ n2;refine⟨u,ru,?_⟩
  rcases lk with⟨k1,_⟩ | ⟨_,c,e,z⟩
  ·exact absurd k1 n3
  ·obtain⟨a,ha⟩:=C.has x n4;have ea:=C.sub x a ha;rw[e] at ea;cases ea;obtain⟨o,ho,hd⟩:=z;exact .inr ⟨n4,c,ha,⟨o,k _ _ ho,hd⟩⟩
 ·obtain⟨v,o,ho,hd⟩:=hcl x c e;exact⟨v,o,k _ _ ho,hd⟩
 ·show(Mi cap σ).length=cN.length;rw[ot,C.len]
def jS {cN:List Str}{scope:Scope}{cl:List (Str×WP)}{fp:List WP}{WZ pins':List (WP×Obj)}{σ σ':St}{H H':Hp}{s s':WR}{h':WU}
  (I:Z2 X WZ σ H s) (f:∀b∈fp,Mq X WZ H b) (J:Z2 (Y7 X cN scope cl fp s H) pins' σ' H' s') (sb:Heap.SameBut s.heap.objs.size s'.heap h'):Z2 X WZ σ H' {s' with heap:=h'}:=by
 have ne:∀b o,s.heap.get? b=some o->b≠s.heap.objs.size:=λb o e=>XH (XD e);have B:Un (tw X.stack) fp H H' s.heap s'.heap:=J.base;refine I.call' (s':={s' with heap:=h'}) (ch:=fp) J.os ⟨λb o e n hb hx=>?_,λb o e n hb hx=>?_,B.free,λb o e hx=>?_,B.tups,B.frzs,B.tbls⟩ (λb o e=>?_) J.bare λb hb=>?_
 ·exact(sb.2 b (ne b o e)).trans (B.keep b o e n hb hx)
 ·obtain⟨sl,q⟩:=B.slot b o e n hb hx;exact⟨sl,(sb.2 b (ne b o e)).trans q⟩
 ·obtain⟨o',q⟩:=B.there b o e hx;exact⟨o',(sb.2 b (ne b o e)).trans q⟩
 ·have hf:H' s.heap.objs.size=none:=J.free;refine(J.hok b o e).stay (λc w' hc q=>(sb.2 c ?_).trans q) (λ_ q=>q) λ_ _ q=>q;rintro rfl
  rcases hc with rfl | hc
  ·rw[hf] at e;cases e
  ·rw[hf] at hc;cases hc
 ·obtain⟨f0,f1,f2,f3,f4,f5⟩:=f b hb;exact⟨f3,f1,f4,f5⟩
def A3 {α:Type}{t:Sem α}{Q:α->WR->Prop}{E:WQ->WR->Prop}(h:wpAny M A t Q (λ_ _=>False) s):wpAny M A t Q E s:=wpAny_mono h (λ_ _ q=>q) λ_ _ f=>f.elim
def tE {tg iter elt:WW}{ifs:List WW}{scope:Scope}{pos:Pos}{cN:List Str}{cap:List (Option Nat)}{cl:List (Str×WP)}{js:List Nat}{g:TG}{c:TT}{te:TE}{fp:List WP}{it D:WP}{tn:Nat->WU->Prop}{J:It}
  {σ:St} {H:Hp} {s s':WR} {Q:WP->Hp->Prop} {R:Result->WR->Prop} {H₀:Hp} (X:Cx)
  (hc:X.calm=true) (hg:PG (Y7 X cN scope cl fp s H₀) tg g) (gm:Ml g) (gk:A0 js g) (hjs:∀j∈js,(cap[j]?).join=none) (ht:tL (Y7 X cN scope cl fp s H₀) ifs c) (tm:∀σ H (Q Q':Bool->Hp->Prop),(∀b H',Q b H'->Q' b H')->c σ H Q->c σ H Q') (he:PE (Y7 X cN scope cl fp s H₀) elt te)
  (T:jY X.prog X.w X.K tg J fp it tn) (W:Nat->Nat->Hp->Prop)
  (turn:∀i m H,W i m H->(J.stop i H/\Q D H)\/(J.go i H/\∃N:Hp->Prop,(∀H',N H'->∃m',m'<m/\W (i+1) m' H')/\∀x H',J.yld i H x H'->g x (Mi cap σ) H' λσ2 H2=>c σ2 H2 λb H3=>
   if b=true then te σ2 H3 λv H4=>∃xs,H4 D=some (.lst xs)/\xs.length<sizeLine/\N (Je H4 D (.lst (xs++[v]))) else N H3))
  (m:Nat) (w0:W 0 m H) (I:Z2 (Y7 X cN scope cl fp s H₀) [] (Mi cap σ) H s') (st:tn 0 s'.heap) (f:∀b∈fp,Mq (Y7 X cN scope cl fp s H₀) [] H b)
  (hR:∀σ' H' s',Z2 (Y7 X cN scope cl fp s H₀) [] σ' H' s'->Q D H'->R (.ok .next) s'):
  codeAny (model X.prog X.w) X.A (.compLoop (.ListComp elt [⟨tg,iter,ifs,0⟩] scope pos) 0 (.ref it) (.ref D) (Y7 X cN scope cl fp s H₀).env) R s':=by
 have stat:∀{H':Hp},(∀b∈fp,H' b=none)->∀b∈fp,Mq (Y7 X cN scope cl fp s H₀) [] H' b:=λhn b hb=>⟨hn b hb,(f b hb).2⟩;refine codeAny_loop FQ (λn s'=>∃i H',Z2 (Y7 X cN scope cl fp s H₀) [] (Mi cap σ) H' s'/\tn i s'.heap/\(∀b∈fp,H' b=none)/\W i n H') ?_ m ⟨0,H,I,st,λb hb=>(f b hb).1,w0⟩;rintro n s3 ⟨i,H3,I3,st3,fr3,w3⟩;show wpAny _ X.A ((compTurn (.ListComp elt [⟨tg,iter,ifs,0⟩] scope pos) 0 (.ref it) (.ref D) (Y7 X cN scope cl fp s H₀).env).onRaise (λx=>do noteFrame x (Y7 X cN scope cl fp s H₀).env;theTreesLotGoes x)) _ _ s3;refine wpAny_noted (A3 ?_);rw[compTurn_list];refine XA (wpAny_standAt (XA ?_))
 rcases turn i n H3 w3 with⟨stop,qn⟩ | ⟨go,N,hN,step⟩
 ·refine Js (T.done (Y7 X cN scope cl fp s H₀) FQ FQ FQ hc i [] s3 _ H3 _ I3 (stat fr3) st3 stop) λr s4 zZ=>?_;obtain⟨hr,I4⟩:=zZ;subst hr;exact XB (hR _ _ _ I4 qn)
 ·refine Js (T.item (Y7 X cN scope cl fp s H₀) FQ FQ FQ hc i [] s3 _ H3 _ I3 (stat fr3) st3 go) λr s4 zZ=>?_;obtain⟨u,hr,h4⟩:=zZ;subst hr;refine XA (Js h4 λ_ s5 zZ=>?_);obtain⟨x,H5,I5,r5,y5,st5,fr5⟩:=zZ;have I5':=I5.pinned (stat fr5) (T.obj _ _ st5);refine XA (Js (hg _ s5 _ H5 x u _ I5' r5 (gk _ _ _ _ (step x H5 y5))) λ_ s6 zZ=>?_);obtain⟨σ6,H6,I6,q6,l6,k6⟩:=zZ;have back:∀{H7:Hp} {s7:WR},Z2 (Y7 X cN scope cl fp s H₀) ([]++Er fp s5.heap) σ6 H7 s7->N H7->∃m,m<n/\∃i H',Z2 (Y7 X cN scope cl fp s H₀) [] (Mi cap σ) H' s7/\tn i s7.heap/\(∀b∈fp,H' b=none)/\W i m H':=λ{H7 s7} I7 n7=>by
   obtain⟨m',hm,w7⟩:=hN H7 n7;refine⟨m',hm,i+1,H7,I7.unpinned.weak l6.symm λj v hj=>?_,T.keep _ _ _ st5 λb hb o e=>(I7.pin (b,o) (XT _ (XT _ (R8 hb e)))).1,λb hb=>?_,w7⟩
   ·by_cases hjj:j∈js
    ·obtain⟨z,hz,_⟩:=jU hj;have:=hjs j hjj;rw[hz] at this;cases this
    ·rw[k6 j hjj];exact hj
   ·obtain⟨o,e,d⟩:=T.obj _ _ st5 b hb;exact(I7.pin (b,o) (XT _ (XT _ (R8 hb e)))).2.1
  refine XA (Js (ht _ s6 σ6 H6 _ I6 q6) λb s7 zZ=>?_);obtain⟨H7,I7,q7⟩:=zZ
  cases b with
  | false=>
   rw[XX YJ] at q7;exact XB ⟨FQ,back I7 q7⟩
  | true=>
   rw[XY rfl] at q7;refine XA (XA (Js (he _ s7 σ6 H7 _ I7 q7) λy s8 zZ=>?_));obtain⟨v,H8,I8,r8,xs,e8,z8,n8⟩:=zZ;refine XA (Js (B9 _ s8 σ6 H8 (.ref D) [v] (.ref D) [y] (λ_ H9=>N H9) I8 FQ (.cons r8 .nil) ⟨D,xs,v,FQ,FQ,e8,z8,n8⟩) λ_ s9 zZ=>?_);obtain⟨_,H9,I9,_,q9⟩:=zZ;exact XB (XB ⟨FQ,back I9 q9⟩)
section
variable {X:Cx}{tg iter elt:WW}{ifs:List WW}{scope:Scope}{pos:Pos}{cN:List Str}{cap:List (Option Nat)}{cl:List (Str×WP)}{js:List Nat}{wi:TI}{g:TG}{c:TT}{te:TE}
structure xl (X:Cx)(tg iter elt:Expr)(ifs:List Expr)(scope:Scope)(cN:List Str)(cap:List (Option Nat))(cl:List (Str×Addr))(js:List Nat)(wi:TI)(g:TG)(c:TT)(te:TE):Prop where
 calm:X.calm=true
 ok:X.Ok->D5 X cN cap scope cl
 it:PI X tg iter wi
 tgt:∀fp s H,PG (Y7 X cN scope cl fp s H) tg g
 gm:Ml g
 gk:A0 js g
 js0:∀j∈js,(cap[j]?).join=none
 ts:∀fp s H,tL (Y7 X cN scope cl fp s H) ifs c
 tm:∀σ H (Q Q':Bool->Hp->Prop),(∀b H',Q b H'->Q' b H')->c σ H Q->c σ H Q'
 el:∀fp s H,PE (Y7 X cN scope cl fp s H) elt te
 fold:∀x,foldedSetIterable iter X.env x=pure x
def Dp {Q:WP->Hp->Prop}{RR:WQ->WP->Result->WR->Prop}(C:xl X tg iter elt ifs scope cN cap cl js wi g c te)(I:Z2 X WZ σ H s)(h:zf cap wi g c te σ H Q)
  (hRR:∀(D:WP) (fp:List WP) (s3:WR) (H3:Hp) (σ':St) (H':Hp) (s':WR),Z2 X WZ σ H3 s3->(∀b∈fp,Mq X WZ H3 b)->Z2 (Y7 X cN scope cl fp s3 H3) [] σ' H' s'->Q D H'->RR (.ref D) s3.heap.objs.size (.ok .next) s'):
  wpAny (model X.prog X.w) X.A (eval iter X.env) (λx s₁=>wpAny (model X.prog X.w) X.A (pyIter x) (λit s₂=>wpAny (model X.prog X.w) X.A (newList []) (λacc s₃=>
   wpAny (model X.prog X.w) X.A (newFunctionEnv scope X.env.globals cl [] X.env.qual none .none (some X.env)) (λcenv s₄=>
    codeAny (model X.prog X.w) X.A (.compStart (.ListComp elt [⟨tg,iter,ifs,0⟩] scope pos) 0 it acc {cenv with scope:=relabel scope X.env}) (RR acc cenv.locals) s₄) X.xe s₃) X.xe s₂) X.xe s₁) X.xe s:=by
 refine Js (C.it WZ s σ H _ I h) λv s1 h1=>Js h1 λitv s2 h2=>?_;obtain⟨it,fp,tn,J,H2,e,I2,T,st2,f2,R2⟩:=h2;subst e;obtain⟨W,⟨m,w0⟩,turn⟩:=R2 s2.heap.objs.size I2.fresh;have I3:Z2 X WZ σ (Je H2 s2.heap.objs.size (.lst [])) {s2 with heap:=s2.heap.push {cls:=.type "list",data:=.seq ([]:List WQ).toArray},toks:=s2.toks}:=I2.lnew (ys:=[]) (its:=[]) .nil (XO _);have fl:∀b∈fp,b<s2.heap.objs.size:=λb hb=>by
  obtain⟨o,e,_⟩:=T.obj _ _ st2 b hb;exact XD e
 have f3:∀b∈fp,Mq X WZ (Je H2 s2.heap.objs.size (.lst [])) b:=λb hb=>⟨by rw[Yd (XH (fl b hb))];exact(f2 b hb).1,(f2 b hb).2⟩;refine wpAny_newObj_type (wpAny_newFunctionEnv (C.ok I.ok).cell (by intro y hy;simp at hy) (λh₁ hns₁ hsb₁=>?_) (C.ok I.ok).kind);dsimp only at hns₁ hsb₁ |-;generalize hs3:({s2 with heap:=s2.heap.push {cls:=.type "list",data:=.seq ([]:List WQ).toArray},toks:=s2.toks}:WR)=s3 at I3;have hh3:s3.heap=s2.heap.push {cls:=.type "list",data:=.seq ([]:List WQ).toArray}:=by rw[<-hs3]
 rw[<-hh3] at hns₁ hsb₁ |-;have fl3:∀b∈fp,b<s3.heap.objs.size:=λb hb=>by rw[hh3,CL];exact EK (fl b hb)
 have k1:∀b o,s3.heap.get? b=some o->h₁.get? b=some o:=λb o e=>(hsb₁.2 b (XH (XD e))).trans (XC _ e);have I4:=wN (tk:=s2.toks+([]:List (Str×WQ)).length) (C.ok I.ok) I3 f3 fl3 hns₁ k1;have e4:({s3 with heap:=h₁,toks:=s2.toks+([]:List (Str×WQ)).length}:WR)={s2 with heap:=h₁,toks:=s2.toks+([]:List (Str×WQ)).length}:=by rw[<-hs3]
 rw[e4] at I4;have st4:tn 0 h₁:=T.keep _ _ _ st2 λb hb o e=>k1 b o (by rw[hh3];exact XC _ e);have f4:∀b∈fp,Mq (Y7 X cN scope cl fp s3 (Je H2 s2.heap.objs.size (.lst []))) [] (Je H2 s2.heap.objs.size (.lst [])) b:=λb hb=>by
  obtain⟨g0,g1,g2,g3,g4,g5⟩:=f3 b hb;refine⟨g0,Nat.ne_of_lt (fl3 b hb),λz=>?_,.inl hb,λx c e=>g4 x c ((C.ok I.ok).sub x c e),λp hp=>absurd hp (by simp[Y7])⟩
  rcases CH.mp (I3.stkSub b z) with e | z
  ·exact g1 e
  ·exact g2 z
 have loop:codeAny (model X.prog X.w) X.A (.compLoop (.ListComp elt [⟨tg,iter,ifs,0⟩] scope pos) 0 (.ref it) (.ref s2.heap.objs.size) (Y7 X cN scope cl fp s3 (Je H2 s2.heap.objs.size (.lst []))).env) (RR (.ref s2.heap.objs.size) s3.heap.objs.size)
   {s2 with heap:=h₁,toks:=s2.toks+([]:List (Str×WQ)).length}:=
  tE X C.calm (C.tgt _ _ _) C.gm C.gk C.js0 (C.ts _ _ _) C.tm (C.el _ _ _) T W turn m w0 I4 st4 f4 λσ' H' s' I' q=>hRR _ fp s3 _ σ' H' s' I3 f3 I' q
 exact codeAny_compStart_list loop (T.self _ 0 _ _ _ st4 loop)
def dR (cap:List (Option Nat))(wi:TI)(g:TG)(c:TT)(te:TE):TE:=λσ H Q=>zf cap wi g c te σ H λp H'=>Q (.ref p) H'
def mE (C:xl X tg iter elt ifs scope cN cap cl js wi g c te):PE X (.ListComp elt [⟨tg,iter,ifs,0⟩] scope pos) (dR cap wi g c te):=by
 intro WZ s σ H Q I h;rw[eval_ListComp];refine wpAny_comprehension_free (use:=none) FQ C.fold (C.ok I.ok).clos (C.ok I.ok).kind (C.ok I.ok).names (Dp (RR:=λacc C'=>compPost (model X.prog X.w) X.A X.xe none (EP X WZ σ Q) acc C') C I h ?_);intro D fp s3 H3 σ' H' s' I3 f3 J q;obtain⟨m,hn,_⟩:=J.loc;exact⟨m,hn,λh' sb=>⟨.ref D,H',jS I3 f3 J sb,FQ,q⟩⟩
def sS (i:Nat)(cap:List (Option Nat))(wi:TI)(g:TG)(c:TT)(te:TE):TS:=λD σ H=>zf cap wi g c te σ H λp H'=>D.nx (σ.set i (some (.ref p))) H'
def xM {i:Nat}{py spos:Pos}(hN:X.N.Nodup)(hi:X.N[i]?=some y)(hy:X.env.scope.names.lookup y=some .local)
  (hsw:swapsWith (.ListComp elt [⟨tg,iter,ifs,0⟩] scope pos) (some (.Name y py)) spos.line X.env=pure true)
  (C:xl X tg iter elt ifs scope cN cap cl js wi g c te):PS X (.Assign [.Name y py] (.ListComp elt [⟨tg,iter,ifs,0⟩] scope pos) spos) (sS i cap wi g c te):=by
 intro WZ s σ H D I h;rw[exec_Assign_Name_used _ _ _ _ hsw];refine XA (wpAny_standAt (XA ?_));show wpAny _ X.A (do let _ <-comprehension (.ListComp elt [⟨tg,iter,ifs,0⟩] scope pos) scope X.env _ (newList []) false (eval iter X.env) (some (assign (.Name y py) X.env))) _ _ s;refine XA (wpAny_mono (wpAny_comprehension_free (use:=some (assign (.Name y py) X.env)) (Q:=λ_ s'=>SP X WZ D .next s') FQ C.fold (C.ok I.ok).clos (C.ok I.ok).kind (C.ok I.ok).names
  (Dp (RR:=λacc C'=>compPost (model X.prog X.w) X.A X.xe (some (assign (.Name y py) X.env)) (λ_ s'=>SP X WZ D .next s') acc C') C I h ?_)) (λ_ s' hq=>XB (XB hq)) λ_ _ e=>e)
 intro D' fp s3 H3 σ' H' s' I3 f3 J q;obtain⟨m,hn,_⟩:=id J.loc;have I4:Z2 X WZ σ H' s':=jS I3 f3 J (Heap.SameBut.refl ..);show wpAny _ X.A (assign (.Name y py) X.env (.ref D')) _ _ _;refine wpAny_assign_Name (B0 (v:=.ref D') I4 hN hi (.inl hy) FQ (λs5 I5 hch=>?_) (.inr hy));obtain⟨a,sb,ha⟩:=hch;have hf:H' s3.heap.objs.size=none:=J.free;have hCL:s3.heap.objs.size≠X.env.locals:=DJ I3.lt;have hcells:∀x c,X.env.cells.lookup x=some c->c≠s3.heap.objs.size:=λx c e=>by
  obtain⟨v,o,ho,_⟩:=I3.cell x c e;exact XH (XD ho)
 have haC:s3.heap.objs.size≠a:=by
  rcases ha with z | z
  ·rw[z];exact hCL
  ·exact Ne.symm (hcells _ _ z)
 refine⟨m,hn.sameBut sb haC,λh6 sb6=>⟨_,H',?_,q⟩⟩;exact I5.turned (h':=h6) (t':=s5.toks) (λb o hb e=>(sb6.2 b hb).trans e) hf hCL (.inr I3.sz) (λx c e=>hcells x c e) λp hp z=>by
  have:=XD (I3.pin p hp).1;rw[z] at this;exact CY _ this
end
end
def aG (z:Str):It:=⟨λi _=>i<z.cps.size,λi H x H'=>H'=H/\∃c,z.cps[i]?=some c/\x=.str ⟨#[c]⟩,λi _=>i=z.cps.size⟩
def F0 {P:WO}{w:WN}{K:WY}{tg:WW}{it:WP}{z:Str}{t:Tok}(hty:["enumerate","zip","dict_itemiterator","dict_reverseitemiterator","odict_iterator","itertools.zip_longest","itertools.pairwise"].contains ty=false)
  (W:∀A:WM,A.handled=none->Walks P w A it [it] [it] z.cps.size (SignAt z) (λi h=>h.IsStrIter it ty z t i))
  (self:∀(A:WM) (i:Nat) (s:WR) (Q:WQ->WR->Prop) (E:WQ->WR->Prop),s.heap.IsStrIter it ty z t i->Q (.ref it) s->wpAny (model P w) A (pyIter (.ref it)) Q E s):
  jY P w K tg (aG z) [it] it (λi h=>h.IsStrIter it ty z t i) where
 mem:=by simp
 obj:=λi h st b hb=>by
  have e:b=it:=by simpa using hb
  subst e;obtain⟨o,e,c,d⟩:=st;exact⟨o,e,λv z=>by rw[d] at z;cases z⟩
 keep:=λi h h' st k=>let ⟨o,e,r⟩:=st;⟨o,k it (by simp) o e,r⟩
 item:=by
  intro X hP hw hK hc i WZ s σ H E I hf st hg;subst hP hw hK;obtain⟨f0,f1,f2,f3,f4,f5⟩:=hf it (by simp);refine(W X.A (I.ok.hd hc)).item i s _ _ hg st λv h' tk hv st' kk=>?_;obtain⟨c,u,hcp,rfl⟩:=hv;have I1:Z2 X WZ σ H {s with heap:=h',toks:=tk}:=I.turned (λb o hb e=>kk b o (by simpa using hb) e) f0 f1 f3 f4 f5;obtain⟨o,e,c',d⟩:=id st';exact⟨_,FQ,vN (s:={s with heap:=h',toks:=tk}) e c' d hty ⟨.str ⟨#[c]⟩,H,I1,⟨u,FQ⟩,⟨FQ,c,hcp,FQ⟩,st',λb hb=>(hf b hb).1⟩⟩
 done:=by
  intro X hP hw hK hc i WZ s σ H E I hf st hg;subst hP hw hK;obtain⟨f0,f1,f2,f3,f4,f5⟩:=hf it (by simp);have e:i=z.cps.size:=hg;subst e;exact(W X.A (I.ok.hd hc)).done s _ _ st λh' tk kk=>⟨FQ,I.turned (λb o hb e=>kk b o (by simpa using hb) e) f0 f1 f3 f4 f5⟩
 self:=self
section
variable {X:Cx}{tg:WW}
end
section
variable {X:Cx}{elts:List WW}{ek:Nat}{epos:Pos}
end
section
variable {X:Cx}
def iY (K:WY):R2:=λx y H Q=>∃a b ys,x=.ref a/\y=.ref b/\U8 K H a []/\U8 K H b ys/\Q (.ref b) H
def qw:Ot X (binaryOp .Add) (iY X.K):=by
 intro WZ s σ H x y v u Q I rx ry h;obtain⟨a,b,ys,rfl,rfl,ha,hb,q⟩:=h
 cases rx
 cases ry
 obtain⟨its,r1,p1,_⟩:=I.tuple ha;obtain⟨its2,r2,p2,_⟩:=I.tuple hb
 cases r1
 obtain⟨⟨cls,dd,data,sl⟩,ho,hc,n,hd⟩:=id p1;obtain⟨⟨cls2,dd2,data2,sl2⟩,ho2,hc2,n2,hd2⟩:=id p2;simp only at hc hd hc2 hd2;subst hc hd hc2 hd2;exact concat_meets ⟨_,ho,FQ⟩ ⟨_,ho2,FQ⟩ noFill_tuple_add seq_tuple_add EN EI (EG _ _)
  (tuple_addW0 a b _ _ n n2 dd dd2 sl sl2 (by simp)) ⟨ho,ho2,⟨.ref b,H,I,FQ,q⟩⟩
def vB (h:IsPart v o):∃l:Option (Int×Tok),v=partValue l/\l.map (·.1)=o:=by
 cases h with
 | none=>exact⟨none,FQ,FQ⟩
 | int i t=>exact⟨some (i,t),FQ,FQ⟩
def Zaj:V->Option Int->Option Int->Hp->VK->Prop:=λx lo hi H Q=>∃z,x=.str z/\z.length<=sizeLine/\Q (.str (Txt.slice z lo hi)) H
def iM:kq X Zaj:=by
 intro WZ s σ H x v vl vu lo hi sl Q I rx hs pl pu h;obtain⟨z,rfl,hz,q⟩:=h;obtain⟨t,rfl⟩:=rx;obtain⟨l,rfl,rfl⟩:=vB pl;obtain⟨u,rfl,rfl⟩:=vB pu;refine⟨"str",_,PySem.F.slot_str_getitem.lookup,typeIs_str _ _ _,?_⟩;obtain⟨o,ho,hc,hd⟩:=hs;refine wpAny_getItem_str_slice (l:=l) (u:=u) (st:=none) ⟨o,ho,hc,hd⟩ FQ ?_;have hle:=Txt.slice_le z (l.map (·.1)) (u.map (·.1));unfold sliceMade;unfold Txt.slice at q hle;show Made.post (if ((1:Int)==1&&(PySem.Builtin.Str.strSliceIndices (l.map (·.1)) (u.map (·.1)) 1 z.length).length==z.length)=true then _ else Made.str ⟨((PySem.Builtin.Str.strSliceIndices (l.map (·.1)) (u.map (·.1)) 1 z.length).filterMap (z.cps[·]?)).toArray⟩) _ s
 split
 ·rename_i hif;rw[XY hif] at q;exact⟨.str z,H,I,⟨t,FQ⟩,q⟩
 ·rename_i hif;rw[XX hif] at q;rw[XX hif] at hle;exact⟨XN hle hz,.str _,H,I.tok _,⟨_,FQ⟩,q⟩
end
def Bs:bootBuiltins "isinstance"=some (.builtin "isinstance"):=by decide+kernel
def yp:bootBuiltins "int"=some (.type "int"):=by decide+kernel
def Mj:bootBuiltins "str"=some (.type "str"):=by decide+kernel
def lZ:bootBuiltins "list"=some (.type "list"):=by decide+kernel
def S0:bootBuiltins "tuple"=some (.type "tuple"):=by decide+kernel
section
variable {X:Cx}
structure Ca (P:Program)(w:World)(K:W.Frag)(mg:Str->Option Value)(base:Heap)(k:Nat)(x:Str)(ps:List Str)(sp:Sp):Prop where
 ex:∃(f:WP) (fd:VZ),Vk P w K mg base CX0 k f fd ps sp/\Wo K fd ps []/\W.keepIn K (.ref f)=true/\mg x=some (.ref f)
def cL {k:Nat}{p pos:Pos}{e:WW}{es:List WW}(C:Ca X.prog X.w X.K X.mg X.base k x ps sp)(hr:X8 k X.A)(hg:Gl X x)(ha:PA X (e::es) t)
  (hdb:autoParam ((x==("__debug__":Str))=false) QzD) (he:autoParam (starEach (e::es) X.env=(false,eval e X.env)::starEach es X.env) QzR) (hpl:autoParam ((backTo pos (starEach es X.env)).any (·.1)=false) QzR):
  PE X (.Call (.Name x p) (e::es) [] pos) (sY sp [] E0 t):=by
 obtain⟨f,fd,F,B,kp,m⟩:=C.ex;exact vA F hr hg m kp B .nil B6 ha hdb he hpl
def zU {K:WY}(b:Kg u):Ml (jG K n u):=λx σ H Q Q' h q=>by
 obtain⟨a,xs,e,hq,hl,q⟩:=q;exact⟨a,xs,e,hq,hl,b _ _ _ _ _ h q⟩
def Tk {k:NameKind}(h:(relabel scope env).names.lookup x=some k):∃k',(x,k')∈scope.names/\(k'=k\/k'=.free):=by
 have m:=CQ h;unfold relabel at m;obtain⟨⟨n,k'⟩,hm,e⟩:=XR.mp m;dsimp only at e
 split at e
 ·rename_i hc
  cases e
  refine⟨k',hm,.inr ?_⟩;simp only[Bool.and_eq_true,beq_iff_eq] at hc;exact hc.1.1
 ·cases e
  exact⟨_,hm,.inl FQ⟩
def Oe {cN:List Str}{cap:List (Option Nat)}{scope:Scope}(hk:scope.kind=.function)(h1:scope.names.all (λy=>y.2 !=.free&&y.2 !=.cell)=true)(h2:scope.names.all (λy=>y.2 !=.local||scope.names.lookup y.1==some .local)=true)
  (hl:cap.length=cN.length) (hc:cap.all (λo=>o.isNone)=true):D5 X cN cap scope [] where
 clos:=closureFor_none λy hy=>by
  have:=CJ.mp h1 y hy;simp only[Bool.and_eq_true,bne_iff_ne,ne_eq] at this;exact this.1
 sub:=λn a h=>by cases h
 cell:=λy hy=>by
  have:=CJ.mp h1 y hy;simp only[Bool.and_eq_true,bne_iff_ne,ne_eq] at this;exact this.2
 kind:=hk
 names:=λy hy e=>by
  have:=CJ.mp h2 y hy;simp only[Bool.or_eq_true,bne_iff_ne,ne_eq,beq_iff_eq] at this
  rcases this with q | q
  ·exact absurd e q
  ·exact q
 len:=hl
 has:=λx h=>by
  exfalso;have no:∀k',(x,k')∈scope.names->k'≠.free/\k'≠.cell:=λk' hy=>by
   have:=CJ.mp h1 _ hy;simpa only[Bool.and_eq_true,bne_iff_ne,ne_eq] using this
  rcases h with h | h
  ·obtain⟨k',hm,e⟩:=Tk h
   rcases e with e | e
   ·exact(no k' hm).2 e
   ·exact(no k' hm).1 e
  ·obtain⟨k',hm,e⟩:=Tk h
   rcases e with e | e
   ·exact(no k' hm).1 e
   ·exact(no k' hm).1 e
 capd:=λi j x h _=>by
  have:=CJ.mp hc _ (CF h)
  cases this
noncomputable def X1 (cells:List (Str×WP)):List (Str×NameKind)->List (Str×WP)->List (Str×WP)
 | [],cs=>cs
 | (n,k)::r,cs=>X1 cells r (if k==.free then(n,(cells.lookup n).getD 0)::cs else cs)
theorem Mh:∀{names:List (Str×NameKind)} {cs:List (Str×WP)} {p:Str×WP},p∈X1 cells names cs↔p∈cs\/((p.1,NameKind.free)∈names/\p.2=(cells.lookup p.1).getD 0)
 | [],cs,p=>by simp[X1]
 | (n,k)::r,cs,p=>by
  unfold X1;rw[Mh];by_cases hk:k=.free
  ·subst hk;simp only[beq_self_eq_true,if_true,List.mem_cons,Prod.mk.injEq,and_true];constructor
   ·rintro((h | h) | h)
    ·subst h;exact .inr ⟨.inl FQ,FQ⟩
    ·exact .inl h
    ·exact .inr ⟨.inr h.1,h.2⟩
   ·rintro(h | ⟨h | h,e⟩)
    ·exact .inl (.inr h)
    ·refine .inl (.inl ?_);obtain⟨a,b⟩:=p;simp only at h e;subst h;subst e;rfl
    ·exact .inr ⟨h,e⟩
  ·have hb:(k==NameKind.free)=false:=by simpa using hk
   simp only[hb,Bool.false_eq_true,if_false,List.mem_cons,Prod.mk.injEq];constructor
   ·rintro(h | h)
    ·exact .inl h
    ·exact .inr ⟨.inr h.1,h.2⟩
   ·rintro(h | ⟨h | h,e⟩)
    ·exact .inl h
    ·exact absurd h.2.symm hk
    ·exact .inr ⟨h,e⟩
def Bo {scope:Scope}{env:Env}(h:∀n,(n,NameKind.free)∈scope.names->∃c,env.cells.lookup n=some c):closureFor scope env=pure (X1 env.cells scope.names []):=by
 have key:∀(names:List (Str×NameKind)) (cs:List (Str×WP)),(∀n,(n,NameKind.free)∈names->∃c,env.cells.lookup n=some c)->
   (forIn names cs λx r=>(match x with | (name,kind)=>if (kind==NameKind.free)=true then(do let y <-cellOf env name;pure (ForInStep.yield ((name,y)::r))) else pure (ForInStep.yield r):Sem (ForInStep (List (Str×WP)))))=pure (X1 env.cells names cs):=by
  intro names
  induction names with
  | nil=>intro cs _;rfl
  | cons y r ih=>
   obtain⟨n,k⟩:=y;intro cs hn;rw[List.forIn_cons];unfold X1;by_cases hk:k=.free
   ·subst hk;obtain⟨c,hc⟩:=hn n (CM);simp only[beq_self_eq_true,if_true,cellOf,hc,Option.getD_some];exact ih _ λm hm=>hn m (XV _ hm)
   ·have hb:(k==NameKind.free)=false:=by simpa using hk
    simp only[hb,Bool.false_eq_true,if_false];exact ih _ λm hm=>hn m (XV _ hm)
 unfold closureFor;have:=key scope.names [] h
 first
  | exact this
  | (simp only[bind_pure];exact this)
  | (show(forIn scope.names [] _>>=λr=>pure r)=_;rw[bind_pure];exact this)
theorem Ey {f:Str->NameKind->NameKind}:∀{names:List (Str×NameKind)} {x:Str},(names.map λy=>(y.1,f y.1 y.2)).lookup x=(names.lookup x).map (f x)
 | [],x=>rfl
 | (n,k)::r,x=>by
  have ih:=@Ey f r x;rw[YI,FL,FL];by_cases hx:x=n
  ·subst hx;simp
  ·have hb:(x==n)=false:=beq_eq_false_iff_ne.mpr hx;simp only[hb];exact ih
def Ez:(relabel scope env).names.lookup x=
   (scope.names.lookup x).map λk=>if (k==NameKind.free&&env.scope.kind==.function&&env.kindOf x==some .cell) then NameKind.cell else k:=by
 rw[<-Ey (f:=λn k=>if (k==NameKind.free&&env.scope.kind==.function&&env.kindOf n==some .cell) then NameKind.cell else k)];unfold relabel;congr 1;refine DA λy _=>?_;obtain⟨n,k⟩:=y;dsimp only
 split<;>rfl
noncomputable def Dr (N:List Str)(outer inner:List (Str×NameKind)):List (Option Nat)->List Str->Bool
 | [],_=>true
 | _,[]=>true
 | none::r,_::xs=>Dr N outer inner r xs
 | some j::r,x::xs=>N[j]?==some x&&outer.lookup x==some .cell&&inner.lookup x==some .free&&Dr N outer inner r xs
theorem Ix:∀{cap:List (Option Nat)} {cN:List Str},Dr N outer inner cap cN=true->∀(i j:Nat) (x:Str),cap[i]?=some (some j)->cN[i]?=some x->N[j]?=some x/\outer.lookup x=some .cell/\inner.lookup x=some .free
 | [],_,_,i,j,x,h1,_=>by simp at h1
 | _::_,[],_,i,j,x,_,h2=>by simp at h2
 | none::r,y::xs,h,0,j,x,h1,_=>by simp at h1
 | none::r,y::xs,h,i+1,j,x,h1,h2=>Ix (cap:=r) (cN:=xs) (by simpa[Dr] using h) i j x (by simpa using h1) (by simpa using h2)
 | some k::r,y::xs,h,0,j,x,h1,h2=>by
  simp only[Dr,Bool.and_eq_true,beq_iff_eq] at h;simp at h1 h2;subst h1 h2;exact⟨h.1.1.1,h.1.1.2,h.1.2⟩
 | some k::r,y::xs,h,i+1,j,x,h1,h2=>by
  simp only[Dr,Bool.and_eq_true,beq_iff_eq] at h;exact Ix (cap:=r) (cN:=xs) h.2 i j x (by simpa using h1) (by simpa using h2)
theorem Nb {α β:Type}[BEq α][LawfulBEq α]{x:α}:∀{l:List (α×β)} {b:β},(x,b)∈l->∃c,l.lookup x=some c
 | [],_,h=>by cases h
 | (y,c)::r,b,h=>by
  rw[FL];by_cases hx:x=y
  ·subst hx;simp
  ·have hb:(x==y)=false:=beq_eq_false_iff_ne.mpr hx;rw[hb]
   rcases CH.mp h with e | h
   ·cases e;exact absurd FQ hx
   ·exact Nb h
def Tr {cN:List Str}{cap:List (Option Nat)}{scope:Scope}(ok:X.Ok)(hk:scope.kind=.function)(h1:scope.names.all (λy=>y.2 !=.cell)=true)(h2:scope.names.all (λy=>y.2 !=.local||scope.names.lookup y.1==some .local)=true)
  (hl:cap.length=cN.length) (hf:(scope.names.all λy=>y.2 !=.free||X.env.scope.names.lookup y.1==some .cell)=true) (hc:Dr X.N X.env.scope.names scope.names cap cN=true):D5 X cN cap scope (X1 X.env.cells scope.names []):=by
 have hfr:∀n,(n,NameKind.free)∈scope.names->∃c,X.env.cells.lookup n=some c:=λn hn=>by
  have:=CJ.mp hf _ hn;simp only[bne_self_eq_false,Bool.false_or,beq_iff_eq] at this;exact ok.has n (.inl this)
 refine⟨Bo hfr,λn a h=>?_,λy hy=>?_,hk,λy hy e=>?_,hl,λx h=>?_,λi j x h1' h2'=>?_⟩
 ·have m:=CQ h;rw[Mh] at m
  rcases m with m | ⟨m,e⟩
  ·cases m
  ·obtain⟨c,hc⟩:=hfr n m;simp only[hc,Option.getD_some] at e;rw[hc,e]
 ·have:=CJ.mp h1 y hy;simpa using this
 ·have:=CJ.mp h2 y hy;simp only[Bool.or_eq_true,bne_iff_ne,ne_eq,beq_iff_eq] at this
  rcases this with q | q
  ·exact absurd e q
  ·exact q
 ·have nc:∀k',(x,k')∈scope.names->k'≠.cell:=λk' hy=>by
   have:=CJ.mp h1 _ hy;simpa using this
  have m:(x,NameKind.free)∈scope.names:=by
   rcases h with h | h
   ·obtain⟨k',hm,e⟩:=Tk h
    rcases e with e | e
    ·exact absurd e (nc k' hm)
    ·subst e;exact hm
   ·obtain⟨k',hm,e⟩:=Tk h
    rcases e with e | e<;>(subst e;exact hm)
  exact Nb (b:=(X.env.cells.lookup x).getD 0) (Mh.mpr (.inr ⟨m,FQ⟩))
 ·obtain⟨q1,q2,q3⟩:=Ix hc i j x h1' h2';refine⟨q1,.inr (.inl q2),(by rw[q2];simp),?_⟩;rw[Ez,q3];simp only[Option.map_some,beq_self_eq_true,Bool.true_and]
  split
  ·exact .inl FQ
  ·exact .inr FQ
end
def CN (p:WP)(Pv:Nat->List V->Hp->Prop)(i:Nat)(H:Hp):Prop:=∃ys,H p=some (.lst ys)/\ys.length<=i/\Pv i ys H
section
variable {K:WY}{cap:List (Option Nat)}{g:TG}{c:TT}{te:TE}{σ:St}{Q:WP->Hp->Prop}{H:Hp}
end
def aT (g:TG)(tb:TS)(D:Bu)(σ:St)(J:It)(H1:Hp):Prop:=∃W:Nat->Nat->St->Hp->Prop,(∃m,W 0 m σ H1)/\∀i m σ H,W i m σ H->
 (J.stop i H/\D.nx σ H)\/(J.go i H/\∃N:St->Hp->Prop,(∀σ' H',N σ' H'->∃m',m'<m/\W (i+1) m' σ' H')/\∀x H',J.yld i H x H'->g x σ H' λσ2 H2=>tb {D with nx:=N,ct:=N,bk:=D.nx} σ2 H2)
section
variable {K:WY}{a:WP}{xs:List V}{g:TG}{tb:TS}{D:Bu}{σ:St}{H:Hp}{z:Str}
end
def tyL {K:WY}{H:Hp}(h:H r=some (.lst xs)):iC K "list" (.ref r) H:=by
 unfold iC;exact .inl ⟨FQ,xs,Ws.of h⟩
def Iy {α:Type}{xs:List α}{i:Int}(h0:0<=i)(h1:i<(xs.length:Int)):∃v,Sg xs i=some v/\v∈xs:=by
 have hk:i.toNat<xs.length:=by omega
 have ek:((i.toNat:Nat):Int)=i:=by omega
 have q:Sg xs ((i.toNat:Nat):Int)=some xs[i.toNat]:=Og (by simp[hk]);rw[ek] at q;exact⟨xs[i.toNat],q,YN hk⟩
end L2
namespace WL
open PySem PySem.Spec PyProof.Rows L2
inductive T where
 | non | bl (b:Bool) | int (i:Int) | str (x:Str) | tup (xs:List T)
  | ref (a:WP)
  | cl (xs:List T)
inductive O where
 | lst (xs:List T)
 | dic (kvs:List (Yo×T))
 | ins (cn:Str) (fs:List (Str×T))
  | fdic (kvs:List (Yo×T))
abbrev Hw:=WP->Option O
def up (C:Hw)(a:WP)(o:O):Hw:=λb=>if b=a then some o else C b
def Zh:up C a o a=some o:=by unfold up;rw[XY rfl]
def Zn {a b:WP}(h:b≠a):up C a o b=C b:=by unfold up;rw[XX h]
def yA:up (up C a o) a u=up C a u:=by
 funext b;unfold up;split<;>rfl
def im (K:WY)(H:Hp)(a:WP)(xs:List V):Prop:=
 (∃o,H a=some (.frz o (.lst xs)))\/
  ∃(o:Obj) (its:Array WQ) (n:Nat),K.lookup a=some o/\o.cls=.type "list"/\o.dict=none/\o.data=.seq its n/\its.size<=sizeLine/\Yf xs its.toList
def im.sq {K:WY}(h:im K H a xs):Ws K H a xs:=by
 rcases h with⟨o,h⟩ | h
 ·exact .inl (.inr ⟨o,h⟩)
 ·exact .inr h
mutual
def Jr (K:WY)(H:Hp)(x:V):T->Prop
 | .non=>x=.non
 | .bl b=>x=.bl b
 | .int i=>x=.int i
 | .str z=>x=.str z
 | .ref a=>x=.ref a
 | .tup ts=>∃a ys,x=.ref a/\U8 K H a ys/\Reps K H ys ts
 | .cl ts=>∃a ys,x=.ref a/\im K H a ys/\Reps K H ys ts
def Reps (K:WY)(H:Hp)(ys:List V):List T->Prop
 | []=>ys=[]
 | t::ts=>∃y r,ys=y::r/\Jr K H y t/\Reps K H r ts
end
def Zbu:HO->Prop
 | .tup _=>True
 | .frz _ _=>True
 | _=>False
def Tx (H H':Hp):Prop:=∀b o,H b=some o->Zbu o->H' b=some o
def Tx.refl (H:Hp):Tx H H:=λ_ _ h _=>h
def Tx.trans (a:Tx H H1)(b:Tx H1 H2):Tx H H2:=λc o h n=>b c o (a c o h n) n
def Tx.new {H:Hp}(h:H p=none):Tx H (Je H p o):=λb u q _=>by rw[Yd (J0 q h)];exact q
def Tx.put {H:Hp}(h:H p=some o)(n:¬Zbu o):Tx H (Je H p u):=λb v q s=>by
 by_cases e:b=p
 ·subst e;rw[h] at q;cases q;exact absurd s n
 ·rw[Yd e];exact q
def Tx.sqt {K:WY}(t:Tx H H')(h:U8 K H a xs):U8 K H' a xs:=by
 rcases h with(h | ⟨o,h⟩) | h
 ·exact .inl (.inl (t _ _ h trivial))
 ·exact .inl (.inr ⟨o,t _ _ h trivial⟩)
 ·exact .inr h
def Tx.sqc {K:WY}(t:Tx H H')(h:im K H a xs):im K H' a xs:=by
 rcases h with⟨o,h⟩ | h
 ·exact .inl ⟨o,t _ _ h trivial⟩
 ·exact .inr h
mutual
theorem Jr.tx {K:WY}(t:Tx H H'):∀{v:T},Jr K H x v->Jr K H' x v
 | .non,h=>by simpa[Jr] using h
 | .bl b,h=>by simpa[Jr] using h
 | .int i,h=>by simpa[Jr] using h
 | .str z,h=>by simpa[Jr] using h
 | .ref a,h=>by simpa[Jr] using h
 | .tup ts,h=>by
  unfold Jr at h |-;obtain⟨a,ys,e,q,r⟩:=h;exact⟨a,ys,e,t.sqt q,Reps.tx t r⟩
 | .cl ts,h=>by
  unfold Jr at h |-;obtain⟨a,ys,e,q,r⟩:=h;exact⟨a,ys,e,t.sqc q,Reps.tx t r⟩
theorem Reps.tx {K:WY}(t:Tx H H'):∀{vs:List T},Reps K H ys vs->Reps K H' ys vs
 | [],h=>by simpa[Reps] using h
 | v::vs,h=>by
  unfold Reps at h |-;obtain⟨y,r,e,q,s⟩:=h;exact⟨y,r,e,Jr.tx t q,Reps.tx t s⟩
end
section
variable {K:WY}{H:Hp}
def Jn:Jr K H (.int i) (.int i):=by unfold Jr;rfl
def Jw:Jr K H (.str i) (.str i):=by unfold Jr;rfl
def Y8:Jr K H (.bl i) (.bl i):=by unfold Jr;rfl
def V0:Jr K H .non .non:=by unfold Jr;rfl
def Jm:Jr K H (.ref a) (.ref a):=by unfold Jr;rfl
def Xq (h:U8 K H a ys)(r:Reps K H ys ts):Jr K H (.ref a) (.tup ts):=by unfold Jr;exact⟨a,ys,FQ,h,r⟩
def Ye (h:Jr K H x (.int i)):x=.int i:=by unfold Jr at h;exact h
def Jo (h:Jr K H x (.str i)):x=.str i:=by unfold Jr at h;exact h
def Sq (h:Jr K H x (.bl i)):x=.bl i:=by unfold Jr at h;exact h
def R7 (h:Jr K H x .non):x=.non:=by unfold Jr at h;exact h
def Z7 (h:Jr K H x (.ref a)):x=.ref a:=by unfold Jr at h;exact h
def Yp (h:Jr K H x (.tup ts)):∃a ys,x=.ref a/\U8 K H a ys/\Reps K H ys ts:=by unfold Jr at h;exact h
def Pb (h:Jr K H x (.cl ts)):∃a ys,x=.ref a/\im K H a ys/\Reps K H ys ts:=by unfold Jr at h;exact h
def Jc:Reps K H [] []:=by unfold Reps;rfl
def Yn (a:Jr K H y t)(b:Reps K H ys ts):Reps K H (y::ys) (t::ts):=by unfold Reps;exact⟨y,ys,FQ,a,b⟩
def X0 (h:Reps K H ys []):ys=[]:=by unfold Reps at h;exact h
def Jb {t:T}{ts:List T}(h:Reps K H ys (t::ts)):∃y r,ys=y::r/\Jr K H y t/\Reps K H r ts:=by unfold Reps at h;exact h
theorem Reps.length:∀{vs:List T} {ys:List V},Reps K H ys vs->ys.length=vs.length
 | [],_,h=>by rw[X0 h];rfl
 | _::_,_,h=>by obtain⟨y,r,rfl,_,q⟩:=Jb h;rw[YF,YF,q.length]
theorem Reps.get:∀{vs:List T} {ys:List V} {i:Nat} {v:T},Reps K H ys vs->vs[i]?=some v->∃y,ys[i]?=some y/\Jr K H y v
 | [],_,_,_,_,e=>by simp at e
 | _::_,_,0,_,h,e=>by obtain⟨y,r,rfl,a,_⟩:=Jb h;simp at e;subst e;exact⟨y,FQ,a⟩
 | _::_,_,i+1,v,h,e=>by
  obtain⟨y,r,rfl,_,q⟩:=Jb h;obtain⟨z,h1,h2⟩:=Reps.get (i:=i) (v:=v) q (by simpa using e);exact⟨z,by simpa using h1,h2⟩
def Reps.get':∀{vs:List T} {ys:List V} {i:Nat} {y:V},Reps K H ys vs->ys[i]?=some y->∃v,vs[i]?=some v/\Jr K H y v:=λ{vs ys i y} h e=>by
 have hl:=h.length;have hi:i<ys.length:=(BW.mp e).1;have hv:vs[i]?=some (vs[i]'(by omega)):=by simp[hl▸hi]
 obtain⟨z,h1,h2⟩:=h.get hv;rw[e] at h1;cases h1;exact⟨_,hv,h2⟩
theorem Reps.app:∀{vs ws:List T} {ys zs:List V},Reps K H ys vs->Reps K H zs ws->Reps K H (ys++zs) (vs++ws)
 | [],_,_,_,h,q=>by rw[X0 h];exact q
 | _::_,_,_,_,h,q=>by obtain⟨y,r,rfl,a,b⟩:=Jb h;exact Yn a (b.app q)
theorem Reps.take:∀(n:Nat) {vs:List T} {ys:List V},Reps K H ys vs->Reps K H (ys.take n) (vs.take n)
 | 0,_,_,_=>by simpa using Jc
 | _+1,[],_,h=>by rw[X0 h];exact Jc
 | n+1,_::_,_,h=>by obtain⟨y,r,rfl,a,b⟩:=Jb h;exact Yn a (b.take n)
theorem Reps.drop:∀(n:Nat) {vs:List T} {ys:List V},Reps K H ys vs->Reps K H (ys.drop n) (vs.drop n)
 | 0,_,_,h=>h
 | _+1,[],_,h=>by rw[X0 h];exact Jc
 | n+1,_::_,_,h=>by obtain⟨y,r,rfl,a,b⟩:=Jb h;exact b.drop n
theorem Reps.erase:∀(n:Nat) {vs:List T} {ys:List V},Reps K H ys vs->Reps K H (ys.eraseIdx n) (vs.eraseIdx n)
 | _,[],_,h=>by rw[X0 h];exact Jc
 | 0,_::_,_,h=>by obtain⟨y,r,rfl,a,b⟩:=Jb h;exact b
 | n+1,_::_,_,h=>by obtain⟨y,r,rfl,a,b⟩:=Jb h;exact Yn a (b.erase n)
def Reps.dropLast (h:Reps K H ys vs):Reps K H ys.dropLast vs.dropLast:=by
 rw[EU,EU,h.length];exact h.take _
def Reps.snoc (h:Reps K H ys vs)(q:Jr K H y v):Reps K H (ys++[y]) (vs++[v]):=h.app (Yn q Jc)
theorem Reps.reverse:∀{vs:List T} {ys:List V},Reps K H ys vs->Reps K H ys.reverse vs.reverse
 | [],_,h=>by rw[X0 h];exact Jc
 | _::_,_,h=>by obtain⟨y,r,rfl,a,b⟩:=Jb h;rw[EL,EL];exact b.reverse.snoc a
def Reps.at (h:Reps K H ys vs)(e:Sg vs i=some v):∃y,Sg ys i=some y/\Jr K H y v:=by
 unfold Sg at e |-;rw[h.length]
 cases q:tR vs.length i with
 | none=>rw[q] at e;cases e
 | some j=>
  rw[q] at e;exact h.get e
theorem K9:∀ns:List Int,Reps K H (ns.map V.int) (ns.map T.int)
 | []=>Jc
 | n::r=>Yn Jn (K9 r)
end
abbrev PR (K:WY)(H:Hp){κ:Type}(kvs:List (κ×V))(kws:List (κ×T)):Prop:=PySem.Paired (λp q=>p.1=q.1/\Jr K H p.2 q.2) kvs kws
def Bt (K:WY)(H:Hp)(a:WP):O->Prop
 | .lst xs=>∃ys,H a=some (.lst ys)/\Reps K H ys xs
 | .dic kvs=>∃ks,H a=some (.dK ks)/\PR K H ks kvs
 | .ins cn fs=>∃Cl dx ks,W.nsIn K mainGlobals cn=some (some (.ref Cl))/\H a=some (.ins Cl dx ks)/\PR K H ks fs
 | .fdic kvs=>∃ks,Rd H a (.dK ks)/\PR K H ks kvs
def O.wr:O->Prop
 | .fdic _=>False
 | _=>True
structure Rl (K:W.Frag)(F H:Hp)(C:Hw):Prop where
 obj:∀a o,C a=some o->Bt K H a o
 frm:∀a o,F a=some o->H a=some o/\C a=none
def Eo {K:WY}(t:Tx H H'){κ:Type}{ks:List (κ×V)}{kvs:List (κ×T)}(h:PR K H ks kvs):PR K H' ks kvs:=L2.Paired.mapP h λ_ _ z=>⟨z.1,z.2.tx t⟩
def Bt.stay {K:WY}(h:Bt K H a o)(t:Tx H H')(e:H' a=H a):Bt K H' a o:=by
 cases o with
 | lst xs=>obtain⟨ys,q,r⟩:=h;exact⟨ys,e.trans q,r.tx t⟩
 | dic kvs=>obtain⟨ys,q,r⟩:=h;exact⟨ys,e.trans q,Eo t r⟩
 | ins C fs=>obtain⟨Cl,dx,ys,n,q,r⟩:=h;exact⟨Cl,dx,ys,n,e.trans q,Eo t r⟩
 | fdic kvs=>
  obtain⟨ys,q,r⟩:=h;refine⟨ys,?_,Eo t r⟩
  rcases q with q | ⟨o,q⟩
  ·exact .inl (e.trans q)
  ·exact .inr ⟨o,e.trans q⟩
def Bt.some {K:WY}(h:Bt K H a o)(wr:o.wr):∃u,H a=some u/\¬Zbu u:=by
 cases o with
 | fdic kvs=>exact wr.elim
 | lst xs=>obtain⟨ys,q,r⟩:=h;exact⟨_,q,λz=>z⟩
 | dic kvs=>obtain⟨ys,q,r⟩:=h;exact⟨_,q,λz=>z⟩
 | ins C fs=>obtain⟨Cl,dx,ys,n,q,r⟩:=h;exact⟨_,q,λz=>z⟩
def Bt.here {K:WY}(h:Bt K H a o):∃u,H a=Option.some u:=by
 cases o with
 | fdic kvs=>
  obtain⟨ys,q,r⟩:=h
  rcases q with q | ⟨o,q⟩
  ·exact⟨_,q⟩
  ·exact⟨_,q⟩
 | lst xs=>obtain⟨ys,q,r⟩:=h;exact⟨_,q⟩
 | dic kvs=>obtain⟨ys,q,r⟩:=h;exact⟨_,q⟩
 | ins C fs=>obtain⟨Cl,dx,ys,n,q,r⟩:=h;exact⟨_,q⟩
section
variable {K:WY}{F H:Hp}{C:Hw}
def Rl.free (R:Rl K F H C)(h:H p=none):C p=none:=by
 cases e:C p with
 | none=>rfl
 | some o=>obtain⟨u,q⟩:=(R.obj p o e).here;rw[h] at q;cases q
def Rl.lst (R:Rl K F H C)(h:C a=some (.lst xs)):∃ys,H a=some (.lst ys)/\Reps K H ys xs:=R.obj a _ h
def Rl.new (R:Rl K F H C)(h:H p=none)(r:Bt K (Je H p u) p o):Rl K F (Je H p u) (up C p o) where
 obj:=λa v e=>by
  by_cases q:a=p
  ·subst q;rw[Zh] at e;cases e;exact r
  ·rw[Zn q] at e;exact(R.obj a v e).stay (Tx.new h) (Yd q)
 frm:=λa v e=>by
  have z:=R.frm a v e;have q:a≠p:=J0 z.1 h;rw[Yd q,Zn q];exact z
def Rl.hid (R:Rl K F H C)(h:H p=none):Rl K F (Je H p u) C where
 obj:=λa v e=>by
  obtain⟨w,q⟩:=(R.obj a v e).here;exact(R.obj a v e).stay (Tx.new h) (Yd (J0 q h))
 frm:=λa v e=>by
  have z:=R.frm a v e;rw[Yd (J0 z.1 h)];exact z
def Rl.put (R:Rl K F H C)(h:C p=some o)(r:Bt K (Je H p u) p o')(wr:o.wr:=by trivial):Rl K F (Je H p u) (up C p o')/\Tx H (Je H p u):=by
 obtain⟨w,hw,ns⟩:=(R.obj p o h).some wr;have t:Tx H (Je H p u):=Tx.put hw ns;refine⟨⟨λa v e=>?_,λa v e=>?_⟩,t⟩
 ·by_cases q:a=p
  ·subst q;rw[Zh] at e;cases e;exact r
  ·rw[Zn q] at e;exact(R.obj a v e).stay t (Yd q)
 ·have z:=R.frm a v e;have q:a≠p:=λy=>by subst y;rw[h] at z;cases z.2
  rw[Yd q,Zn q];exact z
def Rl.putL (R:Rl K F H C)(h:C p=some (.lst xs))(r:Reps K H ys' xs'):Rl K F (Je H p (.lst ys')) (up C p (.lst xs'))/\Tx H (Je H p (.lst ys')):=by
 obtain⟨w,hw,ns⟩:=(R.obj p _ h).some trivial;exact R.put h ⟨ys',Yq,r.tx (Tx.put hw ns)⟩
def Rl.newL (R:Rl K F H C)(h:H p=none)(r:Reps K H ys xs):Rl K F (Je H p (.lst ys)) (up C p (.lst xs)):=R.new h ⟨ys,Yq,r.tx (Tx.new h)⟩
end
abbrev Sw:=List (Option T)
abbrev WK:=T->Hw->Prop
structure Xn where
 cls:Str
 fs:List (Str×T)
abbrev WX:=Xn->Hw->Prop
abbrev WE:=Sw->Hw->WK->WX->Prop
abbrev WT:=Sw->Hw->(Bool->Hw->Prop)->WX->Prop
abbrev WA:=Sw->Hw->(List T->Hw->Prop)->WX->Prop
structure We where
 nx:Sw->Hw->Prop
 rt:WK
 bk:Sw->Hw->Prop:=λ_ _=>False
 ct:Sw->Hw->Prop:=λ_ _=>False
 xc:WX:=λ_ _=>False
abbrev WS:=We->Sw->Hw->Prop
abbrev WG:=T->Sw->Hw->(Sw->Hw->Prop)->WX->Prop
abbrev oE:=List T->Sw->Hw->(Sw->Hw->Prop)->WX->Prop
abbrev WI:=Sw->Hw->(List T->(Hw->Prop)->Hw->Prop)->WX->Prop
abbrev W2:=T->T->Hw->WK->Prop
abbrev Calls:=Nat->List T->Hw->WK->WX->Prop
def Z6 (i:Nat):WE:=λτ C Q _=>∃v,τ[i]?=some (some v)/\Q v C
def eC (v:T):WE:=λ_ C Q _=>Q v C
def Y1 (r:W2)(a b:WE):WE:=λτ C Q χ=>a τ C (λx C1=>b τ C1 (λy C2=>r x y C2 Q) χ) χ
def Za9 (r:T->Hw->WK->Prop)(a:WE):WE:=λτ C Q χ=>a τ C (λx C1=>r x C1 Q) χ
def Zy:WA:=λ_ C Q _=>Q [] C
def Yb (a:WE)(r:WA):WA:=λτ C Q χ=>a τ C (λx C1=>r τ C1 (λxs C2=>Q (x::xs) C2) χ) χ
def Dh (a:WA):WE:=λτ C Q χ=>a τ C (λxs C1=>xs.length<=sizeLine/\Q (.tup xs) C1) χ
def wJ (a:WA):WE:=λτ C Q χ=>a τ C (λxs C1=>xs.length<=sizeLine/\∀p,C1 p=none->Q (.ref p) (up C1 p (.lst xs))) χ
def Vj (P:Calls)(i:Nat)(a:WA):WE:=λτ C Q χ=>a τ C (λxs C1=>P i xs C1 Q χ) χ
def kW (r:List T->Hw->WK->Prop)(a:WA):WE:=λτ C Q χ=>a τ C (λxs C1=>r xs C1 Q) χ
def lI (ty:T->Hw->Prop)(r:T->List T->Hw->WK->Prop)(o:WE)(a:WA):WE:=λτ C Q χ=>o τ C (λx C1=>ty x C1/\a τ C1 (λxs C2=>r x xs C2 Q) χ) χ
def eR (c:WT)(a b:WE):WE:=λτ C Q χ=>c τ C (λk C1=>if k=true then a τ C1 Q χ else b τ C1 Q χ) χ
def fD (a b:WE):WE:=λτ C Q χ=>a τ C (λx C1=>∃k,x=.bl k/\if k=true then b τ C1 Q χ else Q (.bl false) C1) χ
def Zba (a b:WE):WE:=λτ C Q χ=>a τ C (λx C1=>∃k,x=.bl k/\if k=true then Q (.bl true) C1 else b τ C1 Q χ) χ
def Zbb (a:WE):WE:=λτ C Q χ=>a τ C (λx C1=>∃k,x=.bl k/\Q (.bl (!k)) C1) χ
def aN:T->Hw->Bool->Prop
 | .non,_,k=>k=false
 | .bl b,_,k=>k=b
 | .int i,_,k=>k=(i !=0)
 | .str y,_,k=>y.length<=sizeLine/\k=((y.length:Int) !=0)
 | .tup xs,_,k=>k=!xs.isEmpty
 | .cl xs,_,k=>k=!xs.isEmpty
 | .ref a,C,k=>(∃xs,C a=some (.lst xs)/\k=!xs.isEmpty)\/∃kvs,C a=some (.dic kvs)/\k=!kvs.isEmpty
def iG (a:WE):WT:=λτ C Q χ=>a τ C (λx C1=>∃k,aN x C1 k/\Q k C1) χ
def O4 (a:WE):WT:=λτ C Q χ=>a τ C (λx C1=>∃k,x=.bl k/\Q k C1) χ
def ay (a b:WT):WT:=λτ C Q χ=>a τ C (λk C1=>if k=true then b τ C1 Q χ else Q false C1) χ
def sT (a b:WT):WT:=λτ C Q χ=>a τ C (λk C1=>if k=true then Q true C1 else b τ C1 Q χ) χ
def aQ (a:WT):WT:=λτ C Q χ=>a τ C (λk C1=>Q (!k) C1) χ
def wM (r r':W2)(a b c:WE):WE:=λτ C Q χ=>a τ C (λx C1=>b τ C1 (λy C2=>r x y C2 λz C3=>∃k,z=.bl k/\(if k=true then c τ C3 (λw C4=>r' y w C4 Q) χ else Q (.bl false) C3)) χ) χ
def i9:W2
 | .int i,.int j,C,Q=>Q (.int (i+j)) C
 | .str i,.str j,C,Q=>i.length+j.length<=sizeLine/\Q (.str (i++j)) C
 | .tup xs,.tup ys,C,Q=>xs.length+ys.length<=sizeLine/\Q (.tup (xs++ys)) C
 | .ref a,.ref b,C,Q=>∃xs ys,C a=some (.lst xs)/\C b=some (.lst ys)/\xs.length+ys.length<=sizeLine/\∀p,C p=none->Q (.ref p) (up C p (.lst (xs++ys)))
 | _,_,_,_=>False
def Wp:W2
 | .int i,.int j,C,Q=>Q (.int (i-j)) C
 | _,_,_,_=>False
def dk:W2
 | .int i,.int j,C,Q=>oN i j/\Q (.int (i*j)) C
 | _,_,_,_=>False
def i8:W2
 | .int i,.int j,C,Q=>au i j/\Q (.int (i/j)) C
 | _,_,_,_=>False
def dq:W2
 | .int i,.int j,C,Q=>0<j/\Q (.int (i%j)) C
 | _,_,_,_=>False
def dh:W2
 | .int i,.int j,C,Q=>oM i j/\Q (.int (i^j.toNat)) C
 | _,_,_,_=>False
def dj:T->Hw->WK->Prop
 | .int i,C,Q=>Q (.int (-i)) C
 | _,_,_=>False
def av:W2
 | .int i,.int j,C,Q=>Q (.bl (decide (i<j))) C
 | .str i,.str j,C,Q=>Q (.bl (decide (i.cps.toList<j.cps.toList))) C
 | _,_,_,_=>False
def Zb3:W2
 | .int i,.int j,C,Q=>Q (.bl (decide (i<=j))) C
 | _,_,_,_=>False
def Zb5:W2
 | .int i,.int j,C,Q=>Q (.bl (decide (j<i))) C
 | _,_,_,_=>False
def aL:W2
 | .int i,.int j,C,Q=>Q (.bl (decide (j<=i))) C
 | _,_,_,_=>False
mutual
def eqT:T->T->Bool
 | .non,.non=>true
 | .bl a,.bl b=>a==b
 | .bl a,.int b=>(if a then 1 else 0)==b
 | .int a,.bl b=>a==(if b then 1 else 0)
 | .int a,.int b=>a==b
 | .str a,.str b=>a==b
 | .tup xs,.tup ys=>Tc xs ys
 | _,_=>false
def Tc:List T->List T->Bool
 | [],[]=>true
 | x::xs,y::ys=>eqT x y&&Tc xs ys
 | _,_=>false
end
mutual
def J8:T->Nat->Bool
 | .tup xs,n+1=>Jv xs n
 | .tup _,0=>false
 | .ref _,_=>false
 | .cl _,_=>false
 | _,_=>true
def Jv:List T->Nat->Bool
 | [],_=>true
 | x::xs,n=>J8 x n&&Jv xs n
end
def Sf:Nat:=100
def Y9 (x:T):Prop:=J8 x Sf=true
def Fy (neg:Bool):W2
 | .ref a,.ref b,C,Q=>∃xs ys,C a=some (.lst xs)/\C b=some (.lst ys)/\(xs.length=ys.length->Jv xs Sf=true/\Jv ys Sf=true)/\Q (.bl (if neg then !Tc xs ys else Tc xs ys)) C
 | .ref a,y,C,Q=>(∃xs,C a=some (.lst xs))/\Y9 y/\Q (.bl neg) C
 | x,.ref b,C,Q=>(∃ys,C b=some (.lst ys))/\Y9 x/\Q (.bl neg) C
 | x,y,C,Q=>Y9 x/\Y9 y/\Q (.bl (if neg then !eqT x y else eqT x y)) C
abbrev Hk:W2:=Fy false
abbrev kA:W2:=Fy true
def sG:W2:=λx y C Q=>y=.non/\Q (.bl (match x with | .non=>true | _=>false)) C
def sE:W2:=λx y C Q=>y=.non/\Q (.bl (match x with | .non=>false | _=>true)) C
def Kn (x:T)(xs:List T):Bool:=xs.any λy=>eqT y x
def nj (neg:Bool):W2
 | .str i,.str j,C,Q=>Q (.bl (if neg then(!(!(Builtin.Str.occurrences j i 0 j.length 1).isEmpty)) else(!(Builtin.Str.occurrences j i 0 j.length 1).isEmpty))) C
 | x,.tup ys,C,Q=>Y9 x/\Jv ys Sf=true/\Q (.bl (if neg then !Kn x ys else Kn x ys)) C
 | x,.cl ys,C,Q=>Y9 x/\Jv ys Sf=true/\Q (.bl (if neg then !Kn x ys else Kn x ys)) C
 | x,.ref a,C,Q=>∃ys,C a=some (.lst ys)/\Y9 x/\Jv ys Sf=true/\Q (.bl (if neg then !Kn x ys else Kn x ys)) C
 | _,_,_,_=>False
abbrev Zb4:W2:=nj false
abbrev sF:W2:=nj true
def As {α:Type}(xs:List α)(lo hi:Option Int):List α:=(xs.drop (HT.sIx xs.length 0 lo)).take (HT.sIx xs.length xs.length hi-HT.sIx xs.length 0 lo)
def Tz:W2
 | .tup xs,.int i,C,Q=>∃v,Sg xs i=some v/\Q v C
 | .cl xs,.int i,C,Q=>∃v,Sg xs i=some v/\Q v C
 | .str z,.int i,C,Q=>z.length<=sizeLine/\∃c,Sg z.cps.toList i=some c/\Q (.str ⟨#[c]⟩) C
 | .ref a,.int i,C,Q=>∃xs v,C a=some (.lst xs)/\Sg xs i=some v/\Q v C
 | _,_,_,_=>False
def Zch:Sw->Hw->(Option Int->Hw->Prop)->WX->Prop:=λ_ C Q _=>Q none C
def kL (a:WE):Sw->Hw->(Option Int->Hw->Prop)->WX->Prop:=λτ C Q χ=>a τ C (λx C1=>∃i,x=.int i/\Q (some i) C1) χ
def aJ:T->Option Int->Option Int->Hw->WK->Prop
 | .tup xs,lo,hi,C,Q=>¬(HT.sIx xs.length 0 lo=0/\HT.sIx xs.length xs.length hi=xs.length)/\Q (.tup (As xs lo hi)) C
 | .cl xs,lo,hi,C,Q=>∀p,C p=none->Q (.ref p) (up C p (.lst (As xs lo hi)))
 | .str z,lo,hi,C,Q=>z.length<=sizeLine/\Q (.str (Txt.slice z lo hi)) C
 | .ref a,lo,hi,C,Q=>∃xs,C a=some (.lst xs)/\∀p,C p=none->Q (.ref p) (up C p (.lst (As xs lo hi)))
 | _,_,_,_,_=>False
def Zco (a:WE)(lo hi:Sw->Hw->(Option Int->Hw->Prop)->WX->Prop):WE:=λτ C Q χ=>a τ C (λx C1=>lo τ C1 (λl C2=>hi τ C2 (λh C3=>aJ x l h C3 Q) χ) χ) χ
def fT:List T->Hw->WK->Prop:=λvs C Q=>∃x,vs=[x]/\match x with
 | .str z=>z.length<=sizeLine/\Q (.int z.length) C
 | .tup xs=>Q (.int xs.length) C
 | .cl xs=>Q (.int xs.length) C
 | .ref a=>∃xs,C a=some (.lst xs)/\Q (.int xs.length) C
 | _=>False
def Zbl:List T->Hw->WK->Prop:=λvs C Q=>∃i j,vs=[.int i,.int j]/\Q (.int (if j>i then j else i)) C
def Zbk:List T->Hw->WK->Prop:=λvs C Q=>∃i j,vs=[.int i,.int j]/\Q (.int (if j<i then j else i)) C
def ou:List T->Hw->WK->Prop:=λvs C Q=>∃x,vs=[x]/\match x with
 | .tup xs=>Q (.tup xs) C
 | .cl xs=>Q (.tup xs) C
 | .ref a=>∃xs,C a=some (.lst xs)/\Q (.tup xs) C
 | _=>False
def ow:List T->Hw->WK->Prop:=λvs C Q=>∃x,vs=[x]/\match x with
 | .tup xs=>∀p,C p=none->Q (.ref p) (up C p (.lst xs))
 | .cl xs=>∀p,C p=none->Q (.ref p) (up C p (.lst xs))
 | .ref a=>∃xs,C a=some (.lst xs)/\∀p,C p=none->Q (.ref p) (up C p (.lst xs))
 | _=>False
def dy:T->Hw->String->Prop
 | .non,_,n=>n="NoneType"
 | .bl _,_,n=>n="bool"
 | .int _,_,n=>n="int"
 | .str _,_,n=>n="str"
 | .tup _,_,n=>n="tuple"
 | .cl _,_,n=>n="list"
 | .ref a,C,n=>(n="list"/\∃xs,C a=some (.lst xs))\/(n="dict"/\∃kvs,C a=some (.dic kvs))
def Hu (n c:String):Bool:=n==c||(n=="bool"&&c=="int")
def bL (a:WE)(c:String):WE:=λτ C Q χ=>a τ C (λx C1=>∃n,dy x C1 n/\Q (.bl (Hu n c)) C1) χ
def yK:T->Hw->Prop:=λx C=>∃a xs,x=.ref a/\C a=some (.lst xs)
def Zb6:T->Hw->Prop:=λx _=>∃z,x=.str z
def Tl:T->List T->Hw->WK->Prop:=λx vs C Q=>∃a xs y,x=.ref a/\vs=[y]/\C a=some (.lst xs)/\xs.length<sizeLine/\Q .non (up C a (.lst (xs++[y])))
def bh:T->List T->Hw->WK->Prop:=λx vs C Q=>∃a xs y,x=.ref a/\vs=[]/\C a=some (.lst xs)/\xs[xs.length-1]?=some y/\Q y (up C a (.lst xs.dropLast))
def qQ:T->List T->Hw->WK->Prop:=λx vs C Q=>∃a xs i k y,x=.ref a/\vs=[.int i]/\C a=some (.lst xs)/\ -(2^63)<=i/\i<2^63/\seqIndex? i xs.length=some k/\xs[k]?=some y/\Q y (up C a (.lst (xs.eraseIdx k)))
def Bl (i:Nat):WG:=λv τ C Q _=>Q (τ.set i (some v)) C
def jD:oE:=λvs τ C Q _=>vs=[]/\Q τ C
def Iq (g:WG)(gs:oE):oE:=λvs τ C Q χ=>∃v r,vs=v::r/\g v τ C (λτ' C'=>gs r τ' C' Q χ) χ
def bE (gs:oE):WG:=λv τ C Q χ=>∃xs,v=.tup xs/\gs xs τ C Q χ
def Zdi (o i:WE):WG:=λv τ C Q χ=>o τ C (λx C1=>i τ C1 (λy C2=>∃a xs k j,x=.ref a/\y=.int k/\C2 a=some (.lst xs)/\tR xs.length k=some j/\Q τ (up C2 a (.lst (xs.set j v)))) χ) χ
def Qj:WS:=λD τ C=>D.nx τ C
def Vn (a b:WS):WS:=λD τ C=>a {D with nx:=b D} τ C
def Q8 (e:WE):WS:=λD τ C=>e τ C (λ_ C1=>D.nx τ C1) D.xc
def rQ (e:WE):WS:=λD τ C=>e τ C D.rt D.xc
def kF:WS:=λD _ C=>D.rt .non C
def xo (c:WT)(a b:WS):WS:=λD τ C=>c τ C (λk C1=>if k=true then a D τ C1 else b D τ C1) D.xc
def T7 (e:WE)(g:WG):WS:=λD τ C=>e τ C (λx C1=>g x τ C1 D.nx D.xc) D.xc
def Zag:WS:=λD τ C=>D.bk τ C
def cx:WS:=λD τ C=>D.ct τ C
def rR:WS:=λ_ _ _=>False
def ya (g:WG)(b:WS)(ok:Hw->Prop)(D:We):List T->Sw->Hw->Prop
 | [],τ,C=>ok C/\D.nx τ C
 | x::xs,τ,C=>ok C/\g x τ C (λτ2 C2=>b {D with nx:=ya g b ok D xs,ct:=ya g b ok D xs,bk:=D.nx} τ2 C2) D.xc
def iV (i:WI)(g:WG)(b:WS):WS:=λD τ C=>i τ C (λxs ok C1=>ya g b ok D xs τ C1) D.xc
def wC (e:WE):WI:=λτ C R χ=>e τ C (λv C1=>match v with
 | .tup xs=>R xs (λ_=>True) C1
 | .cl xs=>R xs (λ_=>True) C1
 | .str z=>R (z.cps.toList.map λc=>T.str ⟨#[c]⟩) (λ_=>True) C1
 | .ref a=>∃xs,C1 a=some (.lst xs)/\R xs (λC2=>C2 a=some (.lst xs)) C1
 | _=>False) χ
def rng (lo:Int)(n:Nat):List T:=(List.range n).map λk:Nat=>T.int (lo+k)
def Zcm (a:WA):WI:=λτ C R χ=>a τ C (λvs C1=>∃j:Int,vs=[.int j]/\ -(2^62)<=j/\j<2^62/\R (rng 0 j.toNat) (λ_=>True) C1) χ
def Zcl (a:WA):WI:=λτ C R χ=>a τ C (λvs C1=>∃i j:Int,vs=[.int i,.int j]/\(-(2^62)<=i/\i<2^62/\ -(2^62)<=j/\j<2^62)/\R (rng i (j-i).toNat) (λ_=>True) C1) χ
def Zdg (a:WA):WI:=λτ C R χ=>a τ C (λvs C1=>∃z,vs=[.str z]/\R (z.cps.toList.zipIdx.map λc=>T.tup [.int c.2,.str ⟨#[c.1]⟩]) (λ_=>True) C1) χ
def Bp (cap:List (Option Nat))(τ:Sw):Sw:=cap.map λo=>o.bind λi=>(τ[i]?).join
def iF:WT:=λ_ C Q _=>Q true C
def Kf (g:WG)(c:WT)(e:WE)(ok:Hw->Prop)(τ:Sw)(Q:List T->Hw->Prop)(χ:WX):List T->List T->Hw->Prop
 | [],acc,C=>ok C/\Q acc C
 | x::xs,acc,C=>ok C/\g x τ C (λτ2 C2=>c τ2 C2 (λb C3=>if b=true then e τ2 C3 (λv C4=>acc.length<sizeLine/\Kf g c e ok τ Q χ xs (acc++[v]) C4) χ else Kf g c e ok τ Q χ xs acc C3) χ) χ
def Lz (cap:List (Option Nat))(i:WI)(g:WG)(c:WT)(e:WE):WE:=λτ C Q χ=>i τ C (λxs ok C1=>Kf g c e ok (Bp cap τ) (λvs C2=>∀p,C2 p=none->Q (.ref p) (up C2 p (.lst vs))) χ xs [] C1) χ
structure Df where
 n:Nat
 ar:Nat
 body:Calls->WS
def Z4 (pr:List Df):Nat->Calls
 | 0=>λ_ _ _ _ _=>False
 | n+1=>λi vs C Q χ=>∃d,pr[i]?=some d/\vs.length=d.ar/\d.body (Z4 pr n) {nx:=λ_ C'=>Q .non C',rt:=Q,xc:=χ} (vs.map some++List.replicate (d.n-d.ar) none) C
section
variable {X:Cx}{WZ:List (WP×Obj)}{σ:L2.St}{H:Hp}{s:WR}
def sc:T->Option V
 | .non=>some .non
 | .bl b=>some (.bl b)
 | .int i=>some (.int i)
 | .str z=>some (.str z)
 | _=>none
def W8 {K:WY}(h:sc v=some z)(r:Jr K H x v):x=z/\jI z=true:=by
 cases v with
 | non=>cases h;exact⟨R7 r,FQ⟩
 | bl b=>cases h;exact⟨Sq r,FQ⟩
 | int i=>cases h;exact⟨Ye r,FQ⟩
 | str z=>cases h;exact⟨Jo r,FQ⟩
 | _=>cases h
def pN (h:sc v=some a)(h':sc w=some b):eqT v w=f9 a b:=by
 cases v<;>cases w<;>cases h<;>cases h'<;>unfold eqT<;>rfl
mutual
theorem Pl:∀(v:T) {n:Nat},J8 v n=true->eqT v v=true
 | .non,_,_=>by unfold eqT;rfl
 | .bl b,_,_=>by unfold eqT;simp
 | .int b,_,_=>by unfold eqT;simp
 | .str b,_,_=>by unfold eqT;simp
 | .tup xs,0,h=>by unfold J8 at h;cases h
 | .tup xs,n+1,h=>by unfold J8 at h;unfold eqT;exact Aq xs h
 | .ref a,_,h=>by unfold J8 at h;cases h
 | .cl a,_,h=>by unfold J8 at h;cases h
theorem Aq:∀(v:List T) {n:Nat},Jv v n=true->Tc v v=true
 | [],_,_=>by unfold Tc;rfl
 | x::xs,n,h=>by
  unfold Jv at h;rw[DK] at h;unfold Tc;rw[Pl x h.1,Aq xs h.2];rfl
end
def Xp (h:J8 v n=true)(e:sc v=none):∃ts m,v=.tup ts/\n=m+1/\Jv ts m=true:=by
 cases v with
 | tup ts=>
  cases n with
  | zero=>unfold J8 at h;cases h
  | succ m=>unfold J8 at h;exact⟨ts,m,FQ,FQ,h⟩
 | ref a=>unfold J8 at h;cases h
 | cl a=>unfold J8 at h;cases h
 | non=>cases e
 | bl b=>cases e
 | int b=>cases e
 | str b=>cases e
theorem Wm:∀{vs:List T} {n i:Nat} {v:T},Jv vs n=true->vs[i]?=some v->J8 v n=true
 | [],_,_,_,_,e=>by simp at e
 | x::xs,n,0,v,h,e=>by
  unfold Jv at h;rw[DK] at h;simp at e;subst e;exact h.1
 | x::xs,n,i+1,v,h,e=>by
  unfold Jv at h;rw[DK] at h;exact Wm h.2 (by simpa using e)
def Gz (I:Z2 X WZ σ H s):∀(n:Nat) {v w:T} {x:V},J8 v n=true->J8 w n=true->Jr X.K H x v->Jr X.K H x w->v=w:=by
 intro n
 induction n with
 | zero=>
  intro v w x fv fw rv rw'
  cases ev:sc v with
  | none=>obtain⟨_,_,_,h,_⟩:=Xp fv ev;cases h
  | some a=>
   cases ew:sc w with
   | none=>obtain⟨_,_,_,h,_⟩:=Xp fw ew;cases h
   | some b=>
    obtain⟨e1,_⟩:=W8 ev rv;obtain⟨e2,_⟩:=W8 ew rw';have e:a=b:=e1.symm.trans e2;subst e
    cases v<;>cases ev<;>cases w<;>cases ew<;>rfl
 | succ n ih=>
  intro v w x fv fw rv rw';have lists:∀{ys:List V} {vs ws:List T},Jv vs n=true->Jv ws n=true->Reps X.K H ys vs->Reps X.K H ys ws->vs=ws:=by
   intro ys vs
   induction vs generalizing ys with
   | nil=>
    intro ws _ _ a b;have:=X0 a;subst this
    cases ws with
    | nil=>rfl
    | cons w ws=>obtain⟨_,_,e,_⟩:=Jb b;cases e
   | cons v vs ihv=>
    intro ws fa fb a b;obtain⟨y,r,rfl,a1,a2⟩:=Jb a
    cases ws with
    | nil=>have:=X0 b;cases this
    | cons w ws=>
     obtain⟨y',r',e,b1,b2⟩:=Jb b
     cases e
     unfold Jv at fa fb;rw[DK] at fa fb;rw[ih fa.1 fb.1 a1 b1,ihv fa.2 fb.2 a2 b2]
  cases ev:sc v with
  | none=>
   obtain⟨ts,m,rfl,em,ft⟩:=Xp fv ev
   cases em
   obtain⟨a,ys,rfl,hq,r⟩:=Yp rv
   cases ew:sc w with
   | none=>
    obtain⟨us,m',rfl,em,fu⟩:=Xp fw ew
    cases em
    obtain⟨b,zs,e,hq',r'⟩:=Yp rw'
    cases e
    have e:=I.tuple_inj hq hq';subst e;rw[lists ft fu r r']
   | some b=>
    obtain⟨e2,f⟩:=W8 ew rw';subst e2
    cases f
  | some a=>
   obtain⟨e1,f⟩:=W8 ev rv
   cases ew:sc w with
   | none=>
    obtain⟨us,m',rfl,em,fu⟩:=Xp fw ew;obtain⟨b,zs,e,hq',r'⟩:=Yp rw';subst e1;subst e
    cases f
   | some b=>
    obtain⟨e2,_⟩:=W8 ew rw';have e:a=b:=e1.symm.trans e2;subst e
    cases v<;>cases ev<;>cases w<;>cases ew<;>rfl
def oS (ts us:List T)(j:Nat):Bool:=match ts[j]?,us[j]? with
 | some a,some b=>eqT a b
 | _,_=>true
theorem Ux:∀(vs ws:List T),((List.range (min vs.length ws.length)).all (oS vs ws)&&vs.length==ws.length)=Tc vs ws
 | [],[]=>by unfold Tc;rfl
 | [],_::_=>by unfold Tc;simp
 | _::_,[]=>by unfold Tc;simp
 | v::vs,w::ws=>by
  unfold Tc;rw[<-Ux vs ws];rw[YF,YF,show min (vs.length+1) (ws.length+1)=min vs.length ws.length+1 by omega,List.range_succ_eq_map,List.all_cons,List.all_map];have e1:oS (v::vs) (w::ws) 0=eqT v w:=rfl;have e2:(oS (v::vs) (w::ws)∘Nat.succ)=oS vs ws:=by funext j;simp[Function.comp_def,oS]
  rw[e1,e2];simp[Bool.and_assoc]
def jK (I:Z2 X WZ σ H s):∀(n:Nat) {v w:T} {x y:V} {u u':WQ} {A:WM},J8 v n=true->J8 w n=true->Jr X.K H x v->Jr X.K H y w->Yg x u->Yg y u'->A.units+n<cLine->
  SeqAt.EqAt A s u u' (eqT v w):=by
 intro n
 induction n with
 | zero=>
  intro v w x y u u' A fv fw rv rw' ru ru' hu
  cases ev:sc v with
  | none=>obtain⟨_,_,_,h,_⟩:=Xp fv ev;cases h
  | some a=>
   cases ew:sc w with
   | none=>obtain⟨_,_,_,h,_⟩:=Xp fw ew;cases h
   | some b=>
    obtain⟨rfl,f1⟩:=W8 ev rv;obtain⟨rfl,f2⟩:=W8 ew rw';rw[pN ev ew];exact pO ru ru' f1 f2
 | succ n ih=>
  intro v w x y u u' A fv fw rv rw' ru ru' hu;have hu0:A.units<cLine:=by omega
  cases ev:sc v with
  | some a=>
   obtain⟨rfl,f1⟩:=W8 ev rv
   cases ew:sc w with
   | some b=>
    obtain⟨rfl,f2⟩:=W8 ew rw';rw[pN ev ew];exact pO ru ru' f1 f2
   | none=>
    obtain⟨ts,m,rfl,em,ft⟩:=Xp fw ew;obtain⟨b,zs,rfl,hq,r⟩:=Yp rw'
    cases ru'
    obtain⟨its,_,p,_⟩:=I.tuple hq
    cases v with
    | non=>cases ev;cases ru;unfold eqT;exact SeqAt.EqAt.none_tuple p hu0
    | bl c=>cases ev;cases ru;unfold eqT;exact SeqAt.EqAt.bool_tuple c p hu0
    | int i=>cases ev;obtain⟨t,rfl⟩:=ru;unfold eqT;exact SeqAt.EqAt.int_tuple i t p hu0
    | str i=>cases ev;obtain⟨t,rfl⟩:=ru;unfold eqT;exact SeqAt.EqAt.str_tuple i t p hu0
    | _=>cases ev
  | none=>
   obtain⟨ts,m,rfl,em,ft⟩:=Xp fv ev
   cases em
   obtain⟨a,ys,rfl,hq,r⟩:=Yp rv
   cases ru
   obtain⟨its,rI,p,_⟩:=I.tuple hq
   cases ew:sc w with
   | some b=>
    obtain⟨rfl,f2⟩:=W8 ew rw'
    cases w with
    | non=>cases ew;cases ru';unfold eqT;exact SeqAt.EqAt.tuple_none p hu0
    | bl c=>cases ew;cases ru';unfold eqT;exact SeqAt.EqAt.tuple_bool c p hu0
    | int i=>cases ew;obtain⟨t,rfl⟩:=ru';unfold eqT;exact SeqAt.EqAt.tuple_int i t p hu0
    | str i=>cases ew;obtain⟨t,rfl⟩:=ru';unfold eqT;exact SeqAt.EqAt.tuple_str i t p hu0
    | _=>cases ew
   | none=>
    obtain⟨us,m',rfl,em,fu⟩:=Xp fw ew
    cases em
    obtain⟨b,zs,rfl,hq',r'⟩:=Yp rw'
    cases ru'
    obtain⟨its',rI',p',_⟩:=I.tuple hq';by_cases hne:a=b
    ·subst hne;have e:=Gz I (n+1) fv fw (Xq hq r) (Xq hq' r');rw[e,Pl _ fw];exact SeqAt.EqAt.same _
    ·have l1:its.toArray.size=ts.length:=by rw[XJ,<-rI.length,r.length]
     have l2:its'.toArray.size=us.length:=by rw[XJ,<-rI'.length,r'.length]
     have key:=SeqAt.EqAt.of_refs hne (SeqAt.RcAt.tuples (A:=A) (e:=oS ts us) p p' hu0 (λj h1 h2=>by
      have i1:ts[j]?=some (ts[j]'(by omega)):=by simp[l1▸h1]
      have i2:us[j]?=some (us[j]'(by omega)):=by simp[l2▸h2]
      obtain⟨x1,g1,q1⟩:=r.get i1;obtain⟨x2,g2,q2⟩:=r'.get i2;obtain⟨u1,k1,z1⟩:=rI.get g1;obtain⟨u2,k2,z2⟩:=rI'.get g2;have e1:its.toArray[j]=u1:=by
       have:its[j]?=some its.toArray[j]:=by simp
       rw[k1] at this;exact(YH this).symm
      have e2:its'.toArray[j]=u2:=by
       have:its'[j]?=some its'.toArray[j]:=by simp
       rw[k2] at this;exact(YH this).symm
      rw[e1,e2];unfold oS;simp only[i1,i2];exact ih (Wm ft i1) (Wm fu i2) q1 q2 z1 z2 (by show A.units+1+n<cLine;omega)))
     rw[l1,l2,Ux] at key;unfold eqT;exact key
end
def Xo (K:WY)(H:Hp)(σ:L2.St)(τ:Sw):Prop:=σ.length=τ.length/\∀(i:Nat) (v:T),τ[i]?=some (some v)->∃x,σ[i]?=some (some x)/\Jr K H x v
def Xo.tx {K:WY}(h:Xo K H σ τ)(t:Tx H H'):Xo K H' σ τ:=⟨h.1,λi v e=>let ⟨x,a,b⟩:=h.2 i v e;⟨x,a,b.tx t⟩⟩
def Xo.set {K:WY}(h:Xo K H σ τ)(r:Jr K H x v):Xo K H (σ.set i (some x)) (τ.set i (some v)):=by
 refine⟨by rw[FO,FO];exact h.1,λj w e=>?_⟩;by_cases hj:i=j
 ·subst hj;by_cases hi:i<τ.length
  ·rw[DS hi] at e
   cases e
   exact⟨x,DS (by rw[h.1];exact hi),r⟩
  ·rw[CU (by rw[FO];omega)] at e
   cases e
 ·rw[DW hj] at e |-;exact h.2 j w e
abbrev QE (K:WY)(F H:Hp)(Q:VK)(Q':WK):Prop:=∀x v H' C',Rl K F H' C'->Tx H H'->Jr K H' x v->Q' v C'->Q x H'
abbrev QT (K:WY)(F H:Hp)(Q:Bool->Hp->Prop)(Q':Bool->Hw->Prop):Prop:=∀b H' C',Rl K F H' C'->Tx H H'->Q' b C'->Q b H'
abbrev QA (K:WY)(F H:Hp)(Q:List V->Hp->Prop)(Q':List T->Hw->Prop):Prop:=∀xs vs H' C',Rl K F H' C'->Tx H H'->Reps K H' xs vs->Q' vs C'->Q xs H'
def QE.at {K:WY}{F H H1:Hp}(q:QE K F H Q Q')(t:Tx H H1):QE K F H1 Q Q':=λx v H' C' R t'=>q x v H' C' R (t.trans t')
def W3 (K:WY)(te:TE)(we:WE):Prop:=∀(F H:Hp) (C:Hw) (σ:L2.St) (τ:Sw) (Q:VK) (Q':WK) (χ:WX),Rl K F H C->Xo K H σ τ->we τ C Q' χ->QE K F H Q Q'->te σ H Q
def Mm (K:WY)(te:TT)(we:WT):Prop:=∀(F H:Hp) (C:Hw) (σ:L2.St) (τ:Sw) (Q:Bool->Hp->Prop) (Q':Bool->Hw->Prop) (χ:WX),Rl K F H C->Xo K H σ τ->we τ C Q' χ->QT K F H Q Q'->te σ H Q
def wY (K:WY)(te:TA)(we:WA):Prop:=∀(F H:Hp) (C:Hw) (σ:L2.St) (τ:Sw) (Q:List V->Hp->Prop) (Q':List T->Hw->Prop) (χ:WX),Rl K F H C->Xo K H σ τ->we τ C Q' χ->QA K F H Q Q'->te σ H Q
def oF (K:WY)(r:R2)(w:W2):Prop:=∀(F H:Hp) (C:Hw) (x y:V) (v u:T) (Q:VK) (Q':WK),Rl K F H C->Jr K H x v->Jr K H y u->w v u C Q'->QE K F H Q Q'->r x y H Q
def ae (K:WY)(r:List V->Hp->VK->Prop)(w:List T->Hw->WK->Prop):Prop:=∀(F H:Hp) (C:Hw) (xs:List V) (vs:List T) (Q:VK) (Q':WK),Rl K F H C->Reps K H xs vs->w vs C Q'->QE K F H Q Q'->r xs H Q
def Zbw (K:WY)(r:V->List V->Hp->VK->Prop)(w:T->List T->Hw->WK->Prop):Prop:=∀(F H:Hp) (C:Hw) (x:V) (v:T) (xs:List V) (vs:List T) (Q:VK) (Q':WK),Rl K F H C->Jr K H x v->Reps K H xs vs->w v vs C Q'->QE K F H Q Q'->r x xs H Q
def Zbv (K:WY)(r:V->Hp->VK->Prop)(w:T->Hw->WK->Prop):Prop:=∀(F H:Hp) (C:Hw) (x:V) (v:T) (Q:VK) (Q':WK),Rl K F H C->Jr K H x v->w v C Q'->QE K F H Q Q'->r x H Q
def Ji (X:Cx)(e:WW)(w:WE):Prop:=∃t,PE X e t/\W3 X.K t w
def uh (X:Cx)(e:WW)(w:WT):Prop:=∃t,PT X e t/\Mm X.K t w
def eI (X:Cx)(e:WW)(w:WT):Prop:=∃t,PW X e t/\Mm X.K t w
def yw (X:Cx)(es:List WW)(w:WA):Prop:=∃t,PA X es t/\wY X.K t w
def Mo (X:Cx)(f:WQ->WQ->Sem WQ)(w:W2):Prop:=∃r,Ot X f r/\oF X.K r w
def Zds (X:Cx)(w:W2):Prop:=∃r,oV X r/\oF X.K r w
def Km (X:Cx)(f:WQ)(w:List T->Hw->WK->Prop):Prop:=∃r,Vl X f r/\ae X.K r w
def iq (X:Cx)(id:String)(w:T->List T->Hw->WK->Prop):Prop:=∃r,ak X id r/\Zbw X.K r w
section
variable {K:WY}{ta tb tc:TE}{wa wb wc:WE}{r r':R2}{w w':W2}
def ca:W3 K (d0 i) (Z6 i):=λF H C σ τ Q Q' χ R S h q=>by
 obtain⟨v,e,h⟩:=h;obtain⟨x,ex,rx⟩:=S.2 i v e;exact⟨x,ex,q x v H C R (Tx.refl H) rx h⟩
def cr (h:∀H,Jr K H x v):W3 K (tC x) (eC v):=λF H C σ τ Q Q' χ R S w q=>q x v H C R (Tx.refl H) (h H) w
def nJ (ha:W3 K ta wa)(hb:W3 K tb wb)(hr:oF K r w):W3 K (dE r ta tb) (Y1 w wa wb):=λF H C σ τ Q Q' χ R S h q=>by
 refine ha F H C σ τ _ _ χ R S h λx v H1 C1 R1 t1 rx h1=>?_;refine hb F H1 C1 σ τ _ _ χ R1 (S.tx t1) h1 λy u H2 C2 R2 t2 ry h2=>?_;exact hr F H2 C2 x y v u Q Q' R2 (rx.tx t2) ry h2 (QE.at q (t1.trans t2))
def Zaa {r:V->Hp->VK->Prop}{w:T->Hw->WK->Prop}(ha:W3 K ta wa)(hr:Zbv K r w):W3 K (Zb9 r ta) (Za9 w wa):=λF H C σ τ Q Q' χ R S h q=>by
 refine ha F H C σ τ _ _ χ R S h λx v H1 C1 R1 t1 rx h1=>?_;exact hr F H1 C1 x v Q Q' R1 rx h1 (QE.at q t1)
def cj:wY K sU Zy:=λF H C σ τ Q Q' χ R S h q=>q [] [] H C R (Tx.refl H) Jc h
def iS (ha:W3 K ta wa)(hb:wY K t wt):wY K (sW ta t) (Yb wa wt):=λF H C σ τ Q Q' χ R S h q=>by
 refine ha F H C σ τ _ _ χ R S h λx v H1 C1 R1 t1 rx h1=>?_;exact hb F H1 C1 σ τ _ _ χ R1 (S.tx t1) h1 λxs vs H2 C2 R2 t2 rs h2=>q (x::xs) (v::vs) H2 C2 R2 (t1.trans t2) (Yn (rx.tx t2) rs) h2
def cb (ha:wY K t wt):W3 K (d7 t) (Dh wt):=λF H C σ τ Q Q' χ R S h q=>by
 refine ha F H C σ τ _ _ χ R S h λxs vs H1 C1 R1 t1 rs h1=>⟨by rw[rs.length];exact h1.1,λp hp=>?_⟩;exact q _ _ _ C1 (R1.hid hp) (t1.trans (Tx.new hp)) (Xq (U8.of Yq) (rs.tx (Tx.new hp))) h1.2
def cm (ha:wY K t wt):W3 K (dJ t) (wJ wt):=λF H C σ τ Q Q' χ R S h q=>by
 refine ha F H C σ τ _ _ χ R S h λxs vs H1 C1 R1 t1 rs h1=>⟨by rw[rs.length];exact h1.1,λp hp=>?_⟩;exact q _ _ _ _ (R1.newL hp rs) (t1.trans (Tx.new hp)) Jm (h1.2 p (R1.free hp))
def cv {r:List V->Hp->VK->Prop}{w:List T->Hw->WK->Prop}(hr:ae K r w)(ha:wY K t wt):W3 K (aW r t) (kW w wt):=λF H C σ τ Q Q' χ R S h q=>by
 refine ha F H C σ τ _ _ χ R S h λxs vs H1 C1 R1 t1 rs h1=>?_;exact hr F H1 C1 xs vs Q Q' R1 rs h1 (QE.at q t1)
def Zad (hc:Mm K tt wt)(ha:W3 K ta wa)(hb:W3 K tb wb):W3 K (Zcc tt ta tb) (eR wt wa wb):=λF H C σ τ Q Q' χ R S h q=>by
 refine hc F H C σ τ _ _ χ R S h λk H1 C1 R1 t1 h1=>?_
 cases k with
 | true=>exact ha F H1 C1 σ τ Q Q' χ R1 (S.tx t1) h1 (QE.at q t1)
 | false=>exact hb F H1 C1 σ τ Q Q' χ R1 (S.tx t1) h1 (QE.at q t1)
def cw (ha:W3 K ta wa)(hb:W3 K tb wb):W3 K (kC ta tb) (fD wa wb):=λF H C σ τ Q Q' χ R S h q=>by
 refine ha F H C σ τ _ _ χ R S h λx v H1 C1 R1 t1 rx h1=>?_;obtain⟨k,rfl,h1⟩:=h1;refine⟨k,Sq rx,?_⟩
 cases k with
 | true=>exact hb F H1 C1 σ τ Q Q' χ R1 (S.tx t1) h1 (QE.at q t1)
 | false=>exact q _ _ H1 C1 R1 t1 Y8 h1
def Zab (ha:W3 K ta wa)(hb:W3 K tb wb):W3 K (dC ta tb) (Zba wa wb):=λF H C σ τ Q Q' χ R S h q=>by
 refine ha F H C σ τ _ _ χ R S h λx v H1 C1 R1 t1 rx h1=>?_;obtain⟨k,rfl,h1⟩:=h1;refine⟨k,Sq rx,?_⟩
 cases k with
 | true=>exact q _ _ H1 C1 R1 t1 Y8 h1
 | false=>exact hb F H1 C1 σ τ Q Q' χ R1 (S.tx t1) h1 (QE.at q t1)
def nV (ha:W3 K ta wa)(hb:W3 K tb wb)(hc:W3 K tc wc)(hr:oF K r w)(hr':oF K r' w'):W3 K (sX r r' ta tb tc) (wM w w' wa wb wc):=λF H C σ τ Q Q' χ R S h q=>by
 refine ha F H C σ τ _ _ χ R S h λx v H1 C1 R1 t1 rx h1=>?_;refine hb F H1 C1 σ τ _ _ χ R1 (S.tx t1) h1 λy u H2 C2 R2 t2 ry h2=>?_;refine hr F H2 C2 x y v u _ _ R2 (rx.tx t2) ry h2 λz z' H3 C3 R3 t3 rz h3=>?_;obtain⟨k,rfl,h3⟩:=h3;refine⟨k,Sq rz,?_⟩
 cases k with
 | true=>
  refine hc F H3 C3 σ τ _ _ χ R3 (S.tx ((t1.trans t2).trans t3)) h3 λa b H4 C4 R4 t4 rb h4=>?_;exact hr' F H4 C4 y a u b Q Q' R4 ((ry.tx t3).tx t4) rb h4 (QE.at q (((t1.trans t2).trans t3).trans t4))
 | false=>exact q _ _ H3 C3 R3 ((t1.trans t2).trans t3) Y8 h3
def cu (ha:W3 K ta wa):Mm K (sR ta) (O4 wa):=λF H C σ τ Q Q' χ R S h q=>by
 refine ha F H C σ τ _ _ χ R S h λx v H1 C1 R1 t1 rx h1=>?_;obtain⟨k,rfl,h1⟩:=h1;exact⟨k,Sq rx,q k H1 C1 R1 t1 h1⟩
def ce (ha:W3 K ta wa):Mm K (λσ H Q=>ta σ H λx H'=>∃k,eE K x H' k/\Q k H') (iG wa):=λF H C σ τ Q Q' χ R S h q=>by
 refine ha F H C σ τ _ _ χ R S h λx v H1 C1 R1 t1 rx h1=>?_;obtain⟨k,hk,h1⟩:=h1;refine⟨k,?_,q k H1 C1 R1 t1 h1⟩;have emp:∀{ys:List V} {xs:List T},Reps K H1 ys xs->ys.isEmpty=xs.isEmpty:=λ{ys xs} r=>by
  have:=r.length
  cases ys<;>cases xs<;>simp_all
 cases v with
 | non=>cases R7 rx;exact hk
 | bl b=>cases Sq rx;exact hk
 | int i=>cases Ye rx;exact hk
 | str z=>cases Jo rx;exact hk
 | tup xs=>
  obtain⟨a,ys,rfl,hq,r⟩:=Yp rx;refine .inr (.inl ⟨ys,hq,?_⟩);rw[emp r];exact hk
 | cl xs=>
  obtain⟨a,ys,rfl,hq,r⟩:=Pb rx;refine .inl ⟨ys,hq.sq,?_⟩;rw[emp r];exact hk
 | ref a=>
  cases Z7 rx
  rcases hk with⟨xs,hx,e⟩ | ⟨kvs,hx,e⟩
  ·obtain⟨ys,hy,r⟩:=R1.lst hx;refine .inl ⟨ys,Ws.of hy,?_⟩;rw[emp r];exact e
  ·obtain⟨ks,hy,r⟩:=R1.obj a _ hx;refine .inr (.inr ⟨ks,hy,?_⟩);have:=Paired.length r;rw[e]
   cases ks<;>cases kvs<;>simp_all
def Zae {w w':WT}(ha:Mm K t w)(hb:Mm K u w'):Mm K (dU t u) (ay w w'):=λF H C σ τ Q Q' χ R S h q=>by
 refine ha F H C σ τ _ _ χ R S h λk H1 C1 R1 t1 h1=>?_
 cases k with
 | true=>exact hb F H1 C1 σ τ Q Q' χ R1 (S.tx t1) h1 λb H' C' R' t'=>q b H' C' R' (t1.trans t')
 | false=>exact q _ H1 C1 R1 t1 h1
def ci {w w':WT}(ha:Mm K t w)(hb:Mm K u w'):Mm K (Zca t u) (sT w w'):=λF H C σ τ Q Q' χ R S h q=>by
 refine ha F H C σ τ _ _ χ R S h λk H1 C1 R1 t1 h1=>?_
 cases k with
 | true=>exact q _ H1 C1 R1 t1 h1
 | false=>exact hb F H1 C1 σ τ Q Q' χ R1 (S.tx t1) h1 λb H' C' R' t'=>q b H' C' R' (t1.trans t')
def Zac {w:WT}(ha:Mm K t w):Mm K (dF t) (aQ w):=λF H C σ τ Q Q' χ R S h q=>by
 refine ha F H C σ τ _ _ χ R S h λk H1 C1 R1 t1 h1=>?_;exact q _ H1 C1 R1 t1 h1
end
section
variable {X:Cx}
set_option tactic.hygienic true
def Jj:Mo X (binaryOp .Add) i9:=⟨_,gF.or (xS.or (gE.or (qw.or mK))),λF H C x y v u Q Q' R rx ry h q=>by
 cases v<;>cases u<;>first | exact False.elim h | skip
 case int.int i j=>cases Ye rx;cases Ye ry;exact .inl ⟨i,j,FQ,FQ,q _ _ H C R (Tx.refl H) Jn h⟩
 case str.str i j=>cases Jo rx;cases Jo ry;exact .inr (.inl ⟨i,j,FQ,FQ,h.1,q _ _ H C R (Tx.refl H) Jw h.2⟩)
 case ref.ref a b=>
  cases Z7 rx;cases Z7 ry
  obtain⟨xs,ys,ha,hb,hl,h⟩:=h;obtain⟨zs,hz,rz⟩:=R.lst ha;obtain⟨ws,hw,rw'⟩:=R.lst hb;exact .inr (.inr (.inl ⟨a,b,zs,ws,FQ,FQ,hz,hw,by rw[rz.length,rw'.length];exact hl,λp hp=>q _ _ _ _ (R.newL hp (rz.app rw')) (Tx.new hp) Jm (h p (R.free hp))⟩))
 case tup.tup xs ys=>
  obtain⟨a,zs,rfl,hz,rz⟩:=Yp rx;obtain⟨b,ws,rfl,hw,rw'⟩:=Yp ry;by_cases e:zs=[]
  ·subst e;have e2:xs=[]:=by
    have:=rz.length
    cases xs with
    | nil=>rfl
    | cons _ _=>cases this
   subst e2;exact .inr (.inr (.inr (.inl ⟨a,b,ws,FQ,FQ,hz,hw,q _ _ H C R (Tx.refl H) (Xq hw rw') h.2⟩)))
  ·refine .inr (.inr (.inr (.inr ⟨a,b,zs,ws,FQ,FQ,hz,hw,e,by rw[rz.length,rw'.length];exact h.1,λe2=>?_,λe2 p hp=>?_⟩)))
   ·subst e2;have e3:ys=[]:=by
     have:=rw'.length
     cases ys with
     | nil=>rfl
     | cons _ _=>cases this
    subst e3;refine q _ _ H C R (Tx.refl H) (Xq hz rz) ?_;have:=h.2;rw[YK] at this;exact this
   ·exact q _ _ _ C (R.hid hp) (Tx.new hp) (Xq (U8.of Yq) ((rz.app rw').tx (Tx.new hp))) h.2⟩
def Jt:Mo X (binaryOp .Sub) Wp:=⟨_,g9,λF H C x y v u Q Q' R rx ry h q=>by
 cases v<;>cases u<;>first | exact False.elim h | skip
 case int.int i j=>cases Ye rx;cases Ye ry;exact⟨i,j,FQ,FQ,q _ _ H C R (Tx.refl H) Jn h⟩⟩
def O9:Mo X (binaryOp .Mult) dk:=⟨_,gB,λF H C x y v u Q Q' R rx ry h q=>by
 cases v<;>cases u<;>first | exact False.elim h | skip
 case int.int i j=>cases Ye rx;cases Ye ry;exact⟨i,j,FQ,FQ,h.1,q _ _ H C R (Tx.refl H) Jn h.2⟩⟩
def Xa:Mo X (binaryOp .FloorDiv) i8:=⟨_,mJ,λF H C x y v u Q Q' R rx ry h q=>by
 cases v<;>cases u<;>first | exact False.elim h | skip
 case int.int i j=>cases Ye rx;cases Ye ry;exact⟨i,j,FQ,FQ,h.1,q _ _ H C R (Tx.refl H) Jn h.2⟩⟩
def Yj:Mo X (binaryOp .Mod) dq:=⟨_,gC,λF H C x y v u Q Q' R rx ry h q=>by
 cases v<;>cases u<;>first | exact False.elim h | skip
 case int.int i j=>cases Ye rx;cases Ye ry;exact⟨i,j,FQ,FQ,h.1,q _ _ H C R (Tx.refl H) Jn h.2⟩⟩
def je:Mo X (binaryOp .Pow) dh:=⟨_,gA,λF H C x y v u Q Q' R rx ry h q=>by
 cases v<;>cases u<;>first | exact False.elim h | skip
 case int.int i j=>cases Ye rx;cases Ye ry;exact⟨i,j,FQ,FQ,h.1,q _ _ H C R (Tx.refl H) Jn h.2⟩⟩
def z0:Mo X (compareOp .Lt) av:=⟨_,cR.or uH,λF H C x y v u Q Q' R rx ry h q=>by
 cases v<;>cases u<;>first | exact False.elim h | skip
 case int.int i j=>cases Ye rx;cases Ye ry;exact .inl ⟨i,j,FQ,FQ,q _ _ H C R (Tx.refl H) Y8 h⟩
 case str.str i j=>cases Jo rx;cases Jo ry;exact .inr ⟨i,j,FQ,FQ,q _ _ H C R (Tx.refl H) Y8 h⟩⟩
def Zaq:Mo X (compareOp .LtE) Zb3:=⟨_,cS,λF H C x y v u Q Q' R rx ry h q=>by
 cases v<;>cases u<;>first | exact False.elim h | skip
 case int.int i j=>cases Ye rx;cases Ye ry;exact⟨i,j,FQ,FQ,q _ _ H C R (Tx.refl H) Y8 h⟩⟩
def xU:Mo X (compareOp .Gt) Zb5:=⟨_,cT,λF H C x y v u Q Q' R rx ry h q=>by
 cases v<;>cases u<;>first | exact False.elim h | skip
 case int.int i j=>cases Ye rx;cases Ye ry;exact⟨i,j,FQ,FQ,q _ _ H C R (Tx.refl H) Y8 h⟩⟩
def Zas:Mo X (compareOp .GtE) aL:=⟨_,cU,λF H C x y v u Q Q' R rx ry h q=>by
 cases v<;>cases u<;>first | exact False.elim h | skip
 case int.int i j=>cases Ye rx;cases Ye ry;exact⟨i,j,FQ,FQ,q _ _ H C R (Tx.refl H) Y8 h⟩⟩
set_option tactic.hygienic false
def Zam (X:Cx)(f:WQ->WQ->Sem WQ):R2:=λx y H Q=>∀(WZ:List (WP×Obj)) (s:WR) (σ:L2.St) (v u:WQ),Z2 X WZ σ H s->Yg x v->Yg y u->wpAny (model X.prog X.w) X.A (f v u) (EP X WZ σ Q) X.xe s
def Et {f:WQ->WQ->Sem WQ}:Ot X f (Zam X f):=λWZ s σ H x y v u Q I rx ry h=>h WZ s σ v u I rx ry
def jw {A:WM}{n:Nat}(I:Z2 X WZ σ H s)(r:Reps X.K H ys ts)(r':Reps X.K H zs us)(rI:Yf ys its)(rI':Yf zs its')
  (f:Jv ts n=true) (f':Jv us n=true) (hu:A.units+n<cLine):
  ∀j (h1:j<its.toArray.size) (h2:j<its'.toArray.size),SeqAt.EqAt A s its.toArray[j] its'.toArray[j] (oS ts us j):=λj h1 h2=>by
 have l1:its.toArray.size=ts.length:=by rw[XJ,<-rI.length,r.length]
 have l2:its'.toArray.size=us.length:=by rw[XJ,<-rI'.length,r'.length]
 have i1:ts[j]?=some (ts[j]'(by omega)):=by simp[l1▸h1]
 have i2:us[j]?=some (us[j]'(by omega)):=by simp[l2▸h2]
 obtain⟨x1,g1,q1⟩:=r.get i1;obtain⟨x2,g2,q2⟩:=r'.get i2;obtain⟨u1,k1,z1⟩:=rI.get g1;obtain⟨u2,k2,z2⟩:=rI'.get g2;have e1:its.toArray[j]=u1:=by
  have:its[j]?=some its.toArray[j]:=by simp
  rw[k1] at this;exact(YH this).symm
 have e2:its'.toArray[j]=u2:=by
  have:its'[j]?=some its'.toArray[j]:=by simp
  rw[k2] at this;exact(YH this).symm
 rw[e1,e2];unfold oS;simp only[i1,i2];exact jK I n (Wm f i1) (Wm f' i2) q1 q2 z1 z2 hu
def pM {vs ws:List T}(h:vs.length≠ws.length):Tc vs ws=false:=by
 rw[<-Ux,show(vs.length==ws.length)=false from beq_eq_false_iff_ne.mpr h,Bool.and_false]
def t0 {vs ws:List T}(h:vs.length=ws.length):(List.range vs.length).all (oS vs ws)=Tc vs ws:=by
 rw[<-Ux,h,Nat.min_self,XU,Bool.and_true]
def Zah {u u':WQ}{A:WM}(I:Z2 X WZ σ H s)(fv:J8 v n=true)(fw:J8 w n=true)(rv:Jr X.K H x v)(rw':Jr X.K H y w)
  (ru:Yg x u) (ru':Yg y u') (hu:A.units+n+1<cLine):SeqAt.RcAt A s u u' (eqT v w)/\SeqAt.RcNeAt A s u u' (!eqT v w):=by
 have hu0:A.units<cLine:=by omega
 cases ev:sc v with
 | some a=>
  obtain⟨rfl,f1⟩:=W8 ev rv
  cases ew:sc w with
  | some b=>
   obtain⟨rfl,f2⟩:=W8 ew rw'
   cases v with
   | non=>
    cases ev;cases ru
    cases w with
    | non=>cases ew;cases ru';unfold eqT;exact⟨.none_none,.none_none⟩
    | bl c=>cases ew;cases ru';unfold eqT;exact⟨.none_bool c,.none_bool c⟩
    | int c=>cases ew;obtain⟨t,rfl⟩:=ru';unfold eqT;exact⟨.none_int c t,.none_int c t⟩
    | str c=>cases ew;obtain⟨t,rfl⟩:=ru';unfold eqT;exact⟨.none_str c t,.none_str c t⟩
    | _=>cases ew
   | bl d=>
    cases ev;cases ru
    cases w with
    | non=>cases ew;cases ru';unfold eqT;exact⟨.bool_none d,.bool_none d⟩
    | bl c=>cases ew;cases ru';unfold eqT;exact⟨.bool_bool d c,.bool_bool d c⟩
    | int c=>cases ew;obtain⟨t,rfl⟩:=ru';unfold eqT;exact⟨.bool_int d c t,.bool_int d c t⟩
    | str c=>cases ew;obtain⟨t,rfl⟩:=ru';unfold eqT;exact⟨.bool_str d c t,.bool_str d c t⟩
    | _=>cases ew
   | int d=>
    cases ev;obtain⟨t',rfl⟩:=ru
    cases w with
    | non=>cases ew;cases ru';unfold eqT;exact⟨.int_none d t',.int_none d t'⟩
    | bl c=>cases ew;cases ru';unfold eqT;exact⟨.int_bool d t' c,.int_bool d t' c⟩
    | int c=>cases ew;obtain⟨t,rfl⟩:=ru';unfold eqT;exact⟨.int_int d t' c t,.int_int d t' c t⟩
    | str c=>cases ew;obtain⟨t,rfl⟩:=ru';unfold eqT;exact⟨.int_str d t' c t,.int_str d t' c t⟩
    | _=>cases ew
   | str d=>
    cases ev;obtain⟨t',rfl⟩:=ru
    cases w with
    | non=>cases ew;cases ru';unfold eqT;exact⟨.str_none d t',.str_none d t'⟩
    | bl c=>cases ew;cases ru';unfold eqT;exact⟨.str_bool d t' c,.str_bool d t' c⟩
    | int c=>cases ew;obtain⟨t,rfl⟩:=ru';unfold eqT;exact⟨.str_int d t' c t,.str_int d t' c t⟩
    | str c=>cases ew;obtain⟨t,rfl⟩:=ru';unfold eqT;exact⟨.str_str d t' c t,.str_str d t' c t⟩
    | _=>cases ew
   | _=>cases ev
  | none=>
   obtain⟨ts,m,rfl,em,ft⟩:=Xp fw ew;obtain⟨b,zs,rfl,hq,r⟩:=Yp rw'
   cases ru'
   obtain⟨its,_,p,_⟩:=I.tuple hq
   cases v with
   | non=>cases ev;cases ru;unfold eqT;exact⟨.none_tuple p hu0,.none_tuple p hu0⟩
   | bl c=>cases ev;cases ru;unfold eqT;exact⟨.bool_tuple c p hu0,.bool_tuple c p hu0⟩
   | int i=>cases ev;obtain⟨t,rfl⟩:=ru;unfold eqT;exact⟨.int_tuple i t p hu0,.int_tuple i t p hu0⟩
   | str i=>cases ev;obtain⟨t,rfl⟩:=ru;unfold eqT;exact⟨.str_tuple i t p hu0,.str_tuple i t p hu0⟩
   | _=>cases ev
 | none=>
  obtain⟨ts,m,rfl,em,ft⟩:=Xp fv ev;subst em;obtain⟨a,ys,rfl,hq,r⟩:=Yp rv
  cases ru
  obtain⟨its,rI,p,_⟩:=I.tuple hq
  cases ew:sc w with
  | some b=>
   obtain⟨rfl,f2⟩:=W8 ew rw'
   cases w with
   | non=>cases ew;cases ru';unfold eqT;exact⟨.tuple_none p hu0,.tuple_none p hu0⟩
   | bl c=>cases ew;cases ru';unfold eqT;exact⟨.tuple_bool c p hu0,.tuple_bool c p hu0⟩
   | int i=>cases ew;obtain⟨t,rfl⟩:=ru';unfold eqT;exact⟨.tuple_int i t p hu0,.tuple_int i t p hu0⟩
   | str i=>cases ew;obtain⟨t,rfl⟩:=ru';unfold eqT;exact⟨.tuple_str i t p hu0,.tuple_str i t p hu0⟩
   | _=>cases ew
  | none=>
   obtain⟨us,m',rfl,em,fu⟩:=Xp fw ew
   cases em
   obtain⟨b,zs,rfl,hq',r'⟩:=Yp rw'
   cases ru'
   obtain⟨its',rI',p',_⟩:=I.tuple hq';have l1:its.toArray.size=ts.length:=by rw[XJ,<-rI.length,r.length]
   have l2:its'.toArray.size=us.length:=by rw[XJ,<-rI'.length,r'.length]
   have hi:=jw (A:=A.in1) I r r' rI rI' ft fu (by show A.units+1+m<cLine;omega);have k1:=SeqAt.RcAt.tuples (A:=A) p p' hu0 hi;have k2:=SeqAt.RcNeAt.tuples (A:=A) p p' hu0 hi;rw[l1,l2,Ux] at k1 k2;unfold eqT;exact⟨k1,k2⟩
def vE {A:WM}{a:WP}{its:List WQ}(I:Z2 X WZ σ H s)(fw:J8 w n=true)(rw':Jr X.K H y w)(ru':Yg y u')(hu0:A.units<cLine)
  (p:s.heap.IsList a its.toArray):(SeqAt.RcAt A s (.ref a) u' false/\SeqAt.RcNeAt A s (.ref a) u' true)/\(SeqAt.RcAt A s u' (.ref a) false/\SeqAt.RcNeAt A s u' (.ref a) true):=by
 cases w with
 | non=>cases R7 rw';cases ru';exact⟨⟨.list_none p hu0,.list_none p hu0⟩,.none_list p hu0,.none_list p hu0⟩
 | bl c=>cases Sq rw';cases ru';exact⟨⟨.list_bool c p hu0,.list_bool c p hu0⟩,.bool_list c p hu0,.bool_list c p hu0⟩
 | int c=>cases Ye rw';obtain⟨t,rfl⟩:=ru';exact⟨⟨.list_int c t p hu0,.list_int c t p hu0⟩,.int_list c t p hu0,.int_list c t p hu0⟩
 | str c=>cases Jo rw';obtain⟨t,rfl⟩:=ru';exact⟨⟨.list_str c t p hu0,.list_str c t p hu0⟩,.str_list c t p hu0,.str_list c t p hu0⟩
 | tup ts=>
  obtain⟨b,zs,rfl,hq,r⟩:=Yp rw'
  cases ru'
  obtain⟨its',_,p',_⟩:=I.tuple hq;exact⟨⟨.list_tuple p p' hu0,.list_tuple p p' hu0⟩,.tuple_list p' p hu0,.tuple_list p' p hu0⟩
 | ref b=>unfold J8 at fw;cases fw
 | cl b=>unfold J8 at fw;cases fw
def kK (neg:Bool)(hu:X.A.units+150<cLine):Mo X (compareOp (if neg then .NotEq else .Eq)) (Fy neg):=⟨_,Et,λF H C x y v u Q Q' R rx ry h q WZ s σ v' u' I r1 r2=>by
 have fin:∀{k:Bool},SeqAt.RcAt X.A s v' u' k/\SeqAt.RcNeAt X.A s v' u' (!k)->Q (.bl (if neg then !k else k)) H->wpAny (model X.prog X.w) X.A (compareOp (if neg then .NotEq else .Eq) v' u') (EP X WZ σ Q) X.xe s:=λ{k} e hq=>by
  cases neg with
  | true=>exact EqBoolInt.of_rcne e.2 ⟨.bl (!k),H,I,FQ,hq⟩
  | false=>exact EqBoolInt.of_rc e.1 ⟨.bl k,H,I,FQ,hq⟩
 have two:∀{v u:T},Jr X.K H x v->Jr X.K H y u->Y9 v/\Y9 u/\Q' (.bl (if neg then !eqT v u else eqT v u)) C->wpAny (model X.prog X.w) X.A (compareOp (if neg then .NotEq else .Eq) v' u') (EP X WZ σ Q) X.xe s:=λ{v u} rx ry h=>
  fin (Zah I h.1 h.2.1 rx ry r1 r2 (show X.A.units+100+1<cLine by omega)) (q _ _ H C R (Tx.refl H) Y8 h.2.2)
 have hn:(if neg then !false else false)=neg:=by cases neg<;>rfl
 have lft:∀{a:WP} {u:T},v'=.ref a->Jr X.K H y u->(∃xs,C a=some (.lst xs))/\Y9 u/\Q' (.bl neg) C->wpAny (model X.prog X.w) X.A (compareOp (if neg then .NotEq else .Eq) v' u') (EP X WZ σ Q) X.xe s:=λ{a u} ev ry h=>by
  obtain⟨⟨xs,hx⟩,f,hq⟩:=h;obtain⟨ys,hy,r⟩:=R.lst hx;obtain⟨its,_,p,_⟩:=I.list (Ws.of hy);have z:=(vE (A:=X.A) I f ry r2 (by omega) p.isList).1;subst ev;refine fin (k:=false) z ?_;rw[hn];exact q _ _ H C R (Tx.refl H) Y8 hq
 have rgt:∀{b:WP} {v:T},u'=.ref b->Jr X.K H x v->(∃xs,C b=some (.lst xs))/\Y9 v/\Q' (.bl neg) C->wpAny (model X.prog X.w) X.A (compareOp (if neg then .NotEq else .Eq) v' u') (EP X WZ σ Q) X.xe s:=λ{b v} eu rx h=>by
  obtain⟨⟨xs,hx⟩,f,hq⟩:=h;obtain⟨ys,hy,r⟩:=R.lst hx;obtain⟨its,_,p,_⟩:=I.list (Ws.of hy);have z:=(vE (A:=X.A) I f rx r1 (by omega) p.isList).2;subst eu;refine fin (k:=false) z ?_;rw[hn];exact q _ _ H C R (Tx.refl H) Y8 hq
 cases v with
 | ref a=>
  have ev:v'=.ref a:=by cases Z7 rx;exact r1
  cases u with
  | ref b=>
   have eu:u'=.ref b:=by cases Z7 ry;exact r2
   obtain⟨xs,ys,ha,hb,hf,hq⟩:=h;obtain⟨zs,hz,rz⟩:=R.lst ha;obtain⟨ws,hw,rw'⟩:=R.lst hb;obtain⟨its,rI,p,_⟩:=I.list (Ws.of hz);obtain⟨its',rI',p',_⟩:=I.list (Ws.of hw);have l1:its.toArray.size=xs.length:=by rw[XJ,<-rI.length,rz.length]
   have l2:its'.toArray.size=ys.length:=by rw[XJ,<-rI'.length,rw'.length]
   subst ev;subst eu;refine fin ?_ (q _ _ H C R (Tx.refl H) Y8 hq);by_cases hl:xs.length=ys.length
   ·obtain⟨f1,f2⟩:=hf hl;have hi:=jw (A:=X.A.in1) I rz rw' rI rI' f1 f2 (by show X.A.units+1+100<cLine;omega);have k1:=SeqAt.RcAt.lists (A:=X.A) p.isList p'.isList (by rw[l1,l2,hl]) (by omega) hi;have k2:=SeqAt.RcNeAt.lists (A:=X.A) p.isList p'.isList (by rw[l1,l2,hl]) (by omega) hi;rw[l1,t0 hl] at k1 k2;exact⟨k1,k2⟩
   ·rw[pM hl];have hne:(its.toArray.size !=its'.toArray.size)=true:=by rw[l1,l2];exact bne_iff_ne.mpr hl
    exact⟨SeqAt.RcAt.lists_lengths p.isList p'.isList hne (by omega),SeqAt.RcNeAt.lists_lengths p.isList p'.isList hne (by omega)⟩
  | non=>exact lft ev ry h
  | bl b=>exact lft ev ry h
  | int b=>exact lft ev ry h
  | str b=>exact lft ev ry h
  | tup b=>exact lft ev ry h
  | cl b=>exact lft ev ry h
 | non=>
  cases u with
  | ref b=>exact rgt (by cases Z7 ry;exact r2) rx h
  | _=>exact two rx ry h
 | bl _=>
  cases u with
  | ref b=>exact rgt (by cases Z7 ry;exact r2) rx h
  | _=>exact two rx ry h
 | int _=>
  cases u with
  | ref b=>exact rgt (by cases Z7 ry;exact r2) rx h
  | _=>exact two rx ry h
 | str _=>
  cases u with
  | ref b=>exact rgt (by cases Z7 ry;exact r2) rx h
  | _=>exact two rx ry h
 | tup _=>
  cases u with
  | ref b=>exact rgt (by cases Z7 ry;exact r2) rx h
  | _=>exact two rx ry h
 | cl _=>
  cases u with
  | ref b=>exact rgt (by cases Z7 ry;exact r2) rx h
  | _=>exact two rx ry h⟩
def Z3 (hu:X.A.units+150<cLine):Mo X (compareOp .Eq) Hk:=kK false hu
def mQ (hu:X.A.units+150<cLine):Mo X (compareOp .NotEq) kA:=kK true hu
def Ho:Mo X (compareOp .Is) sG:=⟨_,gD,λF H C x y v u Q Q' R rx ry h q=>by
 obtain⟨rfl,h⟩:=h;refine⟨R7 ry,?_⟩;have z:=q (.bl _) _ H C R (Tx.refl H) Y8 h
 cases v with
 | non=>cases R7 rx;exact z
 | bl _=>cases Sq rx;exact z
 | int _=>cases Ye rx;exact z
 | str _=>cases Jo rx;exact z
 | ref _=>cases Z7 rx;exact z
 | tup _=>obtain⟨a,ys,rfl,_⟩:=Yp rx;exact z
 | cl _=>obtain⟨a,ys,rfl,_⟩:=Pb rx;exact z⟩
def qD:Mo X (compareOp .IsNot) sE:=⟨_,mI,λF H C x y v u Q Q' R rx ry h q=>by
 obtain⟨rfl,h⟩:=h;refine⟨R7 ry,?_⟩;have z:=q (.bl _) _ H C R (Tx.refl H) Y8 h
 cases v with
 | non=>cases R7 rx;exact z
 | bl _=>cases Sq rx;exact z
 | int _=>cases Ye rx;exact z
 | str _=>cases Jo rx;exact z
 | ref _=>cases Z7 rx;exact z
 | tup _=>obtain⟨a,ys,rfl,_⟩:=Yp rx;exact z
 | cl _=>obtain⟨a,ys,rfl,_⟩:=Pb rx;exact z⟩
open Classical in
noncomputable def eqAns (v:T) (us:List WQ) (ts:List T) (u:WQ):Bool:=match (us.zip ts).find? λp=>decide (p.1=u) with
 | some p=>eqT p.2 v
 | none=>false
open Classical in
def jL {v:T}(I:Z2 X WZ σ H s)(r:Reps X.K H ys ts)(rI:Yf ys us)(f:Jv ts n=true){j:Nat}(hu:us[j]?=some u)(ht:ts[j]?=some t):
  eqAns v us ts u=eqT t v:=by
 unfold eqAns;have hm:(u,t)∈us.zip ts:=by
  refine DV.mpr ⟨j,?_⟩;rw[DI];exact⟨hu,ht⟩
 cases e:(us.zip ts).find? λp=>decide (p.1=u) with
 | none=>
  have:=DD.mp e (u,t) hm;simp at this
 | some p=>
  have h1:=List.find?_some e;have h2:=EC e;simp only[decide_eq_true_eq] at h1;obtain⟨i,hi⟩:=DV.mp h2;obtain⟨g1,g2⟩:=DI.mp hi;obtain⟨x1,k1,q1⟩:=r.get g2;obtain⟨x2,k2,q2⟩:=r.get ht;obtain⟨u1,m1,z1⟩:=rI.get k1;obtain⟨u2,m2,z2⟩:=rI.get k2;rw[g1] at m1;cases m1;rw[hu] at m2;cases m2;rw[h1] at z1;have e2:=z1.inj z2;subst e2;show eqT p.2 v=eqT t v;rw[Gz I n (Wm f g2) (Wm f ht) q1 q2]
def ud (I:Z2 X WZ σ H s)(r:Reps X.K H ys ts)(rI:Yf ys us)(f:Jv ts n=true):us.any (eqAns v us ts)=Kn v ts:=by
 have hl:us.length=ts.length:=by rw[<-rI.length,r.length]
 have hat:∀j,us[j]?.map (eqAns v us ts)=ts[j]?.map λt=>eqT t v:=λj=>by
  by_cases hj:j<us.length
  ·have e1:us[j]?=some us[j]:=by simp[hj]
   have e2:ts[j]?=some (ts[j]'(by omega)):=by simp[hl▸hj]
   rw[e1,e2,Option.map_some,Option.map_some,jL I r rI f e1 e2]
  ·rw[CU (by omega),CU (by omega)];rfl
 have hm:us.map (eqAns v us ts)=ts.map λt=>eqT t v:=by
  refine EM λj=>?_;rw[XM,XM];exact hat j
 unfold Kn;have a1:us.any (eqAns v us ts)=(us.map (eqAns v us ts)).any id:=by rw[List.any_map];rfl
 have a2:(ts.any λy=>eqT y v)=(ts.map λt=>eqT t v).any id:=by rw[List.any_map];rfl
 rw[a1,a2,hm]
def kJ (neg:Bool)(hu:X.A.units+150<cLine):Mo X (compareOp (if neg then .NotIn else .In)) (nj neg):=⟨_,Et,λF H C x y v u Q Q' R rx ry h q WZ s σ v' u' I r1 r2=>by
 have sq:∀{p:WP} {ys:List V} {ts:List T},u'=.ref p->(Ws X.K H p ys\/U8 X.K H p ys)->Reps X.K H ys ts->Y9 v->Jv ts Sf=true->Q' (.bl (if neg then !Kn v ts else Kn v ts)) C->
   wpAny (model X.prog X.w) X.A (compareOp (if neg then .NotIn else .In) v' u') (EP X WZ σ Q) X.xe s:=λ{p ys ts} eu hq r fv ft hq'=>by
  subst eu;have at1:∀{its:List WQ},Yf ys its->∀w,w∈its.toArray->SeqAt.EqAt X.A.in1 s w v' (eqAns v its ts w):=λ{its} rI w hw=>by
   have hw':w∈its:=by simpa using hw
   obtain⟨j,hj⟩:=DV.mp hw';have hlt:j<its.length:=(BW.mp hj).1;have hl:its.length=ts.length:=by rw[<-rI.length,r.length]
   have e2:ts[j]?=some (ts[j]'(by omega)):=by simp[hl▸hlt]
   rw[jL I r rI ft hj e2];obtain⟨x2,k2,q2⟩:=r.get e2;obtain⟨u2,m2,z2⟩:=rI.get k2;rw[hj] at m2;cases m2;exact jK I 100 (Wm ft e2) fv q2 rx z2 r1 (by show X.A.units+1+100<cLine;omega)
  rcases hq with hq | hq
  ·obtain⟨its,rI,p,_⟩:=I.list hq;have e:its.toArray.any (eqAns v its ts)=Kn v ts:=by rw[<-ud I r rI ft];simp
   cases neg with
   | true=>refine SeqAt.notIn_listAt (eqAns v its ts) p.isList (at1 rI) ⟨.bl _,H,I,FQ,?_⟩;rw[e];exact q _ _ H C R (Tx.refl H) Y8 hq'
   | false=>refine SeqAt.in_listAt (eqAns v its ts) p.isList (at1 rI) ⟨.bl _,H,I,FQ,?_⟩;rw[e];exact q _ _ H C R (Tx.refl H) Y8 hq'
  ·obtain⟨its,rI,p,_⟩:=I.tuple hq;have e:its.toArray.any (eqAns v its ts)=Kn v ts:=by rw[<-ud I r rI ft];simp
   cases neg with
   | true=>refine SeqAt.notIn_tupleAt (eqAns v its ts) p (at1 rI) ⟨.bl _,H,I,FQ,?_⟩;rw[e];exact q _ _ H C R (Tx.refl H) Y8 hq'
   | false=>refine SeqAt.in_tupleAt (eqAns v its ts) p (at1 rI) ⟨.bl _,H,I,FQ,?_⟩;rw[e];exact q _ _ H C R (Tx.refl H) Y8 hq'
 have tpl:∀{ts:List T},Jr X.K H y (.tup ts)->Y9 v/\Jv ts Sf=true/\Q' (.bl (if neg then !Kn v ts else Kn v ts)) C->wpAny (model X.prog X.w) X.A (compareOp (if neg then .NotIn else .In) v' u') (EP X WZ σ Q) X.xe s:=λ{ts} ry h=>by
  obtain⟨a,ys,rfl,hq,r⟩:=Yp ry;exact sq r2 (.inr hq) r h.1 h.2.1 h.2.2
 have cls:∀{ts:List T},Jr X.K H y (.cl ts)->Y9 v/\Jv ts Sf=true/\Q' (.bl (if neg then !Kn v ts else Kn v ts)) C->wpAny (model X.prog X.w) X.A (compareOp (if neg then .NotIn else .In) v' u') (EP X WZ σ Q) X.xe s:=λ{ts} ry h=>by
  obtain⟨a,ys,rfl,hq,r⟩:=Pb ry;exact sq r2 (.inl hq.sq) r h.1 h.2.1 h.2.2
 have rf:∀{a:WP},Jr X.K H y (.ref a)->(∃ys,C a=some (.lst ys)/\Y9 v/\Jv ys Sf=true/\Q' (.bl (if neg then !Kn v ys else Kn v ys)) C)->wpAny (model X.prog X.w) X.A (compareOp (if neg then .NotIn else .In) v' u') (EP X WZ σ Q) X.xe s:=λ{a} ry h=>by
  obtain⟨ts,ht,h1,h2,h3⟩:=h;obtain⟨zs,hz,rz⟩:=R.lst ht
  cases Z7 ry
  exact sq r2 (.inl (Ws.of hz)) rz h1 h2 h3
 cases u with
 | tup ts=>cases v<;>exact tpl ry h
 | cl ts=>cases v<;>exact cls ry h
 | ref a=>cases v<;>exact rf ry h
 | str j=>
  cases v with
  | str i=>
   cases Jo rx;cases Jo ry
   obtain⟨t,rfl⟩:=r1;obtain⟨t',rfl⟩:=r2
   cases neg with
   | true=>exact notIn_str ⟨.bl _,H,I,FQ,q _ _ H C R (Tx.refl H) Y8 h⟩
   | false=>exact in_str ⟨.bl _,H,I,FQ,q _ _ H C R (Tx.refl H) Y8 h⟩
  | _=>exact False.elim h
 | non=>cases v<;>exact False.elim h
 | bl _=>cases v<;>exact False.elim h
 | int _=>cases v<;>exact False.elim h⟩
def uJ (hu:X.A.units+150<cLine):Mo X (compareOp .In) Zb4:=kJ false hu
def mO (hu:X.A.units+150<cLine):Mo X (compareOp .NotIn) sF:=kJ true hu
set_option tactic.hygienic true
def Zar:Zds X Tz:=⟨_,fe,λF H C x y v u Q Q' R rx ry h q=>by
 cases v<;>cases u<;>first | exact False.elim h | skip
 case tup.int xs i=>
  obtain⟨a,ys,rfl,hq,r⟩:=Yp rx
  cases Ye ry
  obtain⟨v,hv,h⟩:=h;obtain⟨z,hz,rz⟩:=r.at hv;exact .inr (.inl ⟨a,ys,i,z,FQ,FQ,hq,hz,q _ _ H C R (Tx.refl H) rz h⟩)
 case cl.int xs i=>
  obtain⟨a,ys,rfl,hq,r⟩:=Pb rx
  cases Ye ry
  obtain⟨v,hv,h⟩:=h;obtain⟨z,hz,rz⟩:=r.at hv;exact .inl ⟨a,ys,i,z,FQ,FQ,hq.sq,hz,q _ _ H C R (Tx.refl H) rz h⟩
 case ref.int a i=>
  cases Z7 rx
  cases Ye ry
  obtain⟨xs,v,hx,hv,h⟩:=h;obtain⟨ys,hy,r⟩:=R.lst hx;obtain⟨z,hz,rz⟩:=r.at hv;exact .inl ⟨a,ys,i,z,FQ,FQ,Ws.of hy,hz,q _ _ H C R (Tx.refl H) rz h⟩
 case str.int z i=>
  cases Jo rx
  cases Ye ry
  obtain⟨hl,c,hc,h⟩:=h;exact .inr (.inr ⟨z,i,c,FQ,FQ,hl,hc,q _ _ H C R (Tx.refl H) Jw h⟩)⟩
set_option tactic.hygienic false
def Zdn (X:Cx)(w:T->Option Int->Option Int->Hw->WK->Prop):Prop:=∃r,kq X r/\∀(F H:Hp) (C:Hw) (x:V) (v:T) (lo hi:Option Int) (Q:VK) (Q':WK),Rl X.K F H C->Jr X.K H x v->w v lo hi C Q'->QE X.K F H Q Q'->r x lo hi H Q
def Do {K:WY}(r:Reps K H ys xs)(lo hi:Option Int):Reps K H (jQ ys lo hi) (As xs lo hi):=by
 unfold jQ As;rw[r.length];exact(r.drop _).take _
def Zap:Zdn X aJ:=⟨_,iL.or (nC.or iM),λF H C x v lo hi Q Q' R rx h q=>by
 cases v with
 | tup xs=>
  obtain⟨a,ys,rfl,hq,r⟩:=Yp rx;exact .inl ⟨a,ys,FQ,hq,by rw[r.length];exact h.1,λp hp=>q _ _ _ C (R.hid hp) (Tx.new hp) (Xq (U8.of Yq) ((Do r lo hi).tx (Tx.new hp))) h.2⟩
 | cl xs=>
  obtain⟨a,ys,rfl,hq,r⟩:=Pb rx;exact .inr (.inl ⟨a,ys,FQ,hq.sq,λp hp=>q _ _ _ _ (R.newL hp (Do r lo hi)) (Tx.new hp) Jm (h p (R.free hp))⟩)
 | ref a=>
  cases Z7 rx
  obtain⟨xs,hx,h⟩:=h;obtain⟨ys,hy,r⟩:=R.lst hx;exact .inr (.inl ⟨a,ys,FQ,Ws.of hy,λp hp=>q _ _ _ _ (R.newL hp (Do r lo hi)) (Tx.new hp) Jm (h p (R.free hp))⟩)
 | str z=>cases Jo rx;exact .inr (.inr ⟨z,FQ,h.1,q _ _ H C R (Tx.refl H) Jw h.2⟩)
 | _=>exact False.elim h⟩
def Xj {K:WY}{v:T}(h:Reps K H xs [v]):∃x,xs=[x]/\Jr K H x v:=by
 obtain⟨y,r,rfl,a,b⟩:=Jb h
 cases X0 b
 exact⟨y,FQ,a⟩
def xT {K:WY}{v w:T}(h:Reps K H xs [v,w]):∃x y,xs=[x,y]/\Jr K H x v/\Jr K H y w:=by
 obtain⟨y,r,rfl,a,b⟩:=Jb h;obtain⟨z,rfl,c⟩:=Xj b;exact⟨y,z,FQ,a,c⟩
def Xm:Km X (.builtin "len") fT:=⟨_,yn.or ym,λF H C xs vs Q Q' R rs h q=>by
 obtain⟨v,rfl,h⟩:=h;obtain⟨x,rfl,rx⟩:=Xj rs
 cases v with
 | str z=>cases Jo rx;exact .inr ⟨z,FQ,h.1,q _ _ H C R (Tx.refl H) Jn h.2⟩
 | tup xs=>
  obtain⟨a,ys,rfl,hq,r⟩:=Yp rx;exact .inl ⟨a,ys,FQ,.inr hq,by rw[r.length];exact q _ _ H C R (Tx.refl H) Jn h⟩
 | cl xs=>
  obtain⟨a,ys,rfl,hq,r⟩:=Pb rx;exact .inl ⟨a,ys,FQ,.inl hq.sq,by rw[r.length];exact q _ _ H C R (Tx.refl H) Jn h⟩
 | ref a=>
  cases Z7 rx
  obtain⟨xs,hx,h⟩:=h;obtain⟨ys,hy,r⟩:=R.lst hx;exact .inl ⟨a,ys,FQ,.inl (Ws.of hy),by rw[r.length];exact q _ _ H C R (Tx.refl H) Jn h⟩
 | _=>exact False.elim h⟩
theorem yY {K:WY}:∀{bs:List Bool} {ys:List V},Reps K H ys (bs.map T.bl)->ys=bs.map V.bl
 | [],_,h=>X0 h
 | b::bs,_,h=>by obtain⟨y,r,rfl,a,c⟩:=Jb h;cases Sq a;rw[yY c];rfl
def Of:Km X (.type "tuple") ou:=⟨_,Br,λF H C xs vs Q Q' R rs h q=>by
 obtain⟨v,rfl,h⟩:=h;obtain⟨x,rfl,rx⟩:=Xj rs
 cases v with
 | tup xs=>
  obtain⟨a,ys,rfl,hq,r⟩:=Yp rx;exact⟨a,ys,FQ,.inr ⟨hq,q _ _ H C R (Tx.refl H) (Xq hq r) h⟩⟩
 | cl xs=>
  obtain⟨a,ys,rfl,hq,r⟩:=Pb rx;exact⟨a,ys,FQ,.inl ⟨hq.sq,λp hp=>q _ _ _ C (R.hid hp) (Tx.new hp) (Xq (U8.of Yq) (r.tx (Tx.new hp))) h⟩⟩
 | ref a=>
  cases Z7 rx
  obtain⟨xs,hx,h⟩:=h;obtain⟨ys,hy,r⟩:=R.lst hx;exact⟨a,ys,FQ,.inl ⟨Ws.of hy,λp hp=>q _ _ _ C (R.hid hp) (Tx.new hp) (Xq (U8.of Yq) (r.tx (Tx.new hp))) h⟩⟩
 | _=>exact False.elim h⟩
def fS:Km X (.type "list") ow:=⟨_,yl,λF H C xs vs Q Q' R rs h q=>by
 obtain⟨v,rfl,h⟩:=h;obtain⟨x,rfl,rx⟩:=Xj rs
 cases v with
 | tup xs=>
  obtain⟨a,ys,rfl,hq,r⟩:=Yp rx;exact⟨a,ys,FQ,.inr hq,λp hp=>q _ _ _ _ (R.newL hp r) (Tx.new hp) Jm (h p (R.free hp))⟩
 | cl xs=>
  obtain⟨a,ys,rfl,hq,r⟩:=Pb rx;exact⟨a,ys,FQ,.inl hq.sq,λp hp=>q _ _ _ _ (R.newL hp r) (Tx.new hp) Jm (h p (R.free hp))⟩
 | ref a=>
  cases Z7 rx
  obtain⟨xs,hx,h⟩:=h;obtain⟨ys,hy,r⟩:=R.lst hx;exact⟨a,ys,FQ,.inl (Ws.of hy),λp hp=>q _ _ _ _ (R.newL hp r) (Tx.new hp) Jm (h p (R.free hp))⟩
 | _=>exact False.elim h⟩
def Yk:iq X "list.append" Tl:=⟨_,B9,λF H C x v xs vs Q Q' R rx rs h q=>by
 obtain⟨a,ts,y,rfl,rfl,hx,hl,h⟩:=h
 cases Z7 rx
 obtain⟨z,rfl,rz⟩:=Xj rs;obtain⟨ys,hy,r⟩:=R.lst hx;obtain⟨R',t⟩:=R.putL hx (r.snoc rz);exact⟨a,ys,z,FQ,FQ,hy,by rw[r.length];exact hl,q _ _ _ _ R' t V0 h⟩⟩
def Li:iq X "list.pop" bh:=⟨_,gK,λF H C x v xs vs Q Q' R rx rs h q=>by
 obtain⟨a,ts,y,rfl,rfl,hx,hy,h⟩:=h
 cases Z7 rx
 cases X0 rs
 obtain⟨ys,hys,r⟩:=R.lst hx;obtain⟨z,hz,rz⟩:=r.get hy;obtain⟨R',t⟩:=R.putL hx r.dropLast;exact⟨a,ys,z,FQ,FQ,hys,by rw[r.length];exact hz,q _ _ _ _ R' t (rz.tx t) h⟩⟩
def mX:iq X "list.pop" qQ:=⟨_,qH,λF H C x v xs vs Q Q' R rx rs h q=>by
 obtain⟨a,ts,i,k,y,rfl,rfl,hx,h1,h2,hk,hy,h⟩:=h
 cases Z7 rx
 obtain⟨z,rfl,rz⟩:=Xj rs
 cases Ye rz
 obtain⟨ys,hys,r⟩:=R.lst hx;obtain⟨z,hz,rz⟩:=r.get hy;obtain⟨R',t⟩:=R.putL hx (r.erase k);exact⟨a,ys,i,k,z,FQ,FQ,hys,h1,h2,by rw[r.length];exact hk,hz,q _ _ _ _ R' t (rz.tx t) h⟩⟩
end
section
variable {X:Cx}{a b c e:WW}{es:List WW}{wa wb wc:WE}{wt wt':WT}{wA:WA}{w w':W2}{pos p apos cpos:Pos}{Y4:List WW}
def Zb (i:Nat)(hN:autoParam (X.N[i]?=some x) QzR)(hv:aC X.env.scope x:=by first | exact Or.inl FQ | exact Or.inr (Or.inl FQ) | exact Or.inr (Or.inr FQ))(hd:autoParam ((x==("__debug__":Str))=false) QzD)
  (hcd:autoParam ((x==("__classdict__":Str))=false) QzD):Ji X (.Name x pos) (Z6 i):=⟨_,gp hN hv hd hcd,ca⟩
def Zd {i j}:Ji X (.Constant (.int i) j pos) (eC (.int i)):=⟨_,ql,cr λ_=>Jn⟩
def Zf {i j}:Ji X (.Constant (.str i) j pos) (eC (.str i)):=⟨_,gr,cr λ_=>Jw⟩
def ol {i j}:Ji X (.Constant (.bool i) j pos) (eC (.bl i)):=⟨_,cO,cr λ_=>Y8⟩
def X6 {j}:Ji X (.Constant .none j pos) (eC .non):=⟨_,gv,cr λ_=>V0⟩
def Zb2 (K:WY)(mg:Str->Option WQ)(x:Str)(v:T):Prop:=∃z u,mg x=some u/\Yg z u/\∀H,Jr K H z v
def bU (hg:Gl X x)(h:Zb2 X.K X.mg x v)(hd:autoParam ((x==("__debug__":Str))=false) QzD):Ji X (.Name x pos) (eC v):=by
 obtain⟨z,u,h1,h2,h3⟩:=h;exact⟨_,m9 hg h1 h2 hd,cr h3⟩
def Zv (ho:Mo X (binaryOp op) w)(ha:Ji X a wa)(hb:Ji X b wb):Ji X (.BinOp a op b pos) (Y1 w wa wb):=by
 obtain⟨r,h1,h2⟩:=ho;obtain⟨ta,p1,s1⟩:=ha;obtain⟨tb,p2,s2⟩:=hb;exact⟨_,cI h1 p1 p2,nJ s1 s2 h2⟩
def Hv (ha:Ji X a wa):Ji X (.UnaryOp .USub a pos) (Za9 dj wa):=by
 obtain⟨ta,p1,s1⟩:=ha;exact⟨_,cG iA p1,Zaa s1 λF H C x v Q Q' R rx h q=>by
  cases v with
  | int i=>cases Ye rx;exact⟨i,FQ,q _ _ H C R (Tx.refl H) Jn h⟩
  | _=>exact False.elim h⟩
def Wn (ho:Mo X (compareOp op) w)(ha:Ji X a wa)(hb:Ji X b wb)(hm:behindInMarks op b=false):Ji X (.Compare a [op] [b] pos) (Y1 w wa wb):=by
 obtain⟨r,h1,h2⟩:=ho;obtain⟨ta,p1,s1⟩:=ha;obtain⟨tb,p2,s2⟩:=hb;exact⟨_,mF h1 p1 p2 hm,nJ s1 s2 h2⟩
def kZ (ha:Ji X a wa)(hb:Ji X (.BoolOp .And (b::Y4) pos) wb):Ji X (.BoolOp .And (a::b::Y4) pos) (fD wa wb):=by
 obtain⟨ta,p1,s1⟩:=ha;obtain⟨tb,p2,s2⟩:=hb;exact⟨_,gz p1 p2,cw s1 s2⟩
def bS (ha:Ji X a wa)(hb:Ji X (.BoolOp .Or (b::Y4) pos) wb):Ji X (.BoolOp .Or (a::b::Y4) pos) (Zba wa wb):=by
 obtain⟨ta,p1,s1⟩:=ha;obtain⟨tb,p2,s2⟩:=hb;exact⟨_,cH p1 p2,Zab s1 s2⟩
def vV {op}(ha:Ji X a wa):Ji X (.BoolOp op [a] pos) wa:=by
 obtain⟨ta,p1,s1⟩:=ha;exact⟨_,gt p1,s1⟩
def Dn (hc:uh X c wt)(ha:Ji X a wa)(hb:Ji X b wb):Ji X (.IfExp c a b pos) (eR wt wa wb):=by
 obtain⟨ta,p1,s1⟩:=ha;obtain⟨tb,p2,s2⟩:=hb;obtain⟨tc,p3,s3⟩:=hc;exact⟨_,qm p3 p1 p2,Zad s3 s1 s2⟩
def Zc:yw X [] Zy:=⟨_,xR,cj⟩
def Za (ha:Ji X a wa)(hb:yw X es wA)(hs:autoParam (starEach (a::es) X.env=(false,eval a X.env)::starEach es X.env) QzR):yw X (a::es) (Yb wa wA):=by
 obtain⟨ta,p1,s1⟩:=ha;obtain⟨tb,p2,s2⟩:=hb;exact⟨_,G1 p1 p2 hs,iS s1 s2⟩
def Zj {x1}(h:yw X es wA):Ji X (.Tuple es x1 pos) (Dh wA):=by
 obtain⟨t,p,s⟩:=h;exact⟨_,gq p,cb s⟩
def Ys (h:yw X es wA):Ji X (.List es pos) (wJ wA):=by
 obtain⟨t,p,s⟩:=h;exact⟨_,gw p,cm s⟩
def Zm (ha:Ji X a wa)(hb:Ji X b wb)(hs:uj b:=by exact λ_ _=>rfl):Ji X (.Subscript a b pos) (Y1 Tz wa wb):=by
 obtain⟨r,h1,h2⟩:=Zar (X:=X);obtain⟨ta,p1,s1⟩:=ha;obtain⟨tb,p2,s2⟩:=hb;exact⟨_,cJ h1 p1 p2 hs,nJ s1 s2 h2⟩
def aE (X:Cx)(e:Option WW)(w:Sw->Hw->(Option Int->Hw->Prop)->WX->Prop):Prop:=∃t,PO X e t/\∀(F H:Hp) (C:Hw) (σ:L2.St) (τ:Sw) (Q:Option Int->Hp->Prop) (Q':Option Int->Hw->Prop) (χ:WX),Rl X.K F H C->Xo X.K H σ τ->w τ C Q' χ->
 (∀o H' C',Rl X.K F H' C'->Tx H H'->Q' o C'->Q o H')->t σ H Q
def Qa:aE X none Zch:=⟨_,m5,λF H C σ τ Q Q' χ R S h q=>q none H C R (Tx.refl H) h⟩
def J9 (ha:Ji X a wa):aE X (some a) (kL wa):=by
 obtain⟨ta,p1,s1⟩:=ha;refine⟨_,m4 p1,λF H C σ τ Q Q' χ R S h q=>?_⟩;refine s1 F H C σ τ _ _ χ R S h λx v H1 C1 R1 t1 rx h1=>?_;obtain⟨i,rfl,h1⟩:=h1;exact⟨i,Ye rx,q (some i) H1 C1 R1 t1 h1⟩
def Dm {lo hi:Option WW}{wl wh:Sw->Hw->(Option Int->Hw->Prop)->WX->Prop}(ha:Ji X a wa)(hl:aE X lo wl)(hh:aE X hi wh):Ji X (.Subscript a (.Slice lo hi none p2) pos) (Zco wa wl wh):=by
 obtain⟨r,h1,h2⟩:=Zap (X:=X);obtain⟨ta,p1,s1⟩:=ha;obtain⟨tl,p3,s3⟩:=hl;obtain⟨th,p4,s4⟩:=hh;refine⟨_,qj h1 p1 p3 p4,λF H C σ τ Q Q' χ R S h q=>?_⟩;refine s1 F H C σ τ _ _ χ R S h λx v H1 C1 R1 t1 rx h1=>?_;refine s3 F H1 C1 σ τ _ _ χ R1 (S.tx t1) h1 λl H2 C2 R2 t2 h2'=>?_;refine s4 F H2 C2 σ τ _ _ χ R2 (S.tx (t1.trans t2)) h2' λu H3 C3 R3 t3 h3=>?_;exact h2 F H3 C3 x v l u Q Q' R3 ((rx.tx t2).tx t3) h3 (QE.at q ((t1.trans t2).trans t3))
def V5 {id:String}{r:List T->Hw->WK->Prop}(hc:Km X (.builtin id) r)(hg:Gl X x)(hm:X.mg x=none)(hv:bootBuiltins x=some (.builtin id))(ha:yw X (e::es) wA)(hn:autoParam (x≠"__name__") QzD)(hdb:autoParam ((x==("__debug__":Str))=false) QzD)
  (he:autoParam (starEach (e::es) X.env=(false,eval e X.env)::starEach es X.env) QzR) (hpl:autoParam ((backTo pos (starEach es X.env)).any (·.1)=false) QzR):Ji X (.Call (.Name x p) (e::es) [] pos) (kW r wA):=by
 obtain⟨r,h1,h2⟩:=hc;obtain⟨t,p1,s1⟩:=ha;exact⟨_,jd h1 hg hm hv p1 hn hdb he hpl,cv h2 s1⟩
def Qq {id:String}{r:List T->Hw->WK->Prop}(hc:Km X (.type id) r)(hg:Gl X x)(hm:X.mg x=none)(hv:bootBuiltins x=some (.type id))(ha:yw X (e::es) wA)(hn:autoParam (x≠"__name__") QzD)(hdb:autoParam ((x==("__debug__":Str))=false) QzD)
  (he:autoParam (starEach (e::es) X.env=(false,eval e X.env)::starEach es X.env) QzR) (hpl:autoParam ((backTo pos (starEach es X.env)).any (·.1)=false) QzR):Ji X (.Call (.Name x p) (e::es) [] pos) (kW r wA):=by
 obtain⟨r,h1,h2⟩:=hc;obtain⟨t,p1,s1⟩:=ha;exact⟨_,uG h1 hg hm hv p1 hn hdb he hpl,cv h2 s1⟩
def aD (X:Cx)(Tn:String)(ty:T->Hw->Prop):Prop:=∀(F H:Hp) (C:Hw) (x:V) (v:T),Rl X.K F H C->Jr X.K H x v->ty v C->iC X.K Tn x H
def Z9:aD X "list" yK:=λF H C x v R rx h=>by
 obtain⟨a,xs,rfl,hx⟩:=h
 cases Z7 rx
 obtain⟨ys,hy,r⟩:=R.lst hx;exact L2.tyL hy
def sK:aD X "str" Zb6:=λF H C x v R rx h=>by
 obtain⟨z,rfl⟩:=h
 cases Jo rx
 unfold iC;rfl
def Xt {Tn id:String}{ty:T->Hw->Prop}{r:T->List T->Hw->WK->Prop}(pa:PlainAttrs Tn)(slot:Slot Tn name id)(hty:typeOf (.builtin id)=pure (.type "method_descriptor"))(hT:aD X Tn ty)(hm:iq X id r)(ho:Ji X o wo)(ha:yw X (e::es) wA)
  (hbase:autoParam (attributeBase o name X.env (eval o X.env)=eval o X.env) QzR)
  (hfew:autoParam (((backTo cpos (starEach (e::es) X.env)).all (λx=>!x.1)&&(backToKw cpos (keywordEach [] X.env)).all (λx=>x.1.isSome)
   &&decide ((e::es).length+([]:List Keyword).length+(if ([]:List Keyword).isEmpty then 0 else 1)<30))=true) QzR)
  (hline:autoParam ((apos.endLine==cpos.line)=true) QzR) (hs:autoParam (starEach (e::es) X.env=(false,eval e X.env)::starEach es X.env) QzR) (hplain:autoParam ((backTo cpos (starEach es X.env)).any (·.1)=false) QzR):
  Ji X (.Call (.Attribute o name apos) (e::es) [] cpos) (lI ty r wo wA):=by
 obtain⟨rr,h1,h2⟩:=hm;obtain⟨to,p1,s1⟩:=ho;obtain⟨ta,p2,s2⟩:=ha;refine⟨_,cM pa slot hty h1 p1 p2 hbase hfew hline hs hplain,λF H C σ τ Q Q' χ R S h q=>?_⟩;refine s1 F H C σ τ _ _ χ R S h λx v H1 C1 R1 t1 rx h1'=>⟨hT F H1 C1 x v R1 rx h1'.1,?_⟩;refine s2 F H1 C1 σ τ _ _ χ R1 (S.tx t1) h1'.2 λxs vs H2 C2 R2 t2 rs h2'=>?_;exact h2 F H2 C2 x v xs vs Q Q' R2 (rx.tx t2) rs h2' (QE.at q (t1.trans t2))
def Ke {Tn id:String}{ty:T->Hw->Prop}{r:T->List T->Hw->WK->Prop}(pa:PlainAttrs Tn)(slot:Slot Tn name id)(hty:typeOf (.builtin id)=pure (.type "method_descriptor"))(hT:aD X Tn ty)(hm:iq X id r)(ho:Ji X o wo)
  (hbase:autoParam (attributeBase o name X.env (eval o X.env)=eval o X.env) QzR) (hline:autoParam ((apos.endLine==cpos.line)=true) QzR):
  Ji X (.Call (.Attribute o name apos) [] [] cpos) (lI ty r wo Zy):=by
 obtain⟨rr,h1,h2⟩:=hm;obtain⟨to,p1,s1⟩:=ho;refine⟨_,gy pa slot hty h1 p1 hbase hline,λF H C σ τ Q Q' χ R S h q=>?_⟩;refine s1 F H C σ τ _ _ χ R S h λx v H1 C1 R1 t1 rx h1'=>⟨hT F H1 C1 x v R1 rx h1'.1,?_⟩;exact h2 F H1 C1 x v [] [] Q Q' R1 rx Jc h1'.2 (QE.at q t1)
def lj {K:WY}{n c:String}(hn:n∈["NoneType","bool","int","str","tuple","list","dict"])(hc:c∈["bool","int","str","tuple","list","dict"]):W.kitOne K (.type n) (.type c)=some (Hu n c):=by
 simp only[ZM,ZN,or_false] at hn hc
 rcases hn with rfl | rfl | rfl | rfl | rfl | rfl | rfl<;>rcases hc with rfl | rfl | rfl | rfl | rfl | rfl<;>rfl
def nu (h:dy v C n):n∈["NoneType","bool","int","str","tuple","list","dict"]:=by
 cases v with
 | non=>cases h;decide
 | bl _=>cases h;decide
 | int _=>cases h;decide
 | str _=>cases h;decide
 | tup _=>cases h;decide
 | cl _=>cases h;decide
 | ref _=>rcases h with⟨rfl,_⟩ | ⟨rfl,_⟩<;>decide
def fh {F H:Hp}{n c:String}{Q:WQ->WR->Prop}(I:Z2 X WZ σ H s)(R:Rl X.K F H C)(rx:Jr X.K H x v)(ru:Yg x u)(hn:dy v C n)(hc:c∈["bool","int","str","tuple","list","dict"])
  (h:∀tk,Q (.bool (Hu n c)) {s with toks:=tk}):wpAny (model X.prog X.w) X.A (call (.builtin "isinstance") [u,.type c]) Q X.xe s:=by
 have e:=lj (K:=X.K) (nu hn) hc
 cases v with
 | non=>cases hn;cases R7 rx;exact Ua I ru .non e h
 | bl b=>cases hn;cases Sq rx;exact Ua I ru (.bl b) e h
 | int b=>cases hn;cases Ye rx;exact Ua I ru (.int b) e h
 | str b=>cases hn;cases Jo rx;exact Ua I ru (.str b) e h
 | tup xs=>
  cases hn
  obtain⟨a,ys,rfl,hq,r⟩:=Yp rx
  cases ru
  obtain⟨its,_,⟨o,h1,h2,_⟩,_⟩:=I.tuple hq;exact CZ W.kitx_tuple I.kIn ⟨o,h1,h2⟩ e (λz=>nomatch z) h
 | cl xs=>
  cases hn
  obtain⟨a,ys,rfl,hq,r⟩:=Pb rx
  cases ru
  obtain⟨its,_,p,_⟩:=I.list hq.sq;obtain⟨o,h1,h2,_⟩:=p.isList;exact CZ W.kitx_list I.kIn ⟨o,h1,h2⟩ e (λz=>nomatch z) h
 | ref a=>
  cases Z7 rx
  rcases hn with⟨rfl,xs,hx⟩ | ⟨rfl,kvs,hx⟩
  ·obtain⟨ys,hy,r⟩:=R.lst hx;exact Ua I ru (.lst hy) e h
  ·obtain⟨ks,hy,r⟩:=R.obj a _ hx;exact Ua I ru (.dK hy) e h
def kY {q2:Pos}{c:String}(hg:Gl X "isinstance")(hm:X.mg "isinstance"=none)(hgx:Gl X x)(hmx:X.mg x=none)(hvx:bootBuiltins x=some (.type c))(hc:c∈["bool","int","str","tuple","list","dict"])(ha:Ji X a wa)
  (hnx:autoParam (x≠"__name__") QzD) (hdx:autoParam ((x==("__debug__":Str))=false) QzD) (he:autoParam (starEach [a,.Name x q2] X.env=[(false,eval a X.env),(false,eval (.Name x q2) X.env)]) QzR):Ji X (.Call (.Name "isinstance" p) [a,.Name x q2] [] pos) (bL wa c):=by
 obtain⟨ta,p1,s1⟩:=ha;let r:List V->Hp->VK->Prop:=λxs H Q=>∃y F C v n,xs=[y,.ty c]/\Rl X.K F H C/\Jr X.K H y v/\dy v C n/\Q (.bl (Hu n c)) H
 have hr:Vl X (.builtin "isinstance") r:=by
  intro WZ s σ H xs us Q I rs h;obtain⟨y,F,C,v,n,rfl,R,ry,hn,q⟩:=h;obtain⟨u,u2,rfl,ru,ru2⟩:=rs.two
  cases ru2
  exact fh I R ry ru hn hc λtk=>⟨.bl _,H,I.tok tk,FQ,q⟩
 refine⟨_,jd hr hg hm Bs (G1 p1 (G1 (mG (v:=.ty c) hgx hmx hvx FQ hnx hdx) xR (by rw[show starEach [Expr.Name x q2] X.env=[(false,eval (.Name x q2) X.env)] from rfl];rfl)) ?_) (by decide) (by decide) ?_ ?_,?_⟩
 ·rw[he];rfl
 ·rw[he];rfl
 ·rfl
 ·intro F H C σ τ Q Q' χ R S h q;refine s1 F H C σ τ _ _ χ R S h λy v H1 C1 R1 t1 ry h1=>?_;obtain⟨n,hn,h1⟩:=h1;exact⟨y,F,C1,v,n,FQ,R1,ry,hn,q _ _ H1 C1 R1 t1 Y8 h1⟩
def Zi (ho:Mo X (compareOp op) w)(ha:Ji X a wa)(hb:Ji X b wb)(hm:behindInMarks op b=false:=by exact Xk _):uh X (.Compare a [op] [b] pos) (O4 (Y1 w wa wb)):=by
 obtain⟨r,h1,h2⟩:=ho;obtain⟨ta,p1,s1⟩:=ha;obtain⟨tb,p2,s2⟩:=hb;exact⟨_,me h1 p1 p2 hm,cu (nJ s1 s2 h2)⟩
def pT (ho:Mo X (compareOp op) w)(ho':Mo X (compareOp op') w')(ha:Ji X a wa)(hb:Ji X b wb)(hc:Ji X c wc)(hm:lastMarks [op,op'] [b,c]=false:=by with_unfolding_all rfl):
  uh X (.Compare a [op,op'] [b,c] pos) (O4 (wM w w' wa wb wc)):=by
 obtain⟨r,h1,h2⟩:=ho;obtain⟨r',h1',h2'⟩:=ho';obtain⟨ta,p1,s1⟩:=ha;obtain⟨tb,p2,s2⟩:=hb;obtain⟨tc,p3,s3⟩:=hc;exact⟨_,rZ h1 h1' p1 p2 p3 hm,cu (nV s1 s2 s3 h2 h2')⟩
def Uz (ha:Ji X a wa)(he:∀whole,isTrue a X.env whole=(do let v <-whole;standAt a.pos;holding [v] (truthy v)):=by intro _;rfl):uh X a (iG wa):=by
 obtain⟨ta,p1,s1⟩:=ha;exact⟨_,rX p1 he,ce s1⟩
def Vf (ha:uh X a wt):eI X (.BoolOp .And [a] pos) wt:=by
 obtain⟨t,p,s⟩:=ha;exact⟨_,ma p,s⟩
def Ir (ha:uh X a wt):eI X (.BoolOp .Or [a] pos) wt:=by
 obtain⟨t,p,s⟩:=ha;exact⟨_,iZ p,s⟩
def Uy (ha:uh X a wt)(hb:eI X (.BoolOp .And (b::Y4) pos) wt'):eI X (.BoolOp .And (a::b::Y4) pos) (ay wt wt'):=by
 obtain⟨t,p,s⟩:=ha;obtain⟨t',p',s'⟩:=hb;exact⟨_,hJ p p',Zae s s'⟩
def Dj (ha:uh X a wt)(hb:eI X (.BoolOp .Or (b::Y4) pos) wt'):eI X (.BoolOp .Or (a::b::Y4) pos) (sT wt wt'):=by
 obtain⟨t,p,s⟩:=ha;obtain⟨t',p',s'⟩:=hb;exact⟨_,cB p p',ci s s'⟩
def Os (h:eI X a wt):uh X a wt:=by
 obtain⟨t,p,s⟩:=h;exact⟨_,p.pt,s⟩
def pS (ha:uh X a wt):uh X (.UnaryOp .Not a pos) (aQ wt):=by
 obtain⟨t,p,s⟩:=ha;exact⟨_,hV p,Zac s⟩
end
structure ku (K:W.Frag)(F H:Hp)(D:Bu)(D':We):Prop where
 nx:∀σ τ H' C',Rl K F H' C'->Tx H H'->Xo K H' σ τ->D'.nx τ C'->D.nx σ H'
 rt:∀x v H' C',Rl K F H' C'->Tx H H'->Jr K H' x v->D'.rt v C'->D.rt x H'
 bk:∀σ τ H' C',Rl K F H' C'->Tx H H'->Xo K H' σ τ->D'.bk τ C'->D.bk σ H'
 ct:∀σ τ H' C',Rl K F H' C'->Tx H H'->Xo K H' σ τ->D'.ct τ C'->D.ct σ H'
def ku.at {K:WY}{F H H1:Hp}(h:ku K F H D D')(t:Tx H H1):ku K F H1 D D':=
 ⟨λσ τ H' C' R t'=>h.nx σ τ H' C' R (t.trans t'),λx v H' C' R t'=>h.rt x v H' C' R (t.trans t'),λσ τ H' C' R t'=>h.bk σ τ H' C' R (t.trans t'),λσ τ H' C' R t'=>h.ct σ τ H' C' R (t.trans t')⟩
def tK (K:WY)(t:TS)(w:WS):Prop:=∀(F H:Hp) (C:Hw) (σ:L2.St) (τ:Sw) (D:Bu) (D':We),Rl K F H C->Xo K H σ τ->w D' τ C->ku K F H D D'->t D σ H
def wX (K:WY)(t:TG)(w:WG):Prop:=∀(F H:Hp) (C:Hw) (σ:L2.St) (τ:Sw) (x:V) (v:T) (Q:L2.St->Hp->Prop) (Q':Sw->Hw->Prop) (χ:WX),Rl K F H C->Xo K H σ τ->Jr K H x v->w v τ C Q' χ->
 (∀σ' τ' H' C',Rl K F H' C'->Tx H H'->Xo K H' σ' τ'->Q' τ' C'->Q σ' H')->t x σ H Q
def jZ (K:WY)(t:xt)(w:oE):Prop:=∀(F H:Hp) (C:Hw) (σ:L2.St) (τ:Sw) (x:List V) (v:List T) (Q:L2.St->Hp->Prop) (Q':Sw->Hw->Prop) (χ:WX),Rl K F H C->Xo K H σ τ->Reps K H x v->w v τ C Q' χ->
 (∀σ' τ' H' C',Rl K F H' C'->Tx H H'->Xo K H' σ' τ'->Q' τ' C'->Q σ' H')->t x σ H Q
def tU (X:Cx)(st:WV)(w:WS):Prop:=∃t,PS X st t/\tK X.K t w
def tV (X:Cx)(st:List WV)(w:WS):Prop:=∃t,uk X st t/\tK X.K t w
def eU (X:Cx)(e:WW)(w:WG):Prop:=∃t,PG X e t/\wX X.K t w
def kt (X:Cx)(e:List WW)(w:oE):Prop:=∃t,ai X e t/\jZ X.K t w
section
variable {X:Cx}{st:WV}{Y4:List WV}{w u:WS}{e tg:WW}{we:WE}{wt:WT}{g:WG}{gs:oE}{pos:Pos}
def Ja {K:WY}:wX K (Xd i) (Bl i):=λF H C σ τ x v Q Q' χ R S r h q=>q _ _ H C R (Tx.refl H) (S.set r) h
def Ec {K:WY}:jZ K jH jD:=λF H C σ τ x v Q Q' χ R S r h q=>by
 obtain⟨rfl,h⟩:=h;exact⟨X0 r,q _ _ H C R (Tx.refl H) S h⟩
def Vd {K:WY}{u:xt}(a:wX K t g)(b:jZ K u gs):jZ K (Sz t u) (Iq g gs):=λF H C σ τ x v Q Q' χ R S r h q=>by
 obtain⟨v1,vs,rfl,h⟩:=h;obtain⟨y,ys,rfl,r1,r2⟩:=Jb r;refine⟨y,ys,FQ,a F H C σ τ y v1 _ _ χ R S r1 h λσ' τ' H' C' R' t' S' h'=>?_⟩;exact b F H' C' σ' τ' ys vs Q Q' χ R' S' (r2.tx t') h' λσ2 τ2 H2 C2 R2 t2=>q σ2 τ2 H2 C2 R2 (t'.trans t2)
def Eb {K:WY}{u:xt}{n:Nat}(b:jZ K u gs)(hn:∀vs τ C Q χ,gs vs τ C Q χ->vs.length=n):wX K (jG K n u) (bE gs):=λF H C σ τ x v Q Q' χ R S r h q=>by
 obtain⟨vs,rfl,h⟩:=h;obtain⟨a,ys,rfl,hq,rs⟩:=Yp r;exact⟨a,ys,FQ,hq,by rw[rs.length];exact hn _ _ _ _ _ h,b F H C σ τ ys vs Q Q' χ R S rs h q⟩
def ul (n:Nat)(gs:oE):Prop:=∀vs τ C Q χ,gs vs τ C Q χ->vs.length=n
def Se:ul 0 jD:=λvs τ C Q χ h=>by rw[h.1];rfl
def Yt (b:ul n gs):ul (n+1) (Iq (Bl i) gs):=λvs τ C Q χ h=>by
 obtain⟨v,r,rfl,h⟩:=h;rw[YF,b r _ _ _ _ h]
def Jh {i:Nat}(hN:X.N.Nodup)(hi:autoParam (X.N[i]?=some x) QzR)(hx:de X.env.scope x:=by first | exact Or.inl FQ | exact Or.inr FQ)(hf:autoParam (X.fn x=true\/X.env.scope.names.lookup x=some .local) QzF):eU X (.Name x pos) (Bl i):=⟨_,Jf hN hi hx hf,Ja⟩
def Iw:kt X [] jD:=⟨_,Lf,Ec⟩
def Wc (a:eU X e g)(b:kt X es gs)(hs:autoParam ((assignEach (e::es) X.env).map (·.2)=assign e X.env::(assignEach es X.env).map (·.2)) QzR):kt X (e::es) (Iq g gs):=by
 obtain⟨t,p,s⟩:=a;obtain⟨t',p',s'⟩:=b;exact⟨_,X3 p p' hs,Vd s s'⟩
def Iv {k n:Nat}(hc:X.calm=true)(b:kt X es gs)(hl:ul n gs)(hn:autoParam ((assignEach es X.env).length=n) QzR)(hst:autoParam ((assignEach es X.env).findIdx? (·.1)=none) QzR):eU X (.Tuple es k pos) (bE gs):=by
 obtain⟨t,p,s⟩:=b;exact⟨_,Es hc p hn hst,Eb s hl⟩
def Zz:tV X [] Qj:=⟨_,mh,λF H C σ τ D D' R S h d=>d.nx σ τ H C R (Tx.refl H) S h⟩
def Zg (a:tU X st w):tV X [st] w:=by
 obtain⟨t,p,s⟩:=a;exact⟨_,mf p,s⟩
def Ze (a:tU X st w)(b:tV X Y4 u):tV X (st::Y4) (Vn w u):=by
 obtain⟨t,p,s⟩:=a;obtain⟨t',p',s'⟩:=b;refine⟨_,qd p p',λF H C σ τ D D' R S h d=>?_⟩;exact s F H C σ τ _ _ R S h ⟨λσ' τ' H' C' R' t' S' h'=>s' F H' C' σ' τ' D D' R' S' h' (d.at t'),d.rt,d.bk,d.ct⟩
def Zw (a:Ji X e we)(hs:autoParam (swapsWith e none pos.line X.env=pure false) QzR):tU X (.Expr e pos) (Q8 we):=by
 obtain⟨t,p,s⟩:=a;refine⟨_,mj p hs,λF H C σ τ D D' R S h d=>?_⟩;exact s F H C σ τ _ _ D'.xc R S h λx v H1 C1 R1 t1 rx h1=>d.nx σ τ H1 C1 R1 t1 (S.tx t1) h1
def Zp (a:Ji X e we):tU X (.Return (some e) pos) (rQ we):=by
 obtain⟨t,p,s⟩:=a;refine⟨_,gb p,λF H C σ τ D D' R S h d=>?_⟩;exact s F H C σ τ _ _ D'.xc R S h d.rt
def yb:tU X (.Return none pos) kF:=⟨_,mi,λF H C σ τ D D' R S h d=>d.rt .non .non H C R (Tx.refl H) V0 h⟩
def Zs (hc:uh X c wt)(ha:tV X a wa)(hb:tV X b wb):tU X (.If c a b pos) (xo wt wa wb):=by
 obtain⟨t,p,s⟩:=hc;obtain⟨t1,p1,s1⟩:=ha;obtain⟨t2,p2,s2⟩:=hb;refine⟨_,cE p p1 p2,λF H C σ τ D D' R S h d=>?_⟩;refine s F H C σ τ _ _ D'.xc R S h λk H1 C1 R1 t1 h1=>?_
 cases k with
 | true=>exact s1 F H1 C1 σ τ D D' R1 (S.tx t1) h1 (d.at t1)
 | false=>exact s2 F H1 C1 σ τ D D' R1 (S.tx t1) h1 (d.at t1)
def Y6 (he:Ji X e we)(hg:eU X tg g)(hs:autoParam (swapsWithSole [tg] e pos.line X.env=pure false) QzR)(hw:autoParam (swappedStores [tg] e X.env=pure none) QzR)
  (h1:autoParam ((assignEach [tg] X.env).map (·.2)=[assign tg X.env]) QzR):tU X (.Assign [tg] e pos) (T7 we g):=by
 obtain⟨t,p,s⟩:=he;obtain⟨t',p',s'⟩:=hg;refine⟨_,ge p p' hs hw h1,λF H C σ τ D D' R S h d=>?_⟩;refine s F H C σ τ _ _ D'.xc R S h λx v H1 C1 R1 t1 rx h1=>?_;exact s' F H1 C1 σ τ x v _ _ D'.xc R1 (S.tx t1) rx h1 λσ' τ' H' C' R' t'=>d.nx σ' τ' H' C' R' (t1.trans t')
def Zl {i:Nat}(hN:X.N.Nodup)(he:Ji X e we)(hi:autoParam (X.N[i]?=some x) QzR)(hx:de X.env.scope x:=by first | exact Or.inl FQ | exact Or.inr FQ)(hs:autoParam (swapsWith e (some (.Name x pos')) pos.line X.env=pure false) QzR)
  (hf:autoParam (X.fn x=true\/X.env.scope.names.lookup x=some .local) QzF):tU X (.Assign [.Name x pos'] e pos) (T7 we (Bl i)):=by
 obtain⟨t,p,s⟩:=he;refine⟨_,hZ hN hi hx p hs hf,λF H C σ τ D D' R S h d=>?_⟩;refine s F H C σ τ _ _ D'.xc R S h λx v H1 C1 R1 t1 rx h1=>?_;exact Ja F H1 C1 σ τ x v _ _ D'.xc R1 (S.tx t1) rx h1 λσ' τ' H' C' R' t'=>d.nx σ' τ' H' C' R' (t1.trans t')
end
def Hy (K:WY)(F H0:Hp)(J:It)(xs:List T)(ok:Hw->Prop):Prop:=∀(i:Nat) (H:Hp) (C:Hw),Rl K F H C->Tx H0 H->ok C->
 (i<xs.length->J.go i H/\∀x H',J.yld i H x H'->∃v,xs[i]?=some v/\Rl K F H' C/\Tx H H'/\Jr K H' x v)/\(i=xs.length->J.stop i H)
def eG (K:WY)(wi:TI)(w:WI):Prop:=∀(F H:Hp) (C:Hw) (σ:L2.St) (τ:Sw) (R:It->Hp->Prop) (R':List T->(Hw->Prop)->Hw->Prop) (χ:WX),Rl K F H C->Xo K H σ τ->w τ C R' χ->
 (∀J H' xs ok C',Rl K F H' C'->Tx H H'->(∀F',Hy K F' H' J xs ok)->R' xs ok C'->R J H')->wi σ H R
def ip (X:Cx)(tg e:WW)(w:WI):Prop:=∃t,PI X tg e t/\eG X.K t w
section
variable {X:Cx}{tg e a b:WW}{we:WE}{wA:WA}{pos p:Pos}
def lw {K:WY}{F H0:Hp}:Hy K F H0 (aH K l) xs (λC=>C l=some (.lst xs)):=λi H C R t ok=>by
 obtain⟨ys,hy,r⟩:=R.lst ok;refine⟨λhi=>?_,λhi=>⟨ys,Ws.of hy,by rw[r.length];omega⟩⟩;have ev:xs[i]?=some xs[i]:=by simp[hi]
 obtain⟨y,ey,ry⟩:=r.get ev;refine⟨⟨ys,y,Ws.of hy,ey⟩,λx H' h=>?_⟩;obtain⟨rfl,h⟩:=h;have e2:=h ys (Ws.of hy);rw[ey] at e2;cases e2;exact⟨_,ev,R,Tx.refl _,ry⟩
def br {K:WY}{F H0:Hp}(h0:im K H0 l ys)(r0:Reps K H0 ys xs):Hy K F H0 (aH K l) xs (λ_=>True):=λi H C R t ok=>by
 have hy:=(t.sqc h0).sq;have r:=r0.tx t;refine⟨λhi=>?_,λhi=>⟨ys,hy,by rw[r.length];omega⟩⟩;have ev:xs[i]?=some xs[i]:=by simp[hi]
 obtain⟨y,ey,ry⟩:=r.get ev;refine⟨⟨ys,y,hy,ey⟩,λx H' h=>?_⟩;obtain⟨rfl,h⟩:=h;have e2:=h ys hy;rw[ey] at e2;cases e2;exact⟨_,ev,R,Tx.refl _,ry⟩
def ff {K:WY}{F H0:Hp}(h0:U8 K H0 l ys)(r0:Reps K H0 ys xs):Hy K F H0 (Zb1 K l) xs (λ_=>True):=λi H C R t ok=>by
 have hy:=t.sqt h0;have r:=r0.tx t;refine⟨λhi=>?_,λhi=>⟨ys,hy,by rw[r.length];omega⟩⟩;have ev:xs[i]?=some xs[i]:=by simp[hi]
 obtain⟨y,ey,ry⟩:=r.get ev;refine⟨⟨ys,y,hy,ey⟩,λx H' h=>?_⟩;obtain⟨rfl,h⟩:=h;have e2:=h ys hy;rw[ey] at e2;cases e2;exact⟨_,ev,R,Tx.refl _,ry⟩
def fg {K:WY}{F H0:Hp}:Hy K F H0 (aG z) (z.cps.toList.map λc=>T.str ⟨#[c]⟩) (λ_=>True):=λi H C R t ok=>by
 refine⟨λhi=>⟨by show i<z.cps.size;simpa using hi,λx H' h=>?_⟩,λhi=>by show i=z.cps.size;simpa using hi⟩;obtain⟨rfl,c,hc,rfl⟩:=h;refine⟨.str ⟨#[c]⟩,?_,R,Tx.refl _,Jw⟩;rw[XM,DU,hc];rfl
def pf {K:WY}{F H0:Hp}{lo:Int}:Hy K F H0 (ap lo n) (rng lo n) (λ_=>True):=λi H C R t ok=>by
 have hl:(rng lo n).length=n:=by unfold rng;simp
 refine⟨λhi=>⟨by rw[hl] at hi;exact hi,λx H' h=>?_⟩,λhi=>by show n<=i;omega⟩;obtain⟨rfl,rfl⟩:=h;refine⟨.int (lo+i),?_,R,Tx.refl _,Jn⟩;unfold rng;rw[hl] at hi;rw[XM,FC hi];rfl
def rg {R:It->Hp->Prop}(I1:Z2 X WZ σ H1 s1)(r1:Yg (.str z) v)(q:R (aG z) H1):wpAny (model X.prog X.w) X.A (pyIter v) (ah X WZ σ tg R) X.xe s1:=by
 obtain⟨t,rfl⟩:=r1;have fin:∀b∈[s1.heap.objs.size],Mq X WZ H1 b:=λb hb=>by
  have e:b=s1.heap.objs.size:=by simpa using hb
  subst e;exact I1.fpOk (XE _) I1.fresh
 cases ha:z.cps.all (·<128)
 ·refine wpAny_pyIter_wide ha ⟨s1.heap.objs.size,[s1.heap.objs.size],_,_,H1,FQ,I1.kept (t':=s1.toks) λb o e=>XC _ e,F0 (ty:="str_iterator") (by decide) (λA hA=>Walks.strWide hA _ z t) λ_ _ _ _ _ st h=>wpAny_pyIter_striter_wide st h,⟨_,XF _ FQ,FQ,FQ⟩,fin,q⟩
 ·refine wpAny_pyIter_ascii ha ⟨s1.heap.objs.size,[s1.heap.objs.size],_,_,H1,FQ,I1.kept (t':=s1.toks) λb o e=>XC _ e,F0 (ty:="str_ascii_iterator") (by decide) (λA hA=>Walks.strAscii hA _ z t) λ_ _ _ _ _ st h=>wpAny_pyIter_striter_ascii st h,⟨_,XF _ FQ,FQ,FQ⟩,fin,q⟩
def Za5 (K:WY)(tl:TE):TI:=λσ H R=>tl σ H λx H1=>(∃a,x=.ref a/\(∃xs,Ws K H1 a xs)/\R (aH K a) H1)\/(∃a,x=.ref a/\(∃xs,U8 K H1 a xs)/\R (Zb1 K a) H1)\/∃z,x=.str z/\R (aG z) H1
def gj (hl:PE X e tl):PI X tg e (Za5 X.K tl):=by
 intro WZ s σ H R I h;refine Js (hl WZ s σ H _ I h) λv s1 zZ=>?_;obtain⟨x,H1,I1,r1,q1⟩:=zZ
 rcases q1 with⟨a,rfl,⟨xs,hq⟩,q⟩ | ⟨a,rfl,⟨xs,hq⟩,q⟩ | ⟨z,rfl,q⟩
 ·cases r1
  obtain⟨its,rv,p,hz⟩:=I1.list hq;refine wpAny_pyIter_list p.isList ?_;refine⟨s1.heap.objs.size,[s1.heap.objs.size],_,_,H1,FQ,I1.kept (t':=s1.toks) λb o e=>XC _ e,uy a _,⟨_,XF _ FQ,FQ,FQ⟩,λb hb=>?_,q⟩;have e:b=s1.heap.objs.size:=by simpa using hb
  subst e;exact I1.fpOk (XE _) (I1.hok.fresh (XE _))
 ·cases r1
  obtain⟨its,rv,p,hz⟩:=I1.tuple hq;refine wpAny_pyIter_tuple (show s1.heap.IsTuple a its.toArray from p) ?_;refine⟨s1.heap.objs.size,[s1.heap.objs.size],_,_,H1,FQ,I1.kept (t':=s1.toks) λb o e=>XC _ e,xz a _,⟨_,XF _ FQ,FQ,FQ⟩,λb hb=>?_,q⟩;have e:b=s1.heap.objs.size:=by simpa using hb
  subst e;exact I1.fpOk (XE _) (I1.hok.fresh (XE _))
 ·exact rg I1 r1 q
def J2 (h:Ji X e we):ip X tg e (wC we):=by
 obtain⟨t,p,s⟩:=h;refine⟨_,gj p,λF H C σ τ R R' χ Rr S h q=>?_⟩;refine s F H C σ τ _ _ χ Rr S h λx v H1 C1 R1 t1 rx h1=>?_
 cases v with
 | tup xs=>
  obtain⟨a,ys,rfl,hq,r⟩:=Yp rx;exact .inr (.inl ⟨a,FQ,⟨ys,hq⟩,q _ H1 xs _ C1 R1 t1 (λ_=>ff hq r) h1⟩)
 | cl xs=>
  obtain⟨a,ys,rfl,hq,r⟩:=Pb rx;exact .inl ⟨a,FQ,⟨ys,hq.sq⟩,q _ H1 xs _ C1 R1 t1 (λ_=>br hq r) h1⟩
 | str z=>cases Jo rx;exact .inr (.inr ⟨z,FQ,q _ H1 _ _ C1 R1 t1 (λ_=>fg) h1⟩)
 | ref a=>
  cases Z7 rx
  obtain⟨xs,hx,h1⟩:=h1;obtain⟨ys,hy,r⟩:=R1.lst hx;exact .inl ⟨a,FQ,⟨ys,Ws.of hy⟩,q _ H1 xs _ C1 R1 t1 (λ_=>lw) h1⟩
 | _=>exact False.elim h1
def pY (hg:Gl X "range")(hm:X.mg "range"=none)(ha:yw X [a] wA)(hs:autoParam (starEach [a] X.env=[(false,eval a X.env)]) QzR):ip X tg (.Call (.Name "range" p) [a] [] pos) (Zcm wA):=by
 obtain⟨t,p1,s⟩:=ha;refine⟨_,uD hg hm p1 hs,λF H C σ τ R R' χ Rr S h q=>?_⟩;refine s F H C σ τ _ _ χ Rr S h λxs vs H1 C1 R1 t1 rs h1=>?_;obtain⟨j,rfl,h2,h3,h1⟩:=h1;obtain⟨x,rfl,rx⟩:=Xj rs
 cases Ye rx
 exact⟨j,FQ,h2,h3,q _ H1 _ _ C1 R1 t1 (λ_=>pf) h1⟩
def bQ (hg:Gl X "range")(hm:X.mg "range"=none)(ha:yw X [a,b] wA)(hs:autoParam (starEach [a,b] X.env=[(false,eval a X.env),(false,eval b X.env)]) QzR)(hs2:autoParam (starEach [b] X.env=[(false,eval b X.env)]) QzR):ip X tg (.Call (.Name "range" p) [a,b] [] pos) (Zcl wA):=by
 obtain⟨t,p1,s⟩:=ha;refine⟨_,uC hg hm p1 hs hs2,λF H C σ τ R R' χ Rr S h q=>?_⟩;refine s F H C σ τ _ _ χ Rr S h λxs vs H1 C1 R1 t1 rs h1=>?_;obtain⟨i,j,rfl,h2,h1⟩:=h1;obtain⟨x,y,rfl,rx,ry⟩:=xT rs
 cases Ye rx;cases Ye ry
 exact⟨i,j,FQ,h2,q _ H1 _ _ C1 R1 t1 (λ_=>pf) h1⟩
end
def nD {K:WY}(hi:eG K wi i)(hg:wX K g g')(hb:tK K tb b):tK K (dM wi g tb) (iV i g' b):=λF H C σ τ D D' R S h d=>by
 refine hi F H C σ τ _ _ D'.xc R S h λJ H1 xs ok C1 R1 t1 it h1=>?_;have it1:=it F;refine⟨λi m σ H=>m=xs.length-i/\i<=xs.length/\∃τ C,Rl K F H C/\Tx H1 H/\Xo K H σ τ/\ya g' b ok D' (xs.drop i) τ C,⟨xs.length,by simp,Nat.zero_le _,τ,C1,R1,Tx.refl _,S.tx t1,h1⟩,?_⟩;rintro i m σ2 H2 ⟨rfl,hle,τ2,C2,R2,t2,S2,h2⟩;by_cases hlt:i<xs.length
 ·right;have ed:xs.drop i=xs[i]::xs.drop (i+1):=CV hlt;rw[ed] at h2;obtain⟨hok,h2⟩:=h2;obtain⟨hgo,hy⟩:=(it1 i H2 C2 R2 t2 hok).1 hlt;refine⟨hgo,λσ' H'=>∃τ' C',Rl K F H' C'/\Tx H1 H'/\Xo K H' σ' τ'/\ya g' b ok D' (xs.drop (i+1)) τ' C',λσ' H' q=>⟨xs.length-(i+1),by omega,FQ,hlt,q⟩,λx H' hx=>?_⟩;obtain⟨v,ev,R3,t3,rv⟩:=hy x H' hx;have:v=xs[i]:=by
   have e:xs[i]?=some xs[i]:=by simp[hlt]
   rw[e] at ev;exact(YH ev).symm
  subst this;refine hg F H' C2 σ2 τ2 x _ _ _ D'.xc R3 (S2.tx t3) rv h2 λσ4 τ4 H4 C4 R4 t4 S4 h4=>?_;have tt:Tx H1 H4:=(t2.trans t3).trans t4;exact hb F H4 C4 σ4 τ4 _ _ R4 S4 h4 ⟨λσ5 τ5 H5 C5 R5 t5 S5 h5=>⟨τ5,C5,R5,tt.trans t5,S5,h5⟩,λx v H5 C5 R5 t5=>d.rt x v H5 C5 R5 ((t1.trans tt).trans t5),λσ5 τ5 H5 C5 R5 t5 S5 h5=>d.nx σ5 τ5 H5 C5 R5 ((t1.trans tt).trans t5) S5 h5,
   λσ5 τ5 H5 C5 R5 t5 S5 h5=>⟨τ5,C5,R5,tt.trans t5,S5,h5⟩⟩
 ·left;have e:i=xs.length:=by omega
  subst e;rw[ES] at h2;obtain⟨hok,h2⟩:=h2;exact⟨(it1 _ H2 C2 R2 t2 hok).2 FQ,d.nx σ2 τ2 H2 C2 R2 (t1.trans t2) S2 h2⟩
def W1 {X:Cx}{pos:Pos}(hp:PassesOwn (model X.prog X.w) X.A X.env X.xe)(hc:X.calm=true)(hi:ip X tg iter i)(hg:eU X tg g)(hb:tV X body b)
  (hs:∀x,foldedSetIterable iter X.env x=pure x:=by intro _;rfl):tU X (.For tg iter body [] pos) (iV i g b):=by
 obtain⟨t,p,s⟩:=hi;obtain⟨t',p',s'⟩:=hg;obtain⟨t2,p2,s2⟩:=hb;exact⟨_,gc hp hc p p' p2 hs,nD s s' s2⟩
def ax (K:WY)(we:WE):TE:=λσ H Q=>∃(F:Hp) (C:Hw) (τ:Sw) (Q':WK) (χ:WX),Rl K F H C/\Xo K H σ τ/\we τ C Q' χ/\QE K F H Q Q'
def uz (K:WY)(wt:WT):TT:=λσ H Q=>∃(F:Hp) (C:Hw) (τ:Sw) (Q':Bool->Hw->Prop) (χ:WX),Rl K F H C/\Xo K H σ τ/\wt τ C Q' χ/\QT K F H Q Q'
def Ji.pe (h:Ji X e we):PE X e (ax X.K we):=by
 obtain⟨t,p,s⟩:=h;intro WZ st σ H Q I hq;obtain⟨F,C,τ,Q',χ,R,S,hw,q⟩:=hq;exact p WZ st σ H Q I (s F H C σ τ Q Q' χ R S hw q)
def oG (X:Cx)(ifs:List WW)(w:WT):Prop:=∃t,tL X ifs t/\Mm X.K t w
def V3:oG X [] iF:=⟨_,m7,λF H C σ τ Q Q' χ R S h q=>q true H C R (Tx.refl H) h⟩
def Kb (h:uh X e wt):oG X [e] wt:=by
 obtain⟨t,p,s⟩:=h;exact⟨t,m6 p,s⟩
def oG.pif (h:oG X ifs w):tL X ifs (uz X.K w):=by
 obtain⟨t,p,s⟩:=h;intro WZ st σ H Q I hq;obtain⟨F,C,τ,Q',χ,R,S,hw,q⟩:=hq;exact p WZ st σ H Q I (s F H C σ τ Q Q' χ R S hw q)
def Xo.cap {K:WY}(h:Xo K H σ τ)(cap:List (Option Nat)):Xo K H (Mi cap σ) (Bp cap τ):=by
 refine⟨by unfold Mi Bp;rw[XI,XI],λi v e=>?_⟩;unfold Bp at e;unfold Mi;rw[XM] at e |-
 cases ho:cap[i]? with
 | none=>rw[ho] at e;cases e
 | some o=>
  rw[ho] at e
  cases o with
  | none=>simp at e
  | some j=>
   have e':(τ[j]?).join=some v:=by simpa using e
   have e2:τ[j]?=some (some v):=by
    cases hj:τ[j]? with
    | none=>rw[hj] at e';cases e'
    | some z=>rw[hj] at e';rw[show z=some v from e']
   obtain⟨x,hx,r⟩:=h.2 j v e2;exact⟨x,by simp[hx],r⟩
def pI (F:Hp)(p:WP)(ys:List V):Hp:=λb=>if b=p then some (.lst ys) else F b
def Ly {F:Hp}:pI F p ys p=some (.lst ys):=by unfold pI;rw[XY rfl]
def zY {F:Hp}{p b:WP}(h:b≠p):pI F p ys b=F b:=by unfold pI;rw[XX h]
def yP {K:WY}{cap:List (Option Nat)}{wc:WT}{we:WE}(hi:eG K wi i)(hg:wX K g wg){F H:Hp}{C:Hw}{σ:L2.St}{τ:Sw}{Q:WP->Hp->Prop}{Q':WK}{χ:WX}
  (R:Rl K F H C) (S:Xo K H σ τ) (h:Lz cap i wg wc we τ C Q' χ) (q:∀p H' C',Rl K F H' C'->Tx H H'->Q' (.ref p) C'->Q p H'):zf cap wi g (uz K wc) (ax K we) σ H Q:=by
 refine hi F H C σ τ _ _ χ R S h λJ H1 xs ok C1 R1 t1 it h1=>?_;intro p hp;have hn:∀a o,F a=some o->a≠p:=λa o e=>J0 (R1.frm a o e).1 hp;refine⟨λi m H2=>m=xs.length-i/\i<=xs.length/\∃C2 ys acc,Rl K (pI F p ys) H2 C2/\Tx H1 H2/\Reps K H2 ys acc/\Kf wg wc we ok (Bp cap τ) (λvs C2=>∀p,C2 p=none->Q' (.ref p) (up C2 p (.lst vs))) χ (xs.drop i) acc C2,
  ⟨xs.length,by simp,Nat.zero_le _,C1,[],[],?_,Tx.new hp,Jc,h1⟩,?_⟩
 ·refine⟨(R1.hid hp).obj,λa o e=>?_⟩;by_cases ea:a=p
  ·subst ea;rw[Ly] at e;cases e;exact⟨Yq,R1.free hp⟩
  ·rw[zY ea] at e;exact(R1.hid hp).frm a o e
 rintro i m H2 ⟨rfl,hle,C2,ys,acc,R2,t2,ra,h2⟩;by_cases hlt:i<xs.length
 ·right;have ed:xs.drop i=xs[i]::xs.drop (i+1):=CV hlt;rw[ed] at h2;obtain⟨hok,h2⟩:=h2;obtain⟨hgo,hy⟩:=(it (pI F p ys) i H2 C2 R2 t2 hok).1 hlt;refine⟨hgo,λH'=>∃C2 ys acc,Rl K (pI F p ys) H' C2/\Tx H1 H'/\Reps K H' ys acc/\Kf wg wc we ok (Bp cap τ) (λvs C2=>∀p,C2 p=none->Q' (.ref p) (up C2 p (.lst vs))) χ (xs.drop (i+1)) acc C2,
   λH' z=>⟨xs.length-(i+1),by omega,FQ,hlt,z⟩,λx H' hx=>?_⟩
  obtain⟨v,ev,R3,t3,rv⟩:=hy x H' hx;have:v=xs[i]:=by
   have e:xs[i]?=some xs[i]:=by simp[hlt]
   rw[e] at ev;exact(YH ev).symm
  subst this;have S3:Xo K H' (Mi cap σ) (Bp cap τ):=(S.tx ((t1.trans t2).trans t3)).cap cap;refine hg (pI F p ys) H' C2 (Mi cap σ) (Bp cap τ) x _ _ _ χ R3 S3 rv h2 λσ4 τ4 H4 C4 R4 t4 S4 h4=>?_;refine⟨pI F p ys,C4,τ4,_,χ,R4,S4,h4,λb H5 C5 R5 t5 h5=>?_⟩;have t15:Tx H2 H5:=(t3.trans t4).trans t5
  cases b with
  | true=>
   refine⟨pI F p ys,C5,τ4,_,χ,R5,S4.tx t5,h5,λy vy H6 C6 R6 t6 ry h6=>?_⟩;obtain⟨e6,n6⟩:=R6.frm p _ Ly;have tp:Tx H6 (Je H6 p (.lst (ys++[y]))):=Tx.put e6 (λz=>z);refine⟨ys,e6,by rw[ra.length];exact h6.1,C6,ys++[y],acc++[vy],⟨λa o e=>?_,λa o e=>?_⟩,(t2.trans (t15.trans t6)).trans tp,((ra.tx (t15.trans t6)).snoc ry).tx tp,h6.2⟩
   ·have ea:a≠p:=λz=>by subst z;rw[n6] at e;cases e
    exact(R6.obj a o e).stay tp (Yd ea)
   ·by_cases ea:a=p
    ·subst ea;rw[Ly] at e;cases e;exact⟨Yq,n6⟩
    ·rw[zY ea] at e;rw[Yd ea];exact R6.frm a o (by rw[zY ea];exact e)
  | false=>exact⟨C5,ys,acc,R5,t2.trans t15,ra.tx t15,h5⟩
 ·left;have e:i=xs.length:=by omega
  subst e;rw[ES] at h2;obtain⟨hok,h2⟩:=h2;refine⟨(it (pI F p ys) _ H2 C2 R2 t2 hok).2 FQ,?_⟩;obtain⟨e6,n6⟩:=R2.frm p _ Ly;refine q p H2 (up C2 p (.lst acc)) ⟨λa o e=>?_,λa o e=>?_⟩ (t1.trans t2) (h2 p n6)
  ·by_cases ea:a=p
   ·subst ea;rw[Zh] at e;cases e;exact⟨ys,e6,ra⟩
   ·rw[Zn ea] at e;exact R2.obj a o e
  ·have ea:=hn a o e;rw[Zn ea];exact R2.frm a o (by rw[zY ea];exact e)
section
variable {X:Cx}{tg iter elt:WW}{ifs:List WW}{scope:Scope}{pos:Pos}{cN:List Str}{cap:List (Option Nat)}{cl:List (Str×WP)}{js:List Nat}{i:WI}{g:TG}{wg:WG}{wc:WT}{we:WE}
def Bz {K:WY}:∀(σ:L2.St) (H:Hp) (Q Q':Bool->Hp->Prop),(∀b H',Q b H'->Q' b H')->uz K w σ H Q->uz K w σ H Q':=λσ H Q Q' m h=>by
 obtain⟨F,C,τ,R',χ,R,S,hw,q⟩:=h;exact⟨F,C,τ,R',χ,R,S,hw,λb H' C' r t h=>m _ _ (q b H' C' r t h)⟩
structure ix (X:Cx)(tg iter elt:Expr)(ifs:List Expr)(scope:Scope)(cN:List Str)(cap:List (Option Nat))(cl:List (Str×Addr))(js:List Nat)(i:WI)(g:TG)(wg:WG)(wc:WT)(we:WE):Prop where
 calm:X.calm=true
 ok:X.Ok->D5 X cN cap scope cl
 it:ip X tg iter i
 tgt:∀fp s H,PG (Y7 X cN scope cl fp s H) tg g
 gm:Ml g
 gk:A0 js g
 sg:wX X.K g wg
 js0:∀j∈js,(cap[j]?).join=none
 ts:∀fp s H,oG (Y7 X cN scope cl fp s H) ifs wc
 el:∀fp s H,Ji (Y7 X cN scope cl fp s H) elt we
 fold:∀x,foldedSetIterable iter X.env x=pure x
def U0 (D:ix X tg iter elt ifs scope cN cap cl js i g wg wc we):Ji X (.ListComp elt [⟨tg,iter,ifs,0⟩] scope pos) (Lz cap i wg wc we):=by
 obtain⟨wi,p,s⟩:=D.it;have P:xl X tg iter elt ifs scope cN cap cl js wi g (uz X.K wc) (ax X.K we):=⟨D.calm,D.ok,p,D.tgt,D.gm,D.gk,D.js0,λfp s H=>(D.ts fp s H).pif,Bz,λfp s H=>(D.el fp s H).pe,D.fold⟩;exact⟨_,mE P,λF H C σ τ Q Q' χ R S h q=>yP s D.sg R S h λp H' C' R' t' h'=>q _ _ H' C' R' t' Jm h'⟩
def Mg {k:Nat}{py spos:Pos}(hN:X.N.Nodup)(hi:X.N[k]?=some y)(hy:X.env.scope.names.lookup y=some .local)
  (hsw:swapsWith (.ListComp elt [⟨tg,iter,ifs,0⟩] scope pos) (some (.Name y py)) spos.line X.env=pure true)
  (D:ix X tg iter elt ifs scope cN cap cl js i g wg wc we):tU X (.Assign [.Name y py] (.ListComp elt [⟨tg,iter,ifs,0⟩] scope pos) spos) (T7 (Lz cap i wg wc we) (Bl k)):=by
 obtain⟨wi,p,s⟩:=D.it;have P:xl X tg iter elt ifs scope cN cap cl js wi g (uz X.K wc) (ax X.K we):=⟨D.calm,D.ok,p,D.tgt,D.gm,D.gk,D.js0,λfp s H=>(D.ts fp s H).pif,Bz,λfp s H=>(D.el fp s H).pe,D.fold⟩;exact⟨_,xM hN hi hy hsw P,λF H C σ τ E E' R S h d=>yP s D.sg R S h λp H' C' R' t' h'=>d.nx _ _ H' C' R' t' ((S.tx t').set Jm) h'⟩
end
def Yh {k:Nat}(hr:X8 k A):A.units+150<cLine:=by have:=hr.un;omega
def spW (K:WY)(pr:List Df)(n i:Nat):Sp:=λvs H Q _=>∃(F:Hp) (C:Hw) (vs':List T) (Q':WK) (χ:WX),Rl K F H C/\Reps K H vs vs'/\Z4 pr n i vs' C Q' χ/\QE K F H Q Q'
def Zt {X:Cx}{k i:Nat}{p pos:Pos}{e:WW}{es:List WW}(Cc:Ca X.prog X.w X.K X.mg X.base k x ps (spW X.K pr k i))(hr:X8 k X.A)(hg:Gl X x)(ha:yw X (e::es) wA)
  (hdb:autoParam ((x==("__debug__":Str))=false) QzD) (he:autoParam (starEach (e::es) X.env=(false,eval e X.env)::starEach es X.env) QzR) (hpl:autoParam ((backTo pos (starEach es X.env)).any (·.1)=false) QzR):
  Ji X (.Call (.Name x p) (e::es) [] pos) (Vj (Z4 pr k) i wA):=by
 obtain⟨t,p1,s⟩:=ha;refine⟨_,cL Cc hr hg p1 hdb he hpl,λF H C σ τ Q Q' χ R S h q=>?_⟩;refine s F H C σ τ _ _ χ R S h λxs vs H1 C1 R1 t1 rs h1=>?_;refine⟨F,C1,vs,Q',χ,R1,?_,h1,QE.at q t1⟩;rw[YK];exact rs
def Xo.start {K:WY}(h:Reps K H vs vs')(N:List Str)(m:Nat)(e:m=N.length-vs.length):Xo K H (start N vs) (vs'.map some++List.replicate m none):=by
 refine⟨?_,λi v hv=>?_⟩
 ·unfold L2.start;rw[BX,BX,XI,XI,ET,ET,h.length,e,h.length]
 ·unfold L2.start;by_cases hi:i<vs'.length
  ·rw[ED (by rw[XI];exact hi),XM] at hv
   cases hg:vs'[i]? with
   | none=>rw[hg] at hv;cases hv
   | some z=>
    rw[hg] at hv
    cases hv
    obtain⟨x,hx,r⟩:=h.get hg;refine⟨x,?_,r⟩;rw[ED (by rw[XI,h.length];exact hi),XM,hx];rfl
  ·rw[List.getElem?_append_right (by rw[XI];omega),List.getElem?_replicate] at hv
   split at hv
   ·cases hv
   ·cases hv
def lX {K:WY}{mg:Str->Option WQ}{st:WV}{f:WP}(F:vc K x x st f fd)(hb:Wo K fd ps [])(hm:mg x=some (.ref f)):Ca P w K mg base 0 x ps (spW K pr 0 i):=
 ⟨f,fd,⟨λvs H Q E h=>by obtain⟨_,_,_,_,_,_,_,z,_⟩:=h;exact z.elim,λA outer s H args us vs Q E _ _ _ _ h=>by obtain⟨_,_,_,_,_,_,_,z,_⟩:=h;exact z.elim⟩,hb,F.kp,hm⟩
def lY {K:WY}{mg:Str->Option WQ}{st:WV}{f:WP}(F:vc K x x st f fd)(hb:Wo K fd ps [])(hm:mg x=some (.ref f))(G:Vk P w K mg base CX0 n f fd ps sp):Ca P w K mg base n x ps sp:=
 ⟨f,fd,G,hb,F.kp,hm⟩
def law_sp {K:WY}{ns:List Int}(hO:oH H)(hS:Ws K H a (ns.map V.int))(h:Z4 pr n i [.cl (ns.map T.int)] (λ_=>none) (λv _=>v=.bl true) (λ_ _=>False)):
  spW K pr n i [.ref a] H (λv _=>v=.bl true) (λ_ _ _=>False):=by
 have hq:im K H a (ns.map V.int):=by
  rcases hS with(h | ⟨o,h⟩) | h
  ·rcases hO a with e | ⟨o,xs,e⟩
   ·rw[e] at h;cases h
   ·rw[e] at h;cases h
  ·exact .inl ⟨o,h⟩
  ·exact .inr h
 refine⟨λ_=>none,λ_=>none,[.cl (ns.map T.int)],_,_,⟨(λ_ _ e=>by cases e),(λ_ _ e=>by cases e)⟩,Yn ?_ Jc,h,λx v H' C' R t r e=>?_⟩
 ·unfold Jr;exact⟨a,_,FQ,hq,K9 ns⟩
 ·subst e;exact Sq r
end WL
namespace L2
open PySem PySem.Spec PyProof.Rows
section
variable {κ:Type}[DecidableEq κ]
def U9 (kvs:List (κ×V))(k:κ):Option V:=(kvs.find? λkv=>decide (kv.1=k)).map (·.2)
def W4 (kvs:List (κ×V))(k:κ)(v:V):List (κ×V):=
 if (kvs.any λkv=>decide (kv.1=k))=true then kvs.map (λkv=>if kv.1=k then(kv.1,v) else kv) else kvs++[(k,v)]
def Ka (kvs:List (κ×V))(k:κ):List (κ×V):=kvs.filter λkv=>decide (kv.1≠k)
def Mw {p:κ×V}{r:List (κ×V)}{k:κ}(e:p.1=k):U9 (p::r) k=some p.2:=by simp[U9,List.find?_cons,e]
def Mx {p:κ×V}{r:List (κ×V)}{k:κ}(e:¬p.1=k):U9 (p::r) k=U9 r k:=by simp[U9,List.find?_cons,e]
theorem y9 (k:κ):∀kvs:List (κ×V),(kvs.any λkv=>decide (kv.1=k))=(U9 kvs k).isSome
 | []=>rfl
 | p::r=>by
  rw[DE];by_cases e:p.1=k
  ·simp only[Mw e,decide_eq_true e,Bool.true_or,Option.isSome_some]
  ·rw[Mx e,YG e,Bool.false_or];exact y9 k r
def Ph (kvs:List (κ×V))(k:κ)(v:V):(W4 kvs k v).length<=kvs.length+1:=by
 unfold W4
 split
 ·rw[XI];omega
 ·rw[BX,YF,FP];omega
def S6.isSome_eq (r:S6 o u):o.isSome=u.isSome:=by
 cases o with
 | none=>cases u with
  | none=>rfl
  | some _=>exact(show False from r).elim
 | some _=>cases u with
  | none=>exact(show False from r).elim
  | some _=>rfl
def S6.getD (r:S6 o u)(rd:Yg d d'):Yg (o.getD d) (u.getD d'):=by
 cases o with
 | none=>cases u with
  | none=>exact rd
  | some _=>exact(show False from r).elim
 | some _=>cases u with
  | none=>exact(show False from r).elim
  | some _=>exact r
def KV.val (r:KV kvs vs)(k:κ):S6 (U9 kvs k) (valueAt vs k):=by
 unfold KV at r
 induction r with
 | nil=>exact True.intro
 | @cons p q ps qs h t ih=>
  obtain⟨h1,h2⟩:=h;by_cases e:p.1=k
  ·have e':q.1=k:=h1.symm.trans e;have b:valueAt (q::qs) k=some q.2:=by simp[valueAt,List.find?_cons,e']
   rw[Mw e,b];exact h2
  ·have e':¬q.1=k:=λz=>e (h1.trans z);have b:valueAt (q::qs) k=valueAt qs k:=by simp[valueAt,List.find?_cons,e']
   rw[Mx e,b];exact ih
def KV.any (r:KV kvs vs)(k:κ):(kvs.any λkv=>decide (kv.1=k))=vs.any λkv=>decide (kv.1=k):=by
 unfold KV at r
 induction r with
 | nil=>rfl
 | cons h t ih=>rw[DE,DE,ih,h.1]
def KV.repl (r:KV kvs vs)(k:κ)(ry:Yg y u):
  KV (kvs.map λkv=>if kv.1=k then(kv.1,y) else kv) (vs.map λkv=>if kv.1=k then(kv.1,u) else kv):=by
 unfold KV at r |-
 induction r with
 | nil=>exact .nil
 | @cons p q ps qs h t ih=>
  rw[YI,YI];refine .cons ?_ ih;obtain⟨h1,h2⟩:=h;by_cases e:p.1=k
  ·rw[XY e,XY (h1.symm.trans e)];exact⟨h1,ry⟩
  ·rw[XX e,XX (λz=>e (h1.trans z))];exact⟨h1,h2⟩
def KV.put (r:KV kvs vs)(k:κ)(ry:Yg y u):KV (W4 kvs k y) (stored vs k u):=by
 unfold W4 stored;rw[r.any k];by_cases e:(vs.any λkv=>decide (kv.1=k))=true
 ·rw[XY e,XY e];exact r.repl k ry
 ·rw[XX e,XX e];exact Paired.snoc r ⟨FQ,ry⟩
def KV.drop (r:KV kvs vs)(k:κ):KV (Ka kvs k) (without vs k):=by
 unfold KV at r |-;unfold Ka without
 induction r with
 | nil=>exact .nil
 | @cons p q ps qs h t ih=>
  obtain⟨h1,h2⟩:=h;rw[List.filter_cons,List.filter_cons];by_cases e:p.1=k
  ·have a:¬decide (p.1≠k)=true:=by simp[e]
   have b:¬decide (q.1≠k)=true:=by simp[h1.symm.trans e]
   rw[XX a,XX b];exact ih
  ·have e':¬q.1=k:=λz=>e (h1.trans z);have a:decide (p.1≠k)=true:=by simp[e]
   have b:decide (q.1≠k)=true:=by simp[e']
   rw[XY a,XY b];exact .cons ⟨h1,h2⟩ ih
def KV.length (r:KV kvs vs):kvs.length=vs.length:=Paired.length r
def pU (kvs:List (κ×V))(k:κ):(Ka kvs k).length<=kvs.length:=List.length_filter_le _ _
end
def Nd {k:Yo}(r:Yg (kV k) u):(Yw P w).is k u=true:=by
 cases k with
 | inl i=>obtain⟨t,e⟩:=(show ∃t,u=Value.int i t from r);subst e;exact jh P w i t
 | inr x=>obtain⟨t,e⟩:=(show ∃t,u=Value.str x t from r);subst e;exact jg P w x t
theorem Aj:∀{ks:List Yo} {us:List WQ},Yf (ks.map kV) us->ItemsAre (Yw P w) ks us
 | [],_,r=>by rw[FA] at r;cases r;exact .nil
 | k::ks,_,r=>by
  rw[YI] at r
  cases r with
  | cons h t=>exact .cons (Nd h) (Aj t)
abbrev KT (H:Hp):List (List Yo×V)->List (List Yo×WP×WQ)->Prop:=Paired λp q=>p.1=q.1/\H q.2.1=some (.tup (p.1.map kV))/\Yg p.2 q.2.2
def KT.val (r:KT H kvs xs)(k:List Yo):S6 (U9 kvs k) ((atKey xs k).map (·.2)):=by
 induction r with
 | nil=>exact True.intro
 | @cons p q ps qs h t ih=>
  obtain⟨h1,_,h2⟩:=h;by_cases e:p.1=k
  ·have e':q.1=k:=h1.symm.trans e;have b:atKey (q::qs) k=some q.2:=by simp[atKey,List.find?_cons,e']
   rw[Mw e,b];exact h2
  ·have e':¬q.1=k:=λz=>e (h1.trans z);have b:atKey (q::qs) k=atKey qs k:=by simp[atKey,List.find?_cons,e']
   rw[Mx e,b];exact ih
def KT.repl (r:KT H kvs xs)(k:List Yo)(ry:Yg y u):
  KT H (kvs.map λkv=>if kv.1=k then(kv.1,y) else kv) (xs.map (putAt k u)):=by
 induction r with
 | nil=>exact .nil
 | @cons p q ps qs h t ih=>
  rw[YI,YI];refine .cons ?_ ih;obtain⟨h1,h2,h3⟩:=h;unfold putAt;by_cases e:p.1=k
  ·rw[XY e,XY (h1.symm.trans e)];exact⟨h1,h2,ry⟩
  ·rw[XX e,XX (λz=>e (h1.trans z))];exact⟨h1,h2,h3⟩
def KT.put (r:KT H kvs xs)(k:List Yo)(hb:H b=some (.tup (k.map kV)))(ry:Yg y u):
  KT H (W4 kvs k y) (storedH xs k b u):=by
 have e:(kvs.any λkv=>decide (kv.1=k))=(atKey xs k).isSome:=by
  rw[y9,(r.val k).isSome_eq,FH]
 unfold W4 storedH;rw[e];by_cases q:(atKey xs k).isSome=true
 ·rw[XY q,XY q];exact r.repl k ry
 ·rw[XX q,XX q];exact Paired.snoc r ⟨FQ,hb,ry⟩
def KT.keeps {H H':Hp}(r:KT H kvs xs)(ht:∀b ys,H b=some (.tup ys)->H' b=some (.tup ys)):KT H' kvs xs:=
 Paired.mapP r λ_ _ z=>⟨z.1,ht _ _ z.2.1,z.2.2⟩
section
variable {P:WO}{w:WN}{H:Hp}{h:WU}{a:WP}
def kG (ok:Td P w H h)(e:Rd H a u):J1 P w H h a u:=e.ok ok
def Ng (ok:Td P w H h)(e:Rd H a (.dK kvs)):kvs.length<=sizeLine/\(a==sysModules)=false/\∃vs,KV kvs vs/\h.DictOf (Yw P w) a vs:=
 show J1 P w H h a (.dK kvs) from kG ok e
def Ar (ok:Td P w H h)(e:H a=some (.dK kvs)):kvs.length<=sizeLine/\(a==sysModules)=false/\∃vs,KV kvs vs/\h.DictOf (Yw P w) a vs:=Ng ok (.inl e)
def Ik {ks:List Yo}(ok:Td P w H h)(e:H a=some (.tup (ks.map kV))):(tupleKind (Yw P w)).is h ks a:=by
 obtain⟨_,its,r,o,h1,h2,n,h3⟩:=(show J1 P w H h a (.tup (ks.map kV)) from ok a _ e);exact⟨o,its.toArray,n,h1,h2,h3,by simpa using Aj r⟩
def Dl (ok:Td P w H h)(e:Rd H a (.dT kvs)):kvs.length<=sizeLine/\(a==sysModules)=false/\
  ∃xs,KT H kvs xs/\h.DictOfH (tupleKind (Yw P w)) a xs:=by
 obtain⟨z,y,xs,r,o,es,ep,h1,h2,h3,h4,h5⟩:=(show J1 P w H h a (.dT kvs) from kG ok e);refine⟨z,y,xs,r,o,es,ep,h1,h2,h3,h4,λx hx=>?_,h5⟩;have all:∀{l:List (List Yo×V)} {m:List (List Yo×WP×WQ)},KT H l m->∀x∈m,(tupleKind (Yw P w)).is h x.1 x.2.1:=by
  intro l m q
  induction q with
  | nil=>intro x hx;exact nomatch hx
  | @cons p q ps qs hq t ih=>
   intro x hx
   rcases CH.mp hx with e | hx
   ·subst e;exact Ik ok (by rw[<-hq.1];exact hq.2.1)
   ·exact ih x hx
 exact all r x hx
def bO (ok:Td P w H h)(e:H a=some (.dT kvs)):kvs.length<=sizeLine/\(a==sysModules)=false/\
  ∃xs,KT H kvs xs/\h.DictOfH (tupleKind (Yw P w)) a xs:=Dl ok (.inl e)
end
def Bv (H:Hp)(a:WP)(y:V)(r:Option V):Prop:=
 (∃kvs k,Rd H a (.dK kvs)/\y=kV k/\r=U9 kvs k)\/∃kvs k b,Rd H a (.dT kvs)/\y=.ref b/\H b=some (.tup (k.map kV))/\r=U9 kvs k
def tO (H:Hp)(a:WP)(y v:V)(H':Hp):Prop:=
 (∃kvs k,H a=some (.dK kvs)/\y=kV k/\kvs.length<sizeLine/\H'=Je H a (.dK (W4 kvs k v)))\/
 ∃kvs k b,H a=some (.dT kvs)/\y=.ref b/\H b=some (.tup (k.map kV))/\kvs.length<sizeLine/\H'=Je H a (.dT (W4 kvs k v))
def tO.k {H:Hp}{k:Yo}(e:H a=some (.dK kvs))(hl:kvs.length<sizeLine):tO H a (kV k) v (Je H a (.dK (W4 kvs k v))):=.inl ⟨kvs,k,e,FQ,hl,FQ⟩
section
variable {X:Cx}{WZ:List (WP×Obj)}{σ:St}{H:Hp}{s:WR}{a:WP}{y v:V}{u r:WQ}{o:Option V}{A:WM}{E:WQ->WR->Prop}
def Z2.big (I:Z2 X WZ σ H s):sysModules<s.heap.objs.size:=by
 have h:mainGlobals<s.heap.objs.size:=(I.mod.glob.keeps I.bk).lt;exact Nat.lt_trans (by decide) h
def tD {Q:WQ->WR->Prop}(hu:A.units+1<cLine)(I:Z2 X WZ σ H s)(g:Bv H a y (some v))(ry:Yg y u)(h:∀w' s',Z2 X WZ σ H s'->Yg v w'->Q w' s'):
  wpAny (model X.prog X.w) A (getItem (.ref a) u) Q E s:=by
 rcases g with⟨kvs,k,e,ey,l⟩ | ⟨kvs,k,b,e,ey,eb,l⟩
 ·subst ey;obtain⟨z,hd,vs,rel,dd⟩:=Ng I.hok e;obtain⟨w',hw,rw'⟩:=S6.some_of (v:=v) (o:=valueAt vs k) (by rw[l];exact rel.val k);exact wpAny_getItem_of (Nd ry) dd.mapOf hw (h w' _ (I.tok _) rw')
 ·subst ey
  cases (show u=Value.ref b from ry)
  obtain⟨z,hd,xs,rel,dd⟩:=Dl I.hok e;obtain⟨w',hw,rw'⟩:=S6.some_of (v:=v) (o:=(atKey xs k).map (·.2)) (by rw[l];exact rel.val k);obtain⟨p,hp,hp2⟩:=DC.mp hw;refine wpAny_getItem_heap (tupleKind_room_in1 hu) (Ik I.hok eb) dd hp ?_;rw[hp2];exact h w' _ (I.tok _) rw'
def Zbd {Q:WQ->WR->Prop}(hu:A.units+1<cLine)(I:Z2 X WZ σ H s)(g:Bv H a y o)(ry:Yg y u)(h:∀s',Z2 X WZ σ H s'->Q (.bool o.isSome) s'):
  wpAny (model X.prog X.w) A (compareOp .In u (.ref a)) Q E s:=by
 rcases g with⟨kvs,k,e,ey,l⟩ | ⟨kvs,k,b,e,ey,eb,l⟩
 ·subst ey;obtain⟨z,hd,vs,rel,dd⟩:=Ng I.hok e;refine wpAny_in_of (Nd ry) hd dd.mapOf ?_;rw[<-(rel.val k).isSome_eq,<-l];exact h _ (I.tok _)
 ·subst ey
  cases (show u=Value.ref b from ry)
  obtain⟨z,hd,xs,rel,dd⟩:=Dl I.hok e;refine wpAny_in_heap (tupleKind_room_in1 hu) (Ik I.hok eb) hd dd ?_;have q:=(rel.val k).isSome_eq;rw[FH] at q;rw[<-q,<-l];exact h _ (I.tok _)
def lO {Q:WQ->WR->Prop}(hu:A.units+1<cLine)(I:Z2 X WZ σ H s)(g:Bv H a y o)(ry:Yg y u)(h:∀s',Z2 X WZ σ H s'->Q (.bool (!o.isSome)) s'):
  wpAny (model X.prog X.w) A (compareOp .NotIn u (.ref a)) Q E s:=by
 rcases g with⟨kvs,k,e,ey,l⟩ | ⟨kvs,k,b,e,ey,eb,l⟩
 ·subst ey;obtain⟨z,hd,vs,rel,dd⟩:=Ng I.hok e;refine wpAny_notIn_of (Nd ry) hd dd.mapOf ?_;rw[<-(rel.val k).isSome_eq,<-l];exact h _ (I.tok _)
 ·subst ey
  cases (show u=Value.ref b from ry)
  obtain⟨z,hd,xs,rel,dd⟩:=Dl I.hok e;refine wpAny_notIn_heap (tupleKind_room_in1 hu) (Ik I.hok eb) hd dd ?_;have q:=(rel.val k).isSome_eq;rw[FH] at q;rw[<-q,<-l];exact h _ (I.tok _)
def Kd {t':Nat}(I:Z2 X WZ σ H s)(mu:aj (H a))(hs:Heap.SameBut a s.heap h')(he:∃q,h'.get? a=some q)(new:J1 X.prog X.w (Je H a ob) h' a ob):
  Z2 X WZ σ (Je H a ob) {s with heap:=h',toks:=t'}:=
 I.write (x:=a) (e:=a) mu (.inl FQ) (λb q hb z=>(hs.2 b hb).trans z) he new
def Iu {H':Hp}{h':WU}{kvs:List (Yo×V)}(z:kvs.length<=sizeLine)(hd:(a==sysModules)=false)(rel:KV kvs vs)(dd:h'.DictOf (Yw P w) a vs):
  J1 P w H' h' a (.dK kvs):=⟨z,hd,vs,rel,dd⟩
def t9 {Q:Unit->WR->Prop}(hu:A.units+1<cLine)(I:Z2 X WZ σ H s)(g:tO H a y v H')(ry:Yg y u)(rv:Yg v r)(h:∀s',Z2 X WZ σ H' s'->Q () s'):
  wpAny (model X.prog X.w) A (setItem (.ref a) u r) Q E s:=by
 rcases g with⟨kvs,k,e,ey,l,eH⟩ | ⟨kvs,k,b,e,ey,eb,l,eH⟩
 ·subst ey eH;obtain⟨z,hd,vs,rel,dd⟩:=Ar I.hok e;have hz:vs.length<=sizeLine:=by rw[<-rel.length];exact z
  have hl:(W4 kvs k v).length<=sizeLine:=by have:=Ph kvs k v;omega
  refine wpAny_setItem_pairs (hsz:=hz) (Nd ry) dd λh' dd' hs=>h _ ?_;have he:∃q,h'.get? a=some q:=let ⟨q,_,_,hq,_⟩:=dd';⟨q,hq⟩
  exact Kd I (by rw[e];exact True.intro) hs he (Iu hl hd (rel.put k rv) dd')
 ·subst ey eH
  cases (show u=Value.ref b from ry)
  obtain⟨z,hd,xs,rel,dd⟩:=bO I.hok e;have hz:xs.length<=sizeLine:=by rw[<-Paired.length rel];exact z
  have hl:(W4 kvs k v).length<=sizeLine:=by have:=Ph kvs k v;omega
  refine wpAny_setItem_heap (hsz:=hz) (tupleKind_room_in1 hu) (Ik I.hok eb) dd λh' dd' hs=>h _ ?_;obtain⟨q,es,ep,hq,h2,h3,h4,_,h5⟩:=dd';refine Kd I (by rw[e];exact True.intro) hs ⟨q,hq⟩ ⟨hl,hd,_,(rel.put k eb rv).keeps λc ys ec=>?_,q,es,ep,hq,h2,h3,h4,h5⟩;rw[Yd (bd ec e (λz=>nomatch z))];exact ec
end
section
variable {X:Cx}{WZ:List (WP×Obj)}{σ:St}{H:Hp}{s:WR}{a:WP}{kvs:List (Yo×V)}{k:Yo}{u:WQ}{A:WM}{E:WQ->WR->Prop}
def bR {more:List WQ}{Q:WQ->WR->Prop}(I:Z2 X WZ σ H s)(e:H a=some (.dK kvs))(ry:Yg (kV k) u)(l:U9 kvs k=some v)(hm:more=[]\/∃x,more=[x])
  (h:∀w' s',Z2 X WZ σ (Je H a (.dK (Ka kvs k))) s'->Yg v w'->Q w' s'):wpAny (model X.prog X.w) A (call (.builtin "dict.pop") (.ref a::u::more)) Q E s:=by
 obtain⟨z,hd,vs,rel,dd⟩:=Ar I.hok e;obtain⟨w',hw,rw'⟩:=S6.some_of (v:=v) (o:=valueAt vs k) (by rw[<-l];exact rel.val k);have hp:(keyPart u).isSome=true:=by
  cases k with
  | inl i=>obtain⟨t,q⟩:=(show ∃t,u=Value.int i t from ry);subst q;rfl
  | inr x=>obtain⟨t,q⟩:=(show ∃t,u=Value.str x t from ry);subst q;rfl
 have ha:argsOk "dict.pop" ⟨.ref a::u::more,[]⟩:=by
  rcases hm with q | ⟨x,q⟩
  ·subst q;exact PySem.F.args_dict_pop_2 _ _
  ·subst q;exact PySem.F.args_dict_pop_3 _ _ _
 refine call_meetsIn EV dd.typeIs PySem.F.entry_dict_pop ha (meets_dict_pop_there (Yw X.prog X.w) a (Nd ry) more hm hp)
  ⟨vs,w',dd,by rw[<-rel.length];exact z,hw,λh' dd' hs=>h w' _ ?_ rw'⟩
 have he:∃q,h'.get? a=some q:=let ⟨q,_,_,hq,_⟩:=dd';⟨q,hq⟩
 exact Kd I (by rw[e];exact True.intro) hs he (Iu (XN (pU kvs k) z) hd (rel.drop k) dd')
def fJ {Q:WQ->WR->Prop}(I:Z2 X WZ σ H s)(e:H a=some (.dK kvs))(ry:Yg (kV k) u)(l:U9 kvs k=none)(h:∀s',Z2 X WZ σ H s'->Q r s'):
  wpAny (model X.prog X.w) A (call (.builtin "dict.pop") [.ref a,u,r]) Q E s:=by
 obtain⟨z,hd,vs,rel,dd⟩:=Ar I.hok e;have hn:valueAt vs k=none:=S6.none_of (by rw[<-l];exact rel.val k);have hp:(keyPart u).isSome=true:=by
  cases k with
  | inl i=>obtain⟨t,q⟩:=(show ∃t,u=Value.int i t from ry);subst q;rfl
  | inr x=>obtain⟨t,q⟩:=(show ∃t,u=Value.str x t from ry);subst q;rfl
 exact call_meetsIn EV dd.typeIs PySem.F.entry_dict_pop (PySem.F.args_dict_pop_3 _ _ _) (meets_dict_pop_default (Yw X.prog X.w) a (Nd ry) hd hp r) ⟨vs,dd,hn,h _ (I.tok _)⟩
end
def eK (i:WW):Prop:=∀ov iv,subscripted i false ov iv=operate [ov,iv] (getItem ov iv)
def n9 {prog:WO}{w:WN}{A:WM}{E:WQ->WR->Prop}{s:WR}{env:Env}{value slice:WW}{pos:Pos}{T id:String}{Q:WQ->WR->Prop}
  (hl:typeLookup (.type T) "__getitem__"=pure (some (.builtin id))) (hs:eK slice)
  (h:wpAny (model prog w) A (eval value env) (λo s₁=>wpAny (model prog w) A (eval slice env) (λi s₂=>s₂.TypeIs o T/\wpAny (model prog w) A (getItem o i) Q E s₂) E s₁) E s):
  wpAny (model prog w) A (eval (.Subscript value slice pos) env) Q E s:=by
 refine Subscript_ (wpAny_mono h (λo s₁ h₁=>wpAny_mono h₁ (λi s₂ h₂=>?_) λ_ _ x=>x) λ_ _ x=>x);obtain⟨hT,h₂⟩:=h₂;unfold subscriptTail;refine XA ?_;rw[getitemInPython_of_ne hT.not_modules];refine XA (wpAny_specialOf hT hl ?_);have fin:wpAny (model prog w) A (subscripted slice false o i) (λr s₃=>wpAny (model prog w) A (letTemporaryGo value o r>>=λ_=>pure r) Q E s₃) E s₂:=by
  rw[hs o i];exact wpAny_operating (wpAny_mono h₂ (λr s₃ h₃=>XA (wpAny_letTemporaryGo (XB h₃))) λ_ _ x=>x)
 first
  | exact XB (XA fin)
  | exact XA (XB (XA fin))
  | exact XA fin
def jP (I:Z2 X WZ σ H s)(g:Bv H a y o):s.TypeIs (.ref a) "dict":=by
 rcases g with⟨kvs,k,e,_,_⟩ | ⟨kvs,k,b,e,_,_,_⟩
 ·obtain⟨_,_,vs,_,dd⟩:=Ng I.hok e;exact dd.typeIs
 ·obtain⟨_,_,xs,_,dd⟩:=Dl I.hok e;exact dd.typeIs
def dQ (td ty:TE):TE:=λσ H Q=>td σ H λx H1=>ty σ H1 λy H2=>∃a v,x=.ref a/\Bv H2 a y (some v)/\Q v H2
def Zc4 (ty td:TE):TE:=λσ H Q=>ty σ H λy H1=>td σ H1 λx H2=>∃a o,x=.ref a/\Bv H2 a y o/\Q (.bl o.isSome) H2
def Zce (td ty tv:TE):TS:=λD σ H=>tv σ H λv H1=>td σ H1 λx H2=>ty σ H2 λy H3=>∃a H4,x=.ref a/\tO H3 a y v H4/\D.nx σ H4
def Zcg (td ty tv:TE)(rd:V->V->Hp->VK->Prop):TS:=λD σ H=>td σ H λx H1=>ty σ H1 λy H2=>∃a v,x=.ref a/\Bv H2 a y (some v)/\
 tv σ H2 λy2 H3=>rd v y2 H3 λz H4=>∃H5,tO H4 a y z H5/\D.nx σ H5
def Zcf (td ty:TE):TS:=λD σ H=>td σ H λx H1=>ty σ H1 λy H2=>∃a kvs k,x=.ref a/\H2 a=some (.dK kvs)/\y=kV k/\(U9 kvs k).isSome=true/\D.nx σ (Je H2 a (.dK (Ka kvs k)))
section
variable {X:Cx}{o i e value:WW}{pos pos' tpos:Pos}{td ty tv:TE}
def mD (hu:X.A.units+1<cLine)(ho:PE X o td)(hi:PE X i ty)(hs:eK i):PE X (.Subscript o i pos) (dQ td ty):=by
 intro WZ s σ H Q I h;refine n9 PySem.F.slot_dict_getitem.lookup hs (Js (ho WZ s σ H _ I h) λu s1 zZ=>?_);obtain⟨x,H1,I1,rx,q1⟩:=zZ;refine Js (hi WZ s1 σ H1 _ I1 q1) λiv s2 zZ=>?_;obtain⟨y,H2,I2,ry,a,v,ex,g,q2⟩:=zZ;subst ex;obtain rfl:u=Value.ref a:=rx;exact⟨jP I2 g,tD hu I2 g ry λw' s3 I3 rw'=>⟨v,H2,I3,rw',q2⟩⟩
end
def jO (h:WU)(hb:sysModules<h.objs.size):J1 P w H (h.push {cls:=.type "dict",data:=.dict #[]}) h.objs.size (.dK []):=
 ⟨XO _,beq_eq_false_iff_ne.mpr (Ne.symm (XH hb)),[],.nil,Heap.DictOf.new h⟩
def iI:TE:=λ_ H Q=>∀p,H p=none->Q (.ref p) (Je H p (.dK []))
section
variable {X:Cx}{pos:Pos}
def qp:PE X (.Dict [] [] pos) iI:=λWZ s σ H Q I h=>
 wpAny_Dict_empty ⟨.ref s.heap.objs.size,_,I.laid (a:=s.heap.objs.size) (o:=.dK []) (t':=s.toks) (λ_ _ q=>XC _ q) (XE _) (jO s.heap I.big),FQ,h _ (I.hok.fresh (XE _))⟩
end
def ze:List (TE×TE)->St->Hp->(List (V×V)->Hp->Prop)->Prop
 | [],_,H,Q=>Q [] H
 | (tk,tv)::r,σ,H,Q=>tk σ H λx H1=>tv σ H1 λy H2=>ze r σ H2 λps H3=>Q ((x,y)::ps) H3
abbrev VV:List (V×V)->List (WQ×WQ)->Prop:=Paired λp q=>Yg p.1 q.1/\Yg p.2 q.2
def ag (X:Cx)(pos:Pos)(keys:List (Option WW))(values:List WW)(trs:List (TE×TE)):Prop:=
 ∀(WZ:List (WP×Obj)) (s:WR) (σ:St) (H:Hp) (Q:List (V×V)->Hp->Prop),Z2 X WZ σ H s->ze trs σ H Q->
  wpAny (model X.prog X.w) X.A (evalPairs (pairTrees keys values X.env pos)) (λvs s'=>∃ps H',Z2 X WZ σ H' s'/\VV ps vs/\Q ps H') X.xe s
def v7:ag X pos [] [] []:=λWZ s σ H Q I h=>pairTrees_nil_walk ⟨[],H,I,.nil,h⟩
def jc {k v:WW}(hk:PE X k tk)(hv:PE X v tv)(hr:ag X pos ks vs trs):
  ag X pos (some k::ks) (v::vs) ((tk,tv)::trs):=λWZ s σ H Q I h=>
 pairTrees_cons_walk (Js (hk WZ s σ H _ I h) λu s1 ⟨x,H1,I1,rx,q1⟩=>Js (hv WZ s1 σ H1 _ I1 q1) λw2 s2 ⟨y,H2,I2,ry,q2⟩=>Js (hr WZ s2 σ H2 _ I2 q2) λws s3 ⟨ps,H3,I3,rel,q3⟩=>⟨(x,y)::ps,H3,I3,.cons ⟨rx,ry⟩ rel,q3⟩)
def Pd (kvs more:List (Yo×V)):List (Yo×V):=more.foldl (λacc kv=>W4 acc kv.1 kv.2) kvs
def KV.merge:∀{more:List (Yo×V)} {rs:List (Yo×WQ)} {kvs:List (Yo×V)} {vs:List (Yo×WQ)},KV more rs->KV kvs vs->KV (Pd kvs more) (merged vs rs):=by
 intro more rs kvs vs r;unfold KV at r
 induction r generalizing kvs vs with
 | nil=>intro q;exact q
 | @cons p q ps qs h t ih=>
  intro r0;have e:KV (W4 kvs p.1 p.2) (stored vs q.1 q.2):=by
   have:=r0.put p.1 h.2;rw[<-h.1];exact this
  exact ih e
theorem Sa:∀(more kvs:List (Yo×V)),(Pd kvs more).length<=kvs.length+more.length
 | [],kvs=>by show kvs.length<=kvs.length+0;omega
 | p::r,kvs=>by
  have h1:=Sa r (W4 kvs p.1 p.2);have h2:=Ph kvs p.1 p.2;show(Pd (W4 kvs p.1 p.2) r).length<=_;rw[YF];omega
theorem Dq:∀{kvs:List (Yo×V)} {ws:List (WQ×WQ)},VV (kvs.map λkv=>(kV kv.1,kv.2)) ws->∃rs,Carries (Yw P w) ws rs/\KV kvs rs
 | [],_,r=>by rw[FA] at r;cases r;exact⟨[],True.intro,.nil⟩
 | p::kvs,_,r=>by
  rw[YI] at r
  cases r with
  | @cons a b as bs h t=>
   obtain⟨rs,c,q⟩:=Dq (P:=P) (w:=w) t;obtain⟨b1,b2⟩:=b;exact⟨(p.1,b2)::rs,⟨Nd h.1,FQ,c⟩,.cons ⟨FQ,h.2⟩ q⟩
def dO (trs:List (TE×TE)):TE:=λσ H Q=>∀p,H p=none->ze trs σ (Je H p (.dK [])) λps H2=>H2 p=some (.dK [])/\∃kvs:List (Yo×V),ps=kvs.map (λkv=>(kV kv.1,kv.2))/\kvs.length<=15/\Q (.ref p) (Je H2 p (.dK (Pd [] kvs)))
def v8 (h:ag X pos keys values trs)(hall:keys.all (·.isSome)=true)(hl:keys.length=values.length)(h0:keys≠[])
  (h15:keys.length<=15):PE X (.Dict keys values pos) (dO trs):=by
 intro WZ s σ H Q I q;have hn:=I.hok.fresh (XE s.heap.objs.size);have I1:=I.laid (a:=s.heap.objs.size) (o:=.dK []) (h':=s.heap.push {cls:=.type "dict",data:=.dict #[]}) (t':=s.toks) (λ_ _ q=>XC _ q) (XE _) (jO s.heap I.big);refine wpAny_Dict_walk (knd:=Yw X.prog X.w) hall hl h0 h15 (Js (h WZ _ σ _ _ I1 (q _ hn)) λws s2 zZ=>?_);obtain⟨ps,H2,I2,rel,e,kvs,ep,lk,q2⟩:=zZ;subst ep;obtain⟨rs,c,rk⟩:=Dq (P:=X.prog) (w:=X.w) rel;obtain⟨z,hd,vs0,r0,dd⟩:=Ar I2.hok e
 cases r0
 refine⟨rs,c,dd,λh' dd' hs=>⟨.ref s.heap.objs.size,_,?_,FQ,q2⟩⟩;have hz:(Pd [] kvs).length<=sizeLine:=by
  have h1:=Sa kvs [];rw[FP] at h1;rw[sizeLine_eq];omega
 have he:∃q,h'.get? s.heap.objs.size=some q:=let ⟨q,_,_,hq,_⟩:=dd';⟨q,hq⟩
 exact Kd I2 (by rw[e];exact True.intro) hs he (Iu hz hd (rk.merge .nil) dd')
structure M1 (X:Cx)(o:Expr)(m:Str)(apos:Pos)(e:Expr)(cpos:Pos):Prop where
 base:attributeBase o m X.env (eval o X.env)=eval o X.env
 few:((backTo cpos (starEach [e] X.env)).all (λx=>!x.1)&&(backToKw cpos (keywordEach [] X.env)).all (λx=>x.1.isSome)
  &&decide (([e]:List WW).length+([]:List Keyword).length+(if ([]:List Keyword).isEmpty then 0 else 1)<30))=true
 line:(apos.endLine==cpos.line)=true
 trees:backTo cpos (starEach [e] X.env)=[(false,eval e X.env)]
structure M2 (X:Cx)(o:Expr)(m:Str)(apos:Pos)(e f:Expr)(cpos:Pos):Prop where
 base:attributeBase o m X.env (eval o X.env)=eval o X.env
 few:((backTo cpos (starEach [e,f] X.env)).all (λx=>!x.1)&&(backToKw cpos (keywordEach [] X.env)).all (λx=>x.1.isSome)
  &&decide (([e,f]:List WW).length+([]:List Keyword).length+(if ([]:List Keyword).isEmpty then 0 else 1)<30))=true
 line:(apos.endLine==cpos.line)=true
 trees:backTo cpos (starEach [e,f] X.env)=[(false,eval e X.env),(false,eval f X.env)]
def aq (H:Hp)(a:WP):Prop:=(∃kvs,Rd H a (.dK kvs))\/∃kvs,Rd H a (.dT kvs)
def wy (I:Z2 X WZ σ H s)(d:aq H a):
  s.TypeIs (.ref a) "dict"/\(∀b,Value.ref a=.ref b->∃ob,s.heap.get? b=some ob/\ob.dict=none)/\(a==sysModules)=false:=by
 rcases d with⟨kvs,e⟩ | ⟨kvs,e⟩
 ·obtain⟨_,hd,vs,_,dd⟩:=Ng I.hok e;refine⟨dd.typeIs,λb q=>?_,hd⟩
  cases q
  obtain⟨ob,_,_,h1,h2,_⟩:=dd;exact⟨ob,h1,h2.2.1⟩
 ·obtain⟨_,hd,xs,_,dd⟩:=Dl I.hok e;refine⟨dd.typeIs,λb q=>?_,hd⟩
  cases q
  obtain⟨ob,_,_,h1,h2,_⟩:=dd;exact⟨ob,h1,h2.2.1⟩
section
variable {X:Cx}{WZ:List (WP×Obj)}{σ:St}{H:Hp}{s:WR}{a:WP}{y d:V}{u r:WQ}{o:Option V}{A:WM}{E:WQ->WR->Prop}
def fL {Q:WQ->WR->Prop}(hu:A.units+1<cLine)(I:Z2 X WZ σ H s)(g:Bv H a y o)(ry:Yg y u)(h:∀w' s',Z2 X WZ σ H s'->Yg (o.getD .non) w'->Q w' s'):
  wpAny (model X.prog X.w) A (call (.builtin "dict.get") [.ref a,u]) Q E s:=by
 rcases g with⟨kvs,k,e,ey,l⟩ | ⟨kvs,k,b,e,ey,eb,l⟩
 ·subst ey;obtain⟨z,hd,vs,rel,dd⟩:=Ng I.hok e;refine call_meetsIn EW dd.typeIs PySem.F.entry_dict_get (PySem.F.args_dict_get_2 _ _) (meets_dict_get (Yw X.prog X.w) a (Nd ry) hd) ⟨_,dd.mapOf,h _ _ (I.tok _) ?_⟩;rw[l];exact(rel.val k).getD FQ
 ·subst ey
  cases (show u=Value.ref b from ry)
  obtain⟨z,hd,xs,rel,dd⟩:=Dl I.hok e;refine call_meetsIn EW dd.typeIs PySem.F.entry_dict_get (PySem.F.args_dict_get_2 _ _) (meetsH_dict_get (tupleKind (Yw X.prog X.w)) a b hd) ⟨tupleKind_room_in1 hu,k,xs,Ik I.hok eb,dd,h _ _ (I.tok _) ?_⟩;rw[l];exact(rel.val k).getD FQ
end
def iJ (td ty:TE):TE:=λσ H Q=>td σ H λx H1=>∃a,x=.ref a/\aq H1 a/\ty σ H1 λy H2=>∃o,Bv H2 a y o/\Q (o.getD .non) H2
def aV (td ty:TE):TE:=λσ H Q=>td σ H λx H1=>∃a,x=.ref a/\aq H1 a/\ty σ H1 λy H2=>∃kvs k v,H2 a=some (.dK kvs)/\y=kV k/\U9 kvs k=some v/\Q v (Je H2 a (.dK (Ka kvs k)))
def iH (td ty tx:TE):TE:=λσ H Q=>td σ H λx H1=>∃a,x=.ref a/\aq H1 a/\ty σ H1 λy H2=>tx σ H2 λz H3=>∃kvs k,H3 a=some (.dK kvs)/\y=kV k/\
 (∀v,U9 kvs k=some v->Q v (Je H3 a (.dK (Ka kvs k))))/\(U9 kvs k=none->Q z H3)
section
variable {X:Cx}{o e f:WW}{apos cpos:Pos}{td ty tx:TE}
def qq (hu:X.A.units+1<cLine)(ho:PE X o td)(he:PE X e ty)(m:M1 X o "get" apos e cpos):PE X (.Call (.Attribute o "get" apos) [e] [] cpos) (iJ td ty):=by
 intro WZ s σ H Q I h;refine wpAny_Call_method m.base m.few m.line EJ EW PySem.F.type_dict_get (Js (ho WZ s σ H _ I h) λu s1 zZ=>?_);obtain⟨x,H1,I1,rx,a,ex,d,q1⟩:=zZ;subst ex;obtain rfl:u=Value.ref a:=rx;obtain⟨t1,t2,_⟩:=wy I1 d;refine⟨t1,t2,?_⟩;rw[m.trees];refine DB FQ (DY (CT (Js (he WZ s1 σ H1 _ I1 q1) λiv s2 zZ=>?_)));obtain⟨y,H2,I2,ry,ov,g,q2⟩:=zZ;refine DG ?_;exact fL hu I2 g ry λw' s3 I3 rw'=>⟨_,H2,I3,rw',q2⟩
def qo (ho:PE X o td)(he:PE X e ty)(hf:PE X f tx)(m:M2 X o "pop" apos e f cpos):PE X (.Call (.Attribute o "pop" apos) [e,f] [] cpos) (iH td ty tx):=by
 intro WZ s σ H Q I h;refine wpAny_Call_method m.base m.few m.line EJ EV PySem.F.type_dict_pop (Js (ho WZ s σ H _ I h) λu s1 zZ=>?_);obtain⟨x,H1,I1,rx,a,ex,d,q1⟩:=zZ;subst ex;obtain rfl:u=Value.ref a:=rx;obtain⟨t1,t2,_⟩:=wy I1 d;refine⟨t1,t2,?_⟩;rw[m.trees];refine DB FQ (DY (CT (Js (he WZ s1 σ H1 _ I1 q1) λiv s2 zZ=>?_)));obtain⟨y,H2,I2,ry,q2⟩:=zZ;refine CT (Js (hf WZ s2 σ H2 _ I2 q2) λfv s3 zZ=>?_);obtain⟨z,H3,I3,rz,kvs,k,ea,ey,q3,q4⟩:=zZ;refine DG ?_
 subst ey
 cases l:U9 kvs k with
 | some v=>exact bR I3 ea ry l (.inr ⟨fv,FQ⟩) λw' s4 I4 rw'=>⟨v,_,I4,rw',q3 v l⟩
 | none=>exact fJ I3 ea ry l λs4 I4=>⟨z,H3,I4,rz,q4 l⟩
end
section
variable {X:Cx}{WZ:List (WP×Obj)}{σ:St}{H:Hp}{s:WR}{a:WP}{kvs:List (Yo×V)}{A:WM}{E:WQ->WR->Prop}
def oj {Q:WQ->WR->Prop}(I:Z2 X WZ σ H s)(e:Rd H a (.dK kvs))(h:∀p s',H p=none->Z2 X WZ σ (Je H p (.dK kvs)) s'->Q (.ref p) s'):wpAny (model X.prog X.w) A (call (.type "dict") [.ref a]) Q E s:=by
 obtain⟨z,hd,vs,rel,dd⟩:=Ng I.hok e;refine kt_call_dict hd dd (by rw[<-rel.length];exact z) λh' dd' hs=>?_;refine h _ _ (I.hok.fresh (XE _)) (I.laid (a:=s.heap.objs.size) (o:=.dK kvs) (t':=s.toks) (λb q hq=>?_) (XE _) (Iu z (beq_eq_false_iff_ne.mpr (Ne.symm (XH I.big))) rel dd'));exact(hs.2 b (XH (XD hq))).trans (XC _ hq)
end
section
variable {X:Cx}{WZ:List (WP×Obj)}{σ:St}{H:Hp}{s:WR}{a:WP}{y:V}{u:WQ}{A:WM}{E:WQ->WR->Prop}
end
end L2
namespace WL
open PySem PySem.Spec PyProof.Rows L2
def Kq (c:WT)(b:WS)(D:We):Nat->Sw->Hw->Prop
 | 0,_,_=>False
 | n+1,τ,C=>c τ C (λk C1=>if k=true then b {D with nx:=Kq c b D n,ct:=Kq c b D n,bk:=D.nx} τ C1 else D.nx τ C1) D.xc
def zq (c:WT)(b:WS):WS:=λD τ C=>∃n,Kq c b D n τ C
def u0 {K:WY}(hc:Mm K c c')(hb:tK K tb b'):tK K (sQ c tb) (zq c' b'):=λF H C σ τ D D' R S h d=>by
 obtain⟨n,h⟩:=h;refine⟨λm σ H2=>∃τ C,Rl K F H2 C/\Tx H H2/\Xo K H2 σ τ/\Kq c' b' D' m τ C,⟨n,τ,C,R,Tx.refl _,S,h⟩,?_⟩;rintro m σ2 H2 ⟨τ2,C2,R2,t2,S2,h2⟩
 cases m with
 | zero=>exact h2.elim
 | succ m=>
  refine hc F H2 C2 σ2 τ2 _ _ D'.xc R2 S2 h2 λk H3 C3 R3 t3 h3=>?_
  cases k with
  | true=>
   refine⟨λσ' H'=>∃τ' C',Rl K F H' C'/\Tx H H'/\Xo K H' σ' τ'/\Kq c' b' D' m τ' C',λσ' H' z=>⟨m,DX m,z⟩,?_⟩;have t13:=t2.trans t3;exact hb F H3 C3 σ2 τ2 _ _ R3 (S2.tx t3) h3 ⟨λσ' τ' H' C' R' t' S' h'=>⟨τ',C',R',t13.trans t',S',h'⟩,λx v H' C' R' t'=>d.rt x v H' C' R' (t13.trans t'),λσ' τ' H' C' R' t' S' h'=>d.nx σ' τ' H' C' R' (t13.trans t') S' h',λσ' τ' H' C' R' t' S' h'=>⟨τ',C',R',t13.trans t',S',h'⟩⟩
  | false=>exact d.nx σ2 τ2 H3 C3 R3 (t2.trans t3) (S2.tx t3) h3
def Pm {X:Cx}(hp:PassesOwn (model X.prog X.w) X.A X.env X.xe)(hc:uh X c wc)(hb:tV X body b):tU X (.While c body [] pos) (zq wc b):=by
 obtain⟨t,p,s⟩:=hc;obtain⟨t',p',s'⟩:=hb;exact⟨_,qe hp p p',u0 s s'⟩
def Sh {c:WT}{b:WS}{D:We}(Pv:Nat->Sw->Hw->Prop)(h0:Pv m τ C)
  (hs:∀m τ C (N:Sw->Hw->Prop),Pv m τ C->(∀m' τ' C',m'<m->Pv m' τ' C'->N τ' C')->c τ C (λk C1=>if k=true then b {D with nx:=N,ct:=N,bk:=D.nx} τ C1 else D.nx τ C1) D.xc):zq c b D τ C:=by
 have key:∀(n m:Nat) (τ:Sw) (C:Hw),m<n->Pv m τ C->Kq c b D n τ C:=by
  intro n
  induction n with
  | zero=>intro m τ C h _;omega
  | succ n ih=>intro m τ C hm hp;exact hs m τ C _ hp λm' τ' C' hlt hp'=>ih m' τ' C' (by omega) hp'
 exact⟨m+1,key (m+1) m τ C (DX m) h0⟩
section
variable {X:Cx}{a b c e o i:WW}{es:List WW}{wa wb wc wo wi:WE}{wA:WA}{pos p p2 apos cpos:Pos}
def bX:List T->Hw->WK->Prop:=λvs C Q=>(∃i:Int,vs=[.int i]/\Q (.int i) C)\/∃k:Bool,vs=[.bl k]/\Q (.int (if k then 1 else 0)) C
def vZ:Km X (.type "int") bX:=⟨_,tF,λF H C xs vs Q Q' R rs h q=>by
 rcases h with⟨j,rfl,h⟩ | ⟨j,rfl,h⟩
 ·obtain⟨x,rfl,rx⟩:=Xj rs
  cases Ye rx
  exact .inl ⟨j,FQ,q _ _ H C R (Tx.refl H) Jn h⟩
 ·obtain⟨x,rfl,rx⟩:=Xj rs
  cases Sq rx
  exact .inr ⟨j,FQ,q _ _ H C R (Tx.refl H) Jn h⟩⟩
end
def kT:T->Option Yo
 | .int i=>some (.inl i)
 | .str x=>some (.inr x)
 | _=>none
def Y3 (kvs:List (Yo×T))(k:Yo):Option T:=(kvs.find? λkv=>decide (kv.1=k)).map (·.2)
def Wq (kvs:List (Yo×T))(k:Yo)(v:T):List (Yo×T):=
 if (kvs.any λkv=>decide (kv.1=k))=true then kvs.map (λkv=>if kv.1=k then(kv.1,v) else kv) else kvs++[(k,v)]
def Rz {K:WY}{k:Yo}(h:kT v=some k)(r:Jr K H x v):x=kV k:=by
 cases v with
 | int i=>cases h;exact Ye r
 | str z=>cases h;exact Jo r
 | _=>cases h
theorem PR.get {K:WY}:∀{ks:List (Yo×V)} {kvs:List (Yo×T)} (_:PR K H ks kvs) (k:Yo),(Y3 kvs k=none->U9 ks k=none)/\∀v,Y3 kvs k=some v->∃x,U9 ks k=some x/\Jr K H x v
 | _,_,.nil,k=>⟨λ_=>rfl,λv h=>by cases h⟩
 | p::r,q::s,.cons h t,k=>by
  obtain⟨e,rp⟩:=h;have ih:=PR.get t k;by_cases c:q.1=k
  ·have c':p.1=k:=e.trans c;rw[Mw c'];unfold Y3;rw[List.find?_cons_of_pos (by simpa using c)];exact⟨(λz=>by cases z),(λv z=>by cases z;exact⟨p.2,FQ,rp⟩)⟩
  ·have c':¬p.1=k:=λz=>c (e.symm.trans z);rw[Mx c'];unfold Y3;rw[List.find?_cons_of_neg (by simpa using c)];exact ih
theorem PR.any {K:WY}:∀{ks:List (Yo×V)} {kvs:List (Yo×T)} (_:PR K H ks kvs) (k:Yo),(ks.any λkv=>decide (kv.1=k))=kvs.any λkv=>decide (kv.1=k)
 | _,_,.nil,k=>rfl
 | p::r,q::s,.cons h t,k=>by rw[DE,DE,PR.any t k,h.1]
theorem PR.mapK {K:WY}{k:Yo}(rx:Jr K H x v):∀{ks:List (Yo×V)} {kvs:List (Yo×T)} (_:PR K H ks kvs),PR K H (ks.map λkv=>if kv.1=k then(kv.1,x) else kv) (kvs.map λkv=>if kv.1=k then(kv.1,v) else kv)
 | _,_,.nil=>.nil
 | p::r,q::s,.cons h t=>by
  refine .cons ?_ (PR.mapK rx t);obtain⟨e,rp⟩:=h;by_cases c:q.1=k
  ·have c':p.1=k:=e.trans c;dsimp only;rw[XY c,XY c'];exact⟨e,rx⟩
  ·have c':¬p.1=k:=λz=>c (e.symm.trans z);dsimp only;rw[XX c,XX c'];exact⟨e,rp⟩
def PR.put {K:WY}(h:PR K H ks kvs){k:Yo}(rx:Jr K H x v):PR K H (W4 ks k x) (Wq kvs k v):=by
 unfold W4 Wq;rw[PR.any h k]
 split
 ·exact PR.mapK rx h
 ·exact h.snoc ⟨FQ,rx⟩
def PR.length {K:WY}(h:PR K H ks kvs):ks.length=kvs.length:=Paired.length h
section
variable {K:WY}{F H:Hp}{C:Hw}
def Rl.dic (R:Rl K F H C)(h:C a=some (.dic kvs)):∃ks,H a=some (.dK ks)/\PR K H ks kvs:=R.obj a _ h
def Rl.putD (R:Rl K F H C)(h:C p=some (.dic kvs))(r:PR K H ks' kvs'):Rl K F (Je H p (.dK ks')) (up C p (.dic kvs'))/\Tx H (Je H p (.dK ks')):=by
 obtain⟨w,hw,ns⟩:=(R.obj p _ h).some trivial;exact R.put h ⟨ks',Yq,Eo (Tx.put hw ns) r⟩
def Rl.newD (R:Rl K F H C)(h:H p=none)(r:PR K H ks kvs):Rl K F (Je H p (.dK ks)) (up C p (.dic kvs)):=R.new h ⟨ks,Yq,Eo (Tx.new h) r⟩
end
def wL:WE:=λ_ C Q _=>∀p,C p=none->Q (.ref p) (up C p (.dic []))
def fo (o i:WE):WG:=λv τ C Q χ=>o τ C (λx C1=>i τ C1 (λy C2=>∃a kvs k,x=.ref a/\kT y=some k/\C2 a=some (.dic kvs)/\kvs.length<sizeLine/\Q τ (up C2 a (.dic (Wq kvs k v)))) χ) χ
section
variable {X:Cx}{a b c e o i f:WW}{es:List WW}{wa wb wc wo wi wd:WE}{wA:WA}{pos p p2 apos cpos:Pos}
def Tq:Ji X (.Dict [] [] pos) wL:=⟨_,qp,λF H C σ τ Q Q' χ R S h q p hp=>q _ _ _ _ (R.newD hp .nil) (Tx.new hp) Jm (h p (R.free hp))⟩
def cz:V->V->V->Hp->(Hp->Prop)->Prop:=λo i v H Q=>∃p ks k,o=.ref p/\i=kV k/\H p=some (.dK ks)/\ks.length<sizeLine/\Q (Je H p (.dK (W4 ks k v)))
def rq (hu:X.A.units+150<cLine):af X cz:=by
 intro WZ s σ H o i v ov iv u Q I ro ri rv h;obtain⟨p,ks,k,rfl,rfl,hp,hl,q⟩:=h
 cases ro
 exact t9 (by omega) I (tO.k hp hl) ri rv λs' I'=>⟨_,I',q⟩
def Yr (hu:X.A.units+150<cLine)(ho:Ji X o wo)(hi:Ji X i wi)
  (ha:∀v,assign (.Subscript o i pos) X.env v=(do
   let ov <-holding [v] (eval o X.env)
   let iv <-holding [v,ov] (eval i X.env)
   standAt pos
   holding [v,ov,iv] (setItem ov iv v)
   release [v,ov,iv] []):=by intro _;rfl):eU X (.Subscript o i pos) (fo wo wi):=by
 obtain⟨t,p,s⟩:=ho;obtain⟨t',p',s'⟩:=hi;refine⟨_,gn p p' (rq hu) ha,λF H C σ τ x v Q Q' χ R S r h q=>?_⟩;refine s F H C σ τ _ _ χ R S h λy vy H1 C1 R1 t1 ry h1=>?_;refine s' F H1 C1 σ τ _ _ χ R1 (S.tx t1) h1 λz vz H2 C2 R2 t2 rz h2=>?_;obtain⟨l,kvs,k,rfl,hk,hC,hl,h2⟩:=h2
 cases Z7 ry
 obtain⟨ks,hH,pr⟩:=R2.dic hC;have t12:=t1.trans t2;obtain⟨R',t'⟩:=R2.putD hC (PR.put pr (k:=k) (r.tx t12));exact⟨l,ks,k,FQ,Rz hk rz,hH,by rw[PR.length pr];exact hl,q _ _ _ _ R' (t12.trans t') (S.tx (t12.trans t')) h2⟩
def pG {K:WY}(pr:PR K H ks kvs)(k:Yo)(rx:Jr K H x v):Jr K H ((U9 ks k).getD x) ((Y3 kvs k).getD v):=by
 cases hg:Y3 kvs k with
 | none=>rw[(PR.get pr k).1 hg];exact rx
 | some w=>obtain⟨z,hz,rz⟩:=(PR.get pr k).2 w hg;rw[hz];exact rz
end
end WL
namespace L2
open PySem PySem.Spec PyProof.Rows
def Zbi (w:WN):Bool:=w.params.followText "set-order"
def dz (e:Int×WQ):Str:=strOf e.2
structure aa (P:Program)(w:World)(h:Heap)(a:Addr)(es:Array (Int×Value))(ep:Nat)(t:SetTable):Prop where
 get:h.get? a=some {cls:=.type "set",dict:=none,data:=.set es ep t,slots:=#[]}
 els:ElemsOf (PySem.strKind P w) es.toList
 fit:t.fits es.size=true
 bnd:es.size<scanBound
 pln:es.size≠0->t.plain=false
 led:t.led=!Zbi w
 nod:(es.toList.map dz).Nodup
section
variable {prog:WO}{w:WN}{A:WM}{E:WQ->WR->Prop}{s:WR}
end
section
variable {prog:WO}{w:WN}{A:WM}{R:Result->WR->Prop}{I:WP}{fp wr:List WP}{G:Array GenState->Array GenState->Prop}{n:Nat}{P:Nat->WQ->Prop}{St:Nat->WR->Prop}
end
section
variable {prog:WO}{w:WN}{A:WM}{E:WQ->WR->Prop}{s:WR}
end
section
variable {X:Cx}{WZ:List (WP×Obj)}{s:WR}{σ:St}{H:Hp}
def Zc9 (P:WO)(w:WN)(a:WP)(xs:List Str):HO:=.ext λh=>∃es ep t,aa P w h a es ep t/\∀y,y∈es.toList.map dz↔y∈xs
end
end L2
namespace WL
open PySem PySem.Spec PyProof.Rows L2
section
variable {X:Cx}{e:WW}{we:WE}{pos p p2 pos2:Pos}
end
end WL
namespace L2
open PySem PySem.Spec PyProof.Rows
section
variable {X:Cx}{tg:WW}
end
end L2
namespace WL
open PySem PySem.Spec PyProof.Rows L2
section
variable {X:Cx}{tg a:WW}{wA:WA}{pos p:Pos}
end
end WL
namespace L2
open PySem PySem.Spec PyProof.Rows
section
variable {X:Cx}
theorem vm:∀{zs:List Str} {us:List WQ},Yf (zs.map V.str) us->StrsAre us zs
 | [],us,h=>by rw[h.zero];exact .nil
 | z::zs,us,h=>by
  cases h with
  | cons a b=>obtain⟨t,rfl⟩:=a;exact .cons z t (vm b)
def c0 (K:WY):V->List V->Hp->VK->Prop:=λx vs H Q=>∃z p zs,x=.str z/\vs=[.ref p]/\Ws K H p (zs.map V.str)/\z.length<=16/\(zs.map (·.length)).sum+zs.length<=1048576/\Q (.str (Txt.join z zs)) H
def mS:ak X "str.join" (c0 X.K):=by
 intro WZ s σ H x vs v us Q I rx rv h;obtain⟨z,p,zs,rfl,rfl,hq,h1,h2,q⟩:=h;obtain⟨t,rfl⟩:=rx;obtain⟨u,rfl,ru⟩:=Qi rv
 cases ru
 obtain⟨its,rI,pl,hz⟩:=I.list hq;exact join_listW pl.isList (vm rI) h1 h2 λt' k=>⟨.str _,H,I.tok _,⟨_,FQ⟩,q⟩
end
end L2
namespace WL
open PySem PySem.Spec PyProof.Rows L2
section
variable {X:Cx}
theorem Em {K:WY}:∀{bs:List Str} {ys:List V},Reps K H ys (bs.map T.str)->ys=bs.map V.str
 | [],_,h=>X0 h
 | b::bs,_,h=>by obtain⟨y,r,rfl,a,c⟩:=Jb h;cases Jo a;rw[Em c];rfl
def bj:T->List T->Hw->WK->Prop:=λx vs C Q=>∃z p zs,x=.str z/\vs=[.ref p]/\C p=some (.lst (zs.map T.str))/\z.length<=16/\(zs.map (·.length)).sum+zs.length<=1048576/\Q (.str (Txt.join z zs)) C
def qN:iq X "str.join" bj:=⟨_,mS,λF H C x v xs vs Q Q' R rx rs h q=>by
 obtain⟨z,p,zs,rfl,rfl,hx,h1,h2,h⟩:=h
 cases Jo rx
 obtain⟨y,rfl,ry⟩:=Xj rs
 cases Z7 ry
 obtain⟨ys,hy,r⟩:=R.lst hx
 cases Em r
 exact⟨z,p,zs,FQ,FQ,Ws.of hy,h1,h2,q _ _ H C R (Tx.refl H) Jw h⟩⟩
end
end WL
namespace L2
open PySem PySem.Spec PyProof.Rows
def iW:typeLookup (.type "list_reverseiterator") "__len__"=pure none:=by
 rw[typeLookup_type];rw[builtinLookup_eq_fast];kernel_rfl
def nW:typeLookup (.type "list_reverseiterator") "__length_hint__"=pure (some (.builtin "list_reverseiterator.__length_hint__")):=by
 rw[typeLookup_type];rw[builtinLookup_eq_fast];kernel_rfl
section
variable {prog:WO}{w:WN}{A:WM}{E:WQ->WR->Prop}{s:WR}{it l:WP}{i:Int}
def p0 {Q:Bool->WR->Prop}(hit:s.heap.IsRevIter it l i)(h:Q false s):wpAny (model prog w) A (Builtin.List.listLengthHint (.ref it)) Q E s:=by
 have hT:=hit.typeIs;unfold Builtin.List.listLengthHint;refine XA (wpAny_specialOf hT iW ?_);show wpAny _ A (specialOf (Value.ref it) (Str.ofString "__length_hint__")>>=_) _ _ _;refine XA (wpAny_specialOf hT nW ?_);generalize hid:("list_reverseiterator.__length_hint__":String)=id0
 wp_delta
 rw[show splitId id0=some ("list_reverseiterator","__length_hint__") from by subst hid;decide+kernel];subst hid;refine XA (wpAny_isInstance (T:="list_reverseiterator") (b:=true) hT (by rw[isSubtype_type];kernel_rfl) ?_);refine wpAny_ite_split (λz=>absurd z (by decide)) (λ_=>?_);refine wpAny_ite_split (λ_=>?_) (λz=>absurd (by decide+kernel) z);refine wpAny_ite_split (λz=>absurd z (by decide+kernel)) (λ_=>?_);exact XB h
def pq {R:Result->WR->Prop}{items:Array WQ}(hh:A.handled=none)(n:Nat)(hn:items.size=n)(hsz:n<=sizeLine)(S:WP)(hSi:S≠it)(hSl:S≠l)(hil:l≠it)
  (hit:s.heap.IsRevIter it l ((n:Int)-1)) (hl:s.heap.IsList l items) (hS:s.heap.get? S=some {cls:=.type "list",data:=.seq #[]})
  (hR:∀s' acc' c',Moved [S,it] (λa b=>b=a) s s'->s'.heap.get? S=some {cls:=.type "list",dict:=none,data:=.seq acc' c',slots:=#[]}->ItemsOf (λi v=>items[items.size-1-i]?=some v) acc' n->R (.ok (.ret .none)) s'):
  wpAny (model prog w) A.in1 (Builtin.«list.__init__» ⟨[.ref S,.ref it],[]⟩)
   (λfin s2=>match fin with | .done f=>R (.ok f) s2 | .again c2=>c2.quiet=true/\codeAny (model prog w) A c2 R s2) (λe s2=>R (.error e) s2) s:=by
 have W:=(Walks.listRev (prog:=prog) (w:=w) (A:=A.in1) hh it l hil items).toS;rw[hn] at W;have hSf:S∉[it,l]:=by simp[hSi,hSl]
 show wpAny _ A.in1 (Builtin.List.listItems (.ref S)>>=λold=>Builtin.List.listUpdate (.ref S) (λ_=>#[])>>=λ_=>letGo old.toList.reverse>>=λ_=>Builtin.List.listExtendWith (.ref S) (.ref it) .none) _ _ s;unfold Builtin.List.listItems;refine XA ?_;refine XA (wpAny_seqItems hS FQ (XB ?_));show wpAny _ A.in1 (updateSeq S (λ_=>#[])>>=λ_=>letGo (#[]:Array WQ).toList.reverse>>=λ_=>Builtin.List.listExtendWith (.ref S) (.ref it) .none) _ _ s;refine XA (wpAny_updateSeq hS FQ ?_);have hS2:=Heap.get?_update_self (Obj.mapSeq (λ_=>(#[]:Array WQ))) hS FQ;have oth:∀b o,b≠S->s.heap.get? b=some o->(s.heap.update S (Obj.mapSeq (λ_=>(#[]:Array WQ)))).get? b=some o:=λb o hb e=>
  (Heap.get?_update_other _ _ (Ne.symm hb)).trans e
 refine XA (wpAny_letGo ?_);unfold Builtin.List.listExtendWith;have hit2:(s.heap.update S (Obj.mapSeq (λ_=>(#[]:Array WQ)))).IsRevIter it l ((n:Int)-1):=hit.at λo e=>oth it o hSi.symm e;have hl2:(s.heap.update S (Obj.mapSeq (λ_=>(#[]:Array WQ)))).IsList l items:=hl.at λo e=>oth l o hSl.symm e;refine XA (wpAny_typeOf (T:="list_reverseiterator") (Heap.IsRevIter.typeIs (s:={s with heap:=_}) hit2) ?_);have h1:Builtin.List.listSameRef (.ref S) (.ref it)=false:=by simp[Builtin.List.listSameRef,hSi]
 have h2:(Value.type "list_reverseiterator"==Value.type "list")=false:=by decide
 have h3:(Value.type "list_reverseiterator"==Value.type "tuple")=false:=by decide
 simp only[h1,h2,h3,Bool.or_false,Bool.false_eq_true,if_false];refine XA (wpAny_pyIter_revIter hit2 ?_);refine XA (wpAny_holding (p0 hit2 ?_));have st:(λi (h:WU)=>i<=n/\h.IsRevIter it l ((n:Int)-1-(i:Int))/\h.IsList l items) 0 (s.heap.update S (Obj.mapSeq (λ_=>(#[]:Array WQ)))):=⟨Nat.zero_le _,by simpa using hit2,hl2⟩;refine wpAny_ite_split (λz=>absurd z (by decide+kernel)) (λ_=>?_);refine XB ⟨plainId_quiet PySem.F.plain_extend_loop _,?_⟩;refine codeAny_extend_loopS W hsz S hSf .none n 0 _ #[] _ FQ (XO _) st hS2 (ItemsOf.nil _) λs3 acc3 c3 hm hS3 hacc=>?_;refine hR s3 acc3 c3 ⟨λb o hb e=>?_,hm.gens,hm.drawn,hm.os,hm.toks⟩ hS3 (by rw[hn];exact hacc);exact hm.heap b o hb (oth b o (λz=>hb (by rw[z];simp)) e)
def yk {Q:WQ->WR->Prop}{items:Array WQ}(hh:A.handled=none)(hsz:items.size<=sizeLine)(hil:l≠it)(hit:s.heap.IsRevIter it l ((items.size:Int)-1))(hl:s.heap.IsList l items)
  (hQ:∀h2 t2 acc2 c2,(∀b o,b≠it->s.heap.get? b=some o->h2.get? b=some o)->h2.get? s.heap.objs.size=some {cls:=.type "list",dict:=none,data:=.seq acc2 c2,slots:=#[]}->ItemsOf (λi v=>items[items.size-1-i]?=some v) acc2 items.size->Q (.ref s.heap.objs.size) {s with heap:=h2,toks:=t2}):
  wpAny (model prog w) A (call (.type "list") [.ref it]) Q E s:=by
 refine callType_codes (Q₁:=λob s1=>ob=.ref s.heap.objs.size/\s1={s with heap:=s.heap.push {cls:=.type "list",data:=.seq #[]}}) PySem.F.called_list (PySem.F.typeCall_list_1 _) PySem.F.entry_list_init (code_list_new _ ⟨FQ,FQ⟩) λob s1 h1=>?_;obtain⟨rfl,rfl⟩:=h1;have hS:(s.heap.push {cls:=.type "list",data:=.seq #[]}).get? s.heap.objs.size=some {cls:=.type "list",data:=.seq #[]}:=XF _ FQ;have ltI:it<s.heap.objs.size:=by obtain⟨_,e,_⟩:=hit;exact XD e
 have ltL:l<s.heap.objs.size:=by obtain⟨_,e,_⟩:=hl;exact XD e
 refine⟨⟨_,hS,FQ⟩,PySem.F.args_list_init_2 _ _,pq (A:=A.in1) hh items.size FQ hsz _ (DJ ltI) (DJ ltL) hil (hit.at λo e=>XC _ e) (hl.at λo e=>XC _ e) hS λs3 acc3 c3 hm hS3 hacc=>⟨FQ,?_⟩⟩;rw[Moved.eq_with hm];exact hQ s3.heap s3.toks acc3 c3 (λb o hb e=>hm.heap b o (by simp only[List.mem_cons,List.not_mem_nil,or_false,not_or];exact⟨Nat.ne_of_lt (Heap.lt_size e),hb⟩) (Heap.get?_push_of_some _ e)) hS3 hacc
end
section
variable {X:Cx}
theorem y7:∀{xs:List V} {us:List WQ},Yf xs us->Yf xs.reverse us.reverse
 | _,_,.nil=>.nil
 | _,_,.cons r t=>by rw[EL,EL];exact(y7 t).append (.cons r .nil)
def uW {its:List WQ}(h:ItemsOf (λi v=>its.toArray[its.toArray.size-1-i]?=some v) acc its.toArray.size):acc.toList=its.reverse:=by
 obtain⟨h1,h2⟩:=h;have hl:its.toArray.size=its.length:=by simp
 refine EM λj=>?_;by_cases c:j<acc.size
 ·have e:acc[j]?=some acc[j]:=by simp[c]
  have h3:=h2 j _ e;rw[DU,e,<-h3,hl];rw[List.getElem?_reverse (by omega)];simp
 ·rw[List.getElem?_eq_none (by simp;omega),List.getElem?_eq_none (by simp;omega)]
def dL (K:WY)(ta:TE):TE:=λσ H Q=>ta σ H λx H1=>∃a xs,x=.ref a/\Ws K H1 a xs/\∀p,H1 p=none->Q (.ref p) (Je H1 p (.lst xs.reverse))
def xP {p pos p2 pos2:Pos}(hc:X.calm=true)(hg:Gl X "list")(hm:X.mg "list"=none)(hg2:Gl X "reversed")(hm2:X.mg "reversed"=none)(ha:PE X a ta)(hs:autoParam (starEach [a] X.env=[(false,eval a X.env)]) QzR)
  (hs2:autoParam (starEach [.Call (.Name "reversed" p2) [a] [] pos2] X.env=[(false,eval (.Call (.Name "reversed" p2) [a] [] pos2) X.env)]) QzR) (hb:autoParam (bootBuiltins "reversed"=some (.type "reversed")) QzK) (hb2:autoParam (bootBuiltins "list"=some (.type "list")) QzK):
  PE X (.Call (.Name "list" p) [.Call (.Name "reversed" p2) [a] [] pos2] [] pos) (dL X.K ta):=by
 intro WZ s σ H Q I h;refine Call_ (Vo I hg hm hb2 (BZ ?_ hs2 FQ));rw[hs2];show wpAny _ _ (spliced ((false,eval (.Call (.Name "reversed" p2) [a] [] pos2) X.env)::backTo pos [])) _ _ s;refine CT (Call_ (Vo I hg2 hm2 hb (BZ ?_ hs FQ)));have pa:PA X [a] (sW ta sU):=G1 ha xR hs;refine Js (pa pos2 WZ s σ H (λxs H1=>match xs with | [x]=>∃a ys,x=.ref a/\Ws X.K H1 a ys/\∀p,H1 p=none->Q (.ref p) (Je H1 p (.lst ys.reverse)) | _=>False) I h) λus s1 zZ=>?_;obtain⟨vs,H1,I1,r1,q1⟩:=zZ;have one:∃x,vs=[x]:=by
  match vs,q1 with
  | [x],_=>exact⟨x,FQ⟩
  | [],q1=>exact q1.elim
  | _::_::_,q1=>exact q1.elim
 obtain⟨x,rfl⟩:=one;obtain⟨l,ys,rfl,hq,q⟩:=q1;obtain⟨u,rfl,ru⟩:=Qi r1
 cases ru
 obtain⟨its,rv,pl,hz⟩:=I1.list hq;have hlen:=rv.length;refine call_reversed_list pl.isList ?_;have ltL:l<s1.heap.objs.size:=by obtain⟨_,e,_⟩:=pl.isList;exact XD e
 refine DG ?_;have hit:(s1.heap.push (revObj l ((its.toArray.size:Int)-1))).IsRevIter s1.heap.objs.size l ((its.toArray.size:Int)-1):=⟨_,XF _ FQ,FQ,FQ⟩;have hl2:(s1.heap.push (revObj l ((its.toArray.size:Int)-1))).IsList l its.toArray:=pl.isList.at λo e=>XC _ e;refine yk (s:={s1 with heap:=s1.heap.push (revObj l ((its.toArray.size:Int)-1))}) (I.ok.hd hc) (by simp only[List.size_toArray];omega) (Nat.ne_of_lt ltL) hit hl2 λh2 t2 acc c2 kp hN hI=>?_;have hp:s1.heap.objs.size<=(s1.heap.push (revObj l ((its.toArray.size:Int)-1))).objs.size:=by rw[CL];omega
 refine⟨.ref _,_,I1.laid (h':=h2) (t':=t2) (λb o e=>kp b o (XH (XD e)) (XC _ e)) hp (show J1 X.prog X.w _ h2 _ (.lst ys.reverse) from⟨by rw[EA];exact hz,its.reverse,c2,y7 rv,?_⟩),FQ,q _ (I1.hok.fresh hp)⟩;rw[<-uW hI];exact hN
def Zdq (X:Cx)(e:WW)(t:TE):Prop:=
 ∀(WZ:List (WP×Obj)) (s:WR) (σ:St) (H:Hp) (Q:VK),Z2 X WZ σ H s->t σ H Q->wpAny (model X.prog X.w) X.A (eval e X.env) (λv s'=>1<=s'.toks/\EP X WZ σ Q v s') X.xe s
variable {o e:WW}{es:List WW}{to:TE}{t:TA}{apos cpos:Pos}{z y:Str}{k k1 k2:Nat}{lp lp1 lp2:Pos}
end
end L2
namespace WL
open PySem PySem.Spec PyProof.Rows L2
section
variable {X:Cx}{e o:WW}{we wo:WE}{p p2 pos pos2 apos cpos:Pos}
def lh:T->List T->Hw->WK->Prop:=λx vs C Q=>∃a b xs zs,x=.ref a/\vs=[.ref b]/\C a=some (.lst xs)/\C b=some (.lst zs)/\xs.length+zs.length<=sizeLine/\Q .non (up C a (.lst (xs++zs)))
def jq:iq X "list.extend" lh:=⟨_,uL,λF H C x v xs vs Q Q' R rx rs h q=>by
 obtain⟨a,b,ts,us,rfl,rfl,ha,hb,hl,h⟩:=h
 cases Z7 rx
 obtain⟨y,rfl,ry⟩:=Xj rs
 cases Z7 ry
 obtain⟨ys,hy,r⟩:=R.lst ha;obtain⟨zs,hz,r2⟩:=R.lst hb;obtain⟨R',t⟩:=R.putL ha (r.app r2);exact⟨a,b,ys,zs,FQ,FQ,hy,hz,by rw[r.length,r2.length];exact hl,q _ _ _ _ R' t V0 h⟩⟩
def bK (e:WE):WE:=λτ C Q χ=>e τ C (λx C1=>∃a xs,x=.ref a/\C1 a=some (.lst xs)/\∀p,C1 p=none->Q (.ref p) (up C1 p (.lst xs.reverse))) χ
def fK (hc:X.calm=true)(hg:Gl X "list")(hm:X.mg "list"=none)(hg2:Gl X "reversed")(hm2:X.mg "reversed"=none)(he:Ji X e we)(hs:autoParam (starEach [e] X.env=[(false,eval e X.env)]) QzR)
  (hs2:autoParam (starEach [.Call (.Name "reversed" p2) [e] [] pos2] X.env=[(false,eval (.Call (.Name "reversed" p2) [e] [] pos2) X.env)]) QzR):
  Ji X (.Call (.Name "list" p) [.Call (.Name "reversed" p2) [e] [] pos2] [] pos) (bK we):=by
 obtain⟨t,p1,sm⟩:=he;refine⟨_,xP hc hg hm hg2 hm2 p1 hs hs2,λF H C σ τ Q Q' χ R S h q=>?_⟩;refine sm F H C σ τ _ _ χ R S h λx v H1 C1 R1 t1 rx h1=>?_;obtain⟨a,xs,rfl,hC,h1⟩:=h1
 cases Z7 rx
 obtain⟨ys,hH,rs⟩:=R1.lst hC;exact⟨a,ys,FQ,Ws.of hH,λb hb=>q _ _ _ _ (R1.newL hb rs.reverse) (t1.trans (Tx.new hb)) Jm (h1 b (R1.free hb))⟩
def yi:Vl X (.type "str") (λxs H Q=>∃z,xs=[.str z]/\Q (.str z) H):=by
 intro WZ s σ H xs us Q I r h;obtain⟨z,rfl,q⟩:=h;obtain⟨u,rfl,t,rfl⟩:=Qi r;exact PySem.P.str_of_str ⟨.str z,H,I,⟨_,FQ⟩,q⟩
def ie:List T->Hw->WK->Prop:=λvs C Q=>(∃i:Int,vs=[.int i]/\i.natAbs.log2<1920/\Q (.str (toString i)) C)\/∃z,vs=[.str z]/\Q (.str z) C
def Dv:Km X (.type "str") ie:=⟨_,yj.or yi,λF H C xs vs Q Q' R rs h q=>by
 rcases h with⟨j,rfl,hl,h⟩ | ⟨z,rfl,h⟩
 ·obtain⟨x,rfl,rx⟩:=Xj rs
  cases Ye rx
  exact .inl ⟨j,FQ,hl,q _ _ H C R (Tx.refl H) Jw h⟩
 ·obtain⟨x,rfl,rx⟩:=Xj rs
  cases Jo rx
  exact .inr ⟨z,FQ,q _ _ H C R (Tx.refl H) Jw h⟩⟩
def Zd0 (X:Cx)(e:WW)(w:WE):Prop:=∃t,Zdq X e t/\W3 X.K t w
def Zcp (y z:Str)(o:WE):WE:=λτ C Q χ=>o τ C (λx C1=>∃u,x=.str u/\u.length<=1048576/\Q (.str (Txt.replace u y z)) C1) χ
end
end WL
namespace L2
open PySem PySem.Spec PyProof.Rows
section
variable {prog:WO}{w:WN}{A:WM}{E:WQ->WR->Prop}{s:WR}{a b:WP}{oa ob:Obj}{ea eb:Array DictEntry}{pa pb:Nat}
def vp {d:WP}{Q:Unit->WR->Prop}(hd:(d==sysModules)=false)(h:Q () s):wpAny (model prog w) A (Builtin.Dict.showsAll d) Q E s:=by
 unfold Builtin.Dict.showsAll;rw[XX (by rw[hd];exact YJ)];exact XB h
def nB {id:String}{Q:Bool->WR->Prop}(sa:(a==sysModules)=false)(sb:(b==sysModules)=false)(ha:s.heap.get? a=some oa)(da:oa.data=.dict ea pa)(hb:s.heap.get? b=some ob)(db:ob.data=.dict eb pb)
  (hne:(ea.size !=eb.size)=true) (q:Q false s):wpAny (model prog w) A (Builtin.Dict.samePairs id a b) Q E s:=by
 unfold Builtin.Dict.samePairs;refine XA (vp sa (XA (vp sb ?_)));refine XA (wpAny_dictEntries ha da ?_);refine XA (wpAny_dictEntries hb db ?_);rw[XY hne];exact XA (wpAny_rule (XB q))
def nA {K:Type}[DecidableEq K]{knd:KeyKind prog w K}{id:String}{Q:Bool->WR->Prop}(sa:(a==sysModules)=false)(sb:(b==sysModules)=false)(ha:s.heap.get? a=some oa)(da:oa.data=.dict ea pa)(hb:s.heap.get? b=some ob)(db:ob.data=.dict eb pb)
  (hk:KeysOf knd eb) (hsz:ea.size=eb.size)
  (hv:∀i (h1:i<ea.size) (h2:i<eb.size),∃k,knd.is k ea[i].key=true/\ea[i].hash=knd.hash k/\(eb.findIdx? λe=>knd.is k e.key)=some i/\SeqAt.EqAt A s ea[i].val eb[i].val true) (q:Q true s):
  wpAny (model prog w) A (Builtin.Dict.samePairs id a b) Q E s:=by
 unfold Builtin.Dict.samePairs;refine XA (vp sa (XA (vp sb ?_)));refine XA (wpAny_dictEntries ha da ?_);refine XA (wpAny_dictEntries hb db ?_);rw[if_neg (by simp[hsz])];refine XA (wpAny_dictEpoch ha da ?_);refine XA ?_;rw[Std.Legacy.Range.forIn_eq_forIn_range'];simp only[Std.Legacy.Range.size,Nat.sub_zero,Nat.add_sub_cancel,Nat.div_one];refine wpAny_forIn_list _ (λY4 r s2=>∃i,Y4=List.range' i (ea.size-i)/\i<=ea.size/\r.1=none/\s2=s) _ ?_ ?_ _ _ ⟨0,by simp,Nat.zero_le _,FQ,FQ⟩
 ·rintro x Y4 r s2 ⟨i,hr,hi,hr1,rfl⟩;have hlt:i<ea.size:=by
   rcases Nat.lt_or_ge i ea.size with h | h
   ·exact h
   ·rw[Nat.sub_eq_zero_of_le h] at hr;simp at hr
  obtain⟨rfl,hrest⟩:x=i/\Y4=List.range' (i+1) (ea.size-(i+1)):=by
   have e:ea.size-i=(ea.size-(i+1))+1:=by omega
   rw[e,List.range'_succ] at hr;injection hr with h1 h2
   exact⟨h1,h2⟩
  have hltb:x<eb.size:=by omega
  obtain⟨k,k1,k2,k3,k4⟩:=hv x hlt hltb;refine XA (wpAny_dictEntries ha da ?_);rw[Array.getElem?_eq_getElem hlt];refine XA (wpAny_holding ?_);rw[k2];refine XA (wpAny_dictFind_of k1 hb db hk ?_);rw[k3];refine XA (wpAny_dictEntries hb db ?_);rw[Array.getElem?_eq_getElem hltb];refine wpAny_holding (k4 prog w _ _ ?_);rw[XX (by decide)];refine XA (wpAny_dictEpoch ha da ?_);rw[if_neg (by simp)];exact XB ⟨x+1,hrest,hlt,FQ,FQ⟩
 ·rintro r s2 ⟨i,hr,hi,hr1,rfl⟩;rw[hr1];exact XB q
def vR (wanted:Bool){k:Bool}{R:Result->WR->Prop}(ha:s.TypeIs (.ref a) "dict")(hb:s.TypeIs (.ref b) "dict")
  (hs:∀(id:String) (Q:Bool->WR->Prop),Q k s->wpAny (model prog w) A.in1 (Builtin.Dict.samePairs id a b) Q (λe s2=>R (.error e) s2) s) (h:R (.ok (.ret (.bool (k==wanted)))) s):
  wpAny (model prog w) A.in1 ((if wanted then Builtin.«dict.__eq__» else Builtin.«dict.__ne__») ⟨[.ref a,.ref b],[]⟩)
   (λfin s2=>match fin with | .done f=>R (.ok f) s2 | .again c2=>c2.quiet=true/\codeAny (model prog w) A c2 R s2) (λe s2=>R (.error e) s2) s:=by
 cases wanted
 ·rw[XX (by decide)];unfold Builtin.«dict.__ne__»
  wp_delta
  unfold Builtin.Dict.dictSlotArgs;refine XA (XA (wpAny_notOrdered_dict ha ?_));refine XA (wpAny_of_eq (a:=(Value.ref a,[Value.ref b])) FQ (XB ?_));refine XA (wpAny_isInstance (T:="dict") (b:=true) hb (by rw[isSubtype_type];kernel_rfl) ?_);rw[XX (by decide)];refine XA (XB (XA (XB (XA (hs _ _ ?_)))));exact XB h
 ·rw[XY rfl];unfold Builtin.«dict.__eq__»
  wp_delta
  unfold Builtin.Dict.dictSlotArgs;refine XA (XA (wpAny_notOrdered_dict ha ?_));refine XA (wpAny_of_eq (a:=(Value.ref a,[Value.ref b])) FQ (XB ?_));refine XA (wpAny_isInstance (T:="dict") (b:=true) hb (by rw[isSubtype_type];kernel_rfl) ?_);rw[XX (by decide)];refine XA (XB (XA (XB (XA (hs _ _ ?_)))));exact XB h
def lM {k:Bool}{Q:WQ->WR->Prop}(hu:A.units<cLine)(ha:s.TypeIs (.ref a) "dict")(hb:s.TypeIs (.ref b) "dict")
  (hs:∀(E:WQ->WR->Prop) (id:String) (Q:Bool->WR->Prop),Q k s->wpAny (model prog w) A.in1 (Builtin.Dict.samePairs id a b) Q E s) (h:Q (.bool (k==true)) s):wpAny (model prog w) A (richCompare .Eq (.ref a) (.ref b)) Q E s:=
 wpAny_richCompare_same_room ha hb PySem.F.slot_dict_eq (wpAny_call (codeAny_call_builtin PySem.F.slot_dict_eq.plain PySem.F.entry_dict_eq (PySem.F.slot_dict_eq.check _ _ _ _ _ _ _ _ ha (PySem.F.args_dict_eq_2 _ _)
  (vR (R:=λr s2=>match r with | .ok (.ret v)=>v≠.notImplemented/\Q v s2 | .ok _=>False | .error e=>E e s2) true ha hb (λid Q q=>hs _ id Q q) ⟨(λz=>nomatch z),h⟩)))) hu
def lL {k:Bool}{Q:WQ->WR->Prop}(hu:A.units<cLine)(ha:s.TypeIs (.ref a) "dict")(hb:s.TypeIs (.ref b) "dict")
  (hs:∀(E:WQ->WR->Prop) (id:String) (Q:Bool->WR->Prop),Q k s->wpAny (model prog w) A.in1 (Builtin.Dict.samePairs id a b) Q E s) (h:Q (.bool (k==false)) s):wpAny (model prog w) A (richCompare .NotEq (.ref a) (.ref b)) Q E s:=
 wpAny_richCompare_same_room ha hb PySem.F.slot_dict_ne (wpAny_call (codeAny_call_builtin PySem.F.slot_dict_ne.plain PySem.F.entry_dict_ne (PySem.F.slot_dict_ne.check _ _ _ _ _ _ _ _ ha (PySem.F.args_dict_ne_2 _ _)
  (vR (R:=λr s2=>match r with | .ok (.ret v)=>v≠.notImplemented/\Q v s2 | .ok _=>False | .error e=>E e s2) false ha hb (λid Q q=>hs _ id Q q) ⟨(λz=>nomatch z),h⟩)))) hu
end
section
variable {prog:WO}{w:WN}{A:WM}{E:WQ->WR->Prop}{s:WR}
def nv {Q:WQ->WR->Prop}(hj:s.heap.IsTupleIter jt q i)(hq:s.heap.IsTuple q its)(hx:its[i]?=some x)
  (hQ:∀h2,h2.IsTupleIter jt q (i+1)->Heap.SameBut jt s.heap h2->Q x {s with heap:=h2}):wpAny (model prog w) A (Builtin.SmallTypes.nextOf (.ref jt)) Q E s:=by
 obtain⟨ob,hob,hcl,hda⟩:=id hj;obtain⟨oq,hoq,_,nq,hdq⟩:=hq;unfold Builtin.SmallTypes.nextOf;refine XA (wpAny_callSpecial?_slot (name:=Str.ofString "__next__") hj.typeIs DF (wpAny_call_entry DF hj.typeIs F.entry_tuple_iterator_next ?_ (FD _)));show wpAny _ _ (field (.ref jt) 0>>=_) _ _ s;refine XA (wpAny_field hob hda (x:=.ref q) FQ ?_);show wpAny _ _ (if (Value.ref q==Value.none)=true then _ else _) _ _ s;rw[XX (show ¬((Value.ref q==Value.none)=true) from YJ)];show wpAny _ _ (field (.ref jt) 1>>=_) _ _ s;refine XA (wpAny_field hob hda (x:=.int i 0) FQ ?_);show wpAny _ _ (seqItems? (.ref q)>>=_) _ _ s;refine XA (wpAny_seqItems hoq hdq ?_);simp only[Int.toNat_natCast,hx];refine wpAny_bind (wpAny_setField hob hda (by simp) (wpAny_pure ⟨x,FQ,wpAny_pure (hQ _ ?_ (Heap.SameBut.update ..))⟩));refine⟨_,Heap.get?_update_self _ hob (Obj.isFreed_of_fields (Obj.data_mapFields hda _)),(Obj.cls_mapFields ..).trans hcl,?_⟩;rw[Obj.data_mapFields hda];simp[rawInt]
def iE {Q:WQ->WR->Prop}(hh:A.handled=none)(hj:s.heap.IsTupleIter jt q i)(hq:s.heap.IsTuple q its)(hx:its[i]?=none)
  (hE:∀h2 ex,Heap.ExtBut jt s.heap h2->(∃o,h2.get? ex=some o/\o.cls=.type "StopIteration")->E (.ref ex) {s with heap:=h2}):wpAny (model prog w) A (Builtin.SmallTypes.nextOf (.ref jt)) Q E s:=by
 obtain⟨ob,hob,hcl,hda⟩:=id hj;obtain⟨oq,hoq,_,nq,hdq⟩:=hq;unfold Builtin.SmallTypes.nextOf;refine XA (wpAny_callSpecial?_slot (name:=Str.ofString "__next__") hj.typeIs DF (wpAny_call_entry DF hj.typeIs F.entry_tuple_iterator_next ?_ (FD _)));show wpAny _ _ (field (.ref jt) 0>>=_) _ _ s;refine XA (wpAny_field hob hda (x:=.ref q) FQ ?_);show wpAny _ _ (if (Value.ref q==Value.none)=true then _ else _) _ _ s;rw[XX (show ¬((Value.ref q==Value.none)=true) from YJ)];show wpAny _ _ (field (.ref jt) 1>>=_) _ _ s;refine XA (wpAny_field hob hda (x:=.int i 0) FQ ?_);show wpAny _ _ (seqItems? (.ref q)>>=_) _ _ s;refine XA (wpAny_seqItems hoq hdq ?_);simp only[Int.toNat_natCast,hx];refine wpAny_bind (wpAny_rule (wpAny_bind (wpAny_setField hob hda (by simp) ?_)));refine XA ?_;simp only[newExc,newTuple];refine XA (wpAny_newObj_type ?_ (by size_fits));refine wpAny_bind (m:=firstArgMember _ _) (wpAny_of_eq (a:=Value.none) (by first | rfl | (simp only[firstArgMember]<;>rfl)) ?_);refine wpAny_newObj_type ?_ (by size_fits);simp only[raiseNew];refine XA (wpAny_handled ?_);rw[show A.in1.handled=none from hh];exact XA (XB (wpAny_throw (hE _ _ (((Heap.SameBut.update ..).extBut.push _).push _) ⟨_,XF _ FQ,FQ⟩)))
end
def Ub {prog:WO}{w:WN}{A:WM}(hh:A.handled=none)(jt q:WP)(hne:q≠jt)(its:Array WQ):
  Draws prog w A jt [jt,q] its.size (λi v=>its[i]?=some v) (λi h=>h.IsTupleIter jt q i/\h.IsTuple q its) where
 live:=λ_ _ st=>let ⟨o,ho,_⟩:=st.1;⟨o,ho⟩
 frame:=λ_ _ _ st k=>⟨st.1.at λo e=>k jt (by simp) o e,st.2.at λo e=>k q (by simp) o e⟩
 item:=λi s Q E hi st hQ=>nv st.1 st.2 (x:=its[i]) (by simp[hi]) λh2 a b=>hQ _ h2 s.toks (by simp[hi]) ⟨a,st.2.extBut b.extBut hne⟩ b
 done:=λs Q E st hE=>iE hh st.1 st.2 (by simp) hE
structure oU (z TI TO i1 i2:Addr)(f1 f2:List Addr):Prop where
 m1:i1∈f1
 m2:i2∈f2
 z1:z∉f1
 z2:z∉f2
 o1:TO∉f1
 o2:TO∉f2
 a12:i1∉f2
 a21:i2∉f1
 tz:TI≠z
 oz:TO≠z
 io:TI≠TO
 t1:TI≠i1
 t2:TI≠i2
section
variable {prog:WO}{w:WN}{A:WM}{E:WQ->WR->Prop}{s:WR}{z TI TO i1 i2:WP}{f1 f2:List WP}{n:Nat}{P1 P2:Nat->WQ->Prop}{S1 S2:Nat->WU->Prop}
def vf {i:Nat}{u v:WQ}{Q:WQ->WR->Prop}(D1:Draws prog w A i1 f1 n P1 S1)(D2:Draws prog w A i2 f2 n P2 S2)(Z:oU z TI TO i1 i2 f1 f2)(hi:i<n)
  (hz:IsZip s.heap z TI TO .none) (hTI:IsPair s.heap TI (.ref i1) (.ref i2)) (hTO:IsPair s.heap TO u v) (s1:S1 i s.heap) (s2:S2 i s.heap)
  (hQ:∀x y h2 t2,P1 i x->P2 i y->IsZip h2 z TI TO (rawInt s.heap.objs.size)->IsPair h2 TO x y->S1 (i+1) h2->S2 (i+1) h2->IsPair h2 s.heap.objs.size x y->
   (∀c o,c≠z->c≠TO->c≠i1->c≠i2->s.heap.get? c=some o->h2.get? c=some o)->Q (.ref s.heap.objs.size) {s with heap:=h2,toks:=t2}):
  wpAny (model prog w) A (Builtin.«zip.__next__» ⟨[.ref z],[]⟩) (λfin s2=>∃r,fin=.done (.ret r)/\Q r s2) E s:=by
 show wpAny _ _ (field (.ref z) 2>>=_) _ E s;refine XA (wpAny_field hz FQ (x:=.bool false) FQ ?_);show wpAny _ _ (field (.ref z) 3>>=_) _ E s;refine XA (wpAny_field hz FQ (x:=.ref TI) FQ ?_);refine XA (wpAny_seqItems hTI FQ ?_);show wpAny _ _ (Builtin.SmallTypes.ownedTupleIsFree (.ref z)>>=_) _ E s;refine XA ?_;unfold Builtin.SmallTypes.ownedTupleIsFree;refine XA (wpAny_field hz FQ (x:=.none) FQ (XB ?_));simp only[if_true];refine XA (wpAny_rule ?_);refine XA (wpAny_field hz FQ (x:=.ref TO) FQ ?_);refine wpAny_bind (wpAny_setField_rec hz (by simp) λha hza sa=>?_)
 replace hza:IsZip ha z TI TO .ellipsis:=hza
 refine XA ?_;simp only[List.zipIdx_cons,List.zipIdx_nil,List.forIn_cons,List.forIn_nil];have ne:∀{b c:WP} {l:List WP},b∈l->c∉l->b≠c:=λhb hc e=>hc (e▸hb);have a1:S1 i ha:=D1.frame i _ _ s1 λb hb o e=>sa.extBut _ _ (ne hb Z.z1) e;have a2:S2 i ha:=D2.frame i _ _ s2 λb hb o e=>sa.extBut _ _ (ne hb Z.z2) e;refine XA (XA (wpAny_onRaise ?_));show wpAny _ _ (Builtin.SmallTypes.nextOf (.ref i1)>>=_) _ _ _;refine XA (D1.item i {s with heap:=ha} _ _ hi a1 λx hb tb hx b1 sb=>XB ?_);have b2:S2 i hb:=D2.frame i _ _ a2 λb hm o e=>sb.extBut _ _ (ne hm Z.a12) e;have Oi1:TO≠i1:=λe=>Z.o1 (e▸Z.m1);have Oi2:TO≠i2:=λe=>Z.o2 (e▸Z.m2);have zi1:z≠i1:=λe=>Z.z1 (e▸Z.m1);have zi2:z≠i2:=λe=>Z.z2 (e▸Z.m2);have tob:IsPair hb TO u v:=sb.extBut _ _ Oi1 (sa.extBut _ _ Z.oz hTO);refine XA (wpAny_seqItems tob FQ ?_);refine XA (wpAny_updateSeq_pair tob λhc toc sc=>?_)
 replace toc:IsPair hc TO x v:=toc
 refine XA (wpAny_letGo (XB ?_));have c1:S1 (i+1) hc:=D1.frame _ _ _ b1 λb hm o e=>sc.extBut _ _ (ne hm Z.o1) e;have c2:S2 i hc:=D2.frame _ _ _ b2 λb hm o e=>sc.extBut _ _ (ne hm Z.o2) e;refine XA (XA (wpAny_onRaise ?_));show wpAny _ _ (Builtin.SmallTypes.nextOf (.ref i2)>>=_) _ _ _;refine XA (D2.item i {s with heap:=hc,toks:=tb} _ _ hi c2 λy hd td hy d2 sd=>XB ?_);have d1:S1 (i+1) hd:=D1.frame _ _ _ c1 λb hm o e=>sd.extBut _ _ (ne hm Z.a21) e;have tod:IsPair hd TO x v:=sd.extBut _ _ Oi2 toc;refine XA (wpAny_seqItems tod FQ ?_);refine XA (wpAny_updateSeq_pair tod λhe toe se=>?_)
 replace toe:IsPair he TO x y:=toe
 refine XA (wpAny_letGo (XB (XB ?_)));have e1:S1 (i+1) he:=D1.frame _ _ _ d1 λb hm o e=>se.extBut _ _ (ne hm Z.o1) e;have e2:S2 (i+1) he:=D2.frame _ _ _ d2 λb hm o e=>se.extBut _ _ (ne hm Z.o2) e;refine XA (wpAny_seqItems toe FQ ?_);refine XA (wpAny_newTuple ?_);have hsz:he.objs.size=s.heap.objs.size:=by rw[se.1,sd.1,sc.1,sb.1,sa.1]
 have hze:IsZip he z TI TO .ellipsis:=se.extBut _ _ Z.oz.symm (sd.extBut _ _ zi2 (sc.extBut _ _ Z.oz.symm (sb.extBut _ _ zi1 hza)));have hke:∀c o,c≠z->c≠TO->c≠i1->c≠i2->s.heap.get? c=some o->he.get? c=some o:=λc o n1 n2 n3 n4 e=>se.extBut _ _ n2 (sd.extBut _ _ n4 (sc.extBut _ _ n2 (sb.extBut _ _ n3 (sa.extBut _ _ n1 e))));have hzlt:z<he.objs.size:=XD hze;show wpAny _ _ (Builtin.SmallTypes.ownedTupleHandOut (.ref z) (.ref he.objs.size)>>=_) _ _ _;refine XA ?_;unfold Builtin.SmallTypes.ownedTupleHandOut;have hzf:IsZip (he.push {cls:=.type "tuple",data:=.seq #[x,y]}) z TI TO .ellipsis:=XC _ hze;refine wpAny_bind (wpAny_setField_rec hzf (by simp) λhg hzg sg=>?_)
 replace hzg:IsZip hg z TI TO (rawInt he.objs.size):=hzg
 refine wpAny_setField_rec hzg (by simp) λhk hzk sk=>?_
 replace hzk:IsZip hk z TI TO (rawInt he.objs.size):=hzk
 have up:∀c o,c≠z->he.get? c=some o->hk.get? c=some o:=λc o n1 e=>sk.extBut _ _ n1 (sg.extBut _ _ n1 (XC _ e));have hT:IsPair hk he.objs.size x y:=sk.extBut _ _ (DJ hzlt) (sg.extBut _ _ (DJ hzlt) (XF _ FQ));rw[hsz] at hzk hT;refine XB ⟨_,FQ,?_⟩;show Q (.ref he.objs.size) _;rw[hsz];exact hQ x y hk td hx hy hzk (up _ _ Z.oz toe) (D1.frame _ _ _ e1 λb hm o e=>up _ o (ne hm Z.z1) e) (D2.frame _ _ _ e2 λb hm o e=>up _ o (ne hm Z.z2) e) hT λc o n1 n2 n3 n4 e=>up c o n1 (hke c o n1 n2 n3 n4 e)
def tX {u v:WQ}{Q:Fin->WR->Prop}(D1:Draws prog w A i1 f1 n P1 S1)(Z:oU z TI TO i1 i2 f1 f2)
  (hz:IsZip s.heap z TI TO .none) (hTI:IsPair s.heap TI (.ref i1) (.ref i2)) (hTO:IsPair s.heap TO u v) (s1:S1 n s.heap)
  (hE:∀h2 ex,(∀c o,c≠z->c≠TO->c≠i1->c≠i2->s.heap.get? c=some o->h2.get? c=some o)->(∃o,h2.get? ex=some o/\o.cls=.type "StopIteration")->E (.ref ex) {s with heap:=h2}):
  wpAny (model prog w) A (Builtin.«zip.__next__» ⟨[.ref z],[]⟩) Q E s:=by
 show wpAny _ _ (field (.ref z) 2>>=_) _ E s;refine XA (wpAny_field hz FQ (x:=.bool false) FQ ?_);show wpAny _ _ (field (.ref z) 3>>=_) _ E s;refine XA (wpAny_field hz FQ (x:=.ref TI) FQ ?_);refine XA (wpAny_seqItems hTI FQ ?_);show wpAny _ _ (Builtin.SmallTypes.ownedTupleIsFree (.ref z)>>=_) _ E s;refine XA ?_;unfold Builtin.SmallTypes.ownedTupleIsFree;refine XA (wpAny_field hz FQ (x:=.none) FQ (XB ?_));simp only[if_true];refine XA (wpAny_rule ?_);refine XA (wpAny_field hz FQ (x:=.ref TO) FQ ?_);refine wpAny_bind (wpAny_setField_rec hz (by simp) λha hza sa=>?_)
 replace hza:IsZip ha z TI TO .ellipsis:=hza
 refine XA ?_;simp only[List.zipIdx_cons,List.zipIdx_nil,List.forIn_cons,List.forIn_nil];have ne:∀{b c:WP} {l:List WP},b∈l->c∉l->b≠c:=λhb hc e=>hc (e▸hb);have a1:S1 n ha:=D1.frame n _ _ s1 λb hb o e=>sa.extBut _ _ (ne hb Z.z1) e;refine XA (XA (wpAny_onRaise ?_));show wpAny _ _ (Builtin.SmallTypes.nextOf (.ref i1)>>=_) _ _ _;refine XA (D1.done {s with heap:=ha} _ _ a1 λhb ex sb he=>?_);obtain⟨oe,hoe,hce⟩:=he;have hzb:IsZip hb z TI TO .ellipsis:=sb _ _ (λe=>Z.z1 (e▸Z.m1)) hza;have hez:ex≠z:=λe=>by subst e;rw[hzb] at hoe;cases hoe;simp at hce
 exact wpAny_setField_rec hzb (by simp) λhc _ sc=>hE hc ex (λc o n1 _ n3 _ e=>sc.extBut _ _ n1 (sb _ _ n3 (sa.extBut _ _ n1 e))) ⟨oe,sc.extBut _ _ hez hoe,hce⟩
def yz (D1:Draws prog w A.in1 i1 f1 n P1 S1)(D2:Draws prog w A.in1 i2 f2 n P2 S2)(Z:oU z TI TO i1 i2 f1 f2):
  WalksT prog w A z (z::TI::TO::(f1++f2)) [z,TO,i1,i2] n (λi vals=>∃x y,P1 i x/\P2 i y/\vals=#[x,y])
   (λi h=>IsZip h z TI TO .none/\IsPair h TI (.ref i1) (.ref i2)/\(∃a b,IsPair h TO a b)/\S1 i h/\S2 i h)
   (λi T h=>IsZip h z TI TO (rawInt T)/\IsPair h TI (.ref i1) (.ref i2)/\(∃a b,IsPair h TO a b)/\S1 (i+1) h/\S2 (i+1) h/\T∉[z,TO,i1,i2]) where
 sub:=λc hc=>by
  simp only[ZM,ZN,or_false] at hc
  rcases hc with rfl | rfl | rfl | rfl
  ·simp
  ·simp
  ·simp[Z.m1]
  ·simp[Z.m2]
 frame:=λi h h2 st k=>by
  obtain⟨a,b,⟨u,v,c⟩,d,e⟩:=st;exact⟨k z (by simp) _ a,k TI (by simp) _ b,⟨u,v,k TO (by simp) _ c⟩,D1.frame _ _ _ d λx hx o q=>k x (by simp[hx]) o q,D2.frame _ _ _ e λx hx o q=>k x (by simp[hx]) o q⟩
 item:=λi s Q E hi st hQ=>by
  obtain⟨a,b,⟨u,v,c⟩,d,e⟩:=st;have hT:s.TypeIs (.ref z) "zip":=⟨_,a,FQ⟩;unfold pyNext;refine XA (wpAny_attempt (wpAny_callSpecial?_slot (name:=Str.ofString "__next__") hT CI (wpAny_call_entry CI hT DL
   (vf D1 D2 Z hi a b c d e λx y h2 t2 hx hy z1 z2 z3 z4 z5 z6=>XB ?_) (DH _))))
  have lt:∀{c o},s.heap.get? c=some o->s.heap.objs.size≠c:=λe=>DJ (XD e);obtain⟨o1,l1⟩:=D1.live _ _ d;obtain⟨o2,l2⟩:=D2.live _ _ e;refine hQ s.heap.objs.size #[x,y] h2 t2 ⟨x,y,hx,hy,FQ⟩ (Nat.le_refl _) ⟨_,z5,FQ,_,FQ⟩ ⟨z1,z6 _ _ Z.tz Z.io Z.t1 Z.t2 b,⟨_,_,z2⟩,z3,z4,?_⟩ λc o hc q=>z6 c o (λx=>hc (by simp[x])) (λx=>hc (by simp[x])) (λx=>hc (by simp[x])) (λx=>hc (by simp[x])) q;simp only[List.mem_cons,List.not_mem_nil,or_false,not_or];exact⟨lt a,lt c,lt l1,lt l2⟩
 go:=λelts k pos i T s Q E hm hQ=>by
  obtain⟨a,b,⟨u,v,c⟩,d,e,_⟩:=hm;refine wpAny_letOwnedTupleGo_zip a λh2 hz2 s2=>hQ h2 ⟨hz2,s2.extBut _ _ Z.tz b,⟨u,v,s2.extBut _ _ Z.oz c⟩,?_,?_⟩ λc o hc q=>s2.extBut _ _ (λx=>hc (by simp[x])) q
  ·exact D1.frame _ _ _ d λx hx o q=>s2.extBut _ _ (λz'=>Z.z1 (z'▸hx)) q
  ·exact D2.frame _ _ _ e λx hx o q=>s2.extBut _ _ (λz'=>Z.z2 (z'▸hx)) q
 apart:=λi T h hm=>hm.2.2.2.2.2
 done:=λs Q E st hQ=>by
  obtain⟨a,b,⟨u,v,c⟩,d,e⟩:=st;have hT:s.TypeIs (.ref z) "zip":=⟨_,a,FQ⟩;unfold pyNext;refine XA (wpAny_attempt (wpAny_callSpecial?_slot (name:=Str.ofString "__next__") hT CI (wpAny_call_entry CI hT DL (tX D1 Z a b c d λh2 ex hk he=>?_) (DH _))));obtain⟨o,ho,hc⟩:=he;refine XA (wpAny_isInstance (T:="StopIteration") (b:=true) ⟨o,ho,hc⟩ isSubtype_stop ?_);exact wpAny_pure (hQ h2 s.toks λc o hc q=>hk c o (λx=>hc (by simp[x])) (λx=>hc (by simp[x])) (λx=>hc (by simp[x])) (λx=>hc (by simp[x])) q)
 self:=λi s Q E st h=>wpAny_pyIter_zip st.1 h
end
abbrev jx (c:String)(l:WP):Obj:={cls:=.type c,data:=.fields #[.ref l,.int 0 0]}
abbrev zA (h:WU)(c1:String)(l1:WP):WU:=h.push (jx c1 l1)
abbrev zB (h:WU)(c1:String)(l1:WP)(c2:String)(l2:WP):WU:=(zA h c1 l1).push (jx c2 l2)
abbrev zC (h:WU)(c1:String)(l1:WP)(c2:String)(l2:WP):WU:=(zB h c1 l1 c2 l2).push {cls:=.type "tuple",data:=.seq #[.ref h.objs.size,.ref (zA h c1 l1).objs.size]}
abbrev zD (h:WU)(c1:String)(l1:WP)(c2:String)(l2:WP):WU:=(zC h c1 l1 c2 l2).push {cls:=.type "tuple",data:=.seq #[.none,.none]}
abbrev zE (h:WU)(c1:String)(l1:WP)(c2:String)(l2:WP):WU:=(zD h c1 l1 c2 l2).push {cls:=.type "zip",data:=.fields #[.none,.bool false,.bool false,.ref (zB h c1 l1 c2 l2).objs.size,.ref (zC h c1 l1 c2 l2).objs.size]}
def ik (b:Bool)(h:WU)(l:WP)(its:Array WQ):Prop:=if b then h.IsList l its else h.IsTuple l its
def cX (b:Bool):String:=if b then "list_iterator" else "tuple_iterator"
def Zaw (c b:Bool)(l1 l2:WP)(xs ys:Array WQ):Meets (Builtin.«zip.__new__» ⟨[.type "zip",.ref l1,.ref l2],[]⟩) (λ_ R s=>ik c s.heap l1 xs/\ik b s.heap l2 ys/\
  R (.ok (.ret (.ref (zD s.heap (cX c) l1 (cX b) l2).objs.size))) {s with heap:=zE s.heap (cX c) l1 (cX b) l2}):=
 .of_wp λprog w A R s h=>by
  obtain⟨hp,g,d,tk,os⟩:=s;obtain⟨hl1,hl2,h⟩:=h;have hsub:=sub_zip
  cases c
  ·have hL1:Heap.IsTuple (Shared.heap ⟨hp,g,d,tk,os⟩) l1 xs:=hl1
   cases b
   ·have hL2:Heap.IsTuple (Shared.heap ⟨hp.push (jx "tuple_iterator" l1),g,d,tk,os⟩) l2 ys:=Heap.IsTuple.push hl2 _
    wp_walk using wpAny_pyIter_tuple hL1,wpAny_pyIter_tuple hL2
    exact⟨_,FQ,h⟩
   ·have hL2:Heap.IsList (Shared.heap ⟨hp.push (jx "tuple_iterator" l1),g,d,tk,os⟩) l2 ys:=Heap.IsList.push hl2 _
    wp_walk using wpAny_pyIter_tuple hL1,wpAny_pyIter_list hL2
    exact⟨_,FQ,h⟩
  ·have hL1:Heap.IsList (Shared.heap ⟨hp,g,d,tk,os⟩) l1 xs:=hl1
   cases b
   ·have hL2:Heap.IsTuple (Shared.heap ⟨hp.push (jx "list_iterator" l1),g,d,tk,os⟩) l2 ys:=Heap.IsTuple.push hl2 _
    wp_walk using wpAny_pyIter_list hL1,wpAny_pyIter_tuple hL2
    exact⟨_,FQ,h⟩
   ·have hL2:Heap.IsList (Shared.heap ⟨hp.push (jx "list_iterator" l1),g,d,tk,os⟩) l2 ys:=Heap.IsList.push hl2 _
    wp_walk using wpAny_pyIter_list hL1,wpAny_pyIter_list hL2
    exact⟨_,FQ,h⟩
structure eo (h h2:Heap)(c1:String)(l1:Addr)(c2:String)(l2:Addr):Prop where
 zip:IsZip h2 (h.objs.size+4) (h.objs.size+2) (h.objs.size+3) .none
 its:IsPair h2 (h.objs.size+2) (.ref h.objs.size) (.ref (h.objs.size+1))
 own:IsPair h2 (h.objs.size+3) .none .none
 i1:h2.get? h.objs.size=some (jx c1 l1)
 i2:h2.get? (h.objs.size+1)=some (jx c2 l2)
 keep:∀c o,h.get? c=some o->h2.get? c=some o
def aI (h:WU)(c1:String)(l1:WP)(c2:String)(l2:WP):eo h (zE h c1 l1 c2 l2) c1 l1 c2 l2/\(zD h c1 l1 c2 l2).objs.size=h.objs.size+4:=by
 have z1:(zA h c1 l1).objs.size=h.objs.size+1:=CL ..;have z2:(zB h c1 l1 c2 l2).objs.size=h.objs.size+2:=by rw[CL,z1]
 have z3:(zC h c1 l1 c2 l2).objs.size=h.objs.size+3:=by rw[CL,z2]
 have z4:(zD h c1 l1 c2 l2).objs.size=h.objs.size+4:=by rw[CL,z3]
 have g5:(zE h c1 l1 c2 l2).get? (zD h c1 l1 c2 l2).objs.size=some _:=XF _ FQ;have g4:(zE h c1 l1 c2 l2).get? (zC h c1 l1 c2 l2).objs.size=some _:=XC _ (XF _ FQ);have g3:(zE h c1 l1 c2 l2).get? (zB h c1 l1 c2 l2).objs.size=some _:=XC _ (XC _ (XF _ FQ));have g2:(zE h c1 l1 c2 l2).get? (zA h c1 l1).objs.size=some _:=XC _ (XC _ (XC _ (XF _ FQ)));have g1:(zE h c1 l1 c2 l2).get? h.objs.size=some _:=XC _ (XC _ (XC _ (XC _ (XF _ FQ))));rw[z2,z3,z4] at g5;rw[z1,z2] at g3;rw[z3] at g4;rw[z1] at g2;exact⟨⟨g5,g3,g4,g1,g2,λc o x=>XC _ (XC _ (XC _ (XC _ (XC _ x))))⟩,z4⟩
section
variable {prog:WO}{w:WN}{A:WM}{E:WQ->WR->Prop}{s:WR}
def Ds (c b:Bool){Q:WQ->WR->Prop}(hl1:ik c s.heap l1 xs)(hl2:ik b s.heap l2 ys)
  (h:∀h2,eo s.heap h2 (cX c) l1 (cX b) l2->Q (.ref (s.heap.objs.size+4)) {s with heap:=h2}):wpAny (model prog w) A (call (.type "zip") [.ref l1,.ref l2]) Q E s:=by
 refine callType_new PySem.F.called_zip (by decide) (PySem.F.typeCall_zip_2 _ _) (PySem.F.newCall_zip_2 _ _) (λobj=>PySem.F.args_object_init_3 obj _ _) PySem.F.entry_zip_new (Zaw c b l1 l2 xs ys) ⟨hl1,hl2,?_⟩;obtain⟨N,e⟩:=aI s.heap (cX c) l1 (cX b) l2;show _/\_;rw[e];exact⟨⟨_,N.zip,FQ⟩,h _ N⟩
def A2 {k l1 l2:WP}(h1:l1<k)(h2:l2<k):oU (k+4) (k+2) (k+3) k (k+1) [k,l1] [k+1,l2]:=by
 have e:∀{a b:Nat},a≠b->∀{l:List Nat},a∉l->a∉b::l:=λh _ h'=>by simp[h,h']
 have n:∀a:Nat,a∉([]:List Nat):=λa=>by simp
 have L1:(l1:Nat)<k:=h1;have L2:(l2:Nat)<k:=h2;have d:∀{a b:Nat},a<b\/b<a->a≠b:=λh e=>by omega
 exact⟨by simp,by simp,e (d (.inr (Nat.lt_add_of_pos_right (by decide)))) (e (d (.inr (Nat.lt_of_lt_of_le L1 (Nat.le_add_right _ _)))) (n _)),e (d (.inr (Nat.add_lt_add_left (by decide) k))) (e (d (.inr (Nat.lt_of_lt_of_le L2 (Nat.le_add_right _ _)))) (n _)),
  e (d (.inr (DQ (by decide)))) (e (d (.inr (XG L1 (CK _ _)))) (n _)),e (d (.inr (DN (by decide) k))) (e (d (.inr (XG L2 (CK _ _)))) (n _)),
  e (d (.inl (DQ (by decide)))) (e (d (.inr L2)) (n _)),e (d (.inr (DQ (by decide)))) (e (d (.inr (XG L1 (CK _ _)))) (n _)),
  d (.inl (DN (by decide) k)),d (.inl (DN (by decide) k)),d (.inl (DN (by decide) k)),d (.inr (DQ (by decide))),d (.inr (DN (by decide) k))⟩
end
def tI (b:Bool)(K:WY)(H:Hp)(a:WP)(xs:List V):Prop:=if b then Ws K H a xs else U8 K H a xs
def ir (b:Bool)(h:WU)(it l:WP)(i:Nat):Prop:=if b then h.IsListIter it l i else h.IsTupleIter it l i
def Fd {prog:WO}{w:WN}{A:WM}(b:Bool)(hh:A.handled=none)(it l:WP)(hne:l≠it)(its:Array WQ):
  Draws prog w A it [it,l] its.size (λi v=>its[i]?=some v) (λi h=>ir b h it l i/\ik b h l its):=by
 cases b
 ·exact Ub hh it l hne its
 ·exact Draws.list hh it l hne its
section
variable {X:Cx}{WZ:List (WP×Obj)}{σ:St}{H:Hp}{s:WR}
def Z2.sqX (I:Z2 X WZ σ H s)(h:tI b X.K H a xs):∃its:List WQ,Yf xs its/\ik b s.heap a its.toArray:=by
 cases b
 ·obtain⟨its,r,p,_⟩:=I.tuple h;exact⟨its,r,p⟩
 ·obtain⟨its,r,p,_⟩:=I.list h;exact⟨its,r,p.isList⟩
def ik.lt (p:ik b h l its):l<h.objs.size:=by
 cases b
 ·obtain⟨_,e,_⟩:=p;exact XD e
 ·obtain⟨_,e,_⟩:=p;exact XD e
def ir.ob {l k:WP}(p:ir b h k l i):∃o,h.get? k=some o/\∀v,o.data≠.cell v:=by
 cases b
 ·obtain⟨o,e,c,d⟩:=p;exact⟨o,e,λv z=>by rw[d] at z;cases z⟩
 ·obtain⟨o,e,c,d⟩:=p;exact⟨o,e,λv z=>by rw[d] at z;cases z⟩
def ir.at {h h':WU}{l k:WP}(p:ir b h k l i)(q:∀o,h.get? k=some o->h'.get? k=some o):ir b h' k l i:=by
 cases b
 ·exact Heap.IsTupleIter.at p q
 ·exact Heap.IsListIter.at p q
def Z2.sqX_inj (I:Z2 X WZ σ H s)(h:tI b X.K H a xs)(h':tI b X.K H a ys):xs=ys:=by
 cases b
 ·exact I.tuple_inj h h'
 ·exact I.list_inj h h'
end
def Zb0 (z b:Bool)(K:WY)(l1 l2:WP):It:=
 ⟨λi H=>∃xs ys,tI z K H l1 xs/\tI b K H l2 ys/\xs.length=ys.length/\i<xs.length,
  λi H x H'=>∃u v T,(∀xs,tI z K H l1 xs->xs[i]?=some u)/\(∀ys,tI b K H l2 ys->ys[i]?=some v)/\x=.ref T/\H T=none/\H'=Je H T (.tup [u,v]),
  λi H=>∃xs ys,tI z K H l1 xs/\tI b K H l2 ys/\xs.length=ys.length/\i=xs.length⟩
def sM {P:WO}{w:WN}{K:WY}{elts:List WW}{ek:Nat}{epos:Pos}(z b:Bool){k l1 l2:WP}(h1:l1<k)(h2:l2<k):
  jY P w K (.Tuple elts ek epos) (Zb0 z b K l1 l2) [k+4,k+2,k+3,k,k+1] (k+4)
   (λi h=>IsZip h (k+4) (k+2) (k+3) .none/\IsPair h (k+2) (.ref k) (.ref (k+1))/\(∃a c,IsPair h (k+3) a c)/\ir z h k l1 i/\ir b h (k+1) l2 i) where
 mem:=by simp
 obj:=λi h st c hc=>by
  obtain⟨a1,a2,⟨u,v,a3⟩,a4,a5⟩:=st;simp only[ZM,ZN,or_false] at hc
  rcases hc with rfl | rfl | rfl | rfl | rfl
  ·exact⟨_,a1,λv z=>by have z':Data.fields _=Data.cell v:=z;cases z'⟩
  ·exact⟨_,a2,λv z=>by have z':Data.seq _ _=Data.cell v:=z;cases z'⟩
  ·exact⟨_,a3,λv z=>by have z':Data.seq _ _=Data.cell v:=z;cases z'⟩
  ·exact a4.ob
  ·exact a5.ob
 keep:=λi h h' st kp=>by
  obtain⟨a1,a2,⟨u,v,a3⟩,a4,a5⟩:=st;exact⟨kp _ (by simp) _ a1,kp _ (by simp) _ a2,⟨u,v,kp _ (by simp) _ a3⟩,a4.at λo e=>kp _ (by simp) o e,a5.at λo e=>kp _ (by simp) o e⟩
 item:=by
  intro X hP hw hK hc i WZ s σ H E I hf st hg;subst hP hw hK;obtain⟨xs,ys,hq1,hq2,hlen,hi⟩:=hg;obtain⟨its1,rv1,p1⟩:=I.sqX hq1;obtain⟨its2,rv2,p2⟩:=I.sqX hq2;obtain⟨a1,a2,a3,a4,a5⟩:=st;have hn1:its1.toArray.size=xs.length:=by rw[XJ,rv1.length]
  have hn2:its2.toArray.size=xs.length:=by rw[XJ,<-rv2.length,hlen]
  have D1:=Fd (prog:=X.prog) (w:=X.w) (A:=X.A.in1) z (I.ok.hd hc) k l1 (XH h1) its1.toArray;have D2:=Fd (prog:=X.prog) (w:=X.w) (A:=X.A.in1) b (I.ok.hd hc) (k+1) l2 (XH (EK h2)) its2.toArray;rw[hn1] at D1;rw[hn2] at D2;have W:=yz D1 D2 (A2 h1 h2);refine W.item i s _ _ hi ⟨a1,a2,a3,⟨a4,p1⟩,⟨a5,p2⟩⟩ λT vals h' tk hv hT htup hm kk=>?_;obtain⟨x,y,hx,hy,rfl⟩:=hv;refine⟨_,rfl,W.go elts ek epos i T {s with heap:=h',toks:=tk} _ _ hm λh2 st2 kk2=>?_⟩;have hu:xs[i]?=some xs[i]:=by simp[hi]
  have hv:ys[i]?=some (ys[i]'(by omega)):=by simp[show i<ys.length by omega]
  obtain⟨u1,e1,r1⟩:=rv1.get hu;obtain⟨u2,e2,r2⟩:=rv2.get hv;have ex:x=u1:=by
   have:its1[i]?=some x:=by simpa using hx
   rw[e1] at this;exact(YH this).symm
  have ey:y=u2:=by
   have:its2[i]?=some y:=by simpa using hy
   rw[e2] at this;exact(YH this).symm
  subst ex ey;have hTn:H T=none:=I.hok.fresh hT;have hTw:T∉[k+4,k+3,k,k+1]:=W.apart i T h' hm;have sub:∀c,c∈[k+4,k+3,k,k+1]->c∈[k+4,k+2,k+3,k,k+1]:=λc hc=>by
   simp only[ZM,ZN,or_false] at hc |-
   rcases hc with z | z | z | z<;>simp[z]
  have k2:∀c o,c∉[k+4,k+3,k,k+1]->s.heap.get? c=some o->h2.get? c=some o:=λc o hb q=>kk2 c o hb (kk c o hb q);have htup2:IsTup h2 T #[x,y]:=by
   obtain⟨o,ho,r⟩:=htup;exact⟨o,kk2 T o hTw ho,r⟩
  have hfp:∀c∈[k+4,k+3,k,k+1],H c=none:=λc hb=>(hf c (sub c hb)).1;have hne:∀c,c<s.heap.objs.size->c≠T:=λc hb=>XH (XG hb hT);have tracked:∀c u,H c=some u->c≠T/\c∉[k+4,k+3,k,k+1]:=λc u q=>⟨hne c (I.hok.lt q),λz=>by rw[hfp c z] at q;cases q⟩;have I1:Z2 X WZ σ (Je H T (.tup [xs[i],ys[i]'(by omega)])) {s with heap:=h2,gens:=s.gens,drawn:=s.drawn,toks:=tk}:=by
   refine I.step (ch:=[k+4,k+3,k,k+1]) (λc hb=>?_) (λc o _ _ hc q _=>k2 c o hc q) (λc o _ _ hc q _=>⟨o.slots,k2 c o hc q⟩) (λc o hc q n=>by rw[Yd (hne c (XD q))];exact n) (λc o hc q=>⟨o,k2 c o hc q⟩)
    (λc xs q=>by rw[Yd (tracked c _ q).1];exact q) (λc o u q=>by rw[Yd (tracked c _ q).1];exact q) (λc ps q=>⟨#[],by rw[Yd (tracked c _ q).1,q];simp⟩) (λm hm=>?_) (λc u q=>?_) I.bare
   ·obtain⟨f0,f1,f2,f3,f4,f5⟩:=hf c (sub c hb);exact⟨f3,f1,f4,f5⟩
   ·obtain⟨o,es,ep,ho,r⟩:=hm;exact⟨o,es,ep,k2 _ o (λz=>(hf _ (sub _ z)).2.1 FQ) ho,r⟩
   ·by_cases hb:c=T
    ·subst hb;rw[Yq] at q;cases q;exact⟨XN (by decide:2<=1000) (EF (B2 (XE _))),[x,y],.cons r1 (.cons r2 .nil),htup2⟩
    ·rw[Yd hb] at q;refine(I.hok c u q).stay (λd v hd r=>k2 d v ?_ r) (λd r=>by rw[Yd (tracked d _ r).1];exact r) λd xs r=>by rw[Yd (tracked d _ r).1];exact r
     rcases hd with rfl | hd
     ·exact(tracked d _ q).2
     ·exact(tracked d _ hd).2
  obtain⟨b1,b2,b3,⟨b4,_⟩,⟨b5,_⟩⟩:=st2;refine⟨.ref T,_,I1,FQ,⟨_,_,T,λzs hz=>by rw[I.sqX_inj hz hq1];exact hu,λzs hz=>by rw[I.sqX_inj hz hq2];exact hv,FQ,hTn,FQ⟩,⟨b1,b2,b3,b4,b5⟩,λc hb=>?_⟩;have hbT:c≠T:=by
   obtain⟨o,ho⟩:∃o,s.heap.get? c=some o:=by
    obtain⟨u,v,a3⟩:=a3;simp only[ZM,ZN,or_false] at hb
    rcases hb with rfl | rfl | rfl | rfl | rfl
    ·exact⟨_,a1⟩
    ·exact⟨_,a2⟩
    ·exact⟨_,a3⟩
    ·exact a4.ob.imp λ_ h=>h.1
    ·exact a5.ob.imp λ_ h=>h.1
   exact hne c (XD ho)
  rw[Yd hbT];exact(hf c hb).1
 done:=by
  intro X hP hw hK hc i WZ s σ H E I hf st hg;subst hP hw hK;obtain⟨xs,ys,hq1,hq2,hlen,hi⟩:=hg;obtain⟨its1,rv1,p1⟩:=I.sqX hq1;obtain⟨its2,rv2,p2⟩:=I.sqX hq2;obtain⟨a1,a2,a3,a4,a5⟩:=st;have hn1:its1.toArray.size=xs.length:=by rw[XJ,rv1.length]
  have hn2:its2.toArray.size=xs.length:=by rw[XJ,<-rv2.length,hlen]
  have D1:=Fd (prog:=X.prog) (w:=X.w) (A:=X.A.in1) z (I.ok.hd hc) k l1 (XH h1) its1.toArray;have D2:=Fd (prog:=X.prog) (w:=X.w) (A:=X.A.in1) b (I.ok.hd hc) (k+1) l2 (XH (EK h2)) its2.toArray;rw[hn1] at D1;rw[hn2] at D2;subst hi;have W:=yz D1 D2 (A2 h1 h2);have sub:∀c,c∈[k+4,k+3,k,k+1]->c∈[k+4,k+2,k+3,k,k+1]:=λc hc=>by
   simp only[ZM,ZN,or_false] at hc |-
   rcases hc with z | z | z | z<;>simp[z]
  refine W.done s _ _ ⟨a1,a2,a3,⟨a4,p1⟩,⟨a5,p2⟩⟩ λh' tk kk=>⟨FQ,?_⟩;exact I.step (g':=s.gens) (d':=s.drawn) (ch:=[k+4,k+3,k,k+1]) (λc hb=>let ⟨f0,f1,f2,f3,f4,f5⟩:=hf c (sub c hb);⟨f3,f1,f4,f5⟩) (λc o _ _ hc q _=>kk c o hc q) (λc o _ _ hc q _=>⟨o.slots,kk c o hc q⟩) (λc o _ _ n=>n) (λc o hc q=>⟨o,kk c o hc q⟩)
    (λ_ _ q=>q) (λ_ _ _ q=>q) (λc ps q=>⟨#[],by rw[q];simp⟩) (λm hm=>let ⟨o,es,ep,ho,r⟩:=hm;⟨o,es,ep,kk _ o (λz=>(hf _ (sub _ z)).2.1 FQ) ho,r⟩)
    (λc u q=>(I.hok c u q).stay (λd v hd r=>kk d v (λz=>by
     rcases hd with rfl | hd
     ·rw[(hf _ (sub _ z)).1] at q;cases q
     ·rw[(hf _ (sub _ z)).1] at hd;cases hd) r) (λ_ r=>r) λ_ _ r=>r) I.bare
 self:=λA i s Q E st h=>wpAny_pyIter_zip st.1 h
section
variable {X:Cx}{elts:List WW}{ek:Nat}{epos:Pos}
def Za2 (K:WY)(ta:TA):TI:=λσ H R=>ta σ H λvs H1=>∃(z b:Bool) (l1 l2:WP) (xs ys:List V),vs=[.ref l1,.ref l2]/\tI z K H1 l1 xs/\tI b K H1 l2 ys/\R (Zb0 z b K l1 l2) H1
def gg {a c:WW}{p pos:Pos}(hg:Gl X "zip")(hm:X.mg "zip"=none)(ha:PA X [a,c] ta)(hs:autoParam (starEach [a,c] X.env=(false,eval a X.env)::starEach [c] X.env) QzR)(hp:autoParam ((backTo pos (starEach [c] X.env)).any (·.1)=false) QzR)(hb:autoParam (bootBuiltins "zip"=some (.type "zip")) QzK):
  PI X (.Tuple elts ek epos) (.Call (.Name "zip" p) [a,c] [] pos) (Za2 X.K ta):=by
 intro WZ s σ H R I h;refine Call_ (Vo I hg hm hb (BZ (Js (ha pos WZ s σ H _ I h) λus s1 zZ=>?_) hs hp));obtain⟨vs,H1,I1,r1,q1⟩:=zZ;obtain⟨z,b,l1,l2,xs,ys,rfl,hq1,hq2,q⟩:=q1;obtain⟨u,v,rfl,ru,rv⟩:=r1.two
 cases ru
 cases rv
 obtain⟨its1,rv1,p1⟩:=I1.sqX hq1;obtain⟨its2,rv2,p2⟩:=I1.sqX hq2;have fin:∀h2,eo s1.heap h2 (cX z) l1 (cX b) l2->wpAny (model X.prog X.w) X.A (pyIter (.ref (s1.heap.objs.size+4))) (ah X WZ σ (.Tuple elts ek epos) R) X.xe {s1 with heap:=h2}:=λh2 N=>by
  refine wpAny_pyIter_zip (s:={s1 with heap:=h2}) N.zip ?_;refine⟨_,_,_,_,H1,FQ,I1.kept (t':=s1.toks) N.keep,sM z b p1.lt p2.lt,⟨N.zip,N.its,⟨_,_,N.own⟩,?_,?_⟩,λc hc=>?_,q⟩
  ·cases z
   ·exact⟨_,N.i1,FQ,FQ⟩
   ·exact⟨_,N.i1,FQ,FQ⟩
  ·cases b
   ·exact⟨_,N.i2,FQ,FQ⟩
   ·exact⟨_,N.i2,FQ,FQ⟩
  ·have e:s1.heap.objs.size<=c:=by
    simp only[ZM,ZN,or_false] at hc
    rcases hc with rfl | rfl | rfl | rfl | rfl
    ·exact CK _ _
    ·exact CK _ _
    ·exact CK _ _
    ·exact XE _
    ·exact CK _ _
   exact I1.fpOk e (I1.hok.fresh e)
 exact Ds z b p1 p2 fin
end
section
variable {X:Cx}
def xL (bs:List Bool):((List.range bs.length).any λi=>(bs[i]?).getD false)=bs.any id:=by
 rw[Bool.eq_iff_iff,DM,DM];constructor
 ·rintro⟨i,hi,h⟩;have hi':=List.mem_range.mp hi;exact⟨bs[i],List.getElem_mem hi',by simpa[hi'] using h⟩
 ·rintro⟨x,hx,h⟩;obtain⟨i,hi,rfl⟩:=List.mem_iff_getElem.mp hx;exact⟨i,List.mem_range.mpr hi,by simpa[hi] using h⟩
def tG (hc:X.calm=true):Vl X (.builtin "any") (λxs H Q=>∃(p:WP) (bs:List Bool),xs=[.ref p]/\Ws X.K H p (bs.map V.bl)/\Q (.bl (bs.any id)) H):=by
 intro WZ s σ H xs us Q I r h;obtain⟨p,bs,rfl,hq,q⟩:=h;obtain⟨u,rfl,ru⟩:=Qi r
 cases ru
 obtain⟨its,rv,pl,hz⟩:=I.list hq;have hl:=pl.isList;have hlt:p<s.heap.objs.size:=by obtain⟨_,e,_⟩:=hl;exact XD e
 have hlen:its.length=bs.length:=by have:=rv.length;simp at this;omega
 refine call_any_walk (wpAny_pyIter_list hl ?_);refine⟨s.heap.objs.size,[s.heap.objs.size,p],[s.heap.objs.size],its.toArray.size,_,_,λi=>(bs[i]?).getD false,FQ,Walks.list (A:=X.A.in1) (I.ok.hd hc) _ p (XH hlt) its.toArray,
  ⟨⟨_,XF _ FQ,FQ,FQ⟩,hl.push _⟩,λi v s' Q' E' hP hQ=>?_,λh' tk hk=>?_⟩
 ·have hv:its[i]?=some v:=by simpa using hP
  have hi:i<its.length:=(BW.mp hv).1;have hb:(bs.map V.bl)[i]?=some (.bl bs[i]):=by simp[show i<bs.length by omega]
  obtain⟨u,hu,ru⟩:=rv.get hb;rw[hv] at hu;cases hu
  cases ru
  have e:(bs[i]?).getD false=bs[i]:=by simp[show i<bs.length by omega]
  have hQ2:Q' ((bs[i]?).getD false) s':=hQ;rw[e] at hQ2;exact wpAny_truthy_bool hQ2
 ·have e:((List.range its.toArray.size).any λi=>(bs[i]?).getD false)=bs.any id:=by
   rw[XJ,hlen];exact xL bs
  rw[e];refine⟨.bl (bs.any id),H,I.kept λb o x=>hk b o (λhm=>?_) (XC _ x),FQ,q⟩;have:=XQ.mp hm;subst this;exact CY _ (XD x)
end
section
variable {prog:WO}{w:WN}{K:Type}[DecidableEq K]{knd:KeyKind prog w K}
theorem Lg:∀{es:List DictEntry} {kvs:List (K×WQ)} {i:Nat} {e:DictEntry},Pairs knd es kvs->es[i]?=some e->∃kv,kvs[i]?=some kv/\knd.is kv.1 e.key=true/\e.val=kv.2
 | _,_,_,_,.nil,h=>by simp at h
 | _,_,0,_,.cons a b _,h=>by simp at h;subst h;exact⟨_,FQ,a,b⟩
 | _,_,i+1,e,.cons _ _ t,h=>by
  obtain⟨kv,h1,h2⟩:=Lg (i:=i) (e:=e) t (by simpa using h);exact⟨kv,by simpa using h1,h2⟩
def lG {es:Array DictEntry}(hp:Pairs knd es.toList kvs)(hn:(kvs.map (·.1)).Nodup){i:Nat}(hi:kvs[i]?=some kv)(hl:i<es.size):(es.findIdx? λe=>knd.is kv.1 e.key)=some i:=by
 rw[Array.findIdx?_eq_some_iff_getElem];have at_:∀j (hj:j<es.size),∃kv',kvs[j]?=some kv'/\knd.is kv'.1 es[j].key=true:=λj hj=>by
  obtain⟨kv',h1,h2,_⟩:=Lg (i:=j) (e:=es[j]) hp (by simp[hj]);exact⟨kv',h1,h2⟩
 refine⟨hl,?_,λj hj=>?_⟩
 ·obtain⟨kv',h1,h2⟩:=at_ i hl;rw[hi] at h1;cases h1;exact h2
 ·obtain⟨kv',h1,h2⟩:=at_ j (by omega);rw[KeyKind.is_eq_decide h2];intro z;have hk:kv.1=kv'.1:=by simpa using z
  have e1:(kvs.map (·.1))[i]?=some kv.1:=by rw[XM,hi];rfl
  have e2:(kvs.map (·.1))[j]?=some kv.1:=by rw[XM,h1,hk];rfl
  have:=(DT (by rw[XI];exact(BW.mp hi).1) hn).mp (e1.trans e2.symm);omega
end
end L2
namespace WL
open PySem PySem.Spec PyProof.Rows L2
section
variable {X:Cx}{e o a b f:WW}{we wo wa wb wi wd:WE}{wA:WA}{p p2 pos pos2 apos cpos:Pos}
def fQ:bootBuiltins "any"=some (.builtin "any"):=by decide+kernel
def vY:bootBuiltins "dict"=some (.type "dict"):=by decide+kernel
def Zbm:List T->Hw->WK->Prop:=λvs C Q=>∃(a:WP) (bs:List Bool),vs=[.ref a]/\C a=some (.lst (bs.map T.bl))/\Q (.bl (bs.any id)) C
def bW (hc:X.calm=true):Km X (.builtin "any") Zbm:=⟨_,tG hc,λF H C xs vs Q Q' R rs h q=>by
 obtain⟨a,bs,rfl,hx,h⟩:=h;obtain⟨x,rfl,rx⟩:=Xj rs
 cases Z7 rx
 obtain⟨ys,hy,r⟩:=R.lst hx
 cases yY r
 exact⟨a,bs,FQ,Ws.of hy,q _ _ H C R (Tx.refl H) Y8 h⟩⟩
def jM (kvs:List (Yo×T))(k:Yo):List (Yo×T):=kvs.filter λkv=>decide (kv.1≠k)
theorem PR.drop {K:WY}{k:Yo}:∀{ks:List (Yo×V)} {kvs:List (Yo×T)},PR K H ks kvs->PR K H (Ka ks k) (jM kvs k)
 | _,_,.nil=>.nil
 | p::r,q::s,.cons h t=>by
  have ih:=PR.drop (k:=k) t;unfold Ka jM at ih |-;by_cases c:q.1=k
  ·have c':p.1=k:=h.1.trans c;rw[List.filter_cons_of_neg (by simp[c']),List.filter_cons_of_neg (by simp[c])];exact ih
  ·have c':¬p.1=k:=λz=>c (h.1.symm.trans z);rw[List.filter_cons_of_pos (by simp[c']),List.filter_cons_of_pos (by simp[c])];exact .cons h ih
def pR (o i d:WE):WE:=λτ C Q χ=>o τ C (λx C1=>(∃a kvs,x=.ref a/\C1 a=some (.dic kvs))/\i τ C1 (λy C2=>d τ C2 (λz C3=>∃a kvs k,x=.ref a/\kT y=some k/\C3 a=some (.dic kvs)/\
 (∀v,Y3 kvs k=some v->Q v (up C3 a (.dic (jM kvs k))))/\(Y3 kvs k=none->Q z C3)) χ) χ) χ
def lP (ho:Ji X o wo)(he:Ji X e wi)(hf:Ji X f wd)(m:M2 X o "pop" apos e f cpos):Ji X (.Call (.Attribute o "pop" apos) [e,f] [] cpos) (pR wo wi wd):=by
 obtain⟨ta,p1,s1⟩:=ho;obtain⟨tb,p2,s2⟩:=he;obtain⟨tc,p3,s3⟩:=hf;refine⟨_,qo p1 p2 p3 m,λF H C σ τ Q Q' χ R S h q=>?_⟩;refine s1 F H C σ τ _ _ χ R S h λx v H1 C1 R1 t1 rx h1=>?_;obtain⟨⟨l,kvs0,rfl,hC0⟩,h1⟩:=h1
 cases Z7 rx
 obtain⟨ks0,hH0,_⟩:=R1.dic hC0;refine⟨l,FQ,.inl ⟨ks0,.inl hH0⟩,?_⟩;refine s2 F H1 C1 σ τ _ _ χ R1 (S.tx t1) h1 λy u H2 C2 R2 t2 ry h2=>?_;refine s3 F H2 C2 σ τ _ _ χ R2 (S.tx (t1.trans t2)) h2 λz w H3 C3 R3 t3 rz h3=>?_;obtain⟨l',kvs,k,e',hk,hC,h4,h5⟩:=h3
 cases e'
 obtain⟨ks,hH,pr⟩:=R3.dic hC;have t:=(t1.trans t2).trans t3;refine⟨ks,k,hH,Rz hk (ry.tx t3),λv hv=>?_,λhv=>?_⟩
 ·cases hg:Y3 kvs k with
  | none=>rw[(PR.get pr k).1 hg] at hv;cases hv
  | some w=>
   obtain⟨z',hz,rz'⟩:=(PR.get pr k).2 w hg;rw[hz] at hv;cases hv;obtain⟨R',t'⟩:=R3.putD hC (PR.drop (k:=k) pr);exact q _ _ _ _ R' (t.trans t') (rz'.tx t') (h4 w hg)
 ·have hn:Y3 kvs k=none:=by
   cases hg:Y3 kvs k with
   | none=>rfl
   | some w=>obtain⟨z',hz,_⟩:=(PR.get pr k).2 w hg;rw[hz] at hv;cases hv
  exact q _ _ H3 C3 R3 t rz (h5 hn)
theorem qg {K:WY}:∀{ks:List (Yo×V)} {kvs:List (Yo×T)} {i:Nat} {p:Yo×V},PR K H ks kvs->ks[i]?=some p->∃q,kvs[i]?=some q/\p.1=q.1/\Jr K H p.2 q.2
 | _,_,_,_,.nil,h=>by simp at h
 | _,_,0,_,.cons a _,h=>by simp at h;subst h;exact⟨_,FQ,a.1,a.2⟩
 | _,_,i+1,p,.cons _ t,h=>by
  obtain⟨q,h1,h2⟩:=qg (i:=i) (p:=p) t (by simpa using h);exact⟨q,by simpa using h1,h2⟩
theorem qX:∀{ks:List (Yo×V)} {vs:List (Yo×WQ)} {i:Nat} {p:Yo×WQ},KV ks vs->vs[i]?=some p->∃q,ks[i]?=some q/\q.1=p.1/\Yg q.2 p.2
 | _,_,_,_,.nil,h=>by simp at h
 | _,_,0,_,.cons a _,h=>by simp at h;subst h;exact⟨_,FQ,a.1,a.2⟩
 | _,_,i+1,p,.cons _ t,h=>by
  obtain⟨q,h1,h2⟩:=qX (i:=i) (p:=p) t (by simpa using h);exact⟨q,by simpa using h1,h2⟩
def Ko (xs ys:List T):List T:=List.zipWith (λx y=>T.tup [x,y]) xs ys
def Zck (a:WA):WI:=λτ C R χ=>a τ C (λvs C1=>(∃xs ys,vs=[.tup xs,.tup ys]/\xs.length=ys.length/\R (Ko xs ys) (λ_=>True) C1)\/
 (∃xs ys l,vs=[.tup xs,.ref l]/\C1 l=some (.lst ys)/\xs.length=ys.length/\R (Ko xs ys) (λC2=>C2 l=some (.lst ys)) C1)\/
 ∃xs ys k l,vs=[.ref k,.ref l]/\C1 k=some (.lst xs)/\C1 l=some (.lst ys)/\xs.length=ys.length/\R (Ko xs ys) (λC2=>C2 k=some (.lst xs)/\C2 l=some (.lst ys)) C1) χ
def oZ {xs ys:List T}{i:Nat}(hx:xs[i]?=some x)(hy:ys[i]?=some y):(Ko xs ys)[i]?=some (.tup [x,y]):=by
 unfold Ko;rw[List.getElem?_zipWith,hx,hy]
def ww {K:WY}{F H0:Hp}(z b:Bool){l1 l2:WP}{xs ys:List T}{ok:Hw->Prop}(hl:xs.length=ys.length)(h1:∀H C,Rl K F H C->Tx H0 H->ok C->∃ys1,tI z K H l1 ys1/\Reps K H ys1 xs)
  (h2:∀H C,Rl K F H C->Tx H0 H->ok C->∃ys2,tI b K H l2 ys2/\Reps K H ys2 ys):Hy K F H0 (Zb0 z b K l1 l2) (Ko xs ys) ok:=λi H C R t hok=>by
 obtain⟨ys1,q1,r1'⟩:=h1 H C R t hok;obtain⟨ys2,q2,r2⟩:=h2 H C R t hok;have hlz:(Ko xs ys).length=xs.length:=by unfold Ko;simp;omega
 have e1:=r1'.length;have e2:=r2.length;refine⟨λhi=>?_,λhi=>⟨ys1,ys2,q1,q2,by omega,by omega⟩⟩;rw[hlz] at hi;refine⟨⟨ys1,ys2,q1,q2,by omega,by omega⟩,λx H' h=>?_⟩;obtain⟨u,v,Tt,hu,hv,rfl,hT,rfl⟩:=h;obtain⟨x,hx,rx⟩:=r1'.get' (hu ys1 q1);obtain⟨y,hy,ry⟩:=r2.get' (hv ys2 q2);exact⟨_,oZ hx hy,R.hid hT,Tx.new hT,Xq (U8.of Yq) (Yn (rx.tx (Tx.new hT)) (Yn (ry.tx (Tx.new hT)) Jc))⟩
def pX {elts:List WW}{ek:Nat}{epos:Pos}(hg:Gl X "zip")(hm:X.mg "zip"=none)(ha:yw X [a,b] wA)(hs:autoParam (starEach [a,b] X.env=(false,eval a X.env)::starEach [b] X.env) QzR)(hp:autoParam ((backTo pos (starEach [b] X.env)).any (·.1)=false) QzR):
  ip X (.Tuple elts ek epos) (.Call (.Name "zip" p) [a,b] [] pos) (Zck wA):=by
 obtain⟨t,p1,s⟩:=ha;refine⟨_,gg hg hm p1 hs hp,λF H C σ τ R R' χ Rr S h q=>?_⟩;refine s F H C σ τ _ _ χ Rr S h λxs vs H1 C1 R1 t1 rs h1=>?_
 rcases h1 with⟨ts,us,rfl,hl,h1⟩ | ⟨ts,us,l,rfl,hC,hl,h1⟩ | ⟨ts,us,k,l,rfl,hB,hC,hl,h1⟩<;>obtain⟨x,y,rfl,rx,ry⟩:=xT rs
 ·obtain⟨l1,y1,rfl,q1,r1⟩:=Yp rx;obtain⟨l2,y2,rfl,q2,r2⟩:=Yp ry;exact⟨false,false,l1,l2,y1,y2,FQ,q1,q2,q _ H1 _ _ C1 R1 t1 (λF'=>ww _ _ hl (λH C _ t _=>⟨y1,t.sqt q1,r1.tx t⟩) λH C _ t _=>⟨y2,t.sqt q2,r2.tx t⟩) h1⟩
 ·obtain⟨l1,y1,rfl,q1,r1⟩:=Yp rx
  cases Z7 ry
  obtain⟨y2,hy,r2⟩:=R1.lst hC;refine⟨false,true,l1,l,y1,y2,FQ,q1,Ws.of hy,q _ H1 _ _ C1 R1 t1 (λF'=>ww _ _ hl (λH C _ t _=>⟨y1,t.sqt q1,r1.tx t⟩) λH C R' t hok=>?_) h1⟩;obtain⟨y3,hy3,r3⟩:=R'.lst hok;exact⟨y3,Ws.of hy3,r3⟩
 ·cases Z7 rx
  cases Z7 ry
  obtain⟨y1,hx,r1⟩:=R1.lst hB;obtain⟨y2,hy,r2⟩:=R1.lst hC;refine⟨true,true,k,l,y1,y2,FQ,Ws.of hx,Ws.of hy,q _ H1 _ _ C1 R1 t1 (λF'=>ww _ _ hl (λH C R' t hok=>?_) λH C R' t hok=>?_) h1⟩
  ·obtain⟨y3,hy3,r3⟩:=R'.lst hok.1;exact⟨y3,Ws.of hy3,r3⟩
  ·obtain⟨y3,hy3,r3⟩:=R'.lst hok.2;exact⟨y3,Ws.of hy3,r3⟩
end
end WL
namespace L2
open PySem PySem.Spec PyProof.Rows
section
variable {X:Cx}{WZ:List (WP×Obj)}{σ:St}{H:Hp}{s:WR}
end
def Zdt (o:Obj)(d:WP)(ks:List (Yo×V)):It:=
 ⟨λi H=>H d=some (.frz o (.dK ks))/\i<ks.length,λi H x H'=>H'=H/\∃kv,ks[i]?=some kv/\x=kV kv.1,λi H=>H d=some (.frz o (.dK ks))/\i=ks.length⟩
section
variable {X:Cx}{tg e:WW}
def Zdh (td:TE):TI:=λσ H R=>td σ H λx H1=>∃d ks,x=.ref d/\Rd H1 d (.dK ks)/\∀o,(∀o',H1 d=some (.frz o' (.dK ks))->o'=o)->R (Zdt o d ks) (Je H1 d (.frz o (.dK ks)))
end
end L2
namespace WL
open PySem PySem.Spec PyProof.Rows L2
def RdC (C:Hw)(a:WP)(kvs:List (Yo×T)):Prop:=C a=some (.dic kvs)\/C a=some (.fdic kvs)
def Rl.rd {K:WY}{F H:Hp}(R:Rl K F H C)(h:RdC C a kvs):∃ks,Rd H a (.dK ks)/\PR K H ks kvs:=by
 rcases h with h | h
 ·obtain⟨ks,hH,pr⟩:=R.dic h;exact⟨ks,.inl hH,pr⟩
 ·exact R.obj a _ h
section
variable {X:Cx}{e o a b c f i:WW}{we wo wa wb wi wd:WE}{wA:WA}{p p2 pos pos2 apos cpos:Pos}{tg:WW}
def y6:W2:=λx y C Q=>∃a kvs k v,x=.ref a/\kT y=some k/\RdC C a kvs/\Y3 kvs k=some v/\Q v C
def k7 (neg:Bool):W2:=λy x C Q=>∃a kvs k,x=.ref a/\kT y=some k/\RdC C a kvs/\Q (.bl (if neg then !(Y3 kvs k).isSome else(Y3 kvs k).isSome)) C
abbrev aK:W2:=k7 false
def Z8 (hu:X.A.units+150<cLine)(ha:Ji X a wa)(hb:Ji X b wb)(hs:eK b):Ji X (.Subscript a b pos) (Y1 y6 wa wb):=by
 obtain⟨ta,p1,s1⟩:=ha;obtain⟨tb,p2,s2⟩:=hb;refine⟨_,mD (by omega) p1 p2 hs,λF H C σ τ Q Q' χ R S h q=>?_⟩;refine s1 F H C σ τ _ _ χ R S h λx v H1 C1 R1 t1 rx h1=>?_;refine s2 F H1 C1 σ τ _ _ χ R1 (S.tx t1) h1 λy u H2 C2 R2 t2 ry h2=>?_;obtain⟨l,kvs,k,w,rfl,hk,hC,hg,h2⟩:=h2
 cases Z7 rx
 obtain⟨ks,hH,pr⟩:=R2.rd hC;obtain⟨z,hz,rz⟩:=(PR.get pr k).2 w hg
 cases Rz hk ry
 exact⟨l,z,FQ,.inl ⟨ks,k,hH,FQ,hz.symm⟩,q _ _ H2 C2 R2 (t1.trans t2) rz h2⟩
def gG (neg:Bool)(hu:X.A.units+150<cLine):Mo X (compareOp (if neg then .NotIn else .In)) (k7 neg):=⟨_,Et,λF H C y x u v Q Q' R ry rx h q WZ s σ u' v' I r1 r2=>by
 obtain⟨l,kvs,k,rfl,hk,hC,h⟩:=h
 cases Z7 rx
 cases r2
 obtain⟨ks,hH,pr⟩:=R.rd hC
 cases Rz hk ry
 have e:(U9 ks k).isSome=(Y3 kvs k).isSome:=by
  cases hg:Y3 kvs k with
  | none=>rw[(PR.get pr k).1 hg];rfl
  | some w=>obtain⟨z,hz,_⟩:=(PR.get pr k).2 w hg;rw[hz];rfl
 have fin:=q _ _ H C R (Tx.refl H) Y8 h;rw[<-e] at fin;have g:Bv H l (kV k) (U9 ks k):=.inl ⟨ks,k,hH,FQ,FQ⟩
 cases neg with
 | true=>exact lO (by omega) I g r1 λs' I'=>⟨.bl _,H,I',FQ,fin⟩
 | false=>exact Zbd (by omega) I g r1 λs' I'=>⟨.bl _,H,I',FQ,fin⟩⟩
def cW (hu:X.A.units+150<cLine):Mo X (compareOp .In) aK:=gG false hu
def wQ:Vl X (.type "dict") (λxs H Q=>∃(p:WP) (kvs:List (Yo×V)),xs=[.ref p]/\Rd H p (.dK kvs)/\∀r,H r=none->Q (.ref r) (Je H r (.dK kvs))):=by
 intro WZ s σ H xs us Q I r h;obtain⟨p,kvs,rfl,hp,q⟩:=h;obtain⟨u,rfl,ru⟩:=Qi r
 cases ru
 exact oj I hp λr s2 hr I2=>⟨.ref r,_,I2,FQ,q r hr⟩
def fU:List T->Hw->WK->Prop:=λvs C Q=>∃(a:WP) (kvs:List (Yo×T)),vs=[.ref a]/\RdC C a kvs/\∀p,C p=none->Q (.ref p) (up C p (.dic kvs))
def ua:Km X (.type "dict") fU:=⟨_,wQ,λF H C xs vs Q Q' R rs h q=>by
 obtain⟨a,kvs,rfl,hC,h⟩:=h;obtain⟨x,rfl,rx⟩:=Xj rs
 cases Z7 rx
 obtain⟨ks,hH,pr⟩:=R.rd hC;exact⟨a,ks,FQ,hH,λr hr=>q _ _ _ _ (R.newD hr pr) (Tx.new hr) Jm (h r (R.free hr))⟩⟩
def k9 (neg:Bool):W2:=λx y C Q=>∃a b ka kb,x=.ref a/\y=.ref b/\RdC C a ka/\RdC C b kb/\
 ((ka.length≠kb.length/\Q (.bl neg) C)\/(ka=kb/\(∀kv∈ka,Y9 kv.2)/\Q (.bl (!neg)) C))
abbrev df:W2:=k9 false
def gH (neg:Bool)(hu:X.A.units+150<cLine):Mo X (compareOp (if neg then .NotEq else .Eq)) (k9 neg):=⟨_,Et,λF H C x y u v Q Q' R rx ry h q WZ s σ u' v' I r1 r2=>by
 obtain⟨a,b,ka,kb,rfl,rfl,ha,hb,h⟩:=h
 cases Z7 rx
 cases Z7 ry
 cases r1
 cases r2
 obtain⟨ks,hH,pr⟩:=R.rd ha;obtain⟨ls,hL,pl⟩:=R.rd hb;obtain⟨z1,sa,va,rela,oa,ea,pa,hoa,xa,da,kka,pra,na⟩:=Ng I.hok hH;obtain⟨z2,sb,vb,relb,ob,eb,pb,hob,xb,db,kkb,prb,nb⟩:=Ng I.hok hL;have hsa:ea.size=ka.length:=by rw[<-PR.length pr,rela.length,<-Pairs.length pra];simp
 have hsb:eb.size=kb.length:=by rw[<-PR.length pl,relb.length,<-Pairs.length prb];simp
 have Ta:s.TypeIs (.ref a) "dict":=⟨_,hoa,xa.1⟩;have Tb:s.TypeIs (.ref b) "dict":=⟨_,hob,xb.1⟩;have fin:∀k:Bool,(∀(E:WQ->WR->Prop) (id:String) (Q:Bool->WR->Prop),Q k s->wpAny (model X.prog X.w) X.A.in1 (Builtin.Dict.samePairs id a b) Q E s)->Q (.bl (if neg then !k else k)) H->
   wpAny (model X.prog X.w) X.A (compareOp (if neg then .NotEq else .Eq) (.ref a) (.ref b)) (EP X WZ σ Q) X.xe s:=λk hs hq=>by
  cases neg with
  | true=>exact lL (k:=k) (by omega) Ta Tb hs ⟨.bl (!k),H,I,by cases k<;>rfl,hq⟩
  | false=>exact lM (k:=k) (by omega) Ta Tb hs ⟨.bl k,H,I,by cases k<;>rfl,hq⟩
 rcases h with⟨hne,h⟩ | ⟨rfl,hfl,h⟩
 ·refine fin false (λE id Q' q'=>nB sa sb hoa da hob db (by simp[hsa,hsb,hne]) q') ?_;have:=q _ _ H C R (Tx.refl H) Y8 h
  cases neg<;>exact this
 ·refine fin true (λE id Q' q'=>nA sa sb hoa da hob db kkb (by rw[hsa,hsb]) (λi h1 h2=>?_) q') ?_
  ·obtain⟨kva,e1,e2,e3⟩:=Lg (i:=i) (e:=ea[i]) pra (by simp[h1]);obtain⟨kvb,f1,f2,f3⟩:=Lg (i:=i) (e:=eb[i]) prb (by simp[h2]);obtain⟨qa,g1,g2,g3⟩:=qX rela e1;obtain⟨qb,g4,g5,g6⟩:=qX relb f1;obtain⟨ta,j1,j2,j3⟩:=qg pr g1;obtain⟨tb,j4,j5,j6⟩:=qg pl g4;rw[j1] at j4
   cases j4
   have ek:kva.1=kvb.1:=by rw[<-g2,<-g5,j2,j5]
   obtain⟨k',hk1,hk2⟩:=kka ea[i] (Array.getElem_mem h1);have:=(Yw X.prog X.w).inj _ _ _ hk1 e2;subst this;refine⟨kva.1,e2,hk2,by rw[ek];exact lG prb nb f1 h2,?_⟩;have hf:=hfl ta (CF j1);have:=jK I 100 (A:=X.A.in1) hf hf j3 j6 g3 g6 (show X.A.units+1+100<cLine by omega);rw[Pl ta.2 hf] at this;rw[e3,f3];exact this
  ·have:=q _ _ H C R (Tx.refl H) Y8 h
   cases neg<;>exact this⟩
def cY (hu:X.A.units+150<cLine):Mo X (compareOp .Eq) df:=gH false hu
end
section
variable {X:Cx}{e o:WW}{we wo wi:WE}{apos cpos:Pos}
def pP (o i:WE):WE:=λτ C Q χ=>o τ C (λx C1=>(∃a kvs,x=.ref a/\RdC C1 a kvs)/\i τ C1 (λy C2=>∃a kvs k,x=.ref a/\kT y=some k/\RdC C2 a kvs/\Q ((Y3 kvs k).getD .non) C2) χ) χ
def lN (hu:X.A.units+150<cLine)(ho:Ji X o wo)(he:Ji X e wi)(m:M1 X o "get" apos e cpos):Ji X (.Call (.Attribute o "get" apos) [e] [] cpos) (pP wo wi):=by
 obtain⟨ta,p1,s1⟩:=ho;obtain⟨tb,p2,s2⟩:=he;refine⟨_,qq (by omega) p1 p2 m,λF H C σ τ Q Q' χ R S h q=>?_⟩;refine s1 F H C σ τ _ _ χ R S h λx v H1 C1 R1 t1 rx h1=>?_;obtain⟨⟨l,kvs0,rfl,hC0⟩,h1⟩:=h1
 cases Z7 rx
 obtain⟨ks0,hH0,_⟩:=R1.rd hC0;refine⟨l,FQ,.inl ⟨ks0,hH0⟩,?_⟩;refine s2 F H1 C1 σ τ _ _ χ R1 (S.tx t1) h1 λy u H2 C2 R2 t2 ry h2=>?_;obtain⟨l',kvs,k,e',hk,hC,h2⟩:=h2
 cases e'
 obtain⟨ks,hH,pr⟩:=R2.rd hC
 cases Rz hk ry
 exact⟨_,.inl ⟨ks,k,hH,FQ,FQ⟩,q _ _ H2 C2 R2 (t1.trans t2) (pG pr k V0) h2⟩
end
noncomputable def X2 (f:Str)(v:T):List (Str×T)->List (Str×T)
 | []=>[(f,v)]
 | (g,x)::r=>if g=f then(g,v)::r else(g,x)::X2 f v r
section
variable {K:WY}{H:Hp}
theorem v6 {f:Str}(q:Jr K H y v){ks:List (Str×V)}{fs:List (Str×T)}(p:PR K H ks fs):PR K H (T8 f y ks) (X2 f v fs):=by
 induction p with
 | nil=>exact .cons ⟨FQ,q⟩ .nil
 | @cons a b ks fs h r i=>
  obtain⟨k,x⟩:=a;obtain⟨g,z⟩:=b;obtain⟨e,q'⟩:=h
  cases e
  show PR K H (if k=f then(k,y)::ks else(k,x)::T8 f y ks) (if k=f then(k,v)::fs else(k,z)::X2 f v fs);by_cases c:k=f
  ·rw[XY c,XY c];exact .cons ⟨FQ,q⟩ r
  ·rw[XX c,XX c];exact .cons ⟨FQ,q'⟩ i
theorem G0 {f:Str}{ks:List (Str×V)}{fs:List (Str×T)}(p:PR K H ks fs):(∀v,fs.lookup f=some v->∃y,ks.lookup f=some y/\Jr K H y v)/\(fs.lookup f=none->ks.lookup f=none):=by
 induction p with
 | nil=>exact⟨λv h=>by simp at h,λ_=>rfl⟩
 | @cons a b ks fs h r i=>
  obtain⟨k,x⟩:=a;obtain⟨g,z⟩:=b;obtain⟨e,q'⟩:=h
  cases e
  by_cases c:f=k
  ·have hb:(f==k)=true:=beq_iff_eq.mpr c;simp only[List.lookup,hb];exact⟨λv h=>by cases h;exact⟨x,FQ,q'⟩,λh=>by cases h⟩
  ·have hb:(f==k)=false:=beq_eq_false_iff_ne.mpr c;simp only[List.lookup,hb];exact i
theorem qf {κ:Type}{ks:List (κ×V)}{fs:List (κ×T)}(p:PR K H ks fs):ks.length=fs.length:=Paired.length p
end
abbrev D6 (K:WY)(cn:Str)(Cl:WP):Prop:=W.nsIn K mainGlobals cn=some (some (.ref Cl))
structure KF (K:W.Frag)(f cn:Str):Prop where
 ex:∃Cl,D6 K cn Cl/\ve K Cl/\Qb K Cl f
def KF.at {K:WY}{f cn:Str}(h:KF K f cn){Cl:WP}(c:D6 K cn Cl):ve K Cl/\Qb K Cl f:=by
 obtain⟨C2,h1,h2⟩:=h.ex;have e:some (some (Value.ref C2))=some (some (Value.ref Cl)):=h1.symm.trans c
 cases e
 exact h2
def wK (cs:List Str)(f:Str)(o:WE):WE:=λτ C Q χ=>o τ C (λx C1=>∃a cn fs v,x=.ref a/\C1 a=some (.ins cn fs)/\cn∈cs/\fs.lookup f=some v/\Q v C1) χ
def bF (cs:List Str)(f:Str)(o:WE):WG:=λv τ C Q χ=>o τ C (λx C1=>∃a cn fs,x=.ref a/\C1 a=some (.ins cn fs)/\cn∈cs/\fs.length<1000/\Q τ (up C1 a (.ins cn (X2 f v fs)))) χ
def Rl.ins {K:WY}{F H:Hp}(R:Rl K F H C)(h:C a=some (.ins cn fs)):∃Cl dx ks,D6 K cn Cl/\H a=some (.ins Cl dx ks)/\PR K H ks fs:=R.obj a _ h
section
variable {X:Cx}{e o value:WW}{we wo wv:WE}{f:Str}{cs:List Str}{pos pos' apos cpos:Pos}
def Yy (hk:∀cn∈cs,KF X.K f cn)(he:Ji X e we)(hb:autoParam (attributeBase e f X.env (eval e X.env)=eval e X.env) QzR):Ji X (.Attribute e f pos) (wK cs f we):=by
 obtain⟨ta,p1,s1⟩:=he;refine⟨_,gx p1 hb,λF H C σ τ Q Q' χ R S h q=>?_⟩;refine s1 F H C σ τ _ _ χ R S h λx v H1 C1 R1 t1 rx h1=>?_;obtain⟨a,cn,fs,v',rfl,hC,hcn,hl,h1⟩:=h1
 cases Z7 rx
 obtain⟨Cl,dx,ks,hc,hH,pr⟩:=R1.ins hC;obtain⟨y,hy,ry⟩:=(G0 pr).1 v' hl;obtain⟨c1,c2⟩:=(hk cn hcn).at hc;exact⟨a,Cl,dx,ks,y,FQ,hH,c1,c2,hy,q _ _ H1 C1 R1 t1 ry h1⟩
def Y5 (hk:∀cn∈cs,KF X.K f cn)(ho:Ji X o wo)(hv:Ji X value wv)(hs:autoParam (swapsWith value (some (.Attribute o f pos')) pos.line X.env=pure false) QzR):tU X (.Assign [.Attribute o f pos'] value pos) (T7 wv (bF cs f wo)):=by
 obtain⟨ta,p1,s1⟩:=ho;obtain⟨tv,p2,s2⟩:=hv;refine⟨_,gd p1 p2 hs,λF H C σ τ D D' R S h d=>?_⟩;refine s2 F H C σ τ _ _ D'.xc R S h λy v H1 C1 R1 t1 ry h1=>?_;refine s1 F H1 C1 σ τ _ _ D'.xc R1 (S.tx t1) h1 λx u H2 C2 R2 t2 rx h2=>?_;obtain⟨a,cn,fs,rfl,hC,hcn,hl,h2⟩:=h2
 cases Z7 rx
 obtain⟨Cl,dx,ks,hc,hH,pr⟩:=R2.ins hC;obtain⟨c1,c2⟩:=(hk cn hcn).at hc;have tp:Tx H2 (Je H2 a (.ins Cl dx (T8 f y ks))):=Tx.put hH (λz=>z);obtain⟨R3,t3⟩:=R2.put (u:=.ins Cl dx (T8 f y ks)) (o':=.ins cn (X2 f v fs)) hC ⟨Cl,dx,_,hc,Yq,Eo tp (v6 (ry.tx t2) pr)⟩;exact⟨a,Cl,dx,ks,FQ,hH,c1,c2,by rw[qf pr];exact hl,d.nx _ _ _ _ R3 ((t1.trans t2).trans t3) (S.tx ((t1.trans t2).trans t3)) h2⟩
end
def sV (MT:WP->L2.Sp->Prop)(m:Str)(E:XK)(ta:TE)(t:TA):TE:=λσ H Q=>ta σ H λx H1=>∃a C dx fs sp,x=.ref a/\H1 a=some (.ins C dx fs)/\MT C sp/\fs.lookup m=none/\t σ H1 λvs H2=>sp (x::vs) H2 Q E
section
variable {X:Cx}{k:Nat}{E:XK}{m:Str}{p pos apos:Pos}{e o:WW}{es:List WW}{ta:TE}{t:TA}{MT:WP->L2.Sp->Prop}
def Zbx (X:Cx)(k:Nat)(m:Str)(MT:WP->L2.Sp->Prop):Prop:=∀C sp,MT C sp->∃f fd ps,ve X.K C/\tN X.K C m f/\Vk X.prog X.w X.K X.mg X.base CX0 k f fd ps sp/\Wo X.K fd ps []
def qk {pl:Sem Bool}(he:PE X o ta)(hM:Zbx X k m MT)(hr:X8 k X.A)(ha:PA X (e::es) t)
  (hst:autoParam (starEach (e::es) X.env=(false,eval e X.env)::starEach es X.env) QzR) (hpl:autoParam ((backTo pos (starEach es X.env)).any (·.1)=false) QzR)
  (ht:autoParam (eval (.Call (.Attribute o m apos) (e::es) [] pos) X.env=(do
   let ov <-eval o X.env
   standAt apos.atName
   let (f,first) <-holding [ov] (getMethod ov m pl)
   callWith pos f first (backTo pos (starEach (e::es) X.env)) (backToKw pos (keywordEach [] X.env)))) QzR):
  PE X (.Call (.Attribute o m apos) (e::es) [] pos) (sV MT m E0 ta t):=by
 intro WZ s σ H Q I h;refine W.methodCall_KW (pl:=pl) (Js (he WZ s σ H _ I h) λu s1 zZ=>?_) ht;obtain⟨x,H1,I1,rx,a,C,dx,fs,sp,ex,ea,hmt,l,q⟩:=zZ;subst ex;obtain rfl:u=Value.ref a:=rx;obtain⟨f,fd,ps,c,hm,F,hb⟩:=hM C sp hmt;refine Dg I1 ea c hm l ?_;refine FK (first:=[.ref a]) (h₀:=X.base) I.ok.mod.kin hm.kp (Js (ha pos WZ s1 σ H1 _ I1 q) λus s2 zZ=>?_) hst hpl;obtain⟨vs,H2,I2,r,q2⟩:=zZ;refine ⟨I2.kIn,?_⟩;exact zr (us:=.ref a::us) (vs:=.ref a::vs) (dvs:=[]) F hr hb .nil B6 I2 (.cons FQ r) (by rw[YK];exact q2)
def uE {pl:Sem Bool}(he:PE X o ta)(hM:Zbx X k m MT)(hr:X8 k X.A)
  (ht:autoParam (eval (.Call (.Attribute o m apos) [] [] pos) X.env=(do
   let ov <-eval o X.env
   standAt apos.atName
   let (f,first) <-holding [ov] (getMethod ov m pl)
   callWith pos f first (backTo pos (starEach [] X.env)) (backToKw pos (keywordEach [] X.env)))) QzR):
  PE X (.Call (.Attribute o m apos) [] [] pos) (sV MT m E0 ta sU):=by
 intro WZ s σ H Q I h;refine W.methodCall_KW (pl:=pl) (Js (he WZ s σ H _ I h) λu s1 zZ=>?_) ht;obtain⟨x,H1,I1,rx,a,C,dx,fs,sp,ex,ea,hmt,l,q⟩:=zZ;subst ex;obtain rfl:u=Value.ref a:=rx;obtain⟨f,fd,ps,c,hm,F,hb⟩:=hM C sp hmt;refine Dg I1 ea c hm l ?_;exact W.callWith_K0 (first:=[.ref a]) I1.kIn hm.kp (zr (us:=[.ref a]) (vs:=[.ref a]) (dvs:=[]) F hr hb .nil B6 I1 (.cons FQ .nil) q)
end
def Cm (P:WO)(w:WN)(K:WY)(mg:Str->Option WQ)(base:WU)(n:Nat)(cn m:Str)(ps:List Str)(sp:L2.Sp):Prop:=
 ∃Cl f fd,D6 K cn Cl/\ve K Cl/\tN K Cl m f/\Vk P w K mg base CX0 n f fd ps sp/\Wo K fd ps []
def eZ (P:WO)(w:WN)(K:WY)(mg:Str->Option WQ)(base:WU)(n:Nat)(pr:List Df)(m:Str)(tb:List (Str×Nat)):Prop:=∀cn i,tb.lookup cn=some i->∃ps,Cm P w K mg base n cn m ps (spW K pr n i)
section
variable {P:WO}{w:WN}{K:WY}{mg:Str->Option WQ}{base:WU}{n:Nat}{pr:List Df}{m:Str}{tb:List (Str×Nat)}
def Yv:eZ P w K mg base n pr m []:=λcn i h=>by simp at h
def Yl (h:Cm P w K mg base n cn m ps (spW K pr n i))(r:eZ P w K mg base n pr m tb):eZ P w K mg base n pr m ((cn,i)::tb):=λc j e=>by
 by_cases q:c=cn
 ·have hb:(c==cn)=true:=beq_iff_eq.mpr q;simp only[List.lookup,hb] at e
  cases e;subst q;exact⟨ps,h⟩
 ·have hb:(c==cn)=false:=beq_eq_false_iff_ne.mpr q;simp only[List.lookup,hb] at e;exact r c j e
end
def pQ (P:Calls)(tb:List (Str×Nat))(m:Str)(o:WE)(a:WA):WE:=λτ C Q χ=>o τ C (λx C1=>∃ad cn fs i,x=.ref ad/\C1 ad=some (.ins cn fs)/\tb.lookup cn=some i/\fs.lookup m=none/\a τ C1 (λvs C2=>P i (x::vs) C2 Q χ) χ) χ
section
variable {X:Cx}{k:Nat}{m:Str}{p pos apos:Pos}{e o:WW}{es:List WW}{wo:WE}{wA:WA}{tb:List (Str×Nat)}{pr:List Df}
def qI (T:eZ X.prog X.w X.K X.mg X.base k pr m tb):Zbx X k m (λC sp=>∃cn i,D6 X.K cn C/\tb.lookup cn=some i/\sp=spW X.K pr k i):=λC sp h=>by
 obtain⟨cn,i,hc,hl,rfl⟩:=h;obtain⟨ps,Cl,f,fd,h1,h2,h3,h4,h5⟩:=T cn i hl;have ee:some (some (Value.ref Cl))=some (some (Value.ref C)):=h1.symm.trans hc
 cases ee
 exact⟨f,fd,ps,h2,h3,h4,h5⟩
def Ju {pl:Sem Bool}(T:eZ X.prog X.w X.K X.mg X.base k pr m tb)(hr:X8 k X.A)(ho:Ji X o wo)(ha:yw X (e::es) wA)
  (hst:autoParam (starEach (e::es) X.env=(false,eval e X.env)::starEach es X.env) QzR) (hpl:autoParam ((backTo pos (starEach es X.env)).any (·.1)=false) QzR)
  (ht:autoParam (eval (.Call (.Attribute o m apos) (e::es) [] pos) X.env=(do
   let ov <-eval o X.env
   standAt apos.atName
   let (f,first) <-holding [ov] (getMethod ov m pl)
   callWith pos f first (backTo pos (starEach (e::es) X.env)) (backToKw pos (keywordEach [] X.env)))) QzR):
  Ji X (.Call (.Attribute o m apos) (e::es) [] pos) (pQ (Z4 pr k) tb m wo wA):=by
 obtain⟨to,p1,s1⟩:=ho;obtain⟨ta,p2,s2⟩:=ha;refine⟨_,qk (pl:=pl) p1 (qI T) hr p2 hst hpl ht,λF H C σ τ Q Q' χ R S h q=>?_⟩;refine s1 F H C σ τ _ _ χ R S h λx v H1 C1 R1 t1 rx h1=>?_;obtain⟨a,cn,fs,i,rfl,hC,hl,hm,h1⟩:=h1
 cases Z7 rx
 obtain⟨Cl,dx,ks,hc,hH,prr⟩:=R1.ins hC;refine⟨a,Cl,dx,ks,_,FQ,hH,⟨cn,i,hc,hl,FQ⟩,(G0 prr).2 hm,?_⟩;refine s2 F H1 C1 σ τ _ _ χ R1 (S.tx t1) h1 λxs vs H2 C2 R2 t2 rs h2=>?_;exact⟨F,C2,.ref a::vs,Q',χ,R2,Yn Jm rs,h2,QE.at q (t1.trans t2)⟩
def Tp {pl:Sem Bool}(T:eZ X.prog X.w X.K X.mg X.base k pr m tb)(hr:X8 k X.A)(ho:Ji X o wo)
  (ht:autoParam (eval (.Call (.Attribute o m apos) [] [] pos) X.env=(do
   let ov <-eval o X.env
   standAt apos.atName
   let (f,first) <-holding [ov] (getMethod ov m pl)
   callWith pos f first (backTo pos (starEach [] X.env)) (backToKw pos (keywordEach [] X.env)))) QzR):
  Ji X (.Call (.Attribute o m apos) [] [] pos) (pQ (Z4 pr k) tb m wo Zy):=by
 obtain⟨to,p1,s1⟩:=ho;refine⟨_,uE (pl:=pl) p1 (qI T) hr ht,λF H C σ τ Q Q' χ R S h q=>?_⟩;refine s1 F H C σ τ _ _ χ R S h λx v H1 C1 R1 t1 rx h1=>?_;obtain⟨a,cn,fs,i,rfl,hC,hl,hm,h1⟩:=h1
 cases Z7 rx
 obtain⟨Cl,dx,ks,hc,hH,prr⟩:=R1.ins hC;refine⟨a,Cl,dx,ks,_,FQ,hH,⟨cn,i,hc,hl,FQ⟩,(G0 prr).2 hm,?_⟩;exact⟨F,C1,[.ref a],Q',χ,R1,Yn Jm Jc,h1,QE.at q t1⟩
end
def uv (cn:Str)(i:Nat)(P:Calls):WS:=λD τ C=>∃vs,τ=vs.map some/\∀p,C p=none->P i (.ref p::vs) (up C p (.ins cn [])) (λv C2=>v=.non/\D.rt (.ref p) C2) D.xc
def Cn (P:WO)(w:WN)(K:WY)(mg:Str->Option WQ)(base:WU)(n:Nat)(pr:List Df)(cn:Str)(i j:Nat):Prop:=
 (∃ar,pr[j]?=some ⟨ar,ar,uv cn i⟩)/\∃Cl f,D6 K cn Cl/\mg cn=some (.ref Cl)/\L2.Mk K Cl f/\(n=0\/∃k fd ps,n=k+1/\Vk P w K mg base CX0 k f fd ps (spW K pr k i)/\Wo K fd ps [])
section
variable {X:Cx}{k i j:Nat}{cn:Str}{p pos:Pos}{e:WW}{es:List WW}{wA:WA}{pr:List Df}
def bT (Cc:Cn X.prog X.w X.K X.mg X.base k pr cn i j)(hr:X8 k X.A)(hg:Gl X cn)(ha:yw X (e::es) wA)
  (hdb:autoParam ((cn==("__debug__":Str))=false) QzD) (he:autoParam (starEach (e::es) X.env=(false,eval e X.env)::starEach es X.env) QzR) (hpl:autoParam ((backTo pos (starEach es X.env)).any (·.1)=false) QzR):
  Ji X (.Call (.Name cn p) (e::es) [] pos) (Vj (Z4 pr k) j wA):=by
 obtain⟨⟨ar,hj⟩,Cl,f,hc,hm,M,h0 | ⟨k',fd,ps,rfl,F,hb⟩⟩:=Cc
 ·subst h0;obtain⟨ta,p2,s2⟩:=ha;refine⟨λσ H Q=>ta σ H λ_ _=>False,λWZ s σ H Q I h=>?_,λF H C σ τ Q Q' χ R S h q=>?_⟩
  ·refine wpAny_Call_Name_kw (Ln I hg hm ?_ hdb);exact FK (h₀:=X.base) I.ok.mod.kin M.kp (Js (p2 pos WZ s σ H _ I h) λus s1 ⟨vs,H1,I1,r,q⟩=>q.elim) he hpl
  ·exact s2 F H C σ τ _ _ χ R S h λxs vs H2 C2 R2 t2 rs h2=>h2.elim
 ·obtain⟨ta,p2,s2⟩:=ha;refine⟨_,m8 (dvs:=[]) M F hr hg hm hb .nil B6 p2 hdb he hpl,λF' H C σ τ Q Q' χ R S h q=>?_⟩;refine s2 F' H C σ τ _ _ χ R S h λxs vs H2 C2 R2 t2 rs h2=>?_;intro x dx hx hdx hne;obtain⟨d',e1,e2,h2⟩:=h2;rw[hj] at e1
  cases e1
  obtain⟨vs',ev,h2⟩:=h2;have evs:vs=vs':=by
   have:ar-ar=0:=Nat.sub_self _;rw[this,List.replicate_zero,YK] at ev;exact(List.map_inj_right λa b z=>by cases z;rfl).mp ev
  subst evs;have hCx:C2 x=none:=R2.free hx;have R3:Rl X.K F' (Je H2 dx (.own x)) C2:=R2.hid hdx;have hx3:Je H2 dx (.own x) x=none:=by rw[Yd hne.symm];exact hx
  have R4:Rl X.K F' (Je (Je H2 dx (.own x)) x (.ins Cl dx [])) (up C2 x (.ins cn [])):=R3.new hx3 ⟨Cl,dx,[],hc,Yq,.nil⟩;have t4:Tx H2 (Je (Je H2 dx (.own x)) x (.ins Cl dx [])):=(Tx.new hdx).trans (Tx.new hx3);refine⟨F',_,.ref x::vs,_,χ,R4,?_,h2 x hCx,?_⟩
  ·rw[YK];exact Yn Jm (rs.tx t4)
  ·intro y v H5 C5 R5 t5 ry h5;obtain⟨rfl,h5⟩:=h5;exact⟨R7 ry,q _ _ H5 C5 R5 ((t2.trans t4).trans t5) Jm h5⟩
end
def fz {P:WO}{w:WN}{K:WY}{mg:Str->Option WQ}{base:WU}{st:WV}{f:WP}{pr:List Df}{n i:Nat}(F:vc K x qual st f fd)(S:Zu N ps (Zk st))(hd:pr[i]?=some d)(hn:d.n=N.length)(har:d.ar=ps.length)
  (hb:∀(cdv:WQ) (A:WM) (outer:List Env) (s:WR) (H:Hp) (E:XK),X8 n (A.deeper (envOfC qual (Zk st) s.heap.objs.size f cdv))->tV (yf CX0 P w K mg base N qual (Zk st) f cdv A outer s H E).nox (Xs st) (d.body (Z4 pr n))):
  Vk P w K mg base CX0 (n+1) f fd ps (spW K pr (n+1) i):=by
 refine F.ok S (λvs H Q E h=>?_) (λcdv A outer s H vs Q E hr h=>?_)
 ·obtain⟨F',C,vs',Q',χ,R,rs,⟨d',e1,e2,_⟩,_⟩:=h;rw[hd] at e1;cases e1;rw[rs.length,e2,har]
 ·obtain⟨F',C,vs',Q',χ,R,rs,⟨d',e1,e2,h⟩,q⟩:=h;rw[hd] at e1;cases e1;obtain⟨t,p,sm⟩:=hb cdv A outer s H E hr;refine⟨t,p,sm F' H C _ _ _ _ R (Xo.start rs N _ (by rw[rs.length,e2,hn])) h ⟨λσ τ H' C' R' t' _ h'=>q .non .non H' C' R' t' V0 h',q,λ_ _ _ _ _ _ _ z=>z.elim,λ_ _ _ _ _ _ _ z=>z.elim⟩⟩
def Ao {K:WY}{f:WP}:Vk P w K mg base CX0 0 f fd ps (spW K pr 0 i):=
 ⟨λvs H Q E h=>by obtain⟨_,_,_,_,_,_,_,z,_⟩:=h;exact z.elim,λA outer s H args us vs Q E _ _ _ _ h=>by obtain⟨_,_,_,_,_,_,_,z,_⟩:=h;exact z.elim⟩
structure Kl (K:W.Frag)(mg:Str->Option Value)(cn:Str)(Cl:Addr):Prop where
 at_:D6 K cn Cl
 mg:mg cn=some (.ref Cl)
 cls:ve K Cl
def ib {K:WY}{Cl f:WP}(k:Kl K mg cn Cl)(m':tN K Cl m f)(G:Vk P w K mg base CX0 n f fd ps sp)(hb:Wo K fd ps []):Cm P w K mg base n cn m ps sp:=
 ⟨Cl,f,fd,k.at_,k.cls,m',G,hb⟩
def lT {K:WY}{pr:List Df}{i j ar:Nat}{Cl f:WP}(hj:pr[j]?=some ⟨ar,ar,uv cn i⟩)(k:Kl K mg cn Cl)(M:L2.Mk K Cl f):Cn P w K mg base 0 pr cn i j:=⟨⟨ar,hj⟩,Cl,f,k.at_,k.mg,M,.inl FQ⟩
def lU {K:WY}{pr:List Df}{n i j ar:Nat}{Cl f:WP}(hj:pr[j]?=some ⟨ar,ar,uv cn i⟩)(k:Kl K mg cn Cl)(M:L2.Mk K Cl f)(G:Vk P w K mg base CX0 n f fd ps (spW K pr n i))(hb:Wo K fd ps []):Cn P w K mg base (n+1) pr cn i j:=
 ⟨⟨ar,hj⟩,Cl,f,k.at_,k.mg,M,.inr ⟨n,fd,ps,FQ,G,hb⟩⟩
def lV {P:WO}{w:WN}{K:WY}{base:WU}{pr:List Df}{n i j ar:Nat}{Cl:WP}{ps:List Str}(hj:pr[j]?=some ⟨ar,ar,uv cn i⟩)(k:Kl K mg cn Cl)(mk:W.makesIn K Cl=true)(kc:W.keepIn K (.ref Cl)=true)
  (h:Cm P w K mg base n cn "__init__" ps (spW K pr n i)):Cn P w K mg base (n+1) pr cn i j:=by
 obtain⟨C2,f,fd,h1,h2,h3,h4,h5⟩:=h;have e:some (some (Value.ref C2))=some (some (Value.ref Cl)):=h1.symm.trans k.at_
 cases e
 exact lU hj k ⟨mk,h3.at_,h3.fn,kc⟩ h4 h5
def Z0 {K:WY}{f:Str}:∀cn∈([]:List Str),KF K f cn:=λ_ h=>by cases h
def Zr {K:WY}{f cn:Str}{cs:List Str}(a:KF K f cn)(r:∀c∈cs,KF K f c):∀c∈cn::cs,KF K f c:=λc h=>by
 rcases CH.mp h with rfl | h
 ·exact a
 ·exact r c h
def yZ {K:WY}{sl:Array (Option WQ)}{od:Option WP}(l:K.lookup a=some ⟨.type "tuple",od,.seq its n,sl⟩)(hz:its.size<=sizeLine)(v:Yf xs its.toList)(r:Reps K H xs ts):Jr K H (.ref a) (.tup ts):=
 Xq (.inr ⟨_,its,n,l,FQ,FQ,hz,v⟩) r
def pZ:tV X body rR:=⟨λ_ _ _=>False,λ_ _ _ _ _ _ h=>h.elim,λ_ _ _ _ _ _ _ _ _ h _=>h.elim⟩
def iu (C:Hw):Nat->T->T->Bool->Prop
 | 0,v,w,b=>J8 v 0=true/\J8 w 0=true/\b=eqT v w
 | n+1,v,w,b=>(J8 v n=true/\J8 w n=true/\b=eqT v w)\/
   (∃(xs ys:List T) (e:Nat->Bool),v=.tup xs/\w=.tup ys/\(∀j x y,xs[j]?=some x->ys[j]?=some y->iu C n x y (e j))/\b=((List.range (min xs.length ys.length)).all e&&xs.length==ys.length))\/
   (∃(a a':WP) (xs ys:List T) (e:Nat->Bool),v=.ref a/\w=.ref a'/\C a=some (.lst xs)/\C a'=some (.lst ys)/\(xs.length=ys.length->∀j x y,xs[j]?=some x->ys[j]?=some y->iu C n x y (e j))/\
    b=(if xs.length=ys.length then(List.range xs.length).all e else false))
section
variable {X:Cx}{WZ:List (WP×Obj)}{σ:L2.St}{F H:Hp}{s:WR}{C:Hw}
def jX {e:Nat->Bool}{n:Nat}(h:∀j,j<n->e j=true):(List.range n).all e=true:=by
 rw[CJ];intro j hj;exact h j (List.mem_range.mp hj)
def jJ (I:Z2 X WZ σ H s)(R:Rl X.K F H C):∀(n:Nat) {v w:T} {x:V} {b:Bool},iu C n v w b->Jr X.K H x v->Jr X.K H x w->b=true:=by
 intro n
 induction n with
 | zero=>
  intro v w x b h rv rw';obtain⟨f1,f2,rfl⟩:=h;rw[Gz I 0 f1 f2 rv rw'];exact Pl _ f2
 | succ n ih=>
  intro v w x b h rv rw';have lists:∀{zs:List V} {xs ys:List T} {e:Nat->Bool},Reps X.K H zs xs->Reps X.K H zs ys->(∀j x y,xs[j]?=some x->ys[j]?=some y->iu C n x y (e j))->xs.length=ys.length/\∀j,j<xs.length->e j=true:=by
   intro zs xs ys e r1 r2 he;have l1:=r1.length;have l2:=r2.length;refine⟨by omega,λj hj=>?_⟩;have i1:xs[j]?=some (xs[j]'hj):=by simp[hj]
   have i2:ys[j]?=some (ys[j]'(by omega)):=by simp
   obtain⟨u1,g1,q1⟩:=r1.get i1;obtain⟨u2,g2,q2⟩:=r2.get i2;rw[g1] at g2;cases g2;exact ih (he j _ _ i1 i2) q1 q2
  rcases h with⟨f1,f2,rfl⟩ | ⟨xs,ys,e,rfl,rfl,he,rfl⟩ | ⟨a,a',xs,ys,e,rfl,rfl,h1,h2,he,rfl⟩
  ·rw[Gz I n f1 f2 rv rw'];exact Pl _ f2
  ·obtain⟨a,zs,rfl,hq,r⟩:=Yp rv;obtain⟨b,zs',eb,hq',r'⟩:=Yp rw'
   cases eb
   have:=I.tuple_inj hq hq';subst this;obtain⟨hl,ha⟩:=lists r r' he;rw[hl,Nat.min_self,XU,Bool.and_true];exact jX λj hj=>ha j (by omega)
  ·cases Z7 rv
   cases Z7 rw'
   rw[h1] at h2;cases h2;obtain⟨zs,hz,r⟩:=R.lst h1;obtain⟨hl,ha⟩:=lists r r (he FQ);rw[XY rfl];exact jX ha
def zL {A:WM}{e:Nat->Bool}(r:Reps X.K H ys ts)(r':Reps X.K H zs us)(rI:Yf ys its)(rI':Yf zs its')
  (he:∀j x y,ts[j]?=some x->us[j]?=some y->∀{x1 x2:V} {u u':WQ},Jr X.K H x1 x->Jr X.K H x2 y->Yg x1 u->Yg x2 u'->SeqAt.EqAt A s u u' (e j)):
  ∀j (h1:j<its.toArray.size) (h2:j<its'.toArray.size),SeqAt.EqAt A s its.toArray[j] its'.toArray[j] (e j):=λj h1 h2=>by
 have l1:its.toArray.size=ts.length:=by rw[XJ,<-rI.length,r.length]
 have l2:its'.toArray.size=us.length:=by rw[XJ,<-rI'.length,r'.length]
 have i1:ts[j]?=some (ts[j]'(by omega)):=by simp[l1▸h1]
 have i2:us[j]?=some (us[j]'(by omega)):=by simp[l2▸h2]
 obtain⟨x1,g1,q1⟩:=r.get i1;obtain⟨x2,g2,q2⟩:=r'.get i2;obtain⟨u1,k1,z1⟩:=rI.get g1;obtain⟨u2,k2,z2⟩:=rI'.get g2;have e1:its.toArray[j]=u1:=by
  have:its[j]?=some its.toArray[j]:=by simp
  rw[k1] at this;exact(YH this).symm
 have e2:its'.toArray[j]=u2:=by
  have:its'[j]?=some its'.toArray[j]:=by simp
  rw[k2] at this;exact(YH this).symm
 rw[e1,e2];exact he j _ _ i1 i2 q1 q2 z1 z2
def kU (I:Z2 X WZ σ H s)(R:Rl X.K F H C):∀(n:Nat) {v w:T} {x y:V} {u u':WQ} {A:WM} {b:Bool},iu C n v w b->Jr X.K H x v->Jr X.K H y w->Yg x u->Yg y u'->A.units+n<cLine->SeqAt.EqAt A s u u' b:=by
 intro n
 induction n with
 | zero=>
  intro v w x y u u' A b h rv rw' ru ru' hu;obtain⟨f1,f2,rfl⟩:=h;exact jK I 0 f1 f2 rv rw' ru ru' hu
 | succ n ih=>
  intro v w x y u u' A b h rv rw' ru ru' hu;have hu0:A.units<cLine:=by omega
  have h0:=h
  rcases h with⟨f1,f2,rfl⟩ | ⟨xs,ys,e,rfl,rfl,he,rfl⟩ | ⟨a,a',xs,ys,e,rfl,rfl,h1,h2,he,rfl⟩
  ·exact jK I n f1 f2 rv rw' ru ru' (by omega)
  ·obtain⟨a,zs,rfl,hq,r⟩:=Yp rv;obtain⟨b,zs',rfl,hq',r'⟩:=Yp rw'
   cases ru
   cases ru'
   by_cases hne:a=b
   ·subst hne;have:=jJ I R (n+1) h0 rv rw';rw[this];exact SeqAt.EqAt.same _
   ·obtain⟨its,rI,p,_⟩:=I.tuple hq;obtain⟨its',rI',p',_⟩:=I.tuple hq';have l1:its.toArray.size=xs.length:=by rw[XJ,<-rI.length,r.length]
    have l2:its'.toArray.size=ys.length:=by rw[XJ,<-rI'.length,r'.length]
    have key:=SeqAt.EqAt.of_refs hne (SeqAt.RcAt.tuples (A:=A) p p' hu0 (zL (A:=A.in1) r r' rI rI' λj x y hx hy {x1 x2 u u'} q1 q2 z1 z2=>ih (he j x y hx hy) q1 q2 z1 z2 (by show A.units+1+n<cLine;omega)));rw[l1,l2] at key;exact key
  ·cases Z7 rv
   cases Z7 rw'
   cases ru
   cases ru'
   by_cases hne:a=a'
   ·subst hne;have:=jJ I R (n+1) h0 rv rw';rw[this];exact SeqAt.EqAt.same _
   ·obtain⟨zs,hz,r⟩:=R.lst h1;obtain⟨zs',hz',r'⟩:=R.lst h2;obtain⟨its,rI,p,_⟩:=I.list (Ws.of hz);obtain⟨its',rI',p',_⟩:=I.list (Ws.of hz');have l1:its.toArray.size=xs.length:=by rw[XJ,<-rI.length,r.length]
    have l2:its'.toArray.size=ys.length:=by rw[XJ,<-rI'.length,r'.length]
    by_cases hl:xs.length=ys.length
    ·rw[XY hl];have key:=SeqAt.EqAt.of_refs hne (SeqAt.RcAt.lists (A:=A) p.isList p'.isList (by rw[l1,l2,hl]) hu0 (zL (A:=A.in1) r r' rI rI' λj x y hx hy {x1 x2 u u'} q1 q2 z1 z2=>ih (he hl j x y hx hy) q1 q2 z1 z2 (by show A.units+1+n<cLine;omega)));rw[l1] at key;exact key
    ·rw[XX hl];exact SeqAt.EqAt.of_refs hne (SeqAt.RcAt.lists_lengths p.isList p'.isList (by rw[l1,l2];exact bne_iff_ne.mpr hl) hu0)
def Zdb (I:Z2 X WZ σ H s)(R:Rl X.K F H C){A:WM}(h:iu C n v w b)(rv:Jr X.K H x v)(rw':Jr X.K H y w)(ru:Yg x u)(ru':Yg y u')(hu:A.units+n+1<cLine):
  SeqAt.RcAt A s u u' b/\SeqAt.RcNeAt A s u u' (!b):=by
 have hu0:A.units<cLine:=by omega
 cases n with
 | zero=>
  obtain⟨f1,f2,rfl⟩:=h;exact Zah I f1 f2 rv rw' ru ru' hu
 | succ n=>
  rcases h with⟨f1,f2,rfl⟩ | ⟨xs,ys,e,rfl,rfl,he,rfl⟩ | ⟨a,a',xs,ys,e,rfl,rfl,h1,h2,he,rfl⟩
  ·exact Zah I f1 f2 rv rw' ru ru' (by omega)
  ·obtain⟨a,zs,rfl,hq,r⟩:=Yp rv;obtain⟨b,zs',rfl,hq',r'⟩:=Yp rw'
   cases ru
   cases ru'
   obtain⟨its,rI,p,_⟩:=I.tuple hq;obtain⟨its',rI',p',_⟩:=I.tuple hq';have l1:its.toArray.size=xs.length:=by rw[XJ,<-rI.length,r.length]
   have l2:its'.toArray.size=ys.length:=by rw[XJ,<-rI'.length,r'.length]
   have hi:=zL (s:=s) (A:=A.in1) (e:=e) r r' rI rI' λj x y hx hy {x1 x2 u u'} q1 q2 z1 z2=>kU I R n (he j x y hx hy) q1 q2 z1 z2 (by show A.units+1+n<cLine;omega);have k1:=SeqAt.RcAt.tuples (A:=A) p p' hu0 hi;have k2:=SeqAt.RcNeAt.tuples (A:=A) p p' hu0 hi;rw[l1,l2] at k1 k2;exact⟨k1,k2⟩
  ·cases Z7 rv
   cases Z7 rw'
   cases ru
   cases ru'
   obtain⟨zs,hz,r⟩:=R.lst h1;obtain⟨zs',hz',r'⟩:=R.lst h2;obtain⟨its,rI,p,_⟩:=I.list (Ws.of hz);obtain⟨its',rI',p',_⟩:=I.list (Ws.of hz');have l1:its.toArray.size=xs.length:=by rw[XJ,<-rI.length,r.length]
   have l2:its'.toArray.size=ys.length:=by rw[XJ,<-rI'.length,r'.length]
   by_cases hl:xs.length=ys.length
   ·rw[XY hl];have hi:=zL (s:=s) (A:=A.in1) (e:=e) r r' rI rI' λj x y hx hy {x1 x2 u u'} q1 q2 z1 z2=>kU I R n (he hl j x y hx hy) q1 q2 z1 z2 (by show A.units+1+n<cLine;omega);have k1:=SeqAt.RcAt.lists (A:=A) p.isList p'.isList (by rw[l1,l2,hl]) hu0 hi;have k2:=SeqAt.RcNeAt.lists (A:=A) p.isList p'.isList (by rw[l1,l2,hl]) hu0 hi;rw[l1] at k1 k2;exact⟨k1,k2⟩
   ·rw[XX hl];have hne:(its.toArray.size !=its'.toArray.size)=true:=by rw[l1,l2];exact bne_iff_ne.mpr hl
    exact⟨SeqAt.RcAt.lists_lengths p.isList p'.isList hne hu0,SeqAt.RcNeAt.lists_lengths p.isList p'.isList hne hu0⟩
end
def kB (neg:Bool):W2:=λx y C Q=>∃b,iu C 100 x y b/\Q (.bl (if neg then !b else b)) C
abbrev aM:W2:=kB false
section
variable {X:Cx}
def gI (neg:Bool)(hu:X.A.units+150<cLine):Mo X (compareOp (if neg then .NotEq else .Eq)) (kB neg):=⟨_,Et,λF H C x y v u Q Q' R rx ry h q WZ s σ v' u' I r1 r2=>by
 obtain⟨b,he,hq⟩:=h;have key:=Zdb (A:=X.A) I R he rx ry r1 r2 (by omega);have hq':=q _ _ H C R (Tx.refl H) Y8 hq
 cases neg with
 | true=>exact EqBoolInt.of_rcne key.2 ⟨.bl (!b),H,I,FQ,hq'⟩
 | false=>exact EqBoolInt.of_rc key.1 ⟨.bl b,H,I,FQ,hq'⟩⟩
def cZ (hu:X.A.units+150<cLine):Mo X (compareOp .Eq) aM:=gI false hu
end
structure eO (K:W.Frag)(x qual:Str)(st:Stmt)(f:Addr)(fd:FuncData):Prop where
 ex:∃(oc:WQ) (od:Option WP) (dV kV doc pm:WQ) (an:Option WP) (cdv ct:WQ) (osl:Array (Option WQ)),
  fd=W.fnOf x qual (V4 st) (Xs st) (Zk st) dV kV doc pm an cdv ct/\K.lookup f=some ⟨oc,od,.func fd,osl⟩/\W.codeIn K cdv qual=true
 kp:W.keepIn K (.ref f)=true
def f6 {P:WO}{w:WN}{K:WY}{mg:Str->Option WQ}{base:WU}{st:WV}{f:WP}{pr:List Df}{n i:Nat}(F:eO K x qual st f fd)(S:Zu N ps (Zk st))(hd:pr[i]?=some d)(hn:d.n=N.length)(har:d.ar=ps.length)
  (hb:∀(cdv:WQ) (A:WM) (outer:List Env) (s:WR) (H:Hp) (E:XK),X8 n (A.deeper (envOfC qual (Zk st) s.heap.objs.size f cdv))->tV (yf CX0 P w K mg base N qual (Zk st) f cdv A outer s H E).nox (Xs st) (d.body (Z4 pr n))):
  Vk P w K mg base CX0 (n+1) f fd ps (spW K pr (n+1) i):=by
 obtain⟨oc,od,dV,kV,doc,pm,an,cdv,ct,osl,rfl,lk,hcd⟩:=F.ex;refine kS lk hcd S (λvs H Q E h=>?_) λA outer s H vs Q E hr h=>?_
 ·obtain⟨F',C,vs',Q',χ,R,rs,⟨d',e1,e2,_⟩,_⟩:=h;rw[hd] at e1;cases e1;rw[rs.length,e2,har]
 ·obtain⟨F',C,vs',Q',χ,R,rs,⟨d',e1,e2,h⟩,q⟩:=h;rw[hd] at e1;cases e1;obtain⟨t,p,sm⟩:=hb cdv A outer s H E hr;exact⟨t,p.nox,sm F' H C _ _ _ _ R (Xo.start rs N _ (by rw[rs.length,e2,hn])) h ⟨λσ τ H' C' R' t' _ h'=>q .non .non H' C' R' t' V0 h',q,λ_ _ _ _ _ _ _ z=>z.elim,λ_ _ _ _ _ _ _ z=>z.elim⟩⟩
def Zcv (P:WO)(w:WN)(K:WY)(mg:Str->Option WQ)(base:WU)(n:Nat)(x:Str)(ps:List Str)(ds:List Int)(sp:L2.Sp):Prop:=
 ∃f fd,Vk P w K mg base CX0 n f fd ps sp/\(∃us:List WQ,Yf (ds.map V.int) us/\∀j,j<=ds.length->Wo K fd ps (us.drop j))/\W.keepIn K (.ref f)=true/\mg x=some (.ref f)
def Zbq (ws:List T)(a:WA):WA:=λτ C Q χ=>a τ C (λvs C1=>Q (vs++ws) C1) χ
theorem y8:∀{vs:List V} {us:List WQ},Yf vs us->∀j,Yf (vs.drop j) (us.drop j)
 | _,_,h,0=>by simpa using h
 | _,_,.nil,j+1=>.nil
 | _,_,.cons _ r,j+1=>y8 r j
def lR {X:Cx}{k i:Nat}{p pos:Pos}{e:WW}{es:List WW}{ws:List T}(j:Nat)(Cc:Zcv X.prog X.w X.K X.mg X.base k x ps ds (spW X.K pr k i))(hr:X8 k X.A)(hg:Gl X x)(ha:yw X (e::es) wA)(hj:autoParam (j<=ds.length) QzD)(hws:autoParam ((ds.drop j).map T.int=ws) QzR)
  (hdb:autoParam ((x==("__debug__":Str))=false) QzD) (he:autoParam (starEach (e::es) X.env=(false,eval e X.env)::starEach es X.env) QzR) (hpl:autoParam ((backTo pos (starEach es X.env)).any (·.1)=false) QzR):
  Ji X (.Call (.Name x p) (e::es) [] pos) (Vj (Z4 pr k) i (Zbq ws wA)):=by
 subst hws;obtain⟨t,p1,s⟩:=ha;obtain⟨f,fd,G,⟨us,hv,hb⟩,hk,hm⟩:=Cc;have hv2:Yf ((ds.drop j).map V.int) (us.drop j):=by
  rw[FG];exact y8 hv j
 refine⟨_,vA (dvs:=(ds.drop j).map V.int) G hr hg hm hk (hb j hj) hv2 B6 p1 hdb he hpl,λF H C σ τ Q Q' χ R S h q=>?_⟩;refine s F H C σ τ _ _ χ R S h λxs vs H1 C1 R1 t1 rs h1=>?_;exact⟨F,C1,vs++(ds.drop j).map T.int,Q',χ,R1,rs.app (K9 _),h1,QE.at q t1⟩
end WL
namespace PySem
open Sem (wp)
namespace F
def lz_entry_ga:entryFor table "zip.__getattribute__"=some Builtin.«object.__getattribute__»:=
 entryFor_alias (id':="object.__getattribute__") (by kernel_rfl) (by first | rfl | decide+kernel) (by decide+kernel) (by kernel_rfl)
def lz_getattr_none:typeLookup (.type "zip") "__getattr__"=pure none:=by rw[typeLookup_type,builtinLookup_eq_fast];kernel_rfl
def lz_keys_none:typeLookup (.type "zip") "keys"=pure none:=by rw[typeLookup_type,builtinLookup_eq_fast];kernel_rfl
end F
section
variable {z:WP}
def qU (fs:Array WQ)(u:Tok):
  Meets (Builtin.«object.__getattribute__» ⟨[.ref z,.str "keys" u],[]⟩) (λA R s=>s.heap.get? z=some {cls:=.type "zip",dict:=none,data:=.fields fs,slots:=#[]}/\raisesAttr (.ref z) "keys" A R s):=
 Meets.of_wp λprog w A R s hs=>by
  obtain⟨ho,hs⟩:=hs;obtain⟨hp,g,d,tk,os⟩:=s;have hT:(⟨hp,g,d,tk,os⟩:WR).TypeIs (.ref z) "zip":=⟨_,ho,FQ⟩;have f1:=F.lz_keys_none;unfold Builtin.«object.__getattribute__»
  repeat (any_goals (first | assumption | wp_step))
  exact wpAny_raiseAttrError hs.1 hs.2 (attrMsg_fits (by decide+kernel) (by decide+kernel))
def li {prog:WO}{w:WN}{A:WM}{E:WQ->WR->Prop}{s:WR}{Q:Option WQ->WR->Prop}(ho:s.heap.get? z=some {cls:=.type "zip",dict:=none,data:=.fields fs,slots:=#[]})(hA:A.handled=none)
  (h:∀h' tk,(∀b ob,s.heap.get? b=some ob->h'.get? b=some ob)->Q none {s with heap:=h',toks:=tk}):wpAny (model prog w) A (getAttr? (.ref z) "keys") Q E s:=by
 obtain⟨hp,g,d,tk,os⟩:=s;have hT:(⟨hp,g,d,tk,os⟩:WR).TypeIs (.ref z) "zip":=⟨_,ho,FQ⟩;have f1:=sub_AttributeError;have f3:=F.slot_zip_getattribute.lookup;have f4:=F.slot_zip_getattribute.bind (.ref z);have f5:=F.lz_getattr_none;unfold getAttr? getAttrBy? getAttrBy
 repeat (any_goals (first | assumption | ((with_reducible show wpAny _ _ (call (Value.builtin "zip.__getattribute__") _ _) _ _ _);refine call_meets F.slot_zip_getattribute ⟨_,ho,FQ⟩ F.lz_entry_ga (F.args_zip_getattribute_2 _ _) (qU fs _) ⟨ho,hA,λh' tk' e hx=>?_⟩) | wp_step))
 obtain⟨t',u',he⟩:=hx.there;show wpAny _ _ (getattributeRaised _ _ _ _ _ _ _) _ _ _;unfold getattributeRaised
 repeat (any_goals (first | assumption | wp_step))
 exact h h' tk' λb ob q=>hx.keeps b ob q
end
end PySem
namespace L2
open PySem PySem.Spec PyProof.Rows
abbrev Mp (h:WU)(z TI TO T:WP)(b:Bool):Prop:=
 h.get? z=some {cls:=.type "zip",dict:=none,data:=.fields #[rawInt T,.bool b,.bool false,.ref TI,.ref TO],slots:=#[]}
section
variable {prog:WO}{w:WN}{A:WM}{E:WQ->WR->Prop}{s:WR}{z TI TO i1 i2:WP}{f1 f2:List WP}{n:Nat}{P1 P2:Nat->WQ->Prop}{S1 S2:Nat->WU->Prop}
def uq {a:WP}{Q:Option Obj->WR->Prop}(h:Q (s.heap.get? a) s):wpAny M A (loadIfAlive a) Q E s:=λΓ p hΓ=>by
 unfold loadIfAlive;rw[Sem.wp_loadIfAlive];exact(XB (M:=M) (A:=A) (E:=E) h) Γ p hΓ
def vi {Q:Bool->WR->Prop}(hz:Mp s.heap z TI TO T b)(hT:∃o,s.heap.get? T=some o)(hQ:∀h2,Mp h2 z TI TO T true->Heap.SameBut z s.heap h2->Q false {s with heap:=h2}):
  wpAny (model prog w) A (Builtin.SmallTypes.ownedTupleIsFree (.ref z)) Q E s:=by
 obtain⟨oT,hoT⟩:=hT;unfold Builtin.SmallTypes.ownedTupleIsFree;refine XA (wpAny_field hz FQ (x:=rawInt T) FQ ?_);show wpAny _ _ (loadIfAlive (T:Int).toNat>>=_) _ _ s;refine XA (uq ?_);rw[Int.toNat_natCast,hoT];simp only[Option.isNone_some,Bool.false_eq_true,if_false];refine XA (wpAny_field hz FQ (x:=.bool b) FQ ?_)
 cases b with
 | false=>
  rw[XY (by decide)];refine wpAny_bind (wpAny_setField_rec hz (by simp) λha hza sa=>?_);exact XB (hQ ha hza sa)
 | true=>
  rw[XX (by decide)];exact XB (hQ s.heap hz (Heap.SameBut.refl _ _))
def ng {i:Nat}{T:WP}{b:Bool}{u v:WQ}{Q:WQ->WR->Prop}(D1:Draws prog w A i1 f1 n P1 S1)(D2:Draws prog w A i2 f2 n P2 S2)(Z:oU z TI TO i1 i2 f1 f2)(hi:i<n)
  (hz:Mp s.heap z TI TO T b) (hT:∃o,s.heap.get? T=some o) (hTI:IsPair s.heap TI (.ref i1) (.ref i2)) (s1:S1 i s.heap) (s2:S2 i s.heap)
  (hQ:∀x y h2 t2 b,P1 i x->P2 i y->Mp h2 z TI TO T b->S1 (i+1) h2->S2 (i+1) h2->IsPair h2 s.heap.objs.size x y->
   (∀c o,c≠z->c≠i1->c≠i2->s.heap.get? c=some o->h2.get? c=some o)->Q (.ref s.heap.objs.size) {s with heap:=h2,toks:=t2}):
  wpAny (model prog w) A (Builtin.«zip.__next__» ⟨[.ref z],[]⟩) (λfin s2=>∃r,fin=.done (.ret r)/\Q r s2) E s:=by
 show wpAny _ _ (field (.ref z) 2>>=_) _ E s;refine XA (wpAny_field hz FQ (x:=.bool false) FQ ?_);show wpAny _ _ (field (.ref z) 3>>=_) _ E s;refine XA (wpAny_field hz FQ (x:=.ref TI) FQ ?_);refine XA (wpAny_seqItems hTI FQ ?_);show wpAny _ _ (Builtin.SmallTypes.ownedTupleIsFree (.ref z)>>=_) _ E s;refine XA (vi hz hT λha hza sa=>?_);simp only[Bool.false_eq_true,if_false];have ne:∀{b c:WP} {l:List WP},b∈l->c∉l->b≠c:=λhb hc e=>hc (e▸hb);have a1:S1 i ha:=D1.frame i _ _ s1 λb hb o e=>sa.extBut _ _ (ne hb Z.z1) e;have a2:S2 i ha:=D2.frame i _ _ s2 λb hb o e=>sa.extBut _ _ (ne hb Z.z2) e;have zi1:z≠i1:=λe=>Z.z1 (e▸Z.m1);have zi2:z≠i2:=λe=>Z.z2 (e▸Z.m2);rw[<-Array.forIn_toList];simp only[List.forIn_cons,List.forIn_nil];refine XA (XA (XA (wpAny_holding ?_)));show wpAny _ _ (Builtin.SmallTypes.nextOf (.ref i1)>>=_) _ _ _;refine XA (D1.item i {s with heap:=ha} _ _ hi a1 λx hb tb hx b1 sb=>XB ?_);have b2:S2 i hb:=D2.frame i _ _ a2 λb hm o e=>sb.extBut _ _ (ne hm Z.a12) e;refine XB ?_;refine XA (XA (wpAny_holding ?_));show wpAny _ _ (Builtin.SmallTypes.nextOf (.ref i2)>>=_) _ _ _;refine XA (D2.item i {s with heap:=hb,toks:=tb} _ _ hi b2 λy hd td hy d2 sd=>XB ?_);have d1:S1 (i+1) hd:=D1.frame _ _ _ b1 λb hm o e=>sd.extBut _ _ (ne hm Z.a21) e;refine XB ?_;refine XB ?_;refine XA (wpAny_newTuple ?_ (show(2:Nat)<=sizeLine by decide));have hsz:hd.objs.size=s.heap.objs.size:=by rw[sd.1,sb.1,sa.1]
 have hzd:Mp hd z TI TO T true:=sd.extBut _ _ zi2 (sb.extBut _ _ zi1 hza);have up:∀c o,hd.get? c=some o->(hd.push {cls:=.type "tuple",data:=.seq #[x,y]}).get? c=some o:=λc o e=>XC _ e;refine XB ⟨_,FQ,?_⟩;show Q (.ref hd.objs.size) _;have hTn:IsPair (hd.push {cls:=.type "tuple",data:=.seq #[x,y]}) hd.objs.size x y:=XF _ FQ;rw[hsz] at hTn |-;exact hQ x y _ td true hx hy (up _ _ hzd) (D1.frame _ _ _ d1 λb hm o e=>up _ o e) (D2.frame _ _ _ d2 λb hm o e=>up _ o e) hTn λc o n1 n3 n4 e=>up c o (sd.extBut _ _ n4 (sb.extBut _ _ n3 (sa.extBut _ _ n1 e)))
def i0 {T:WP}{b:Bool}{Q:Fin->WR->Prop}(D1:Draws prog w A i1 f1 n P1 S1)(Z:oU z TI TO i1 i2 f1 f2)
  (hz:Mp s.heap z TI TO T b) (hT:∃o,s.heap.get? T=some o) (hTI:IsPair s.heap TI (.ref i1) (.ref i2)) (s1:S1 n s.heap)
  (hE:∀h2 ex,(∀c o,c≠z->c≠i1->c≠i2->s.heap.get? c=some o->h2.get? c=some o)->(∃o,h2.get? ex=some o/\o.cls=.type "StopIteration")->E (.ref ex) {s with heap:=h2}):
  wpAny (model prog w) A (Builtin.«zip.__next__» ⟨[.ref z],[]⟩) Q E s:=by
 show wpAny _ _ (field (.ref z) 2>>=_) _ E s;refine XA (wpAny_field hz FQ (x:=.bool false) FQ ?_);show wpAny _ _ (field (.ref z) 3>>=_) _ E s;refine XA (wpAny_field hz FQ (x:=.ref TI) FQ ?_);refine XA (wpAny_seqItems hTI FQ ?_);show wpAny _ _ (Builtin.SmallTypes.ownedTupleIsFree (.ref z)>>=_) _ E s;refine XA (vi hz hT λha hza sa=>?_);simp only[Bool.false_eq_true,if_false];have ne:∀{b c:WP} {l:List WP},b∈l->c∉l->b≠c:=λhb hc e=>hc (e▸hb);have a1:S1 n ha:=D1.frame n _ _ s1 λb hb o e=>sa.extBut _ _ (ne hb Z.z1) e;rw[<-Array.forIn_toList];simp only[List.forIn_cons,List.forIn_nil];refine XA (XA (XA (wpAny_holding ?_)));show wpAny _ _ (Builtin.SmallTypes.nextOf (.ref i1)>>=_) _ _ _;refine XA (D1.done {s with heap:=ha} _ _ a1 λhb ex sb he=>?_);exact hE hb ex (λc o n1 n3 n4 e=>sb _ _ n3 (sa.extBut _ _ n1 e)) he
end
end L2
namespace PySem.F
def lz_entry_loop:entryFor table "dict.update.loop"=some Builtin.«dict.update.loop»:=entryFor_of_tree (by kernel_rfl)
end PySem.F
namespace L2
open PySem PySem.Spec PyProof.Rows
structure ZS (z TI TO i1 i2 l1 l2:Addr)(xs ys:Array Value)(i:Nat)(h:Heap):Prop where
 zip:IsZip h z TI TO .none\/∃T b,Mp h z TI TO T b/\(∃o,h.get? T=some o)/\T≠z/\T≠TO/\T≠i1/\T≠i2
 its:IsPair h TI (.ref i1) (.ref i2)
 own:∃a b,IsPair h TO a b
 s1:h.IsTupleIter i1 l1 i/\h.IsTuple l1 xs
 s2:h.IsTupleIter i2 l2 i/\h.IsTuple l2 ys
def ZS.frame {z TI TO i1 i2 l1 l2:WP}{h h':WU}(Z:ZS z TI TO i1 i2 l1 l2 xs ys i h)(k:∀b∈[z,TI,TO,i1,i2,l1,l2],∀o,h.get? b=some o->h'.get? b=some o)(al:∀b,(∃o,h.get? b=some o)->∃o,h'.get? b=some o):ZS z TI TO i1 i2 l1 l2 xs ys i h':=by
 obtain⟨a,b,⟨u,v,c⟩,d,e⟩:=Z;refine⟨?_,k _ (by simp) _ b,⟨u,v,k _ (by simp) _ c⟩,⟨d.1.at λo q=>k _ (by simp) o q,d.2.at λo q=>k _ (by simp) o q⟩,⟨e.1.at λo q=>k _ (by simp) o q,e.2.at λo q=>k _ (by simp) o q⟩⟩
 rcases a with a | ⟨T,b,a,hT,r⟩
 ·exact .inl (k _ (by simp) _ a)
 ·exact .inr ⟨T,b,k _ (by simp) _ a,al _ hT,r⟩
section
variable {prog:WO}{w:WN}{A:WM}{E:WQ->WR->Prop}{s:WR}{z TI TO i1 i2 l1 l2:WP}{xs ys:Array WQ}
def oX {i:Nat}{Q:Option WQ->WR->Prop}(hh:A.handled=none)(Z:oU z TI TO i1 i2 [i1,l1] [i2,l2])(h1:l1≠i1)(h2:l2≠i2)(hn:xs.size=ys.size)(hi:i<xs.size)(st:ZS z TI TO i1 i2 l1 l2 xs ys i s.heap)
  (hQ:∀T x y h' tk,xs[i]?=some x->ys[i]?=some y->s.heap.objs.size<=T->IsPair h' T x y->ZS z TI TO i1 i2 l1 l2 xs ys (i+1) h'->(∀b o,b∉[z,TO,i1,i2]->s.heap.get? b=some o->h'.get? b=some o)->Q (some (.ref T)) {s with heap:=h',toks:=tk}):
  wpAny (model prog w) A (pyNext (.ref z)) Q E s:=by
 have D1:=Ub (prog:=prog) (w:=w) (A:=A.in1) hh i1 l1 h1 xs;have D2:=Ub (prog:=prog) (w:=w) (A:=A.in1) hh i2 l2 h2 ys;rw[<-hn] at D2;obtain⟨a,b,⟨u,v,c⟩,d,e⟩:=st;have al:∀{h h':WU},True:=λ{_ _}=>trivial;have lt:∀{c o},s.heap.get? c=some o->s.heap.objs.size≠c:=λe=>DJ (XD e);obtain⟨o1,l1'⟩:=D1.live _ _ d;obtain⟨o2,l2'⟩:=D2.live _ _ e
 rcases a with a | ⟨T,bb,a,hT,t1,t2,t3,t4⟩
 ·have hTy:s.TypeIs (.ref z) "zip":=⟨_,a,FQ⟩;unfold pyNext;refine XA (wpAny_attempt (wpAny_callSpecial?_slot (name:=Str.ofString "__next__") hTy CI (wpAny_call_entry CI hTy DL
   (vf D1 D2 Z hi a b c d e λx y h2 t2 hx hy z1 z2 z3 z4 z5 z6=>XB ?_) (DH _))))
  refine hQ _ x y h2 t2 hx hy (XE _) z5 ⟨.inr ⟨_,false,z1,⟨_,z5⟩,lt a,lt c,lt l1',lt l2'⟩,z6 _ _ Z.tz Z.io Z.t1 Z.t2 b,⟨_,_,z2⟩,z3,z4⟩ λc o hc q=>?_;simp only[List.mem_cons,List.not_mem_nil,or_false,not_or] at hc;exact z6 c o hc.1 hc.2.1 hc.2.2.1 hc.2.2.2 q
 ·have hTy:s.TypeIs (.ref z) "zip":=⟨_,a,FQ⟩;unfold pyNext;refine XA (wpAny_attempt (wpAny_callSpecial?_slot (name:=Str.ofString "__next__") hTy CI (wpAny_call_entry CI hTy DL
   (ng (u:=u) (v:=v) D1 D2 Z hi a hT b d e λx y h2 tk b2 hx hy z1 z3 z4 z5 z6=>XB ?_) (DH _))))
  obtain⟨oT,hoT⟩:=hT;have Oi1:TO≠i1:=λe=>Z.o1 (e▸Z.m1);have Oi2:TO≠i2:=λe=>Z.o2 (e▸Z.m2);refine hQ _ x y h2 tk hx hy (XE _) z5 ⟨.inr ⟨T,b2,z1,⟨oT,z6 _ _ t1 t3 t4 hoT⟩,t1,t2,t3,t4⟩,z6 _ _ Z.tz Z.t1 Z.t2 b,⟨_,_,z6 _ _ Z.oz Oi1 Oi2 c⟩,z3,z4⟩ λc o hc q=>?_;simp only[List.mem_cons,List.not_mem_nil,or_false,not_or] at hc;exact z6 c o hc.1 hc.2.2.1 hc.2.2.2 q
def iy {Q:Option WQ->WR->Prop}(hh:A.handled=none)(Z:oU z TI TO i1 i2 [i1,l1] [i2,l2])(h1:l1≠i1)(st:ZS z TI TO i1 i2 l1 l2 xs ys xs.size s.heap)
  (hQ:∀h' tk,(∀b o,b∉[z,TO,i1,i2]->s.heap.get? b=some o->h'.get? b=some o)->Q none {s with heap:=h',toks:=tk}):
  wpAny (model prog w) A (pyNext (.ref z)) Q E s:=by
 have D1:=Ub (prog:=prog) (w:=w) (A:=A.in1) hh i1 l1 h1 xs;obtain⟨a,b,⟨u,v,c⟩,d,e⟩:=st
 rcases a with a | ⟨T,bb,a,hT,t1,t2,t3,t4⟩
 ·have hTy:s.TypeIs (.ref z) "zip":=⟨_,a,FQ⟩;unfold pyNext;refine XA (wpAny_attempt (wpAny_callSpecial?_slot (name:=Str.ofString "__next__") hTy CI (wpAny_call_entry CI hTy DL (tX D1 Z a b c d λh2 ex hk he=>?_) (DH _))));obtain⟨o,ho,hc⟩:=he;refine XA (wpAny_isInstance (T:="StopIteration") (b:=true) ⟨o,ho,hc⟩ isSubtype_stop ?_);refine XB (hQ h2 s.toks λc o hc q=>?_);simp only[List.mem_cons,List.not_mem_nil,or_false,not_or] at hc;exact hk c o hc.1 hc.2.1 hc.2.2.1 hc.2.2.2 q
 ·have hTy:s.TypeIs (.ref z) "zip":=⟨_,a,FQ⟩;unfold pyNext;refine XA (wpAny_attempt (wpAny_callSpecial?_slot (name:=Str.ofString "__next__") hTy CI (wpAny_call_entry CI hTy DL (i0 D1 Z a hT b d λh2 ex hk he=>?_) (DH _))));obtain⟨o,ho,hc⟩:=he;refine XA (wpAny_isInstance (T:="StopIteration") (b:=true) ⟨o,ho,hc⟩ isSubtype_stop ?_);refine XB (hQ h2 s.toks λc o hc q=>?_);simp only[List.mem_cons,List.not_mem_nil,or_false,not_or] at hc;exact hk c o hc.1 hc.2.2.1 hc.2.2.2 q
def lJ {knd:KeyKind prog w Yo}{d:WP}(hh:A.handled=none)(Z:oU z TI TO i1 i2 [i1,l1] [i2,l2])(h1:l1≠i1)(h2:l2≠i2)(hn:xs.size=ys.size)(hd:d∉[z,TI,TO,i1,i2,l1,l2])(kk:Nat->Yo)(hk:∀i x,xs[i]?=some x->knd.is (kk i) x=true)(hsz:xs.size<=1000)
  {R:Result->WR->Prop} (h₀:WU) (hlt:∀b o,h₀.get? b=some o->b≠d/\b∉[z,TO,i1,i2])
  (hR:∀h' tk vs,(∀b o,h₀.get? b=some o->h'.get? b=some o)->h'.DictOf knd d vs->vs=((List.range xs.size).foldl (λa j=>stored a (kk j) ((ys[j]?).getD .none)) [])->R (.ok (.ret .none)) {s with heap:=h',toks:=tk}):
  ∀(m i:Nat) (h:WU) (tk:Nat) (vs:List (Yo×WQ)),xs.size-i=m->i<=xs.size->ZS z TI TO i1 i2 l1 l2 xs ys i h->(∀b o,h₀.get? b=some o->h.get? b=some o)->h.DictOf knd d vs->vs.length<=i->vs=((List.range i).foldl (λa j=>stored a (kk j) ((ys[j]?).getD .none)) [])-> 
   codeAny (model prog w) A (.builtin "dict.update.loop" ⟨[.ref d,.ref z,rawInt i,.none],[]⟩) R {s with heap:=h,toks:=tk}:=by
 intro m
 induction m with
 | zero=>
  intro i h tk vs hm hi st keep dd hl hv;have ei:i=xs.size:=by omega
  subst ei;refine codeAny_builtin PySem.F.lz_entry_loop ?_;show wpAny _ _ (pyNext (.ref z)>>=_) _ _ _;refine XA (iy (A:=A.under _) hh Z h1 st λh' tk' kp=>?_);show wpAny _ _ (Builtin.Dict.addKeywords d []>>=_) _ _ _;refine XA (XB (XB ?_));refine hR h' tk' vs (λb o q=>kp b o (hlt b o q).2 (keep b o q)) (dd.at λo q=>kp _ o ?_ q) hv;intro hm;exact hd (by simp only[ZM,ZN,or_false] at hm |-;rcases hm with h | h | h | h<;>simp[h])
 | succ m ih=>
  intro i h tk vs hm hi st keep dd hl hv;refine codeAny_builtin PySem.F.lz_entry_loop ?_;show wpAny _ _ (pyNext (.ref z)>>=_) _ _ _;have hdw:d∉[z,TO,i1,i2]:=λhm=>hd (by simp only[ZM,ZN,or_false] at hm |-;rcases hm with h | h | h | h<;>simp[h]);refine XA (oX (A:=A.under _) hh Z h1 h2 hn (by omega) st λT x y h' tk' hx hy hT hp st' kp=>?_);have dd':h'.DictOf knd d vs:=dd.at λo q=>kp _ o hdw q;show wpAny _ _ (holding [.ref T] _>>=_) _ _ _;refine XA (wpAny_holding ?_);refine XA (wpAny_tryCatch ?_);unfold Builtin.Dict.pairItems;refine XA (wpAny_typeOf (T:="tuple") ⟨_,hp,FQ⟩ ?_);rw[XY (by decide)];refine XA (wpAny_seqItems hp FQ (XB ?_));show wpAny _ _ (holding [x,y] (dictSet d x y)) _ _ _;refine wpAny_holding ?_;unfold dictSet;refine wpAny_holding (XA (knd.pyHash (hk i x hx) ?_));refine wpAny_dictSetHashed_pairs (hk i x hx) dd' (λh2 dd2 sb=>?_) (XN (show vs.length<=1000 by omega) (by decide));refine XB ⟨Code.quiet_builtin _ (by decide+kernel),?_⟩;have nd:∀b∈[z,TI,TO,i1,i2,l1,l2],b≠d:=λb hb e=>hd (e▸hb);have ei:(rawInt ((i:Int)+1))=rawInt ((i+1:Nat):Int):=by congr 1
  rw[ei];refine ih (i+1) h2 _ (stored vs (kk i) y) (by omega) (by omega) (st'.frame (λb hb o q=>sb.extBut _ _ (nd b hb) q) λb hb=>?_) (λb o q=>sb.extBut _ _ (hlt b o q).1 (kp b o (hlt b o q).2 (keep b o q))) dd2 ?_ ?_
  ·obtain⟨o,q⟩:=hb;by_cases e:b=d
   ·subst e;obtain⟨o',_,_,q',_⟩:=dd2;exact⟨o',q'⟩
   ·exact⟨o,sb.extBut _ _ e q⟩
  ·unfold stored
   split
   ·rw[XI];omega
   ·rw[BX,List.length_singleton];omega
  ·rw[List.range_succ,FI,<-hv];simp[hy]
def yo {knd:KeyKind prog w Yo}{Q:WQ->WR->Prop}(hh:A.handled=none)(Z:oU z TI TO i1 i2 [i1,l1] [i2,l2])(h1:l1≠i1)(h2:l2≠i2)(hn:xs.size=ys.size)(kk:Nat->Yo)(hk:∀i x,xs[i]?=some x->knd.is (kk i) x=true)(hsz:xs.size<=1000)
  (h₀:WU) (hlt:∀b o,h₀.get? b=some o->b∉[z,TO,i1,i2]) (keep:∀b o,h₀.get? b=some o->s.heap.get? b=some o) (hz0:IsZip s.heap z TI TO .none) (st:ZS z TI TO i1 i2 l1 l2 xs ys 0 s.heap)
  (hQ:∀h' tk,(∀b o,h₀.get? b=some o->h'.get? b=some o)->h'.DictOf knd s.heap.objs.size ((List.range xs.size).foldl (λa j=>stored a (kk j) ((ys[j]?).getD .none)) [])->Q (.ref s.heap.objs.size) {s with heap:=h',toks:=tk}):
  wpAny (model prog w) A (call (.type "dict") [.ref z]) Q E s:=by
 refine callType_codes (Q₁:=λobj s₁=>obj=.ref s.heap.objs.size/\s₁={s with heap:=s.heap.push {cls:=.type "dict",data:=.dict #[]}}) PySem.F.kt_called_dict (PySem.F.kt_typeCall_dict_1 _) PySem.F.entry_dict_init (kt_code_dict_new _ ⟨FQ,FQ⟩) ?_;rintro obj s₁ ⟨rfl,rfl⟩;have hnew:(s.heap.push {cls:=.type "dict",data:=.dict #[]}).DictOf knd s.heap.objs.size []:=Heap.DictOf.new s.heap;have hps:∀b o,s.heap.get? b=some o->(s.heap.push {cls:=.type "dict",data:=.dict #[]}).get? b=some o:=λb o q=>XC _ q;have st1:ZS z TI TO i1 i2 l1 l2 xs ys 0 (s.heap.push {cls:=.type "dict",data:=.dict #[]}):=st.frame (λb _ o q=>hps b o q) λb ⟨o,q⟩=>⟨o,hps b o q⟩;refine⟨hnew.typeIs,PySem.F.args_dict_init_2 _ _,?_⟩;unfold Builtin.«dict.__init__»;refine XA ?_;unfold Builtin.Dict.selfAndRest;refine XA (wpAny_notOrdered_dict hnew.typeIs ?_);show wpAny _ _ (pure (s.heap.objs.size,[Value.ref z])) _ _ _;refine XB ?_;show wpAny _ _ (Builtin.Dict.updateFrom "dict.__init__" s.heap.objs.size (.ref z) [] .none) _ _ _;have hz:=hps _ _ hz0;unfold Builtin.Dict.updateFrom;refine XA (wpAny_typeOf (T:="zip") ⟨_,hz,FQ⟩ ?_);rw[XY (by decide)];refine XA (li hz hh λh' tk' kp=>?_);rw[XY (by decide)];have st2:ZS z TI TO i1 i2 l1 l2 xs ys 0 h':=st1.frame (λb _ o q=>kp b o q) λb ⟨o,q⟩=>⟨o,kp b o q⟩;refine XA (wpAny_rule ?_);refine XA (wpAny_pyIter_zip (kp _ _ hz) ?_);refine XB ⟨Code.quiet_builtin _ (by decide+kernel),?_⟩;have sd:∀b o,s.heap.get? b=some o->b≠s.heap.objs.size:=λb o q=>XH (XD q);have hd:s.heap.objs.size∉[z,TI,TO,i1,i2,l1,l2]:=by
  obtain⟨_,b,⟨u,v,c⟩,d,e⟩:=st;obtain⟨o1,e1,_⟩:=d.1;obtain⟨o2,e2,_⟩:=e.1;obtain⟨o3,e3,_⟩:=d.2;obtain⟨o4,e4,_⟩:=e.2;simp only[List.mem_cons,List.not_mem_nil,or_false,not_or];exact⟨(sd _ _ hz0).symm,(sd _ _ b).symm,(sd _ _ c).symm,(sd _ _ e1).symm,(sd _ _ e2).symm,(sd _ _ e3).symm,(sd _ _ e4).symm⟩
 refine lJ (A:=A.in1) (s:=s) (knd:=knd) hh Z h1 h2 hn hd kk hk hsz h₀ (λb o q=>⟨sd b o (keep b o q),hlt b o q⟩) (λh3 tk3 vs k3 d3 hv=>?_) xs.size 0 h' tk' [] FQ (XO _) st2 (λb o q=>kp b o (hps b o (keep b o q))) (hnew.at λo q=>kp _ o q) (XE _) FQ;subst hv;exact⟨FQ,hQ h3 tk3 k3 d3⟩
end
def tS {α:Type}(put:List (Yo×α)->Yo->α->List (Yo×α))(ks:List Yo)(ys:List α):List (Yo×α):=(ks.zip ys).foldl (λa kv=>put a kv.1 kv.2) []
def fE {α:Type}{put:List (Yo×α)->Yo->α->List (Yo×α)}(hp:∀a k v,(put a k v).length<=a.length+1)(ks:List Yo)(ys:List α):(tS put ks ys).length<=ks.length:=by
 have key:∀(l:List (Yo×α)) (acc:List (Yo×α)),(l.foldl (λa kv=>put a kv.1 kv.2) acc).length<=acc.length+l.length:=by
  intro l
  induction l with
  | nil=>intro acc;simp
  | cons x l ih=>intro acc;have h1:=ih (put acc x.1 x.2);have h2:=hp acc x.1 x.2;rw[List.foldl_cons,YF];omega
 have h:=key (ks.zip ys) [];rw[EE] at h;unfold tS;simp only[List.length_nil] at h;omega
def Zc3 (K:WY)(ta:TA):TE:=λσ H Q=>ta σ H λvs H1=>∃(l1 l2:WP) (ks:List Yo) (ys:List V),vs=[.ref l1,.ref l2]/\U8 K H1 l1 (ks.map kV)/\U8 K H1 l2 ys/\ks.length=ys.length/\ks.length<=1000/\
 ∀p,H1 p=none->Q (.ref p) (Je H1 p (.dK (tS W4 ks ys)))
def bN {ks:List Yo}{ys:List V}(hl:ks.length=ys.length)(rv:Yf ys us):KV (tS W4 ks ys) ((List.range ks.length).foldl (λa j=>stored a ((ks[j]?).getD (.inl 0)) ((us.toArray[j]?).getD .none)) []):=by
 have key:∀i,i<=ks.length->KV (((ks.zip ys).take i).foldl (λa kv=>W4 a kv.1 kv.2) []) ((List.range i).foldl (λa j=>stored a ((ks[j]?).getD (.inl 0)) ((us.toArray[j]?).getD .none)) []):=by
  intro i
  induction i with
  | zero=>intro _;exact .nil
  | succ i ih=>
   intro hi;have hk:ks[i]?=some ks[i]:=by simp[show i<ks.length by omega]
   have hy:ys[i]?=some (ys[i]'(by omega)):=by simp[show i<ys.length by omega]
   obtain⟨u,hu,ru⟩:=rv.get hy;have hz:(ks.zip ys)[i]?=some (ks[i],ys[i]'(by omega)):=by rw[DI];exact⟨hk,hy⟩
   have hu':us.toArray[i]?=some u:=by simpa using hu
   rw[List.range_succ,FI,YD,hz,Option.toList_some,FI];simp only[List.foldl_cons,List.foldl_nil,hk,hu',Option.getD_some];exact(ih (by omega)).put _ ru
 have h:=key ks.length (XE _);rw[EO (by rw[EE];omega)] at h;exact h
section
variable {X:Cx}
def xQ {a c:WW}{p pos p2 pos2:Pos}(hc:X.calm=true)(hg:Gl X "dict")(hm:X.mg "dict"=none)(hg2:Gl X "zip")(hm2:X.mg "zip"=none)(ha:PA X [a,c] ta)(hs:autoParam (starEach [a,c] X.env=(false,eval a X.env)::starEach [c] X.env) QzR)(hp:autoParam ((backTo pos2 (starEach [c] X.env)).any (·.1)=false) QzR)
  (hs2:autoParam (starEach [.Call (.Name "zip" p2) [a,c] [] pos2] X.env=[(false,eval (.Call (.Name "zip" p2) [a,c] [] pos2) X.env)]) QzR) (hb:autoParam (bootBuiltins "zip"=some (.type "zip")) QzK) (hb2:autoParam (bootBuiltins "dict"=some (.type "dict")) QzK):
  PE X (.Call (.Name "dict" p) [.Call (.Name "zip" p2) [a,c] [] pos2] [] pos) (Zc3 X.K ta):=by
 intro WZ s σ H Q I h;refine Call_ (Vo I hg hm hb2 (BZ ?_ hs2 FQ));rw[hs2];show wpAny _ _ (spliced ((false,eval (.Call (.Name "zip" p2) [a,c] [] pos2) X.env)::backTo pos [])) _ _ s;refine CT (Call_ (Vo I hg2 hm2 hb (BZ (Js (ha pos2 WZ s σ H _ I h) λus s1 zZ=>?_) hs hp)));obtain⟨vs,H1,I1,r1,q1⟩:=zZ;obtain⟨l1,l2,ks,ys,rfl,hq1,hq2,hlen,hsz,q⟩:=q1;obtain⟨u,v,rfl,ru,rv⟩:=r1.two
 cases ru
 cases rv
 obtain⟨its1,rv1,p1,_⟩:=I1.tuple hq1;obtain⟨its2,rv2,p2',_⟩:=I1.tuple hq2;have lt1:l1<s1.heap.objs.size:=by obtain⟨_,e,_⟩:=p1;exact XD e
 have lt2:l2<s1.heap.objs.size:=by obtain⟨_,e,_⟩:=p2';exact XD e
 have n1:its1.toArray.size=ks.length:=by rw[XJ,<-rv1.length,XI]
 have n2:its2.toArray.size=ys.length:=by rw[XJ,<-rv2.length]
 refine Ds false false p1 p2' λh2 N=>?_;refine DG ?_;generalize hk:s1.heap.objs.size=k at N lt1 lt2;have Z:=A2 lt1 lt2;have st:ZS (k+4) (k+2) (k+3) k (k+1) l1 l2 its1.toArray its2.toArray 0 h2:=by
  refine⟨.inl (hk▸N.zip),hk▸N.its,⟨_,_,hk▸N.own⟩,⟨⟨_,hk▸N.i1,FQ,FQ⟩,Heap.IsTuple.at (show s1.heap.IsTuple l1 its1.toArray from p1) λo q=>N.keep _ o q⟩,⟨⟨_,hk▸N.i2,FQ,FQ⟩,Heap.IsTuple.at (show s1.heap.IsTuple l2 its2.toArray from p2') λo q=>N.keep _ o q⟩⟩
 have hkk:∀i x,its1.toArray[i]?=some x->(Yw X.prog X.w).is ((ks[i]?).getD (.inl 0)) x=true:=λi x hx=>by
  have hi:i<ks.length:=by
   have:=(Array.getElem?_eq_some_iff.mp hx).1;omega
  have hk':ks[i]?=some ks[i]:=by simp[hi]
  have hm':(ks.map kV)[i]?=some (kV ks[i]):=by rw[XM,hk'];rfl
  obtain⟨u,hu,ru⟩:=rv1.get hm';have:u=x:=by
   have e:its1[i]?=some x:=by simpa using hx
   rw[hu] at e;exact YH e
  subst this;rw[hk'];exact Nd ru
 have old:∀b o,s1.heap.get? b=some o->b∉[k+4,k+3,k,k+1]:=λb o q hb=>by
  have:b<k:=hk▸XD q;simp only[ZM,ZN,or_false] at hb
  rcases hb with e | e | e | e
  ·rw[e] at this;exact FM (CK k 4) this
  ·rw[e] at this;exact FM (CK k 3) this
  ·rw[e] at this;exact CY k this
  ·rw[e] at this;exact FM (CK k 1) this
 refine yo (s:={s1 with heap:=h2}) (knd:=Yw X.prog X.w) (I.ok.hd hc) Z (XH lt1) (XH (EK lt2)) (by omega) (λj=>(ks[j]?).getD (.inl 0)) hkk (by omega) s1.heap old N.keep (hk▸N.zip) st λh3 tk3 keep dd=>?_;have hp3:s1.heap.objs.size<=h2.objs.size:=by
  have:=XD (hk▸N.zip:IsZip h2 (k+4) (k+2) (k+3) .none);rw[hk];exact XN (CK _ _) (EF this)
 rw[n1] at dd;have big:(h2.objs.size==sysModules)=false:=beq_eq_false_iff_ne.mpr (Ne.symm (XH (XG I1.big hp3)));have zl:(tS W4 ks ys).length<=sizeLine:=by
  have:=fE (α:=V) (put:=W4) (λa k v=>by unfold W4;split<;>simp) ks ys;exact XN (XN this hsz) (by decide)
 exact⟨.ref _,_,I1.laid (h':=h3) (t':=tk3) keep hp3 (Iu zl big (bN hlen rv2) dd),FQ,q _ (I1.hok.fresh hp3)⟩
end
end L2
namespace WL
open PySem PySem.Spec PyProof.Rows L2
def Zdk (a:WA):WE:=λτ C Q χ=>a τ C (λvs C1=>∃(zs:List Str) (ts:List T),vs=[.tup (zs.map T.str),.tup ts]/\zs.length=ts.length/\zs.length<=1000/\∀p,C1 p=none->Q (.ref p) (up C1 p (.dic (tS Wq (zs.map Sum.inr) ts)))) χ
theorem B5 {K:WY}:∀{zs:List Str} {ys:List V},Reps K H ys (zs.map T.str)->ys=(zs.map (Sum.inr:Str->Yo)).map kV
 | [],_,h=>by rw[X0 h];rfl
 | z::zs,_,h=>by obtain⟨y,r,rfl,a,b⟩:=Jb h;rw[Jo a,B5 b];rfl
def cF {K:WY}(r:Reps K H ys ts):PR K H (tS W4 ks ys) (tS Wq ks ts):=by
 unfold tS;have key:∀(ks:List Yo) (ys:List V) (ts:List T) (a:List (Yo×V)) (b:List (Yo×T)),Reps K H ys ts->PR K H a b->PR K H ((ks.zip ys).foldl (λa kv=>W4 a kv.1 kv.2) a) ((ks.zip ts).foldl (λa kv=>Wq a kv.1 kv.2) b):=by
  intro ks
  induction ks with
  | nil=>intro ys ts a b r h;exact h
  | cons k ks ih=>
   intro ys ts a b r h
   cases ts with
   | nil=>rw[X0 r];exact h
   | cons t ts=>
    obtain⟨y,r',rfl,q,q'⟩:=Jb r;simp only[List.zip_cons_cons,List.foldl_cons];exact ih _ _ _ _ q' (PR.put h q)
 exact key ks ys ts [] [] r .nil
section
variable {X:Cx}{a c:WW}{wA:WA}{p pos p2 pos2:Pos}
def Zbe (hc:X.calm=true)(hg:Gl X "dict")(hm:X.mg "dict"=none)(hg2:Gl X "zip")(hm2:X.mg "zip"=none)(ha:yw X [a,c] wA)(hs:autoParam (starEach [a,c] X.env=(false,eval a X.env)::starEach [c] X.env) QzR)(hp:autoParam ((backTo pos2 (starEach [c] X.env)).any (·.1)=false) QzR)
  (hs2:autoParam (starEach [.Call (.Name "zip" p2) [a,c] [] pos2] X.env=[(false,eval (.Call (.Name "zip" p2) [a,c] [] pos2) X.env)]) QzR):Ji X (.Call (.Name "dict" p) [.Call (.Name "zip" p2) [a,c] [] pos2] [] pos) (Zdk wA):=by
 obtain⟨t,p1,s⟩:=ha;refine⟨_,xQ hc hg hm hg2 hm2 p1 hs hp hs2,λF H C σ τ Q Q' χ R S h q=>?_⟩;refine s F H C σ τ _ _ χ R S h λxs vs H1 C1 R1 t1 rs h1=>?_;obtain⟨zs,ts,rfl,hl,hz,h1⟩:=h1;obtain⟨x1,r1,rfl,q1,rs⟩:=Jb rs;obtain⟨x2,r2,rfl,q2,rs⟩:=Jb rs
 cases X0 rs
 obtain⟨a1,ys1,rfl,sq1,e1⟩:=Yp q1;obtain⟨a2,ys2,rfl,sq2,e2⟩:=Yp q2
 cases B5 e1
 refine⟨a1,a2,zs.map Sum.inr,ys2,FQ,sq1,sq2,by rw[XI,e2.length];exact hl,by rw[XI];exact hz,λpp hpp=>?_⟩;have tn:Tx H1 (Je H1 pp (.dK (tS W4 (zs.map Sum.inr) ys2))):=Tx.new hpp;exact q _ _ _ _ (R1.new (o:=.dic (tS Wq (zs.map Sum.inr) ts)) hpp ⟨_,Yq,Eo tn (cF e2)⟩) (t1.trans tn) Jm (h1 pp (R1.free hpp))
end
end WL
namespace L2
open PySem PySem.Spec PyProof.Rows
section
variable {X:Cx}
def Zc2 (te:TE):TE:=λσ H Q=>te σ H λx H1=>(∃z:Str,x=.str z/\z.length<=sizeLine/\Q (.str z) H1)\/∃i:Int,x=.int i/\i.natAbs.log2<1920/\Q (.str (toString i)) H1
def cK (h:PE X e te):PE X (.FormattedValue e (-1) none pos) (Zc2 te):=by
 intro WZ s σ H Q I q;refine FormattedValue_plain (Js (h WZ s σ H _ I q) λu s1 zZ=>?_);obtain⟨x,H1,I1,rx,q1⟩:=zZ
 rcases q1 with⟨z,rfl,hz,q1⟩ | ⟨i,rfl,hi,q1⟩
 ·obtain⟨t,rfl⟩:=rx;exact formatField_str (λt' tk=>⟨.str z,H1,I1.tok _,⟨t',FQ⟩,q1⟩) hz
 ·obtain⟨t,rfl⟩:=rx;exact formatField_int_small hi ⟨.str (toString i),H1,I1.tok _,⟨_,FQ⟩,q1⟩
def tJ:List TE->Str->TE
 | [],out=>λ_ H Q=>Q (.str out) H
 | t::ts,out=>λσ H Q=>t σ H λx H1=>∃z:Str,x=.str z/\(out++z).length<=sizeLine/\tJ ts (out++z) σ H1 Q
inductive eY (X:Cx):List Expr->List TE->Prop
 | nil:eY X [] []
 | cons {e:WW} {es:List WW} {t:TE} {ts:List TE} (h:PE X e t) (r:eY X es ts):eY X (e::es) (t::ts)
def pj (h:eY X es ts):∀{WZ:List (WP×Obj)} {s:WR} {σ:St} {H:Hp} {Q:VK} {out:Str},out.length<=sizeLine->Z2 X WZ σ H s->tJ ts out σ H Q->wpAny (model X.prog X.w) X.A (joinParts out (evalEach es X.env)) (EP X WZ σ Q) X.xe s:=by
 induction h with
 | nil=>
  intro WZ s σ H Q out ho I q;exact joinParts_nil ⟨.str out,H,I.tok _,⟨_,FQ⟩,q⟩ ho
 | @cons e es t ts h r ih=>
  intro WZ s σ H Q out ho I q;show wpAny _ _ (joinParts out (eval e X.env::evalEach es X.env)) _ _ s;refine joinParts_cons (Js (h WZ s σ H _ I q) λu s1 zZ=>?_);obtain⟨x,H1,I1,rx,z,ex,hz,q1⟩:=zZ;subst ex;obtain⟨t',rfl⟩:=rx;exact⟨hz,ih hz I1 q1⟩
def uF {v1 v2:WW}{Y4:List WW}(h:eY X (v1::v2::Y4) ts):PE X (.JoinedStr (v1::v2::Y4) pos) (tJ ts Str.empty):=by
 intro WZ s σ H Q I q;exact JoinedStr_many (pj h (XO _) I q)
end
end L2
namespace WL
open PySem PySem.Spec PyProof.Rows L2
def Zdj (e:WE):WE:=λτ C Q χ=>e τ C (λx C1=>(∃z:Str,x=.str z/\z.length<=sizeLine/\Q (.str z) C1)\/∃i:Int,x=.int i/\i.natAbs.log2<1920/\Q (.str (toString i)) C1) χ
def eJ:List WE->Str->WE
 | [],out=>λ_ C Q _=>Q (.str out) C
 | w::ws,out=>λτ C Q χ=>w τ C (λv C1=>∃z:Str,v=.str z/\(out++z).length<=sizeLine/\eJ ws (out++z) τ C1 Q χ) χ
section
variable {X:Cx}{e k v:WW}{we wk wv:WE}{pos:Pos}
def bV (he:Ji X e we):Ji X (.FormattedValue e (-1) none pos) (Zdj we):=by
 obtain⟨t,p,s⟩:=he;refine⟨_,cK p,λF H C σ τ Q Q' χ R S h q=>?_⟩;refine s F H C σ τ _ _ χ R S h λx u H1 C1 R1 t1 rx h1=>?_
 rcases h1 with⟨z,rfl,hz,h1⟩ | ⟨i,rfl,hi,h1⟩
 ·cases Jo rx
  exact .inl ⟨z,FQ,hz,q _ _ H1 C1 R1 t1 Jw h1⟩
 ·cases Ye rx
  exact .inr ⟨i,FQ,hi,q _ _ H1 C1 R1 t1 Jw h1⟩
def aF (X:Cx)(es:List WW)(ws:List WE):Prop:=∃ts,eY X es ts/\∀(out:Str),W3 X.K (tJ ts out) (eJ ws out)
def fG:aF X [] []:=⟨[],.nil,λout F H C σ τ Q Q' χ R S h q=>q _ _ H C R (Tx.refl H) Jw h⟩
def yd (he:Ji X e we)(hr:aF X es ws):aF X (e::es) (we::ws):=by
 obtain⟨t,p,s⟩:=he;obtain⟨ts,ps,ss⟩:=hr;refine⟨t::ts,.cons p ps,λout F H C σ τ Q Q' χ R S h q=>?_⟩;refine s F H C σ τ _ _ χ R S h λx u H1 C1 R1 t1 rx h1=>?_;obtain⟨z,rfl,hz,h1⟩:=h1
 cases Jo rx
 exact⟨z,FQ,hz,ss (out++z) F H1 C1 σ τ _ _ χ R1 (S.tx t1) h1 (QE.at q t1)⟩
def oh {v1 v2:WW}{Y4:List WW}(h:aF X (v1::v2::Y4) ws):Ji X (.JoinedStr (v1::v2::Y4) pos) (eJ ws Str.empty):=by
 obtain⟨ts,ps,ss⟩:=h;exact⟨_,uF ps,ss _⟩
def fC (k v:WE):WE:=λτ C Q χ=>∀p,C p=none->k τ (up C p (.dic [])) (λx C1=>v τ C1 (λy C2=>∃kk,kT x=some kk/\C2 p=some (.dic [])/\Q (.ref p) (up C2 p (.dic [(kk,y)]))) χ) χ
def lQ (hk:Ji X k wk)(hv:Ji X v wv):Ji X (.Dict [some k] [v] pos) (fC wk wv):=by
 obtain⟨tk,p1,s1⟩:=hk;obtain⟨tv,p2,s2⟩:=hv;refine⟨_,v8 (jc p1 p2 v7) FQ FQ (by simp) (by simp),λF H C σ τ Q Q' χ R S h q=>?_⟩;intro p hp;have tn:Tx H (Je H p (.dK [])):=Tx.new hp;have R0:Rl X.K F (Je H p (.dK [])) (up C p (.dic [])):=R.new hp ⟨[],Yq,.nil⟩;refine s1 F _ _ σ τ _ _ χ R0 (S.tx tn) (h p (R.free hp)) λx u H1 C1 R1 t1 rx h1=>?_;refine s2 F H1 C1 σ τ _ _ χ R1 (S.tx (tn.trans t1)) h1 λy u2 H2 C2 R2 t2 ry h2=>?_;obtain⟨kk,hk,hC,h2⟩:=h2;obtain⟨ks,hH,pr⟩:=R2.dic hC
 cases pr
 have ex:x=kV kk:=Rz hk rx;subst ex;have tp:Tx H2 (Je H2 p (.dK [(kk,y)])):=Tx.put hH (λz=>z);obtain⟨R3,t3⟩:=R2.put (u:=.dK [(kk,y)]) (o':=.dic [(kk,u2)]) hC ⟨_,Yq,.cons ⟨FQ,ry.tx tp⟩ .nil⟩;exact⟨hH,[(kk,y)],FQ,by simp,q _ _ _ _ R3 (((tn.trans t1).trans t2).trans t3) Jm h2⟩
end
end WL
namespace L2
open PySem PySem.Spec PyProof.Rows
section
variable {X:Cx}
def nX:V->List V->Hp->VK->Prop:=λx vs H Q=>∃l xs i y,x=.ref l/\vs=[.int i,y]/\H l=some (.lst xs)/\0<=i/\i.toNat<=xs.length/\xs.length<sizeLine/\Q .non (Je H l (.lst (xs.take i.toNat++y::xs.drop i.toNat)))
def fj {its:List WQ}{w:WQ}{i:Int}{k:Nat}(h0:0<=i)(hk:i.toNat=k)(hl:k<=its.length):
  (its.toArray.extract 0 (if i<0 then(i+(its.toArray.size:Int)).toNat else min i.toNat its.toArray.size)).push w++its.toArray.extract (if i<0 then(i+(its.toArray.size:Int)).toNat else min i.toNat its.toArray.size)=(its.take k++w::its.drop k).toArray:=by
 rw[XX (by omega),hk,XJ,Nat.min_eq_left hl];apply Array.toList_inj.mp;simp;exact EO (by rw[ER];omega)
def uK:ao X "list.insert" nX:=by
 intro WZ s σ H x vs v us Q I rx rv h;obtain⟨l,xs,i,y,rfl,rfl,hH,h0,hk,hz,q⟩:=h
 cases rx
 obtain⟨u,w,rfl,ru,rw'⟩:=rv.two;obtain⟨t,rfl⟩:=ru;obtain⟨z,its,n,r,hl,e⟩:=I.lstM hH;have hfit:Builtin.List.listFitsIndex i=true:=by
  have h1: -(2^63:Int)<=i:=by omega
  have h2:i<2^63:=by
   have:sizeLine<2^63:=by decide
   omega
  exact fitsIndex_both h1 h2
 refine call_meets F.slot_list_insert ⟨_,e,FQ⟩ F.entry_list_insert (F.args_list_insert_3 _ _ _) (PySem.AutoSeq1.list_insert_list_int_val_1 l its.toArray n i t w (by simp[hfit]) (by rw[List.size_toArray];omega)) ⟨e,?_⟩;refine⟨.non,_,I.lset (its':=its.take i.toNat++w::its.drop i.toNat) hH e (fj h0 FQ (by omega)) ((r.take i.toNat).append (.cons rw' (r.drop i.toNat))) ?_,FQ,q⟩;simp;omega
end
end L2
namespace WL
open PySem PySem.Spec PyProof.Rows L2
section
variable {X:Cx}
def mZ:T->List T->Hw->WK->Prop:=λx vs C Q=>∃a xs i y,x=.ref a/\vs=[.int i,y]/\C a=some (.lst xs)/\0<=i/\i.toNat<=xs.length/\xs.length<sizeLine/\Q .non (up C a (.lst (xs.take i.toNat++y::xs.drop i.toNat)))
def jp:iq X "list.insert" mZ:=⟨_,uK,λF H C x v xs vs Q Q' R rx rs h q=>by
 obtain⟨a,ts,i,y,rfl,rfl,hx,h0,hk,hl,h⟩:=h
 cases Z7 rx
 obtain⟨z1,z2,rfl,r1,r2⟩:=xT rs
 cases Ye r1
 obtain⟨ys,hy,r⟩:=R.lst hx;obtain⟨R',t⟩:=R.putL hx ((r.take i.toNat).app (Yn r2 (r.drop i.toNat)));exact⟨a,ys,i,z2,FQ,FQ,hy,h0,by rw[r.length];exact hk,by rw[r.length];exact hl,q _ _ _ _ R' t V0 h⟩⟩
end
end WL
namespace L2
open PySem PySem.Spec PyProof.Rows
open AutoSeq1 (wpAny_loadPart')
set_option tactic.hygienic true
def ji (l:WP)(items:Array WQ)(t:Tok):
  Meets (Builtin.«enumerate.__new__» ⟨[.type "enumerate",.ref l],[("start",.int 1 t)]⟩) (λ_ R s=>s.heap.IsTuple l items/\
   R (.ok (.ret (.ref (s.heap.push {cls:=.type "tuple_iterator",data:=.fields #[.ref l,.int 0 0]}).objs.size)))
    {s with heap:=(s.heap.push {cls:=.type "tuple_iterator",data:=.fields #[.ref l,.int 0 0]}).push {cls:=.type "enumerate",data:=.fields #[.none,.bool false,.ref s.heap.objs.size,rawInt 1,.none,.none]}}):=
 .of_wp λprog w A R s h=>by
  obtain⟨hp,g,d,tk,os⟩:=s;obtain⟨hL,h⟩:=h;have hsub:=sub_enumerate
  wp_walk
  refine wpAny_stack_any λst=>XB ?_
  split
  ·rename_i c _ _ _ _ _
   cases (c==Value.type "enumerate")
   ·wp_walk using wpAny_pyIter_tuple hL
    exact⟨_,FQ,h⟩
   ·wp_walk using wpAny_pyIter_tuple hL
    exact⟨_,FQ,h⟩
  ·wp_walk using wpAny_pyIter_tuple hL
   exact⟨_,FQ,h⟩
def jj (l:WP)(items:Array WQ):
  Meets (Builtin.«enumerate.__new__» ⟨[.type "enumerate",.ref l],[]⟩) (λ_ R s=>s.heap.IsTuple l items/\
   R (.ok (.ret (.ref (s.heap.push {cls:=.type "tuple_iterator",data:=.fields #[.ref l,.int 0 0]}).objs.size)))
    {s with heap:=(s.heap.push {cls:=.type "tuple_iterator",data:=.fields #[.ref l,.int 0 0]}).push {cls:=.type "enumerate",data:=.fields #[.none,.bool false,.ref s.heap.objs.size,rawInt 0,.none,.none]}}):=
 .of_wp λprog w A R s h=>by
  obtain⟨hp,g,d,tk,os⟩:=s;obtain⟨hL,h⟩:=h;have hsub:=sub_enumerate
  wp_walk
  refine wpAny_stack_any λst=>XB ?_
  split
  ·rename_i c _ _ _ _ _
   cases (c==Value.type "enumerate")
   ·wp_walk using wpAny_pyIter_tuple hL
    exact⟨_,FQ,h⟩
   ·wp_walk using wpAny_pyIter_tuple hL
    exact⟨_,FQ,h⟩
  ·wp_walk using wpAny_pyIter_tuple hL
   exact⟨_,FQ,h⟩
set_option tactic.hygienic false
def om (a:WQ)(t:Tok):checkTypeCall "enumerate" ⟨[a],[("start",.int 1 t)]⟩=pure ():=by kernel_rfl
def oo (a:WQ)(t:Tok):checkBuiltinCall "enumerate.__new__" ⟨[.type "enumerate",a],[("start",.int 1 t)]⟩=pure ():=by kernel_rfl
def wz {self a:WQ}:Meets (Builtin.«object.__init__» ⟨[self,a],[("start",.int 1 t)]⟩) (λ_ R s=>s.TypeIs self "enumerate"/\R (.ok (.ret .none)) s):=by
 refine Meets.of_wp λprog w A R s hs=>?_;obtain⟨hT,hq⟩:=hs;have hl:=F.called_enumerate.init.lookup;have hm:=F.called_enumerate.made;have hne:(some "enumerate.__new__" !=some "object.__new__")=true:=by decide
 repeat (any_goals (first | assumption | wp_step))
 exact⟨_,FQ,hq⟩
section
variable {prog:WO}{w:WN}{A:WM}{E:WQ->WR->Prop}{s:WR}
def oB (obj a:WQ)(t:Tok):argsOk "object.__init__" ⟨[obj,a],[("start",.int 1 t)]⟩:=by
 unfold argsOk;rw[signature?_of (id:="object.__init__") (n:=['_','_','t','i','n','i','_','_']) (o:=['t','c','e','j','b','o']) (by kernel_rfl) F.owner_object];kernel_rfl
def jV {a:WQ}{Q:WQ->WR->Prop}(g:Meets (Builtin.«enumerate.__new__» ⟨[.type "enumerate",a],[("start",.int 1 t)]⟩) S)
  (h:S A.in1 (wants (λobj s₁=>s₁.TypeIs obj "enumerate"/\Q obj s₁) E) s):wpAny (model prog w) A (call (.type "enumerate") [a] [("start",.int 1 t)]) Q E s:=by
 have ft:=F.called_enumerate;obtain⟨c,tl,hmro⟩:=ft.mro;have hmade:=ft.made;have hsub:=ft.sub;have hct:=om a t;refine wpAny_call (codeAny_of_tree ?_);show wpAny _ _ (callAny (.type "enumerate") _) _ _ _;refine XB ⟨Code.quiet_builtin _ (by decide+kernel),codeAny_builtin F.entry_type_call ?_⟩;rw[Around.under_plain (weight_type_call_type "enumerate" [a] [("start",.int 1 t)]) (units_type_call_type "enumerate" [a] [("start",.int 1 t)])];have h1:=ft.notType;have h2:=ft.canCreate
 repeat (any_goals (first | assumption | wp_step))
 refine codeAny_mono (codeAny_call_builtin ft.plain F.entry_enumerate_new (wpAny_of_eq (oo a t) (g prog w A.in1 _ s h))) λr s₁ hr=>?_
 cases r with
 | error e=>exact hr
 | ok fl=>
  cases fl with
  | ret obj=>
   have hT:=hr.1;have hli:=ft.init.lookup;have hbi:=ft.init.bind obj
   repeat (any_goals (first | assumption | wp_step))
   refine codeAny_mono (codeAny_call_builtin ft.init.plain F.entry_object_init (ft.init.check _ _ _ _ _ _ _ _ hT (oB obj a t) (wz prog w A.in1 (wants (λr s₂=>r=.none/\Q obj s₂) E) s₁ ⟨hT,FQ,hr.2⟩))) λr₂ s₂ hr₂=>?_
   cases r₂ with
   | error e=>exact hr₂
   | ok fl₂=>
    cases fl₂ with
    | ret r=>
     obtain⟨rfl,hq⟩:=hr₂
     repeat (any_goals (first | assumption | wp_step))
    | _=>exact hr₂.elim
  | _=>exact hr.elim
def wO {t:Tok}{Q:WQ->WR->Prop}(hL:s.heap.IsTuple l items)
  (h:∀h',IsEnum h' (s.heap.objs.size+1) s.heap.objs.size 1 .none->h'.IsTupleIter s.heap.objs.size l 0->h'.objs.size=s.heap.objs.size+2->
   (∀b o,s.heap.get? b=some o->h'.get? b=some o)->Q (.ref (s.heap.objs.size+1)) {s with heap:=h'}):
  wpAny (model prog w) A (call (.type "enumerate") [.ref l] [("start",.int 1 t)]) Q E s:=by
 refine jV (ji l items t) ⟨hL,?_⟩;have hz:(s.heap.push {cls:=.type "tuple_iterator",data:=.fields #[.ref l,.int 0 0]}).objs.size=s.heap.objs.size+1:=CL ..;show _/\_;rw[hz];have he:IsEnum ((s.heap.push {cls:=.type "tuple_iterator",data:=.fields #[.ref l,.int 0 0]}).push
   {cls:=.type "enumerate",data:=.fields #[.none,.bool false,.ref s.heap.objs.size,rawInt 1,.none,.none]}) (s.heap.objs.size+1) s.heap.objs.size 1 .none:=by
  have:=XF (s.heap.push {cls:=.type "tuple_iterator",data:=.fields #[.ref l,.int 0 0]})
   (o:={cls:=.type "enumerate",data:=.fields #[.none,.bool false,.ref s.heap.objs.size,rawInt 1,.none,.none]}) FQ
  rw[hz] at this;exact this
 refine⟨⟨_,he,FQ⟩,h _ he ⟨_,XC _ (XF _ FQ),FQ,FQ⟩ (by rw[CL,hz]) λb o x=>XC _ (XC _ x)⟩
def wP {Q:WQ->WR->Prop}(hL:s.heap.IsTuple l items)
  (h:∀h',IsEnum h' (s.heap.objs.size+1) s.heap.objs.size 0 .none->h'.IsTupleIter s.heap.objs.size l 0->h'.objs.size=s.heap.objs.size+2->
   (∀b o,s.heap.get? b=some o->h'.get? b=some o)->Q (.ref (s.heap.objs.size+1)) {s with heap:=h'}):
  wpAny (model prog w) A (call (.type "enumerate") [.ref l]) Q E s:=by
 refine callType_new PySem.F.called_enumerate (by decide) (PySem.F.typeCall_enumerate_1 _) (PySem.F.newCall_enumerate_1 _) (λobj=>PySem.F.args_object_init_2 obj _) PySem.F.entry_enumerate_new (jj l items) ⟨hL,?_⟩;have hz:(s.heap.push {cls:=.type "tuple_iterator",data:=.fields #[.ref l,.int 0 0]}).objs.size=s.heap.objs.size+1:=CL ..;show _/\_;rw[hz];have he:IsEnum ((s.heap.push {cls:=.type "tuple_iterator",data:=.fields #[.ref l,.int 0 0]}).push
   {cls:=.type "enumerate",data:=.fields #[.none,.bool false,.ref s.heap.objs.size,rawInt 0,.none,.none]}) (s.heap.objs.size+1) s.heap.objs.size 0 .none:=by
  have:=XF (s.heap.push {cls:=.type "tuple_iterator",data:=.fields #[.ref l,.int 0 0]})
   (o:={cls:=.type "enumerate",data:=.fields #[.none,.bool false,.ref s.heap.objs.size,rawInt 0,.none,.none]}) FQ
  rw[hz] at this;exact this
 refine⟨⟨_,he,FQ⟩,h _ he ⟨_,XC _ (XF _ FQ),FQ,FQ⟩ (by rw[CL,hz]) λb o x=>XC _ (XC _ x)⟩
def jN (z:Nat){P:Nat->WQ->Prop}{St:Nat->WU->Prop}(D:Draws prog w A it fp n P St):
  Draws prog w A it fp (n+z) (λi v=>∃j,i=j+z/\P j v) (λi h=>∃j,i=j+z/\St j h) where
 live:=λ_ _ ⟨_,_,st⟩=>D.live _ _ st
 frame:=λ_ _ _ ⟨j,e,st⟩ k=>⟨j,e,D.frame _ _ _ st k⟩
 item:=λi s Q E hi ⟨j,e,st⟩ hQ=>by
  subst e;exact D.item j s Q E (by omega) st λx h' tk hp st' hs=>hQ x h' tk ⟨j,FQ,hp⟩ ⟨j+1,by omega,st'⟩ hs
 done:=λs Q E ⟨j,e,st⟩ hE=>by
  have:j=n:=by omega
  subst this;exact D.done s Q E st hE
end
def It1 (z:Nat)(K:WY)(l:WP):It:=
 ⟨λi H=>∃xs,U8 K H l xs/\i<xs.length,
  λi H x H'=>∃u T,(∀xs,U8 K H l xs->xs[i]?=some u)/\x=.ref T/\H T=none/\H'=Je H T (.tup [.int ((i+z:Nat):Int),u]),
  λi H=>∃xs,U8 K H l xs/\i=xs.length⟩
def bc {k l:WP}(h1:l<k):k+1∉[k,l]:=λz=>by
 simp only[ZM,ZN,or_false] at z
 rcases z with z | z
 ·exact Nat.succ_ne_self k z
 ·exact Nat.lt_asymm h1 (z▸DX k)
def yL (z:Nat){P:WO}{w:WN}{K:WY}{elts:List WW}{ek:Nat}{epos:Pos}{k l:WP}(h1:l<k):
  jY P w K (.Tuple elts ek epos) (It1 z K l) [k+1,k] (k+1) (λi h=>(∃old,IsEnum h (k+1) k ((i+z:Nat):Int) old)/\h.IsTupleIter k l i) where
 mem:=by simp
 obj:=λi h st c hc=>by
  obtain⟨⟨old,a1⟩,a4⟩:=st;simp only[ZM,ZN,or_false] at hc
  rcases hc with rfl | rfl
  ·exact⟨_,a1,λv y=>by have y':Data.fields _=Data.cell v:=y;cases y'⟩
  ·obtain⟨o,e,c,d⟩:=a4;exact⟨o,e,λv z=>by rw[d] at z;cases z⟩
 keep:=λi h h' st kp=>by
  obtain⟨⟨old,a1⟩,a4⟩:=st;exact⟨⟨old,kp _ (by simp) _ a1⟩,a4.at λo e=>kp _ (by simp) o e⟩
 item:=by
  intro X hP hw hK hc i WZ s σ H E I hf st hg;subst hP hw hK;obtain⟨xs,hq1,hi⟩:=hg;obtain⟨its1,rv1,p1,_⟩:=I.tuple hq1;obtain⟨a1,a4⟩:=st;have hn1:its1.toArray.size=xs.length:=by rw[XJ,rv1.length]
  have D1:=Ub (prog:=X.prog) (w:=X.w) (A:=X.A.in1) (I.ok.hd hc) k l (XH h1) its1.toArray;rw[hn1] at D1;have W:=WalksT.enumerateD (jN z D1) (k+1) (Nat.succ_ne_self k) (bc h1) (by simp);refine W.item (i+z) s _ _ (by omega) ⟨a1,i,FQ,a4,p1⟩ λT vals h' tk hv hT htup hm kk=>?_;obtain⟨t,x,⟨j,ej,hx⟩,rfl⟩:=hv;have ej':j=i:=by omega
  subst ej';refine⟨_,rfl,W.go elts ek epos (j+z) T {s with heap:=h',toks:=tk} _ _ hm λh2 st2 kk2=>?_⟩;have hu:xs[j]?=some xs[j]:=by simp[hi]
  obtain⟨u1,e1,r1⟩:=rv1.get hu;have ex:x=u1:=by
   have:its1[j]?=some x:=by simpa using hx
   rw[e1] at this;exact(YH this).symm
  subst ex;have hTn:H T=none:=I.hok.fresh hT;have hTw:T∉[k+1,k]:=W.apart (j+z) T h' hm;have k2:∀c o,c∉[k+1,k]->s.heap.get? c=some o->h2.get? c=some o:=λc o hb q=>kk2 c o hb (kk c o hb q);have htup2:IsTup h2 T #[.int ((j+z:Nat):Int) t,x]:=by
   obtain⟨o,ho,r⟩:=htup;exact⟨o,kk2 T o hTw ho,r⟩
  have hfp:∀c∈[k+1,k],H c=none:=λc hb=>(hf c hb).1;have hne:∀c,c<s.heap.objs.size->c≠T:=λc hb=>XH (XG hb hT);have tracked:∀c u,H c=some u->c≠T/\c∉[k+1,k]:=λc u q=>⟨hne c (I.hok.lt q),λz=>by rw[hfp c z] at q;cases q⟩;have I1:Z2 X WZ σ (Je H T (.tup [.int ((j+z:Nat):Int),xs[j]])) {s with heap:=h2,gens:=s.gens,drawn:=s.drawn,toks:=tk}:=by
   refine I.step (ch:=[k+1,k]) (λc hb=>?_) (λc o _ _ hc q _=>k2 c o hc q) (λc o _ _ hc q _=>⟨o.slots,k2 c o hc q⟩) (λc o hc q n=>by rw[Yd (hne c (XD q))];exact n) (λc o hc q=>⟨o,k2 c o hc q⟩)
    (λc xs q=>by rw[Yd (tracked c _ q).1];exact q) (λc o u q=>by rw[Yd (tracked c _ q).1];exact q) (λc ps q=>⟨#[],by rw[Yd (tracked c _ q).1,q];simp⟩) (λm hm=>?_) (λc u q=>?_) I.bare
   ·obtain⟨f0,f1,f2,f3,f4,f5⟩:=hf c hb;exact⟨f3,f1,f4,f5⟩
   ·obtain⟨o,es,ep,ho,r⟩:=hm;exact⟨o,es,ep,k2 _ o (λz=>(hf _ z).2.1 FQ) ho,r⟩
   ·by_cases hb:c=T
    ·subst hb;rw[Yq] at q;cases q;exact⟨XN (by decide:2<=1000) (EF (B2 (XE _))),[.int ((j+z:Nat):Int) t,x],.cons ⟨t,FQ⟩ (.cons r1 .nil),htup2⟩
    ·rw[Yd hb] at q;refine(I.hok c u q).stay (λd v hd r=>k2 d v ?_ r) (λd r=>by rw[Yd (tracked d _ r).1];exact r) λd xs r=>by rw[Yd (tracked d _ r).1];exact r
     rcases hd with rfl | hd
     ·exact(tracked d _ q).2
     ·exact(tracked d _ hd).2
  obtain⟨b1,j2,ej2,b4,_⟩:=st2;have ej3:j2=j+1:=by omega
  subst ej3;have ez:j+z+1=j+1+z:=by omega
  rw[ez] at b1;refine⟨.ref T,_,I1,FQ,⟨_,T,λzs hz=>by rw[I.tuple_inj hz hq1];exact hu,FQ,hTn,FQ⟩,⟨b1,b4⟩,λc hb=>?_⟩;have hbT:c≠T:=λz=>hTw (by rw[<-z];exact hb);rw[Yd hbT];exact hfp c hb
 done:=by
  intro X hP hw hK hc i WZ s σ H E I hf st hg;subst hP hw hK;obtain⟨xs,hq1,hi⟩:=hg;obtain⟨its1,rv1,p1,_⟩:=I.tuple hq1;obtain⟨a1,a4⟩:=st;have hn1:its1.toArray.size=xs.length:=by rw[XJ,rv1.length]
  have D1:=Ub (prog:=X.prog) (w:=X.w) (A:=X.A.in1) (I.ok.hd hc) k l (XH h1) its1.toArray;rw[hn1] at D1;subst hi;have W:=WalksT.enumerateD (jN z D1) (k+1) (Nat.succ_ne_self k) (bc h1) (by simp);refine W.done s _ _ ⟨a1,_,FQ,a4,p1⟩ λh' tk kk=>⟨FQ,?_⟩;exact I.step (g':=s.gens) (d':=s.drawn) (ch:=[k+1,k]) (λb hb=>let ⟨f0,f1,f2,f3,f4,f5⟩:=hf b hb;⟨f3,f1,f4,f5⟩) (λb o _ _ hc q _=>kk b o hc q) (λb o _ _ hc q _=>⟨o.slots,kk b o hc q⟩) (λb o _ _ n=>n) (λb o hc q=>⟨o,kk b o hc q⟩)
    (λ_ _ q=>q) (λ_ _ _ q=>q) (λb ps q=>⟨#[],by rw[q];simp⟩) (λm hm=>let ⟨o,es,ep,ho,r⟩:=hm;⟨o,es,ep,kk _ o (λz=>(hf _ z).2.1 FQ) ho,r⟩)
    (λb u q=>(I.hok b u q).stay (λd v hd r=>kk d v (λz=>by
     rcases hd with rfl | hd
     ·rw[(hf _ z).1] at q;cases q
     ·rw[(hf _ z).1] at hd;cases hd) r) (λ_ r=>r) λ_ _ r=>r) I.bare
 self:=λA i s Q E st h=>by
  obtain⟨⟨old,he⟩,_⟩:=st;exact wpAny_pyIter_enum he h
def Dt {M:Model}{A:WM}{E:WQ->WR->Prop}{s:WR}{pos:Pos}{T:String}{args:List (Bool×Sem WQ)}{keywords:List (Option Str×Sem WQ)}{Q:WQ->WR->Prop}
  (hplain:args.any (·.1)=false) (hkw:keywords.any (·.1.isNone)=false)
  (h:wpAny M A (evalArgs (.type T) true args keywords) (λa s₁=>wpAny M A (call (.type T) a.pos a.kw) Q E s₁) E s):
  wpAny M A (callWith pos (.type T) [] args keywords) Q E s:=by
 unfold callWith;refine XA (wpAny_holding (wpAny_mono h (λa s₁ h₁=>XA (wpAny_standAt ?_)) λ_ _ x=>x));simp only[hplain,hkw,Bool.or_false];refine XA (XB ?_);exact XA (wpAny_mono h₁ (λr s₂ hr=>XA (wpAny_holding (wpAny_point (XB hr)))) λ_ _ x=>x)
section
variable {X:Cx}{elts:List WW}{ek:Nat}{epos:Pos}
def pJ (I:Z2 X WZ σ H s):∀b∈[s.heap.objs.size+1,s.heap.objs.size],Mq X WZ H b:=λb hb=>by
 have e:s.heap.objs.size<=b:=by
  rcases CH.mp hb with e | hb
  ·omega
  ·have e:b=s.heap.objs.size:=by simpa using hb
   omega
 exact I.fpOk e (I.hok.fresh e)
def fm (K:WY)(ta:TA):TI:=λσ H R=>ta σ H λvs H1=>∃(l:WP) (xs:List V),vs=[.ref l]/\U8 K H1 l xs/\R (It1 1 K l) H1
def gh {a:WW}{p pos kp kc:Pos}{j:Nat}(hg:Gl X "enumerate")(hm:X.mg "enumerate"=none)(ha:PA X [a] ta)
  (hs:autoParam (starEach [a] X.env=[(false,eval a X.env)]) QzR) (hb:autoParam (bootBuiltins "enumerate"=some (.type "enumerate")) QzK)
  (he:autoParam (eval (.Call (.Name "enumerate" p) [a] [⟨some "start",.Constant (.int 1) j kc,kp⟩] pos) X.env=(do callWith pos (<-eval (.Name "enumerate" p) X.env) [] (backTo pos (starEach [a] X.env)) (backToKw pos (keywordEach [⟨some "start",.Constant (.int 1) j kc,kp⟩] X.env)))) QzR):
  PI X (.Tuple elts ek epos) (.Call (.Name "enumerate" p) [a] [⟨some "start",.Constant (.int 1) j kc,kp⟩] pos) (fm X.K ta):=by
 intro WZ s σ H R I h;rw[he];refine XA (Vo I hg hm hb ?_);refine Dt (by rw[hs];rfl) FQ ?_;have hargs:backTo pos (starEach [a] X.env)=(false,eval a X.env)::backTo pos []\/True:=.inr trivial;have key:wpAny (model X.prog X.w) X.A (spliced (backTo pos (starEach [a] X.env))) (λvs s₁=>wpAny (model X.prog X.w) X.A (evalAll ((backToKw pos (keywordEach [⟨some "start",.Constant (.int 1) j kc,kp⟩] X.env)).map (·.2)))
   (λkvs s₂=>wpAny (model X.prog X.w) X.A (call (.type "enumerate") vs ((backToKw pos (keywordEach [⟨some "start",.Constant (.int 1) j kc,kp⟩] X.env)).filterMap (·.1)|>.zip kvs)) (λv s1=>wpAny (model X.prog X.w) X.A (pyIter v) (ah X WZ σ (.Tuple elts ek epos) R) X.xe s1) X.xe s₂) X.xe s₁) X.xe s:=by
  refine Js (ha pos WZ s σ H _ I h) λus s1 zZ=>?_;obtain⟨vs,H1,I1,r1,q1⟩:=zZ;refine kws_cons ?_;refine Js (ql (X:=X) WZ s1 σ H1 (λv H2=>v=.int 1/\H2=H1) I1 ⟨FQ,FQ⟩) λu s2 zZ=>?_;obtain⟨v,H2,I2,r2,ev,eH⟩:=zZ;subst ev eH;obtain⟨t,rfl⟩:=r2;refine kws_nil ?_;obtain⟨l,xs,rfl,hq,q⟩:=q1;obtain⟨w,rfl,rw'⟩:=r1.one
  cases rw'
  obtain⟨its,rv,pt,_⟩:=I2.tuple hq;have lt:l<s2.heap.objs.size:=by obtain⟨_,e,_⟩:=pt;exact XD e
  show wpAny _ _ (call (.type "enumerate") [.ref l] [("start",.int 1 t)]) _ _ s2;refine wO pt λh' he hit hsz kk=>?_;have I3:Z2 X WZ σ H2 {s2 with heap:=h',toks:=s2.toks}:=I2.kept kk;refine wpAny_pyIter_enum (s:={s2 with heap:=h'}) he ?_;exact⟨_,_,_,_,H2,FQ,I3,yL 1 lt,⟨⟨_,he⟩,hit⟩,pJ I2,q⟩
 rw[hs] at key |-;exact evalArgs_kwB FQ key
def Za4 (K:WY)(ta:TA):TI:=λσ H R=>ta σ H λvs H1=>∃(l:WP) (xs:List V),vs=[.ref l]/\U8 K H1 l xs/\R (It1 0 K l) H1
def gi {a:WW}{p pos:Pos}(hg:Gl X "enumerate")(hm:X.mg "enumerate"=none)(ha:PA X [a] ta)(hs:autoParam (starEach [a] X.env=[(false,eval a X.env)]) QzR)(hb:autoParam (bootBuiltins "enumerate"=some (.type "enumerate")) QzK):
  PI X (.Tuple elts ek epos) (.Call (.Name "enumerate" p) [a] [] pos) (Za4 X.K ta):=by
 intro WZ s σ H R I h;refine Call_ (Vo I hg hm hb (BZ (Js (ha pos WZ s σ H _ I h) λus s2 zZ=>?_) hs FQ));obtain⟨vs,H2,I2,r1,q1⟩:=zZ;obtain⟨l,xs,rfl,hq,q⟩:=q1;obtain⟨w,rfl,rw'⟩:=r1.one
 cases rw'
 obtain⟨its,rv,pt,_⟩:=I2.tuple hq;have lt:l<s2.heap.objs.size:=by obtain⟨_,e,_⟩:=pt;exact XD e
 refine wP pt λh' he hit hsz kk=>?_;have I3:Z2 X WZ σ H2 {s2 with heap:=h',toks:=s2.toks}:=I2.kept kk;refine wpAny_pyIter_enum (s:={s2 with heap:=h'}) he ?_;exact⟨_,_,_,_,H2,FQ,I3,yL 0 lt,⟨⟨_,he⟩,hit⟩,pJ I2,q⟩
end
end L2
namespace WL
open PySem PySem.Spec PyProof.Rows L2
def xV (z:Nat)(xs:List T):List T:=xs.zipIdx.map λc=>T.tup [.int ((c.2+z:Nat):Int),c.1]
abbrev Zat (xs:List T):List T:=xV 1 xs
def Sr:(xV z xs).length=xs.length:=by unfold xV;simp
def z7 {xs:List T}{i:Nat}(h:xs[i]?=some x):(xV z xs)[i]?=some (.tup [.int ((i+z:Nat):Int),x]):=by
 unfold xV;simp[h]
def fm (a:WA):WI:=λτ C R χ=>a τ C (λvs C1=>∃xs,vs=[.tup xs]/\R (Zat xs) (λ_=>True) C1) χ
def Za3 (a:WA):WI:=λτ C R χ=>a τ C (λvs C1=>∃xs,vs=[.tup xs]/\R (xV 0 xs) (λ_=>True) C1) χ
section
variable {X:Cx}{a:WW}{wA:WA}{p pos kp kc:Pos}{j:Nat}
def pi (z:Nat){K:WY}{F H0:Hp}(q1:U8 K H0 l1 ys1)(r1:Reps K H0 ys1 xs):Hy K F H0 (L2.It1 z K l1) (xV z xs) (λ_=>True):=λi H C R t hok=>by
 have q1:=t.sqt q1;have r1':=r1.tx t;have e1:=r1'.length;refine⟨λhi=>?_,λhi=>⟨ys1,q1,by rw[Sr] at hi;omega⟩⟩;rw[Sr] at hi;refine⟨⟨ys1,q1,by omega⟩,λx H' h=>?_⟩;obtain⟨u,Tt,hu,rfl,hT,rfl⟩:=h;obtain⟨x,hx,rx⟩:=r1'.get' (hu ys1 q1);exact⟨_,z7 hx,R.hid hT,Tx.new hT,Xq (U8.of Yq) (Yn Jn (Yn (rx.tx (Tx.new hT)) Jc))⟩
def fI {elts:List WW}{ek:Nat}{epos:Pos}(hg:Gl X "enumerate")(hm:X.mg "enumerate"=none)(ha:yw X [a] wA)(hs:autoParam (starEach [a] X.env=[(false,eval a X.env)]) QzR)
  (he:autoParam (eval (.Call (.Name "enumerate" p) [a] [⟨some "start",.Constant (.int 1) j kc,kp⟩] pos) X.env=(do callWith pos (<-eval (.Name "enumerate" p) X.env) [] (backTo pos (starEach [a] X.env)) (backToKw pos (keywordEach [⟨some "start",.Constant (.int 1) j kc,kp⟩] X.env)))) QzR):
  ip X (.Tuple elts ek epos) (.Call (.Name "enumerate" p) [a] [⟨some "start",.Constant (.int 1) j kc,kp⟩] pos) (fm wA):=by
 obtain⟨t,p1,s⟩:=ha;refine⟨_,gh hg hm p1 hs (by decide+kernel) he,λF H C σ τ R R' χ Rr S h q=>?_⟩;refine s F H C σ τ _ _ χ Rr S h λxs vs H1 C1 R1 t1 rs h1=>?_;obtain⟨ts,rfl,h1⟩:=h1;obtain⟨x,rfl,rx⟩:=Xj rs;obtain⟨l1,y1,rfl,q1,r1⟩:=Yp rx;exact⟨l1,y1,FQ,q1,q _ H1 _ _ C1 R1 t1 (λF'=>pi _ q1 r1) h1⟩
def fH {elts:List WW}{ek:Nat}{epos:Pos}(hg:Gl X "enumerate")(hm:X.mg "enumerate"=none)(ha:yw X [a] wA)(hs:autoParam (starEach [a] X.env=[(false,eval a X.env)]) QzR):
  ip X (.Tuple elts ek epos) (.Call (.Name "enumerate" p) [a] [] pos) (Za3 wA):=by
 obtain⟨t,p1,s⟩:=ha;refine⟨_,gi hg hm p1 hs (by decide+kernel),λF H C σ τ R R' χ Rr S h q=>?_⟩;refine s F H C σ τ _ _ χ Rr S h λxs vs H1 C1 R1 t1 rs h1=>?_;obtain⟨ts,rfl,h1⟩:=h1;obtain⟨x,rfl,rx⟩:=Xj rs;obtain⟨l1,y1,rfl,q1,r1⟩:=Yp rx;exact⟨l1,y1,FQ,q1,q _ H1 _ _ C1 R1 t1 (λF'=>pi _ q1 r1) h1⟩
end
def lS {X:Cx}{k i:Nat}{p pos:Pos}(Cc:Ca X.prog X.w X.K X.mg X.base k x ps (spW X.K pr k i))(hr:X8 k X.A)(hg:Gl X x)
  (hdb:autoParam ((x==("__debug__":Str))=false) QzD):Ji X (.Call (.Name x p) [] [] pos) (Vj (Z4 pr k) i Zy):=by
 obtain⟨f,fd,F,B,kp,m⟩:=Cc.ex;refine⟨_,qr F hr hg m kp B .nil B6 hdb,λF H C σ τ Q Q' χ R S h q=>?_⟩;exact⟨F,C,[],Q',χ,R,Jc,h,q⟩
section
variable {X:Cx}
end
end WL
namespace L2
open PySem PySem.Spec PyProof.Rows
section
variable {X:Cx}{WZ:List (WP×Obj)}{σ:St}{H:Hp}{s:WR}{a b:WP}{kvs more:List (Yo×V)}{A:WM}{E:WQ->WR->Prop}
def og {Q:WQ->WR->Prop}(I:Z2 X WZ σ H s)(e:H a=some (.dK kvs))(e2:H b=some (.dK more))(hab:a≠b)(hsz:kvs.length+more.length<=sizeLine)(h:∀s',Z2 X WZ σ (Je H a (.dK (Pd kvs more))) s'->Q .none s'):
  wpAny (model X.prog X.w) A (call (.builtin "dict.update") [.ref a,.ref b]) Q E s:=by
 obtain⟨z,hd,vs,rel,dd⟩:=Ar I.hok e;obtain⟨z2,hd2,vs2,rel2,dd2⟩:=Ar I.hok e2;refine call_meetsIn PySem.F.slot_dict_update dd.typeIs PySem.F.entry_dict_update (PySem.F.args_dict_update_2 _ _) (meets_dict_update (Yw X.prog X.w) a b hab hd2) ⟨vs,vs2,dd,dd2,by rw[<-rel.length,<-rel2.length];exact hsz,λh' dd' _ hs=>h _ ?_⟩;have he:∃q,h'.get? a=some q:=let ⟨q,_,_,hq,_⟩:=dd';⟨q,hq⟩
 exact Kd (t':=s.toks) I (by rw[e];exact True.intro) hs he (Iu (XN (Sa more kvs) hsz) hd (KV.merge rel2 rel) dd')
end
section
variable {X:Cx}{o e:WW}{apos cpos:Pos}{td ty:TE}
def dP (td ty:TE):TE:=λσ H Q=>td σ H λx H1=>∃a,x=.ref a/\aq H1 a/\ty σ H1 λy H2=>∃b kvs more,y=.ref b/\a≠b/\H2 a=some (.dK kvs)/\H2 b=some (.dK more)/\kvs.length+more.length<=sizeLine/\Q .non (Je H2 a (.dK (Pd kvs more)))
def mC (ho:PE X o td)(he:PE X e ty)(m:M1 X o "update" apos e cpos):PE X (.Call (.Attribute o "update" apos) [e] [] cpos) (dP td ty):=by
 intro WZ s σ H Q I h;refine wpAny_Call_method m.base m.few m.line EJ PySem.F.slot_dict_update PySem.F.type_dict_update (Js (ho WZ s σ H _ I h) λu s1 zZ=>?_);obtain⟨x,H1,I1,rx,a,ex,d,q1⟩:=zZ;subst ex;obtain rfl:u=Value.ref a:=rx;obtain⟨t1,t2,_⟩:=wy I1 d;refine⟨t1,t2,?_⟩;rw[m.trees];refine DB FQ (DY (CT (Js (he WZ s1 σ H1 _ I1 q1) λiv s2 zZ=>?_)));obtain⟨y,H2,I2,ry,b,kvs,more,ey,hab,ea,eb,hz,q2⟩:=zZ;refine DG ?_;subst ey;obtain rfl:iv=Value.ref b:=ry;exact og I2 ea eb hab hz λs3 I3=>⟨.non,_,I3,FQ,q2⟩
end
end L2
namespace WL
open PySem PySem.Spec PyProof.Rows L2
def Ig (kvs more:List (Yo×T)):List (Yo×T):=more.foldl (λacc kv=>Wq acc kv.1 kv.2) kvs
def PR.merge {K:WY}:∀{ms:List (Yo×V)} {mw:List (Yo×T)} {ks:List (Yo×V)} {kw:List (Yo×T)},PR K H ms mw->PR K H ks kw->PR K H (Pd ks ms) (Ig kw mw):=by
 intro ms mw ks kw r
 induction r generalizing ks kw with
 | nil=>intro q;exact q
 | @cons p q ps qs h t ih=>
  intro r0;have e:PR K H (W4 ks p.1 p.2) (Wq kw q.1 q.2):=by rw[<-h.1];exact PR.put r0 h.2
  exact ih e
abbrev er:=Sw->Hw->(List (Yo×T)->Hw->Prop)->WX->Prop
def Zao:er:=λ_ C Q _=>Q [] C
def cQ (k v:WE)(r:er):er:=λτ C Q χ=>k τ C (λx C1=>v τ C1 (λy C2=>r τ C2 (λps C3=>∃kk,kT x=some kk/\Q ((kk,y)::ps) C3) χ) χ) χ
def fB (r:er):WE:=λτ C Q χ=>∀p,C p=none->r τ (up C p (.dic [])) (λps C2=>C2 p=some (.dic [])/\ps.length<=15/\Q (.ref p) (up C2 p (.dic (Ig [] ps)))) χ
def ac (K:WY)(trs:List (TE×TE))(w:er):Prop:=∀(F H:Hp) (C:Hw) (σ:L2.St) (τ:Sw) (Q:List (V×V)->Hp->Prop) (Q':List (Yo×T)->Hw->Prop) (χ:WX),Rl K F H C->Xo K H σ τ->w τ C Q' χ->
 (∀(kvs:List (Yo×V)) (ps:List (Yo×T)) H' C',Rl K F H' C'->Tx H H'->PR K H' kvs ps->Q' ps C'->Q (kvs.map λkv=>(kV kv.1,kv.2)) H')->ze trs σ H Q
def kr (X:Cx)(pos:Pos)(ks:List (Option WW))(vs:List WW)(w:er):Prop:=∃trs,ag X pos ks vs trs/\ac X.K trs w
section
variable {X:Cx}{pos apos cpos:Pos}{k v o e:WW}{ks:List (Option WW)}{vs:List WW}{wk wv wo we:WE}{w:er}
def vT:kr X pos [] [] Zao:=⟨_,v7,λF H C σ τ Q Q' χ R S h q=>q [] [] H C R (Tx.refl H) .nil h⟩
def Xl (hk:Ji X k wk)(hv:Ji X v wv)(hr:kr X pos ks vs w):kr X pos (some k::ks) (v::vs) (cQ wk wv w):=by
 obtain⟨tk,p1,s1⟩:=hk;obtain⟨tv,p2,s2⟩:=hv;obtain⟨tr,p3,s3⟩:=hr;refine⟨_,jc p1 p2 p3,λF H C σ τ Q Q' χ R S h q=>?_⟩;refine s1 F H C σ τ _ _ χ R S h λx u H1 C1 R1 t1 rx h1=>?_;refine s2 F H1 C1 σ τ _ _ χ R1 (S.tx t1) h1 λy u2 H2 C2 R2 t2 ry h2=>?_;refine s3 F H2 C2 σ τ _ _ χ R2 (S.tx (t1.trans t2)) h2 λkvs ps H3 C3 R3 t3 pr h3=>?_;obtain⟨kk,hk,h3⟩:=h3;have ex:x=kV kk:=Rz hk rx;subst ex;exact q ((kk,y)::kvs) ((kk,u2)::ps) H3 C3 R3 ((t1.trans t2).trans t3) (.cons ⟨FQ,ry.tx t3⟩ pr) h3
def vW (h:kr X pos ks vs w)(hall:autoParam (ks.all (·.isSome)=true) QzR)(hl:autoParam (ks.length=vs.length) QzR)(h0:ks≠[]:=by simp)(h15:ks.length<=15:=by simp):Ji X (.Dict ks vs pos) (fB w):=by
 obtain⟨tr,p1,s1⟩:=h;refine⟨_,v8 p1 hall hl h0 h15,λF H C σ τ Q Q' χ R S h q=>?_⟩;intro p hp;have tn:Tx H (Je H p (.dK [])):=Tx.new hp;have R0:Rl X.K F (Je H p (.dK [])) (up C p (.dic [])):=R.new hp ⟨[],Yq,.nil⟩;refine s1 F _ _ σ τ _ _ χ R0 (S.tx tn) (h p (R.free hp)) λkvs ps H1 C1 R1 t1 pr h1=>?_;obtain⟨hC,hlen,h1⟩:=h1;obtain⟨ks0,hH,pr0⟩:=R1.dic hC
 cases pr0
 obtain⟨R3,t3⟩:=R1.putD hC (PR.merge pr .nil);exact⟨hH,kvs,FQ,by rw[pr.length];exact hlen,q _ _ _ _ R3 ((tn.trans t1).trans t3) Jm h1⟩
def bM (o e:WE):WE:=λτ C Q χ=>o τ C (λx C1=>(∃a kvs,x=.ref a/\C1 a=some (.dic kvs))/\e τ C1 (λy C2=>∃a b kvs more,x=.ref a/\y=.ref b/\a≠b/\C2 a=some (.dic kvs)/\C2 b=some (.dic more)/\kvs.length+more.length<=sizeLine/\Q .non (up C2 a (.dic (Ig kvs more)))) χ) χ
def fM (ho:Ji X o wo)(he:Ji X e we)(m:M1 X o "update" apos e cpos):Ji X (.Call (.Attribute o "update" apos) [e] [] cpos) (bM wo we):=by
 obtain⟨ta,p1,s1⟩:=ho;obtain⟨tb,p2,s2⟩:=he;refine⟨_,mC p1 p2 m,λF H C σ τ Q Q' χ R S h q=>?_⟩;refine s1 F H C σ τ _ _ χ R S h λx v H1 C1 R1 t1 rx h1=>?_;obtain⟨⟨l,kvs0,rfl,hC0⟩,h1⟩:=h1
 cases Z7 rx
 obtain⟨ks0,hH0,_⟩:=R1.dic hC0;refine⟨l,FQ,.inl ⟨ks0,.inl hH0⟩,?_⟩;refine s2 F H1 C1 σ τ _ _ χ R1 (S.tx t1) h1 λy u H2 C2 R2 t2 ry h2=>?_;obtain⟨a,b,kvs,more,e1,rfl,hab,hCa,hCb,hz,h3⟩:=h2
 cases e1
 cases Z7 ry
 obtain⟨ka,hHa,pa⟩:=R2.dic hCa;obtain⟨kb,hHb,pb⟩:=R2.dic hCb;obtain⟨R3,t3⟩:=R2.putD hCa (PR.merge pb pa);exact⟨b,ka,kb,FQ,hab,hHa,hHb,by rw[pa.length,pb.length];exact hz,q _ _ _ _ R3 ((t1.trans t2).trans t3) V0 h3⟩
end
end WL
namespace L2
open PySem PySem.Spec PyProof.Rows
def oO (_ j:Int):Prop:=0<j/\j.natAbs.log2<9000
def xm (i j:Int):Prop:=0<=j/\(Builtin.Int.intBits i:Int)*j<=2^27
section
variable {X:Cx}
def qv:Ot X (binaryOp .FloorDiv) (rI oO λi j=>.int (i/j)):=eQ λi j _ _ _ _ _ hc q=>by
 have h1:(0:Int)<j:=hc.1;exact floordiv_int (by omega) (by rw[Int.fdiv_eq_ediv_of_nonneg i (by omega)];exact q) (.inl (PyProof.noPylong_of_log2 hc.2))
def mH:Ot X (binaryOp .Pow) (rI xm λi j=>.int (i^j.toNat)):=eQ λ_ _ _ _ _ _ _ hc q=>pow_int hc.1 hc.2 q
end
end L2
namespace WL
open PySem PySem.Spec PyProof.Rows L2
def dr:W2
 | .int i,.int j,C,Q=>oO i j/\Q (.int (i/j)) C
 | _,_,_,_=>False
def dg:W2
 | .int i,.int j,C,Q=>xm i j/\Q (.int (i^j.toNat)) C
 | _,_,_,_=>False
section
variable {X:Cx}
set_option tactic.hygienic true
def qE:Mo X (binaryOp .FloorDiv) dr:=⟨_,qv,λF H C x y v u Q Q' R rx ry h q=>by
 cases v<;>cases u<;>first | exact False.elim h | skip
 case int.int i j=>cases Ye rx;cases Ye ry;exact⟨i,j,FQ,FQ,h.1,q _ _ H C R (Tx.refl H) Jn h.2⟩⟩
def Ie:Mo X (binaryOp .Pow) dg:=⟨_,mH,λF H C x y v u Q Q' R rx ry h q=>by
 cases v<;>cases u<;>first | exact False.elim h | skip
 case int.int i j=>cases Ye rx;cases Ye ry;exact⟨i,j,FQ,FQ,h.1,q _ _ H C R (Tx.refl H) Jn h.2⟩⟩
set_option tactic.hygienic false
end
section
variable {P:WO}{w:WN}{K:WY}{mg:Str->Option WQ}{base h:WU}{x q cn:Str}{st:WV}{ps:List Str}{pr:List Df}{n i j ar:Nat}{sp:Sp}{Cl:WP}
def Fg (K:WY)(x:Str)(st:WV):Prop:=∃f fd,W.nsIn K mainGlobals x=some (some (.ref f))/\vc K x x st f fd
def Fh (K:WY)(Cl:WP)(x q:Str)(st:WV):Prop:=∃f fd,tN K Cl x f/\vc K x q st f fd
def Ld (K:WY)(mg:Str->Option WQ)(x:Str)(st:WV)(ps:List Str):Prop:=∃f fd,vc K x x st f fd/\Wo K fd ps []/\mg x=some (.ref f)
def Lm (K:WY)(Cl:WP)(x q:Str)(st:WV)(ps:List Str):Prop:=∃f fd,tN K Cl x f/\vc K x q st f fd/\Wo K fd ps []
def Bq (x q:Str)(st:WV)(ps:List Str):Prop:=∀(kV doc pm:WQ) (an:Option WP) (cdv ct:WQ) (us:List WQ),us.length=ps.length->bindArgs (W.fnOf x q (V4 st) (Xs st) (Zk st) .none kV doc pm an cdv ct) ⟨us,[]⟩=pure (ps.zip us)
def Yx (X:K.In h)(G:h.Ns mainGlobals mg)(l:Fg K x st)(hb:Bq x x st ps):Ld K mg x st ps:=by
 obtain⟨f,fd,a,F⟩:=l;exact⟨f,fd,F,F.binds hb,FJ X G a⟩
def Rm (L:Ld K mg x st ps):Ca P w K mg base 0 x ps (spW K pr 0 i):=by
 obtain⟨f,fd,F,B,M⟩:=L;exact lX F B M
def Rk (L:Ld K mg x st ps)(G:∀{f fd},vc K x x st f fd->Vk P w K mg base CX0 n f fd ps sp):Ca P w K mg base n x ps sp:=by
 obtain⟨f,fd,F,B,M⟩:=L;exact lY F B M (G F)
def Wl (l:Fh K Cl x q st)(hb:Bq x q st ps):Lm K Cl x q st ps:=by
 obtain⟨f,fd,a,F⟩:=l;exact⟨f,fd,a,F,F.binds hb⟩
def Ac (k:Kl K mg cn Cl)(L:Lm K Cl x q st ps):Cm P w K mg base 0 cn x ps (spW K pr 0 i):=by
 obtain⟨f,fd,M,F,B⟩:=L;exact ib k M Ao B
def Ab (k:Kl K mg cn Cl)(L:Lm K Cl x q st ps)(G:∀{f fd},vc K x q st f fd->Vk P w K mg base CX0 n f fd ps sp):Cm P w K mg base n cn x ps sp:=by
 obtain⟨f,fd,M,F,B⟩:=L;exact ib k M (G F) B
def Zde (hj:pr[j]?=some ⟨ar,ar,uv cn i⟩)(k:Kl K mg cn Cl)(mk:W.makesIn K Cl=true)(kc:W.keepIn K (.ref Cl)=true)(L:Lm K Cl "__init__" q st ps):Cn P w K mg base 0 pr cn i j:=by
 obtain⟨f,fd,M,F,B⟩:=L;exact lT hj k ⟨mk,M.at_,M.fn,kc⟩
def cP {k:Nat}{Q:Calls}(hP:Z4 pr k=Q)(h:Ji X e (Vj (Z4 pr k) i wA)):Ji X e (Vj Q i wA):=hP▸h
def mP {k:Nat}{Q:Calls}(hP:Z4 pr k=Q)(h:Ji X e (pQ (Z4 pr k) tb m wo wA)):Ji X e (pQ Q tb m wo wA):=hP▸h
end
end WL
namespace K38
open PySem PySem.Spec PyProof.Rows L2 WL
def g_MARKS:T:=.tup [.str "at",.str "shut",.str "ring"]
def g_VALUES:T:=.tup [.str "number",.str "fun",.str "made"]
def top (i:Nat):WV:=PySem.Challenge.pw_idlegraph_k38_whole_by_names.main.body.getD i (.Pass ⟨0,0,0,0⟩)
 abbrev FR:List Str:=["_law_kind","_law_draws_here","_law_names","_law_pool_here","_law_deep","_law_draw","_law_way","_law_other","_law_one","_law_name","_law_inner","_law_rest","_law_pairs"]
 abbrev FS:List Str:=["_law_script","_law_draws_here","_law_pool_here","_law_deep","_law_most","_law_kind","_law_term_here","_law_going","_law_word","_law_what","_law_counts"]
 abbrev FT:List Str:=["_law_kind","_law_draw","_law_draws_here","_law_names","_law_pool_here","_law_deep","_law_one","_law_other","_law_name"]
 abbrev FU:List Str:=["_law_kind","_law_draw","_law_names","_law_mine","_law_nil","_law_one"]
 abbrev FV:List Str:=["_law_kind","_law_draw","_law_draws_here","_law_names","_law_pool_here","_law_deep","_law_one","_law_no","_law_head","_law_tail","_law_inner","_law_body"]
 abbrev FW:List Str:=["_law_kind","_law_draw","_law_draws_here","_law_names","_law_pool_here","_law_deep"]
 abbrev FX:List Str:=["_law_kind","_law_draws_here","_law_pool_here","_law_deep","_law_number_name","_law_list_name","_law_here","_law_more","_law_start","_law_one","_law_other","_law_pairs"]
 abbrev FY:List Str:=["_law_going","_law_label","_law_text","_law_around_here"]
 abbrev FZ:List Str:=["term","marks","stays","given","names","part","left","one"]
 abbrev GA:List Str:=["_law_kind","_law_draws_here","_law_names","_law_pool_here","_law_deep"]
 abbrev GB:List Str:=["_law_script","_law_many","_law_found","_law_cell","_law_number"]
 abbrev GC:List Str:=["_law_names","_law_name","_law_kind"]
 abbrev GD:List Str:=["self","shape","given","marks","place","part"]
 abbrev GF:List Str:=["_law_draws_here","_law_pool_here","_law_signs","_law_k","_law_draw","_law_name","_law_j"]
 abbrev GG:List Str:=["_law_script","_law_many","_law_found","_law_k","_law_cell"]
 abbrev GH:List Str:=["_law_kind","_law_draws_here","_law_pool_here","_law_deep"]
 abbrev GI:List Str:=["_law_around_here","_law_names","_law_numbers","_law_found","_law_name","_law_number"]
 abbrev GJ:List Str:=["_law_going","_law_hand","_law_frame","_law_around_here","_law_number","_law_one"]
 abbrev GK:List Str:=["_law_going","_law_hand","_law_here","_law_names","_law_around_here","_law_pair"]
 abbrev GL:List Str:=["self"]
 abbrev GM:List Str:=["_law_script","_law_many"]
 abbrev GN:List Str:=["self","number"]
 abbrev GO:List Str:=["_law_going","_law_hand"]
 abbrev GP:List Str:=["_law_around_here","_law_names","_law_numbers"]
 abbrev GQ:List Str:=["value","alternatives"]
 abbrev GR:List Str:=["self","most"]
 abbrev GS:List Str:=["term","depth","most"]
 abbrev GU:List Str:=["_law_frame","_law_hand"]
 abbrev GV:List Str:=["_law_going","_law_hand","_law_deep","_law_one","_law_other"]
 abbrev GW:List Str:=["_law_going","_law_hand","_law_numbers","_law_k","_law_part"]
 abbrev GX:List Str:=["_law_going","_law_event","_law_number"]
 abbrev GY:List Str:=["_law_op","_law_one","_law_other","_law_yes","_law_number"]
 abbrev GZ:List Str:=["self","event","number"]
 abbrev HA:List Str:=["_law_going","_law_hand","_law_around_here","_law_number"]
 abbrev HB:List Str:=["_law_going","_law_hand","_law_frame"]
 abbrev HC:List Str:=["self","number","text"]
 abbrev HD:List Str:=["_law_kind","_law_draw","_law_names"]
 abbrev HE:List Str:=["_law_going"]
 abbrev HF:List Str:=["self","term","depth"]
 abbrev HG:List Str:=["self","term","frame"]
 abbrev HH:List Str:=["_law_going","_law_event","_law_number","_law_label"]
 abbrev HI:List Str:=["_law_op","_law_one","_law_other"]
 abbrev HJ:List Str:=["shape","names","body"]
 abbrev HK:List Str:=["self","pairs","body","marks","name","text"]
 abbrev HL:List Str:=["term","marks"]
 abbrev HM:List Str:=["tuples","lasts"]
 abbrev HN:List Str:=["Runner"]
 abbrev HQ:List Str:=["term"]
 abbrev HR:List Str:=["body","steps","bound","behind","step"]
 abbrev HS:List Str:=["value","frame"]
 abbrev HU:List Str:=["value","alternatives","alternative"]
 abbrev HV:List Str:=["_law_going","_law_hand","_law_one"]
 abbrev HW:List Str:=["_law_cell","_law_k","_law_number"]
 abbrev HX:List Str:=["_law_go","_law_cell","_law_picks"]
 abbrev HY:List Str:=["self","value","frame"]
 abbrev HZ:List Str:=["self","shape","given"]
 abbrev IA:List Str:=["self","pairs","body"]
 abbrev IB:List Str:=["self","label","text"]
 abbrev IC:List Str:=["name","part","names"]
 abbrev IE:List Str:=["value","depth","pieces","mark"]
 abbrev IG:List Str:=["_law_k","_law_nil","_law_some"]
 abbrev IH:List Str:=["_law_cell","_law_k"]
 abbrev II:List Str:=["op","one","other"]
 abbrev IJ:List Str:=["_law_script"]
 abbrev IK:List Str:=["_law_draws_here"]
structure Txt (w:World)(K:W.Frag)(mg:Str->Option Value):Prop where
 zck:mg "any"=none
 zbh:mg "dict"=none
 za6:mg "enumerate"=none
 za8:mg "int"=none
 za4:mg "isinstance"=none
 zad:mg "len"=none
 zbz:mg "list"=none
 za1:mg "range"=none
 zcd:mg "reversed"=none
 zaw:mg "str"=none
 zap:mg "tuple"=none
 zbp:mg "zip"=none
 g_MARKS:Zb2 K mg "MARKS" g_MARKS
 g_VALUES:Zb2 K mg "VALUES" g_VALUES
 zak:KF K "cells" "Runner"
 zac:KF K "ending" "Runner"
 zaj:KF K "firsts" "Runner"
 zab:KF K "hand" "Runner"
 zai:KF K "labels" "Runner"
 zat:KF K "log" "Runner"
 zag:KF K "pile" "Runner"
 zaf:KF K "steps" "Runner"
 zal:KF K "still" "Runner"
 zao:KF K "things" "Runner"
 zam:KF K "told" "Runner"
 zan:KF K "wanted" "Runner"
structure Cs (Pg:Program)(w:World)(K:W.Frag)(mg:Str->Option Value)(base:Heap)(n:Nat)(pr:List Df):Prop where
 zb1:Ca Pg w K mg base n "with_parts" ["term","given"] (spW K pr n 0)
 zau:Ca Pg w K mg base n "with_lasts" HM (spW K pr n 1)
 zcg:Ca Pg w K mg base n "scopes" HQ (spW K pr n 2)
 zb0:Ca Pg w K mg base n "let_scopes" ["pairs","body"] (spW K pr n 3)
 zbx:Ca Pg w K mg base n "rows_scopes" ["body","steps"] (spW K pr n 4)
 za7:Ca Pg w K mg base n "put" HL (spW K pr n 5)
 zbi:Ca Pg w K mg base n "changed" HL (spW K pr n 6)
 zce:Ca Pg w K mg base n "without" ["marks","names"] (spW K pr n 7)
 zcf:Ca Pg w K mg base n "is_mark" HQ (spW K pr n 8)
 za9:Ca Pg w K mg base n "is_value" HQ (spW K pr n 9)
 zcb:Ca Pg w K mg base n "reckoned" II (spW K pr n 10)
 zbr:Ca Pg w K mg base n "truth" ["holds"] (spW K pr n 11)
 zch:Ca Pg w K mg base n "picked" GQ (spW K pr n 12)
 zaz:Ca Pg w K mg base n "alternative_of" GQ (spW K pr n 13)
 zcj:Ca Pg w K mg base n "fits" HS (spW K pr n 14)
 zb9:Ca Pg w K mg base n "pieces_of" ["value","depth"] (spW K pr n 35)
 c_run:Zcv Pg w K mg base n "run" GS [8,400] (spW K pr n 36)
 zb2:Ca Pg w K mg base n "_law_mixed" IH (spW K pr n 37)
 zbt:Ca Pg w K mg base n "_law_digits" GM (spW K pr n 38)
 zb3:Ca Pg w K mg base n "_law_draws" GM (spW K pr n 39)
 zca:Ca Pg w K mg base n "_law_pool" IK (spW K pr n 40)
 zbd:Ca Pg w K mg base n "_law_ill_matched" ["_law_k"] (spW K pr n 41)
 za5:Ca Pg w K mg base n "_law_leaf" HD (spW K pr n 42)
 zah:Ca Pg w K mg base n "_law_bound" GC (spW K pr n 43)
 zcc:Ca Pg w K mg base n "_law_own" FW (spW K pr n 44)
 zbv:Ca Pg w K mg base n "_law_choice" FW (spW K pr n 45)
 zaa:Ca Pg w K mg base n "_law_term" GA (spW K pr n 46)
 zb5:Ca Pg w K mg base n "_law_each" [] (spW K pr n 47)
 zby:Ca Pg w K mg base n "_law_closed" GH (spW K pr n 48)
 zay:Ca Pg w K mg base n "_law_note" GX (spW K pr n 49)
 zav:Ca Pg w K mg base n "_law_birth" FY (spW K pr n 50)
 zaq:Ca Pg w K mg base n "_law_around" GP (spW K pr n 51)
 zb7:Ca Pg w K mg base n "_law_told" HE (spW K pr n 52)
 zba:Ca Pg w K mg base n "_law_end" HE (spW K pr n 53)
 zb8:Ca Pg w K mg base n "_law_fits" GU (spW K pr n 54)
 zbk:Ca Pg w K mg base n "_law_value_step" HB (spW K pr n 55)
 zbo:Ca Pg w K mg base n "_law_reckoned" HI (spW K pr n 56)
 zbl:Ca Pg w K mg base n "_law_shape_step" GO (spW K pr n 57)
 zbq:Ca Pg w K mg base n "_law_let_step" GO (spW K pr n 58)
 zb6:Ca Pg w K mg base n "_law_step" HE (spW K pr n 59)
 zcl:Ca Pg w K mg base n "law" IJ (spW K pr n 60)
 zcm:Cm Pg w K mg base n "Runner" "__init__" HF (spW K pr n 15)
 zb4:Cm Pg w K mg base n "Runner" "go" GR (spW K pr n 16)
 zbm:Cm Pg w K mg base n "Runner" "advance" GR (spW K pr n 17)
 zbn:Cm Pg w K mg base n "Runner" "outcome" GL (spW K pr n 18)
 za0:Cm Pg w K mg base n "Runner" "settle" GL (spW K pr n 19)
 zbe:Cm Pg w K mg base n "Runner" "tell_next" GL (spW K pr n 20)
 zbc:Cm Pg w K mg base n "Runner" "tell_value" GL (spW K pr n 21)
 zbj:Cm Pg w K mg base n "Runner" "take_step" GL (spW K pr n 22)
 zbb:Cm Pg w K mg base n "Runner" "take_apart" ["self","term"] (spW K pr n 23)
 zbf:Cm Pg w K mg base n "Runner" "use_value" HY (spW K pr n 24)
 zae:Cm Pg w K mg base n "Runner" "go_into" HG (spW K pr n 25)
 zas:Cm Pg w K mg base n "Runner" "take_frame" GL (spW K pr n 26)
 zbw:Cm Pg w K mg base n "Runner" "bind" IA (spW K pr n 27)
 zbu:Cm Pg w K mg base n "Runner" "make" HZ (spW K pr n 28)
 zax:Cm Pg w K mg base n "Runner" "mark_for" IB (spW K pr n 29)
 za3:Cm Pg w K mg base n "Runner" "bear" ["self","label"] (spW K pr n 30)
 zar:Cm Pg w K mg base n "Runner" "note" GZ (spW K pr n 31)
 za2:Cm Pg w K mg base n "Runner" "keep" HC (spW K pr n 32)
 zbs:Cm Pg w K mg base n "Runner" "enter" GN (spW K pr n 33)
 zbg:Cm Pg w K mg base n "Runner" "come_back" GN (spW K pr n 34)
 zci:Cn Pg w K mg base n pr "Runner" 15 61
def SX (j:Nat)(st:WV)(N:List Str)(q:Str)(W:Calls->WS):Prop:=∀{Pg:WO} {w:WN} {K:WY} {mg:Str->Option WQ} {base:WU} {n:Nat} {pr:List Df} {P:Calls} {f:WP} {cdv:WQ} {A:WM} {outer:List Env} {s:WR} {H:Hp} {E:XK},Z4 pr n=P->Txt w K mg->Cs Pg w K mg base n pr->
 X8 n (A.deeper (envOfC q (Zk st) s.heap.objs.size f cdv))->tV (yf CX0 Pg w K mg base N q (Zk st) f cdv A outer s H E).nox ((Xs st).drop j) (W P)
local macro_rules | `(tactic| walk_at "sc") => `(tactic| exact ⟨rfl, rfl, rfl, by decide +kernel, rfl, by decide +kernel, by decide +kernel⟩)
abbrev T0:WV:=top 1
def O5:Zu ["term","given","sort"] ["term","given"] (Zk T0):=by walk_at "sc"
def Jq:{W//SX 0 T0 ["term","given","sort"] "with_parts" W}:=⟨_,λhP T S hr=>by
  have nd:=O5.nd;have hu:=Yh hr;exact(Ze (Zl (i:=2) nd (Zm (Zb 0) Zd))
   (Ze (Zs (Zi (Z3 hu) (Zb 2) Zf) (Zg (Zp (Zj (Za Zf (Za (Zm (Zb 0) Zd) (Za (Zm (Zb 1) Zd) (Za (Zm (Zb 1) Zd) Zc))))))) Zz)
   (Ze (Zs (Os (Dj (Zi (Z3 hu) (Zb 2) Zf) (Ir (Zi (Z3 hu) (Zb 2) Zf)))) (Zg (Zp (Zj (Za (Zb 2) (Za (Zm (Zb 1) Zd) (Za (Zm (Zb 1) Zd) Zc)))))) Zz)
   (Ze (Zs (Zi (Z3 hu) (Zb 2) Zf) (Zg (Zp (Zj (Za Zf (Za (Zm (Zb 0) Zd) (Za (Zm (Zb 1) Zd) Zc)))))) Zz)
   (Ze (Zs (Zi (Z3 hu) (Zb 2) Zf) (Zg (Zp (Zj (Za Zf (Za (cP hP (Zt S.zau hr (by rfl) (Za (Zm (Zb 0) Zd) (Za (Dm (Zb 1) Qa (J9 (Hv Zd))) Zc)))) (Za (Zm (Zb 1) (Hv Zd)) Zc)))))) Zz)
   (Ze (Zs (Zi (Z3 hu) (Zb 2) Zf) (Zg (Zp (Zj (Za Zf (Za (Zm (Zb 0) Zd) (Za (Qq Of (by rfl) T.zap S0 (Za (Zb 1) Zc)) Zc)))))) Zz)
   (Ze (Zs (Zi (Z3 hu) (Zb 2) Zf) (Zg (Zp (Zj (Za Zf (Za (Zm (Zb 1) Zd) (Za (cP hP (Zt S.zau hr (by rfl) (Za (Zm (Zb 0) Zd) (Za (Dm (Zb 1) (J9 Zd) Qa) Zc)))) Zc)))))) Zz)
   (Ze (Zs (Zi (Z3 hu) (Zb 2) Zf) (Zg (Zp (Zj (Za Zf (Za (Zm (Zb 1) Zd) (Za (cP hP (Zt S.zau hr (by rfl) (Za (Zm (Zb 0) Zd) (Za (Dm (Zb 1) (J9 Zd) Qa) Zc)))) Zc)))))) Zz)
   (Zg (Zp (Zb 0)))))))))))⟩
abbrev T1:WV:=top 2
def Cu:Zu HM HM (Zk T1):=by walk_at "sc"
def Qc:{W//SX 0 T1 HM "with_lasts" W}:=⟨_,λhP T S hr=>by
  exact(Zg (Zp (Qq Of (by rfl) T.zap S0 (Za (U0 (cN:=["one","last"]) (cap:=[none,none]) (cl:=[]) (js:=([0]++([1]++[]))) (g:=(jG _ 2 (Sz (Xd 0) (Sz (Xd 1) jH)))) ⟨FQ,(λ_=>Oe FQ (by decide+kernel) (by decide+kernel) FQ (by decide)),(pX (by rfl) T.zbp (Za (Zb 0) (Za (Zb 1) Zc))),(λ_ _ _=>Es (n:=2) FQ (X3 (Jf (i:=0) (show(["one","last"]:List Str).Nodup by decide+kernel) FQ (Or.inl FQ)) (X3 (Jf (i:=1) (show(["one","last"]:List Str).Nodup by decide+kernel) FQ (Or.inl FQ)) Lf))),(zU (J7 Yi (J7 Yi W9))),(zV (V2 Jp Yi (V2 Jp Yi zX W9) (J7 Yi W9))),(Eb (Vd Ja (Vd Ja Ec)) (Yt (Yt Se))),by decide+kernel,λ_ _ _=>V3,λ_ _ _=>(Zv Jj (Dm (Zb 0) Qa (J9 (Hv Zd))) (Zj (Za (Zb 1) Zc))),λ_=>rfl⟩) Zc))))⟩
abbrev Kx:WV:=top 4
def B3:Zu ["term","sort"] HQ (Zk Kx):=by walk_at "sc"
def Dy:{W//SX 0 Kx ["term","sort"] "scopes" W}:=⟨_,λhP T S hr=>by
  have nd:=B3.nd;have hu:=Yh hr;exact(Ze (Zl (i:=1) nd (Zm (Zb 0) Zd))
   (Ze (Zs (Zi (Z3 hu) (Zb 1) Zf) (Zg (Zp (Ys (Za (Zj (Za (Zj Zc) (Za (Zm (Zb 0) Zd) Zc))) (Za (Zj (Za (Zj Zc) (Za (Zm (Zb 0) Zd) Zc))) Zc))))) Zz)
   (Ze (Zs (Os (Dj (Zi (Z3 hu) (Zb 1) Zf) (Ir (Zi (Z3 hu) (Zb 1) Zf)))) (Zg (Zp (Ys (Za (Zj (Za (Zj Zc) (Za (Zm (Zb 0) Zd) Zc))) (Za (Zj (Za (Zj Zc) (Za (Zm (Zb 0) Zd) Zc))) Zc))))) Zz)
   (Ze (Zs (Zi (Z3 hu) (Zb 1) Zf) (Zg (Zp (Ys (Za (Zj (Za (Zj (Za (Zm (Zb 0) Zd) Zc)) (Za (Zm (Zb 0) Zd) Zc))) Zc)))) Zz)
   (Ze (Zs (Zi (Z3 hu) (Zb 1) Zf) (Zg (Zp (cP hP (Zt S.zb0 hr (by rfl) (Za (Zm (Zb 0) Zd) (Za (Zm (Zb 0) Zd) Zc)))))) Zz)
   (Ze (Zs (Zi (Z3 hu) (Zb 1) Zf) (Zg (Zp (U0 (cN:=["part"]) (cap:=[none]) (cl:=[]) (js:=[0]) (g:=(Xd 0)) ⟨FQ,(λ_=>Oe FQ (by decide+kernel) (by decide+kernel) FQ (by decide)),(J2 (Zm (Zb 0) Zd)),(λ_ _ _=>Jf (i:=0) (show(["part"]:List Str).Nodup by decide+kernel) FQ (Or.inl FQ)),Yi,Jp,Ja,by decide+kernel,λ_ _ _=>V3,λ_ _ _=>(Zj (Za (Zj Zc) (Za (Zb 0) Zc))),λ_=>rfl⟩))) Zz)
   (Ze (Zs (Zi (Z3 hu) (Zb 1) Zf) (Zg (Zp (Zv Jj (Ys (Za (Zj (Za (Zj Zc) (Za (Zm (Zb 0) Zd) Zc))) Zc)) (U0 (cN:=HJ) (cap:=[none,none,none]) (cl:=[]) (js:=([0]++([1]++([2]++[])))) (g:=(jG _ 3 (Sz (Xd 0) (Sz (Xd 1) (Sz (Xd 2) jH))))) ⟨FQ,(λ_=>Oe FQ (by decide+kernel) (by decide+kernel) FQ (by decide)),(J2 (Zm (Zb 0) Zd)),(λ_ _ _=>Es (n:=3) FQ (X3 (Jf (i:=0) (show(HJ:List Str).Nodup by decide+kernel) FQ (Or.inl FQ)) (X3 (Jf (i:=1) (show(HJ:List Str).Nodup by decide+kernel) FQ (Or.inl FQ)) (X3 (Jf (i:=2) (show(HJ:List Str).Nodup by decide+kernel) FQ (Or.inl FQ)) Lf)))),(zU (J7 Yi (J7 Yi (J7 Yi W9)))),(zV (V2 Jp Yi (V2 Jp Yi (V2 Jp Yi zX W9) (J7 Yi W9)) (J7 Yi (J7 Yi W9)))),(Eb (Vd Ja (Vd Ja (Vd Ja Ec))) (Yt (Yt (Yt Se)))),by decide+kernel,λ_ _ _=>V3,λ_ _ _=>(Zj (Za (Zb 1) (Za (Zb 2) Zc))),λ_=>rfl⟩)))) Zz)
   (Ze (Zs (Zi (Z3 hu) (Zb 1) Zf) (Zg (Zp (cP hP (Zt S.zbx hr (by rfl) (Za (Zm (Zb 0) Zd) (Za (Zm (Zb 0) Zd) Zc)))))) Zz)
   (Zg (Zp (Ys Zc)))))))))))⟩
abbrev T3:WV:=top 5
def O6:Zu ["pairs","body","names"] ["pairs","body"] (Zk T3):=by walk_at "sc"
def Qd:{W//SX 0 T3 ["pairs","body","names"] "let_scopes" W}:=⟨_,λhP T S hr=>by
  have nd:=O6.nd;exact(Ze (Zl (i:=2) nd (Qq Of (by rfl) T.zap S0 (Za (U0 (cN:=["name","part"]) (cap:=[none,none]) (cl:=[]) (js:=([0]++([1]++[]))) (g:=(jG _ 2 (Sz (Xd 0) (Sz (Xd 1) jH)))) ⟨FQ,(λ_=>Oe FQ (by decide+kernel) (by decide+kernel) FQ (by decide)),(J2 (Zb 0)),(λ_ _ _=>Es (n:=2) FQ (X3 (Jf (i:=0) (show(["name","part"]:List Str).Nodup by decide+kernel) FQ (Or.inl FQ)) (X3 (Jf (i:=1) (show(["name","part"]:List Str).Nodup by decide+kernel) FQ (Or.inl FQ)) Lf))),(zU (J7 Yi (J7 Yi W9))),(zV (V2 Jp Yi (V2 Jp Yi zX W9) (J7 Yi W9))),(Eb (Vd Ja (Vd Ja Ec)) (Yt (Yt Se))),by decide+kernel,λ_ _ _=>V3,λ_ _ _=>(Zb 0),λ_=>rfl⟩) Zc)))
   (Zg (Zp (Zv Jj (U0 (cN:=IC) (cap:=[none,none,some 2]) (cl:=(X1 _ _ [])) (js:=([0]++([1]++[]))) (g:=(jG _ 2 (Sz (Xd 0) (Sz (Xd 1) jH)))) ⟨FQ,(λok=>Tr ok FQ (by decide+kernel) (by decide+kernel) FQ FQ FQ),(J2 (Zb 0)),(λ_ _ _=>Es (n:=2) FQ (X3 (Jf (i:=0) (show(IC:List Str).Nodup by decide+kernel) FQ (Or.inl FQ)) (X3 (Jf (i:=1) (show(IC:List Str).Nodup by decide+kernel) FQ (Or.inl FQ)) Lf))),(zU (J7 Yi (J7 Yi W9))),(zV (V2 Jp Yi (V2 Jp Yi zX W9) (J7 Yi W9))),(Eb (Vd Ja (Vd Ja Ec)) (Yt (Yt Se))),by decide+kernel,λ_ _ _=>V3,λ_ _ _=>(Zj (Za (Zb 2) (Za (Zb 1) Zc))),λ_=>rfl⟩) (Ys (Za (Zj (Za (Zb 2) (Za (Zb 1) Zc))) Zc))))))⟩
abbrev Uh:WV:=top 6
def Ee:Zu HR ["body","steps"] (Zk Uh):=by walk_at "sc"
def Nh:{W//SX 0 Uh HR "rows_scopes" W}:=⟨_,λhP T S hr=>by
  exact pZ⟩
abbrev xD:WV:=top 8
def rB:Zu ["term","marks","given"] HL (Zk xD):=by walk_at "sc"
def oI:{W//SX 0 xD ["term","marks","given"] "put" W}:=⟨_,λhP T S hr=>by
  have nd:=rB.nd;exact(Ze (Zl (i:=2) nd (cP hP (Zt S.zbi hr (by rfl) (Za (Zb 0) (Za (Zb 1) Zc)))))
   (Zg (Zp (Dn (Zi Ho (Zb 2) X6) (Zb 0) (Zb 2)))))⟩
abbrev Uj:WV:=top 9
def Ef:Zu FZ HL (Zk Uj):=by walk_at "sc"
def V7:{W//SX 4 Uj FZ "changed" W}:=⟨_,λhP T S hr=>by
  exact(Zg (Zp (Dn (Uz (Zb 2)) X6 (cP hP (Zt S.zb1 hr (by rfl) (Za (Zb 0) (Za (Zb 3) Zc)))))))⟩
def V6:{W//SX 1 Uj FZ "changed" W}:=⟨_,λhP T S hr=>by
  have nd:=Ef.nd;have hu:=Yh hr;exact(Ze (Zl (i:=2) nd ol)
   (Ze (Zl (i:=3) nd (Ys Zc))
   (Ze (W1 PassesOwn.never FQ (J2 (cP hP (Zt S.zcg hr (by rfl) (Za (Zb 0) Zc)))) (Iv (n:=2) FQ (Wc (Jh (i:=4) nd) (Wc (Jh (i:=5) nd) Iw)) (Yt (Yt Se)))
   (Ze (Zl (i:=6) nd (Dn (Zi (Z3 hu) (Zb 4) (Zj Zc)) (Zb 1) (cP hP (Zt S.zce hr (by rfl) (Za (Zb 1) (Za (Zb 4) Zc))))))
   (Ze (Zl (i:=7) nd (Dn (Zi (cY hu) (Zb 6) Tq) X6 (cP hP (Zt S.zbi hr (by rfl) (Za (Zb 5) (Za (Zb 6) Zc))))))
   (Ze (Zs (Zi qD (Zb 7) X6) (Zg (Zl (i:=2) nd ol)) Zz)
   (Zg (Zw (Xt XZ YB YA Z9 Yk (Zb 3) (Za (Dn (Zi Ho (Zb 7) X6) (Zb 5) (Zb 7)) Zc))))))))
   (V7.2 hP T S hr))))⟩
def Oh:{W//SX 0 Uj FZ "changed" W}:=⟨_,λhP T S hr=>by
  have hu:=Yh hr;exact(Ze (Zs (Zi (Z3 hu) (Zm (Zb 0) Zd) Zf) (Zg (Zp (lN hu (Zb 1) (Zm (Zb 0) Zd) ⟨FQ,FQ,FQ,FQ⟩))) Zz)
   (V6.2 hP T S hr))⟩
abbrev N4:WV:=top 10
def Ed:Zu ["marks","names","left","name"] ["marks","names"] (Zk N4):=by walk_at "sc"
def I0:{W//SX 0 N4 ["marks","names","left","name"] "without" W}:=⟨_,λhP T S hr=>by
  have nd:=Ed.nd;have hu:=Yh hr;exact(Ze (Zs (pS (Uz (V5 (bW FQ) (by rfl) T.zck fQ (Za (U0 (cN:=["name","marks"]) (cap:=[none,some 0]) (cl:=(X1 _ _ [])) (js:=[0]) (g:=(Xd 0)) ⟨FQ,(λok=>Tr ok FQ (by decide+kernel) (by decide+kernel) FQ FQ FQ),(J2 (Zb 1)),(λ_ _ _=>Jf (i:=0) (show(["name","marks"]:List Str).Nodup by decide+kernel) FQ (Or.inl FQ)),Yi,Jp,Ja,by decide+kernel,λ_ _ _=>V3,λ_ _ _=>(Wn (cW hu) (Zb 0) (Zb 1) (by rfl)),λ_=>rfl⟩) Zc)))) (Zg (Zp (Zb 0))) Zz)
   (Ze (Zl (i:=2) nd (Qq ua (by rfl) T.zbh vY (Za (Zb 0) Zc)))
   (Ze (W1 PassesOwn.never FQ (J2 (Zb 1)) (Jh (i:=3) nd)
   (Zg (Zw (lP (Zb 2) (Zb 3) X6 ⟨FQ,FQ,FQ,FQ⟩))))
   (Zg (Zp (Zb 2))))))⟩
abbrev N5:WV:=top 14
def xG:Zu HQ HQ (Zk N5):=by walk_at "sc"
def A1:{W//SX 0 N5 HQ "is_mark" W}:=⟨_,λhP T S hr=>by
  have hu:=Yh hr;exact(Zg (Zp (Wn (uJ hu) (Zm (Zb 0) Zd) (bU (by rfl) T.g_MARKS) (by rfl))))⟩
abbrev Qy:WV:=top 15
def yQ:Zu HQ HQ (Zk Qy):=by walk_at "sc"
def D0:{W//SX 0 Qy HQ "is_value" W}:=⟨_,λhP T S hr=>by
  have hu:=Yh hr;exact(Zg (Zp (Wn (uJ hu) (Zm (Zb 0) Zd) (bU (by rfl) T.g_VALUES) (by rfl))))⟩
abbrev Qx:WV:=top 16
def Hm:Zu ["op","one","other","outcome"] II (Zk Qx):=by walk_at "sc"
def Dz:{W//SX 0 Qx ["op","one","other","outcome"] "reckoned" W}:=⟨_,λhP T S hr=>by
  have nd:=Hm.nd;have hu:=Yh hr;exact(Ze (Zs (Zi (Z3 hu) (Zb 0) Zf) (Zg (Zp (cP hP (Zt S.zbr hr (by rfl) (Za (Wn z0 (Zb 1) (Zb 2) (Xk _)) Zc))))) Zz)
   (Ze (Zs (Zi (Z3 hu) (Zb 0) Zf) (Zg (Zp (cP hP (Zt S.zbr hr (by rfl) (Za (Wn (Z3 hu) (Zb 1) (Zb 2) (Xk _)) Zc))))) Zz)
   (Ze (Zs (Zi (Z3 hu) (Zb 0) Zf) (Zg (Zl (i:=3) nd (Zv Jj (Zb 1) (Zb 2)))) (Zg (Zs (Zi (Z3 hu) (Zb 0) Zf) (Zg (Zl (i:=3) nd (Zv Jt (Zb 1) (Zb 2)))) (Zg (Zl (i:=3) nd (Zv O9 (Zb 1) (Zb 2)))))))
   (Zg (Zp (Zj (Za Zf (Za (Zv Yj (Zb 3) (Zv je Zd Zd)) Zc))))))))⟩
abbrev F7:WV:=top 17
def rA:Zu ["holds"] ["holds"] (Zk F7):=by walk_at "sc"
def um:{W//SX 0 F7 ["holds"] "truth" W}:=⟨_,λhP T S hr=>by
  exact(Zg (Zp (Zj (Za Zf (Za (Dn (Uz (Zb 0)) Zf Zf) (Za (Zj Zc) Zc))))))⟩
abbrev Ky:WV:=top 18
def B4:Zu ["value","alternatives","found"] GQ (Zk Ky):=by walk_at "sc"
def xg:{W//SX 0 Ky ["value","alternatives","found"] "picked" W}:=⟨_,λhP T S hr=>by
  have nd:=B4.nd;exact(Ze (Zl (i:=2) nd (cP hP (Zt S.zaz hr (by rfl) (Za (Zb 0) (Za (Zb 1) Zc)))))
   (Ze (Zs (Zi Ho (Zb 2) X6) (Zg (Zp X6)) Zz)
   (Zg (Zp (cP hP (Zt S.za7 hr (by rfl) (Za (Zm (Zb 2) Zd) (Za (Zbe FQ (by rfl) T.zbh (by rfl) T.zbp (Za (Zm (Zb 2) Zd) (Za (Zm (Zb 0) Zd) Zc))) Zc))))))))⟩
abbrev Wv:WV:=top 19
def Ti:Zu HU GQ (Zk Wv):=by walk_at "sc"
def S8:{W//SX 0 Wv HU "alternative_of" W}:=⟨_,λhP T S hr=>by
  have nd:=Ti.nd;have hu:=Yh hr;exact(Ze (Zs (Zi (mQ hu) (Zm (Zb 0) Zd) Zf) (Zg (Zp X6)) Zz)
   (Ze (W1 PassesOwn.never FQ (J2 (Zb 1)) (Jh (i:=2) nd)
   (Zg (Zs (Zi (Z3 hu) (Zm (Zb 2) Zd) (Zm (Zb 0) Zd)) (Zg (Zp (Zb 2))) Zz)))
   (Zg (Zp X6))))⟩
abbrev zg:WV:=top 20
def nF:Zu HS HS (Zk zg):=by walk_at "sc"
def oK:{W//SX 0 zg HS "fits" W}:=⟨_,λhP T S hr=>by
  have hu:=Yh hr;exact(Ze (Zs (Zi (Z3 hu) (Zm (Zb 1) Zd) Zf) (Zg (Zp (Wn (Z3 hu) (Zm (Zb 0) Zd) Zf (Xk _)))) Zz)
   (Ze (Zs (Zi (Z3 hu) (Zm (Zb 1) Zd) Zf) (Zg (Zp (Wn qD (cP hP (Zt S.zaz hr (by rfl) (Za (Zb 0) (Za (Zm (Zb 1) Zd) Zc)))) X6 (Xk _)))) Zz)
   (Ze (Zs (Os (Dj (Zi (Z3 hu) (Zm (Zb 1) Zd) Zf) (Ir (Zi (Z3 hu) (Zm (Zb 1) Zd) Zf)))) (Zg (Zp (Wn (Z3 hu) (Zm (Zb 0) Zd) Zf (Xk _)))) Zz)
   (Zg (Zp ol)))))⟩
abbrev Wi:WV:=Jg (top 22) 0
def N7:Zu HF HF (Zk Wi):=by walk_at "sc"
def Tw:{W//SX 0 Wi HF "Runner.__init__" W}:=⟨_,λhP T S hr=>by
  exact(Ze (Y5 (Zr T.zab Z0) (Zb 0) X6)
   (Ze (Y5 (Zr T.zan Z0) (Zb 0) Zd)
   (Ze (Y5 (Zr T.zag Z0) (Zb 0) (Ys Zc))
   (Ze (Y5 (Zr T.zal Z0) (Zb 0) (Ys (Za (Zj (Za (Zb 2) (Za (Zb 1) Zc))) Zc)))
   (Ze (Y5 (Zr T.zam Z0) (Zb 0) (Ys Zc))
   (Ze (Y5 (Zr T.zao Z0) (Zb 0) Tq)
   (Ze (Y5 (Zr T.zai Z0) (Zb 0) (Ys Zc))
   (Ze (Y5 (Zr T.zat Z0) (Zb 0) (Ys Zc))
   (Ze (Y5 (Zr T.zaf Z0) (Zb 0) Zd)
   (Ze (Y5 (Zr T.zak Z0) (Zb 0) Zd)
   (Ze (Y5 (Zr T.zaj Z0) (Zb 0) Zd)
   (Zg (Y5 (Zr T.zac Z0) (Zb 0) X6)))))))))))))⟩
abbrev Ry:WV:=Jg (top 22) 1
def zj:Zu GR GR (Zk Ry):=by walk_at "sc"
def Gj:{W//SX 0 Ry GR "Runner.go" W}:=⟨_,λhP T S hr=>by
  exact(Ze (Zw (mP hP (Ju (pl:=_) (Yl S.zbm Yv) hr (Zb 0) (Za (Zb 1) Zc))))
   (Zg (Zp (mP hP (Tp (pl:=_) (Yl S.zbn Yv) hr (Zb 0))))))⟩
abbrev Wz:WV:=Jg (top 22) 2
def Lc:Zu GR GR (Zk Wz):=by walk_at "sc"
def Rj:{W//SX 0 Wz GR "Runner.advance" W}:=⟨_,λhP T S hr=>by
  exact(Ze (Zw (mP hP (Tp (pl:=_) (Yl S.za0 Yv) hr (Zb 0))))
   (Zg (Pm PassesOwn.never (Os (Uy (Zi Ho (Yy (Zr T.zac Z0) (Zb 0)) X6) (Vf (Zi z0 (Yy (Zr T.zaf Z0) (Zb 0)) (Zb 1)))))
   (Ze (Y5 (Zr T.zaf Z0) (Zb 0) (Zv Jj (Yy (Zr T.zaf Z0) (Zb 0)) Zd))
   (Ze (Zw (mP hP (Tp (pl:=_) (Yl S.zbj Yv) hr (Zb 0))))
   (Zg (Zw (mP hP (Tp (pl:=_) (Yl S.za0 Yv) hr (Zb 0))))))))))⟩
abbrev Wx:WV:=Jg (top 22) 3
def Tj:Zu ["self","ending"] GL (Zk Wx):=by walk_at "sc"
def Rf:{W//SX 0 Wx ["self","ending"] "Runner.outcome" W}:=⟨_,λhP T S hr=>by
  have nd:=Tj.nd;exact(Ze (Zl (i:=1) nd (Dn (Zi Ho (Yy (Zr T.zac Z0) (Zb 0)) X6) (Zj (Za Zf (Za Zf Zc))) (Yy (Zr T.zac Z0) (Zb 0))))
   (Zg (Zp (Zj (Za (Zm (Zb 1) Zd) (Za (Zm (Zb 1) Zd) (Za (Zj (Za (Yy (Zr T.zaf Z0) (Zb 0)) (Za (Yy (Zr T.zak Z0) (Zb 0)) (Za (Yy (Zr T.zaj Z0) (Zb 0)) Zc)))) (Za (Qq fS (by rfl) T.zbz lZ (Za (Yy (Zr T.zat Z0) (Zb 0)) Zc)) Zc))))))))⟩
abbrev W7:WV:=Jg (top 22) 4
def K7:Zu GL GL (Zk W7):=by walk_at "sc"
def Qo:{W//SX 0 W7 GL "Runner.settle" W}:=⟨_,λhP T S hr=>by
  have hu:=Yh hr;exact(Zg (Pm PassesOwn.never (Zi Ho (Yy (Zr T.zac Z0) (Zb 0)) X6)
   (Zg (Zs (Zi Ho (Yy (Zr T.zab Z0) (Zb 0)) X6) (Zg (Zw (mP hP (Tp (pl:=_) (Yl S.zbe Yv) hr (Zb 0))))) (Zg (Zs (Zi (Z3 hu) (Zm (Yy (Zr T.zab Z0) (Zb 0)) Zd) Zf) (Zg (Y5 (Zr T.zac Z0) (Zb 0) (Zj (Za Zf (Za (Zm (Yy (Zr T.zab Z0) (Zb 0)) Zd) Zc))))) (Zg (Zs (pS (Uz (cP hP (Zt S.za9 hr (by rfl) (Za (Yy (Zr T.zab Z0) (Zb 0)) Zc))))) (Zg yb) (Zg (Zs (Zi (Z3 hu) (Yy (Zr T.zag Z0) (Zb 0)) (Ys Zc)) (Zg (Zw (mP hP (Tp (pl:=_) (Yl S.zbc Yv) hr (Zb 0))))) (Zg (Zs (Zi (Z3 hu) (Zm (Zm (Yy (Zr T.zag Z0) (Zb 0)) (Hv Zd)) Zd) Zf) (Zg (Zw (mP hP (Ju (pl:=_) (Yl S.zbg Yv) hr (Zb 0) (Za (Zm (mP hP (Tp (pl:=_) (Yl S.zas Yv) hr (Zb 0))) Zd) Zc))))) (Zg (Zs (Uz (cP hP (Zt S.zcj hr (by rfl) (Za (Yy (Zr T.zab Z0) (Zb 0)) (Za (Zm (Yy (Zr T.zag Z0) (Zb 0)) (Hv Zd)) Zc))))) (Zg yb) (Zg (Y5 (Zr T.zac Z0) (Zb 0) (Zj (Za Zf (Za Zf Zc)))))))))))))))))))⟩
abbrev Xx:WV:=Jg (top 22) 5
def Vv:Zu ["self","piece"] GL (Zk Xx):=by walk_at "sc"
def U5:{W//SX 0 Xx ["self","piece"] "Runner.tell_next" W}:=⟨_,λhP T S hr=>by
  have nd:=Vv.nd;have hu:=Yh hr;exact(Ze (Zs (Zi (Z3 hu) (Yy (Zr T.zal Z0) (Zb 0)) (Ys Zc)) (Ze (Y5 (Zr T.zac Z0) (Zb 0) (Zj (Za Zf (Za (Xt PySem.F.plainAttrs_str PySem.F.slot_str_join PySem.F.type_str_join sK qN Zf (Za (Yy (Zr T.zam Z0) (Zb 0)) Zc)) Zc))))
   (Zg yb)) Zz)
   (Ze (Zl (i:=1) nd (Ke XZ CC CD Z9 Li (Yy (Zr T.zal Z0) (Zb 0))))
   (Zg (Zs (Uz (kY (by rfl) T.za4 (by rfl) T.zaw Mj (by decide) (Zb 1))) (Zg (Zw (Xt XZ YB YA Z9 Yk (Yy (Zr T.zam Z0) (Zb 0)) (Za (Zb 1) Zc)))) (Zg (Zs (Zi Zaq (Zm (Zb 1) Zd) Zd) (Zg (Zw (Xt XZ YB YA Z9 Yk (Yy (Zr T.zam Z0) (Zb 0)) (Za Zf Zc)))) (Ze (Y5 (Zr T.zan Z0) (Zb 0) (Zm (Zb 1) Zd))
   (Zg (Y5 (Zr T.zab Z0) (Zb 0) (Zm (Zb 1) Zd))))))))))⟩
abbrev Xf:WV:=Jg (top 22) 6
def Q3:Zu GL GL (Zk Xf):=by walk_at "sc"
def Vw:{W//SX 0 Xf GL "Runner.tell_value" W}:=⟨_,λhP T S hr=>by
  exact(Ze (Zw (Xt XZ PySem.F.slot_list_extend PySem.F.type_list_extend Z9 jq (Yy (Zr T.zal Z0) (Zb 0)) (Za (fK FQ (by rfl) T.zbz (by rfl) T.zcd (cP hP (Zt S.zb9 hr (by rfl) (Za (Yy (Zr T.zab Z0) (Zb 0)) (Za (Zv Jt (Yy (Zr T.zan Z0) (Zb 0)) Zd) Zc))))) Zc)))
   (Zg (Y5 (Zr T.zab Z0) (Zb 0) X6)))⟩
abbrev Xy:WV:=Jg (top 22) 7
def Om:Zu GL GL (Zk Xy):=by walk_at "sc"
def U6:{W//SX 0 Xy GL "Runner.take_step" W}:=⟨_,λhP T S hr=>by
  exact(Zg (Zs (Uz (cP hP (Zt S.za9 hr (by rfl) (Za (Yy (Zr T.zab Z0) (Zb 0)) Zc)))) (Zg (Zw (mP hP (Ju (pl:=_) (Yl S.zbf Yv) hr (Zb 0) (Za (Yy (Zr T.zab Z0) (Zb 0)) (Za (mP hP (Tp (pl:=_) (Yl S.zas Yv) hr (Zb 0))) Zc)))))) (Zg (Zw (mP hP (Ju (pl:=_) (Yl S.zbb Yv) hr (Zb 0) (Za (Yy (Zr T.zab Z0) (Zb 0)) Zc)))))))⟩
abbrev Xh:WV:=Jg (top 22) 8
def Vh:Zu ["self","term","sort"] ["self","term"] (Zk Xh):=by walk_at "sc"
def Vy:{W//SX 0 Xh ["self","term","sort"] "Runner.take_apart" W}:=⟨_,λhP T S hr=>by
  have nd:=Vh.nd;have hu:=Yh hr;exact(Ze (Zl (i:=2) nd (Zm (Zb 1) Zd))
   (Zg (Zs (Zi (Z3 hu) (Zb 2) Zf) (Zg (Zw (mP hP (Ju (pl:=_) (Yl S.zae Yv) hr (Zb 0) (Za (Zm (Zb 1) Zd) (Za (Zj (Za Zf (Za (Zm (Zb 1) Zd) Zc))) Zc)))))) (Zg (Zs (Zi (Z3 hu) (Zb 2) Zf) (Zg (Zw (mP hP (Ju (pl:=_) (Yl S.zae Yv) hr (Zb 0) (Za (Zm (Zb 1) Zd) (Za (Zj (Za Zf (Za (Zm (Zb 1) Zd) (Za (Zm (Zb 1) Zd) Zc)))) Zc)))))) (Zg (Zs (Zi (Z3 hu) (Zb 2) Zf) (Zg (Zw (mP hP (Ju (pl:=_) (Yl S.zae Yv) hr (Zb 0) (Za (Zm (Zb 1) Zd) (Za (Zj (Za Zf (Za (Zm (Zb 1) Zd) Zc))) Zc)))))) (Zg (Zs (Zi (Z3 hu) (Zb 2) Zf) (Ze (Y5 (Zr T.zaj Z0) (Zb 0) (Zv Jj (Yy (Zr T.zaj Z0) (Zb 0)) Zd))
   (Zg (Zw (mP hP (Ju (pl:=_) (Yl S.zae Yv) hr (Zb 0) (Za (Zm (Zb 1) Zd) (Za (Zj (Za Zf (Za (Zm (Zb 1) Zd) Zc))) Zc))))))) (Zg (Zs (Zi (Z3 hu) (Zb 2) Zf) (Zg (Zw (mP hP (Ju (pl:=_) (Yl S.zbw Yv) hr (Zb 0) (Za (Zm (Zb 1) Zd) (Za (Zm (Zb 1) Zd) Zc)))))) (Zg (Zs (Zi (Z3 hu) (Zb 2) Zf) (Zg (Zw (mP hP (Ju (pl:=_) (Yl S.zbu Yv) hr (Zb 0) (Za (Zm (Zb 1) Zd) (Za (Zm (Zb 1) Zd) Zc)))))) (Zg (Zw (mP hP (Ju (pl:=_) (Yl S.zbs Yv) hr (Zb 0) (Za (Zm (Zb 1) Zd) Zc))))))))))))))))))⟩
abbrev Xw:WV:=Jg (top 22) 9
def Vu:Zu ["self","value","frame","mark"] HY (Zk Xw):=by walk_at "sc"
def U4:{W//SX 0 Xw ["self","value","frame","mark"] "Runner.use_value" W}:=⟨_,λhP T S hr=>by
  have nd:=Vu.nd;have hu:=Yh hr;exact(Zg (Zs (Zi (Z3 hu) (Zm (Zb 2) Zd) Zf) (Ze (Zl (i:=3) nd (mP hP (Ju (pl:=_) (Yl S.zax Yv) hr (Zb 0) (Za (Zm (Zb 1) Zd) (Za (Zm (Zb 2) Zd) Zc)))))
   (Zg (Y5 (Zr T.zab Z0) (Zb 0) (cP hP (Zt S.za7 hr (by rfl) (Za (Zm (Zb 1) Zd) (Za (lQ (Zm (Zb 1) Zd) (Zb 3)) Zc))))))) (Zg (Zs (Zi (Z3 hu) (Zm (Zb 2) Zd) Zf) (Zg (Y5 (Zr T.zab Z0) (Zb 0) (cP hP (Zt S.zch hr (by rfl) (Za (Zb 1) (Za (Zm (Zb 2) Zd) Zc)))))) (Zg (Zs (Zi (Z3 hu) (Zm (Zb 2) Zd) Zf) (Zg (Zw (mP hP (Ju (pl:=_) (Yl S.zae Yv) hr (Zb 0) (Za (Zm (Zb 2) Zd) (Za (Zj (Za Zf (Za (Zm (Zb 2) Zd) (Za (Zm (Zb 1) Zd) Zc)))) Zc)))))) (Zg (Zs (Zi (Z3 hu) (Zm (Zb 2) Zd) Zf) (Zg (Y5 (Zr T.zab Z0) (Zb 0) (cP hP (Zt S.zcb hr (by rfl) (Za (Zm (Zb 2) Zd) (Za (Zm (Zb 2) Zd) (Za (Zm (Zb 1) Zd) Zc))))))) (Zg (Y5 (Zr T.zab Z0) (Zb 0) (Zm (Zb 2) Zd)))))))))))⟩
abbrev Wy:WV:=Jg (top 22) 10
def Lb:Zu HG HG (Zk Wy):=by walk_at "sc"
def Ri:{W//SX 0 Wy HG "Runner.go_into" W}:=⟨_,λhP T S hr=>by
  exact(Ze (Zw (Xt XZ YB YA Z9 Yk (Yy (Zr T.zag Z0) (Zb 0)) (Za (Zb 2) Zc)))
   (Zg (Y5 (Zr T.zab Z0) (Zb 0) (Zb 1))))⟩
abbrev Xg:WV:=Jg (top 22) 11
def Q4:Zu GL GL (Zk Xg):=by walk_at "sc"
def Vx:{W//SX 0 Xg GL "Runner.take_frame" W}:=⟨_,λhP T S hr=>by
  exact(Zg (Zp (Ke XZ CC CD Z9 Li (Yy (Zr T.zag Z0) (Zb 0)))))⟩
abbrev Up:WV:=Jg (top 22) 12
def Q6:Zu HK IA (Zk Up):=by walk_at "sc"
def Nv:{W//SX 0 Up HK "Runner.bind" W}:=⟨_,λhP T S hr=>by
  have nd:=Q6.nd;have hu:=Yh hr;exact(Ze (Zl (i:=3) nd Tq)
   (Ze (W1 PassesOwn.never FQ (J2 (Zb 1)) (Iv (n:=2) FQ (Wc (Jh (i:=4) nd) (Wc (Jh (i:=5) nd) Iw)) (Yt (Yt Se)))
   (Zg (Y6 (mP hP (Ju (pl:=_) (Yl S.za3 Yv) hr (Zb 0) (Za (Zb 4) Zc))) (Yr hu (Zb 3) (Zb 4)))))
   (Ze (W1 PassesOwn.never FQ (J2 (Zb 1)) (Iv (n:=2) FQ (Wc (Jh (i:=4) nd) (Wc (Jh (i:=5) nd) Iw)) (Yt (Yt Se)))
   (Zg (Zw (mP hP (Ju (pl:=_) (Yl S.za2 Yv) hr (Zb 0) (Za (Zm (Z8 hu (Zb 3) (Zb 4) (λ_ _=>rfl)) Zd) (Za (cP hP (Zt S.za7 hr (by rfl) (Za (Zb 5) (Za (Zb 3) Zc)))) Zc)))))))
   (Zg (Y5 (Zr T.zab Z0) (Zb 0) (cP hP (Zt S.za7 hr (by rfl) (Za (Zb 2) (Za (Zb 3) Zc)))))))))⟩
abbrev Xi:WV:=Jg (top 22) 13
def Q5:Zu GD HZ (Zk Xi):=by walk_at "sc"
def Rh:{W//SX 3 Xi GD "Runner.make" W}:=⟨_,λhP T S hr=>by
  exact(Zg (Y5 (Zr T.zab Z0) (Zb 0) (Zj (Za Zf (Za (Zb 1) (Za (Qq Of (by rfl) T.zap S0 (Za (Zb 3) Zc)) Zc))))))⟩
def Rg:{W//SX 1 Xi GD "Runner.make" W}:=⟨_,λhP T S hr=>by
  have nd:=Q5.nd;exact(Ze (Zl (i:=3) nd (Ys Zc))
   (Ze (W1 PassesOwn.never FQ (fI (by rfl) T.za6 (Za (Zb 2) Zc)) (Iv (n:=2) FQ (Wc (Jh (i:=4) nd) (Wc (Jh (i:=5) nd) Iw)) (Yt (Yt Se)))
   (Zg (Zw (Xt XZ YB YA Z9 Yk (Zb 3) (Za (mP hP (Ju (pl:=_) (Yl S.zax Yv) hr (Zb 0) (Za (oh (yd (bV (Zb 1)) (yd Zf (yd (bV (Zb 4)) fG)))) (Za (Zb 5) Zc)))) Zc)))))
   (Rh.2 hP T S hr)))⟩
def Nt:{W//SX 0 Xi GD "Runner.make" W}:=⟨_,λhP T S hr=>by
  have hu:=Yh hr;exact(Ze (Zs (Zi (Z3 hu) (Zb 1) Zf) (Zg (Y5 (Zr T.zak Z0) (Zb 0) (Zv Jj (Yy (Zr T.zak Z0) (Zb 0)) Zd))) Zz)
   (Rg.2 hP T S hr))⟩
abbrev Wh:WV:=Jg (top 22) 14
def Uu:Zu ["self","label","text","mark"] IB (Zk Wh):=by walk_at "sc"
def Tv:{W//SX 0 Wh ["self","label","text","mark"] "Runner.mark_for" W}:=⟨_,λhP T S hr=>by
  have nd:=Uu.nd;exact(Ze (Zs (Uz (cP hP (Zt S.zcf hr (by rfl) (Za (Zb 2) Zc)))) (Zg (Zp (Zb 2))) Zz)
   (Ze (Zl (i:=3) nd (mP hP (Ju (pl:=_) (Yl S.za3 Yv) hr (Zb 0) (Za (Zb 1) Zc))))
   (Ze (Zw (mP hP (Ju (pl:=_) (Yl S.za2 Yv) hr (Zb 0) (Za (Zm (Zb 3) Zd) (Za (Zb 2) Zc)))))
   (Zg (Zp (Zb 3))))))⟩
abbrev Uq:WV:=Jg (top 22) 15
def Q7:Zu ["self","label","number"] ["self","label"] (Zk Uq):=by walk_at "sc"
def Nw:{W//SX 0 Uq ["self","label","number"] "Runner.bear" W}:=⟨_,λhP T S hr=>by
  have nd:=Q7.nd;exact(Ze (Zl (i:=2) nd (V5 Xm (by rfl) T.zad BY (Za (Yy (Zr T.zai Z0) (Zb 0)) Zc)))
   (Ze (Zw (Xt XZ YB YA Z9 Yk (Yy (Zr T.zai Z0) (Zb 0)) (Za (Zb 1) Zc)))
   (Ze (Zw (mP hP (Ju (pl:=_) (Yl S.zar Yv) hr (Zb 0) (Za Zf (Za (Zb 2) Zc)))))
   (Zg (Zp (Zj (Za Zf (Za (Zb 2) Zc))))))))⟩
abbrev Um:WV:=Jg (top 22) 16
def Eg:Zu GZ GZ (Zk Um):=by walk_at "sc"
def Nr:{W//SX 0 Um GZ "Runner.note" W}:=⟨_,λhP T S hr=>by
  exact(Zg (Zw (Xt XZ YB YA Z9 Yk (Yy (Zr T.zat Z0) (Zb 0)) (Za (Zj (Za (Zb 1) (Za (Zb 2) (Za (Zm (Yy (Zr T.zai Z0) (Zb 0)) (Zb 2)) (Za (Yy (Zr T.zaf Z0) (Zb 0)) Zc))))) Zc))))⟩
abbrev Uo:WV:=Jg (top 22) 17
def Ei:Zu HC HC (Zk Uo):=by walk_at "sc"
def Nu:{W//SX 0 Uo HC "Runner.keep" W}:=⟨_,λhP T S hr=>by
  have hu:=Yh hr;exact(Zg (Y6 (Zb 2) (Yr hu (Yy (Zr T.zao Z0) (Zb 0)) (Zb 1))))⟩
abbrev Vm:WV:=Jg (top 22) 18
def Go:Zu GN GN (Zk Vm):=by walk_at "sc"
def P8:{W//SX 0 Vm GN "Runner.enter" W}:=⟨_,λhP T S hr=>by
  have hu:=Yh hr;exact(Ze (Zw (mP hP (Ju (pl:=_) (Yl S.zar Yv) hr (Zb 0) (Za Zf (Za (Zb 1) Zc)))))
   (Zg (Zw (mP hP (Ju (pl:=_) (Yl S.zae Yv) hr (Zb 0) (Za (Z8 hu (Yy (Zr T.zao Z0) (Zb 0)) (Zb 1) (λ_ _=>rfl)) (Za (Zj (Za Zf (Za (Zb 1) Zc))) Zc)))))))⟩
abbrev Xz:WV:=Jg (top 22) 19
def On:Zu GN GN (Zk Xz):=by walk_at "sc"
def U7:{W//SX 0 Xz GN "Runner.come_back" W}:=⟨_,λhP T S hr=>by
  exact(Zg (Zw (mP hP (Ju (pl:=_) (Yl S.zar Yv) hr (Zb 0) (Za Zf (Za (Zb 1) Zc))))))⟩
abbrev Rq:WV:=top 23
def M5:Zu IE ["value","depth"] (Zk Rq):=by walk_at "sc"
def Hz:{W//SX 0 Rq IE "pieces_of" W}:=⟨_,λhP T S hr=>by
  have nd:=M5.nd;have hu:=Yh hr;exact(Ze (Zs (Zi (Z3 hu) (Zm (Zb 0) Zd) Zf) (Zg (Zp (Ys (Za (Qq Dv (by rfl) T.zaw Mj (Za (Zm (Zb 0) Zd) Zc)) Zc)))) Zz)
   (Ze (Zs (Zi (Z3 hu) (Zm (Zb 0) Zd) Zf) (Zg (Zp (Ys (Za Zf Zc)))) Zz)
   (Ze (Zs (Zi (Z3 hu) (Zm (Zb 0) Zd) (Zj Zc)) (Zg (Zp (Ys (Za (Zm (Zb 0) Zd) Zc)))) Zz)
   (Ze (Zl (i:=2) nd (Ys (Za (Zv Jj Zf (Zm (Zb 0) Zd)) Zc)))
   (Ze (W1 PassesOwn.never FQ (J2 (Zm (Zb 0) Zd)) (Jh (i:=3) nd)
   (Zg (Zw (Xt XZ PySem.F.slot_list_extend PySem.F.type_list_extend Z9 jq (Zb 2) (Za (Ys (Za Zf (Za (Zj (Za (Zb 1) (Za (Zb 3) Zc))) Zc))) Zc)))))
   (Zg (Zp (Zv Jj (Zb 2) (Ys (Za Zf Zc))))))))))⟩
abbrev T2:WV:=top 25
def iN:Zu GS GS (Zk T2):=by walk_at "sc"
def iw:{W//SX 0 T2 GS "run" W}:=⟨_,λhP T S hr=>by
  exact(Zg (Zp (mP hP (Ju (pl:=_) (Yl S.zb4 Yv) hr (cP hP (bT S.zci hr (by rfl) (Za (Zb 0) (Za (Zb 1) Zc)))) (Za (Zb 2) Zc)))))⟩
abbrev T4:WV:=top 27
def O7:Zu HW IH (Zk T4):=by walk_at "sc"
def Kh:{W//SX 0 T4 HW "_law_mixed" W}:=⟨_,λhP T S hr=>by
  have nd:=O7.nd;exact(Ze (Zl (i:=2) nd (Zv Yj (Zv O9 (Zv Jj (Zb 0) (Zv O9 Zd (Zb 1))) Zd) Zd))
   (Ze (Zl (i:=2) nd (Zv Yj (Zv O9 (Zb 2) (Zb 2)) Zd))
   (Zg (Zp (Zv Yj (Zv O9 (Zb 2) (Zv Jj (Zb 2) (Zv O9 Zd (Zb 1)))) Zd)))))⟩
abbrev Ww:WV:=top 28
def Q0:Zu GB GM (Zk Ww):=by walk_at "sc"
def S9:{W//SX 2 Ww GB "_law_digits" W}:=⟨_,λhP T S hr=>by
  exact(Zg (Zp (Dm (Zb 2) Qa (J9 (Zb 1)))))⟩
def Nn:{W//SX 0 Ww GB "_law_digits" W}:=⟨_,λhP T S hr=>by
  have nd:=Q0.nd;have hu:=Yh hr;exact(Ze (Zl (i:=2) nd (Ys Zc))
   (Ze (Zs (Os (Uy (Zi xU (V5 Xm (by rfl) T.zad BY (Za (Zb 0) Zc)) Zd) (Vf (Zi (Z3 hu) (Zv Yj (Zm (Zb 0) Zd) Zd) Zd)))) (Zg (W1 PassesOwn.never FQ (J2 (Dm (Zb 0) (J9 Zd) (J9 Zd))) (Jh (i:=3) nd)
   (Ze (Zl (i:=4) nd (Zv Yj (Zb 3) (Zv Ie (Zv Ie Zd Zd) Zd)))
   (Ze (Zw (Xt XZ YB YA Z9 Yk (Zb 2) (Za (Zv Yj (Zb 4) (Zv Ie Zd Zd)) Zc)))
   (Ze (Zl (i:=4) nd (Zv qE (Zb 4) (Zv Ie Zd Zd)))
   (Zg (Pm PassesOwn.never (Os (Uy (Zi xU (Zb 4) Zd) (Vf (Zi z0 (V5 Xm (by rfl) T.zad BY (Za (Zb 2) Zc)) (Zb 1)))))
   (Ze (Zw (Xt XZ YB YA Z9 Yk (Zb 2) (Za (Zv Yj (Zb 4) (Zv Ie Zd Zd)) Zc)))
   (Zg (Zl (i:=4) nd (Zv qE (Zb 4) (Zv Ie Zd Zd)))))))))))) Zz)
   (S9.2 hP T S hr)))⟩
abbrev Vc:WV:=top 29
def O8:Zu GG GM (Zk Vc):=by walk_at "sc"
def Qn:{W//SX 2 Vc GG "_law_draws" W}:=⟨_,λhP T S hr=>by
  exact(Zg (Zp (Zb 2)))⟩
def Ki:{W//SX 0 Vc GG "_law_draws" W}:=⟨_,λhP T S hr=>by
  have nd:=O8.nd;exact(Ze (Zl (i:=2) nd (cP hP (Zt S.zbt hr (by rfl) (Za (Zb 0) (Za (Zb 1) Zc)))))
   (Ze (W1 PassesOwn.never FQ (bQ (by rfl) T.za1 (Za (V5 Xm (by rfl) T.zad BY (Za (Zb 2) Zc)) (Za (Zb 1) Zc))) (Jh (i:=3) nd)
   (Ze (Zl (i:=4) nd Zd)
   (Ze (Zs (Zi xU (V5 Xm (by rfl) T.zad BY (Za (Zb 0) Zc)) Zd) (Zg (Zl (i:=4) nd (Zv Yj (Zm (Zb 0) (Zv Yj (Zb 3) (V5 Xm (by rfl) T.zad BY (Za (Zb 0) Zc)))) (Zv je Zd Zd)))) Zz)
   (Ze (Zs (Zi Zas (Zb 3) (V5 Xm (by rfl) T.zad BY (Za (Zb 0) Zc))) (Zg (Zl (i:=4) nd (cP hP (Zt S.zb2 hr (by rfl) (Za (Zb 4) (Za (Zb 3) Zc)))))) Zz)
   (Zg (Zw (Xt XZ YB YA Z9 Yk (Zb 2) (Za (Zb 4) Zc))))))))
   (Qn.2 hP T S hr)))⟩
abbrev Ru:WV:=top 30
def M8:Zu GF IK (Zk Ru):=by walk_at "sc"
def Ge:{W//SX 0 Ru GF "_law_pool" W}:=⟨_,λhP T S hr=>by
  have nd:=M8.nd;have hu:=Yh hr;exact(Ze (Zl (i:=1) nd (Ys Zc))
   (Ze (Zl (i:=2) nd Zf)
   (Ze (W1 PassesOwn.never FQ (pY (by rfl) T.za1 (Za Zd Zc)) (Jh (i:=3) nd)
   (Ze (Zl (i:=4) nd (Ke XZ CC CD Z9 Li (Zb 0)))
   (Ze (Zl (i:=5) nd (Zv Jj (Zm Zf (Zv Yj (Zb 3) Zd)) (Zm (Zb 2) (Zv Yj (Zb 4) Zd))))
   (Ze (W1 PassesOwn.never FQ (pY (by rfl) T.za1 (Za (Zv Yj (Zv Xa (Zb 4) Zd) Zd) Zc)) (Jh (i:=6) nd)
   (Zg (Zl (i:=5) nd (Zv Jj (Zb 5) (Zm (Zb 2) (Zv Yj (Zv Jj (Zv Xa (Zb 4) Zd) (Zv O9 (Zv O9 Zd (Zb 6)) (Zb 6))) Zd))))))
   (Ze (Zs (Os (Dj (Zi (uJ hu) (Zb 5) (Zb 1) (by rfl)) (Ir (Zi (Z3 hu) (Zb 5) Zf)))) (Zg (Zl (i:=5) nd (Zv Jj Zf (Qq Dv (by rfl) T.zaw Mj (Za (Zb 3) Zc))))) Zz)
   (Zg (Zw (Xt XZ YB YA Z9 Yk (Zb 1) (Za (Zb 5) Zc)))))))))
   (Zg (Zp (Zb 1))))))⟩
abbrev Xv:WV:=top 31
def Vt:Zu IG ["_law_k"] (Zk Xv):=by walk_at "sc"
def U3:{W//SX 0 Xv IG "_law_ill_matched" W}:=⟨_,λhP T S hr=>by
  have nd:=Vt.nd;exact(Ze (Zl (i:=1) nd (Zj (Za Zf (Za Zf (Za (Zj Zc) Zc)))))
   (Ze (Zl (i:=2) nd (Ys (Za (Zj (Za Zf (Za Zd Zc))) (Za (Zj (Za Zf (Za Zf (Za (Zj Zc) Zc)))) (Za (Zb 1) (Za (Zj (Za Zf (Za Zf (Za (Zj (Za Zf (Za Zf Zc))) Zc)))) Zc))))))
   (Ze (Zl (i:=2) nd (Zv Jj (Zb 2) (Ys (Za (Zj (Za Zf (Za Zf (Za (Zj (Za (Zj (Za Zf (Za Zd Zc))) (Za (Zb 1) Zc))) Zc)))) (Za (Zj (Za Zf (Za Zf (Za (Zj (Za (Zj (Za Zf (Za Zd Zc))) (Za (Zb 1) Zc))) Zc)))) Zc)))))
   (Zg (Zp (Zm (Zb 2) (Zb 0)))))))⟩
abbrev Y0:WV:=top 32
def Vz:Zu FU HD (Zk Y0):=by walk_at "sc"
def P7:{W//SX 10 Y0 FU "_law_leaf" W}:=⟨_,λhP T S hr=>by
  have nd:=Vz.nd;exact(Ze (Zl (i:=5) nd (Zj (Za Zf (Za Zf (Za (Zj (Za (Zj (Za Zf (Za (Zv Yj (Zv Xa (Zb 1) Zd) Zd) Zc))) (Za (Zb 4) Zc))) Zc)))))
   (Zg (Zp (Zm (Ys (Za (Zb 4) (Za (Zb 5) (Za (Zj (Za Zf (Za Zf (Za (Zj (Za (Zj (Za Zf (Za (Zv Yj (Zv Xa (Zb 1) Zd) Zd) Zc))) (Za (Zb 5) Zc))) Zc)))) Zc)))) (Zv Yj (Zv Xa (Zb 1) Zd) Zd)))))⟩
def P6:{W//SX 8 Y0 FU "_law_leaf" W}:=⟨_,λhP T S hr=>by
  have nd:=Vz.nd;have hu:=Yh hr;exact(Ze (Zl (i:=4) nd (Zj (Za Zf (Za Zf (Za (Zj Zc) Zc)))))
   (Ze (Zs (Zi (Z3 hu) (Zb 0) Zf) (Zg (Zp (Zj (Za Zf (Za Zf (Za (Zj (Za (Zj (Za Zf (Za (Zv Yj (Zb 1) (Zv je Zd Zd)) Zc))) (Za (Zb 4) Zc))) Zc)))))) Zz)
   (P7.2 hP T S hr)))⟩
def P5:{W//SX 7 Y0 FU "_law_leaf" W}:=⟨_,λhP T S hr=>by
  have hu:=Yh hr;exact(Ze (Zs (Zi (Z3 hu) (Zb 0) Zf) (Zg (Zp (Zj (Za Zf (Za Zf (Za (Zj (Za Zf (Za (Zm Zf (Zv Yj (Zv Xa (Zb 1) Zd) Zd)) (Za (Zj (Za Zf (Za (Zv Yj (Zv Xa (Zb 1) Zd) Zd) Zc))) (Za (Zj (Za Zf (Za Zf Zc))) Zc))))) Zc)))))) Zz)
   (P6.2 hP T S hr))⟩
def P4:{W//SX 6 Y0 FU "_law_leaf" W}:=⟨_,λhP T S hr=>by
  have hu:=Yh hr;exact(Ze (Zs (Zi (Z3 hu) (Zb 0) Zf) (Zg (Zp (Zj (Za Zf (Za (Zm (Ys (Za Zf (Za Zf Zc))) (Zv Yj (Zv Xa (Zb 1) Zd) Zd)) (Za (Zj Zc) Zc)))))) Zz)
   (P5.2 hP T S hr))⟩
def P3:{W//SX 5 Y0 FU "_law_leaf" W}:=⟨_,λhP T S hr=>by
  have hu:=Yh hr;exact(Ze (Zs (Zi (Z3 hu) (Zb 0) Zf) (Zg (Zp (Zj (Za Zf (Za (Zm (Ys (Za (Zv Yj (Zv Xa (Zb 1) Zd) Zd) (Za (Zv Yj (Zv O9 (Zb 1) Zd) (Zv je Zd Zd)) Zc))) (Zv Yj (Zv Xa (Zb 1) Zd) Zd)) Zc))))) Zz)
   (P4.2 hP T S hr))⟩
def P0:{W//SX 4 Y0 FU "_law_leaf" W}:=⟨_,λhP T S hr=>by
  exact(Ze (Zs (pT z0 z0 Zd (Zv Yj (Zb 1) Zd) Zd) (Zg (Zp (cP hP (Zt S.zbd hr (by rfl) (Za (Zv Jt (Zv Yj (Zb 1) Zd) Zd) Zc))))) Zz)
   (P3.2 hP T S hr))⟩
def Pz:{W//SX 3 Y0 FU "_law_leaf" W}:=⟨_,λhP T S hr=>by
  have hu:=Yh hr;exact(Ze (Zs (Zi (Z3 hu) (Zv Yj (Zb 1) Zd) Zd) (Zg (Zp (Zj (Za Zf (Za (Zv Jj Zf (Qq Dv (by rfl) T.zaw Mj (Za (Zv Yj (Zv Xa (Zb 1) Zd) Zd) Zc))) Zc))))) Zz)
   (P0.2 hP T S hr))⟩
def Py:{W//SX 2 Y0 FU "_law_leaf" W}:=⟨_,λhP T S hr=>by
  have hu:=Yh hr;exact(Ze (Zs (Os (Uy (Zi (Z3 hu) (Zv Yj (Zb 1) Zd) Zd) (Uy (Zi (Z3 hu) (Zv Yj (Zv Xa (Zb 1) Zd) Zd) Zd) (Vf (Zi xU (V5 Xm (by rfl) T.zad BY (Za (Zb 2) Zc)) Zd))))) (Zg (Zp (Zj (Za Zf (Za (Zm (Zm (Zb 2) (Zv Yj (Zv Xa (Zb 1) Zd) (V5 Xm (by rfl) T.zad BY (Za (Zb 2) Zc)))) Zd) Zc))))) Zz)
   (Pz.2 hP T S hr))⟩
def Gg:{W//SX 0 Y0 FU "_law_leaf" W}:=⟨_,λhP T S hr=>by
  have nd:=Vz.nd;have hu:=Yh hr;exact(Ze (Mg (k:=3) (cN:=["_law_pair","_law_kind"]) (cap:=[none,some 0]) (cl:=(X1 _ _ [])) (js:=[0]) (g:=(Xd 0)) nd FQ FQ FQ ⟨FQ,(λok=>Tr ok FQ (by decide+kernel) (by decide+kernel) FQ FQ FQ),(J2 (Zb 2)),(λ_ _ _=>Jf (i:=0) (show(["_law_pair","_law_kind"]:List Str).Nodup by decide+kernel) FQ (Or.inl FQ)),Yi,Jp,Ja,by decide+kernel,λ_ _ _=>(Kb (Zi (Z3 hu) (Zm (Zb 0) Zd) (Zb 1))),λ_ _ _=>(Zm (Zb 0) Zd),λ_=>rfl⟩)
   (Ze (Zs (Os (Uy (Zi xU (V5 Xm (by rfl) T.zad BY (Za (Zb 3) Zc)) Zd) (Vf (Zi xU (Zv Yj (Zb 1) Zd) Zd)))) (Zg (Zp (Zj (Za Zf (Za (Zm (Zb 3) (Zv Yj (Zv Xa (Zb 1) Zd) (V5 Xm (by rfl) T.zad BY (Za (Zb 3) Zc)))) Zc))))) Zz)
   (Py.2 hP T S hr)))⟩
abbrev T5:WV:=top 33
def Cv:Zu GC GC (Zk T5):=by walk_at "sc"
def Kj:{W//SX 0 T5 GC "_law_bound" W}:=⟨_,λhP T S hr=>by
  have hu:=Yh hr;exact(Zg (Zp (Zv Jj (U0 (cN:=["_law_pair","_law_name"]) (cap:=[none,some 1]) (cl:=(X1 _ _ [])) (js:=[0]) (g:=(Xd 0)) ⟨FQ,(λok=>Tr ok FQ (by decide+kernel) (by decide+kernel) FQ FQ FQ),(J2 (Zb 0)),(λ_ _ _=>Jf (i:=0) (show(["_law_pair","_law_name"]:List Str).Nodup by decide+kernel) FQ (Or.inl FQ)),Yi,Jp,Ja,by decide+kernel,λ_ _ _=>(Kb (Zi (mQ hu) (Zm (Zb 0) Zd) (Zb 1))),λ_ _ _=>(Zb 0),λ_=>rfl⟩) (Ys (Za (Zj (Za (Zb 1) (Za (Zb 2) Zc))) Zc)))))⟩
abbrev J3:WV:=top 34
def Wk:Zu FT FW (Zk J3):=by walk_at "sc"
def Nm:{W//SX 5 J3 FT "_law_own" W}:=⟨_,λhP T S hr=>by
  have nd:=Wk.nd;have hu:=Yh hr;exact(Ze (Zl (i:=6) nd (cP hP (Zt S.zaa hr (by rfl) (Za Zf (Za (Zb 2) (Za (Zb 3) (Za (Zb 4) (Za (Zv Jt (Zb 5) Zd) Zc))))))))
   (Zg (Zp (Zj (Za Zf (Za (Zm (Ys (Za Zf (Za Zf Zc))) (Qq vZ (by rfl) T.za8 yp (Za (Wn (Z3 hu) (Zb 0) Zf (Xk _)) Zc))) (Za (Zj (Za (Zb 6) (Za (cP hP (Zt S.zaa hr (by rfl) (Za Zf (Za (Zb 2) (Za (Zb 3) (Za (Zb 4) (Za (Zv Jt (Zb 5) Zd) Zc))))))) Zc))) Zc)))))))⟩
def Nl:{W//SX 4 J3 FT "_law_own" W}:=⟨_,λhP T S hr=>by
  have nd:=Wk.nd;have hu:=Yh hr;exact(Ze (Zs (Os (Uy (Zi (Z3 hu) (Zb 0) Zf) (Vf (Zi (Z3 hu) (Zv Yj (Zb 1) Zd) Zd)))) (Ze (Zl (i:=6) nd (cP hP (Zt S.zaa hr (by rfl) (Za Zf (Za (Zb 2) (Za (Zb 3) (Za (Zb 4) (Za (Zv Jt (Zb 5) Zd) Zc))))))))
   (Zg (Zp (Zj (Za Zf (Za (Zj (Za Zf (Za (Zj (Za Zf (Za Zf Zc))) (Za (Zb 6) Zc)))) (Za (cP hP (Zt S.zaa hr (by rfl) (Za Zf (Za (Zb 2) (Za (Zb 3) (Za (Zb 4) (Za (Zv Jt (Zb 5) Zd) Zc))))))) Zc))))))) Zz)
   (Nm.2 hP T S hr))⟩
def Nk:{W//SX 3 J3 FT "_law_own" W}:=⟨_,λhP T S hr=>by
  have hu:=Yh hr;exact(Ze (Zs (Os (Uy (Zi (Z3 hu) (Zb 0) Zf) (Vf (Zi (Z3 hu) (Zv Yj (Zb 1) Zd) Zd)))) (Zg (Zp (Zj (Za Zf (Za (Zj (Za Zf (Za Zf Zc))) (Za (cP hP (Zt S.zaa hr (by rfl) (Za Zf (Za (Zb 2) (Za (Zb 3) (Za (Zb 4) (Za (Zv Jt (Zb 5) Zd) Zc))))))) Zc)))))) Zz)
   (Nl.2 hP T S hr))⟩
def Nj:{W//SX 2 J3 FT "_law_own" W}:=⟨_,λhP T S hr=>by
  have nd:=Wk.nd;have hu:=Yh hr;exact(Ze (Zs (Zi (Z3 hu) (Zb 0) Zf) (Ze (Zl (i:=8) nd (Zm (Zb 4) (Zv Yj (Zb 1) (V5 Xm (by rfl) T.zad BY (Za (Zb 4) Zc)))))
   (Zg (Zp (Zj (Za Zf (Za (Zb 8) (Za (cP hP (Zt S.zaa hr (by rfl) (Za Zf (Za (Zb 2) (Za (cP hP (Zt S.zah hr (by rfl) (Za (Zb 3) (Za (Zb 8) (Za Zf Zc))))) (Za (Zb 4) (Za (Zv Jt (Zb 5) Zd) Zc))))))) Zc))))))) Zz)
   (Nk.2 hP T S hr))⟩
def Ni:{W//SX 1 J3 FT "_law_own" W}:=⟨_,λhP T S hr=>by
  have nd:=Wk.nd;have hu:=Yh hr;exact(Ze (Zs (Zi (uJ hu) (Zb 0) Zf (by rfl)) (Ze (Zl (i:=6) nd (cP hP (Zt S.zaa hr (by rfl) (Za Zf (Za (Zb 2) (Za (Zb 3) (Za (Zb 4) (Za (Zv Jt (Zb 5) Zd) Zc))))))))
   (Ze (Zl (i:=7) nd (cP hP (Zt S.zaa hr (by rfl) (Za Zf (Za (Zb 2) (Za (Zb 3) (Za (Zb 4) (Za (Zv Jt (Zb 5) Zd) Zc))))))))
   (Ze (Zs (Zi (Z3 hu) (Zb 0) Zf) (Zg (Zp (Zj (Za Zf (Za (Zm Zf (Zv Yj (Zv Xa (Zb 1) Zd) Zd)) (Za (Zb 6) (Za (Zb 7) Zc))))))) Zz)
   (Zg (Zp (Zj (Za Zf (Za (Zm Zf (Zv Yj (Zv Xa (Zb 1) Zd) Zd)) (Za (Zb 6) (Za (Zb 7) Zc)))))))))) Zz)
   (Nj.2 hP T S hr))⟩
def D3:{W//SX 0 J3 FT "_law_own" W}:=⟨_,λhP T S hr=>by
  have nd:=Wk.nd;have hu:=Yh hr;exact(Ze (Zs (Os (Uy (Zi (Z3 hu) (Zb 0) Zf) (Vf (Zi (Z3 hu) (Zv Yj (Zb 1) Zd) Zd)))) (Ze (Zl (i:=6) nd (cP hP (Zt S.zaa hr (by rfl) (Za Zf (Za (Zb 2) (Za (Zb 3) (Za (Zb 4) (Za (Zv Jt (Zb 5) Zd) Zc))))))))
   (Zg (Zp (Zj (Za Zf (Za (Zb 6) (Za (cP hP (Zt S.zaa hr (by rfl) (Za Zf (Za (Zb 2) (Za (Zb 3) (Za (Zb 4) (Za (Zv Jt (Zb 5) Zd) Zc))))))) Zc))))))) Zz)
   (Ni.2 hP T S hr))⟩
abbrev Xe:WV:=top 35
def Ut:Zu FV FW (Zk Xe):=by walk_at "sc"
def Rb:{W//SX 7 Xe FV "_law_choice" W}:=⟨_,λhP T S hr=>by
  exact(Zg (Zp (Zj (Za Zf (Za (Zb 6) (Za (Zj (Za (Zj (Za Zf (Za (Zj Zc) (Za (cP hP (Zt S.za5 hr (by rfl) (Za (Zb 0) (Za (Zv Xa (Zb 1) Zd) (Za (Zb 3) Zc))))) Zc)))) (Za (Zj (Za Zf (Za (Zj (Za (Zb 8) (Za (Zb 9) Zc))) (Za (Zb 11) Zc)))) Zc))) Zc))))))⟩
def Ra:{W//SX 1 Xe FV "_law_choice" W}:=⟨_,λhP T S hr=>by
  have nd:=Ut.nd;have hu:=Yh hr;exact(Ze (Zl (i:=8) nd (Zm (Zb 4) (Zv Yj (Zv Xa (Zb 1) Zd) (V5 Xm (by rfl) T.zad BY (Za (Zb 4) Zc)))))
   (Ze (Zl (i:=9) nd (Zm (U0 (cN:=["_law_name","_law_head"]) (cap:=[none,some 8]) (cl:=(X1 _ _ [])) (js:=[0]) (g:=(Xd 0)) ⟨FQ,(λok=>Tr ok FQ (by decide+kernel) (by decide+kernel) FQ FQ FQ),(J2 (Zb 4)),(λ_ _ _=>Jf (i:=0) (show(["_law_name","_law_head"]:List Str).Nodup by decide+kernel) FQ (Or.inl FQ)),Yi,Jp,Ja,by decide+kernel,λ_ _ _=>(Kb (Zi (mQ hu) (Zb 0) (Zb 1))),λ_ _ _=>(Zb 0),λ_=>rfl⟩) Zd))
   (Ze (Zl (i:=6) nd (cP hP (Zt S.zaa hr (by rfl) (Za (Zm Zf (Zv Jt (Zv Yj (Zb 1) Zd) Zd)) (Za (Zb 2) (Za (Zb 3) (Za (Zb 4) (Za (Zv Jt (Zb 5) Zd) Zc))))))))
   (Ze (Zl (i:=10) nd (cP hP (Zt S.zah hr (by rfl) (Za (cP hP (Zt S.zah hr (by rfl) (Za (Zb 3) (Za (Zb 8) (Za Zf Zc))))) (Za (Zb 9) (Za Zf Zc))))))
   (Ze (Zl (i:=11) nd (cP hP (Zt S.zaa hr (by rfl) (Za (Zb 0) (Za (Zb 2) (Za (Zb 10) (Za (Zb 4) (Za (Zv Jt (Zb 5) Zd) Zc))))))))
   (Ze (Zs (Zi (Z3 hu) (Zv Yj (Zb 1) Zd) Zd) (Zg (Zp (Zj (Za Zf (Za (Zb 6) (Za (Zj (Za (Zj (Za Zf (Za (Zj (Za (Zb 8) (Za (Zb 9) Zc))) (Za (Zb 11) Zc)))) Zc)) Zc)))))) Zz)
   (Rb.2 hP T S hr)))))))⟩
def Np:{W//SX 0 Xe FV "_law_choice" W}:=⟨_,λhP T S hr=>by
  have nd:=Ut.nd;have hu:=Yh hr;exact(Ze (Zs (Zi (Z3 hu) (Zv Yj (Zb 1) Zd) Zd) (Ze (Zl (i:=6) nd (cP hP (Zt S.zaa hr (by rfl) (Za Zf (Za (Zb 2) (Za (Zb 3) (Za (Zb 4) (Za (Zv Jt (Zb 5) Zd) Zc))))))))
   (Ze (Zl (i:=7) nd (cP hP (Zt S.zaa hr (by rfl) (Za (Zb 0) (Za (Zb 2) (Za (Zb 3) (Za (Zb 4) (Za (Zv Jt (Zb 5) Zd) Zc))))))))
   (Zg (Zp (Zj (Za Zf (Za (Zb 6) (Za (Zj (Za (Zj (Za Zf (Za (Zj Zc) (Za (Zb 7) Zc)))) (Za (Zj (Za Zf (Za (Zj Zc) (Za (cP hP (Zt S.zaa hr (by rfl) (Za (Zb 0) (Za (Zb 2) (Za (Zb 3) (Za (Zb 4) (Za (Zv Jt (Zb 5) Zd) Zc))))))) Zc)))) Zc))) Zc)))))))) Zz)
   (Ra.2 hP T S hr))⟩
abbrev Yz:WV:=top 36
def J6:Zu FR GA (Zk Yz):=by walk_at "sc"
def Px:{W//SX 18 Yz FR "_law_term" W}:=⟨_,λhP T S hr=>by
  exact(Zg (Zp (Zj (Za Zf (Za (Qq Of (by rfl) T.zap S0 (Za (Zb 12) Zc)) (Za (cP hP (Zt S.zaa hr (by rfl) (Za (Zb 0) (Za (Zb 1) (Za (Zb 10) (Za (Zb 3) (Za (Zv Jt (Zb 4) Zd) Zc))))))) Zc))))))⟩
def Pw:{W//SX 15 Yz FR "_law_term" W}:=⟨_,λhP T S hr=>by
  have nd:=J6.nd;have hu:=Yh hr;exact(Ze (Zl (i:=12) nd (Ys (Za (Zj (Za (Zb 9) (Za (cP hP (Zt S.zaa hr (by rfl) (Za (Zb 7) (Za (Zb 1) (Za (Zb 10) (Za (Zb 3) (Za (Zv Jt (Zb 4) Zd) Zc))))))) Zc))) Zc)))
   (Ze (Zw (Xt XZ PySem.F.slot_list_insert PySem.F.type_list_insert Z9 jp (Zb 12) (Za (Zv Yj (Zv Xa (Zb 5) Zd) Zd) (Za (Zj (Za (Zm (Zb 11) Zd) (Za (cP hP (Zt S.zaa hr (by rfl) (Za Zf (Za (Zb 1) (Za (Zb 10) (Za (Zb 3) (Za (Zv Jt (Zb 4) Zd) Zc))))))) Zc))) Zc))))
   (Ze (Zs (Zi (Z3 hu) (Zv Yj (Zv Xa (Zb 5) Zd) Zd) Zd) (Zg (Zw (Xt XZ PySem.F.slot_list_insert PySem.F.type_list_insert Z9 jp (Zb 12) (Za (Zv Yj (Zv Xa (Zb 5) Zd) Zd) (Za (Zj (Za (Zm (Zb 11) Zd) (Za (cP hP (Zt S.zaa hr (by rfl) (Za Zf (Za (Zb 1) (Za (Zb 10) (Za (Zb 3) (Za (Zv Jt (Zb 4) Zd) Zc))))))) Zc))) Zc))))) Zz)
   (Px.2 hP T S hr))))⟩
def Pu:{W//SX 12 Yz FR "_law_term" W}:=⟨_,λhP T S hr=>by
  have nd:=J6.nd;have hu:=Yh hr;exact(Ze (Mg (k:=11) (cN:=["_law_one","_law_name"]) (cap:=[none,some 9]) (cl:=(X1 _ _ [])) (js:=[0]) (g:=(Xd 0)) nd FQ FQ FQ ⟨FQ,(λok=>Tr ok FQ (by decide+kernel) (by decide+kernel) FQ FQ FQ),(J2 (Zb 3)),(λ_ _ _=>Jf (i:=0) (show(["_law_one","_law_name"]:List Str).Nodup by decide+kernel) FQ (Or.inl FQ)),Yi,Jp,Ja,by decide+kernel,λ_ _ _=>(Kb (Zi (mQ hu) (Zb 0) (Zb 1))),λ_ _ _=>(Zb 0),λ_=>rfl⟩)
   (Ze (Zl (i:=10) nd (cP hP (Zt S.zah hr (by rfl) (Za (Zb 10) (Za (Zm (Zb 11) Zd) (Za Zf Zc))))))
   (Ze (Zs (Zi (Z3 hu) (Zv Yj (Zv Xa (Zb 5) Zd) Zd) Zd) (Zg (Zl (i:=10) nd (cP hP (Zt S.zah hr (by rfl) (Za (Zb 10) (Za (Zm (Zb 11) Zd) (Za Zf Zc))))))) Zz)
   (Pw.2 hP T S hr))))⟩
def Pt:{W//SX 9 Yz FR "_law_term" W}:=⟨_,λhP T S hr=>by
  have nd:=J6.nd;have hu:=Yh hr;exact(Ze (Zl (i:=9) nd (Zm (Zb 3) (Zv Yj (Zv Xa (Zb 5) Zd) (V5 Xm (by rfl) T.zad BY (Za (Zb 3) Zc)))))
   (Ze (Zl (i:=10) nd (cP hP (Zt S.zah hr (by rfl) (Za (Zb 2) (Za (Zb 9) (Za (Zb 7) Zc))))))
   (Ze (Zs (Zi (Z3 hu) (Zb 6) Zd) (Ze (Zl (i:=8) nd (cP hP (Zt S.zaa hr (by rfl) (Za (Zb 7) (Za (Zb 1) (Za (Zb 2) (Za (Zb 3) (Za (Zv Jt (Zb 4) Zd) Zc))))))))
   (Zg (Zp (Zj (Za Zf (Za (Zj (Za Zf (Za (Zb 9) (Za (cP hP (Zt S.zaa hr (by rfl) (Za (Zb 0) (Za (Zb 1) (Za (Zb 10) (Za (Zb 3) (Za (Zv Jt (Zb 4) Zd) Zc))))))) Zc)))) (Za (Zb 8) Zc))))))) Zz)
   (Pu.2 hP T S hr))))⟩
def Ps:{W//SX 7 Yz FR "_law_term" W}:=⟨_,λhP T S hr=>by
  have nd:=J6.nd;have hu:=Yh hr;exact(Ze (Zl (i:=7) nd (Zm Zf (Zv Yj (Zb 5) Zd)))
   (Ze (Zs (Zi (Z3 hu) (Zb 6) Zd) (Ze (Zl (i:=8) nd (cP hP (Zt S.zaa hr (by rfl) (Za (Zb 7) (Za (Zb 1) (Za (Zb 2) (Za (Zb 3) (Za (Zv Jt (Zb 4) Zd) Zc))))))))
   (Zg (Zp (Zj (Za Zf (Za (Zb 8) (Za (cP hP (Zt S.zaa hr (by rfl) (Za (Zb 0) (Za (Zb 1) (Za (Zb 2) (Za (Zb 3) (Za (Zv Jt (Zb 4) Zd) Zc))))))) Zc))))))) Zz)
   (Pt.2 hP T S hr)))⟩
def Pr:{W//SX 6 Yz FR "_law_term" W}:=⟨_,λhP T S hr=>by
  have hu:=Yh hr;exact(Ze (Zs (Zi (Z3 hu) (Zb 6) Zd) (Zg (Zp (cP hP (Zt S.zbv hr (by rfl) (Za (Zb 0) (Za (Zb 5) (Za (Zb 1) (Za (Zb 2) (Za (Zb 3) (Za (Zb 4) Zc)))))))))) Zz)
   (Ps.2 hP T S hr))⟩
def Pp:{W//SX 3 Yz FR "_law_term" W}:=⟨_,λhP T S hr=>by
  have nd:=J6.nd;exact(Ze (Zl (i:=6) nd (Zv Yj (Zb 5) Zd))
   (Ze (Zl (i:=5) nd (Zv Xa (Zb 5) Zd))
   (Ze (Zs (Zi z0 (Zb 6) Zd) (Zg (Zp (cP hP (Zt S.zcc hr (by rfl) (Za (Zb 0) (Za (Zb 5) (Za (Zb 1) (Za (Zb 2) (Za (Zb 3) (Za (Zb 4) Zc)))))))))) Zz)
   (Pr.2 hP T S hr))))⟩
def Po:{W//SX 2 Yz FR "_law_term" W}:=⟨_,λhP T S hr=>by
  have hu:=Yh hr;exact(Ze (Zs (Os (Dj (Zi (Z3 hu) (Zb 4) Zd) (Dj (Zi (Z3 hu) (V5 Xm (by rfl) T.zad BY (Za (Zb 1) Zc)) Zd) (Ir (Zi (Z3 hu) (Zv Yj (Zb 5) Zd) Zd))))) (Zg (Zp (cP hP (Zt S.za5 hr (by rfl) (Za (Zb 0) (Za (Zv Xa (Zb 5) Zd) (Za (Zb 2) Zc))))))) Zz)
   (Pp.2 hP T S hr))⟩
def Gb:{W//SX 0 Yz FR "_law_term" W}:=⟨_,λhP T S hr=>by
  have nd:=J6.nd;exact(Ze (Zl (i:=5) nd Zd)
   (Ze (Zs (Zi xU (V5 Xm (by rfl) T.zad BY (Za (Zb 1) Zc)) Zd) (Zg (Zl (i:=5) nd (Xt XZ CC CD Z9 mX (Zb 1) (Za Zd Zc)))) Zz)
   (Po.2 hP T S hr)))⟩
abbrev Rx:WV:=top 37
def La:Zu HX [] (Zk Rx):=by walk_at "sc"
def Gi:{W//SX 0 Rx HX "_law_each" W}:=⟨_,λhP T S hr=>by
  have nd:=La.nd;exact(Ze (Zl (i:=0) nd (Zj (Za Zf (Za (Zj (Za Zf (Za (Zj (Za Zf (Za Zf Zc))) (Za (Zj (Za Zf (Za Zf Zc))) Zc)))) (Za (Zj (Za Zf (Za Zf Zc))) Zc)))))
   (Ze (Zl (i:=1) nd (Zj (Za Zf (Za Zf (Za (Zj (Za (Zj (Za Zf (Za (Zj (Za Zf (Za Zf Zc))) (Za (Zj (Za Zf (Za Zf Zc))) Zc)))) (Za (Zb 0) Zc))) Zc)))))
   (Ze (Zl (i:=2) nd (Zj (Za (Zj (Za Zf (Za (Zj Zc) (Za (Zj (Za Zf (Za Zf (Za (Zj Zc) Zc)))) Zc)))) (Za (Zj (Za Zf (Za (Zj (Za Zf (Za Zf Zc))) (Za (Zb 1) Zc)))) Zc))))
   (Zg (Zp (Zj (Za Zf (Za Zf (Za (Zj (Za Zf (Za Zf (Za (Zj (Za Zf (Za (Zj (Za Zf (Za Zf Zc))) (Za (Zb 2) Zc)))) Zc)))) Zc)))))))))⟩
abbrev Uk:WV:=top 38
def Q1:Zu FX GH (Zk Uk):=by walk_at "sc"
def No:{W//SX 0 Uk FX "_law_closed" W}:=⟨_,λhP T S hr=>by
  have nd:=Q1.nd;exact(Ze (Zl (i:=4) nd (Zv Jj (Zv Jj Zf (Dm (Zm (Zb 2) Zd) (J9 Zd) (J9 Zd))) Zf))
   (Ze (Zl (i:=5) nd (Zv Jj (Zv Jj Zf (Dm (Zm (Zb 2) Zd) (J9 Zd) (J9 Zd))) Zf))
   (Ze (Zl (i:=6) nd (Ys (Za (Zj (Za (Zb 4) (Za Zf Zc))) (Za (Zj (Za (Zb 5) (Za Zf Zc))) Zc))))
   (Ze (Zl (i:=7) nd (Zj (Za Zf (Za (Zj (Za Zf (Za Zf Zc))) (Za (Zj (Za Zf (Za Zf (Za (Zj (Za Zf (Za Zf Zc))) (Za (Zj (Za Zf (Za Zd Zc))) Zc))))) Zc)))))
   (Ze (Zl (i:=8) nd (Zj (Za Zf (Za Zf (Za (Zj (Za Zf (Za Zf (Za (Zj (Za (Zj (Za Zf (Za Zf Zc))) (Za (Zb 7) Zc))) Zc)))) Zc)))))
   (Ze (Zl (i:=9) nd (cP hP (Zt S.zaa hr (by rfl) (Za Zf (Za (Dm (Zb 1) Qa (J9 Zd)) (Za (Zb 6) (Za (Zb 2) (Za Zd Zc))))))))
   (Ze (Zl (i:=10) nd (cP hP (Zt S.zaa hr (by rfl) (Za Zf (Za (Dm (Zb 1) (J9 Zd) (J9 Zd)) (Za (Zb 6) (Za (Zb 2) (Za Zd Zc))))))))
   (Ze (Zl (i:=11) nd (Zj (Za (Zj (Za Zf (Za (Zb 8) Zc))) (Za (Zj (Za (Zb 4) (Za (Zb 9) Zc))) (Za (Zj (Za Zf (Za (cP hP (lS S.zb5 hr (by rfl))) Zc))) (Za (Zj (Za (Zb 5) (Za (Zb 10) Zc))) Zc))))))
   (Zg (Zp (Zj (Za Zf (Za (Zb 11) (Za (cP hP (Zt S.zaa hr (by rfl) (Za (Zb 0) (Za (Dm (Zb 1) (J9 Zd) Qa) (Za (Zb 6) (Za (Zb 2) (Za (Zb 3) Zc))))))) Zc))))))))))))))⟩
abbrev Rv:WV:=top 39
def M9:Zu HH GX (Zk Rv):=by walk_at "sc"
def Gf:{W//SX 0 Rv HH "_law_note" W}:=⟨_,λhP T S hr=>by
  have nd:=M9.nd;have hu:=Yh hr;exact(Ze (Zl (i:=3) nd (Zm (Zm (Z8 hu (Zb 0) Zf (λ_ _=>rfl)) (Zb 2)) Zd))
   (Zg (Zw (Xt XZ YB YA Z9 Yk (Z8 hu (Zb 0) Zf (λ_ _=>rfl)) (Za (Zj (Za (Zb 1) (Za (Zb 2) (Za (Zb 3) (Za (Z8 hu (Zb 0) Zf (λ_ _=>rfl)) Zc))))) Zc)))))⟩
abbrev T6:WV:=top 40
def Cw:Zu FY FY (Zk T6):=by walk_at "sc"
def Kk:{W//SX 0 T6 FY "_law_birth" W}:=⟨_,λhP T S hr=>by
  have hu:=Yh hr;exact(Ze (Zw (Xt XZ YB YA Z9 Yk (Z8 hu (Zb 0) Zf (λ_ _=>rfl)) (Za (Zj (Za (Zb 2) (Za (Zb 3) (Za (Zb 1) Zc)))) Zc)))
   (Ze (Zw (cP hP (Zt S.zay hr (by rfl) (Za (Zb 0) (Za Zf (Za (Zv Jt (V5 Xm (by rfl) T.zad BY (Za (Z8 hu (Zb 0) Zf (λ_ _=>rfl)) Zc)) Zd) Zc))))))
   (Zg (Zp (Zv Jt (V5 Xm (by rfl) T.zad BY (Za (Z8 hu (Zb 0) Zf (λ_ _=>rfl)) Zc)) Zd)))))⟩
abbrev Ul:WV:=top 41
def Q2:Zu GI GP (Zk Ul):=by walk_at "sc"
def Nq:{W//SX 0 Ul GI "_law_around" W}:=⟨_,λhP T S hr=>by
  have nd:=Q2.nd;have hu:=Yh hr;exact(Ze (Zl (i:=3) nd (Qq ua (by rfl) T.zbh vY (Za (Zb 0) Zc)))
   (Ze (W1 PassesOwn.never FQ (pX (by rfl) T.zbp (Za (Zb 1) (Za (Zb 2) Zc))) (Iv (n:=2) FQ (Wc (Jh (i:=4) nd) (Wc (Jh (i:=5) nd) Iw)) (Yt (Yt Se)))
   (Zg (Y6 (Zb 5) (Yr hu (Zb 3) (Zb 4)))))
   (Zg (Zp (Zb 3)))))⟩
abbrev Rs:WV:=top 42
def M6:Zu GV HE (Zk Rs):=by walk_at "sc"
def Ga:{W//SX 0 Rs GV "_law_told" W}:=⟨_,λhP T S hr=>by
  have nd:=M6.nd;have hu:=Yh hr;exact(Ze (Zl (i:=1) nd (Z8 hu (Zb 0) Zf (λ_ _=>rfl)))
   (Ze (Y6 X6 (Yr hu (Zb 0) Zf))
   (Zg (Zs (Zi (Z3 hu) (Zm (Zb 1) Zd) Zf) (Zg (Zw (Xt XZ YB YA Z9 Yk (Z8 hu (Zb 0) Zf (λ_ _=>rfl)) (Za (Qq Dv (by rfl) T.zaw Mj (Za (Zm (Zb 1) Zd) Zc)) Zc)))) (Zg (Zs (Zi (Z3 hu) (Zm (Zb 1) Zd) Zf) (Zg (Zw (Xt XZ YB YA Z9 Yk (Z8 hu (Zb 0) Zf (λ_ _=>rfl)) (Za Zf Zc)))) (Zg (Zs (Zi (Z3 hu) (V5 Xm (by rfl) T.zad BY (Za (Zm (Zb 1) Zd) Zc)) Zd) (Zg (Zw (Xt XZ YB YA Z9 Yk (Z8 hu (Zb 0) Zf (λ_ _=>rfl)) (Za (Zm (Zb 1) Zd) Zc)))) (Ze (Zw (Xt XZ YB YA Z9 Yk (Z8 hu (Zb 0) Zf (λ_ _=>rfl)) (Za (Zv Jj (Zv Jj Zf (Zm (Zb 1) Zd)) Zf) Zc)))
   (Ze (Zl (i:=2) nd (Zv Jt (Z8 hu (Zb 0) Zf (λ_ _=>rfl)) Zd))
   (Ze (Zl (i:=3) nd (Zj (Za (Zj (Za Zf (Za (Zm (Zm (Zb 1) Zd) Zd) Zc))) (Za Tq (Za (Zb 2) Zc)))))
   (Ze (Zl (i:=4) nd (Zj (Za (Zj (Za Zf (Za (Zm (Zm (Zb 1) Zd) Zd) Zc))) (Za Tq (Za (Zb 2) Zc)))))
   (Zg (Y6 (Zv Jj (Z8 hu (Zb 0) Zf (λ_ _=>rfl)) (Ys (Za Zf (Za (Zb 4) (Za Zf (Za (Zb 3) Zc)))))) (Yr hu (Zb 0) Zf)))))))))))))))⟩
abbrev Qz:WV:=top 43
def Hn:Zu HV HE (Zk Qz):=by walk_at "sc"
def D4:{W//SX 0 Qz HV "_law_end" W}:=⟨_,λhP T S hr=>by
  have nd:=Hn.nd;have hu:=Yh hr;exact(Zg (Pm PassesOwn.never (Uz ol)
   (Ze (Zl (i:=1) nd (Z8 hu (Zb 0) Zf (λ_ _=>rfl)))
   (Zg (Zs (Zi Ho (Zb 1) X6) (Ze (Zs (Zi (Z3 hu) (V5 Xm (by rfl) T.zad BY (Za (Z8 hu (Zb 0) Zf (λ_ _=>rfl)) Zc)) Zd) (Zg (Zp Zf)) Zz)
   (Ze (Zl (i:=2) nd (Ke XZ CC CD Z9 Li (Z8 hu (Zb 0) Zf (λ_ _=>rfl))))
   (Zg (Zs (Uz (kY (by rfl) T.za4 (by rfl) T.zaw Mj (by decide) (Zb 2))) (Zg (Zw (Xt XZ YB YA Z9 Yk (Z8 hu (Zb 0) Zf (λ_ _=>rfl)) (Za (Zb 2) Zc)))) (Zg (Zs (Zi (Z3 hu) (Zm (Zb 2) Zd) Zd) (Zg (Zw (Xt XZ YB YA Z9 Yk (Z8 hu (Zb 0) Zf (λ_ _=>rfl)) (Za Zf Zc)))) (Ze (Y6 (Zm (Zb 2) Zd) (Yr hu (Zb 0) Zf))
   (Ze (Y6 (Zm (Zb 2) Zd) (Yr hu (Zb 0) Zf))
   (Zg (Y6 (Zm (Zb 2) Zd) (Yr hu (Zb 0) Zf))))))))))) (Zg (Zs (Zi (mO hu) (Zm (Zb 1) Zd) (Ys (Za Zf (Za Zf (Za Zf Zc)))) (by rfl)) (Zg (Zp (Zm (Ys (Za Zf (Za Zf Zc))) (Qq vZ (by rfl) T.za8 yp (Za (Wn (Z3 hu) (Zm (Zb 1) Zd) Zf (Xk _)) Zc))))) (Zg (Zs (Zi (Z3 hu) (V5 Xm (by rfl) T.zad BY (Za (Z8 hu (Zb 0) Zf (λ_ _=>rfl)) Zc)) Zd) (Zg (Zw (cP hP (Zt S.zb7 hr (by rfl) (Za (Zb 0) Zc))))) (Zg (Zs (Zi (Z3 hu) (Zm (Zm (Z8 hu (Zb 0) Zf (λ_ _=>rfl)) (Hv Zd)) Zd) Zf) (Zg (Zw (cP hP (Zt S.zay hr (by rfl) (Za (Zb 0) (Za Zf (Za (Zm (Ke XZ CC CD Z9 Li (Z8 hu (Zb 0) Zf (λ_ _=>rfl))) Zd) Zc))))))) (Zg (Zs (Uz (cP hP (Zt S.zb8 hr (by rfl) (Za (Zm (Z8 hu (Zb 0) Zf (λ_ _=>rfl)) (Hv Zd)) (Za (Zb 1) Zc))))) (Zg (Zp Zf)) (Zg (Zp Zf)))))))))))))))⟩
abbrev Rw:WV:=top 44
def zi:Zu GU GU (Zk Rw):=by walk_at "sc"
def Gh:{W//SX 0 Rw GU "_law_fits" W}:=⟨_,λhP T S hr=>by
  have hu:=Yh hr;exact(Ze (Zs (Zi (Z3 hu) (Zm (Zb 0) Zd) Zf) (Zg (Zp (kZ (Wn (Z3 hu) (Zm (Zb 1) Zd) Zf (Xk _)) (vV (Wn (uJ hu) (Zm (Zb 1) Zd) (U0 (cN:=["_law_one"]) (cap:=[none]) (cl:=[]) (js:=[0]) (g:=(Xd 0)) ⟨FQ,(λ_=>Oe FQ (by decide+kernel) (by decide+kernel) FQ (by decide)),(J2 (Zm (Zb 0) Zd)),(λ_ _ _=>Jf (i:=0) (show(["_law_one"]:List Str).Nodup by decide+kernel) FQ (Or.inl FQ)),Yi,Jp,Ja,by decide+kernel,λ_ _ _=>V3,λ_ _ _=>(Zm (Zb 0) Zd),λ_=>rfl⟩) (by rfl)))))) Zz)
   (Ze (Zs (Zi (Z3 hu) (Zm (Zb 0) Zd) Zf) (Zg (Zp (Wn (Z3 hu) (Zm (Zb 1) Zd) Zf (Xk _)))) Zz)
   (Zg (Zp (bS (Wn (Z3 hu) (Zm (Zb 0) Zd) Zf (Xk _)) (vV (Wn (Z3 hu) (Zm (Zb 1) Zd) Zf (Xk _))))))))⟩
abbrev Wf:WV:=top 45
def Ur:Zu GJ HB (Zk Wf):=by walk_at "sc"
def Ts:{W//SX 0 Wf GJ "_law_value_step" W}:=⟨_,λhP T S hr=>by
  have nd:=Ur.nd;have hu:=Yh hr;exact(Ze (Zl (i:=3) nd (Z8 hu (Zb 0) Zf (λ_ _=>rfl)))
   (Ze (Y6 (Zm (Zb 2) (Hv Zd)) (Yr hu (Zb 0) Zf))
   (Zg (Zs (Zi (Z3 hu) (Zm (Zb 2) Zd) Zf) (Ze (Zs (Zi (Z3 hu) (Zm (Zm (Zb 2) Zd) Zd) Zf) (Zg (Zl (i:=4) nd (Z8 hu (Zm (Zb 2) Zd) (Zm (Zm (Zb 2) Zd) Zd) (λ_ _=>rfl)))) (Zg (Zl (i:=4) nd (cP hP (Zt S.zav hr (by rfl) (Za (Zb 0) (Za (Zm (Zb 1) Zd) (Za (Zm (Zb 2) Zd) (Za (Zm (Zb 2) Zd) Zc)))))))))
   (Ze (Y6 (Zm (Zb 1) Zd) (Yr hu (Zb 0) Zf))
   (Zg (Y6 (cP hP (Zt S.zaq hr (by rfl) (Za (Zb 3) (Za (Ys (Za (Zm (Zb 1) Zd) Zc)) (Za (Ys (Za (Zb 4) Zc)) Zc))))) (Yr hu (Zb 0) Zf))))) (Zg (Zs (Zi (Z3 hu) (Zm (Zb 2) Zd) Zf) (Ze (Zl (i:=5) nd (Zm (U0 (cN:=["_law_one","_law_hand"]) (cap:=[none,some 1]) (cl:=(X1 _ _ [])) (js:=[0]) (g:=(Xd 0)) ⟨FQ,(λok=>Tr ok FQ (by decide+kernel) (by decide+kernel) FQ FQ FQ),(J2 (Zm (Zb 2) Zd)),(λ_ _ _=>Jf (i:=0) (show(["_law_one","_law_hand"]:List Str).Nodup by decide+kernel) FQ (Or.inl FQ)),Yi,Jp,Ja,by decide+kernel,λ_ _ _=>(Kb (Zi (Z3 hu) (Zm (Zb 0) Zd) (Zm (Zb 1) Zd))),λ_ _ _=>(Zb 0),λ_=>rfl⟩) Zd))
   (Ze (Y6 (Zm (Zb 5) Zd) (Yr hu (Zb 0) Zf))
   (Zg (Y6 (cP hP (Zt S.zaq hr (by rfl) (Za (Zm (Zb 2) Zd) (Za (Zm (Zb 5) Zd) (Za (Zm (Zb 1) Zd) Zc))))) (Yr hu (Zb 0) Zf))))) (Zg (Zs (Zi (Z3 hu) (Zm (Zb 2) Zd) Zf) (Ze (Y6 (Zm (Zb 2) Zd) (Yr hu (Zb 0) Zf))
   (Zg (Zw (Xt XZ YB YA Z9 Yk (Z8 hu (Zb 0) Zf (λ_ _=>rfl)) (Za (Zj (Za Zf (Za (Zm (Zb 2) Zd) (Za (Zm (Zb 1) Zd) (Za Tq Zc))))) Zc))))) (Zg (Zs (Zi (Z3 hu) (Zm (Zb 2) Zd) Zf) (Zg (Y6 (cP hP (Zt S.zbo hr (by rfl) (Za (Zm (Zb 2) Zd) (Za (Zm (Zb 2) Zd) (Za (Zm (Zb 1) Zd) Zc))))) (Yr hu (Zb 0) Zf))) (Zg (Y6 (Zm (Zb 2) Zd) (Yr hu (Zb 0) Zf)))))))))))))⟩
abbrev W5:WV:=top 46
def Sn:Zu GY HI (Zk W5):=by walk_at "sc"
def Ql:{W//SX 0 W5 GY "_law_reckoned" W}:=⟨_,λhP T S hr=>by
  have nd:=Sn.nd;have hu:=Yh hr;exact(Ze (Zs (Os (Dj (Zi (Z3 hu) (Zb 0) Zf) (Ir (Zi (Z3 hu) (Zb 0) Zf)))) (Ze (Zl (i:=3) nd (bS (Wn z0 (Zb 1) (Zb 2) (Xk _)) (vV (kZ (Wn (Z3 hu) (Zb 0) Zf (Xk _)) (vV (Wn (Z3 hu) (Zb 1) (Zb 2) (Xk _)))))))
   (Ze (Zs (Os (Uy (Zi (Z3 hu) (Zb 0) Zf) (Vf (Zi z0 (Zb 1) (Zb 2))))) (Zg (Zl (i:=3) nd ol)) Zz)
   (Zg (Zp (Zj (Za Zf (Za (Zm (Ys (Za Zf (Za Zf Zc))) (Qq vZ (by rfl) T.za8 yp (Za (Zb 3) Zc))) (Za (Zj Zc) Zc)))))))) Zz)
   (Ze (Zl (i:=4) nd (Zv O9 (Zb 1) (Zb 2)))
   (Ze (Zs (Zi (Z3 hu) (Zb 0) Zf) (Zg (Zl (i:=4) nd (Zv Jj (Zb 1) (Zb 2)))) Zz)
   (Ze (Zs (Zi (Z3 hu) (Zb 0) Zf) (Zg (Zl (i:=4) nd (Zv Jt (Zb 1) (Zb 2)))) Zz)
   (Zg (Zp (Zj (Za Zf (Za (Zv Yj (Zb 4) (Zv je Zd Zd)) Zc)))))))))⟩
abbrev Wg:WV:=top 47
def Us:Zu GW GO (Zk Wg):=by walk_at "sc"
def Tu:{W//SX 0 Wg GW "_law_shape_step" W}:=⟨_,λhP T S hr=>by
  have nd:=Us.nd;have hu:=Yh hr;exact(Ze (Zl (i:=2) nd (Ys Zc))
   (Ze (W1 PassesOwn.never FQ (fH (by rfl) T.za6 (Za (Zm (Zb 1) Zd) Zc)) (Iv (n:=2) FQ (Wc (Jh (i:=3) nd) (Wc (Jh (i:=4) nd) Iw)) (Yt (Yt Se)))
   (Zg (Zs (Zi (Z3 hu) (Zm (Zb 4) Zd) Zf) (Zg (Zw (Xt XZ YB YA Z9 Yk (Zb 2) (Za (Z8 hu (Z8 hu (Zb 0) Zf (λ_ _=>rfl)) (Zm (Zb 4) Zd) (λ_ _=>rfl)) Zc)))) (Zg (Zw (Xt XZ YB YA Z9 Yk (Zb 2) (Za (cP hP (Zt S.zav hr (by rfl) (Za (Zb 0) (Za (Zv Jj (Zv Jj (Zm (Zb 1) Zd) Zf) (Qq Dv (by rfl) T.zaw Mj (Za (Zv Jj (Zb 3) Zd) Zc))) (Za (Zb 4) (Za (Z8 hu (Zb 0) Zf (λ_ _=>rfl)) Zc)))))) Zc)))))))
   (Ze (Y6 (Zv Jj (Z8 hu (Zb 0) Zf (λ_ _=>rfl)) (Qq vZ (by rfl) T.za8 yp (Za (Wn (Z3 hu) (Zm (Zb 1) Zd) Zf (Xk _)) Zc))) (Yr hu (Zb 0) Zf))
   (Zg (Y6 (Zj (Za Zf (Za (Zm (Zb 1) Zd) (Za (Qq Of (by rfl) T.zap S0 (Za (Zb 2) Zc)) Zc)))) (Yr hu (Zb 0) Zf))))))⟩
abbrev W6:WV:=top 48
def So:Zu GK GO (Zk W6):=by walk_at "sc"
def Qm:{W//SX 0 W6 GK "_law_let_step" W}:=⟨_,λhP T S hr=>by
  have nd:=So.nd;have hu:=Yh hr;exact(Ze (Zl (i:=2) nd (V5 Xm (by rfl) T.zad BY (Za (Z8 hu (Zb 0) Zf (λ_ _=>rfl)) Zc)))
   (Ze (Mg (k:=3) (cN:=["_law_pair"]) (cap:=[none]) (cl:=[]) (js:=[0]) (g:=(Xd 0)) nd FQ FQ FQ ⟨FQ,(λ_=>Oe FQ (by decide+kernel) (by decide+kernel) FQ (by decide)),(J2 (Zm (Zb 1) Zd)),(λ_ _ _=>Jf (i:=0) (show(["_law_pair"]:List Str).Nodup by decide+kernel) FQ (Or.inl FQ)),Yi,Jp,Ja,by decide+kernel,λ_ _ _=>V3,λ_ _ _=>(Zm (Zb 0) Zd),λ_=>rfl⟩)
   (Ze (Zl (i:=4) nd (cP hP (Zt S.zaq hr (by rfl) (Za (Z8 hu (Zb 0) Zf (λ_ _=>rfl)) (Za (Zb 3) (Za (U0 (cN:=["_law_k","_law_here"]) (cap:=[none,some 2]) (cl:=(X1 _ _ [])) (js:=[0]) (g:=(Xd 0)) ⟨FQ,(λok=>Tr ok FQ (by decide+kernel) (by decide+kernel) FQ FQ FQ),(pY (by rfl) T.za1 (Za (V5 Xm (by rfl) T.zad BY (Za (Zb 3) Zc)) Zc)),(λ_ _ _=>Jf (i:=0) (show(["_law_k","_law_here"]:List Str).Nodup by decide+kernel) FQ (Or.inl FQ)),Yi,Jp,Ja,by decide+kernel,λ_ _ _=>V3,λ_ _ _=>(Zv Jj (Zb 1) (Zb 0)),λ_=>rfl⟩) Zc))))))
   (Ze (W1 PassesOwn.never FQ (J2 (Zm (Zb 1) Zd)) (Jh (i:=5) nd)
   (Zg (Zw (cP hP (Zt S.zav hr (by rfl) (Za (Zb 0) (Za (Zm (Zb 5) Zd) (Za (Zm (Zb 5) Zd) (Za (Zb 4) Zc)))))))))
   (Ze (Y6 (Zm (Zb 1) Zd) (Yr hu (Zb 0) Zf))
   (Zg (Y6 (Zb 4) (Yr hu (Zb 0) Zf))))))))⟩
abbrev Rt:WV:=top 49
def M7:Zu HA HE (Zk Rt):=by walk_at "sc"
def Gc:{W//SX 0 Rt HA "_law_step" W}:=⟨_,λhP T S hr=>by
  have nd:=M7.nd;have hu:=Yh hr;exact(Ze (Y6 (Zv Jj (Z8 hu (Zb 0) Zf (λ_ _=>rfl)) Zd) (Yr hu (Zb 0) Zf))
   (Ze (Zl (i:=1) nd (Z8 hu (Zb 0) Zf (λ_ _=>rfl)))
   (Ze (Zl (i:=2) nd (Z8 hu (Zb 0) Zf (λ_ _=>rfl)))
   (Zg (Zs (Zi (uJ hu) (Zm (Zb 1) Zd) (Ys (Za Zf (Za Zf (Za Zf Zc)))) (by rfl)) (Zg (Zw (cP hP (Zt S.zbk hr (by rfl) (Za (Zb 0) (Za (Zb 1) (Za (Ke XZ CC CD Z9 Li (Z8 hu (Zb 0) Zf (λ_ _=>rfl))) Zc))))))) (Zg (Zs (Zi (Z3 hu) (Zm (Zb 1) Zd) Zf) (Zg (Zw (cP hP (Zt S.zbq hr (by rfl) (Za (Zb 0) (Za (Zb 1) Zc)))))) (Zg (Zs (Zi (Z3 hu) (Zm (Zb 1) Zd) Zf) (Zg (Zw (cP hP (Zt S.zbl hr (by rfl) (Za (Zb 0) (Za (Zb 1) Zc)))))) (Zg (Zs (Zi (Z3 hu) (Zm (Zb 1) Zd) Zf) (Ze (Zw (Xt XZ YB YA Z9 Yk (Z8 hu (Zb 0) Zf (λ_ _=>rfl)) (Za (Zj (Za Zf (Za (Zm (Zb 1) Zd) (Za (Zm (Zb 1) Zd) (Za (Zb 2) Zc))))) Zc)))
   (Zg (Y6 (Zm (Zb 1) Zd) (Yr hu (Zb 0) Zf)))) (Zg (Zs (Zi (Z3 hu) (Zm (Zb 1) Zd) Zf) (Ze (Zw (Xt XZ YB YA Z9 Yk (Z8 hu (Zb 0) Zf (λ_ _=>rfl)) (Za (Zj (Za Zf (Za (Zm (Zb 1) Zd) (Za (Zb 2) Zc)))) Zc)))
   (Zg (Y6 (Zm (Zb 1) Zd) (Yr hu (Zb 0) Zf)))) (Zg (Zs (Zi (Z3 hu) (Zm (Zb 1) Zd) Zf) (Ze (Zw (Xt XZ YB YA Z9 Yk (Z8 hu (Zb 0) Zf (λ_ _=>rfl)) (Za (Zj (Za Zf (Za (Zm (Zb 1) Zd) (Za (Zb 2) Zc)))) Zc)))
   (Zg (Y6 (Zm (Zb 1) Zd) (Yr hu (Zb 0) Zf)))) (Zg (Zs (Zi (Z3 hu) (Zm (Zb 1) Zd) Zf) (Ze (Y6 (Zv Jj (Z8 hu (Zb 0) Zf (λ_ _=>rfl)) Zd) (Yr hu (Zb 0) Zf))
   (Ze (Zw (Xt XZ YB YA Z9 Yk (Z8 hu (Zb 0) Zf (λ_ _=>rfl)) (Za (Zj (Za Zf (Za (Zm (Zb 1) Zd) (Za (Zb 2) Zc)))) Zc)))
   (Zg (Y6 (Zm (Zb 1) Zd) (Yr hu (Zb 0) Zf))))) (Ze (Zl (i:=3) nd (Zm (Zb 1) Zd))
   (Ze (Zs (Zi (Z3 hu) (Zm (Zb 1) Zd) Zf) (Zg (Zl (i:=3) nd (Z8 hu (Zb 2) (Zm (Zb 1) Zd) (λ_ _=>rfl)))) Zz)
   (Ze (Zw (cP hP (Zt S.zay hr (by rfl) (Za (Zb 0) (Za Zf (Za (Zb 3) Zc))))))
   (Ze (Zw (Xt XZ YB YA Z9 Yk (Z8 hu (Zb 0) Zf (λ_ _=>rfl)) (Za (Zj (Za Zf (Za (Zb 3) Zc))) Zc)))
   (Ze (Y6 (Zm (Zm (Z8 hu (Zb 0) Zf (λ_ _=>rfl)) (Zb 3)) Zd) (Yr hu (Zb 0) Zf))
   (Zg (Y6 (Zm (Zm (Z8 hu (Zb 0) Zf (λ_ _=>rfl)) (Zb 3)) Zd) (Yr hu (Zb 0) Zf)))))))))))))))))))))))))⟩
abbrev Ui:WV:=top 50
def N6:Zu FS IJ (Zk Ui):=by walk_at "sc"
def xk:{W//SX 14 Ui FS "law" W}:=⟨_,λhP T S hr=>by
  have nd:=N6.nd;have hu:=Yh hr;exact(Ze (Zl (i:=10) nd (Zj (Za (Z8 hu (Zb 7) Zf (λ_ _=>rfl)) (Za (Z8 hu (Zb 7) Zf (λ_ _=>rfl)) (Za (Z8 hu (Zb 7) Zf (λ_ _=>rfl)) Zc)))))
   (Zg (Zp (Wn (cZ hu) (cP hP (lR 2 S.c_run hr (by rfl) (Za (Zb 6) (Za (Zb 3) (Za (Zb 4) Zc))))) (Zj (Za (Zb 8) (Za (Zb 9) (Za (Zb 10) (Za (Z8 hu (Zb 7) Zf (λ_ _=>rfl)) Zc))))) (Xk _)))))⟩
def xj:{W//SX 13 Ui FS "law" W}:=⟨_,λhP T S hr=>by
  have nd:=N6.nd;have hu:=Yh hr;exact(Ze (Zs (Zi (Z3 hu) (Zb 8) Zf) (Zg (Zl (i:=8) nd Zf)) Zz)
   (xk.2 hP T S hr))⟩
def xi:{W//SX 12 Ui FS "law" W}:=⟨_,λhP T S hr=>by
  have nd:=N6.nd;have hu:=Yh hr;exact(Ze (Zs (Zi (Z3 hu) (Zb 8) Zf) (Zg (Zl (i:=9) nd (Zm (Z8 hu (Zb 7) Zf (λ_ _=>rfl)) Zd))) Zz)
   (xj.2 hP T S hr))⟩
def xh:{W//SX 10 Ui FS "law" W}:=⟨_,λhP T S hr=>by
  have nd:=N6.nd;have hu:=Yh hr;exact(Ze (Zl (i:=9) nd Zf)
   (Ze (Zs (Zi (Z3 hu) (Zb 8) Zf) (Zg (Zl (i:=9) nd (Xt PySem.F.plainAttrs_str PySem.F.slot_str_join PySem.F.type_str_join sK qN Zf (Za (Z8 hu (Zb 7) Zf (λ_ _=>rfl)) Zc)))) Zz)
   (xi.2 hP T S hr)))⟩
def oJ:{W//SX 0 Ui FS "law" W}:=⟨_,λhP T S hr=>by
  have nd:=N6.nd;have hu:=Yh hr;exact(Ze (Zl (i:=1) nd (cP hP (Zt S.zb3 hr (by rfl) (Za (Zb 0) (Za Zd Zc)))))
   (Ze (Zl (i:=2) nd (cP hP (Zt S.zca hr (by rfl) (Za (Zb 1) Zc))))
   (Ze (Zl (i:=3) nd (Zv Yj (Ke XZ CC CD Z9 Li (Zb 1)) Zd))
   (Ze (Zl (i:=4) nd (Zv Yj (Ke XZ CC CD Z9 Li (Zb 1)) Zd))
   (Ze (Zl (i:=5) nd (Zm Zf (Zv Yj (Ke XZ CC CD Z9 Li (Zb 1)) Zd)))
   (Ze (Zl (i:=6) nd (cP hP (Zt S.zby hr (by rfl) (Za (Zb 5) (Za (Zb 1) (Za (Zb 2) (Za Zd Zc)))))))
   (Ze (Zl (i:=7) nd (vW (Xl Zf X6 (Xl Zf Tq (Xl Zf (Ys Zc) (Xl Zf (Ys (Za (Zj (Za (Zb 6) (Za Tq (Za (Zb 3) Zc)))) Zc)) (Xl Zf (Ys Zc) (Xl Zf Zd vT))))))))
   (Ze (Zw (fM (Zb 7) (vW (Xl Zf Zd (Xl Zf Zd (Xl Zf (Ys Zc) (Xl Zf (Ys Zc) (Xl Zf (Zb 3) vT)))))) ⟨FQ,FQ,FQ,FQ⟩))
   (Ze (Zl (i:=8) nd (cP hP (Zt S.zba hr (by rfl) (Za (Zb 7) Zc))))
   (Ze (Pm PassesOwn.never (Os (Uy (Zi (Z3 hu) (Zb 8) Zf) (Vf (Zi z0 (Z8 hu (Zb 7) Zf (λ_ _=>rfl)) (Zb 4)))))
   (Ze (Zw (cP hP (Zt S.zb6 hr (by rfl) (Za (Zb 7) Zc))))
   (Zg (Zl (i:=8) nd (cP hP (Zt S.zba hr (by rfl) (Za (Zb 7) Zc)))))))
   (xh.2 hP T S hr)))))))))))⟩
def Jk:Calls->WS:=Jq.1
def Ro:Calls->WS:=Qc.1
def Fk:Calls->WS:=Dy.1
def Rp:Calls->WS:=Qd.1
def Ou:Calls->WS:=Nh.1
def sf:Calls->WS:=oI.1
def A5:Calls->WS:=V7.1
def A4:Calls->WS:=V6.1
def P9:Calls->WS:=Oh.1
def Kr:Calls->WS:=I0.1
def Bw:Calls->WS:=A1.1
def Fn:Calls->WS:=D0.1
def Fl:Calls->WS:=Dz.1
def vj:Calls->WS:=um.1
def y0:Calls->WS:=xg.1
def Si:Calls->WS:=S8.1
def si:Calls->WS:=oK.1
def Th:Calls->WS:=Tw.1
def Hj:Calls->WS:=Gj.1
def Sl:Calls->WS:=Rj.1
def Sj:Calls->WS:=Rf.1
def Qh:Calls->WS:=Qo.1
def Ue:Calls->WS:=U5.1
def Vq:Calls->WS:=Vw.1
def Uf:Calls->WS:=U6.1
def Vs:Calls->WS:=Vy.1
def Ud:Calls->WS:=U4.1
def Sk:Calls->WS:=Ri.1
def Vr:Calls->WS:=Vx.1
def O2:Calls->WS:=Nv.1
def uu:Calls->WS:=Rh.1
def Kt:Calls->WS:=Rg.1
def O0:Calls->WS:=Nt.1
def Tg:Calls->WS:=Tv.1
def O3:Calls->WS:=Nw.1
def Oz:Calls->WS:=Nr.1
def O1:Calls->WS:=Nu.1
def Qu:Calls->WS:=P8.1
def Ug:Calls->WS:=U7.1
def Ha:Calls->WS:=Hz.1
def ky:Calls->WS:=iw.1
def Mr:Calls->WS:=Kh.1
def Ks:Calls->WS:=S9.1
def Ov:Calls->WS:=Nn.1
def tP:Calls->WS:=Qn.1
def Mt:Calls->WS:=Ki.1
def He:Calls->WS:=Ge.1
def Uc:Calls->WS:=U3.1
def sD:Calls->WS:=P7.1
def sC:Calls->WS:=P6.1
def sB:Calls->WS:=P5.1
def sy:Calls->WS:=P4.1
def Fw:Calls->WS:=P3.1
def sx:Calls->WS:=P0.1
def Fv:Calls->WS:=Pz.1
def Fu:Calls->WS:=Py.1
def Hg:Calls->WS:=Gg.1
def Mu:Calls->WS:=Kj.1
def Ce:Calls->WS:=Nm.1
def Cd:Calls->WS:=Nl.1
def D9:Calls->WS:=Nk.1
def D8:Calls->WS:=Nj.1
def D7:Calls->WS:=Ni.1
def Ft:Calls->WS:=D3.1
def ut:Calls->WS:=Rb.1
def ur:Calls->WS:=Ra.1
def Ox:Calls->WS:=Np.1
def Fq:Calls->WS:=Px.1
def Fp:Calls->WS:=Pw.1
def sw:Calls->WS:=Pu.1
def sr:Calls->WS:=Pt.1
def so:Calls->WS:=Ps.1
def sn:Calls->WS:=Pr.1
def sj:Calls->WS:=Pp.1
def Fo:Calls->WS:=Po.1
def Qt:Calls->WS:=Gb.1
def Hi:Calls->WS:=Gi.1
def Ow:Calls->WS:=No.1
def Hf:Calls->WS:=Gf.1
def Mv:Calls->WS:=Kk.1
def Oy:Calls->WS:=Nq.1
def Hb:Calls->WS:=Ga.1
def Fx:Calls->WS:=D4.1
def Hh:Calls->WS:=Gh.1
def Te:Calls->WS:=Ts.1
def Qe:Calls->WS:=Ql.1
def Tf:Calls->WS:=Tu.1
def Qf:Calls->WS:=Qm.1
def Hc:Calls->WS:=Gc.1
def w_law_t1:Calls->WS:=xk.1
def w_law_t2:Calls->WS:=xj.1
def w_law_t3:Calls->WS:=xi.1
def w_law_t4:Calls->WS:=xh.1
def w_law:Calls->WS:=oJ.1
abbrev zM:Nat:=0
abbrev Lq:Nat:=1
abbrev px:Nat:=2
abbrev zN:Nat:=3
abbrev oR:Nat:=4
abbrev bw:Nat:=5
abbrev tf:Nat:=6
abbrev uY:Nat:=7
abbrev uZ:Nat:=8
abbrev w8:Nat:=9
abbrev w6:Nat:=10
abbrev lx:Nat:=11
abbrev pz:Nat:=12
abbrev Sx:Nat:=13
abbrev fk:Nat:=14
abbrev vL:Nat:=15
abbrev kQ:Nat:=16
abbrev Ip:Nat:=17
abbrev Im:Nat:=18
abbrev Gu:Nat:=19
abbrev Mc:Nat:=20
abbrev Oo:Nat:=21
abbrev Md:Nat:=22
abbrev Oq:Nat:=23
abbrev Mb:Nat:=24
abbrev Io:Nat:=25
abbrev Op:Nat:=26
abbrev Bj:Nat:=27
abbrev Bh:Nat:=28
abbrev Lv:Nat:=29
abbrev Bk:Nat:=30
abbrev Bg:Nat:=31
abbrev Bi:Nat:=32
abbrev De:Nat:=33
abbrev Me:Nat:=34
abbrev jz:Nat:=35
abbrev bv:Nat:=36
abbrev zO:Nat:=37
abbrev Bb:Nat:=38
abbrev zP:Nat:=39
abbrev j8:Nat:=40
abbrev Ma:Nat:=41
abbrev jA:Nat:=42
abbrev zQ:Nat:=43
abbrev w9:Nat:=44
abbrev Be:Nat:=45
abbrev Pi:Nat:=46
abbrev jC:Nat:=47
abbrev Bc:Nat:=48
abbrev j9:Nat:=49
abbrev zR:Nat:=50
abbrev Bf:Nat:=51
abbrev j0:Nat:=52
abbrev wB:Nat:=53
abbrev jB:Nat:=54
abbrev Ls:Nat:=55
abbrev Gr:Nat:=56
abbrev Lu:Nat:=57
abbrev Gs:Nat:=58
abbrev j7:Nat:=59
abbrev bx:Nat:=60
abbrev ly:Nat:=61
noncomputable def pr:List Df:=[⟨3,2,Jk⟩,⟨2,2,Ro⟩,⟨2,1,Fk⟩,⟨3,2,Rp⟩,⟨5,2,Ou⟩,⟨3,2,sf⟩,⟨8,2,P9⟩,⟨4,2,Kr⟩,⟨1,1,Bw⟩,⟨1,1,Fn⟩,⟨4,3,Fl⟩,⟨1,1,vj⟩,⟨3,2,y0⟩,⟨3,2,Si⟩,⟨2,2,si⟩,⟨3,3,Th⟩,⟨2,2,Hj⟩,⟨2,2,Sl⟩,⟨2,1,Sj⟩,⟨1,1,Qh⟩,⟨2,1,Ue⟩,⟨1,1,Vq⟩,⟨1,1,Uf⟩,⟨3,2,Vs⟩,⟨4,3,Ud⟩,⟨3,3,Sk⟩,⟨1,1,Vr⟩,⟨6,3,O2⟩,⟨6,3,O0⟩,⟨4,3,Tg⟩,⟨3,2,O3⟩,⟨3,3,Oz⟩,⟨3,3,O1⟩,⟨2,2,Qu⟩,⟨2,2,Ug⟩,⟨4,2,Ha⟩,⟨3,3,ky⟩,⟨3,2,Mr⟩,⟨5,2,Ov⟩,⟨5,2,Mt⟩,⟨7,1,He⟩,⟨3,1,Uc⟩,⟨6,3,Hg⟩,⟨3,3,Mu⟩,⟨9,6,Ft⟩,⟨12,6,Ox⟩,⟨13,5,Qt⟩,⟨3,0,Hi⟩,⟨12,4,Ow⟩,⟨4,3,Hf⟩,⟨4,4,Mv⟩,⟨6,3,Oy⟩,⟨5,1,Hb⟩,⟨3,1,Fx⟩,⟨2,2,Hh⟩,⟨6,3,Te⟩,⟨5,3,Qe⟩,⟨5,2,Tf⟩,⟨6,2,Qf⟩,⟨4,1,Hc⟩,⟨11,1,w_law⟩,⟨2,2,uv "Runner" 15⟩]
def ZUU (i a r:Nat)(w:Calls->WS):Prop:=∀{n:Nat}{vs:List T}{C:Hw}{Q:WK}{χ:WX},vs.length=a->w (Z4 pr n) {nx:=λ_ C'=>Q .non C',rt:=Q,xc:=χ} (vs.map some++List.replicate r none) C->Z4 pr (n+1) i vs C Q χ
def J4:ZUU 0 2 1 Jk:=λhl h=>⟨_,FQ,hl,h⟩
def A6:ZUU 1 2 0 Ro:=λhl h=>⟨_,FQ,hl,h⟩
def sI:ZUU 2 1 1 Fk:=λhl h=>⟨_,FQ,hl,h⟩
def A8:ZUU 3 2 1 Rp:=λhl h=>⟨_,FQ,hl,h⟩
def oP:ZUU 4 2 3 Ou:=λhl h=>⟨_,FQ,hl,h⟩
def dv:ZUU 5 2 1 sf:=λhl h=>⟨_,FQ,hl,h⟩
def By:ZUU 6 2 6 P9:=λhl h=>⟨_,FQ,hl,h⟩
def uw:ZUU 7 2 2 Kr:=λhl h=>⟨_,FQ,hl,h⟩
def ux:ZUU 8 1 0 Bw:=λhl h=>⟨_,FQ,hl,h⟩
def xv:ZUU 9 1 0 Fn:=λhl h=>⟨_,FQ,hl,h⟩
def xu:ZUU 10 3 1 Fl:=λhl h=>⟨_,FQ,hl,h⟩
def np:ZUU 11 1 0 vj:=λhl h=>⟨_,FQ,hl,h⟩
def sJ:ZUU 12 2 1 y0:=λhl h=>⟨_,FQ,hl,h⟩
def Sm:ZUU 13 2 1 Si:=λhl h=>⟨_,FQ,hl,h⟩
def iB:ZUU 14 2 0 si:=λhl h=>⟨_,FQ,hl,h⟩
def M4:ZUU 15 3 0 Th:=λhl h=>⟨_,FQ,hl,h⟩
def yJ:ZUU 16 2 0 Hj:=λhl h=>⟨_,FQ,hl,h⟩
def Kw:ZUU 17 2 0 Sl:=λhl h=>⟨_,FQ,hl,h⟩
def Ku:ZUU 18 1 1 Sj:=λhl h=>⟨_,FQ,hl,h⟩
def Gn:ZUU 19 1 0 Qh:=λhl h=>⟨_,FQ,hl,h⟩
def Nz:ZUU 20 1 1 Ue:=λhl h=>⟨_,FQ,hl,h⟩
def Oi:ZUU 21 1 0 Vq:=λhl h=>⟨_,FQ,hl,h⟩
def N0:ZUU 22 1 0 Uf:=λhl h=>⟨_,FQ,hl,h⟩
def Ol:ZUU 23 2 1 Vs:=λhl h=>⟨_,FQ,hl,h⟩
def Ny:ZUU 24 3 1 Ud:=λhl h=>⟨_,FQ,hl,h⟩
def Kv:ZUU 25 3 0 Sk:=λhl h=>⟨_,FQ,hl,h⟩
def Oj:ZUU 26 1 0 Vr:=λhl h=>⟨_,FQ,hl,h⟩
def Cq:ZUU 27 3 3 O2:=λhl h=>⟨_,FQ,hl,h⟩
def Co:ZUU 28 3 3 O0:=λhl h=>⟨_,FQ,hl,h⟩
def M3:ZUU 29 3 1 Tg:=λhl h=>⟨_,FQ,hl,h⟩
def Cr:ZUU 30 2 1 O3:=λhl h=>⟨_,FQ,hl,h⟩
def Ck:ZUU 31 3 0 Oz:=λhl h=>⟨_,FQ,hl,h⟩
def Cp:ZUU 32 3 0 O1:=λhl h=>⟨_,FQ,hl,h⟩
def Fz:ZUU 33 2 0 Qu:=λhl h=>⟨_,FQ,hl,h⟩
def N1:ZUU 34 2 0 Ug:=λhl h=>⟨_,FQ,hl,h⟩
def yB:ZUU 35 2 2 Ha:=λhl h=>⟨_,FQ,hl,h⟩
def du:ZUU 36 3 0 ky:=λhl h=>⟨_,FQ,hl,h⟩
def A9:ZUU 37 2 1 Mr:=λhl h=>⟨_,FQ,hl,h⟩
def Cg:ZUU 38 2 3 Ov:=λhl h=>⟨_,FQ,hl,h⟩
def za:ZUU 39 2 3 Mt:=λhl h=>⟨_,FQ,hl,h⟩
def yE:ZUU 40 1 6 He:=λhl h=>⟨_,FQ,hl,h⟩
def Nx:ZUU 41 1 2 Uc:=λhl h=>⟨_,FQ,hl,h⟩
def yG:ZUU 42 3 3 Hg:=λhl h=>⟨_,FQ,hl,h⟩
def zb:ZUU 43 3 0 Mu:=λhl h=>⟨_,FQ,hl,h⟩
def xw:ZUU 44 6 3 Ft:=λhl h=>⟨_,FQ,hl,h⟩
def Ci:ZUU 45 6 6 Ox:=λhl h=>⟨_,FQ,hl,h⟩
def Hl:ZUU 46 5 8 Qt:=λhl h=>⟨_,FQ,hl,h⟩
def yI:ZUU 47 0 3 Hi:=λhl h=>⟨_,FQ,hl,h⟩
def Ch:ZUU 48 4 8 Ow:=λhl h=>⟨_,FQ,hl,h⟩
def yF:ZUU 49 3 1 Hf:=λhl h=>⟨_,FQ,hl,h⟩
def zc:ZUU 50 4 0 Mv:=λhl h=>⟨_,FQ,hl,h⟩
def Cj:ZUU 51 3 3 Oy:=λhl h=>⟨_,FQ,hl,h⟩
def yC:ZUU 52 1 4 Hb:=λhl h=>⟨_,FQ,hl,h⟩
def xy:ZUU 53 1 2 Fx:=λhl h=>⟨_,FQ,hl,h⟩
def yH:ZUU 54 2 0 Hh:=λhl h=>⟨_,FQ,hl,h⟩
def Mz:ZUU 55 3 3 Te:=λhl h=>⟨_,FQ,hl,h⟩
def Gk:ZUU 56 3 2 Qe:=λhl h=>⟨_,FQ,hl,h⟩
def M0:ZUU 57 2 3 Tf:=λhl h=>⟨_,FQ,hl,h⟩
def Gm:ZUU 58 2 4 Qf:=λhl h=>⟨_,FQ,hl,h⟩
def yD:ZUU 59 1 3 Hc:=λhl h=>⟨_,FQ,hl,h⟩
def dw:ZUU 60 1 10 w_law:=λhl h=>⟨_,FQ,hl,h⟩
section
variable {n:Nat}{vs:List T}{C:Hw}{Q:WK}{χ:WX}
def A7 (hl:vs.length=2)(h:∀p,C p=none->Z4 pr n 15 (.ref p::vs) (up C p (.ins "Runner" [])) (λv C2=>v=.non/\Q (.ref p) C2) χ):Z4 pr (n+1) 61 vs C Q χ:=⟨_,FQ,hl,vs,YK _,h⟩
end
section
variable {Pg:WO}{w:WN}{K:WY}{mg:Str->Option WQ}{base:WU}{f:WP}{fd:VZ}{n i:Nat}{pr:List Df}{x q:Str}{N ps:List Str}{st:WV}
def Wr (D:{W//SX 0 st N q W})(T:Txt w K mg)(S:Cs Pg w K mg base n pr)(sc:Zu N ps (Zk st))(hd:pr[i]?=some ⟨N.length,ps.length,D.1⟩)(F:vc K x q st f fd):Vk Pg w K mg base CX0 (n+1) f fd ps (spW K pr (n+1) i):=fz F sc hd FQ FQ λ_ _ _ _ _ _ hr=>D.2 FQ T S hr
def mM (T:Txt w K mg)(S:Cs Pg w K mg base n K38.pr)(F:eO K "run" "run" T2 f fd):Vk Pg w K mg base CX0 (n+1) f fd GS (spW K K38.pr (n+1) 36):=f6 F iN FQ FQ FQ λ_ _ _ _ _ _ hr=>iw.2 FQ T S hr
end
def Zdm {C:List WQ->Prop}(h:C []):∀us:List WQ,us.length=0->C us
 | [],_=>h
def Zzs {C:List WQ->Prop}(h:∀a u,u.length=n->C (a::u)):∀us:List WQ,us.length=n+1->C us
 | a::u,e=>h a u (Nat.succ.inj e)
def xr {C:List WQ->Prop}(h:∀a,C [a]):∀us:List WQ,us.length=1->C us:=Zzs λa=>Zdm (h a)
def Du {C:List WQ->Prop}(h:∀a b,C [a,b]):∀us:List WQ,us.length=2->C us:=Zzs λa=>xr (h a)
def wS {C:List WQ->Prop}(h:∀a b c,C [a,b,c]):∀us:List WQ,us.length=3->C us:=Zzs λa=>Du (h a)
def Zcr {C:List WQ->Prop}(h:∀a b c d,C [a,b,c,d]):∀us:List WQ,us.length=4->C us:=Zzs λa=>wS (h a)
def Zdl {C:List WQ->Prop}(h:∀a b c d e,C [a,b,c,d,e]):∀us:List WQ,us.length=5->C us:=Zzs λa=>Zcr (h a)
def Zcq {C:List WQ->Prop}(h:∀a b c d e f,C [a,b,c,d,e,f]):∀us:List WQ,us.length=6->C us:=Zzs λa=>Zdl (h a)
def all_mk {l:W.OpenLaw}{w:WN}{K:WY}{fa AQ Aa:WP}(X:K.In h)(G:h.Ns mainGlobals mg)(hfa:mg "law"=some (.ref fa))
  {AR AF:Option WP} {AS:Array (Option WQ)} {AT AG AH AI AC AJ:WQ}
  (Af:W.nsIn K mainGlobals "Runner"=some (some (.ref Aa)))
  (Ag:W.plainGet K Aa Str.empty=true) (Ah:W.hasDictIn K Aa=true) (Ai:W.plainOver K Aa=true) (Aj:W.findIn K (.ref Aa) "__setattr__"=some (some (.builtin "object.__setattr__"))) (A0:W.keepIn K (.ref Aa)=true)
  (A2:W.makesIn K Aa=true)
  (At:W.findIn K (.ref Aa) "cells"=some none)
  (An:W.findIn K (.ref Aa) "ending"=some none)
  (Ap:W.findIn K (.ref Aa) "firsts"=some none)
  (Aw:W.findIn K (.ref Aa) "hand"=some none)
  (Aq:W.findIn K (.ref Aa) "labels"=some none)
  (Az:W.findIn K (.ref Aa) "log"=some none)
  (Ax:W.findIn K (.ref Aa) "pile"=some none)
  (Au:W.findIn K (.ref Aa) "steps"=some none)
  (Av:W.findIn K (.ref Aa) "still"=some none)
  (Ar:W.findIn K (.ref Aa) "things"=some none)
  (Ay:W.findIn K (.ref Aa) "told"=some none)
  (As:W.findIn K (.ref Aa) "wanted"=some none)
  (l0:Fg K "with_parts" T0)
  (l1:Fg K "with_lasts" T1)
  (l2:Fg K "scopes" Kx)
  (l3:Fg K "let_scopes" T3)
  (l4:Fg K "rows_scopes" Uh)
  (l5:Fg K "put" xD)
  (l6:Fg K "changed" Uj)
  (l7:Fg K "without" N4)
  (l8:Fg K "is_mark" N5)
  (l9:Fg K "is_value" Qy)
  (AY:Fg K "reckoned" Qx)
  (AZ:Fg K "truth" F7)
  (Ba:Fg K "picked" Ky)
  (Bb:Fg K "alternative_of" Wv)
  (Bc:Fg K "fits" zg)
  (Be:Fh K Aa "__init__" "Runner.__init__" Wi)
  (Bf:Fh K Aa "go" "Runner.go" Ry)
  (Bg:Fh K Aa "advance" "Runner.advance" Wz)
  (Bh:Fh K Aa "outcome" "Runner.outcome" Wx)
  (Bi:Fh K Aa "settle" "Runner.settle" W7)
  (Bj:Fh K Aa "tell_next" "Runner.tell_next" Xx)
  (Bk:Fh K Aa "tell_value" "Runner.tell_value" Xf)
  (Bl:Fh K Aa "take_step" "Runner.take_step" Xy)
  (Bm:Fh K Aa "take_apart" "Runner.take_apart" Xh)
  (Bn:Fh K Aa "use_value" "Runner.use_value" Xw)
  (Bo:Fh K Aa "go_into" "Runner.go_into" Wy)
  (Bp:Fh K Aa "take_frame" "Runner.take_frame" Xg)
  (Br:Fh K Aa "bind" "Runner.bind" Up)
  (Bs:Fh K Aa "make" "Runner.make" Xi)
  (Bt:Fh K Aa "mark_for" "Runner.mark_for" Wh)
  (Bu:Fh K Aa "bear" "Runner.bear" Uq)
  (Bv:Fh K Aa "note" "Runner.note" Um)
  (Bw:Fh K Aa "keep" "Runner.keep" Uo)
  (Bx:Fh K Aa "enter" "Runner.enter" Vm)
  (By:Fh K Aa "come_back" "Runner.come_back" Xz)
  (Bz:Fg K "pieces_of" Rq)
  {T_run:WP} {dc_run:WQ} {dd_run:Option WP} {dn_run:Nat} {ds_run:Array (Option WQ)} {dt_run_0 dt_run_1:Tok}
  (B0:W.nsIn K mainGlobals "run"=some (some (.ref AQ)))
  (B1:K.lookup AQ=some ⟨AT,AR,.func (W.fnOf "run" "run" (V4 T2) (Xs T2) (Zk T2) (.ref T_run) AG AH AI AF AC AJ),AS⟩) (B2:W.codeIn K AC "run"=true) (AU:W.keepIn K (.ref AQ)=true)
  (dl_run:K.lookup T_run=some ⟨dc_run,dd_run,.seq #[.int 8 dt_run_0,.int 400 dt_run_1] dn_run,ds_run⟩)
  (B5:Fg K "_law_mixed" T4)
  (B6:Fg K "_law_digits" Ww)
  (B7:Fg K "_law_draws" Vc)
  (B8:Fg K "_law_pool" Ru)
  (B9:Fg K "_law_ill_matched" Xv)
  (BA:Fg K "_law_leaf" Y0)
  (BB:Fg K "_law_bound" T5)
  (BC:Fg K "_law_own" J3)
  (BD:Fg K "_law_choice" Xe)
  (BE:Fg K "_law_term" Yz)
  (BF:Fg K "_law_each" Rx)
  (BG:Fg K "_law_closed" Uk)
  (BH:Fg K "_law_note" Rv)
  (BI:Fg K "_law_birth" T6)
  (BJ:Fg K "_law_around" Ul)
  (BK:Fg K "_law_told" Rs)
  (BL:Fg K "_law_end" Qz)
  (BM:Fg K "_law_fits" Rw)
  (BN:Fg K "_law_value_step" Wf)
  (BO:Fg K "_law_reckoned" W5)
  (BP:Fg K "_law_shape_step" Wg)
  (BQ:Fg K "_law_let_step" W6)
  (BR:Fg K "_law_step" Rt)
  (AV:Fg K "law" Ui)
  (AK:W.nsIn K mainGlobals "any"=some none)
  (AD:W.nsIn K mainGlobals "dict"=some none)
  (A4:W.nsIn K mainGlobals "enumerate"=some none)
  (AL:W.nsIn K mainGlobals "int"=some none)
  (A3:W.nsIn K mainGlobals "isinstance"=some none)
  (AM:W.nsIn K mainGlobals "len"=some none)
  (AE:W.nsIn K mainGlobals "list"=some none)
  (AA:W.nsIn K mainGlobals "range"=some none)
  (A5:W.nsIn K mainGlobals "reversed"=some none)
  (AN:W.nsIn K mainGlobals "str"=some none)
  (AB:W.nsIn K mainGlobals "tuple"=some none)
  (AO:W.nsIn K mainGlobals "zip"=some none)
  {gt_MARKS_0:Tok}
  {gt_MARKS_1:Tok}
  {gt_MARKS_2:Tok}
  {Am:WP} {gn_MARKS:Nat} {gs_MARKS:Array (Option WQ)} (A8:K.lookup Am=some ⟨.type "tuple",none,.seq #[.str "at" gt_MARKS_0,.str "shut" gt_MARKS_1,.str "ring" gt_MARKS_2] gn_MARKS,gs_MARKS⟩)
  (A9:W.nsIn K mainGlobals "MARKS"=some (some (.ref Am)))
  {gt_VALUES_0:Tok}
  {gt_VALUES_1:Tok}
  {gt_VALUES_2:Tok}
  {Ak:WP} {gn_VALUES:Nat} {gs_VALUES:Array (Option WQ)} (A6:K.lookup Ak=some ⟨.type "tuple",none,.seq #[.str "number" gt_VALUES_0,.str "fun" gt_VALUES_1,.str "made" gt_VALUES_2] gn_VALUES,gs_VALUES⟩)
  (A7:W.nsIn K mainGlobals "VALUES"=some (some (.ref Ak)))
  :∃fd:VZ,(∀(s:WR) (v:WQ),BindsTo s fd ⟨[v],[]⟩ [("_law_script",v)])/\∀base:WU,K.In base->base.Ns mainGlobals mg->Vk l.prog w K mg base CX0 60 fa fd IJ (spW K pr 60 60):=by
 have L60:=Yx (ps:=IJ) X G AV λ_ _ _ _ _ _=>xr λ_=>rfl;obtain⟨BV,_,BS,⟨oc,od,kV,dc,pm,an,cd,ct,sl,rfl,ll,lc⟩,lk⟩:=AV;have BT:=fq (st:=Ui) ll lc lk;have e:=hfa.symm.trans (FJ X G BS)
 cases e
 have T:Txt w K mg:=⟨CO X G AK,CO X G AD,CO X G A4,CO X G AL,CO X G A3,CO X G AM,CO X G AE,CO X G AA,CO X G A5,CO X G AN,CO X G AB,CO X G AO,⟨.ref Am,.ref Am,FJ X G A9,FQ,λH=>(yZ (xs:=[V.str "at",V.str "shut",V.str "ring"]) A8 (show 3<=sizeLine by decide) (.cons ⟨_,FQ⟩ (.cons ⟨_,FQ⟩ (.cons ⟨_,FQ⟩ .nil))) (Yn Jw (Yn Jw (Yn Jw Jc))))⟩,⟨.ref Ak,.ref Ak,FJ X G A7,FQ,λH=>(yZ (xs:=[V.str "number",V.str "fun",V.str "made"]) A6 (show 3<=sizeLine by decide) (.cons ⟨_,FQ⟩ (.cons ⟨_,FQ⟩ (.cons ⟨_,FQ⟩ .nil))) (Yn Jw (Yn Jw (Yn Jw Jc))))⟩,⟨Aa,Af,⟨Ag,Ah,Ai,Aj⟩,At⟩,⟨Aa,Af,⟨Ag,Ah,Ai,Aj⟩,An⟩,⟨Aa,Af,⟨Ag,Ah,Ai,Aj⟩,Ap⟩,⟨Aa,Af,⟨Ag,Ah,Ai,Aj⟩,Aw⟩,⟨Aa,Af,⟨Ag,Ah,Ai,Aj⟩,Aq⟩,⟨Aa,Af,⟨Ag,Ah,Ai,Aj⟩,Az⟩,⟨Aa,Af,⟨Ag,Ah,Ai,Aj⟩,Ax⟩,⟨Aa,Af,⟨Ag,Ah,Ai,Aj⟩,Au⟩,⟨Aa,Af,⟨Ag,Ah,Ai,Aj⟩,Av⟩,⟨Aa,Af,⟨Ag,Ah,Ai,Aj⟩,Ar⟩,⟨Aa,Af,⟨Ag,Ah,Ai,Aj⟩,Ay⟩,⟨Aa,Af,⟨Ag,Ah,Ai,Aj⟩,As⟩⟩;have Ae:Kl K mg "Runner" Aa:=⟨Af,FJ X G Af,⟨Ag,Ah,Ai,Aj⟩⟩;have L0:=Yx (ps:=["term","given"]) X G l0 λ_ _ _ _ _ _=>Du λ_ _=>rfl;have L1:=Yx (ps:=HM) X G l1 λ_ _ _ _ _ _=>Du λ_ _=>rfl;have L2:=Yx (ps:=HQ) X G l2 λ_ _ _ _ _ _=>xr λ_=>rfl;have L3:=Yx (ps:=["pairs","body"]) X G l3 λ_ _ _ _ _ _=>Du λ_ _=>rfl;have L4:=Yx (ps:=["body","steps"]) X G l4 λ_ _ _ _ _ _=>Du λ_ _=>rfl;have L5:=Yx (ps:=HL) X G l5 λ_ _ _ _ _ _=>Du λ_ _=>rfl;have L6:=Yx (ps:=HL) X G l6 λ_ _ _ _ _ _=>Du λ_ _=>rfl;have L7:=Yx (ps:=["marks","names"]) X G l7 λ_ _ _ _ _ _=>Du λ_ _=>rfl;have L8:=Yx (ps:=HQ) X G l8 λ_ _ _ _ _ _=>xr λ_=>rfl;have L9:=Yx (ps:=HQ) X G l9 λ_ _ _ _ _ _=>xr λ_=>rfl;have L10:=Yx (ps:=II) X G AY λ_ _ _ _ _ _=>wS λ_ _ _=>rfl;have L11:=Yx (ps:=["holds"]) X G AZ λ_ _ _ _ _ _=>xr λ_=>rfl;have L12:=Yx (ps:=GQ) X G Ba λ_ _ _ _ _ _=>Du λ_ _=>rfl;have L13:=Yx (ps:=GQ) X G Bb λ_ _ _ _ _ _=>Du λ_ _=>rfl;have L14:=Yx (ps:=HS) X G Bc λ_ _ _ _ _ _=>Du λ_ _=>rfl;have L15:=Wl (ps:=HF) Be λ_ _ _ _ _ _=>wS λ_ _ _=>rfl;have L16:=Wl (ps:=GR) Bf λ_ _ _ _ _ _=>Du λ_ _=>rfl;have L17:=Wl (ps:=GR) Bg λ_ _ _ _ _ _=>Du λ_ _=>rfl;have L18:=Wl (ps:=GL) Bh λ_ _ _ _ _ _=>xr λ_=>rfl;have L19:=Wl (ps:=GL) Bi λ_ _ _ _ _ _=>xr λ_=>rfl;have L20:=Wl (ps:=GL) Bj λ_ _ _ _ _ _=>xr λ_=>rfl;have L21:=Wl (ps:=GL) Bk λ_ _ _ _ _ _=>xr λ_=>rfl;have L22:=Wl (ps:=GL) Bl λ_ _ _ _ _ _=>xr λ_=>rfl;have L23:=Wl (ps:=["self","term"]) Bm λ_ _ _ _ _ _=>Du λ_ _=>rfl;have L24:=Wl (ps:=HY) Bn λ_ _ _ _ _ _=>wS λ_ _ _=>rfl;have L25:=Wl (ps:=HG) Bo λ_ _ _ _ _ _=>wS λ_ _ _=>rfl;have L26:=Wl (ps:=GL) Bp λ_ _ _ _ _ _=>xr λ_=>rfl;have L27:=Wl (ps:=IA) Br λ_ _ _ _ _ _=>wS λ_ _ _=>rfl;have L28:=Wl (ps:=HZ) Bs λ_ _ _ _ _ _=>wS λ_ _ _=>rfl;have L29:=Wl (ps:=IB) Bt λ_ _ _ _ _ _=>wS λ_ _ _=>rfl;have L30:=Wl (ps:=["self","label"]) Bu λ_ _ _ _ _ _=>Du λ_ _=>rfl;have L31:=Wl (ps:=GZ) Bv λ_ _ _ _ _ _=>wS λ_ _ _=>rfl;have L32:=Wl (ps:=HC) Bw λ_ _ _ _ _ _=>wS λ_ _ _=>rfl;have L33:=Wl (ps:=GN) Bx λ_ _ _ _ _ _=>Du λ_ _=>rfl;have L34:=Wl (ps:=GN) By λ_ _ _ _ _ _=>Du λ_ _=>rfl;have L35:=Yx (ps:=["value","depth"]) X G Bz λ_ _ _ _ _ _=>Du λ_ _=>rfl;have BU:eO K "run" "run" T2 AQ _:=⟨⟨_,_,_,_,_,_,_,_,_,_,FQ,B1,B2⟩,AU⟩;have AW:∃us:List WQ,Yf (([8,400]:List Int).map V.int) us/\∀j,j<=2->Wo K (W.fnOf "run" "run" (V4 T2) (Xs T2) (Zk T2) (.ref T_run) AG AH AI AF AC AJ) GS (us.drop j):=⟨[.int 8 dt_run_0,.int 400 dt_run_1],.cons ⟨_,FQ⟩ (.cons ⟨_,FQ⟩ (.nil)),λj hj=>match j,hj with | 0,_=>(λs us kin hl=>by replace hl:us.length=1:=(by simpa using hl);revert us;exact xr λ_=>W.binds_K kin FQ dl_run FQ FQ FQ) | 1,_=>(λs us kin hl=>by replace hl:us.length=2:=(by simpa using hl);revert us;exact Du λ_ _=>W.binds_K kin FQ dl_run FQ FQ FQ) | 2,_=>(λs us kin hl=>by replace hl:us.length=3:=(by simpa using hl);revert us;exact wS λ_ _ _=>W.binds_K kin FQ dl_run FQ FQ FQ) | (j+3),h=>absurd h (by omega)⟩;have AX:=FJ X G B0;have L37:=Yx (ps:=IH) X G B5 λ_ _ _ _ _ _=>Du λ_ _=>rfl;have L38:=Yx (ps:=GM) X G B6 λ_ _ _ _ _ _=>Du λ_ _=>rfl;have L39:=Yx (ps:=GM) X G B7 λ_ _ _ _ _ _=>Du λ_ _=>rfl;have L40:=Yx (ps:=IK) X G B8 λ_ _ _ _ _ _=>xr λ_=>rfl;have L41:=Yx (ps:=["_law_k"]) X G B9 λ_ _ _ _ _ _=>xr λ_=>rfl;have L42:=Yx (ps:=HD) X G BA λ_ _ _ _ _ _=>wS λ_ _ _=>rfl;have L43:=Yx (ps:=GC) X G BB λ_ _ _ _ _ _=>wS λ_ _ _=>rfl;have L44:=Yx (ps:=FW) X G BC λ_ _ _ _ _ _=>Zcq λ_ _ _ _ _ _=>rfl;have L45:=Yx (ps:=FW) X G BD λ_ _ _ _ _ _=>Zcq λ_ _ _ _ _ _=>rfl;have L46:=Yx (ps:=GA) X G BE λ_ _ _ _ _ _=>Zdl λ_ _ _ _ _=>rfl;have L47:=Yx (ps:=[]) X G BF λ_ _ _ _ _ _=>Zdm FQ;have L48:=Yx (ps:=GH) X G BG λ_ _ _ _ _ _=>Zcr λ_ _ _ _=>rfl;have L49:=Yx (ps:=GX) X G BH λ_ _ _ _ _ _=>wS λ_ _ _=>rfl;have L50:=Yx (ps:=FY) X G BI λ_ _ _ _ _ _=>Zcr λ_ _ _ _=>rfl;have L51:=Yx (ps:=GP) X G BJ λ_ _ _ _ _ _=>wS λ_ _ _=>rfl;have L52:=Yx (ps:=HE) X G BK λ_ _ _ _ _ _=>xr λ_=>rfl;have L53:=Yx (ps:=HE) X G BL λ_ _ _ _ _ _=>xr λ_=>rfl;have L54:=Yx (ps:=GU) X G BM λ_ _ _ _ _ _=>Du λ_ _=>rfl;have L55:=Yx (ps:=HB) X G BN λ_ _ _ _ _ _=>wS λ_ _ _=>rfl;have L56:=Yx (ps:=HI) X G BO λ_ _ _ _ _ _=>wS λ_ _ _=>rfl;have L57:=Yx (ps:=GO) X G BP λ_ _ _ _ _ _=>Du λ_ _=>rfl;have L58:=Yx (ps:=GO) X G BQ λ_ _ _ _ _ _=>Du λ_ _=>rfl;have L59:=Yx (ps:=HE) X G BR λ_ _ _ _ _ _=>xr λ_=>rfl;refine⟨W.fnOf "law" "law" (V4 Ui) (Xs Ui) (Zk Ui) .none kV dc pm an cd ct,λs v=>.of_eq FQ,λbase _ _=>?_⟩;have CS:∀n,Cs l.prog w K mg base n pr:=λn=>by
  induction n with
  | zero=>exact⟨Rm L0,Rm L1,Rm L2,Rm L3,Rm L4,Rm L5,Rm L6,Rm L7,Rm L8,Rm L9,Rm L10,Rm L11,Rm L12,Rm L13,Rm L14,Rm L35,⟨_,_,Ao,AW,AU,AX⟩,Rm L37,Rm L38,Rm L39,Rm L40,Rm L41,Rm L42,Rm L43,Rm L44,Rm L45,Rm L46,Rm L47,Rm L48,Rm L49,Rm L50,Rm L51,Rm L52,Rm L53,Rm L54,Rm L55,Rm L56,Rm L57,Rm L58,Rm L59,Rm L60,Ac Ae L15,Ac Ae L16,Ac Ae L17,Ac Ae L18,Ac Ae L19,Ac Ae L20,Ac Ae L21,Ac Ae L22,Ac Ae L23,Ac Ae L24,Ac Ae L25,Ac Ae L26,Ac Ae L27,Ac Ae L28,Ac Ae L29,Ac Ae L30,Ac Ae L31,Ac Ae L32,Ac Ae L33,Ac Ae L34,Zde (j:=61) FQ Ae A2 A0 L15⟩
  | succ n ih=>exact⟨Rk L0 (Wr Jq T ih O5 FQ),Rk L1 (Wr Qc T ih Cu FQ),Rk L2 (Wr Dy T ih B3 FQ),Rk L3 (Wr Qd T ih O6 FQ),Rk L4 (Wr Nh T ih Ee FQ),Rk L5 (Wr oI T ih rB FQ),Rk L6 (Wr Oh T ih Ef FQ),Rk L7 (Wr I0 T ih Ed FQ),Rk L8 (Wr A1 T ih xG FQ),Rk L9 (Wr D0 T ih yQ FQ),Rk L10 (Wr Dz T ih Hm FQ),Rk L11 (Wr um T ih rA FQ),Rk L12 (Wr xg T ih B4 FQ),Rk L13 (Wr S8 T ih Ti FQ),Rk L14 (Wr oK T ih nF FQ),Rk L35 (Wr Hz T ih M5 FQ),⟨_,_,mM T ih BU,AW,AU,AX⟩,Rk L37 (Wr Kh T ih O7 FQ),Rk L38 (Wr Nn T ih Q0 FQ),Rk L39 (Wr Ki T ih O8 FQ),Rk L40 (Wr Ge T ih M8 FQ),Rk L41 (Wr U3 T ih Vt FQ),Rk L42 (Wr Gg T ih Vz FQ),Rk L43 (Wr Kj T ih Cv FQ),Rk L44 (Wr D3 T ih Wk FQ),Rk L45 (Wr Np T ih Ut FQ),Rk L46 (Wr Gb T ih J6 FQ),Rk L47 (Wr Gi T ih La FQ),Rk L48 (Wr No T ih Q1 FQ),Rk L49 (Wr Gf T ih M9 FQ),Rk L50 (Wr Kk T ih Cw FQ),Rk L51 (Wr Nq T ih Q2 FQ),Rk L52 (Wr Ga T ih M6 FQ),Rk L53 (Wr D4 T ih Hn FQ),Rk L54 (Wr Gh T ih zi FQ),Rk L55 (Wr Ts T ih Ur FQ),Rk L56 (Wr Ql T ih Sn FQ),Rk L57 (Wr Tu T ih Us FQ),Rk L58 (Wr Qm T ih So FQ),Rk L59 (Wr Gc T ih M7 FQ),Rk L60 (Wr oJ T ih N6 FQ),Ab Ae L15 (Wr Tw T ih N7 FQ),Ab Ae L16 (Wr Gj T ih zj FQ),Ab Ae L17 (Wr Rj T ih Lc FQ),Ab Ae L18 (Wr Rf T ih Tj FQ),Ab Ae L19 (Wr Qo T ih K7 FQ),Ab Ae L20 (Wr U5 T ih Vv FQ),Ab Ae L21 (Wr Vw T ih Q3 FQ),Ab Ae L22 (Wr U6 T ih Om FQ),Ab Ae L23 (Wr Vy T ih Vh FQ),Ab Ae L24 (Wr U4 T ih Vu FQ),Ab Ae L25 (Wr Ri T ih Lb FQ),Ab Ae L26 (Wr Vx T ih Q4 FQ),Ab Ae L27 (Wr Nv T ih Q6 FQ),Ab Ae L28 (Wr Nt T ih Q5 FQ),Ab Ae L29 (Wr Tv T ih Uu FQ),Ab Ae L30 (Wr Nw T ih Q7 FQ),Ab Ae L31 (Wr Nr T ih Eg FQ),Ab Ae L32 (Wr Nu T ih Ei FQ),Ab Ae L33 (Wr P8 T ih Go FQ),Ab Ae L34 (Wr U7 T ih On FQ),lV (j:=61) FQ Ae A2 A0 ih.zcm⟩
 exact Wr oJ T (CS (59)) N6 FQ BT
end K38
namespace WL
open PySem PySem.Spec PyProof.Rows L2
def Ex (C C':Hw):Prop:=∀a o,C a=some o->C' a=some o
def Ex.refl (C:Hw):Ex C C:=λ_ _ h=>h
def Ex.trans (a:Ex C C1)(b:Ex C1 C2):Ex C C2:=λc o h=>b c o (a c o h)
def cne {C:Hw}(h:C a=some o)(h':C b=none):a≠b:=λe=>by subst e;rw[h] at h';cases h'
def Bn {C:Hw}(h:C a=some o)(h':C b=none):b≠a:=λe=>cne h h' e.symm
def Ex.new {C:Hw}(h:C p=none):Ex C (up C p o):=λa u e=>by rw[Zn (cne e h)];exact e
def Ex.up (e:Ex C C')(h:C p=none):Ex C (up C' p o):=λa u q=>by rw[Zn (cne q h)];exact e a u q
def xq (h:up C p o q=none):q≠p/\C q=none:=by
 have n:q≠p:=λz=>by subst z;rw[Zh] at h;cases h
 rw[Zn n] at h;exact⟨n,h⟩
def Ex.free (e:Ex C C')(h:C' p=none):C p=none:=by
 cases q:C p with
 | none=>rfl
 | some o=>rw[e p o q] at h;cases h
def S7 (p:WP)(C C':Hw):Prop:=∀a o,a≠p->C a=some o->C' a=some o
def S7.refl (p:WP)(C:Hw):S7 p C C:=λ_ _ _ h=>h
def S7.trans (a:S7 p C C1)(b:S7 p C1 C2):S7 p C C2:=λc o n h=>b c o n (a c o n h)
def Ex.exB (e:Ex C C')(p:WP):S7 p C C':=λa o _ h=>e a o h
def S7.put (e:S7 p C C'):S7 p C (WL.up C' p o):=λa u n h=>by rw[Zn n];exact e a u n h
def S7.new (e:S7 p C C')(h:C q=none):S7 p C (WL.up C' q o):=λa u n z=>by rw[Zn (cne z h)];exact e a u n z
theorem Od:∀{xs:List T} {n:Nat},Jv xs n=true↔∀x∈xs,J8 x n=true
 | [],n=>by unfold Jv;simp
 | x::xs,n=>by unfold Jv;rw[Bool.and_eq_true,Od];simp
def Pj {xs:List T}(h:∀x∈xs,J8 x n=true):J8 (.tup xs) (n+1)=true:=by unfold J8;exact Od.mpr h
def Jd:J8 (.str x) n=true:=by unfold J8;rfl
def Pk:J8 (.int x) n=true:=by unfold J8;rfl
def lE:J8 (.bl x) n=true:=by unfold J8;rfl
def Da:Y9 (.str x)=True:=eq_true Jd
def Db:Y9 (.int x)=True:=eq_true Pk
def Ak:Y9 (.bl x)=True:=eq_true lE
def wF {xs:List Str}:Jv (xs.map T.str) n=true:=Od.mpr λx hx=>by obtain⟨y,_,rfl⟩:=XR.mp hx;exact Jd
section
variable {n:Bool}{C:Hw}{Q:WK}
def Wt:Fy n (.str a) (.str b) C Q=Q (.bl (if n=true then !(a==b) else a==b)) C:=by
 show(Y9 _/\Y9 _/\Q (.bl (if n=true then !eqT (.str a) (.str b) else eqT (.str a) (.str b))) C)=_;rw[Da,Da,true_and,true_and,show eqT (.str a) (.str b)=(a==b) by unfold eqT;rfl]
def vk:Fy n (.int a) (.int b) C Q=Q (.bl (if n=true then !(a==b) else a==b)) C:=by
 show(Y9 _/\Y9 _/\Q (.bl (if n=true then !eqT (.int a) (.int b) else eqT (.int a) (.int b))) C)=_;rw[Db,Db,true_and,true_and,show eqT (.int a) (.int b)=(a==b) by unfold eqT;rfl]
def i7:Fy n (.bl a) (.bl b) C Q=Q (.bl (if n=true then !(a==b) else a==b)) C:=by
 show(Y9 _/\Y9 _/\Q (.bl (if n=true then !eqT (.bl a) (.bl b) else eqT (.bl a) (.bl b))) C)=_;rw[Ak,Ak,true_and,true_and,show eqT (.bl a) (.bl b)=(a==b) by unfold eqT;rfl]
end
section
variable {α:Type}{a b c d e:α}{xs:List α}
def f7:(a::xs).eraseIdx 0=xs:=rfl
def Zo:Sg (a::xs) 0=some a:=Og (j:=0) FQ
def Z1:Sg (a::b::xs) 1=some b:=Og (j:=1) FQ
def Y2:Sg (a::b::c::xs) 2=some c:=Og (j:=2) FQ
def ub:Sg (a::b::c::d::xs) 3=some d:=Og (j:=3) FQ
def ig:Sg (a::b::c::d::e::xs) 4=some e:=Og (j:=4) FQ
def fW:Sg [a] (-1)=some a:=rfl
def fV:Sg [a,b] (-1)=some b:=rfl
def yq:Sg [a,b,c] (-1)=some c:=rfl
def wT:Sg [a,b,c,d] (-1)=some d:=rfl
end
def Wb {g:WG}{b:WS}{ok:Hw->Prop}{D:We}{xs:List T}(Pv:Nat->Sw->Hw->Prop)(h0:Pv 0 τ C)(hok:∀i τ C,i<=xs.length->Pv i τ C->ok C)
  (hs:∀i x τ C (N:Sw->Hw->Prop),xs[i]?=some x->Pv i τ C->(∀τ' C',Pv (i+1) τ' C'->N τ' C')->g x τ C (λτ2 C2=>b {D with nx:=N,ct:=N,bk:=D.nx} τ2 C2) D.xc)
  (hd:∀τ C,Pv xs.length τ C->D.nx τ C):ya g b ok D xs τ C:=by
 have key:∀(k i:Nat) (τ:Sw) (C:Hw),xs.length-i=k->i<=xs.length->Pv i τ C->ya g b ok D (xs.drop i) τ C:=by
  intro k
  induction k with
  | zero=>
   intro i τ C hk hi hp;have e:i=xs.length:=by omega
   subst e;rw[ES];exact⟨hok _ τ C (XE _) hp,hd τ C hp⟩
  | succ k ih=>
   intro i τ C hk hi hp;have hlt:i<xs.length:=by omega
   rw[CV hlt];exact⟨hok i τ C hi hp,hs i _ τ C _ (by simp[hlt]) hp λτ' C' h=>ih (i+1) τ' C' (by omega) hlt h⟩
 exact key xs.length 0 τ C (by simp) (Nat.zero_le _) h0
def zt (lo:Int)(n:Nat):(rng lo n).length=n:=by unfold rng;simp
def vv {lo:Int}{n i:Nat}(h:(rng lo n)[i]?=some x):i<n/\x=.int (lo+i):=by
 have hi:i<n:=by
  have:=(BW.mp h).1;rw[zt] at this;exact this
 unfold rng at h;rw[XM,FC hi] at h
 cases h
 exact⟨hi,FQ⟩
def zZ {g:WG}{b:WS}{ok:Hw->Prop}{D:We}{lo:Int}{n:Nat}(Pv:Nat->Sw->Hw->Prop)(h0:Pv 0 τ C)(hok:∀C,ok C)
  (hs:∀i τ C (N:Sw->Hw->Prop),i<n->Pv i τ C->(∀τ' C',Pv (i+1) τ' C'->N τ' C')->g (.int (lo+i)) τ C (λτ2 C2=>b {D with nx:=N,ct:=N,bk:=D.nx} τ2 C2) D.xc)
  (hd:∀τ C,Pv n τ C->D.nx τ C):ya g b ok D (rng lo n) τ C:=by
 refine Wb Pv h0 (λ_ _ C _ _=>hok C) (λi x τ C N hx hp hN=>?_) (λτ C h=>hd τ C (by rw[zt] at h;exact h));obtain⟨hi,rfl⟩:=vv hx;exact hs i τ C N hi hp hN
def jR {g:WG}{c:WT}{e:WE}{ok:Hw->Prop}{τ:Sw}{Q:List T->Hw->Prop}{χ:WX}{xs:List T}(Pv:Nat->List T->Hw->Prop)(h0:Pv 0 [] C)(hok:∀i acc C,i<=xs.length->Pv i acc C->ok C)
  (hs:∀i x acc C (N:List T->Hw->Prop),xs[i]?=some x->Pv i acc C->(∀acc' C',Pv (i+1) acc' C'->N acc' C')->
   g x τ C (λτ2 C2=>c τ2 C2 (λb C3=>if b=true then e τ2 C3 (λv C4=>acc.length<sizeLine/\N (acc++[v]) C4) χ else N acc C3) χ) χ)
  (hd:∀acc C,Pv xs.length acc C->Q acc C):Kf g c e ok τ Q χ xs [] C:=by
 have key:∀(k i:Nat) (acc:List T) (C:Hw),xs.length-i=k->i<=xs.length->Pv i acc C->Kf g c e ok τ Q χ (xs.drop i) acc C:=by
  intro k
  induction k with
  | zero=>
   intro i acc C hk hi hp;have e:i=xs.length:=by omega
   subst e;rw[ES];exact⟨hok _ acc C (XE _) hp,hd acc C hp⟩
  | succ k ih=>
   intro i acc C hk hi hp;have hlt:i<xs.length:=by omega
   rw[CV hlt];exact⟨hok i acc C hi hp,hs i _ acc C _ (by simp[hlt]) hp λacc' C' h=>ih (i+1) acc' C' (by omega) hlt h⟩
 exact key xs.length 0 [] C (by simp) (Nat.zero_le _) h0
def Fi {g:WG}{c:WT}{e:WE}{ok:Hw->Prop}{τ:Sw}{Q:List T->Hw->Prop}{χ:WX}{xs:List T}(f:T->Option T)(hok:ok C)(hl:xs.length<=sizeLine)
  (hs:∀x∈xs,∀(R:WK) (N:Hw->Prop),(∀v,f x=some v->R v C)->(f x=none->N C)->g x τ C (λτ2 C2=>c τ2 C2 (λb C3=>if b=true then e τ2 C3 R χ else N C3) χ) χ) (hd:Q (xs.filterMap f) C):Kf g c e ok τ Q χ xs [] C:=by
 refine jR (λi acc C'=>C'=C/\acc=(xs.take i).filterMap f) ⟨FQ,FQ⟩ (λi acc C' _ h=>by rw[h.1];exact hok) (λi x acc C' N hx hp hN=>?_) (λacc C' h=>?_)
 ·obtain⟨rfl,rfl⟩:=hp;have hi:i<xs.length:=(BW.mp hx).1;refine hs x (CF hx) _ _ (λv hv=>⟨?_,hN _ _ ⟨FQ,?_⟩⟩) (λhv=>hN _ _ ⟨FQ,?_⟩)
  ·have:=List.length_filterMap_le f (xs.take i);rw[YM] at this;omega
  ·rw[YD,hx,List.filterMap_append];simp[hv]
  ·rw[YD,hx,List.filterMap_append];simp[hv]
 ·obtain⟨rfl,rfl⟩:=h;rw[CG];exact hd
def Xu {g:WG}{e:WE}{ok:Hw->Prop}{τ:Sw}{Q:List T->Hw->Prop}{χ:WX}{xs:List T}(f:T->T)(hok:ok C)(hl:xs.length<=sizeLine)
  (hs:∀x∈xs,∀R:WK,R (f x) C->g x τ C (λτ2 C2=>e τ2 C2 R χ) χ) (hd:Q (xs.map f) C):Kf g iF e ok τ Q χ xs [] C:=by
 refine jR (λi acc C'=>C'=C/\acc=(xs.take i).map f) ⟨FQ,FQ⟩ (λi acc C' _ h=>by rw[h.1];exact hok) (λi x acc C' N hx hp hN=>?_) (λacc C' h=>?_)
 ·obtain⟨rfl,rfl⟩:=hp;have hi:i<xs.length:=(BW.mp hx).1;refine hs x (CF hx) _ ⟨?_,hN _ _ ⟨FQ,?_⟩⟩
  ·rw[XI,YM];omega
  ·rw[YD,hx,XL];rfl
 ·obtain⟨rfl,rfl⟩:=h;rw[CG];exact hd
def pv {zs:List Str}:Kn (.str z) (zs.map T.str)=decide (z∈zs):=by
 unfold Kn;rw[List.any_map]
 induction zs with
 | nil=>rfl
 | cons y ys ih=>
  rw[DE,ih];have e:(((λy=>eqT y (.str z))∘T.str) y)=(y==z):=by show eqT (.str y) (.str z)=_;unfold eqT;rfl
  rw[e];by_cases h:y=z
  ·subst h;simp
  ·have h':z≠y:=λq=>h q.symm;simp[h,h']
def ni {z:Str}{zs:List Str}{C:Hw}{Q:WK}(h:C a=some (.lst (zs.map T.str)))(q:Q (.bl (if n=true then !decide (z∈zs) else decide (z∈zs))) C):nj n (.str z) (.ref a) C Q:=
 ⟨zs.map T.str,h,Jd,wF,by rw[pv];exact q⟩
def o9 {ds:List Int}{i:Int}(h0:0<=i)(h1:i<(ds.length:Int)):∃d,Sg (ds.map T.int) i=some (.int d)/\d∈ds:=by
 obtain⟨v,h,m⟩:=Iy (xs:=ds.map T.int) h0 (by simpa using h1);obtain⟨d,hd,rfl⟩:=XR.mp m;exact⟨d,h,hd⟩
def my {ds:List Int}(h:0<ds.length):∃d,(ds.map T.int)[(ds.map T.int).length-1]?=some (.int d)/\d∈ds/\(ds.map T.int).dropLast=ds.dropLast.map T.int/\ds.dropLast.length=ds.length-1/\∀x∈ds.dropLast,x∈ds:=by
 have hlt:ds.length-1<ds.length:=by omega
 refine⟨ds[ds.length-1],?_,YN hlt,?_,EZ,λx hx=>(List.dropLast_sublist ds).subset hx⟩
 ·rw[XI,XM,CW hlt];rfl
 ·rw[List.map_dropLast]
def aY {n:Nat}(h:0<n):seqIndex? 0 n=some 0:=by
 have:=(vH (n:=n) (i:=0) (j:=0) (by unfold tR;simp;omega)).1;exact this
def Ya {n:Nat}(h:n<=100000):n<=sizeLine:=XN h (by decide)
def Yc {n:Nat}(h:n<=100000):n<sizeLine:=Nat.lt_of_le_of_lt h (by decide)
end WL
namespace K38
open PySem PySem.Spec PyProof.Rows L2 WL
local macro_rules | `(tactic| walk_at "ws") => `(tactic| try simp (config := { decide := true }) only [Z6, eC, Y1, Za9, Zy, Yb, Dh, wJ, Vj, kW, lI, eR, fD, Zba, Zbb, iG, O4, ay, sT, aQ, wM, i9, Wp, dk, i8, dq, dh, dj, av, Zb3, Zb5, aL, sG, sE, Tz, Zch, kL, aJ, Zco, fT, Zbl, Zbk, ou, ow, bL, dy, Bl, jD, Iq, bE, Zdi, Qj, Vn, Q8, rQ, kF, xo, T7, Zag, cx, rR, iV, wC, Zcm, Zcl, Zdg, Bp, iF, Lz, yK, Zb6, Tl, bh, qQ, Hk, kA, Zb4, sF, Wt, vk, f7, Zo, Z1, Y2, ub, ig, fW, fV, yq, wT, i7,
  List.map_cons, FA, List.length_cons, FP, List.replicate, List.cons_append, List.nil_append, List.getElem?_cons_zero, List.getElem?_cons_succ, List.set_cons_zero, List.set_cons_succ, Option.some.injEq, T.int.injEq, T.str.injEq, T.bl.injEq, T.ref.injEq, T.tup.injEq, T.cl.injEq, exists_eq_left', exists_eq_left, exists_eq', exists_and_left, and_assoc, List.cons.injEq, and_true, true_and, reduceCtorEq, false_and, exists_false, List.append_nil, if_true, if_false, Bool.not_not, decide_eq_true_eq, Bool.not_eq_true', decide_eq_false_iff_not, Bool.false_eq_true, List.nil_eq, Option.bind_none, Option.bind_some, Option.join_some, Nat.reduceAdd, Nat.reduceSub, Nat.sub_self, Nat.zero_add, Nat.sub_zero, beq_iff_eq, Bool.not_false, Bool.not_true])
section
variable {A B:WS}{D:We}{τ:Sw}{C:Hw}{i k:Nat}{v:T}{r:List T}{s s' w:Str}{x y:Int}
def N9 (h:τ[0]?=some (some (.tup (v::r))))(q:B D (τ.set k (some v)) C):Vn (T7 (Y1 Tz (Z6 0) (eC (.int 0))) (Bl k)) B D τ C:=⟨_,h,_,Zo,q⟩
def Qk (h:τ[i]?=some (some (.str w)))(hw:w=s)(q:A {D with nx:=B D} τ C):Vn (xo (O4 (Y1 Hk (Z6 i) (eC (.str s)))) A Qj) B D τ C:=by
 refine⟨_,h,?_⟩;simp only[eC];rw[Hk,Wt,hw];refine⟨true,by simp,?_⟩;rw[XY rfl];exact q
def Xc (h:τ[i]?=some (some (.str w)))(hw:w≠s)(q:B D τ C):Vn (xo (O4 (Y1 Hk (Z6 i) (eC (.str s)))) A Qj) B D τ C:=by
 refine⟨_,h,?_⟩;simp only[eC];rw[Hk,Wt];refine⟨false,by simp[hw],?_⟩;rw[XX (by decide)];exact q
def wu (h:τ[i]?=some (some (.str w)))(hw:w=s\/w=s')(q:A {D with nx:=B D} τ C):Vn (xo (sT (O4 (Y1 Hk (Z6 i) (eC (.str s)))) (O4 (Y1 Hk (Z6 i) (eC (.str s'))))) A Qj) B D τ C:=by
 refine⟨_,h,?_⟩;simp only[eC];rw[Hk,Wt];by_cases c:w=s
 ·refine⟨true,by simp[c],?_⟩;rw[XY rfl];exact q
 ·refine⟨false,by simp[c],?_⟩;rw[XX (by decide)];refine⟨_,h,?_⟩;simp only[eC];rw[Wt];have c':w=s':=hw.resolve_left c;refine⟨true,by simp[c'],?_⟩;rw[XY rfl];exact q
def Nc (h:τ[i]?=some (some (.str w)))(hw:w≠s)(hw':w≠s')(q:B D τ C):Vn (xo (sT (O4 (Y1 Hk (Z6 i) (eC (.str s)))) (O4 (Y1 Hk (Z6 i) (eC (.str s'))))) A Qj) B D τ C:=by
 refine⟨_,h,?_⟩;simp only[eC];rw[Hk,Wt];refine⟨false,by simp[hw],?_⟩;rw[XX (by decide)];refine⟨_,h,?_⟩;simp only[eC];rw[Wt];refine⟨false,by simp[hw'],?_⟩;rw[XX (by decide)];exact q
def qY (h:τ[0]?=some (some (.tup (.str w::r))))(hw:w=s)(q:A {D with nx:=B D} τ C):Vn (xo (O4 (Y1 Hk (Y1 Tz (Z6 0) (eC (.int 0))) (eC (.str s)))) A Qj) B D τ C:=by
 refine⟨_,h,_,Zo,?_⟩;simp only[eC];rw[Hk,Wt,hw];refine⟨true,by simp,?_⟩;rw[XY rfl];exact q
def qZ (h:τ[0]?=some (some (.tup (.str w::r))))(hw:w≠s)(q:B D τ C):Vn (xo (O4 (Y1 Hk (Y1 Tz (Z6 0) (eC (.int 0))) (eC (.str s)))) A Qj) B D τ C:=by
 refine⟨_,h,_,Zo,?_⟩;simp only[eC];rw[Hk,Wt];refine⟨false,by simp[hw],?_⟩;rw[XX (by decide)];exact q
end
def yO:List Str:=["does","call","first","fun","let","shape","choose","rows"]
inductive Sc:T->Option Nat->List (List T×T)->Prop
 | does {o A B:T}:Sc (.tup [.str "does",o,A,B]) none [([],A),([],B)]
 | call {A B:T}:Sc (.tup [.str "call",A,B]) none [([],A),([],B)]
 | first {A B:T}:Sc (.tup [.str "first",A,B]) none [([],A),([],B)]
 | fun_ {x B:T}:Sc (.tup [.str "fun",x,B]) none [([x],B)]
 | let_ {B:T} {xs:List (T×T)} (h:xs.length<=1000):Sc (.tup [.str "let",.tup (xs.map λx=>.tup [x.1,x.2]),B]) none (xs.map (λx=>(xs.map (·.1),x.2))++[(xs.map (·.1),B)])
 | shape {c:T} {ps:List T} (h:ps.length<=1000):Sc (.tup [.str "shape",c,.tup ps]) none (ps.map λx=>([],x))
 | choose {E:T} {ys:List (T×List T×T)} (h:ys.length<=1000):Sc (.tup [.str "choose",E,.tup (ys.map λy=>.tup [y.1,.tup y.2.1,y.2.2])]) none (([],E)::ys.map (·.2))
 | other {w:Str} {Y4:List T} (h:w∉yO):Sc (.tup (.str w::Y4)) none []
def aZ (s:List T×T):T:=.tup [.tup s.1,s.2]
section
variable {C:Hw}{Q:WK}{χ:WX}{n:Nat}
def zp {B:T}{xs:List (T×T)}(h:xs.length<=1000)(q:∀p C',Ex C C'->C p=none->C' p=some (.lst ((xs.map (λx=>(xs.map (·.1),x.2))++[(xs.map (·.1),B)]).map aZ))->Q (.ref p) C'):
  Z4 pr (n+1) zN [.tup (xs.map λx=>.tup [x.1,x.2]),B] C Q χ:=by
 refine A8 FQ ?_;unfold Rp Qd
 walk_at "ws"
 have hl:(xs.map λx:T×T=>T.tup [x.1,x.2]).length<=sizeLine:=by rw[XI];exact Ya (by omega)
 refine Xu (λt=>match t with | .tup [a,_]=>a | _=>.non) trivial hl (λx hx R hR=>?_) λp hp=>?_
 ·obtain⟨y,_,rfl⟩:=XR.mp hx
  walk_at "ws"
  exact hR
 refine⟨_,Zh,?_⟩;have e:(xs.map λx:T×T=>T.tup [x.1,x.2]).map (λt=>match t with | .tup [a,_]=>a | _=>T.non)=xs.map (·.1):=by rw[YE];rfl
 rw[e];refine Xu (λt=>match t with | .tup [_,b]=>.tup [.tup (xs.map (·.1)),b] | _=>.non) trivial hl (λx hx R hR=>?_) λp2 hp2=>?_
 ·obtain⟨y,_,rfl⟩:=XR.mp hx
  walk_at "ws"
  exact hR
 intro p3 hp3;obtain⟨n2,e2⟩:=xq hp2;obtain⟨n32,h32⟩:=xq hp3;obtain⟨n31,e3⟩:=xq h32;refine⟨_,by rw[Zn n32.symm];exact Zh,_,Zh,?_,λp4 hp4=>?_⟩
 ·rw[XI,XI];exact Ya (by show xs.length+1<=100000;omega)
 ·obtain⟨n43,h43⟩:=xq hp4;obtain⟨n42,h42⟩:=xq h43;obtain⟨n41,e4⟩:=xq h42;refine q p4 _ ((((Ex.new hp).up e2).up e3).up e4) e4 ?_;rw[Zh,XL,YE,YE];rfl
def rC (h:Sc t e ss)(q:∀p C',Ex C C'->C p=none->C' p=some (.lst (ss.map aZ))->Q (.ref p) C'):Z4 pr (n+2) px [t] C Q χ:=by
 refine sI FQ ?_;unfold Fk Dy
 cases h with
 | does=>refine N9 FQ (Qk FQ FQ ?_);walk_at "ws";exact λp hp=>q p _ (Ex.new hp) hp Zh
 | call=>refine N9 FQ (Xc FQ (by decide+kernel) (wu FQ (.inl FQ) ?_));walk_at "ws";exact λp hp=>q p _ (Ex.new hp) hp Zh
 | first=>refine N9 FQ (Xc FQ (by decide+kernel) (wu FQ (.inr FQ) ?_));walk_at "ws";exact λp hp=>q p _ (Ex.new hp) hp Zh
 | fun_=>refine N9 FQ (Xc FQ (by decide+kernel) (Nc FQ (by decide+kernel) (by decide+kernel) (Qk FQ FQ ?_)));walk_at "ws";exact λp hp=>q p _ (Ex.new hp) hp Zh
 | let_ h=>refine N9 FQ (Xc FQ (by decide+kernel) (Nc FQ (by decide+kernel) (by decide+kernel) (Xc FQ (by decide+kernel) (Qk FQ FQ ?_))));walk_at "ws";exact zp h q
 | shape h=>
  refine N9 FQ (Xc FQ (by decide+kernel) (Nc FQ (by decide+kernel) (by decide+kernel) (Xc FQ (by decide+kernel) (Xc FQ (by decide+kernel) (Qk FQ FQ ?_)))))
  walk_at "ws"
  refine Xu (λt=>.tup [.tup [],t]) trivial (Ya (by omega)) (λx hx R hR=>?_) λp hp=>q p _ (Ex.new hp) hp ?_
  ·walk_at "ws"
   exact hR
  ·rw[Zh,YE];rfl
 | @choose E ys h=>
  refine N9 FQ (Xc FQ (by decide+kernel) (Nc FQ (by decide+kernel) (by decide+kernel) (Xc FQ (by decide+kernel) (Xc FQ (by decide+kernel) (Xc FQ (by decide+kernel) (Qk FQ FQ ?_))))))
  walk_at "ws"
  intro p hp;refine Xu (λt=>match t with | .tup [_,a,b]=>.tup [a,b] | _=>.non) trivial (by rw[XI];exact Ya (by omega)) (λx hx R hR=>?_) λp2 hp2=>?_
  ·obtain⟨y,_,rfl⟩:=XR.mp hx
   walk_at "ws"
   exact hR
  obtain⟨n2,e2⟩:=xq hp2;refine⟨_,by rw[Zn n2.symm];exact Zh,_,Zh,?_,λp3 hp3=>?_⟩
  ·rw[XI,XI];exact Ya (by show 1+_<=_;omega)
  ·obtain⟨n32,h32⟩:=xq hp3;obtain⟨n31,e3⟩:=xq h32;refine q p3 _ (((Ex.new hp).up e2).up e3) e3 ?_;rw[Zh,YI,YE,YE];rfl
 | @other w Y4 h=>
  have hw:∀s∈yO,w≠s:=λs hs z=>h (z▸hs);refine N9 FQ (Xc FQ (hw "does" (by decide)) (Nc FQ (hw "call" (by decide)) (hw "first" (by decide)) (Xc FQ (hw "fun" (by decide)) (Xc FQ (hw "let" (by decide)) (Xc FQ (hw "shape" (by decide)) (Xc FQ (hw "choose" (by decide)) (Xc FQ (hw "rows" (by decide)) ?_)))))))
  walk_at "ws"
  exact λp hp=>q p _ (Ex.new hp) hp Zh
end
section
variable {C:Hw}{Q:WK}{χ:WX}{τ:Sw}
def Z5 {p q:Prop}(h:p):if true=true then p else q:=h
def Zq {p q:Prop}(h:q):if false=true then p else q:=h
def Lo {p q:Prop}{b:Bool}(hb:b=true)(h:p):if b=true then p else q:=by rw[XY hb];exact h
def Lp {p q:Prop}{b:Bool}(hb:b=false)(h:q):if b=true then p else q:=by subst hb;exact h
def bJ {a b:Str}{v:Bool}(h:(a==b)=v)(q:Q (.bl v) C):Fy false (.str a) (.str b) C Q:=by rw[Wt,XX (by decide),h];exact q
def Za8 {a b:Int}{v:Bool}(h:(a==b)=v)(q:Q (.bl v) C):Fy false (.int a) (.int b) C Q:=by rw[vk,XX (by decide),h];exact q
def Zav {a b:Str}{v:Bool}(h:(a==b)=v)(q:Q (.bl (!v)) C):Fy true (.str a) (.str b) C Q:=by rw[Wt,XY FQ,h];exact q
def Zx {a b:Str}{v:Bool}(h:(a==b)=v)(q:Q (.bl v) C):eC (.str b) τ C (λy C2=>Hk (.str a) y C2 Q) χ:=bJ h q
def Vi {a b:Int}{v:Bool}(h:(a==b)=v)(q:Q (.bl v) C):eC (.int b) τ C (λy C2=>Hk (.int a) y C2 Q) χ:=Za8 h q
def be {a b:Str}{v:Bool}(h:(a==b)=v)(q:Q (.bl (!v)) C):eC (.str b) τ C (λy C2=>kA (.str a) y C2 Q) χ:=Zav h q
end
open PySem PySem.Spec PyProof.Rows L2 WL
abbrev Ms:=List (Str×T)
def dm (M:Ms):List (Yo×T):=M.map λkv=>((Sum.inr kv.1:Yo),kv.2)
def Jy (M:Ms)(ns:List Str):Ms:=M.filter λkv=>decide (kv.1∉ns)
def W0:Jy M []=M:=by unfold Jy;simp
def uS:Jy (Jy M a) b=Jy M (a++b):=by
 unfold Jy;rw[List.filter_filter];refine List.filter_congr λkv _=>?_;simp only[List.mem_append,not_or];by_cases h1:kv.1∈a<;>by_cases h2:kv.1∈b<;>simp[h1,h2]
def yc:Y3 (dm M) (.inr x)=(M.find? λkv=>decide (kv.1=x)).map (·.2):=by
 unfold Y3 dm;rw[List.find?_map,Option.map_map];congr 1;congr 1
 funext kv
 simp
def vU:Y3 (dm M) (.inr x)=none↔x∉M.map (·.1):=by
 rw[yc,Option.map_eq_none_iff,DD];constructor
 ·intro h hx;obtain⟨kv,h1,rfl⟩:=XR.mp hx;exact h kv h1 (by simp)
 ·intro h kv h1 h2;exact h (List.mem_map.mpr ⟨kv,h1,by simpa using h2⟩)
theorem kX:∀{M:Ms} {i:Nat} {kv:Str×T},(M.map (·.1)).Nodup->M[i]?=some kv->Y3 (dm M) (.inr kv.1)=some kv.2
 | [],_,_,_,h=>by simp at h
 | z::M,0,kv,_,h=>by simp at h;subst h;rw[yc];simp
 | z::M,i+1,kv,hn,h=>by
  rw[YI,EB] at hn;have h':M[i]?=some kv:=by simpa using h
  have ne:¬z.1=kv.1:=λe=>hn.1 (e▸XR.mpr ⟨kv,CF h',FQ⟩);have ih:=kX hn.2 h';rw[yc] at ih |-;rw[List.find?_cons_of_neg (by simpa using ne)];exact ih
def lK:jM (dm M) (.inr x)=dm (Jy M [x]):=by
 unfold jM dm Jy;rw[List.filter_map];congr 1;refine List.filter_congr λkv _=>?_;simp
def Ag {M:Ms}{ns:List Str}(h:∀x∈ns,x∉M.map (·.1)):Jy M ns=M:=by
 unfold Jy;rw[List.filter_eq_self];intro kv hk;simp only[decide_eq_true_eq];exact λhn=>h _ hn (XR.mpr ⟨kv,hk,FQ⟩)
def pV {L:Ms}{x:Str}(h:x∉L.map (·.1)):Wq (dm L) (.inr x) v=dm (L++[(x,v)]):=by
 unfold Wq;rw[XX]
 ·unfold dm;rw[XL];rfl
 ·rw[DM];rintro⟨kv,hk,e⟩;unfold dm at hk;obtain⟨z,hz,rfl⟩:=XR.mp hk;exact h (List.mem_map.mpr ⟨z,hz,by simpa using e⟩)
def pW:(dm M).length=M.length:=by unfold dm;simp
def fF:(dm M).length=0↔M=[]:=by rw[pW,List.length_eq_zero_iff]
def _root_.WL.RdC.ex {k:List (Yo×T)}(h:RdC C a k)(e:Ex C C'):RdC C' a k:=h.imp (e _ _) (e _ _)
section
variable {C:Hw}{Q:WK}{χ:WX}{n:Nat}
def u4 {ns:List Str}(h5:ns.length<=1000)(ha:RdC C a (dm M))(q:∀p C',Ex C C'->RdC C' p (dm (Jy M ns))->Q (.ref p) C'):
  Z4 pr (n+1) uY [.ref a,.tup (ns.map T.str)] C Q χ:=by
 refine uw FQ ?_;unfold Kr I0
 walk_at "ws"
 refine Xu (λt=>match t with | .str x=>.bl (Y3 (dm M) (.inr x)).isSome | _=>.non) trivial (by rw[XI];exact Ya (by omega)) (λx hx R hR=>?_) λp hp=>?_
 ·obtain⟨y,_,rfl⟩:=XR.mp hx
  walk_at "ws"
  exact⟨a,dm M,.inr y,FQ,FQ,ha,hR⟩
 have e:(ns.map T.str).map (λt=>match t with | .str x=>T.bl (Y3 (dm M) (.inr x)).isSome | _=>T.non)=(ns.map λx=>(Y3 (dm M) (.inr x)).isSome).map T.bl:=by rw[YE,YE];rfl
 rw[e];refine⟨p,_,FQ,Zh,_,FQ,?_⟩;have ha1:=ha.ex (Ex.new (o:=.lst ((ns.map λx=>(Y3 (dm M) (.inr x)).isSome).map T.bl)) hp);by_cases c:((ns.map λx=>(Y3 (dm M) (.inr x)).isSome).any id)=true
 ·rw[if_neg (by rw[c];simp)];refine⟨a,dm M,FQ,ha1,λr hr=>?_⟩;obtain⟨nr,hr0⟩:=xq hr
  walk_at "ws"
  refine Wb (λi τ C'=>∃x3,τ=[some (.ref a),some (.tup (ns.map T.str)),some (.ref r),x3]/\Ex C C'/\C' r=some (.dic (dm (Jy M (ns.take i))))) ⟨none,FQ,(Ex.new hp).up hr0,by rw[List.take_zero,W0];exact Zh⟩ (λ_ _ _ _ _=>trivial) ?_ ?_
  ·rintro i x τ C' N hx ⟨x3,rfl,hE,hr'⟩ hN;rw[XM] at hx
   cases hz:ns[i]? with
   | none=>rw[hz] at hx;cases hx
   | some y=>
    rw[hz] at hx
    cases hx
    walk_at "ws"
    simp only[pR]
    walk_at "ws"
    have et:Jy M (ns.take (i+1))=Jy (Jy M (ns.take i)) [y]:=by rw[uS,YD,hz];rfl
    refine⟨⟨_,hr'⟩,_,.inr y,FQ,hr',λv hv=>hN _ _ ⟨_,FQ,hE.up hr0,?_⟩,λhv=>hN _ _ ⟨_,FQ,hE,?_⟩⟩
    ·rw[Zh,lK,et]
    ·rw[et,Ag (M:=Jy M (ns.take i)) (ns:=[y])]
     ·exact hr'
     ·intro x hx;rw[XQ] at hx;subst hx;exact vU.mp hv
  ·rintro τ C' ⟨x3,rfl,hE,hr'⟩;rw[XI,CG] at hr'
   walk_at "ws"
   exact q r C' hE (.inl hr')
 ·rw[XY (by rw[Bool.eq_false_iff.mpr c])];refine q a _ (Ex.new hp) ?_;rw[Ag]
  ·exact ha1
  ·intro x hx;refine vU.mp ?_
   cases hg:Y3 (dm M) (.inr x) with
   | none=>rfl
   | some v=>
    refine absurd ?_ c;rw[DM];exact⟨true,XR.mpr ⟨x,hx,by rw[hg];rfl⟩,FQ⟩
def zk {xs:List (List T)}(hb:C b=some (.lst ys))(hl:xs.length=ys.length)(h1:xs.length<=1000)(hx:∀x∈xs,x≠[]/\x.length<=1000)(q:∀C',Ex C C'->Q (.tup ((xs.zip ys).map λz=>.tup (z.1.dropLast++[z.2]))) C'):
  Z4 pr (n+1) Lq [.tup (xs.map T.tup),.ref b] C Q χ:=by
 refine A6 FQ ?_;unfold Ro Qc
 walk_at "ws"
 simp only[Zck]
 walk_at "ws"
 refine .inr (.inl ⟨ys,hb,by rw[XI];exact hl,?_⟩);have ez:Ko (xs.map T.tup) ys=(xs.zip ys).map λz=>.tup [.tup z.1,z.2]:=by
  unfold Ko;rw[List.zipWith_map_left,List.zip,List.map_zipWith]
 rw[ez];refine Xu (λt=>match t with | .tup [.tup x,y]=>.tup (x.dropLast++[y]) | _=>.non) hb (by rw[XI,EE];exact Ya (by omega)) (λx hx' R hR=>?_) λp hp=>?_
 ·obtain⟨z,hz,rfl⟩:=XR.mp hx';obtain⟨hz1,hz2⟩:=hx z.1 (DR hz).1
  walk_at "ws"
  have hpos:0<z.1.length:=List.length_pos_iff.mpr hz1;have e:HT.sIx z.1.length z.1.length (some (-1))=z.1.length-1:=by unfold HT.sIx;simp;omega
  have e2:As z.1 none (some (-1))=z.1.dropLast:=by
   unfold As;rw[e,EU];simp[HT.sIx]
  refine⟨λh=>?_,?_,?_⟩
  ·have:=h.2;rw[e] at this;omega
  ·rw[e2];rw[EZ];exact Ya (by show _+1<=_;omega)
  ·rw[e2];exact hR
 ·refine⟨_,Zh,?_⟩;rw[YE];exact q _ (Ex.new hp)
end
open PySem PySem.Spec PyProof.Rows L2 WL
def PT (f:Nat)(t:T)(M:Ms)(t':T):Prop:=∀{n:Nat} {C:Hw} {Q:WK} {χ:WX} {a:WP},RdC C a (dm M)->(∀o C',Ex C C'->(o=t'\/(o=.non/\t'=t))->Q o C')->Z4 pr (n+f+4) tf [t,.ref a] C Q χ
def ij (t:T)(ts:List T)(t':T):Prop:=∀{n:Nat} {C:Hw} {Q:WK} {χ:WX} {b:WP},C b=some (.lst ts)->(∀C',Ex C C'->Q t' C')->Z4 pr (n+2) zM [t,.ref b] C Q χ
def PT.mono {f g:Nat}(h:PT f t M t')(hl:f<=g):PT g t M t':=by
 intro n C Q χ a ha q;rw[show n+g+4=(n+(g-f))+f+4 by omega];exact h ha q
def PT.put {f:Nat}(h:PT f t M t')(ht:∃l,t'=.tup l){n:Nat}{Q:WK}(ha:RdC C a (dm M))(q:∀C',Ex C C'->Q t' C'):Z4 pr (n+f+5) bw [t,.ref a] C Q χ:=by
 refine dv FQ ?_;unfold sf oI
 walk_at "ws"
 refine h (n:=n) ha λo C' hE ho=>?_;obtain⟨l,rfl⟩:=ht
 rcases ho with rfl | ⟨rfl,rfl⟩
 ·walk_at "ws"
  exact q _ hE
 ·walk_at "ws"
  exact q _ hE
abbrev Sp:=List Str×T
def kE (z:Sp):List T×T:=(z.1.map T.str,z.2)
def vQ {l:List Str}:Y9 (.tup (l.map T.str)):=Pj λx hx=>by obtain⟨y,_,rfl⟩:=XR.mp hx;exact Jd
def Q9 {f:Nat}{Y4:List T}{ss:List Sp}{us:List T}{t':T}{M:Ms}(h:Sc (.tup (.str w::Y4)) e (ss.map kE))(hw:w≠"name")(h5:∀z∈ss,z.1.length<=1000)(hl:ss.length<=1000)(hu:us.length=ss.length)
  (hP:∀(i:Nat) (z:Sp) (u:T),ss[i]?=some z->us[i]?=some u->(Jy M z.1≠[]->PT f z.2 (Jy M z.1) u)/\(Jy M z.1=[]->u=z.2)/\∃l,u=.tup l) (hwp:ij (.tup (.str w::Y4)) us t')
  (hst:us=ss.map (·.2)->t'=.tup (.str w::Y4)):PT (f+1) (.tup (.str w::Y4)) M t':=by
 intro n C Q χ a ha q;refine By FQ ?_;unfold P9 Oh
 walk_at "ws"
 rw[XX hw]
 first | unfold A4 V6 | unfold V6
 walk_at "ws"
 intro p hp;refine rC (n:=n+f+2) h λb C1 hE hb0 hb1=>?_;have hE0:Ex C C1:=(Ex.new hp).trans hE;have hp1:=hE _ _ (Zh (C:=C) (a:=p));have bp:b≠p:=(xq hb0).1;refine⟨_,hb1,?_⟩;refine Wb (λi τ C'=>∃x4 x5 x6 x7,∃st:Bool,τ=[some (.tup (.str w::Y4)),some (.ref a),some (.bl st),some (.ref p),x4,x5,x6,x7]/\Ex C C'/\C' b=some (.lst ((ss.map kE).map aZ))/\C' p=some (.lst (us.take i))/\(st=true->us.take i=(ss.take i).map (·.2)))
  ⟨none,none,none,none,true,FQ,hE0,hb1,hp1,λ_=>rfl⟩ (λi τ C' _ ⟨_,_,_,_,_,_,_,h,_⟩=>h) ?_ ?_
 ·rintro i x τ C' N hx ⟨x4,x5,x6,x7,st,rfl,hE',hb',hp',hs'⟩ hN;rw[YE,XM] at hx
  cases hz:ss[i]? with
  | none=>rw[hz] at hx;cases hx
  | some z=>
   rw[hz] at hx
   cases hx
   have mz:=CF hz;have hi:i<ss.length:=(BW.mp hz).1;have hui:us[i]?=some (us[i]'(by omega)):=by simp[show i<us.length by omega]
   generalize us[i]'(by omega)=u at hui;have hPz:=hP i z u hz hui;show bE _ (.tup [.tup (z.1.map T.str),z.2]) _ _ _ _;have fin:∀C4,Ex C' C4->∀x4 x5 x6 x7 (s2:Bool),(s2=true->st=true/\u=z.2)->∃xs,C4 p=some (.lst xs)/\xs.length<sizeLine/\N [some (.tup (.str w::Y4)),some (.ref a),some (.bl s2),some (.ref p),x4,x5,x6,x7] (up C4 p (.lst (xs++[u]))):=λC4 hE5 x4 x5 x6 x7 s2 h2=>by
    refine⟨_,hE5 _ _ hp',?_,hN _ _ ⟨x4,x5,x6,x7,s2,FQ,?_,?_,?_,λe=>?_⟩⟩
    ·rw[YM];exact Yc (by omega)
    ·exact(hE'.trans hE5).up hp
    ·rw[Zn bp];exact hE5 _ _ hb'
    ·rw[Zh,YD,hui];rfl
    ·rw[YD,YD,hz,hui,XL,hs' (h2 e).1,(h2 e).2];rfl
   have hr:∀(l:WP) (C2:Hw),Ex C' C2->RdC C2 l (dm (Jy M z.1))->∀(D:We),D.nx=N-> 
     Vn (T7 (eR (O4 (Y1 df (Z6 6) wL)) (eC (.non)) (Vj (Z4 pr (n+(f+1)+3)) 6 (Yb (Z6 5) (Yb (Z6 6) Zy)))) (Bl 7))
     (Vn (xo (O4 (Y1 sE (Z6 7) (eC (.non)))) (T7 (eC (.bl false)) (Bl 2)) Qj)
     (Q8 (lI yK Tl (Z6 3) (Yb (eR (O4 (Y1 sG (Z6 7) (eC (.non)))) (Z6 5) (Z6 7)) Zy)))) D
     [some (.tup (.str w::Y4)),some (.ref a),some (.bl st),some (.ref p),some (.tup (z.1.map T.str)),some z.2,some (.ref l),x7] C2:=by
    intro l C2 hE2 hl2 D hD
    walk_at "ws"
    intro p3 hp3;have hE3:Ex C2 (up C2 p3 (.dic [])):=Ex.new hp3;refine⟨l,p3,_,[],FQ,FQ,hl2.ex hE3,.inl Zh,?_⟩;rw[hD];by_cases c:Jy M z.1=[]
    ·refine .inr ⟨by rw[c];rfl,by rw[c];simp[dm],_,FQ,?_⟩;rw[XY (by decide)];have hg:=hPz.2.1 c;obtain⟨xs,h1,h2,h3⟩:=fin _ (hE2.trans hE3) (some (.tup (z.1.map T.str))) (some z.2) (some (.ref l)) (some .non) st λe=>⟨e,hg⟩;rw[hg] at h3;exact⟨⟨_,h1⟩,_,h1,h2,h3⟩
    ·refine .inl ⟨λhh=>c (fF.mp hh),_,FQ,?_⟩;rw[XX (by decide)];refine hPz.1 c (n:=n) (hl2.ex hE3) λo C4 hE4 ho=>?_;obtain⟨lt,hlt⟩:=hPz.2.2
     rcases ho with ho | ⟨rfl,hg⟩
     ·have ho':=ho.symm;subst ho';have:=fin C4 (hE2.trans (hE3.trans hE4)) (some (.tup (z.1.map T.str))) (some z.2) (some (.ref l)) (some u) false (by simp);rw[hlt] at this |-;obtain⟨xs,h1,h2,h3⟩:=this
      walk_at "ws"
      exact⟨⟨_,h1⟩,_,h1,h2,h3⟩
     ·obtain⟨xs,h1,h2,h3⟩:=fin C4 (hE2.trans (hE3.trans hE4)) (some (.tup (z.1.map T.str))) (some z.2) (some (.ref l)) (some .non) st λe=>⟨e,hg⟩;rw[hg] at h3
      walk_at "ws"
      exact⟨⟨_,h1⟩,_,h1,h2,h3⟩
   have key:∀(K:WK) (χ:WX),(∀l C2,Ex C' C2->RdC C2 l (dm (Jy M z.1))->K (.ref l) C2)->eR (O4 (Y1 Hk (Z6 4) (Dh Zy))) (Z6 1) (Vj (Z4 pr (n+(f+1)+3)) 7 (Yb (Z6 1) (Yb (Z6 4) Zy)))
     [some (.tup (.str w::Y4)),some (.ref a),some (.bl st),some (.ref p),some (.tup (z.1.map T.str)),some z.2,x6,x7] C' K χ:=by
    intro K χ hK
    walk_at "ws"
    refine⟨vQ,vQ (l:=[]),_,FQ,?_⟩
    cases hz1:z.1 with
    | nil=>
     rw[hz1] at hK;rw[W0] at hK;exact hK a C' (Ex.refl _) (ha.ex hE')
    | cons y ys=>
     rw[<-hz1];rw[if_neg (by rw[hz1];simp[WL.eqT,Tc])];exact u4 (n:=n+f+3) (h5 z mz) (ha.ex hE') hK
   refine⟨_,FQ,_,_,FQ,_,_,FQ,FQ,?_⟩;refine key _ _ ?_;intro l C2 hE2 hl2;exact hr l C2 hE2 hl2 _ FQ
 ·rintro τ C' ⟨x4,x5,x6,x7,st,rfl,hE',hb',hp',hs'⟩;rw[XI,XI,<-hu,CG] at hp';rw[XI,XI,CG,<-hu,CG] at hs'
  first | unfold A5 V7 | unfold V7
  walk_at "ws"
  cases st with
  | true=>
   refine⟨true,FQ,?_⟩;rw[XY rfl];exact q _ _ hE' (.inr ⟨FQ,hst (hs' FQ)⟩)
  | false=>
   refine⟨false,FQ,?_⟩;rw[XX (by decide)];exact hwp (n:=n+f+2) hp' λC5 hE5=>q _ C5 (hE'.trans hE5) (.inl FQ)
def v5:PT 0 (.tup [.str "name",.str x]) M ((Y3 (dm M) (.inr x)).getD (.tup [.str "name",.str x])):=by
 intro n C Q χ a ha q;refine By FQ ?_;unfold P9 Oh
 walk_at "ws"
 simp only[pP]
 walk_at "ws"
 refine⟨⟨_,ha⟩,_,.inr x,FQ,ha,q _ _ (Ex.refl _) ?_⟩
 cases Y3 (dm M) (.inr x) with
 | none=>exact .inr ⟨FQ,FQ⟩
 | some v=>exact .inl FQ
section
variable {C:Hw}{Q:WK}{χ:WX}{n:Nat}
def dZ {α:Type}{Z:List α}{pre:α->List T}{o nw:α->T}(hb:C b=some (.lst (Z.map nw)))(h1:Z.length<=1000)(hx:∀z∈Z,(pre z).length<=100)(q:∀C',Ex C C'->Q (.tup (Z.map λz=>.tup (pre z++[nw z]))) C'):
  Z4 pr (n+1) Lq [.tup (Z.map λz=>.tup (pre z++[o z])),.ref b] C Q χ:=by
 have e:(Z.map λz=>T.tup (pre z++[o z]))=(Z.map λz=>pre z++[o z]).map T.tup:=by rw[YE];rfl
 rw[e];refine zk hb (by simp) (by simpa using h1) (λx hx'=>?_) λC' hE=>?_
 ·obtain⟨z,hz,rfl⟩:=XR.mp hx';have:=hx z hz;exact⟨by simp,by rw[List.length_append,List.length_singleton];omega⟩
 ·have e2:(((Z.map λz=>pre z++[o z]).zip (Z.map nw)).map λz=>T.tup (z.1.dropLast++[z.2]))=Z.map λz=>T.tup (pre z++[nw z]):=by
   rw[List.zip_map',YE];refine DA λz _=>?_;simp only[Function.comp,List.dropLast_concat]
  rw[e2];exact q C' hE
end
def nh {o A B A' B':T}:ij (.tup [.str "does",o,A,B]) [A',B'] (.tup [.str "does",o,A',B']):=by
 intro n C Q χ b hb q;refine J4 FQ ?_;unfold Jk Jq;refine N9 FQ (Qk FQ FQ ?_)
 walk_at "ws"
 exact⟨_,hb,_,Zo,_,hb,_,Z1,q _ (Ex.refl _)⟩
def i4 {w:Str}{A B A' B':T}(h:w="call"\/w="first"):ij (.tup [.str w,A,B]) [A',B'] (.tup [.str w,A',B']):=by
 intro n C Q χ b hb q;refine J4 FQ ?_;unfold Jk Jq;refine N9 rfl (Xc rfl (by rcases h with rfl | rfl<;>decide+kernel) (wu FQ h ?_))
 walk_at "ws"
 exact⟨_,hb,_,Zo,_,hb,_,Z1,q _ (Ex.refl _)⟩
def i6 {x A A':T}:ij (.tup [.str "fun",x,A]) [A'] (.tup [.str "fun",x,A']):=by
 intro n C Q χ b hb q;refine J4 FQ ?_;unfold Jk Jq;refine N9 FQ (Xc FQ (by decide+kernel) (Nc FQ (by decide+kernel) (by decide+kernel) (Qk FQ FQ ?_)))
 walk_at "ws"
 exact⟨_,hb,_,Zo,q _ (Ex.refl _)⟩
def yy {c:T}:ij (.tup [.str "shape",c,.tup ps]) ps' (.tup [.str "shape",c,.tup ps']):=by
 intro n C Q χ b hb q;refine J4 FQ ?_;unfold Jk Jq;refine N9 FQ (Xc FQ (by decide+kernel) (Nc FQ (by decide+kernel) (by decide+kernel) (Xc FQ (by decide+kernel) (Xc FQ (by decide+kernel) (Qk FQ FQ ?_)))))
 walk_at "ws"
 exact⟨_,hb,q _ (Ex.refl _)⟩
def tZ {w:Str}{Y4 ts:List T}(h:w∉yO):ij (.tup (.str w::Y4)) ts (.tup (.str w::Y4)):=by
 intro n C Q χ b hb q;refine J4 FQ ?_;unfold Jk Jq;have hw:∀s∈yO,w≠s:=λs hs z=>h (z▸hs);refine N9 FQ (Xc FQ (hw "does" (by decide)) (Nc FQ (hw "call" (by decide)) (hw "first" (by decide)) (Xc FQ (hw "fun" (by decide)) (Xc FQ (hw "let" (by decide)) (Xc FQ (hw "shape" (by decide)) (Xc FQ (hw "choose" (by decide)) (Xc FQ (hw "rows" (by decide)) ?_)))))))
 walk_at "ws"
 exact q _ (Ex.refl _)
def Zbg {α:Type}{a:α}{r:List α}:As (a::r) (some 1) none=r:=by
 unfold As;have e1:HT.sIx (a::r).length 0 (some 1)=1:=by unfold HT.sIx;simp
 have e2:HT.sIx (a::r).length (a::r).length none=(a::r).length:=by unfold HT.sIx;simp
 rw[e1,e2];simp
def Zbf {α:Type}{a:α}{r:List α}:As (r++[a]) none (some (-1))=r:=by
 unfold As;have e1:HT.sIx (r++[a]).length 0 none=0:=by unfold HT.sIx;simp
 have e2:HT.sIx (r++[a]).length (r++[a]).length (some (-1))=r.length:=by unfold HT.sIx;simp;omega
 rw[e1,e2];simp
def Zct {a:T}{r:List T}:Sg (r++[a]) (-1)=some a:=by
 unfold Sg tR;rw[if_neg (by decide),if_pos (by simp;omega)];have e:((-1:Int)+((r++[a]).length:Nat)).toNat=r.length:=by simp;omega
 rw[e];simp
def i5 {α:Type}{Z:List α}{x:α->Str}{o nw:α->T}{B B':T}(h1:Z.length<=1000):ij (.tup [.str "let",.tup (Z.map λz=>.tup [.str (x z),o z]),B]) (Z.map nw++[B']) (.tup [.str "let",.tup (Z.map λz=>.tup [.str (x z),nw z]),B']):=by
 intro n C Q χ b hb q;refine J4 FQ ?_;unfold Jk Jq;refine N9 FQ (Xc FQ (by decide+kernel) (Nc FQ (by decide+kernel) (by decide+kernel) (Xc FQ (by decide+kernel) (Qk FQ FQ ?_))))
 walk_at "ws"
 refine⟨_,hb,λp hp=>?_⟩;simp only[Zbf];refine dZ (n:=n) (pre:=λz=>[T.str (x z)]) (o:=o) (nw:=nw) Zh h1 (by simp) λC' hE=>?_;refine⟨_,hE _ _ ((Ex.new hp) _ _ hb),_,Zct,?_⟩;exact q _ ((Ex.new hp).trans hE)
def uo {α:Type}{Z:List α}{c:α->Str}{ns:α->List Str}{o nw:α->T}{E E':T}(h1:Z.length<=1000):
  ij (.tup [.str "choose",E,.tup (Z.map λz=>.tup [.str (c z),.tup ((ns z).map T.str),o z])]) (E'::Z.map nw) (.tup [.str "choose",E',.tup (Z.map λz=>.tup [.str (c z),.tup ((ns z).map T.str),nw z])]):=by
 intro n C Q χ b hb q;refine J4 FQ ?_;unfold Jk Jq;refine N9 FQ (Xc FQ (by decide+kernel) (Nc FQ (by decide+kernel) (by decide+kernel) (Xc FQ (by decide+kernel) (Xc FQ (by decide+kernel) (Xc FQ (by decide+kernel) (Qk FQ FQ ?_))))))
 walk_at "ws"
 refine⟨_,hb,_,Zo,_,hb,λp hp=>?_⟩;simp only[Zbg];refine dZ (n:=n) (pre:=λz=>[T.str (c z),.tup ((ns z).map T.str)]) (o:=o) (nw:=nw) Zh h1 (by simp) λC' hE=>?_;exact q _ ((Ex.new hp).trans hE)
open PySem PySem.Spec PyProof.Rows L2 WL
def Pq (f:Nat)(A:T)(M:Ms)(A':T):Prop:=PT f A M A'/\(M=[]->A'=A)/\∃l,A'=.tup l
abbrev Zau (x:Str):T:=.tup [.str "name",.str x]
section
variable {f:Nat}{M:Ms}{A B A' B':T}
def Pq.mono {g:Nat}(h:Pq f A M A')(hl:f<=g):Pq g A M A':=⟨PT.mono h.1 hl,h.2.1,h.2.2⟩
def zK (h:M=[]):Jy M ns=[]:=by subst h;rfl
def hp1 (hA:Pq f A (Jy M ns) A'):∀(i:Nat) (z:Sp) (u:T),[(ns,A)][i]?=some z->[A'][i]?=some u->(Jy M z.1≠[]->PT f z.2 (Jy M z.1) u)/\(Jy M z.1=[]->u=z.2)/\∃l,u=.tup l:=by
 intro i z u hz hu
 match i with
 | 0=>simp at hz hu;subst hz;subst hu;exact⟨λ_=>hA.1,hA.2⟩
 | i+1=>simp at hz
def hp2 (hA:Pq f A (Jy M ns) A')(hB:Pq f B (Jy M ms) B'):∀(i:Nat) (z:Sp) (u:T),[(ns,A),(ms,B)][i]?=some z->[A',B'][i]?=some u->(Jy M z.1≠[]->PT f z.2 (Jy M z.1) u)/\(Jy M z.1=[]->u=z.2)/\∃l,u=.tup l:=by
 intro i z u hz hu
 match i with
 | 0=>simp at hz hu;subst hz;subst hu;exact⟨λ_=>hA.1,hA.2⟩
 | 1=>simp at hz hu;subst hz;subst hu;exact⟨λ_=>hB.1,hB.2⟩
 | i+2=>simp at hz
def mx {o:T}(hA:Pq f A M A')(hB:Pq f B M B'):Pq (f+1) (.tup [.str "does",o,A,B]) M (.tup [.str "does",o,A',B']):=
 ⟨Q9 (ss:=[([],A),([],B)]) (us:=[A',B']) .does (by decide+kernel) (by simp) (by simp) FQ (hp2 (by rw[W0];exact hA) (by rw[W0];exact hB)) nh (λh=>by simp at h;rw[h.1,h.2]),λh=>by rw[hA.2.1 h,hB.2.1 h],_,FQ⟩
def qh {w:Str}(hw:w="call"\/w="first")(hA:Pq f A M A')(hB:Pq f B M B'):Pq (f+1) (.tup [.str w,A,B]) M (.tup [.str w,A',B']):=
 ⟨Q9 (ss:=[([],A),([],B)]) (us:=[A',B']) (e:=none) (by rcases hw with rfl | rfl;exact .call;exact .first) (by rcases hw with rfl | rfl<;>decide+kernel) (by simp) (by simp) FQ (hp2 (by rw[W0];exact hA) (by rw[W0];exact hB)) (i4 hw) (λh=>by simp at h;rw[h.1,h.2]),λh=>by rw[hA.2.1 h,hB.2.1 h],_,FQ⟩
def gf {x:Str}(hA:Pq f A (Jy M [x]) A'):Pq (f+1) (.tup [.str "fun",.str x,A]) M (.tup [.str "fun",.str x,A']):=
 ⟨Q9 (ss:=[([x],A)]) (us:=[A']) .fun_ (by decide+kernel) (by simp) (by simp) FQ (hp1 hA) i6 (λh=>by simp at h;rw[h]),λh=>by rw[hA.2.1 (zK h)],_,FQ⟩
def mn (hA:Pq f A M A')(hB:Pq f B M B'):Pq (f+1) (.tup [.str "shape",.str c,.tup [A,B]]) M (.tup [.str "shape",.str c,.tup [A',B']]):=
 ⟨Q9 (ss:=[([],A),([],B)]) (us:=[A',B']) (.shape (ps:=[A,B]) (by simp)) (by decide+kernel) (by simp) (by simp) FQ (hp2 (by rw[W0];exact hA) (by rw[W0];exact hB)) (yy (ps:=[A,B])) (λh=>by simp at h;rw[h.1,h.2]),λh=>by rw[hA.2.1 h,hB.2.1 h],_,FQ⟩
def Ep {w:Str}{Y4:List T}(hn:w≠"name")(hw:w∉yO):Pq 1 (.tup (.str w::Y4)) M (.tup (.str w::Y4)):=
 ⟨Q9 (f:=0) (ss:=[]) (us:=[]) (.other hw) hn (by simp) (by simp) FQ (by simp) (tZ hw) (λ_=>rfl),λ_=>rfl,_,FQ⟩
def ml (h:Y3 (dm M) (.inr x)=some (.tup m)):Pq 0 (Zau x) M (.tup m):=by
 refine⟨?_,λe=>?_,_,FQ⟩
 ·have:=@v5 x M;rw[h] at this;exact @this
 ·subst e;simp[dm,Y3] at h
def mq (h:Y3 (dm M) (.inr x)=none):Pq 0 (Zau x) M (Zau x):=by
 refine⟨?_,λe=>rfl,_,FQ⟩;have:=@v5 x M;rw[h] at this;exact @this
end
abbrev Ax (i:Nat):T:=.tup [.str "at",.int (i:Int)]
abbrev big:Int:=1000000000000000000
open PySem PySem.Spec PyProof.Rows L2 WL
section
variable {f:Nat}{M:Ms}{A B A' B' E E':T}
def Gd (f:Nat)(M:Ms)(z:Sp)(u:T):Prop:=(Jy M z.1≠[]->PT f z.2 (Jy M z.1) u)/\(Jy M z.1=[]->u=z.2)/\∃l,u=.tup l
def kR {α:Type}{Z:List α}{s:α->Sp}{u:α->T}(h:∀z∈Z,Gd f M (s z) (u z)):∀(i:Nat) (z:Sp) (v:T),(Z.map s)[i]?=some z->(Z.map u)[i]?=some v->(Jy M z.1≠[]->PT f z.2 (Jy M z.1) v)/\(Jy M z.1=[]->v=z.2)/\∃l,v=.tup l:=by
 intro i z v hz hv;rw[XM] at hz hv
 cases e:Z[i]? with
 | none=>rw[e] at hz;cases hz
 | some x=>
  rw[e] at hz hv
  cases hz;cases hv
  exact h x (CF e)
def mr {α:Type}{Z:List α}{x:α->Str}{o g:α->T}(h5:Z.length<=5)(hz:∀z∈Z,Pq f (o z) (Jy M (Z.map x)) (g z))(hB:Pq f B (Jy M (Z.map x)) B'):
  Pq (f+1) (.tup [.str "let",.tup (Z.map λz=>.tup [.str (x z),o z]),B]) M (.tup [.str "let",.tup (Z.map λz=>.tup [.str (x z),g z]),B']):=by
 have e0:(Z.map λz=>T.tup [.str (x z),o z])=(Z.map λz=>((T.str (x z),o z):T×T)).map λx=>.tup [x.1,x.2]:=by rw[YE];rfl
 have hS:Sc (.tup [.str "let",.tup (Z.map λz=>.tup [.str (x z),o z]),B]) none ((Z.map (λz=>((Z.map x,o z):Sp))++[(Z.map x,B)]).map kE):=by
  have:=Sc.let_ (B:=B) (xs:=Z.map λz=>(T.str (x z),o z)) (by rw[XI];omega);rw[<-e0] at this;have e1:(Z.map (λz=>((Z.map x,o z):Sp))++[(Z.map x,B)]).map kE=(Z.map λz=>((T.str (x z),o z):T×T)).map (λy=>((Z.map λz=>((T.str (x z),o z):T×T)).map (·.1),y.2))++[((Z.map λz=>((T.str (x z),o z):T×T)).map (·.1),B)]:=by
   simp only[List.map_append,List.map_map,List.map_cons,List.map_nil,Function.comp_def,kE]
  rw[e1];exact this
 refine⟨?_,λh=>?_,_,FQ⟩
 ·refine Q9 (us:=Z.map g++[B']) hS (by decide+kernel) (λz hz'=>?_) (by simp;omega) (by simp) ?_ (i5 (Z:=Z) (x:=x) (o:=o) (nw:=g) (by omega)) ?_
  ·simp only[List.mem_append,List.mem_map,List.mem_singleton] at hz'
   rcases hz' with⟨y,_,rfl⟩ | rfl<;>simp<;>omega
  ·have:=kR (f:=f) (M:=M) (Z:=Z.map some++[none]) (s:=λu=>match u with | some z=>((Z.map x,o z):Sp) | none=>(Z.map x,B)) (u:=λu=>match u with | some z=>g z | none=>B') (λu hu=>by
    simp only[List.mem_append,List.mem_map,List.mem_singleton] at hu
    rcases hu with⟨y,hy,rfl⟩ | rfl
    ·exact⟨λ_=>(hz y hy).1,(hz y hy).2⟩
    ·exact⟨λ_=>hB.1,hB.2⟩)
   simp only[List.map_append,List.map_map,List.map_cons,List.map_nil] at this;exact this
  ·intro h;rw[XL,YE] at h;have h':=List.append_inj h (by simp);have hb:B'=B:=by simpa using h'.2
   have hg:∀z∈Z,g z=o z:=λz hz'=>List.map_inj_left.mp h'.1 z hz';rw[hb];congr 4;exact DA λz hz'=>by rw[hg z hz']
 ·have hg:∀z∈Z,g z=o z:=λz hz'=>(hz z hz').2.1 (zK h);rw[hB.2.1 (zK h)];congr 4;exact DA λz hz'=>by rw[hg z hz']
def uA {α:Type}{Z:List α}{c:α->Str}{ns:α->List Str}{o g:α->T}(h5:Z.length<=5)(h2:∀a∈Z,(ns a).length<=2)(hE:Pq f E M E')(hz:∀a∈Z,Pq f (o a) (Jy M (ns a)) (g a)):
  Pq (f+1) (.tup [.str "choose",E,.tup (Z.map λa=>.tup [.str (c a),.tup ((ns a).map T.str),o a])]) M (.tup [.str "choose",E',.tup (Z.map λa=>.tup [.str (c a),.tup ((ns a).map T.str),g a])]):=by
 have e0:(Z.map λa=>T.tup [.str (c a),.tup ((ns a).map T.str),o a])=(Z.map λa=>((T.str (c a),(ns a).map T.str,o a):T×List T×T)).map λy=>.tup [y.1,.tup y.2.1,y.2.2]:=by rw[YE];rfl
 have hS:Sc (.tup [.str "choose",E,.tup (Z.map λa=>.tup [.str (c a),.tup ((ns a).map T.str),o a])]) none (((([],E):Sp)::Z.map (λa=>((ns a,o a):Sp))).map kE):=by
  have:=Sc.choose (E:=E) (ys:=Z.map λa=>(T.str (c a),(ns a).map T.str,o a)) (by rw[XI];omega);rw[<-e0] at this;have e1:((([],E):Sp)::Z.map (λa=>((ns a,o a):Sp))).map kE=([],E)::(Z.map λa=>((T.str (c a),(ns a).map T.str,o a):T×List T×T)).map (·.2):=by
   simp only[List.map_map,List.map_cons,kE];rfl
  rw[e1];exact this
 refine⟨?_,λh=>?_,_,FQ⟩
 ·refine Q9 (us:=E'::Z.map g) hS (by decide+kernel) (λz hz'=>?_) (by simp;omega) (by simp) ?_ (uo (Z:=Z) (c:=c) (ns:=ns) (o:=o) (nw:=g) (by omega)) ?_
  ·simp only[List.mem_cons,List.mem_map] at hz'
   rcases hz' with rfl | ⟨y,hy,rfl⟩
   ·simp
   ·have:=h2 y hy;show(ns y).length<=_;omega
  ·have:=kR (f:=f) (M:=M) (Z:=none::Z.map some) (s:=λu=>match u with | some a=>((ns a,o a):Sp) | none=>([],E)) (u:=λu=>match u with | some a=>g a | none=>E') (λu hu=>by
    simp only[List.mem_cons,List.mem_map] at hu
    rcases hu with rfl | ⟨y,hy,rfl⟩
    ·show Gd f M ([],E) E';unfold Gd;rw[W0];exact⟨λ_=>hE.1,hE.2⟩
    ·exact⟨λ_=>(hz y hy).1,(hz y hy).2⟩)
   simp only[List.map_map,List.map_cons] at this;exact this
  ·intro h;rw[YI,YE] at h;injection h with h1 h2'
   have hg:∀a∈Z,g a=o a:=λz hz'=>List.map_inj_left.mp h2' z hz';rw[h1];congr 5;exact DA λz hz'=>by rw[hg z hz']
 ·have hg:∀z∈Z,g z=o z:=λz hz'=>(hz z hz').2.1 (zK h);rw[hE.2.1 h];congr 5;exact DA λz hz'=>by rw[hg z hz']
def mm:Pq 1 (.tup [.str "shape",.str c,.tup []]) M (.tup [.str "shape",.str c,.tup []]):=
 ⟨Q9 (f:=0) (ss:=[]) (us:=[]) (.shape (ps:=[]) (by simp)) (by decide+kernel) (by simp) (by simp) FQ (by simp) (yy (ps:=[])) (λ_=>rfl),λ_=>rfl,_,FQ⟩
end
open PySem PySem.Spec PyProof.Rows L2 WL
inductive Tm where
 | nm (x:Str) | num (v:Int) | stop (x:Str) | at_ (i:Nat)
 | shp0 (c:Str) | shp2 (c:Str) (a b:Tm)
 | does (o:Str) (a b:Tm) | call (a b:Tm) | first (a b:Tm) | fn (x:Str) (b:Tm)
 | lt (n:Nat) (xs:Fin n->Str) (ts:Fin n->Tm) (b:Tm)
 | ch (e:Tm) (n:Nat) (cs:Fin n->Str) (ns:Fin n->List Str) (bs:Fin n->Tm)
noncomputable def tt:Tm->T
 | .nm x=>.tup [.str "name",.str x]
 | .num v=>.tup [.str "number",.int v]
 | .stop x=>.tup [.str "stop",.str x]
 | .at_ i=>.tup [.str "at",.int (i:Int)]
 | .shp0 c=>.tup [.str "shape",.str c,.tup []]
 | .shp2 c a b=>.tup [.str "shape",.str c,.tup [tt a,tt b]]
 | .does o a b=>.tup [.str "does",.str o,tt a,tt b]
 | .call a b=>.tup [.str "call",tt a,tt b]
 | .first a b=>.tup [.str "first",tt a,tt b]
 | .fn x b=>.tup [.str "fun",.str x,tt b]
 | .lt n xs ts b=>.tup [.str "let",.tup ((List.finRange n).map λi=>.tup [.str (xs i),tt (ts i)]),tt b]
 | .ch e n cs ns bs=>.tup [.str "choose",tt e,.tup ((List.finRange n).map λi=>.tup [.str (cs i),.tup ((ns i).map T.str),tt (bs i)])]
abbrev Ve {n:Nat}(xs:Fin n->Str):List Str:=(List.finRange n).map xs
def Vb (M:Str->Option Nat)(ns:List Str):Str->Option Nat:=λx=>if x∈ns then none else M x
noncomputable def pu (M:Str->Option Nat):Tm->Tm
 | .nm x=>match M x with | some i=>.at_ i | none=>.nm x
 | .num v=>.num v
 | .stop x=>.stop x
 | .at_ i=>.at_ i
 | .shp0 c=>.shp0 c
 | .shp2 c a b=>.shp2 c (pu M a) (pu M b)
 | .does o a b=>.does o (pu M a) (pu M b)
 | .call a b=>.call (pu M a) (pu M b)
 | .first a b=>.first (pu M a) (pu M b)
 | .fn x b=>.fn x (pu (Vb M [x]) b)
 | .lt n xs ts b=>.lt n xs (λi=>pu (Vb M (Ve xs)) (ts i)) (pu (Vb M (Ve xs)) b)
 | .ch e n cs ns bs=>.ch (pu M e) n cs ns (λi=>pu (Vb M (ns i)) (bs i))
def ar (c:Str):Nat:=if c="Cons"\/c="Pair" then 2 else 0
def Ay (c:Str):ar c<=2:=by unfold ar;split<;>omega
abbrev cl (c:Str):Prop:=1<=c.length/\c.length<=4
def gl (x:Str):Prop:=1<=x.length/\x.length<=100
def ok (L:Nat):Nat->List Str->Tm->Prop
 | _,Γ,.nm x=>x∈Γ
 | _,_,.num v=>0<=v/\v<big
 | _,_,.stop x=>gl x
 | _,_,.at_ i=>i<L
 | _,_,.shp0 c=>cl c/\ar c=0
 | d,Γ,.shp2 c a b=>1<=d/\(cl c/\ar c=2)/\ok L (d-1) Γ a/\ok L (d-1) Γ b
 | d,Γ,.does _ a b=>1<=d/\ok L (d-1) Γ a/\ok L (d-1) Γ b
 | d,Γ,.call a b=>1<=d/\ok L (d-1) Γ a/\ok L (d-1) Γ b
 | d,Γ,.first a b=>1<=d/\ok L (d-1) Γ a/\ok L (d-1) Γ b
 | d,Γ,.fn x b=>1<=d/\gl x/\ok L (d-1) (x::Γ) b
 | d,Γ,.lt n xs ts b=>1<=d/\(1<=n/\n<=5/\(Ve xs).Nodup/\∀i,gl (xs i))/\(∀i,ok L (d-1) (Ve xs++Γ) (ts i))/\ok L (d-1) (Ve xs++Γ) b
 | d,Γ,.ch e n cs ns bs=>1<=d/\(n<=5/\∀i,(ns i).length=ar (cs i)/\(ns i).Nodup)/\ok L (d-1) Γ e/\∀i,ok L (d-1) (ns i++Γ) (bs i)
def Xr {L L':Nat}(hL:L<=L'):∀{t:Tm} {d d':Nat} {Γ:List Str},ok L d Γ t->d<=d'->ok L' d' Γ t:=by
 intro t
 induction t with
 | nm x=>intro d d' Γ h _;exact h
 | num v=>intro d d' Γ h _;exact h
 | stop x=>intro d d' Γ h _;exact h
 | at_ i=>intro d d' Γ h _;exact XG h hL
 | shp0 c=>intro d d' Γ h _;exact h
 | shp2 c a b iha ihb=>intro d d' Γ h hd;exact⟨by have:=h.1;omega,h.2.1,iha h.2.2.1 (by omega),ihb h.2.2.2 (by omega)⟩
 | does o a b iha ihb=>intro d d' Γ h hd;exact⟨by have:=h.1;omega,iha h.2.1 (by omega),ihb h.2.2 (by omega)⟩
 | call a b iha ihb=>intro d d' Γ h hd;exact⟨by have:=h.1;omega,iha h.2.1 (by omega),ihb h.2.2 (by omega)⟩
 | first a b iha ihb=>intro d d' Γ h hd;exact⟨by have:=h.1;omega,iha h.2.1 (by omega),ihb h.2.2 (by omega)⟩
 | fn x b ih=>intro d d' Γ h hd;exact⟨by have:=h.1;omega,h.2.1,ih h.2.2 (by omega)⟩
 | lt n xs ts b iht ihb=>intro d d' Γ h hd;exact⟨by have:=h.1;omega,h.2.1,λi=>iht i (h.2.2.1 i) (by omega),ihb h.2.2.2 (by omega)⟩
 | ch e n cs ns bs ihe ihb=>intro d d' Γ h hd;exact⟨by have:=h.1;omega,h.2.1,ihe h.2.2.1 (by omega),λi=>ihb i (h.2.2.2 i) (by omega)⟩
def Fe {M:Str->Option Nat}{ns Γ Γ':List Str}(h:∀x∈Γ,M x≠none\/x∈Γ'):∀x∈ns++Γ,Vb M ns x≠none\/x∈ns++Γ':=λx hx=>by
 by_cases c:x∈ns
 ·exact .inr (CA _ c)
 ·rcases XS.mp hx with hx | hx
  ·exact absurd hx c
  ·rcases h x hx with h | h
   ·exact .inl (by unfold Vb;rw[XX c];exact h)
   ·exact .inr (XT _ h)
def Kc (h:Vb M ns x=some i):M x=some i:=by
 unfold Vb at h
 split at h
 ·cases h
 ·exact h
def v3:∀{t:Tm} {d:Nat} {Γ Γ':List Str} {M:Str->Option Nat},ok L d Γ t->(∀x i,M x=some i->i<L)->(∀x∈Γ,M x≠none\/x∈Γ')->ok L d Γ' (pu M t):=by
 intro t
 induction t with
 | nm x=>
  intro d Γ Γ' M h hM hΓ;unfold pu
  cases e:M x with
  | some i=>exact hM x i e
  | none=>exact(hΓ x h).resolve_left λz=>z e
 | num v=>intro d Γ Γ' M h hM hΓ;exact h
 | stop x=>intro d Γ Γ' M h hM hΓ;exact h
 | at_ i=>intro d Γ Γ' M h hM hΓ;exact h
 | shp0 c=>intro d Γ Γ' M h hM hΓ;exact h
 | shp2 c a b iha ihb=>intro d Γ Γ' M h hM hΓ;exact⟨h.1,h.2.1,iha h.2.2.1 hM hΓ,ihb h.2.2.2 hM hΓ⟩
 | does o a b iha ihb=>intro d Γ Γ' M h hM hΓ;exact⟨h.1,iha h.2.1 hM hΓ,ihb h.2.2 hM hΓ⟩
 | call a b iha ihb=>intro d Γ Γ' M h hM hΓ;exact⟨h.1,iha h.2.1 hM hΓ,ihb h.2.2 hM hΓ⟩
 | first a b iha ihb=>intro d Γ Γ' M h hM hΓ;exact⟨h.1,iha h.2.1 hM hΓ,ihb h.2.2 hM hΓ⟩
 | fn x b ih=>intro d Γ Γ' M h hM hΓ;exact⟨h.1,h.2.1,ih h.2.2 (λy i e=>hM y i (Kc e)) (Fe (ns:=[x]) hΓ)⟩
 | lt n xs ts b iht ihb=>intro d Γ Γ' M h hM hΓ;exact⟨h.1,h.2.1,λi=>iht i (h.2.2.1 i) (λy i e=>hM y i (Kc e)) (Fe hΓ),ihb h.2.2.2 (λy i e=>hM y i (Kc e)) (Fe hΓ)⟩
 | ch e n cs ns bs ihe ihb=>intro d Γ Γ' M h hM hΓ;exact⟨h.1,h.2.1,ihe h.2.2.1 hM hΓ,λi=>ihb i (h.2.2.2 i) (λy i e=>hM y i (Kc e)) (Fe hΓ)⟩
def Sv:Tm->Bool
 | .num _=>true
 | .fn _ _=>true
 | _=>false
abbrev Mn:=List (Str×Nat)
def mT (M:Mn):Ms:=M.map λz=>(z.1,Ax z.2)
def mo (M:Mn):Str->Option Nat:=λx=>(M.find? λz=>decide (z.1=x)).map (·.2)
def Hs (M:Mn)(ns:List Str):Mn:=M.filter λz=>decide (z.1∉ns)
def G4:Jy (mT M) ns=mT (Hs M ns):=by
 unfold Jy mT Hs;rw[List.filter_map];rfl
def G2:mo (Hs M ns)=Vb (mo M) ns:=by
 funext x
 unfold mo Hs Vb;rw[List.find?_filter];by_cases c:x∈ns
 ·rw[XY c];rw[DD.mpr]
  ·rfl
  ·intro z _ h;simp at h;exact h.1 (h.2▸c)
 ·rw[XX c];congr 1;congr 1
  funext z
  by_cases e:z.1=x
  ·simp[e,c]
  ·simp[e]
def qP:Y3 (dm (mT M)) (.inr x)=(mo M x).map Ax:=by
 rw[yc];unfold mT mo;rw[List.find?_map];simp only[Option.map_map];rfl
def xB (t:Tm):∃w r,tt t=.tup (.str w::r):=by cases t<;>exact⟨_,_,FQ⟩
def zu:∀{t:Tm} {d:Nat} {Γ:List Str} {M:Mn},ok L d Γ t->Pq (d+1) (tt t) (mT M) (tt (pu (mo M) t)):=by
 intro t
 induction t with
 | nm x=>
  intro d Γ M h;unfold pu
  cases e:mo M x with
  | some i=>exact(ml (by rw[qP,e];rfl)).mono (by omega)
  | none=>exact(mq (by rw[qP,e];rfl)).mono (by omega)
 | num v=>intro d Γ M h;exact(Ep (by decide+kernel) (by decide+kernel)).mono (by omega)
 | stop x=>intro d Γ M h;exact(Ep (by decide+kernel) (by decide+kernel)).mono (by omega)
 | at_ i=>intro d Γ M h;exact(Ep (by decide+kernel) (by decide+kernel)).mono (by omega)
 | shp0 c=>intro d Γ M h;exact mm.mono (by omega)
 | shp2 c a b iha ihb=>intro d Γ M h;have h1:=h.1;exact(mn (iha h.2.2.1) (ihb h.2.2.2)).mono (by omega)
 | does o a b iha ihb=>intro d Γ M h;have h1:=h.1;exact(mx (iha h.2.1) (ihb h.2.2)).mono (by omega)
 | call a b iha ihb=>intro d Γ M h;have h1:=h.1;exact(qh (.inl FQ) (iha h.2.1) (ihb h.2.2)).mono (by omega)
 | first a b iha ihb=>intro d Γ M h;have h1:=h.1;exact(qh (.inr FQ) (iha h.2.1) (ihb h.2.2)).mono (by omega)
 | fn x b ih=>
  intro d Γ M h;have h1:=h.1;have:=ih (M:=Hs M [x]) h.2.2;rw[<-G4,G2] at this;exact(gf this).mono (by omega)
 | lt n xs ts b iht ihb=>
  intro d Γ M h;have h1:=h.1;have hb:=ihb (M:=Hs M (Ve xs)) h.2.2.2;rw[<-G4,G2] at hb;refine(mr (Z:=List.finRange n) (x:=xs) (o:=λi=>tt (ts i)) (g:=λi=>tt (pu (Vb (mo M) (Ve xs)) (ts i))) (by rw[CP];exact h.2.1.2.1) (λi _=>?_) hb).mono (by omega);have:=iht i (M:=Hs M (Ve xs)) (h.2.2.1 i);rw[<-G4,G2] at this;exact this
 | ch e n cs ns bs ihe ihb=>
  intro d Γ M h;have h1:=h.1;refine(uA (Z:=List.finRange n) (c:=cs) (ns:=ns) (o:=λi=>tt (bs i)) (g:=λi=>tt (pu (Vb (mo M) (ns i)) (bs i))) (by rw[CP];exact h.2.1.1) (λi _=>?_) (ihe h.2.2.1) (λi _=>?_)).mono (by omega)
  ·rw[(h.2.1.2 i).1];exact Ay _
  ·have:=ihb i (M:=Hs M (ns i)) (h.2.2.2 i);rw[<-G4,G2] at this;exact this
open PySem PySem.Spec PyProof.Rows L2 WL
abbrev Ad:=Fin 7->WP
abbrev Al:=Str×List Str×Tm
def wU (a:Al):T:=.tup [.str a.1,.tup (a.2.1.map T.str),tt a.2.2]
inductive Fm where
 | give (t:Tm)
 | pick (al:List Al)
 | left (o:Str) (t:Tm)
 | right (o:Str) (x:Int)
 | first (t:Tm)
 | back (i:Nat)
noncomputable def Gv:Fm->T
 | .give t=>.tup [.str "give",tt t]
 | .pick al=>.tup [.str "pick",.tup (al.map wU)]
 | .left o t=>.tup [.str "left",.str o,tt t]
 | .right o x=>.tup [.str "right",.str o,.int x]
 | .first t=>.tup [.str "first",tt t]
 | .back i=>.tup [.str "back",.int (i:Int)]
inductive Pc where
 | word (x:Str)
 | part (d:Int) (t:Tm)
def Cy:Pc->T
 | .word x=>.str x
 | .part d t=>.tup [.int d,tt t]
inductive Hd where
 | no
 | tm (t:Tm)
 | made (c:Str) (ms:List Nat)
def hT:Hd->T
 | .no=>.non
 | .tm t=>tt t
 | .made c ms=>.tup [.str "made",.str c,.tup (ms.map Ax)]
inductive En where
 | no | told (x:Str) | stop (x:Str) | stuck
noncomputable def eT:En->T
 | .no=>.non
 | .told x=>.tup [.str "told",.str x]
 | .stop x=>.tup [.str "stop",.str x]
 | .stuck=>.tup [.str "stuck",.str ""]
structure Ev where
 ev:Str
 i:Nat
 l:Str
 k:Int
def Ap (e:Ev):T:=.tup [.str e.ev,.int (e.i:Int),.str e.l,.int e.k]
structure St where
 h:Hd
 w:Int
 P:List Fm
 S:List Pc
 U:List Str
 D:List Tm
 L:List Str
 G:List Ev
 k:Int
 c:Int
 f:Int
 e:En
noncomputable def Fs (A:Ad)(s:St):List (Str×T):=[("hand",hT s.h),("wanted",.int s.w),("pile",.ref (A 1)),("still",.ref (A 2)),("told",.ref (A 3)),("things",.ref (A 4)),("labels",.ref (A 5)),("log",.ref (A 6)),("steps",.int s.k),("cells",.int s.c),("firsts",.int s.f),("ending",eT s.e)]
def dD (D:List Tm):List (Yo×T):=D.zipIdx.map λx=>((Sum.inl (x.2:Int):Yo),tt x.1)
structure Rn (A:Ad)(C:Hw)(s:St):Prop where
 r:C (A 0)=some (.ins "Runner" (Fs A s))
 pp:C (A 1)=some (.lst (s.P.map Gv))
 ps:C (A 2)=some (.lst (s.S.map Cy))
 pt:C (A 3)=some (.lst (s.U.map T.str))
 pd:C (A 4)=some (.dic (dD s.D))
 pl:C (A 5)=some (.lst (s.L.map T.str))
 pg:C (A 6)=some (.lst (s.G.map Ap))
def Di (A:Ad):Prop:=∀i j:Fin 7,i≠j->A i≠A j
def Fr (A:Ad)(C C':Hw):Prop:=∀a o,(∀i,a≠A i)->C a=some o->C' a=some o
section
variable {A:Ad}{s:St}
def To:(Fs A s).lookup ("hand":Str)=some (hT s.h):=rfl
def uR:(Fs A s).lookup ("wanted":Str)=some (.int s.w:T):=rfl
def Lk:(Fs A s).lookup ("pile":Str)=some (.ref (A 1):T):=rfl
def E7:(Fs A s).lookup ("still":Str)=some (.ref (A 2):T):=rfl
def zJ:(Fs A s).lookup ("told":Str)=some (.ref (A 3):T):=rfl
def Ae:(Fs A s).lookup ("things":Str)=some (.ref (A 4):T):=rfl
def Ih:(Fs A s).lookup ("labels":Str)=some (.ref (A 5):T):=rfl
def qV:(Fs A s).lookup ("log":Str)=some (.ref (A 6):T):=rfl
def Lj:(Fs A s).lookup ("steps":Str)=some (.int s.k:T):=rfl
def ju:(Fs A s).lookup ("cells":Str)=some (.int s.c:T):=rfl
def Af:(Fs A s).lookup ("firsts":Str)=some (.int s.f:T):=rfl
def Oc:(Fs A s).lookup ("ending":Str)=some (eT s.e):=rfl
def V1:X2 "hand" (hT h) (Fs A s)=Fs A {s with h:=h}:=rfl
def u8:X2 "wanted" (.int x) (Fs A s)=Fs A {s with w:=x}:=rfl
def Ia:X2 "ending" (eT e) (Fs A s)=Fs A {s with e:=e}:=rfl
def rY:X2 "steps" (.int x) (Fs A s)=Fs A {s with k:=x}:=rfl
def qc:X2 "cells" (.int x) (Fs A s)=Fs A {s with c:=x}:=rfl
def u9:X2 "firsts" (.int x) (Fs A s)=Fs A {s with f:=x}:=rfl
def N3 {i:Nat}:List.lookup ("Runner":Str) [("Runner",i)]=some i:=rfl
def bH:(Fs A s).length<1000:=ZNB FQ
end
section
variable {A:Ad}{C C' C2:Hw}{s s':St}{o:O}
def Fr.refl (A:Ad)(C:Hw):Fr A C C:=λ_ _ _ h=>h
def Fr.trans (a:Fr A C C')(b:Fr A C' C2):Fr A C C2:=λc o h1 h=>b c o h1 (a c o h1 h)
def Fr.up (f:Fr A C C')(i:Fin 7):Fr A C (up C' (A i) o):=λc u h1 h=>by rw[Zn (h1 i)];exact f c u h1 h
def Fr.ex (f:Fr A C C')(e:Ex C' C2):Fr A C C2:=λc u h1 h=>e _ _ (f c u h1 h)
def Ex.fr (f:Ex C C'):Fr A C C':=λc u _ h=>f c u h
def Rn.ex (R:Rn A C s)(f:Ex C C'):Rn A C' s:=⟨f _ _ R.r,f _ _ R.pp,f _ _ R.ps,f _ _ R.pt,f _ _ R.pd,f _ _ R.pl,f _ _ R.pg⟩
def Rn.s0 (R:Rn A C s)(d:Di A)(s':St)(h1:autoParam (s'.P=s.P) QzR)(h2:autoParam (s'.S=s.S) QzR)(h3:autoParam (s'.U=s.U) QzR)(h4:autoParam (s'.D=s.D) QzR)(h5:autoParam (s'.L=s.L) QzR)(h6:autoParam (s'.G=s.G) QzR):Rn A (up C (A 0) (.ins "Runner" (Fs A s'))) s':=
 ⟨Zh,by rw[Zn (d 1 0 (by decide)),h1];exact R.pp,by rw[Zn (d 2 0 (by decide)),h2];exact R.ps,by rw[Zn (d 3 0 (by decide)),h3];exact R.pt,by rw[Zn (d 4 0 (by decide)),h4];exact R.pd,by rw[Zn (d 5 0 (by decide)),h5];exact R.pl,by rw[Zn (d 6 0 (by decide)),h6];exact R.pg⟩
def Rn.s1 (R:Rn A C s)(d:Di A)(P:List Fm):Rn A (up C (A 1) (.lst (P.map Gv))) {s with P:=P}:=
 ⟨by rw[Zn (d 0 1 (by decide))];exact R.r,Zh,by rw[Zn (d 2 1 (by decide))];exact R.ps,by rw[Zn (d 3 1 (by decide))];exact R.pt,by rw[Zn (d 4 1 (by decide))];exact R.pd,by rw[Zn (d 5 1 (by decide))];exact R.pl,by rw[Zn (d 6 1 (by decide))];exact R.pg⟩
def Rn.s2 (R:Rn A C s)(d:Di A)(S:List Pc):Rn A (up C (A 2) (.lst (S.map Cy))) {s with S:=S}:=
 ⟨by rw[Zn (d 0 2 (by decide))];exact R.r,by rw[Zn (d 1 2 (by decide))];exact R.pp,Zh,by rw[Zn (d 3 2 (by decide))];exact R.pt,by rw[Zn (d 4 2 (by decide))];exact R.pd,by rw[Zn (d 5 2 (by decide))];exact R.pl,by rw[Zn (d 6 2 (by decide))];exact R.pg⟩
def Rn.s3 (R:Rn A C s)(d:Di A)(U:List Str):Rn A (up C (A 3) (.lst (U.map T.str))) {s with U:=U}:=
 ⟨by rw[Zn (d 0 3 (by decide))];exact R.r,by rw[Zn (d 1 3 (by decide))];exact R.pp,by rw[Zn (d 2 3 (by decide))];exact R.ps,Zh,by rw[Zn (d 4 3 (by decide))];exact R.pd,by rw[Zn (d 5 3 (by decide))];exact R.pl,by rw[Zn (d 6 3 (by decide))];exact R.pg⟩
def Rn.s4 (R:Rn A C s)(d:Di A)(D:List Tm):Rn A (up C (A 4) (.dic (dD D))) {s with D:=D}:=
 ⟨by rw[Zn (d 0 4 (by decide))];exact R.r,by rw[Zn (d 1 4 (by decide))];exact R.pp,by rw[Zn (d 2 4 (by decide))];exact R.ps,by rw[Zn (d 3 4 (by decide))];exact R.pt,Zh,by rw[Zn (d 5 4 (by decide))];exact R.pl,by rw[Zn (d 6 4 (by decide))];exact R.pg⟩
def Rn.s5 (R:Rn A C s)(d:Di A)(L:List Str):Rn A (up C (A 5) (.lst (L.map T.str))) {s with L:=L}:=
 ⟨by rw[Zn (d 0 5 (by decide))];exact R.r,by rw[Zn (d 1 5 (by decide))];exact R.pp,by rw[Zn (d 2 5 (by decide))];exact R.ps,by rw[Zn (d 3 5 (by decide))];exact R.pt,by rw[Zn (d 4 5 (by decide))];exact R.pd,Zh,by rw[Zn (d 6 5 (by decide))];exact R.pg⟩
def Rn.s6 (R:Rn A C s)(d:Di A)(G:List Ev):Rn A (up C (A 6) (.lst (G.map Ap))) {s with G:=G}:=
 ⟨by rw[Zn (d 0 6 (by decide))];exact R.r,by rw[Zn (d 1 6 (by decide))];exact R.pp,by rw[Zn (d 2 6 (by decide))];exact R.ps,by rw[Zn (d 3 6 (by decide))];exact R.pt,by rw[Zn (d 4 6 (by decide))];exact R.pd,by rw[Zn (d 5 6 (by decide))];exact R.pl,Zh⟩
end
def fP {i:Nat}:Y3 (dD D) (.inl (i:Int))=(D[i]?).map tt:=by
 have key:∀(D:List Tm) (b i:Nat),Y3 ((D.zipIdx b).map λx=>((Sum.inl (x.2:Int):Yo),tt x.1)) (.inl ((b+i:Nat):Int))=(D[i]?).map tt:=by
  intro D
  induction D with
  | nil=>intro b i;rfl
  | cons t D ih=>
   intro b i;rw[List.zipIdx_cons,YI];unfold Y3
   cases i with
   | zero=>rw[List.find?_cons_of_pos (by simp)];simp
   | succ i=>
    rw[List.find?_cons_of_neg (by simp;omega)];have:=ih (b+1) i;unfold Y3 at this;rw[show b+1+i=b+(i+1) by omega] at this;simpa using this
 have:=key D 0 i;rw[Nat.zero_add] at this;exact this
def fN:Wq (dD D) (.inl (D.length:Int)) (tt t)=dD (D++[t]):=by
 unfold Wq;rw[XX]
 ·unfold dD;rw[List.zipIdx_append,List.map_append];simp
 ·rw[DM];rintro⟨kv,hk,e⟩;unfold dD at hk;obtain⟨z,hz,rfl⟩:=XR.mp hk;have:=List.mem_zipIdx hz;simp at e;omega
def fO:(dD D).length=D.length:=by unfold dD;simp
section
variable {A:Ad}{C:Hw}{s:St}{Q:WK}{χ:WX}{n i:Nat}{τ:Sw}{f m:Str}{b:WS}{D:We}{Pc:Calls}{Qg:Sw->Hw->Prop}{v:T}
def gs (hp:X2 f v (Fs A s)=Fs A s')(R:Rn A C s)(q:Qg (some (.ref (A 0))::τ) (up C (A 0) (.ins "Runner" (Fs A s')))):bF HN f (Z6 0) v (some (.ref (A 0))::τ) C Qg χ:=
 ⟨_,FQ,_,_,_,FQ,R.r,.head _,bH,hp▸q⟩
def wn:(Fs A s).lookup ("note":Str)=none:=rfl
def qO:(Fs A s).lookup ("bear":Str)=none:=rfl
def qM:(Fs A s).lookup ("keep":Str)=none:=rfl
def mY:(Fs A s).lookup ("enter":Str)=none:=rfl
def jr:(Fs A s).lookup ("come_back":Str)=none:=rfl
def Ew:(Fs A s).lookup ("mark_for":Str)=none:=rfl
def qL:(Fs A s).lookup ("make":Str)=none:=rfl
def gO:(Fs A s).lookup ("bind":Str)=none:=rfl
def Lh:(Fs A s).lookup ("take_frame":Str)=none:=rfl
def V9:(Fs A s).lookup ("go_into":Str)=none:=rfl
def jl:(Fs A s).lookup ("use_value":Str)=none:=rfl
def zH:(Fs A s).lookup ("take_apart":Str)=none:=rfl
def jn:(Fs A s).lookup ("take_step":Str)=none:=rfl
def zG:(Fs A s).lookup ("tell_value":Str)=none:=rfl
def jm:(Fs A s).lookup ("tell_next":Str)=none:=rfl
def jo:(Fs A s).lookup ("settle":Str)=none:=rfl
def uN:(Fs A s).lookup ("advance":Str)=none:=rfl
def uM:(Fs A s).lookup ("outcome":Str)=none:=rfl
def Zax:(Fs A s).lookup ("go":Str)=none:=rfl
def nt (s:St)(ev:Str)(i:Nat)(l:Str):Ev:=⟨ev,i,l,s.k⟩
def Zbn {xs:List T}(h:xs[i]?=some x):Sg xs (i:Int)=some x:=by
 unfold Sg;have hi:i<xs.length:=(BW.mp h).1;simp[tR,hi];exact(BW.mp h).2
def xJ {j:Nat}(d:Di A)(R:Rn A C s)(hj:s.L[j]?=some l)(hg:s.G.length<=100000)(q:Q .non (up C (A 6) (.lst ((s.G++[nt s ev j l]).map Ap)))):Z4 pr (n+1) Bg [.ref (A 0),.str ev,.int (j:Int)] C Q χ:=by
 refine Ck FQ ?_;refine⟨_,FQ,_,_,_,_,FQ,R.r,.head _,qV,⟨_,_,FQ,R.pg⟩,?_⟩;refine⟨_,FQ,_,FQ,_,FQ,_,_,_,_,FQ,R.r,.head _,Ih,_,FQ,?_⟩;have e:s.G.map Ap++[Ap (nt s ev j l)]=(s.G++[nt s ev j l]).map Ap:=by rw[XL];rfl
 rw[<-e] at q;refine⟨_,_,R.pl,Zbn (x:=.str l) (by rw[XM,hj];rfl),_,FQ,_,_,_,_,FQ,R.r,.head _,Lj,ZNB FQ,_,_,_,FQ,FQ,R.pg,Yc (by rw[XI];exact hg),q⟩
end
open PySem PySem.Spec PyProof.Rows L2 WL
noncomputable def Pn (s:St)(l:Str):St:={s with L:=s.L++[l],G:=s.G++[nt s "born" s.L.length l]}
def E9 (s:St)(t:Tm):St:={s with D:=s.D++[t]}
def kP:Tm->Bool
 | .at_ _=>true
 | _=>false
def Qs:Hd->Bool
 | .no=>false
 | .tm t=>Sv t
 | .made _ _=>true
def Na (s:St)(l:Str)(t:Tm):St:=if kP t=true then s else E9 (Pn s l) t
def xZ (s:St):Tm->Nat
 | .at_ i=>i
 | _=>s.L.length
def gL (h:kP t=true):tt t=Ax (xZ s t):=by cases t<;>first | rfl | cases h
def G3 (h:kP t=false):xZ s t=s.L.length:=by cases t<;>first | rfl | cases h
def Zdf {r:List T}(e:tt t=.tup (.str w::r)):Kn (.str w) [.str "at",.str "shut",.str "ring"]=kP t:=by
 cases t<;>(unfold tt at e;injection e with e;injection e with e _;injection e with e;subst e;first | (show _=false;decide+kernel) | (show _=true;decide+kernel))
def bu {r:List T}(e:hT h=.tup (.str w::r)):Kn (.str w) [.str "number",.str "fun",.str "made"]=Qs h:=by
 cases h with
 | no=>cases e
 | made c ms=>unfold hT at e;injection e with e;injection e with e _;injection e with e;subst e;show _=true;decide+kernel
 | tm t=>cases t<;>(unfold hT tt at e;injection e with e;injection e with e _;injection e with e;subst e;first | (show _=false;decide+kernel) | (show _=true;decide+kernel))
def wD {h:Hd}(n:h≠.no):∃w r,hT h=.tup (.str w::r):=by
 cases h with
 | no=>exact absurd FQ n
 | made c ms=>exact⟨_,_,FQ⟩
 | tm t=>exact xB t
section
variable {A:Ad}{C:Hw}{s:St}{Q:WK}{χ:WX}{n:Nat}
def u6 (q:Q (.bl (kP t)) C):Z4 pr (n+1) uZ [tt t] C Q χ:=by
 obtain⟨w,r,e⟩:=xB t;rw[<-Zdf e] at q;rw[e];exact ux FQ ⟨_,FQ,_,Zo,Jd,by decide,q⟩
def El {h:Hd}(hn:h≠.no)(q:Q (.bl (Qs h)) C):Z4 pr (n+1) w8 [hT h] C Q χ:=by
 obtain⟨w,r,e⟩:=wD hn;rw[<-bu e] at q;rw[e];exact xv FQ ⟨_,FQ,_,Zo,Jd,by decide,q⟩
def rO (d:Di A)(R:Rn A C s)(hL:s.L.length<=100000)(hg:s.G.length<=100000)(q:∀C',Fr A C C'->Rn A C' (Pn s l)->Q (Ax s.L.length) C'):Z4 pr (n+2) Bk [.ref (A 0),.str l] C Q χ:=by
 refine Cr FQ ?_;refine⟨_,FQ,_,_,_,_,FQ,R.r,.head _,Ih,_,FQ,_,R.pl,?_⟩;refine⟨_,FQ,_,_,_,_,FQ,R.r,.head _,Ih,⟨_,_,FQ,R.pl⟩,_,FQ,_,_,_,FQ,FQ,R.pl,Yc (by rw[XI];exact hL),?_⟩;have e:s.L.map T.str++[.str l]=(s.L++[l]).map T.str:=by rw[XL];rfl
 have el:((s.L.map T.str).length:Int)=((s.L.length:Nat):Int):=by rw[XI]
 rw[e,el];have R1:=R.s5 d (s.L++[l]);refine⟨_,FQ,_,_,_,_,FQ,R1.r,N3,wn,_,FQ,?_⟩;dsimp only[Zy];refine xJ (n:=n) (j:=s.L.length) (l:=l) d R1 (by simp) hg ?_;exact⟨_,FQ,ZNB FQ,q _ (((Fr.refl _ _).up 5).up 6) (R1.s6 d _)⟩
def rK (d:Di A)(R:Rn A C s)(hD:s.D.length<=100000)(q:∀C',Fr A C C'->Rn A C' (E9 s t)->Q .non C'):Z4 pr (n+1) Bi [.ref (A 0),.int (s.D.length:Int),tt t] C Q χ:=by
 refine Cp FQ ?_;refine⟨_,FQ,_,FQ,_,_,_,_,FQ,R.r,.head _,Ae,_,FQ,_,_,_,FQ,FQ,R.pd,Yc (by rw[fO];exact hD),?_⟩;rw[fN];exact q _ ((Fr.refl _ _).up 4) (R.s4 d _)
def V8 {h:Hd}{f:Fm}(d:Di A)(R:Rn A C s)(hl:s.P.length<=100000)(q:∀C',Fr A C C'->Rn A C' {s with P:=s.P++[f],h:=h}->Q .non C'):Z4 pr (n+1) Io [.ref (A 0),hT h,Gv f] C Q χ:=by
 refine Kv FQ ?_;refine⟨_,FQ,_,_,_,_,FQ,R.r,.head _,Lk,⟨_,_,FQ,R.pp⟩,_,FQ,_,_,_,FQ,FQ,R.pp,Yc (by rw[XI];exact hl),?_⟩;have e:s.P.map Gv++[Gv f]=(s.P++[f]).map Gv:=by rw[XL];rfl
 rw[e];have R1:=R.s1 d (s.P++[f]);refine⟨_,FQ,gs (χ:=χ) V1 R1 ?_⟩;exact q _ (((Fr.refl _ _).up 1).up 0) (R1.s0 d _)
def Le {P:List Fm}{f:Fm}(d:Di A)(R:Rn A C s)(hP:s.P=P++[f])(q:∀C',Fr A C C'->Rn A C' {s with P:=P}->Q (Gv f) C'):Z4 pr (n+1) Op [.ref (A 0)] C Q χ:=by
 refine Oj FQ ?_;have hpp:=R.pp;rw[hP,XL] at hpp;refine⟨_,FQ,_,_,_,_,FQ,R.r,.head _,Lk,⟨_,_,FQ,hpp⟩,_,_,_,FQ,FQ,hpp,(by simp:(P.map Gv++[f].map Gv)[(P.map Gv++[f].map Gv).length-1]?=some (Gv f)),?_⟩;have e:(P.map Gv++[f].map Gv).dropLast=P.map Gv:=by simp
 rw[e];exact q _ ((Fr.refl _ _).up 1) (R.s1 d P)
def nR {j:Nat}(d:Di A)(R:Rn A C s)(hj:s.L[j]?=some l)(ht:s.D[j]?=some t)(hg:s.G.length<=100000)(hl:s.P.length<=100000)(q:∀C',Fr A C C'->Rn A C' {s with P:=s.P++[.back j],h:=.tm t,G:=s.G++[nt s "enter" j l]}->Q .non C'):Z4 pr (n+2) De [.ref (A 0),.int (j:Int)] C Q χ:=by
 refine Fz FQ ?_;refine⟨_,FQ,_,_,_,_,FQ,R.r,N3,wn,_,FQ,?_⟩;dsimp only[Zy];refine xJ (n:=n) (ev:="enter") d R hj hg ?_;have R1:=R.s6 d (s.G++[nt s "enter" j l]);refine⟨_,FQ,_,_,_,_,FQ,R1.r,N3,V9,_,FQ,_,_,_,_,FQ,R1.r,.head _,Ae,_,FQ,?_⟩;refine⟨_,_,_,tt t,FQ,FQ,.inl R1.pd,by rw[fP];exact congrArg (Option.map tt) ht,_,FQ,ZNB FQ,?_⟩;dsimp only[Zy];exact V8 (n:=n) (h:=.tm t) (f:=.back j) d R1 hl λC' hF R'=>q C' (((Fr.refl _ _).up 6).trans hF) R'
def yW {j:Nat}(d:Di A)(R:Rn A C s)(hj:s.L[j]?=some l)(hg:s.G.length<=100000)(q:∀C',Fr A C C'->Rn A C' {s with G:=s.G++[nt s "back" j l]}->Q .non C'):Z4 pr (n+2) Me [.ref (A 0),.int (j:Int)] C Q χ:=by
 refine N1 FQ ?_;refine⟨_,FQ,_,_,_,_,FQ,R.r,N3,wn,_,FQ,?_⟩;dsimp only[Zy];exact xJ (n:=n) (ev:="back") d R hj hg (q _ ((Fr.refl _ _).up 6) (R.s6 d _))
def Ej (d:Di A)(R:Rn A C s)(hDL:s.D.length=s.L.length)(hL:s.L.length<=100000)(hg:s.G.length<=100000)(q:∀C',Fr A C C'->Rn A C' (Na s l t)->Q (Ax (xZ s t)) C'):Z4 pr (n+3) Lv [.ref (A 0),.str l,tt t] C Q χ:=by
 refine M3 FQ ⟨_,FQ,?_⟩;dsimp only[Zy];refine u6 (n:=n+1) ⟨_,FQ,?_⟩
 cases c:kP t with
 | true=>
  refine Z5 ⟨_,FQ,?_⟩;have:=q C (Fr.refl _ _);unfold Na at this;rw[XY c,<-gL c] at this;exact this R
 | false=>
  refine Zq ?_;refine⟨_,FQ,_,_,_,_,FQ,R.r,N3,qO,_,FQ,?_⟩;dsimp only[Zy];refine rO (n:=n) d R hL hg λC1 hF1 R1=>?_;refine⟨_,FQ,_,_,_,_,FQ,R1.r,N3,qM,_,FQ,_,Z1,_,FQ,?_⟩;have e:((s.L.length:Nat):Int)=(((Pn s l).D.length:Nat):Int):=by show _=((s.D.length:Nat):Int);rw[hDL]
  dsimp only[Zy];rw[e];refine rK (n:=n+1) d R1 (by show s.D.length<=_;omega) λC2 hF2 R2=>⟨_,FQ,?_⟩;have:=q C2 (hF1.trans hF2);unfold Na at this;rw[XX (by rw[c];decide),G3 c] at this;exact this R2
end
open PySem PySem.Spec PyProof.Rows L2 WL
def Rn.fresh (R:Rn A C s)(h:C p=none):∀i,p≠A i:=λi e=>by
 subst e
 match i with
 | 0=>rw[R.r] at h;cases h
 | 1=>rw[R.pp] at h;cases h
 | 2=>rw[R.ps] at h;cases h
 | 3=>rw[R.pt] at h;cases h
 | 4=>rw[R.pd] at h;cases h
 | 5=>rw[R.pl] at h;cases h
 | 6=>rw[R.pg] at h;cases h
def Rn.off {p:WP}(R:Rn A C s)(h:∀i,p≠A i):Rn A (up C p o) s:=
 ⟨by rw[Zn (h 0).symm];exact R.r,by rw[Zn (h 1).symm];exact R.pp,by rw[Zn (h 2).symm];exact R.ps,by rw[Zn (h 3).symm];exact R.pt,by rw[Zn (h 4).symm];exact R.pd,by rw[Zn (h 5).symm];exact R.pl,by rw[Zn (h 6).symm];exact R.pg⟩
def tQ (c:Str)(i:Nat):Str:=Str.empty++c++(".":Str)++Str.ofString (toString ((i:Nat):Int))
def sA (s:St)(c:Str)(ts:List Tm):Nat->St
 | 0=>s
 | i+1=>match ts[i]? with | some t=>Na (sA s c ts i) (tQ c (i+1)) t | none=>sA s c ts i
def mA (s:St)(c:Str)(ts:List Tm):Nat->List Nat
 | 0=>[]
 | i+1=>match ts[i]? with | some t=>mA s c ts i++[xZ (sA s c ts i) t] | none=>mA s c ts i
def mV {s:St}(h:s.D.length=s.L.length):(Na s l t).D.length=(Na s l t).L.length/\(Na s l t).L.length<=s.L.length+1/\(Na s l t).G.length<=s.G.length+1:=by
 unfold Na
 split
 ·exact⟨h,by omega,by omega⟩
 ·simp only[E9,Pn,List.length_append,List.length_cons,List.length_nil];omega
theorem rS {s:St}(h:s.D.length=s.L.length):∀i,(sA s c ts i).D.length=(sA s c ts i).L.length/\(sA s c ts i).L.length<=s.L.length+i/\(sA s c ts i).G.length<=s.G.length+i
 | 0=>⟨h,XE _,XE _⟩
 | i+1=>by
  obtain⟨a,b,e⟩:=rS h i;unfold sA
  cases ts[i]? with
  | none=>exact⟨a,by simp only;omega,by simp only;omega⟩
  | some t=>
   obtain⟨a',b',e'⟩:=mV (l:=tQ c (i+1)) (t:=t) a;exact⟨a',by simp only;omega,by simp only;omega⟩
def qT {ts:List Tm}(h:ts.length<=2):∀i,(mA s c ts i).length<=1000:=λi=>by
 have key:∀i,(mA s c ts i).length<=min i ts.length:=λi=>by
  induction i with
  | zero=>simp[mA]
  | succ i ih=>
   unfold mA
   cases e:ts[i]? with
   | none=>simp only;omega
   | some t=>
    have:=(BW.mp e).1;simp only[List.length_append,List.length_cons,List.length_nil];omega
 have:=key i;omega
def Ym (s:St)(c:Str):St:=if c="Cons" then {s with c:=s.c+1} else s
def Pf (s:St)(c:Str)(ts:List Tm):St:={sA (Ym s c) c ts ts.length with h:=.made c (mA (Ym s c) c ts ts.length)}
def Aa {i:Nat}(h:i<=100):((i:Nat):Int).natAbs.log2<1920:=by
 by_cases h0:i=0
 ·subst h0;decide
 ·exact(Nat.log2_lt (by omega)).mpr (XG (show i<2^7 by omega) (Nat.pow_le_pow_right (by decide) (by decide)))
def vF {c:Str}{i:Nat}(hc:c.length<=4)(hi:i=1\/i=2):(Str.empty++c).length<=4/\(Str.empty++c++(".":Str)).length<=5/\(tQ c i).length<=6:=by
 have h0:(Str.empty++c).length=Str.empty.length+c.length:=YC _ _;have h1:(Str.empty++c++(".":Str)).length=(Str.empty++c).length+(".":Str).length:=YC _ _;have h2:(tQ c i).length=(Str.empty++c++(".":Str)).length+(Str.ofString (toString ((i:Nat):Int))).length:=YC _ _;have e0:Str.empty.length=0:=by decide
 have e1:(".":Str).length=1:=by decide+kernel
 have e2:(Str.ofString (toString ((i:Nat):Int))).length=1:=by rcases hi with rfl | rfl<;>decide+kernel
 omega
section
variable {A:Ad}{C:Hw}{s:St}{Q:WK}{χ:WX}{n:Nat}
def rG {c:Str}{ts:List Tm}(d:Di A)(R:Rn A C s)(hc:c.length<=4)(h2:ts.length<=2)(hDL:s.D.length=s.L.length)(hL:s.L.length<=90000)(hg:s.G.length<=90000)
  (q:∀C',Fr A C C'->Rn A C' (Pf s c ts)->Q .non C'):Z4 pr (n+4) Bh [.ref (A 0),.str c,.tup (ts.map tt)] C Q χ:=by
 refine Co FQ ?_;have fin:∀C1,Fr A C C1->Rn A C1 (Ym s c)->Kt (Z4 pr (n+3)) {nx:=λ_ C'=>Q .non C',rt:=Q,xc:=χ} [some (.ref (A 0)),some (.str c),some (.tup (ts.map tt)),none,none,none] C1:=by
  intro C1 hF1 R1;have hDL':(Ym s c).D.length=(Ym s c).L.length:=by unfold Ym;split<;>exact hDL
  have hL':(Ym s c).L.length<=90000:=by unfold Ym;split<;>exact hL
  have hg':(Ym s c).G.length<=90000:=by unfold Ym;split<;>exact hg
  have emk:Pf s c ts={sA (Ym s c) c ts ts.length with h:=.made c (mA (Ym s c) c ts ts.length)}:=rfl;rw[emk] at q;generalize Ym s c=s1 at R1 hDL' hL' hg' q;refine⟨ZNB FQ,λa ha=>?_⟩;have hfr:=R1.fresh ha;have R1':=R1.ex (Ex.new (o:=.lst []) ha);refine⟨_,FQ,_,FQ,?_⟩;refine Wb (λi τ C'=>∃x4 x5,τ=[some (.ref (A 0)),some (.str c),some (.tup (ts.map tt)),some (.ref a),x4,x5]/\Fr A C C'/\Rn A C' (sA s1 c ts i)/\C' a=some (.lst ((mA s1 c ts i).map Ax))) ⟨none,none,FQ,hF1.ex (Ex.new ha),R1',Zh⟩ (λ_ _ _ _ _=>trivial) ?_ ?_
  ·rintro i x τ C' N hx ⟨x4,x5,rfl,hF,R2,hC⟩ hN;have hi:i<ts.length:=by have:=(BW.mp hx).1;rw[Sr,XI] at this;exact this
   have hti:ts[i]?=some (ts[i]'hi):=by simp[hi]
   generalize ts[i]'hi=t at hti;rw[z7 (x:=tt t) (by rw[XM,hti];rfl)] at hx
   cases hx
   obtain⟨l1,l2,l3⟩:=rS (c:=c) (ts:=ts) hDL' i;obtain⟨k1,k2,k3⟩:=vF (i:=i+1) hc (by omega);refine⟨_,FQ,_,_,FQ,_,_,FQ,FQ,?_⟩;refine⟨_,FQ,⟨_,_,FQ,hC⟩,_,FQ,_,_,_,_,FQ,R2.r,N3,Ew,?_⟩;refine⟨_,FQ,.inl ⟨_,FQ,Ya (by omega),_,FQ,Ya (by omega),_,FQ,Ya (by omega),_,FQ,.inr ⟨_,FQ,Aa (by omega),_,FQ,Ya (by exact XN k3 (by omega)),?_⟩⟩⟩;refine⟨_,FQ,?_⟩;dsimp only[Zy];have hm:=Ej (A:=A) (C:=C') (s:=sA s1 c ts i) (l:=tQ c (i+1)) (t:=t) (n:=n) (χ:=χ) (Q:=λv C2=>∃a_1 xs y,(T.ref a)=.ref a_1/\[v]=[y]/\C2 a_1=some (.lst xs)/\xs.length<sizeLine/\N [some (.ref (A 0)),some (.str c),some (.tup (ts.map tt)),some (.ref a),some (.int ((i+1:Nat):Int)),some (tt t)] (up C2 a_1 (.lst (xs++[y])))) d R2 l1 (by omega) (by omega) λC2 hF2 R3=>?_
   ·exact hm
   ·have hC2:=hF2 _ _ hfr hC;have hlm:(mA s1 c ts i).length<=1000:=qT h2 i;refine⟨_,_,_,FQ,FQ,hC2,Yc (by rw[XI];omega),hN _ _ ⟨_,_,FQ,?_,?_,?_⟩⟩
    ·exact λb o h1 h=>by
      have:b≠a:=λe=>by subst e;have z:=hF1 _ _ h1 h;rw[ha] at z;cases z
      rw[Zn this];exact hF2 _ _ h1 (hF _ _ h1 h)
    ·have e:sA s1 c ts (i+1)=Na (sA s1 c ts i) (tQ c (i+1)) t:=by rw[sA,hti]
     rw[e];exact R3.off hfr
    ·have e:mA s1 c ts (i+1)=mA s1 c ts i++[xZ (sA s1 c ts i) t]:=by rw[mA,hti]
     rw[e,XL];exact Zh
  ·rintro τ C' ⟨x4,x5,rfl,hF,R2,hC⟩;rw[Sr,XI] at R2 hC;refine⟨_,FQ,_,FQ,_,FQ,_,hC,ZNB FQ,?_⟩;exact gs (χ:=χ) (V1 (h:=.made c (mA s1 c ts ts.length))) R2 (q _ (hF.up 0) (R2.s0 d _))
 refine⟨_,FQ,?_⟩;by_cases hcs:c="Cons"
 ·refine Zx (v:=true) (by rw[hcs];exact XU _) ⟨true,FQ,Z5 ?_⟩;refine⟨_,FQ,_,_,_,_,FQ,R.r,.head _,ju,?_⟩;refine gs (χ:=χ) qc R ?_;refine fin _ ((Fr.refl _ _).up 0) ?_;have e:Ym s c={s with c:=s.c+1}:=by unfold Ym;rw[XY hcs]
  rw[e];exact R.s0 d _
 ·refine Zx (v:=false) (by simpa using hcs) ⟨false,FQ,Zq ?_⟩;refine fin _ (Fr.refl _ _) ?_;have e:Ym s c=s:=by unfold Ym;rw[XX hcs]
  rw[e];exact R
end
open PySem PySem.Spec PyProof.Rows L2 WL
def bA (s:St)(ns:List Str):Nat->St
 | 0=>s
 | i+1=>match ns[i]? with | some x=>Pn (bA s ns i) x | none=>bA s ns i
def mB (b:Nat)(ns:List Str):Nat->Mn
 | 0=>[]
 | i+1=>match ns[i]? with | some x=>mB b ns i++[(x,b+i)] | none=>mB b ns i
theorem kf {ns:List Str}:∀i,i<=ns.length->(bA s ns i).L.length=s.L.length+i/\(bA s ns i).G.length=s.G.length+i/\(bA s ns i).D=s.D/\(bA s ns i).P=s.P/\(bA s ns i).S=s.S/\(bA s ns i).U=s.U/\(bA s ns i).k=s.k/\(bA s ns i).w=s.w/\(bA s ns i).c=s.c/\(bA s ns i).f=s.f/\(bA s ns i).e=s.e
 | 0,_=>⟨FQ,FQ,FQ,FQ,FQ,FQ,FQ,FQ,FQ,FQ,FQ⟩
 | i+1,h=>by
  obtain⟨h1,h2,h3⟩:=kf (s:=s) (ns:=ns) i (by omega);have e:ns[i]?=some (ns[i]'(by omega)):=by simp[show i<ns.length by omega]
  unfold bA;rw[e];refine⟨?_,?_,h3⟩
  ·show((bA s ns i).L++[_]).length=_;rw[BX,h1];rfl
  ·show((bA s ns i).G++[_]).length=_;rw[BX,h2];rfl
theorem R9 {ns:List Str}:∀i,i<=ns.length->(mB b ns i).map (·.1)=ns.take i
 | 0,_=>by simp[mB]
 | i+1,h=>by
  have e:ns[i]?=some (ns[i]'(by omega)):=by simp[show i<ns.length by omega]
  rw[mB,e,XL,R9 i (by omega),YD,e];rfl
theorem qS {ns:List Str}:∀{i j:Nat} {x:Str},i<=ns.length->j<i->ns[j]?=some x->(mB b ns i)[j]?=some (x,b+j)
 | 0,_,_,_,h,_=>by omega
 | i+1,j,x,hi,hj,hx=>by
  have e:ns[i]?=some (ns[i]'(by omega)):=by simp[show i<ns.length by omega]
  have hl:(mB b ns i).length=i:=by have:=congrArg List.length (R9 (b:=b) (ns:=ns) i (by omega));rw[XI,YM] at this;omega
  rw[mB,e];by_cases c:j=i
  ·subst c;rw[e] at hx;cases hx;simp[hl]
  ·simp only;rw[ED (by omega)];exact qS (by omega) (by omega) hx
theorem qR {ns:List Str}:∀{i:Nat},i<=ns.length->∀kv∈mB b ns i,kv.2<b+i
 | 0,_,kv,h=>by simp[mB] at h
 | i+1,hi,kv,h=>by
  have e:ns[i]?=some (ns[i]'(by omega)):=by simp[show i<ns.length by omega]
  rw[mB,e] at h;simp only[List.mem_append,List.mem_singleton] at h
  rcases h with h | rfl
  ·have:=qR (i:=i) (by omega) kv h;omega
  ·show b+i<_;omega
def Hq (s:St)(ns:List Str):Mn:=mB s.L.length ns ns.length
noncomputable def jW (s:St)(ns:List Str)(ts:List Tm)(B':Tm):St:={bA s ns ns.length with D:=s.D++ts,h:=.tm B'}
def zI:(mT M).map (·.1)=M.map (·.1):=by unfold mT;rw[YE];rfl
section
variable {A:Ad}{C:Hw}{s:St}{Q:WK}{χ:WX}{n f:Nat}
def iT {α:Type}{Z:List α}{x:α->Str}{o g:α->Tm}{B B':Tm}(d:Di A)(R:Rn A C s)(h5:Z.length<=5)(hn:(Z.map x).Nodup)(hDL:s.D.length=s.L.length)(hL:s.L.length<=90000)(hg:s.G.length<=90000)
  (hz:∀z∈Z,Pq f (tt (o z)) (mT (Hq s (Z.map x))) (tt (g z))) (hB:Pq f (tt B) (mT (Hq s (Z.map x))) (tt B')) (q:∀C',Fr A C C'->Rn A C' (jW s (Z.map x) (Z.map g) B')->Q .non C'):Z4 pr (n+f+6) Bj [.ref (A 0),.tup (Z.map λz=>.tup [.str (x z),tt (o z)]),tt B] C Q χ:=by
 refine Cq FQ ?_;refine λa ha=>?_;have hfr:=R.fresh ha;have R0:=R.ex (Ex.new (o:=.dic []) ha);have hnl:(Z.map x).length=Z.length:=XI _;refine⟨_,FQ,?_⟩;refine Wb (λi τ C'=>∃x4 x5,τ=[some (.ref (A 0)),some (.tup (Z.map λz=>.tup [.str (x z),tt (o z)])),some (tt B),some (.ref a),x4,x5]/\Fr A C C'/\Rn A C' (bA s (Z.map x) i)/\C' a=some (.dic (dm (mT (mB s.L.length (Z.map x) i))))) ⟨none,none,FQ,(Fr.refl _ _).ex (Ex.new ha),R0,Zh⟩ (λ_ _ _ _ _=>trivial) ?_ ?_
 ·rintro i y τ C' N hx ⟨x4,x5,rfl,hF,R2,hC⟩ hN;rw[XM] at hx
  cases hzi:Z[i]? with
  | none=>rw[hzi] at hx;cases hx
  | some z=>
   rw[hzi] at hx
   cases hx
   have hi:i<Z.length:=(BW.mp hzi).1;have hni:(Z.map x)[i]?=some (x z):=by rw[XM,hzi];rfl
   obtain⟨b1,b2,b3⟩:=kf (s:=s) (ns:=Z.map x) i (by omega);have hkey:(x z)∉(mB s.L.length (Z.map x) i).map (·.1):=λhm=>by
    rw[R9 i (by omega)] at hm;obtain⟨j,hj⟩:=List.getElem?_of_mem hm;rw[List.getElem?_take] at hj
    split at hj
    ·rename_i hji;have:=(DT (i:=j) (j:=i) (by omega) hn).mp (by rw[hj,hni]);omega
    ·cases hj
   refine⟨_,FQ,_,_,FQ,_,_,FQ,FQ,?_⟩;refine⟨_,FQ,_,_,_,_,FQ,R2.r,N3,qO,_,FQ,?_⟩;dsimp only[Zy];refine rO (n:=n+f+3) (l:=(x z)) d R2 (by omega) (by omega) λC2 hF2 R3=>?_;have hC2:=hF2 _ _ hfr hC;refine⟨_,FQ,_,FQ,_,_,_,FQ,FQ,hC2,?_,?_⟩
   ·have hl:=congrArg List.length (R9 (b:=s.L.length) (ns:=Z.map x) i (by omega));rw[XI,YM] at hl;rw[pW];unfold mT;rw[XI];exact Yc (by omega)
   ·rw[pV (by rw[zI];exact hkey),b1];refine hN _ _ ⟨_,_,FQ,?_,?_,?_⟩
    ·exact λb o h1' h=>by
      have:b≠a:=λe=>by subst e;rw[ha] at h;cases h
      rw[Zn this];exact hF2 _ _ h1' (hF _ _ h1' h)
    ·have e:bA s (Z.map x) (i+1)=Pn (bA s (Z.map x) i) (x z):=by rw[bA,hni]
     rw[e];exact R3.off hfr
    ·have e:mT (mB s.L.length (Z.map x) (i+1))=mT (mB s.L.length (Z.map x) i)++[((x z),Ax (s.L.length+i))]:=by rw[mB,hni];unfold mT;rw[XL];rfl
     rw[e];exact Zh
 ·rintro τ C' ⟨x4,x5,rfl,hF,R2,hC⟩;rw[XI] at R2 hC;have eM:mB s.L.length (Z.map x) Z.length=Hq s (Z.map x):=by unfold Hq;rw[hnl]
  rw[eM] at hC;obtain⟨b1,b2,b3,b4,b5,b6,b7,b8,b9,b10,b11⟩:=kf (s:=s) (ns:=Z.map x) Z.length (by omega);generalize hs2:bA s (Z.map x) Z.length=s2 at R2 b1 b2 b3 b4 b5 b6 b7 b8 b9 b10 b11;refine⟨_,FQ,?_⟩;refine Wb (λi τ C'=>∃x4 x5,τ=[some (.ref (A 0)),some (.tup (Z.map λz=>.tup [.str (x z),tt (o z)])),some (tt B),some (.ref a),x4,x5]/\Fr A C C'/\Rn A C' {s2 with D:=s.D++(Z.take i).map g}/\C' a=some (.dic (dm (mT (Hq s (Z.map x)))))) ⟨x4,x5,FQ,hF,by rw[List.take_zero,FA,YK,<-b3];exact R2,hC⟩ (λ_ _ _ _ _=>trivial) ?_ ?_
  ·rintro i y τ C' N hx ⟨x4,x5,rfl,hF,R3,hC⟩ hN;rw[XM] at hx
   cases hzi:Z[i]? with
   | none=>rw[hzi] at hx;cases hx
   | some z=>
    rw[hzi] at hx
    cases hx
    have hi:i<Z.length:=(BW.mp hzi).1;have hni:(Z.map x)[i]?=some (x z):=by rw[XM,hzi];rfl
    have hget:Y3 (dm (mT (Hq s (Z.map x)))) (.inr (x z))=some (Ax (s.L.length+i)):=by
     have hk:((mT (Hq s (Z.map x))).map (·.1)).Nodup:=by rw[zI];unfold Hq;rw[R9 _ (by omega),EO (by omega)];exact hn
     exact kX (kv:=((x z),Ax (s.L.length+i))) (i:=i) hk (by unfold mT Hq;rw[XM,qS (x:=x z) (by omega) (by omega) hni];rfl)
    have hzm:=CF hzi;refine⟨_,FQ,_,_,FQ,_,_,FQ,FQ,?_⟩;refine⟨_,FQ,_,_,_,_,FQ,R3.r,N3,qM,?_⟩;refine⟨_,FQ,_,FQ,_,_,_,_,FQ,FQ,.inl hC,hget,_,Z1,?_⟩;refine⟨_,FQ,_,FQ,?_⟩;dsimp only[Zy];refine PT.put (hz z hzm).1 (hz z hzm).2.2 (n:=n) (.inl hC) λC2 hE2=>?_;have R4:=R3.ex hE2;have eD:((s.L.length+i:Nat):Int)=((({s2 with D:=s.D++(Z.take i).map g}:St).D.length:Nat):Int):=by
     show _=(((s.D++(Z.take i).map g).length:Nat):Int);rw[BX,XI,YM,hDL];congr 2;omega
    rw[eD];refine rK (n:=n+f+4) d R4 (by show(s.D++(Z.take i).map g).length<=_;rw[BX,XI,YM];omega) λC3 hF3 R5=>?_;refine hN _ _ ⟨_,_,FQ,(hF.ex hE2).trans hF3,?_,hF3 _ _ hfr (hE2 _ _ hC)⟩;have e:s.D++(Z.take (i+1)).map g=s.D++(Z.take i).map g++[g z]:=by rw[YD,hzi,XL,YL];rfl
    rw[e];exact R5
  ·rintro τ C' ⟨x4,x5,rfl,hF,R3,hC⟩;rw[XI,CG] at R3;refine⟨_,FQ,_,FQ,?_⟩;dsimp only[Zy];refine PT.put hB.1 hB.2.2 (n:=n) (.inl hC) λC2 hE2=>?_;have R4:=R3.ex hE2;refine gs (χ:=χ) (V1 (h:=.tm B')) R4 ?_;have:=q (up C2 (A 0) (.ins "Runner" (Fs A {s2 with D:=s.D++Z.map g,h:=.tm B'}))) ((hF.ex hE2).up 0);unfold jW at this;rw[hnl,hs2] at this;exact this (R4.s0 d _)
end
open PySem PySem.Spec PyProof.Rows L2 WL
noncomputable def Uv (o:Str)(x y:Int):Hd:=
 if o="<" then .made (if decide (x<y)=true then "Yes" else "No") [] else if o="=" then .made (if (x==y)=true then "Yes" else "No") []
 else .tm (.num ((if o="+" then x+y else if o="-" then x-y else x*y)%big))
def U1 (sh:Str)(al:List Al):Option Al:=al.find? λa=>decide (a.1=sh)
section
variable {C:Hw}{Q:WK}{χ:WX}{n f:Nat}
def vq (q:Q (.tup [.str "made",.str (if b=true then "Yes" else "No"),.tup []]) C):Z4 pr (n+1) lx [.bl b] C Q χ:=by
 refine np FQ ⟨_,FQ,_,FQ,?_⟩
 cases b
 ·exact Zq ⟨ZNB FQ,ZNB FQ,q⟩
 ·exact Z5 ⟨ZNB FQ,ZNB FQ,q⟩
def xI {x y:Int}(hx:0<=x)(hx':x<big)(q:Q (hT (Uv op x y)) C):Z4 pr (n+2) w6 [.str op,.int x,.int y] C Q χ:=by
 refine xu FQ ?_;have p:oM 10 18:=⟨by decide,by decide,by decide⟩;have hx'':x<1000000000000000000:=hx';unfold Uv at q;by_cases c1:op="<"
 ·rw[XY c1] at q;refine Qk FQ c1 ⟨_,FQ,_,FQ,?_⟩;dsimp only[av,Zy];exact vq q
 rw[XX c1] at q;refine Xc FQ c1 ?_;by_cases c2:op="="
 ·rw[XY c2] at q;refine Qk FQ c2 ⟨_,FQ,_,FQ,Za8 FQ ?_⟩;dsimp only[Zy];exact vq q
 rw[XX c2] at q;refine Xc FQ c2 ?_;by_cases c3:op="+"
 ·rw[XY c3] at q;exact⟨_,FQ,Zx (v:=true) (by rw[c3];exact XU _) ⟨true,FQ,Z5 ⟨_,FQ,_,FQ,_,FQ,p,by decide,ZNB FQ,q⟩⟩⟩
 rw[XX c3] at q;by_cases c4:op="-"
 ·rw[XY c4] at q;exact⟨_,FQ,Zx (v:=false) (by simpa using c3) ⟨false,FQ,Zq ⟨_,FQ,Zx (v:=true) (by rw[c4];exact beq_self_eq_true _) ⟨true,FQ,Z5 ⟨_,FQ,_,FQ,_,FQ,p,by decide,ZNB FQ,q⟩⟩⟩⟩⟩
 rw[XX c4] at q;exact⟨_,FQ,Zx (v:=false) (by simpa using c3) ⟨false,FQ,Zq ⟨_,FQ,Zx (v:=false) (by simpa using c4) ⟨false,FQ,Zq ⟨_,FQ,_,FQ,.inl ⟨by omega,by omega⟩,_,FQ,p,by decide,ZNB FQ,q⟩⟩⟩⟩⟩
def rP {w:Str}{Y4:List T}{al:T}(hw:w≠"made")(q:Q .non C):Z4 pr (n+1) Sx [.tup (.str w::Y4),al] C Q χ:=
 Sm FQ ⟨_,FQ,_,Zo,be (v:=false) (by simpa using hw) ⟨_,FQ,Z5 q⟩⟩
def yX {ms:T}(q:Q (match U1 sh al with | some a=>wU a | none=>.non) C):Z4 pr (n+1) Sx [.tup [.str "made",.str sh,ms],.tup (al.map wU)] C Q χ:=by
 refine Sm FQ ⟨_,FQ,_,Zo,be (v:=true) (XU _) ⟨_,FQ,Zq ⟨_,FQ,?_⟩⟩⟩;unfold U1 at q;refine Wb (λi τ C'=>∃x2,τ=[some (.tup [.str "made",.str sh,ms]),some (.tup (al.map wU)),x2]/\C'=C/\(al.take i).find? (λa=>decide (a.1=sh))=none) ⟨none,FQ,FQ,FQ⟩ (λ_ _ _ _ _=>trivial) ?_ ?_
 ·rintro i t τ C' N ht ⟨x2,rfl,rfl,hf⟩ hN;rw[XM] at ht
  cases hz:al[i]? with
  | none=>rw[hz] at ht;cases ht
  | some z=>
   rw[hz] at ht
   cases ht
   have hsplit:al=al.take i++z::al.drop (i+1):=by
    obtain⟨hi,hz'⟩:=BW.mp hz;rw[<-hz',<-CV hi,List.take_append_drop]
   have et:al.take (i+1)=al.take i++[z]:=by rw[YD,hz];rfl
   refine⟨_,FQ,_,Zo,_,FQ,_,Z1,?_⟩;by_cases c:z.1=sh
   ·have:al.find? (λa=>decide (a.1=sh))=some z:=by rw[hsplit,List.find?_append,hf];simp[c]
    rw[this] at q;exact bJ (v:=true) (by rw[c];exact XU _) ⟨true,FQ,Z5 ⟨_,FQ,q⟩⟩
   ·refine bJ (v:=false) (by simpa using c) ⟨false,FQ,Zq (hN _ _ ⟨_,FQ,FQ,?_⟩)⟩;rw[et,List.find?_append,hf];simp[c]
 ·rintro τ C' ⟨x2,rfl,rfl,hf⟩;rw[XI,CG] at hf;rw[hf] at q;exact q
def iz {ns:List Str}{ms:List Nat}(hl:ns.length=ms.length)(hn:ns.Nodup):tS Wq (ns.map Sum.inr) (ms.map Ax)=dm (mT (ns.zip ms)):=by
 have key:∀(ns:List Str) (ms:List Nat) (M:Mn),ns.Nodup->(∀x∈ns,x∉M.map (·.1))->((ns.map (Sum.inr:Str->Yo)).zip (ms.map Ax)).foldl (λa kv=>Wq a kv.1 kv.2) (dm (mT M))=dm (mT (M++ns.zip ms)):=by
  intro ns
  induction ns with
  | nil=>intro ms M _ _;simp
  | cons x ns ih=>
   intro ms M hn hd
   cases ms with
   | nil=>simp
   | cons m ms=>
    rw[YI,YI,List.zip_cons_cons,List.foldl_cons,List.zip_cons_cons];have e:Wq (dm (mT M)) (.inr x) (Ax m)=dm (mT (M++[(x,m)])):=by
     rw[pV (by rw[zI];exact hd x (by simp))];unfold mT;rw[List.map_append];rfl
    show List.foldl _ (Wq (dm (mT M)) (.inr x) (Ax m)) _=_;rw[e,ih ms (M++[(x,m)]) (EB.mp hn).2 (λy hy=>?_),YL]
    ·rfl
    ·rw[XL,XS,not_or];refine⟨hd y (by simp[hy]),?_⟩;intro h;simp at h;subst h;exact(EB.mp hn).1 hy
 have:=key ns ms [] hn (by simp);exact this
def rF {ms:List Nat}(ha:U1 sh al=some a)(hl:a.2.1.length=ms.length)(h5:a.2.1.length<=100)(hn:a.2.1.Nodup)(hB:PT f (tt a.2.2) (mT (a.2.1.zip ms)) B')(ht:∃l,B'=.tup l)(q:∀C',Ex C C'->Q B' C'):
  Z4 pr (n+f+6) pz [hT (.made sh ms),.tup (al.map wU)] C Q χ:=by
 refine sJ FQ ⟨_,FQ,_,FQ,?_⟩;dsimp only[Zy];refine yX (n:=n+f+4) ?_;rw[ha];refine⟨_,FQ,FQ,false,FQ,Zq ⟨_,FQ,_,Y2,?_⟩⟩;refine⟨_,FQ,_,Z1,_,FQ,_,Y2,?_⟩;refine⟨a.2.1,ms.map Ax,FQ,by rw[XI];exact hl,by omega,λp hp=>?_⟩;rw[iz hl hn];dsimp only[Zy];exact PT.put (n:=n) (t':=B') hB ht (.inl Zh) λC' hE=>q C' ((Ex.new hp).trans hE)
def isFn:Hd->Bool
 | .tm (.fn _ _)=>true
 | _=>false
def Gp:Hd->Bool
 | .tm (.num _)=>true
 | _=>false
def Qp (h:Hd):Fm->Bool
 | .give _=>isFn h
 | .pick al=>match h with | .made c _=>(U1 c al).isSome | _=>false
 | .left _ _=>Gp h
 | .right _ _=>Gp h
 | .first _=>true
 | .back _=>true
def fi {r:List T}(e:hT h=.tup (.str w::r)):(w=="fun")=isFn h:=by
 cases h with
 | no=>cases e
 | made c ms=>unfold hT at e;injection e with e;injection e with e _;injection e with e;subst e;show _=false;decide+kernel
 | tm t=>cases t<;>(unfold hT tt at e;injection e with e;injection e with e _;injection e with e;subst e;first | (show _=false;decide+kernel) | (show _=true;decide+kernel))
def pk {r:List T}(e:hT h=.tup (.str w::r)):(w=="number")=Gp h:=by
 cases h with
 | no=>cases e
 | made c ms=>unfold hT at e;injection e with e;injection e with e _;injection e with e;subst e;show _=false;decide+kernel
 | tm t=>cases t<;>(unfold hT tt at e;injection e with e;injection e with e _;injection e with e;subst e;first | (show _=false;decide+kernel) | (show _=true;decide+kernel))
def yM {r:List T}(e:tt t=.tup (.str w::r)):w≠"made":=by
 cases t<;>(unfold tt at e;injection e with e;injection e with e _;injection e with e;subst e;decide+kernel)
def pH {r:List T}{X:WE}{D:We}{τ:Sw}(q:X [some v,some (.tup (.str a::r))] C D.rt D.xc):Vn (xo (O4 (Y1 Hk (Y1 Tz (Z6 1) (eC (.int 0))) (eC (.str a)))) (rQ X) Qj) B D [some v,some (.tup (.str a::r))] C:=
 ⟨_,FQ,_,Zo,Zx (v:=true) (XU _) ⟨true,FQ,Z5 q⟩⟩
def Lx {a z:Str}{r:List T}{X B:WS}(h:(z==a)=false)(q:B D [some v,some (.tup (.str z::r))] C):Vn (xo (O4 (Y1 Hk (Y1 Tz (Z6 1) (eC (.int 0))) (eC (.str a)))) X Qj) B D [some v,some (.tup (.str z::r))] C:=
 ⟨_,FQ,_,Zo,Zx (v:=false) h ⟨false,FQ,Zq q⟩⟩
def iQ {h:Hd}(hn:h≠.no)(q:Q (.bl (Qp h fr)) C):Z4 pr (n+2) fk [hT h,Gv fr] C Q χ:=by
 refine iB FQ ?_;obtain⟨w,r,e⟩:=wD hn
 cases fr with
 | give t=>
  have q':Q (.bl (isFn h)) C:=q;rw[<-fi e] at q';rw[e];exact pH (τ:=[]) ⟨_,FQ,_,Zo,Zx FQ q'⟩
 | pick al=>
  refine Lx (by decide+kernel) (pH (τ:=[]) ⟨_,FQ,_,FQ,_,Z1,?_⟩);dsimp only[Zy]
  cases h with
  | no=>exact absurd FQ hn
  | made c ms=>
   refine yX (n:=n) ?_;have q':Q (.bl (U1 c al).isSome) C:=q
   cases ha:U1 c al with
   | none=>rw[ha] at q';exact⟨FQ,q'⟩
   | some a=>rw[ha] at q';exact⟨FQ,q'⟩
  | tm t=>
   have hw:=yM e;rw[e];exact rP hw ⟨FQ,q⟩
 | left o t=>
  have q':Q (.bl (Gp h)) C:=q;rw[<-pk e] at q';rw[e];exact Lx (by decide+kernel) (Lx (by decide+kernel) ⟨_,FQ,_,Zo,Zx (v:=true) (XU _) ⟨true,FQ,Z5 (Z5 ⟨_,FQ,_,Zo,Zx FQ q'⟩)⟩⟩)
 | right o x=>
  have q':Q (.bl (Gp h)) C:=q;rw[<-pk e] at q';rw[e];exact Lx (by decide+kernel) (Lx (by decide+kernel) ⟨_,FQ,_,Zo,Zx (v:=false) (by decide+kernel) ⟨false,FQ,Zq ⟨_,FQ,_,Zo,Zx (v:=true) (XU _) ⟨true,FQ,Z5 ⟨_,FQ,_,Zo,Zx FQ q'⟩⟩⟩⟩⟩)
 | first t=>exact Lx (by decide+kernel) (Lx (by decide+kernel) ⟨_,FQ,_,Zo,Zx (v:=false) (by decide+kernel) ⟨false,FQ,Zq ⟨_,FQ,_,Zo,Zx (v:=false) (by decide+kernel) ⟨false,FQ,Zq q⟩⟩⟩⟩)
 | back i=>exact Lx (by decide+kernel) (Lx (by decide+kernel) ⟨_,FQ,_,Zo,Zx (v:=false) (by decide+kernel) ⟨false,FQ,Zq ⟨_,FQ,_,Zo,Zx (v:=false) (by decide+kernel) ⟨false,FQ,Zq q⟩⟩⟩⟩)
end
open PySem PySem.Spec PyProof.Rows L2 WL
abbrev xW (v:Int):Str:=Str.ofString (toString v)
noncomputable def zx:Hd->Int->List Pc
 | .tm (.num v),_=>[.word (xW v)]
 | .tm (.fn _ _),_=>[.word "fun"]
 | .made c [],_=>[.word c]
 | .made c ms,D=>.word ("("++c)::(ms.flatMap λi=>[.word " ",.part D (.at_ i)])++[.word ")"]
 | _,_=>[]
noncomputable def Gy (s:St):St:=match s.S.getLast? with
 | none=>{s with e:=.told (Txt.join "" s.U)}
 | some (.word x)=>{s with S:=s.S.dropLast,U:=s.U++[x]}
 | some (.part D t)=>if D<=0 then {s with S:=s.S.dropLast,U:=s.U++[("?":Str)]} else {s with S:=s.S.dropLast,w:=D,h:=.tm t}
def xn (s:St):St:={s with S:=s.S++(zx s.h (s.w-1)).reverse,h:=.no}
def uT (s:St)(i:Nat):Str:=(s.L[i]?).getD ""
noncomputable def tH (s:St)(i:Nat):St:={s with P:=s.P.dropLast,G:=s.G++[nt s "back" i (uT s i)]}
def Sb:Hd->Option Str
 | .tm (.stop x)=>some x
 | _=>none
def Sd:Fm->Option Nat
 | .back i=>some i
 | _=>none
def Bm:En->Bool
 | .no=>true
 | _=>false
def B8:Hd->Bool
 | .no=>true
 | _=>false
noncomputable def one (s:St):Option St:=
 if Bm s.e=true then
  if B8 s.h=true then some (Gy s)
  else match Sb s.h with
  | some x=>some {s with e:=.stop x}
  | none=>if Qs s.h=true then
    match s.P.getLast? with
    | none=>some (xn s)
    | some f=>match Sd f with
     | some i=>some (tH s i)
     | none=>if Qp s.h f=true then none else some {s with e:=.stuck}
   else none
 else none
def mu (s:St):Nat:=if Bm s.e=true then(if B8 s.h=true then s.S.length+2 else if Qs s.h=true then s.P.length+s.S.length+12 else 1) else 0
def B1:Nat->St->St
 | 0,s=>s
 | m+1,s=>match one s with | some s'=>B1 m s' | none=>s
def Jl (s:St):St:=B1 (mu s) s
def pC (s:St)(h:Hd)(f:Fm):St:={s with P:=s.P++[f],h:=h}
noncomputable def Fj (s:St):Tm->St
 | .call a b=>pC s (.tm a) (.give b)
 | .does o a b=>pC s (.tm a) (.left o b)
 | .ch e n cs ns bs=>pC s (.tm e) (.pick ((List.finRange n).map λi=>(cs i,ns i,bs i)))
 | .first a b=>pC {s with f:=s.f+1} (.tm a) (.first b)
 | .lt n xs ts b=>jW s (Ve xs) ((List.finRange n).map λi=>pu (mo (Hq s (Ve xs))) (ts i)) (pu (mo (Hq s (Ve xs))) b)
 | .shp0 c=>Pf s c []
 | .shp2 c a b=>Pf s c [a,b]
 | .at_ i=>{s with P:=s.P++[.back i],h:=.tm ((s.D[i]?).getD (.nm "")),G:=s.G++[nt s "enter" i (uT s i)]}
 | _=>s
noncomputable def yu (s:St)(h:Hd):Fm->St
 | .give t=>match h with | .tm (.fn x b)=>{Na s x t with h:=.tm (pu (mo [(x,xZ s t)]) b)} | _=>s
 | .pick al=>match h with | .made c ms=>(match U1 c al with | some a=>{s with h:=.tm (pu (mo (a.2.1.zip ms)) a.2.2)} | none=>s) | _=>s
 | .left o t=>match h with | .tm (.num v)=>pC s (.tm t) (.right o v) | _=>s
 | .right o x=>match h with | .tm (.num v)=>{s with h:=Uv o x v} | _=>s
 | .first t=>{s with h:=.tm t}
 | .back _=>s
noncomputable def yv (s:St):St:=if Qs s.h=true then(match s.P.getLast? with | some f=>yu {s with P:=s.P.dropLast} s.h f | none=>s) else(match s.h with | .tm t=>Fj s t | _=>s)
noncomputable def wV (m:Int):Nat->St->St
 | 0,s=>s
 | n+1,s=>if Bm s.e=true/\s.k<m then wV m n (Jl (yv {s with k:=s.k+1})) else s
def Td (L d:Nat):Hd->Prop
 | .no=>True
 | .tm t=>ok L d [] t
 | .made c ms=>cl c/\ms.length=ar c/\∀i∈ms,i<L
def Zdw (L d:Nat)(a:Al):Prop:=a.2.1.length=ar a.1/\a.2.1.Nodup/\ok L d a.2.1 a.2.2
def oW (L d:Nat):Fm->Prop
 | .give t=>ok L d [] t
 | .pick al=>∀a∈al,Zdw L d a
 | .left _ t=>ok L d [] t
 | .right _ x=>0<=x/\x<big
 | .first t=>ok L d [] t
 | .back i=>i<L
def eX (L d:Nat):Pc->Prop
 | .word x=>x.length<=100
 | .part _ t=>ok L d [] t/\Sv t=false
structure Ok (d:Nat)(s:St):Prop where
 h:Td s.L.length d s.h
 hp:s.h=.no->s.P=[]
 P:∀f∈s.P,oW s.L.length d f
 S:∀p∈s.S,eX s.L.length d p
 U:∀x∈s.U,x.length<=100
 D:s.D.length=s.L.length
 D':∀t∈s.D,ok s.L.length d [] t
 k0:0<=s.k/\s.k<=1000
 nL:(s.L.length:Int)<=5*s.k
 nG:(s.G.length:Int)+(s.P.length:Int)<=6*s.k
 nU:(s.U.length:Int)+(s.S.length:Int)+(if Qs s.h=true then 6 else 0)<=6*s.k+8
def oW.lift {L L' d:Nat}(hL:L<=L'){f:Fm}(q:oW L d f):oW L' d f:=by
 cases f with
 | give t=>exact Xr hL q (XE _)
 | pick al=>exact λa ha=>⟨(q a ha).1,(q a ha).2.1,Xr hL (q a ha).2.2 (XE _)⟩
 | left o t=>exact Xr hL q (XE _)
 | right o x=>exact q
 | first t=>exact Xr hL q (XE _)
 | back i=>exact XG q hL
def eX.lift {L L' d:Nat}(hL:L<=L')(q:eX L d p):eX L' d p:=by
 cases p with
 | word x=>exact q
 | part D t=>exact⟨Xr hL q.1 (XE _),q.2⟩
def X4 {α:Type}{l:List α}{x:α}(h:l.getLast?=some x):x∈l:=List.mem_of_getLast? h
def Wj {α:Type}{l:List α}{x:α}(h:l.getLast?=some x):l=l.dropLast++[x]:=by
 have hn:l≠[]:=λe=>by subst e;cases h
 rw[List.getLast?_eq_some_getLast hn] at h
 cases h
 exact(List.dropLast_concat_getLast hn).symm
def Su {α:Type}{l:List α}(h:l.getLast?=none):l=[]:=List.getLast?_eq_none_iff.mp h
def E8 {α:Type}{l:List α}{x:α}(h:l.getLast?=some x):l.length=l.dropLast.length+1:=by
 have:=congrArg List.length (Wj h);rw[BX] at this;exact this
def Pe {α:Type}{l:List α}{x:α}(h:x∈l.dropLast):x∈l:=(List.dropLast_sublist l).subset h
def mR {v:Int}(h0:0<=v)(h1:v<big):(xW v).length<=100:=by
 obtain⟨m,rfl⟩:∃m:Nat,v=m:=⟨v.toNat,by omega⟩;show(Str.ofString (toString (Int.ofNat m))).length<=100;rw[text_ofNat];show((Nat.toDigits 10 m).map Char.toNat).toArray.size<=100;rw[XJ,XI];have:(Nat.toDigits 10 m).length<=18:=digits10_le (by decide) (by simp only[big] at h1;omega);omega
def qt (q:Td L d h):(∀p∈zx h D,eX L d p)/\(zx h D).length<=6:=by
 have h1:("(":Str).length=1:=by decide+kernel
 have h2:(" ":Str).length=1:=by decide+kernel
 have h3:(")":Str).length=1:=by decide+kernel
 have h4:("fun":Str).length=3:=by decide+kernel
 cases h with
 | no=>exact⟨λp hp=>(by cases hp),by show 0<=6;omega⟩
 | tm t=>
  cases t with
  | num v=>exact⟨λp hp=>by rw[XQ.mp hp];exact mR q.1 q.2,by show 1<=6;omega⟩
  | fn x b=>exact⟨λp hp=>by rw[XQ.mp hp];show("fun":Str).length<=100;omega,by show 1<=6;omega⟩
  | _=>exact⟨λp hp=>(by cases hp),by show 0<=6;omega⟩
 | made c ms=>
  obtain⟨⟨q0,q1⟩,q2,q3⟩:=q;have hl:ms.length<=2:=by rw[q2];exact Ay c
  have hc:("("++c:Str).length=("(":Str).length+c.length:=YC _ _
  match ms,q2,q3,hl with
  | [],_,_,_=>exact⟨λp hp=>by rw[XQ.mp hp];show c.length<=100;omega,by show 1<=6;omega⟩
  | [a],_,q3,_=>
   refine⟨λp hp=>?_,by show 4<=6;omega⟩;simp only[zx,List.flatMap_cons,List.flatMap_nil,List.append_nil,List.cons_append,List.nil_append,List.mem_cons,List.not_mem_nil,or_false] at hp
   rcases hp with rfl | rfl | rfl | rfl
   ·show("("++c:Str).length<=100;omega
   ·show(" ":Str).length<=100;omega
   ·exact⟨q3 a (by simp),FQ⟩
   ·show(")":Str).length<=100;omega
  | [a,b],_,q3,_=>
   refine⟨λp hp=>?_,by show 6<=6;omega⟩;simp only[zx,List.flatMap_cons,List.flatMap_nil,List.append_nil,List.cons_append,List.nil_append,List.mem_cons,List.not_mem_nil,or_false] at hp
   rcases hp with rfl | rfl | rfl | rfl | rfl | rfl
   ·show("("++c:Str).length<=100;omega
   ·show(" ":Str).length<=100;omega
   ·exact⟨q3 a (by simp),FQ⟩
   ·show(" ":Str).length<=100;omega
   ·exact⟨q3 b (by simp),FQ⟩
   ·show(")":Str).length<=100;omega
set_option tactic.hygienic true
def Ic (q:Ok d s)(h:one s=some s'):Ok d s'/\mu s'<mu s/\s'.k=s.k:=by
 unfold one at h
 split at h
 next he=>
  have hm:mu s=if B8 s.h=true then s.S.length+2 else if Qs s.h=true then s.P.length+s.S.length+12 else 1:=by unfold mu;rw[XY he]
  split at h
  next hno=>
   cases h
   have hh:s.h=.no:=by revert hno;cases s.h<;>simp[B8]
   have hP:=q.hp hh;rw[XY hno] at hm;have hv:Qs s.h=false:=by rw[hh];rfl
   have hU:=q.nU;rw[XX (by rw[hv];decide)] at hU;unfold Gy
   cases hl:s.S.getLast? with
   | none=>exact⟨⟨q.h,q.hp,q.P,q.S,q.U,q.D,q.D',q.k0,q.nL,q.nG,q.nU⟩,by rw[hm];show 0<_;omega,FQ⟩
   | some p=>
    have hlen:=E8 hl;have hp:=q.S p (X4 hl)
    cases p with
    | word x=>
     refine⟨⟨q.h,q.hp,q.P,λy hy=>q.S y (Pe hy),λy hy=>?_,q.D,q.D',q.k0,q.nL,q.nG,?_⟩,?_,FQ⟩
     ·rcases XS.mp hy with hy | hy
      ·exact q.U y hy
      ·rw[XQ.mp hy];exact hp
     ·show(((s.U++[x]).length:Nat):Int)+_+(if Qs s.h=true then 6 else 0)<=_;rw[XX (by rw[hv];decide),BX];simp only[List.length_cons,List.length_nil];omega
     ·rw[hm];unfold mu;show(if Bm s.e=true then(if B8 s.h=true then s.S.dropLast.length+2 else _) else _)<_;rw[XY he,XY hno];omega
    | part D t=>
     simp only
     split
     ·refine⟨⟨q.h,q.hp,q.P,λy hy=>q.S y (Pe hy),λy hy=>?_,q.D,q.D',q.k0,q.nL,q.nG,?_⟩,?_,FQ⟩
      ·rcases XS.mp hy with hy | hy
       ·exact q.U y hy
       ·rw[XQ.mp hy];exact XN (Nat.le_of_eq (by decide+kernel:("?":Str).length=1)) (by omega)
      ·show(((s.U++[("?":Str)]).length:Nat):Int)+_+(if Qs s.h=true then 6 else 0)<=_;rw[XX (by rw[hv];decide),BX];simp only[List.length_cons,List.length_nil];omega
      ·rw[hm];unfold mu;show(if Bm s.e=true then(if B8 s.h=true then s.S.dropLast.length+2 else _) else _)<_;rw[XY he,XY hno];omega
     ·have hvt:Qs (.tm t)=false:=hp.2;refine⟨⟨hp.1,λz=>(by cases z),q.P,λy hy=>q.S y (Pe hy),q.U,q.D,q.D',q.k0,q.nL,q.nG,?_⟩,?_,FQ⟩
      ·show _+_+(if Qs (.tm t)=true then 6 else 0)<=_;rw[XX (by rw[hvt];decide)];simp only;omega
      ·rw[hm];unfold mu;show(if Bm s.e=true then(if false=true then _ else if Qs (.tm t)=true then _ else 1) else _)<_;rw[XY he,XX (by decide),XX (by rw[hvt];decide)];omega
  next hno=>
   rw[XX hno] at hm;have hnh:s.h≠.no:=λe=>hno (by rw[e];rfl)
   split at h
   next x hx=>
    cases h
    exact⟨⟨q.h,q.hp,q.P,q.S,q.U,q.D,q.D',q.k0,q.nL,q.nG,q.nU⟩,by rw[hm];show 0<_;split<;>omega,FQ⟩
   next hx=>
    split at h
    next hv=>
     rw[XY hv] at hm;have hU:=q.nU;rw[XY hv] at hU
     split at h
     next hl=>
      cases h
      have hP:=Su hl;obtain⟨c1,c2⟩:=qt (D:=s.w-1) q.h;refine⟨⟨trivial,λ_=>hP,q.P,λy hy=>?_,q.U,q.D,q.D',q.k0,q.nL,q.nG,?_⟩,?_,FQ⟩
      ·rcases XS.mp hy with hy | hy
       ·exact q.S y hy
       ·exact c1 y (List.mem_reverse.mp hy)
      ·show _+(((s.S++(zx s.h (s.w-1)).reverse).length:Nat):Int)+(if false=true then 6 else 0)<=_;rw[XX (by decide),BX,EA];simp only[xn];omega
      ·rw[hm];unfold mu xn;show(if Bm s.e=true then(s.S++(zx s.h (s.w-1)).reverse).length+2 else _)<_;rw[XY he,BX,EA];omega
     next f hl=>
      have hlen:=E8 hl;have hf:=q.P f (X4 hl)
      split at h
      next i hi=>
       cases h
       have hG:=q.nG;refine⟨⟨q.h,λz=>absurd z hnh,λy hy=>q.P y (Pe hy),q.S,q.U,q.D,q.D',q.k0,q.nL,?_,q.nU⟩,?_,FQ⟩
       ·show(((s.G++[nt s "back" i (uT s i)]).length:Nat):Int)+((s.P.dropLast.length:Nat):Int)<=6*s.k;rw[BX];simp only[List.length_cons,List.length_nil];omega
       ·rw[hm];unfold mu tH;show(if Bm s.e=true then(if B8 s.h=true then _ else if Qs s.h=true then s.P.dropLast.length+s.S.length+12 else 1) else _)<_;rw[XY he,XX hno,XY hv];omega
      next hi=>
       split at h
       ·cases h
       ·cases h
        exact⟨⟨q.h,q.hp,q.P,q.S,q.U,q.D,q.D',q.k0,q.nL,q.nG,q.nU⟩,by rw[hm];show 0<_;omega,FQ⟩
    next=>cases h
 next=>cases h
theorem F6:∀(m:Nat) {s:St},Ok d s->mu s<=m->Ok d (B1 m s)/\one (B1 m s)=none/\(B1 m s).k=s.k
 | 0,s,q,hm=>by
  cases h:one s with
  | none=>exact⟨q,h,FQ⟩
  | some s'=>have:=(Ic q h).2.1;omega
 | m+1,s,q,hm=>by
  cases h:one s with
  | none=>unfold B1;rw[h];exact⟨q,h,FQ⟩
  | some s'=>
   obtain⟨q',hl,hk⟩:=Ic q h;have:=F6 m q' (by omega);unfold B1;rw[h];exact⟨this.1,this.2.1,this.2.2.trans hk⟩
open PySem PySem.Spec PyProof.Rows L2 WL
def Zbc {s:St}(he:Bm s.e=true)(h:one s=none):B8 s.h=false/\Sb s.h=none/\(Qs s.h=true->∃f,s.P.getLast?=some f/\Sd f=none/\Qp s.h f=true):=by
 unfold one at h;rw[XY he] at h
 split at h
 ·cases h
 next hno=>
  refine⟨by simpa using hno,?_⟩
  split at h
  ·cases h
  next hs=>
   refine⟨hs,λhv=>?_⟩;rw[XY hv] at h
   split at h
   ·cases h
   next f hl=>
    split at h
    ·cases h
    next hb=>
     split at h
     next hf=>exact⟨f,hl,hb,hf⟩
     ·cases h
set_option tactic.hygienic false
structure ui (d:Nat)(s:St):Prop where
 h:Td s.L.length d s.h
 P:∀f∈s.P,oW s.L.length d f
 S:∀p∈s.S,eX s.L.length d p
 U:∀x∈s.U,x.length<=100
 D:s.D.length=s.L.length
 D':∀t∈s.D,ok s.L.length d [] t
 k0:0<=s.k/\s.k<=1000
 nL:(s.L.length:Int)+5<=5*s.k
 nG:(s.G.length:Int)+(s.P.length:Int)+6<=6*s.k
 nU:(s.U.length:Int)+(s.S.length:Int)+6<=6*s.k+8
def Ok.pre (q:Ok d s)(hk:s.k<1000):ui d {s with k:=s.k+1}:=by
 have h1:=q.k0;have h2:=q.nL;have h3:=q.nG;have h4:=q.nU;refine⟨q.h,q.P,q.S,q.U,q.D,q.D',⟨?_,?_⟩,?_,?_,?_⟩
 ·show 0<=s.k+1;omega
 ·show s.k+1<=1000;omega
 ·show _<=5*(s.k+1);simp only;omega
 ·show _<=6*(s.k+1);simp only;omega
 ·show _<=6*(s.k+1)+8;simp only
  split at h4<;>omega
def Ib {s s':St}(p:ui d s)(new:List Tm)(ha:new.length<=5)(hL:s'.L.length=s.L.length+new.length)(hD:s'.D=s.D++new)(hok:∀t∈new,ok s'.L.length d [] t)(hP:∀f∈s'.P,oW s'.L.length d f)
  (hS:s'.S=s.S) (hU:s'.U=s.U) (hk:s'.k=s.k) (hG:s'.G.length+s'.P.length<=s.G.length+s.P.length+6) (hh:Td s'.L.length d s'.h) (hne:s'.h≠.no):Ok d s':=by
 have h2:=p.nL;have h3:=p.nG;have h4:=p.nU;have hle:s.L.length<=s'.L.length:=by omega
 refine⟨hh,λz=>absurd z hne,hP,λy hy=>(p.S y (hS▸hy)).lift hle,λy hy=>p.U y (hU▸hy),?_,λt ht=>?_,by rw[hk];exact p.k0,?_,?_,?_⟩
 ·rw[hD,BX,hL,p.D]
 ·rw[hD] at ht
  rcases XS.mp ht with ht | ht
  ·exact Xr hle (p.D' t ht) (XE _)
  ·exact hok t ht
 ·rw[hk];omega
 ·rw[hk];omega
 ·rw[hS,hU,hk];split<;>omega
def xY {M:Mn}{x:Str}(h:x∈M.map (·.1)):mo M x≠none:=by
 unfold mo;intro e;rw[Option.map_eq_none_iff,DD] at e;obtain⟨z,hz,rfl⟩:=XR.mp h;exact e z hz (by simp)
def xX (h:mo M x=some i):∃z∈M,z.2=i:=by
 unfold mo at h;obtain⟨z,hz,rfl⟩:=DC.mp h;exact⟨z,EC hz,FQ⟩
def qJ:(Hq s ns).map (·.1)=ns:=by unfold Hq;rw[R9 _ (XE _),CG]
def mW (h:mo (Hq s ns) x=some i):i<s.L.length+ns.length:=by
 obtain⟨z,hz,rfl⟩:=xX h;exact qR (XE _) z hz
def jE {f:Fm}(p:ui d s)(hh:Td s.L.length d h)(hne:h≠.no)(hf:oW s.L.length d f):Ok d (pC s h f):=by
 refine Ib p [] (by simp) FQ (by simp[pC]) (λt ht=>by cases ht) (λy hy=>?_) FQ FQ FQ ?_ hh hne
 ·rcases XS.mp hy with hy | hy
  ·exact p.P y hy
  ·rw[XQ.mp hy];exact hf
 ·show s.G.length+(s.P++[f]).length<=_;rw[List.length_append];simp only[List.length_cons,List.length_nil];omega
def Jx {L d:Nat}(h:ok L (d-1) Γ t):ok L d Γ t:=Xr (XE _) h (by omega)
def ke (p:ui d s)(h:ok s.L.length d [] (.lt n xs ts b)):Ok d (Fj s (.lt n xs ts b)):=by
 obtain⟨h1,⟨h2,h3,h4,h5⟩,h6,h7⟩:=h;have hl:(Ve xs).length=n:=by simp
 obtain⟨b1,b2,b3,b4,b5,b6,b7,b8,b9,b10,b11⟩:=kf (s:=s) (ns:=Ve xs) (Ve xs).length (XE _);have hcov:∀x∈Ve xs++[],mo (Hq s (Ve xs)) x≠none\/x∈([]:List Str):=λx hx=>.inl (xY (by rw[qJ];simpa using hx));have hval:∀x i,mo (Hq s (Ve xs)) x=some i->i<s.L.length+n:=λx i e=>by have:=mW e;rw[hl] at this;exact this
 have hL:(Fj s (.lt n xs ts b)).L.length=s.L.length+n:=by show(bA s (Ve xs) (Ve xs).length).L.length=_;rw[b1,hl]
 refine Ib p ((List.finRange n).map λi=>pu (mo (Hq s (Ve xs))) (ts i)) (by simp;omega) (by rw[hL];simp) FQ (λt ht=>?_) (λy hy=>?_) b5 b6 b7 ?_ ?_ (by intro z;cases z)
 ·obtain⟨i,_,rfl⟩:=XR.mp ht;rw[hL];exact v3 (Xr (by omega) (Jx (h6 i)) (XE _)) hval hcov
 ·rw[hL];have hy':y∈s.P:=by have:(Fj s (.lt n xs ts b)).P=s.P:=b4;rw[this] at hy;exact hy
  exact(p.P y hy').lift (by omega)
 ·show(bA s (Ve xs) (Ve xs).length).G.length+(bA s (Ve xs) (Ve xs).length).P.length<=_;rw[b2,b4,hl];omega
 ·rw[hL];exact v3 (Xr (by omega) (Jx h7) (XE _)) hval hcov
def bf:∃new,(Na s l t).D=s.D++new/\(Na s l t).L.length=s.L.length+new.length/\new.length<=1/\(∀u∈new,u=t)/\(Na s l t).G.length=s.G.length+new.length/\(Na s l t).P=s.P/\(Na s l t).S=s.S/\(Na s l t).U=s.U/\(Na s l t).k=s.k/\((∀i,t=.at_ i->i<s.L.length)->xZ s t<(Na s l t).L.length):=by
 unfold Na
 cases c:kP t with
 | true=>
  rw[XY rfl];refine⟨[],by simp,by simp,by simp,by simp,by simp,FQ,FQ,FQ,FQ,λh=>?_⟩
  cases t<;>first | exact h _ FQ | cases c
 | false=>
  rw[XX (by decide)];refine⟨[t],FQ,?_,by simp,by simp,?_,FQ,FQ,FQ,FQ,λh=>?_⟩
  ·show(s.L++[l]).length=_;simp
  ·show(s.G++[_]).length=_;simp
  ·rw[G3 c];show _<(s.L++[l]).length;simp
theorem cy {s:St}{ts:List Tm}(hts:∀t∈ts,∀i,t=.at_ i->i<s.L.length):∀i,i<=ts.length->∃new,(sA s c ts i).D=s.D++new/\(sA s c ts i).L.length=s.L.length+new.length/\new.length<=i/\(∀u∈new,u∈ts)/\(sA s c ts i).G.length=s.G.length+new.length/\(sA s c ts i).P=s.P/\(sA s c ts i).S=s.S/\(sA s c ts i).U=s.U/\(sA s c ts i).k=s.k/\(mA s c ts i).length=i/\∀j∈mA s c ts i,j<(sA s c ts i).L.length
 | 0,_=>⟨[],by simp[sA],by simp[sA],by simp,by simp,by simp[sA],FQ,FQ,FQ,FQ,FQ,λj hj=>by cases hj⟩
 | i+1,hi=>by
  obtain⟨new,a1,a2,a3,a4,a5,a6,a7,a8,a9,a10,a11⟩:=cy (c:=c) hts i (by omega);have e:ts[i]?=some (ts[i]'(by omega)):=by simp[show i<ts.length by omega]
  have hm:ts[i]'(by omega)∈ts:=YN _;generalize ts[i]'(by omega)=t at e hm;obtain⟨nw,b1,b2,b3,b4,b5,b6,b7,b8,b9,b10⟩:=bf (s:=sA s c ts i) (l:=tQ c (i+1)) (t:=t);have es:sA s c ts (i+1)=Na (sA s c ts i) (tQ c (i+1)) t:=by rw[sA,e]
  have em:mA s c ts (i+1)=mA s c ts i++[xZ (sA s c ts i) t]:=by rw[mA,e]
  rw[es,em];refine⟨new++nw,by rw[b1,a1,YL],by rw[b2,a2,BX];omega,by rw[BX];omega,λu hu=>?_,by rw[b5,a5,BX];omega,b6.trans a6,b7.trans a7,b8.trans a8,b9.trans a9,by rw[BX,a10];rfl,λj hj=>?_⟩
  ·rcases XS.mp hu with hu | hu
   ·exact a4 u hu
   ·rw[b4 u hu];exact hm
  ·rcases XS.mp hj with hj | hj
   ·have:=a11 j hj;rw[b2];omega
   ·rw[XQ.mp hj];exact b10 λk hk=>by have:=hts t hm k hk;rw[a2];omega
def vD {ts:List Tm}(p:ui d s)(hc:cl c)(ha:ts.length=ar c)(h:∀t∈ts,ok s.L.length d [] t):Ok d (Pf s c ts):=by
 have h2:ts.length<=2:=by rw[ha];exact Ay c
 have e1:(Ym s c).L=s.L:=by unfold Ym;split<;>rfl
 have e2:(Ym s c).D=s.D:=by unfold Ym;split<;>rfl
 have e3:(Ym s c).G=s.G:=by unfold Ym;split<;>rfl
 have e4:(Ym s c).P=s.P:=by unfold Ym;split<;>rfl
 have e5:(Ym s c).S=s.S:=by unfold Ym;split<;>rfl
 have e6:(Ym s c).U=s.U:=by unfold Ym;split<;>rfl
 have e7:(Ym s c).k=s.k:=by unfold Ym;split<;>rfl
 obtain⟨new,a1,a2,a3,a4,a5,a6,a7,a8,a9,a10,a11⟩:=cy (s:=Ym s c) (c:=c) (ts:=ts) (λt ht i e=>by rw[e1];have:=h t ht;rw[e] at this;exact this) ts.length (XE _);rw[e1] at a2;rw[e2] at a1;rw[e3] at a5;rw[e4] at a6;have hL:(Pf s c ts).L.length=s.L.length+new.length:=a2;refine Ib p new (by omega) hL a1 (λt ht=>?_) (λy hy=>?_) (a7.trans e5) (a8.trans e6) (a9.trans e7) ?_ ?_ (by intro z;cases z)
 ·rw[hL];exact Xr (by omega) (h t (a4 t ht)) (XE _)
 ·rw[hL];have hy':y∈s.P:=by have:(Pf s c ts).P=s.P:=a6;rw[this] at hy;exact hy
  exact(p.P y hy').lift (by omega)
 ·show(sA (Ym s c) c ts ts.length).G.length+(sA (Ym s c) c ts ts.length).P.length<=_;rw[a5,a6];omega
 ·exact⟨hc,a10.trans ha,a11⟩
def bY (p:ui d s)(h:ok s.L.length d [] t)(hv:Sv t=false)(hs:Sb (.tm t)=none):Ok d (Fj s t):=by
 cases t with
 | nm x=>cases h
 | num v=>cases hv
 | stop x=>cases hs
 | fn x b=>cases hv
 | at_ i=>
  have hi:i<s.D.length:=by rw[p.D];exact h
  have e:s.D[i]?=some (s.D[i]'hi):=by simp[hi]
  refine Ib p [] (by simp) FQ (by simp[Fj]) (λt ht=>by cases ht) (λy hy=>?_) FQ FQ FQ ?_ ?_ (by intro z;cases z)
  ·rcases XS.mp hy with hy | hy
   ·exact p.P y hy
   ·rw[XQ.mp hy];exact h
  ·show(s.G++[_]).length+(s.P++[_]).length<=_;rw[List.length_append,List.length_append];simp only[List.length_cons,List.length_nil];omega
  ·show ok s.L.length d [] ((s.D[i]?).getD (.nm ""));rw[e];exact p.D' _ (YN hi)
 | shp0 c=>exact vD p h.1 h.2.symm (λt ht=>by cases ht)
 | shp2 c a b=>
  refine vD p h.2.1.1 h.2.1.2.symm (λt ht=>?_);simp only[ZM,ZN,or_false] at ht
  rcases ht with rfl | rfl
  ·exact Jx h.2.2.1
  ·exact Jx h.2.2.2
 | does o a b=>exact jE p (Jx h.2.1) (by intro z;cases z) (Jx h.2.2)
 | call a b=>exact jE p (Jx h.2.1) (by intro z;cases z) (Jx h.2.2)
 | first a b=>exact jE (s:={s with f:=s.f+1}) ⟨p.h,p.P,p.S,p.U,p.D,p.D',p.k0,p.nL,p.nG,p.nU⟩ (Jx h.2.1) (by intro z;cases z) (Jx h.2.2)
 | lt n xs ts b=>exact ke p h
 | ch e n cs ns bs=>
  refine jE p (Jx h.2.2.1) (by intro z;cases z) ?_;intro a ha;obtain⟨i,_,rfl⟩:=XR.mp ha;have:=Jx (h.2.2.2 i);rw[YK] at this;exact⟨(h.2.1.2 i).1,(h.2.1.2 i).2,this⟩
def ui.pop {f:Fm}(p:ui d s)(h:s.P.getLast?=some f):ui d {s with P:=s.P.dropLast}:=by
 have hl:=E8 h;have:=p.nG;exact⟨p.h,λy hy=>p.P y (Pe hy),p.S,p.U,p.D,p.D',p.k0,p.nL,by show _+((s.P.dropLast.length:Nat):Int)+6<=_;simp only;omega,p.nU⟩
def vx:Td L d (Uv o x y)/\Uv o x y≠.no:=by
 unfold Uv;have a1:cl "Yes"/\ar "Yes"=0:=by decide+kernel
 have a2:cl "No"/\ar "No"=0:=by decide+kernel
 split
 ·refine⟨?_,by intro z;cases z⟩
  split
  ·exact⟨a1.1,a1.2.symm,λi hi=>by cases hi⟩
  ·exact⟨a2.1,a2.2.symm,λi hi=>by cases hi⟩
 ·split
  ·refine⟨?_,by intro z;cases z⟩
   split
   ·exact⟨a1.1,a1.2.symm,λi hi=>by cases hi⟩
   ·exact⟨a2.1,a2.2.symm,λi hi=>by cases hi⟩
  ·exact⟨⟨YO _ (by decide),CB _ (by decide)⟩,by intro z;cases z⟩
def ue (h:U1 c al=some a):a∈al/\a.1=c:=by
 unfold U1 at h;exact⟨List.mem_of_find?_eq_some h,by simpa using List.find?_some h⟩
def vh {ns:List Str}{ms:List Nat}(hl:ns.length=ms.length){x:Str}(h:x∈ns):mo (ns.zip ms) x≠none:=xY (by rw[FN (by omega)];exact h)
def oY {ns:List Str}{ms:List Nat}{L:Nat}(h:∀i∈ms,i<L){i:Nat}(e:mo (ns.zip ms) x=some i):i<L:=by
 obtain⟨z,hz,rfl⟩:=xX e;exact h _ (DR hz).2
def xF (p:ui d s)(hh:Td s.L.length d h)(hne:h≠.no):Ok d {s with h:=h}:=
 Ib p [] (by simp) FQ (by simp) (λt ht=>by cases ht) p.P FQ FQ FQ (by show s.G.length+s.P.length<=_;omega) hh hne
def vJ (e:isFn h=true):∃x b,h=.tm (.fn x b):=by
 cases h with
 | no=>cases e
 | made c ms=>cases e
 | tm t=>cases t<;>first | exact⟨_,_,FQ⟩ | cases e
def G8 (e:Gp h=true):∃v,h=.tm (.num v):=by
 cases h with
 | no=>cases e
 | made c ms=>cases e
 | tm t=>cases t<;>first | exact⟨_,FQ⟩ | cases e
def vI (e:Qp h (.pick al)=true):∃c ms a,h=.made c ms/\U1 c al=some a:=by
 cases h with
 | no=>cases e
 | tm t=>cases e
 | made c ms=>
  have e':(U1 c al).isSome=true:=e
  cases ha:U1 c al with
  | none=>rw[ha] at e';cases e'
  | some a=>exact⟨c,ms,a,FQ,ha⟩
def dt {f:Fm}(p:ui d s)(hf:oW s.L.length d f)(hb:Sd f=none)(hft:Qp s.h f=true):Ok d (yu s s.h f):=by
 have hh:=p.h
 cases f with
 | give t=>
  obtain⟨x,b,hs⟩:=vJ hft;rw[hs] at hh |-
  ·obtain⟨new,a1,a2,a3,a4,a5,a6,a7,a8,a9,a10⟩:=bf (s:=s) (l:=x) (t:=t);have hN:=a10 λi e=>by have:ok s.L.length d [] t:=hf;rw[e] at this;exact this
   have hL:(yu s (.tm (.fn x b)) (.give t)).L.length=s.L.length+new.length:=a2;refine Ib p new (by omega) hL a1 (λu hu=>?_) (λy hy=>?_) a7 a8 a9 ?_ ?_ (by intro z;cases z)
   ·rw[hL,a4 u hu];exact Xr (by omega) hf (XE _)
   ·rw[hL];have hy':y∈s.P:=by have:(yu s (.tm (.fn x b)) (.give t)).P=s.P:=a6;rw[this] at hy;exact hy
    exact(p.P y hy').lift (by omega)
   ·show(Na s x t).G.length+(Na s x t).P.length<=_;rw[a5,a6];omega
   ·refine v3 (Xr (by show _<=(Na s x t).L.length;omega) (Jx hh.2.2) (XE _)) (λy i e=>?_) (λy hy=>.inl ?_)
    ·obtain⟨z,hz,rfl⟩:=xX e;rw[XQ.mp hz];exact hN
    ·exact xY (by simpa using hy)
 | pick al=>
  obtain⟨c,ms,a,hs,ha⟩:=vI hft;rw[hs] at hh |-;obtain⟨m1,m2⟩:=ue ha;obtain⟨o1,o2,o3⟩:=hf a m1;have hl:a.2.1.length=ms.length:=by rw[o1,m2,hh.2.1]
  show Ok d (match U1 c al with | some a=>{s with h:=.tm (pu (mo (a.2.1.zip ms)) a.2.2)} | none=>s);rw[ha];exact xF p (v3 o3 (λx i e=>oY hh.2.2 e) (λx hx=>.inl (vh hl hx))) (by intro z;cases z)
 | left o t=>
  obtain⟨v,hs⟩:=G8 hft;rw[hs] at hh |-;exact jE p hf (by intro z;cases z) hh
 | right o x=>
  obtain⟨v,hs⟩:=G8 hft;rw[hs] at hh |-;exact xF p vx.1 (vx (L:=0) (d:=0)).2
 | first t=>exact xF p hf (by intro z;cases z)
 | back i=>cases hb
def rh (q:Ok d s)(he:Bm s.e=true)(h1:one s=none)(hk:s.k<1000):Ok d (yv {s with k:=s.k+1}):=by
 obtain⟨d1,d2,d3⟩:=Zbc he h1;have p:=q.pre hk;have e:yv {s with k:=s.k+1}=(if Qs s.h=true then(match s.P.getLast? with | some f=>yu {s with k:=s.k+1,P:=s.P.dropLast} s.h f | none=>{s with k:=s.k+1}) else(match s.h with | .tm t=>Fj {s with k:=s.k+1} t | _=>{s with k:=s.k+1})):=rfl;rw[e];by_cases hv:Qs s.h=true
 ·obtain⟨f,f1,f2,f3⟩:=d3 hv;rw[XY hv,f1];exact dt (p.pop f1) (q.P f (X4 f1)) f2 f3
 ·rw[XX hv];have hh:=q.h;obtain⟨t,hs,hvt⟩:∃t,s.h=.tm t/\Sv t=false:=by
   revert d1 hv
   cases s.h with
   | no=>intro d1;cases d1
   | made c ms=>intro _ hv;exact absurd FQ hv
   | tm t=>
    intro _ hv;exact⟨t,FQ,by simpa[Qs] using hv⟩
  have e2:(match s.h with | .tm t=>Fj {s with k:=s.k+1} t | _=>{s with k:=s.k+1})=Fj {s with k:=s.k+1} t:=by rw[hs]
  rw[e2];rw[hs] at hh d2;exact bY p hh hvt d2
def dW {s:St}{f:Fm}(hv:Qs s.h=true)(hl:s.P.getLast?=some f):yv s=yu {s with P:=s.P.dropLast} s.h f:=by unfold yv;rw[XY hv,hl]
def dX {s:St}(hs:s.h=.tm t)(hv:Sv t=false):yv s=Fj s t:=by
 unfold yv;rw[hs,XX (by show ¬Sv t=true;rw[hv];decide)]
structure Qr (s s':St):Prop where
 g:∃n,s'.G=s.G++n/\∀r∈n,r.k=s.k
 c:s.c<=s'.c
 f:s.f<=s'.f
 k:s'.k=s.k
def Qr.refl (s:St):Qr s s:=⟨⟨[],by simp,λr hr=>by cases hr⟩,Int.le_refl _,Int.le_refl _,FQ⟩
def Qr.trans (a:Qr s s')(b:Qr s' s''):Qr s s'':=by
 obtain⟨n,a1,a2⟩:=a.g;obtain⟨m,b1,b2⟩:=b.g;refine⟨⟨n++m,by rw[b1,a1,YL],λr hr=>?_⟩,Int.le_trans a.c b.c,Int.le_trans a.f b.f,b.k.trans a.k⟩
 rcases XS.mp hr with hr | hr
 ·exact a2 r hr
 ·rw[b2 r hr,a.k]
def Mf {s s':St}(hG:s'.G=s.G)(hc:s'.c=s.c)(hf:s'.f=s.f)(hk:s'.k=s.k):Qr s s':=⟨⟨[],by rw[hG,YK],λr hr=>by cases hr⟩,by omega,by omega,hk⟩
def z9:Qr s (Na s l t)/\(Na s l t).e=s.e:=by
 unfold Na
 split
 ·exact⟨Qr.refl s,FQ⟩
 ·exact⟨⟨⟨_,FQ,λr hr=>by rw[XQ.mp hr];rfl⟩,XW _,XW _,FQ⟩,FQ⟩
theorem rT:∀i,Qr s (sA s c ts i)/\(sA s c ts i).e=s.e
 | 0=>⟨Qr.refl s,FQ⟩
 | i+1=>by
  obtain⟨a,b⟩:=rT (s:=s) (c:=c) (ts:=ts) i;unfold sA
  cases ts[i]? with
  | none=>exact⟨a,b⟩
  | some t=>exact⟨a.trans z9.1,z9.2.trans b⟩
theorem oy:∀i,Qr s (bA s ns i)/\(bA s ns i).e=s.e
 | 0=>⟨Qr.refl s,FQ⟩
 | i+1=>by
  obtain⟨a,b⟩:=oy (s:=s) (ns:=ns) i;unfold bA
  cases ns[i]? with
  | none=>exact⟨a,b⟩
  | some t=>exact⟨a.trans ⟨⟨_,FQ,λr hr=>by rw[XQ.mp hr];rfl⟩,XW _,XW _,FQ⟩,b⟩
def Qr.to {s s' s'':St}(a:Qr s s')(hG:s''.G=s'.G)(hc:s''.c=s'.c)(hf:s''.f=s'.f)(hk:s''.k=s'.k):Qr s s'':=a.trans (Mf hG hc hf hk)
def jk:Qr s (Pf s c ts)/\(Pf s c ts).e=s.e:=by
 have h0:Qr s (Ym s c)/\(Ym s c).e=s.e:=by
  unfold Ym
  split
  ·exact⟨⟨⟨[],by simp,λr hr=>by cases hr⟩,by show s.c<=s.c+1;omega,Int.le_refl _,FQ⟩,FQ⟩
  ·exact⟨Qr.refl s,FQ⟩
 obtain⟨a,b⟩:=rT (s:=Ym s c) (c:=c) (ts:=ts) ts.length;exact⟨(h0.1.trans a).to FQ FQ FQ FQ,b.trans h0.2⟩
def fY:Qr s (Fj s t)/\(Fj s t).e=s.e:=by
 cases t with
 | lt n xs ts b=>
  obtain⟨a,b'⟩:=oy (s:=s) (ns:=Ve xs) (Ve xs).length;exact⟨a.to FQ FQ FQ FQ,b'⟩
 | shp0 c=>exact jk
 | shp2 c a b=>exact jk
 | at_ i=>exact⟨⟨⟨_,FQ,λr hr=>by rw[XQ.mp hr];rfl⟩,XW _,XW _,FQ⟩,FQ⟩
 | first a b=>exact⟨⟨⟨[],by simp[Fj,pC],λr hr=>by cases hr⟩,Int.le_refl _,by show s.f<=s.f+1;omega,FQ⟩,FQ⟩
 | _=>exact⟨Mf FQ FQ FQ FQ,FQ⟩
def sH {f:Fm}:Qr s (yu s h f)/\(yu s h f).e=s.e:=by
 cases f with
 | give t=>
  cases h with
  | no=>exact⟨Qr.refl s,FQ⟩
  | made c ms=>exact⟨Qr.refl s,FQ⟩
  | tm u=>
   cases u with
   | fn x b=>exact⟨z9.1.to FQ FQ FQ FQ,z9.2⟩
   | _=>exact⟨Qr.refl s,FQ⟩
 | pick al=>
  cases h with
  | no=>exact⟨Qr.refl s,FQ⟩
  | tm u=>exact⟨Qr.refl s,FQ⟩
  | made c ms=>
   have e:yu s (.made c ms) (.pick al)=(match U1 c al with | some a=>{s with h:=.tm (pu (mo (a.2.1.zip ms)) a.2.2)} | none=>s):=rfl;rw[e]
   cases U1 c al with
   | some a=>exact⟨Mf FQ FQ FQ FQ,FQ⟩
   | none=>exact⟨Qr.refl s,FQ⟩
 | left o t=>
  cases h with
  | no=>exact⟨Qr.refl s,FQ⟩
  | made c ms=>exact⟨Qr.refl s,FQ⟩
  | tm u=>
   cases u with
   | num v=>exact⟨Mf FQ FQ FQ FQ,FQ⟩
   | _=>exact⟨Qr.refl s,FQ⟩
 | right o x=>
  cases h with
  | no=>exact⟨Qr.refl s,FQ⟩
  | made c ms=>exact⟨Qr.refl s,FQ⟩
  | tm u=>
   cases u with
   | num v=>exact⟨Mf FQ FQ FQ FQ,FQ⟩
   | _=>exact⟨Qr.refl s,FQ⟩
 | first t=>exact⟨Mf FQ FQ FQ FQ,FQ⟩
 | back i=>exact⟨Qr.refl s,FQ⟩
def vo:Qr s (yv s)/\(yv s).e=s.e:=by
 unfold yv
 split
 ·split
  ·exact⟨(Mf (s:=s) (s':={s with P:=s.P.dropLast}) FQ FQ FQ FQ).trans sH.1,sH.2⟩
  ·exact⟨Qr.refl s,FQ⟩
 ·split
  ·exact fY
  ·exact⟨Qr.refl s,FQ⟩
open PySem PySem.Spec PyProof.Rows L2 WL
def lg {v:Int}(h0:0<=v)(h1:v<big):v.natAbs.log2<1920:=by
 have h2:v.natAbs<2^64:=by simp only[big] at h1;omega
 have:v.natAbs.log2<64:=by
  by_cases c:v.natAbs=0
  ·rw[c];decide
  ·exact(Nat.log2_lt c).mpr h2
 omega
def lF {i n:Nat}:J8 (Ax i) (n+1)=true:=Pj λx hx=>by
 simp only[ZM,ZN,or_false] at hx
 rcases hx with rfl | rfl
 ·exact Jd
 ·exact Pk
def vO {ms:List Nat}:Y9 (.tup (ms.map Ax)):=Pj λx hx=>by obtain⟨i,_,rfl⟩:=XR.mp hx;exact lF
def pK {ms:List Nat}{Q:WK}{b:Bool}(hb:ms.isEmpty=b)(q:Q (.bl b) C):Fy false (.tup (ms.map Ax)) (.tup []) C Q:=by
 refine⟨vO,vO (ms:=[]),?_⟩;have e:WL.eqT (.tup (ms.map Ax)) (.tup [])=b:=by
  subst hb;unfold WL.eqT
  cases ms with
  | nil=>unfold Tc;rfl
  | cons a r=>rw[YI];unfold Tc;rfl
 rw[e];exact q
section
variable {A:Ad}{C:Hw}{s:St}{Q:WK}{χ:WX}{n d:Nat}
def rE (hv:Qs h=true)(ho:Td L d h)(q:∀p C',C p=none->Ex C C'->C' p=some (.lst ((zx h D).map Cy))->Q (.ref p) C'):Z4 pr (n+1) jz [hT h,.int D] C Q χ:=by
 refine yB FQ ?_
 cases h with
 | no=>cases hv
 | tm t=>
  cases t with
  | num v=>
   refine qY FQ FQ ?_;exact⟨_,FQ,_,Z1,.inl ⟨v,FQ,lg ho.1 ho.2,ZNB FQ,λp hp=>q p _ hp (Ex.new hp) Zh⟩⟩
  | fn x b=>
   refine qZ FQ (by decide+kernel) (qY FQ FQ ?_);exact⟨ZNB FQ,λp hp=>q p _ hp (Ex.new hp) Zh⟩
  | _=>cases hv
 | made c ms=>
  refine qZ FQ (by decide+kernel) (qZ FQ (by decide+kernel) ?_);refine⟨_,FQ,_,Y2,XO _,?_⟩;obtain⟨⟨o0,o1⟩,o2,o3⟩:=ho;have hl:ms.length<=2:=by rw[o2];exact Ay c
  have hc1:("(":Str).length=1:=by decide+kernel
  cases hm:ms with
  | nil=>
   refine pK (ms:=[]) FQ ⟨true,FQ,Z5 ?_⟩;rw[hm] at q;exact⟨_,FQ,_,Z1,ZNB FQ,λp hp=>q p _ hp (Ex.new hp) Zh⟩
  | cons a r=>
   rw[<-hm];refine pK (ms:=ms) (by rw[hm];rfl) ⟨false,FQ,Zq ?_⟩;refine⟨_,FQ,_,Z1,Ya (by omega),ZNB FQ,λp hp=>?_⟩;refine⟨_,FQ,_,Y2,?_⟩;have ep:zx (.made c ms) D=.word ("("++c)::(ms.flatMap λi=>[.word " ",.part D (.at_ i)])++[.word ")"]:=by rw[hm];rfl
   rw[ep] at q;refine Wb (λi τ C'=>∃x3,τ=[some (.tup [.str "made",.str c,.tup (ms.map Ax)]),some (.int D),some (.ref p),x3]/\Ex C C'/\C' p=some (.lst ((.word ("("++c)::((ms.take i).flatMap λi=>[.word " ",.part D (.at_ i)])).map Cy))) ⟨none,FQ,Ex.new hp,Zh⟩ (λ_ _ _ _ _=>trivial) ?_ ?_
   ·rintro i y τ C' N hy ⟨x3,rfl,hE,hC⟩ hN;rw[XM] at hy
    cases hi:ms[i]? with
    | none=>rw[hi] at hy;cases hy
    | some m=>
     rw[hi] at hy
     cases hy
     have hil:i<ms.length:=(BW.mp hi).1;refine⟨_,FQ,⟨_,_,FQ,hC⟩,_,FQ,_,FQ,ZNB FQ,ZNB FQ,λp2 hp2=>?_⟩;have hne:p≠p2:=cne hC hp2;refine⟨_,_,_,_,FQ,FQ,by rw[Zn hne];exact hC,Zh,Ya ?_,hN _ _ ⟨_,FQ,?_,?_⟩⟩
     ·have:((ms.take i).flatMap λi=>[Pc.word " ",.part D (.at_ i)]).length<=2*2:=by
       match ms,hl with
       | [],_=>simp
       | [a],_=>cases i<;>simp
       | [a,b],_=>match i with | 0=>simp | 1=>simp | k+2=>simp
      simp only[List.length_map,List.length_cons,List.length_nil];omega
     ·exact(hE.trans (Ex.new hp2)).up hp
     ·rw[Zh,YD,hi,List.flatMap_append,<-List.cons_append,XL];rfl
   ·rintro τ C' ⟨x3,rfl,hE,hC⟩;rw[XI,CG] at hC;refine⟨_,FQ,ZNB FQ,λp2 hp2=>?_⟩;have hne:p≠p2:=cne hC hp2;refine⟨_,_,by rw[Zn hne];exact hC,Zh,Ya ?_,λp3 hp3=>?_⟩
    ·have:(ms.flatMap λi=>[Pc.word " ",.part D (.at_ i)]).length<=2*2:=by
      match ms,hl with
      | [],_=>simp
      | [a],_=>simp
      | [a,b],_=>simp
     simp only[List.length_map,List.length_cons,List.length_nil];omega
    ·obtain⟨n32,hp3'⟩:=xq hp3;refine q p3 _ (hE.free hp3') ((hE.trans (Ex.new hp2)).trans (Ex.new hp3)) ?_;rw[Zh,XL];rfl
def zm (di:Di A)(R:Rn A C s)(hv:Qs s.h=true)(ho:Td s.L.length d s.h)(hS:s.S.length<=90000)(q:∀C',Fr A C C'->Rn A C' (xn s)->Q .non C'):Z4 pr (n+2) Oo [.ref (A 0)] C Q χ:=by
 refine Oi FQ ?_;refine⟨_,FQ,_,_,_,_,FQ,R.r,.head _,E7,⟨_,_,FQ,R.ps⟩,_,FQ,_,_,_,_,FQ,R.r,.head _,To,?_⟩;refine⟨_,FQ,_,_,_,_,FQ,R.r,.head _,uR,?_⟩;dsimp only[Wp,eC,Zy];refine rE (n:=n) hv ho λp C1 hp hE hp1=>?_;have R1:=R.ex hE;have hl6:=(qt (D:=s.w-1) ho).2;refine⟨_,_,FQ,hp1,λp2 hp2=>?_⟩;have R2:=R1.ex (Ex.new (o:=.lst ((zx s.h (s.w-1)).map Cy).reverse) hp2);refine⟨_,_,_,_,FQ,FQ,R2.ps,Zh,Ya (by rw[XI,EA,XI];omega),?_⟩;have e:s.S.map Cy++((zx s.h (s.w-1)).map Cy).reverse=(s.S++(zx s.h (s.w-1)).reverse).map Cy:=by rw[XL,List.map_reverse]
 rw[e];have R3:=R2.s2 di (s.S++(zx s.h (s.w-1)).reverse);refine gs (χ:=χ) (V1 (h:=.no)) R3 ?_;exact q _ (((Ex.fr (hE.trans (Ex.new hp2))).up 2).up 0) (R3.s0 di _)
def Za1:Hu "str" "str"=true:=by decide+kernel
def Za0:Hu "tuple" "str"=false:=by decide+kernel
def Zb8:aN (.bl (Hu "str" "str")) c true:=by rw[Za1];rfl
def Zb7:aN (.bl (Hu "tuple" "str")) c false:=by rw[Za0];rfl
def Fc {c:Hw}{xs:List T}{b:Bool}(hb:xs.isEmpty=b)(h1:c a=some (.lst xs))(h2:c p=some (.lst []))(q:Q (.bl b) c):Fy false (.ref a) (.ref p) c Q:=by
 refine⟨_,_,h1,h2,λh=>?_,?_⟩
 ·have:xs=[]:=List.length_eq_zero_iff.mp h;subst this;exact⟨by unfold Jv;rfl,by unfold Jv;rfl⟩
 ·have e:Tc xs []=b:=by
   subst hb
   cases xs with
   | nil=>unfold Tc;rfl
   | cons a r=>unfold Tc;rfl
  rw[e];exact q
def vG {xs:List Str}(h:∀x∈xs,x.length<=100):(xs.map (·.length)).sum<=100*xs.length:=by
 induction xs with
 | nil=>simp
 | cons a r ih=>
  have h1:=h a (by simp);have h2:=ih λx hx=>h x (by simp[hx]);rw[YI,List.sum_cons,YF];omega
def yS (di:Di A)(R:Rn A C s)(hU:∀x∈s.U,x.length<=100)(hl:s.U.length<=9000)(q:∀C',Fr A C C'->Rn A C' (Gy s)->Q .non C'):Z4 pr (n+1) Mc [.ref (A 0)] C Q χ:=by
 refine Nz FQ ?_;refine⟨_,FQ,_,_,_,_,FQ,R.r,.head _,E7,XO _,λp hp=>?_⟩;have R1:=R.ex (Ex.new (o:=.lst []) hp);have F1:Fr A C (up C p (.lst [])):=Ex.fr (Ex.new hp)
 cases hs:s.S.getLast? with
 | none=>
  have e0:=Su hs;have et:Gy s={s with e:=.told (Txt.join "" s.U)}:=by unfold Gy;rw[hs]
  rw[et] at q;refine Fc (b:=true) (by rw[e0];rfl) R1.ps Zh ⟨true,FQ,Z5 ?_⟩;have hj:=vG hU;refine⟨⟨_,FQ⟩,_,FQ,_,_,_,_,FQ,R1.r,.head _,zJ,_,_,s.U,FQ,FQ,R1.pt,XO _,by omega,ZNB FQ,?_⟩;refine gs (χ:=χ) (Ia (e:=.told (Txt.join "" s.U))) R1 ?_;exact q _ (F1.up 0) (R1.s0 di _)
 | some y=>
  have sp:=Wj hs;generalize s.S.dropLast=S' at sp;have eS:s.S.map Cy=S'.map Cy++[Cy y]:=by rw[sp,XL];rfl
  have hne:(s.S.map Cy).isEmpty=false:=by rw[eS];simp
  refine Fc hne R1.ps Zh ⟨false,FQ,Zq ?_⟩;have hps:=R1.ps;rw[eS] at hps;refine⟨_,FQ,_,_,_,_,FQ,R1.r,.head _,E7,⟨_,_,FQ,hps⟩,_,_,_,FQ,FQ,hps,(by simp:(S'.map Cy++[Cy y])[(S'.map Cy++[Cy y]).length-1]?=some (Cy y)),?_⟩;have ed:(S'.map Cy++[Cy y]).dropLast=S'.map Cy:=by simp
  rw[ed];have R2:=R1.s2 di S';have F2:=F1.up 2 (o:=.lst (S'.map Cy));have edl:s.S.dropLast=S':=by rw[sp];simp
  cases y with
  | word x=>
   have et:Gy s={s with S:=S',U:=s.U++[x]}:=by unfold Gy;rw[hs];simp only;rw[edl]
   rw[et] at q;refine⟨_,FQ,_,FQ,true,Zb8,Z5 ?_⟩;refine⟨_,FQ,_,_,_,_,FQ,R2.r,.head _,zJ,⟨_,_,FQ,R2.pt⟩,_,FQ,_,_,_,FQ,FQ,R2.pt,Yc (by rw[XI];show s.U.length<=_;omega),?_⟩;have e:s.U.map T.str++[.str x]=(s.U++[x]).map T.str:=by rw[XL];rfl
   have:=q _ (F2.up 3) (R2.s3 di (s.U++[x]));rw[<-e] at this;exact this
  | part D t=>
   refine⟨_,FQ,_,FQ,false,Zb7,Zq ?_⟩;refine⟨_,FQ,_,Zo,decide (D<=0),FQ,?_⟩;by_cases c:D<=0
   ·have et:Gy s={s with S:=S',U:=s.U++[("?":Str)]}:=by unfold Gy;rw[hs];simp only;rw[if_pos c,edl]
    rw[et] at q;refine Lo (decide_eq_true c) ?_;refine⟨_,FQ,_,_,_,_,FQ,R2.r,.head _,zJ,⟨_,_,FQ,R2.pt⟩,_,_,_,FQ,FQ,R2.pt,Yc (by rw[XI];show s.U.length<=_;omega),?_⟩;have e:s.U.map T.str++[.str "?"]=(s.U++[("?":Str)]).map T.str:=by rw[XL];rfl
    have:=q _ (F2.up 3) (R2.s3 di (s.U++[("?":Str)]));rw[<-e] at this;exact this
   ·have et:Gy s={s with S:=S',w:=D,h:=.tm t}:=by unfold Gy;rw[hs];simp only;rw[if_neg c,edl]
    rw[et] at q;refine Lp (YG c) ?_;refine⟨_,FQ,_,Zo,?_⟩;refine gs (χ:=χ) (u8 (x:=D)) R2 ?_;have R3:=R2.s0 di {s with S:=S',w:=D};refine⟨_,FQ,_,Z1,?_⟩;refine gs (χ:=χ) (V1 (h:=.tm t)) R3 ?_;exact q _ ((F2.up 0).up 0) (R3.s0 di _)
def fA {τ:Sw}{K:Bool->Hw->Prop}(R:Rn A C s)(q:K (Bm s.e) C):O4 (Y1 sG (wK HN "ending" (Z6 0)) (eC (.non))) (some (.ref (A 0))::τ) C K χ:=by
 refine⟨_,FQ,_,_,_,_,FQ,R.r,.head _,Oc,FQ,_,FQ,?_⟩;have e:(match eT s.e with | .non=>true | _=>false)=Bm s.e:=by cases s.e<;>rfl
 rw[<-e] at q;exact q
def Za6 {τ:Sw}{K:Bool->Hw->Prop}(R:Rn A C s)(q:K (B8 s.h) C):O4 (Y1 sG (wK HN "hand" (Z6 0)) (eC (.non))) (some (.ref (A 0))::τ) C K χ:=by
 refine⟨_,FQ,_,_,_,_,FQ,R.r,.head _,To,FQ,_,FQ,?_⟩;have e:(match hT s.h with | .non=>true | _=>false)=B8 s.h:=by
  cases s.h with
  | no=>rfl
  | made c ms=>rfl
  | tm t=>cases t<;>rfl
 rw[<-e] at q;exact q
def dY {r:List T}(e:hT h=.tup (.str w::r)):(w=="stop")=(Sb h).isSome:=by
 cases h with
 | no=>cases e
 | made c ms=>unfold hT at e;injection e with e;injection e with e _;injection e with e;subst e;show _=false;decide+kernel
 | tm t=>cases t<;>(unfold hT tt at e;injection e with e;injection e with e _;injection e with e;subst e;first | (show _=false;decide+kernel) | (show _=true;decide+kernel))
def Zbj {f:Fm}:∃w r,Gv f=.tup (.str w::r)/\(w=="back")=(Sd f).isSome:=by
 cases f<;>exact⟨_,_,FQ,by first | (show _=false;decide+kernel) | (show _=true;decide+kernel)⟩
def tY {P:Calls}{τ:Sw}{D:We}(R:Rn A C s)(hm:(Fs A s).lookup m=none)(q:P i [.ref (A 0)] C (λ_ C1=>D.nx (some (.ref (A 0))::τ) C1) D.xc):Q8 (pQ P [("Runner",i)] m (Z6 0) Zy) D (some (.ref (A 0))::τ) C:=
 ⟨_,FQ,_,_,_,_,FQ,R.r,N3,hm,q⟩
def N8 (he:Bm s.e=true)(hno:B8 s.h=true):one s=some (Gy s):=by unfold one;rw[XY he,XY hno]
def qy (he:Bm s.e=true)(hno:B8 s.h=false)(hst:Sb s.h=some x):one s=some {s with e:=.stop x}:=by
 unfold one;rw[XY he,XX (by rw[hno];decide),hst]
def q8 (he:Bm s.e=true)(hno:B8 s.h=false)(hst:Sb s.h=none)(hv:Qs s.h=false):one s=none:=by
 unfold one;rw[XY he,XX (by rw[hno];decide),hst];exact XX (by rw[hv];decide)
def kI (he:Bm s.e=true)(hno:B8 s.h=false)(hst:Sb s.h=none)(hv:Qs s.h=true):one s=(match s.P.getLast? with | none=>some (xn s) | some f=>match Sd f with | some i=>some (tH s i) | none=>if Qp s.h f=true then none else some {s with e:=.stuck}):=by
 unfold one;rw[XY he,XX (by rw[hno];decide),hst];exact XY hv
def qx (h1:one s=(match s.P.getLast? with | none=>some (xn s) | some f=>match Sd f with | some i=>some (tH s i) | none=>if Qp s.h f=true then none else some {s with e:=.stuck}))(hl:s.P.getLast?=none):one s=some (xn s):=by rw[h1,hl]
def qB {f:Fm}(h1:one s=(match s.P.getLast? with | none=>some (xn s) | some f=>match Sd f with | some i=>some (tH s i) | none=>if Qp s.h f=true then none else some {s with e:=.stuck}))(hl:s.P.getLast?=some f)(hb:Sd f=some i):one s=some (tH s i):=by
 rw[h1,hl];show(match Sd f with | some i=>_ | none=>_)=_;rw[hb]
def qA {f:Fm}(h1:one s=(match s.P.getLast? with | none=>some (xn s) | some f=>match Sd f with | some i=>some (tH s i) | none=>if Qp s.h f=true then none else some {s with e:=.stuck}))(hl:s.P.getLast?=some f)(hb:Sd f=none)(hf:Qp s.h f=true):one s=none:=by
 rw[h1,hl];show(match Sd f with | some i=>_ | none=>_)=_;rw[hb];exact XY hf
def qz {f:Fm}(h1:one s=(match s.P.getLast? with | none=>some (xn s) | some f=>match Sd f with | some i=>some (tH s i) | none=>if Qp s.h f=true then none else some {s with e:=.stuck}))(hl:s.P.getLast?=some f)(hb:Sd f=none)(hf:Qp s.h f=false):one s=some {s with e:=.stuck}:=by
 rw[h1,hl];show(match Sd f with | some i=>_ | none=>_)=_;rw[hb];exact XX (by rw[hf];decide)
def yU (di:Di A)(R:Rn A C s)(o:Ok d s)(q:∀C',Fr A C C'->Rn A C' (Jl s)->Q .non C'):Z4 pr (n+4) Gu [.ref (A 0)] C Q χ:=by
 refine Gn FQ ?_;unfold Jl at q;generalize hX:B1 (mu s) s=X at q;refine Sh (λm τ C'=>τ=[some (.ref (A 0))]/\∃s',Rn A C' s'/\Ok d s'/\Fr A C C'/\mu s'<=m/\B1 m s'=X) (m:=mu s) ⟨FQ,s,R,o,Fr.refl _ _,XE _,hX⟩ ?_;rintro m τ C' N ⟨rfl,s',R',o',hF,hm,hx⟩ hN;have nxt:∀s2 C2,one s'=some s2->Rn A C2 s2->Fr A C' C2->N [some (.ref (A 0))] C2:=λs2 C2 h1 R2 F2=>by
  obtain⟨o2,l2,_⟩:=Ic o' h1;obtain⟨m1,rfl⟩:∃m1,m=m1+1:=⟨m-1,by omega⟩;refine hN m1 _ _ (by omega) ⟨FQ,s2,R2,o2,hF.trans F2,by omega,?_⟩;unfold B1 at hx;rw[h1] at hx;exact hx
 have fin:∀C2,one s'=none->Ex C' C2->Q .non C2:=λC2 h1 E2=>by
  have e:B1 m s'=s':=by cases m with | zero=>rfl | succ m1=>unfold B1;rw[h1]
  rw[e] at hx;subst hx;exact q C2 (hF.ex E2) (R'.ex E2)
 have b1:=o'.nU;have b2:=o'.k0;have b3:=o'.nG;have hS9:s'.S.length<=90000:=by split at b1<;>omega
 have hU9:s'.U.length<=9000:=by split at b1<;>omega
 have hG9:s'.G.length<=90000:=by omega
 refine fA R' ?_
 cases he:Bm s'.e with
 | false=>
  refine Zq (fin C' ?_ (Ex.refl _));unfold one;rw[XX (by rw[he];decide)]
 | true=>
  refine Z5 (Za6 R' ?_)
  cases hno:B8 s'.h with
  | true=>
   refine Z5 (tY R' jm ?_);exact yS (n:=n+2) di R' o'.U hU9 λC2 F2 R2=>nxt _ C2 (N8 he hno) R2 F2
  | false=>
   refine Zq ?_;have hnh:s'.h≠.no:=λe=>by rw[e] at hno;cases hno
   obtain⟨w,r,ew⟩:=wD hnh;have lk':(Fs A s').lookup ("hand":Str)=some (.tup (.str w::r)):=by rw[<-ew];rfl
   refine⟨_,FQ,_,_,_,_,FQ,R'.r,.head _,lk',_,Zo,Zx (dY ew) ⟨_,FQ,?_⟩⟩
   cases hst:Sb s'.h with
   | some x=>
    refine Z5 ?_;have eh:s'.h=.tm (.stop x):=by
     revert hst
     cases s'.h with
     | no=>intro z;cases z
     | made c ms=>intro z;cases z
     | tm t=>cases t<;>intro z<;>first | (cases z;rfl) | cases z
    have lk2:(Fs A s').lookup ("hand":Str)=some (.tup [.str "stop",.str x]):=by rw[To,eh];rfl
    refine⟨_,FQ,_,_,_,_,FQ,R'.r,.head _,lk2,_,Z1,ZNB FQ,?_⟩;refine gs (χ:=χ) (Ia (e:=.stop x)) R' ?_;exact nxt _ _ (qy he hno hst) (R'.s0 di _) ((Fr.refl _ _).up 0)
   | none=>
    refine Zq ?_;refine⟨_,FQ,_,_,_,_,FQ,R'.r,.head _,To,?_⟩;dsimp only[Zy];refine El (n:=n+2) hnh ⟨_,FQ,?_⟩
    cases hv:Qs s'.h with
    | false=>
     exact Z5 (fin C' (q8 he hno hst hv) (Ex.refl _))
    | true=>
     refine Zq ?_;refine⟨_,FQ,_,_,_,_,FQ,R'.r,.head _,Lk,XO _,λp hp=>?_⟩;have E1:Ex C' (up C' p (.lst [])):=Ex.new hp;have R1:=R'.ex E1;have one1:=kI he hno hst hv
     cases hl:s'.P.getLast? with
     | none=>
      have e0:=Su hl;refine Fc (b:=true) (by rw[e0];rfl) R1.pp Zh ⟨true,FQ,Z5 ?_⟩;refine tY R1 zG ?_;exact zm (n:=n+1) di R1 hv o'.h hS9 λC2 F2 R2=>nxt _ C2 (qx one1 hl) R2 ((Ex.fr E1).trans F2)
     | some f=>
      have sp:=Wj hl;generalize hP':s'.P.dropLast=P' at sp;have eP:s'.P.map Gv=P'.map Gv++[Gv f]:=by rw[sp,XL];rfl
      refine Fc (b:=false) (by rw[eP];simp) R1.pp Zh ⟨false,FQ,Zq ?_⟩;have hpp:=R1.pp;rw[eP] at hpp;have atL:Sg (P'.map Gv++[Gv f]) (-1)=some (Gv f):=Zct;obtain⟨wf,rf,ef,hbk⟩:=Zbj (f:=f);refine⟨_,FQ,_,_,_,_,FQ,R1.r,.head _,Lk,_,_,hpp,atL,?_⟩;rw[ef];refine⟨_,Zo,Zx hbk ⟨_,FQ,?_⟩⟩
      cases hb:Sd f with
      | some i=>
       refine Z5 ?_;have eb:f=.back i:=by
        revert hb
        cases f<;>intro z<;>first | (cases z;rfl) | cases z
       subst eb;have hfo:=o'.P _ (X4 hl);have hil:i<s'.L.length:=hfo;have hj:s'.L[i]?=some (uT s' i):=by unfold uT;simp[hil]
       refine⟨_,FQ,_,_,_,_,FQ,R1.r,N3,jr,_,FQ,_,_,_,_,FQ,R1.r,N3,Lh,?_⟩;dsimp only[Zy];refine Le (n:=n+2) (P:=P') (f:=.back i) di R1 sp λC2 F2 R2=>⟨_,Z1,?_⟩;refine yW (n:=n+1) (j:=i) (l:=uT s' i) di R2 hj (by show s'.G.length<=_;omega) λC3 F3 R3=>?_;refine nxt (tH s' i) C3 (qB one1 hl FQ) ?_ ((Ex.fr E1).trans (F2.trans F3));unfold tH;rw[hP'];exact R3
      | none=>
       refine Zq ?_;refine⟨_,FQ,_,_,_,_,FQ,R1.r,.head _,To,_,FQ,_,_,_,_,FQ,R1.r,.head _,Lk,_,_,hpp,atL,?_⟩;dsimp only[Zy];refine iQ (n:=n+1) hnh ⟨_,FQ,?_⟩
       cases hft:Qp s'.h f with
       | true=>
        exact Z5 (fin _ (qA one1 hl hb hft) E1)
       | false=>
        refine Zq ?_;refine⟨ZNB FQ,?_⟩;refine gs (χ:=χ) (Ia (e:=.stuck)) R1 ?_;exact nxt _ _ (qz one1 hl hb hft) (R1.s0 di _) ((Ex.fr E1).up 0)
end
open PySem PySem.Spec PyProof.Rows L2 WL
section
variable {A:Ad}{C:Hw}{s:St}{Q:WK}{χ:WX}{n d:Nat}
def nk {r:List T}{X Y:WS}{τ:Sw}(h2:τ[2]?=some (some (.tup (.str a::r))))(q:X D τ C):xo (O4 (Y1 Hk (Y1 Tz (Z6 2) (eC (.int 0))) (eC (.str a)))) X Y D τ C:=⟨_,h2,_,Zo,Zx (v:=true) (XU _) ⟨true,FQ,Z5 q⟩⟩
def Cf {a z:Str}{r:List T}{X Y:WS}{τ:Sw}(h2:τ[2]?=some (some (.tup (.str z::r))))(hn:(z==a)=false)(q:Y D τ C):xo (O4 (Y1 Hk (Y1 Tz (Z6 2) (eC (.int 0))) (eC (.str a)))) X Y D τ C:=⟨_,h2,_,Zo,Zx (v:=false) hn ⟨false,FQ,Zq q⟩⟩
def xC {X Y:WS}{τ:Sw}(h2:τ[2]?=some (some (.str a)))(q:X D τ C):xo (O4 (Y1 Hk (Z6 2) (eC (.str a)))) X Y D τ C:=⟨_,h2,Zx (v:=true) (XU _) ⟨true,FQ,Z5 q⟩⟩
def Vg {a z:Str}{X Y:WS}{τ:Sw}(h2:τ[2]?=some (some (.str z)))(hn:(z==a)=false)(q:Y D τ C):xo (O4 (Y1 Hk (Z6 2) (eC (.str a)))) X Y D τ C:=⟨_,h2,Zx (v:=false) hn ⟨false,FQ,Zq q⟩⟩
def yR {f:Fm}(di:Di A)(R:Rn A C s)(p:ui d s)(hf:oW s.L.length d f)(hb:Sd f=none)(hft:Qp s.h f=true)(q:∀C',Fr A C C'->Rn A C' (yu s s.h f)->Q .non C'):Z4 pr (n+d+8) Mb [.ref (A 0),hT s.h,Gv f] C Q χ:=by
 refine Ny FQ ?_;have hh:=p.h;have b1:=p.k0;have b2:=p.nL;have b3:=p.nG;have hL9:s.L.length<=90000:=by omega
 have hG9:s.G.length<=90000:=by omega
 have hP9:s.P.length<=90000:=by omega
 cases f with
 | give t=>
  obtain⟨x,b,hs⟩:=vJ hft;rw[hs] at hh q |-
  ·skip
   refine nk FQ ?_;refine⟨_,FQ,_,_,_,_,FQ,R.r,N3,Ew,_,FQ,_,Z1,_,FQ,_,Z1,?_⟩;dsimp only[Zy];refine Ej (n:=n+d+4) (l:=x) (t:=t) di R p.D (by omega) (by omega) λC1 F1 R1=>?_;refine⟨_,FQ,_,Y2,λa ha=>⟨_,FQ,_,Z1,_,FQ,_,FQ,Zh,?_⟩⟩;dsimp only[Zy];have E2:∀o,Ex C1 (up (up C1 a (.dic [])) a o):=λo=>(Ex.new ha).up ha;have hpu:=zu (M:=[(x,xZ s t)]) (Jx hh.2.2);refine PT.put (n:=n) (f:=d+2) (M:=mT [(x,xZ s t)]) (t':=tt (pu (mo [(x,xZ s t)]) b)) (hpu.mono (Nat.le_succ _)).1 hpu.2.2 (.inl Zh) λC3 E3=>?_;have R3:=(R1.ex (E2 _)).ex E3;refine gs (χ:=χ) (V1 (h:=.tm (pu (mo [(x,xZ s t)]) b))) R3 ?_;exact q _ (((F1.ex (E2 _)).ex E3).up 0) (R3.s0 di _)
 | pick al=>
  obtain⟨c,ms,a,hs,ha⟩:=vI hft;rw[hs] at hh q |-
  ··skip
    obtain⟨m1,m2⟩:=ue ha;obtain⟨o1,o2,o3⟩:=hf a m1;have hl:a.2.1.length=ms.length:=by rw[o1,m2,hh.2.1]
    have eu:yu s (.made c ms) (.pick al)={s with h:=.tm (pu (mo (a.2.1.zip ms)) a.2.2)}:=by
     show(match U1 c al with | some a=>{s with h:=.tm (pu (mo (a.2.1.zip ms)) a.2.2)} | none=>s)=_;rw[ha]
    rw[eu] at q;refine Cf FQ (by decide+kernel) (nk FQ ?_);refine⟨_,FQ,_,FQ,_,Z1,?_⟩;dsimp only[Zy];have hpu:=zu (M:=a.2.1.zip ms) o3;refine rF (n:=n) (f:=d+1) (B':=tt (pu (mo (a.2.1.zip ms)) a.2.2)) ha hl (by have:=Ay a.1;omega) o2 hpu.1 hpu.2.2 λC3 E3=>?_;have R3:=R.ex E3;refine gs (χ:=χ) (V1 (h:=.tm (pu (mo (a.2.1.zip ms)) a.2.2))) R3 ?_;exact q _ ((Ex.fr E3).up 0) (R3.s0 di _)
 | left o t=>
  obtain⟨v,hs⟩:=G8 hft;rw[hs] at hh q |-
  ·skip
   refine Cf FQ (by decide+kernel) (Cf FQ (by decide+kernel) (nk FQ ?_));refine⟨_,FQ,_,_,_,_,FQ,R.r,N3,V9,_,FQ,_,Y2,_,FQ,_,Z1,_,FQ,_,Z1,ZNB FQ,?_⟩;dsimp only[Zy];exact V8 (n:=n+d+6) (h:=.tm t) (f:=.right o v) di R (by omega) q
 | right o x=>
  obtain⟨v,hs⟩:=G8 hft;rw[hs] at hh q |-
  ·skip
   refine Cf FQ (by decide+kernel) (Cf FQ (by decide+kernel) (Cf FQ (by decide+kernel) (nk FQ ?_)));refine⟨_,FQ,_,Z1,_,FQ,_,Y2,_,FQ,_,Z1,?_⟩;dsimp only[Zy];refine xI (n:=n+d+5) hf.1 hf.2 ?_;refine gs (χ:=χ) (V1 (h:=Uv o x v)) R ?_;exact q _ ((Fr.refl _ _).up 0) (R.s0 di _)
 | first t=>
  refine Cf FQ (by decide+kernel) (Cf FQ (by decide+kernel) (Cf FQ (by decide+kernel) (Cf FQ (by decide+kernel) ?_)));refine⟨_,FQ,_,Z1,?_⟩;refine gs (χ:=χ) (V1 (h:=.tm t)) R ?_;exact q _ ((Fr.refl _ _).up 0) (R.s0 di _)
 | back i=>cases hb
def zn (di:Di A)(R:Rn A C s)(p:ui d s)(h:ok s.L.length d [] t)(hv:Sv t=false)(hs:Sb (.tm t)=none)(q:∀C',Fr A C C'->Rn A C' (Fj s t)->Q .non C'):Z4 pr (n+d+8) Oq [.ref (A 0),tt t] C Q χ:=by
 refine Ol FQ ?_;have b1:=p.k0;have b2:=p.nL;have b3:=p.nG;have hL9:s.L.length<=90000:=by omega
 have hG9:s.G.length<=90000:=by omega
 have hP9:s.P.length<=90000:=by omega
 cases t with
 | nm x=>cases h
 | num v=>cases hv
 | stop x=>cases hs
 | fn x b=>cases hv
 | call a b=>
  refine⟨_,FQ,_,Zo,xC FQ ?_⟩;refine⟨_,FQ,_,_,_,_,FQ,R.r,N3,V9,_,FQ,_,Z1,_,FQ,_,Y2,ZNB FQ,?_⟩;dsimp only[Zy];exact V8 (n:=n+d+6) (h:=.tm a) (f:=.give b) di R (by omega) q
 | does o a b=>
  refine⟨_,FQ,_,Zo,Vg FQ (by decide+kernel) (xC FQ ?_)⟩;refine⟨_,FQ,_,_,_,_,FQ,R.r,N3,V9,_,FQ,_,Y2,_,FQ,_,Z1,_,FQ,_,ub,ZNB FQ,?_⟩;dsimp only[Zy];exact V8 (n:=n+d+6) (h:=.tm a) (f:=.left o b) di R (by omega) q
 | ch e m cs ns bs=>
  refine⟨_,FQ,_,Zo,Vg FQ (by decide+kernel) (Vg FQ (by decide+kernel) (xC FQ ?_))⟩;refine⟨_,FQ,_,_,_,_,FQ,R.r,N3,V9,_,FQ,_,Z1,_,FQ,_,Y2,ZNB FQ,?_⟩;dsimp only[Zy];have ef:Gv (.pick ((List.finRange m).map λi=>(cs i,ns i,bs i)))=.tup [.str "pick",.tup ((List.finRange m).map λi=>.tup [.str (cs i),.tup ((ns i).map T.str),tt (bs i)])]:=by
   show T.tup [.str "pick",.tup (List.map wU (List.map (λi=>(cs i,ns i,bs i)) (List.finRange m)))]=_;rw[YE];rfl
  have:=V8 (Q:=λ_ C1=>Q .non C1) (χ:=χ) (n:=n+d+6) (h:=.tm e) (f:=.pick ((List.finRange m).map λi=>(cs i,ns i,bs i))) di R (by omega) q;rw[ef] at this;exact this
 | first a b=>
  refine⟨_,FQ,_,Zo,Vg FQ (by decide+kernel) (Vg FQ (by decide+kernel) (Vg FQ (by decide+kernel) (xC FQ ?_)))⟩;refine⟨_,FQ,_,_,_,_,FQ,R.r,.head _,Af,?_⟩;refine gs (χ:=χ) (u9 (x:=s.f+1)) R ?_;have R1:=R.s0 di {s with f:=s.f+1};refine⟨_,FQ,_,_,_,_,FQ,R1.r,N3,V9,_,FQ,_,Z1,_,FQ,_,Y2,ZNB FQ,?_⟩;dsimp only[Zy];exact V8 (n:=n+d+6) (h:=.tm a) (f:=.first b) di R1 (by show s.P.length<=_;omega) λC' F R'=>q C' (((Fr.refl _ _).up 0).trans F) R'
 | lt m xs ts b=>
  refine⟨_,FQ,_,Zo,Vg FQ (by decide+kernel) (Vg FQ (by decide+kernel) (Vg FQ (by decide+kernel) (Vg FQ (by decide+kernel) (xC FQ ?_))))⟩;refine⟨_,FQ,_,_,_,_,FQ,R.r,N3,gO,_,FQ,_,Z1,_,FQ,_,Y2,?_⟩;dsimp only[Zy];obtain⟨h1,⟨h2,h3,h4,h5⟩,h6,h7⟩:=h;refine iT (n:=n) (f:=d+1) (Z:=List.finRange m) (x:=xs) (o:=ts) (g:=λi=>pu (mo (Hq s (Ve xs))) (ts i)) (B:=b) (B':=pu (mo (Hq s (Ve xs))) b) di R (by rw[CP];exact h3) h4 p.D hL9 hG9 (λi _=>?_) ?_ q
  ·exact zu (Jx (h6 i))
  ·exact zu (Jx h7)
 | shp0 c=>
  refine⟨_,FQ,_,Zo,Vg FQ (by decide+kernel) (Vg FQ (by decide+kernel) (Vg FQ (by decide+kernel) (Vg FQ (by decide+kernel) (Vg FQ (by decide+kernel) (xC FQ ?_)))))⟩;refine⟨_,FQ,_,_,_,_,FQ,R.r,N3,qL,_,FQ,_,Z1,_,FQ,_,Y2,?_⟩;dsimp only[Zy];exact rG (n:=n+d+3) (c:=c) (ts:=[]) di R h.1.2 (by simp) p.D hL9 hG9 q
 | shp2 c a b=>
  refine⟨_,FQ,_,Zo,Vg FQ (by decide+kernel) (Vg FQ (by decide+kernel) (Vg FQ (by decide+kernel) (Vg FQ (by decide+kernel) (Vg FQ (by decide+kernel) (xC FQ ?_)))))⟩;refine⟨_,FQ,_,_,_,_,FQ,R.r,N3,qL,_,FQ,_,Z1,_,FQ,_,Y2,?_⟩;dsimp only[Zy];exact rG (n:=n+d+3) (c:=c) (ts:=[a,b]) di R h.2.1.1.2 (by simp) p.D hL9 hG9 q
 | at_ i=>
  refine⟨_,FQ,_,Zo,Vg FQ (by decide+kernel) (Vg FQ (by decide+kernel) (Vg FQ (by decide+kernel) (Vg FQ (by decide+kernel) (Vg FQ (by decide+kernel) (Vg FQ (by decide+kernel) ?_)))))⟩;refine⟨_,FQ,_,_,_,_,FQ,R.r,N3,mY,_,FQ,_,Z1,?_⟩;dsimp only[Zy];have hi:i<s.L.length:=h;have hd:i<s.D.length:=by rw[p.D];exact h
  exact nR (n:=n+d+5) (j:=i) (l:=uT s i) (t:=(s.D[i]?).getD (.nm "")) di R (by unfold uT;simp[hi]) (by simp[hd]) (by omega) (by omega) q
def yT (di:Di A)(R:Rn A C s)(p:ui d s)(hno:B8 s.h=false)(hst:Sb s.h=none)(hd:Qs s.h=true->∃f,s.P.getLast?=some f/\Sd f=none/\Qp s.h f=true)(q:∀C',Fr A C C'->Rn A C' (yv s)->Q .non C'):Z4 pr (n+d+9) Md [.ref (A 0)] C Q χ:=by
 refine N0 FQ ?_;have hnh:s.h≠.no:=λe=>by rw[e] at hno;cases hno
 refine⟨_,FQ,_,_,_,_,FQ,R.r,.head _,To,?_⟩;dsimp only[Zy];refine El (n:=n+d+7) hnh ⟨_,FQ,?_⟩
 cases hv:Qs s.h with
 | true=>
  refine Z5 ?_;obtain⟨f,f1,f2,f3⟩:=hd hv;rw[dW hv f1] at q;refine⟨_,FQ,_,_,_,_,FQ,R.r,N3,jl,_,FQ,_,_,_,_,FQ,R.r,.head _,To,_,FQ,_,_,_,_,FQ,R.r,N3,Lh,?_⟩;dsimp only[Zy];refine Le (n:=n+d+7) (P:=s.P.dropLast) (f:=f) di R (Wj f1) λC1 F1 R1=>?_;exact yR (n:=n) (s:={s with P:=s.P.dropLast}) di R1 (p.pop f1) (p.P f (X4 f1)) f2 f3 λC' F R'=>q C' (F1.trans F) R'
 | false=>
  refine Zq ?_;have hh:=p.h;obtain⟨t,hs,hvt⟩:∃t,s.h=.tm t/\Sv t=false:=by
   revert hno hv
   cases s.h with
   | no=>intro d1;cases d1
   | made c ms=>intro _ hv;cases hv
   | tm t=>intro _ hv;exact⟨t,FQ,hv⟩
  have lk':(Fs A s).lookup ("hand":Str)=some (tt t):=by rw[To,hs];rfl
  refine⟨_,FQ,_,_,_,_,FQ,R.r,N3,zH,_,FQ,_,_,_,_,FQ,R.r,.head _,lk',?_⟩;dsimp only[Zy];rw[dX hs hvt] at q;rw[hs] at hh hst;exact zn (n:=n) di R p hh hvt hst q
def uf {m:Int}(h:¬(Bm s.e=true/\s.k<m)):wV m j s=s:=by
 cases j with
 | zero=>rfl
 | succ j=>unfold wV;rw[XX h]
def u7 {m:Int}(di:Di A)(R:Rn A C s)(o:Ok d s)(hm:m<=1000)(q:∀C',Fr A C C'->Rn A C' (wV m (m-s.k).toNat (Jl s))->Q .non C'):Z4 pr (n+d+10) Ip [.ref (A 0),.int m] C Q χ:=by
 refine Kw FQ ?_;refine⟨_,FQ,_,_,_,_,FQ,R.r,N3,jo,?_⟩;dsimp only[Zy];refine yU (n:=n+d+5) di R o λC1 F1 R1=>?_;obtain⟨o1,n1,k1⟩:=F6 (mu s) o (XE _);generalize hX:wV m (m-s.k).toNat (Jl s)=X at q;refine Sh (λj τ C'=>τ=[some (.ref (A 0)),some (.int m)]/\∃s',Rn A C' s'/\Ok d s'/\one s'=none/\Fr A C C'/\j=(m-s'.k).toNat/\wV m j s'=X) (m:=(m-s.k).toNat) ⟨FQ,Jl s,R1,o1,n1,F1,by show _=(m-(B1 (mu s) s).k).toNat;rw[k1],hX⟩ ?_;rintro j τ C' N ⟨rfl,s',R',o',n',hF,hj,hx⟩ hN;refine fA R' ?_
 cases he:Bm s'.e with
 | false=>
  refine Zq (Zq ?_);rw[uf (λz=>by rw[he] at z;cases z.1)] at hx;subst hx;exact q C' hF R'
 | true=>
  refine Z5 ?_;refine⟨_,FQ,_,_,_,_,FQ,R'.r,.head _,Lj,_,FQ,decide (s'.k<m),FQ,?_⟩;by_cases c:s'.k<m
  ·refine Lo (decide_eq_true c) ?_;refine⟨_,FQ,_,_,_,_,FQ,R'.r,.head _,Lj,?_⟩;refine gs (χ:=χ) (rY (x:=s'.k+1)) R' ?_;have R2:=R'.s0 di {s' with k:=s'.k+1};obtain⟨d1,d2,d3⟩:=Zbc he n';refine⟨_,FQ,_,_,_,_,FQ,R2.r,N3,jn,?_⟩;dsimp only[Zy];refine yT (n:=n) (s:={s' with k:=s'.k+1}) di R2 (o'.pre (by omega)) d1 d2 d3 λC3 F3 R3=>?_;have o3:=rh o' he n' (by omega);refine⟨_,FQ,_,_,_,_,FQ,R3.r,N3,jo,?_⟩;dsimp only[Zy];refine yU (n:=n+d+5) di R3 o3 λC4 F4 R4=>?_;obtain⟨o4,n4,k4⟩:=F6 (mu (yv {s' with k:=s'.k+1})) o3 (XE _);have k3:(yv {s' with k:=s'.k+1}).k=s'.k+1:=vo.1.k;obtain⟨j1,rfl⟩:∃j1,j=j1+1:=⟨j-1,by omega⟩;refine hN j1 _ _ (by omega) ⟨FQ,_,R4,o4,n4,((hF.trans ((Fr.refl _ _).up 0)).trans F3).trans F4,?_,?_⟩
   ·show j1=(m-(B1 _ _).k).toNat;rw[k4,k3];omega
   ·unfold wV at hx;rw[XY ⟨he,c⟩] at hx;exact hx
  ·refine Lp (YG c) ?_;rw[uf (λz=>c z.2)] at hx;subst hx;exact q C' hF R'
def ew:En->Str
 | .no=>"spent"
 | .told _=>"told"
 | .stop _=>"stop"
 | .stuck=>"stuck"
def ex:En->Str
 | .no=>""
 | .told x=>x
 | .stop x=>x
 | .stuck=>""
def qu (s:St)(p:WP):T:=.tup [.str (ew s.e),.str (ex s.e),.tup [.int s.k,.int s.c,.int s.f],.ref p]
def u5 (R:Rn A C s)(q:∀p C',Ex C C'->C p=none->C' p=some (.lst (s.G.map Ap))->Q (qu s p) C'):Z4 pr (n+1) Im [.ref (A 0)] C Q χ:=by
 refine Ku FQ ?_;have key:Dh (Yb (Y1 Tz (Z6 1) (eC (.int 0))) (Yb (Y1 Tz (Z6 1) (eC (.int 1))) (Yb (Dh (Yb (wK HN "steps" (Z6 0)) (Yb (wK HN "cells" (Z6 0)) (Yb (wK HN "firsts" (Z6 0)) Zy)))) (Yb (kW ow (Yb (wK HN "log" (Z6 0)) Zy)) Zy)))) [some (.ref (A 0)),some (.tup [.str (ew s.e),.str (ex s.e)])] C Q χ:=by
  refine⟨_,FQ,_,Zo,?_⟩;refine⟨_,FQ,_,Z1,?_⟩;refine⟨_,FQ,_,_,_,_,FQ,R.r,.head _,Lj,?_⟩;refine⟨_,FQ,_,_,_,_,FQ,R.r,.head _,ju,?_⟩;refine⟨_,FQ,_,_,_,_,FQ,R.r,.head _,Af,?_⟩;refine⟨ZNB FQ,?_⟩;refine⟨_,FQ,_,_,_,_,FQ,R.r,.head _,qV,?_⟩;refine⟨_,FQ,_,R.pg,λp hp=>⟨ZNB FQ,?_⟩⟩;exact q p _ (Ex.new hp) hp Zh
 refine fA R ?_
 cases he:s.e with
 | no=>
  rw[he] at key;exact Z5 ⟨ZNB FQ,key⟩
 | told x=>
  rw[he] at key;exact Zq ⟨_,FQ,_,_,_,_,FQ,R.r,.head _,by rw[Oc,he];rfl,key⟩
 | stop x=>
  rw[he] at key;exact Zq ⟨_,FQ,_,_,_,_,FQ,R.r,.head _,by rw[Oc,he];rfl,key⟩
 | stuck=>
  rw[he] at key;exact Zq ⟨_,FQ,_,_,_,_,FQ,R.r,.head _,by rw[Oc,he];rfl,key⟩
end
open PySem PySem.Spec PyProof.Rows L2 WL
def Dd (t:Tm)(D:Int):St:=⟨.no,0,[],[.part D t],[],[],[],[],0,0,0,.no⟩
def fin (t:Tm)(D m:Int):St:=wV m m.toNat (Jl (Dd t D))
def w5 (h:ok 0 d [] t)(hv:Sv t=false):Ok d (Dd t D):=
 ⟨trivial,λ_=>rfl,λf hf=>(by cases hf),λp hp=>by rw[XQ.mp hp];exact⟨h,hv⟩,λx hx=>(by cases hx),FQ,λt ht=>(by cases ht),⟨XW _,by show(0:Int)<=1000;decide⟩,by show(0:Int)<=5*0;decide,by show(0:Int)+0<=6*0;decide,by show(0:Int)+1+0<=6*0+8;decide⟩
section
variable {C:Hw}{Q:WK}{χ:WX}{n d:Nat}
theorem Ob {f:Str}:∀{fs:List (Str×T)} {m:Nat},fs.length<=m->(X2 f v fs).length<=m+1
 | [],m,_=>by simp[X2]
 | (g,x)::fs,m,h=>by
  rw[YF] at h;unfold X2
  split
  ·rw[YF];omega
  ·have:=Ob (f:=f) (v:=v) (fs:=fs) (m:=fs.length) (XE _);rw[YF];omega
def ia {m:Nat}{f:Str}{B:WS}{τ:Sw}{fs:List (Str×T)}(hr:C r=some (.ins "Runner" fs))(h0:τ[0]?=some (some (.ref r)))(hl:fs.length<=m)(hm:m<1000)(q:∀C',C' r=some (.ins "Runner" (X2 f v fs))->(X2 f v fs).length<=m+1->S7 r C C'->B D τ C'):Vn (T7 (eC v) (bF HN f (Z6 0))) B D τ C:=
 ⟨_,h0,r,_,_,FQ,hr,by simp,by omega,q _ Zh (Ob hl) λa o h e=>by rw[Zn h];exact e⟩
def il {m:Nat}{f:Str}{a:WA}{B:WS}{D:We}{τ:Sw}{fs:List (Str×T)}(hr:C r=some (.ins "Runner" fs))(h0:τ[0]?=some (some (.ref r)))(hl:fs.length<=m)(hm:m<1000)(ha:∀Q:List T->Hw->Prop,Q xs C->a τ C Q D.xc)(hx:xs.length<=1000)
  (q:∀p C',C p=none->p≠r->C' p=some (.lst xs)->C' r=some (.ins "Runner" (X2 f (.ref p) fs))->(X2 f (.ref p) fs).length<=m+1->S7 r C C'->B D τ C'):Vn (T7 (wJ a) (bF HN f (Z6 0))) B D τ C:=by
 refine ha _ ⟨Ya (by omega),λp hp=>?_⟩;have hne:r≠p:=cne hr hp;refine⟨_,h0,r,_,_,FQ,by rw[Zn hne];exact hr,by simp,by omega,q p _ hp hne.symm (by rw[Zn hne.symm];exact Zh) Zh (Ob hl) λa o h e=>?_⟩;rw[Zn h,Zn (cne e hp)];exact e
def id0 {m:Nat}{f:Str}{B:WS}{D:We}{τ:Sw}{fs:List (Str×T)}(hr:C r=some (.ins "Runner" fs))(h0:τ[0]?=some (some (.ref r)))(hl:fs.length<=m)(hm:m<1000)
  (q:∀p C',C p=none->p≠r->C' p=some (.dic [])->C' r=some (.ins "Runner" (X2 f (.ref p) fs))->(X2 f (.ref p) fs).length<=m+1->S7 r C C'->B D τ C'):Vn (T7 wL (bF HN f (Z6 0))) B D τ C:=by
 intro p hp;have hne:r≠p:=cne hr hp;refine⟨_,h0,r,_,_,FQ,by rw[Zn hne];exact hr,by simp,by omega,q p _ hp hne.symm (by rw[Zn hne.symm];exact Zh) Zh (Ob hl) λa o h e=>?_⟩;rw[Zn h,Zn (cne e hp)];exact e
def bg (r0 p1 p2 p3 p4 p5 p6:WP):Ad:=λi=>match i with | 0=>r0 | 1=>p1 | 2=>p2 | 3=>p3 | 4=>p4 | 5=>p5 | 6=>p6
def gN {r0 p1 p2 p3 p4 p5 p6:WP}(h:[r0,p1,p2,p3,p4,p5,p6].Nodup):Di (bg r0 p1 p2 p3 p4 p5 p6):=by
 intro i j hij e;have hi:∀k:Fin 7,[r0,p1,p2,p3,p4,p5,p6][k.val]?=some (bg r0 p1 p2 p3 p4 p5 p6 k):=λk=>by
  match k with
  | 0=>rfl | 1=>rfl | 2=>rfl | 3=>rfl | 4=>rfl | 5=>rfl | 6=>rfl
 exact hij (Fin.ext ((DT (by exact i.isLt) h).mp (by rw[hi i,hi j,e])))
def cf {D m:Int}(ho:ok 0 d [] t)(hv:Sv t=false)(hm:m<=1000)
  (q:∀(p:WP) (C':Hw),Ex C C'->C p=none->C' p=some (.lst ((fin t D m).G.map Ap))->Q (qu (fin t D m) p) C'):Z4 pr (n+d+12) bv [tt t,.int D,.int m] C Q χ:=by
 refine du FQ ?_;refine⟨_,FQ,_,FQ,?_⟩;dsimp only[Zy];refine A7 FQ λr0 hr0=>?_;refine M4 FQ ?_;refine ia (m:=0) Zh FQ (by simp) (by decide) λC1 r1 l1 x1=>?_;refine ia r1 FQ l1 (by decide) λC2 r2 l2 x2=>?_;refine il (xs:=[]) r2 FQ l2 (by decide) (λQ h=>h) (by decide) λpp C3 n3 ne3 p3 r3 l3 x3=>?_;refine il (xs:=[.tup [.int D,tt t]]) r3 FQ l3 (by decide) (λQ h=>⟨_,FQ,_,FQ,Ya (by simp),h⟩) (by simp) λps C4 n4 ne4 p4 r4 l4 x4=>?_;refine il (xs:=[]) r4 FQ l4 (by decide) (λQ h=>h) (by decide) λpt C5 n5 ne5 p5 r5 l5 x5=>?_;refine id0 r5 FQ l5 (by decide) λpd C6 n6 ne6 p6 r6 l6 x6=>?_;refine il (xs:=[]) r6 FQ l6 (by decide) (λQ h=>h) (by decide) λpl C7 n7 ne7 p7 r7 l7 x7=>?_;refine il (xs:=[]) r7 FQ l7 (by decide) (λQ h=>h) (by decide) λpg C8 n8 ne8 p8 r8 l8 x8=>?_;refine ia r8 FQ l8 (by decide) λC9 r9 l9 x9=>?_;refine ia r9 FQ l9 (by decide) λCa ra la xa=>?_;refine ia ra FQ la (by decide) λCb rb lb xb=>?_;refine⟨_,FQ,r0,_,_,FQ,rb,by simp,by omega,?_⟩;generalize hCc:up Cb r0 _=Cc;have xc:S7 r0 Cb Cc:=hCc▸λa o h e=>by rw[Zn h];exact e
 have rc:Cc r0=some (.ins "Runner" (Fs (bg r0 pp ps pt pd pl pg) (Dd t D))):=hCc▸Zh;clear hCc;have g8:S7 r0 C8 Cc:=((x9.trans xa).trans xb).trans xc;have g7:=x8.trans g8;have g6:=x7.trans g7;have g5:=x6.trans g6;have g4:=x5.trans g5;have g3:=x4.trans g4;have a4:C4 pp=_:=x4 _ _ ne3 p3;have a5:C5 pp=_:=x5 _ _ ne3 a4;have a6:C6 pp=_:=x6 _ _ ne3 a5;have a7:C7 pp=_:=x7 _ _ ne3 a6;have b5:C5 ps=_:=x5 _ _ ne4 p4;have b6:C6 ps=_:=x6 _ _ ne4 b5;have b7:C7 ps=_:=x7 _ _ ne4 b6;have c6:C6 pt=_:=x6 _ _ ne5 p5;have c7:C7 pt=_:=x7 _ _ ne5 c6;have e7:C7 pd=_:=x7 _ _ ne6 p6;have hnd:[r0,pp,ps,pt,pd,pl,pg].Nodup:=by
  simp only[List.nodup_cons,List.mem_cons,List.not_mem_nil,or_false,not_or,not_false_eq_true,List.nodup_nil,and_true];exact⟨⟨ne3.symm,ne4.symm,ne5.symm,ne6.symm,ne7.symm,ne8.symm⟩,⟨cne p3 n4,cne a4 n5,cne a5 n6,cne a6 n7,cne a7 n8⟩,⟨cne p4 n5,cne b5 n6,cne b6 n7,cne b7 n8⟩,⟨cne p5 n6,cne c6 n7,cne c7 n8⟩,⟨cne p6 n7,cne e7 n8⟩,cne p7 n8⟩
 have di:=gN hnd;have R:Rn (bg r0 pp ps pt pd pl pg) Cc (Dd t D):=⟨rc,g3 _ _ ne3 p3,g4 _ _ ne4 p4,g5 _ _ ne5 p5,g6 _ _ ne6 p6,g7 _ _ ne7 p7,g8 _ _ ne8 p8⟩;have fr:∀C',Fr (bg r0 pp ps pt pd pl pg) Cc C'->Ex C C':=λC' f a o h=>by
  have hne:=cne h hr0;have h1:C1 a=some o:=x1 _ _ hne (by rw[Zn hne];exact h);have h2:C2 a=some o:=x2 _ _ hne h1;have h3:=x3 _ _ hne h2;have h4:=x4 _ _ hne h3;have h5:=x5 _ _ hne h4;have h6:=x6 _ _ hne h5;have h7:=x7 _ _ hne h6;refine f a o (λi=>?_) (g7 _ _ hne h7)
  match i with
  | 0=>exact hne
  | 1=>exact cne h2 n3
  | 2=>exact cne h3 n4
  | 3=>exact cne h4 n5
  | 4=>exact cne h5 n6
  | 5=>exact cne h6 n7
  | 6=>exact cne h7 n8
 clear l1 l2 l3 l4 l5 l6 l7 l8 l9 la lb r1 r2 r3 r4 r5 r6 r7 r8 r9 ra rb x1 x2 x3 x4 x5 x6 x7 x8 x9 xa xb xc g3 g4 g5 g6 g7 g8 p3 p4 p5 p6 p7 p8 n3 n4 n5 n6 n7 n8 ne3 ne4 ne5 ne6 ne7 ne8 a4 a5 a6 a7 b5 b6 b7 c6 c7 e7;refine⟨FQ,_,_,_,_,FQ,rc,N3,Zax (s:=Dd t D),_,FQ,?_⟩;dsimp only[Zy];refine yJ FQ ?_;refine⟨_,FQ,_,_,_,_,FQ,rc,N3,uN (s:=Dd t D),_,FQ,?_⟩;dsimp only[Zy];refine u7 (n:=n) di R (w5 ho hv) hm λC' F R'=>?_;have ef:wV m (m-(Dd t D).k).toNat (Jl (Dd t D))=fin t D m:=by show wV m (m-0).toNat _=_;rw[Int.sub_zero];rfl
 rw[ef] at R';refine⟨_,FQ,_,_,_,_,FQ,R'.r,N3,uM,?_⟩;dsimp only[Zy];refine u5 (n:=n+d+9) R' λp C2 hE hp hG=>?_;exact q p C2 ((fr C' F).trans hE) ((fr C' F).free hp) hG
end
open PySem PySem.Spec PyProof.Rows L2 WL
abbrev xf:=Str->Option Nat
def tT (eA eB:xf):xf:=λx=>match eA x with | some i=>some i | none=>eB x
def ov (E M:xf):xf:=tT M E
def ye:Vb (tT eA eB) ns=tT (Vb eA ns) (Vb eB ns):=by
 funext x
 by_cases c:x∈ns
 ·simp only[Vb,tT,if_pos c]
 ·simp only[Vb,tT,if_neg c]
def cC:∀{t:Tm} {eA eB:xf},pu eB (pu eA t)=pu (tT eA eB) t:=by
 intro t
 induction t with
 | nm x=>
  intro eA eB;show pu eB (match eA x with | some i=>.at_ i | none=>.nm x)=(match tT eA eB x with | some i=>Tm.at_ i | none=>.nm x);unfold tT
  cases eA x<;>rfl
 | num v=>intro _ _;rfl
 | stop x=>intro _ _;rfl
 | at_ i=>intro _ _;rfl
 | shp0 c=>intro _ _;rfl
 | shp2 c a b iha ihb=>intro eA eB;show Tm.shp2 c _ _=Tm.shp2 c _ _;rw[iha,ihb]
 | does o a b iha ihb=>intro eA eB;show Tm.does o _ _=Tm.does o _ _;rw[iha,ihb]
 | call a b iha ihb=>intro eA eB;show Tm.call _ _=Tm.call _ _;rw[iha,ihb]
 | first a b iha ihb=>intro eA eB;show Tm.first _ _=Tm.first _ _;rw[iha,ihb]
 | fn x b ih=>intro eA eB;show Tm.fn x (pu (Vb eB _) (pu (Vb eA _) _))=Tm.fn x (pu (Vb _ _) _);rw[ih,ye]
 | lt n xs ts b iht ihb=>intro eA eB;show Tm.lt n xs (λi=>pu (Vb eB _) (pu (Vb eA _) _)) (pu (Vb eB _) (pu (Vb eA _) _))=Tm.lt n xs (λi=>pu (Vb _ _) _) (pu (Vb _ _) _);rw[ihb,ye,funext λi=>iht i]
 | ch e n cs ns bs ihe ihb=>intro eA eB;show Tm.ch _ n cs ns (λi=>pu (Vb eB _) (pu (Vb eA _) _))=Tm.ch _ n cs ns (λi=>pu (Vb _ _) _);rw[ihe];congr 1;funext i;rw[ihb i,ye]
def cD {E M:xf}{ns:List Str}(h:∀x,x∈ns↔M x≠none):pu M (pu (Vb E ns) t)=pu (ov E M) t:=by
 rw[cC];congr 1
 funext x
 unfold tT ov tT Vb;by_cases c:x∈ns
 ·rw[XY c]
  cases e:M x with
  | none=>exact absurd e ((h x).mp c)
  | some i=>rfl
 ·rw[XX c];have e:M x=none:=by
   cases e:M x with
   | none=>rfl
   | some i=>exact absurd ((h x).mpr (by rw[e];simp)) c
  rw[e]
  cases E x<;>rfl
def vg {ns:List Str}{ms:List Nat}(hl:ns.length=ms.length):∀x,x∈ns↔mo (ns.zip ms) x≠none:=λx=>by
 constructor
 ·exact vh hl
 ·intro h
  cases e:mo (ns.zip ms) x with
  | none=>exact absurd e h
  | some i=>
   unfold mo at e;obtain⟨z,hz,_⟩:=DC.mp e;have h1:=List.find?_some hz;have h2:=EC hz;have h3:z.1=x:=of_decide_eq_true h1;rw[<-h3];exact(DR h2).1
def zv {ns:List Str}{ms:List Nat}(hl:ns.length=ms.length):pu (mo (ns.zip ms)) (pu (Vb E ns) t)=pu (ov E (mo (ns.zip ms))) t:=cD (vg hl)
def md:pu (λ_=>none) t=t:=by
 induction t with
 | nm x=>rfl
 | num v=>rfl
 | stop x=>rfl
 | at_ i=>rfl
 | shp0 c=>rfl
 | shp2 c a b iha ihb=>show Tm.shp2 c _ _=_;rw[iha,ihb]
 | does o a b iha ihb=>show Tm.does o _ _=_;rw[iha,ihb]
 | call a b iha ihb=>show Tm.call _ _=_;rw[iha,ihb]
 | first a b iha ihb=>show Tm.first _ _=_;rw[iha,ihb]
 | fn x b ih=>show Tm.fn x (pu (Vb _ _) _)=_;rw[show Vb (λ_=>none) [x]=λ_=>none from by funext y;unfold Vb;split<;>rfl,ih]
 | lt n xs ts b iht ihb=>show Tm.lt n xs (λi=>pu (Vb _ _) _) (pu (Vb _ _) _)=_;rw[show Vb (λ_=>none) (Ve xs)=λ_=>none from by funext y;unfold Vb;split<;>rfl,ihb,funext λi=>iht i]
 | ch e n cs ns bs ihe ihb=>show Tm.ch _ n cs ns (λi=>pu (Vb _ _) _)=_;rw[ihe];congr 1;funext i;rw[show Vb (λ_=>none) (ns i)=λ_=>none from by funext y;unfold Vb;split<;>rfl,ihb i]
open PySem PySem.Spec PyProof.Rows L2 WL
abbrev nT (i:Nat):T:=.int (i:Int)
structure yx where
 t:Tm
 E:xf
 a:WP
 Γ:List Str
abbrev yx.u (c:yx):Tm:=pu c.E c.t
structure Dk (g:Addr)(C:Hw)(k:Int)(a:Addr)(E:xf)(Γ:List Str):Prop where
 ne:a≠g
 d:∃kvs,C a=some (.dic kvs)/\(∀y,Y3 kvs (.inr y)=(E y).map nT)/\(kvs.length:Int)<=10*k
 c:∀y∈Γ,E y≠none
def G5 (g:WP)(C:Hw)(k:Int)(c:yx):Prop:=Dk g C k c.a c.E c.Γ/\ok 0 12 c.Γ c.t
inductive LH where
 | no
 | made (c:Str) (ms:List Nat)
 | th (i:Nat)
 | cl (c:yx)
  | raw (x:T)
noncomputable def Cz:LH->T
 | .no=>.non
 | .made c ms=>.tup [.str "made",.str c,.tup (ms.map nT)]
 | .th i=>.tup [.str "thing",nT i]
 | .cl c=>tt c.t
 | .raw x=>x
noncomputable def T9:LH->Hd
 | .no=>.no
 | .made c ms=>.made c ms
 | .th i=>.tm (.at_ i)
 | .cl c=>.tm c.u
 | .raw _=>.no
inductive LF where
 | give (c:yx)
 | pick (al:List Al) (E:xf) (a:WP) (Γ:List Str)
 | left (o:Str) (c:yx)
 | right (o:Str) (v:Int) (a:WP)
 | first (c:yx)
 | back (i:Nat)
noncomputable def Ss:LF->T
 | .give c=>.tup [.str "give",tt c.t,.ref c.a]
 | .pick al _ a _=>.tup [.str "choose",.tup (al.map wU),.ref a]
 | .left o c=>.tup [.str "left",.str o,tt c.t,.ref c.a]
 | .right o v a=>.tup [.str "right",.str o,.int v,.ref a]
 | .first c=>.tup [.str "first",tt c.t,.ref c.a]
 | .back i=>.tup [.str "back",nT i]
noncomputable def Ba:LF->Fm
 | .give c=>.give c.u
 | .pick al E _ _=>.pick (al.map λz=>(z.1,z.2.1,pu (Vb E z.2.1) z.2.2))
 | .left o c=>.left o c.u
 | .right o v _=>.right o v
 | .first c=>.first c.u
 | .back i=>.back i
def wq (g:WP)(C:Hw)(k:Int):LF->Prop
 | .give c=>G5 g C k c
 | .pick al E a Γ=>Dk g C k a E Γ/\al.length<=5/\∀z∈al,z.2.1.length=ar z.1/\z.2.1.Nodup/\ok 0 12 (z.2.1++Γ) z.2.2
 | .left _ c=>G5 g C k c
 | .right _ _ a=>Dk g C k a (λ_=>none) []
 | .first c=>G5 g C k c
 | .back _=>True
inductive LP where
 | word (x:Str)
 | part (D:Int) (h:LH) (a:WP)
def xp:LP->T
 | .word x=>.str x
 | .part D h a=>.tup [Cz h,.ref a,.int D]
def Ll (g:WP)(C:Hw)(k:Int)(h:LH)(a:WP):Prop:=∀c,h=.cl c->G5 g C k c/\c.a=a
def bC:Hd->Tm
 | .tm t=>t
 | _=>.nm ""
def uO:LP->Pc
 | .word x=>.word x
 | .part D h _=>.part D (bC (T9 h))
def uP (g:WP)(C:Hw)(k:Int):LP->Prop
 | .word _=>True
 | .part D h a=>Ll g C k h a/\((∃i,h=.th i)\/∃c,h=.cl c)/\0<=D
structure Gx where
 h:LH
 ar:WP
 P:List LF
 S:List LP
 ra:WP
 W:List Str
 D:List (yx×Str)
 G:List Ev
 k:Int
 c:Int
 f:Int
 w:Int
abbrev Bd:=Fin 5->WP
noncomputable def gk (B:Bd)(l:Gx):List (Yo×T):=[(.inr "hand",Cz l.h),(.inr "around",.ref l.ar),(.inr "pile",.ref (B 1)),(.inr "rest",.ref l.ra),(.inr "words",.ref (B 2)),(.inr "steps",.int l.k),(.inr "cells",.int l.c),(.inr "firsts",.int l.f),(.inr "things",.ref (B 3)),(.inr "log",.ref (B 4)),(.inr "deep",.int l.w)]
def ny (z:yx×Str):T:=.tup [tt z.1.t,.ref z.1.a,.str z.2]
structure Lr (B:Bd)(C:Hw)(l:Gx):Prop where
 r:C (B 0)=some (.dic (gk B l))
 pp:C (B 1)=some (.lst (l.P.map Ss))
 pw:C (B 2)=some (.lst (l.W.map T.str))
 pt:C (B 3)=some (.lst (l.D.map ny))
 pg:C (B 4)=some (.lst (l.G.map Ap))
 ps:C l.ra=some (.lst (l.S.map xp))
 di:∀i j:Fin 5,i≠j->B i≠B j
 na:∀i,l.ra≠B i
 hh:Ll (B 0) C l.k l.h l.ar
 hP:∀f∈l.P,wq (B 0) C l.k f
 hS:∀p∈l.S,uP (B 0) C l.k p
 hD:∀z∈l.D,G5 (B 0) C l.k z.1
 hw:l.h≠.no->1<=l.w
def ab (l:Gx)(U:List Str):St:=⟨T9 l.h,l.w,l.P.map Ba,l.S.map uO,U,l.D.map (·.1.u),l.D.map (·.2),l.G,l.k,l.c,l.f,.no⟩
section
variable {B:Bd}{l:Gx}
def Fa:Y3 (gk B l) (.inr "hand")=some (Cz l.h):=rfl
def Sy:Y3 (gk B l) (.inr "around")=some (.ref l.ar):=rfl
def Wa:Y3 (gk B l) (.inr "pile")=some (.ref (B 1)):=rfl
def zW:Y3 (gk B l) (.inr "rest")=some (.ref l.ra):=rfl
def Uw:Y3 (gk B l) (.inr "words")=some (.ref (B 2)):=rfl
def Lw:Y3 (gk B l) (.inr "steps")=some (.int l.k):=rfl
def jF:Y3 (gk B l) (.inr "cells")=some (.int l.c):=rfl
def An:Y3 (gk B l) (.inr "firsts")=some (.int l.f):=rfl
def Va:Y3 (gk B l) (.inr "things")=some (.ref (B 3)):=rfl
def pD:Y3 (gk B l) (.inr "log")=some (.ref (B 4)):=rfl
def lC:Y3 (gk B l) (.inr "deep")=some (.int l.w):=rfl
def vM:Wq (gk B l) (.inr "hand") (Cz h)=gk B {l with h:=h}:=rfl
def Vp:Wq (gk B l) (.inr "hand") x=gk B {l with h:=.raw x}:=rfl
def Xb:Wq (gk B l) (.inr "around") (.ref a)=gk B {l with ar:=a}:=rfl
def lA:Wq (gk B l) (.inr "rest") (.ref a)=gk B {l with ra:=a}:=rfl
def pA:Wq (gk B l) (.inr "steps") (.int x)=gk B {l with k:=x}:=rfl
def pB:Wq (gk B l) (.inr "cells") (.int x)=gk B {l with c:=x}:=rfl
def tu:Wq (gk B l) (.inr "firsts") (.int x)=gk B {l with f:=x}:=rfl
def lB:Wq (gk B l) (.inr "deep") (.int x)=gk B {l with w:=x}:=rfl
end
open PySem PySem.Spec PyProof.Rows L2 WL
def Kp (g:WP)(C C':Hw):Prop:=∀a kvs,a≠g->C a=some (.dic kvs)->C' a=some (.dic kvs)
section
variable {g:WP}{C C' C2:Hw}{k k':Int}
def Kp.ex (h:Ex C C'):Kp g C C':=λa kvs _ e=>h a _ e
def Kp.trans (h:Kp g C C')(h':Kp g C' C2):Kp g C C2:=λa kvs n e=>h' a kvs n (h a kvs n e)
def Kp.gu:Kp g C (up C g o):=λa kvs n e=>by rw[Zn n];exact e
def Kp.l (h:C p=some (.lst xs)):Kp g C (up C p o):=λa kvs n e=>by
 rw[Zn (λz=>by subst z;rw[h] at e;cases e)];exact e
def Dk.mv (q:Dk g C k a E Γ)(h:Kp g C C')(hk:k<=k'):Dk g C' k' a E Γ:=by
 obtain⟨kvs,h1,h2,h3⟩:=q.d;exact⟨q.ne,⟨kvs,h a kvs q.ne h1,h2,by omega⟩,q.c⟩
def G5.mv (q:G5 g C k c)(h:Kp g C C')(hk:k<=k'):G5 g C' k' c:=⟨q.1.mv h hk,q.2⟩
def Ll.mv (q:Ll g C k x a)(h:Kp g C C')(hk:k<=k'):Ll g C' k' x a:=λc e=>⟨(q c e).1.mv h hk,(q c e).2⟩
def wq.mv {f:LF}(q:wq g C k f)(h:Kp g C C')(hk:k<=k'):wq g C' k' f:=by
 cases f with
 | give c=>exact G5.mv q h hk
 | pick al E a Γ=>exact⟨q.1.mv h hk,q.2⟩
 | left o c=>exact G5.mv q h hk
 | right o v a=>exact Dk.mv q h hk
 | first c=>exact G5.mv q h hk
 | back i=>trivial
def uP.mv (q:uP g C k p)(h:Kp g C C')(hk:k<=k'):uP g C' k' p:=by
 cases p with
 | word x=>trivial
 | part D x a=>exact⟨q.1.mv h hk,q.2⟩
end
section
variable {g:WP}{k k':Int}{B:Bd}{C C':Hw}{l l':Gx}{Q:WK}{χ:WX}{n:Nat}{τ:Sw}{Qg:Sw->Hw->Prop}{v:T}
def Lr.ex (R:Lr B C l)(e:Ex C C'):Lr B C' l:=
 ⟨e _ _ R.r,e _ _ R.pp,e _ _ R.pw,e _ _ R.pt,e _ _ R.pg,e _ _ R.ps,R.di,R.na,R.hh.mv (Kp.ex e) (XW _),λf hf=>(R.hP f hf).mv (Kp.ex e) (XW _),λp hp=>(R.hS p hp).mv (Kp.ex e) (XW _),λz hz=>(R.hD z hz).mv (Kp.ex e) (XW _),R.hw⟩
def Lr.s0 (R:Lr B C l)(l':Gx)(hk:l.k<=l'.k)(hh:Ll (B 0) C l'.k l'.h l'.ar)(hw:l'.h≠.no->1<=l'.w)(h1:autoParam (l'.P=l.P) QzR)(h2:autoParam (l'.S=l.S) QzR)(h3:autoParam (l'.ra=l.ra) QzR)(h4:autoParam (l'.W=l.W) QzR)(h5:autoParam (l'.D=l.D) QzR)(h6:autoParam (l'.G=l.G) QzR):Lr B (up C (B 0) (.dic (gk B l'))) l':=
 ⟨Zh,by rw[Zn (R.di 1 0 (by decide)),h1];exact R.pp,by rw[Zn (R.di 2 0 (by decide)),h4];exact R.pw,by rw[Zn (R.di 3 0 (by decide)),h5];exact R.pt,by rw[Zn (R.di 4 0 (by decide)),h6];exact R.pg,by rw[h3,Zn (R.na 0),h2];exact R.ps,R.di,by rw[h3];exact R.na,
  hh.mv Kp.gu (XW _),λf hf=>(R.hP f (h1▸hf)).mv Kp.gu hk,λp hp=>(R.hS p (h2▸hp)).mv Kp.gu hk,λz hz=>(R.hD z (h5▸hz)).mv Kp.gu hk,hw⟩
def Lr.s1 (R:Lr B C l)(P:List LF)(hP:∀f∈P,wq (B 0) C l.k f):Lr B (up C (B 1) (.lst (P.map Ss))) {l with P:=P}:=
 ⟨by rw[Zn (R.di 0 1 (by decide))];exact R.r,Zh,by rw[Zn (R.di 2 1 (by decide))];exact R.pw,by rw[Zn (R.di 3 1 (by decide))];exact R.pt,by rw[Zn (R.di 4 1 (by decide))];exact R.pg,by rw[Zn (R.na 1)];exact R.ps,R.di,R.na,
  R.hh.mv (Kp.l R.pp) (XW _),λf hf=>(hP f hf).mv (Kp.l R.pp) (XW _),λp hp=>(R.hS p hp).mv (Kp.l R.pp) (XW _),λz hz=>(R.hD z hz).mv (Kp.l R.pp) (XW _),R.hw⟩
def Lr.s2 (R:Lr B C l)(W:List Str):Lr B (up C (B 2) (.lst (W.map T.str))) {l with W:=W}:=
 ⟨by rw[Zn (R.di 0 2 (by decide))];exact R.r,by rw[Zn (R.di 1 2 (by decide))];exact R.pp,Zh,by rw[Zn (R.di 3 2 (by decide))];exact R.pt,by rw[Zn (R.di 4 2 (by decide))];exact R.pg,by rw[Zn (R.na 2)];exact R.ps,R.di,R.na,
  R.hh.mv (Kp.l R.pw) (XW _),λf hf=>(R.hP f hf).mv (Kp.l R.pw) (XW _),λp hp=>(R.hS p hp).mv (Kp.l R.pw) (XW _),λz hz=>(R.hD z hz).mv (Kp.l R.pw) (XW _),R.hw⟩
def Lr.s3 (R:Lr B C l)(D:List (yx×Str))(hD:∀z∈D,G5 (B 0) C l.k z.1):Lr B (up C (B 3) (.lst (D.map ny))) {l with D:=D}:=
 ⟨by rw[Zn (R.di 0 3 (by decide))];exact R.r,by rw[Zn (R.di 1 3 (by decide))];exact R.pp,by rw[Zn (R.di 2 3 (by decide))];exact R.pw,Zh,by rw[Zn (R.di 4 3 (by decide))];exact R.pg,by rw[Zn (R.na 3)];exact R.ps,R.di,R.na,
  R.hh.mv (Kp.l R.pt) (XW _),λf hf=>(R.hP f hf).mv (Kp.l R.pt) (XW _),λp hp=>(R.hS p hp).mv (Kp.l R.pt) (XW _),λz hz=>(hD z hz).mv (Kp.l R.pt) (XW _),R.hw⟩
def Lr.s4 (R:Lr B C l)(G:List Ev):Lr B (up C (B 4) (.lst (G.map Ap))) {l with G:=G}:=
 ⟨by rw[Zn (R.di 0 4 (by decide))];exact R.r,by rw[Zn (R.di 1 4 (by decide))];exact R.pp,by rw[Zn (R.di 2 4 (by decide))];exact R.pw,by rw[Zn (R.di 3 4 (by decide))];exact R.pt,Zh,by rw[Zn (R.na 4)];exact R.ps,R.di,R.na,
  R.hh.mv (Kp.l R.pg) (XW _),λf hf=>(R.hP f hf).mv (Kp.l R.pg) (XW _),λp hp=>(R.hS p hp).mv (Kp.l R.pg) (XW _),λz hz=>(R.hD z hz).mv (Kp.l R.pg) (XW _),R.hw⟩
def Lr.s5 (R:Lr B C l)(S:List LP)(hS:∀p∈S,uP (B 0) C l.k p):Lr B (up C l.ra (.lst (S.map xp))) {l with S:=S}:=
 ⟨by rw[Zn (R.na 0).symm];exact R.r,by rw[Zn (R.na 1).symm];exact R.pp,by rw[Zn (R.na 2).symm];exact R.pw,by rw[Zn (R.na 3).symm];exact R.pt,by rw[Zn (R.na 4).symm];exact R.pg,Zh,R.di,R.na,
  R.hh.mv (Kp.l R.ps) (XW _),λf hf=>(R.hP f hf).mv (Kp.l R.ps) (XW _),λp hp=>(hS p hp).mv (Kp.l R.ps) (XW _),λz hz=>(R.hD z hz).mv (Kp.l R.ps) (XW _),R.hw⟩
def Lr.fresh (R:Lr B C l)(ha:C a=none):(∀i,a≠B i)/\a≠l.ra:=by
 refine⟨λi e=>?_,λe=>by subst e;rw[R.ps] at ha;cases ha⟩;subst e
 match i with
 | 0=>rw[R.r] at ha;cases ha
 | 1=>rw[R.pp] at ha;cases ha
 | 2=>rw[R.pw] at ha;cases ha
 | 3=>rw[R.pt] at ha;cases ha
 | 4=>rw[R.pg] at ha;cases ha
def Lr.s6 (R:Lr B C l)(S:List LP)(hp:C p=none)(hS:∀x∈S,uP (B 0) C l.k x):Lr B (up (up C p (.lst (S.map xp))) (B 0) (.dic (gk B {l with ra:=p}))) {l with ra:=p,S:=S}:=by
 have R1:=R.ex (Ex.new (o:=.lst (S.map xp)) hp);have n:=(R.fresh hp).1
 exact⟨Zh,by rw[Zn (R.di 1 0 (by decide))];exact R1.pp,by rw[Zn (R.di 2 0 (by decide))];exact R1.pw,by rw[Zn (R.di 3 0 (by decide))];exact R1.pt,by rw[Zn (R.di 4 0 (by decide))];exact R1.pg,by rw[Zn (n 0)];exact Zh,R.di,n,
  R1.hh.mv Kp.gu (XW _),λf hf=>(R1.hP f hf).mv Kp.gu (XW _),λx hx=>(hS x hx).mv (Kp.trans (Kp.ex (Ex.new hp)) Kp.gu) (XW _),λz hz=>(R1.hD z hz).mv Kp.gu (XW _),R.hw⟩
def ga (hp:Wq (gk B l) kk v=gk B l')(hk:kT y=some kk)(r:C (B 0)=some (.dic (gk B l)))(q:Qg (some (.ref (B 0))::τ) (up C (B 0) (.dic (gk B l')))):fo (Z6 0) (eC y) v (some (.ref (B 0))::τ) C Qg χ:=
 ⟨_,FQ,_,_,kk,FQ,hk,r,Yc (ZNB FQ),hp▸q⟩
def Ll.raw:Ll g C k (.raw x) a:=λc e=>by cases e
def Lr.raw (R:Lr B C l)(hn:l.h≠.no):Lr B C {l with h:=.raw (Cz l.h)}:=⟨R.r,R.pp,R.pw,R.pt,R.pg,R.ps,R.di,R.na,Ll.raw,R.hP,R.hS,R.hD,λ_=>R.hw hn⟩
def Fb (B:Bd)(C C':Hw):Prop:=∀a o,(∀i,a≠B i)->C a=some o->C' a=some o
def Fb.up (f:Fb B C C')(i:Fin 5):Fb B C (up C' (B i) o):=λc u h1 h=>by rw[Zn (h1 i)];exact f c u h1 h
abbrev oQ (l:Gx)(ev:Str)(j:Nat)(x:Str):Ev:=⟨ev,j,x,l.k⟩
def Zci (l:Gx)(ev:Str)(j:Nat)(x:Str):Gx:={l with G:=l.G++[oQ l ev j x]}
def zo {j:Nat}(R:Lr B C l)(hj:l.D[j]?=some z)(hg:l.G.length<=100000)(q:Q .non (up C (B 4) (.lst ((l.G++[oQ l ev j z.2]).map Ap)))):Z4 pr (n+1) j9 [.ref (B 0),.str ev,nT j] C Q χ:=by
 refine yF FQ ?_;refine⟨_,FQ,_,_,_,_,FQ,FQ,.inl R.r,Va,_,FQ,_,_,R.pt,Zbn (x:=ny z) (by rw[XM,hj];rfl),_,Y2,?_⟩;refine⟨_,FQ,_,_,_,_,FQ,FQ,.inl R.r,pD,⟨_,_,FQ,R.pg⟩,?_⟩;have e:l.G.map Ap++[Ap (oQ l ev j z.2)]=(l.G++[oQ l ev j z.2]).map Ap:=by rw[XL];rfl
 rw[<-e] at q;exact⟨_,FQ,_,FQ,_,FQ,_,FQ,_,_,_,_,FQ,FQ,.inl R.r,Lw,ZNB FQ,_,_,_,FQ,FQ,R.pg,Yc (by rw[XI];exact hg),q⟩
def bi (l:Gx)(x:Str)(c:yx):Gx:=Zci {l with D:=l.D++[(c,x)]} "born" l.D.length x
def Ek (R:Lr B C l)(hc:G5 (B 0) C l.k c)(hd:l.D.length<=90000)(hg:l.G.length<=100000)(q:∀C',Fb B C C'->Kp (B 0) C C'->Lr B C' (bi l x c)->Q (nT l.D.length) C'):Z4 pr (n+2) zR [.ref (B 0),.str x,tt c.t,.ref c.a] C Q χ:=by
 refine zc FQ ?_;refine⟨_,FQ,_,_,_,_,FQ,FQ,.inl R.r,Va,⟨_,_,FQ,R.pt⟩,?_⟩;refine⟨_,FQ,_,FQ,_,FQ,ZNB FQ,_,_,_,FQ,FQ,R.pt,Yc (by rw[XI];omega),?_⟩;have e:l.D.map ny++[ny (c,x)]=(l.D++[(c,x)]).map ny:=by rw[XL];rfl
 have R1:=R.s3 (l.D++[(c,x)]) (λz hz=>by
  rcases XS.mp hz with hz | hz
  ·exact R.hD z hz
  ·rw[XQ.mp hz];exact hc)
 rw[<-e] at R1;have el:((((l.D++[(c,x)]).map ny).length:Nat):Int)-1=((l.D.length:Nat):Int):=by rw[List.length_map,List.length_append];simp
 refine⟨_,FQ,_,FQ,_,_,_,_,FQ,FQ,.inl R1.r,Va,_,FQ,_,R1.pt,?_⟩;dsimp only[Wp,Zy,eC];rw[el];refine zo (n:=n) (z:=(c,x)) R1 (by simp) hg ?_;have R2:=R1.s4 (l.G++[oQ l "born" l.D.length x]);refine⟨_,FQ,_,_,_,_,FQ,FQ,.inl R2.r,Va,_,FQ,_,R2.pt,?_⟩;dsimp only[Wp,eC];rw[el];exact q _ (Fb.up (Fb.up (λ_ _ _ h=>h) 3) 4) (Kp.trans (Kp.l R.pt) (Kp.l R1.pg)) R2
def pF:Y3 (Wq kvs kk v) j=if j=kk then some v else Y3 kvs j:=by
 have key:∀kvs:List (Yo×T),Y3 (kvs.map λz=>if z.1=kk then(z.1,v) else z) j=if j=kk/\(kvs.any λz=>decide (z.1=kk))=true then some v else Y3 kvs j:=by
  intro kvs
  induction kvs with
  | nil=>simp[Y3]
  | cons z r ih=>
   unfold Y3 at ih |-;rw[YI,FB,FB,DE];by_cases c:z.1=kk
   ·rw[XY c];by_cases d:j=kk
    ·subst d;simp[c]
    ·have:¬z.1=j:=λe=>d (e.symm.trans c);simp only[this,decide_false,d,false_and,if_false];rw[ih];simp[d]
   ·rw[XX c];by_cases d:z.1=j
    ·have:¬j=kk:=λe=>c (d.trans e);simp[d,this]
    ·simp only[d,decide_false,c,Bool.false_or];exact ih
 unfold Wq
 split
 next h=>rw[key];simp[h]
 next h=>
  unfold Y3;rw[List.find?_append];by_cases d:j=kk
  ·subst d;have:kvs.find? (λz=>decide (z.1=j))=none:=DD.mpr λz hz e=>h (DM.mpr ⟨z,hz,e⟩);rw[this,if_pos rfl];simp
  ·rw[XX d];have:¬kk=j:=λe=>d e.symm
   cases kvs.find? (λz=>decide (z.1=j))<;>simp[this]
def rW:(Wq kvs kk v).length<=kvs.length+1:=by
 unfold Wq
 split<;>simp
def mU {M:Mn}{x:Str}{i:Nat}(h:x∉M.map (·.1))(y:Str):mo (M++[(x,i)]) y=if y=x then some i else mo M y:=by
 unfold mo;rw[List.find?_append];by_cases d:y=x
 ·subst d;have:M.find? (λz=>decide (z.1=y))=none:=DD.mpr λz hz e=>h (XR.mpr ⟨z,hz,of_decide_eq_true e⟩);rw[this,if_pos rfl];simp
 ·rw[XX d];have:¬x=y:=λe=>d e.symm
  cases M.find? (λz=>decide (z.1=y))<;>simp[this]
def K8 {Γ ns:List Str}{ms:List Nat}{u w:T}(K:Dk g C k a E Γ)(hg:C g≠none)(hl:ns.length=ms.length)(h5:ns.length<=5)(hn:ns.Nodup)(hk:0<=k/\k<=1000)(hk':k+1<=k')
  (hu:(u=.tup (ns.map T.str)/\w=.tup (ms.map nT))\/∃p1 p2,u=.ref p1/\w=.ref p2/\C p1=some (.lst (ns.map T.str))/\C p2=some (.lst (ms.map nT)))
  (q:∀p C',Ex C C'->Dk g C' k' p (ov E (mo (ns.zip ms))) (ns++Γ)->Q (.ref p) C'):Z4 pr (n+1) Bf [.ref a,u,w] C Q χ:=by
 refine Cj FQ ?_;obtain⟨kvs,h1,h2,h3⟩:=K.d;refine⟨_,FQ,_,_,FQ,.inl h1,λp hp=>?_⟩;have hpg:p≠g:=λe=>by subst e;exact hg hp
 have zl:(ns.zip ms).length=ns.length:=by rw[EE];omega
 have ez:Ko (ns.map T.str) (ms.map nT)=(ns.zip ms).map λz=>.tup [.str z.1,nT z.2]:=by
  unfold Ko;rw[List.zipWith_map_left,List.zipWith_map_right,List.zip,List.map_zipWith]
 have fin:∀(ok:Hw->Prop),(∀C',Ex C C'->ok C')->ya (bE (Iq (Bl 4) (Iq (Bl 5) jD))) (T7 (Z6 5) (fo (Z6 3) (Z6 4))) ok {nx:=λτ C1=>rQ (Z6 3) {nx:=λ_ C'=>Q .non C',rt:=Q,xc:=χ} τ C1,rt:=Q,xc:=χ} (Ko (ns.map T.str) (ms.map nT)) [some (.ref a),some u,some w,some (.ref p),none,none] (up C p (.dic kvs)):=by
  intro ok hok;rw[ez];refine Wb (λi τ C'=>∃x4 x5 ks,τ=[some (.ref a),some u,some w,some (.ref p),x4,x5]/\Ex C C'/\C' p=some (.dic ks)/\(∀y,Y3 ks (.inr y)=(ov E (mo ((ns.zip ms).take i)) y).map nT)/\ks.length<=kvs.length+i) ⟨none,none,kvs,FQ,Ex.new hp,Zh,λy=>by rw[h2];rfl,XE _⟩ (λ_ _ C' _ h=>by obtain⟨_,_,_,_,h,_⟩:=h;exact hok C' h) ?_ ?_
  ·rintro i x τ C' N hx ⟨x4,x5,ks,rfl,hE,hC,hG,hL⟩ hN;rw[XM] at hx
   cases hz:(ns.zip ms)[i]? with
   | none=>rw[hz] at hx;cases hx
   | some z=>
    rw[hz] at hx
    cases hx
    have hi:=(BW.mp hz).1;refine⟨_,FQ,_,_,FQ,_,_,FQ,FQ,_,FQ,_,FQ,_,FQ,_,_,_,FQ,FQ,hC,Yc (by omega),hN _ _ ⟨_,_,_,FQ,hE.up hp,Zh,λy=>?_,?_⟩⟩
    ·rw[pF,hG,YD,hz];have hni:z.1∉((ns.zip ms).take i).map (·.1):=λhm=>by
      rw[EQ,FN (by omega)] at hm;obtain⟨j,hj,e⟩:=List.mem_take_iff_getElem.mp hm;have e2:ns[i]?=some z.1:=by
       have:=congrArg (Option.map (·.1)) hz;rw[<-XM,FN (by omega)] at this;exact this
      have e3:ns[j]?=some z.1:=by rw[<-e];exact CW _
      have:=(DT (show j<ns.length by omega) hn).mp (e3.trans e2.symm);omega
     unfold ov tT;show _=Option.map nT (match mo ((ns.zip ms).take i++[z]) y with | some i=>some i | none=>E y);rw[mU (x:=z.1) (i:=z.2) hni];by_cases d:y=z.1
     ·subst d;simp
     ·rw[XX d,XX (λe=>d (Sum.inr.inj e))]<;>rfl
    ·have:=rW (kvs:=ks) (kk:=.inr z.1) (v:=nT z.2);omega
  ·rintro τ C' ⟨x4,x5,ks,rfl,hE,hC,hG,hL⟩;rw[XI] at hG hL;rw[CG] at hG;refine⟨_,FQ,q p C' hE ⟨hpg,⟨ks,hC,hG,by omega⟩,λy hy=>?_⟩⟩;unfold ov tT
   cases e:mo (ns.zip ms) y with
   | some i=>simp
   | none=>
    rcases XS.mp hy with hy | hy
    ·exact absurd e ((vg hl y).mp hy)
    ·exact K.c y hy
 rcases hu with⟨rfl,rfl⟩ | ⟨p1,p2,rfl,rfl,e1,e2⟩
 ·exact⟨_,FQ,_,FQ,.inl ⟨_,_,FQ,by rw[XI,XI];exact hl,fin _ λ_ _=>trivial⟩⟩
 ·have E1:=Ex.new (C:=C) (o:=.dic kvs) hp;exact⟨_,FQ,_,FQ,.inr (.inr ⟨_,_,_,_,FQ,E1 _ _ e1,E1 _ _ e2,by rw[XI,XI];exact hl,fin _ λC' e=>⟨e _ _ e1,e _ _ e2⟩⟩)⟩
end
open PySem PySem.Spec PyProof.Rows L2 WL
def Qw (h:one s=none):∀m,B1 m s=s
 | 0=>rfl
 | m+1=>by unfold B1;rw[h]
def iK:∀(m m':Nat) {s:St},Ok d s->mu s<=m->mu s<=m'->B1 m s=B1 m' s:=by
 intro m
 induction m with
 | zero=>
  intro m' s q h h';have e:one s=none:=by
   cases e:one s with
   | none=>rfl
   | some s'=>have:=(Ic q e).2.1;omega
  rw[Qw e,Qw e]
 | succ m ih=>
  intro m' s q h h'
  cases e:one s with
  | none=>rw[Qw e,Qw e]
  | some s'=>
   obtain⟨q',hl,_⟩:=Ic q e;obtain⟨m1,rfl⟩:∃m1,m'=m1+1:=⟨m'-1,by omega⟩;unfold B1;rw[e];exact ih m1 q' (by omega) (by omega)
structure Rc (d:Nat)(s s':St):Prop where
 o:Ok d s'
 e:Jl s=Jl s'
 m:mu s'<=mu s
def Rc.go (r:Rc d s s')(h:one s'=some s2):Rc d s s2/\mu s2<mu s:=by
 obtain⟨q',hl,_⟩:=Ic r.o h;have hm:=r.m;refine⟨⟨q',r.e.trans ?_,by omega⟩,by omega⟩;unfold Jl;obtain⟨m1,e1⟩:∃m1,mu s'=m1+1:=⟨mu s'-1,by omega⟩;rw[e1];show(match one s' with | some s'=>B1 m1 s' | none=>s')=_;rw[h];exact iK _ _ q' (by omega) (XE _)
def vn {a b:Str}(h:a.cps.toList=b.cps.toList):a=b:=Str.ext' (Array.toList_inj.mp h)
def yh (x y:Str):(x++y).cps.toList=x.cps.toList++y.cps.toList:=by rw[Str.cps_append,Array.toList_append]
def pc (ws:List Str):(Txt.join ("":Str) ws).cps.toList=ws.flatMap λw=>w.cps.toList:=by
 show(PySem.Builtin.Str.glued ("":Str) ws).cps.toList=_;rw[PySem.StrLaws.glued_eq_join]
 induction ws with
 | nil=>rfl
 | cons w r ih=>
  cases r with
  | nil=>show w.cps.toList=w.cps.toList++[];rw[YK]
  | cons v r=>
   show(w++("":Str)++Str.join ("":Str) (v::r)).cps.toList=_;rw[yh,yh,ih];show w.cps.toList++[]++_=w.cps.toList++_;rw[YK];rfl
structure Wd (W U:List Str):Prop where
 e:(W.flatMap λw=>w.cps.toList)=U.flatMap λw=>w.cps.toList
 n:W.length<=U.length
def Wd.one {W U:List Str}(h:Wd W U)(x:Str):Wd (W++[x]) (U++[x]):=⟨by rw[List.flatMap_append,List.flatMap_append,h.e],by have:=h.n;simp;omega⟩
def Wd.two {W U:List Str}(h:Wd W U)(x y:Str):Wd (W++[x++y]) (U++[x]++[y]):=⟨by rw[List.flatMap_append,List.flatMap_append,List.flatMap_append,h.e];simp[yh],by have:=h.n;simp;omega⟩
def G6:Sv (pu E t)=Sv t:=by
 cases t with
 | nm x=>show Sv (match E x with | some i=>.at_ i | none=>.nm x)=_;cases E x<;>rfl
 | _=>rfl
def G7:Sb (.tm (pu E t))=Sb (.tm t):=by
 cases t with
 | nm x=>show Sb (.tm (match E x with | some i=>.at_ i | none=>.nm x))=_;cases E x<;>rfl
 | _=>rfl
def gQ {h:LH}(hn:h≠.no)(hr:∀x,h≠.raw x):∃w r,Cz h=.tup (.str w::r)/\Kn (.str w) [.str "number",.str "fun",.str "made"]=Qs (T9 h)/\(w=="stop")=(Sb (T9 h)).isSome:=by
 cases h with
 | no=>exact absurd FQ hn
 | raw x=>exact absurd FQ (hr x)
 | made c ms=>exact⟨_,_,FQ,by show _=true;decide+kernel,by show _=false;decide+kernel⟩
 | th i=>exact⟨_,_,FQ,by show _=false;decide+kernel,by show _=false;decide+kernel⟩
 | cl c=>
  obtain⟨w,r,e⟩:=xB c.t;refine⟨w,r,e,(bu (h:=.tm c.t) e).trans G6.symm,(dY (h:=.tm c.t) e).trans ?_⟩;show _=(Sb (.tm (pu c.E c.t))).isSome;rw[G7]
section
variable {B:Bd}{C C':Hw}{l l':Gx}{Q:WK}{χ:WX}{n d:Nat}{U:List Str}
def kx (o:Ok d (ab l U))(w:Wd l.W U):l.W.length<=9000:=by
 have h1:=o.nU;have h2:=o.k0;have h3:=w.n;have e:(ab l U).U=U:=rfl;rw[e] at h1
 split at h1<;>omega
def uc {W:List Str}:W.map T.str++[.str x]=(W++[x]).map T.str:=by rw[XL];rfl
def nM (R:Lr B C l)(o:Ok d (ab l U))(w:Wd l.W U)(hr:∀x,l.h≠.raw x)(hv:Qs (T9 l.h)=true)(h1:one (ab l U)=some (xn (ab l U)))
  (q:∀C' l' U',Lr B C' l'->l'.h=.no->Wd l'.W U'->Rc d (ab l U) (ab l' U')->mu (ab l' U')<mu (ab l U)->Q .non C'):Z4 pr (n+1) j0 [.ref (B 0)] C Q χ:=by
 refine yC FQ ?_;refine⟨_,FQ,_,_,_,_,FQ,FQ,.inl R.r,Fa,?_⟩;refine ga (vM (h:=.no)) FQ R.r ?_;have R1:=R.s0 {l with h:=.no} (XW _) (λc e=>by cases e) (λz=>absurd FQ z);have hW:=kx o w;have r0:Rc d (ab l U) (ab l U):=⟨o,FQ,XE _⟩;obtain⟨r1,_⟩:=r0.go h1;have word:∀(x:Str),(zx (T9 l.h) (l.w-1))=[.word x]->∀C2,C2=up (up C (B 0) (.dic (gk B {l with h:=.no}))) (B 2) (.lst (l.W.map T.str++[.str x]))->Q .non C2:=by
  intro x hx C2 e2;subst e2;rw[uc];have e3:one (xn (ab l U))=some (ab {l with h:=.no,W:=l.W++[x]} (U++[x])):=by
   refine(N8 FQ FQ).trans ?_;unfold Gy xn;show some (match (l.S.map uO++(zx (T9 l.h) (l.w-1)).reverse).getLast? with | none=>_ | some (.word x)=>_ | some (.part D t)=>_)=_;rw[hx,List.reverse_singleton,List.getLast?_concat];simp only[List.dropLast_concat];show some ({ab l U with S:=(l.S.map uO++(zx (T9 l.h) (l.w-1)).reverse).dropLast,U:=U++[x],h:=.no}:St)=_;rw[hx,List.reverse_singleton,List.dropLast_concat];rfl
  obtain⟨r2,m2⟩:=r1.go e3;exact q _ _ _ (R1.s2 (l.W++[x])) FQ (w.one x) r2 m2
 have hh:=o.h
 cases hl:l.h with
 | no=>rw[hl] at hv;cases hv
 | raw x=>exact absurd hl (hr x)
 | th i=>rw[hl] at hv;cases hv
 | cl c=>
  rw[hl] at hv;have hv':Sv c.t=true:=by rw[<-G6 (E:=c.E)];exact hv
  have hh':ok (ab l U).L.length d [] (pu c.E c.t):=by have z:Td (ab l U).L.length d (T9 l.h):=hh;rw[hl] at z;exact z
  cases ht:c.t with
  | num v=>
   have et:Cz (.cl c)=.tup [.str "number",.int v]:=by show tt c.t=_;rw[ht];rfl
   rw[ht] at hh';rw[et];refine⟨_,FQ,_,Zo,Zx (v:=true) (XU _) ⟨_,FQ,Z5 ?_⟩⟩;refine⟨_,FQ,_,_,_,_,FQ,FQ,.inl R1.r,Uw,⟨_,_,FQ,R1.pw⟩,_,FQ,_,Z1,.inl ⟨_,FQ,lg hh'.1 hh'.2,_,_,_,FQ,FQ,R1.pw,Yc (by rw[XI];show l.W.length<=_;omega),?_⟩⟩;exact word (xW v) (by rw[hl];show zx (.tm (pu c.E c.t)) _=_;rw[ht];rfl) _ FQ
  | fn x b=>
   have et:Cz (.cl c)=.tup [.str "fun",.str x,tt b]:=by show tt c.t=_;rw[ht];rfl
   rw[et];refine⟨_,FQ,_,Zo,Zx (v:=false) (by decide+kernel) ⟨_,FQ,Zq ?_⟩⟩;refine⟨_,FQ,_,Zo,Zx (v:=true) (XU _) ⟨_,FQ,Z5 ?_⟩⟩;refine⟨_,FQ,_,_,_,_,FQ,FQ,.inl R1.r,Uw,⟨_,_,FQ,R1.pw⟩,_,_,_,FQ,FQ,R1.pw,Yc (by rw[XI];show l.W.length<=_;omega),?_⟩;exact word "fun" (by rw[hl];show zx (.tm (pu c.E c.t)) _=_;rw[ht];rfl) _ FQ
  | _=>rw[ht] at hv';cases hv'
 | made c ms=>
  have hh':Td (ab l U).L.length d (.made c ms):=by have z:Td (ab l U).L.length d (T9 l.h):=hh;rw[hl] at z;exact z
  refine⟨_,FQ,_,Zo,Zx (v:=false) (by decide+kernel) ⟨_,FQ,Zq ?_⟩⟩;refine⟨_,FQ,_,Zo,Zx (v:=false) (by decide+kernel) ⟨_,FQ,Zq ?_⟩⟩;have h2:ms.length=0\/ms.length=2:=by rw[hh'.2.1];unfold ar;split<;>simp
  match ms,h2,hl with
  | [],_,hl=>
   refine⟨_,FQ,_,Y2,_,FQ,Vi (v:=true) FQ ⟨_,FQ,Z5 ?_⟩⟩;refine⟨_,FQ,_,_,_,_,FQ,FQ,.inl R1.r,Uw,⟨_,_,FQ,R1.pw⟩,_,FQ,_,Z1,_,_,_,FQ,FQ,R1.pw,Yc (by rw[XI];show l.W.length<=_;omega),?_⟩;exact word c (by rw[hl];rfl) _ FQ
  | [i,j],_,hl=>
   refine⟨_,FQ,_,Y2,_,FQ,Vi (v:=false) FQ ⟨_,FQ,Zq ?_⟩⟩;have lc:=hh'.1.2;have lp:("(":Str).length=1:=by decide+kernel
   have ls:(" ":Str).length=1:=by decide+kernel
   have lpc:("("++c:Str).length=("(":Str).length+c.length:=YC _ _;refine⟨_,FQ,_,_,_,_,FQ,FQ,.inl R1.r,Uw,⟨_,_,FQ,R1.pw⟩,_,FQ,_,Z1,Ya (by omega),Ya (by omega),_,_,_,FQ,FQ,R1.pw,Yc (by rw[XI];show l.W.length<=_;omega),?_⟩;rw[uc];have R2:=R1.s2 (l.W++["("++c++" "]);refine⟨_,FQ,_,_,_,_,FQ,FQ,.inl R2.r,lC,?_⟩;refine⟨_,FQ,_,Y2,_,Zo,ZNB FQ,λa1 ha1=>⟨_,FQ,ZNB FQ,?_⟩⟩;have R3:=R2.ex (Ex.new (o:=.dic []) ha1);refine⟨_,FQ,_,Y2,_,Z1,ZNB FQ,λa2 ha2=>⟨_,FQ,ZNB FQ,?_⟩⟩;have R4:=R3.ex (Ex.new (o:=.dic []) ha2);refine⟨_,FQ,_,_,_,_,FQ,FQ,.inl R4.r,zW,_,FQ,_,FQ,ZNB FQ,λp3 hp3=>?_⟩;have R5:=R4.ex (Ex.new (o:=.lst [.str ")",.tup [.tup [.str "thing",nT j],.ref a2,.int (l.w-1)],.str " ",.tup [.tup [.str "thing",nT i],.ref a1,.int (l.w-1)]]) hp3);have hS9:l.S.length<=9000:=by
    have z1:=o.nU;have z2:=o.k0;have e:(ab l U).S.length=l.S.length:=XI _;rw[e] at z1
    split at z1<;>omega
   refine⟨_,_,R5.ps,Zh,Ya (by rw[XI];show l.S.length+4<=_;omega),λp4 hp4=>?_⟩;have h1w:1<=l.w:=R.hw (by rw[hl];intro z;cases z);have R6:=R5.s6 (l.S++[.word ")",.part (l.w-1) (.th j) a2,.word " ",.part (l.w-1) (.th i) a1]) hp4 (λx hx=>by
    rcases XS.mp hx with hx | hx
    ·exact R5.hS x hx
    ·simp only[ZM,ZN,or_false] at hx
     rcases hx with rfl | rfl | rfl | rfl
     ·trivial
     ·exact⟨(λc e=>by cases e),.inl ⟨_,FQ⟩,by omega⟩
     ·trivial
     ·exact⟨(λc e=>by cases e),.inl ⟨_,FQ⟩,by omega⟩)
   rw[XL (f:=xp)] at R6;refine ga (lA (a:=p4)) FQ (R5.ex (Ex.new hp4)).r ?_;have e3:one (xn (ab l U))=some {ab l U with h:=.no,S:=l.S.map uO++[.word ")",.part (l.w-1) (.at_ j),.word " ",.part (l.w-1) (.at_ i),.word " "],U:=U++["("++c]}:=by
    refine(N8 FQ FQ).trans ?_;have ep:(xn (ab l U)).S=(l.S.map uO++[.word ")",.part (l.w-1) (.at_ j),.word " ",.part (l.w-1) (.at_ i),.word " "])++[.word ("("++c)]:=by
     show l.S.map uO++(zx (T9 l.h) (l.w-1)).reverse=_;rw[hl,YL];rfl
    unfold Gy;rw[ep,List.getLast?_concat,List.dropLast_concat];rfl
   obtain⟨r2,m2⟩:=r1.go e3;have e4:one {ab l U with h:=.no,S:=l.S.map uO++[.word ")",.part (l.w-1) (.at_ j),.word " ",.part (l.w-1) (.at_ i),.word " "],U:=U++["("++c]}=some (ab {l with h:=.no,W:=l.W++["("++c++" "],ra:=p4,S:=l.S++[.word ")",.part (l.w-1) (.th j) a2,.word " ",.part (l.w-1) (.th i) a1]} (U++["("++c]++[(" ":Str)])):=by
    refine(N8 FQ FQ).trans ?_;have ep:l.S.map uO++[Pc.word ")",.part (l.w-1) (.at_ j),.word " ",.part (l.w-1) (.at_ i),.word " "]=(l.S.map uO++[.word ")",.part (l.w-1) (.at_ j),.word " ",.part (l.w-1) (.at_ i)])++[.word " "]:=by rw[YL];rfl
    unfold Gy ab;simp only[ep,List.getLast?_concat,List.dropLast_concat,List.map_append];rfl
   obtain⟨r3,m3⟩:=r2.go e4;exact q _ _ _ R6 FQ (w.two _ _) r3 m3
def kl {al:List Al}:(U1 c (al.map λz=>(z.1,z.2.1,pu (Vb E z.2.1) z.2.2))).isSome=Kn (.str c) (al.map λz=>.str z.1):=by
 unfold U1 Kn
 induction al with
 | nil=>rfl
 | cons z r ih=>
  rw[YI,YI,FB,DE,<-ih];have e:WL.eqT (.str z.1) (.str c)=decide (z.1=c):=by unfold WL.eqT;by_cases h:z.1=c<;>simp[h]
  rw[e]
  cases decide (z.1=c)<;>rfl
def nQ {f:LF}{h:LH}(hn:h≠.no)(hr:∀x,h≠.raw x)(hb:Sd (Ba f)=none)(ha:∀al E a Γ,f=.pick al E a Γ->al.length<=1000)(q:∀C',Ex C C'->Q (.bl (Qp (T9 h) (Ba f))) C'):Z4 pr (n+1) jB [Ss f,Cz h] C Q χ:=by
 refine yH FQ ?_;obtain⟨w,r,ew,_,_⟩:=gQ hn hr;have q0:=q C (Ex.refl C);have eN:(w=="number")=Gp (T9 h):=by
  cases h with
  | no=>exact absurd FQ hn
  | raw x=>exact absurd FQ (hr x)
  | made c ms=>cases ew;show _=false;decide+kernel
  | th i=>cases ew;show _=false;decide+kernel
  | cl c=>
   obtain⟨t,E,a,Γ⟩:=c
   cases t with
   | nm x=>cases ew;show _=Gp (.tm (match E x with | some i=>.at_ i | none=>.nm x));cases E x<;>(show _=false;decide+kernel)
   | num v=>cases ew;show _=true;decide+kernel
   | _=>cases ew;show _=false;decide+kernel
 have eF:(w=="fun")=isFn (T9 h):=by
  cases h with
  | no=>exact absurd FQ hn
  | raw x=>exact absurd FQ (hr x)
  | made c ms=>cases ew;show _=false;decide+kernel
  | th i=>cases ew;show _=false;decide+kernel
  | cl c=>
   obtain⟨t,E,a,Γ⟩:=c
   cases t with
   | nm x=>cases ew;show _=isFn (.tm (match E x with | some i=>.at_ i | none=>.nm x));cases E x<;>(show _=false;decide+kernel)
   | fn x b=>cases ew;show _=true;decide+kernel
   | _=>cases ew;show _=false;decide+kernel
 cases f with
 | back i=>cases hb
 | pick al E a Γ=>
  refine⟨_,FQ,_,Zo,Zx (v:=true) (XU _) ⟨_,FQ,Z5 ?_⟩⟩
  cases h with
  | no=>exact absurd FQ hn
  | raw x=>exact absurd FQ (hr x)
  | made c ms=>
   refine⟨_,FQ,_,Zo,Zx (v:=true) (XU _) ⟨_,FQ,Z5 ?_⟩⟩;refine⟨_,FQ,_,Z1,_,FQ,_,Z1,?_⟩;refine Xu (λt=>match t with | .tup (x::_)=>x | _=>.non) trivial (Ya (by rw[XI];have:=ha al E a Γ FQ;omega)) (λx hx R hR=>?_) λp hp=>?_
   ·obtain⟨z,_,rfl⟩:=XR.mp hx;exact⟨_,FQ,_,Zo,hR⟩
   ·have em:(al.map wU).map (λt=>match t with | .tup (x::_)=>x | _=>.non)=al.map λz=>.str z.1:=by rw[YE];rfl
    refine⟨_,Zh,Jd,?_,?_⟩
    ·rw[em];exact Od.mpr λx hx=>by obtain⟨z,_,rfl⟩:=XR.mp hx;exact Jd
    ·have:=q _ (Ex.new (o:=.lst (al.map λz=>.str z.1)) hp);rw[em];show Q (.bl (Kn (.str c) (al.map λz=>.str z.1))) _;rw[<-kl (E:=E)];exact this
  | th i=>exact⟨_,FQ,_,Zo,Zx (v:=false) (by decide+kernel) ⟨_,FQ,Zq q0⟩⟩
  | cl c=>
   have hw:(w=="made")=false:=by
    obtain⟨t,E,a,Γ⟩:=c
    cases t<;>(cases ew;decide+kernel)
   rw[ew];exact⟨_,FQ,_,Zo,Zx hw ⟨_,FQ,Zq q0⟩⟩
 | give c=>
  rw[ew];refine⟨_,FQ,_,Zo,Zx (v:=false) (by decide+kernel) ⟨_,FQ,Zq ?_⟩⟩;refine⟨_,FQ,_,Zo,Zx (v:=true) (XU _) ⟨_,FQ,Z5 ?_⟩⟩;exact⟨_,FQ,_,Zo,Zx eF q0⟩
 | first c=>
  refine⟨_,FQ,_,Zo,Zx (v:=false) (by decide+kernel) ⟨_,FQ,Zq ?_⟩⟩;refine⟨_,FQ,_,Zo,Zx (v:=false) (by decide+kernel) ⟨_,FQ,Zq ?_⟩⟩;exact⟨_,FQ,_,Zo,Zx (v:=true) (XU _) ⟨_,FQ,Z5 q0⟩⟩
 | left o c=>
  rw[ew];refine⟨_,FQ,_,Zo,Zx (v:=false) (by decide+kernel) ⟨_,FQ,Zq ?_⟩⟩;refine⟨_,FQ,_,Zo,Zx (v:=false) (by decide+kernel) ⟨_,FQ,Zq ?_⟩⟩;exact⟨_,FQ,_,Zo,Zx (v:=false) (by decide+kernel) ⟨_,FQ,Zq ⟨_,FQ,_,Zo,Zx eN q0⟩⟩⟩
 | right o v a=>
  rw[ew];refine⟨_,FQ,_,Zo,Zx (v:=false) (by decide+kernel) ⟨_,FQ,Zq ?_⟩⟩;refine⟨_,FQ,_,Zo,Zx (v:=false) (by decide+kernel) ⟨_,FQ,Zq ?_⟩⟩;exact⟨_,FQ,_,Zo,Zx (v:=false) (by decide+kernel) ⟨_,FQ,Zq ⟨_,FQ,_,Zo,Zx eN q0⟩⟩⟩
end
open PySem PySem.Spec PyProof.Rows L2 WL
def Re (r:Str)(X:St)(l:Gx)(U:List Str):Prop:=
 (r="told"/\X={ab l U with e:=.told (Txt.join "" U)})\/(r="stop"/\∃c x,l.h=.cl c/\c.t=.stop x/\X={ab l U with e:=.stop x})\/(r="stuck"/\X={ab l U with e:=.stuck})\/(r=""/\X=ab l U/\one X=none)
def J5 (h:one s=none):Jl s=s:=Qw h _
section
variable {B:Bd}{C C':Hw}{l l':Gx}{Q:WK}{χ:WX}{n d:Nat}{U:List Str}
def jv {α β:Type}{f:α->β}{L:List α}{x:α}(h:L.getLast?=some x):(L.map f).getLast?=some (f x):=by rw[List.getLast?_map,h];rfl
def oA {α:Type}{xs:List α}{x:α}:Sg (xs++[x]) (-1)=some x:=by
 unfold Sg tR;have e:(-1+((xs.length:Int)+1)).toNat=xs.length:=by omega
 simp;rw[XY (by omega),e];simp
def rJ (R:Lr B C l)(o:Ok d (ab l U))(w:Wd l.W U)(hr:∀x,l.h≠.raw x)
  (q:∀r C' l' U',Lr B C' l'->Wd l'.W U'->(∀x,l'.h≠.raw x)->Re r (Jl (ab l U)) l' U'->Ok d (ab l' U')->Q (.str r) C'):Z4 pr (n+2) wB [.ref (B 0)] C Q χ:=by
 refine xy FQ ?_;generalize hX:Jl (ab l U)=X at q;refine Sh (λm τ C'=>∃x1 x2 l' U',τ=[some (.ref (B 0)),x1,x2]/\Lr B C' l'/\Ok d (ab l' U')/\Wd l'.W U'/\(∀x,l'.h≠.raw x)/\mu (ab l' U')<=m/\Jl (ab l' U')=X) (m:=mu (ab l U)) ⟨_,_,l,U,FQ,R,o,w,hr,XE _,hX⟩ ?_;clear R o w hr hX;rintro m τ C1 N ⟨x1,x2,l,U,rfl,R,o,w,hr,hm,hX⟩ hN;have r0:Rc d (ab l U) (ab l U):=⟨o,FQ,XE _⟩;have hW:=kx o w;have nxt:∀{x1 x2} {C2:Hw} {l2:Gx} {U2:List Str},Lr B C2 l2->Wd l2.W U2->(∀x,l2.h≠.raw x)->Rc d (ab l U) (ab l2 U2)->mu (ab l2 U2)<mu (ab l U)->N [some (.ref (B 0)),x1,x2] C2:=λR2 w2 hr2 c2 m2=>
  hN _ _ _ (XG m2 hm) ⟨_,_,_,_,FQ,R2,c2.o,w2,hr2,XE _,c2.e.symm.trans hX⟩
 refine⟨true,FQ,Z5 ?_⟩;refine⟨_,FQ,_,_,_,_,FQ,FQ,.inl R.r,Fa,?_⟩;by_cases hno:l.h=.no
 ·rw[hno];refine⟨_,FQ,FQ,_,FQ,Z5 ?_⟩;have e1:one (ab l U)=some (Gy (ab l U)):=N8 FQ (by show B8 (T9 l.h)=true;rw[hno];rfl);refine⟨_,FQ,_,_,_,_,FQ,FQ,.inl R.r,zW,_,FQ,_,R.ps,?_⟩
  cases hs:l.S.getLast? with
  | none=>
   have e0:=Su hs;refine Vi (v:=true) (by rw[e0];rfl) ⟨_,FQ,Z5 ?_⟩;have et:Gy (ab l U)={ab l U with e:=.told (Txt.join "" U)}:=by unfold Gy;show(match (l.S.map uO).getLast? with | none=>_ | some (.word x)=>_ | some (.part D t)=>_)=_;rw[e0];rfl
   rw[et] at e1;refine q "told" _ l U R w hr (.inl ⟨FQ,?_⟩) o;rw[<-hX,(r0.go e1).1.e];exact J5 FQ
  | some y=>
   have sp:=Wj hs;have hyy:=R.hS y (X4 hs);generalize edl:l.S.dropLast=S' at sp;have eS:l.S.map xp=S'.map xp++[xp y]:=by rw[sp,XL];rfl
   have eP:(ab l U).S.getLast?=some (uO y):=jv hs;have eD:(ab l U).S.dropLast=S'.map uO:=by show(l.S.map uO).dropLast=_;rw[sp,List.map_append];simp
   refine Vi (v:=false) (by rw[eS,List.length_append];show((_:Int)==0)=false;simp;omega) ⟨_,FQ,Zq ?_⟩;have hps:=R.ps;rw[eS] at hps;refine⟨_,FQ,_,_,_,_,FQ,FQ,.inl R.r,zW,⟨_,_,FQ,hps⟩,_,_,_,FQ,FQ,hps,(by simp:(S'.map xp++[xp y])[(S'.map xp++[xp y]).length-1]?=some (xp y)),?_⟩;have ed:(S'.map xp++[xp y]).dropLast=S'.map xp:=by simp
   rw[ed];have R2:=R.s5 S' (λp hp=>R.hS p (by rw[sp];exact CA _ hp))
   cases y with
   | word x=>
    have et:Gy (ab l U)=ab {l with S:=S',W:=l.W++[x]} (U++[x]):=by unfold Gy;rw[eP,eD];rfl
    rw[et] at e1;refine⟨_,FQ,_,FQ,true,Zb8,Z5 ?_⟩;refine⟨_,FQ,_,_,_,_,FQ,FQ,.inl R2.r,Uw,⟨_,_,FQ,R2.pw⟩,_,FQ,_,_,_,FQ,FQ,R2.pw,Yc (by rw[XI];show l.W.length<=_;omega),?_⟩;have z:=R2.s2 (l.W++[x]);rw[<-uc] at z;exact nxt z (w.one x) hr (r0.go e1).1 (r0.go e1).2
   | part D h a=>
    obtain⟨y1,y2,y3⟩:=hyy;refine⟨_,FQ,_,FQ,false,Zb7,Zq ?_⟩;by_cases c:D=0
    ·have et:Gy (ab l U)=ab {l with S:=S',W:=l.W++[("?":Str)]} (U++[("?":Str)]):=by
      unfold Gy;rw[eP,eD];show(if D<=0 then _ else _)=_;rw[XY (by omega)];rfl
     rw[et] at e1;refine⟨_,FQ,_,Y2,Vi (v:=true) (by rw[c];rfl) ⟨_,FQ,Z5 ?_⟩⟩;refine⟨_,FQ,_,_,_,_,FQ,FQ,.inl R2.r,Uw,⟨_,_,FQ,R2.pw⟩,_,_,_,FQ,FQ,R2.pw,Yc (by rw[XI];show l.W.length<=_;omega),?_⟩;have z:=R2.s2 (l.W++[("?":Str)]);rw[<-uc] at z;exact nxt z (w.one _) hr (r0.go e1).1 (r0.go e1).2
    ·have eh:Hd.tm (bC (T9 h))=T9 h:=by rcases y2 with⟨i,rfl⟩ | ⟨c,rfl⟩<;>rfl
     have et:Gy (ab l U)=ab {l with S:=S',h:=h,ar:=a,w:=D} U:=by
      unfold Gy;rw[eP,eD];show(if D<=0 then _ else _)=_;rw[XX (by omega),eh];rfl
     rw[et] at e1;refine⟨_,FQ,_,Y2,Vi (v:=false) (by simpa using c) ⟨_,FQ,Zq ?_⟩⟩;refine⟨_,FQ,_,Zo,?_⟩;refine ga Vp FQ R2.r ?_;refine⟨_,FQ,_,Z1,?_⟩;refine ga Xb FQ Zh ?_;refine⟨_,FQ,_,Y2,?_⟩;refine ga lB FQ Zh ?_;rw[yA,yA];have hnr:∀x,h≠.raw x:=λx z=>by rcases y2 with⟨i,rfl⟩ | ⟨c,rfl⟩<;>cases z
     exact nxt (R2.s0 {l with S:=S',h:=h,ar:=a,w:=D} (XW _) (y1.mv (Kp.l R.ps) (XW _)) (λ_=>by show 1<=D;omega)) w hnr (r0.go e1).1 (r0.go e1).2
 ·obtain⟨wd,r,ew,eV,eSt⟩:=gQ hno hr;rw[ew];refine⟨_,FQ,FQ,_,FQ,Zq ?_⟩;have hnb:B8 (ab l U).h=false:=by show B8 (T9 l.h)=false;cases hh:l.h with | no=>exact absurd hh hno | raw x=>exact absurd hh (hr x) | _=>rfl
  refine⟨_,FQ,_,Zo,ZNB FQ,λp hp=>⟨_,Zh,Jd,by decide,_,FQ,?_⟩⟩;have R1:=R.ex (Ex.new (o:=.lst [.str "number",.str "fun",.str "made"]) hp);show if (!Kn (.str wd) [.str "number",.str "fun",.str "made"])=true then _ else _
  rw[eV];have hvI:Qs (ab l U).h=Qs (T9 l.h):=rfl
  cases hv:Qs (T9 l.h) with
  | false=>
   refine Z5 ?_;refine⟨ZNB FQ,λp2 hp2=>?_⟩;have R2:=R1.ex (Ex.new (o:=.lst [.str "",.str "stop"]) hp2);refine⟨_,FQ,_,Zo,Zx eSt ?_⟩
   cases hst:Sb (T9 l.h) with
   | none=>
    refine .inr ⟨_,FQ,_,_,Zh,Zo,?_⟩;have e1:one (ab l U)=none:=q8 FQ hnb hst hv;exact q "" _ l U R2 w hr (.inr (.inr (.inr ⟨FQ,by rw[<-hX];exact J5 e1,by rw[<-hX,J5 e1];exact e1⟩))) o
   | some x=>
    refine .inr ⟨_,FQ,_,_,Zh,Z1,?_⟩;have e1:one (ab l U)=some {ab l U with e:=.stop x}:=qy FQ hnb hst;have hc:∃c,l.h=.cl c/\c.t=.stop x:=by
     cases hh:l.h with
     | no=>exact absurd hh hno
     | raw x=>exact absurd hh (hr x)
     | made c ms=>rw[hh] at hst;cases hst
     | th i=>rw[hh] at hst;cases hst
     | cl c=>
      refine⟨c,FQ,?_⟩;have z:Sb (.tm (pu c.E c.t))=some x:=by rw[hh] at hst;exact hst
      rw[G7] at z
      cases ht:c.t<;>rw[ht] at z<;>first | (cases z;rfl) | cases z
    obtain⟨c,hc1,hc2⟩:=hc;refine q "stop" _ l U R2 w hr (.inr (.inl ⟨FQ,c,x,hc1,hc2,?_⟩)) o;rw[<-hX,(r0.go e1).1.e];exact J5 FQ
  | true=>
   refine Zq ?_;have hst:Sb (T9 l.h)=none:=by
    cases hh:l.h with
    | cl c=>
     have z:Sv (pu c.E c.t)=true:=by rw[hh] at hv;exact hv
     rw[G6] at z;show Sb (.tm (pu c.E c.t))=none;rw[G7]
     cases ht:c.t<;>rw[ht] at z<;>first | rfl | cases z
    | _=>rfl
   have e1:=kI (s:=ab l U) FQ hnb hst hv;refine⟨_,FQ,_,_,_,_,FQ,FQ,.inl R1.r,Wa,_,FQ,_,R1.pp,?_⟩
   cases hp1:l.P.getLast? with
   | none=>
    have e0:=Su hp1;refine Vi (v:=true) (by rw[e0];rfl) ⟨_,FQ,Z5 ?_⟩;have e2:one (ab l U)=some (xn (ab l U)):=qx e1 (by show(l.P.map Ba).getLast?=none;rw[e0];rfl);refine⟨_,FQ,?_⟩;dsimp only[Zy];exact nM (n:=n) R1 o w hr hv e2 λC' l' U' R' h' w' c' m'=>nxt R' w' (λx z=>by rw[h'] at z;cases z) c' m'
   | some f=>
    have sp:=Wj hp1;have hlF:(ab l U).P.getLast?=some (Ba f):=jv hp1;generalize edl:l.P.dropLast=P' at sp;have eP:l.P.map Ss=P'.map Ss++[Ss f]:=by rw[sp,XL];rfl
    refine Vi (v:=false) (by rw[eP,List.length_append];show((_:Int)==0)=false;simp;omega) ⟨_,FQ,Zq ?_⟩;have hpp:=R1.pp;rw[eP] at hpp;have hat:Sg (P'.map Ss++[Ss f]) (-1)=some (Ss f):=oA
    cases hb:Sd (Ba f) with
    | some i=>
     have ef:f=.back i:=by cases f<;>first | cases hb;rfl | cases hb
     subst ef;refine⟨_,FQ,_,_,_,_,FQ,FQ,.inl R1.r,Wa,_,_,hpp,hat,_,Zo,Zx (v:=true) (XU _) ⟨_,FQ,Z5 ?_⟩⟩;refine⟨_,FQ,_,FQ,_,_,_,_,FQ,FQ,.inl R1.r,Wa,⟨_,_,FQ,hpp⟩,_,_,_,FQ,FQ,hpp,(by simp:(P'.map Ss++[Ss (.back i)])[(P'.map Ss++[Ss (.back i)]).length-1]?=some (Ss (.back i))),_,Z1,?_⟩;have ed:(P'.map Ss++[Ss (.back i)]).dropLast=P'.map Ss:=by simp
     rw[ed];have R2:=R1.s1 P' (λg hg=>R1.hP g (by rw[sp];exact CA _ hg));have e2:one (ab l U)=some (tH (ab l U) i):=qB e1 hlF hb;have hi:i<l.D.length:=by
      have z:=o.P (.back i) (X4 hlF);have z2:i<(l.D.map (·.2)).length:=z;rw[XI] at z2;exact z2
     have hz:l.D[i]?=some l.D[i]:=CW hi;have hG:l.G.length<=9000:=by
      have z1:=o.nG;have z2:=o.k0;have e:(ab l U).G=l.G:=rfl;rw[e] at z1;omega
     dsimp only[Zy,eC];refine zo (n:=n) (z:=l.D[i]) R2 hz (by show l.G.length<=_;omega) ?_;have R3:=R2.s4 (l.G++[oQ l "back" i l.D[i].2]);have et:tH (ab l U) i=ab {l with P:=P',G:=l.G++[oQ l "back" i l.D[i].2]} U:=by
      unfold tH;have e1:(ab l U).P.dropLast=P'.map Ba:=by show(l.P.map Ba).dropLast=_;rw[sp,List.map_append];simp
      have e2:uT (ab l U) i=l.D[i].2:=by unfold uT;show((l.D.map (·.2))[i]?).getD ("":Str)=_;rw[XM,hz];rfl
      rw[e1,e2];rfl
     rw[et] at e2;exact nxt R3 w hr (r0.go e2).1 (r0.go e2).2
    | none=>
     have hnb2:∃w r,Ss f=.tup (.str w::r)/\(w=="back")=false:=by cases f<;>first | exact⟨_,_,FQ,by decide+kernel⟩ | cases hb
     obtain⟨w2,r2,ew2,eb2⟩:=hnb2;refine⟨_,FQ,_,_,_,_,FQ,FQ,.inl R1.r,Wa,_,_,hpp,hat,?_⟩;rw[ew2];refine⟨_,Zo,Zx eb2 ⟨_,FQ,Zq ?_⟩⟩;refine⟨_,FQ,_,_,_,_,FQ,FQ,.inl R1.r,Wa,_,_,hpp,hat,_,FQ,?_⟩;dsimp only[Zy];rw[<-ew];refine nQ (n:=n) hno hr hb ?_ λC2 E2=>⟨_,FQ,?_⟩
     ·rintro al E a Γ rfl;have z:=(R.hP _ (X4 hp1)).2.1;omega
     ·have R2:=R1.ex E2
      cases hf:Qp (T9 l.h) (Ba f) with
      | true=>
       have e2:one (ab l U)=none:=qA e1 hlF hb hf;exact Z5 (q "" _ l U R2 w hr (.inr (.inr (.inr ⟨FQ,by rw[<-hX];exact J5 e2,by rw[<-hX,J5 e2];exact e2⟩))) o)
      | false=>
       have e2:one (ab l U)=some {ab l U with e:=.stuck}:=qz e1 hlF hb hf;refine Zq (q "stuck" _ l U R2 w hr (.inr (.inr (.inl ⟨FQ,?_⟩))) o);rw[<-hX,(r0.go e2).1.e];exact J5 FQ
end
open PySem PySem.Spec PyProof.Rows L2 WL
section
variable {B:Bd}{C C':Hw}{l l':Gx}{Q:WK}{χ:WX}{n d:Nat}{U:List Str}
def nO {x y:Int}(hx:0<=x)(hx':x<big)(q:∀C',Ex C C'->Q (hT (Uv op x y)) C'):Z4 pr (n+1) Gr [.str op,.int x,.int y] C Q χ:=by
 refine Gk FQ ?_;have p:oM 10 18:=⟨by decide,by decide,by decide⟩;have hx'':x<1000000000000000000:=hx';have yes:∀(b:Bool) (B':WS) (τ:Sw),τ[3]?=some (some (.bl b))->(∀C',Ex C C'->Q (.tup [.str "made",.str (if b=true then "Yes" else "No"),.tup []]) C')->rQ (Dh (Yb (eC (.str "made")) (Yb (Y1 Tz (wJ (Yb (eC (.str "No")) (Yb (eC (.str "Yes")) Zy))) (kW bX (Yb (Z6 3) Zy))) (Yb (Dh Zy) Zy)))) {nx:=B' {nx:=λ_ C'=>Q .non C',rt:=Q,xc:=χ},rt:=Q,xc:=χ} τ C:=by
  intro b B' τ hb q;refine⟨ZNB FQ,λp hp=>⟨_,hb,.inr ⟨_,FQ,?_⟩⟩⟩;have:=q _ (Ex.new (o:=.lst [.str "No",.str "Yes"]) hp)
  cases b
  ·exact⟨_,_,Zh,Zo,ZNB FQ,ZNB FQ,this⟩
  ·exact⟨_,_,Zh,Z1,ZNB FQ,ZNB FQ,this⟩
 unfold Uv at q;by_cases c1:op="<"
 ·rw[XY c1] at q;subst c1;refine⟨_,FQ,Zx (v:=true) (XU _) ⟨_,FQ,Z5 (Z5 ?_)⟩⟩;refine⟨_,FQ,_,FQ,?_⟩
  cases hc:decide (x<y) with
  | true=>
   rw[hc] at q;refine⟨_,FQ,Lo hc ?_⟩;refine⟨_,FQ,Zx (v:=false) (by decide+kernel) ⟨_,FQ,Zq (Zq ?_)⟩⟩;exact yes true _ _ FQ q
  | false=>
   rw[hc] at q;refine⟨_,FQ,Lp hc ?_⟩;refine⟨_,FQ,Zx (v:=false) (by decide+kernel) ⟨_,FQ,Zq ?_⟩⟩;refine⟨_,FQ,Zx (v:=false) (by decide+kernel) ⟨_,FQ,Zq (Zq ?_)⟩⟩;exact yes false _ _ FQ q
 rw[XX c1] at q;by_cases c2:op="="
 ·rw[XY c2] at q;subst c2;refine⟨_,FQ,Zx (v:=false) (by decide+kernel) ⟨_,FQ,Zq ⟨_,FQ,Zx (v:=true) (XU _) ⟨_,FQ,Z5 ?_⟩⟩⟩⟩;refine⟨_,FQ,_,FQ,?_⟩
  cases hc:decide (x<y) with
  | true=>
   have hne:(x==y)=false:=by have:=of_decide_eq_true hc;simp;omega
   rw[hne] at q;refine⟨_,FQ,Lo hc ?_⟩;refine⟨_,FQ,Zx (v:=true) (XU _) ⟨_,FQ,Z5 ⟨_,FQ,_,FQ,_,FQ,Lo hc ?_⟩⟩⟩;exact yes false _ _ FQ q
  | false=>
   refine⟨_,FQ,Lp hc ?_⟩;refine⟨_,FQ,Zx (v:=true) (XU _) ⟨_,FQ,Z5 ⟨_,FQ,_,FQ,Za8 FQ ?_⟩⟩⟩;refine⟨_,FQ,Zx (v:=true) (XU _) ⟨_,FQ,Z5 ⟨_,FQ,_,FQ,_,FQ,Lp hc ?_⟩⟩⟩;exact yes (x==y) _ _ FQ q
 rw[XX c2] at q
 replace q:=q C (Ex.refl C)
 refine⟨_,FQ,Zx (v:=false) (by simpa using c1) ⟨_,FQ,Zq ⟨_,FQ,Zx (v:=false) (by simpa using c2) ⟨_,FQ,Zq ?_⟩⟩⟩⟩;refine⟨_,FQ,_,FQ,.inl ⟨by omega,by omega⟩,?_⟩;by_cases c3:op="+"
 ·rw[XY c3] at q;subst c3;refine⟨_,FQ,Zx (v:=true) (XU _) ⟨_,FQ,Z5 ⟨_,FQ,_,FQ,?_⟩⟩⟩;exact⟨_,FQ,Zx (v:=false) (by decide+kernel) ⟨_,FQ,Zq ⟨_,FQ,p,by decide,ZNB FQ,q⟩⟩⟩
 rw[XX c3] at q;refine⟨_,FQ,Zx (v:=false) (by simpa using c3) ⟨_,FQ,Zq ?_⟩⟩;by_cases c4:op="-"
 ·rw[XY c4] at q;subst c4;exact⟨_,FQ,Zx (v:=true) (XU _) ⟨_,FQ,Z5 ⟨_,FQ,_,FQ,_,FQ,p,by decide,ZNB FQ,q⟩⟩⟩
 rw[XX c4] at q;exact⟨_,FQ,Zx (v:=false) (by simpa using c4) ⟨_,FQ,Zq ⟨_,FQ,p,by decide,ZNB FQ,q⟩⟩⟩
def oC:ab (bi l x c) U=E9 (Pn (ab l U) x) c.u:=by
 unfold bi Zci E9 Pn ab nt;simp only[List.map_append,List.map_cons,List.map_nil,List.length_map]
def fZ (o:Ok d (ab l U)):l.D.length<=9000/\l.G.length<=9000/\l.P.length<=9000/\0<=l.k/\l.k<=1000:=by
 have z1:=o.nG;have z2:=o.k0;have z3:=o.nL;have e1:(ab l U).G=l.G:=rfl;have e2:(ab l U).L.length=l.D.length:=XI _;have e3:(ab l U).P.length=l.P.length:=XI _;have e4:(ab l U).k=l.k:=rfl;rw[e1,e3,e4] at z1;rw[e2,e4] at z3;rw[e4] at z2;omega
def Lr.off {a:WP}(R:Lr B C l)(h:∀i,a≠B i)(h2:a≠l.ra)(ha:C a=some (.lst xs)):Lr B (up C a o) l:=
 ⟨by rw[Zn (h 0).symm];exact R.r,by rw[Zn (h 1).symm];exact R.pp,by rw[Zn (h 2).symm];exact R.pw,by rw[Zn (h 3).symm];exact R.pt,by rw[Zn (h 4).symm];exact R.pg,by rw[Zn h2.symm];exact R.ps,R.di,R.na,
  R.hh.mv (Kp.l ha) (XW _),λf hf=>(R.hP f hf).mv (Kp.l ha) (XW _),λp hp=>(R.hS p hp).mv (Kp.l ha) (XW _),λz hz=>(R.hD z hz).mv (Kp.l ha) (XW _),R.hw⟩
def vt {k:Int}{c:yx}(hc:G5 (B 0) C k {c with t:=t}):
  (∃y i,t=.nm y/\c.E y=some i/\pu c.E t=.at_ i)\/(kP (pu c.E t)=false/\∃w r,tt t=.tup (.str w::r)/\(w=="name")=false):=by
 obtain⟨h1,h2⟩:=hc
 cases t with
 | nm y=>
  cases e:c.E y with
  | none=>exact absurd e (h1.c y h2)
  | some i=>exact .inl ⟨y,i,rfl,e,by show(match c.E y with | some i=>Tm.at_ i | none=>.nm y)=_;rw[e]⟩
 | at_ i=>exact absurd h2 (Nat.not_lt_zero _)
 | _=>exact .inr ⟨FQ,_,_,FQ,by decide+kernel⟩
def cc (c:Str):Int:=if c="Cons" then 1 else 0
def lW:ab {l with c:=l.c+cc c} U=Ym (ab l U) c:=by
 unfold Ym cc
 split
 ·rfl
 ·show({ab l U with c:=l.c+0}:St)=ab l U;rw[Int.add_zero];rfl
def gR {c:Str}{i:Nat}:c++(".":Str)++Str.ofString (toString ((i:Nat):Int))=tQ c i:=by
 unfold tQ;congr 2;exact(vn (by rw[yh];rfl)).symm
def yV {ts:List Tm}(R:Lr B C l)(hl:l.h=.cl cs)(ht:tt cs.t=.tup [.str "shape",.str c,.tup (ts.map tt)])(hc:c.length<=4)(h2:ts.length<=2)(hk:G5 (B 0) C l.k cs)(hts:∀t∈ts,ok 0 12 cs.Γ t)(hd:l.D.length<=9000)(hg:l.G.length<=9000)
  (q:∀C' l',Lr B C' l'->l'.W=l.W->(∀x,l'.h≠.raw x)->ab l' U=Pf (ab l U) c (ts.map (pu cs.E))->Q .non C'):Z4 pr (n+3) Lu [.ref (B 0),tt cs.t] C Q χ:=by
 refine M0 FQ ?_;rw[ht];refine⟨ZNB FQ,λa ha=>?_⟩;have hca:cs.a=l.ar:=(R.hh cs hl).2;have hhn:l.h≠.no:=by rw[hl];intro z;cases z
 have R0:=R.ex (Ex.new (o:=.lst []) ha);have K0:Dk (B 0) (up C a (.lst [])) l.k cs.a cs.E cs.Γ:=hk.1.mv (Kp.ex (Ex.new ha)) (XW _);obtain⟨hfr,hra⟩:=R.fresh ha;refine⟨_,FQ,_,Y2,_,FQ,?_⟩;refine Wb (λi τ C'=>∃x3 x4 l',τ=[some (.ref (B 0)),some (.tup [.str "shape",.str c,.tup (ts.map tt)]),some (.ref a),x3,x4]/\Lr B C' l'/\l'.W=l.W/\l'.h=l.h/\l'.ar=l.ar/\l'.k=l.k/\l'.w=l.w/\l'.c=l.c/\l'.ra=l.ra/\Dk (B 0) C' l.k cs.a cs.E cs.Γ/\ab {l' with c:=l'.c+cc c} U=sA (Ym (ab l U) c) c (ts.map (pu cs.E)) i/\C' a=some (.lst ((mA (Ym (ab l U) c) c (ts.map (pu cs.E)) i).map nT))/\l'.D.length<=l.D.length+i/\l'.G.length<=l.G.length+i) ⟨none,none,l,FQ,R0,FQ,FQ,FQ,FQ,FQ,FQ,FQ,K0,lW,Zh,XE _,XE _⟩ (λ_ _ _ _ _=>trivial) ?_ ?_
 ·rintro i x τ C' N hx ⟨x3,x4,l',rfl,R1,eW,eh,ea,ek,ew,ec,era,K1,eab,hC,hD1,hG1⟩ hN;have hi:i<ts.length:=by have:=(BW.mp hx).1;rw[Sr,XI] at this;exact this
  have hti:ts[i]?=some (ts[i]'hi):=by simp[hi]
  have htm:ts[i]'hi∈ts:=YN hi;generalize ts[i]'hi=t at hti htm;rw[z7 (x:=tt t) (by rw[XM,hti];rfl)] at hx
  cases hx
  have hui:(ts.map (pu cs.E))[i]?=some (pu cs.E t):=by rw[XM,hti];rfl
  have hlm:(mA (Ym (ab l U) c) c (ts.map (pu cs.E)) i).length<=1000:=qT (by rw[XI];exact h2) i;have hkt:G5 (B 0) C' l'.k {cs with t:=t}:=⟨by rw[ek];exact K1,hts t htm⟩;refine⟨_,FQ,_,_,FQ,_,_,FQ,FQ,?_⟩;have es:sA (Ym (ab l U) c) c (ts.map (pu cs.E)) (i+1)=Na (sA (Ym (ab l U) c) c (ts.map (pu cs.E)) i) (tQ c (i+1)) (pu cs.E t):=by rw[sA,hui]
  have em:mA (Ym (ab l U) c) c (ts.map (pu cs.E)) (i+1)=mA (Ym (ab l U) c) c (ts.map (pu cs.E)) i++[xZ (sA (Ym (ab l U) c) c (ts.map (pu cs.E)) i) (pu cs.E t)]:=by rw[mA,hui]
  rcases vt hkt with⟨y,j,rfl,hy,hpu⟩ | ⟨hm,w,r,ew2,en⟩
  ·refine⟨_,FQ,_,Zo,Zx (v:=true) (XU _) ⟨_,FQ,Z5 ?_⟩⟩;obtain⟨kvs,d1,d2,_⟩:=K1.d;have d1':C' l'.ar=some (.dic kvs):=by rw[ea,<-hca];exact d1
   refine⟨_,FQ,⟨_,_,FQ,hC⟩,_,FQ,_,_,_,_,FQ,FQ,.inl R1.r,Sy,_,FQ,_,Z1,_,_,_,nT j,FQ,FQ,.inl d1',by rw[d2,hy];rfl,_,_,_,FQ,FQ,hC,Yc (by rw[XI];omega),?_⟩;rw[hpu] at es em;refine hN _ _ ⟨_,_,l',FQ,?_,eW,eh,ea,ek,ew,ec,era,?_,by rw[es];exact eab,?_,by omega,by omega⟩
   ·exact R1.off hfr (by rw[era];exact hra) hC
   ·exact K1.mv (Kp.l hC) (XW _)
   ·rw[em,XL];exact Zh
  ·have e0:((i+0:Nat):Int)+1=((i+1:Nat):Int):=by omega
   obtain⟨k1,k2,k3⟩:=vF (i:=i+1) hc (by omega);have kd:(".":Str).length=1:=by decide+kernel
   have kc:(c++(".":Str)).length=c.length+(".":Str).length:=YC _ _;have kn:(Str.ofString (toString ((i+1:Nat):Int))).length=1:=by rcases (show i=0\/i=1 by omega) with rfl | rfl<;>decide+kernel
   rw[ew2];refine⟨_,FQ,_,Zo,Zx en ⟨_,FQ,Zq ?_⟩⟩;refine⟨_,FQ,⟨_,_,FQ,hC⟩,_,FQ,_,FQ,_,Z1,Ya (by omega),_,FQ,.inl ⟨_,FQ,by rw[e0];exact Aa (by omega),?_⟩⟩;rw[e0];refine⟨Ya (by omega),?_⟩;refine⟨_,FQ,_,FQ,_,_,_,_,FQ,FQ,.inl R1.r,Sy,?_⟩;dsimp only[Zy];rw[gR,<-ew2];have hkt':G5 (B 0) C' l'.k ⟨t,cs.E,l'.ar,cs.Γ⟩:=by rw[ea,<-hca];exact hkt
   refine Ek (n:=n) (c:=⟨t,cs.E,l'.ar,cs.Γ⟩) R1 hkt' (by omega) (by omega) λC2 F2 K2 R2=>?_;have hC2:=F2 _ _ hfr hC;have eL:(sA (Ym (ab l U) c) c (ts.map (pu cs.E)) i).L.length=l'.D.length:=by rw[<-eab];exact XI _
   refine⟨_,_,_,FQ,FQ,hC2,Yc (by rw[XI];omega),hN _ _ ⟨_,_,bi l' (tQ c (i+1)) ⟨t,cs.E,l'.ar,cs.Γ⟩,FQ,R2.off hfr (by show a≠l'.ra;rw[era];exact hra) hC2,eW,eh,ea,ek,ew,ec,era,(K1.mv K2 (XW _)).mv (Kp.l hC2) (XW _),?_,?_,?_,?_⟩⟩
   ·rw[es,<-eab];unfold Na;rw[XX (by rw[hm];decide)];exact oC (l:={l' with c:=l'.c+cc c})
   ·rw[em,G3 hm,eL,XL];exact Zh
   ·show(l'.D++[_]).length<=_;rw[List.length_append];simp only[List.length_cons,List.length_nil];omega
   ·show(l'.G++[_]).length<=_;rw[List.length_append];simp only[List.length_cons,List.length_nil];omega
 ·rintro τ C' ⟨x3,x4,l',rfl,R1,eW,eh,ea,ek,ew,ec,era,K1,eab,hC,hD1,hG1⟩;rw[Sr,XI] at eab hC;have ecc:(if (c=="Cons")=true then(1:Int) else 0)=cc c:=by unfold cc;by_cases h:c="Cons"<;>simp[h]
  refine⟨_,FQ,_,_,_,_,FQ,FQ,.inl R1.r,jF,_,FQ,_,Z1,Zx FQ (.inr ⟨_,FQ,?_⟩)⟩;rw[ecc];refine ga pB FQ R1.r ?_;have hw':l'.h≠.no->1<=l'.w:=R1.hw;have R2:=R1.s0 {l' with c:=l'.c+cc c} (XW _) R1.hh hw';have hC2:=hC;rw[<-Zn (C:=C') (o:=.dic (gk B {l' with c:=l'.c+cc c})) (hfr 0)] at hC2;refine⟨_,FQ,_,Z1,_,FQ,_,FQ,_,hC2,ZNB FQ,?_⟩;refine ga (vM (h:=.made c (mA (Ym (ab l U) c) c (ts.map (pu cs.E)) ts.length))) FQ R2.r ?_;have R3:=R2.s0 {l' with c:=l'.c+cc c,h:=.made c (mA (Ym (ab l U) c) c (ts.map (pu cs.E)) ts.length)} (XW _) (λc e=>by cases e) (λ_=>by show 1<=l'.w;rw[ew];exact R.hw hhn);refine q _ _ R3 eW (λx z=>by cases z) ?_;unfold Pf;rw[XI,<-eab];rfl
end
open PySem PySem.Spec PyProof.Rows L2 WL
section
variable {B:Bd}{C C':Hw}{l l':Gx}{Q:WK}{χ:WX}{n d:Nat}{U:List Str}
def gP:mB b ns ns.length=ns.zip ((List.range ns.length).map (b+·)):=by
 have hl:(mB b ns ns.length).length=ns.length:=by
  have:=congrArg List.length (R9 (b:=b) (ns:=ns) ns.length (XE _));rw[XI,CG] at this;exact this
 refine EM λi=>?_;by_cases hi:i<ns.length
 ·have e:ns[i]?=some ns[i]:=CW hi;rw[qS (XE _) hi e];exact(DI.mpr ⟨e,by rw[XM,FC hi];rfl⟩).symm
 ·rw[CU (by omega),CU (by rw[EE,XI,List.length_range];omega)]
def iP (R:Lr B C l)(hl:l.h=.cl cs)(ht:cs.t=.lt m xs ts b)(bD:l.D.length<=9000)(bG:l.G.length<=9000)(hk:G5 (B 0) C (l.k-1) cs)(bk:1<=l.k/\l.k<=1000)
  (q:∀C' l',Lr B C' l'->l'.W=l.W->(∀x,l'.h≠.raw x)->ab l' U=Fj (ab l U) (pu cs.E cs.t)->Q .non C'):Z4 pr (n+3) Gs [.ref (B 0),tt cs.t] C Q χ:=by
 refine Gm FQ ?_;have hok:=hk.2;rw[ht] at hok;obtain⟨o1,⟨o2,o3,o4,o5⟩,o6,o7⟩:=hok;have hca:cs.a=l.ar:=(R.hh cs hl).2;have hhn:l.h≠.no:=by rw[hl];intro z;cases z
 have hnl:(Ve xs).length=m:=by simp
 rw[ht];refine⟨_,FQ,_,_,_,_,FQ,FQ,.inl R.r,Va,_,FQ,_,R.pt,?_⟩;rw[XI];refine⟨_,FQ,_,Z1,?_⟩;refine Xu (λt=>match t with | .tup (x::_)=>x | _=>.non) trivial (Ya (by rw[XI,CP];omega)) (λx hx R hR=>?_) λp1 hp1=>?_
 ·obtain⟨z,_,rfl⟩:=XR.mp hx;exact⟨_,FQ,_,Zo,hR⟩
 have en:((List.finRange m).map λi=>T.tup [.str (xs i),tt (ts i)]).map (λt=>match t with | .tup (x::_)=>x | _=>.non)=(Ve xs).map T.str:=by rw[YE,YE];rfl
 rw[en];have E1:Ex C (up C p1 (.lst ((Ve xs).map T.str))):=Ex.new hp1;have R1:=R.ex E1;refine⟨_,FQ,_,_,_,_,FQ,FQ,.inl R1.r,Sy,_,FQ,_,FQ,_,FQ,_,Zh,_,FQ,?_⟩;rw[XI,hnl];refine⟨by omega,by omega,?_⟩;refine Xu (λt=>match t with | .int i=>.int ((l.D.length:Int)+i) | _=>.non) trivial (Ya (by rw[zt];omega)) (λx hx R hR=>?_) λp2 hp2=>?_
 ·obtain⟨i,hi⟩:=DV.mp hx;obtain⟨_,rfl⟩:=vv hi;exact⟨_,FQ,_,FQ,hR⟩
 have em:(rng 0 ((m:Nat):Int).toNat).map (λt=>match t with | .int i=>.int ((l.D.length:Int)+i) | _=>.non)=((List.range m).map (l.D.length+·)).map nT:=by
  refine EM λi=>?_;unfold rng;rw[Int.toNat_natCast,YE,YE,XM,XM]
  cases (List.range m)[i]? with
  | none=>rfl
  | some j=>show some (T.int _)=some (T.int _);congr 2;show(l.D.length:Int)+(0+(j:Int))=((l.D.length+j:Nat):Int);omega
 rw[em];have E2:=E1.trans (Ex.new (o:=.lst (((List.range m).map (l.D.length+·)).map nT)) hp2);have R2:=R.ex E2;have K2:Dk (B 0) _ (l.k-1) l.ar cs.E cs.Γ:=hca▸hk.1.mv (Kp.ex E2) (XW _);dsimp only[Zy];refine K8 (n:=n+1) (k':=l.k) (ns:=Ve xs) (ms:=(List.range m).map (l.D.length+·)) K2 (by rw[R2.r];simp) (by rw[hnl,List.length_map,List.length_range]) (by rw[hnl];exact o3) o4 ⟨by omega,by omega⟩ (by omega) (.inr ⟨p1,p2,FQ,FQ,(Ex.new hp2) _ _ Zh,Zh⟩) λp C3 E3 K3=>?_;have R3:=(R2.ex E3).raw hhn;have emk:(Ve xs).zip ((List.range m).map (l.D.length+·))=Hq (ab l U) (Ve xs):=by
  unfold Hq;have:(ab l U).L.length=l.D.length:=XI _;rw[this,gP,hnl]
 rw[emk] at K3;have hpu:∀t,pu (mo (Hq (ab l U) (Ve xs))) (pu (Vb cs.E (Ve xs)) t)=pu (ov cs.E (mo (Hq (ab l U) (Ve xs)))) t:=λt=>by
  rw[<-emk];exact zv (by rw[hnl,XI,List.length_range])
 generalize hM:mo (Hq (ab l U) (Ve xs))=M at K3 hpu;refine⟨_,FQ,_,Z1,?_⟩;refine Wb (λi τ C'=>∃x5 l',τ=[some (.ref (B 0)),some (tt (.lt m xs ts b)),some (.int (l.D.length:Int)),some (.ref p1),some (.ref p),x5]/\Lr B C' l'/\l'.W=l.W/\l'.h=.raw (Cz l.h)/\l'.k=l.k/\l'.w=l.w/\Dk (B 0) C' l.k p (ov cs.E M) (Ve xs++cs.Γ)/\{ab l' U with h:=T9 l.h}={bA (ab l U) (Ve xs) i with D:=(ab l U).D++(((List.finRange m).map λj=>pu (ov cs.E M) (ts j)).take i)}/\l'.D.length=l.D.length+i/\l'.G.length=l.G.length+i) ⟨none,_,FQ,R3,FQ,FQ,FQ,FQ,K3,?_,FQ,FQ⟩ (λ_ _ _ _ _=>trivial) ?_ ?_
 ·show({ab l U with h:=T9 l.h}:St)={ab l U with D:=(ab l U).D++[]};rw[YK];rfl
 ·rintro i x τ C' N hx ⟨x5,l',rfl,R4,eW,eh,ek,ew,K4,eab,hD4,hG4⟩ hN;rw[XM] at hx;have hi:i<m:=by
   by_cases hi:i<m
   ·exact hi
   ·rw[CU (by rw[CP];omega)] at hx;cases hx
  have ef:(List.finRange m)[i]?=some ⟨i,hi⟩:=by rw[List.getElem?_eq_getElem (by rw[List.length_finRange];exact hi)];simp
  rw[ef] at hx
  cases hx
  refine⟨_,FQ,_,FQ,_,Zo,_,FQ,_,Z1,_,FQ,?_⟩;dsimp only[Zy];have hc:G5 (B 0) C' l'.k ⟨ts ⟨i,hi⟩,ov cs.E M,p,Ve xs++cs.Γ⟩:=⟨by rw[ek];exact K4,Jx (o6 ⟨i,hi⟩)⟩;refine Ek (n:=n) (c:=⟨ts ⟨i,hi⟩,ov cs.E M,p,Ve xs++cs.Γ⟩) R4 hc (by omega) (by omega) λC5 F5 K5 R5=>hN _ _ ⟨_,_,FQ,R5,eW,eh,ek,ew,K4.mv K5 (XW _),?_,?_,?_⟩
  ·have e1:(Ve xs)[i]?=some (xs ⟨i,hi⟩):=by rw[XM,ef];rfl
   have e2:bA (ab l U) (Ve xs) (i+1)=Pn (bA (ab l U) (Ve xs) i) (xs ⟨i,hi⟩):=by rw[bA,e1]
   rw[oC,e2,YD,XM,ef];have e3:=congrArg (λs=>E9 (Pn s (xs ⟨i,hi⟩)) (pu (ov cs.E M) (ts ⟨i,hi⟩))) eab;unfold E9 Pn nt at e3 |-;simp only[Option.map_some,Option.toList_some,List.append_assoc] at e3 |-;exact e3
  ·show(l'.D++[_]).length=_;rw[List.length_append];simp only[List.length_cons,List.length_nil];omega
  ·show(l'.G++[_]).length=_;rw[List.length_append];simp only[List.length_cons,List.length_nil];omega
 ·rintro τ C' ⟨x5,l',rfl,R4,eW,eh,ek,ew,K4,eab,hD4,hG4⟩;rw[XI,CP] at eab;refine⟨_,FQ,_,Y2,?_⟩;refine ga Vp FQ R4.r ?_;refine⟨_,FQ,?_⟩;refine ga Xb FQ Zh ?_;rw[yA];have hc:G5 (B 0) C' l'.k ⟨b,ov cs.E M,p,Ve xs++cs.Γ⟩:=⟨by rw[ek];exact K4,Jx o7⟩;have R5:=R4.s0 {l' with h:=.cl ⟨b,ov cs.E M,p,Ve xs++cs.Γ⟩,ar:=p} (XW _) (λc e=>by cases e;exact⟨hc,FQ⟩) (λ_=>by show 1<=l'.w;rw[ew];exact R.hw hhn);refine q _ _ R5 eW (λx z=>by cases z) ?_;rw[ht];show({ab l' U with h:=.tm (pu (ov cs.E M) b)}:St)=jW (ab l U) (Ve xs) ((List.finRange m).map λi=>pu (mo (Hq (ab l U) (Ve xs))) (pu (Vb cs.E (Ve xs)) (ts i))) (pu (mo (Hq (ab l U) (Ve xs))) (pu (Vb cs.E (Ve xs)) b));unfold jW;rw[hM,hpu,hnl];simp only[hpu];have e3:=congrArg (λs=>({s with h:=.tm (pu (ov cs.E M) b)}:St)) eab;rw[List.take_of_length_le (by simp)] at e3;exact e3
end
open PySem PySem.Spec PyProof.Rows L2 WL
def B7 (z:Str×Str):T:=.tup [.str z.1,.str z.2]
def tM (Γ:List Str)(ns:List (Str×Str)):Prop:=∀z∈ns,z.1∈Γ/\gl z.1
def Yu {p q:Prop}(h1:p)(h2:q):if b=true then p else q:=by cases b;exact h2;exact h1
def Nf {p q:Prop}{b:Bool}(h1:b=true->p)(h2:b=false->q):if b=true then p else q:=by cases b;exact h2 FQ;exact h1 FQ
def gJ {ns:List (Str×Str)}{f:T->Option T}{g:Str×Str->Option Str}(h:∀z,f (B7 z)=(g z).map T.str):(ns.map B7).filterMap f=(ns.filterMap g).map T.str:=by
 rw[FF,List.map_filterMap];congr 1
 funext z
 exact h z
def qF {x:Int}(h0:0<=x)(h1:x<1000000000000000000):(Str.ofString (toString x)).length<=18:=by
 obtain⟨m,rfl⟩:∃m:Nat,x=m:=⟨x.toNat,by omega⟩;show(Str.ofString (toString (Int.ofNat m))).length<=18;rw[text_ofNat];show((Nat.toDigits 10 m).map Char.toNat).toArray.size<=18;rw[XJ,XI];exact digits10_le (by decide) (by omega)
def kM {x:Int}(h0:0<=x)(h1:x<1000000000000000000):x.natAbs.log2<1920:=by
 have h2:x.natAbs<2^64:=by omega
 have:x.natAbs.log2<64:=by
  by_cases c:x.natAbs=0
  ·rw[c];decide
  ·exact(Nat.log2_lt c).mpr h2
 omega
def a3 {α:Type}{a b c:α}{x:Int}:∃v,Sg [a,b,c] (x%3)=some v/\(v=a\/v=b\/v=c):=by
 have h0:x%3=0\/x%3=1\/x%3=2:=by omega
 rcases h0 with e | e | e<;>rw[e]
 ·exact⟨_,Zo,.inl FQ⟩
 ·exact⟨_,Z1,.inr (.inl FQ)⟩
 ·exact⟨_,Y2,.inr (.inr FQ)⟩
def a2 {α:Type}{a b:α}{x:Int}:∃v,Sg [a,b] (x%2)=some v/\(v=a\/v=b):=by
 have h0:x%2=0\/x%2=1:=by omega
 rcases h0 with e | e<;>rw[e]
 ·exact⟨_,Zo,.inl FQ⟩
 ·exact⟨_,Z1,.inr FQ⟩
def wR {z:Str}{n:Nat}{x:Int}(hz:z.cps.toList.length=n)(hn:0<n):∃c,Sg z.cps.toList (x%(n:Int))=some c:=by
 obtain⟨v,h,_⟩:=Iy (xs:=z.cps.toList) (i:=x%(n:Int)) (YO _ (by omega)) (by rw[hz];exact CB _ (by omega));exact⟨v,h⟩
def kh:cl "Nil"/\ar "Nil"=0:=by decide+kernel
def Zbo:cl "Yes"/\ar "Yes"=0:=by decide+kernel
def Zcu:cl "No"/\ar "No"=0:=by decide+kernel
def ki:cl "Cons"/\ar "Cons"=2:=by decide+kernel
def aB:cl "Pair"/\ar "Pair"=2:=by decide+kernel
def bo:gl "x":=⟨by decide+kernel,by decide+kernel⟩
def Eu:Tm:=.shp0 "Nil"
section
variable {C:Hw}{Q:WK}{χ:WX}{n:Nat}
def cq {x:Int}(hx:0<=x)(hx':x<6)(q:∀t C',Ex C C'->ok 0 2 Γ t->Q (tt t) C'):Z4 pr (n+1) Ma [.int x] C Q χ:=by
 refine Nx FQ ?_;refine⟨ZNB FQ,ZNB FQ,?_⟩;refine⟨ZNB FQ,ZNB FQ,ZNB FQ,_,FQ,ZNB FQ,ZNB FQ,ZNB FQ,λp hp=>?_⟩;refine⟨_,FQ,ZNB FQ,_,FQ,ZNB FQ,ZNB FQ,ZNB FQ,_,FQ,ZNB FQ,ZNB FQ,ZNB FQ,λp2 hp2=>?_⟩;have hne:p≠p2:=(xq hp2).1.symm;refine⟨_,_,by rw[Zn hne];exact Zh,Zh,ZNB FQ,λp3 hp3=>?_⟩;have hE:∀o,Ex C (up (up (up C p _) p2 _) p3 o):=λo=>((Ex.new hp).trans (Ex.new hp2)).trans (Ex.new hp3);have h0:x=0\/x=1\/x=2\/x=3\/x=4\/x=5:=by omega
 have n3:ok 0 1 Γ (.num 3):=⟨by decide,by decide⟩;have nl:ok 0 1 Γ Eu:=kh
 rcases h0 with rfl | rfl | rfl | rfl | rfl | rfl
 ·exact⟨_,FQ,_,FQ,_,_,Zh,Zo,q (.num 3) _ (hE _) ⟨by decide,by decide⟩⟩
 ·exact⟨_,FQ,_,FQ,_,_,Zh,Z1,q (.shp0 "Yes") _ (hE _) Zbo⟩
 ·exact⟨_,FQ,_,FQ,_,_,Zh,Y2,q Eu _ (hE _) kh⟩
 ·exact⟨_,FQ,_,FQ,_,_,Zh,ub,q (.fn "x" (.nm "x")) _ (hE _) ⟨by decide,bo,CM⟩⟩
 ·exact⟨_,FQ,_,FQ,_,_,Zh,ig,q (.shp2 "Cons" (.num 3) Eu) _ (hE _) ⟨by decide,ki,n3,nl⟩⟩
 ·exact⟨_,FQ,_,FQ,_,_,Zh,FQ,q (.shp2 "Pair" (.num 3) Eu) _ (hE _) ⟨by decide,aB,n3,nl⟩⟩
def Oa {ns:List (Str×Str)}{x kd:Str}(ha:C a=some (.lst (ns.map B7)))(hn:tM Γ ns)(hx:gl x)(hl:ns.length<=1000)
  (q:∀p ns' C',Ex C C'->C p=none->C' p=some (.lst (ns'.map B7))->tM (x::Γ) ns'->ns'.length<=ns.length+1->Q (.ref p) C'):Z4 pr (n+1) zQ [.ref a,.str x,.str kd] C Q χ:=by
 refine zb FQ ?_;refine⟨_,FQ,_,ha,?_⟩;refine Fi (f:=λt=>match t with | .tup [.str y,_]=>if y=x then none else some t | _=>none) ha (by rw[XI];exact Ya (by omega)) (λt ht R N h1 h2=>?_) ?_
 ·obtain⟨z,_,rfl⟩:=XR.mp ht;refine⟨_,FQ,_,Zo,_,FQ,Zav FQ ⟨_,FQ,?_⟩⟩;by_cases c:z.1=x
  ·refine Lp (by rw[c,XU];rfl) (h2 ?_);show(if z.1=x then none else _)=none;rw[XY c]
  ·refine Lo (by rw[beq_eq_false_iff_ne.mpr c];rfl) ⟨_,FQ,h1 _ ?_⟩;show(if z.1=x then none else _)=_;rw[XX c]
 ·intro p hp;refine⟨_,FQ,_,FQ,ZNB FQ,ZNB FQ,λp2 hp2=>?_⟩;have hne:p≠p2:=(xq hp2).1.symm;have em:∃ns2:List (Str×Str),((ns.map B7).filterMap λt=>match t with | .tup [.str y,_]=>if y=x then none else some t | _=>none)=ns2.map B7/\(∀z∈ns2,z∈ns)/\ns2.length<=ns.length:=by
   clear ha hn hl q hp hp2 hne
   induction ns with
   | nil=>exact⟨[],FQ,λz hz=>(by cases hz),XE _⟩
   | cons z r ih=>
    obtain⟨ns2,i1,i2,i3⟩:=ih;by_cases c:z.1=x
    ·refine⟨ns2,?_,λy hy=>XV _ (i2 y hy),by rw[YF];omega⟩;rw[YI,List.filterMap_cons_none (by show(if z.1=x then none else _)=_;rw[XY c]),i1]
    ·refine⟨z::ns2,?_,λy hy=>?_,by rw[YF,YF];omega⟩
     ·rw[YI,List.filterMap_cons_some (b:=B7 z) (by show(if z.1=x then none else _)=_;rw[XX c]),i1];rfl
     ·rcases CH.mp hy with rfl | hy
      ·exact CM
      ·exact XV _ (i2 y hy)
  obtain⟨ns2,e1,e2,e3⟩:=em;rw[e1] at hp2 |-;refine⟨_,_,by rw[Zn hne];exact Zh,Zh,by rw[XI];exact Ya (by show ns2.length+1<=_;omega),λp3 hp3=>?_⟩;refine q p3 (ns2++[(x,kd)]) _ (((Ex.new hp).trans (Ex.new hp2)).trans (Ex.new hp3)) ((xq (xq hp3).2).2) ?_ (λz hz=>?_) (by rw[BX];show ns2.length+1<=_;omega)
  ·rw[Zh,XL];rfl
  ·rcases XS.mp hz with hz | hz
   ·exact⟨XV _ (hn z (e2 z hz)).1,(hn z (e2 z hz)).2⟩
   ·rw[XQ.mp hz];exact⟨CM,hx⟩
def xK {ns:List (Str×Str)}(ha:C a=some (.lst (ns.map B7)))(hn:tM Γ ns)(hl:ns.length<=1000)(q:∀t C',Ex C C'->ok 0 2 Γ t->Q (tt t) C'):Z4 pr (n+2) jA [.str kd,.int x,.ref a] C Q χ:=by
 refine yG FQ ?_;refine⟨_,FQ,_,ha,?_⟩;refine Fi (f:=λt=>match t with | .tup [.str y,.str k]=>if k=kd then some (.str y) else none | _=>none) ha (by rw[XI];exact Ya (by omega)) (λt ht R N h1 h2=>?_) ?_
 ·obtain⟨z,_,rfl⟩:=XR.mp ht;refine⟨_,FQ,_,Z1,_,FQ,bJ FQ ⟨_,FQ,?_⟩⟩;by_cases c:z.2=kd
  ·refine Lo (by rw[c];exact XU _) ⟨_,FQ,_,Zo,h1 _ ?_⟩;show(if z.2=kd then _ else _)=_;rw[XY c]
  ·refine Lp (beq_eq_false_iff_ne.mpr c) (h2 ?_);show(if z.2=kd then _ else _)=_;rw[XX c]
 rw[gJ (g:=λz=>if z.2=kd then some z.1 else none) (λz=>by show(if z.2=kd then _ else _)=_;split<;>rfl)];have hmine:∀y∈ns.filterMap (λz=>if z.2=kd then some z.1 else none),y∈Γ:=λy hy=>by
  obtain⟨z,hz,e⟩:=FE.mp hy
  split at e
  ·cases e;exact(hn z hz).1
  ·cases e
 generalize ns.filterMap (λz=>if z.2=kd then some z.1 else none)=mine at hmine;intro p hp;have E1:Ex C (up C p (.lst (mine.map T.str))):=Ex.new hp;have ha1:=E1 _ _ ha;have hp1:(up C p (.lst (mine.map T.str))) p=some (.lst (mine.map T.str)):=Zh;generalize up C p (.lst (mine.map T.str))=C1 at E1 ha1 hp1;have p18:oM 10 18:=⟨by decide,by decide,by decide⟩;have n0:∀y:Int,ok 0 1 Γ (.num (y%8)):=λy=>⟨by omega,by simp only[big];omega⟩;have t8:Fu (Z4 pr (n+1)) {nx:=λ_ C'=>Q .non C',rt:=Q,xc:=χ} [some (.str kd),some (.int x),some (.ref a),some (.ref p),none,none] C1:=by
  have t5:Fw (Z4 pr (n+1)) {nx:=λ_ C'=>Q .non C',rt:=Q,xc:=χ} [some (.str kd),some (.int x),some (.ref a),some (.ref p),none,none] C1:=by
   refine⟨_,FQ,Zx FQ ⟨_,FQ,Yu ?_ ?_⟩⟩
   ·obtain⟨v,h1,h2⟩:=a2 (a:=T.int (x/4%4)) (b:=T.int (x*982451653%10^(18:Int).toNat)) (x:=x/16);refine⟨_,FQ,⟨by decide,by decide⟩,by decide,_,FQ,.inr ⟨by decide,by decide⟩,p18,by decide,ZNB FQ,λp2 hp2=>?_⟩;refine⟨_,FQ,⟨by decide,by decide⟩,by decide,_,_,Zh,h1,ZNB FQ,?_⟩
    rcases h2 with rfl | rfl
    ·exact q (.num _) _ (E1.trans (Ex.new hp2)) ⟨by omega,by simp only[big];omega⟩
    ·exact q (.num _) _ (E1.trans (Ex.new hp2)) ⟨YO _ (by decide),CB _ (by decide)⟩
   refine⟨_,FQ,Zx FQ ⟨_,FQ,Yu ?_ ?_⟩⟩
   ·obtain⟨v,h1,h2⟩:=a2 (a:=T.str "No") (b:=T.str "Yes") (x:=x/4);refine⟨ZNB FQ,λp2 hp2=>⟨_,FQ,⟨by decide,by decide⟩,by decide,_,_,Zh,h1,XO _,ZNB FQ,?_⟩⟩
    rcases h2 with rfl | rfl
    ·exact q (.shp0 "No") _ (E1.trans (Ex.new hp2)) Zcu
    ·exact q (.shp0 "Yes") _ (E1.trans (Ex.new hp2)) Zbo
   refine⟨_,FQ,Zx FQ ⟨_,FQ,Yu ?_ ?_⟩⟩
   ·obtain⟨ch,h1⟩:=wR (z:="+-*") (n:=3) (x:=x/4) (by decide+kernel) (by decide);refine⟨_,FQ,⟨by decide,by decide⟩,by decide,by decide,ch,h1,_,FQ,⟨by decide,by decide⟩,by decide,ZNB FQ,ZNB FQ,ZNB FQ,ZNB FQ,?_⟩;exact q (.fn "x" (.does ⟨#[ch]⟩ (.num (x/12%100)) (.nm "x"))) _ E1 ⟨by decide,bo,by decide,⟨by omega,by simp only[big];omega⟩,List.mem_cons_self⟩
   refine⟨XO _,ZNB FQ,?_⟩;refine⟨_,FQ,Zx FQ ⟨_,FQ,Yu ?_ ?_⟩⟩
   ·refine⟨_,FQ,p18,by decide,ZNB FQ,_,FQ,ZNB FQ,ZNB FQ,?_⟩;exact q (.shp2 "Pair" (.num _) Eu) _ E1 ⟨by decide,aB,⟨YO _ (by decide),CB _ (by decide)⟩,kh⟩
   refine⟨_,FQ,⟨by decide,by decide⟩,by decide,ZNB FQ,_,FQ,ZNB FQ,ZNB FQ,?_⟩;obtain⟨v,h1,h2⟩:=a3 (a:=tt Eu) (b:=tt (.shp2 "Cons" (.num (x/768%8)) Eu)) (c:=tt (.shp2 "Cons" (.num (x/96%8)) (.shp2 "Cons" (.num (x/768%8)) Eu))) (x:=x/4);refine⟨_,FQ,_,FQ,_,FQ,⟨by decide,by decide⟩,by decide,ZNB FQ,_,FQ,ZNB FQ,ZNB FQ,ZNB FQ,λp2 hp2=>?_⟩;refine⟨_,FQ,⟨by decide,by decide⟩,by decide,_,_,Zh,h1,?_⟩
   rcases h2 with rfl | rfl | rfl
   ·exact q Eu _ (E1.trans (Ex.new hp2)) kh
   ·exact q _ _ (E1.trans (Ex.new hp2)) ⟨by decide,ki,n0 _,kh⟩
   ·exact q _ _ (E1.trans (Ex.new hp2)) ⟨by decide,ki,n0 _,by decide,ki,⟨by omega,by simp only[big];omega⟩,kh⟩
  have t7:Fv (Z4 pr (n+1)) {nx:=λ_ C'=>Q .non C',rt:=Q,xc:=χ} [some (.str kd),some (.int x),some (.ref a),some (.ref p),none,none] C1:=by
   refine⟨_,FQ,by decide,Vi FQ ⟨_,FQ,Yu ?_ ?_⟩⟩
   ·have hx0:0<=x/31%100:=by omega
    have hx1:x/31%100<1000000000000000000:=by omega
    have hb:("boo":Str).length=3:=by decide+kernel
    have hle:=qF hx0 hx1;have hla:(("boo":Str)++Str.ofString (toString (x/31%100))).length=("boo":Str).length+(Str.ofString (toString (x/31%100))).length:=YC _ _;refine⟨_,FQ,⟨by decide,by decide⟩,by decide,.inl ⟨_,FQ,kM hx0 hx1,Ya (by omega),ZNB FQ,?_⟩⟩;exact q (.stop _) _ E1 ⟨by show 1<=(("boo":Str)++Str.ofString (toString (x/31%100))).length;omega,by show(("boo":Str)++Str.ofString (toString (x/31%100))).length<=100;omega⟩
   refine⟨_,FQ,by decide,_,FQ,Nf (λh4=>⟨_,FQ,Nf (λh11=>?_) (λ_=>t5)⟩) (λ_=>⟨_,FQ,t5⟩)⟩;refine⟨_,FQ,by decide,?_⟩;dsimp only[Zy,Wp,eC];have h4':=of_decide_eq_true h4;have h11':=of_decide_eq_true h11;exact cq (n:=n) (by omega) (by omega) λt C' hE ho=>q t C' (E1.trans hE) ho
  refine⟨_,FQ,by decide,Vi FQ ⟨_,FQ,Yu ?_ t7⟩⟩;refine⟨_,FQ,⟨by decide,by decide⟩,by decide,Vi FQ ⟨_,FQ,Yu ?_ t7⟩⟩;refine⟨_,FQ,_,FQ,_,ha1,_,FQ,Nf (λhc=>?_) (λ_=>t7)⟩;have hc':((ns.map B7).length:Int)>0:=of_decide_eq_true hc;obtain⟨v,h1,h2⟩:=Iy (xs:=ns.map B7) (i:=x/62%((ns.map B7).length:Int)) (YO _ (by omega)) (CB _ hc');obtain⟨z,hz,rfl⟩:=XR.mp h2;refine⟨_,FQ,_,FQ,⟨by decide,by decide⟩,_,FQ,_,FQ,_,ha1,hc',_,_,ha1,h1,_,Zo,ZNB FQ,?_⟩;exact q (.stop z.1) _ E1 (hn z hz).2
 refine⟨_,FQ,_,FQ,_,hp1,_,FQ,Nf (λhc=>?_) (λ_=>Zq t8)⟩;have hc':((mine.map T.str).length:Int)>0:=of_decide_eq_true hc;refine⟨_,FQ,by decide,_,FQ,Yu ?_ t8⟩;obtain⟨v,h1,h2⟩:=Iy (xs:=mine.map T.str) (i:=x/4%((mine.map T.str).length:Int)) (YO _ (by omega)) (CB _ hc');obtain⟨y,hy,rfl⟩:=XR.mp h2;refine⟨_,FQ,_,FQ,⟨by decide,by decide⟩,_,FQ,_,FQ,_,hp1,hc',_,_,hp1,h1,ZNB FQ,?_⟩;exact q (.nm y) _ E1 (hmine y hy)
end
open PySem PySem.Spec PyProof.Rows L2 WL
section
variable {B:Bd}{C C':Hw}{l l':Gx}{Q:WK}{χ:WX}{n d:Nat}{U:List Str}
def aA (c:Str):T->Option T
 | .tup (.str x::r)=>if x=c then some (.tup (.str x::r)) else none
 | _=>none
def zT:aA c (wU y)=if y.1=c then some (wU y) else none:=rfl
def km {al:List Al}(h:(U1 c (al.map λz=>(z.1,z.2.1,pu (Vb E z.2.1) z.2.2))).isSome=true):
  ∃z r,z∈al/\z.1=c/\U1 c (al.map λz=>(z.1,z.2.1,pu (Vb E z.2.1) z.2.2))=some (z.1,z.2.1,pu (Vb E z.2.1) z.2.2)/\(al.map wU).filterMap (aA c)=wU z::r:=by
 induction al with
 | nil=>cases h
 | cons y r ih=>
  unfold U1 at h ih |-;rw[YI,FB] at h |-;rw[YI,DZ];by_cases e:y.1=c
  ·exact⟨y,(r.map wU).filterMap (aA c),by simp,e,by simp[e],by rw[zT,if_pos e]⟩
  ·have e':decide (y.1=c)=false:=by simpa using e
   simp only[e'] at h |-;obtain⟨z,r',h1,h2,h3,h4⟩:=ih h;exact⟨z,r',by simp[h1],h2,h3,by rw[zT,if_neg e];exact h4⟩
def rH {f:LF}(R:Lr B C l)(hr:∀x,l.h≠.raw x)(hf:Qp (T9 l.h) (Ba f)=true)(hv:Qs (T9 l.h)=true)(hb:Sd (Ba f)=none)(hfk:wq (B 0) C (l.k-1) f)(hhk:∀c,l.h=.cl c->G5 (B 0) C (l.k-1) c)(hho:Td L d (T9 l.h))(hfo:oW L d (Ba f))
  (bD:l.D.length<=9000) (bG:l.G.length<=9000) (bP:l.P.length<=9000) (bk:1<=l.k/\l.k<=1000) (q:∀C' l',Lr B C' l'->l'.W=l.W->(∀x,l'.h≠.raw x)->ab l' U=yu (ab l U) (T9 l.h) (Ba f)->Q .non C'):Z4 pr (n+3) Ls [.ref (B 0),Cz l.h,Ss f] C Q χ:=by
 refine Mz FQ ?_;have hhn:l.h≠.no:=λz=>by rw[z] at hv;cases hv
 have h1w:=R.hw hhn;refine⟨_,FQ,_,_,_,_,FQ,FQ,.inl R.r,Sy,?_⟩;have set:∀a,Lr B (up C (B 0) (.dic (gk B {l with ar:=a}))) {l with h:=.raw (Cz l.h),ar:=a}:=λa=>(R.raw hhn).s0 {l with h:=.raw (Cz l.h),ar:=a} (XW _) Ll.raw (λ_=>h1w);have mv:∀{a E Γ} {C1:Hw},Kp (B 0) C C1->Dk (B 0) C (l.k-1) a E Γ->Dk (B 0) C1 l.k a E Γ:=λh k=>k.mv h (by omega)
 cases f with
 | back i=>cases hb
 | first c=>
  refine⟨_,FQ,_,yq,?_⟩;refine ga Xb FQ R.r ?_;have R1:=set c.a;refine⟨_,FQ,_,Zo,Zx (v:=false) (by decide+kernel) ⟨_,FQ,Zq ?_⟩⟩;refine⟨_,FQ,_,Zo,Zx (v:=false) (by decide+kernel) ⟨_,FQ,Zq ?_⟩⟩;refine⟨_,FQ,_,Zo,Zx (v:=false) (by decide+kernel) ⟨_,FQ,Zq ?_⟩⟩;refine⟨_,FQ,_,Zo,Zx (v:=false) (by decide+kernel) ⟨_,FQ,Zq ?_⟩⟩;refine⟨_,FQ,_,Z1,?_⟩;refine ga Vp FQ R1.r ?_;exact q _ _ (R1.s0 {l with h:=.cl c,ar:=c.a} (XW _) (λc' e=>by cases e;exact⟨⟨mv Kp.gu hfk.1,hfk.2⟩,FQ⟩) (λ_=>h1w)) FQ (λx z=>by cases z) FQ
 | left o c=>
  obtain⟨cs,hl,v,ht⟩:∃cs,l.h=.cl cs/\∃v,cs.t=.num v:=by
   cases hl:l.h with
   | cl cs=>
    rw[hl] at hf;have hf':Gp (.tm (pu cs.E cs.t))=true:=hf;refine⟨cs,FQ,?_⟩
    cases ht:cs.t with
    | num v=>exact⟨v,FQ⟩
    | nm x=>rw[ht] at hf';have z:Gp (.tm (match cs.E x with | some i=>.at_ i | none=>.nm x))=true:=hf';cases e:cs.E x<;>rw[e] at z<;>cases z
    | _=>rw[ht] at hf';cases hf'
   | _=>rw[hl] at hf;cases hf
  refine⟨_,FQ,_,wT,?_⟩;refine ga Xb FQ R.r ?_;have R1:=set c.a;refine⟨_,FQ,_,Zo,Zx (v:=false) (by decide+kernel) ⟨_,FQ,Zq ?_⟩⟩;refine⟨_,FQ,_,Zo,Zx (v:=false) (by decide+kernel) ⟨_,FQ,Zq ?_⟩⟩;refine⟨_,FQ,_,Zo,Zx (v:=true) (XU _) ⟨_,FQ,Z5 ?_⟩⟩;refine⟨_,FQ,_,Y2,?_⟩;refine ga Vp FQ R1.r ?_;have R2:=R1.s0 {l with h:=.cl c,ar:=c.a} (XW _) (λc' e=>by cases e;exact⟨⟨mv Kp.gu hfk.1,hfk.2⟩,FQ⟩) (λ_=>h1w);have ev:Cz l.h=.tup [.str "number",.int v]:=by rw[hl];show tt cs.t=_;rw[ht];rfl
  rw[ev];refine⟨_,FQ,_,_,_,_,FQ,FQ,.inl R2.r,Wa,⟨_,_,FQ,R2.pp⟩,_,FQ,_,Z1,_,FQ,_,Z1,λa ha=>⟨ZNB FQ,?_⟩⟩;have R3:=R2.ex (Ex.new (o:=.dic []) ha);refine⟨_,_,_,FQ,FQ,R3.pp,Yc (by rw[XI];show l.P.length<=_;omega),?_⟩;have R4:=R3.s1 (l.P++[.right o v a]) (λg hg=>by
   rcases XS.mp hg with hg | hg
   ·exact R3.hP g hg
   ·rw[XQ.mp hg];exact⟨(R2.fresh ha).1 0,⟨[],Zh,λ_=>rfl,by show(0:Int)<=10*l.k;omega⟩,λy hy=>by cases hy⟩)
  rw[XL] at R4;refine q _ _ R4 FQ (λx z=>by cases z) ?_;rw[hl];show({ab l U with P:=(l.P++[LF.right o v a]).map Ba,h:=.tm c.u}:St)=yu (ab l U) (.tm (pu cs.E cs.t)) (.left o c.u);rw[ht,XL];rfl
 | right o v a=>
  obtain⟨cs,hl,w,ht⟩:∃cs,l.h=.cl cs/\∃v,cs.t=.num v:=by
   cases hl:l.h with
   | cl cs=>
    rw[hl] at hf;have hf':Gp (.tm (pu cs.E cs.t))=true:=hf;refine⟨cs,FQ,?_⟩
    cases ht:cs.t with
    | num v=>exact⟨v,FQ⟩
    | nm x=>rw[ht] at hf';have z:Gp (.tm (match cs.E x with | some i=>.at_ i | none=>.nm x))=true:=hf';cases e:cs.E x<;>rw[e] at z<;>cases z
    | _=>rw[ht] at hf';cases hf'
   | _=>rw[hl] at hf;cases hf
  refine⟨_,FQ,_,wT,?_⟩;refine ga Xb FQ R.r ?_;have R1:=set a;refine⟨_,FQ,_,Zo,Zx (v:=false) (by decide+kernel) ⟨_,FQ,Zq ?_⟩⟩;refine⟨_,FQ,_,Zo,Zx (v:=false) (by decide+kernel) ⟨_,FQ,Zq ?_⟩⟩;refine⟨_,FQ,_,Zo,Zx (v:=false) (by decide+kernel) ⟨_,FQ,Zq ?_⟩⟩;refine⟨_,FQ,_,Zo,Zx (v:=true) (XU _) ⟨_,FQ,Z5 ?_⟩⟩;have ev:Cz l.h=.tup [.str "number",.int w]:=by rw[hl];show tt cs.t=_;rw[ht];rfl
  rw[ev];refine⟨_,FQ,_,Z1,_,FQ,_,Y2,_,FQ,_,Z1,?_⟩;dsimp only[Zy];refine nO (n:=n+1) hfo.1 hfo.2 λC2 E2=>?_;have R2:=R1.ex E2;refine ga Vp FQ R2.r ?_;have eu:yu (ab l U) (T9 l.h) (Ba (.right o v a))={ab l U with h:=Uv o v w}:=by
   rw[hl];show yu (ab l U) (.tm (pu cs.E cs.t)) _=_;rw[ht];rfl
  rw[eu] at q;have kz:Dk (B 0) C2 l.k a (λ_=>none) []:=mv (Kp.trans Kp.gu (Kp.ex E2)) hfk;have fin:∀h:LH,Cz h=hT (Uv o v w)->T9 h=Uv o v w->Ll (B 0) C2 l.k h a->(∀x,h≠.raw x)->Q .non (up C2 (B 0) (.dic (gk B {l with h:=.raw (hT (Uv o v w)),ar:=a}))):=λh e1 e2 e3 e4=>by
   have e5:gk B {l with h:=.raw (hT (Uv o v w)),ar:=a}=gk B {l with h:=h,ar:=a}:=by unfold gk;rw[e1];rfl
   rw[e5];refine q _ _ (R2.s0 {l with h:=h,ar:=a} (XW _) e3 (λ_=>h1w)) FQ e4 ?_;show({ab l U with h:=T9 h}:St)=_;rw[e2]
  unfold Uv at fin |-
  split at fin
  next c1=>rw[XY c1];exact fin (.made _ []) FQ FQ (λc e=>by cases e) (λx z=>by cases z)
  next c1=>
   rw[XX c1]
   split at fin
   next c2=>rw[XY c2];exact fin (.made _ []) FQ FQ (λc e=>by cases e) (λx z=>by cases z)
   next c2=>
    rw[XX c2];exact fin (.cl ⟨.num _,λ_=>none,a,[]⟩) FQ FQ (λc e=>by cases e;exact⟨⟨kz,YO _ (by decide),CB _ (by decide)⟩,FQ⟩) (λx z=>by cases z)
 | pick al E a Γ=>
  obtain⟨c,ms,hl⟩:∃c ms,l.h=.made c ms:=by
   cases hl:l.h with
   | made c ms=>exact⟨c,ms,FQ⟩
   | _=>rw[hl] at hf;cases hf
  rw[hl] at hf hho;have hf':(U1 c (al.map λz=>(z.1,z.2.1,pu (Vb E z.2.1) z.2.2))).isSome=true:=hf;obtain⟨z,r,z1,z2,z3,z4⟩:=km hf';obtain⟨k1,k2,k3⟩:=hfk;obtain⟨k4,k5,k6⟩:=k3 z z1;have hlm:z.2.1.length=ms.length:=by rw[k4,z2];exact hho.2.1.symm
  refine⟨_,FQ,_,yq,?_⟩;refine ga Xb FQ R.r ?_;have R1:=set a;refine⟨_,FQ,_,Zo,Zx (v:=false) (by decide+kernel) ⟨_,FQ,Zq ?_⟩⟩;refine⟨_,FQ,_,Zo,Zx (v:=true) (XU _) ⟨_,FQ,Z5 ?_⟩⟩;have ev:Cz l.h=.tup [.str "made",.str c,.tup (ms.map nT)]:=by rw[hl];rfl
  rw[ev];refine⟨_,FQ,_,Z1,?_⟩;refine Fi (aA c) trivial (Ya (by rw[XI];omega)) (λx hx R N hR hN=>?_) λp hp=>?_
  ·obtain⟨y,_,rfl⟩:=XR.mp hx;refine⟨_,FQ,_,Zo,_,FQ,_,Z1,bJ FQ ⟨_,FQ,Nf (λe=>⟨_,FQ,hR _ ?_⟩) λe=>hN ?_⟩⟩
   ·rw[zT,if_pos (by simpa using e)]
   ·rw[zT,if_neg (by simpa using e)]
  ·rw[z4];have R2:=R1.ex (Ex.new (o:=.lst (wU z::r)) hp);refine⟨_,_,Zh,Zo,?_⟩;refine⟨_,FQ,_,Y2,?_⟩;refine ga Vp FQ R2.r ?_;have R3:=R2.s0 {l with h:=.raw (tt z.2.2),ar:=a} (XW _) Ll.raw (λ_=>h1w);refine⟨_,FQ,_,Y2,_,FQ,_,Z1,_,FQ,_,Y2,?_⟩;dsimp only[Zy];refine K8 (n:=n+1) (k:=l.k-1) (k':=l.k) (ns:=z.2.1) (ms:=ms) (k1.mv (Kp.trans (Kp.trans Kp.gu (Kp.ex (Ex.new hp))) Kp.gu) (Int.le_refl _)) (by rw[R3.r];simp) hlm (by rw[k4];exact Nat.le_trans (Ay _) (by omega)) k5 ⟨by omega,by omega⟩ (by omega) (.inl ⟨FQ,FQ⟩) λp2 C4 E4 K4=>?_;have R4:=R3.ex E4;refine ga Xb FQ R4.r ?_;refine q _ _ (R4.s0 {l with h:=.cl ⟨z.2.2,ov E (mo (z.2.1.zip ms)),p2,z.2.1++Γ⟩,ar:=p2} (XW _) (λc' e=>by cases e;exact⟨⟨K4,k6⟩,FQ⟩) (λ_=>h1w)) FQ (λx z=>by cases z) ?_;rw[hl];show({ab l U with h:=.tm (pu (ov E (mo (z.2.1.zip ms))) z.2.2)}:St)=(match U1 c (al.map λz=>(z.1,z.2.1,pu (Vb E z.2.1) z.2.2)) with | some a=>{ab l U with h:=.tm (pu (mo (a.2.1.zip ms)) a.2.2)} | none=>ab l U);rw[z3,<-zv hlm]
 | give c=>
  obtain⟨cs,hl,x,b,ht⟩:∃cs,l.h=.cl cs/\∃x b,cs.t=.fn x b:=by
   cases hl:l.h with
   | cl cs=>
    rw[hl] at hf;have hf':isFn (.tm (pu cs.E cs.t))=true:=hf;refine⟨cs,FQ,?_⟩
    cases ht:cs.t with
    | fn x b=>exact⟨x,b,FQ⟩
    | nm x=>rw[ht] at hf';have z:isFn (.tm (match cs.E x with | some i=>.at_ i | none=>.nm x))=true:=hf';cases e:cs.E x<;>rw[e] at z<;>cases z
    | _=>rw[ht] at hf';cases hf'
   | _=>rw[hl] at hf;cases hf
  have hca:cs.a=l.ar:=(R.hh cs hl).2;have kcs:=hhk cs hl;have hob:=kcs.2;rw[ht] at hob;refine⟨_,FQ,_,yq,?_⟩;refine ga Xb FQ R.r ?_;have R1:=set c.a;refine⟨_,FQ,_,Zo,Zx (v:=true) (XU _) ⟨_,FQ,Z5 ?_⟩⟩;have ev:Cz l.h=.tup [.str "fun",.str x,tt b]:=by rw[hl];show tt cs.t=_;rw[ht];rfl
  have fin:∀(j:Nat) (C2:Hw) (l2:Gx) (v4:Option T),Lr B C2 l2->Kp (B 0) C C2->l2.W=l.W->l2.h=.raw (Cz l.h)->l2.k=l.k->l2.w=l.w->{ab l2 U with h:=T9 l.h}=Na (ab l U) x c.u->j=xZ (ab l U) c.u->
    (Vn (T7 (Y1 Tz (Z6 1) (eC (.int 2))) (fo (Z6 0) (eC (.str "hand")))) (T7 (Vj (Z4 pr (n+2)) 51 (Yb (Z6 3) (Yb (wJ (Yb (Y1 Tz (Z6 1) (eC (.int 1))) Zy)) (Yb (wJ (Yb (Z6 4) Zy)) Zy)))) (fo (Z6 0) (eC (.str "around"))))) {nx:=λ_ C'=>Q .non C',rt:=Q,xc:=χ} [some (.ref (B 0)),some (.tup [.str "fun",.str x,tt b]),some (Ss (.give c)),some (.ref l.ar),some (nT j),v4] C2:=by
   intro j C2 l2 v4 R2 kp2 eW eh ek ew eab ej;refine⟨_,FQ,_,Y2,?_⟩;refine ga Vp FQ R2.r ?_;have R3:=R2.s0 {l2 with h:=.raw (tt b)} (XW _) Ll.raw (λ_=>by show 1<=l2.w;rw[ew];exact h1w);refine⟨_,FQ,_,FQ,_,Z1,ZNB FQ,λp1 hp1=>⟨_,FQ,ZNB FQ,λp2 hp2=>?_⟩⟩;have E1:=Ex.new (o:=.lst [.str x]) hp1;have E2:=Ex.new (o:=.lst [nT j]) hp2;have R5:=(R3.ex E1).ex E2;dsimp only[Zy];have kp:Kp (B 0) C _:=Kp.trans (Kp.trans kp2 Kp.gu) (Kp.ex (E1.trans E2));refine K8 (n:=n+1) (k:=l.k-1) (k':=l.k) (E:=cs.E) (Γ:=cs.Γ) (ns:=[x]) (ms:=[j]) (hca▸kcs.1.mv kp (Int.le_refl _)) (by rw[R5.r];simp) FQ (by simp) (by simp) ⟨by omega,by omega⟩ (by omega) (.inr ⟨p1,p2,FQ,FQ,E2 _ _ Zh,Zh⟩) λp C6 E6 K6=>?_;have R6:=R5.ex E6;refine ga Xb FQ R6.r ?_;refine q _ _ (R6.s0 {l2 with h:=.cl ⟨b,ov cs.E (mo [(x,j)]),p,[x]++cs.Γ⟩,ar:=p} (XW _) (λc' e=>by cases e;exact⟨⟨by show Dk (B 0) C6 l2.k _ _ _;rw[ek];exact K6,Jx hob.2.2⟩,FQ⟩) (λ_=>by show 1<=l2.w;rw[ew];exact h1w)) eW (λx z=>by cases z) ?_;rw[hl];show({ab l2 U with h:=.tm (pu (ov cs.E (mo [(x,j)])) b)}:St)=yu (ab l U) (.tm (pu cs.E cs.t)) (.give c.u);have e9:pu (mo [(x,j)]) (pu (Vb cs.E [x]) b)=pu (ov cs.E (mo [(x,j)])) b:=zv (ns:=[x]) (ms:=[j]) FQ;rw[ht,<-e9,ej];exact congrArg (λs=>({s with h:=.tm (pu (mo [(x,xZ (ab l U) c.u)]) (pu (Vb cs.E [x]) b))}:St)) eab
  rw[ev] at R1 |-
  rcases vt (c:=c) (t:=c.t) hfk with⟨y,i,hy,hE,hpu⟩ | ⟨hm,w,r,ew2,en⟩
  ·have et:tt c.t=.tup [.str "name",.str y]:=by rw[hy];rfl
   have K1:=hfk.1.mv (Kp.gu (C:=C) (o:=.dic (gk B {l with ar:=c.a}))) (XW _);obtain⟨kvs,d1,d2,_⟩:=K1.d;have ef:Ss (.give c)=.tup [.str "give",.tup [.str "name",.str y],.ref c.a]:=by show T.tup [_,tt c.t,_]=_;rw[et]
   rw[ef] at fin |-;refine⟨_,FQ,_,Z1,_,Zo,Zx (v:=true) (XU _) ⟨_,FQ,Z5 ?_⟩⟩;refine⟨_,FQ,_,Y2,_,FQ,_,Z1,_,Z1,_,_,_,nT i,FQ,FQ,.inl d1,by rw[d2,hE];rfl,?_⟩;refine fin i _ _ none R1 Kp.gu FQ (by rw[<-ev]) FQ FQ ?_ ?_
   ·have hpu':c.u=.at_ i:=hpu;unfold Na;rw[hpu'];rfl
   ·have hpu':c.u=.at_ i:=hpu;rw[hpu'];rfl
  ·have ef:Ss (.give c)=.tup [.str "give",.tup (.str w::r),.ref c.a]:=by show T.tup [_,tt c.t,_]=_;rw[ew2]
   rw[ef] at fin |-;refine⟨_,FQ,_,Z1,_,Zo,Zx en ⟨_,FQ,Zq ?_⟩⟩;refine⟨_,FQ,_,FQ,_,Z1,_,FQ,_,Z1,_,FQ,_,Y2,?_⟩;dsimp only[Zy];rw[<-ew2];refine Ek (n:=n) (c:=c) R1 ⟨mv Kp.gu hfk.1,hfk.2⟩ (by show l.D.length<=_;omega) (by show l.G.length<=_;omega) λC2 F2 K2 R2=>?_;refine fin l.D.length C2 _ none R2 (Kp.trans Kp.gu K2) FQ (by rw[<-ev];rfl) FQ FQ ?_ ?_
   ·unfold Na;rw[XX (by rw[hm];decide),oC];rfl
   ·rw[G3 hm];exact(XI _).symm
end
open PySem PySem.Spec PyProof.Rows L2 WL
section
variable {B:Bd}{C C':Hw}{l l':Gx}{Q:WK}{χ:WX}{n d:Nat}{U:List Str}
def nN (R:Lr B C l)(o:Ok d (ab l U))(hr:∀x,l.h≠.raw x)(h1:one (ab l U)=none)(hk:l.k<1000)
  (q:∀C' l',Lr B C' l'->l'.W=l.W->(∀x,l'.h≠.raw x)->ab l' U=yv {ab l U with k:=l.k+1}->Q .non C'):Z4 pr (n+4) j7 [.ref (B 0)] C Q χ:=by
 refine yD FQ ?_;obtain⟨bD,bG,bP,bk0,bk1⟩:=fZ o;obtain⟨g1,g2,g3⟩:=Zbc FQ h1;have hhn:l.h≠.no:=λz=>by have:B8 (T9 l.h)=false:=g1;rw[z] at this;cases this
 have h1w:=R.hw hhn;refine⟨_,FQ,_,_,_,_,FQ,FQ,.inl R.r,Lw,?_⟩;refine ga pA FQ R.r ?_;have R1:=R.s0 {l with k:=l.k+1} (by show l.k<=l.k+1;omega) (R.hh.mv (Kp.ex (Ex.refl _)) (by show l.k<=l.k+1;omega)) R.hw;refine⟨_,FQ,_,_,_,_,FQ,FQ,.inl R1.r,Fa,?_⟩;refine⟨_,FQ,_,_,_,_,FQ,FQ,.inl R1.r,Sy,?_⟩;obtain⟨w,r,ew,eV,_⟩:=gQ hhn hr;rw[show Cz ({l with k:=l.k+1}:Gx).h=.tup (.str w::r) from ew];refine⟨_,FQ,_,Zo,ZNB FQ,λp hp=>⟨_,Zh,Jd,by decide,_,FQ,?_⟩⟩;have R2:=R1.ex (Ex.new (o:=.lst [.str "number",.str "fun",.str "made"]) hp);have kp2:Kp (B 0) C (up (up C (B 0) (.dic (gk B {l with k:=l.k+1}))) p (.lst [.str "number",.str "fun",.str "made"])):=Kp.trans Kp.gu (Kp.ex (Ex.new hp));show if Kn (.str w) [.str "number",.str "fun",.str "made"]=true then _ else _
 rw[eV];generalize up (up C (B 0) (.dic (gk B {l with k:=l.k+1}))) p (.lst [.str "number",.str "fun",.str "made"])=C2 at R2 kp2;have hL:(ab l U).L.length=l.D.length:=XI _
 cases hv:Qs (T9 l.h) with
 | true=>
  refine Z5 ?_;obtain⟨f',g4,g5,g6⟩:=g3 hv;obtain⟨f,hf,rfl⟩:∃f,l.P.getLast?=some f/\Ba f=f':=by
   have z:(l.P.map Ba).getLast?=some f':=g4;rw[List.getLast?_map] at z;exact DC.mp z
  have sp:=Wj hf;generalize edl:l.P.dropLast=P' at sp;have eP:l.P.map Ss=P'.map Ss++[Ss f]:=by rw[sp,XL];rfl
  have hpp:=R2.pp;have eP':({l with k:=l.k+1}:Gx).P.map Ss=P'.map Ss++[Ss f]:=eP;rw[eP'] at hpp;refine⟨_,FQ,_,FQ,_,FQ,_,_,_,_,FQ,FQ,.inl R2.r,Wa,⟨_,_,FQ,hpp⟩,_,_,_,FQ,FQ,hpp,(by simp:(P'.map Ss++[Ss f])[(P'.map Ss++[Ss f]).length-1]?=some (Ss f)),?_⟩;have ed:(P'.map Ss++[Ss f]).dropLast=P'.map Ss:=by simp
  rw[ed,<-ew];have R3:=R2.s1 P' (λg hg=>R2.hP g (by show g∈l.P;rw[sp];exact CA _ hg));have kp3:=Kp.trans kp2 (Kp.l (g:=B 0) (o:=.lst (P'.map Ss)) R2.pp);have hPl:P'.length<=9000:=by have:=congrArg List.length sp;rw[BX] at this;omega
  dsimp only[Zy];refine rH (n:=n) (l:={l with k:=l.k+1,P:=P'}) (L:=l.D.length) (d:=d) (U:=U) R3 hr g6 hv g5 ?_ ?_ ?_ ?_ bD bG hPl ⟨by show 1<=l.k+1;omega,by show l.k+1<=1000;omega⟩ λC4 l4 R4 e1 e2 e3=>q C4 l4 R4 e1 e2 ?_
  ·exact(R.hP f (X4 hf)).mv kp3 (by show l.k<=l.k+1-1;omega)
  ·exact λc e=>(R.hh c e).1.mv kp3 (by show l.k<=l.k+1-1;omega)
  ·rw[<-hL];exact o.h
  ·rw[<-hL];exact o.P _ (X4 g4)
  ·rw[e3];unfold yv;have hv':Qs (ab l U).h=true:=hv;show _=(if Qs (ab l U).h=true then(match (ab l U).P.getLast? with | some f=>_ | none=>_) else _);rw[XY hv',g4];have eD:(ab l U).P.dropLast=P'.map Ba:=by show(l.P.map Ba).dropLast=_;rw[sp,List.map_append];simp
   show yu _ _ _=yu {ab l U with k:=l.k+1,P:=(ab l U).P.dropLast} (T9 l.h) (Ba f);rw[eD];rfl
 | false=>
  refine Zq ?_;have es:yv {ab l U with k:=l.k+1}=Fj {ab l U with k:=l.k+1} (bC (T9 l.h)):=by
   unfold yv;show(if Qs (T9 l.h)=true then _ else(match T9 l.h with | .tm t=>Fj _ t | _=>_))=_;rw[XX (by rw[hv];decide)]
   cases hl:l.h with
   | no=>exact absurd hl hhn
   | raw x=>exact absurd hl (hr x)
   | made c ms=>rw[hl] at hv;cases hv
   | th i=>rfl
   | cl c=>rfl
  rw[es] at q;have ho:Td l.D.length d (T9 l.h):=by rw[<-hL];exact o.h
  have ent:∀(i:Nat) (v1:Option T),bC (T9 l.h)=.at_ i->(Vn (Q8 (Vj (Z4 pr (n+3)) 49 (Yb (Z6 0) (Yb (eC (.str "enter")) (Yb (Z6 3) Zy))))) (Vn (Q8 (lI yK Tl (Y1 y6 (Z6 0) (eC (.str "pile"))) (Yb (Dh (Yb (eC (.str "back")) (Yb (Z6 3) Zy))) Zy))) (Vn (T7 (Y1 Tz (Y1 Tz (Y1 y6 (Z6 0) (eC (.str "things"))) (Z6 3)) (eC (.int 0))) (fo (Z6 0) (eC (.str "hand")))) (T7 (Y1 Tz (Y1 Tz (Y1 y6 (Z6 0) (eC (.str "things"))) (Z6 3)) (eC (.int 1))) (fo (Z6 0) (eC (.str "around"))))))) {nx:=λ_ C'=>Q .non C',rt:=Q,xc:=χ} [some (.ref (B 0)),v1,some (.ref l.ar),some (nT i)] C2:=by
   intro i v1 hi;rw[hi] at q;have hi':i<l.D.length:=by
    cases hl:l.h with
    | no=>exact absurd hl hhn
    | raw x=>exact absurd hl (hr x)
    | made c ms=>rw[hl] at hi;cases hi
    | th j=>rw[hl] at hi ho;cases hi;exact ho
    | cl c=>rw[hl] at hi ho;have z:ok l.D.length d [] c.u:=ho;have hi2:c.u=.at_ i:=hi;rw[hi2] at z;exact z
   have hz:l.D[i]?=some l.D[i]:=CW hi';refine⟨_,FQ,_,FQ,?_⟩;dsimp only[Zy,eC];refine zo (n:=n+2) (z:=l.D[i]) R2 hz (by show l.G.length<=_;omega) ?_;have R3:=R2.s4 (l.G++[oQ {l with k:=l.k+1} "enter" i l.D[i].2]);refine⟨_,FQ,_,_,_,_,FQ,FQ,.inl R3.r,Wa,⟨_,_,FQ,R3.pp⟩,_,FQ,ZNB FQ,_,_,_,FQ,FQ,R3.pp,Yc (by rw[XI];show l.P.length<=_;omega),?_⟩;have R4:=R3.s1 (l.P++[.back i]) (λg hg=>by
    rcases XS.mp hg with hg | hg
    ·exact R3.hP g hg
    ·rw[XQ.mp hg];trivial)
   rw[XL (f:=Ss)] at R4;have hat:Sg (l.D.map ny) (i:Int)=some (ny l.D[i]):=Zbn (by rw[XM,hz];rfl);refine⟨_,FQ,_,_,_,_,FQ,FQ,.inl R4.r,Va,_,FQ,_,_,R4.pt,hat,_,Zo,?_⟩;refine ga Vp FQ R4.r ?_;have R5:=R4.s0 {l with k:=l.k+1,G:=l.G++[oQ {l with k:=l.k+1} "enter" i l.D[i].2],P:=l.P++[.back i],h:=.raw (tt l.D[i].1.t)} (XW _) Ll.raw (λ_=>h1w);refine⟨_,FQ,_,_,_,_,FQ,FQ,.inl R5.r,Va,_,FQ,_,_,R5.pt,hat,_,Z1,?_⟩;refine ga Xb FQ R5.r ?_;refine q _ _ (R5.s0 {l with k:=l.k+1,G:=l.G++[oQ {l with k:=l.k+1} "enter" i l.D[i].2],P:=l.P++[.back i],h:=.cl l.D[i].1,ar:=l.D[i].1.a} (XW _) (λc e=>by cases e;exact⟨R5.hD _ (YN hi'),FQ⟩) (λ_=>h1w)) FQ (λx z=>by cases z) ?_;have e1:uT (ab l U) i=l.D[i].2:=by unfold uT;show((l.D.map (·.2))[i]?).getD ("":Str)=_;rw[XM,hz];rfl
   have e2:((ab l U).D[i]?).getD (.nm "")=l.D[i].1.u:=by show((l.D.map (·.1.u))[i]?).getD _=_;rw[XM,hz];rfl
   show _=({ab l U with k:=l.k+1,P:=(ab l U).P++[.back i],h:=.tm (((ab l U).D[i]?).getD (.nm "")),G:=(ab l U).G++[nt {ab l U with k:=l.k+1} "enter" i (uT (ab l U) i)]}:St);rw[e1,e2];unfold ab;simp only[List.map_append];rfl
  cases hl:l.h with
  | no=>exact absurd hl hhn
  | raw x=>exact absurd hl (hr x)
  | made c ms=>rw[hl] at hv;cases hv
  | th i=>
   rw[hl] at ew
   cases ew
   refine⟨_,FQ,_,Zo,Zx (v:=false) (by decide+kernel) ⟨_,FQ,Zq ?_⟩⟩;refine⟨_,FQ,_,Zo,Zx (v:=false) (by decide+kernel) ⟨_,FQ,Zq ?_⟩⟩;refine⟨_,FQ,_,Zo,Zx (v:=false) (by decide+kernel) ⟨_,FQ,Zq ?_⟩⟩;refine⟨_,FQ,_,Zo,Zx (v:=false) (by decide+kernel) ⟨_,FQ,Zq ?_⟩⟩;refine⟨_,FQ,_,Zo,Zx (v:=false) (by decide+kernel) ⟨_,FQ,Zq ?_⟩⟩;refine⟨_,FQ,_,Zo,Zx (v:=false) (by decide+kernel) ⟨_,FQ,Zq ?_⟩⟩;refine⟨_,FQ,_,Z1,?_⟩;refine⟨_,FQ,_,Zo,Zx (v:=false) (by decide+kernel) ⟨_,FQ,Zq ?_⟩⟩;exact ent i _ (by rw[hl];rfl)
  | cl c=>
   obtain⟨hkc,hca⟩:=R.hh c hl;rw[hl] at ew hv q;have ew':tt c.t=.tup (.str w::r):=ew;have hk1:G5 (B 0) C2 (l.k+1-1) c:=hkc.mv kp2 (by omega);have hk2:G5 (B 0) C2 (l.k+1) c:=hkc.mv kp2 (by omega);have cl2:∀t,ok 0 12 c.Γ t->G5 (B 0) C2 (l.k+1) ⟨t,c.E,l.ar,c.Γ⟩:=λt h=>⟨hca▸hk2.1,h⟩;have hkt:=hkc.2;have hv':Sv c.t=false:=by rw[<-G6 (E:=c.E)];exact hv
   have hs':Sb (.tm c.t)=none:=by rw[<-G7 (E:=c.E)];have z:Sb (T9 l.h)=none:=g2;rw[hl] at z;exact z
   have go:∀(f:LF) (t:Tm) (C3:Hw) (l3:Gx),l3.P=l.P->l3.W=l.W->l3.k=l.k+1->l3.w=l.w->l3.ar=l.ar->Lr B C3 l3->Kp (B 0) C2 C3->wq (B 0) C2 (l.k+1) f->ok 0 12 c.Γ t->pC (ab {l3 with h:=.no} U) (.tm (pu c.E t)) (Ba f)=Fj {ab l U with k:=l.k+1} (bC (T9 (.cl c)))->Q .non (up (up C3 (B 1) (.lst (l.P.map Ss++[Ss f]))) (B 0) (.dic (gk B {l3 with P:=l.P++[f],h:=.raw (tt t)}))):=by
    intro f t C3 l3 e1 e2 e3 e4 e5 R3 kp3 hf ht hg;have R4:=R3.s1 (l.P++[f]) (λg hg=>by
     rcases XS.mp hg with hg | hg
     ·exact R3.hP g (e1▸hg)
     ·rw[XQ.mp hg];exact hf.mv kp3 (by rw[e3];exact XW _))
    rw[XL (f:=Ss)] at R4;refine q _ _ (R4.s0 {l3 with P:=l.P++[f],h:=.cl ⟨t,c.E,l.ar,c.Γ⟩} (XW _) (λc' e=>by cases e;exact⟨(cl2 t ht).mv (Kp.trans kp3 (Kp.l R3.pp)) (by show l.k+1<=l3.k;rw[e3];exact XW _),e5.symm⟩) (λ_=>by show 1<=l3.w;rw[e4];exact h1w)) e2 (λx z=>by cases z) ?_;rw[<-hg];unfold pC ab;simp only[List.map_append,e1];rfl
   cases ht:c.t with
   | num v=>rw[ht] at hv';cases hv'
   | fn x b=>rw[ht] at hv';cases hv'
   | stop x=>rw[ht] at hs';cases hs'
   | at_ i=>rw[ht] at hkt;exact absurd hkt (Nat.not_lt_zero _)
   | nm y=>
    rw[ht] at ew' hkt
    cases ew'
    cases hE:c.E y with
    | none=>exact absurd hE (hkc.1.c y hkt)
    | some i=>
     obtain⟨kvs,d1,d2,_⟩:=hk2.1.d;have d1':C2 l.ar=some (.dic kvs):=by rw[<-hca];exact d1
     refine⟨_,FQ,_,Zo,Zx (v:=false) (by decide+kernel) ⟨_,FQ,Zq ?_⟩⟩;refine⟨_,FQ,_,Zo,Zx (v:=false) (by decide+kernel) ⟨_,FQ,Zq ?_⟩⟩;refine⟨_,FQ,_,Zo,Zx (v:=false) (by decide+kernel) ⟨_,FQ,Zq ?_⟩⟩;refine⟨_,FQ,_,Zo,Zx (v:=false) (by decide+kernel) ⟨_,FQ,Zq ?_⟩⟩;refine⟨_,FQ,_,Zo,Zx (v:=false) (by decide+kernel) ⟨_,FQ,Zq ?_⟩⟩;refine⟨_,FQ,_,Zo,Zx (v:=false) (by decide+kernel) ⟨_,FQ,Zq ?_⟩⟩;refine⟨_,FQ,_,Z1,?_⟩;refine⟨_,FQ,_,Zo,Zx (v:=true) (XU _) ⟨_,FQ,Z5 ?_⟩⟩;refine⟨_,FQ,_,FQ,_,Z1,_,_,_,nT i,FQ,FQ,.inl d1',by rw[d2,hE];rfl,?_⟩;exact ent i _ (by rw[hl];show pu c.E c.t=_;rw[ht];show(match c.E y with | some i=>Tm.at_ i | none=>.nm y)=_;rw[hE])
   | lt m xs ts b=>
    rw[ht] at ew'
    cases ew'
    refine⟨_,FQ,_,Zo,Zx (v:=true) (XU _) ⟨_,FQ,Z5 ?_⟩⟩;refine⟨_,FQ,_,FQ,?_⟩;dsimp only[Zy];rw[show T.tup [.str "let",.tup ((List.finRange m).map λi=>.tup [.str (xs i),tt (ts i)]),tt b]=tt c.t by rw[ht];rfl];exact iP (n:=n) (l:={l with k:=l.k+1}) (U:=U) R2 hl ht bD bG hk1 ⟨by show 1<=l.k+1;omega,by show l.k+1<=1000;omega⟩ λC4 l4 R4 e1 e2 e3=>q C4 l4 R4 e1 e2 e3
   | shp0 x=>
    rw[ht] at ew' hkt
    cases ew'
    refine⟨_,FQ,_,Zo,Zx (v:=false) (by decide+kernel) ⟨_,FQ,Zq ?_⟩⟩;refine⟨_,FQ,_,Zo,Zx (v:=true) (XU _) ⟨_,FQ,Z5 ?_⟩⟩;refine⟨_,FQ,_,FQ,?_⟩;dsimp only[Zy];rw[show T.tup [.str "shape",.str x,.tup []]=tt c.t by rw[ht];rfl];refine yV (n:=n) (l:={l with k:=l.k+1}) (U:=U) (c:=x) (ts:=[]) R2 hl (by rw[ht];rfl) hkt.1.2 (by simp) hk2 (λt h=>by cases h) bD bG λC4 l4 R4 e1 e2 e3=>q C4 l4 R4 e1 e2 ?_;rw[e3];show _=Fj _ (pu c.E c.t);rw[ht];rfl
   | shp2 x a b=>
    rw[ht] at ew' hkt
    cases ew'
    refine⟨_,FQ,_,Zo,Zx (v:=false) (by decide+kernel) ⟨_,FQ,Zq ?_⟩⟩;refine⟨_,FQ,_,Zo,Zx (v:=true) (XU _) ⟨_,FQ,Z5 ?_⟩⟩;refine⟨_,FQ,_,FQ,?_⟩;dsimp only[Zy];rw[show T.tup [.str "shape",.str x,.tup [tt a,tt b]]=tt c.t by rw[ht];rfl];refine yV (n:=n) (l:={l with k:=l.k+1}) (U:=U) (c:=x) (ts:=[a,b]) R2 hl (by rw[ht];rfl) hkt.2.1.1.2 (by simp) hk2 (λt h=>?_) bD bG λC4 l4 R4 e1 e2 e3=>q C4 l4 R4 e1 e2 ?_
    ·simp only[ZM,ZN,or_false] at h
     rcases h with rfl | rfl
     ·exact Jx hkt.2.2.1
     ·exact Jx hkt.2.2.2
    ·rw[e3];show _=Fj _ (pu c.E c.t);rw[ht];rfl
   | does op a b=>
    rw[ht] at ew' hkt
    cases ew'
    refine⟨_,FQ,_,Zo,Zx (v:=false) (by decide+kernel) ⟨_,FQ,Zq ?_⟩⟩;refine⟨_,FQ,_,Zo,Zx (v:=false) (by decide+kernel) ⟨_,FQ,Zq ?_⟩⟩;refine⟨_,FQ,_,Zo,Zx (v:=true) (XU _) ⟨_,FQ,Z5 ?_⟩⟩;refine⟨_,FQ,_,_,_,_,FQ,FQ,.inl R2.r,Wa,⟨_,_,FQ,R2.pp⟩,_,FQ,_,Z1,_,FQ,_,ub,_,FQ,ZNB FQ,_,_,_,FQ,FQ,R2.pp,Yc (by rw[XI];show l.P.length<=_;omega),?_⟩;refine⟨_,FQ,_,Y2,?_⟩;refine ga Vp FQ (by rw[Zn (R2.di 0 1 (by decide))];exact R2.r) ?_;exact go (.left op ⟨b,c.E,l.ar,c.Γ⟩) a C2 _ FQ FQ FQ FQ FQ R2 (Kp.ex (Ex.refl _)) (cl2 b (Jx hkt.2.2)) (Jx hkt.2.1) (by show _=Fj _ (pu c.E c.t);rw[ht];rfl)
   | call a b=>
    rw[ht] at ew' hkt
    cases ew'
    refine⟨_,FQ,_,Zo,Zx (v:=false) (by decide+kernel) ⟨_,FQ,Zq ?_⟩⟩;refine⟨_,FQ,_,Zo,Zx (v:=false) (by decide+kernel) ⟨_,FQ,Zq ?_⟩⟩;refine⟨_,FQ,_,Zo,Zx (v:=false) (by decide+kernel) ⟨_,FQ,Zq ?_⟩⟩;refine⟨_,FQ,_,Zo,Zx (v:=true) (XU _) ⟨_,FQ,Z5 ?_⟩⟩;refine⟨_,FQ,_,_,_,_,FQ,FQ,.inl R2.r,Wa,⟨_,_,FQ,R2.pp⟩,_,FQ,_,Y2,_,FQ,ZNB FQ,_,_,_,FQ,FQ,R2.pp,Yc (by rw[XI];show l.P.length<=_;omega),?_⟩;refine⟨_,FQ,_,Z1,?_⟩;refine ga Vp FQ (by rw[Zn (R2.di 0 1 (by decide))];exact R2.r) ?_;exact go (.give ⟨b,c.E,l.ar,c.Γ⟩) a C2 _ FQ FQ FQ FQ FQ R2 (Kp.ex (Ex.refl _)) (cl2 b (Jx hkt.2.2)) (Jx hkt.2.1) (by show _=Fj _ (pu c.E c.t);rw[ht];rfl)
   | ch e m cs ns bs=>
    rw[ht] at ew' hkt
    cases ew'
    have ea:(((List.finRange m).map λi=>(cs i,ns i,bs i)).map wU)=(List.finRange m).map λi=>.tup [.str (cs i),.tup ((ns i).map T.str),tt (bs i)]:=by rw[YE];rfl
    rw[<-ea];refine⟨_,FQ,_,Zo,Zx (v:=false) (by decide+kernel) ⟨_,FQ,Zq ?_⟩⟩;refine⟨_,FQ,_,Zo,Zx (v:=false) (by decide+kernel) ⟨_,FQ,Zq ?_⟩⟩;refine⟨_,FQ,_,Zo,Zx (v:=false) (by decide+kernel) ⟨_,FQ,Zq ?_⟩⟩;refine⟨_,FQ,_,Zo,Zx (v:=false) (by decide+kernel) ⟨_,FQ,Zq ?_⟩⟩;refine⟨_,FQ,_,Zo,Zx (v:=true) (XU _) ⟨_,FQ,Z5 ?_⟩⟩;refine⟨_,FQ,_,_,_,_,FQ,FQ,.inl R2.r,Wa,⟨_,_,FQ,R2.pp⟩,_,FQ,_,Y2,_,FQ,ZNB FQ,_,_,_,FQ,FQ,R2.pp,Yc (by rw[XI];show l.P.length<=_;omega),?_⟩;refine⟨_,FQ,_,Z1,?_⟩;refine ga Vp FQ (by rw[Zn (R2.di 0 1 (by decide))];exact R2.r) ?_;refine go (.pick ((List.finRange m).map λi=>(cs i,ns i,bs i)) c.E l.ar c.Γ) e C2 _ FQ FQ FQ FQ FQ R2 (Kp.ex (Ex.refl _)) ⟨hca▸hk2.1,by rw[XI,CP];exact hkt.2.1.1,λz hz=>?_⟩ (Jx hkt.2.2.1) ?_
    ·obtain⟨i,_,rfl⟩:=XR.mp hz;exact⟨(hkt.2.1.2 i).1,(hkt.2.1.2 i).2,Jx (hkt.2.2.2 i)⟩
    ·show pC _ _ (.pick (((List.finRange m).map λi=>(cs i,ns i,bs i)).map λz=>(z.1,z.2.1,pu (Vb c.E z.2.1) z.2.2)))=Fj _ (pu c.E c.t);rw[ht,YE];rfl
   | first a b=>
    rw[ht] at ew' hkt
    cases ew'
    refine⟨_,FQ,_,Zo,Zx (v:=false) (by decide+kernel) ⟨_,FQ,Zq ?_⟩⟩;refine⟨_,FQ,_,Zo,Zx (v:=false) (by decide+kernel) ⟨_,FQ,Zq ?_⟩⟩;refine⟨_,FQ,_,Zo,Zx (v:=false) (by decide+kernel) ⟨_,FQ,Zq ?_⟩⟩;refine⟨_,FQ,_,Zo,Zx (v:=false) (by decide+kernel) ⟨_,FQ,Zq ?_⟩⟩;refine⟨_,FQ,_,Zo,Zx (v:=false) (by decide+kernel) ⟨_,FQ,Zq ?_⟩⟩;refine⟨_,FQ,_,Zo,Zx (v:=true) (XU _) ⟨_,FQ,Z5 ?_⟩⟩;refine⟨_,FQ,_,_,_,_,FQ,FQ,.inl R2.r,An,?_⟩;refine ga tu FQ R2.r ?_;have R3:=R2.s0 {l with k:=l.k+1,f:=l.f+1} (XW _) R2.hh R2.hw;refine⟨_,FQ,_,_,_,_,FQ,FQ,.inl R3.r,Wa,⟨_,_,FQ,R3.pp⟩,_,FQ,_,Y2,_,FQ,ZNB FQ,_,_,_,FQ,FQ,R3.pp,Yc (by rw[XI];show l.P.length<=_;omega),?_⟩;refine⟨_,FQ,_,Z1,?_⟩;refine ga Vp FQ (by rw[Zn (R3.di 0 1 (by decide))];exact R3.r) ?_;exact go (.first ⟨b,c.E,l.ar,c.Γ⟩) a _ _ FQ FQ FQ FQ FQ R3 Kp.gu (cl2 b (Jx hkt.2.2)) (Jx hkt.2.1) (by show _=Fj _ (pu c.E c.t);rw[ht];rfl)
end
open PySem PySem.Spec PyProof.Rows L2 WL
def vP {n:Nat}:J8 (Ap r) (n+1)=true:=Pj λx hx=>by
 simp only[ZM,ZN,or_false] at hx
 rcases hx with rfl | rfl | rfl | rfl
 ·exact Jd
 ·exact Pk
 ·exact Jd
 ·exact Pk
def wI:WL.eqT (.str x) (.str x)=true:=by unfold WL.eqT;exact XU _
def pL:WL.eqT (.int x) (.int x)=true:=by unfold WL.eqT;exact XU _
def bI:WL.eqT (Ap r) (Ap r)=true:=by
 unfold Ap;unfold WL.eqT;simp only[Tc,wI,pL,Bool.and_true]
def bZ:(List.range n).all (λ_=>true)=true:=CJ.mpr λ_ _=>rfl
def f8 {C:Hw}{s:St}(h:C p=some (.lst (s.G.map Ap)))(h':C p'=some (.lst (s.G.map Ap))):iu C 100 (qu s p) (qu s p') true:=by
 refine .inr (.inl ⟨_,_,λ_=>true,FQ,FQ,λj x y hx hy=>?_,FQ⟩)
 match j with
 | 0=>cases hx;cases hy;exact .inl ⟨Jd,Jd,wI.symm⟩
 | 1=>cases hx;cases hy;exact .inl ⟨Jd,Jd,wI.symm⟩
 | 2=>
  cases hx;cases hy
  have hf:J8 (.tup [.int s.k,.int s.c,.int s.f]) 98=true:=Pj λx hx=>by
   simp only[ZM,ZN,or_false] at hx
   rcases hx with rfl | rfl | rfl<;>exact Pk
  refine .inl ⟨hf,hf,?_⟩;unfold WL.eqT;simp only[Tc,pL,Bool.and_true]
 | 3=>
  cases hx;cases hy
  refine .inr (.inr ⟨_,_,_,_,λ_=>true,FQ,FQ,h,h',λ_ j x y hx hy=>?_,?_⟩)
  ·rw[hx] at hy
   cases hy
   obtain⟨r,_,rfl⟩:=XR.mp (CF hx);exact .inl ⟨vP,vP,bI.symm⟩
  ·rw[XY FQ,bZ]
 | j+4=>cases hx
def bt {D:Int}(h:ok 0 d [] t)(hv:Sv t=false)(h0:0<=D):Ok d {Dd t D with w:=D}/\Jl {Dd t D with w:=D}=Jl (Dd t D):=by
 have o:=w5 (D:=D) h hv;have o':Ok d {Dd t D with w:=D}:=⟨o.h,o.hp,o.P,o.S,o.U,o.D,o.D',o.k0,o.nL,o.nG,o.nU⟩;refine⟨o',?_⟩;by_cases c:D=0
 ·subst c;rfl
 ·have e1:one (Dd t D)=some {Dd t D with S:=[],w:=D,h:=.tm t}:=by
   refine(N8 FQ FQ).trans ?_;show some (if D<=0 then _ else _)=_;rw[XX (by omega)];rfl
  have e2:one {Dd t D with w:=D}=some {Dd t D with S:=[],w:=D,h:=.tm t}:=by
   refine(N8 FQ FQ).trans ?_;show some (if D<=0 then _ else _)=_;rw[XX (by omega)];rfl
  have r1:Rc d (Dd t D) (Dd t D):=⟨o,FQ,XE _⟩;have r2:Rc d {Dd t D with w:=D} {Dd t D with w:=D}:=⟨o',FQ,XE _⟩;rw[(r1.go e1).1.e,(r2.go e2).1.e]
section
variable {B:Bd}{C:Hw}{l:Gx}{Q:WK}{χ:WX}{n d:Nat}{U:List Str}
def lq {W U:List Str}(w:Wd W U):Txt.join "" W=Txt.join "" U:=vn (by rw[pc,pc];exact w.e)
def sZ {W:List Str}:(W.map (·.length)).sum=(W.flatMap λw=>w.cps.toList).length:=by
 induction W with
 | nil=>rfl
 | cons x r ih=>rw[YI,List.sum_cons,List.flatMap_cons,BX,ih];rfl
def t4 {x2 x5 x1:Option T}{v9 v10:Option T}(R:Lr B C l)(w:Wd l.W U)(o:Ok d (ab l U))(hR:Re r (fin t D m) l U)(ho:ok 0 12 [] t)(hv:Sv t=false)(hm:m<=1000){v0:Option T}:
  w_law_t4 (Z4 pr 59) {nx:=λ_ C'=>Q .non C',rt:=λv _=>v=.bl true,xc:=χ} [v0,x1,x2,some (.int D),some (.int m),x5,some (tt t),some (.ref (B 0)),some (.str r),v9,v10] C:=by
 have fin1:∀(wd tx:Str),ew (fin t D m).e=wd->ex (fin t D m).e=tx->(fin t D m).k=l.k->(fin t D m).c=l.c->(fin t D m).f=l.f->(fin t D m).G=l.G->w_law_t1 (Z4 pr 59) {nx:=λ_ C'=>Q .non C',rt:=λv _=>v=.bl true,xc:=χ} [v0,x1,x2,some (.int D),some (.int m),x5,some (tt t),some (.ref (B 0)),some (.str wd),some (.str tx),v10] C:=by
  intro wd tx e1 e2 e3 e4 e5 e6;refine⟨_,FQ,_,_,_,_,FQ,FQ,.inl R.r,Lw,_,FQ,_,_,_,_,FQ,FQ,.inl R.r,jF,_,FQ,_,_,_,_,FQ,FQ,.inl R.r,An,ZNB FQ,?_⟩;refine⟨_,FQ,_,FQ,_,FQ,?_⟩;dsimp only[Zy,List.cons_append,List.nil_append];refine cf (n:=35) ho hv hm λp C3 E3 hp h3=>?_;have R3:=R.ex E3;refine⟨_,FQ,_,FQ,_,FQ,_,FQ,_,_,_,_,FQ,FQ,.inl R3.r,pD,ZNB FQ,true,?_,FQ⟩;have hg:=R3.pg;rw[<-e6] at hg;have:=f8 h3 hg;unfold qu at this |-;rw[e1,e2,e3,e4,e5] at this;rw[e1,e2,e3,e4,e5];exact this
 rcases hR with⟨rfl,hX⟩ | ⟨rfl,c,x,hl,ht,hX⟩ | ⟨rfl,hX⟩ | ⟨rfl,hX,_⟩
 ·refine⟨_,FQ,Zx (v:=true) (XU _) ⟨_,FQ,Z5 ?_⟩⟩;have hs:(l.W.map (·.length)).sum<=100*U.length:=by rw[sZ,w.e,<-sZ];exact vG o.U
  have hU:U.length<=9000:=by
   have h1:=o.nU;have h2:=o.k0;have e:(ab l U).U=U:=rfl;rw[e] at h1
   split at h1<;>omega
  have hW:=w.n;refine⟨⟨_,FQ⟩,_,FQ,_,_,_,_,FQ,FQ,.inl R.r,Uw,_,_,l.W,FQ,FQ,R.pw,XO _,by omega,?_⟩;refine⟨_,FQ,Zx (v:=false) (by decide+kernel) ⟨_,FQ,Zq ?_⟩⟩;refine⟨_,FQ,Zx (v:=false) (by decide+kernel) ⟨_,FQ,Zq ?_⟩⟩;exact fin1 "told" _ (by rw[hX];rfl) (by rw[hX,lq w];rfl) (by rw[hX];rfl) (by rw[hX];rfl) (by rw[hX];rfl) (by rw[hX];rfl)
 ·refine⟨_,FQ,Zx (v:=false) (by decide+kernel) ⟨_,FQ,Zq ?_⟩⟩;refine⟨_,FQ,Zx (v:=true) (XU _) ⟨_,FQ,Z5 ?_⟩⟩;have ht':Cz l.h=.tup [.str "stop",.str x]:=by rw[hl];show tt c.t=_;rw[ht];rfl
  have lk:=Fa (B:=B) (l:=l);rw[ht'] at lk;refine⟨_,FQ,_,_,_,_,FQ,FQ,.inl R.r,lk,_,Z1,?_⟩;refine⟨_,FQ,Zx (v:=false) (by decide+kernel) ⟨_,FQ,Zq ?_⟩⟩;exact fin1 "stop" x (by rw[hX];rfl) (by rw[hX];rfl) (by rw[hX];rfl) (by rw[hX];rfl) (by rw[hX];rfl) (by rw[hX];rfl)
 ·refine⟨_,FQ,Zx (v:=false) (by decide+kernel) ⟨_,FQ,Zq ?_⟩⟩;refine⟨_,FQ,Zx (v:=false) (by decide+kernel) ⟨_,FQ,Zq ?_⟩⟩;refine⟨_,FQ,Zx (v:=false) (by decide+kernel) ⟨_,FQ,Zq ?_⟩⟩;exact fin1 "stuck" "" (by rw[hX];rfl) (by rw[hX];rfl) (by rw[hX];rfl) (by rw[hX];rfl) (by rw[hX];rfl) (by rw[hX];rfl)
 ·refine⟨_,FQ,Zx (v:=false) (by decide+kernel) ⟨_,FQ,Zq ?_⟩⟩;refine⟨_,FQ,Zx (v:=false) (by decide+kernel) ⟨_,FQ,Zq ?_⟩⟩;refine⟨_,FQ,Zx (v:=true) (XU _) ⟨_,FQ,Z5 ?_⟩⟩;exact fin1 "spent" "" (by rw[hX];rfl) (by rw[hX];rfl) (by rw[hX];rfl) (by rw[hX];rfl) (by rw[hX];rfl) (by rw[hX];rfl)
def nP {D m:Int}{j:Nat}{v0 x1 x2 x5 v9 v10:Option T}(R:Lr B C l)(w:Wd l.W U)(hr:∀x,l.h≠.raw x)(hR:Re r X l U)(o:Ok 12 (ab l U))(hj:m-X.k<=j)(hX:wV m j X=fin t D m)(ho:ok 0 12 [] t)(hv:Sv t=false)(hm:m<=1000):
  Vn (zq (ay (O4 (Y1 Hk (Z6 8) (eC (.str "")))) (O4 (Y1 av (Y1 y6 (Z6 7) (eC (.str "steps"))) (Z6 4)))) (Vn (Q8 (Vj (Z4 pr 59) 59 (Yb (Z6 7) Zy))) (T7 (Vj (Z4 pr 59) 53 (Yb (Z6 7) Zy)) (Bl 8)))) (w_law_t4 (Z4 pr 59))
   {nx:=λ_ C'=>Q .non C',rt:=λv _=>v=.bl true,xc:=χ} [v0,x1,x2,some (.int D),some (.int m),x5,some (tt t),some (.ref (B 0)),some (.str r),v9,v10] C:=by
 refine Sh (λj τ C'=>∃r X l U,τ=[v0,x1,x2,some (.int D),some (.int m),x5,some (tt t),some (.ref (B 0)),some (.str r),v9,v10]/\Lr B C' l/\Wd l.W U/\(∀x,l.h≠.raw x)/\Re r X l U/\Ok 12 (ab l U)/\m-X.k<=j/\wV m j X=fin t D m) (m:=j) ⟨r,X,l,U,FQ,R,w,hr,hR,o,hj,hX⟩ ?_;clear R w hr hR o hj hX;rintro j τ C' N ⟨r,X,l,U,rfl,R,w,hr,hR,o,hj,hX⟩ hN;have out:(¬(Bm X.e=true/\X.k<m))->w_law_t4 (Z4 pr 59) {nx:=λ_ C'=>Q .non C',rt:=λv _=>v=.bl true,xc:=χ} [v0,x1,x2,some (.int D),some (.int m),x5,some (tt t),some (.ref (B 0)),some (.str r),v9,v10] C':=λhc=>by
  have e:wV m j X=X:=by cases j with | zero=>rfl | succ j=>unfold wV;rw[XX hc]
  rw[e] at hX;subst hX;exact t4 R w o hR ho hv hm
 by_cases hre:r=""
 ·have h4:X=ab l U/\one X=none:=by
   rcases hR with⟨z,_⟩ | ⟨z,_⟩ | ⟨z,_⟩ | ⟨_,z⟩
   ·rw[hre] at z;exact absurd z (by decide+kernel)
   ·rw[hre] at z;exact absurd z (by decide+kernel)
   ·rw[hre] at z;exact absurd z (by decide+kernel)
   ·exact z
  obtain⟨hX1,h1⟩:=h4;subst hX1;refine⟨_,FQ,Zx (v:=true) (by rw[hre];rfl) ⟨_,FQ,Z5 ?_⟩⟩;refine⟨_,FQ,_,_,_,_,FQ,FQ,.inl R.r,Lw,_,FQ,_,FQ,?_⟩
  cases hc:decide (l.k<m) with
  | false=>exact Zq (out λz=>by have:=of_decide_eq_false hc;exact this z.2)
  | true=>
   have hk:=of_decide_eq_true hc;have ej:(ab l U).k=l.k:=rfl;rw[ej] at hj;obtain⟨j1,rfl⟩:∃j1,j=j1+1:=⟨j-1,by omega⟩;unfold wV at hX;rw[XY ⟨FQ,hk⟩] at hX;refine Z5 ⟨_,FQ,?_⟩;dsimp only[Zy];have o1:=rh o FQ h1 (by rw[ej];omega);refine nN (n:=55) R o hr h1 (by omega) λC1 l1 R1 e1 e2 e3=>⟨_,FQ,?_⟩;dsimp only[Zy];have e4:yv {ab l U with k:=(ab l U).k+1}=ab l1 U:=e3.symm;rw[e4] at o1 hX;have w1:Wd l1.W U:=by rw[e1];exact w
   refine rJ (n:=57) R1 o1 w1 e2 λr' C2 l2 U2 R2 w2 hr2 hR2 o2=>hN j1 _ _ (by omega) ⟨r',_,l2,U2,FQ,R2,w2,hr2,hR2,o2,?_,hX⟩;have k1:=(F6 (mu (ab l1 U)) o1 (XE _)).2.2;have k2:(ab l1 U).k=l.k+1:=by rw[<-e4];exact vo.1.k
   have k3:(Jl (ab l1 U)).k=(ab l1 U).k:=k1;rw[k3,k2];omega
 ·have he:Bm X.e=false:=by
   rcases hR with⟨_,z⟩ | ⟨_,_,_,_,_,z⟩ | ⟨_,z⟩ | ⟨z,_⟩
   ·rw[z];rfl
   ·rw[z];rfl
   ·rw[z];rfl
   ·exact absurd z hre
  exact⟨_,FQ,Zx (v:=false) (by simpa using hre) ⟨_,FQ,Zq (Zq (out λz=>by rw[he] at z;cases z.1))⟩⟩
end
open PySem PySem.Spec PyProof.Rows L2 WL
def Il {p q:Prop}{b:Bool}(h1:b=true->p)(h2:b=false->q):if b=true then p else q:=by cases b;exact h2 FQ;exact h1 FQ
section
variable {C:Hw}{Q:WK}{χ:WX}{n:Nat}
def fX {ns:List Int}(h:0<ns.length):Sg (ns.map T.int) 0=some (.int ns[0]):=by
 cases ns with
 | nil=>simp at h
 | cons a r=>exact Zo
def nK {c k:Int}(h0:0<=c)(hk:0<=k)(hk':k<=1000)(q:∀v:Int,0<=v->Q (.int v) C):Z4 pr (n+1) zO [.int c,.int k] C Q χ:=by
 refine A9 FQ ?_;have m1:∀{a b:Int},-(2^64)<b->b<2^64->oN a b:=λh1 h2=>.inr ⟨h1,h2⟩;refine⟨_,FQ,_,FQ,.inl ⟨by decide,by decide⟩,m1 (by decide) (by decide),by decide,?_⟩;have a0:0<=(c+7919*k)*48271%2147483647:=YO _ (by decide);have a1:(c+7919*k)*48271%2147483647<2147483647:=CB _ (by decide);generalize (c+7919*k)*48271%2147483647=x at a0 a1;refine⟨_,FQ,_,FQ,.inl ⟨by omega,by omega⟩,by decide,?_⟩;have b0:0<=x*x%2147483629:=YO _ (by decide);have b1:x*x%2147483629<2147483629:=CB _ (by decide);generalize x*x%2147483629=y at b0 b1;refine⟨_,FQ,_,FQ,_,FQ,.inl ⟨by decide,by decide⟩,.inl ⟨by omega,by omega⟩,by decide,?_⟩;exact q _ (YO _ (by decide))
def rL {ns:List Int}{m:Nat}(h63:ns.length<=63)(hm:m<=100)(q:∀p (ds:List Int) C',Ex C C'->C p=none->C' p=some (.lst (ds.map T.int))->ds.length<=m->(∀d∈ds,0<=d)->Q (.ref p) C'):
  Z4 pr (n+1) Bb [.cl (ns.map T.int),.int m] C Q χ:=by
 refine Cg FQ ?_;refine⟨XO _,λp hp=>?_⟩;have fin:∀(ds:List Int) (τ:Sw) (C':Hw),Ex C C'->C' p=some (.lst (ds.map T.int))->(∀d∈ds,0<=d)->τ[1]?=some (some (.int m))->τ[2]?=some (some (.ref p))->Ks (Z4 pr n) {nx:=λ_ C'=>Q .non C',rt:=Q,xc:=χ} τ C':=by
  intro ds τ C' hE hC hd h1 h2;refine⟨_,h2,_,h1,_,FQ,_,hC,λp2 hp2=>?_⟩;have e:As (ds.map T.int) none (some (m:Int))=(ds.take m).map T.int:=by
   unfold As;show((ds.map T.int).drop 0).take (HT.sIx (ds.map T.int).length (ds.map T.int).length (some (m:Int))-0)=_;have e1:HT.sIx (ds.map T.int).length (ds.map T.int).length (some (m:Int))=min m (ds.map T.int).length:=by
    unfold HT.sIx;show(if (m:Int)<0 then _ else min (m:Int).toNat _)=_;rw[XX (by omega)];rfl
   rw[List.drop_zero,Nat.sub_zero,e1,EQ];exact List.take_eq_take_iff.mpr (by omega)
  rw[e];exact q p2 (ds.take m) _ (hE.trans (Ex.new hp2)) (hE.free hp2) Zh (by rw[YM];omega) λd h=>hd d (List.mem_of_mem_take h)
 have E0:Ex C (up C p (.lst [])):=Ex.new hp;refine⟨_,FQ,_,FQ,_,FQ,Il (λb1=>?_) (λb1=>Zq (fin [] _ _ E0 Zh (by simp) FQ FQ))⟩;have hl:0<ns.length:=by have:=of_decide_eq_true b1;rw[XI] at this;omega
 obtain⟨y,hy⟩:∃y,Sg (ns.map T.int) 0=some (.int y):=⟨ns[0],fX hl⟩;refine⟨_,FQ,_,hy,by decide,Vi FQ ⟨_,FQ,Il (λb2=>?_) (λb2=>fin [] _ _ E0 Zh (by simp) FQ FQ)⟩⟩;refine⟨_,FQ,_,FQ,_,FQ,λpl hpl=>⟨_,Zh,?_⟩⟩;have npl:pl≠p:=λe=>by rw[e,Zh] at hpl;cases hpl
 have hcut:∃cs:List Int,As (ns.map T.int) (some 1) (some 63)=cs.map T.int/\cs.length<=63:=by
  refine⟨As ns (some 1) (some 63),?_,?_⟩
  ·unfold As;rw[XI,EQ,FG]
  ·unfold As;rw[YM,ER];omega
 obtain⟨cs,hcs,hcl⟩:=hcut;rw[hcs];have hEl:Ex C (up (up C p (.lst [])) pl (.lst (cs.map T.int))):=E0.trans (Ex.new hpl);have p12:xm 10 12:=⟨by decide,by decide+kernel⟩;have p60:xm 10 60:=⟨by decide,by decide+kernel⟩;have p72:xm (10^Int.toNat 60) 12:=⟨by decide,by decide+kernel⟩;have d12:∀{x:Int},oO x (10^Int.toNat 12):=⟨by decide+kernel,by decide+kernel⟩;have pos12:(0:Int)<10^Int.toNat 12:=by decide+kernel
 refine Wb (λi τ C'=>Ex C C'/\C' pl=some (.lst (cs.map T.int))/\∃(ds:List Int) (x3 x4:Option T),τ=[some (.cl (ns.map T.int)),some (.int m),some (.ref p),x3,x4]/\C' p=some (.lst (ds.map T.int))/\(∀d∈ds,0<=d)/\ds.length<=i+m)
  ⟨hEl,Zh,[],none,none,FQ,by rw[Zn npl.symm];exact Zh,by simp,by simp⟩ (λi τ C' _ h=>h.2.1) (λi x τ C' N hx hP hN=>?_) (λτ C' hP=>?_)
 ·obtain⟨hE,hC,ds,x3,x4,rfl,hp',hd,hlen⟩:=hP;rw[XM] at hx;obtain⟨c,hc1,rfl⟩:=DC.mp hx;have hi:i<cs.length:=(BW.mp hc1).1;refine⟨_,FQ,p60,p72,by decide+kernel,?_⟩;have v0:0<=c%(10^Int.toNat 60)^Int.toNat 12:=YO _ (by decide+kernel);generalize c%(10^Int.toNat 60)^Int.toNat 12=v at v0;refine⟨_,FQ,⟨_,_,FQ,hp'⟩,_,FQ,p12,by decide+kernel,_,_,_,FQ,FQ,hp',Yc (by rw[XI];omega),?_⟩;refine⟨_,FQ,p12,d12,?_⟩;have appI:∀{es:List Int} {x:Int},(es.map T.int)++[T.int x]=(es++[x]).map T.int:=λ{es x}=>by rw[XL];rfl
  have hne:∀{es:List Int} {C2:Hw},Ex C C2->Ex C (up C2 p (.lst (es.map T.int))):=λ{es C2} h a o ho=>by rw[Zn (cne ho hp)];exact h a o ho
  have nn:∀{es:List Int} {x:Int},(∀d∈es,0<=d)->0<=x->∀d∈es++[x],0<=d:=λh hx d hd=>by
   rcases XS.mp hd with hd | hd
   ·exact h d hd
   ·rw[XQ.mp hd];exact hx
  rw[appI];refine Sh (λk τ C'=>Ex C C'/\C' pl=some (.lst (cs.map T.int))/\∃(ds:List Int) (u:Int),k=m-ds.length/\τ=[some (.cl (ns.map T.int)),some (.int m),some (.ref p),some (.int c),some (.int u)]/\0<=u/\C' p=some (.lst (ds.map T.int))/\(∀d∈ds,0<=d)/\ds.length<=i+1+m)
   (m:=m-(ds++[v%10^Int.toNat 12]).length) ⟨hne hE,by rw[Zn npl];exact hC,_,_,FQ,FQ,Int.ediv_nonneg v0 (by decide+kernel),Zh,nn hd (Int.emod_nonneg _ (by decide+kernel)),by rw[List.length_append];simp;omega⟩ ?_
  rintro k τ C2 N2 ⟨hE2,hC2,es,u,hk,rfl,hu,hp2,hes,hel⟩ hN2;have out:N [some (.cl (ns.map T.int)),some (.int m),some (.ref p),some (.int c),some (.int u)] C2:=hN _ _ ⟨hE2,hC2,es,_,_,FQ,hp2,hes,by omega⟩;refine⟨_,FQ,_,FQ,Il (λb3=>?_) (λb3=>Zq out)⟩;refine⟨_,FQ,_,FQ,_,hp2,_,FQ,_,FQ,Il (λb4=>?_) (λb4=>out)⟩;have hlt:es.length<m:=by have:=of_decide_eq_true b4;rw[XI] at this;omega
  refine⟨_,FQ,⟨_,_,FQ,hp2⟩,_,FQ,p12,by decide+kernel,_,_,_,FQ,FQ,hp2,Yc (by rw[XI];omega),?_⟩;refine⟨_,FQ,p12,d12,?_⟩;rw[appI];exact hN2 (m-(es++[u%10^Int.toNat 12]).length) _ _ (by rw[List.length_append];simp;omega) ⟨hne hE2,by rw[Zn npl];exact hC2,_,_,FQ,FQ,Int.ediv_nonneg hu (by decide+kernel),Zh,nn hes (Int.emod_nonneg _ (by decide+kernel)),by rw[List.length_append];simp;omega⟩
 ·obtain⟨hE,_,ds,x3,x4,rfl,hp',hd,_⟩:=hP;exact fin ds _ _ hE hp' hd FQ FQ
def nS {ns:List Int}{m:Nat}(h63:ns.length<=63)(hm:m<=100)(q:∀p (ds:List Int) C',Ex C C'->C p=none->C' p=some (.lst (ds.map T.int))->ds.length=m->(∀d∈ds,0<=d)->Q (.ref p) C'):
  Z4 pr (n+2) zP [.cl (ns.map T.int),.int m] C Q χ:=by
 refine za FQ ?_;refine⟨_,FQ,_,FQ,?_⟩;dsimp only[Zy];refine rL (n:=n) h63 hm λp ds C1 E1 hp hC1 hl hd=>?_;refine⟨_,FQ,_,FQ,_,hC1,_,FQ,_,_,FQ,⟨by omega,by rw[XI];omega,by omega,by omega⟩,?_⟩;have hcnt:((m:Int)-((ds.map T.int).length:Int)).toNat=m-ds.length:=by rw[XI];omega
 refine zZ (lo:=((ds.map T.int).length:Int)) (n:=((m:Int)-((ds.map T.int).length:Int)).toNat) (λi τ C'=>Ex C C'/\∃(es:List Int) (x3 x4:Option T),τ=[some (.cl (ns.map T.int)),some (.int m),some (.ref p),x3,x4]/\C' p=some (.lst (es.map T.int))/\es.length=ds.length+i/\∀d∈es,0<=d) ⟨E1,ds,none,none,FQ,hC1,FQ,hd⟩ (λ_=>trivial) ?_ ?_
 ·rintro i τ C' N hi ⟨hE,es,x3,x4,rfl,hC,hel,hes⟩ hN;rw[hcnt] at hi;have hlen:((ns.map T.int).length:Int)=(ns.length:Int):=by rw[XI]
  have hk:((ds.map T.int).length:Int)+(i:Int)=((ds.length+i:Nat):Int):=by rw[XI];omega
  rw[hk];have last:∀(v:Int) (C2:Hw),0<=v->Ex C' C2->C2 p=some (.lst (es.map T.int))->(Q8 (lI yK Tl (Z6 2) (Yb (Z6 4) Zy))) {nx:=N,rt:=Q,ct:=N,bk:=λ_ _=>False,xc:=χ} [some (.cl (ns.map T.int)),some (.int m),some (.ref p),some (.int ((ds.length+i:Nat):Int)),some (.int v)] C2:=by
   intro v C2 hv hE2 hC2;refine⟨_,FQ,⟨_,_,FQ,hC2⟩,_,FQ,_,_,_,FQ,FQ,hC2,Yc (by rw[XI];omega),?_⟩;refine hN _ _ ⟨λa o ho=>by rw[Zn (cne ho hp)];exact(hE.trans hE2) a o ho,es++[v],_,_,FQ,?_,by rw[List.length_append];simp;omega,λd hd=>?_⟩
   ·rw[Zh,XL];rfl
   ·rcases XS.mp hd with hd | hd
    ·exact hes d hd
    ·rw[XQ.mp hd];exact hv
  have mid:∀v:Int,0<=v->(Vn (xo (O4 (Y1 aL (Z6 3) (kW fT (Yb (Z6 0) Zy)))) (T7 (Vj (Z4 pr (n+1)) 37 (Yb (Z6 4) (Yb (Z6 3) Zy))) (Bl 4)) Qj) (Q8 (lI yK Tl (Z6 2) (Yb (Z6 4) Zy)))) {nx:=N,rt:=Q,ct:=N,bk:=λ_ _=>False,xc:=χ} [some (.cl (ns.map T.int)),some (.int m),some (.ref p),some (.int ((ds.length+i:Nat):Int)),some (.int v)] C':=by
   intro v hv;refine⟨_,FQ,_,FQ,_,FQ,_,FQ,Il (λb2=>?_) (λb2=>last v C' hv (Ex.refl _) hC)⟩;refine⟨_,FQ,_,FQ,?_⟩;dsimp only[Zy];refine nK (n:=n) hv (by omega) (by omega) λv2 hv2=>?_;exact last v2 C' hv2 (Ex.refl _) hC
  refine⟨_,FQ,_,FQ,_,FQ,Il (λb1=>?_) (λb1=>mid 0 (XW _))⟩;have hl0:0<ns.length:=by have:=of_decide_eq_true b1;omega
  obtain⟨y,h1,_⟩:=o9 (ds:=ns) (i:=((ds.length+i:Nat):Int)%((ns.map T.int).length:Int)) (YO _ (by omega)) (by rw[hlen];exact CB _ (by omega));refine⟨_,FQ,_,FQ,_,FQ,_,FQ,by omega,_,h1,⟨by decide,by decide,by decide⟩,by decide,?_⟩;exact mid _ (YO _ (by decide+kernel))
 ·rintro τ C' ⟨hE,es,x3,x4,rfl,hC,hel,hes⟩;refine⟨_,FQ,?_⟩;exact q p es C' hE hp hC (by rw[hcnt] at hel;omega) hes
end
open PySem PySem.Spec PyProof.Rows L2 WL
def zF {α β:Type}(l:List α)(f:α->β):(List.finRange l.length).map (λi=>f (l[i]))=l.map f:=by
 refine List.ext_getElem (by simp) λi h1 h2=>?_;simp
def ltL (zs:List (Str×Tm))(b:Tm):Tm:=.lt zs.length (λi=>(zs[i]).1) (λi=>(zs[i]).2) b
def ic (e:Tm)(as:List (Str×List Str×Tm)):Tm:=.ch e as.length (λi=>(as[i]).1) (λi=>(as[i]).2.1) (λi=>(as[i]).2.2)
def jb (z:Str×Tm):T:=.tup [.str z.1,tt z.2]
def Zcs (a:Str×List Str×Tm):T:=.tup [.str a.1,.tup (a.2.1.map T.str),tt a.2.2]
def sN:tt (ltL zs b)=.tup [.str "let",.tup (zs.map jb),tt b]:=by
 unfold ltL;rw[tt,<-zF zs jb];rfl
def zd:tt (ic e as)=.tup [.str "choose",tt e,.tup (as.map Zcs)]:=by
 unfold ic;rw[tt,<-zF as Zcs];rfl
def ba {α:Type}{l:List α}{f:α->Str}:Ve (λi:Fin l.length=>f (l[i]))=l.map f:=zF l f
def zy:∀{t:Tm} {d:Nat} {Γ Γ':List Str},ok L d Γ t->(∀x∈Γ,x∈Γ')->ok L d Γ' t:=by
 have app:∀{ns Γ Γ':List Str},(∀x∈Γ,x∈Γ')->∀x∈ns++Γ,x∈ns++Γ':=λh x hx=>by
  rcases XS.mp hx with hx | hx
  ·exact CA _ hx
  ·exact XT _ (h x hx)
 intro t
 induction t with
 | nm x=>intro d Γ Γ' h hs;exact hs x h
 | num v=>intro d Γ Γ' h hs;exact h
 | stop x=>intro d Γ Γ' h hs;exact h
 | at_ i=>intro d Γ Γ' h hs;exact h
 | shp0 c=>intro d Γ Γ' h hs;exact h
 | shp2 c a b iha ihb=>intro d Γ Γ' h hs;exact⟨h.1,h.2.1,iha h.2.2.1 hs,ihb h.2.2.2 hs⟩
 | does o a b iha ihb=>intro d Γ Γ' h hs;exact⟨h.1,iha h.2.1 hs,ihb h.2.2 hs⟩
 | call a b iha ihb=>intro d Γ Γ' h hs;exact⟨h.1,iha h.2.1 hs,ihb h.2.2 hs⟩
 | first a b iha ihb=>intro d Γ Γ' h hs;exact⟨h.1,iha h.2.1 hs,ihb h.2.2 hs⟩
 | fn x b ih=>intro d Γ Γ' h hs;exact⟨h.1,h.2.1,ih h.2.2 (app (ns:=[x]) hs)⟩
 | lt n xs ts b iht ihb=>intro d Γ Γ' h hs;exact⟨h.1,h.2.1,λi=>iht i (h.2.2.1 i) (app hs),ihb h.2.2.2 (app hs)⟩
 | ch e n cs ns bs ihe ihb=>intro d Γ Γ' h hs;exact⟨h.1,h.2.1,ihe h.2.2.1 hs,λi=>ihb i (h.2.2.2 i) (app hs)⟩
def qC {L d:Nat}{Γ:List Str}{zs:List (Str×Tm)}(hd:1<=d)(h1:1<=zs.length)(h5:zs.length<=5)(hn:(zs.map (·.1)).Nodup)(hl:∀z∈zs,gl z.1)(hz:∀z∈zs,ok L (d-1) (zs.map (·.1)++Γ) z.2)(hb:ok L (d-1) (zs.map (·.1)++Γ) b):ok L d Γ (ltL zs b):=by
 have e:=ba (l:=zs) (f:=λz:Str×Tm=>z.1);unfold ltL;refine⟨hd,⟨h1,h5,?_,λi=>hl _ (YN _)⟩,λi=>?_,?_⟩
 ·rw[e];exact hn
 ·rw[e];exact hz _ (YN _)
 ·rw[e];exact hb
def zz {L d:Nat}{as:List (Str×List Str×Tm)}(hd:1<=d)(h5:as.length<=5)(hn:∀a∈as,a.2.1.length=ar a.1/\a.2.1.Nodup)(he:ok L (d-1) Γ e)(hz:∀a∈as,ok L (d-1) (a.2.1++Γ) a.2.2):ok L d Γ (ic e as):=
 ⟨hd,⟨h5,λi=>hn _ (YN _)⟩,he,λi=>hz _ (YN _)⟩
structure Dx (pl:List Str):Prop where
 l:pl.length=3
 n:pl.Nodup
 s5:∀x∈pl,1<=x.length/\x.length<=50
def Dx.s (h:Dx pl)(x:Str)(hx:x∈pl):gl x:=⟨(h.s5 x hx).1,XN (h.s5 x hx).2 (by decide)⟩
structure Env (k:Nat)(C:Hw)(p a b:Addr)(ds:List Int)(ns:List (Str×Str))(pl Γ:List Str):Prop where
 hp:C p=some (.lst (ds.map T.int))
 ha:C a=some (.lst (ns.map B7))
 hn:tM Γ ns
 hl:ns.length+4*k<=100
 hb:C b=some (.lst (pl.map T.str))
 pl:Dx pl
 nap:a≠p
 nbp:b≠p
 fr:("from":Str)∈Γ
 ea:("each":Str)∈Γ
section
variable {C C':Hw}{Q:WK}{χ:WX}{n k:Nat}{p a b:WP}{ds ds':List Int}{ns:List (Str×Str)}{pl Γ:List Str}{kd:Str}{x:Int}
def Env.dn (e:Env (k+1) C p a b ds ns pl Γ):Env k C p a b ds ns pl Γ:=⟨e.hp,e.ha,e.hn,by have:=e.hl;omega,e.hb,e.pl,e.nap,e.nbp,e.fr,e.ea⟩
def Env.on (e:Env k C p a b ds ns pl Γ)(h:S7 p C C')(hp:C' p=some (.lst (ds'.map T.int))):Env k C' p a b ds' ns pl Γ:=⟨hp,h _ _ e.nap e.ha,e.hn,e.hl,h _ _ e.nbp e.hb,e.pl,e.nap,e.nbp,e.fr,e.ea⟩
def Env.ex (e:Env k C p a b ds ns pl Γ)(h:Ex C C'):Env k C' p a b ds ns pl Γ:=e.on (h.exB p) (h _ _ e.hp)
def Env.bind {ns2:List (Str×Str)}(e:Env (k+1) C p a b ds ns pl Γ)(h:Ex C C')(h0:C p2=none)(h2:C' p2=some (.lst (ns2.map B7)))(hn:tM Γ' ns2)(hl:ns2.length<=ns.length+3)(hs:∀y∈Γ,y∈Γ'):Env k C' p p2 b ds ns2 pl Γ':=
 ⟨h _ _ e.hp,h2,hn,by have:=e.hl;omega,h _ _ e.hb,e.pl,(cne e.hp h0).symm,e.nbp,hs _ e.fr,hs _ e.ea⟩
def Dw (k:Nat):Prop:=∀{n:Nat} {C:Hw} {Q:WK} {χ:WX} {kd:Str} {p a b:WP} {ds:List Int} {ns:List (Str×Str)} {pl Γ:List Str},Env k C p a b ds ns pl Γ->
 (∀t C' (ds':List Int),S7 p C C'->C' p=some (.lst (ds'.map T.int))->ok 0 (2*k+3) Γ t->Q (tt t) C')->Z4 pr (n+2*k+3) Pi [.str kd,.ref p,.ref a,.ref b,.int k] C Q χ
def Wu (ih:Dw k)(hx:x=k)(e:Env k C p a b ds ns pl Γ)(q:∀t C' (ds':List Int),S7 p C C'->C' p=some (.lst (ds'.map T.int))->ok 0 (2*k+3) Γ t->Q (tt t) C'):Z4 pr (n+2*k+3) Pi [.str kd,.ref p,.ref a,.ref b,.int x] C Q χ:=by
 subst hx;exact ih e q
def Pa {d d':Nat}(h:ok 0 d Γ t)(hd:d<=d'):ok 0 d' Γ t:=Xr (XE _) h hd
def ck:((k+1:Nat):Int)-1=(k:Int):=by omega
def zw (hb:C b=some (.lst (pl.map T.str)))(h:Dx pl)(y:Int):∃z,z∈pl/\Sg (pl.map T.str) (y%((pl.map T.str).length:Int))=some (.str z):=by
 have h3:=h.l;obtain⟨v,h1,h2⟩:=Iy (xs:=pl.map T.str) (i:=y%((pl.map T.str).length:Int)) (YO _ (by rw[XI];omega)) (CB _ (by rw[XI];omega));obtain⟨z,hz,rfl⟩:=XR.mp h2;exact⟨z,hz,h1⟩
def xO (h:Dx pl):(0:Int)<((pl.map T.str).length:Int):=by rw[XI,h.l];decide
def vw (h:Dx pl){z:Str}(hz:z∈pl):∃u v,pl.filter (λy=>decide (y≠z))=[u,v]/\[z,u,v].Nodup/\gl u/\gl v:=by
 have h1:=h.l;have h2:=h.n;have h3:=h.s
 match pl,h1,h2,h3,hz with
 | [a,b,c],_,h2,h3,hz=>
  have ha:=h3 a (by simp);have hb:=h3 b (by simp);have hc:=h3 c (by simp);simp only[List.nodup_cons,List.mem_cons,List.not_mem_nil,or_false,not_or,not_false_eq_true,List.nodup_nil,and_true] at h2;obtain⟨⟨n1,n2⟩,n3⟩:=h2;simp only[ZM,ZN,or_false] at hz
  rcases hz with rfl | rfl | rfl
  ·exact⟨b,c,by simp[Ne.symm n1,Ne.symm n2],by simp[n1,n2,n3],hb,hc⟩
  ·exact⟨a,c,by simp[n1,Ne.symm n3],by simp[Ne.symm n1,n2,n3],ha,hc⟩
  ·exact⟨a,b,by simp[n2,n3],by simp[Ne.symm n2,Ne.symm n3,n1],ha,hb⟩
def rD {τ:Sw}{i j:Nat}(hi:τ[i]?=some (some (.ref b)))(hj:τ[j]?=some (some (.str z)))(hb:C b=some (.lst (pl.map T.str)))(h:Dx pl)(q:∀p2,C p2=none->Q (.ref p2) (up C p2 (.lst ((pl.filter λy=>decide (y≠z)).map T.str)))):
  Lz [none,some j] (wC (Z6 i)) (Bl 0) (O4 (Y1 kA (Z6 0) (Z6 1))) (Z6 0) τ C Q χ:=by
 refine⟨_,hi,_,hb,?_⟩;have h3:=h.l;have ec:Bp [none,some j] τ=[none,some (.str z)]:=by
  show[none,(τ[j]?).join]=_;rw[hj];rfl
 rw[ec];refine Fi (f:=λt=>match t with | .str y=>if y=z then none else some (.str y) | _=>none) hb (by rw[XI];exact Ya (by omega)) (λt ht R N h1 h2=>?_) ?_
 ·obtain⟨y,_,rfl⟩:=XR.mp ht;refine⟨_,FQ,_,FQ,Zav FQ ⟨_,FQ,?_⟩⟩;by_cases c:y=z
  ·refine Lp (by rw[c,XU];rfl) (h2 ?_);show(if y=z then none else _)=none;rw[XY c]
  ·refine Lo (by rw[beq_eq_false_iff_ne.mpr c];rfl) ⟨_,FQ,h1 _ ?_⟩;show(if y=z then none else _)=_;rw[XX c]
 ·have e:(pl.map T.str).filterMap (λt=>match t with | .str y=>if y=z then none else some (.str y) | _=>none)=(pl.filter λy=>decide (y≠z)).map T.str:=by
   rw[FF,<-List.filterMap_eq_filter,List.map_filterMap];congr 1
   funext y
   show(if y=z then none else some (T.str y))=Option.map T.str (if decide (y≠z)=true then some y else none);by_cases c:y=z
   ·simp[c]
   ·simp[c]
  rw[e];exact q
def nI {B:WS}{τ:Sw}{z u v:Str}{i j m:Nat}(hi:τ[i]?=some (some (.ref b)))(hj:τ[j]?=some (some (.str z)))(hb:C b=some (.lst (pl.map T.str)))(h:Dx pl)(hf:pl.filter (λy=>decide (y≠z))=[u,v])(q:∀p2,C p2=none->B D (τ.set m (some (.str u))) (up C p2 (.lst ([u,v].map T.str)))):
  Vn (T7 (Y1 Tz (Lz [none,some j] (wC (Z6 i)) (Bl 0) (O4 (Y1 kA (Z6 0) (Z6 1))) (Z6 0)) (eC (.int 0))) (Bl m)) B D τ C:=by
 show Lz [none,some j] (wC (Z6 i)) (Bl 0) (O4 (Y1 kA (Z6 0) (Z6 1))) (Z6 0) τ C (λx C1=>Tz x (.int 0) C1 λy C2=>B D (τ.set m (some y)) C2) D.xc;refine rD hi hj hb h λp2 hp2=>?_;rw[hf];exact⟨_,_,Zh,Zo,q p2 hp2⟩
def nH {B:WS}{τ:Sw}{z u v:Str}{i j m:Nat}(hi:τ[i]?=some (some (.ref b)))(hj:τ[j]?=some (some (.str z)))(hb:C b=some (.lst (pl.map T.str)))(h:Dx pl)(hf:pl.filter (λy=>decide (y≠z))=[u,v])(q:∀p2,C p2=none->B D (τ.set m (some (.ref p2))) (up C p2 (.lst ([u,v].map T.str)))):
  Vn (T7 (Lz [none,some j] (wC (Z6 i)) (Bl 0) (O4 (Y1 kA (Z6 0) (Z6 1))) (Z6 0)) (Bl m)) B D τ C:=by
 show Lz [none,some j] (wC (Z6 i)) (Bl 0) (O4 (Y1 kA (Z6 0) (Z6 1))) (Z6 0) τ C (λx C1=>B D (τ.set m (some x)) C1) D.xc;refine rD hi hj hb h λp2 hp2=>?_;rw[hf];exact q p2 hp2
def cg (ih:Dw k)(e:Env (k+1) C p a b ds ns pl Γ)(q:∀t C' (ds':List Int),S7 p C C'->C' p=some (.lst (ds'.map T.int))->ok 0 (2*k+5) Γ t->Q (tt t) C'):Z4 pr (n+2*k+4) w9 [.str kd,.int x,.ref p,.ref a,.ref b,.int ((k+1:Nat):Int)] C Q χ:=by
 refine xw FQ ?_;have e0:=e.dn;have t1:Ce (Z4 pr (n+2*k+3)) {nx:=λ_ C'=>Q .non C',rt:=Q,xc:=χ} [some (.str kd),some (.int x),some (.ref p),some (.ref a),some (.ref b),some (.int ((k+1:Nat):Int)),none,none,none] C:=by
  refine⟨_,FQ,_,FQ,_,FQ,_,FQ,?_⟩;dsimp only[Zy,Wp,eC];refine Wu ih ck e0 λt1 C1 d1 x1 h1 o1=>?_;refine⟨ZNB FQ,λp2 hp2=>⟨_,FQ,Zx FQ (.inr ⟨_,FQ,?_⟩)⟩⟩;have E2:S7 p C (up C1 p2 (.lst [.str "Cons",.str "Pair"])):=x1.trans ((Ex.new hp2).exB p);have e2:=e0.on E2 (by rw[Zn (cne h1 hp2)];exact h1);have fin:∀c:Str,(c="Cons"\/c="Pair")->Yb (Dh (Yb (Z6 6) (Yb (Vj (Z4 pr (n+2*k+3)) 46 (Yb (eC (.str "l")) (Yb (Z6 2) (Yb (Z6 3) (Yb (Z6 4) (Yb (Y1 Wp (Z6 5) (eC (.int 1))) Zy)))))) Zy))) Zy [some (.str kd),some (.int x),some (.ref p),some (.ref a),some (.ref b),some (.int ((k+1:Nat):Int)),some (tt t1),none,none] (up C1 p2 (.lst [.str "Cons",.str "Pair"])) (λxs C1=>([T.str "shape",T.str c]++xs).length<=sizeLine/\Q (.tup ([T.str "shape",T.str c]++xs)) C1) χ:=λc hc=>by
   refine⟨_,FQ,_,FQ,_,FQ,_,FQ,_,FQ,?_⟩;dsimp only[Zy,Wp,eC];refine Wu ih ck e2 λt2 C3 d3 x3 h3 o3=>?_;refine⟨ZNB FQ,ZNB FQ,?_⟩;refine q (.shp2 c t1 t2) C3 d3 (E2.trans x3) h3 ⟨by omega,by rcases hc with rfl | rfl;exact ki;exact aB,Pa o1 (by omega),Pa o3 (by omega)⟩
  cases hk:(kd==("p":Str)) with
  | true=>exact⟨_,_,Zh,Z1,fin "Pair" (.inr FQ)⟩
  | false=>exact⟨_,_,Zh,Zo,fin "Cons" (.inl FQ)⟩
 have t2:Cd (Z4 pr (n+2*k+3)) {nx:=λ_ C'=>Q .non C',rt:=Q,xc:=χ} [some (.str kd),some (.int x),some (.ref p),some (.ref a),some (.ref b),some (.int ((k+1:Nat):Int)),none,none,none] C:=by
  refine⟨_,FQ,Zx FQ ⟨_,FQ,Yu ?_ t1⟩⟩;refine⟨_,FQ,by decide,Vi FQ ⟨_,FQ,Yu ?_ t1⟩⟩;refine⟨_,FQ,_,FQ,_,FQ,_,FQ,?_⟩;dsimp only[Zy,Wp,eC];refine Wu ih ck e0 λt1 C1 d1 x1 h1 o1=>?_;have e1:=e0.on x1 h1;refine⟨ZNB FQ,_,FQ,ZNB FQ,_,FQ,_,FQ,_,FQ,_,FQ,?_⟩;dsimp only[Zy,Wp,eC];refine Wu ih ck e1 λt2 C2 d2 x2 h2 o2=>?_;refine⟨ZNB FQ,?_⟩;exact q (.call (.call (.nm "each") t1) t2) C2 d2 (x1.trans x2) h2 ⟨by omega,⟨by omega,e.ea,Pa o1 (by omega)⟩,Pa o2 (by omega)⟩
 have t3:D9 (Z4 pr (n+2*k+3)) {nx:=λ_ C'=>Q .non C',rt:=Q,xc:=χ} [some (.str kd),some (.int x),some (.ref p),some (.ref a),some (.ref b),some (.int ((k+1:Nat):Int)),none,none,none] C:=by
  refine⟨_,FQ,Zx FQ ⟨_,FQ,Yu ?_ t2⟩⟩;refine⟨_,FQ,by decide,Vi FQ ⟨_,FQ,Yu ?_ t2⟩⟩;refine⟨ZNB FQ,_,FQ,_,FQ,_,FQ,_,FQ,?_⟩;dsimp only[Zy,Wp,eC];refine Wu ih ck e0 λt1 C1 d1 x1 h1 o1=>?_;refine⟨ZNB FQ,?_⟩;exact q (.call (.nm "from") t1) C1 d1 x1 h1 ⟨by omega,e.fr,Pa o1 (by omega)⟩
 have t4:D8 (Z4 pr (n+2*k+3)) {nx:=λ_ C'=>Q .non C',rt:=Q,xc:=χ} [some (.str kd),some (.int x),some (.ref p),some (.ref a),some (.ref b),some (.int ((k+1:Nat):Int)),none,none,none] C:=by
  refine⟨_,FQ,Zx FQ ⟨_,FQ,Yu ?_ t3⟩⟩;obtain⟨z,hz,hat⟩:=zw e.hb e.pl x;refine⟨_,FQ,_,FQ,_,FQ,_,FQ,_,e.hb,xO e.pl,_,_,e.hb,hat,?_⟩;refine⟨_,FQ,_,FQ,_,FQ,_,FQ,?_⟩;dsimp only[Zy,Yb,eC];refine Oa (n:=n+2*k+2) e.ha e.hn (e.pl.s z hz) (by have:=e.hl;omega) λp2 ns2 C1 E1 hp2 h2 n2 l2=>?_;have e1:=e.bind E1 hp2 h2 n2 (by omega) (λy hy=>XV _ hy);refine⟨_,FQ,_,FQ,?_⟩;dsimp only[Zy,Wp,eC];refine Wu ih ck e1 λt1 C2 d2 x2 h3 o1=>?_;refine⟨ZNB FQ,?_⟩;exact q (.fn z t1) C2 d2 ((E1.exB p).trans x2) h3 ⟨by omega,e.pl.s z hz,Pa o1 (by omega)⟩
 have t5:D7 (Z4 pr (n+2*k+3)) {nx:=λ_ C'=>Q .non C',rt:=Q,xc:=χ} [some (.str kd),some (.int x),some (.ref p),some (.ref a),some (.ref b),some (.int ((k+1:Nat):Int)),none,none,none] C:=by
  refine⟨_,FQ,_,FQ,Yu ?_ t4⟩;refine⟨_,FQ,_,FQ,_,FQ,_,FQ,?_⟩;dsimp only[Zy,Wp,eC];refine Wu ih ck e0 λt1 C1 d1 x1 h1 o1=>?_;have e1:=e0.on x1 h1;refine⟨_,FQ,_,FQ,_,FQ,_,FQ,?_⟩;dsimp only[Zy,Wp,eC];refine Wu ih ck e1 λt2 C2 d2 x2 h2 o2=>?_;refine⟨_,FQ,Zx FQ ⟨_,FQ,Yu ?_ ?_⟩⟩
  ·obtain⟨ch,hc⟩:=wR (z:="+-*") (n:=3) (x:=x/3) (by decide+kernel) (by decide);refine⟨_,FQ,⟨by decide,by decide⟩,by decide,by decide,ch,hc,_,FQ,_,FQ,ZNB FQ,?_⟩;exact q (.does ⟨#[ch]⟩ t1 t2) C2 d2 (x1.trans x2) h2 ⟨by omega,Pa o1 (by omega),Pa o2 (by omega)⟩
  ·obtain⟨ch,hc⟩:=wR (z:="<=") (n:=2) (x:=x/3) (by decide+kernel) (by decide);refine⟨_,FQ,⟨by decide,by decide⟩,by decide,by decide,ch,hc,_,FQ,_,FQ,ZNB FQ,?_⟩;exact q (.does ⟨#[ch]⟩ t1 t2) C2 d2 (x1.trans x2) h2 ⟨by omega,Pa o1 (by omega),Pa o2 (by omega)⟩
 refine⟨_,FQ,Zx FQ ⟨_,FQ,Yu ?_ t5⟩⟩;refine⟨_,FQ,by decide,Vi FQ ⟨_,FQ,Yu ?_ t5⟩⟩;refine⟨_,FQ,_,FQ,_,FQ,_,FQ,?_⟩;dsimp only[Zy,Wp,eC];refine Wu ih ck e0 λt1 C1 d1 x1 h1 o1=>?_;have e1:=e0.on x1 h1;refine⟨_,FQ,_,FQ,_,FQ,_,FQ,_,FQ,?_⟩;dsimp only[Zy,Wp,eC];refine Wu ih ck e1 λt2 C2 d2 x2 h2 o2=>?_;refine⟨ZNB FQ,?_⟩;exact q (.call t1 t2) C2 d2 (x1.trans x2) h2 ⟨by omega,Pa o1 (by omega),Pa o2 (by omega)⟩
def Zbh (h:¬x%3=0):∃c,Sg (Str.ofString "lp").cps.toList (x%3-1)=some c:=by
 have h0:x%3=1\/x%3=2:=by omega
 rcases h0 with e | e<;>rw[e]
 ·exact⟨_,FQ⟩
 ·exact⟨_,FQ⟩
def rN (ih:Dw k)(e:Env (k+1) C p a b ds ns pl Γ)(q:∀t C' (ds':List Int),S7 p C C'->C' p=some (.lst (ds'.map T.int))->ok 0 (2*k+5) Γ t->Q (tt t) C'):Z4 pr (n+2*k+4) Be [.str kd,.int x,.ref p,.ref a,.ref b,.int ((k+1:Nat):Int)] C Q χ:=by
 refine Ci FQ ?_;have e0:=e.dn;refine⟨_,FQ,by decide,Vi FQ ⟨_,FQ,Nf (λ_=>?_) (λhx3=>?_)⟩⟩
 ·refine⟨_,FQ,_,FQ,_,FQ,_,FQ,?_⟩;dsimp only[Zy,Wp,eC];refine Wu ih ck e0 λt1 C1 d1 x1 h1 o1=>?_;have e1:=e0.on x1 h1;refine⟨_,FQ,_,FQ,_,FQ,_,FQ,_,FQ,?_⟩;dsimp only[Zy,Wp,eC];refine Wu ih ck e1 λt2 C2 d2 x2 h2 o2=>?_;have e2:=e1.on x2 h2;refine⟨_,FQ,XO _,_,FQ,ZNB FQ,XO _,_,FQ,_,FQ,_,FQ,_,FQ,_,FQ,?_⟩;dsimp only[Zy,Wp,eC];refine Wu ih ck e2 λt3 C3 d3 x3 h3 o3=>?_;refine⟨ZNB FQ,ZNB FQ,ZNB FQ,?_⟩;have:=q (ic t1 [("No",[],t2),("Yes",[],t3)]) C3 d3 ((x1.trans x2).trans x3) h3 (zz (by omega) (by simp) (λz hz=>?_) (Pa o1 (by omega)) (λz hz=>?_))
  ·rw[zd] at this;exact this
  ·simp only[ZM,ZN,or_false] at hz
   rcases hz with rfl | rfl
   ·exact⟨Zcu.2.symm,EH⟩
   ·exact⟨Zbo.2.symm,EH⟩
  ·simp only[ZM,ZN,or_false] at hz
   rcases hz with rfl | rfl
   ·exact Pa o2 (by omega)
   ·exact Pa o3 (by omega)
 ·have hx3':¬x%3=0:=by simpa using hx3
  obtain⟨z,hz,hat⟩:=zw e.hb e.pl (x/3);obtain⟨u,v,hf,hnd,lu,lv⟩:=vw e.pl hz;have hzu:z≠u:=by simp only[List.nodup_cons,List.mem_cons,not_or] at hnd;exact hnd.1.1
  refine⟨_,FQ,_,FQ,⟨by decide,by decide⟩,_,FQ,_,FQ,_,e.hb,xO e.pl,_,_,e.hb,hat,?_⟩;refine nI FQ FQ e.hb e.pl hf λp2 hp2=>?_;have E1:Ex C (up C p2 (.lst ([u,v].map T.str))):=Ex.new hp2;generalize up C p2 (.lst ([u,v].map T.str))=C1 at E1;have e1:=e.ex E1;obtain⟨ch,hc⟩:=Zbh hx3';refine⟨_,FQ,by decide,by decide,ch,hc,_,FQ,_,FQ,_,FQ,_,FQ,?_⟩;dsimp only[Zy,Wp,eC];refine Wu ih ck e1.dn λt1 C2 d2 x2 h2 o2=>?_;have e2:=e1.on x2 h2;refine⟨_,FQ,_,FQ,?_⟩;dsimp only[Zy,Yb,eC];refine Oa (n:=n+2*k+2) e2.ha e2.hn (e.pl.s z hz) (by have:=e.hl;omega) λp3 ns3 C3 E3 hp3 h3 n3 l3=>?_;refine⟨_,FQ,?_⟩;dsimp only[Zy,Yb,eC];refine Oa (n:=n+2*k+2) h3 n3 lu (by have:=e.hl;omega) λp4 ns4 C4 E4 hp4 h4 n4 l4=>?_;have E34:Ex C2 C4:=E3.trans E4;have e4:Env k C4 p p4 b d2 ns4 pl ([z,u]++Γ):=e2.bind E34 (E3.free hp4) h4 (λy hy=>⟨by have:=(n4 y hy).1;simp only[List.mem_cons,List.cons_append,List.nil_append] at this |-;exact or_left_comm.mp this,(n4 y hy).2⟩) (by omega) (λy hy=>List.mem_append_right _ hy);refine⟨_,FQ,_,FQ,_,FQ,_,FQ,_,FQ,?_⟩;dsimp only[Zy,Wp,eC];refine Wu ih ck e4 λt2 C5 d5 x5 h5 o5=>?_;have X5:S7 p C C5:=((((E1.exB p).trans x2).trans (E34.exB p)).trans x5);have nzu:([z,u]:List Str).Nodup:=by simp[hzu]
  refine⟨_,FQ,by decide,Vi FQ ⟨_,FQ,Yu ?_ ?_⟩⟩
  ·refine⟨_,FQ,_,FQ,_,FQ,ZNB FQ,_,FQ,ZNB FQ,ZNB FQ,ZNB FQ,?_⟩;have:=q (ic t1 [("Pair",[z,u],t2)]) C5 d5 X5 h5 (zz (by omega) (by simp) (λy hy=>?_) (Pa o2 (by omega)) (λy hy=>?_))
   ·rw[zd] at this;exact this
   ·rw[XQ.mp hy];exact⟨aB.2.symm,nzu⟩
   ·rw[XQ.mp hy];exact Pa o5 (by omega)
  ·refine⟨_,FQ,XO _,_,FQ,_,FQ,⟨by decide,by decide⟩,_,FQ,?_⟩;dsimp only[Zy];have ha5:C5 a=some (.lst (ns.map B7)):=X5 _ _ e.nap e.ha;refine xK (n:=n+2*k+1) ha5 e.hn (by have:=e.hl;omega) λt3 C6 E6 o6=>?_;refine⟨ZNB FQ,_,FQ,_,FQ,ZNB FQ,_,FQ,ZNB FQ,ZNB FQ,ZNB FQ,?_⟩;have:=q (ic t1 [("Nil",[],t3),("Cons",[z,u],t2)]) C6 d5 (X5.trans (E6.exB p)) (E6 _ _ h5) (zz (by omega) (by simp) (λy hy=>?_) (Pa o2 (by omega)) (λy hy=>?_))
   ·rw[zd] at this;exact this
   ·simp only[ZM,ZN,or_false] at hy
    rcases hy with rfl | rfl
    ·exact⟨kh.2.symm,EH⟩
    ·exact⟨ki.2.symm,nzu⟩
   ·simp only[ZM,ZN,or_false] at hy
    rcases hy with rfl | rfl
    ·exact Pa o6 (by omega)
    ·exact Pa o5 (by omega)
end
open PySem PySem.Spec PyProof.Rows L2 WL
section
variable {C C':Hw}{Q:WK}{χ:WX}{n k:Nat}{p a b:WP}{ds ds':List Int}{ns:List (Str×Str)}{pl Γ:List Str}{kd:Str}{x:Int}
def sP {τr:List (Option T)}(hp:C p=some (.lst (ds.map T.int)))(q:∀d (r:List Int) C1,S7 p C C1->C1 p=some (.lst (r.map T.int))->Fo P D [some (.str kd),some (.ref p),some (.ref a),some (.ref b),some (.int (k:Int)),some (.int d),none,none,none,none,none,none,none] C1):
  Qt P D [some (.str kd),some (.ref p),some (.ref a),some (.ref b),some (.int (k:Int)),none,none,none,none,none,none,none,none] C:=by
 refine⟨_,FQ,_,FQ,_,hp,decide (((ds.map T.int).length:Int)>0),FQ,?_⟩
 cases ds with
 | nil=>exact Lp (YG (by decide)) (q 0 [] C (S7.refl _ _) hp)
 | cons d r=>
  refine Lo (decide_eq_true (by rw[XI,YF];omega)) ?_;refine⟨_,FQ,⟨_,_,FQ,hp⟩,_,_,_,0,_,FQ,FQ,hp,by decide,by decide,aY (Nat.succ_pos _),FQ,?_⟩;exact q d r (up C p (.lst (r.map T.int))) (S7.put (S7.refl _ _)) Zh
def Qv (ih:Dw k)(hx:x=k)(e:Env k C p a b ds ns pl Γ)(q:∀t C' (ds':List Int),S7 p C C'->C' p=some (.lst (ds'.map T.int))->ok 0 (2*k+3) Γ t->Q (tt t) C'):Z4 pr (n+2*(k+1)+2) Pi [.str kd,.ref p,.ref a,.ref b,.int x] C Q χ:=by
 rw[show n+2*(k+1)+2=(n+1)+2*k+3 by omega];exact Wu ih hx e q
def jy {α:Type}(zs:List α)(y:α)(i:Nat):(zs.take i++y::zs.drop i).Perm (y::zs):=by
 have:=List.perm_middle (a:=y) (l₁:=zs.take i) (l₂:=zs.drop i)
 rwa [List.take_append_drop] at this
def vK {α β:Type}(f:α->β)(l:List α)(y:α)(i:Nat):(l.map f).take i++f y::(l.map f).drop i=(l.take i++y::l.drop i).map f:=by
 rw[XL,YI,EQ,FG]
def sO {zs:List (Str×Tm)}(hp:(zs.map (·.1)).Perm ys)(h:ok 0 d (ys++Γ) t):ok 0 d (zs.map (·.1)++Γ) t:=zy h λx hx=>by
 rcases XS.mp hx with hx | hx
 ·exact CA _ (hp.mem_iff.mpr hx)
 ·exact XT _ hx
def xH:∀k,Dw k:=by
 intro k
 induction k with
 | zero=>
  intro n C Q χ kd p a b ds ns pl Γ e q;refine Hl FQ (sP (k:=0) (τr:=[]) e.hp λd r C1 x1 h1=>?_);refine⟨_,FQ,Vi (v:=true) FQ ⟨true,FQ,Z5 (Z5 ?_)⟩⟩;refine⟨_,FQ,_,FQ,⟨by decide,by decide⟩,_,FQ,?_⟩;dsimp only[Zy];have e1:=e.on x1 h1;exact xK (n:=n) e1.ha e1.hn (by have:=e.hl;omega) λt C2 E2 o2=>q t C2 r (x1.trans (E2.exB p)) (E2 _ _ h1) (Pa o2 (by omega))
 | succ k ih=>
  intro n C Q χ kd p a b ds ns pl Γ e q;refine Hl FQ (sP (k:=k+1) (τr:=[]) e.hp λd r C1 x1 h1=>?_);have e1:=e.on x1 h1;have hl9:ns.length<=100:=by have:=e.hl;omega
  have leaf:Vj (Z4 pr (n+2*(k+1)+2)) 42 (Yb (Z6 0) (Yb (Y1 i8 (Z6 5) (eC (.int 8))) (Yb (Z6 2) Zy))) [some (.str kd),some (.ref p),some (.ref a),some (.ref b),some (.int ((k+1:Nat):Int)),some (.int d),none,none,none,none,none,none,none] C1 Q χ:=by
   refine⟨_,FQ,_,FQ,⟨by decide,by decide⟩,_,FQ,?_⟩;dsimp only[Zy];exact xK (n:=n+2*k+2) e1.ha e1.hn (by omega) λt C2 E2 o2=>q t C2 r (x1.trans (E2.exB p)) (E2 _ _ h1) (Pa o2 (by omega))
  refine⟨_,FQ,Vi FQ ⟨_,FQ,Yu (Z5 leaf) ?_⟩⟩;refine⟨_,FQ,_,FQ,_,h1,Vi FQ ⟨_,FQ,Yu (Z5 leaf) ?_⟩⟩;refine⟨_,FQ,by decide,Vi FQ ⟨_,FQ,Yu leaf ?_⟩⟩;refine⟨_,FQ,by decide,?_⟩;refine⟨_,FQ,⟨by decide,by decide⟩,?_⟩;have hw0:0<=d%8:=by omega
  have hw1:d%8<8:=by omega
  generalize d%8=w at hw0 hw1;generalize d/8=x;refine⟨_,FQ,_,FQ,Nf (λ_=>?_) (λc4=>?_)⟩
  ·refine⟨_,FQ,_,FQ,_,FQ,_,FQ,_,FQ,_,FQ,?_⟩;dsimp only[Zy];exact cg (n:=n) ih e1 λt C2 d2 x2 h2 o2=>q t C2 d2 (x1.trans x2) h2 (Pa o2 (by omega))
  refine⟨_,FQ,Vi FQ ⟨_,FQ,Yu ?_ ?_⟩⟩
  ·refine⟨_,FQ,_,FQ,_,FQ,_,FQ,_,FQ,_,FQ,?_⟩;dsimp only[Zy];exact rN (n:=n) ih e1 λt C2 d2 x2 h2 o2=>q t C2 d2 (x1.trans x2) h2 (Pa o2 (by omega))
  obtain⟨ch,hc⟩:=wR (z:="nlftp") (n:=5) (x:=x) (by decide+kernel) (by decide);refine⟨_,FQ,by decide,by decide,ch,hc,?_⟩;generalize (⟨#[ch]⟩:Str)=oth;refine⟨_,FQ,Vi FQ ⟨_,FQ,Yu ?_ ?_⟩⟩
  ·refine⟨_,FQ,_,FQ,_,FQ,_,FQ,_,FQ,?_⟩;dsimp only[Zy,Wp,eC];refine Qv (n:=n) ih ck e1.dn λt1 C2 d2 x2 h2 o2=>?_;have e2:=e1.dn.on x2 h2;refine⟨_,FQ,_,FQ,_,FQ,_,FQ,_,FQ,_,FQ,?_⟩;dsimp only[Zy,Wp,eC];refine Qv (n:=n) ih ck e2 λt2 C3 d3 x3 h3 o3=>?_;refine⟨ZNB FQ,?_⟩;exact q (.first t1 t2) C3 d3 ((x1.trans x2).trans x3) h3 ⟨by omega,Pa o2 (by omega),Pa o3 (by omega)⟩
  obtain⟨z,hz,hat⟩:=zw e1.hb e1.pl (x/5);have lz:=e1.pl.s z hz;refine⟨_,FQ,_,FQ,⟨by decide,by decide⟩,_,FQ,_,FQ,_,e1.hb,xO e1.pl,_,_,e1.hb,hat,?_⟩;refine⟨_,FQ,_,FQ,_,FQ,?_⟩;dsimp only[Zy];refine Oa (n:=n+2*k+3) e1.ha e1.hn lz (by omega) λp2 ns2 C2 E2 hp2 h2 n2 l2=>?_;have e2:=e1.ex E2;refine⟨_,FQ,Vi FQ ⟨_,FQ,Yu ?_ ?_⟩⟩
  ·refine⟨_,FQ,_,FQ,_,FQ,_,FQ,_,FQ,?_⟩;dsimp only[Zy,Wp,eC];refine Qv (n:=n) ih ck e2.dn λt1 C3 d3 x3 h3 o3=>?_;have e3:Env k C3 p p2 b d3 ns2 pl (z::Γ):=(e1.bind E2 hp2 h2 n2 (by omega) (λy hy=>XV _ hy)).on x3 h3;refine⟨_,FQ,_,FQ,_,FQ,_,FQ,_,FQ,_,FQ,?_⟩;dsimp only[Zy,Wp,eC];refine Qv (n:=n) ih ck e3 λt2 C4 d4 x4 h4 o4=>?_;refine⟨ZNB FQ,_,FQ,ZNB FQ,?_⟩;exact q (.call (.fn z t2) t1) C4 d4 (((x1.trans (E2.exB p)).trans x3).trans x4) h4 ⟨by omega,⟨by omega,lz,Pa o4 (by omega)⟩,Pa o3 (by omega)⟩
  obtain⟨u,v,hf,hnd,lu,lv⟩:=vw e1.pl hz;refine nH FQ FQ e2.hb e2.pl hf λp3 hp3=>?_;have E3:Ex C2 (up C2 p3 (.lst ([u,v].map T.str))):=Ex.new hp3;have h3:(up C2 p3 (.lst ([u,v].map T.str))) p3=some (.lst ([u,v].map T.str)):=Zh;generalize up C2 p3 (.lst ([u,v].map T.str))=C3 at E3 h3;refine⟨_,FQ,_,FQ,_,_,h3,Zo,?_⟩;dsimp only[Zy,Yb,eC];refine Oa (n:=n+2*k+3) (E3 _ _ h2) n2 lu (by omega) λp4 ns4 C4 E4 hp4 h4 n4 l4=>?_;have h34:=E4 _ _ h3;have Y4:∀(p5:WP) (ns5:List (Str×Str)) (C5:Hw) (ys:List Str) (two:Bool),Ex C4 C5->C1 p5=none->C5 p5=some (.lst (ns5.map B7))->tM (ys++Γ) ns5->ns5.length<=ns.length+3->ys=(if two=true then[z,u,v] else[z,u])->(two=decide (x/25%2=0))->
    Fp (Z4 pr (n+2*(k+1)+2)) {nx:=λ_ C'=>Q .non C',rt:=Q,xc:=χ} [some (.str kd),some (.ref p),some (.ref a),some (.ref b),some (.int ((k+1:Nat):Int)),some (.int x),some (.int w),some (.str oth),none,some (.str z),some (.ref p5),some (.ref p3),none] C5:=by
   intro p5 ns5 C5 ys two E5 hp5 h5 n5 l5 hys htw;have E15:Ex C1 C5:=((E2.trans E3).trans E4).trans E5;have e5:Env k C5 p p5 b r ns5 pl (ys++Γ):=e1.bind E15 hp5 h5 n5 l5 (λy hy=>XT _ hy);have h35:=E5 _ _ h34;have p3p:p3≠p:=(cne (E2 _ _ h1) hp3).symm;have ysn:ys.Nodup:=by
    rw[hys]
    cases two with
    | true=>exact hnd
    | false=>
     show([z,u]:List Str).Nodup;simp only[List.nodup_cons,List.mem_cons,List.not_mem_nil,or_false,not_or,not_false_eq_true,List.nodup_nil,and_true] at hnd |-;exact hnd.1.1
   refine⟨_,FQ,_,FQ,_,FQ,_,FQ,_,FQ,_,FQ,?_⟩;dsimp only[Zy,Wp,eC];refine Qv (n:=n) ih ck e5 λt1 C6 d6 x6 h6 o6=>?_;refine⟨ZNB FQ,ZNB FQ,λp7 hp7=>?_⟩;have n7p:p7≠p:=(cne h6 hp7).symm;have hp75:C5 p7=none:=by
    cases hh:C5 p7 with
    | none=>rfl
    | some o=>have:=x6 _ _ n7p hh;rw[hp7] at this;cases this
   have X7:S7 p C5 (up C6 p7 (.lst [.tup [.str z,tt t1]])):=x6.new hp75;have h7:(up C6 p7 (.lst [.tup [.str z,tt t1]])) p7=some (.lst ([(z,t1)].map jb)):=Zh;have h7p:(up C6 p7 (.lst [.tup [.str z,tt t1]])) p=some (.lst (d6.map T.int)):=by rw[Zn n7p.symm];exact h6
   generalize up C6 p7 (.lst [.tup [.str z,tt t1]])=C7 at X7 h7 h7p;have e7:=e5.on X7 h7p;have done:∀(zs:List (Str×Tm)) (C9:Hw) (d9:List Int),S7 p C5 C9->C9 p=some (.lst (d9.map T.int))->C9 p7=some (.lst (zs.map jb))->(zs.map (·.1)).Perm ys->1<=zs.length->zs.length<=5->(∀y∈zs,ok 0 (2*k+3) (ys++Γ) y.2)->(∀y∈zs,gl y.1)->
     Fq (Z4 pr (n+2*(k+1)+2)) {nx:=λ_ C'=>Q .non C',rt:=Q,xc:=χ} [some (.str kd),some (.ref p),some (.ref a),some (.ref b),some (.int ((k+1:Nat):Int)),some (.int x),some (.int w),some (.str oth),none,some (.str z),some (.ref p5),some (.ref p3),some (.ref p7)] C9:=by
    intro zs C9 d9 X9 h9 h97 pm hz1 hz5 hzo hzl;have e9:=e5.on X9 h9;refine⟨_,FQ,_,FQ,_,h97,_,FQ,_,FQ,_,FQ,_,FQ,_,FQ,?_⟩;dsimp only[Zy,Wp,eC];refine Qv (n:=n) ih ck e9 λt4 Cx dx xx hx ox=>?_;refine⟨ZNB FQ,?_⟩;have:=q (ltL zs t4) Cx dx (((x1.trans (E15.exB p)).trans X9).trans xx) hx (qC (by omega) hz1 hz5 (pm.nodup_iff.mpr ysn) hzl (λy hy=>Pa (sO pm (hzo y hy)) (by omega)) (Pa (sO pm ox) (by omega)));rw[sN] at this;exact this
   refine⟨_,FQ,⟨_,_,FQ,h7⟩,_,FQ,⟨by decide,by decide⟩,by decide,_,FQ,_,_,X7 _ _ p3p h35,Zo,_,FQ,_,FQ,_,FQ,_,FQ,?_⟩;dsimp only[Zy,Wp,eC];refine Qv (n:=n) ih ck e7 λt2 C8 d8 x8 h8 o8=>?_;have h87:=x8 _ _ n7p h7;have hi0:0<=x/50%2:=by omega
   have hi1:(x/50%2).toNat<=1:=by omega
   refine⟨ZNB FQ,_,_,_,_,FQ,FQ,h87,hi0,by rw[XI];exact hi1,ZNB FQ,?_⟩;generalize (x/50%2).toNat=i2 at hi1;have ez:([(z,t1)].map jb).take i2++.tup [.str u,tt t2]::([(z,t1)].map jb).drop i2=([(z,t1)].take i2++(u,t2)::[(z,t1)].drop i2).map jb:=vK jb [(z,t1)] (u,t2) i2;rw[ez];have pm:=jy [(z,t1)] (u,t2) i2;generalize [(z,t1)].take i2++(u,t2)::[(z,t1)].drop i2=zs2 at pm;have X9:S7 p C5 (up C8 p7 (.lst (zs2.map jb))):=(X7.trans x8).new hp75;have h9:(up C8 p7 (.lst (zs2.map jb))) p7=some (.lst (zs2.map jb)):=Zh;have h9p:(up C8 p7 (.lst (zs2.map jb))) p=some (.lst (d8.map T.int)):=by rw[Zn n7p.symm];exact h8
   generalize up C8 p7 (.lst (zs2.map jb))=C9 at X9 h9 h9p;have l2:zs2.length=2:=pm.length_eq;have pm1:(zs2.map (·.1)).Perm [u,z]:=pm.map _;have ok2:∀y∈zs2,ok 0 (2*k+3) (ys++Γ) y.2/\gl y.1:=λy hy=>by
    have:=pm.mem_iff.mp hy;simp only[ZM,ZN,or_false] at this
    rcases this with rfl | rfl
    ·exact⟨o8,lu⟩
    ·exact⟨o6,lz⟩
   refine⟨_,FQ,⟨by decide,by decide⟩,by decide,Vi FQ ⟨_,FQ,Nf (λhb=>?_) (λhb=>?_)⟩⟩
   ·have h2:two=true:=by rw[htw];exact decide_eq_true (by simpa using hb)
    subst h2;have e9:=e5.on X9 h9p;refine⟨_,FQ,⟨_,_,FQ,h9⟩,_,FQ,⟨by decide,by decide⟩,by decide,_,FQ,_,_,X9 _ _ p3p h35,Z1,_,FQ,_,FQ,_,FQ,_,FQ,?_⟩;dsimp only[Zy,Wp,eC];refine Qv (n:=n) ih ck e9 λt3 Ca da xa ha oa=>?_;have ha9:=xa _ _ n7p h9;have hj0:0<=x/100%3:=by omega
    have hj1:(x/100%3).toNat<=2:=by omega
    refine⟨ZNB FQ,_,_,_,_,FQ,FQ,ha9,hj0,by rw[XI,l2];exact hj1,by rw[XI,l2];decide,?_⟩;generalize (x/100%3).toNat=i3 at hj1;have ey:(zs2.map jb).take i3++.tup [.str v,tt t3]::(zs2.map jb).drop i3=(zs2.take i3++(v,t3)::zs2.drop i3).map jb:=vK jb zs2 (v,t3) i3;rw[ey];have pn:=jy zs2 (v,t3) i3;generalize zs2.take i3++(v,t3)::zs2.drop i3=zs3 at pn;have l3:zs3.length=3:=by rw[pn.length_eq,YF,l2]
    have pn1:(zs3.map (·.1)).Perm ys:=by
     refine(pn.map _).trans ?_;rw[hys,XY FQ,YI];refine(List.Perm.cons v pm1).trans ?_;show[v,u,z].Perm [z,u,v];exact(List.reverse_perm [z,u,v])
    refine done zs3 _ da ((X9.trans xa).new hp75) (by rw[Zn n7p.symm];exact ha) Zh pn1 (by omega) (by omega) (λy hy=>?_) (λy hy=>?_)
    ·rcases CH.mp (pn.mem_iff.mp hy) with rfl | hy
     ·exact oa
     ·exact(ok2 y hy).1
    ·rcases CH.mp (pn.mem_iff.mp hy) with rfl | hy
     ·exact lv
     ·exact(ok2 y hy).2
   ·have h2:two=false:=by rw[htw];exact decide_eq_false (by simpa using hb)
    subst h2;have pm2:(zs2.map (·.1)).Perm ys:=by
     refine pm1.trans ?_;rw[hys,XX (by decide)];exact(List.reverse_perm [z,u])
    exact done zs2 C9 d8 X9 h9p h9 pm2 (by omega) (by omega) (λy hy=>(ok2 y hy).1) (λy hy=>(ok2 y hy).2)
  have f4:C1 p4=none:=((E2.trans E3)).free hp4;refine⟨_,FQ,⟨by decide,by decide⟩,by decide,Vi FQ ⟨_,FQ,Nf (λhb=>?_) (λhb=>?_)⟩⟩
  ·refine⟨_,FQ,_,FQ,_,_,h34,Z1,?_⟩;dsimp only[Zy,Yb,eC];refine Oa (n:=n+2*k+3) h4 n4 lv (by omega) λp5 ns5 C5 E5 hp5 h5 n5 l5=>?_;refine Y4 p5 ns5 C5 [z,u,v] true E5 (((E2.trans E3).trans E4).free hp5) h5 (λy hy=>⟨?_,(n5 y hy).2⟩) (by omega) FQ (by rw[decide_eq_true (by simpa using hb)]);have:=(n5 y hy).1;simp only[List.mem_cons,List.cons_append,List.nil_append] at this |-
   rcases this with h | h | h | h
   ·exact .inr (.inr (.inl h))
   ·exact .inr (.inl h)
   ·exact .inl h
   ·exact .inr (.inr (.inr h))
  ·refine Y4 p4 ns4 C4 [z,u] false (Ex.refl _) f4 h4 (λy hy=>⟨?_,(n4 y hy).2⟩) (by omega) FQ (by rw[decide_eq_false (by simpa using hb)]);have:=(n4 y hy).1;simp only[List.mem_cons,List.cons_append,List.nil_append] at this |-;exact or_left_comm.mp this
def Zcn:Tm:=.call (.call (.nm "each") (.nm "f")) (.nm "t")
def vS:Tm:=.fn "f" (.fn "l" (ic (.nm "l") [("Nil",[],Eu),("Cons",["h","t"],.shp2 "Cons" (.call (.nm "f") (.nm "h")) Zcn)]))
def lH (h:("each":Str)∈Γ):ok 0 7 Γ vS:=by
 have l1:gl "f":=⟨by decide+kernel,by decide+kernel⟩;have l2:gl "l":=⟨by decide+kernel,by decide+kernel⟩;have hht:(["h","t"]:List Str).Nodup:=by decide+kernel
 refine⟨by decide,l1,by decide,l2,zz (by decide) (by simp) (λz hz=>?_) (List.mem_cons_self) (λz hz=>?_)⟩
 ·simp only[ZM,ZN,or_false] at hz
  rcases hz with rfl | rfl
  ·exact⟨kh.2.symm,EH⟩
  ·exact⟨ki.2.symm,hht⟩
 ·simp only[ZM,ZN,or_false] at hz
  rcases hz with rfl | rfl
  ·exact kh
  ·refine⟨by decide,ki,⟨by decide,?_,?_⟩,by decide,⟨by decide,?_,?_⟩,?_⟩<;>show(_:Str)∈_<;>simp[h]
def iR (q:Q (tt vS) C):Z4 pr (n+1) jC [] C Q χ:=by
 refine yI FQ ?_;refine⟨ZNB FQ,ZNB FQ,ZNB FQ,ZNB FQ,ZNB FQ,?_⟩;refine⟨ZNB FQ,ZNB FQ,ZNB FQ,_,FQ,ZNB FQ,ZNB FQ,?_⟩;refine⟨XO _,XO _,ZNB FQ,ZNB FQ,ZNB FQ,_,FQ,ZNB FQ,ZNB FQ,?_⟩;refine⟨ZNB FQ,_,FQ,ZNB FQ,ZNB FQ,ZNB FQ,?_⟩;have e:tt vS=.tup [.str "fun",.str "f",.tup [.str "fun",.str "l",tt (ic (.nm "l") [("Nil",[],Eu),("Cons",["h","t"],.shp2 "Cons" (.call (.nm "f") (.nm "h")) Zcn)])]]:=rfl;rw[e,zd] at q;exact q
end
open PySem PySem.Spec PyProof.Rows L2 WL
def ii (x:Str):Prop:=∃c r,x.cps.toList=c::r/\(c=97\/c=98)
def kN (i:Nat):Str:=("k":Str)++Str.ofString (toString (0+(i:Int)))
def Ff (x y:Str):(x++y).cps.toList=x.cps.toList++y.cps.toList:=by
 show(x.cps++y.cps).toList=_;exact Array.toList_append
def ug {x y:Str}(h:ii x):ii (x++y):=by
 obtain⟨c,r,e,hc⟩:=h;exact⟨c,r++y.cps.toList,by rw[Ff,e];rfl,hc⟩
def lm (i:Nat):∃r,(kN i).cps.toList=107::r:=by
 unfold kN;rw[Ff];exact⟨(Str.ofString (toString (0+(i:Int)))).cps.toList,FQ⟩
def bq:¬ii (kN i):=λ⟨c,r,e,hc⟩=>by
 obtain⟨r',e'⟩:=lm i;rw[e'] at e;injection e with e _
 omega
def gY {i j:Nat}(h:i<j)(hj:j<3):kN i≠kN j:=by
 have h0:(i=0/\j=1)\/(i=0/\j=2)\/(i=1/\j=2):=by omega
 rcases h0 with⟨rfl,rfl⟩ | ⟨rfl,rfl⟩ | ⟨rfl,rfl⟩<;>decide+kernel
def gX {i:Nat}(hi:i<3):(Str.ofString (toString (0+(i:Int)))).length<=18/\1<=(kN i).length/\(kN i).length<=19:=by
 have h1:=qF (x:=0+(i:Int)) (by omega) (by omega);have h2:(kN i).length=("k":Str).length+(Str.ofString (toString (0+(i:Int)))).length:=YC _ _;have h3:("k":Str).length=1:=by decide+kernel
 omega
structure Az (i:Nat)(pl:List Str):Prop where
 l:pl.length=i
 n:pl.Nodup
 s:∀x∈pl,(1<=x.length/\x.length<=50)/\(ii x\/∃j,j<i/\x=kN j)
def Az.add (h:Az i pl){x:Str}(hl:1<=x.length/\x.length<=50)(hx:ii x\/x=kN i)(hn:x∉pl):Az (i+1) (pl++[x]):=by
 refine⟨by rw[BX,h.l];rfl,?_,λy hy=>?_⟩
 ·rw[List.nodup_append];refine⟨h.n,by simp,λa ha b hb=>?_⟩;rw[XQ.mp hb];exact λe=>hn (e▸ha)
 ·rcases XS.mp hy with hy | hy
  ·exact⟨(h.s y hy).1,(h.s y hy).2.imp_right λ⟨j,hj,e⟩=>⟨j,by omega,e⟩⟩
  ·rw[XQ.mp hy];exact⟨hl,hx.imp_right λe=>⟨i,by omega,e⟩⟩
def Az.new (h:Az i pl)(hi:i<3):kN i∉pl:=λhm=>by
 rcases (h.s _ hm).2 with ha | ⟨j,hj,e⟩
 ·exact bq ha
 ·exact gY hj hi e.symm
def kD:Str:="abcdeghijklmnopqrsuvwxyz0123456789"
section
variable {C C':Hw}{Q:WK}{χ:WX}{n:Nat}{p a b:WP}{ds ds':List Int}{pl Γ:List Str}{kd:Str}{x:Int}
def iO {m:Nat}(hp:C p=some (.lst (ds.map T.int)))(h3:ds.length=m+3)
  (q:∀b pl (ds':List Int) C',S7 p C C'->b≠p->C' b=some (.lst (pl.map T.str))->Dx pl->C' p=some (.lst (ds'.map T.int))->ds'.length=m->Q (.ref b) C'):Z4 pr (n+1) j8 [.ref p] C Q χ:=by
 refine yE FQ ?_;refine⟨XO _,λb hb=>?_⟩;have nbp:b≠p:=(cne hp hb).symm;refine⟨_,FQ,by decide,by decide,?_⟩;refine zZ (n:=3) (λi τ C'=>∃x3 x4 x5 x6,∃(pl:List Str) (ds':List Int),τ=[some (.ref p),some (.ref b),some (.str kD),x3,x4,x5,x6]/\S7 p C C'/\C' b=some (.lst (pl.map T.str))/\Az i pl/\C' p=some (.lst (ds'.map T.int))/\ds'.length+i=m+3)
  ⟨none,none,none,none,[],ds,FQ,(Ex.new hb).exB p,Zh,⟨FQ,EH,λx hx=>by cases hx⟩,by rw[Zn nbp.symm];exact hp,by omega⟩ (λ_=>trivial) ?_ ?_
 ·rintro i τ C' N hi ⟨x3,x4,x5,x6,pl,ds',rfl,hE,hb',hI,hp',hl⟩ hN;obtain⟨d,d1,d2,d3,d4,d5⟩:=my (ds:=ds') (by omega);refine⟨_,FQ,⟨_,_,FQ,hp'⟩,_,_,_,FQ,FQ,hp',d1,?_⟩;rw[d3];have hE2:S7 p C (up C' p (.lst (ds'.dropLast.map T.int))):=hE.put;have hb2:(up C' p (.lst (ds'.dropLast.map T.int))) b=some (.lst (pl.map T.str)):=by rw[Zn nbp];exact hb'
  have hp2:(up C' p (.lst (ds'.dropLast.map T.int))) p=some (.lst (ds'.dropLast.map T.int)):=Zh;generalize up C' p (.lst (ds'.dropLast.map T.int))=C2 at hE2 hb2 hp2;have hab:(Str.ofString "ab").cps.toList.length=2:=by decide+kernel
  obtain⟨ch,hc,hcm⟩:=Iy (xs:=(Str.ofString "ab").cps.toList) (i:=(0+(i:Int))%2) (YO _ (by decide)) (by rw[hab];exact CB _ (by decide));have hcm':ch=97\/ch=98:=by
   have e:(Str.ofString "ab").cps.toList=[97,98]:=by decide+kernel
   rw[e] at hcm;simpa using hcm
  have hs34:kD.cps.toList.length=34:=by decide+kernel
  have hsl:kD.length<=sizeLine:=by decide+kernel
  obtain⟨sg,hsg⟩:=wR (z:=kD) (n:=34) (x:=d) hs34 (by decide);refine⟨_,FQ,by decide,by decide,ch,hc,_,FQ,_,FQ,by decide,hsl,sg,hsg,Ya (by show 1+1<=100000;decide),?_⟩;have ha0:ii ((⟨#[ch]⟩:Str)++⟨#[sg]⟩):=ug ⟨ch,[],FQ,hcm'⟩;have hl0:((⟨#[ch]⟩:Str)++⟨#[sg]⟩).length=2:=by rw[YC];rfl
  generalize (⟨#[ch]⟩:Str)++⟨#[sg]⟩=x0 at ha0 hl0;have hr0:0<=d/34%7:=by omega
  have hr7:d/34%7<7:=by omega
  refine⟨_,FQ,⟨by decide,by decide⟩,by decide,_,FQ,by omega,by omega,?_⟩;refine zZ (n:=(d/34%7).toNat) (λj τ C'=>∃x6,∃y:Str,τ=[some (.ref p),some (.ref b),some (.str kD),some (.int (0+(i:Int))),some (.int d),some (.str y),x6]/\C'=C2/\ii y/\y.length=2+j) ⟨x6,x0,FQ,FQ,ha0,hl0⟩ (λ_=>trivial) ?_ ?_
  ·rintro j τ C' N2 hj ⟨x6,y,rfl,rfl,hay,hly⟩ hN2;obtain⟨sg,hsg⟩:=wR (z:=kD) (n:=34) (x:=d/238+5*(0+(j:Int))*(0+(j:Int))) hs34 (by decide);refine⟨_,FQ,_,FQ,_,FQ,⟨by decide,by decide⟩,_,FQ,.inl ⟨by decide,by decide⟩,_,FQ,.inl ⟨by omega,by omega⟩,by decide,hsl,sg,hsg,Ya (by show y.length+1<=_;omega),?_⟩;exact hN2 _ _ ⟨_,_,FQ,FQ,ug hay,by rw[YC,hly];rfl⟩
  ·rintro τ C' ⟨x6,y,rfl,rfl,hay,hly⟩;have hly':1<=y.length/\y.length<=50:=by omega
   have last:∀(D1:We) (z:Str),D1.nx=N->(1<=z.length/\z.length<=50)->(ii z\/z=kN i)->z∉pl->Q8 (lI yK Tl (Z6 1) (Yb (Z6 5) Zy)) D1 [some (.ref p),some (.ref b),some (.str kD),some (.int (0+(i:Int))),some (.int d),some (.str z),x6] C':=λD1 z hD hz hza hzn=>by
    refine⟨_,FQ,⟨_,_,FQ,hb2⟩,_,FQ,_,_,_,FQ,FQ,hb2,Yc (by rw[XI,hI.l];omega),?_⟩;rw[hD];refine hN _ _ ⟨_,_,_,_,pl++[z],ds'.dropLast,FQ,?_,?_,hI.add hz hza hzn,by rw[Zn nbp.symm];exact hp2,by omega⟩
    ·exact λc o hc h=>by
      have:c≠b:=λe=>by subst e;rw[hb] at h;cases h
      rw[Zn this];exact hE2 _ _ hc h
    ·rw[Zh,XL];rfl
   have kk:∀(D1 D2:We),D1.nx=N->D2.nx=Q8 (lI yK Tl (Z6 1) (Yb (Z6 5) Zy)) D1->T7 (Y1 i9 (eC (.str "k")) (kW ie (Yb (Z6 3) Zy))) (Bl 5) D2 [some (.ref p),some (.ref b),some (.str kD),some (.int (0+(i:Int))),some (.int d),some (.str y),x6] C':=λD1 D2 hD1 hD2=>by
    have hk:=gX hi;have hk1:("k":Str).length=1:=by decide+kernel
    refine⟨_,FQ,.inl ⟨_,FQ,kM (by omega) (by omega),Ya (by show("k":Str).length+(Str.ofString (toString (0+(i:Int)))).length<=_;omega),?_⟩⟩;show D2.nx _ _;rw[hD2];exact last D1 (kN i) hD1 (by omega) (.inr FQ) (hI.new hi)
   refine⟨_,FQ,_,FQ,ni hb2 ⟨_,FQ,Nf (λ_=>Z5 (kk _ _ FQ FQ)) (λhnin=>?_)⟩⟩;have hnin':y∉pl:=of_decide_eq_false hnin;refine⟨_,FQ,Zx FQ ⟨_,FQ,Yu (kk _ _ FQ FQ) ?_⟩⟩;exact last _ y FQ hly' (.inl hay) hnin'
 ·rintro τ C' ⟨x3,x4,x5,x6,pl,ds',rfl,hE,hb',hI,hp',hl⟩;exact⟨_,FQ,q b pl ds' C' hE nbp hb' ⟨hI.l,hI.n,λx hx=>(hI.s x hx).1⟩ hp' (by omega)⟩
def yg {α β:Type}{xs:List α}{f:α->β}{lo hi:Option Int}:As (xs.map f) lo hi=(As xs lo hi).map f:=by
 unfold As;rw[XI,EQ,FG]
def S7.fresh (h:C p2=none)(e:S7 p2 (up C p2 o) C'):Ex C C':=λa u hu=>e _ _ (cne hu h) (by rw[Zn (cne hu h)];exact hu)
def rm:Tm:=.fn "n" (.shp2 "Cons" (.nm "n") (.call (.nm "from") (.does "+" (.nm "n") (.num 1))))
def rj (h:("from":Str)∈Γ):ok 0 4 Γ rm:=by
 have l1:gl "n":=⟨by decide+kernel,by decide+kernel⟩;exact⟨by decide,l1,by decide,ki,CM,by decide,XV _ h,by decide,CM,by decide,by decide⟩
def vC {c:Nat}{x y:Str}:((⟨#[c]⟩:Str)++x++y).cps.toList=c::(x.cps.toList++y.cps.toList):=by rw[Ff,Ff];rfl
def Am {x y:Str}{c c':Nat}{r r':List Nat}(hx:x.cps.toList=c::r)(hy:y.cps.toList=c'::r')(h:c≠c'):x≠y:=λe=>by
 rw[e,hy] at hx;injection hx with hx _
 exact h hx.symm
def rM (hp:C p=some (.lst (ds.map T.int)))(hb:C b=some (.lst (pl.map T.str)))(hpl:Dx pl)(q:∀t C',Ex C C'->ok 0 12 [] t->Sv t=false->Q (tt t) C'):Z4 pr (n+13) Bc [.str kd,.ref p,.ref b,.int 4] C Q χ:=by
 refine Ch FQ ?_;have h1:=hpl.l;have h3:=hpl.s5
 match pl,h1,hb,hpl,h3 with
 | [u,v,w],_,hb,hpl,h3=>
  have lu:=h3 u (by simp);have lv:=h3 v (by simp);have lc:("c":Str).length=1:=by decide+kernel
  have ld:("d":Str).length=1:=by decide+kernel
  have l0:("0":Str).length=1:=by decide+kernel
  have su:=Txt.slice_le u (some 1) (some 5);have sv:=Txt.slice_le v (some 1) (some 5);refine⟨_,FQ,_,_,hb,Zo,_,FQ,_,FQ,Ya (by omega),Ya (by omega),Ya (by rw[YC];omega),?_⟩;refine⟨_,FQ,_,_,hb,Z1,_,FQ,_,FQ,Ya (by omega),Ya (by omega),Ya (by rw[YC];omega),?_⟩;have hnl:gl (("c":Str)++Txt.slice u (some 1) (some 5)++("0":Str)):=by constructor<;>(rw[YC,YC];omega)
  have hll:gl (("d":Str)++Txt.slice v (some 1) (some 5)++("0":Str)):=by constructor<;>(rw[YC,YC];omega)
  obtain⟨rn,en⟩:∃r,(("c":Str)++Txt.slice u (some 1) (some 5)++("0":Str)).cps.toList=99::r:=⟨_,vC (c:=99)⟩;obtain⟨rl,el⟩:∃r,(("d":Str)++Txt.slice v (some 1) (some 5)++("0":Str)).cps.toList=100::r:=⟨_,vC (c:=100)⟩;generalize ("c":Str)++Txt.slice u (some 1) (some 5)++("0":Str)=nn at hnl en;generalize ("d":Str)++Txt.slice v (some 1) (some 5)++("0":Str)=ln at hll el;obtain⟨rf,ef⟩:∃r,("from":Str).cps.toList=102::r:=⟨_,FQ⟩;obtain⟨re,ee⟩:∃r,("each":Str).cps.toList=101::r:=⟨_,FQ⟩;have hnd:([("from":Str),nn,"each",ln]:List Str).Nodup:=by
   simp only[List.nodup_cons,List.mem_cons,List.not_mem_nil,or_false,not_or,not_false_eq_true,List.nodup_nil,and_true];exact⟨⟨Am ef en (by decide),Am ef ee (by decide),Am ef el (by decide)⟩,⟨Am en ee (by decide),Am en el (by decide)⟩,Am ee el (by decide)⟩
  refine⟨_,FQ,ZNB FQ,_,FQ,ZNB FQ,ZNB FQ,λph hph=>?_⟩;have Eh:Ex C (up C ph (.lst ([(nn,("n":Str)),(ln,"l")].map B7))):=Ex.new hph;have hh:(up C ph (.lst ([(nn,("n":Str)),(ln,"l")].map B7))) ph=some (.lst ([(nn,("n":Str)),(ln,"l")].map B7)):=Zh;have ehere:([.tup [.str nn,.str "n"],.tup [.str ln,.str "l"]]:List T)=[(nn,("n":Str)),(ln,"l")].map B7:=rfl;rw[ehere];generalize up C ph (.lst ([(nn,("n":Str)),(ln,"l")].map B7))=C0 at Eh hh;have hp0:=Eh _ _ hp;have hb0:=Eh _ _ hb;have sub:∀(k:Nat) (C1:Hw) (ds1:List Int) (p1:WP),k<=4->Ex C0 C1->C1 p1=none->Env k (up C1 p1 (.lst (ds1.map T.int))) p1 ph b ds1 [(nn,("n":Str)),(ln,"l")] [u,v,w] ["from",nn,"each",ln]:=λk C1 ds1 p1 hk E1 hp1=>by
   refine⟨Zh,by rw[Zn (cne (E1 _ _ hh) hp1)];exact E1 _ _ hh,λz hz=>?_,by show 2+4*k<=100;omega,by rw[Zn (cne (E1 _ _ hb0) hp1)];exact E1 _ _ hb0,hpl,cne (E1 _ _ hh) hp1,cne (E1 _ _ hb0) hp1,by simp,by simp⟩;simp only[ZM,ZN,or_false] at hz
   rcases hz with rfl | rfl
   ·exact⟨by simp,hnl⟩
   ·exact⟨by simp,hll⟩
  refine⟨ZNB FQ,ZNB FQ,ZNB FQ,ZNB FQ,ZNB FQ,?_⟩;refine⟨ZNB FQ,_,FQ,ZNB FQ,ZNB FQ,ZNB FQ,?_⟩;refine⟨_,FQ,_,FQ,_,hp0,λp1 hp1=>⟨_,FQ,_,FQ,?_⟩⟩;dsimp only[Zy,Yb,eC];rw[yg];refine Wu (n:=n+5) (xH 2) FQ (sub 2 C0 _ p1 (by decide) (Ex.refl _) hp1) λt1 C1 d1 x1 k1 o1=>?_;have E1:Ex C0 C1:=S7.fresh hp1 x1;refine⟨_,FQ,_,FQ,_,FQ,_,E1 _ _ hp0,λp2 hp2=>⟨_,FQ,_,FQ,?_⟩⟩;dsimp only[Zy,Yb,eC];rw[yg];refine Wu (n:=n+5) (xH 2) FQ (sub 2 C1 _ p2 (by decide) E1 hp2) λt2 C2 d2 x2 k2 o2=>?_;have E2:Ex C0 C2:=E1.trans (S7.fresh hp2 x2);refine⟨_,FQ,ZNB FQ,_,FQ,_,FQ,ZNB FQ,?_⟩;dsimp only[Yb,Zy,eC,Vj,Dh];refine iR (n:=n+11) ?_;refine⟨ZNB FQ,_,FQ,_,FQ,ZNB FQ,ZNB FQ,?_⟩;refine⟨_,FQ,_,FQ,_,FQ,_,FQ,_,E2 _ _ hp0,λp3 hp3=>⟨_,FQ,_,FQ,_,FQ,?_⟩⟩;dsimp only[Zy,Yb,eC];rw[yg];refine Wu (n:=n+1) (xH 4) FQ (sub 4 C2 _ p3 (by decide) E2 hp3) λt3 C3 d3 x3 k3 o3=>?_;have E3:Ex C0 C3:=E2.trans (S7.fresh hp3 x3);refine⟨ZNB FQ,?_⟩;have lf:gl "from":=⟨by decide+kernel,by decide+kernel⟩;have le:gl "each":=⟨by decide+kernel,by decide+kernel⟩;have:=q (ltL [("from",rm),(nn,t1),("each",vS),(ln,t2)] t3) C3 (Eh.trans E3) (qC (by decide) (by simp) (by simp) hnd (λz hz=>?_) (λz hz=>?_) (Pa (zy o3 λx hx=>List.mem_append_left _ hx) (by decide))) FQ
  ·rw[sN] at this;exact this
  ·simp only[ZM,ZN,or_false] at hz
   rcases hz with rfl | rfl | rfl | rfl
   ·exact lf
   ·exact hnl
   ·exact le
   ·exact hll
  ·simp only[ZM,ZN,or_false] at hz
   rcases hz with rfl | rfl | rfl | rfl
   ·exact Pa (rj (by simp)) (by decide)
   ·exact Pa (zy o1 λx hx=>CA _ hx) (by decide)
   ·exact Pa (lH (by simp)) (by decide)
   ·exact Pa (zy o2 λx hx=>CA _ hx) (by decide)
end
def kO (g p w t q:WP):Bd:=λi=>match i with | 0=>g | 1=>p | 2=>w | 3=>t | 4=>q
def gM {g p w t q:WP}(h:[g,p,w,t,q].Nodup):∀i j:Fin 5,i≠j->kO g p w t q i≠kO g p w t q j:=by
 intro i j hij e;have hi:∀k:Fin 5,[g,p,w,t,q][k.val]?=some (kO g p w t q k):=λk=>by
  match k with
  | 0=>rfl | 1=>rfl | 2=>rfl | 3=>rfl | 4=>rfl
 exact hij (Fin.ext ((DT (by exact i.isLt) h).mp (by rw[hi i,hi j,e])))
def law_true (ns:List Int)(h63:ns.length<=63):Z4 pr 60 bx [.cl (ns.map T.int)] (λ_=>none) (λv _=>v=.bl true) (λ_ _=>False):=by
 refine dw FQ ?_;refine⟨_,FQ,?_⟩;dsimp only[Zy,Yb,eC];refine nS (n:=57) (m:=26) h63 (by decide) λp ds C0 E0 hp0 hp hl hn=>?_;refine⟨_,FQ,?_⟩;dsimp only[Zy];refine iO (n:=58) (m:=23) hp hl λb pl d1 C1 x1 nb hb hpl hp1 hl1=>?_;obtain⟨y1,a1,_,a3,a4,_⟩:=my (ds:=d1) (by omega);refine⟨_,FQ,⟨_,_,FQ,hp1⟩,_,_,_,FQ,FQ,hp1,a1,by decide,?_⟩;rw[a3];obtain⟨y2,b1,_,b3,b4,_⟩:=my (ds:=d1.dropLast) (by omega);refine⟨_,FQ,⟨_,_,FQ,Zh⟩,_,_,_,FQ,FQ,Zh,b1,by decide,?_⟩;rw[b3,yA];obtain⟨y4,e1,_,e3,e4,_⟩:=my (ds:=d1.dropLast.dropLast) (by omega);obtain⟨ch,hc⟩:=wR (z:="nlltpf") (n:=6) (x:=y4) (by decide+kernel) (by decide);refine⟨_,FQ,⟨_,_,FQ,Zh⟩,_,_,_,FQ,FQ,Zh,e1,by decide,by decide,ch,hc,?_⟩;rw[e3,yA];have hb2:(up C1 p (.lst (d1.dropLast.dropLast.dropLast.map T.int))) b=some (.lst (pl.map T.str)):=by rw[Zn nb];exact hb
 refine⟨_,FQ,_,FQ,_,FQ,?_⟩;dsimp only[Zy,Yb,eC];refine rM (n:=46) Zh hb2 hpl λt C2 E2 ho hv=>?_;have hm1:y2%51<=1000:=by omega
 have hD0:0<=y1%6:=by omega
 generalize y2%51=m at hm1;generalize y1%6=D at hD0;clear hb2 hc e1 b1 a1 hp1;refine λg hg a0 ha0=>⟨XO _,λpp hpp=>⟨_,FQ,λa2 ha2=>⟨_,FQ,ZNB FQ,ZNB FQ,λra hra=>⟨XO _,λw hw=>⟨_,FQ,_,FQ,_,FQ,_,FQ,_,FQ,_,FQ,?_⟩⟩⟩⟩⟩;have E1:=Ex.new (o:=.dic []) ha0;have E2':=Ex.new (o:=.lst []) hpp;have E3:=Ex.new (o:=.dic []) ha2;have E4:=Ex.new (o:=.lst [.tup [tt t,.ref a2,.int D]]) hra;have E5:=Ex.new (o:=.lst []) hw;have g1:up C2 g (.dic []) g=some (.dic []):=Zh;have g2':=E1 _ _ g1;have g3:=E2' _ _ g2';have g4:=E3 _ _ g3;have g5:=E4 _ _ g4;have s_g:=E5 _ _ g5;have n_pp:=Bn g2' hpp;have n_a2:=Bn g3 ha2;have n_ra:=Bn g4 hra;have n_w:=Bn g5 hw;have p3:up (up (up C2 g (.dic [])) a0 (.dic [])) pp (.lst []) pp=some (.lst []):=Zh;have p4:=E3 _ _ p3;have p5:=E4 _ _ p4;have s_pp:=E5 _ _ p5;have n_ra_pp:=Bn p4 hra;have n_w_pp:=Bn p5 hw;have q4:up (up (up (up C2 g (.dic [])) a0 (.dic [])) pp (.lst [])) a2 (.dic []) a2=some (.dic []):=Zh;have s_a2:=E5 _ _ (E4 _ _ q4);have r5:up (up (up (up (up C2 g (.dic [])) a0 (.dic [])) pp (.lst [])) a2 (.dic [])) ra (.lst [.tup [tt t,.ref a2,.int D]]) ra=some (.lst [.tup [tt t,.ref a2,.int D]]):=Zh;have s_ra:=E5 _ _ r5;have n_ra_w:=cne r5 hw;have s_w:up (up (up (up (up (up C2 g (.dic [])) a0 (.dic [])) pp (.lst [])) a2 (.dic [])) ra (.lst [.tup [tt t,.ref a2,.int D]])) w (.lst []) w=some (.lst []):=Zh;refine⟨s_g,ZNB FQ,?_⟩;generalize up (up (up (up (up (up C2 g (.dic [])) a0 (.dic [])) pp (.lst [])) a2 (.dic [])) ra (.lst [.tup [tt t,.ref a2,.int D]])) w (.lst [])=H6 at s_g s_pp s_a2 s_ra s_w;clear E1 E2' E3 E4 E5 g1 g2' g3 g4 g5 p3 p4 p5 q4 r5 hg ha0 hpp ha2 hra hw;generalize hK1:Ig [] [(Sum.inr "hand",T.non),(Sum.inr "around",T.ref a0),(Sum.inr "pile",T.ref pp),(Sum.inr "rest",T.ref ra),(Sum.inr "words",T.ref w),(Sum.inr "steps",T.int 0)]=K1;have h7:up H6 g (.dic K1) g=some (.dic K1):=Zh;have o7:∀{x o},x≠g->H6 x=some o->up H6 g (.dic K1) x=some o:=λn h=>by rw[Zn n];exact h
 refine⟨_,FQ,⟨_,_,FQ,Zh⟩,λg2 hg2=>⟨XO _,λth hth=>⟨XO _,λlo hlo=>⟨_,FQ,_,FQ,_,FQ,_,FQ,_,FQ,_,FQ,?_⟩⟩⟩⟩;have F8:=Ex.new (o:=.dic []) hg2;have F9:=Ex.new (o:=.lst []) hth;have F10:=Ex.new (o:=.lst []) hlo;have k8:up (up H6 g (.dic K1)) g2 (.dic []) g2=some (.dic []):=Zh;have n_gg:=cne h7 hg2;have h10:=F10 _ _ (F9 _ _ (F8 _ _ h7));have k10:=F10 _ _ (F9 _ _ k8);refine⟨k10,ZNB FQ,?_⟩;have th9:up (up (up H6 g (.dic K1)) g2 (.dic [])) th (.lst []) th=some (.lst []):=Zh;have th10:=F10 _ _ th9;have lo10:up (up (up (up H6 g (.dic K1)) g2 (.dic [])) th (.lst [])) lo (.lst []) lo=some (.lst []):=Zh;have n_th:=Bn (F8 _ _ h7) hth;have n_lo:=Bn (F9 _ _ (F8 _ _ h7)) hlo;have n_th2:=Bn k8 hth;have n_lo2:=Bn (F9 _ _ k8) hlo;have old:∀{x o},x≠g->H6 x=some o->x≠g2/\x≠th/\x≠lo/\up (up (up (up H6 g (.dic K1)) g2 (.dic [])) th (.lst [])) lo (.lst []) x=some o:=λn h=>by
  have h1:=o7 n h;have h2:=F8 _ _ h1;have h3:=F9 _ _ h2;exact⟨cne h1 hg2,cne h2 hth,cne h3 hlo,F10 _ _ h3⟩
 have n_tl:=cne th9 hlo;generalize up (up (up (up H6 g (.dic K1)) g2 (.dic [])) th (.lst [])) lo (.lst [])=H10 at*;generalize hK2:Ig [] [(Sum.inr "cells",T.int 0),(Sum.inr "firsts",T.int 0),(Sum.inr "things",T.ref th),(Sum.inr "log",T.ref lo),(Sum.inr "deep",T.int D)]=K2;refine⟨_,_,_,_,FQ,FQ,n_gg,by rw[Zn n_gg];exact h10,Zh,by rw[<-hK1,<-hK2];exact ZNB FQ,?_⟩;obtain⟨pp1,pp2,pp3,pp4⟩:=old n_pp s_pp;obtain⟨aa1,aa2,aa3,aa4⟩:=old n_a2 s_a2;obtain⟨ra1,ra2,ra3,ra4⟩:=old n_ra s_ra;obtain⟨w1,w2,w3,w4⟩:=old n_w s_w;have eg:Ig K1 K2=gk (kO g pp w th lo) ⟨.no,a0,[],[.part D (.cl ⟨t,λ_=>none,a2,[]⟩) a2],ra,[],[],[],0,0,0,D⟩:=by rw[<-hK1,<-hK2];kernel_rfl
 rw[eg];have at2:∀{x o},x≠g->x≠g2->H10 x=some o->up (up H10 g2 (.dic K2)) g (.dic (gk (kO g pp w th lo) ⟨.no,a0,[],[.part D (.cl ⟨t,λ_=>none,a2,[]⟩) a2],ra,[],[],[],0,0,0,D⟩)) x=some o:=λn m h=>by rw[Zn n,Zn m];exact h
 have R:Lr (kO g pp w th lo) (up (up H10 g2 (.dic K2)) g (.dic (gk (kO g pp w th lo) ⟨.no,a0,[],[.part D (.cl ⟨t,λ_=>none,a2,[]⟩) a2],ra,[],[],[],0,0,0,D⟩))) ⟨.no,a0,[],[.part D (.cl ⟨t,λ_=>none,a2,[]⟩) a2],ra,[],[],[],0,0,0,D⟩:=by
  refine⟨Zh,at2 n_pp pp1 pp4,at2 n_w w1 w4,at2 n_th n_th2 th10,at2 n_lo n_lo2 lo10,at2 n_ra ra1 ra4,gM ?_,?_,(λc e=>by cases e),(λf hf=>by cases hf),?_,(λz hz=>by cases hz),λz=>absurd FQ z⟩
  ·simp only[List.nodup_cons,List.mem_cons,List.not_mem_nil,or_false,not_or,not_false_eq_true,List.nodup_nil,and_true];exact⟨⟨n_pp.symm,n_w.symm,n_th.symm,n_lo.symm⟩,⟨n_w_pp.symm,pp2,pp3⟩,⟨w2,w3⟩,n_tl⟩
  ·intro i
   match i with
   | 0=>exact n_ra
   | 1=>exact n_ra_pp
   | 2=>exact n_ra_w
   | 3=>exact ra2
   | 4=>exact ra3
  ·intro x hx;rw[XQ.mp hx];exact⟨λc e=>by cases e;exact⟨⟨⟨n_a2,⟨[],at2 n_a2 aa1 aa4,λ_=>rfl,XW _⟩,λy hy=>by cases hy⟩,ho⟩,FQ⟩,.inr ⟨_,FQ⟩,hD0⟩
 generalize up (up H10 g2 (.dic K2)) g (.dic (gk (kO g pp w th lo) ⟨.no,a0,[],[.part D (.cl ⟨t,λ_=>none,a2,[]⟩) a2],ra,[],[],[],0,0,0,D⟩))=H12 at R;obtain⟨oi,ei⟩:=bt (D:=D) ho hv hD0;have ea:ab ⟨.no,a0,[],[.part D (.cl ⟨t,λ_=>none,a2,[]⟩) a2],ra,[],[],[],0,0,0,D⟩ []={Dd t D with w:=D}:=by
  show(⟨.no,D,[],[.part D (pu (λ_=>none) t)],[],[],[],[],0,0,0,.no⟩:St)=_;rw[md];rfl
 refine⟨_,FQ,?_⟩;dsimp only[Zy];refine rJ (n:=57) (U:=[]) R (by rw[ea];exact oi) ⟨FQ,XE _⟩ (λx z=>by cases z) λr C' l' U' R' w' hr' hR' o'=>?_;rw[ea,ei] at hR';have hk:(Jl (Dd t D)).k=0:=(F6 (mu (Dd t D)) (w5 ho hv) (XE _)).2.2;exact nP (Q:=λv _=>v=.bl true) (j:=m.toNat) R' w' hr' hR' o' (by rw[hk];omega) FQ ho hv hm1
end K38
open PySem PySem.W PyProof.Rows
end
namespace PySem.W.Fast
def tw3698442079652116140:=True
def tw14341682131193671007:=True
def tw4273005722877855569:=True
def tw336331716569390248:=True
def tw1793694810728805983:=True
def tw10942284782933962459:=True
def tw11679106518316568782:=True
def tw12821596129966557948:=True
def tw2788767585850777446:=True
def tw15980245341277608036:=True
def tw960955372379462241:=True
def tw235593249607367405:=True
def tw9379809420838795484:=True
def tw7294819528651762257:=True
def tw11953918368268706548:=True
def tw10800712797352642259:=True
def tw3033282503542244874:=True
def tw851299814189681954:=True
def tw12052407249198216244:=True
def tw10510634637884129984:=True
def tw2064565366788941038:=True
def tw18400248811249295471:=True
def tw2269401324228743890:=True
def tw14141930234531215324:=True
def tw17979272011805488585:=True
def tw12709727343669938950:=True
def tw2740777165064156721:=True
def tw12127328694110676303:=True
def tw6608324035903173699:=True
def tw6824182405442086728:=True
def tw610152576840251552:=True
def tw12382786712849019189:=True
def tw10771139438779203198:=True
def tw4182770885114933839:=True
def tw15604725647555430253:=True
def tw13268537081238929593:=True
def tw9523749150675662345:=True
def tw8137797300294342102:=True
def tw11812427179915746950:=True
def tw5742273443882251878:=True
def tw16233299491551944087:=True
def tw18207237340849926904:=True
def tw17290989987161048953:=True
def tw18282864207523202662:=True
def tw11230982654856544845:=True
def tw5728686665653297205:=True
def tw16497332641396175497:=True
def tw17175299454933585053:=True
def tw11831266989643224748:=True
def tw721608110683468788:=True
def tw17006383769098033800:=True
def tw8714954261643760123:=True
def tw226780914505224644:=True
def tw8471485140281760337:=True
def tw4203744725954046012:=True
def tw13691813186294880357:=True
def tw15906335580761983209:=True
def tw14722651672885476132:=True
def tw9858429115295600715:=True
def tw9942587479960747196:=True
def tw6730765523690338607:=True
def tw4291786785765231155:=True
def tw15085420774340100932:=True
def tw3202982453140160819:=True
def tw8539370312061699845:=True
def tw6061699413506159612:=True
def tw8018823716311333496:=True
def tw4932314978659476033:=True
def tw10494244024822929806:=True
def tw13817670892753960873:=True
def tw7668134666595141711:=True
def tw12600324043783230960:=True
def tw16268745805559195495:=True
def tw2916661434092455309:=True
def tw17660300590325010288:=True
def tw14547782154932381064:=True
def tw1559328173312131207:=True
def tw7240555411681630767:=True
def tw11234358457829487757:=True
def tw3519293414579904665:=True
def tw5786320605304426734:=True
def tw186763819589024008:=True
def tw3976384955200751160:=True
def tw4450980078220174310:=True
def tw12543622389609962794:=True
def tw13698058191314326423:=True
def tw8827154779626168265:=True
def tw2210495204891981044:=True
def tw8560474411796771742:=True
def tw3523451200319821729:=True
def tw14626034487082248512:=True
def tw7145825825141763598:=True
def tw425537054613226991:=True
def tw8244319765825755953:=True
def tw11660972470636535334:=True
def tw260462172714992121:=True
def tw8007904754399909906:=True
def tw3497662210175632209:=True
def tw11605843727186670179:=True
def tw14064721572498561912:=True
def tw7162979013397497616:=True
def tw5572112318673927154:=True
def tw15025693013952071156:=True
def tw14455539766774060256:=True
def tw7152858858202135760:=True
def tw5506488157572525765:=True
def tw4902232044884955634:=True
def tw16646763311098521200:=True
def tw17318040758758647118:=True
def tw14966702826775019926:=True
def tw12361392904198098710:=True
def tw8890609039806162568:=True
def tw5221391658049336484:=True
def tw17347893919362419392:=True
def tw18086488524642179650:=True
def tw14886065979281985671:=True
def tw7526976789215731137:=True
def tw5470511906495508122:=True
def tw16006253742085453411:=True
def tw1196127743219327438:=True
def tw356516735142653915:=True
def tw18279328594887031511:=True
def tw12383091702657863160:=True
def tw8949353756695704888:=True
def tw1811510034729035454:=True
def tw4257338516839299938:=True
def tw16933848691348212191:=True
def tw4386361088342814652:=True
def tw5664137578470426343:=True
def tw12329946150192423378:=True
def tw15509352415316348672:=True
def tw7776547766497685526:=True
def tw12326570157654358454:=True
def tw5949457039921657933:=True
def tw17865104430338979714:=True
def tw11129275536057579952:=True
def tw16614376979790920109:=True
def tw5929958395755971383:=True
def tw3237288986030101225:=True
def tw4372916677716682277:=True
def tw15475466824571539101:=True
def tw17367197432665425973:=True
def tw14263198446815578003:=True
def tw13296404284404177275:=True
def tw7104529549488892943:=True
def tw12509659610898020359:=True
def tw10486876636102507045:=True
def tw2761837656105932739:=True
def tw6915800962244884262:=True
def tw14543490855657990404:=True
def tw49151911196500680:=True
def tw11564792535059945534:=True
def tw10893254740741601242:=True
def tw2294544434139381797:=True
def tw14736060555116259990:=True
def tw152741112393017152:=True
def tw4899358741393657159:=True
def tw12672125471812174259:=True
def tw5185853190743263151:=True
def tw16086158030307299684:=True
def tw16854486785407586886:=True
def tw5963844643528235000:=True
def tw12749267670366383832:=True
def tw2039091742962484200:=True
def tw18113338090639678735:=True
def tw16961724559058600696:=True
def tw5307955548602429497:=True
def tw14840905378433640467:=True
def tw2962357182347454790:=True
def tw17923346430816480796:=True
def tw5373753129024546686:=True
def tw14967931394389236141:=True
def tw2567853628916090242:=True
def tw2612980902763369491:=True
def tw15510906644281011117:=True
def tw11751421291953899399:=True
def tw18143605019256785117:=True
def tw13659797106353123724:=True
def tw9510102227123065631:=True
def tw3109880735138469289:=True
def tw16106115894696859626:=True
def tw7478787799080719847:=True
def tw10861141405654283853:=True
def tw7550818775212519355:=True
def tw18100621884662066839:=True
def tw81926984814432537:=True
def tw8373974950356150206:=True
def tw17415164703880186763:=True
def tw3087348706064193866:=True
def tw8335101760856061651:=True
def tw11707040048297122495:=True
def tw16537052320043368461:=True
def tw998982863948943443:=True
def tw17286869374734609201:=True
def tw8380458750592840938:=True
def tw12075038981900177172:=True
def tw9089824734589672412:=True
def tw11647742859634177451:=True
def tw6794819818813964268:=True
def tw5181904135407470913:=True
def tw16433629835793674081:=True
def tw14568953710007986644:=True
def tw15924528719502552841:=True
def tw7467791578754160369:=True
def tw4708684790147773621:=True
def tw16412772122204789537:=True
def tw14020829389453681922:=True
def tw5571851122602359891:=True
def tw4401082469319112349:=True
def tw1716496113895711098:=True
def tw7873497166470990057:=True
def tw16839695543677662381:=True
def tw17805944072494114322:=True
def tw10753521839023961407:=True
def tw5921147316357812698:=True
def tw7988027900795761465:=True
def tw3438451082549903594:=True
def tw8609508665209086327:=True
def tw8768291688481099782:=True
def tw2162514870547538136:=True
def tw15969451913426984930:=True
def tw10530758519246060173:=True
def tw9978220298227366747:=True
def tw6195516967876315671:=True
def tw12414874777022286296:=True
def tw9587656853926822260:=True
def tw1832205256581790436:=True
def tw7111358420925193983:=True
def tw5974182611322486828:=True
def tw17611413010101174637:=True
def tw6050132180561505684:=True
def tw1802354280040404219:=True
def tw9906548780860014923:=True
def tw9104832983582839747:=True
def tw7744167569993575596:=True
def tw9712174931935414919:=True
def tw9839749147573972802:=True
def tw889935911251096949:=True
def tw7779759315224617247:=True
def tw7463142647753035426:=True
def tw2852331611689998856:=True
def tw16646389468636713265:=True
def tw16394775411927025696:=True
def tw8637693711268053818:=True
def tw8840070501192529410:=True
def tw14890690301433648705:=True
def tw18341103733356044096:=True
def tw3408351466702952663:=True
def tw7936004078747825716:=True
def tw9989584224461687321:=True
def tw9958525876226141388:=True
def tw9377773083006435576:=True
def tw9148929104504577633:=True
def tw8918179560761276930:=True
def tw8199902643102356316:=True
def tw8112502334775891127:=True
def tw7752732524530331427:=True
def tw7580375752734547967:=True
def tw7553611740731579180:=True
def tw7285328448243363370:=True
def tw7221433079170631969:=True
def tw7212039013252222000:=True
def tw7053840088224476058:=True
def tw6937234429868195099:=True
def tw6636090926277342158:=True
def tw6618610795040813751:=True
def tw6608202707582028161:=True
def tw6300797555224910362:=True
def tw6244734936956511535:=True
def tw5893882260446788575:=True
def tw5652193866449065333:=True
def tw5600782479723235520:=True
def tw5239909493947122756:=True
def tw5130129548149730438:=True
def tw4847032725924947004:=True
def tw4794942254701354841:=True
def tw4712937266981902142:=True
def tw4177969895038217753:=True
def tw40766411520954675:=True
def tw3947137216592206274:=True
def tw3931693795061536227:=True
def tw3409713521179746117:=True
def tw3028800509447394032:=True
def tw3010507713961452039:=True
def tw2772411718681517663:=True
def tw2613366933998443246:=True
def tw2398504662158342115:=True
def tw2025798951230514496:=True
def tw2012240624998377969:=True
def tw1860045597926105573:=True
def tw1853431817978619118:=True
def tw18426204640497717569:=True
def tw18111395251274854610:=True
def tw18049169123624667890:=True
def tw18036098457588925265:=True
def tw17895645771047465117:=True
def tw17415642557578262829:=True
def tw17359473852487288771:=True
def tw17119085368256624338:=True
def tw170035188306196150:=True
def tw16659922564166419756:=True
def tw1661138702267788951:=True
def tw16536514413509044510:=True
def tw16532142688868533297:=True
def tw16101056904117071132:=True
def tw15633527951891050760:=True
def tw15081399067375610912:=True
def tw14970224812005414663:=True
def tw1456469867904332317:=True
def tw1430917848279696742:=True
def tw14203085364634976166:=True
def tw1411132702989505358:=True
def tw14088366803189536786:=True
def tw13662067513307805601:=True
def tw13643249633814606171:=True
def tw13434486859857081673:=True
def tw13127061843928351806:=True
def tw12368057246584693661:=True
def tw12237331655850483354:=True
def tw12091355576403809340:=True
def tw11993938514927350209:=True
def tw11927061766869196919:=True
def tw11926712966355521222:=True
def tw11904581798264714480:=True
def tw11548163862519713314:=True
def tw11393651850765333103:=True
def tw1118442676735420904:=True
def tw11175400542720289349:=True
def tw11101455895128142180:=True
def tw10601018277286283354:=True
end PySem.W.Fast
def PySem.W.Fast.tw11183689088937053332:PySem.Program:=DP
def PySem.W.Fast.te11183689088937053332:DP=PySem.W.Fast.tw11183689088937053332:=rfl
set_option tactic.hygienic true
set_option maxRecDepth 100000 in
set_option maxHeartbeats 0 in
theorem PySem.Challenge.cw_idlegraph_k38_whole_by_names_holds : PySem.Challenge.rw_idlegraph_k38_whole_by_names.Holds := by
 w_on;o_law;k_head;(case hw=>w_witness2)
 k_fill
 refine L2.walk_ofK (l:=PySem.Challenge.rw_idlegraph_k38_whole_by_names) (n:=63) (k:=60) (x:="_law_script") (CX:=L2.CX0) (sp:=λK=>WL.spW K K38.pr 60 60) rfl (by decide) rfl ⟨rfl,by decide,by decide⟩ (λw h Y=>PySem.W.kIn_of Y) ?F (λK H a ns hl hO hS=>WL.law_sp hO hS (K38.law_true ns hl)) (λ_ _ _ _ z=>z)
 case F=>
  intro w mg fa h KX G hmg
  refine' K38.all_mk KX G hmg ?Qa ?Qb ?Qc ?Qd ?Qe ?Qf ?Qg ?Qh ?Qi ?Qj ?Qk ?Ql ?Qm ?Qn ?Qo ?Qp ?Qq ?Qr ?Qs ?Qt ?Qu ?Qv ?Qw ?Qx ?Qy ?Qz ?Q0 ?Q1 ?Q2 ?Q3 ?Q4 ?Q5 ?Q6 ?Q7 ?Q8 ?Q9 ?Ra ?Rb ?Rc ?Rd ?Re ?Rf ?Rg ?Rh ?Ri ?Rj ?Rk ?Rl ?Rm ?Rn ?Ro ?Rp ?Rq ?Rr ?Rs ?Rt ?Ru ?Rv ?Rw ?Rx ?Ry ?Rz ?R0 ?R1 ?R2 ?R3 ?R4 ?R5 ?R6 ?R7 ?R8 ?R9 ?Sa ?Sb ?Sc ?Sd ?Se ?Sf ?Sg ?Sh ?Si ?Sj ?Sk ?Sl ?Sm ?Sn ?So ?Sp ?Sq ?Sr ?Ss ?Su ?Sv ?Sw ?Sx ?Sy ?Sz ?S0 ?S1 ?S2
  case Qa|Qb|Qc|Qd|Qe|Qf|Qg|Qh|Qi|Qj|Qk|Ql|Qm|Qn|Qo|Qp|Qq|Qr|Qs|Rt|Ru|Rv|Rw|Rx|Sm|Sn|So|Sp|Sq|Sr|Ss|Su|Sv|Sw|Sx|Sy=>k_is
  case Qt|Qu|Qv|Qw|Qx|Qy|Qz|Q0|Q1|Q2|Q3|Q4|Q5|Q6|Q7|Rs|Ry|Rz|R0|R1|R2|R3|R4|R5|R6|R7|R8|R9|Sa|Sb|Sc|Sd|Se|Sf|Sg|Sh|Si|Sj|Sk|Sl=>exact⟨_,_,by k_is,⟨_,_,_,_,_,_,_,_,_,rfl,by k_is,by k_is⟩,by k_is⟩
  case Q8|Q9|Ra|Rb|Rc|Rd|Re|Rf|Rg|Rh|Ri|Rj|Rk|Rl|Rm|Rn|Ro|Rp|Rq|Rr=>exact⟨_,_,⟨by k_is,by k_is,by k_is⟩,⟨_,_,_,_,_,_,_,_,_,rfl,by k_is,by k_is⟩,by k_is⟩
  case S0|S2|S1|Sz=>k_is
