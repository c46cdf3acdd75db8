import PyProof.Rows.All
import Wide.All
import OpenK.AllK
import Wide.FinOn
import Lean
import PyProof.EqAt
import PyProof.EqKinds
import PyProof.TupleCall
import KE.KRevIter
import KE.KDictList
import PyProof.StrReplace2
import PyProof.StrCalls6
import PyProof.StrBlockL
import PyProof.ZipIter
import PyProof.Draws
import PyProof.DictWalks
import PyProof.StrBlockH
import KE.KIntText
import KE.IntTextLaws
import OpenK.KTop
import KE.IntTextText
import PyProof.Rows.StrIntSpec
import PySem.Challenge.RW_idlegraph_k17_shown_and_read
set_option Elab.async false
set_option linter.all false
set_option maxRecDepth 100000
namespace L2
open PySem PySem.Spec PyProof.Rows
abbrev Key := Sum Int Str
def keyIs : Key → Value → Bool
  | .inl k, v => Value.isInt k v
  | .inr x, v => Value.isStrOf x v
def keyH (w : World) : Key → Int
  | .inl k => hashInt k
  | .inr x => hashStr w x
theorem keyIs_shape : ∀ {k : Key} {v : Value}, keyIs k v = true → (∃ i t, k = Sum.inl i ∧ v = Value.int i t) ∨ (∃ x t, k = Sum.inr x ∧ v = Value.str x t)
  | .inl i, v, h => by
    obtain ⟨t, e⟩ := Value.isInt_shape (k := i) (v := v) h
    exact .inl ⟨i, t, rfl, e⟩
  | .inr x, v, h => by
    obtain ⟨t, e⟩ := Value.isStrOf_shape (x := x) (v := v) h
    exact .inr ⟨x, t, rfl, e⟩
theorem key_ll (a b : Int) : decide ((Sum.inl a : Key) = Sum.inl b) = (a == b) := by
  by_cases e : a = b
  · subst e; simp
  · have h : ¬ (Sum.inl a : Key) = Sum.inl b := fun q => e (Sum.inl.inj q)
    rw [decide_eq_false h]
    exact (beq_eq_false_iff_ne.mpr e).symm
theorem key_rr (a b : Str) : decide ((Sum.inr a : Key) = Sum.inr b) = decide (a = b) := by
  by_cases e : a = b
  · subst e; simp
  · have h : ¬ (Sum.inr a : Key) = Sum.inr b := fun q => e (Sum.inr.inj q)
    rw [decide_eq_false h, decide_eq_false e]
theorem key_lr (a : Int) (b : Str) : decide ((Sum.inl a : Key) = Sum.inr b) = false := decide_eq_false (fun q => nomatch q)
theorem key_rl (a : Str) (b : Int) : decide ((Sum.inr a : Key) = Sum.inl b) = false := decide_eq_false (fun q => nomatch q)
def mixKind (prog : Program) (w : World) : PySem.KeyKind prog w Key where
  is := keyIs
  hash := keyH w
  inj := fun v a b ha hb => by
    rcases keyIs_shape ha with ⟨i, t, rfl, rfl⟩ | ⟨x, t, rfl, rfl⟩
    · rcases keyIs_shape hb with ⟨j, u, rfl, e⟩ | ⟨y, u, rfl, e⟩
      · injection e with e1 _; rw [e1]
      · exact nomatch e
    · rcases keyIs_shape hb with ⟨j, u, rfl, e⟩ | ⟨y, u, rfl, e⟩
      · exact nomatch e
      · injection e with e1 _; rw [e1]
  byValue := fun k v h => by
    rcases keyIs_shape h with ⟨i, t, rfl, rfl⟩ | ⟨x, t, rfl, rfl⟩ <;> rfl
  pyHash := fun hv h => by
    rcases keyIs_shape hv with ⟨i, t, rfl, rfl⟩ | ⟨x, t, rfl, rfl⟩
    · exact wpAny_pyHash_int h
    · exact wpAny_pyHash_str h
  eqBool := fun hu hv h => by
    rcases keyIs_shape hu with ⟨i, t, rfl, rfl⟩ | ⟨x, t, rfl, rfl⟩
    · rcases keyIs_shape hv with ⟨j, u, rfl, rfl⟩ | ⟨y, u, rfl, rfl⟩
      · rw [key_ll] at h; exact wpAny_eqBool_int h
      · rw [key_lr] at h; exact SeqAt.EqAt.int_str i t y u _ _ _ _ h
    · rcases keyIs_shape hv with ⟨j, u, rfl, rfl⟩ | ⟨y, u, rfl, rfl⟩
      · rw [key_rl] at h; exact SeqAt.EqAt.str_int x t j u _ _ _ _ h
      · rw [key_rr] at h; exact wpAny_eqBool_str h
  «strs» := fun k x t v h => by
    rcases keyIs_shape h with ⟨i, u, rfl, e⟩ | ⟨y, u, rfl, e⟩
    · exact nomatch e
    · injection e with e1 _
      subst e1
      cases v <;> rfl
end L2
namespace L2
open PySem PySem.Spec PyProof.Rows
inductive V where
  | non | bl (b : Bool) | int (i : Int) | str (x : Str) | byt (b : Array UInt8) | flt (b : UInt64) | ref (a : Addr) | ty (n : String)
  deriving DecidableEq
def RelV : V → Value → Prop
  | .non, u => u = Value.none
  | .bl b, u => u = Value.bool b
  | .int i, u => ∃ t, u = Value.int i t
  | .str x, u => ∃ t, u = Value.str x t
  | .byt b, u => ∃ t, u = Value.bytes b t
  | .flt b, u => ∃ t, u = Value.float b t
  | .ref a, u => u = Value.ref a
  | .ty n, u => u = Value.type n
abbrev Vals : List V → List Value → Prop := Paired RelV
theorem Vals.length {xs : List V} {us : List Value} (r : Vals xs us) : xs.length = us.length := Paired.length r
theorem Vals.get : ∀ {xs : List V} {us : List Value} {i : Nat} {x : V}, Vals xs us → xs[i]? = some x → ∃ u, us[i]? = some u ∧ RelV x u
  | _, _, _, _, .nil, e => by simp at e
  | _, _, 0, _, .cons r _, e => by simp at e; subst e; exact ⟨_, rfl, r⟩
  | _, _, i + 1, x, .cons _ t, e => by
    obtain ⟨u, h1, h2⟩ := Vals.get (i := i) (x := x) t (by simpa using e)
    exact ⟨u, by simpa using h1, h2⟩
theorem Vals.append : ∀ {xs ys : List V} {us ws : List Value}, Vals xs us → Vals ys ws → Vals (xs ++ ys) (us ++ ws)
  | _, _, _, _, .nil, s => s
  | _, _, _, _, .cons r t, s => .cons r (Vals.append t s)
theorem Vals.take : ∀ {xs : List V} {us : List Value} (n : Nat), Vals xs us → Vals (xs.take n) (us.take n)
  | _, _, 0, _ => .nil
  | _, _, _ + 1, .nil => .nil
  | _, _, n + 1, .cons r t => .cons r (Vals.take n t)
theorem Vals.drop : ∀ {xs : List V} {us : List Value} (n : Nat), Vals xs us → Vals (xs.drop n) (us.drop n)
  | _, _, 0, r => r
  | _, _, _ + 1, .nil => .nil
  | _, _, n + 1, .cons _ t => Vals.drop n t
def RelO : Option V → Option Value → Prop
  | some v, some u => RelV v u
  | none, none => True
  | _, _ => False
def KV {κ : Type} : List (κ × V) → List (κ × Value) → Prop := Paired fun (p : κ × V) (q : κ × Value) => p.1 = q.1 ∧ RelV p.2 q.2
def kV : Key → V
  | .inl i => .int i
  | .inr x => .str x
inductive HO where
    | lst (xs : List V)
    | tup (xs : List V)
    | dK (kvs : List (Key × V)) | dT (kvs : List (List Key × V))
    | set (S : Int → Bool) (n : Nat)
    | ins (C dx : Addr) (fs : List (Str × V))
    | own (x : Addr)
    | xd (fs : List (Str × V))
    | met (f x : Addr)
    | rng (lo hi : Int)
    | frz (o : Obj) (u : HO)
    | tbl (ps : Array Value)
    | ext (φ : Heap → Prop)
abbrev Hp := Addr → Option HO
def upd (H : Hp) (a : Addr) (o : HO) : Hp := fun b => if b = a then some o else H b
theorem upd_same {H : Hp} {a : Addr} {o : HO} : upd H a o a = some o := by unfold upd; rw [if_pos rfl]
theorem upd_ne {H : Hp} {a b : Addr} {o : HO} (h : b ≠ a) : upd H a o b = H b := by unfold upd; rw [if_neg h]
theorem ne_of_none {H : Hp} {a b : Addr} {o : HO} (h : H a = some o) (h' : H b = none) : a ≠ b := by
  intro e; subst e; rw [h] at h'; cases h'
section
variable (P : Program) (w : World)
def ObjOk (H : Hp) (h : Heap) (a : Addr) : HO → Prop
  | .lst xs => xs.length ≤ sizeLine ∧ ∃ (its : List Value) (n : Nat), Vals xs its ∧ h.get? a = some { cls := .type "list", data := .seq its.toArray n }
  | .tup xs => xs.length ≤ sizeLine ∧ ∃ its : List Value, Vals xs its ∧ IsTup h a its.toArray
  | .dK kvs => kvs.length ≤ sizeLine ∧ (a == sysModules) = false ∧ ∃ vs, KV kvs vs ∧ h.DictOf (mixKind P w) a vs
  | .dT kvs => kvs.length ≤ sizeLine ∧ (a == sysModules) = false ∧ ∃ xs : List (List Key × Addr × Value),
      Paired (fun (p : List Key × V) (q : List Key × Addr × Value) => p.1 = q.1 ∧ H q.2.1 = some (.tup (p.1.map kV)) ∧ RelV p.2 q.2.2) kvs xs ∧
      ∃ o es ep, h.get? a = some o ∧ o.ExactDict ∧ o.data = .dict es ep ∧ es.toList = xs.map (entryOfKey (tupleKind (mixKind P w))) ∧ (xs.map (·.1)).Nodup
  | .set S n => h.SetOf (intKind P w) a S n
  | .ins C dx fs => H dx = some (.own a) ∧ fs.length ≤ 1000 ∧ dx ≠ a ∧ h.get? a = some (PySem.W.instObj C dx) ∧
      ∃ mA, h.Ns1 dx mA ∧ (∀ f, RelO (fs.lookup f) (mA f)) ∧ PySem.Within mA (fs.map (·.1))
  | .own _ => ∃ o, h.get? a = some o
  | .xd fs => ∃ mA, h.Ns1 a mA ∧ ∀ f, RelO (fs.lookup f) (mA f)
  | .rng lo hi => ∃ t u v, h.get? a = some { cls := .type "range", data := .fields #[.int lo t, .int hi u, .int 1 v] }
  | .frz o u => h.get? a = some o ∧ ObjOk H h a u
  | .tbl ps => h.get? a = some { cls := .none, data := .fields ps }
  | .met f x => h.get? a = some (PySem.W.methodObj (.ref f) (.ref x))
  | .ext φ => φ h ∧ (∃ o, h.get? a = some o) ∧ ∀ h1 h2 : Heap, φ h1 → (∀ o, h1.get? a = some o → h2.get? a = some o) → φ h2
def HOk (H : Hp) (h : Heap) : Prop := ∀ a o, H a = some o → ObjOk P w H h a o
end
section
variable {P : Program} {w : World} {H H' : Hp} {h h' : Heap} {a : Addr} {o : HO}
theorem ObjOk.lt (x : ObjOk P w H h a o) : a < h.objs.size := by
  cases o with
  | lst xs => obtain ⟨_, _, _, _, e⟩ := x; exact Heap.lt_size e
  | tup xs => obtain ⟨_, _, _, p⟩ := x; exact p.lt
  | dK kvs => obtain ⟨_, _, _, _, o, _, _, e, _⟩ := x; exact Heap.lt_size e
  | dT kvs => obtain ⟨_, _, _, _, o, _, _, e, _⟩ := x; exact Heap.lt_size e
  | set S n => obtain ⟨o, _, _, _, e, _⟩ := x; exact Heap.lt_size e
  | ins C dx fs => obtain ⟨_, _, _, e, _⟩ := x; exact Heap.lt_size e
  | own y => obtain ⟨_, e⟩ := x; exact Heap.lt_size e
  | xd fs => obtain ⟨_, ⟨_, _, _, e, _⟩, _⟩ := x; exact Heap.lt_size e
  | rng lo hi => obtain ⟨_, _, _, e⟩ := x; exact Heap.lt_size e
  | frz ob u => obtain ⟨e, _⟩ := x; exact Heap.lt_size e
  | tbl ps => exact Heap.lt_size (show h.get? a = some _ from x)
  | met f y => exact Heap.lt_size (show h.get? a = some _ from x)
  | ext φ => obtain ⟨_, ⟨_, e⟩, _⟩ := x; exact Heap.lt_size e
theorem Paired.mapP {α β : Type} {F G : α → β → Prop} : ∀ {l₁ : List α} {l₂ : List β}, Paired F l₁ l₂ → (∀ a b, F a b → G a b) → Paired G l₁ l₂
  | _, _, .nil, _ => .nil
  | _, _, .cons r t, f => .cons (f _ _ r) (Paired.mapP t f)
theorem ObjOk.stay (x : ObjOk P w H h a o) (k : ∀ b u, (b = a ∨ H b = some (.own a)) → h.get? b = some u → h'.get? b = some u)
    (ho : ∀ b, H b = some (.own a) → H' b = some (.own a)) (ht : ∀ b xs, H b = some (.tup xs) → H' b = some (.tup xs)) : ObjOk P w H' h' a o := by
  induction o with
  | lst xs => obtain ⟨z, its, n, r, e⟩ := x; exact ⟨z, its, n, r, k _ _ (.inl rfl) e⟩
  | tup xs => obtain ⟨z, its, r, ob, e, c⟩ := x; exact ⟨z, its, r, ob, k _ _ (.inl rfl) e, c⟩
  | dK kvs => obtain ⟨z, y, vs, r, ob, es, ep, e, c⟩ := x; exact ⟨z, y, vs, r, ob, es, ep, k _ _ (.inl rfl) e, c⟩
  | dT kvs =>
    obtain ⟨z, y, xs, r, ob, es, ep, e, c⟩ := x
    exact ⟨z, y, xs, Paired.mapP r fun p q z => ⟨z.1, ht _ _ z.2.1, z.2.2⟩, ob, es, ep, k _ _ (.inl rfl) e, c⟩
  | set S n => obtain ⟨ob, es, ep, t, e, c⟩ := x; exact ⟨ob, es, ep, t, k _ _ (.inl rfl) e, c⟩
  | ins C dx fs =>
    obtain ⟨d, z, ne, e, mA, ⟨od, es, ep, e2, c⟩, r⟩ := x
    exact ⟨ho _ d, z, ne, k _ _ (.inl rfl) e, mA, ⟨od, es, ep, k _ _ (.inr d) e2, c⟩, r⟩
  | own y => obtain ⟨ob, e⟩ := x; exact ⟨ob, k _ _ (.inl rfl) e⟩
  | xd fs => obtain ⟨mA, ⟨od, es, ep, e, c⟩, r⟩ := x; exact ⟨mA, ⟨od, es, ep, k _ _ (.inl rfl) e, c⟩, r⟩
  | rng lo hi => obtain ⟨t, u, v, e⟩ := x; exact ⟨t, u, v, k _ _ (.inl rfl) e⟩
  | frz ob u ih => obtain ⟨e, q⟩ := x; exact ⟨k _ _ (.inl rfl) e, ih q⟩
  | tbl ps =>
    have e : h.get? a = some { cls := .none, data := .fields ps } := x
    show h'.get? a = some { cls := .none, data := .fields ps }
    exact k a _ (.inl rfl) e
  | met f y =>
    have e : h.get? a = some (PySem.W.methodObj (.ref f) (.ref y)) := x
    show h'.get? a = some (PySem.W.methodObj (.ref f) (.ref y))
    exact k a _ (.inl rfl) e
  | ext φ => obtain ⟨p, ⟨o, e⟩, st⟩ := x; exact ⟨st _ _ p fun o q => k _ _ (.inl rfl) q, ⟨o, k _ _ (.inl rfl) e⟩, st⟩
theorem HOk.lt (x : HOk P w H h) (e : H a = some o) : a < h.objs.size := (x a o e).lt
theorem HOk.fresh (x : HOk P w H h) (e : h.objs.size ≤ a) : H a = none := by
  cases q : H a with
  | none => rfl
  | some u => exact absurd (Nat.lt_of_lt_of_le (x.lt q) e) (Nat.lt_irrefl _)
theorem HOk.kept (x : HOk P w H h) (k : ∀ b u, h.get? b = some u → h'.get? b = some u) : HOk P w H h' := fun a o e =>
  (x a o e).stay (fun b u _ q => k b u q) (fun _ q => q) fun _ _ q => q
theorem HOk.laid (x : HOk P w H h) (k : ∀ b u, h.get? b = some u → h'.get? b = some u) (hp : h.objs.size ≤ a) (new : ObjOk P w (upd H a o) h' a o) : HOk P w (upd H a o) h' := fun b u e => by
  have hn := x.fresh hp
  by_cases hb : b = a
  · subst hb; rw [upd_same] at e; cases e; exact new
  · rw [upd_ne hb] at e
    exact (x b u e).stay (fun c v _ q => k c v q) (fun c q => by rw [upd_ne (ne_of_none q hn)]; exact q) fun c xs q => by rw [upd_ne (ne_of_none q hn)]; exact q
end
def Rd (H : Hp) (a : Addr) (u : HO) : Prop := H a = some u ∨ ∃ o, H a = some (.frz o u)
theorem Rd.ok {P : Program} {w : World} {H : Hp} {h : Heap} {a : Addr} {u : HO} (r : Rd H a u) (x : HOk P w H h) : ObjOk P w H h a u := by
  rcases r with r | ⟨o, r⟩
  · exact x a u r
  · obtain ⟨_, q⟩ := x a _ r
    exact q
def Mut : Option HO → Prop
  | some (.lst _) => True
  | some (.dK _) => True
  | some (.dT _) => True
  | some (.set _ _) => True
  | some (.ins _ _ _) => True
  | some (.ext _) => True
  | _ => False
section
variable {P : Program} {w : World} {H : Hp} {h h' : Heap} {x e : Addr} {o' : HO}
theorem HOk.write (ok : HOk P w H h) (mu : Mut (H x)) (he : e = x ∨ H e = some (.own x)) (k : ∀ b u, b ≠ e → h.get? b = some u → h'.get? b = some u) (heo : ∃ u, h'.get? e = some u)
    (new : ObjOk P w (upd H x o') h' x o') : HOk P w (upd H x o') h' := fun b u q => by
  have nown : ∀ c y, H c = some (.own y) → c ≠ x := fun c y r z => by subst z; rw [r] at mu; exact mu
  have ntup : ∀ c xs, H c = some (.tup xs) → c ≠ x := fun c xs r z => by subst z; rw [r] at mu; exact mu
  by_cases hb : b = x
  · subst hb; rw [upd_same] at q; cases q; exact new
  · rw [upd_ne hb] at q
    by_cases hbe : b = e
    · have q' : H b = some (.own x) := by
        rcases he with z | z
        · exact absurd (hbe.trans z) hb
        · rw [hbe]; exact z
      rw [q] at q'; cases q'
      obtain ⟨v, hv⟩ := heo
      exact ⟨v, by rw [hbe]; exact hv⟩
    · refine (ok b u q).stay (fun c v hc r => k c v ?_ r) (fun c r => by rw [upd_ne (nown c b r)]; exact r) fun c xs r => by rw [upd_ne (ntup c xs r)]; exact r
      rcases hc with rfl | hc
      · exact hbe
      · rintro rfl
        rcases he with z | z
        · exact nown c b hc z
        · rw [hc] at z; cases z; exact hb rfl
end
structure Un (fs ex : List Addr) (H H' : Hp) (h h' : Heap) : Prop where
  keep : ∀ b o, h.get? b = some o → H b = none → b ∉ fs → b ∉ ex → h'.get? b = some o
  slot : ∀ b o, h.get? b = some o → H b = none → b ∈ fs → b ∉ ex → ∃ sl, h'.get? b = some { o with slots := sl }
  free : ∀ b o, h.get? b = some o → H b = none → b ∉ ex → H' b = none
  there : ∀ b o, h.get? b = some o → b ∉ ex → ∃ o', h'.get? b = some o'
  tups : ∀ b xs, H b = some (.tup xs) → H' b = some (.tup xs)
  frzs : ∀ b o u, H b = some (.frz o u) → H' b = some (.frz o u)
  tbls : ∀ b ps, H b = some (.tbl ps) → ∃ more, H' b = some (.tbl (ps ++ more))
section
variable {fs fs' ex ex' : List Addr} {H H1 H2 : Hp} {h h1 h2 h' : Heap} {a x e : Addr} {o : HO}
theorem Un.any (u : Un fs ex H H1 h h1) {b : Addr} {ob : Obj} (q : h.get? b = some ob) (n : H b = none) (hx : b ∉ ex) : ∃ sl, h1.get? b = some { ob with slots := sl } := by
  by_cases hb : b ∈ fs
  · exact u.slot b ob q n hb hx
  · exact ⟨ob.slots, u.keep b ob q n hb hx⟩
theorem Un.kept (k : ∀ b u, h.get? b = some u → h'.get? b = some u) : Un fs ex H H h h' :=
  ⟨fun b ob q _ _ _ => k b ob q, fun b ob q _ _ _ => ⟨ob.slots, k b ob q⟩, fun _ _ _ n _ => n, fun b ob q _ => ⟨ob, k b ob q⟩, fun _ _ q => q, fun _ _ _ q => q, fun _ ps q => ⟨#[], by rw [q]; simp⟩⟩
theorem Un.refl : Un fs ex H H h h := Un.kept fun _ _ q => q
theorem Un.laid (k : ∀ b u, h.get? b = some u → h'.get? b = some u) (hp : h.objs.size ≤ a) (hn : H a = none) : Un fs ex H (upd H a o) h h' where
  keep := fun b u q _ _ _ => k b u q
  slot := fun b u q _ _ _ => ⟨u.slots, k b u q⟩
  free := fun b u q n _ => by rw [upd_ne (Nat.ne_of_lt (Nat.lt_of_lt_of_le (Heap.lt_size q) hp))]; exact n
  there := fun b u q _ => ⟨u, k b u q⟩
  tups := fun b xs q => by rw [upd_ne (ne_of_none q hn)]; exact q
  frzs := fun b u xs q => by rw [upd_ne (ne_of_none q hn)]; exact q
  tbls := fun b ps q => ⟨#[], by rw [upd_ne (ne_of_none q hn), q]; simp⟩
theorem Un.write (mu : Mut (H x)) (he : e = x ∨ H e = some (.own x)) (k : ∀ b u, b ≠ e → h.get? b = some u → h'.get? b = some u) (heo : ∃ u, h'.get? e = some u) : Un fs ex H (upd H x o) h h' := by
  have hx : ∀ b, H b = none → b ≠ x := fun b n z => by subst z; rw [n] at mu; exact mu
  have hb : ∀ b, H b = none → b ≠ e := fun b n z => by
    subst z
    rcases he with r | r
    · exact hx b n r
    · rw [n] at r; cases r
  have hm : ∀ b u, H b = some u → ¬ Mut (some u) → b ≠ x := fun b u q nm z => by subst z; rw [q] at mu; exact nm mu
  refine ⟨fun b u q n _ _ => k b u (hb b n) q, fun b u q n _ _ => ⟨u.slots, k b u (hb b n) q⟩, fun b u q n _ => by rw [upd_ne (hx b n)]; exact n, fun b u q _ => ?_,
    fun b xs q => by rw [upd_ne (hm b _ q fun z => z)]; exact q, fun b u xs q => by rw [upd_ne (hm b _ q fun z => z)]; exact q, fun b ps q => ⟨#[], by rw [upd_ne (hm b _ q fun z => z), q]; simp⟩⟩
  by_cases hbe : b = e
  · subst hbe; exact heo
  · exact ⟨u, k b u hbe q⟩
end
def trk (h : Heap) (H : Hp) : List Addr := (List.range h.objs.size).filter fun a => (H a).isSome
def hidT (h : Heap) (H : Hp) : Heap := PySem.W.hideAll h (trk h H)
theorem hidT_size (h : Heap) (H : Hp) : (hidT h H).objs.size = h.objs.size := PySem.W.hideAll_size _ _
theorem hidT_get {h : Heap} {H : Hp} {b : Addr} {o : Obj} (e : h.get? b = some o) (n : H b = none) : (hidT h H).get? b = some o :=
  PySem.W.hideAll_get _ e fun hm => by
    have q : (H b).isSome = true := (List.mem_filter.mp hm).2
    rw [n] at q; simp at q
theorem of_hidT {h : Heap} {H : Hp} {b : Addr} {o : Obj} (e : (hidT h H).get? b = some o) : h.get? b = some o ∧ H b = none := by
  have e' : h.get? b = some o := PySem.W.of_hideAll (trk h H) e
  refine ⟨e', ?_⟩
  cases q : H b with
  | none => rfl
  | some x =>
    have hm : b ∈ trk h H := List.mem_filter.mpr ⟨List.mem_range.mpr (Heap.lt_size e'), by simp [q]⟩
    have z : (hidT h H).get? b = none := PySem.W.hideAll_none (trk h H) hm
    rw [z] at e; cases e
def allNews (g h : Heap) (L : Addr) : List (Addr × Obj) := (List.range h.objs.size).filterMap fun a => if a = L ∨ (g.get? a).isSome = true then none else (h.get? a).map fun o => (a, o)
def rest (g h : Heap) (L d : Addr) : List (Addr × Obj) := (allNews g h L).filter fun p => decide (p.1 ≠ d)
end L2
namespace L2
open PySem PySem.Spec PyProof.Rows
structure Mod (K : PySem.W.Frag) (mg : Str → Option Value) (base : Heap) : Prop where
  kin : K.In base
  glob : base.Ns mainGlobals mg
  blt : ∃ mb, base.Ns builtinsNs mb ∧ ∀ x : Str, x ≠ "__name__" → mb x = bootBuiltins x
  nolimit : base.NoLimit
structure Cx where
  prog : Program
  w : World
  K : PySem.W.Frag
  mg : Str → Option Value
  base : Heap
  A : Around
  N : List Str
  s₀ : Shared
  H₀ : Hp
  env : Env
  outer : List Env
  stack : List Env
  ex : List Addr
  fn : Str → Bool
  calm : Bool
  pn : List (Addr × Obj)
  xe : Value → Shared → Prop
def frs (l : List Env) : List Addr := l.filterMap (·.frame)
abbrev Cx.fs (X : Cx) : List Addr := frs X.outer
def Vis (sc : Scope) (x : Str) : Prop := sc.names.lookup x = some .local ∨ sc.names.lookup x = some .cell ∨ sc.names.lookup x = some .free
def Loc (sc : Scope) (x : Str) : Prop := sc.names.lookup x = some .local ∨ sc.names.lookup x = some .cell
def Look (env : Env) (h : Heap) (m : Str → Option Value) (x : Str) (u : Value) : Prop :=
  (env.kindOf x = some .local ∧ m x = some u) ∨ ((env.kindOf x = some .cell ∨ env.kindOf x = some .free) ∧ ∃ c, env.cells.lookup x = some c ∧ h.IsCell c (some u))
structure Cx.Ok (X : Cx) : Prop where
  mod : Mod X.K X.mg X.base
  kind : X.env.scope.kind = .function
  glob : X.env.globals = mainGlobals
  blt : X.env.builtins = builtinsNs
  above : X.s₀.heap.objs.size ≤ X.env.locals
  inj : ∀ x y c, X.env.cells.lookup x = some c → X.env.cells.lookup y = some c → x = y
  has : ∀ x, (X.env.kindOf x = some .cell ∨ X.env.kindOf x = some .free) → ∃ c, X.env.cells.lookup x = some c
  cab : ∀ x c, X.fn x = true → X.env.cells.lookup x = some c → X.s₀.heap.objs.size ≤ c
  hd : X.calm = true → X.A.handled = none
  frames : X.A.frames = some X.stack
  stk : X.stack = X.outer ∨ (X.stack = X.env :: X.outer ∧ X.env.frame = some X.env.locals)
  exf : ∀ b ∈ X.ex, b ≠ X.env.locals ∧ ∀ x c, X.env.cells.lookup x = some c → c ≠ b
  bs : ∀ b o, X.base.get? b = some o → X.s₀.heap.get? b = some o ∧ X.H₀ b = none
  bsz : X.base.objs.size ≤ X.s₀.heap.objs.size
  noex : ∀ b o, X.base.get? b = some o → b ∉ X.ex
  exfs : ∀ b ∈ X.ex, b ∉ X.fs
  funs : X.s₀.heap.FunFrames X.base X.outer
  frf : ∀ b ∈ X.fs, X.H₀ b = none
structure Inv (X : Cx) (pins : List (Addr × Obj)) (σ : List (Option V)) (H : Hp) (s : Shared) : Prop where
  ok : X.Ok
  os : s.os = X.s₀.os
  bare : AllBare s.gens
  base : Un X.fs X.ex X.H₀ H X.s₀.heap s.heap
  loc : ∃ m, s.heap.Ns X.env.locals m ∧ ∀ (i : Nat) (x : Str) (v : V), X.N[i]? = some x → σ[i]? = some (some v) → Vis X.env.scope x → ∃ u, RelV v u ∧ Look X.env s.heap m x u
  cell : ∀ x c, X.env.cells.lookup x = some c → ∃ v, s.heap.IsCell c v
  free : H X.env.locals = none
  freeC : ∀ x c, X.env.cells.lookup x = some c → H c = none
  pin : ∀ p ∈ X.pn ++ pins, s.heap.get? p.1 = some p.2 ∧ H p.1 = none ∧ p.1 ≠ X.env.locals ∧ p.1 ∉ X.fs ∧ ∀ v, p.2.data ≠ .cell v
  hok : HOk X.prog X.w H s.heap
  len : σ.length = X.N.length
section
variable {X : Cx} {pins : List (Addr × Obj)} {σ : List (Option V)} {H H' : Hp} {s : Shared} {h' : Heap}
theorem Cx.Ok.nofr (ok : X.Ok) {b : Addr} {o : Obj} (e : X.base.get? b = some o) : b ∉ X.fs := fun hb => by
  have := (ok.funs.mem hb).1
  rw [e] at this; cases this
theorem Inv.bs (I : Inv X pins σ H s) : ∀ b o, X.base.get? b = some o → s.heap.get? b = some o ∧ H b = none := fun b o e =>
  ⟨I.base.keep b o (I.ok.bs b o e).1 (I.ok.bs b o e).2 (I.ok.nofr e) (I.ok.noex b o e), I.base.free b o (I.ok.bs b o e).1 (I.ok.bs b o e).2 (I.ok.noex b o e)⟩
theorem Inv.bk (I : Inv X pins σ H s) : ∀ b o, X.base.get? b = some o → s.heap.get? b = some o := fun b o e => (I.bs b o e).1
theorem Inv.mod (I : Inv X pins σ H s) : Mod X.K X.mg X.base := I.ok.mod
theorem Inv.kIn (I : Inv X pins σ H s) : X.K.In s.heap := I.ok.mod.kin.keeps I.bk
theorem Inv.lt (I : Inv X pins σ H s) : X.env.locals < s.heap.objs.size := let ⟨_, hn, _⟩ := I.loc; hn.lt
theorem Inv.sz (I : Inv X pins σ H s) : X.s₀.heap.objs.size ≤ s.heap.objs.size := Nat.le_trans I.ok.above (Nat.le_of_lt I.lt)
theorem Inv.nofs (I : Inv X pins σ H s) {a : Addr} (h : s.heap.objs.size ≤ a) : a ∉ X.fs := fun hb => by
  obtain ⟨_, o, ho, _⟩ := I.ok.funs.mem hb
  exact absurd (Nat.lt_of_lt_of_le (Heap.lt_size ho) (Nat.le_trans I.sz h)) (Nat.lt_irrefl _)
theorem Inv.cne (I : Inv X pins σ H s) : ∀ x c, X.env.cells.lookup x = some c → c ≠ X.env.locals := fun x c e z => by
  obtain ⟨v, o, ho, hd⟩ := I.cell x c e
  obtain ⟨m, ⟨o', es, ep, ho', hd', _⟩, _⟩ := I.loc
  rw [z, ho'] at ho; cases ho; rw [hd'] at hd; cases hd
theorem Inv.funs (I : Inv X pins σ H s) : s.heap.FunFrames X.base X.outer := by
  have all : ∀ (l : List Env), (∀ b ∈ frs l, b ∈ X.fs) → X.s₀.heap.FunFrames X.base l → s.heap.FunFrames X.base l := by
    intro l
    induction l with
    | nil => intro _ _; trivial
    | cons env r ih =>
      intro hs hl
      obtain ⟨hk, ⟨L, o, hf, hn, ho, hd⟩, hr⟩ := hl
      have hL : L ∈ X.fs := hs L (by unfold frs; rw [List.filterMap_cons, hf]; exact List.mem_cons_self)
      obtain ⟨sl, e⟩ := I.base.slot L o ho (I.ok.frf L hL) hL fun z => I.ok.exfs L z hL
      exact ⟨hk, ⟨L, _, hf, hn, e, hd⟩, ih (fun b hb => hs b (by unfold frs; rw [List.filterMap_cons, hf]; exact List.mem_cons_of_mem _ hb)) hr⟩
  exact all X.outer (fun _ hb => hb) I.ok.funs
theorem Inv.stack (I : Inv X pins σ H s) : s.heap.FunFrames X.base X.stack := by
  rcases I.ok.stk with e | ⟨e, hf⟩
  · rw [e]; exact I.funs
  · rw [e]
    obtain ⟨m, hn, _⟩ := I.loc
    refine .cons (by rw [I.ok.kind]; decide) hf hn ?_ I.funs
    exact Heap.get?_none_of_le (Nat.le_trans I.ok.bsz I.ok.above)
theorem Inv.stkSub (I : Inv X pins σ H s) : ∀ b ∈ frs X.stack, b ∈ X.env.locals :: X.fs := fun b hb => by
  rcases I.ok.stk with e | ⟨e, hf⟩
  · rw [e] at hb; exact List.mem_cons_of_mem _ hb
  · rw [e] at hb
    unfold frs at hb
    rw [List.filterMap_cons, hf] at hb
    exact hb
theorem Inv.stkFree (I : Inv X pins σ H s) : ∀ b ∈ frs X.stack, H b = none := fun b hb => by
  rcases List.mem_cons.mp (I.stkSub b hb) with e | hb
  · rw [e]; exact I.free
  · obtain ⟨_, o, ho, _⟩ := I.ok.funs.mem hb
    exact I.base.free b o ho (I.ok.frf b hb) fun z => I.ok.exfs b z hb
theorem Inv.step {g' : Array GenState} {t' : Nat} {d' : Drawn} {ch : List Addr} (I : Inv X pins σ H s)
    (hch : ∀ b ∈ ch, (b ∈ X.ex ∨ X.s₀.heap.objs.size ≤ b) ∧ b ≠ X.env.locals ∧ (∀ x c, X.env.cells.lookup x = some c → c ≠ b) ∧ ∀ p ∈ X.pn ++ pins, p.1 ≠ b)
    (keep : ∀ b o, b ≠ X.env.locals → b ∉ X.fs → b ∉ ch → s.heap.get? b = some o → H b = none → h'.get? b = some o)
    (slot : ∀ b o, b ≠ X.env.locals → b ∈ X.fs → b ∉ ch → s.heap.get? b = some o → H b = none → ∃ sl, h'.get? b = some { o with slots := sl }) (free : ∀ b o, b ∉ ch → s.heap.get? b = some o → H b = none → H' b = none)
    (there : ∀ b o, b ∉ ch → s.heap.get? b = some o → ∃ o', h'.get? b = some o')
    (tups : ∀ b xs, H b = some (.tup xs) → H' b = some (.tup xs)) (frzs : ∀ b o u, H b = some (.frz o u) → H' b = some (.frz o u)) (tbls : ∀ b ps, H b = some (.tbl ps) → ∃ more, H' b = some (.tbl (ps ++ more)))
    (ns : ∀ m, s.heap.Ns X.env.locals m → h'.Ns X.env.locals m) (hok : HOk X.prog X.w H' h') (hg : AllBare g') :
    Inv X pins σ H' { s with heap := h', gens := g', drawn := d', toks := t' } := by
  have neL : ∀ b o, X.s₀.heap.get? b = some o → b ≠ X.env.locals := fun b o e => Nat.ne_of_lt (Nat.lt_of_lt_of_le (Heap.lt_size e) I.ok.above)
  have neC : ∀ b o, X.s₀.heap.get? b = some o → b ∉ X.ex → b ∉ ch := fun b o e hx hb => by
    rcases (hch b hb).1 with z | z
    · exact hx z
    · exact absurd (Nat.lt_of_lt_of_le (Heap.lt_size e) z) (Nat.lt_irrefl _)
  have cellK : ∀ x c, X.env.cells.lookup x = some c → ∀ v, s.heap.IsCell c v → h'.IsCell c v := fun x c e v ⟨o, ho, hd⟩ => by
    have nch : c ∉ ch := fun z => (hch c z).2.2.1 x c e rfl
    by_cases hc : c ∈ X.fs
    · obtain ⟨sl, q⟩ := slot c o (I.cne x c e) hc nch ho (I.freeC x c e)
      exact ⟨_, q, hd⟩
    · exact ⟨o, keep c o (I.cne x c e) hc nch ho (I.freeC x c e), hd⟩
  refine ⟨I.ok, I.os, hg, ⟨fun b o e n hb hx => ?_, fun b o e n hb hx => ?_, fun b o e n hx => ?_, fun b o e hx => ?_, fun b xs e => tups b xs (I.base.tups b xs e), fun b o xs e => frzs b o xs (I.base.frzs b o xs e), fun b ps e => ?_⟩, ?_, fun x c e => ?_, ?_, fun x c e => ?_, fun p hp => ?_, hok, I.len⟩
  · exact keep b o (neL b o e) hb (neC b o e hx) (I.base.keep b o e n hb hx) (I.base.free b o e n hx)
  · obtain ⟨sl, e1⟩ := I.base.slot b o e n hb hx
    obtain ⟨sl', e2⟩ := slot b _ (neL b o e) hb (neC b o e hx) e1 (I.base.free b o e n hx)
    exact ⟨sl', e2⟩
  · obtain ⟨o', e1⟩ := I.base.there b o e hx
    exact free b o' (neC b o e hx) e1 (I.base.free b o e n hx)
  · obtain ⟨o', e1⟩ := I.base.there b o e hx
    exact there b o' (neC b o e hx) e1
  · obtain ⟨m1, e1⟩ := I.base.tbls b ps e
    obtain ⟨m2, e2⟩ := tbls b _ e1
    exact ⟨m1 ++ m2, by rw [e2, Array.append_assoc]⟩
  · obtain ⟨m, hn, hl⟩ := I.loc
    refine ⟨m, ns m hn, fun i x v e1 e2 e3 => ?_⟩
    obtain ⟨u, r, l⟩ := hl i x v e1 e2 e3
    refine ⟨u, r, ?_⟩
    rcases l with l | ⟨k, c, e, z⟩
    · exact .inl l
    · exact .inr ⟨k, c, e, cellK x c e _ z⟩
  · obtain ⟨v, z⟩ := I.cell x c e
    exact ⟨v, cellK x c e v z⟩
  · obtain ⟨m, ⟨o, _, _, ho, _⟩, _⟩ := I.loc
    exact free _ o (fun z => (hch _ z).2.1 rfl) ho I.free
  · obtain ⟨v, o, ho, hd⟩ := I.cell x c e
    exact free c o (fun z => (hch c z).2.2.1 x c e rfl) ho (I.freeC x c e)
  · obtain ⟨e, n, ne, nf, d⟩ := I.pin p hp
    have nch : p.1 ∉ ch := fun z => (hch p.1 z).2.2.2 p hp rfl
    exact ⟨keep p.1 p.2 ne nf nch e n, free p.1 p.2 nch e n, ne, nf, d⟩
theorem Inv.un {t' : Nat} (I : Inv X pins σ H s) (u : Un X.fs [] H H' s.heap h') (hok : HOk X.prog X.w H' h') : Inv X pins σ H' { s with heap := h', toks := t' } := by
  obtain ⟨m, ⟨o, es, ep, ho, r⟩, _⟩ := id I.loc
  obtain ⟨sl, hL⟩ := u.any ho I.free (by simp)
  exact I.step (g' := s.gens) (d' := s.drawn) (ch := []) (fun _ z => nomatch z) (fun b o _ hb _ e n => u.keep b o e n hb (by simp)) (fun b o _ hb _ e n => u.slot b o e n hb (by simp)) (fun b o _ e n => u.free b o e n (by simp)) (fun b o _ e => u.there b o e (by simp)) u.tups u.frzs u.tbls (fun m' hm => by
    obtain ⟨o', es', ep', ho', r'⟩ := hm
    rw [ho] at ho'; cases ho'
    exact ⟨_, es', ep', hL, r'⟩) hok I.bare
theorem Inv.call {g' : Array GenState} {t' : Nat} {d' : Drawn} {ch : List Addr} (I : Inv X pins σ H s) (u : Un (frs X.stack) ch H H' s.heap h') (hok : HOk X.prog X.w H' h') (hg : AllBare g')
    (hch : ∀ b ∈ ch, (b ∈ X.ex ∨ X.s₀.heap.objs.size ≤ b) ∧ b ≠ X.env.locals ∧ (∀ x c, X.env.cells.lookup x = some c → c ≠ b) ∧ ∀ p ∈ X.pn ++ pins, p.1 ≠ b) :
    Inv X pins σ H' { s with heap := h', gens := g', drawn := d', toks := t' } := by
  obtain ⟨m, ⟨o, es, ep, ho, r⟩, _⟩ := id I.loc
  obtain ⟨sl, hL⟩ := u.any ho I.free fun z => (hch _ z).2.1 rfl
  exact I.step (ch := ch) hch (fun b o hL hb hc e n => u.keep b o e n (fun z => (List.mem_cons.mp (I.stkSub b z)).elim hL hb) hc) (fun b o _ _ hc e n => u.any e n hc) (fun b o hc e n => u.free b o e n hc) (fun b o hc e => u.there b o e hc) u.tups u.frzs u.tbls (fun m' hm => by
    obtain ⟨o', es', ep', ho', r'⟩ := hm
    rw [ho] at ho'; cases ho'
    exact ⟨_, es', ep', hL, r'⟩) hok hg
theorem Inv.turned {t' : Nat} {it : Addr} (I : Inv X pins σ H s) (k : ∀ b o, b ≠ it → s.heap.get? b = some o → h'.get? b = some o) (hn : H it = none) (hL : it ≠ X.env.locals)
    (h1 : it ∈ X.ex ∨ X.s₀.heap.objs.size ≤ it) (h2 : ∀ x c, X.env.cells.lookup x = some c → c ≠ it) (h3 : ∀ p ∈ X.pn ++ pins, p.1 ≠ it) : Inv X pins σ H { s with heap := h', toks := t' } := by
  have nit : ∀ b u, H b = some u → b ≠ it := fun b u e z => by rw [z, hn] at e; cases e
  refine I.step (g' := s.gens) (d' := s.drawn) (ch := [it]) (fun b hb => ?_) (fun b o _ _ hc e _ => k b o (fun z => hc (by simp [z])) e) (fun b o _ _ hc e _ => ⟨o.slots, k b o (fun z => hc (by simp [z])) e⟩) (fun _ _ _ _ n => n)
    (fun b o hc e => ⟨o, k b o (fun z => hc (by simp [z])) e⟩) (fun _ _ e => e) (fun _ _ _ e => e) (fun b ps e => ⟨#[], by rw [e]; simp⟩) (fun m hm => ?_) (fun b u e => ?_) I.bare
  · have e : b = it := by simpa using hb
    subst e
    exact ⟨h1, hL, h2, h3⟩
  · obtain ⟨o, es, ep, ho, r⟩ := hm
    exact ⟨o, es, ep, k _ o (Ne.symm hL) ho, r⟩
  · refine (I.hok b u e).stay (fun c v hc q => k c v ?_ q) (fun _ q => q) fun _ _ q => q
    rcases hc with z | z
    · rw [z]; exact nit b u e
    · exact nit c _ z
theorem Inv.tok (I : Inv X pins σ H s) (t : Nat) : Inv X pins σ H { s with toks := t } := I.un (h' := s.heap) (t' := t) Un.refl I.hok
theorem Inv.kept {t' : Nat} (I : Inv X pins σ H s) (k : ∀ b u, s.heap.get? b = some u → h'.get? b = some u) : Inv X pins σ H { s with heap := h', toks := t' } := I.un (Un.kept k) (I.hok.kept k)
theorem Inv.laid {a : Addr} {o : HO} {t' : Nat} (I : Inv X pins σ H s) (k : ∀ b u, s.heap.get? b = some u → h'.get? b = some u) (hp : s.heap.objs.size ≤ a) (new : ObjOk X.prog X.w (upd H a o) h' a o) :
    Inv X pins σ (upd H a o) { s with heap := h', toks := t' } := I.un (Un.laid k hp (I.hok.fresh hp)) (I.hok.laid k hp new)
theorem Inv.write {x e : Addr} {o : HO} {t' : Nat} (I : Inv X pins σ H s) (mu : Mut (H x)) (he : e = x ∨ H e = some (.own x)) (k : ∀ b u, b ≠ e → s.heap.get? b = some u → h'.get? b = some u) (heo : ∃ u, h'.get? e = some u)
    (new : ObjOk X.prog X.w (upd H x o) h' x o) : Inv X pins σ (upd H x o) { s with heap := h', toks := t' } := I.un (Un.write mu he k heo) (I.hok.write mu he k heo new)
theorem Inv.weak {σ' : List (Option V)} (I : Inv X pins σ H s) (hl : σ'.length = σ.length) (w : ∀ (i : Nat) v, σ'[i]? = some (some v) → σ[i]? = some (some v)) : Inv X pins σ' H s :=
  ⟨I.ok, I.os, I.bare, I.base, let ⟨m, hn, hl'⟩ := I.loc; ⟨m, hn, fun i x v e1 e2 e3 => hl' i x v e1 (w i v e2) e3⟩, I.cell, I.free, I.freeC, I.pin, I.hok, hl.trans I.len⟩
theorem Inv.pins_of {pins' : List (Addr × Obj)} (I : Inv X pins σ H s) (h : ∀ p ∈ pins', s.heap.get? p.1 = some p.2 ∧ H p.1 = none ∧ p.1 ≠ X.env.locals ∧ p.1 ∉ X.fs ∧ ∀ v, p.2.data ≠ .cell v) : Inv X pins' σ H s :=
  ⟨I.ok, I.os, I.bare, I.base, I.loc, I.cell, I.free, I.freeC, fun p hp => (List.mem_append.mp hp).elim (fun z => I.pin p (List.mem_append_left _ z)) (h p), I.hok, I.len⟩
theorem nodup_ix {N : List Str} (hN : N.Nodup) {i j : Nat} {x : Str} (a : N[i]? = some x) (b : N[j]? = some x) : i = j := by
  obtain ⟨h1, e1⟩ := List.getElem?_eq_some_iff.mp a
  obtain ⟨h2, e2⟩ := List.getElem?_eq_some_iff.mp b
  exact (List.getElem_inj hN).mp (e1.trans e2.symm)
theorem store_ok2 {M : Model} {A : Around} {E : Value → Shared → Prop} {i : Nat} {x : Str} {v : V} {u : Value} {Q : Unit → Shared → Prop} (I : Inv X pins σ H s) (hN : X.N.Nodup) (hi : X.N[i]? = some x) (hx : Loc X.env.scope x) (r : RelV v u)
    (h : ∀ s', Inv X pins (σ.set i (some v)) H s' → (∃ a, Heap.SameBut a s.heap s'.heap ∧ (a = X.env.locals ∨ X.env.cells.lookup x = some a)) → Q () s') (hf : X.fn x = true ∨ X.env.scope.names.lookup x = some .local := by first | exact .inl rfl | exact .inr rfl | assumption) : wpAny M A (storeName X.env x u) Q E s := by
  obtain ⟨m, hn, hl⟩ := id I.loc
  have hcls : (X.env.scope.kind == .class || (X.env.scope.kind == .module && X.env.locals != X.env.globals)) = false := by rw [I.ok.kind]; rfl
  have hiσ : i < σ.length := by rw [I.len]; exact (List.getElem?_eq_some_iff.mp hi).1
  have cne := I.cne
  have tracked : ∀ {a : Addr} {h' : Heap}, (∃ o, s.heap.get? a = some o ∧ H a = none) → Heap.SameBut a s.heap h' → HOk X.prog X.w H h' := fun {a h'} ha hs b ob e => by
    obtain ⟨_, _, hfree⟩ := ha
    refine (I.hok b ob e).stay (fun c w' hc q => (hs.2 c ?_).trans q) (fun _ q => q) fun _ _ q => q
    rintro rfl
    rcases hc with rfl | hc
    · rw [hfree] at e; cases e
    · rw [hfree] at hc; cases hc
  rcases hx with hk | hk
  · refine wpAny_storeName_local hk hn (fun h' hn' hs => ?_) hcls
    obtain ⟨oL, _, _, hoL, _⟩ := id hn
    refine h _ ⟨I.ok, I.os, I.bare, ⟨fun b o e n hb hx => ?_, fun b o e n hb hx => ?_, I.base.free, fun b o e hx => ?_, I.base.tups, I.base.frzs, I.base.tbls⟩, ⟨_, hn', fun j y v' e1 e2 e3 => ?_⟩, fun y c e => ?_, I.free, I.freeC, fun p hp => ?_, tracked ⟨oL, hoL, I.free⟩ hs, by simpa using I.len⟩ ⟨_, hs, .inl rfl⟩
    · exact (hs.2 b (Nat.ne_of_lt (Nat.lt_of_lt_of_le (Heap.lt_size e) I.ok.above))).trans (I.base.keep b o e n hb hx)
    · obtain ⟨sl, e1⟩ := I.base.slot b o e n hb hx
      exact ⟨sl, (hs.2 b (Nat.ne_of_lt (Nat.lt_of_lt_of_le (Heap.lt_size e) I.ok.above))).trans e1⟩
    · obtain ⟨o', e1⟩ := I.base.there b o e hx
      exact ⟨o', (hs.2 b (Nat.ne_of_lt (Nat.lt_of_lt_of_le (Heap.lt_size e) I.ok.above))).trans e1⟩
    · by_cases hj : j = i
      · subst hj
        rw [hi] at e1; cases e1
        rw [List.getElem?_set_self hiσ] at e2
        cases e2
        exact ⟨u, r, .inl ⟨hk, by simp⟩⟩
      · rw [List.getElem?_set_ne (Ne.symm hj)] at e2
        obtain ⟨u', r', q⟩ := hl j y v' e1 e2 e3
        refine ⟨u', r', ?_⟩
        rcases q with ⟨k, e⟩ | ⟨k, c, e, z⟩
        · refine .inl ⟨k, ?_⟩
          have : y ≠ x := fun e => hj (nodup_ix hN e1 (e ▸ hi))
          simp [this, e]
        · exact .inr ⟨k, c, e, z.sameBut hs (cne y c e)⟩
    · obtain ⟨w', z⟩ := I.cell y c e
      exact ⟨w', z.sameBut hs (cne y c e)⟩
    · obtain ⟨e, n, ne, nf, d⟩ := I.pin p hp
      exact ⟨(hs.2 p.1 ne).trans e, n, ne, nf, d⟩
  · have hfn : X.fn x = true := by
      rcases hf with z | z
      · exact z
      · rw [z] at hk; cases hk
    obtain ⟨c, hc⟩ := I.ok.has x (.inl hk)
    obtain ⟨w', z⟩ := I.cell x c hc
    refine wpAny_storeName_cell I.ok.kind hk hc z (fun h' hc' hs => ?_)
    obtain ⟨oc, hoc, hocd⟩ := id z
    refine h { s with heap := h' } ⟨I.ok, I.os, I.bare, ⟨fun b o e n hb hx => ?_, fun b o e n hb hx => ?_, I.base.free, fun b o e hx => ?_, I.base.tups, I.base.frzs, I.base.tbls⟩, ⟨m, hn.sameBut hs (Ne.symm (cne x c hc)), fun j y v' e1 e2 e3 => ?_⟩, fun y c' e => ?_, I.free, I.freeC, fun p hp => ?_, tracked ⟨oc, hoc, I.freeC x c hc⟩ hs, by simpa using I.len⟩ ⟨c, hs, .inr hc⟩
    · exact (hs.2 b (Nat.ne_of_lt (Nat.lt_of_lt_of_le (Heap.lt_size e) (I.ok.cab x c hfn hc)))).trans (I.base.keep b o e n hb hx)
    · obtain ⟨sl, e1⟩ := I.base.slot b o e n hb hx
      exact ⟨sl, (hs.2 b (Nat.ne_of_lt (Nat.lt_of_lt_of_le (Heap.lt_size e) (I.ok.cab x c hfn hc)))).trans e1⟩
    · obtain ⟨o', e1⟩ := I.base.there b o e hx
      exact ⟨o', (hs.2 b (Nat.ne_of_lt (Nat.lt_of_lt_of_le (Heap.lt_size e) (I.ok.cab x c hfn hc)))).trans e1⟩
    · by_cases hj : j = i
      · subst hj
        rw [hi] at e1; cases e1
        rw [List.getElem?_set_self hiσ] at e2
        cases e2
        exact ⟨u, r, .inr ⟨.inl hk, c, hc, hc'⟩⟩
      · rw [List.getElem?_set_ne (Ne.symm hj)] at e2
        obtain ⟨u', r', q⟩ := hl j y v' e1 e2 e3
        refine ⟨u', r', ?_⟩
        rcases q with q | ⟨k, c', e, z'⟩
        · exact .inl q
        · refine .inr ⟨k, c', e, z'.sameBut hs ?_⟩
          rintro rfl
          exact hj (nodup_ix hN e1 (I.ok.inj _ _ _ e hc ▸ hi))
    · by_cases hcc : c' = c
      · subst hcc; exact ⟨_, hc'⟩
      · obtain ⟨w2, z2⟩ := I.cell y c' e
        exact ⟨w2, z2.sameBut hs hcc⟩
    · obtain ⟨e, n, ne, nf, d⟩ := I.pin p hp
      refine ⟨(hs.2 p.1 ?_).trans e, n, ne, nf, d⟩
      intro q
      rw [q, hoc] at e
      have q' : oc = p.2 := Option.some.inj e
      exact d w' (by rw [← q']; exact hocd)
theorem store_ok {M : Model} {A : Around} {E : Value → Shared → Prop} {i : Nat} {x : Str} {v : V} {u : Value} {Q : Unit → Shared → Prop} (I : Inv X pins σ H s) (hN : X.N.Nodup) (hi : X.N[i]? = some x) (hx : Loc X.env.scope x) (r : RelV v u)
    (h : ∀ s', Inv X pins (σ.set i (some v)) H s' → Q () s') (hf : X.fn x = true ∨ X.env.scope.names.lookup x = some .local := by first | exact .inl rfl | exact .inr rfl | assumption) : wpAny M A (storeName X.env x u) Q E s :=
  store_ok2 I hN hi hx r (fun s' I' _ => h s' I') hf
theorem Inv.call' {s' : Shared} {ch : List Addr} (I : Inv X pins σ H s) (ho : s'.os = s.os) (u : Un (frs X.stack) ch H H' s.heap s'.heap) (hok : HOk X.prog X.w H' s'.heap) (hg : AllBare s'.gens)
    (hch : ∀ b ∈ ch, (b ∈ X.ex ∨ X.s₀.heap.objs.size ≤ b) ∧ b ≠ X.env.locals ∧ (∀ x c, X.env.cells.lookup x = some c → c ≠ b) ∧ ∀ p ∈ X.pn ++ pins, p.1 ≠ b) : Inv X pins σ H' s' := by
  obtain ⟨h', g', d', t', o'⟩ := s'
  have e : o' = s.os := ho
  subst e
  exact I.call (g' := g') (t' := t') (d' := d') u hok hg hch
end
abbrev XK := Value → Option Addr → Hp → Prop
abbrev St := List (Option V)
abbrev VK := V → Hp → Prop
abbrev TE := St → Hp → VK → Prop
abbrev TT := St → Hp → (Bool → Hp → Prop) → Prop
abbrev TA := St → Hp → (List V → Hp → Prop) → Prop
structure Ends where
  nx : St → Hp → Prop
  rt : VK
  bk : St → Hp → Prop := fun _ _ => False
  ct : St → Hp → Prop := fun _ _ => False
abbrev TS := Ends → St → Hp → Prop
def EP (X : Cx) (pins : List (Addr × Obj)) (σ : St) (Q : VK) (u : Value) (s' : Shared) : Prop := ∃ v H', Inv X pins σ H' s' ∧ RelV v u ∧ Q v H'
def TP (X : Cx) (pins : List (Addr × Obj)) (σ : St) (Q : Bool → Hp → Prop) (b : Bool) (s' : Shared) : Prop := ∃ H', Inv X pins σ H' s' ∧ Q b H'
def AP (X : Cx) (pins : List (Addr × Obj)) (σ : St) (Q : List V → Hp → Prop) (us : List Value) (s' : Shared) : Prop := ∃ vs H', Inv X pins σ H' s' ∧ Vals vs us ∧ Q vs H'
def SP (X : Cx) (pins : List (Addr × Obj)) (D : Ends) (f : Flow) (s' : Shared) : Prop :=
  match f with
  | .next => ∃ σ' H', Inv X pins σ' H' s' ∧ D.nx σ' H'
  | .brk => ∃ σ' H', Inv X pins σ' H' s' ∧ D.bk σ' H'
  | .cont => ∃ σ' H', Inv X pins σ' H' s' ∧ D.ct σ' H'
  | .ret u => ∃ v σ' H', Inv X pins σ' H' s' ∧ RelV v u ∧ D.rt v H'
def PE (X : Cx) (e : Expr) (t : TE) : Prop :=
  ∀ (pins : List (Addr × Obj)) (s : Shared) (σ : St) (H : Hp) (Q : VK), Inv X pins σ H s → t σ H Q → wpAny (model X.prog X.w) X.A (eval e X.env) (EP X pins σ Q) X.xe s
def PT (X : Cx) (e : Expr) (t : TT) : Prop :=
  ∀ (pins : List (Addr × Obj)) (s : Shared) (σ : St) (H : Hp) (Q : Bool → Hp → Prop), Inv X pins σ H s → t σ H Q → wpAny (model X.prog X.w) X.A (isTrue e X.env (eval e X.env)) (TP X pins σ Q) X.xe s
def PW (X : Cx) (e : Expr) (t : TT) : Prop :=
  ∀ (whole : Sem Value) (pins : List (Addr × Obj)) (s : Shared) (σ : St) (H : Hp) (Q : Bool → Hp → Prop), Inv X pins σ H s → t σ H Q → wpAny (model X.prog X.w) X.A (isTrue e X.env whole) (TP X pins σ Q) X.xe s
theorem PW.pt {X : Cx} {e : Expr} {t : TT} (h : PW X e t) : PT X e t := h _
def PA (X : Cx) (es : List Expr) (t : TA) : Prop :=
  ∀ (pos : Pos) (pins : List (Addr × Obj)) (s : Shared) (σ : St) (H : Hp) (Q : List V → Hp → Prop), Inv X pins σ H s → t σ H Q → wpAny (model X.prog X.w) X.A (spliced (backTo pos (starEach es X.env))) (AP X pins σ Q) X.xe s
def PS (X : Cx) (st : Stmt) (t : TS) : Prop :=
  ∀ (pins : List (Addr × Obj)) (s : Shared) (σ : St) (H : Hp) (D : Ends), Inv X pins σ H s → t D σ H → wpAny (model X.prog X.w) X.A (exec st X.env) (SP X pins D) X.xe s
def PSs (X : Cx) (st : List Stmt) (t : TS) : Prop :=
  ∀ (pins : List (Addr × Obj)) (s : Shared) (σ : St) (H : Hp) (D : Ends), Inv X pins σ H s → t D σ H → wpAny (model X.prog X.w) X.A (execs st X.env) (SP X pins D) X.xe s
theorem thn {α : Type} {t : Sem α} {Q Q' : α → Shared → Prop} {M : Model} {A : Around} {E : Value → Shared → Prop} {s : Shared} (h : wpAny M A t Q E s) (hQ : ∀ a s, Q a s → Q' a s) : wpAny M A t Q' E s := wpAny_mono h hQ fun _ _ x => x
end L2
namespace L2
open PySem PySem.Spec PyProof.Rows
section
variable {X : Cx}
def tVar (i : Nat) : TE := fun σ H Q => ∃ v, σ[i]? = some (some v) ∧ Q v H
def tC (v : V) : TE := fun _ H Q => Q v H
theorem pe_var {i : Nat} {x : Str} {pos : Pos} (hN : X.N[i]? = some x) (hv : Vis X.env.scope x) (hd : (x == ("__debug__" : Str)) = false := by decide) (hcd : (x == ("__classdict__" : Str)) = false := by decide) : PE X (.Name x pos) (tVar i) := by
  intro pins s σ H Q I h
  obtain ⟨v, e, h⟩ := h
  obtain ⟨m, hn, hl⟩ := I.loc
  obtain ⟨u, r, l⟩ := hl i x v hN e hv
  have fin : EP X pins σ Q u s := ⟨v, H, I, r, h⟩
  rcases l with ⟨hk, hm⟩ | ⟨hk, c, hc, hcell⟩
  · exact wpAny_Name (wpAny_loadName_local I.ok.kind hk hn hm fin) hd
  · rcases hk with hk | hk
    · exact wpAny_Name (wpAny_loadName_cell I.ok.kind hk hc hcell fin) hd
    · exact wpAny_Name (wpAny_loadName_free I.ok.kind hk hc hcell fin hcd) hd
theorem pe_int {i j pos} : PE X (.Constant (.int i) j pos) (tC (.int i)) := fun _ _ _ H _ I h => wpAny_Constant_int ⟨.int i, H, I.tok _, ⟨_, rfl⟩, h⟩
theorem pe_bl {b j pos} : PE X (.Constant (.bool b) j pos) (tC (.bl b)) := fun _ _ _ H _ I h => Constant_bool ⟨.bl b, H, I, rfl, h⟩
theorem pe_str {x j pos} : PE X (.Constant (.str x) j pos) (tC (.str x)) := fun _ _ _ H _ I h => Calls.Constant_str ⟨.str x, H, I.tok _, ⟨_, rfl⟩, h⟩
def Gl (X : Cx) (x : Str) : Prop := X.env.kindOf x = some .globalImplicit
theorem ld_glob {E : Value → Shared → Prop} {pins : List (Addr × Obj)} {s : Shared} {σ : St} {H : Hp} {x : Str} {u : Value} {pos : Pos} {Q : Value → Shared → Prop} (I : Inv X pins σ H s) (hg : Gl X x) (hm : X.mg x = some u) (h : Q u s)
    (hd : (x == ("__debug__" : Str)) = false := by decide) : wpAny (model X.prog X.w) X.A (eval (.Name x pos) X.env) Q E s :=
  Calls.Name_function_global I.ok.kind hg (Calls.loadGlobal_global (by rw [I.ok.glob]; exact I.mod.glob.keeps I.bk) hm h) hd
theorem ld_blt {E : Value → Shared → Prop} {pins : List (Addr × Obj)} {s : Shared} {σ : St} {H : Hp} {x : Str} {u : Value} {pos : Pos} {Q : Value → Shared → Prop} (I : Inv X pins σ H s) (hg : Gl X x) (hm : X.mg x = none) (hv : bootBuiltins x = some u) (h : Q u s)
    (hn : x ≠ "__name__" := by decide) (hd : (x == ("__debug__" : Str)) = false := by decide) : wpAny (model X.prog X.w) X.A (eval (.Name x pos) X.env) Q E s := by
  obtain ⟨mb, h1, h2⟩ := I.mod.blt
  exact Calls.Name_function_global I.ok.kind hg (Calls.loadGlobal_builtin (by rw [I.ok.glob]; exact I.mod.glob.keeps I.bk) hm (by rw [I.ok.blt]; exact h1.keeps I.bk) ((h2 x hn).trans hv) h) hd
theorem pe_glob {x : Str} {v : V} {u : Value} {pos : Pos} (hg : Gl X x) (hm : X.mg x = some u) (r : RelV v u) (hd : (x == ("__debug__" : Str)) = false := by decide) : PE X (.Name x pos) (tC v) :=
  fun _ _ _ H _ I h => ld_glob I hg hm ⟨v, H, I, r, h⟩ hd
theorem pe_bltn {x : Str} {v : V} {u : Value} {pos : Pos} (hg : Gl X x) (hm : X.mg x = none) (hv : bootBuiltins x = some u) (r : RelV v u) (hn : x ≠ "__name__" := by decide) (hd : (x == ("__debug__" : Str)) = false := by decide) : PE X (.Name x pos) (tC v) :=
  fun _ _ _ H _ I h => ld_blt I hg hm hv ⟨v, H, I, r, h⟩ hn hd
def t2I (ta tb : TE) (k : Int → Int → Hp → Prop) : St → Hp → Prop := fun σ H => ta σ H fun x H1 => tb σ H1 fun y H2 => ∃ i j, x = .int i ∧ y = .int j ∧ k i j H2
def tAdd (ta tb : TE) : TE := fun σ H Q => t2I ta tb (fun i j H2 => Q (.int (i + j)) H2) σ H
def tSub (ta tb : TE) : TE := fun σ H Q => t2I ta tb (fun i j H2 => Q (.int (i - j)) H2) σ H
def tMul (ta tb : TE) : TE := fun σ H Q => t2I ta tb (fun i j H2 => (-(2 ^ 64) < i ∧ i < 2 ^ 64) ∧ Q (.int (i * j)) H2) σ H
variable {a b : Expr} {ta tb : TE} {pos : Pos}
def PC (X : Cx) (op : CmpOp) (a b : Expr) (t : TE) : Prop :=
  ∀ (pins : List (Addr × Obj)) (s : Shared) (σ : St) (H : Hp) (Q : VK), Inv X pins σ H s → t σ H Q →
    wpAny (model X.prog X.w) X.A (eval a X.env) (fun v s₁ => wpAny (model X.prog X.w) X.A (eval b X.env) (fun u s₂ => wpAny (model X.prog X.w) X.A (compareOp op v u) (EP X pins σ Q) X.xe s₂) X.xe s₁) X.xe s
def tCmp (p : Int → Int → Bool) (ta tb : TE) : TE := fun σ H Q => t2I ta tb (fun i j H2 => Q (.bl (p i j)) H2) σ H
abbrev tLt : TE → TE → TE := tCmp fun i j => decide (i < j)
abbrev tLe : TE → TE → TE := tCmp fun i j => decide (i ≤ j)
abbrev tGt : TE → TE → TE := tCmp fun i j => decide (j < i)
abbrev tGe : TE → TE → TE := tCmp fun i j => decide (j ≤ i)
abbrev tEqI : TE → TE → TE := tCmp fun i j => decide (i = j)
abbrev tNeI : TE → TE → TE := tCmp fun i j => !decide (i = j)
def tIsN (ta : TE) : TE := fun σ H Q => ta σ H fun x H1 => Q (.bl (decide (x = .non))) H1
def tNotN (ta : TE) : TE := fun σ H Q => ta σ H fun x H1 => Q (.bl (!decide (x = .non))) H1
def tB (t : TE) : TT := fun σ H Q => t σ H fun x H1 => ∃ c, x = .bl c ∧ Q c H1
variable {tA tB' : TT} {rest : List Expr}
def tAnd (t u : TT) : TT := fun σ H Q => t σ H fun c H1 => if c = true then u σ H1 Q else Q false H1
def tOr (t u : TT) : TT := fun σ H Q => t σ H fun c H1 => if c = true then Q true H1 else u σ H1 Q
def tNot (t : TT) : TT := fun σ H Q => t σ H fun c H1 => Q (!c) H1
theorem pw_and1 (ha : PT X a tA) : PW X (.BoolOp .And [a] pos) tA := by
  intro wh pins s σ H Q I h
  refine isTrue_and (thn (ha pins s σ H Q I h) fun c s1 e => ?_)
  cases c with
  | true => exact isTrue_and_nil e
  | false => exact e
theorem pw_or1 (ha : PT X a tA) : PW X (.BoolOp .Or [a] pos) tA := by
  intro wh pins s σ H Q I h
  refine isTrue_or (thn (ha pins s σ H Q I h) fun c s1 e => ?_)
  cases c with
  | false => exact isTrue_or_nil e
  | true => exact e
theorem pw_and (ha : PT X a tA) (hb : PW X (.BoolOp .And (b :: rest) pos) tB') : PW X (.BoolOp .And (a :: b :: rest) pos) (tAnd tA tB') := by
  intro wh pins s σ H Q I h
  refine isTrue_and (thn (ha pins s σ H _ I h) fun c s1 ⟨H1, I1, q1⟩ => ?_)
  cases c with
  | true => exact hb wh pins s1 σ H1 Q I1 q1
  | false => exact ⟨H1, I1, q1⟩
theorem pw_or (ha : PT X a tA) (hb : PW X (.BoolOp .Or (b :: rest) pos) tB') : PW X (.BoolOp .Or (a :: b :: rest) pos) (tOr tA tB') := by
  intro wh pins s σ H Q I h
  refine isTrue_or (thn (ha pins s σ H _ I h) fun c s1 ⟨H1, I1, q1⟩ => ?_)
  cases c with
  | true => exact ⟨H1, I1, q1⟩
  | false => exact hb wh pins s1 σ H1 Q I1 q1
theorem pt_not (ha : PT X a tA) : PT X (.UnaryOp .Not a pos) (tNot tA) := by
  intro pins s σ H Q I h
  exact isTrue_not (ha pins s σ H (fun c H1 => Q (!c) H1) I h)
def tAndV (ta tb : TE) : TE := fun σ H Q => ta σ H fun x H1 => ∃ c, x = .bl c ∧ if c = true then tb σ H1 Q else Q (.bl false) H1
def tOrV (ta tb : TE) : TE := fun σ H Q => ta σ H fun x H1 => ∃ c, x = .bl c ∧ if c = true then Q (.bl true) H1 else tb σ H1 Q
def tNotV (ta : TE) : TE := fun σ H Q => ta σ H fun x H1 => ∃ c, x = .bl c ∧ Q (.bl (!c)) H1
theorem pe_one {op} {t : TE} (h : PE X a t) : PE X (.BoolOp op [a] pos) t := fun pins s σ H Q I hw => BoolOp_one (h pins s σ H Q I hw)
theorem pe_or (ha : PE X a ta) (hb : PE X (.BoolOp .Or (b :: rest) pos) tb) : PE X (.BoolOp .Or (a :: b :: rest) pos) (tOrV ta tb) := by
  intro pins s σ H Q I h
  refine BoolOp_or (thn (ha pins s σ H _ I h) fun v s1 ⟨x, H1, I1, r1, q1⟩ => ?_)
  obtain ⟨c, rfl, q1⟩ := q1
  cases r1
  refine wpAny_truthy_bool ?_
  cases c with
  | false => exact hb pins s1 σ H1 Q I1 q1
  | true => exact ⟨.bl true, H1, I1, rfl, q1⟩
def tIf (t : TT) (ta tb : TE) : TE := fun σ H Q => t σ H fun c H1 => if c = true then ta σ H1 Q else tb σ H1 Q
end
end L2
namespace L2
open PySem PySem.Spec PyProof.Rows
def SqL (K : PySem.W.Frag) (H : Hp) (a : Addr) (xs : List V) : Prop :=
  Rd H a (.lst xs) ∨
    ∃ (o : Obj) (its : Array Value) (n : Nat), K.lookup a = some o ∧ o.cls = .type "list" ∧ o.dict = none ∧ o.data = .seq its n ∧ its.size ≤ sizeLine ∧ Vals xs its.toList
def SqT (K : PySem.W.Frag) (H : Hp) (a : Addr) (xs : List V) : Prop :=
  Rd H a (.tup xs) ∨
    ∃ (o : Obj) (its : Array Value) (n : Nat), K.lookup a = some o ∧ o.cls = .type "tuple" ∧ o.data = .seq its n ∧ its.size ≤ sizeLine ∧ Vals xs its.toList
def absV : Value → Option V
  | .none => some .non
  | .bool b => some (.bl b)
  | .int i _ => some (.int i)
  | .str x _ => some (.str x)
  | .bytes b _ => some (.byt b)
  | .float b _ => some (.flt b)
  | .ref a => some (.ref a)
  | .type n => some (.ty n)
  | _ => none
theorem RelV.abs {x : V} {u : Value} (r : RelV x u) : absV u = some x := by
  cases x with
  | non => cases r; rfl
  | bl _ => cases r; rfl
  | int _ => obtain ⟨t, rfl⟩ := r; rfl
  | str _ => obtain ⟨t, rfl⟩ := r; rfl
  | byt _ => obtain ⟨t, rfl⟩ := r; rfl
  | flt _ => obtain ⟨t, rfl⟩ := r; rfl
  | ref _ => cases r; rfl
  | ty _ => cases r; rfl
theorem RelV.inj {x y : V} {u : Value} (r : RelV x u) (q : RelV y u) : x = y := Option.some.inj (r.abs.symm.trans q.abs)
theorem Vals.inj : ∀ {xs ys : List V} {us : List Value}, Vals xs us → Vals ys us → xs = ys
  | _, _, _, .nil, .nil => rfl
  | _, _, _, .cons r t, .cons r' t' => by rw [r.inj r', Vals.inj t t']
section
variable {X : Cx} {pins : List (Addr × Obj)} {σ : St} {H : Hp} {s : Shared} {a : Addr} {xs ys : List V}
theorem SqL.of {K : PySem.W.Frag} (h : H a = some (.lst xs)) : SqL K H a xs := .inl (.inl h)
theorem SqT.of {K : PySem.W.Frag} (h : H a = some (.tup xs)) : SqT K H a xs := .inl (.inl h)
theorem Inv.list (I : Inv X pins σ H s) (h : SqL X.K H a xs) : ∃ its : List Value, Vals xs its ∧ PlainL s.heap a its.toArray ∧ xs.length ≤ sizeLine := by
  rcases h with h | ⟨o, its, n, hk, hc, hd, hs, hz, r⟩
  · obtain ⟨z, its, n, r, e⟩ := h.ok I.hok
    exact ⟨its, r, ⟨_, n, e, rfl, rfl, rfl⟩, z⟩
  · refine ⟨its.toList, r, ⟨o, n, I.kIn a o hk, hc, hd, by simpa using hs⟩, ?_⟩
    have e := r.length
    simp only [Array.length_toList] at e
    omega
theorem Inv.tuple (I : Inv X pins σ H s) (h : SqT X.K H a xs) : ∃ its : List Value, Vals xs its ∧ IsTup s.heap a its.toArray ∧ xs.length ≤ sizeLine := by
  rcases h with h | ⟨o, its, n, hk, hc, hs, hz, r⟩
  · obtain ⟨z, its, r, p⟩ := h.ok I.hok
    exact ⟨its, r, p, z⟩
  · refine ⟨its.toList, r, ⟨o, I.kIn a o hk, hc, n, by simpa using hs⟩, ?_⟩
    have e := r.length
    simp only [Array.length_toList] at e
    omega
theorem Inv.list_inj (I : Inv X pins σ H s) (h : SqL X.K H a xs) (h' : SqL X.K H a ys) : xs = ys := by
  obtain ⟨its, r, ⟨o, n, e, _, _, d⟩, _⟩ := I.list h
  obtain ⟨its', r', ⟨o', n', e', _, _, d'⟩, _⟩ := I.list h'
  rw [e] at e'; cases e'
  rw [d] at d'
  injection d' with d1 _
  have : its = its' := by simpa using congrArg Array.toList d1
  subst this
  exact r.inj r'
theorem Inv.tuple_inj (I : Inv X pins σ H s) (h : SqT X.K H a xs) (h' : SqT X.K H a ys) : xs = ys := by
  obtain ⟨its, r, ⟨o, e, _, n, d⟩, _⟩ := I.tuple h
  obtain ⟨its', r', ⟨o', e', _, n', d'⟩, _⟩ := I.tuple h'
  rw [e] at e'; cases e'
  rw [d] at d'
  injection d' with d1 _
  have : its = its' := by simpa using congrArg Array.toList d1
  subst this
  exact r.inj r'
end
abbrev Cx.wish (X : Cx) (E : Value → Shared → Prop) : Cx := { X with xe := E }
abbrev Cx.nox (X : Cx) : Cx := X.wish fun _ _ => False
theorem Cx.Ok.wish {X : Cx} (ok : X.Ok) (E : Value → Shared → Prop) : (X.wish E).Ok :=
  ⟨ok.mod, ok.kind, ok.glob, ok.blt, ok.above, ok.inj, ok.has, ok.cab, ok.hd, ok.frames, ok.stk, ok.exf, ok.bs, ok.bsz, ok.noex, ok.exfs, ok.funs, ok.frf⟩
theorem Cx.Ok.unwish {X : Cx} {E : Value → Shared → Prop} (ok : (X.wish E).Ok) : X.Ok :=
  ⟨ok.mod, ok.kind, ok.glob, ok.blt, ok.above, ok.inj, ok.has, ok.cab, ok.hd, ok.frames, ok.stk, ok.exf, ok.bs, ok.bsz, ok.noex, ok.exfs, ok.funs, ok.frf⟩
section
variable {X : Cx} {pins : List (Addr × Obj)} {σ : St} {H : Hp} {s : Shared} {E : Value → Shared → Prop}
theorem Inv.wish (I : Inv X pins σ H s) (E : Value → Shared → Prop) : Inv (X.wish E) pins σ H s := ⟨I.ok.wish E, I.os, I.bare, I.base, I.loc, I.cell, I.free, I.freeC, I.pin, I.hok, I.len⟩
theorem Inv.unwish (I : Inv (X.wish E) pins σ H s) : Inv X pins σ H s := ⟨I.ok.unwish, I.os, I.bare, I.base, I.loc, I.cell, I.free, I.freeC, I.pin, I.hok, I.len⟩
theorem SP.unwish {D : Ends} {f : Flow} {s' : Shared} (h : SP (X.wish E) pins D f s') : SP X pins D f s' := by
  cases f with
  | next => obtain ⟨σ', H', I, q⟩ := h; exact ⟨σ', H', I.unwish, q⟩
  | brk => obtain ⟨σ', H', I, q⟩ := h; exact ⟨σ', H', I.unwish, q⟩
  | cont => obtain ⟨σ', H', I, q⟩ := h; exact ⟨σ', H', I.unwish, q⟩
  | ret u => obtain ⟨v, σ', H', I, r, q⟩ := h; exact ⟨v, σ', H', I.unwish, r, q⟩
theorem PSs.nox {st : List Stmt} {t : TS} (h : PSs X.nox st t) : PSs X st t := fun pins s σ H D I hw =>
  wpAny_mono (h pins s σ H D (I.wish _) hw) (fun _ _ q => q.unwish) fun _ _ z => False.elim z
end
section
variable {X : Cx} {st : Stmt} {rest : List Stmt} {t u : TS} {e : Expr} {te : TE} {pos : Pos}
def tNext : TS := fun D σ H => D.nx σ H
def tSeq (t u : TS) : TS := fun D σ H => t { D with nx := u D } σ H
theorem pss_nil : PSs X [] tNext := fun _ _ σ H _ I h => wpAny_execs_nil ⟨σ, H, I, h⟩
theorem pss_cons (h1 : PS X st t) (h2 : PSs X rest u) : PSs X (st :: rest) (tSeq t u) := by
  intro pins s σ H D I h
  refine wpAny_execs_cons (thn (h1 pins s σ H { D with nx := u D } I h) fun f s1 q => ?_)
  cases f with
  | next =>
    obtain ⟨σ', H', I', q⟩ := q
    exact h2 pins s1 σ' H' D I' q
  | ret v => exact q
  | brk => exact q
  | cont => exact q
theorem pss_one (h1 : PS X st t) : PSs X [st] t := by
  intro pins s σ H D I h
  refine wpAny_execs_cons (thn (h1 pins s σ H D I h) fun f s1 q => ?_)
  cases f with
  | next => exact wpAny_execs_nil q
  | ret v => exact q
  | brk => exact q
  | cont => exact q
def tBreak : TS := fun D σ H => D.bk σ H
def tCont : TS := fun D σ H => D.ct σ H
theorem Inv.quiet {pins : List (Addr × Obj)} {σ : St} {H : Hp} {s : Shared} (I : Inv X pins σ H s) : interactive X.env = false := by simp [interactive, I.ok.kind]
def tDrop (te : TE) : TS := fun D σ H => te σ H fun _ H1 => D.nx σ H1
theorem ps_expr (he : PE X e te) (hs : swapsWith e none pos.line X.env = pure false := by rfl) : PS X (.Expr e pos) (tDrop te) := by
  intro pins s σ H D I h
  exact wpAny_Expr_any (thn (he pins s σ H _ I h) fun v s1 ⟨x, H1, I1, r1, q1⟩ => ⟨σ, H1, I1, q1⟩) I.quiet hs
def tRet (te : TE) : TS := fun D σ H => te σ H D.rt
theorem ps_ret (he : PE X e te) : PS X (.Return (some e) pos) (tRet te) := by
  intro pins s σ H D I h
  exact wpAny_Return_some (thn (he pins s σ H _ I h) fun v s1 ⟨x, H1, I1, r1, q1⟩ => ⟨x, σ, H1, I1, r1, q1⟩)
def tRetN : TS := fun D _ H => D.rt .non H
def tIfS (c : TT) (t u : TS) : TS := fun D σ H => c σ H fun b H1 => if b = true then t D σ H1 else u D σ H1
theorem ps_if {c : Expr} {a b : List Stmt} {tc : TT} (hc : PT X c tc) (ha : PSs X a t) (hb : PSs X b u) : PS X (.If c a b pos) (tIfS tc t u) := by
  intro pins s σ H D I h
  refine wpAny_If (thn (hc pins s σ H _ I h) fun d s1 ⟨H1, I1, q1⟩ => ?_)
  cases d with
  | true => exact ha pins s1 σ H1 D I1 q1
  | false => exact hb pins s1 σ H1 D I1 q1
def tNever : TS := fun _ _ _ => False
theorem ps_never : PS X st tNever := fun _ _ _ _ _ _ h => h.elim
end
abbrev TG := V → St → Hp → (St → Hp → Prop) → Prop
abbrev TGs := List V → St → Hp → (St → Hp → Prop) → Prop
def PG (X : Cx) (target : Expr) (t : TG) : Prop :=
  ∀ (pins : List (Addr × Obj)) (s : Shared) (σ : St) (H : Hp) (v : V) (u : Value) (Q : St → Hp → Prop), Inv X pins σ H s → RelV v u → t v σ H Q →
    wpAny (model X.prog X.w) X.A (assign target X.env u) (fun _ s' => ∃ σ' H', Inv X pins σ' H' s' ∧ Q σ' H') X.xe s
def PGs (X : Cx) (ts : List Expr) (t : TGs) : Prop :=
  ∀ (pins : List (Addr × Obj)) (s : Shared) (σ : St) (H : Hp) (vs : List V) (us : List Value) (Q : St → Hp → Prop), Inv X pins σ H s → Vals vs us → t vs σ H Q →
    wpAny (model X.prog X.w) X.A (assignInOrder ((assignEach ts X.env).map (·.2)) us) (fun _ s' => ∃ σ' H', Inv X pins σ' H' s' ∧ Q σ' H') X.xe s
abbrev TSet := V → V → V → Hp → (Hp → Prop) → Prop
def PSet (X : Cx) (t : TSet) : Prop :=
  ∀ (pins : List (Addr × Obj)) (s : Shared) (σ : St) (H : Hp) (o i v : V) (ov iv u : Value) (Q : Hp → Prop), Inv X pins σ H s → RelV o ov → RelV i iv → RelV v u → t o i v H Q →
    wpAny (model X.prog X.w) X.A (setItem ov iv u) (fun _ s' => ∃ H', Inv X pins σ H' s' ∧ Q H') X.xe s
abbrev TIp := V → V → Hp → VK → Prop
def PIp (X : Cx) (op : Operator) (t : TIp) : Prop :=
  ∀ (pins : List (Addr × Obj)) (s : Shared) (σ : St) (H : Hp) (x y : V) (v u : Value) (Q : VK), Inv X pins σ H s → RelV x v → RelV y u → t x y H Q →
    wpAny (model X.prog X.w) X.A (inplaceOp op v u) (EP X pins σ Q) X.xe s
section
variable {X : Cx} {pos : Pos}
def gName (i : Nat) : TG := fun v σ H Q => Q (σ.set i (some v)) H
theorem pg_name {i : Nat} {x : Str} (hN : X.N.Nodup) (hi : X.N[i]? = some x) (hx : Loc X.env.scope x) (hf : X.fn x = true ∨ X.env.scope.names.lookup x = some .local := by first | exact .inl rfl | exact .inr rfl | assumption) : PG X (.Name x pos) (gName i) := by
  intro pins s σ H v u Q I r h
  exact wpAny_assign_Name (store_ok I hN hi hx r (fun s' I' => ⟨_, H, I', h⟩) hf)
def gNil : TGs := fun vs σ H Q => vs = [] ∧ Q σ H
def gCons (t : TG) (u : TGs) : TGs := fun vs σ H Q => ∃ v r, vs = v :: r ∧ t v σ H fun σ' H' => u r σ' H' Q
theorem pgs_nil : PGs X [] gNil := by
  intro pins s σ H vs us Q I r h
  obtain ⟨e, h⟩ := h
  subst e
  cases r
  exact assignInOrder_nil ⟨σ, H, I, h⟩
theorem pgs_cons {e : Expr} {es : List Expr} {t : TG} {u : TGs} (h1 : PG X e t) (h2 : PGs X es u)
    (hs : (assignEach (e :: es) X.env).map (·.2) = assign e X.env :: (assignEach es X.env).map (·.2) := by rfl) : PGs X (e :: es) (gCons t u) := by
  intro pins s σ H vs us Q I r h
  obtain ⟨v, vr, e1, h⟩ := h
  subst e1
  cases r with
  | cons r rr =>
    rw [hs]
    refine assignInOrder_cons (thn (h1 pins s σ H _ _ _ I r h) fun _ s1 ⟨σ1, H1, I1, q1⟩ => ?_)
    exact h2 pins s1 σ1 H1 _ _ Q I1 rr q1
def gTup (K : PySem.W.Frag) (n : Nat) (t : TGs) : TG := fun v σ H Q => ∃ a xs, v = .ref a ∧ SqT K H a xs ∧ xs.length = n ∧ t xs σ H Q
theorem pg_tup {es : List Expr} {k : Nat} {t : TGs} {n : Nat} (hc : X.calm = true) (h : PGs X es t)
    (hn : (assignEach es X.env).length = n := by rfl) (hst : (assignEach es X.env).findIdx? (·.1) = none := by rfl) : PG X (.Tuple es k pos) (gTup X.K n t) := by
  intro pins s σ H v u Q I r hw
  obtain ⟨a, xs, e1, hq, hl, hw⟩ := hw
  subst e1
  cases r
  obtain ⟨its, rv, ht, hz⟩ := I.tuple hq
  refine assign_Tuple_tuple (I.ok.hd hc) ht (by simp [hn, ← hl, rv.length]) hst fun h' hx => ?_
  have I1 : Inv X pins σ H { s with heap := h' } := I.kept (t' := s.toks) fun b o e => hx b o (Nat.ne_of_lt (Heap.lt_size e)) e
  exact h pins _ σ H xs _ Q I1 (by simpa using rv) hw
def gSub (to ti : TE) (t : TSet) : TG := fun v σ H Q => to σ H fun o H1 => ti σ H1 fun i H2 => t o i v H2 fun H3 => Q σ H3
def tAsg (te : TE) (g : TG) : TS := fun D σ H => te σ H fun x H1 => g x σ H1 D.nx
theorem ps_set {i : Nat} {x : Str} {e : Expr} {te : TE} {pos' : Pos} (hN : X.N.Nodup) (hi : X.N[i]? = some x) (hx : Loc X.env.scope x) (he : PE X e te) (hs : swapsWith e (some (.Name x pos')) pos.line X.env = pure false := by rfl) (hf : X.fn x = true ∨ X.env.scope.names.lookup x = some .local := by first | exact .inl rfl | exact .inr rfl | assumption) :
    PS X (.Assign [.Name x pos'] e pos) (tAsg te (gName i)) := by
  intro pins s σ H D I h
  refine wpAny_Assign_Name (thn (he pins s σ H _ I h) fun v s1 ⟨y, H1, I1, r1, q1⟩ => ?_) hs
  exact store_ok I1 hN hi hx r1 (fun s2 I2 => ⟨_, H1, I2, q1⟩) hf
def tPar (i j : Nat) (ta : TA) : TS := fun D σ H => ta σ H fun vs H1 => ∃ v w, vs = [v, w] ∧ D.nx ((σ.set i (some v)).set j (some w)) H1
def tAug (i : Nat) (te : TE) (ti : TIp) : TS := fun D σ H => ∃ x, σ[i]? = some (some x) ∧ te σ H fun y H1 => ti x y H1 fun z H2 => D.nx (σ.set i (some z)) H2
def tAugS (to ti te : TE) (tget : V → V → Hp → VK → Prop) (tip : TIp) (tset : TSet) : TS := fun D σ H => to σ H fun o H1 => ti σ H1 fun i H2 => tget o i H2 fun x H3 => te σ H3 fun y H4 => tip x y H4 fun z H5 => tset o i z H5 fun H6 => D.nx σ H6
def PGet (X : Cx) (t : V → V → Hp → VK → Prop) : Prop :=
  ∀ (pins : List (Addr × Obj)) (s : Shared) (σ : St) (H : Hp) (o i : V) (ov iv : Value) (Q : VK), Inv X pins σ H s → RelV o ov → RelV i iv → t o i H Q →
    wpAny (model X.prog X.w) X.A (getItem ov iv) (EP X pins σ Q) X.xe s
def ipI (f : Int → Int → Int) : TIp := fun x y H Q => ∃ i j, x = .int i ∧ y = .int j ∧ Q (.int (f i j)) H
end
section
variable {X : Cx} {pos : Pos}
def tWhile (c : TT) (tb : TS) : TS := fun D σ H => ∃ W : Nat → St → Hp → Prop, (∃ m, W m σ H) ∧ ∀ m σ H, W m σ H →
  c σ H fun b H1 => if b = true then ∃ N : St → Hp → Prop, (∀ σ' H', N σ' H' → ∃ m', m' < m ∧ W m' σ' H') ∧ tb { D with nx := N, ct := N, bk := D.nx } σ H1 else D.nx σ H1
theorem ps_while {c : Expr} {body : List Stmt} {tc : TT} {tb : TS} (hp : PassesOwn (model X.prog X.w) X.A X.env X.xe) (hc : PT X c tc) (hb : PSs X body tb) : PS X (.While c body [] pos) (tWhile tc tb) := by
  intro pins s σ H D I h
  obtain ⟨W, ⟨m0, w0⟩, turn⟩ := h
  refine wpAny_While (codeAny_whileLoop (fun n s' => ∃ σ' H', Inv X pins σ' H' s' ∧ W n σ' H') ?_ m0 ⟨σ, H, I, w0⟩)
  rintro n s1 ⟨σ1, H1, I1, w1⟩
  refine wpAny_passesOwn hp (thn (hc pins s1 σ1 H1 _ I1 (turn n σ1 H1 w1)) fun b s2 ⟨H2, I2, q2⟩ => ?_)
  cases b with
  | true =>
    obtain ⟨N, hN, q2⟩ := q2
    rw [if_pos rfl]
    refine wpAny_passesOwn hp (thn (hb pins s2 σ1 H2 _ I2 q2) fun f s3 q3 => ?_)
    cases f with
    | next =>
      obtain ⟨σ3, H3, I3, n3⟩ := q3
      obtain ⟨m', hm, w3⟩ := hN σ3 H3 n3
      exact ⟨m', hm, σ3, H3, I3, w3⟩
    | cont =>
      obtain ⟨σ3, H3, I3, n3⟩ := q3
      obtain ⟨m', hm, w3⟩ := hN σ3 H3 n3
      exact ⟨m', hm, σ3, H3, I3, w3⟩
    | brk => exact q3
    | ret v => exact q3
  | false =>
    rw [if_neg Bool.false_ne_true]
    exact wpAny_execs_nil ⟨σ1, H2, I2, q2⟩
end
structure It where
  go : Nat → Hp → Prop
  yld : Nat → Hp → V → Hp → Prop
  stop : Nat → Hp → Prop
def FpOk (X : Cx) (pins : List (Addr × Obj)) (H : Hp) (b : Addr) : Prop :=
  H b = none ∧ b ≠ X.env.locals ∧ b ∉ X.fs ∧ (b ∈ X.ex ∨ X.s₀.heap.objs.size ≤ b) ∧ (∀ x c, X.env.cells.lookup x = some c → c ≠ b) ∧ ∀ p ∈ X.pn ++ pins, p.1 ≠ b
theorem Inv.fpOk {X : Cx} {pins : List (Addr × Obj)} {σ : St} {H H' : Hp} {s : Shared} {b : Addr} (I : Inv X pins σ H s) (hb : s.heap.objs.size ≤ b) (hn : H' b = none) : FpOk X pins H' b := by
  refine ⟨hn, Nat.ne_of_gt (Nat.lt_of_lt_of_le I.lt hb), I.nofs hb, .inr (Nat.le_trans I.sz hb), fun x c e z => ?_, fun p hp z => ?_⟩
  · obtain ⟨v, q⟩ := I.cell x c e
    exact absurd (Nat.lt_of_lt_of_le q.lt (by rw [z]; exact hb)) (Nat.lt_irrefl _)
  · exact absurd (Nat.lt_of_lt_of_le (Heap.lt_size (I.pin p hp).1) (by rw [z]; exact hb)) (Nat.lt_irrefl _)
structure Turn (P : Program) (w : World) (K : PySem.W.Frag) (tg : Expr) (J : It) (fp : List Addr) (it : Addr) (tn : Nat → Heap → Prop) : Prop where
  mem : it ∈ fp
  obj : ∀ i h, tn i h → ∀ b ∈ fp, ∃ o, h.get? b = some o ∧ ∀ v, o.data ≠ .cell v
  keep : ∀ i h h', tn i h → (∀ b ∈ fp, ∀ o, h.get? b = some o → h'.get? b = some o) → tn i h'
  item : ∀ (X : Cx), X.prog = P → X.w = w → X.K = K → X.calm = true → ∀ (i : Nat) (pins : List (Addr × Obj)) (s : Shared) (σ : St) (H : Hp) (E : Value → Shared → Prop), Inv X pins σ H s → (∀ b ∈ fp, FpOk X pins H b) → tn i s.heap → J.go i H →
    wpAny (model P w) X.A (pyNext (.ref it)) (fun r s1 => ∃ u, r = some u ∧
      wpAny (model P w) X.A (letOwnedTupleGo tg (.ref it) u) (fun _ s2 => ∃ x H', Inv X pins σ H' s2 ∧ RelV x u ∧ J.yld i H x H' ∧ tn (i + 1) s2.heap ∧ ∀ b ∈ fp, H' b = none) E s1) E s
  done : ∀ (X : Cx), X.prog = P → X.w = w → X.K = K → X.calm = true → ∀ (i : Nat) (pins : List (Addr × Obj)) (s : Shared) (σ : St) (H : Hp) (E : Value → Shared → Prop), Inv X pins σ H s → (∀ b ∈ fp, FpOk X pins H b) → tn i s.heap → J.stop i H →
    wpAny (model P w) X.A (pyNext (.ref it)) (fun r s1 => r = none ∧ Inv X pins σ H s1) E s
  self : ∀ (A : Around) (i : Nat) (s : Shared) (Q : Value → Shared → Prop) (E : Value → Shared → Prop), tn i s.heap → Q (.ref it) s → wpAny (model P w) A (pyIter (.ref it)) Q E s
abbrev TI := St → Hp → (It → Hp → Prop) → Prop
def PIE (X : Cx) (pins : List (Addr × Obj)) (σ : St) (tg : Expr) (R : It → Hp → Prop) (itv : Value) (s2 : Shared) : Prop :=
  ∃ (it : Addr) (fp : List Addr) (tn : Nat → Heap → Prop) (J : It) (H' : Hp), itv = .ref it ∧ Inv X pins σ H' s2 ∧ Turn X.prog X.w X.K tg J fp it tn ∧ tn 0 s2.heap ∧ (∀ b ∈ fp, FpOk X pins H' b) ∧ R J H'
def PI (X : Cx) (tg iter : Expr) (wi : TI) : Prop :=
  ∀ (pins : List (Addr × Obj)) (s : Shared) (σ : St) (H : Hp) (R : It → Hp → Prop), Inv X pins σ H s → wi σ H R →
    wpAny (model X.prog X.w) X.A (eval iter X.env) (fun v s1 => wpAny (model X.prog X.w) X.A (pyIter v) (PIE X pins σ tg R) X.xe s1) X.xe s
theorem go_of {M : Model} {A : Around} {E : Value → Shared → Prop} {s : Shared} {tg : Expr} {it : Addr} {u : Value} {o : Obj} {n : String} {vs : Array Value} {Q : Unit → Shared → Prop} (ho : s.heap.get? it = some o) (hc : o.cls = .type n) (hd : o.data = .fields vs)
    (hn : ["enumerate", "zip", "dict_itemiterator", "dict_reverseitemiterator", "odict_iterator", "itertools.zip_longest", "itertools.pairwise"].contains n = false) (hQ : Q () s) : wpAny M A (letOwnedTupleGo tg (.ref it) u) Q E s := by
  unfold letOwnedTupleGo
  cases tg <;> first
    | exact wpAny_pure hQ
    | (cases u <;> first
        | exact wpAny_pure hQ
        | (refine wpAny_bind (wpAny_load ho ?_)
           rw [hc, hd]
           show wpAny M A (if (["enumerate", "zip", "dict_itemiterator", "dict_reverseitemiterator", "odict_iterator", "itertools.zip_longest", "itertools.pairwise"].contains n && vs[0]? == some (rawInt _)) = true then _ else _) Q E s
           rw [if_neg (by intro h; rw [hn, Bool.false_and] at h; cases h)]
           exact wpAny_pure hQ))
def Itl (K : PySem.W.Frag) (a : Addr) : It :=
  ⟨fun i H => ∃ xs x, SqL K H a xs ∧ xs[i]? = some x, fun i H x H' => H' = H ∧ ∀ xs, SqL K H a xs → xs[i]? = some x, fun i H => ∃ xs, SqL K H a xs ∧ xs.length ≤ i⟩
def Itt (K : PySem.W.Frag) (a : Addr) : It :=
  ⟨fun i H => ∃ xs x, SqT K H a xs ∧ xs[i]? = some x, fun i H x H' => H' = H ∧ ∀ xs, SqT K H a xs → xs[i]? = some x, fun i H => ∃ xs, SqT K H a xs ∧ xs.length ≤ i⟩
def Itr (lo : Int) (n : Nat) : It := ⟨fun i _ => i < n, fun i H x H' => H' = H ∧ x = .int (lo + i), fun i _ => n ≤ i⟩
theorem turn_list {P : Program} {w : World} {K : PySem.W.Frag} {tg : Expr} (a it : Addr) : Turn P w K tg (Itl K a) [it] it (fun i h => h.IsListIter it a i) where
  mem := by simp
  obj := fun i h st b hb => by
    have e : b = it := by simpa using hb
    subst e
    obtain ⟨o, e, c, d⟩ := st
    exact ⟨o, e, fun v z => by rw [d] at z; cases z⟩
  keep := fun i h h' st k => st.at fun o e => k it (by simp) o e
  item := by
    intro X hP hw hK hc i pins s σ H E I hf st hg
    subst hP hw hK
    obtain ⟨xs, x, hq, hx⟩ := hg
    obtain ⟨its, rv, p, hz⟩ := I.list hq
    obtain ⟨u, hu, ru⟩ := rv.get hx
    obtain ⟨f0, f1, f2, f3, f4, f5⟩ := hf it (by simp)
    refine wpAny_pyNext_list_item st p.isList (x := u) (by simpa using hu) fun h' st' sb => ?_
    have I1 : Inv X pins σ H { s with heap := h' } := I.turned (t' := s.toks) (fun b o hb e => (sb.2 b hb).trans e) f0 f1 f3 f4 f5
    obtain ⟨o, e, c, d⟩ := id st'
    exact ⟨u, rfl, go_of (s := { s with heap := h' }) e c d (by decide) ⟨x, H, I1, ru, ⟨rfl, fun ys hy => by rw [I.list_inj hy hq]; exact hx⟩, st', fun b hb => (hf b hb).1⟩⟩
  done := by
    intro X hP hw hK hc i pins s σ H E I hf st hg
    subst hP hw hK
    obtain ⟨xs, hq, hx⟩ := hg
    obtain ⟨its, rv, p, hz⟩ := I.list hq
    obtain ⟨f0, f1, f2, f3, f4, f5⟩ := hf it (by simp)
    have hl := rv.length
    exact wpAny_pyNext_list_end (I.ok.hd hc) st p.isList (by simp; omega) fun h' eb => ⟨rfl, I.turned (t' := s.toks) (fun b o hb e => eb b o hb e) f0 f1 f3 f4 f5⟩
  self := fun _ _ _ _ _ st h => wpAny_pyIter_listiter st h
theorem turn_tuple {P : Program} {w : World} {K : PySem.W.Frag} {tg : Expr} (a it : Addr) : Turn P w K tg (Itt K a) [it] it (fun i h => h.IsTupleIter it a i) where
  mem := by simp
  obj := fun i h st b hb => by
    have e : b = it := by simpa using hb
    subst e
    obtain ⟨o, e, c, d⟩ := st
    exact ⟨o, e, fun v z => by rw [d] at z; cases z⟩
  keep := fun i h h' st k => st.at fun o e => k it (by simp) o e
  item := by
    intro X hP hw hK hc i pins s σ H E I hf st hg
    subst hP hw hK
    obtain ⟨xs, x, hq, hx⟩ := hg
    obtain ⟨its, rv, p, hz⟩ := I.tuple hq
    obtain ⟨u, hu, ru⟩ := rv.get hx
    obtain ⟨f0, f1, f2, f3, f4, f5⟩ := hf it (by simp)
    refine wpAny_pyNext_tuple_item st (show s.heap.IsTuple a its.toArray from p) (x := u) (by simpa using hu) fun h' st' sb => ?_
    have I1 : Inv X pins σ H { s with heap := h' } := I.turned (t' := s.toks) (fun b o hb e => (sb.2 b hb).trans e) f0 f1 f3 f4 f5
    obtain ⟨o, e, c, d⟩ := id st'
    exact ⟨u, rfl, go_of (s := { s with heap := h' }) e c d (by decide) ⟨x, H, I1, ru, ⟨rfl, fun ys hy => by rw [I.tuple_inj hy hq]; exact hx⟩, st', fun b hb => (hf b hb).1⟩⟩
  done := by
    intro X hP hw hK hc i pins s σ H E I hf st hg
    subst hP hw hK
    obtain ⟨xs, hq, hx⟩ := hg
    obtain ⟨its, rv, p, hz⟩ := I.tuple hq
    obtain ⟨f0, f1, f2, f3, f4, f5⟩ := hf it (by simp)
    have hl := rv.length
    exact wpAny_pyNext_tuple_end (I.ok.hd hc) st (show s.heap.IsTuple a its.toArray from p) (by simp; omega) fun h' eb => ⟨rfl, I.turned (t' := s.toks) (fun b o hb e => eb b o hb e) f0 f1 f3 f4 f5⟩
  self := fun _ _ _ _ _ st h => wpAny_pyIter_tupleiter st h
theorem turn_range {P : Program} {w : World} {K : PySem.W.Frag} {tg : Expr} (it : Addr) (lo : Int) (n : Nat) : Turn P w K tg (Itr lo n) [it] it (fun i h => IsRangeIter h it (lo + (i : Nat) * 1) ((n : Int) - (i : Nat)) 1) where
  mem := by simp
  obj := fun i h st b hb => by
    have e : b = it := by simpa using hb
    subst e
    exact ⟨_, st, fun v z => by
      have z' : Data.fields _ = Data.cell v := z
      cases z'⟩
  keep := fun i h h' st k => k it (by simp) _ st
  item := by
    intro X hP hw hK hc i pins s σ H E I hf st hg
    subst hP hw hK
    obtain ⟨f0, f1, f2, f3, f4, f5⟩ := hf it (by simp)
    have W := Walks.range (prog := X.prog) (w := X.w) (I.ok.hd hc) it lo 1 n
    refine W.item i s _ _ hg st fun v h' tk hv st' kk => ?_
    obtain ⟨t, rfl⟩ := hv
    have I1 : Inv X pins σ H { s with heap := h', toks := tk } := I.turned (fun b o hb e => kk b o (by simpa using hb) e) f0 f1 f3 f4 f5
    refine ⟨_, rfl, go_of (s := { s with heap := h', toks := tk }) (n := "range_iterator") st' rfl rfl (by decide) ⟨.int (lo + i), H, I1, ⟨t, ?_⟩, ⟨rfl, rfl⟩, st', fun b hb => (hf b hb).1⟩⟩
    rw [Int.mul_one]
  done := by
    intro X hP hw hK hc i pins s σ H E I hf st hg
    subst hP hw hK
    obtain ⟨f0, f1, f2, f3, f4, f5⟩ := hf it (by simp)
    exact wpAny_pyNext_range_end (I.ok.hd hc) st (by have : n ≤ i := hg; omega) fun h' eb => ⟨rfl, I.turned (t' := s.toks) (fun b o hb e => eb b o hb e) f0 f1 f3 f4 f5⟩
  self := fun _ _ _ _ _ st h => wpAny_pyIter_rangeiter st h
end L2
namespace L2
open PySem PySem.Spec PyProof.Rows
section
variable {X : Cx} {tg : Expr}
def iList (K : PySem.W.Frag) (tl : TE) : TI := fun σ H R => tl σ H fun x H1 => ∃ a, x = .ref a ∧ (∃ xs, SqL K H1 a xs) ∧ R (Itl K a) H1
def iTup (K : PySem.W.Frag) (tl : TE) : TI := fun σ H R => tl σ H fun x H1 => ∃ a, x = .ref a ∧ (∃ xs, SqT K H1 a xs) ∧ R (Itt K a) H1
theorem range_it {pins : List (Addr × Obj)} {σ : St} {H : Hp} {s : Shared} {R : It → Hp → Prop} {E : Value → Shared → Prop} {lo hi : Int} {t u v : Tok} {tk : Nat} (I : Inv X pins σ H s) (h1 : -(2 ^ 62) ≤ lo) (h2 : lo < 2 ^ 62) (h3 : -(2 ^ 62) ≤ hi) (h4 : hi < 2 ^ 62)
    (q : R (Itr lo (hi - lo).toNat) H) : wpAny (model X.prog X.w) X.A (pyIter (.ref s.heap.objs.size)) (PIE X pins σ tg R) E { s with heap := s.heap.push { cls := .type "range", data := .fields #[.int lo t, .int hi u, .int 1 v] }, toks := tk } := by
  refine wpAny_pyIter_range (IsRange.new ..) (small_one h1 h2 h3 h4) ?_
  have I1 : Inv X pins σ H { s with heap := s.heap.push { cls := .type "range", data := .fields #[.int lo t, .int hi u, .int 1 v] }, toks := tk } := I.kept fun b o e => Heap.get?_push_of_some _ e
  refine ⟨(s.heap.push { cls := .type "range", data := .fields #[.int lo t, .int hi u, .int 1 v] }).objs.size, [(s.heap.push { cls := .type "range", data := .fields #[.int lo t, .int hi u, .int 1 v] }).objs.size], _, _, H, rfl,
    I1.kept (t' := tk) fun b o e => Heap.get?_push_of_some _ e, turn_range _ lo (hi - lo).toNat, ?_, fun b hb => ?_, q⟩
  · have e1 : lo + ((0 : Nat) : Int) * 1 = lo := by simp
    have e2 : (((hi - lo).toNat : Nat) : Int) - ((0 : Nat) : Int) = Builtin.Range.rangeSize lo hi 1 := by rw [rangeSize_one]; split <;> omega
    show IsRangeIter _ _ (lo + ((0 : Nat) : Int) * 1) ((((hi - lo).toNat : Nat) : Int) - ((0 : Nat) : Int)) 1
    rw [e1, e2]
    exact Heap.get?_push_size _ rfl
  · have e : b = (s.heap.push { cls := .type "range", data := .fields #[.int lo t, .int hi u, .int 1 v] }).objs.size := by simpa using hb
    subst e
    exact I1.fpOk (Nat.le_refl _) (I1.hok.fresh (Nat.le_refl _))
def iRng1 (ta : TA) : TI := fun σ H R => ta σ H fun vs H1 => ∃ j : Int, vs = [.int j] ∧ -(2 ^ 62) ≤ j ∧ j < 2 ^ 62 ∧ R (Itr 0 j.toNat) H1
def iRng2 (ta : TA) : TI := fun σ H R => ta σ H fun vs H1 => ∃ i j : Int, vs = [.int i, .int j] ∧ (-(2 ^ 62) ≤ i ∧ i < 2 ^ 62 ∧ -(2 ^ 62) ≤ j ∧ j < 2 ^ 62) ∧ R (Itr i (j - i).toNat) H1
theorem pi_range1 {a : Expr} {ta : TA} {p pos : Pos} (hg : Gl X "range") (hm : X.mg "range" = none) (ha : PA X [a] ta) (hs : starEach [a] X.env = [(false, eval a X.env)] := by rfl) : PI X tg (.Call (.Name "range" p) [a] [] pos) (iRng1 ta) := by
  intro pins s σ H R I h
  refine Call_ (ld_blt I hg hm boot_range (PyProof.Rows.callWith_type1 (thn (ha pos pins s σ H _ I h) fun us s1 ⟨vs, H1, I1, r1, q1⟩ => ?_) hs rfl))
  obtain ⟨j, e, q1, q2, q⟩ := q1
  subst e
  cases r1 with
  | cons r rr =>
    cases rr
    obtain ⟨t, rfl⟩ := r
    exact call_range_1 (range_it I1 (by omega) (by omega) q1 q2 (by simpa using q))
def tFor (wi : TI) (g : TG) (tb : TS) : TS := fun D σ H => wi σ H fun J H1 => ∃ W : Nat → Nat → St → Hp → Prop, (∃ m, W 0 m σ H1) ∧ ∀ i m σ H, W i m σ H →
  (J.stop i H ∧ D.nx σ H) ∨ (J.go i H ∧ ∃ N : St → Hp → Prop, (∀ σ' H', N σ' H' → ∃ m', m' < m ∧ W (i + 1) m' σ' H') ∧ ∀ x H', J.yld i H x H' → g x σ H' fun σ2 H2 => tb { D with nx := N, ct := N, bk := D.nx } σ2 H2)
def pinsAt (fp : List Addr) (h : Heap) : List (Addr × Obj) := fp.filterMap fun b => (h.get? b).map fun o => (b, o)
theorem mem_pinsAt {fp : List Addr} {h : Heap} {b : Addr} {o : Obj} (hb : b ∈ fp) (e : h.get? b = some o) : (b, o) ∈ pinsAt fp h := List.mem_filterMap.mpr ⟨b, hb, by rw [e]; rfl⟩
theorem of_pinsAt {fp : List Addr} {h : Heap} {p : Addr × Obj} (hp : p ∈ pinsAt fp h) : p.1 ∈ fp ∧ h.get? p.1 = some p.2 := by
  obtain ⟨b, hb, e⟩ := List.mem_filterMap.mp hp
  cases q : h.get? b with
  | none => rw [q] at e; cases e
  | some o =>
    rw [q] at e
    have e' : (b, o) = p := Option.some.inj e
    subst e'
    exact ⟨hb, q⟩
theorem Inv.pinned {pins : List (Addr × Obj)} {σ : St} {H : Hp} {s : Shared} {fp : List Addr} (I : Inv X pins σ H s) (hf : ∀ b ∈ fp, FpOk X pins H b) (ho : ∀ b ∈ fp, ∃ o, s.heap.get? b = some o ∧ ∀ v, o.data ≠ .cell v) : Inv X (pins ++ pinsAt fp s.heap) σ H s :=
  I.pins_of fun p hp => (List.mem_append.mp hp).elim (fun z => I.pin p (List.mem_append_right _ z)) fun z => by
    obtain ⟨hb, e⟩ := of_pinsAt z
    obtain ⟨f0, f1, f2, _⟩ := hf p.1 hb
    obtain ⟨o, e', d⟩ := ho p.1 hb
    rw [e] at e'; cases e'
    exact ⟨e, f0, f1, f2, d⟩
theorem Inv.unpinned {pins pl : List (Addr × Obj)} {σ : St} {H : Hp} {s : Shared} (I : Inv X (pins ++ pl) σ H s) : Inv X pins σ H s := I.pins_of fun p hp => I.pin p (List.mem_append_right _ (List.mem_append_left _ hp))
theorem ps_for {iter : Expr} {body : List Stmt} {wi : TI} {g : TG} {tb : TS} {pos : Pos} (hp : PassesOwn (model X.prog X.w) X.A X.env X.xe) (hc : X.calm = true) (hi : PI X tg iter wi) (hg : PG X tg g) (hb : PSs X body tb)
    (hs : ∀ x, foldedSetIterable iter X.env x = pure x := by intro _; rfl) : PS X (.For tg iter body [] pos) (tFor wi g tb) := by
  intro pins s σ H D I h
  refine wpAny_For (thn (hi pins s σ H _ I h) fun v s1 h1 => thn h1 fun itv s2 h2 => ?_) hs
  obtain ⟨it, fp, tn, J, H2, e, I2, T, st2, f2, W, ⟨m0, w0⟩, turn⟩ := h2
  subst e
  have stat : ∀ {H' : Hp}, (∀ b ∈ fp, H' b = none) → ∀ b ∈ fp, FpOk X pins H' b := fun hn b hb => ⟨hn b hb, (f2 b hb).2⟩
  refine codeAny_forLoop_any (fun n s' => ∃ i σ' H', Inv X pins σ' H' s' ∧ tn i s'.heap ∧ (∀ b ∈ fp, H' b = none) ∧ W i n σ' H') ?_ m0 ⟨0, σ, H2, I2, st2, fun b hb => (f2 b hb).1, w0⟩
  rintro n s3 ⟨i, σ3, H3, I3, st3, fr3, w3⟩
  rcases turn i n σ3 H3 w3 with ⟨stop, qn⟩ | ⟨go, N, hN, step⟩
  · refine wpAny_passesOwn hp (thn (T.done X rfl rfl rfl hc i pins s3 σ3 H3 X.xe I3 (stat fr3) st3 stop) fun r s4 ⟨hr, I4⟩ => ?_)
    subst hr
    exact wpAny_execs_nil ⟨σ3, H3, I4, qn⟩
  · refine wpAny_passesOwn hp (thn (T.item X rfl rfl rfl hc i pins s3 σ3 H3 X.xe I3 (stat fr3) st3 go) fun r s4 ⟨u, hr, h4⟩ => ?_)
    subst hr
    refine wpAny_passesOwn hp (thn h4 fun _ s5 ⟨x, H5, I5, r5, y5, st5, fr5⟩ => ?_)
    have I5' := I5.pinned (stat fr5) (T.obj _ _ st5)
    refine wpAny_passesOwn hp (thn (hg _ s5 σ3 H5 x u _ I5' r5 (step x H5 y5)) fun _ s6 ⟨σ6, H6, I6, q6⟩ => ?_)
    refine wpAny_passesOwn hp (thn (hb _ s6 σ6 H6 _ I6 q6) fun f s7 q7 => ?_)
    have again : ∀ {σ7 : St} {H7 : Hp}, Inv X (pins ++ pinsAt fp s5.heap) σ7 H7 s7 → N σ7 H7 → ∃ m, m < n ∧ ∃ i σ' H', Inv X pins σ' H' s7 ∧ tn i s7.heap ∧ (∀ b ∈ fp, H' b = none) ∧ W i m σ' H' := fun {σ7 H7} I7 n7 => by
      obtain ⟨m', hm, w7⟩ := hN σ7 H7 n7
      refine ⟨m', hm, i + 1, σ7, H7, I7.unpinned, T.keep _ _ _ st5 fun b hb o e => (I7.pin (b, o) (List.mem_append_right _ (List.mem_append_right _ (mem_pinsAt hb e)))).1, fun b hb => ?_, w7⟩
      obtain ⟨o, e, d⟩ := T.obj _ _ st5 b hb
      exact (I7.pin (b, o) (List.mem_append_right _ (List.mem_append_right _ (mem_pinsAt hb e)))).2.1
    cases f with
    | next => obtain ⟨σ7, H7, I7, n7⟩ := q7; exact again I7 n7
    | cont => obtain ⟨σ7, H7, I7, n7⟩ := q7; exact again I7 n7
    | brk => obtain ⟨σ7, H7, I7, q7⟩ := q7; exact ⟨σ7, H7, I7.unpinned, q7⟩
    | ret v => obtain ⟨x7, σ7, H7, I7, r7, q7⟩ := q7; exact ⟨x7, σ7, H7, I7.unpinned, r7, q7⟩
end
end L2
namespace L2
open PySem PySem.Spec PyProof.Rows
abbrev R2 := V → V → Hp → VK → Prop
def OpR (X : Cx) (f : Value → Value → Sem Value) (r : R2) : Prop :=
  ∀ (pins : List (Addr × Obj)) (s : Shared) (σ : St) (H : Hp) (x y : V) (v u : Value) (Q : VK), Inv X pins σ H s → RelV x v → RelV y u → r x y H Q →
    wpAny (model X.prog X.w) X.A (f v u) (EP X pins σ Q) X.xe s
def UnR (X : Cx) (f : Value → Sem Value) (r : V → Hp → VK → Prop) : Prop :=
  ∀ (pins : List (Addr × Obj)) (s : Shared) (σ : St) (H : Hp) (x : V) (v : Value) (Q : VK), Inv X pins σ H s → RelV x v → r x H Q →
    wpAny (model X.prog X.w) X.A (f v) (EP X pins σ Q) X.xe s
def CallR (X : Cx) (f : Value) (r : List V → Hp → VK → Prop) : Prop :=
  ∀ (pins : List (Addr × Obj)) (s : Shared) (σ : St) (H : Hp) (xs : List V) (us : List Value) (Q : VK), Inv X pins σ H s → Vals xs us → r xs H Q →
    wpAny (model X.prog X.w) X.A (call f us) (EP X pins σ Q) X.xe s
def TruR (X : Cx) (r : V → Hp → (Bool → Hp → Prop) → Prop) : Prop :=
  ∀ (pins : List (Addr × Obj)) (s : Shared) (σ : St) (H : Hp) (x : V) (v : Value) (Q : Bool → Hp → Prop), Inv X pins σ H s → RelV x v → r x H Q →
    wpAny (model X.prog X.w) X.A (truthy v) (TP X pins σ Q) X.xe s
def tOp (r : R2) (ta tb : TE) : TE := fun σ H Q => ta σ H fun x H1 => tb σ H1 fun y H2 => r x y H2 Q
def tUn (r : V → Hp → VK → Prop) (ta : TE) : TE := fun σ H Q => ta σ H fun x H1 => r x H1 Q
def rI (C : Int → Int → Prop) (g : Int → Int → V) : R2 := fun x y H Q => ∃ i j, x = .int i ∧ y = .int j ∧ C i j ∧ Q (g i j) H
def rI0 (g : Int → Int → V) : R2 := fun x y H Q => ∃ i j, x = .int i ∧ y = .int j ∧ Q (g i j) H
def rU (g : Int → V) : V → Hp → VK → Prop := fun x H Q => ∃ i, x = .int i ∧ Q (g i) H
section
variable {X : Cx} {a b c : Expr} {ta tb tc : TE} {pos : Pos}
theorem binT (ha : PE X a ta) (hb : PE X b tb) {pins : List (Addr × Obj)} {s : Shared} {σ : St} {H : Hp} {R : V → V → Hp → Prop} (I : Inv X pins σ H s)
    (h : ta σ H fun x H1 => tb σ H1 fun y H2 => R x y H2) {Q : Value → Shared → Prop} {f : Value → Value → Sem Value}
    (hf : ∀ v u s2 x y H2, Inv X pins σ H2 s2 → RelV x v → RelV y u → R x y H2 → wpAny (model X.prog X.w) X.A (f v u) Q X.xe s2) :
    wpAny (model X.prog X.w) X.A (eval a X.env) (fun v s₁ => wpAny (model X.prog X.w) X.A (eval b X.env) (fun u s₂ => wpAny (model X.prog X.w) X.A (f v u) Q X.xe s₂) X.xe s₁) X.xe s := by
  refine thn (ha pins s σ H _ I h) fun v s1 ⟨x, H1, I1, r1, q1⟩ => ?_
  refine thn (hb pins s1 σ H1 _ I1 q1) fun u s2 ⟨y, H2, I2, r2, q2⟩ => ?_
  exact hf v u s2 x y H2 I2 r1 r2 q2
theorem pe_op {op : Operator} {r : R2} (ho : OpR X (binaryOp op) r) (ha : PE X a ta) (hb : PE X b tb) : PE X (.BinOp a op b pos) (tOp r ta tb) := by
  intro pins s σ H Q I h
  exact wpAny_BinOp (binT ha hb I h fun v u s2 x y H2 I2 rx ry q => ho pins s2 σ H2 x y v u Q I2 rx ry q)
theorem pe_un {op : UnaryOp} {r : V → Hp → VK → Prop} (ho : UnR X (unaryOp op) r) (ha : PE X a ta) : PE X (.UnaryOp op a pos) (tUn r ta) := by
  intro pins s σ H Q I h
  exact UnaryOp_ (thn (ha pins s σ H _ I h) fun v s1 ⟨x, H1, I1, r1, q1⟩ => ho pins s1 σ H1 x v Q I1 r1 q1)
theorem opI {f : Value → Value → Sem Value} {C : Int → Int → Prop} {g : Int → Int → Int}
    (rule : ∀ (i j : Int) (t u : Tok) (s : Shared) (Q : Value → Shared → Prop) (E : Value → Shared → Prop), C i j → Q (.int (g i j) s.toks) { s with toks := s.toks + 1 } → wpAny (model X.prog X.w) X.A (f (.int i t) (.int j u)) Q E s) :
    OpR X f (rI C fun i j => .int (g i j)) := by
  intro pins s σ H x y v u Q I rx ry h
  obtain ⟨i, j, rfl, rfl, hc, q⟩ := h
  obtain ⟨t, rfl⟩ := rx
  obtain ⟨t', rfl⟩ := ry
  exact rule i j t t' s _ _ hc ⟨.int (g i j), H, I.tok _, ⟨_, rfl⟩, q⟩
theorem opI0 {f : Value → Value → Sem Value} {g : Int → Int → Int}
    (rule : ∀ (i j : Int) (t u : Tok) (s : Shared) (Q : Value → Shared → Prop) (E : Value → Shared → Prop), Q (.int (g i j) s.toks) { s with toks := s.toks + 1 } → wpAny (model X.prog X.w) X.A (f (.int i t) (.int j u)) Q E s) :
    OpR X f (rI0 fun i j => .int (g i j)) := by
  intro pins s σ H x y v u Q I rx ry h
  obtain ⟨i, j, rfl, rfl, q⟩ := h
  obtain ⟨t, rfl⟩ := rx
  obtain ⟨t', rfl⟩ := ry
  exact rule i j t t' s _ _ ⟨.int (g i j), H, I.tok _, ⟨_, rfl⟩, q⟩
theorem opB0 {f : Value → Value → Sem Value} {g : Int → Int → Bool}
    (rule : ∀ (i j : Int) (t u : Tok) (s : Shared) (Q : Value → Shared → Prop) (E : Value → Shared → Prop), Q (.bool (g i j)) s → wpAny (model X.prog X.w) X.A (f (.int i t) (.int j u)) Q E s) :
    OpR X f (rI0 fun i j => .bl (g i j)) := by
  intro pins s σ H x y v u Q I rx ry h
  obtain ⟨i, j, rfl, rfl, q⟩ := h
  obtain ⟨t, rfl⟩ := rx
  obtain ⟨t', rfl⟩ := ry
  exact rule i j t t' s _ _ ⟨.bl (g i j), H, I, rfl, q⟩
def CDiv (i j : Int) : Prop := 0 < j ∧ j < 1073741824
def CDivN (i j : Int) : Prop := j ≠ 0 ∧ j.natAbs < 1073741824
def CPow (i j : Int) : Prop := 0 ≤ j ∧ j ≤ 1000000 ∧ i.natAbs < 2 ^ 64
def CMul (i j : Int) : Prop := (-(2 ^ 64) < i ∧ i < 2 ^ 64) ∨ (-(2 ^ 64) < j ∧ j < 2 ^ 64)
theorem CMul.ok {i j : Int} (h : CMul i j) : IntMulOk i j := by
  rcases h with ⟨h1, h2⟩ | ⟨h1, h2⟩
  · exact .of_left (intBits_le_64 h1 h2)
  · exact .of_right (intBits_le_64 h1 h2)
theorem op_add : OpR X (binaryOp .Add) (rI0 fun i j => .int (i + j)) := opI0 fun _ _ _ _ _ _ _ q => add_int q
theorem op_sub : OpR X (binaryOp .Sub) (rI0 fun i j => .int (i - j)) := opI0 fun _ _ _ _ _ _ _ q => sub_int q
theorem op_mul : OpR X (binaryOp .Mult) (rI CMul fun i j => .int (i * j)) := opI fun _ _ _ _ _ _ _ hc q => mul_int q hc.ok
theorem op_fdiv : OpR X (binaryOp .FloorDiv) (rI CDiv fun i j => .int (i / j)) := opI fun i j _ _ _ _ _ hc q => by
  have h1 : (0 : Int) < j := hc.1
  have h2 : j < 1073741824 := hc.2
  exact floordiv_int (by omega) (by rw [Int.fdiv_eq_ediv_of_nonneg i (by omega)]; exact q) (.inl (PyProof.noPylong_small (by omega)))
theorem op_mod : OpR X (binaryOp .Mod) (rI (fun _ j => 0 < j) fun i j => .int (i % j)) := opI fun i j _ _ _ _ _ hc q => by
  have h1 : (0 : Int) < j := hc
  exact mod_int' (by omega) (by rw [Int.fmod_eq_emod_of_nonneg i (by omega)]; exact q)
theorem op_pow : OpR X (binaryOp .Pow) (rI CPow fun i j => .int (i ^ j.toNat)) := opI fun _ _ _ _ _ _ _ hc q => pow_int_small hc.1 hc.2.1 hc.2.2 q
theorem unI {f : Value → Sem Value} {g : Int → Int}
    (rule : ∀ (i : Int) (t : Tok) (s : Shared) (Q : Value → Shared → Prop) (E : Value → Shared → Prop), Q (.int (g i) s.toks) { s with toks := s.toks + 1 } → wpAny (model X.prog X.w) X.A (f (.int i t)) Q E s) :
    UnR X f (rU fun i => .int (g i)) := by
  intro pins s σ H x v Q I rx h
  obtain ⟨i, rfl, q⟩ := h
  obtain ⟨t, rfl⟩ := rx
  exact rule i t s _ _ ⟨.int (g i), H, I.tok _, ⟨_, rfl⟩, q⟩
theorem un_neg : UnR X (unaryOp .USub) (rU fun i => .int (-i)) := unI fun _ _ _ _ _ q => neg_int q
end
def scal : V → V → Bool
  | .non, .non => true | .non, .int _ => true | .int _, .non => true | .non, .bl _ => true | .bl _, .non => true | .non, .str _ => true | .str _, .non => true
  | .int _, .int _ => true | .bl _, .bl _ => true | .str _, .str _ => true | .byt _, .byt _ => true
  | .int _, .str _ => true | .str _, .int _ => true | .bl _, .str _ => true | .str _, .bl _ => true
  | _, _ => false
def rEq : R2 := fun x y H Q => scal x y = true ∧ Q (.bl (decide (x = y))) H
def rNe : R2 := fun x y H Q => scal x y = true ∧ Q (.bl (!decide (x = y))) H
section
variable {X : Cx} {a b c : Expr} {ta tb tc : TE} {pos : Pos}
theorem fin_bl {pins : List (Addr × Obj)} {σ : St} {H : Hp} {s : Shared} {Q : VK} {k k' : Bool} (I : Inv X pins σ H s) (q : Q (.bl k) H) (e : k = k') : EP X pins σ Q (.bool k') s := by
  subst e
  exact ⟨.bl k, H, I, rfl, q⟩
theorem op_lt : OpR X (compareOp .Lt) (rI0 fun i j => .bl (decide (i < j))) := opB0 fun _ _ _ _ _ _ _ q => lt_int q
theorem op_le : OpR X (compareOp .LtE) (rI0 fun i j => .bl (decide (i ≤ j))) := opB0 fun _ _ _ _ _ _ _ q => le_int q
theorem op_gt : OpR X (compareOp .Gt) (rI0 fun i j => .bl (decide (j < i))) := opB0 fun _ _ _ _ _ _ _ q => gt_int q
theorem op_lt_str : OpR X (compareOp .Lt) (fun x y H Q => ∃ i j, x = .str i ∧ y = .str j ∧ Q (.bl (decide (i.cps.toList < j.cps.toList))) H) := by
  intro pins s σ H x y v u Q I rx ry h
  obtain ⟨i, j, rfl, rfl, q⟩ := h
  obtain ⟨t, rfl⟩ := rx
  obtain ⟨t', rfl⟩ := ry
  exact lt_str (fin_bl I q rfl)
def isObj : HO → Bool
  | .lst _ => true
  | .ins _ _ _ => true
  | _ => false
theorem OpR.or {f : Value → Value → Sem Value} {r r' : R2} (h : OpR X f r) (h' : OpR X f r') : OpR X f (fun x y H Q => r x y H Q ∨ r' x y H Q) := by
  intro pins s σ H x y v u Q I rx ry q
  rcases q with q | q
  · exact h pins s σ H x y v u Q I rx ry q
  · exact h' pins s σ H x y v u Q I rx ry q
theorem nomark (b : Expr) {op : CmpOp} (h : op ≠ .In := by decide) (h2 : op ≠ .NotIn := by decide) : behindInMarks op b = false := by
  have e1 : (op == CmpOp.In) = false := by cases op <;> first | rfl | exact absurd rfl h
  have e2 : (op == CmpOp.NotIn) = false := by cases op <;> first | rfl | exact absurd rfl h2
  cases b <;> simp [behindInMarks, e1, e2]
theorem pe_cmpR {op : CmpOp} {r : R2} (ho : OpR X (compareOp op) r) (ha : PE X a ta) (hb : PE X b tb) (hm : behindInMarks op b = false) : PE X (.Compare a [op] [b] pos) (tOp r ta tb) := by
  intro pins s σ H Q I h
  exact wpAny_Compare1 (binT ha hb I h fun v u s2 x y H2 I2 rx ry q => ho pins s2 σ H2 x y v u Q I2 rx ry q) hm
def tTest (t : TE) : TT := fun σ H Q => t σ H fun x H' => ∃ k, x = .bl k ∧ Q k H'
theorem pt_cmpR {op : CmpOp} {r : R2} (ho : OpR X (compareOp op) r) (ha : PE X a ta) (hb : PE X b tb) (hm : behindInMarks op b = false) : PT X (.Compare a [op] [b] pos) (tTest (tOp r ta tb)) := by
  intro pins s σ H Q I h
  refine wpAny_isTrue_Compare1 (thn (ha pins s σ H _ I h) fun v s1 ⟨x, H1, I1, r1, q1⟩ => thn (hb pins s1 σ H1 _ I1 q1) fun u s2 ⟨y, H2, I2, r2, q2⟩ =>
    thn (ho pins s2 σ H2 x y v u _ I2 r1 r2 q2) fun c s3 ⟨z, H3, I3, r3, k, e, q3⟩ => ?_) hm
  subst e
  cases r3
  exact wpAny_truthy_bool ⟨H3, I3, q3⟩
def tChain (r r' : R2) (ta tb tc : TE) : TE := fun σ H Q => ta σ H fun x H1 => tb σ H1 fun y H2 => r x y H2 fun z H3 => ∃ k, z = .bl k ∧
  (if k = true then tc σ H3 fun w' H4 => r' y w' H4 Q else Q (.bl false) H3)
def TruV (K : PySem.W.Frag) (x : V) (H : Hp) (k : Bool) : Prop :=
  match x with
  | .non => k = false
  | .bl b => k = b
  | .int i => k = (i != 0)
  | .str y => y.length ≤ sizeLine ∧ k = ((y.length : Int) != 0)
  | .byt y => y.size ≤ sizeLine ∧ k = ((y.size : Int) != 0)
  | .ref p => (∃ xs, SqL K H p xs ∧ k = !xs.isEmpty) ∨ (∃ xs, SqT K H p xs ∧ k = !xs.isEmpty) ∨ ∃ kvs, H p = some (.dK kvs) ∧ k = !kvs.isEmpty
  | _ => False
theorem isEmpty_kv {κ : Type} {kvs : List (κ × V)} {vs : List (κ × Value)} (r : KV kvs vs) : (!vs.isEmpty) = !kvs.isEmpty := by
  cases r <;> rfl
theorem isEmpty_of {xs : List V} {its : List Value} (r : Vals xs its) : (!its.toArray.isEmpty) = !xs.isEmpty := by
  cases r <;> simp
theorem line63 : (sizeLine : Nat) < 2 ^ 63 := by rw [sizeLine_eq]; decide
theorem tru_ok : TruR X (fun x H Q => ∃ k, TruV X.K x H k ∧ Q k H) := by
  intro pins s σ H x v Q I rx h
  obtain ⟨k, e, q⟩ := h
  have hl := line63
  have hs : sizeLine = 16777216 := sizeLine_eq
  cases x with
  | non =>
    cases rx
    have e' : k = false := e
    subst e'
    exact truthy_none ⟨H, I, q⟩
  | bl b =>
    cases rx
    have e' : k = b := e
    subst e'
    exact wpAny_truthy_bool ⟨H, I, q⟩
  | int i =>
    obtain ⟨t, rfl⟩ := rx
    have e' : k = (i != 0) := e
    subst e'
    exact PySem.P.truthy_int ⟨H, I, q⟩
  | str y =>
    obtain ⟨t, rfl⟩ := rx
    obtain ⟨hy, e'⟩ : y.length ≤ sizeLine ∧ k = ((y.length : Int) != 0) := e
    subst e'
    exact PySem.P.truthy_str (by omega) ⟨H, I.tok _, q⟩
  | byt y =>
    obtain ⟨t, rfl⟩ := rx
    obtain ⟨hy, e'⟩ : y.size ≤ sizeLine ∧ k = ((y.size : Int) != 0) := e
    subst e'
    exact PySem.W.truthy_bytes (by omega) ⟨H, I.tok _, q⟩
  | ref p =>
    cases rx
    have e' : (∃ xs, SqL X.K H p xs ∧ k = !xs.isEmpty) ∨ (∃ xs, SqT X.K H p xs ∧ k = !xs.isEmpty) ∨ ∃ kvs, H p = some (.dK kvs) ∧ k = !kvs.isEmpty := e
    rcases e' with ⟨xs, hx, e'⟩ | ⟨xs, hx, e'⟩ | ⟨kvs, hx, e'⟩
    · subst e'
      obtain ⟨its, r, pl, hz⟩ := I.list hx
      have hlen := r.length
      exact wpAny_truthy_list pl.isList (by simp only [List.size_toArray]; omega) ⟨H, I.tok _, by rw [isEmpty_of r]; exact q⟩
    · subst e'
      obtain ⟨its, r, pl, hz⟩ := I.tuple hx
      have hlen := r.length
      exact truthy_tuple pl (by simp only [List.size_toArray]; omega) ⟨H, I.tok _, by rw [isEmpty_of r]; exact q⟩
    · subst e'
      obtain ⟨hz, hS, vs, r, m⟩ : kvs.length ≤ sizeLine ∧ (p == sysModules) = false ∧ ∃ vs, KV kvs vs ∧ s.heap.DictOf (mixKind X.prog X.w) p vs := I.hok p _ hx
      have hlen : kvs.length = vs.length := Paired.length r
      exact wpAny_truthy_dict hS m (by omega) ⟨H, I.tok _, by rw [isEmpty_kv r]; exact q⟩
  | _ => exact (show False from e).elim
theorem pt_truth (ha : PE X a ta) (he : ∀ whole, isTrue a X.env whole = (do let v ← whole; standAt a.pos; holding [v] (truthy v))) :
    PT X a (fun σ H Q => ta σ H fun x H' => ∃ k, TruV X.K x H' k ∧ Q k H') := by
  intro pins s σ H Q I h
  exact isTrue_plain (thn (ha pins s σ H _ I h) fun v s1 ⟨x, H1, I1, r1, q1⟩ => tru_ok pins s1 σ H1 x v Q I1 r1 q1) (he _)
theorem op_add_str : OpR X (binaryOp .Add) (fun x y H Q => ∃ i j, x = .str i ∧ y = .str j ∧ i.length + j.length ≤ sizeLine ∧ Q (.str (i ++ j)) H) := by
  intro pins s σ H x y v u Q I rx ry h
  obtain ⟨i, j, rfl, rfl, hz, q⟩ := h
  obtain ⟨t, rfl⟩ := rx
  obtain ⟨t', rfl⟩ := ry
  exact add_str (fun t' tk => ⟨.str (i ++ j), H, I.tok _, ⟨_, rfl⟩, q⟩) hz
def PlainIxT (b : Expr) : Prop := ∀ o i, subscripted b false o i = operate [o, i] (getItem o i)
theorem vals1 {x : V} {us : List Value} (r : Vals [x] us) : ∃ u, us = [u] ∧ RelV x u := by
  cases r with
  | cons r1 r2 => cases r2; exact ⟨_, rfl, r1⟩
theorem vals2 {x y : V} {us : List Value} (r : Vals [x, y] us) : ∃ u w', us = [u, w'] ∧ RelV x u ∧ RelV y w' := by
  cases r with
  | cons r1 r2 =>
    cases r2 with
    | cons r3 r4 => cases r4; exact ⟨_, _, rfl, r1, r3⟩
theorem call_max2 (hc : X.calm = true) : CallR X (.builtin "max") (fun xs H Q => ∃ i j, xs = [.int i, .int j] ∧ Q (.int (if j > i then j else i)) H) := by
  intro pins s σ H xs us Q I r h
  obtain ⟨i, j, rfl, q⟩ := h
  obtain ⟨u, w', rfl, ⟨t, rfl⟩, ⟨t', rfl⟩⟩ := vals2 r
  refine max_two_ints (I.ok.hd hc) fun h' tk k => ⟨_, H, I.kept k, ?_, q⟩
  by_cases hj : j > i
  · rw [if_pos hj, if_pos hj]; exact ⟨_, rfl⟩
  · rw [if_neg hj, if_neg hj]; exact ⟨_, rfl⟩
theorem call_str_int : CallR X (.type "str") (fun xs H Q => ∃ i, xs = [.int i] ∧ i.natAbs.log2 < 1920 ∧ Q (.str (toString i)) H) := by
  intro pins s σ H xs us Q I r h
  obtain ⟨i, rfl, hz, q⟩ := h
  obtain ⟨u, rfl, t, rfl⟩ := vals1 r
  exact PySem.P.str_of_int hz ⟨.str _, H, I.tok _, ⟨_, rfl⟩, q⟩
def LenV (K : PySem.W.Frag) (x : V) (H : Hp) (n : Nat) : Prop :=
  match x with
  | .str y => y.length ≤ sizeLine ∧ n = y.length
  | .byt y => y.size ≤ sizeLine ∧ n = y.size
  | .ref p => (∃ xs, SqL K H p xs ∧ n = xs.length) ∨ ∃ xs, SqT K H p xs ∧ n = xs.length
  | _ => False
end
end L2
namespace L2
open PySem PySem.Spec PyProof.Rows
structure ObjM (h : Heap) (x dx C : Addr) (mA : Str → Option Value) : Prop where
  obj : h.get? x = some (PySem.W.instObj C dx)
  ns : h.Ns1 dx mA
  ne : dx ≠ x
theorem lookIn_ns {h : Heap} {dx : Addr} {mA : Str → Option Value} (n : h.Ns1 dx mA) : ∃ od, h.get? dx = some od ∧ ∀ name, PySem.W.lookIn name od = some (mA name) := by
  obtain ⟨o, es, ep, ho, hd, hk, _, hm⟩ := n
  refine ⟨o, ho, fun name => ?_⟩
  have e := hm name
  unfold nsFind findBy at e
  rw [← Array.find?_toList] at e
  unfold PySem.W.lookIn
  rw [hd]
  dsimp only
  split
  · rename_i y q
    rw [q] at e
    exact congrArg some e
  · rename_i q
    rw [q] at e
    have a : es.toList.any (·.refKey) = false := by
      rw [List.any_eq_false]
      intro y hy
      obtain ⟨z, t, hkey⟩ := hk y (Array.mem_toList_iff.mp hy)
      simp [DictEntry.refKey, hkey]
    have a' : ¬ es.toList.any (·.refKey) = true := by rw [a]; exact Bool.false_ne_true
    rw [if_neg a']
    exact congrArg some e
theorem ObjM.look {h : Heap} {x dx C : Addr} {mA : Str → Option Value} (I : ObjM h x dx C mA) : ∃ od, PySem.W.InstAt h x (PySem.W.instObj C dx) C (some od) ∧ ∀ name, PySem.W.lookIn name od = some (mA name) :=
  let ⟨od, ho, hl⟩ := lookIn_ns I.ns
  ⟨od, ⟨I.obj, rfl, rfl, ho⟩, hl⟩
section
variable {prog : Program} {w : World} {A : Around} {E : Value → Shared → Prop} {s : Shared} {K : PySem.W.Frag} {x dx C f : Addr} {mA : Str → Option Value} {name : Str} {v : Value}
end
def putF (f : Str) (v : V) : List (Str × V) → List (Str × V)
  | [] => [(f, v)]
  | (g, x) :: r => if g = f then (g, v) :: r else (g, x) :: putF f v r
section
variable {P : Program} {w : World} {H H' : Hp} {h h' : Heap} {a C dx : Addr} {fs fs' : List (Str × V)}
theorem ins_get (hok : HOk P w H h) (e : H a = some (.ins C dx fs)) : ∃ mA, ObjM h a dx C mA ∧ (∀ f, RelO (fs.lookup f) (mA f)) ∧ PySem.Within mA (fs.map (·.1)) ∧ fs.length ≤ 1000 ∧ H dx = some (.own a) := by
  obtain ⟨d, z, ne, ob, mA, n, r, q⟩ := (show ObjOk P w H h a (.ins C dx fs) from hok a _ e)
  exact ⟨mA, ⟨ob, n, ne⟩, r, q, z, d⟩
end
structure Cls (K : PySem.W.Frag) (C : Addr) : Prop where
  pg : PySem.W.plainGet K C Str.empty = true
  hd : PySem.W.hasDictIn K C = true
  po : PySem.W.plainOver K C = true
  sa : PySem.W.findIn K (.ref C) "__setattr__" = some (some (.builtin "object.__setattr__"))
theorem Cls.get {K : PySem.W.Frag} {C : Addr} (c : Cls K C) (f : Str) : PySem.W.plainGet K C f = true := c.pg
def NoAttr (K : PySem.W.Frag) (C : Addr) (f : Str) : Prop := PySem.W.findIn K (.ref C) f = some none
structure Con (K : PySem.W.Frag) (C : Addr) (f : Str) (v : V) (u : Value) : Prop where
  at_ : PySem.W.findIn K (.ref C) f = some (some u)
  rel : RelV v u
  get : PySem.W.specialIn K u "__get__" = some none
  cp : PySem.W.copiedNames.contains f = false
structure Meth (K : PySem.W.Frag) (C : Addr) (m : Str) (f : Addr) : Prop where
  at_ : PySem.W.findIn K (.ref C) m = some (some (.ref f))
  fn : PySem.W.isFn K (.ref f) = true
  kp : PySem.W.keepIn K (.ref f) = true
section
variable {X : Cx} {pins : List (Addr × Obj)} {σ : St} {H : Hp} {s : Shared} {a C dx : Addr} {fs : List (Str × V)} {f : Str} {v : V} {A : Around} {E : Value → Shared → Prop}
end
def tFld (K : PySem.W.Frag) (ta : TE) (f : Str) : TE := fun σ H Q => ta σ H fun x H1 => ∃ a C dx fs v, x = .ref a ∧ H1 a = some (.ins C dx fs) ∧ Cls K C ∧ NoAttr K C f ∧ fs.lookup f = some v ∧ Q v H1
def tCon (K : PySem.W.Frag) (ta : TE) (f : Str) : TE := fun σ H Q => ta σ H fun x H1 => ∃ a C dx fs v u, x = .ref a ∧ H1 a = some (.ins C dx fs) ∧ Cls K C ∧ Con K C f v u ∧ fs.lookup f = none ∧ Q v H1
def sFld (K : PySem.W.Frag) (ta tv : TE) (f : Str) : TS := fun D σ H => tv σ H fun y H1 => ta σ H1 fun x H2 => ∃ a C dx fs, x = .ref a ∧ H2 a = some (.ins C dx fs) ∧ Cls K C ∧ NoAttr K C f ∧ fs.length < 1000 ∧
  D.nx σ (upd H2 a (.ins C dx (putF f y fs)))
def InOp (X : Cx) (op : Operator) (rd : V → V → Hp → VK → Prop) : Prop :=
  ∀ (pins : List (Addr × Obj)) (s : Shared) (σ : St) (H : Hp) (x y : V) (u v : Value) (Q : VK), Inv X pins σ H s → RelV x u → RelV y v → rd x y H Q → wpAny (model X.prog X.w) X.A (inplaceOp op u v) (EP X pins σ Q) X.xe s
def sFldAug (K : PySem.W.Frag) (ta tv : TE) (rd : V → V → Hp → VK → Prop) (f : Str) : TS := fun D σ H => ta σ H fun x H1 => ∃ a C dx fs v, x = .ref a ∧ H1 a = some (.ins C dx fs) ∧ Cls K C ∧ NoAttr K C f ∧ fs.lookup f = some v ∧
  tv σ H1 fun y H2 => rd v y H2 fun z H3 => ∃ dx' fs', H3 a = some (.ins C dx' fs') ∧ fs'.length < 1000 ∧ D.nx σ (upd H3 a (.ins C dx' (putF f z fs')))
section
variable {X : Cx} {o e value : Expr} {f : Str} {pos pos' tpos : Pos} {ta tv : TE}
def rAdd : V → V → Hp → VK → Prop := fun x y H Q => ∃ i j, x = .int i ∧ y = .int j ∧ Q (.int (i + j)) H
def rSub : V → V → Hp → VK → Prop := fun x y H Q => ∃ i j, x = .int i ∧ y = .int j ∧ Q (.int (i - j)) H
end
section
variable {X : Cx} {pins : List (Addr × Obj)} {σ : St} {H : Hp} {s : Shared} {A : Around} {E : Value → Shared → Prop} {Q : Value → Shared → Prop} {c : Value} {b : Bool}
inductive TyOf (K : PySem.W.Frag) (H : Hp) : V → Value → Prop where
  | non : TyOf K H .non (.type "NoneType")
  | bl (x : Bool) : TyOf K H (.bl x) (.type "bool")
  | int (i : Int) : TyOf K H (.int i) (.type "int")
  | str (x : Str) : TyOf K H (.str x) (.type "str")
  | flt (x : UInt64) : TyOf K H (.flt x) (.type "float")
  | lst {a : Addr} {xs : List V} (e : H a = some (.lst xs)) : TyOf K H (.ref a) (.type "list")
  | frz {a : Addr} {o : Obj} {xs : List V} (e : H a = some (.frz o (.lst xs))) : TyOf K H (.ref a) (.type "list")
  | tup {a : Addr} {xs : List V} (e : H a = some (.tup xs)) : TyOf K H (.ref a) (.type "tuple")
  | dK {a : Addr} {kvs : List (Key × V)} (e : H a = some (.dK kvs)) : TyOf K H (.ref a) (.type "dict")
  | dT {a : Addr} {kvs : List (List Key × V)} (e : H a = some (.dT kvs)) : TyOf K H (.ref a) (.type "dict")
  | ins {a C dx : Addr} {fs : List (Str × V)} (e : H a = some (.ins C dx fs)) (cl : Cls K C) (ha : PySem.W.findIn K (.ref C) "__class__" = some (some (.builtin "object.__class__")))
      (hn : PySem.W.specialIn K (.builtin "object.__class__") "__get__" = some (some (.builtin "getset_descriptor.__get__"))) (htk : PySem.W.takesIn K (.builtin "object.__class__") = some true)
      (hm : PySem.W.mroIn K C (.type "object") = some true) : TyOf K H (.ref a) (.ref C)
theorem isinst_ok {x : V} {u t : Value} (I : Inv X pins σ H s) (rx : RelV x u) (ty : TyOf X.K H x t) (e : PySem.W.kitOne X.K t c = some b) (h : ∀ tk, Q (.bool b) { s with toks := tk }) :
    wpAny (model X.prog X.w) A (call (.builtin "isinstance") [u, c]) Q E s := by
  cases ty with
  | non => cases (show u = Value.none from rx); exact PySem.W.kia_one PySem.W.kitx_none I.kIn True.intro e (fun z => nomatch z) h
  | bl y => cases (show u = Value.bool y from rx); exact PySem.W.kia_one PySem.W.kitx_bool I.kIn True.intro e (fun z => nomatch z) h
  | int i => obtain ⟨t, q⟩ := (show ∃ t, u = Value.int i t from rx); cases q; exact PySem.W.kia_one PySem.W.kitx_int I.kIn True.intro e (fun z => nomatch z) h
  | str y => obtain ⟨t, q⟩ := (show ∃ t, u = Value.str y t from rx); cases q; exact PySem.W.kia_one PySem.W.kitx_str I.kIn True.intro e (fun z => nomatch z) h
  | flt y => obtain ⟨t, q⟩ := (show ∃ t, u = Value.float y t from rx); cases q; exact PySem.W.kia_one PySem.W.kitx_float I.kIn True.intro e (fun z => nomatch z) h
  | @lst a xs ea =>
    cases (show u = Value.ref a from rx)
    obtain ⟨_, _, n, _, h1⟩ := (show ObjOk X.prog X.w H s.heap a (.lst xs) from I.hok a _ ea)
    exact PySem.W.kia_one PySem.W.kitx_list I.kIn ⟨_, h1, rfl⟩ e (fun z => nomatch z) h
  | @frz a ob xs ea =>
    cases (show u = Value.ref a from rx)
    obtain ⟨_, _, _, n, _, h1⟩ := (show ObjOk X.prog X.w H s.heap a (.frz ob (.lst xs)) from I.hok a _ ea)
    exact PySem.W.kia_one PySem.W.kitx_list I.kIn ⟨_, h1, rfl⟩ e (fun z => nomatch z) h
  | @tup a xs ea =>
    cases (show u = Value.ref a from rx)
    obtain ⟨_, _, _, p⟩ := (show ObjOk X.prog X.w H s.heap a (.tup xs) from I.hok a _ ea)
    obtain ⟨o, h1, h2, _⟩ := p
    exact PySem.W.kia_one PySem.W.kitx_tuple I.kIn ⟨o, h1, h2⟩ e (fun z => nomatch z) h
  | @dK a kvs ea =>
    cases (show u = Value.ref a from rx)
    obtain ⟨_, _, vs, _, p⟩ := (show ObjOk X.prog X.w H s.heap a (.dK kvs) from I.hok a _ ea)
    obtain ⟨o, es, ep, h1, h2, _⟩ := p
    exact PySem.W.kia_one PySem.W.kitx_dict I.kIn ⟨o, h1, h2.1⟩ e (fun z => nomatch z) h
  | @dT a kvs ea =>
    cases (show u = Value.ref a from rx)
    obtain ⟨_, _, xs, _, o, es, ep, h1, h2, _⟩ := (show ObjOk X.prog X.w H s.heap a (.dT kvs) from I.hok a _ ea)
    exact PySem.W.kia_one PySem.W.kitx_dict I.kIn ⟨o, h1, h2.1⟩ e (fun z => nomatch z) h
  | @ins a C dx fs ea cl ha hn htk hm =>
    cases (show u = Value.ref a from rx)
    obtain ⟨mA, O, _⟩ := ins_get I.hok ea
    obtain ⟨od, J, _⟩ := O.look
    exact PySem.W.kia_one (PySem.W.kitx_own (cl.get _) cl.hd ha hn htk hm) I.kIn J e (fun z => nomatch z) h
end
end L2
namespace L2
open PySem PySem.Spec PyProof.Rows
structure Room (k : Nat) (A : Around) : Prop where
  hd : A.handled = none
  dp : A.depth + 3 * k + 5 < recursionLimit
  un : A.units + 16 * k + 200 < cLine
theorem Room.deeper {k : Nat} {A : Around} (r : Room (k + 1) A) (env : Env) : Room k (A.deeper env) :=
  ⟨r.hd, by have := r.dp; show A.depth + 1 + 3 * k + 5 < _; omega, by have := r.un; show A.units + 3 + 16 * k + 200 < _; omega⟩
theorem Room.depth {k : Nat} {A : Around} (r : Room k A) : A.depth < recursionLimit := by have := r.dp; omega
def tNil : TA := fun _ H Q => Q [] H
def tCons (ta : TE) (tr : TA) : TA := fun σ H Q => ta σ H fun x H1 => tr σ H1 fun xs H2 => Q (x :: xs) H2
section
variable {X : Cx} {e : Expr} {es : List Expr} {te : TE} {t : TA} {pos : Pos}
theorem pa_nil : PA X [] tNil := fun _ _ _ _ H Q I h => Calls.spliced_nil ⟨[], H, I, .nil, h⟩
theorem pa_cons (ha : PE X e te) (hr : PA X es t) (hs : starEach (e :: es) X.env = (false, eval e X.env) :: starEach es X.env := by rfl) : PA X (e :: es) (tCons te t) := by
  intro pos pins s σ H Q I h
  rw [hs]
  show wpAny _ _ (spliced ((false, eval e X.env) :: backTo pos (starEach es X.env))) _ _ s
  refine Calls.spliced_cons (thn (ha pins s σ H _ I h) fun u s1 ⟨x, H1, I1, r1, q1⟩ => ?_)
  exact thn (hr pos pins s1 σ H1 _ I1 q1) fun us s2 ⟨xs, H2, I2, r2, q2⟩ => ⟨x :: xs, H2, I2, .cons r1 r2, q2⟩
def tTup (t : TA) : TE := fun σ H Q => t σ H fun xs H1 => xs.length ≤ sizeLine ∧ ∀ p, H1 p = none → Q (.ref p) (upd H1 p (.tup xs))
def tLst (t : TA) : TE := fun σ H Q => t σ H fun xs H1 => xs.length ≤ sizeLine ∧ ∀ p, H1 p = none → Q (.ref p) (upd H1 p (.lst xs))
theorem pe_tup {x1} (h : PA X es t) : PE X (.Tuple es x1 pos) (tTup t) := by
  intro pins s σ H Q I hq
  refine wpAny_Tuple_spliced (thn (h pos pins s σ H _ I hq) fun us s1 ⟨xs, H1, I1, r, z, q⟩ => ⟨by rw [← r.length]; exact z, ?_⟩)
  have hf : H1 s1.heap.objs.size = none := I1.hok.fresh (Nat.le_refl _)
  refine ⟨.ref s1.heap.objs.size, upd H1 s1.heap.objs.size (.tup xs), I1.laid (t' := s1.toks) (fun b u e => Heap.get?_push_of_some _ e) (Nat.le_refl _) ?_, rfl, q _ hf⟩
  exact ⟨z, us, r, ⟨_, Heap.get?_push_size _ rfl, rfl, _, rfl⟩⟩
theorem pe_lst (h : PA X es t) : PE X (.List es pos) (tLst t) := by
  intro pins s σ H Q I hq
  refine wpAny_List_spliced (thn (h pos pins s σ H _ I hq) fun us s1 ⟨xs, H1, I1, r, z, q⟩ => ⟨by rw [← r.length]; exact z, ?_⟩)
  have hf : H1 s1.heap.objs.size = none := I1.hok.fresh (Nat.le_refl _)
  refine ⟨.ref s1.heap.objs.size, upd H1 s1.heap.objs.size (.lst xs), I1.laid (t' := s1.toks) (fun b u e => Heap.get?_push_of_some _ e) (Nat.le_refl _) ?_, rfl, q _ hf⟩
  exact ⟨z, us, 0, r, Heap.get?_push_size _ rfl⟩
end
abbrev Sp := List V → Hp → VK → XK → Prop
abbrev CXT := List Env → Hp → Shared → XK → Value → Shared → Prop
structure Env0 (P : Program) (w : World) (K : PySem.W.Frag) (mg : Str → Option Value) (base : Heap) (A : Around) (outer : List Env) (s : Shared) (H : Hp) : Prop where
  frames : A.frames = some outer
  mod : Mod K mg base
  bs : ∀ b o, base.get? b = some o → s.heap.get? b = some o ∧ H b = none
  bsz : base.objs.size ≤ s.heap.objs.size
  funs : s.heap.FunFrames base outer
  frf : ∀ b ∈ frs outer, H b = none
  hok : HOk P w H s.heap
  bare : AllBare s.gens
def CE (outer : List Env) (P : Program) (w : World) (H : Hp) (s : Shared) (Q : VK) (u : Value) (s' : Shared) : Prop :=
  ∃ v H', s'.os = s.os ∧ AllBare s'.gens ∧ Un (frs outer) [] H H' s.heap s'.heap ∧ HOk P w H' s'.heap ∧ RelV v u ∧ Q v H'
def CR (CX : CXT) (outer : List Env) (P : Program) (w : World) (H : Hp) (s : Shared) (Q : VK) (E : XK) (r : Result) (s' : Shared) : Prop :=
  match r with
  | .ok (.ret u) => CE outer P w H s Q u s'
  | .ok _ => False
  | .error e => CX outer H s E e s'
structure FnOk (P : Program) (w : World) (K : PySem.W.Frag) (mg : Str → Option Value) (base : Heap) (CX : CXT) (k : Nat) (f : Addr) (fd : FuncData) (ps : List Str) (sp : Sp) : Prop where
  len : ∀ vs H Q E, sp vs H Q E → vs.length = ps.length
  run : ∀ (A : Around) (outer : List Env) (s : Shared) (H : Hp) (args : Args) (us : List Value) (vs : List V) (Q : VK) (E : XK), Room k A → Env0 P w K mg base A outer s H → BindsTo s fd args (ps.zip us) → Vals vs us → sp vs H Q E →
    codeAny (model P w) A (.call (.ref f) args) (CR CX outer P w H s Q E) s
section
variable {X : Cx} {pins : List (Addr × Obj)} {σ : St} {H : Hp} {s s' : Shared}
theorem Inv.env0 (I : Inv X pins σ H s) : Env0 X.prog X.w X.K X.mg X.base X.A X.stack s H :=
  ⟨I.ok.frames, I.ok.mod, I.bs, Nat.le_trans I.ok.bsz I.sz, I.stack, I.stkFree, I.hok, I.bare⟩
theorem Inv.after {Q : VK} {u : Value} (I : Inv X pins σ H s) (h : CE X.stack X.prog X.w H s Q u s') : EP X pins σ Q u s' := by
  obtain ⟨v, H', os, bare, un, hok, r, q⟩ := h
  obtain ⟨hh, g, d, t, os'⟩ := s'
  obtain rfl : os' = s.os := os
  exact ⟨v, H', I.call (h' := hh) (g' := g) (d' := d) (t' := t) (ch := []) un hok bare (fun b z => absurd z (by simp)), r, q⟩
end
def tCall (sp : Sp) (dvs : List V) (E : XK) (t : TA) : TE := fun σ H Q => t σ H fun vs H1 => sp (vs ++ dvs) H1 Q E
def tMeth (C : Addr) (m : Str) (sp : Sp) (dvs : List V) (E : XK) (ta : TE) (t : TA) : TE := fun σ H Q => ta σ H fun x H1 => ∃ a dx fs, x = .ref a ∧ H1 a = some (.ins C dx fs) ∧ fs.lookup m = none ∧
  t σ H1 fun vs H2 => sp (x :: (vs ++ dvs)) H2 Q E
def tMake (C : Addr) (sp : Sp) (dvs : List V) (E : XK) (t : TA) : TE := fun σ H Q => t σ H fun vs H1 => ∀ x dx, H1 x = none → H1 dx = none → dx ≠ x →
  sp (.ref x :: (vs ++ dvs)) (upd (upd H1 dx (.own x)) x (.ins C dx [])) (fun v H2 => v = .non ∧ Q (.ref x) H2) E
def Binds (K : PySem.W.Frag) (fd : FuncData) (ps : List Str) (ds : List Value) : Prop :=
  ∀ (s : Shared) (us : List Value), K.In s.heap → (us ++ ds).length = ps.length → BindsTo s fd ⟨us, []⟩ (ps.zip (us ++ ds))
theorem Binds.all {K : PySem.W.Frag} {fd : FuncData} {ps : List Str} (h : ∀ us : List Value, us.length = ps.length → bindArgs fd ⟨us, []⟩ = pure (ps.zip us)) : Binds K fd ps [] := fun s us _ hl => by
  rw [List.append_nil] at hl ⊢
  exact .of_eq (h us hl)
def Passes (CX : CXT) (X : Cx) (E : XK) : Prop := ∀ (pins : List (Addr × Obj)) (σ : St) (H : Hp) (s : Shared) (e : Value) (s' : Shared), Inv X pins σ H s → CX X.stack H s E e s' → X.xe e s'
section
variable {X : Cx} {CX : CXT} {k : Nat} {f C : Addr} {fd : FuncData} {ps : List Str} {sp : Sp} {dvs : List V} {ds : List Value} {E : XK} {x m : Str} {p pos apos : Pos} {e o : Expr} {es : List Expr} {ta : TE} {t : TA}
theorem run_fn {pins : List (Addr × Obj)} {σ : St} {H : Hp} {s : Shared} {Q : VK} {us : List Value} {vs : List V} (F : FnOk X.prog X.w X.K X.mg X.base CX k f fd ps sp) (hr : Room k X.A) (hb : Binds X.K fd ps ds) (hd : Vals dvs ds) (hx : Passes CX X E)
    (I : Inv X pins σ H s) (r : Vals vs us) (h : sp (vs ++ dvs) H Q E) : wpAny (model X.prog X.w) X.A (call (.ref f) us) (EP X pins σ Q) X.xe s := by
  have r2 : Vals (vs ++ dvs) (us ++ ds) := r.append hd
  have hl : (us ++ ds).length = ps.length := by rw [← r2.length]; exact F.len _ _ _ _ h
  refine wpAny_call (codeAny_mono (F.run X.A X.stack s H ⟨us, []⟩ (us ++ ds) (vs ++ dvs) Q E hr I.env0 (hb s us I.kIn hl) r2 h) fun r s' hq => ?_)
  cases r with
  | error e => exact hx pins σ H s e s' I hq
  | ok fl =>
    cases fl with
    | ret u => exact I.after hq
    | next => exact False.elim hq
    | brk => exact False.elim hq
    | cont => exact False.elim hq
theorem pe_call (F : FnOk X.prog X.w X.K X.mg X.base CX k f fd ps sp) (hr : Room k X.A) (hg : Gl X x) (hm : X.mg x = some (.ref f)) (hk : PySem.W.keepIn X.K (.ref f) = true) (hb : Binds X.K fd ps ds) (hd : Vals dvs ds) (hx : Passes CX X E)
    (ha : PA X (e :: es) t) (hdb : (x == ("__debug__" : Str)) = false := by decide) (he : starEach (e :: es) X.env = (false, eval e X.env) :: starEach es X.env := by rfl) (hpl : (backTo pos (starEach es X.env)).any (·.1) = false := by rfl) :
    PE X (.Call (.Name x p) (e :: es) [] pos) (tCall sp dvs E t) := by
  intro pins s σ H Q I h
  refine wpAny_Call_Name_kw (ld_glob I hg hm ?_ hdb)
  refine PySem.W.callWith_K (h₀ := X.base) I.ok.mod.kin hk (thn (ha pos pins s σ H _ I h) fun us s1 ⟨vs, H1, I1, r, q⟩ => ⟨I1.kIn, ?_⟩) he hpl
  exact run_fn F hr hb hd hx I1 r q
structure Mk (K : PySem.W.Frag) (C f : Addr) : Prop where
  makes : PySem.W.makesIn K C = true
  init : PySem.W.findIn K (.ref C) "__init__" = some (some (.ref f))
  fn : PySem.W.isFn K (.ref f) = true
  kp : PySem.W.keepIn K (.ref C) = true
end
def PK (X : Cx) (kws : List Keyword) (t : TA) : Prop :=
  ∀ (pos : Pos) (pins : List (Addr × Obj)) (s : Shared) (σ : St) (H : Hp) (Q : List V → Hp → Prop), Inv X pins σ H s → t σ H Q → wpAny (model X.prog X.w) X.A (evalAll ((backToKw pos (keywordEach kws X.env)).map (·.2))) (AP X pins σ Q) X.xe s
section
variable {X : Cx} {CX : CXT} {k : Nat} {f C : Addr} {fd : FuncData} {ps ks : List Str} {sp : Sp} {E : XK} {x m : Str} {p pos apos kpos : Pos} {e o : Expr} {es : List Expr} {kws : List Keyword} {te ta : TE} {t tk : TA} {nm : Option Str}
structure KBinds (K : PySem.W.Frag) (fd : FuncData) (ps ks : List Str) (g : List Value → List Value → List Value) (gV : List V → List V → List V) : Prop where
  to : ∀ (s : Shared) (us ws : List Value), K.In s.heap → (g us ws).length = ps.length → BindsTo s fd ⟨us, ks.zip ws⟩ (ps.zip (g us ws))
  rel : ∀ {vs : List V} {us : List Value} {zs : List V} {ws : List Value}, Vals vs us → Vals zs ws → Vals (gV vs zs) (g us ws)
def tCallK (sp : Sp) (gV : List V → List V → List V) (E : XK) (t tk : TA) : TE := fun σ H Q => t σ H fun vs H1 => tk σ H1 fun zs H2 => sp (gV vs zs) H2 Q E
variable {g : List Value → List Value → List Value} {gV : List V → List V → List V}
end
structure FnScope (N P : List Str) (sc : Scope) : Prop where
  kind : sc.kind = .function
  co : sc.isCoroutine = false
  gen : sc.isGenerator = false
  nd : N.Nodup
  pre : N.take P.length = P
  par : ∀ x ∈ P, sc.names.lookup x = some .local ∨ sc.names.lookup x = some .cell
  nofree : ∀ y ∈ sc.names, y.2 ≠ .free
theorem bindL_out {kindOf : Str → Option NameKind} {x : Str} : ∀ {binds : List (Str × Value)} {m : Str → Option Value}, (∀ v, (x, v) ∉ binds) → bindL kindOf binds m x = m x
  | [], _, _ => rfl
  | (n, v) :: r, m, h => by
    unfold bindL
    rw [bindL_out fun w hw => h w (List.mem_cons_of_mem _ hw)]
    split
    · have : x ≠ n := by rintro rfl; exact h v List.mem_cons_self
      simp [this]
    · rfl
theorem bindC_out {kindOf : Str → Option NameKind} {x : Str} : ∀ {binds : List (Str × Value)} {m : Str → Option Value}, (∀ v, (x, v) ∉ binds) → bindC kindOf binds m x = m x
  | [], _, _ => rfl
  | (n, v) :: r, m, h => by
    unfold bindC
    rw [bindC_out fun w hw => h w (List.mem_cons_of_mem _ hw)]
    split
    · rfl
    · have : x ≠ n := by rintro rfl; exact h v List.mem_cons_self
      simp [this]
theorem bindL_get {kindOf : Str → Option NameKind} {x : Str} {v : Value} : ∀ {P : List Str} {vs : List Value} {i : Nat} {m : Str → Option Value}, P.Nodup → P[i]? = some x → vs[i]? = some v → kindOf x = some .local →
    bindL kindOf (P.zip vs) m x = some v
  | [], _, _, _, _, h, _, _ => by simp at h
  | _ :: _, [], _, _, _, _, h, _ => by simp at h
  | p :: P, w :: vs, 0, m, nd, h1, h2, hk => by
    simp at h1 h2; subst h1; subst h2
    show bindL kindOf ((p, w) :: P.zip vs) m p = _
    unfold bindL
    rw [bindL_out fun v hv => (List.nodup_cons.mp nd).1 (List.of_mem_zip hv).1, if_pos hk]
    simp
  | p :: P, w :: vs, i + 1, m, nd, h1, h2, hk => by
    show bindL kindOf ((p, w) :: P.zip vs) m x = _
    unfold bindL
    exact bindL_get (i := i) (List.nodup_cons.mp nd).2 (by simpa using h1) (by simpa using h2) hk
theorem bindC_get {kindOf : Str → Option NameKind} {x : Str} {v : Value} : ∀ {P : List Str} {vs : List Value} {i : Nat} {m : Str → Option Value}, P.Nodup → P[i]? = some x → vs[i]? = some v → kindOf x ≠ some .local →
    bindC kindOf (P.zip vs) m x = some v
  | [], _, _, _, _, h, _, _ => by simp at h
  | _ :: _, [], _, _, _, _, h, _ => by simp at h
  | p :: P, w :: vs, 0, m, nd, h1, h2, hk => by
    simp at h1 h2; subst h1; subst h2
    show bindC kindOf ((p, w) :: P.zip vs) m p = _
    unfold bindC
    rw [bindC_out fun v hv => (List.nodup_cons.mp nd).1 (List.of_mem_zip hv).1, if_neg hk]
    simp
  | p :: P, w :: vs, i + 1, m, nd, h1, h2, hk => by
    show bindC kindOf ((p, w) :: P.zip vs) m x = _
    unfold bindC
    exact bindC_get (i := i) (List.nodup_cons.mp nd).2 (by simpa using h1) (by simpa using h2) hk
def start (N : List Str) (vs : List V) : St := vs.map some ++ List.replicate (N.length - vs.length) none
def cxOf (CX : CXT) (P : Program) (w : World) (K : PySem.W.Frag) (mg : Str → Option Value) (base : Heap) (N : List Str) (qual : Str) (scope : Scope) (f : Addr) (cd : Value) (A : Around) (outer : List Env) (s : Shared) (H : Hp) (E : XK) : Cx where
  prog := P
  w := w
  K := K
  mg := mg
  base := base
  A := A.deeper (envOfC qual scope s.heap.objs.size f cd)
  N := N
  s₀ := s
  H₀ := H
  env := envOfC qual scope s.heap.objs.size f cd
  outer := outer
  stack := envOfC qual scope s.heap.objs.size f cd :: outer
  ex := []
  calm := true
  fn := fun _ => true
  pn := []
  xe := fun e s' => wpAny (model P w) (A.deeper (envOfC qual scope s.heap.objs.size f cd)) (leaving (envOfC qual scope s.heap.objs.size f cd) e) (fun _ s'' => CX outer H s E e s'') (fun e' s'' => CX outer H s E e' s'') s'
theorem cell_has {sc : Scope} {n : Nat} {x : Str} (h : sc.names.lookup x = some .cell) : ∃ c, (cellsFrom n sc.names []).lookup x = some c := by
  have q := PySem.W.cellsFrom_some sc.names n [] (.inl h)
  exact Option.isSome_iff_exists.mp q
theorem inv_start {CX : CXT} {P : Program} {w : World} {K : PySem.W.Frag} {mg : Str → Option Value} {base : Heap} {N ps : List Str} {qual : Str} {scope : Scope} {f : Addr} {cd : Value} {A : Around} {outer : List Env} {s s1 : Shared} {H : Hp} {E : XK} {us : List Value} {vs : List V}
    (S : FnScope N ps scope) (hd : A.handled = none) (e0 : Env0 P w K mg base A outer s H) (hl : vs.length = ps.length) (r : Vals vs us)
    (x : InCallC s s.heap.objs.size (bindL (envOfC qual scope s.heap.objs.size f cd).kindOf (ps.zip us) fun _ => none) (cellsFrom (s.heap.objs.size + 1) scope.names []) (bindC (envOfC qual scope s.heap.objs.size f cd).kindOf (ps.zip us) fun _ => none) s1) :
    Inv (cxOf CX P w K mg base N qual scope f cd A outer s H E) [] (start N vs) H s1 := by
  have hpl : ps.length ≤ N.length := by have := congrArg List.length S.pre; rw [List.length_take] at this; omega
  obtain ⟨h1, tk, rfl, hk⟩ := x.done
  have noA : ∀ b : Addr, b ∉ (cxOf CX P w K mg base N qual scope f cd A outer s H E).ex := fun b z => absurd (show b ∈ ([] : List Addr) from z) (by simp)
  refine ⟨⟨e0.mod, S.kind, rfl, rfl, Nat.le_refl _, fun y z c h1 h2 => ?_, fun y hy => ?_, fun y c _ h => ?_, fun _ => hd, Around.frames_deeper e0.frames, .inr ⟨rfl, rfl⟩, fun b z => absurd z (noA b), e0.bs, e0.bsz, fun b _ _ => noA b, fun b z => absurd z (noA b), e0.funs, e0.frf⟩,
    rfl, e0.bare, Un.kept hk, ⟨_, x.toInCall.ns, fun i y v h1 h2 h3 => ?_⟩, fun y c h => ⟨_, x.cell y c h⟩, e0.hok.fresh (Nat.le_refl _), fun y c h => ?_, fun p hp => absurd (show p ∈ ([] : List (Addr × Obj)) from hp) (by simp), e0.hok.kept hk, ?_⟩
  · exact name_of_addr x.apart (PySem.mem_of_lookup h1) (PySem.mem_of_lookup h2)
  · have hy : scope.names.lookup y = some .cell ∨ scope.names.lookup y = some .free := hy
    rcases hy with hy | hy
    · exact cell_has hy
    · exact absurd rfl (S.nofree _ (PySem.mem_of_lookup hy))
  · exact Nat.le_of_lt (x.above y c (PySem.mem_of_lookup h))
  · have hi : i < vs.length := by
      unfold start at h2
      by_cases hi : i < vs.length
      · exact hi
      · rw [List.getElem?_append_right (by simpa using hi)] at h2
        rw [List.getElem?_replicate] at h2
        split at h2 <;> cases h2
    have ha : vs[i]? = some v := by
      unfold start at h2
      rw [List.getElem?_append_left (by simpa using hi), List.getElem?_map] at h2
      cases e : vs[i]? with
      | none => rw [e] at h2; cases h2
      | some a => rw [e] at h2; cases h2; rfl
    obtain ⟨u, hu, rv⟩ := r.get ha
    have hp : ps[i]? = some y := by
      rw [← S.pre, List.getElem?_take_of_lt (by omega)]; exact h1
    have ndP : ps.Nodup := by rw [← S.pre]; exact S.nd.sublist (List.take_sublist _ _)
    refine ⟨u, rv, ?_⟩
    rcases S.par y (List.mem_of_getElem? hp) with k | k
    · exact .inl ⟨k, bindL_get ndP hp hu k⟩
    · obtain ⟨c, e⟩ := cell_has (n := s.heap.objs.size + 1) k
      refine .inr ⟨.inl k, c, e, ?_⟩
      have q := x.cell y c e
      rw [bindC_get ndP hp hu (by show scope.names.lookup y ≠ _; rw [k]; decide)] at q
      exact q
  · exact e0.hok.fresh (Nat.le_of_lt (x.above y c (PySem.mem_of_lookup h)))
  · unfold start
    show _ = N.length
    rw [List.length_append, List.length_map, List.length_replicate]
    omega
theorem fn_of {CX : CXT} {P : Program} {w : World} {K : PySem.W.Frag} {mg : Str → Option Value} {base : Heap} {k : Nat} {f : Addr} {name qual : Str} {params : Arguments} {body : List Stmt} {scope : Scope} {dV kV doc pm cdv ct oc : Value} {an od : Option Addr}
    {osl : Array (Option Value)} {N ps : List Str} {sp : Sp} (lk : K.lookup f = some ⟨oc, od, .func (PySem.W.fnOf name qual params body scope dV kV doc pm an cdv ct), osl⟩) (hcd : PySem.W.codeIn K cdv qual = true) (S : FnScope N ps scope)
    (len : ∀ vs H Q E, sp vs H Q E → vs.length = ps.length)
    (hbody : ∀ (A : Around) (outer : List Env) (s : Shared) (H : Hp) (vs : List V) (Q : VK) (E : XK), Room k (A.deeper (envOfC qual scope s.heap.objs.size f cdv)) → sp vs H Q E →
      ∃ t, PSs (cxOf CX P w K mg base N qual scope f cdv A outer s H E) body t ∧ t { nx := fun _ H' => Q .non H', rt := Q } (start N vs) H) :
    FnOk P w K mg base CX (k + 1) f (PySem.W.fnOf name qual params body scope dV kV doc pm an cdv ct) ps sp := by
  refine ⟨len, fun A outer s H args us vs Q E hr e0 hb r hsp => ?_⟩
  have hl := len _ _ _ _ hsp
  have KX : K.In s.heap := e0.mod.kin.keeps fun b o e => (e0.bs b o e).1
  have lim : s.heap.NoLimit := e0.mod.nolimit.keeps fun b o e => (e0.bs b o e).1
  have hkind : ∀ y ∈ ps.zip us, scope.names.lookup y.1 = some .local ∨ (scope.names.lookup y.1 = some .cell ∧ ((cellsFrom (s.heap.objs.size + 1) scope.names []).lookup y.1).isSome = true) := fun ⟨n, v⟩ hy => by
    rcases S.par n (List.of_mem_zip hy).1 with q | q
    · exact .inl q
    · exact .inr ⟨q, PySem.W.cellsFrom_some _ _ _ (.inl q)⟩
  refine codeAny_call_function hr.depth (KX _ _ lk) rfl S.co S.gen rfl (PySem.W.codeRec_of KX hcd) (hb _ _ _ _ ?_)
  refine wpAny_newFunctionEnv_cells S.kind hkind fun env he s1 x => ?_
  subst he
  refine ⟨lim.keeps x.toInCall.keep, codeAny_func ?_⟩
  obtain ⟨t, ht, hq⟩ := hbody A outer s H vs Q E (hr.deeper _) hsp
  have I : Inv (cxOf CX P w K mg base N qual scope f cdv A outer s H E) [] (start N vs) H s1 := inv_start S hr.hd e0 hl r x
  refine wpAny_mono (ht [] s1 (start N vs) H _ I hq) (fun fl s' hs => ?_) fun e s' hs => hs
  have fin : ∀ {σ' : St} {H' : Hp} {v : V} {u : Value}, Inv (cxOf CX P w K mg base N qual scope f cdv A outer s H E) [] σ' H' s' → RelV v u → Q v H' → CE outer P w H s Q u s' :=
    fun {σ' H' v u} J rv q => ⟨v, H', J.os, J.bare, J.base, J.hok, rv, q⟩
  cases fl with
  | ret u =>
    obtain ⟨v, σ', H', J, rv, q⟩ := hs
    exact fin J rv q
  | next =>
    obtain ⟨σ', H', J, q⟩ := hs
    exact fin (v := V.non) (u := Value.none) J rfl q
  | brk =>
    obtain ⟨_, _, _, q⟩ := hs
    exact False.elim q
  | cont =>
    obtain ⟨_, _, _, q⟩ := hs
    exact False.elim q
end L2
namespace L2
open PySem PySem.Spec PyProof.Rows
section
variable {X : Cx} {x : Str} {p pos : Pos} {e : Expr} {es : List Expr} {t : TA} {id T : String} {r : List V → Hp → VK → Prop}
def tCB (r : List V → Hp → VK → Prop) (t : TA) : TE := fun σ H Q => t σ H fun vs H1 => r vs H1 Q
theorem pe_callB (hc : CallR X (.builtin id) r) (hg : Gl X x) (hm : X.mg x = none) (hv : bootBuiltins x = some (.builtin id)) (ha : PA X (e :: es) t) (hn : x ≠ "__name__" := by decide) (hdb : (x == ("__debug__" : Str)) = false := by decide)
    (he : starEach (e :: es) X.env = (false, eval e X.env) :: starEach es X.env := by rfl) (hpl : (backTo pos (starEach es X.env)).any (·.1) = false := by rfl) : PE X (.Call (.Name x p) (e :: es) [] pos) (tCB r t) := by
  intro pins s σ H Q I h
  refine wpAny_Call_Name_kw (ld_blt I hg hm hv ?_ hn hdb)
  exact PyProof.Rows.callWith_builtin1 (thn (ha pos pins s σ H _ I h) fun us s1 ⟨vs, H1, I1, r1, q1⟩ => hc pins s1 σ H1 vs us Q I1 r1 q1) he hpl
theorem pe_callTy (hc : CallR X (.type T) r) (hg : Gl X x) (hm : X.mg x = none) (hv : bootBuiltins x = some (.type T)) (ha : PA X (e :: es) t) (hn : x ≠ "__name__" := by decide) (hdb : (x == ("__debug__" : Str)) = false := by decide)
    (he : starEach (e :: es) X.env = (false, eval e X.env) :: starEach es X.env := by rfl) (hpl : (backTo pos (starEach es X.env)).any (·.1) = false := by rfl) : PE X (.Call (.Name x p) (e :: es) [] pos) (tCB r t) := by
  intro pins s σ H Q I h
  refine wpAny_Call_Name_kw (ld_blt I hg hm hv ?_ hn hdb)
  exact PyProof.Rows.callWith_type1 (thn (ha pos pins s σ H _ I h) fun us s1 ⟨vs, H1, I1, r1, q1⟩ => hc pins s1 σ H1 vs us Q I1 r1 q1) he hpl
end
end L2
namespace HT
open PySem PyProof.Rows
def lexLt : List Int → List Int → Bool
  | [], [] => false
  | [], _ :: _ => true
  | _ :: _, [] => false
  | x :: xs, y :: ys => if x = y then lexLt xs ys else decide (x < y)
section
open PySem.SeqAt
open PySem.AutoSeq1 (wpAny_loadPart')
open PySem.MeetsSeq PySem.MeetsSeq2 PySem.MeetsSeq3
end
section
variable {prog : Program} {w : World} {A : Around} {E : Value → Shared → Prop} {s : Shared}
theorem cat_tup {t b : Addr} {vs ws : List Value} {Q : Value → Shared → Prop} (ht : IsTup s.heap t vs.toArray) (hb : IsTup s.heap b ws.toArray) (hv : vs ≠ [])
    (h1 : ws = [] → Q (.ref t) s) (h2 : ws ≠ [] → Q (.ref s.heap.objs.size) { s with heap := s.heap.push { cls := .type "tuple", data := .seq (vs ++ ws).toArray } })
    (hsz : vs.length + ws.length ≤ sizeLine) : wpAny (model prog w) A (binaryOp .Add (.ref t) (.ref b)) Q E s := by
  obtain ⟨⟨cls, dd, data, sl⟩, ho, hc, n, hd⟩ := id ht
  obtain ⟨⟨cls2, dd2, data2, sl2⟩, ho2, hc2, n2, hd2⟩ := id hb
  simp only at hc hd hc2 hd2
  subst hc hd hc2 hd2
  have e : vs.toArray ++ ws.toArray = (vs ++ ws).toArray := by simp
  by_cases hw : ws = []
  · exact concat_meets ⟨_, ho, rfl⟩ ⟨_, ho2, rfl⟩ noFill_tuple_add seq_tuple_add PySem.F.slot_tuple_add PySem.F.entry_tuple_add (PySem.F.args_tuple_add_2 _ _)
      (tuple_addW1 t b vs.toArray ws.toArray n n2 dd dd2 sl sl2 (by simpa using hv) (by simp [hw])) ⟨ho, ho2, h1 hw⟩
  · refine concat_meets ⟨_, ho, rfl⟩ ⟨_, ho2, rfl⟩ noFill_tuple_add seq_tuple_add PySem.F.slot_tuple_add PySem.F.entry_tuple_add (PySem.F.args_tuple_add_2 _ _)
      (tuple_addW2 t b vs.toArray ws.toArray n n2 dd dd2 sl sl2 (by simpa using hv) (by simpa using hw) (by rw [List.size_toArray, List.size_toArray]; exact hsz)) ⟨ho, ho2, ?_⟩
    rw [e]
    exact h2 hw
def sIx (n d : Nat) : Option Int → Nat
  | none => d
  | some v => if v < 0 then (v + (n : Int)).toNat else min v.toNat n
theorem sIx_none (n d : Nat) : sIx n d none = d := rfl
theorem sIx_nat (n d k : Nat) : sIx n d (some (k : Int)) = min k n := by
  show (if (k : Int) < 0 then ((k : Int) + (n : Int)).toNat else min (k : Int).toNat n) = min k n
  rw [if_neg (by omega), Int.toNat_natCast]
theorem sIx_le (n d : Nat) (hd : d ≤ n) (o : Option Int) : sIx n d o ≤ n := by
  cases o with
  | none => exact hd
  | some v =>
    show (if v < 0 then (v + (n : Int)).toNat else min v.toNat n) ≤ n
    by_cases hv : v < 0
    · rw [if_pos hv]; omega
    · rw [if_neg hv]; exact Nat.min_le_right _ _
theorem clip_eq (v : Int) (n d : Nat) : (if v < 0 then max (v + (n : Int)) 0 else min v (n : Int)) = ((sIx n d (some v) : Nat) : Int) := by
  show (if v < 0 then max (v + (n : Int)) 0 else min v (n : Int)) = (((if v < 0 then (v + (n : Int)).toNat else min v.toNat n) : Nat) : Int)
  by_cases hv : v < 0
  · simp only [if_pos hv]; omega
  · simp only [if_neg hv]; omega
theorem adjust_gen (lo hi : Option Int) (n : Nat) : Builtin.Slice.sliceAdjust lo hi 1 (n : Int) = (((sIx n 0 lo : Nat) : Int), ((sIx n n hi : Nat) : Int)) := by
  have h1 : ¬ ((1 : Int) < 0) := by omega
  unfold Builtin.Slice.sliceAdjust
  simp only [h1, if_false]
  refine Prod.ext ?_ ?_
  · cases lo with
    | none => rfl
    | some v => exact clip_eq v n 0
  · cases hi with
    | none => rfl
    | some v => exact clip_eq v n n
theorem places_gen (i j : Nat) : Builtin.Slice.slicePlaces (i : Int) (j : Int) 1 = j - i := by
  unfold Builtin.Slice.slicePlaces
  have h1 : (1 : Int) > 0 := by omega
  simp only [h1, if_true, Int.ediv_one]
  split <;> omega
theorem slicePart_ {v : Value} {o : Option Int} {Q : Option Int → Shared → Prop} (p : IsPart v o) (h : Q o s) : wpAny (model prog w) A (Builtin.Slice.slicePartIndex v) Q E s := by
  cases p with
  | none => exact slicePart_none h
  | int i t => exact slicePart_int h
theorem sliceApplied_gen {sl : Addr} {vl vu : Value} {lo hi : Option Int} {n : Nat} {Q : Int × Int × Nat → Shared → Prop} (hs : s.heap.IsSliceOf sl vl vu .none) (pl : IsPart vl lo) (pu : IsPart vu hi)
    (h : Q (((sIx n 0 lo : Nat) : Int), 1, sIx n n hi - sIx n 0 lo) s) : wpAny (model prog w) A (Builtin.Slice.sliceApplied (.ref sl) (pure (n : Int))) Q E s := by
  obtain ⟨os, hos, hcs, hds⟩ := id hs
  unfold Builtin.Slice.sliceApplied Builtin.Slice.sliceFields
  refine wpAny_bind (wpAny_bind (wpAny_field hos hds (x := vl) rfl (wpAny_bind (wpAny_field hos hds (x := vu) rfl (wpAny_bind (wpAny_field hos hds (x := .none) rfl (wpAny_pure ?_)))))))
  refine wpAny_bind (slicePart_none ?_)
  show wpAny _ _ (if ((1 : Int) == 0) = true then _ else _) _ _ s
  rw [if_neg (by decide)]
  refine wpAny_bind (slicePart_ pl (wpAny_bind (slicePart_ pu (wpAny_bind (wpAny_pure ?_)))))
  show wpAny _ _ (match Builtin.Slice.sliceAdjust lo hi 1 (n : Int) with | (lo, hi) => pure (lo, (1 : Int), Builtin.Slice.slicePlaces lo hi 1)) _ _ s
  rw [adjust_gen lo hi n]
  show wpAny _ _ (pure (((sIx n 0 lo : Nat) : Int), (1 : Int), Builtin.Slice.slicePlaces ((sIx n 0 lo : Nat) : Int) ((sIx n n hi : Nat) : Int) 1)) _ _ s
  rw [places_gen]
  exact wpAny_pure h
theorem pick_gen (xs : Array Value) (i k : Nat) : ((List.range k).filterMap fun (m : Nat) => xs[((i : Int) + (m : Int) * 1).toNat]?).toArray = ((xs.toList.drop i).take k).toArray := by
  have e : (fun (m : Nat) => xs[((i : Int) + (m : Int) * 1).toNat]?) = fun m => xs[i + m]? := by
    funext m
    have : ((i : Int) + (m : Int) * 1).toNat = i + m := by omega
    rw [this]
  rw [e]
  have := pick_run xs i k
  rw [List.filterMap_map] at this
  have e2 : ((fun x => xs[x]?) ∘ fun x => i + x) = fun m => xs[i + m]? := rfl
  rw [e2] at this
  rw [this]
theorem getItem_tuple_cut {t sl : Addr} {items : Array Value} {vl vu : Value} {lo hi : Option Int} {Q : Value → Shared → Prop} (ht : IsTup s.heap t items) (hs : s.heap.IsSliceOf sl vl vu .none) (pl : IsPart vl lo) (pu : IsPart vu hi)
    (hw : ¬ (sIx items.size 0 lo = 0 ∧ sIx items.size items.size hi = items.size))
    (h : Q (.ref s.heap.objs.size) { s with heap := s.heap.push { cls := .type "tuple", data := .seq ((items.toList.drop (sIx items.size 0 lo)).take (sIx items.size items.size hi - sIx items.size 0 lo)).toArray } })
    (hsz : items.size ≤ sizeLine) : wpAny (model prog w) A (getItem (.ref t) (.ref sl)) Q E s := by
  have htake : sizeOk (.seq ((items.toList.drop (sIx items.size 0 lo)).take (sIx items.size items.size hi - sIx items.size 0 lo)).toArray) := by
    show ((items.toList.drop (sIx items.size 0 lo)).take (sIx items.size items.size hi - sIx items.size 0 lo)).toArray.size ≤ sizeLine
    rw [List.size_toArray, List.length_take, List.length_drop, Array.length_toList]
    omega
  have hj : sIx items.size items.size hi ≤ items.size := sIx_le _ _ (Nat.le_refl _) hi
  obtain ⟨os, hos, hcs, hds⟩ := id hs
  have hTs : s.TypeIs (.ref sl) "slice" := ⟨os, hos, hcs⟩
  unfold getItem
  try with_reducible refine wpAny_holding ?_
  first | refine wpAny_bind (wpAny_pure ?_) | skip
  refine wpAny_bind (wpAny_sequenceKey ht.typeIs (by decide) ?_)
  refine wpAny_bind (wpAny_callSpecial?_slot (name := Str.ofString "__getitem__") ht.typeIs PyProof.Rows.slot_tuple_getitem
    (wpAny_call_entry PyProof.Rows.slot_tuple_getitem ht.typeIs entry_tuple_getitem ?_ (args_tuple_getitem _ _)))
  show wpAny _ _ (Builtin.Tuple.tupleItemsOf (.ref t) >>= _) _ _ s
  refine wpAny_bind (tupleItemsOf_ ht ?_)
  refine wpAny_bind (wpAny_typeOf hTs ?_)
  rw [if_pos (by decide)]
  refine wpAny_bind (sliceApplied_gen hs pl pu ?_)
  have hno : ¬ ((((sIx items.size 0 lo : Nat) : Int) == 0 && (1 : Int) == 1 && (sIx items.size items.size hi - sIx items.size 0 lo) == items.size) = true) := by
    intro q
    rw [Bool.and_eq_true, Bool.and_eq_true] at q
    have q1 : ((sIx items.size 0 lo : Nat) : Int) = 0 := eq_of_beq q.1.1
    have q2 : sIx items.size items.size hi - sIx items.size 0 lo = items.size := eq_of_beq q.2
    exact hw ⟨by omega, by omega⟩
  show wpAny _ _ (if (((sIx items.size 0 lo : Nat) : Int) == 0 && (1 : Int) == 1 && (sIx items.size items.size hi - sIx items.size 0 lo) == items.size) = true then _ else _) _ _ s
  rw [if_neg hno, pick_gen]
  first
    | exact wpAny_bind (m := Builtin.Tuple.tupleExact _) (wpAny_newObj_type (wpAny_pure ⟨_, rfl, wpAny_pure h⟩) htake)
    | exact wpAny_bind (m := Builtin.Tuple.tupleExact _) (wpAny_newObj_type (wpAny_bind (wpAny_pure (wpAny_pure ⟨_, rfl, wpAny_pure h⟩))) htake)
    | exact wpAny_bind (wpAny_bind (m := Builtin.Tuple.tupleExact _) (wpAny_newObj_type (wpAny_pure (wpAny_pure ⟨_, rfl, wpAny_pure h⟩)) htake))
    | exact wpAny_bind (wpAny_bind (m := Builtin.Tuple.tupleExact _) (wpAny_newObj_type (wpAny_pure ⟨_, rfl, wpAny_pure h⟩) htake))
end
end HT
namespace L2
open PySem PySem.Spec PyProof.Rows
abbrev TO := St → Hp → (Option Int → Hp → Prop) → Prop
def PO (X : Cx) (e : Option Expr) (t : TO) : Prop :=
  ∀ (pins : List (Addr × Obj)) (s : Shared) (σ : St) (H : Hp) (Q : Option Int → Hp → Prop), Inv X pins σ H s → t σ H Q →
    wpAny (model X.prog X.w) X.A (evalPart e X.env) (fun u s' => ∃ o H', Inv X pins σ H' s' ∧ IsPart u o ∧ Q o H') X.xe s
def tNoPart : TO := fun _ H Q => Q none H
def tPart (t : TE) : TO := fun σ H Q => t σ H fun x H1 => ∃ i, x = .int i ∧ Q (some i) H1
section
variable {X : Cx} {e : Expr} {te : TE} {lo hi : Option Expr} {tl th : TO} {pos p2 : Pos}
theorem po_none : PO X none tNoPart := by
  intro pins s σ H Q I h
  rw [evalPart_none]
  exact wpAny_pure ⟨none, H, I, .none, h⟩
theorem po_some (h : PE X e te) : PO X (some e) (tPart te) := by
  intro pins s σ H Q I hw
  rw [evalPart_some]
  refine thn (h pins s σ H _ I hw) fun u s1 ⟨x, H1, I1, r1, q1⟩ => ?_
  obtain ⟨i, rfl, q⟩ := q1
  obtain ⟨t, rfl⟩ := r1
  exact ⟨some i, H1, I1, .int i t, q⟩
def SlR (X : Cx) (r : V → Option Int → Option Int → Hp → VK → Prop) : Prop :=
  ∀ (pins : List (Addr × Obj)) (s : Shared) (σ : St) (H : Hp) (x : V) (v vl vu : Value) (lo hi : Option Int) (sl : Addr) (Q : VK), Inv X pins σ H s → RelV x v → s.heap.IsSliceOf sl vl vu .none → IsPart vl lo → IsPart vu hi → r x lo hi H Q →
    ∃ T id, typeLookup (.type T) "__getitem__" = pure (some (.builtin id)) ∧ s.TypeIs v T ∧ wpAny (model X.prog X.w) X.A (getItem v (.ref sl)) (EP X pins σ Q) X.xe s
theorem SlR.or {r r' : V → Option Int → Option Int → Hp → VK → Prop} (h : SlR X r) (h' : SlR X r') : SlR X (fun x lo hi H Q => r x lo hi H Q ∨ r' x lo hi H Q) := by
  intro pins s σ H x v vl vu lo hi sl Q I rx hs pl pu q
  rcases q with q | q
  · exact h pins s σ H x v vl vu lo hi sl Q I rx hs pl pu q
  · exact h' pins s σ H x v vl vu lo hi sl Q I rx hs pl pu q
def tSl (r : V → Option Int → Option Int → Hp → VK → Prop) (te : TE) (tl th : TO) : TE := fun σ H Q => te σ H fun x H1 => tl σ H1 fun l H2 => th σ H2 fun u H3 => r x l u H3 Q
theorem pe_slice {r : V → Option Int → Option Int → Hp → VK → Prop} (hr : SlR X r) (he : PE X e te) (hl : PO X lo tl) (hu : PO X hi th) : PE X (.Subscript e (.Slice lo hi none p2) pos) (tSl r te tl th) := by
  intro pins s σ H Q I h
  refine Subscript_ (thn (he pins s σ H _ I h) fun v s1 ⟨x, H1, I1, r1, q1⟩ => ?_)
  refine wpAny_Slice (thn (hl pins s1 σ H1 _ I1 q1) fun vl s2 ⟨l, H2, I2, pl, q2⟩ => thn (hu pins s2 σ H2 _ I2 q2) fun vu s3 ⟨u, H3, I3, pu, q3⟩ => ?_)
  rw [evalPart_none]
  refine wpAny_pure ?_
  have I4 : Inv X pins σ H3 { s3 with heap := s3.heap.push { cls := .type "slice", data := .fields #[vl, vu, .none] } } := I3.kept (t' := s3.toks) fun b ob q => Heap.get?_push_of_some _ q
  obtain ⟨T, id, hT, ht, hg⟩ := hr pins { s3 with heap := s3.heap.push { cls := .type "slice", data := .fields #[vl, vu, .none] } } σ H3 x v vl vu l u s3.heap.objs.size Q I4 r1 (Heap.IsSliceOf.new ..) pl pu q3
  show wpAny (model X.prog X.w) X.A (subscriptTail e (.Slice lo hi none p2) v (.ref s3.heap.objs.size)) (EP X pins σ Q) X.xe { s3 with heap := s3.heap.push { cls := .type "slice", data := .fields #[vl, vu, .none] } }
  exact tail_any (ops := [.ref s3.heap.objs.size, v]) ht hT hg (by with_unfolding_all rfl)
def cutV (xs : List V) (lo hi : Option Int) : List V := (xs.drop (HT.sIx xs.length 0 lo)).take (HT.sIx xs.length xs.length hi - HT.sIx xs.length 0 lo)
theorem cutV_length (xs : List V) (lo hi : Option Int) : (cutV xs lo hi).length ≤ xs.length := by
  unfold cutV
  rw [List.length_take, List.length_drop]
  omega
def rSlT (K : PySem.W.Frag) : V → Option Int → Option Int → Hp → VK → Prop := fun x lo hi H Q => ∃ a xs, x = .ref a ∧ SqT K H a xs ∧
  ¬ (HT.sIx xs.length 0 lo = 0 ∧ HT.sIx xs.length xs.length hi = xs.length) ∧ ∀ p, H p = none → Q (.ref p) (upd H p (.tup (cutV xs lo hi)))
theorem sl_tup : SlR X (rSlT X.K) := by
  intro pins s σ H x v vl vu lo hi sl Q I rx hs pl pu h
  obtain ⟨a, xs, rfl, hx, hw, q⟩ := h
  cases rx
  obtain ⟨its, r, ht, hz⟩ := I.tuple hx
  have hlen : its.toArray.size = xs.length := by rw [List.size_toArray]; exact r.length.symm
  refine ⟨"tuple", _, PyProof.Rows.slot_tuple_getitem.lookup, ht.typeIs, ?_⟩
  refine HT.getItem_tuple_cut ht hs pl pu (by rw [hlen]; exact hw) ?_ (by rw [hlen]; exact hz)
  rw [hlen]
  refine ⟨.ref s.heap.objs.size, _, I.laid (t' := s.toks) (o := .tup (cutV xs lo hi)) (fun b ob q => Heap.get?_push_of_some _ q) (Nat.le_refl _) ?_, rfl, q _ (I.hok.fresh (Nat.le_refl _))⟩
  exact ⟨Nat.le_trans (cutV_length xs lo hi) hz, _, (r.drop (HT.sIx xs.length 0 lo)).take (HT.sIx xs.length xs.length hi - HT.sIx xs.length 0 lo), IsTup.new _ _⟩
def rLtT (K : PySem.W.Frag) : R2 := fun x y H Q => ∃ a b ns ms, x = .ref a ∧ y = .ref b ∧ SqT K H a (ns.map V.int) ∧ SqT K H b (ms.map V.int) ∧ Q (.bl (HT.lexLt ns ms)) H
def rCatT (K : PySem.W.Frag) : R2 := fun x y H Q => ∃ a b xs ys, x = .ref a ∧ y = .ref b ∧ SqT K H a xs ∧ SqT K H b ys ∧ xs ≠ [] ∧ xs.length + ys.length ≤ sizeLine ∧
  (ys = [] → Q (.ref a) H) ∧ (ys ≠ [] → ∀ p, H p = none → Q (.ref p) (upd H p (.tup (xs ++ ys))))
theorem Vals.nil_iff {xs : List V} {us : List Value} (r : Vals xs us) : us = [] ↔ xs = [] := by
  cases r with
  | nil => simp
  | cons _ _ => simp
theorem op_catT : OpR X (binaryOp .Add) (rCatT X.K) := by
  intro pins s σ H x y v u Q I rx ry h
  obtain ⟨a, b, xs, ys, rfl, rfl, ha, hb, hx, hz, q1, q2⟩ := h
  cases rx
  cases ry
  obtain ⟨its, r1, p1, _⟩ := I.tuple ha
  obtain ⟨its2, r2, p2, _⟩ := I.tuple hb
  refine HT.cat_tup p1 p2 (fun z => hx (r1.nil_iff.mp z)) (fun z => ⟨.ref a, H, I, rfl, q1 (r2.nil_iff.mp z)⟩) (fun z => ?_) (by rw [← r1.length, ← r2.length]; exact hz)
  refine ⟨.ref s.heap.objs.size, _, I.laid (t' := s.toks) (o := .tup (xs ++ ys)) (fun b ob q => Heap.get?_push_of_some _ q) (Nat.le_refl _) ?_, rfl, q2 (fun w => z (r2.nil_iff.mpr w)) _ (I.hok.fresh (Nat.le_refl _))⟩
  exact ⟨by rw [List.length_append]; exact hz, _, r1.append r2, IsTup.new _ _⟩
end
end L2
namespace L2
open PySem PySem.Spec PyProof.Rows
def ixN (n : Nat) (i : Int) : Option Nat := if 0 ≤ i then (if i < n then some i.toNat else none) else if -(n : Int) ≤ i then some (i + n).toNat else none
def atI {α : Type} (xs : List α) (i : Int) : Option α := (ixN xs.length i).bind fun j => xs[j]?
theorem ixN_seq {n : Nat} {i : Int} {j : Nat} (h : ixN n i = some j) : seqIndex? i n = some j ∧ j < n ∧ -(n : Int) ≤ i ∧ i < n := by
  unfold ixN at h
  by_cases h0 : 0 ≤ i
  · rw [if_pos h0] at h
    by_cases h1 : i < n
    · rw [if_pos h1] at h
      have e : i.toNat = j := Option.some.inj h
      exact ⟨by rw [seqIndex_of h0 h1, e], by omega, by omega, h1⟩
    · rw [if_neg h1] at h; cases h
  · rw [if_neg h0] at h
    by_cases h1 : -(n : Int) ≤ i
    · rw [if_pos h1] at h
      have e : (i + n).toNat = j := Option.some.inj h
      exact ⟨by rw [seqIndex_neg (by omega) h1, e], by omega, h1, by omega⟩
    · rw [if_neg h1] at h; cases h
theorem atI_get {α : Type} {xs : List α} {i : Int} {v : α} (h : atI xs i = some v) : ∃ j, seqIndex? i xs.length = some j ∧ xs[j]? = some v ∧ j < xs.length ∧ -(xs.length : Int) ≤ i ∧ i < xs.length := by
  unfold atI at h
  cases e : ixN xs.length i with
  | none => rw [e] at h; cases h
  | some j =>
    rw [e] at h
    obtain ⟨h1, h2, h3, h4⟩ := ixN_seq e
    exact ⟨j, h1, h, h2, h3, h4⟩
theorem atI_nat {α : Type} {xs : List α} {j : Nat} {v : α} (h : xs[j]? = some v) : atI xs (j : Int) = some v := by
  have hj : j < xs.length := (List.getElem?_eq_some_iff.mp h).1
  have e : ixN xs.length (j : Int) = some j := by
    unfold ixN
    rw [if_pos (by omega), if_pos (by omega)]; simp
  unfold atI; rw [e]; exact h
theorem atI_last {α : Type} (xs : List α) (v : α) : atI (xs ++ [v]) (-1) = some v := by
  have hl : (xs ++ [v]).length = xs.length + 1 := by simp
  have e : ixN (xs ++ [v]).length (-1) = some xs.length := by
    unfold ixN
    rw [hl, if_neg (by decide), if_pos (by omega)]
    congr 1
    omega
  unfold atI
  rw [e]
  show (xs ++ [v])[xs.length]? = some v
  simp
def PlainIx (b : Expr) : Prop := ∀ o i, subscripted b false o i = operate [o, i] (getItem o i)
def IxR (X : Cx) (r : R2) : Prop :=
  ∀ (value slice : Expr) (pins : List (Addr × Obj)) (s : Shared) (σ : St) (H : Hp) (x y : V) (v u : Value) (Q : VK), Inv X pins σ H s → RelV x v → RelV y u → r x y H Q →
    subscripted slice false v u = operate [v, u] (getItem v u) → wpAny (model X.prog X.w) X.A (subscriptTail value slice v u) (EP X pins σ Q) X.xe s
def MtR (X : Cx) (id : String) (r : V → List V → Hp → VK → Prop) : Prop :=
  ∀ (pins : List (Addr × Obj)) (s : Shared) (σ : St) (H : Hp) (x : V) (xs : List V) (v : Value) (us : List Value) (Q : VK), Inv X pins σ H s → RelV x v → Vals xs us → r x xs H Q →
    wpAny (model X.prog X.w) X.A (call (.builtin id) (v :: us)) (EP X pins σ Q) X.xe s
section
variable {X : Cx} {a b : Expr} {ta tb : TE} {pos : Pos}
theorem IxR.or {r r' : R2} (h : IxR X r) (h' : IxR X r') : IxR X (fun x y H Q => r x y H Q ∨ r' x y H Q) := by
  intro value slice pins s σ H x y v u Q I rx ry q hs
  rcases q with q | q
  · exact h value slice pins s σ H x y v u Q I rx ry q hs
  · exact h' value slice pins s σ H x y v u Q I rx ry q hs
theorem pe_ix {r : R2} (hr : IxR X r) (ha : PE X a ta) (hb : PE X b tb) (hs : PlainIx b) : PE X (.Subscript a b pos) (tOp r ta tb) := by
  intro pins s σ H Q I h
  exact Subscript_ (binT ha hb I h fun v u s2 x y H2 I2 rx ry q => hr a b pins s2 σ H2 x y v u Q I2 rx ry q (hs _ _))
def rIxL (K : PySem.W.Frag) : R2 := fun x y H Q => ∃ p xs i v, x = .ref p ∧ y = .int i ∧ SqL K H p xs ∧ atI xs i = some v ∧ Q v H
def rIxT (K : PySem.W.Frag) : R2 := fun x y H Q => ∃ p xs i v, x = .ref p ∧ y = .int i ∧ SqT K H p xs ∧ atI xs i = some v ∧ Q v H
def rIxS : R2 := fun x y H Q => ∃ z i c, x = .str z ∧ y = .int i ∧ z.length ≤ sizeLine ∧ atI z.cps.toList i = some c ∧ Q (.str ⟨#[c]⟩) H
theorem ix_list : IxR X (rIxL X.K) := by
  intro value slice pins s σ H x y v u Q I rx ry h hs
  obtain ⟨p, xs, i, z, rfl, rfl, hq, he, q⟩ := h
  cases rx
  obtain ⟨t, rfl⟩ := ry
  obtain ⟨its, r, pl, hz⟩ := I.list hq
  obtain ⟨j, h1, h2, h3, h4, h5⟩ := atI_get he
  obtain ⟨w, ew, rw'⟩ := r.get h2
  have hl := r.length
  have hn := line63
  have fin : EP X pins σ Q w s := ⟨z, H, I, rw', q⟩
  by_cases h0 : 0 ≤ i
  · have hj : i.toNat = j := by
      rw [seqIndex_of h0 h5] at h1
      exact Option.some.inj h1
    exact item_listR pl.isList h0 (by omega) (by rw [hj]; simpa using ew) fin hs
  · have hj : (i + (its.toArray.size : Int)).toNat = j := by
      rw [seqIndex_neg (by omega) h4] at h1
      rw [List.size_toArray, ← hl]
      exact Option.some.inj h1
    exact subscriptTail_builtinR (x := w) pl.isList.typeIs slot_list_getitem.lookup
      (wpAny_getItem_list_neg (Q := fun r s' => r = w ∧ EP X pins σ Q r s') pl.isList (by omega) (by rw [List.size_toArray] <;> omega) (by omega) (by rw [hj]; simpa using ew) ⟨rfl, fin⟩) hs
theorem ix_tup : IxR X (rIxT X.K) := by
  intro value slice pins s σ H x y v u Q I rx ry h hs
  obtain ⟨p, xs, i, z, rfl, rfl, hq, he, q⟩ := h
  cases rx
  obtain ⟨t, rfl⟩ := ry
  obtain ⟨its, r, pl, hz⟩ := I.tuple hq
  obtain ⟨j, h1, h2, h3, h4, h5⟩ := atI_get he
  obtain ⟨w, ew, rw'⟩ := r.get h2
  have hl := r.length
  have hn := line63
  have fin : EP X pins σ Q w s := ⟨z, H, I, rw', q⟩
  exact subscriptTail_builtinR (x := w) pl.typeIs slot_tuple_getitem.lookup
    (getItem_tuple (j := j) (Q := fun r s' => r = w ∧ EP X pins σ Q r s') pl (by omega) (by omega) (by rw [List.size_toArray, ← hl]; exact h1) (by simpa using ew) ⟨rfl, fin⟩) hs
theorem ix_str : IxR X rIxS := by
  intro value slice pins s σ H x y v u Q I rx ry h hs
  obtain ⟨z, i, c, rfl, rfl, hz, he, q⟩ := h
  obtain ⟨t, rfl⟩ := rx
  obtain ⟨t', rfl⟩ := ry
  obtain ⟨j, h1, h2, h3, h4, h5⟩ := atI_get he
  have hl : z.cps.toList.length = z.length := by simp [Str.length]
  rw [hl] at h1 h4 h5
  have hn := line63
  exact tail_any (typeIs_str s z t) slot_str_getitem.lookup (getItem_str (c := c) (by
    have e1 : decide (i < -(2 ^ 63 : Int)) = false := decide_eq_false (by omega)
    have e2 : decide (i ≥ 2 ^ 63) = false := decide_eq_false (by omega)
    rw [e1, e2, Bool.or_false]) (by rw [h1]; simpa using h2) ⟨.str ⟨#[c]⟩, H, I.tok _, ⟨_, rfl⟩, q⟩) hs
def rIx (K : PySem.W.Frag) : R2 := fun x y H Q => rIxL K x y H Q ∨ rIxT K x y H Q ∨ rIxS x y H Q
theorem ix_seq : IxR X (rIx X.K) := ix_list.or (ix_tup.or ix_str)
theorem Inv.lst {pins : List (Addr × Obj)} {σ : St} {H : Hp} {s : Shared} {p : Addr} {xs : List V} (I : Inv X pins σ H s) (h : H p = some (.lst xs)) :
    ∃ (its : List Value) (n : Nat), Vals xs its ∧ s.heap.get? p = some { cls := .type "list", data := .seq its.toArray n } ∧ xs.length ≤ sizeLine := by
  obtain ⟨z, its, n, r, e⟩ := I.hok p _ h
  exact ⟨its, n, r, e, z⟩
def rSetL : V → V → V → Hp → (Hp → Prop) → Prop := fun o i v H Q => ∃ p xs k j, o = .ref p ∧ i = .int k ∧ H p = some (.lst xs) ∧ ixN xs.length k = some j ∧ Q (upd H p (.lst (xs.set j v)))
theorem slice_bounds (lo hi : Option Int) (n : Nat) : (sliceBounds lo hi none n).1 = ((HT.sIx n 0 lo : Nat) : Int) ∧ (sliceBounds lo hi none n).2.1 = ((HT.sIx n n hi : Nat) : Int) ∧ (sliceBounds lo hi none n).2.2 = 1 := by
  refine ⟨?_, ?_, rfl⟩
  · cases lo with
    | none => simp [sliceBounds, HT.sIx]
    | some i =>
      simp only [sliceBounds, HT.sIx, Option.getD_none, show (1 : Int) > 0 by decide, if_true]
      by_cases h : i < 0
      · simp only [h, if_true] <;> omega
      · simp only [h, if_false] <;> omega
  · cases hi with
    | none => simp [sliceBounds, HT.sIx]
    | some i =>
      simp only [sliceBounds, HT.sIx, Option.getD_none, show (1 : Int) > 0 by decide, if_true]
      by_cases h : i < 0
      · simp only [h, if_true] <;> omega
      · simp only [h, if_false] <;> omega
theorem slicePick_cut (its : List Value) (lo hi : Option Int) : slicePick its.toArray lo hi none = ((its.drop (HT.sIx its.length 0 lo)).take (HT.sIx its.length its.length hi - HT.sIx its.length 0 lo)).toArray := by
  obtain ⟨h1, h2, h3⟩ := slice_bounds lo hi its.toArray.size
  unfold slicePick
  rw [h1, h2, h3]
  simp only [sliceRange_one, pick_run, List.size_toArray] <;> rfl
def rSlL (K : PySem.W.Frag) : V → Option Int → Option Int → Hp → VK → Prop := fun x lo hi H Q => ∃ a xs, x = .ref a ∧ SqL K H a xs ∧ ∀ p, H p = none → Q (.ref p) (upd H p (.lst (cutV xs lo hi)))
theorem sl_list : SlR X (rSlL X.K) := by
  intro pins s σ H x v vl vu lo hi sl Q I rx hs pl pu h
  obtain ⟨a, xs, rfl, hx, q⟩ := h
  cases rx
  obtain ⟨its, r, ht, hz⟩ := I.list hx
  have hlen := r.length
  refine ⟨"list", _, slot_list_getitem.lookup, ht.isList.typeIs, ?_⟩
  refine wpAny_getItem_list_slice ht.isList hs pl pu .none (by simp) ?_ (by rw [List.size_toArray] <;> omega)
  rw [slicePick_cut, ← hlen]
  refine ⟨.ref s.heap.objs.size, _, I.laid (t' := s.toks) (o := .lst (cutV xs lo hi)) (fun b ob q => Heap.get?_push_of_some _ q) (Nat.le_refl _) ?_, rfl, q _ (I.hok.fresh (Nat.le_refl _))⟩
  exact ⟨Nat.le_trans (cutV_length xs lo hi) hz, _, 0, (r.drop (HT.sIx xs.length 0 lo)).take (HT.sIx xs.length xs.length hi - HT.sIx xs.length 0 lo), Heap.get?_push_size _ rfl⟩
def flatV : V → Bool
  | .non => true
  | .bl _ => true
  | .int _ => true
  | .str _ => true
  | _ => false
def eqV : V → V → Bool
  | .non, .non => true
  | .bl a, .bl b => a == b
  | .bl a, .int b => (if a then 1 else 0) == b
  | .int a, .bl b => a == (if b then 1 else 0)
  | .int a, .int b => a == b
  | .str a, .str b => a == b
  | _, _ => false
theorem eqAt_V {A : Around} {s : Shared} {y x : V} {u v : Value} (ry : RelV y u) (rx : RelV x v) (fy : flatV y = true) (fx : flatV x = true) : SeqAt.EqAt A s u v (eqV y x) := by
  cases y with
  | non =>
    cases ry
    cases x with
    | non => cases rx; exact SeqAt.EqAt.same _
    | bl b => cases rx; exact SeqAt.EqAt.none_bool b
    | int b => obtain ⟨t, rfl⟩ := rx; exact SeqAt.EqAt.none_int b t
    | str b => obtain ⟨t, rfl⟩ := rx; exact SeqAt.EqAt.none_str b t
    | _ => exact absurd (show false = true from fx) Bool.false_ne_true
  | bl a =>
    cases ry
    cases x with
    | non => cases rx; exact SeqAt.EqAt.bool_none a
    | bl b => cases rx; exact SeqAt.EqAt.bool_bool a b
    | int b => obtain ⟨t, rfl⟩ := rx; exact SeqAt.EqAt.bool_int a b t
    | str b => obtain ⟨t, rfl⟩ := rx; exact SeqAt.EqAt.bool_str a b t
    | _ => exact absurd (show false = true from fx) Bool.false_ne_true
  | int a =>
    obtain ⟨t', rfl⟩ := ry
    cases x with
    | non => cases rx; exact SeqAt.EqAt.int_none a t'
    | bl b => cases rx; exact SeqAt.EqAt.int_bool a t' b
    | int b => obtain ⟨t, rfl⟩ := rx; exact SeqAt.EqAt.int_int a t' b t
    | str b => obtain ⟨t, rfl⟩ := rx; exact SeqAt.EqAt.int_str a t' b t
    | _ => exact absurd (show false = true from fx) Bool.false_ne_true
  | str a =>
    obtain ⟨t', rfl⟩ := ry
    cases x with
    | non => cases rx; exact SeqAt.EqAt.str_none a t'
    | bl b => cases rx; exact SeqAt.EqAt.str_bool a t' b
    | int b => obtain ⟨t, rfl⟩ := rx; exact SeqAt.EqAt.str_int a t' b t
    | str b => obtain ⟨t, rfl⟩ := rx; exact SeqAt.EqAt.str_str a t' b t
    | _ => exact absurd (show false = true from fx) Bool.false_ne_true
  | _ => exact absurd (show false = true from fy) Bool.false_ne_true
def eqU (x : V) (u : Value) : Bool := match u with
  | .none => eqV .non x
  | .bool b => eqV (.bl b) x
  | .int i _ => eqV (.int i) x
  | .str z _ => eqV (.str z) x
  | _ => false
def inV (x : V) (xs : List V) : Bool := xs.any fun y => eqV y x
def rIn (K : PySem.W.Frag) (neg : Bool) : R2 := fun x y H Q => ∃ p xs, y = .ref p ∧ (SqL K H p xs ∨ SqT K H p xs) ∧ flatV x = true ∧ xs.all flatV = true ∧ Q (.bl (if neg then !inV x xs else inV x xs)) H
theorem call_len_seq : CallR X (.builtin "len") (fun xs H Q => ∃ p ys, xs = [.ref p] ∧ (SqL X.K H p ys ∨ SqT X.K H p ys) ∧ Q (.int ys.length) H) := by
  intro pins s σ H xs us Q I r h
  obtain ⟨p, ys, rfl, hq, q⟩ := h
  obtain ⟨u, rfl, rx⟩ := vals1 r
  cases rx
  have hn := line63
  rcases hq with hq | hq
  · obtain ⟨its, r', pl, hz⟩ := I.list hq
    have hlen := r'.length
    exact Calls.call_len_list pl.isList (by simp only [List.size_toArray] <;> omega) ⟨.int ys.length, H, I.tok _, ⟨s.toks + 1, by rw [List.size_toArray, hlen]⟩, q⟩
  · obtain ⟨its, r', pl, hz⟩ := I.tuple hq
    have hlen := r'.length
    exact len_tuple pl (by simp only [List.size_toArray] <;> omega) ⟨.int ys.length, H, I.tok _, ⟨s.toks + 1, by rw [List.size_toArray, hlen]⟩, q⟩
theorem call_len_str : CallR X (.builtin "len") (fun xs H Q => ∃ z, xs = [.str z] ∧ z.length ≤ sizeLine ∧ Q (.int z.length) H) := by
  intro pins s σ H xs us Q I r h
  obtain ⟨z, rfl, hz, q⟩ := h
  obtain ⟨u, rfl, t, rfl⟩ := vals1 r
  have hn := line63
  exact len_str (by omega) ⟨.int z.length, H, I.tok _, ⟨_, rfl⟩, q⟩
theorem CallR.or {f : Value} {r r' : List V → Hp → VK → Prop} (h : CallR X f r) (h' : CallR X f r') : CallR X f (fun xs H Q => r xs H Q ∨ r' xs H Q) := by
  intro pins s σ H xs us Q I rs q
  rcases q with q | q
  · exact h pins s σ H xs us Q I rs q
  · exact h' pins s σ H xs us Q I rs q
theorem call_list_of : CallR X (.type "list") (fun xs H Q => ∃ p ys, xs = [.ref p] ∧ (SqL X.K H p ys ∨ SqT X.K H p ys) ∧ ∀ l, H l = none → Q (.ref l) (upd H l (.lst ys))) := by
  intro pins s σ H xs us Q I r h
  obtain ⟨p, ys, rfl, hq, q⟩ := h
  obtain ⟨u, rfl, rx⟩ := vals1 r
  cases rx
  have fin : ∀ (its : List Value), Vals ys its → ys.length ≤ sizeLine → ∀ (h' : Heap) (c' : Nat), (∀ b o', s.heap.get? b = some o' → h'.get? b = some o') →
      h'.get? s.heap.objs.size = some { cls := .type "list", dict := none, data := .seq its.toArray c', slots := #[] } → EP X pins σ Q (.ref s.heap.objs.size) { s with heap := h' } := fun its r' hz h' c' kp e =>
    ⟨.ref s.heap.objs.size, _, I.laid (t' := s.toks) kp (Nat.le_refl _) (show ObjOk X.prog X.w _ h' _ (.lst ys) from ⟨hz, its, c', r', e⟩), rfl, q _ (I.hok.fresh (Nat.le_refl _))⟩
  rcases hq with hq | hq
  · obtain ⟨its, r', pl, hz⟩ := I.list hq
    have hlen := r'.length
    obtain ⟨o, ho, hc, n, hd⟩ := pl.isList
    exact call_list_seq p (.inl rfl) ho hc hd (fun h' c' kp e => fin its r' hz h' c' kp e) (by simp only [List.size_toArray] <;> omega)
  · obtain ⟨its, r', pl, hz⟩ := I.tuple hq
    have hlen := r'.length
    obtain ⟨o, ho, hc, n, hd⟩ := pl
    exact call_list_seq p (.inr rfl) ho hc hd (fun h' c' kp e => fin its r' hz h' c' kp e) (by simp only [List.size_toArray] <;> omega)
theorem call_tuple_of : CallR X (.type "tuple") (fun xs H Q => ∃ p ys, xs = [.ref p] ∧ ((SqL X.K H p ys ∧ ∀ l, H l = none → Q (.ref l) (upd H l (.tup ys))) ∨ (SqT X.K H p ys ∧ Q (.ref p) H))) := by
  intro pins s σ H xs us Q I r h
  obtain ⟨p, ys, rfl, h⟩ := h
  obtain ⟨u, rfl, rx⟩ := vals1 r
  cases rx
  rcases h with ⟨hq, q⟩ | ⟨hq, q⟩
  · obtain ⟨its, r', pl, hz⟩ := I.list hq
    have hlen := r'.length
    refine call_tuple_list pl.isList (fun h' kp => ?_) (by simp only [List.size_toArray] <;> omega)
    have I1 : Inv X pins σ H { s with heap := h' } := I.kept (t' := s.toks) kp
    have I2 : Inv X pins σ (upd H h'.objs.size (.tup ys)) { s with heap := h'.push { cls := .type "tuple", data := .seq its.toArray } } :=
      I1.laid (t' := s.toks) (fun b o e => Heap.get?_push_of_some _ e) (Nat.le_refl _) (show ObjOk X.prog X.w _ _ _ (.tup ys) from ⟨hz, its, r', IsTup.new _ _⟩)
    exact ⟨.ref h'.objs.size, _, I2, rfl, q _ (I1.hok.fresh (Nat.le_refl _))⟩
  · obtain ⟨its, r', pl, hz⟩ := I.tuple hq
    exact call_tuple_same pl ⟨.ref p, H, I, rfl, q⟩
def tyV (K : PySem.W.Frag) (T : String) (x : V) (H : Hp) : Prop := match x with
  | .str _ => T = "str"
  | .int _ => T = "int"
  | .ref p => (T = "list" ∧ ∃ xs, SqL K H p xs) ∨ (T = "tuple" ∧ ∃ o, K.lookup p = some o ∧ o.cls = .type "tuple" ∧ o.dict = none) ∨
      (T = "dict" ∧ ((∃ kvs, H p = some (.dK kvs)) ∨ ∃ kvs, H p = some (.dT kvs))) ∨ (T = "set" ∧ ∃ S n, H p = some (.set S n))
  | _ => False
theorem tyV_is {pins : List (Addr × Obj)} {σ : St} {H : Hp} {s : Shared} {T : String} {x : V} {v : Value} (I : Inv X pins σ H s) (r : RelV x v) (ty : tyV X.K T x H) :
    s.TypeIs v T ∧ ∀ a, v = .ref a → ∃ ob, s.heap.get? a = some ob ∧ ob.dict = none := by
  cases x with
  | str z =>
    obtain ⟨t, rfl⟩ := r
    cases (show T = "str" from ty)
    exact ⟨typeIs_str s z t, fun _ e => nomatch e⟩
  | int i =>
    obtain ⟨t, rfl⟩ := r
    cases (show T = "int" from ty)
    exact ⟨typeIs_int s i t, fun _ e => nomatch e⟩
  | ref p =>
    cases r
    rcases ty with ⟨rfl, xs, hq⟩ | ⟨rfl, o, hk, hc, hd⟩ | ⟨rfl, hk⟩ | ⟨rfl, S, n, hk⟩
    · obtain ⟨its, _, pl, _⟩ := I.list hq
      refine ⟨pl.isList.typeIs, fun a e => ?_⟩
      cases e
      obtain ⟨o, n, e, c, hd, _⟩ := pl
      exact ⟨o, e, hd⟩
    · refine ⟨⟨o, I.kIn p o hk, hc⟩, fun a e => ?_⟩
      cases e
      exact ⟨o, I.kIn _ o hk, hd⟩
    · have z : ∃ o, s.heap.get? p = some o ∧ o.ExactDict := by
        rcases hk with ⟨kvs, hk⟩ | ⟨kvs, hk⟩
        · obtain ⟨_, _, _, _, o, _, _, e, ex, _⟩ := I.hok p _ hk
          exact ⟨o, e, ex⟩
        · obtain ⟨_, _, _, _, o, _, _, e, ex, _⟩ := I.hok p _ hk
          exact ⟨o, e, ex⟩
      obtain ⟨o, e, ex⟩ := z
      refine ⟨⟨o, e, ex.1⟩, fun a e2 => ?_⟩
      cases e2
      exact ⟨o, e, ex.2.1⟩
    · obtain ⟨o, _, _, _, e, ex, _⟩ := I.hok p _ hk
      refine ⟨⟨o, e, ex.1⟩, fun a e2 => ?_⟩
      cases e2
      exact ⟨o, e, ex.2.1⟩
  | _ => exact False.elim ty
def tBM0 (K : PySem.W.Frag) (T : String) (r : V → List V → Hp → VK → Prop) (to : TE) : TE := fun σ H Q => to σ H fun x H1 => tyV K T x H1 ∧ r x [] H1 Q
def tBM (K : PySem.W.Frag) (T : String) (r : V → List V → Hp → VK → Prop) (to : TE) (t : TA) : TE := fun σ H Q => to σ H fun x H1 => tyV K T x H1 ∧ t σ H1 fun xs H2 => r x xs H2 Q
variable {o e : Expr} {es : List Expr} {to : TE} {t : TA} {name : Str} {apos cpos : Pos} {T id : String} {r : V → List V → Hp → VK → Prop}
theorem pe_bm0 (pa : PlainAttrs T) (slot : Slot T name id) (hty : typeOf (.builtin id) = pure (.type "method_descriptor")) (hm : MtR X id r) (ho : PE X o to)
    (hbase : attributeBase o name X.env (eval o X.env) = eval o X.env := by rfl) (hline : (apos.endLine == cpos.line) = true := by rfl) : PE X (.Call (.Attribute o name apos) [] [] cpos) (tBM0 X.K T r to) := by
  intro pins s σ H Q I h
  refine wpAny_Call_method0_late hbase hline (thn (ho pins s σ H _ I h) fun v s1 ⟨x, H1, I1, r1, ty, q1⟩ => ?_)
  obtain ⟨h1, h2⟩ := tyV_is I1 r1 ty
  exact ⟨T, id, pa, slot, hty, h1, h2, Calls.callWith_builtin rfl (PySem.evalArgs_none (hm pins s1 σ H1 x [] v [] Q I1 r1 .nil q1))⟩
theorem pe_bm (pa : PlainAttrs T) (slot : Slot T name id) (hty : typeOf (.builtin id) = pure (.type "method_descriptor")) (hm : MtR X id r) (ho : PE X o to) (ha : PA X (e :: es) t)
    (hbase : attributeBase o name X.env (eval o X.env) = eval o X.env := by rfl)
    (hfew : ((backTo cpos (starEach (e :: es) X.env)).all (fun x => !x.1) && (backToKw cpos (keywordEach [] X.env)).all (fun x => x.1.isSome)
      && decide ((e :: es).length + ([] : List Keyword).length + (if ([] : List Keyword).isEmpty then 0 else 1) < 30)) = true := by rfl)
    (hline : (apos.endLine == cpos.line) = true := by rfl) (hs : starEach (e :: es) X.env = (false, eval e X.env) :: starEach es X.env := by rfl) (hplain : (backTo cpos (starEach es X.env)).any (·.1) = false := by rfl) :
    PE X (.Call (.Attribute o name apos) (e :: es) [] cpos) (tBM X.K T r to t) := by
  intro pins s σ H Q I h
  refine wpAny_Call_method_late hbase hfew hline rfl (thn (ho pins s σ H _ I h) fun v s1 ⟨x, H1, I1, r1, ty, q1⟩ => ?_)
  obtain ⟨h1, h2⟩ := tyV_is I1 r1 ty
  refine ⟨T, id, pa, slot, hty, h1, h2, ?_⟩
  have hA := ha cpos pins s1 σ H1 _ I1 q1
  rw [hs] at hA ⊢
  refine Calls.callWith_builtin (by show (false || (backTo cpos (starEach es X.env)).any (·.1)) = false; rw [hplain] <;> rfl) (Calls.evalArgs_plain ?_)
  exact thn hA fun us s2 ⟨vs, H2, I2, r2, q2⟩ => hm pins s2 σ H2 x vs v us Q I2 r1 r2 q2
/- xs.append(e), list.index on a module's tuple .. are MtR facts of 06m -/
end
end L2
namespace L2
open PySem PySem.Spec PyProof.Rows
def MtM (X : Cx) (id : String) (r : V → List V → Hp → VK → Prop) : Prop :=
  ∀ (pins : List (Addr × Obj)) (s : Shared) (σ : St) (H : Hp) (x : V) (xs : List V) (v : Value) (us : List Value) (Q : VK), Inv X pins σ H s → RelV x v → Vals xs us → r x xs H Q →
    wpAny (model X.prog X.w) X.A (call (.builtin id) (v :: us)) (EP X pins σ Q) X.xe s
theorem Vals.one : ∀ {x : V} {us : List Value}, Vals [x] us → ∃ u, us = [u] ∧ RelV x u
  | _, _, .cons r .nil => ⟨_, rfl, r⟩
theorem Vals.two : ∀ {x y : V} {us : List Value}, Vals [x, y] us → ∃ u v, us = [u, v] ∧ RelV x u ∧ RelV y v
  | _, _, _, .cons r (.cons q .nil) => ⟨_, _, rfl, r, q⟩
theorem Vals.zero : ∀ {us : List Value}, Vals [] us → us = []
  | _, .nil => rfl
theorem Vals.dropLast {xs : List V} {us : List Value} (h : Vals xs us) : Vals xs.dropLast us.dropLast := by
  induction h with
  | nil => exact .nil
  | cons r t ih =>
    cases t with
    | nil => exact .nil
    | cons q t' => exact .cons r ih
theorem Vals.eraseIdx : ∀ {xs : List V} {us : List Value} (i : Nat), Vals xs us → Vals (xs.eraseIdx i) (us.eraseIdx i)
  | _, _, _, .nil => .nil
  | _, _, 0, .cons _ t => t
  | _, _, i + 1, .cons r t => .cons r (Vals.eraseIdx i t)
theorem erase_last {α : Type} (l : List α) : l.eraseIdx (l.length - 1) = l.dropLast := by
  induction l with
  | nil => rfl
  | cons a r ih =>
    cases r with
    | nil => rfl
    | cons b r =>
      have e : (a :: b :: r).length - 1 = ((b :: r).length - 1) + 1 := by
        have h1 : (a :: b :: r).length = r.length + 2 := rfl
        have h2 : (b :: r).length = r.length + 1 := rfl
        omega
      rw [e, List.eraseIdx_cons_succ, ih]
      all_goals rfl
theorem len_erase {α : Type} : ∀ (l : List α) (i : Nat), (l.eraseIdx i).length ≤ l.length
  | [], _ => Nat.le_refl _
  | _ :: _, 0 => Nat.le_succ _
  | _ :: r, i + 1 => Nat.succ_le_succ (len_erase r i)
section
variable {X : Cx} {pins : List (Addr × Obj)} {σ : St} {H : Hp} {s : Shared} {l b : Addr} {xs ys zs : List V}
theorem Inv.lset {its its' : List Value} {n : Nat} {f : Array Value → Array Value} {t' : Nat} (I : Inv X pins σ H s) (hH : H l = some (.lst xs))
    (e : s.heap.get? l = some { cls := .type "list", data := .seq its.toArray n }) (hf : f its.toArray = its'.toArray) (hv : Vals ys its') (hz : ys.length ≤ sizeLine) :
    Inv X pins σ (upd H l (.lst ys)) { s with heap := s.heap.update l (Obj.mapSeq f), toks := t' } := by
  have q := PySem.IsL.update e f
  rw [hf] at q
  refine I.write (x := l) (e := l) (by rw [hH]; exact trivial) (.inl rfl) (fun b' u hb hu => (Heap.get?_update_other s.heap (Obj.mapSeq f) (Ne.symm hb)).trans hu) ⟨_, q⟩ ?_
  exact ⟨hz, its', _, hv, q⟩
theorem Inv.lnew {its : List Value} {t' : Nat} (I : Inv X pins σ H s) (hv : Vals ys its) (hz : ys.length ≤ sizeLine) :
    Inv X pins σ (upd H s.heap.objs.size (.lst ys)) { s with heap := s.heap.push { cls := .type "list", data := .seq its.toArray }, toks := t' } :=
  I.laid (fun _ _ q => Heap.get?_push_of_some _ q) (Nat.le_refl _) ⟨hz, its, 0, hv, Heap.get?_push_size _ rfl⟩
theorem Inv.fresh (I : Inv X pins σ H s) : H s.heap.objs.size = none := I.hok.fresh (Nat.le_refl _)
theorem Inv.lstM (I : Inv X pins σ H s) (hH : H l = some (.lst xs)) : xs.length ≤ sizeLine ∧ ∃ (its : List Value) (n : Nat), Vals xs its ∧ xs.length = its.length ∧ s.heap.get? l = some { cls := .type "list", data := .seq its.toArray n } := by
  obtain ⟨z, its, n, r, e⟩ := I.hok l _ hH
  exact ⟨z, its, n, r, r.length, e⟩
theorem notLongL {n : Nat} (h : n ≤ sizeLine) : Builtin.List.listTooLong n = false := by
  unfold Builtin.List.listTooLong
  exact decide_eq_false (by omega)
end
section
variable {X : Cx}
def rAppend : V → List V → Hp → VK → Prop := fun x vs H Q => ∃ l xs y, x = .ref l ∧ vs = [y] ∧ H l = some (.lst xs) ∧ xs.length < sizeLine ∧ Q .non (upd H l (.lst (xs ++ [y])))
theorem mt_append : MtM X "list.append" rAppend := by
  intro pins s σ H x vs v us Q I rx rv h
  obtain ⟨l, xs, y, rfl, rfl, hH, hz, q⟩ := h
  cases rx
  obtain ⟨u, rfl, ru⟩ := rv.one
  obtain ⟨z, its, n, r, hl, e⟩ := I.lstM hH
  refine call_meets F.slot_list_append ⟨_, e, rfl⟩ F.entry_list_append (F.args_list_append_2 _ _) (PySem.list_append l its.toArray n u (by rw [List.size_toArray]; omega)) ⟨e, ?_⟩
  refine ⟨.non, _, I.lset (its' := its ++ [u]) hH e (by simp) (r.append (.cons ru .nil)) ?_, rfl, q⟩
  rw [List.length_append, List.length_singleton]
  omega
def rExtend : V → List V → Hp → VK → Prop := fun x vs H Q => ∃ l b xs zs, x = .ref l ∧ vs = [.ref b] ∧ H l = some (.lst xs) ∧ H b = some (.lst zs) ∧ xs.length + zs.length ≤ sizeLine ∧ Q .non (upd H l (.lst (xs ++ zs)))
theorem mt_extend : MtM X "list.extend" rExtend := by
  intro pins s σ H x vs v us Q I rx rv h
  obtain ⟨l, b, xs, zs, rfl, rfl, hH, hB, hz, q⟩ := h
  cases rx
  obtain ⟨u, rfl, ru⟩ := rv.one
  cases ru
  obtain ⟨z, its, n, r, hl, e⟩ := I.lstM hH
  obtain ⟨z2, its2, n2, r2, hl2, e2⟩ := I.lstM hB
  have hsz : its.toArray.size + its2.toArray.size ≤ sizeLine := by rw [List.size_toArray, List.size_toArray]; omega
  have hlong : ¬ (!its.toArray.isEmpty && Builtin.List.listTooLong (its.toArray.size + its2.toArray.size)) = true := by
    rw [notLongL hsz, Bool.and_false]
    exact Bool.false_ne_true
  refine call_meets F.slot_list_extend ⟨_, e, rfl⟩ F.entry_list_extend (F.args_list_extend_2 _ _)
    (AutoSeq1.list_extend_list_list_0 l its.toArray n b its2.toArray n2 hlong (by rw [List.size_toArray]; omega) (by omega)) ⟨e, e2, ?_⟩
  refine ⟨.non, _, I.lset (its' := its ++ its2) hH e (by simp) (r.append r2) ?_, rfl, q⟩
  rw [List.length_append]
  omega
def rPop : V → List V → Hp → VK → Prop := fun x vs H Q => ∃ l xs y, x = .ref l ∧ vs = [] ∧ H l = some (.lst xs) ∧ xs[xs.length - 1]? = some y ∧ Q y (upd H l (.lst xs.dropLast))
theorem mt_pop : MtM X "list.pop" rPop := by
  intro pins s σ H x vs v us Q I rx rv h
  obtain ⟨l, xs, y, rfl, rfl, hH, hy, q⟩ := h
  cases rx
  have hus := rv.zero
  subst hus
  obtain ⟨z, its, n, r, hl, e⟩ := I.lstM hH
  obtain ⟨u, hu, ru⟩ := r.get hy
  have hy' : its.toArray[its.toArray.size - 1]? = some u := by
    show its.toArray[its.length - 1]? = some u
    rw [← Array.getElem?_toList, ← hl]
    exact hu
  refine call_meets F.slot_list_pop ⟨_, e, rfl⟩ F.entry_list_pop (F.args_list_pop_1 _) (MeetsSeq.list_pop_last l its.toArray n u hy' (by rw [List.size_toArray]; omega)) ⟨e, ?_⟩
  refine ⟨y, _, I.lset (its' := its.dropLast) hH e ?_ r.dropLast ?_, ru, q⟩
  · show its.toArray.eraseIdxIfInBounds (its.toArray.size - 1) = its.dropLast.toArray
    rw [List.size_toArray, List.eraseIdxIfInBounds_toArray, erase_last]
  · rw [List.length_dropLast]
    omega
def rPopAt : V → List V → Hp → VK → Prop := fun x vs H Q => ∃ l xs i k y, x = .ref l ∧ vs = [.int i] ∧ H l = some (.lst xs) ∧ -(2 ^ 63) ≤ i ∧ i < 2 ^ 63 ∧ seqIndex? i xs.length = some k ∧ xs[k]? = some y ∧ Q y (upd H l (.lst (xs.eraseIdx k)))
theorem mt_popAt : MtM X "list.pop" rPopAt := by
  intro pins s σ H x vs v us Q I rx rv h
  obtain ⟨l, xs, i, k, y, rfl, rfl, hH, h1, h2, hk, hy, q⟩ := h
  cases rx
  obtain ⟨u, rfl, ru⟩ := rv.one
  obtain ⟨t, rfl⟩ := ru
  obtain ⟨z, its, n, r, hl, e⟩ := I.lstM hH
  obtain ⟨w, hw, rw'⟩ := r.get hy
  refine call_meets F.slot_list_pop ⟨_, e, rfl⟩ F.entry_list_pop (F.args_list_pop_2 _ _)
    (MeetsSeq.list_pop_at l its.toArray n i t k w (fitsIndex_both h1 h2) (by rw [List.size_toArray, ← hl]; exact hk) (by rw [← Array.getElem?_toList]; exact hw) (by rw [List.size_toArray]; omega)) ⟨e, ?_⟩
  refine ⟨y, _, I.lset (its' := its.eraseIdx k) hH e ?_ (r.eraseIdx k) ?_, rw', q⟩
  · show its.toArray.eraseIdxIfInBounds k = (its.eraseIdx k).toArray
    rw [List.eraseIdxIfInBounds_toArray]
  · have := len_erase xs k
    omega
def rReverse : V → List V → Hp → VK → Prop := fun x vs H Q => ∃ l xs, x = .ref l ∧ vs = [] ∧ H l = some (.lst xs) ∧ Q .non (upd H l (.lst xs.reverse))
def rClear : V → List V → Hp → VK → Prop := fun x vs H Q => ∃ l xs, x = .ref l ∧ vs = [] ∧ H l = some (.lst xs) ∧ Q .non (upd H l (.lst []))
def rCat : R2 := fun x y H Q => ∃ l b xs zs, x = .ref l ∧ y = .ref b ∧ H l = some (.lst xs) ∧ H b = some (.lst zs) ∧ xs.length + zs.length ≤ sizeLine ∧ ∀ p, H p = none → Q (.ref p) (upd H p (.lst (xs ++ zs)))
theorem op_cat : OpR X (binaryOp .Add) rCat := by
  intro pins s σ H x y v u Q I rx ry h
  obtain ⟨l, b, xs, zs, rfl, rfl, hH, hB, hz, q⟩ := h
  cases rx
  cases ry
  obtain ⟨z, its, n, r, hl, e⟩ := I.lstM hH
  obtain ⟨z2, its2, n2, r2, hl2, e2⟩ := I.lstM hB
  refine PySem.P.add_list e e2 ?_ (by rw [List.size_toArray, List.size_toArray]; omega)
  have ea : its.toArray ++ its2.toArray = (its ++ its2).toArray := by simp
  rw [ea]
  exact ⟨.ref _, _, I.lnew (t' := s.toks) (r.append r2) (by rw [List.length_append]; omega), rfl, q _ I.fresh⟩
def rRep : R2 := fun x y H Q => ∃ l k xs, x = .ref l ∧ y = .int k ∧ H l = some (.lst xs) ∧ -(2 ^ 63) ≤ k ∧ k < 2 ^ 63 ∧ xs.length * k.toNat ≤ sizeLine ∧
  ∀ p, H p = none → Q (.ref p) (upd H p (.lst (List.replicate k.toNat xs).flatten))
end
section
variable {prog : Program} {w : World} {A : Around} {E : Value → Shared → Prop} {s : Shared}
end
section
variable {X : Cx}
end
end L2
namespace Att
open PySem PySem.W PySem.Calls PyProof.Rows
theorem ints_of_wellAll {P : Params} {h : Heap} : ∀ (ns : List Int) (vs : List Value), WellAll P h vs (ns.map WData.int) → IntsAre vs ns := by
  intro ns
  induction ns with
  | nil =>
    intro vs w
    rw [List.map_nil] at w
    cases w
    exact .nil
  | cons n ns ih =>
    intro vs w
    rw [List.map_cons] at w
    cases w with
    | cons a b =>
      cases a
      exact .cons _ _ (ih _ b)
theorem script_of {l : OpenLaw} {n : Nat} (hn : l.most = some n) {P : Params} {h : Heap} {args : List WData} {vals : List Value}
    (hpre : l.row.toRowW.claim.pre args = true) (hwl : WellAll P h vals args) :
    ∃ a vs ns, vals = [Value.ref a] ∧ args = [WData.list (ns.map WData.int)] ∧ h.get? a = some { cls := .type "list", data := .seq vs.toArray } ∧ IntsAre vs ns ∧ ns.length ≤ n := by
  have hsh : WShape.hasAll [] args [.list .int] = true := (pre_splitW hpre).1
  have hc : l.pre.holds [] { args := args } = true := (pre_splitW hpre).2
  obtain ⟨d, r, rfl, h1, h2⟩ := hasAllW_cons hsh
  obtain rfl := hasAllW_nil h2
  obtain ⟨xs, rfl, h3⟩ := hasW_list h1
  obtain ⟨ns, rfl⟩ := items_int h3
  have hlen : ns.length ≤ n := by
    unfold OpenLaw.pre at hc
    have h4 : (WTm.not (.lt (.lit (.int (n : Int))) (.len (.arg 0)))).holds [] { args := [.list (ns.map .int)] } = true := by
      have h4 := (holds_andW hc).1
      rw [hn] at h4
      exact h4
    have h5 := condW_of h4 (w_not (w_lt w_lit (w_len_list (w_arg rfl))))
    rw [List.length_map] at h5
    refine Nat.le_of_not_lt fun q => ?_
    have q' : (n : Int) < ((ns.length : Nat) : Int) := by omega
    first
      | (rw [decide_eq_true q'] at h5; exact absurd h5 (by decide))
      | (simp at h5; omega)
  cases hwl with
  | cons w1 w2 =>
    cases w2
    cases w1 with
    | list ho hall => exact ⟨_, _, ns, rfl, rfl, ho, ints_of_wellAll ns _ hall, hlen⟩
theorem post_true (l : OpenLaw) (args : List WData) : l.row.toRowW.claim.post args (.bool true) args = true :=
  postW_of (r := l.row.toRowW) (X := (true == true))
    (show WShape.has [] (.bool true) .bool = true by first | rfl | decide | simp [WShape.has, WShape.arms, WShape.armsAll])
    (show (WTm.eq .res (.lit (.bool true))).value [] { args := args, res := some (.bool true), after := args } = some (.bool (true == true)) from w_eq_bool (w_res rfl) w_lit) rfl
theorem attach_call {l : OpenLaw} {n : Nat} {q : Program} {loose : List Str} {XP : (Str → Option Value) → Heap → Prop} {YP : World → Heap → Prop} {d : DefRec}
    (hn : l.most = some n) (hdf : d.params.defaults = [])
    (call : ∀ (w : World) (s₀ s₁ : Shared) (mg mb : Str → Option Value) (fa : Addr) (o : Obj) (pm cd doc : Value) (a : Addr) (vs : List Value) (ns : List Int),
      Ground q loose [] XP w s₀ mg mb s₁.heap → YP w s₁.heap →
      s₁.heap.get? fa = some o → o.data = .func (docDef d.name d.params d.body d.scope pm cd doc) → s₁.heap.CodeRec cd d.name → mg d.name = some (.ref fa) →
      s₁.heap.get? a = some { cls := .type "list", data := .seq vs.toArray } → IntsAre vs ns → ns.length ≤ n → s₁.gens = #[] →
      codeAny (model l.prog w) callerA (.call (.ref fa) ⟨[.ref a], []⟩) (fun r s' => r = .ok (.ret (.bool true)) ∧ OldK s₁.heap s'.heap ∧ s'.os = s₁.os ∧ AllBare s'.gens) s₁) :
    WalkO q loose XP YP l.row.toRowW d [] (fun f vs => PySem.call f vs) := by
  intro w s₀ s₁ mg mb G Y fa o pm cd doc dV kV ho hd hcd hD hmg hg args vals as hpre hlay hrd hwl hlo
  obtain rfl : dV = .none := Dflts.none hD hdf
  obtain rfl : kV = .none := Dflts.noKw hD
  obtain ⟨a, vs, ns, rfl, rfl, hobj, hints, hlen⟩ := script_of hn hpre hwl
  refine enter_call (codeAny_mono (call w s₀ s₁ mg mb fa o pm cd doc a vs ns G Y ho (fd_plain hd) hcd hmg hobj hints hlen hg) fun r s' hq => ?_)
  obtain ⟨rfl, h2, h3, h4⟩ := hq
  exact ⟨.inl ⟨.bool true, .bool true, [], rfl, fun _ => rfl, .bool true, post_true l _, fun _ => ⟨List.Pairwise.nil, fun _ hm => (nomatch hm)⟩⟩, h2, h3, h4⟩
section
variable {prog : Program} {w : World} {A : Around} {E : Value → Shared → Prop} {s : Shared} {K : Frag}
def noObjs (h : Heap) : Heap := { h with objs := #[] }
def ledger (h : Heap) (L d : Addr) : List (Addr × Obj) := (List.range h.objs.size).filterMap fun a => if a = L ∨ a = d then none else (h.get? a).map fun o => (a, o)
end
end Att
namespace L2
open PySem PySem.Spec PyProof.Rows
theorem vals_ints : ∀ {vs : List Value} {ns : List Int}, IntsAre vs ns → Vals (ns.map V.int) vs
  | _, _, .nil => .nil
  | _, _, .cons n t h => .cons ⟨t, rfl⟩ (vals_ints h)
def Only (H : Hp) : Prop := ∀ b, H b = none ∨ ∃ o xs, H b = some (.frz o (.lst xs))
theorem law_call {P : Program} {w : World} {K : PySem.W.Frag} {mg mb : Str → Option Value} {CX : CXT} {k : Nat} {fa a : Addr} {fd : FuncData} {x : Str} {sp : Sp} {s₁ : Shared} {vs : List Value} {ns : List Int}
    (KX : K.In s₁.heap) (hns : s₁.heap.Ns mainGlobals mg) (hb : s₁.heap.Ns builtinsNs mb) (hbb : ∀ x : Str, x ≠ "__name__" → mb x = bootBuiltins x) (hlim : s₁.heap.NoLimit) (hg : s₁.gens = #[])
    (ha : s₁.heap.get? a = some { cls := .type "list", data := .seq vs.toArray }) (hi : IntsAre vs ns) (hl : ns.length ≤ sizeLine) (hr : Room k callerA)
    (F : ∀ base : Heap, K.In base → base.Ns mainGlobals mg → FnOk P w K mg base CX k fa fd [x] sp) (hbind : ∀ (s : Shared) (u : Value), BindsTo s fd ⟨[u], []⟩ [(x, u)])
    (hsp : ∀ H : Hp, Only H → SqL K H a (ns.map V.int) → sp [.ref a] H (fun v _ => v = .bl true) fun _ _ _ => False)
    (hCX : ∀ H e s', CX [] H s₁ (fun _ _ _ => False) e s' → False) :
    codeAny (model P w) callerA (.call (.ref fa) ⟨[.ref a], []⟩) (fun r s' => r = .ok (.ret (.bool true)) ∧ OldK s₁.heap s'.heap ∧ s'.os = s₁.os ∧ AllBare s'.gens) s₁ := by
  have rv := vals_ints hi
  have lenV := hi.length
  have core : ∀ H : Hp, Only H → SqL K H a (ns.map V.int) → HOk P w H s₁.heap → (∀ b, H b ≠ none → b = a) → (H a ≠ none → K.lookup a = none) →
      codeAny (model P w) callerA (.call (.ref fa) ⟨[.ref a], []⟩) (fun r s' => r = .ok (.ret (.bool true)) ∧ OldK s₁.heap s'.heap ∧ s'.os = s₁.os ∧ AllBare s'.gens) s₁ := by
    intro H hO hS hok hA hK
    have base_of : ∀ {b : Addr} {o : Obj}, s₁.heap.get? b = some o → H b = none → (hidT s₁.heap H).get? b = some o := fun e n => hidT_get e n
    have noA : ∀ {b : Addr} {o : Obj} {es : Array DictEntry} {ep : Nat}, s₁.heap.get? b = some o → o.data = .dict es ep → H b = none := fun {b o es ep} e d => by
      cases q : H b with
      | none => rfl
      | some u =>
        have e' : b = a := hA b (by rw [q]; simp)
        subst e'
        rw [ha] at e; cases e
        have d' : Data.seq vs.toArray _ = Data.dict es ep := d
        cases d'
    have nsK : ∀ {b : Addr} {m : Str → Option Value}, s₁.heap.Ns b m → (hidT s₁.heap H).Ns b m := fun {b m} ⟨o, es, ep, e, d, r⟩ => ⟨o, es, ep, base_of e (noA e d), d, r⟩
    have hKb : K.In (hidT s₁.heap H) := fun b o e => base_of (KX b o e) (by
      cases q : H b with
      | none => rfl
      | some u =>
        have e' : b = a := hA b (by rw [q]; simp)
        subst e'
        rw [hK (by rw [q]; simp)] at e; cases e)
    have hM : Mod K mg (hidT s₁.heap H) := ⟨hKb, nsK hns, ⟨mb, nsK hb, hbb⟩, let ⟨mc, h1, h2⟩ := hlim; ⟨mc, nsK h1, h2⟩⟩
    have e0 : Env0 P w K mg (hidT s₁.heap H) callerA [] s₁ H := ⟨rfl, hM, fun b o e => of_hidT e, Nat.le_of_eq (hidT_size _ _), trivial, fun b hb => absurd (show b ∈ ([] : List Addr) from hb) (by simp), hok, .of_eq hg⟩
    refine codeAny_mono ((F _ hKb (nsK hns)).run callerA [] s₁ H ⟨[.ref a], []⟩ [.ref a] [.ref a] _ _ hr e0 (hbind s₁ (.ref a)) (.cons rfl .nil) (hsp H hO hS)) fun r s' h => ?_
    cases r with
    | error e => exact (hCX H e s' h).elim
    | ok fl =>
      cases fl with
      | next => exact False.elim h
      | brk => exact False.elim h
      | cont => exact False.elim h
      | ret u =>
        obtain ⟨v, H', os, bare, un, hok', r', q⟩ := h
        have q' : v = .bl true := q
        subst q'
        obtain rfl : u = Value.bool true := r'
        refine ⟨rfl, OldK.of_keep fun b o e => ?_, os, bare⟩
        cases q : H b with
        | none => exact un.keep b o e q (by intro z; exact absurd (show b ∈ ([] : List Addr) from z) (by simp)) (by simp)
        | some u =>
          rcases hO b with z | ⟨ob, xs, z⟩
          · rw [q] at z; cases z
          · have z2 := un.frzs b ob _ z
            obtain ⟨e1, _⟩ := hok b _ z
            obtain ⟨e2, _⟩ := hok' b _ z2
            rw [e] at e1; cases e1
            exact e2
  cases hk : K.lookup a with
  | some o =>
    have e := KX a o hk
    rw [ha] at e
    cases e
    refine core (fun _ => none) (fun _ => .inl rfl) (.inr ⟨_, vs.toArray, _, hk, rfl, rfl, rfl, by rw [List.size_toArray, lenV]; exact hl, by simpa using rv⟩) (fun b u z => by have z' : (none : Option HO) = some u := z; cases z') (fun b z => absurd rfl z) fun z => absurd rfl z
  | none =>
    refine core (fun b => if b = a then some (.frz { cls := .type "list", data := .seq vs.toArray } (.lst (ns.map V.int))) else none) (fun b => ?_) (.inl (.inr ⟨{ cls := .type "list", data := .seq vs.toArray }, if_pos rfl⟩)) (fun b u z => ?_) (fun b z => ?_) fun _ => hk
    · by_cases hb : b = a
      · exact .inr ⟨_, _, if_pos hb⟩
      · exact .inl (if_neg hb)
    · by_cases hb : b = a
      · have z' := (if_pos hb).symm.trans z
        cases z'
        subst hb
        exact ⟨ha, by rw [List.length_map]; exact hl, vs, _, rv, ha⟩
      · have z' := (if_neg hb).symm.trans z
        cases z'
    · by_cases hb : b = a
      · exact hb
      · exact absurd (if_neg hb) z
end L2
namespace L2
open PySem PySem.Spec PyProof.Rows
abbrev KOf {K : PySem.W.Frag} {h : Heap} (_ : K.In h) : PySem.W.Frag := K
theorem walk_of {l : PySem.W.OpenLaw} {n k : Nat} {q : Program} {loose : List Str} {XP : (Str → Option Value) → Heap → Prop} {YP : World → Heap → Prop} {d : DefRec} {K : Params → PySem.W.Frag} {CX : World → CXT} {sp : World → Sp} {x : Str}
    (hn : l.most = some n) (hn2 : n ≤ sizeLine) (hdf : d.params.defaults = []) (hr : Room k callerA)
    (hY : ∀ (w : World) (h : Heap), YP w h → (K w.params).In h)
    (F : ∀ (w : World) (mg : Str → Option Value) (fa : Addr) (h : Heap), (K w.params).In h → h.Ns mainGlobals mg → mg d.name = some (.ref fa) →
      ∃ fd : FuncData, (∀ (s : Shared) (u : Value), BindsTo s fd ⟨[u], []⟩ [(x, u)]) ∧
        ∀ base : Heap, (K w.params).In base → base.Ns mainGlobals mg → FnOk l.prog w (K w.params) mg base (CX w) k fa fd [x] (sp w))
    (hsp : ∀ (w : World) (H : Hp) (a : Addr) (ns : List Int), ns.length ≤ n → Only H → SqL (K w.params) H a (ns.map V.int) → sp w [.ref a] H (fun v _ => v = .bl true) fun _ _ _ => False)
    (hCX : ∀ (w : World) (H : Hp) (s : Shared) (e : Value) (s' : Shared), CX w [] H s (fun _ _ _ => False) e s' → False) :
    PySem.W.WalkO q loose XP YP l.row.toRowW d [] (fun f vs => PySem.call f vs) := by
  refine Att.attach_call hn hdf fun w s₀ s₁ mg mb fa o pm cd doc a vs ns G Y ho hd hcd hmg hobj hints hlen hg => ?_
  have KX := hY w _ Y
  obtain ⟨fd, hb, hF⟩ := F w mg fa _ KX G.T.g hmg
  exact law_call KX G.T.g G.T.b G.T.builtins G.T.nolimit hg hobj hints (Nat.le_trans hlen hn2) hr hF hb (fun H hO hS => hsp w H a ns hlen hO hS) fun H e s' => hCX w H s₁ e s'
theorem walk_ofK {l : PySem.W.OpenLaw} {n k : Nat} {q : Program} {loose : List Str} {XP : (Str → Option Value) → Heap → Prop} {YP : World → Heap → Prop} {d : DefRec} {K : Params → PySem.W.Frag} {CX : CXT} {sp : PySem.W.Frag → Sp} {x : Str}
    (hn : l.most = some n) (hn2 : n ≤ sizeLine) (hdf : d.params.defaults = []) (hr : Room k callerA)
    (hY : ∀ (w : World) (h : Heap), YP w h → (K w.params).In h)
    (F : ∀ (w : World) (mg : Str → Option Value) (fa : Addr) (h : Heap), (K w.params).In h → h.Ns mainGlobals mg → mg d.name = some (.ref fa) →
      ∃ fd : FuncData, (∀ (s : Shared) (u : Value), BindsTo s fd ⟨[u], []⟩ [(x, u)]) ∧
        ∀ base : Heap, (K w.params).In base → base.Ns mainGlobals mg → FnOk l.prog w (K w.params) mg base CX k fa fd [x] (sp (K w.params)))
    (hsp : ∀ (K : PySem.W.Frag) (H : Hp) (a : Addr) (ns : List Int), ns.length ≤ n → Only H → SqL K H a (ns.map V.int) → sp K [.ref a] H (fun v _ => v = .bl true) fun _ _ _ => False)
    (hCX : ∀ (H : Hp) (s : Shared) (e : Value) (s' : Shared), CX [] H s (fun _ _ _ => False) e s' → False) :
    PySem.W.WalkO q loose XP YP l.row.toRowW d [] (fun f vs => PySem.call f vs) :=
  walk_of (K := K) (CX := fun _ => CX) (sp := fun w => sp (K w.params)) hn hn2 hdf hr hY F (fun w H a ns h1 h2 h3 => hsp (K w.params) H a ns h1 h2 h3) fun _ H s e s' => hCX H s e s'
end L2
/- THE LAST THEOREM (shape; LID, My.* are yours):
   My.Adr: a structure of the addresses that your layer names (classes, functions); My.Txt K t: a structure (Prop) of the equations over K;
   My.txt_mk : {K} {implicit addresses ..} (e1 : nsIn K mainGlobals "law" = some (some (.ref f))) (e2 : K.lookup f = some ⟨oc, od, .func (fnOf "law" "law" params body scope dV kV doc pm an cdv ct), sl⟩) (e3 : codeIn K cdv "law" = true) .. : ∃ t, My.Txt K t
set_option maxRecDepth 100000 in
set_option maxHeartbeats 0 in
theorem PySem.Challenge.cw_LID_holds : PySem.Challenge.rw_LID.Holds := by
  w_on; o_law; k_head; (case hw => w_witness2)
  k_fill
  refine L2.walk_of (l := PySem.Challenge.rw_LID) (n := 63) (k := 40) (x := "script") (CX := fun w => ..) (sp := fun _ => My.sp_law) rfl (by decide) rfl ⟨rfl, by decide, by decide⟩ (fun w h Y => PySem.W.kIn_of Y) ?F ?S ?C
  case F =>
    intro w mg fa h KX G hmg
    have T : ∃ t, My.Txt (L2.KOf KX) t := by
      dsimp only [L2.KOf]                          -- K must stand as «<heap const> w.params» for k_is
      refine' My.txt_mk ?e1 ?e2 ?e3 ..
      (case e1 => PySem.W.k_is)                    -- in the order: a name -> its address -> its object -> its parts
      (case e2 => PySem.W.k_is)
      ..
    obtain ⟨t, T⟩ := T
    have e0 := hmg.symm.trans (PySem.W.mg_of KX G T.law)
    cases e0                                       -- fa is the law's own address
    exact ⟨_, fun s u => .of_eq rfl, fun base kb nb => My.law_fn T kb nb⟩     -- if «.of_eq rfl» comes too early: refine' ⟨_, ?b, fun base kb nb => My.law_fn T kb nb⟩; exact fun s u => .of_eq rfl
  case S => exact fun w H a ns hl hO hS => ..
  case C => exact ..
(the tactic k_is has no namespace: write k_is) -/
namespace L2
open PySem PySem.Spec PyProof.Rows
def inClass (s : Stmt) (j : Nat) : Stmt := match s with
  | .ClassDef _ _ _ body _ _ _ _ _ _ _ => body.getD j (.Pass ⟨0, 0, 0, 0⟩)
  | _ => .Pass ⟨0, 0, 0, 0⟩
def defArgs (s : Stmt) : Arguments := match s with
  | .FunctionDef _ a _ _ _ _ _ _ _ _ => a
  | _ => { posonlyargs := [], args := [], vararg := none, kwonlyargs := [], kw_defaults := [], kwarg := none, defaults := [] }
def defBody (s : Stmt) : List Stmt := match s with
  | .FunctionDef _ _ b _ _ _ _ _ _ _ => b
  | _ => []
def defScope (s : Stmt) : Scope := match s with
  | .FunctionDef _ _ _ _ _ _ sc _ _ _ => sc
  | _ => { kind := .function, names := [], isGenerator := false, isCoroutine := false }
abbrev CX0 : CXT := fun _ _ _ _ _ _ => False
abbrev E0 : XK := fun _ _ _ => False
theorem pass0 {X : Cx} : Passes CX0 X E0 := fun _ _ _ _ _ _ _ h => h.elim
structure Fun (K : PySem.W.Frag) (x qual : Str) (st : Stmt) (f : Addr) (fd : FuncData) : Prop where
  ex : ∃ (oc : Value) (od : Option Addr) (kV doc pm : Value) (an : Option Addr) (cdv ct : Value) (osl : Array (Option Value)),
    fd = PySem.W.fnOf x qual (defArgs st) (defBody st) (defScope st) .none kV doc pm an cdv ct ∧ K.lookup f = some ⟨oc, od, .func fd, osl⟩ ∧ PySem.W.codeIn K cdv qual = true
  kp : PySem.W.keepIn K (.ref f) = true
section
variable {P : Program} {w : World} {K : PySem.W.Frag} {mg : Str → Option Value} {base : Heap}
theorem Fun.ok {x qual : Str} {st : Stmt} {f : Addr} {fd : FuncData} {N ps : List Str} {k : Nat} {sp : Sp} (F : Fun K x qual st f fd) (S : FnScope N ps (defScope st)) (len : ∀ vs H Q E, sp vs H Q E → vs.length = ps.length)
    (hbody : ∀ (cdv : Value) (A : Around) (outer : List Env) (s : Shared) (H : Hp) (vs : List V) (Q : VK) (E : XK), Room k (A.deeper (envOfC qual (defScope st) s.heap.objs.size f cdv)) → sp vs H Q E →
      ∃ t, PSs (cxOf CX0 P w K mg base N qual (defScope st) f cdv A outer s H E).nox (defBody st) t ∧ t { nx := fun _ H' => Q .non H', rt := Q } (start N vs) H) : FnOk P w K mg base CX0 (k + 1) f fd ps sp := by
  obtain ⟨oc, od, kV, doc, pm, an, cdv, ct, osl, rfl, lk, hcd⟩ := F.ex
  refine fn_of lk hcd S len fun A outer s H vs Q E hr hsp => ?_
  obtain ⟨t, h, q⟩ := hbody cdv A outer s H vs Q E hr hsp
  exact ⟨t, h.nox, q⟩
theorem Fun.binds {x qual : Str} {st : Stmt} {f : Addr} {fd : FuncData} {ps : List Str} (F : Fun K x qual st f fd)
    (h : ∀ (kV doc pm : Value) (an : Option Addr) (cdv ct : Value) (us : List Value), us.length = ps.length → bindArgs (PySem.W.fnOf x qual (defArgs st) (defBody st) (defScope st) .none kV doc pm an cdv ct) ⟨us, []⟩ = pure (ps.zip us)) : Binds K fd ps [] := by
  obtain ⟨oc, od, kV, doc, pm, an, cdv, ct, osl, rfl, lk, hcd⟩ := F.ex
  exact .all (h kV doc pm an cdv ct)
theorem fun_mk {x qual : Str} {st : Stmt} {f : Addr} {oc : Value} {od an : Option Addr} {osl : Array (Option Value)} {kV doc pm cdv ct : Value} (l : K.lookup f = some ⟨oc, od, .func (PySem.W.fnOf x qual (defArgs st) (defBody st) (defScope st) .none kV doc pm an cdv ct), osl⟩)
    (c : PySem.W.codeIn K cdv qual = true) (k : PySem.W.keepIn K (.ref f) = true) : Fun K x qual st f (PySem.W.fnOf x qual (defArgs st) (defBody st) (defScope st) .none kV doc pm an cdv ct) := ⟨⟨oc, od, kV, doc, pm, an, cdv, ct, osl, rfl, l, c⟩, k⟩
end
section
variable {X : Cx}
end
theorem ite2 {c A B : Prop} [Decidable c] (h1 : c → A) (h2 : ¬ c → B) : if c then A else B := by
  by_cases h : c
  · rw [if_pos h]
    exact h1 h
  · rw [if_neg h]
    exact h2 h
def Same (H H' : Hp) : Prop := ∀ b o, H b = some o → H' b = some o
end L2
set_option Elab.async false
set_option linter.all false
set_option maxRecDepth 100000
set_option maxHeartbeats 4000000
namespace L2
open PySem PySem.Spec PyProof.Rows
section
variable {X : Cx}
def capS (cap : List (Option Nat)) (σ : St) : St := cap.map fun o => o.bind fun i => (σ[i]?).join
def cxComp (X : Cx) (cN : List Str) (scope : Scope) (cl : List (Str × Addr)) (fp : List Addr) (s : Shared) (H : Hp) : Cx :=
  { X with N := cN, s₀ := s, H₀ := H, env := compEnvC scope cl s.heap.objs.size X.env, outer := X.stack, ex := fp, fn := fun _ => false, pn := [], xe := fun _ _ => False }
def PIfs (X : Cx) (ifs : List Expr) (c : TT) : Prop :=
  ∀ (pins : List (Addr × Obj)) (s : Shared) (σ : St) (H : Hp) (Q : Bool → Hp → Prop), Inv X pins σ H s → c σ H Q →
    wpAny (model X.prog X.w) X.A (forIn ifs true fun c r => if r = true then do let ok ← isTrue c X.env (eval c X.env); pure (ForInStep.yield ok) else pure (ForInStep.yield r)) (TP X pins σ Q) X.xe s
def tNoIf : TT := fun _ H Q => Q true H
theorem pif_nil : PIfs X [] tNoIf := fun _ _ _ H _ I h => wpAny_tests_nil ⟨H, I, h⟩
theorem pif_one {e : Expr} {t : TT} (h : PT X e t) : PIfs X [e] t := fun pins s σ H Q I q => wpAny_tests_one (h pins s σ H Q I q)
def GKeep (js : List Nat) (g : TG) : Prop := ∀ x σ H Q, g x σ H Q → g x σ H fun σ' H' => Q σ' H' ∧ σ'.length = σ.length ∧ ∀ i, i ∉ js → σ'[i]? = σ[i]?
def GsKeep (js : List Nat) (g : TGs) : Prop := ∀ x σ H Q, g x σ H Q → g x σ H fun σ' H' => Q σ' H' ∧ σ'.length = σ.length ∧ ∀ i, i ∉ js → σ'[i]? = σ[i]?
theorem gk_name {i : Nat} : GKeep [i] (gName i) := fun x σ H Q h => ⟨h, by simp, fun j hj => by
  rw [List.getElem?_set_ne]
  intro e; exact hj (by simp [e])⟩
theorem gk_nil : GsKeep [] gNil := fun x σ H Q h => ⟨h.1, h.2, rfl, fun _ _ => rfl⟩
def TGmono (g : TG) : Prop := ∀ x σ H (Q Q' : St → Hp → Prop), (∀ σ' H', Q σ' H' → Q' σ' H') → g x σ H Q → g x σ H Q'
def TGsmono (g : TGs) : Prop := ∀ x σ H (Q Q' : St → Hp → Prop), (∀ σ' H', Q σ' H' → Q' σ' H') → g x σ H Q → g x σ H Q'
theorem gm_name {i : Nat} : TGmono (gName i) := fun x σ H Q Q' h q => h _ _ q
theorem gm_nil : TGsmono gNil := fun x σ H Q Q' h q => ⟨q.1, h _ _ q.2⟩
theorem gm_cons {g : TG} {u : TGs} (a : TGmono g) (b : TGsmono u) : TGsmono (gCons g u) := fun x σ H Q Q' h q => by
  obtain ⟨v, r, e, q⟩ := q
  exact ⟨v, r, e, a _ _ _ _ _ (fun σ' H' z => b _ _ _ _ _ h z) q⟩
theorem gk_cons {g : TG} {u : TGs} {js ks : List Nat} (a : GKeep js g) (am : TGmono g) (b : GsKeep ks u) (bm : TGsmono u) : GsKeep (js ++ ks) (gCons g u) := fun x σ H Q q => by
  obtain ⟨v, r, e, q⟩ := q
  refine ⟨v, r, e, am _ _ _ _ _ (fun σ' H' z => ?_) (a _ _ _ _ q)⟩
  obtain ⟨z, l1, k1⟩ := z
  refine bm _ _ _ _ _ (fun σ2 H2 z2 => ?_) (b _ _ _ _ z)
  obtain ⟨z2, l2, k2⟩ := z2
  exact ⟨z2, l2.trans l1, fun i hi => (k2 i fun z => hi (List.mem_append_right _ z)).trans (k1 i fun z => hi (List.mem_append_left _ z))⟩
theorem gk_tup {K : PySem.W.Frag} {n : Nat} {u : TGs} {js : List Nat} (b : GsKeep js u) : GKeep js (gTup K n u) := fun x σ H Q q => by
  obtain ⟨a, xs, e, hq, hl, q⟩ := q
  exact ⟨a, xs, e, hq, hl, b _ _ _ _ q⟩
def tGo (cap : List (Option Nat)) (g : TG) (c : TT) (te : TE) (σ : St) (Q : Addr → Hp → Prop) (J : It) (H1 : Hp) : Prop := ∀ p, H1 p = none → ∃ W : Nat → Nat → Hp → Prop, (∃ m, W 0 m (upd H1 p (.lst []))) ∧ ∀ i m H, W i m H →
  (J.stop i H ∧ Q p H) ∨ (J.go i H ∧ ∃ N : Hp → Prop, (∀ H', N H' → ∃ m', m' < m ∧ W (i + 1) m' H') ∧ ∀ x H', J.yld i H x H' → g x (capS cap σ) H' fun σ2 H2 => c σ2 H2 fun b H3 =>
    if b = true then te σ2 H3 fun v H4 => ∃ xs, H4 p = some (.lst xs) ∧ xs.length < sizeLine ∧ N (upd H4 p (.lst (xs ++ [v]))) else N H3)
def tCompL (cap : List (Option Nat)) (wi : TI) (g : TG) (c : TT) (te : TE) : St → Hp → (Addr → Hp → Prop) → Prop := fun σ H Q => wi σ H fun J H1 => tGo cap g c te σ Q J H1
structure CompOk (X : Cx) (cN : List Str) (cap : List (Option Nat)) (scope : Scope) (cl : List (Str × Addr)) : Prop where
  clos : closureFor scope X.env = pure cl
  sub : ∀ n a, cl.lookup n = some a → X.env.cells.lookup n = some a
  cell : ∀ y ∈ scope.names, y.2 ≠ .cell
  kind : scope.kind = .function
  names : ∀ x ∈ scope.names, x.2 = .local → scope.names.lookup x.1 = some .local
  len : cap.length = cN.length
  has : ∀ x, ((relabel scope X.env).names.lookup x = some .cell ∨ (relabel scope X.env).names.lookup x = some .free) → ∃ a, cl.lookup x = some a
  capd : ∀ (i j : Nat) (x : Str), cap[i]? = some (some j) → cN[i]? = some x → X.N[j]? = some x ∧ Vis X.env.scope x ∧ X.env.scope.names.lookup x ≠ some .local ∧ ((relabel scope X.env).names.lookup x = some .cell ∨ (relabel scope X.env).names.lookup x = some .free)
theorem capS_len {cap : List (Option Nat)} {σ : St} : (capS cap σ).length = cap.length := List.length_map _
theorem capS_get {cap : List (Option Nat)} {σ : St} {i : Nat} {v : V} (h : (capS cap σ)[i]? = some (some v)) : ∃ j, cap[i]? = some (some j) ∧ σ[j]? = some (some v) := by
  unfold capS at h
  rw [List.getElem?_map] at h
  cases e : cap[i]? with
  | none => rw [e] at h; cases h
  | some o =>
    rw [e] at h
    cases o with
    | none => cases h
    | some j =>
      refine ⟨j, rfl, ?_⟩
      simp only [Option.map_some, Option.bind_some, Option.some.injEq] at h
      cases q : σ[j]? with
      | none => rw [q] at h; cases h
      | some u => rw [q] at h; simp only [Option.join_some] at h; rw [h]
theorem comp_start {cN : List Str} {cap : List (Option Nat)} {scope : Scope} {cl : List (Str × Addr)} {fp : List Addr} {pins : List (Addr × Obj)} {σ : St} {H : Hp} {s : Shared} {h' : Heap} {m : Str → Option Value} {tk : Nat}
    (C : CompOk X cN cap scope cl) (I : Inv X pins σ H s) (f : ∀ b ∈ fp, FpOk X pins H b) (fl : ∀ b ∈ fp, b < s.heap.objs.size) (hn : h'.Ns s.heap.objs.size m) (k : ∀ b o, s.heap.get? b = some o → h'.get? b = some o) :
    Inv (cxComp X cN scope cl fp s H) [] (capS cap σ) H { s with heap := h', toks := tk } := by
  have hfs : ∀ b ∈ fp, b ∉ frs X.stack := fun b hb z => by
    rcases List.mem_cons.mp (I.stkSub b z) with e | z
    · exact (f b hb).2.1 e
    · exact (f b hb).2.2.1 z
  have hcl : ∀ x c, cl.lookup x = some c → ∃ v, s.heap.IsCell c v := fun x c e => I.cell x c (C.sub x c e)
  refine ⟨⟨I.ok.mod, ?_, I.ok.glob, I.ok.blt, Nat.le_refl _, fun x y c e1 e2 => I.ok.inj x y c (C.sub x c e1) (C.sub y c e2), C.has, fun _ _ z => (nomatch z), I.ok.hd, I.ok.frames, .inl rfl, fun b hb => ⟨Nat.ne_of_lt (fl b hb), fun x c e => (f b hb).2.2.2.2.1 x c (C.sub x c e)⟩,
      I.bs, Nat.le_trans I.ok.bsz I.sz, fun b o e z => ?_, hfs, I.stack, I.stkFree⟩, rfl, I.bare, Un.kept k, ⟨m, hn, fun i x v h1 h2 h3 => ?_⟩, fun x c e => ?_, I.fresh, fun x c e => I.freeC x c (C.sub x c e), fun p hp => absurd hp (by simp [cxComp]), I.hok.kept k, ?_⟩
  · exact C.kind
  · rcases (f b z).2.2.2.1 with q | q
    · exact I.ok.noex b o e q
    · exact absurd (Nat.lt_of_lt_of_le (Heap.lt_size (I.ok.bs b o e).1) q) (Nat.lt_irrefl _)
  · obtain ⟨j, hj, hσ⟩ := capS_get h2
    obtain ⟨n1, n2, n3, n4⟩ := C.capd i j x hj h1
    obtain ⟨mo, hno, hlo⟩ := I.loc
    obtain ⟨u, ru, lk⟩ := hlo j x v n1 hσ n2
    refine ⟨u, ru, ?_⟩
    rcases lk with ⟨k1, _⟩ | ⟨_, c, e, z⟩
    · exact absurd k1 n3
    · obtain ⟨a, ha⟩ := C.has x n4
      have ea := C.sub x a ha
      rw [e] at ea; cases ea
      obtain ⟨o, ho, hd⟩ := z
      exact .inr ⟨n4, c, ha, ⟨o, k _ _ ho, hd⟩⟩
  · obtain ⟨v, o, ho, hd⟩ := hcl x c e
    exact ⟨v, o, k _ _ ho, hd⟩
  · show (capS cap σ).length = cN.length
    rw [capS_len, C.len]
theorem comp_end {cN : List Str} {scope : Scope} {cl : List (Str × Addr)} {fp : List Addr} {pins pins' : List (Addr × Obj)} {σ σ' : St} {H H' : Hp} {s s' : Shared} {h' : Heap}
    (I : Inv X pins σ H s) (f : ∀ b ∈ fp, FpOk X pins H b) (J : Inv (cxComp X cN scope cl fp s H) pins' σ' H' s') (sb : Heap.SameBut s.heap.objs.size s'.heap h') : Inv X pins σ H' { s' with heap := h' } := by
  have ne : ∀ b o, s.heap.get? b = some o → b ≠ s.heap.objs.size := fun b o e => Nat.ne_of_lt (Heap.lt_size e)
  have B : Un (frs X.stack) fp H H' s.heap s'.heap := J.base
  refine I.call' (s' := { s' with heap := h' }) (ch := fp) J.os ⟨fun b o e n hb hx => ?_, fun b o e n hb hx => ?_, B.free, fun b o e hx => ?_, B.tups, B.frzs, B.tbls⟩ (fun b o e => ?_) J.bare fun b hb => ?_
  · exact (sb.2 b (ne b o e)).trans (B.keep b o e n hb hx)
  · obtain ⟨sl, q⟩ := B.slot b o e n hb hx
    exact ⟨sl, (sb.2 b (ne b o e)).trans q⟩
  · obtain ⟨o', q⟩ := B.there b o e hx
    exact ⟨o', (sb.2 b (ne b o e)).trans q⟩
  · have hf : H' s.heap.objs.size = none := J.free
    refine (J.hok b o e).stay (fun c w' hc q => (sb.2 c ?_).trans q) (fun _ q => q) fun _ _ q => q
    rintro rfl
    rcases hc with rfl | hc
    · rw [hf] at e; cases e
    · rw [hf] at hc; cases hc
  · obtain ⟨f0, f1, f2, f3, f4, f5⟩ := f b hb
    exact ⟨f3, f1, f4, f5⟩
theorem wpAny_falseE {α : Type} {t : Sem α} {Q : α → Shared → Prop} {M : Model} {A : Around} {E : Value → Shared → Prop} {s : Shared} (h : wpAny M A t Q (fun _ _ => False) s) : wpAny M A t Q E s := wpAny_mono h (fun _ _ q => q) fun _ _ f => f.elim
theorem comp_loop {tg iter elt : Expr} {ifs : List Expr} {scope : Scope} {pos : Pos} {cN : List Str} {cap : List (Option Nat)} {cl : List (Str × Addr)} {js : List Nat} {g : TG} {c : TT} {te : TE} {fp : List Addr} {it D : Addr} {tn : Nat → Heap → Prop} {J : It}
    {σ : St} {H : Hp} {s s' : Shared} {Q : Addr → Hp → Prop} {R : Result → Shared → Prop} {H₀ : Hp} (X : Cx)
    (hc : X.calm = true) (hg : PG (cxComp X cN scope cl fp s H₀) tg g) (gm : TGmono g) (gk : GKeep js g) (hjs : ∀ j ∈ js, (cap[j]?).join = none) (ht : PIfs (cxComp X cN scope cl fp s H₀) ifs c) (tm : ∀ σ H (Q Q' : Bool → Hp → Prop), (∀ b H', Q b H' → Q' b H') → c σ H Q → c σ H Q') (he : PE (cxComp X cN scope cl fp s H₀) elt te)
    (T : Turn X.prog X.w X.K tg J fp it tn) (W : Nat → Nat → Hp → Prop)
    (turn : ∀ i m H, W i m H → (J.stop i H ∧ Q D H) ∨ (J.go i H ∧ ∃ N : Hp → Prop, (∀ H', N H' → ∃ m', m' < m ∧ W (i + 1) m' H') ∧ ∀ x H', J.yld i H x H' → g x (capS cap σ) H' fun σ2 H2 => c σ2 H2 fun b H3 =>
      if b = true then te σ2 H3 fun v H4 => ∃ xs, H4 D = some (.lst xs) ∧ xs.length < sizeLine ∧ N (upd H4 D (.lst (xs ++ [v]))) else N H3))
    (m : Nat) (w0 : W 0 m H) (I : Inv (cxComp X cN scope cl fp s H₀) [] (capS cap σ) H s') (st : tn 0 s'.heap) (f : ∀ b ∈ fp, FpOk (cxComp X cN scope cl fp s H₀) [] H b)
    (hR : ∀ σ' H' s', Inv (cxComp X cN scope cl fp s H₀) [] σ' H' s' → Q D H' → R (.ok .next) s') :
    codeAny (model X.prog X.w) X.A (.compLoop (.ListComp elt [⟨tg, iter, ifs, 0⟩] scope pos) 0 (.ref it) (.ref D) (cxComp X cN scope cl fp s H₀).env) R s' := by
  have stat : ∀ {H' : Hp}, (∀ b ∈ fp, H' b = none) → ∀ b ∈ fp, FpOk (cxComp X cN scope cl fp s H₀) [] H' b := fun hn b hb => ⟨hn b hb, (f b hb).2⟩
  refine codeAny_loop rfl (fun n s' => ∃ i H', Inv (cxComp X cN scope cl fp s H₀) [] (capS cap σ) H' s' ∧ tn i s'.heap ∧ (∀ b ∈ fp, H' b = none) ∧ W i n H') ?_ m ⟨0, H, I, st, fun b hb => (f b hb).1, w0⟩
  rintro n s3 ⟨i, H3, I3, st3, fr3, w3⟩
  show wpAny _ X.A ((compTurn (.ListComp elt [⟨tg, iter, ifs, 0⟩] scope pos) 0 (.ref it) (.ref D) (cxComp X cN scope cl fp s H₀).env).onRaise (fun x => do noteFrame x (cxComp X cN scope cl fp s H₀).env; theTreesLotGoes x)) _ _ s3
  refine wpAny_noted (wpAny_falseE ?_)
  rw [compTurn_list]
  refine wpAny_bind (wpAny_standAt (wpAny_bind ?_))
  rcases turn i n H3 w3 with ⟨stop, qn⟩ | ⟨go, N, hN, step⟩
  · refine thn (T.done (cxComp X cN scope cl fp s H₀) rfl rfl rfl hc i [] s3 _ H3 _ I3 (stat fr3) st3 stop) fun r s4 ⟨hr, I4⟩ => ?_
    subst hr
    exact wpAny_pure (hR _ _ _ I4 qn)
  · refine thn (T.item (cxComp X cN scope cl fp s H₀) rfl rfl rfl hc i [] s3 _ H3 _ I3 (stat fr3) st3 go) fun r s4 ⟨u, hr, h4⟩ => ?_
    subst hr
    refine wpAny_bind (thn h4 fun _ s5 ⟨x, H5, I5, r5, y5, st5, fr5⟩ => ?_)
    have I5' := I5.pinned (stat fr5) (T.obj _ _ st5)
    refine wpAny_bind (thn (hg _ s5 _ H5 x u _ I5' r5 (gk _ _ _ _ (step x H5 y5))) fun _ s6 ⟨σ6, H6, I6, q6, l6, k6⟩ => ?_)
    have back : ∀ {H7 : Hp} {s7 : Shared}, Inv (cxComp X cN scope cl fp s H₀) ([] ++ pinsAt fp s5.heap) σ6 H7 s7 → N H7 → ∃ m, m < n ∧ ∃ i H', Inv (cxComp X cN scope cl fp s H₀) [] (capS cap σ) H' s7 ∧ tn i s7.heap ∧ (∀ b ∈ fp, H' b = none) ∧ W i m H' := fun {H7 s7} I7 n7 => by
      obtain ⟨m', hm, w7⟩ := hN H7 n7
      refine ⟨m', hm, i + 1, H7, I7.unpinned.weak l6.symm fun j v hj => ?_, T.keep _ _ _ st5 fun b hb o e => (I7.pin (b, o) (List.mem_append_right _ (List.mem_append_right _ (mem_pinsAt hb e)))).1, fun b hb => ?_, w7⟩
      · by_cases hjj : j ∈ js
        · obtain ⟨z, hz, _⟩ := capS_get hj
          have := hjs j hjj
          rw [hz] at this; cases this
        · rw [k6 j hjj]; exact hj
      · obtain ⟨o, e, d⟩ := T.obj _ _ st5 b hb
        exact (I7.pin (b, o) (List.mem_append_right _ (List.mem_append_right _ (mem_pinsAt hb e)))).2.1
    refine wpAny_bind (thn (ht _ s6 σ6 H6 _ I6 q6) fun b s7 ⟨H7, I7, q7⟩ => ?_)
    cases b with
    | false =>
      rw [if_neg Bool.false_ne_true] at q7
      exact wpAny_pure ⟨rfl, back I7 q7⟩
    | true =>
      rw [if_pos rfl] at q7
      refine wpAny_bind (wpAny_bind (thn (he _ s7 σ6 H7 _ I7 q7) fun y s8 ⟨v, H8, I8, r8, xs, e8, z8, n8⟩ => ?_))
      refine wpAny_bind (thn (mt_append _ s8 σ6 H8 (.ref D) [v] (.ref D) [y] (fun _ H9 => N H9) I8 rfl (.cons r8 .nil) ⟨D, xs, v, rfl, rfl, e8, z8, n8⟩) fun _ s9 ⟨_, H9, I9, _, q9⟩ => ?_)
      exact wpAny_pure (wpAny_pure ⟨rfl, back I9 q9⟩)
section
variable {X : Cx} {tg iter elt : Expr} {ifs : List Expr} {scope : Scope} {pos : Pos} {cN : List Str} {cap : List (Option Nat)} {cl : List (Str × Addr)} {js : List Nat} {wi : TI} {g : TG} {c : TT} {te : TE}
structure CompP (X : Cx) (tg iter elt : Expr) (ifs : List Expr) (scope : Scope) (cN : List Str) (cap : List (Option Nat)) (cl : List (Str × Addr)) (js : List Nat) (wi : TI) (g : TG) (c : TT) (te : TE) : Prop where
  calm : X.calm = true
  ok : X.Ok → CompOk X cN cap scope cl
  it : PI X tg iter wi
  tgt : ∀ fp s H, PG (cxComp X cN scope cl fp s H) tg g
  gm : TGmono g
  gk : GKeep js g
  js0 : ∀ j ∈ js, (cap[j]?).join = none
  ts : ∀ fp s H, PIfs (cxComp X cN scope cl fp s H) ifs c
  tm : ∀ σ H (Q Q' : Bool → Hp → Prop), (∀ b H', Q b H' → Q' b H') → c σ H Q → c σ H Q'
  el : ∀ fp s H, PE (cxComp X cN scope cl fp s H) elt te
  fold : ∀ x, foldedSetIterable iter X.env x = pure x
theorem comp_block {pins : List (Addr × Obj)} {σ : St} {H : Hp} {s : Shared} {Q : Addr → Hp → Prop} {RR : Value → Addr → Result → Shared → Prop} (C : CompP X tg iter elt ifs scope cN cap cl js wi g c te) (I : Inv X pins σ H s) (h : tCompL cap wi g c te σ H Q)
    (hRR : ∀ (D : Addr) (fp : List Addr) (s3 : Shared) (H3 : Hp) (σ' : St) (H' : Hp) (s' : Shared), Inv X pins σ H3 s3 → (∀ b ∈ fp, FpOk X pins H3 b) → Inv (cxComp X cN scope cl fp s3 H3) [] σ' H' s' → Q D H' → RR (.ref D) s3.heap.objs.size (.ok .next) s') :
    wpAny (model X.prog X.w) X.A (eval iter X.env) (fun x s₁ => wpAny (model X.prog X.w) X.A (pyIter x) (fun it s₂ => wpAny (model X.prog X.w) X.A (newList []) (fun acc s₃ =>
      wpAny (model X.prog X.w) X.A (newFunctionEnv scope X.env.globals cl [] X.env.qual none .none (some X.env)) (fun cenv s₄ =>
        codeAny (model X.prog X.w) X.A (.compStart (.ListComp elt [⟨tg, iter, ifs, 0⟩] scope pos) 0 it acc { cenv with scope := relabel scope X.env }) (RR acc cenv.locals) s₄) X.xe s₃) X.xe s₂) X.xe s₁) X.xe s := by
  refine thn (C.it pins s σ H _ I h) fun v s1 h1 => thn h1 fun itv s2 h2 => ?_
  obtain ⟨it, fp, tn, J, H2, e, I2, T, st2, f2, R2⟩ := h2
  subst e
  obtain ⟨W, ⟨m, w0⟩, turn⟩ := R2 s2.heap.objs.size I2.fresh
  have I3 : Inv X pins σ (upd H2 s2.heap.objs.size (.lst [])) { s2 with heap := s2.heap.push { cls := .type "list", data := .seq ([] : List Value).toArray }, toks := s2.toks } := I2.lnew (ys := []) (its := []) .nil (Nat.zero_le _)
  have fl : ∀ b ∈ fp, b < s2.heap.objs.size := fun b hb => by
    obtain ⟨o, e, _⟩ := T.obj _ _ st2 b hb
    exact Heap.lt_size e
  have f3 : ∀ b ∈ fp, FpOk X pins (upd H2 s2.heap.objs.size (.lst [])) b := fun b hb => ⟨by rw [upd_ne (Nat.ne_of_lt (fl b hb))]; exact (f2 b hb).1, (f2 b hb).2⟩
  refine wpAny_newObj_type (wpAny_newFunctionEnv (C.ok I.ok).cell (by intro y hy; simp at hy) (fun h₁ hns₁ hsb₁ => ?_) (C.ok I.ok).kind)
  dsimp only at hns₁ hsb₁ ⊢
  generalize hs3 : ({ s2 with heap := s2.heap.push { cls := .type "list", data := .seq ([] : List Value).toArray }, toks := s2.toks } : Shared) = s3 at I3
  have hh3 : s3.heap = s2.heap.push { cls := .type "list", data := .seq ([] : List Value).toArray } := by rw [← hs3]
  rw [← hh3] at hns₁ hsb₁ ⊢
  have fl3 : ∀ b ∈ fp, b < s3.heap.objs.size := fun b hb => by rw [hh3, Heap.size_push]; exact Nat.lt_succ_of_lt (fl b hb)
  have k1 : ∀ b o, s3.heap.get? b = some o → h₁.get? b = some o := fun b o e => (hsb₁.2 b (Nat.ne_of_lt (Heap.lt_size e))).trans (Heap.get?_push_of_some _ e)
  have I4 := comp_start (tk := s2.toks + ([] : List (Str × Value)).length) (C.ok I.ok) I3 f3 fl3 hns₁ k1
  have e4 : ({ s3 with heap := h₁, toks := s2.toks + ([] : List (Str × Value)).length } : Shared) = { s2 with heap := h₁, toks := s2.toks + ([] : List (Str × Value)).length } := by rw [← hs3]
  rw [e4] at I4
  have st4 : tn 0 h₁ := T.keep _ _ _ st2 fun b hb o e => k1 b o (by rw [hh3]; exact Heap.get?_push_of_some _ e)
  have f4 : ∀ b ∈ fp, FpOk (cxComp X cN scope cl fp s3 (upd H2 s2.heap.objs.size (.lst []))) [] (upd H2 s2.heap.objs.size (.lst [])) b := fun b hb => by
    obtain ⟨g0, g1, g2, g3, g4, g5⟩ := f3 b hb
    refine ⟨g0, Nat.ne_of_lt (fl3 b hb), fun z => ?_, .inl hb, fun x c e => g4 x c ((C.ok I.ok).sub x c e), fun p hp => absurd hp (by simp [cxComp])⟩
    rcases List.mem_cons.mp (I3.stkSub b z) with e | z
    · exact g1 e
    · exact g2 z
  have loop : codeAny (model X.prog X.w) X.A (.compLoop (.ListComp elt [⟨tg, iter, ifs, 0⟩] scope pos) 0 (.ref it) (.ref s2.heap.objs.size) (cxComp X cN scope cl fp s3 (upd H2 s2.heap.objs.size (.lst []))).env) (RR (.ref s2.heap.objs.size) s3.heap.objs.size)
      { s2 with heap := h₁, toks := s2.toks + ([] : List (Str × Value)).length } :=
    comp_loop X C.calm (C.tgt _ _ _) C.gm C.gk C.js0 (C.ts _ _ _) C.tm (C.el _ _ _) T W turn m w0 I4 st4 f4 fun σ' H' s' I' q => hRR _ fp s3 _ σ' H' s' I3 f3 I' q
  exact codeAny_compStart_list loop (T.self _ 0 _ _ _ st4 loop)
def tComp (cap : List (Option Nat)) (wi : TI) (g : TG) (c : TT) (te : TE) : TE := fun σ H Q => tCompL cap wi g c te σ H fun p H' => Q (.ref p) H'
theorem pe_comp (C : CompP X tg iter elt ifs scope cN cap cl js wi g c te) : PE X (.ListComp elt [⟨tg, iter, ifs, 0⟩] scope pos) (tComp cap wi g c te) := by
  intro pins s σ H Q I h
  rw [eval_ListComp]
  refine wpAny_comprehension_free (use := none) rfl C.fold (C.ok I.ok).clos (C.ok I.ok).kind (C.ok I.ok).names (comp_block (RR := fun acc C' => compPost (model X.prog X.w) X.A X.xe none (EP X pins σ Q) acc C') C I h ?_)
  intro D fp s3 H3 σ' H' s' I3 f3 J q
  obtain ⟨m, hn, _⟩ := J.loc
  exact ⟨m, hn, fun h' sb => ⟨.ref D, H', comp_end I3 f3 J sb, rfl, q⟩⟩
def tSetComp (i : Nat) (cap : List (Option Nat)) (wi : TI) (g : TG) (c : TT) (te : TE) : TS := fun D σ H => tCompL cap wi g c te σ H fun p H' => D.nx (σ.set i (some (.ref p))) H'
theorem ps_setComp {i : Nat} {y : Str} {py spos : Pos} (hN : X.N.Nodup) (hi : X.N[i]? = some y) (hy : X.env.scope.names.lookup y = some .local)
    (hsw : swapsWith (.ListComp elt [⟨tg, iter, ifs, 0⟩] scope pos) (some (.Name y py)) spos.line X.env = pure true)
    (C : CompP X tg iter elt ifs scope cN cap cl js wi g c te) : PS X (.Assign [.Name y py] (.ListComp elt [⟨tg, iter, ifs, 0⟩] scope pos) spos) (tSetComp i cap wi g c te) := by
  intro pins s σ H D I h
  rw [exec_Assign_Name_used _ _ _ _ hsw]
  refine wpAny_bind (wpAny_standAt (wpAny_bind ?_))
  show wpAny _ X.A (do let _ ← comprehension (.ListComp elt [⟨tg, iter, ifs, 0⟩] scope pos) scope X.env _ (newList []) false (eval iter X.env) (some (assign (.Name y py) X.env))) _ _ s
  refine wpAny_bind (wpAny_mono (wpAny_comprehension_free (use := some (assign (.Name y py) X.env)) (Q := fun _ s' => SP X pins D .next s') rfl C.fold (C.ok I.ok).clos (C.ok I.ok).kind (C.ok I.ok).names
    (comp_block (RR := fun acc C' => compPost (model X.prog X.w) X.A X.xe (some (assign (.Name y py) X.env)) (fun _ s' => SP X pins D .next s') acc C') C I h ?_)) (fun _ s' hq => wpAny_pure (wpAny_pure hq)) fun _ _ e => e)
  intro D' fp s3 H3 σ' H' s' I3 f3 J q
  obtain ⟨m, hn, _⟩ := id J.loc
  have I4 : Inv X pins σ H' s' := comp_end I3 f3 J (Heap.SameBut.refl ..)
  show wpAny _ X.A (assign (.Name y py) X.env (.ref D')) _ _ _
  refine wpAny_assign_Name (store_ok2 (v := .ref D') I4 hN hi (.inl hy) rfl (fun s5 I5 hch => ?_) (.inr hy))
  obtain ⟨a, sb, ha⟩ := hch
  have hf : H' s3.heap.objs.size = none := J.free
  have hCL : s3.heap.objs.size ≠ X.env.locals := Nat.ne_of_gt I3.lt
  have hcells : ∀ x c, X.env.cells.lookup x = some c → c ≠ s3.heap.objs.size := fun x c e => by
    obtain ⟨v, o, ho, _⟩ := I3.cell x c e
    exact Nat.ne_of_lt (Heap.lt_size ho)
  have haC : s3.heap.objs.size ≠ a := by
    rcases ha with z | z
    · rw [z]; exact hCL
    · exact Ne.symm (hcells _ _ z)
  refine ⟨m, hn.sameBut sb haC, fun h6 sb6 => ⟨_, H', ?_, q⟩⟩
  exact I5.turned (h' := h6) (t' := s5.toks) (fun b o hb e => (sb6.2 b hb).trans e) hf hCL (.inr I3.sz) (fun x c e => hcells x c e) fun p hp z => by
    have := Heap.lt_size (I3.pin p hp).1
    rw [z] at this; exact Nat.lt_irrefl _ this
end
end
end L2
set_option Elab.async false
set_option linter.all false
set_option maxRecDepth 100000
set_option maxHeartbeats 4000000
namespace L2
open PySem PySem.Spec PyProof.Rows
def Its (z : Str) : It := ⟨fun i _ => i < z.cps.size, fun i H x H' => H' = H ∧ ∃ c, z.cps[i]? = some c ∧ x = .str ⟨#[c]⟩, fun i _ => i = z.cps.size⟩
theorem turn_walks {P : Program} {w : World} {K : PySem.W.Frag} {tg : Expr} {ty : String} {it : Addr} {z : Str} {t : Tok} (hty : ["enumerate", "zip", "dict_itemiterator", "dict_reverseitemiterator", "odict_iterator", "itertools.zip_longest", "itertools.pairwise"].contains ty = false)
    (W : ∀ A : Around, A.handled = none → Walks P w A it [it] [it] z.cps.size (SignAt z) (fun i h => h.IsStrIter it ty z t i))
    (self : ∀ (A : Around) (i : Nat) (s : Shared) (Q : Value → Shared → Prop) (E : Value → Shared → Prop), s.heap.IsStrIter it ty z t i → Q (.ref it) s → wpAny (model P w) A (pyIter (.ref it)) Q E s) :
    Turn P w K tg (Its z) [it] it (fun i h => h.IsStrIter it ty z t i) where
  mem := by simp
  obj := fun i h st b hb => by
    have e : b = it := by simpa using hb
    subst e
    obtain ⟨o, e, c, d⟩ := st
    exact ⟨o, e, fun v z => by rw [d] at z; cases z⟩
  keep := fun i h h' st k => let ⟨o, e, r⟩ := st; ⟨o, k it (by simp) o e, r⟩
  item := by
    intro X hP hw hK hc i pins s σ H E I hf st hg
    subst hP hw hK
    obtain ⟨f0, f1, f2, f3, f4, f5⟩ := hf it (by simp)
    refine (W X.A (I.ok.hd hc)).item i s _ _ hg st fun v h' tk hv st' kk => ?_
    obtain ⟨c, u, hcp, rfl⟩ := hv
    have I1 : Inv X pins σ H { s with heap := h', toks := tk } := I.turned (fun b o hb e => kk b o (by simpa using hb) e) f0 f1 f3 f4 f5
    obtain ⟨o, e, c', d⟩ := id st'
    exact ⟨_, rfl, go_of (s := { s with heap := h', toks := tk }) e c' d hty ⟨.str ⟨#[c]⟩, H, I1, ⟨u, rfl⟩, ⟨rfl, c, hcp, rfl⟩, st', fun b hb => (hf b hb).1⟩⟩
  done := by
    intro X hP hw hK hc i pins s σ H E I hf st hg
    subst hP hw hK
    obtain ⟨f0, f1, f2, f3, f4, f5⟩ := hf it (by simp)
    have e : i = z.cps.size := hg
    subst e
    exact (W X.A (I.ok.hd hc)).done s _ _ st fun h' tk kk => ⟨rfl, I.turned (fun b o hb e => kk b o (by simpa using hb) e) f0 f1 f3 f4 f5⟩
  self := self
section
variable {X : Cx} {tg : Expr}
def iStr (tl : TE) : TI := fun σ H R => tl σ H fun x H1 => ∃ z, x = .str z ∧ R (Its z) H1
end
def Ite (z : Str) : It := ⟨fun i _ => i < z.cps.size, fun i H x H' => ∃ c T, z.cps[i]? = some c ∧ x = .ref T ∧ H T = none ∧ H' = upd H T (.tup [.int i, .str ⟨#[c]⟩]), fun i _ => i = z.cps.size⟩
section
variable {X : Cx} {elts : List Expr} {ek : Nat} {epos : Pos}
def iEnum (ta : TA) : TI := fun σ H R => ta σ H fun vs H1 => ∃ z, vs = [.str z] ∧ R (Ite z) H1
end
section
variable {X : Cx}
theorem range_allB (bs : List Bool) : ((List.range bs.length).all fun i => (bs[i]?).getD true) = bs.all id := by
  rw [Bool.eq_iff_iff, List.all_eq_true, List.all_eq_true]
  constructor
  · intro h x hx
    obtain ⟨i, hi, rfl⟩ := List.mem_iff_getElem.mp hx
    have := h i (List.mem_range.mpr hi)
    simpa [hi] using this
  · intro h i hi
    have hi' := List.mem_range.mp hi
    simpa [hi'] using h bs[i] (List.getElem_mem hi')
theorem call_allB (hc : X.calm = true) : CallR X (.builtin "all") (fun xs H Q => ∃ (p : Addr) (bs : List Bool), xs = [.ref p] ∧ SqL X.K H p (bs.map V.bl) ∧ Q (.bl (bs.all id)) H) := by
  intro pins s σ H xs us Q I r h
  obtain ⟨p, bs, rfl, hq, q⟩ := h
  obtain ⟨u, rfl, ru⟩ := vals1 r
  cases ru
  obtain ⟨its, rv, pl, hz⟩ := I.list hq
  have hl := pl.isList
  have hlt : p < s.heap.objs.size := by obtain ⟨_, e, _⟩ := hl; exact Heap.lt_size e
  have hlen : its.length = bs.length := by have := rv.length; simp at this; omega
  refine call_all_walk (wpAny_pyIter_list hl ?_)
  refine ⟨s.heap.objs.size, [s.heap.objs.size, p], [s.heap.objs.size], its.toArray.size, _, _, fun i => (bs[i]?).getD true, rfl, Walks.list (A := X.A.in1) (I.ok.hd hc) _ p (Nat.ne_of_lt hlt) its.toArray,
    ⟨⟨_, Heap.get?_push_size _ rfl, rfl, rfl⟩, hl.push _⟩, fun i v s' Q' E' hP hQ => ?_, fun h' tk hk => ?_⟩
  · have hv : its[i]? = some v := by simpa using hP
    have hi : i < its.length := (List.getElem?_eq_some_iff.mp hv).1
    have hb : (bs.map V.bl)[i]? = some (.bl bs[i]) := by simp [show i < bs.length by omega]
    obtain ⟨u, hu, ru⟩ := rv.get hb
    rw [hv] at hu; cases hu
    cases ru
    have e : (bs[i]?).getD true = bs[i] := by simp [show i < bs.length by omega]
    have hQ2 : Q' ((bs[i]?).getD true) s' := hQ
    rw [e] at hQ2
    exact wpAny_truthy_bool hQ2
  · have e : ((List.range its.toArray.size).all fun i => (bs[i]?).getD true) = bs.all id := by
      rw [List.size_toArray, hlen]; exact range_allB bs
    rw [e]
    refine ⟨.bl (bs.all id), H, I.kept fun b o x => hk b o (fun hm => ?_) (Heap.get?_push_of_some _ x), rfl, q⟩
    rw [List.mem_singleton.mp hm] at x; exact Nat.lt_irrefl _ (Heap.lt_size x)
def okV : V → Bool
  | .flt _ => false
  | .byt _ => false
  | _ => true
def rEqL (K : PySem.W.Frag) (k : Bool) : R2 := fun x y H Q => ∃ p q xs, x = .ref p ∧ y = .ref q ∧ SqL K H p xs ∧ SqL K H q xs ∧ xs.all okV = true ∧ Q (.bl k) H
def rCatT0 (K : PySem.W.Frag) : R2 := fun x y H Q => ∃ a b ys, x = .ref a ∧ y = .ref b ∧ SqT K H a [] ∧ SqT K H b ys ∧ Q (.ref b) H
theorem op_catT0 : OpR X (binaryOp .Add) (rCatT0 X.K) := by
  intro pins s σ H x y v u Q I rx ry h
  obtain ⟨a, b, ys, rfl, rfl, ha, hb, q⟩ := h
  cases rx
  cases ry
  obtain ⟨its, r1, p1, _⟩ := I.tuple ha
  obtain ⟨its2, r2, p2, _⟩ := I.tuple hb
  cases r1
  obtain ⟨⟨cls, dd, data, sl⟩, ho, hc, n, hd⟩ := id p1
  obtain ⟨⟨cls2, dd2, data2, sl2⟩, ho2, hc2, n2, hd2⟩ := id p2
  simp only at hc hd hc2 hd2
  subst hc hd hc2 hd2
  exact concat_meets ⟨_, ho, rfl⟩ ⟨_, ho2, rfl⟩ noFill_tuple_add seq_tuple_add PySem.F.slot_tuple_add PySem.F.entry_tuple_add (PySem.F.args_tuple_add_2 _ _)
    (tuple_addW0 a b _ _ n n2 dd dd2 sl sl2 (by simp)) ⟨ho, ho2, ⟨.ref b, H, I, rfl, q⟩⟩
theorem part_of {v : Value} {o : Option Int} (h : IsPart v o) : ∃ l : Option (Int × Tok), v = partValue l ∧ l.map (·.1) = o := by
  cases h with
  | none => exact ⟨none, rfl, rfl⟩
  | int i t => exact ⟨some (i, t), rfl, rfl⟩
def rSlS : V → Option Int → Option Int → Hp → VK → Prop := fun x lo hi H Q => ∃ z, x = .str z ∧ z.length ≤ sizeLine ∧ Q (.str (Txt.slice z lo hi)) H
theorem sl_str : SlR X rSlS := by
  intro pins s σ H x v vl vu lo hi sl Q I rx hs pl pu h
  obtain ⟨z, rfl, hz, q⟩ := h
  obtain ⟨t, rfl⟩ := rx
  obtain ⟨l, rfl, rfl⟩ := part_of pl
  obtain ⟨u, rfl, rfl⟩ := part_of pu
  refine ⟨"str", _, PySem.F.slot_str_getitem.lookup, typeIs_str _ _ _, ?_⟩
  obtain ⟨o, ho, hc, hd⟩ := hs
  refine wpAny_getItem_str_slice (l := l) (u := u) (st := none) ⟨o, ho, hc, hd⟩ rfl ?_
  have hle := Txt.slice_le z (l.map (·.1)) (u.map (·.1))
  unfold sliceMade
  unfold Txt.slice at q hle
  show Made.post (if ((1 : Int) == 1 && (PySem.Builtin.Str.strSliceIndices (l.map (·.1)) (u.map (·.1)) 1 z.length).length == z.length) = true then _ else Made.str ⟨((PySem.Builtin.Str.strSliceIndices (l.map (·.1)) (u.map (·.1)) 1 z.length).filterMap (z.cps[·]?)).toArray⟩) _ s
  split
  · rename_i hif
    rw [if_pos hif] at q
    exact ⟨.str z, H, I, ⟨t, rfl⟩, q⟩
  · rename_i hif
    rw [if_neg hif] at q
    rw [if_neg hif] at hle
    exact ⟨Nat.le_trans hle hz, .str _, H, I.tok _, ⟨_, rfl⟩, q⟩
end
end L2
set_option Elab.async false
set_option linter.all false
set_option maxRecDepth 100000
set_option maxHeartbeats 4000000
namespace L2
open PySem PySem.Spec PyProof.Rows
theorem bt_max : bootBuiltins "max" = some (.builtin "max") := by decide +kernel
theorem bt_all : bootBuiltins "all" = some (.builtin "all") := by decide +kernel
theorem bt_isinstance : bootBuiltins "isinstance" = some (.builtin "isinstance") := by decide +kernel
theorem bt_int : bootBuiltins "int" = some (.type "int") := by decide +kernel
theorem bt_str : bootBuiltins "str" = some (.type "str") := by decide +kernel
theorem bt_list : bootBuiltins "list" = some (.type "list") := by decide +kernel
theorem bt_tuple : bootBuiltins "tuple" = some (.type "tuple") := by decide +kernel
section
variable {X : Cx}
structure Ca (P : Program) (w : World) (K : PySem.W.Frag) (mg : Str → Option Value) (base : Heap) (k : Nat) (x : Str) (ps : List Str) (sp : Sp) : Prop where
  ex : ∃ (f : Addr) (fd : FuncData), FnOk P w K mg base CX0 k f fd ps sp ∧ Binds K fd ps [] ∧ PySem.W.keepIn K (.ref f) = true ∧ mg x = some (.ref f)
theorem pe_ca {k : Nat} {x : Str} {ps : List Str} {sp : Sp} {p pos : Pos} {e : Expr} {es : List Expr} {t : TA} (C : Ca X.prog X.w X.K X.mg X.base k x ps sp) (hr : Room k X.A) (hg : Gl X x) (ha : PA X (e :: es) t)
    (hdb : (x == ("__debug__" : Str)) = false := by decide) (he : starEach (e :: es) X.env = (false, eval e X.env) :: starEach es X.env := by rfl) (hpl : (backTo pos (starEach es X.env)).any (·.1) = false := by rfl) :
    PE X (.Call (.Name x p) (e :: es) [] pos) (tCall sp [] E0 t) := by
  obtain ⟨f, fd, F, B, kp, m⟩ := C.ex
  exact pe_call F hr hg m kp B .nil pass0 ha hdb he hpl
theorem gm_tup {K : PySem.W.Frag} {n : Nat} {u : TGs} (b : TGsmono u) : TGmono (gTup K n u) := fun x σ H Q Q' h q => by
  obtain ⟨a, xs, e, hq, hl, q⟩ := q
  exact ⟨a, xs, e, hq, hl, b _ _ _ _ _ h q⟩
theorem mem_relabel {scope : Scope} {env : Env} {x : Str} {k : NameKind} (h : (relabel scope env).names.lookup x = some k) : ∃ k', (x, k') ∈ scope.names ∧ (k' = k ∨ k' = .free) := by
  have m := PySem.mem_of_lookup h
  unfold relabel at m
  obtain ⟨⟨n, k'⟩, hm, e⟩ := List.mem_map.mp m
  dsimp only at e
  split at e
  · rename_i hc
    cases e
    refine ⟨k', hm, .inr ?_⟩
    simp only [Bool.and_eq_true, beq_iff_eq] at hc
    exact hc.1.1
  · cases e
    exact ⟨_, hm, .inl rfl⟩
theorem compOk0 {cN : List Str} {cap : List (Option Nat)} {scope : Scope} (hk : scope.kind = .function) (h1 : scope.names.all (fun y => y.2 != .free && y.2 != .cell) = true) (h2 : scope.names.all (fun y => y.2 != .local || scope.names.lookup y.1 == some .local) = true)
    (hl : cap.length = cN.length) (hc : cap.all (fun o => o.isNone) = true) : CompOk X cN cap scope [] where
  clos := closureFor_none fun y hy => by
    have := List.all_eq_true.mp h1 y hy
    simp only [Bool.and_eq_true, bne_iff_ne, ne_eq] at this
    exact this.1
  sub := fun n a h => by cases h
  cell := fun y hy => by
    have := List.all_eq_true.mp h1 y hy
    simp only [Bool.and_eq_true, bne_iff_ne, ne_eq] at this
    exact this.2
  kind := hk
  names := fun y hy e => by
    have := List.all_eq_true.mp h2 y hy
    simp only [Bool.or_eq_true, bne_iff_ne, ne_eq, beq_iff_eq] at this
    rcases this with q | q
    · exact absurd e q
    · exact q
  len := hl
  has := fun x h => by
    exfalso
    have no : ∀ k', (x, k') ∈ scope.names → k' ≠ .free ∧ k' ≠ .cell := fun k' hy => by
      have := List.all_eq_true.mp h1 _ hy
      simpa only [Bool.and_eq_true, bne_iff_ne, ne_eq] using this
    rcases h with h | h
    · obtain ⟨k', hm, e⟩ := mem_relabel h
      rcases e with e | e
      · exact (no k' hm).2 e
      · exact (no k' hm).1 e
    · obtain ⟨k', hm, e⟩ := mem_relabel h
      rcases e with e | e
      · exact (no k' hm).1 e
      · exact (no k' hm).1 e
  capd := fun i j x h _ => by
    have := List.all_eq_true.mp hc _ (List.mem_of_getElem? h)
    cases this
def closOf (cells : List (Str × Addr)) : List (Str × NameKind) → List (Str × Addr) → List (Str × Addr)
  | [], cs => cs
  | (n, k) :: r, cs => closOf cells r (if k == .free then (n, (cells.lookup n).getD 0) :: cs else cs)
theorem closOf_mem {cells : List (Str × Addr)} : ∀ {names : List (Str × NameKind)} {cs : List (Str × Addr)} {p : Str × Addr}, p ∈ closOf cells names cs ↔ p ∈ cs ∨ ((p.1, NameKind.free) ∈ names ∧ p.2 = (cells.lookup p.1).getD 0)
  | [], cs, p => by simp [closOf]
  | (n, k) :: r, cs, p => by
    unfold closOf
    rw [closOf_mem]
    by_cases hk : k = .free
    · subst hk
      simp only [beq_self_eq_true, if_true, List.mem_cons, Prod.mk.injEq, and_true]
      constructor
      · rintro ((h | h) | h)
        · subst h; exact .inr ⟨.inl rfl, rfl⟩
        · exact .inl h
        · exact .inr ⟨.inr h.1, h.2⟩
      · rintro (h | ⟨h | h, e⟩)
        · exact .inl (.inr h)
        · refine .inl (.inl ?_)
          obtain ⟨a, b⟩ := p
          simp only at h e
          subst h; subst e; rfl
        · exact .inr ⟨h, e⟩
    · have hb : (k == NameKind.free) = false := by simpa using hk
      simp only [hb, Bool.false_eq_true, if_false, List.mem_cons, Prod.mk.injEq]
      constructor
      · rintro (h | h)
        · exact .inl h
        · exact .inr ⟨.inr h.1, h.2⟩
      · rintro (h | ⟨h | h, e⟩)
        · exact .inl h
        · exact absurd h.2.symm hk
        · exact .inr ⟨h, e⟩
theorem closureFor_of {scope : Scope} {env : Env} (h : ∀ n, (n, NameKind.free) ∈ scope.names → ∃ c, env.cells.lookup n = some c) : closureFor scope env = pure (closOf env.cells scope.names []) := by
  have key : ∀ (names : List (Str × NameKind)) (cs : List (Str × Addr)), (∀ n, (n, NameKind.free) ∈ names → ∃ c, env.cells.lookup n = some c) →
      (forIn names cs fun x r => (match x with | (name, kind) => if (kind == NameKind.free) = true then (do let y ← cellOf env name; pure (ForInStep.yield ((name, y) :: r))) else pure (ForInStep.yield r) : Sem (ForInStep (List (Str × Addr))))) = pure (closOf env.cells names cs) := by
    intro names
    induction names with
    | nil => intro cs _; rfl
    | cons y r ih =>
      obtain ⟨n, k⟩ := y
      intro cs hn
      rw [List.forIn_cons]
      unfold closOf
      by_cases hk : k = .free
      · subst hk
        obtain ⟨c, hc⟩ := hn n (List.mem_cons_self)
        simp only [beq_self_eq_true, if_true, cellOf, hc, Option.getD_some]
        exact ih _ fun m hm => hn m (List.mem_cons_of_mem _ hm)
      · have hb : (k == NameKind.free) = false := by simpa using hk
        simp only [hb, Bool.false_eq_true, if_false]
        exact ih _ fun m hm => hn m (List.mem_cons_of_mem _ hm)
  unfold closureFor
  have := key scope.names [] h
  first
    | exact this
    | (simp only [bind_pure]; exact this)
    | (show (forIn scope.names [] _ >>= fun r => pure r) = _; rw [bind_pure]; exact this)
theorem lookup_snd {f : Str → NameKind → NameKind} : ∀ {names : List (Str × NameKind)} {x : Str}, (names.map fun y => (y.1, f y.1 y.2)).lookup x = (names.lookup x).map (f x)
  | [], x => rfl
  | (n, k) :: r, x => by
    have ih := @lookup_snd f r x
    rw [List.map_cons, List.lookup_cons, List.lookup_cons]
    by_cases hx : x = n
    · subst hx; simp
    · have hb : (x == n) = false := beq_eq_false_iff_ne.mpr hx
      simp only [hb]; exact ih
theorem lookup_relabel {scope : Scope} {env : Env} {x : Str} : (relabel scope env).names.lookup x =
      (scope.names.lookup x).map fun k => if (k == NameKind.free && env.scope.kind == .function && env.kindOf x == some .cell) then NameKind.cell else k := by
  rw [← lookup_snd (f := fun n k => if (k == NameKind.free && env.scope.kind == .function && env.kindOf n == some .cell) then NameKind.cell else k)]
  unfold relabel
  congr 1
  refine List.map_congr_left fun y _ => ?_
  obtain ⟨n, k⟩ := y
  dsimp only
  split <;> rfl
def capOk (N : List Str) (outer inner : List (Str × NameKind)) : List (Option Nat) → List Str → Bool
  | [], _ => true
  | _, [] => true
  | none :: r, _ :: xs => capOk N outer inner r xs
  | some j :: r, x :: xs => N[j]? == some x && outer.lookup x == some .cell && inner.lookup x == some .free && capOk N outer inner r xs
theorem capOk_get {N : List Str} {outer inner : List (Str × NameKind)} : ∀ {cap : List (Option Nat)} {cN : List Str}, capOk N outer inner cap cN = true → ∀ (i j : Nat) (x : Str), cap[i]? = some (some j) → cN[i]? = some x → N[j]? = some x ∧ outer.lookup x = some .cell ∧ inner.lookup x = some .free
  | [], _, _, i, j, x, h1, _ => by simp at h1
  | _ :: _, [], _, i, j, x, _, h2 => by simp at h2
  | none :: r, y :: xs, h, 0, j, x, h1, _ => by simp at h1
  | none :: r, y :: xs, h, i + 1, j, x, h1, h2 => capOk_get (cap := r) (cN := xs) (by simpa [capOk] using h) i j x (by simpa using h1) (by simpa using h2)
  | some k :: r, y :: xs, h, 0, j, x, h1, h2 => by
    simp only [capOk, Bool.and_eq_true, beq_iff_eq] at h
    simp at h1 h2
    subst h1 h2
    exact ⟨h.1.1.1, h.1.1.2, h.1.2⟩
  | some k :: r, y :: xs, h, i + 1, j, x, h1, h2 => by
    simp only [capOk, Bool.and_eq_true, beq_iff_eq] at h
    exact capOk_get (cap := r) (cN := xs) h.2 i j x (by simpa using h1) (by simpa using h2)
theorem lookup_of_mem {α β : Type} [BEq α] [LawfulBEq α] {x : α} : ∀ {l : List (α × β)} {b : β}, (x, b) ∈ l → ∃ c, l.lookup x = some c
  | [], _, h => by cases h
  | (y, c) :: r, b, h => by
    rw [List.lookup_cons]
    by_cases hx : x = y
    · subst hx; simp
    · have hb : (x == y) = false := beq_eq_false_iff_ne.mpr hx
      rw [hb]
      rcases List.mem_cons.mp h with e | h
      · cases e; exact absurd rfl hx
      · exact lookup_of_mem h
theorem compOkN {cN : List Str} {cap : List (Option Nat)} {scope : Scope} (ok : X.Ok) (hk : scope.kind = .function) (h1 : scope.names.all (fun y => y.2 != .cell) = true) (h2 : scope.names.all (fun y => y.2 != .local || scope.names.lookup y.1 == some .local) = true)
    (hl : cap.length = cN.length) (hf : (scope.names.all fun y => y.2 != .free || X.env.scope.names.lookup y.1 == some .cell) = true) (hc : capOk X.N X.env.scope.names scope.names cap cN = true) : CompOk X cN cap scope (closOf X.env.cells scope.names []) := by
  have hfr : ∀ n, (n, NameKind.free) ∈ scope.names → ∃ c, X.env.cells.lookup n = some c := fun n hn => by
    have := List.all_eq_true.mp hf _ hn
    simp only [bne_self_eq_false, Bool.false_or, beq_iff_eq] at this
    exact ok.has n (.inl this)
  refine ⟨closureFor_of hfr, fun n a h => ?_, fun y hy => ?_, hk, fun y hy e => ?_, hl, fun x h => ?_, fun i j x h1' h2' => ?_⟩
  · have m := PySem.mem_of_lookup h
    rw [closOf_mem] at m
    rcases m with m | ⟨m, e⟩
    · cases m
    · obtain ⟨c, hc⟩ := hfr n m
      simp only [hc, Option.getD_some] at e
      rw [hc, e]
  · have := List.all_eq_true.mp h1 y hy
    simpa using this
  · have := List.all_eq_true.mp h2 y hy
    simp only [Bool.or_eq_true, bne_iff_ne, ne_eq, beq_iff_eq] at this
    rcases this with q | q
    · exact absurd e q
    · exact q
  · have nc : ∀ k', (x, k') ∈ scope.names → k' ≠ .cell := fun k' hy => by
      have := List.all_eq_true.mp h1 _ hy
      simpa using this
    have m : (x, NameKind.free) ∈ scope.names := by
      rcases h with h | h
      · obtain ⟨k', hm, e⟩ := mem_relabel h
        rcases e with e | e
        · exact absurd e (nc k' hm)
        · subst e; exact hm
      · obtain ⟨k', hm, e⟩ := mem_relabel h
        rcases e with e | e <;> (subst e; exact hm)
    exact lookup_of_mem (b := (X.env.cells.lookup x).getD 0) (closOf_mem.mpr (.inr ⟨m, rfl⟩))
  · obtain ⟨q1, q2, q3⟩ := capOk_get hc i j x h1' h2'
    refine ⟨q1, .inr (.inl q2), (by rw [q2]; simp), ?_⟩
    rw [lookup_relabel, q3]
    simp only [Option.map_some, beq_self_eq_true, Bool.true_and]
    split
    · exact .inl rfl
    · exact .inr rfl
end
end L2
set_option Elab.async false
set_option linter.all false
set_option maxRecDepth 100000
set_option maxHeartbeats 4000000
namespace L2
open PySem PySem.Spec PyProof.Rows
def CN (p : Addr) (Pv : Nat → List V → Hp → Prop) (i : Nat) (H : Hp) : Prop := ∃ ys, H p = some (.lst ys) ∧ ys.length ≤ i ∧ Pv i ys H
section
variable {K : PySem.W.Frag} {cap : List (Option Nat)} {g : TG} {c : TT} {te : TE} {σ : St} {Q : Addr → Hp → Prop} {H : Hp}
end
def tForGo (g : TG) (tb : TS) (D : Ends) (σ : St) (J : It) (H1 : Hp) : Prop := ∃ W : Nat → Nat → St → Hp → Prop, (∃ m, W 0 m σ H1) ∧ ∀ i m σ H, W i m σ H →
  (J.stop i H ∧ D.nx σ H) ∨ (J.go i H ∧ ∃ N : St → Hp → Prop, (∀ σ' H', N σ' H' → ∃ m', m' < m ∧ W (i + 1) m' σ' H') ∧ ∀ x H', J.yld i H x H' → g x σ H' fun σ2 H2 => tb { D with nx := N, ct := N, bk := D.nx } σ2 H2)
section
variable {K : PySem.W.Frag} {a : Addr} {xs : List V} {g : TG} {tb : TS} {D : Ends} {σ : St} {H : Hp} {z : Str}
end
theorem tyL {K : PySem.W.Frag} {H : Hp} {r : Addr} {xs : List V} (h : H r = some (.lst xs)) : tyV K "list" (.ref r) H := by
  unfold tyV
  exact .inl ⟨rfl, xs, SqL.of h⟩
theorem atI_in {α : Type} {xs : List α} {i : Int} (h0 : 0 ≤ i) (h1 : i < (xs.length : Int)) : ∃ v, atI xs i = some v ∧ v ∈ xs := by
  have hk : i.toNat < xs.length := by omega
  have ek : ((i.toNat : Nat) : Int) = i := by omega
  have q : atI xs ((i.toNat : Nat) : Int) = some xs[i.toNat] := atI_nat (by simp [hk])
  rw [ek] at q
  exact ⟨xs[i.toNat], q, List.getElem_mem hk⟩
end L2
set_option Elab.async false
set_option linter.all false
set_option maxRecDepth 100000
set_option maxHeartbeats 4000000
namespace L2
open PySem PySem.Spec PyProof.Rows
section
variable {κ : Type} [DecidableEq κ]
def valV (kvs : List (κ × V)) (k : κ) : Option V := (kvs.find? fun kv => decide (kv.1 = k)).map (·.2)
def putK (kvs : List (κ × V)) (k : κ) (v : V) : List (κ × V) :=
  if (kvs.any fun kv => decide (kv.1 = k)) = true then kvs.map (fun kv => if kv.1 = k then (kv.1, v) else kv) else kvs ++ [(k, v)]
def dropK (kvs : List (κ × V)) (k : κ) : List (κ × V) := kvs.filter fun kv => decide (kv.1 ≠ k)
end
abbrev KT (H : Hp) : List (List Key × V) → List (List Key × Addr × Value) → Prop := Paired fun p q => p.1 = q.1 ∧ H q.2.1 = some (.tup (p.1.map kV)) ∧ RelV p.2 q.2.2
section
variable {P : Program} {w : World} {H : Hp} {h : Heap} {a : Addr}
end
def DGet (H : Hp) (a : Addr) (y : V) (r : Option V) : Prop :=
  (∃ kvs k, Rd H a (.dK kvs) ∧ y = kV k ∧ r = valV kvs k) ∨ ∃ kvs k b, Rd H a (.dT kvs) ∧ y = .ref b ∧ H b = some (.tup (k.map kV)) ∧ r = valV kvs k
def DPut (H : Hp) (a : Addr) (y v : V) (H' : Hp) : Prop :=
  (∃ kvs k, H a = some (.dK kvs) ∧ y = kV k ∧ kvs.length < sizeLine ∧ H' = upd H a (.dK (putK kvs k v))) ∨
  ∃ kvs k b, H a = some (.dT kvs) ∧ y = .ref b ∧ H b = some (.tup (k.map kV)) ∧ kvs.length < sizeLine ∧ H' = upd H a (.dT (putK kvs k v))
section
variable {X : Cx} {pins : List (Addr × Obj)} {σ : St} {H : Hp} {s : Shared} {a : Addr} {y v : V} {u r : Value} {o : Option V} {A : Around} {E : Value → Shared → Prop}
end
section
variable {X : Cx} {pins : List (Addr × Obj)} {σ : St} {H : Hp} {s : Shared} {a : Addr} {kvs : List (Key × V)} {k : Key} {u : Value} {A : Around} {E : Value → Shared → Prop}
end
def NoSl (i : Expr) : Prop := ∀ ov iv, subscripted i false ov iv = operate [ov, iv] (getItem ov iv)
def tDGet (td ty : TE) : TE := fun σ H Q => td σ H fun x H1 => ty σ H1 fun y H2 => ∃ a v, x = .ref a ∧ DGet H2 a y (some v) ∧ Q v H2
def tDIn (ty td : TE) : TE := fun σ H Q => ty σ H fun y H1 => td σ H1 fun x H2 => ∃ a o, x = .ref a ∧ DGet H2 a y o ∧ Q (.bl o.isSome) H2
def tDNotIn (ty td : TE) : TE := fun σ H Q => ty σ H fun y H1 => td σ H1 fun x H2 => ∃ a o, x = .ref a ∧ DGet H2 a y o ∧ Q (.bl (!o.isSome)) H2
def sDPut (td ty tv : TE) : TS := fun D σ H => tv σ H fun v H1 => td σ H1 fun x H2 => ty σ H2 fun y H3 => ∃ a H4, x = .ref a ∧ DPut H3 a y v H4 ∧ D.nx σ H4
def sDAug (td ty tv : TE) (rd : V → V → Hp → VK → Prop) : TS := fun D σ H => td σ H fun x H1 => ty σ H1 fun y H2 => ∃ a v, x = .ref a ∧ DGet H2 a y (some v) ∧
  tv σ H2 fun y2 H3 => rd v y2 H3 fun z H4 => ∃ H5, DPut H4 a y z H5 ∧ D.nx σ H5
def sDDel (td ty : TE) : TS := fun D σ H => td σ H fun x H1 => ty σ H1 fun y H2 => ∃ a kvs k, x = .ref a ∧ H2 a = some (.dK kvs) ∧ y = kV k ∧ (valV kvs k).isSome = true ∧ D.nx σ (upd H2 a (.dK (dropK kvs k)))
section
variable {X : Cx} {o i e value : Expr} {pos pos' tpos : Pos} {td ty tv : TE}
end
def tDNewK : TE := fun _ H Q => ∀ p, H p = none → Q (.ref p) (upd H p (.dK []))
def tDNewT : TE := fun _ H Q => ∀ p, H p = none → Q (.ref p) (upd H p (.dT []))
section
variable {X : Cx} {pos : Pos}
end
def tPairs : List (TE × TE) → St → Hp → (List (V × V) → Hp → Prop) → Prop
  | [], _, H, Q => Q [] H
  | (tk, tv) :: r, σ, H, Q => tk σ H fun x H1 => tv σ H1 fun y H2 => tPairs r σ H2 fun ps H3 => Q ((x, y) :: ps) H3
abbrev VV : List (V × V) → List (Value × Value) → Prop := Paired fun p q => RelV p.1 q.1 ∧ RelV p.2 q.2
def PPs (X : Cx) (pos : Pos) (keys : List (Option Expr)) (values : List Expr) (trs : List (TE × TE)) : Prop :=
  ∀ (pins : List (Addr × Obj)) (s : Shared) (σ : St) (H : Hp) (Q : List (V × V) → Hp → Prop), Inv X pins σ H s → tPairs trs σ H Q →
    wpAny (model X.prog X.w) X.A (evalPairs (pairTrees keys values X.env pos)) (fun vs s' => ∃ ps H', Inv X pins σ H' s' ∧ VV ps vs ∧ Q ps H') X.xe s
def mergeK (kvs more : List (Key × V)) : List (Key × V) := more.foldl (fun acc kv => putK acc kv.1 kv.2) kvs
def tDisp (trs : List (TE × TE)) : TE := fun σ H Q => ∀ p, H p = none → tPairs trs σ (upd H p (.dK [])) fun ps H2 => H2 p = some (.dK []) ∧ ∃ kvs : List (Key × V), ps = kvs.map (fun kv => (kV kv.1, kv.2)) ∧ kvs.length ≤ 15 ∧ Q (.ref p) (upd H2 p (.dK (mergeK [] kvs)))
structure M1 (X : Cx) (o : Expr) (m : Str) (apos : Pos) (e : Expr) (cpos : Pos) : Prop where
  base : attributeBase o m X.env (eval o X.env) = eval o X.env
  few : ((backTo cpos (starEach [e] X.env)).all (fun x => !x.1) && (backToKw cpos (keywordEach [] X.env)).all (fun x => x.1.isSome)
    && decide (([e] : List Expr).length + ([] : List Keyword).length + (if ([] : List Keyword).isEmpty then 0 else 1) < 30)) = true
  line : (apos.endLine == cpos.line) = true
  trees : backTo cpos (starEach [e] X.env) = [(false, eval e X.env)]
structure M2 (X : Cx) (o : Expr) (m : Str) (apos : Pos) (e f : Expr) (cpos : Pos) : Prop where
  base : attributeBase o m X.env (eval o X.env) = eval o X.env
  few : ((backTo cpos (starEach [e, f] X.env)).all (fun x => !x.1) && (backToKw cpos (keywordEach [] X.env)).all (fun x => x.1.isSome)
    && decide (([e, f] : List Expr).length + ([] : List Keyword).length + (if ([] : List Keyword).isEmpty then 0 else 1) < 30)) = true
  line : (apos.endLine == cpos.line) = true
  trees : backTo cpos (starEach [e, f] X.env) = [(false, eval e X.env), (false, eval f X.env)]
def IsD (H : Hp) (a : Addr) : Prop := (∃ kvs, Rd H a (.dK kvs)) ∨ ∃ kvs, Rd H a (.dT kvs)
section
variable {X : Cx} {pins : List (Addr × Obj)} {σ : St} {H : Hp} {s : Shared} {a : Addr} {y d : V} {u r : Value} {o : Option V} {A : Around} {E : Value → Shared → Prop}
end
def tDGet1 (td ty : TE) : TE := fun σ H Q => td σ H fun x H1 => ∃ a, x = .ref a ∧ IsD H1 a ∧ ty σ H1 fun y H2 => ∃ o, DGet H2 a y o ∧ Q (o.getD .non) H2
def tDGet2 (td ty tx : TE) : TE := fun σ H Q => td σ H fun x H1 => ∃ a, x = .ref a ∧ IsD H1 a ∧ ty σ H1 fun y H2 => tx σ H2 fun z H3 => ∃ o, DGet H3 a y o ∧ Q (o.getD z) H3
def tDPop1 (td ty : TE) : TE := fun σ H Q => td σ H fun x H1 => ∃ a, x = .ref a ∧ IsD H1 a ∧ ty σ H1 fun y H2 => ∃ kvs k v, H2 a = some (.dK kvs) ∧ y = kV k ∧ valV kvs k = some v ∧ Q v (upd H2 a (.dK (dropK kvs k)))
def tDPop2 (td ty tx : TE) : TE := fun σ H Q => td σ H fun x H1 => ∃ a, x = .ref a ∧ IsD H1 a ∧ ty σ H1 fun y H2 => tx σ H2 fun z H3 => ∃ kvs k, H3 a = some (.dK kvs) ∧ y = kV k ∧
  (∀ v, valV kvs k = some v → Q v (upd H3 a (.dK (dropK kvs k)))) ∧ (valV kvs k = none → Q z H3)
section
variable {X : Cx} {o e f : Expr} {apos cpos : Pos} {td ty tx : TE}
end
section
variable {X : Cx} {pins : List (Addr × Obj)} {σ : St} {H : Hp} {s : Shared} {a : Addr} {kvs : List (Key × V)} {A : Around} {E : Value → Shared → Prop}
end
section
variable {X : Cx} {pins : List (Addr × Obj)} {σ : St} {H : Hp} {s : Shared} {a : Addr} {y : V} {u : Value} {A : Around} {E : Value → Shared → Prop}
end
end L2
set_option Elab.async false
set_option linter.all false
set_option maxRecDepth 100000
set_option maxHeartbeats 4000000
namespace L2
open PySem PySem.Spec PyProof.Rows
def byTx (w : World) : Bool := w.params.followText "set-order"
theorem osi_led (t : SetTable) (n : Nat) : (t.orStandIn n).led = t.led := by
  unfold SetTable.orStandIn
  split <;> rfl
theorem osi_plain (t : SetTable) (n : Nat) (p : t.plain = false) : (t.orStandIn n).plain = false := by
  unfold SetTable.orStandIn
  split
  · exact p
  · rfl
theorem lay_led (t : SetTable) (es : Array (Int × Value)) (h : Int) (x : Value) : (layNew t es h x).2.1.led = t.led := by
  unfold layNew
  split
  · exact osi_led _ _
  · rfl
theorem lay_plain (t : SetTable) (es : Array (Int × Value)) (h : Int) (x : Value) (p : t.plain = false) : (layNew t es h x).2.1.plain = false := by
  unfold layNew
  split
  · exact osi_plain _ _ p
  · rfl
theorem relay_led (t : SetTable) (es : Array (Int × Value)) (n : Nat) : (relayAll t es n).2.1.led = t.led := by
  unfold relayAll
  split
  · rename_i t' order e
    unfold SetTable.relaid SetTable.laid at e
    cases hq : SetTable.layClean (SetTable.sizeAbove n - 1) (es.map (·.1)) with
    | none => rw [hq] at e; cases e
    | some ow =>
      rw [hq] at e
      simp only [Option.bind_eq_bind, Option.bind_some, Option.pure_def, Option.some.injEq, Prod.mk.injEq] at e
      obtain ⟨rfl, rfl⟩ := e
      dsimp only
      split <;> rfl
  · rfl
theorem relay_plain (t : SetTable) (es : Array (Int × Value)) (n : Nat) (p : t.plain = false) : (relayAll t es n).2.1.plain = false := by
  unfold relayAll
  split
  · rename_i t' order e
    unfold SetTable.relaid SetTable.laid at e
    cases hq : SetTable.layClean (SetTable.sizeAbove n - 1) (es.map (·.1)) with
    | none => rw [hq] at e; cases e
    | some ow =>
      rw [hq] at e
      simp only [Option.bind_eq_bind, Option.bind_some, Option.pure_def, Option.some.injEq, Prod.mk.injEq] at e
      obtain ⟨rfl, rfl⟩ := e
      dsimp only
      split
      · exact p
      · rfl
  · rfl
def txOf (e : Int × Value) : Str := strOf e.2
structure TxSet (P : Program) (w : World) (h : Heap) (a : Addr) (es : Array (Int × Value)) (ep : Nat) (t : SetTable) : Prop where
  get : h.get? a = some { cls := .type "set", dict := none, data := .set es ep t, slots := #[] }
  els : ElemsOf (PySem.strKind P w) es.toList
  fit : t.fits es.size = true
  bnd : es.size < scanBound
  pln : es.size ≠ 0 → t.plain = false
  led : t.led = !byTx w
  nod : (es.toList.map txOf).Nodup
theorem els_str {P : Program} {w : World} {l : List (Int × Value)} (h : ElemsOf (PySem.strKind P w) l) {e : Int × Value} (m : e ∈ l) : ∃ tk, e = (hashStr w (txOf e), Value.str (txOf e) tk) := by
  obtain ⟨⟨k, hk, hh⟩, _⟩ := h e m
  obtain ⟨tk, hv⟩ := Value.isStrOf_shape hk
  obtain ⟨i, v⟩ := e
  simp only at hv hh
  subst hv
  exact ⟨tk, by rw [hh]; rfl⟩
theorem is_tx {P : Program} {w : World} {l : List (Int × Value)} (h : ElemsOf (PySem.strKind P w) l) {e : Int × Value} (m : e ∈ l) (k : Str) : (PySem.strKind P w).is k e.2 = true ↔ txOf e = k := by
  obtain ⟨tk, he⟩ := els_str h m
  constructor
  · intro hk
    obtain ⟨t', hv⟩ := Value.isStrOf_shape hk
    unfold txOf; rw [hv]; rfl
  · intro hk
    rw [he, hk]
    show Value.isStrOf k (Value.str k tk) = true
    simp [Value.isStrOf]
section
variable {prog : Program} {w : World} {A : Around} {E : Value → Shared → Prop} {s : Shared}
theorem put_get {h : Heap} {a : Addr} {es : Array (Int × Value)} {ep : Nat} {t : SetTable} (g : h.get? a = some { cls := .type "set", dict := none, data := .set es ep t, slots := #[] }) (es' : Array (Int × Value)) (t' : SetTable) :
    (h.update a (Obj.putSet es' t')).get? a = some { cls := .type "set", dict := none, data := .set es' (ep + 1) t', slots := #[] } := by
  have q := Heap.get?_update_self (Obj.putSet es' t') g (by rw [putSet_of es' t' rfl]; rfl)
  rw [putSet_of es' t' rfl] at q
  exact q
theorem add_tail {g : Bool → Sem Unit} (hg : ∀ (b : Bool) (s₁ : Shared) (Q' : Unit → Shared → Prop), Q' () s₁ → wpAny (model prog w) A (g b) Q' E s₁)
    {a : Addr} {es : Array (Int × Value)} {ep : Nat} {t : SetTable} (ho : s.heap.get? a = some { cls := .type "set", dict := none, data := .set es ep t, slots := #[] })
    {e1 : Array (Int × Value)} {t2 : SetTable} (h1 : ElemsOf (PySem.strKind prog w) e1.toList) (h2 : t2.fits e1.size = true) (h3 : e1.size < scanBound) (h4 : t2.plain = false) (h5 : t2.led = !byTx w) (h6 : (e1.toList.map txOf).Nodup)
    {wd : Bool} {R : Option Bool → Shared → Prop}
    (h : ∀ h' e2 ep' t', Heap.SameBut a s.heap h' → TxSet prog w h' a e2 ep' t' → List.Perm e2.toList e1.toList → R (some true) { s with heap := h' }) :
    wpAny (model prog w) A (do
        storeSet a e1 t2
        if (!wd && t2.tooFull) = true then do
            g (relayAll t2 e1 (SetTable.grown e1.size)).2.2
            storeSet a (relayAll t2 e1 (SetTable.grown e1.size)).1 (relayAll t2 e1 (SetTable.grown e1.size)).2.1
            pure (some true)
          else pure (some true)) R E s := by
  refine wpAny_bind (wpAny_storeSet_of ho rfl ?_ (fits_of_scanBound h3))
  have g1 := put_get ho e1 t2
  have b1 := Heap.SameBut.update s.heap a (Obj.putSet e1 t2)
  split
  · have hp := relayAll_perm t2 e1 (SetTable.grown e1.size)
    have hf := relayAll_fits t2 e1 (SetTable.grown e1.size)
    have hl := relay_led t2 e1 (SetTable.grown e1.size)
    have hq := relay_plain t2 e1 (SetTable.grown e1.size) h4
    generalize relayAll t2 e1 (SetTable.grown e1.size) = Z at hp hf hl hq ⊢
    obtain ⟨e2, t3, gv⟩ := Z
    dsimp only at hp hf hl hq ⊢
    have hz : e2.size = e1.size := by rw [← Array.length_toList, hp.length_eq, Array.length_toList]
    have hb : e2.size < scanBound := by rw [hz]; exact h3
    refine wpAny_bind (hg _ _ _ ?_)
    refine wpAny_bind (wpAny_storeSet_of g1 rfl ?_ (fits_of_scanBound hb))
    exact wpAny_pure (h _ e2 _ t3 (b1.trans (Heap.SameBut.update _ a _)) ⟨put_get g1 e2 t3, h1.perm hp, hf, hb, fun _ => hq, hl.trans h5, (hp.map txOf).nodup_iff.mpr h6⟩ hp)
  · exact wpAny_pure (h _ e1 _ t2 b1 ⟨g1, h1, h2, h3, fun _ => h4, h5, h6⟩ (List.Perm.refl _))
theorem add_text {a : Addr} {es : Array (Int × Value)} {ep : Nat} {t : SetTable} {x : Str} {tk : Tok} {Q : Bool → Shared → Prop} (S : TxSet prog w s.heap a es ep t) (hr : es.size + 1 < scanBound)
    (h : ∀ (b : Bool) h' es' ep' t', Heap.SameBut a s.heap h' → TxSet prog w h' a es' ep' t' → (∀ y, y ∈ es'.toList.map txOf ↔ y ∈ es.toList.map txOf ∨ y = x) → es'.size ≤ es.size + 1 → Q b { s with heap := h' }) :
    wpAny (model prog w) A (setAddHashed a (.str x tk) (hashStr w x)) Q E s := by
  have hk : (PySem.strKind prog w).is x (Value.str x tk) = true := by show Value.isStrOf x (Value.str x tk) = true; simp [Value.isStrOf]
  have hsc : (Value.str x tk).scannable = true := rfl
  have e0 : hashStr w x = (PySem.strKind prog w).hash x := rfl
  rw [e0]
  unfold setAddHashed setAddHashedIn
  refine wpAny_holding (wpAny_bind (wpAny_setState_of S.get rfl S.fit ?_))
  dsimp only
  rw [byScan_of hsc S.bnd S.els]
  simp only [↓reduceIte]
  unfold setAddByScan
  refine wpAny_bind ?_
  refine wpAny_bind (wpAny_rule ?_)
  refine wpAny_bind (wpAny_setScan_of hk S.get rfl S.fit S.els ?_)
  cases hf : List.findIdx? (fun e => (PySem.strKind prog w).is x e.2) es.toList with
  | some j =>
    dsimp only
    obtain ⟨hj, hp, _⟩ := List.findIdx?_eq_some_iff_getElem.mp hf
    have hm : x ∈ es.toList.map txOf := List.mem_map.mpr ⟨_, List.getElem_mem hj, (is_tx S.els (List.getElem_mem hj) x).mp hp⟩
    refine wpAny_pure (wpAny_pure ?_)
    have q := h false s.heap es ep t (Heap.SameBut.refl a s.heap) S (fun y => ⟨.inl, fun z => z.elim id fun z => z ▸ hm⟩) (Nat.le_succ _)
    exact q
  | none =>
    dsimp only
    have hn : x ∉ es.toList.map txOf := fun hm => by
      obtain ⟨e, he, hx⟩ := List.mem_map.mp hm
      have z := List.findIdx?_eq_none_iff.mp hf e he
      rw [(is_tx S.els he x).mpr hx] at z
      cases z
    have hp := layNew_perm t es ((PySem.strKind prog w).hash x) (Value.str x tk)
    have hfi := layNew_fits t es ((PySem.strKind prog w).hash x) (Value.str x tk)
    have hl := lay_led t es ((PySem.strKind prog w).hash x) (Value.str x tk)
    have hpl := lay_plain t es ((PySem.strKind prog w).hash x) (Value.str x tk)
    generalize layNew t es ((PySem.strKind prog w).hash x) (Value.str x tk) = L at hp hfi hl hpl ⊢
    obtain ⟨e1, t1, wd, gv⟩ := L
    dsimp only at hp hfi hl hpl ⊢
    rw [Array.toList_push] at hp
    have h1 : ElemsOf (PySem.strKind prog w) e1.toList := (S.els.push hk hsc).perm hp
    have hz : e1.size = es.size + 1 := by rw [← Array.length_toList, hp.length_eq, List.length_append, Array.length_toList]; rfl
    have hm : List.Perm (e1.toList.map txOf) (es.toList.map txOf ++ [x]) := by
      have q := hp.map txOf
      rw [List.map_append] at q
      exact q
    have h6 : (e1.toList.map txOf).Nodup := hm.nodup_iff.mpr (by
      rw [List.nodup_append]
      refine ⟨S.nod, by simp, fun y hy z hz => ?_⟩
      rw [List.mem_singleton] at hz
      subst hz
      exact fun e => hn (e ▸ hy))
    have hg : ∀ (b : Bool) (s₁ : Shared) (Q' : Unit → Shared → Prop), Q' () s₁ → wpAny (model prog w) A (match b with | true => rule "set.scan.the-table-gave-way" | false => pure ()) Q' E s₁ :=
      fun b s₁ Q' hq => by cases b <;> first | exact wpAny_pure hq | exact wpAny_rule hq
    have hend : ∀ h' e2 ep' t', Heap.SameBut a s.heap h' → TxSet prog w h' a e2 ep' t' → List.Perm e2.toList e1.toList → Q true { s with heap := h' } := fun h' e2 ep' t' b S' p =>
      h true h' e2 ep' t' b S' (fun y => by rw [((p.map txOf).trans hm).mem_iff, List.mem_append, List.mem_singleton]) (by rw [← Array.length_toList, p.length_eq, Array.length_toList, hz]; exact Nat.le_refl _)
    refine wpAny_bind (hg gv _ _ ?_)
    split
    · refine wpAny_bind ?_
      rw [hashByValue_scannable 8 hsc]
      refine wpAny_pure ?_
      simp only [plainKind, Bool.false_eq_true, ↓reduceIte]
      refine add_tail ?_ S.get h1 (SetTable.fits_plain_off hfi) (by rw [hz]; exact hr) rfl (hl.trans S.led) h6 ?_
      · intro b s₁ Q' hq; cases b <;> first | exact wpAny_pure hq | exact wpAny_rule hq
      · intro h' e2 ep' t' b S' p; exact wpAny_pure (hend h' e2 ep' t' b S' p)
    · rename_i hpn
      refine wpAny_bind (wpAny_pure ?_)
      simp only [↓reduceIte]
      refine add_tail ?_ S.get h1 hfi (by rw [hz]; exact hr) (by simpa using hpn) (hl.trans S.led) h6 ?_
      · intro b s₁ Q' hq; cases b <;> first | exact wpAny_pure hq | exact wpAny_rule hq
      · intro h' e2 ep' t' b S' p; exact wpAny_pure (hend h' e2 ep' t' b S' p)
end
section
variable {prog : Program} {w : World} {A : Around} {R : Result → Shared → Prop} {I : Addr} {fp wr : List Addr} {G : Array GenState → Array GenState → Prop} {n : Nat} {P : Nat → Value → Prop} {St : Nat → Shared → Prop}
theorem upd_loop (W : WalksS prog w A.in1 I fp wr G n P St) (a : Addr) (haf : a ∉ fp) (xs : List Str) (hxs : xs.length = n) (hv : ∀ i v, P i v → ∃ x t, xs[i]? = some x ∧ v = .str x t) (hb : n + 1 < scanBound) :
    ∀ (k i : Nat) (s : Shared) (es : Array (Int × Value)) (ep : Nat) (t : SetTable), n - i = k → i ≤ n → St i s → TxSet prog w s.heap a es ep t → (∀ y, y ∈ es.toList.map txOf ↔ y ∈ xs.take i) → es.size ≤ i →
      (∀ s' es' ep' t', Moved (a :: wr) G s s' → TxSet prog w s'.heap a es' ep' t' → (∀ y, y ∈ es'.toList.map txOf ↔ y ∈ xs) → R (.ok (.ret .none)) s') →
      codeAny (model prog w) A (.builtin "set.update.loop" ⟨[.ref a, .ref I], []⟩) R s := by
  have haw : a ∉ wr := fun h => haf (W.sub _ h)
  have sub1 : ∀ b ∈ wr, b ∈ a :: wr := fun b hb => List.mem_cons_of_mem _ hb
  intro k
  induction k with
  | zero =>
    intro i s es ep t hk hi hst S hm hz hR
    have e : i = n := by omega
    subst e
    refine codeAny_builtin PyProof.Rows.F.entry_set_update_loop ?_
    rw [Around.under_plainId PyProof.Rows.F.plain_set_update_loop _]
    show wpAny _ A.in1 (pyNext (.ref I) >>= _) _ _ s
    refine wpAny_bind (W.done s _ _ hst fun s' mv => ?_)
    refine wpAny_pure (hR s' es ep t (mv.mono sub1) { S with get := mv.heap a _ haw S.get } fun y => ?_)
    rw [hm y, List.take_of_length_le (by rw [hxs]; exact Nat.le_refl _)]
  | succ k ih =>
    intro i s es ep t hk hi hst S hm hz hR
    have hlt : i < n := by omega
    refine codeAny_builtin PyProof.Rows.F.entry_set_update_loop ?_
    rw [Around.under_plainId PyProof.Rows.F.plain_set_update_loop _]
    show wpAny _ A.in1 (pyNext (.ref I) >>= _) _ _ s
    refine wpAny_bind (W.item i s _ _ hlt hst fun v s' hP hst' mv => ?_)
    obtain ⟨x, tk, hx, rfl⟩ := hv i v hP
    have S' : TxSet prog w s'.heap a es ep t := { S with get := mv.heap a _ haw S.get }
    show wpAny _ A.in1 (holding [Value.str x tk] (setAdd a (.str x tk)) >>= _) _ _ s'
    refine wpAny_bind (wpAny_holding ?_)
    unfold setAdd
    refine wpAny_holding ?_
    refine wpAny_bind ((PySem.strKind prog w).pyHash (k := x) (by show Value.isStrOf x (Value.str x tk) = true; simp [Value.isStrOf]) ?_)
    refine add_text (s := { s' with toks := s'.toks + 1 }) S' (by omega) fun b h' es' ep' t' sb S2 hm2 hz2 => ?_
    refine wpAny_pure ⟨plainId_quiet PyProof.Rows.F.plain_set_update_loop _, ih (i + 1) _ es' ep' t' (by omega) hlt (W.frame _ s' _ _ hst' (Nat.le_succ _) fun b hb o e => ?_) S2 (fun y => ?_) (by omega) fun s'' e3 ep3 t3 mv3 S3 hm3 => ?_⟩
    · rw [sb.2 b (fun h : b = a => haf (by rw [← h]; exact hb))]; exact e
    · rw [hm2 y, hm y, List.take_add_one, hx, List.mem_append]
      simp
    · refine hR s'' e3 ep3 t3 (Moved.trans W.gtrans ((mv.mono sub1).then_heap (Nat.le_succ _) fun b o hb e => ?_) mv3) S3 hm3
      rw [sb.2 b (fun h : b = a => hb (by rw [h]; exact List.mem_cons_self))]; exact e
end
section
variable {prog : Program} {w : World} {A : Around} {E : Value → Shared → Prop} {s : Shared}
abbrev freshSet (w : World) : Obj := { cls := .type "set", dict := none, data := .set #[] 0 (.fresh 0 0 (!byTx w)) }
theorem new_set (a : Value) {Q₁ : Value → Shared → Prop} (h : Q₁ (.ref s.heap.objs.size) { s with heap := s.heap.push (freshSet w) }) :
    codeAny (model prog w) A (.call (.builtin "set.__new__") ⟨[.type "set", a], []⟩) (wants Q₁ E) s := by
  refine codeAny_of_tree ?_
  show wpAny _ A.in1 (do checkBuiltinCall "set.__new__" ⟨[.type "set", a], []⟩; again (.builtin "set.__new__" ⟨[.type "set", a], []⟩)) _ _ s
  refine wpAny_bind (wpAny_of_eq (F.newCall_set_1 a) (wpAny_pure ⟨plainId_quiet F.plain_set_new _, codeAny_builtin F.entry_set_new ?_⟩))
  rw [Around.under_plainId F.plain_set_new _]
  unfold Builtin.«set.__new__» Builtin.Frozenset.newClass
  have hsub := sub_set_self
  obtain ⟨hp, g, d, tk, os⟩ := s
  dsimp only
  wp_walk
  refine wpAny_askSetting (wpAny_pure ?_)
  dsimp only
  simp only [newObj]
  refine wpAny_bind (wpAny_alloc (wpAny_pure ?_))
  exact wpAny_pure h
end
section
variable {prog : Program} {w : World} {A : Around} {E : Value → Shared → Prop} {s : Shared}
theorem txs_at {vs : List Value} {xs : List Str} (h : StrsAre vs xs) : ∀ (i : Nat) (v : Value), vs[i]? = some v → ∃ x t, xs[i]? = some x ∧ v = .str x t := by
  induction h with
  | nil => intro i v e; simp at e
  | cons x t h ih =>
    intro i v e
    cases i with
    | zero => simp at e; exact ⟨x, t, rfl, e.symm⟩
    | succ i => simp only [List.getElem?_cons_succ] at e ⊢; exact ih i v e
theorem txs_len {vs : List Value} {xs : List Str} (h : StrsAre vs xs) : xs.length = vs.length := by
  induction h with
  | nil => rfl
  | cons x t h ih => simp [ih]
theorem call_set_texts {l : Addr} {items : Array Value} {xs : List Str} {Q : Value → Shared → Prop} (hh : A.handled = none) (hl : s.heap.IsList l items) (hi : StrsAre items.toList xs) (hb : items.size + 1 < scanBound)
    (h : ∀ (h' : Heap) (tk : Nat) es ep t, TxSet prog w h' s.heap.objs.size es ep t → (∀ y, y ∈ es.toList.map txOf ↔ y ∈ xs) →
      (∀ b o, s.heap.get? b = some o → h'.get? b = some o) → Q (.ref s.heap.objs.size) { s with heap := h', toks := tk }) :
    wpAny (model prog w) A (call (.type "set") [.ref l]) Q E s := by
  obtain ⟨c, tl, hmro⟩ := F.called_set.mro
  have hmade := F.called_set.made
  have hsub := F.called_set.sub
  refine wpAny_call (codeAny_of_tree ?_)
  show wpAny _ _ (callAny (.type "set") _) _ _ _
  refine wpAny_pure ⟨Code.quiet_builtin _ (by decide +kernel), codeAny_builtin F.entry_type_call ?_⟩
  rw [Around.under_plain (weight_type_call_type "set" [.ref l] []) rfl]
  have h1 := F.called_set.notType
  have h2 := F.called_set.canCreate
  have hct := F.typeCall_set_1 (.ref l)
  repeat (any_goals (first | assumption | wp_step))
  refine codeAny_mono (new_set (.ref l) (E := E) (Q₁ := fun obj s₁ => obj = .ref s.heap.objs.size ∧ s₁ = { s with heap := s.heap.push (freshSet w) }) ⟨rfl, rfl⟩) fun r s₁ hr => ?_
  cases r with
  | error e => exact hr
  | ok fl =>
    cases fl with
    | ret obj =>
      obtain ⟨rfl, rfl⟩ := hr
      have hS : (s.heap.push (freshSet w)).get? s.heap.objs.size = some (freshSet w) := Heap.get?_push_size _ rfl
      have hT : Shared.TypeIs { s with heap := s.heap.push (freshSet w) } (.ref s.heap.objs.size) "set" := ⟨_, hS, rfl⟩
      have hli := F.called_set.init.lookup
      have hbi := F.called_set.init.bind (.ref s.heap.objs.size)
      repeat (any_goals (first | assumption | wp_step))
      refine codeAny_mono (codeAny_call_builtin (R := wants (fun r s₂ => r = .none ∧ ∃ h' tk, s₂ = { s with heap := h', toks := tk } ∧ ∃ es ep t, TxSet prog w h' s.heap.objs.size es ep t ∧ (∀ y, y ∈ es.toList.map txOf ↔ y ∈ xs) ∧
          (∀ b o, s.heap.get? b = some o → h'.get? b = some o)) E) F.called_set.init.plain F.entry_set_init (check_set_init_1 hT ?_)) fun r₂ s₂ hr₂ => ?_
      · obtain ⟨ol, hol, hcl, nl, hdl⟩ := hl
        obtain ⟨ocls, odict, odata, oslots⟩ := ol
        simp only at hcl hdl
        subst hcl; subst hdl
        have hol' : (s.heap.push (freshSet w)).get? l = some { cls := .type "list", dict := odict, data := .seq items nl, slots := oslots } := Heap.get?_push_of_some _ hol
        have hsls := F.sub_list_set
        have hslf := F.sub_list_frozenset
        have hne : (Value.type "list" == Value.type "dict") = false := by decide
        have hl1 : (s.heap.push (freshSet w)).IsList l items := ⟨_, hol', rfl, nl, rfl⟩
        unfold Builtin.«set.__init__» noKeywords Builtin.Frozenset.updateFrom
        generalize hPI : pyIter = PI
        wp_walk
        subst hPI
        refine wpAny_pyIter_list hl1 ?_
        refine wpAny_bind (wpAny_runValue ?_)
        have hlS : l < s.heap.objs.size := Heap.lt_size hol
        have hh3 : A.in1.in1.in1.handled = none := by simp [hh]
        have hz : (s.heap.push (freshSet w)).objs.size = s.heap.objs.size + 1 := size_push' _ _
        have hneI : l ≠ (s.heap.push (freshSet w)).objs.size := by rw [hz]; exact Nat.ne_of_lt (Nat.lt_succ_of_lt hlS)
        have hSf : s.heap.objs.size ∉ [(s.heap.push (freshSet w)).objs.size, l] := by
          rw [hz]; simp only [List.mem_cons, List.mem_singleton, List.not_mem_nil, or_false, not_or]
          exact ⟨Nat.ne_of_lt (Nat.lt_succ_self _), Nat.ne_of_gt hlS⟩
        have hget : ((s.heap.push (freshSet w)).push { cls := .type "list_iterator", data := .fields #[.ref l, .int 0 0] }).get? s.heap.objs.size = some (freshSet w) := Heap.get?_push_of_some _ hS
        refine upd_loop ((Walks.list hh3 _ l hneI items).toS) s.heap.objs.size hSf xs (by rw [txs_len hi]; simp) (fun i v hv => txs_at hi i v (by rw [Array.getElem?_toList]; exact hv)) hb (items.size - 0) 0 _ #[] 0 (.fresh 0 0 (!byTx w)) (by omega) (Nat.zero_le _)
          ⟨⟨_, Heap.get?_push_size _ rfl, rfl, rfl⟩, (hl1.push _)⟩ ⟨hget, fun e he => by simp at he, by rfl, by decide, fun z => absurd rfl z, rfl, by simp⟩ (fun y => by simp) (by simp) ?hR
        intro s' es' ep' t' hm S' hm'
        obtain ⟨h', g', d', tk', os'⟩ := s'
        have eg : g' = s.gens := hm.gens
        have ed : d' = s.drawn := hm.drawn
        have eo : os' = s.os := hm.os
        subst eg; subst ed; subst eo
        show wpAny _ _ _ _ _ _
        refine wpAny_pure ?_
        show wpAny _ _ (ret Value.none) _ _ _
        refine wpAny_pure ⟨rfl, h', tk', rfl, es', ep', t', S', hm', fun b o e => ?_⟩
        have hb0 := Heap.lt_size e
        exact hm.heap b o (by simp only [List.mem_cons, List.mem_singleton, List.not_mem_nil, or_false, not_or]; exact ⟨Nat.ne_of_lt hb0, by rw [hz]; exact Nat.ne_of_lt (Nat.lt_succ_of_lt hb0)⟩) (Heap.get?_push_of_some _ (Heap.get?_push_of_some _ e))
      · cases r₂ with
        | error e => exact hr₂
        | ok fl₂ =>
          cases fl₂ with
          | ret r =>
            obtain ⟨rfl, h', tk, rfl, es', ep', t', S', hm', hk'⟩ := hr₂
            repeat (any_goals (first | assumption | wp_step))
            exact h _ _ _ _ _ S' hm' hk'
          | _ => exact hr₂.elim
    | _ => exact hr.elim
end
end L2
set_option Elab.async false
set_option linter.all false
set_option maxRecDepth 100000
set_option maxHeartbeats 4000000
namespace L2
open PySem PySem.Spec PyProof.Rows
abbrev itO (f : Value) (i : Nat) (a : Addr) (n ep : Nat) : Obj := { cls := .type "set_iterator", dict := none, data := .fields #[f, .int i 0, .ref a, .int n 0, .int ep 0], slots := #[] }
section
variable {prog : Program} {w : World} {A : Around} {E : Value → Shared → Prop} {s : Shared}
end
section
variable {prog : Program} {w : World} {A : Around} {E : Value → Shared → Prop} {s : Shared}
abbrev PW2 (ys : List (Int × Value)) : Nat → Value → Prop := fun i v => ∃ e, ys[i]? = some e ∧ v = e.2
end
end L2
set_option Elab.async false
set_option linter.all false
set_option maxRecDepth 100000
set_option maxHeartbeats 4000000
namespace L2
open PySem PySem.Spec PyProof.Rows
section
variable {prog : Program} {w : World} {A : Around} {E : Value → Shared → Prop} {s : Shared}
end
end L2
set_option Elab.async false
set_option linter.all false
set_option maxRecDepth 100000
set_option maxHeartbeats 4000000
namespace L2
open PySem PySem.Spec PyProof.Rows
section
variable {prog : Program} {w : World} {A : Around} {E : Value → Shared → Prop} {s : Shared}
end
end L2
set_option Elab.async false
set_option linter.all false
set_option maxRecDepth 100000
set_option maxHeartbeats 4000000
namespace L2
open PySem PySem.Spec PyProof.Rows
section
variable {prog : Program} {w : World} {A : Around} {E : Value → Shared → Prop} {s : Shared}
end
section
variable {X : Cx} {pins : List (Addr × Obj)} {s : Shared} {σ : St} {H : Hp}
theorem strs_vals {vs : List Value} : ∀ {xs : List Str}, Vals (xs.map V.str) vs → StrsAre vs xs := by
  intro xs h
  induction xs generalizing vs with
  | nil => cases h; exact .nil
  | cons x r ih =>
    cases h with
    | cons a b =>
      obtain ⟨t, rfl⟩ := a
      exact .cons x t (ih b)
def setO (P : Program) (w : World) (a : Addr) (xs : List Str) : HO := .ext fun h => ∃ es ep t, TxSet P w h a es ep t ∧ ∀ y, y ∈ es.toList.map txOf ↔ y ∈ xs
theorem setO_ok {P : Program} {w : World} {H : Hp} {h : Heap} {a : Addr} {xs : List Str} {es : Array (Int × Value)} {ep : Nat} {t : SetTable} (S : TxSet P w h a es ep t) (m : ∀ y, y ∈ es.toList.map txOf ↔ y ∈ xs) : ObjOk P w H h a (setO P w a xs) :=
  ⟨⟨es, ep, t, S, m⟩, ⟨_, S.get⟩, fun h1 h2 ⟨es, ep, t, S, m⟩ k => ⟨es, ep, t, { S with get := k _ S.get }, m⟩⟩
theorem call_setT (hc : X.calm = true) : CallR X (.type "set") (fun xs H Q => ∃ (p : Addr) (ts : List Str), xs = [.ref p] ∧ SqL X.K H p (ts.map V.str) ∧ ts.length + 1 < scanBound ∧ ∀ q, H q = none → Q (.ref q) (upd H q (setO X.prog X.w q ts))) := by
  intro pins s σ H xs us Q I r h
  obtain ⟨p, ts, rfl, hq, hb, q⟩ := h
  obtain ⟨u, rfl, ru⟩ := vals1 r
  cases ru
  obtain ⟨its, rv, pl, hz⟩ := I.list hq
  have hS := strs_vals rv
  have hl := txs_len hS
  refine call_set_texts (I.ok.hd hc) pl.isList (xs := ts) (by simpa using hS) (by rw [List.size_toArray, ← hl]; exact hb) fun h' tk es ep t S m k => ?_
  have hf := I.hok.fresh (Nat.le_refl s.heap.objs.size)
  exact ⟨.ref s.heap.objs.size, _, I.laid k (Nat.le_refl _) (setO_ok S m), rfl, q _ hf⟩
end
end L2
set_option Elab.async false
set_option linter.all false
set_option maxRecDepth 100000
set_option maxHeartbeats 4000000
namespace L2
open PySem PySem.Spec PyProof.Rows
def Itv (K : PySem.W.Frag) (a : Addr) (n : Nat) : It :=
  ⟨fun i H => i < n ∧ ∃ xs x, SqL K H a xs ∧ xs[n - 1 - i]? = some x, fun i H x H' => H' = H ∧ ∀ xs, SqL K H a xs → xs[n - 1 - i]? = some x, fun i H => i = n⟩
theorem turn_rev {P : Program} {w : World} {K : PySem.W.Frag} {tg : Expr} (a it : Addr) (n : Nat) : Turn P w K tg (Itv K a n) [it] it (fun i h => i ≤ n ∧ h.IsRevIter it a ((n : Int) - 1 - (i : Int))) where
  mem := by simp
  obj := fun i h st b hb => by
    have e : b = it := by simpa using hb
    subst e
    obtain ⟨_, o, e, c, d⟩ := st
    exact ⟨o, e, fun v z => by rw [d] at z; cases z⟩
  keep := fun i h h' st k => ⟨st.1, st.2.at fun o e => k it (by simp) o e⟩
  item := by
    intro X hP hw hK hc i pins s σ H E I hf st hg
    subst hP hw hK
    obtain ⟨hi, xs, x, hq, hx⟩ := hg
    obtain ⟨its, rv, p, hz⟩ := I.list hq
    obtain ⟨u, hu, ru⟩ := rv.get hx
    obtain ⟨f0, f1, f2, f3, f4, f5⟩ := hf it (by simp)
    have e1 : (n : Int) - 1 - (i : Int) = ((n - 1 - i : Nat) : Int) := by omega
    have hit := st.2
    rw [e1] at hit
    refine wpAny_pyNext_rev_item hit p.isList (x := u) (by simpa using hu) fun h' st' sb => ?_
    have I1 : Inv X pins σ H { s with heap := h' } := I.turned (t' := s.toks) (fun b o hb e => (sb.2 b hb).trans e) f0 f1 f3 f4 f5
    have e2 : ((n - 1 - i : Nat) : Int) - 1 = (n : Int) - 1 - ((i + 1 : Nat) : Int) := by omega
    rw [e2] at st'
    obtain ⟨o, e, c, d⟩ := id st'
    exact ⟨u, rfl, go_of (s := { s with heap := h' }) e c d (by decide) ⟨x, H, I1, ru, ⟨rfl, fun ys hy => by rw [I.list_inj hy hq]; exact hx⟩, ⟨hi, st'⟩, fun b hb => (hf b hb).1⟩⟩
  done := by
    intro X hP hw hK hc i pins s σ H E I hf st hg
    subst hP hw hK
    have e : i = n := hg
    subst e
    obtain ⟨f0, f1, f2, f3, f4, f5⟩ := hf it (by simp)
    have hit := st.2
    rw [show (i : Int) - 1 - (i : Int) = -1 by omega] at hit
    exact wpAny_pyNext_rev_end (I.ok.hd hc) hit fun h' eb => ⟨rfl, I.turned (t' := s.toks) (fun b o hb e => eb b o hb e) f0 f1 f3 f4 f5⟩
  self := fun _ _ _ _ _ st h => wpAny_pyIter_revIter st.2 h
section
variable {X : Cx} {tg : Expr}
def iRev (K : PySem.W.Frag) (ta : TA) : TI := fun σ H R => ta σ H fun vs H1 => ∃ a xs, vs = [.ref a] ∧ SqL K H1 a xs ∧ R (Itv K a xs.length) H1
theorem pi_rev {a : Expr} {ta : TA} {p pos : Pos} (hg : Gl X "reversed") (hm : X.mg "reversed" = none) (ha : PA X [a] ta) (hs : starEach [a] X.env = [(false, eval a X.env)] := by rfl) (hb : bootBuiltins "reversed" = some (.type "reversed") := by decide +kernel) :
    PI X tg (.Call (.Name "reversed" p) [a] [] pos) (iRev X.K ta) := by
  intro pins s σ H R I h
  refine Call_ (ld_blt I hg hm hb (PyProof.Rows.callWith_type1 (thn (ha pos pins s σ H _ I h) fun us s1 ⟨vs, H1, I1, r1, q1⟩ => ?_) hs rfl))
  obtain ⟨l, xs, e, hq, q⟩ := q1
  subst e
  obtain ⟨u, rfl, ru⟩ := vals1 r1
  cases ru
  obtain ⟨its, rv, pl, hz⟩ := I1.list hq
  have hl : its.length = xs.length := by have := rv.length; omega
  refine call_reversed_list pl.isList ?_
  have hit : (s1.heap.push (revObj l ((its.toArray.size : Int) - 1))).IsRevIter s1.heap.objs.size l ((xs.length : Int) - 1 - ((0 : Nat) : Int)) := by
    refine ⟨_, Heap.get?_push_size _ rfl, rfl, ?_⟩
    rw [List.size_toArray, hl]; simp [revObj]
  refine wpAny_pyIter_revIter (s := { s1 with heap := s1.heap.push (revObj l ((its.toArray.size : Int) - 1)) }) hit ?_
  refine ⟨s1.heap.objs.size, [s1.heap.objs.size], _, _, H1, rfl, I1.kept (t' := s1.toks) fun b o e => Heap.get?_push_of_some _ e, turn_rev l _ xs.length, ⟨Nat.zero_le _, hit⟩, fun b hb => ?_, q⟩
  have e : b = s1.heap.objs.size := by simpa using hb
  subst e
  exact I1.fpOk (Nat.le_refl _) (I1.hok.fresh (Nat.le_refl _))
end
end L2
set_option Elab.async false
set_option linter.all false
set_option maxRecDepth 100000
set_option maxHeartbeats 4000000
namespace L2
open PySem PySem.Spec PyProof.Rows
section
variable {X : Cx}
theorem strs_of : ∀ {zs : List Str} {us : List Value}, Vals (zs.map V.str) us → StrsAre us zs
  | [], us, h => by rw [h.zero]; exact .nil
  | z :: zs, us, h => by
    cases h with
    | cons a b => obtain ⟨t, rfl⟩ := a; exact .cons z t (strs_of b)
def rJoin (K : PySem.W.Frag) : V → List V → Hp → VK → Prop := fun x vs H Q => ∃ z p zs, x = .str z ∧ vs = [.ref p] ∧ SqL K H p (zs.map V.str) ∧ z.length ≤ 16 ∧ (zs.map (·.length)).sum + zs.length ≤ 1048576 ∧ Q (.str (Txt.join z zs)) H
theorem mt_join : MtR X "str.join" (rJoin X.K) := by
  intro pins s σ H x vs v us Q I rx rv h
  obtain ⟨z, p, zs, rfl, rfl, hq, h1, h2, q⟩ := h
  obtain ⟨t, rfl⟩ := rx
  obtain ⟨u, rfl, ru⟩ := vals1 rv
  cases ru
  obtain ⟨its, rI, pl, hz⟩ := I.list hq
  exact join_listW pl.isList (strs_of rI) h1 h2 fun t' k => ⟨.str _, H, I.tok _, ⟨_, rfl⟩, q⟩
end
end L2
set_option Elab.async false
set_option linter.all false
set_option maxRecDepth 100000
set_option maxHeartbeats 4000000
namespace L2
open PySem PySem.Spec PyProof.Rows
theorem rv_len : typeLookup (.type "list_reverseiterator") "__len__" = pure none := by
  rw [typeLookup_type]; rw [builtinLookup_eq_fast]; kernel_rfl
theorem rv_hint : typeLookup (.type "list_reverseiterator") "__length_hint__" = pure (some (.builtin "list_reverseiterator.__length_hint__")) := by
  rw [typeLookup_type]; rw [builtinLookup_eq_fast]; kernel_rfl
section
variable {prog : Program} {w : World} {A : Around} {E : Value → Shared → Prop} {s : Shared} {it l : Addr} {i : Int}
theorem hint_rev {Q : Bool → Shared → Prop} (hit : s.heap.IsRevIter it l i) (h : Q false s) : wpAny (model prog w) A (Builtin.List.listLengthHint (.ref it)) Q E s := by
  have hT := hit.typeIs
  unfold Builtin.List.listLengthHint
  refine wpAny_bind (wpAny_specialOf hT rv_len ?_)
  show wpAny _ A (specialOf (Value.ref it) (Str.ofString "__length_hint__") >>= _) _ _ _
  refine wpAny_bind (wpAny_specialOf hT rv_hint ?_)
  generalize hid : ("list_reverseiterator.__length_hint__" : String) = id0
  wp_delta
  rw [show splitId id0 = some ("list_reverseiterator", "__length_hint__") from by subst hid; decide +kernel]
  subst hid
  refine wpAny_bind (wpAny_isInstance (T := "list_reverseiterator") (b := true) hT (by rw [isSubtype_type]; kernel_rfl) ?_)
  refine wpAny_ite_split (fun z => absurd z (by decide)) (fun _ => ?_)
  refine wpAny_ite_split (fun _ => ?_) (fun z => absurd (by decide +kernel) z)
  refine wpAny_ite_split (fun z => absurd z (by decide +kernel)) (fun _ => ?_)
  exact wpAny_pure h
theorem init_rev {R : Result → Shared → Prop} {items : Array Value} (hh : A.handled = none) (n : Nat) (hn : items.size = n) (hsz : n ≤ sizeLine) (S : Addr) (hSi : S ≠ it) (hSl : S ≠ l) (hil : l ≠ it)
    (hit : s.heap.IsRevIter it l ((n : Int) - 1)) (hl : s.heap.IsList l items) (hS : s.heap.get? S = some { cls := .type "list", data := .seq #[] })
    (hR : ∀ s' acc' c', Moved [S, it] (fun a b => b = a) s s' → s'.heap.get? S = some { cls := .type "list", dict := none, data := .seq acc' c', slots := #[] } → ItemsOf (fun i v => items[items.size - 1 - i]? = some v) acc' n → R (.ok (.ret .none)) s') :
    wpAny (model prog w) A.in1 (Builtin.«list.__init__» ⟨[.ref S, .ref it], []⟩)
      (fun fin s2 => match fin with | .done f => R (.ok f) s2 | .again c2 => c2.quiet = true ∧ codeAny (model prog w) A c2 R s2) (fun e s2 => R (.error e) s2) s := by
  have W := (Walks.listRev (prog := prog) (w := w) (A := A.in1) hh it l hil items).toS
  rw [hn] at W
  have hSf : S ∉ [it, l] := by simp [hSi, hSl]
  show wpAny _ A.in1 (Builtin.List.listItems (.ref S) >>= fun old => Builtin.List.listUpdate (.ref S) (fun _ => #[]) >>= fun _ => letGo old.toList.reverse >>= fun _ => Builtin.List.listExtendWith (.ref S) (.ref it) .none) _ _ s
  unfold Builtin.List.listItems
  refine wpAny_bind ?_
  refine wpAny_bind (wpAny_seqItems hS rfl (wpAny_pure ?_))
  show wpAny _ A.in1 (updateSeq S (fun _ => #[]) >>= fun _ => letGo (#[] : Array Value).toList.reverse >>= fun _ => Builtin.List.listExtendWith (.ref S) (.ref it) .none) _ _ s
  refine wpAny_bind (wpAny_updateSeq hS rfl ?_)
  have hS2 := Heap.get?_update_self (Obj.mapSeq (fun _ => (#[] : Array Value))) hS rfl
  have oth : ∀ b o, b ≠ S → s.heap.get? b = some o → (s.heap.update S (Obj.mapSeq (fun _ => (#[] : Array Value)))).get? b = some o := fun b o hb e =>
    (Heap.get?_update_other _ _ (Ne.symm hb)).trans e
  refine wpAny_bind (wpAny_letGo ?_)
  unfold Builtin.List.listExtendWith
  have hit2 : (s.heap.update S (Obj.mapSeq (fun _ => (#[] : Array Value)))).IsRevIter it l ((n : Int) - 1) := hit.at fun o e => oth it o hSi.symm e
  have hl2 : (s.heap.update S (Obj.mapSeq (fun _ => (#[] : Array Value)))).IsList l items := hl.at fun o e => oth l o hSl.symm e
  refine wpAny_bind (wpAny_typeOf (T := "list_reverseiterator") (Heap.IsRevIter.typeIs (s := { s with heap := _ }) hit2) ?_)
  have h1 : Builtin.List.listSameRef (.ref S) (.ref it) = false := by simp [Builtin.List.listSameRef, hSi]
  have h2 : (Value.type "list_reverseiterator" == Value.type "list") = false := by decide
  have h3 : (Value.type "list_reverseiterator" == Value.type "tuple") = false := by decide
  simp only [h1, h2, h3, Bool.or_false, Bool.false_eq_true, if_false]
  refine wpAny_bind (wpAny_pyIter_revIter hit2 ?_)
  refine wpAny_bind (wpAny_holding (hint_rev hit2 ?_))
  have st : (fun i (h : Heap) => i ≤ n ∧ h.IsRevIter it l ((n : Int) - 1 - (i : Int)) ∧ h.IsList l items) 0 (s.heap.update S (Obj.mapSeq (fun _ => (#[] : Array Value)))) := ⟨Nat.zero_le _, by simpa using hit2, hl2⟩
  refine wpAny_ite_split (fun z => absurd z (by decide +kernel)) (fun _ => ?_)
  refine wpAny_pure ⟨plainId_quiet PySem.F.plain_extend_loop _, ?_⟩
  refine codeAny_extend_loopS W hsz S hSf .none n 0 _ #[] _ rfl (Nat.zero_le _) st hS2 (ItemsOf.nil _) fun s3 acc3 c3 hm hS3 hacc => ?_
  refine hR s3 acc3 c3 ⟨fun b o hb e => ?_, hm.gens, hm.drawn, hm.os, hm.toks⟩ hS3 (by rw [hn]; exact hacc)
  exact hm.heap b o hb (oth b o (fun z => hb (by rw [z]; simp)) e)
theorem call_listrev {Q : Value → Shared → Prop} {items : Array Value} (hh : A.handled = none) (hsz : items.size ≤ sizeLine) (hil : l ≠ it) (hit : s.heap.IsRevIter it l ((items.size : Int) - 1)) (hl : s.heap.IsList l items)
    (hQ : ∀ h2 t2 acc2 c2, (∀ b o, b ≠ it → s.heap.get? b = some o → h2.get? b = some o) → h2.get? s.heap.objs.size = some { cls := .type "list", dict := none, data := .seq acc2 c2, slots := #[] } → ItemsOf (fun i v => items[items.size - 1 - i]? = some v) acc2 items.size → Q (.ref s.heap.objs.size) { s with heap := h2, toks := t2 }) :
    wpAny (model prog w) A (call (.type "list") [.ref it]) Q E s := by
  refine callType_codes (Q₁ := fun ob s1 => ob = .ref s.heap.objs.size ∧ s1 = { s with heap := s.heap.push { cls := .type "list", data := .seq #[] } }) PySem.F.called_list (PySem.F.typeCall_list_1 _) PySem.F.entry_list_init (code_list_new _ ⟨rfl, rfl⟩) fun ob s1 h1 => ?_
  obtain ⟨rfl, rfl⟩ := h1
  have hS : (s.heap.push { cls := .type "list", data := .seq #[] }).get? s.heap.objs.size = some { cls := .type "list", data := .seq #[] } := Heap.get?_push_size _ rfl
  have ltI : it < s.heap.objs.size := by obtain ⟨_, e, _⟩ := hit; exact Heap.lt_size e
  have ltL : l < s.heap.objs.size := by obtain ⟨_, e, _⟩ := hl; exact Heap.lt_size e
  refine ⟨⟨_, hS, rfl⟩, PySem.F.args_list_init_2 _ _, init_rev (A := A.in1) hh items.size rfl hsz _ (Nat.ne_of_gt ltI) (Nat.ne_of_gt ltL) hil (hit.at fun o e => Heap.get?_push_of_some _ e) (hl.at fun o e => Heap.get?_push_of_some _ e) hS fun s3 acc3 c3 hm hS3 hacc => ⟨rfl, ?_⟩⟩
  rw [Moved.eq_with hm]
  exact hQ s3.heap s3.toks acc3 c3 (fun b o hb e => hm.heap b o (by simp only [List.mem_cons, List.not_mem_nil, or_false, not_or]; exact ⟨Nat.ne_of_lt (Heap.lt_size e), hb⟩) (Heap.get?_push_of_some _ e)) hS3 hacc
end
section
variable {X : Cx}
theorem vals_rev : ∀ {xs : List V} {us : List Value}, Vals xs us → Vals xs.reverse us.reverse
  | _, _, .nil => .nil
  | _, _, .cons r t => by rw [List.reverse_cons, List.reverse_cons]; exact (vals_rev t).append (.cons r .nil)
theorem items_rev {its : List Value} {acc : Array Value} (h : ItemsOf (fun i v => its.toArray[its.toArray.size - 1 - i]? = some v) acc its.toArray.size) : acc.toList = its.reverse := by
  obtain ⟨h1, h2⟩ := h
  have hl : its.toArray.size = its.length := by simp
  refine List.ext_getElem? fun j => ?_
  by_cases c : j < acc.size
  · have e : acc[j]? = some acc[j] := by simp [c]
    have h3 := h2 j _ e
    rw [Array.getElem?_toList, e, ← h3, hl]
    rw [List.getElem?_reverse (by omega)]
    simp
  · rw [List.getElem?_eq_none (by simp; omega), List.getElem?_eq_none (by simp; omega)]
def tLRev (K : PySem.W.Frag) (ta : TE) : TE := fun σ H Q => ta σ H fun x H1 => ∃ a xs, x = .ref a ∧ SqL K H1 a xs ∧ ∀ p, H1 p = none → Q (.ref p) (upd H1 p (.lst xs.reverse))
theorem pe_listrev {a : Expr} {ta : TE} {p pos p2 pos2 : Pos} (hc : X.calm = true) (hg : Gl X "list") (hm : X.mg "list" = none) (hg2 : Gl X "reversed") (hm2 : X.mg "reversed" = none) (ha : PE X a ta) (hs : starEach [a] X.env = [(false, eval a X.env)] := by rfl)
    (hs2 : starEach [.Call (.Name "reversed" p2) [a] [] pos2] X.env = [(false, eval (.Call (.Name "reversed" p2) [a] [] pos2) X.env)] := by rfl) (hb : bootBuiltins "reversed" = some (.type "reversed") := by decide +kernel) (hb2 : bootBuiltins "list" = some (.type "list") := by decide +kernel) :
    PE X (.Call (.Name "list" p) [.Call (.Name "reversed" p2) [a] [] pos2] [] pos) (tLRev X.K ta) := by
  intro pins s σ H Q I h
  refine Call_ (ld_blt I hg hm hb2 (PyProof.Rows.callWith_type1 ?_ hs2 rfl))
  rw [hs2]
  show wpAny _ _ (spliced ((false, eval (.Call (.Name "reversed" p2) [a] [] pos2) X.env) :: backTo pos [])) _ _ s
  refine Calls.spliced_cons (Call_ (ld_blt I hg2 hm2 hb (PyProof.Rows.callWith_type1 ?_ hs rfl)))
  have pa : PA X [a] (tCons ta tNil) := pa_cons ha pa_nil hs
  refine thn (pa pos2 pins s σ H (fun xs H1 => match xs with | [x] => ∃ a ys, x = .ref a ∧ SqL X.K H1 a ys ∧ ∀ p, H1 p = none → Q (.ref p) (upd H1 p (.lst ys.reverse)) | _ => False) I h) fun us s1 ⟨vs, H1, I1, r1, q1⟩ => ?_
  have one : ∃ x, vs = [x] := by
    match vs, q1 with
    | [x], _ => exact ⟨x, rfl⟩
    | [], q1 => exact q1.elim
    | _ :: _ :: _, q1 => exact q1.elim
  obtain ⟨x, rfl⟩ := one
  obtain ⟨l, ys, rfl, hq, q⟩ := q1
  obtain ⟨u, rfl, ru⟩ := vals1 r1
  cases ru
  obtain ⟨its, rv, pl, hz⟩ := I1.list hq
  have hlen := rv.length
  refine call_reversed_list pl.isList ?_
  have ltL : l < s1.heap.objs.size := by obtain ⟨_, e, _⟩ := pl.isList; exact Heap.lt_size e
  refine Calls.spliced_nil ?_
  have hit : (s1.heap.push (revObj l ((its.toArray.size : Int) - 1))).IsRevIter s1.heap.objs.size l ((its.toArray.size : Int) - 1) := ⟨_, Heap.get?_push_size _ rfl, rfl, rfl⟩
  have hl2 : (s1.heap.push (revObj l ((its.toArray.size : Int) - 1))).IsList l its.toArray := pl.isList.at fun o e => Heap.get?_push_of_some _ e
  refine call_listrev (s := { s1 with heap := s1.heap.push (revObj l ((its.toArray.size : Int) - 1)) }) (I.ok.hd hc) (by simp only [List.size_toArray]; omega) (Nat.ne_of_lt ltL) hit hl2 fun h2 t2 acc c2 kp hN hI => ?_
  have hp : s1.heap.objs.size ≤ (s1.heap.push (revObj l ((its.toArray.size : Int) - 1))).objs.size := by rw [Heap.size_push]; omega
  refine ⟨.ref _, _, I1.laid (h' := h2) (t' := t2) (fun b o e => kp b o (Nat.ne_of_lt (Heap.lt_size e)) (Heap.get?_push_of_some _ e)) hp (show ObjOk X.prog X.w _ h2 _ (.lst ys.reverse) from ⟨by rw [List.length_reverse]; exact hz, its.reverse, c2, vals_rev rv, ?_⟩), rfl, q _ (I1.hok.fresh hp)⟩
  rw [← items_rev hI]
  exact hN
end
end L2
set_option Elab.async false
set_option linter.all false
set_option maxRecDepth 100000
set_option maxHeartbeats 4000000
namespace L2
open PySem PySem.Spec PyProof.Rows
section
variable {X : Cx}
def PEp (X : Cx) (e : Expr) (t : TE) : Prop :=
  ∀ (pins : List (Addr × Obj)) (s : Shared) (σ : St) (H : Hp) (Q : VK), Inv X pins σ H s → t σ H Q → wpAny (model X.prog X.w) X.A (eval e X.env) (fun v s' => 1 ≤ s'.toks ∧ EP X pins σ Q v s') X.xe s
theorem PEp.pe {e : Expr} {t : TE} (h : PEp X e t) : PE X e t := fun pins s σ H Q I q => thn (h pins s σ H Q I q) fun _ _ z => z.2
theorem tok1 {α : Type} {t : Sem α} {Q : α → Shared → Prop} {M : Model} {A : Around} {E : Value → Shared → Prop} {s : Shared} (h1 : 1 ≤ s.toks) (h : wpAny M A t Q E s) : wpAny M A t (fun a s' => 1 ≤ s'.toks ∧ Q a s') E s :=
  wpAny_mono (wpAny_toks_of h1 h) (fun _ _ z => z) fun _ _ z => z.2
variable {o e : Expr} {es : List Expr} {to : TE} {t : TA} {apos cpos : Pos} {z y : Str} {k k1 k2 : Nat} {lp lp1 lp2 : Pos}
theorem pep_join (ha : PA X [e] t)
    (hbase : attributeBase (.Constant (.str z) k lp) "join" X.env (eval (.Constant (.str z) k lp) X.env) = eval (.Constant (.str z) k lp) X.env := by rfl)
    (hfew : ((backTo cpos (starEach [e] X.env)).all (fun x => !x.1) && (backToKw cpos (keywordEach [] X.env)).all (fun x => x.1.isSome)
      && decide ([e].length + ([] : List Keyword).length + (if ([] : List Keyword).isEmpty then 0 else 1) < 30)) = true := by rfl)
    (hline : (apos.endLine == cpos.line) = true := by rfl) (hs : starEach [e] X.env = [(false, eval e X.env)] := by rfl) :
    PEp X (.Call (.Attribute (.Constant (.str z) k lp) "join" apos) [e] [] cpos) (fun σ H Q => t σ H fun xs H2 => rJoin X.K (.str z) xs H2 Q) := by
  intro pins s σ H Q I h
  refine wpAny_Call_method_late hbase hfew hline rfl (Calls.Constant_str ?_)
  refine ⟨"str", "str.join", PySem.F.plainAttrs_str, PySem.F.slot_str_join, PySem.F.type_str_join, typeIs_str _ _ _, (fun _ q => nomatch q), ?_⟩
  refine tok1 (Nat.le_add_left _ _) ?_
  have I1 := I.tok (s.toks + 1)
  have hA := ha cpos pins _ σ H _ I1 h
  rw [hs] at hA ⊢
  refine Calls.callWith_builtin (by rfl) (Calls.evalArgs_plain ?_)
  exact thn hA fun us s2 ⟨vs, H2, I2, r2, q2⟩ => mt_join pins s2 σ H2 (.str z) vs (.str z s.toks) us Q I2 ⟨_, rfl⟩ r2 q2
theorem pep_replace (ho : PEp X o to) (hyz : (y == z) = false) (hz : z.length ≤ 14)
    (hbase : attributeBase o "replace" X.env (eval o X.env) = eval o X.env := by rfl)
    (hfew : ((backTo cpos (starEach [.Constant (.str y) k1 lp1, .Constant (.str z) k2 lp2] X.env)).all (fun x => !x.1) && (backToKw cpos (keywordEach [] X.env)).all (fun x => x.1.isSome)
      && decide ([Expr.Constant (.str y) k1 lp1, .Constant (.str z) k2 lp2].length + ([] : List Keyword).length + (if ([] : List Keyword).isEmpty then 0 else 1) < 30)) = true := by rfl)
    (hline : (apos.endLine == cpos.line) = true := by rfl)
    (hs : starEach [.Constant (.str y) k1 lp1, .Constant (.str z) k2 lp2] X.env = [(false, eval (.Constant (.str y) k1 lp1) X.env), (false, eval (.Constant (.str z) k2 lp2) X.env)] := by rfl) :
    PEp X (.Call (.Attribute o "replace" apos) [.Constant (.str y) k1 lp1, .Constant (.str z) k2 lp2] [] cpos) (fun σ H Q => to σ H fun x H1 => ∃ u, x = .str u ∧ u.length ≤ 1048576 ∧ Q (.str (Txt.replace u y z)) H1) := by
  intro pins s σ H Q I h
  refine wpAny_Call_method_late hbase hfew hline rfl (thn (ho pins s σ H _ I h) fun v s1 ⟨h1, x, H1, I1, r1, q1⟩ => ?_)
  obtain ⟨u, rfl, hu, q⟩ := q1
  obtain ⟨t0, rfl⟩ := r1
  refine ⟨"str", "str.replace", PySem.F.plainAttrs_str, PySem.F.slot_str_replace, PySem.F.type_str_replace, typeIs_str _ _ _, (fun _ q => nomatch q), ?_⟩
  refine tok1 h1 ?_
  rw [hs]
  refine Calls.callWith_builtin (by rfl) (Calls.evalArgs_plain ?_)
  show wpAny _ _ (spliced ((false, eval (.Constant (.str y) k1 lp1) X.env) :: [(false, _)])) _ _ s1
  refine Calls.spliced_cons (Calls.Constant_str ?_)
  refine Calls.spliced_cons (Calls.Constant_str (k := k2) (pos := lp2) ?_)
  refine Calls.spliced_nil ?_
  refine SC.replaceW (by show s1.toks ≠ 0; omega) (by show s1.toks + 1 ≠ 0; omega) (by show s1.toks ≠ s1.toks + 1; omega) hyz hu hz fun t' k' => ?_
  exact ⟨.str _, H1, I1.tok k', ⟨_, rfl⟩, q⟩
end
end L2
set_option Elab.async false
set_option linter.all false
set_option maxRecDepth 100000
set_option maxHeartbeats 4000000
namespace WL
open PySem PySem.Builtin PySem.Builtin.Str PySem.StrLaws
def rep2 (a b : Nat) (z : List Nat) : List Nat → List Nat
  | x :: y :: r => if x = a ∧ y = b then z ++ rep2 a b z r else x :: rep2 a b z (y :: r)
  | [x] => [x]
  | [] => []
def occL (a b : Nat) : Nat → List Nat → List Nat
  | i, x :: y :: r => if x = a ∧ y = b then i :: occL a b (i + 2) r else occL a b (i + 1) (y :: r)
  | _, [_] => []
  | _, [] => []
section
variable {x y : Str} {a b : Nat}
theorem sub_at {i : Nat} (hy : y.cps.toList = [a, b]) : subAt x y i = true ↔ ∃ r, x.cps.toList.drop i = a :: b :: r := by
  have h2 : y.length = 2 := by show y.cps.size = 2; rw [← Array.length_toList, hy]; rfl
  rw [subAt_eq, hy, h2, beq_iff_eq]
  match x.cps.toList.drop i with
  | [] => simp
  | [u] => simp
  | u :: v :: r => simp
theorem occ_run (hy : y.cps.toList = [a, b]) : ∀ (m i : Nat) (acc : Array Nat) (free : Nat), x.length + 1 - i = m → i ≤ x.length + 1 → free ≤ i → acc.size ≤ i →
    (forIn (List.range' i (x.length + 1 - i)) (acc, free) (occBody x y x.length (x.length + 1))).run.fst.toList = acc.toList ++ occL a b i (x.cps.toList.drop i) := by
  have h2 : y.length = 2 := by show y.cps.size = 2; rw [← Array.length_toList, hy]; rfl
  have hL : x.cps.toList.length = x.length := by simp [Str.length]
  intro m
  induction m using Nat.strongRecOn with
  | _ m ih =>
    intro i acc free hm hi hf ha
    by_cases h0 : x.length + 1 - i = 0
    · rw [h0]
      have : x.cps.toList.drop i = [] := List.drop_eq_nil_of_le (by omega)
      rw [this]
      simp [occL]
    · obtain ⟨k, hk⟩ : ∃ k, x.length + 1 - i = k + 1 := ⟨x.length - i, by omega⟩
      rw [hk, List.range'_succ, List.forIn_cons]
      have hk' : x.length + 1 - (i + 1) = k := by omega
      by_cases hs : subAt x y i = true
      · obtain ⟨r, hr⟩ := (sub_at hy).mp hs
        have hlen : i + 2 ≤ x.length := by
          have := congrArg List.length hr
          rw [List.length_drop, hL, List.length_cons, List.length_cons] at this
          omega
        have hb : occBody x y x.length (x.length + 1) i (acc, free) = pure (ForInStep.yield (acc.push i, i + 2)) := by
          unfold occBody
          rw [if_pos ⟨⟨⟨by show acc.size < _; omega, hf⟩, by rw [h2]; omega⟩, hs⟩, h2]
        rw [hb]
        obtain ⟨k2, hk2⟩ : ∃ k2, k = k2 + 1 := ⟨k - 1, by omega⟩
        have hb2 : occBody x y x.length (x.length + 1) (i + 1) (acc.push i, i + 2) = pure (ForInStep.yield (acc.push i, i + 2)) := by
          unfold occBody
          rw [if_neg (fun h => by have := h.1.1.2; dsimp only at this; omega)]
        show (forIn (List.range' (i + 1) k) (acc.push i, i + 2) (occBody x y x.length (x.length + 1))).run.fst.toList = _
        rw [hk2, List.range'_succ, List.forIn_cons, hb2]
        show (forIn (List.range' (i + 1 + 1) k2) (acc.push i, i + 2) (occBody x y x.length (x.length + 1))).run.fst.toList = _
        have e := ih (x.length + 1 - (i + 2)) (by omega) (i + 2) (acc.push i) (i + 2) rfl (by omega) (Nat.le_refl _) (by simp; omega)
        rw [show x.length + 1 - (i + 2) = k2 by omega] at e
        rw [show i + 1 + 1 = i + 2 from rfl, e, hr]
        have hd : x.cps.toList.drop (i + 2) = r := by
          rw [← List.drop_drop, hr]; rfl
        rw [hd]
        simp [occL]
      · have hb : occBody x y x.length (x.length + 1) i (acc, free) = pure (ForInStep.yield (acc, free)) := by
          unfold occBody
          rw [if_neg (fun h => hs h.2)]
        rw [hb]
        show (forIn (List.range' (i + 1) k) (acc, free) (occBody x y x.length (x.length + 1))).run.fst.toList = _
        have e := ih (x.length + 1 - (i + 1)) (by omega) (i + 1) acc free rfl (by omega) (by omega) (by omega)
        rw [hk'] at e
        rw [e]
        have hn : ¬ ∃ r, x.cps.toList.drop i = a :: b :: r := fun h => hs ((sub_at hy).mpr h)
        have hd : x.cps.toList.drop (i + 1) = (x.cps.toList.drop i).drop 1 := by rw [List.drop_drop]
        rw [hd]
        match hx : x.cps.toList.drop i with
        | [] => simp [occL]
        | [u] => simp [occL]
        | u :: v :: r =>
          have : ¬ (u = a ∧ v = b) := fun ⟨h1, h3⟩ => hn ⟨r, by rw [hx, h1, h3]⟩
          show _ = acc.toList ++ (if u = a ∧ v = b then _ else _)
          rw [if_neg this]; rfl
theorem occ_all (hy : y.cps.toList = [a, b]) : occurrences x y 0 x.length (x.length + 1) = occL a b 0 x.cps.toList := by
  rw [occ_eq]
  have := occ_run (x := x) hy (x.length + 1) 0 #[] 0 rfl (Nat.zero_le _) (Nat.le_refl _) (Nat.le_refl _)
  simpa using this
theorem glue_cons {z p : Str} {q : Str} {r : List Str} : (glued z (p :: q :: r)).cps.toList = p.cps.toList ++ z.cps.toList ++ (glued z (q :: r)).cps.toList := by
  rw [glued_eq_join, glued_eq_join]
  show (p ++ z ++ Str.join z (q :: r)).cps.toList = _
  rw [Str.cps_append, Str.cps_append]; simp
theorem glue_rep {z : Str} : ∀ (m i lo : Nat), x.length - i = m → lo ≤ i → i ≤ x.length →
    (glued z (partsFrom x 2 lo (occL a b i (x.cps.toList.drop i)))).cps.toList = (x.cps.toList.drop lo).take (i - lo) ++ rep2 a b z.cps.toList (x.cps.toList.drop i) := by
  have hL : x.cps.toList.length = x.length := by simp [Str.length]
  intro m
  induction m using Nat.strongRecOn with
  | _ m ih =>
    intro i lo hm hlo hi
    have whole : ∀ q, (x.cps.toList.drop i = q) → rep2 a b z.cps.toList q = q → (glued z (partsFrom x 2 lo [])).cps.toList = (x.cps.toList.drop lo).take (i - lo) ++ rep2 a b z.cps.toList q := fun q hq hr => by
      rw [hr]
      show (strSub x lo x.length).cps.toList = _
      rw [strSub_toList, ← hq]
      rw [List.take_of_length_le (by rw [List.length_drop]; omega)]
      have := List.take_append_drop (i - lo) (x.cps.toList.drop lo)
      rw [List.drop_drop, show lo + (i - lo) = i by omega] at this
      exact this.symm
    match hx : x.cps.toList.drop i with
    | [] => exact whole [] hx rfl
    | [u] => exact whole [u] hx rfl
    | u :: v :: r =>
      have hlen : i + 2 ≤ x.length := by
        have := congrArg List.length hx
        rw [List.length_drop, hL, List.length_cons, List.length_cons] at this
        omega
      have hd1 : x.cps.toList.drop (i + 1) = v :: r := by rw [← List.drop_drop, hx]; rfl
      have hd2 : x.cps.toList.drop (i + 2) = r := by rw [← List.drop_drop, hx]; rfl
      by_cases c : u = a ∧ v = b
      · have e1 : occL a b i (u :: v :: r) = i :: occL a b (i + 2) r := by simp [occL, c]
        have e2 : rep2 a b z.cps.toList (u :: v :: r) = z.cps.toList ++ rep2 a b z.cps.toList r := by simp [rep2, c]
        rw [e1, e2]
        have e3 := ih (x.length - (i + 2)) (by omega) (i + 2) (i + 2) rfl (Nat.le_refl _) hlen
        rw [hd2] at e3
        show (glued z (strSub x lo i :: partsFrom x 2 (i + 2) (occL a b (i + 2) r))).cps.toList = _
        obtain ⟨q, q', hq⟩ := partsFrom_ne x 2 (i + 2) (occL a b (i + 2) r)
        rw [hq] at e3 ⊢
        rw [glue_cons, e3, strSub_toList]
        simp
      · have e1 : occL a b i (u :: v :: r) = occL a b (i + 1) (v :: r) := by
          show (if u = a ∧ v = b then _ else _) = _
          rw [if_neg c]
        have e2 : rep2 a b z.cps.toList (u :: v :: r) = u :: rep2 a b z.cps.toList (v :: r) := by
          show (if u = a ∧ v = b then _ else _) = _
          rw [if_neg c]
        rw [e1, e2]
        have e3 := ih (x.length - (i + 1)) (by omega) (i + 1) lo rfl (by omega) (by omega)
        rw [hd1] at e3
        rw [e3]
        have : (x.cps.toList.drop lo).take (i + 1 - lo) = (x.cps.toList.drop lo).take (i - lo) ++ [u] := by
          rw [show i + 1 - lo = (i - lo) + 1 by omega, List.take_add_one, List.getElem?_drop, show lo + (i - lo) = i by omega]
          have hu : x.cps.toList[i]? = some u := by
            have := congrArg (·[0]?) hx
            simpa using this
          rw [hu]; rfl
        rw [this]; simp
theorem replace_rep2 {z : Str} (hy : y.cps.toList = [a, b]) : (Txt.replace x y z).cps.toList = rep2 a b z.cps.toList x.cps.toList := by
  have h2 : y.length = 2 := by show y.cps.size = 2; rw [← Array.length_toList, hy]; rfl
  have hg := glue_rep (x := x) (a := a) (b := b) (z := z) x.length 0 0 rfl (Nat.le_refl _) (Nat.zero_le _)
  simp only [List.drop_zero, Nat.sub_self, List.take_zero, List.nil_append] at hg
  unfold Txt.replace
  rw [occ_all hy]
  have h20 : (y.length == 0 && z.length == 0) = false := by rw [h2]; rfl
  rw [h20, Bool.or_false]
  split
  · rename_i h
    have hn : occL a b 0 x.cps.toList = [] := List.isEmpty_iff.mp h
    rw [hn] at hg
    rw [← hg]
    show x.cps.toList = (strSub x 0 x.length).cps.toList
    rw [strSub_toList, List.drop_zero, List.take_of_length_le (by simp [Str.length])]
  · rw [partsBetween_eq, h2]; exact hg
end
end WL
set_option Elab.async false
set_option linter.all false
set_option maxRecDepth 100000
set_option maxHeartbeats 4000000
namespace WL
open PySem PySem.Builtin PySem.Builtin.Str PySem.StrLaws
def rep1 (a : Nat) (z : List Nat) (l : List Nat) : List Nat := l.flatMap fun c => if c = a then z else [c]
def occ1 (a : Nat) : Nat → List Nat → List Nat
  | i, c :: r => if c = a then i :: occ1 a (i + 1) r else occ1 a (i + 1) r
  | _, [] => []
def spl (a : Nat) : List Nat → List (List Nat)
  | [] => [[]]
  | c :: r => if c = a then [] :: spl a r else match spl a r with
    | p :: ps => (c :: p) :: ps
    | [] => [[c]]
theorem spl_ne (a : Nat) : ∀ l, ∃ p ps, spl a l = p :: ps
  | [] => ⟨_, _, rfl⟩
  | c :: r => by
    unfold spl
    split
    · exact ⟨_, _, rfl⟩
    · obtain ⟨p, ps, e⟩ := spl_ne a r
      rw [e]; exact ⟨_, _, rfl⟩
section
variable {x y : Str} {a : Nat}
theorem sub_at1 {i : Nat} (hy : y.cps.toList = [a]) : subAt x y i = true ↔ ∃ r, x.cps.toList.drop i = a :: r := by
  have h2 : y.length = 1 := by show y.cps.size = 1; rw [← Array.length_toList, hy]; rfl
  rw [subAt_eq, hy, h2, beq_iff_eq]
  match x.cps.toList.drop i with
  | [] => simp
  | u :: r => simp
theorem occ_run1 (hy : y.cps.toList = [a]) : ∀ (m i : Nat) (acc : Array Nat) (free : Nat), x.length + 1 - i = m → i ≤ x.length + 1 → free ≤ i → acc.size ≤ i →
    (forIn (List.range' i (x.length + 1 - i)) (acc, free) (occBody x y x.length (x.length + 1))).run.fst.toList = acc.toList ++ occ1 a i (x.cps.toList.drop i) := by
  have h2 : y.length = 1 := by show y.cps.size = 1; rw [← Array.length_toList, hy]; rfl
  have hL : x.cps.toList.length = x.length := by simp [Str.length]
  intro m
  induction m with
  | zero =>
    intro i acc free hm hi hf ha
    rw [hm]
    have : x.cps.toList.drop i = [] := List.drop_eq_nil_of_le (by omega)
    rw [this]
    simp [occ1]
  | succ k ih =>
    intro i acc free hm hi hf ha
    rw [hm, List.range'_succ, List.forIn_cons]
    have hk' : x.length + 1 - (i + 1) = k := by omega
    by_cases hs : subAt x y i = true
    · obtain ⟨r, hr⟩ := (sub_at1 hy).mp hs
      have hlen : i + 1 ≤ x.length := by
        have := congrArg List.length hr
        rw [List.length_drop, hL, List.length_cons] at this
        omega
      have hb : occBody x y x.length (x.length + 1) i (acc, free) = pure (ForInStep.yield (acc.push i, i + 1)) := by
        unfold occBody
        rw [if_pos ⟨⟨⟨by show acc.size < _; omega, hf⟩, by rw [h2]; omega⟩, hs⟩, h2]
      rw [hb]
      show (forIn (List.range' (i + 1) k) (acc.push i, i + 1) (occBody x y x.length (x.length + 1))).run.fst.toList = _
      have e := ih (i + 1) (acc.push i) (i + 1) (by omega) (by omega) (Nat.le_refl _) (by simp; omega)
      rw [hk'] at e
      rw [e, hr]
      have hd : x.cps.toList.drop (i + 1) = r := by
        rw [← List.drop_drop, hr]; rfl
      rw [hd]
      simp [occ1]
    · have hb : occBody x y x.length (x.length + 1) i (acc, free) = pure (ForInStep.yield (acc, free)) := by
        unfold occBody
        rw [if_neg (fun h => hs h.2)]
      rw [hb]
      show (forIn (List.range' (i + 1) k) (acc, free) (occBody x y x.length (x.length + 1))).run.fst.toList = _
      have e := ih (i + 1) acc free (by omega) (by omega) (by omega) (by omega)
      rw [hk'] at e
      rw [e]
      have hn : ¬ ∃ r, x.cps.toList.drop i = a :: r := fun h => hs ((sub_at1 hy).mpr h)
      have hd : x.cps.toList.drop (i + 1) = (x.cps.toList.drop i).drop 1 := by rw [List.drop_drop]
      rw [hd]
      match hx : x.cps.toList.drop i with
      | [] => simp [occ1]
      | u :: r =>
        have : ¬ (u = a) := fun h1 => hn ⟨r, by rw [hx, h1]⟩
        show _ = acc.toList ++ (if u = a then _ else _)
        rw [if_neg this]; rfl
theorem occ_all1 (hy : y.cps.toList = [a]) : occurrences x y 0 x.length (x.length + 1) = occ1 a 0 x.cps.toList := by
  rw [occ_eq]
  have := occ_run1 (x := x) hy (x.length + 1) 0 #[] 0 rfl (Nat.zero_le _) (Nat.le_refl _) (Nat.le_refl _)
  simpa using this
theorem parts_spl : ∀ (m i lo : Nat), x.length - i = m → lo ≤ i → i ≤ x.length → ∀ p ps, spl a (x.cps.toList.drop i) = p :: ps →
    (partsFrom x 1 lo (occ1 a i (x.cps.toList.drop i))).map (fun z => z.cps.toList) = ((x.cps.toList.drop lo).take (i - lo) ++ p) :: ps := by
  have hL : x.cps.toList.length = x.length := by simp [Str.length]
  intro m
  induction m with
  | zero =>
    intro i lo hm hlo hi p ps hs
    have hx : x.cps.toList.drop i = [] := List.drop_eq_nil_of_le (by omega)
    rw [hx] at hs ⊢
    cases hs
    show [(strSub x lo x.length).cps.toList] = _
    rw [strSub_toList, List.append_nil, show i - lo = x.length - lo by omega]
  | succ k ih =>
    intro i lo hm hlo hi p ps hs
    match hx : x.cps.toList.drop i with
    | [] =>
      have := congrArg List.length hx
      rw [List.length_drop, hL, List.length_nil] at this
      omega
    | u :: r =>
      rw [hx] at hs
      have hd1 : x.cps.toList.drop (i + 1) = r := by rw [← List.drop_drop, hx]; rfl
      by_cases c : u = a
      · have e1 : occ1 a i (u :: r) = i :: occ1 a (i + 1) r := by simp [occ1, c]
        have e2 : spl a (u :: r) = [] :: spl a r := by simp [spl, c]
        rw [e2] at hs
        cases hs
        obtain ⟨p', ps', e'⟩ := spl_ne a r
        have e3 := ih (i + 1) (i + 1) (by omega) (Nat.le_refl _) (by omega) p' ps' (by rw [hd1]; exact e')
        rw [hd1] at e3
        rw [e1]
        show (strSub x lo i).cps.toList :: (partsFrom x 1 (i + 1) (occ1 a (i + 1) r)).map _ = _
        rw [e3, strSub_toList, e']
        simp
      · have e1 : occ1 a i (u :: r) = occ1 a (i + 1) r := by simp [occ1, c]
        obtain ⟨p', ps', e'⟩ := spl_ne a r
        have e2 : spl a (u :: r) = (u :: p') :: ps' := by simp [spl, c, e']
        rw [e2] at hs
        cases hs
        have e3 := ih (i + 1) lo (by omega) (by omega) (by omega) p' _ (by rw [hd1]; exact e')
        rw [hd1] at e3
        rw [e1, e3]
        have : (x.cps.toList.drop lo).take (i + 1 - lo) = (x.cps.toList.drop lo).take (i - lo) ++ [u] := by
          rw [show i + 1 - lo = (i - lo) + 1 by omega, List.take_add_one, List.getElem?_drop, show lo + (i - lo) = i by omega]
          have hu : x.cps.toList[i]? = some u := by
            have := congrArg (·[0]?) hx
            simpa using this
          rw [hu]; rfl
        rw [this]; simp
def gl (z : List Nat) : List (List Nat) → List Nat
  | [] => []
  | [p] => p
  | p :: q :: r => p ++ z ++ gl z (q :: r)
theorem gl_glued {z : Str} : ∀ ps : List Str, (glued z ps).cps.toList = gl z.cps.toList (ps.map fun p => p.cps.toList)
  | [] => by rw [glued_eq_join]; rfl
  | [p] => by rw [glued_eq_join]; rfl
  | p :: q :: r => by rw [glue_cons, gl_glued (q :: r)]; rfl
theorem gl_spl {z : List Nat} : ∀ l, gl z (spl a l) = rep1 a z l
  | [] => rfl
  | c :: r => by
    obtain ⟨p, ps, e⟩ := spl_ne a r
    have ih := gl_spl (z := z) r
    by_cases h : c = a
    · have e2 : spl a (c :: r) = [] :: p :: ps := by simp [spl, h, e]
      rw [e2]
      show [] ++ z ++ gl z (p :: ps) = _
      rw [← e, ih]
      simp [rep1, h]
    · have e2 : spl a (c :: r) = (c :: p) :: ps := by simp [spl, h, e]
      rw [e2]
      rw [e] at ih
      have : rep1 a z (c :: r) = c :: rep1 a z r := by simp [rep1, h]
      rw [this, ← ih]
      cases ps with
      | nil => rfl
      | cons q r => rfl
theorem occ1_nil : ∀ {i : Nat} {l : List Nat}, occ1 a i l = [] → ∀ c ∈ l, c ≠ a
  | _, [], _ => fun c hc => by cases hc
  | i, c :: r, h => by
    by_cases e : c = a
    · simp [occ1, e] at h
    · have h' : occ1 a (i + 1) r = [] := by simpa [occ1, e] using h
      intro d hd
      rcases List.mem_cons.mp hd with rfl | hd
      · exact e
      · exact occ1_nil h' d hd
theorem spl_none : ∀ {l : List Nat}, (∀ c ∈ l, c ≠ a) → spl a l = [l]
  | [], _ => rfl
  | c :: r, h => by
    have e := spl_none (l := r) fun d hd => h d (by simp [hd])
    simp [spl, h c (by simp), e]
theorem rep1_none {z : List Nat} : ∀ {l : List Nat}, (∀ c ∈ l, c ≠ a) → rep1 a z l = l := fun {l} h => by
  rw [← gl_spl, spl_none h]; rfl
theorem parts_all : (partsFrom x 1 0 (occ1 a 0 x.cps.toList)).map (fun z => z.cps.toList) = spl a x.cps.toList := by
  obtain ⟨p, ps, e⟩ := spl_ne a x.cps.toList
  have := parts_spl (x := x) (a := a) x.length 0 0 rfl (Nat.le_refl _) (Nat.zero_le _) p ps (by simpa using e)
  simp only [List.drop_zero, Nat.sub_self, List.take_zero, List.nil_append] at this
  rw [this, e]
theorem replace_rep1 {z : Str} (hy : y.cps.toList = [a]) : (Txt.replace x y z).cps.toList = rep1 a z.cps.toList x.cps.toList := by
  have h2 : y.length = 1 := by show y.cps.size = 1; rw [← Array.length_toList, hy]; rfl
  unfold Txt.replace
  rw [occ_all1 hy]
  have h20 : (y.length == 0 && z.length == 0) = false := by rw [h2]; rfl
  rw [h20, Bool.or_false]
  split
  · rename_i h
    exact (rep1_none (occ1_nil (List.isEmpty_iff.mp h))).symm
  · rw [partsBetween_eq, h2, gl_glued, parts_all, gl_spl]
theorem split_spl (hy : y.cps.toList = [a]) (hk : ∀ x : Str, ¬ Builtin.Str.strKind x < Builtin.Str.strKind y) : (Txt.split x y).map (fun z => z.cps.toList) = spl a x.cps.toList := by
  have h2 : y.length = 1 := by show y.cps.size = 1; rw [← Array.length_toList, hy]; rfl
  unfold Txt.split
  rw [occ_all1 hy]
  split
  · rename_i h
    rw [Bool.or_eq_true, decide_eq_true_eq, decide_eq_true_eq] at h
    rcases h with h | h
    · have : x.cps.toList = [] := List.eq_nil_of_length_eq_zero (by rw [h2] at h; have : x.cps.toList.length = x.length := by simp [Str.length]
                                                                    omega)
      rw [List.map_singleton, this]; rfl
    · exact absurd h (hk x)
  · split
    · rename_i h
      rw [spl_none (occ1_nil (List.isEmpty_iff.mp h))]; rfl
    · rw [partsBetween_eq, h2]; exact parts_all
end
def wds (l : List Nat) : List (List Nat) := (spl 32 l).filter fun p => !p.isEmpty
theorem spl_app : ∀ {l r : List Nat}, spl 32 (l ++ 32 :: r) = spl 32 l ++ spl 32 r
  | [], r => by simp [spl]
  | c :: l, r => by
    have ih := spl_app (l := l) (r := r)
    obtain ⟨p, ps, e⟩ := spl_ne 32 l
    by_cases h : c = 32
    · simp [spl, h, ih]
    · have f1 : spl 32 (c :: (l ++ 32 :: r)) = (c :: p) :: (ps ++ spl 32 r) := by
        have : spl 32 (c :: (l ++ 32 :: r)) = match spl 32 (l ++ 32 :: r) with
          | p :: ps => (c :: p) :: ps
          | [] => [[c]] := by
          show (if c = 32 then _ else _) = _
          rw [if_neg h]
        rw [this, ih, e]; rfl
      have f2 : spl 32 (c :: l) = (c :: p) :: ps := by simp [spl, h, e]
      rw [List.cons_append, f1, f2]; rfl
theorem wds_app {l r : List Nat} : wds (l ++ 32 :: r) = wds l ++ wds r := by unfold wds; rw [spl_app, List.filter_append]
theorem wds_nil : wds [] = [] := rfl
theorem wds_sp {r : List Nat} : wds (32 :: r) = wds r := by have := wds_app (l := []) (r := r); simpa [wds_nil] using this
theorem wds_end {l : List Nat} : wds (l ++ [32]) = wds l := by have := wds_app (l := l) (r := []); rw [wds_nil, List.append_nil] at this; exact this
theorem wds_one {w : List Nat} (h0 : w ≠ []) (h : ∀ c ∈ w, c ≠ 32) : wds w = [w] := by
  unfold wds; rw [spl_none h]
  cases w with
  | nil => exact absurd rfl h0
  | cons c r => rfl
theorem wds_blanks : ∀ {b l : List Nat}, (∀ c ∈ b, c = 32) → wds (b ++ l) = wds l
  | [], _, _ => rfl
  | c :: b, l, h => by
    rw [h c (by simp), List.cons_append, wds_sp]
    exact wds_blanks fun d hd => h d (by simp [hd])
def Bk (l : List Nat) : Prop := l = [] ∨ ∃ q, l = q ++ [32]
theorem wds_bk {l r : List Nat} (h : Bk l) : wds (l ++ r) = wds l ++ wds r := by
  rcases h with rfl | ⟨q, rfl⟩
  · simp [wds_nil]
  · rw [List.append_assoc, List.singleton_append, wds_app, wds_end]
end WL
set_option Elab.async false
set_option linter.all false
set_option maxRecDepth 100000
set_option maxHeartbeats 4000000
namespace WL
open PySem PySem.Builtin PySem.Builtin.Str PySem.StrLaws
def okc (c : Nat) : Bool := c != 32 && c != 40 && c != 41
def gw (w : Str) : Bool := w == "(" || w == ")" || (decide (1 ≤ w.length) && decide (w.length ≤ 20) && w.cps.toList.all okc)
def J : List Str → List Nat
  | [] => []
  | [w] => w.cps.toList
  | w :: v :: r => w.cps.toList ++ 32 :: J (v :: r)
def J1 : List Str → List Nat
  | [] => []
  | [w] => w.cps.toList
  | w :: v :: r => w.cps.toList ++ (if w = "(" then [] else [32]) ++ J1 (v :: r)
def J2 : List Str → List Nat
  | [] => []
  | [w] => w.cps.toList
  | w :: v :: r => w.cps.toList ++ (if w = "(" ∨ v = ")" then [] else [32]) ++ J2 (v :: r)
theorem join_J : ∀ ws : List Str, (Txt.join (" " : Str) ws).cps.toList = J ws := by
  intro ws
  show (glued (" " : Str) ws).cps.toList = J ws
  rw [glued_eq_join]
  induction ws with
  | nil => rfl
  | cons w r ih =>
    cases r with
    | nil => rfl
    | cons v r =>
      show (w ++ (" " : Str) ++ Str.join (" " : Str) (v :: r)).cps.toList = _
      rw [Str.cps_append, Str.cps_append]
      simp only [Array.toList_append, List.append_assoc]
      rw [ih]; rfl
theorem str_ext {a b : Str} (h : a.cps.toList = b.cps.toList) : a = b := Str.ext' (Array.toList_inj.mp h)
theorem op_cps : ("(" : Str).cps.toList = [40] := rfl
theorem cl_cps : (")" : Str).cps.toList = [41] := rfl
theorem gw_cases {w : Str} (h : gw w = true) : w = "(" ∨ w = ")" ∨ (w.cps.toList ≠ [] ∧ ∀ c ∈ w.cps.toList, c ≠ 32 ∧ c ≠ 40 ∧ c ≠ 41) := by
  unfold gw at h
  rw [Bool.or_eq_true, Bool.or_eq_true] at h
  rcases h with (h | h) | h
  · exact .inl (eq_of_beq h)
  · exact .inr (.inl (eq_of_beq h))
  · rw [Bool.and_eq_true, Bool.and_eq_true, decide_eq_true_eq, List.all_eq_true] at h
    refine .inr (.inr ⟨fun e => ?_, fun c hc => ?_⟩)
    · have : w.length = 0 := by show w.cps.size = 0; rw [← Array.length_toList, e]; rfl
      omega
    · have := h.2 c hc
      unfold okc at this
      simp at this
      exact ⟨this.1.1, this.1.2, this.2⟩
theorem gw_len {w : Str} (h : gw w = true) : w.length ≤ 20 := by
  unfold gw at h
  rw [Bool.or_eq_true, Bool.or_eq_true] at h
  rcases h with (h | h) | h
  · rw [eq_of_beq h]; decide
  · rw [eq_of_beq h]; decide
  · rw [Bool.and_eq_true, Bool.and_eq_true, decide_eq_true_eq, decide_eq_true_eq] at h; exact h.1.2
theorem gw_ne {w : Str} (h : gw w = true) : w.cps.toList ≠ [] := by
  rcases gw_cases h with rfl | rfl | h
  · rw [op_cps]; simp
  · rw [cl_cps]; simp
  · exact h.1
theorem rep_pass {a b : Nat} {z : List Nat} : ∀ {l r : List Nat}, (∀ c ∈ l, c ≠ a) → rep2 a b z (l ++ r) = l ++ rep2 a b z r
  | [], _, _ => rfl
  | c :: l, r, h => by
    have hc := h c (by simp)
    have ih := rep_pass (b := b) (z := z) (l := l) (r := r) fun d hd => h d (by simp [hd])
    show rep2 a b z (c :: (l ++ r)) = c :: (l ++ rep2 a b z r)
    rw [← ih]
    match e : l ++ r with
    | [] => rfl
    | d :: q =>
      show (if c = a ∧ d = b then _ else _) = _
      rw [if_neg fun z => hc z.1]
theorem rep_1 {w : Str} (h : gw w = true) (hw : w ≠ "(") : ∀ c ∈ w.cps.toList, c ≠ 40 := by
  rcases gw_cases h with rfl | rfl | h
  · exact absurd rfl hw
  · rw [cl_cps]; simp
  · exact fun c hc => (h.2 c hc).2.1
theorem rep_2 {w : Str} (h : gw w = true) : ∀ c ∈ w.cps.toList, c ≠ 32 := by
  rcases gw_cases h with rfl | rfl | h
  · rw [op_cps]; simp
  · rw [cl_cps]; simp
  · exact fun c hc => (h.2 c hc).1
theorem rep_J : ∀ {ws : List Str}, (∀ w ∈ ws, gw w = true) → rep2 40 32 [40] (J ws) = J1 ws
  | [], _ => rfl
  | [w], h => by
    have hw := h w (by simp)
    by_cases c : w = "("
    · subst c; rfl
    · have := rep_pass (a := 40) (b := 32) (z := [40]) (l := w.cps.toList) (r := []) (rep_1 hw c)
      rw [List.append_nil] at this
      show rep2 40 32 [40] w.cps.toList = w.cps.toList
      rw [this]; simp [rep2]
  | w :: v :: r, h => by
    have hw := h w (by simp)
    have ih := rep_J (ws := v :: r) fun u hu => h u (by simp [hu])
    by_cases c : w = "("
    · subst c
      show rep2 40 32 [40] (40 :: 32 :: J (v :: r)) = _
      have e : rep2 40 32 [40] (40 :: 32 :: J (v :: r)) = [40] ++ rep2 40 32 [40] (J (v :: r)) := by simp [rep2]
      rw [e, ih]; rfl
    · show rep2 40 32 [40] (w.cps.toList ++ 32 :: J (v :: r)) = w.cps.toList ++ (if w = "(" then [] else [32]) ++ J1 (v :: r)
      rw [if_neg c, rep_pass (rep_1 hw c)]
      have := rep_pass (a := 40) (b := 32) (z := [40]) (l := [32]) (r := J (v :: r)) (by simp)
      rw [show 32 :: J (v :: r) = [32] ++ J (v :: r) from rfl, this, ih]; simp
theorem J1_head : ∀ {v : Str} {r : List Str}, ∃ q, J1 (v :: r) = v.cps.toList ++ q
  | v, [] => ⟨[], by simp [J1]⟩
  | v, u :: r => ⟨_, by rw [J1, List.append_assoc]⟩
theorem rep_J1 : ∀ {ws : List Str}, (∀ w ∈ ws, gw w = true) → rep2 32 41 [41] (J1 ws) = J2 ws
  | [], _ => rfl
  | [w], h => by
    have hw := h w (by simp)
    have := rep_pass (a := 32) (b := 41) (z := [41]) (l := w.cps.toList) (r := []) (rep_2 hw)
    rw [List.append_nil] at this
    show rep2 32 41 [41] w.cps.toList = w.cps.toList
    rw [this]; simp [rep2]
  | w :: v :: r, h => by
    have hw := h w (by simp)
    have hv := h v (by simp)
    have ih := rep_J1 (ws := v :: r) fun u hu => h u (by simp [hu])
    show rep2 32 41 [41] (w.cps.toList ++ (if w = "(" then [] else [32]) ++ J1 (v :: r)) = w.cps.toList ++ (if w = "(" ∨ v = ")" then [] else [32]) ++ J2 (v :: r)
    rw [List.append_assoc, rep_pass (rep_2 hw), List.append_assoc]
    congr 1
    by_cases c : w = "("
    · rw [if_pos c, if_pos (.inl c)]; exact ih
    · rw [if_neg c]
      obtain ⟨q, hq⟩ := J1_head (v := v) (r := r)
      by_cases d : v = ")"
      · rw [if_pos (.inr d)]
        subst d
        rw [hq, cl_cps] at ih ⊢
        have e : rep2 32 41 [41] ([32] ++ ([41] ++ q)) = [41] ++ rep2 32 41 [41] q := by simp [rep2]
        rw [e, ← ih, rep_pass (by simp)]; rfl
      · rw [if_neg (fun z => z.elim c d)]
        rw [← ih]
        match e : v.cps.toList, gw_ne hv with
        | x :: q', _ =>
          have hx : x ≠ 41 := by
            rcases gw_cases hv with z | z | z
            · rw [z, op_cps] at e; cases e; decide
            · exact absurd z d
            · exact (z.2 x (by rw [e]; simp)).2.2
          rw [hq, e]
          show (if (32 : Nat) = 32 ∧ x = 41 then _ else _) = _
          rw [if_neg fun z => hx z.2]; rfl
theorem shown_J2 {ws : List Str} (h : ∀ w ∈ ws, gw w = true) : (Txt.replace (Txt.replace (Txt.join (" " : Str) ws) ("( " : Str) ("(" : Str)) (" )" : Str) (")" : Str)).cps.toList = J2 ws := by
  rw [replace_rep2 (a := 32) (b := 41) rfl, replace_rep2 (a := 40) (b := 32) rfl, join_J, op_cps, cl_cps, rep_J h, rep_J1 h]
theorem J_len : ∀ {ws : List Str}, (∀ w ∈ ws, gw w = true) → (ws.map (·.length)).sum ≤ 20 * ws.length
  | [], _ => by simp
  | w :: r, h => by
    have h1 := gw_len (h w (by simp))
    have ih := J_len (ws := r) fun u hu => h u (by simp [hu])
    simp only [List.map_cons, List.sum_cons, List.length_cons]
    omega
end WL
set_option Elab.async false
set_option linter.all false
set_option maxRecDepth 100000
set_option maxHeartbeats 4000000
namespace L2
open PySem PySem.Spec PyProof.Rows
section
variable {prog : Program} {w : World} {A : Around} {E : Value → Shared → Prop} {s : Shared}
end
structure ZAp (z TI TO i1 i2 : Addr) (f1 f2 : List Addr) : Prop where
  m1 : i1 ∈ f1
  m2 : i2 ∈ f2
  z1 : z ∉ f1
  z2 : z ∉ f2
  o1 : TO ∉ f1
  o2 : TO ∉ f2
  a12 : i1 ∉ f2
  a21 : i2 ∉ f1
  tz : TI ≠ z
  oz : TO ≠ z
  io : TI ≠ TO
  t1 : TI ≠ i1
  t2 : TI ≠ i2
section
variable {prog : Program} {w : World} {A : Around} {E : Value → Shared → Prop} {s : Shared} {z TI TO i1 i2 : Addr} {f1 f2 : List Addr} {n : Nat} {P1 P2 : Nat → Value → Prop} {S1 S2 : Nat → Heap → Prop}
end
end L2
set_option Elab.async false
set_option linter.all false
set_option maxRecDepth 100000
set_option maxHeartbeats 4000000
namespace L2
open PySem PySem.Spec PyProof.Rows Builtin
abbrev itOb (c : String) (l : Addr) : Obj := { cls := .type c, data := .fields #[.ref l, .int 0 0] }
abbrev zA (h : Heap) (c1 : String) (l1 : Addr) : Heap := h.push (itOb c1 l1)
abbrev zB (h : Heap) (c1 : String) (l1 : Addr) (c2 : String) (l2 : Addr) : Heap := (zA h c1 l1).push (itOb c2 l2)
abbrev zC (h : Heap) (c1 : String) (l1 : Addr) (c2 : String) (l2 : Addr) : Heap := (zB h c1 l1 c2 l2).push { cls := .type "tuple", data := .seq #[.ref h.objs.size, .ref (zA h c1 l1).objs.size] }
abbrev zD (h : Heap) (c1 : String) (l1 : Addr) (c2 : String) (l2 : Addr) : Heap := (zC h c1 l1 c2 l2).push { cls := .type "tuple", data := .seq #[.none, .none] }
abbrev zE (h : Heap) (c1 : String) (l1 : Addr) (c2 : String) (l2 : Addr) : Heap := (zD h c1 l1 c2 l2).push { cls := .type "zip", data := .fields #[.none, .bool false, .bool false, .ref (zB h c1 l1 c2 l2).objs.size, .ref (zC h c1 l1 c2 l2).objs.size] }
structure ZNew (h h2 : Heap) (c1 : String) (l1 : Addr) (c2 : String) (l2 : Addr) : Prop where
  zip : IsZip h2 (h.objs.size + 4) (h.objs.size + 2) (h.objs.size + 3) .none
  its : IsPair h2 (h.objs.size + 2) (.ref h.objs.size) (.ref (h.objs.size + 1))
  own : IsPair h2 (h.objs.size + 3) .none .none
  i1 : h2.get? h.objs.size = some (itOb c1 l1)
  i2 : h2.get? (h.objs.size + 1) = some (itOb c2 l2)
  keep : ∀ c o, h.get? c = some o → h2.get? c = some o
section
variable {prog : Program} {w : World} {A : Around} {E : Value → Shared → Prop} {s : Shared}
end
def SqX (b : Bool) (K : PySem.W.Frag) (H : Hp) (a : Addr) (xs : List V) : Prop := if b then SqL K H a xs else SqT K H a xs
def ItX (b : Bool) (h : Heap) (it l : Addr) (i : Nat) : Prop := if b then h.IsListIter it l i else h.IsTupleIter it l i
def SrX (b : Bool) (h : Heap) (l : Addr) (its : Array Value) : Prop := if b then h.IsList l its else h.IsTuple l its
def cX (b : Bool) : String := if b then "list_iterator" else "tuple_iterator"
section
variable {X : Cx} {pins : List (Addr × Obj)} {σ : St} {H : Hp} {s : Shared}
end
def Itz (b : Bool) (K : PySem.W.Frag) (l1 l2 : Addr) : It :=
  ⟨fun i H => ∃ xs ys, SqT K H l1 xs ∧ SqX b K H l2 ys ∧ xs.length = ys.length ∧ i < xs.length,
   fun i H x H' => ∃ u v T, (∀ xs, SqT K H l1 xs → xs[i]? = some u) ∧ (∀ ys, SqX b K H l2 ys → ys[i]? = some v) ∧ x = .ref T ∧ H T = none ∧ H' = upd H T (.tup [u, v]),
   fun i H => ∃ xs ys, SqT K H l1 xs ∧ SqX b K H l2 ys ∧ xs.length = ys.length ∧ i = xs.length⟩
section
variable {X : Cx} {elts : List Expr} {ek : Nat} {epos : Pos}
def iZip (K : PySem.W.Frag) (ta : TA) : TI := fun σ H R => ta σ H fun vs H1 => ∃ (b : Bool) (l1 l2 : Addr) (xs ys : List V), vs = [.ref l1, .ref l2] ∧ SqT K H1 l1 xs ∧ SqX b K H1 l2 ys ∧ R (Itz b K l1 l2) H1
end
end L2
set_option Elab.async false
set_option linter.all false
set_option maxRecDepth 100000
set_option maxHeartbeats 4000000
namespace L2
open PySem PySem.Spec PyProof.Rows
section
variable {prog : Program} {w : World} {A : Around} {E : Value → Shared → Prop} {s : Shared} {a b : Addr} {oa ob : Obj} {ea eb : Array DictEntry} {pa pb : Nat}
end
end L2
set_option Elab.async false
set_option linter.all false
set_option maxRecDepth 100000
set_option maxHeartbeats 4000000
namespace L2
open PySem PySem.Spec PyProof.Rows
section
variable {X : Cx} {pins : List (Addr × Obj)} {σ : St} {H : Hp} {s : Shared}
end
def Itd (o : Obj) (d : Addr) (ks : List (Key × V)) : It :=
  ⟨fun i H => H d = some (.frz o (.dK ks)) ∧ i < ks.length, fun i H x H' => H' = H ∧ ∃ kv, ks[i]? = some kv ∧ x = kV kv.1, fun i H => H d = some (.frz o (.dK ks)) ∧ i = ks.length⟩
section
variable {X : Cx} {tg e : Expr}
def iDic (td : TE) : TI := fun σ H R => td σ H fun x H1 => ∃ d ks, x = .ref d ∧ Rd H1 d (.dK ks) ∧ ∀ o, (∀ o', H1 d = some (.frz o' (.dK ks)) → o' = o) → R (Itd o d ks) (upd H1 d (.frz o (.dK ks)))
end
end L2
set_option Elab.async false
set_option linter.all false
set_option maxRecDepth 100000
set_option maxHeartbeats 4000000
namespace L2
open PySem PySem.Spec PyProof.Rows
section
variable {X : Cx}
theorem vals_from : ∀ (k : Nat) (zs : List Str), Vals (zs.map V.str) (strsFrom k zs)
  | _, [] => .nil
  | k, z :: zs => .cons ⟨_, rfl⟩ (vals_from (k + 1) zs)
def rSplit : V → List V → Hp → VK → Prop := fun x vs H Q => ∃ z y, x = .str z ∧ vs = [.str y] ∧ (y.length == 0) = false ∧ z.length ≤ sizeLine ∧ (Txt.split z y).length ≤ sizeLine ∧ ∀ p, H p = none → Q (.ref p) (upd H p (.lst ((Txt.split z y).map V.str)))
theorem lay_strs {pins : List (Addr × Obj)} {σ : St} {H : Hp} {s : Shared} {zs : List Str} {us : List Value} {k : Nat} {Q : VK} (I : Inv X pins σ H s) (hv : Vals (zs.map V.str) us) (hl : zs.length ≤ sizeLine) (q : ∀ p, H p = none → Q (.ref p) (upd H p (.lst (zs.map V.str)))) :
    EP X pins σ Q (.ref s.heap.objs.size) { s with heap := s.heap.push { cls := .type "list", data := .seq us.toArray }, toks := k } := by
  have hok : ObjOk X.prog X.w (upd H s.heap.objs.size (.lst (zs.map V.str))) (s.heap.push { cls := .type "list", data := .seq us.toArray }) s.heap.objs.size (.lst (zs.map V.str)) :=
    ⟨by rw [List.length_map]; exact hl, us, _, hv, Heap.get?_push_size _ rfl⟩
  exact ⟨.ref s.heap.objs.size, _, I.laid (t' := k) (fun b u q => Heap.get?_push_of_some _ q) (Nat.le_refl _) hok, rfl, q _ (I.hok.fresh (Nat.le_refl _))⟩
theorem mt_split : MtR X "str.split" rSplit := by
  intro pins s σ H x vs v us Q I rx rv h
  obtain ⟨z, y, rfl, rfl, hy, hz, hl, q⟩ := h
  obtain ⟨t, rfl⟩ := rx
  obtain ⟨u, rfl, ru⟩ := vals1 rv
  obtain ⟨t2, rfl⟩ := ru
  have slot := PySem.F.slot_str_split
  have go : ∀ {S : PySem.Spec}, Meets (Builtin.«str.split» { pos := [Value.str z t, Value.str y t2] }) S → S X.A (wants (EP X pins σ Q) X.xe) s → wpAny (model X.prog X.w) X.A (call (Value.builtin "str.split") [Value.str z t, Value.str y t2]) (EP X pins σ Q) X.xe s :=
    fun m hS => call_meets slot (typeIs_str _ _ _) PySem.F.entry_str_split (PySem.F.args_str_split_2 _ _) m hS
  have one : ∀ {us : List Value}, us = [Value.str z t] → Vals ([z].map V.str) us := fun e => by subst e; exact .cons ⟨_, rfl⟩ .nil
  by_cases c1 : (decide (z.length < y.length) || decide (Builtin.Str.strKind z < Builtin.Str.strKind y)) = true
  · have e : Txt.split z y = [z] := by unfold Txt.split; rw [if_pos c1]
    rw [e] at q
    exact go (meets_str_split_cannot_occur z y t t2 c1) (lay_strs (us := [Value.str z t]) I (one rfl) (show 1 ≤ sizeLine by decide) q)
  · by_cases c2 : (Builtin.Str.occurrences z y 0 z.length (z.length + 1)).isEmpty = true
    · have e : Txt.split z y = [z] := by unfold Txt.split; rw [if_neg c1, if_pos c2]
      rw [e] at q
      exact go (meets_str_split_not_found z y t t2 (Bool.eq_false_iff.mpr c1) hy c2) (lay_strs (us := [Value.str z t]) I (one rfl) (show 1 ≤ sizeLine by decide) q)
    · have e : Txt.split z y = Builtin.Str.partsBetween z (Builtin.Str.occurrences z y 0 z.length (z.length + 1)) y.length := by unfold Txt.split; rw [if_neg c1, if_neg c2]
      rw [e] at q hl
      exact go (meets_str_split_sep z y t t2 (Bool.eq_false_iff.mpr c1) hy (Bool.eq_false_iff.mpr c2) hz hl) (lay_strs I (vals_from _ _) hl q)
theorem call_intT : CallR X (.type "int") (fun xs H Q => ∃ (x : Str) (n : Int), xs = [.str x] ∧ intText? x = some n ∧ x.length ≤ 640 ∧ Q (.int n) H) := by
  intro pins s σ H xs us Q I r h
  obtain ⟨x, n, rfl, hx, hl, q⟩ := h
  obtain ⟨u, rfl, ru⟩ := vals1 r
  obtain ⟨t, rfl⟩ := ru
  exact PySem.W.KIN.call_text hx hl ⟨.int n, H, I.tok _, ⟨_, rfl⟩, q⟩
end
end L2
set_option Elab.async false
set_option linter.all false
set_option maxRecDepth 100000
set_option maxHeartbeats 4000000
namespace L2
open PySem PySem.Spec PyProof.Rows
section
variable {prog : Program} {w : World} {A : Around} {E : Value → Shared → Prop} {s : Shared}
theorem call_set_textsT {l : Addr} {items : Array Value} {xs : List Str} {Q : Value → Shared → Prop} (hh : A.handled = none) (hl : s.heap.IsTuple l items) (hi : StrsAre items.toList xs) (hb : items.size + 1 < scanBound)
    (h : ∀ (h' : Heap) (tk : Nat) es ep t, TxSet prog w h' s.heap.objs.size es ep t → (∀ y, y ∈ es.toList.map txOf ↔ y ∈ xs) →
      (∀ b o, s.heap.get? b = some o → h'.get? b = some o) → Q (.ref s.heap.objs.size) { s with heap := h', toks := tk }) :
    wpAny (model prog w) A (call (.type "set") [.ref l]) Q E s := by
  obtain ⟨c, tl, hmro⟩ := F.called_set.mro
  have hmade := F.called_set.made
  have hsub := F.called_set.sub
  refine wpAny_call (codeAny_of_tree ?_)
  show wpAny _ _ (callAny (.type "set") _) _ _ _
  refine wpAny_pure ⟨Code.quiet_builtin _ (by decide +kernel), codeAny_builtin F.entry_type_call ?_⟩
  rw [Around.under_plain (weight_type_call_type "set" [.ref l] []) rfl]
  have h1 := F.called_set.notType
  have h2 := F.called_set.canCreate
  have hct := F.typeCall_set_1 (.ref l)
  repeat (any_goals (first | assumption | wp_step))
  refine codeAny_mono (new_set (.ref l) (E := E) (Q₁ := fun obj s₁ => obj = .ref s.heap.objs.size ∧ s₁ = { s with heap := s.heap.push (freshSet w) }) ⟨rfl, rfl⟩) fun r s₁ hr => ?_
  cases r with
  | error e => exact hr
  | ok fl =>
    cases fl with
    | ret obj =>
      obtain ⟨rfl, rfl⟩ := hr
      have hS : (s.heap.push (freshSet w)).get? s.heap.objs.size = some (freshSet w) := Heap.get?_push_size _ rfl
      have hT : Shared.TypeIs { s with heap := s.heap.push (freshSet w) } (.ref s.heap.objs.size) "set" := ⟨_, hS, rfl⟩
      have hli := F.called_set.init.lookup
      have hbi := F.called_set.init.bind (.ref s.heap.objs.size)
      repeat (any_goals (first | assumption | wp_step))
      refine codeAny_mono (codeAny_call_builtin (R := wants (fun r s₂ => r = .none ∧ ∃ h' tk, s₂ = { s with heap := h', toks := tk } ∧ ∃ es ep t, TxSet prog w h' s.heap.objs.size es ep t ∧ (∀ y, y ∈ es.toList.map txOf ↔ y ∈ xs) ∧
          (∀ b o, s.heap.get? b = some o → h'.get? b = some o)) E) F.called_set.init.plain F.entry_set_init (check_set_init_1 hT ?_)) fun r₂ s₂ hr₂ => ?_
      · obtain ⟨ol, hol, hcl, nl, hdl⟩ := hl
        obtain ⟨ocls, odict, odata, oslots⟩ := ol
        simp only at hcl hdl
        subst hcl; subst hdl
        have hol' : (s.heap.push (freshSet w)).get? l = some { cls := .type "tuple", dict := odict, data := .seq items nl, slots := oslots } := Heap.get?_push_of_some _ hol
        have hsls := F.sub_tuple_set
        have hslf := F.sub_tuple_frozenset
        have hne : (Value.type "tuple" == Value.type "dict") = false := by decide
        have hl1 : (s.heap.push (freshSet w)).IsTuple l items := ⟨_, hol', rfl, nl, rfl⟩
        unfold Builtin.«set.__init__» noKeywords Builtin.Frozenset.updateFrom
        generalize hPI : pyIter = PI
        wp_walk
        subst hPI
        refine wpAny_pyIter_tuple hl1 ?_
        refine wpAny_bind (wpAny_runValue ?_)
        have hlS : l < s.heap.objs.size := Heap.lt_size hol
        have hh3 : A.in1.in1.in1.handled = none := by simp [hh]
        have hz : (s.heap.push (freshSet w)).objs.size = s.heap.objs.size + 1 := size_push' _ _
        have hneI : l ≠ (s.heap.push (freshSet w)).objs.size := by rw [hz]; exact Nat.ne_of_lt (Nat.lt_succ_of_lt hlS)
        have hSf : s.heap.objs.size ∉ [(s.heap.push (freshSet w)).objs.size, l] := by
          rw [hz]; simp only [List.mem_cons, List.mem_singleton, List.not_mem_nil, or_false, not_or]
          exact ⟨Nat.ne_of_lt (Nat.lt_succ_self _), Nat.ne_of_gt hlS⟩
        have hget : ((s.heap.push (freshSet w)).push { cls := .type "tuple_iterator", data := .fields #[.ref l, .int 0 0] }).get? s.heap.objs.size = some (freshSet w) := Heap.get?_push_of_some _ hS
        refine upd_loop ((Walks.tuple hh3 _ l hneI items).toS) s.heap.objs.size hSf xs (by rw [txs_len hi]; simp) (fun i v hv => txs_at hi i v (by rw [Array.getElem?_toList]; exact hv)) hb (items.size - 0) 0 _ #[] 0 (.fresh 0 0 (!byTx w)) (by omega) (Nat.zero_le _)
          ⟨⟨_, Heap.get?_push_size _ rfl, rfl, rfl⟩, (hl1.push _)⟩ ⟨hget, fun e he => by simp at he, by rfl, by decide, fun z => absurd rfl z, rfl, by simp⟩ (fun y => by simp) (by simp) ?hR
        intro s' es' ep' t' hm S' hm'
        obtain ⟨h', g', d', tk', os'⟩ := s'
        have eg : g' = s.gens := hm.gens
        have ed : d' = s.drawn := hm.drawn
        have eo : os' = s.os := hm.os
        subst eg; subst ed; subst eo
        show wpAny _ _ _ _ _ _
        refine wpAny_pure ?_
        show wpAny _ _ (ret Value.none) _ _ _
        refine wpAny_pure ⟨rfl, h', tk', rfl, es', ep', t', S', hm', fun b o e => ?_⟩
        have hb0 := Heap.lt_size e
        exact hm.heap b o (by simp only [List.mem_cons, List.mem_singleton, List.not_mem_nil, or_false, not_or]; exact ⟨Nat.ne_of_lt hb0, by rw [hz]; exact Nat.ne_of_lt (Nat.lt_succ_of_lt hb0)⟩) (Heap.get?_push_of_some _ (Heap.get?_push_of_some _ e))
      · cases r₂ with
        | error e => exact hr₂
        | ok fl₂ =>
          cases fl₂ with
          | ret r =>
            obtain ⟨rfl, h', tk, rfl, es', ep', t', S', hm', hk'⟩ := hr₂
            repeat (any_goals (first | assumption | wp_step))
            exact h _ _ _ _ _ S' hm' hk'
          | _ => exact hr₂.elim
    | _ => exact hr.elim
end
section
variable {X : Cx}
theorem call_setTT (hc : X.calm = true) : CallR X (.type "set") (fun xs H Q => ∃ (p : Addr) (ts : List Str), xs = [.ref p] ∧ (SqL X.K H p (ts.map V.str) ∨ SqT X.K H p (ts.map V.str)) ∧ ts.length + 1 < scanBound ∧ ∀ q, H q = none → Q (.ref q) (upd H q (setO X.prog X.w q ts))) := by
  intro pins s σ H xs us Q I r h
  obtain ⟨p, ts, rfl, hq | hq, hb, q⟩ := h
  · exact call_setT hc pins s σ H _ us Q I r ⟨p, ts, rfl, hq, hb, q⟩
  · obtain ⟨u, rfl, ru⟩ := vals1 r
    cases ru
    obtain ⟨its, rv, pl, hz⟩ := I.tuple hq
    have hS := strs_vals rv
    have hl := txs_len hS
    refine call_set_textsT (I.ok.hd hc) (show s.heap.IsTuple p its.toArray from pl) (xs := ts) (by simpa using hS) (by rw [List.size_toArray, ← hl]; exact hb) fun h' tk es ep t S m k => ?_
    have hf := I.hok.fresh (Nat.le_refl s.heap.objs.size)
    exact ⟨.ref s.heap.objs.size, _, I.laid k (Nat.le_refl _) (setO_ok S m), rfl, q _ hf⟩
theorem call_lenS : CallR X (.builtin "len") (fun xs H Q => ∃ (p : Addr) (ts : List Str), xs = [.ref p] ∧ H p = some (setO X.prog X.w p ts) ∧ ∀ ys : List Str, ys.Nodup → (∀ y, y ∈ ys ↔ y ∈ ts) → Q (.int (ys.length : Int)) H) := by
  intro pins s σ H xs us Q I r h
  obtain ⟨p, ts, rfl, hp, q⟩ := h
  obtain ⟨u, rfl, ru⟩ := vals1 r
  cases ru
  obtain ⟨⟨es, ep, t, S, m⟩, _, _⟩ := I.hok p _ hp
  have hb := S.bnd
  have hs : scanBound = 4096 := rfl
  refine call_len_set S.get ?_ rfl S.fit (by omega) ⟨.int (es.size : Int), H, I.tok _, ⟨_, rfl⟩, ?_⟩
  · exact ⟨rfl, rfl, rfl⟩
  · have := q (es.toList.map txOf) S.nod m
    rw [List.length_map, Array.length_toList] at this
    exact this
end
end L2
set_option Elab.async false
set_option linter.all false
set_option maxRecDepth 100000
set_option maxHeartbeats 4000000
namespace L2
open PySem PySem.Spec PyProof.Rows
section
variable {X : Cx} {st : Stmt} {rest : List Stmt} {t u : TS} {pos : Pos}
theorem tokm {α : Type} {t : Sem α} {Q : α → Shared → Prop} {M : Model} {A : Around} {E : Value → Shared → Prop} {s : Shared} (h1 : 1 ≤ s.toks) (h : wpAny M A t (fun a s' => 1 ≤ s'.toks → Q a s') E s) : wpAny M A t Q E s :=
  thn (tok1 h1 h) fun _ _ z => z.2 z.1
def PE1 (X : Cx) (e : Expr) (t : TE) : Prop :=
  ∀ (pins : List (Addr × Obj)) (s : Shared) (σ : St) (H : Hp) (Q : VK), 1 ≤ s.toks → Inv X pins σ H s → t σ H Q → wpAny (model X.prog X.w) X.A (eval e X.env) (EP X pins σ Q) X.xe s
def PA1 (X : Cx) (es : List Expr) (t : TA) : Prop :=
  ∀ (pos : Pos) (pins : List (Addr × Obj)) (s : Shared) (σ : St) (H : Hp) (Q : List V → Hp → Prop), 1 ≤ s.toks → Inv X pins σ H s → t σ H Q → wpAny (model X.prog X.w) X.A (spliced (backTo pos (starEach es X.env))) (AP X pins σ Q) X.xe s
def PS1 (X : Cx) (st : Stmt) (t : TS) : Prop :=
  ∀ (pins : List (Addr × Obj)) (s : Shared) (σ : St) (H : Hp) (D : Ends), 1 ≤ s.toks → Inv X pins σ H s → t D σ H → wpAny (model X.prog X.w) X.A (exec st X.env) (SP X pins D) X.xe s
def PSs1 (X : Cx) (st : List Stmt) (t : TS) : Prop :=
  ∀ (pins : List (Addr × Obj)) (s : Shared) (σ : St) (H : Hp) (D : Ends), 1 ≤ s.toks → Inv X pins σ H s → t D σ H → wpAny (model X.prog X.w) X.A (execs st X.env) (SP X pins D) X.xe s
def PSp (X : Cx) (st : Stmt) (t : TS) : Prop :=
  ∀ (pins : List (Addr × Obj)) (s : Shared) (σ : St) (H : Hp) (D : Ends), Inv X pins σ H s → t D σ H → wpAny (model X.prog X.w) X.A (exec st X.env) (fun f s' => 1 ≤ s'.toks ∧ SP X pins D f s') X.xe s
theorem PE.one {e : Expr} {t : TE} (h : PE X e t) : PE1 X e t := fun pins s σ H Q _ I q => h pins s σ H Q I q
theorem PA.one {es : List Expr} {t : TA} (h : PA X es t) : PA1 X es t := fun pos pins s σ H Q _ I q => h pos pins s σ H Q I q
theorem PS.one (h : PS X st t) : PS1 X st t := fun pins s σ H D _ I q => h pins s σ H D I q
theorem pss1_cons (h1 : PS1 X st t) (h2 : PSs1 X rest u) : PSs1 X (st :: rest) (tSeq t u) := by
  intro pins s σ H D k I h
  refine wpAny_execs_cons (thn (tok1 k (h1 pins s σ H { D with nx := u D } k I h)) fun f s1 q => ?_)
  obtain ⟨k1, q⟩ := q
  cases f with
  | next =>
    obtain ⟨σ', H', I', q⟩ := q
    exact h2 pins s1 σ' H' D k1 I' q
  | ret v => exact q
  | brk => exact q
  | cont => exact q
theorem pssp_cons (h1 : PSp X st t) (h2 : PSs1 X rest u) : PSs X (st :: rest) (tSeq t u) := by
  intro pins s σ H D I h
  refine wpAny_execs_cons (thn (h1 pins s σ H { D with nx := u D } I h) fun f s1 q => ?_)
  obtain ⟨k1, q⟩ := q
  cases f with
  | next =>
    obtain ⟨σ', H', I', q⟩ := q
    exact h2 pins s1 σ' H' D k1 I' q
  | ret v => exact q
  | brk => exact q
  | cont => exact q
theorem pss1_one (h1 : PS1 X st t) : PSs1 X [st] t := by
  intro pins s σ H D k I h
  refine wpAny_execs_cons (thn (h1 pins s σ H D k I h) fun f s1 q => ?_)
  cases f with
  | next => exact wpAny_execs_nil q
  | ret v => exact q
  | brk => exact q
  | cont => exact q
theorem ps1_ret {e : Expr} {te : TE} (he : PE1 X e te) : PS1 X (.Return (some e) pos) (tRet te) := by
  intro pins s σ H D k I h
  exact wpAny_Return_some (thn (he pins s σ H _ k I h) fun v s1 ⟨x, H1, I1, r1, q1⟩ => ⟨x, σ, H1, I1, r1, q1⟩)
theorem ps1_set {i : Nat} {x : Str} {e : Expr} {te : TE} {pos' : Pos} (hN : X.N.Nodup) (hi : X.N[i]? = some x) (hx : Loc X.env.scope x) (he : PE1 X e te) (hs : swapsWith e (some (.Name x pos')) pos.line X.env = pure false := by rfl) (hf : X.fn x = true ∨ X.env.scope.names.lookup x = some .local := by first | exact .inl rfl | exact .inr rfl | assumption) :
    PS1 X (.Assign [.Name x pos'] e pos) (tAsg te (gName i)) := by
  intro pins s σ H D k I h
  refine wpAny_Assign_Name (thn (he pins s σ H _ k I h) fun v s1 ⟨y, H1, I1, r1, q1⟩ => ?_) hs
  exact store_ok I1 hN hi hx r1 (fun s2 I2 => ⟨_, H1, I2, q1⟩) hf
theorem pa1_cons {e : Expr} {es : List Expr} {te : TE} {t : TA} (ha : PE1 X e te) (hr : PA X es t) (hs : starEach (e :: es) X.env = (false, eval e X.env) :: starEach es X.env := by rfl) : PA1 X (e :: es) (tCons te t) := by
  intro pos pins s σ H Q k I h
  rw [hs]
  show wpAny _ _ (spliced ((false, eval e X.env) :: backTo pos (starEach es X.env))) _ _ s
  refine Calls.spliced_cons (thn (ha pins s σ H _ k I h) fun u s1 ⟨x, H1, I1, r1, q1⟩ => ?_)
  exact thn (hr pos pins s1 σ H1 _ I1 q1) fun us s2 ⟨xs, H2, I2, r2, q2⟩ => ⟨x :: xs, H2, I2, .cons r1 r2, q2⟩
theorem pe1_cmpR {a b : Expr} {ta tb : TE} {op : CmpOp} {r : R2} (ho : OpR X (compareOp op) r) (ha : PE1 X a ta) (hb : PE X b tb) (hm : behindInMarks op b = false) : PE1 X (.Compare a [op] [b] pos) (tOp r ta tb) := by
  intro pins s σ H Q k I h
  refine wpAny_Compare1 (thn (ha pins s σ H _ k I h) fun v s1 ⟨x, H1, I1, r1, q1⟩ => ?_) hm
  refine thn (hb pins s1 σ H1 _ I1 q1) fun u s2 ⟨y, H2, I2, r2, q2⟩ => ?_
  exact ho pins s2 σ H2 x y v u Q I2 r1 r2 q2
theorem pe1_replace {o : Expr} {to : TE} {apos cpos : Pos} {z y : Str} {k1 k2 : Nat} {lp1 lp2 : Pos} (ho : PE1 X o to) (hyz : (y == z) = false) (hz : z.length ≤ 14)
    (hbase : attributeBase o "replace" X.env (eval o X.env) = eval o X.env := by rfl)
    (hfew : ((backTo cpos (starEach [.Constant (.str y) k1 lp1, .Constant (.str z) k2 lp2] X.env)).all (fun x => !x.1) && (backToKw cpos (keywordEach [] X.env)).all (fun x => x.1.isSome)
      && decide ([Expr.Constant (.str y) k1 lp1, .Constant (.str z) k2 lp2].length + ([] : List Keyword).length + (if ([] : List Keyword).isEmpty then 0 else 1) < 30)) = true := by rfl)
    (hline : (apos.endLine == cpos.line) = true := by rfl)
    (hs : starEach [.Constant (.str y) k1 lp1, .Constant (.str z) k2 lp2] X.env = [(false, eval (.Constant (.str y) k1 lp1) X.env), (false, eval (.Constant (.str z) k2 lp2) X.env)] := by rfl) :
    PE1 X (.Call (.Attribute o "replace" apos) [.Constant (.str y) k1 lp1, .Constant (.str z) k2 lp2] [] cpos) (fun σ H Q => to σ H fun x H1 => ∃ u, x = .str u ∧ u.length ≤ 1048576 ∧ Q (.str (Txt.replace u y z)) H1) := by
  intro pins s σ H Q k I h
  refine wpAny_Call_method_late hbase hfew hline rfl (thn (tok1 k (ho pins s σ H _ k I h)) fun v s1 ⟨h1, x, H1, I1, r1, q1⟩ => ?_)
  obtain ⟨u, rfl, hu, q⟩ := q1
  obtain ⟨t0, rfl⟩ := r1
  refine ⟨"str", "str.replace", PySem.F.plainAttrs_str, PySem.F.slot_str_replace, PySem.F.type_str_replace, typeIs_str _ _ _, (fun _ q => nomatch q), ?_⟩
  rw [hs]
  refine Calls.callWith_builtin (by rfl) (Calls.evalArgs_plain ?_)
  show wpAny _ _ (spliced ((false, eval (.Constant (.str y) k1 lp1) X.env) :: [(false, _)])) _ _ s1
  refine Calls.spliced_cons (Calls.Constant_str ?_)
  refine Calls.spliced_cons (Calls.Constant_str (k := k2) (pos := lp2) ?_)
  refine Calls.spliced_nil ?_
  refine SC.replaceW (by show s1.toks ≠ 0; omega) (by show s1.toks + 1 ≠ 0; omega) (by show s1.toks ≠ s1.toks + 1; omega) hyz hu hz fun t' k' => ?_
  exact ⟨.str _, H1, I1.tok k', ⟨_, rfl⟩, q⟩
end
structure FnOk1 (P : Program) (w : World) (K : PySem.W.Frag) (mg : Str → Option Value) (base : Heap) (k : Nat) (f : Addr) (fd : FuncData) (ps : List Str) (sp : Sp) : Prop where
  len : ∀ vs H Q E, sp vs H Q E → vs.length = ps.length
  run : ∀ (A : Around) (outer : List Env) (s : Shared) (H : Hp) (args : Args) (us : List Value) (vs : List V) (Q : VK) (E : XK), 1 ≤ s.toks → Room k A → Env0 P w K mg base A outer s H → BindsTo s fd args (ps.zip us) → Vals vs us → sp vs H Q E →
    codeAny (model P w) A (.call (.ref f) args) (CR CX0 outer P w H s Q E) s
theorem FnOk.one {P : Program} {w : World} {K : PySem.W.Frag} {mg : Str → Option Value} {base : Heap} {k : Nat} {f : Addr} {fd : FuncData} {ps : List Str} {sp : Sp} (F : FnOk P w K mg base CX0 k f fd ps sp) : FnOk1 P w K mg base k f fd ps sp :=
  ⟨F.len, fun A outer s H args us vs Q E _ => F.run A outer s H args us vs Q E⟩
section
variable {X : Cx} {k : Nat} {f : Addr} {fd : FuncData} {ps : List Str} {sp : Sp} {x : Str} {p pos : Pos} {e : Expr} {es : List Expr} {t : TA}
theorem run_fn1 {pins : List (Addr × Obj)} {σ : St} {H : Hp} {s : Shared} {Q : VK} {us : List Value} {vs : List V} (F : FnOk1 X.prog X.w X.K X.mg X.base k f fd ps sp) (hr : Room k X.A) (hb : Binds X.K fd ps []) (h1 : 1 ≤ s.toks)
    (I : Inv X pins σ H s) (r : Vals vs us) (h : sp (vs ++ []) H Q E0) : wpAny (model X.prog X.w) X.A (call (.ref f) us) (EP X pins σ Q) X.xe s := by
  have r2 : Vals (vs ++ []) (us ++ []) := r.append .nil
  have hl : (us ++ []).length = ps.length := by rw [← r2.length]; exact F.len _ _ _ _ h
  refine wpAny_call (codeAny_mono (F.run X.A X.stack s H ⟨us, []⟩ (us ++ []) (vs ++ []) Q E0 h1 hr I.env0 (hb s us I.kIn hl) r2 h) fun r s' hq => ?_)
  cases r with
  | error e => exact (pass0 : Passes CX0 X E0) pins σ H s e s' I hq
  | ok fl =>
    cases fl with
    | ret u => exact I.after hq
    | next => exact False.elim hq
    | brk => exact False.elim hq
    | cont => exact False.elim hq
structure Ca1 (P : Program) (w : World) (K : PySem.W.Frag) (mg : Str → Option Value) (base : Heap) (k : Nat) (x : Str) (ps : List Str) (sp : Sp) : Prop where
  ex : ∃ (f : Addr) (fd : FuncData), FnOk1 P w K mg base k f fd ps sp ∧ Binds K fd ps [] ∧ PySem.W.keepIn K (.ref f) = true ∧ mg x = some (.ref f)
theorem Ca.one {P : Program} {w : World} {K : PySem.W.Frag} {mg : Str → Option Value} {base : Heap} (C : Ca P w K mg base k x ps sp) : Ca1 P w K mg base k x ps sp := by
  obtain ⟨f, fd, F, r⟩ := C.ex
  exact ⟨f, fd, F.one, r⟩
theorem pe1_ca (C : Ca1 X.prog X.w X.K X.mg X.base k x ps sp) (hr : Room k X.A) (hg : Gl X x) (ha : PA1 X (e :: es) t)
    (hdb : (x == ("__debug__" : Str)) = false := by decide) (he : starEach (e :: es) X.env = (false, eval e X.env) :: starEach es X.env := by rfl) (hpl : (backTo pos (starEach es X.env)).any (·.1) = false := by rfl) :
    PE1 X (.Call (.Name x p) (e :: es) [] pos) (tCall sp [] E0 t) := by
  obtain ⟨f, fd, F, B, kp, m⟩ := C.ex
  intro pins s σ H Q h1 I h
  refine wpAny_Call_Name_kw (ld_glob I hg m ?_ hdb)
  refine PySem.W.callWith_K (h₀ := X.base) I.ok.mod.kin kp (thn (tok1 h1 (ha pos pins s σ H _ h1 I h)) fun us s1 ⟨k1, vs, H1, I1, r, q⟩ => ⟨I1.kIn, ?_⟩) he hpl
  exact run_fn1 F hr B k1 I1 r q
end
theorem fn_of1 {P : Program} {w : World} {K : PySem.W.Frag} {mg : Str → Option Value} {base : Heap} {k : Nat} {f : Addr} {name qual : Str} {params : Arguments} {body : List Stmt} {scope : Scope} {dV kV doc pm cdv ct oc : Value} {an od : Option Addr}
    {osl : Array (Option Value)} {N ps : List Str} {sp : Sp} (lk : K.lookup f = some ⟨oc, od, .func (PySem.W.fnOf name qual params body scope dV kV doc pm an cdv ct), osl⟩) (hcd : PySem.W.codeIn K cdv qual = true) (S : FnScope N ps scope)
    (len : ∀ vs H Q E, sp vs H Q E → vs.length = ps.length)
    (hbody : ∀ (A : Around) (outer : List Env) (s : Shared) (H : Hp) (vs : List V) (Q : VK) (E : XK), Room k (A.deeper (envOfC qual scope s.heap.objs.size f cdv)) → sp vs H Q E →
      ∃ t, PSs1 (cxOf CX0 P w K mg base N qual scope f cdv A outer s H E) body t ∧ t { nx := fun _ H' => Q .non H', rt := Q } (start N vs) H) :
    FnOk1 P w K mg base (k + 1) f (PySem.W.fnOf name qual params body scope dV kV doc pm an cdv ct) ps sp := by
  refine ⟨len, fun A outer s H args us vs Q E h1 hr e0 hb r hsp => ?_⟩
  have hl := len _ _ _ _ hsp
  have KX : K.In s.heap := e0.mod.kin.keeps fun b o e => (e0.bs b o e).1
  have lim : s.heap.NoLimit := e0.mod.nolimit.keeps fun b o e => (e0.bs b o e).1
  have hkind : ∀ y ∈ ps.zip us, scope.names.lookup y.1 = some .local ∨ (scope.names.lookup y.1 = some .cell ∧ ((cellsFrom (s.heap.objs.size + 1) scope.names []).lookup y.1).isSome = true) := fun ⟨n, v⟩ hy => by
    rcases S.par n (List.of_mem_zip hy).1 with q | q
    · exact .inl q
    · exact .inr ⟨q, PySem.W.cellsFrom_some _ _ _ (.inl q)⟩
  refine codeAny_call_function hr.depth (KX _ _ lk) rfl S.co S.gen rfl (PySem.W.codeRec_of KX hcd) (hb _ _ _ _ ?_)
  refine tokm h1 (wpAny_newFunctionEnv_cells S.kind hkind fun env he s1 x k1 => ?_)
  subst he
  refine ⟨lim.keeps x.toInCall.keep, codeAny_func ?_⟩
  obtain ⟨t, ht, hq⟩ := hbody A outer s H vs Q E (hr.deeper _) hsp
  have I : Inv (cxOf CX0 P w K mg base N qual scope f cdv A outer s H E) [] (start N vs) H s1 := inv_start S hr.hd e0 hl r x
  refine wpAny_mono (ht [] s1 (start N vs) H _ k1 I hq) (fun fl s' hs => ?_) fun e s' hs => hs
  have fin : ∀ {σ' : St} {H' : Hp} {v : V} {u : Value}, Inv (cxOf CX0 P w K mg base N qual scope f cdv A outer s H E) [] σ' H' s' → RelV v u → Q v H' → CE outer P w H s Q u s' :=
    fun {σ' H' v u} J rv q => ⟨v, H', J.os, J.bare, J.base, J.hok, rv, q⟩
  cases fl with
  | ret u =>
    obtain ⟨v, σ', H', J, rv, q⟩ := hs
    exact fin J rv q
  | next =>
    obtain ⟨σ', H', J, q⟩ := hs
    exact fin (v := V.non) (u := Value.none) J rfl q
  | brk =>
    obtain ⟨_, _, _, q⟩ := hs
    exact False.elim q
  | cont =>
    obtain ⟨_, _, _, q⟩ := hs
    exact False.elim q
theorem PSs1.nox {X : Cx} {st : List Stmt} {t : TS} (h : PSs1 X.nox st t) : PSs1 X st t := fun pins s σ H D k I hw =>
  wpAny_mono (h pins s σ H D k (I.wish _) hw) (fun f s' q => q.unwish) fun _ _ z => z.elim
section
variable {P : Program} {w : World} {K : PySem.W.Frag} {mg : Str → Option Value} {base : Heap}
theorem Fun.ok1 {x qual : Str} {st : Stmt} {f : Addr} {fd : FuncData} {N ps : List Str} {k : Nat} {sp : Sp} (F : Fun K x qual st f fd) (S : FnScope N ps (defScope st)) (len : ∀ vs H Q E, sp vs H Q E → vs.length = ps.length)
    (hbody : ∀ (cdv : Value) (A : Around) (outer : List Env) (s : Shared) (H : Hp) (vs : List V) (Q : VK) (E : XK), Room k (A.deeper (envOfC qual (defScope st) s.heap.objs.size f cdv)) → sp vs H Q E →
      ∃ t, PSs1 (cxOf CX0 P w K mg base N qual (defScope st) f cdv A outer s H E).nox (defBody st) t ∧ t { nx := fun _ H' => Q .non H', rt := Q } (start N vs) H) : FnOk1 P w K mg base (k + 1) f fd ps sp := by
  obtain ⟨oc, od, kV, doc, pm, an, cdv, ct, osl, rfl, lk, hcd⟩ := F.ex
  refine fn_of1 lk hcd S len fun A outer s H vs Q E hr hsp => ?_
  obtain ⟨t, h, q⟩ := hbody cdv A outer s H vs Q E hr hsp
  exact ⟨t, h.nox, q⟩
end
end L2
set_option Elab.async false
set_option linter.all false
set_option maxRecDepth 100000
set_option maxHeartbeats 4000000
namespace L2
open PySem PySem.Spec PyProof.Rows
section
variable {X : Cx} {pos p : Pos} {e : Expr} {es : List Expr} {te : TE} {t : TA}
def PAn (X : Cx) (es : List Expr) (t : TA) : Prop :=
  ∀ (pos : Pos) (pins : List (Addr × Obj)) (s : Shared) (σ : St) (H : Hp) (Q : List V → Hp → Prop), Inv X pins σ H s → t σ H Q → wpAny (model X.prog X.w) X.A (spliced (backTo pos (starEach es X.env))) (fun us s' => 1 ≤ s'.toks ∧ AP X pins σ Q us s') X.xe s
theorem pan_int {i : Int} {j : Nat} {lp : Pos} (hr : PA X es t) (hs : starEach (.Constant (.int i) j lp :: es) X.env = (false, eval (.Constant (.int i) j lp) X.env) :: starEach es X.env := by rfl) : PAn X (.Constant (.int i) j lp :: es) (tCons (tC (.int i)) t) := by
  intro pos pins s σ H Q I h
  rw [hs]
  show wpAny _ _ (spliced ((false, eval (.Constant (.int i) j lp) X.env) :: backTo pos (starEach es X.env))) _ _ s
  refine Calls.spliced_cons (wpAny_Constant_int ?_)
  refine tokm (s := { s with toks := s.toks + 1 }) (Nat.le_add_left _ _) ?_
  exact thn (hr pos pins _ σ H _ (I.tok _) h) fun us s2 ⟨xs, H2, I2, r2, q2⟩ k => ⟨k, .int i :: xs, H2, I2, .cons ⟨_, rfl⟩ r2, q2⟩
theorem pan_cons (ha : PE X e te) (hr : PAn X es t) (hs : starEach (e :: es) X.env = (false, eval e X.env) :: starEach es X.env := by rfl) : PAn X (e :: es) (tCons te t) := by
  intro pos pins s σ H Q I h
  rw [hs]
  show wpAny _ _ (spliced ((false, eval e X.env) :: backTo pos (starEach es X.env))) _ _ s
  refine Calls.spliced_cons (thn (ha pins s σ H _ I h) fun u s1 ⟨x, H1, I1, r1, q1⟩ => ?_)
  exact thn (hr pos pins s1 σ H1 _ I1 q1) fun us s2 ⟨k, xs, H2, I2, r2, q2⟩ => ⟨k, x :: xs, H2, I2, .cons r1 r2, q2⟩
theorem psp_call {k i : Nat} {x y : Str} {ps : List Str} {sp : Sp} {pos' apos : Pos} (C : Ca X.prog X.w X.K X.mg X.base k x ps sp) (hr : Room k X.A) (hg : Gl X x) (ha : PAn X (e :: es) t) (hN : X.N.Nodup) (hi : X.N[i]? = some y) (hx : Loc X.env.scope y)
    (hdb : (x == ("__debug__" : Str)) = false := by decide) (he : starEach (e :: es) X.env = (false, eval e X.env) :: starEach es X.env := by rfl) (hpl : (backTo pos (starEach es X.env)).any (·.1) = false := by rfl)
    (hs : swapsWith (.Call (.Name x p) (e :: es) [] pos) (some (.Name y pos')) apos.line X.env = pure false := by rfl) (hf : X.fn y = true ∨ X.env.scope.names.lookup y = some .local := by first | exact .inl rfl | exact .inr rfl | assumption) :
    PSp X (.Assign [.Name y pos'] (.Call (.Name x p) (e :: es) [] pos) apos) (tAsg (tCall sp [] E0 t) (gName i)) := by
  obtain ⟨f, fd, F, B, kp, m⟩ := C.one.ex
  intro pins s σ H D I h
  refine wpAny_Assign_Name (wpAny_Call_Name_kw (ld_glob I hg m ?_ hdb)) hs
  refine PySem.W.callWith_K (h₀ := X.base) I.ok.mod.kin kp (thn (ha pos pins s σ H _ I h) fun us s1 ⟨k1, vs, H1, I1, r, q⟩ => ⟨I1.kIn, ?_⟩) he hpl
  refine thn (tok1 k1 (run_fn1 F hr B k1 I1 r q)) fun v s2 ⟨k2, y', H2, I2, r2, q2⟩ => ?_
  exact tok1 k2 (store_ok I2 hN hi hx r2 (fun s3 I3 => ⟨_, H2, I3, q2⟩) hf)
theorem pe1_and {a b : Expr} {rest : List Expr} {ta tb : TE} (ha : PE1 X a ta) (hb : PE1 X (.BoolOp .And (b :: rest) pos) tb) : PE1 X (.BoolOp .And (a :: b :: rest) pos) (tAndV ta tb) := by
  intro pins s σ H Q k I h
  refine BoolOp_and (thn (tok1 k (ha pins s σ H _ k I h)) fun v s1 ⟨k1, x, H1, I1, r1, q1⟩ => ?_)
  obtain ⟨c, rfl, q1⟩ := q1
  cases r1
  refine wpAny_truthy_bool ?_
  cases c with
  | true => exact hb pins s1 σ H1 Q k1 I1 q1
  | false => exact ⟨.bl false, H1, I1, rfl, q1⟩
theorem pe1_last {op : BoolOp} {a : Expr} {ta : TE} (ha : PE1 X a ta) : PE1 X (.BoolOp op [a] pos) ta := by
  intro pins s σ H Q k I h
  exact BoolOp_one (ha pins s σ H Q k I h)
end
end L2
set_option Elab.async false
set_option linter.all false
set_option maxRecDepth 100000
set_option maxHeartbeats 4000000
namespace L2
open PySem PySem.Spec PyProof.Rows
def Ents (P : Params) : List DictEntry → List (Str × Int) → Prop
  | [], [] => True
  | e :: l, (x, i) :: r => ((∃ t, e.key = .str x t) ∧ e.hash = PyData.keyHash P x ∧ ∃ t, e.val = .int i t) ∧ Ents P l r
  | _, _ => False
theorem Ents.lit {P : Params} : ∀ {l : List DictEntry} {r : List (Str × Int)}, Ents P l r → PySem.W.KeysLit P l
  | [], [], _ => trivial
  | e :: l, (x, i) :: r, h => ⟨let ⟨t, e1⟩ := h.1.1; ⟨x, t, e1, h.1.2.1⟩, Ents.lit h.2⟩
  | [], _ :: _, h => h.elim
  | _ :: _, [], h => h.elim
theorem Ents.look {P : Params} {z : Str} : ∀ {l : List DictEntry} {r : List (Str × Int)}, Ents P l r →
    (∀ i, r.lookup z = some i → ∃ t, (l.find? fun d => Value.isStrOf z d.key).map (·.val) = some (.int i t)) ∧ (r.lookup z = none → (l.find? fun d => Value.isStrOf z d.key).map (·.val) = none)
  | [], [], _ => ⟨fun i h => by simp at h, fun _ => rfl⟩
  | e :: l, (x, i) :: r, h => by
    obtain ⟨⟨⟨t, e1⟩, _, ⟨u, e2⟩⟩, h2⟩ := h
    by_cases c : z = x
    · subst c
      have hk : Value.isStrOf z e.key = true := by rw [e1]; simp [Value.isStrOf]
      rw [List.find?_cons_of_pos (p := fun d : DictEntry => Value.isStrOf z d.key) (a := e) hk]
      have hb : (z == z) = true := beq_self_eq_true z
      simp only [List.lookup, hb]
      refine ⟨fun j hj => ?_, fun hj => by cases hj⟩
      cases hj
      exact ⟨u, by rw [← e2]; rfl⟩
    · have hk : ¬ Value.isStrOf z e.key = true := by
        rw [e1]
        intro hh
        obtain ⟨t', hv⟩ := Value.isStrOf_shape hh
        cases hv
        exact c rfl
      rw [List.find?_cons_of_neg (p := fun d : DictEntry => Value.isStrOf z d.key) (a := e) hk]
      have hb : (z == x) = false := beq_eq_false_iff_ne.mpr c
      simp only [List.lookup, hb]
      exact Ents.look h2
  | [], _ :: _, h => h.elim
  | _ :: _, [], h => h.elim
structure GDk (w : World) (K : PySem.W.Frag) (mg : Str → Option Value) (x : Str) (kvs : List (Str × Int)) : Prop where
  ex : ∃ (a : Addr) (es : Array DictEntry) (n : Nat), mg x = some (.ref a) ∧ (a == sysModules) = false ∧ K.lookup a = some ⟨.type "dict", none, .dict es n, #[]⟩ ∧ Ents w.params es.toList kvs
def gcV (kvs : List (Str × Int)) (z : Str) : V := match kvs.lookup z with | some i => .int i | none => .non
theorem pe_gcget {X : Cx} {x : Str} {e : Expr} {ty : TE} {p apos cpos : Pos} {kvs : List (Str × Int)} (hg : Gl X x) (G : GDk X.w X.K X.mg x kvs) (he : PE X e ty) (m : M1 X (.Name x p) "get" apos e cpos) (hdb : (x == ("__debug__" : Str)) = false := by decide) :
    PE X (.Call (.Attribute (.Name x p) "get" apos) [e] [] cpos) (fun σ H Q => ty σ H fun y H1 => ∃ z, y = .str z ∧ Q (gcV kvs z) H1) := by
  obtain ⟨a, es, n, hm, lo, hl, hE⟩ := G.ex
  intro pins s σ H Q I h
  refine wpAny_Call_method m.base m.few m.line PySem.F.plainAttrs_dict PySem.F.slot_dict_get PySem.F.type_dict_get (ld_glob I hg hm ?_ hdb)
  have hmap : ∀ {s2 : Shared} {H2 : Hp}, Inv X pins σ H2 s2 → s2.heap.MapOf (PySem.strKind X.prog X.w) a (fun k => PySem.findBy Value.isStrOf es k) := fun {s2 H2} I2 => PySem.W.mapOf_K I2.kIn hl hE.lit
  refine ⟨(hmap I).typeIs, fun b q => ?_, ?_⟩
  · cases q
    exact ⟨_, I.kIn _ _ hl, rfl⟩
  rw [m.trees]
  refine Calls.callWith_builtin rfl (Calls.evalArgs_plain (Calls.spliced_cons (thn (he pins s σ H _ I h) fun iv s2 ⟨y, H2, I2, ry, z, ey, q2⟩ => Calls.spliced_nil ?_)))
  subst ey
  obtain ⟨tk, rfl⟩ := ry
  refine call_meetsIn PySem.F.slot_dict_get (hmap I2).typeIs PySem.F.entry_dict_get (PySem.F.args_dict_get_2 _ _) (meets_dict_get (PySem.strKind X.prog X.w) a (k := z) (by show Value.isStrOf z (Value.str z tk) = true; simp [Value.isStrOf]) lo) ⟨_, hmap I2, ?_⟩
  refine ⟨gcV kvs z, H2, I2.tok _, ?_, q2⟩
  have hf : PySem.findBy Value.isStrOf es z = (es.toList.find? fun d => Value.isStrOf z d.key).map (·.val) := by
    obtain ⟨l⟩ := es
    unfold PySem.findBy
    rw [List.find?_toArray]
  show RelV (gcV kvs z) ((PySem.findBy Value.isStrOf es z).getD .none)
  rw [hf]
  unfold gcV
  cases hk : kvs.lookup z with
  | some i =>
    obtain ⟨t, e1⟩ := hE.look.1 i hk
    rw [e1]
    exact ⟨t, rfl⟩
  | none =>
    rw [hE.look.2 hk]
    rfl
end L2
set_option Elab.async false
set_option linter.all false
set_option maxRecDepth 100000
set_option maxHeartbeats 4000000
namespace WL
open PySem PySem.Spec PyProof.Rows L2
inductive T where
  | non | bl (b : Bool) | int (i : Int) | str (x : Str) | tup (xs : List T)
    | ref (a : Addr)
    | cl (xs : List T)
inductive O where
  | lst (xs : List T)
  | dic (kvs : List (Key × T))
  | ins (cn : Str) (fs : List (Str × T))
    | fdic (kvs : List (Key × T))
abbrev Hw := Addr → Option O
def up (C : Hw) (a : Addr) (o : O) : Hw := fun b => if b = a then some o else C b
theorem up_same {C : Hw} {a : Addr} {o : O} : up C a o a = some o := by unfold up; rw [if_pos rfl]
theorem up_ne {C : Hw} {a b : Addr} {o : O} (h : b ≠ a) : up C a o b = C b := by unfold up; rw [if_neg h]
theorem up_up {C : Hw} {a : Addr} {o u : O} : up (up C a o) a u = up C a u := by
  funext b; unfold up; split <;> rfl
def SqC (K : PySem.W.Frag) (H : Hp) (a : Addr) (xs : List V) : Prop :=
  (∃ o, H a = some (.frz o (.lst xs))) ∨
    ∃ (o : Obj) (its : Array Value) (n : Nat), K.lookup a = some o ∧ o.cls = .type "list" ∧ o.dict = none ∧ o.data = .seq its n ∧ its.size ≤ sizeLine ∧ Vals xs its.toList
theorem SqC.sq {K : PySem.W.Frag} {H : Hp} {a : Addr} {xs : List V} (h : SqC K H a xs) : SqL K H a xs := by
  rcases h with ⟨o, h⟩ | h
  · exact .inl (.inr ⟨o, h⟩)
  · exact .inr h
mutual
def Rep (K : PySem.W.Frag) (H : Hp) (x : V) : T → Prop
  | .non => x = .non
  | .bl b => x = .bl b
  | .int i => x = .int i
  | .str z => x = .str z
  | .ref a => x = .ref a
  | .tup ts => ∃ a ys, x = .ref a ∧ SqT K H a ys ∧ Reps K H ys ts
  | .cl ts => ∃ a ys, x = .ref a ∧ SqC K H a ys ∧ Reps K H ys ts
def Reps (K : PySem.W.Frag) (H : Hp) (ys : List V) : List T → Prop
  | [] => ys = []
  | t :: ts => ∃ y r, ys = y :: r ∧ Rep K H y t ∧ Reps K H r ts
end
def Stb : HO → Prop
  | .tup _ => True
  | .frz _ _ => True
  | _ => False
def Tx (H H' : Hp) : Prop := ∀ b o, H b = some o → Stb o → H' b = some o
theorem Tx.refl (H : Hp) : Tx H H := fun _ _ h _ => h
theorem Tx.trans {H H1 H2 : Hp} (a : Tx H H1) (b : Tx H1 H2) : Tx H H2 := fun c o h n => b c o (a c o h n) n
theorem Tx.new {H : Hp} {p : Addr} {o : HO} (h : H p = none) : Tx H (upd H p o) := fun b u q _ => by rw [upd_ne (ne_of_none q h)]; exact q
theorem Tx.put {H : Hp} {p : Addr} {o u : HO} (h : H p = some o) (n : ¬ Stb o) : Tx H (upd H p u) := fun b v q s => by
  by_cases e : b = p
  · subst e; rw [h] at q; cases q; exact absurd s n
  · rw [upd_ne e]; exact q
theorem Tx.sqt {K : PySem.W.Frag} {H H' : Hp} (t : Tx H H') {a : Addr} {xs : List V} (h : SqT K H a xs) : SqT K H' a xs := by
  rcases h with (h | ⟨o, h⟩) | h
  · exact .inl (.inl (t _ _ h trivial))
  · exact .inl (.inr ⟨o, t _ _ h trivial⟩)
  · exact .inr h
theorem Tx.sqc {K : PySem.W.Frag} {H H' : Hp} (t : Tx H H') {a : Addr} {xs : List V} (h : SqC K H a xs) : SqC K H' a xs := by
  rcases h with ⟨o, h⟩ | h
  · exact .inl ⟨o, t _ _ h trivial⟩
  · exact .inr h
mutual
theorem Rep.tx {K : PySem.W.Frag} {H H' : Hp} (t : Tx H H') {x : V} : ∀ {v : T}, Rep K H x v → Rep K H' x v
  | .non, h => by simpa [Rep] using h
  | .bl b, h => by simpa [Rep] using h
  | .int i, h => by simpa [Rep] using h
  | .str z, h => by simpa [Rep] using h
  | .ref a, h => by simpa [Rep] using h
  | .tup ts, h => by
    unfold Rep at h ⊢
    obtain ⟨a, ys, e, q, r⟩ := h
    exact ⟨a, ys, e, t.sqt q, Reps.tx t r⟩
  | .cl ts, h => by
    unfold Rep at h ⊢
    obtain ⟨a, ys, e, q, r⟩ := h
    exact ⟨a, ys, e, t.sqc q, Reps.tx t r⟩
theorem Reps.tx {K : PySem.W.Frag} {H H' : Hp} (t : Tx H H') {ys : List V} : ∀ {vs : List T}, Reps K H ys vs → Reps K H' ys vs
  | [], h => by simpa [Reps] using h
  | v :: vs, h => by
    unfold Reps at h ⊢
    obtain ⟨y, r, e, q, s⟩ := h
    exact ⟨y, r, e, Rep.tx t q, Reps.tx t s⟩
end
section
variable {K : PySem.W.Frag} {H : Hp}
theorem rep_int {i : Int} : Rep K H (.int i) (.int i) := by unfold Rep; rfl
theorem rep_str {i : Str} : Rep K H (.str i) (.str i) := by unfold Rep; rfl
theorem rep_bl {i : Bool} : Rep K H (.bl i) (.bl i) := by unfold Rep; rfl
theorem rep_non : Rep K H .non .non := by unfold Rep; rfl
theorem rep_ref {a : Addr} : Rep K H (.ref a) (.ref a) := by unfold Rep; rfl
theorem rep_tup {a : Addr} {ys : List V} {ts : List T} (h : SqT K H a ys) (r : Reps K H ys ts) : Rep K H (.ref a) (.tup ts) := by unfold Rep; exact ⟨a, ys, rfl, h, r⟩
theorem of_int {x : V} {i : Int} (h : Rep K H x (.int i)) : x = .int i := by unfold Rep at h; exact h
theorem of_str {x : V} {i : Str} (h : Rep K H x (.str i)) : x = .str i := by unfold Rep at h; exact h
theorem of_bl {x : V} {i : Bool} (h : Rep K H x (.bl i)) : x = .bl i := by unfold Rep at h; exact h
theorem of_non {x : V} (h : Rep K H x .non) : x = .non := by unfold Rep at h; exact h
theorem of_ref {x : V} {a : Addr} (h : Rep K H x (.ref a)) : x = .ref a := by unfold Rep at h; exact h
theorem of_tup {x : V} {ts : List T} (h : Rep K H x (.tup ts)) : ∃ a ys, x = .ref a ∧ SqT K H a ys ∧ Reps K H ys ts := by unfold Rep at h; exact h
theorem of_cl {x : V} {ts : List T} (h : Rep K H x (.cl ts)) : ∃ a ys, x = .ref a ∧ SqC K H a ys ∧ Reps K H ys ts := by unfold Rep at h; exact h
theorem reps_nil : Reps K H [] [] := by unfold Reps; rfl
theorem reps_cons {y : V} {ys : List V} {t : T} {ts : List T} (a : Rep K H y t) (b : Reps K H ys ts) : Reps K H (y :: ys) (t :: ts) := by unfold Reps; exact ⟨y, ys, rfl, a, b⟩
theorem of_nil {ys : List V} (h : Reps K H ys []) : ys = [] := by unfold Reps at h; exact h
theorem of_cons {ys : List V} {t : T} {ts : List T} (h : Reps K H ys (t :: ts)) : ∃ y r, ys = y :: r ∧ Rep K H y t ∧ Reps K H r ts := by unfold Reps at h; exact h
theorem Reps.length : ∀ {vs : List T} {ys : List V}, Reps K H ys vs → ys.length = vs.length
  | [], _, h => by rw [of_nil h]; rfl
  | _ :: _, _, h => by obtain ⟨y, r, rfl, _, q⟩ := of_cons h; rw [List.length_cons, List.length_cons, q.length]
theorem Reps.get : ∀ {vs : List T} {ys : List V} {i : Nat} {v : T}, Reps K H ys vs → vs[i]? = some v → ∃ y, ys[i]? = some y ∧ Rep K H y v
  | [], _, _, _, _, e => by simp at e
  | _ :: _, _, 0, _, h, e => by obtain ⟨y, r, rfl, a, _⟩ := of_cons h; simp at e; subst e; exact ⟨y, rfl, a⟩
  | _ :: _, _, i + 1, v, h, e => by
    obtain ⟨y, r, rfl, _, q⟩ := of_cons h
    obtain ⟨z, h1, h2⟩ := Reps.get (i := i) (v := v) q (by simpa using e)
    exact ⟨z, by simpa using h1, h2⟩
theorem Reps.app : ∀ {vs ws : List T} {ys zs : List V}, Reps K H ys vs → Reps K H zs ws → Reps K H (ys ++ zs) (vs ++ ws)
  | [], _, _, _, h, q => by rw [of_nil h]; exact q
  | _ :: _, _, _, _, h, q => by obtain ⟨y, r, rfl, a, b⟩ := of_cons h; exact reps_cons a (b.app q)
theorem Reps.take : ∀ (n : Nat) {vs : List T} {ys : List V}, Reps K H ys vs → Reps K H (ys.take n) (vs.take n)
  | 0, _, _, _ => by simpa using reps_nil
  | _ + 1, [], _, h => by rw [of_nil h]; exact reps_nil
  | n + 1, _ :: _, _, h => by obtain ⟨y, r, rfl, a, b⟩ := of_cons h; exact reps_cons a (b.take n)
theorem Reps.drop : ∀ (n : Nat) {vs : List T} {ys : List V}, Reps K H ys vs → Reps K H (ys.drop n) (vs.drop n)
  | 0, _, _, h => h
  | _ + 1, [], _, h => by rw [of_nil h]; exact reps_nil
  | n + 1, _ :: _, _, h => by obtain ⟨y, r, rfl, a, b⟩ := of_cons h; exact b.drop n
theorem Reps.erase : ∀ (n : Nat) {vs : List T} {ys : List V}, Reps K H ys vs → Reps K H (ys.eraseIdx n) (vs.eraseIdx n)
  | _, [], _, h => by rw [of_nil h]; exact reps_nil
  | 0, _ :: _, _, h => by obtain ⟨y, r, rfl, a, b⟩ := of_cons h; exact b
  | n + 1, _ :: _, _, h => by obtain ⟨y, r, rfl, a, b⟩ := of_cons h; exact reps_cons a (b.erase n)
theorem Reps.dropLast {vs : List T} {ys : List V} (h : Reps K H ys vs) : Reps K H ys.dropLast vs.dropLast := by
  rw [List.dropLast_eq_take, List.dropLast_eq_take, h.length]; exact h.take _
theorem Reps.snoc {vs : List T} {ys : List V} {y : V} {v : T} (h : Reps K H ys vs) (q : Rep K H y v) : Reps K H (ys ++ [y]) (vs ++ [v]) := h.app (reps_cons q reps_nil)
theorem Reps.reverse : ∀ {vs : List T} {ys : List V}, Reps K H ys vs → Reps K H ys.reverse vs.reverse
  | [], _, h => by rw [of_nil h]; exact reps_nil
  | _ :: _, _, h => by obtain ⟨y, r, rfl, a, b⟩ := of_cons h; rw [List.reverse_cons, List.reverse_cons]; exact b.reverse.snoc a
theorem Reps.at {vs : List T} {ys : List V} {i : Int} {v : T} (h : Reps K H ys vs) (e : atI vs i = some v) : ∃ y, atI ys i = some y ∧ Rep K H y v := by
  unfold atI at e ⊢
  rw [h.length]
  cases q : ixN vs.length i with
  | none => rw [q] at e; cases e
  | some j =>
    rw [q] at e
    exact h.get e
theorem reps_ints : ∀ ns : List Int, Reps K H (ns.map V.int) (ns.map T.int)
  | [] => reps_nil
  | n :: r => reps_cons rep_int (reps_ints r)
theorem reps_strs : ∀ ns : List Str, Reps K H (ns.map V.str) (ns.map T.str)
  | [] => reps_nil
  | n :: r => reps_cons rep_str (reps_strs r)
end
abbrev PR (K : PySem.W.Frag) (H : Hp) {κ : Type} (kvs : List (κ × V)) (kws : List (κ × T)) : Prop := PySem.Paired (fun p q => p.1 = q.1 ∧ Rep K H p.2 q.2) kvs kws
def ORel (K : PySem.W.Frag) (H : Hp) (a : Addr) : O → Prop
  | .lst xs => ∃ ys, H a = some (.lst ys) ∧ Reps K H ys xs
  | .dic kvs => ∃ ks, H a = some (.dK ks) ∧ PR K H ks kvs
  | .ins cn fs => ∃ Cl dx ks, PySem.W.nsIn K mainGlobals cn = some (some (.ref Cl)) ∧ H a = some (.ins Cl dx ks) ∧ PR K H ks fs
  | .fdic kvs => ∃ ks, Rd H a (.dK ks) ∧ PR K H ks kvs
def O.wr : O → Prop
  | .fdic _ => False
  | _ => True
structure Rl (K : PySem.W.Frag) (F H : Hp) (C : Hw) : Prop where
  obj : ∀ a o, C a = some o → ORel K H a o
  frm : ∀ a o, F a = some o → H a = some o ∧ C a = none
theorem pr_tx {K : PySem.W.Frag} {H H' : Hp} (t : Tx H H') {κ : Type} {ks : List (κ × V)} {kvs : List (κ × T)} (h : PR K H ks kvs) : PR K H' ks kvs := L2.Paired.mapP h fun _ _ z => ⟨z.1, z.2.tx t⟩
theorem ORel.stay {K : PySem.W.Frag} {H H' : Hp} {a : Addr} {o : O} (h : ORel K H a o) (t : Tx H H') (e : H' a = H a) : ORel K H' a o := by
  cases o with
  | lst xs => obtain ⟨ys, q, r⟩ := h; exact ⟨ys, e.trans q, r.tx t⟩
  | dic kvs => obtain ⟨ys, q, r⟩ := h; exact ⟨ys, e.trans q, pr_tx t r⟩
  | ins C fs => obtain ⟨Cl, dx, ys, n, q, r⟩ := h; exact ⟨Cl, dx, ys, n, e.trans q, pr_tx t r⟩
  | fdic kvs =>
    obtain ⟨ys, q, r⟩ := h
    refine ⟨ys, ?_, pr_tx t r⟩
    rcases q with q | ⟨o, q⟩
    · exact .inl (e.trans q)
    · exact .inr ⟨o, e.trans q⟩
theorem ORel.some {K : PySem.W.Frag} {H : Hp} {a : Addr} {o : O} (h : ORel K H a o) (wr : o.wr) : ∃ u, H a = some u ∧ ¬ Stb u := by
  cases o with
  | fdic kvs => exact wr.elim
  | lst xs => obtain ⟨ys, q, r⟩ := h; exact ⟨_, q, fun z => z⟩
  | dic kvs => obtain ⟨ys, q, r⟩ := h; exact ⟨_, q, fun z => z⟩
  | ins C fs => obtain ⟨Cl, dx, ys, n, q, r⟩ := h; exact ⟨_, q, fun z => z⟩
theorem ORel.here {K : PySem.W.Frag} {H : Hp} {a : Addr} {o : O} (h : ORel K H a o) : ∃ u, H a = Option.some u := by
  cases o with
  | fdic kvs =>
    obtain ⟨ys, q, r⟩ := h
    rcases q with q | ⟨o, q⟩
    · exact ⟨_, q⟩
    · exact ⟨_, q⟩
  | lst xs => obtain ⟨ys, q, r⟩ := h; exact ⟨_, q⟩
  | dic kvs => obtain ⟨ys, q, r⟩ := h; exact ⟨_, q⟩
  | ins C fs => obtain ⟨Cl, dx, ys, n, q, r⟩ := h; exact ⟨_, q⟩
section
variable {K : PySem.W.Frag} {F H : Hp} {C : Hw}
theorem Rl.free (R : Rl K F H C) {p : Addr} (h : H p = none) : C p = none := by
  cases e : C p with
  | none => rfl
  | some o => obtain ⟨u, q⟩ := (R.obj p o e).here; rw [h] at q; cases q
theorem Rl.lst (R : Rl K F H C) {a : Addr} {xs : List T} (h : C a = some (.lst xs)) : ∃ ys, H a = some (.lst ys) ∧ Reps K H ys xs := R.obj a _ h
theorem Rl.new (R : Rl K F H C) {p : Addr} {u : HO} {o : O} (h : H p = none) (r : ORel K (upd H p u) p o) : Rl K F (upd H p u) (up C p o) where
  obj := fun a v e => by
    by_cases q : a = p
    · subst q; rw [up_same] at e; cases e; exact r
    · rw [up_ne q] at e
      exact (R.obj a v e).stay (Tx.new h) (upd_ne q)
  frm := fun a v e => by
    have z := R.frm a v e
    have q : a ≠ p := ne_of_none z.1 h
    rw [upd_ne q, up_ne q]; exact z
theorem Rl.hid (R : Rl K F H C) {p : Addr} {u : HO} (h : H p = none) : Rl K F (upd H p u) C where
  obj := fun a v e => by
    obtain ⟨w, q⟩ := (R.obj a v e).here
    exact (R.obj a v e).stay (Tx.new h) (upd_ne (ne_of_none q h))
  frm := fun a v e => by
    have z := R.frm a v e
    rw [upd_ne (ne_of_none z.1 h)]; exact z
theorem Rl.put (R : Rl K F H C) {p : Addr} {u : HO} {o o' : O} (h : C p = some o) (r : ORel K (upd H p u) p o') (wr : o.wr := by trivial) : Rl K F (upd H p u) (up C p o') ∧ Tx H (upd H p u) := by
  obtain ⟨w, hw, ns⟩ := (R.obj p o h).some wr
  have t : Tx H (upd H p u) := Tx.put hw ns
  refine ⟨⟨fun a v e => ?_, fun a v e => ?_⟩, t⟩
  · by_cases q : a = p
    · subst q; rw [up_same] at e; cases e; exact r
    · rw [up_ne q] at e
      exact (R.obj a v e).stay t (upd_ne q)
  · have z := R.frm a v e
    have q : a ≠ p := fun y => by subst y; rw [h] at z; cases z.2
    rw [upd_ne q, up_ne q]; exact z
theorem Rl.putL (R : Rl K F H C) {p : Addr} {xs xs' : List T} {ys' : List V} (h : C p = some (.lst xs)) (r : Reps K H ys' xs') : Rl K F (upd H p (.lst ys')) (up C p (.lst xs')) ∧ Tx H (upd H p (.lst ys')) := by
  obtain ⟨w, hw, ns⟩ := (R.obj p _ h).some trivial
  exact R.put h ⟨ys', upd_same, r.tx (Tx.put hw ns)⟩
theorem Rl.newL (R : Rl K F H C) {p : Addr} {xs : List T} {ys : List V} (h : H p = none) (r : Reps K H ys xs) : Rl K F (upd H p (.lst ys)) (up C p (.lst xs)) := R.new h ⟨ys, upd_same, r.tx (Tx.new h)⟩
end
abbrev Sw := List (Option T)
abbrev WK := T → Hw → Prop
structure Xn where
  cls : Str
  fs : List (Str × T)
abbrev WX := Xn → Hw → Prop
abbrev WE := Sw → Hw → WK → WX → Prop
abbrev WT := Sw → Hw → (Bool → Hw → Prop) → WX → Prop
abbrev WA := Sw → Hw → (List T → Hw → Prop) → WX → Prop
structure We where
  nx : Sw → Hw → Prop
  rt : WK
  bk : Sw → Hw → Prop := fun _ _ => False
  ct : Sw → Hw → Prop := fun _ _ => False
  xc : WX := fun _ _ => False
abbrev WS := We → Sw → Hw → Prop
abbrev WG := T → Sw → Hw → (Sw → Hw → Prop) → WX → Prop
abbrev WGs := List T → Sw → Hw → (Sw → Hw → Prop) → WX → Prop
abbrev WI := Sw → Hw → (List T → (Hw → Prop) → Hw → Prop) → WX → Prop
abbrev W2 := T → T → Hw → WK → Prop
abbrev Calls := Nat → List T → Hw → WK → WX → Prop
def eVar (i : Nat) : WE := fun τ C Q _ => ∃ v, τ[i]? = some (some v) ∧ Q v C
def eC (v : T) : WE := fun _ C Q _ => Q v C
def eBin (r : W2) (a b : WE) : WE := fun τ C Q χ => a τ C (fun x C1 => b τ C1 (fun y C2 => r x y C2 Q) χ) χ
def eUn (r : T → Hw → WK → Prop) (a : WE) : WE := fun τ C Q χ => a τ C (fun x C1 => r x C1 Q) χ
def aNil : WA := fun _ C Q _ => Q [] C
def aCons (a : WE) (r : WA) : WA := fun τ C Q χ => a τ C (fun x C1 => r τ C1 (fun xs C2 => Q (x :: xs) C2) χ) χ
def eTup (a : WA) : WE := fun τ C Q χ => a τ C (fun xs C1 => xs.length ≤ sizeLine ∧ Q (.tup xs) C1) χ
def eLst (a : WA) : WE := fun τ C Q χ => a τ C (fun xs C1 => xs.length ≤ sizeLine ∧ ∀ p, C1 p = none → Q (.ref p) (up C1 p (.lst xs))) χ
def eCall (P : Calls) (i : Nat) (a : WA) : WE := fun τ C Q χ => a τ C (fun xs C1 => P i xs C1 Q χ) χ
def eBi (r : List T → Hw → WK → Prop) (a : WA) : WE := fun τ C Q χ => a τ C (fun xs C1 => r xs C1 Q) χ
def eMt (ty : T → Hw → Prop) (r : T → List T → Hw → WK → Prop) (o : WE) (a : WA) : WE := fun τ C Q χ => o τ C (fun x C1 => ty x C1 ∧ a τ C1 (fun xs C2 => r x xs C2 Q) χ) χ
def eIf (c : WT) (a b : WE) : WE := fun τ C Q χ => c τ C (fun k C1 => if k = true then a τ C1 Q χ else b τ C1 Q χ) χ
def eAnd (a b : WE) : WE := fun τ C Q χ => a τ C (fun x C1 => ∃ k, x = .bl k ∧ if k = true then b τ C1 Q χ else Q (.bl false) C1) χ
def eOr (a b : WE) : WE := fun τ C Q χ => a τ C (fun x C1 => ∃ k, x = .bl k ∧ if k = true then Q (.bl true) C1 else b τ C1 Q χ) χ
def eNot (a : WE) : WE := fun τ C Q χ => a τ C (fun x C1 => ∃ k, x = .bl k ∧ Q (.bl (!k)) C1) χ
def tru : T → Hw → Bool → Prop
  | .non, _, k => k = false
  | .bl b, _, k => k = b
  | .int i, _, k => k = (i != 0)
  | .str y, _, k => y.length ≤ sizeLine ∧ k = ((y.length : Int) != 0)
  | .tup xs, _, k => k = !xs.isEmpty
  | .cl xs, _, k => k = !xs.isEmpty
  | .ref a, C, k => (∃ xs, C a = some (.lst xs) ∧ k = !xs.isEmpty) ∨ ∃ kvs, C a = some (.dic kvs) ∧ k = !kvs.isEmpty
def tTru (a : WE) : WT := fun τ C Q χ => a τ C (fun x C1 => ∃ k, tru x C1 k ∧ Q k C1) χ
def tBl (a : WE) : WT := fun τ C Q χ => a τ C (fun x C1 => ∃ k, x = .bl k ∧ Q k C1) χ
def tAn (a b : WT) : WT := fun τ C Q χ => a τ C (fun k C1 => if k = true then b τ C1 Q χ else Q false C1) χ
def tOr' (a b : WT) : WT := fun τ C Q χ => a τ C (fun k C1 => if k = true then Q true C1 else b τ C1 Q χ) χ
def tNo (a : WT) : WT := fun τ C Q χ => a τ C (fun k C1 => Q (!k) C1) χ
def eChain (r r' : W2) (a b c : WE) : WE := fun τ C Q χ => a τ C (fun x C1 => b τ C1 (fun y C2 => r x y C2 fun z C3 => ∃ k, z = .bl k ∧ (if k = true then c τ C3 (fun w C4 => r' y w C4 Q) χ else Q (.bl false) C3)) χ) χ
def wAdd : W2
  | .int i, .int j, C, Q => Q (.int (i + j)) C
  | .str i, .str j, C, Q => i.length + j.length ≤ sizeLine ∧ Q (.str (i ++ j)) C
  | .tup xs, .tup ys, C, Q => xs.length + ys.length ≤ sizeLine ∧ Q (.tup (xs ++ ys)) C
  | .ref a, .ref b, C, Q => ∃ xs ys, C a = some (.lst xs) ∧ C b = some (.lst ys) ∧ xs.length + ys.length ≤ sizeLine ∧ ∀ p, C p = none → Q (.ref p) (up C p (.lst (xs ++ ys)))
  | _, _, _, _ => False
def wSub : W2
  | .int i, .int j, C, Q => Q (.int (i - j)) C
  | _, _, _, _ => False
def wMul : W2
  | .int i, .int j, C, Q => CMul i j ∧ Q (.int (i * j)) C
  | _, _, _, _ => False
def wDiv : W2
  | .int i, .int j, C, Q => CDiv i j ∧ Q (.int (i / j)) C
  | _, _, _, _ => False
def wMod : W2
  | .int i, .int j, C, Q => 0 < j ∧ Q (.int (i % j)) C
  | _, _, _, _ => False
def wPow : W2
  | .int i, .int j, C, Q => CPow i j ∧ Q (.int (i ^ j.toNat)) C
  | _, _, _, _ => False
def wNeg : T → Hw → WK → Prop
  | .int i, C, Q => Q (.int (-i)) C
  | _, _, _ => False
def wLt : W2
  | .int i, .int j, C, Q => Q (.bl (decide (i < j))) C
  | .str i, .str j, C, Q => Q (.bl (decide (i.cps.toList < j.cps.toList))) C
  | _, _, _, _ => False
def wLe : W2
  | .int i, .int j, C, Q => Q (.bl (decide (i ≤ j))) C
  | _, _, _, _ => False
def wGt : W2
  | .int i, .int j, C, Q => Q (.bl (decide (j < i))) C
  | _, _, _, _ => False
def wGe : W2
  | .int i, .int j, C, Q => Q (.bl (decide (j ≤ i))) C
  | _, _, _, _ => False
mutual
def eqT : T → T → Bool
  | .non, .non => true
  | .bl a, .bl b => a == b
  | .bl a, .int b => (if a then 1 else 0) == b
  | .int a, .bl b => a == (if b then 1 else 0)
  | .int a, .int b => a == b
  | .str a, .str b => a == b
  | .tup xs, .tup ys => eqTs xs ys
  | _, _ => false
def eqTs : List T → List T → Bool
  | [], [] => true
  | x :: xs, y :: ys => eqT x y && eqTs xs ys
  | _, _ => false
end
mutual
def flat : T → Nat → Bool
  | .tup xs, n + 1 => flats xs n
  | .tup _, 0 => false
  | .ref _, _ => false
  | .cl _, _ => false
  | _, _ => true
def flats : List T → Nat → Bool
  | [], _ => true
  | x :: xs, n => flat x n && flats xs n
end
def eqDeep : Nat := 100
def isFlat (x : T) : Prop := flat x eqDeep = true
def wEqG (neg : Bool) : W2
  | .ref a, .ref b, C, Q => ∃ xs ys, C a = some (.lst xs) ∧ C b = some (.lst ys) ∧ (xs.length = ys.length → flats xs eqDeep = true ∧ flats ys eqDeep = true) ∧ Q (.bl (if neg then !eqTs xs ys else eqTs xs ys)) C
  | .ref a, y, C, Q => (∃ xs, C a = some (.lst xs)) ∧ isFlat y ∧ Q (.bl neg) C
  | x, .ref b, C, Q => (∃ ys, C b = some (.lst ys)) ∧ isFlat x ∧ Q (.bl neg) C
  | x, y, C, Q => isFlat x ∧ isFlat y ∧ Q (.bl (if neg then !eqT x y else eqT x y)) C
abbrev wEq : W2 := wEqG false
abbrev wNe : W2 := wEqG true
def wIsN : W2 := fun x y C Q => y = .non ∧ Q (.bl (match x with | .non => true | _ => false)) C
def wNotN : W2 := fun x y C Q => y = .non ∧ Q (.bl (match x with | .non => false | _ => true)) C
def inL (x : T) (xs : List T) : Bool := xs.any fun y => eqT y x
def wInG (neg : Bool) : W2
  | .str i, .str j, C, Q => Q (.bl (if neg then (!(!(Builtin.Str.occurrences j i 0 j.length 1).isEmpty)) else (!(Builtin.Str.occurrences j i 0 j.length 1).isEmpty))) C
  | x, .tup ys, C, Q => isFlat x ∧ flats ys eqDeep = true ∧ Q (.bl (if neg then !inL x ys else inL x ys)) C
  | x, .cl ys, C, Q => isFlat x ∧ flats ys eqDeep = true ∧ Q (.bl (if neg then !inL x ys else inL x ys)) C
  | x, .ref a, C, Q => ∃ ys, C a = some (.lst ys) ∧ isFlat x ∧ flats ys eqDeep = true ∧ Q (.bl (if neg then !inL x ys else inL x ys)) C
  | _, _, _, _ => False
abbrev wIn : W2 := wInG false
abbrev wNotIn : W2 := wInG true
def cut {α : Type} (xs : List α) (lo hi : Option Int) : List α := (xs.drop (HT.sIx xs.length 0 lo)).take (HT.sIx xs.length xs.length hi - HT.sIx xs.length 0 lo)
def wIdx : W2
  | .tup xs, .int i, C, Q => ∃ v, atI xs i = some v ∧ Q v C
  | .cl xs, .int i, C, Q => ∃ v, atI xs i = some v ∧ Q v C
  | .str z, .int i, C, Q => z.length ≤ sizeLine ∧ ∃ c, atI z.cps.toList i = some c ∧ Q (.str ⟨#[c]⟩) C
  | .ref a, .int i, C, Q => ∃ xs v, C a = some (.lst xs) ∧ atI xs i = some v ∧ Q v C
  | _, _, _, _ => False
def oNo : Sw → Hw → (Option Int → Hw → Prop) → WX → Prop := fun _ C Q _ => Q none C
def oSome (a : WE) : Sw → Hw → (Option Int → Hw → Prop) → WX → Prop := fun τ C Q χ => a τ C (fun x C1 => ∃ i, x = .int i ∧ Q (some i) C1) χ
def wSl : T → Option Int → Option Int → Hw → WK → Prop
  | .tup xs, lo, hi, C, Q => ¬ (HT.sIx xs.length 0 lo = 0 ∧ HT.sIx xs.length xs.length hi = xs.length) ∧ Q (.tup (cut xs lo hi)) C
  | .cl xs, lo, hi, C, Q => ∀ p, C p = none → Q (.ref p) (up C p (.lst (cut xs lo hi)))
  | .str z, lo, hi, C, Q => z.length ≤ sizeLine ∧ Q (.str (Txt.slice z lo hi)) C
  | .ref a, lo, hi, C, Q => ∃ xs, C a = some (.lst xs) ∧ ∀ p, C p = none → Q (.ref p) (up C p (.lst (cut xs lo hi)))
  | _, _, _, _, _ => False
def eSl (a : WE) (lo hi : Sw → Hw → (Option Int → Hw → Prop) → WX → Prop) : WE := fun τ C Q χ => a τ C (fun x C1 => lo τ C1 (fun l C2 => hi τ C2 (fun h C3 => wSl x l h C3 Q) χ) χ) χ
def bLen : List T → Hw → WK → Prop := fun vs C Q => ∃ x, vs = [x] ∧ match x with
  | .str z => z.length ≤ sizeLine ∧ Q (.int z.length) C
  | .tup xs => Q (.int xs.length) C
  | .cl xs => Q (.int xs.length) C
  | .ref a => ∃ xs, C a = some (.lst xs) ∧ Q (.int xs.length) C
  | _ => False
def bMax : List T → Hw → WK → Prop := fun vs C Q => ∃ i j, vs = [.int i, .int j] ∧ Q (.int (if j > i then j else i)) C
def bMin : List T → Hw → WK → Prop := fun vs C Q => ∃ i j, vs = [.int i, .int j] ∧ Q (.int (if j < i then j else i)) C
def bAll : List T → Hw → WK → Prop := fun vs C Q => ∃ (a : Addr) (bs : List Bool), vs = [.ref a] ∧ C a = some (.lst (bs.map T.bl)) ∧ Q (.bl (bs.all id)) C
def bTuple : List T → Hw → WK → Prop := fun vs C Q => ∃ x, vs = [x] ∧ match x with
  | .tup xs => Q (.tup xs) C
  | .cl xs => Q (.tup xs) C
  | .ref a => ∃ xs, C a = some (.lst xs) ∧ Q (.tup xs) C
  | _ => False
def bList : List T → Hw → WK → Prop := fun vs C Q => ∃ x, vs = [x] ∧ match x with
  | .tup xs => ∀ p, C p = none → Q (.ref p) (up C p (.lst xs))
  | .cl xs => ∀ p, C p = none → Q (.ref p) (up C p (.lst xs))
  | .ref a => ∃ xs, C a = some (.lst xs) ∧ ∀ p, C p = none → Q (.ref p) (up C p (.lst xs))
  | _ => False
def tyN : T → Hw → String → Prop
  | .non, _, n => n = "NoneType"
  | .bl _, _, n => n = "bool"
  | .int _, _, n => n = "int"
  | .str _, _, n => n = "str"
  | .tup _, _, n => n = "tuple"
  | .cl _, _, n => n = "list"
  | .ref a, C, n => (n = "list" ∧ ∃ xs, C a = some (.lst xs)) ∨ (n = "dict" ∧ ∃ kvs, C a = some (.dic kvs))
def isCls (n c : String) : Bool := n == c || (n == "bool" && c == "int")
def eIsi (a : WE) (c : String) : WE := fun τ C Q χ => a τ C (fun x C1 => ∃ n, tyN x C1 n ∧ Q (.bl (isCls n c)) C1) χ
def tyL' : T → Hw → Prop := fun x C => ∃ a xs, x = .ref a ∧ C a = some (.lst xs)
def tyS : T → Hw → Prop := fun x _ => ∃ z, x = .str z
def mAppend : T → List T → Hw → WK → Prop := fun x vs C Q => ∃ a xs y, x = .ref a ∧ vs = [y] ∧ C a = some (.lst xs) ∧ xs.length < sizeLine ∧ Q .non (up C a (.lst (xs ++ [y])))
def mPop : T → List T → Hw → WK → Prop := fun x vs C Q => ∃ a xs y, x = .ref a ∧ vs = [] ∧ C a = some (.lst xs) ∧ xs[xs.length - 1]? = some y ∧ Q y (up C a (.lst xs.dropLast))
def mPopAt : T → List T → Hw → WK → Prop := fun x vs C Q => ∃ a xs i k y, x = .ref a ∧ vs = [.int i] ∧ C a = some (.lst xs) ∧ -(2 ^ 63) ≤ i ∧ i < 2 ^ 63 ∧ seqIndex? i xs.length = some k ∧ xs[k]? = some y ∧ Q y (up C a (.lst (xs.eraseIdx k)))
def gNm (i : Nat) : WG := fun v τ C Q _ => Q (τ.set i (some v)) C
def gsNil : WGs := fun vs τ C Q _ => vs = [] ∧ Q τ C
def gsCons (g : WG) (gs : WGs) : WGs := fun vs τ C Q χ => ∃ v r, vs = v :: r ∧ g v τ C (fun τ' C' => gs r τ' C' Q χ) χ
def gTp (gs : WGs) : WG := fun v τ C Q χ => ∃ xs, v = .tup xs ∧ gs xs τ C Q χ
def gSb (o i : WE) : WG := fun v τ C Q χ => o τ C (fun x C1 => i τ C1 (fun y C2 => ∃ a xs k j, x = .ref a ∧ y = .int k ∧ C2 a = some (.lst xs) ∧ ixN xs.length k = some j ∧ Q τ (up C2 a (.lst (xs.set j v)))) χ) χ
def sPass : WS := fun D τ C => D.nx τ C
def sSeq (a b : WS) : WS := fun D τ C => a { D with nx := b D } τ C
def sExpr (e : WE) : WS := fun D τ C => e τ C (fun _ C1 => D.nx τ C1) D.xc
def sRet (e : WE) : WS := fun D τ C => e τ C D.rt D.xc
def sRetN : WS := fun D _ C => D.rt .non C
def sIf (c : WT) (a b : WS) : WS := fun D τ C => c τ C (fun k C1 => if k = true then a D τ C1 else b D τ C1) D.xc
def sAsg (e : WE) (g : WG) : WS := fun D τ C => e τ C (fun x C1 => g x τ C1 D.nx D.xc) D.xc
def sBrk : WS := fun D τ C => D.bk τ C
def sCont : WS := fun D τ C => D.ct τ C
def sNever : WS := fun _ _ _ => False
def forW (g : WG) (b : WS) (ok : Hw → Prop) (D : We) : List T → Sw → Hw → Prop
  | [], τ, C => ok C ∧ D.nx τ C
  | x :: xs, τ, C => ok C ∧ g x τ C (fun τ2 C2 => b { D with nx := forW g b ok D xs, ct := forW g b ok D xs, bk := D.nx } τ2 C2) D.xc
def sFor (i : WI) (g : WG) (b : WS) : WS := fun D τ C => i τ C (fun xs ok C1 => forW g b ok D xs τ C1) D.xc
def iSeq (e : WE) : WI := fun τ C R χ => e τ C (fun v C1 => match v with
  | .tup xs => R xs (fun _ => True) C1
  | .cl xs => R xs (fun _ => True) C1
  | .str z => R (z.cps.toList.map fun c => T.str ⟨#[c]⟩) (fun _ => True) C1
  | .ref a => ∃ xs, C1 a = some (.lst xs) ∧ R xs (fun C2 => C2 a = some (.lst xs)) C1
  | _ => False) χ
def rng (lo : Int) (n : Nat) : List T := (List.range n).map fun k : Nat => T.int (lo + k)
def iR1 (a : WA) : WI := fun τ C R χ => a τ C (fun vs C1 => ∃ j : Int, vs = [.int j] ∧ -(2 ^ 62) ≤ j ∧ j < 2 ^ 62 ∧ R (rng 0 j.toNat) (fun _ => True) C1) χ
def iR2 (a : WA) : WI := fun τ C R χ => a τ C (fun vs C1 => ∃ i j : Int, vs = [.int i, .int j] ∧ (-(2 ^ 62) ≤ i ∧ i < 2 ^ 62 ∧ -(2 ^ 62) ≤ j ∧ j < 2 ^ 62) ∧ R (rng i (j - i).toNat) (fun _ => True) C1) χ
def iEn (a : WA) : WI := fun τ C R χ => a τ C (fun vs C1 => ∃ z, vs = [.str z] ∧ R (z.cps.toList.zipIdx.map fun c => T.tup [.int c.2, .str ⟨#[c.1]⟩]) (fun _ => True) C1) χ
def capW (cap : List (Option Nat)) (τ : Sw) : Sw := cap.map fun o => o.bind fun i => (τ[i]?).join
def tYes : WT := fun _ C Q _ => Q true C
def compW (g : WG) (c : WT) (e : WE) (ok : Hw → Prop) (τ : Sw) (Q : List T → Hw → Prop) (χ : WX) : List T → List T → Hw → Prop
  | [], acc, C => ok C ∧ Q acc C
  | x :: xs, acc, C => ok C ∧ g x τ C (fun τ2 C2 => c τ2 C2 (fun b C3 => if b = true then e τ2 C3 (fun v C4 => acc.length < sizeLine ∧ compW g c e ok τ Q χ xs (acc ++ [v]) C4) χ else compW g c e ok τ Q χ xs acc C3) χ) χ
def eComp (cap : List (Option Nat)) (i : WI) (g : WG) (c : WT) (e : WE) : WE := fun τ C Q χ => i τ C (fun xs ok C1 => compW g c e ok (capW cap τ) (fun vs C2 => ∀ p, C2 p = none → Q (.ref p) (up C2 p (.lst vs))) χ xs [] C1) χ
structure Df where
  n : Nat
  ar : Nat
  body : Calls → WS
def wpc (pr : List Df) : Nat → Calls
  | 0 => fun _ _ _ _ _ => False
  | n + 1 => fun i vs C Q χ => ∃ d, pr[i]? = some d ∧ vs.length = d.ar ∧ d.body (wpc pr n) { nx := fun _ C' => Q .non C', rt := Q, xc := χ } (vs.map some ++ List.replicate (d.n - d.ar) none) C
end WL
set_option Elab.async false
set_option linter.all false
set_option maxRecDepth 100000
set_option maxHeartbeats 4000000
namespace WL
open PySem PySem.Spec PyProof.Rows L2
section
variable {X : Cx} {pins : List (Addr × Obj)} {σ : L2.St} {H : Hp} {s : Shared}
def sc : T → Option V
  | .non => some .non
  | .bl b => some (.bl b)
  | .int i => some (.int i)
  | .str z => some (.str z)
  | _ => none
theorem rep_sc {K : PySem.W.Frag} {H : Hp} {x z : V} {v : T} (h : sc v = some z) (r : Rep K H x v) : x = z ∧ flatV z = true := by
  cases v with
  | non => cases h; exact ⟨of_non r, rfl⟩
  | bl b => cases h; exact ⟨of_bl r, rfl⟩
  | int i => cases h; exact ⟨of_int r, rfl⟩
  | str z => cases h; exact ⟨of_str r, rfl⟩
  | _ => cases h
theorem eqT_sc {v w : T} {a b : V} (h : sc v = some a) (h' : sc w = some b) : eqT v w = eqV a b := by
  cases v <;> cases w <;> cases h <;> cases h' <;> unfold eqT <;> rfl
mutual
theorem eqT_refl : ∀ (v : T) {n : Nat}, flat v n = true → eqT v v = true
  | .non, _, _ => by unfold eqT; rfl
  | .bl b, _, _ => by unfold eqT; simp
  | .int b, _, _ => by unfold eqT; simp
  | .str b, _, _ => by unfold eqT; simp
  | .tup xs, 0, h => by unfold flat at h; cases h
  | .tup xs, n + 1, h => by unfold flat at h; unfold eqT; exact eqTs_refl xs h
  | .ref a, _, h => by unfold flat at h; cases h
  | .cl a, _, h => by unfold flat at h; cases h
theorem eqTs_refl : ∀ (v : List T) {n : Nat}, flats v n = true → eqTs v v = true
  | [], _, _ => by unfold eqTs; rfl
  | x :: xs, n, h => by
    unfold flats at h
    rw [Bool.and_eq_true] at h
    unfold eqTs
    rw [eqT_refl x h.1, eqTs_refl xs h.2]; rfl
end
theorem sc_none {v : T} {n : Nat} (h : flat v n = true) (e : sc v = none) : ∃ ts m, v = .tup ts ∧ n = m + 1 ∧ flats ts m = true := by
  cases v with
  | tup ts =>
    cases n with
    | zero => unfold flat at h; cases h
    | succ m => unfold flat at h; exact ⟨ts, m, rfl, rfl, h⟩
  | ref a => unfold flat at h; cases h
  | cl a => unfold flat at h; cases h
  | non => cases e
  | bl b => cases e
  | int b => cases e
  | str b => cases e
theorem flats_get : ∀ {vs : List T} {n i : Nat} {v : T}, flats vs n = true → vs[i]? = some v → flat v n = true
  | [], _, _, _, _, e => by simp at e
  | x :: xs, n, 0, v, h, e => by
    unfold flats at h
    rw [Bool.and_eq_true] at h
    simp at e; subst e; exact h.1
  | x :: xs, n, i + 1, v, h, e => by
    unfold flats at h
    rw [Bool.and_eq_true] at h
    exact flats_get h.2 (by simpa using e)
theorem rep_inj (I : Inv X pins σ H s) : ∀ (n : Nat) {v w : T} {x : V}, flat v n = true → flat w n = true → Rep X.K H x v → Rep X.K H x w → v = w := by
  intro n
  induction n with
  | zero =>
    intro v w x fv fw rv rw'
    cases ev : sc v with
    | none => obtain ⟨_, _, _, h, _⟩ := sc_none fv ev; cases h
    | some a =>
      cases ew : sc w with
      | none => obtain ⟨_, _, _, h, _⟩ := sc_none fw ew; cases h
      | some b =>
        obtain ⟨e1, _⟩ := rep_sc ev rv
        obtain ⟨e2, _⟩ := rep_sc ew rw'
        have e : a = b := e1.symm.trans e2
        subst e
        cases v <;> cases ev <;> cases w <;> cases ew <;> rfl
  | succ n ih =>
    intro v w x fv fw rv rw'
    have lists : ∀ {ys : List V} {vs ws : List T}, flats vs n = true → flats ws n = true → Reps X.K H ys vs → Reps X.K H ys ws → vs = ws := by
      intro ys vs
      induction vs generalizing ys with
      | nil =>
        intro ws _ _ a b
        have := of_nil a
        subst this
        cases ws with
        | nil => rfl
        | cons w ws => obtain ⟨_, _, e, _⟩ := of_cons b; cases e
      | cons v vs ihv =>
        intro ws fa fb a b
        obtain ⟨y, r, rfl, a1, a2⟩ := of_cons a
        cases ws with
        | nil => have := of_nil b; cases this
        | cons w ws =>
          obtain ⟨y', r', e, b1, b2⟩ := of_cons b
          cases e
          unfold flats at fa fb
          rw [Bool.and_eq_true] at fa fb
          rw [ih fa.1 fb.1 a1 b1, ihv fa.2 fb.2 a2 b2]
    cases ev : sc v with
    | none =>
      obtain ⟨ts, m, rfl, em, ft⟩ := sc_none fv ev
      cases em
      obtain ⟨a, ys, rfl, hq, r⟩ := of_tup rv
      cases ew : sc w with
      | none =>
        obtain ⟨us, m', rfl, em, fu⟩ := sc_none fw ew
        cases em
        obtain ⟨b, zs, e, hq', r'⟩ := of_tup rw'
        cases e
        have e := I.tuple_inj hq hq'
        subst e
        rw [lists ft fu r r']
      | some b =>
        obtain ⟨e2, f⟩ := rep_sc ew rw'
        subst e2
        cases f
    | some a =>
      obtain ⟨e1, f⟩ := rep_sc ev rv
      cases ew : sc w with
      | none =>
        obtain ⟨us, m', rfl, em, fu⟩ := sc_none fw ew
        obtain ⟨b, zs, e, hq', r'⟩ := of_tup rw'
        subst e1
        subst e
        cases f
      | some b =>
        obtain ⟨e2, _⟩ := rep_sc ew rw'
        have e : a = b := e1.symm.trans e2
        subst e
        cases v <;> cases ev <;> cases w <;> cases ew <;> rfl
def eqJ (ts us : List T) (j : Nat) : Bool := match ts[j]?, us[j]? with
  | some a, some b => eqT a b
  | _, _ => true
theorem eqTs_range : ∀ (vs ws : List T), ((List.range (min vs.length ws.length)).all (eqJ vs ws) && vs.length == ws.length) = eqTs vs ws
  | [], [] => by unfold eqTs; rfl
  | [], _ :: _ => by unfold eqTs; simp
  | _ :: _, [] => by unfold eqTs; simp
  | v :: vs, w :: ws => by
    unfold eqTs
    rw [← eqTs_range vs ws]
    rw [List.length_cons, List.length_cons, show min (vs.length + 1) (ws.length + 1) = min vs.length ws.length + 1 by omega, List.range_succ_eq_map, List.all_cons, List.all_map]
    have e1 : eqJ (v :: vs) (w :: ws) 0 = eqT v w := rfl
    have e2 : (eqJ (v :: vs) (w :: ws) ∘ Nat.succ) = eqJ vs ws := by funext j; simp [Function.comp_def, eqJ]
    rw [e1, e2]
    simp [Bool.and_assoc]
theorem eqAtT (I : Inv X pins σ H s) : ∀ (n : Nat) {v w : T} {x y : V} {u u' : Value} {A : Around}, flat v n = true → flat w n = true → Rep X.K H x v → Rep X.K H y w → RelV x u → RelV y u' → A.units + n < cLine →
    SeqAt.EqAt A s u u' (eqT v w) := by
  intro n
  induction n with
  | zero =>
    intro v w x y u u' A fv fw rv rw' ru ru' hu
    cases ev : sc v with
    | none => obtain ⟨_, _, _, h, _⟩ := sc_none fv ev; cases h
    | some a =>
      cases ew : sc w with
      | none => obtain ⟨_, _, _, h, _⟩ := sc_none fw ew; cases h
      | some b =>
        obtain ⟨rfl, f1⟩ := rep_sc ev rv
        obtain ⟨rfl, f2⟩ := rep_sc ew rw'
        rw [eqT_sc ev ew]
        exact eqAt_V ru ru' f1 f2
  | succ n ih =>
    intro v w x y u u' A fv fw rv rw' ru ru' hu
    have hu0 : A.units < cLine := by omega
    cases ev : sc v with
    | some a =>
      obtain ⟨rfl, f1⟩ := rep_sc ev rv
      cases ew : sc w with
      | some b =>
        obtain ⟨rfl, f2⟩ := rep_sc ew rw'
        rw [eqT_sc ev ew]
        exact eqAt_V ru ru' f1 f2
      | none =>
        obtain ⟨ts, m, rfl, em, ft⟩ := sc_none fw ew
        obtain ⟨b, zs, rfl, hq, r⟩ := of_tup rw'
        cases ru'
        obtain ⟨its, _, p, _⟩ := I.tuple hq
        cases v with
        | non => cases ev; cases ru; unfold eqT; exact SeqAt.EqAt.none_tuple p hu0
        | bl c => cases ev; cases ru; unfold eqT; exact SeqAt.EqAt.bool_tuple c p hu0
        | int i => cases ev; obtain ⟨t, rfl⟩ := ru; unfold eqT; exact SeqAt.EqAt.int_tuple i t p hu0
        | str i => cases ev; obtain ⟨t, rfl⟩ := ru; unfold eqT; exact SeqAt.EqAt.str_tuple i t p hu0
        | _ => cases ev
    | none =>
      obtain ⟨ts, m, rfl, em, ft⟩ := sc_none fv ev
      cases em
      obtain ⟨a, ys, rfl, hq, r⟩ := of_tup rv
      cases ru
      obtain ⟨its, rI, p, _⟩ := I.tuple hq
      cases ew : sc w with
      | some b =>
        obtain ⟨rfl, f2⟩ := rep_sc ew rw'
        cases w with
        | non => cases ew; cases ru'; unfold eqT; exact SeqAt.EqAt.tuple_none p hu0
        | bl c => cases ew; cases ru'; unfold eqT; exact SeqAt.EqAt.tuple_bool c p hu0
        | int i => cases ew; obtain ⟨t, rfl⟩ := ru'; unfold eqT; exact SeqAt.EqAt.tuple_int i t p hu0
        | str i => cases ew; obtain ⟨t, rfl⟩ := ru'; unfold eqT; exact SeqAt.EqAt.tuple_str i t p hu0
        | _ => cases ew
      | none =>
        obtain ⟨us, m', rfl, em, fu⟩ := sc_none fw ew
        cases em
        obtain ⟨b, zs, rfl, hq', r'⟩ := of_tup rw'
        cases ru'
        obtain ⟨its', rI', p', _⟩ := I.tuple hq'
        by_cases hne : a = b
        · subst hne
          have e := rep_inj I (n + 1) fv fw (rep_tup hq r) (rep_tup hq' r')
          rw [e, eqT_refl _ fw]
          exact SeqAt.EqAt.same _
        · have l1 : its.toArray.size = ts.length := by rw [List.size_toArray, ← rI.length, r.length]
          have l2 : its'.toArray.size = us.length := by rw [List.size_toArray, ← rI'.length, r'.length]
          have key := SeqAt.EqAt.of_refs hne (SeqAt.RcAt.tuples (A := A) (e := eqJ ts us) p p' hu0 (fun j h1 h2 => by
            have i1 : ts[j]? = some (ts[j]'(by omega)) := by simp [l1 ▸ h1]
            have i2 : us[j]? = some (us[j]'(by omega)) := by simp [l2 ▸ h2]
            obtain ⟨x1, g1, q1⟩ := r.get i1
            obtain ⟨x2, g2, q2⟩ := r'.get i2
            obtain ⟨u1, k1, z1⟩ := rI.get g1
            obtain ⟨u2, k2, z2⟩ := rI'.get g2
            have e1 : its.toArray[j] = u1 := by
              have : its[j]? = some its.toArray[j] := by simp
              rw [k1] at this; exact (Option.some.inj this).symm
            have e2 : its'.toArray[j] = u2 := by
              have : its'[j]? = some its'.toArray[j] := by simp
              rw [k2] at this; exact (Option.some.inj this).symm
            rw [e1, e2]
            unfold eqJ
            simp only [i1, i2]
            exact ih (flats_get ft i1) (flats_get fu i2) q1 q2 z1 z2 (by show A.units + 1 + n < cLine; omega)))
          rw [l1, l2, eqTs_range] at key
          unfold eqT
          exact key
end
end WL
set_option Elab.async false
set_option linter.all false
set_option maxRecDepth 100000
set_option maxHeartbeats 4000000
namespace WL
open PySem PySem.Spec PyProof.Rows L2
def RepS (K : PySem.W.Frag) (H : Hp) (σ : L2.St) (τ : Sw) : Prop := σ.length = τ.length ∧ ∀ (i : Nat) (v : T), τ[i]? = some (some v) → ∃ x, σ[i]? = some (some x) ∧ Rep K H x v
theorem RepS.tx {K : PySem.W.Frag} {H H' : Hp} {σ : L2.St} {τ : Sw} (h : RepS K H σ τ) (t : Tx H H') : RepS K H' σ τ := ⟨h.1, fun i v e => let ⟨x, a, b⟩ := h.2 i v e; ⟨x, a, b.tx t⟩⟩
theorem RepS.set {K : PySem.W.Frag} {H : Hp} {σ : L2.St} {τ : Sw} (h : RepS K H σ τ) {i : Nat} {x : V} {v : T} (r : Rep K H x v) : RepS K H (σ.set i (some x)) (τ.set i (some v)) := by
  refine ⟨by rw [List.length_set, List.length_set]; exact h.1, fun j w e => ?_⟩
  by_cases hj : i = j
  · subst hj
    by_cases hi : i < τ.length
    · rw [List.getElem?_set_self hi] at e
      cases e
      exact ⟨x, List.getElem?_set_self (by rw [h.1]; exact hi), r⟩
    · rw [List.getElem?_eq_none (by rw [List.length_set]; omega)] at e
      cases e
  · rw [List.getElem?_set_ne hj] at e ⊢
    exact h.2 j w e
abbrev QE (K : PySem.W.Frag) (F H : Hp) (Q : VK) (Q' : WK) : Prop := ∀ x v H' C', Rl K F H' C' → Tx H H' → Rep K H' x v → Q' v C' → Q x H'
abbrev QT (K : PySem.W.Frag) (F H : Hp) (Q : Bool → Hp → Prop) (Q' : Bool → Hw → Prop) : Prop := ∀ b H' C', Rl K F H' C' → Tx H H' → Q' b C' → Q b H'
abbrev QA (K : PySem.W.Frag) (F H : Hp) (Q : List V → Hp → Prop) (Q' : List T → Hw → Prop) : Prop := ∀ xs vs H' C', Rl K F H' C' → Tx H H' → Reps K H' xs vs → Q' vs C' → Q xs H'
theorem QE.at {K : PySem.W.Frag} {F H H1 : Hp} {Q : VK} {Q' : WK} (q : QE K F H Q Q') (t : Tx H H1) : QE K F H1 Q Q' := fun x v H' C' R t' => q x v H' C' R (t.trans t')
def SimE (K : PySem.W.Frag) (te : TE) (we : WE) : Prop := ∀ (F H : Hp) (C : Hw) (σ : L2.St) (τ : Sw) (Q : VK) (Q' : WK) (χ : WX), Rl K F H C → RepS K H σ τ → we τ C Q' χ → QE K F H Q Q' → te σ H Q
def SimT (K : PySem.W.Frag) (te : TT) (we : WT) : Prop := ∀ (F H : Hp) (C : Hw) (σ : L2.St) (τ : Sw) (Q : Bool → Hp → Prop) (Q' : Bool → Hw → Prop) (χ : WX), Rl K F H C → RepS K H σ τ → we τ C Q' χ → QT K F H Q Q' → te σ H Q
def SimA (K : PySem.W.Frag) (te : TA) (we : WA) : Prop := ∀ (F H : Hp) (C : Hw) (σ : L2.St) (τ : Sw) (Q : List V → Hp → Prop) (Q' : List T → Hw → Prop) (χ : WX), Rl K F H C → RepS K H σ τ → we τ C Q' χ → QA K F H Q Q' → te σ H Q
def SimR (K : PySem.W.Frag) (r : R2) (w : W2) : Prop := ∀ (F H : Hp) (C : Hw) (x y : V) (v u : T) (Q : VK) (Q' : WK), Rl K F H C → Rep K H x v → Rep K H y u → w v u C Q' → QE K F H Q Q' → r x y H Q
def SimB (K : PySem.W.Frag) (r : List V → Hp → VK → Prop) (w : List T → Hw → WK → Prop) : Prop := ∀ (F H : Hp) (C : Hw) (xs : List V) (vs : List T) (Q : VK) (Q' : WK), Rl K F H C → Reps K H xs vs → w vs C Q' → QE K F H Q Q' → r xs H Q
def SimM (K : PySem.W.Frag) (r : V → List V → Hp → VK → Prop) (w : T → List T → Hw → WK → Prop) : Prop := ∀ (F H : Hp) (C : Hw) (x : V) (v : T) (xs : List V) (vs : List T) (Q : VK) (Q' : WK), Rl K F H C → Rep K H x v → Reps K H xs vs → w v vs C Q' → QE K F H Q Q' → r x xs H Q
def SimU (K : PySem.W.Frag) (r : V → Hp → VK → Prop) (w : T → Hw → WK → Prop) : Prop := ∀ (F H : Hp) (C : Hw) (x : V) (v : T) (Q : VK) (Q' : WK), Rl K F H C → Rep K H x v → w v C Q' → QE K F H Q Q' → r x H Q
def SdE (X : Cx) (e : Expr) (w : WE) : Prop := ∃ t, PE X e t ∧ SimE X.K t w
def SdT (X : Cx) (e : Expr) (w : WT) : Prop := ∃ t, PT X e t ∧ SimT X.K t w
def SdW (X : Cx) (e : Expr) (w : WT) : Prop := ∃ t, PW X e t ∧ SimT X.K t w
def SdA (X : Cx) (es : List Expr) (w : WA) : Prop := ∃ t, PA X es t ∧ SimA X.K t w
def OpS (X : Cx) (f : Value → Value → Sem Value) (w : W2) : Prop := ∃ r, OpR X f r ∧ SimR X.K r w
def IxS (X : Cx) (w : W2) : Prop := ∃ r, IxR X r ∧ SimR X.K r w
def CallS (X : Cx) (f : Value) (w : List T → Hw → WK → Prop) : Prop := ∃ r, CallR X f r ∧ SimB X.K r w
def MtS (X : Cx) (id : String) (w : T → List T → Hw → WK → Prop) : Prop := ∃ r, MtR X id r ∧ SimM X.K r w
section
variable {K : PySem.W.Frag} {ta tb tc : TE} {wa wb wc : WE} {r r' : R2} {w w' : W2}
theorem s_var {i : Nat} : SimE K (tVar i) (eVar i) := fun F H C σ τ Q Q' χ R S h q => by
  obtain ⟨v, e, h⟩ := h
  obtain ⟨x, ex, rx⟩ := S.2 i v e
  exact ⟨x, ex, q x v H C R (Tx.refl H) rx h⟩
theorem s_c {x : V} {v : T} (h : ∀ H, Rep K H x v) : SimE K (tC x) (eC v) := fun F H C σ τ Q Q' χ R S w q => q x v H C R (Tx.refl H) (h H) w
theorem s_op (ha : SimE K ta wa) (hb : SimE K tb wb) (hr : SimR K r w) : SimE K (tOp r ta tb) (eBin w wa wb) := fun F H C σ τ Q Q' χ R S h q => by
  refine ha F H C σ τ _ _ χ R S h fun x v H1 C1 R1 t1 rx h1 => ?_
  refine hb F H1 C1 σ τ _ _ χ R1 (S.tx t1) h1 fun y u H2 C2 R2 t2 ry h2 => ?_
  exact hr F H2 C2 x y v u Q Q' R2 (rx.tx t2) ry h2 (QE.at q (t1.trans t2))
theorem s_un {r : V → Hp → VK → Prop} {w : T → Hw → WK → Prop} (ha : SimE K ta wa) (hr : SimU K r w) : SimE K (tUn r ta) (eUn w wa) := fun F H C σ τ Q Q' χ R S h q => by
  refine ha F H C σ τ _ _ χ R S h fun x v H1 C1 R1 t1 rx h1 => ?_
  exact hr F H1 C1 x v Q Q' R1 rx h1 (QE.at q t1)
theorem s_nil : SimA K tNil aNil := fun F H C σ τ Q Q' χ R S h q => q [] [] H C R (Tx.refl H) reps_nil h
theorem s_cons {t : TA} {wt : WA} (ha : SimE K ta wa) (hb : SimA K t wt) : SimA K (tCons ta t) (aCons wa wt) := fun F H C σ τ Q Q' χ R S h q => by
  refine ha F H C σ τ _ _ χ R S h fun x v H1 C1 R1 t1 rx h1 => ?_
  exact hb F H1 C1 σ τ _ _ χ R1 (S.tx t1) h1 fun xs vs H2 C2 R2 t2 rs h2 => q (x :: xs) (v :: vs) H2 C2 R2 (t1.trans t2) (reps_cons (rx.tx t2) rs) h2
theorem s_tup {t : TA} {wt : WA} (ha : SimA K t wt) : SimE K (tTup t) (eTup wt) := fun F H C σ τ Q Q' χ R S h q => by
  refine ha F H C σ τ _ _ χ R S h fun xs vs H1 C1 R1 t1 rs h1 => ⟨by rw [rs.length]; exact h1.1, fun p hp => ?_⟩
  exact q _ _ _ C1 (R1.hid hp) (t1.trans (Tx.new hp)) (rep_tup (SqT.of upd_same) (rs.tx (Tx.new hp))) h1.2
theorem s_lst {t : TA} {wt : WA} (ha : SimA K t wt) : SimE K (tLst t) (eLst wt) := fun F H C σ τ Q Q' χ R S h q => by
  refine ha F H C σ τ _ _ χ R S h fun xs vs H1 C1 R1 t1 rs h1 => ⟨by rw [rs.length]; exact h1.1, fun p hp => ?_⟩
  exact q _ _ _ _ (R1.newL hp rs) (t1.trans (Tx.new hp)) rep_ref (h1.2 p (R1.free hp))
theorem s_bi {r : List V → Hp → VK → Prop} {w : List T → Hw → WK → Prop} {t : TA} {wt : WA} (hr : SimB K r w) (ha : SimA K t wt) : SimE K (tCB r t) (eBi w wt) := fun F H C σ τ Q Q' χ R S h q => by
  refine ha F H C σ τ _ _ χ R S h fun xs vs H1 C1 R1 t1 rs h1 => ?_
  exact hr F H1 C1 xs vs Q Q' R1 rs h1 (QE.at q t1)
theorem s_and (ha : SimE K ta wa) (hb : SimE K tb wb) : SimE K (tAndV ta tb) (eAnd wa wb) := fun F H C σ τ Q Q' χ R S h q => by
  refine ha F H C σ τ _ _ χ R S h fun x v H1 C1 R1 t1 rx h1 => ?_
  obtain ⟨k, rfl, h1⟩ := h1
  refine ⟨k, of_bl rx, ?_⟩
  cases k with
  | true => exact hb F H1 C1 σ τ Q Q' χ R1 (S.tx t1) h1 (QE.at q t1)
  | false => exact q _ _ H1 C1 R1 t1 rep_bl h1
theorem s_or (ha : SimE K ta wa) (hb : SimE K tb wb) : SimE K (tOrV ta tb) (eOr wa wb) := fun F H C σ τ Q Q' χ R S h q => by
  refine ha F H C σ τ _ _ χ R S h fun x v H1 C1 R1 t1 rx h1 => ?_
  obtain ⟨k, rfl, h1⟩ := h1
  refine ⟨k, of_bl rx, ?_⟩
  cases k with
  | true => exact q _ _ H1 C1 R1 t1 rep_bl h1
  | false => exact hb F H1 C1 σ τ Q Q' χ R1 (S.tx t1) h1 (QE.at q t1)
theorem s_bl (ha : SimE K ta wa) : SimT K (tTest ta) (tBl wa) := fun F H C σ τ Q Q' χ R S h q => by
  refine ha F H C σ τ _ _ χ R S h fun x v H1 C1 R1 t1 rx h1 => ?_
  obtain ⟨k, rfl, h1⟩ := h1
  exact ⟨k, of_bl rx, q k H1 C1 R1 t1 h1⟩
theorem s_tru (ha : SimE K ta wa) : SimT K (fun σ H Q => ta σ H fun x H' => ∃ k, TruV K x H' k ∧ Q k H') (tTru wa) := fun F H C σ τ Q Q' χ R S h q => by
  refine ha F H C σ τ _ _ χ R S h fun x v H1 C1 R1 t1 rx h1 => ?_
  obtain ⟨k, hk, h1⟩ := h1
  refine ⟨k, ?_, q k H1 C1 R1 t1 h1⟩
  have emp : ∀ {ys : List V} {xs : List T}, Reps K H1 ys xs → ys.isEmpty = xs.isEmpty := fun {ys xs} r => by
    have := r.length
    cases ys <;> cases xs <;> simp_all
  cases v with
  | non => cases of_non rx; exact hk
  | bl b => cases of_bl rx; exact hk
  | int i => cases of_int rx; exact hk
  | str z => cases of_str rx; exact hk
  | tup xs =>
    obtain ⟨a, ys, rfl, hq, r⟩ := of_tup rx
    refine .inr (.inl ⟨ys, hq, ?_⟩)
    rw [emp r]; exact hk
  | cl xs =>
    obtain ⟨a, ys, rfl, hq, r⟩ := of_cl rx
    refine .inl ⟨ys, hq.sq, ?_⟩
    rw [emp r]; exact hk
  | ref a =>
    cases of_ref rx
    rcases hk with ⟨xs, hx, e⟩ | ⟨kvs, hx, e⟩
    · obtain ⟨ys, hy, r⟩ := R1.lst hx
      refine .inl ⟨ys, SqL.of hy, ?_⟩
      rw [emp r]; exact e
    · obtain ⟨ks, hy, r⟩ := R1.obj a _ hx
      refine .inr (.inr ⟨ks, hy, ?_⟩)
      have := Paired.length r
      rw [e]
      cases ks <;> cases kvs <;> simp_all
theorem s_an {t u : TT} {w w' : WT} (ha : SimT K t w) (hb : SimT K u w') : SimT K (tAnd t u) (tAn w w') := fun F H C σ τ Q Q' χ R S h q => by
  refine ha F H C σ τ _ _ χ R S h fun k H1 C1 R1 t1 h1 => ?_
  cases k with
  | true => exact hb F H1 C1 σ τ Q Q' χ R1 (S.tx t1) h1 fun b H' C' R' t' => q b H' C' R' (t1.trans t')
  | false => exact q _ H1 C1 R1 t1 h1
theorem s_or' {t u : TT} {w w' : WT} (ha : SimT K t w) (hb : SimT K u w') : SimT K (tOr t u) (tOr' w w') := fun F H C σ τ Q Q' χ R S h q => by
  refine ha F H C σ τ _ _ χ R S h fun k H1 C1 R1 t1 h1 => ?_
  cases k with
  | true => exact q _ H1 C1 R1 t1 h1
  | false => exact hb F H1 C1 σ τ Q Q' χ R1 (S.tx t1) h1 fun b H' C' R' t' => q b H' C' R' (t1.trans t')
theorem s_no {t : TT} {w : WT} (ha : SimT K t w) : SimT K (tNot t) (tNo w) := fun F H C σ τ Q Q' χ R S h q => by
  refine ha F H C σ τ _ _ χ R S h fun k H1 C1 R1 t1 h1 => ?_
  exact q _ H1 C1 R1 t1 h1
end
section
variable {X : Cx}
theorem o_add : OpS X (binaryOp .Add) wAdd := ⟨_, op_add.or (op_add_str.or (op_cat.or (op_catT0.or op_catT))), fun F H C x y v u Q Q' R rx ry h q => by
  cases v <;> cases u <;> first | exact False.elim h | skip
  case int.int i j => cases of_int rx; cases of_int ry; exact .inl ⟨i, j, rfl, rfl, q _ _ H C R (Tx.refl H) rep_int h⟩
  case str.str i j => cases of_str rx; cases of_str ry; exact .inr (.inl ⟨i, j, rfl, rfl, h.1, q _ _ H C R (Tx.refl H) rep_str h.2⟩)
  case ref.ref a b =>
    cases of_ref rx; cases of_ref ry
    obtain ⟨xs, ys, ha, hb, hl, h⟩ := h
    obtain ⟨zs, hz, rz⟩ := R.lst ha
    obtain ⟨ws, hw, rw'⟩ := R.lst hb
    exact .inr (.inr (.inl ⟨a, b, zs, ws, rfl, rfl, hz, hw, by rw [rz.length, rw'.length]; exact hl, fun p hp => q _ _ _ _ (R.newL hp (rz.app rw')) (Tx.new hp) rep_ref (h p (R.free hp))⟩))
  case tup.tup xs ys =>
    obtain ⟨a, zs, rfl, hz, rz⟩ := of_tup rx
    obtain ⟨b, ws, rfl, hw, rw'⟩ := of_tup ry
    by_cases e : zs = []
    · subst e
      have e2 : xs = [] := by
        have := rz.length
        cases xs with
        | nil => rfl
        | cons _ _ => cases this
      subst e2
      exact .inr (.inr (.inr (.inl ⟨a, b, ws, rfl, rfl, hz, hw, q _ _ H C R (Tx.refl H) (rep_tup hw rw') h.2⟩)))
    · refine .inr (.inr (.inr (.inr ⟨a, b, zs, ws, rfl, rfl, hz, hw, e, by rw [rz.length, rw'.length]; exact h.1, fun e2 => ?_, fun e2 p hp => ?_⟩)))
      · subst e2
        have e3 : ys = [] := by
          have := rw'.length
          cases ys with
          | nil => rfl
          | cons _ _ => cases this
        subst e3
        refine q _ _ H C R (Tx.refl H) (rep_tup hz rz) ?_
        have := h.2
        rw [List.append_nil] at this
        exact this
      · exact q _ _ _ C (R.hid hp) (Tx.new hp) (rep_tup (SqT.of upd_same) ((rz.app rw').tx (Tx.new hp))) h.2⟩
theorem o_sub : OpS X (binaryOp .Sub) wSub := ⟨_, op_sub, fun F H C x y v u Q Q' R rx ry h q => by
  cases v <;> cases u <;> first | exact False.elim h | skip
  case int.int i j => cases of_int rx; cases of_int ry; exact ⟨i, j, rfl, rfl, q _ _ H C R (Tx.refl H) rep_int h⟩⟩
theorem o_mul : OpS X (binaryOp .Mult) wMul := ⟨_, op_mul, fun F H C x y v u Q Q' R rx ry h q => by
  cases v <;> cases u <;> first | exact False.elim h | skip
  case int.int i j => cases of_int rx; cases of_int ry; exact ⟨i, j, rfl, rfl, h.1, q _ _ H C R (Tx.refl H) rep_int h.2⟩⟩
theorem o_div : OpS X (binaryOp .FloorDiv) wDiv := ⟨_, op_fdiv, fun F H C x y v u Q Q' R rx ry h q => by
  cases v <;> cases u <;> first | exact False.elim h | skip
  case int.int i j => cases of_int rx; cases of_int ry; exact ⟨i, j, rfl, rfl, h.1, q _ _ H C R (Tx.refl H) rep_int h.2⟩⟩
theorem o_mod : OpS X (binaryOp .Mod) wMod := ⟨_, op_mod, fun F H C x y v u Q Q' R rx ry h q => by
  cases v <;> cases u <;> first | exact False.elim h | skip
  case int.int i j => cases of_int rx; cases of_int ry; exact ⟨i, j, rfl, rfl, h.1, q _ _ H C R (Tx.refl H) rep_int h.2⟩⟩
theorem o_pow : OpS X (binaryOp .Pow) wPow := ⟨_, op_pow, fun F H C x y v u Q Q' R rx ry h q => by
  cases v <;> cases u <;> first | exact False.elim h | skip
  case int.int i j => cases of_int rx; cases of_int ry; exact ⟨i, j, rfl, rfl, h.1, q _ _ H C R (Tx.refl H) rep_int h.2⟩⟩
theorem o_lt : OpS X (compareOp .Lt) wLt := ⟨_, op_lt.or op_lt_str, fun F H C x y v u Q Q' R rx ry h q => by
  cases v <;> cases u <;> first | exact False.elim h | skip
  case int.int i j => cases of_int rx; cases of_int ry; exact .inl ⟨i, j, rfl, rfl, q _ _ H C R (Tx.refl H) rep_bl h⟩
  case str.str i j => cases of_str rx; cases of_str ry; exact .inr ⟨i, j, rfl, rfl, q _ _ H C R (Tx.refl H) rep_bl h⟩⟩
theorem o_le : OpS X (compareOp .LtE) wLe := ⟨_, op_le, fun F H C x y v u Q Q' R rx ry h q => by
  cases v <;> cases u <;> first | exact False.elim h | skip
  case int.int i j => cases of_int rx; cases of_int ry; exact ⟨i, j, rfl, rfl, q _ _ H C R (Tx.refl H) rep_bl h⟩⟩
theorem o_gt : OpS X (compareOp .Gt) wGt := ⟨_, op_gt, fun F H C x y v u Q Q' R rx ry h q => by
  cases v <;> cases u <;> first | exact False.elim h | skip
  case int.int i j => cases of_int rx; cases of_int ry; exact ⟨i, j, rfl, rfl, q _ _ H C R (Tx.refl H) rep_bl h⟩⟩
def rDir (X : Cx) (f : Value → Value → Sem Value) : R2 := fun x y H Q => ∀ (pins : List (Addr × Obj)) (s : Shared) (σ : L2.St) (v u : Value), Inv X pins σ H s → RelV x v → RelV y u → wpAny (model X.prog X.w) X.A (f v u) (EP X pins σ Q) X.xe s
theorem op_dir {f : Value → Value → Sem Value} : OpR X f (rDir X f) := fun pins s σ H x y v u Q I rx ry h => h pins s σ v u I rx ry
theorem items_at {pins : List (Addr × Obj)} {σ : L2.St} {H : Hp} {s : Shared} {A : Around} {n : Nat} {ts us : List T} {ys zs : List V} {its its' : List Value} (I : Inv X pins σ H s) (r : Reps X.K H ys ts) (r' : Reps X.K H zs us) (rI : Vals ys its) (rI' : Vals zs its')
    (f : flats ts n = true) (f' : flats us n = true) (hu : A.units + n < cLine) :
    ∀ j (h1 : j < its.toArray.size) (h2 : j < its'.toArray.size), SeqAt.EqAt A s its.toArray[j] its'.toArray[j] (eqJ ts us j) := fun j h1 h2 => by
  have l1 : its.toArray.size = ts.length := by rw [List.size_toArray, ← rI.length, r.length]
  have l2 : its'.toArray.size = us.length := by rw [List.size_toArray, ← rI'.length, r'.length]
  have i1 : ts[j]? = some (ts[j]'(by omega)) := by simp [l1 ▸ h1]
  have i2 : us[j]? = some (us[j]'(by omega)) := by simp [l2 ▸ h2]
  obtain ⟨x1, g1, q1⟩ := r.get i1
  obtain ⟨x2, g2, q2⟩ := r'.get i2
  obtain ⟨u1, k1, z1⟩ := rI.get g1
  obtain ⟨u2, k2, z2⟩ := rI'.get g2
  have e1 : its.toArray[j] = u1 := by
    have : its[j]? = some its.toArray[j] := by simp
    rw [k1] at this; exact (Option.some.inj this).symm
  have e2 : its'.toArray[j] = u2 := by
    have : its'[j]? = some its'.toArray[j] := by simp
    rw [k2] at this; exact (Option.some.inj this).symm
  rw [e1, e2]
  unfold eqJ
  simp only [i1, i2]
  exact eqAtT I n (flats_get f i1) (flats_get f' i2) q1 q2 z1 z2 hu
theorem eqTs_len {vs ws : List T} (h : vs.length ≠ ws.length) : eqTs vs ws = false := by
  rw [← eqTs_range, show (vs.length == ws.length) = false from beq_eq_false_iff_ne.mpr h, Bool.and_false]
theorem eqTs_same {vs ws : List T} (h : vs.length = ws.length) : (List.range vs.length).all (eqJ vs ws) = eqTs vs ws := by
  rw [← eqTs_range, h, Nat.min_self, beq_self_eq_true, Bool.and_true]
theorem rcT {pins : List (Addr × Obj)} {σ : L2.St} {H : Hp} {s : Shared} {v w : T} {x y : V} {u u' : Value} {A : Around} {n : Nat} (I : Inv X pins σ H s) (fv : flat v n = true) (fw : flat w n = true) (rv : Rep X.K H x v) (rw' : Rep X.K H y w)
    (ru : RelV x u) (ru' : RelV y u') (hu : A.units + n + 1 < cLine) : SeqAt.RcAt A s u u' (eqT v w) ∧ SeqAt.RcNeAt A s u u' (!eqT v w) := by
  have hu0 : A.units < cLine := by omega
  cases ev : sc v with
  | some a =>
    obtain ⟨rfl, f1⟩ := rep_sc ev rv
    cases ew : sc w with
    | some b =>
      obtain ⟨rfl, f2⟩ := rep_sc ew rw'
      cases v with
      | non =>
        cases ev; cases ru
        cases w with
        | non => cases ew; cases ru'; unfold eqT; exact ⟨.none_none, .none_none⟩
        | bl c => cases ew; cases ru'; unfold eqT; exact ⟨.none_bool c, .none_bool c⟩
        | int c => cases ew; obtain ⟨t, rfl⟩ := ru'; unfold eqT; exact ⟨.none_int c t, .none_int c t⟩
        | str c => cases ew; obtain ⟨t, rfl⟩ := ru'; unfold eqT; exact ⟨.none_str c t, .none_str c t⟩
        | _ => cases ew
      | bl d =>
        cases ev; cases ru
        cases w with
        | non => cases ew; cases ru'; unfold eqT; exact ⟨.bool_none d, .bool_none d⟩
        | bl c => cases ew; cases ru'; unfold eqT; exact ⟨.bool_bool d c, .bool_bool d c⟩
        | int c => cases ew; obtain ⟨t, rfl⟩ := ru'; unfold eqT; exact ⟨.bool_int d c t, .bool_int d c t⟩
        | str c => cases ew; obtain ⟨t, rfl⟩ := ru'; unfold eqT; exact ⟨.bool_str d c t, .bool_str d c t⟩
        | _ => cases ew
      | int d =>
        cases ev; obtain ⟨t', rfl⟩ := ru
        cases w with
        | non => cases ew; cases ru'; unfold eqT; exact ⟨.int_none d t', .int_none d t'⟩
        | bl c => cases ew; cases ru'; unfold eqT; exact ⟨.int_bool d t' c, .int_bool d t' c⟩
        | int c => cases ew; obtain ⟨t, rfl⟩ := ru'; unfold eqT; exact ⟨.int_int d t' c t, .int_int d t' c t⟩
        | str c => cases ew; obtain ⟨t, rfl⟩ := ru'; unfold eqT; exact ⟨.int_str d t' c t, .int_str d t' c t⟩
        | _ => cases ew
      | str d =>
        cases ev; obtain ⟨t', rfl⟩ := ru
        cases w with
        | non => cases ew; cases ru'; unfold eqT; exact ⟨.str_none d t', .str_none d t'⟩
        | bl c => cases ew; cases ru'; unfold eqT; exact ⟨.str_bool d t' c, .str_bool d t' c⟩
        | int c => cases ew; obtain ⟨t, rfl⟩ := ru'; unfold eqT; exact ⟨.str_int d t' c t, .str_int d t' c t⟩
        | str c => cases ew; obtain ⟨t, rfl⟩ := ru'; unfold eqT; exact ⟨.str_str d t' c t, .str_str d t' c t⟩
        | _ => cases ew
      | _ => cases ev
    | none =>
      obtain ⟨ts, m, rfl, em, ft⟩ := sc_none fw ew
      obtain ⟨b, zs, rfl, hq, r⟩ := of_tup rw'
      cases ru'
      obtain ⟨its, _, p, _⟩ := I.tuple hq
      cases v with
      | non => cases ev; cases ru; unfold eqT; exact ⟨.none_tuple p hu0, .none_tuple p hu0⟩
      | bl c => cases ev; cases ru; unfold eqT; exact ⟨.bool_tuple c p hu0, .bool_tuple c p hu0⟩
      | int i => cases ev; obtain ⟨t, rfl⟩ := ru; unfold eqT; exact ⟨.int_tuple i t p hu0, .int_tuple i t p hu0⟩
      | str i => cases ev; obtain ⟨t, rfl⟩ := ru; unfold eqT; exact ⟨.str_tuple i t p hu0, .str_tuple i t p hu0⟩
      | _ => cases ev
  | none =>
    obtain ⟨ts, m, rfl, em, ft⟩ := sc_none fv ev
    subst em
    obtain ⟨a, ys, rfl, hq, r⟩ := of_tup rv
    cases ru
    obtain ⟨its, rI, p, _⟩ := I.tuple hq
    cases ew : sc w with
    | some b =>
      obtain ⟨rfl, f2⟩ := rep_sc ew rw'
      cases w with
      | non => cases ew; cases ru'; unfold eqT; exact ⟨.tuple_none p hu0, .tuple_none p hu0⟩
      | bl c => cases ew; cases ru'; unfold eqT; exact ⟨.tuple_bool c p hu0, .tuple_bool c p hu0⟩
      | int i => cases ew; obtain ⟨t, rfl⟩ := ru'; unfold eqT; exact ⟨.tuple_int i t p hu0, .tuple_int i t p hu0⟩
      | str i => cases ew; obtain ⟨t, rfl⟩ := ru'; unfold eqT; exact ⟨.tuple_str i t p hu0, .tuple_str i t p hu0⟩
      | _ => cases ew
    | none =>
      obtain ⟨us, m', rfl, em, fu⟩ := sc_none fw ew
      cases em
      obtain ⟨b, zs, rfl, hq', r'⟩ := of_tup rw'
      cases ru'
      obtain ⟨its', rI', p', _⟩ := I.tuple hq'
      have l1 : its.toArray.size = ts.length := by rw [List.size_toArray, ← rI.length, r.length]
      have l2 : its'.toArray.size = us.length := by rw [List.size_toArray, ← rI'.length, r'.length]
      have hi := items_at (A := A.in1) I r r' rI rI' ft fu (by show A.units + 1 + m < cLine; omega)
      have k1 := SeqAt.RcAt.tuples (A := A) p p' hu0 hi
      have k2 := SeqAt.RcNeAt.tuples (A := A) p p' hu0 hi
      rw [l1, l2, eqTs_range] at k1 k2
      unfold eqT
      exact ⟨k1, k2⟩
theorem list_vs {pins : List (Addr × Obj)} {σ : L2.St} {H : Hp} {s : Shared} {w : T} {y : V} {u' : Value} {A : Around} {n : Nat} {a : Addr} {its : List Value} (I : Inv X pins σ H s) (fw : flat w n = true) (rw' : Rep X.K H y w) (ru' : RelV y u') (hu0 : A.units < cLine)
    (p : s.heap.IsList a its.toArray) : (SeqAt.RcAt A s (.ref a) u' false ∧ SeqAt.RcNeAt A s (.ref a) u' true) ∧ (SeqAt.RcAt A s u' (.ref a) false ∧ SeqAt.RcNeAt A s u' (.ref a) true) := by
  cases w with
  | non => cases of_non rw'; cases ru'; exact ⟨⟨.list_none p hu0, .list_none p hu0⟩, .none_list p hu0, .none_list p hu0⟩
  | bl c => cases of_bl rw'; cases ru'; exact ⟨⟨.list_bool c p hu0, .list_bool c p hu0⟩, .bool_list c p hu0, .bool_list c p hu0⟩
  | int c => cases of_int rw'; obtain ⟨t, rfl⟩ := ru'; exact ⟨⟨.list_int c t p hu0, .list_int c t p hu0⟩, .int_list c t p hu0, .int_list c t p hu0⟩
  | str c => cases of_str rw'; obtain ⟨t, rfl⟩ := ru'; exact ⟨⟨.list_str c t p hu0, .list_str c t p hu0⟩, .str_list c t p hu0, .str_list c t p hu0⟩
  | tup ts =>
    obtain ⟨b, zs, rfl, hq, r⟩ := of_tup rw'
    cases ru'
    obtain ⟨its', _, p', _⟩ := I.tuple hq
    exact ⟨⟨.list_tuple p p' hu0, .list_tuple p p' hu0⟩, .tuple_list p' p hu0, .tuple_list p' p hu0⟩
  | ref b => unfold flat at fw; cases fw
  | cl b => unfold flat at fw; cases fw
theorem o_eqG (neg : Bool) (hu : X.A.units + 150 < cLine) : OpS X (compareOp (if neg then .NotEq else .Eq)) (wEqG neg) := ⟨_, op_dir, fun F H C x y v u Q Q' R rx ry h q pins s σ v' u' I r1 r2 => by
  have fin : ∀ {k : Bool}, SeqAt.RcAt X.A s v' u' k ∧ SeqAt.RcNeAt X.A s v' u' (!k) → Q (.bl (if neg then !k else k)) H → wpAny (model X.prog X.w) X.A (compareOp (if neg then .NotEq else .Eq) v' u') (EP X pins σ Q) X.xe s := fun {k} e hq => by
    cases neg with
    | true => exact EqBoolInt.of_rcne e.2 ⟨.bl (!k), H, I, rfl, hq⟩
    | false => exact EqBoolInt.of_rc e.1 ⟨.bl k, H, I, rfl, hq⟩
  have two : ∀ {v u : T}, Rep X.K H x v → Rep X.K H y u → isFlat v ∧ isFlat u ∧ Q' (.bl (if neg then !eqT v u else eqT v u)) C → wpAny (model X.prog X.w) X.A (compareOp (if neg then .NotEq else .Eq) v' u') (EP X pins σ Q) X.xe s := fun {v u} rx ry h =>
    fin (rcT I h.1 h.2.1 rx ry r1 r2 (show X.A.units + 100 + 1 < cLine by omega)) (q _ _ H C R (Tx.refl H) rep_bl h.2.2)
  have hn : (if neg then !false else false) = neg := by cases neg <;> rfl
  have lft : ∀ {a : Addr} {u : T}, v' = .ref a → Rep X.K H y u → (∃ xs, C a = some (.lst xs)) ∧ isFlat u ∧ Q' (.bl neg) C → wpAny (model X.prog X.w) X.A (compareOp (if neg then .NotEq else .Eq) v' u') (EP X pins σ Q) X.xe s := fun {a u} ev ry h => by
    obtain ⟨⟨xs, hx⟩, f, hq⟩ := h
    obtain ⟨ys, hy, r⟩ := R.lst hx
    obtain ⟨its, _, p, _⟩ := I.list (SqL.of hy)
    have z := (list_vs (A := X.A) I f ry r2 (by omega) p.isList).1
    subst ev
    refine fin (k := false) z ?_
    rw [hn]
    exact q _ _ H C R (Tx.refl H) rep_bl hq
  have rgt : ∀ {b : Addr} {v : T}, u' = .ref b → Rep X.K H x v → (∃ xs, C b = some (.lst xs)) ∧ isFlat v ∧ Q' (.bl neg) C → wpAny (model X.prog X.w) X.A (compareOp (if neg then .NotEq else .Eq) v' u') (EP X pins σ Q) X.xe s := fun {b v} eu rx h => by
    obtain ⟨⟨xs, hx⟩, f, hq⟩ := h
    obtain ⟨ys, hy, r⟩ := R.lst hx
    obtain ⟨its, _, p, _⟩ := I.list (SqL.of hy)
    have z := (list_vs (A := X.A) I f rx r1 (by omega) p.isList).2
    subst eu
    refine fin (k := false) z ?_
    rw [hn]
    exact q _ _ H C R (Tx.refl H) rep_bl hq
  cases v with
  | ref a =>
    have ev : v' = .ref a := by cases of_ref rx; exact r1
    cases u with
    | ref b =>
      have eu : u' = .ref b := by cases of_ref ry; exact r2
      obtain ⟨xs, ys, ha, hb, hf, hq⟩ := h
      obtain ⟨zs, hz, rz⟩ := R.lst ha
      obtain ⟨ws, hw, rw'⟩ := R.lst hb
      obtain ⟨its, rI, p, _⟩ := I.list (SqL.of hz)
      obtain ⟨its', rI', p', _⟩ := I.list (SqL.of hw)
      have l1 : its.toArray.size = xs.length := by rw [List.size_toArray, ← rI.length, rz.length]
      have l2 : its'.toArray.size = ys.length := by rw [List.size_toArray, ← rI'.length, rw'.length]
      subst ev
      subst eu
      refine fin ?_ (q _ _ H C R (Tx.refl H) rep_bl hq)
      by_cases hl : xs.length = ys.length
      · obtain ⟨f1, f2⟩ := hf hl
        have hi := items_at (A := X.A.in1) I rz rw' rI rI' f1 f2 (by show X.A.units + 1 + 100 < cLine; omega)
        have k1 := SeqAt.RcAt.lists (A := X.A) p.isList p'.isList (by rw [l1, l2, hl]) (by omega) hi
        have k2 := SeqAt.RcNeAt.lists (A := X.A) p.isList p'.isList (by rw [l1, l2, hl]) (by omega) hi
        rw [l1, eqTs_same hl] at k1 k2
        exact ⟨k1, k2⟩
      · rw [eqTs_len hl]
        have hne : (its.toArray.size != its'.toArray.size) = true := by rw [l1, l2]; exact bne_iff_ne.mpr hl
        exact ⟨SeqAt.RcAt.lists_lengths p.isList p'.isList hne (by omega), SeqAt.RcNeAt.lists_lengths p.isList p'.isList hne (by omega)⟩
    | non => exact lft ev ry h
    | bl b => exact lft ev ry h
    | int b => exact lft ev ry h
    | str b => exact lft ev ry h
    | tup b => exact lft ev ry h
    | cl b => exact lft ev ry h
  | non =>
    cases u with
    | ref b => exact rgt (by cases of_ref ry; exact r2) rx h
    | _ => exact two rx ry h
  | bl _ =>
    cases u with
    | ref b => exact rgt (by cases of_ref ry; exact r2) rx h
    | _ => exact two rx ry h
  | int _ =>
    cases u with
    | ref b => exact rgt (by cases of_ref ry; exact r2) rx h
    | _ => exact two rx ry h
  | str _ =>
    cases u with
    | ref b => exact rgt (by cases of_ref ry; exact r2) rx h
    | _ => exact two rx ry h
  | tup _ =>
    cases u with
    | ref b => exact rgt (by cases of_ref ry; exact r2) rx h
    | _ => exact two rx ry h
  | cl _ =>
    cases u with
    | ref b => exact rgt (by cases of_ref ry; exact r2) rx h
    | _ => exact two rx ry h⟩
theorem o_eq (hu : X.A.units + 150 < cLine) : OpS X (compareOp .Eq) wEq := o_eqG false hu
theorem o_ne (hu : X.A.units + 150 < cLine) : OpS X (compareOp .NotEq) wNe := o_eqG true hu
open Classical in
noncomputable def eqAns (v : T) (us : List Value) (ts : List T) (u : Value) : Bool := match (us.zip ts).find? fun p => decide (p.1 = u) with
  | some p => eqT p.2 v
  | none => false
open Classical in
theorem eqAns_at {pins : List (Addr × Obj)} {σ : L2.St} {H : Hp} {s : Shared} {n : Nat} {v : T} {ts : List T} {ys : List V} {us : List Value} (I : Inv X pins σ H s) (r : Reps X.K H ys ts) (rI : Vals ys us) (f : flats ts n = true) {j : Nat} {u : Value} {t : T} (hu : us[j]? = some u) (ht : ts[j]? = some t) :
    eqAns v us ts u = eqT t v := by
  unfold eqAns
  have hm : (u, t) ∈ us.zip ts := by
    refine List.mem_iff_getElem?.mpr ⟨j, ?_⟩
    rw [List.getElem?_zip_eq_some]
    exact ⟨hu, ht⟩
  cases e : (us.zip ts).find? fun p => decide (p.1 = u) with
  | none =>
    have := List.find?_eq_none.mp e (u, t) hm
    simp at this
  | some p =>
    have h1 := List.find?_some e
    have h2 := List.mem_of_find?_eq_some e
    simp only [decide_eq_true_eq] at h1
    obtain ⟨i, hi⟩ := List.mem_iff_getElem?.mp h2
    obtain ⟨g1, g2⟩ := List.getElem?_zip_eq_some.mp hi
    obtain ⟨x1, k1, q1⟩ := r.get g2
    obtain ⟨x2, k2, q2⟩ := r.get ht
    obtain ⟨u1, m1, z1⟩ := rI.get k1
    obtain ⟨u2, m2, z2⟩ := rI.get k2
    rw [g1] at m1; cases m1
    rw [hu] at m2; cases m2
    rw [h1] at z1
    have e2 := z1.inj z2
    subst e2
    show eqT p.2 v = eqT t v
    rw [rep_inj I n (flats_get f g2) (flats_get f ht) q1 q2]
theorem any_ans {pins : List (Addr × Obj)} {σ : L2.St} {H : Hp} {s : Shared} {n : Nat} {v : T} {ts : List T} {ys : List V} {us : List Value} (I : Inv X pins σ H s) (r : Reps X.K H ys ts) (rI : Vals ys us) (f : flats ts n = true) : us.any (eqAns v us ts) = inL v ts := by
  have hl : us.length = ts.length := by rw [← rI.length, r.length]
  have hat : ∀ j, us[j]?.map (eqAns v us ts) = ts[j]?.map fun t => eqT t v := fun j => by
    by_cases hj : j < us.length
    · have e1 : us[j]? = some us[j] := by simp [hj]
      have e2 : ts[j]? = some (ts[j]'(by omega)) := by simp [hl ▸ hj]
      rw [e1, e2, Option.map_some, Option.map_some, eqAns_at I r rI f e1 e2]
    · rw [List.getElem?_eq_none (by omega), List.getElem?_eq_none (by omega)]; rfl
  have hm : us.map (eqAns v us ts) = ts.map fun t => eqT t v := by
    refine List.ext_getElem? fun j => ?_
    rw [List.getElem?_map, List.getElem?_map]
    exact hat j
  unfold inL
  have a1 : us.any (eqAns v us ts) = (us.map (eqAns v us ts)).any id := by rw [List.any_map]; rfl
  have a2 : (ts.any fun y => eqT y v) = (ts.map fun t => eqT t v).any id := by rw [List.any_map]; rfl
  rw [a1, a2, hm]
theorem o_inG (neg : Bool) (hu : X.A.units + 150 < cLine) : OpS X (compareOp (if neg then .NotIn else .In)) (wInG neg) := ⟨_, op_dir, fun F H C x y v u Q Q' R rx ry h q pins s σ v' u' I r1 r2 => by
  have sq : ∀ {p : Addr} {ys : List V} {ts : List T}, u' = .ref p → (SqL X.K H p ys ∨ SqT X.K H p ys) → Reps X.K H ys ts → isFlat v → flats ts eqDeep = true → Q' (.bl (if neg then !inL v ts else inL v ts)) C →
      wpAny (model X.prog X.w) X.A (compareOp (if neg then .NotIn else .In) v' u') (EP X pins σ Q) X.xe s := fun {p ys ts} eu hq r fv ft hq' => by
    subst eu
    have at1 : ∀ {its : List Value}, Vals ys its → ∀ w, w ∈ its.toArray → SeqAt.EqAt X.A.in1 s w v' (eqAns v its ts w) := fun {its} rI w hw => by
      have hw' : w ∈ its := by simpa using hw
      obtain ⟨j, hj⟩ := List.mem_iff_getElem?.mp hw'
      have hlt : j < its.length := (List.getElem?_eq_some_iff.mp hj).1
      have hl : its.length = ts.length := by rw [← rI.length, r.length]
      have e2 : ts[j]? = some (ts[j]'(by omega)) := by simp [hl ▸ hlt]
      rw [eqAns_at I r rI ft hj e2]
      obtain ⟨x2, k2, q2⟩ := r.get e2
      obtain ⟨u2, m2, z2⟩ := rI.get k2
      rw [hj] at m2; cases m2
      exact eqAtT I 100 (flats_get ft e2) fv q2 rx z2 r1 (by show X.A.units + 1 + 100 < cLine; omega)
    rcases hq with hq | hq
    · obtain ⟨its, rI, p, _⟩ := I.list hq
      have e : its.toArray.any (eqAns v its ts) = inL v ts := by rw [← any_ans I r rI ft]; simp
      cases neg with
      | true => refine SeqAt.notIn_listAt (eqAns v its ts) p.isList (at1 rI) ⟨.bl _, H, I, rfl, ?_⟩; rw [e]; exact q _ _ H C R (Tx.refl H) rep_bl hq'
      | false => refine SeqAt.in_listAt (eqAns v its ts) p.isList (at1 rI) ⟨.bl _, H, I, rfl, ?_⟩; rw [e]; exact q _ _ H C R (Tx.refl H) rep_bl hq'
    · obtain ⟨its, rI, p, _⟩ := I.tuple hq
      have e : its.toArray.any (eqAns v its ts) = inL v ts := by rw [← any_ans I r rI ft]; simp
      cases neg with
      | true => refine SeqAt.notIn_tupleAt (eqAns v its ts) p (at1 rI) ⟨.bl _, H, I, rfl, ?_⟩; rw [e]; exact q _ _ H C R (Tx.refl H) rep_bl hq'
      | false => refine SeqAt.in_tupleAt (eqAns v its ts) p (at1 rI) ⟨.bl _, H, I, rfl, ?_⟩; rw [e]; exact q _ _ H C R (Tx.refl H) rep_bl hq'
  have tpl : ∀ {ts : List T}, Rep X.K H y (.tup ts) → isFlat v ∧ flats ts eqDeep = true ∧ Q' (.bl (if neg then !inL v ts else inL v ts)) C → wpAny (model X.prog X.w) X.A (compareOp (if neg then .NotIn else .In) v' u') (EP X pins σ Q) X.xe s := fun {ts} ry h => by
    obtain ⟨a, ys, rfl, hq, r⟩ := of_tup ry
    exact sq r2 (.inr hq) r h.1 h.2.1 h.2.2
  have cls : ∀ {ts : List T}, Rep X.K H y (.cl ts) → isFlat v ∧ flats ts eqDeep = true ∧ Q' (.bl (if neg then !inL v ts else inL v ts)) C → wpAny (model X.prog X.w) X.A (compareOp (if neg then .NotIn else .In) v' u') (EP X pins σ Q) X.xe s := fun {ts} ry h => by
    obtain ⟨a, ys, rfl, hq, r⟩ := of_cl ry
    exact sq r2 (.inl hq.sq) r h.1 h.2.1 h.2.2
  have rf : ∀ {a : Addr}, Rep X.K H y (.ref a) → (∃ ys, C a = some (.lst ys) ∧ isFlat v ∧ flats ys eqDeep = true ∧ Q' (.bl (if neg then !inL v ys else inL v ys)) C) → wpAny (model X.prog X.w) X.A (compareOp (if neg then .NotIn else .In) v' u') (EP X pins σ Q) X.xe s := fun {a} ry h => by
    obtain ⟨ts, ht, h1, h2, h3⟩ := h
    obtain ⟨zs, hz, rz⟩ := R.lst ht
    cases of_ref ry
    exact sq r2 (.inl (SqL.of hz)) rz h1 h2 h3
  cases u with
  | tup ts => cases v <;> exact tpl ry h
  | cl ts => cases v <;> exact cls ry h
  | ref a => cases v <;> exact rf ry h
  | str j =>
    cases v with
    | str i =>
      cases of_str rx; cases of_str ry
      obtain ⟨t, rfl⟩ := r1
      obtain ⟨t', rfl⟩ := r2
      cases neg with
      | true => exact notIn_str ⟨.bl _, H, I, rfl, q _ _ H C R (Tx.refl H) rep_bl h⟩
      | false => exact in_str ⟨.bl _, H, I, rfl, q _ _ H C R (Tx.refl H) rep_bl h⟩
    | _ => exact False.elim h
  | non => cases v <;> exact False.elim h
  | bl _ => cases v <;> exact False.elim h
  | int _ => cases v <;> exact False.elim h⟩
theorem o_in (hu : X.A.units + 150 < cLine) : OpS X (compareOp .In) wIn := o_inG false hu
theorem o_notIn (hu : X.A.units + 150 < cLine) : OpS X (compareOp .NotIn) wNotIn := o_inG true hu
theorem o_ix : IxS X wIdx := ⟨_, ix_seq, fun F H C x y v u Q Q' R rx ry h q => by
  cases v <;> cases u <;> first | exact False.elim h | skip
  case tup.int xs i =>
    obtain ⟨a, ys, rfl, hq, r⟩ := of_tup rx
    cases of_int ry
    obtain ⟨v, hv, h⟩ := h
    obtain ⟨z, hz, rz⟩ := r.at hv
    exact .inr (.inl ⟨a, ys, i, z, rfl, rfl, hq, hz, q _ _ H C R (Tx.refl H) rz h⟩)
  case cl.int xs i =>
    obtain ⟨a, ys, rfl, hq, r⟩ := of_cl rx
    cases of_int ry
    obtain ⟨v, hv, h⟩ := h
    obtain ⟨z, hz, rz⟩ := r.at hv
    exact .inl ⟨a, ys, i, z, rfl, rfl, hq.sq, hz, q _ _ H C R (Tx.refl H) rz h⟩
  case ref.int a i =>
    cases of_ref rx
    cases of_int ry
    obtain ⟨xs, v, hx, hv, h⟩ := h
    obtain ⟨ys, hy, r⟩ := R.lst hx
    obtain ⟨z, hz, rz⟩ := r.at hv
    exact .inl ⟨a, ys, i, z, rfl, rfl, SqL.of hy, hz, q _ _ H C R (Tx.refl H) rz h⟩
  case str.int z i =>
    cases of_str rx
    cases of_int ry
    obtain ⟨hl, c, hc, h⟩ := h
    exact .inr (.inr ⟨z, i, c, rfl, rfl, hl, hc, q _ _ H C R (Tx.refl H) rep_str h⟩)⟩
def SlS (X : Cx) (w : T → Option Int → Option Int → Hw → WK → Prop) : Prop := ∃ r, SlR X r ∧ ∀ (F H : Hp) (C : Hw) (x : V) (v : T) (lo hi : Option Int) (Q : VK) (Q' : WK), Rl X.K F H C → Rep X.K H x v → w v lo hi C Q' → QE X.K F H Q Q' → r x lo hi H Q
theorem cut_reps {K : PySem.W.Frag} {H : Hp} {ys : List V} {xs : List T} (r : Reps K H ys xs) (lo hi : Option Int) : Reps K H (cutV ys lo hi) (cut xs lo hi) := by
  unfold cutV cut
  rw [r.length]
  exact (r.drop _).take _
theorem o_sl : SlS X wSl := ⟨_, sl_tup.or (sl_list.or sl_str), fun F H C x v lo hi Q Q' R rx h q => by
  cases v with
  | tup xs =>
    obtain ⟨a, ys, rfl, hq, r⟩ := of_tup rx
    exact .inl ⟨a, ys, rfl, hq, by rw [r.length]; exact h.1, fun p hp => q _ _ _ C (R.hid hp) (Tx.new hp) (rep_tup (SqT.of upd_same) ((cut_reps r lo hi).tx (Tx.new hp))) h.2⟩
  | cl xs =>
    obtain ⟨a, ys, rfl, hq, r⟩ := of_cl rx
    exact .inr (.inl ⟨a, ys, rfl, hq.sq, fun p hp => q _ _ _ _ (R.newL hp (cut_reps r lo hi)) (Tx.new hp) rep_ref (h p (R.free hp))⟩)
  | ref a =>
    cases of_ref rx
    obtain ⟨xs, hx, h⟩ := h
    obtain ⟨ys, hy, r⟩ := R.lst hx
    exact .inr (.inl ⟨a, ys, rfl, SqL.of hy, fun p hp => q _ _ _ _ (R.newL hp (cut_reps r lo hi)) (Tx.new hp) rep_ref (h p (R.free hp))⟩)
  | str z => cases of_str rx; exact .inr (.inr ⟨z, rfl, h.1, q _ _ H C R (Tx.refl H) rep_str h.2⟩)
  | _ => exact False.elim h⟩
theorem of_one {K : PySem.W.Frag} {H : Hp} {xs : List V} {v : T} (h : Reps K H xs [v]) : ∃ x, xs = [x] ∧ Rep K H x v := by
  obtain ⟨y, r, rfl, a, b⟩ := of_cons h
  cases of_nil b
  exact ⟨y, rfl, a⟩
theorem of_two {K : PySem.W.Frag} {H : Hp} {xs : List V} {v w : T} (h : Reps K H xs [v, w]) : ∃ x y, xs = [x, y] ∧ Rep K H x v ∧ Rep K H y w := by
  obtain ⟨y, r, rfl, a, b⟩ := of_cons h
  obtain ⟨z, rfl, c⟩ := of_one b
  exact ⟨y, z, rfl, a, c⟩
theorem b_len : CallS X (.builtin "len") bLen := ⟨_, call_len_seq.or call_len_str, fun F H C xs vs Q Q' R rs h q => by
  obtain ⟨v, rfl, h⟩ := h
  obtain ⟨x, rfl, rx⟩ := of_one rs
  cases v with
  | str z => cases of_str rx; exact .inr ⟨z, rfl, h.1, q _ _ H C R (Tx.refl H) rep_int h.2⟩
  | tup xs =>
    obtain ⟨a, ys, rfl, hq, r⟩ := of_tup rx
    exact .inl ⟨a, ys, rfl, .inr hq, by rw [r.length]; exact q _ _ H C R (Tx.refl H) rep_int h⟩
  | cl xs =>
    obtain ⟨a, ys, rfl, hq, r⟩ := of_cl rx
    exact .inl ⟨a, ys, rfl, .inl hq.sq, by rw [r.length]; exact q _ _ H C R (Tx.refl H) rep_int h⟩
  | ref a =>
    cases of_ref rx
    obtain ⟨xs, hx, h⟩ := h
    obtain ⟨ys, hy, r⟩ := R.lst hx
    exact .inl ⟨a, ys, rfl, .inl (SqL.of hy), by rw [r.length]; exact q _ _ H C R (Tx.refl H) rep_int h⟩
  | _ => exact False.elim h⟩
theorem b_max (hc : X.calm = true) : CallS X (.builtin "max") bMax := ⟨_, call_max2 hc, fun F H C xs vs Q Q' R rs h q => by
  obtain ⟨i, j, rfl, h⟩ := h
  obtain ⟨x, y, rfl, rx, ry⟩ := of_two rs
  cases of_int rx; cases of_int ry
  exact ⟨i, j, rfl, q _ _ H C R (Tx.refl H) rep_int h⟩⟩
theorem reps_bls {K : PySem.W.Frag} {H : Hp} : ∀ {bs : List Bool} {ys : List V}, Reps K H ys (bs.map T.bl) → ys = bs.map V.bl
  | [], _, h => of_nil h
  | b :: bs, _, h => by obtain ⟨y, r, rfl, a, c⟩ := of_cons h; cases of_bl a; rw [reps_bls c]; rfl
theorem b_all (hc : X.calm = true) : CallS X (.builtin "all") bAll := ⟨_, call_allB hc, fun F H C xs vs Q Q' R rs h q => by
  obtain ⟨a, bs, rfl, hx, h⟩ := h
  obtain ⟨x, rfl, rx⟩ := of_one rs
  cases of_ref rx
  obtain ⟨ys, hy, r⟩ := R.lst hx
  cases reps_bls r
  exact ⟨a, bs, rfl, SqL.of hy, q _ _ H C R (Tx.refl H) rep_bl h⟩⟩
theorem b_tuple : CallS X (.type "tuple") bTuple := ⟨_, call_tuple_of, fun F H C xs vs Q Q' R rs h q => by
  obtain ⟨v, rfl, h⟩ := h
  obtain ⟨x, rfl, rx⟩ := of_one rs
  cases v with
  | tup xs =>
    obtain ⟨a, ys, rfl, hq, r⟩ := of_tup rx
    exact ⟨a, ys, rfl, .inr ⟨hq, q _ _ H C R (Tx.refl H) (rep_tup hq r) h⟩⟩
  | cl xs =>
    obtain ⟨a, ys, rfl, hq, r⟩ := of_cl rx
    exact ⟨a, ys, rfl, .inl ⟨hq.sq, fun p hp => q _ _ _ C (R.hid hp) (Tx.new hp) (rep_tup (SqT.of upd_same) (r.tx (Tx.new hp))) h⟩⟩
  | ref a =>
    cases of_ref rx
    obtain ⟨xs, hx, h⟩ := h
    obtain ⟨ys, hy, r⟩ := R.lst hx
    exact ⟨a, ys, rfl, .inl ⟨SqL.of hy, fun p hp => q _ _ _ C (R.hid hp) (Tx.new hp) (rep_tup (SqT.of upd_same) (r.tx (Tx.new hp))) h⟩⟩
  | _ => exact False.elim h⟩
theorem b_list : CallS X (.type "list") bList := ⟨_, call_list_of, fun F H C xs vs Q Q' R rs h q => by
  obtain ⟨v, rfl, h⟩ := h
  obtain ⟨x, rfl, rx⟩ := of_one rs
  cases v with
  | tup xs =>
    obtain ⟨a, ys, rfl, hq, r⟩ := of_tup rx
    exact ⟨a, ys, rfl, .inr hq, fun p hp => q _ _ _ _ (R.newL hp r) (Tx.new hp) rep_ref (h p (R.free hp))⟩
  | cl xs =>
    obtain ⟨a, ys, rfl, hq, r⟩ := of_cl rx
    exact ⟨a, ys, rfl, .inl hq.sq, fun p hp => q _ _ _ _ (R.newL hp r) (Tx.new hp) rep_ref (h p (R.free hp))⟩
  | ref a =>
    cases of_ref rx
    obtain ⟨xs, hx, h⟩ := h
    obtain ⟨ys, hy, r⟩ := R.lst hx
    exact ⟨a, ys, rfl, .inl (SqL.of hy), fun p hp => q _ _ _ _ (R.newL hp r) (Tx.new hp) rep_ref (h p (R.free hp))⟩
  | _ => exact False.elim h⟩
theorem m_append : MtS X "list.append" mAppend := ⟨_, mt_append, fun F H C x v xs vs Q Q' R rx rs h q => by
  obtain ⟨a, ts, y, rfl, rfl, hx, hl, h⟩ := h
  cases of_ref rx
  obtain ⟨z, rfl, rz⟩ := of_one rs
  obtain ⟨ys, hy, r⟩ := R.lst hx
  obtain ⟨R', t⟩ := R.putL hx (r.snoc rz)
  exact ⟨a, ys, z, rfl, rfl, hy, by rw [r.length]; exact hl, q _ _ _ _ R' t rep_non h⟩⟩
theorem m_pop : MtS X "list.pop" mPop := ⟨_, mt_pop, fun F H C x v xs vs Q Q' R rx rs h q => by
  obtain ⟨a, ts, y, rfl, rfl, hx, hy, h⟩ := h
  cases of_ref rx
  cases of_nil rs
  obtain ⟨ys, hys, r⟩ := R.lst hx
  obtain ⟨z, hz, rz⟩ := r.get hy
  obtain ⟨R', t⟩ := R.putL hx r.dropLast
  exact ⟨a, ys, z, rfl, rfl, hys, by rw [r.length]; exact hz, q _ _ _ _ R' t (rz.tx t) h⟩⟩
theorem m_popAt : MtS X "list.pop" mPopAt := ⟨_, mt_popAt, fun F H C x v xs vs Q Q' R rx rs h q => by
  obtain ⟨a, ts, i, k, y, rfl, rfl, hx, h1, h2, hk, hy, h⟩ := h
  cases of_ref rx
  obtain ⟨z, rfl, rz⟩ := of_one rs
  cases of_int rz
  obtain ⟨ys, hys, r⟩ := R.lst hx
  obtain ⟨z, hz, rz⟩ := r.get hy
  obtain ⟨R', t⟩ := R.putL hx (r.erase k)
  exact ⟨a, ys, i, k, z, rfl, rfl, hys, h1, h2, by rw [r.length]; exact hk, hz, q _ _ _ _ R' t (rz.tx t) h⟩⟩
end
end WL
set_option Elab.async false
set_option linter.all false
set_option maxRecDepth 100000
set_option maxHeartbeats 4000000
namespace WL
open PySem PySem.Spec PyProof.Rows L2
section
variable {X : Cx} {a b c e : Expr} {es : List Expr} {wa wb wc : WE} {wt wt' : WT} {wA : WA} {w w' : W2} {pos p apos cpos : Pos} {rest : List Expr}
theorem d_var (i : Nat) {x : Str} (hN : X.N[i]? = some x := by rfl) (hv : Vis X.env.scope x := by first | exact Or.inl rfl | exact Or.inr (Or.inl rfl) | exact Or.inr (Or.inr rfl)) (hd : (x == ("__debug__" : Str)) = false := by decide)
    (hcd : (x == ("__classdict__" : Str)) = false := by decide) : SdE X (.Name x pos) (eVar i) := ⟨_, pe_var hN hv hd hcd, s_var⟩
theorem d_int {i j} : SdE X (.Constant (.int i) j pos) (eC (.int i)) := ⟨_, pe_int, s_c fun _ => rep_int⟩
theorem d_str {i j} : SdE X (.Constant (.str i) j pos) (eC (.str i)) := ⟨_, pe_str, s_c fun _ => rep_str⟩
theorem d_bl {i j} : SdE X (.Constant (.bool i) j pos) (eC (.bl i)) := ⟨_, pe_bl, s_c fun _ => rep_bl⟩
def Glb (K : PySem.W.Frag) (mg : Str → Option Value) (x : Str) (v : T) : Prop := ∃ z u, mg x = some u ∧ RelV z u ∧ ∀ H, Rep K H z v
theorem d_gl {x : Str} {v : T} (hg : Gl X x) (h : Glb X.K X.mg x v) (hd : (x == ("__debug__" : Str)) = false := by decide) : SdE X (.Name x pos) (eC v) := by
  obtain ⟨z, u, h1, h2, h3⟩ := h
  exact ⟨_, pe_glob hg h1 h2 hd, s_c h3⟩
theorem d_op {op : Operator} (ho : OpS X (binaryOp op) w) (ha : SdE X a wa) (hb : SdE X b wb) : SdE X (.BinOp a op b pos) (eBin w wa wb) := by
  obtain ⟨r, h1, h2⟩ := ho
  obtain ⟨ta, p1, s1⟩ := ha
  obtain ⟨tb, p2, s2⟩ := hb
  exact ⟨_, pe_op h1 p1 p2, s_op s1 s2 h2⟩
theorem d_neg (ha : SdE X a wa) : SdE X (.UnaryOp .USub a pos) (eUn wNeg wa) := by
  obtain ⟨ta, p1, s1⟩ := ha
  exact ⟨_, pe_un un_neg p1, s_un s1 fun F H C x v Q Q' R rx h q => by
    cases v with
    | int i => cases of_int rx; exact ⟨i, rfl, q _ _ H C R (Tx.refl H) rep_int h⟩
    | _ => exact False.elim h⟩
theorem d_cmp {op : CmpOp} (ho : OpS X (compareOp op) w) (ha : SdE X a wa) (hb : SdE X b wb) (hm : behindInMarks op b = false) : SdE X (.Compare a [op] [b] pos) (eBin w wa wb) := by
  obtain ⟨r, h1, h2⟩ := ho
  obtain ⟨ta, p1, s1⟩ := ha
  obtain ⟨tb, p2, s2⟩ := hb
  exact ⟨_, pe_cmpR h1 p1 p2 hm, s_op s1 s2 h2⟩
theorem d_or (ha : SdE X a wa) (hb : SdE X (.BoolOp .Or (b :: rest) pos) wb) : SdE X (.BoolOp .Or (a :: b :: rest) pos) (eOr wa wb) := by
  obtain ⟨ta, p1, s1⟩ := ha
  obtain ⟨tb, p2, s2⟩ := hb
  exact ⟨_, pe_or p1 p2, s_or s1 s2⟩
theorem d_one {op} (ha : SdE X a wa) : SdE X (.BoolOp op [a] pos) wa := by
  obtain ⟨ta, p1, s1⟩ := ha
  exact ⟨_, pe_one p1, s1⟩
theorem da_nil : SdA X [] aNil := ⟨_, pa_nil, s_nil⟩
theorem da_cons (ha : SdE X a wa) (hb : SdA X es wA) (hs : starEach (a :: es) X.env = (false, eval a X.env) :: starEach es X.env := by rfl) : SdA X (a :: es) (aCons wa wA) := by
  obtain ⟨ta, p1, s1⟩ := ha
  obtain ⟨tb, p2, s2⟩ := hb
  exact ⟨_, pa_cons p1 p2 hs, s_cons s1 s2⟩
theorem d_tup {x1} (h : SdA X es wA) : SdE X (.Tuple es x1 pos) (eTup wA) := by
  obtain ⟨t, p, s⟩ := h
  exact ⟨_, pe_tup p, s_tup s⟩
theorem d_lst (h : SdA X es wA) : SdE X (.List es pos) (eLst wA) := by
  obtain ⟨t, p, s⟩ := h
  exact ⟨_, pe_lst p, s_lst s⟩
theorem d_ix (ha : SdE X a wa) (hb : SdE X b wb) (hs : PlainIx b) : SdE X (.Subscript a b pos) (eBin wIdx wa wb) := by
  obtain ⟨r, h1, h2⟩ := o_ix (X := X)
  obtain ⟨ta, p1, s1⟩ := ha
  obtain ⟨tb, p2, s2⟩ := hb
  exact ⟨_, pe_ix h1 p1 p2 hs, s_op s1 s2 h2⟩
def SdO (X : Cx) (e : Option Expr) (w : Sw → Hw → (Option Int → Hw → Prop) → WX → Prop) : Prop := ∃ t, PO X e t ∧ ∀ (F H : Hp) (C : Hw) (σ : L2.St) (τ : Sw) (Q : Option Int → Hp → Prop) (Q' : Option Int → Hw → Prop) (χ : WX), Rl X.K F H C → RepS X.K H σ τ → w τ C Q' χ →
  (∀ o H' C', Rl X.K F H' C' → Tx H H' → Q' o C' → Q o H') → t σ H Q
theorem do_none : SdO X none oNo := ⟨_, po_none, fun F H C σ τ Q Q' χ R S h q => q none H C R (Tx.refl H) h⟩
theorem do_some (ha : SdE X a wa) : SdO X (some a) (oSome wa) := by
  obtain ⟨ta, p1, s1⟩ := ha
  refine ⟨_, po_some p1, fun F H C σ τ Q Q' χ R S h q => ?_⟩
  refine s1 F H C σ τ _ _ χ R S h fun x v H1 C1 R1 t1 rx h1 => ?_
  obtain ⟨i, rfl, h1⟩ := h1
  exact ⟨i, of_int rx, q (some i) H1 C1 R1 t1 h1⟩
theorem d_sl {lo hi : Option Expr} {wl wh : Sw → Hw → (Option Int → Hw → Prop) → WX → Prop} {p2 : Pos} (ha : SdE X a wa) (hl : SdO X lo wl) (hh : SdO X hi wh) : SdE X (.Subscript a (.Slice lo hi none p2) pos) (eSl wa wl wh) := by
  obtain ⟨r, h1, h2⟩ := o_sl (X := X)
  obtain ⟨ta, p1, s1⟩ := ha
  obtain ⟨tl, p3, s3⟩ := hl
  obtain ⟨th, p4, s4⟩ := hh
  refine ⟨_, pe_slice h1 p1 p3 p4, fun F H C σ τ Q Q' χ R S h q => ?_⟩
  refine s1 F H C σ τ _ _ χ R S h fun x v H1 C1 R1 t1 rx h1 => ?_
  refine s3 F H1 C1 σ τ _ _ χ R1 (S.tx t1) h1 fun l H2 C2 R2 t2 h2' => ?_
  refine s4 F H2 C2 σ τ _ _ χ R2 (S.tx (t1.trans t2)) h2' fun u H3 C3 R3 t3 h3 => ?_
  exact h2 F H3 C3 x v l u Q Q' R3 ((rx.tx t2).tx t3) h3 (QE.at q ((t1.trans t2).trans t3))
theorem d_bi {x : Str} {id : String} {r : List T → Hw → WK → Prop} (hc : CallS X (.builtin id) r) (hg : Gl X x) (hm : X.mg x = none) (hv : bootBuiltins x = some (.builtin id)) (ha : SdA X (e :: es) wA) (hn : x ≠ "__name__" := by decide) (hdb : (x == ("__debug__" : Str)) = false := by decide)
    (he : starEach (e :: es) X.env = (false, eval e X.env) :: starEach es X.env := by rfl) (hpl : (backTo pos (starEach es X.env)).any (·.1) = false := by rfl) : SdE X (.Call (.Name x p) (e :: es) [] pos) (eBi r wA) := by
  obtain ⟨r, h1, h2⟩ := hc
  obtain ⟨t, p1, s1⟩ := ha
  exact ⟨_, pe_callB h1 hg hm hv p1 hn hdb he hpl, s_bi h2 s1⟩
theorem d_ty {x : Str} {id : String} {r : List T → Hw → WK → Prop} (hc : CallS X (.type id) r) (hg : Gl X x) (hm : X.mg x = none) (hv : bootBuiltins x = some (.type id)) (ha : SdA X (e :: es) wA) (hn : x ≠ "__name__" := by decide) (hdb : (x == ("__debug__" : Str)) = false := by decide)
    (he : starEach (e :: es) X.env = (false, eval e X.env) :: starEach es X.env := by rfl) (hpl : (backTo pos (starEach es X.env)).any (·.1) = false := by rfl) : SdE X (.Call (.Name x p) (e :: es) [] pos) (eBi r wA) := by
  obtain ⟨r, h1, h2⟩ := hc
  obtain ⟨t, p1, s1⟩ := ha
  exact ⟨_, pe_callTy h1 hg hm hv p1 hn hdb he hpl, s_bi h2 s1⟩
def TyS (X : Cx) (Tn : String) (ty : T → Hw → Prop) : Prop := ∀ (F H : Hp) (C : Hw) (x : V) (v : T), Rl X.K F H C → Rep X.K H x v → ty v C → tyV X.K Tn x H
theorem ty_list : TyS X "list" tyL' := fun F H C x v R rx h => by
  obtain ⟨a, xs, rfl, hx⟩ := h
  cases of_ref rx
  obtain ⟨ys, hy, r⟩ := R.lst hx
  exact L2.tyL hy
theorem ty_str : TyS X "str" tyS := fun F H C x v R rx h => by
  obtain ⟨z, rfl⟩ := h
  cases of_str rx
  unfold tyV
  rfl
theorem d_mt {o : Expr} {wo : WE} {name : Str} {Tn id : String} {ty : T → Hw → Prop} {r : T → List T → Hw → WK → Prop} (pa : PlainAttrs Tn) (slot : Slot Tn name id) (hty : typeOf (.builtin id) = pure (.type "method_descriptor")) (hT : TyS X Tn ty) (hm : MtS X id r) (ho : SdE X o wo) (ha : SdA X (e :: es) wA)
    (hbase : attributeBase o name X.env (eval o X.env) = eval o X.env := by rfl)
    (hfew : ((backTo cpos (starEach (e :: es) X.env)).all (fun x => !x.1) && (backToKw cpos (keywordEach [] X.env)).all (fun x => x.1.isSome)
      && decide ((e :: es).length + ([] : List Keyword).length + (if ([] : List Keyword).isEmpty then 0 else 1) < 30)) = true := by rfl)
    (hline : (apos.endLine == cpos.line) = true := by rfl) (hs : starEach (e :: es) X.env = (false, eval e X.env) :: starEach es X.env := by rfl) (hplain : (backTo cpos (starEach es X.env)).any (·.1) = false := by rfl) :
    SdE X (.Call (.Attribute o name apos) (e :: es) [] cpos) (eMt ty r wo wA) := by
  obtain ⟨rr, h1, h2⟩ := hm
  obtain ⟨to, p1, s1⟩ := ho
  obtain ⟨ta, p2, s2⟩ := ha
  refine ⟨_, pe_bm pa slot hty h1 p1 p2 hbase hfew hline hs hplain, fun F H C σ τ Q Q' χ R S h q => ?_⟩
  refine s1 F H C σ τ _ _ χ R S h fun x v H1 C1 R1 t1 rx h1' => ⟨hT F H1 C1 x v R1 rx h1'.1, ?_⟩
  refine s2 F H1 C1 σ τ _ _ χ R1 (S.tx t1) h1'.2 fun xs vs H2 C2 R2 t2 rs h2' => ?_
  exact h2 F H2 C2 x v xs vs Q Q' R2 (rx.tx t2) rs h2' (QE.at q (t1.trans t2))
theorem d_mt0 {o : Expr} {wo : WE} {name : Str} {Tn id : String} {ty : T → Hw → Prop} {r : T → List T → Hw → WK → Prop} (pa : PlainAttrs Tn) (slot : Slot Tn name id) (hty : typeOf (.builtin id) = pure (.type "method_descriptor")) (hT : TyS X Tn ty) (hm : MtS X id r) (ho : SdE X o wo)
    (hbase : attributeBase o name X.env (eval o X.env) = eval o X.env := by rfl) (hline : (apos.endLine == cpos.line) = true := by rfl) :
    SdE X (.Call (.Attribute o name apos) [] [] cpos) (eMt ty r wo aNil) := by
  obtain ⟨rr, h1, h2⟩ := hm
  obtain ⟨to, p1, s1⟩ := ho
  refine ⟨_, pe_bm0 pa slot hty h1 p1 hbase hline, fun F H C σ τ Q Q' χ R S h q => ?_⟩
  refine s1 F H C σ τ _ _ χ R S h fun x v H1 C1 R1 t1 rx h1' => ⟨hT F H1 C1 x v R1 rx h1'.1, ?_⟩
  exact h2 F H1 C1 x v [] [] Q Q' R1 rx reps_nil h1'.2 (QE.at q t1)
theorem kit_cls {K : PySem.W.Frag} {n c : String} (hn : n ∈ ["NoneType", "bool", "int", "str", "tuple", "list", "dict"]) (hc : c ∈ ["bool", "int", "str", "tuple", "list", "dict"]) : PySem.W.kitOne K (.type n) (.type c) = some (isCls n c) := by
  simp only [List.mem_cons, List.not_mem_nil, or_false] at hn hc
  rcases hn with rfl | rfl | rfl | rfl | rfl | rfl | rfl <;> rcases hc with rfl | rfl | rfl | rfl | rfl | rfl <;> rfl
theorem tyN_mem {v : T} {C : Hw} {n : String} (h : tyN v C n) : n ∈ ["NoneType", "bool", "int", "str", "tuple", "list", "dict"] := by
  cases v with
  | non => cases h; decide
  | bl _ => cases h; decide
  | int _ => cases h; decide
  | str _ => cases h; decide
  | tup _ => cases h; decide
  | cl _ => cases h; decide
  | ref _ => rcases h with ⟨rfl, _⟩ | ⟨rfl, _⟩ <;> decide
theorem isi_of {pins : List (Addr × Obj)} {σ : L2.St} {F H : Hp} {C : Hw} {s : Shared} {x : V} {v : T} {u : Value} {n c : String} {Q : Value → Shared → Prop} (I : Inv X pins σ H s) (R : Rl X.K F H C) (rx : Rep X.K H x v) (ru : RelV x u) (hn : tyN v C n) (hc : c ∈ ["bool", "int", "str", "tuple", "list", "dict"])
    (h : ∀ tk, Q (.bool (isCls n c)) { s with toks := tk }) : wpAny (model X.prog X.w) X.A (call (.builtin "isinstance") [u, .type c]) Q X.xe s := by
  have e := kit_cls (K := X.K) (tyN_mem hn) hc
  cases v with
  | non => cases hn; cases of_non rx; exact isinst_ok I ru .non e h
  | bl b => cases hn; cases of_bl rx; exact isinst_ok I ru (.bl b) e h
  | int b => cases hn; cases of_int rx; exact isinst_ok I ru (.int b) e h
  | str b => cases hn; cases of_str rx; exact isinst_ok I ru (.str b) e h
  | tup xs =>
    cases hn
    obtain ⟨a, ys, rfl, hq, r⟩ := of_tup rx
    cases ru
    obtain ⟨its, _, ⟨o, h1, h2, _⟩, _⟩ := I.tuple hq
    exact PySem.W.kia_one PySem.W.kitx_tuple I.kIn ⟨o, h1, h2⟩ e (fun z => nomatch z) h
  | cl xs =>
    cases hn
    obtain ⟨a, ys, rfl, hq, r⟩ := of_cl rx
    cases ru
    obtain ⟨its, _, p, _⟩ := I.list hq.sq
    obtain ⟨o, h1, h2, _⟩ := p.isList
    exact PySem.W.kia_one PySem.W.kitx_list I.kIn ⟨o, h1, h2⟩ e (fun z => nomatch z) h
  | ref a =>
    cases of_ref rx
    rcases hn with ⟨rfl, xs, hx⟩ | ⟨rfl, kvs, hx⟩
    · obtain ⟨ys, hy, r⟩ := R.lst hx
      exact isinst_ok I ru (.lst hy) e h
    · obtain ⟨ks, hy, r⟩ := R.obj a _ hx
      exact isinst_ok I ru (.dK hy) e h
theorem d_isi {x : Str} {q2 : Pos} {c : String} (hg : Gl X "isinstance") (hm : X.mg "isinstance" = none) (hgx : Gl X x) (hmx : X.mg x = none) (hvx : bootBuiltins x = some (.type c)) (hc : c ∈ ["bool", "int", "str", "tuple", "list", "dict"]) (ha : SdE X a wa)
    (hnx : x ≠ "__name__" := by decide) (hdx : (x == ("__debug__" : Str)) = false := by decide) (he : starEach [a, .Name x q2] X.env = [(false, eval a X.env), (false, eval (.Name x q2) X.env)] := by rfl) : SdE X (.Call (.Name "isinstance" p) [a, .Name x q2] [] pos) (eIsi wa c) := by
  obtain ⟨ta, p1, s1⟩ := ha
  let r : List V → Hp → VK → Prop := fun xs H Q => ∃ y F C v n, xs = [y, .ty c] ∧ Rl X.K F H C ∧ Rep X.K H y v ∧ tyN v C n ∧ Q (.bl (isCls n c)) H
  have hr : CallR X (.builtin "isinstance") r := by
    intro pins s σ H xs us Q I rs h
    obtain ⟨y, F, C, v, n, rfl, R, ry, hn, q⟩ := h
    obtain ⟨u, u2, rfl, ru, ru2⟩ := rs.two
    cases ru2
    exact isi_of I R ry ru hn hc fun tk => ⟨.bl _, H, I.tok tk, rfl, q⟩
  refine ⟨_, pe_callB hr hg hm bt_isinstance (pa_cons p1 (pa_cons (pe_bltn (v := .ty c) hgx hmx hvx rfl hnx hdx) pa_nil (by rw [show starEach [Expr.Name x q2] X.env = [(false, eval (.Name x q2) X.env)] from rfl]; rfl)) ?_) (by decide) (by decide) ?_ ?_, ?_⟩
  · rw [he]; rfl
  · rw [he]; rfl
  · rfl
  · intro F H C σ τ Q Q' χ R S h q
    refine s1 F H C σ τ _ _ χ R S h fun y v H1 C1 R1 t1 ry h1 => ?_
    obtain ⟨n, hn, h1⟩ := h1
    exact ⟨y, F, C1, v, n, rfl, R1, ry, hn, q _ _ H1 C1 R1 t1 rep_bl h1⟩
theorem dt_cmp {op : CmpOp} (ho : OpS X (compareOp op) w) (ha : SdE X a wa) (hb : SdE X b wb) (hm : behindInMarks op b = false) : SdT X (.Compare a [op] [b] pos) (tBl (eBin w wa wb)) := by
  obtain ⟨r, h1, h2⟩ := ho
  obtain ⟨ta, p1, s1⟩ := ha
  obtain ⟨tb, p2, s2⟩ := hb
  exact ⟨_, pt_cmpR h1 p1 p2 hm, s_bl (s_op s1 s2 h2)⟩
theorem dt_tru (ha : SdE X a wa) (he : ∀ whole, isTrue a X.env whole = (do let v ← whole; standAt a.pos; holding [v] (truthy v)) := by intro _; rfl) : SdT X a (tTru wa) := by
  obtain ⟨ta, p1, s1⟩ := ha
  exact ⟨_, pt_truth p1 he, s_tru s1⟩
theorem dw_and1 (ha : SdT X a wt) : SdW X (.BoolOp .And [a] pos) wt := by
  obtain ⟨t, p, s⟩ := ha
  exact ⟨_, pw_and1 p, s⟩
theorem dw_or1 (ha : SdT X a wt) : SdW X (.BoolOp .Or [a] pos) wt := by
  obtain ⟨t, p, s⟩ := ha
  exact ⟨_, pw_or1 p, s⟩
theorem dw_and (ha : SdT X a wt) (hb : SdW X (.BoolOp .And (b :: rest) pos) wt') : SdW X (.BoolOp .And (a :: b :: rest) pos) (tAn wt wt') := by
  obtain ⟨t, p, s⟩ := ha
  obtain ⟨t', p', s'⟩ := hb
  exact ⟨_, pw_and p p', s_an s s'⟩
theorem dw_or (ha : SdT X a wt) (hb : SdW X (.BoolOp .Or (b :: rest) pos) wt') : SdW X (.BoolOp .Or (a :: b :: rest) pos) (tOr' wt wt') := by
  obtain ⟨t, p, s⟩ := ha
  obtain ⟨t', p', s'⟩ := hb
  exact ⟨_, pw_or p p', s_or' s s'⟩
theorem dt_w (h : SdW X a wt) : SdT X a wt := by
  obtain ⟨t, p, s⟩ := h
  exact ⟨_, p.pt, s⟩
theorem dt_not (ha : SdT X a wt) : SdT X (.UnaryOp .Not a pos) (tNo wt) := by
  obtain ⟨t, p, s⟩ := ha
  exact ⟨_, pt_not p, s_no s⟩
end
structure DRel (K : PySem.W.Frag) (F H : Hp) (D : Ends) (D' : We) : Prop where
  nx : ∀ σ τ H' C', Rl K F H' C' → Tx H H' → RepS K H' σ τ → D'.nx τ C' → D.nx σ H'
  rt : ∀ x v H' C', Rl K F H' C' → Tx H H' → Rep K H' x v → D'.rt v C' → D.rt x H'
  bk : ∀ σ τ H' C', Rl K F H' C' → Tx H H' → RepS K H' σ τ → D'.bk τ C' → D.bk σ H'
  ct : ∀ σ τ H' C', Rl K F H' C' → Tx H H' → RepS K H' σ τ → D'.ct τ C' → D.ct σ H'
theorem DRel.at {K : PySem.W.Frag} {F H H1 : Hp} {D : Ends} {D' : We} (h : DRel K F H D D') (t : Tx H H1) : DRel K F H1 D D' :=
  ⟨fun σ τ H' C' R t' => h.nx σ τ H' C' R (t.trans t'), fun x v H' C' R t' => h.rt x v H' C' R (t.trans t'), fun σ τ H' C' R t' => h.bk σ τ H' C' R (t.trans t'), fun σ τ H' C' R t' => h.ct σ τ H' C' R (t.trans t')⟩
def SimS (K : PySem.W.Frag) (t : TS) (w : WS) : Prop := ∀ (F H : Hp) (C : Hw) (σ : L2.St) (τ : Sw) (D : Ends) (D' : We), Rl K F H C → RepS K H σ τ → w D' τ C → DRel K F H D D' → t D σ H
def SimG (K : PySem.W.Frag) (t : TG) (w : WG) : Prop := ∀ (F H : Hp) (C : Hw) (σ : L2.St) (τ : Sw) (x : V) (v : T) (Q : L2.St → Hp → Prop) (Q' : Sw → Hw → Prop) (χ : WX), Rl K F H C → RepS K H σ τ → Rep K H x v → w v τ C Q' χ →
  (∀ σ' τ' H' C', Rl K F H' C' → Tx H H' → RepS K H' σ' τ' → Q' τ' C' → Q σ' H') → t x σ H Q
def SimGs (K : PySem.W.Frag) (t : TGs) (w : WGs) : Prop := ∀ (F H : Hp) (C : Hw) (σ : L2.St) (τ : Sw) (x : List V) (v : List T) (Q : L2.St → Hp → Prop) (Q' : Sw → Hw → Prop) (χ : WX), Rl K F H C → RepS K H σ τ → Reps K H x v → w v τ C Q' χ →
  (∀ σ' τ' H' C', Rl K F H' C' → Tx H H' → RepS K H' σ' τ' → Q' τ' C' → Q σ' H') → t x σ H Q
def SdS (X : Cx) (st : Stmt) (w : WS) : Prop := ∃ t, PS X st t ∧ SimS X.K t w
def SdB (X : Cx) (st : List Stmt) (w : WS) : Prop := ∃ t, PSs X st t ∧ SimS X.K t w
def SdG (X : Cx) (e : Expr) (w : WG) : Prop := ∃ t, PG X e t ∧ SimG X.K t w
def SdGs (X : Cx) (e : List Expr) (w : WGs) : Prop := ∃ t, PGs X e t ∧ SimGs X.K t w
section
variable {X : Cx} {st : Stmt} {rest : List Stmt} {w u : WS} {e tg : Expr} {we : WE} {wt : WT} {g : WG} {gs : WGs} {pos : Pos}
theorem sg_name {K : PySem.W.Frag} {i : Nat} : SimG K (gName i) (gNm i) := fun F H C σ τ x v Q Q' χ R S r h q => q _ _ H C R (Tx.refl H) (S.set r) h
theorem sg_nil {K : PySem.W.Frag} : SimGs K gNil gsNil := fun F H C σ τ x v Q Q' χ R S r h q => by
  obtain ⟨rfl, h⟩ := h
  exact ⟨of_nil r, q _ _ H C R (Tx.refl H) S h⟩
theorem sg_cons {K : PySem.W.Frag} {t : TG} {u : TGs} {g : WG} {gs : WGs} (a : SimG K t g) (b : SimGs K u gs) : SimGs K (gCons t u) (gsCons g gs) := fun F H C σ τ x v Q Q' χ R S r h q => by
  obtain ⟨v1, vs, rfl, h⟩ := h
  obtain ⟨y, ys, rfl, r1, r2⟩ := of_cons r
  refine ⟨y, ys, rfl, a F H C σ τ y v1 _ _ χ R S r1 h fun σ' τ' H' C' R' t' S' h' => ?_⟩
  exact b F H' C' σ' τ' ys vs Q Q' χ R' S' (r2.tx t') h' fun σ2 τ2 H2 C2 R2 t2 => q σ2 τ2 H2 C2 R2 (t'.trans t2)
theorem sg_tup {K : PySem.W.Frag} {u : TGs} {gs : WGs} {n : Nat} (b : SimGs K u gs) (hn : ∀ vs τ C Q χ, gs vs τ C Q χ → vs.length = n) : SimG K (gTup K n u) (gTp gs) := fun F H C σ τ x v Q Q' χ R S r h q => by
  obtain ⟨vs, rfl, h⟩ := h
  obtain ⟨a, ys, rfl, hq, rs⟩ := of_tup r
  exact ⟨a, ys, rfl, hq, by rw [rs.length]; exact hn _ _ _ _ _ h, b F H C σ τ ys vs Q Q' χ R S rs h q⟩
def GsLen (n : Nat) (gs : WGs) : Prop := ∀ vs τ C Q χ, gs vs τ C Q χ → vs.length = n
def GMono (g : WG) : Prop := ∀ v τ C Q Q' χ, (∀ τ' C', Q τ' C' → Q' τ' C') → g v τ C Q χ → g v τ C Q' χ
theorem gl_nil : GsLen 0 gsNil := fun vs τ C Q χ h => by rw [h.1]; rfl
theorem gl_cons1 {n i : Nat} {gs : WGs} (b : GsLen n gs) : GsLen (n + 1) (gsCons (gNm i) gs) := fun vs τ C Q χ h => by
  obtain ⟨v, r, rfl, h⟩ := h
  rw [List.length_cons, b r _ _ _ _ h]
theorem dg_name {i : Nat} {x : Str} (hN : X.N.Nodup) (hi : X.N[i]? = some x := by rfl) (hx : Loc X.env.scope x := by first | exact Or.inl rfl | exact Or.inr rfl) (hf : X.fn x = true ∨ X.env.scope.names.lookup x = some .local := by first | exact .inl rfl | exact .inr rfl | assumption) : SdG X (.Name x pos) (gNm i) := ⟨_, pg_name hN hi hx hf, sg_name⟩
theorem db_nil : SdB X [] sPass := ⟨_, pss_nil, fun F H C σ τ D D' R S h d => d.nx σ τ H C R (Tx.refl H) S h⟩
theorem ds_never : SdS X st sNever := ⟨_, ps_never, fun F H C σ τ D D' R S h d => h⟩
theorem db_one (a : SdS X st w) : SdB X [st] w := by
  obtain ⟨t, p, s⟩ := a
  exact ⟨_, pss_one p, s⟩
theorem db_cons (a : SdS X st w) (b : SdB X rest u) : SdB X (st :: rest) (sSeq w u) := by
  obtain ⟨t, p, s⟩ := a
  obtain ⟨t', p', s'⟩ := b
  refine ⟨_, pss_cons p p', fun F H C σ τ D D' R S h d => ?_⟩
  exact s F H C σ τ _ _ R S h ⟨fun σ' τ' H' C' R' t' S' h' => s' F H' C' σ' τ' D D' R' S' h' (d.at t'), d.rt, d.bk, d.ct⟩
theorem ds_expr (a : SdE X e we) (hs : swapsWith e none pos.line X.env = pure false := by rfl) : SdS X (.Expr e pos) (sExpr we) := by
  obtain ⟨t, p, s⟩ := a
  refine ⟨_, ps_expr p hs, fun F H C σ τ D D' R S h d => ?_⟩
  exact s F H C σ τ _ _ D'.xc R S h fun x v H1 C1 R1 t1 rx h1 => d.nx σ τ H1 C1 R1 t1 (S.tx t1) h1
theorem ds_ret (a : SdE X e we) : SdS X (.Return (some e) pos) (sRet we) := by
  obtain ⟨t, p, s⟩ := a
  refine ⟨_, ps_ret p, fun F H C σ τ D D' R S h d => ?_⟩
  exact s F H C σ τ _ _ D'.xc R S h d.rt
theorem ds_if {c : Expr} {a b : List Stmt} {wa wb : WS} (hc : SdT X c wt) (ha : SdB X a wa) (hb : SdB X b wb) : SdS X (.If c a b pos) (sIf wt wa wb) := by
  obtain ⟨t, p, s⟩ := hc
  obtain ⟨t1, p1, s1⟩ := ha
  obtain ⟨t2, p2, s2⟩ := hb
  refine ⟨_, ps_if p p1 p2, fun F H C σ τ D D' R S h d => ?_⟩
  refine s F H C σ τ _ _ D'.xc R S h fun k H1 C1 R1 t1 h1 => ?_
  cases k with
  | true => exact s1 F H1 C1 σ τ D D' R1 (S.tx t1) h1 (d.at t1)
  | false => exact s2 F H1 C1 σ τ D D' R1 (S.tx t1) h1 (d.at t1)
theorem ds_set {i : Nat} {x : Str} {pos' : Pos} (hN : X.N.Nodup) (he : SdE X e we) (hi : X.N[i]? = some x := by rfl) (hx : Loc X.env.scope x := by first | exact Or.inl rfl | exact Or.inr rfl) (hs : swapsWith e (some (.Name x pos')) pos.line X.env = pure false := by rfl)
    (hf : X.fn x = true ∨ X.env.scope.names.lookup x = some .local := by first | exact .inl rfl | exact .inr rfl | assumption) : SdS X (.Assign [.Name x pos'] e pos) (sAsg we (gNm i)) := by
  obtain ⟨t, p, s⟩ := he
  refine ⟨_, ps_set hN hi hx p hs hf, fun F H C σ τ D D' R S h d => ?_⟩
  refine s F H C σ τ _ _ D'.xc R S h fun x v H1 C1 R1 t1 rx h1 => ?_
  exact sg_name F H1 C1 σ τ x v _ _ D'.xc R1 (S.tx t1) rx h1 fun σ' τ' H' C' R' t' => d.nx σ' τ' H' C' R' (t1.trans t')
end
def ItRel (K : PySem.W.Frag) (F H0 : Hp) (J : It) (xs : List T) (ok : Hw → Prop) : Prop := ∀ (i : Nat) (H : Hp) (C : Hw), Rl K F H C → Tx H0 H → ok C →
  (i < xs.length → J.go i H ∧ ∀ x H', J.yld i H x H' → ∃ v, xs[i]? = some v ∧ Rl K F H' C ∧ Tx H H' ∧ Rep K H' x v) ∧ (i = xs.length → J.stop i H)
def SimI (K : PySem.W.Frag) (wi : TI) (w : WI) : Prop := ∀ (F H : Hp) (C : Hw) (σ : L2.St) (τ : Sw) (R : It → Hp → Prop) (R' : List T → (Hw → Prop) → Hw → Prop) (χ : WX), Rl K F H C → RepS K H σ τ → w τ C R' χ →
  (∀ J H' xs ok C', Rl K F H' C' → Tx H H' → (∀ F', ItRel K F' H' J xs ok) → R' xs ok C' → R J H') → wi σ H R
def SdI (X : Cx) (tg e : Expr) (w : WI) : Prop := ∃ t, PI X tg e t ∧ SimI X.K t w
section
variable {X : Cx} {tg e a b : Expr} {we : WE} {wA : WA} {pos p : Pos}
theorem it_list {K : PySem.W.Frag} {F H0 : Hp} {l : Addr} {xs : List T} : ItRel K F H0 (Itl K l) xs (fun C => C l = some (.lst xs)) := fun i H C R t ok => by
  obtain ⟨ys, hy, r⟩ := R.lst ok
  refine ⟨fun hi => ?_, fun hi => ⟨ys, SqL.of hy, by rw [r.length]; omega⟩⟩
  have ev : xs[i]? = some xs[i] := by simp [hi]
  obtain ⟨y, ey, ry⟩ := r.get ev
  refine ⟨⟨ys, y, SqL.of hy, ey⟩, fun x H' h => ?_⟩
  obtain ⟨rfl, h⟩ := h
  have e2 := h ys (SqL.of hy)
  rw [ey] at e2; cases e2
  exact ⟨_, ev, R, Tx.refl _, ry⟩
theorem it_cl {K : PySem.W.Frag} {F H0 : Hp} {l : Addr} {ys : List V} {xs : List T} (h0 : SqC K H0 l ys) (r0 : Reps K H0 ys xs) : ItRel K F H0 (Itl K l) xs (fun _ => True) := fun i H C R t ok => by
  have hy := (t.sqc h0).sq
  have r := r0.tx t
  refine ⟨fun hi => ?_, fun hi => ⟨ys, hy, by rw [r.length]; omega⟩⟩
  have ev : xs[i]? = some xs[i] := by simp [hi]
  obtain ⟨y, ey, ry⟩ := r.get ev
  refine ⟨⟨ys, y, hy, ey⟩, fun x H' h => ?_⟩
  obtain ⟨rfl, h⟩ := h
  have e2 := h ys hy
  rw [ey] at e2; cases e2
  exact ⟨_, ev, R, Tx.refl _, ry⟩
theorem it_tup {K : PySem.W.Frag} {F H0 : Hp} {l : Addr} {ys : List V} {xs : List T} (h0 : SqT K H0 l ys) (r0 : Reps K H0 ys xs) : ItRel K F H0 (Itt K l) xs (fun _ => True) := fun i H C R t ok => by
  have hy := t.sqt h0
  have r := r0.tx t
  refine ⟨fun hi => ?_, fun hi => ⟨ys, hy, by rw [r.length]; omega⟩⟩
  have ev : xs[i]? = some xs[i] := by simp [hi]
  obtain ⟨y, ey, ry⟩ := r.get ev
  refine ⟨⟨ys, y, hy, ey⟩, fun x H' h => ?_⟩
  obtain ⟨rfl, h⟩ := h
  have e2 := h ys hy
  rw [ey] at e2; cases e2
  exact ⟨_, ev, R, Tx.refl _, ry⟩
theorem it_str {K : PySem.W.Frag} {F H0 : Hp} {z : Str} : ItRel K F H0 (Its z) (z.cps.toList.map fun c => T.str ⟨#[c]⟩) (fun _ => True) := fun i H C R t ok => by
  refine ⟨fun hi => ⟨by show i < z.cps.size; simpa using hi, fun x H' h => ?_⟩, fun hi => by show i = z.cps.size; simpa using hi⟩
  obtain ⟨rfl, c, hc, rfl⟩ := h
  refine ⟨.str ⟨#[c]⟩, ?_, R, Tx.refl _, rep_str⟩
  rw [List.getElem?_map, Array.getElem?_toList, hc]; rfl
theorem it_rng {K : PySem.W.Frag} {F H0 : Hp} {lo : Int} {n : Nat} : ItRel K F H0 (Itr lo n) (rng lo n) (fun _ => True) := fun i H C R t ok => by
  have hl : (rng lo n).length = n := by unfold rng; simp
  refine ⟨fun hi => ⟨by rw [hl] at hi; exact hi, fun x H' h => ?_⟩, fun hi => by show n ≤ i; omega⟩
  obtain ⟨rfl, rfl⟩ := h
  refine ⟨.int (lo + i), ?_, R, Tx.refl _, rep_int⟩
  unfold rng
  rw [hl] at hi
  rw [List.getElem?_map, List.getElem?_range hi]; rfl
theorem str_iter {pins : List (Addr × Obj)} {σ : L2.St} {H1 : Hp} {s1 : Shared} {R : It → Hp → Prop} {z : Str} {v : Value} (I1 : Inv X pins σ H1 s1) (r1 : RelV (.str z) v) (q : R (Its z) H1) : wpAny (model X.prog X.w) X.A (pyIter v) (PIE X pins σ tg R) X.xe s1 := by
  obtain ⟨t, rfl⟩ := r1
  have fin : ∀ b ∈ [s1.heap.objs.size], FpOk X pins H1 b := fun b hb => by
    have e : b = s1.heap.objs.size := by simpa using hb
    subst e
    exact I1.fpOk (Nat.le_refl _) I1.fresh
  cases ha : z.cps.all (· < 128)
  · refine wpAny_pyIter_wide ha ⟨s1.heap.objs.size, [s1.heap.objs.size], _, _, H1, rfl, I1.kept (t' := s1.toks) fun b o e => Heap.get?_push_of_some _ e, turn_walks (ty := "str_iterator") (by decide) (fun A hA => Walks.strWide hA _ z t) fun _ _ _ _ _ st h => wpAny_pyIter_striter_wide st h, ⟨_, Heap.get?_push_size _ rfl, rfl, rfl⟩, fin, q⟩
  · refine wpAny_pyIter_ascii ha ⟨s1.heap.objs.size, [s1.heap.objs.size], _, _, H1, rfl, I1.kept (t' := s1.toks) fun b o e => Heap.get?_push_of_some _ e, turn_walks (ty := "str_ascii_iterator") (by decide) (fun A hA => Walks.strAscii hA _ z t) fun _ _ _ _ _ st h => wpAny_pyIter_striter_ascii st h, ⟨_, Heap.get?_push_size _ rfl, rfl, rfl⟩, fin, q⟩
def iDyn (K : PySem.W.Frag) (tl : TE) : TI := fun σ H R => tl σ H fun x H1 => (∃ a, x = .ref a ∧ (∃ xs, SqL K H1 a xs) ∧ R (Itl K a) H1) ∨ (∃ a, x = .ref a ∧ (∃ xs, SqT K H1 a xs) ∧ R (Itt K a) H1) ∨ ∃ z, x = .str z ∧ R (Its z) H1
theorem pi_dyn {tl : TE} (hl : PE X e tl) : PI X tg e (iDyn X.K tl) := by
  intro pins s σ H R I h
  refine thn (hl pins s σ H _ I h) fun v s1 ⟨x, H1, I1, r1, q1⟩ => ?_
  rcases q1 with ⟨a, rfl, ⟨xs, hq⟩, q⟩ | ⟨a, rfl, ⟨xs, hq⟩, q⟩ | ⟨z, rfl, q⟩
  · cases r1
    obtain ⟨its, rv, p, hz⟩ := I1.list hq
    refine wpAny_pyIter_list p.isList ?_
    refine ⟨s1.heap.objs.size, [s1.heap.objs.size], _, _, H1, rfl, I1.kept (t' := s1.toks) fun b o e => Heap.get?_push_of_some _ e, turn_list a _, ⟨_, Heap.get?_push_size _ rfl, rfl, rfl⟩, fun b hb => ?_, q⟩
    have e : b = s1.heap.objs.size := by simpa using hb
    subst e
    exact I1.fpOk (Nat.le_refl _) (I1.hok.fresh (Nat.le_refl _))
  · cases r1
    obtain ⟨its, rv, p, hz⟩ := I1.tuple hq
    refine wpAny_pyIter_tuple (show s1.heap.IsTuple a its.toArray from p) ?_
    refine ⟨s1.heap.objs.size, [s1.heap.objs.size], _, _, H1, rfl, I1.kept (t' := s1.toks) fun b o e => Heap.get?_push_of_some _ e, turn_tuple a _, ⟨_, Heap.get?_push_size _ rfl, rfl, rfl⟩, fun b hb => ?_, q⟩
    have e : b = s1.heap.objs.size := by simpa using hb
    subst e
    exact I1.fpOk (Nat.le_refl _) (I1.hok.fresh (Nat.le_refl _))
  · exact str_iter I1 r1 q
theorem di_seq (h : SdE X e we) : SdI X tg e (iSeq we) := by
  obtain ⟨t, p, s⟩ := h
  refine ⟨_, pi_dyn p, fun F H C σ τ R R' χ Rr S h q => ?_⟩
  refine s F H C σ τ _ _ χ Rr S h fun x v H1 C1 R1 t1 rx h1 => ?_
  cases v with
  | tup xs =>
    obtain ⟨a, ys, rfl, hq, r⟩ := of_tup rx
    exact .inr (.inl ⟨a, rfl, ⟨ys, hq⟩, q _ H1 xs _ C1 R1 t1 (fun _ => it_tup hq r) h1⟩)
  | cl xs =>
    obtain ⟨a, ys, rfl, hq, r⟩ := of_cl rx
    exact .inl ⟨a, rfl, ⟨ys, hq.sq⟩, q _ H1 xs _ C1 R1 t1 (fun _ => it_cl hq r) h1⟩
  | str z => cases of_str rx; exact .inr (.inr ⟨z, rfl, q _ H1 _ _ C1 R1 t1 (fun _ => it_str) h1⟩)
  | ref a =>
    cases of_ref rx
    obtain ⟨xs, hx, h1⟩ := h1
    obtain ⟨ys, hy, r⟩ := R1.lst hx
    exact .inl ⟨a, rfl, ⟨ys, SqL.of hy⟩, q _ H1 xs _ C1 R1 t1 (fun _ => it_list) h1⟩
  | _ => exact False.elim h1
theorem di_r1 (hg : Gl X "range") (hm : X.mg "range" = none) (ha : SdA X [a] wA) (hs : starEach [a] X.env = [(false, eval a X.env)] := by rfl) : SdI X tg (.Call (.Name "range" p) [a] [] pos) (iR1 wA) := by
  obtain ⟨t, p1, s⟩ := ha
  refine ⟨_, pi_range1 hg hm p1 hs, fun F H C σ τ R R' χ Rr S h q => ?_⟩
  refine s F H C σ τ _ _ χ Rr S h fun xs vs H1 C1 R1 t1 rs h1 => ?_
  obtain ⟨j, rfl, h2, h3, h1⟩ := h1
  obtain ⟨x, rfl, rx⟩ := of_one rs
  cases of_int rx
  exact ⟨j, rfl, h2, h3, q _ H1 _ _ C1 R1 t1 (fun _ => it_rng) h1⟩
end
theorem sim_for {K : PySem.W.Frag} {wi : TI} {g : TG} {tb : TS} {i : WI} {g' : WG} {b : WS} (hi : SimI K wi i) (hg : SimG K g g') (hb : SimS K tb b) : SimS K (tFor wi g tb) (sFor i g' b) := fun F H C σ τ D D' R S h d => by
  refine hi F H C σ τ _ _ D'.xc R S h fun J H1 xs ok C1 R1 t1 it h1 => ?_
  have it1 := it F
  refine ⟨fun i m σ H => m = xs.length - i ∧ i ≤ xs.length ∧ ∃ τ C, Rl K F H C ∧ Tx H1 H ∧ RepS K H σ τ ∧ forW g' b ok D' (xs.drop i) τ C, ⟨xs.length, by simp, Nat.zero_le _, τ, C1, R1, Tx.refl _, S.tx t1, h1⟩, ?_⟩
  rintro i m σ2 H2 ⟨rfl, hle, τ2, C2, R2, t2, S2, h2⟩
  by_cases hlt : i < xs.length
  · right
    have ed : xs.drop i = xs[i] :: xs.drop (i + 1) := List.drop_eq_getElem_cons hlt
    rw [ed] at h2
    obtain ⟨hok, h2⟩ := h2
    obtain ⟨hgo, hy⟩ := (it1 i H2 C2 R2 t2 hok).1 hlt
    refine ⟨hgo, fun σ' H' => ∃ τ' C', Rl K F H' C' ∧ Tx H1 H' ∧ RepS K H' σ' τ' ∧ forW g' b ok D' (xs.drop (i + 1)) τ' C', fun σ' H' q => ⟨xs.length - (i + 1), by omega, rfl, hlt, q⟩, fun x H' hx => ?_⟩
    obtain ⟨v, ev, R3, t3, rv⟩ := hy x H' hx
    have : v = xs[i] := by
      have e : xs[i]? = some xs[i] := by simp [hlt]
      rw [e] at ev; exact (Option.some.inj ev).symm
    subst this
    refine hg F H' C2 σ2 τ2 x _ _ _ D'.xc R3 (S2.tx t3) rv h2 fun σ4 τ4 H4 C4 R4 t4 S4 h4 => ?_
    have tt : Tx H1 H4 := (t2.trans t3).trans t4
    exact hb F H4 C4 σ4 τ4 _ _ R4 S4 h4 ⟨fun σ5 τ5 H5 C5 R5 t5 S5 h5 => ⟨τ5, C5, R5, tt.trans t5, S5, h5⟩, fun x v H5 C5 R5 t5 => d.rt x v H5 C5 R5 ((t1.trans tt).trans t5), fun σ5 τ5 H5 C5 R5 t5 S5 h5 => d.nx σ5 τ5 H5 C5 R5 ((t1.trans tt).trans t5) S5 h5,
      fun σ5 τ5 H5 C5 R5 t5 S5 h5 => ⟨τ5, C5, R5, tt.trans t5, S5, h5⟩⟩
  · left
    have e : i = xs.length := by omega
    subst e
    rw [List.drop_length] at h2
    obtain ⟨hok, h2⟩ := h2
    exact ⟨(it1 _ H2 C2 R2 t2 hok).2 rfl, d.nx σ2 τ2 H2 C2 R2 (t1.trans t2) S2 h2⟩
theorem ds_for {X : Cx} {tg iter : Expr} {body : List Stmt} {i : WI} {g : WG} {b : WS} {pos : Pos} (hp : PassesOwn (model X.prog X.w) X.A X.env X.xe) (hc : X.calm = true) (hi : SdI X tg iter i) (hg : SdG X tg g) (hb : SdB X body b)
    (hs : ∀ x, foldedSetIterable iter X.env x = pure x := by intro _; rfl) : SdS X (.For tg iter body [] pos) (sFor i g b) := by
  obtain ⟨t, p, s⟩ := hi
  obtain ⟨t', p', s'⟩ := hg
  obtain ⟨t2, p2, s2⟩ := hb
  exact ⟨_, ps_for hp hc p p' p2 hs, sim_for s s' s2⟩
end WL
set_option Elab.async false
set_option linter.all false
set_option maxRecDepth 100000
set_option maxHeartbeats 4000000
namespace WL
open PySem PySem.Spec PyProof.Rows L2
def tOf (K : PySem.W.Frag) (we : WE) : TE := fun σ H Q => ∃ (F : Hp) (C : Hw) (τ : Sw) (Q' : WK) (χ : WX), Rl K F H C ∧ RepS K H σ τ ∧ we τ C Q' χ ∧ QE K F H Q Q'
def ttOf (K : PySem.W.Frag) (wt : WT) : TT := fun σ H Q => ∃ (F : Hp) (C : Hw) (τ : Sw) (Q' : Bool → Hw → Prop) (χ : WX), Rl K F H C ∧ RepS K H σ τ ∧ wt τ C Q' χ ∧ QT K F H Q Q'
theorem SdE.pe {X : Cx} {e : Expr} {we : WE} (h : SdE X e we) : PE X e (tOf X.K we) := by
  obtain ⟨t, p, s⟩ := h
  intro pins st σ H Q I hq
  obtain ⟨F, C, τ, Q', χ, R, S, hw, q⟩ := hq
  exact p pins st σ H Q I (s F H C σ τ Q Q' χ R S hw q)
def SdIf (X : Cx) (ifs : List Expr) (w : WT) : Prop := ∃ t, PIfs X ifs t ∧ SimT X.K t w
theorem dif_nil {X : Cx} : SdIf X [] tYes := ⟨_, pif_nil, fun F H C σ τ Q Q' χ R S h q => q true H C R (Tx.refl H) h⟩
theorem dif_one {X : Cx} {e : Expr} {wt : WT} (h : SdT X e wt) : SdIf X [e] wt := by
  obtain ⟨t, p, s⟩ := h
  exact ⟨t, pif_one p, s⟩
theorem SdIf.pif {X : Cx} {ifs : List Expr} {w : WT} (h : SdIf X ifs w) : PIfs X ifs (ttOf X.K w) := by
  obtain ⟨t, p, s⟩ := h
  intro pins st σ H Q I hq
  obtain ⟨F, C, τ, Q', χ, R, S, hw, q⟩ := hq
  exact p pins st σ H Q I (s F H C σ τ Q Q' χ R S hw q)
theorem RepS.cap {K : PySem.W.Frag} {H : Hp} {σ : L2.St} {τ : Sw} (h : RepS K H σ τ) (cap : List (Option Nat)) : RepS K H (capS cap σ) (capW cap τ) := by
  refine ⟨by unfold capS capW; rw [List.length_map, List.length_map], fun i v e => ?_⟩
  unfold capW at e
  unfold capS
  rw [List.getElem?_map] at e ⊢
  cases ho : cap[i]? with
  | none => rw [ho] at e; cases e
  | some o =>
    rw [ho] at e
    cases o with
    | none => simp at e
    | some j =>
      have e' : (τ[j]?).join = some v := by simpa using e
      have e2 : τ[j]? = some (some v) := by
        cases hj : τ[j]? with
        | none => rw [hj] at e'; cases e'
        | some z => rw [hj] at e'; rw [show z = some v from e']
      obtain ⟨x, hx, r⟩ := h.2 j v e2
      exact ⟨x, by simp [hx], r⟩
def frP (F : Hp) (p : Addr) (ys : List V) : Hp := fun b => if b = p then some (.lst ys) else F b
theorem frP_same {F : Hp} {p : Addr} {ys : List V} : frP F p ys p = some (.lst ys) := by unfold frP; rw [if_pos rfl]
theorem frP_ne {F : Hp} {p b : Addr} {ys : List V} (h : b ≠ p) : frP F p ys b = F b := by unfold frP; rw [if_neg h]
theorem sim_comp {K : PySem.W.Frag} {cap : List (Option Nat)} {wi : TI} {g : TG} {i : WI} {wg : WG} {wc : WT} {we : WE} (hi : SimI K wi i) (hg : SimG K g wg) {F H : Hp} {C : Hw} {σ : L2.St} {τ : Sw} {Q : Addr → Hp → Prop} {Q' : WK} {χ : WX}
    (R : Rl K F H C) (S : RepS K H σ τ) (h : eComp cap i wg wc we τ C Q' χ) (q : ∀ p H' C', Rl K F H' C' → Tx H H' → Q' (.ref p) C' → Q p H') : tCompL cap wi g (ttOf K wc) (tOf K we) σ H Q := by
  refine hi F H C σ τ _ _ χ R S h fun J H1 xs ok C1 R1 t1 it h1 => ?_
  intro p hp
  have hn : ∀ a o, F a = some o → a ≠ p := fun a o e => ne_of_none (R1.frm a o e).1 hp
  refine ⟨fun i m H2 => m = xs.length - i ∧ i ≤ xs.length ∧ ∃ C2 ys acc, Rl K (frP F p ys) H2 C2 ∧ Tx H1 H2 ∧ Reps K H2 ys acc ∧ compW wg wc we ok (capW cap τ) (fun vs C2 => ∀ p, C2 p = none → Q' (.ref p) (up C2 p (.lst vs))) χ (xs.drop i) acc C2,
    ⟨xs.length, by simp, Nat.zero_le _, C1, [], [], ?_, Tx.new hp, reps_nil, h1⟩, ?_⟩
  · refine ⟨(R1.hid hp).obj, fun a o e => ?_⟩
    by_cases ea : a = p
    · subst ea
      rw [frP_same] at e; cases e
      exact ⟨upd_same, R1.free hp⟩
    · rw [frP_ne ea] at e
      exact (R1.hid hp).frm a o e
  rintro i m H2 ⟨rfl, hle, C2, ys, acc, R2, t2, ra, h2⟩
  by_cases hlt : i < xs.length
  · right
    have ed : xs.drop i = xs[i] :: xs.drop (i + 1) := List.drop_eq_getElem_cons hlt
    rw [ed] at h2
    obtain ⟨hok, h2⟩ := h2
    obtain ⟨hgo, hy⟩ := (it (frP F p ys) i H2 C2 R2 t2 hok).1 hlt
    refine ⟨hgo, fun H' => ∃ C2 ys acc, Rl K (frP F p ys) H' C2 ∧ Tx H1 H' ∧ Reps K H' ys acc ∧ compW wg wc we ok (capW cap τ) (fun vs C2 => ∀ p, C2 p = none → Q' (.ref p) (up C2 p (.lst vs))) χ (xs.drop (i + 1)) acc C2,
      fun H' z => ⟨xs.length - (i + 1), by omega, rfl, hlt, z⟩, fun x H' hx => ?_⟩
    obtain ⟨v, ev, R3, t3, rv⟩ := hy x H' hx
    have : v = xs[i] := by
      have e : xs[i]? = some xs[i] := by simp [hlt]
      rw [e] at ev; exact (Option.some.inj ev).symm
    subst this
    have S3 : RepS K H' (capS cap σ) (capW cap τ) := (S.tx ((t1.trans t2).trans t3)).cap cap
    refine hg (frP F p ys) H' C2 (capS cap σ) (capW cap τ) x _ _ _ χ R3 S3 rv h2 fun σ4 τ4 H4 C4 R4 t4 S4 h4 => ?_
    refine ⟨frP F p ys, C4, τ4, _, χ, R4, S4, h4, fun b H5 C5 R5 t5 h5 => ?_⟩
    have t15 : Tx H2 H5 := (t3.trans t4).trans t5
    cases b with
    | true =>
      refine ⟨frP F p ys, C5, τ4, _, χ, R5, S4.tx t5, h5, fun y vy H6 C6 R6 t6 ry h6 => ?_⟩
      obtain ⟨e6, n6⟩ := R6.frm p _ frP_same
      have tp : Tx H6 (upd H6 p (.lst (ys ++ [y]))) := Tx.put e6 (fun z => z)
      refine ⟨ys, e6, by rw [ra.length]; exact h6.1, C6, ys ++ [y], acc ++ [vy], ⟨fun a o e => ?_, fun a o e => ?_⟩, (t2.trans (t15.trans t6)).trans tp, ((ra.tx (t15.trans t6)).snoc ry).tx tp, h6.2⟩
      · have ea : a ≠ p := fun z => by subst z; rw [n6] at e; cases e
        exact (R6.obj a o e).stay tp (upd_ne ea)
      · by_cases ea : a = p
        · subst ea
          rw [frP_same] at e; cases e
          exact ⟨upd_same, n6⟩
        · rw [frP_ne ea] at e
          rw [upd_ne ea]
          exact R6.frm a o (by rw [frP_ne ea]; exact e)
    | false => exact ⟨C5, ys, acc, R5, t2.trans t15, ra.tx t15, h5⟩
  · left
    have e : i = xs.length := by omega
    subst e
    rw [List.drop_length] at h2
    obtain ⟨hok, h2⟩ := h2
    refine ⟨(it (frP F p ys) _ H2 C2 R2 t2 hok).2 rfl, ?_⟩
    obtain ⟨e6, n6⟩ := R2.frm p _ frP_same
    refine q p H2 (up C2 p (.lst acc)) ⟨fun a o e => ?_, fun a o e => ?_⟩ (t1.trans t2) (h2 p n6)
    · by_cases ea : a = p
      · subst ea
        rw [up_same] at e; cases e
        exact ⟨ys, e6, ra⟩
      · rw [up_ne ea] at e
        exact R2.obj a o e
    · have ea := hn a o e
      rw [up_ne ea]
      exact R2.frm a o (by rw [frP_ne ea]; exact e)
section
variable {X : Cx} {tg iter elt : Expr} {ifs : List Expr} {scope : Scope} {pos : Pos} {cN : List Str} {cap : List (Option Nat)} {cl : List (Str × Addr)} {js : List Nat} {i : WI} {g : TG} {wg : WG} {wc : WT} {we : WE}
theorem ttOf_mono {K : PySem.W.Frag} {w : WT} : ∀ (σ : L2.St) (H : Hp) (Q Q' : Bool → Hp → Prop), (∀ b H', Q b H' → Q' b H') → ttOf K w σ H Q → ttOf K w σ H Q' := fun σ H Q Q' m h => by
  obtain ⟨F, C, τ, R', χ, R, S, hw, q⟩ := h
  exact ⟨F, C, τ, R', χ, R, S, hw, fun b H' C' r t h => m _ _ (q b H' C' r t h)⟩
structure CompD (X : Cx) (tg iter elt : Expr) (ifs : List Expr) (scope : Scope) (cN : List Str) (cap : List (Option Nat)) (cl : List (Str × Addr)) (js : List Nat) (i : WI) (g : TG) (wg : WG) (wc : WT) (we : WE) : Prop where
  calm : X.calm = true
  ok : X.Ok → CompOk X cN cap scope cl
  it : SdI X tg iter i
  tgt : ∀ fp s H, PG (cxComp X cN scope cl fp s H) tg g
  gm : TGmono g
  gk : GKeep js g
  sg : SimG X.K g wg
  js0 : ∀ j ∈ js, (cap[j]?).join = none
  ts : ∀ fp s H, SdIf (cxComp X cN scope cl fp s H) ifs wc
  el : ∀ fp s H, SdE (cxComp X cN scope cl fp s H) elt we
  fold : ∀ x, foldedSetIterable iter X.env x = pure x
theorem d_comp (D : CompD X tg iter elt ifs scope cN cap cl js i g wg wc we) : SdE X (.ListComp elt [⟨tg, iter, ifs, 0⟩] scope pos) (eComp cap i wg wc we) := by
  obtain ⟨wi, p, s⟩ := D.it
  have P : CompP X tg iter elt ifs scope cN cap cl js wi g (ttOf X.K wc) (tOf X.K we) := ⟨D.calm, D.ok, p, D.tgt, D.gm, D.gk, D.js0, fun fp s H => (D.ts fp s H).pif, ttOf_mono, fun fp s H => (D.el fp s H).pe, D.fold⟩
  exact ⟨_, pe_comp P, fun F H C σ τ Q Q' χ R S h q => sim_comp s D.sg R S h fun p H' C' R' t' h' => q _ _ H' C' R' t' rep_ref h'⟩
theorem ds_setComp {k : Nat} {y : Str} {py spos : Pos} (hN : X.N.Nodup) (hi : X.N[k]? = some y) (hy : X.env.scope.names.lookup y = some .local)
    (hsw : swapsWith (.ListComp elt [⟨tg, iter, ifs, 0⟩] scope pos) (some (.Name y py)) spos.line X.env = pure true)
    (D : CompD X tg iter elt ifs scope cN cap cl js i g wg wc we) : SdS X (.Assign [.Name y py] (.ListComp elt [⟨tg, iter, ifs, 0⟩] scope pos) spos) (sAsg (eComp cap i wg wc we) (gNm k)) := by
  obtain ⟨wi, p, s⟩ := D.it
  have P : CompP X tg iter elt ifs scope cN cap cl js wi g (ttOf X.K wc) (tOf X.K we) := ⟨D.calm, D.ok, p, D.tgt, D.gm, D.gk, D.js0, fun fp s H => (D.ts fp s H).pif, ttOf_mono, fun fp s H => (D.el fp s H).pe, D.fold⟩
  exact ⟨_, ps_setComp hN hi hy hsw P, fun F H C σ τ E E' R S h d => sim_comp s D.sg R S h fun p H' C' R' t' h' => d.nx _ _ H' C' R' t' ((S.tx t').set rep_ref) h'⟩
end
theorem hu150 {A : Around} {k : Nat} (hr : Room k A) : A.units + 150 < cLine := by have := hr.un; omega
def spW (K : PySem.W.Frag) (pr : List Df) (n i : Nat) : Sp := fun vs H Q _ => ∃ (F : Hp) (C : Hw) (vs' : List T) (Q' : WK) (χ : WX), Rl K F H C ∧ Reps K H vs vs' ∧ wpc pr n i vs' C Q' χ ∧ QE K F H Q Q'
theorem d_call {X : Cx} {k i : Nat} {x : Str} {ps : List Str} {pr : List Df} {p pos : Pos} {e : Expr} {es : List Expr} {wA : WA} (Cc : Ca X.prog X.w X.K X.mg X.base k x ps (spW X.K pr k i)) (hr : Room k X.A) (hg : Gl X x) (ha : SdA X (e :: es) wA)
    (hdb : (x == ("__debug__" : Str)) = false := by decide) (he : starEach (e :: es) X.env = (false, eval e X.env) :: starEach es X.env := by rfl) (hpl : (backTo pos (starEach es X.env)).any (·.1) = false := by rfl) :
    SdE X (.Call (.Name x p) (e :: es) [] pos) (eCall (wpc pr k) i wA) := by
  obtain ⟨t, p1, s⟩ := ha
  refine ⟨_, pe_ca Cc hr hg p1 hdb he hpl, fun F H C σ τ Q Q' χ R S h q => ?_⟩
  refine s F H C σ τ _ _ χ R S h fun xs vs H1 C1 R1 t1 rs h1 => ?_
  refine ⟨F, C1, vs, Q', χ, R1, ?_, h1, QE.at q t1⟩
  rw [List.append_nil]; exact rs
theorem RepS.start {K : PySem.W.Frag} {H : Hp} {vs : List V} {vs' : List T} (h : Reps K H vs vs') (N : List Str) (m : Nat) (e : m = N.length - vs.length) : RepS K H (start N vs) (vs'.map some ++ List.replicate m none) := by
  refine ⟨?_, fun i v hv => ?_⟩
  · unfold L2.start
    rw [List.length_append, List.length_append, List.length_map, List.length_map, List.length_replicate, List.length_replicate, h.length, e, h.length]
  · unfold L2.start
    by_cases hi : i < vs'.length
    · rw [List.getElem?_append_left (by rw [List.length_map]; exact hi), List.getElem?_map] at hv
      cases hg : vs'[i]? with
      | none => rw [hg] at hv; cases hv
      | some z =>
        rw [hg] at hv
        cases hv
        obtain ⟨x, hx, r⟩ := h.get hg
        refine ⟨x, ?_, r⟩
        rw [List.getElem?_append_left (by rw [List.length_map, h.length]; exact hi), List.getElem?_map, hx]
        rfl
    · rw [List.getElem?_append_right (by rw [List.length_map]; omega), List.getElem?_replicate] at hv
      split at hv
      · cases hv
      · cases hv
theorem ca_zero {P : Program} {w : World} {K : PySem.W.Frag} {mg : Str → Option Value} {base : Heap} {x : Str} {st : Stmt} {f : Addr} {fd : FuncData} {ps : List Str} {pr : List Df} {i : Nat} (F : Fun K x x st f fd) (hb : Binds K fd ps []) (hm : mg x = some (.ref f)) : Ca P w K mg base 0 x ps (spW K pr 0 i) :=
  ⟨f, fd, ⟨fun vs H Q E h => by obtain ⟨_, _, _, _, _, _, _, z, _⟩ := h; exact z.elim, fun A outer s H args us vs Q E _ _ _ _ h => by obtain ⟨_, _, _, _, _, _, _, z, _⟩ := h; exact z.elim⟩, hb, F.kp, hm⟩
theorem ca_succ {P : Program} {w : World} {K : PySem.W.Frag} {mg : Str → Option Value} {base : Heap} {x : Str} {st : Stmt} {f : Addr} {fd : FuncData} {ps : List Str} {sp : Sp} {n : Nat} (F : Fun K x x st f fd) (hb : Binds K fd ps []) (hm : mg x = some (.ref f)) (G : FnOk P w K mg base CX0 n f fd ps sp) : Ca P w K mg base n x ps sp :=
  ⟨f, fd, G, hb, F.kp, hm⟩
theorem law_sp {K : PySem.W.Frag} {pr : List Df} {n i : Nat} {H : Hp} {a : Addr} {ns : List Int} (hO : Only H) (hS : SqL K H a (ns.map V.int)) (h : wpc pr n i [.cl (ns.map T.int)] (fun _ => none) (fun v _ => v = .bl true) (fun _ _ => False)) :
    spW K pr n i [.ref a] H (fun v _ => v = .bl true) (fun _ _ _ => False) := by
  have hq : SqC K H a (ns.map V.int) := by
    rcases hS with (h | ⟨o, h⟩) | h
    · rcases hO a with e | ⟨o, xs, e⟩
      · rw [e] at h; cases h
      · rw [e] at h; cases h
    · exact .inl ⟨o, h⟩
    · exact .inr h
  refine ⟨fun _ => none, fun _ => none, [.cl (ns.map T.int)], _, _, ⟨(fun _ _ e => by cases e), (fun _ _ e => by cases e)⟩, reps_cons ?_ reps_nil, h, fun x v H' C' R t r e => ?_⟩
  · unfold Rep
    exact ⟨a, _, rfl, hq, reps_ints ns⟩
  · subst e; exact of_bl r
end WL
set_option Elab.async false
set_option linter.all false
set_option maxRecDepth 100000
set_option maxHeartbeats 4000000
namespace WL
open PySem PySem.Spec PyProof.Rows L2
def whileN (c : WT) (b : WS) (D : We) : Nat → Sw → Hw → Prop
  | 0, _, _ => False
  | n + 1, τ, C => c τ C (fun k C1 => if k = true then b { D with nx := whileN c b D n, ct := whileN c b D n, bk := D.nx } τ C1 else D.nx τ C1) D.xc
def sWhile (c : WT) (b : WS) : WS := fun D τ C => ∃ n, whileN c b D n τ C
theorem sim_while {K : PySem.W.Frag} {c : TT} {tb : TS} {c' : WT} {b' : WS} (hc : SimT K c c') (hb : SimS K tb b') : SimS K (tWhile c tb) (sWhile c' b') := fun F H C σ τ D D' R S h d => by
  obtain ⟨n, h⟩ := h
  refine ⟨fun m σ H2 => ∃ τ C, Rl K F H2 C ∧ Tx H H2 ∧ RepS K H2 σ τ ∧ whileN c' b' D' m τ C, ⟨n, τ, C, R, Tx.refl _, S, h⟩, ?_⟩
  rintro m σ2 H2 ⟨τ2, C2, R2, t2, S2, h2⟩
  cases m with
  | zero => exact h2.elim
  | succ m =>
    refine hc F H2 C2 σ2 τ2 _ _ D'.xc R2 S2 h2 fun k H3 C3 R3 t3 h3 => ?_
    cases k with
    | true =>
      refine ⟨fun σ' H' => ∃ τ' C', Rl K F H' C' ∧ Tx H H' ∧ RepS K H' σ' τ' ∧ whileN c' b' D' m τ' C', fun σ' H' z => ⟨m, Nat.lt_succ_self m, z⟩, ?_⟩
      have t13 := t2.trans t3
      exact hb F H3 C3 σ2 τ2 _ _ R3 (S2.tx t3) h3 ⟨fun σ' τ' H' C' R' t' S' h' => ⟨τ', C', R', t13.trans t', S', h'⟩, fun x v H' C' R' t' => d.rt x v H' C' R' (t13.trans t'), fun σ' τ' H' C' R' t' S' h' => d.nx σ' τ' H' C' R' (t13.trans t') S' h', fun σ' τ' H' C' R' t' S' h' => ⟨τ', C', R', t13.trans t', S', h'⟩⟩
    | false => exact d.nx σ2 τ2 H3 C3 R3 (t2.trans t3) (S2.tx t3) h3
theorem ds_while {X : Cx} {c : Expr} {body : List Stmt} {wc : WT} {b : WS} {pos : Pos} (hp : PassesOwn (model X.prog X.w) X.A X.env X.xe) (hc : SdT X c wc) (hb : SdB X body b) : SdS X (.While c body [] pos) (sWhile wc b) := by
  obtain ⟨t, p, s⟩ := hc
  obtain ⟨t', p', s'⟩ := hb
  exact ⟨_, ps_while hp p p', sim_while s s'⟩
theorem while_inv {c : WT} {b : WS} {D : We} (Pv : Nat → Sw → Hw → Prop) {τ : Sw} {C : Hw} {m : Nat} (h0 : Pv m τ C)
    (hs : ∀ m τ C (N : Sw → Hw → Prop), Pv m τ C → (∀ m' τ' C', m' < m → Pv m' τ' C' → N τ' C') → c τ C (fun k C1 => if k = true then b { D with nx := N, ct := N, bk := D.nx } τ C1 else D.nx τ C1) D.xc) : sWhile c b D τ C := by
  have key : ∀ (n m : Nat) (τ : Sw) (C : Hw), m < n → Pv m τ C → whileN c b D n τ C := by
    intro n
    induction n with
    | zero => intro m τ C h _; omega
    | succ n ih => intro m τ C hm hp; exact hs m τ C _ hp fun m' τ' C' hlt hp' => ih m' τ' C' (by omega) hp'
  exact ⟨m + 1, key (m + 1) m τ C (Nat.lt_succ_self m) h0⟩
section
variable {X : Cx} {a b c e o i : Expr} {es : List Expr} {wa wb wc wo wi : WE} {wA : WA} {pos p p2 apos cpos : Pos}
def bStr : List T → Hw → WK → Prop := fun vs C Q => ∃ i : Int, vs = [.int i] ∧ i.natAbs.log2 < 1920 ∧ Q (.str (toString i)) C
def bInt : List T → Hw → WK → Prop := fun vs C Q => (∃ i : Int, vs = [.int i] ∧ Q (.int i) C) ∨ ∃ k : Bool, vs = [.bl k] ∧ Q (.int (if k then 1 else 0)) C
def bAbs : List T → Hw → WK → Prop := fun vs C Q => ∃ i : Int, vs = [.int i] ∧ Q (.int (if i < 0 then -i else i)) C
end
def kT : T → Option Key
  | .int i => some (.inl i)
  | .str x => some (.inr x)
  | _ => none
def tK : Key → T
  | .inl i => .int i
  | .inr x => .str x
def getT (kvs : List (Key × T)) (k : Key) : Option T := (kvs.find? fun kv => decide (kv.1 = k)).map (·.2)
def putT (kvs : List (Key × T)) (k : Key) (v : T) : List (Key × T) :=
  if (kvs.any fun kv => decide (kv.1 = k)) = true then kvs.map (fun kv => if kv.1 = k then (kv.1, v) else kv) else kvs ++ [(k, v)]
section
variable {K : PySem.W.Frag} {F H : Hp} {C : Hw}
end
def eDict0 : WE := fun _ C Q _ => ∀ p, C p = none → Q (.ref p) (up C p (.dic []))
def wDget : W2 := fun x y C Q => ∃ a kvs k v, x = .ref a ∧ kT y = some k ∧ C a = some (.dic kvs) ∧ getT kvs k = some v ∧ Q v C
def wDinG (neg : Bool) : W2 := fun y x C Q => ∃ a kvs k, x = .ref a ∧ kT y = some k ∧ C a = some (.dic kvs) ∧ Q (.bl (if neg then !(getT kvs k).isSome else (getT kvs k).isSome)) C
abbrev wDin : W2 := wDinG false
abbrev wDnotin : W2 := wDinG true
def gSd (o i : WE) : WG := fun v τ C Q χ => o τ C (fun x C1 => i τ C1 (fun y C2 => ∃ a kvs k, x = .ref a ∧ kT y = some k ∧ C2 a = some (.dic kvs) ∧ kvs.length < sizeLine ∧ Q τ (up C2 a (.dic (putT kvs k v)))) χ) χ
def eDget1 (o i : WE) : WE := fun τ C Q χ => o τ C (fun x C1 => (∃ a kvs, x = .ref a ∧ C1 a = some (.dic kvs)) ∧ i τ C1 (fun y C2 => ∃ a kvs k, x = .ref a ∧ kT y = some k ∧ C2 a = some (.dic kvs) ∧ Q ((getT kvs k).getD .non) C2) χ) χ
def eDget2 (o i d : WE) : WE := fun τ C Q χ => o τ C (fun x C1 => (∃ a kvs, x = .ref a ∧ C1 a = some (.dic kvs)) ∧ i τ C1 (fun y C2 => d τ C2 (fun z C3 => ∃ a kvs k, x = .ref a ∧ kT y = some k ∧ C3 a = some (.dic kvs) ∧ Q ((getT kvs k).getD z) C3) χ) χ) χ
def bLenD : List T → Hw → WK → Prop := fun vs C Q => ∃ a kvs, vs = [.ref a] ∧ C a = some (.dic kvs) ∧ Q (.int kvs.length) C
section
variable {X : Cx} {a b c e o i f : Expr} {es : List Expr} {wa wb wc wo wi wd : WE} {wA : WA} {pos p p2 apos cpos : Pos}
def rSetD : V → V → V → Hp → (Hp → Prop) → Prop := fun o i v H Q => ∃ p ks k, o = .ref p ∧ i = kV k ∧ H p = some (.dK ks) ∧ ks.length < sizeLine ∧ Q (upd H p (.dK (putK ks k v)))
end
end WL
set_option Elab.async false
set_option linter.all false
set_option maxRecDepth 100000
set_option maxHeartbeats 4000000
namespace WL
open PySem PySem.Spec PyProof.Rows L2
def bSortD : List T → Hw → WK → Prop := fun vs C Q => ∃ (a : Addr) (kvs : List (Key × T)) (ts : List Str), vs = [.ref a] ∧ C a = some (.dic kvs) ∧ kvs.map (·.1) = ts.map Sum.inr ∧ ts.length < 64 ∧
  ∀ q ys, C q = none → ys.Perm ts → sortedS ys = true → Q (.ref q) (up C q (.lst (ys.map T.str)))
def eSrtSet (we : WE) : WE := fun τ C Q χ => we τ C (fun v C1 => ∃ (a : Addr) (ts : List Str), v = .ref a ∧ C1 a = some (.lst (ts.map T.str)) ∧ ts.length + 1 < scanBound ∧ (∀ ys : List Str, ys.Nodup → (∀ y, y ∈ ys ↔ y ∈ ts) → ys.length < 64) ∧
  ∀ q ys, C1 q = none → ys.Nodup → (∀ y, y ∈ ys ↔ y ∈ ts) → sortedS ys = true → Q (.ref q) (up C1 q (.lst (ys.map T.str)))) χ
theorem bt_set : bootBuiltins "set" = some (.type "set") := by decide +kernel
theorem of_strs {K : PySem.W.Frag} {H : Hp} : ∀ {ts : List Str} {ys : List V}, Reps K H ys (ts.map T.str) → ys = ts.map V.str
  | [], _, h => of_nil h
  | t :: ts, _, h => by
    obtain ⟨y, r, rfl, a, b⟩ := of_cons h
    rw [of_str a, of_strs b]; rfl
section
variable {X : Cx} {e : Expr} {we : WE} {pos p p2 pos2 : Pos}
end
end WL
set_option Elab.async false
set_option linter.all false
set_option maxRecDepth 100000
set_option maxHeartbeats 4000000
namespace WL
open PySem PySem.Spec PyProof.Rows L2
def iRv (a : WA) : WI := fun τ C R χ => a τ C (fun vs C1 => ∃ l xs, vs = [.ref l] ∧ C1 l = some (.lst xs) ∧ R xs.reverse (fun C2 => C2 l = some (.lst xs)) C1) χ
theorem it_rev {K : PySem.W.Frag} {F H0 : Hp} {l : Addr} {xs : List T} : ItRel K F H0 (Itv K l xs.length) xs.reverse (fun C => C l = some (.lst xs)) := fun i H C R t ok => by
  obtain ⟨ys, hy, r⟩ := R.lst ok
  refine ⟨fun hi => ?_, fun hi => by show i = xs.length; rw [hi, List.length_reverse]⟩
  rw [List.length_reverse] at hi
  have ev : xs[xs.length - 1 - i]? = some (xs[xs.length - 1 - i]'(by omega)) := List.getElem?_eq_getElem (by omega)
  obtain ⟨y, ey, ry⟩ := r.get ev
  refine ⟨⟨hi, ys, y, SqL.of hy, ey⟩, fun x H' h => ?_⟩
  obtain ⟨rfl, h⟩ := h
  have e2 := h ys (SqL.of hy)
  rw [ey] at e2; cases e2
  exact ⟨_, by rw [List.getElem?_reverse hi]; exact ev, R, Tx.refl _, ry⟩
section
variable {X : Cx} {tg a : Expr} {wA : WA} {pos p : Pos}
theorem di_rev (hg : Gl X "reversed") (hm : X.mg "reversed" = none) (ha : SdA X [a] wA) (hs : starEach [a] X.env = [(false, eval a X.env)] := by rfl) : SdI X tg (.Call (.Name "reversed" p) [a] [] pos) (iRv wA) := by
  obtain ⟨t, p1, s1⟩ := ha
  refine ⟨_, pi_rev hg hm p1 hs, fun F H C σ τ R R' χ Rr S h q => ?_⟩
  refine s1 F H C σ τ _ _ χ Rr S h fun xs vs H1 C1 R1 t1 rs h1 => ?_
  obtain ⟨l, us, rfl, hC, h1⟩ := h1
  obtain ⟨x, rfl, rx⟩ := of_one rs
  cases of_ref rx
  obtain ⟨ys, hy, r⟩ := R1.lst hC
  refine ⟨l, ys, rfl, SqL.of hy, ?_⟩
  rw [r.length]
  exact q _ H1 us.reverse _ C1 R1 t1 (fun _ => it_rev) h1
end
end WL
set_option Elab.async false
set_option linter.all false
set_option maxRecDepth 100000
set_option maxHeartbeats 4000000
namespace WL
open PySem PySem.Spec PyProof.Rows L2
section
variable {X : Cx}
theorem reps_strs' {K : PySem.W.Frag} {H : Hp} : ∀ {bs : List Str} {ys : List V}, Reps K H ys (bs.map T.str) → ys = bs.map V.str
  | [], _, h => of_nil h
  | b :: bs, _, h => by obtain ⟨y, r, rfl, a, c⟩ := of_cons h; cases of_str a; rw [reps_strs' c]; rfl
def mJoin : T → List T → Hw → WK → Prop := fun x vs C Q => ∃ z p zs, x = .str z ∧ vs = [.ref p] ∧ C p = some (.lst (zs.map T.str)) ∧ z.length ≤ 16 ∧ (zs.map (·.length)).sum + zs.length ≤ 1048576 ∧ Q (.str (Txt.join z zs)) C
end
end WL
set_option Elab.async false
set_option linter.all false
set_option maxRecDepth 100000
set_option maxHeartbeats 4000000
namespace WL
open PySem PySem.Spec PyProof.Rows L2
section
variable {X : Cx} {e o : Expr} {we wo : WE} {p p2 pos pos2 apos cpos : Pos}
def mExtend : T → List T → Hw → WK → Prop := fun x vs C Q => ∃ a b xs zs, x = .ref a ∧ vs = [.ref b] ∧ C a = some (.lst xs) ∧ C b = some (.lst zs) ∧ xs.length + zs.length ≤ sizeLine ∧ Q .non (up C a (.lst (xs ++ zs)))
theorem m_extend : MtS X "list.extend" mExtend := ⟨_, mt_extend, fun F H C x v xs vs Q Q' R rx rs h q => by
  obtain ⟨a, b, ts, us, rfl, rfl, ha, hb, hl, h⟩ := h
  cases of_ref rx
  obtain ⟨y, rfl, ry⟩ := of_one rs
  cases of_ref ry
  obtain ⟨ys, hy, r⟩ := R.lst ha
  obtain ⟨zs, hz, r2⟩ := R.lst hb
  obtain ⟨R', t⟩ := R.putL ha (r.app r2)
  exact ⟨a, b, ys, zs, rfl, rfl, hy, hz, by rw [r.length, r2.length]; exact hl, q _ _ _ _ R' t rep_non h⟩⟩
def eLRev (e : WE) : WE := fun τ C Q χ => e τ C (fun x C1 => ∃ a xs, x = .ref a ∧ C1 a = some (.lst xs) ∧ ∀ p, C1 p = none → Q (.ref p) (up C1 p (.lst xs.reverse))) χ
theorem d_lrev (hc : X.calm = true) (hg : Gl X "list") (hm : X.mg "list" = none) (hg2 : Gl X "reversed") (hm2 : X.mg "reversed" = none) (he : SdE X e we) (hs : starEach [e] X.env = [(false, eval e X.env)] := by rfl)
    (hs2 : starEach [.Call (.Name "reversed" p2) [e] [] pos2] X.env = [(false, eval (.Call (.Name "reversed" p2) [e] [] pos2) X.env)] := by rfl) :
    SdE X (.Call (.Name "list" p) [.Call (.Name "reversed" p2) [e] [] pos2] [] pos) (eLRev we) := by
  obtain ⟨t, p1, sm⟩ := he
  refine ⟨_, pe_listrev hc hg hm hg2 hm2 p1 hs hs2, fun F H C σ τ Q Q' χ R S h q => ?_⟩
  refine sm F H C σ τ _ _ χ R S h fun x v H1 C1 R1 t1 rx h1 => ?_
  obtain ⟨a, xs, rfl, hC, h1⟩ := h1
  cases of_ref rx
  obtain ⟨ys, hH, rs⟩ := R1.lst hC
  exact ⟨a, ys, rfl, SqL.of hH, fun b hb => q _ _ _ _ (R1.newL hb rs.reverse) (t1.trans (Tx.new hb)) rep_ref (h1 b (R1.free hb))⟩
theorem call_str_str : CallR X (.type "str") (fun xs H Q => ∃ z, xs = [.str z] ∧ Q (.str z) H) := by
  intro pins s σ H xs us Q I r h
  obtain ⟨z, rfl, q⟩ := h
  obtain ⟨u, rfl, t, rfl⟩ := vals1 r
  exact PySem.P.str_of_str ⟨.str z, H, I, ⟨_, rfl⟩, q⟩
def bStr2 : List T → Hw → WK → Prop := fun vs C Q => (∃ i : Int, vs = [.int i] ∧ i.natAbs.log2 < 1920 ∧ Q (.str (toString i)) C) ∨ ∃ z, vs = [.str z] ∧ Q (.str z) C
theorem b_str2 : CallS X (.type "str") bStr2 := ⟨_, call_str_int.or call_str_str, fun F H C xs vs Q Q' R rs h q => by
  rcases h with ⟨j, rfl, hl, h⟩ | ⟨z, rfl, h⟩
  · obtain ⟨x, rfl, rx⟩ := of_one rs
    cases of_int rx
    exact .inl ⟨j, rfl, hl, q _ _ H C R (Tx.refl H) rep_str h⟩
  · obtain ⟨x, rfl, rx⟩ := of_one rs
    cases of_str rx
    exact .inr ⟨z, rfl, q _ _ H C R (Tx.refl H) rep_str h⟩⟩
def SdP (X : Cx) (e : Expr) (w : WE) : Prop := ∃ t, PEp X e t ∧ SimE X.K t w
theorem d_ofP (h : SdP X e we) : SdE X e we := by
  obtain ⟨t, a, b⟩ := h
  exact ⟨t, a.pe, b⟩
theorem dp_join {z : Str} {k : Nat} {lp : Pos} (he : SdE X e we)
    (hbase : attributeBase (.Constant (.str z) k lp) "join" X.env (eval (.Constant (.str z) k lp) X.env) = eval (.Constant (.str z) k lp) X.env := by rfl)
    (hfew : ((backTo cpos (starEach [e] X.env)).all (fun x => !x.1) && (backToKw cpos (keywordEach [] X.env)).all (fun x => x.1.isSome)
      && decide ([e].length + ([] : List Keyword).length + (if ([] : List Keyword).isEmpty then 0 else 1) < 30)) = true := by rfl)
    (hline : (apos.endLine == cpos.line) = true := by rfl) (hs : starEach [e] X.env = [(false, eval e X.env)] := by rfl) :
    SdP X (.Call (.Attribute (.Constant (.str z) k lp) "join" apos) [e] [] cpos) (eMt tyS mJoin (eC (.str z)) (aCons we aNil)) := by
  obtain ⟨t, p1, sm⟩ := he
  refine ⟨_, pep_join (pa_cons p1 pa_nil hs) hbase hfew hline hs, fun F H C σ τ Q Q' χ R S h q => ?_⟩
  refine sm F H C σ τ _ _ χ R S h.2 fun x v H1 C1 R1 t1 rx h1 => ?_
  obtain ⟨z', a, zs, e1, e2, hx, l1, l2, h1⟩ := h1
  cases e1
  cases e2
  cases of_ref rx
  obtain ⟨ys, hy, r⟩ := R1.lst hx
  cases reps_strs' r
  exact ⟨z, a, zs, rfl, rfl, SqL.of hy, l1, l2, q _ _ H1 C1 R1 t1 rep_str h1⟩
def eRepl (y z : Str) (o : WE) : WE := fun τ C Q χ => o τ C (fun x C1 => ∃ u, x = .str u ∧ u.length ≤ 1048576 ∧ Q (.str (Txt.replace u y z)) C1) χ
theorem dp_replace {y z : Str} {k1 k2 : Nat} {lp1 lp2 : Pos} (ho : SdP X o wo) (hyz : (y == z) = false) (hz : z.length ≤ 14)
    (hbase : attributeBase o "replace" X.env (eval o X.env) = eval o X.env := by rfl)
    (hfew : ((backTo cpos (starEach [.Constant (.str y) k1 lp1, .Constant (.str z) k2 lp2] X.env)).all (fun x => !x.1) && (backToKw cpos (keywordEach [] X.env)).all (fun x => x.1.isSome)
      && decide ([Expr.Constant (.str y) k1 lp1, .Constant (.str z) k2 lp2].length + ([] : List Keyword).length + (if ([] : List Keyword).isEmpty then 0 else 1) < 30)) = true := by rfl)
    (hline : (apos.endLine == cpos.line) = true := by rfl)
    (hs : starEach [.Constant (.str y) k1 lp1, .Constant (.str z) k2 lp2] X.env = [(false, eval (.Constant (.str y) k1 lp1) X.env), (false, eval (.Constant (.str z) k2 lp2) X.env)] := by rfl) :
    SdP X (.Call (.Attribute o "replace" apos) [.Constant (.str y) k1 lp1, .Constant (.str z) k2 lp2] [] cpos) (eRepl y z wo) := by
  obtain ⟨t, p1, sm⟩ := ho
  refine ⟨_, pep_replace p1 hyz hz hbase hfew hline hs, fun F H C σ τ Q Q' χ R S h q => ?_⟩
  refine sm F H C σ τ _ _ χ R S h fun x v H1 C1 R1 t1 rx h1 => ?_
  obtain ⟨u, rfl, hu, h1⟩ := h1
  cases of_str rx
  exact ⟨u, rfl, hu, q _ _ H1 C1 R1 t1 rep_str h1⟩
end
end WL
set_option Elab.async false
set_option linter.all false
set_option maxRecDepth 100000
set_option maxHeartbeats 4000000
namespace L2
open PySem PySem.Spec PyProof.Rows
section
variable {X : Cx}
end
section
variable {prog : Program} {w : World} {K : Type} [DecidableEq K] {knd : KeyKind prog w K}
end
end L2
namespace WL
open PySem PySem.Spec PyProof.Rows L2
section
variable {X : Cx} {e o a b f : Expr} {we wo wa wb wi wd : WE} {wA : WA} {p p2 pos pos2 apos cpos : Pos}
def bAny : List T → Hw → WK → Prop := fun vs C Q => ∃ (a : Addr) (bs : List Bool), vs = [.ref a] ∧ C a = some (.lst (bs.map T.bl)) ∧ Q (.bl (bs.any id)) C
def bDictC : List T → Hw → WK → Prop := fun vs C Q => ∃ (a : Addr) (kvs : List (Key × T)), vs = [.ref a] ∧ C a = some (.dic kvs) ∧ ∀ p, C p = none → Q (.ref p) (up C p (.dic kvs))
def dropT (kvs : List (Key × T)) (k : Key) : List (Key × T) := kvs.filter fun kv => decide (kv.1 ≠ k)
def eDpop2 (o i d : WE) : WE := fun τ C Q χ => o τ C (fun x C1 => (∃ a kvs, x = .ref a ∧ C1 a = some (.dic kvs)) ∧ i τ C1 (fun y C2 => d τ C2 (fun z C3 => ∃ a kvs k, x = .ref a ∧ kT y = some k ∧ C3 a = some (.dic kvs) ∧
  (∀ v, getT kvs k = some v → Q v (up C3 a (.dic (dropT kvs k)))) ∧ (getT kvs k = none → Q z C3)) χ) χ) χ
def wDeqG (neg : Bool) : W2 := fun x y C Q => ∃ a b ka kb, x = .ref a ∧ y = .ref b ∧ C a = some (.dic ka) ∧ C b = some (.dic kb) ∧
  ((ka.length ≠ kb.length ∧ Q (.bl neg) C) ∨ (ka = kb ∧ (∀ kv ∈ ka, isFlat kv.2) ∧ Q (.bl (!neg)) C))
abbrev wDeq : W2 := wDeqG false
abbrev wDne : W2 := wDeqG true
def zipT (xs ys : List T) : List T := List.zipWith (fun x y => T.tup [x, y]) xs ys
def iZp (a : WA) : WI := fun τ C R χ => a τ C (fun vs C1 => (∃ xs ys, vs = [.tup xs, .tup ys] ∧ xs.length = ys.length ∧ R (zipT xs ys) (fun _ => True) C1) ∨
  ∃ xs ys l, vs = [.tup xs, .ref l] ∧ C1 l = some (.lst ys) ∧ xs.length = ys.length ∧ R (zipT xs ys) (fun C2 => C2 l = some (.lst ys)) C1) χ
end
end WL
set_option Elab.async false
set_option linter.all false
set_option maxRecDepth 100000
set_option maxHeartbeats 4000000
namespace WL
open PySem PySem.Spec PyProof.Rows L2
def RdC (C : Hw) (a : Addr) (kvs : List (Key × T)) : Prop := C a = some (.dic kvs) ∨ C a = some (.fdic kvs)
def rD (kvs : List (Key × T)) : List T := kvs.map fun kv => tK kv.1
section
variable {X : Cx} {e o a b c f i : Expr} {we wo wa wb wi wd : WE} {wA : WA} {p p2 pos pos2 apos cpos : Pos} {tg : Expr}
def wRget : W2 := fun x y C Q => ∃ a kvs k v, x = .ref a ∧ kT y = some k ∧ RdC C a kvs ∧ getT kvs k = some v ∧ Q v C
def wRinG (neg : Bool) : W2 := fun y x C Q => ∃ a kvs k, x = .ref a ∧ kT y = some k ∧ RdC C a kvs ∧ Q (.bl (if neg then !(getT kvs k).isSome else (getT kvs k).isSome)) C
abbrev wRin : W2 := wRinG false
abbrev wRnotin : W2 := wRinG true
def eRget2 (o i d : WE) : WE := fun τ C Q χ => o τ C (fun x C1 => (∃ a kvs, x = .ref a ∧ RdC C1 a kvs) ∧ i τ C1 (fun y C2 => d τ C2 (fun z C3 => ∃ a kvs k, x = .ref a ∧ kT y = some k ∧ RdC C3 a kvs ∧ Q ((getT kvs k).getD z) C3) χ) χ) χ
def bDictR : List T → Hw → WK → Prop := fun vs C Q => ∃ (a : Addr) (kvs : List (Key × T)), vs = [.ref a] ∧ RdC C a kvs ∧ ∀ p, C p = none → Q (.ref p) (up C p (.dic kvs))
def wReqG (neg : Bool) : W2 := fun x y C Q => ∃ a b ka kb, x = .ref a ∧ y = .ref b ∧ RdC C a ka ∧ RdC C b kb ∧
  ((ka.length ≠ kb.length ∧ Q (.bl neg) C) ∨ (ka = kb ∧ (∀ kv ∈ ka, isFlat kv.2) ∧ Q (.bl (!neg)) C))
abbrev wReq : W2 := wReqG false
abbrev wRne : W2 := wReqG true
def iDc (e : WE) : WI := fun τ C R χ => e τ C (fun x C1 => ∃ d kvs, x = .ref d ∧ RdC C1 d kvs ∧ R (rD kvs) (fun C2 => C2 d = some (.fdic kvs)) (up C1 d (.fdic kvs))) χ
end
end WL
set_option Elab.async false
set_option linter.all false
set_option maxRecDepth 100000
set_option maxHeartbeats 4000000
namespace WL
open PySem PySem.Spec PyProof.Rows L2
section
variable {X : Cx}
def mSplit : T → List T → Hw → WK → Prop := fun x vs C Q => ∃ z y, x = .str z ∧ vs = [.str y] ∧ (y.length == 0) = false ∧ z.length ≤ sizeLine ∧ (Txt.split z y).length ≤ sizeLine ∧ ∀ p, C p = none → Q (.ref p) (up C p (.lst ((Txt.split z y).map T.str)))
theorem m_split : MtS X "str.split" mSplit := ⟨_, mt_split, fun F H C x v xs vs Q Q' R rx rs h q => by
  obtain ⟨z, y, rfl, rfl, h1, h2, h3, h⟩ := h
  cases of_str rx
  obtain ⟨u, rfl, ry⟩ := of_one rs
  cases of_str ry
  exact ⟨z, y, rfl, rfl, h1, h2, h3, fun p hp => q _ _ _ _ (R.newL hp (reps_strs _)) (Tx.new hp) rep_ref (h p (R.free hp))⟩⟩
def bIntT : List T → Hw → WK → Prop := fun vs C Q => ∃ (x : Str) (n : Int), vs = [.str x] ∧ intText? x = some n ∧ x.length ≤ 640 ∧ Q (.int n) C
theorem b_intT : CallS X (.type "int") bIntT := ⟨_, call_intT, fun F H C xs vs Q Q' R rs h q => by
  obtain ⟨x, n, rfl, h1, h2, h⟩ := h
  obtain ⟨u, rfl, ru⟩ := of_one rs
  cases of_str ru
  exact ⟨x, n, rfl, h1, h2, q _ _ H C R (Tx.refl H) rep_int h⟩⟩
end
end WL
set_option Elab.async false
set_option linter.all false
set_option maxRecDepth 100000
set_option maxHeartbeats 4000000
namespace WL
open PySem PySem.Spec PyProof.Rows L2
section
variable {X : Cx} {e : Expr} {we : WE} {pos p p2 pos2 : Pos}
theorem bt_len' : bootBuiltins "len" = some (.builtin "len") := by decide +kernel
def eLenSet (we : WE) : WE := fun τ C Q χ => we τ C (fun v C1 => ∃ ts : List Str, ((v = .tup (ts.map T.str)) ∨ ∃ a, v = .ref a ∧ C1 a = some (.lst (ts.map T.str))) ∧ ts.length + 1 < scanBound ∧ ∀ ys : List Str, ys.Nodup → (∀ y, y ∈ ys ↔ y ∈ ts) → Q (.int (ys.length : Int)) C1) χ
theorem d_lenset (hc : X.calm = true) (hg : Gl X "len") (hm : X.mg "len" = none) (hg2 : Gl X "set") (hm2 : X.mg "set" = none) (he : SdE X e we)
    (s1 : starEach [.Call (.Name "set" p2) [e] [] pos2] X.env = (false, eval (.Call (.Name "set" p2) [e] [] pos2) X.env) :: starEach [] X.env := by rfl) (s2 : (backTo pos (starEach [] X.env)).any (·.1) = false := by rfl)
    (s3 : starEach [e] X.env = (false, eval e X.env) :: starEach [] X.env := by rfl) (s4 : (backTo pos2 (starEach [] X.env)).any (·.1) = false := by rfl) :
    SdE X (.Call (.Name "len" p) [.Call (.Name "set" p2) [e] [] pos2] [] pos) (eLenSet we) := by
  obtain ⟨t, p1, sm⟩ := he
  have pa : PA X [e] (tCons t tNil) := pa_cons p1 pa_nil s3
  have pS := pe_callTy (pos := pos2) (p := p2) (call_setTT hc) hg2 hm2 bt_set pa (by decide) (by decide) s3 s4
  refine ⟨_, pe_callB call_lenS hg hm bt_len' (pa_cons pS pa_nil) (by decide) (by decide) s1 s2, fun F H C σ τ Q Q' χ R S h q => ?_⟩
  refine sm F H C σ τ _ _ χ R S h fun x v H1 C1 R1 t1 rx h1 => ?_
  obtain ⟨ts, hv, hl, h1⟩ := h1
  have key : ∃ l, x = .ref l ∧ (SqL X.K H1 l (ts.map V.str) ∨ SqT X.K H1 l (ts.map V.str)) := by
    rcases hv with rfl | ⟨a, rfl, hC⟩
    · obtain ⟨l, ys, rfl, q1, r1⟩ := of_tup rx
      cases of_strs r1
      exact ⟨l, rfl, .inr q1⟩
    · cases of_ref rx
      obtain ⟨ys, hH, rs⟩ := R1.lst hC
      cases of_strs rs
      exact ⟨a, rfl, .inl (SqL.of hH)⟩
  obtain ⟨l, rfl, hs⟩ := key
  refine ⟨l, ts, rfl, hs, hl, fun q1 hq1 => ?_⟩
  have R2 : Rl X.K F (upd H1 q1 (setO X.prog X.w q1 ts)) C1 := R1.hid hq1
  exact ⟨q1, ts, rfl, upd_same, fun ys hn hm => q _ _ _ _ R2 (t1.trans (Tx.new hq1)) rep_int (h1 ys hn hm)⟩
end
end WL
set_option Elab.async false
set_option linter.all false
set_option maxRecDepth 100000
set_option maxHeartbeats 4000000
namespace WL
open PySem PySem.Spec PyProof.Rows L2
section
variable {X : Cx} {e o : Expr} {we wo wi : WE} {apos cpos : Pos}
def eRget1 (o i : WE) : WE := fun τ C Q χ => o τ C (fun x C1 => (∃ a kvs, x = .ref a ∧ RdC C1 a kvs) ∧ i τ C1 (fun y C2 => ∃ a kvs k, x = .ref a ∧ kT y = some k ∧ RdC C2 a kvs ∧ Q ((getT kvs k).getD .non) C2) χ) χ
end
end WL
set_option Elab.async false
set_option linter.all false
set_option maxRecDepth 100000
set_option maxHeartbeats 4000000
namespace WL
open PySem PySem.Spec PyProof.Rows L2
def putFT (f : Str) (v : T) : List (Str × T) → List (Str × T)
  | [] => [(f, v)]
  | (g, x) :: r => if g = f then (g, v) :: r else (g, x) :: putFT f v r
section
variable {K : PySem.W.Frag} {H : Hp}
end
abbrev ClsAt (K : PySem.W.Frag) (cn : Str) (Cl : Addr) : Prop := PySem.W.nsIn K mainGlobals cn = some (some (.ref Cl))
structure KF (K : PySem.W.Frag) (f cn : Str) : Prop where
  ex : ∃ Cl, ClsAt K cn Cl ∧ Cls K Cl ∧ NoAttr K Cl f
def eFld (cs : List Str) (f : Str) (o : WE) : WE := fun τ C Q χ => o τ C (fun x C1 => ∃ a cn fs v, x = .ref a ∧ C1 a = some (.ins cn fs) ∧ cn ∈ cs ∧ fs.lookup f = some v ∧ Q v C1) χ
def gFd (cs : List Str) (f : Str) (o : WE) : WG := fun v τ C Q χ => o τ C (fun x C1 => ∃ a cn fs, x = .ref a ∧ C1 a = some (.ins cn fs) ∧ cn ∈ cs ∧ fs.length < 1000 ∧ Q τ (up C1 a (.ins cn (putFT f v fs)))) χ
theorem Rl.ins {K : PySem.W.Frag} {F H : Hp} {C : Hw} (R : Rl K F H C) {a : Addr} {cn : Str} {fs : List (Str × T)} (h : C a = some (.ins cn fs)) : ∃ Cl dx ks, ClsAt K cn Cl ∧ H a = some (.ins Cl dx ks) ∧ PR K H ks fs := R.obj a _ h
section
variable {X : Cx} {e o value : Expr} {we wo wv : WE} {f : Str} {cs : List Str} {pos pos' apos cpos : Pos}
end
def tMethD (MT : Addr → L2.Sp → Prop) (m : Str) (E : XK) (ta : TE) (t : TA) : TE := fun σ H Q => ta σ H fun x H1 => ∃ a C dx fs sp, x = .ref a ∧ H1 a = some (.ins C dx fs) ∧ MT C sp ∧ fs.lookup m = none ∧ t σ H1 fun vs H2 => sp (x :: vs) H2 Q E
section
variable {X : Cx} {k : Nat} {E : XK} {m : Str} {p pos apos : Pos} {e o : Expr} {es : List Expr} {ta : TE} {t : TA} {MT : Addr → L2.Sp → Prop}
def MOk (X : Cx) (k : Nat) (m : Str) (MT : Addr → L2.Sp → Prop) : Prop := ∀ C sp, MT C sp → ∃ f fd ps, Cls X.K C ∧ Meth X.K C m f ∧ FnOk X.prog X.w X.K X.mg X.base CX0 k f fd ps sp ∧ Binds X.K fd ps []
end
def Cm (P : Program) (w : World) (K : PySem.W.Frag) (mg : Str → Option Value) (base : Heap) (n : Nat) (cn m : Str) (ps : List Str) (sp : L2.Sp) : Prop :=
  ∃ Cl f fd, ClsAt K cn Cl ∧ Cls K Cl ∧ Meth K Cl m f ∧ FnOk P w K mg base CX0 n f fd ps sp ∧ Binds K fd ps []
def MTb (P : Program) (w : World) (K : PySem.W.Frag) (mg : Str → Option Value) (base : Heap) (n : Nat) (pr : List Df) (m : Str) (tb : List (Str × Nat)) : Prop := ∀ cn i, tb.lookup cn = some i → ∃ ps, Cm P w K mg base n cn m ps (spW K pr n i)
section
variable {P : Program} {w : World} {K : PySem.W.Frag} {mg : Str → Option Value} {base : Heap} {n : Nat} {pr : List Df} {m : Str} {tb : List (Str × Nat)}
end
def eMth (P : Calls) (tb : List (Str × Nat)) (m : Str) (o : WE) (a : WA) : WE := fun τ C Q χ => o τ C (fun x C1 => ∃ ad cn fs i, x = .ref ad ∧ C1 ad = some (.ins cn fs) ∧ tb.lookup cn = some i ∧ fs.lookup m = none ∧ a τ C1 (fun vs C2 => P i (x :: vs) C2 Q χ) χ) χ
section
variable {X : Cx} {k : Nat} {m : Str} {p pos apos : Pos} {e o : Expr} {es : List Expr} {wo : WE} {wA : WA} {tb : List (Str × Nat)} {pr : List Df}
end
def wNew (cn : Str) (i : Nat) (P : Calls) : WS := fun D τ C => ∃ vs, τ = vs.map some ∧ ∀ p, C p = none → P i (.ref p :: vs) (up C p (.ins cn [])) (fun v C2 => v = .non ∧ D.rt (.ref p) C2) D.xc
def Cn (P : Program) (w : World) (K : PySem.W.Frag) (mg : Str → Option Value) (base : Heap) (n : Nat) (pr : List Df) (cn : Str) (i j : Nat) : Prop :=
  (∃ ar, pr[j]? = some ⟨ar, ar, wNew cn i⟩) ∧ ∃ Cl f, ClsAt K cn Cl ∧ mg cn = some (.ref Cl) ∧ L2.Mk K Cl f ∧ (n = 0 ∨ ∃ k fd ps, n = k + 1 ∧ FnOk P w K mg base CX0 k f fd ps (spW K pr k i) ∧ Binds K fd ps [])
section
variable {X : Cx} {k i j : Nat} {cn : Str} {p pos : Pos} {e : Expr} {es : List Expr} {wA : WA} {pr : List Df}
end
theorem fn_okQ {P : Program} {w : World} {K : PySem.W.Frag} {mg : Str → Option Value} {base : Heap} {x qual : Str} {st : Stmt} {f : Addr} {fd : FuncData} {N ps : List Str} {pr : List Df} {n i : Nat} {d : Df} (F : Fun K x qual st f fd) (S : FnScope N ps (defScope st)) (hd : pr[i]? = some d) (hn : d.n = N.length) (har : d.ar = ps.length)
    (hb : ∀ (cdv : Value) (A : Around) (outer : List Env) (s : Shared) (H : Hp) (E : XK), Room n (A.deeper (envOfC qual (defScope st) s.heap.objs.size f cdv)) → SdB (cxOf CX0 P w K mg base N qual (defScope st) f cdv A outer s H E).nox (defBody st) (d.body (wpc pr n))) :
    FnOk P w K mg base CX0 (n + 1) f fd ps (spW K pr (n + 1) i) := by
  refine F.ok S (fun vs H Q E h => ?_) (fun cdv A outer s H vs Q E hr h => ?_)
  · obtain ⟨F', C, vs', Q', χ, R, rs, ⟨d', e1, e2, _⟩, _⟩ := h
    rw [hd] at e1; cases e1
    rw [rs.length, e2, har]
  · obtain ⟨F', C, vs', Q', χ, R, rs, ⟨d', e1, e2, h⟩, q⟩ := h
    rw [hd] at e1; cases e1
    obtain ⟨t, p, sm⟩ := hb cdv A outer s H E hr
    refine ⟨t, p, sm F' H C _ _ _ _ R (RepS.start rs N _ (by rw [rs.length, e2, hn])) h ⟨fun σ τ H' C' R' t' _ h' => q .non .non H' C' R' t' rep_non h', q, fun _ _ _ _ _ _ _ z => z.elim, fun _ _ _ _ _ _ _ z => z.elim⟩⟩
structure Kl (K : PySem.W.Frag) (mg : Str → Option Value) (cn : Str) (Cl : Addr) : Prop where
  at_ : ClsAt K cn Cl
  mg : mg cn = some (.ref Cl)
  cls : Cls K Cl
theorem rep_ktup {K : PySem.W.Frag} {H : Hp} {a : Addr} {its : Array Value} {n : Nat} {sl : Array (Option Value)} {od : Option Addr} {xs : List V} {ts : List T} (l : K.lookup a = some ⟨.type "tuple", od, .seq its n, sl⟩) (hz : its.size ≤ sizeLine) (v : Vals xs its.toList) (r : Reps K H xs ts) : Rep K H (.ref a) (.tup ts) :=
  rep_tup (.inr ⟨_, its, n, l, rfl, rfl, hz, v⟩) r
end WL
set_option Elab.async false
set_option linter.all false
set_option maxRecDepth 100000
set_option maxHeartbeats 4000000
namespace WL
open PySem PySem.Spec PyProof.Rows L2
def EqH (C : Hw) : Nat → T → T → Bool → Prop
  | 0, v, w, b => flat v 0 = true ∧ flat w 0 = true ∧ b = eqT v w
  | n + 1, v, w, b => (flat v n = true ∧ flat w n = true ∧ b = eqT v w) ∨
      (∃ (xs ys : List T) (e : Nat → Bool), v = .tup xs ∧ w = .tup ys ∧ (∀ j x y, xs[j]? = some x → ys[j]? = some y → EqH C n x y (e j)) ∧ b = ((List.range (min xs.length ys.length)).all e && xs.length == ys.length)) ∨
      (∃ (a a' : Addr) (xs ys : List T) (e : Nat → Bool), v = .ref a ∧ w = .ref a' ∧ C a = some (.lst xs) ∧ C a' = some (.lst ys) ∧ (xs.length = ys.length → ∀ j x y, xs[j]? = some x → ys[j]? = some y → EqH C n x y (e j)) ∧
        b = (if xs.length = ys.length then (List.range xs.length).all e else false))
section
variable {X : Cx} {pins : List (Addr × Obj)} {σ : L2.St} {F H : Hp} {s : Shared} {C : Hw}
end
def wEqDG (neg : Bool) : W2 := fun x y C Q => ∃ b, EqH C 100 x y b ∧ Q (.bl (if neg then !b else b)) C
abbrev wEqD : W2 := wEqDG false
abbrev wNeD : W2 := wEqDG true
section
variable {X : Cx}
end
structure FunD (K : PySem.W.Frag) (x qual : Str) (st : Stmt) (f : Addr) (fd : FuncData) : Prop where
  ex : ∃ (oc : Value) (od : Option Addr) (dV kV doc pm : Value) (an : Option Addr) (cdv ct : Value) (osl : Array (Option Value)),
    fd = PySem.W.fnOf x qual (defArgs st) (defBody st) (defScope st) dV kV doc pm an cdv ct ∧ K.lookup f = some ⟨oc, od, .func fd, osl⟩ ∧ PySem.W.codeIn K cdv qual = true
  kp : PySem.W.keepIn K (.ref f) = true
def CaD (P : Program) (w : World) (K : PySem.W.Frag) (mg : Str → Option Value) (base : Heap) (n : Nat) (x : Str) (ps : List Str) (ds : List Int) (sp : L2.Sp) : Prop :=
  ∃ f fd, FnOk P w K mg base CX0 n f fd ps sp ∧ (∃ us : List Value, Vals (ds.map V.int) us ∧ ∀ j, j ≤ ds.length → Binds K fd ps (us.drop j)) ∧ PySem.W.keepIn K (.ref f) = true ∧ mg x = some (.ref f)
def aApp (ws : List T) (a : WA) : WA := fun τ C Q χ => a τ C (fun vs C1 => Q (vs ++ ws) C1) χ
end WL
set_option Elab.async false
set_option linter.all false
set_option maxRecDepth 100000
set_option maxHeartbeats 4000000
namespace WL
open PySem PySem.Spec PyProof.Rows L2
def SdE1 (X : Cx) (e : Expr) (w : WE) : Prop := ∃ t, PE1 X e t ∧ SimE X.K t w
def SdA1 (X : Cx) (es : List Expr) (w : WA) : Prop := ∃ t, PA1 X es t ∧ SimA X.K t w
def SdS1 (X : Cx) (st : Stmt) (w : WS) : Prop := ∃ t, PS1 X st t ∧ SimS X.K t w
def SdSp (X : Cx) (st : Stmt) (w : WS) : Prop := ∃ t, PSp X st t ∧ SimS X.K t w
def SdB1 (X : Cx) (st : List Stmt) (w : WS) : Prop := ∃ t, PSs1 X st t ∧ SimS X.K t w
section
variable {X : Cx} {e a b o : Expr} {es : List Expr} {st : Stmt} {rest : List Stmt} {we wa wb wo : WE} {wA : WA} {w u : WS} {pos p cpos apos : Pos}
theorem SdE.one (h : SdE X e we) : SdE1 X e we := by obtain ⟨t, p, s⟩ := h; exact ⟨t, p.one, s⟩
theorem SdA.one (h : SdA X es wA) : SdA1 X es wA := by obtain ⟨t, p, s⟩ := h; exact ⟨t, p.one, s⟩
theorem SdS.one (h : SdS X st w) : SdS1 X st w := by obtain ⟨t, p, s⟩ := h; exact ⟨t, p.one, s⟩
theorem da1_cons (ha : SdE1 X a wa) (hb : SdA X es wA) (hs : starEach (a :: es) X.env = (false, eval a X.env) :: starEach es X.env := by rfl) : SdA1 X (a :: es) (aCons wa wA) := by
  obtain ⟨ta, p1, s1⟩ := ha
  obtain ⟨tb, p2, s2⟩ := hb
  exact ⟨_, pa1_cons p1 p2 hs, s_cons s1 s2⟩
theorem d1_cmp {w : W2} {op : CmpOp} (ho : OpS X (compareOp op) w) (ha : SdE1 X a wa) (hb : SdE X b wb) (hm : behindInMarks op b = false) : SdE1 X (.Compare a [op] [b] pos) (eBin w wa wb) := by
  obtain ⟨r, h1, h2⟩ := ho
  obtain ⟨ta, p1, s1⟩ := ha
  obtain ⟨tb, p2, s2⟩ := hb
  exact ⟨_, pe1_cmpR h1 p1 p2 hm, s_op s1 s2 h2⟩
theorem d1_replace {y z : Str} {k1 k2 : Nat} {lp1 lp2 : Pos} (ho : SdE1 X o wo) (hyz : (y == z) = false) (hz : z.length ≤ 14)
    (hbase : attributeBase o "replace" X.env (eval o X.env) = eval o X.env := by rfl)
    (hfew : ((backTo cpos (starEach [.Constant (.str y) k1 lp1, .Constant (.str z) k2 lp2] X.env)).all (fun x => !x.1) && (backToKw cpos (keywordEach [] X.env)).all (fun x => x.1.isSome)
      && decide ([Expr.Constant (.str y) k1 lp1, .Constant (.str z) k2 lp2].length + ([] : List Keyword).length + (if ([] : List Keyword).isEmpty then 0 else 1) < 30)) = true := by rfl)
    (hline : (apos.endLine == cpos.line) = true := by rfl)
    (hs : starEach [.Constant (.str y) k1 lp1, .Constant (.str z) k2 lp2] X.env = [(false, eval (.Constant (.str y) k1 lp1) X.env), (false, eval (.Constant (.str z) k2 lp2) X.env)] := by rfl) :
    SdE1 X (.Call (.Attribute o "replace" apos) [.Constant (.str y) k1 lp1, .Constant (.str z) k2 lp2] [] cpos) (eRepl y z wo) := by
  obtain ⟨t, p1, sm⟩ := ho
  refine ⟨_, pe1_replace p1 hyz hz hbase hfew hline hs, fun F H C σ τ Q Q' χ R S h q => ?_⟩
  refine sm F H C σ τ _ _ χ R S h fun x v H1 C1 R1 t1 rx h1 => ?_
  obtain ⟨u, rfl, hu, h1⟩ := h1
  cases of_str rx
  exact ⟨u, rfl, hu, q _ _ H1 C1 R1 t1 rep_str h1⟩
theorem ds1_ret (a : SdE1 X e we) : SdS1 X (.Return (some e) pos) (sRet we) := by
  obtain ⟨t, p, s⟩ := a
  refine ⟨_, ps1_ret p, fun F H C σ τ D D' R S h d => ?_⟩
  exact s F H C σ τ _ _ D'.xc R S h d.rt
theorem ds1_set {i : Nat} {x : Str} {pos' : Pos} (hN : X.N.Nodup) (he : SdE1 X e we) (hi : X.N[i]? = some x := by rfl) (hx : Loc X.env.scope x := by first | exact Or.inl rfl | exact Or.inr rfl) (hs : swapsWith e (some (.Name x pos')) pos.line X.env = pure false := by rfl)
    (hf : X.fn x = true ∨ X.env.scope.names.lookup x = some .local := by first | exact .inl rfl | exact .inr rfl | assumption) : SdS1 X (.Assign [.Name x pos'] e pos) (sAsg we (gNm i)) := by
  obtain ⟨t, p, s⟩ := he
  refine ⟨_, ps1_set hN hi hx p hs hf, fun F H C σ τ D D' R S h d => ?_⟩
  refine s F H C σ τ _ _ D'.xc R S h fun x v H1 C1 R1 t1 rx h1 => ?_
  exact sg_name F H1 C1 σ τ x v _ _ D'.xc R1 (S.tx t1) rx h1 fun σ' τ' H' C' R' t' => d.nx σ' τ' H' C' R' (t1.trans t')
theorem db1_one (a : SdS1 X st w) : SdB1 X [st] w := by
  obtain ⟨t, p, s⟩ := a
  exact ⟨_, pss1_one p, s⟩
theorem db1_cons (a : SdS1 X st w) (b : SdB1 X rest u) : SdB1 X (st :: rest) (sSeq w u) := by
  obtain ⟨t, p, s⟩ := a
  obtain ⟨t', p', s'⟩ := b
  refine ⟨_, pss1_cons p p', fun F H C σ τ D D' R S h d => ?_⟩
  exact s F H C σ τ _ _ R S h ⟨fun σ' τ' H' C' R' t' S' h' => s' F H' C' σ' τ' D D' R' S' h' (d.at t'), d.rt, d.bk, d.ct⟩
theorem dbp_cons (a : SdSp X st w) (b : SdB1 X rest u) : SdB X (st :: rest) (sSeq w u) := by
  obtain ⟨t, p, s⟩ := a
  obtain ⟨t', p', s'⟩ := b
  refine ⟨_, pssp_cons p p', fun F H C σ τ D D' R S h d => ?_⟩
  exact s F H C σ τ _ _ R S h ⟨fun σ' τ' H' C' R' t' S' h' => s' F H' C' σ' τ' D D' R' S' h' (d.at t'), d.rt, d.bk, d.ct⟩
theorem d1_call {k i : Nat} {x : Str} {ps : List Str} {pr : List Df} (Cc : Ca1 X.prog X.w X.K X.mg X.base k x ps (spW X.K pr k i)) (hr : Room k X.A) (hg : Gl X x) (ha : SdA1 X (e :: es) wA)
    (hdb : (x == ("__debug__" : Str)) = false := by decide) (he : starEach (e :: es) X.env = (false, eval e X.env) :: starEach es X.env := by rfl) (hpl : (backTo pos (starEach es X.env)).any (·.1) = false := by rfl) :
    SdE1 X (.Call (.Name x p) (e :: es) [] pos) (eCall (wpc pr k) i wA) := by
  obtain ⟨t, p1, s⟩ := ha
  refine ⟨_, pe1_ca Cc hr hg p1 hdb he hpl, fun F H C σ τ Q Q' χ R S h q => ?_⟩
  refine s F H C σ τ _ _ χ R S h fun xs vs H1 C1 R1 t1 rs h1 => ?_
  refine ⟨F, C1, vs, Q', χ, R1, ?_, h1, QE.at q t1⟩
  rw [List.append_nil]; exact rs
end
theorem fn_ok1 {P : Program} {w : World} {K : PySem.W.Frag} {mg : Str → Option Value} {base : Heap} {x qual : Str} {st : Stmt} {f : Addr} {fd : FuncData} {N ps : List Str} {pr : List Df} {n i : Nat} {d : Df} (F : Fun K x qual st f fd) (S : FnScope N ps (defScope st)) (hd : pr[i]? = some d) (hn : d.n = N.length) (har : d.ar = ps.length)
    (hb : ∀ (cdv : Value) (A : Around) (outer : List Env) (s : Shared) (H : Hp) (E : XK), Room n (A.deeper (envOfC qual (defScope st) s.heap.objs.size f cdv)) → SdB1 (cxOf CX0 P w K mg base N qual (defScope st) f cdv A outer s H E).nox (defBody st) (d.body (wpc pr n))) :
    FnOk1 P w K mg base (n + 1) f fd ps (spW K pr (n + 1) i) := by
  refine F.ok1 S (fun vs H Q E h => ?_) (fun cdv A outer s H vs Q E hr h => ?_)
  · obtain ⟨F', C, vs', Q', χ, R, rs, ⟨d', e1, e2, _⟩, _⟩ := h
    rw [hd] at e1; cases e1
    rw [rs.length, e2, har]
  · obtain ⟨F', C, vs', Q', χ, R, rs, ⟨d', e1, e2, h⟩, q⟩ := h
    rw [hd] at e1; cases e1
    obtain ⟨t, p, sm⟩ := hb cdv A outer s H E hr
    refine ⟨t, p, sm F' H C _ _ _ _ R (RepS.start rs N _ (by rw [rs.length, e2, hn])) h ⟨fun σ τ H' C' R' t' _ h' => q .non .non H' C' R' t' rep_non h', q, fun _ _ _ _ _ _ _ z => z.elim, fun _ _ _ _ _ _ _ z => z.elim⟩⟩
theorem fnok1_zero {P : Program} {w : World} {K : PySem.W.Frag} {mg : Str → Option Value} {base : Heap} {f : Addr} {fd : FuncData} {ps : List Str} {pr : List Df} {i : Nat} : FnOk1 P w K mg base 0 f fd ps (spW K pr 0 i) :=
  ⟨fun vs H Q E h => by obtain ⟨_, _, _, _, _, _, _, z, _⟩ := h; exact z.elim, fun A outer s H args us vs Q E _ _ _ _ _ h => by obtain ⟨_, _, _, _, _, _, _, z, _⟩ := h; exact z.elim⟩
theorem ca1_zero {P : Program} {w : World} {K : PySem.W.Frag} {mg : Str → Option Value} {base : Heap} {x : Str} {st : Stmt} {f : Addr} {fd : FuncData} {ps : List Str} {pr : List Df} {i : Nat} (F : Fun K x x st f fd) (hb : Binds K fd ps []) (hm : mg x = some (.ref f)) : Ca1 P w K mg base 0 x ps (spW K pr 0 i) :=
  ⟨f, fd, fnok1_zero, hb, F.kp, hm⟩
theorem ca1_succ {P : Program} {w : World} {K : PySem.W.Frag} {mg : Str → Option Value} {base : Heap} {x : Str} {st : Stmt} {f : Addr} {fd : FuncData} {ps : List Str} {sp : Sp} {n : Nat} (F : Fun K x x st f fd) (hb : Binds K fd ps []) (hm : mg x = some (.ref f)) (G : FnOk1 P w K mg base n f fd ps sp) : Ca1 P w K mg base n x ps sp :=
  ⟨f, fd, G, hb, F.kp, hm⟩
end WL
set_option Elab.async false
set_option linter.all false
set_option maxRecDepth 100000
set_option maxHeartbeats 4000000
namespace WL
open PySem PySem.Spec PyProof.Rows L2
def gcT (kvs : List (Str × Int)) (z : Str) : T := match kvs.lookup z with | some i => .int i | none => .non
def eGc (kvs : List (Str × Int)) (we : WE) : WE := fun τ C Q χ => we τ C (fun v C1 => ∃ z, v = .str z ∧ Q (gcT kvs z) C1) χ
theorem d_gcget {X : Cx} {x : Str} {e : Expr} {we : WE} {p apos cpos : Pos} {kvs : List (Str × Int)} (hg : Gl X x) (G : GDk X.w X.K X.mg x kvs) (he : SdE X e we) (m : M1 X (.Name x p) "get" apos e cpos) (hdb : (x == ("__debug__" : Str)) = false := by decide) :
    SdE X (.Call (.Attribute (.Name x p) "get" apos) [e] [] cpos) (eGc kvs we) := by
  obtain ⟨t, p1, s1⟩ := he
  refine ⟨_, pe_gcget hg G p1 m hdb, fun F H C σ τ Q Q' χ R S h q => ?_⟩
  refine s1 F H C σ τ _ _ χ R S h fun y u H1 C1 R1 t1 ry h1 => ?_
  obtain ⟨z, rfl, h1⟩ := h1
  cases of_str ry
  refine ⟨z, rfl, q _ _ H1 C1 R1 t1 ?_ h1⟩
  unfold gcV gcT
  cases kvs.lookup z with
  | some i => exact rep_int
  | none => exact rep_non
def wInR : W2 := fun v u C Q => match v, u with
  | .ref a, .tup ts => (∃ xs, C a = some (.lst xs)) ∧ (∃ zs : List Str, ts = zs.map T.str) ∧ Q (.bl false) C
  | v, u => wIn v u C Q
theorem o_inR {X : Cx} (hu : X.A.units + 150 < cLine) : OpS X (compareOp .In) wInR := ⟨_, op_dir, fun F H C x y v u Q Q' R rx ry h q pins s σ v' u' I r1 r2 => by
  have old : wIn v u C Q' → wpAny (model X.prog X.w) X.A (compareOp .In v' u') (EP X pins σ Q) X.xe s := fun h => by
    obtain ⟨r, ho, hs⟩ := o_in (X := X) hu
    exact ho pins s σ H x y v' u' Q I r1 r2 (hs F H C x y v u Q Q' R rx ry h q)
  cases v with
  | ref a =>
    cases u with
    | tup ts =>
      obtain ⟨⟨xs, hC⟩, ⟨ws, rfl⟩, hq⟩ := h
      cases of_ref rx
      cases (show v' = Value.ref a from r1)
      obtain ⟨ys, hy, _⟩ := R.lst hC
      obtain ⟨itsL, _, pL, _⟩ := I.list (SqL.of hy)
      obtain ⟨b, zs, rfl, hz, rz⟩ := of_tup ry
      cases (show u' = Value.ref b from r2)
      obtain ⟨its, rI, p, _⟩ := I.tuple hz
      cases of_strs rz
      have at1 : ∀ w, w ∈ its.toArray → SeqAt.EqAt X.A.in1 s w (.ref a) false := fun w hw => by
        have hw' : w ∈ its := by simpa using hw
        obtain ⟨j, hj⟩ := List.mem_iff_getElem?.mp hw'
        have hlt : j < its.length := (List.getElem?_eq_some_iff.mp hj).1
        have hl : its.length = ws.length := by rw [← rI.length, List.length_map]
        have e2 : (ws.map V.str)[j]? = some (.str (ws[j]'(by omega))) := by simp [hl ▸ hlt]
        obtain ⟨u2, m2, z2⟩ := rI.get e2
        rw [hj] at m2; cases m2
        obtain ⟨t, rfl⟩ := z2
        exact SeqAt.EqAt.str_list _ t pL.isList (by show X.A.units + 1 < cLine; omega)
      refine SeqAt.in_tupleAt (fun _ => false) p at1 ⟨.bl _, H, I, rfl, ?_⟩
      have e : its.toArray.any (fun _ => false) = false := by simp
      rw [e]
      exact q _ _ H C R (Tx.refl H) rep_bl hq
    | _ => exact old h
  | non => exact old h
  | bl _ => exact old h
  | int _ => exact old h
  | str _ => exact old h
  | tup _ => exact old h
  | cl _ => exact old h⟩
end WL
set_option Elab.async false
set_option linter.all false
set_option maxRecDepth 100000
set_option maxHeartbeats 4000000
namespace WL
open PySem PySem.Spec PyProof.Rows L2
section
variable {X : Cx} {pos p : Pos} {a b e : Expr} {es rest : List Expr} {wa wb : WE} {wA : WA}
def SdAn (X : Cx) (es : List Expr) (w : WA) : Prop := ∃ t, PAn X es t ∧ SimA X.K t w
theorem dan_int {i : Int} {j : Nat} {lp : Pos} (hb : SdA X es wA) (hs : starEach (.Constant (.int i) j lp :: es) X.env = (false, eval (.Constant (.int i) j lp) X.env) :: starEach es X.env := by rfl) : SdAn X (.Constant (.int i) j lp :: es) (aCons (eC (.int i)) wA) := by
  obtain ⟨t, p, s⟩ := hb
  exact ⟨_, pan_int p hs, s_cons (s_c fun _ => rep_int) s⟩
theorem dan_cons (ha : SdE X a wa) (hb : SdAn X es wA) (hs : starEach (a :: es) X.env = (false, eval a X.env) :: starEach es X.env := by rfl) : SdAn X (a :: es) (aCons wa wA) := by
  obtain ⟨ta, p1, s1⟩ := ha
  obtain ⟨tb, p2, s2⟩ := hb
  exact ⟨_, pan_cons p1 p2 hs, s_cons s1 s2⟩
theorem dsp_call {k i j : Nat} {x y : Str} {ps : List Str} {pr : List Df} {pos' apos : Pos} (Cc : Ca X.prog X.w X.K X.mg X.base k x ps (spW X.K pr k i)) (hr : Room k X.A) (hg : Gl X x) (ha : SdAn X (e :: es) wA) (hN : X.N.Nodup) (hi : X.N[j]? = some y := by rfl) (hx : Loc X.env.scope y := by first | exact Or.inl rfl | exact Or.inr rfl)
    (hdb : (x == ("__debug__" : Str)) = false := by decide) (he : starEach (e :: es) X.env = (false, eval e X.env) :: starEach es X.env := by rfl) (hpl : (backTo pos (starEach es X.env)).any (·.1) = false := by rfl)
    (hs : swapsWith (.Call (.Name x p) (e :: es) [] pos) (some (.Name y pos')) apos.line X.env = pure false := by rfl) (hf : X.fn y = true ∨ X.env.scope.names.lookup y = some .local := by first | exact .inl rfl | exact .inr rfl | assumption) :
    SdSp X (.Assign [.Name y pos'] (.Call (.Name x p) (e :: es) [] pos) apos) (sAsg (eCall (wpc pr k) i wA) (gNm j)) := by
  obtain ⟨t, p1, s⟩ := ha
  refine ⟨_, psp_call Cc hr hg p1 hN hi hx hdb he hpl hs hf, fun F H C σ τ D D' R S h d => ?_⟩
  refine s F H C σ τ _ _ D'.xc R S h fun xs vs H1 C1 R1 t1 rs h1 => ?_
  refine ⟨F, C1, vs, _, D'.xc, R1, ?_, h1, QE.at (Q' := fun x C1 => gNm j x τ C1 D'.nx D'.xc) (fun x v H2 C2 R2 t2 rx h2 => ?_) t1⟩
  · rw [List.append_nil]; exact rs
  · exact sg_name F H2 C2 σ τ x v _ _ D'.xc R2 (S.tx t2) rx h2 fun σ' τ' H' C' R' t' => d.nx σ' τ' H' C' R' (t2.trans t')
theorem d1_and (ha : SdE1 X a wa) (hb : SdE1 X (.BoolOp .And (b :: rest) pos) wb) : SdE1 X (.BoolOp .And (a :: b :: rest) pos) (eAnd wa wb) := by
  obtain ⟨ta, p1, s1⟩ := ha
  obtain ⟨tb, p2, s2⟩ := hb
  exact ⟨_, pe1_and p1 p2, s_and s1 s2⟩
theorem d1_last {op : BoolOp} (ha : SdE1 X a wa) : SdE1 X (.BoolOp op [a] pos) wa := by
  obtain ⟨ta, p1, s1⟩ := ha
  exact ⟨_, pe1_last p1, s1⟩
end
end WL
set_option Elab.async false
set_option linter.all false
set_option maxRecDepth 100000
set_option maxHeartbeats 4000000
namespace WL
open PySem PySem.Spec PyProof.Rows L2
def Ex (C C' : Hw) : Prop := ∀ a o, C a = some o → C' a = some o
theorem Ex.refl (C : Hw) : Ex C C := fun _ _ h => h
theorem Ex.trans {C C1 C2 : Hw} (a : Ex C C1) (b : Ex C1 C2) : Ex C C2 := fun c o h => b c o (a c o h)
theorem cne {C : Hw} {a b : Addr} {o : O} (h : C a = some o) (h' : C b = none) : a ≠ b := fun e => by subst e; rw [h] at h'; cases h'
theorem cne' {C : Hw} {a b : Addr} {o : O} (h : C a = some o) (h' : C b = none) : b ≠ a := fun e => cne h h' e.symm
theorem Ex.new {C : Hw} {p : Addr} {o : O} (h : C p = none) : Ex C (up C p o) := fun a u e => by rw [up_ne (cne e h)]; exact e
theorem Ex.up {C C' : Hw} {p : Addr} {o : O} (e : Ex C C') (h : C p = none) : Ex C (up C' p o) := fun a u q => by rw [up_ne (cne q h)]; exact e a u q
theorem fr1 {C : Hw} {p q : Addr} {o : O} (h : up C p o q = none) : q ≠ p ∧ C q = none := by
  have n : q ≠ p := fun z => by subst z; rw [up_same] at h; cases h
  rw [up_ne n] at h
  exact ⟨n, h⟩
theorem Ex.free {C C' : Hw} (e : Ex C C') {p : Addr} (h : C' p = none) : C p = none := by
  cases q : C p with
  | none => rfl
  | some o => rw [e p o q] at h; cases h
def ExB (p : Addr) (C C' : Hw) : Prop := ∀ a o, a ≠ p → C a = some o → C' a = some o
theorem ExB.refl (p : Addr) (C : Hw) : ExB p C C := fun _ _ _ h => h
theorem ExB.trans {p : Addr} {C C1 C2 : Hw} (a : ExB p C C1) (b : ExB p C1 C2) : ExB p C C2 := fun c o n h => b c o n (a c o n h)
theorem Ex.exB {C C' : Hw} (e : Ex C C') (p : Addr) : ExB p C C' := fun a o _ h => e a o h
theorem ExB.put {p : Addr} {C C' : Hw} {o : O} (e : ExB p C C') : ExB p C (WL.up C' p o) := fun a u n h => by rw [up_ne n]; exact e a u n h
theorem flat_mono : ∀ (v : T) {n m : Nat}, flat v n = true → n ≤ m → flat v m = true := by
  have key : ∀ (n : Nat) (v : T) {m : Nat}, flat v n = true → n ≤ m → flat v m = true := by
    intro n
    induction n with
    | zero =>
      intro v m h _
      cases v with
      | tup xs => unfold flat at h; cases h
      | ref a => unfold flat at h; cases h
      | cl a => unfold flat at h; cases h
      | _ => unfold flat; rfl
    | succ n ih =>
      intro v m h hm
      have fl : ∀ (xs : List T) {m : Nat}, flats xs n = true → n ≤ m → flats xs m = true := by
        intro xs
        induction xs with
        | nil => intro m _ _; unfold flats; rfl
        | cons x xs ihx =>
          intro m h hm
          unfold flats at h ⊢
          rw [Bool.and_eq_true] at h ⊢
          exact ⟨ih x h.1 hm, ihx h.2 hm⟩
      cases v with
      | tup xs =>
        obtain ⟨k, rfl⟩ : ∃ k, m = k + 1 := ⟨m - 1, by omega⟩
        unfold flat at h ⊢
        exact fl xs h (by omega)
      | ref a => unfold flat at h; cases h
      | cl a => unfold flat at h; cases h
      | _ => unfold flat; rfl
  exact fun v {n m} => key n v
theorem flats_iff : ∀ {xs : List T} {n : Nat}, flats xs n = true ↔ ∀ x ∈ xs, flat x n = true
  | [], n => by unfold flats; simp
  | x :: xs, n => by unfold flats; rw [Bool.and_eq_true, flats_iff]; simp
theorem flat_tup {xs : List T} {n : Nat} (h : ∀ x ∈ xs, flat x n = true) : flat (.tup xs) (n + 1) = true := by unfold flat; exact flats_iff.mpr h
theorem flat_str {x : Str} {n : Nat} : flat (.str x) n = true := by unfold flat; rfl
theorem flat_int {x : Int} {n : Nat} : flat (.int x) n = true := by unfold flat; rfl
theorem flat_bl {x : Bool} {n : Nat} : flat (.bl x) n = true := by unfold flat; rfl
theorem isFlat_str {x : Str} : isFlat (.str x) = True := eq_true flat_str
theorem isFlat_int {x : Int} : isFlat (.int x) = True := eq_true flat_int
theorem isFlat_bl {x : Bool} : isFlat (.bl x) = True := eq_true flat_bl
theorem flats_strs {xs : List Str} {n : Nat} : flats (xs.map T.str) n = true := flats_iff.mpr fun x hx => by obtain ⟨y, _, rfl⟩ := List.mem_map.mp hx; exact flat_str
section
variable {n : Bool} {C : Hw} {Q : WK}
theorem wEq_str {a b : Str} : wEqG n (.str a) (.str b) C Q = Q (.bl (if n = true then !(a == b) else a == b)) C := by
  show (isFlat _ ∧ isFlat _ ∧ Q (.bl (if n = true then !eqT (.str a) (.str b) else eqT (.str a) (.str b))) C) = _
  rw [isFlat_str, isFlat_str, true_and, true_and, show eqT (.str a) (.str b) = (a == b) by unfold eqT; rfl]
theorem wEq_int {a b : Int} : wEqG n (.int a) (.int b) C Q = Q (.bl (if n = true then !(a == b) else a == b)) C := by
  show (isFlat _ ∧ isFlat _ ∧ Q (.bl (if n = true then !eqT (.int a) (.int b) else eqT (.int a) (.int b))) C) = _
  rw [isFlat_int, isFlat_int, true_and, true_and, show eqT (.int a) (.int b) = (a == b) by unfold eqT; rfl]
theorem wEq_bl {a b : Bool} : wEqG n (.bl a) (.bl b) C Q = Q (.bl (if n = true then !(a == b) else a == b)) C := by
  show (isFlat _ ∧ isFlat _ ∧ Q (.bl (if n = true then !eqT (.bl a) (.bl b) else eqT (.bl a) (.bl b))) C) = _
  rw [isFlat_bl, isFlat_bl, true_and, true_and, show eqT (.bl a) (.bl b) = (a == b) by unfold eqT; rfl]
end
section
variable {α : Type} {a b c d e : α} {xs : List α}
theorem erase0 : (a :: xs).eraseIdx 0 = xs := rfl
theorem atI_0 : atI (a :: xs) 0 = some a := atI_nat (j := 0) rfl
theorem atI_1 : atI (a :: b :: xs) 1 = some b := atI_nat (j := 1) rfl
theorem atI_2 : atI (a :: b :: c :: xs) 2 = some c := atI_nat (j := 2) rfl
theorem atI_3 : atI (a :: b :: c :: d :: xs) 3 = some d := atI_nat (j := 3) rfl
theorem atI_4 : atI (a :: b :: c :: d :: e :: xs) 4 = some e := atI_nat (j := 4) rfl
theorem atI_m1 : atI [a] (-1) = some a := rfl
theorem atI_m2 : atI [a, b] (-1) = some b := rfl
theorem atI_m3 : atI [a, b, c] (-1) = some c := rfl
theorem atI_m4 : atI [a, b, c, d] (-1) = some d := rfl
end
theorem for_inv {g : WG} {b : WS} {ok : Hw → Prop} {D : We} {xs : List T} (Pv : Nat → Sw → Hw → Prop) {τ : Sw} {C : Hw} (h0 : Pv 0 τ C) (hok : ∀ i τ C, i ≤ xs.length → Pv i τ C → ok C)
    (hs : ∀ i x τ C (N : Sw → Hw → Prop), xs[i]? = some x → Pv i τ C → (∀ τ' C', Pv (i + 1) τ' C' → N τ' C') → g x τ C (fun τ2 C2 => b { D with nx := N, ct := N, bk := D.nx } τ2 C2) D.xc)
    (hd : ∀ τ C, Pv xs.length τ C → D.nx τ C) : forW g b ok D xs τ C := by
  have key : ∀ (k i : Nat) (τ : Sw) (C : Hw), xs.length - i = k → i ≤ xs.length → Pv i τ C → forW g b ok D (xs.drop i) τ C := by
    intro k
    induction k with
    | zero =>
      intro i τ C hk hi hp
      have e : i = xs.length := by omega
      subst e
      rw [List.drop_length]
      exact ⟨hok _ τ C (Nat.le_refl _) hp, hd τ C hp⟩
    | succ k ih =>
      intro i τ C hk hi hp
      have hlt : i < xs.length := by omega
      rw [List.drop_eq_getElem_cons hlt]
      exact ⟨hok i τ C hi hp, hs i _ τ C _ (by simp [hlt]) hp fun τ' C' h => ih (i + 1) τ' C' (by omega) hlt h⟩
  exact key xs.length 0 τ C (by simp) (Nat.zero_le _) h0
theorem rng_len (lo : Int) (n : Nat) : (rng lo n).length = n := by unfold rng; simp
theorem rng_get {lo : Int} {n i : Nat} {x : T} (h : (rng lo n)[i]? = some x) : i < n ∧ x = .int (lo + i) := by
  have hi : i < n := by
    have := (List.getElem?_eq_some_iff.mp h).1
    rw [rng_len] at this; exact this
  unfold rng at h
  rw [List.getElem?_map, List.getElem?_range hi] at h
  cases h
  exact ⟨hi, rfl⟩
theorem for_rng {g : WG} {b : WS} {ok : Hw → Prop} {D : We} {lo : Int} {n : Nat} (Pv : Nat → Sw → Hw → Prop) {τ : Sw} {C : Hw} (h0 : Pv 0 τ C) (hok : ∀ C, ok C)
    (hs : ∀ i τ C (N : Sw → Hw → Prop), i < n → Pv i τ C → (∀ τ' C', Pv (i + 1) τ' C' → N τ' C') → g (.int (lo + i)) τ C (fun τ2 C2 => b { D with nx := N, ct := N, bk := D.nx } τ2 C2) D.xc)
    (hd : ∀ τ C, Pv n τ C → D.nx τ C) : forW g b ok D (rng lo n) τ C := by
  refine for_inv Pv h0 (fun _ _ C _ _ => hok C) (fun i x τ C N hx hp hN => ?_) (fun τ C h => hd τ C (by rw [rng_len] at h; exact h))
  obtain ⟨hi, rfl⟩ := rng_get hx
  exact hs i τ C N hi hp hN
theorem comp_inv {g : WG} {c : WT} {e : WE} {ok : Hw → Prop} {τ : Sw} {Q : List T → Hw → Prop} {χ : WX} {xs : List T} (Pv : Nat → List T → Hw → Prop) {C : Hw} (h0 : Pv 0 [] C) (hok : ∀ i acc C, i ≤ xs.length → Pv i acc C → ok C)
    (hs : ∀ i x acc C (N : List T → Hw → Prop), xs[i]? = some x → Pv i acc C → (∀ acc' C', Pv (i + 1) acc' C' → N acc' C') →
      g x τ C (fun τ2 C2 => c τ2 C2 (fun b C3 => if b = true then e τ2 C3 (fun v C4 => acc.length < sizeLine ∧ N (acc ++ [v]) C4) χ else N acc C3) χ) χ)
    (hd : ∀ acc C, Pv xs.length acc C → Q acc C) : compW g c e ok τ Q χ xs [] C := by
  have key : ∀ (k i : Nat) (acc : List T) (C : Hw), xs.length - i = k → i ≤ xs.length → Pv i acc C → compW g c e ok τ Q χ (xs.drop i) acc C := by
    intro k
    induction k with
    | zero =>
      intro i acc C hk hi hp
      have e : i = xs.length := by omega
      subst e
      rw [List.drop_length]
      exact ⟨hok _ acc C (Nat.le_refl _) hp, hd acc C hp⟩
    | succ k ih =>
      intro i acc C hk hi hp
      have hlt : i < xs.length := by omega
      rw [List.drop_eq_getElem_cons hlt]
      exact ⟨hok i acc C hi hp, hs i _ acc C _ (by simp [hlt]) hp fun acc' C' h => ih (i + 1) acc' C' (by omega) hlt h⟩
  exact key xs.length 0 [] C (by simp) (Nat.zero_le _) h0
theorem comp_fm {g : WG} {c : WT} {e : WE} {ok : Hw → Prop} {τ : Sw} {Q : List T → Hw → Prop} {χ : WX} {xs : List T} (f : T → Option T) {C : Hw} (hok : ok C) (hl : xs.length ≤ sizeLine)
    (hs : ∀ x ∈ xs, ∀ (R : WK) (N : Hw → Prop), (∀ v, f x = some v → R v C) → (f x = none → N C) → g x τ C (fun τ2 C2 => c τ2 C2 (fun b C3 => if b = true then e τ2 C3 R χ else N C3) χ) χ) (hd : Q (xs.filterMap f) C) : compW g c e ok τ Q χ xs [] C := by
  refine comp_inv (fun i acc C' => C' = C ∧ acc = (xs.take i).filterMap f) ⟨rfl, rfl⟩ (fun i acc C' _ h => by rw [h.1]; exact hok) (fun i x acc C' N hx hp hN => ?_) (fun acc C' h => ?_)
  · obtain ⟨rfl, rfl⟩ := hp
    have hi : i < xs.length := (List.getElem?_eq_some_iff.mp hx).1
    refine hs x (List.mem_of_getElem? hx) _ _ (fun v hv => ⟨?_, hN _ _ ⟨rfl, ?_⟩⟩) (fun hv => hN _ _ ⟨rfl, ?_⟩)
    · have := List.length_filterMap_le f (xs.take i)
      rw [List.length_take] at this
      omega
    · rw [List.take_add_one, hx, List.filterMap_append]
      simp [hv]
    · rw [List.take_add_one, hx, List.filterMap_append]
      simp [hv]
  · obtain ⟨rfl, rfl⟩ := h
    rw [List.take_length]; exact hd
theorem comp_pure {g : WG} {e : WE} {ok : Hw → Prop} {τ : Sw} {Q : List T → Hw → Prop} {χ : WX} {xs : List T} (f : T → T) {C : Hw} (hok : ok C) (hl : xs.length ≤ sizeLine)
    (hs : ∀ x ∈ xs, ∀ R : WK, R (f x) C → g x τ C (fun τ2 C2 => e τ2 C2 R χ) χ) (hd : Q (xs.map f) C) : compW g tYes e ok τ Q χ xs [] C := by
  refine comp_inv (fun i acc C' => C' = C ∧ acc = (xs.take i).map f) ⟨rfl, rfl⟩ (fun i acc C' _ h => by rw [h.1]; exact hok) (fun i x acc C' N hx hp hN => ?_) (fun acc C' h => ?_)
  · obtain ⟨rfl, rfl⟩ := hp
    have hi : i < xs.length := (List.getElem?_eq_some_iff.mp hx).1
    refine hs x (List.mem_of_getElem? hx) _ ⟨?_, hN _ _ ⟨rfl, ?_⟩⟩
    · rw [List.length_map, List.length_take]; omega
    · rw [List.take_add_one, hx, List.map_append]; rfl
  · obtain ⟨rfl, rfl⟩ := h
    rw [List.take_length]; exact hd
theorem sub_len {α : Type} [DecidableEq α] : ∀ {l m : List α}, l.Nodup → (∀ x ∈ l, x ∈ m) → l.length ≤ m.length
  | [], _, _, _ => Nat.zero_le _
  | x :: l, m, hn, hs => by
    have hx : x ∈ m := hs x (by simp)
    have h1 : l.length ≤ (m.erase x).length := sub_len (List.nodup_cons.mp hn).2 fun y hy => by
      have hne : y ≠ x := fun e => by subst e; exact (List.nodup_cons.mp hn).1 hy
      exact (List.mem_erase_of_ne hne).mpr (hs y (by simp [hy]))
    have h2 := List.length_erase_of_mem hx
    have h3 : 0 < m.length := List.length_pos_of_mem hx
    rw [List.length_cons]; omega
theorem inL_strs {z : Str} {zs : List Str} : inL (.str z) (zs.map T.str) = decide (z ∈ zs) := by
  unfold inL
  rw [List.any_map]
  induction zs with
  | nil => rfl
  | cons y ys ih =>
    rw [List.any_cons, ih]
    have e : (((fun y => eqT y (.str z)) ∘ T.str) y) = (y == z) := by show eqT (.str y) (.str z) = _; unfold eqT; rfl
    rw [e]
    by_cases h : y = z
    · subst h; simp
    · have h' : z ≠ y := fun q => h q.symm
      simp [h, h']
theorem wIn_ref {n : Bool} {z : Str} {a : Addr} {zs : List Str} {C : Hw} {Q : WK} (h : C a = some (.lst (zs.map T.str))) (q : Q (.bl (if n = true then !decide (z ∈ zs) else decide (z ∈ zs))) C) : wInG n (.str z) (.ref a) C Q :=
  ⟨zs.map T.str, h, flat_str, flats_strs, by rw [inL_strs]; exact q⟩
theorem atT_ints {ds : List Int} {i : Int} (h0 : 0 ≤ i) (h1 : i < (ds.length : Int)) : ∃ d, atI (ds.map T.int) i = some (.int d) ∧ d ∈ ds := by
  obtain ⟨v, h, m⟩ := atI_in (xs := ds.map T.int) h0 (by simpa using h1)
  obtain ⟨d, hd, rfl⟩ := List.mem_map.mp m
  exact ⟨d, h, hd⟩
theorem atT_strs {ds : List Str} {i : Int} (h0 : 0 ≤ i) (h1 : i < (ds.length : Int)) : ∃ d, atI (ds.map T.str) i = some (.str d) ∧ d ∈ ds := by
  obtain ⟨v, h, m⟩ := atI_in (xs := ds.map T.str) h0 (by simpa using h1)
  obtain ⟨d, hd, rfl⟩ := List.mem_map.mp m
  exact ⟨d, h, hd⟩
theorem popL {ds : List Int} (h : 0 < ds.length) : ∃ d, (ds.map T.int)[(ds.map T.int).length - 1]? = some (.int d) ∧ d ∈ ds ∧ (ds.map T.int).dropLast = ds.dropLast.map T.int ∧ ds.dropLast.length = ds.length - 1 ∧ ∀ x ∈ ds.dropLast, x ∈ ds := by
  have hlt : ds.length - 1 < ds.length := by omega
  refine ⟨ds[ds.length - 1], ?_, List.getElem_mem hlt, ?_, List.length_dropLast, fun x hx => (List.dropLast_sublist ds).subset hx⟩
  · rw [List.length_map, List.getElem?_map, List.getElem?_eq_getElem hlt]; rfl
  · rw [List.map_dropLast]
theorem seq0 {n : Nat} (h : 0 < n) : seqIndex? 0 n = some 0 := by
  have := (ixN_seq (n := n) (i := 0) (j := 0) (by unfold ixN; simp; omega)).1
  exact this
theorem small63 {n : Nat} (h : n ≤ 100000) : n ≤ sizeLine := Nat.le_trans h (by decide)
theorem small63' {n : Nat} (h : n ≤ 100000) : n < sizeLine := Nat.lt_of_le_of_lt h (by decide)
end WL
set_option Elab.async false
set_option linter.all false
set_option maxRecDepth 100000
set_option maxHeartbeats 4000000
namespace K17
open PySem PySem.Spec PyProof.Rows L2 WL
def g_FIGURES : T := .str "0123456789"
def g_LETTERS : T := .str "abcdefghijklmnopqrstuvwxyz"
def g_WORDS : T := .tup [.str "fun", .str "let", .str "choose", .str "first", .str "stop", .str "rows", .str "in", .str "when", .str "be"]
def g_OPS : T := .tup [.str "+", .str "-", .str "*", .str "<", .str "="]
def g_SHAPES : List (Str × Int) := [("Nil", 0), ("Cons", 2), ("No", 0), ("Yes", 0), ("Pair", 2)]
def g_MOST_FIGURES : T := .int 18
def g_MOST_PAIRS : T := .int 5
def g_FAMILIES : T := .tup [.tup [.str "Nil", .str "Cons"], .tup [.str "No", .str "Yes"], .tup [.str "Pair"]]
def w_show_t1 (P : Calls) : WS :=
    (sRet (eRepl " )" ")" (eRepl "( " "(" (eMt tyS mJoin (eC (.str " ")) (aCons (eVar 1) aNil)))))
def w_show (P : Calls) : WS :=
    (sSeq (sAsg (eLst aNil) (gNm 1))
    (sSeq (sAsg (eLst (aCons (eVar 0) aNil)) (gNm 2))
    (sSeq (sWhile (tBl (eBin wNe (eVar 2) (eLst aNil)))
    (sSeq (sAsg (eMt tyL' mPop (eVar 2) aNil) (gNm 3))
    (sIf (tTru (eIsi (eVar 3) "str")) (sExpr (eMt tyL' mAppend (eVar 1) (aCons (eVar 3) aNil))) (sExpr (eMt tyL' mExtend (eVar 2) (aCons (eLRev (eCall P 1 (aCons (eVar 3) aNil))) aNil))))))
    (w_show_t1 P))))
def w_pieces_of (P : Calls) : WS :=
    (sSeq (sAsg (eBin wIdx (eVar 0) (eC (.int 0))) (gNm 1))
    (sSeq (sIf (tBl (eBin wEq (eVar 1) (eC (.str "name")))) (sRet (eLst (aCons (eBin wIdx (eVar 0) (eC (.int 1))) aNil))) sPass)
    (sSeq (sIf (tBl (eBin wEq (eVar 1) (eC (.str "number")))) (sRet (eLst (aCons (eBi bStr2 (aCons (eBin wIdx (eVar 0) (eC (.int 1))) aNil)) aNil))) sPass)
    (sSeq (sIf (tAn (tBl (eBin wEq (eVar 1) (eC (.str "shape")))) (tBl (eBin wEq (eBin wIdx (eVar 0) (eC (.int 2))) (eTup aNil)))) (sRet (eLst (aCons (eBin wIdx (eVar 0) (eC (.int 1))) aNil))) sPass)
    (sRet (eBin wAdd (eBin wAdd (eLst (aCons (eC (.str "(")) aNil)) (eCall P 2 (aCons (eVar 0) aNil))) (eLst (aCons (eC (.str ")")) aNil))))))))
def w_inner_pieces (P : Calls) : WS :=
    (sSeq (sAsg (eBin wIdx (eVar 0) (eC (.int 0))) (gNm 1))
    (sSeq (sIf (tBl (eBin wEq (eVar 1) (eC (.str "does")))) (sRet (eLst (aCons (eBin wIdx (eVar 0) (eC (.int 1))) (aCons (eBin wIdx (eVar 0) (eC (.int 2))) (aCons (eBin wIdx (eVar 0) (eC (.int 3))) aNil))))) sPass)
    (sSeq (sIf (tBl (eBin wEq (eVar 1) (eC (.str "fun")))) (sRet (eCall P 3 (aCons (eVar 0) aNil))) sPass)
    (sSeq (sIf (tBl (eBin wEq (eVar 1) (eC (.str "call")))) (sRet (eCall P 4 (aCons (eVar 0) aNil))) sPass)
    (sSeq (sIf (tBl (eBin wEq (eVar 1) (eC (.str "let")))) (sRet (eBin wAdd (eBin wAdd (eLst (aCons (eC (.str "let")) aNil)) (eCall P 5 (aCons (eComp [none, none] (iSeq (eBin wIdx (eVar 0) (eC (.int 1)))) (gTp (gsCons (gNm 0) (gsCons (gNm 1) gsNil))) tYes (eLst (aCons (eVar 0) (aCons (eVar 1) aNil)))) aNil))) (eLst (aCons (eBin wIdx (eVar 0) (eC (.int 2))) aNil)))) sPass)
    (sSeq (sIf (tBl (eBin wEq (eVar 1) (eC (.str "shape")))) (sRet (eBin wAdd (eLst (aCons (eBin wIdx (eVar 0) (eC (.int 1))) aNil)) (eBi bList (aCons (eBin wIdx (eVar 0) (eC (.int 2))) aNil)))) sPass)
    (sSeq (sIf (tBl (eBin wEq (eVar 1) (eC (.str "choose")))) (sSeq (sAsg (eComp [none, none, none] (iSeq (eBin wIdx (eVar 0) (eC (.int 2)))) (gTp (gsCons (gNm 0) (gsCons (gNm 1) (gsCons (gNm 2) gsNil)))) tYes (eBin wAdd (eBin wAdd (eLst (aCons (eVar 0) aNil)) (eBi bList (aCons (eVar 1) aNil))) (eLst (aCons (eVar 2) aNil)))) (gNm 2))
    (sRet (eBin wAdd (eLst (aCons (eC (.str "choose")) (aCons (eBin wIdx (eVar 0) (eC (.int 1))) aNil))) (eCall P 5 (aCons (eVar 2) aNil))))) sPass)
    (sSeq (sIf (tBl (eBin wEq (eVar 1) (eC (.str "rows")))) (sRet (eBin wAdd (eLst (aCons (eC (.str "rows")) (aCons (eBin wIdx (eVar 0) (eC (.int 1))) aNil))) (eCall P 5 (aCons (eComp [none] (iSeq (eBin wIdx (eVar 0) (eC (.int 2)))) (gNm 0) tYes (eBi bList (aCons (eVar 0) aNil))) aNil)))) sPass)
    (sRet (eBi bList (aCons (eVar 0) aNil)))))))))))
def w_fun_pieces_t1 (P : Calls) : WS :=
    (sRet (eBin wAdd (eVar 1) (eLst (aCons (eVar 0) aNil))))
def w_fun_pieces (P : Calls) : WS :=
    (sSeq (sAsg (eLst (aCons (eC (.str "fun")) aNil)) (gNm 1))
    (sSeq (sWhile (tBl (eBin wEq (eBin wIdx (eVar 0) (eC (.int 0))) (eC (.str "fun"))))
    (sSeq (sExpr (eMt tyL' mAppend (eVar 1) (aCons (eBin wIdx (eVar 0) (eC (.int 1))) aNil)))
    (sAsg (eBin wIdx (eVar 0) (eC (.int 2))) (gNm 0))))
    (w_fun_pieces_t1 P)))
def w_call_pieces_t1 (P : Calls) : WS :=
    (sRet (eBin wAdd (eLst (aCons (eVar 0) aNil)) (eLRev (eVar 1))))
def w_call_pieces (P : Calls) : WS :=
    (sSeq (sAsg (eLst aNil) (gNm 1))
    (sSeq (sWhile (tBl (eBin wEq (eBin wIdx (eVar 0) (eC (.int 0))) (eC (.str "call"))))
    (sSeq (sExpr (eMt tyL' mAppend (eVar 1) (aCons (eBin wIdx (eVar 0) (eC (.int 2))) aNil)))
    (sAsg (eBin wIdx (eVar 0) (eC (.int 1))) (gNm 0))))
    (w_call_pieces_t1 P)))
def w_bracketed (P : Calls) : WS :=
    (sSeq (sAsg (eLst aNil) (gNm 1))
    (sSeq (sFor (iSeq (eVar 0)) (gNm 2)
    (sExpr (eMt tyL' mExtend (eVar 1) (aCons (eBin wAdd (eBin wAdd (eLst (aCons (eC (.str "(")) aNil)) (eVar 2)) (eLst (aCons (eC (.str ")")) aNil))) aNil))))
    (sRet (eVar 1))))
def w_is_name (P : Calls) : WS :=
    (sSeq (sIf (tOr' (tBl (eBin wLt (eBi bLen (aCons (eVar 0) aNil)) (eC (.int 1)))) (tBl (eBin wGt (eBi bLen (aCons (eVar 0) aNil)) (eC (.int 8))))) (sRet (eC (.bl false))) sPass)
    (sSeq (sIf (tOr' (tBl (eBin wNotIn (eBin wIdx (eVar 0) (eC (.int 0))) (eC g_LETTERS))) (tBl (eBin wIn (eVar 0) (eC g_WORDS)))) (sRet (eC (.bl false))) sPass)
    (sRet (eBi bAll (aCons (eComp [none] (iSeq (eVar 0)) (gNm 0) tYes (eOr (eBin wIn (eVar 0) (eC g_LETTERS)) (eBin wIn (eVar 0) (eC g_FIGURES)))) aNil)))))
def w_read (P : Calls) : WS :=
    (sSeq (sIf (tNo (tTru (eIsi (eVar 0) "str"))) sNever sPass)
    (sRet (eCall P 10 (aCons (eCall P 9 (aCons (eCall P 8 (aCons (eVar 0) aNil)) aNil)) aNil))))
def w_words_of (P : Calls) : WS :=
    (sSeq (sAsg (eRepl "\n" " " (eRepl ")" " ) " (eRepl "(" " ( " (eVar 0)))) (gNm 1))
    (sRet (eComp [none] (iSeq (eMt tyS mSplit (eVar 1) (aCons (eC (.str " ")) aNil))) (gNm 0) (tBl (eBin wNe (eVar 0) (eC (.str "")))) (eVar 0))))
def w_tree_of_t1 (P : Calls) : WS :=
    (sRet (eBin wIdx (eBin wIdx (eVar 1) (eC (.int 0))) (eC (.int 0))))
def w_tree_of_t2 (P : Calls) : WS :=
    (sSeq (sIf (tBl (eBin wNe (eBi bLen (aCons (eBin wIdx (eVar 1) (eC (.int 0))) aNil)) (eC (.int 1)))) sNever sPass)
    (w_tree_of_t1 P))
def w_tree_of_t3 (P : Calls) : WS :=
    (sSeq (sIf (tBl (eBin wGt (eBi bLen (aCons (eVar 1) aNil)) (eC (.int 1)))) sNever sPass)
    (w_tree_of_t2 P))
def w_tree_of (P : Calls) : WS :=
    (sSeq (sAsg (eLst (aCons (eLst aNil) aNil)) (gNm 1))
    (sSeq (sFor (iSeq (eVar 0)) (gNm 2)
    (sIf (tBl (eBin wEq (eVar 2) (eC (.str "(")))) (sExpr (eMt tyL' mAppend (eVar 1) (aCons (eLst aNil) aNil))) (sIf (tBl (eBin wNe (eVar 2) (eC (.str ")")))) (sExpr (eMt tyL' mAppend (eBin wIdx (eVar 1) (eUn wNeg (eC (.int 1)))) (aCons (eVar 2) aNil))) (sIf (tBl (eBin wGt (eBi bLen (aCons (eVar 1) aNil)) (eC (.int 1)))) (sSeq (sAsg (eMt tyL' mPop (eVar 1) aNil) (gNm 3))
    (sExpr (eMt tyL' mAppend (eBin wIdx (eVar 1) (eUn wNeg (eC (.int 1)))) (aCons (eVar 3) aNil)))) sNever))))
    (w_tree_of_t3 P)))
def w_term_of_t1 (P : Calls) : WS :=
    (sRet (eCall P 15 (aCons (eVar 0) aNil)))
def w_term_of_t2 (P : Calls) : WS :=
    (sSeq (sIf (tOr' (tBl (eBin wEq (eVar 1) (eC (.str "Cons")))) (tBl (eBin wEq (eVar 1) (eC (.str "Pair"))))) (sRet (eTup (aCons (eC (.str "shape")) (aCons (eVar 1) (aCons (eCall P 13 (aCons (eVar 2) aNil)) aNil))))) sPass)
    (w_term_of_t1 P))
def w_term_of_t3 (P : Calls) : WS :=
    (sSeq (sIf (tBl (eBin wEq (eVar 1) (eC (.str "rows")))) (sRet (eCall P 21 (aCons (eVar 2) aNil))) sPass)
    (w_term_of_t2 P))
def w_term_of_t4 (P : Calls) : WS :=
    (sSeq (sIf (tBl (eBin wEq (eVar 1) (eC (.str "stop")))) (sRet (eCall P 20 (aCons (eVar 2) aNil))) sPass)
    (w_term_of_t3 P))
def w_term_of_t5 (P : Calls) : WS :=
    (sSeq (sIf (tBl (eBin wEq (eVar 1) (eC (.str "first")))) (sRet (eBin wAdd (eTup (aCons (eC (.str "first")) aNil)) (eCall P 13 (aCons (eVar 2) aNil)))) sPass)
    (w_term_of_t4 P))
def w_term_of_t6 (P : Calls) : WS :=
    (sSeq (sIf (tBl (eBin wEq (eVar 1) (eC (.str "choose")))) (sRet (eCall P 18 (aCons (eVar 2) aNil))) sPass)
    (w_term_of_t5 P))
def w_term_of_t7 (P : Calls) : WS :=
    (sSeq (sIf (tBl (eBin wEq (eVar 1) (eC (.str "let")))) (sRet (eCall P 16 (aCons (eVar 2) aNil))) sPass)
    (w_term_of_t6 P))
def w_term_of_t8 (P : Calls) : WS :=
    (sSeq (sIf (tBl (eBin wEq (eVar 1) (eC (.str "fun")))) (sRet (eCall P 14 (aCons (eVar 2) aNil))) sPass)
    (w_term_of_t7 P))
def w_term_of_t9 (P : Calls) : WS :=
    (sSeq (sAsg (eBin wIdx (eVar 0) (eC (.int 0))) (gNm 1))
    (sSeq (sAsg (eSl (eVar 0) (oSome (eC (.int 1))) oNo) (gNm 2))
    (sSeq (sIf (tBl (eBin wInR (eVar 1) (eC g_OPS))) (sRet (eBin wAdd (eTup (aCons (eC (.str "does")) (aCons (eVar 1) aNil))) (eCall P 13 (aCons (eVar 2) aNil)))) sPass)
    (w_term_of_t8 P))))
def w_term_of_t10 (P : Calls) : WS :=
    (sSeq (sIf (tBl (eBin wEq (eVar 0) (eLst aNil))) sNever sPass)
    (w_term_of_t9 P))
def w_term_of (P : Calls) : WS :=
    (sSeq (sIf (tTru (eIsi (eVar 0) "str")) (sRet (eCall P 11 (aCons (eVar 0) aNil))) sPass)
    (w_term_of_t10 P))
def w_word_term_t1 (P : Calls) : WS :=
    sNever
def w_word_term_t2 (P : Calls) : WS :=
    (sSeq (sIf (tBl (eBin wEq (eGc g_SHAPES (eVar 0)) (eC (.int 0)))) (sRet (eTup (aCons (eC (.str "shape")) (aCons (eVar 0) (aCons (eTup aNil) aNil))))) sPass)
    (w_word_term_t1 P))
def w_word_term_t3 (P : Calls) : WS :=
    (sSeq (sIf (tTru (eCall P 12 (aCons (eVar 0) aNil))) (sRet (eTup (aCons (eC (.str "number")) (aCons (eBi bIntT (aCons (eVar 0) aNil)) aNil)))) sPass)
    (w_word_term_t2 P))
def w_word_term (P : Calls) : WS :=
    (sSeq (sIf (tTru (eCall P 6 (aCons (eVar 0) aNil))) (sRet (eTup (aCons (eC (.str "name")) (aCons (eVar 0) aNil)))) sPass)
    (w_word_term_t3 P))
def w_is_number (P : Calls) : WS :=
    (sSeq (sIf (tOr' (tBl (eBin wLt (eBi bLen (aCons (eVar 0) aNil)) (eC (.int 1)))) (tBl (eBin wGt (eBi bLen (aCons (eVar 0) aNil)) (eC g_MOST_FIGURES)))) (sRet (eC (.bl false))) sPass)
    (sSeq (sIf (tAn (tBl (eBin wEq (eBin wIdx (eVar 0) (eC (.int 0))) (eC (.str "0")))) (tBl (eBin wNe (eVar 0) (eC (.str "0"))))) (sRet (eC (.bl false))) sPass)
    (sRet (eBi bAll (aCons (eComp [none] (iSeq (eVar 0)) (gNm 0) tYes (eBin wIn (eVar 0) (eC g_FIGURES))) aNil)))))
def w_two_terms (P : Calls) : WS :=
    (sSeq (sIf (tBl (eBin wNe (eBi bLen (aCons (eVar 0) aNil)) (eC (.int 2)))) sNever sPass)
    (sRet (eTup (aCons (eCall P 10 (aCons (eBin wIdx (eVar 0) (eC (.int 0))) aNil)) (aCons (eCall P 10 (aCons (eBin wIdx (eVar 0) (eC (.int 1))) aNil)) aNil)))))
def w_fun_term (P : Calls) : WS :=
    (sSeq (sIf (tBl (eBin wLt (eBi bLen (aCons (eVar 0) aNil)) (eC (.int 2)))) sNever sPass)
    (sSeq (sAsg (eCall P 10 (aCons (eBin wIdx (eVar 0) (eUn wNeg (eC (.int 1)))) aNil)) (gNm 1))
    (sSeq (sFor (iRv (aCons (eSl (eVar 0) oNo (oSome (eUn wNeg (eC (.int 1))))) aNil)) (gNm 2)
    (sAsg (eTup (aCons (eC (.str "fun")) (aCons (eCall P 24 (aCons (eVar 2) aNil)) (aCons (eVar 1) aNil)))) (gNm 1)))
    (sRet (eVar 1)))))
def w_call_term (P : Calls) : WS :=
    (sSeq (sIf (tBl (eBin wLt (eBi bLen (aCons (eVar 0) aNil)) (eC (.int 2)))) sNever sPass)
    (sSeq (sAsg (eCall P 10 (aCons (eBin wIdx (eVar 0) (eC (.int 0))) aNil)) (gNm 1))
    (sSeq (sFor (iSeq (eSl (eVar 0) (oSome (eC (.int 1))) oNo)) (gNm 2)
    (sAsg (eTup (aCons (eC (.str "call")) (aCons (eVar 1) (aCons (eCall P 10 (aCons (eVar 2) aNil)) aNil)))) (gNm 1)))
    (sRet (eVar 1)))))
def w_let_term_t1 (P : Calls) : WS :=
    (sSeq (sAsg (eBi bTuple (aCons (eComp [none] (iSeq (eSl (eVar 0) oNo (oSome (eUn wNeg (eC (.int 1)))))) (gNm 0) tYes (eCall P 17 (aCons (eVar 0) aNil))) aNil)) (gNm 1))
    (sSeq (sExpr (eCall P 25 (aCons (eComp [none, none] (iSeq (eVar 1)) (gTp (gsCons (gNm 0) (gsCons (gNm 1) gsNil))) tYes (eVar 0)) aNil)))
    (sRet (eTup (aCons (eC (.str "let")) (aCons (eVar 1) (aCons (eCall P 10 (aCons (eBin wIdx (eVar 0) (eUn wNeg (eC (.int 1)))) aNil)) aNil)))))))
def w_let_term (P : Calls) : WS :=
    (sSeq (sIf (tOr' (tBl (eBin wLt (eBi bLen (aCons (eVar 0) aNil)) (eC (.int 2)))) (tBl (eBin wGt (eBi bLen (aCons (eVar 0) aNil)) (eBin wAdd (eC g_MOST_PAIRS) (eC (.int 1)))))) sNever sPass)
    (w_let_term_t1 P))
def w_pair_of (P : Calls) : WS :=
    (sSeq (sAsg (eCall P 23 (aCons (eVar 0) aNil)) (gNm 1))
    (sSeq (sIf (tBl (eBin wNe (eBi bLen (aCons (eVar 1) aNil)) (eC (.int 2)))) sNever sPass)
    (sRet (eTup (aCons (eCall P 24 (aCons (eBin wIdx (eVar 1) (eC (.int 0))) aNil)) (aCons (eCall P 10 (aCons (eBin wIdx (eVar 1) (eC (.int 1))) aNil)) aNil))))))
def w_choose_term_t1 (P : Calls) : WS :=
    (sRet (eTup (aCons (eC (.str "choose")) (aCons (eCall P 10 (aCons (eBin wIdx (eVar 0) (eC (.int 0))) aNil)) (aCons (eVar 1) aNil)))))
def w_choose_term_t2 (P : Calls) : WS :=
    (sSeq (sAsg (eBi bTuple (aCons (eComp [none] (iSeq (eSl (eVar 0) (oSome (eC (.int 1))) oNo)) (gNm 0) tYes (eCall P 19 (aCons (eVar 0) aNil))) aNil)) (gNm 1))
    (sSeq (sIf (tBl (eBin wNotIn (eBi bTuple (aCons (eComp [none, none, none] (iSeq (eVar 1)) (gTp (gsCons (gNm 0) (gsCons (gNm 1) (gsCons (gNm 2) gsNil)))) tYes (eVar 0)) aNil)) (eC g_FAMILIES))) sNever sPass)
    (w_choose_term_t1 P)))
def w_choose_term (P : Calls) : WS :=
    (sSeq (sIf (tBl (eBin wEq (eVar 0) (eLst aNil))) sNever sPass)
    (w_choose_term_t2 P))
def w_alternative_of_t1 (P : Calls) : WS :=
    (sRet (eTup (aCons (eBin wIdx (eVar 1) (eC (.int 0))) (aCons (eVar 2) (aCons (eCall P 10 (aCons (eBin wIdx (eVar 1) (eUn wNeg (eC (.int 1)))) aNil)) aNil)))))
def w_alternative_of_t2 (P : Calls) : WS :=
    (sSeq (sAsg (eBi bTuple (aCons (eComp [none] (iSeq (eSl (eVar 1) (oSome (eC (.int 1))) (oSome (eUn wNeg (eC (.int 1)))))) (gNm 0) tYes (eCall P 24 (aCons (eVar 0) aNil))) aNil)) (gNm 2))
    (sSeq (sExpr (eCall P 25 (aCons (eVar 2) aNil)))
    (sSeq (sIf (tBl (eBin wNe (eGc g_SHAPES (eBin wIdx (eVar 1) (eC (.int 0)))) (eBi bLen (aCons (eVar 2) aNil)))) sNever sPass)
    (w_alternative_of_t1 P))))
def w_alternative_of (P : Calls) : WS :=
    (sSeq (sAsg (eCall P 23 (aCons (eVar 0) aNil)) (gNm 1))
    (sSeq (sIf (tOr' (tBl (eBin wLt (eBi bLen (aCons (eVar 1) aNil)) (eC (.int 2)))) (tNo (tTru (eIsi (eBin wIdx (eVar 1) (eC (.int 0))) "str")))) sNever sPass)
    (w_alternative_of_t2 P)))
def w_stop_term (P : Calls) : WS :=
    (sSeq (sIf (tBl (eBin wNe (eBi bLen (aCons (eVar 0) aNil)) (eC (.int 1)))) sNever sPass)
    (sRet (eTup (aCons (eC (.str "stop")) (aCons (eCall P 24 (aCons (eBin wIdx (eVar 0) (eC (.int 0))) aNil)) aNil)))))
def w_rows_term (P : Calls) : WS :=
    (sSeq (sIf (tBl (eBin wEq (eVar 0) (eLst aNil))) sNever sPass)
    (sRet (eTup (aCons (eC (.str "rows")) (aCons (eCall P 10 (aCons (eBin wIdx (eVar 0) (eC (.int 0))) aNil)) (aCons (eBi bTuple (aCons (eComp [none] (iSeq (eSl (eVar 0) (oSome (eC (.int 1))) oNo)) (gNm 0) tYes (eCall P 22 (aCons (eVar 0) aNil))) aNil)) aNil))))))
def w_step_of (P : Calls) : WS :=
    (sSeq (sAsg (eCall P 23 (aCons (eVar 0) aNil)) (gNm 1))
    (sSeq (sIf (tAn (tBl (eBin wEq (eBi bLen (aCons (eVar 1) aNil)) (eC (.int 2)))) (tBl (eBin wEq (eBin wIdx (eVar 1) (eC (.int 0))) (eC (.str "when"))))) (sRet (eTup (aCons (eC (.str "when")) (aCons (eCall P 10 (aCons (eBin wIdx (eVar 1) (eC (.int 1))) aNil)) aNil)))) sPass)
    (sSeq (sIf (tAn (tBl (eBin wEq (eBi bLen (aCons (eVar 1) aNil)) (eC (.int 3)))) (tOr' (tBl (eBin wEq (eBin wIdx (eVar 1) (eC (.int 0))) (eC (.str "in")))) (tBl (eBin wEq (eBin wIdx (eVar 1) (eC (.int 0))) (eC (.str "be")))))) (sRet (eTup (aCons (eBin wIdx (eVar 1) (eC (.int 0))) (aCons (eCall P 24 (aCons (eBin wIdx (eVar 1) (eC (.int 1))) aNil)) (aCons (eCall P 10 (aCons (eBin wIdx (eVar 1) (eC (.int 2))) aNil)) aNil))))) sPass)
    sNever)))
def w_items_of (P : Calls) : WS :=
    (sSeq (sIf (tTru (eIsi (eVar 0) "str")) sNever sPass)
    (sRet (eVar 0)))
def w_name_of (P : Calls) : WS :=
    (sSeq (sIf (tOr' (tNo (tTru (eIsi (eVar 0) "str"))) (tNo (tTru (eCall P 6 (aCons (eVar 0) aNil))))) sNever sPass)
    (sRet (eVar 0)))
def w_refuse_alike (P : Calls) : WS :=
    (sIf (tBl (eBin wNe (eLenSet (eVar 0)) (eBi bLen (aCons (eVar 0) aNil)))) sNever sPass)
def w__law_draws (P : Calls) : WS :=
    (sSeq (sAsg (eLst aNil) (gNm 2))
    (sSeq (sFor (iR1 (aCons (eVar 1) aNil)) (gNm 3)
    (sSeq (sAsg (eC (.int 0)) (gNm 4))
    (sSeq (sIf (tBl (eBin wGt (eBi bLen (aCons (eVar 0) aNil)) (eC (.int 0)))) (sAsg (eBin wMod (eBin wIdx (eVar 0) (eBin wMod (eVar 3) (eBi bLen (aCons (eVar 0) aNil)))) (eBin wPow (eC (.int 10)) (eC (.int 18)))) (gNm 4)) sPass)
    (sExpr (eMt tyL' mAppend (eVar 2) (aCons (eBin wAdd (eVar 4) (eBin wMul (eC (.int 7919)) (eBin wDiv (eVar 3) (eBi bMax (aCons (eC (.int 1)) (aCons (eBi bLen (aCons (eVar 0) aNil)) aNil)))))) aNil))))))
    (sRet (eVar 2))))
def w__law_name (P : Calls) : WS :=
    (sSeq (sAsg (eC (.str "abcdefghijklmnopqrstuvwxyz0123456789")) (gNm 1))
    (sSeq (sAsg (eBin wIdx (eVar 1) (eBin wMod (eVar 0) (eC (.int 26)))) (gNm 2))
    (sSeq (sFor (iR1 (aCons (eBin wMod (eBin wDiv (eVar 0) (eC (.int 26))) (eC (.int 8))) aNil)) (gNm 3)
    (sSeq (sAsg (eBin wAdd (eBin wAdd (eBin wDiv (eVar 0) (eC (.int 208))) (eBin wMul (eBin wMul (eC (.int 11)) (eVar 3)) (eVar 3))) (eBin wMul (eBin wMod (eBin wDiv (eVar 0) (eC (.int 7488))) (eC (.int 36))) (eVar 3))) (gNm 4))
    (sAsg (eBin wAdd (eVar 2) (eBin wIdx (eVar 1) (eBin wMod (eVar 4) (eC (.int 36))))) (gNm 2))))
    (sSeq (sIf (tBl (eBin wIn (eVar 2) (eLst (aCons (eC (.str "fun")) (aCons (eC (.str "let")) (aCons (eC (.str "choose")) (aCons (eC (.str "first")) (aCons (eC (.str "stop")) (aCons (eC (.str "rows")) (aCons (eC (.str "in")) (aCons (eC (.str "when")) (aCons (eC (.str "be")) aNil)))))))))))) (sRet (eBin wAdd (eVar 2) (eC (.str "0")))) sPass)
    (sRet (eVar 2))))))
def w__law_unlike (P : Calls) : WS :=
    (sSeq (sAsg (eLst aNil) (gNm 3))
    (sSeq (sFor (iR1 (aCons (eVar 1) aNil)) (gNm 4)
    (sSeq (sAsg (eBin wIdx (eVar 2) (eBin wMod (eBin wDiv (eVar 0) (eBin wAdd (eBin wMul (eC (.int 5)) (eVar 4)) (eC (.int 1)))) (eBi bLen (aCons (eVar 2) aNil)))) (gNm 5))
    (sSeq (sIf (tBl (eBin wIn (eVar 5) (eVar 3))) (sSeq (sAsg (eLst (aCons (eC (.str "q1")) (aCons (eC (.str "q2")) (aCons (eC (.str "q3")) (aCons (eC (.str "q4")) (aCons (eC (.str "q5")) (aCons (eC (.str "q6")) aNil))))))) (gNm 6))
    (sAsg (eBin wIdx (eComp [none, some 3] (iSeq (eVar 6)) (gNm 0) (tBl (eBin wNotIn (eVar 0) (eVar 1))) (eVar 0)) (eC (.int 0))) (gNm 5))) sPass)
    (sExpr (eMt tyL' mAppend (eVar 3) (aCons (eVar 5) aNil))))))
    (sRet (eVar 3))))
def w__law_leaf (P : Calls) : WS :=
    (sSeq (sIf (tBl (eBin wEq (eBin wMod (eVar 0) (eC (.int 4))) (eC (.int 0)))) (sRet (eTup (aCons (eC (.str "number")) (aCons (eBin wIdx (eLst (aCons (eBin wMod (eBin wDiv (eVar 0) (eC (.int 4))) (eC (.int 10))) (aCons (eBin wMod (eBin wMul (eVar 0) (eC (.int 982451653))) (eBin wPow (eC (.int 10)) (eC (.int 18)))) aNil))) (eBin wMod (eBin wDiv (eVar 0) (eC (.int 40))) (eC (.int 2)))) aNil)))) sPass)
    (sSeq (sIf (tBl (eBin wEq (eBin wMod (eVar 0) (eC (.int 4))) (eC (.int 1)))) (sRet (eTup (aCons (eC (.str "shape")) (aCons (eBin wIdx (eLst (aCons (eC (.str "Nil")) (aCons (eC (.str "No")) (aCons (eC (.str "Yes")) aNil)))) (eBin wMod (eBin wDiv (eVar 0) (eC (.int 4))) (eC (.int 3)))) (aCons (eTup aNil) aNil))))) sPass)
    (sSeq (sIf (tBl (eBin wEq (eBin wMod (eVar 0) (eC (.int 16))) (eC (.int 2)))) (sRet (eTup (aCons (eC (.str "stop")) (aCons (eBin wIdx (eVar 1) (eBin wMod (eBin wDiv (eVar 0) (eC (.int 16))) (eBi bLen (aCons (eVar 1) aNil)))) aNil)))) sPass)
    (sRet (eTup (aCons (eC (.str "name")) (aCons (eBin wIdx (eVar 1) (eBin wMod (eBin wDiv (eVar 0) (eC (.int 4))) (eBi bLen (aCons (eVar 1) aNil)))) aNil)))))))
def w__law_chosen (P : Calls) : WS :=
    (sSeq (sIf (tBl (eBin wEq (eBin wMod (eVar 0) (eC (.int 3))) (eC (.int 0)))) (sRet (eTup (aCons (eTup (aCons (eC (.str "Nil")) (aCons (eTup aNil) (aCons (eBin wIdx (eVar 1) (eC (.int 1))) aNil)))) (aCons (eTup (aCons (eC (.str "Cons")) (aCons (eBi bTuple (aCons (eCall P 28 (aCons (eBin wDiv (eVar 0) (eC (.int 3))) (aCons (eC (.int 2)) (aCons (eVar 2) aNil)))) aNil)) (aCons (eBin wIdx (eVar 1) (eC (.int 2))) aNil)))) aNil)))) sPass)
    (sSeq (sIf (tBl (eBin wEq (eBin wMod (eVar 0) (eC (.int 3))) (eC (.int 1)))) (sRet (eTup (aCons (eTup (aCons (eC (.str "No")) (aCons (eTup aNil) (aCons (eBin wIdx (eVar 1) (eC (.int 1))) aNil)))) (aCons (eTup (aCons (eC (.str "Yes")) (aCons (eTup aNil) (aCons (eBin wIdx (eVar 1) (eC (.int 2))) aNil)))) aNil)))) sPass)
    (sRet (eTup (aCons (eTup (aCons (eC (.str "Pair")) (aCons (eBi bTuple (aCons (eCall P 28 (aCons (eBin wDiv (eVar 0) (eC (.int 3))) (aCons (eC (.int 2)) (aCons (eVar 2) aNil)))) aNil)) (aCons (eBin wIdx (eVar 1) (eC (.int 1))) aNil)))) aNil)))))
def w__law_rows (P : Calls) : WS :=
    (sSeq (sAsg (eLst aNil) (gNm 3))
    (sSeq (sFor (iR1 (aCons (eBin wSub (eBi bLen (aCons (eVar 1) aNil)) (eC (.int 1))) aNil)) (gNm 4)
    (sSeq (sAsg (eBin wMod (eBin wDiv (eVar 0) (eBin wAdd (eBin wMul (eC (.int 3)) (eVar 4)) (eC (.int 1)))) (eC (.int 3))) (gNm 5))
    (sIf (tBl (eBin wEq (eVar 5) (eC (.int 0)))) (sExpr (eMt tyL' mAppend (eVar 3) (aCons (eTup (aCons (eC (.str "when")) (aCons (eBin wIdx (eVar 1) (eBin wAdd (eC (.int 1)) (eVar 4))) aNil))) aNil))) (sExpr (eMt tyL' mAppend (eVar 3) (aCons (eTup (aCons (eBin wIdx (eLst (aCons (eC (.str "in")) (aCons (eC (.str "be")) aNil))) (eBin wSub (eVar 5) (eC (.int 1)))) (aCons (eBin wIdx (eVar 2) (eBin wMod (eBin wDiv (eVar 0) (eBin wAdd (eBin wMul (eC (.int 7)) (eVar 4)) (eC (.int 3)))) (eBi bLen (aCons (eVar 2) aNil)))) (aCons (eBin wIdx (eVar 1) (eBin wAdd (eC (.int 1)) (eVar 4))) aNil)))) aNil))))))
    (sRet (eTup (aCons (eC (.str "rows")) (aCons (eBin wIdx (eVar 1) (eC (.int 0))) (aCons (eBi bTuple (aCons (eVar 3) aNil)) aNil)))))))
def w__law_joined (P : Calls) : WS :=
    (sSeq (sIf (tBl (eBin wEq (eVar 0) (eC (.int 1)))) (sRet (eTup (aCons (eC (.str "does")) (aCons (eBin wIdx (eC (.str "+-*<=")) (eBin wMod (eVar 1) (eC (.int 5)))) (aCons (eBin wIdx (eVar 2) (eC (.int 0))) (aCons (eBin wIdx (eVar 2) (eC (.int 1))) aNil)))))) sPass)
    (sSeq (sIf (tBl (eBin wEq (eVar 0) (eC (.int 2)))) (sRet (eTup (aCons (eC (.str "fun")) (aCons (eBin wIdx (eVar 3) (eBin wMod (eVar 1) (eBi bLen (aCons (eVar 3) aNil)))) (aCons (eBin wIdx (eVar 2) (eC (.int 0))) aNil))))) sPass)
    (sSeq (sIf (tBl (eBin wEq (eVar 0) (eC (.int 3)))) (sRet (eTup (aCons (eC (.str "call")) (aCons (eBin wIdx (eVar 2) (eC (.int 0))) (aCons (eBin wIdx (eVar 2) (eC (.int 1))) aNil))))) sPass)
    (sSeq (sIf (tBl (eBin wEq (eVar 0) (eC (.int 4)))) (sSeq (sAsg (eCall P 28 (aCons (eVar 1) (aCons (eBin wSub (eBi bLen (aCons (eVar 2) aNil)) (eC (.int 1))) (aCons (eVar 3) aNil)))) (gNm 4))
    (sRet (eTup (aCons (eC (.str "let")) (aCons (eBi bTuple (aCons (eComp [none, some 4, some 2] (iR1 (aCons (eBi bLen (aCons (eVar 4) aNil)) aNil)) (gNm 0) tYes (eTup (aCons (eBin wIdx (eVar 1) (eVar 0)) (aCons (eBin wIdx (eVar 2) (eVar 0)) aNil)))) aNil)) (aCons (eBin wIdx (eVar 2) (eUn wNeg (eC (.int 1)))) aNil)))))) sPass)
    (sSeq (sIf (tBl (eBin wEq (eVar 0) (eC (.int 5)))) (sRet (eTup (aCons (eC (.str "shape")) (aCons (eBin wIdx (eLst (aCons (eC (.str "Cons")) (aCons (eC (.str "Pair")) aNil))) (eBin wMod (eVar 1) (eC (.int 2)))) (aCons (eTup (aCons (eBin wIdx (eVar 2) (eC (.int 0))) (aCons (eBin wIdx (eVar 2) (eC (.int 1))) aNil))) aNil))))) sPass)
    (sSeq (sIf (tBl (eBin wEq (eVar 0) (eC (.int 6)))) (sRet (eTup (aCons (eC (.str "choose")) (aCons (eBin wIdx (eVar 2) (eC (.int 0))) (aCons (eCall P 30 (aCons (eVar 1) (aCons (eVar 2) (aCons (eVar 3) aNil)))) aNil))))) sPass)
    (sSeq (sIf (tBl (eBin wEq (eVar 0) (eC (.int 7)))) (sRet (eTup (aCons (eC (.str "first")) (aCons (eBin wIdx (eVar 2) (eC (.int 0))) (aCons (eBin wIdx (eVar 2) (eC (.int 1))) aNil))))) sPass)
    (sRet (eCall P 31 (aCons (eVar 1) (aCons (eVar 2) (aCons (eVar 3) aNil))))))))))))
def w__law_many (P : Calls) : WS :=
    (sSeq (sIf (tBl (eBin wEq (eVar 0) (eC (.int 4)))) (sRet (eBin wAdd (eC (.int 2)) (eBin wMod (eBin wDiv (eVar 1) (eC (.int 7))) (eC (.int 5))))) sPass)
    (sSeq (sIf (tBl (eBin wEq (eVar 0) (eC (.int 6)))) (sRet (eBin wIdx (eLst (aCons (eC (.int 3)) (aCons (eC (.int 3)) (aCons (eC (.int 2)) aNil)))) (eBin wMod (eVar 1) (eC (.int 3))))) sPass)
    (sSeq (sIf (tBl (eBin wEq (eVar 0) (eC (.int 8)))) (sRet (eBin wAdd (eC (.int 1)) (eBin wMod (eBin wDiv (eVar 1) (eC (.int 7))) (eC (.int 4))))) sPass)
    (sRet (eBin wIdx (eLst (aCons (eC (.int 0)) (aCons (eC (.int 2)) (aCons (eC (.int 1)) (aCons (eC (.int 2)) (aCons (eC (.int 0)) (aCons (eC (.int 2)) (aCons (eC (.int 0)) (aCons (eC (.int 2)) aNil))))))))) (eVar 0))))))
def w__law_term_t1 (P : Calls) : WS :=
    (sRet (eCall P 32 (aCons (eVar 4) (aCons (eBin wDiv (eVar 3) (eC (.int 9))) (aCons (eVar 5) (aCons (eVar 2) aNil))))))
def w__law_term_t2 (P : Calls) : WS :=
    (sSeq (sAsg (eLst aNil) (gNm 5))
    (sSeq (sFor (iR1 (aCons (eCall P 33 (aCons (eVar 4) (aCons (eBin wDiv (eVar 3) (eC (.int 9))) aNil))) aNil)) (gNm 6)
    (sExpr (eMt tyL' mAppend (eVar 5) (aCons (eCall P 34 (aCons (eVar 0) (aCons (eBin wSub (eVar 1) (eC (.int 1))) (aCons (eVar 2) aNil)))) aNil))))
    (w__law_term_t1 P)))
def w__law_term_t3 (P : Calls) : WS :=
    (sSeq (sAsg (eBin wMod (eVar 3) (eC (.int 9))) (gNm 4))
    (sSeq (sIf (tOr' (tBl (eBin wLe (eVar 1) (eC (.int 1)))) (tOr' (tBl (eBin wEq (eBi bLen (aCons (eVar 0) aNil)) (eC (.int 0)))) (tBl (eBin wEq (eVar 4) (eC (.int 0)))))) (sRet (eCall P 29 (aCons (eBin wDiv (eVar 3) (eC (.int 9))) (aCons (eVar 2) aNil)))) sPass)
    (w__law_term_t2 P)))
def w__law_term (P : Calls) : WS :=
    (sSeq (sAsg (eC (.int 0)) (gNm 3))
    (sSeq (sIf (tBl (eBin wGt (eBi bLen (aCons (eVar 0) aNil)) (eC (.int 0)))) (sAsg (eMt tyL' mPopAt (eVar 0) (aCons (eC (.int 0)) aNil)) (gNm 3)) sPass)
    (w__law_term_t3 P)))
def w__law_wrapped (P : Calls) : WS :=
    (sSeq (sFor (iR1 (aCons (eBin wMod (eVar 1) (eC (.int 12))) aNil)) (gNm 3)
    (sSeq (sAsg (eBin wMod (eBin wDiv (eVar 1) (eBin wAdd (eC (.int 12)) (eBin wMul (eC (.int 3)) (eVar 3)))) (eC (.int 3))) (gNm 4))
    (sIf (tBl (eBin wEq (eVar 4) (eC (.int 0)))) (sAsg (eTup (aCons (eC (.str "fun")) (aCons (eBin wIdx (eVar 2) (eBin wMod (eBin wDiv (eVar 1) (eBin wAdd (eC (.int 17)) (eVar 3))) (eBi bLen (aCons (eVar 2) aNil)))) (aCons (eVar 0) aNil)))) (gNm 0)) (sIf (tBl (eBin wEq (eVar 4) (eC (.int 1)))) (sAsg (eTup (aCons (eC (.str "call")) (aCons (eVar 0) (aCons (eCall P 29 (aCons (eBin wDiv (eVar 1) (eBin wAdd (eC (.int 19)) (eVar 3))) (aCons (eVar 2) aNil))) aNil)))) (gNm 0)) (sAsg (eTup (aCons (eC (.str "shape")) (aCons (eC (.str "Cons")) (aCons (eTup (aCons (eCall P 29 (aCons (eBin wDiv (eVar 1) (eBin wAdd (eC (.int 23)) (eVar 3))) (aCons (eVar 2) aNil))) (aCons (eVar 0) aNil))) aNil)))) (gNm 0))))))
    (sRet (eVar 0)))
def w_law (P : Calls) : WS :=
    (sSeq (sAsg (eCall P 26 (aCons (eVar 0) (aCons (eC (.int 42)) aNil))) (gNm 1))
    (sSeq (sAsg (eLst (aCons (eCall P 27 (aCons (eMt tyL' mPop (eVar 1) aNil) aNil)) (aCons (eCall P 27 (aCons (eMt tyL' mPop (eVar 1) aNil) aNil)) (aCons (eCall P 27 (aCons (eMt tyL' mPop (eVar 1) aNil) aNil)) aNil)))) (gNm 2))
    (sSeq (sAsg (eMt tyL' mPopAt (eVar 1) (aCons (eC (.int 0)) aNil)) (gNm 3))
    (sSeq (sAsg (eCall P 35 (aCons (eCall P 34 (aCons (eVar 1) (aCons (eC (.int 4)) (aCons (eVar 2) aNil)))) (aCons (eVar 3) (aCons (eVar 2) aNil)))) (gNm 4))
    (sSeq (sAsg (eCall P 0 (aCons (eVar 4) aNil)) (gNm 5))
    (sRet (eAnd (eBin wEq (eCall P 7 (aCons (eVar 5) aNil)) (eVar 4)) (eBin wEq (eCall P 0 (aCons (eCall P 7 (aCons (eVar 5) aNil)) aNil)) (eVar 5)))))))))
abbrev i_show : Nat := 0
abbrev i_pieces_of : Nat := 1
abbrev i_inner_pieces : Nat := 2
abbrev i_fun_pieces : Nat := 3
abbrev i_call_pieces : Nat := 4
abbrev i_bracketed : Nat := 5
abbrev i_is_name : Nat := 6
abbrev i_read : Nat := 7
abbrev i_words_of : Nat := 8
abbrev i_tree_of : Nat := 9
abbrev i_term_of : Nat := 10
abbrev i_word_term : Nat := 11
abbrev i_is_number : Nat := 12
abbrev i_two_terms : Nat := 13
abbrev i_fun_term : Nat := 14
abbrev i_call_term : Nat := 15
abbrev i_let_term : Nat := 16
abbrev i_pair_of : Nat := 17
abbrev i_choose_term : Nat := 18
abbrev i_alternative_of : Nat := 19
abbrev i_stop_term : Nat := 20
abbrev i_rows_term : Nat := 21
abbrev i_step_of : Nat := 22
abbrev i_items_of : Nat := 23
abbrev i_name_of : Nat := 24
abbrev i_refuse_alike : Nat := 25
abbrev i__law_draws : Nat := 26
abbrev i__law_name : Nat := 27
abbrev i__law_unlike : Nat := 28
abbrev i__law_leaf : Nat := 29
abbrev i__law_chosen : Nat := 30
abbrev i__law_rows : Nat := 31
abbrev i__law_joined : Nat := 32
abbrev i__law_many : Nat := 33
abbrev i__law_term : Nat := 34
abbrev i__law_wrapped : Nat := 35
abbrev i_law : Nat := 36
def pr : List Df := [⟨4, 1, w_show⟩, ⟨2, 1, w_pieces_of⟩, ⟨3, 1, w_inner_pieces⟩, ⟨2, 1, w_fun_pieces⟩, ⟨2, 1, w_call_pieces⟩, ⟨3, 1, w_bracketed⟩, ⟨1, 1, w_is_name⟩, ⟨1, 1, w_read⟩, ⟨2, 1, w_words_of⟩, ⟨4, 1, w_tree_of⟩, ⟨3, 1, w_term_of⟩, ⟨1, 1, w_word_term⟩, ⟨1, 1, w_is_number⟩, ⟨1, 1, w_two_terms⟩, ⟨3, 1, w_fun_term⟩, ⟨3, 1, w_call_term⟩, ⟨2, 1, w_let_term⟩, ⟨2, 1, w_pair_of⟩, ⟨2, 1, w_choose_term⟩, ⟨3, 1, w_alternative_of⟩, ⟨1, 1, w_stop_term⟩, ⟨1, 1, w_rows_term⟩, ⟨2, 1, w_step_of⟩, ⟨1, 1, w_items_of⟩, ⟨1, 1, w_name_of⟩, ⟨1, 1, w_refuse_alike⟩, ⟨5, 2, w__law_draws⟩, ⟨5, 1, w__law_name⟩, ⟨7, 3, w__law_unlike⟩, ⟨2, 2, w__law_leaf⟩, ⟨3, 3, w__law_chosen⟩, ⟨6, 3, w__law_rows⟩, ⟨5, 4, w__law_joined⟩, ⟨2, 2, w__law_many⟩, ⟨7, 3, w__law_term⟩, ⟨5, 3, w__law_wrapped⟩, ⟨6, 1, w_law⟩]
theorem u_show {n : Nat} {vs : List T} {C : Hw} {Q : WK} {χ : WX} (hl : vs.length = 1) (h : w_show (wpc pr n) { nx := fun _ C' => Q .non C', rt := Q, xc := χ } (vs.map some ++ List.replicate 3 none) C) : wpc pr (n + 1) 0 vs C Q χ := ⟨_, rfl, hl, h⟩
theorem u_pieces_of {n : Nat} {vs : List T} {C : Hw} {Q : WK} {χ : WX} (hl : vs.length = 1) (h : w_pieces_of (wpc pr n) { nx := fun _ C' => Q .non C', rt := Q, xc := χ } (vs.map some ++ List.replicate 1 none) C) : wpc pr (n + 1) 1 vs C Q χ := ⟨_, rfl, hl, h⟩
theorem u_inner_pieces {n : Nat} {vs : List T} {C : Hw} {Q : WK} {χ : WX} (hl : vs.length = 1) (h : w_inner_pieces (wpc pr n) { nx := fun _ C' => Q .non C', rt := Q, xc := χ } (vs.map some ++ List.replicate 2 none) C) : wpc pr (n + 1) 2 vs C Q χ := ⟨_, rfl, hl, h⟩
theorem u_fun_pieces {n : Nat} {vs : List T} {C : Hw} {Q : WK} {χ : WX} (hl : vs.length = 1) (h : w_fun_pieces (wpc pr n) { nx := fun _ C' => Q .non C', rt := Q, xc := χ } (vs.map some ++ List.replicate 1 none) C) : wpc pr (n + 1) 3 vs C Q χ := ⟨_, rfl, hl, h⟩
theorem u_call_pieces {n : Nat} {vs : List T} {C : Hw} {Q : WK} {χ : WX} (hl : vs.length = 1) (h : w_call_pieces (wpc pr n) { nx := fun _ C' => Q .non C', rt := Q, xc := χ } (vs.map some ++ List.replicate 1 none) C) : wpc pr (n + 1) 4 vs C Q χ := ⟨_, rfl, hl, h⟩
theorem u_bracketed {n : Nat} {vs : List T} {C : Hw} {Q : WK} {χ : WX} (hl : vs.length = 1) (h : w_bracketed (wpc pr n) { nx := fun _ C' => Q .non C', rt := Q, xc := χ } (vs.map some ++ List.replicate 2 none) C) : wpc pr (n + 1) 5 vs C Q χ := ⟨_, rfl, hl, h⟩
theorem u_is_name {n : Nat} {vs : List T} {C : Hw} {Q : WK} {χ : WX} (hl : vs.length = 1) (h : w_is_name (wpc pr n) { nx := fun _ C' => Q .non C', rt := Q, xc := χ } (vs.map some ++ List.replicate 0 none) C) : wpc pr (n + 1) 6 vs C Q χ := ⟨_, rfl, hl, h⟩
theorem u_read {n : Nat} {vs : List T} {C : Hw} {Q : WK} {χ : WX} (hl : vs.length = 1) (h : w_read (wpc pr n) { nx := fun _ C' => Q .non C', rt := Q, xc := χ } (vs.map some ++ List.replicate 0 none) C) : wpc pr (n + 1) 7 vs C Q χ := ⟨_, rfl, hl, h⟩
theorem u_words_of {n : Nat} {vs : List T} {C : Hw} {Q : WK} {χ : WX} (hl : vs.length = 1) (h : w_words_of (wpc pr n) { nx := fun _ C' => Q .non C', rt := Q, xc := χ } (vs.map some ++ List.replicate 1 none) C) : wpc pr (n + 1) 8 vs C Q χ := ⟨_, rfl, hl, h⟩
theorem u_tree_of {n : Nat} {vs : List T} {C : Hw} {Q : WK} {χ : WX} (hl : vs.length = 1) (h : w_tree_of (wpc pr n) { nx := fun _ C' => Q .non C', rt := Q, xc := χ } (vs.map some ++ List.replicate 3 none) C) : wpc pr (n + 1) 9 vs C Q χ := ⟨_, rfl, hl, h⟩
theorem u_term_of {n : Nat} {vs : List T} {C : Hw} {Q : WK} {χ : WX} (hl : vs.length = 1) (h : w_term_of (wpc pr n) { nx := fun _ C' => Q .non C', rt := Q, xc := χ } (vs.map some ++ List.replicate 2 none) C) : wpc pr (n + 1) 10 vs C Q χ := ⟨_, rfl, hl, h⟩
theorem u_word_term {n : Nat} {vs : List T} {C : Hw} {Q : WK} {χ : WX} (hl : vs.length = 1) (h : w_word_term (wpc pr n) { nx := fun _ C' => Q .non C', rt := Q, xc := χ } (vs.map some ++ List.replicate 0 none) C) : wpc pr (n + 1) 11 vs C Q χ := ⟨_, rfl, hl, h⟩
theorem u_is_number {n : Nat} {vs : List T} {C : Hw} {Q : WK} {χ : WX} (hl : vs.length = 1) (h : w_is_number (wpc pr n) { nx := fun _ C' => Q .non C', rt := Q, xc := χ } (vs.map some ++ List.replicate 0 none) C) : wpc pr (n + 1) 12 vs C Q χ := ⟨_, rfl, hl, h⟩
theorem u_two_terms {n : Nat} {vs : List T} {C : Hw} {Q : WK} {χ : WX} (hl : vs.length = 1) (h : w_two_terms (wpc pr n) { nx := fun _ C' => Q .non C', rt := Q, xc := χ } (vs.map some ++ List.replicate 0 none) C) : wpc pr (n + 1) 13 vs C Q χ := ⟨_, rfl, hl, h⟩
theorem u_fun_term {n : Nat} {vs : List T} {C : Hw} {Q : WK} {χ : WX} (hl : vs.length = 1) (h : w_fun_term (wpc pr n) { nx := fun _ C' => Q .non C', rt := Q, xc := χ } (vs.map some ++ List.replicate 2 none) C) : wpc pr (n + 1) 14 vs C Q χ := ⟨_, rfl, hl, h⟩
theorem u_call_term {n : Nat} {vs : List T} {C : Hw} {Q : WK} {χ : WX} (hl : vs.length = 1) (h : w_call_term (wpc pr n) { nx := fun _ C' => Q .non C', rt := Q, xc := χ } (vs.map some ++ List.replicate 2 none) C) : wpc pr (n + 1) 15 vs C Q χ := ⟨_, rfl, hl, h⟩
theorem u_let_term {n : Nat} {vs : List T} {C : Hw} {Q : WK} {χ : WX} (hl : vs.length = 1) (h : w_let_term (wpc pr n) { nx := fun _ C' => Q .non C', rt := Q, xc := χ } (vs.map some ++ List.replicate 1 none) C) : wpc pr (n + 1) 16 vs C Q χ := ⟨_, rfl, hl, h⟩
theorem u_pair_of {n : Nat} {vs : List T} {C : Hw} {Q : WK} {χ : WX} (hl : vs.length = 1) (h : w_pair_of (wpc pr n) { nx := fun _ C' => Q .non C', rt := Q, xc := χ } (vs.map some ++ List.replicate 1 none) C) : wpc pr (n + 1) 17 vs C Q χ := ⟨_, rfl, hl, h⟩
theorem u_choose_term {n : Nat} {vs : List T} {C : Hw} {Q : WK} {χ : WX} (hl : vs.length = 1) (h : w_choose_term (wpc pr n) { nx := fun _ C' => Q .non C', rt := Q, xc := χ } (vs.map some ++ List.replicate 1 none) C) : wpc pr (n + 1) 18 vs C Q χ := ⟨_, rfl, hl, h⟩
theorem u_alternative_of {n : Nat} {vs : List T} {C : Hw} {Q : WK} {χ : WX} (hl : vs.length = 1) (h : w_alternative_of (wpc pr n) { nx := fun _ C' => Q .non C', rt := Q, xc := χ } (vs.map some ++ List.replicate 2 none) C) : wpc pr (n + 1) 19 vs C Q χ := ⟨_, rfl, hl, h⟩
theorem u_stop_term {n : Nat} {vs : List T} {C : Hw} {Q : WK} {χ : WX} (hl : vs.length = 1) (h : w_stop_term (wpc pr n) { nx := fun _ C' => Q .non C', rt := Q, xc := χ } (vs.map some ++ List.replicate 0 none) C) : wpc pr (n + 1) 20 vs C Q χ := ⟨_, rfl, hl, h⟩
theorem u_rows_term {n : Nat} {vs : List T} {C : Hw} {Q : WK} {χ : WX} (hl : vs.length = 1) (h : w_rows_term (wpc pr n) { nx := fun _ C' => Q .non C', rt := Q, xc := χ } (vs.map some ++ List.replicate 0 none) C) : wpc pr (n + 1) 21 vs C Q χ := ⟨_, rfl, hl, h⟩
theorem u_step_of {n : Nat} {vs : List T} {C : Hw} {Q : WK} {χ : WX} (hl : vs.length = 1) (h : w_step_of (wpc pr n) { nx := fun _ C' => Q .non C', rt := Q, xc := χ } (vs.map some ++ List.replicate 1 none) C) : wpc pr (n + 1) 22 vs C Q χ := ⟨_, rfl, hl, h⟩
theorem u_items_of {n : Nat} {vs : List T} {C : Hw} {Q : WK} {χ : WX} (hl : vs.length = 1) (h : w_items_of (wpc pr n) { nx := fun _ C' => Q .non C', rt := Q, xc := χ } (vs.map some ++ List.replicate 0 none) C) : wpc pr (n + 1) 23 vs C Q χ := ⟨_, rfl, hl, h⟩
theorem u_name_of {n : Nat} {vs : List T} {C : Hw} {Q : WK} {χ : WX} (hl : vs.length = 1) (h : w_name_of (wpc pr n) { nx := fun _ C' => Q .non C', rt := Q, xc := χ } (vs.map some ++ List.replicate 0 none) C) : wpc pr (n + 1) 24 vs C Q χ := ⟨_, rfl, hl, h⟩
theorem u_refuse_alike {n : Nat} {vs : List T} {C : Hw} {Q : WK} {χ : WX} (hl : vs.length = 1) (h : w_refuse_alike (wpc pr n) { nx := fun _ C' => Q .non C', rt := Q, xc := χ } (vs.map some ++ List.replicate 0 none) C) : wpc pr (n + 1) 25 vs C Q χ := ⟨_, rfl, hl, h⟩
theorem u__law_draws {n : Nat} {vs : List T} {C : Hw} {Q : WK} {χ : WX} (hl : vs.length = 2) (h : w__law_draws (wpc pr n) { nx := fun _ C' => Q .non C', rt := Q, xc := χ } (vs.map some ++ List.replicate 3 none) C) : wpc pr (n + 1) 26 vs C Q χ := ⟨_, rfl, hl, h⟩
theorem u__law_name {n : Nat} {vs : List T} {C : Hw} {Q : WK} {χ : WX} (hl : vs.length = 1) (h : w__law_name (wpc pr n) { nx := fun _ C' => Q .non C', rt := Q, xc := χ } (vs.map some ++ List.replicate 4 none) C) : wpc pr (n + 1) 27 vs C Q χ := ⟨_, rfl, hl, h⟩
theorem u__law_unlike {n : Nat} {vs : List T} {C : Hw} {Q : WK} {χ : WX} (hl : vs.length = 3) (h : w__law_unlike (wpc pr n) { nx := fun _ C' => Q .non C', rt := Q, xc := χ } (vs.map some ++ List.replicate 4 none) C) : wpc pr (n + 1) 28 vs C Q χ := ⟨_, rfl, hl, h⟩
theorem u__law_leaf {n : Nat} {vs : List T} {C : Hw} {Q : WK} {χ : WX} (hl : vs.length = 2) (h : w__law_leaf (wpc pr n) { nx := fun _ C' => Q .non C', rt := Q, xc := χ } (vs.map some ++ List.replicate 0 none) C) : wpc pr (n + 1) 29 vs C Q χ := ⟨_, rfl, hl, h⟩
theorem u__law_chosen {n : Nat} {vs : List T} {C : Hw} {Q : WK} {χ : WX} (hl : vs.length = 3) (h : w__law_chosen (wpc pr n) { nx := fun _ C' => Q .non C', rt := Q, xc := χ } (vs.map some ++ List.replicate 0 none) C) : wpc pr (n + 1) 30 vs C Q χ := ⟨_, rfl, hl, h⟩
theorem u__law_rows {n : Nat} {vs : List T} {C : Hw} {Q : WK} {χ : WX} (hl : vs.length = 3) (h : w__law_rows (wpc pr n) { nx := fun _ C' => Q .non C', rt := Q, xc := χ } (vs.map some ++ List.replicate 3 none) C) : wpc pr (n + 1) 31 vs C Q χ := ⟨_, rfl, hl, h⟩
theorem u__law_joined {n : Nat} {vs : List T} {C : Hw} {Q : WK} {χ : WX} (hl : vs.length = 4) (h : w__law_joined (wpc pr n) { nx := fun _ C' => Q .non C', rt := Q, xc := χ } (vs.map some ++ List.replicate 1 none) C) : wpc pr (n + 1) 32 vs C Q χ := ⟨_, rfl, hl, h⟩
theorem u__law_many {n : Nat} {vs : List T} {C : Hw} {Q : WK} {χ : WX} (hl : vs.length = 2) (h : w__law_many (wpc pr n) { nx := fun _ C' => Q .non C', rt := Q, xc := χ } (vs.map some ++ List.replicate 0 none) C) : wpc pr (n + 1) 33 vs C Q χ := ⟨_, rfl, hl, h⟩
theorem u__law_term {n : Nat} {vs : List T} {C : Hw} {Q : WK} {χ : WX} (hl : vs.length = 3) (h : w__law_term (wpc pr n) { nx := fun _ C' => Q .non C', rt := Q, xc := χ } (vs.map some ++ List.replicate 4 none) C) : wpc pr (n + 1) 34 vs C Q χ := ⟨_, rfl, hl, h⟩
theorem u__law_wrapped {n : Nat} {vs : List T} {C : Hw} {Q : WK} {χ : WX} (hl : vs.length = 3) (h : w__law_wrapped (wpc pr n) { nx := fun _ C' => Q .non C', rt := Q, xc := χ } (vs.map some ++ List.replicate 2 none) C) : wpc pr (n + 1) 35 vs C Q χ := ⟨_, rfl, hl, h⟩
theorem u_law {n : Nat} {vs : List T} {C : Hw} {Q : WK} {χ : WX} (hl : vs.length = 1) (h : w_law (wpc pr n) { nx := fun _ C' => Q .non C', rt := Q, xc := χ } (vs.map some ++ List.replicate 5 none) C) : wpc pr (n + 1) 36 vs C Q χ := ⟨_, rfl, hl, h⟩
end K17
set_option Elab.async false
set_option linter.all false
set_option maxRecDepth 100000
set_option maxHeartbeats 4000000
namespace K17
open PySem PySem.Spec PyProof.Rows L2 WL
def top (i : Nat) : Stmt := PySem.Challenge.pw_idlegraph_k17_shown_and_read.main.body.getD i (.Pass ⟨0, 0, 0, 0⟩)
structure Txt (w : World) (K : PySem.W.Frag) (mg : Str → Option Value) : Prop where
  n_all : mg "all" = none
  n_int : mg "int" = none
  n_isinstance : mg "isinstance" = none
  n_len : mg "len" = none
  n_list : mg "list" = none
  n_max : mg "max" = none
  n_range : mg "range" = none
  n_reversed : mg "reversed" = none
  n_set : mg "set" = none
  n_str : mg "str" = none
  n_tuple : mg "tuple" = none
  g_FIGURES : Glb K mg "FIGURES" g_FIGURES
  g_LETTERS : Glb K mg "LETTERS" g_LETTERS
  g_WORDS : Glb K mg "WORDS" g_WORDS
  g_OPS : Glb K mg "OPS" g_OPS
  g_SHAPES : GDk w K mg "SHAPES" g_SHAPES
  g_MOST_FIGURES : Glb K mg "MOST_FIGURES" g_MOST_FIGURES
  g_MOST_PAIRS : Glb K mg "MOST_PAIRS" g_MOST_PAIRS
  g_FAMILIES : Glb K mg "FAMILIES" g_FAMILIES
structure Cs (Pg : Program) (w : World) (K : PySem.W.Frag) (mg : Str → Option Value) (base : Heap) (n : Nat) : Prop where
  c_show : Ca Pg w K mg base n "show" ["term"] (spW K pr n 0)
  c_pieces_of : Ca Pg w K mg base n "pieces_of" ["term"] (spW K pr n 1)
  c_inner_pieces : Ca Pg w K mg base n "inner_pieces" ["term"] (spW K pr n 2)
  c_fun_pieces : Ca Pg w K mg base n "fun_pieces" ["term"] (spW K pr n 3)
  c_call_pieces : Ca Pg w K mg base n "call_pieces" ["term"] (spW K pr n 4)
  c_bracketed : Ca Pg w K mg base n "bracketed" ["groups"] (spW K pr n 5)
  c_is_name : Ca Pg w K mg base n "is_name" ["text"] (spW K pr n 6)
  c_read : Ca1 Pg w K mg base n "read" ["text"] (spW K pr n 7)
  c_words_of : Ca1 Pg w K mg base n "words_of" ["text"] (spW K pr n 8)
  c_tree_of : Ca Pg w K mg base n "tree_of" ["words"] (spW K pr n 9)
  c_term_of : Ca Pg w K mg base n "term_of" ["tree"] (spW K pr n 10)
  c_word_term : Ca Pg w K mg base n "word_term" ["word"] (spW K pr n 11)
  c_is_number : Ca Pg w K mg base n "is_number" ["word"] (spW K pr n 12)
  c_two_terms : Ca Pg w K mg base n "two_terms" ["trees"] (spW K pr n 13)
  c_fun_term : Ca Pg w K mg base n "fun_term" ["trees"] (spW K pr n 14)
  c_call_term : Ca Pg w K mg base n "call_term" ["trees"] (spW K pr n 15)
  c_let_term : Ca Pg w K mg base n "let_term" ["trees"] (spW K pr n 16)
  c_pair_of : Ca Pg w K mg base n "pair_of" ["tree"] (spW K pr n 17)
  c_choose_term : Ca Pg w K mg base n "choose_term" ["trees"] (spW K pr n 18)
  c_alternative_of : Ca Pg w K mg base n "alternative_of" ["tree"] (spW K pr n 19)
  c_stop_term : Ca Pg w K mg base n "stop_term" ["trees"] (spW K pr n 20)
  c_rows_term : Ca Pg w K mg base n "rows_term" ["trees"] (spW K pr n 21)
  c_step_of : Ca Pg w K mg base n "step_of" ["tree"] (spW K pr n 22)
  c_items_of : Ca Pg w K mg base n "items_of" ["tree"] (spW K pr n 23)
  c_name_of : Ca Pg w K mg base n "name_of" ["tree"] (spW K pr n 24)
  c_refuse_alike : Ca Pg w K mg base n "refuse_alike" ["names"] (spW K pr n 25)
  c__law_draws : Ca Pg w K mg base n "_law_draws" ["_law_script", "_law_many_here"] (spW K pr n 26)
  c__law_name : Ca Pg w K mg base n "_law_name" ["_law_draw"] (spW K pr n 27)
  c__law_unlike : Ca Pg w K mg base n "_law_unlike" ["_law_draw", "_law_many_here", "_law_pool"] (spW K pr n 28)
  c__law_leaf : Ca Pg w K mg base n "_law_leaf" ["_law_draw", "_law_pool"] (spW K pr n 29)
  c__law_chosen : Ca Pg w K mg base n "_law_chosen" ["_law_draw", "_law_some", "_law_pool"] (spW K pr n 30)
  c__law_rows : Ca Pg w K mg base n "_law_rows" ["_law_draw", "_law_some", "_law_pool"] (spW K pr n 31)
  c__law_joined : Ca Pg w K mg base n "_law_joined" ["_law_sort", "_law_draw", "_law_some", "_law_pool"] (spW K pr n 32)
  c__law_many : Ca Pg w K mg base n "_law_many" ["_law_sort", "_law_draw"] (spW K pr n 33)
  c__law_term : Ca Pg w K mg base n "_law_term" ["_law_draws_here", "_law_deep", "_law_pool"] (spW K pr n 34)
  c__law_wrapped : Ca Pg w K mg base n "_law_wrapped" ["_law_term_here", "_law_draw", "_law_pool"] (spW K pr n 35)
  c_law : Ca Pg w K mg base n "law" ["_law_script"] (spW K pr n 36)
section
variable {Pg : Program} {w : World} {K : PySem.W.Frag} {mg : Str → Option Value} {base : Heap} {f : Addr} {fd : FuncData} {n : Nat}
abbrev st_show : Stmt := top 1
theorem sc_show : FnScope ["term", "words", "pile", "piece"] ["term"] (defScope st_show) := ⟨rfl, rfl, rfl, by decide +kernel, rfl, by decide +kernel, by decide +kernel⟩
theorem ok_show (T : Txt w K mg) (S : Cs Pg w K mg base n) (F : Fun K "show" "show" st_show f fd) : FnOk Pg w K mg base CX0 (n + 1) f fd ["term"] (spW K pr (n + 1) 0) := fn_okQ F sc_show rfl rfl rfl fun cdv A outer s H E hr => by
    have nd := sc_show.nd
    have hu := hu150 hr
    show SdB _ (defBody st_show) (w_show (wpc pr n))
    unfold w_show w_show_t1
    exact (db_cons (ds_set (i := 1) nd (d_lst da_nil))
      (db_cons (ds_set (i := 2) nd (d_lst (da_cons (d_var 0) da_nil)))
      (db_cons (ds_while PassesOwn.never (dt_cmp (o_ne hu) (d_var 2) (d_lst da_nil) (nomark _))
      (db_cons (ds_set (i := 3) nd (d_mt0 PySem.F.plainAttrs_list PySem.F.slot_list_pop PySem.F.type_list_pop ty_list m_pop (d_var 2)))
      (db_one (ds_if (dt_tru (d_isi (by rfl) T.n_isinstance (by rfl) T.n_str bt_str (by decide) (d_var 3))) (db_one (ds_expr (d_mt PySem.F.plainAttrs_list PySem.F.slot_list_append PySem.F.type_list_append ty_list m_append (d_var 1) (da_cons (d_var 3) da_nil)))) (db_one (ds_expr (d_mt PySem.F.plainAttrs_list PySem.F.slot_list_extend PySem.F.type_list_extend ty_list m_extend (d_var 2) (da_cons (d_lrev rfl (by rfl) T.n_list (by rfl) T.n_reversed (d_call S.c_pieces_of hr (by rfl) (da_cons (d_var 3) da_nil))) da_nil))))))))
      (db_one (ds_ret (d_ofP (dp_replace (dp_replace (dp_join (d_var 1)) (by decide +kernel) (by decide +kernel)) (by decide +kernel) (by decide +kernel))))))))
abbrev st_pieces_of : Stmt := top 2
theorem sc_pieces_of : FnScope ["term", "sort"] ["term"] (defScope st_pieces_of) := ⟨rfl, rfl, rfl, by decide +kernel, rfl, by decide +kernel, by decide +kernel⟩
theorem ok_pieces_of (T : Txt w K mg) (S : Cs Pg w K mg base n) (F : Fun K "pieces_of" "pieces_of" st_pieces_of f fd) : FnOk Pg w K mg base CX0 (n + 1) f fd ["term"] (spW K pr (n + 1) 1) := fn_okQ F sc_pieces_of rfl rfl rfl fun cdv A outer s H E hr => by
    have nd := sc_pieces_of.nd
    have hu := hu150 hr
    show SdB _ (defBody st_pieces_of) (w_pieces_of (wpc pr n))
    unfold w_pieces_of
    exact (db_cons (ds_set (i := 1) nd (d_ix (d_var 0) d_int (fun _ _ => rfl)))
      (db_cons (ds_if (dt_cmp (o_eq hu) (d_var 1) d_str (nomark _)) (db_one (ds_ret (d_lst (da_cons (d_ix (d_var 0) d_int (fun _ _ => rfl)) da_nil)))) db_nil)
      (db_cons (ds_if (dt_cmp (o_eq hu) (d_var 1) d_str (nomark _)) (db_one (ds_ret (d_lst (da_cons (d_ty b_str2 (by rfl) T.n_str bt_str (da_cons (d_ix (d_var 0) d_int (fun _ _ => rfl)) da_nil)) da_nil)))) db_nil)
      (db_cons (ds_if (dt_w (dw_and (dt_cmp (o_eq hu) (d_var 1) d_str (nomark _)) (dw_and1 (dt_cmp (o_eq hu) (d_ix (d_var 0) d_int (fun _ _ => rfl)) (d_tup da_nil) (nomark _))))) (db_one (ds_ret (d_lst (da_cons (d_ix (d_var 0) d_int (fun _ _ => rfl)) da_nil)))) db_nil)
      (db_one (ds_ret (d_op o_add (d_op o_add (d_lst (da_cons d_str da_nil)) (d_call S.c_inner_pieces hr (by rfl) (da_cons (d_var 0) da_nil))) (d_lst (da_cons d_str da_nil)))))))))
abbrev st_inner_pieces : Stmt := top 3
theorem sc_inner_pieces : FnScope ["term", "sort", "alternatives"] ["term"] (defScope st_inner_pieces) := ⟨rfl, rfl, rfl, by decide +kernel, rfl, by decide +kernel, by decide +kernel⟩
theorem ok_inner_pieces (T : Txt w K mg) (S : Cs Pg w K mg base n) (F : Fun K "inner_pieces" "inner_pieces" st_inner_pieces f fd) : FnOk Pg w K mg base CX0 (n + 1) f fd ["term"] (spW K pr (n + 1) 2) := fn_okQ F sc_inner_pieces rfl rfl rfl fun cdv A outer s H E hr => by
    have nd := sc_inner_pieces.nd
    have hu := hu150 hr
    show SdB _ (defBody st_inner_pieces) (w_inner_pieces (wpc pr n))
    unfold w_inner_pieces
    exact (db_cons (ds_set (i := 1) nd (d_ix (d_var 0) d_int (fun _ _ => rfl)))
      (db_cons (ds_if (dt_cmp (o_eq hu) (d_var 1) d_str (nomark _)) (db_one (ds_ret (d_lst (da_cons (d_ix (d_var 0) d_int (fun _ _ => rfl)) (da_cons (d_ix (d_var 0) d_int (fun _ _ => rfl)) (da_cons (d_ix (d_var 0) d_int (fun _ _ => rfl)) da_nil)))))) db_nil)
      (db_cons (ds_if (dt_cmp (o_eq hu) (d_var 1) d_str (nomark _)) (db_one (ds_ret (d_call S.c_fun_pieces hr (by rfl) (da_cons (d_var 0) da_nil)))) db_nil)
      (db_cons (ds_if (dt_cmp (o_eq hu) (d_var 1) d_str (nomark _)) (db_one (ds_ret (d_call S.c_call_pieces hr (by rfl) (da_cons (d_var 0) da_nil)))) db_nil)
      (db_cons (ds_if (dt_cmp (o_eq hu) (d_var 1) d_str (nomark _)) (db_one (ds_ret (d_op o_add (d_op o_add (d_lst (da_cons d_str da_nil)) (d_call S.c_bracketed hr (by rfl) (da_cons (d_comp (cN := ["name", "part"]) (cap := [none, none]) (cl := []) (js := ([0] ++ ([1] ++ []))) (g := (gTup _ 2 (gCons (gName 0) (gCons (gName 1) gNil)))) ⟨rfl, (fun _ => compOk0 rfl (by decide +kernel) (by decide +kernel) rfl (by decide)), (di_seq (d_ix (d_var 0) d_int (fun _ _ => rfl))), (fun _ _ _ => pg_tup (n := 2) rfl (pgs_cons (pg_name (i := 0) (show (["name", "part"] : List Str).Nodup by decide +kernel) rfl (Or.inl rfl)) (pgs_cons (pg_name (i := 1) (show (["name", "part"] : List Str).Nodup by decide +kernel) rfl (Or.inl rfl)) pgs_nil))), (gm_tup (gm_cons gm_name (gm_cons gm_name gm_nil))), (gk_tup (gk_cons gk_name gm_name (gk_cons gk_name gm_name gk_nil gm_nil) (gm_cons gm_name gm_nil))), (sg_tup (sg_cons sg_name (sg_cons sg_name sg_nil)) (gl_cons1 (gl_cons1 gl_nil))), by decide +kernel, fun _ _ _ => dif_nil, fun _ _ _ => (d_lst (da_cons (d_var 0) (da_cons (d_var 1) da_nil))), fun _ => rfl⟩) da_nil))) (d_lst (da_cons (d_ix (d_var 0) d_int (fun _ _ => rfl)) da_nil))))) db_nil)
      (db_cons (ds_if (dt_cmp (o_eq hu) (d_var 1) d_str (nomark _)) (db_one (ds_ret (d_op o_add (d_lst (da_cons (d_ix (d_var 0) d_int (fun _ _ => rfl)) da_nil)) (d_ty b_list (by rfl) T.n_list bt_list (da_cons (d_ix (d_var 0) d_int (fun _ _ => rfl)) da_nil))))) db_nil)
      (db_cons (ds_if (dt_cmp (o_eq hu) (d_var 1) d_str (nomark _)) (db_cons (ds_setComp (k := 2) (cN := ["shape", "names", "body"]) (cap := [none, none, none]) (cl := []) (js := ([0] ++ ([1] ++ ([2] ++ [])))) (g := (gTup _ 3 (gCons (gName 0) (gCons (gName 1) (gCons (gName 2) gNil))))) nd rfl rfl rfl  ⟨rfl, (fun _ => compOk0 rfl (by decide +kernel) (by decide +kernel) rfl (by decide)), (di_seq (d_ix (d_var 0) d_int (fun _ _ => rfl))), (fun _ _ _ => pg_tup (n := 3) rfl (pgs_cons (pg_name (i := 0) (show (["shape", "names", "body"] : List Str).Nodup by decide +kernel) rfl (Or.inl rfl)) (pgs_cons (pg_name (i := 1) (show (["shape", "names", "body"] : List Str).Nodup by decide +kernel) rfl (Or.inl rfl)) (pgs_cons (pg_name (i := 2) (show (["shape", "names", "body"] : List Str).Nodup by decide +kernel) rfl (Or.inl rfl)) pgs_nil)))), (gm_tup (gm_cons gm_name (gm_cons gm_name (gm_cons gm_name gm_nil)))), (gk_tup (gk_cons gk_name gm_name (gk_cons gk_name gm_name (gk_cons gk_name gm_name gk_nil gm_nil) (gm_cons gm_name gm_nil)) (gm_cons gm_name (gm_cons gm_name gm_nil)))), (sg_tup (sg_cons sg_name (sg_cons sg_name (sg_cons sg_name sg_nil))) (gl_cons1 (gl_cons1 (gl_cons1 gl_nil)))), by decide +kernel, fun _ _ _ => dif_nil, fun _ _ _ => (d_op o_add (d_op o_add (d_lst (da_cons (d_var 0) da_nil)) (d_ty b_list (by rfl) T.n_list bt_list (da_cons (d_var 1) da_nil))) (d_lst (da_cons (d_var 2) da_nil))), fun _ => rfl⟩)
      (db_one (ds_ret (d_op o_add (d_lst (da_cons d_str (da_cons (d_ix (d_var 0) d_int (fun _ _ => rfl)) da_nil))) (d_call S.c_bracketed hr (by rfl) (da_cons (d_var 2) da_nil)))))) db_nil)
      (db_cons (ds_if (dt_cmp (o_eq hu) (d_var 1) d_str (nomark _)) (db_one (ds_ret (d_op o_add (d_lst (da_cons d_str (da_cons (d_ix (d_var 0) d_int (fun _ _ => rfl)) da_nil))) (d_call S.c_bracketed hr (by rfl) (da_cons (d_comp (cN := ["step"]) (cap := [none]) (cl := []) (js := [0]) (g := (gName 0)) ⟨rfl, (fun _ => compOk0 rfl (by decide +kernel) (by decide +kernel) rfl (by decide)), (di_seq (d_ix (d_var 0) d_int (fun _ _ => rfl))), (fun _ _ _ => pg_name (i := 0) (show (["step"] : List Str).Nodup by decide +kernel) rfl (Or.inl rfl)), gm_name, gk_name, sg_name, by decide +kernel, fun _ _ _ => dif_nil, fun _ _ _ => (d_ty b_list (by rfl) T.n_list bt_list (da_cons (d_var 0) da_nil)), fun _ => rfl⟩) da_nil))))) db_nil)
      (db_one (ds_ret (d_ty b_list (by rfl) T.n_list bt_list (da_cons (d_var 0) da_nil))))))))))))
abbrev st_fun_pieces : Stmt := top 4
theorem sc_fun_pieces : FnScope ["term", "pieces"] ["term"] (defScope st_fun_pieces) := ⟨rfl, rfl, rfl, by decide +kernel, rfl, by decide +kernel, by decide +kernel⟩
theorem ok_fun_pieces (T : Txt w K mg) (S : Cs Pg w K mg base n) (F : Fun K "fun_pieces" "fun_pieces" st_fun_pieces f fd) : FnOk Pg w K mg base CX0 (n + 1) f fd ["term"] (spW K pr (n + 1) 3) := fn_okQ F sc_fun_pieces rfl rfl rfl fun cdv A outer s H E hr => by
    have nd := sc_fun_pieces.nd
    have hu := hu150 hr
    show SdB _ (defBody st_fun_pieces) (w_fun_pieces (wpc pr n))
    unfold w_fun_pieces w_fun_pieces_t1
    exact (db_cons (ds_set (i := 1) nd (d_lst (da_cons d_str da_nil)))
      (db_cons (ds_while PassesOwn.never (dt_cmp (o_eq hu) (d_ix (d_var 0) d_int (fun _ _ => rfl)) d_str (nomark _))
      (db_cons (ds_expr (d_mt PySem.F.plainAttrs_list PySem.F.slot_list_append PySem.F.type_list_append ty_list m_append (d_var 1) (da_cons (d_ix (d_var 0) d_int (fun _ _ => rfl)) da_nil)))
      (db_one (ds_set (i := 0) nd (d_ix (d_var 0) d_int (fun _ _ => rfl))))))
      (db_one (ds_ret (d_op o_add (d_var 1) (d_lst (da_cons (d_var 0) da_nil)))))))
abbrev st_call_pieces : Stmt := top 5
theorem sc_call_pieces : FnScope ["term", "given"] ["term"] (defScope st_call_pieces) := ⟨rfl, rfl, rfl, by decide +kernel, rfl, by decide +kernel, by decide +kernel⟩
theorem ok_call_pieces (T : Txt w K mg) (S : Cs Pg w K mg base n) (F : Fun K "call_pieces" "call_pieces" st_call_pieces f fd) : FnOk Pg w K mg base CX0 (n + 1) f fd ["term"] (spW K pr (n + 1) 4) := fn_okQ F sc_call_pieces rfl rfl rfl fun cdv A outer s H E hr => by
    have nd := sc_call_pieces.nd
    have hu := hu150 hr
    show SdB _ (defBody st_call_pieces) (w_call_pieces (wpc pr n))
    unfold w_call_pieces w_call_pieces_t1
    exact (db_cons (ds_set (i := 1) nd (d_lst da_nil))
      (db_cons (ds_while PassesOwn.never (dt_cmp (o_eq hu) (d_ix (d_var 0) d_int (fun _ _ => rfl)) d_str (nomark _))
      (db_cons (ds_expr (d_mt PySem.F.plainAttrs_list PySem.F.slot_list_append PySem.F.type_list_append ty_list m_append (d_var 1) (da_cons (d_ix (d_var 0) d_int (fun _ _ => rfl)) da_nil)))
      (db_one (ds_set (i := 0) nd (d_ix (d_var 0) d_int (fun _ _ => rfl))))))
      (db_one (ds_ret (d_op o_add (d_lst (da_cons (d_var 0) da_nil)) (d_lrev rfl (by rfl) T.n_list (by rfl) T.n_reversed (d_var 1)))))))
abbrev st_bracketed : Stmt := top 6
theorem sc_bracketed : FnScope ["groups", "pieces", "group"] ["groups"] (defScope st_bracketed) := ⟨rfl, rfl, rfl, by decide +kernel, rfl, by decide +kernel, by decide +kernel⟩
theorem ok_bracketed (T : Txt w K mg) (S : Cs Pg w K mg base n) (F : Fun K "bracketed" "bracketed" st_bracketed f fd) : FnOk Pg w K mg base CX0 (n + 1) f fd ["groups"] (spW K pr (n + 1) 5) := fn_okQ F sc_bracketed rfl rfl rfl fun cdv A outer s H E hr => by
    have nd := sc_bracketed.nd
    have hu := hu150 hr
    show SdB _ (defBody st_bracketed) (w_bracketed (wpc pr n))
    unfold w_bracketed
    exact (db_cons (ds_set (i := 1) nd (d_lst da_nil))
      (db_cons (ds_for PassesOwn.never rfl (di_seq (d_var 0)) (dg_name (i := 2) nd)
      (db_one (ds_expr (d_mt PySem.F.plainAttrs_list PySem.F.slot_list_extend PySem.F.type_list_extend ty_list m_extend (d_var 1) (da_cons (d_op o_add (d_op o_add (d_lst (da_cons d_str da_nil)) (d_var 2)) (d_lst (da_cons d_str da_nil))) da_nil)))))
      (db_one (ds_ret (d_var 1)))))
abbrev st_is_name : Stmt := top 17
theorem sc_is_name : FnScope ["text"] ["text"] (defScope st_is_name) := ⟨rfl, rfl, rfl, by decide +kernel, rfl, by decide +kernel, by decide +kernel⟩
theorem ok_is_name (T : Txt w K mg) (S : Cs Pg w K mg base n) (F : Fun K "is_name" "is_name" st_is_name f fd) : FnOk Pg w K mg base CX0 (n + 1) f fd ["text"] (spW K pr (n + 1) 6) := fn_okQ F sc_is_name rfl rfl rfl fun cdv A outer s H E hr => by
    have nd := sc_is_name.nd
    have hu := hu150 hr
    show SdB _ (defBody st_is_name) (w_is_name (wpc pr n))
    unfold w_is_name
    exact (db_cons (ds_if (dt_w (dw_or (dt_cmp o_lt (d_bi b_len (by rfl) T.n_len PySem.boot_len (da_cons (d_var 0) da_nil)) d_int (nomark _)) (dw_or1 (dt_cmp o_gt (d_bi b_len (by rfl) T.n_len PySem.boot_len (da_cons (d_var 0) da_nil)) d_int (nomark _))))) (db_one (ds_ret d_bl)) db_nil)
      (db_cons (ds_if (dt_w (dw_or (dt_cmp (o_notIn hu) (d_ix (d_var 0) d_int (fun _ _ => rfl)) (d_gl (by rfl) T.g_LETTERS) (by rfl)) (dw_or1 (dt_cmp (o_in hu) (d_var 0) (d_gl (by rfl) T.g_WORDS) (by rfl))))) (db_one (ds_ret d_bl)) db_nil)
      (db_one (ds_ret (d_bi (b_all rfl) (by rfl) T.n_all bt_all (da_cons (d_comp (cN := ["sign"]) (cap := [none]) (cl := []) (js := [0]) (g := (gName 0)) ⟨rfl, (fun _ => compOk0 rfl (by decide +kernel) (by decide +kernel) rfl (by decide)), (di_seq (d_var 0)), (fun _ _ _ => pg_name (i := 0) (show (["sign"] : List Str).Nodup by decide +kernel) rfl (Or.inl rfl)), gm_name, gk_name, sg_name, by decide +kernel, fun _ _ _ => dif_nil, fun _ _ _ => (d_or (d_cmp (o_in hu) (d_var 0) (d_gl (by rfl) T.g_LETTERS) (by rfl)) (d_one (d_cmp (o_in hu) (d_var 0) (d_gl (by rfl) T.g_FIGURES) (by rfl)))), fun _ => rfl⟩) da_nil))))))
abbrev st_read : Stmt := top 21
theorem sc_read : FnScope ["text"] ["text"] (defScope st_read) := ⟨rfl, rfl, rfl, by decide +kernel, rfl, by decide +kernel, by decide +kernel⟩
theorem ok_read (T : Txt w K mg) (S : Cs Pg w K mg base n) (F : Fun K "read" "read" st_read f fd) : FnOk1 Pg w K mg base (n + 1) f fd ["text"] (spW K pr (n + 1) 7) := fn_ok1 F sc_read rfl rfl rfl fun cdv A outer s H E hr => by
    have nd := sc_read.nd
    have hu := hu150 hr
    show SdB1 _ (defBody st_read) (w_read (wpc pr n))
    unfold w_read
    exact (db1_cons (SdS.one (ds_if (dt_not (dt_tru (d_isi (by rfl) T.n_isinstance (by rfl) T.n_str bt_str (by decide) (d_var 0)))) (db_one ds_never) db_nil))
      (db1_one (ds1_ret (d1_call (Ca.one S.c_term_of) hr (by rfl) (da1_cons (d1_call (Ca.one S.c_tree_of) hr (by rfl) (da1_cons (d1_call S.c_words_of hr (by rfl) (SdA.one (da_cons (d_var 0) da_nil))) da_nil)) da_nil)))))
abbrev st_words_of : Stmt := top 22
theorem sc_words_of : FnScope ["text", "apart"] ["text"] (defScope st_words_of) := ⟨rfl, rfl, rfl, by decide +kernel, rfl, by decide +kernel, by decide +kernel⟩
theorem ok_words_of (T : Txt w K mg) (S : Cs Pg w K mg base n) (F : Fun K "words_of" "words_of" st_words_of f fd) : FnOk1 Pg w K mg base (n + 1) f fd ["text"] (spW K pr (n + 1) 8) := fn_ok1 F sc_words_of rfl rfl rfl fun cdv A outer s H E hr => by
    have nd := sc_words_of.nd
    have hu := hu150 hr
    show SdB1 _ (defBody st_words_of) (w_words_of (wpc pr n))
    unfold w_words_of
    exact (db1_cons (ds1_set (i := 1) nd (d1_replace (d1_replace (d1_replace (SdE.one (d_var 0)) (by decide +kernel) (by decide +kernel)) (by decide +kernel) (by decide +kernel)) (by decide +kernel) (by decide +kernel)))
      (db1_one (SdS.one (ds_ret (d_comp (cN := ["word"]) (cap := [none]) (cl := []) (js := [0]) (g := (gName 0)) ⟨rfl, (fun _ => compOk0 rfl (by decide +kernel) (by decide +kernel) rfl (by decide)), (di_seq (d_mt PySem.F.plainAttrs_str PySem.F.slot_str_split PySem.F.type_str_split ty_str m_split (d_var 1) (da_cons d_str da_nil))), (fun _ _ _ => pg_name (i := 0) (show (["word"] : List Str).Nodup by decide +kernel) rfl (Or.inl rfl)), gm_name, gk_name, sg_name, by decide +kernel, fun _ _ _ => (dif_one (dt_cmp (o_ne hu) (d_var 0) d_str (nomark _))), fun _ _ _ => (d_var 0), fun _ => rfl⟩)))))
abbrev st_tree_of : Stmt := top 23
theorem sc_tree_of : FnScope ["words", "pile", "word", "inner"] ["words"] (defScope st_tree_of) := ⟨rfl, rfl, rfl, by decide +kernel, rfl, by decide +kernel, by decide +kernel⟩
theorem ok_tree_of (T : Txt w K mg) (S : Cs Pg w K mg base n) (F : Fun K "tree_of" "tree_of" st_tree_of f fd) : FnOk Pg w K mg base CX0 (n + 1) f fd ["words"] (spW K pr (n + 1) 9) := fn_okQ F sc_tree_of rfl rfl rfl fun cdv A outer s H E hr => by
    have nd := sc_tree_of.nd
    have hu := hu150 hr
    show SdB _ (defBody st_tree_of) (w_tree_of (wpc pr n))
    unfold w_tree_of w_tree_of_t3 w_tree_of_t2 w_tree_of_t1
    exact (db_cons (ds_set (i := 1) nd (d_lst (da_cons (d_lst da_nil) da_nil)))
      (db_cons (ds_for PassesOwn.never rfl (di_seq (d_var 0)) (dg_name (i := 2) nd)
      (db_one (ds_if (dt_cmp (o_eq hu) (d_var 2) d_str (nomark _)) (db_one (ds_expr (d_mt PySem.F.plainAttrs_list PySem.F.slot_list_append PySem.F.type_list_append ty_list m_append (d_var 1) (da_cons (d_lst da_nil) da_nil)))) (db_one (ds_if (dt_cmp (o_ne hu) (d_var 2) d_str (nomark _)) (db_one (ds_expr (d_mt PySem.F.plainAttrs_list PySem.F.slot_list_append PySem.F.type_list_append ty_list m_append (d_ix (d_var 1) (d_neg d_int) (fun _ _ => rfl)) (da_cons (d_var 2) da_nil)))) (db_one (ds_if (dt_cmp o_gt (d_bi b_len (by rfl) T.n_len PySem.boot_len (da_cons (d_var 1) da_nil)) d_int (nomark _)) (db_cons (ds_set (i := 3) nd (d_mt0 PySem.F.plainAttrs_list PySem.F.slot_list_pop PySem.F.type_list_pop ty_list m_pop (d_var 1)))
      (db_one (ds_expr (d_mt PySem.F.plainAttrs_list PySem.F.slot_list_append PySem.F.type_list_append ty_list m_append (d_ix (d_var 1) (d_neg d_int) (fun _ _ => rfl)) (da_cons (d_var 3) da_nil))))) (db_one ds_never))))))))
      (db_cons (ds_if (dt_cmp o_gt (d_bi b_len (by rfl) T.n_len PySem.boot_len (da_cons (d_var 1) da_nil)) d_int (nomark _)) (db_one ds_never) db_nil)
      (db_cons (ds_if (dt_cmp (o_ne hu) (d_bi b_len (by rfl) T.n_len PySem.boot_len (da_cons (d_ix (d_var 1) d_int (fun _ _ => rfl)) da_nil)) d_int (nomark _)) (db_one ds_never) db_nil)
      (db_one (ds_ret (d_ix (d_ix (d_var 1) d_int (fun _ _ => rfl)) d_int (fun _ _ => rfl))))))))
abbrev st_term_of : Stmt := top 24
theorem sc_term_of : FnScope ["tree", "head", "rest"] ["tree"] (defScope st_term_of) := ⟨rfl, rfl, rfl, by decide +kernel, rfl, by decide +kernel, by decide +kernel⟩
theorem ok_term_of (T : Txt w K mg) (S : Cs Pg w K mg base n) (F : Fun K "term_of" "term_of" st_term_of f fd) : FnOk Pg w K mg base CX0 (n + 1) f fd ["tree"] (spW K pr (n + 1) 10) := fn_okQ F sc_term_of rfl rfl rfl fun cdv A outer s H E hr => by
    have nd := sc_term_of.nd
    have hu := hu150 hr
    show SdB _ (defBody st_term_of) (w_term_of (wpc pr n))
    unfold w_term_of w_term_of_t10 w_term_of_t9 w_term_of_t8 w_term_of_t7 w_term_of_t6 w_term_of_t5 w_term_of_t4 w_term_of_t3 w_term_of_t2 w_term_of_t1
    exact (db_cons (ds_if (dt_tru (d_isi (by rfl) T.n_isinstance (by rfl) T.n_str bt_str (by decide) (d_var 0))) (db_one (ds_ret (d_call S.c_word_term hr (by rfl) (da_cons (d_var 0) da_nil)))) db_nil)
      (db_cons (ds_if (dt_cmp (o_eq hu) (d_var 0) (d_lst da_nil) (nomark _)) (db_one ds_never) db_nil)
      (db_cons (ds_set (i := 1) nd (d_ix (d_var 0) d_int (fun _ _ => rfl)))
      (db_cons (ds_set (i := 2) nd (d_sl (d_var 0) (do_some d_int) do_none))
      (db_cons (ds_if (dt_cmp (o_inR hu) (d_var 1) (d_gl (by rfl) T.g_OPS) (by rfl)) (db_one (ds_ret (d_op o_add (d_tup (da_cons d_str (da_cons (d_var 1) da_nil))) (d_call S.c_two_terms hr (by rfl) (da_cons (d_var 2) da_nil))))) db_nil)
      (db_cons (ds_if (dt_cmp (o_eq hu) (d_var 1) d_str (nomark _)) (db_one (ds_ret (d_call S.c_fun_term hr (by rfl) (da_cons (d_var 2) da_nil)))) db_nil)
      (db_cons (ds_if (dt_cmp (o_eq hu) (d_var 1) d_str (nomark _)) (db_one (ds_ret (d_call S.c_let_term hr (by rfl) (da_cons (d_var 2) da_nil)))) db_nil)
      (db_cons (ds_if (dt_cmp (o_eq hu) (d_var 1) d_str (nomark _)) (db_one (ds_ret (d_call S.c_choose_term hr (by rfl) (da_cons (d_var 2) da_nil)))) db_nil)
      (db_cons (ds_if (dt_cmp (o_eq hu) (d_var 1) d_str (nomark _)) (db_one (ds_ret (d_op o_add (d_tup (da_cons d_str da_nil)) (d_call S.c_two_terms hr (by rfl) (da_cons (d_var 2) da_nil))))) db_nil)
      (db_cons (ds_if (dt_cmp (o_eq hu) (d_var 1) d_str (nomark _)) (db_one (ds_ret (d_call S.c_stop_term hr (by rfl) (da_cons (d_var 2) da_nil)))) db_nil)
      (db_cons (ds_if (dt_cmp (o_eq hu) (d_var 1) d_str (nomark _)) (db_one (ds_ret (d_call S.c_rows_term hr (by rfl) (da_cons (d_var 2) da_nil)))) db_nil)
      (db_cons (ds_if (dt_w (dw_or (dt_cmp (o_eq hu) (d_var 1) d_str (nomark _)) (dw_or1 (dt_cmp (o_eq hu) (d_var 1) d_str (nomark _))))) (db_one (ds_ret (d_tup (da_cons d_str (da_cons (d_var 1) (da_cons (d_call S.c_two_terms hr (by rfl) (da_cons (d_var 2) da_nil)) da_nil)))))) db_nil)
      (db_one (ds_ret (d_call S.c_call_term hr (by rfl) (da_cons (d_var 0) da_nil))))))))))))))))
abbrev st_word_term : Stmt := top 25
theorem sc_word_term : FnScope ["word"] ["word"] (defScope st_word_term) := ⟨rfl, rfl, rfl, by decide +kernel, rfl, by decide +kernel, by decide +kernel⟩
theorem ok_word_term (T : Txt w K mg) (S : Cs Pg w K mg base n) (F : Fun K "word_term" "word_term" st_word_term f fd) : FnOk Pg w K mg base CX0 (n + 1) f fd ["word"] (spW K pr (n + 1) 11) := fn_okQ F sc_word_term rfl rfl rfl fun cdv A outer s H E hr => by
    have nd := sc_word_term.nd
    have hu := hu150 hr
    show SdB _ (defBody st_word_term) (w_word_term (wpc pr n))
    unfold w_word_term w_word_term_t3 w_word_term_t2 w_word_term_t1
    exact (db_cons (ds_if (dt_tru (d_call S.c_is_name hr (by rfl) (da_cons (d_var 0) da_nil))) (db_one (ds_ret (d_tup (da_cons d_str (da_cons (d_var 0) da_nil))))) db_nil)
      (db_cons (ds_if (dt_tru (d_call S.c_is_number hr (by rfl) (da_cons (d_var 0) da_nil))) (db_one (ds_ret (d_tup (da_cons d_str (da_cons (d_ty b_intT (by rfl) T.n_int bt_int (da_cons (d_var 0) da_nil)) da_nil))))) db_nil)
      (db_cons (ds_if (dt_cmp (o_eq hu) (d_gcget (by rfl) T.g_SHAPES (d_var 0) ⟨rfl, rfl, rfl, rfl⟩) d_int (nomark _)) (db_one (ds_ret (d_tup (da_cons d_str (da_cons (d_var 0) (da_cons (d_tup da_nil) da_nil)))))) db_nil)
      (db_one ds_never))))
abbrev st_is_number : Stmt := top 26
theorem sc_is_number : FnScope ["word"] ["word"] (defScope st_is_number) := ⟨rfl, rfl, rfl, by decide +kernel, rfl, by decide +kernel, by decide +kernel⟩
theorem ok_is_number (T : Txt w K mg) (S : Cs Pg w K mg base n) (F : Fun K "is_number" "is_number" st_is_number f fd) : FnOk Pg w K mg base CX0 (n + 1) f fd ["word"] (spW K pr (n + 1) 12) := fn_okQ F sc_is_number rfl rfl rfl fun cdv A outer s H E hr => by
    have nd := sc_is_number.nd
    have hu := hu150 hr
    show SdB _ (defBody st_is_number) (w_is_number (wpc pr n))
    unfold w_is_number
    exact (db_cons (ds_if (dt_w (dw_or (dt_cmp o_lt (d_bi b_len (by rfl) T.n_len PySem.boot_len (da_cons (d_var 0) da_nil)) d_int (nomark _)) (dw_or1 (dt_cmp o_gt (d_bi b_len (by rfl) T.n_len PySem.boot_len (da_cons (d_var 0) da_nil)) (d_gl (by rfl) T.g_MOST_FIGURES) (nomark _))))) (db_one (ds_ret d_bl)) db_nil)
      (db_cons (ds_if (dt_w (dw_and (dt_cmp (o_eq hu) (d_ix (d_var 0) d_int (fun _ _ => rfl)) d_str (nomark _)) (dw_and1 (dt_cmp (o_ne hu) (d_var 0) d_str (nomark _))))) (db_one (ds_ret d_bl)) db_nil)
      (db_one (ds_ret (d_bi (b_all rfl) (by rfl) T.n_all bt_all (da_cons (d_comp (cN := ["sign"]) (cap := [none]) (cl := []) (js := [0]) (g := (gName 0)) ⟨rfl, (fun _ => compOk0 rfl (by decide +kernel) (by decide +kernel) rfl (by decide)), (di_seq (d_var 0)), (fun _ _ _ => pg_name (i := 0) (show (["sign"] : List Str).Nodup by decide +kernel) rfl (Or.inl rfl)), gm_name, gk_name, sg_name, by decide +kernel, fun _ _ _ => dif_nil, fun _ _ _ => (d_cmp (o_in hu) (d_var 0) (d_gl (by rfl) T.g_FIGURES) (by rfl)), fun _ => rfl⟩) da_nil))))))
abbrev st_two_terms : Stmt := top 27
theorem sc_two_terms : FnScope ["trees"] ["trees"] (defScope st_two_terms) := ⟨rfl, rfl, rfl, by decide +kernel, rfl, by decide +kernel, by decide +kernel⟩
theorem ok_two_terms (T : Txt w K mg) (S : Cs Pg w K mg base n) (F : Fun K "two_terms" "two_terms" st_two_terms f fd) : FnOk Pg w K mg base CX0 (n + 1) f fd ["trees"] (spW K pr (n + 1) 13) := fn_okQ F sc_two_terms rfl rfl rfl fun cdv A outer s H E hr => by
    have nd := sc_two_terms.nd
    have hu := hu150 hr
    show SdB _ (defBody st_two_terms) (w_two_terms (wpc pr n))
    unfold w_two_terms
    exact (db_cons (ds_if (dt_cmp (o_ne hu) (d_bi b_len (by rfl) T.n_len PySem.boot_len (da_cons (d_var 0) da_nil)) d_int (nomark _)) (db_one ds_never) db_nil)
      (db_one (ds_ret (d_tup (da_cons (d_call S.c_term_of hr (by rfl) (da_cons (d_ix (d_var 0) d_int (fun _ _ => rfl)) da_nil)) (da_cons (d_call S.c_term_of hr (by rfl) (da_cons (d_ix (d_var 0) d_int (fun _ _ => rfl)) da_nil)) da_nil))))))
abbrev st_fun_term : Stmt := top 28
theorem sc_fun_term : FnScope ["trees", "term", "tree"] ["trees"] (defScope st_fun_term) := ⟨rfl, rfl, rfl, by decide +kernel, rfl, by decide +kernel, by decide +kernel⟩
theorem ok_fun_term (T : Txt w K mg) (S : Cs Pg w K mg base n) (F : Fun K "fun_term" "fun_term" st_fun_term f fd) : FnOk Pg w K mg base CX0 (n + 1) f fd ["trees"] (spW K pr (n + 1) 14) := fn_okQ F sc_fun_term rfl rfl rfl fun cdv A outer s H E hr => by
    have nd := sc_fun_term.nd
    have hu := hu150 hr
    show SdB _ (defBody st_fun_term) (w_fun_term (wpc pr n))
    unfold w_fun_term
    exact (db_cons (ds_if (dt_cmp o_lt (d_bi b_len (by rfl) T.n_len PySem.boot_len (da_cons (d_var 0) da_nil)) d_int (nomark _)) (db_one ds_never) db_nil)
      (db_cons (ds_set (i := 1) nd (d_call S.c_term_of hr (by rfl) (da_cons (d_ix (d_var 0) (d_neg d_int) (fun _ _ => rfl)) da_nil)))
      (db_cons (ds_for PassesOwn.never rfl (di_rev (by rfl) T.n_reversed (da_cons (d_sl (d_var 0) do_none (do_some (d_neg d_int))) da_nil)) (dg_name (i := 2) nd)
      (db_one (ds_set (i := 1) nd (d_tup (da_cons d_str (da_cons (d_call S.c_name_of hr (by rfl) (da_cons (d_var 2) da_nil)) (da_cons (d_var 1) da_nil)))))))
      (db_one (ds_ret (d_var 1))))))
abbrev st_call_term : Stmt := top 29
theorem sc_call_term : FnScope ["trees", "term", "tree"] ["trees"] (defScope st_call_term) := ⟨rfl, rfl, rfl, by decide +kernel, rfl, by decide +kernel, by decide +kernel⟩
theorem ok_call_term (T : Txt w K mg) (S : Cs Pg w K mg base n) (F : Fun K "call_term" "call_term" st_call_term f fd) : FnOk Pg w K mg base CX0 (n + 1) f fd ["trees"] (spW K pr (n + 1) 15) := fn_okQ F sc_call_term rfl rfl rfl fun cdv A outer s H E hr => by
    have nd := sc_call_term.nd
    have hu := hu150 hr
    show SdB _ (defBody st_call_term) (w_call_term (wpc pr n))
    unfold w_call_term
    exact (db_cons (ds_if (dt_cmp o_lt (d_bi b_len (by rfl) T.n_len PySem.boot_len (da_cons (d_var 0) da_nil)) d_int (nomark _)) (db_one ds_never) db_nil)
      (db_cons (ds_set (i := 1) nd (d_call S.c_term_of hr (by rfl) (da_cons (d_ix (d_var 0) d_int (fun _ _ => rfl)) da_nil)))
      (db_cons (ds_for PassesOwn.never rfl (di_seq (d_sl (d_var 0) (do_some d_int) do_none)) (dg_name (i := 2) nd)
      (db_one (ds_set (i := 1) nd (d_tup (da_cons d_str (da_cons (d_var 1) (da_cons (d_call S.c_term_of hr (by rfl) (da_cons (d_var 2) da_nil)) da_nil)))))))
      (db_one (ds_ret (d_var 1))))))
abbrev st_let_term : Stmt := top 30
theorem sc_let_term : FnScope ["trees", "pairs"] ["trees"] (defScope st_let_term) := ⟨rfl, rfl, rfl, by decide +kernel, rfl, by decide +kernel, by decide +kernel⟩
theorem ok_let_term (T : Txt w K mg) (S : Cs Pg w K mg base n) (F : Fun K "let_term" "let_term" st_let_term f fd) : FnOk Pg w K mg base CX0 (n + 1) f fd ["trees"] (spW K pr (n + 1) 16) := fn_okQ F sc_let_term rfl rfl rfl fun cdv A outer s H E hr => by
    have nd := sc_let_term.nd
    have hu := hu150 hr
    show SdB _ (defBody st_let_term) (w_let_term (wpc pr n))
    unfold w_let_term w_let_term_t1
    exact (db_cons (ds_if (dt_w (dw_or (dt_cmp o_lt (d_bi b_len (by rfl) T.n_len PySem.boot_len (da_cons (d_var 0) da_nil)) d_int (nomark _)) (dw_or1 (dt_cmp o_gt (d_bi b_len (by rfl) T.n_len PySem.boot_len (da_cons (d_var 0) da_nil)) (d_op o_add (d_gl (by rfl) T.g_MOST_PAIRS) d_int) (nomark _))))) (db_one ds_never) db_nil)
      (db_cons (ds_set (i := 1) nd (d_ty b_tuple (by rfl) T.n_tuple bt_tuple (da_cons (d_comp (cN := ["tree"]) (cap := [none]) (cl := []) (js := [0]) (g := (gName 0)) ⟨rfl, (fun _ => compOk0 rfl (by decide +kernel) (by decide +kernel) rfl (by decide)), (di_seq (d_sl (d_var 0) do_none (do_some (d_neg d_int)))), (fun _ _ _ => pg_name (i := 0) (show (["tree"] : List Str).Nodup by decide +kernel) rfl (Or.inl rfl)), gm_name, gk_name, sg_name, by decide +kernel, fun _ _ _ => dif_nil, fun _ _ _ => (d_call S.c_pair_of hr (by rfl) (da_cons (d_var 0) da_nil)), fun _ => rfl⟩) da_nil)))
      (db_cons (ds_expr (d_call S.c_refuse_alike hr (by rfl) (da_cons (d_comp (cN := ["name", "part"]) (cap := [none, none]) (cl := []) (js := ([0] ++ ([1] ++ []))) (g := (gTup _ 2 (gCons (gName 0) (gCons (gName 1) gNil)))) ⟨rfl, (fun _ => compOk0 rfl (by decide +kernel) (by decide +kernel) rfl (by decide)), (di_seq (d_var 1)), (fun _ _ _ => pg_tup (n := 2) rfl (pgs_cons (pg_name (i := 0) (show (["name", "part"] : List Str).Nodup by decide +kernel) rfl (Or.inl rfl)) (pgs_cons (pg_name (i := 1) (show (["name", "part"] : List Str).Nodup by decide +kernel) rfl (Or.inl rfl)) pgs_nil))), (gm_tup (gm_cons gm_name (gm_cons gm_name gm_nil))), (gk_tup (gk_cons gk_name gm_name (gk_cons gk_name gm_name gk_nil gm_nil) (gm_cons gm_name gm_nil))), (sg_tup (sg_cons sg_name (sg_cons sg_name sg_nil)) (gl_cons1 (gl_cons1 gl_nil))), by decide +kernel, fun _ _ _ => dif_nil, fun _ _ _ => (d_var 0), fun _ => rfl⟩) da_nil)))
      (db_one (ds_ret (d_tup (da_cons d_str (da_cons (d_var 1) (da_cons (d_call S.c_term_of hr (by rfl) (da_cons (d_ix (d_var 0) (d_neg d_int) (fun _ _ => rfl)) da_nil)) da_nil)))))))))
abbrev st_pair_of : Stmt := top 31
theorem sc_pair_of : FnScope ["tree", "items"] ["tree"] (defScope st_pair_of) := ⟨rfl, rfl, rfl, by decide +kernel, rfl, by decide +kernel, by decide +kernel⟩
theorem ok_pair_of (T : Txt w K mg) (S : Cs Pg w K mg base n) (F : Fun K "pair_of" "pair_of" st_pair_of f fd) : FnOk Pg w K mg base CX0 (n + 1) f fd ["tree"] (spW K pr (n + 1) 17) := fn_okQ F sc_pair_of rfl rfl rfl fun cdv A outer s H E hr => by
    have nd := sc_pair_of.nd
    have hu := hu150 hr
    show SdB _ (defBody st_pair_of) (w_pair_of (wpc pr n))
    unfold w_pair_of
    exact (db_cons (ds_set (i := 1) nd (d_call S.c_items_of hr (by rfl) (da_cons (d_var 0) da_nil)))
      (db_cons (ds_if (dt_cmp (o_ne hu) (d_bi b_len (by rfl) T.n_len PySem.boot_len (da_cons (d_var 1) da_nil)) d_int (nomark _)) (db_one ds_never) db_nil)
      (db_one (ds_ret (d_tup (da_cons (d_call S.c_name_of hr (by rfl) (da_cons (d_ix (d_var 1) d_int (fun _ _ => rfl)) da_nil)) (da_cons (d_call S.c_term_of hr (by rfl) (da_cons (d_ix (d_var 1) d_int (fun _ _ => rfl)) da_nil)) da_nil)))))))
abbrev st_choose_term : Stmt := top 32
theorem sc_choose_term : FnScope ["trees", "alternatives"] ["trees"] (defScope st_choose_term) := ⟨rfl, rfl, rfl, by decide +kernel, rfl, by decide +kernel, by decide +kernel⟩
theorem ok_choose_term (T : Txt w K mg) (S : Cs Pg w K mg base n) (F : Fun K "choose_term" "choose_term" st_choose_term f fd) : FnOk Pg w K mg base CX0 (n + 1) f fd ["trees"] (spW K pr (n + 1) 18) := fn_okQ F sc_choose_term rfl rfl rfl fun cdv A outer s H E hr => by
    have nd := sc_choose_term.nd
    have hu := hu150 hr
    show SdB _ (defBody st_choose_term) (w_choose_term (wpc pr n))
    unfold w_choose_term w_choose_term_t2 w_choose_term_t1
    exact (db_cons (ds_if (dt_cmp (o_eq hu) (d_var 0) (d_lst da_nil) (nomark _)) (db_one ds_never) db_nil)
      (db_cons (ds_set (i := 1) nd (d_ty b_tuple (by rfl) T.n_tuple bt_tuple (da_cons (d_comp (cN := ["tree"]) (cap := [none]) (cl := []) (js := [0]) (g := (gName 0)) ⟨rfl, (fun _ => compOk0 rfl (by decide +kernel) (by decide +kernel) rfl (by decide)), (di_seq (d_sl (d_var 0) (do_some d_int) do_none)), (fun _ _ _ => pg_name (i := 0) (show (["tree"] : List Str).Nodup by decide +kernel) rfl (Or.inl rfl)), gm_name, gk_name, sg_name, by decide +kernel, fun _ _ _ => dif_nil, fun _ _ _ => (d_call S.c_alternative_of hr (by rfl) (da_cons (d_var 0) da_nil)), fun _ => rfl⟩) da_nil)))
      (db_cons (ds_if (dt_cmp (o_notIn hu) (d_ty b_tuple (by rfl) T.n_tuple bt_tuple (da_cons (d_comp (cN := ["shape", "names", "body"]) (cap := [none, none, none]) (cl := []) (js := ([0] ++ ([1] ++ ([2] ++ [])))) (g := (gTup _ 3 (gCons (gName 0) (gCons (gName 1) (gCons (gName 2) gNil))))) ⟨rfl, (fun _ => compOk0 rfl (by decide +kernel) (by decide +kernel) rfl (by decide)), (di_seq (d_var 1)), (fun _ _ _ => pg_tup (n := 3) rfl (pgs_cons (pg_name (i := 0) (show (["shape", "names", "body"] : List Str).Nodup by decide +kernel) rfl (Or.inl rfl)) (pgs_cons (pg_name (i := 1) (show (["shape", "names", "body"] : List Str).Nodup by decide +kernel) rfl (Or.inl rfl)) (pgs_cons (pg_name (i := 2) (show (["shape", "names", "body"] : List Str).Nodup by decide +kernel) rfl (Or.inl rfl)) pgs_nil)))), (gm_tup (gm_cons gm_name (gm_cons gm_name (gm_cons gm_name gm_nil)))), (gk_tup (gk_cons gk_name gm_name (gk_cons gk_name gm_name (gk_cons gk_name gm_name gk_nil gm_nil) (gm_cons gm_name gm_nil)) (gm_cons gm_name (gm_cons gm_name gm_nil)))), (sg_tup (sg_cons sg_name (sg_cons sg_name (sg_cons sg_name sg_nil))) (gl_cons1 (gl_cons1 (gl_cons1 gl_nil)))), by decide +kernel, fun _ _ _ => dif_nil, fun _ _ _ => (d_var 0), fun _ => rfl⟩) da_nil)) (d_gl (by rfl) T.g_FAMILIES) (by rfl)) (db_one ds_never) db_nil)
      (db_one (ds_ret (d_tup (da_cons d_str (da_cons (d_call S.c_term_of hr (by rfl) (da_cons (d_ix (d_var 0) d_int (fun _ _ => rfl)) da_nil)) (da_cons (d_var 1) da_nil)))))))))
abbrev st_alternative_of : Stmt := top 33
theorem sc_alternative_of : FnScope ["tree", "items", "names"] ["tree"] (defScope st_alternative_of) := ⟨rfl, rfl, rfl, by decide +kernel, rfl, by decide +kernel, by decide +kernel⟩
theorem ok_alternative_of (T : Txt w K mg) (S : Cs Pg w K mg base n) (F : Fun K "alternative_of" "alternative_of" st_alternative_of f fd) : FnOk Pg w K mg base CX0 (n + 1) f fd ["tree"] (spW K pr (n + 1) 19) := fn_okQ F sc_alternative_of rfl rfl rfl fun cdv A outer s H E hr => by
    have nd := sc_alternative_of.nd
    have hu := hu150 hr
    show SdB _ (defBody st_alternative_of) (w_alternative_of (wpc pr n))
    unfold w_alternative_of w_alternative_of_t2 w_alternative_of_t1
    exact (db_cons (ds_set (i := 1) nd (d_call S.c_items_of hr (by rfl) (da_cons (d_var 0) da_nil)))
      (db_cons (ds_if (dt_w (dw_or (dt_cmp o_lt (d_bi b_len (by rfl) T.n_len PySem.boot_len (da_cons (d_var 1) da_nil)) d_int (nomark _)) (dw_or1 (dt_not (dt_tru (d_isi (by rfl) T.n_isinstance (by rfl) T.n_str bt_str (by decide) (d_ix (d_var 1) d_int (fun _ _ => rfl)))))))) (db_one ds_never) db_nil)
      (db_cons (ds_set (i := 2) nd (d_ty b_tuple (by rfl) T.n_tuple bt_tuple (da_cons (d_comp (cN := ["item"]) (cap := [none]) (cl := []) (js := [0]) (g := (gName 0)) ⟨rfl, (fun _ => compOk0 rfl (by decide +kernel) (by decide +kernel) rfl (by decide)), (di_seq (d_sl (d_var 1) (do_some d_int) (do_some (d_neg d_int)))), (fun _ _ _ => pg_name (i := 0) (show (["item"] : List Str).Nodup by decide +kernel) rfl (Or.inl rfl)), gm_name, gk_name, sg_name, by decide +kernel, fun _ _ _ => dif_nil, fun _ _ _ => (d_call S.c_name_of hr (by rfl) (da_cons (d_var 0) da_nil)), fun _ => rfl⟩) da_nil)))
      (db_cons (ds_expr (d_call S.c_refuse_alike hr (by rfl) (da_cons (d_var 2) da_nil)))
      (db_cons (ds_if (dt_cmp (o_ne hu) (d_gcget (by rfl) T.g_SHAPES (d_ix (d_var 1) d_int (fun _ _ => rfl)) ⟨rfl, rfl, rfl, rfl⟩) (d_bi b_len (by rfl) T.n_len PySem.boot_len (da_cons (d_var 2) da_nil)) (nomark _)) (db_one ds_never) db_nil)
      (db_one (ds_ret (d_tup (da_cons (d_ix (d_var 1) d_int (fun _ _ => rfl)) (da_cons (d_var 2) (da_cons (d_call S.c_term_of hr (by rfl) (da_cons (d_ix (d_var 1) (d_neg d_int) (fun _ _ => rfl)) da_nil)) da_nil)))))))))))
abbrev st_stop_term : Stmt := top 34
theorem sc_stop_term : FnScope ["trees"] ["trees"] (defScope st_stop_term) := ⟨rfl, rfl, rfl, by decide +kernel, rfl, by decide +kernel, by decide +kernel⟩
theorem ok_stop_term (T : Txt w K mg) (S : Cs Pg w K mg base n) (F : Fun K "stop_term" "stop_term" st_stop_term f fd) : FnOk Pg w K mg base CX0 (n + 1) f fd ["trees"] (spW K pr (n + 1) 20) := fn_okQ F sc_stop_term rfl rfl rfl fun cdv A outer s H E hr => by
    have nd := sc_stop_term.nd
    have hu := hu150 hr
    show SdB _ (defBody st_stop_term) (w_stop_term (wpc pr n))
    unfold w_stop_term
    exact (db_cons (ds_if (dt_cmp (o_ne hu) (d_bi b_len (by rfl) T.n_len PySem.boot_len (da_cons (d_var 0) da_nil)) d_int (nomark _)) (db_one ds_never) db_nil)
      (db_one (ds_ret (d_tup (da_cons d_str (da_cons (d_call S.c_name_of hr (by rfl) (da_cons (d_ix (d_var 0) d_int (fun _ _ => rfl)) da_nil)) da_nil))))))
abbrev st_rows_term : Stmt := top 35
theorem sc_rows_term : FnScope ["trees"] ["trees"] (defScope st_rows_term) := ⟨rfl, rfl, rfl, by decide +kernel, rfl, by decide +kernel, by decide +kernel⟩
theorem ok_rows_term (T : Txt w K mg) (S : Cs Pg w K mg base n) (F : Fun K "rows_term" "rows_term" st_rows_term f fd) : FnOk Pg w K mg base CX0 (n + 1) f fd ["trees"] (spW K pr (n + 1) 21) := fn_okQ F sc_rows_term rfl rfl rfl fun cdv A outer s H E hr => by
    have nd := sc_rows_term.nd
    have hu := hu150 hr
    show SdB _ (defBody st_rows_term) (w_rows_term (wpc pr n))
    unfold w_rows_term
    exact (db_cons (ds_if (dt_cmp (o_eq hu) (d_var 0) (d_lst da_nil) (nomark _)) (db_one ds_never) db_nil)
      (db_one (ds_ret (d_tup (da_cons d_str (da_cons (d_call S.c_term_of hr (by rfl) (da_cons (d_ix (d_var 0) d_int (fun _ _ => rfl)) da_nil)) (da_cons (d_ty b_tuple (by rfl) T.n_tuple bt_tuple (da_cons (d_comp (cN := ["tree"]) (cap := [none]) (cl := []) (js := [0]) (g := (gName 0)) ⟨rfl, (fun _ => compOk0 rfl (by decide +kernel) (by decide +kernel) rfl (by decide)), (di_seq (d_sl (d_var 0) (do_some d_int) do_none)), (fun _ _ _ => pg_name (i := 0) (show (["tree"] : List Str).Nodup by decide +kernel) rfl (Or.inl rfl)), gm_name, gk_name, sg_name, by decide +kernel, fun _ _ _ => dif_nil, fun _ _ _ => (d_call S.c_step_of hr (by rfl) (da_cons (d_var 0) da_nil)), fun _ => rfl⟩) da_nil)) da_nil)))))))
abbrev st_step_of : Stmt := top 36
theorem sc_step_of : FnScope ["tree", "items"] ["tree"] (defScope st_step_of) := ⟨rfl, rfl, rfl, by decide +kernel, rfl, by decide +kernel, by decide +kernel⟩
theorem ok_step_of (T : Txt w K mg) (S : Cs Pg w K mg base n) (F : Fun K "step_of" "step_of" st_step_of f fd) : FnOk Pg w K mg base CX0 (n + 1) f fd ["tree"] (spW K pr (n + 1) 22) := fn_okQ F sc_step_of rfl rfl rfl fun cdv A outer s H E hr => by
    have nd := sc_step_of.nd
    have hu := hu150 hr
    show SdB _ (defBody st_step_of) (w_step_of (wpc pr n))
    unfold w_step_of
    exact (db_cons (ds_set (i := 1) nd (d_call S.c_items_of hr (by rfl) (da_cons (d_var 0) da_nil)))
      (db_cons (ds_if (dt_w (dw_and (dt_cmp (o_eq hu) (d_bi b_len (by rfl) T.n_len PySem.boot_len (da_cons (d_var 1) da_nil)) d_int (nomark _)) (dw_and1 (dt_cmp (o_eq hu) (d_ix (d_var 1) d_int (fun _ _ => rfl)) d_str (nomark _))))) (db_one (ds_ret (d_tup (da_cons d_str (da_cons (d_call S.c_term_of hr (by rfl) (da_cons (d_ix (d_var 1) d_int (fun _ _ => rfl)) da_nil)) da_nil))))) db_nil)
      (db_cons (ds_if (dt_w (dw_and (dt_cmp (o_eq hu) (d_bi b_len (by rfl) T.n_len PySem.boot_len (da_cons (d_var 1) da_nil)) d_int (nomark _)) (dw_and1 (dt_w (dw_or (dt_cmp (o_eq hu) (d_ix (d_var 1) d_int (fun _ _ => rfl)) d_str (nomark _)) (dw_or1 (dt_cmp (o_eq hu) (d_ix (d_var 1) d_int (fun _ _ => rfl)) d_str (nomark _)))))))) (db_one (ds_ret (d_tup (da_cons (d_ix (d_var 1) d_int (fun _ _ => rfl)) (da_cons (d_call S.c_name_of hr (by rfl) (da_cons (d_ix (d_var 1) d_int (fun _ _ => rfl)) da_nil)) (da_cons (d_call S.c_term_of hr (by rfl) (da_cons (d_ix (d_var 1) d_int (fun _ _ => rfl)) da_nil)) da_nil)))))) db_nil)
      (db_one ds_never))))
abbrev st_items_of : Stmt := top 37
theorem sc_items_of : FnScope ["tree"] ["tree"] (defScope st_items_of) := ⟨rfl, rfl, rfl, by decide +kernel, rfl, by decide +kernel, by decide +kernel⟩
theorem ok_items_of (T : Txt w K mg) (S : Cs Pg w K mg base n) (F : Fun K "items_of" "items_of" st_items_of f fd) : FnOk Pg w K mg base CX0 (n + 1) f fd ["tree"] (spW K pr (n + 1) 23) := fn_okQ F sc_items_of rfl rfl rfl fun cdv A outer s H E hr => by
    have nd := sc_items_of.nd
    have hu := hu150 hr
    show SdB _ (defBody st_items_of) (w_items_of (wpc pr n))
    unfold w_items_of
    exact (db_cons (ds_if (dt_tru (d_isi (by rfl) T.n_isinstance (by rfl) T.n_str bt_str (by decide) (d_var 0))) (db_one ds_never) db_nil)
      (db_one (ds_ret (d_var 0))))
abbrev st_name_of : Stmt := top 38
theorem sc_name_of : FnScope ["tree"] ["tree"] (defScope st_name_of) := ⟨rfl, rfl, rfl, by decide +kernel, rfl, by decide +kernel, by decide +kernel⟩
theorem ok_name_of (T : Txt w K mg) (S : Cs Pg w K mg base n) (F : Fun K "name_of" "name_of" st_name_of f fd) : FnOk Pg w K mg base CX0 (n + 1) f fd ["tree"] (spW K pr (n + 1) 24) := fn_okQ F sc_name_of rfl rfl rfl fun cdv A outer s H E hr => by
    have nd := sc_name_of.nd
    have hu := hu150 hr
    show SdB _ (defBody st_name_of) (w_name_of (wpc pr n))
    unfold w_name_of
    exact (db_cons (ds_if (dt_w (dw_or (dt_not (dt_tru (d_isi (by rfl) T.n_isinstance (by rfl) T.n_str bt_str (by decide) (d_var 0)))) (dw_or1 (dt_not (dt_tru (d_call S.c_is_name hr (by rfl) (da_cons (d_var 0) da_nil))))))) (db_one ds_never) db_nil)
      (db_one (ds_ret (d_var 0))))
abbrev st_refuse_alike : Stmt := top 39
theorem sc_refuse_alike : FnScope ["names"] ["names"] (defScope st_refuse_alike) := ⟨rfl, rfl, rfl, by decide +kernel, rfl, by decide +kernel, by decide +kernel⟩
theorem ok_refuse_alike (T : Txt w K mg) (S : Cs Pg w K mg base n) (F : Fun K "refuse_alike" "refuse_alike" st_refuse_alike f fd) : FnOk Pg w K mg base CX0 (n + 1) f fd ["names"] (spW K pr (n + 1) 25) := fn_okQ F sc_refuse_alike rfl rfl rfl fun cdv A outer s H E hr => by
    have nd := sc_refuse_alike.nd
    have hu := hu150 hr
    show SdB _ (defBody st_refuse_alike) (w_refuse_alike (wpc pr n))
    unfold w_refuse_alike
    exact (db_one (ds_if (dt_cmp (o_ne hu) (d_lenset rfl (by rfl) T.n_len (by rfl) T.n_set (d_var 0)) (d_bi b_len (by rfl) T.n_len PySem.boot_len (da_cons (d_var 0) da_nil)) (nomark _)) (db_one ds_never) db_nil))
abbrev st__law_draws : Stmt := top 41
theorem sc__law_draws : FnScope ["_law_script", "_law_many_here", "_law_found", "_law_k", "_law_cell"] ["_law_script", "_law_many_here"] (defScope st__law_draws) := ⟨rfl, rfl, rfl, by decide +kernel, rfl, by decide +kernel, by decide +kernel⟩
theorem ok__law_draws (T : Txt w K mg) (S : Cs Pg w K mg base n) (F : Fun K "_law_draws" "_law_draws" st__law_draws f fd) : FnOk Pg w K mg base CX0 (n + 1) f fd ["_law_script", "_law_many_here"] (spW K pr (n + 1) 26) := fn_okQ F sc__law_draws rfl rfl rfl fun cdv A outer s H E hr => by
    have nd := sc__law_draws.nd
    have hu := hu150 hr
    show SdB _ (defBody st__law_draws) (w__law_draws (wpc pr n))
    unfold w__law_draws
    exact (db_cons (ds_set (i := 2) nd (d_lst da_nil))
      (db_cons (ds_for PassesOwn.never rfl (di_r1 (by rfl) T.n_range (da_cons (d_var 1) da_nil)) (dg_name (i := 3) nd)
      (db_cons (ds_set (i := 4) nd d_int)
      (db_cons (ds_if (dt_cmp o_gt (d_bi b_len (by rfl) T.n_len PySem.boot_len (da_cons (d_var 0) da_nil)) d_int (nomark _)) (db_one (ds_set (i := 4) nd (d_op o_mod (d_ix (d_var 0) (d_op o_mod (d_var 3) (d_bi b_len (by rfl) T.n_len PySem.boot_len (da_cons (d_var 0) da_nil))) (fun _ _ => rfl)) (d_op o_pow d_int d_int)))) db_nil)
      (db_one (ds_expr (d_mt PySem.F.plainAttrs_list PySem.F.slot_list_append PySem.F.type_list_append ty_list m_append (d_var 2) (da_cons (d_op o_add (d_var 4) (d_op o_mul d_int (d_op o_div (d_var 3) (d_bi (b_max rfl) (by rfl) T.n_max bt_max (da_cons d_int (da_cons (d_bi b_len (by rfl) T.n_len PySem.boot_len (da_cons (d_var 0) da_nil)) da_nil)))))) da_nil)))))))
      (db_one (ds_ret (d_var 2)))))
abbrev st__law_name : Stmt := top 42
theorem sc__law_name : FnScope ["_law_draw", "_law_signs", "_law_name_here", "_law_k", "_law_at"] ["_law_draw"] (defScope st__law_name) := ⟨rfl, rfl, rfl, by decide +kernel, rfl, by decide +kernel, by decide +kernel⟩
theorem ok__law_name (T : Txt w K mg) (S : Cs Pg w K mg base n) (F : Fun K "_law_name" "_law_name" st__law_name f fd) : FnOk Pg w K mg base CX0 (n + 1) f fd ["_law_draw"] (spW K pr (n + 1) 27) := fn_okQ F sc__law_name rfl rfl rfl fun cdv A outer s H E hr => by
    have nd := sc__law_name.nd
    have hu := hu150 hr
    show SdB _ (defBody st__law_name) (w__law_name (wpc pr n))
    unfold w__law_name
    exact (db_cons (ds_set (i := 1) nd d_str)
      (db_cons (ds_set (i := 2) nd (d_ix (d_var 1) (d_op o_mod (d_var 0) d_int) (fun _ _ => rfl)))
      (db_cons (ds_for PassesOwn.never rfl (di_r1 (by rfl) T.n_range (da_cons (d_op o_mod (d_op o_div (d_var 0) d_int) d_int) da_nil)) (dg_name (i := 3) nd)
      (db_cons (ds_set (i := 4) nd (d_op o_add (d_op o_add (d_op o_div (d_var 0) d_int) (d_op o_mul (d_op o_mul d_int (d_var 3)) (d_var 3))) (d_op o_mul (d_op o_mod (d_op o_div (d_var 0) d_int) d_int) (d_var 3))))
      (db_one (ds_set (i := 2) nd (d_op o_add (d_var 2) (d_ix (d_var 1) (d_op o_mod (d_var 4) d_int) (fun _ _ => rfl)))))))
      (db_cons (ds_if (dt_cmp (o_in hu) (d_var 2) (d_lst (da_cons d_str (da_cons d_str (da_cons d_str (da_cons d_str (da_cons d_str (da_cons d_str (da_cons d_str (da_cons d_str (da_cons d_str da_nil)))))))))) (by rfl)) (db_one (ds_ret (d_op o_add (d_var 2) d_str))) db_nil)
      (db_one (ds_ret (d_var 2)))))))
abbrev st__law_unlike : Stmt := top 43
theorem sc__law_unlike : FnScope ["_law_draw", "_law_many_here", "_law_pool", "_law_names", "_law_k", "_law_name_here", "_law_spare"] ["_law_draw", "_law_many_here", "_law_pool"] (defScope st__law_unlike) := ⟨rfl, rfl, rfl, by decide +kernel, rfl, by decide +kernel, by decide +kernel⟩
theorem ok__law_unlike (T : Txt w K mg) (S : Cs Pg w K mg base n) (F : Fun K "_law_unlike" "_law_unlike" st__law_unlike f fd) : FnOk Pg w K mg base CX0 (n + 1) f fd ["_law_draw", "_law_many_here", "_law_pool"] (spW K pr (n + 1) 28) := fn_okQ F sc__law_unlike rfl rfl rfl fun cdv A outer s H E hr => by
    have nd := sc__law_unlike.nd
    have hu := hu150 hr
    show SdB _ (defBody st__law_unlike) (w__law_unlike (wpc pr n))
    unfold w__law_unlike
    exact (db_cons (ds_set (i := 3) nd (d_lst da_nil))
      (db_cons (ds_for PassesOwn.never rfl (di_r1 (by rfl) T.n_range (da_cons (d_var 1) da_nil)) (dg_name (i := 4) nd)
      (db_cons (ds_set (i := 5) nd (d_ix (d_var 2) (d_op o_mod (d_op o_div (d_var 0) (d_op o_add (d_op o_mul d_int (d_var 4)) d_int)) (d_bi b_len (by rfl) T.n_len PySem.boot_len (da_cons (d_var 2) da_nil))) (fun _ _ => rfl)))
      (db_cons (ds_if (dt_cmp (o_in hu) (d_var 5) (d_var 3) (by rfl)) (db_cons (ds_set (i := 6) nd (d_lst (da_cons d_str (da_cons d_str (da_cons d_str (da_cons d_str (da_cons d_str (da_cons d_str da_nil))))))))
      (db_one (ds_set (i := 5) nd (d_ix (d_comp (cN := ["_law_one", "_law_names"]) (cap := [none, some 3]) (cl := (closOf _ _ [])) (js := [0]) (g := (gName 0)) ⟨rfl, (fun ok => compOkN ok rfl (by decide +kernel) (by decide +kernel) rfl rfl rfl), (di_seq (d_var 6)), (fun _ _ _ => pg_name (i := 0) (show (["_law_one", "_law_names"] : List Str).Nodup by decide +kernel) rfl (Or.inl rfl)), gm_name, gk_name, sg_name, by decide +kernel, fun _ _ _ => (dif_one (dt_cmp (o_notIn hu) (d_var 0) (d_var 1) (by rfl))), fun _ _ _ => (d_var 0), fun _ => rfl⟩) d_int (fun _ _ => rfl))))) db_nil)
      (db_one (ds_expr (d_mt PySem.F.plainAttrs_list PySem.F.slot_list_append PySem.F.type_list_append ty_list m_append (d_var 3) (da_cons (d_var 5) da_nil)))))))
      (db_one (ds_ret (d_var 3)))))
abbrev st__law_leaf : Stmt := top 44
theorem sc__law_leaf : FnScope ["_law_draw", "_law_pool"] ["_law_draw", "_law_pool"] (defScope st__law_leaf) := ⟨rfl, rfl, rfl, by decide +kernel, rfl, by decide +kernel, by decide +kernel⟩
theorem ok__law_leaf (T : Txt w K mg) (S : Cs Pg w K mg base n) (F : Fun K "_law_leaf" "_law_leaf" st__law_leaf f fd) : FnOk Pg w K mg base CX0 (n + 1) f fd ["_law_draw", "_law_pool"] (spW K pr (n + 1) 29) := fn_okQ F sc__law_leaf rfl rfl rfl fun cdv A outer s H E hr => by
    have nd := sc__law_leaf.nd
    have hu := hu150 hr
    show SdB _ (defBody st__law_leaf) (w__law_leaf (wpc pr n))
    unfold w__law_leaf
    exact (db_cons (ds_if (dt_cmp (o_eq hu) (d_op o_mod (d_var 0) d_int) d_int (nomark _)) (db_one (ds_ret (d_tup (da_cons d_str (da_cons (d_ix (d_lst (da_cons (d_op o_mod (d_op o_div (d_var 0) d_int) d_int) (da_cons (d_op o_mod (d_op o_mul (d_var 0) d_int) (d_op o_pow d_int d_int)) da_nil))) (d_op o_mod (d_op o_div (d_var 0) d_int) d_int) (fun _ _ => rfl)) da_nil))))) db_nil)
      (db_cons (ds_if (dt_cmp (o_eq hu) (d_op o_mod (d_var 0) d_int) d_int (nomark _)) (db_one (ds_ret (d_tup (da_cons d_str (da_cons (d_ix (d_lst (da_cons d_str (da_cons d_str (da_cons d_str da_nil)))) (d_op o_mod (d_op o_div (d_var 0) d_int) d_int) (fun _ _ => rfl)) (da_cons (d_tup da_nil) da_nil)))))) db_nil)
      (db_cons (ds_if (dt_cmp (o_eq hu) (d_op o_mod (d_var 0) d_int) d_int (nomark _)) (db_one (ds_ret (d_tup (da_cons d_str (da_cons (d_ix (d_var 1) (d_op o_mod (d_op o_div (d_var 0) d_int) (d_bi b_len (by rfl) T.n_len PySem.boot_len (da_cons (d_var 1) da_nil))) (fun _ _ => rfl)) da_nil))))) db_nil)
      (db_one (ds_ret (d_tup (da_cons d_str (da_cons (d_ix (d_var 1) (d_op o_mod (d_op o_div (d_var 0) d_int) (d_bi b_len (by rfl) T.n_len PySem.boot_len (da_cons (d_var 1) da_nil))) (fun _ _ => rfl)) da_nil))))))))
abbrev st__law_chosen : Stmt := top 45
theorem sc__law_chosen : FnScope ["_law_draw", "_law_some", "_law_pool"] ["_law_draw", "_law_some", "_law_pool"] (defScope st__law_chosen) := ⟨rfl, rfl, rfl, by decide +kernel, rfl, by decide +kernel, by decide +kernel⟩
theorem ok__law_chosen (T : Txt w K mg) (S : Cs Pg w K mg base n) (F : Fun K "_law_chosen" "_law_chosen" st__law_chosen f fd) : FnOk Pg w K mg base CX0 (n + 1) f fd ["_law_draw", "_law_some", "_law_pool"] (spW K pr (n + 1) 30) := fn_okQ F sc__law_chosen rfl rfl rfl fun cdv A outer s H E hr => by
    have nd := sc__law_chosen.nd
    have hu := hu150 hr
    show SdB _ (defBody st__law_chosen) (w__law_chosen (wpc pr n))
    unfold w__law_chosen
    exact (db_cons (ds_if (dt_cmp (o_eq hu) (d_op o_mod (d_var 0) d_int) d_int (nomark _)) (db_one (ds_ret (d_tup (da_cons (d_tup (da_cons d_str (da_cons (d_tup da_nil) (da_cons (d_ix (d_var 1) d_int (fun _ _ => rfl)) da_nil)))) (da_cons (d_tup (da_cons d_str (da_cons (d_ty b_tuple (by rfl) T.n_tuple bt_tuple (da_cons (d_call S.c__law_unlike hr (by rfl) (da_cons (d_op o_div (d_var 0) d_int) (da_cons d_int (da_cons (d_var 2) da_nil)))) da_nil)) (da_cons (d_ix (d_var 1) d_int (fun _ _ => rfl)) da_nil)))) da_nil))))) db_nil)
      (db_cons (ds_if (dt_cmp (o_eq hu) (d_op o_mod (d_var 0) d_int) d_int (nomark _)) (db_one (ds_ret (d_tup (da_cons (d_tup (da_cons d_str (da_cons (d_tup da_nil) (da_cons (d_ix (d_var 1) d_int (fun _ _ => rfl)) da_nil)))) (da_cons (d_tup (da_cons d_str (da_cons (d_tup da_nil) (da_cons (d_ix (d_var 1) d_int (fun _ _ => rfl)) da_nil)))) da_nil))))) db_nil)
      (db_one (ds_ret (d_tup (da_cons (d_tup (da_cons d_str (da_cons (d_ty b_tuple (by rfl) T.n_tuple bt_tuple (da_cons (d_call S.c__law_unlike hr (by rfl) (da_cons (d_op o_div (d_var 0) d_int) (da_cons d_int (da_cons (d_var 2) da_nil)))) da_nil)) (da_cons (d_ix (d_var 1) d_int (fun _ _ => rfl)) da_nil)))) da_nil))))))
abbrev st__law_rows : Stmt := top 46
theorem sc__law_rows : FnScope ["_law_draw", "_law_some", "_law_pool", "_law_steps", "_law_k", "_law_way"] ["_law_draw", "_law_some", "_law_pool"] (defScope st__law_rows) := ⟨rfl, rfl, rfl, by decide +kernel, rfl, by decide +kernel, by decide +kernel⟩
theorem ok__law_rows (T : Txt w K mg) (S : Cs Pg w K mg base n) (F : Fun K "_law_rows" "_law_rows" st__law_rows f fd) : FnOk Pg w K mg base CX0 (n + 1) f fd ["_law_draw", "_law_some", "_law_pool"] (spW K pr (n + 1) 31) := fn_okQ F sc__law_rows rfl rfl rfl fun cdv A outer s H E hr => by
    have nd := sc__law_rows.nd
    have hu := hu150 hr
    show SdB _ (defBody st__law_rows) (w__law_rows (wpc pr n))
    unfold w__law_rows
    exact (db_cons (ds_set (i := 3) nd (d_lst da_nil))
      (db_cons (ds_for PassesOwn.never rfl (di_r1 (by rfl) T.n_range (da_cons (d_op o_sub (d_bi b_len (by rfl) T.n_len PySem.boot_len (da_cons (d_var 1) da_nil)) d_int) da_nil)) (dg_name (i := 4) nd)
      (db_cons (ds_set (i := 5) nd (d_op o_mod (d_op o_div (d_var 0) (d_op o_add (d_op o_mul d_int (d_var 4)) d_int)) d_int))
      (db_one (ds_if (dt_cmp (o_eq hu) (d_var 5) d_int (nomark _)) (db_one (ds_expr (d_mt PySem.F.plainAttrs_list PySem.F.slot_list_append PySem.F.type_list_append ty_list m_append (d_var 3) (da_cons (d_tup (da_cons d_str (da_cons (d_ix (d_var 1) (d_op o_add d_int (d_var 4)) (fun _ _ => rfl)) da_nil))) da_nil)))) (db_one (ds_expr (d_mt PySem.F.plainAttrs_list PySem.F.slot_list_append PySem.F.type_list_append ty_list m_append (d_var 3) (da_cons (d_tup (da_cons (d_ix (d_lst (da_cons d_str (da_cons d_str da_nil))) (d_op o_sub (d_var 5) d_int) (fun _ _ => rfl)) (da_cons (d_ix (d_var 2) (d_op o_mod (d_op o_div (d_var 0) (d_op o_add (d_op o_mul d_int (d_var 4)) d_int)) (d_bi b_len (by rfl) T.n_len PySem.boot_len (da_cons (d_var 2) da_nil))) (fun _ _ => rfl)) (da_cons (d_ix (d_var 1) (d_op o_add d_int (d_var 4)) (fun _ _ => rfl)) da_nil)))) da_nil))))))))
      (db_one (ds_ret (d_tup (da_cons d_str (da_cons (d_ix (d_var 1) d_int (fun _ _ => rfl)) (da_cons (d_ty b_tuple (by rfl) T.n_tuple bt_tuple (da_cons (d_var 3) da_nil)) da_nil))))))))
abbrev st__law_joined : Stmt := top 47
theorem sc__law_joined : FnScope ["_law_sort", "_law_draw", "_law_some", "_law_pool", "_law_names"] ["_law_sort", "_law_draw", "_law_some", "_law_pool"] (defScope st__law_joined) := ⟨rfl, rfl, rfl, by decide +kernel, rfl, by decide +kernel, by decide +kernel⟩
theorem ok__law_joined (T : Txt w K mg) (S : Cs Pg w K mg base n) (F : Fun K "_law_joined" "_law_joined" st__law_joined f fd) : FnOk Pg w K mg base CX0 (n + 1) f fd ["_law_sort", "_law_draw", "_law_some", "_law_pool"] (spW K pr (n + 1) 32) := fn_okQ F sc__law_joined rfl rfl rfl fun cdv A outer s H E hr => by
    have nd := sc__law_joined.nd
    have hu := hu150 hr
    show SdB _ (defBody st__law_joined) (w__law_joined (wpc pr n))
    unfold w__law_joined
    exact (db_cons (ds_if (dt_cmp (o_eq hu) (d_var 0) d_int (nomark _)) (db_one (ds_ret (d_tup (da_cons d_str (da_cons (d_ix d_str (d_op o_mod (d_var 1) d_int) (fun _ _ => rfl)) (da_cons (d_ix (d_var 2) d_int (fun _ _ => rfl)) (da_cons (d_ix (d_var 2) d_int (fun _ _ => rfl)) da_nil))))))) db_nil)
      (db_cons (ds_if (dt_cmp (o_eq hu) (d_var 0) d_int (nomark _)) (db_one (ds_ret (d_tup (da_cons d_str (da_cons (d_ix (d_var 3) (d_op o_mod (d_var 1) (d_bi b_len (by rfl) T.n_len PySem.boot_len (da_cons (d_var 3) da_nil))) (fun _ _ => rfl)) (da_cons (d_ix (d_var 2) d_int (fun _ _ => rfl)) da_nil)))))) db_nil)
      (db_cons (ds_if (dt_cmp (o_eq hu) (d_var 0) d_int (nomark _)) (db_one (ds_ret (d_tup (da_cons d_str (da_cons (d_ix (d_var 2) d_int (fun _ _ => rfl)) (da_cons (d_ix (d_var 2) d_int (fun _ _ => rfl)) da_nil)))))) db_nil)
      (db_cons (ds_if (dt_cmp (o_eq hu) (d_var 0) d_int (nomark _)) (db_cons (ds_set (i := 4) nd (d_call S.c__law_unlike hr (by rfl) (da_cons (d_var 1) (da_cons (d_op o_sub (d_bi b_len (by rfl) T.n_len PySem.boot_len (da_cons (d_var 2) da_nil)) d_int) (da_cons (d_var 3) da_nil)))))
      (db_one (ds_ret (d_tup (da_cons d_str (da_cons (d_ty b_tuple (by rfl) T.n_tuple bt_tuple (da_cons (d_comp (cN := ["_law_k", "_law_names", "_law_some"]) (cap := [none, some 4, some 2]) (cl := (closOf _ _ [])) (js := [0]) (g := (gName 0)) ⟨rfl, (fun ok => compOkN ok rfl (by decide +kernel) (by decide +kernel) rfl rfl rfl), (di_r1 (by rfl) T.n_range (da_cons (d_bi b_len (by rfl) T.n_len PySem.boot_len (da_cons (d_var 4) da_nil)) da_nil)), (fun _ _ _ => pg_name (i := 0) (show (["_law_k", "_law_names", "_law_some"] : List Str).Nodup by decide +kernel) rfl (Or.inl rfl)), gm_name, gk_name, sg_name, by decide +kernel, fun _ _ _ => dif_nil, fun _ _ _ => (d_tup (da_cons (d_ix (d_var 1) (d_var 0) (fun _ _ => rfl)) (da_cons (d_ix (d_var 2) (d_var 0) (fun _ _ => rfl)) da_nil))), fun _ => rfl⟩) da_nil)) (da_cons (d_ix (d_var 2) (d_neg d_int) (fun _ _ => rfl)) da_nil))))))) db_nil)
      (db_cons (ds_if (dt_cmp (o_eq hu) (d_var 0) d_int (nomark _)) (db_one (ds_ret (d_tup (da_cons d_str (da_cons (d_ix (d_lst (da_cons d_str (da_cons d_str da_nil))) (d_op o_mod (d_var 1) d_int) (fun _ _ => rfl)) (da_cons (d_tup (da_cons (d_ix (d_var 2) d_int (fun _ _ => rfl)) (da_cons (d_ix (d_var 2) d_int (fun _ _ => rfl)) da_nil))) da_nil)))))) db_nil)
      (db_cons (ds_if (dt_cmp (o_eq hu) (d_var 0) d_int (nomark _)) (db_one (ds_ret (d_tup (da_cons d_str (da_cons (d_ix (d_var 2) d_int (fun _ _ => rfl)) (da_cons (d_call S.c__law_chosen hr (by rfl) (da_cons (d_var 1) (da_cons (d_var 2) (da_cons (d_var 3) da_nil)))) da_nil)))))) db_nil)
      (db_cons (ds_if (dt_cmp (o_eq hu) (d_var 0) d_int (nomark _)) (db_one (ds_ret (d_tup (da_cons d_str (da_cons (d_ix (d_var 2) d_int (fun _ _ => rfl)) (da_cons (d_ix (d_var 2) d_int (fun _ _ => rfl)) da_nil)))))) db_nil)
      (db_one (ds_ret (d_call S.c__law_rows hr (by rfl) (da_cons (d_var 1) (da_cons (d_var 2) (da_cons (d_var 3) da_nil)))))))))))))
abbrev st__law_many : Stmt := top 48
theorem sc__law_many : FnScope ["_law_sort", "_law_draw"] ["_law_sort", "_law_draw"] (defScope st__law_many) := ⟨rfl, rfl, rfl, by decide +kernel, rfl, by decide +kernel, by decide +kernel⟩
theorem ok__law_many (T : Txt w K mg) (S : Cs Pg w K mg base n) (F : Fun K "_law_many" "_law_many" st__law_many f fd) : FnOk Pg w K mg base CX0 (n + 1) f fd ["_law_sort", "_law_draw"] (spW K pr (n + 1) 33) := fn_okQ F sc__law_many rfl rfl rfl fun cdv A outer s H E hr => by
    have nd := sc__law_many.nd
    have hu := hu150 hr
    show SdB _ (defBody st__law_many) (w__law_many (wpc pr n))
    unfold w__law_many
    exact (db_cons (ds_if (dt_cmp (o_eq hu) (d_var 0) d_int (nomark _)) (db_one (ds_ret (d_op o_add d_int (d_op o_mod (d_op o_div (d_var 1) d_int) d_int)))) db_nil)
      (db_cons (ds_if (dt_cmp (o_eq hu) (d_var 0) d_int (nomark _)) (db_one (ds_ret (d_ix (d_lst (da_cons d_int (da_cons d_int (da_cons d_int da_nil)))) (d_op o_mod (d_var 1) d_int) (fun _ _ => rfl)))) db_nil)
      (db_cons (ds_if (dt_cmp (o_eq hu) (d_var 0) d_int (nomark _)) (db_one (ds_ret (d_op o_add d_int (d_op o_mod (d_op o_div (d_var 1) d_int) d_int)))) db_nil)
      (db_one (ds_ret (d_ix (d_lst (da_cons d_int (da_cons d_int (da_cons d_int (da_cons d_int (da_cons d_int (da_cons d_int (da_cons d_int (da_cons d_int da_nil))))))))) (d_var 0) (fun _ _ => rfl)))))))
abbrev st__law_term : Stmt := top 49
theorem sc__law_term : FnScope ["_law_draws_here", "_law_deep", "_law_pool", "_law_draw", "_law_sort", "_law_some", "_law_k"] ["_law_draws_here", "_law_deep", "_law_pool"] (defScope st__law_term) := ⟨rfl, rfl, rfl, by decide +kernel, rfl, by decide +kernel, by decide +kernel⟩
theorem ok__law_term (T : Txt w K mg) (S : Cs Pg w K mg base n) (F : Fun K "_law_term" "_law_term" st__law_term f fd) : FnOk Pg w K mg base CX0 (n + 1) f fd ["_law_draws_here", "_law_deep", "_law_pool"] (spW K pr (n + 1) 34) := fn_okQ F sc__law_term rfl rfl rfl fun cdv A outer s H E hr => by
    have nd := sc__law_term.nd
    have hu := hu150 hr
    show SdB _ (defBody st__law_term) (w__law_term (wpc pr n))
    unfold w__law_term w__law_term_t3 w__law_term_t2 w__law_term_t1
    exact (db_cons (ds_set (i := 3) nd d_int)
      (db_cons (ds_if (dt_cmp o_gt (d_bi b_len (by rfl) T.n_len PySem.boot_len (da_cons (d_var 0) da_nil)) d_int (nomark _)) (db_one (ds_set (i := 3) nd (d_mt PySem.F.plainAttrs_list PySem.F.slot_list_pop PySem.F.type_list_pop ty_list m_popAt (d_var 0) (da_cons d_int da_nil)))) db_nil)
      (db_cons (ds_set (i := 4) nd (d_op o_mod (d_var 3) d_int))
      (db_cons (ds_if (dt_w (dw_or (dt_cmp o_le (d_var 1) d_int (nomark _)) (dw_or (dt_cmp (o_eq hu) (d_bi b_len (by rfl) T.n_len PySem.boot_len (da_cons (d_var 0) da_nil)) d_int (nomark _)) (dw_or1 (dt_cmp (o_eq hu) (d_var 4) d_int (nomark _)))))) (db_one (ds_ret (d_call S.c__law_leaf hr (by rfl) (da_cons (d_op o_div (d_var 3) d_int) (da_cons (d_var 2) da_nil))))) db_nil)
      (db_cons (ds_set (i := 5) nd (d_lst da_nil))
      (db_cons (ds_for PassesOwn.never rfl (di_r1 (by rfl) T.n_range (da_cons (d_call S.c__law_many hr (by rfl) (da_cons (d_var 4) (da_cons (d_op o_div (d_var 3) d_int) da_nil))) da_nil)) (dg_name (i := 6) nd)
      (db_one (ds_expr (d_mt PySem.F.plainAttrs_list PySem.F.slot_list_append PySem.F.type_list_append ty_list m_append (d_var 5) (da_cons (d_call S.c__law_term hr (by rfl) (da_cons (d_var 0) (da_cons (d_op o_sub (d_var 1) d_int) (da_cons (d_var 2) da_nil)))) da_nil)))))
      (db_one (ds_ret (d_call S.c__law_joined hr (by rfl) (da_cons (d_var 4) (da_cons (d_op o_div (d_var 3) d_int) (da_cons (d_var 5) (da_cons (d_var 2) da_nil)))))))))))))
abbrev st__law_wrapped : Stmt := top 50
theorem sc__law_wrapped : FnScope ["_law_term_here", "_law_draw", "_law_pool", "_law_k", "_law_way"] ["_law_term_here", "_law_draw", "_law_pool"] (defScope st__law_wrapped) := ⟨rfl, rfl, rfl, by decide +kernel, rfl, by decide +kernel, by decide +kernel⟩
theorem ok__law_wrapped (T : Txt w K mg) (S : Cs Pg w K mg base n) (F : Fun K "_law_wrapped" "_law_wrapped" st__law_wrapped f fd) : FnOk Pg w K mg base CX0 (n + 1) f fd ["_law_term_here", "_law_draw", "_law_pool"] (spW K pr (n + 1) 35) := fn_okQ F sc__law_wrapped rfl rfl rfl fun cdv A outer s H E hr => by
    have nd := sc__law_wrapped.nd
    have hu := hu150 hr
    show SdB _ (defBody st__law_wrapped) (w__law_wrapped (wpc pr n))
    unfold w__law_wrapped
    exact (db_cons (ds_for PassesOwn.never rfl (di_r1 (by rfl) T.n_range (da_cons (d_op o_mod (d_var 1) d_int) da_nil)) (dg_name (i := 3) nd)
      (db_cons (ds_set (i := 4) nd (d_op o_mod (d_op o_div (d_var 1) (d_op o_add d_int (d_op o_mul d_int (d_var 3)))) d_int))
      (db_one (ds_if (dt_cmp (o_eq hu) (d_var 4) d_int (nomark _)) (db_one (ds_set (i := 0) nd (d_tup (da_cons d_str (da_cons (d_ix (d_var 2) (d_op o_mod (d_op o_div (d_var 1) (d_op o_add d_int (d_var 3))) (d_bi b_len (by rfl) T.n_len PySem.boot_len (da_cons (d_var 2) da_nil))) (fun _ _ => rfl)) (da_cons (d_var 0) da_nil)))))) (db_one (ds_if (dt_cmp (o_eq hu) (d_var 4) d_int (nomark _)) (db_one (ds_set (i := 0) nd (d_tup (da_cons d_str (da_cons (d_var 0) (da_cons (d_call S.c__law_leaf hr (by rfl) (da_cons (d_op o_div (d_var 1) (d_op o_add d_int (d_var 3))) (da_cons (d_var 2) da_nil))) da_nil)))))) (db_one (ds_set (i := 0) nd (d_tup (da_cons d_str (da_cons d_str (da_cons (d_tup (da_cons (d_call S.c__law_leaf hr (by rfl) (da_cons (d_op o_div (d_var 1) (d_op o_add d_int (d_var 3))) (da_cons (d_var 2) da_nil))) (da_cons (d_var 0) da_nil))) da_nil))))))))))))
      (db_one (ds_ret (d_var 0))))
abbrev st_law : Stmt := top 51
theorem sc_law : FnScope ["_law_script", "_law_draws_here", "_law_pool", "_law_draw", "_law_term_here", "_law_text"] ["_law_script"] (defScope st_law) := ⟨rfl, rfl, rfl, by decide +kernel, rfl, by decide +kernel, by decide +kernel⟩
theorem ok_law (T : Txt w K mg) (S : Cs Pg w K mg base n) (F : Fun K "law" "law" st_law f fd) : FnOk Pg w K mg base CX0 (n + 1) f fd ["_law_script"] (spW K pr (n + 1) 36) := fn_okQ F sc_law rfl rfl rfl fun cdv A outer s H E hr => by
    have nd := sc_law.nd
    have hu := hu150 hr
    show SdB _ (defBody st_law) (w_law (wpc pr n))
    unfold w_law
    exact (dbp_cons (dsp_call (j := 1) S.c__law_draws hr (by rfl) (dan_cons (d_var 0) (dan_int da_nil)) nd)
      (db1_cons (SdS.one (ds_set (i := 2) nd (d_lst (da_cons (d_call S.c__law_name hr (by rfl) (da_cons (d_mt0 PySem.F.plainAttrs_list PySem.F.slot_list_pop PySem.F.type_list_pop ty_list m_pop (d_var 1)) da_nil)) (da_cons (d_call S.c__law_name hr (by rfl) (da_cons (d_mt0 PySem.F.plainAttrs_list PySem.F.slot_list_pop PySem.F.type_list_pop ty_list m_pop (d_var 1)) da_nil)) (da_cons (d_call S.c__law_name hr (by rfl) (da_cons (d_mt0 PySem.F.plainAttrs_list PySem.F.slot_list_pop PySem.F.type_list_pop ty_list m_pop (d_var 1)) da_nil)) da_nil))))))
      (db1_cons (SdS.one (ds_set (i := 3) nd (d_mt PySem.F.plainAttrs_list PySem.F.slot_list_pop PySem.F.type_list_pop ty_list m_popAt (d_var 1) (da_cons d_int da_nil))))
      (db1_cons (SdS.one (ds_set (i := 4) nd (d_call S.c__law_wrapped hr (by rfl) (da_cons (d_call S.c__law_term hr (by rfl) (da_cons (d_var 1) (da_cons d_int (da_cons (d_var 2) da_nil)))) (da_cons (d_var 3) (da_cons (d_var 2) da_nil))))))
      (db1_cons (SdS.one (ds_set (i := 5) nd (d_call S.c_show hr (by rfl) (da_cons (d_var 4) da_nil))))
      (db1_one (ds1_ret (d1_and (d1_cmp (o_eq hu) (d1_call S.c_read hr (by rfl) (SdA.one (da_cons (d_var 5) da_nil))) (d_var 4) (nomark _)) (d1_last (d1_cmp (o_eq hu) (d1_call (Ca.one S.c_show) hr (by rfl) (da1_cons (d1_call S.c_read hr (by rfl) (SdA.one (da_cons (d_var 5) da_nil))) da_nil)) (d_var 5) (nomark _)))))))))))
end
theorem all_mk {l : PySem.W.OpenLaw} {w : World} {K : PySem.W.Frag} {h : Heap} {mg : Str → Option Value} {fa f0 f1 f2 f3 f4 f5 f6 f7 f8 f9 f10 f11 f12 f13 f14 f15 f16 f17 f18 f19 f20 f21 f22 f23 f24 f25 f26 f27 f28 f29 f30 f31 f32 f33 f34 f35 f36 : Addr} (X : K.In h) (G : h.Ns mainGlobals mg) (hfa : mg "law" = some (.ref fa))
    {od0 an0 od1 an1 od2 an2 od3 an3 od4 an4 od5 an5 od6 an6 od7 an7 od8 an8 od9 an9 od10 an10 od11 an11 od12 an12 od13 an13 od14 an14 od15 an15 od16 an16 od17 an17 od18 an18 od19 an19 od20 an20 od21 an21 od22 an22 od23 an23 od24 an24 od25 an25 od26 an26 od27 an27 od28 an28 od29 an29 od30 an30 od31 an31 od32 an32 od33 an33 od34 an34 od35 an35 od36 an36 : Option Addr} {sl0 sl1 sl2 sl3 sl4 sl5 sl6 sl7 sl8 sl9 sl10 sl11 sl12 sl13 sl14 sl15 sl16 sl17 sl18 sl19 sl20 sl21 sl22 sl23 sl24 sl25 sl26 sl27 sl28 sl29 sl30 sl31 sl32 sl33 sl34 sl35 sl36 : Array (Option Value)} {oc0 kV0 dc0 pm0 cd0 ct0 oc1 kV1 dc1 pm1 cd1 ct1 oc2 kV2 dc2 pm2 cd2 ct2 oc3 kV3 dc3 pm3 cd3 ct3 oc4 kV4 dc4 pm4 cd4 ct4 oc5 kV5 dc5 pm5 cd5 ct5 oc6 kV6 dc6 pm6 cd6 ct6 oc7 kV7 dc7 pm7 cd7 ct7 oc8 kV8 dc8 pm8 cd8 ct8 oc9 kV9 dc9 pm9 cd9 ct9 oc10 kV10 dc10 pm10 cd10 ct10 oc11 kV11 dc11 pm11 cd11 ct11 oc12 kV12 dc12 pm12 cd12 ct12 oc13 kV13 dc13 pm13 cd13 ct13 oc14 kV14 dc14 pm14 cd14 ct14 oc15 kV15 dc15 pm15 cd15 ct15 oc16 kV16 dc16 pm16 cd16 ct16 oc17 kV17 dc17 pm17 cd17 ct17 oc18 kV18 dc18 pm18 cd18 ct18 oc19 kV19 dc19 pm19 cd19 ct19 oc20 kV20 dc20 pm20 cd20 ct20 oc21 kV21 dc21 pm21 cd21 ct21 oc22 kV22 dc22 pm22 cd22 ct22 oc23 kV23 dc23 pm23 cd23 ct23 oc24 kV24 dc24 pm24 cd24 ct24 oc25 kV25 dc25 pm25 cd25 ct25 oc26 kV26 dc26 pm26 cd26 ct26 oc27 kV27 dc27 pm27 cd27 ct27 oc28 kV28 dc28 pm28 cd28 ct28 oc29 kV29 dc29 pm29 cd29 ct29 oc30 kV30 dc30 pm30 cd30 ct30 oc31 kV31 dc31 pm31 cd31 ct31 oc32 kV32 dc32 pm32 cd32 ct32 oc33 kV33 dc33 pm33 cd33 ct33 oc34 kV34 dc34 pm34 cd34 ct34 oc35 kV35 dc35 pm35 cd35 ct35 oc36 kV36 dc36 pm36 cd36 ct36 : Value}
    (a0 : PySem.W.nsIn K mainGlobals "show" = some (some (.ref f0)))
    (l0 : K.lookup f0 = some ⟨oc0, od0, .func (PySem.W.fnOf "show" "show" (defArgs st_show) (defBody st_show) (defScope st_show) .none kV0 dc0 pm0 an0 cd0 ct0), sl0⟩) (c0 : PySem.W.codeIn K cd0 "show" = true) (k0 : PySem.W.keepIn K (.ref f0) = true)
    (a1 : PySem.W.nsIn K mainGlobals "pieces_of" = some (some (.ref f1)))
    (l1 : K.lookup f1 = some ⟨oc1, od1, .func (PySem.W.fnOf "pieces_of" "pieces_of" (defArgs st_pieces_of) (defBody st_pieces_of) (defScope st_pieces_of) .none kV1 dc1 pm1 an1 cd1 ct1), sl1⟩) (c1 : PySem.W.codeIn K cd1 "pieces_of" = true) (k1 : PySem.W.keepIn K (.ref f1) = true)
    (a2 : PySem.W.nsIn K mainGlobals "inner_pieces" = some (some (.ref f2)))
    (l2 : K.lookup f2 = some ⟨oc2, od2, .func (PySem.W.fnOf "inner_pieces" "inner_pieces" (defArgs st_inner_pieces) (defBody st_inner_pieces) (defScope st_inner_pieces) .none kV2 dc2 pm2 an2 cd2 ct2), sl2⟩) (c2 : PySem.W.codeIn K cd2 "inner_pieces" = true) (k2 : PySem.W.keepIn K (.ref f2) = true)
    (a3 : PySem.W.nsIn K mainGlobals "fun_pieces" = some (some (.ref f3)))
    (l3 : K.lookup f3 = some ⟨oc3, od3, .func (PySem.W.fnOf "fun_pieces" "fun_pieces" (defArgs st_fun_pieces) (defBody st_fun_pieces) (defScope st_fun_pieces) .none kV3 dc3 pm3 an3 cd3 ct3), sl3⟩) (c3 : PySem.W.codeIn K cd3 "fun_pieces" = true) (k3 : PySem.W.keepIn K (.ref f3) = true)
    (a4 : PySem.W.nsIn K mainGlobals "call_pieces" = some (some (.ref f4)))
    (l4 : K.lookup f4 = some ⟨oc4, od4, .func (PySem.W.fnOf "call_pieces" "call_pieces" (defArgs st_call_pieces) (defBody st_call_pieces) (defScope st_call_pieces) .none kV4 dc4 pm4 an4 cd4 ct4), sl4⟩) (c4 : PySem.W.codeIn K cd4 "call_pieces" = true) (k4 : PySem.W.keepIn K (.ref f4) = true)
    (a5 : PySem.W.nsIn K mainGlobals "bracketed" = some (some (.ref f5)))
    (l5 : K.lookup f5 = some ⟨oc5, od5, .func (PySem.W.fnOf "bracketed" "bracketed" (defArgs st_bracketed) (defBody st_bracketed) (defScope st_bracketed) .none kV5 dc5 pm5 an5 cd5 ct5), sl5⟩) (c5 : PySem.W.codeIn K cd5 "bracketed" = true) (k5 : PySem.W.keepIn K (.ref f5) = true)
    (a6 : PySem.W.nsIn K mainGlobals "is_name" = some (some (.ref f6)))
    (l6 : K.lookup f6 = some ⟨oc6, od6, .func (PySem.W.fnOf "is_name" "is_name" (defArgs st_is_name) (defBody st_is_name) (defScope st_is_name) .none kV6 dc6 pm6 an6 cd6 ct6), sl6⟩) (c6 : PySem.W.codeIn K cd6 "is_name" = true) (k6 : PySem.W.keepIn K (.ref f6) = true)
    (a7 : PySem.W.nsIn K mainGlobals "read" = some (some (.ref f7)))
    (l7 : K.lookup f7 = some ⟨oc7, od7, .func (PySem.W.fnOf "read" "read" (defArgs st_read) (defBody st_read) (defScope st_read) .none kV7 dc7 pm7 an7 cd7 ct7), sl7⟩) (c7 : PySem.W.codeIn K cd7 "read" = true) (k7 : PySem.W.keepIn K (.ref f7) = true)
    (a8 : PySem.W.nsIn K mainGlobals "words_of" = some (some (.ref f8)))
    (l8 : K.lookup f8 = some ⟨oc8, od8, .func (PySem.W.fnOf "words_of" "words_of" (defArgs st_words_of) (defBody st_words_of) (defScope st_words_of) .none kV8 dc8 pm8 an8 cd8 ct8), sl8⟩) (c8 : PySem.W.codeIn K cd8 "words_of" = true) (k8 : PySem.W.keepIn K (.ref f8) = true)
    (a9 : PySem.W.nsIn K mainGlobals "tree_of" = some (some (.ref f9)))
    (l9 : K.lookup f9 = some ⟨oc9, od9, .func (PySem.W.fnOf "tree_of" "tree_of" (defArgs st_tree_of) (defBody st_tree_of) (defScope st_tree_of) .none kV9 dc9 pm9 an9 cd9 ct9), sl9⟩) (c9 : PySem.W.codeIn K cd9 "tree_of" = true) (k9 : PySem.W.keepIn K (.ref f9) = true)
    (a10 : PySem.W.nsIn K mainGlobals "term_of" = some (some (.ref f10)))
    (l10 : K.lookup f10 = some ⟨oc10, od10, .func (PySem.W.fnOf "term_of" "term_of" (defArgs st_term_of) (defBody st_term_of) (defScope st_term_of) .none kV10 dc10 pm10 an10 cd10 ct10), sl10⟩) (c10 : PySem.W.codeIn K cd10 "term_of" = true) (k10 : PySem.W.keepIn K (.ref f10) = true)
    (a11 : PySem.W.nsIn K mainGlobals "word_term" = some (some (.ref f11)))
    (l11 : K.lookup f11 = some ⟨oc11, od11, .func (PySem.W.fnOf "word_term" "word_term" (defArgs st_word_term) (defBody st_word_term) (defScope st_word_term) .none kV11 dc11 pm11 an11 cd11 ct11), sl11⟩) (c11 : PySem.W.codeIn K cd11 "word_term" = true) (k11 : PySem.W.keepIn K (.ref f11) = true)
    (a12 : PySem.W.nsIn K mainGlobals "is_number" = some (some (.ref f12)))
    (l12 : K.lookup f12 = some ⟨oc12, od12, .func (PySem.W.fnOf "is_number" "is_number" (defArgs st_is_number) (defBody st_is_number) (defScope st_is_number) .none kV12 dc12 pm12 an12 cd12 ct12), sl12⟩) (c12 : PySem.W.codeIn K cd12 "is_number" = true) (k12 : PySem.W.keepIn K (.ref f12) = true)
    (a13 : PySem.W.nsIn K mainGlobals "two_terms" = some (some (.ref f13)))
    (l13 : K.lookup f13 = some ⟨oc13, od13, .func (PySem.W.fnOf "two_terms" "two_terms" (defArgs st_two_terms) (defBody st_two_terms) (defScope st_two_terms) .none kV13 dc13 pm13 an13 cd13 ct13), sl13⟩) (c13 : PySem.W.codeIn K cd13 "two_terms" = true) (k13 : PySem.W.keepIn K (.ref f13) = true)
    (a14 : PySem.W.nsIn K mainGlobals "fun_term" = some (some (.ref f14)))
    (l14 : K.lookup f14 = some ⟨oc14, od14, .func (PySem.W.fnOf "fun_term" "fun_term" (defArgs st_fun_term) (defBody st_fun_term) (defScope st_fun_term) .none kV14 dc14 pm14 an14 cd14 ct14), sl14⟩) (c14 : PySem.W.codeIn K cd14 "fun_term" = true) (k14 : PySem.W.keepIn K (.ref f14) = true)
    (a15 : PySem.W.nsIn K mainGlobals "call_term" = some (some (.ref f15)))
    (l15 : K.lookup f15 = some ⟨oc15, od15, .func (PySem.W.fnOf "call_term" "call_term" (defArgs st_call_term) (defBody st_call_term) (defScope st_call_term) .none kV15 dc15 pm15 an15 cd15 ct15), sl15⟩) (c15 : PySem.W.codeIn K cd15 "call_term" = true) (k15 : PySem.W.keepIn K (.ref f15) = true)
    (a16 : PySem.W.nsIn K mainGlobals "let_term" = some (some (.ref f16)))
    (l16 : K.lookup f16 = some ⟨oc16, od16, .func (PySem.W.fnOf "let_term" "let_term" (defArgs st_let_term) (defBody st_let_term) (defScope st_let_term) .none kV16 dc16 pm16 an16 cd16 ct16), sl16⟩) (c16 : PySem.W.codeIn K cd16 "let_term" = true) (k16 : PySem.W.keepIn K (.ref f16) = true)
    (a17 : PySem.W.nsIn K mainGlobals "pair_of" = some (some (.ref f17)))
    (l17 : K.lookup f17 = some ⟨oc17, od17, .func (PySem.W.fnOf "pair_of" "pair_of" (defArgs st_pair_of) (defBody st_pair_of) (defScope st_pair_of) .none kV17 dc17 pm17 an17 cd17 ct17), sl17⟩) (c17 : PySem.W.codeIn K cd17 "pair_of" = true) (k17 : PySem.W.keepIn K (.ref f17) = true)
    (a18 : PySem.W.nsIn K mainGlobals "choose_term" = some (some (.ref f18)))
    (l18 : K.lookup f18 = some ⟨oc18, od18, .func (PySem.W.fnOf "choose_term" "choose_term" (defArgs st_choose_term) (defBody st_choose_term) (defScope st_choose_term) .none kV18 dc18 pm18 an18 cd18 ct18), sl18⟩) (c18 : PySem.W.codeIn K cd18 "choose_term" = true) (k18 : PySem.W.keepIn K (.ref f18) = true)
    (a19 : PySem.W.nsIn K mainGlobals "alternative_of" = some (some (.ref f19)))
    (l19 : K.lookup f19 = some ⟨oc19, od19, .func (PySem.W.fnOf "alternative_of" "alternative_of" (defArgs st_alternative_of) (defBody st_alternative_of) (defScope st_alternative_of) .none kV19 dc19 pm19 an19 cd19 ct19), sl19⟩) (c19 : PySem.W.codeIn K cd19 "alternative_of" = true) (k19 : PySem.W.keepIn K (.ref f19) = true)
    (a20 : PySem.W.nsIn K mainGlobals "stop_term" = some (some (.ref f20)))
    (l20 : K.lookup f20 = some ⟨oc20, od20, .func (PySem.W.fnOf "stop_term" "stop_term" (defArgs st_stop_term) (defBody st_stop_term) (defScope st_stop_term) .none kV20 dc20 pm20 an20 cd20 ct20), sl20⟩) (c20 : PySem.W.codeIn K cd20 "stop_term" = true) (k20 : PySem.W.keepIn K (.ref f20) = true)
    (a21 : PySem.W.nsIn K mainGlobals "rows_term" = some (some (.ref f21)))
    (l21 : K.lookup f21 = some ⟨oc21, od21, .func (PySem.W.fnOf "rows_term" "rows_term" (defArgs st_rows_term) (defBody st_rows_term) (defScope st_rows_term) .none kV21 dc21 pm21 an21 cd21 ct21), sl21⟩) (c21 : PySem.W.codeIn K cd21 "rows_term" = true) (k21 : PySem.W.keepIn K (.ref f21) = true)
    (a22 : PySem.W.nsIn K mainGlobals "step_of" = some (some (.ref f22)))
    (l22 : K.lookup f22 = some ⟨oc22, od22, .func (PySem.W.fnOf "step_of" "step_of" (defArgs st_step_of) (defBody st_step_of) (defScope st_step_of) .none kV22 dc22 pm22 an22 cd22 ct22), sl22⟩) (c22 : PySem.W.codeIn K cd22 "step_of" = true) (k22 : PySem.W.keepIn K (.ref f22) = true)
    (a23 : PySem.W.nsIn K mainGlobals "items_of" = some (some (.ref f23)))
    (l23 : K.lookup f23 = some ⟨oc23, od23, .func (PySem.W.fnOf "items_of" "items_of" (defArgs st_items_of) (defBody st_items_of) (defScope st_items_of) .none kV23 dc23 pm23 an23 cd23 ct23), sl23⟩) (c23 : PySem.W.codeIn K cd23 "items_of" = true) (k23 : PySem.W.keepIn K (.ref f23) = true)
    (a24 : PySem.W.nsIn K mainGlobals "name_of" = some (some (.ref f24)))
    (l24 : K.lookup f24 = some ⟨oc24, od24, .func (PySem.W.fnOf "name_of" "name_of" (defArgs st_name_of) (defBody st_name_of) (defScope st_name_of) .none kV24 dc24 pm24 an24 cd24 ct24), sl24⟩) (c24 : PySem.W.codeIn K cd24 "name_of" = true) (k24 : PySem.W.keepIn K (.ref f24) = true)
    (a25 : PySem.W.nsIn K mainGlobals "refuse_alike" = some (some (.ref f25)))
    (l25 : K.lookup f25 = some ⟨oc25, od25, .func (PySem.W.fnOf "refuse_alike" "refuse_alike" (defArgs st_refuse_alike) (defBody st_refuse_alike) (defScope st_refuse_alike) .none kV25 dc25 pm25 an25 cd25 ct25), sl25⟩) (c25 : PySem.W.codeIn K cd25 "refuse_alike" = true) (k25 : PySem.W.keepIn K (.ref f25) = true)
    (a26 : PySem.W.nsIn K mainGlobals "_law_draws" = some (some (.ref f26)))
    (l26 : K.lookup f26 = some ⟨oc26, od26, .func (PySem.W.fnOf "_law_draws" "_law_draws" (defArgs st__law_draws) (defBody st__law_draws) (defScope st__law_draws) .none kV26 dc26 pm26 an26 cd26 ct26), sl26⟩) (c26 : PySem.W.codeIn K cd26 "_law_draws" = true) (k26 : PySem.W.keepIn K (.ref f26) = true)
    (a27 : PySem.W.nsIn K mainGlobals "_law_name" = some (some (.ref f27)))
    (l27 : K.lookup f27 = some ⟨oc27, od27, .func (PySem.W.fnOf "_law_name" "_law_name" (defArgs st__law_name) (defBody st__law_name) (defScope st__law_name) .none kV27 dc27 pm27 an27 cd27 ct27), sl27⟩) (c27 : PySem.W.codeIn K cd27 "_law_name" = true) (k27 : PySem.W.keepIn K (.ref f27) = true)
    (a28 : PySem.W.nsIn K mainGlobals "_law_unlike" = some (some (.ref f28)))
    (l28 : K.lookup f28 = some ⟨oc28, od28, .func (PySem.W.fnOf "_law_unlike" "_law_unlike" (defArgs st__law_unlike) (defBody st__law_unlike) (defScope st__law_unlike) .none kV28 dc28 pm28 an28 cd28 ct28), sl28⟩) (c28 : PySem.W.codeIn K cd28 "_law_unlike" = true) (k28 : PySem.W.keepIn K (.ref f28) = true)
    (a29 : PySem.W.nsIn K mainGlobals "_law_leaf" = some (some (.ref f29)))
    (l29 : K.lookup f29 = some ⟨oc29, od29, .func (PySem.W.fnOf "_law_leaf" "_law_leaf" (defArgs st__law_leaf) (defBody st__law_leaf) (defScope st__law_leaf) .none kV29 dc29 pm29 an29 cd29 ct29), sl29⟩) (c29 : PySem.W.codeIn K cd29 "_law_leaf" = true) (k29 : PySem.W.keepIn K (.ref f29) = true)
    (a30 : PySem.W.nsIn K mainGlobals "_law_chosen" = some (some (.ref f30)))
    (l30 : K.lookup f30 = some ⟨oc30, od30, .func (PySem.W.fnOf "_law_chosen" "_law_chosen" (defArgs st__law_chosen) (defBody st__law_chosen) (defScope st__law_chosen) .none kV30 dc30 pm30 an30 cd30 ct30), sl30⟩) (c30 : PySem.W.codeIn K cd30 "_law_chosen" = true) (k30 : PySem.W.keepIn K (.ref f30) = true)
    (a31 : PySem.W.nsIn K mainGlobals "_law_rows" = some (some (.ref f31)))
    (l31 : K.lookup f31 = some ⟨oc31, od31, .func (PySem.W.fnOf "_law_rows" "_law_rows" (defArgs st__law_rows) (defBody st__law_rows) (defScope st__law_rows) .none kV31 dc31 pm31 an31 cd31 ct31), sl31⟩) (c31 : PySem.W.codeIn K cd31 "_law_rows" = true) (k31 : PySem.W.keepIn K (.ref f31) = true)
    (a32 : PySem.W.nsIn K mainGlobals "_law_joined" = some (some (.ref f32)))
    (l32 : K.lookup f32 = some ⟨oc32, od32, .func (PySem.W.fnOf "_law_joined" "_law_joined" (defArgs st__law_joined) (defBody st__law_joined) (defScope st__law_joined) .none kV32 dc32 pm32 an32 cd32 ct32), sl32⟩) (c32 : PySem.W.codeIn K cd32 "_law_joined" = true) (k32 : PySem.W.keepIn K (.ref f32) = true)
    (a33 : PySem.W.nsIn K mainGlobals "_law_many" = some (some (.ref f33)))
    (l33 : K.lookup f33 = some ⟨oc33, od33, .func (PySem.W.fnOf "_law_many" "_law_many" (defArgs st__law_many) (defBody st__law_many) (defScope st__law_many) .none kV33 dc33 pm33 an33 cd33 ct33), sl33⟩) (c33 : PySem.W.codeIn K cd33 "_law_many" = true) (k33 : PySem.W.keepIn K (.ref f33) = true)
    (a34 : PySem.W.nsIn K mainGlobals "_law_term" = some (some (.ref f34)))
    (l34 : K.lookup f34 = some ⟨oc34, od34, .func (PySem.W.fnOf "_law_term" "_law_term" (defArgs st__law_term) (defBody st__law_term) (defScope st__law_term) .none kV34 dc34 pm34 an34 cd34 ct34), sl34⟩) (c34 : PySem.W.codeIn K cd34 "_law_term" = true) (k34 : PySem.W.keepIn K (.ref f34) = true)
    (a35 : PySem.W.nsIn K mainGlobals "_law_wrapped" = some (some (.ref f35)))
    (l35 : K.lookup f35 = some ⟨oc35, od35, .func (PySem.W.fnOf "_law_wrapped" "_law_wrapped" (defArgs st__law_wrapped) (defBody st__law_wrapped) (defScope st__law_wrapped) .none kV35 dc35 pm35 an35 cd35 ct35), sl35⟩) (c35 : PySem.W.codeIn K cd35 "_law_wrapped" = true) (k35 : PySem.W.keepIn K (.ref f35) = true)
    (a36 : PySem.W.nsIn K mainGlobals "law" = some (some (.ref f36)))
    (l36 : K.lookup f36 = some ⟨oc36, od36, .func (PySem.W.fnOf "law" "law" (defArgs st_law) (defBody st_law) (defScope st_law) .none kV36 dc36 pm36 an36 cd36 ct36), sl36⟩) (c36 : PySem.W.codeIn K cd36 "law" = true) (k36 : PySem.W.keepIn K (.ref f36) = true)
    (z_all : PySem.W.nsIn K mainGlobals "all" = some none)
    (z_int : PySem.W.nsIn K mainGlobals "int" = some none)
    (z_isinstance : PySem.W.nsIn K mainGlobals "isinstance" = some none)
    (z_len : PySem.W.nsIn K mainGlobals "len" = some none)
    (z_list : PySem.W.nsIn K mainGlobals "list" = some none)
    (z_max : PySem.W.nsIn K mainGlobals "max" = some none)
    (z_range : PySem.W.nsIn K mainGlobals "range" = some none)
    (z_reversed : PySem.W.nsIn K mainGlobals "reversed" = some none)
    (z_set : PySem.W.nsIn K mainGlobals "set" = some none)
    (z_str : PySem.W.nsIn K mainGlobals "str" = some none)
    (z_tuple : PySem.W.nsIn K mainGlobals "tuple" = some none)
    {u_FIGURES : Value} (gg_FIGURES : PySem.W.nsIn K mainGlobals "FIGURES" = some (some u_FIGURES)) (r_FIGURES : RelV (V.str "0123456789") u_FIGURES)
    {u_LETTERS : Value} (gg_LETTERS : PySem.W.nsIn K mainGlobals "LETTERS" = some (some u_LETTERS)) (r_LETTERS : RelV (V.str "abcdefghijklmnopqrstuvwxyz") u_LETTERS)
    {gt_WORDS_0 : Tok}
    {gt_WORDS_1 : Tok}
    {gt_WORDS_2 : Tok}
    {gt_WORDS_3 : Tok}
    {gt_WORDS_4 : Tok}
    {gt_WORDS_5 : Tok}
    {gt_WORDS_6 : Tok}
    {gt_WORDS_7 : Tok}
    {gt_WORDS_8 : Tok}
    {ga_WORDS : Addr} {gn_WORDS : Nat} {gs_WORDS : Array (Option Value)} (gk_WORDS : K.lookup ga_WORDS = some ⟨.type "tuple", none, .seq #[.str "fun" gt_WORDS_0, .str "let" gt_WORDS_1, .str "choose" gt_WORDS_2, .str "first" gt_WORDS_3, .str "stop" gt_WORDS_4, .str "rows" gt_WORDS_5, .str "in" gt_WORDS_6, .str "when" gt_WORDS_7, .str "be" gt_WORDS_8] gn_WORDS, gs_WORDS⟩)
    (gg_WORDS : PySem.W.nsIn K mainGlobals "WORDS" = some (some (.ref ga_WORDS)))
    {gt_OPS_0 : Tok}
    {gt_OPS_1 : Tok}
    {gt_OPS_2 : Tok}
    {gt_OPS_3 : Tok}
    {gt_OPS_4 : Tok}
    {ga_OPS : Addr} {gn_OPS : Nat} {gs_OPS : Array (Option Value)} (gk_OPS : K.lookup ga_OPS = some ⟨.type "tuple", none, .seq #[.str "+" gt_OPS_0, .str "-" gt_OPS_1, .str "*" gt_OPS_2, .str "<" gt_OPS_3, .str "=" gt_OPS_4] gn_OPS, gs_OPS⟩)
    (gg_OPS : PySem.W.nsIn K mainGlobals "OPS" = some (some (.ref ga_OPS)))
    {ga_SHAPES : Addr} {gn_SHAPES : Nat} {gt_SHAPES_0 gu_SHAPES_0 gt_SHAPES_1 gu_SHAPES_1 gt_SHAPES_2 gu_SHAPES_2 gt_SHAPES_3 gu_SHAPES_3 gt_SHAPES_4 gu_SHAPES_4 : Tok} (gg_SHAPES : PySem.W.nsIn K mainGlobals "SHAPES" = some (some (.ref ga_SHAPES))) (gk_SHAPES : K.lookup ga_SHAPES = some ⟨.type "dict", none, .dict #[⟨PyData.keyHash w.params "Nil", .str "Nil" gt_SHAPES_0, .int 0 gu_SHAPES_0⟩, ⟨PyData.keyHash w.params "Cons", .str "Cons" gt_SHAPES_1, .int 2 gu_SHAPES_1⟩, ⟨PyData.keyHash w.params "No", .str "No" gt_SHAPES_2, .int 0 gu_SHAPES_2⟩, ⟨PyData.keyHash w.params "Yes", .str "Yes" gt_SHAPES_3, .int 0 gu_SHAPES_3⟩, ⟨PyData.keyHash w.params "Pair", .str "Pair" gt_SHAPES_4, .int 2 gu_SHAPES_4⟩] gn_SHAPES, #[]⟩) (gl_SHAPES : (ga_SHAPES == sysModules) = false)
    {u_MOST_FIGURES : Value} (gg_MOST_FIGURES : PySem.W.nsIn K mainGlobals "MOST_FIGURES" = some (some u_MOST_FIGURES)) (r_MOST_FIGURES : RelV (V.int 18) u_MOST_FIGURES)
    {u_MOST_PAIRS : Value} (gg_MOST_PAIRS : PySem.W.nsIn K mainGlobals "MOST_PAIRS" = some (some u_MOST_PAIRS)) (r_MOST_PAIRS : RelV (V.int 5) u_MOST_PAIRS)
    {gt_FAMILIES_0 : Tok}
    {gt_FAMILIES_1 : Tok}
    {ga_FAMILIES_2 : Addr} {gn_FAMILIES_2 : Nat} {gs_FAMILIES_2 : Array (Option Value)} (gk_FAMILIES_2 : K.lookup ga_FAMILIES_2 = some ⟨.type "tuple", none, .seq #[.str "Nil" gt_FAMILIES_0, .str "Cons" gt_FAMILIES_1] gn_FAMILIES_2, gs_FAMILIES_2⟩)
    {gt_FAMILIES_3 : Tok}
    {gt_FAMILIES_4 : Tok}
    {ga_FAMILIES_5 : Addr} {gn_FAMILIES_5 : Nat} {gs_FAMILIES_5 : Array (Option Value)} (gk_FAMILIES_5 : K.lookup ga_FAMILIES_5 = some ⟨.type "tuple", none, .seq #[.str "No" gt_FAMILIES_3, .str "Yes" gt_FAMILIES_4] gn_FAMILIES_5, gs_FAMILIES_5⟩)
    {gt_FAMILIES_6 : Tok}
    {ga_FAMILIES_7 : Addr} {gn_FAMILIES_7 : Nat} {gs_FAMILIES_7 : Array (Option Value)} (gk_FAMILIES_7 : K.lookup ga_FAMILIES_7 = some ⟨.type "tuple", none, .seq #[.str "Pair" gt_FAMILIES_6] gn_FAMILIES_7, gs_FAMILIES_7⟩)
    {ga_FAMILIES : Addr} {gn_FAMILIES : Nat} {gs_FAMILIES : Array (Option Value)} (gk_FAMILIES : K.lookup ga_FAMILIES = some ⟨.type "tuple", none, .seq #[.ref ga_FAMILIES_2, .ref ga_FAMILIES_5, .ref ga_FAMILIES_7] gn_FAMILIES, gs_FAMILIES⟩)
    (gg_FAMILIES : PySem.W.nsIn K mainGlobals "FAMILIES" = some (some (.ref ga_FAMILIES)))
    : ∃ fd : FuncData, (∀ (s : Shared) (v : Value), BindsTo s fd ⟨[v], []⟩ [("_law_script", v)]) ∧ ∀ base : Heap, K.In base → base.Ns mainGlobals mg → FnOk l.prog w K mg base CX0 60 fa fd ["_law_script"] (spW K pr 60 36) := by
  have e := hfa.symm.trans (PySem.W.mg_of X G a36)
  cases e
  have T : Txt w K mg := ⟨PySem.W.mg_none_of X G z_all, PySem.W.mg_none_of X G z_int, PySem.W.mg_none_of X G z_isinstance, PySem.W.mg_none_of X G z_len, PySem.W.mg_none_of X G z_list, PySem.W.mg_none_of X G z_max, PySem.W.mg_none_of X G z_range, PySem.W.mg_none_of X G z_reversed, PySem.W.mg_none_of X G z_set, PySem.W.mg_none_of X G z_str, PySem.W.mg_none_of X G z_tuple, ⟨_, u_FIGURES, PySem.W.mg_of X G gg_FIGURES, r_FIGURES, fun _ => rep_str⟩, ⟨_, u_LETTERS, PySem.W.mg_of X G gg_LETTERS, r_LETTERS, fun _ => rep_str⟩, ⟨.ref ga_WORDS, .ref ga_WORDS, PySem.W.mg_of X G gg_WORDS, rfl, fun H => (rep_ktup (xs := [V.str "fun", V.str "let", V.str "choose", V.str "first", V.str "stop", V.str "rows", V.str "in", V.str "when", V.str "be"]) gk_WORDS (show 9 ≤ sizeLine by decide) (.cons ⟨_, rfl⟩ (.cons ⟨_, rfl⟩ (.cons ⟨_, rfl⟩ (.cons ⟨_, rfl⟩ (.cons ⟨_, rfl⟩ (.cons ⟨_, rfl⟩ (.cons ⟨_, rfl⟩ (.cons ⟨_, rfl⟩ (.cons ⟨_, rfl⟩ .nil))))))))) (reps_cons rep_str (reps_cons rep_str (reps_cons rep_str (reps_cons rep_str (reps_cons rep_str (reps_cons rep_str (reps_cons rep_str (reps_cons rep_str (reps_cons rep_str reps_nil))))))))))⟩, ⟨.ref ga_OPS, .ref ga_OPS, PySem.W.mg_of X G gg_OPS, rfl, fun H => (rep_ktup (xs := [V.str "+", V.str "-", V.str "*", V.str "<", V.str "="]) gk_OPS (show 5 ≤ sizeLine by decide) (.cons ⟨_, rfl⟩ (.cons ⟨_, rfl⟩ (.cons ⟨_, rfl⟩ (.cons ⟨_, rfl⟩ (.cons ⟨_, rfl⟩ .nil))))) (reps_cons rep_str (reps_cons rep_str (reps_cons rep_str (reps_cons rep_str (reps_cons rep_str reps_nil))))))⟩, ⟨ga_SHAPES, _, gn_SHAPES, PySem.W.mg_of X G gg_SHAPES, gl_SHAPES, gk_SHAPES, ⟨⟨_, rfl⟩, rfl, _, rfl⟩, ⟨⟨_, rfl⟩, rfl, _, rfl⟩, ⟨⟨_, rfl⟩, rfl, _, rfl⟩, ⟨⟨_, rfl⟩, rfl, _, rfl⟩, ⟨⟨_, rfl⟩, rfl, _, rfl⟩, trivial⟩, ⟨_, u_MOST_FIGURES, PySem.W.mg_of X G gg_MOST_FIGURES, r_MOST_FIGURES, fun _ => rep_int⟩, ⟨_, u_MOST_PAIRS, PySem.W.mg_of X G gg_MOST_PAIRS, r_MOST_PAIRS, fun _ => rep_int⟩, ⟨.ref ga_FAMILIES, .ref ga_FAMILIES, PySem.W.mg_of X G gg_FAMILIES, rfl, fun H => (rep_ktup (xs := [V.ref ga_FAMILIES_2, V.ref ga_FAMILIES_5, V.ref ga_FAMILIES_7]) gk_FAMILIES (show 3 ≤ sizeLine by decide) (.cons rfl (.cons rfl (.cons rfl .nil))) (reps_cons (rep_ktup (xs := [V.str "Nil", V.str "Cons"]) gk_FAMILIES_2 (show 2 ≤ sizeLine by decide) (.cons ⟨_, rfl⟩ (.cons ⟨_, rfl⟩ .nil)) (reps_cons rep_str (reps_cons rep_str reps_nil))) (reps_cons (rep_ktup (xs := [V.str "No", V.str "Yes"]) gk_FAMILIES_5 (show 2 ≤ sizeLine by decide) (.cons ⟨_, rfl⟩ (.cons ⟨_, rfl⟩ .nil)) (reps_cons rep_str (reps_cons rep_str reps_nil))) (reps_cons (rep_ktup (xs := [V.str "Pair"]) gk_FAMILIES_7 (show 1 ≤ sizeLine by decide) (.cons ⟨_, rfl⟩ .nil) (reps_cons rep_str reps_nil)) reps_nil))))⟩⟩
  have F0 := fun_mk (st := st_show) l0 c0 k0
  have B0 : Binds K _ ["term"] [] := F0.binds (fun _ _ _ _ _ _ us hl => match us, hl with | [_], _ => rfl)
  have M0 := PySem.W.mg_of X G a0
  have F1 := fun_mk (st := st_pieces_of) l1 c1 k1
  have B1 : Binds K _ ["term"] [] := F1.binds (fun _ _ _ _ _ _ us hl => match us, hl with | [_], _ => rfl)
  have M1 := PySem.W.mg_of X G a1
  have F2 := fun_mk (st := st_inner_pieces) l2 c2 k2
  have B2 : Binds K _ ["term"] [] := F2.binds (fun _ _ _ _ _ _ us hl => match us, hl with | [_], _ => rfl)
  have M2 := PySem.W.mg_of X G a2
  have F3 := fun_mk (st := st_fun_pieces) l3 c3 k3
  have B3 : Binds K _ ["term"] [] := F3.binds (fun _ _ _ _ _ _ us hl => match us, hl with | [_], _ => rfl)
  have M3 := PySem.W.mg_of X G a3
  have F4 := fun_mk (st := st_call_pieces) l4 c4 k4
  have B4 : Binds K _ ["term"] [] := F4.binds (fun _ _ _ _ _ _ us hl => match us, hl with | [_], _ => rfl)
  have M4 := PySem.W.mg_of X G a4
  have F5 := fun_mk (st := st_bracketed) l5 c5 k5
  have B5 : Binds K _ ["groups"] [] := F5.binds (fun _ _ _ _ _ _ us hl => match us, hl with | [_], _ => rfl)
  have M5 := PySem.W.mg_of X G a5
  have F6 := fun_mk (st := st_is_name) l6 c6 k6
  have B6 : Binds K _ ["text"] [] := F6.binds (fun _ _ _ _ _ _ us hl => match us, hl with | [_], _ => rfl)
  have M6 := PySem.W.mg_of X G a6
  have F7 := fun_mk (st := st_read) l7 c7 k7
  have B7 : Binds K _ ["text"] [] := F7.binds (fun _ _ _ _ _ _ us hl => match us, hl with | [_], _ => rfl)
  have M7 := PySem.W.mg_of X G a7
  have F8 := fun_mk (st := st_words_of) l8 c8 k8
  have B8 : Binds K _ ["text"] [] := F8.binds (fun _ _ _ _ _ _ us hl => match us, hl with | [_], _ => rfl)
  have M8 := PySem.W.mg_of X G a8
  have F9 := fun_mk (st := st_tree_of) l9 c9 k9
  have B9 : Binds K _ ["words"] [] := F9.binds (fun _ _ _ _ _ _ us hl => match us, hl with | [_], _ => rfl)
  have M9 := PySem.W.mg_of X G a9
  have F10 := fun_mk (st := st_term_of) l10 c10 k10
  have B10 : Binds K _ ["tree"] [] := F10.binds (fun _ _ _ _ _ _ us hl => match us, hl with | [_], _ => rfl)
  have M10 := PySem.W.mg_of X G a10
  have F11 := fun_mk (st := st_word_term) l11 c11 k11
  have B11 : Binds K _ ["word"] [] := F11.binds (fun _ _ _ _ _ _ us hl => match us, hl with | [_], _ => rfl)
  have M11 := PySem.W.mg_of X G a11
  have F12 := fun_mk (st := st_is_number) l12 c12 k12
  have B12 : Binds K _ ["word"] [] := F12.binds (fun _ _ _ _ _ _ us hl => match us, hl with | [_], _ => rfl)
  have M12 := PySem.W.mg_of X G a12
  have F13 := fun_mk (st := st_two_terms) l13 c13 k13
  have B13 : Binds K _ ["trees"] [] := F13.binds (fun _ _ _ _ _ _ us hl => match us, hl with | [_], _ => rfl)
  have M13 := PySem.W.mg_of X G a13
  have F14 := fun_mk (st := st_fun_term) l14 c14 k14
  have B14 : Binds K _ ["trees"] [] := F14.binds (fun _ _ _ _ _ _ us hl => match us, hl with | [_], _ => rfl)
  have M14 := PySem.W.mg_of X G a14
  have F15 := fun_mk (st := st_call_term) l15 c15 k15
  have B15 : Binds K _ ["trees"] [] := F15.binds (fun _ _ _ _ _ _ us hl => match us, hl with | [_], _ => rfl)
  have M15 := PySem.W.mg_of X G a15
  have F16 := fun_mk (st := st_let_term) l16 c16 k16
  have B16 : Binds K _ ["trees"] [] := F16.binds (fun _ _ _ _ _ _ us hl => match us, hl with | [_], _ => rfl)
  have M16 := PySem.W.mg_of X G a16
  have F17 := fun_mk (st := st_pair_of) l17 c17 k17
  have B17 : Binds K _ ["tree"] [] := F17.binds (fun _ _ _ _ _ _ us hl => match us, hl with | [_], _ => rfl)
  have M17 := PySem.W.mg_of X G a17
  have F18 := fun_mk (st := st_choose_term) l18 c18 k18
  have B18 : Binds K _ ["trees"] [] := F18.binds (fun _ _ _ _ _ _ us hl => match us, hl with | [_], _ => rfl)
  have M18 := PySem.W.mg_of X G a18
  have F19 := fun_mk (st := st_alternative_of) l19 c19 k19
  have B19 : Binds K _ ["tree"] [] := F19.binds (fun _ _ _ _ _ _ us hl => match us, hl with | [_], _ => rfl)
  have M19 := PySem.W.mg_of X G a19
  have F20 := fun_mk (st := st_stop_term) l20 c20 k20
  have B20 : Binds K _ ["trees"] [] := F20.binds (fun _ _ _ _ _ _ us hl => match us, hl with | [_], _ => rfl)
  have M20 := PySem.W.mg_of X G a20
  have F21 := fun_mk (st := st_rows_term) l21 c21 k21
  have B21 : Binds K _ ["trees"] [] := F21.binds (fun _ _ _ _ _ _ us hl => match us, hl with | [_], _ => rfl)
  have M21 := PySem.W.mg_of X G a21
  have F22 := fun_mk (st := st_step_of) l22 c22 k22
  have B22 : Binds K _ ["tree"] [] := F22.binds (fun _ _ _ _ _ _ us hl => match us, hl with | [_], _ => rfl)
  have M22 := PySem.W.mg_of X G a22
  have F23 := fun_mk (st := st_items_of) l23 c23 k23
  have B23 : Binds K _ ["tree"] [] := F23.binds (fun _ _ _ _ _ _ us hl => match us, hl with | [_], _ => rfl)
  have M23 := PySem.W.mg_of X G a23
  have F24 := fun_mk (st := st_name_of) l24 c24 k24
  have B24 : Binds K _ ["tree"] [] := F24.binds (fun _ _ _ _ _ _ us hl => match us, hl with | [_], _ => rfl)
  have M24 := PySem.W.mg_of X G a24
  have F25 := fun_mk (st := st_refuse_alike) l25 c25 k25
  have B25 : Binds K _ ["names"] [] := F25.binds (fun _ _ _ _ _ _ us hl => match us, hl with | [_], _ => rfl)
  have M25 := PySem.W.mg_of X G a25
  have F26 := fun_mk (st := st__law_draws) l26 c26 k26
  have B26 : Binds K _ ["_law_script", "_law_many_here"] [] := F26.binds (fun _ _ _ _ _ _ us hl => match us, hl with | [_, _], _ => rfl)
  have M26 := PySem.W.mg_of X G a26
  have F27 := fun_mk (st := st__law_name) l27 c27 k27
  have B27 : Binds K _ ["_law_draw"] [] := F27.binds (fun _ _ _ _ _ _ us hl => match us, hl with | [_], _ => rfl)
  have M27 := PySem.W.mg_of X G a27
  have F28 := fun_mk (st := st__law_unlike) l28 c28 k28
  have B28 : Binds K _ ["_law_draw", "_law_many_here", "_law_pool"] [] := F28.binds (fun _ _ _ _ _ _ us hl => match us, hl with | [_, _, _], _ => rfl)
  have M28 := PySem.W.mg_of X G a28
  have F29 := fun_mk (st := st__law_leaf) l29 c29 k29
  have B29 : Binds K _ ["_law_draw", "_law_pool"] [] := F29.binds (fun _ _ _ _ _ _ us hl => match us, hl with | [_, _], _ => rfl)
  have M29 := PySem.W.mg_of X G a29
  have F30 := fun_mk (st := st__law_chosen) l30 c30 k30
  have B30 : Binds K _ ["_law_draw", "_law_some", "_law_pool"] [] := F30.binds (fun _ _ _ _ _ _ us hl => match us, hl with | [_, _, _], _ => rfl)
  have M30 := PySem.W.mg_of X G a30
  have F31 := fun_mk (st := st__law_rows) l31 c31 k31
  have B31 : Binds K _ ["_law_draw", "_law_some", "_law_pool"] [] := F31.binds (fun _ _ _ _ _ _ us hl => match us, hl with | [_, _, _], _ => rfl)
  have M31 := PySem.W.mg_of X G a31
  have F32 := fun_mk (st := st__law_joined) l32 c32 k32
  have B32 : Binds K _ ["_law_sort", "_law_draw", "_law_some", "_law_pool"] [] := F32.binds (fun _ _ _ _ _ _ us hl => match us, hl with | [_, _, _, _], _ => rfl)
  have M32 := PySem.W.mg_of X G a32
  have F33 := fun_mk (st := st__law_many) l33 c33 k33
  have B33 : Binds K _ ["_law_sort", "_law_draw"] [] := F33.binds (fun _ _ _ _ _ _ us hl => match us, hl with | [_, _], _ => rfl)
  have M33 := PySem.W.mg_of X G a33
  have F34 := fun_mk (st := st__law_term) l34 c34 k34
  have B34 : Binds K _ ["_law_draws_here", "_law_deep", "_law_pool"] [] := F34.binds (fun _ _ _ _ _ _ us hl => match us, hl with | [_, _, _], _ => rfl)
  have M34 := PySem.W.mg_of X G a34
  have F35 := fun_mk (st := st__law_wrapped) l35 c35 k35
  have B35 : Binds K _ ["_law_term_here", "_law_draw", "_law_pool"] [] := F35.binds (fun _ _ _ _ _ _ us hl => match us, hl with | [_, _, _], _ => rfl)
  have M35 := PySem.W.mg_of X G a35
  have F36 := fun_mk (st := st_law) l36 c36 k36
  have B36 : Binds K _ ["_law_script"] [] := F36.binds (fun _ _ _ _ _ _ us hl => match us, hl with | [_], _ => rfl)
  have M36 := PySem.W.mg_of X G a36
  refine ⟨PySem.W.fnOf "law" "law" (defArgs st_law) (defBody st_law) (defScope st_law) .none kV36 dc36 pm36 an36 cd36 ct36, fun s v => .of_eq rfl, fun base _ _ => ?_⟩
  have CS : ∀ n, Cs l.prog w K mg base n := fun n => by
    induction n with
    | zero => exact ⟨ca_zero F0 B0 M0, ca_zero F1 B1 M1, ca_zero F2 B2 M2, ca_zero F3 B3 M3, ca_zero F4 B4 M4, ca_zero F5 B5 M5, ca_zero F6 B6 M6, ca1_zero F7 B7 M7, ca1_zero F8 B8 M8, ca_zero F9 B9 M9, ca_zero F10 B10 M10, ca_zero F11 B11 M11, ca_zero F12 B12 M12, ca_zero F13 B13 M13, ca_zero F14 B14 M14, ca_zero F15 B15 M15, ca_zero F16 B16 M16, ca_zero F17 B17 M17, ca_zero F18 B18 M18, ca_zero F19 B19 M19, ca_zero F20 B20 M20, ca_zero F21 B21 M21, ca_zero F22 B22 M22, ca_zero F23 B23 M23, ca_zero F24 B24 M24, ca_zero F25 B25 M25, ca_zero F26 B26 M26, ca_zero F27 B27 M27, ca_zero F28 B28 M28, ca_zero F29 B29 M29, ca_zero F30 B30 M30, ca_zero F31 B31 M31, ca_zero F32 B32 M32, ca_zero F33 B33 M33, ca_zero F34 B34 M34, ca_zero F35 B35 M35, ca_zero F36 B36 M36⟩
    | succ n ih => exact ⟨ca_succ F0 B0 M0 (ok_show T ih F0), ca_succ F1 B1 M1 (ok_pieces_of T ih F1), ca_succ F2 B2 M2 (ok_inner_pieces T ih F2), ca_succ F3 B3 M3 (ok_fun_pieces T ih F3), ca_succ F4 B4 M4 (ok_call_pieces T ih F4), ca_succ F5 B5 M5 (ok_bracketed T ih F5), ca_succ F6 B6 M6 (ok_is_name T ih F6), ca1_succ F7 B7 M7 (ok_read T ih F7), ca1_succ F8 B8 M8 (ok_words_of T ih F8), ca_succ F9 B9 M9 (ok_tree_of T ih F9), ca_succ F10 B10 M10 (ok_term_of T ih F10), ca_succ F11 B11 M11 (ok_word_term T ih F11), ca_succ F12 B12 M12 (ok_is_number T ih F12), ca_succ F13 B13 M13 (ok_two_terms T ih F13), ca_succ F14 B14 M14 (ok_fun_term T ih F14), ca_succ F15 B15 M15 (ok_call_term T ih F15), ca_succ F16 B16 M16 (ok_let_term T ih F16), ca_succ F17 B17 M17 (ok_pair_of T ih F17), ca_succ F18 B18 M18 (ok_choose_term T ih F18), ca_succ F19 B19 M19 (ok_alternative_of T ih F19), ca_succ F20 B20 M20 (ok_stop_term T ih F20), ca_succ F21 B21 M21 (ok_rows_term T ih F21), ca_succ F22 B22 M22 (ok_step_of T ih F22), ca_succ F23 B23 M23 (ok_items_of T ih F23), ca_succ F24 B24 M24 (ok_name_of T ih F24), ca_succ F25 B25 M25 (ok_refuse_alike T ih F25), ca_succ F26 B26 M26 (ok__law_draws T ih F26), ca_succ F27 B27 M27 (ok__law_name T ih F27), ca_succ F28 B28 M28 (ok__law_unlike T ih F28), ca_succ F29 B29 M29 (ok__law_leaf T ih F29), ca_succ F30 B30 M30 (ok__law_chosen T ih F30), ca_succ F31 B31 M31 (ok__law_rows T ih F31), ca_succ F32 B32 M32 (ok__law_joined T ih F32), ca_succ F33 B33 M33 (ok__law_many T ih F33), ca_succ F34 B34 M34 (ok__law_term T ih F34), ca_succ F35 B35 M35 (ok__law_wrapped T ih F35), ca_succ F36 B36 M36 (ok_law T ih F36)⟩
  exact ok_law T (CS (59)) F36
end K17
set_option Elab.async false
set_option linter.all false
set_option maxRecDepth 100000
set_option maxHeartbeats 4000000
namespace K17
open PySem PySem.Spec PyProof.Rows L2 WL
local macro_rules | `(tactic| walk_at "ws") => `(tactic| try simp (config := { decide := true }) only [eVar, eC, eBin, eUn, aNil, aCons, eTup, eLst, eCall, eBi, eMt, eIf, eAnd, eOr, eNot, tTru, tBl, tAn, tOr', tNo, eChain, wAdd, wSub, wMul, wDiv, wMod, wPow, wNeg, wLt, wLe, wGt, wGe, wIsN, wNotN, wIdx, oNo, oSome, wSl, eSl, bLen, bMax, bMin, bTuple, bList, eIsi, tyN, gNm, gsNil, gsCons, gTp, gSb, sPass, sSeq, sExpr, sRet, sRetN, sIf, sAsg, sBrk, sCont, sNever, sFor, iSeq, iR1, iR2, iEn, capW, tYes, eComp, tyL', tyS, mAppend, mPop, mPopAt, wEq, wNe, wIn, wNotIn, wEq_str, wEq_int, erase0, atI_0, atI_1, atI_2, atI_3, atI_4, atI_m1, atI_m2, atI_m3, atI_m4, wEq_bl,
  List.map_cons, List.map_nil, List.length_cons, List.length_nil, List.replicate, List.cons_append, List.nil_append, List.getElem?_cons_zero, List.getElem?_cons_succ, List.set_cons_zero, List.set_cons_succ, Option.some.injEq, T.int.injEq, T.str.injEq, T.bl.injEq, T.ref.injEq, T.tup.injEq, T.cl.injEq, exists_eq_left', exists_eq_left, exists_eq', exists_and_left, and_assoc, List.cons.injEq, and_true, true_and, reduceCtorEq, false_and, exists_false, List.append_nil, if_true, if_false, Bool.not_not, decide_eq_true_eq, Bool.not_eq_true', decide_eq_false_iff_not, Bool.false_eq_true, List.nil_eq, Option.bind_none, Option.bind_some, Option.join_some, Nat.reduceAdd, Nat.reduceSub, Nat.sub_self, Nat.zero_add, Nat.sub_zero, beq_iff_eq, Bool.not_false, Bool.not_true])
section
variable {C : Hw} {Q : WK} {χ : WX} {τ : Sw}
theorem ite_t {p q : Prop} (h : p) : if true = true then p else q := h
theorem ite_f {p q : Prop} (h : q) : if false = true then p else q := h
theorem ite_p {p q : Prop} {b : Bool} (hb : b = true) (h : p) : if b = true then p else q := by rw [if_pos hb]; exact h
theorem ite_n {p q : Prop} {b : Bool} (hb : b = false) (h : q) : if b = true then p else q := by subst hb; exact h
theorem eqS {a b : Str} {v : Bool} (h : (a == b) = v) (q : Q (.bl v) C) : wEqG false (.str a) (.str b) C Q := by rw [wEq_str, if_neg (by decide), h]; exact q
theorem eqI {a b : Int} {v : Bool} (h : (a == b) = v) (q : Q (.bl v) C) : wEqG false (.int a) (.int b) C Q := by rw [wEq_int, if_neg (by decide), h]; exact q
theorem neS {a b : Str} {v : Bool} (h : (a == b) = v) (q : Q (.bl (!v)) C) : wEqG true (.str a) (.str b) C Q := by rw [wEq_str, if_pos rfl, h]; exact q
theorem neI {a b : Int} {v : Bool} (h : (a == b) = v) (q : Q (.bl (!v)) C) : wEqG true (.int a) (.int b) C Q := by rw [wEq_int, if_pos rfl, h]; exact q
theorem eqSc {a b : Str} {v : Bool} (h : (a == b) = v) (q : Q (.bl v) C) : eC (.str b) τ C (fun y C2 => wEq (.str a) y C2 Q) χ := eqS h q
theorem eqIc {a b : Int} {v : Bool} (h : (a == b) = v) (q : Q (.bl v) C) : eC (.int b) τ C (fun y C2 => wEq (.int a) y C2 Q) χ := eqI h q
theorem neSc {a b : Str} {v : Bool} (h : (a == b) = v) (q : Q (.bl (!v)) C) : eC (.str b) τ C (fun y C2 => wNe (.str a) y C2 Q) χ := neS h q
theorem neIc {a b : Int} {v : Bool} (h : (a == b) = v) (q : Q (.bl (!v)) C) : eC (.int b) τ C (fun y C2 => wNe (.int a) y C2 Q) χ := neI h q
theorem call1 {P : Calls} {i k : Nat} {v : T} (h : τ[k]? = some (some v)) (q : P i [v] C Q χ) : eCall P i (aCons (eVar k) aNil) τ C Q χ := ⟨v, h, q⟩
theorem call_if {P : Calls} {i k : Nat} {v : T} {A B : WS} {D : We} (h : τ[k]? = some (some v)) (q : P i [v] C (fun x C1 => ∃ b, tru x C1 b ∧ if b = true then A { D with nx := B D } τ C1 else B D τ C1) D.xc) : sSeq (sIf (tTru (eCall P i (aCons (eVar k) aNil))) A sPass) B D τ C := ⟨v, h, q⟩
theorem callI {P : Calls} {i k : Nat} {a : Addr} {xs : List T} {j : Int} {v : T} (h : τ[k]? = some (some (.ref a))) (ha : C a = some (.lst xs)) (hj : atI xs j = some v) (q : P i [v] C Q χ) : eCall P i (aCons (eBin wIdx (eVar k) (eC (.int j))) aNil) τ C Q χ := ⟨_, h, _, _, ha, hj, q⟩
theorem callL {P : Calls} {i k : Nat} {a : Addr} {xs : List T} {v : T} (h : τ[k]? = some (some (.ref a))) (ha : C a = some (.lst xs)) (hj : atI xs (-1) = some v) (q : P i [v] C Q χ) : eCall P i (aCons (eBin wIdx (eVar k) (eUn wNeg (eC (.int 1)))) aNil) τ C Q χ := ⟨_, h, _, _, ha, hj, q⟩
theorem st_call1 {P : Calls} {i k j : Nat} {v : T} {r : WS} {D : We} (h : τ[k]? = some (some v)) (q : P i [v] C (fun x C1 => r D (τ.set j (some x)) C1) D.xc) : sSeq (sAsg (eCall P i (aCons (eVar k) aNil)) (gNm j)) r D τ C := ⟨v, h, q⟩
end
section
variable {A B : WS} {D : We} {τ : Sw} {C : Hw} {i k : Nat} {v : T} {r : List T} {s s' w : Str} {x y : Int}
theorem k_yesI (h : τ[i]? = some (some (.int x))) (hw : x = y) (q : A { D with nx := B D } τ C) : sSeq (sIf (tBl (eBin wEq (eVar i) (eC (.int y)))) A sPass) B D τ C := by
  refine ⟨_, h, ?_⟩
  simp only [eC]
  rw [wEq, wEq_int, hw]
  refine ⟨true, by simp, ?_⟩
  rw [if_pos rfl]; exact q
theorem k_noI (h : τ[i]? = some (some (.int x))) (hw : x ≠ y) (q : B D τ C) : sSeq (sIf (tBl (eBin wEq (eVar i) (eC (.int y)))) A sPass) B D τ C := by
  refine ⟨_, h, ?_⟩
  simp only [eC]
  rw [wEq, wEq_int]
  refine ⟨false, by simp [hw], ?_⟩
  rw [if_neg (by decide)]; exact q
end
def rowsSc : List T → List (T × List T × T) → List (List T × T)
  | _, [] => []
  | b, z :: r => (b, z.2.2) :: rowsSc (b ++ z.2.1) r
def mids : List (T × List T × T) → List T
  | [] => []
  | z :: r => z.2.1 ++ mids r
def sorts : List Str := ["does", "call", "first", "fun", "let", "shape", "choose", "rows"]
inductive Sc : T → Option Nat → List (List T × T) → Prop
  | does {o A B : T} : Sc (.tup [.str "does", o, A, B]) none [([], A), ([], B)]
  | call {A B : T} : Sc (.tup [.str "call", A, B]) none [([], A), ([], B)]
  | first {A B : T} : Sc (.tup [.str "first", A, B]) none [([], A), ([], B)]
  | fun_ {x B : T} : Sc (.tup [.str "fun", x, B]) none [([x], B)]
  | let_ {B : T} {xs : List (T × T)} (h : xs.length ≤ 1000) : Sc (.tup [.str "let", .tup (xs.map fun x => .tup [x.1, x.2]), B]) none (xs.map (fun x => (xs.map (·.1), x.2)) ++ [(xs.map (·.1), B)])
  | shape {c : T} {ps : List T} (h : ps.length ≤ 1000) : Sc (.tup [.str "shape", c, .tup ps]) none (ps.map fun x => ([], x))
  | choose {E : T} {ys : List (T × List T × T)} (h : ys.length ≤ 1000) : Sc (.tup [.str "choose", E, .tup (ys.map fun y => .tup [y.1, .tup y.2.1, y.2.2])]) none (([], E) :: ys.map (·.2))
  | rows {E : T} {zs : List (T × List T × T)} (h : zs.length ≤ 1000) (hm : ∀ z ∈ zs, z.2.1.length ≤ 1) : Sc (.tup [.str "rows", E, .tup (zs.map fun z => .tup (z.1 :: (z.2.1 ++ [z.2.2])))]) (some zs.length) ((mids zs, E) :: rowsSc [] zs)
  | other {w : Str} {rest : List T} (h : w ∉ sorts) : Sc (.tup (.str w :: rest)) none []
def scT (s : List T × T) : T := .tup [.tup s.1, s.2]
section
variable {C : Hw} {Q : WK} {χ : WX} {n : Nat}
theorem s_draws {ns : List Int} {m : Nat} (h63 : ns.length ≤ 63) (hm : m ≤ 100) (q : ∀ p (ds : List Int), C p = none → ds.length = m → (∀ d ∈ ds, 0 ≤ d) → Q (.ref p) (up C p (.lst (ds.map T.int)))) :
    wpc pr (n + 1) i__law_draws [.cl (ns.map T.int), .int m] C Q χ := by
  refine u__law_draws rfl ?_
  unfold w__law_draws
  walk_at "ws"
  intro p hp
  refine ⟨by omega, by omega, ?_⟩
  refine for_rng (fun i τ C' => ∃ x3 x4, ∃ ds : List Int, τ = [some (.cl (ns.map T.int)), some (.int m), some (.ref p), x3, x4] ∧ C' = up C p (.lst (ds.map T.int)) ∧ ds.length = i ∧ ∀ d ∈ ds, 0 ≤ d) ⟨none, none, [], rfl, rfl, rfl, by simp⟩ (fun _ => trivial) ?_ ?_
  · rintro i τ C' N hi ⟨x3, x4, ds, rfl, rfl, hd, hn⟩ hN
    walk_at "ws"
    have hlen : ((ns.map T.int).length : Int) = (ns.length : Int) := by rw [List.length_map]
    have hdv : (0 : Int) ≤ (0 + (i : Int)) / (if ((ns.map T.int).length : Int) > 1 then ((ns.map T.int).length : Int) else 1) := Int.ediv_nonneg (by omega) (by split <;> omega)
    have app : ∀ v : Int, 0 ≤ v → ∀ x3 x4, N [some (.cl (ns.map T.int)), some (.int m), some (.ref p), x3, x4] (up (up C p (.lst (ds.map T.int))) p (.lst (ds.map T.int ++ [.int v]))) := fun v hv x3 x4 => by
      refine hN _ _ ⟨x3, x4, ds ++ [v], rfl, ?_, by rw [List.length_append, hd]; rfl, ?_⟩
      · rw [up_up, List.map_append]; rfl
      · intro x hx
        rcases List.mem_append.mp hx with hx | hx
        · exact hn x hx
        · rw [List.mem_singleton.mp hx]; exact hv
    refine ite2 (fun c => ?_) fun c => ?_
    · obtain ⟨d, h1, h2⟩ := atT_ints (ds := ns) (i := (0 + (i : Int)) % ((ns.map T.int).length : Int)) (Int.emod_nonneg _ (by omega)) (by rw [hlen]; exact Int.emod_lt_of_pos _ (by omega))
      refine ⟨c, _, h1, ⟨by decide, by decide, by decide⟩, by decide, ⟨_, up_same⟩, ⟨by split <;> omega, by split <;> omega⟩, .inl ⟨by decide, by decide⟩, _, up_same, small63' (by rw [List.length_map]; omega), app _ ?_ _ _⟩
      have := Int.emod_nonneg d (b := 10 ^ Int.toNat 18) (by decide)
      generalize d % 10 ^ Int.toNat 18 = u at this ⊢
      generalize (0 + (i : Int)) / (if ((ns.map T.int).length : Int) > 1 then ((ns.map T.int).length : Int) else 1) = t at hdv ⊢
      omega
    · refine ⟨⟨_, up_same⟩, ⟨by split <;> omega, by split <;> omega⟩, .inl ⟨by decide, by decide⟩, _, up_same, small63' (by rw [List.length_map]; omega), app _ ?_ _ _⟩
      generalize (0 + (i : Int)) / (if ((ns.map T.int).length : Int) > 1 then ((ns.map T.int).length : Int) else 1) = t at hdv ⊢
      omega
  · rintro τ C' ⟨x3, x4, ds, rfl, rfl, hd, hn⟩
    walk_at "ws"
    exact q p ds hp hd hn
end
def nine : List Str := ["fun", "let", "choose", "first", "stop", "rows", "in", "when", "be"]
def signs : List Nat := (Str.ofString "abcdefghijklmnopqrstuvwxyz0123456789").cps.toList
def letters : List Nat := (Str.ofString "abcdefghijklmnopqrstuvwxyz").cps.toList
def isnm (z : Str) : Prop := ∃ c r, z.cps.toList = c :: r ∧ c ∈ letters ∧ (∀ d ∈ r, d ∈ signs) ∧ z.length ≤ 8 ∧ z ∉ nine
theorem let_sign : ∀ c ∈ letters, c ∈ signs := by decide +kernel
theorem isnm.all {z : Str} (h : isnm z) : ∀ d ∈ z.cps.toList, d ∈ signs := by
  obtain ⟨c, r, h1, h2, h3, _⟩ := h
  intro d hd
  rw [h1] at hd
  rcases List.mem_cons.mp hd with rfl | hd
  · exact let_sign _ h2
  · exact h3 d hd
section
variable {C : Hw} {Q : WK} {χ : WX} {n : Nat}
theorem s_name {d : Int} (h0 : 0 ≤ d) (q : ∀ z C', Ex C C' → isnm z → Q (.str z) C') : wpc pr (n + 1) i__law_name [.int d] C Q χ := by
  refine u__law_name rfl ?_
  unfold w__law_name
  walk_at "ws"
  have e1 : (Str.ofString "abcdefghijklmnopqrstuvwxyz0123456789").cps.toList.length = 36 := by decide +kernel
  have l1 : (Str.ofString "abcdefghijklmnopqrstuvwxyz0123456789").length ≤ sizeLine := small63 (by decide +kernel)
  obtain ⟨c1, h1, _⟩ := atI_in (xs := (Str.ofString "abcdefghijklmnopqrstuvwxyz0123456789").cps.toList) (i := d % 26) (by omega) (by rw [e1]; omega)
  have hc1 : c1 ∈ letters := by
    obtain ⟨j, hj, hj26⟩ : ∃ j : Nat, d % 26 = (j : Int) ∧ j < 26 := ⟨(d % 26).toNat, by omega, by omega⟩
    rw [hj] at h1
    have hall : ∀ j : _root_.Fin 26, ∀ c, atI (Str.ofString "abcdefghijklmnopqrstuvwxyz0123456789").cps.toList ((j.val : Nat) : Int) = some c → c ∈ letters := by
      intro j c hc
      have tab : ∀ j : _root_.Fin 26, (atI (Str.ofString "abcdefghijklmnopqrstuvwxyz0123456789").cps.toList ((j.val : Nat) : Int)).all (fun c => decide (c ∈ letters)) = true := by decide +kernel
      have := tab j
      have : (atI (Str.ofString "abcdefghijklmnopqrstuvwxyz0123456789").cps.toList ((j.val : Nat) : Int)).all (fun c => decide (c ∈ letters)) = true := this
      rw [hc] at this
      simpa using this
    exact hall ⟨j, hj26⟩ c1 h1
  refine ⟨c1, h1, ⟨by decide, by decide⟩, by omega, by omega, ?_⟩
  refine for_rng (fun i τ C' => ∃ x3 x4, ∃ z : Str, ∃ r : List Nat, τ = [some (.int d), some (.str "abcdefghijklmnopqrstuvwxyz0123456789"), some (.str z), x3, x4] ∧ C' = C ∧ z.cps.toList = c1 :: r ∧ r.length = i ∧ ∀ c ∈ r, c ∈ signs) ⟨none, none, _, [], rfl, rfl, rfl, rfl, by simp⟩ (fun _ => trivial) ?_ ?_
  · rintro i τ C' N hi ⟨x3, x4, z, r, rfl, rfl, hz, hr, hc⟩ hN
    walk_at "ws"
    obtain ⟨c2, h2, m2⟩ := atI_in (xs := (Str.ofString "abcdefghijklmnopqrstuvwxyz0123456789").cps.toList) (i := (d / 208 + 11 * (0 + (i : Int)) * (0 + (i : Int)) + d / 7488 % 36 * (0 + (i : Int))) % 36) (by omega) (by rw [e1]; omega)
    have hap : (z ++ (⟨#[c2]⟩ : Str)).length = z.length + 1 := PySem.Str.length_append z _
    have hzl : z.length = i + 1 := by show z.cps.size = _; rw [← Array.length_toList, hz, List.length_cons, hr]
    refine ⟨⟨by decide, by decide⟩, .inl ⟨by decide, by decide⟩, .inl ⟨by omega, by omega⟩, ⟨by decide, by decide⟩, .inl ⟨by omega, by omega⟩, c2, h2, small63 (by show z.length + 1 ≤ 100000; omega), hN _ _ ⟨_, _, _, r ++ [c2], rfl, rfl, ?_, by simp [hr], ?_⟩⟩
    · rw [PySem.Str.cps_append]; simp [hz]
    · intro c hc'
      rcases List.mem_append.mp hc' with h | h
      · exact hc c h
      · rw [List.mem_singleton.mp h]; exact m2
  · rintro τ C' ⟨x3, x4, z, r, rfl, rfl, hz, hr, hc⟩
    walk_at "ws"
    intro p hp
    refine wIn_ref (zs := nine) up_same ?_
    have hzl : z.length = r.length + 1 := by show z.cps.size = _; rw [← Array.length_toList, hz, List.length_cons]
    have hap : (z ++ Str.ofString "0").length = z.length + 1 := PySem.Str.length_append z _
    refine ⟨_, rfl, ite2 (fun c => ⟨small63 (by show z.length + 1 ≤ 100000; omega), q _ _ (Ex.new hp) ?_⟩) fun c => q _ _ (Ex.new hp) ⟨c1, r, hz, hc1, hc, by omega, by simpa using c⟩⟩
    have hm : z ∈ nine := by simpa using c
    have key : ∀ z ∈ nine, z.length ≤ 6 ∧ (z ++ Str.ofString "0") ∉ nine := by decide +kernel
    obtain ⟨k1, k2⟩ := key z hm
    refine ⟨c1, r ++ [48], by rw [PySem.Str.cps_append]; simp [hz]; rfl, hc1, fun c hc' => ?_, by omega, k2⟩
    rcases List.mem_append.mp hc' with h | h
    · exact hc c h
    · rw [List.mem_singleton.mp h]; decide +kernel
def spare : List Str := ["q1", "q2", "q3", "q4", "q5", "q6"]
theorem s_unlike {d : Int} {m : Nat} {a : Addr} {ps : List Str} (h0 : 0 ≤ d) (hm : m ≤ 6) (ha : C a = some (.lst (ps.map T.str))) (hps : ps ≠ []) (hp9 : ps.length ≤ 9)
    (q : ∀ p C' (zs : List Str), Ex C C' → C p = none → C' p = some (.lst (zs.map T.str)) → zs.length = m → zs.Nodup → (∀ z ∈ zs, z ∈ ps ∨ z ∈ spare) → Q (.ref p) C') : wpc pr (n + 1) i__law_unlike [.int d, .int m, .ref a] C Q χ := by
  refine u__law_unlike rfl ?_
  unfold w__law_unlike
  walk_at "ws"
  intro p hp
  refine ⟨by omega, by omega, ?_⟩
  have hpl : 0 < ps.length := List.length_pos_iff.mpr hps
  refine for_rng (fun i τ C' => ∃ x4 x5 x6, ∃ zs : List Str, τ = [some (.int d), some (.int m), some (.ref a), some (.ref p), x4, x5, x6] ∧ Ex C C' ∧ C' p = some (.lst (zs.map T.str)) ∧ zs.length = i ∧ zs.Nodup ∧ ∀ z ∈ zs, z ∈ ps ∨ z ∈ spare) ⟨none, none, none, [], rfl, Ex.new hp, up_same, rfl, List.nodup_nil, by simp⟩ (fun _ => trivial) ?_ ?_
  · rintro i τ C' N hi ⟨x4, x5, x6, zs, rfl, hE, hz, hl, hn, hs⟩ hN
    walk_at "ws"
    have ha' := hE _ _ ha
    obtain ⟨x, hx, mx⟩ := atT_strs (ds := ps) (i := d / (5 * (0 + (i : Int)) + 1) % ((ps.map T.str).length : Int)) (Int.emod_nonneg _ (by rw [List.length_map]; omega)) (by rw [List.length_map]; exact Int.emod_lt_of_pos _ (by omega))
    have app : ∀ (x : Str) (C2 : Hw), Ex C' C2 → x ∉ zs → (x ∈ ps ∨ x ∈ spare) → ∀ x4 x5 x6, N [some (.int d), some (.int m), some (.ref a), some (.ref p), x4, x5, x6] (up C2 p (.lst (zs.map T.str ++ [.str x]))) := fun x C2 h2 hx hs' x4 x5 x6 => by
      refine hN _ _ ⟨x4, x5, x6, zs ++ [x], rfl, (hE.trans h2).up hp, by rw [up_same, List.map_append]; rfl, by rw [List.length_append, hl]; rfl, ?_, ?_⟩
      · rw [List.nodup_append]
        refine ⟨hn, by simp, fun y hy z hz' => ?_⟩
        rw [List.mem_singleton] at hz'
        subst hz'
        exact fun e => hx (e ▸ hy)
      · intro y hy
        rcases List.mem_append.mp hy with hy | hy
        · exact hs y hy
        · rw [List.mem_singleton.mp hy]; exact hs'
    refine ⟨.inl ⟨by decide, by decide⟩, ⟨by omega, by omega⟩, _, ha', by rw [List.length_map]; omega, _, ha', _, hx, ?_⟩
    refine wIn_ref hz ?_
    refine ⟨_, rfl, ite2 (fun c => ?_) fun c => ⟨⟨_, hz⟩, _, hz, small63' (by rw [List.length_map]; omega), app x C' (Ex.refl _) (by simpa using c) (.inl mx) _ _ _⟩⟩
    intro p2 hp2
    have hz2 : ∀ {o}, up C' p2 o p = some (.lst (zs.map T.str)) := fun {o} => by rw [up_ne (cne hz hp2)]; exact hz
    refine ⟨_, up_same, ?_⟩
    refine comp_fm (xs := spare.map T.str) (fun t => match t with | .str y => if y ∈ zs then none else some (.str y) | _ => none) up_same (by decide) (fun t ht R N' h1 h2 => ?_) ?_
    · obtain ⟨y, _, rfl⟩ := List.mem_map.mp ht
      walk_at "ws"
      refine wIn_ref hz2 ?_
      refine ⟨_, rfl, ?_⟩
      by_cases hy : y ∈ zs
      · rw [if_neg (by simp [hy])]
        exact h2 (by simp [hy])
      · rw [if_pos (by simp [hy])]
        exact h1 _ (by simp [hy])
    · intro p3 hp3
      have hf : (spare.map T.str).filterMap (fun t => match t with | .str y => if y ∈ zs then none else some (.str y) | _ => none) = (spare.filter fun y => decide (y ∉ zs)).map T.str := by
        rw [List.filterMap_map, ← List.filterMap_eq_map, ← List.filterMap_eq_filter, List.filterMap_filterMap]
        congr 1
        funext y
        by_cases hy : y ∈ zs <;> simp [hy, Option.guard]
      rw [hf]
      have hne : spare.filter (fun y => decide (y ∉ zs)) ≠ [] := fun e => by
        have hall : ∀ y ∈ spare, y ∈ zs := fun y hy => by
          by_cases h : y ∈ zs
          · exact h
          · have : y ∈ spare.filter (fun y => decide (y ∉ zs)) := List.mem_filter.mpr ⟨hy, by simpa using h⟩
            rw [e] at this; cases this
        have := sub_len (show spare.Nodup by decide +kernel) hall
        have h6 : spare.length = 6 := rfl
        omega
      obtain ⟨y, ys, ey⟩ := List.exists_cons_of_ne_nil hne
      have hy : y ∈ spare.filter (fun y => decide (y ∉ zs)) := by rw [ey]; simp
      obtain ⟨hy1, hy2⟩ := List.mem_filter.mp hy
      rw [ey]
      obtain ⟨n32, e32⟩ := fr1 hp3
      obtain ⟨n3, e3⟩ := fr1 hp3
      refine ⟨_, up_same, _, atI_0, ⟨_, by rw [up_ne (cne hz2 hp3)]; exact hz2⟩, _, by rw [up_ne (cne hz2 hp3)]; exact hz2, small63' (by rw [List.length_map]; omega), app y _ ((Ex.new hp2).trans (Ex.new hp3)) (by simpa using hy2) (.inr hy1) _ _ _⟩
  · rintro τ C' ⟨x4, x5, x6, zs, rfl, hE, hz, hl, hn, hs⟩
    walk_at "ws"
    exact q p C' zs hE hp hz hl hn hs
end
set_option Elab.async false
set_option linter.all false
set_option maxRecDepth 100000
set_option maxHeartbeats 4000000
open PySem PySem.Spec PyProof.Rows L2 WL
inductive Tr where
  | w (x : Str)
  | n (ts : List Tr)
mutual
def fl : Tr → List Str
  | .w x => [x]
  | .n ts => ("(" : Str) :: (fls ts ++ [(")" : Str)])
def fls : List Tr → List Str
  | [] => []
  | t :: ts => fl t ++ fls ts
end
mutual
def TrH (C : Hw) (v : T) : Tr → Prop
  | .w x => v = .str x
  | .n ts => ∃ a vs, v = .ref a ∧ C a = some (.lst vs) ∧ TrHs C vs ts
def TrHs (C : Hw) (vs : List T) : List Tr → Prop
  | [] => vs = []
  | t :: ts => ∃ v r, vs = v :: r ∧ TrH C v t ∧ TrHs C r ts
end
mutual
theorem TrH.ex {C C' : Hw} (h : Ex C C') {v : T} : ∀ {t : Tr}, TrH C v t → TrH C' v t
  | .w x, q => by unfold TrH at q ⊢; exact q
  | .n ts, q => by
    unfold TrH at q ⊢
    obtain ⟨a, vs, e, ha, q⟩ := q
    exact ⟨a, vs, e, h _ _ ha, TrHs.ex h q⟩
theorem TrHs.ex {C C' : Hw} (h : Ex C C') {vs : List T} : ∀ {ts : List Tr}, TrHs C vs ts → TrHs C' vs ts
  | [], q => by unfold TrHs at q ⊢; exact q
  | t :: ts, q => by
    unfold TrHs at q ⊢
    obtain ⟨v, r, e, q1, q2⟩ := q
    exact ⟨v, r, e, TrH.ex h q1, TrHs.ex h q2⟩
end
section
variable {C : Hw}
theorem of_w {x : Str} {v : T} (h : TrH C v (.w x)) : v = .str x := by unfold TrH at h; exact h
theorem of_n {ts : List Tr} {v : T} (h : TrH C v (.n ts)) : ∃ a vs, v = .ref a ∧ C a = some (.lst vs) ∧ TrHs C vs ts := by unfold TrH at h; exact h
theorem trs_nil : TrHs C [] [] := by unfold TrHs; rfl
theorem trs_cons {v : T} {vs : List T} {t : Tr} {ts : List Tr} (h : TrH C v t) (hs : TrHs C vs ts) : TrHs C (v :: vs) (t :: ts) := by unfold TrHs; exact ⟨v, vs, rfl, h, hs⟩
theorem of_tnil {vs : List T} (h : TrHs C vs []) : vs = [] := by unfold TrHs at h; exact h
theorem of_tcons {vs : List T} {t : Tr} {ts : List Tr} (h : TrHs C vs (t :: ts)) : ∃ v r, vs = v :: r ∧ TrH C v t ∧ TrHs C r ts := by unfold TrHs at h; exact h
theorem TrHs.length : ∀ {ts : List Tr} {vs : List T}, TrHs C vs ts → vs.length = ts.length
  | [], _, h => by rw [of_tnil h]; rfl
  | _ :: _, _, h => by obtain ⟨v, r, rfl, _, q⟩ := of_tcons h; rw [List.length_cons, List.length_cons, q.length]
theorem of_tapp : ∀ {ts us : List Tr} {vs : List T}, TrHs C vs (ts ++ us) → ∃ xs ys, vs = xs ++ ys ∧ TrHs C xs ts ∧ TrHs C ys us
  | [], us, vs, h => ⟨[], vs, rfl, trs_nil, h⟩
  | t :: ts, us, vs, h => by
    obtain ⟨v, r, rfl, a, b⟩ := of_tcons h
    obtain ⟨xs, ys, rfl, c, d⟩ := of_tapp b
    exact ⟨v :: xs, ys, rfl, trs_cons a c, d⟩
theorem trs_w : ∀ {xs : List Str} {vs : List T}, TrHs C vs (xs.map Tr.w) → vs = xs.map T.str
  | [], _, h => of_tnil h
  | x :: xs, _, h => by obtain ⟨v, r, rfl, a, b⟩ := of_tcons h; rw [of_w a, trs_w b]; rfl
theorem fls_app : ∀ (ts us : List Tr), fls (ts ++ us) = fls ts ++ fls us
  | [], us => by simp [fls]
  | t :: ts, us => by simp [fls, fls_app ts us]
theorem fls_ws : ∀ (xs : List Str), fls (xs.map Tr.w) = xs
  | [] => by simp [fls]
  | x :: xs => by simp [fls, fl, fls_ws xs]
end
def figures : List Nat := (Str.ofString "0123456789").cps.toList
abbrev occ (j : Str) (c : Nat) : Bool := !(Builtin.Str.occurrences j ⟨#[c]⟩ 0 j.length 1).isEmpty
theorem occ_let : ∀ c ∈ letters, occ "abcdefghijklmnopqrstuvwxyz" c = true := by decide +kernel
theorem occ_fig : ∀ c ∈ figures, occ "0123456789" c = true := by decide +kernel
theorem occ_fl : ∀ c ∈ figures, occ "abcdefghijklmnopqrstuvwxyz" c = false := by decide +kernel
theorem sign_two : ∀ c ∈ signs, c ∈ letters ∨ c ∈ figures := by decide +kernel
theorem cps_len (x : Str) : x.cps.toList.length = x.length := by simp [Str.length]
section
variable {C : Hw} {Q : WK} {χ : WX} {n : Nat}
theorem wIn_tup {g : Bool} {z : Str} {zs : List Str} (q : Q (.bl (if g = true then !decide (z ∈ zs) else decide (z ∈ zs))) C) : wInG g (.str z) (.tup (zs.map T.str)) C Q :=
  ⟨flat_str, flats_strs, by rw [inL_strs]; exact q⟩
theorem isInC {b : Bool} {j : Str} {c : Nat} (h : occ j c = b) (q : Q (.bl b) C) : wInG false (.str ⟨#[c]⟩) (.str j) C Q := by subst h; exact q
theorem notInC {b : Bool} {j : Str} {c : Nat} (h : occ j c = b) (q : Q (.bl (!b)) C) : wInG true (.str ⟨#[c]⟩) (.str j) C Q := by subst h; exact q
theorem isInCc {b : Bool} {j : Str} {c : Nat} {τ : Sw} (h : occ j c = b) (q : Q (.bl b) C) : eC (.str j) τ C (fun y C2 => wIn (.str ⟨#[c]⟩) y C2 Q) χ := isInC h q
theorem notInCc {b : Bool} {j : Str} {c : Nat} {τ : Sw} (h : occ j c = b) (q : Q (.bl (!b)) C) : eC (.str j) τ C (fun y C2 => wNotIn (.str ⟨#[c]⟩) y C2 Q) χ := notInC h q
theorem isInT {b : Bool} {z : Str} {zs : List Str} (h : decide (z ∈ zs) = b) (q : Q (.bl b) C) : wInG false (.str z) (.tup (zs.map T.str)) C Q := by subst h; exact ⟨flat_str, flats_strs, by rw [inL_strs]; exact q⟩
theorem isInTc {b : Bool} {z : Str} {zs : List Str} {τ : Sw} (h : decide (z ∈ zs) = b) (q : Q (.bl b) C) : eC (.tup (zs.map T.str)) τ C (fun y C2 => wIn (.str z) y C2 Q) χ := isInT h q
theorem s_is_name {x : Str} (h : isnm x) (q : ∀ C', Ex C C' → Q (.bl true) C') : wpc pr (n + 1) i_is_name [.str x] C Q χ := by
  obtain ⟨c, r, h1, h2, h3, h4, h5⟩ := id h
  have hl : x.length = r.length + 1 := by rw [← cps_len, h1, List.length_cons]
  have hz : x.length ≤ sizeLine := small63 (by omega)
  have k1 : ¬ ((x.length : Int) < 1) := by omega
  have k2 : ¬ ((x.length : Int) > 8) := by omega
  refine u_is_name rfl ?_
  unfold w_is_name
  refine ⟨_, rfl, _, rfl, hz, _, rfl, ite_n (decide_eq_false k1) ⟨_, rfl, _, rfl, hz, _, rfl, ite_n (decide_eq_false k2) ?_⟩⟩
  refine ⟨_, rfl, hz, c, by rw [h1]; exact atI_0, notInCc (j := "abcdefghijklmnopqrstuvwxyz") (occ_let c h2) ⟨_, rfl, ite_f ?_⟩⟩
  refine ⟨_, rfl, isInTc (zs := nine) (decide_eq_false h5) ⟨_, rfl, ite_f ?_⟩⟩
  refine ⟨_, rfl, comp_pure (fun _ => .bl true) trivial (by rw [List.length_map, cps_len]; exact hz) (fun y hy R hR => ?_) fun p hp => ?_⟩
  · obtain ⟨d, hd, rfl⟩ := List.mem_map.mp hy
    rcases sign_two d (h.all d hd) with hd | hd
    · exact ⟨_, rfl, isInCc (j := "abcdefghijklmnopqrstuvwxyz") (occ_let d hd) ⟨_, rfl, ite_t hR⟩⟩
    · exact ⟨_, rfl, isInCc (j := "abcdefghijklmnopqrstuvwxyz") (occ_fl d hd) ⟨_, rfl, ite_f ⟨_, rfl, isInCc (j := "0123456789") (occ_fig d hd) hR⟩⟩⟩
  · refine ⟨p, x.cps.toList.map fun _ => true, rfl, by rw [up_same, List.map_map, List.map_map]; rfl, ?_⟩
    have : (x.cps.toList.map fun _ => true).all id = true := by simp
    rw [this]
    exact q _ (Ex.new hp)
theorem s_is_name_no {x : Str} {c : Nat} {r : List Nat} (hx : x.cps.toList = c :: r) (hc : occ "abcdefghijklmnopqrstuvwxyz" c = false) (hl : x.length ≤ 1000) (q : Q (.bl false) C) : wpc pr (n + 1) i_is_name [.str x] C Q χ := by
  have hl1 : x.length = r.length + 1 := by rw [← cps_len, hx, List.length_cons]
  have hz : x.length ≤ sizeLine := small63 (by omega)
  have k1 : ¬ ((x.length : Int) < 1) := by omega
  refine u_is_name rfl ?_
  unfold w_is_name
  refine ⟨_, rfl, _, rfl, hz, _, rfl, ite_n (decide_eq_false k1) ⟨_, rfl, _, rfl, hz, _, rfl, ?_⟩⟩
  by_cases k2 : (x.length : Int) > 8
  · exact ite_p (decide_eq_true k2) q
  · refine ite_n (decide_eq_false k2) ?_
    exact ⟨_, rfl, hz, c, by rw [hx]; exact atI_0, notInCc (j := "abcdefghijklmnopqrstuvwxyz") hc ⟨_, rfl, ite_t q⟩⟩
def isfg (x : Str) : Prop := ∃ c r, x.cps.toList = c :: r ∧ (∀ d ∈ x.cps.toList, d ∈ figures) ∧ x.length ≤ 18 ∧ (c = 48 → r = [])
theorem num_head {x : Str} {c : Nat} {r : List Nat} (h1 : x.cps.toList = c :: r) (hl : x.length ≤ 18) (h4 : c = 48 → r = [])
    (q : compW (gNm 0) tYes (eBin wIn (eVar 0) (eC g_FIGURES)) (fun _ => True) [none] (fun vs C2 => ∀ p, C2 p = none → bAll [.ref p] (up C2 p (.lst vs)) Q) χ (x.cps.toList.map fun c => T.str ⟨#[c]⟩) [] C) : wpc pr (n + 1) i_is_number [.str x] C Q χ := by
  have hl1 : x.length = r.length + 1 := by rw [← cps_len, h1, List.length_cons]
  have hz : x.length ≤ sizeLine := small63 (by omega)
  have k1 : ¬ ((x.length : Int) < 1) := by omega
  have k2 : ¬ ((x.length : Int) > 18) := by omega
  refine u_is_number rfl ?_
  unfold w_is_number
  refine ⟨_, rfl, _, rfl, hz, _, rfl, ite_n (decide_eq_false k1) ⟨_, rfl, _, rfl, hz, _, rfl, ite_n (decide_eq_false k2) ?_⟩⟩
  refine ⟨_, rfl, hz, c, by rw [h1]; exact atI_0, eqSc rfl ⟨_, rfl, ?_⟩⟩
  by_cases c0 : ((⟨#[c]⟩ : Str) == Str.ofString "0") = true
  · refine ite_p c0 ⟨_, rfl, neSc (v := true) ?_ ⟨_, rfl, ite_f ⟨_, rfl, q⟩⟩⟩
    rw [beq_iff_eq] at c0 ⊢
    have h2 : [c] = [48] := congrArg (fun z : Str => z.cps.toList) c0
    have e : c = 48 := by simpa using h2
    exact str_ext (by rw [h1, e, h4 e]; rfl)
  · exact ite_n (Bool.eq_false_iff.mpr c0) (ite_f ⟨_, rfl, q⟩)
theorem s_is_number {x : Str} (h : isfg x) (q : ∀ C', Ex C C' → Q (.bl true) C') : wpc pr (n + 1) i_is_number [.str x] C Q χ := by
  obtain ⟨c, r, h1, h2, h3, h4⟩ := h
  refine num_head h1 h3 h4 (comp_pure (fun _ => .bl true) trivial (by rw [List.length_map, cps_len]; exact small63 (by omega)) (fun y hy R hR => ?_) fun p hp => ?_)
  · obtain ⟨d, hd, rfl⟩ := List.mem_map.mp hy
    exact ⟨_, rfl, isInCc (j := "0123456789") (occ_fig d (h2 d hd)) hR⟩
  · refine ⟨p, x.cps.toList.map fun _ => true, rfl, by rw [up_same, List.map_map, List.map_map]; rfl, ?_⟩
    have : (x.cps.toList.map fun _ => true).all id = true := by simp
    rw [this]
    exact q _ (Ex.new hp)
theorem s_is_number_no {x : Str} {c : Nat} {r : List Nat} (hx : x.cps.toList = c :: r) (hf : ∀ d ∈ x.cps.toList, occ "0123456789" d = false) (hc : (⟨#[c]⟩ : Str) ≠ Str.ofString "0") (hl : x.length ≤ 18) (q : ∀ C', Ex C C' → Q (.bl false) C') : wpc pr (n + 1) i_is_number [.str x] C Q χ := by
  refine num_head hx hl (fun e => absurd (by rw [e]; rfl) hc) (comp_pure (fun _ => .bl false) trivial (by rw [List.length_map, cps_len]; exact small63 (by omega)) (fun y hy R hR => ?_) fun p hp => ?_)
  · obtain ⟨d, hd, rfl⟩ := List.mem_map.mp hy
    exact ⟨_, rfl, isInCc (j := "0123456789") (hf d hd) hR⟩
  · refine ⟨p, x.cps.toList.map fun _ => false, rfl, by rw [up_same, List.map_map, List.map_map]; rfl, ?_⟩
    have : (x.cps.toList.map fun _ => false).all id = false := by rw [hx]; rfl
    rw [this]
    exact q _ (Ex.new hp)
end
def figs (v : Int) : Str := Str.ofString (toString v)
theorem log_lt {i : Nat} (h : i < 10 ^ 18) : i.log2 < 1920 := by
  by_cases h0 : i = 0
  · subst h0; decide
  · exact (Nat.log2_lt h0).mpr (Nat.lt_of_lt_of_le h (Nat.le_trans (show 10 ^ 18 ≤ 2 ^ 60 by decide) (Nat.pow_le_pow_right (by decide) (by decide))))
theorem dig_mem : ∀ d : Nat, 48 ≤ d → d ≤ 57 → d ∈ figures := by
  intro d h1 h2
  have e : figures = [48, 49, 50, 51, 52, 53, 54, 55, 56, 57] := by decide +kernel
  rw [e]
  simp only [List.mem_cons, List.not_mem_nil, or_false]
  omega
open PySem.NumText PySem.W.KIN in
theorem figs_fg {v : Int} (h0 : 0 ≤ v) (h1 : v < 10 ^ 18) : isfg (figs v) ∧ intText? (figs v) = some v := by
  obtain ⟨m, rfl⟩ : ∃ m : Nat, v = (m : Int) := ⟨v.toNat, by omega⟩
  have hm : m < 10 ^ 18 := by omega
  have e : (figs (m : Int)).cps.toList = (Nat.toDigits 10 m).map Char.toNat := signs_num m
  have hl : (figs (m : Int)).length = (Nat.toDigits 10 m).length := by rw [← cps_len, e, List.length_map]
  have l1 := digits10_le (k := 18) (by decide) hm
  have l2 := tDigits_len_ge 10 m
  have hall : AllDigits (figs (m : Int)).cps.toList := fun c hc => by
    rw [e] at hc
    obtain ⟨ch, hch, rfl⟩ := List.mem_map.mp hc
    have hd := Nat.isDigit_of_mem_toDigits (b := 10) (by decide) (by decide) hch
    unfold Char.isDigit at hd
    rw [Bool.and_eq_true, decide_eq_true_eq, decide_eq_true_eq] at hd
    exact ⟨hd.1, hd.2⟩
  have hne : (figs (m : Int)).cps.toList ≠ [] := fun z => by
    rw [z] at e
    have := congrArg List.length e
    rw [List.length_map, List.length_nil] at this
    omega
  obtain ⟨c, r, hcr⟩ := List.exists_cons_of_ne_nil hne
  have hval : digitsVal (figs (m : Int)).cps.toList = m := by rw [e]; exact val_back m
  refine ⟨⟨c, r, hcr, fun d hd => dig_mem d (hall d hd).1 (hall d hd).2, by omega, fun hc => ?_⟩, ?_⟩
  · have k := toDigits_all (figs (m : Int)).cps.toList hall
    rw [hval] at k
    have hlen : (figs (m : Int)).cps.toList.length = (Nat.toDigits 10 m).length := by rw [e, List.length_map]
    rw [hcr, hc] at k hlen
    have hd : List.dropWhile (fun x => x == 48) (48 :: r) = r.dropWhile (fun x => x == 48) := by simp
    rw [hd] at k
    have hs : (r.dropWhile (fun x => x == 48)).length ≤ r.length := (List.dropWhile_suffix _).length_le
    cases hw : r.dropWhile (fun x => x == 48) with
    | nil =>
      rw [hw] at k
      rw [k] at hlen
      simp at hlen
      exact hlen
    | cons y ys =>
      rw [hw] at k hs
      rw [k] at hlen
      simp at hlen hs
      omega
  · rw [intText_digits hall hne (by omega), hval]
section
variable {C : Hw} {Q : WK} {χ : WX} {n : Nat}
theorem s_word_name {x : Str} (h : isnm x) (q : ∀ C', Ex C C' → Q (.tup [.str "name", .str x]) C') : wpc pr (n + 2) i_word_term [.str x] C Q χ := by
  refine u_word_term rfl ?_
  exact call_if rfl (s_is_name h fun C1 hE => ⟨true, rfl, ite_t ⟨_, rfl, Nat.le_of_ble_eq_true rfl, q C1 hE⟩⟩)
theorem s_word_num {v : Int} (h0 : 0 ≤ v) (h1 : v < 10 ^ 18) (q : ∀ C', Ex C C' → Q (.tup [.str "number", .int v]) C') : wpc pr (n + 2) i_word_term [.str (figs v)] C Q χ := by
  obtain ⟨hf, hi⟩ := figs_fg h0 h1
  obtain ⟨c, r, e1, e2, e3, e4⟩ := id hf
  refine u_word_term rfl ?_
  exact call_if rfl (s_is_name_no e1 (occ_fl c (e2 c (by rw [e1]; simp))) (by omega) ⟨false, rfl, ite_f (call_if rfl (s_is_number hf fun C1 hE => ⟨true, rfl, ite_t ⟨_, rfl, _, _, rfl, hi, by omega, Nat.le_of_ble_eq_true rfl, q C1 hE⟩⟩))⟩)
theorem s_word_shp {w : Str} (h : w ∈ (["Nil", "No", "Yes"] : List Str)) (q : ∀ C', Ex C C' → Q (.tup [.str "shape", .str w, .tup []]) C') : wpc pr (n + 2) i_word_term [.str w] C Q χ := by
  have key : ∀ w ∈ (["Nil", "No", "Yes"] : List Str), (∃ c r, w.cps.toList = c :: r ∧ occ "abcdefghijklmnopqrstuvwxyz" c = false ∧ (⟨#[c]⟩ : Str) ≠ Str.ofString "0") ∧ (∀ d ∈ w.cps.toList, occ "0123456789" d = false) ∧ w.length ≤ 18 ∧ g_SHAPES.lookup w = some 0 := by
    intro w hw
    simp only [List.mem_cons, List.not_mem_nil, or_false] at hw
    rcases hw with rfl | rfl | rfl
    · exact ⟨⟨78, [105, 108], by decide +kernel, by decide +kernel, by decide +kernel⟩, by decide +kernel, by decide +kernel, by decide +kernel⟩
    · exact ⟨⟨78, [111], by decide +kernel, by decide +kernel, by decide +kernel⟩, by decide +kernel, by decide +kernel, by decide +kernel⟩
    · exact ⟨⟨89, [101, 115], by decide +kernel, by decide +kernel, by decide +kernel⟩, by decide +kernel, by decide +kernel, by decide +kernel⟩
  obtain ⟨⟨c, r, e1, e2, e3⟩, e4, e5, e6⟩ := key w h
  refine u_word_term rfl ?_
  refine call_if rfl (s_is_name_no e1 e2 (by omega) ⟨false, rfl, ite_f (call_if rfl (s_is_number_no e1 e4 e3 e5 fun C1 hE => ⟨false, rfl, ite_f ⟨_, rfl, w, rfl, ?_⟩⟩))⟩)
  unfold gcT
  rw [e6]
  exact eqIc (v := true) rfl ⟨true, rfl, ite_t ⟨_, rfl, Nat.le_of_ble_eq_true rfl, Nat.le_of_ble_eq_true rfl, q C1 hE⟩⟩
end
set_option Elab.async false
set_option linter.all false
set_option maxRecDepth 100000
set_option maxHeartbeats 4000000
open PySem PySem.Spec PyProof.Rows L2 WL
inductive Lf (ps : List Str) : T → Prop
  | num {v : Int} (h0 : 0 ≤ v) (h1 : v < 10 ^ 18) : Lf ps (.tup [.str "number", .int v])
  | shp {w : Str} (h : w ∈ (["Nil", "No", "Yes"] : List Str)) : Lf ps (.tup [.str "shape", .str w, .tup []])
  | stop {w : Str} (h : w ∈ ps) : Lf ps (.tup [.str "stop", .str w])
  | name {w : Str} (h : w ∈ ps) : Lf ps (.tup [.str "name", .str w])
theorem Lf.flat {ps : List Str} {t : T} (h : Lf ps t) : flat t 2 = true := by
  cases h <;> refine flat_tup fun x hx => ?_ <;> simp only [List.mem_cons, List.not_mem_nil, or_false] at hx
  · rcases hx with rfl | rfl
    · exact flat_str
    · exact flat_int
  · rcases hx with rfl | rfl | rfl
    · exact flat_str
    · exact flat_str
    · exact flat_tup (by simp)
  · rcases hx with rfl | rfl <;> exact flat_str
  · rcases hx with rfl | rfl <;> exact flat_str
section
variable {C : Hw} {Q : WK} {χ : WX} {n : Nat}
theorem s_leaf {d : Int} {a : Addr} {ps : List Str} (h0 : 0 ≤ d) (ha : C a = some (.lst (ps.map T.str))) (hps : ps ≠ []) (q : ∀ t C', Ex C C' → Lf ps t → Q t C') : wpc pr (n + 1) i__law_leaf [.int d, .ref a] C Q χ := by
  refine u__law_leaf rfl ?_
  unfold w__law_leaf
  walk_at "ws"
  have hpl : 0 < ps.length := List.length_pos_iff.mpr hps
  have pick : ∀ i : Int, ∃ x, atI (ps.map T.str) (i % ((ps.map T.str).length : Int)) = some (.str x) ∧ x ∈ ps := fun i => atT_strs (Int.emod_nonneg _ (by rw [List.length_map]; omega)) (by rw [List.length_map]; exact Int.emod_lt_of_pos _ (by omega))
  have hl : (0 : Int) < ((ps.map T.str).length : Int) := by rw [List.length_map]; omega
  refine ite2 (fun c => ?_) fun c => ite2 (fun c => ?_) fun c => ite2 (fun c => ?_) fun c => ?_
  · refine ⟨⟨by decide, by decide⟩, .inr ⟨by decide, by decide⟩, ⟨by decide, by decide, by decide⟩, fun p hp => ⟨⟨by decide, by decide⟩, ?_⟩⟩
    obtain ⟨v, hv, mv⟩ := atT_ints (ds := [d / 4 % 10, d * 982451653 % 10 ^ Int.toNat 18]) (i := d / 40 % 2) (by omega) (by show d / 40 % 2 < 2; omega)
    refine ⟨_, up_same, _, hv, q _ _ (Ex.new hp) (.num ?_ ?_)⟩
    · simp only [List.mem_cons, List.not_mem_nil, or_false] at mv
      rcases mv with rfl | rfl
      · omega
      · exact Int.emod_nonneg _ (by decide)
    · simp only [List.mem_cons, List.not_mem_nil, or_false] at mv
      rcases mv with rfl | rfl
      · have : (10 : Int) ^ 18 = 1000000000000000000 := by decide
        omega
      · exact Int.emod_lt_of_pos _ (by decide)
  · intro p hp
    obtain ⟨v, hv, mv⟩ := atT_strs (ds := ["Nil", "No", "Yes"]) (i := d / 4 % 3) (by omega) (by show d / 4 % 3 < 3; omega)
    exact ⟨⟨by decide, by decide⟩, _, up_same, _, hv, q _ _ (Ex.new hp) (.shp mv)⟩
  · obtain ⟨x, hx, mx⟩ := pick (d / 16)
    exact ⟨⟨by decide, by decide⟩, _, ha, hl, _, ha, _, hx, q _ _ (Ex.refl _) (.stop mx)⟩
  · obtain ⟨x, hx, mx⟩ := pick (d / 4)
    exact ⟨⟨by decide, by decide⟩, _, ha, hl, _, ha, _, hx, q _ _ (Ex.refl _) (.name mx)⟩
end
def ops : List Str := ["+", "-", "*", "<", "="]
def stT (z : T × List T × T) : T := .tup (z.1 :: (z.2.1 ++ [z.2.2]))
def StepOk (ps : List Str) (z : T × List T × T) : Prop := (z.1 = .str "when" ∧ z.2.1 = []) ∨ ∃ w x, w ∈ (["in", "be"] : List Str) ∧ x ∈ ps ∧ z.1 = .str w ∧ z.2.1 = [.str x]
inductive Jn (ps : List Str) : Int → Int → List T → T → Prop
  | does {d : Int} {op : Str} {A B : T} {r : List T} (h : op ∈ ops) : Jn ps 1 d (A :: B :: r) (.tup [.str "does", .str op, A, B])
  | fun_ {d : Int} {x : Str} {A : T} {r : List T} (h : x ∈ ps) : Jn ps 2 d (A :: r) (.tup [.str "fun", .str x, A])
  | call {d : Int} {A B : T} {r : List T} : Jn ps 3 d (A :: B :: r) (.tup [.str "call", A, B])
  | let_ {d : Int} {zs : List Str} {ts : List T} {B : T} (h : zs.Nodup) (hz : ∀ z ∈ zs, z ∈ ps ∨ z ∈ spare) (hl : zs.length = ts.length) (h1 : 1 ≤ ts.length) (h5 : ts.length ≤ 5) :
      Jn ps 4 d (ts ++ [B]) (.tup [.str "let", .tup ((zs.zip ts).map fun x => .tup [.str x.1, x.2]), B])
  | shape {d : Int} {c : Str} {A B : T} {r : List T} (h : c ∈ (["Cons", "Pair"] : List Str)) : Jn ps 5 d (A :: B :: r) (.tup [.str "shape", .str c, .tup [A, B]])
  | ch0 {d : Int} {x y : Str} {E A B : T} {r : List T} (hd : d % 3 = 0) (hx : x ∈ ps ∨ x ∈ spare) (hy : y ∈ ps ∨ y ∈ spare) (hn : x ≠ y) :
      Jn ps 6 d (E :: A :: B :: r) (.tup [.str "choose", E, .tup [.tup [.str "Nil", .tup [], A], .tup [.str "Cons", .tup [.str x, .str y], B]]])
  | ch1 {d : Int} {E A B : T} {r : List T} (hd : d % 3 = 1) : Jn ps 6 d (E :: A :: B :: r) (.tup [.str "choose", E, .tup [.tup [.str "No", .tup [], A], .tup [.str "Yes", .tup [], B]]])
  | ch2 {d : Int} {x y : Str} {E A : T} {r : List T} (hd : d % 3 = 2) (hx : x ∈ ps ∨ x ∈ spare) (hy : y ∈ ps ∨ y ∈ spare) (hn : x ≠ y) :
      Jn ps 6 d (E :: A :: r) (.tup [.str "choose", E, .tup [.tup [.str "Pair", .tup [.str x, .str y], A]]])
  | first {d : Int} {A B : T} {r : List T} : Jn ps 7 d (A :: B :: r) (.tup [.str "first", A, B])
  | rows {d : Int} {E : T} {zs : List (T × List T × T)} (h : ∀ z ∈ zs, StepOk ps z) (hl : zs.length ≤ 3) : Jn ps 8 d (E :: zs.map (·.2.2)) (.tup [.str "rows", E, .tup (zs.map stT)])
def Fit (s d : Int) (ts : List T) : Prop := (s = 1 ∧ 2 ≤ ts.length) ∨ (s = 2 ∧ 1 ≤ ts.length) ∨ (s = 3 ∧ 2 ≤ ts.length) ∨ (s = 4 ∧ 2 ≤ ts.length ∧ ts.length ≤ 6) ∨ (s = 5 ∧ 2 ≤ ts.length) ∨
  (s = 6 ∧ (d % 3 = 2 → 2 ≤ ts.length) ∧ (d % 3 ≠ 2 → 3 ≤ ts.length)) ∨ (s = 7 ∧ 2 ≤ ts.length) ∨ (s = 8 ∧ 1 ≤ ts.length ∧ ts.length ≤ 4)
theorem two_of {zs : List Str} (h : zs.length = 2) : ∃ x y, zs = [x, y] := by
  match zs, h with
  | [x, y], _ => exact ⟨x, y, rfl⟩
section
variable {C : Hw} {Q : WK} {χ : WX} {n : Nat}
theorem s_chosen {d : Int} {a b : Addr} {ps : List Str} {E : T} {ts : List T} (h0 : 0 ≤ d) (ha : C a = some (.lst (ps.map T.str))) (hps : ps ≠ []) (hp9 : ps.length ≤ 9) (hb : C b = some (.lst ts)) (he : ts[0]? = some E) (hf : Fit 6 d ts)
    (q : ∀ t C', Ex C C' → Jn ps 6 d ts (.tup [.str "choose", E, t]) → Q t C') : wpc pr (n + 2) i__law_chosen [.int d, .ref b, .ref a] C Q χ := by
  refine u__law_chosen rfl ?_
  unfold w__law_chosen
  walk_at "ws"
  have hf' : (d % 3 = 2 → 2 ≤ ts.length) ∧ (d % 3 ≠ 2 → 3 ≤ ts.length) := by
    rcases hf with h | h | h | h | h | h | h | h
    · exact absurd h.1 (by decide)
    · exact absurd h.1 (by decide)
    · exact absurd h.1 (by decide)
    · exact absurd h.1 (by decide)
    · exact absurd h.1 (by decide)
    · exact h.2
    · exact absurd h.1 (by decide)
    · exact absurd h.1 (by decide)
  have hd3 : CDiv d 3 := ⟨by decide, by decide⟩
  have hm3 : (0 : Int) ≤ d / 3 := by omega
  by_cases c0 : d % 3 = 2
  · have hl := hf'.1 c0
    match ts, hl with
    | E' :: A :: r, _ =>
      cases he
      have c1 : ¬ d % 3 = 0 := by omega
      have c2 : ¬ d % 3 = 1 := by omega
      simp only [c1, c2, if_false]
      refine ⟨hd3, s_unlike (n := n) (m := 2) hm3 (by decide) ha hps hp9 fun p C' zs hE hp hz hl hn hs => ?_⟩
      obtain ⟨x, y, rfl⟩ := two_of hl
      have hn' : x ≠ y := by simpa using hn
      refine ⟨_, hz, _, hE _ _ hb, _, atI_1, q _ _ hE ?_⟩
      exact .ch2 c0 (hs x (by simp)) (hs y (by simp)) hn'
  · have hl := hf'.2 c0
    match ts, hl with
    | E' :: A :: B :: r, _ =>
      cases he
      refine ite2 (fun c => ?_) fun c1 => ?_
      · refine ⟨_, hb, _, atI_1, hd3, s_unlike (n := n) (m := 2) hm3 (by decide) ha hps hp9 fun p C' zs hE hp hz hl hn hs => ?_⟩
        obtain ⟨x, y, rfl⟩ := two_of hl
        have hn' : x ≠ y := by simpa using hn
        refine ⟨_, hz, _, hE _ _ hb, _, atI_2, q _ _ hE ?_⟩
        exact .ch0 c (hs x (by simp)) (hs y (by simp)) hn'
      · have c2 : d % 3 = 1 := by omega
        simp only [c2, if_true]
        exact ⟨_, hb, _, atI_1, _, hb, _, atI_2, q _ _ (Ex.refl _) (.ch1 c2)⟩
theorem s_rows {d : Int} {a b : Addr} {ps : List Str} {E : T} {ts : List T} (h0 : 0 ≤ d) (ha : C a = some (.lst (ps.map T.str))) (hps : ps ≠ []) (hb : C b = some (.lst (E :: ts))) (hl : ts.length ≤ 3)
    (q : ∀ t C', Ex C C' → Jn ps 8 d (E :: ts) t → Q t C') : wpc pr (n + 1) i__law_rows [.int d, .ref b, .ref a] C Q χ := by
  refine u__law_rows rfl ?_
  unfold w__law_rows
  walk_at "ws"
  intro p hp
  have nb : b ≠ p := cne hb hp
  have na : a ≠ p := cne ha hp
  have hpl : 0 < ps.length := List.length_pos_iff.mpr hps
  have pick : ∀ i : Int, ∃ x, atI (ps.map T.str) (i % ((ps.map T.str).length : Int)) = some (.str x) ∧ x ∈ ps := fun i => atT_strs (Int.emod_nonneg _ (by rw [List.length_map]; omega)) (by rw [List.length_map]; exact Int.emod_lt_of_pos _ (by omega))
  have hlp : (0 : Int) < ((ps.map T.str).length : Int) := by rw [List.length_map]; omega
  refine ⟨_, by rw [up_ne nb]; exact hb, ?_⟩
  have e0 : ((E :: ts).length : Int) - 1 = (ts.length : Int) := by rw [List.length_cons]; omega
  refine ⟨by omega, by omega, ?_⟩
  refine for_rng (fun i τ C' => ∃ x4 x5, ∃ zs : List (T × List T × T), τ = [some (.int d), some (.ref b), some (.ref a), some (.ref p), x4, x5] ∧ Ex C C' ∧ C' p = some (.lst (zs.map stT)) ∧ zs.map (·.2.2) = ts.take i ∧ ∀ z ∈ zs, StepOk ps z) ⟨none, none, [], rfl, Ex.new hp, up_same, rfl, by simp⟩ (fun _ => trivial) ?_ ?_
  · rintro i τ C' N hi ⟨x4, x5, zs, rfl, hE, hz, hs, hk⟩ hN
    walk_at "ws"
    have hi' : i < ts.length := by omega
    have hb' := hE _ _ hb
    have ha' := hE _ _ ha
    have hzl : zs.length ≤ 3 := by have := congrArg List.length hs; rw [List.length_map, List.length_take] at this; omega
    have ei : atI (E :: ts) (1 + (0 + (i : Int))) = some ts[i] := by
      have e : (1 + (0 + (i : Int))) = ((i + 1 : Nat) : Int) := by omega
      rw [e]; exact atI_nat (by simp [hi'])
    have app : ∀ (z : T × List T × T) (C2 : Hw), Ex C' C2 → z.2.2 = ts[i] → StepOk ps z → ∀ x4 x5, N [some (.int d), some (.ref b), some (.ref a), some (.ref p), x4, x5] (up C2 p (.lst (zs.map stT ++ [stT z]))) := fun z C2 h2 ez hz' x4 x5 => by
      refine hN _ _ ⟨x4, x5, zs ++ [z], rfl, (hE.trans h2).up hp, by rw [up_same, List.map_append]; rfl, ?_, ?_⟩
      · rw [List.map_append, hs, List.take_add_one, List.getElem?_eq_getElem hi']; simp [ez]
      · intro y hy
        rcases List.mem_append.mp hy with hy | hy
        · exact hk y hy
        · rw [List.mem_singleton.mp hy]; exact hz'
    refine ⟨.inl ⟨by decide, by decide⟩, ⟨by omega, by omega⟩, ite2 (fun c => ?_) fun c => ?_⟩
    · exact ⟨⟨_, hz⟩, _, hb', _, ei, _, hz, small63' (by rw [List.length_map]; omega), app (.str "when", [], ts[i]) C' (Ex.refl _) rfl (.inl ⟨rfl, rfl⟩) _ _⟩
    · refine ⟨⟨_, hz⟩, fun p2 hp2 => ?_⟩
      obtain ⟨w, hw, mw⟩ := atT_strs (ds := ["in", "be"]) (i := d / (3 * (0 + (i : Int)) + 1) % 3 - 1) (by omega) (by show _ < (2 : Int); omega)
      obtain ⟨x, hx, mx⟩ := pick (d / (7 * (0 + (i : Int)) + 3))
      have hE2 : Ex C' (up C' p2 (.lst [.str "in", .str "be"])) := Ex.new hp2
      refine ⟨_, up_same, _, hw, .inl ⟨by decide, by decide⟩, ⟨by omega, by omega⟩, _, hE2 _ _ ha', hlp, _, hE2 _ _ ha', _, hx, _, hE2 _ _ hb', _, ei, _, hE2 _ _ hz, small63' (by rw [List.length_map]; omega), ?_⟩
      exact app (.str w, [.str x], ts[i]) _ hE2 rfl (.inr ⟨w, x, mw, mx, rfl, rfl⟩) _ _
  · rintro τ C' ⟨x4, x5, zs, rfl, hE, hz, hs, hk⟩
    have e1 : (((E :: ts).length : Int) - 1).toNat = ts.length := by rw [e0]; omega
    rw [e1, List.take_length] at hs
    walk_at "ws"
    refine ⟨_, hE _ _ hb, _, atI_0, _, hz, q _ _ hE ?_⟩
    subst hs
    exact .rows hk (by rw [List.length_map] at hl; exact hl)
theorem s_joined {s d : Int} {a b : Addr} {ps : List Str} {ts : List T} (h0 : 0 ≤ d) (ha : C a = some (.lst (ps.map T.str))) (hps : ps ≠ []) (hp9 : ps.length ≤ 9) (hb : C b = some (.lst ts)) (hf : Fit s d ts)
    (q : ∀ t C', Ex C C' → Jn ps s d ts t → Q t C') : wpc pr (n + 3) i__law_joined [.int s, .int d, .ref b, .ref a] C Q χ := by
  refine u__law_joined rfl ?_
  unfold w__law_joined
  have hpl : 0 < ps.length := List.length_pos_iff.mpr hps
  have pick : ∀ i : Int, ∃ x, atI (ps.map T.str) (i % ((ps.map T.str).length : Int)) = some (.str x) ∧ x ∈ ps := fun i => atT_strs (Int.emod_nonneg _ (by rw [List.length_map]; omega)) (by rw [List.length_map]; exact Int.emod_lt_of_pos _ (by omega))
  have hlp : (0 : Int) < ((ps.map T.str).length : Int) := by rw [List.length_map]; omega
  have hf0 := hf
  rcases hf with ⟨rfl, hl⟩ | ⟨rfl, hl⟩ | ⟨rfl, hl⟩ | ⟨rfl, hl, hl2⟩ | ⟨rfl, hl⟩ | ⟨rfl, hl⟩ | ⟨rfl, hl⟩ | ⟨rfl, hl, hl2⟩
  · match ts, hl with
    | A :: B :: r, _ =>
      refine k_yesI rfl rfl ?_
      walk_at "ws"
      obtain ⟨c, hc, mc⟩ := atI_in (xs := (Str.ofString "+-*<=").cps.toList) (i := d % 5) (by omega) (by rw [show (Str.ofString "+-*<=").cps.toList.length = 5 by decide +kernel]; omega)
      refine ⟨c, hc, _, hb, _, atI_0, _, hb, _, atI_1, q _ _ (Ex.refl _) (.does ?_)⟩
      rw [show (Str.ofString "+-*<=").cps.toList = [43, 45, 42, 60, 61] by decide +kernel] at mc
      simp only [List.mem_cons, List.not_mem_nil, or_false] at mc
      rcases mc with rfl | rfl | rfl | rfl | rfl <;> decide +kernel
  · match ts, hl with
    | A :: r, _ =>
      refine k_noI rfl (by decide) (k_yesI rfl rfl ?_)
      walk_at "ws"
      obtain ⟨x, hx, mx⟩ := pick d
      exact ⟨_, ha, hlp, _, ha, _, hx, _, hb, _, atI_0, q _ _ (Ex.refl _) (.fun_ mx)⟩
  · match ts, hl with
    | A :: B :: r, _ =>
      refine k_noI rfl (by decide) (k_noI rfl (by decide) (k_yesI rfl rfl ?_))
      walk_at "ws"
      exact ⟨_, hb, _, atI_0, _, hb, _, atI_1, q _ _ (Ex.refl _) .call⟩
  · obtain ⟨us, B, rfl⟩ : ∃ us B, ts = us ++ [B] := ⟨ts.dropLast, ts.getLast (by intro e; rw [e] at hl; simp at hl), (List.dropLast_concat_getLast _).symm⟩
    refine k_noI rfl (by decide) (k_noI rfl (by decide) (k_noI rfl (by decide) (k_yesI rfl rfl ?_)))
    walk_at "ws"
    have e1 : (((us ++ [B]).length : Nat) : Int) - 1 = ((us.length : Nat) : Int) := by rw [List.length_append, List.length_singleton]; omega
    have hu5 : us.length ≤ 5 := by rw [List.length_append, List.length_singleton] at hl2; omega
    have hu1 : 1 ≤ us.length := by rw [List.length_append, List.length_singleton] at hl; omega
    refine ⟨_, hb, ?_⟩
    rw [e1]
    refine s_unlike (n := n + 1) (m := us.length) h0 (by omega) ha hps hp9 fun p C' zs hE hp hz hzl hn hs => ?_
    have hb' := hE _ _ hb
    refine ⟨_, hz, by rw [List.length_map]; omega, by rw [List.length_map]; omega, ?_⟩
    rw [List.length_map, show ((zs.length : Nat) : Int).toNat = zs.length by omega]
    refine comp_inv (fun i acc C2 => C2 = C' ∧ acc = ((zs.zip us).take i).map fun x => .tup [.str x.1, x.2]) ⟨rfl, rfl⟩ (fun _ _ _ _ _ => trivial) ?_ ?_
    · rintro i x acc C2 N hx ⟨rfl, rfl⟩ hN
      obtain ⟨hi, rfl⟩ := rng_get hx
      walk_at "ws"
      have hi2 : i < us.length := by omega
      have g1 : atI (zs.map T.str) (0 + (i : Int)) = some (.str zs[i]) := by rw [Int.zero_add]; exact atI_nat (by simp [hi])
      have g2 : atI (us ++ [B]) (0 + (i : Int)) = some us[i] := by rw [Int.zero_add]; exact atI_nat (by rw [List.getElem?_append_left hi2]; simp [hi2])
      have gz : (zs.zip us)[i]? = some (zs[i], us[i]) := by rw [List.getElem?_zip_eq_some]; exact ⟨by simp [hi], by simp [hi2]⟩
      refine ⟨_, hz, _, g1, _, hb', _, g2, ?_, hN _ _ ⟨rfl, ?_⟩⟩
      · rw [List.length_map, List.length_take]; exact small63' (by omega)
      · rw [List.take_add_one, gz, List.map_append]; rfl
    · rintro acc C2 ⟨rfl, rfl⟩
      rw [rng_len, List.take_of_length_le (by rw [List.length_zip]; omega)]
      intro p2 hp2
      have g3 : atI (us ++ [B]) (-1) = some B := atI_last us B
      exact ⟨_, up_same, _, (Ex.new hp2) _ _ hb', _, g3, q _ _ (hE.trans (Ex.new hp2)) (.let_ hn hs hzl hu1 hu5)⟩
  · match ts, hl with
    | A :: B :: r, _ =>
      refine k_noI rfl (by decide) (k_noI rfl (by decide) (k_noI rfl (by decide) (k_noI rfl (by decide) (k_yesI rfl rfl ?_))))
      walk_at "ws"
      intro p hp
      obtain ⟨c, hc, mc⟩ := atT_strs (ds := ["Cons", "Pair"]) (i := d % 2) (by omega) (by show _ < (2 : Int); omega)
      exact ⟨_, up_same, _, hc, _, (Ex.new hp) _ _ hb, _, atI_0, _, (Ex.new hp) _ _ hb, _, atI_1, q _ _ (Ex.new hp) (.shape mc)⟩
  · have hne : 0 < ts.length := by
      by_cases c : d % 3 = 2
      · have := hl.1 c; omega
      · have := hl.2 c; omega
    match ts, hne with
    | E :: r, _ =>
      refine k_noI rfl (by decide) (k_noI rfl (by decide) (k_noI rfl (by decide) (k_noI rfl (by decide) (k_noI rfl (by decide) (k_yesI rfl rfl ?_)))))
      walk_at "ws"
      exact ⟨_, hb, _, atI_0, s_chosen h0 ha hps hp9 hb rfl hf0 fun t C' hE hJ => q _ _ hE hJ⟩
  · match ts, hl with
    | A :: B :: r, _ =>
      refine k_noI rfl (by decide) (k_noI rfl (by decide) (k_noI rfl (by decide) (k_noI rfl (by decide) (k_noI rfl (by decide) (k_noI rfl (by decide) (k_yesI rfl rfl ?_))))))
      walk_at "ws"
      exact ⟨_, hb, _, atI_0, _, hb, _, atI_1, q _ _ (Ex.refl _) .first⟩
  · match ts, hl with
    | E :: r, _ =>
      refine k_noI rfl (by decide) (k_noI rfl (by decide) (k_noI rfl (by decide) (k_noI rfl (by decide) (k_noI rfl (by decide) (k_noI rfl (by decide) (k_noI rfl (by decide) (?_)))))))
      walk_at "ws"
      exact s_rows h0 ha hps hb (by rw [List.length_cons] at hl2; omega) q
end
def MF (s d : Int) (m : Nat) : Prop := (s = 1 → m = 2) ∧ (s = 2 → m = 1) ∧ (s = 3 → m = 2) ∧ (s = 4 → 2 ≤ m ∧ m ≤ 6) ∧ (s = 5 → m = 2) ∧ (s = 6 → (d % 3 = 2 → m = 2) ∧ (d % 3 ≠ 2 → m = 3)) ∧ (s = 7 → m = 2) ∧ (s = 8 → 1 ≤ m ∧ m ≤ 4) ∧ m ≤ 6
theorem MF.fit {s d : Int} {m : Nat} (h : MF s d m) (h1 : 1 ≤ s) (h8 : s ≤ 8) {ts : List T} (e : ts.length = m) : Fit s d ts := by
  obtain ⟨a1, a2, a3, a4, a5, a6, a7, a8, _⟩ := h
  have hs : s = 1 ∨ s = 2 ∨ s = 3 ∨ s = 4 ∨ s = 5 ∨ s = 6 ∨ s = 7 ∨ s = 8 := by omega
  subst e
  unfold Fit
  rcases hs with rfl | rfl | rfl | rfl | rfl | rfl | rfl | rfl
  · exact .inl ⟨rfl, by have := a1 rfl; omega⟩
  · exact .inr (.inl ⟨rfl, by have := a2 rfl; omega⟩)
  · exact .inr (.inr (.inl ⟨rfl, by have := a3 rfl; omega⟩))
  · exact .inr (.inr (.inr (.inl ⟨rfl, a4 rfl⟩)))
  · exact .inr (.inr (.inr (.inr (.inl ⟨rfl, by have := a5 rfl; omega⟩))))
  · exact .inr (.inr (.inr (.inr (.inr (.inl ⟨rfl, fun c => by have := (a6 rfl).1 c; omega, fun c => by have := (a6 rfl).2 c; omega⟩)))))
  · exact .inr (.inr (.inr (.inr (.inr (.inr (.inl ⟨rfl, by have := a7 rfl; omega⟩))))))
  · exact .inr (.inr (.inr (.inr (.inr (.inr (.inr ⟨rfl, a8 rfl⟩))))))
section
variable {C : Hw} {Q : WK} {χ : WX} {n : Nat}
theorem s_many {s d : Int} (h0 : 0 ≤ d) (h1 : 1 ≤ s) (h8 : s ≤ 8) (q : ∀ (m : Nat) C', Ex C C' → MF s d m → Q (.int m) C') : wpc pr (n + 1) i__law_many [.int s, .int d] C Q χ := by
  refine u__law_many rfl ?_
  unfold w__law_many
  have hs : s = 1 ∨ s = 2 ∨ s = 3 ∨ s = 4 ∨ s = 5 ∨ s = 6 ∨ s = 7 ∨ s = 8 := by omega
  have fin : ∀ (m : Nat) (v : Int) C', v = (m : Int) → Ex C C' → MF s d m → Q (.int v) C' := fun m v C' e hE hM => by subst e; exact q m C' hE hM
  have lst : ∀ (j : Nat) (v : Int) (m : Nat), s = (j : Int) → ([T.int 0, .int 2, .int 1, .int 2, .int 0, .int 2, .int 0, .int 2])[j]? = some (.int v) → v = (m : Int) → MF s d m → sRet (eBin wIdx (eLst (aCons (eC (.int 0)) (aCons (eC (.int 2)) (aCons (eC (.int 1)) (aCons (eC (.int 2)) (aCons (eC (.int 0)) (aCons (eC (.int 2)) (aCons (eC (.int 0)) (aCons (eC (.int 2)) aNil))))))))) (eVar 0)) { nx := fun _ C' => Q .non C', rt := Q, xc := χ } [some (.int s), some (.int d)] C := fun j v m e hv hm hM => by
    subst e
    exact ⟨Nat.le_of_ble_eq_true rfl, fun p hp => ⟨_, rfl, _, _, up_same, atI_nat hv, fin m v _ hm (Ex.new hp) hM⟩⟩
  rcases hs with rfl | rfl | rfl | rfl | rfl | rfl | rfl | rfl
  · exact k_noI rfl (by decide) (k_noI rfl (by decide) (k_noI rfl (by decide) (lst 1 2 2 rfl rfl rfl (by unfold MF; omega))))
  · exact k_noI rfl (by decide) (k_noI rfl (by decide) (k_noI rfl (by decide) (lst 2 1 1 rfl rfl rfl (by unfold MF; omega))))
  · exact k_noI rfl (by decide) (k_noI rfl (by decide) (k_noI rfl (by decide) (lst 3 2 2 rfl rfl rfl (by unfold MF; omega))))
  · exact k_yesI rfl rfl ⟨_, rfl, ⟨by decide, by decide⟩, by decide, fin (2 + (d / 7 % 5).toNat) _ _ (by omega) (Ex.refl _) (by unfold MF; omega)⟩
  · exact k_noI rfl (by decide) (k_noI rfl (by decide) (k_noI rfl (by decide) (lst 5 2 2 rfl rfl rfl (by unfold MF; omega))))
  · refine k_noI rfl (by decide) (k_yesI rfl rfl ⟨Nat.le_of_ble_eq_true rfl, fun p hp => ⟨_, rfl, by decide, ?_⟩⟩)
    by_cases c : d % 3 = 2
    · rw [c]; exact ⟨_, _, up_same, atI_2, fin 2 _ _ rfl (Ex.new hp) (by unfold MF; omega)⟩
    · by_cases c1 : d % 3 = 0
      · rw [c1]; exact ⟨_, _, up_same, atI_0, fin 3 _ _ rfl (Ex.new hp) (by unfold MF; omega)⟩
      · rw [show d % 3 = 1 by omega]; exact ⟨_, _, up_same, atI_1, fin 3 _ _ rfl (Ex.new hp) (by unfold MF; omega)⟩
  · exact k_noI rfl (by decide) (k_noI rfl (by decide) (k_noI rfl (by decide) (lst 7 2 2 rfl rfl rfl (by unfold MF; omega))))
  · exact k_noI rfl (by decide) (k_noI rfl (by decide) (k_yesI rfl rfl ⟨_, rfl, ⟨by decide, by decide⟩, by decide, fin (1 + (d / 7 % 4).toNat) _ _ (by omega) (Ex.refl _) (by unfold MF; omega)⟩))
end
theorem Jn.flat {ps : List Str} {s d : Int} {ts : List T} {t : T} {k : Nat} (h : Jn ps s d ts t) (hk : 1 ≤ k) (hf : ∀ x ∈ ts, flat x k = true) : flat t (k + 3) = true := by
  obtain ⟨j, rfl⟩ : ∃ j, k = j + 1 := ⟨k - 1, by omega⟩
  have g : ∀ x ∈ ts, ∀ m, j + 1 ≤ m → WL.flat x m = true := fun x hx m hm => flat_mono x (hf x hx) hm
  cases h with
  | does h => simp [WL.flat, flats, g]
  | fun_ h => simp [WL.flat, flats, g]
  | call => simp [WL.flat, flats, g]
  | first => simp [WL.flat, flats, g]
  | @let_ _ zs us B h hz hl h1 h5 =>
    have e : flats ((zs.zip us).map fun x => T.tup [.str x.1, x.2]) (j + 2) = true := flats_iff.mpr fun y hy => by
      obtain ⟨z, hz', rfl⟩ := List.mem_map.mp hy
      have := g z.2 (List.mem_append_left _ (List.of_mem_zip hz').2) (j + 1) (by omega)
      simp [WL.flat, flats, this]
    simp [WL.flat, flats, g, e]
  | shape h => simp [WL.flat, flats, g]
  | ch0 hd hx hy hn => simp [WL.flat, flats, g]
  | ch1 hd => simp [WL.flat, flats, g]
  | ch2 hd hx hy hn => simp [WL.flat, flats, g]
  | @rows _ E zs h hl =>
    have e : flats (zs.map stT) (j + 2) = true := flats_iff.mpr fun y hy => by
      obtain ⟨z, hz', rfl⟩ := List.mem_map.mp hy
      have := g z.2.2 (by simp; exact .inr ⟨z.1, z.2.1, hz'⟩) (j + 1) (by omega)
      unfold stT
      rcases h z hz' with ⟨e1, e2⟩ | ⟨_, _, _, _, e1, e2⟩ <;> rw [e1, e2] <;> simp [WL.flat, flats, this]
    simp [WL.flat, flats, g, e]
set_option Elab.async false
set_option linter.all false
set_option maxRecDepth 100000
set_option maxHeartbeats 4000000
open PySem PySem.Spec PyProof.Rows L2 WL
def RT (f : Nat) (τ : Tr) (t : T) : Prop := ∀ {n : Nat} {C : Hw} {Q : WK} {χ : WX} {v : T}, TrH C v τ → (∀ C', Ex C C' → Q t C') → wpc pr (n + 3 * f + 4) i_term_of [v] C Q χ
theorem RT.mono {f g : Nat} {τ : Tr} {t : T} (h : RT f τ t) (hl : f ≤ g) : RT g τ t := fun {n C Q χ v} hv q => by
  obtain ⟨k, rfl⟩ : ∃ k, g = f + k := ⟨g - f, by omega⟩
  have := h (n := n + 3 * k) (χ := χ) hv q
  rw [show n + 3 * k + 3 * f + 4 = n + 3 * (f + k) + 4 by omega] at this
  exact this
theorem RT.at {f m : Nat} {τ : Tr} {t : T} {C : Hw} {Q : WK} {χ : WX} {v : T} (h : RT f τ t) (hm : 3 * f + 4 ≤ m) (hv : TrH C v τ) (q : ∀ C', Ex C C' → Q t C') : wpc pr m i_term_of [v] C Q χ := by
  obtain ⟨n, rfl⟩ : ∃ n, m = n + 3 * f + 4 := ⟨m - (3 * f + 4), by omega⟩
  exact h hv q
section
variable {C : Hw} {Q : WK} {χ : WX} {n f m : Nat}
theorem s_term_w {x : Str} {t : T} (h : wpc pr n i_word_term [.str x] C Q χ) : wpc pr (n + 1) i_term_of [.str x] C Q χ := by
  refine u_term_of rfl ?_
  unfold w_term_of
  walk_at "ws"
  refine ⟨true, by simp [tru, isCls], ?_⟩
  walk_at "ws"
  exact h
theorem wEq_nil {p r : Addr} {ts : List T} (hp : C p = some (.lst ts)) (hr : C r = some (.lst [])) (q : Q (.bl ts.isEmpty) C) : wEqG false (.ref p) (.ref r) C Q := by
  refine ⟨ts, [], hp, hr, fun h => ?_, ?_⟩
  · have : ts = [] := List.eq_nil_of_length_eq_zero h
    subst this
    exact ⟨by unfold flats; rfl, by unfold flats; rfl⟩
  · have : eqTs ts [] = ts.isEmpty := by cases ts <;> simp [eqTs]
    rw [if_neg (by decide), this]; exact q
theorem cut_1 {α : Type} {x : α} {r : List α} : cut (x :: r) (some 1) none = r := by
  unfold cut
  have h1 : HT.sIx (x :: r).length 0 (some 1) = 1 := by
    have := HT.sIx_nat (x :: r).length 0 1
    rw [List.length_cons] at this ⊢
    rw [show (some (1 : Int)) = some ((1 : Nat) : Int) from rfl, this]; omega
  rw [h1, HT.sIx_none]
  simp
theorem sIx_m1 {n d : Nat} (h : 1 ≤ n) : HT.sIx n d (some (-1)) = n - 1 := by
  show (if (-1 : Int) < 0 then ((-1 : Int) + (n : Int)).toNat else min (-1 : Int).toNat n) = n - 1
  rw [if_pos (by decide)]; omega
theorem cut_init {α : Type} {x : α} {r : List α} : cut (r ++ [x]) none (some (-1)) = r := by
  unfold cut
  rw [sIx_m1 (by simp), HT.sIx_none]
  simp
theorem cut_mid {α : Type} {x y : α} {r : List α} : cut (x :: (r ++ [y])) (some 1) (some (-1)) = r := by
  unfold cut
  have h1 : HT.sIx (x :: (r ++ [y])).length 0 (some 1) = 1 := by
    have := HT.sIx_nat (x :: (r ++ [y])).length 0 1
    rw [show (some (1 : Int)) = some ((1 : Nat) : Int) from rfl, this]
    simp
  rw [h1, sIx_m1 (by simp)]
  simp
def opsT (P : Calls) : WS := (sSeq (sIf (tBl (eBin wInR (eVar 1) (eC g_OPS))) (sRet (eBin wAdd (eTup (aCons (eC (.str "does")) (aCons (eVar 1) aNil))) (eCall P 13 (aCons (eVar 2) aNil)))) sPass)
    (w_term_of_t8 P))
theorem s_term_n {a : Addr} {hv : T} {rv : List T} (ha : C a = some (.lst (hv :: rv))) (hl : rv.length ≤ 1000)
    (q : ∀ b C', Ex C C' → C' b = some (.lst rv) → opsT (wpc pr n) { nx := fun _ C' => Q .non C', rt := Q, xc := χ } [some (.ref a), some hv, some (.ref b)] C') : wpc pr (n + 1) i_term_of [.ref a] C Q χ := by
  refine u_term_of rfl ?_
  unfold w_term_of
  walk_at "ws"
  refine ⟨"list", .inl ⟨rfl, _, ha⟩, false, by simp [tru, isCls], ?_⟩
  unfold w_term_of_t10
  walk_at "ws"
  intro r hr
  refine wEq_nil ((Ex.new hr) _ _ ha) up_same ⟨false, rfl, ?_⟩
  walk_at "ws"
  unfold w_term_of_t9
  have ha1 := (Ex.new (o := .lst []) hr) _ _ ha
  refine ⟨_, rfl, _, _, ha1, atI_0, ?_⟩
  refine ⟨_, rfl, 1, rfl, _, ha1, fun b hb => ?_⟩
  have := q b _ ((Ex.new hr).trans (Ex.new (o := .lst rv) hb)) up_same
  rw [cut_1]
  exact this
theorem sk_no {i : Nat} {w s : Str} {D : We} {τ : Sw} {x r : WS} (h : τ[i]? = some (some (.str w))) (hw : w ≠ s) (q : r D τ C) : sSeq (sIf (tBl (eBin wEq (eVar i) (eC (.str s)))) x sPass) r D τ C := by
  refine ⟨_, h, ?_⟩
  simp only [eC]
  rw [wEq, wEq_str]
  refine ⟨false, by simp [hw], ?_⟩
  rw [if_neg (by decide)]; exact q
theorem sk_noR {i : Nat} {a : Addr} {s : Str} {vs : List T} {D : We} {τ : Sw} {x r : WS} (h : τ[i]? = some (some (.ref a))) (ha : C a = some (.lst vs)) (q : r D τ C) : sSeq (sIf (tBl (eBin wEq (eVar i) (eC (.str s)))) x sPass) r D τ C := by
  refine ⟨_, h, ?_⟩
  exact ⟨⟨_, ha⟩, flat_str, false, rfl, q⟩
theorem sk_yes {i : Nat} {s : Str} {D : We} {τ : Sw} {x r : WS} (h : τ[i]? = some (some (.str s))) (q : x { D with nx := r D } τ C) : sSeq (sIf (tBl (eBin wEq (eVar i) (eC (.str s)))) x sPass) r D τ C := by
  refine ⟨_, h, ?_⟩
  simp only [eC]
  rw [wEq, wEq_str]
  refine ⟨true, by simp, ?_⟩
  rw [if_pos rfl]; exact q
theorem wInR_str {w : Str} {ts : List T} : wInR (.str w) (.tup ts) C Q = wInG false (.str w) (.tup ts) C Q := rfl
theorem ops_tup : g_OPS = .tup (ops.map T.str) := rfl
theorem ops_no {P : Calls} {D : We} {w : Str} {x0 x2 : Option T} (hw : w ∉ ops) (q : w_term_of_t8 P D [x0, some (.str w), x2] C) : opsT P D [x0, some (.str w), x2] C := by
  refine ⟨_, rfl, ?_⟩
  simp only [eC]
  rw [ops_tup, wInR_str]
  refine wIn_tup ⟨false, by simp [hw], ?_⟩
  rw [if_neg (by decide)]; exact q
theorem ops_noR {P : Calls} {D : We} {a : Addr} {vs : List T} {x0 x2 : Option T} (ha : C a = some (.lst vs)) (q : w_term_of_t8 P D [x0, some (.ref a), x2] C) : opsT P D [x0, some (.ref a), x2] C := by
  refine ⟨_, rfl, ?_⟩
  exact ⟨⟨_, ha⟩, ⟨ops, rfl⟩, false, rfl, q⟩
theorem ops_yes {P : Calls} {D : We} {w : Str} {x0 x2 : Option T} (hw : w ∈ ops) (q : (sRet (eBin wAdd (eTup (aCons (eC (.str "does")) (aCons (eVar 1) aNil))) (eCall P 13 (aCons (eVar 2) aNil)))) { D with nx := w_term_of_t8 P D } [x0, some (.str w), x2] C) : opsT P D [x0, some (.str w), x2] C := by
  refine ⟨_, rfl, ?_⟩
  simp only [eC]
  rw [ops_tup, wInR_str]
  refine wIn_tup ⟨true, by simp [hw], ?_⟩
  rw [if_pos rfl]; exact q
def heads : List Str := ops ++ (["fun", "let", "choose", "first", "stop", "rows", "Cons", "Pair"] : List Str)
theorem to_call {P : Calls} {D : We} {v : T} {x0 x2 : Option T} (h : (∃ w, v = .str w ∧ w ∉ heads) ∨ ∃ a vs, v = .ref a ∧ C a = some (.lst vs)) (q : w_term_of_t1 P D [x0, some v, x2] C) : opsT P D [x0, some v, x2] C := by
  rcases h with ⟨w, rfl, hw⟩ | ⟨a, vs, rfl, ha⟩
  · have nn : ∀ s ∈ heads, w ≠ s := fun s hs e => hw (e ▸ hs)
    refine ops_no (fun z => hw (List.mem_append_left _ z)) ?_
    refine sk_no rfl (nn _ (by decide)) (sk_no rfl (nn _ (by decide)) (sk_no rfl (nn _ (by decide)) (sk_no rfl (nn _ (by decide)) (sk_no rfl (nn _ (by decide)) (sk_no rfl (nn _ (by decide)) ?_)))))
    unfold w_term_of_t2
    walk_at "ws"
    rw [if_neg (nn _ (by decide)), if_neg (nn _ (by decide))]
    exact q
  · refine ops_noR ha ?_
    refine sk_noR rfl ha (sk_noR rfl ha (sk_noR rfl ha (sk_noR rfl ha (sk_noR rfl ha (sk_noR rfl ha ?_)))))
    unfold w_term_of_t2
    exact ⟨_, rfl, ⟨_, ha⟩, flat_str, false, rfl, _, rfl, ⟨_, ha⟩, flat_str, false, rfl, q⟩
theorem s_two_terms {a : Addr} {v1 v2 t1 t2 : T} {τ1 τ2 : Tr} (hm : 3 * f + 5 ≤ m) (ha : C a = some (.lst [v1, v2])) (h1 : TrH C v1 τ1) (h2 : TrH C v2 τ2) (R1 : RT f τ1 t1) (R2 : RT f τ2 t2) (q : ∀ C', Ex C C' → Q (.tup [t1, t2]) C') :
    wpc pr m i_two_terms [.ref a] C Q χ := by
  obtain ⟨m, rfl⟩ : ∃ k, m = k + 1 := ⟨m - 1, by omega⟩
  refine u_two_terms rfl ?_
  unfold w_two_terms
  walk_at "ws"
  refine ⟨_, ha, ?_⟩
  walk_at "ws"
  refine ⟨_, ha, _, atI_0, R1.at (by omega) h1 fun C1 hE1 => ?_⟩
  refine ⟨_, hE1 _ _ ha, _, atI_1, R2.at (by omega) (h2.ex hE1) fun C2 hE2 => ?_⟩
  exact q C2 (hE1.trans hE2)
theorem rt_does {o : Str} {A B : T} {α β : Tr} (ho : o ∈ ops) (hA : RT f α A) (hB : RT f β B) : RT (f + 1) (.n [.w o, α, β]) (.tup [.str "does", .str o, A, B]) := fun {n C Q χ v} hv q => by
  obtain ⟨a, vs, rfl, ha, hs⟩ := of_n hv
  obtain ⟨v0, r, rfl, h0, hs⟩ := of_tcons hs
  obtain ⟨v1, r, rfl, h1, hs⟩ := of_tcons hs
  obtain ⟨v2, r, rfl, h2, hs⟩ := of_tcons hs
  cases of_tnil hs
  cases of_w h0
  refine s_term_n (n := n + 3 * f + 6) ha (by simp) fun b C1 hE hb => ops_yes ho ?_
  walk_at "ws"
  refine s_two_terms (by omega) hb (h1.ex hE) (h2.ex hE) hA hB fun C2 hE2 => ?_
  exact ⟨small63 (by simp), q C2 (hE.trans hE2)⟩
theorem rt_first {A B : T} {α β : Tr} (hA : RT f α A) (hB : RT f β B) : RT (f + 1) (.n [.w "first", α, β]) (.tup [.str "first", A, B]) := fun {n C Q χ v} hv q => by
  obtain ⟨a, vs, rfl, ha, hs⟩ := of_n hv
  obtain ⟨v0, r, rfl, h0, hs⟩ := of_tcons hs
  obtain ⟨v1, r, rfl, h1, hs⟩ := of_tcons hs
  obtain ⟨v2, r, rfl, h2, hs⟩ := of_tcons hs
  cases of_tnil hs
  cases of_w h0
  refine s_term_n (n := n + 3 * f + 6) ha (by simp) fun b C1 hE hb => ops_no (by decide) (sk_no rfl (by decide) (sk_no rfl (by decide) (sk_no rfl (by decide) (sk_yes rfl ?_))))
  walk_at "ws"
  refine s_two_terms (by omega) hb (h1.ex hE) (h2.ex hE) hA hB fun C2 hE2 => ?_
  exact ⟨small63 (by simp), q C2 (hE.trans hE2)⟩
theorem rt_shape {c : Str} {A B : T} {α β : Tr} (hc : c ∈ (["Cons", "Pair"] : List Str)) (hA : RT f α A) (hB : RT f β B) : RT (f + 1) (.n [.w c, α, β]) (.tup [.str "shape", .str c, .tup [A, B]]) := fun {n C Q χ v} hv q => by
  obtain ⟨a, vs, rfl, ha, hs⟩ := of_n hv
  obtain ⟨v0, r, rfl, h0, hs⟩ := of_tcons hs
  obtain ⟨v1, r, rfl, h1, hs⟩ := of_tcons hs
  obtain ⟨v2, r, rfl, h2, hs⟩ := of_tcons hs
  cases of_tnil hs
  cases of_w h0
  have nn : ∀ s ∈ (ops ++ (["fun", "let", "choose", "first", "stop", "rows"] : List Str)), c ≠ s := fun s hs e => by
    subst e
    have key : ∀ c ∈ (["Cons", "Pair"] : List Str), c ∉ (ops ++ (["fun", "let", "choose", "first", "stop", "rows"] : List Str)) := by decide +kernel
    exact key _ hc hs
  refine s_term_n (n := n + 3 * f + 6) ha (by simp) fun b C1 hE hb => ops_no (fun z => nn c (List.mem_append_left _ z) rfl) (sk_no rfl (nn _ (by decide)) (sk_no rfl (nn _ (by decide)) (sk_no rfl (nn _ (by decide)) (sk_no rfl (nn _ (by decide)) (sk_no rfl (nn _ (by decide)) (sk_no rfl (nn _ (by decide)) ?_))))))
  have fin : (sRet (eTup (aCons (eC (.str "shape")) (aCons (eVar 1) (aCons (eCall (wpc pr (n + 3 * f + 6)) 13 (aCons (eVar 2) aNil)) aNil))))) { nx := w_term_of_t1 (wpc pr (n + 3 * f + 6)) { nx := fun _ C' => Q .non C', rt := Q, xc := χ }, rt := Q, xc := χ } [some (.ref a), some (.str c), some (.ref b)] C1 := by
    walk_at "ws"
    refine s_two_terms (by omega) hb (h1.ex hE) (h2.ex hE) hA hB fun C2 hE2 => ?_
    exact q C2 (hE.trans hE2)
  unfold w_term_of_t2
  simp only [List.mem_cons, List.not_mem_nil, or_false] at hc
  rcases hc with rfl | rfl
  · refine ⟨_, rfl, ?_⟩
    simp only [eC]
    rw [wEq, wEq_str]
    refine ⟨true, by simp, ?_⟩
    rw [if_pos rfl]
    exact fin
  · refine ⟨_, rfl, ?_⟩
    simp only [eC]
    rw [wEq, wEq_str]
    refine ⟨false, by rw [if_neg (by decide)]; exact congrArg T.bl (by decide +kernel), ?_⟩
    rw [if_neg (by decide)]
    refine ⟨_, rfl, ?_⟩
    simp only [eC]
    rw [wEq_str]
    refine ⟨true, by simp, ?_⟩
    rw [if_pos rfl]
    exact fin
theorem s_name_of {x : Str} (h : isnm x) (q : ∀ C', Ex C C' → Q (.str x) C') : wpc pr (n + 2) i_name_of [.str x] C Q χ := by
  refine u_name_of rfl ?_
  unfold w_name_of
  walk_at "ws"
  refine ⟨true, by simp [tru, isCls], ?_⟩
  walk_at "ws"
  refine s_is_name h fun C1 hE => ?_
  refine ⟨true, by simp [tru], ?_⟩
  walk_at "ws"
  exact q C1 hE
theorem rt_stop {x : Str} (hx : isnm x) : RT (f + 1) (.n [.w "stop", .w x]) (.tup [.str "stop", .str x]) := fun {n C Q χ v} hv q => by
  obtain ⟨a, vs, rfl, ha, hs⟩ := of_n hv
  obtain ⟨v0, r, rfl, h0, hs⟩ := of_tcons hs
  obtain ⟨v1, r, rfl, h1, hs⟩ := of_tcons hs
  cases of_tnil hs
  cases of_w h0
  cases of_w h1
  refine s_term_n (n := n + 3 * f + 6) ha (by simp) fun b C1 hE hb => ops_no (by decide) (sk_no rfl (by decide) (sk_no rfl (by decide) (sk_no rfl (by decide) (sk_no rfl (by decide) (sk_yes rfl ?_)))))
  walk_at "ws"
  refine u_stop_term rfl ?_
  unfold w_stop_term
  walk_at "ws"
  refine ⟨_, hb, ?_⟩
  walk_at "ws"
  refine ⟨_, hb, _, atI_0, s_name_of (n := n + 3 * f + 3) hx fun C2 hE2 => ?_⟩
  exact q C2 (hE.trans hE2)
end
set_option Elab.async false
set_option linter.all false
set_option maxRecDepth 100000
set_option maxHeartbeats 4000000
open PySem PySem.Spec PyProof.Rows L2 WL
def funs (ns : List Str) (B : T) : T := ns.foldr (fun x t => .tup [.str "fun", .str x, t]) B
def calls (F : T) (ts : List T) : T := ts.foldl (fun t A => .tup [.str "call", t, A]) F
theorem comp_vals {g : WG} {e : WE} {ok : Hw → Prop} {τ : Sw} {Q : List T → Hw → Prop} {χ : WX} {xs ys : List T} {C : Hw} (hl : xs.length = ys.length) (hm : xs.length ≤ 1000)
    (hok : ∀ C', Ex C C' → ok C') (hs : ∀ (i : Nat) (x y : T), xs[i]? = some x → ys[i]? = some y → ∀ C', Ex C C' → ∀ N : WK, (∀ C2, Ex C' C2 → N y C2) → g x τ C' (fun τ2 C2 => e τ2 C2 N χ) χ)
    (hd : ∀ C', Ex C C' → Q ys C') : compW g tYes e ok τ Q χ xs [] C := by
  refine comp_inv (fun i acc C' => acc = ys.take i ∧ Ex C C') ⟨by simp, Ex.refl _⟩ (fun _ _ C' _ h => hok C' h.2) ?_ ?_
  · rintro i x acc C' N hx ⟨rfl, hE⟩ hN
    have hi : i < xs.length := (List.getElem?_eq_some_iff.mp hx).1
    have hy : ys[i]? = some (ys[i]'(by omega)) := by simp [hl ▸ hi]
    refine hs i x _ hx hy C' hE _ fun C2 hE2 => ⟨?_, hN _ _ ⟨?_, hE.trans hE2⟩⟩
    · rw [List.length_take]; exact small63' (by omega)
    · rw [List.take_add_one, hy]; rfl
  · rintro acc C' ⟨rfl, hE⟩
    rw [hl, List.take_length]
    exact hd C' hE
theorem comp_valsE {g : WG} {e : WE} {ok : Hw → Prop} {τ : Sw} {Q : List T → Hw → Prop} {χ : WX} {zs xs ys : List T} {C : Hw} (he : zs = xs) (hl : xs.length = ys.length) (hm : xs.length ≤ 1000)
    (hok : ∀ C', Ex C C' → ok C') (hs : ∀ (i : Nat) (x y : T), xs[i]? = some x → ys[i]? = some y → ∀ C', Ex C C' → ∀ N : WK, (∀ C2, Ex C' C2 → N y C2) → g x τ C' (fun τ2 C2 => e τ2 C2 N χ) χ)
    (hd : ∀ C', Ex C C' → Q ys C') : compW g tYes e ok τ Q χ zs [] C := by subst he; exact comp_vals hl hm hok hs hd
section
variable {C : Hw} {Q : WK} {χ : WX} {n f m : Nat}
theorem s_fun_term {a : Addr} (hm : 3 * f + 5 ≤ m) {ns : List Str} {vB B : T} {β : Tr} (ha : C a = some (.lst (ns.map T.str ++ [vB]))) (h1 : 1 ≤ ns.length) (h5 : ns.length ≤ 60) (hn : ∀ x ∈ ns, isnm x) (hB : TrH C vB β) (RB : RT f β B) (q : ∀ C', Ex C C' → Q (funs ns B) C') :
    wpc pr m i_fun_term [.ref a] C Q χ := by
  obtain ⟨m, rfl⟩ : ∃ k, m = k + 3 := ⟨m - 3, by omega⟩
  refine u_fun_term rfl ?_
  unfold w_fun_term
  have k : ¬ (((ns.map T.str ++ [vB]).length : Int) < 2) := by rw [List.length_append, List.length_map]; simp; omega
  walk_at "ws"
  refine ⟨_, ha, ?_⟩
  rw [if_neg k]
  refine ⟨_, ha, _, atI_last _ _, RB.at (by omega) hB fun C1 hE1 => ?_⟩
  have ha1 := hE1 _ _ ha
  unfold iRv
  walk_at "ws"
  refine ⟨_, ha1, fun l hl => ?_⟩
  rw [cut_init]
  refine ⟨_, up_same, ?_⟩
  have hE2 : Ex C (up C1 l (.lst (ns.map T.str))) := hE1.trans (Ex.new hl)
  have hrev : (ns.map T.str).reverse = ns.reverse.map T.str := by rw [List.map_reverse]
  rw [hrev]
  refine for_inv (fun i τ C' => ∃ x2, τ = [some (.ref a), some ((ns.reverse.take i).foldl (fun t x => T.tup [.str "fun", .str x, t]) B), x2] ∧ Ex (up C1 l (.lst (ns.map T.str))) C') ⟨none, rfl, Ex.refl _⟩ (fun i τ C' _ h => by obtain ⟨_, _, hE⟩ := h; exact hE _ _ up_same) ?_ ?_
  · rintro i x τ C' N hx ⟨x2, rfl, hE⟩ hN
    rw [List.getElem?_map] at hx
    cases hr : ns.reverse[i]? with
    | none => rw [hr] at hx; cases hx
    | some y =>
      rw [hr] at hx
      cases hx
      walk_at "ws"
      refine s_name_of (n := _) (hn y (by have := List.mem_of_getElem? hr; simpa using this)) fun C2 hE' => ?_
      refine hN _ _ ⟨some (.str y), ?_, hE.trans hE'⟩
      rw [List.take_add_one, hr, List.foldl_append]; rfl
  · rintro τ C' ⟨x2, rfl, hE⟩
    walk_at "ws"
    have e : (ns.reverse.take (ns.reverse.map T.str).length).foldl (fun t x => T.tup [.str "fun", .str x, t]) B = funs ns B := by
      rw [List.length_map, List.take_length, List.foldl_reverse]; rfl
    rw [e]
    exact q C' (hE2.trans hE)
theorem rt_fun {ns : List Str} {B : T} {β : Tr} (h1 : 1 ≤ ns.length) (h5 : ns.length ≤ 60) (hn : ∀ x ∈ ns, isnm x) (RB : RT f β B) : RT (f + 1) (.n (.w "fun" :: (ns.map Tr.w ++ [β]))) (funs ns B) := fun {n C Q χ v} hv q => by
  obtain ⟨a, vs, rfl, ha, hs⟩ := of_n hv
  obtain ⟨v0, r, rfl, h0, hs⟩ := of_tcons hs
  obtain ⟨xs, ys, rfl, hx, hy⟩ := of_tapp hs
  obtain ⟨vB, r, rfl, hB, hs⟩ := of_tcons hy
  cases of_tnil hs
  cases of_w h0
  cases trs_w hx
  refine s_term_n (n := n + 3 * f + 6) ha (by simp; omega) fun b C1 hE hb => ops_no (by decide) (sk_yes rfl ?_)
  walk_at "ws"
  exact s_fun_term (by omega) hb h1 h5 hn (hB.ex hE) RB fun C2 hE2 => q C2 (hE.trans hE2)
def HdOk : Tr → Prop
  | .w x => x ∉ heads
  | .n _ => True
theorem TrHs.get : ∀ {ts : List Tr} {vs : List T} {i : Nat} {v : T} {t : Tr}, TrHs C vs ts → vs[i]? = some v → ts[i]? = some t → TrH C v t
  | [], _, _, _, _, h, e, _ => by rw [of_tnil h] at e; simp at e
  | _ :: _, _, 0, _, _, h, e, e' => by
    obtain ⟨v, r, rfl, a, _⟩ := of_tcons h
    simp at e e'
    subst e; subst e'
    exact a
  | _ :: ts, _, i + 1, v, t, h, e, e' => by
    obtain ⟨_, r, rfl, _, b⟩ := of_tcons h
    exact TrHs.get (i := i) b (by simpa using e) (by simpa using e')
theorem rt_call {F : T} {φ : Tr} {zs : List (Tr × T)} (hφ : HdOk φ) (h1 : 1 ≤ zs.length) (h5 : zs.length ≤ 60) (RF : RT f φ F) (hz : ∀ z ∈ zs, RT f z.1 z.2) : RT (f + 1) (.n (φ :: zs.map (·.1))) (calls F (zs.map (·.2))) := fun {n C Q χ v} hv q => by
  obtain ⟨a, vs, rfl, ha, hs⟩ := of_n hv
  obtain ⟨v0, r, rfl, h0, hs⟩ := of_tcons hs
  have hlen : r.length = zs.length := by rw [hs.length, List.length_map]
  refine s_term_n (n := n + 3 * f + 6) ha (by omega) fun b C1 hE hb => to_call ?_ ?_
  · cases φ with
    | w x => exact .inl ⟨x, of_w h0, hφ⟩
    | n ts =>
      obtain ⟨a', vs', e, ha', _⟩ := of_n h0
      exact .inr ⟨a', vs', e, hE _ _ ha'⟩
  unfold w_term_of_t1
  walk_at "ws"
  have ha1 := hE _ _ ha
  refine u_call_term rfl ?_
  unfold w_call_term
  have k : ¬ (((v0 :: r).length : Int) < 2) := by rw [List.length_cons]; omega
  walk_at "ws"
  refine ⟨_, ha1, ?_⟩
  rw [if_neg k]
  refine ⟨_, ha1, _, atI_0, RF.at (by omega) (h0.ex hE) fun C2 hE2 => ?_⟩
  have hE12 := hE.trans hE2
  refine ⟨_, hE12 _ _ ha, fun l hl => ?_⟩
  rw [cut_1]
  refine ⟨_, up_same, ?_⟩
  have hEl : Ex C (up C2 l (.lst r)) := hE12.trans (Ex.new hl)
  refine for_inv (fun i τ C' => ∃ x2, τ = [some (.ref a), some (calls F ((zs.map (·.2)).take i)), x2] ∧ Ex (up C2 l (.lst r)) C') ⟨none, rfl, Ex.refl _⟩ (fun i τ C' _ h => by obtain ⟨_, _, hE⟩ := h; exact hE _ _ up_same) ?_ ?_
  · rintro i x τ C' N hx ⟨x2, rfl, hE'⟩ hN
    have hi : i < zs.length := by have := (List.getElem?_eq_some_iff.mp hx).1; omega
    have hzi : zs[i]? = some (zs[i]'hi) := by simp [hi]
    have hT : TrH C x (zs[i]'hi).1 := hs.get hx (by rw [List.getElem?_map, hzi]; rfl)
    walk_at "ws"
    refine RT.at (hz _ (List.getElem_mem hi)) (by omega) (hT.ex (hEl.trans hE')) fun C3 hE3 => ?_
    refine hN _ _ ⟨some x, ?_, hE'.trans hE3⟩
    rw [List.take_add_one, List.getElem?_map, hzi]
    unfold calls
    rw [List.foldl_append]; rfl
  · rintro τ C' ⟨x2, rfl, hE'⟩
    walk_at "ws"
    rw [hlen, show ((zs.map (·.2)).take zs.length) = zs.map (·.2) from List.take_of_length_le (by simp)]
    exact q C' (hEl.trans hE')
theorem s_refuse {v : T} {ts : List Str} (hv : v = .tup (ts.map T.str) ∨ ∃ a, v = .ref a ∧ C a = some (.lst (ts.map T.str))) (hn : ts.Nodup) (hl : ts.length ≤ 100) (q : Q .non C) : wpc pr (n + 1) i_refuse_alike [v] C Q χ := by
  refine u_refuse_alike rfl ?_
  unfold w_refuse_alike eLenSet
  walk_at "ws"
  refine ⟨ts, hv, by show _ < 4096; omega, fun ys h1 h2 => ?_⟩
  have e : ys.length = ts.length := by
    have a := sub_len h1 fun y hy => (h2 y).mp hy
    have b := sub_len hn fun y hy => (h2 y).mpr hy
    omega
  rcases hv with rfl | ⟨a, rfl, ha⟩
  · walk_at "ws"
    rw [e]
    simp
    exact q
  · walk_at "ws"
    refine ⟨_, ha, ?_⟩
    rw [e]
    simp
    exact q
theorem s_items {a : Addr} {vs : List T} (ha : C a = some (.lst vs)) (q : Q (.ref a) C) : wpc pr (n + 1) i_items_of [.ref a] C Q χ := by
  refine u_items_of rfl ?_
  unfold w_items_of
  walk_at "ws"
  refine ⟨"list", .inl ⟨rfl, _, ha⟩, false, by simp [tru, isCls], ?_⟩
  walk_at "ws"
  exact q
end
set_option Elab.async false
set_option linter.all false
set_option maxRecDepth 100000
set_option maxHeartbeats 4000000
open PySem PySem.Spec PyProof.Rows L2 WL
section
variable {C : Hw} {Q : WK} {χ : WX} {n f m : Nat}
theorem gNm_i {k : Nat} {x : T} {τ : Sw} {N : Sw → Hw → Prop} {D : We} (h : N (τ.set k (some x)) C) : gNm k x τ C { D with nx := N }.nx χ := h
theorem st_callE {P : Calls} {i : Nat} {e : WE} {r : WS} {D : We} {τ : Sw} (h : e τ C (fun x C1 => P i [x] C1 (fun _ C2 => r D τ C2) D.xc) D.xc) : sSeq (sExpr (eCall P i (aCons e aNil))) r D τ C := h
abbrev Lp := Str × Tr × T
def lpTr (x : Lp) : Tr := .n [.w x.1, x.2.1]
def lpT (x : Lp) : T := .tup [.str x.1, x.2.2]
theorem s_pair_of {v : T} {x : Lp} (hm : 3 * f + 5 ≤ m) (hv : TrH C v (lpTr x)) (hn : isnm x.1) (R : RT f x.2.1 x.2.2) (q : ∀ C', Ex C C' → Q (lpT x) C') : wpc pr m i_pair_of [v] C Q χ := by
  obtain ⟨m, rfl⟩ : ∃ k, m = k + 3 := ⟨m - 3, by omega⟩
  obtain ⟨a, vs, rfl, ha, hs⟩ := of_n hv
  obtain ⟨v0, r, rfl, h0, hs⟩ := of_tcons hs
  obtain ⟨v1, r, rfl, h1, hs⟩ := of_tcons hs
  cases of_tnil hs
  cases of_w h0
  refine u_pair_of rfl (st_call1 rfl (s_items (n := _) ha ?_))
  refine ⟨_, rfl, _, rfl, _, ha, neIc (v := true) rfl ⟨_, rfl, ite_f ?_⟩⟩
  exact callI rfl ha atI_0 (s_name_of (n := _) hn fun C1 hE1 => callI rfl (hE1 _ _ ha) atI_1 (R.at (by omega) (h1.ex hE1) fun C2 hE2 => ⟨Nat.le_of_ble_eq_true rfl, q C2 (hE1.trans hE2)⟩))
theorem rt_let {xs : List Lp} {B : T} {β : Tr} (h1 : 1 ≤ xs.length) (h5 : xs.length ≤ 5) (hn : (xs.map (·.1)).Nodup) (hx : ∀ x ∈ xs, isnm x.1 ∧ RT f x.2.1 x.2.2) (RB : RT f β B) :
    RT (f + 1) (.n (.w "let" :: (xs.map lpTr ++ [β]))) (.tup [.str "let", .tup (xs.map lpT), B]) := fun {n C Q χ v} hv q => by
  obtain ⟨a, vs, rfl, ha, hs⟩ := of_n hv
  obtain ⟨v0, r, rfl, h0, hs⟩ := of_tcons hs
  obtain ⟨us, ys, rfl, hu, hy⟩ := of_tapp hs
  obtain ⟨vB, r, rfl, hB, hs⟩ := of_tcons hy
  cases of_tnil hs
  cases of_w h0
  have hul : us.length = xs.length := by rw [hu.length, List.length_map]
  have k1 : ¬ (((us ++ [vB]).length : Int) < 2) := by simp; omega
  have k2 : ¬ (((us ++ [vB]).length : Int) > 5 + 1) := by simp; omega
  refine s_term_n (n := n + 3 * f + 6) ha (by simp; omega) fun b C1 hE hb => ops_no (by decide) (sk_no rfl (by decide) (sk_yes rfl (call1 rfl (u_let_term rfl ?_))))
  refine ⟨_, rfl, _, rfl, _, hb, _, rfl, ite_n (decide_eq_false k1) ⟨_, rfl, _, rfl, _, hb, _, rfl, ite_n (decide_eq_false k2) ?_⟩⟩
  refine ⟨_, rfl, -1, rfl, _, hb, fun l hl => ⟨_, up_same, ?_⟩⟩
  have hEl : Ex C (up C1 l (.lst (cut (us ++ [vB]) none (some (-1))))) := hE.trans (Ex.new hl)
  refine comp_valsE (ys := xs.map lpT) cut_init (by rw [List.length_map]; exact hul) (by omega) (fun C' h => h _ _ up_same) (fun i x y hxi hyi C' hE' N hN => ?_) fun C2 hE2 p hp => ?_
  · rw [List.getElem?_map] at hyi
    cases hz : xs[i]? with
    | none => rw [hz] at hyi; cases hyi
    | some z =>
      rw [hz] at hyi
      cases hyi
      obtain ⟨m1, m2⟩ := hx z (List.mem_of_getElem? hz)
      exact call1 rfl (s_pair_of (by omega) ((hu.get hxi (by rw [List.getElem?_map, hz]; rfl)).ex (hEl.trans hE')) m1 m2 hN)
  refine ⟨_, rfl, _, up_same, ?_⟩
  have hE3 : Ex C (up C2 p (.lst (xs.map lpT))) := (hEl.trans hE2).trans (Ex.new hp)
  refine gNm_i (st_callE ?_)
  refine ⟨_, rfl, comp_pure (fun t => match t with | .tup [a, _] => a | _ => .non) trivial (by rw [List.length_map]; exact small63 (by omega)) (fun x hx' R hR => ?_) fun p2 hp2 => ?_⟩
  · obtain ⟨y, _, rfl⟩ := List.mem_map.mp hx'
    unfold lpT
    walk_at "ws"
    exact hR
  have em : (xs.map lpT).map (fun t => match t with | .tup [a, _] => a | _ => T.non) = (xs.map (·.1)).map T.str := by rw [List.map_map, List.map_map]; rfl
  have hup : up (up C2 p (.lst (xs.map lpT))) p2 (.lst ((xs.map lpT).map fun t => match t with | .tup [a, _] => a | _ => T.non)) p2 = some (.lst ((xs.map (·.1)).map T.str)) := by rw [up_same, em]
  refine s_refuse (n := _) (ts := xs.map (·.1)) (.inr ⟨p2, rfl, hup⟩) hn (by rw [List.length_map]; omega) ?_
  exact ⟨_, rfl, callL rfl ((Ex.new hp2) _ _ ((Ex.new hp) _ _ (hE2 _ _ ((Ex.new hl) _ _ hb)))) (atI_last _ _) (RB.at (by omega) (hB.ex (hE3.trans (Ex.new hp2))) fun C5 hE5 => ⟨Nat.le_of_ble_eq_true rfl, q C5 ((hE3.trans (Ex.new hp2)).trans hE5)⟩)⟩
abbrev Ap := Str × List Str × Tr × T
def apTr (a : Ap) : Tr := .n (.w a.1 :: (a.2.1.map Tr.w ++ [a.2.2.1]))
def apT (a : Ap) : T := .tup [.str a.1, .tup (a.2.1.map T.str), a.2.2.2]
def stpT (a : Ap) : T := .tup (.str a.1 :: (a.2.1.map T.str ++ [a.2.2.2]))
theorem s_alternative_of {v : T} {x : Ap} (hm : 3 * f + 5 ≤ m) (hv : TrH C v (apTr x)) (hn : ∀ y ∈ x.2.1, isnm y) (nd : x.2.1.Nodup) (hs : g_SHAPES.lookup x.1 = some (x.2.1.length : Int)) (l2 : x.2.1.length ≤ 2) (R : RT f x.2.2.1 x.2.2.2) (q : ∀ C', Ex C C' → Q (apT x) C') : wpc pr m i_alternative_of [v] C Q χ := by
  obtain ⟨m, rfl⟩ : ∃ k, m = k + 3 := ⟨m - 3, by omega⟩
  obtain ⟨w, ns, β, B⟩ := x
  dsimp only at hn nd hs l2 R
  replace hv : TrH C v (.n (.w w :: (ns.map Tr.w ++ [β]))) := hv
  obtain ⟨a, vs, rfl, ha, hs'⟩ := of_n hv
  obtain ⟨v0, r, rfl, h0, hs'⟩ := of_tcons hs'
  obtain ⟨us, ys, rfl, hu, hy⟩ := of_tapp hs'
  obtain ⟨vB, r, rfl, hB, hs'⟩ := of_tcons hy
  cases of_tnil hs'
  cases of_w h0
  cases trs_w hu
  have k1 : ¬ ((((T.str w) :: (ns.map T.str ++ [vB])).length : Int) < 2) := by simp; omega
  refine u_alternative_of rfl (st_call1 rfl (s_items (n := _) ha ?_))
  refine ⟨_, rfl, _, rfl, _, ha, _, rfl, ite_n (decide_eq_false k1) ⟨_, rfl, _, _, ha, atI_0, "str", rfl, true, rfl, ite_f ?_⟩⟩
  refine ⟨_, rfl, 1, rfl, -1, rfl, _, ha, fun l hl => ⟨_, up_same, ?_⟩⟩
  have hEl : Ex C (up C l (.lst (cut (T.str w :: (ns.map T.str ++ [vB])) (some 1) (some (-1))))) := Ex.new hl
  refine comp_valsE (ys := ns.map T.str) cut_mid rfl (by rw [List.length_map]; omega) (fun C' h => h _ _ up_same) (fun i x y hxi hyi C' hE' N hN => ?_) fun C2 hE2 p hp => ?_
  · rw [hxi] at hyi
    cases hyi
    rw [List.getElem?_map] at hxi
    cases hz : ns[i]? with
    | none => rw [hz] at hxi; cases hxi
    | some z =>
      rw [hz] at hxi
      cases hxi
      exact call1 rfl (s_name_of (n := _) (hn z (List.mem_of_getElem? hz)) hN)
  have hE3 : Ex C (up C2 p (.lst (ns.map T.str))) := (hEl.trans hE2).trans (Ex.new hp)
  have ha3 := hE3 _ _ ha
  refine ⟨_, rfl, _, up_same, call1 rfl (s_refuse (n := _) (ts := ns) (.inl rfl) nd (by omega) ?_)⟩
  have eg : gcT g_SHAPES w = .int (ns.length : Int) := by unfold gcT; rw [hs]
  refine ⟨_, rfl, _, _, ha3, atI_0, w, rfl, ?_⟩
  rw [eg]
  refine ⟨_, rfl, _, rfl, neI (v := true) (by rw [List.length_map]; exact beq_self_eq_true _) ⟨_, rfl, ite_f ?_⟩⟩
  exact ⟨_, rfl, _, _, ha3, atI_0, _, rfl, callL rfl ha3 (by rw [← List.cons_append]; exact atI_last _ _) (R.at (by omega) (hB.ex hE3) fun C4 hE4 => ⟨Nat.le_of_ble_eq_true rfl, q C4 (hE3.trans hE4)⟩)⟩
theorem notInF {xs : List Str} {τ : Sw} (hin : inL (.tup (xs.map T.str)) [.tup [.str "Nil", .str "Cons"], .tup [.str "No", .str "Yes"], .tup [.str "Pair"]] = true) (q : Q (.bl false) C) : eC g_FAMILIES τ C (fun y C2 => wNotIn (.tup (xs.map T.str)) y C2 Q) χ :=
  ⟨flat_tup (n := 99) fun x hx' => by obtain ⟨y, _, rfl⟩ := List.mem_map.mp hx'; exact flat_str, by decide +kernel, by rw [if_pos rfl, hin]; exact q⟩
def fams : List (List Str) := [["Nil", "Cons"], ["No", "Yes"], ["Pair"]]
theorem rt_choose {E : T} {ε : Tr} {als : List Ap} (h3 : als.length ≤ 3) (hf : als.map (·.1) ∈ fams) (hx : ∀ x ∈ als, (∀ y ∈ x.2.1, isnm y) ∧ x.2.1.Nodup ∧ g_SHAPES.lookup x.1 = some (x.2.1.length : Int) ∧ x.2.1.length ≤ 2 ∧ RT f x.2.2.1 x.2.2.2) (RE : RT f ε E) :
    RT (f + 1) (.n (.w "choose" :: ε :: als.map apTr)) (.tup [.str "choose", E, .tup (als.map apT)]) := fun {n C Q χ v} hv q => by
  obtain ⟨a, vs, rfl, ha, hs⟩ := of_n hv
  obtain ⟨v0, r, rfl, h0, hs⟩ := of_tcons hs
  obtain ⟨vE, us, rfl, hE0, hu⟩ := of_tcons hs
  cases of_w h0
  have hul : us.length = als.length := by rw [hu.length, List.length_map]
  refine s_term_n (n := n + 3 * f + 6) ha (by simp; omega) fun b C1 hE hb => ops_no (by decide) (sk_no rfl (by decide) (sk_no rfl (by decide) (sk_yes rfl ?_)))
  refine call1 rfl (u_choose_term rfl ?_)
  refine ⟨_, rfl, Nat.le_of_ble_eq_true rfl, fun r hr => wEq_nil ((Ex.new hr) _ _ hb) up_same ⟨false, rfl, ite_f ?_⟩⟩
  have hb1 := (Ex.new (o := .lst []) hr) _ _ hb
  refine ⟨_, rfl, 1, rfl, _, hb1, fun l hl => ⟨_, up_same, ?_⟩⟩
  have hEl : Ex C (up (up C1 r (.lst [])) l (.lst (cut (vE :: us) (some 1) none))) := (hE.trans (Ex.new (o := .lst []) hr)).trans (Ex.new hl)
  refine comp_valsE (ys := als.map apT) cut_1 (by rw [List.length_map]; exact hul) (by omega) (fun C' h => h _ _ up_same) (fun i x y hxi hyi C' hE' N hN => ?_) fun C2 hE2 p hp => ?_
  · rw [List.getElem?_map] at hyi
    cases hz : als[i]? with
    | none => rw [hz] at hyi; cases hyi
    | some z =>
      rw [hz] at hyi
      cases hyi
      obtain ⟨m1, m2, m3, m4, m5⟩ := hx z (List.mem_of_getElem? hz)
      exact call1 rfl (s_alternative_of (by omega) ((hu.get hxi (by rw [List.getElem?_map, hz]; rfl)).ex (hEl.trans hE')) m1 m2 m3 m4 m5 hN)
  refine ⟨_, rfl, _, up_same, ?_⟩
  have hE3 : Ex C (up C2 p (.lst (als.map apT))) := (hEl.trans hE2).trans (Ex.new hp)
  refine ⟨_, rfl, comp_pure (fun t => match t with | .tup [a, _, _] => a | _ => .non) trivial (by rw [List.length_map]; exact small63 (by omega)) (fun x hx' R hR => ?_) fun p2 hp2 => ?_⟩
  · obtain ⟨y, _, rfl⟩ := List.mem_map.mp hx'
    unfold apT
    walk_at "ws"
    exact hR
  have em : (als.map apT).map (fun t => match t with | .tup [a, _, _] => a | _ => T.non) = (als.map (·.1)).map T.str := by rw [List.map_map, List.map_map]; rfl
  have hin : inL (.tup ((als.map (·.1)).map T.str)) [.tup [.str "Nil", .str "Cons"], .tup [.str "No", .str "Yes"], .tup [.str "Pair"]] = true := by
    simp only [fams, List.mem_cons, List.not_mem_nil, or_false] at hf
    rcases hf with h | h | h <;> rw [h] <;> decide +kernel
  refine ⟨_, rfl, _, by rw [up_same, em], notInF hin ⟨_, rfl, ite_f ?_⟩⟩
  exact callI rfl ((Ex.new hp2) _ _ ((Ex.new hp) _ _ (hE2 _ _ ((Ex.new hl) _ _ hb1)))) atI_0 (RE.at (by omega) (hE0.ex (hE3.trans (Ex.new hp2))) fun C5 hE5 => ⟨_, rfl, Nat.le_of_ble_eq_true rfl, q C5 ((hE3.trans (Ex.new hp2)).trans hE5)⟩)
def StpOk (x : Ap) : Prop := (x.1 = "when" ∧ x.2.1 = []) ∨ ∃ y, (x.1 = "in" ∨ x.1 = "be") ∧ x.2.1 = [y] ∧ isnm y
theorem s_step_of {v : T} {x : Ap} (hm : 3 * f + 5 ≤ m) (hv : TrH C v (apTr x)) (hx : StpOk x) (R : RT f x.2.2.1 x.2.2.2) (q : ∀ C', Ex C C' → Q (stpT x) C') : wpc pr m i_step_of [v] C Q χ := by
  obtain ⟨m, rfl⟩ : ∃ k, m = k + 3 := ⟨m - 3, by omega⟩
  obtain ⟨w, ns, β, B⟩ := x
  dsimp only [StpOk] at hx R
  replace hv : TrH C v (.n (.w w :: (ns.map Tr.w ++ [β]))) := hv
  obtain ⟨a, vs, rfl, ha, hs'⟩ := of_n hv
  obtain ⟨v0, r0, rfl, h0, hs2⟩ := of_tcons hs'
  cases of_w h0
  refine u_step_of rfl (st_call1 rfl (s_items (n := _) ha ?_))
  rcases hx with ⟨rfl, rfl⟩ | ⟨y, hw, rfl, hy⟩
  · obtain ⟨vB, r1, rfl, hB, hs3⟩ := of_tcons hs2
    cases of_tnil hs3
    exact ⟨_, rfl, _, rfl, _, ha, eqIc (v := true) rfl ⟨true, rfl, ite_t ⟨_, rfl, _, _, ha, atI_0, eqSc (v := true) (beq_self_eq_true _) ⟨true, rfl, ite_t (callI rfl ha atI_1 (R.at (by omega) hB fun C1 hE1 => ⟨Nat.le_of_ble_eq_true rfl, q C1 hE1⟩))⟩⟩⟩⟩
  · obtain ⟨v1, r1, rfl, h1, hs3⟩ := of_tcons hs2
    obtain ⟨vB, r2, rfl, hB, hs4⟩ := of_tcons hs3
    cases of_tnil hs4
    cases of_w h1
    refine ⟨_, rfl, _, rfl, _, ha, eqIc (v := false) rfl ⟨false, rfl, ite_f (ite_f ?_)⟩⟩
    refine ⟨_, rfl, _, rfl, _, ha, eqIc (v := true) rfl ⟨true, rfl, ite_t ⟨_, rfl, _, _, ha, atI_0, ?_⟩⟩⟩
    have fin : ∀ D : We, D.rt = Q → D.xc = χ → (sRet (eTup (aCons (eBin wIdx (eVar 1) (eC (.int 0))) (aCons (eCall (wpc pr (m + 2)) 24 (aCons (eBin wIdx (eVar 1) (eC (.int 1))) aNil)) (aCons (eCall (wpc pr (m + 2)) 10 (aCons (eBin wIdx (eVar 1) (eC (.int 2))) aNil)) aNil))))) D [some (.ref a), some (.ref a)] C := fun D e1 e2 => by
      refine ⟨_, rfl, _, _, ha, atI_0, callI rfl ha atI_1 (s_name_of (n := _) hy fun C1 hE1 => callI rfl (hE1 _ _ ha) atI_2 (R.at (by omega) (hB.ex hE1) fun C2 hE2 => ⟨Nat.le_of_ble_eq_true rfl, ?_⟩))⟩
      rw [e1]; exact q C2 (hE1.trans hE2)
    rcases hw with rfl | rfl
    · exact eqSc (v := true) (beq_self_eq_true _) ⟨true, rfl, ite_t (ite_t (fin _ rfl rfl))⟩
    · exact eqSc (v := false) (by decide +kernel) ⟨false, rfl, ite_f ⟨_, rfl, _, _, ha, atI_0, eqSc (v := true) (beq_self_eq_true _) ⟨true, rfl, ite_t (fin _ rfl rfl)⟩⟩⟩
theorem rt_rows {E : T} {ε : Tr} {als : List Ap} (h3 : als.length ≤ 3) (hx : ∀ x ∈ als, StpOk x ∧ RT f x.2.2.1 x.2.2.2) (RE : RT f ε E) :
    RT (f + 1) (.n (.w "rows" :: ε :: als.map apTr)) (.tup [.str "rows", E, .tup (als.map stpT)]) := fun {n C Q χ v} hv q => by
  obtain ⟨a, vs, rfl, ha, hs⟩ := of_n hv
  obtain ⟨v0, r, rfl, h0, hs⟩ := of_tcons hs
  obtain ⟨vE, us, rfl, hE0, hu⟩ := of_tcons hs
  cases of_w h0
  have hul : us.length = als.length := by rw [hu.length, List.length_map]
  refine s_term_n (n := n + 3 * f + 6) ha (by simp; omega) fun b C1 hE hb => ops_no (by decide) (sk_no rfl (by decide) (sk_no rfl (by decide) (sk_no rfl (by decide) (sk_no rfl (by decide) (sk_no rfl (by decide) (sk_yes rfl ?_))))))
  refine call1 rfl (u_rows_term rfl ?_)
  refine ⟨_, rfl, Nat.le_of_ble_eq_true rfl, fun r hr => wEq_nil ((Ex.new hr) _ _ hb) up_same ⟨false, rfl, ite_f ?_⟩⟩
  have hb1 := (Ex.new (o := .lst []) hr) _ _ hb
  have hE1 : Ex C (up C1 r (.lst [])) := hE.trans (Ex.new (o := .lst []) hr)
  refine callI rfl hb1 atI_0 (RE.at (by omega) (hE0.ex hE1) fun C2 hE2 => ?_)
  have hE12 := hE1.trans hE2
  refine ⟨_, rfl, 1, rfl, _, hE2 _ _ hb1, fun l hl => ⟨_, up_same, ?_⟩⟩
  have hEl : Ex C (up C2 l (.lst (cut (vE :: us) (some 1) none))) := hE12.trans (Ex.new hl)
  refine comp_valsE (ys := als.map stpT) cut_1 (by rw [List.length_map]; exact hul) (by omega) (fun C' h => h _ _ up_same) (fun i x y hxi hyi C' hE' N hN => ?_) fun C3 hE3 p hp => ?_
  · rw [List.getElem?_map] at hyi
    cases hz : als[i]? with
    | none => rw [hz] at hyi; cases hyi
    | some z =>
      rw [hz] at hyi
      cases hyi
      obtain ⟨m1, m2⟩ := hx z (List.mem_of_getElem? hz)
      exact call1 rfl (s_step_of (by omega) ((hu.get hxi (by rw [List.getElem?_map, hz]; rfl)).ex (hEl.trans hE')) m1 m2 hN)
  exact ⟨_, rfl, _, up_same, Nat.le_of_ble_eq_true rfl, q _ ((hEl.trans hE3).trans (Ex.new hp))⟩
end
set_option Elab.async false
set_option linter.all false
set_option maxRecDepth 100000
set_option maxHeartbeats 4000000
open PySem PySem.Spec PyProof.Rows L2 WL
def fT (l : List Nat) : List Nat := rep1 10 [32] (rep1 41 [32, 41, 32] (rep1 40 [32, 40, 32] l))
theorem rep1_app {a : Nat} {z l r : List Nat} : rep1 a z (l ++ r) = rep1 a z l ++ rep1 a z r := by unfold rep1; rw [List.flatMap_append]
theorem fT_app {l r : List Nat} : fT (l ++ r) = fT l ++ fT r := by unfold fT; rw [rep1_app, rep1_app, rep1_app]
theorem rep1_len {a : Nat} {z : List Nat} (hz : 1 ≤ z.length) : ∀ l : List Nat, (rep1 a z l).length ≤ z.length * l.length
  | [] => by simp [rep1]
  | c :: r => by
    have ih := rep1_len (a := a) hz r
    have e : rep1 a z (c :: r) = (if c = a then z else [c]) ++ rep1 a z r := by simp [rep1]
    rw [e, List.length_append, List.length_cons, Nat.mul_add, Nat.mul_one]
    have : (if c = a then z else [c]).length ≤ z.length := by split <;> simp <;> omega
    omega
def gd (w : Str) : Bool := decide (1 ≤ w.length) && decide (w.length ≤ 20) && w.cps.toList.all fun c => c != 32 && c != 40 && c != 41 && c != 10
theorem gd_cps {w : Str} (h : gd w = true) : w.cps.toList ≠ [] ∧ w.length ≤ 20 ∧ ∀ c ∈ w.cps.toList, c ≠ 32 ∧ c ≠ 40 ∧ c ≠ 41 ∧ c ≠ 10 := by
  unfold gd at h
  rw [Bool.and_eq_true, Bool.and_eq_true, decide_eq_true_eq, decide_eq_true_eq, List.all_eq_true] at h
  have e : w.cps.toList.length = w.length := by simp [Str.length]
  refine ⟨fun z => by rw [z] at e; simp at e; omega, h.1.2, fun c hc => ?_⟩
  have := h.2 c hc
  simp at this
  omega
theorem fT_word {w : Str} (h : gd w = true) : fT w.cps.toList = w.cps.toList := by
  obtain ⟨_, _, h⟩ := gd_cps h
  unfold fT
  rw [rep1_none fun c hc => (h c hc).2.1, rep1_none fun c hc => (h c hc).2.2.1, rep1_none fun c hc => (h c hc).2.2.2]
def gb (w : Str) : Prop := w = "(" ∨ w = ")" ∨ gd w = true
def gaps : List Str := ["", " ", "\n", "  ", " \n "]
theorem gap_fT : ∀ g ∈ gaps, (∀ c ∈ fT g.cps.toList, c = 32) ∧ (g ≠ "" → ∃ q, fT g.cps.toList = q ++ [32]) := by
  intro g hg
  simp only [gaps, List.mem_cons, List.not_mem_nil, or_false] at hg
  rcases hg with rfl | rfl | rfl | rfl | rfl
  · exact ⟨by decide, fun h => absurd rfl h⟩
  · exact ⟨by decide, fun _ => ⟨[], by decide⟩⟩
  · exact ⟨by decide, fun _ => ⟨[], by decide⟩⟩
  · exact ⟨by decide, fun _ => ⟨[32], by decide⟩⟩
  · exact ⟨by decide, fun _ => ⟨[32, 32], by decide⟩⟩
theorem wds_blanksR : ∀ {b l : List Nat}, (∀ c ∈ b, c = 32) → wds (l ++ b) = wds l
  | [], l, _ => by rw [List.append_nil]
  | c :: b, l, h => by
    rw [h c (by simp), wds_app]
    have := wds_blanks (b := b) (l := []) fun d hd => h d (by simp [hd])
    rw [List.append_nil] at this
    rw [this, wds_nil, List.append_nil]
def Gp (ah w g : Str) : Prop := g ∈ gaps ∧ (g = "" → (ah = "" ∨ ah = "(" ∨ ah = ")") ∨ w = "" ∨ w = "(" ∨ w = ")")
structure Tx (t : List Nat) (ws : List Str) (ah : Str) : Prop where
  wd : wds (fT t) = ws.map (fun w => w.cps.toList)
  bk : Bk (fT t) ∨ ¬ (ah = "" ∨ ah = "(" ∨ ah = ")")
theorem tx_0 : Tx [] [] "" := ⟨rfl, .inl (.inl rfl)⟩
theorem tx_step {t : List Nat} {ws : List Str} {ah w g : Str} (h : Tx t ws ah) (hg : Gp ah w g) (hw : gb w) : Tx (t ++ g.cps.toList ++ w.cps.toList) (ws ++ [w]) w := by
  obtain ⟨b1, b2⟩ := gap_fT g hg.1
  have br : ∀ c : Nat, fT w.cps.toList = [32, c, 32] → w.cps.toList = [c] → c ≠ 32 → Tx (t ++ g.cps.toList ++ w.cps.toList) (ws ++ [w]) w := fun c e e1 h32 => by
    refine ⟨?_, .inl (.inr ⟨fT t ++ fT g.cps.toList ++ [32, c], by rw [fT_app, fT_app, e]; simp⟩)⟩
    rw [fT_app, fT_app, e, show [32, c, 32] = 32 :: ([c] ++ [32]) from rfl, wds_app, wds_blanksR b1, h.wd, wds_end, wds_one (by simp) (by simpa using h32), List.map_append]
    simp [e1]
  rcases hw with rfl | rfl | hw
  · exact br 40 (by decide) rfl (by decide)
  · exact br 41 (by decide) rfl (by decide)
  · obtain ⟨w0, _, w1⟩ := gd_cps hw
    have hno : ¬ (w = "" ∨ w = "(" ∨ w = ")") := fun z => by
      rcases z with rfl | rfl | rfl
      · exact w0 rfl
      · exact (w1 40 (by decide)).2.1 rfl
      · exact (w1 41 (by decide)).2.2.1 rfl
    refine ⟨?_, .inr hno⟩
    have hb : Bk (fT t ++ fT g.cps.toList) := by
      by_cases c : g = ""
      · subst c
        rcases hg.2 rfl with k | k
        · rcases h.bk with k' | k'
          · rw [show fT ("" : Str).cps.toList = [] by decide, List.append_nil]; exact k'
          · exact absurd k k'
        · exact absurd k hno
      · obtain ⟨q, e⟩ := b2 c
        exact .inr ⟨fT t ++ q, by rw [e, List.append_assoc]⟩
    rw [fT_app, fT_app, fT_word hw, wds_bk hb, wds_blanksR b1, h.wd, wds_one w0 fun c hc => (w1 c hc).1, List.map_append]
    rfl
theorem strs_inj : ∀ {xs ys : List Str}, xs.map (fun w => w.cps.toList) = ys.map (fun w => w.cps.toList) → xs = ys
  | [], [], _ => rfl
  | x :: xs, y :: ys, h => by
    rw [List.map_cons, List.map_cons] at h
    injection h with h1 h2
    rw [str_ext h1, strs_inj h2]
  | [], _ :: _, h => by simp at h
  | _ :: _, [], h => by simp at h
theorem spl_len : ∀ l : List Nat, (spl 32 l).length ≤ l.length + 1
  | [] => by simp [spl]
  | c :: r => by
    have ih := spl_len r
    obtain ⟨p, ps, e⟩ := spl_ne 32 r
    by_cases h : c = 32
    · simp [spl, h]; omega
    · rw [e] at ih
      simp [spl, h, e] at ih ⊢; omega
section
variable {C : Hw} {Q : WK} {χ : WX} {n : Nat}
theorem s_words_of {x : Str} {ws : List Str} (hl : x.length ≤ 100000) (h : wds (fT x.cps.toList) = ws.map (fun w => w.cps.toList)) (q : ∀ p C', Ex C C' → C p = none → C' p = some (.lst (ws.map T.str)) → Q (.ref p) C') :
    wpc pr (n + 1) i_words_of [.str x] C Q χ := by
  have cl : ∀ z : Str, z.cps.toList.length = z.length := fun z => by simp [Str.length]
  have e1 : (Txt.replace x "(" " ( ").cps.toList = rep1 40 [32, 40, 32] x.cps.toList := replace_rep1 rfl
  have e2 : (Txt.replace (Txt.replace x "(" " ( ") ")" " ) ").cps.toList = rep1 41 [32, 41, 32] (rep1 40 [32, 40, 32] x.cps.toList) := by rw [replace_rep1 (a := 41) rfl, e1]; rfl
  have e3 : (Txt.replace (Txt.replace (Txt.replace x "(" " ( ") ")" " ) ") "\n" " ").cps.toList = fT x.cps.toList := by rw [replace_rep1 (a := 10) rfl, e2]; rfl
  have l1 : (Txt.replace x "(" " ( ").length ≤ 300000 := by
    rw [← cl, e1]; have := rep1_len (a := 40) (z := [32, 40, 32]) (by decide) x.cps.toList; rw [cl] at this; simp at this; omega
  have l2 : (Txt.replace (Txt.replace x "(" " ( ") ")" " ) ").length ≤ 900000 := by
    rw [← cl, replace_rep1 (a := 41) rfl]; have := rep1_len (a := 41) (z := [32, 41, 32]) (by decide) (Txt.replace x "(" " ( ").cps.toList; rw [cl] at this; simp at this; show (rep1 41 [32, 41, 32] _).length ≤ _; omega
  have l3 : (Txt.replace (Txt.replace (Txt.replace x "(" " ( ") ")" " ) ") "\n" " ").length ≤ 900000 := by
    rw [← cl, replace_rep1 (a := 10) rfl]; have := rep1_len (a := 10) (z := [32]) (by decide) (Txt.replace (Txt.replace x "(" " ( ") ")" " ) ").cps.toList; rw [cl] at this; simp at this; show (rep1 10 [32] _).length ≤ _; omega
  generalize hy : Txt.replace (Txt.replace (Txt.replace x "(" " ( ") ")" " ) ") "\n" " " = y at e3 l3
  have hk : ∀ z : Str, ¬ Builtin.Str.strKind z < Builtin.Str.strKind (" " : Str) := fun z => by
    have e : Builtin.Str.strKind (" " : Str) = 1 := by decide +kernel
    rw [e]
    unfold Builtin.Str.strKind
    split
    · decide
    · split <;> decide
  have sp : (Txt.split y " ").map (fun z => z.cps.toList) = spl 32 (fT x.cps.toList) := by rw [split_spl (a := 32) rfl hk, e3]
  have sl : (Txt.split y " ").length ≤ 1000000 := by
    have a := congrArg List.length sp
    rw [List.length_map] at a
    have b := spl_len (fT x.cps.toList)
    have c := cl y
    rw [e3] at c
    omega
  have hz : ∀ m : Nat, m ≤ 1000000 → m ≤ sizeLine := fun m h => Nat.le_trans h (by decide)
  refine u_words_of rfl ?_
  unfold w_words_of eRepl
  walk_at "ws"
  refine ⟨by omega, by omega, by omega, ?_⟩
  rw [hy]
  unfold mSplit
  refine ⟨y, " ", rfl, rfl, by decide, hz _ (by omega), hz _ sl, fun p hp => ?_⟩
  walk_at "ws"
  refine ⟨_, up_same, ?_⟩
  refine comp_fm (fun t => match t with | .str z => if z = "" then none else some (.str z) | _ => none) up_same (by rw [List.length_map]; exact hz _ sl) (fun t ht R N h1 h2 => ?_) fun p2 hp2 => ?_
  · obtain ⟨z, _, rfl⟩ := List.mem_map.mp ht
    walk_at "ws"
    by_cases c : z = ""
    · rw [if_neg (by simp [c])]
      exact h2 (by simp [c])
    · rw [if_pos (by simp [c])]
      exact h1 _ (by simp [c])
  · have hf : ((Txt.split y " ").map T.str).filterMap (fun t => match t with | .str z => if z = "" then none else some (.str z) | _ => none) = ws.map T.str := by
      rw [List.filterMap_map]
      have e4 : ((Txt.split y " ").filter fun z : Str => decide (z ≠ ("" : Str))) = ws := by
        refine strs_inj ?_
        rw [← h]
        unfold wds
        rw [← sp, List.filter_map]
        congr 1
        refine List.filter_congr fun z _ => ?_
        by_cases c : z = ""
        · subst c; rfl
        · have : z.cps ≠ #[] := fun e => c (str_ext (by rw [e]; rfl))
          simp [c, Function.comp, this]
      rw [← e4]
      generalize Txt.split y " " = l
      induction l with
      | nil => rfl
      | cons z l ih =>
        by_cases c : z = ""
        · simp [List.filterMap_cons, List.filter_cons, c] at ih ⊢; exact ih
        · simp [List.filterMap_cons, List.filter_cons, c] at ih ⊢; exact ih
    rw [hf]
    obtain ⟨_, e5⟩ := fr1 hp2
    exact q p2 _ ((Ex.new hp).trans (Ex.new hp2)) e5 up_same
end
set_option Elab.async false
set_option linter.all false
set_option maxRecDepth 100000
set_option maxHeartbeats 4000000
open PySem PySem.Spec PyProof.Rows L2 WL
def step (S : List (List Tr)) (w : Str) : Option (List (List Tr)) :=
  if w = "(" then some ([] :: S) else if w ≠ ")" then (match S with | t :: r => some ((t ++ [.w w]) :: r) | [] => none) else match S with
    | t :: u :: r => some ((u ++ [.n t]) :: r)
    | _ => none
def run : List Str → List (List Tr) → Option (List (List Tr))
  | [], S => some S
  | w :: ws, S => (step S w).bind (run ws)
theorem run_app : ∀ (ws vs : List Str) (S : List (List Tr)), run (ws ++ vs) S = (run ws S).bind (run vs)
  | [], vs, S => rfl
  | w :: ws, vs, S => by
    show (step S w).bind (run (ws ++ vs)) = ((step S w).bind (run ws)).bind (run vs)
    cases step S w with
    | none => rfl
    | some S' => exact run_app ws vs S'
mutual
def Nb : Tr → Prop
  | .w x => x ≠ "(" ∧ x ≠ ")"
  | .n ts => Nbs ts
def Nbs : List Tr → Prop
  | [] => True
  | t :: ts => Nb t ∧ Nbs ts
end
mutual
theorem run_fl : ∀ {τ : Tr}, Nb τ → ∀ (t : List Tr) (r : List (List Tr)), run (fl τ) (t :: r) = some ((t ++ [τ]) :: r)
  | .w x, h, t, r => by
    unfold Nb at h
    unfold fl
    show (step (t :: r) x).bind (run []) = _
    unfold step
    rw [if_neg h.1, if_pos h.2]; rfl
  | .n ts, h, t, r => by
    unfold Nb at h
    unfold fl
    show (step (t :: r) "(").bind (run (fls ts ++ [(")" : Str)])) = _
    have e : step (t :: r) "(" = some ([] :: t :: r) := by unfold step; rw [if_pos rfl]
    rw [e]
    show run (fls ts ++ [(")" : Str)]) ([] :: t :: r) = _
    rw [run_app, run_fls h]
    show (step (([] ++ ts) :: t :: r) ")").bind (run []) = _
    have e2 : step (([] ++ ts) :: t :: r) ")" = some ((t ++ [.n ts]) :: r) := by unfold step; rw [if_neg (by decide), if_neg (by decide)]; rfl
    rw [e2]; rfl
theorem run_fls : ∀ {ts : List Tr}, Nbs ts → ∀ (t : List Tr) (r : List (List Tr)), run (fls ts) (t :: r) = some ((t ++ ts) :: r)
  | [], _, t, r => by unfold fls; rw [List.append_nil]; rfl
  | τ :: ts, h, t, r => by
    unfold Nbs at h
    unfold fls
    rw [run_app, run_fl h.1]
    show run (fls ts) ((t ++ [τ]) :: r) = _
    rw [run_fls h.2, List.append_assoc]; rfl
end
mutual
def TrP (P : Addr → Prop) (C : Hw) (v : T) : Tr → Prop
  | .w x => v = .str x
  | .n ts => ∃ a vs, v = .ref a ∧ P a ∧ C a = some (.lst vs) ∧ TrPs P C vs ts
def TrPs (P : Addr → Prop) (C : Hw) (vs : List T) : List Tr → Prop
  | [] => vs = []
  | t :: ts => ∃ v r, vs = v :: r ∧ TrP P C v t ∧ TrPs P C r ts
end
mutual
theorem TrP.mono {P P' : Addr → Prop} {C C' : Hw} (h : ∀ a o, P a → C a = some o → P' a ∧ C' a = some o) {v : T} : ∀ {t : Tr}, TrP P C v t → TrP P' C' v t
  | .w x, q => by unfold TrP at q ⊢; exact q
  | .n ts, q => by
    unfold TrP at q ⊢
    obtain ⟨a, vs, e, p, ha, q⟩ := q
    obtain ⟨p', ha'⟩ := h _ _ p ha
    exact ⟨a, vs, e, p', ha', TrPs.mono h q⟩
theorem TrPs.mono {P P' : Addr → Prop} {C C' : Hw} (h : ∀ a o, P a → C a = some o → P' a ∧ C' a = some o) {vs : List T} : ∀ {ts : List Tr}, TrPs P C vs ts → TrPs P' C' vs ts
  | [], q => by unfold TrPs at q ⊢; exact q
  | t :: ts, q => by
    unfold TrPs at q ⊢
    obtain ⟨v, r, e, q1, q2⟩ := q
    exact ⟨v, r, e, TrP.mono h q1, TrPs.mono h q2⟩
end
mutual
theorem TrP.h {P : Addr → Prop} {C : Hw} {v : T} : ∀ {t : Tr}, TrP P C v t → TrH C v t
  | .w x, q => by unfold TrP at q; unfold TrH; exact q
  | .n ts, q => by
    unfold TrP at q; unfold TrH
    obtain ⟨a, vs, e, p, ha, q⟩ := q
    exact ⟨a, vs, e, ha, TrPs.h q⟩
theorem TrPs.h {P : Addr → Prop} {C : Hw} {vs : List T} : ∀ {ts : List Tr}, TrPs P C vs ts → TrHs C vs ts
  | [], q => by unfold TrPs at q; unfold TrHs; exact q
  | t :: ts, q => by
    unfold TrPs at q; unfold TrHs
    obtain ⟨v, r, e, q1, q2⟩ := q
    exact ⟨v, r, e, TrP.h q1, TrPs.h q2⟩
end
theorem TrPs.snoc {P : Addr → Prop} {C : Hw} {v : T} {t : Tr} (h : TrP P C v t) : ∀ {ts : List Tr} {vs : List T}, TrPs P C vs ts → TrPs P C (vs ++ [v]) (ts ++ [t])
  | [], vs, q => by unfold TrPs at q; subst q; unfold TrPs; exact ⟨v, [], rfl, h, by unfold TrPs; rfl⟩
  | t' :: ts, vs, q => by
    unfold TrPs at q
    obtain ⟨v', r, rfl, q1, q2⟩ := q
    show TrPs P C (v' :: (r ++ [v])) (t' :: (ts ++ [t]))
    unfold TrPs
    exact ⟨v', r ++ [v], rfl, q1, TrPs.snoc h q2⟩
theorem TrPs.len {P : Addr → Prop} {C : Hw} {ts : List Tr} {vs : List T} (h : TrPs P C vs ts) : vs.length = ts.length := h.h.length
def Ls (P : Addr → Prop) (C : Hw) : List Addr → List (List Tr) → Prop
  | [], [] => True
  | p :: ps, t :: S => (∃ vs, C p = some (.lst vs) ∧ TrPs P C vs t) ∧ Ls P C ps S
  | _, _ => False
theorem Ls.mono {P P' : Addr → Prop} {C C' : Hw} (h : ∀ a o, P a → C a = some o → P' a ∧ C' a = some o) : ∀ {ps : List Addr} {S : List (List Tr)}, (∀ p ∈ ps, ∀ o, C p = some o → C' p = some o) → Ls P C ps S → Ls P' C' ps S
  | [], [], _, q => trivial
  | p :: ps, t :: S, hp, q => by
    obtain ⟨⟨vs, h1, h2⟩, q⟩ := q
    exact ⟨⟨vs, hp p (by simp) _ h1, h2.mono h⟩, Ls.mono h (fun a ha => hp a (by simp [ha])) q⟩
  | [], _ :: _, _, q => q.elim
  | _ :: _, [], _, q => q.elim
theorem Ls.len {P : Addr → Prop} {C : Hw} : ∀ {ps : List Addr} {S : List (List Tr)}, Ls P C ps S → ps.length = S.length
  | [], [], _ => rfl
  | _ :: ps, _ :: S, h => by rw [List.length_cons, List.length_cons, Ls.len h.2]
  | [], _ :: _, q => q.elim
  | _ :: _, [], q => q.elim
structure Pl (C0 C : Hw) (a : Addr) (ps : List Addr) (S : List (List Tr)) (m : Nat) : Prop where
  ex : Ex C0 C
  fr : C0 a = none ∧ ∀ p ∈ ps, C0 p = none
  at_ : C a = some (.lst (ps.reverse.map T.ref))
  nd : (a :: ps).Nodup
  ls : Ls (fun b => b ∉ a :: ps) C ps S
  sz : S.length ≤ m + 1 ∧ ∀ t ∈ S, t.length ≤ m
section
variable {C : Hw} {Q : WK} {χ : WX} {n : Nat}
theorem pl_open {C0 C : Hw} {a p : Addr} {ps : List Addr} {S : List (List Tr)} {m : Nat} (h : Pl C0 C a ps S m) (hp : C p = none) : Pl C0 (up (up C p (.lst [])) a (.lst ((p :: ps).reverse.map T.ref))) a (p :: ps) ([] :: S) (m + 1) := by
  have hpa : p ≠ a := cne' h.at_ hp
  have hpps : p ∉ ps := fun hm => by
    obtain ⟨i, hi⟩ := List.mem_iff_getElem?.mp hm
    have : ∀ {ps : List Addr} {S : List (List Tr)} {P : Addr → Prop}, Ls P C ps S → ∀ q ∈ ps, ∃ o, C q = some o := by
      intro ps
      induction ps with
      | nil => intro S P _ q hq; cases hq
      | cons x ps ih =>
        intro S P hL q hq
        cases S with
        | nil => exact hL.elim
        | cons t S =>
          obtain ⟨⟨vs, h1, _⟩, h2⟩ := hL
          rcases List.mem_cons.mp hq with rfl | hq
          · exact ⟨_, h1⟩
          · exact ih h2 q hq
    obtain ⟨o, ho⟩ := this h.ls p hm
    rw [hp] at ho; cases ho
  have hps : ∀ q ∈ ps, q ≠ a := fun q hq e => by subst e; exact (List.nodup_cons.mp h.nd).1 hq
  refine ⟨fun b o e => ?_, ⟨h.fr.1, fun q hq => ?_⟩, up_same, ?_, ⟨⟨[], by rw [up_ne hpa]; exact up_same, by unfold TrPs; rfl⟩, ?_⟩, ?_⟩
  · have hb := h.ex b o e
    rw [up_ne (cne e h.fr.1), up_ne (cne hb hp)]
    exact hb
  · rcases List.mem_cons.mp hq with rfl | hq
    · exact h.ex.free hp
    · exact h.fr.2 q hq
  · rw [List.nodup_cons, List.nodup_cons]
    obtain ⟨h1, h2⟩ := List.nodup_cons.mp h.nd
    exact ⟨fun z => (List.mem_cons.mp z).elim (fun e => hpa e.symm) h1, hpps, h2⟩
  · refine Ls.mono (fun b o hb e => ?_) (fun q hq o e => ?_) h.ls
    · have hbp : b ≠ p := cne e hp
      have hba : b ≠ a := fun z => hb (by rw [z]; simp)
      refine ⟨fun z => ?_, by rw [up_ne hba, up_ne hbp]; exact e⟩
      simp only [List.mem_cons] at z hb
      rcases z with z | z | z
      · exact hba z
      · exact hbp z
      · exact hb (.inr z)
    · rw [up_ne (hps q hq), up_ne (cne e hp)]; exact e
  · refine ⟨by simp; exact h.sz.1, fun t ht => ?_⟩
    rcases List.mem_cons.mp ht with rfl | ht
    · simp
    · have := h.sz.2 t ht; omega
theorem pl_add {C0 C : Hw} {a p : Addr} {ps : List Addr} {t : List Tr} {S : List (List Tr)} {m : Nat} {v : T} {τ : Tr} {vs : List T} (h : Pl C0 C a (p :: ps) (t :: S) m) (hC : C p = some (.lst vs)) (hv : TrP (fun b => b ∉ a :: p :: ps) C v τ) :
    Pl C0 (up C p (.lst (vs ++ [v]))) a (p :: ps) ((t ++ [τ]) :: S) (m + 1) := by
  obtain ⟨⟨vs', h1, h2⟩, h3⟩ := h.ls
  rw [hC] at h1; cases h1
  obtain ⟨n1, n2⟩ := List.nodup_cons.mp h.nd
  obtain ⟨n3, n4⟩ := List.nodup_cons.mp n2
  have hap : a ≠ p := fun e => n1 (by rw [e]; simp)
  have keep : ∀ b o, b ∉ a :: p :: ps → C b = some o → b ∉ a :: p :: ps ∧ up C p (.lst (vs ++ [v])) b = some o := fun b o hb e => ⟨hb, by rw [up_ne (fun z => hb (by rw [z]; simp))]; exact e⟩
  refine ⟨fun b o e => ?_, h.fr, by rw [up_ne hap]; exact h.at_, h.nd, ⟨⟨vs ++ [v], up_same, (TrPs.snoc hv h2).mono keep⟩, ?_⟩, ?_⟩
  · rw [up_ne (cne e (h.fr.2 p (by simp)))]; exact h.ex b o e
  · refine Ls.mono keep (fun q hq o e => ?_) h3
    rw [up_ne (fun z => n3 (by rw [← z]; exact hq))]; exact e
  · refine ⟨by have := h.sz.1; simp at this ⊢; omega, fun u hu => ?_⟩
    rcases List.mem_cons.mp hu with rfl | hu
    · have := h.sz.2 t (by simp); simp; omega
    · have := h.sz.2 u (by simp [hu]); omega
theorem pl_pop {C0 C : Hw} {a p : Addr} {ps : List Addr} {t : List Tr} {S : List (List Tr)} {m : Nat} (h : Pl C0 C a (p :: ps) (t :: S) m) : Pl C0 (up C a (.lst (ps.reverse.map T.ref))) a ps S m ∧ TrP (fun b => b ∉ a :: ps) (up C a (.lst (ps.reverse.map T.ref))) (.ref p) (.n t) := by
  obtain ⟨⟨vs, h1, h2⟩, h3⟩ := h.ls
  obtain ⟨n1, n2⟩ := List.nodup_cons.mp h.nd
  obtain ⟨n3, n4⟩ := List.nodup_cons.mp n2
  have hap : p ≠ a := fun e => n1 (by rw [← e]; simp)
  have keep : ∀ b o, b ∉ a :: p :: ps → C b = some o → b ∉ a :: ps ∧ up C a (.lst (ps.reverse.map T.ref)) b = some o := fun b o hb e => ⟨fun z => hb (by simp only [List.mem_cons] at z ⊢; exact z.elim .inl fun z => .inr (.inr z)), by rw [up_ne (fun z => hb (by rw [z]; simp))]; exact e⟩
  refine ⟨⟨fun b o e => ?_, ⟨h.fr.1, fun q hq => h.fr.2 q (by simp [hq])⟩, up_same, ?_, ?_, ?_⟩, ?_⟩
  · rw [up_ne (cne e h.fr.1)]; exact h.ex b o e
  · exact List.nodup_cons.mpr ⟨fun z => n1 (by simp [z]), n4⟩
  · refine Ls.mono keep (fun q hq o e => ?_) h3
    rw [up_ne (fun z => n1 (by rw [← z]; simp [hq]))]; exact e
  · exact ⟨by have := h.sz.1; simp at this; omega, fun u hu => h.sz.2 u (by simp [hu])⟩
  · unfold TrP
    refine ⟨p, vs, rfl, fun z => ?_, by rw [up_ne hap]; exact h1, h2.mono keep⟩
    rcases List.mem_cons.mp z with z | z
    · exact hap z
    · exact n3 z
theorem s_tree_of {wl : Addr} {ws : List Str} {τ : Tr} (hw : C wl = some (.lst (ws.map T.str))) (hl : ws.length ≤ 50000) (hr : run ws [[]] = some [[τ]]) (q : ∀ v C', Ex C C' → TrH C' v τ → Q v C') : wpc pr (n + 1) i_tree_of [.ref wl] C Q χ := by
  refine u_tree_of rfl ?_
  unfold w_tree_of
  walk_at "ws"
  intro p0 hp0 a ha
  obtain ⟨na, hna⟩ := fr1 ha
  have hwl0 : up (up C p0 (.lst [])) a (.lst [.ref p0]) wl = some (.lst (ws.map T.str)) := (Ex.new ha) _ _ ((Ex.new hp0) _ _ hw)
  refine ⟨_, hwl0, ?_⟩
  have P0 : Pl C (up (up C p0 (.lst [])) a (.lst [.ref p0])) a [p0] [[]] 0 := by
    refine ⟨(Ex.new hp0).trans (Ex.new ha), ⟨hna, fun p hp => by rw [List.mem_singleton.mp hp]; exact hp0⟩, up_same, by simp [na], ⟨⟨[], by rw [up_ne na.symm]; exact up_same, by unfold TrPs; rfl⟩, trivial⟩, by simp⟩
  refine for_inv (fun i σ C' => ∃ x2 x3 ps S, σ = [some (.ref wl), some (.ref a), x2, x3] ∧ run (ws.take i) [[]] = some S ∧ Pl C C' a ps S i) ⟨none, none, [p0], [[]], rfl, rfl, P0⟩ (fun i σ C' _ h => by obtain ⟨_, _, _, _, _, _, hP⟩ := h; exact hP.ex _ _ hw) ?_ ?_
  · rintro i x σ C' N hx ⟨x2, x3, ps, S, rfl, hrun, hP⟩ hN
    rw [List.getElem?_map] at hx
    cases hz : ws[i]? with
    | none => rw [hz] at hx; cases hx
    | some w =>
      rw [hz] at hx
      cases hx
      have hi : i < ws.length := (List.getElem?_eq_some_iff.mp hz).1
      have hsz := hP.sz
      have htk : ws.take (i + 1) = ws.take i ++ [w] := by rw [List.take_add_one, hz]; rfl
      have hst : run (ws.take (i + 1)) [[]] = step S w := by
        rw [htk, run_app, hrun]
        show (step S w).bind (run []) = _
        cases step S w <;> rfl
      have hsome : ∃ S', step S w = some S' := by
        have e : ws = ws.take (i + 1) ++ ws.drop (i + 1) := (List.take_append_drop _ _).symm
        have h2 := hr
        rw [e, run_app, hst] at h2
        cases hs : step S w with
        | none => rw [hs] at h2; cases h2
        | some S' => exact ⟨S', rfl⟩
      obtain ⟨S', hS'⟩ := hsome
      rw [hS'] at hst
      have hlen := hP.ls.len
      have hat := hP.at_
      walk_at "ws"
      by_cases c1 : w = "("
      · rw [if_pos c1]
        have e : S' = [] :: S := by
          unfold step at hS'; rw [if_pos c1] at hS'; exact (Option.some.inj hS').symm
        subst e
        refine ⟨⟨_, hat⟩, fun p hp => ?_⟩
        refine ⟨_, (Ex.new hp) _ _ hat, small63' (by rw [List.length_map, List.length_reverse]; omega), ?_⟩
        refine hN _ _ ⟨_, _, p :: ps, [] :: S, rfl, hst, ?_⟩
        have := pl_open hP hp
        simpa using this
      · rw [if_neg c1]
        obtain ⟨p, ps', t, S1, rfl, rfl⟩ : ∃ p ps' t S1, ps = p :: ps' ∧ S = t :: S1 := by
          cases S with
          | nil =>
            unfold step at hS'; rw [if_neg c1] at hS'
            by_cases c2 : w = ")"
            · rw [if_neg (by simpa using c2)] at hS'; cases hS'
            · rw [if_pos c2] at hS'; cases hS'
          | cons t S1 =>
            cases ps with
            | nil => cases hlen
            | cons p ps' => exact ⟨p, ps', t, S1, rfl, rfl⟩
        obtain ⟨⟨vs, h1, h2⟩, h3⟩ := id hP.ls
        have hlast : (p :: ps').reverse.map T.ref = ps'.reverse.map T.ref ++ [.ref p] := by simp
        rw [hlast] at hat
        have hvl := h2.len
        have htl := hsz.2 t (by simp)
        by_cases c2 : w = ")"
        · rw [if_neg (by simp [c2])]
          obtain ⟨u, S2, rfl, rfl⟩ : ∃ u S2, S1 = u :: S2 ∧ S' = (u ++ [.n t]) :: S2 := by
            unfold step at hS'
            rw [if_neg c1, if_neg (by simpa using c2)] at hS'
            cases S1 with
            | nil => cases hS'
            | cons u S2 => exact ⟨u, S2, rfl, (Option.some.inj hS').symm⟩
          obtain ⟨p2, ps2, rfl⟩ : ∃ p2 ps2, ps' = p2 :: ps2 := by
            cases ps' with
            | nil => simp at hlen
            | cons p2 ps2 => exact ⟨p2, ps2, rfl⟩
          obtain ⟨hP2, hv⟩ := pl_pop hP
          have hdl : ((p2 :: ps2).reverse.map T.ref ++ [T.ref p]).dropLast = (p2 :: ps2).reverse.map T.ref := by simp
          have hla : ((p2 :: ps2).reverse.map T.ref ++ [T.ref p])[((p2 :: ps2).reverse.map T.ref ++ [T.ref p]).length - 1]? = some (.ref p) := by simp
          have hl2 : (p2 :: ps2).reverse.map T.ref = ps2.reverse.map T.ref ++ [T.ref p2] := by simp
          obtain ⟨⟨vs2, g1, g2⟩, g3⟩ := id hP2.ls
          have hvl2 := g2.len
          have htl2 := hsz.2 u (by simp)
          refine ⟨_, hat, ?_⟩
          rw [if_pos (by simp; omega)]
          refine ⟨⟨_, hat⟩, _, hat, _, hla, ?_⟩
          rw [hdl]
          refine ⟨_, up_same, _, by rw [hl2]; exact atI_last _ _, ⟨p2, rfl, _, g1⟩, p2, rfl, _, g1, small63' (by omega), ?_⟩
          exact hN _ _ ⟨_, _, p2 :: ps2, (u ++ [.n t]) :: S2, rfl, hst, pl_add hP2 g1 hv⟩
        · rw [if_pos (by simp [c2])]
          refine ⟨_, hat, _, atI_last _ _, ?_⟩
          have e : S' = (t ++ [.w w]) :: S1 := by
            unfold step at hS'
            rw [if_neg c1, if_pos c2] at hS'
            exact (Option.some.inj hS').symm
          subst e
          refine ⟨⟨p, rfl, _, h1⟩, p, rfl, _, h1, small63' (by omega), ?_⟩
          exact hN _ _ ⟨_, _, p :: ps', (t ++ [.w w]) :: S1, rfl, hst, pl_add hP h1 (by unfold TrP; rfl)⟩
  · rintro σ C' ⟨x2, x3, ps, S, rfl, hrun, hP⟩
    rw [List.length_map, List.take_length, hr] at hrun
    cases hrun
    have hlen := hP.ls.len
    obtain ⟨p, rfl⟩ : ∃ p, ps = [p] := by
      match ps, hlen with
      | [p], _ => exact ⟨p, rfl⟩
    obtain ⟨⟨vs, h1, h2⟩, _⟩ := id hP.ls
    obtain ⟨v, rfl, hv⟩ : ∃ v, vs = [v] ∧ TrP (fun b => b ∉ [a, p]) C' v τ := by
      unfold TrPs at h2
      obtain ⟨v, r, rfl, h3, h4⟩ := h2
      unfold TrPs at h4
      subst h4
      exact ⟨v, rfl, h3⟩
    have hat : C' a = some (.lst [.ref p]) := hP.at_
    unfold w_tree_of_t3
    walk_at "ws"
    refine ⟨_, hat, ?_⟩
    walk_at "ws"
    unfold w_tree_of_t2
    walk_at "ws"
    refine ⟨_, hat, _, atI_0, ?_⟩
    walk_at "ws"
    refine ⟨_, h1, ?_⟩
    walk_at "ws"
    unfold w_tree_of_t1
    walk_at "ws"
    refine ⟨_, hat, _, atI_0, ?_⟩
    walk_at "ws"
    exact ⟨_, h1, _, atI_0, q v C' hP.ex hv.h⟩
end
set_option Elab.async false
set_option linter.all false
set_option maxRecDepth 100000
set_option maxHeartbeats 4000000
open PySem PySem.Spec PyProof.Rows L2 WL
def Wt (ps : List Str) : Nat → T → Prop
  | 0, t => Lf ps t
  | n + 1, t => Wt ps n t ∨ ∃ s d ts, Jn ps s d ts t ∧ ∀ x ∈ ts, Wt ps n x
theorem Wt.mono {ps : List Str} {t : T} : ∀ {n m : Nat}, Wt ps n t → n ≤ m → Wt ps m t := by
  intro n m h hl
  induction m with
  | zero => have : n = 0 := by omega
            subst this; exact h
  | succ m ih =>
    by_cases c : n = m + 1
    · subst c; exact h
    · exact .inl (ih (by omega))
theorem Wt.leaf {ps : List Str} {t : T} (h : Lf ps t) (n : Nat) : Wt ps n t := Wt.mono (n := 0) h (Nat.zero_le _)
theorem Wt.flat {ps : List Str} : ∀ {n : Nat} {t : T}, Wt ps n t → WL.flat t (3 * n + 2) = true
  | 0, t, h => Lf.flat (ps := ps) h
  | n + 1, t, h => by
    rcases h with h | ⟨s, d, ts, hJ, ht⟩
    · exact flat_mono t h.flat (by omega)
    · have := hJ.flat (k := 3 * n + 2) (by omega) fun x hx => (ht x hx).flat
      exact flat_mono t this (by omega)
section
variable {χ : WX}
theorem s_term {a p : Addr} {ps : List Str} (hps : ps ≠ []) (hp9 : ps.length ≤ 9) (pa : a ≠ p) : ∀ (k : Nat) {n : Nat} {C : Hw} {Q : WK} {r : List Int}, C a = some (.lst (ps.map T.str)) → C p = some (.lst (r.map T.int)) → (∀ x ∈ r, 0 ≤ x) →
    (∀ t C' (r' : List Int), ExB p C C' → C' p = some (.lst (r'.map T.int)) → (∀ x ∈ r', 0 ≤ x) → r'.length ≤ r.length → Wt ps k t → Q t C') → wpc pr (n + k + 5) i__law_term [.ref p, .int ((k : Int) + 1), .ref a] C Q χ := by
  intro k
  induction k with
  | zero =>
    intro n C Q r ha hp hr0 q
    refine u__law_term rfl ?_
    unfold w__law_term
    walk_at "ws"
    have fin : ∀ (v : Int) (C1 : Hw) (r2 : List Int) x4 x5 x6, 0 ≤ v → ExB p C C1 → C1 p = some (.lst (r2.map T.int)) → (∀ x ∈ r2, 0 ≤ x) → r2.length ≤ r.length →
        w__law_term_t3 (wpc pr (n + 4)) { nx := fun _ C' => Q .non C', rt := Q, xc := χ } [some (.ref p), some (.int ((0 : Nat) + 1)), some (.ref a), some (.int v), x4, x5, x6] C1 := fun v C1 r2 x4 x5 x6 hv hE hp1 hr2 hl => by
      unfold w__law_term_t3
      walk_at "ws"
      exact ⟨⟨by decide, by decide⟩, s_leaf (by omega) (hE _ _ pa ha) hps fun t C2 hE2 hL => q t C2 r2 (hE.trans (hE2.exB p)) (hE2 _ _ hp1) hr2 hl hL⟩
    cases r with
    | nil =>
      refine ⟨_, hp, ?_⟩
      walk_at "ws"
      exact fin 0 C [] _ _ _ (by decide) (ExB.refl _ _) hp (by simp) (Nat.le_refl _)
    | cons v r2 =>
      refine ⟨_, hp, ?_⟩
      rw [if_pos (by simp only [List.map_cons, List.length_cons]; omega)]
      refine ⟨⟨_, hp⟩, _, hp, _, seq0 (by simp), _, rfl, ?_⟩
      walk_at "ws"
      exact fin v _ r2 _ _ _ (hr0 v (by simp)) (ExB.refl _ _).put up_same (fun x hx => hr0 x (by simp [hx])) (by simp)
  | succ k ih =>
    intro n C Q r ha hp hr0 q
    refine u__law_term rfl ?_
    unfold w__law_term
    walk_at "ws"
    have fin : ∀ (v : Int) (C1 : Hw) (r2 : List Int) x4 x5 x6, 0 ≤ v → ExB p C C1 → C1 p = some (.lst (r2.map T.int)) → (∀ x ∈ r2, 0 ≤ x) → r2.length ≤ r.length →
        w__law_term_t3 (wpc pr (n + k + 5)) { nx := fun _ C' => Q .non C', rt := Q, xc := χ } [some (.ref p), some (.int (((k + 1 : Nat) : Int) + 1)), some (.ref a), some (.int v), x4, x5, x6] C1 := fun v C1 r2 x4 x5 x6 hv hE hp1 hr2 hl => by
      unfold w__law_term_t3
      walk_at "ws"
      have lf : CDiv v 9 ∧ wpc pr (n + k + 5) i__law_leaf [.int (v / 9), .ref a] C1 Q χ := ⟨⟨by decide, by decide⟩, s_leaf (n := n + k + 4) (by omega) (hE _ _ pa ha) hps fun t C2 hE2 hL => q t C2 r2 (hE.trans (hE2.exB p)) (hE2 _ _ hp1) hr2 hl (Wt.leaf hL _)⟩
      refine ite2 (fun c => lf) fun c => ⟨_, hp1, ite2 (fun c => lf) fun c => ite2 (fun c => lf) fun c9 => ?_⟩
      unfold w__law_term_t2
      walk_at "ws"
      intro b hb
      have bp : b ≠ p := cne' hp1 hb
      have ba : b ≠ a := cne' (hE _ _ pa ha) hb
      refine ⟨⟨by decide, by decide⟩, s_many (n := n + k + 4) (by omega) (by omega) (by omega) fun m C2 hE2 hM => ?_⟩
      walk_at "ws"
      have hm6 : m ≤ 6 := hM.2.2.2.2.2.2.2.2
      have hEb : Ex C1 (up C1 b (.lst [])) := Ex.new hb
      refine ⟨by omega, by omega, ?_⟩
      refine for_rng (fun i τ C' => ∃ x6 ts, ∃ r' : List Int, τ = [some (.ref p), some (.int (((k + 1 : Nat) : Int) + 1)), some (.ref a), some (.int v), some (.int (v % 9)), some (.ref b), x6] ∧ ExB p C C' ∧ C' a = some (.lst (ps.map T.str)) ∧ C' p = some (.lst (r'.map T.int)) ∧ (∀ x ∈ r', 0 ≤ x) ∧ r'.length ≤ r.length ∧ C' b = some (.lst ts) ∧ ts.length = i ∧ ∀ x ∈ ts, Wt ps k x)
        ⟨x6, [], r2, rfl, (hE.trans (hEb.exB p)).trans (hE2.exB p), hE2 _ _ (hEb _ _ (hE _ _ pa ha)), hE2 _ _ (hEb _ _ hp1), hr2, hl, hE2 _ _ up_same, rfl, by simp⟩ (fun _ => trivial) ?_ ?_
      · rintro i τ C' N hi ⟨x6, ts, r', rfl, hE', ha', hp', hr', hrl, hb', htl, htw⟩ hN
        walk_at "ws"
        refine ⟨⟨_, hb'⟩, ?_⟩
        rw [show (((k + 1 : Nat) : Int) + 1 - 1) = (k : Int) + 1 by omega]
        refine ih (n := n) ha' hp' hr' fun t C3 r3 hE3 hp3 hr3 hl3 hW => ?_
        have hb3 := hE3 _ _ bp hb'
        refine ⟨_, hb3, small63' (by omega), hN _ _ ⟨_, ts ++ [t], r3, rfl, ?_, ?_, ?_, hr3, by omega, up_same, by rw [List.length_append, htl]; rfl, ?_⟩⟩
        · intro x o hx ho
          rw [up_ne (cne' (hE _ _ hx ho) hb).symm]
          exact hE3 _ _ hx (hE' _ _ hx ho)
        · rw [up_ne ba.symm]; exact hE3 _ _ pa ha'
        · rw [up_ne bp.symm]; exact hp3
        · intro x hx
          rcases List.mem_append.mp hx with hx | hx
          · exact htw x hx
          · rw [List.mem_singleton.mp hx]; exact hW
      · rintro τ C' ⟨x6, ts, r', rfl, hE', ha', hp', hr', hrl, hb', htl, htw⟩
        unfold w__law_term_t1
        walk_at "ws"
        have htl' : ts.length = m := by omega
        refine ⟨⟨by decide, by decide⟩, s_joined (n := n + k + 2) (by omega) ha' hps hp9 hb' (hM.fit (by omega) (by omega) htl') fun t C8 hE8 hJ => ?_⟩
        exact q t C8 r' (hE'.trans (hE8.exB p)) (hE8 _ _ hp') hr' hrl (.inr ⟨_, _, ts, hJ, htw⟩)
    cases r with
    | nil =>
      refine ⟨_, hp, ?_⟩
      walk_at "ws"
      exact fin 0 C [] _ _ _ (by decide) (ExB.refl _ _) hp (by simp) (Nat.le_refl _)
    | cons v r2 =>
      refine ⟨_, hp, ?_⟩
      rw [if_pos (by simp only [List.map_cons, List.length_cons]; omega)]
      refine ⟨⟨_, hp⟩, _, hp, _, seq0 (by simp), _, rfl, ?_⟩
      walk_at "ws"
      exact fin v _ r2 _ _ _ (hr0 v (by simp)) (ExB.refl _ _).put up_same (fun x hx => hr0 x (by simp [hx])) (by simp)
end
section
variable {C : Hw} {Q : WK} {χ : WX} {n : Nat}
end
set_option Elab.async false
set_option linter.all false
set_option maxRecDepth 100000
set_option maxHeartbeats 4000000
open PySem PySem.Spec PyProof.Rows L2 WL
abbrev Gv (C : Hw) (Q : WK) (xs : List T) : Prop := ∀ p C', Ex C C' → C p = none → C' p = some (.lst xs) → Q (.ref p) C'
def PcO (t : T) (ps : List T) : Prop := ∀ {n : Nat} {C : Hw} {Q : WK} {χ : WX}, Gv C Q ps → wpc pr (n + 4) i_pieces_of [t] C Q χ
def InO (t : T) (ps : List T) : Prop := ∀ {n : Nat} {C : Hw} {Q : WK} {χ : WX}, Gv C Q ps → wpc pr (n + 3) i_inner_pieces [t] C Q χ
def br (g : List T) : List T := .str "(" :: (g ++ [.str ")"])
section
variable {C : Hw} {Q : WK} {χ : WX} {n : Nat}
theorem comp_lists {g : WG} {e : WE} {τ : Sw} {Q : List T → Hw → Prop} {χ : WX} {xs : List T} (G : T → List T) {C : Hw} (hl : xs.length ≤ 1000)
    (hs : ∀ x ∈ xs, ∀ C', Ex C C' → ∀ N : WK, Gv C' N (G x) → g x τ C' (fun τ2 C2 => e τ2 C2 N χ) χ)
    (hd : ∀ (rs : List Addr) C', Ex C C' → rs.length = xs.length → (∀ (j : Nat) (x : T) (r : Addr), xs[j]? = some x → rs[j]? = some r → C' r = some (.lst (G x))) → Q (rs.map T.ref) C') : compW g tYes e (fun _ => True) τ Q χ xs [] C := by
  refine comp_inv (fun i acc C' => ∃ rs : List Addr, acc = rs.map T.ref ∧ Ex C C' ∧ rs.length = i ∧ ∀ (j : Nat) (x : T) (r : Addr), xs[j]? = some x → rs[j]? = some r → C' r = some (.lst (G x))) ⟨[], rfl, Ex.refl _, rfl, fun j x r _ h => by simp at h⟩ (fun _ _ _ _ _ => trivial) ?_ ?_
  · rintro i x acc C' N hx ⟨rs, rfl, hE, hi, hr⟩ hN
    have hil : i < xs.length := (List.getElem?_eq_some_iff.mp hx).1
    refine hs x (List.mem_of_getElem? hx) C' hE _ fun p C2 hE2 hp hC2 => ⟨?_, hN _ _ ⟨rs ++ [p], by simp, hE.trans hE2, by simp [hi], fun j y r hy hr' => ?_⟩⟩
    · rw [List.length_map]; exact small63' (by omega)
    · by_cases c : j < rs.length
      · rw [List.getElem?_append_left c] at hr'
        exact hE2 _ _ (hr j y r hy hr')
      · rw [List.getElem?_append_right (by omega)] at hr'
        match e : j - rs.length, hr' with
        | 0, hr' =>
          have : j = i := by omega
          subst this
          rw [hx] at hy
          cases hy
          simp at hr'
          subst hr'
          exact hC2
        | k + 1, hr' => simp at hr'
  · rintro acc C' ⟨rs, rfl, hE, hi, hr⟩
    exact hd rs C' hE hi hr
theorem s_bracketed {a : Addr} {rs : List Addr} {gs : List (List T)} (ha : C a = some (.lst (rs.map T.ref))) (hl : rs.length = gs.length) (h5 : gs.length ≤ 10) (hg5 : ∀ g ∈ gs, g.length ≤ 10)
    (hg : ∀ (j : Nat) (r : Addr) (g : List T), rs[j]? = some r → gs[j]? = some g → C r = some (.lst g)) (q : Gv C Q (gs.flatMap br)) : wpc pr (n + 1) i_bracketed [.ref a] C Q χ := by
  refine u_bracketed rfl ?_
  unfold w_bracketed
  walk_at "ws"
  intro p hp
  refine ⟨_, (Ex.new hp) _ _ ha, ?_⟩
  refine for_inv (fun i τ C' => ∃ x2, τ = [some (.ref a), some (.ref p), x2] ∧ Ex C C' ∧ C' p = some (.lst ((gs.take i).flatMap br))) ⟨none, rfl, Ex.new hp, up_same⟩ (fun i τ C' _ h => by obtain ⟨_, _, hE, _⟩ := h; exact hE _ _ ha) ?_ ?_
  · rintro i x τ C' N hx ⟨x2, rfl, hE, hC⟩ hN
    rw [List.getElem?_map] at hx
    cases hr : rs[i]? with
    | none => rw [hr] at hx; cases hx
    | some r =>
      rw [hr] at hx
      cases hx
      have hi : i < rs.length := (List.getElem?_eq_some_iff.mp hr).1
      have hgi : gs[i]? = some (gs[i]'(by omega)) := by simp [hl ▸ hi]
      have hr1 := hE _ _ (hg i r _ hr hgi)
      have hg1 := hg5 _ (List.mem_of_getElem? hgi)
      generalize gs[i]'(by omega) = g at hgi hr1 hg1
      walk_at "ws"
      refine ⟨⟨_, hC⟩, fun b1 h1 => ?_⟩
      refine ⟨_, up_same, _, (Ex.new h1) _ _ hr1, small63 (by simp; omega), fun b2 h2 b3 h3 => ?_⟩
      obtain ⟨n31, h31⟩ := fr1 h3
      obtain ⟨n21, h21⟩ := fr1 h2
      refine ⟨_, by rw [up_ne n31.symm]; exact up_same, _, up_same, small63 (by simp; omega), fun b4 h4 => ?_⟩
      have pb4 : p ≠ b4 := fun z => by
        subst z
        obtain ⟨m3, h4⟩ := fr1 h4
        obtain ⟨m2, h4⟩ := fr1 h4
        obtain ⟨m1, h4⟩ := fr1 h4
        rw [hC] at h4; cases h4
      have hX : Ex C' (up (up (up (up C' b1 (.lst [.str "("])) b2 (.lst ([.str "("] ++ g))) b3 (.lst [.str ")"])) b4 (.lst ([.str "("] ++ g ++ [.str ")"]))) :=
        (((Ex.new h1).trans (Ex.new h2)).trans (Ex.new h3)).trans (Ex.new h4)
      have hfl : ((gs.take i).flatMap br).length ≤ 1000 := by
        rw [List.length_flatMap]
        have h1 : ∀ m ∈ (gs.take i).map (fun g => (br g).length), m ≤ 12 := fun m hm => by
          obtain ⟨g, hg, rfl⟩ := List.mem_map.mp hm
          have := hg5 g (List.mem_of_mem_take hg)
          simp [br]; omega
        have h2 : ∀ (l : List Nat), (∀ m ∈ l, m ≤ 12) → l.sum ≤ 12 * l.length := by
          intro l
          induction l with
          | nil => simp
          | cons m l ih => intro h; have := h m (by simp); have := ih fun k hk => h k (by simp [hk]); simp only [List.sum_cons, List.length_cons]; omega
        have := h2 _ h1
        rw [List.length_map, List.length_take] at this
        omega
      unfold mExtend
      refine ⟨p, b4, _, _, rfl, rfl, hX _ _ hC, up_same, small63 (by simp only [List.length_append, List.length_cons, List.length_nil]; omega), hN _ _ ⟨some (.ref r), rfl, (hE.trans hX).up hp, ?_⟩⟩
      rw [up_same, List.take_add_one, hgi, List.flatMap_append]
      simp [br]
  · rintro τ C' ⟨x2, rfl, hE, hC⟩
    rw [List.length_map, hl, List.take_length] at hC
    walk_at "ws"
    exact q p C' hE hp hC
end
set_option Elab.async false
set_option linter.all false
set_option maxRecDepth 100000
set_option maxHeartbeats 4000000
open PySem PySem.Spec PyProof.Rows L2 WL
inductive FunCh : T → List Str → T → Prop
  | nil {w : Str} {r : List T} (h : w ≠ "fun") : FunCh (.tup (.str w :: r)) [] (.tup (.str w :: r))
  | cons {x : Str} {B B0 : T} {ns : List Str} (h : FunCh B ns B0) : FunCh (.tup [.str "fun", .str x, B]) (x :: ns) B0
inductive CallCh : T → T → List T → Prop
  | nil {w : Str} {r : List T} (h : w ≠ "call") : CallCh (.tup (.str w :: r)) (.tup (.str w :: r)) []
  | cons {F F0 A : T} {as : List T} (h : CallCh F F0 as) : CallCh (.tup [.str "call", F, A]) F0 (as ++ [A])
section
variable {C : Hw} {Q : WK} {χ : WX} {n : Nat}
theorem s_fun_pieces {t B0 : T} {ns : List Str} (h : FunCh t ns B0) (hl : ns.length ≤ 50) (q : Gv C Q (.str "fun" :: (ns.map T.str ++ [B0]))) : wpc pr (n + 1) i_fun_pieces [t] C Q χ := by
  refine u_fun_pieces rfl ?_
  unfold w_fun_pieces
  walk_at "ws"
  intro p hp
  refine while_inv (fun m τ C' => ∃ t' done rest, τ = [some t', some (.ref p)] ∧ FunCh t' rest B0 ∧ ns = done ++ rest ∧ C' = up C p (.lst (.str "fun" :: done.map T.str)) ∧ rest.length = m) (m := ns.length) ⟨t, [], ns, rfl, h, rfl, rfl, rfl⟩ ?_
  rintro m τ C' N ⟨t', done, rest, rfl, hF, hns, rfl, hm⟩ hN
  cases hF with
  | @nil w r hw =>
    walk_at "ws"
    rw [if_neg hw]
    unfold w_fun_pieces_t1
    walk_at "ws"
    intro p2 h2
    obtain ⟨n2, e2⟩ := fr1 h2
    have hd : done.length ≤ 50 := by rw [hns] at hl; simp at hl; omega
    refine ⟨_, by rw [up_ne n2.symm]; exact up_same, _, up_same, small63 (by simp; omega), fun p3 h3 => ?_⟩
    obtain ⟨n32, h32⟩ := fr1 h3
    obtain ⟨n31, e3⟩ := fr1 h32
    refine q p3 _ (((Ex.new hp).trans (Ex.new h2)).trans (Ex.new h3)) e3 ?_
    rw [up_same, hns]; simp
  | @cons x B _ ns' hF' =>
    walk_at "ws"
    have hd : done.length ≤ 50 := by rw [hns] at hl; simp at hl; omega
    refine ⟨⟨_, up_same⟩, _, up_same, small63' (by simp; omega), ?_⟩
    refine hN ns'.length _ _ (by rw [← hm]; simp) ⟨B, done ++ [x], ns', rfl, hF', by rw [hns]; simp, ?_, rfl⟩
    rw [up_up]; simp
theorem s_call_pieces {t F0 : T} {as : List T} (h : CallCh t F0 as) (hl : as.length ≤ 50) (q : Gv C Q (F0 :: as)) : wpc pr (n + 1) i_call_pieces [t] C Q χ := by
  refine u_call_pieces rfl ?_
  unfold w_call_pieces
  walk_at "ws"
  intro p hp
  refine while_inv (fun m τ C' => ∃ t' done rest, τ = [some t', some (.ref p)] ∧ CallCh t' F0 rest ∧ as = rest ++ done.reverse ∧ C' = up C p (.lst done) ∧ rest.length = m) (m := as.length) ⟨t, [], as, rfl, h, by simp, rfl, rfl⟩ ?_
  rintro m τ C' N ⟨t', done, rest, rfl, hF, hns, rfl, hm⟩ hN
  have hd : done.length ≤ 50 := by rw [hns] at hl; simp at hl; omega
  cases hF with
  | @nil w r hw =>
    walk_at "ws"
    rw [if_neg hw]
    unfold w_call_pieces_t1
    walk_at "ws"
    intro p2 h2
    obtain ⟨n2, e2⟩ := fr1 h2
    unfold eLRev
    walk_at "ws"
    refine ⟨_, by rw [up_ne n2.symm]; exact up_same, fun p3 h3 => ?_⟩
    obtain ⟨n32, h32⟩ := fr1 h3
    refine ⟨_, by rw [up_ne n32.symm]; exact up_same, _, up_same, small63 (by simp; omega), fun p4 h4 => ?_⟩
    obtain ⟨n43, h43⟩ := fr1 h4
    obtain ⟨n42, h42⟩ := fr1 h43
    obtain ⟨n41, e4⟩ := fr1 h42
    refine q p4 _ ((((Ex.new hp).trans (Ex.new h2)).trans (Ex.new h3)).trans (Ex.new h4)) e4 ?_
    rw [up_same, hns]; simp
  | @cons F _ A as' hF' =>
    walk_at "ws"
    refine ⟨⟨_, up_same⟩, _, up_same, small63' (by omega), ?_⟩
    refine hN as'.length _ _ (by rw [← hm]; simp) ⟨F, done ++ [A], as', rfl, hF', by rw [hns]; simp, ?_, rfl⟩
    rw [up_up]
end
theorem in_does {o A B : T} : InO (.tup [.str "does", o, A, B]) [o, A, B] := fun {n C Q χ} q => by
  refine u_inner_pieces rfl ?_
  unfold w_inner_pieces
  walk_at "ws"
  exact fun p hp => q p _ (Ex.new hp) hp up_same
theorem in_first {A B : T} : InO (.tup [.str "first", A, B]) [.str "first", A, B] := fun {n C Q χ} q => by
  refine u_inner_pieces rfl ?_
  unfold w_inner_pieces
  walk_at "ws"
  exact fun p hp => q p _ (Ex.new hp) hp up_same
theorem in_stop {x : T} : InO (.tup [.str "stop", x]) [.str "stop", x] := fun {n C Q χ} q => by
  refine u_inner_pieces rfl ?_
  unfold w_inner_pieces
  walk_at "ws"
  exact fun p hp => q p _ (Ex.new hp) hp up_same
theorem in_shape {c A B : T} : InO (.tup [.str "shape", c, .tup [A, B]]) [c, A, B] := fun {n C Q χ} q => by
  refine u_inner_pieces rfl ?_
  unfold w_inner_pieces
  walk_at "ws"
  intro p hp p2 h2
  obtain ⟨n2, e2⟩ := fr1 h2
  refine ⟨_, by rw [up_ne n2.symm]; exact up_same, _, up_same, small63 (by simp), fun p3 h3 => ?_⟩
  obtain ⟨n32, h32⟩ := fr1 h3
  obtain ⟨n31, e3⟩ := fr1 h32
  exact q p3 _ (((Ex.new hp).trans (Ex.new h2)).trans (Ex.new h3)) e3 (by rw [up_same]; rfl)
theorem in_fun {x B B0 : T} {ns : List Str} (h : FunCh (.tup [.str "fun", x, B]) ns B0) (hl : ns.length ≤ 50) : InO (.tup [.str "fun", x, B]) (.str "fun" :: (ns.map T.str ++ [B0])) := fun {n C Q χ} q => by
  refine u_inner_pieces rfl ?_
  unfold w_inner_pieces
  walk_at "ws"
  exact s_fun_pieces h hl q
theorem in_call {F A F0 : T} {as : List T} (h : CallCh (.tup [.str "call", F, A]) F0 as) (hl : as.length ≤ 50) : InO (.tup [.str "call", F, A]) (F0 :: as) := fun {n C Q χ} q => by
  refine u_inner_pieces rfl ?_
  unfold w_inner_pieces
  walk_at "ws"
  exact s_call_pieces h hl q
theorem in_let {B : T} {xs : List (T × T)} (h5 : xs.length ≤ 5) : InO (.tup [.str "let", .tup (xs.map fun x => .tup [x.1, x.2]), B]) (.str "let" :: ((xs.map fun x => [x.1, x.2]).flatMap br ++ [B])) := fun {n C Q χ} q => by
  refine u_inner_pieces rfl ?_
  unfold w_inner_pieces
  walk_at "ws"
  intro p hp
  refine comp_lists (fun t => match t with | .tup [a, b] => [a, b] | _ => []) (by rw [List.length_map]; omega) (fun x hx C1 hE N hN => ?_) fun rs C1 hE hl hr => ?_
  · obtain ⟨y, _, rfl⟩ := List.mem_map.mp hx
    walk_at "ws"
    exact fun r hr => hN r _ (Ex.new hr) hr up_same
  · intro p2 h2
    rw [List.length_map] at hl
    refine s_bracketed (gs := xs.map fun x => [x.1, x.2]) up_same (by rw [List.length_map]; exact hl) (by rw [List.length_map]; omega) (fun g hg => by obtain ⟨y, _, rfl⟩ := List.mem_map.mp hg; simp) (fun j r g hj hg => ?_) fun p3 C3 hE3 h3 hC3 => ?_
    · rw [List.getElem?_map] at hg
      cases hz : xs[j]? with
      | none => rw [hz] at hg; cases hg
      | some y =>
        rw [hz] at hg
        cases hg
        exact (Ex.new h2) _ _ (hr j (.tup [y.1, y.2]) r (by rw [List.getElem?_map, hz]; rfl) hj)
    · have hp2 := hE3 _ _ ((Ex.new h2) _ _ (hE _ _ (up_same (C := C) (a := p) (o := .lst [.str "let"]))))
      have hfl : ((xs.map fun x => [x.1, x.2]).flatMap br).length ≤ 20 := by
        have : ∀ l : List (T × T), ((l.map fun x => [x.1, x.2]).flatMap br).length = 4 * l.length := by
          intro l
          induction l with
          | nil => rfl
          | cons y l ih => rw [List.map_cons, List.flatMap_cons, List.length_append, ih]; simp [br]; omega
        rw [this]; omega
      refine ⟨_, hp2, _, hC3, small63 (by simp only [List.length_cons, List.length_nil]; omega), fun p4 h4 p5 h5 => ?_⟩
      obtain ⟨n5, e5⟩ := fr1 h5
      refine ⟨_, by rw [up_ne n5.symm]; exact up_same, _, up_same, small63 (by simp only [List.length_append, List.length_cons, List.length_nil]; omega), fun p6 h6 => ?_⟩
      have hall : Ex C _ := ((((((Ex.new hp).trans hE).trans (Ex.new h2)).trans hE3).trans (Ex.new h4)).trans (Ex.new h5)).trans (Ex.new (o := .lst ([.str "let"] ++ ((xs.map fun x => [x.1, x.2]).flatMap br) ++ [B])) h6)
      refine q p6 _ hall ?_ (by rw [up_same]; simp)
      exact ((((((Ex.new hp).trans hE).trans (Ex.new h2)).trans hE3).trans (Ex.new h4)).trans (Ex.new h5)).free h6
theorem in_choose {E : T} {ys : List (T × List T × T)} (h5 : ys.length ≤ 3) (h2' : ∀ y ∈ ys, y.2.1.length ≤ 2) : InO (.tup [.str "choose", E, .tup (ys.map fun y => .tup [y.1, .tup y.2.1, y.2.2])]) (.str "choose" :: E :: (ys.map fun y => y.1 :: (y.2.1 ++ [y.2.2])).flatMap br) := fun {n C Q χ} q => by
  refine u_inner_pieces rfl ?_
  unfold w_inner_pieces
  walk_at "ws"
  refine comp_lists (fun t => match t with | .tup [a, .tup l, b] => a :: (l ++ [b]) | _ => []) (by rw [List.length_map]; omega) (fun x hx C1 hE N hN => ?_) fun rs C1 hE hl hr => ?_
  · obtain ⟨y, hy, rfl⟩ := List.mem_map.mp hx
    have hy2 := h2' y hy
    walk_at "ws"
    intro b1 h1 b2 h2
    obtain ⟨n2, e2⟩ := fr1 h2
    refine ⟨_, by rw [up_ne n2.symm]; exact up_same, _, up_same, small63 (by simp; omega), fun b3 h3 b4 h4 => ?_⟩
    obtain ⟨n4, e4⟩ := fr1 h4
    refine ⟨_, by rw [up_ne n4.symm]; exact up_same, _, up_same, small63 (by simp; omega), fun b5 h5 => ?_⟩
    refine hN b5 _ (((((Ex.new h1).trans (Ex.new h2)).trans (Ex.new h3)).trans (Ex.new h4)).trans (Ex.new h5)) ?_ (by rw [up_same]; simp)
    exact ((((Ex.new h1).trans (Ex.new h2)).trans (Ex.new h3)).trans (Ex.new h4)).free h5
  · intro p2 h2 p h1
    rw [List.length_map] at hl
    obtain ⟨n1, e1⟩ := fr1 h1
    refine s_bracketed (gs := ys.map fun y => y.1 :: (y.2.1 ++ [y.2.2])) (by rw [up_ne n1.symm]; exact up_same) (by rw [List.length_map]; exact hl) (by rw [List.length_map]; omega) (fun g hg => by obtain ⟨y, hy, rfl⟩ := List.mem_map.mp hg; have := h2' y hy; simp; omega) (fun j r g hj hg => ?_) fun p3 C3 hE3 h3 hC3 => ?_
    · rw [List.getElem?_map] at hg
      cases hz : ys[j]? with
      | none => rw [hz] at hg; cases hg
      | some y =>
        rw [hz] at hg
        cases hg
        exact (Ex.new h1) _ _ ((Ex.new h2) _ _ (hr j (.tup [y.1, .tup y.2.1, y.2.2]) r (by rw [List.getElem?_map, hz]; rfl) hj))
    · have hfl : ((ys.map fun y => y.1 :: (y.2.1 ++ [y.2.2])).flatMap br).length ≤ 18 := by
        have : ∀ l : List (T × List T × T), (∀ y ∈ l, y.2.1.length ≤ 2) → ((l.map fun y => y.1 :: (y.2.1 ++ [y.2.2])).flatMap br).length ≤ 6 * l.length := by
          intro l
          induction l with
          | nil => simp
          | cons y l ih => intro h; have := h y (by simp); have := ih fun z hz => h z (by simp [hz]); rw [List.map_cons, List.flatMap_cons, List.length_append, List.length_cons]; have e : (br (y.1 :: (y.2.1 ++ [y.2.2]))).length = y.2.1.length + 4 := (by simp [br]); omega
        have := this ys h2'; omega
      refine ⟨_, hE3 _ _ up_same, _, hC3, small63 (by simp only [List.length_cons, List.length_nil]; omega), fun p4 h4 => ?_⟩
      have hall := (((hE.trans (Ex.new h2)).trans (Ex.new h1)).trans hE3)
      exact q p4 _ (hall.trans (Ex.new h4)) (hall.free h4) (by rw [up_same]; simp)
theorem in_rows {E : T} {zs : List (T × List T × T)} (h5 : zs.length ≤ 3) (h2' : ∀ y ∈ zs, y.2.1.length ≤ 1) : InO (.tup [.str "rows", E, .tup (zs.map stT)]) (.str "rows" :: E :: (zs.map fun y => y.1 :: (y.2.1 ++ [y.2.2])).flatMap br) := fun {n C Q χ} q => by
  refine u_inner_pieces rfl ?_
  unfold w_inner_pieces
  walk_at "ws"
  intro p h1
  refine comp_lists (fun t => match t with | .tup l => l | _ => []) (by rw [List.length_map]; omega) (fun x hx C1 hE N hN => ?_) fun rs C1 hE hl hr => ?_
  · obtain ⟨y, hy, rfl⟩ := List.mem_map.mp hx
    unfold stT
    walk_at "ws"
    exact fun r hr => hN r _ (Ex.new hr) hr up_same
  · intro p2 h2
    rw [List.length_map] at hl
    refine s_bracketed (gs := zs.map fun y => y.1 :: (y.2.1 ++ [y.2.2])) up_same (by rw [List.length_map]; exact hl) (by rw [List.length_map]; omega) (fun g hg => by obtain ⟨y, hy, rfl⟩ := List.mem_map.mp hg; have := h2' y hy; simp; omega) (fun j r g hj hg => ?_) fun p3 C3 hE3 h3 hC3 => ?_
    · rw [List.getElem?_map] at hg
      cases hz : zs[j]? with
      | none => rw [hz] at hg; cases hg
      | some y =>
        rw [hz] at hg
        cases hg
        exact (Ex.new h2) _ _ (hr j (stT y) r (by rw [List.getElem?_map, hz]; rfl) hj)
    · have hfl : ((zs.map fun y => y.1 :: (y.2.1 ++ [y.2.2])).flatMap br).length ≤ 18 := by
        have : ∀ l : List (T × List T × T), (∀ y ∈ l, y.2.1.length ≤ 1) → ((l.map fun y => y.1 :: (y.2.1 ++ [y.2.2])).flatMap br).length ≤ 6 * l.length := by
          intro l
          induction l with
          | nil => simp
          | cons y l ih => intro h; have := h y (by simp); have := ih fun z hz => h z (by simp [hz]); rw [List.map_cons, List.flatMap_cons, List.length_append, List.length_cons]; have e : (br (y.1 :: (y.2.1 ++ [y.2.2]))).length = y.2.1.length + 4 := (by simp [br]); omega
        have := this zs h2'; omega
      have hp2 := hE3 _ _ ((Ex.new h2) _ _ (hE _ _ (up_same (C := C) (a := p) (o := .lst [.str "rows", E]))))
      refine ⟨_, hp2, _, hC3, small63 (by simp only [List.length_cons, List.length_nil]; omega), fun p4 h4 => ?_⟩
      have hall := ((((Ex.new h1).trans hE).trans (Ex.new h2)).trans hE3)
      exact q p4 _ (hall.trans (Ex.new h4)) (hall.free h4) (by rw [up_same]; simp)
set_option Elab.async false
set_option linter.all false
set_option maxRecDepth 100000
set_option maxHeartbeats 4000000
open PySem PySem.Spec PyProof.Rows L2 WL
theorem wEq_tup {n : Bool} {C : Hw} {Q : WK} {a b : List T} : wEqG n (.tup a) (.tup b) C Q = (isFlat (.tup a) ∧ isFlat (.tup b) ∧ Q (.bl (if n = true then !eqTs a b else eqTs a b)) C) := by
  show (isFlat _ ∧ isFlat _ ∧ Q (.bl (if n = true then !WL.eqT (.tup a) (.tup b) else WL.eqT (.tup a) (.tup b))) C) = _
  rw [show WL.eqT (.tup a) (.tup b) = eqTs a b by unfold WL.eqT; rfl]
theorem flat_e : isFlat (.tup []) := flat_tup (n := 99) fun x hx => by cases hx
theorem pc_name {x : T} : PcO (.tup [.str "name", x]) [x] := fun {n C Q χ} q => by
  refine u_pieces_of rfl ?_
  unfold w_pieces_of
  walk_at "ws"
  exact fun p hp => q p _ (Ex.new hp) hp up_same
theorem pc_number {v : Int} (h0 : 0 ≤ v) (h1 : v < 10 ^ 18) : PcO (.tup [.str "number", .int v]) [.str (figs v)] := fun {n C Q χ} q => by
  refine u_pieces_of rfl ?_
  unfold w_pieces_of
  walk_at "ws"
  unfold bStr2
  refine .inl ⟨v, rfl, ?_, ?_⟩
  · have := log_lt (i := v.natAbs) (by omega); exact this
  · exact fun p hp => q p _ (Ex.new hp) hp up_same
theorem pc_shape0 {c : T} : PcO (.tup [.str "shape", c, .tup []]) [c] := fun {n C Q χ} q => by
  refine u_pieces_of rfl ?_
  unfold w_pieces_of
  walk_at "ws"
  rw [wEq_tup]
  refine ⟨flat_e, flat_e, true, by simp [eqTs], ?_⟩
  walk_at "ws"
  exact fun p hp => q p _ (Ex.new hp) hp up_same
theorem add2 {C : Hw} {Q : WK} {χ : WX} {n : Nat} {t : T} {qs : List T} (h : InO t qs) (hl : qs.length ≤ 1000) (q : Gv C Q (br qs)) :
    ∀ p, C p = none → wpc pr (n + 3) i_inner_pieces [t] (up C p (.lst [.str "("])) (fun y C2 => wAdd (.ref p) y C2 fun x C3 => ∀ p2, C3 p2 = none → wAdd x (.ref p2) (up C3 p2 (.lst [.str ")"])) Q) χ := fun p hp => by
  refine h fun p2 C2 hE h2 hC2 => ?_
  have hp2 := hE _ _ (up_same (C := C) (a := p) (o := .lst [.str "("]))
  refine ⟨_, _, hp2, hC2, small63 (by simp; omega), fun p3 h3 p4 h4 => ?_⟩
  obtain ⟨n4, e4⟩ := fr1 h4
  refine ⟨_, _, by rw [up_ne n4.symm]; exact up_same, up_same, small63 (by simp; omega), fun p5 h5 => ?_⟩
  have hall := (((Ex.new hp).trans hE).trans (Ex.new h3)).trans (Ex.new (o := .lst [.str ")"]) h4)
  exact q p5 _ (hall.trans (Ex.new h5)) (hall.free h5) (by rw [up_same]; simp [br])
theorem pc_in {w : Str} {r qs : List T} (h : InO (.tup (.str w :: r)) qs) (h1 : w ≠ "name") (h2 : w ≠ "number") (h3 : w ≠ "shape") (hl : qs.length ≤ 1000) : PcO (.tup (.str w :: r)) (br qs) := fun {n C Q χ} q => by
  refine u_pieces_of rfl ?_
  unfold w_pieces_of
  walk_at "ws"
  rw [if_neg h1, if_neg h2, if_neg h3]
  intro p hp
  have := add2 (χ := χ) (n := n) h hl q p hp
  simpa only [wAdd, exists_and_left] using this
theorem pc_shape2 {c A B : T} (hA : flat A 90 = true) (hB : flat B 90 = true) : PcO (.tup [.str "shape", c, .tup [A, B]]) (br [c, A, B]) := fun {n C Q χ} q => by
  refine u_pieces_of rfl ?_
  unfold w_pieces_of
  walk_at "ws"
  rw [wEq_tup]
  refine ⟨flat_mono _ (flat_tup (n := 90) fun x hx => by simp at hx; rcases hx with rfl | rfl <;> assumption) (by decide), flat_e, false, by simp [eqTs], ?_⟩
  walk_at "ws"
  intro p hp
  have := add2 (χ := χ) (n := n) (in_shape (c := c) (A := A) (B := B)) (by simp) q p hp
  simpa only [wAdd, exists_and_left] using this
set_option Elab.async false
set_option linter.all false
set_option maxRecDepth 100000
set_option maxHeartbeats 4000000
open PySem PySem.Spec PyProof.Rows L2 WL
mutual
inductive PW : T → List Str → Nat → Prop
  | str (w : Str) : PW (.str w) [w] 1
  | tm {l ps : List T} {ws : List Str} {k : Nat} (h : PcO (.tup l) ps) (hs : PWs ps ws k) (hn : ps ≠ []) : PW (.tup l) ws (k + 1)
inductive PWs : List T → List Str → Nat → Prop
  | nil : PWs [] [] 0
  | cons {t : T} {ts : List T} {ws ws' : List Str} {k k' : Nat} (h : PW t ws k) (hs : PWs ts ws' k') : PWs (t :: ts) (ws ++ ws') (k + k')
end
mutual
theorem PW.ne : ∀ {t : T} {ws : List Str} {k : Nat}, PW t ws k → ws ≠ []
  | _, _, _, .str w => by simp
  | _, _, _, .tm h hs hn => fun e => by
    have := PWs.len hs
    rw [e] at this
    exact hn (List.eq_nil_of_length_eq_zero (by simpa using this))
theorem PWs.len : ∀ {ts : List T} {ws : List Str} {k : Nat}, PWs ts ws k → ts.length ≤ ws.length
  | _, _, _, .nil => Nat.le_refl _
  | _, _, _, .cons h hs => by
    have h1 := List.length_pos_iff.mpr (PW.ne h)
    have h2 := PWs.len hs
    rw [List.length_cons, List.length_append]; omega
end
theorem PWs.app : ∀ {ts us : List T} {ws vs : List Str} {k j : Nat}, PWs ts ws k → PWs us vs j → PWs (ts ++ us) (ws ++ vs) (k + j)
  | _, _, _, _, _, _, .nil, h => by rw [Nat.zero_add]; exact h
  | _, _, _, _, _, _, .cons h hs, h' => by
    have := PWs.cons h (PWs.app hs h')
    rw [List.append_assoc, Nat.add_assoc]; exact this
theorem JL : ∀ {ws : List Str}, (∀ w ∈ ws, gw w = true) → (J ws).length ≤ 21 * ws.length ∧ (J1 ws).length ≤ 21 * ws.length
  | [], _ => by simp [J, J1]
  | [w], h => by
    have := gw_len (h w (by simp))
    have e : w.cps.toList.length = w.length := by simp [Str.length]
    show w.cps.toList.length ≤ _ ∧ w.cps.toList.length ≤ _
    rw [e, List.length_singleton]; omega
  | w :: v :: r, h => by
    have h1 := gw_len (h w (by simp))
    have ih := JL (ws := v :: r) fun u hu => h u (by simp [hu])
    have e : w.cps.toList.length = w.length := by simp [Str.length]
    have e2 : (if w = "(" then ([] : List Nat) else [32]).length ≤ 1 := by split <;> simp
    show (w.cps.toList ++ 32 :: J (v :: r)).length ≤ _ ∧ (w.cps.toList ++ (if w = "(" then [] else [32]) ++ J1 (v :: r)).length ≤ _
    rw [List.length_append, List.length_append, List.length_append, List.length_cons, e]
    rw [List.length_cons]
    omega
def shownS (ws : List Str) : Str := Txt.replace (Txt.replace (Txt.join (" " : Str) ws) ("( " : Str) ("(" : Str)) (" )" : Str) (")" : Str)
section
variable {C : Hw} {Q : WK} {χ : WX} {n : Nat}
theorem len_of {x : Str} {l : List Nat} {m : Nat} (h : x.cps.toList = l) (hl : l.length ≤ m) : x.length ≤ m := by
  have : x.length = x.cps.toList.length := by simp [Str.length]
  rw [this, h]; exact hl
theorem show_end {D : We} {a : Addr} {ws : List Str} {x0 x2 x3 : Option T} (ha : C a = some (.lst (ws.map T.str))) (hl : ws.length ≤ 5000) (hg : ∀ w ∈ ws, gw w = true) (q : D.rt (.str (shownS ws)) C) : w_show_t1 (wpc pr n) D [x0, some (.ref a), x2, x3] C := by
  unfold w_show_t1
  unfold eRepl
  walk_at "ws"
  unfold mJoin
  have h1 := J_len hg
  refine ⟨_, a, ws, rfl, rfl, ha, by decide, by omega, _, rfl, ?_, ?_, q⟩
  · exact Nat.le_trans (len_of (join_J ws) (JL hg).1) (by omega)
  · refine Nat.le_trans (len_of (l := J1 ws) (m := 21 * ws.length) ?_ (JL hg).2) (by omega)
    rw [replace_rep2 (a := 40) (b := 32) rfl, join_J, op_cps, rep_J hg]
theorem wNe_nil {p r : Addr} {ts : List T} {C : Hw} {Q : WK} (hp : C p = some (.lst ts)) (hr : C r = some (.lst [])) (q : Q (.bl (!ts.isEmpty)) C) : wEqG true (.ref p) (.ref r) C Q := by
  refine ⟨ts, [], hp, hr, fun h => ?_, ?_⟩
  · have : ts = [] := List.eq_nil_of_length_eq_zero h
    subst this
    exact ⟨by unfold flats; rfl, by unfold flats; rfl⟩
  · have : eqTs ts [] = ts.isEmpty := by cases ts <;> simp [eqTs]
    rw [if_pos rfl, this]; exact q
theorem s_show {l : List T} {ws : List Str} {k : Nat} (h : PW (.tup l) ws k) (hl : ws.length ≤ 5000) (hg : ∀ w ∈ ws, gw w = true) (q : ∀ C', Ex C C' → Q (.str (shownS ws)) C') : wpc pr (n + 5) i_show [.tup l] C Q χ := by
  refine u_show rfl ?_
  unfold w_show
  walk_at "ws"
  intro a ha p hp
  obtain ⟨npa, hp0⟩ := fr1 hp
  have hPs : PWs [T.tup l] ws (k + 0) := by
    have := PWs.cons h .nil
    rw [List.append_nil] at this; exact this
  refine while_inv (fun m τ C' => ∃ x3 ts acc ws2, τ = [some (.tup l), some (.ref a), some (.ref p), x3] ∧ Ex C C' ∧ C' a = some (.lst (List.map T.str acc)) ∧ C' p = some (.lst ts) ∧ PWs ts.reverse ws2 m ∧ ws = acc ++ ws2) (m := k + 0)
    ⟨none, [.tup l], [], ws, rfl, (Ex.new ha).trans (Ex.new hp), by rw [up_ne npa.symm]; exact up_same, up_same, hPs, rfl⟩ ?_
  rintro m τ C' N ⟨x3, ts, acc, ws2, rfl, hE, hCa, hCp, hW, hws⟩ hN
  have hal : acc.length ≤ 5000 := by rw [hws] at hl; simp at hl; omega
  have htl : ts.length ≤ 5000 := by have := hW.len; rw [List.length_reverse] at this; rw [hws] at hl; simp at hl; omega
  walk_at "ws"
  intro r hr
  refine wNe_nil ((Ex.new hr) _ _ hCp) up_same ⟨_, rfl, ?_⟩
  have hEr : Ex C' (up C' r (.lst [])) := Ex.new hr
  generalize up C' r (.lst []) = C1 at hEr
  have hCa1 := hEr _ _ hCa
  have hCp1 := hEr _ _ hCp
  have hE1 := hE.trans hEr
  rcases List.eq_nil_or_concat ts with rfl | ⟨ts', t, rfl⟩
  · have : ws2 = [] := by cases hW; rfl
    subst this
    rw [List.append_nil] at hws
    subst hws
    rw [if_neg (by decide)]
    exact show_end hCa1 hl hg (q _ hE1)
  · rw [List.concat_eq_append] at hCp hCp1 hW htl
    have hne : (!(ts'.concat t).isEmpty) = true := by rw [List.concat_eq_append]; simp
    rw [if_pos hne]
    rw [List.reverse_append, List.reverse_singleton, List.singleton_append] at hW
    have hp1 : (ts' ++ [t])[(ts' ++ [t]).length - 1]? = some t := by simp
    have hd1 : (ts' ++ [t]).dropLast = ts' := by simp
    have hpa : a ≠ p := npa.symm
    cases hW with
    | @cons _ _ w1 w2 k1 k2 h1 h2 =>
      cases h1 with
      | str w =>
        refine ⟨⟨_, hCp1⟩, _, hCp1, _, hp1, ?_⟩
        rw [hd1]
        walk_at "ws"
        refine ⟨true, by simp [tru, isCls], ?_⟩
        rw [if_pos rfl]
        have hCa2 : up C1 p (.lst ts') a = some (.lst (acc.map T.str)) := by rw [up_ne hpa]; exact hCa1
        refine ⟨⟨_, hCa2⟩, _, hCa2, small63' (by rw [List.length_map]; omega), hN k2 _ _ (by omega) ⟨_, ts', acc ++ [w], w2, rfl, (hE1.up hp0).up ha, by rw [up_same]; simp, by rw [up_ne hpa.symm]; exact up_same, h2, by rw [hws]; simp⟩⟩
      | @tm l' ps _ k1' hP hs hn =>
        refine ⟨⟨_, hCp1⟩, _, hCp1, _, hp1, ?_⟩
        rw [hd1]
        walk_at "ws"
        refine ⟨false, by simp [tru, isCls], ?_⟩
        rw [if_neg (by decide)]
        refine ⟨⟨_, up_same⟩, ?_⟩
        unfold eLRev
        walk_at "ws"
        refine hP fun b C3 hE3 hb hC3 => ?_
        refine ⟨b, rfl, ps, hC3, fun c hc => ?_⟩
        have hX : Ex (up C1 p (.lst ts')) (up C3 c (.lst ps.reverse)) := hE3.trans (Ex.new hc)
        have hPL : ps.length ≤ 5000 := by have := hs.len; rw [hws] at hl; simp at hl; omega
        unfold mExtend
        refine ⟨p, c, ts', ps.reverse, rfl, rfl, hX _ _ up_same, up_same, ?_, hN (k1' + k2) _ _ (by omega) ⟨_, ts' ++ ps.reverse, acc, w1 ++ w2, rfl, ?_, ?_, up_same, ?_, hws⟩⟩
        · simp at htl; rw [List.length_reverse]; exact small63 (by omega)
        · exact ((hE1.up hp0).trans hX).up hp0
        · rw [up_ne hpa]; exact hX _ _ (by rw [up_ne hpa]; exact hCa1)
        · rw [List.reverse_append, List.reverse_reverse]; exact hs.app h2
end
set_option Elab.async false
set_option linter.all false
set_option maxRecDepth 100000
set_option maxHeartbeats 4000000
open PySem PySem.Spec PyProof.Rows L2 WL
mutual
def Gt : Tr → Prop
  | .w x => gd x = true
  | .n ts => Gts ts
def Gts : List Tr → Prop
  | [] => True
  | t :: ts => Gt t ∧ Gts ts
end
theorem gd_nb {x : Str} (h : gd x = true) : x ≠ "(" ∧ x ≠ ")" := by
  obtain ⟨_, _, h⟩ := gd_cps h
  exact ⟨fun e => by subst e; exact (h 40 (by decide)).2.1 rfl, fun e => by subst e; exact (h 41 (by decide)).2.2.1 rfl⟩
mutual
theorem Gt.nb : ∀ {t : Tr}, Gt t → Nb t
  | .w x, h => by unfold Gt at h; unfold Nb; exact gd_nb h
  | .n ts, h => by unfold Gt at h; unfold Nb; exact Gts.nb h
theorem Gts.nb : ∀ {ts : List Tr}, Gts ts → Nbs ts
  | [], _ => by unfold Nbs; trivial
  | t :: ts, h => by unfold Gts at h; unfold Nbs; exact ⟨Gt.nb h.1, Gts.nb h.2⟩
end
mutual
theorem Gt.gb : ∀ {t : Tr}, Gt t → ∀ w ∈ fl t, gb w
  | .w x, h, w, hw => by unfold Gt at h; unfold fl at hw; rw [List.mem_singleton.mp hw]; exact .inr (.inr h)
  | .n ts, h, w, hw => by
    unfold Gt at h
    unfold fl at hw
    rcases List.mem_cons.mp hw with rfl | hw
    · exact .inl rfl
    rcases List.mem_append.mp hw with hw | hw
    · exact Gts.gb h w hw
    · rw [List.mem_singleton.mp hw]; exact .inr (.inl rfl)
theorem Gts.gb : ∀ {ts : List Tr}, Gts ts → ∀ w ∈ fls ts, gb w
  | [], _, w, hw => by unfold fls at hw; cases hw
  | t :: ts, h, w, hw => by
    unfold Gts at h
    unfold fls at hw
    rcases List.mem_append.mp hw with hw | hw
    · exact Gt.gb h.1 w hw
    · exact Gts.gb h.2 w hw
end
theorem gts_iff : ∀ {ts : List Tr}, Gts ts ↔ ∀ t ∈ ts, Gt t
  | [] => by unfold Gts; simp
  | t :: ts => by unfold Gts; rw [gts_iff]; simp
theorem gt_n {ts : List Tr} (h : ∀ t ∈ ts, Gt t) : Gt (.n ts) := by unfold Gt; exact gts_iff.mpr h
theorem gt_w {x : Str} (h : gd x = true) : Gt (.w x) := by unfold Gt; exact h
theorem isnm.gd {x : Str} (h : isnm x) : gd x = true := by
  obtain ⟨c, r, h1, h2, h3, h4, h5⟩ := id h
  have hs : ∀ d ∈ signs, (d != 32 && d != 40 && d != 41 && d != 10) = true := by decide +kernel
  unfold K17.gd
  rw [Bool.and_eq_true, Bool.and_eq_true, decide_eq_true_eq, decide_eq_true_eq, List.all_eq_true]
  have hl : x.length = r.length + 1 := by rw [← cps_len, h1, List.length_cons]
  exact ⟨⟨by omega, by omega⟩, fun d hd => hs d (h.all d hd)⟩
theorem isnm.hd {x : Str} (h : isnm x) : x ∉ heads := by
  intro hh
  have key : ∀ x ∈ heads, x ∈ nine ∨ ∀ c r, x.cps.toList = c :: r → c ∉ letters := by
    intro x hx
    have : x ∈ nine ∨ (x.cps.toList.head?.all fun c => decide (c ∉ letters)) = true := by
      revert x hx; decide +kernel
    rcases this with h | h
    · exact .inl h
    · refine .inr fun c r e => ?_
      rw [e] at h
      simpa using h
  obtain ⟨c, r, h1, h2, _, _, h5⟩ := h
  rcases key x hh with k | k
  · exact h5 k
  · exact k c r h1 h2
def bw (ws : List Str) : List Str := ("(" : Str) :: (ws ++ [(")" : Str)])
theorem gb.gw {w : Str} (h : gb w) : gw w = true := by
  rcases h with rfl | rfl | h
  · decide +kernel
  · decide +kernel
  · unfold gd at h
    rw [Bool.and_eq_true, Bool.and_eq_true, List.all_eq_true] at h
    unfold WL.gw
    rw [Bool.or_eq_true]
    right
    rw [Bool.and_eq_true, Bool.and_eq_true, List.all_eq_true]
    refine ⟨h.1, fun c hc => ?_⟩
    have := h.2 c hc
    unfold okc
    simp at this ⊢
    omega
structure Ok (f L : Nat) (t : T) (τ : Tr) : Prop where
  pw : ∃ k, PW t (fl τ) k
  rt : RT f τ t
  gt : Gt τ
  hd : HdOk τ
  ln : (fl τ).length ≤ L
def GW (f L : Nat) (t : T) : Prop := ∃ τ, Ok f L t τ
theorem Ok.mono {f g L M : Nat} {t : T} {τ : Tr} (h : Ok f L t τ) (hf : f ≤ g) (hl : L ≤ M) : Ok g M t τ := ⟨h.pw, @RT.mono f g τ t h.rt hf, h.gt, h.hd, Nat.le_trans h.ln hl⟩
theorem GW.mono {f g L M : Nat} {t : T} (h : GW f L t) (hf : f ≤ g) (hl : L ≤ M) : GW g M t := let ⟨τ, k⟩ := h; ⟨τ, k.mono hf hl⟩
inductive GT (f : Nat) : Nat → Nat → T → Prop
  | plain {d L : Nat} {w : Str} {r : List T} (g : GW f L (.tup (.str w :: r))) (h1 : w ≠ "fun") (h2 : w ≠ "call") : GT f d L (.tup (.str w :: r))
  | fun_ {d L M : Nat} {y : Str} {B : T} (g : GW f L (.tup [.str "fun", .str y, B])) (hy : isnm y) (hB : GT f d M B) (hl : M + 1 ≤ L) : GT f (d + 1) L (.tup [.str "fun", .str y, B])
  | call {d L M K : Nat} {F A : T} (g : GW f L (.tup [.str "call", F, A])) (hF : GT f d M F) (hA : GW f K A) (hl : M + K ≤ L) : GT f (d + 1) L (.tup [.str "call", F, A])
theorem GT.gw {f d L : Nat} {t : T} (h : GT f d L t) : GW f L t := by cases h <;> assumption
theorem GT.mono {f g d L : Nat} {t : T} (hf : f ≤ g) (h : GT f d L t) : ∀ {e M : Nat}, d ≤ e → L ≤ M → GT g e M t := by
  induction h with
  | plain k h1 h2 => intro e M he hM; exact .plain (k.mono hf hM) h1 h2
  | @fun_ d L M' y B k hy hB hl ih =>
    intro e M he hM
    obtain ⟨e', rfl⟩ : ∃ e', e = e' + 1 := ⟨e - 1, by omega⟩
    exact .fun_ (k.mono hf hM) hy (ih (by omega) (Nat.le_refl _)) (by omega)
  | @call d L M' K F A k hF hA hl ih =>
    intro e M he hM
    obtain ⟨e', rfl⟩ : ∃ e', e = e' + 1 := ⟨e - 1, by omega⟩
    exact .call (k.mono hf hM) (ih (by omega) (Nat.le_refl _)) (hA.mono hf (Nat.le_refl _)) (by omega)
theorem GT.tup {f d L : Nat} {t : T} (h : GT f d L t) : ∃ w r, t = .tup (.str w :: r) := by cases h <;> exact ⟨_, _, rfl⟩
theorem fp_of {f d L : Nat} {t : T} (h : GT f d L t) : ∃ ns B0 M, FunCh t ns B0 ∧ GW f M B0 ∧ ns.length ≤ d ∧ (∀ x ∈ ns, isnm x) ∧ ns.length + M ≤ L ∧ t = funs ns B0 := by
  induction h with
  | @plain d L w r k h1 h2 => exact ⟨[], _, L, .nil h1, k, Nat.zero_le _, by simp, by simp, rfl⟩
  | @fun_ d L M y B k hy hB hl ih =>
    obtain ⟨ns, B0, M', h1, h3, h4, h5, h6, h7⟩ := ih
    refine ⟨y :: ns, B0, M', .cons h1, h3, by simp; omega, fun x hx => ?_, by simp; omega, by rw [h7]; rfl⟩
    rcases List.mem_cons.mp hx with rfl | hx
    · exact hy
    · exact h5 x hx
  | @call d L M K F A k hF hA hl ih => exact ⟨[], _, L, .nil (by decide), k, Nat.zero_le _, by simp, by simp, rfl⟩
theorem cp_of {f d L : Nat} {t : T} (h : GT f d L t) : ∃ F0 M, ∃ zs : List (T × Tr), CallCh t F0 (zs.map (·.1)) ∧ GW f M F0 ∧ zs.length ≤ d ∧ (∀ z ∈ zs, Ok f L z.1 z.2) ∧ M + (zs.flatMap fun z => fl z.2).length ≤ L ∧ t = calls F0 (zs.map (·.1)) := by
  induction h with
  | @plain d L w r k h1 h2 => exact ⟨_, L, [], .nil h2, k, Nat.zero_le _, by simp, by simp, rfl⟩
  | @fun_ d L M y B k hy hB hl ih => exact ⟨_, L, [], .nil (by decide), k, Nat.zero_le _, by simp, by simp, rfl⟩
  | @call d L M K F A k hF hA hl ih =>
    obtain ⟨F0, M', zs, h1, h3, h4, h5, h6, h7⟩ := ih
    obtain ⟨τ, hτ⟩ := hA
    have lt := hτ.ln
    refine ⟨F0, M', zs ++ [(A, τ)], ?_, h3, by simp; omega, fun z hz => ?_, ?_, ?_⟩
    · rw [List.map_append]; exact .cons h1
    · rcases List.mem_append.mp hz with hz | hz
      · exact (h5 z hz).mono (Nat.le_refl _) (by omega)
      · rw [List.mem_singleton.mp hz]; exact hτ.mono (Nat.le_refl _) (by omega)
    · rw [List.flatMap_append, List.length_append, List.flatMap_cons, List.flatMap_nil, List.append_nil]; dsimp only; omega
    · rw [h7, List.map_append]
      unfold calls
      rw [List.foldl_append]; rfl
def Pz (q : T) (τ : Tr) : Prop := ∃ k, PW q (fl τ) k
theorem pws_br {qs : List T} {ws : List Str} (h : ∃ k, PWs qs ws k) : ∃ k, PWs (br qs) (bw ws) k := by
  obtain ⟨k, h⟩ := h
  have h3 := PWs.cons (.str "(") (h.app (PWs.cons (.str ")") .nil))
  exact ⟨_, h3⟩
theorem pws_app {qs rs : List T} {ws vs : List Str} (h : ∃ k, PWs qs ws k) (h' : ∃ k, PWs rs vs k) : ∃ k, PWs (qs ++ rs) (ws ++ vs) k := by
  obtain ⟨k, h⟩ := h
  obtain ⟨j, h'⟩ := h'
  exact ⟨_, h.app h'⟩
theorem pws_cons {q : T} {qs : List T} {ws vs : List Str} (h : ∃ k, PW q ws k) (h' : ∃ k, PWs qs vs k) : ∃ k, PWs (q :: qs) (ws ++ vs) k := by
  obtain ⟨k, h⟩ := h
  obtain ⟨j, h'⟩ := h'
  exact ⟨_, .cons h h'⟩
theorem pws_nil : ∃ k, PWs [] [] k := ⟨0, .nil⟩
theorem pw_str {w : Str} : ∃ k, PW (.str w) [w] k := ⟨1, .str w⟩
theorem pws_strs : ∀ (ns : List Str), ∃ k, PWs (ns.map T.str) ns k
  | [] => pws_nil
  | x :: ns => pws_cons (ws := [x]) pw_str (pws_strs ns)
set_option Elab.async false
set_option linter.all false
set_option maxRecDepth 100000
set_option maxHeartbeats 4000000
open PySem PySem.Spec PyProof.Rows L2 WL
open Classical in
noncomputable def tf (f L : Nat) (t : T) : Tr := if h : ∃ τ, Ok f L t τ then Classical.choose h else .w ""
theorem tf_ok {f L : Nat} {t : T} (h : GW f L t) : Ok f L t (tf f L t) := by
  have h' : ∃ τ, Ok f L t τ := h
  unfold tf
  rw [dif_pos h']
  exact Classical.choose_spec h'
theorem fl_n {ts : List Tr} : fl (.n ts) = bw (fls ts) := by rw [fl]; rfl
theorem fl_w {x : Str} : fl (.w x) = [x] := by rw [fl]
theorem fls_c {t : Tr} {ts : List Tr} : fls (t :: ts) = fl t ++ fls ts := by rw [fls]
theorem fls_0 : fls [] = [] := by rw [fls]
theorem pws_tr {q : T} {qs : List T} {τ : Tr} {τs : List Tr} (h : ∃ k, PW q (fl τ) k) (h' : ∃ k, PWs qs (fls τs) k) : ∃ k, PWs (q :: qs) (fls (τ :: τs)) k := by rw [fls_c]; exact pws_cons h h'
theorem pws_tr0 : ∃ k, PWs [] (fls []) k := by rw [fls_0]; exact pws_nil
theorem pw_trw {x : Str} : ∃ k, PW (.str x) (fl (.w x)) k := by rw [fl_w]; exact pw_str
section
variable {f L : Nat}
theorem gw_in {t : List T} {M : Nat} {qs : List T} {τs : List Tr} (hP : PcO (.tup t) (br qs)) (hq : ∃ k, PWs qs (fls τs) k) (hR : RT (f + 1) (.n τs) (.tup t)) (hG : ∀ τ ∈ τs, Gt τ) (hl : (fls τs).length + 2 ≤ M) : GW (f + 1) M (.tup t) := by
  refine ⟨.n τs, ?_, hR, gt_n hG, trivial, ?_⟩
  · rw [fl_n]
    obtain ⟨k, h⟩ := pws_br hq
    exact ⟨_, .tm hP h (by simp [br])⟩
  · rw [fl_n]; unfold bw
    simp only [List.length_cons, List.length_append, List.length_nil]
    omega
theorem gd_lit : ∀ w ∈ (["does", "+", "-", "*", "<", "=", "fun", "let", "choose", "first", "stop", "rows", "Cons", "Pair", "Nil", "No", "Yes", "in", "when", "be"] : List Str), gd w = true := by decide +kernel
theorem gt3 {w : Str} {α β : Tr} (hw : gd w = true) (ha : Gt α) (hb : Gt β) : ∀ τ ∈ [Tr.w w, α, β], Gt τ := fun τ h => by
  simp only [List.mem_cons, List.not_mem_nil, or_false] at h
  rcases h with rfl | rfl | rfl
  · exact gt_w hw
  · exact ha
  · exact hb
theorem fls3 {w : Str} {α β : Tr} : fls [.w w, α, β] = [w] ++ fl α ++ fl β := by rw [fls_c, fls_c, fls_c, fls_0, fl_w]; simp
theorem gw_3 {t : List T} {w : Str} {A B : T} {K : Nat} (hw : gd w = true) (hP : PcO (.tup t) (br [.str w, A, B])) (hA : GW f L A) (hB : GW f K B) (hR : ∀ α β, RT f α A → RT f β B → RT (f + 1) (.n [.w w, α, β]) (.tup t)) : GW (f + 1) (L + K + 3) (.tup t) := by
  obtain ⟨α, a⟩ := hA
  obtain ⟨β, c⟩ := hB
  have la := a.ln
  have lb := c.ln
  refine gw_in (τs := [.w w, α, β]) hP (pws_tr pw_trw (pws_tr a.pw (pws_tr c.pw pws_tr0))) (hR α β a.rt c.rt) (gt3 hw a.gt c.gt) ?_
  rw [fls3]; simp only [List.length_append, List.length_cons, List.length_nil]; omega
theorem gw_does {o : Str} {A B : T} {K : Nat} (ho : o ∈ ops) (hA : GW f L A) (hB : GW f K B) : GW (f + 1) (L + K + 3) (.tup [.str "does", .str o, A, B]) := by
  have key : ∀ o ∈ ops, gd o = true := by decide +kernel
  exact gw_3 (key o ho) (pc_in (w := "does") in_does (by decide) (by decide) (by decide) (by simp)) hA hB fun α β a b => rt_does ho a b
theorem gw_first {A B : T} {K : Nat} (hA : GW f L A) (hB : GW f K B) : GW (f + 1) (L + K + 3) (.tup [.str "first", A, B]) :=
  gw_3 (gd_lit _ (by decide)) (pc_in (w := "first") in_first (by decide) (by decide) (by decide) (by simp)) hA hB fun α β a b => rt_first a b
theorem gw_shape {c : Str} {A B : T} {K : Nat} (hc : c ∈ (["Cons", "Pair"] : List Str)) (fA : flat A 90 = true) (fB : flat B 90 = true) (hA : GW f L A) (hB : GW f K B) : GW (f + 1) (L + K + 3) (.tup [.str "shape", .str c, .tup [A, B]]) := by
  have key : ∀ o ∈ (["Cons", "Pair"] : List Str), gd o = true := by decide +kernel
  exact gw_3 (key c hc) (pc_shape2 fA fB) hA hB fun α β a b => rt_shape hc a b
theorem gw_stop {x : Str} (hx : isnm x) : GW (f + 1) 4 (.tup [.str "stop", .str x]) := by
  refine gw_in (τs := [.w "stop", .w x]) (pc_in (w := "stop") in_stop (by decide) (by decide) (by decide) (by simp)) (pws_tr pw_trw (pws_tr pw_trw pws_tr0)) (rt_stop hx) (fun τ h => ?_) (by rw [fls_c, fls_c, fls_0, fl_w, fl_w]; simp)
  simp only [List.mem_cons, List.not_mem_nil, or_false] at h
  rcases h with rfl | rfl
  · exact gt_w (gd_lit _ (by decide))
  · exact gt_w hx.gd
theorem gt_fun {x : Str} {B : T} {d : Nat} (hx : isnm x) (hB : GT f d L B) (hd : d ≤ 40) : GT (f + 1) (d + 1) (L + 4) (.tup [.str "fun", .str x, B]) := by
  refine .fun_ ?_ hx (hB.mono (Nat.le_succ f) (Nat.le_refl _) (Nat.le_refl _)) (by omega)
  obtain ⟨ns, B0, M, h1, h3, h4, h5, h6, h7⟩ := fp_of hB
  obtain ⟨τ, t⟩ := h3
  have lt := t.ln
  have hl : (x :: ns).length ≤ 50 := by rw [List.length_cons]; omega
  have ef : fls (.w "fun" :: ((x :: ns).map Tr.w ++ [τ])) = [("fun" : Str)] ++ ((x :: ns) ++ (fl τ ++ [])) := by
    rw [fls_c, fls_app, fls_ws, fls_c, fls_0, fl_w]
  have hc := FunCh.cons (x := x) h1
  refine gw_in (τs := .w "fun" :: ((x :: ns).map Tr.w ++ [τ])) (pc_in (w := "fun") (in_fun hc hl) (by decide) (by decide) (by decide) (by simp; omega)) ?_ ?_ (fun σ hs => ?_) ?_
  · rw [ef]
    exact pws_cons pw_str (pws_app (pws_strs (x :: ns)) (pws_cons t.pw pws_nil))
  · have this : RT (f + 1) (.n (.w "fun" :: ((x :: ns).map Tr.w ++ [τ]))) (funs (x :: ns) B0) := rt_fun (ns := x :: ns) (by simp) (by simp; omega) (fun y hy => (List.mem_cons.mp hy).elim (fun e => e ▸ hx) (h5 y)) t.rt
    have e2 : funs (x :: ns) B0 = .tup [.str "fun", .str x, B] := by rw [h7]; rfl
    rw [e2] at this
    exact @this
  · rcases List.mem_cons.mp hs with rfl | hs
    · exact gt_w (gd_lit _ (by decide))
    rcases List.mem_append.mp hs with hs | hs
    · obtain ⟨y, hy, rfl⟩ := List.mem_map.mp hs
      exact gt_w ((List.mem_cons.mp hy).elim (fun e => by rw [e]; exact hx.gd) fun h => (h5 y h).gd)
    · rw [List.mem_singleton.mp hs]; exact t.gt
  · rw [ef]; simp only [List.length_cons, List.length_append, List.length_nil]; omega
theorem gt_call {F A : T} {d K : Nat} (hF : GT f d L F) (hA : GW f K A) (hd : d ≤ 40) : GT (f + 1) (d + 1) (L + K + 2) (.tup [.str "call", F, A]) := by
  refine .call ?_ (hF.mono (Nat.le_succ f) (Nat.le_refl _) (Nat.le_refl _)) (hA.mono (Nat.le_succ f) (Nat.le_refl _)) (by omega)
  obtain ⟨F0, M, zs, h1, h3, h4, h5, h6, h7⟩ := cp_of hF
  obtain ⟨φ, p⟩ := h3
  obtain ⟨α, a⟩ := hA
  have lp := p.ln
  have la := a.ln
  have hfl : ∀ zs : List (T × Tr), fls (zs.map (·.2)) = zs.flatMap fun z => fl z.2 := by
    intro zs
    induction zs with
    | nil => rw [List.map_nil, fls_0]; rfl
    | cons z zs ih => rw [List.map_cons, List.flatMap_cons, ← ih, fls_c]
  have hps : ∀ zs : List (T × Tr), (∀ z ∈ zs, Ok f L z.1 z.2) → ∃ k, PWs (zs.map (·.1)) (fls (zs.map (·.2))) k := by
    intro zs
    induction zs with
    | nil => exact fun _ => pws_tr0
    | cons z zs ih => exact fun h => pws_tr (h z (by simp)).pw (ih fun y hy => h y (by simp [hy]))
  have ef : fls (φ :: (zs.map (·.2) ++ [α])) = fl φ ++ (fls (zs.map (·.2)) ++ (fl α ++ [])) := by
    rw [fls_c, fls_app, fls_c, fls_0]
  have hc := CallCh.cons (A := A) h1
  refine gw_in (τs := φ :: (zs.map (·.2) ++ [α])) (pc_in (w := "call") (in_call hc (by simp; omega)) (by decide) (by decide) (by decide) (by simp; omega)) ?_ ?_ (fun σ hs => ?_) ?_
  · rw [ef]
    exact pws_cons p.pw (pws_app (hps zs h5) (pws_cons a.pw pws_nil))
  · have this : RT (f + 1) (.n (φ :: (zs.map (fun z => (z.2, z.1)) ++ [(α, A)]).map (·.1))) (calls F0 ((zs.map (fun z => (z.2, z.1)) ++ [(α, A)]).map (·.2))) := rt_call (zs := zs.map (fun z => (z.2, z.1)) ++ [(α, A)]) p.hd (by simp) (by simp; omega) p.rt (fun z hz => by
      rcases List.mem_append.mp hz with hz | hz
      · obtain ⟨y, hy, rfl⟩ := List.mem_map.mp hz
        exact (h5 y hy).rt
      · rw [List.mem_singleton.mp hz]; exact a.rt)
    have e1 : (zs.map (fun z => (z.2, z.1)) ++ [(α, A)]).map (·.1) = zs.map (·.2) ++ [α] := by rw [List.map_append, List.map_map]; rfl
    have e2 : calls F0 ((zs.map (fun z => (z.2, z.1)) ++ [(α, A)]).map (·.2)) = .tup [.str "call", F, A] := by
      rw [List.map_append, List.map_map, h7]
      unfold calls
      rw [List.foldl_append]; rfl
    rw [e1, e2] at this
    exact @this
  · rcases List.mem_cons.mp hs with rfl | hs
    · exact p.gt
    rcases List.mem_append.mp hs with hs | hs
    · obtain ⟨y, hy, rfl⟩ := List.mem_map.mp hs
      exact (h5 y hy).gt
    · rw [List.mem_singleton.mp hs]; exact a.gt
  · rw [ef, hfl]; simp only [List.length_append, List.length_nil]; omega
end
set_option Elab.async false
set_option linter.all false
set_option maxRecDepth 100000
set_option maxHeartbeats 4000000
open PySem PySem.Spec PyProof.Rows L2 WL
abbrev Al := Str × List Str × T
def alT (a : Al) : T := .tup [.str a.1, .tup (a.2.1.map T.str), a.2.2]
def spT (a : Al) : T := .tup (.str a.1 :: (a.2.1.map T.str ++ [a.2.2]))
def cvA (a : Al) : T × List T × T := (T.str a.1, a.2.1.map T.str, a.2.2)
section
variable {f L : Nat}
theorem fls_all {α : Type} {g : α → Tr} {c : Nat} : ∀ {l : List α}, (∀ a ∈ l, (fl (g a)).length ≤ c) → (fls (l.map g)).length ≤ c * l.length
  | [], _ => by rw [List.map_nil, fls_0]; simp
  | a :: l, h => by
    have ih := fls_all (l := l) fun b hb => h b (by simp [hb])
    have h1 := h a (by simp)
    rw [List.map_cons, fls_c, List.length_append, List.length_cons, Nat.mul_add]
    omega
noncomputable def lpOf (f L : Nat) (x : Str × T) : Lp := (x.1, tf f L x.2, x.2)
theorem lp_pws : ∀ {xs : List (Str × T)}, (∀ x ∈ xs, Ok f L x.2 (tf f L x.2)) → ∃ k, PWs ((xs.map fun x => [T.str x.1, x.2]).flatMap br) (fls ((xs.map (lpOf f L)).map lpTr)) k
  | [], _ => pws_tr0
  | x :: xs, h => by
    rw [List.map_cons, List.flatMap_cons, List.map_cons, List.map_cons, fls_c]
    refine pws_app ?_ (lp_pws fun y hy => h y (by simp [hy]))
    unfold lpTr lpOf
    rw [fl_n]
    exact pws_br (pws_tr pw_trw (pws_tr (h x (by simp)).pw pws_tr0))
theorem gw_let {xs : List (Str × T)} {B : T} (h1 : 1 ≤ xs.length) (h5 : xs.length ≤ 5) (hn : (xs.map (·.1)).Nodup) (hx : ∀ x ∈ xs, isnm x.1 ∧ GW f L x.2) (hB : GW f L B) : GW (f + 1) (6 * L + 30) (.tup [.str "let", .tup (xs.map fun x => .tup [.str x.1, x.2]), B]) := by
  have oB := tf_ok hB
  have ox : ∀ x ∈ xs, Ok f L x.2 (tf f L x.2) := fun x h => tf_ok (hx x h).2
  have lB := oB.ln
  have lx : (fls ((xs.map (lpOf f L)).map lpTr)).length ≤ (L + 3) * xs.length := by
    rw [List.map_map]
    refine fls_all fun x hx' => ?_
    have := (ox x hx').ln
    show (fl (.n [.w x.1, tf f L x.2])).length ≤ _
    rw [fl_n, fls_c, fls_c, fls_0, fl_w]
    simp only [bw, List.length_cons, List.length_append, List.length_nil]; omega
  have lx2 : (L + 3) * xs.length ≤ (L + 3) * 5 := Nat.mul_le_mul_left _ h5
  have hI : InO (.tup [.str "let", .tup (xs.map fun x => .tup [.str x.1, x.2]), B]) (.str "let" :: ((xs.map fun x => [T.str x.1, x.2]).flatMap br ++ [B])) := by
    have := @in_let B (xs.map fun x => (T.str x.1, x.2)) (by rw [List.length_map]; exact h5)
    rw [List.map_map, List.map_map] at this
    exact @this
  have hlen : ((xs.map fun x => [T.str x.1, x.2]).flatMap br).length ≤ 4 * xs.length := by
    have : ∀ xs : List (Str × T), ((xs.map fun x => [T.str x.1, x.2]).flatMap br).length = 4 * xs.length := fun xs => by
      induction xs with
      | nil => rfl
      | cons x xs ih => rw [List.map_cons, List.flatMap_cons, List.length_append, ih]; simp [br]; omega
    rw [this xs]; exact Nat.le_refl _
  refine gw_in (τs := .w "let" :: ((xs.map (lpOf f L)).map lpTr ++ [tf f L B])) (pc_in (w := "let") hI (by decide) (by decide) (by decide) (by simp only [List.length_cons, List.length_append, List.length_nil]; omega)) ?_ ?_ (fun σ hs => ?_) ?_
  · refine pws_tr pw_trw ?_
    rw [fls_app]
    exact pws_app (lp_pws ox) (pws_tr oB.pw pws_tr0)
  · have this : RT (f + 1) (.n (.w "let" :: ((xs.map (lpOf f L)).map lpTr ++ [tf f L B]))) (.tup [.str "let", .tup ((xs.map (lpOf f L)).map lpT), B]) := rt_let (by rw [List.length_map]; exact h1) (by rw [List.length_map]; exact h5) (by rw [List.map_map]; exact hn) (fun y hy => by
      obtain ⟨x, hx', rfl⟩ := List.mem_map.mp hy
      exact ⟨(hx x hx').1, (ox x hx').rt⟩) oB.rt
    have e2 : (xs.map (lpOf f L)).map lpT = xs.map fun x => .tup [.str x.1, x.2] := by rw [List.map_map]; rfl
    rw [e2] at this
    exact @this
  · rcases List.mem_cons.mp hs with rfl | hs
    · exact gt_w (gd_lit _ (by decide))
    rcases List.mem_append.mp hs with hs | hs
    · obtain ⟨y, hy, rfl⟩ := List.mem_map.mp hs
      obtain ⟨x, hx', rfl⟩ := List.mem_map.mp hy
      refine gt_n fun τ h => ?_
      simp only [List.mem_cons, List.not_mem_nil, or_false] at h
      rcases h with rfl | rfl
      · exact gt_w (hx x hx').1.gd
      · exact (ox x hx').gt
    · rw [List.mem_singleton.mp hs]; exact oB.gt
  · rw [fls_c, fls_app, fls_c, fls_0, fl_w]; simp only [List.length_cons, List.length_append, List.length_nil]; omega
noncomputable def apOf (f L : Nat) (a : Al) : Ap := (a.1, a.2.1, tf f L a.2.2, a.2.2)
def alP (a : Al) : List T := T.str a.1 :: (a.2.1.map T.str ++ [a.2.2])
theorem ap_pws : ∀ {als : List Al}, (∀ a ∈ als, Ok f L a.2.2 (tf f L a.2.2)) → ∃ k, PWs ((als.map alP).flatMap br) (fls ((als.map (apOf f L)).map apTr)) k
  | [], _ => pws_tr0
  | a :: als, h => by
    rw [List.map_cons, List.flatMap_cons, List.map_cons, List.map_cons, fls_c]
    refine pws_app ?_ (ap_pws fun y hy => h y (by simp [hy]))
    unfold apTr apOf
    rw [fl_n]
    refine pws_br (pws_tr pw_trw ?_)
    rw [fls_app, fls_ws]
    exact pws_app (pws_strs _) (pws_tr (h a (by simp)).pw pws_tr0)
theorem alP_len {als : List Al} (h : ∀ a ∈ als, a.2.1.length ≤ 2) : ((als.map alP).flatMap br).length ≤ 6 * als.length := by
  induction als with
  | nil => simp
  | cons a als ih =>
    have h1 := h a (by simp)
    have h2 := ih fun b hb => h b (by simp [hb])
    rw [List.map_cons, List.flatMap_cons, List.length_append, List.length_cons, Nat.mul_add]
    simp only [br, alP, List.length_cons, List.length_append, List.length_map, List.length_nil] at *; omega
theorem gw_als {w : Str} {r : List T} {E : T} {als : List Al} (hw : gd w = true) (h3 : als.length ≤ 3) (h : ∀ a ∈ als, a.2.1.length ≤ 2 ∧ gd a.1 = true ∧ (∀ x ∈ a.2.1, gd x = true) ∧ GW f L a.2.2) (hE : GW f L E)
    (hI : PcO (.tup (.str w :: r)) (br (.str w :: E :: (als.map alP).flatMap br))) (hR : (∀ a ∈ als, Ok f L a.2.2 (tf f L a.2.2)) → Ok f L E (tf f L E) → RT (f + 1) (.n (.w w :: tf f L E :: (als.map (apOf f L)).map apTr)) (.tup (.str w :: r))) :
    GW (f + 1) (6 * L + 30) (.tup (.str w :: r)) := by
  have oE := tf_ok hE
  have ox : ∀ a ∈ als, Ok f L a.2.2 (tf f L a.2.2) := fun a ha => tf_ok (h a ha).2.2.2
  have i2 : RT (f + 1) (.n (.w w :: tf f L E :: (als.map (apOf f L)).map apTr)) (.tup (.str w :: r)) := fun {n C Q χ v} hv q => hR ox oE hv q
  have lE := oE.ln
  have lx : (fls ((als.map (apOf f L)).map apTr)).length ≤ (L + 5) * als.length := by
    rw [List.map_map]
    refine fls_all fun a ha => ?_
    have h1 := (h a ha).1
    have := (ox a ha).ln
    show (fl (.n (.w a.1 :: (a.2.1.map Tr.w ++ [tf f L a.2.2])))).length ≤ _
    rw [fl_n, fls_c, fls_app, fls_ws, fls_c, fls_0, fl_w]
    simp only [bw, List.length_cons, List.length_append, List.length_nil]; omega
  have lx2 : (L + 5) * als.length ≤ (L + 5) * 3 := Nat.mul_le_mul_left _ h3
  refine gw_in (τs := .w w :: tf f L E :: (als.map (apOf f L)).map apTr) hI (pws_tr pw_trw (pws_tr oE.pw (ap_pws ox))) @i2 (fun σ hs => ?_) ?_
  · rcases List.mem_cons.mp hs with rfl | hs
    · exact gt_w hw
    rcases List.mem_cons.mp hs with rfl | hs
    · exact oE.gt
    obtain ⟨y, hy, rfl⟩ := List.mem_map.mp hs
    obtain ⟨a, ha, rfl⟩ := List.mem_map.mp hy
    obtain ⟨_, m2, m3, _⟩ := h a ha
    refine gt_n fun τ ht => ?_
    rcases List.mem_cons.mp ht with rfl | ht
    · exact gt_w m2
    rcases List.mem_append.mp ht with ht | ht
    · obtain ⟨x, hx, rfl⟩ := List.mem_map.mp ht
      exact gt_w (m3 x hx)
    · rw [List.mem_singleton.mp ht]; exact (ox a ha).gt
  · rw [fls_c, fls_c, fl_w]; simp only [List.length_cons, List.length_append, List.length_nil]; omega
theorem gw_choose {E : T} {als : List Al} (h3 : als.length ≤ 3) (hf : als.map (·.1) ∈ fams) (h : ∀ a ∈ als, a.2.1.length ≤ 2 ∧ (∀ x ∈ a.2.1, isnm x) ∧ a.2.1.Nodup ∧ g_SHAPES.lookup a.1 = some (a.2.1.length : Int) ∧ gd a.1 = true ∧ GW f L a.2.2) (hE : GW f L E) :
    GW (f + 1) (6 * L + 30) (.tup [.str "choose", E, .tup (als.map alT)]) := by
  have ln := alP_len (als := als) fun a ha => (h a ha).1
  have hI : InO (.tup [.str "choose", E, .tup (als.map alT)]) (.str "choose" :: E :: (als.map alP).flatMap br) := by
    have := @in_choose E (als.map cvA) (by rw [List.length_map]; exact h3) (fun y hy => by
      obtain ⟨a, ha, rfl⟩ := List.mem_map.mp hy
      show (a.2.1.map T.str).length ≤ 2
      rw [List.length_map]; exact (h a ha).1)
    rw [List.map_map, List.map_map] at this
    exact @this
  refine gw_als (gd_lit _ (by decide)) h3 (fun a ha => ⟨(h a ha).1, (h a ha).2.2.2.2.1, fun x hx => ((h a ha).2.1 x hx).gd, (h a ha).2.2.2.2.2⟩) hE (pc_in (w := "choose") hI (by decide) (by decide) (by decide) (by simp only [List.length_cons]; omega)) fun ox oE => ?_
  have this : RT (f + 1) (.n (.w "choose" :: tf f L E :: (als.map (apOf f L)).map apTr)) (.tup [.str "choose", E, .tup ((als.map (apOf f L)).map apT)]) := rt_choose (by rw [List.length_map]; exact h3) (by rw [List.map_map]; exact hf) (fun y hy => by
    obtain ⟨a, ha, rfl⟩ := List.mem_map.mp hy
    obtain ⟨m1, m2, m3, m4, m5, m6⟩ := h a ha
    exact ⟨m2, m3, m4, m1, (ox a ha).rt⟩) oE.rt
  have e2 : (als.map (apOf f L)).map apT = als.map alT := by rw [List.map_map]; rfl
  rw [e2] at this
  exact @this
theorem gw_rows {E : T} {als : List Al} (h3 : als.length ≤ 3) (h : ∀ a ∈ als, ((a.1 = "when" ∧ a.2.1 = []) ∨ ∃ y, (a.1 = "in" ∨ a.1 = "be") ∧ a.2.1 = [y] ∧ isnm y) ∧ GW f L a.2.2) (hE : GW f L E) :
    GW (f + 1) (6 * L + 30) (.tup [.str "rows", E, .tup (als.map spT)]) := by
  have k1 : ∀ a ∈ als, a.2.1.length ≤ 1 := fun a ha => by
    rcases (h a ha).1 with ⟨_, e⟩ | ⟨y, _, e, _⟩ <;> rw [e] <;> simp
  have ln := alP_len (als := als) fun a ha => by have := k1 a ha; omega
  have hI : InO (.tup [.str "rows", E, .tup (als.map spT)]) (.str "rows" :: E :: (als.map alP).flatMap br) := by
    have := @in_rows E (als.map cvA) (by rw [List.length_map]; exact h3) (fun y hy => by
      obtain ⟨a, ha, rfl⟩ := List.mem_map.mp hy
      show (a.2.1.map T.str).length ≤ 1
      rw [List.length_map]; exact k1 a ha)
    rw [List.map_map, List.map_map] at this
    exact @this
  refine gw_als (gd_lit _ (by decide)) h3 (fun a ha => ⟨by have := k1 a ha; omega, ?_, fun x hx => ?_, (h a ha).2⟩) hE (pc_in (w := "rows") hI (by decide) (by decide) (by decide) (by simp only [List.length_cons]; omega)) fun ox oE => ?_
  · rcases (h a ha).1 with ⟨e, _⟩ | ⟨y, e | e, _, _⟩ <;> rw [e] <;> exact gd_lit _ (by decide)
  · rcases (h a ha).1 with ⟨_, e⟩ | ⟨y, _, e, hy⟩
    · rw [e] at hx; cases hx
    · rw [e] at hx; rw [List.mem_singleton.mp hx]; exact hy.gd
  · have this : RT (f + 1) (.n (.w "rows" :: tf f L E :: (als.map (apOf f L)).map apTr)) (.tup [.str "rows", E, .tup ((als.map (apOf f L)).map stpT)]) := rt_rows (by rw [List.length_map]; exact h3) (fun y hy => by
      obtain ⟨a, ha, rfl⟩ := List.mem_map.mp hy
      exact ⟨(h a ha).1, (ox a ha).rt⟩) oE.rt
    have e2 : (als.map (apOf f L)).map stpT = als.map spT := by rw [List.map_map]; rfl
    rw [e2] at this
    exact @this
theorem spare_nm : ∀ x ∈ spare, isnm x := by
  intro x hx
  have key : ∀ x ∈ spare, (match x.cps.toList with | c :: r => decide (c ∈ letters) && r.all (fun d => decide (d ∈ signs)) | [] => false) = true ∧ x.length ≤ 8 ∧ x ∉ nine := by decide +kernel
  obtain ⟨k1, k2, k3⟩ := key x hx
  cases e : x.cps.toList with
  | nil => rw [e] at k1; cases k1
  | cons c r =>
    rw [e] at k1
    rw [Bool.and_eq_true, decide_eq_true_eq, List.all_eq_true] at k1
    exact ⟨c, r, e, k1.1, fun d hd => by simpa using k1.2 d hd, k2, k3⟩
theorem gw_leaf {ps : List Str} (hps : ∀ x ∈ ps, isnm x) {t : T} (h : Lf ps t) (d : Nat) : GT 1 d 4 t := by
  cases h with
  | @num v h0 h1 =>
    obtain ⟨hf, _⟩ := figs_fg h0 h1
    obtain ⟨c, r, e1, e2, e3, _⟩ := hf
    refine .plain ⟨.w (figs v), ⟨_, .tm (pc_number h0 h1) (by rw [fl_w]; exact .cons (.str _) .nil) (by simp)⟩, fun {n C Q χ u} hu q => ?_, gt_w ?_, ?_, by rw [fl_w]; simp⟩ (by decide) (by decide)
    · cases of_w hu
      exact s_term_w (n := n + 6) (t := .non) (s_word_num (n := n + 4) h0 h1 q)
    · have hs : ∀ d ∈ figures, (d != 32 && d != 40 && d != 41 && d != 10) = true := by decide +kernel
      unfold gd
      rw [Bool.and_eq_true, Bool.and_eq_true, decide_eq_true_eq, decide_eq_true_eq, List.all_eq_true]
      have hl : (figs v).length = r.length + 1 := by rw [← cps_len, e1, List.length_cons]
      exact ⟨⟨by omega, by omega⟩, fun d hd => hs d (e2 d hd)⟩
    · intro hh
      have key : ∀ x ∈ heads, (x.cps.toList.head?.all fun c => decide (c ∉ figures)) = true := by decide +kernel
      have := key _ hh
      rw [e1] at this
      have h3 : c ∉ figures := by simpa using this
      exact h3 (e2 c (by rw [e1]; simp))
  | @shp w h =>
    have key : ∀ w ∈ (["Nil", "No", "Yes"] : List Str), gd w = true ∧ w ∉ heads := by decide +kernel
    refine .plain ⟨.w w, ⟨_, .tm pc_shape0 (by rw [fl_w]; exact .cons (.str _) .nil) (by simp)⟩, fun {n C Q χ u} hu q => ?_, gt_w (key w h).1, (key w h).2, by rw [fl_w]; simp⟩ (by decide) (by decide)
    cases of_w hu
    exact s_term_w (n := n + 6) (t := .non) (s_word_shp (n := n + 4) h q)
  | @stop w h => exact .plain (gw_stop (hps w h)) (by decide) (by decide)
  | @name w h =>
    refine .plain ⟨.w w, ⟨_, .tm pc_name (by rw [fl_w]; exact .cons (.str _) .nil) (by simp)⟩, fun {n C Q χ u} hu q => ?_, gt_w (hps w h).gd, (hps w h).hd, by rw [fl_w]; simp⟩ (by decide) (by decide)
    cases of_w hu
    exact s_term_w (n := n + 6) (t := .non) (s_word_name (n := n + 4) (hps w h) q)
end
set_option Elab.async false
set_option linter.all false
set_option maxRecDepth 100000
set_option maxHeartbeats 4000000
open PySem PySem.Spec PyProof.Rows L2 WL
theorem als_of {ps : List Str} (hps : ∀ x ∈ ps, isnm x) : ∀ {zs : List (T × List T × T)}, (∀ z ∈ zs, StepOk ps z) → ∃ als : List Al, zs = als.map cvA ∧ ∀ a ∈ als, (a.1 = "when" ∧ a.2.1 = []) ∨ ∃ y, (a.1 = "in" ∨ a.1 = "be") ∧ a.2.1 = [y] ∧ isnm y
  | [], _ => ⟨[], rfl, by simp⟩
  | z :: zs, h => by
    obtain ⟨als, e, ho⟩ := als_of hps (zs := zs) fun y hy => h y (by simp [hy])
    obtain ⟨z1, z2, z3⟩ := z
    rcases h _ (List.mem_cons_self ..) with ⟨h1, h2⟩ | ⟨w, x, hw, hx, h1, h2⟩
    · dsimp only at h1 h2
      subst h1 h2
      refine ⟨("when", [], z3) :: als, by rw [List.map_cons, ← e]; rfl, fun a ha => ?_⟩
      rcases List.mem_cons.mp ha with rfl | ha
      · exact .inl ⟨rfl, rfl⟩
      · exact ho a ha
    · dsimp only at h1 h2
      subst h1 h2
      refine ⟨(w, [x], z3) :: als, by rw [List.map_cons, ← e]; rfl, fun a ha => ?_⟩
      rcases List.mem_cons.mp ha with rfl | ha
      · refine .inr ⟨x, ?_, rfl, hps x hx⟩
        simp only [List.mem_cons, List.not_mem_nil, or_false] at hw
        exact hw
      · exact ho a ha
theorem sh_Nil : g_SHAPES.lookup ("Nil" : Str) = some 0 ∧ gd "Nil" = true := by decide +kernel
theorem sh_Cons : g_SHAPES.lookup ("Cons" : Str) = some 2 ∧ gd "Cons" = true := by decide +kernel
theorem sh_No : g_SHAPES.lookup ("No" : Str) = some 0 ∧ gd "No" = true := by decide +kernel
theorem sh_Yes : g_SHAPES.lookup ("Yes" : Str) = some 0 ∧ gd "Yes" = true := by decide +kernel
theorem sh_Pair : g_SHAPES.lookup ("Pair" : Str) = some 2 ∧ gd "Pair" = true := by decide +kernel
theorem join_gt {ps : List Str} {f d L : Nat} {s dd : Int} {ts : List T} {t : T} (hps : ∀ x ∈ ps, isnm x) (hJ : Jn ps s dd ts t) (ht : ∀ x ∈ ts, GT f d L x) (hfl : ∀ x ∈ ts, flat x 90 = true) (hd : d ≤ 39) (h4 : 4 ≤ L) : GT (f + 1) (d + 1) (6 * L + 30) t := by
  have nm : ∀ x, x ∈ ps ∨ x ∈ spare → isnm x := fun x hx => hx.elim (hps x) (spare_nm x)
  cases hJ with
  | @does _ op A B r h => exact .plain ((gw_does h (ht A (by simp)).gw (ht B (by simp)).gw).mono (Nat.le_refl _) (by omega)) (by decide) (by decide)
  | @fun_ _ x A r h => exact (gt_fun (hps x h) (ht A (by simp)) (by omega)).mono (Nat.le_refl _) (Nat.le_refl _) (by omega)
  | @call _ A B r => exact (gt_call (ht A (by simp)) (ht B (by simp)).gw (by omega)).mono (Nat.le_refl _) (Nat.le_refl _) (by omega)
  | @first _ A B r => exact .plain ((gw_first (ht A (by simp)).gw (ht B (by simp)).gw).mono (Nat.le_refl _) (by omega)) (by decide) (by decide)
  | @shape _ w A B r h => exact .plain ((gw_shape h (hfl A (by simp)) (hfl B (by simp)) (ht A (by simp)).gw (ht B (by simp)).gw).mono (Nat.le_refl _) (by omega)) (by decide) (by decide)
  | @let_ _ zs us B h hz hl' h1 h5 =>
    refine .plain (gw_let (by rw [List.length_zip]; omega) (by rw [List.length_zip]; omega) ?_ (fun x hx => ?_) (ht B (by simp)).gw) (by decide) (by decide)
    · have e : (zs.zip us).map (·.1) = zs := by
        have := List.map_fst_zip (l₁ := zs) (l₂ := us) (by omega)
        exact this
      rw [e]; exact h
    · have := List.of_mem_zip (a := x.1) (b := x.2) hx
      exact ⟨nm _ (hz _ this.1), (ht _ (List.mem_append_left _ this.2)).gw⟩
  | @ch0 _ x y E A B r hd hx hy hn =>
    refine .plain (gw_choose (als := [("Nil", [], A), ("Cons", [x, y], B)]) (by simp) (by simp [fams]) (fun a ha => ?_) (ht E (by simp)).gw) (by decide) (by decide)
    simp only [List.mem_cons, List.not_mem_nil, or_false] at ha
    rcases ha with rfl | rfl
    · exact ⟨by simp, by simp, by simp, sh_Nil.1, sh_Nil.2, (ht A (by simp)).gw⟩
    · refine ⟨by simp, fun z hz => ?_, by simpa using hn, sh_Cons.1, sh_Cons.2, (ht B (by simp)).gw⟩
      simp only [List.mem_cons, List.not_mem_nil, or_false] at hz
      rcases hz with rfl | rfl
      · exact nm _ hx
      · exact nm _ hy
  | @ch1 _ E A B r hd =>
    refine .plain (gw_choose (als := [("No", [], A), ("Yes", [], B)]) (by simp) (by simp [fams]) (fun a ha => ?_) (ht E (by simp)).gw) (by decide) (by decide)
    simp only [List.mem_cons, List.not_mem_nil, or_false] at ha
    rcases ha with rfl | rfl
    · exact ⟨by simp, by simp, by simp, sh_No.1, sh_No.2, (ht A (by simp)).gw⟩
    · exact ⟨by simp, by simp, by simp, sh_Yes.1, sh_Yes.2, (ht B (by simp)).gw⟩
  | @ch2 _ x y E A r hd hx hy hn =>
    refine .plain (gw_choose (als := [("Pair", [x, y], A)]) (by simp) (by simp [fams]) (fun a ha => ?_) (ht E (by simp)).gw) (by decide) (by decide)
    rw [List.mem_singleton] at ha
    subst ha
    refine ⟨by simp, fun z hz => ?_, by simpa using hn, sh_Pair.1, sh_Pair.2, (ht A (by simp)).gw⟩
    simp only [List.mem_cons, List.not_mem_nil, or_false] at hz
    rcases hz with rfl | rfl
    · exact nm _ hx
    · exact nm _ hy
  | @rows _ E zs h hl' =>
    obtain ⟨als, rfl, ho⟩ := als_of hps h
    have e : (als.map cvA).map stT = als.map spT := by rw [List.map_map]; rfl
    rw [e]
    refine .plain (gw_rows (by simpa using hl') (fun a ha => ⟨ho a ha, (ht _ ?_).gw⟩) (ht E (by simp)).gw) (by decide) (by decide)
    rw [List.map_map]
    exact List.mem_cons_of_mem _ (List.mem_map.mpr ⟨a, ha, rfl⟩)
def bnd : Nat → Nat
  | 0 => 4
  | k + 1 => 6 * bnd k + 30
theorem bnd_ge : ∀ k, 4 ≤ bnd k
  | 0 => Nat.le_refl _
  | k + 1 => by have := bnd_ge k; unfold bnd; omega
theorem Wt.gt {ps : List Str} (hps : ∀ x ∈ ps, isnm x) : ∀ {k : Nat} {t : T}, Wt ps k t → k ≤ 3 → GT (k + 1) k (bnd k) t
  | 0, t, h, _ => gw_leaf hps h 0
  | k + 1, t, h, hk => by
    rcases h with h | ⟨s, d, ts, hJ, ht⟩
    · exact (Wt.gt hps h (by omega)).mono (by omega) (by omega) (by show bnd k ≤ 6 * bnd k + 30; omega)
    · exact join_gt hps hJ (fun x hx => Wt.gt hps (ht x hx) (by omega)) (fun x hx => flat_mono x (Wt.flat (ht x hx)) (by omega)) (by omega) (bnd_ge k)
theorem tx_J2 : ∀ (r : List Str) {w : Str} {t : List Nat} {us : List Str} {ah g : Str}, Tx t us ah → Gp ah w g → (∀ x ∈ w :: r, gb x) → ∃ z, Tx (t ++ g.cps.toList ++ J2 (w :: r)) (us ++ w :: r) z
  | [], w, t, us, ah, g, h, hg, hb => ⟨w, by
    have := tx_step h hg (hb w (by simp))
    exact this⟩
  | v :: r, w, t, us, ah, g, h, hg, hb => by
    have h1 := tx_step h hg (hb w (by simp))
    have hg' : Gp w v (if w = "(" ∨ v = ")" then "" else " ") := by
      by_cases c : w = "(" ∨ v = ")"
      · rw [if_pos c]
        refine ⟨by decide, fun _ => ?_⟩
        rcases c with c | c
        · exact .inl (.inr (.inl c))
        · exact .inr (.inr (.inr c))
      · rw [if_neg c]
        exact ⟨by decide, fun e => absurd e (by decide)⟩
    obtain ⟨z, hz⟩ := tx_J2 r h1 hg' fun x hx => hb x (by simp [hx])
    refine ⟨z, ?_⟩
    have e : (if w = "(" ∨ v = ")" then ("" : Str) else " ").cps.toList = if w = "(" ∨ v = ")" then [] else [32] := by
      by_cases c : w = "(" ∨ v = ")"
      · rw [if_pos c, if_pos c]; rfl
      · rw [if_neg c, if_neg c]; rfl
    rw [e] at hz
    have e2 : t ++ g.cps.toList ++ J2 (w :: v :: r) = t ++ g.cps.toList ++ w.cps.toList ++ (if w = "(" ∨ v = ")" then [] else [32]) ++ J2 (v :: r) := by
      rw [J2]
      simp only [List.append_assoc]
    have e3 : us ++ w :: v :: r = us ++ [w] ++ v :: r := by simp
    rw [e2, e3]
    exact hz
theorem wds_J2 {ws : List Str} (h : ∀ x ∈ ws, gb x) : wds (fT (J2 ws)) = ws.map (fun w => w.cps.toList) := by
  cases ws with
  | nil => rfl
  | cons w r =>
    obtain ⟨z, hz⟩ := tx_J2 r (w := w) tx_0 (g := "") ⟨by decide, fun _ => .inl (.inl rfl)⟩ h
    exact hz.wd
section
variable {C : Hw} {Q : WK} {χ : WX} {n m f : Nat}
theorem s_read {x : Str} {τ : Tr} {t : T} (hm : 3 * f + 5 ≤ m) (hl : x.length ≤ 100000) (hw : wds (fT x.cps.toList) = (fl τ).map (fun w => w.cps.toList)) (hf : (fl τ).length ≤ 50000) (hg : Gt τ) (R : RT f τ t) (q : ∀ C', Ex C C' → Q t C') : wpc pr m i_read [.str x] C Q χ := by
  obtain ⟨m, rfl⟩ : ∃ k, m = k + 2 := ⟨m - 2, by omega⟩
  refine u_read rfl ?_
  unfold w_read
  walk_at "ws"
  refine ⟨true, by simp [tru, isCls], ?_⟩
  walk_at "ws"
  refine s_words_of hl hw fun p C1 hE1 hp hC1 => ?_
  refine s_tree_of hC1 hf (run_fl hg.nb [] []) fun v C2 hE2 hv => ?_
  exact R.at (by omega) hv fun C3 hE3 => q C3 ((hE1.trans hE2).trans hE3)
end
set_option Elab.async false
set_option linter.all false
set_option maxRecDepth 100000
set_option maxHeartbeats 4000000
open PySem PySem.Spec PyProof.Rows L2 WL
section
variable {C : Hw} {Q : WK} {χ : WX} {n : Nat}
theorem s_wrappedP {d : Int} {t : T} {a : Addr} {ps : List Str} (Pv : Nat → T → Prop) (h0 : 0 ≤ d) (ha : C a = some (.lst (ps.map T.str))) (hps : ps ≠ []) (hW : Pv 0 t) (hf : ∀ i t x, x ∈ ps → Pv i t → Pv (i + 1) (.tup [.str "fun", .str x, t]))
    (hc : ∀ i t u, Lf ps u → Pv i t → Pv (i + 1) (.tup [.str "call", t, u])) (hs : ∀ i t u, Lf ps u → Pv i t → Pv (i + 1) (.tup [.str "shape", .str "Cons", .tup [u, t]]))
    (q : ∀ t' i C', Ex C C' → i ≤ 11 → Pv i t' → Q t' C') : wpc pr (n + 2) i__law_wrapped [t, .int d, .ref a] C Q χ := by
  refine u__law_wrapped rfl ?_
  unfold w__law_wrapped
  walk_at "ws"
  have hpl : 0 < ps.length := List.length_pos_iff.mpr hps
  have pick : ∀ i : Int, ∃ x, atI (ps.map T.str) (i % ((ps.map T.str).length : Int)) = some (.str x) ∧ x ∈ ps := fun i => atT_strs (Int.emod_nonneg _ (by rw [List.length_map]; omega)) (by rw [List.length_map]; exact Int.emod_lt_of_pos _ (by omega))
  have hlp : (0 : Int) < ((ps.map T.str).length : Int) := by rw [List.length_map]; omega
  refine ⟨by omega, by omega, ?_⟩
  refine for_rng (fun i τ C' => ∃ x3 x4 t', τ = [some t', some (.int d), some (.ref a), x3, x4] ∧ Ex C C' ∧ Pv i t') ⟨none, none, t, rfl, Ex.refl _, hW⟩ (fun _ => trivial) ?_ ?_
  · rintro i τ C' N hi ⟨x3, x4, t', rfl, hE, hW'⟩ hN
    walk_at "ws"
    have ha' := hE _ _ ha
    refine ⟨.inl ⟨by decide, by decide⟩, ⟨by omega, by omega⟩, ite2 (fun c => ?_) fun c => ite2 (fun c => ?_) fun c => ?_⟩
    · obtain ⟨x, hx, mx⟩ := pick (d / (17 + (0 + (i : Int))))
      exact ⟨⟨by omega, by omega⟩, _, ha', hlp, _, ha', _, hx, hN _ _ ⟨_, _, _, rfl, hE, hf i t' x mx hW'⟩⟩
    · exact ⟨⟨by omega, by omega⟩, s_leaf (Int.ediv_nonneg h0 (by omega)) ha' hps fun t1 C2 hE2 hL => hN _ _ ⟨_, _, _, rfl, hE.trans hE2, hc i t' t1 hL hW'⟩⟩
    · exact ⟨⟨by omega, by omega⟩, s_leaf (Int.ediv_nonneg h0 (by omega)) ha' hps fun t1 C2 hE2 hL => hN _ _ ⟨_, _, _, rfl, hE.trans hE2, hs i t' t1 hL hW'⟩⟩
  · rintro τ C' ⟨x3, x4, t', rfl, hE, hW'⟩
    walk_at "ws"
    exact q _ _ _ hE (by omega) hW'
end
theorem J2L : ∀ {ws : List Str}, (∀ w ∈ ws, gw w = true) → (J2 ws).length ≤ 21 * ws.length
  | [], _ => by simp [J2]
  | [w], h => by
    have := gw_len (h w (by simp))
    have e : w.cps.toList.length = w.length := by simp [Str.length]
    show w.cps.toList.length ≤ _
    rw [e, List.length_singleton]; omega
  | w :: v :: r, h => by
    have := gw_len (h w (by simp))
    have e : w.cps.toList.length = w.length := by simp [Str.length]
    have ih := J2L (ws := v :: r) fun x hx => h x (by simp [hx])
    have e1 : (if w = "(" ∨ v = ")" then ([] : List Nat) else [32]).length ≤ 1 := by split <;> simp
    rw [J2, List.length_append, List.length_append]
    simp only [List.length_cons] at *
    omega
section
variable {C : Hw} {χ : WX}
theorem law_true (ns : List Int) (h63 : ns.length ≤ 63) : wpc pr 60 i_law [.cl (ns.map T.int)] (fun _ => none) (fun v _ => v = .bl true) (fun _ _ => False) := by
  refine u_law rfl ?_
  unfold w_law
  walk_at "ws"
  refine s_draws (m := 42) h63 (by decide) fun p ds hp hl hn => ?_
  walk_at "ws"
  obtain ⟨d1, g1, m1, e1, l1, s1⟩ := popL (ds := ds) (by omega)
  refine ⟨⟨_, up_same⟩, _, up_same, _, g1, ?_⟩
  rw [up_up, e1]
  refine s_name (hn _ m1) fun z1 C1 hE1 hz1 => ?_
  have hp1 := hE1 _ _ up_same
  walk_at "ws"
  obtain ⟨d2, g2, m2, e2, l2, s2⟩ := popL (ds := ds.dropLast) (by omega)
  refine ⟨⟨_, hp1⟩, _, hp1, _, g2, ?_⟩
  rw [e2]
  refine s_name (hn _ (s1 _ m2)) fun z2 C3 hE2 hz2 => ?_
  have hp3 := hE2 _ _ up_same
  walk_at "ws"
  obtain ⟨d3, g3, m3, e3, l3, s3⟩ := popL (ds := ds.dropLast.dropLast) (by omega)
  refine ⟨⟨_, hp3⟩, _, hp3, _, g3, ?_⟩
  rw [e3]
  refine s_name (hn _ (s1 _ (s2 _ m3))) fun z3 C4 hE3 hz3 => ?_
  have hp4 := hE3 _ _ up_same
  walk_at "ws"
  intro a ha
  have hna : ∀ x ∈ ds.dropLast.dropLast.dropLast, 0 ≤ x := fun x hx => hn _ (s1 _ (s2 _ (s3 _ hx)))
  have hla : ds.dropLast.dropLast.dropLast.length = 39 := by omega
  generalize ds.dropLast.dropLast.dropLast = es at hp4 hna hla
  have pa : p ≠ a := cne hp4 ha
  have hp5 : up C4 a (.lst [.str z1, .str z2, .str z3]) p = some (.lst (es.map T.int)) := by rw [up_ne pa]; exact hp4
  obtain ⟨d, r, rfl⟩ : ∃ d r, es = d :: r := by
    match es, hla with
    | d :: r, _ => exact ⟨d, r, rfl⟩
  refine ⟨⟨_, hp5⟩, _, hp5, _, seq0 (by simp), _, rfl, ?_⟩
  walk_at "ws"
  generalize hC6 : up (up C4 a (.lst [.str z1, .str z2, .str z3])) p (.lst (r.map T.int)) = C6
  have hp6 : C6 p = some (.lst (r.map T.int)) := by rw [← hC6]; exact up_same
  have ha6 : C6 a = some (.lst ([z1, z2, z3].map T.str)) := by rw [← hC6, up_ne pa.symm]; exact up_same
  have hps : ∀ x ∈ [z1, z2, z3], isnm x := fun x hx => by
    simp only [List.mem_cons, List.not_mem_nil, or_false] at hx
    rcases hx with rfl | rfl | rfl <;> assumption
  have hd0 : 0 ≤ d := hna d (by simp)
  refine s_term (ps := [z1, z2, z3]) (by simp) (by simp) pa.symm 3 (n := 51) ha6 hp6 (fun x hx => hna x (by simp [hx])) fun t C7 r' hE7 hp7 _ _ hW => ?_
  have ha7 := hE7 _ _ pa.symm ha6
  walk_at "ws"
  refine s_wrappedP (ps := [z1, z2, z3]) (fun i t => Wt [z1, z2, z3] (3 + i) t ∧ GT (4 + i) (3 + i) (2154 + 8 * i) t ∧ i ≤ 11 ∨ 11 < i) hd0 ha7 (by simp) (.inl ⟨hW, Wt.gt hps hW (by decide), by decide⟩) ?_ ?_ ?_ fun t' i C8 hE8 hi hP => ?_
  · rintro i t x hx (⟨hW, hP, hi⟩ | hi)
    · by_cases c : i = 11
      · exact .inr (by omega)
      · exact .inl ⟨.inr ⟨2, 0, [t], .fun_ hx, by simpa using hW⟩, (gt_fun (hps x hx) hP (by omega)).mono (by omega) (by omega) (by omega), by omega⟩
    · exact .inr (by omega)
  · rintro i t u hu (⟨hW, hP, hi⟩ | hi)
    · by_cases c : i = 11
      · exact .inr (by omega)
      · have hW' : Wt [z1, z2, z3] (3 + (i + 1)) (.tup [.str "call", t, u]) := .inr ⟨3, 0, [t, u], .call, fun x hx => by
          simp only [List.mem_cons, List.not_mem_nil, or_false] at hx
          rcases hx with rfl | rfl
          · exact hW
          · exact Wt.leaf hu _⟩
        exact .inl ⟨hW', (gt_call hP ((gw_leaf hps hu 0).gw.mono (by omega) (Nat.le_refl 4)) (by omega)).mono (by omega) (by omega) (by omega), by omega⟩
    · exact .inr (by omega)
  · rintro i t u hu (⟨hW, hP, hi⟩ | hi)
    · by_cases c : i = 11
      · exact .inr (by omega)
      · have hW' : Wt [z1, z2, z3] (3 + (i + 1)) (.tup [.str "shape", .str "Cons", .tup [u, t]]) := .inr ⟨5, 0, [u, t], .shape (by decide +kernel), fun x hx => by
          simp only [List.mem_cons, List.not_mem_nil, or_false] at hx
          rcases hx with rfl | rfl
          · exact Wt.leaf hu _
          · exact hW⟩
        refine .inl ⟨hW', .plain ((gw_shape (f := 4 + i) (L := 4) (K := 2154 + 8 * i) (by decide +kernel) (flat_mono u hu.flat (by omega)) (flat_mono t (Wt.flat hW) (by omega)) ((gw_leaf hps hu 0).gw.mono (by omega) (Nat.le_refl 4)) hP.gw).mono (by omega) (by omega)) (by decide) (by decide), by omega⟩
    · exact .inr (by omega)
  have hP2 : Wt [z1, z2, z3] (3 + i) t' ∧ GT (4 + i) (3 + i) (2154 + 8 * i) t' := by
    rcases hP with h | h
    · exact ⟨h.1, h.2.1⟩
    · omega
  obtain ⟨hW', hG⟩ := hP2
  obtain ⟨w0, r0, rfl⟩ := hG.tup
  obtain ⟨τ, ok⟩ := hG.gw
  have hfl := flat_mono _ (Wt.flat hW') (show 3 * (3 + i) + 2 ≤ 100 by omega)
  have hln := ok.ln
  have hgw : ∀ w ∈ fl τ, gw w = true := fun w hw => (ok.gt.gb w hw).gw
  have eJ : (shownS (fl τ)).cps.toList = J2 (fl τ) := shown_J2 hgw
  have hle : (shownS (fl τ)).length ≤ 90000 := by
    have := J2L hgw
    rw [← eJ] at this
    have e : (shownS (fl τ)).cps.toList.length = (shownS (fl τ)).length := by simp [Str.length]
    omega
  have hwd : wds (fT (shownS (fl τ)).cps.toList) = (fl τ).map (fun w => w.cps.toList) := by rw [eJ]; exact wds_J2 ok.gt.gb
  obtain ⟨k, hk⟩ := ok.pw
  walk_at "ws"
  refine s_show (n := 54) hk (by omega) hgw fun C9 hE9 => ?_
  walk_at "ws"
  refine s_read (f := 4 + i) (by omega) (by omega) hwd (by omega) ok.gt ok.rt fun C10 hE10 => ?_
  refine ⟨hfl, hfl, ?_⟩
  rw [if_neg (by decide), eqT_refl _ hfl]
  refine ⟨true, rfl, ?_⟩
  rw [if_pos rfl]
  refine s_read (f := 4 + i) (by omega) (by omega) hwd (by omega) ok.gt ok.rt fun C11 hE11 => ?_
  refine s_show (n := 54) hk (by omega) hgw fun C12 hE12 => ?_
  refine eqS (v := true) (beq_self_eq_true _) ?_
  rfl
end
end K17
set_option Elab.async false
set_option linter.all false
set_option maxRecDepth 100000
set_option maxHeartbeats 4000000
open PySem PySem.W PyProof.Rows
def PySem.W.Fast.tw637935307281638719 : Unit := ()
def PySem.W.Fast.tw5860647190231125877 : Unit := ()
def PySem.W.Fast.tw17435182743237131930 : Unit := ()
def PySem.W.Fast.tw4020847194580428719 : PySem.Program := PySem.Challenge.pw_idlegraph_k17_shown_and_read
theorem PySem.W.Fast.te4020847194580428719 : PySem.Challenge.pw_idlegraph_k17_shown_and_read = PySem.W.Fast.tw4020847194580428719 := rfl
def PySem.W.Fast.tw11585892739237523819 : Unit := ()
def PySem.W.Fast.tw15783512172742292411 : Unit := ()
def PySem.W.Fast.tw11061152490053256411 : Unit := ()
def PySem.W.Fast.tw12115860501910725437 : Unit := ()
def PySem.W.Fast.tw8111726227731697699 : Unit := ()
def PySem.W.Fast.tw14752809634780568798 : Unit := ()
def PySem.W.Fast.tw12959881014923528958 : Unit := ()
def PySem.W.Fast.tw5047600359538282837 : Unit := ()
def PySem.W.Fast.tw3630108568558900191 : Unit := ()
def PySem.W.Fast.tw7670847123774852481 : Unit := ()
def PySem.W.Fast.tw6136072184887124273 : Unit := ()
def PySem.W.Fast.tw2373956801642370973 : Unit := ()
def PySem.W.Fast.tw13912070877312376047 : Unit := ()
def PySem.W.Fast.tw378983719568665607 : Unit := ()
def PySem.W.Fast.tw12547032392849667233 : Unit := ()
def PySem.W.Fast.tw15577754689018589753 : Unit := ()
def PySem.W.Fast.tw10698749837846879731 : Unit := ()
set_option maxRecDepth 100000 in
set_option maxHeartbeats 0 in
theorem PySem.Challenge.cw_idlegraph_k17_shown_and_read_holds : PySem.Challenge.rw_idlegraph_k17_shown_and_read.Holds := by
  w_on; o_law; k_head; (case hw => w_witness2)
  k_fill
  refine L2.walk_ofK (l := PySem.Challenge.rw_idlegraph_k17_shown_and_read) (n := 63) (k := 60) (x := "_law_script") (CX := L2.CX0) (sp := fun K => WL.spW K K17.pr 60 36) rfl (by decide) rfl ⟨rfl, by decide, by decide⟩ (fun w h Y => PySem.W.kIn_of Y) ?F (fun K H a ns hl hO hS => WL.law_sp hO hS (K17.law_true ns hl)) (fun _ _ _ _ z => z)
  case F =>
    intro w mg fa h KX G hmg
    refine' K17.all_mk KX G hmg ?a0 ?l0 ?c0 ?k0 ?a1 ?l1 ?c1 ?k1 ?a2 ?l2 ?c2 ?k2 ?a3 ?l3 ?c3 ?k3 ?a4 ?l4 ?c4 ?k4 ?a5 ?l5 ?c5 ?k5 ?a6 ?l6 ?c6 ?k6 ?a7 ?l7 ?c7 ?k7 ?a8 ?l8 ?c8 ?k8 ?a9 ?l9 ?c9 ?k9 ?a10 ?l10 ?c10 ?k10 ?a11 ?l11 ?c11 ?k11 ?a12 ?l12 ?c12 ?k12 ?a13 ?l13 ?c13 ?k13 ?a14 ?l14 ?c14 ?k14 ?a15 ?l15 ?c15 ?k15 ?a16 ?l16 ?c16 ?k16 ?a17 ?l17 ?c17 ?k17 ?a18 ?l18 ?c18 ?k18 ?a19 ?l19 ?c19 ?k19 ?a20 ?l20 ?c20 ?k20 ?a21 ?l21 ?c21 ?k21 ?a22 ?l22 ?c22 ?k22 ?a23 ?l23 ?c23 ?k23 ?a24 ?l24 ?c24 ?k24 ?a25 ?l25 ?c25 ?k25 ?a26 ?l26 ?c26 ?k26 ?a27 ?l27 ?c27 ?k27 ?a28 ?l28 ?c28 ?k28 ?a29 ?l29 ?c29 ?k29 ?a30 ?l30 ?c30 ?k30 ?a31 ?l31 ?c31 ?k31 ?a32 ?l32 ?c32 ?k32 ?a33 ?l33 ?c33 ?k33 ?a34 ?l34 ?c34 ?k34 ?a35 ?l35 ?c35 ?k35 ?a36 ?l36 ?c36 ?k36 ?z_all ?z_int ?z_isinstance ?z_len ?z_list ?z_max ?z_range ?z_reversed ?z_set ?z_str ?z_tuple ?gg_FIGURES ?r_FIGURES ?gg_LETTERS ?r_LETTERS ?gk_WORDS ?gg_WORDS ?gk_OPS ?gg_OPS ?gg_SHAPES ?gk_SHAPES ?gl_SHAPES ?gg_MOST_FIGURES ?r_MOST_FIGURES ?gg_MOST_PAIRS ?r_MOST_PAIRS ?gk_FAMILIES_2 ?gk_FAMILIES_5 ?gk_FAMILIES_7 ?gk_FAMILIES ?gg_FAMILIES
    (case a0 => k_is)
    (case l0 => k_is)
    (case c0 => k_is)
    (case k0 => k_is)
    (case a1 => k_is)
    (case l1 => k_is)
    (case c1 => k_is)
    (case k1 => k_is)
    (case a2 => k_is)
    (case l2 => k_is)
    (case c2 => k_is)
    (case k2 => k_is)
    (case a3 => k_is)
    (case l3 => k_is)
    (case c3 => k_is)
    (case k3 => k_is)
    (case a4 => k_is)
    (case l4 => k_is)
    (case c4 => k_is)
    (case k4 => k_is)
    (case a5 => k_is)
    (case l5 => k_is)
    (case c5 => k_is)
    (case k5 => k_is)
    (case a6 => k_is)
    (case l6 => k_is)
    (case c6 => k_is)
    (case k6 => k_is)
    (case a7 => k_is)
    (case l7 => k_is)
    (case c7 => k_is)
    (case k7 => k_is)
    (case a8 => k_is)
    (case l8 => k_is)
    (case c8 => k_is)
    (case k8 => k_is)
    (case a9 => k_is)
    (case l9 => k_is)
    (case c9 => k_is)
    (case k9 => k_is)
    (case a10 => k_is)
    (case l10 => k_is)
    (case c10 => k_is)
    (case k10 => k_is)
    (case a11 => k_is)
    (case l11 => k_is)
    (case c11 => k_is)
    (case k11 => k_is)
    (case a12 => k_is)
    (case l12 => k_is)
    (case c12 => k_is)
    (case k12 => k_is)
    (case a13 => k_is)
    (case l13 => k_is)
    (case c13 => k_is)
    (case k13 => k_is)
    (case a14 => k_is)
    (case l14 => k_is)
    (case c14 => k_is)
    (case k14 => k_is)
    (case a15 => k_is)
    (case l15 => k_is)
    (case c15 => k_is)
    (case k15 => k_is)
    (case a16 => k_is)
    (case l16 => k_is)
    (case c16 => k_is)
    (case k16 => k_is)
    (case a17 => k_is)
    (case l17 => k_is)
    (case c17 => k_is)
    (case k17 => k_is)
    (case a18 => k_is)
    (case l18 => k_is)
    (case c18 => k_is)
    (case k18 => k_is)
    (case a19 => k_is)
    (case l19 => k_is)
    (case c19 => k_is)
    (case k19 => k_is)
    (case a20 => k_is)
    (case l20 => k_is)
    (case c20 => k_is)
    (case k20 => k_is)
    (case a21 => k_is)
    (case l21 => k_is)
    (case c21 => k_is)
    (case k21 => k_is)
    (case a22 => k_is)
    (case l22 => k_is)
    (case c22 => k_is)
    (case k22 => k_is)
    (case a23 => k_is)
    (case l23 => k_is)
    (case c23 => k_is)
    (case k23 => k_is)
    (case a24 => k_is)
    (case l24 => k_is)
    (case c24 => k_is)
    (case k24 => k_is)
    (case a25 => k_is)
    (case l25 => k_is)
    (case c25 => k_is)
    (case k25 => k_is)
    (case a26 => k_is)
    (case l26 => k_is)
    (case c26 => k_is)
    (case k26 => k_is)
    (case a27 => k_is)
    (case l27 => k_is)
    (case c27 => k_is)
    (case k27 => k_is)
    (case a28 => k_is)
    (case l28 => k_is)
    (case c28 => k_is)
    (case k28 => k_is)
    (case a29 => k_is)
    (case l29 => k_is)
    (case c29 => k_is)
    (case k29 => k_is)
    (case a30 => k_is)
    (case l30 => k_is)
    (case c30 => k_is)
    (case k30 => k_is)
    (case a31 => k_is)
    (case l31 => k_is)
    (case c31 => k_is)
    (case k31 => k_is)
    (case a32 => k_is)
    (case l32 => k_is)
    (case c32 => k_is)
    (case k32 => k_is)
    (case a33 => k_is)
    (case l33 => k_is)
    (case c33 => k_is)
    (case k33 => k_is)
    (case a34 => k_is)
    (case l34 => k_is)
    (case c34 => k_is)
    (case k34 => k_is)
    (case a35 => k_is)
    (case l35 => k_is)
    (case c35 => k_is)
    (case k35 => k_is)
    (case a36 => k_is)
    (case l36 => k_is)
    (case c36 => k_is)
    (case k36 => k_is)
    (case z_all => k_is)
    (case z_int => k_is)
    (case z_isinstance => k_is)
    (case z_len => k_is)
    (case z_list => k_is)
    (case z_max => k_is)
    (case z_range => k_is)
    (case z_reversed => k_is)
    (case z_set => k_is)
    (case z_str => k_is)
    (case z_tuple => k_is)
    (case gg_FIGURES => k_is)
    (case gg_LETTERS => k_is)
    (case gg_WORDS => k_is)
    (case gg_OPS => k_is)
    (case gg_SHAPES => k_is)
    (case gg_MOST_FIGURES => k_is)
    (case gg_MOST_PAIRS => k_is)
    (case gg_FAMILIES => k_is)
    (case gk_FAMILIES => k_is)
    (case gk_FAMILIES_7 => k_is)
    (case gk_FAMILIES_5 => k_is)
    (case gk_FAMILIES_2 => k_is)
    (case gk_SHAPES => k_is)
    (case gk_OPS => k_is)
    (case gk_WORDS => k_is)
    (case gl_SHAPES => exact rfl)
    (case r_FIGURES => exact ⟨_, rfl⟩)
    (case r_LETTERS => exact ⟨_, rfl⟩)
    (case r_MOST_FIGURES => exact ⟨_, rfl⟩)
    (case r_MOST_PAIRS => exact ⟨_, rfl⟩)
#print axioms PySem.Challenge.cw_idlegraph_k17_shown_and_read_holds